import PyProof.Rows.All
import Wide.All
import OpenK.AllK
import Wide.FinOn
import PyProof.EqAt
import PyProof.EqKinds
import PyProof.TupleCall
import Lean
import PySem.Challenge.RW_shutways_k28_whole_letters_tell_labels
set_option Elab.async false
set_option bootstrap.genMatcherCode false
set_option compiler.extract_closed false
set_option genSizeOf false
local macro_rules|`(command|def $x:declId $b:bracketedBinder*:$t $v:declVal)=>`(command|theorem $x:declId $b:bracketedBinder*:$t $v:declVal)
local macro_rules|`(command|abbrev $x:declId $s:optDeclSig $v:declVal)=>`(command|noncomputable def $x:declId $s:optDeclSig $v:declVal)
set_option linter.all false
set_option maxRecDepth 100000
open PySem.Str renaming ofString->gD
open Decidable renaming decide->gC
open Option renaming some->eM, none->eN
open Bool renaming true->eP, false->eQ
open PySem.W (Frag)
open Array renaming length_toList->ò, getElem?_eq_getElem->ý, getElem?_toList->Ă, getElem?_eq_some_iff->ľ, getElem?_eq_none->ϑ, getD->ϸ, toList->bW, toList_push->dM, toList_inj->eh
open Bool renaming false_ne_true->ö, false_eq_true->Ĭ, not_eq_true'->ŏ, true_and->ţ, and_eq_true_iff->ŭ, and_true->ω, eq_iff_iff->Ϟ, false_and->ϥ, or_false->Ϸ, not_not->az, and_false->bh, eq_false_iff->eC
open Char renaming toNat->ū
open False renaming elim->Ő
open ForInStep renaming yield->ŀ
open Function renaming comp_apply->b4
open Int renaming toNat_natCast->Ö, natCast_nonneg->Đ, emod_nonneg->Ě, emod_lt_of_pos->İ, le_refl->ĵ, sub_zero->cF, lt_of_lt_of_le->eL
open List renaming length_map->À, mem_cons->Æ, getElem?_eq_getElem->É, mem_append_right->Ê, getElem?_eq_some_iff->Ì, not_mem_nil->Í, map_cons->Î, size_toArray->Ð, replicate->Ñ, length_cons->Ò, mem_map->Ô, getElem?_map->Ø, mem_cons_of_mem->Ú, map_append->Û, mem_append_left->Þ, mem_singleton->á, mem_append->â, length_append->ã, lookup_cons->ä, nodup_append->å, mem_cons_self->æ, length_replicate->ì, map_map->í, mem_filter->ó, mem_of_getElem?->ô, mem_map_of_mem->ø, all_eq_true->û, nodup_cons->ü, length_take->ÿ, contains_iff_mem->ă, replicate_succ->Ą, getElem?_append_left->Ć, map_congr_left->Ċ, getElem?_append_right->č, getD_eq_getElem?_getD->Ď, append_nil->ď, filter_cons->đ, take_length->Ē, filterMap_cons->Ĕ, nodup_nil->ė, find?_cons->ę, getElem_mem->Ğ, length_range->ĥ, map_inj_left->Ħ, filter_sublist->ħ, length_nil->Ĩ, any_cons->ı, flatten_cons->ķ, append_assoc->ĸ, length_drop->Ľ, length_eraseIdx_of_lt->Ł, length_filter_le->ł, getElem?_eq_none->Ń, length_mergeSort->ń, foldl_cons->ŋ, mem_range->ŗ, getElem?_replicate->Ř, zip_cons_cons->ŝ, map_replicate->Ş, drop_eq_nil_of_le->ş, map_id->Ŭ, any_eq_true->ů, mem_flatMap->Ű, drop_eq_getElem_cons->ų, sum_cons->ŵ, mem_filterMap->Ź, mapM_cons->μ, take_add_one->ν, flatMap_cons->ξ, getElem?_set_ne->Α, lookup->Β, mergeSort_perm->Ζ, zip_nil_right->Λ, filterMap_map->Μ, zip_nil_left->Ψ, length_eq_zero_iff->Ϗ, getElem?_set_self->ϓ, map_nil->ϕ, take_of_length_le->ϙ, length_set->ϝ, length_take_le'->Ϧ, mergeSort->ϧ, length_pos_iff->ϳ, take_succ_cons->ϴ, pairwise_cons->aa, set_cons_succ->ab, set_cons_zero->ac, filter_append->ae, lookup_append->af, eraseIdxIfInBounds_toArray->aB, cons_append->aF, eq_nil_of_length_eq_zero->aK, of_mem_zip->aV, filter_nil->aW, perm_ext_iff_of_nodup->bj, length_filterMap_le->bM, map_take->bO, length_erase_of_mem->bR, mem_of_mem_eraseIdx->bS, pairwise_mergeSort->bY, getElem?_cons_succ->bZ, length_eraseIdx_le->b5, pairwise_lt_range->cf, filterMap_eq_map'->cj, mem_iff_getElem?->cE, set_append_left->cV, pairwise_append->cW, mem_of_mem_take->cX, filter_eq_self->dm, flatMap_append->dr, foldl->dG, append_of_mem->dO, take_sublist->d5
open List.MergeSort.Internal renaming splitInTwo->Η
open List.Sublist renaming refl->Ŵ
open List.cons renaming inj->ϟ
open Nat renaming lt_of_le_of_lt->Ë, le_refl->Ó, le_trans->Õ, lt_of_lt_of_le->è, ne_of_lt->é, lt_succ_self->ē, lt_irrefl->Ĥ, zero_le->ĳ, lt_succ_of_lt->Ĺ, le_of_ble_eq_true->Ň, le_succ->ő, zero_add->š, ne_of_gt->Ų, min_eq_left->ź, lt_trans->π, le_of_lt->Ι, succ_le_succ->ϐ, mul_comm->aC, min_le_right->aI, mul_le_mul_left->dJ
open Option renaming map_eq_some_iff->Ä, bind_eq_some_iff->ê, isSome_iff_exists->ë, bind_some->ú, isSome_map->ġ, map_some->Ŋ, not_isSome_iff_eq_none->Ś, map_map->ũ, isNone_iff_eq_none->a9, isSome_some->cU, getD_none->dF
open Option.some renaming inj->ñ, injEq->ĭ
open Prod.mk renaming injEq->χ
open PyProof.Rows renaming IntsAre->Ā, step_dedup->Ũ, kindOf->Ν, seqObj->ϊ, firstMet->ύ, AllBare->ϒ, envOfC->aH, firstMet_length_le->aL, IsTup->aY, Constant_none->dg, subscriptTail->dj, subscriptTail_builtinR->d8
open PySem renaming wpAny_bind->Á, Value->Ã, Shared->Ç, wpAny_pure->È, Addr->Ï, sizeLine->Ý, starEach->ß, model->à, Program->ç, compareOp->ï, World->þ, mainGlobals->ą, wpAny_newObj_type->ć, Heap->Ĉ, Around->ĉ, wpAny_truthy_bool->Č, foldedSetIterable->Ę, backTo->ě, wpAny_holding->Ĝ, attributeBase->ĝ, wpAny_loadPart'->ğ, assignEach->Ġ, wpAny_call_entry->Ģ, rawInt->ĩ, codeAny_builtin->Į, wpAny_mono->Ĳ, wpAny_Call_Name_kw->Ĵ, cLine->Ķ, wpAny_callSpecial?_slot->ĺ, argBest->Ļ, behindInMarks->Ņ, keywordEach->ņ, Stmt->ň, wpAny_setField->Ō, wpAny_ite_split->Œ, binaryOp->œ, FuncData->Ŕ, wpAny_field->ŕ, plainId_quiet->ř, holding->Ŝ, wpAny_seqItems->Š, sysModules->Ŧ, intKind->ŧ, wpAny_passesOwn->Ū, wpAny_setState_of->Ů, bootBuiltins->Ŷ, wpAny_askSetting->ŷ, wpAny_setEntries_of->Ż, backToKw->ſ, SetTable->η, tupleKind_room_in1->ρ, code->ς, swapsWith->υ, codeAny_mono->ψ, Scope->Γ, assign->Ε, sliceBounds->Κ, wpAny_updateSeq->Τ, PassesOwn->Ω, wpAny_tryCatch->ό, standAt->ϔ, wpAny_pyIter_list->ϖ, swapsWithSole->Ϛ, swappedStores->ϛ, pyNext->Ϝ, Operator->ϡ, getMethod->Ϣ, NameKind->ϣ, getItem->Ϩ, IsPart->ϩ, wpAny_typeOf->Ϫ, Keyword->ϫ, call_meets->Ϭ, wpAny_rule->ϭ, valueAt->Ϯ, call_meetsIn->ϯ, setsByText->ϰ, letOwnedTupleGo->ϲ, sizeLine_eq->ah, PyData->ai, firstArgMember->aj, wpAny_fieldsOf->al, unsupported->am, tupleKind->au, callerA->av, seqItems?->aw, scanBound->aA, wpAny_pyIter_tuple->aJ, setItem->aZ, seqIndex_neg->a8, fits_of_scanBound->bc, lastMarks->bx, Result->bz, noFill_tuple_add->bA, noteFrame->bB, wpAny_isInstance->bC, seqIndex_of->bK, wpAny_of_eq->bL, wpAny_letGo->bP, wpAny_execs_nil->bX, relabel->b9, GenState->cu, isTrue->cx, CmpOp->cy, callWith->cz, evalEach->cB, atKey->cC, argsOk->cD, isSubtype_type->cG, methodCallForm->cI, wpAny_standAt->dh, seq_tuple_add->di, wpAny_comprehension_free->dk, wpAny_newList->dq, bindC->dD, updateSeq->dL, drawOrder->dN, release->dZ, pyIter->d0, richCompare_meets_room->d6, concat_meets->d7, wpAny_getItem_list_neg->d9
open PySem.Around renaming under_plainId->ċ, under->bJ
open PySem.Builtin renaming iter->ž
open PySem.Builtin.Frozenset renaming sizeOf->cH
open PySem.Builtin.Str renaming strSliceIndices->Ρ
open PySem.Code renaming isFrame->b8
open PySem.FuncData.mk renaming injEq->bQ
open PySem.Heap renaming get?_push_of_some->Å, get?_push_size->Ù, lt_size->Ü, get?_update_other->ð, get?_update_self->Ė, SameBut->θ, size_push->ι, LeftW->dI
open PySem.Heap.SameBut renaming update->ā
open PySem.NameKind renaming free->Ī, cell->ee
open PySem.Obj renaming mapSeq->Ξ, data_mapFields->Ο, mapFields->ϋ, isFreed_of_fields->cT, putSet->eB
open PySem.PyData renaming eqv->ī, depthAll->ŉ, canLayAll0->Ţ, canLay0->ż, eqvAll->Χ
open PySem.SetTable renaming below->ļ, grown->Ϙ, has->bo, orStandIn->cg, slot->ej
open PySem.SetTable.below renaming go->bb
open PySem.SetTable.probe renaming go->ϗ
open PySem.Value renaming notImplemented->cA
open PySem.Value.type renaming inj->ax
open PySem.W renaming boot_heap->Ÿ, findIn->ak, boot_drawn->aM, SharedT->be, boot_toks->bD, mg_of->cJ, nsIn->eF, kitOne->eK
open PySem.pickOrder renaming go->bd
open String renaming ofList->Υ, singleton->ay, length_toList->ca, toList_ofList->cb, length_append->ce
open UInt32.toNat renaming inj->bN
def bAq(a b:Bool):((a&&b)=eP)=(a=eP/\b=eP):=Bool.and_eq_true a b
abbrev gw:=@if_pos
abbrev gx:=@if_neg
abbrev gy:=@decide_eq_false
abbrev gz:=@decide_eq_true
abbrev gA:=@decide_eq_true_eq
@[reducible] noncomputable def gB:=@absurd
local macro_rules|`(tactic|let $p:term:=$e)=>do
 let k:=`Lean.Parser.Tactic
 let n(c:Lean.Name)(a:Array Lean.Syntax):Lean.Syntax:=.node .none (k++c) a
 let m(s:Lean.Syntax):=if s.isIdent then n `rcasesPat.one #[s]else if s.isOfKind ``Lean.Parser.Term.hole then n `rcasesPat.ignore #[s[0]]else if s.isOfKind ``Lean.Parser.Term.anonymousCtor then n `rcasesPat.tuple #[s[0],Lean.mkNullNode (s[1].getArgs.map λx=>if x.isAtom then x else n `rcasesPatLo #[n `rcasesPatMed #[Lean.mkNullNode #[x]],Lean.mkNullNode]),s[2]]else s
 `(tactic|obtain $(⟨n `rcasesPatMed #[Lean.mkNullNode #[p.raw.rewriteBottomUp m]]⟩):rcasesPatMed:=$e)
local macro_rules|`(command|instance $x:declId:$t $v:declVal)=>do
 if t.raw.getId != `Fn then Lean.Macro.throwUnsupported
 `(command|noncomputable abbrev $x:declId:$t $v:declVal)
local macro_rules|`(⇑$h)=>`(by simpa using $h)
namespace L2
open PySem PySem.Spec PyProof.Rows
noncomputable abbrev Key:=Sum Int Str
abbrev JQ:Key->Ã->Bool
 |.inl k,v=>Value.isInt k v
 |.inr x,v=>Value.isStrOf x v
abbrev Sb(w:þ):Key->Int
 |.inl k=>hashInt k
 |.inr x=>hashStr w x
def Zp:∀{k:Key}{v:Ã},JQ k v=eP->(∃i t,k=Sum.inl i/\v=Value.int i t)\/(∃x t,k=Sum.inr x/\v=Value.str x t)
 |.inl i,v,h=>by let⟨t,e⟩:=Value.isInt_shape (k:=i) (v:=v) h;exact .inl ⟨i,t,rfl,e⟩
 |.inr x,v,h=>by let⟨t,e⟩:=Value.isStrOf_shape (x:=x) (v:=v) h;exact .inr ⟨x,t,rfl,e⟩
def AV(i:Int)(t:Tok):JQ (.inl i) (.int i t)=eP:=by simp[JQ,Value.isInt]
def Bb(x:Str)(t:Tok):JQ (.inr x) (.str x t)=eP:=by simp[JQ,Value.isStrOf]
def PZ(a b:Int):gC ((Sum.inl a:Key)=Sum.inl b)=(a==b):=by
 by_cases e:a=b
 .subst e;simp
 .have h:¬ (Sum.inl a:Key)=Sum.inl b:=λq=>e<|Sum.inl.inj q;rw[gy h];exact(beq_eq_false_iff_ne.mpr e).symm
def LP(a b:Str):gC ((Sum.inr a:Key)=Sum.inr b)=gC (a=b):=by
 by_cases e:a=b
 .subst e;simp
 .have h:¬ (Sum.inr a:Key)=Sum.inr b:=λq=>e<|Sum.inr.inj q;rw[gy h,gy e]
def LX(a:Int)(b:Str):gC ((Sum.inl a:Key)=Sum.inr b)=eQ:=gy (λq=>nomatch q)
def Ls(a:Str)(b:Int):gC ((Sum.inr a:Key)=Sum.inl b)=eQ:=gy (λq=>nomatch q)
abbrev Zj(prog:ç)(w:þ):PySem.KeyKind prog w Key where
 is:=JQ
 hash:=Sb w
 inj:=λv a b ha hb=>by
  rcases Zp ha with⟨i,t,rfl,rfl⟩|⟨x,t,rfl,rfl⟩
  .rcases Zp hb with⟨j,u,rfl,e⟩|⟨y,u,rfl,e⟩
   .injection e with e1 _;rw[e1]
   .exact nomatch e
  .rcases Zp hb with⟨j,u,rfl,e⟩|⟨y,u,rfl,e⟩
   .exact nomatch e
   .injection e with e1 _;rw[e1]
 byValue:=λk v h=>by rcases Zp h with⟨i,t,rfl,rfl⟩|⟨x,t,rfl,rfl⟩<;>rfl
 pyHash:=λhv h=>by
  rcases Zp hv with⟨i,t,rfl,rfl⟩|⟨x,t,rfl,rfl⟩
  .exact wpAny_pyHash_int h
  .exact wpAny_pyHash_str h
 eqBool:=λhu hv h=>by
  rcases Zp hu with⟨i,t,rfl,rfl⟩|⟨x,t,rfl,rfl⟩
  .rcases Zp hv with⟨j,u,rfl,rfl⟩|⟨y,u,rfl,rfl⟩
   .rw[PZ]at h;exact wpAny_eqBool_int h
   .rw[LX]at h;exact SeqAt.EqAt.int_str i t y u _ _ _ _ h
  .rcases Zp hv with⟨j,u,rfl,rfl⟩|⟨y,u,rfl,rfl⟩
   .rw[Ls]at h;exact SeqAt.EqAt.str_int x t j u _ _ _ _ h
   .rw[LP]at h;exact wpAny_eqBool_str h
 «strs»:=λk x t v h=>by
  rcases Zp h with⟨i,u,rfl,e⟩|⟨y,u,rfl,e⟩
  .exact nomatch e
  .injection e with e1 _;subst e1;cases v<;>rfl
def NR(prog:ç)(w:þ)(i:Int)(t:Tok):(Zj prog w).is (.inl i) (.int i t)=eP:=AV i t
def Oy(prog:ç)(w:þ)(x:Str)(t:Tok):(Zj prog w).is (.inr x) (.str x t)=eP:=Bb x t
inductive V where
 |non|bl (b:Bool)|int (i:Int)|str (x:Str)|byt (b:Array UInt8)|flt (b:UInt64)|ref (a:Ï)|ty (n:String)
 deriving DecidableEq
abbrev RelV:V->Ã->Prop
 |.non,u=>u=Value.none
 |.bl b,u=>u=Value.bool b
 |.int i,u=>∃t,u=Value.int i t
 |.str x,u=>∃t,u=Value.str x t
 |.byt b,u=>∃t,u=Value.bytes b t
 |.flt b,u=>∃t,u=Value.float b t
 |.ref a,u=>u=Value.ref a
 |.ty n,u=>u=Value.type n
@[reducible] noncomputable def gg:List V->List Ã->Prop:=Paired RelV
def gg.length{xs:List V}{us:List Ã}(r:gg xs us):xs.length=us.length:=Paired.length r
def gg.get:∀{xs:List V}{us:List Ã}{i:Nat}{x:V},gg xs us->xs[i]?=eM x->∃u,us[i]?=eM u/\RelV x u
 |_,_,_,_,.nil,e=>by simp at e
 |_,_,0,_,.cons r _,e=>by simp at e;subst e;exact⟨_,rfl,r⟩
 |_,_,i+1,x,.cons _ t,e=>by let⟨u,h1,h2⟩:=gg.get (i:=i) (x:=x) t ⇑e;exact⟨u,⇑h1,h2⟩
def gg.set{x:V}{u:Ã}(r:RelV x u):∀{xs:List V}{us:List Ã}(i:Nat),gg xs us->gg (xs.set i x) (us.set i u)
 |_,_,_,.nil=>.nil
 |_,_,0,.cons _ t=>.cons r t
 |_,_,i+1,.cons q t=>.cons q<|gg.set r i t
def gg.append:∀{xs ys:List V}{us ws:List Ã},gg xs us->gg ys ws->gg (xs++ys) (us++ws)
 |_,_,_,_,.nil,s=>s
 |_,_,_,_,.cons r t,s=>.cons r<|gg.append t s
def gg.take:∀{xs:List V}{us:List Ã}(n:Nat),gg xs us->gg (xs.take n) (us.take n)
 |_,_,0,_=>.nil
 |_,_,_+1,.nil=>.nil
 |_,_,n+1,.cons r t=>.cons r<|gg.take n t
def gg.drop:∀{xs:List V}{us:List Ã}(n:Nat),gg xs us->gg (xs.drop n) (us.drop n)
 |_,_,0,r=>r
 |_,_,_+1,.nil=>.nil
 |_,_,n+1,.cons _ t=>gg.drop n t
abbrev fx:Option V->Option Ã->Prop
 |some v,eM u=>RelV v u
 |none,eN=>True
 |_,_=>False
abbrev KV{κ:Type}:List (κ×V)->List (κ×Ã)->Prop:=Paired λ(p:κ×V) (q:κ×Ã)=>p.1=q.1/\RelV p.2 q.2
abbrev kV:Key->V
 |.inl i=>.int i
 |.inr x=>.str x
inductive HO where
 |lst (xs:List V)
 |tup (xs:List V)
 |dK (kvs:List<|Key×V)|dT (kvs:List<|List Key×V)
 |set (S:Int->Bool) (n:Nat)
 |ins (C dx:Ï) (fs:List<|Str×V)
 |own (x:Ï)
 |xd (fs:List<|Str×V)
 |met (f x:Ï)
 |rng (lo hi:Int)
 |frz (o:Obj) (u:HO)
 |tbl (ps:Array Ã)
 |ext (φ:Ĉ->Prop)
noncomputable abbrev Hp:=Ï->Option HO
abbrev upd(H:Hp)(a:Ï)(o:HO):Hp:=λb=>if b=a then eM o else H b
variable {H:Hp} {a:Ï} {o:HO}
def eS:upd H a o a=eM o:=by unfold upd;rw[gw rfl]
variable {b:Ï}
def eR(h:b≠a):upd H a o b=H b:=by unfold upd;rw[gx h]
variable {u:HO}
def eU:upd (upd H a o) a u=upd H a u:=by funext b;unfold upd;split<;>rfl
def Rf(h:H a=eM o)(h':H b=eM u)(d:o≠u):a≠b:=by intro e;subst e;rw[h]at h';exact d (ñ h')
def Zl(h:H a=eM o)(h':H b=eN):a≠b:=by intro e;subst e;rw[h]at h';cases h'
section
variable (P:ç) (w:þ)
abbrev fb(H:Hp)(h:Ĉ)(a:Ï):HO->Prop
 |.lst xs=>xs.length<=Ý/\∃(õ:List Ã) (n:Nat),gg xs õ/\h.get? a=eM {cls:=.type "list",data:=.seq õ.toArray n}
 |.tup xs=>xs.length<=Ý/\∃õ:List Ã,gg xs õ/\aY h a õ.toArray
 |.dK kvs=>kvs.length<=Ý/\(a==Ŧ)=eQ/\∃vs,KV kvs vs/\h.DictOf (Zj P w) a vs
 |.dT kvs=>kvs.length<=Ý/\(a==Ŧ)=eQ/\∃xs:List<|List Key×Ï×Ã,
   Paired (λ(p:List Key×V) (q:List Key×Ï×Ã)=>p.1=q.1/\H q.2.1=eM (.tup<|p.1.map kV)/\RelV p.2 q.2.2) kvs xs/\
   ∃o es ep,h.get? a=eM o/\o.ExactDict/\o.data=.dict es ep/\es.toList=xs.map (entryOfKey<|au<|Zj P w)/\(xs.map (·.1)).Nodup
 |.set S n=>h.SetOf (ŧ P w) a S n
 |.ins C dx fs=>H dx=eM (.own a)/\fs.length<=1000/\dx≠a/\h.get? a=eM (PySem.W.instObj C dx)/\
   ∃mA,h.Ns1 dx mA/\(∀f,fx (fs.lookup f)<|mA f)/\PySem.Within mA (fs.map (·.1))
 |.own _=>∃o,h.get? a=eM o
 |.xd fs=>∃mA,h.Ns1 a mA/\∀f,fx (fs.lookup f) (mA f)
 |.rng lo hi=>∃t u v,h.get? a=eM {cls:=.type "range",data:=.fields #[.int lo t,.int hi u,.int 1 v]}
 |.frz o u=>h.get? a=eM o/\fb H h a u
 |.tbl ps=>h.get? a=eM {cls:=.none,data:=.fields ps}
 |.met f x=>h.get? a=eM (PySem.W.methodObj (.ref f)<|.ref x)
 |.ext φ=>φ h/\(∃o,h.get? a=eM o)/\∀h1 h2:Ĉ,φ h1->(∀o,h1.get? a=eM o->h2.get? a=eM o)->φ h2
abbrev HOk(H:Hp)(h:Ĉ):Prop:=∀a o,H a=eM o->fb P w H h a o
end
section
variable {P:ç}{w:þ}{H H':Hp}{h h':Ĉ}{a:Ï}{o:HO}
def fb.lt(x:fb P w H h a o):a<h.objs.size:=by
 cases o with
 |lst xs=>let⟨_,_,_,_,e⟩:=x;exact Ü e
 |tup xs=>let⟨_,_,_,p⟩:=x;exact p.lt
 |dK kvs=>let⟨_,_,_,_,o,_,_,e,_⟩:=x;exact Ü e
 |dT kvs=>let⟨_,_,_,_,o,_,_,e,_⟩:=x;exact Ü e
 |set S n=>let⟨o,_,_,_,e,_⟩:=x;exact Ü e
 |ins C dx fs=>let⟨_,_,_,e,_⟩:=x;exact Ü e
 |own y=>let⟨_,e⟩:=x;exact Ü e
 |xd fs=>let⟨_,⟨_,_,_,e,_⟩,_⟩:=x;exact Ü e
 |rng lo hi=>let⟨_,_,_,e⟩:=x;exact Ü e
 |frz ob u=>let⟨e,_⟩:=x;exact Ü e
 |tbl ps=>exact Ü (show h.get? a=eM _ from x)
 |met f y=>exact Ü (show h.get? a=eM _ from x)
 |ext φ=>let⟨_,⟨_,e⟩,_⟩:=x;exact Ü e
def Paired.mapP{α β:Type}{F G:α->β->Prop}:∀{l₁:List α}{l₂:List β},Paired F l₁ l₂->(∀a b,F a b->G a b)->Paired G l₁ l₂
 |_,_,.nil,_=>.nil
 |_,_,.cons r t,f=>.cons (f _ _ r)<|Paired.mapP t f
def fb.stay(x:fb P w H h a o)(k:∀b u,(b=a\/H b=eM (.own a))->h.get? b=eM u->h'.get? b=eM u)
  (ho:∀b,H b=eM (.own a)->H' b=eM (.own a)) (ht:∀b xs,H b=eM (.tup xs)->H' b=eM (.tup xs)):fb P w H' h' a o:=by
 induction o with
 |lst xs=>let⟨z,õ,n,r,e⟩:=x;exact⟨z,õ,n,r,k _ _ (.inl rfl) e⟩
 |tup xs=>let⟨z,õ,r,ob,e,c⟩:=x;exact⟨z,õ,r,ob,k _ _ (.inl rfl) e,c⟩
 |dK kvs=>let⟨z,y,vs,r,ob,es,ep,e,c⟩:=x;exact⟨z,y,vs,r,ob,es,ep,k _ _ (.inl rfl) e,c⟩
 |dT kvs =>let⟨z,y,xs,r,ob,es,ep,e,c⟩:=x;exact⟨z,y,xs,Paired.mapP r λp q z=>⟨z.1,ht _ _ z.2.1,z.2.2⟩,ob,es,ep,k _ _ (.inl rfl) e,c⟩
 |set S n=>let⟨ob,es,ep,t,e,c⟩:=x;exact⟨ob,es,ep,t,k _ _ (.inl rfl) e,c⟩
 |ins C dx fs =>let⟨d,z,ne,e,mA,⟨od,es,ep,e2,c⟩,r⟩:=x;exact⟨ho _ d,z,ne,k _ _ (.inl rfl) e,mA,⟨od,es,ep,k _ _ (.inr d) e2,c⟩,r⟩
 |own y=>let⟨ob,e⟩:=x;exact⟨ob,k _ _ (.inl rfl) e⟩
 |xd fs=>let⟨mA,⟨od,es,ep,e,c⟩,r⟩:=x;exact⟨mA,⟨od,es,ep,k _ _ (.inl rfl) e,c⟩,r⟩
 |rng lo hi=>let⟨t,u,v,e⟩:=x;exact⟨t,u,v,k _ _ (.inl rfl) e⟩
 |frz ob u ih=>let⟨e,q⟩:=x;exact⟨k _ _ (.inl rfl) e,ih q⟩
 |tbl ps =>have e:h.get? a=eM {cls:=.none,data:=.fields ps}:=x;show h'.get? a=eM {cls:=.none,data:=.fields ps};exact k a _ (.inl rfl) e
 |met f y =>have e:h.get? a=eM (PySem.W.methodObj (.ref f)<|.ref y):=x;show h'.get? a=eM (PySem.W.methodObj (.ref f)<|.ref y);exact k a _ (.inl rfl) e
 |ext φ=>let⟨p,⟨o,e⟩,st⟩:=x;exact⟨st _ _ p λo q=>k _ _ (.inl rfl) q,⟨o,k _ _ (.inl rfl) e⟩,st⟩
def HOk.lt(x:HOk P w H h)(e:H a=eM o):a<h.objs.size:=(x a o e).lt
def HOk.fresh(x:HOk P w H h)(e:h.objs.size<=a):H a=eN:=by
 cases q:H a with
 |none=>rfl
 |some u=>exact gB (è (x.lt q) e)<|Ĥ _
def HOk.kept(x:HOk P w H h)(k:∀b u,h.get? b=eM u->h'.get? b=eM u):HOk P w H h':=λa o e =>
 (x a o e).stay (λb u _ q=>k b u q) (λ_ q=>q) λ_ _ q=>q
def HOk.laid(x:HOk P w H h)(k:∀b u,h.get? b=eM u->h'.get? b=eM u)(hp:h.objs.size<=a)(new:fb P w (upd H a o) h' a o):HOk P w (upd H a o) h':=λb u e=>by
 have hn:=x.fresh hp;by_cases hb:b=a
 .subst hb;rw[eS]at e;cases e;exact new
 .rw[eR hb]at e;exact(x b u e).stay (λc v _ q=>k c v q) (λc q=>by rw[eR<|Zl q hn];exact q) λc xs q=>by rw[eR<|Zl q hn];exact q
end
abbrev Rd(H:Hp)(a:Ï)(u:HO):Prop:=H a=eM u\/∃o,H a=eM (.frz o u)
variable {h:Ĉ}
def Rd.ok{P:ç}{w:þ}(r:Rd H a u)(x:HOk P w H h):fb P w H h a u:=by
 rcases r with r|⟨o,r⟩
 .exact x a u r
 .obtain⟨_,q⟩:=x a _ r;exact q
abbrev Mut:Option HO->Prop
 |some (.lst _)=>True
 |some (.dK _)=>True
 |some (.dT _)=>True
 |some (.set _ _)=>True
 |some (.ins _ _ _)=>True
 |some (.ext _)=>True
 |_=>False
section
variable {P:ç}{w:þ}{H:Hp}{h h':Ĉ}{x e:Ï}{o':HO}
def HOk.write(ok:HOk P w H h)(mu:Mut<|H x)(he:e=x\/H e=eM (.own x))(k:∀b u,b≠e->h.get? b=eM u->h'.get? b=eM u)(heo:∃u,h'.get? e=eM u)
  (new:fb P w (upd H x o') h' x o'):HOk P w (upd H x o') h':=λb u q=>by
 have nown:∀c y,H c=eM (.own y)->c≠x:=λc y r z=>by subst z;rw[r]at mu;exact mu
 have ntup:∀c xs,H c=eM (.tup xs)->c≠x:=λc xs r z=>by subst z;rw[r]at mu;exact mu
 by_cases hb:b=x
 .subst hb;rw[eS]at q;cases q;exact new
 .rw[eR hb]at q;by_cases hbe:b=e
  .have q':H b=eM (.own x):=by
    rcases he with z|z
    .exact gB (hbe.trans z) hb
    .rw[hbe];exact z
   rw[q]at q';cases q';let⟨v,hv⟩:=heo;exact⟨v,by rw[hbe];exact hv⟩
  .refine(ok b u q).stay (λc v hc r=>k c v ?_ r) (λc r=>by rw[eR<|nown c b r];exact r) λc xs r=>by rw[eR<|ntup c xs r];exact r
   rcases hc with rfl|hc
   .exact hbe
   .rintro rfl;rcases he with z|z
    .exact nown c b hc z
    .rw[hc]at z;cases z;exact hb rfl
end
structure Un(fs ex:List Ï)(H H':Hp)(h h':Ĉ):Prop where
 keep:∀b o,h.get? b=eM o->H b=eN->b∉fs->b∉ex->h'.get? b=eM o
 slot:∀b o,h.get? b=eM o->H b=eN->b∈fs->b∉ex->∃sl,h'.get? b=eM {o with slots:=sl}
 free:∀b o,h.get? b=eM o->H b=eN->b∉ex->H' b=eN
 there:∀b o,h.get? b=eM o->b∉ex->∃o',h'.get? b=eM o'
 tups:∀b xs,H b=eM (.tup xs)->H' b=eM (.tup xs)
 frzs:∀b o u,H b=eM (.frz o u)->H' b=eM (.frz o u)
 tbls:∀b ps,H b=eM (.tbl ps)->∃more,H' b=eM (.tbl<|ps++more)
section
variable {fs fs' ex ex':List Ï}{H H1 H2:Hp}{h h1 h2 h':Ĉ}{a x e:Ï}{o:HO}
def Un.any(u:Un fs ex H H1 h h1){ob:Obj}(q:h.get? b=eM ob)(n:H b=eN)(hx:b∉ex):∃sl,h1.get? b=eM {ob with slots:=sl}:=by
 by_cases hb:b∈fs
 .exact u.slot b ob q n hb hx
 .exact⟨ob.slots,u.keep b ob q n hb hx⟩
def Un.kept(k:∀b u,h.get? b=eM u->h'.get? b=eM u):Un fs ex H H h h' :=
 ⟨λb ob q _ _ _=>k b ob q,λb ob q _ _ _=>⟨ob.slots,k b ob q⟩,λ_ _ _ n _=>n,λb ob q _=>⟨ob,k b ob q⟩,λ_ _ q=>q,λ_ _ _ q=>q,λ_ ps q=>⟨#[],by rw[q];simp⟩⟩
def Un.refl:Un fs ex H H h h:=Un.kept λ_ _ q=>q
def Un.laid(k:∀b u,h.get? b=eM u->h'.get? b=eM u)(hp:h.objs.size<=a)(hn:H a=eN):Un fs ex H (upd H a o) h h' where
 keep:=λb u q _ _ _=>k b u q
 slot:=λb u q _ _ _=>⟨u.slots,k b u q⟩
 free:=λb u q n _=>by rw[eR<|é<|è (Ü q) hp];exact n
 there:=λb u q _=>⟨u,k b u q⟩
 tups:=λb xs q=>by rw[eR<|Zl q hn];exact q
 frzs:=λb u xs q=>by rw[eR<|Zl q hn];exact q
 tbls:=λb ps q=>⟨#[],by rw[eR<|Zl q hn,q];simp⟩
def Un.write(mu:Mut<|H x)(he:e=x\/H e=eM (.own x))(k:∀b u,b≠e->h.get? b=eM u->h'.get? b=eM u)(heo:∃u,h'.get? e=eM u):Un fs ex H (upd H x o) h h':=by
 have hx:∀b,H b=eN->b≠x:=λb n z=>by subst z;rw[n]at mu;exact mu
 have hb:∀b,H b=eN->b≠e:=λb n z=>by
  subst z;rcases he with r|r
  .exact hx b n r
  .rw[n]at r;cases r
 have hm:∀b u,H b=eM u->¬ Mut (eM u)->b≠x:=λb u q nm z=>by subst z;rw[q]at mu;exact nm mu
 refine⟨λb u q n _ _=>k b u (hb b n) q,λb u q n _ _=>⟨u.slots,k b u (hb b n) q⟩,λb u q n _=>by rw[eR<|hx b n];exact n,λb u q _=>?_,
   λb xs q=>by rw[eR<|hm b _ q λz=>z];exact q,λb u xs q=>by rw[eR<|hm b _ q λz=>z];exact q,λb ps q=>⟨#[],by rw[eR<|hm b _ q λz=>z,q];simp⟩⟩
 by_cases hbe:b=e
 .subst hbe;exact heo
 .exact⟨u,k b u hbe q⟩
end
abbrev trk(h:Ĉ)(H:Hp):List Ï:=(List.range h.objs.size).filter λa=>(H a).isSome
abbrev Ny(h:Ĉ)(H:Hp):Ĉ:=PySem.W.hideAll h<|trk h H
def Bt(h:Ĉ)(H:Hp):(Ny h H).objs.size=h.objs.size:=PySem.W.hideAll_size _ _
def Dj{o:Obj}(e:h.get? b=eM o)(n:H b=eN):(Ny h H).get? b=eM o :=
 PySem.W.hideAll_get _ e λhm=>by have q:(H b).isSome=eP:=(ó.mp hm).2;rw[n]at q;simp at q
def Hr{o:Obj}(e:(Ny h H).get? b=eM o):h.get? b=eM o/\H b=eN:=by
 have e':h.get? b=eM o:=PySem.W.of_hideAll (trk h H) e;refine⟨e',?_⟩;cases q:H b with
 |none=>rfl
 |some x =>have hm:b∈trk h H:=ó.mpr ⟨ŗ.mpr<|Ü e',by simp[q]⟩;have z:(Ny h H).get? b=eN:=PySem.W.hideAll_none (trk h H) hm;rw[z]at e;cases e
abbrev F3(g h:Ĉ)(L:Ï):List<|Ï×Obj:=(List.range h.objs.size).filterMap λa=>if a=L\/(g.get? a).isSome=eP then eN else(h.get? a).map λo=>(a,o)
abbrev rest(g h:Ĉ)(L d:Ï):List<|Ï×Obj:=(F3 g h L).filter λp=>gC (p.1≠d)
structure Mod(K:Frag)(mg:Str->Option Ã)(base:Ĉ):Prop where
 kin:K.In base
 glob:base.Ns ą mg
 blt:∃mb,base.Ns builtinsNs mb/\∀x:Str,x≠"__name__"->mb x=Ŷ x
 nolimit:base.NoLimit
structure Cx where
 prog:ç
 w:þ
 K:Frag
 mg:Str->Option Ã
 base:Ĉ
 A:ĉ
 N:List Str
 s₀:Ç
 H₀:Hp
 env:Env
 outer:List Env
 stack:List Env
 ex:List Ï
 fn:Str->Bool
 calm:Bool
 pn:List<|Ï×Obj
 xe:Ã->Ç->Prop
abbrev frs(l:List Env):List Ï:=l.filterMap (·.frame)
noncomputable abbrev Cx.fs(X:Cx):List Ï:=frs X.outer
abbrev Vis(sc:Γ)(x:Str):Prop:=sc.names.lookup x=eM .local\/sc.names.lookup x=eM .cell\/sc.names.lookup x=eM .free
abbrev Loc(sc:Γ)(x:Str):Prop:=sc.names.lookup x=eM .local\/sc.names.lookup x=eM .cell
abbrev R5(env:Env)(h:Ĉ)(m:Str->Option Ã)(x:Str)(u:Ã):Prop :=
 (env.kindOf x=eM .local/\m x=eM u)\/((env.kindOf x=eM .cell\/env.kindOf x=eM .free)/\∃c,env.cells.lookup x=eM c/\h.IsCell c (eM u))
structure Cx.Ok(X:Cx):Prop where
 mod:Mod X.K X.mg X.base
 kind:X.env.scope.kind=.function
 glob:X.env.globals=ą
 blt:X.env.builtins=builtinsNs
 above:X.s₀.heap.objs.size<=X.env.locals
 inj:∀x y c,X.env.cells.lookup x=eM c->X.env.cells.lookup y=eM c->x=y
 has:∀x,(X.env.kindOf x=eM .cell\/X.env.kindOf x=eM .free)->∃c,X.env.cells.lookup x=eM c
 cab:∀x c,X.fn x=eP->X.env.cells.lookup x=eM c->X.s₀.heap.objs.size<=c
 hd:X.calm=eP->X.A.handled=eN
 frames:X.A.frames=eM X.stack
 stk:X.stack=X.outer\/(X.stack=X.env::X.outer/\X.env.frame=eM X.env.locals)
 exf:∀b∈X.ex,b≠X.env.locals/\∀x c,X.env.cells.lookup x=eM c->c≠b
 bs:∀b o,X.base.get? b=eM o->X.s₀.heap.get? b=eM o/\X.H₀ b=eN
 bsz:X.base.objs.size<=X.s₀.heap.objs.size
 noex:∀b o,X.base.get? b=eM o->b∉X.ex
 exfs:∀b∈X.ex,b∉X.fs
 funs:X.s₀.heap.FunFrames X.base X.outer
 frf:∀b∈X.fs,X.H₀ b=eN
structure Inv(X:Cx)(Â:List<|Ï×Obj)(σ:List<|Option V)(H:Hp)(s:Ç):Prop where
 ok:X.Ok
 os:s.os=X.s₀.os
 bare:ϒ s.gens
 base:Un X.fs X.ex X.H₀ H X.s₀.heap s.heap
 loc:∃m,s.heap.Ns X.env.locals m/\∀(i:Nat) (x:Str) (v:V),X.N[i]?=eM x->σ[i]?=eM (eM v)->Vis X.env.scope x->∃u,RelV v u/\R5 X.env s.heap m x u
 cell:∀x c,X.env.cells.lookup x=eM c->∃v,s.heap.IsCell c v
 free:H X.env.locals=eN
 freeC:∀x c,X.env.cells.lookup x=eM c->H c=eN
 pin:∀p∈X.pn++Â,s.heap.get? p.1=eM p.2/\H p.1=eN/\p.1≠X.env.locals/\p.1∉X.fs/\∀v,p.2.data≠.cell v
 hok:HOk X.prog X.w H s.heap
 len:σ.length=X.N.length
section
variable {X:Cx}{Â:List (Ï×Obj)}{σ:List (Option V)}{H H':Hp}{s:Ç}{h':Ĉ}
def Cx.Ok.nofr(ok:X.Ok){b:Ï}{o:Obj}(e:X.base.get? b=eM o):b∉X.fs:=λhb=>by have:=(ok.funs.mem hb).1;rw[e]at this;cases this
def Inv.bs(I:Inv X Â σ H s):∀b o,X.base.get? b=eM o->s.heap.get? b=eM o/\H b=eN:=λb o e =>
 ⟨I.base.keep b o (I.ok.bs b o e).1 (I.ok.bs b o e).2 (I.ok.nofr e)<|I.ok.noex b o e,I.base.free b o (I.ok.bs b o e).1 (I.ok.bs b o e).2<|I.ok.noex b o e⟩
def Inv.bk(I:Inv X Â σ H s):∀b o,X.base.get? b=eM o->s.heap.get? b=eM o:=λb o e=>(I.bs b o e).1
def Inv.mod(I:Inv X Â σ H s):Mod X.K X.mg X.base:=I.ok.mod
def Inv.kIn(I:Inv X Â σ H s):X.K.In s.heap:=I.ok.mod.kin.keeps I.bk
def Inv.lt(I:Inv X Â σ H s):X.env.locals<s.heap.objs.size:=let ⟨_,hn,_⟩:=I.loc;hn.lt
def Inv.sz(I:Inv X Â σ H s):X.s₀.heap.objs.size<=s.heap.objs.size:=Õ I.ok.above (Ι I.lt)
variable {a:Ï}
def Inv.nofs(I:Inv X Â σ H s)(h:s.heap.objs.size<=a):a∉X.fs:=λhb=>by let⟨_,o,ho,_⟩:=I.ok.funs.mem hb;exact gB (è (Ü ho)<|Õ I.sz h) (Ĥ _)
def Inv.cne(I:Inv X Â σ H s):∀x c,X.env.cells.lookup x=eM c->c≠X.env.locals:=λx c e z=>by let⟨v,o,ho,hd⟩:=I.cell x c e;let⟨m,⟨o',es,ep,aG,hd',_⟩,_⟩:=I.loc;rw[z,aG]at ho;cases ho;rw[hd']at hd;cases hd
def Inv.funs(I:Inv X Â σ H s):s.heap.FunFrames X.base X.outer:=by
 have all:∀(l:List Env),(∀b∈frs l,b∈X.fs)->X.s₀.heap.FunFrames X.base l->s.heap.FunFrames X.base l:=by
  intro l;induction l with
  |nil=>intro _ _;trivial
  |cons env r ih =>intro hs hl;let⟨hk,⟨L,o,hf,hn,ho,hd⟩,hr⟩:=hl;have hL:L∈X.fs:=hs L (by unfold frs;rw[Ĕ,hf];exact æ);let⟨sl,e⟩:=I.base.slot L o ho (I.ok.frf L hL) hL λz=>I.ok.exfs L z hL;exact⟨hk,⟨L,_,hf,hn,e,hd⟩,ih (λb hb=>hs b<|by unfold frs;rw[Ĕ,hf];exact Ú _ hb) hr⟩
 exact all X.outer (λ_ hb=>hb) I.ok.funs
def Inv.stack(I:Inv X Â σ H s):s.heap.FunFrames X.base X.stack:=by
 rcases I.ok.stk with e|⟨e,hf⟩
 .rw[e];exact I.funs
 .rw[e];let⟨m,hn,_⟩:=I.loc;refine .cons (by rw[I.ok.kind];decide) hf hn ?_ I.funs;exact Heap.get?_none_of_le<|Õ I.ok.bsz I.ok.above
def Inv.stkSub(I:Inv X Â σ H s):∀b∈frs X.stack,b∈X.env.locals::X.fs:=λb hb=>by
 rcases I.ok.stk with e|⟨e,hf⟩
 .rw[e]at hb;exact Ú _ hb
 .rw[e]at hb;unfold frs at hb;rw[Ĕ,hf]at hb;exact hb
def Inv.stkFree(I:Inv X Â σ H s):∀b∈frs X.stack,H b=eN:=λb hb=>by
 rcases Æ.mp (I.stkSub b hb)with e|hb
 .rw[e];exact I.free
 .obtain⟨_,o,ho,_⟩:=I.ok.funs.mem hb;exact I.base.free b o ho (I.ok.frf b hb) λz=>I.ok.exfs b z hb
variable {g':Array cu} {t':Nat} {d':Drawn} {ch:List Ï}
def Inv.step(I:Inv X Â σ H s)
  (hch:∀b∈ch,(b∈X.ex\/X.s₀.heap.objs.size<=b)/\b≠X.env.locals/\(∀x c,X.env.cells.lookup x=eM c->c≠b)/\∀p∈X.pn++Â,p.1≠b)
  (keep:∀b o,b≠X.env.locals->b∉X.fs->b∉ch->s.heap.get? b=eM o->H b=eN->h'.get? b=eM o)
  (slot:∀b o,b≠X.env.locals->b∈X.fs->b∉ch->s.heap.get? b=eM o->H b=eN->∃sl,h'.get? b=eM {o with slots:=sl}) (free:∀b o,b∉ch->s.heap.get? b=eM o->H b=eN->H' b=eN)
  (there:∀b o,b∉ch->s.heap.get? b=eM o->∃o',h'.get? b=eM o')
  (tups:∀b xs,H b=eM (.tup xs)->H' b=eM (.tup xs)) (frzs:∀b o u,H b=eM (.frz o u)->H' b=eM (.frz o u)) (tbls:∀b ps,H b=eM (.tbl ps)->∃more,H' b=eM (.tbl<|ps++more))
  (ns:∀m,s.heap.Ns X.env.locals m->h'.Ns X.env.locals m) (hok:HOk X.prog X.w H' h') (hg:ϒ g') :
  Inv X Â σ H' {s with heap:=h',gens:=g',drawn:=d',toks:=t'}:=by
 have neL:∀b o,X.s₀.heap.get? b=eM o->b≠X.env.locals:=λb o e=>é<|è (Ü e) I.ok.above;have neC:∀b o,X.s₀.heap.get? b=eM o->b∉X.ex->b∉ch:=λb o e hx hb=>by
  rcases (hch b hb).1 with z|z
  .exact hx z
  .exact gB (è (Ü e) z)<|Ĥ _
 have cellK:∀x c,X.env.cells.lookup x=eM c->∀v,s.heap.IsCell c v->h'.IsCell c v:=λx c e v ⟨o,ho,hd⟩=>by
  have nch:c∉ch:=λz=>(hch c z).2.2.1 x c e rfl;by_cases hc:c∈X.fs
  .obtain⟨sl,q⟩:=slot c o (I.cne x c e) hc nch ho<|I.freeC x c e;exact⟨_,q,hd⟩
  .exact⟨o,keep c o (I.cne x c e) hc nch ho<|I.freeC x c e,hd⟩
 refine⟨I.ok,I.os,hg,⟨λb o e n hb hx=>?_,λb o e n hb hx=>?_,λb o e n hx=>?_,λb o e hx=>?_,λb xs e=>tups b xs<|I.base.tups b xs e,λb o xs e=>frzs b o xs<|I.base.frzs b o xs e,λb ps e=>?_⟩,?_,λx c e=>?_,?_,λx c e=>?_,λp hp=>?_,hok,I.len⟩
 .exact keep b o (neL b o e) hb (neC b o e hx) (I.base.keep b o e n hb hx)<|I.base.free b o e n hx
 .obtain⟨sl,e1⟩:=I.base.slot b o e n hb hx;let⟨sl',e2⟩:=slot b _ (neL b o e) hb (neC b o e hx) e1<|I.base.free b o e n hx;exact⟨sl',e2⟩
 .obtain⟨o',e1⟩:=I.base.there b o e hx;exact free b o' (neC b o e hx) e1<|I.base.free b o e n hx
 .obtain⟨o',e1⟩:=I.base.there b o e hx;exact there b o' (neC b o e hx) e1
 .obtain⟨m1,e1⟩:=I.base.tbls b ps e;let⟨m2,e2⟩:=tbls b _ e1;exact⟨m1++m2,by rw[e2,Array.append_assoc]⟩
 .obtain⟨m,hn,hl⟩:=I.loc;refine⟨m,ns m hn,λi x v e1 e2 e3=>?_⟩;let⟨u,r,l⟩:=hl i x v e1 e2 e3;refine⟨u,r,?_⟩;rcases l with l|⟨k,c,e,z⟩
  .exact .inl l
  .exact .inr ⟨k,c,e,cellK x c e _ z⟩
 .obtain⟨v,z⟩:=I.cell x c e;exact⟨v,cellK x c e v z⟩
 .obtain⟨m,⟨o,_,_,ho,_⟩,_⟩:=I.loc;exact free _ o (λz=>(hch _ z).2.1 rfl) ho I.free
 .obtain⟨v,o,ho,hd⟩:=I.cell x c e;exact free c o (λz=>(hch c z).2.2.1 x c e rfl) ho<|I.freeC x c e
 .obtain⟨e,n,ne,nf,d⟩:=I.pin p hp;have nch:p.1∉ch:=λz=>(hch p.1 z).2.2.2 p hp rfl;exact⟨keep p.1 p.2 ne nf nch e n,free p.1 p.2 nch e n,ne,nf,d⟩
def Inv.un(I:Inv X Â σ H s)(u:Un X.fs [] H H' s.heap h')(hok:HOk X.prog X.w H' h'):Inv X Â σ H' {s with heap:=h',toks:=t'}:=by
 let⟨m,⟨o,es,ep,ho,r⟩,_⟩:=id I.loc;let⟨sl,hL⟩:=u.any ho I.free (by simp);exact I.step (g':=s.gens) (d':=s.drawn) (ch:=[]) (λ_ z=>nomatch z) (λb o _ hb _ e n=>u.keep b o e n hb<|by simp) (λb o _ hb _ e n=>u.slot b o e n hb<|by simp) (λb o _ e n=>u.free b o e n<|by simp) (λb o _ e=>u.there b o e<|by simp) u.tups u.frzs u.tbls (λm' hm=>by
   let⟨o',es',ep',aG,r'⟩:=hm
   rw[ho]at aG;cases aG
   exact⟨_,es',ep',hL,r'⟩) hok I.bare
def Inv.call(I:Inv X Â σ H s)(u:Un (frs X.stack) ch H H' s.heap h')(hok:HOk X.prog X.w H' h')(hg:ϒ g')
  (hch:∀b∈ch,(b∈X.ex\/X.s₀.heap.objs.size<=b)/\b≠X.env.locals/\(∀x c,X.env.cells.lookup x=eM c->c≠b)/\∀p∈X.pn++Â,p.1≠b) :
  Inv X Â σ H' {s with heap:=h',gens:=g',drawn:=d',toks:=t'}:=by
 let⟨m,⟨o,es,ep,ho,r⟩,_⟩:=id I.loc;let⟨sl,hL⟩:=u.any ho I.free λz=>(hch _ z).2.1 rfl;exact I.step (ch:=ch) hch (λb o hL hb hc e n=>u.keep b o e n (λz=>(Æ.mp<|I.stkSub b z).elim hL hb) hc) (λb o _ _ hc e n=>u.any e n hc) (λb o hc e n=>u.free b o e n hc) (λb o hc e=>u.there b o e hc) u.tups u.frzs u.tbls (λm' hm=>by
   let⟨o',es',ep',aG,r'⟩:=hm
   rw[ho]at aG;cases aG
   exact⟨_,es',ep',hL,r'⟩) hok hg
def Inv.turned{it:Ï}(I:Inv X Â σ H s)(k:∀b o,b≠it->s.heap.get? b=eM o->h'.get? b=eM o)(hn:H it=eN)(hL:it≠X.env.locals)
  (h1:it∈X.ex\/X.s₀.heap.objs.size<=it) (h2:∀x c,X.env.cells.lookup x=eM c->c≠it) (h3:∀p∈X.pn++Â,p.1≠it):Inv X Â σ H {s with heap:=h',toks:=t'}:=by
 have nit:∀b u,H b=eM u->b≠it:=λb u e z=>by rw[z,hn]at e;cases e
 refine I.step (g':=s.gens) (d':=s.drawn) (ch:=[it]) (λb hb=>?_) (λb o _ _ hc e _=>k b o (λz=>hc<|by simp[z]) e) (λb o _ _ hc e _=>⟨o.slots,k b o (λz=>hc<|by simp[z]) e⟩) (λ_ _ _ _ n=>n)
  (λb o hc e=>⟨o,k b o (λz=>hc<|by simp[z]) e⟩) (λ_ _ e=>e) (λ_ _ _ e=>e) (λb ps e=>⟨#[],by rw[e];simp⟩) (λm hm=>?_) (λb u e=>?_) I.bare
 .have e:b=it:=⇑hb
  subst e;exact⟨h1,hL,h2,h3⟩
 .obtain⟨o,es,ep,ho,r⟩:=hm;exact⟨o,es,ep,k _ o (Ne.symm hL) ho,r⟩
 .refine(I.hok b u e).stay (λc v hc q=>k c v ?_ q) (λ_ q=>q) λ_ _ q=>q;rcases hc with z|z
  .rw[z];exact nit b u e
  .exact nit c _ z
def Inv.tok(I:Inv X Â σ H s)(t:Nat):Inv X Â σ H {s with toks:=t}:=I.un (h':=s.heap) (t':=t) Un.refl I.hok
def Inv.kept(I:Inv X Â σ H s)(k:∀b u,s.heap.get? b=eM u->h'.get? b=eM u):Inv X Â σ H {s with heap:=h',toks:=t'}:=I.un (Un.kept k) (I.hok.kept k)
variable {o:HO}
def Inv.laid(I:Inv X Â σ H s)(k:∀b u,s.heap.get? b=eM u->h'.get? b=eM u)(hp:s.heap.objs.size<=a)(new:fb X.prog X.w (upd H a o) h' a o) :
  Inv X Â σ (upd H a o) {s with heap:=h',toks:=t'}:=I.un (Un.laid k hp<|I.hok.fresh hp)<|I.hok.laid k hp new
def Inv.write{x e:Ï}(I:Inv X Â σ H s)(mu:Mut<|H x)(he:e=x\/H e=eM (.own x))(k:∀b u,b≠e->s.heap.get? b=eM u->h'.get? b=eM u)(heo:∃u,h'.get? e=eM u)
  (new:fb X.prog X.w (upd H x o) h' x o):Inv X Â σ (upd H x o) {s with heap:=h',toks:=t'}:=I.un (Un.write mu he k heo)<|I.hok.write mu he k heo new
def Inv.pins_of{pins':List (Ï×Obj)}(I:Inv X Â σ H s)(h:∀p∈pins',s.heap.get? p.1=eM p.2/\H p.1=eN/\p.1≠X.env.locals/\p.1∉X.fs/\∀v,p.2.data≠.cell v):Inv X pins' σ H s :=
 ⟨I.ok,I.os,I.bare,I.base,I.loc,I.cell,I.free,I.freeC,λp hp=>(â.mp hp).elim (λz=>I.pin p<|Þ _ z)<|h p,I.hok,I.len⟩
variable {i:Nat} {x:Str}
def OE{N:List Str}(hN:N.Nodup){j:Nat}(a:N[i]?=eM x)(b:N[j]?=eM x):i=j:=by let⟨h1,e1⟩:=Ì.mp a;let⟨h2,e2⟩:=Ì.mp b;exact(List.getElem_inj hN).mp (e1.trans e2.symm)
variable {M:Model} {A:ĉ} {u:Ã} {Q:Unit->Ç->Prop}
def Mx{E:Ã->Ç->Prop}{v:V}(I:Inv X Â σ H s)(hN:X.N.Nodup)(hi:X.N[i]?=eM x)(hx:Loc X.env.scope x)(r:RelV v u)
  (h:∀s',Inv X Â (σ.set i<|eM v) H s'->(∃a,θ a s.heap s'.heap/\(a=X.env.locals\/X.env.cells.lookup x=eM a))->Q () s') (hf:X.fn x=eP\/X.env.scope.names.lookup x=eM .local:=by first|exact .inl rfl|exact .inr rfl|assumption):wpAny M A (storeName X.env x u) Q E s:=by
 let⟨m,hn,hl⟩:=id I.loc;have hcls:(X.env.scope.kind == .class||(X.env.scope.kind == .module&&X.env.locals != X.env.globals))=eQ:=by rw[I.ok.kind];rfl
 have hiσ:i<σ.length:=by rw[I.len];exact(Ì.mp hi).1
 have cne:=I.cne;have cY:∀{a:Ï}{h':Ĉ},(∃o,s.heap.get? a=eM o/\H a=eN)->θ a s.heap h'->HOk X.prog X.w H h':=λ{a h'} ha hs b ob e=>by
  let⟨_,_,hfree⟩:=ha;refine(I.hok b ob e).stay (λc w' hc q=>(hs.2 c ?_).trans q) (λ_ q=>q) λ_ _ q=>q;rintro rfl;rcases hc with rfl|hc
  .rw[hfree]at e;cases e
  .rw[hfree]at hc;cases hc
 rcases hx with hk|hk
 .refine wpAny_storeName_local hk hn (λh' hn' hs=>?_) hcls;let⟨oL,_,_,hoL,_⟩:=id hn;refine h _ ⟨I.ok,I.os,I.bare,⟨λb o e n hb hx=>?_,λb o e n hb hx=>?_,I.base.free,λb o e hx=>?_,I.base.tups,I.base.frzs,I.base.tbls⟩,⟨_,hn',λj y v' e1 e2 e3=>?_⟩,λy c e=>?_,I.free,I.freeC,λp hp=>?_,cY ⟨oL,hoL,I.free⟩ hs,by simpa using I.len⟩ ⟨_,hs,.inl rfl⟩
  .exact(hs.2 b<|é<|è (Ü e) I.ok.above).trans<|I.base.keep b o e n hb hx
  .obtain⟨sl,e1⟩:=I.base.slot b o e n hb hx;exact⟨sl,(hs.2 b<|é<|è (Ü e) I.ok.above).trans e1⟩
  .obtain⟨o',e1⟩:=I.base.there b o e hx;exact⟨o',(hs.2 b<|é<|è (Ü e) I.ok.above).trans e1⟩
  .by_cases hj:j=i
   .subst hj;rw[hi]at e1;cases e1;rw[ϓ hiσ]at e2;cases e2;exact⟨u,r,.inl ⟨hk,by simp⟩⟩
   .rw[Α<|Ne.symm hj]at e2;let⟨u',r',q⟩:=hl j y v' e1 e2 e3;refine⟨u',r',?_⟩;rcases q with⟨k,e⟩|⟨k,c,e,z⟩
    .refine .inl ⟨k,?_⟩;have:y≠x:=λe=>hj<|OE hN e1<|e▸hi;simp[this,e]
    .exact .inr ⟨k,c,e,z.sameBut hs<|cne y c e⟩
  .obtain⟨w',z⟩:=I.cell y c e;exact⟨w',z.sameBut hs<|cne y c e⟩
  .obtain⟨e,n,ne,nf,d⟩:=I.pin p hp;exact⟨(hs.2 p.1 ne).trans e,n,ne,nf,d⟩
 .have hfn:X.fn x=eP:=by
   rcases hf with z|z
   .exact z
   .rw[z]at hk;cases hk
  let⟨c,hc⟩:=I.ok.has x<|.inl hk;let⟨w',z⟩:=I.cell x c hc;refine wpAny_storeName_cell I.ok.kind hk hc z λh' hc' hs=>?_;let⟨oc,hoc,hocd⟩:=id z;refine h {s with heap:=h'} ⟨I.ok,I.os,I.bare,⟨λb o e n hb hx=>?_,λb o e n hb hx=>?_,I.base.free,λb o e hx=>?_,I.base.tups,I.base.frzs,I.base.tbls⟩,⟨m,hn.sameBut hs<|Ne.symm<|cne x c hc,λj y v' e1 e2 e3=>?_⟩,λy c' e=>?_,I.free,I.freeC,λp hp=>?_,cY ⟨oc,hoc,I.freeC x c hc⟩ hs,by simpa using I.len⟩ ⟨c,hs,.inr hc⟩
  .exact(hs.2 b<|é<|è (Ü e)<|I.ok.cab x c hfn hc).trans<|I.base.keep b o e n hb hx
  .obtain⟨sl,e1⟩:=I.base.slot b o e n hb hx;exact⟨sl,(hs.2 b<|é<|è (Ü e)<|I.ok.cab x c hfn hc).trans e1⟩
  .obtain⟨o',e1⟩:=I.base.there b o e hx;exact⟨o',(hs.2 b<|é<|è (Ü e)<|I.ok.cab x c hfn hc).trans e1⟩
  .by_cases hj:j=i
   .subst hj;rw[hi]at e1;cases e1;rw[ϓ hiσ]at e2;cases e2;exact⟨u,r,.inr ⟨.inl hk,c,hc,hc'⟩⟩
   .rw[Α<|Ne.symm hj]at e2;let⟨u',r',q⟩:=hl j y v' e1 e2 e3;refine⟨u',r',?_⟩;rcases q with q|⟨k,c',e,z'⟩
    .exact .inl q
    .refine .inr ⟨k,c',e,z'.sameBut hs ?_⟩;rintro rfl;exact hj<|OE hN e1<|I.ok.inj _ _ _ e hc▸hi
  .by_cases hcc:c'=c
   .subst hcc;exact⟨_,hc'⟩
   .obtain⟨w2,z2⟩:=I.cell y c' e;exact⟨w2,z2.sameBut hs hcc⟩
  .obtain⟨e,n,ne,nf,d⟩:=I.pin p hp;refine⟨(hs.2 p.1 ?_).trans e,n,ne,nf,d⟩;intro q;rw[q,hoc]at e;have q':oc=p.2:=ñ e;exact d w' (by rw[<-q'];exact hocd)
def Dv{E:Ã->Ç->Prop}{v:V}(I:Inv X Â σ H s)(hN:X.N.Nodup)(hi:X.N[i]?=eM x)(hx:Loc X.env.scope x)(r:RelV v u)
  (h:∀s',Inv X Â (σ.set i<|eM v) H s'->Q () s') (hf:X.fn x=eP\/X.env.scope.names.lookup x=eM .local:=by first|exact .inl rfl|exact .inr rfl|assumption):wpAny M A (storeName X.env x u) Q E s :=
 Mx I hN hi hx r (λs' I' _=>h s' I') hf
def Inv.call'{s':Ç}(I:Inv X Â σ H s)(ho:s'.os=s.os)(u:Un (frs X.stack) ch H H' s.heap s'.heap)(hok:HOk X.prog X.w H' s'.heap)(hg:ϒ s'.gens)
  (hch:∀b∈ch,(b∈X.ex\/X.s₀.heap.objs.size<=b)/\b≠X.env.locals/\(∀x c,X.env.cells.lookup x=eM c->c≠b)/\∀p∈X.pn++Â,p.1≠b):Inv X Â σ H' s':=by
 let⟨h',g',d',t',o'⟩:=s';have e:o'=s.os:=ho;subst e;exact I.call (g':=g') (t':=t') (d':=d') u hok hg hch
end
noncomputable abbrev XK:=Ã->Option Ï->Hp->Prop
noncomputable abbrev St:=List<|Option V
noncomputable abbrev VK:=V->Hp->Prop
noncomputable abbrev TE:=St->Hp->VK->Prop
noncomputable abbrev TT:=St->Hp->(Bool->Hp->Prop)->Prop
noncomputable abbrev TA:=St->Hp->(List V->Hp->Prop)->Prop
structure Ends where
 nx:St->Hp->Prop
 rt:VK
 bk:St->Hp->Prop:=λ_ _=>False
 ct:St->Hp->Prop:=λ_ _=>False
noncomputable abbrev TS:=Ends->St->Hp->Prop
inductive EP (X:Cx) (Â:List<|Ï×Obj) (σ:St) (Q:VK) (u:Ã) (s':Ç):Prop
 |mk (v:V) (H':Hp) (i:Inv X Â σ H' s') (r:RelV v u) (q:Q v H')
abbrev TP(X:Cx)(Â:List<|Ï×Obj)(σ:St)(Q:Bool->Hp->Prop)(b:Bool)(s':Ç):Prop:=∃H',Inv X Â σ H' s'/\Q b H'
inductive AP (X:Cx) (Â:List<|Ï×Obj) (σ:St) (Q:List V->Hp->Prop) (us:List Ã) (s':Ç):Prop
 |mk (vs:List V) (H':Hp) (i:Inv X Â σ H' s') (r:gg vs us) (q:Q vs H')
abbrev SP(X:Cx)(Â:List<|Ï×Obj)(D:Ends)(f:Flow)(s':Ç):Prop :=
 match f with
 |.next=>∃ť H',Inv X Â ť H' s'/\D.nx ť H'
 |.brk=>∃ť H',Inv X Â ť H' s'/\D.bk ť H'
 |.cont=>∃ť H',Inv X Â ť H' s'/\D.ct ť H'
 |.ret u=>∃v ť H',Inv X Â ť H' s'/\RelV v u/\D.rt v H'
abbrev PE(X:Cx)(e:Expr)(t:TE):Prop :=
 ∀(Â:List<|Ï×Obj) (s:Ç) (σ:St) (H:Hp) (Q:VK),Inv X Â σ H s->t σ H Q->wpAny (à X.prog X.w) X.A (eval e X.env) (EP X Â σ Q) X.xe s
abbrev PT(X:Cx)(e:Expr)(t:TT):Prop :=
 ∀(Â:List<|Ï×Obj) (s:Ç) (σ:St) (H:Hp) (Q:Bool->Hp->Prop),Inv X Â σ H s->t σ H Q->wpAny (à X.prog X.w) X.A (cx e X.env<|eval e X.env) (TP X Â σ Q) X.xe s
abbrev PW(X:Cx)(e:Expr)(t:TT):Prop :=
 ∀(aN:Sem Ã) (Â:List<|Ï×Obj) (s:Ç) (σ:St) (H:Hp) (Q:Bool->Hp->Prop),Inv X Â σ H s->t σ H Q->wpAny (à X.prog X.w) X.A (cx e X.env aN) (TP X Â σ Q) X.xe s
def PW.pt{X:Cx}{e:Expr}{t:TT}(h:PW X e t):PT X e t:=h _
abbrev PA(X:Cx)(es:List Expr)(t:TA):Prop :=
 ∀(î:Pos) (Â:List<|Ï×Obj) (s:Ç) (σ:St) (H:Hp) (Q:List V->Hp->Prop),Inv X Â σ H s->t σ H Q->wpAny (à X.prog X.w) X.A (spliced<|ě î<|ß es X.env) (AP X Â σ Q) X.xe s
abbrev PS(X:Cx)(st:ň)(t:TS):Prop :=
 ∀(Â:List<|Ï×Obj) (s:Ç) (σ:St) (H:Hp) (D:Ends),Inv X Â σ H s->t D σ H->wpAny (à X.prog X.w) X.A (exec st X.env) (SP X Â D) X.xe s
abbrev PSs(X:Cx)(st:List ň)(t:TS):Prop :=
 ∀(Â:List<|Ï×Obj) (s:Ç) (σ:St) (H:Hp) (D:Ends),Inv X Â σ H s->t D σ H->wpAny (à X.prog X.w) X.A (execs st X.env) (SP X Â D) X.xe s
def thn{α:Type}{t:Sem α}{Q Q':α->Ç->Prop}{M:Model}{A:ĉ}{E:Ã->Ç->Prop}{s:Ç}(h:wpAny M A t Q E s)(hQ:∀a s,Q a s->Q' a s):wpAny M A t Q' E s:=Ĳ h hQ λ_ _ x=>x
section
variable {X:Cx}
variable {Â:List (Ï×Obj)} {s:Ç} {σ:St} {H:Hp}
def bin{a b:Expr}{ta tb:TE}(ha:PE X a ta)(hb:PE X b tb){R:V->V->Hp->Prop}(I:Inv X Â σ H s)(h:ta σ H λx H1=>tb σ H1 λy H2=>R x y H2)
  {α:Type}{Q:α->Ç->Prop}{f:Ã->Ã->Sem α}
  (hf:∀v u s2 x y H2,Inv X Â σ H2 s2->RelV x v->RelV y u->R x y H2->wpAny (à X.prog X.w) X.A (f v u) Q X.xe s2) :
  wpAny (à X.prog X.w) X.A (eval a X.env) (λv ģ=>wpAny (à X.prog X.w) X.A (eval b X.env) (λu b6=>wpAny (à X.prog X.w) X.A (f v u) Q X.xe b6) X.xe ģ) X.xe s:=by
 refine thn (ha Â s σ H _ I h) λv s1 ⟨x,H1,I1,r1,q1⟩=>?_;refine thn (hb Â s1 σ H1 _ I1 q1) λu s2 ⟨y,H2,I2,r2,q2⟩=>?_;exact hf v u s2 x y H2 I2 r1 r2 q2
abbrev Sz(i:Nat):TE:=λσ H Q=>∃v,σ[i]?=eM (eM v)/\Q v H
abbrev tC(v:V):TE:=λ_ H Q=>Q v H
variable {x:Str} {î:Pos}
def Iv{i:Nat}(hN:X.N[i]?=eM x)(hv:Vis X.env.scope x)(hd:(x==("__debug__" : Str))=eQ:=by decide)(bp:(x==("__classdict__" : Str))=eQ:=by decide):PE X (.Name x î)<|Sz i:=by
 intro Â s σ H Q I h;let⟨v,e,h⟩:=h;let⟨m,hn,hl⟩:=I.loc;let⟨u,r,l⟩:=hl i x v hN e hv;have fin:EP X Â σ Q u s:=⟨v,H,I,r,h⟩
 rcases l with⟨hk,hm⟩|⟨hk,c,hc,hcell⟩
 .exact wpAny_Name (wpAny_loadName_local I.ok.kind hk hn hm fin) hd
 .rcases hk with hk|hk
  .exact wpAny_Name (wpAny_loadName_cell I.ok.kind hk hc hcell fin) hd
  .exact wpAny_Name (wpAny_loadName_free I.ok.kind hk hc hcell fin bp) hd
def Uq{i j î}:PE X (.Constant (.int i) j î)<|tC<|.int i:=λ_ _ _ H _ I h=>wpAny_Constant_int ⟨.int i,H,I.tok _,⟨_,rfl⟩,h⟩
def Q0{b j î}:PE X (.Constant (.bool b) j î)<|tC<|.bl b:=λ_ _ _ H _ I h=>Constant_bool ⟨.bl b,H,I,rfl,h⟩
def EM{j î}:PE X (.Constant .none j î)<|tC .non:=λ_ _ _ H _ I h=>dg ⟨.non,H,I,rfl,h⟩
def pe_str{x j î}:PE X (.Constant (.str x) j î)<|tC<|.str x:=λ_ _ _ H _ I h=>Calls.Constant_str ⟨.str x,H,I.tok _,⟨_,rfl⟩,h⟩
abbrev Gl(X:Cx)(x:Str):Prop:=X.env.kindOf x=eM .globalImplicit
variable {u:Ã} {Q:Ã->Ç->Prop}
def Je{E:Ã->Ç->Prop}(I:Inv X Â σ H s)(hg:Gl X x)(hm:X.mg x=eM u)(h:Q u s)
  (hd:(x==("__debug__" : Str))=eQ:=by decide):wpAny (à X.prog X.w) X.A (eval (.Name x î) X.env) Q E s :=
 Calls.Name_function_global I.ok.kind hg (Calls.loadGlobal_global (by rw[I.ok.glob];exact I.mod.glob.keeps I.bk) hm h) hd
def Xp{E:Ã->Ç->Prop}(I:Inv X Â σ H s)(hg:Gl X x)(hm:X.mg x=eN)(hv:Ŷ x=eM u)(h:Q u s)
  (hn:x≠"__name__":=by decide) (hd:(x==("__debug__" : Str))=eQ:=by decide):wpAny (à X.prog X.w) X.A (eval (.Name x î) X.env) Q E s:=by
 let⟨mb,h1,h2⟩:=I.mod.blt;exact Calls.Name_function_global I.ok.kind hg (Calls.loadGlobal_builtin (by rw[I.ok.glob];exact I.mod.glob.keeps I.bk) hm (by rw[I.ok.blt];exact h1.keeps I.bk) ((h2 x hn).trans hv) h) hd
def FC{v:V}(hg:Gl X x)(hm:X.mg x=eM u)(r:RelV v u)(hd:(x==("__debug__" : Str))=eQ:=by decide):PE X (.Name x î) (tC v) :=
 λ_ _ _ H _ I h=>Je I hg hm ⟨v,H,I,r,h⟩ hd
def Hb{v:V}(hg:Gl X x)(hm:X.mg x=eN)(hv:Ŷ x=eM u)(r:RelV v u)(hn:x≠"__name__":=by decide)(hd:(x==("__debug__" : Str))=eQ:=by decide):PE X (.Name x î) (tC v) :=
 λ_ _ _ H _ I h=>Xp I hg hm hv ⟨v,H,I,r,h⟩ hn hd
variable {a b:Expr}{ta tb:TE}{î:Pos}
abbrev PC(X:Cx)(op:cy)(a b:Expr)(t:TE):Prop :=
 ∀(Â:List<|Ï×Obj) (s:Ç) (σ:St) (H:Hp) (Q:VK),Inv X Â σ H s->t σ H Q->
  wpAny (à X.prog X.w) X.A (eval a X.env) (λv ģ=>wpAny (à X.prog X.w) X.A (eval b X.env) (λu b6=>wpAny (à X.prog X.w) X.A (ï op v u) (EP X Â σ Q) X.xe b6) X.xe ģ) X.xe s
variable {op:cy}
def NH(b:Expr)(h:op≠.In)(h2:op≠.NotIn):Ņ op b=eQ:=by
 have e1:(op==CmpOp.In)=eQ:=by cases op<;>first|rfl|exact gB rfl h
 have e2:(op==CmpOp.NotIn)=eQ:=by cases op<;>first|rfl|exact gB rfl h2
 cases b<;>simp[Ņ,e1,e2]
abbrev R7(ta:TE):TE:=λσ H Q=>ta σ H λx H1=>Q (.bl<|gC (x=.non)) H1
abbrev P5(ta:TE):TE:=λσ H Q=>ta σ H λx H1=>Q (.bl (!gC (x=.non))) H1
def RelV.none_iff{x:V}{v:Ã}(r:RelV x v):(v==Value.none)=gC (x=.non):=by
 cases x with
 |non=>cases r;rfl
 |bl _=>cases r;rfl
 |int _=>let⟨t,rfl⟩:=r;rfl
 |str _=>let⟨t,rfl⟩:=r;rfl
 |byt _=>let⟨t,rfl⟩:=r;rfl
 |flt _=>let⟨t,rfl⟩:=r;rfl
 |ref _=>cases r;rfl
 |ty _=>cases r;rfl
def DV{j bE}(ha:PE X a ta):PC X .Is a (.Constant .none j bE)<|R7 ta:=by intro Â s σ H Q I h;refine thn (ha Â s σ H _ I h) λv s1 ⟨x,H1,I1,r1,q1⟩=>?_;exact dg (is_none_gen ⟨.bl _,H1,I1,by rw[r1.none_iff];rfl,q1⟩)
def UU{j bE}(ha:PE X a ta):PC X .IsNot a (.Constant .none j bE)<|P5 ta:=by intro Â s σ H Q I h;refine thn (ha Â s σ H _ I h) λv s1 ⟨x,H1,I1,r1,q1⟩=>?_;exact dg (isnot_none_gen ⟨.bl _,H1,I1,by rw[r1.none_iff];rfl,q1⟩)
abbrev tB(t:TE):TT:=λσ H Q=>t σ H λx H1=>∃c,x=.bl c/\Q c H1
def CH{t:TE}(h:PC X op a b t)(h1:Ņ op b=eQ:=by first|exact NH _ (by decide) (by decide)|rfl):PE X (.Compare a [op] [b] î) t:=λÂ s σ H Q I hw=>wpAny_Compare1 (h Â s σ H Q I hw) h1
def C4{t:TE}(h:PC X op a b t)(h1:Ņ op b=eQ:=by first|exact NH _ (by decide) (by decide)|rfl):PT X (.Compare a [op] [b] î)<|tB t:=by intro Â s σ H Q I hw;refine wpAny_isTrue_Compare1 (thn (h Â s σ H _ I hw) λv s1 h1=>thn h1 λu s2 h2=>thn h2 λc s3 ⟨x,H1,I1,r1,q1⟩=>?_) h1;let⟨d,rfl,q⟩:=q1;cases r1;exact Č ⟨H1,I1,q⟩
variable {tA tB':TT}{rest:List Expr}
abbrev SK(t u:TT):TT:=λσ H Q=>t σ H λc H1=>if c=eP then u σ H1 Q else Q eQ H1
abbrev tOr(t u:TT):TT:=λσ H Q=>t σ H λc H1=>if c=eP then Q eP H1 else u σ H1 Q
abbrev Su(t:TT):TT:=λσ H Q=>t σ H λc H1=>Q (!c) H1
def Gn(ha:PT X a tA):PW X (.BoolOp .And [a] î) tA:=by
 intro wh Â s σ H Q I h;refine isTrue_and<|thn (ha Â s σ H Q I h) λc s1 e=>?_;cases c with
 |true=>exact isTrue_and_nil e
 |false=>exact e
def ID(ha:PT X a tA):PW X (.BoolOp .Or [a] î) tA:=by
 intro wh Â s σ H Q I h;refine isTrue_or<|thn (ha Â s σ H Q I h) λc s1 e=>?_;cases c with
 |false=>exact isTrue_or_nil e
 |true=>exact e
def LV(ha:PT X a tA)(hb:PW X (.BoolOp .And (b::rest) î) tB'):PW X (.BoolOp .And (a::b::rest) î)<|SK tA tB':=by
 intro wh Â s σ H Q I h;refine isTrue_and<|thn (ha Â s σ H _ I h) λc s1 ⟨H1,I1,q1⟩=>?_;cases c with
 |true=>exact hb wh Â s1 σ H1 Q I1 q1
 |false=>exact⟨H1,I1,q1⟩
def Qs(ha:PT X a tA)(hb:PW X (.BoolOp .Or (b::rest) î) tB'):PW X (.BoolOp .Or (a::b::rest) î)<|tOr tA tB':=by
 intro wh Â s σ H Q I h;refine isTrue_or<|thn (ha Â s σ H _ I h) λc s1 ⟨H1,I1,q1⟩=>?_;cases c with
 |true=>exact⟨H1,I1,q1⟩
 |false=>exact hb wh Â s1 σ H1 Q I1 q1
def PN(ha:PT X a tA):PT X (.UnaryOp .Not a î)<|Su tA:=by intro Â s σ H Q I h;exact isTrue_not (ha Â s σ H (λc H1=>Q (!c) H1) I h)
abbrev Rc(ta tb:TE):TE:=λσ H Q=>ta σ H λx H1=>∃c,x=.bl c/\if c=eP then tb σ H1 Q else Q (.bl eQ) H1
abbrev Sq(ta tb:TE):TE:=λσ H Q=>ta σ H λx H1=>∃c,x=.bl c/\if c=eP then Q (.bl eP) H1 else tb σ H1 Q
abbrev Qb(ta:TE):TE:=λσ H Q=>ta σ H λx H1=>∃c,x=.bl c/\Q (.bl (!c)) H1
def Ec{op}{t:TE}(h:PE X a t):PE X (.BoolOp op [a] î) t:=λÂ s σ H Q I hw=>BoolOp_one (h Â s σ H Q I hw)
def Lq(ha:PE X a ta)(hb:PE X (.BoolOp .And (b::rest) î) tb):PE X (.BoolOp .And (a::b::rest) î)<|Rc ta tb:=by
 intro Â s σ H Q I h;refine BoolOp_and<|thn (ha Â s σ H _ I h) λv s1 ⟨x,H1,I1,r1,q1⟩=>?_;let⟨c,rfl,q1⟩:=q1;cases r1;refine Č ?_;cases c with
 |true=>exact hb Â s1 σ H1 Q I1 q1
 |false=>exact⟨.bl eQ,H1,I1,rfl,q1⟩
def QD(ha:PE X a ta)(hb:PE X (.BoolOp .Or (b::rest) î) tb):PE X (.BoolOp .Or (a::b::rest) î)<|Sq ta tb:=by
 intro Â s σ H Q I h;refine BoolOp_or<|thn (ha Â s σ H _ I h) λv s1 ⟨x,H1,I1,r1,q1⟩=>?_;let⟨c,rfl,q1⟩:=q1;cases r1;refine Č ?_;cases c with
 |false=>exact hb Â s1 σ H1 Q I1 q1
 |true=>exact⟨.bl eP,H1,I1,rfl,q1⟩
def Pq(ha:PE X a ta):PE X (.UnaryOp .Not a î)<|Qb ta:=by intro Â s σ H Q I h;refine UnaryOp_<|thn (ha Â s σ H _ I h) λv s1 ⟨x,H1,I1,r1,q1⟩=>?_;let⟨c,rfl,q1⟩:=q1;cases r1;exact not_of (Č ⟨.bl (!c),H1,I1,rfl,q1⟩)
abbrev tIf(t:TT)(ta tb:TE):TE:=λσ H Q=>t σ H λc H1=>if c=eP then ta σ H1 Q else tb σ H1 Q
def EI{c:Expr}(hc:PT X c tA)(ha:PE X a ta)(hb:PE X b tb):PE X (.IfExp c a b î)<|tIf tA ta tb:=by
 intro Â s σ H Q I h;refine wpAny_IfExp<|thn (hc Â s σ H _ I h) λd s1 ⟨H1,I1,q1⟩=>?_;cases d with
 |true=>exact ha Â s1 σ H1 Q I1 q1
 |false=>exact hb Â s1 σ H1 Q I1 q1
end
abbrev fZ(K:Frag)(H:Hp)(a:Ï)(xs:List V):Prop :=
 Rd H a (.lst xs)\/
  ∃(o:Obj) (õ:Array Ã) (n:Nat),K.lookup a=eM o/\o.cls=.type "list"/\o.dict=eN/\o.data=.seq õ n/\õ.size<=Ý/\gg xs õ.toList
abbrev gf(K:Frag)(H:Hp)(a:Ï)(xs:List V):Prop :=
 Rd H a (.tup xs)\/
  ∃(o:Obj) (õ:Array Ã) (n:Nat),K.lookup a=eM o/\o.cls=.type "tuple"/\o.data=.seq õ n/\õ.size<=Ý/\gg xs õ.toList
abbrev absV:Ã->Option V
 |.none=>eM .non
 |.bool b=>eM<|.bl b
 |.int i _=>eM<|.int i
 |.str x _=>eM<|.str x
 |.bytes b _=>eM<|.byt b
 |.float b _=>eM<|.flt b
 |.ref a=>eM<|.ref a
 |.type n=>eM<|.ty n
 |_=>eN
variable {x:V} {u:Ã}
def RelV.abs(r:RelV x u):absV u=eM x:=by
 cases x with
 |non=>cases r;rfl
 |bl _=>cases r;rfl
 |int _=>let⟨t,rfl⟩:=r;rfl
 |str _=>let⟨t,rfl⟩:=r;rfl
 |byt _=>let⟨t,rfl⟩:=r;rfl
 |flt _=>let⟨t,rfl⟩:=r;rfl
 |ref _=>cases r;rfl
 |ty _=>cases r;rfl
def RelV.inj{y:V}(r:RelV x u)(q:RelV y u):x=y:=ñ (r.abs.symm.trans q.abs)
def gg.inj:∀{xs ys:List V}{us:List Ã},gg xs us->gg ys us->xs=ys
 |_,_,_,.nil,.nil=>rfl
 |_,_,_,.cons r t,.cons r' t'=>by rw[r.inj r',gg.inj t t']
section
variable {X:Cx}{Â:List (Ï×Obj)}{σ:St}{H:Hp}{s:Ç}{a:Ï}{xs ys:List V}
def fZ.of{K:Frag}(h:H a=eM (.lst xs)):fZ K H a xs:=.inl (.inl h)
def gf.of{K:Frag}(h:H a=eM (.tup xs)):gf K H a xs:=.inl (.inl h)
def Inv.list(I:Inv X Â σ H s)(h:fZ X.K H a xs):∃õ:List Ã,gg xs õ/\PlainL s.heap a õ.toArray/\xs.length<=Ý:=by
 rcases h with h|⟨o,õ,n,hk,hc,hd,hs,hz,r⟩
 .obtain⟨z,õ,n,r,e⟩:=h.ok I.hok;exact⟨õ,r,⟨_,n,e,rfl,rfl,rfl⟩,z⟩
 .refine⟨õ.toList,r,⟨o,n,I.kIn a o hk,hc,hd,⇑hs⟩,?_⟩;have e:=r.length;simp only[ò]at e;lia
def Inv.tuple(I:Inv X Â σ H s)(h:gf X.K H a xs):∃õ:List Ã,gg xs õ/\aY s.heap a õ.toArray/\xs.length<=Ý:=by
 rcases h with h|⟨o,õ,n,hk,hc,hs,hz,r⟩
 .obtain⟨z,õ,r,p⟩:=h.ok I.hok;exact⟨õ,r,p,z⟩
 .refine⟨õ.toList,r,⟨o,I.kIn a o hk,hc,n,⇑hs⟩,?_⟩;have e:=r.length;simp only[ò]at e;lia
def Inv.list_inj(I:Inv X Â σ H s)(h:fZ X.K H a xs)(h':fZ X.K H a ys):xs=ys:=by
 let⟨õ,r,⟨o,n,e,_,_,d⟩,_⟩:=I.list h;let⟨its',r',⟨o',n',e',_,_,d'⟩,_⟩:=I.list h';rw[e]at e';cases e';rw[d]at d';injection d' with d1 _;have:õ=its':=by simpa using congrArg bW d1
 subst this;exact r.inj r'
def Inv.tuple_inj(I:Inv X Â σ H s)(h:gf X.K H a xs)(h':gf X.K H a ys):xs=ys:=by
 let⟨õ,r,⟨o,e,_,n,d⟩,_⟩:=I.tuple h;let⟨its',r',⟨o',e',_,n',d'⟩,_⟩:=I.tuple h';rw[e]at e';cases e';rw[d]at d';injection d' with d1 _;have:õ=its':=by simpa using congrArg bW d1
 subst this;exact r.inj r'
end
section
variable {X:Cx}{st:ň}{rest:List ň}{t u:TS}{e:Expr}{te:TE}{î:Pos}
abbrev Qe:TS:=λD σ H=>D.nx σ H
abbrev R4(t u:TS):TS:=λD σ H=>t {D with nx:=u D} σ H
def pss_nil:PSs X [] Qe:=λ_ _ σ H _ I h=>bX ⟨σ,H,I,h⟩
def Dy(h1:PS X st t)(h2:PSs X rest u):PSs X (st::rest)<|R4 t u:=by
 intro Â s σ H D I h;refine wpAny_execs_cons<|thn (h1 Â s σ H {D with nx:=u D} I h) λf s1 q=>?_;cases f with
 |next =>let⟨ť,H',I',q⟩:=q;exact h2 Â s1 ť H' D I' q
 |ret v=>exact q
 |brk=>exact q
 |cont=>exact q
def Inv.quiet{Â:List (Ï×Obj)}{σ:St}{H:Hp}{s:Ç}(I:Inv X Â σ H s):interactive X.env=eQ:=by simp[interactive,I.ok.kind]
abbrev Rz(te:TE):TS:=λD σ H=>te σ H λ_ H1=>D.nx σ H1
def Hh(he:PE X e te)(hs:υ e eN î.line X.env=pure eQ:=by rfl):PS X (.Expr e î)<|Rz te:=by intro Â s σ H D I h;exact wpAny_Expr_any (thn (he Â s σ H _ I h) λv s1 ⟨x,H1,I1,r1,q1⟩=>⟨σ,H1,I1,q1⟩) I.quiet hs
abbrev So(te:TE):TS:=λD σ H=>te σ H D.rt
def IX(he:PE X e te):PS X (.Return (eM e) î)<|So te:=by intro Â s σ H D I h;exact wpAny_Return_some (thn (he Â s σ H _ I h) λv s1 ⟨x,H1,I1,r1,q1⟩=>⟨x,σ,H1,I1,r1,q1⟩)
abbrev Rr:TS:=λD _ H=>D.rt .non H
def ps_retN:PS X (.Return eN î) Rr:=λ_ _ σ H _ I h=>wpAny_Return_none ⟨.non,σ,H,I,rfl,h⟩
abbrev RZ(c:TT)(t u:TS):TS:=λD σ H=>c σ H λb H1=>if b=eP then t D σ H1 else u D σ H1
def Qr{c:Expr}{a b:List ň}{tc:TT}(hc:PT X c tc)(ha:PSs X a t)(hb:PSs X b u):PS X (.If c a b î)<|RZ tc t u:=by
 intro Â s σ H D I h;refine wpAny_If<|thn (hc Â s σ H _ I h) λd s1 ⟨H1,I1,q1⟩=>?_;cases d with
 |true=>exact ha Â s1 σ H1 D I1 q1
 |false=>exact hb Â s1 σ H1 D I1 q1
end
noncomputable abbrev TG:=V->St->Hp->(St->Hp->Prop)->Prop
noncomputable abbrev TGs:=List V->St->Hp->(St->Hp->Prop)->Prop
abbrev PG(X:Cx)(ap:Expr)(t:TG):Prop :=
 ∀(Â:List<|Ï×Obj) (s:Ç) (σ:St) (H:Hp) (v:V) (u:Ã) (Q:St->Hp->Prop),Inv X Â σ H s->RelV v u->t v σ H Q->
  wpAny (à X.prog X.w) X.A (Ε ap X.env u) (λ_ s'=>∃ť H',Inv X Â ť H' s'/\Q ť H') X.xe s
abbrev PGs(X:Cx)(ts:List Expr)(t:TGs):Prop :=
 ∀(Â:List<|Ï×Obj) (s:Ç) (σ:St) (H:Hp) (vs:List V) (us:List Ã) (Q:St->Hp->Prop),Inv X Â σ H s->gg vs us->t vs σ H Q->
  wpAny (à X.prog X.w) X.A (assignInOrder ((Ġ ts X.env).map (·.2)) us) (λ_ s'=>∃ť H',Inv X Â ť H' s'/\Q ť H') X.xe s
noncomputable abbrev CP:=V->V->V->Hp->(Hp->Prop)->Prop
abbrev PSet(X:Cx)(t:CP):Prop :=
 ∀(Â:List<|Ï×Obj) (s:Ç) (σ:St) (H:Hp) (o i v:V) (ov iv u:Ã) (Q:Hp->Prop),Inv X Â σ H s->RelV o ov->RelV i iv->RelV v u->t o i v H Q->
  wpAny (à X.prog X.w) X.A (aZ ov iv u) (λ_ s'=>∃H',Inv X Â σ H' s'/\Q H') X.xe s
noncomputable abbrev TIp:=V->V->Hp->VK->Prop
abbrev PIp(X:Cx)(op:ϡ)(t:TIp):Prop :=
 ∀(Â:List<|Ï×Obj) (s:Ç) (σ:St) (H:Hp) (x y:V) (v u:Ã) (Q:VK),Inv X Â σ H s->RelV x v->RelV y u->t x y H Q->
  wpAny (à X.prog X.w) X.A (inplaceOp op v u) (EP X Â σ Q) X.xe s
section
variable {X:Cx}{î:Pos}
abbrev Ib(i:Nat):TG:=λv σ H Q=>Q (σ.set i<|eM v) H
def AH{i:Nat}{x:Str}(hN:X.N.Nodup)(hi:X.N[i]?=eM x)(hx:Loc X.env.scope x)(hf:X.fn x=eP\/X.env.scope.names.lookup x=eM .local:=by first|exact .inl rfl|exact .inr rfl|assumption):PG X (.Name x î)<|Ib i:=by intro Â s σ H v u Q I r h;exact wpAny_assign_Name (Dv I hN hi hx r (λs' I'=>⟨_,H,I',h⟩) hf)
abbrev Sv:TGs:=λvs σ H Q=>vs=[]/\Q σ H
abbrev QZ(t:TG)(u:TGs):TGs:=λvs σ H Q=>∃v r,vs=v::r/\t v σ H λť H'=>u r ť H' Q
def pgs_nil:PGs X [] Sv:=by intro Â s σ H vs us Q I r h;let⟨e,h⟩:=h;subst e;cases r;exact assignInOrder_nil ⟨σ,H,I,h⟩
variable {e:Expr} {es:List Expr}
def Ke{t:TG}{u:TGs}(h1:PG X e t)(h2:PGs X es u)
  (hs:(Ġ (e::es) X.env).map (·.2)=Ε e X.env::(Ġ es X.env).map (·.2):=by rfl):PGs X (e::es)<|QZ t u:=by
 intro Â s σ H vs us Q I r h;let⟨v,vr,e1,h⟩:=h;subst e1;cases r with
 |cons r rr =>rw[hs];refine assignInOrder_cons<|thn (h1 Â s σ H _ _ _ I r h) λ_ s1 ⟨σ1,H1,I1,q1⟩=>?_;exact h2 Â s1 σ1 H1 _ _ Q I1 rr q1
abbrev SI(K:Frag)(n:Nat)(t:TGs):TG:=λv σ H Q=>∃a xs,v=.ref a/\gf K H a xs/\xs.length=n/\t xs σ H Q
def Cw{k:Nat}{t:TGs}{n:Nat}(hc:X.calm=eP)(h:PGs X es t)
  (hn:(Ġ es X.env).length=n:=by rfl) (Δ:(Ġ es X.env).findIdx? (·.1)=eN:=by rfl):PG X (.Tuple es k î)<|SI X.K n t:=by
 intro Â s σ H v u Q I r hw;let⟨a,xs,e1,hq,hl,hw⟩:=hw;subst e1;cases r;let⟨õ,rv,ht,hz⟩:=I.tuple hq;refine assign_Tuple_tuple (I.ok.hd hc) ht (by simp[hn,<-hl,rv.length]) Δ λh' hx=>?_;have I1:Inv X Â σ H {s with heap:=h'}:=I.kept (t':=s.toks) λb o e=>hx b o (é<|Ü e) e;exact h Â _ σ H xs _ Q I1 ⇑rv hw
abbrev Q6(to ti:TE)(t:CP):TG:=λv σ H Q=>to σ H λo H1=>ti σ H1 λi H2=>t o i v H2 λH3=>Q σ H3
variable {o:Expr} {i:Expr} {to:TE} {ti:TE}
def IV{t:CP}(ho:PE X o to)(hi:PE X i ti)(hs:PSet X t)
  (ha:∀v,Ε (.Subscript o i î) X.env v=(do
    let ov<-Ŝ [v] (eval o X.env)
    let iv<-Ŝ [v,ov] (eval i X.env)
    ϔ î
    Ŝ [v,ov,iv] (aZ ov iv v)
    dZ [v,ov,iv] []):=by intro _;rfl):PG X (.Subscript o i î)<|Q6 to ti t:=by
 intro Â s σ H v u Q I r h;rw[ha];refine Á<|Ĝ<|thn (ho Â s σ H _ I h) λov s1 ⟨x,H1,I1,r1,q1⟩=>?_;refine Á<|Ĝ<|thn (hi Â s1 σ H1 _ I1 q1) λiv s2 ⟨y,H2,I2,r2,q2⟩=>?_;refine Á<|dh<|Á<|Ĝ<|thn (hs Â s2 σ H2 x y v ov iv u _ I2 r1 r2 r q2) λ_ s3 ⟨H3,I3,q3⟩=>?_;exact wpAny_release ⟨σ,H3,I3,q3⟩
abbrev RM(te:TE)(g:TG):TS:=λD σ H=>te σ H λx H1=>g x σ H1 D.nx
variable {te:TE}
def CF{tg:Expr}{g:TG}(he:PE X e te)(hg:PG X tg g)(hs:Ϛ [tg] e î.line X.env=pure eQ:=by rfl)(hw:ϛ [tg] e X.env=pure eN:=by rfl)
  (h1:(Ġ [tg] X.env).map (·.2)=[Ε tg X.env]:=by rfl):PS X (.Assign [tg] e î)<|RM te g:=by
 intro Â s σ H D I h;refine wpAny_Assign_stores (thn (he Â s σ H _ I h) λv s1 ⟨x,H1,I1,r1,q1⟩=>?_) hs hw;rw[h1];exact thn (hg Â s1 σ H1 x v _ I1 r1 q1) λ_ s2 q=>q
abbrev QB(to ti te:TE)(tget:V->V->Hp->VK->Prop)(tip:TIp)(tset:CP):TS:=λD σ H=>to σ H λo H1=>ti σ H1 λi H2=>tget o i H2 λx H3=>te σ H3 λy H4=>tip x y H4 λz H5=>tset o i z H5 λH6=>D.nx σ H6
abbrev PGet(X:Cx)(t:V->V->Hp->VK->Prop):Prop :=
 ∀(Â:List<|Ï×Obj) (s:Ç) (σ:St) (H:Hp) (o i:V) (ov iv:Ã) (Q:VK),Inv X Â σ H s->RelV o ov->RelV i iv->t o i H Q->
  wpAny (à X.prog X.w) X.A (Ϩ ov iv) (EP X Â σ Q) X.xe s
def GJ{tget:V->V->Hp->VK->Prop}{tip:TIp}{tset:CP}{op:ϡ}{cK:Pos}(ho:PE X o to)(hi:PE X i ti)(hg:PGet X tget)(he:PE X e te)(hp:PIp X op tip)(hs:PSet X tset)
  (ha:∀ov iv new,augStore i ov iv new=(do Ŝ [new,ov,iv] (aZ ov iv new);dZ [new,ov,iv] [];pure .next):=by intros;rfl):PS X (.AugAssign (.Subscript o i cK) op e î)<|QB to ti te tget tip tset:=by
 intro Â s σ H D I h;refine wpAny_AugAssign_SubscriptAny (thn (ho Â s σ H _ I h) λov s1 ⟨x1,H1,I1,r1,q1⟩=>?_) ha;refine thn (hi Â s1 σ H1 _ I1 q1) λiv s2 ⟨x2,H2,I2,r2,q2⟩=>?_;refine thn (hg Â s2 σ H2 x1 x2 ov iv _ I2 r1 r2 q2) λϵ s3 ⟨x3,H3,I3,r3,q3⟩=>?_;refine thn (he Â s3 σ H3 _ I3 q3) λv s4 ⟨x4,H4,I4,r4,q4⟩=>?_;refine thn (hp Â s4 σ H4 x3 x4 ϵ v _ I4 r3 r4 q4) λnew s5 ⟨x5,H5,I5,r5,q5⟩=>?_;exact thn (hs Â s5 σ H5 x1 x2 x5 ov iv new _ I5 r1 r2 r5 q5) λ_ s6 ⟨H6,I6,q6⟩=>⟨σ,H6,I6,q6⟩
end
section
variable {X:Cx}{î:Pos}
abbrev IW(c:TT)(tb:TS):TS:=λD σ H=>∃W:Nat->St->Hp->Prop,(∃m,W m σ H)/\∀m σ H,W m σ H->
 c σ H λb H1=>if b=eP then ∃N:St->Hp->Prop,(∀ť H',N ť H'->∃m',m'<m/\W m' ť H')/\tb {D with nx:=N,ct:=N,bk:=D.nx} σ H1 else D.nx σ H1
def Ek{c:Expr}{body:List ň}{tc:TT}{tb:TS}(hp:Ω (à X.prog X.w) X.A X.env X.xe)(hc:PT X c tc)(hb:PSs X body tb):PS X (.While c body [] î)<|IW tc tb:=by
 intro Â s σ H D I h;let⟨W,⟨m0,w0⟩,turn⟩:=h;refine wpAny_While<|codeAny_whileLoop (λn s'=>∃ť H',Inv X Â ť H' s'/\W n ť H') ?_ m0 ⟨σ,H,I,w0⟩;rintro n s1 ⟨σ1,H1,I1,w1⟩;refine Ū hp<|thn (hc Â s1 σ1 H1 _ I1<|turn n σ1 H1 w1) λb s2 ⟨H2,I2,q2⟩=>?_;cases b with
 |true =>
  let⟨N,hN,q2⟩:=q2;rw[gw rfl];refine Ū hp<|thn (hb Â s2 σ1 H2 _ I2 q2) λf s3 q3=>?_;cases f with
  |next =>let⟨bF,H3,I3,n3⟩:=q3;let⟨m',hm,w3⟩:=hN bF H3 n3;exact⟨m',hm,bF,H3,I3,w3⟩
  |cont =>let⟨bF,H3,I3,n3⟩:=q3;let⟨m',hm,w3⟩:=hN bF H3 n3;exact⟨m',hm,bF,H3,I3,w3⟩
  |brk=>exact q3
  |ret v=>exact q3
 |false =>rw[gx ö];exact bX ⟨σ1,H2,I2,q2⟩
end
structure It where
 go:Nat->Hp->Prop
 yld:Nat->Hp->V->Hp->Prop
 stop:Nat->Hp->Prop
abbrev WL(X:Cx)(Â:List<|Ï×Obj)(H:Hp)(b:Ï):Prop :=
 H b=eN/\b≠X.env.locals/\b∉X.fs/\(b∈X.ex\/X.s₀.heap.objs.size<=b)/\(∀x c,X.env.cells.lookup x=eM c->c≠b)/\∀p∈X.pn++Â,p.1≠b
variable {s:Ç}
def Inv.fpOk{X:Cx}{Â:List (Ï×Obj)}{σ:St}{H H':Hp}{b:Ï}(I:Inv X Â σ H s)(hb:s.heap.objs.size<=b)(hn:H' b=eN):WL X Â H' b:=by
 refine⟨hn,Ų<|è I.lt hb,I.nofs hb,.inr<|Õ I.sz hb,λx c e z=>?_,λp hp z=>?_⟩
 .obtain⟨v,q⟩:=I.cell x c e;exact gB (è q.lt<|by rw[z];exact hb)<|Ĥ _
 .exact gB (è (Ü (I.pin p hp).1)<|by rw[z];exact hb)<|Ĥ _
structure Turn(P:ç)(w:þ)(K:Frag)(tg:Expr)(J:It)(fp:List Ï)(it:Ï)(tn:Nat->Ĉ->Prop):Prop where
 mem:it∈fp
 obj:∀i h,tn i h->∀b∈fp,∃o,h.get? b=eM o/\∀v,o.data≠.cell v
 keep:∀i h h',tn i h->(∀b∈fp,∀o,h.get? b=eM o->h'.get? b=eM o)->tn i h'
 item:∀(X:Cx),X.prog=P->X.w=w->X.K=K->X.calm=eP->∀(i:Nat) (Â:List<|Ï×Obj) (s:Ç) (σ:St) (H:Hp) (E:Ã->Ç->Prop),Inv X Â σ H s->(∀b∈fp,WL X Â H b)->tn i s.heap->J.go i H->
  wpAny (à P w) X.A (Ϝ<|.ref it) (λr s1=>∃u,r=eM u/\
    wpAny (à P w) X.A (ϲ tg (.ref it) u) (λ_ s2=>∃x H',Inv X Â σ H' s2/\RelV x u/\J.yld i H x H'/\tn (i+1) s2.heap/\∀b∈fp,H' b=eN) E s1) E s
 done:∀(X:Cx),X.prog=P->X.w=w->X.K=K->X.calm=eP->∀(i:Nat) (Â:List<|Ï×Obj) (s:Ç) (σ:St) (H:Hp) (E:Ã->Ç->Prop),Inv X Â σ H s->(∀b∈fp,WL X Â H b)->tn i s.heap->J.stop i H->
  wpAny (à P w) X.A (Ϝ<|.ref it) (λr s1=>r=eN/\Inv X Â σ H s1) E s
 self:∀(A:ĉ) (i:Nat) (s:Ç) (Q:Ã->Ç->Prop) (E:Ã->Ç->Prop),tn i s.heap->Q (.ref it) s->wpAny (à P w) A (d0<|.ref it) Q E s
noncomputable abbrev TI:=St->Hp->(It->Hp->Prop)->Prop
abbrev PIE(X:Cx)(Â:List<|Ï×Obj)(σ:St)(tg:Expr)(R:It->Hp->Prop)(itv:Ã)(s2:Ç):Prop :=
 ∃(it:Ï) (fp:List Ï) (tn:Nat->Ĉ->Prop) (J:It) (H':Hp),itv=.ref it/\Inv X Â σ H' s2/\Turn X.prog X.w X.K tg J fp it tn/\tn 0 s2.heap/\(∀b∈fp,WL X Â H' b)/\R J H'
abbrev PI(X:Cx)(tg ž:Expr)(wi:TI):Prop :=
 ∀(Â:List<|Ï×Obj) (s:Ç) (σ:St) (H:Hp) (R:It->Hp->Prop),Inv X Â σ H s->wi σ H R->
  wpAny (à X.prog X.w) X.A (eval ž X.env) (λv s1=>wpAny (à X.prog X.w) X.A (d0 v) (PIE X Â σ tg R) X.xe s1) X.xe s
variable {tg:Expr}
def eW{M:Model}{A:ĉ}{E:Ã->Ç->Prop}{it:Ï}{o:Obj}{n:String}{vs:Array Ã}{Q:Unit->Ç->Prop}(ho:s.heap.get? it=eM o)(hc:o.cls=.type n)(hd:o.data=.fields vs)
  (hn:["enumerate","zip","dict_itemiterator","dict_reverseitemiterator","odict_iterator","itertools.zip_longest","itertools.pairwise"].contains n=eQ) (hQ:Q () s):wpAny M A (ϲ tg (.ref it) u) Q E s:=by
 unfold ϲ;cases tg<;>first
  |exact È hQ
  | (cases u<;>first
      |exact È hQ
      | (refine Á (wpAny_load ho ?_)
         rw[hc,hd]
         show wpAny M A (if(["enumerate","zip","dict_itemiterator","dict_reverseitemiterator","odict_iterator","itertools.zip_longest","itertools.pairwise"].contains n&&vs[0]? == eM (ĩ _))=eP then _ else _) Q E s
         rw[gx<|by intro h;rw[hn,ϥ]at h;cases h]
         exact È hQ))
abbrev Itl(K:Frag)(a:Ï):It :=
 ⟨λi H=>∃xs x,fZ K H a xs/\xs[i]?=eM x,λi H x H'=>H'=H/\∀xs,fZ K H a xs->xs[i]?=eM x,λi H=>∃xs,fZ K H a xs/\xs.length<=i⟩
abbrev Itt(K:Frag)(a:Ï):It :=
 ⟨λi H=>∃xs x,gf K H a xs/\xs[i]?=eM x,λi H x H'=>H'=H/\∀xs,gf K H a xs->xs[i]?=eM x,λi H=>∃xs,gf K H a xs/\xs.length<=i⟩
abbrev Itr(lo:Int)(n:Nat):It:=⟨λi _=>i<n,λi H x H'=>H'=H/\x=.int (lo+i),λi _=>n<=i⟩
variable {P:ç} {w:þ}
def BA{K:Frag}(a it:Ï):Turn P w K tg (Itl K a) [it] it (λi h=>h.IsListIter it a i) where
 mem:=by simp
 obj:=λi h st b hb=>by
  have e:b=it:=⇑hb
  subst e;let⟨o,e,c,d⟩:=st;exact⟨o,e,λv z=>by rw[d]at z;cases z⟩
 keep:=λi h h' st k=>st.at λo e=>k it (by simp) o e
 item:=by intro X hP hw hK hc i Â s σ H E I hf st hg;subst hP hw hK;let⟨xs,x,hq,hx⟩:=hg;let⟨õ,rv,p,hz⟩:=I.list hq;let⟨u,hu,ru⟩:=rv.get hx;let⟨f0,f1,f2,f3,f4,f5⟩:=hf it (by simp);refine wpAny_pyNext_list_item st p.isList (x:=u) ⇑hu λh' dP sb=>?_;have I1:Inv X Â σ H {s with heap:=h'}:=I.turned (t':=s.toks) (λb o hb e=>(sb.2 b hb).trans e) f0 f1 f3 f4 f5;let⟨o,e,c,d⟩:=id dP;exact⟨u,rfl,eW (s:={s with heap:=h'}) e c d (by decide) ⟨x,H,I1,ru,⟨rfl,λys hy=>by rw[I.list_inj hy hq];exact hx⟩,dP,λb hb=>(hf b hb).1⟩⟩
 done:=by intro X hP hw hK hc i Â s σ H E I hf st hg;subst hP hw hK;let⟨xs,hq,hx⟩:=hg;let⟨õ,rv,p,hz⟩:=I.list hq;let⟨f0,f1,f2,f3,f4,f5⟩:=hf it (by simp);have hl:=rv.length;exact wpAny_pyNext_list_end (I.ok.hd hc) st p.isList (by simp;lia) λh' eb=>⟨rfl,I.turned (t':=s.toks) (λb o hb e=>eb b o hb e) f0 f1 f3 f4 f5⟩
 self:=λ_ _ _ _ _ st h=>wpAny_pyIter_listiter st h
def OX{K:Frag}(a it:Ï):Turn P w K tg (Itt K a) [it] it (λi h=>h.IsTupleIter it a i) where
 mem:=by simp
 obj:=λi h st b hb=>by
  have e:b=it:=⇑hb
  subst e;let⟨o,e,c,d⟩:=st;exact⟨o,e,λv z=>by rw[d]at z;cases z⟩
 keep:=λi h h' st k=>st.at λo e=>k it (by simp) o e
 item:=by intro X hP hw hK hc i Â s σ H E I hf st hg;subst hP hw hK;let⟨xs,x,hq,hx⟩:=hg;let⟨õ,rv,p,hz⟩:=I.tuple hq;let⟨u,hu,ru⟩:=rv.get hx;let⟨f0,f1,f2,f3,f4,f5⟩:=hf it (by simp);refine wpAny_pyNext_tuple_item st (show s.heap.IsTuple a õ.toArray from p) (x:=u) ⇑hu λh' dP sb=>?_;have I1:Inv X Â σ H {s with heap:=h'}:=I.turned (t':=s.toks) (λb o hb e=>(sb.2 b hb).trans e) f0 f1 f3 f4 f5;let⟨o,e,c,d⟩:=id dP;exact⟨u,rfl,eW (s:={s with heap:=h'}) e c d (by decide) ⟨x,H,I1,ru,⟨rfl,λys hy=>by rw[I.tuple_inj hy hq];exact hx⟩,dP,λb hb=>(hf b hb).1⟩⟩
 done:=by intro X hP hw hK hc i Â s σ H E I hf st hg;subst hP hw hK;let⟨xs,hq,hx⟩:=hg;let⟨õ,rv,p,hz⟩:=I.tuple hq;let⟨f0,f1,f2,f3,f4,f5⟩:=hf it (by simp);have hl:=rv.length;exact wpAny_pyNext_tuple_end (I.ok.hd hc) st (show s.heap.IsTuple a õ.toArray from p) (by simp;lia) λh' eb=>⟨rfl,I.turned (t':=s.toks) (λb o hb e=>eb b o hb e) f0 f1 f3 f4 f5⟩
 self:=λ_ _ _ _ _ st h=>wpAny_pyIter_tupleiter st h
def O5{K:Frag}(it:Ï)(lo:Int)(n:Nat):Turn P w K tg (Itr lo n) [it] it (λi h=>IsRangeIter h it (lo+(i:Nat)*1) ((n:Int) - (i:Nat)) 1) where
 mem:=by simp
 obj:=λi h st b hb=>by
  have e:b=it:=⇑hb
  subst e;exact⟨_,st,λv z=>by
    have z':Data.fields _=Data.cell v:=z
    cases z'⟩
 keep:=λi h h' st k=>k it (by simp) _ st
 item:=by intro X hP hw hK hc i Â s σ H E I hf st hg;subst hP hw hK;let⟨f0,f1,f2,f3,f4,f5⟩:=hf it (by simp);have W:=Walks.range (prog:=X.prog) (w:=X.w) (I.ok.hd hc) it lo 1 n;refine W.item i s _ _ hg st λv h' tk hv dP kk=>?_;let⟨t,rfl⟩:=hv;have I1:Inv X Â σ H {s with heap:=h',toks:=tk}:=I.turned (λb o hb e=>kk b o ⇑hb e) f0 f1 f3 f4 f5;refine⟨_,rfl,eW (s:={s with heap:=h',toks:=tk}) (n:="range_iterator") dP rfl rfl (by decide) ⟨.int<|lo+i,H,I1,⟨t,?_⟩,⟨rfl,rfl⟩,dP,λb hb=>(hf b hb).1⟩⟩;rw[Int.mul_one]
 done:=by intro X hP hw hK hc i Â s σ H E I hf st hg;subst hP hw hK;let⟨f0,f1,f2,f3,f4,f5⟩:=hf it (by simp);exact wpAny_pyNext_range_end (I.ok.hd hc) st (by have:n<=i:=hg;lia) λh' eb=>⟨rfl,I.turned (t':=s.toks) (λb o hb e=>eb b o hb e) f0 f1 f3 f4 f5⟩
 self:=λ_ _ _ _ _ st h=>wpAny_pyIter_rangeiter st h
section
variable {X:Cx}{tg:Expr}
variable {Â:List (Ï×Obj)} {σ:St} {H:Hp} {s:Ç}
def Ez{R:It->Hp->Prop}{E:Ã->Ç->Prop}{lo hi:Int}{t u v:Tok}{tk:Nat}(I:Inv X Â σ H s)(h1:-(2 ^ 62)<=lo)(h2:lo<2 ^ 62)(h3:-(2 ^ 62)<=hi)(h4:hi<2 ^ 62)
  (q:R (Itr lo (hi - lo).toNat) H):wpAny (à X.prog X.w) X.A (d0<|.ref s.heap.objs.size) (PIE X Â σ tg R) E {s with heap:=s.heap.push {cls:=.type "range",data:=.fields #[.int lo t,.int hi u,.int 1 v]},toks:=tk}:=by
 refine wpAny_pyIter_range (IsRange.new ..) (small_one h1 h2 h3 h4) ?_;have I1:Inv X Â σ H { s with heap:=s.heap.push { cls:=.type "range",data:=.fields #[.int lo t,.int hi u,.int 1 v] },toks:=tk }:=I.kept λb o e=>Å _ e;refine⟨(s.heap.push { cls:=.type "range",data:=.fields #[.int lo t,.int hi u,.int 1 v] }).objs.size,[(s.heap.push { cls:=.type "range",data:=.fields #[.int lo t,.int hi u,.int 1 v] }).objs.size],_,_,H,rfl,
   I1.kept (t':=tk) λb o e=>Å _ e,O5 _ lo (hi - lo).toNat,?_,λb hb=>?_,q⟩
 .have e1:lo+((0:Nat):Int)*1=lo:=by simp
  have e2:(((hi - lo).toNat:Nat):Int) - ((0:Nat):Int)=Builtin.Range.rangeSize lo hi 1:=by rw[rangeSize_one];split<;>lia
  show IsRangeIter _ _ (lo+((0:Nat):Int)*1) ((((hi - lo).toNat:Nat):Int) - ((0:Nat):Int)) 1;rw[e1,e2];exact Ù _ rfl
 .have e:b=(s.heap.push {cls:=.type "range",data:=.fields #[.int lo t,.int hi u,.int 1 v]}).objs.size:=⇑hb
  subst e;exact I1.fpOk (Ó _)<|I1.hok.fresh<|Ó _
abbrev Qh(ta:TA):TI:=λσ H R=>ta σ H λvs H1=>∃j:Int,vs=[.int j]/\-(2 ^ 62)<=j/\j<2 ^ 62/\R (Itr 0 j.toNat) H1
variable {î:Pos}
def BX{a:Expr}{ta:TA}{p:Pos}(hg:Gl X "range")(hm:X.mg "range" = eN)(ha:PA X [a] ta)(hs:ß [a] X.env=[(eQ,eval a X.env)]:=by rfl):PI X tg (.Call (.Name "range" p) [a] [] î)<|Qh ta:=by
 intro Â s σ H R I h;refine Call_<|Xp I hg hm boot_range<|PyProof.Rows.callWith_type1 (thn (ha î Â s σ H _ I h) λus s1 ⟨vs,H1,I1,r1,q1⟩=>?_) hs rfl;let⟨j,e,q1,q2,q⟩:=q1;subst e;cases r1 with
 |cons r rr =>cases rr;let⟨t,rfl⟩:=r;exact call_range_1 (Ez I1 (by lia) (by lia) q1 q2<|by simpa using q)
abbrev SE(wi:TI)(g:TG)(tb:TS):TS:=λD σ H=>wi σ H λJ H1=>∃W:Nat->Nat->St->Hp->Prop,(∃m,W 0 m σ H1)/\∀i m σ H,W i m σ H->
 (J.stop i H/\D.nx σ H)\/(J.go i H/\∃N:St->Hp->Prop,(∀ť H',N ť H'->∃m',m'<m/\W (i+1) m' ť H')/\∀x H',J.yld i H x H'->g x σ H' λσ2 H2=>tb {D with nx:=N,ct:=N,bk:=D.nx} σ2 H2)
abbrev XO(fp:List Ï)(h:Ĉ):List<|Ï×Obj:=fp.filterMap λb=>(h.get? b).map λo=>(b,o)
variable {fp:List Ï} {h:Ĉ}
def Z0{b:Ï}{o:Obj}(hb:b∈fp)(e:h.get? b=eM o):(b,o)∈XO fp h:=Ź.mpr ⟨b,hb,by rw[e];rfl⟩
def KY{p:Ï×Obj}(hp:p∈XO fp h):p.1∈fp/\h.get? p.1=eM p.2:=by
 let⟨b,hb,e⟩:=Ź.mp hp;cases q:h.get? b with
 |none=>rw[q]at e;cases e
 |some o =>rw[q]at e;have e':(b,o)=p:=ñ e;subst e';exact⟨hb,q⟩
def Inv.pinned(I:Inv X Â σ H s)(hf:∀b∈fp,WL X Â H b)(ho:∀b∈fp,∃o,s.heap.get? b=eM o/\∀v,o.data≠.cell v):Inv X (Â++XO fp s.heap) σ H s :=
 I.pins_of λp hp=>(â.mp hp).elim (λz=>I.pin p<|Ê _ z) λz=>by let⟨hb,e⟩:=KY z;let⟨f0,f1,f2,_⟩:=hf p.1 hb;let⟨o,e',d⟩:=ho p.1 hb;rw[e]at e';cases e';exact⟨e,f0,f1,f2,d⟩
def Inv.unpinned{pl:List (Ï×Obj)}(I:Inv X (Â++pl) σ H s):Inv X Â σ H s:=I.pins_of λp hp=>I.pin p (Ê _<|Þ _ hp)
def D8{ž:Expr}{body:List ň}{wi:TI}{g:TG}{tb:TS}(hp:Ω (à X.prog X.w) X.A X.env X.xe)(hc:X.calm=eP)(hi:PI X tg ž wi)(hg:PG X tg g)(hb:PSs X body tb)
  (hs:∀x,Ę ž X.env x=pure x:=by intro _;rfl):PS X (.For tg ž body [] î)<|SE wi g tb:=by
 intro Â s σ H D I h;refine wpAny_For (thn (hi Â s σ H _ I h) λv s1 h1=>thn h1 λitv s2 h2=>?_) hs;let⟨it,fp,tn,J,H2,e,I2,T,st2,f2,W,⟨m0,w0⟩,turn⟩:=h2;subst e;have stat:∀{H':Hp},(∀b∈fp,H' b=eN)->∀b∈fp,WL X Â H' b:=λhn b hb=>⟨hn b hb,(f2 b hb).2⟩
 refine codeAny_forLoop_any (λn s'=>∃i ť H',Inv X Â ť H' s'/\tn i s'.heap/\(∀b∈fp,H' b=eN)/\W i n ť H') ?_ m0 ⟨0,σ,H2,I2,st2,λb hb=>(f2 b hb).1,w0⟩;rintro n s3 ⟨i,bF,H3,I3,st3,fr3,w3⟩;rcases turn i n bF H3 w3 with⟨stop,qn⟩|⟨go,N,hN,step⟩
 .refine Ū hp<|thn (T.done X rfl rfl rfl hc i Â s3 bF H3 X.xe I3 (stat fr3) st3 stop) λr s4 ⟨hr,I4⟩=>?_;subst hr;exact bX ⟨bF,H3,I4,qn⟩
 .refine Ū hp<|thn (T.item X rfl rfl rfl hc i Â s3 bF H3 X.xe I3 (stat fr3) st3 go) λr s4 ⟨u,hr,h4⟩=>?_;subst hr;refine Ū hp<|thn h4 λ_ s5 ⟨x,H5,I5,r5,y5,st5,fr5⟩=>?_;have I5':=I5.pinned (stat fr5)<|T.obj _ _ st5;refine Ū hp<|thn (hg _ s5 bF H5 x u _ I5' r5<|step x H5 y5) λ_ s6 ⟨σ6,H6,I6,q6⟩=>?_;refine Ū hp<|thn (hb _ s6 σ6 H6 _ I6 q6) λf s7 q7=>?_;have again:∀{bG:St}{H7:Hp},Inv X (Â++XO fp s5.heap) bG H7 s7->N bG H7->∃m,m<n/\∃i ť H',Inv X Â ť H' s7/\tn i s7.heap/\(∀b∈fp,H' b=eN)/\W i m ť H':=λ{bG H7} I7 n7=>by
   let⟨m',hm,w7⟩:=hN bG H7 n7;refine⟨m',hm,i+1,bG,H7,I7.unpinned,T.keep _ _ _ st5 λb hb o e=>(I7.pin (b,o)<|Ê _<|Ê _<|Z0 hb e).1,λb hb=>?_,w7⟩;let⟨o,e,d⟩:=T.obj _ _ st5 b hb;exact(I7.pin (b,o)<|Ê _<|Ê _<|Z0 hb e).2.1
  cases f with
  |next=>let⟨bG,H7,I7,n7⟩:=q7;exact again I7 n7
  |cont=>let⟨bG,H7,I7,n7⟩:=q7;exact again I7 n7
  |brk=>let⟨bG,H7,I7,q7⟩:=q7;exact⟨bG,H7,I7.unpinned,q7⟩
  |ret v=>let⟨x7,bG,H7,I7,r7,q7⟩:=q7;exact⟨x7,bG,H7,I7.unpinned,r7,q7⟩
end
noncomputable abbrev R2:=V->V->Hp->VK->Prop
abbrev OpR(X:Cx)(f:Ã->Ã->Sem Ã)(r:R2):Prop :=
 ∀(Â:List<|Ï×Obj) (s:Ç) (σ:St) (H:Hp) (x y:V) (v u:Ã) (Q:VK),Inv X Â σ H s->RelV x v->RelV y u->r x y H Q->
  wpAny (à X.prog X.w) X.A (f v u) (EP X Â σ Q) X.xe s
abbrev UnR(X:Cx)(f:Ã->Sem Ã)(r:V->Hp->VK->Prop):Prop :=
 ∀(Â:List<|Ï×Obj) (s:Ç) (σ:St) (H:Hp) (x:V) (v:Ã) (Q:VK),Inv X Â σ H s->RelV x v->r x H Q->
  wpAny (à X.prog X.w) X.A (f v) (EP X Â σ Q) X.xe s
abbrev eZ(X:Cx)(f:Ã)(r:List V->Hp->VK->Prop):Prop :=
 ∀(Â:List<|Ï×Obj) (s:Ç) (σ:St) (H:Hp) (xs:List V) (us:List Ã) (Q:VK),Inv X Â σ H s->gg xs us->r xs H Q->
  wpAny (à X.prog X.w) X.A (call f us) (EP X Â σ Q) X.xe s
abbrev Sw(X:Cx)(r:V->Hp->(Bool->Hp->Prop)->Prop):Prop :=
 ∀(Â:List<|Ï×Obj) (s:Ç) (σ:St) (H:Hp) (x:V) (v:Ã) (Q:Bool->Hp->Prop),Inv X Â σ H s->RelV x v->r x H Q->
  wpAny (à X.prog X.w) X.A (truthy v) (TP X Â σ Q) X.xe s
abbrev tOp(r:R2)(ta tb:TE):TE:=λσ H Q=>ta σ H λx H1=>tb σ H1 λy H2=>r x y H2 Q
abbrev tUn(r:V->Hp->VK->Prop)(ta:TE):TE:=λσ H Q=>ta σ H λx H1=>r x H1 Q
abbrev rI(C:Int->Int->Prop)(g:Int->Int->V):R2:=λx y H Q=>∃i j,x=.int i/\y=.int j/\C i j/\Q (g i j) H
abbrev rI0(g:Int->Int->V):R2:=λx y H Q=>∃i j,x=.int i/\y=.int j/\Q (g i j) H
abbrev rU(g:Int->V):V->Hp->VK->Prop:=λx H Q=>∃i,x=.int i/\Q (g i) H
section
variable {X:Cx}{a b c:Expr}{ta tb tc:TE}{î:Pos}
variable {f:Ã->Ã->Sem Ã}
def IG(ha:PE X a ta)(hb:PE X b tb){Â:List (Ï×Obj)}{s:Ç}{σ:St}{H:Hp}{R:V->V->Hp->Prop}(I:Inv X Â σ H s)
  (h:ta σ H λx H1=>tb σ H1 λy H2=>R x y H2){Q:Ã->Ç->Prop} 
  (hf:∀v u s2 x y H2,Inv X Â σ H2 s2->RelV x v->RelV y u->R x y H2->wpAny (à X.prog X.w) X.A (f v u) Q X.xe s2) :
  wpAny (à X.prog X.w) X.A (eval a X.env) (λv ģ=>wpAny (à X.prog X.w) X.A (eval b X.env) (λu b6=>wpAny (à X.prog X.w) X.A (f v u) Q X.xe b6) X.xe ģ) X.xe s:=by
 refine thn (ha Â s σ H _ I h) λv s1 ⟨x,H1,I1,r1,q1⟩=>?_;refine thn (hb Â s1 σ H1 _ I1 q1) λu s2 ⟨y,H2,I2,r2,q2⟩=>?_;exact hf v u s2 x y H2 I2 r1 r2 q2
def QC{op:ϡ}{r:R2}(ho:OpR X (œ op) r)(ha:PE X a ta)(hb:PE X b tb):PE X (.BinOp a op b î)<|tOp r ta tb:=by intro Â s σ H Q I h;exact wpAny_BinOp (IG ha hb I h λv u s2 x y H2 I2 rx ry q=>ho Â s2 σ H2 x y v u Q I2 rx ry q)
def QQ{op:UnaryOp}{r:V->Hp->VK->Prop}(ho:UnR X (unaryOp op) r)(ha:PE X a ta):PE X (.UnaryOp op a î)<|tUn r ta:=by intro Â s σ H Q I h;exact UnaryOp_ (thn (ha Â s σ H _ I h) λv s1 ⟨x,H1,I1,r1,q1⟩=>ho Â s1 σ H1 x v Q I1 r1 q1)
variable {g:Int->Int->Int}
def opI{C:Int->Int->Prop} 
  (rule:∀(i j:Int) (t u:Tok) (s:Ç) (Q:Ã->Ç->Prop) (E:Ã->Ç->Prop),C i j->Q (.int (g i j) s.toks) {s with toks:=s.toks+1}->wpAny (à X.prog X.w) X.A (f (.int i t)<|.int j u) Q E s) :
  OpR X f (rI C λi j=>.int<|g i j):=by
 intro Â s σ H x y v u Q I rx ry h;let⟨i,j,rfl,rfl,hc,q⟩:=h;let⟨t,rfl⟩:=rx;let⟨t',rfl⟩:=ry;exact rule i j t t' s _ _ hc ⟨.int<|g i j,H,I.tok _,⟨_,rfl⟩,q⟩
def RL  
  (rule:∀(i j:Int) (t u:Tok) (s:Ç) (Q:Ã->Ç->Prop) (E:Ã->Ç->Prop),Q (.int (g i j) s.toks) {s with toks:=s.toks+1}->wpAny (à X.prog X.w) X.A (f (.int i t)<|.int j u) Q E s) :
  OpR X f (rI0 λi j=>.int<|g i j):=by
 intro Â s σ H x y v u Q I rx ry h;let⟨i,j,rfl,rfl,q⟩:=h;let⟨t,rfl⟩:=rx;let⟨t',rfl⟩:=ry;exact rule i j t t' s _ _ ⟨.int<|g i j,H,I.tok _,⟨_,rfl⟩,q⟩
def Gm{g:Int->Int->Bool}
  (rule:∀(i j:Int) (t u:Tok) (s:Ç) (Q:Ã->Ç->Prop) (E:Ã->Ç->Prop),Q (.bool<|g i j) s->wpAny (à X.prog X.w) X.A (f (.int i t)<|.int j u) Q E s) :
  OpR X f (rI0 λi j=>.bl<|g i j):=by
 intro Â s σ H x y v u Q I rx ry h;let⟨i,j,rfl,rfl,q⟩:=h;let⟨t,rfl⟩:=rx;let⟨t',rfl⟩:=ry;exact rule i j t t' s _ _ ⟨.bl<|g i j,H,I,rfl,q⟩
abbrev Rq(i j:Int):Prop:=0<j/\j<1073741824
abbrev RP(i j:Int):Prop:=0<=j/\j<=1000000/\i.natAbs<2 ^ 64
def op_add:OpR X (œ .Add)<|rI0 λi j=>.int<|i+j:=RL λ_ _ _ _ _ _ _ q=>add_int q
def IM:OpR X (œ .Sub)<|rI0 λi j=>.int<|i - j:=RL λ_ _ _ _ _ _ _ q=>sub_int q
def Fm:OpR X (œ .FloorDiv)<|rI Rq λi j=>.int<|i / j:=opI λi j _ _ _ _ _ hc q=>by have h1:(0:Int)<j:=hc.1;have h2:j<1073741824:=hc.2;exact floordiv_int (by lia) (by rw[Int.fdiv_eq_ediv_of_nonneg i<|by lia];exact q) (.inl<|PyProof.noPylong_small<|by lia)
def I0:OpR X (œ .Mod)<|rI (λ_ j=>0<j) λi j=>.int<|i % j:=opI λi j _ _ _ _ _ hc q=>by have h1:(0:Int)<j:=hc;exact mod_int' (by lia) (by rw[Int.fmod_eq_emod_of_nonneg i<|by lia];exact q)
def Pe:OpR X (œ .Pow)<|rI RP λi j=>.int<|i ^ j.toNat:=opI λ_ _ _ _ _ _ _ hc q=>pow_int_small hc.1 hc.2.1 hc.2.2 q
def unI{f:Ã->Sem Ã}{g:Int->Int}
  (rule:∀(i:Int) (t:Tok) (s:Ç) (Q:Ã->Ç->Prop) (E:Ã->Ç->Prop),Q (.int (g i) s.toks) {s with toks:=s.toks+1}->wpAny (à X.prog X.w) X.A (f<|.int i t) Q E s) :
  UnR X f (rU λi=>.int<|g i):=by
 intro Â s σ H x v Q I rx h;let⟨i,rfl,q⟩:=h;let⟨t,rfl⟩:=rx;exact rule i t s _ _ ⟨.int<|g i,H,I.tok _,⟨_,rfl⟩,q⟩
def LD:UnR X (unaryOp .USub)<|rU λi=>.int (-i):=unI λ_ _ _ _ _ q=>neg_int q
end
section
variable {X:Cx}{a b c:Expr}{ta tb tc:TE}{î:Pos}
def Io{Â:List (Ï×Obj)}{σ:St}{H:Hp}{s:Ç}{Q:VK}{k k':Bool}(I:Inv X Â σ H s)(q:Q (.bl k) H)(e:k=k'):EP X Â σ Q (.bool k') s:=by subst e;exact⟨.bl k,H,I,rfl,q⟩
def op_lt:OpR X (ï .Lt)<|rI0 λi j=>.bl<|gC (i<j):=Gm λ_ _ _ _ _ _ _ q=>lt_int q
def RG:OpR X (ï .LtE)<|rI0 λi j=>.bl<|gC (i<=j):=Gm λ_ _ _ _ _ _ _ q=>le_int q
def op_gt:OpR X (ï .Gt)<|rI0 λi j=>.bl<|gC (j<i):=Gm λ_ _ _ _ _ _ _ q=>gt_int q
def Rt:OpR X (ï .GtE)<|rI0 λi j=>.bl<|gC (j<=i):=Gm λ_ _ _ _ _ _ _ q=>ge_int q
def A0:OpR X (ï .In) λx y H Q=>∃i j,x=.str i/\y=.str j/\Q (.bl (!(Builtin.Str.occurrences j i 0 j.length 1).isEmpty)) H:=by intro Â s σ H x y v u Q I rx ry h;let⟨i,j,rfl,rfl,q⟩:=h;let⟨t,rfl⟩:=rx;let⟨t',rfl⟩:=ry;exact in_str (Io I q rfl)
variable {r:R2} {r':R2}
def OpR.or{f:Ã->Ã->Sem Ã}(h:OpR X f r)(h':OpR X f r'):OpR X f λx y H Q=>r x y H Q\/r' x y H Q:=by
 intro Â s σ H x y v u Q I rx ry q;rcases q with q|q
 .exact h Â s σ H x y v u Q I rx ry q
 .exact h' Â s σ H x y v u Q I rx ry q
variable {op:cy}
def Ac(ho:OpR X (ï op) r)(ha:PE X a ta)(hb:PE X b tb)(hm:Ņ op b=eQ):PE X (.Compare a [op] [b] î)<|tOp r ta tb:=by intro Â s σ H Q I h;exact wpAny_Compare1 (IG ha hb I h λv u s2 x y H2 I2 rx ry q=>ho Â s2 σ H2 x y v u Q I2 rx ry q) hm
abbrev HB(t:TE):TT:=λσ H Q=>t σ H λx H'=>∃k,x=.bl k/\Q k H'
def Aa(ho:OpR X (ï op) r)(ha:PE X a ta)(hb:PE X b tb)(hm:Ņ op b=eQ):PT X (.Compare a [op] [b] î)<|HB<|tOp r ta tb:=by
 intro Â s σ H Q I h;refine wpAny_isTrue_Compare1 (thn (ha Â s σ H _ I h) λv s1 ⟨x,H1,I1,r1,q1⟩=>thn (hb Â s1 σ H1 _ I1 q1) λu s2 ⟨y,H2,I2,r2,q2⟩ =>
   thn (ho Â s2 σ H2 x y v u _ I2 r1 r2 q2) λc s3 ⟨z,H3,I3,r3,k,e,q3⟩=>?_) hm
 subst e;cases r3;exact Č ⟨H3,I3,q3⟩
abbrev D1(r r':R2)(ta tb tc:TE):TE:=λσ H Q=>ta σ H λx H1=>tb σ H1 λy H2=>r x y H2 λz H3=>∃k,z=.bl k/\
 (if k=eP then tc σ H3 λw' H4=>r' y w' H4 Q else Q (.bl eQ) H3)
variable {du:cy}
def C3(ho:OpR X (ï op) r)(aG:OpR X (ï du) r')(ha:PE X a ta)(hb:PE X b tb)(hc:PE X c tc)
  (hm:bx [op,du] [b,c]=eQ:=by with_unfolding_all rfl):PE X (.Compare a [op,du] [b,c] î)<|D1 r r' ta tb tc:=by
 intro Â s σ H Q I h;refine Compare_chain (thn (ha Â s σ H _ I h) λv s1 ⟨x,H1,I1,r1,q1⟩=>chain_link (thn (hb Â s1 σ H1 _ I1 q1) λu s2 ⟨y,H2,I2,r2,q2⟩ =>
   thn (ho Â s2 σ H2 x y v u _ I2 r1 r2 q2) λd s3 ⟨z,H3,I3,r3,k,e,q3⟩=>?_)) hm
 subst e;cases r3;refine Č ?_;cases k with
 |false=>exact ite_ff ⟨.bl eQ,H3,I3,rfl,q3⟩
 |true=>exact ite_tt<|chain_last<|thn (hc Â s3 σ H3 _ I3 q3) λw' s4 ⟨z',H4,I4,r4,q4⟩=>aG Â s4 σ H4 y z' u w' Q I4 r2 r4 q4
def Di(ho:OpR X (ï op) r)(aG:OpR X (ï du) r')(ha:PE X a ta)(hb:PE X b tb)(hc:PE X c tc)
  (hm:bx [op,du] [b,c]=eQ:=by with_unfolding_all rfl):PT X (.Compare a [op,du] [b,c] î)<|HB<|D1 r r' ta tb tc:=by
 intro Â s σ H Q I h;refine isTrue_chain (thn (ha Â s σ H _ I h) λv s1 ⟨x,H1,I1,r1,q1⟩=>test_link (thn (hb Â s1 σ H1 _ I1 q1) λu s2 ⟨y,H2,I2,r2,q2⟩ =>
   thn (ho Â s2 σ H2 x y v u _ I2 r1 r2 q2) λd s3 ⟨z,H3,I3,r3,k,e,q3⟩=>?_)) hm
 subst e;cases r3;refine Č ?_;cases k with
 |false =>let⟨k',e',q'⟩:=q3;cases e';exact ite_ff ⟨H3,I3,q'⟩
 |true =>refine ite_tt<|test_last<|thn (hc Â s3 σ H3 _ I3 q3) λw' s4 ⟨z',H4,I4,r4,q4⟩=>thn (aG Â s4 σ H4 y z' u w' _ I4 r2 r4 q4) λd' s5 ⟨z2,H5,I5,r5,k2,e2,q5⟩=>?_;subst e2;cases r5;exact Č ⟨H5,I5,q5⟩
abbrev Q9(K:Frag)(x:V)(H:Hp)(k:Bool):Prop :=
 match x with
 |.non=>k=eQ
 |.bl b=>k=b
 |.int i=>k=(i != 0)
 |.str y=>y.length<=Ý/\k=((y.length:Int) != 0)
 |.byt y=>y.size<=Ý/\k=((y.size:Int) != 0)
 |.ref p=>(∃xs,fZ K H p xs/\k=!xs.isEmpty)\/(∃xs,gf K H p xs/\k=!xs.isEmpty)\/∃kvs,H p=eM (.dK kvs)/\k=!kvs.isEmpty
 |_=>False
def Ud{κ:Type}{kvs:List (κ×V)}{vs:List (κ×Ã)}(r:KV kvs vs):(!vs.isEmpty)=!kvs.isEmpty:=by cases r<;>rfl
def Ks{xs:List V}{õ:List Ã}(r:gg xs õ):(!õ.toArray.isEmpty)=!xs.isEmpty:=by cases r<;>simp
def Xn:(Ý:Nat)<2 ^ 63:=by rw[ah];decide
def P0:Sw X λx H Q=>∃k,Q9 X.K x H k/\Q k H:=by
 intro Â s σ H x v Q I rx h;let⟨k,e,q⟩:=h;have hl:=Xn;have hs:Ý=16777216:=ah;cases x with
 |non =>cases rx;have e':k=eQ:=e;subst e';exact truthy_none ⟨H,I,q⟩
 |bl b =>cases rx;have e':k=b:=e;subst e';exact Č ⟨H,I,q⟩
 |int i =>let⟨t,rfl⟩:=rx;have e':k=(i != 0):=e;subst e';exact PySem.P.truthy_int ⟨H,I,q⟩
 |str y =>let⟨t,rfl⟩:=rx;obtain⟨hy,e'⟩:y.length<=Ý/\k=((y.length:Int) != 0):=e;subst e';exact PySem.P.truthy_str (by lia) ⟨H,I.tok _,q⟩
 |byt y =>let⟨t,rfl⟩:=rx;obtain⟨hy,e'⟩:y.size<=Ý/\k=((y.size:Int) != 0):=e;subst e';exact PySem.W.truthy_bytes (by lia) ⟨H,I.tok _,q⟩
 |ref p =>
  cases rx;have e':(∃xs,fZ X.K H p xs/\k=!xs.isEmpty)\/(∃xs,gf X.K H p xs/\k=!xs.isEmpty)\/∃kvs,H p=eM (.dK kvs)/\k=!kvs.isEmpty:=e;rcases e' with⟨xs,hx,e'⟩|⟨xs,hx,e'⟩|⟨kvs,hx,e'⟩
  .subst e';let⟨õ,r,pl,hz⟩:=I.list hx;have hlen:=r.length;exact wpAny_truthy_list pl.isList (by simp only[Ð];lia) ⟨H,I.tok _,by rw[Ks r];exact q⟩
  .subst e';let⟨õ,r,pl,hz⟩:=I.tuple hx;have hlen:=r.length;exact truthy_tuple pl (by simp only[Ð];lia) ⟨H,I.tok _,by rw[Ks r];exact q⟩
  .subst e';obtain⟨hz,hS,vs,r,m⟩:kvs.length<=Ý/\(p==Ŧ)=eQ/\∃vs,KV kvs vs/\s.heap.DictOf (Zj X.prog X.w) p vs:=I.hok p _ hx;have hlen:kvs.length=vs.length:=Paired.length r;exact wpAny_truthy_dict hS m (by lia) ⟨H,I.tok _,by rw[Ud r];exact q⟩
 |_=>exact(show False from e).elim
def Ci(ha:PE X a ta)(he:∀aN,cx a X.env aN=(do let v<-aN;ϔ a.pos;Ŝ [v] (truthy v))) :
  PT X a (λσ H Q=>ta σ H λx H'=>∃k,Q9 X.K x H' k/\Q k H'):=by
 intro Â s σ H Q I h;exact isTrue_plain (thn (ha Â s σ H _ I h) λv s1 ⟨x,H1,I1,r1,q1⟩=>P0 Â s1 σ H1 x v Q I1 r1 q1)<|he _
def Uw:OpR X (œ .Add) λx y H Q=>∃i j,x=.str i/\y=.str j/\i.length+j.length<=Ý/\Q (.str<|i++j) H:=by intro Â s σ H x y v u Q I rx ry h;let⟨i,j,rfl,rfl,hz,q⟩:=h;let⟨t,rfl⟩:=rx;let⟨t',rfl⟩:=ry;exact add_str (λt' tk=>⟨.str<|i++j,H,I.tok _,⟨_,rfl⟩,q⟩) hz
variable {x:V} {us:List Ã}
def Yo(r:gg [x] us):∃u,us=[u]/\RelV x u:=by
 cases r with
 |cons r1 r2=>cases r2;exact⟨_,rfl,r1⟩
def HC{y:V}(r:gg [x,y] us):∃u w',us=[u,w']/\RelV x u/\RelV y w':=by
 cases r with
 |cons r1 r2 =>
  cases r2 with
  |cons r3 r4=>cases r4;exact⟨_,_,rfl,r1,r3⟩
def call_int1:eZ X (.type "int") λxs H Q=>(∃i,xs=[.int i]/\Q (.int i) H)\/∃k,xs=[.bl k]/\Q (.int<|if k then 1 else 0) H:=by
 intro Â s σ H xs us Q I r h;rcases h with⟨i,rfl,q⟩|⟨k,rfl,q⟩
 .obtain⟨u,rfl,t,rfl⟩:=Yo r;exact call_int_int ⟨.int i,H,I,⟨_,rfl⟩,q⟩
 .obtain⟨u,rfl,r1⟩:=Yo r;cases r1;exact call_int_bool ⟨.int (if k then 1 else 0),H,I.tok _,⟨_,rfl⟩,q⟩
end
structure ObjM(h:Ĉ)(x dx C:Ï)(mA:Str->Option Ã):Prop where
 obj:h.get? x=eM (PySem.W.instObj C dx)
 ns:h.Ns1 dx mA
 ne:dx≠x
variable {h:Ĉ} {dx:Ï} {mA:Str->Option Ã}
def BE(n:h.Ns1 dx mA):∃od,h.get? dx=eM od/\∀name,PySem.W.lookIn name od=eM (mA name):=by
 let⟨o,es,ep,ho,hd,hk,_,hm⟩:=n;refine⟨o,ho,λname=>?_⟩;have e:=hm name;unfold nsFind findBy at e;rw[<-Array.find?_toList]at e;unfold PySem.W.lookIn;rw[hd];dsimp only;split
 .rename_i y q;rw[q]at e;exact congrArg eM e
 .rename_i q;rw[q]at e;have a:es.toList.any (·.refKey)=eQ:=by
   rw[List.any_eq_false];intro y hy;let⟨z,t,hkey⟩:=hk y<|Array.mem_toList_iff.mp hy;simp[DictEntry.refKey,hkey]
  have a':¬ es.toList.any (·.refKey)=eP:=by rw[a];exact ö
  rw[gx a'];exact congrArg eM e
variable {C:Ï}
def ObjM.look{x:Ï}(I:ObjM h x dx C mA):∃od,PySem.W.InstAt h x (PySem.W.instObj C dx) C (eM od)/\∀name,PySem.W.lookIn name od=eM (mA name) :=
 let ⟨od,ho,hl⟩:=BE I.ns
 ⟨od,⟨I.obj,rfl,rfl,ho⟩,hl⟩
section
variable {prog:ç}{w:þ}{A:ĉ}{E:Ã->Ç->Prop}{s:Ç}{K:Frag}{x dx C f:Ï}{mA:Str->Option Ã}{name:Str}{v:Ã}
def Ho{expr:Bool}{Q:Ã->Ç->Prop}(X:K.In s.heap)(I:ObjM s.heap x dx C mA)(hg:PySem.W.plainGet K C name=eP)(hh:PySem.W.hasDictIn K C=eP)
  (ha:PySem.W.findIn K (.ref C) name=eM eN) (hv:mA name=eM v) (hv':PySem.W.handedIn v=eP) (h:Q v {s with toks:=s.toks+1}) :
  wpAny (à prog w) A (getAttr (.ref x) name expr) Q E s:=by
 let⟨od,J,hl⟩:=I.look;exact PySem.W.get_value X J (PySem.W.plainGet_of hg).1 (PySem.W.findObj_own hh ha rfl<|by rw[hl,hv]) hv' h
def EA{pl:Sem Bool}{Q:Ã×List Ã->Ç->Prop}(X:K.In s.heap)(I:ObjM s.heap x dx C mA)(hg:PySem.W.plainGet K C name=eP)
  (hf:PySem.W.findIn K (.ref C) name=eM (eM<|.ref f)) (ht:PySem.W.isFn K (.ref f)=eP) (hv:mA name=eN) (h:Q (.ref f,[.ref x]) s) :
  wpAny (à prog w) A (Ϣ (.ref x) name pl) Q E s:=by
 let⟨od,J,hl⟩:=I.look;exact PySem.W.method_fn X J (PySem.W.plainGet_of hg).1 (PySem.W.plainGet_of hg).2 hf (beq_iff_eq.mp ht) (by show(PySem.W.lookIn name od).map (·.isSome)=eM eQ;rw[hl,hv];rfl) h
def FM{ns:List Str}{Q:Unit->Ç->Prop}(X:K.In s.heap)(I:ObjM s.heap x dx C mA)
  (hs:PySem.W.findIn K (.ref C) "__setattr__" = eM (eM<|.builtin "object.__setattr__")) (hp:PySem.W.plainOver K C=eP) (ht:PySem.W.takerIn K C name=eM eN) (hh:PySem.W.hasDictIn K C=eP)
  (hw:PySem.Within mA ns) (hsz:ns.length<=Ý)
  (h:∀h',ObjM h' x dx C (λy=>if y=name then eM v else mA y)->θ dx s.heap h'->Q () {s with heap:=h',toks:=s.toks+2}) :
  wpAny (à prog w) A (setAttr (.ref x) name v) Q E s:=by
 let⟨od,J,hl⟩:=I.look;refine PySem.W.set_plain X J hs<|PySem.W.osa_open (s:={s with toks:=s.toks+1}) (r:=eN) X J hp ht λb=>?_;let⟨cd,hc,hd'⟩:=PySem.W.any_some hh;have hx:s.heap.get? x=eM ⟨.ref C,eM dx,.plain,#[]⟩:=I.obj;refine Á<|È<|Á<|Á<|wpAny_loadPart hx<|Á<|PySem.W.Looks.here (s:={s with toks:=s.toks+1}) (PySem.W.looks_clsIn X hc) ?_;rw[hd'];refine È (a:=eM dx)<|Á<|È<|Á ?_;refine wpAny_nsSet1 (s:={s with toks:=s.toks+1}) I.ns λh' hn2 hs2=>?_;let⟨oD,esD,epD,hoD,hdD,hcD⟩:=hn2.count<|PySem.Within.cons name v hw;refine Á (wpAny_lookBehind hoD (by rw[hdD];exact pastItsLine_dict<|Õ hcD<|by rw[Ò];lia) ?_);exact È<|h _ ⟨(hs2.2 _<|Ne.symm I.ne).trans I.obj,hn2,I.ne⟩ hs2
def CJ{R:bz->Ç->Prop}{vs:List Ã}{kw:List (Str×Ã)}(X:K.In s.heap)(hm:PySem.W.makesIn K C=eP)
  (hi:PySem.W.findIn K (.ref C) "__init__" = eM (eM<|.ref f)) (hf:PySem.W.typeIn K (.ref f)=eM (.type "function"))
  (h:codeAny (à prog w) (A.under<|.builtin "type.__call__" ⟨.ref C::vs,kw⟩) (.call (.ref f) ⟨.ref (s.heap.objs.size+1)::vs,kw⟩) (PySem.W.InitBack (s.heap.objs.size+1) R)
    { s with heap:=(s.heap.push PySem.W.emptyDict).push (PySem.W.instObj C s.heap.objs.size) }) :
  codeAny (à prog w) A (.call (.ref C) ⟨vs,kw⟩) R s:=by
 let⟨hh,g,d,t,os⟩:=s;exact PySem.W.make_core (PySem.W.makes_of X hm) (PySem.W.looks_findIn X hi) (λself=>PySem.W.bind_fn X self hf) (.inl rfl) h
end
abbrev fi(f:Str)(v:V):List (Str×V)->List (Str×V)
 |[]=>[(f,v)]
 |(g,x)::r=>if g=f then(g,v)::r else(g,x)::fi f v r
def WU(f g:Str)(v:V):∀fs:List<|Str×V,(fi f v fs).lookup g=if g=f then eM v else fs.lookup g
 |[]=>by
  show Β g [(f,v)]=_;by_cases h:g=f
  .have hb:(g==f)=eP:=beq_iff_eq.mpr h;simp only[Β,hb,gw h]
  .have hb:(g==f)=eQ:=beq_eq_false_iff_ne.mpr h;simp only[Β,hb,gx h]
 |(k,x)::r=>by
  have ih:=WU f g v r;rw[show fi f v ((k,x)::r)=(if k=f then(k,v)::r else(k,x)::fi f v r) from rfl];by_cases hk:k=f
  .rw[gw hk];by_cases h:g=k
   .have hb:(g==k)=eP:=beq_iff_eq.mpr h;simp only[Β,hb,gw<|h.trans hk]
   .have hb:(g==k)=eQ:=beq_eq_false_iff_ne.mpr h;simp only[Β,hb,gx λe:g=f=>h<|e.trans hk.symm]
  .rw[gx hk];by_cases h:g=k
   .have hb:(g==k)=eP:=beq_iff_eq.mpr h;simp only[Β,hb,gx λe:g=f=>hk<|h.symm.trans e]
   .have hb:(g==k)=eQ:=beq_eq_false_iff_ne.mpr h;simp only[Β,hb];exact ih
def Wx(f:Str)(v:V):∀fs:List<|Str×V,f∈(fi f v fs).map (·.1)/\∀g,g∈fs.map (·.1)->g∈(fi f v fs).map (·.1)
 |[]=>⟨by simp[fi],λg h=>by simp at h⟩
 |(k,x)::r=>by
  let⟨i1,i2⟩:=Wx f v r;rw[show fi f v ((k,x)::r)=(if k=f then(k,v)::r else(k,x)::fi f v r) from rfl];by_cases hk:k=f
  .rw[gw hk];subst hk;exact⟨by simp,λg h=>⇑h⟩
  .rw[gx hk];refine⟨?_,λg h=>?_⟩
   .rw[Î];exact Ú _ i1
   .rw[Î]at h ⊢;rcases Æ.mp h with e|e
    .exact Æ.mpr<|.inl e
    .exact Ú _<|i2 g e
def WV(f:Str)(v:V):∀fs:List<|Str×V,(fi f v fs).length<=fs.length+1
 |[]=>by simp[fi]
 |(k,x)::r=>by
  have ih:=WV f v r;rw[show fi f v ((k,x)::r)=(if k=f then(k,v)::r else(k,x)::fi f v r) from rfl];by_cases hk:k=f
  .rw[gw hk,Ò,Ò];lia
  .rw[gx hk,Ò,Ò];lia
variable {o:Option Ã}
def fx.some_of{v:V}(r:fx (eM v) o):∃u,o=eM u/\RelV v u:=by
 cases o with
 |none=>exact(show False from r).elim
 |some u=>exact⟨u,rfl,r⟩
def fx.none_of(r:fx eN o):o=eN:=by
 cases o with
 |none=>rfl
 |some u=>exact(show False from r).elim
variable {u:Ã}
def A5{v:V}(r:RelV v u):PySem.W.handedIn u=eP:=by
 cases v with
 |non=>cases (show u=Value.none from r);rfl
 |bl b=>cases (show u=Value.bool b from r);rfl
 |int i=>let⟨t,e⟩:=(show ∃t,u=Value.int i t from r);cases e;rfl
 |str x=>let⟨t,e⟩:=(show ∃t,u=Value.str x t from r);cases e;rfl
 |byt b=>let⟨t,e⟩:=(show ∃t,u=Value.bytes b t from r);cases e;rfl
 |flt b=>let⟨t,e⟩:=(show ∃t,u=Value.float b t from r);cases e;rfl
 |ref a=>cases (show u=Value.ref a from r);rfl
 |ty n=>cases (show u=Value.type n from r);rfl
section
variable {P:ç}{w:þ}{H H':Hp}{h h':Ĉ}{a C dx:Ï}{fs fs':List (Str×V)}
def Jd(hok:HOk P w H h)(e:H a=eM (.ins C dx fs)):∃mA,ObjM h a dx C mA/\(∀f,fx (fs.lookup f)<|mA f)/\PySem.Within mA (fs.map (·.1))/\fs.length<=1000/\H dx=eM (.own a):=by
 let⟨d,z,ne,ob,mA,n,r,q⟩:=(show fb P w H h a (.ins C dx fs) from hok a _ e)
 exact⟨mA,⟨ob,n,ne⟩,r,q,z,d⟩
end
structure Cls(K:Frag)(C:Ï):Prop where
 pg:PySem.W.plainGet K C Str.empty=eP
 hd:PySem.W.hasDictIn K C=eP
 po:PySem.W.plainOver K C=eP
 sa:PySem.W.findIn K (.ref C) "__setattr__" = eM (eM<|.builtin "object.__setattr__")
def Cls.get{K:Frag}(c:Cls K C)(f:Str):PySem.W.plainGet K C f=eP:=c.pg
abbrev NoAttr(K:Frag)(C:Ï)(f:Str):Prop:=PySem.W.findIn K (.ref C) f=eM eN
def NoAttr.taker{K:Frag}{f:Str}(n:NoAttr K C f):PySem.W.takerIn K C f=eM eN:=by unfold PySem.W.takerIn;rw[show PySem.W.findIn K (.ref C) f=eM eN from n];rfl
structure Meth(K:Frag)(C:Ï)(m:Str)(f:Ï):Prop where
 at_:PySem.W.findIn K (.ref C) m=eM (eM<|.ref f)
 fn:PySem.W.isFn K (.ref f)=eP
 kp:PySem.W.keepIn K (.ref f)=eP
section
variable {X:Cx}{Â:List (Ï×Obj)}{σ:St}{H:Hp}{s:Ç}{a C dx:Ï}{fs:List (Str×V)}{f:Str}{v:V}{A:ĉ}{E:Ã->Ç->Prop}
variable {Q:Ã->Ç->Prop}
def JV{b:Bool}(I:Inv X Â σ H s)(e:H a=eM (.ins C dx fs))(c:Cls X.K C)(n:NoAttr X.K C f)(l:fs.lookup f=eM v)
  (h:∀u s',Inv X Â σ H s'->RelV v u->Q u s'):wpAny (à X.prog X.w) A (getAttr (.ref a) f b) Q E s:=by
 let⟨mA,O,r,_,_,_⟩:=Jd I.hok e;let⟨u,hu,ru⟩:=fx.some_of (v:=v) (o:=mA f) (by rw[<-l];exact r f);exact Ho I.kIn O (c.get f) c.hd n hu (A5 ru)<|h u _ (I.tok _) ru
def J4{m:Str}{g:Ï}{pl:Sem Bool}{Q:Ã×List Ã->Ç->Prop}(I:Inv X Â σ H s)(e:H a=eM (.ins C dx fs))(c:Cls X.K C)(k:Meth X.K C m g)(l:fs.lookup m=eN)
  (h:Q (.ref g,[.ref a]) s):wpAny (à X.prog X.w) A (Ϣ (.ref a) m pl) Q E s:=by
 let⟨mA,O,r,_,_,_⟩:=Jd I.hok e;have hn:mA m=eN:=fx.none_of (by rw[<-l];exact r m);exact EA I.kIn O (c.get m) k.at_ k.fn hn h
def Jw{y:V}{Q:Unit->Ç->Prop}(I:Inv X Â σ H s)(e:H a=eM (.ins C dx fs))(c:Cls X.K C)(n:NoAttr X.K C f)(hl:fs.length<1000)(ry:RelV y u)
  (h:∀s',Inv X Â σ (upd H a<|.ins C dx<|fi f y fs) s'->Q () s'):wpAny (à X.prog X.w) A (setAttr (.ref a) f u) Q E s:=by
 let⟨mA,O,r,wi,_,ho⟩:=Jd I.hok e;have hz:(fs.map (·.1)).length<=Ý:=by rw[À,ah];lia
 refine FM I.kIn O c.sa c.po n.taker c.hd wi hz λh' O' sb=>h _ ?_;have hd:∃o,h'.get? dx=eM o:=let ⟨o,_,_,e',_⟩:=O'.ns;⟨o,e'⟩;refine I.write (x:=a) (e:=dx) (by rw[e];exact True.intro) (.inr ho) (λb q hb z=>(sb.2 b hb).trans z) hd ?_;refine⟨by rw[eR O.ne];exact ho,?_,O.ne,O'.obj,_,O'.ns,λg=>?_,λg hg=>?_⟩
 .have:=WV f y fs;lia
 .show fx ((fi f y fs).lookup g) (if g=f then eM u else mA g);rw[WU];by_cases q:g=f
  .rw[gw q,gw q];exact ry
  .rw[gx q,gx q];exact r g
 .by_cases q:g=f
  .rw[q];exact(Wx f y fs).1
  .refine(Wx f y fs).2 g<|wi g λz=>hg ?_;show(if g=f then eM u else mA g)=eN;rw[gx q];exact z
def Inv.made(I:Inv X Â σ H s):Inv X Â σ (upd (upd H s.heap.objs.size<|.own<|s.heap.objs.size+1) (s.heap.objs.size+1)<|.ins C s.heap.objs.size [])
  {s with heap:=(s.heap.push PySem.W.emptyDict).push (PySem.W.instObj C s.heap.objs.size)}:=by
 have e1:(s.heap.push PySem.W.emptyDict).get? s.heap.objs.size=eM PySem.W.emptyDict:=Ù s.heap rfl;have e2:((s.heap.push PySem.W.emptyDict).push<|PySem.W.instObj C s.heap.objs.size).get? (s.heap.objs.size+1)=eM (PySem.W.instObj C s.heap.objs.size):=by
  have:=Ù (s.heap.push PySem.W.emptyDict) (o:=PySem.W.instObj C s.heap.objs.size) rfl
  rwa [ι]at this
 have e3:(s.heap.push PySem.W.emptyDict).Ns s.heap.objs.size λ_=>eN:=⟨PySem.W.emptyDict,#[],_,e1,rfl,(λe he=>gB he<|by simp),λ_=>rfl⟩
 have I1:=I.laid (a:=s.heap.objs.size) (o:=.own<|s.heap.objs.size+1) (h':=s.heap.push PySem.W.emptyDict) (t':=s.toks) (λb u q=>Å _ q) (Ó _) ⟨_,e1⟩;refine I1.laid (a:=s.heap.objs.size+1) (o:=.ins C s.heap.objs.size []) (t':=s.toks) (λb u q=>Å _ q) (Nat.le_of_eq<|ι _ _) ?_;have ne:s.heap.objs.size≠s.heap.objs.size+1:=é<|ē _;refine⟨by rw[eR ne,eS],ĳ _,ne,e2,λ_=>eN,(Heap.Ns1.of_empty e3).at λo q=>Å _ q,λ_=>True.intro,λy hy=>gB rfl hy⟩
def Fe{prog:ç}{w:þ}{env:Env}{e:Expr}{î:Pos}(hb:ĝ e f env (eval e env)=eval e env)
  (h:wpAny (à prog w) A (eval e env) (λo ģ=>wpAny (à prog w) A (getAttr o f eP) Q E ģ) E s):wpAny (à prog w) A (eval (.Attribute e f î) env) Q E s :=
 Attribute_any_ h (by rw[arm_eval_Attribute,hb])
end
abbrev SF(K:Frag)(ta:TE)(f:Str):TE:=λσ H Q=>ta σ H λx H1=>∃a C dx fs v,x=.ref a/\H1 a=eM (.ins C dx fs)/\Cls K C/\NoAttr K C f/\fs.lookup f=eM v/\Q v H1
abbrev SB(K:Frag)(ta tv:TE)(f:Str):TS:=λD σ H=>tv σ H λy H1=>ta σ H1 λx H2=>∃a C dx fs,x=.ref a/\H2 a=eM (.ins C dx fs)/\Cls K C/\NoAttr K C f/\fs.length<1000/\
 D.nx σ (upd H2 a<|.ins C dx<|fi f y fs)
abbrev Cg(X:Cx)(op:ϡ)(rd:V->V->Hp->VK->Prop):Prop :=
 ∀(Â:List<|Ï×Obj) (s:Ç) (σ:St) (H:Hp) (x y:V) (u v:Ã) (Q:VK),Inv X Â σ H s->RelV x u->RelV y v->rd x y H Q->wpAny (à X.prog X.w) X.A (inplaceOp op u v) (EP X Â σ Q) X.xe s
abbrev GN(K:Frag)(ta tv:TE)(rd:V->V->Hp->VK->Prop)(f:Str):TS:=λD σ H=>ta σ H λx H1=>∃a C dx fs v,x=.ref a/\H1 a=eM (.ins C dx fs)/\Cls K C/\NoAttr K C f/\fs.lookup f=eM v/\
 tv σ H1 λy H2=>rd v y H2 λz H3=>∃dx' fs',H3 a=eM (.ins C dx' fs')/\fs'.length<1000/\D.nx σ (upd H3 a<|.ins C dx'<|fi f z fs')
section
variable {X:Cx}{o e Θ:Expr}{f:Str}{î bE cK:Pos}{ta tv:TE}
def Ie(he:PE X e ta)(hb:ĝ e f X.env (eval e X.env)=eval e X.env):PE X (.Attribute e f î)<|SF X.K ta f:=by intro Â s σ H Q I h;refine Fe hb<|thn (he Â s σ H _ I h) λu s1 ⟨x,H1,I1,rx,a,C,dx,fs,v,ex,ea,c,n,l,q⟩=>?_;subst ex;obtain rfl:u=Value.ref a:=rx;exact JV I1 ea c n l λu' s2 I2 ru=>⟨v,H1,I2,ru,q⟩
def IN(ha:PE X o ta)(hv:PE X Θ tv)(hs:υ Θ (eM<|.Attribute o f bE) î.line X.env=pure eQ):PS X (.Assign [.Attribute o f bE] Θ î)<|SB X.K ta tv f:=by intro Â s σ H D I h;refine plainObj_wpAny_Assign_Attribute (thn (hv Â s σ H _ I h) λu s1 ⟨y,H1,I1,ry,q⟩=>thn (ha Â s1 σ H1 _ I1 q) λov s2 ⟨x,H2,I2,rx,a,C,dx,fs,ex,ea,c,n,l,q2⟩=>?_) hs;subst ex;obtain rfl:ov=Value.ref a:=rx;exact Jw I2 ea c n l ry λs3 I3=>⟨σ,_,I3,q2⟩
def A8{op:ϡ}{rd:V->V->Hp->VK->Prop}(ha:PE X o ta)(hv:PE X Θ tv)(hop:Cg X op rd):PS X (.AugAssign (.Attribute o f cK) op Θ î)<|GN X.K ta tv rd f:=by intro Â s σ H D I h;refine wpAny_AugAssign_AttributeAny<|thn (ha Â s σ H _ I h) λov s1 ⟨x,H1,I1,rx,a,C,dx,fs,v,ex,ea,c,n,l,q⟩=>?_;subst ex;obtain rfl:ov=Value.ref a:=rx;refine JV I1 ea c n l λu s2 I2 ru=>thn (hv Â s2 σ H1 _ I2 q) λw3 s3 ⟨y,H2,I3,ry,q3⟩=>thn (hop Â s3 σ H2 v y u w3 _ I3 ru ry q3) λw4 s4 ⟨z,H3,I4,rz,dx',fs',ea',l',q4⟩=>?_;exact Jw I4 ea' c n l' rz λs5 I5=>⟨σ,_,I5,q4⟩
abbrev RW:V->V->Hp->VK->Prop:=λx y H Q=>∃i j,x=.int i/\y=.int j/\Q (.int<|i+j) H
abbrev RU:V->V->Hp->VK->Prop:=λx y H Q=>∃i j,x=.int i/\y=.int j/\Q (.int<|i - j) H
def Lo:Cg X .Add RW:=by
 rintro Â s σ H x y u v Q I rx ry ⟨i,j,rfl,rfl,q⟩;let⟨t,rfl⟩:=(show ∃t,u=Value.int i t from rx)
 let⟨t',rfl⟩:=(show ∃t',v=Value.int j t' from ry)
 exact PyProof.Rows.iadd_int ⟨.int<|i+j,H,I.tok _,⟨_,rfl⟩,q⟩
def Ln:Cg X .Sub RU:=by
 rintro Â s σ H x y u v Q I rx ry ⟨i,j,rfl,rfl,q⟩;let⟨t,rfl⟩:=(show ∃t,u=Value.int i t from rx)
 let⟨t',rfl⟩:=(show ∃t',v=Value.int j t' from ry)
 exact PyProof.Rows.isub_int ⟨.int<|i - j,H,I.tok _,⟨_,rfl⟩,q⟩
end
section
variable {X:Cx}{Â:List (Ï×Obj)}{σ:St}{H:Hp}{s:Ç}{A:ĉ}{E:Ã->Ç->Prop}{Q:Ã->Ç->Prop}{c:Ã}{b:Bool}
inductive fU (K:Frag) (H:Hp):V->Ã->Prop where
 |non:fU K H .non<|.type "NoneType"
 |bl (x:Bool):fU K H (.bl x)<|.type "bool"
 |int (i:Int):fU K H (.int i)<|.type "int"
 |str (x:Str):fU K H (.str x)<|.type "str"
 |flt (x:UInt64):fU K H (.flt x)<|.type "float"
 |lst {a:Ï}{xs:List V}(e:H a=eM (.lst xs)):fU K H (.ref a)<|.type "list"
 |frz {a:Ï}{o:Obj}{xs:List V}(e:H a=eM (.frz o<|.lst xs)):fU K H (.ref a)<|.type "list"
 |tup {a:Ï}{xs:List V}(e:H a=eM (.tup xs)):fU K H (.ref a)<|.type "tuple"
 |dK {a:Ï}{kvs:List (Key×V)}(e:H a=eM (.dK kvs)):fU K H (.ref a)<|.type "dict"
 |dT {a:Ï}{kvs:List (List Key×V)}(e:H a=eM (.dT kvs)):fU K H (.ref a)<|.type "dict"
 |ins {a C dx:Ï}{fs:List (Str×V)}(e:H a=eM (.ins C dx fs)) (cl:Cls K C) (ha:PySem.W.findIn K (.ref C) "__class__" = eM (eM<|.builtin "object.__class__"))
   (hn:PySem.W.specialIn K (.builtin "object.__class__") "__get__" = eM (eM<|.builtin "getset_descriptor.__get__")) (htk:PySem.W.takesIn K (.builtin "object.__class__")=eM eP)
   (hm:PySem.W.mroIn K C (.type "object")=eM eP):fU K H (.ref a)<|.ref C
def Bo{x:V}{t:Ã}(I:Inv X Â σ H s)(rx:RelV x u)(ty:fU X.K H x t)(e:PySem.W.kitOne X.K t c=eM b)(h:∀tk,Q (.bool b) {s with toks:=tk}) :
  wpAny (à X.prog X.w) A (call (.builtin "isinstance") [u,c]) Q E s:=by
 cases ty with
 |non=>cases (show u=Value.none from rx);exact PySem.W.kia_one PySem.W.kitx_none I.kIn True.intro e (λz=>nomatch z) h
 |bl y=>cases (show u=Value.bool y from rx);exact PySem.W.kia_one PySem.W.kitx_bool I.kIn True.intro e (λz=>nomatch z) h
 |int i=>let⟨t,q⟩:=(show ∃t,u=Value.int i t from rx);cases q;exact PySem.W.kia_one PySem.W.kitx_int I.kIn True.intro e (λz=>nomatch z) h
 |str y=>let⟨t,q⟩:=(show ∃t,u=Value.str y t from rx);cases q;exact PySem.W.kia_one PySem.W.kitx_str I.kIn True.intro e (λz=>nomatch z) h
 |flt y=>let⟨t,q⟩:=(show ∃t,u=Value.float y t from rx);cases q;exact PySem.W.kia_one PySem.W.kitx_float I.kIn True.intro e (λz=>nomatch z) h
 |@lst a xs ea =>
  cases (show u=Value.ref a from rx);let⟨_,_,n,_,h1⟩:=(show fb X.prog X.w H s.heap a (.lst xs) from I.hok a _ ea)
  exact PySem.W.kia_one PySem.W.kitx_list I.kIn ⟨_,h1,rfl⟩ e (λz=>nomatch z) h
 |@frz a ob xs ea =>
  cases (show u=Value.ref a from rx);let⟨_,_,_,n,_,h1⟩:=(show fb X.prog X.w H s.heap a (.frz ob<|.lst xs) from I.hok a _ ea)
  exact PySem.W.kia_one PySem.W.kitx_list I.kIn ⟨_,h1,rfl⟩ e (λz=>nomatch z) h
 |@tup a xs ea =>
  cases (show u=Value.ref a from rx);let⟨_,_,_,p⟩:=(show fb X.prog X.w H s.heap a (.tup xs) from I.hok a _ ea)
  let⟨o,h1,h2,_⟩:=p;exact PySem.W.kia_one PySem.W.kitx_tuple I.kIn ⟨o,h1,h2⟩ e (λz=>nomatch z) h
 |@dK a kvs ea =>
  cases (show u=Value.ref a from rx);let⟨_,_,vs,_,p⟩:=(show fb X.prog X.w H s.heap a (.dK kvs) from I.hok a _ ea)
  let⟨o,es,ep,h1,h2,_⟩:=p;exact PySem.W.kia_one PySem.W.kitx_dict I.kIn ⟨o,h1,h2.1⟩ e (λz=>nomatch z) h
 |@dT a kvs ea =>
  cases (show u=Value.ref a from rx);let⟨_,_,xs,_,o,es,ep,h1,h2,_⟩:=(show fb X.prog X.w H s.heap a (.dT kvs) from I.hok a _ ea)
  exact PySem.W.kia_one PySem.W.kitx_dict I.kIn ⟨o,h1,h2.1⟩ e (λz=>nomatch z) h
 |@ins a C dx fs ea cl ha hn htk hm =>cases (show u=Value.ref a from rx);let⟨mA,O,_⟩:=Jd I.hok ea;let⟨od,J,_⟩:=O.look;exact PySem.W.kia_one (PySem.W.kitx_own (cl.get _) cl.hd ha hn htk hm) I.kIn J e (λz=>nomatch z) h
end
structure fy(k:Nat)(A:ĉ):Prop where
 hd:A.handled=eN
 dp:A.depth+3*k+5<recursionLimit
 un:A.units+16*k+200<Ķ
variable {A:ĉ}
def fy.mono{j k:Nat}(r:fy k A)(h:j<=k):fy j A:=⟨r.hd,by have:=r.dp;lia,by have:=r.un;lia⟩
def fy.deeper{k:Nat}(r:fy (k+1) A)(env:Env):fy k (A.deeper env) :=
 ⟨r.hd,by have:=r.dp;show A.depth+1+3*k+5<_;lia,by have:=r.un;show A.units+3+16*k+200<_;lia⟩
variable {C:Ï} {us:List Ã} {kw:List (Str×Ã)}
def OQ:(A.under<|.builtin "type.__call__" ⟨.ref C::us,kw⟩).depth=A.depth+1:=by
 first|rfl|simp[bJ,Code.weight,Code.isCreation,Code.isGuard,Code.isCaller,Code.frames,b8,guardIds]
def Ut:(A.under<|.builtin "type.__call__" ⟨.ref C::us,kw⟩).units=A.units+1:=by
 first|rfl|simp[bJ,Code.cUnits,Code.frames,b8]
def fy.make{k:Nat}(r:fy (k+1) A)(C:Ï)(us:List Ã)(kw:List<|Str×Ã):fy k (A.under<|.builtin "type.__call__" ⟨.ref C::us,kw⟩) :=
 ⟨r.hd,by have:=r.dp;rw[OQ];lia,by have:=r.un;rw[Ut];lia⟩
def fy.depth{k:Nat}(r:fy k A):A.depth<recursionLimit:=by have:=r.dp;lia
abbrev FO:TA:=λ_ H Q=>Q [] H
abbrev HP(ta:TE)(tr:TA):TA:=λσ H Q=>ta σ H λx H1=>tr σ H1 λxs H2=>Q (x::xs) H2
section
variable {X:Cx}{e:Expr}{es:List Expr}{te:TE}{t:TA}{î:Pos}
def fW:PA X [] FO:=λ_ _ _ _ H Q I h=>Calls.spliced_nil ⟨[],H,I,.nil,h⟩
def fX(ha:PE X e te)(hr:PA X es t)(hs:ß (e::es) X.env=(eQ,eval e X.env)::ß es X.env:=by rfl):PA X (e::es)<|HP te t:=by intro î Â s σ H Q I h;rw[hs];show wpAny _ _ (spliced<|(eQ,eval e X.env)::ě î (ß es X.env)) _ _ s;refine Calls.spliced_cons<|thn (ha Â s σ H _ I h) λu s1 ⟨x,H1,I1,r1,q1⟩=>?_;exact thn (hr î Â s1 σ H1 _ I1 q1) λus s2 ⟨xs,H2,I2,r2,q2⟩=>⟨x::xs,H2,I2,.cons r1 r2,q2⟩
abbrev SD(t:TA):TE:=λσ H Q=>t σ H λxs H1=>xs.length<=Ý/\∀p,H1 p=eN->Q (.ref p) (upd H1 p<|.tup xs)
abbrev R9(t:TA):TE:=λσ H Q=>t σ H λxs H1=>xs.length<=Ý/\∀p,H1 p=eN->Q (.ref p) (upd H1 p<|.lst xs)
def La{x1}(h:PA X es t):PE X (.Tuple es x1 î)<|SD t:=by intro Â s σ H Q I hq;refine wpAny_Tuple_spliced (thn (h î Â s σ H _ I hq) λus s1 ⟨xs,H1,I1,r,z,q⟩=>⟨by rw[<-r.length];exact z,?_⟩);have hf:H1 s1.heap.objs.size=eN:=I1.hok.fresh<|Ó _;refine⟨.ref s1.heap.objs.size,upd H1 s1.heap.objs.size<|.tup xs,I1.laid (t':=s1.toks) (λb u e=>Å _ e) (Ó _) ?_,rfl,q _ hf⟩;exact⟨z,us,r,⟨_,Ù _ rfl,rfl,_,rfl⟩⟩
def LT(h:PA X es t):PE X (.List es î)<|R9 t:=by intro Â s σ H Q I hq;refine wpAny_List_spliced (thn (h î Â s σ H _ I hq) λus s1 ⟨xs,H1,I1,r,z,q⟩=>⟨by rw[<-r.length];exact z,?_⟩);have hf:H1 s1.heap.objs.size=eN:=I1.hok.fresh<|Ó _;refine⟨.ref s1.heap.objs.size,upd H1 s1.heap.objs.size<|.lst xs,I1.laid (t':=s1.toks) (λb u e=>Å _ e) (Ó _) ?_,rfl,q _ hf⟩;exact⟨z,us,0,r,Ù _ rfl⟩
end
noncomputable abbrev Sp:=List V->Hp->VK->XK->Prop
noncomputable abbrev CXT:=List Env->Hp->Ç->XK->Ã->Ç->Prop
structure Env0(P:ç)(w:þ)(K:Frag)(mg:Str->Option Ã)(base:Ĉ)(A:ĉ)(outer:List Env)(s:Ç)(H:Hp):Prop where
 frames:A.frames=eM outer
 mod:Mod K mg base
 bs:∀b o,base.get? b=eM o->s.heap.get? b=eM o/\H b=eN
 bsz:base.objs.size<=s.heap.objs.size
 funs:s.heap.FunFrames base outer
 frf:∀b∈frs outer,H b=eN
 hok:HOk P w H s.heap
 bare:ϒ s.gens
abbrev CE(outer:List Env)(P:ç)(w:þ)(H:Hp)(s:Ç)(Q:VK)(u:Ã)(s':Ç):Prop :=
 ∃v H',s'.os=s.os/\ϒ s'.gens/\Un (frs outer) [] H H' s.heap s'.heap/\HOk P w H' s'.heap/\RelV v u/\Q v H'
abbrev CR(CX:CXT)(outer:List Env)(P:ç)(w:þ)(H:Hp)(s:Ç)(Q:VK)(E:XK)(r:bz)(s':Ç):Prop :=
 match r with
 |.ok (.ret u)=>CE outer P w H s Q u s'
 |.ok _=>False
 |.error e=>CX outer H s E e s'
structure fz(P:ç)(w:þ)(K:Frag)(mg:Str->Option Ã)(base:Ĉ)(CX:CXT)(k:Nat)(f:Ï)(fd:Ŕ)(ps:List Str)(sp:Sp):Prop where
 len:∀vs H Q E,sp vs H Q E->vs.length=ps.length
 run:∀(A:ĉ) (outer:List Env) (s:Ç) (H:Hp) (args:Args) (us:List Ã) (vs:List V) (Q:VK) (E:XK),fy k A->Env0 P w K mg base A outer s H->BindsTo s fd args (ps.zip us)->gg vs us->sp vs H Q E->
  codeAny (à P w) A (.call (.ref f) args) (CR CX outer P w H s Q E) s
variable {P:ç} {w:þ} {mg:Str->Option Ã} {base:Ĉ} {outer:List Env} {s:Ç} {H:Hp}
def Env0.make{K:Frag}(e:Env0 P w K mg base A outer s H)(C:Ï)(us:List Ã)(kw:List<|Str×Ã) :
  Env0 P w K mg base (A.under<|.builtin "type.__call__" ⟨.ref C::us,kw⟩) outer s H:=⟨by first|exact e.frames|(simpa[bJ,Code.envs,b8,pushEnvs]using e.frames),e.mod,e.bs,e.bsz,e.funs,e.frf,e.hok,e.bare⟩
section
variable {X:Cx}{Â:List (Ï×Obj)}{σ:St}{H:Hp}{s s':Ç}
def Inv.env0(I:Inv X Â σ H s):Env0 X.prog X.w X.K X.mg X.base X.A X.stack s H :=
 ⟨I.ok.frames,I.ok.mod,I.bs,Õ I.ok.bsz I.sz,I.stack,I.stkFree,I.hok,I.bare⟩
def Inv.after{Q:VK}{u:Ã}(I:Inv X Â σ H s)(h:CE X.stack X.prog X.w H s Q u s'):EP X Â σ Q u s':=by let⟨v,H',os,bare,un,hok,r,q⟩:=h;let⟨hh,g,d,t,os'⟩:=s';obtain rfl:os'=s.os:=os;exact⟨v,H',I.call (h':=hh) (g':=g) (d':=d) (t':=t) (ch:=[]) un hok bare λb z=>gB z<|by simp,r,q⟩
end
abbrev HM(sp:Sp)(aO:List V)(E:XK)(t:TA):TE:=λσ H Q=>t σ H λvs H1=>sp (vs++aO) H1 Q E
abbrev Ic(C:Ï)(m:Str)(sp:Sp)(aO:List V)(E:XK)(ta:TE)(t:TA):TE:=λσ H Q=>ta σ H λx H1=>∃a dx fs,x=.ref a/\H1 a=eM (.ins C dx fs)/\fs.lookup m=eN/\
 t σ H1 λvs H2=>sp (x::(vs++aO)) H2 Q E
abbrev RA(C:Ï)(sp:Sp)(aO:List V)(E:XK)(t:TA):TE:=λσ H Q=>t σ H λvs H1=>∀x dx,H1 x=eN->H1 dx=eN->dx≠x->
 sp (.ref x::(vs++aO)) (upd (upd H1 dx<|.own x) x<|.ins C dx []) (λv H2=>v=.non/\Q (.ref x) H2) E
abbrev Binds(K:Frag)(fd:Ŕ)(ps:List Str)(ds:List Ã):Prop :=
 ∀(s:Ç) (us:List Ã),K.In s.heap->(us++ds).length=ps.length->BindsTo s fd ⟨us,[]⟩ (ps.zip<|us++ds)
variable {ps:List Str}
def Binds.all{K:Frag}{fd:Ŕ}(h:∀us:List Ã,us.length=ps.length->bindArgs fd ⟨us,[]⟩=pure (ps.zip us)):Binds K fd ps []:=λs us _ hl=>by rw[ď]at hl ⊢;exact .of_eq (h us hl)
abbrev Xd(CX:CXT)(X:Cx)(E:XK):Prop:=∀(Â:List<|Ï×Obj) (σ:St) (H:Hp) (s:Ç) (e:Ã) (s':Ç),Inv X Â σ H s->CX X.stack H s E e s'->X.xe e s'
section
variable {X:Cx}{CX:CXT}{k:Nat}{f C:Ï}{fd:Ŕ}{ps:List Str}{sp:Sp}{aO:List V}{ds:List Ã}{E:XK}{x m:Str}{p î Ŗ:Pos}{e o:Expr}{es:List Expr}{ta:TE}{t:TA}
variable {Â:List (Ï×Obj)} {σ:St} {Q:VK} {vs:List V}
def M7(F:fz X.prog X.w X.K X.mg X.base CX k f fd ps sp)(hr:fy k X.A)(hb:Binds X.K fd ps ds)(hd:gg aO ds)(hx:Xd CX X E)
  (I:Inv X Â σ H s) (r:gg vs us) (h:sp (vs++aO) H Q E):wpAny (à X.prog X.w) X.A (call (.ref f) us) (EP X Â σ Q) X.xe s:=by
 have r2:gg (vs++aO)<|us++ds:=r.append hd;have hl:(us++ds).length=ps.length:=by rw[<-r2.length];exact F.len _ _ _ _ h
 refine wpAny_call<|ψ (F.run X.A X.stack s H ⟨us,[]⟩ (us++ds) (vs++aO) Q E hr I.env0 (hb s us I.kIn hl) r2 h) λr s' hq=>?_;cases r with
 |error e=>exact hx Â σ H s e s' I hq
 |ok fl =>
  cases fl with
  |ret u=>exact I.after hq
  |next=>exact Ő hq
  |brk=>exact Ő hq
  |cont=>exact Ő hq
def Hm(F:fz X.prog X.w X.K X.mg X.base CX k f fd ps sp)(hr:fy k X.A)(hg:Gl X x)(hm:X.mg x=eM (.ref f))(hk:PySem.W.keepIn X.K (.ref f)=eP)(hb:Binds X.K fd ps ds)(hd:gg aO ds)(hx:Xd CX X E)
  (ha:PA X (e::es) t) (cL:(x==("__debug__" : Str))=eQ:=by decide) (he:ß (e::es) X.env=(eQ,eval e X.env)::ß es X.env:=by rfl) (hpl:(ě î<|ß es X.env).any (·.1)=eQ:=by rfl) :
  PE X (.Call (.Name x p) (e::es) [] î) (HM sp aO E t):=by
 intro Â s σ H Q I h;refine Ĵ<|Je I hg hm ?_ cL;refine PySem.W.callWith_K (h₀:=X.base) I.ok.mod.kin hk (thn (ha î Â s σ H _ I h) λus s1 ⟨vs,H1,I1,r,q⟩=>⟨I1.kIn,?_⟩) he hpl;exact M7 F hr hb hd hx I1 r q
def B6(F:fz X.prog X.w X.K X.mg X.base CX k f fd ps sp)(hr:fy k X.A)(hg:Gl X x)(hm:X.mg x=eM (.ref f))(hk:PySem.W.keepIn X.K (.ref f)=eP)(hb:Binds X.K fd ps ds)(hd:gg aO ds)(hx:Xd CX X E)
  (cL:(x==("__debug__" : Str))=eQ:=by decide):PE X (.Call (.Name x p) [] [] î)<|HM sp aO E FO:=by
 intro Â s σ H Q I h;refine Ĵ<|Je I hg hm ?_ cL;exact PySem.W.callWith_K0 I.kIn hk<|M7 (us:=[]) F hr hb hd hx I .nil h
variable {pl:Sem Bool}
def Fq(he:PE X o ta)(c:Cls X.K C)(hm:Meth X.K C m f)(F:fz X.prog X.w X.K X.mg X.base CX k f fd ps sp)(hr:fy k X.A)(hb:Binds X.K fd ps ds)(hd:gg aO ds)(hx:Xd CX X E)(ha:PA X (e::es) t)
  (Δ:ß (e::es) X.env=(eQ,eval e X.env)::ß es X.env:=by rfl) (hpl:(ě î<|ß es X.env).any (·.1)=eQ:=by rfl)
  (ht:eval (.Call (.Attribute o m Ŗ) (e::es) [] î) X.env=(do
    let ov<-eval o X.env
    ϔ Ŗ.atName
    let (f,first)<-Ŝ [ov] (Ϣ ov m pl)
    cz î f first (ě î<|ß (e::es) X.env) (ſ î<|ņ [] X.env)):=by rfl) :
  PE X (.Call (.Attribute o m Ŗ) (e::es) [] î) (Ic C m sp aO E ta t):=by
 intro Â s σ H Q I h;refine PySem.W.methodCall_KW (pl:=pl) (thn (he Â s σ H _ I h) λu s1 ⟨x,H1,I1,rx,a,dx,fs,ex,ea,l,q⟩=>?_) ht;subst ex;obtain rfl:u=Value.ref a:=rx;refine J4 I1 ea c hm l ?_;refine PySem.W.callWith_K (first:=[.ref a]) (h₀:=X.base) I.ok.mod.kin hm.kp (thn (ha î Â s1 σ H1 _ I1 q) λus s2 ⟨vs,H2,I2,r,q2⟩=>⟨I2.kIn,?_⟩) Δ hpl;exact M7 (us:=.ref a::us) (vs:=.ref a::vs) F hr hb hd hx I2 (.cons rfl r) q2
def Cu(he:PE X o ta)(c:Cls X.K C)(hm:Meth X.K C m f)(F:fz X.prog X.w X.K X.mg X.base CX k f fd ps sp)(hr:fy k X.A)(hb:Binds X.K fd ps ds)(hd:gg aO ds)(hx:Xd CX X E)
  (ht:eval (.Call (.Attribute o m Ŗ) [] [] î) X.env=(do
    let ov<-eval o X.env
    ϔ Ŗ.atName
    let (f,first)<-Ŝ [ov] (Ϣ ov m pl)
    cz î f first (ě î<|ß [] X.env) (ſ î<|ņ [] X.env)):=by rfl) :
  PE X (.Call (.Attribute o m Ŗ) [] [] î) (Ic C m sp aO E ta FO):=by
 intro Â s σ H Q I h;refine PySem.W.methodCall_KW (pl:=pl) (thn (he Â s σ H _ I h) λu s1 ⟨x,H1,I1,rx,a,dx,fs,ex,ea,l,q⟩=>?_) ht;subst ex;obtain rfl:u=Value.ref a:=rx;refine J4 I1 ea c hm l ?_;exact PySem.W.callWith_K0 (first:=[.ref a]) I1.kIn hm.kp<|M7 (us:=[.ref a]) (vs:=[.ref a]) F hr hb hd hx I1 (.cons rfl .nil) q
structure Mk(K:Frag)(C f:Ï):Prop where
 makes:PySem.W.makesIn K C=eP
 init:PySem.W.findIn K (.ref C) "__init__" = eM (eM<|.ref f)
 fn:PySem.W.isFn K (.ref f)=eP
 kp:PySem.W.keepIn K (.ref C)=eP
def Ck(M:Mk X.K C f)(F:fz X.prog X.w X.K X.mg X.base CX k f fd ps sp)(hr:fy (k+1) X.A)(hb:Binds X.K fd ps ds)(hd:gg aO ds)
  (hx:Xd CX X E) (I:Inv X Â σ H s) (r:gg vs us)
  (h:∀x dx,H x=eN->H dx=eN->dx≠x->sp (.ref x::(vs++aO)) (upd (upd H dx<|.own x) x<|.ins C dx []) (λv H2=>v=.non/\Q (.ref x) H2) E) :
  wpAny (à X.prog X.w) X.A (call (.ref C) us) (EP X Â σ Q) X.xe s:=by
 have hq:=h (s.heap.objs.size+1) s.heap.objs.size (I.hok.fresh<|ő _) (I.hok.fresh<|Ó _)<|é<|ē _;have I2:=Inv.made (C:=C) I;have r2:gg (V.ref (s.heap.objs.size+1)::(vs++aO))<|Value.ref (s.heap.objs.size+1)::(us++ds):=.cons rfl<|r.append hd;have hl:(Value.ref (s.heap.objs.size+1)::us++ds).length=ps.length:=by have e:=r2.length;rw[F.len _ _ _ _ hq]at e;exact e.symm
 refine wpAny_call (CJ (f:=f) I.kIn M.makes M.init (beq_iff_eq.mp M.fn) (ψ (F.run _ X.stack _ _ ⟨Value.ref (s.heap.objs.size+1)::us,[]⟩ (Value.ref (s.heap.objs.size+1)::(us++ds)) _ _ E (hr.make C us [])
   (I2.env0.make C us []) (hb _ (Value.ref (s.heap.objs.size+1)::us) I2.kIn hl) r2 hq) λr s' hq'=>?_))
 cases r with
 |error e=>exact hx Â σ _ _ e s' I2 hq'
 |ok fl =>
  cases fl with
  |ret u =>let⟨v,H',I3,rv,ev,q3⟩:=I2.after hq';subst ev;exact⟨rv,⟨V.ref<|s.heap.objs.size+1,H',I3,rfl,q3⟩⟩
  |next=>exact Ő hq'
  |brk=>exact Ő hq'
  |cont=>exact Ő hq'
def E7(M:Mk X.K C f)(F:fz X.prog X.w X.K X.mg X.base CX k f fd ps sp)(hr:fy (k+1) X.A)(hg:Gl X x)(hm:X.mg x=eM (.ref C))(hb:Binds X.K fd ps ds)(hd:gg aO ds)(hx:Xd CX X E)
  (ha:PA X (e::es) t) (cL:(x==("__debug__" : Str))=eQ:=by decide) (he:ß (e::es) X.env=(eQ,eval e X.env)::ß es X.env:=by rfl) (hpl:(ě î<|ß es X.env).any (·.1)=eQ:=by rfl) :
  PE X (.Call (.Name x p) (e::es) [] î) (RA C sp aO E t):=by
 intro Â s σ H Q I h;refine Ĵ<|Je I hg hm ?_ cL;refine PySem.W.callWith_K (h₀:=X.base) I.ok.mod.kin M.kp (thn (ha î Â s σ H _ I h) λus s1 ⟨vs,H1,I1,r,q⟩=>⟨I1.kIn,?_⟩) he hpl;exact Ck M F hr hb hd hx I1 r q
end
structure FnScope(N P:List Str)(sc:Γ):Prop where
 kind:sc.kind=.function
 co:sc.isCoroutine=eQ
 gen:sc.isGenerator=eQ
 nd:N.Nodup
 pre:N.take P.length=P
 par:∀x∈P,sc.names.lookup x=eM .local\/sc.names.lookup x=eM .cell
 nofree:∀y∈sc.names,y.2≠.free
def Mb{Ν:Str->Option ϣ}{x:Str}:∀{binds:List (Str×Ã)}{m:Str->Option Ã},(∀v,(x,v)∉binds)->bindL Ν binds m x=m x
 |[],_,_=>rfl
 |(n,v)::r,m,h=>by
  unfold bindL;rw[Mb λw hw=>h w<|Ú _ hw];split
  .have:x≠n:=by rintro rfl;exact h v æ
   simp[this]
  .rfl
def Mr{Ν:Str->Option ϣ}{x:Str}:∀{binds:List (Str×Ã)}{m:Str->Option Ã},(∀v,(x,v)∉binds)->dD Ν binds m x=m x
 |[],_,_=>rfl
 |(n,v)::r,m,h=>by
  unfold dD;rw[Mr λw hw=>h w<|Ú _ hw];split
  .rfl
  .have:x≠n:=by rintro rfl;exact h v æ
   simp[this]
def Mu{Ν:Str->Option ϣ}{x:Str}{v:Ã}:∀{P:List Str}{vs:List Ã}{i:Nat}{m:Str->Option Ã},P.Nodup->P[i]?=eM x->vs[i]?=eM v->Ν x=eM .local->
  bindL Ν (P.zip vs) m x=eM v
 |[],_,_,_,_,h,_,_=>by simp at h
 |_::_,[],_,_,_,_,h,_=>by simp at h
 |p::P,w::vs,0,m,nd,h1,h2,hk=>by simp at h1 h2;subst h1;subst h2;show bindL Ν ((p,w)::P.zip vs) m p=_;unfold bindL;rw[Mb λv hv=>(ü.mp nd).1 (aV hv).1,gw hk];simp
 |p::P,w::vs,i+1,m,nd,h1,h2,hk=>by show bindL Ν ((p,w)::P.zip vs) m x=_;unfold bindL;exact Mu (i:=i) (ü.mp nd).2 ⇑h1 ⇑h2 hk
def Mf{Ν:Str->Option ϣ}{x:Str}{v:Ã}:∀{P:List Str}{vs:List Ã}{i:Nat}{m:Str->Option Ã},P.Nodup->P[i]?=eM x->vs[i]?=eM v->Ν x≠eM .local->
  dD Ν (P.zip vs) m x=eM v
 |[],_,_,_,_,h,_,_=>by simp at h
 |_::_,[],_,_,_,_,h,_=>by simp at h
 |p::P,w::vs,0,m,nd,h1,h2,hk=>by simp at h1 h2;subst h1;subst h2;show dD Ν ((p,w)::P.zip vs) m p=_;unfold dD;rw[Mr λv hv=>(ü.mp nd).1 (aV hv).1,gx hk];simp
 |p::P,w::vs,i+1,m,nd,h1,h2,hk=>by show dD Ν ((p,w)::P.zip vs) m x=_;unfold dD;exact Mf (i:=i) (ü.mp nd).2 ⇑h1 ⇑h2 hk
abbrev start(N:List Str)(vs:List V):St:=vs.map eM++Ñ (N.length - vs.length) eN
abbrev MW(CX:CXT)(P:ç)(w:þ)(K:Frag)(mg:Str->Option Ã)(base:Ĉ)(N:List Str)(qual:Str)(scope:Γ)(f:Ï)(cd:Ã)(A:ĉ)(outer:List Env)(s:Ç)(H:Hp)(E:XK):Cx where
 prog:=P
 w:=w
 K:=K
 mg:=mg
 base:=base
 A:=A.deeper<|aH qual scope s.heap.objs.size f cd
 N:=N
 s₀:=s
 H₀:=H
 env:=aH qual scope s.heap.objs.size f cd
 outer:=outer
 stack:=aH qual scope s.heap.objs.size f cd::outer
 ex:=[]
 calm:=eP
 fn:=λ_=>eP
 pn:=[]
 xe:=λe s'=>wpAny (à P w) (A.deeper<|aH qual scope s.heap.objs.size f cd) (leaving (aH qual scope s.heap.objs.size f cd) e) (λ_ s''=>CX outer H s E e s'') (λe' s''=>CX outer H s E e' s'') s'
def OK{sc:Γ}{n:Nat}{x:Str}(h:sc.names.lookup x=eM .cell):∃c,(cellsFrom n sc.names []).lookup x=eM c:=by have q:=PySem.W.cellsFrom_some sc.names n []<|.inl h;exact ë.mp q
variable {CX:CXT} {N:List Str} {qual:Str} {scope:Γ} {f:Ï}
def A2{K:Frag}{cd:Ã}{s1:Ç}{E:XK}{vs:List V}
  (S:FnScope N ps scope) (hd:A.handled=eN) (e0:Env0 P w K mg base A outer s H) (hl:vs.length=ps.length) (r:gg vs us)
  (x:InCallC s s.heap.objs.size (bindL (aH qual scope s.heap.objs.size f cd).kindOf (ps.zip us) λ_=>eN) (cellsFrom (s.heap.objs.size+1) scope.names []) (dD (aH qual scope s.heap.objs.size f cd).kindOf (ps.zip us) λ_=>eN) s1) :
  Inv (MW CX P w K mg base N qual scope f cd A outer s H E) [] (start N vs) H s1:=by
 have hpl:ps.length<=N.length:=by have:=congrArg List.length S.pre;rw[ÿ]at this;lia
 let⟨h1,tk,rfl,hk⟩:=x.done;have noA:∀b:Ï,b∉(MW CX P w K mg base N qual scope f cd A outer s H E).ex:=λb z=>gB (show b∈([]:List Ï) from z) (by simp);refine⟨⟨e0.mod,S.kind,rfl,rfl,Ó _,λy z c h1 h2=>?_,λy hy=>?_,λy c _ h=>?_,λ_=>hd,Around.frames_deeper e0.frames,.inr ⟨rfl,rfl⟩,λb z=>gB z<|noA b,e0.bs,e0.bsz,λb _ _=>noA b,λb z=>gB z<|noA b,e0.funs,e0.frf⟩,
   rfl,e0.bare,Un.kept hk,⟨_,x.toInCall.ns,λi y v h1 h2 h3=>?_⟩,λy c h=>⟨_,x.cell y c h⟩,e0.hok.fresh<|Ó _,λy c h=>?_,λp hp=>gB (show p∈([]:List<|Ï×Obj) from hp) (by simp),e0.hok.kept hk,?_⟩
 .exact name_of_addr x.apart (PySem.mem_of_lookup h1)<|PySem.mem_of_lookup h2
 .have hy:scope.names.lookup y=eM .cell\/scope.names.lookup y=eM .free:=hy;rcases hy with hy|hy
  .exact OK hy
  .exact gB rfl<|S.nofree _<|PySem.mem_of_lookup hy
 .exact Ι<|x.above y c<|PySem.mem_of_lookup h
 .have hi:i<vs.length:=by
   unfold start at h2;by_cases hi:i<vs.length
   .exact hi
   .rw[č<|by simpa using hi]at h2;rw[Ř]at h2;split at h2<;>cases h2
  have ha:vs[i]?=eM v:=by
   unfold start at h2;rw[Ć ⇑hi,Ø]at h2;cases e:vs[i]? with
   |none=>rw[e]at h2;cases h2
   |some a=>rw[e]at h2;cases h2;rfl
  let⟨u,hu,rv⟩:=r.get ha;have hp:ps[i]?=eM y:=by rw[<-S.pre,List.getElem?_take_of_lt<|by lia];exact h1
  have ndP:ps.Nodup:=by rw[<-S.pre];exact S.nd.sublist<|d5 _ _
  refine⟨u,rv,?_⟩;rcases S.par y (ô hp)with k|k
  .exact .inl ⟨k,Mu ndP hp hu k⟩
  .obtain⟨c,e⟩:=OK (n:=s.heap.objs.size+1) k;refine .inr ⟨.inl k,c,e,?_⟩;have q:=x.cell y c e;rw[Mf ndP hp hu<|by show scope.names.lookup y≠_;rw[k];decide]at q;exact q
 .exact e0.hok.fresh<|Ι<|x.above y c<|PySem.mem_of_lookup h
 .unfold start;show _=N.length;rw[ã,À,ì];lia
def Qd{K:Frag}{k:Nat}{name:Str}{params:Arguments}{body:List ň}{dV kV doc pm ϱ ct oc:Ã}{an od:Option Ï}
  {osl:Array (Option Ã)}  {sp:Sp}(lk:K.lookup f=eM ⟨oc,od,.func<|PySem.W.fnOf name qual params body scope dV kV doc pm an ϱ ct,osl⟩) (bp:PySem.W.codeIn K ϱ qual=eP) (S:FnScope N ps scope)
  (len:∀vs H Q E,sp vs H Q E->vs.length=ps.length)
  (hbody:∀(A:ĉ) (outer:List Env) (s:Ç) (H:Hp) (vs:List V) (Q:VK) (E:XK),fy k (A.deeper<|aH qual scope s.heap.objs.size f ϱ)->sp vs H Q E->
    ∃t,PSs (MW CX P w K mg base N qual scope f ϱ A outer s H E) body t/\t { nx:=λ_ H'=>Q .non H',rt:=Q } (start N vs) H) :
  fz P w K mg base CX (k+1) f (PySem.W.fnOf name qual params body scope dV kV doc pm an ϱ ct) ps sp:=by
 refine⟨len,λA outer s H args us vs Q E hr e0 hb r hsp=>?_⟩;have hl:=len _ _ _ _ hsp;have KX:K.In s.heap:=e0.mod.kin.keeps λb o e=>(e0.bs b o e).1;have lim:s.heap.NoLimit:=e0.mod.nolimit.keeps λb o e=>(e0.bs b o e).1;have hkind:∀y∈ps.zip us,scope.names.lookup y.1=eM .local\/(scope.names.lookup y.1=eM .cell/\((cellsFrom (s.heap.objs.size+1) scope.names []).lookup y.1).isSome=eP):=λ⟨n,v⟩ hy=>by
  rcases S.par n (aV hy).1 with q|q
  .exact .inl q
  .exact .inr ⟨q,PySem.W.cellsFrom_some _ _ _<|.inl q⟩
 refine codeAny_call_function hr.depth (KX _ _ lk) rfl S.co S.gen rfl (PySem.W.codeRec_of KX bp)<|hb _ _ _ _ ?_;refine wpAny_newFunctionEnv_cells S.kind hkind λenv he s1 x=>?_;subst he;refine⟨lim.keeps x.toInCall.keep,codeAny_func ?_⟩;let⟨t,ht,hq⟩:=hbody A outer s H vs Q E (hr.deeper _) hsp;have I:Inv (MW CX P w K mg base N qual scope f ϱ A outer s H E) [] (start N vs) H s1:=A2 S hr.hd e0 hl r x;refine Ĳ (ht [] s1 (start N vs) H _ I hq) (λfl s' hs=>?_) λe s' hs=>hs;have fin:∀{ť:St}{H':Hp}{v:V}{u:Ã},Inv (MW CX P w K mg base N qual scope f ϱ A outer s H E) [] ť H' s'->RelV v u->Q v H'->CE outer P w H s Q u s' :=
  λ{ť H' v u} J rv q=>⟨v,H',J.os,J.bare,J.base,J.hok,rv,q⟩
 cases fl with
 |ret u =>let⟨v,ť,H',J,rv,q⟩:=hs;exact fin J rv q
 |next =>let⟨ť,H',J,q⟩:=hs;exact fin (v:=V.non) (u:=Value.none) J rfl q
 |brk =>let⟨_,_,_,q⟩:=hs;exact Ő q
 |cont =>let⟨_,_,_,q⟩:=hs;exact Ő q
section
variable {X:Cx}{x:Str}{p î:Pos}{e:Expr}{es:List Expr}{t:TA}{id T:String}{r:List V->Hp->VK->Prop}
abbrev tCB(r:List V->Hp->VK->Prop)(t:TA):TE:=λσ H Q=>t σ H λvs H1=>r vs H1 Q
def X8(hc:eZ X (.builtin id) r)(hg:Gl X x)(hm:X.mg x=eN)(hv:Ŷ x=eM (.builtin id))(ha:PA X (e::es) t)(hn:x≠"__name__":=by decide)(cL:(x==("__debug__" : Str))=eQ:=by decide)
  (he:ß (e::es) X.env=(eQ,eval e X.env)::ß es X.env:=by rfl) (hpl:(ě î<|ß es X.env).any (·.1)=eQ:=by rfl):PE X (.Call (.Name x p) (e::es) [] î)<|tCB r t:=by
 intro Â s σ H Q I h;refine Ĵ<|Xp I hg hm hv ?_ hn cL;exact PyProof.Rows.callWith_builtin1 (thn (ha î Â s σ H _ I h) λus s1 ⟨vs,H1,I1,r1,q1⟩=>hc Â s1 σ H1 vs us Q I1 r1 q1) he hpl
def WB(hc:eZ X (.type T) r)(hg:Gl X x)(hm:X.mg x=eN)(hv:Ŷ x=eM (.type T))(ha:PA X (e::es) t)(hn:x≠"__name__":=by decide)(cL:(x==("__debug__" : Str))=eQ:=by decide)
  (he:ß (e::es) X.env=(eQ,eval e X.env)::ß es X.env:=by rfl) (hpl:(ě î<|ß es X.env).any (·.1)=eQ:=by rfl):PE X (.Call (.Name x p) (e::es) [] î)<|tCB r t:=by
 intro Â s σ H Q I h;refine Ĵ<|Xp I hg hm hv ?_ hn cL;exact PyProof.Rows.callWith_type1 (thn (ha î Â s σ H _ I h) λus s1 ⟨vs,H1,I1,r1,q1⟩=>hc Â s1 σ H1 vs us Q I1 r1 q1) he hpl
end
end L2
namespace HT
open PySem PyProof.Rows
abbrev lexLt:List Int->List Int->Bool
 |[],[]=>eQ
 |[],_::_=>eP
 |_::_,[]=>eQ
 |x::xs,y::ys=>if x=y then lexLt xs ys else gC (x<y)
def lexLt_cons(x y:Int)(xs ys:List Int):lexLt (x::xs) (y::ys)=if x=y then lexLt xs ys else gC (x<y):=rfl
def KA:lexLt [] []=eQ:=rfl
def Kd(y:Int)(ys:List Int):lexLt [] (y::ys)=eP:=rfl
def Jm(x:Int)(xs:List Int):lexLt (x::xs) []=eQ:=rfl
def eqAt_int(A:ĉ)(s:Ç)(a:Int)(t:Tok)(c:Int)(u:Tok):∃e,SeqAt.EqAt A s (.int a t) (.int c u) e/\(e=eP↔a=c) :=
 ⟨(a==c),SeqAt.EqAt.int_int a t c u,by simp⟩
def EH(A:ĉ)(s:Ç)(a:Int)(t:Tok)(c:Int)(u:Tok)(prog:ç)(w:þ)(E:Ã->Ç->Prop)(Q:Ã->Ç->Prop)(h:Q (.bool<|gC (a<c)) s) :
  wpAny (à prog w) A (richCompare .Lt (.int a t)<|.int c u) Q E s :=
 (PyProof.Rows.lt_int h:wpAny (à prog w) A (ï .Lt (.int a t)<|.int c u) Q E s)
section
open PySem.SeqAt
open PySem.AutoSeq1 (wpAny_loadPart')
open PySem.MeetsSeq PySem.MeetsSeq2 PySem.MeetsSeq3
def KK(l b:Ï)(items ō:Array Ã)(n n2:Nat)(dd cZ:Option Ï)(sl dQ:Array<|Option Ã)(ns ms:List Int)(hi:Ā items.toList ns)(hj:Ā ō.toList ms) :
  Meets (Builtin.«tuple.__lt__» ⟨[.ref l,.ref b],[]⟩)
   (λ_ R s=>s.heap.get? l=eM { cls:=.type "tuple",dict:=dd,data:=.seq items n,slots:=sl }/\s.heap.get? b=eM { cls:=.type "tuple",dict:=cZ,data:=.seq ō n2,slots:=dQ }/\
     R (.ok<|.ret<|.bool<|lexLt ns ms) s) :=
 .of_wp λprog w A R s h=>by
  let⟨hp,g,d,tk,os⟩:=s;let⟨hl,hb,h⟩:=h;have f2:=AutoSeq1.sub_tuple_tuple;have z1:items.size=ns.length:=by rw[<-hi.length];simp
  have z2:ō.size=ms.length:=by rw[<-hj.length];simp
  wp_walk using ğ hl,ğ hb,wpAny_forIn_list _ (λrest b s'=>b.1=eN/\s'=⟨hp,g,d,tk,os⟩/\∃(vs ws:List Ã) (ck dy:List Int),rest=vs.zip ws/\
    Ā vs ck/\Ā ws dy/\ck.length+ō.size=dy.length+items.size/\R (.ok<|.ret<|.bool<|lexLt ck dy) ⟨hp,g,d,tk,os⟩) _
  case turn =>
   rintro⟨y,x⟩ rest b s' ⟨aP,rfl,vs,ws,ck,dy,hz,hvi,hwi,hlen,hR⟩;cases hvi with
   |nil=>rw[Ψ]at hz;cases hz
   |cons a t hvi' =>
    cases hwi with
    |nil=>rw[Λ]at hz;cases hz
    |cons c u hwi' =>
     rw[ŝ]at hz;injection hz with hyx hrest;injection hyx with hy hx;subst hy hx;rw[lexLt_cons]at hR;simp only[Ò]at hlen;let⟨e,he,hiff⟩:=eqAt_int A.in1 ⟨hp,g,d,tk,os⟩ a t c u;refine Á<|he prog w _ _ ?_;cases e with
     |true =>
      rw[gw<|hiff.mp rfl]at hR
      wp_walk
      exact⟨rfl,rfl,_,_,_,_,hrest,hvi',hwi',by lia,hR⟩
     |false =>
      rw[gx λq=>gB (hiff.mpr q) ö]at hR;have hri:=EH A.in1 ⟨hp,g,d,tk,os⟩ a t c u prog w
      wp_walk using hri
      exact⟨_,rfl,⇑hR⟩
  case fin =>
   rintro⟨b1,b2⟩ s' ⟨aP,rfl,vs,ws,ck,dy,hz,hvi,hwi,hlen,hR⟩;simp only at aP;subst aP;have hv:lexLt ck dy=gC (items.size<ō.size):=by
    cases hvi with
    |nil =>
     cases hwi with
     |nil =>simp only[Ĩ]at hlen;rw[KA];exact(gy<|by lia).symm
     |cons c u hw =>simp only[Ĩ,Ò]at hlen;rw[Kd];exact(gz<|by lia).symm
    |cons a t hv =>
     cases hwi with
     |nil =>simp only[Ĩ,Ò]at hlen;rw[Jm];exact(gy<|by lia).symm
     |cons c u hw =>rw[ŝ]at hz;cases hz
   rw[hv]at hR
   wp_walk
   exact⟨_,rfl,by simpa[Builtin.Tuple.tupleCompareSizes]using hR⟩
  case h =>exact⟨rfl,rfl,items.toList,ō.toList,ns,ms,rfl,hi,hj,by lia,h⟩
end
section
variable {prog:ç}{w:þ}{A:ĉ}{E:Ã->Ç->Prop}{s:Ç}
variable {b:Ï} {items:Array Ã} {Q:Ã->Ç->Prop}
def lt_tupInts{l:Ï}{ō:Array Ã}{ns ms:List Int}(hl:aY s.heap l items)(hb:aY s.heap b ō)(hi:Ā items.toList ns)(hj:Ā ō.toList ms)
  (hu:A.units<Ķ) (h:Q (.bool<|lexLt ns ms) s):wpAny (à prog w) A (ï .Lt (.ref l)<|.ref b) Q E s:=by
 let⟨⟨cls,dd,data,sl⟩,ho,hc,n,hd⟩:=id hl;let⟨⟨cls2,cZ,data2,dQ⟩,ho2,hc2,n2,bT⟩:=id hb;simp only at hc hd hc2 bT;subst hc hd hc2 bT;exact d6 (op:=.Lt) ⟨_,ho,rfl⟩ ⟨_,ho2,rfl⟩ PySem.F.slot_tuple_lt PySem.F.entry_tuple_lt (PySem.F.args_tuple_lt_2 _ _) (KK l b items ō n n2 dd cZ sl dQ ns ms hi hj)
  ⟨ho,ho2,show Value.bool (lexLt ns ms)≠cA/\Q (.bool<|lexLt ns ms) s from ⟨(λx=>nomatch x),h⟩⟩ hu
def cat_tup{t:Ï}{vs ws:List Ã}(ht:aY s.heap t vs.toArray)(hb:aY s.heap b ws.toArray)(hv:vs≠[])
  (h1:ws=[]->Q (.ref t) s) (h2:ws≠[]->Q (.ref s.heap.objs.size) {s with heap:=s.heap.push {cls:=.type "tuple",data:=.seq (vs++ws).toArray}})
  (hsz:vs.length+ws.length<=Ý):wpAny (à prog w) A (œ .Add (.ref t)<|.ref b) Q E s:=by
 let⟨⟨cls,dd,data,sl⟩,ho,hc,n,hd⟩:=id ht;let⟨⟨cls2,cZ,data2,dQ⟩,ho2,hc2,n2,bT⟩:=id hb;simp only at hc hd hc2 bT;subst hc hd hc2 bT;have e:vs.toArray++ws.toArray=(vs++ws).toArray:=by simp
 by_cases hw:ws=[]
 .exact d7 ⟨_,ho,rfl⟩ ⟨_,ho2,rfl⟩ bA di PySem.F.slot_tuple_add PySem.F.entry_tuple_add (PySem.F.args_tuple_add_2 _ _)
   (tuple_addW1 t b vs.toArray ws.toArray n n2 dd cZ sl dQ ⇑hv<|by simp[hw]) ⟨ho,ho2,h1 hw⟩
 .refine d7 ⟨_,ho,rfl⟩ ⟨_,ho2,rfl⟩ bA di PySem.F.slot_tuple_add PySem.F.entry_tuple_add (PySem.F.args_tuple_add_2 _ _)
   (tuple_addW2 t b vs.toArray ws.toArray n n2 dd cZ sl dQ ⇑hv ⇑hw<|by rw[Ð,Ð];exact hsz) ⟨ho,ho2,?_⟩
  rw[e];exact h2 hw
abbrev sIx(n d:Nat):Option Int->Nat
 |none=>d
 |some v=>if v<0 then(v+(n:Int)).toNat else min v.toNat n
def IJ(n d:Nat)(hd:d<=n)(o:Option Int):sIx n d o<=n:=by
 cases o with
 |none=>exact hd
 |some v =>
  show(if v<0 then(v+(n:Int)).toNat else min v.toNat n)<=n;by_cases hv:v<0
  .rw[gw hv];lia
  .rw[gx hv];exact aI _ _
def clip_eq(v:Int)(n d:Nat):(if v<0 then max (v+(n:Int)) 0 else min v (n:Int))=((sIx n d (eM v):Nat):Int):=by
 show(if v<0 then max (v+(n:Int)) 0 else min v (n:Int))=(((if v<0 then(v+(n:Int)).toNat else min v.toNat n):Nat):Int)
 by_cases hv:v<0
 .simp only[gw hv];lia
 .simp only[gx hv];lia
def Ub(lo hi:Option Int)(n:Nat):Builtin.Slice.sliceAdjust lo hi 1 (n:Int)=(((sIx n 0 lo:Nat):Int),((sIx n n hi:Nat):Int)):=by
 have h1:¬ ((1:Int)<0):=by lia
 unfold Builtin.Slice.sliceAdjust;simp only[h1,if_false];refine Prod.ext ?_ ?_
 .cases lo with
  |none=>rfl
  |some v=>exact clip_eq v n 0
 .cases hi with
  |none=>rfl
  |some v=>exact clip_eq v n n
def Uk(i j:Nat):Builtin.Slice.slicePlaces (i:Int) (j:Int) 1=j - i:=by
 unfold Builtin.Slice.slicePlaces;have h1:(1:Int) > 0:=by lia
 simp only[h1,if_true,Int.ediv_one];split<;>lia
def JR{v:Ã}{o:Option Int}{Q:Option Int->Ç->Prop}(p:ϩ v o)(h:Q o s):wpAny (à prog w) A (Builtin.Slice.slicePartIndex v) Q E s:=by
 cases p with
 |none=>exact slicePart_none h
 |int i t=>exact slicePart_int h
variable {sl:Ï} {vl:Ã} {vu:Ã} {lo:Option Int} {hi:Option Int}
def YF{n:Nat}{Q:Int×Int×Nat->Ç->Prop}(hs:s.heap.IsSliceOf sl vl vu .none)(pl:ϩ vl lo)(pu:ϩ vu hi)
  (h:Q (((sIx n 0 lo:Nat):Int),1,sIx n n hi - sIx n 0 lo) s):wpAny (à prog w) A (Builtin.Slice.sliceApplied (.ref sl)<|pure (n:Int)) Q E s:=by
 let⟨os,hos,hcs,hds⟩:=id hs;unfold Builtin.Slice.sliceApplied Builtin.Slice.sliceFields;refine Á<|Á<|ŕ hos hds (x:=vl) rfl<|Á<|ŕ hos hds (x:=vu) rfl<|Á<|ŕ hos hds (x:=.none) rfl<|È ?_;refine Á<|slicePart_none ?_;show wpAny _ _ (if((1:Int)==0)=eP then _ else _) _ _ s;rw[gx<|by decide];refine Á<|JR pl<|Á<|JR pu<|Á<|È ?_;show wpAny _ _ (match Builtin.Slice.sliceAdjust lo hi 1 (n:Int)with|(lo,hi)=>pure (lo,(1:Int),Builtin.Slice.slicePlaces lo hi 1)) _ _ s;rw[Ub lo hi n];show wpAny _ _ (pure (((sIx n 0 lo:Nat):Int),(1:Int),Builtin.Slice.slicePlaces ((sIx n 0 lo:Nat):Int) ((sIx n n hi:Nat):Int) 1)) _ _ s;rw[Uk];exact È h
def Eu(xs:Array Ã)(i k:Nat):((List.range k).filterMap λ(m:Nat)=>xs[((i:Int)+(m:Int)*1).toNat]?).toArray=((xs.toList.drop i).take k).toArray:=by
 have e:(λ(m:Nat)=>xs[((i:Int)+(m:Int)*1).toNat]?)=λm=>xs[i+m]?:=by
  funext m;have:((i:Int)+(m:Int)*1).toNat=i+m:=by lia
  rw[this]
 rw[e];have:=pick_run xs i k;rw[Μ]at this;have e2:((λx=>xs[x]?) ∘ λx=>i+x)=λm=>xs[i+m]?:=rfl;rw[e2]at this;rw[this]
def getItem_tuple_cut{t:Ï}(ht:aY s.heap t items)(hs:s.heap.IsSliceOf sl vl vu .none)(pl:ϩ vl lo)(pu:ϩ vu hi)
  (hw:¬ (sIx items.size 0 lo=0/\sIx items.size items.size hi=items.size))
  (h:Q (.ref s.heap.objs.size) {s with heap:=s.heap.push {cls:=.type "tuple",data:=.seq ((items.toList.drop<|sIx items.size 0 lo).take<|sIx items.size items.size hi - sIx items.size 0 lo).toArray}})
  (hsz:items.size<=Ý):wpAny (à prog w) A (Ϩ (.ref t)<|.ref sl) Q E s:=by
 have db:sizeOk<|.seq ((items.toList.drop<|sIx items.size 0 lo).take<|sIx items.size items.size hi - sIx items.size 0 lo).toArray:=by show((items.toList.drop<|sIx items.size 0 lo).take<|sIx items.size items.size hi - sIx items.size 0 lo).toArray.size<=Ý;rw[Ð,ÿ,Ľ,ò];lia
 have hj:sIx items.size items.size hi<=items.size:=IJ _ _ (Ó _) hi;let⟨os,hos,hcs,hds⟩:=id hs;have hTs:s.TypeIs (.ref sl) "slice":=⟨os,hos,hcs⟩
 unfold Ϩ
 try with_reducible refine Ĝ ?_
 first|refine Á (È ?_)|skip
 refine Á (wpAny_sequenceKey ht.typeIs (by decide) ?_);refine Á (ĺ (name:=gD "__getitem__") ht.typeIs PyProof.Rows.slot_tuple_getitem
   (Ģ PyProof.Rows.slot_tuple_getitem ht.typeIs entry_tuple_getitem ?_<|args_tuple_getitem _ _))
 show wpAny _ _ (Builtin.Tuple.tupleItemsOf (.ref t) >>= _) _ _ s;refine Á<|tupleItemsOf_ ht ?_;refine Á<|Ϫ hTs ?_;rw[gw<|by decide];refine Á<|YF hs pl pu ?_;have hno:¬ ((((sIx items.size 0 lo:Nat):Int)==0&&(1:Int)==1&&(sIx items.size items.size hi - sIx items.size 0 lo)==items.size)=eP):=by intro q;rw[bAq,bAq]at q;have q1:((sIx items.size 0 lo:Nat):Int)=0:=eq_of_beq q.1.1;have q2:sIx items.size items.size hi - sIx items.size 0 lo=items.size:=eq_of_beq q.2;exact hw ⟨by lia,by lia⟩
 show wpAny _ _ (if(((sIx items.size 0 lo:Nat):Int)==0&&(1:Int)==1&&(sIx items.size items.size hi - sIx items.size 0 lo)==items.size)=eP then _ else _) _ _ s;rw[gx hno,Eu]
 first
  |exact Á (m:=Builtin.Tuple.tupleExact _)<|ć (È ⟨_,rfl,È h⟩) db
  |exact Á (m:=Builtin.Tuple.tupleExact _)<|ć (Á<|È<|È ⟨_,rfl,È h⟩) db
  |exact Á<|Á (m:=Builtin.Tuple.tupleExact _)<|ć (È<|È ⟨_,rfl,È h⟩) db
  |exact Á<|Á (m:=Builtin.Tuple.tupleExact _)<|ć (È ⟨_,rfl,È h⟩) db
end
end HT
namespace L2
open PySem PySem.Spec PyProof.Rows
noncomputable abbrev TO:=St->Hp->(Option Int->Hp->Prop)->Prop
abbrev PO(X:Cx)(e:Option Expr)(t:TO):Prop :=
 ∀(Â:List<|Ï×Obj) (s:Ç) (σ:St) (H:Hp) (Q:Option Int->Hp->Prop),Inv X Â σ H s->t σ H Q->
  wpAny (à X.prog X.w) X.A (evalPart e X.env) (λu s'=>∃o H',Inv X Â σ H' s'/\ϩ u o/\Q o H') X.xe s
abbrev F4:TO:=λ_ H Q=>Q eN H
abbrev Qt(t:TE):TO:=λσ H Q=>t σ H λx H1=>∃i,x=.int i/\Q (eM i) H1
def ZT{ns:List Int}:∀{us:List Ã},gg (ns.map V.int) us->Ā us ns:=by
 induction ns with
 |nil=>intro us r;rw[ϕ]at r;cases r;exact .nil
 |cons n ns ih =>
  intro us r;rw[Î]at r;cases r with
  |cons r1 r2 =>let⟨t,e⟩:=r1;subst e;exact .cons n t<|ih r2
section
variable {X:Cx}{e:Expr}{te:TE}{lo hi:Option Expr}{tl th:TO}{î p2:Pos}
def po_none:PO X eN F4:=by intro Â s σ H Q I h;rw[evalPart_none];exact È ⟨eN,H,I,.none,h⟩
def He(h:PE X e te):PO X (eM e)<|Qt te:=by intro Â s σ H Q I hw;rw[evalPart_some];refine thn (h Â s σ H _ I hw) λu s1 ⟨x,H1,I1,r1,q1⟩=>?_;let⟨i,rfl,q⟩:=q1;let⟨t,rfl⟩:=r1;exact⟨eM i,H1,I1,.int i t,q⟩
abbrev SlR(X:Cx)(r:V->Option Int->Option Int->Hp->VK->Prop):Prop :=
 ∀(Â:List<|Ï×Obj) (s:Ç) (σ:St) (H:Hp) (x:V) (v vl vu:Ã) (lo hi:Option Int) (sl:Ï) (Q:VK),Inv X Â σ H s->RelV x v->s.heap.IsSliceOf sl vl vu .none->ϩ vl lo->ϩ vu hi->r x lo hi H Q->
  ∃T id,typeLookup (.type T) "__getitem__" = pure (eM<|.builtin id)/\s.TypeIs v T/\wpAny (à X.prog X.w) X.A (Ϩ v<|.ref sl) (EP X Â σ Q) X.xe s
variable {r:V->Option Int->Option Int->Hp->VK->Prop}
def SlR.or{r':V->Option Int->Option Int->Hp->VK->Prop}(h:SlR X r)(h':SlR X r'):SlR X λx lo hi H Q=>r x lo hi H Q\/r' x lo hi H Q:=by
 intro Â s σ H x v vl vu lo hi sl Q I rx hs pl pu q;rcases q with q|q
 .exact h Â s σ H x v vl vu lo hi sl Q I rx hs pl pu q
 .exact h' Â s σ H x v vl vu lo hi sl Q I rx hs pl pu q
abbrev tSl(r:V->Option Int->Option Int->Hp->VK->Prop)(te:TE)(tl th:TO):TE:=λσ H Q=>te σ H λx H1=>tl σ H1 λl H2=>th σ H2 λu H3=>r x l u H3 Q
def Dp(hr:SlR X r)(he:PE X e te)(hl:PO X lo tl)(hu:PO X hi th):PE X (.Subscript e (.Slice lo hi eN p2) î)<|tSl r te tl th:=by intro Â s σ H Q I h;refine Subscript_<|thn (he Â s σ H _ I h) λv s1 ⟨x,H1,I1,r1,q1⟩=>?_;refine wpAny_Slice<|thn (hl Â s1 σ H1 _ I1 q1) λvl s2 ⟨l,H2,I2,pl,q2⟩=>thn (hu Â s2 σ H2 _ I2 q2) λvu s3 ⟨u,H3,I3,pu,q3⟩=>?_;rw[evalPart_none];refine È ?_;have I4:Inv X Â σ H3 {s3 with heap:=s3.heap.push {cls:=.type "slice",data:=.fields #[vl,vu,.none]}}:=I3.kept (t':=s3.toks) λb ob q=>Å _ q;let⟨T,id,hT,ht,hg⟩:=hr Â {s3 with heap:=s3.heap.push {cls:=.type "slice",data:=.fields #[vl,vu,.none]}} σ H3 x v vl vu l u s3.heap.objs.size Q I4 r1 (Heap.IsSliceOf.new ..) pl pu q3;show wpAny (à X.prog X.w) X.A (dj e (.Slice lo hi eN p2) v<|.ref s3.heap.objs.size) (EP X Â σ Q) X.xe {s3 with heap:=s3.heap.push {cls:=.type "slice",data:=.fields #[vl,vu,.none]}};exact tail_any (ops:=[.ref s3.heap.objs.size,v]) ht hT hg (by with_unfolding_all rfl)
abbrev ND(xs:List V)(lo hi:Option Int):List V:=(xs.drop<|HT.sIx xs.length 0 lo).take<|HT.sIx xs.length xs.length hi - HT.sIx xs.length 0 lo
def WQ(xs:List V)(lo hi:Option Int):(ND xs lo hi).length<=xs.length:=by unfold ND;rw[ÿ,Ľ];lia
abbrev Rl(K:Frag):V->Option Int->Option Int->Hp->VK->Prop:=λx lo hi H Q=>∃a xs,x=.ref a/\gf K H a xs/\
 ¬ (HT.sIx xs.length 0 lo=0/\HT.sIx xs.length xs.length hi=xs.length)/\∀p,H p=eN->Q (.ref p) (upd H p<|.tup<|ND xs lo hi)
def fP:SlR X<|Rl X.K:=by
 intro Â s σ H x v vl vu lo hi sl Q I rx hs pl pu h;let⟨a,xs,rfl,hx,hw,q⟩:=h;cases rx;let⟨õ,r,ht,hz⟩:=I.tuple hx;have hlen:õ.toArray.size=xs.length:=by rw[Ð];exact r.length.symm
 refine⟨"tuple",_,PyProof.Rows.slot_tuple_getitem.lookup,ht.typeIs,?_⟩;refine HT.getItem_tuple_cut ht hs pl pu (by rw[hlen];exact hw) ?_ (by rw[hlen];exact hz);rw[hlen];refine⟨.ref s.heap.objs.size,_,I.laid (t':=s.toks) (o:=.tup<|ND xs lo hi) (λb ob q=>Å _ q) (Ó _) ?_,rfl,q _<|I.hok.fresh<|Ó _⟩;exact⟨Õ (WQ xs lo hi) hz,_,(r.drop<|HT.sIx xs.length 0 lo).take<|HT.sIx xs.length xs.length hi - HT.sIx xs.length 0 lo,IsTup.new _ _⟩
abbrev QP(K:Frag):R2:=λx y H Q=>∃a b ns ms,x=.ref a/\y=.ref b/\gf K H a (ns.map V.int)/\gf K H b (ms.map V.int)/\Q (.bl<|HT.lexLt ns ms) H
def PL(hu:X.A.units<Ķ):OpR X (ï .Lt)<|QP X.K:=by intro Â s σ H x y v u Q I rx ry h;let⟨a,b,ns,ms,rfl,rfl,ha,hb,q⟩:=h;cases rx;cases ry;let⟨õ,r1,p1,_⟩:=I.tuple ha;let⟨Ϲ,r2,p2,_⟩:=I.tuple hb;have i1:Ā õ.toArray.toList ns:=ZT r1;have i2:Ā Ϲ.toArray.toList ms:=ZT r2;exact HT.lt_tupInts p1 p2 i1 i2 hu ⟨.bl<|HT.lexLt ns ms,H,I,rfl,q⟩
abbrev Ia(K:Frag):R2:=λx y H Q=>∃a b xs ys,x=.ref a/\y=.ref b/\gf K H a xs/\gf K H b ys/\xs≠[]/\xs.length+ys.length<=Ý/\
 (ys=[]->Q (.ref a) H)/\(ys≠[]->∀p,H p=eN->Q (.ref p) (upd H p<|.tup<|xs++ys))
def gg.nil_iff{xs:List V}{us:List Ã}(r:gg xs us):us=[]↔xs=[]:=by
 cases r with
 |nil=>simp
 |cons _ _=>simp
def GU:OpR X (œ .Add)<|Ia X.K:=by intro Â s σ H x y v u Q I rx ry h;let⟨a,b,xs,ys,rfl,rfl,ha,hb,hx,hz,q1,q2⟩:=h;cases rx;cases ry;let⟨õ,r1,p1,_⟩:=I.tuple ha;let⟨Ϲ,r2,p2,_⟩:=I.tuple hb;refine HT.cat_tup p1 p2 (λz=>hx<|r1.nil_iff.mp z) (λz=>⟨.ref a,H,I,rfl,q1<|r2.nil_iff.mp z⟩) (λz=>?_) (by rw[<-r1.length,<-r2.length];exact hz);refine⟨.ref s.heap.objs.size,_,I.laid (t':=s.toks) (o:=.tup<|xs++ys) (λb ob q=>Å _ q) (Ó _) ?_,rfl,q2 (λw=>z<|r2.nil_iff.mpr w) _<|I.hok.fresh<|Ó _⟩;exact⟨by rw[ã];exact hz,_,r1.append r2,IsTup.new _ _⟩
end
abbrev ixN(n:Nat)(i:Int):Option Nat:=if 0<=i then(if i<n then eM i.toNat else eN)else if -(n:Int)<=i then eM (i+n).toNat else eN
variable {α:Type}
abbrev atI(xs:List α)(i:Int):Option α:=(ixN xs.length i).bind λj=>xs[j]?
variable {n:Nat} {i:Int}
def MI{j:Nat}(h:ixN n i=eM j):seqIndex? i n=eM j/\j<n/\-(n:Int)<=i/\i<n:=by
 unfold ixN at h;by_cases h0:0<=i
 .rw[gw h0]at h;by_cases h1:i<n
  .rw[gw h1]at h;have e:i.toNat=j:=ñ h;exact⟨by rw[bK h0 h1,e],by lia,by lia,h1⟩
  .rw[gx h1]at h;cases h
 .rw[gx h0]at h;by_cases h1:-(n:Int)<=i
  .rw[gw h1]at h;have e:(i+n).toNat=j:=ñ h;exact⟨by rw[a8 (by lia) h1,e],by lia,h1,by lia⟩
  .rw[gx h1]at h;cases h
def W1{xs:List α}{v:α}(h:atI xs i=eM v):∃j,seqIndex? i xs.length=eM j/\xs[j]?=eM v/\j<xs.length/\-(xs.length:Int)<=i/\i<xs.length:=by
 unfold atI at h;cases e:ixN xs.length i with
 |none=>rw[e]at h;cases h
 |some j =>rw[e]at h;let⟨h1,h2,h3,h4⟩:=MI e;exact⟨j,h1,h,h2,h3,h4⟩
abbrev Nl(b:Expr):Prop:=∀o i,subscripted b eQ o i=operate [o,i] (Ϩ o i)
abbrev IxR(X:Cx)(r:R2):Prop :=
 ∀(Θ slice:Expr) (Â:List<|Ï×Obj) (s:Ç) (σ:St) (H:Hp) (x y:V) (v u:Ã) (Q:VK),Inv X Â σ H s->RelV x v->RelV y u->r x y H Q->
  subscripted slice eQ v u=operate [v,u] (Ϩ v u)->wpAny (à X.prog X.w) X.A (dj Θ slice v u) (EP X Â σ Q) X.xe s
abbrev MtR(X:Cx)(id:String)(r:V->List V->Hp->VK->Prop):Prop :=
 ∀(Â:List<|Ï×Obj) (s:Ç) (σ:St) (H:Hp) (x:V) (xs:List V) (v:Ã) (us:List Ã) (Q:VK),Inv X Â σ H s->RelV x v->gg xs us->r x xs H Q->
  wpAny (à X.prog X.w) X.A (call (.builtin id)<|v::us) (EP X Â σ Q) X.xe s
section
variable {X:Cx}{a b:Expr}{ta tb:TE}{î:Pos}
variable {r:R2}
def IxR.or{r':R2}(h:IxR X r)(h':IxR X r'):IxR X λx y H Q=>r x y H Q\/r' x y H Q:=by
 intro Θ slice Â s σ H x y v u Q I rx ry q hs;rcases q with q|q
 .exact h Θ slice Â s σ H x y v u Q I rx ry q hs
 .exact h' Θ slice Â s σ H x y v u Q I rx ry q hs
def MtR.or{id:String}{r r':V->List V->Hp->VK->Prop}(h:MtR X id r)(h':MtR X id r'):MtR X id λx xs H Q=>r x xs H Q\/r' x xs H Q:=by
 intro Â s σ H x xs v us Q I rx rs q;rcases q with q|q
 .exact h Â s σ H x xs v us Q I rx rs q
 .exact h' Â s σ H x xs v us Q I rx rs q
def RF(hr:IxR X r)(ha:PE X a ta)(hb:PE X b tb)(hs:Nl b):PE X (.Subscript a b î)<|tOp r ta tb:=by intro Â s σ H Q I h;exact Subscript_ (IG ha hb I h λv u s2 x y H2 I2 rx ry q=>hr a b Â s2 σ H2 x y v u Q I2 rx ry q<|hs _ _)
abbrev DM(K:Frag):R2:=λx y H Q=>∃p xs i v,x=.ref p/\y=.int i/\fZ K H p xs/\atI xs i=eM v/\Q v H
abbrev P3(K:Frag):R2:=λx y H Q=>∃p xs i v,x=.ref p/\y=.int i/\gf K H p xs/\atI xs i=eM v/\Q v H
abbrev Rg:R2:=λx y H Q=>∃z i c,x=.str z/\y=.int i/\z.length<=Ý/\atI z.cps.toList i=eM c/\Q (.str ⟨#[c]⟩) H
def ix_list:IxR X<|DM X.K:=by
 intro Θ slice Â s σ H x y v u Q I rx ry h hs;let⟨p,xs,i,z,rfl,rfl,hq,he,q⟩:=h;cases rx;let⟨t,rfl⟩:=ry;let⟨õ,r,pl,hz⟩:=I.list hq;let⟨j,h1,h2,h3,h4,h5⟩:=W1 he;let⟨w,ew,bf⟩:=r.get h2;have hl:=r.length;have hn:=Xn;have fin:EP X Â σ Q w s:=⟨z,H,I,bf,q⟩
 by_cases h0:0<=i
 .have hj:i.toNat=j:=by
   rw[bK h0 h5]at h1;exact ñ h1
  exact item_listR pl.isList h0 (by lia) (by rw[hj];simpa using ew) fin hs
 .have hj:(i+(õ.toArray.size:Int)).toNat=j:=by
   rw[a8 (by lia) h4]at h1;rw[Ð,<-hl];exact ñ h1
  exact d8 (x:=w) pl.isList.typeIs slot_list_getitem.lookup
   (d9 (Q:=λr s'=>r=w/\EP X Â σ Q r s') pl.isList (by lia) (by rw[Ð]<;>lia) (by lia) (by rw[hj];simpa using ew) ⟨rfl,fin⟩) hs
def eX:IxR X<|P3 X.K:=by
 intro Θ slice Â s σ H x y v u Q I rx ry h hs;let⟨p,xs,i,z,rfl,rfl,hq,he,q⟩:=h;cases rx;let⟨t,rfl⟩:=ry;let⟨õ,r,pl,hz⟩:=I.tuple hq;let⟨j,h1,h2,h3,h4,h5⟩:=W1 he;let⟨w,ew,bf⟩:=r.get h2;have hl:=r.length;have hn:=Xn;have fin:EP X Â σ Q w s:=⟨z,H,I,bf,q⟩
 exact d8 (x:=w) pl.typeIs slot_tuple_getitem.lookup
  (getItem_tuple (j:=j) (Q:=λr s'=>r=w/\EP X Â σ Q r s') pl (by lia) (by lia) (by rw[Ð,<-hl];exact h1) ⇑ew ⟨rfl,fin⟩) hs
def IH:IxR X Rg:=by
 intro Θ slice Â s σ H x y v u Q I rx ry h hs;let⟨z,i,c,rfl,rfl,hz,he,q⟩:=h;let⟨t,rfl⟩:=rx;let⟨t',rfl⟩:=ry;let⟨j,h1,h2,h3,h4,h5⟩:=W1 he;have hl:z.cps.toList.length=z.length:=by simp[Str.length]
 rw[hl]at h1 h4 h5;have hn:=Xn;exact tail_any (typeIs_str s z t) slot_str_getitem.lookup (getItem_str (c:=c) (by
   have e1:gC (i < -(2 ^ 63:Int))=eQ:=gy (by lia)
   have e2:gC (i≥2 ^ 63)=eQ:=gy (by lia)
   rw[e1,e2,Ϸ]) (by rw[h1];simpa using h2) ⟨.str ⟨#[c]⟩,H,I.tok _,⟨_,rfl⟩,q⟩) hs
abbrev rIx(K:Frag):R2:=λx y H Q=>DM K x y H Q\/P3 K x y H Q\/Rg x y H Q
def ix_seq:IxR X<|rIx X.K:=ix_list.or (eX.or IH)
def UH(õ:List Ã)(n j:Nat)(u:Ã):Ξ (·.setIfInBounds j u) {cls:=.type "list",data:=.seq õ.toArray n}={cls:=.type "list",data:=.seq (õ.set j u).toArray n}:=by simp[Ξ]
def Inv.lst{Â:List (Ï×Obj)}{σ:St}{H:Hp}{s:Ç}{p:Ï}{xs:List V}(I:Inv X Â σ H s)(h:H p=eM (.lst xs)) :
  ∃(õ:List Ã) (n:Nat),gg xs õ/\s.heap.get? p=eM {cls:=.type "list",data:=.seq õ.toArray n}/\xs.length<=Ý:=by
 let⟨z,õ,n,r,e⟩:=I.hok p _ h;exact⟨õ,n,r,e,z⟩
variable {Â:List (Ï×Obj)} {σ:St} {H:Hp} {s:Ç}
def Inv.lstUpd{p:Ï}{xs ys:List V}{õ its':List Ã}{n':Nat}{f:Obj->Obj}(I:Inv X Â σ H s)(h:H p=eM (.lst xs))
  (ho:s.heap.get? p=eM {cls:=.type "list",data:=.seq õ.toArray n}) (hf:f {cls:=.type "list",data:=.seq õ.toArray n}={cls:=.type "list",data:=.seq its'.toArray n'}) (r:gg ys its') (hz:ys.length<=Ý) (t:Nat) :
  Inv X Â σ (upd H p<|.lst ys) {s with heap:=s.heap.update p f,toks:=t}:=by
 have e:(s.heap.update p f).get? p=eM {cls:=.type "list",data:=.seq its'.toArray n'}:=by rw[Ė f ho (by rw[hf]<;>rfl),hf]
 refine I.write (x:=p) (e:=p) (by rw[h];trivial) (.inl rfl) (λb u hb q=>(ð _ _<|Ne.symm hb).trans q) ⟨_,e⟩ ?_;exact⟨hz,its',n',r,e⟩
abbrev Hy:V->V->V->Hp->(Hp->Prop)->Prop:=λo i v H Q=>∃p xs k j,o=.ref p/\i=.int k/\H p=eM (.lst xs)/\ixN xs.length k=eM j/\Q (upd H p<|.lst<|xs.set j v)
def OD:PSet X Hy:=by
 intro Â s σ H o i v ov iv u Q I ro ri rv h;let⟨p,xs,k,j,rfl,rfl,hp,hj,q⟩:=h;cases ro;let⟨t,rfl⟩:=ri;let⟨õ,n,r,ho,hz⟩:=I.lst hp;let⟨h1,h2,h3,h4⟩:=MI hj;have hl:=r.length;have hn:=Xn;have I':Inv X Â σ (upd H p<|.lst<|xs.set j v) {s with heap:=s.heap.update p (Ξ (·.setIfInBounds j u))} :=
  I.lstUpd hp ho (UH õ n j u) (r.set rv j) (by rw[ϝ];exact hz) s.toks
 by_cases h0:0<=k
 .have hk:k.toNat=j:=by
   rw[bK h0 h4]at h1;exact ñ h1
  exact PySem.W.ki_setAt ho h0 (by lia) (by rw[Ð,<-hl];exact h4) (by rw[hk];exact⟨_,I',q⟩)
 .have hk:(k+(õ.toArray.size:Int)).toNat=j:=by
   rw[a8 (by lia) h3]at h1;rw[Ð,<-hl];exact ñ h1
  exact PySem.W.ki_setBack ho (by lia) (by rw[Ð,<-hl];exact h3) (by lia) (by rw[hk];exact⟨_,I',q⟩)
def NB(lo hi:Option Int)(n:Nat):(Κ lo hi eN n).1=((HT.sIx n 0 lo:Nat):Int)/\(Κ lo hi eN n).2.1=((HT.sIx n n hi:Nat):Int)/\(Κ lo hi eN n).2.2=1:=by
 refine⟨?_,?_,rfl⟩
 .cases lo with
  |none=>simp[Κ,HT.sIx]
  |some i =>
   simp only[Κ,HT.sIx,dF,show(1:Int) > 0 by decide,if_true];by_cases h:i<0
   .simp only[h,if_true]<;>lia
   .simp only[h,if_false]<;>lia
 .cases hi with
  |none=>simp[Κ,HT.sIx]
  |some i =>
   simp only[Κ,HT.sIx,dF,show(1:Int) > 0 by decide,if_true];by_cases h:i<0
   .simp only[h,if_true]<;>lia
   .simp only[h,if_false]<;>lia
def KE(õ:List Ã)(lo hi:Option Int):slicePick õ.toArray lo hi eN=((õ.drop<|HT.sIx õ.length 0 lo).take<|HT.sIx õ.length õ.length hi - HT.sIx õ.length 0 lo).toArray:=by let⟨h1,h2,h3⟩:=NB lo hi õ.toArray.size;unfold slicePick;rw[h1,h2,h3];simp only[sliceRange_one,pick_run,Ð]<;>rfl
abbrev Qp(K:Frag):V->Option Int->Option Int->Hp->VK->Prop:=λx lo hi H Q=>∃a xs,x=.ref a/\fZ K H a xs/\∀p,H p=eN->Q (.ref p) (upd H p<|.lst<|ND xs lo hi)
def sl_list:SlR X<|Qp X.K:=by intro Â s σ H x v vl vu lo hi sl Q I rx hs pl pu h;let⟨a,xs,rfl,hx,q⟩:=h;cases rx;let⟨õ,r,ht,hz⟩:=I.list hx;have hlen:=r.length;refine⟨"list",_,slot_list_getitem.lookup,ht.isList.typeIs,?_⟩;refine wpAny_getItem_list_slice ht.isList hs pl pu .none (by simp) ?_ (by rw[Ð]<;>lia);rw[KE,<-hlen];refine⟨.ref s.heap.objs.size,_,I.laid (t':=s.toks) (o:=.lst<|ND xs lo hi) (λb ob q=>Å _ q) (Ó _) ?_,rfl,q _<|I.hok.fresh<|Ó _⟩;exact⟨Õ (WQ xs lo hi) hz,_,0,(r.drop<|HT.sIx xs.length 0 lo).take<|HT.sIx xs.length xs.length hi - HT.sIx xs.length 0 lo,Ù _ rfl⟩
abbrev eqV:V->V->Bool
 |.non,.non=>eP
 |.bl a,.bl b=>a==b
 |.bl a,.int b=>(if a then 1 else 0)==b
 |.int a,.bl b=>a==(if b then 1 else 0)
 |.int a,.int b=>a==b
 |.str a,.str b=>a==b
 |_,_=>eQ
abbrev inV(x:V)(xs:List V):Bool:=xs.any λy=>eqV y x
def MM:OpR X (ï .NotIn) λx y H Q=>∃i j,x=.str i/\y=.str j/\Q (.bl (!(!(Builtin.Str.occurrences j i 0 j.length 1).isEmpty))) H:=by intro Â s σ H x y v u Q I rx ry h;let⟨i,j,rfl,rfl,q⟩:=h;let⟨t,rfl⟩:=rx;let⟨t',rfl⟩:=ry;exact notIn_str ⟨.bl _,H,I,rfl,q⟩
def call_len_seq:eZ X (.builtin "len") λxs H Q=>∃p ys,xs=[.ref p]/\(fZ X.K H p ys\/gf X.K H p ys)/\Q (.int ys.length) H:=by
 intro Â s σ H xs us Q I r h;let⟨p,ys,rfl,hq,q⟩:=h;let⟨u,rfl,rx⟩:=Yo r;cases rx;have hn:=Xn;rcases hq with hq|hq
 .obtain⟨õ,r',pl,hz⟩:=I.list hq;have hlen:=r'.length;exact Calls.call_len_list pl.isList (by simp only[Ð]<;>lia) ⟨.int ys.length,H,I.tok _,⟨s.toks+1,by rw[Ð,hlen]⟩,q⟩
 .obtain⟨õ,r',pl,hz⟩:=I.tuple hq;have hlen:=r'.length;exact len_tuple pl (by simp only[Ð]<;>lia) ⟨.int ys.length,H,I.tok _,⟨s.toks+1,by rw[Ð,hlen]⟩,q⟩
def MY:eZ X (.builtin "len") λxs H Q=>∃z,xs=[.str z]/\z.length<=Ý/\Q (.int z.length) H:=by intro Â s σ H xs us Q I r h;let⟨z,rfl,hz,q⟩:=h;let⟨u,rfl,t,rfl⟩:=Yo r;have hn:=Xn;exact len_str (by lia) ⟨.int z.length,H,I.tok _,⟨_,rfl⟩,q⟩
def eZ.or{f:Ã}{r r':List V->Hp->VK->Prop}(h:eZ X f r)(h':eZ X f r'):eZ X f λxs H Q=>r xs H Q\/r' xs H Q:=by
 intro Â s σ H xs us Q I rs q;rcases q with q|q
 .exact h Â s σ H xs us Q I rs q
 .exact h' Â s σ H xs us Q I rs q
def Nt:eZ X (.type "list") λxs H Q=>∃p ys,xs=[.ref p]/\(fZ X.K H p ys\/gf X.K H p ys)/\∀l,H l=eN->Q (.ref l) (upd H l<|.lst ys):=by
 intro Â s σ H xs us Q I r h;let⟨p,ys,rfl,hq,q⟩:=h;let⟨u,rfl,rx⟩:=Yo r;cases rx;have fin:∀(õ:List Ã),gg ys õ->ys.length<=Ý->∀(h':Ĉ) (c':Nat),(∀b o',s.heap.get? b=eM o'->h'.get? b=eM o')->
   h'.get? s.heap.objs.size=eM {cls:=.type "list",dict:=eN,data:=.seq õ.toArray c',slots:=#[]}->EP X Â σ Q (.ref s.heap.objs.size) {s with heap:=h'}:=λõ r' hz h' c' kp e =>
  ⟨.ref s.heap.objs.size,_,I.laid (t':=s.toks) kp (Ó _) (show fb X.prog X.w _ h' _ (.lst ys) from ⟨hz,õ,c',r',e⟩),rfl,q _<|I.hok.fresh<|Ó _⟩
 rcases hq with hq|hq
 .obtain⟨õ,r',pl,hz⟩:=I.list hq;have hlen:=r'.length;let⟨o,ho,hc,n,hd⟩:=pl.isList;exact call_list_seq p (.inl rfl) ho hc hd (λh' c' kp e=>fin õ r' hz h' c' kp e) (by simp only[Ð]<;>lia)
 .obtain⟨õ,r',pl,hz⟩:=I.tuple hq;have hlen:=r'.length;let⟨o,ho,hc,n,hd⟩:=pl;exact call_list_seq p (.inr rfl) ho hc hd (λh' c' kp e=>fin õ r' hz h' c' kp e) (by simp only[Ð]<;>lia)
def KO:eZ X (.type "tuple") λxs H Q=>∃p ys,xs=[.ref p]/\((fZ X.K H p ys/\∀l,H l=eN->Q (.ref l) (upd H l<|.tup ys))\/(gf X.K H p ys/\Q (.ref p) H)):=by
 intro Â s σ H xs us Q I r h;let⟨p,ys,rfl,h⟩:=h;let⟨u,rfl,rx⟩:=Yo r;cases rx;rcases h with⟨hq,q⟩|⟨hq,q⟩
 .obtain⟨õ,r',pl,hz⟩:=I.list hq;have hlen:=r'.length;refine call_tuple_list pl.isList (λh' kp=>?_) (by simp only[Ð]<;>lia);have I1:Inv X Â σ H {s with heap:=h'}:=I.kept (t':=s.toks) kp;have I2:Inv X Â σ (upd H h'.objs.size<|.tup ys) {s with heap:=h'.push {cls:=.type "tuple",data:=.seq õ.toArray}} :=
   I1.laid (t':=s.toks) (λb o e=>Å _ e) (Ó _) (show fb X.prog X.w _ _ _ (.tup ys) from ⟨hz,õ,r',IsTup.new _ _⟩)
  exact⟨.ref h'.objs.size,_,I2,rfl,q _<|I1.hok.fresh<|Ó _⟩
 .obtain⟨õ,r',pl,hz⟩:=I.tuple hq;exact call_tuple_same pl ⟨.ref p,H,I,rfl,q⟩
abbrev tyV(K:Frag)(T:String)(x:V)(H:Hp):Prop:=match x with
 |.str _=>T = "str"
 |.int _=>T = "int"
 |.ref p=>(T = "list"/\∃xs,fZ K H p xs)\/(T = "tuple"/\∃o,K.lookup p=eM o/\o.cls=.type "tuple"/\o.dict=eN)\/
   (T = "dict"/\((∃kvs,H p=eM (.dK kvs))\/∃kvs,H p=eM (.dT kvs)))\/(T = "set"/\∃S n,H p=eM (.set S n))
 |_=>False
def PB{T:String}{x:V}{v:Ã}(I:Inv X Â σ H s)(r:RelV x v)(ty:tyV X.K T x H) :
  s.TypeIs v T/\∀a,v=.ref a->∃ob,s.heap.get? a=eM ob/\ob.dict=eN:=by
 cases x with
 |str z =>let⟨t,rfl⟩:=r;cases (show T = "str" from ty);exact⟨typeIs_str s z t,λ_ e=>nomatch e⟩
 |int i =>let⟨t,rfl⟩:=r;cases (show T = "int" from ty);exact⟨typeIs_int s i t,λ_ e=>nomatch e⟩
 |ref p =>
  cases r;rcases ty with⟨rfl,xs,hq⟩|⟨rfl,o,hk,hc,hd⟩|⟨rfl,hk⟩|⟨rfl,S,n,hk⟩
  .obtain⟨õ,_,pl,_⟩:=I.list hq;refine⟨pl.isList.typeIs,λa e=>?_⟩;cases e;let⟨o,n,e,c,hd,_⟩:=pl;exact⟨o,e,hd⟩
  .refine⟨⟨o,I.kIn p o hk,hc⟩,λa e=>?_⟩;cases e;exact⟨o,I.kIn _ o hk,hd⟩
  .have z:∃o,s.heap.get? p=eM o/\o.ExactDict:=by
    rcases hk with⟨kvs,hk⟩|⟨kvs,hk⟩
    .obtain⟨_,_,_,_,o,_,_,e,ex,_⟩:=I.hok p _ hk;exact⟨o,e,ex⟩
    .obtain⟨_,_,_,_,o,_,_,e,ex,_⟩:=I.hok p _ hk;exact⟨o,e,ex⟩
   let⟨o,e,ex⟩:=z;refine⟨⟨o,e,ex.1⟩,λa e2=>?_⟩;cases e2;exact⟨o,e,ex.2.1⟩
  .obtain⟨o,_,_,_,e,ex,_⟩:=I.hok p _ hk;refine⟨⟨o,e,ex.1⟩,λa e2=>?_⟩;cases e2;exact⟨o,e,ex.2.1⟩
 |_=>exact Ő ty
abbrev tBM(K:Frag)(T:String)(r:V->List V->Hp->VK->Prop)(to:TE)(t:TA):TE:=λσ H Q=>to σ H λx H1=>tyV K T x H1/\t σ H1 λxs H2=>r x xs H2 Q
variable {o e:Expr}{es:List Expr}{to:TE}{t:TA}{name:Str}{Ŗ ś:Pos}{T id:String}{r:V->List V->Hp->VK->Prop}
def Rh(pa:PlainAttrs T)(slot:Slot T name id)(hty:typeOf (.builtin id)=pure (.type "method_descriptor"))(hm:MtR X id r)(ho:PE X o to)(ha:PA X (e::es) t)
  (aQ:ĝ o name X.env (eval o X.env)=eval o X.env:=by rfl)
  (aq:((ě ś<|ß (e::es) X.env).all (λx=>!x.1)&&(ſ ś<|ņ [] X.env).all (λx=>x.1.isSome)
    && gC ((e::es).length+([]:List ϫ).length+(if([]:List ϫ).isEmpty then 0 else 1)<30))=eP:=by rfl)
  (aR:(Ŗ.endLine==ś.line)=eP:=by rfl) (hs:ß (e::es) X.env=(eQ,eval e X.env)::ß es X.env:=by rfl) (cM:(ě ś<|ß es X.env).any (·.1)=eQ:=by rfl) :
  PE X (.Call (.Attribute o name Ŗ) (e::es) [] ś) (tBM X.K T r to t):=by
 intro Â s σ H Q I h;refine wpAny_Call_method_late aQ aq aR rfl<|thn (ho Â s σ H _ I h) λv s1 ⟨x,H1,I1,r1,ty,q1⟩=>?_;let⟨h1,h2⟩:=PB I1 r1 ty;refine⟨T,id,pa,slot,hty,h1,h2,?_⟩;have hA:=ha ś Â s1 σ H1 _ I1 q1;rw[hs]at hA ⊢;refine Calls.callWith_builtin (by show(eQ||(ě ś<|ß es X.env).any (·.1))=eQ;rw[cM]<;>rfl)<|Calls.evalArgs_plain ?_;exact thn hA λus s2 ⟨vs,H2,I2,r2,q2⟩=>hm Â s2 σ H2 x vs v us Q I2 r1 r2 q2
/- xs.append(e),list.index on a module's tuple .. are MtR facts of 06m -/
end
abbrev MtM(X:Cx)(id:String)(r:V->List V->Hp->VK->Prop):Prop :=
 ∀(Â:List<|Ï×Obj) (s:Ç) (σ:St) (H:Hp) (x:V) (xs:List V) (v:Ã) (us:List Ã) (Q:VK),Inv X Â σ H s->RelV x v->gg xs us->r x xs H Q->
  wpAny (à X.prog X.w) X.A (call (.builtin id)<|v::us) (EP X Â σ Q) X.xe s
variable {x:V} {us:List Ã}
def gg.one(r:gg [x] us):∃u,us=[u]/\RelV x u:=Yo r
def gg.two{y:V}(r:gg [x,y] us):∃u v,us=[u,v]/\RelV x u/\RelV y v:=HC r
def gg.eraseIdx:∀{xs:List V}{us:List Ã}(i:Nat),gg xs us->gg (xs.eraseIdx i) (us.eraseIdx i)
 |_,_,_,.nil=>.nil
 |_,_,0,.cons _ t=>t
 |_,_,i+1,.cons r t=>.cons r<|gg.eraseIdx i t
def gg.rep{xs:List V}{us:List Ã}(h:gg xs us):∀k:Nat,gg (Ñ k xs).flatten (Ñ k us).flatten
 |0=>.nil
 |k+1=>by rw[Ą,Ą,ķ,ķ];exact gg.append h<|gg.rep h k
def Wy{α:Type}:∀(l:List α) (i:Nat),(l.eraseIdx i).length<=l.length
 |[],_=>Ó _
 |_::_,0=>ő _
 |_::r,i+1=>ϐ<|Wy r i
def KQ(õ:List Ã):∀(k:Nat) (į:List Ã),
  dG (λx1 x2=>x1++x2) į.toArray (Ñ k õ.toArray)=(į++(Ñ k õ).flatten).toArray
 |0,į=>by simp
 |k+1,į=>by
  have e:į.toArray++õ.toArray=(į++õ).toArray:=by simp
  have e2:(į++õ)++(Ñ k õ).flatten=į++(Ñ (k+1) õ).flatten:=by rw[Ą,ķ,ĸ]
  rw[<-e2,<-KQ õ k (į++õ),<-e,Ą,ŋ]
section
variable {X:Cx}{Â:List (Ï×Obj)}{σ:St}{H:Hp}{s:Ç}{l b:Ï}{xs ys zs:List V}
variable {õ:List Ã} {n:Nat} {t':Nat}
def Inv.lset{its':List Ã}{f:Array Ã->Array Ã}(I:Inv X Â σ H s)(hH:H l=eM (.lst xs))
  (e:s.heap.get? l=eM {cls:=.type "list",data:=.seq õ.toArray n}) (hf:f õ.toArray=its'.toArray) (hv:gg ys its') (hz:ys.length<=Ý) :
  Inv X Â σ (upd H l<|.lst ys) {s with heap:=s.heap.update l<|Ξ f,toks:=t'}:=by
 have q:=PySem.IsL.update e f;rw[hf]at q;refine I.write (x:=l) (e:=l) (by rw[hH];exact trivial) (.inl rfl) (λb' u hb hu=>(ð s.heap (Ξ f)<|Ne.symm hb).trans hu) ⟨_,q⟩ ?_;exact⟨hz,its',_,hv,q⟩
def Inv.lnew(I:Inv X Â σ H s)(hv:gg ys õ)(hz:ys.length<=Ý) :
  Inv X Â σ (upd H s.heap.objs.size<|.lst ys) {s with heap:=s.heap.push {cls:=.type "list",data:=.seq õ.toArray},toks:=t'} :=
 I.laid (λ_ _ q=>Å _ q) (Ó _) ⟨hz,õ,0,hv,Ù _ rfl⟩
def Inv.fresh(I:Inv X Â σ H s):H s.heap.objs.size=eN:=I.hok.fresh (Ó _)
def Inv.lstM(I:Inv X Â σ H s)(hH:H l=eM (.lst xs)):xs.length<=Ý/\∃(õ:List Ã) (n:Nat),gg xs õ/\xs.length=õ.length/\s.heap.get? l=eM {cls:=.type "list",data:=.seq õ.toArray n}:=by let⟨z,õ,n,r,e⟩:=I.hok l _ hH;exact⟨z,õ,n,r,r.length,e⟩
def Oc(h:n<=Ý):Builtin.List.listTooLong n=eQ:=by unfold Builtin.List.listTooLong;exact gy (by lia)
end
section
variable {X:Cx}
abbrev UM:V->List V->Hp->VK->Prop:=λx vs H Q=>∃l xs y,x=.ref l/\vs=[y]/\H l=eM (.lst xs)/\xs.length<Ý/\Q .non (upd H l<|.lst<|xs++[y])
def AU:MtM X "list.append" UM:=by intro Â s σ H x vs v us Q I rx rv h;let⟨l,xs,y,rfl,rfl,hH,hz,q⟩:=h;cases rx;let⟨u,rfl,ru⟩:=rv.one;let⟨z,õ,n,r,hl,e⟩:=I.lstM hH;refine Ϭ F.slot_list_append ⟨_,e,rfl⟩ F.entry_list_append (F.args_list_append_2 _ _) (PySem.list_append l õ.toArray n u<|by rw[Ð];lia) ⟨e,?_⟩;refine⟨.non,_,I.lset (its':=õ++[u]) hH e (by simp) (r.append<|.cons ru .nil) ?_,rfl,q⟩;rw[ã,List.length_singleton];lia
abbrev Av:V->List V->Hp->VK->Prop:=λx vs H Q=>∃l b xs zs,x=.ref l/\vs=[.ref b]/\H l=eM (.lst xs)/\H b=eM (.lst zs)/\xs.length+zs.length<=Ý/\Q .non (upd H l<|.lst<|xs++zs)
def BS:MtM X "list.extend" Av:=by
 intro Â s σ H x vs v us Q I rx rv h;let⟨l,b,xs,zs,rfl,rfl,hH,hB,hz,q⟩:=h;cases rx;let⟨u,rfl,ru⟩:=rv.one;cases ru;let⟨z,õ,n,r,hl,e⟩:=I.lstM hH;let⟨z2,Ϲ,n2,r2,hl2,e2⟩:=I.lstM hB;have hsz:õ.toArray.size+Ϲ.toArray.size<=Ý:=by rw[Ð,Ð];lia
 have hlong:¬ (!õ.toArray.isEmpty&&Builtin.List.listTooLong (õ.toArray.size+Ϲ.toArray.size))=eP:=by rw[Oc hsz,bh];exact ö
 refine Ϭ F.slot_list_extend ⟨_,e,rfl⟩ F.entry_list_extend (F.args_list_extend_2 _ _)
  (AutoSeq1.list_extend_list_list_0 l õ.toArray n b Ϲ.toArray n2 hlong (by rw[Ð];lia)<|by lia) ⟨e,e2,?_⟩
 refine⟨.non,_,I.lset (its':=õ++Ϲ) hH e (by simp) (r.append r2) ?_,rfl,q⟩;rw[ã];lia
abbrev C9:V->List V->Hp->VK->Prop:=λx vs H Q=>∃l xs i k y,x=.ref l/\vs=[.int i]/\H l=eM (.lst xs)/\-(2 ^ 63)<=i/\i<2 ^ 63/\seqIndex? i xs.length=eM k/\xs[k]?=eM y/\Q y (upd H l<|.lst<|xs.eraseIdx k)
def Cm:MtM X "list.pop" C9:=by
 intro Â s σ H x vs v us Q I rx rv h;let⟨l,xs,i,k,y,rfl,rfl,hH,h1,h2,hk,hy,q⟩:=h;cases rx;let⟨u,rfl,ru⟩:=rv.one;let⟨t,rfl⟩:=ru;let⟨z,õ,n,r,hl,e⟩:=I.lstM hH;let⟨w,hw,bf⟩:=r.get hy;refine Ϭ F.slot_list_pop ⟨_,e,rfl⟩ F.entry_list_pop (F.args_list_pop_2 _ _)
  (MeetsSeq.list_pop_at l õ.toArray n i t k w (fitsIndex_both h1 h2) (by rw[Ð,<-hl];exact hk) (by rw[<-Ă];exact hw)<|by rw[Ð];lia) ⟨e,?_⟩
 refine⟨y,_,I.lset (its':=õ.eraseIdx k) hH e ?_ (r.eraseIdx k) ?_,bf,q⟩
 .show õ.toArray.eraseIdxIfInBounds k=(õ.eraseIdx k).toArray;rw[aB]
 .have:=Wy xs k;lia
abbrev P1:R2:=λx y H Q=>∃l b xs zs,x=.ref l/\y=.ref b/\H l=eM (.lst xs)/\H b=eM (.lst zs)/\xs.length+zs.length<=Ý/\∀p,H p=eN->Q (.ref p) (upd H p<|.lst<|xs++zs)
def Lj:OpR X (œ .Add) P1:=by
 intro Â s σ H x y v u Q I rx ry h;let⟨l,b,xs,zs,rfl,rfl,hH,hB,hz,q⟩:=h;cases rx;cases ry;let⟨z,õ,n,r,hl,e⟩:=I.lstM hH;let⟨z2,Ϲ,n2,r2,hl2,e2⟩:=I.lstM hB;refine PySem.P.add_list e e2 ?_ (by rw[Ð,Ð];lia);have ea:õ.toArray++Ϲ.toArray=(õ++Ϲ).toArray:=by simp
 rw[ea];exact⟨.ref _,_,I.lnew (t':=s.toks) (r.append r2) (by rw[ã];lia),rfl,q _ I.fresh⟩
abbrev Rn:R2:=λx y H Q=>∃l k xs,x=.ref l/\y=.int k/\H l=eM (.lst xs)/\-(2 ^ 63)<=k/\k<2 ^ 63/\xs.length*k.toNat<=Ý/\
 ∀p,H p=eN->Q (.ref p) (upd H p<|.lst (Ñ k.toNat xs).flatten)
def FR{α:Type}(xs:List α)(k:Nat):(Ñ k xs).flatten.length=k*xs.length:=by
 induction k with
 |zero=>simp
 |succ k ih=>rw[Ą,ķ,ã,ih,Nat.succ_mul,Nat.add_comm]
def op_rep:OpR X (œ .Mult) Rn:=by
 intro Â s σ H x y v u Q I rx ry h;let⟨l,k,xs,rfl,rfl,hH,h1,h2,hz,q⟩:=h;cases rx;let⟨t,rfl⟩:=ry;let⟨z,õ,n,r,hl,e⟩:=I.lstM hH;have hlen:õ.toArray.size*k.toNat<=Ý:=by rw[Ð,<-hl];exact hz
 have hcap:¬ õ.toArray.size*k.toNat > (2 ^ 63 - 1) / 8:=by
  have:(Ý:Nat)<=(2 ^ 63 - 1) / 8:=by decide
  lia
 have hfit:¬ (!Builtin.List.listFitsIndex k)=eP:=by rw[fitsIndex_both h1 h2];exact ö
 have hlong:¬ Builtin.List.listTooLong (õ.toArray.size*k.toNat)=eP:=by rw[Oc hlen];exact ö
 have hnew:dG (λx1 x2=>x1++x2) #[] (Ñ (if õ.toArray.isEmpty=eP then 0 else k.toNat) õ.toArray)=(Ñ k.toNat õ).flatten.toArray:=by
  have f0:∀m:Nat,dG (λx1 x2=>x1++x2) #[] (Ñ m õ.toArray)=(Ñ m õ).flatten.toArray:=λm=>by have:=KQ õ m [];rw[List.nil_append]at this;exact this
  rw[f0];cases õ with
  |nil=>simp
  |cons a r'=>rw[gx<|by simp]
 refine wpAny_binaryOp_repeat_ref (T:="list") (U:="int") (by decide) ⟨_,e,rfl⟩ (λs'=>typeIs_int s' k t) noFill_list_mul F.fills_int_mul F.slot_int_rmul repeat_list F.slot_int_index.lookup
  (Ϭ F.slot_int_rmul (typeIs_int s k t) F.entry_int_rmul (F.args_int_rmul_2 _ _) (int___rmul___int_list k t l õ.toArray n)
    ⟨e,rfl,⟨_,e,rfl⟩,Ϭ F.slot_list_mul ⟨_,e,rfl⟩ F.entry_list_mul (F.args_list_mul_2 _ _) (AutoListH.list___mul___list_int_3 l õ.toArray n k t hfit hcap hlong) ⟨e,?_⟩⟩)
 rw[hnew];exact⟨.ref _,_,I.lnew (t':=s.toks) (r.rep k.toNat) (by rw[FR,aC];exact hz),rfl,q _ I.fresh⟩
end
end L2
namespace Att
open PySem PySem.W PySem.Calls PyProof.Rows
variable {P:Params} {h:Ĉ}
def WZ:∀(ns:List Int) (vs:List Ã),WellAll P h vs (ns.map WData.int)->Ā vs ns:=by
 intro ns;induction ns with
 |nil =>intro vs w;rw[ϕ]at w;cases w;exact .nil
 |cons n ns ih =>
  intro vs w;rw[Î]at w;cases w with
  |cons a b =>cases a;exact .cons _ _<|ih _ b
variable {l:OpenLaw} {n:Nat}
def A9(hn:l.most=eM n){args:List WData}{vals:List Ã}
  (hpre:l.row.toRowW.claim.pre args=eP) (hwl:WellAll P h vals args) :
  ∃a vs ns,vals=[Value.ref a]/\args=[WData.list<|ns.map WData.int]/\h.get? a=eM {cls:=.type "list",data:=.seq vs.toArray}/\Ā vs ns/\ns.length<=n:=by
 have hsh:WShape.hasAll [] args [.list .int]=eP:=(pre_splitW hpre).1;have hc:l.pre.holds [] {args:=args}=eP:=(pre_splitW hpre).2;let⟨d,r,rfl,h1,h2⟩:=hasAllW_cons hsh;obtain rfl:=hasAllW_nil h2;let⟨xs,rfl,h3⟩:=hasW_list h1;let⟨ns,rfl⟩:=items_int h3;have hlen:ns.length<=n:=by
  unfold OpenLaw.pre at hc;have h4:(WTm.not<|.lt (.lit<|.int (n:Int))<|.len<|.arg 0).holds [] {args:=[.list<|ns.map .int]}=eP:=by have h4:=(holds_andW hc).1;rw[hn]at h4;exact h4
  have h5:=condW_of h4<|w_not<|w_lt w_lit<|w_len_list<|w_arg rfl;rw[À]at h5;refine Nat.le_of_not_lt λq=>?_;have q':(n:Int)<((ns.length:Nat):Int):=by lia
  first
   |(rw[gz q']at h5;exact gB h5<|by decide)
   |(simp at h5;lia)
 cases hwl with
 |cons w1 w2 =>
  cases w2;cases w1 with
  |list ho hall=>exact⟨_,_,ns,rfl,rfl,ho,WZ ns _ hall,hlen⟩
def AS(l:OpenLaw)(args:List WData):l.row.toRowW.claim.post args (.bool eP) args=eP :=
 postW_of (r:=l.row.toRowW) (X:=(eP==eP))
  (show WShape.has [] (.bool eP) .bool=eP by first|rfl|decide|simp[WShape.has,WShape.arms,WShape.armsAll])
  (show(WTm.eq .res<|.lit<|.bool eP).value [] {args:=args,res:=eM<|.bool eP,after:=args}=eM (.bool<|eP==eP) from w_eq_bool (w_res rfl) w_lit) rfl
def attach_call{q:ç}{loose:List Str}{XP:(Str->Option Ã)->Ĉ->Prop}{YP:þ->Ĉ->Prop}{d:DefRec}
  (hn:l.most=eM n) (hdf:d.params.defaults=[])
  (call:∀(w:þ) (s₀ ģ:Ç) (mg mb:Str->Option Ã) (fa:Ï) (o:Obj) (pm cd doc:Ã) (a:Ï) (vs:List Ã) (ns:List Int),
    Ground q loose [] XP w s₀ mg mb ģ.heap->YP w ģ.heap->
    ģ.heap.get? fa=eM o->o.data=.func (docDef d.name d.params d.body d.scope pm cd doc)->ģ.heap.CodeRec cd d.name->mg d.name=eM (.ref fa)->
    ģ.heap.get? a=eM {cls:=.type "list",data:=.seq vs.toArray}->Ā vs ns->ns.length<=n->ģ.gens=#[]->
    codeAny (à l.prog w) av (.call (.ref fa) ⟨[.ref a],[]⟩) (λr s'=>r=.ok (.ret<|.bool eP)/\OldK ģ.heap s'.heap/\s'.os=ģ.os/\ϒ s'.gens) ģ) :
  WalkO q loose XP YP l.row.toRowW d [] (λf vs=>PySem.call f vs):=by
 intro w s₀ ģ mg mb G Y fa o pm cd doc dV kV ho hd bp hD hmg hg args vals as hpre hlay hrd hwl hlo;obtain rfl:dV=.none:=Dflts.none hD hdf;obtain rfl:kV=.none:=Dflts.noKw hD;let⟨a,vs,ns,rfl,rfl,dz,hints,hlen⟩:=A9 hn hpre hwl;refine enter_call<|ψ (call w s₀ ģ mg mb fa o pm cd doc a vs ns G Y ho (fd_plain hd) bp hmg dz hints hlen hg) λr s' hq=>?_;let⟨rfl,h2,h3,h4⟩:=hq;exact⟨.inl ⟨.bool eP,.bool eP,[],rfl,λ_=>rfl,.bool eP,AS l _,λ_=>⟨List.Pairwise.nil,λ_ hm=>(nomatch hm)⟩⟩,h2,h3,h4⟩
end Att
namespace L2
open PySem PySem.Spec PyProof.Rows
def WJ:∀{vs:List Ã}{ns:List Int},Ā vs ns->gg (ns.map V.int) vs
 |_,_,.nil=>.nil
 |_,_,.cons n t h=>.cons ⟨t,rfl⟩<|WJ h
abbrev PU(H:Hp):Prop:=∀b,H b=eN\/∃o xs,H b=eM (.frz o<|.lst xs)
def Ei{P:ç}{w:þ}{K:Frag}{mg mb:Str->Option Ã}{CX:CXT}{k:Nat}{fa a:Ï}{fd:Ŕ}{x:Str}{sp:Sp}{ģ:Ç}{vs:List Ã}{ns:List Int}
  (KX:K.In ģ.heap) (hns:ģ.heap.Ns ą mg) (hb:ģ.heap.Ns builtinsNs mb) (hbb:∀x:Str,x≠"__name__"->mb x=Ŷ x) (hlim:ģ.heap.NoLimit) (hg:ģ.gens=#[])
  (ha:ģ.heap.get? a=eM {cls:=.type "list",data:=.seq vs.toArray}) (hi:Ā vs ns) (hl:ns.length<=Ý) (hr:fy k av)
  (F:∀base:Ĉ,K.In base->base.Ns ą mg->fz P w K mg base CX k fa fd [x] sp) (hbind:∀(s:Ç) (u:Ã),BindsTo s fd ⟨[u],[]⟩ [(x,u)])
  (hsp:∀H:Hp,PU H->fZ K H a (ns.map V.int)->sp [.ref a] H (λv _=>v=.bl eP) λ_ _ _=>False)
  (hCX:∀H e s',CX [] H ģ (λ_ _ _=>False) e s'->False) :
  codeAny (à P w) av (.call (.ref fa) ⟨[.ref a],[]⟩) (λr s'=>r=.ok (.ret<|.bool eP)/\OldK ģ.heap s'.heap/\s'.os=ģ.os/\ϒ s'.gens) ģ:=by
 have rv:=WJ hi;have fN:=hi.length;have core:∀H:Hp,PU H->fZ K H a (ns.map V.int)->HOk P w H ģ.heap->(∀b,H b≠eN->b=a)->(H a≠eN->K.lookup a=eN)->
   codeAny (à P w) av (.call (.ref fa) ⟨[.ref a],[]⟩) (λr s'=>r=.ok (.ret<|.bool eP)/\OldK ģ.heap s'.heap/\s'.os=ģ.os/\ϒ s'.gens) ģ:=by
  intro H hO hS hok hA hK;have de:∀{b:Ï}{o:Obj},ģ.heap.get? b=eM o->H b=eN->(Ny ģ.heap H).get? b=eM o:=λe n=>Dj e n;have noA:∀{b:Ï}{o:Obj}{es:Array DictEntry}{ep:Nat},ģ.heap.get? b=eM o->o.data=.dict es ep->H b=eN:=λ{b o es ep} e d=>by
   cases q:H b with
   |none=>rfl
   |some u =>have e':b=a:=hA b (by rw[q];simp);subst e';rw[ha]at e;cases e;have d':Data.seq vs.toArray _=Data.dict es ep:=d;cases d'
  have nsK:∀{b:Ï}{m:Str->Option Ã},ģ.heap.Ns b m->(Ny ģ.heap H).Ns b m:=λ{b m} ⟨o,es,ep,e,d,r⟩=>⟨o,es,ep,de e<|noA e d,d,r⟩
  have hKb:K.In<|Ny ģ.heap H:=λb o e=>de (KX b o e) (by
    cases q:H b with
    |none=>rfl
    |some u =>
      have e':b=a:=hA b (by rw[q];simp)
      subst e'
      rw[hK<|by rw[q];simp]at e;cases e)
  have hM:Mod K mg<|Ny ģ.heap H:=⟨hKb,nsK hns,⟨mb,nsK hb,hbb⟩,let ⟨mc,h1,h2⟩:=hlim;⟨mc,nsK h1,h2⟩⟩
  have e0:Env0 P w K mg (Ny ģ.heap H) av [] ģ H:=⟨rfl,hM,λb o e=>Hr e,Nat.le_of_eq<|Bt _ _,trivial,λb hb=>gB (show b∈([]:List Ï) from hb) (by simp),hok,.of_eq hg⟩
  refine ψ ((F _ hKb<|nsK hns).run av [] ģ H ⟨[.ref a],[]⟩ [.ref a] [.ref a] _ _ hr e0 (hbind ģ<|.ref a) (.cons rfl .nil)<|hsp H hO hS) λr s' h=>?_;cases r with
  |error e=>exact(hCX H e s' h).elim
  |ok fl =>
   cases fl with
   |next=>exact Ő h
   |brk=>exact Ő h
   |cont=>exact Ő h
   |ret u =>
    let⟨v,H',os,bare,un,hok',r',q⟩:=h;have q':v=.bl eP:=q;subst q';obtain rfl:u=Value.bool eP:=r';refine⟨rfl,OldK.of_keep λb o e=>?_,os,bare⟩;cases q:H b with
    |none=>exact un.keep b o e q (by intro z;exact gB (show b∈([]:List Ï) from z)<|by simp) (by simp)
    |some u =>
     rcases hO b with z|⟨ob,xs,z⟩
     .rw[q]at z;cases z
     .have z2:=un.frzs b ob _ z;let⟨e1,_⟩:=hok b _ z;let⟨e2,_⟩:=hok' b _ z2;rw[e]at e1;cases e1;exact e2
 cases hk:K.lookup a with
 |some o =>have e:=KX a o hk;rw[ha]at e;cases e;refine core (λ_=>eN) (λ_=>.inl rfl) (.inr ⟨_,vs.toArray,_,hk,rfl,rfl,rfl,by rw[Ð,fN];exact hl,⇑rv⟩) (λb u z=>by have z':(eN:Option HO)=eM u:=z;cases z') (λb z=>gB rfl z) λz=>gB rfl z
 |none =>
  refine core (λb=>if b=a then eM (.frz {cls:=.type "list",data:=.seq vs.toArray}<|.lst<|ns.map V.int)else eN) (λb=>?_) (.inl<|.inr ⟨{cls:=.type "list",data:=.seq vs.toArray},gw rfl⟩) (λb u z=>?_) (λb z=>?_) λ_=>hk
  .by_cases hb:b=a
   .exact .inr ⟨_,_,gw hb⟩
   .exact .inl<|gx hb
  .by_cases hb:b=a
   .have z':=(gw hb).symm.trans z;cases z';subst hb;exact⟨ha,by rw[À];exact hl,vs,_,rv,ha⟩
   .have z':=(gx hb).symm.trans z;cases z'
  .by_cases hb:b=a
   .exact hb
   .exact gB (gx hb) z
abbrev YM(s:ň):Arguments:=match s with
 |.FunctionDef _ a _ _ _ _ _ _ _ _=>a
 |_=>{posonlyargs:=[],args:=[],vararg:=eN,kwonlyargs:=[],kw_defaults:=[],kwarg:=eN,defaults:=[]}
abbrev ZX(s:ň):List ň:=match s with
 |.FunctionDef _ _ b _ _ _ _ _ _ _=>b
 |_=>[]
abbrev Zw(s:ň):Γ:=match s with
 |.FunctionDef _ _ _ _ _ _ sc _ _ _=>sc
 |_=>{kind:=.function,names:=[],isGenerator:=eQ,isCoroutine:=eQ}
structure Fun(K:Frag)(x qual:Str)(st:ň)(f:Ï)(fd:Ŕ):Prop where
 ex:∃(oc:Ã) (od:Option Ï) (kV doc pm:Ã) (an:Option Ï) (ϱ ct:Ã) (osl:Array<|Option Ã),
  fd=PySem.W.fnOf x qual (YM st) (ZX st) (Zw st) .none kV doc pm an ϱ ct/\K.lookup f=eM ⟨oc,od,.func fd,osl⟩/\PySem.W.codeIn K ϱ qual=eP
 kp:PySem.W.keepIn K (.ref f)=eP
section
variable {P:ç}{w:þ}{K:Frag}{mg:Str->Option Ã}{base:Ĉ}
variable {x:Str} {qual:Str} {st:ň} {f:Ï}
def Fun.binds{fd:Ŕ}{ps:List Str}(F:Fun K x qual st f fd)
  (h:∀(kV doc pm:Ã) (an:Option Ï) (ϱ ct:Ã) (us:List Ã),us.length=ps.length->bindArgs (PySem.W.fnOf x qual (YM st) (ZX st) (Zw st) .none kV doc pm an ϱ ct) ⟨us,[]⟩=pure (ps.zip us)):Binds K fd ps []:=by
 let⟨oc,od,kV,doc,pm,an,ϱ,ct,osl,rfl,lk,bp⟩:=F.ex;exact .all<|h kV doc pm an ϱ ct
def ER{oc:Ã}{od an:Option Ï}{osl:Array (Option Ã)}{kV doc pm ϱ ct:Ã}(l:K.lookup f=eM ⟨oc,od,.func<|PySem.W.fnOf x qual (YM st) (ZX st) (Zw st) .none kV doc pm an ϱ ct,osl⟩)
  (c:PySem.W.codeIn K ϱ qual=eP) (k:PySem.W.keepIn K (.ref f)=eP):Fun K x qual st f<|PySem.W.fnOf x qual (YM st) (ZX st) (Zw st) .none kV doc pm an ϱ ct:=⟨⟨oc,od,kV,doc,pm,an,ϱ,ct,osl,rfl,l,c⟩,k⟩
end
abbrev Same(H H':Hp):Prop:=∀b o,H b=eM o->H' b=eM o
def Same.refl(H:Hp):Same H H:=λ_ _ h=>h
def Same.trans{H H1 H2:Hp}(a:Same H H1)(b:Same H1 H2):Same H H2:=λc o h=>b c o (a c o h)
end L2
set_option maxHeartbeats 4000000
namespace L2
open PySem PySem.Spec PyProof.Rows
variable {w:þ}
def HOk.track{P:ç}{H:Hp}{h:Ĉ}{a:Ï}{o:HO}(x:HOk P w H h)(hn:H a=eN)(new:fb P w (upd H a o) h a o):HOk P w (upd H a o) h:=λb u e=>by
 by_cases hb:b=a
 .subst hb;rw[eS]at e;cases e;exact new
 .rw[eR hb]at e;exact(x b u e).stay (λc v _ q=>q) (λc q=>by rw[eR<|Zl q hn];exact q) λc xs q=>by rw[eR<|Zl q hn];exact q
abbrev Zx(X:Cx)(scope:Γ)(N':List Str)(cl:List<|Str×Ï)(C:Ï)(s:Ç)(H:Hp)(ex:List Ï):Cx where
 prog:=X.prog
 w:=X.w
 K:=X.K
 mg:=X.mg
 base:=X.base
 A:=X.A
 N:=N'
 s₀:=s
 H₀:=H
 env:=compEnvC scope cl C X.env
 outer:=X.stack
 stack:=X.stack
 ex:=ex
 fn:=λ_=>eQ
 calm:=X.calm
 pn:=[]
 xe:=λ_ _=>False
abbrev Z9(X:Cx)(x:List Str)(ù:List Nat):List Str:=x++ù.map λj=>X.N.getD j Str.empty
abbrev OT(σ:St)(ù:List Nat):St:=ù.map λj=>(σ[j]?).getD eN
structure BlkOk(X:Cx)(scope:Γ)(x:List Str)(ù:List Nat):Prop where
 kind:scope.kind=.function
 nocell:∀y∈scope.names,y.2≠.cell
 locs:∀y∈scope.names,y.2=.local->scope.names.lookup y.1=eM .local
 own:∀y∈x,scope.names.lookup y=eM .local
 frees:∀y∈scope.names,y.2=.free->X.env.kindOf y.1=eM .cell
 cap:∀j∈ù,(X.N[j]?).isSome=eP/\X.env.kindOf (X.N.getD j Str.empty)=eM .cell/\scope.names.lookup (X.N.getD j Str.empty)=eM .free
 nd:(Z9 X x ù).Nodup
def YI{env:Env}:∀(names:List<|Str×ϣ) (į:List<|Str×Ï),(∀y∈names,y.2=.free->∃c,env.cells.lookup y.1=eM c)->(∀x c,į.lookup x=eM c->env.cells.lookup x=eM c)->
  ∃cl,(forIn names į λ(p:Str×ϣ) (r:List<|Str×Ï)=>(do
    if(p.2 == Ī)=eP then do let a<-cellOf env p.1;pure (ŀ<|(p.1,a)::r)else pure (ŀ r):Sem _))=pure cl/\
   (∀x c,cl.lookup x=eM c->env.cells.lookup x=eM c)/\(∀x c,į.lookup x=eM c->∃c',cl.lookup x=eM c')/\∀x,(x,Ī)∈names->∃c,cl.lookup x=eM c
 |[],į,_,ha=>⟨į,rfl,ha,λx c h=>⟨c,h⟩,λx h=>nomatch h⟩
 |(n,k)::r,į,hn,ha=>by
  by_cases hk:k=.free
  .subst hk;let⟨c,hc⟩:=hn (n,.free) æ rfl;have ha':∀x d,(((n,c)::į:List<|Str×Ï)).lookup x=eM d->env.cells.lookup x=eM d:=λx d h=>by
    rw[ä]at h;cases e:x==n with
    |true =>
     rw[e]at h;have:x=n:=⇑e
     subst this;cases h;exact hc
    |false=>rw[e]at h;exact ha x d h
   let⟨cl,h1,h2,h3,h4⟩:=YI r ((n,c)::į) (λy hy=>hn y<|Ú _ hy) ha';refine⟨cl,?_,h2,λx d h=>?_,λx hx=>?_⟩
   .rw[List.forIn_cons];have e:cellOf env n=pure c:=by unfold cellOf;rw[hc]
    simp only[beq_self_eq_true,if_true,e];exact h1
   .by_cases hx:x=n
    .subst hx;exact h3 x c (by rw[ä];simp)
    .exact h3 x d (by rw[ä,beq_false_of_ne hx];exact h)
   .rcases Æ.mp hx with e|hx
    .cases e;exact h3 _ c (by rw[ä];simp)
    .exact h4 x hx
  .have hb:(k==Ī)=eQ:=⇑hk
   let⟨cl,h1,h2,h3,h4⟩:=YI r į (λy hy=>hn y<|Ú _ hy) ha;refine⟨cl,?_,h2,h3,λx hx=>?_⟩
   .rw[List.forIn_cons];simp only[hb,Ĭ,if_false];exact h1
   .rcases Æ.mp hx with e|hx
    .cases e;exact gB rfl hk
    .exact h4 x hx
def Z4{env:Env}:∀{names:List (Str×ϣ)}{x:Str}{k:ϣ},(names.map λ(n,k)=>if(k==Ī&&env.scope.kind == .function&&env.kindOf n==eM .cell)then(n,ee)else(n,k)).lookup x=eM k->
  (∃k0,(x,k0)∈names/\names.lookup x=eM k0/\(k0=k\/(k0=.free/\k=.cell)))
 |[],_,_,h=>by simp at h
 |(n,k0)::r,x,k,h=>by
  rw[Î,ä]at h;cases hx:x==n with
  |true =>
   have e:x=n:=⇑hx
   subst e;refine⟨k0,æ,by rw[ä];simp,?_⟩;by_cases hc:(k0==Ī&&env.scope.kind == .function&&env.kindOf x==eM .cell)=eP
   .rw[gw hc]at h;simp at h;have:k0=.free:=by
     simp only[bAq]at hc;simpa using hc.1.1
    exact .inr ⟨this,h.symm⟩
   .rw[gx hc]at h;simp at h;exact .inl h
  |false =>
   have h':(r.map λ(n,k)=>if(k==Ī&&env.scope.kind == .function&&env.kindOf n==eM .cell)then(n,ee)else(n,k)).lookup x=eM k:=by
    by_cases hc:(k0==Ī&&env.scope.kind == .function&&env.kindOf n==eM .cell)=eP
    .rw[gw hc]at h;simpa[hx]using h
    .rw[gx hc]at h;simpa[hx]using h
   let⟨k1,a,b,c⟩:=Z4 h';exact⟨k1,Ú _ a,by rw[ä,hx];exact b,c⟩
abbrev PIfs(X:Cx)(bq:List Expr)(t:TT):Prop :=
 ∀(Â:List<|Ï×Obj) (s:Ç) (σ:St) (H:Hp) (Q:Bool->Hp->Prop),Inv X Â σ H s->t σ H Q->
  wpAny (à X.prog X.w) X.A (forIn bq eP λc r=>if r=eP then do let ok<-cx c X.env (eval c X.env);pure (ŀ ok)else pure (ŀ r)) (TP X Â σ Q) X.xe s
abbrev SA:TT:=λ_ H Q=>Q eP H
variable {X:Cx}
def pifs_nil:PIfs X [] SA:=λ_ _ _ H _ I h=>wpAny_tests_nil ⟨H,I,h⟩
def Wt{c:Expr}{t:TT}(h:PT X c t):PIfs X [c] t:=λÂ s σ H Q I hq=>wpAny_tests_one (h Â s σ H Q I hq)
abbrev HS(J:It)(tg:TG)(tc:TT)(te:TE)(Fin:List V->Hp->Prop)(W:Nat->Nat->List V->St->Hp->Prop):Prop :=
 ∀i m ys τ H,W i m ys τ H->ys.length<Ý/\((J.stop i H/\Fin ys H)\/(J.go i H/\∃N:List V->St->Hp->Prop,(∀ys' τ' H',N ys' τ' H'->∃m',m'<m/\W (i+1) m' ys' τ' H')/\∀x H',J.yld i H x H'->
   tg x τ H' λτ' H1=>tc τ' H1 λb H2=>if b=eP then te τ' H2 λy H3=>N (ys++[y]) τ' H3 else N ys τ' H2))
abbrev CM(wi:TI)(k:Nat)(ù:List Nat)(tg:TG)(tc:TT)(te:TE):TE:=λσ H Q=>wi σ H λJ H1=>∃W:Nat->Nat->List V->St->Hp->Prop,(∃m,W 0 m [] (Ñ k eN++OT σ ù) H1)/\
 HS J tg tc te (λys H=>∀p,H p=eN->Q (.ref p) (upd H p<|.lst ys)) W
section
variable {X:Cx}{Â:List (Ï×Obj)}{σ:St}{H2:Hp}{s2:Ç}
variable {scope:Γ} {x:List Str} {ù:List Nat} {cl:List (Str×Ï)} {fp:List Ï}
def AN{s3:Ç}{D:Ï}{h1:Ĉ}{tk:Nat}{m:Str->Option Ã}(B:BlkOk X scope x ù)(I2:Inv X Â σ H2 s2)(f2:∀b∈fp,WL X Â H2 b)
  (c1:∀x c,cl.lookup x=eM c->X.env.cells.lookup x=eM c) (c2:∀x,(x,Ī)∈scope.names->∃c,cl.lookup x=eM c)
  (I3:Inv X Â σ H2 s3) (hD:D=s2.heap.objs.size) (h3:s3.heap.objs.size=D+1) (ϵ:∀b o,s3.heap.get? b=eM o->h1.get? b=eM o) (hfp:∀b∈fp,b<s2.heap.objs.size)
  (hn:h1.Ns s3.heap.objs.size m) :
  Inv (Zx X scope (Z9 X x ù) cl s3.heap.objs.size s3 H2<|D::fp) [] (Ñ x.length eN++OT σ ù) H2 {s3 with heap:=h1,toks:=tk}:=by
 have neD:∀b o,s2.heap.get? b=eM o->b≠D:=λb o e=>by rw[hD];exact é<|Ü e
 have exlt:∀b∈D::fp,b<s3.heap.objs.size:=λb hb=>by
  rw[h3];rcases Æ.mp hb with e|hb
  .rw[e];exact ē _
  .exact Ĺ (by rw[hD];exact hfp b hb)
 have keeps:=I3.hok.kept (h':=h1) ϵ;refine⟨⟨I2.mod,B.kind,I2.ok.glob,I2.ok.blt,Ó _,λy z c e1 e2=>?_,λy hy=>?_,λy c e _=>(by cases e),λhc=>I2.ok.hd hc,I2.ok.frames,.inl rfl,λb hb=>?_,λb o e=>?_,?_,λb o e hb=>?_,λb hb hf=>?_,I3.stack,λb hb=>I2.stkFree b hb⟩,
   rfl,I3.bare,Un.kept ϵ,⟨m,hn,λi y v e1 e2 e3=>?_⟩,λy c e=>?_,I3.hok.fresh<|Ó _,λy c e=>I3.freeC y c<|c1 y c e,λp hp=>(nomatch hp),keeps,?_⟩
 .exact I2.ok.inj y z c (c1 y c e1)<|c1 z c e2
 .have hy:(b9 scope X.env).names.lookup y=eM .cell\/(b9 scope X.env).names.lookup y=eM .free:=hy;rcases hy with hy|hy
  .obtain⟨k0,a,b,c⟩:=Z4 hy;rcases c with c|⟨c,_⟩
   .subst c;exact gB rfl<|B.nocell _ a
   .subst c;exact c2 y a
  .obtain⟨k0,a,b,c⟩:=Z4 hy;rcases c with c|⟨_,c⟩
   .subst c;exact c2 y a
   .cases c
 .refine⟨é<|exlt b hb,λy c e z=>?_⟩;have e':=c1 y c e;rcases Æ.mp hb with q|q
  .obtain⟨v,o,ho,_⟩:=I2.cell y c e';exact neD c o ho<|z.trans q
  .exact(f2 b q).2.2.2.2.1 y c e' z
 .exact I3.bs b o e
 .exact Õ I2.ok.bsz (Õ I2.sz<|show s2.heap.objs.size<=s3.heap.objs.size by rw[h3,hD];exact ő _)
 .rcases Æ.mp hb with q|q
  .exact neD b o (I2.bk b o e) q
  .rcases (f2 b q).2.2.2.1 with z|z
   .exact I2.ok.noex b o e z
   .exact gB (è (Ü (I2.ok.bs b o e).1) z)<|Ĥ _
 .have hf:b∈frs X.stack:=hf;rcases Æ.mp (I2.stkSub b hf)with z|z
  .rcases Æ.mp hb with q|q
   .exact gB I2.lt (by rw[<-z,q,hD];exact Ĥ _)
   .exact(f2 b q).2.1 z
  .rcases Æ.mp hb with q|q
   .exact I2.nofs (a:=b) (by rw[q,hD];exact Ó _) z
   .exact(f2 b q).2.2.1 z
 .by_cases hik:i<x.length
  .rw[Ć (by rw[ì];exact hik),Ř,gw hik]at e2;cases e2
  .have e1:(x++ù.map λj=>X.N.getD j Str.empty)[i]?=eM y:=e1;rw[č<|by lia]at e1;rw[č (by rw[ì];lia),ì]at e2;generalize i - x.length=j at e1 e2;have e2:(ù.map λj=>(σ[j]?).getD eN)[j]?=eM (eM v):=e2;rw[Ø]at e1 e2;cases hj:ù[j]? with
   |none=>rw[hj]at e1;cases e1
   |some q =>
    rw[hj]at e1 e2;have e1':X.N.getD q Str.empty=y:=ñ e1;have e2':(σ[q]?).getD eN=eM v:=ñ e2;let⟨hs,hk,hsc⟩:=B.cap q<|ô hj;let⟨y',hy'⟩:=ë.mp hs;have ey:y'=y:=by rw[<-e1',Ď,hy'];rfl
    subst ey;have es:σ[q]?=eM (eM v):=by
     cases hq:σ[q]? with
     |none=>rw[hq]at e2';cases e2'
     |some o=>rw[hq]at e2';exact congrArg eM e2'
    rw[e1']at hk hsc;let⟨m2,_,hl⟩:=I3.loc;have bu:X.env.scope.names.lookup y'=eM .cell:=hk;let⟨u,r,l⟩:=hl q y' v hy' es<|.inr<|.inl bu;refine⟨u,r,.inr ⟨?_,?_⟩⟩
    .rcases e3 with e3|e3|e3
     .obtain⟨k0,a,b,c⟩:=Z4 (show(b9 scope X.env).names.lookup y'=eM .local from e3);rw[hsc]at b;cases b;rcases c with c|⟨_,c⟩<;>cases c
     .exact .inl e3
     .exact .inr e3
    .rcases l with⟨l,_⟩|⟨_,c,hc,z⟩
     .rw[hk]at l;cases l
     .obtain⟨c',hc'⟩:=c2 y'<|PySem.mem_of_lookup hsc;have ec:c'=c:=ñ<|(c1 y' c' hc').symm.trans hc;subst ec;let⟨o,ho,hd⟩:=z;exact⟨c',hc',o,ϵ c' o ho,hd⟩
 .obtain⟨v,o,ho,hd⟩:=I3.cell y c<|c1 y c e;exact⟨v,o,ϵ c o ho,hd⟩
 .show _=(Z9 X x ù).length;unfold Z9 OT;rw[ã,ã,À,À,ì]
def XH{env:Env}(h:∀y∈scope.names,y.2=.free->∃c,env.cells.lookup y.1=eM c) :
  ∃cl,closureFor scope env=pure cl/\(∀x c,cl.lookup x=eM c->env.cells.lookup x=eM c)/\∀x,(x,Ī)∈scope.names->∃c,cl.lookup x=eM c:=by
 let⟨cl,h1,h2,_,h4⟩:=YI (env:=env) scope.names [] h λx c e=>nomatch e;refine⟨cl,?_,h2,h4⟩;simp only[closureFor];have e:(forIn scope.names ([]:List<|Str×Ï) λx r =>
     (match x with
     | (name,kind)=>if(kind == Ī)=eP then do let a<-cellOf env name;pure (ŀ<|(name,a)::r)else pure (ŀ r):Sem<|ForInStep<|List<|Str×Ï))=pure cl:=h1
 first
  |(rw[e];rfl)
  |(refine Eq.trans (congrArg (· >>= pure) ?_) (rfl:(pure cl >>= pure:Sem _)=pure cl);exact e)
variable {bU:Expr} {ž:Expr} {bq:List Expr} {î:Pos}
def N9{prog:ç}{A:ĉ}{R:bz->Ç->Prop}{s:Ç}{ap:Expr}{it į:Ã}{env:Env}(I:Nat->Ç->Prop)
  (turn:∀n s,I n s->wpAny (à prog w) A (Ϝ it) (λr ģ=>match r with
    |none=>R (.ok .next) ģ
    | some v=>wpAny (à prog w) A (ϲ ap it v) (λ_ ģ=>wpAny (à prog w) A (Ε ap env v) (λ_ b6 =>
        wpAny (à prog w) A (forIn bq eP λc r=>if r=eP then do let ok<-cx c env (eval c env);pure (ŀ ok)else pure (ŀ r)) (λok aS =>
          if ok=eP then wpAny (à prog w) A (eval bU env) (λx s₄ =>
            wpAny (à prog w) A (call (.builtin "list.append") [į,x]) (λ_ s₅=>∃m,m<n/\I m s₅) (λ_ _=>False) s₄) (λ_ _=>False) aS
          else ∃m,m<n/\I m aS) (λ_ _=>False) b6) (λ_ _=>False) ģ) (λ_ _=>False) ģ) (λ_ _=>False) s)
  (n:Nat) (h:I n s) :
  codeAny (à prog w) A (.compLoop (.ListComp bU [⟨ap,ž,bq,0⟩] scope î) 0 it į env) R s:=by
 refine codeAny_loop rfl I (λn s hI=>?_) n h;show wpAny _ A ((compTurn (.ListComp bU [⟨ap,ž,bq,0⟩] scope î) 0 it į env).onRaise λx=>do bB x env;theTreesLotGoes x) _ _ s;refine wpAny_noted ?_;rw[compTurn_list];refine Á<|dh<|Á<|Ĳ (turn n s hI) (λr ģ bH=>?_) λ_ _ h'=>h'.elim;cases r with
 |none=>exact È bH
 |some v =>
  refine Á<|Ĳ bH (λ_ ģ bH=>?_) λ_ _ h'=>h'.elim;refine Á<|Ĳ bH (λ_ b6 h₂=>Á<|Ĳ h₂ (λok aS h₃=>?_) λ_ _ h'=>h'.elim) λ_ _ h'=>h'.elim;cases ok with
  |false=>exact È ⟨rfl,h₃⟩
  |true =>exact Á<|Á<|Ĳ h₃ (λx s₄ h₄=>Á<|Ĳ h₄ (λ_ s₅ h₅=>È<|È ⟨rfl,h₅⟩) λ_ _ h'=>h'.elim) λ_ _ h'=>h'.elim
variable {bI:Expr} {tg:TG} {tc:TT} {te:TE}
def Mc{it:Ï}{tn:Nat->Ĉ->Prop}{J:It}{Fin:List V->Hp->Prop}{W:Nat->Nat->List V->St->Hp->Prop}{E:Ã->Ç->Prop}
  {RR:Ã->Ï->bz->Ç->Prop}{m0:Nat}(hc:X.calm=eP) (B:BlkOk X scope x ù) (I2:Inv X Â σ H2 s2) (T:Turn X.prog X.w X.K bI J fp it tn) (st2:tn 0 s2.heap) (f2:∀b∈fp,WL X Â H2 b)
  (c1:∀x c,cl.lookup x=eM c->X.env.cells.lookup x=eM c) (c2:∀x,(x,Ī)∈scope.names->∃c,cl.lookup x=eM c)
  (hI:∀cl C s H ex,PIfs (Zx X scope (Z9 X x ù) cl C s H ex) bq tc) (hE:∀cl C s H ex,PE (Zx X scope (Z9 X x ù) cl C s H ex) bU te)
  (hG:∀cl C s H ex,PG (Zx X scope (Z9 X x ù) cl C s H ex) bI tg) (w0:W 0 m0 [] (Ñ x.length eN++OT σ ù) H2) (cw:HS J tg tc te Fin W)
  (hRR:∀D C s' H' ys m,H' D=eN->s'.heap.Ns C m->WL X Â (upd H' D<|.lst ys) C->Inv X Â σ (upd H' D<|.lst ys) s'->Fin ys H'->RR (.ref D) C (.ok .next) s') :
  wpAny (à X.prog X.w) X.A (newList []) (λį aS=>wpAny (à X.prog X.w) X.A (newFunctionEnv scope X.env.globals cl [] X.env.qual eN .none<|eM X.env) (λcenv s₄ =>
    codeAny (à X.prog X.w) X.A (.compStart (.ListComp bU [⟨bI,ž,bq,0⟩] scope î) 0 (.ref it) į { cenv with scope:=b9 scope X.env }) (RR į cenv.locals) s₄) E aS) E s2:=by
 refine ć (wpAny_newFunctionEnv B.nocell (by intro y hy;simp at hy) (λbH cN cO=>?_) B.kind);dsimp only at cN cO ⊢;have hfp:∀b∈fp,b<s2.heap.objs.size:=λb hb=>by let⟨o,e,_⟩:=T.obj _ _ st2 b hb;exact Ü e
 have I3:Inv X Â σ H2 {s2 with heap:=s2.heap.push {cls:=.type "list",dict:=eN,data:=.seq ([]:List Ã).toArray}}:=I2.kept (t':=s2.toks) λb o e=>Å _ e;have h3:(s2.heap.push {cls:=.type "list",dict:=eN,data:=.seq ([]:List Ã).toArray}).objs.size=s2.heap.objs.size+1:=ι ..;have dz:(s2.heap.push {cls:=.type "list",dict:=eN,data:=.seq ([]:List Ã).toArray}).get? s2.heap.objs.size=eM {cls:=.type "list",dict:=eN,data:=.seq ([]:List Ã).toArray}:=Ù _ rfl;have cP:∀b o,s2.heap.get? b=eM o->(s2.heap.push {cls:=.type "list",dict:=eN,data:=.seq ([]:List Ã).toArray}).get? b=eM o:=λb o e=>Å _ e;generalize hH3:s2.heap.push {cls:=.type "list",dict:=eN,data:=.seq ([]:List Ã).toArray}=h3' at cN cO I3 h3 dz cP ⊢;have ϵ:∀b o,h3'.get? b=eM o->bH.get? b=eM o:=λb o e=>cO.extBut b o (é<|Ü e)<|Å _ e;have hDC:s2.heap.objs.size≠h3'.objs.size:=by rw[h3];exact é<|ē _
 have IB:=AN (cl:=cl) (fp:=fp) (s3:={s2 with heap:=h3'}) (D:=s2.heap.objs.size) (h1:=bH) (tk:=s2.toks+([]:List<|Str×Ã).length) B I2 f2 c1 c2 I3 rfl h3 ϵ hfp cN;generalize hY:Zx X scope (Z9 X x ù) cl h3'.objs.size {s2 with heap:=h3'} H2 (s2.heap.objs.size::fp)=Y at IB;have yP:Y.prog=X.prog:=by rw[<-hY];rfl
 have yw:Y.w=X.w:=by rw[<-hY];rfl
 have yK:Y.K=X.K:=by rw[<-hY];rfl
 have yA:Y.A=X.A:=by rw[<-hY];rfl
 have yc:Y.calm=eP:=by rw[<-hY];exact hc
 have yenv:Y.env=compEnvC scope cl h3'.objs.size X.env:=by rw[<-hY];rfl
 have hIY:PIfs Y bq tc:=by rw[<-hY];exact hI _ _ _ _ _
 have hEY:PE Y bU te:=by rw[<-hY];exact hE _ _ _ _ _
 have yxe:Y.xe=λ_ _=>False:=by rw[<-hY];rfl
 have ypn:Y.pn=[]:=by rw[<-hY];rfl
 have hgN:PG Y bI tg:=by rw[<-hY];exact hG _ _ _ _ _
 have fD:∀{H':Hp},H' s2.heap.objs.size=eN->WL Y [] H' s2.heap.objs.size:=λ{H'} hn=>by
  refine⟨hn,?_,?_,?_,?_,λp hp=>?_⟩
  .rw[yenv];exact hDC
  .exact IB.ok.exfs _ (by rw[<-hY];exact æ)
  .exact .inl (by rw[<-hY];exact æ)
  .exact λy c e=>(IB.ok.exf _<|by rw[<-hY];exact æ).2 y c e
  .rw[ypn]at hp;exact nomatch hp
 have fF:∀{H':Hp},(∀b∈fp,H' b=eN)->∀b∈fp,WL Y [] H' b:=λ{H'} hn b hb=>by
  have hm:b∈Y.ex:=by rw[<-hY];exact Ú _ hb
  refine⟨hn b hb,?_,IB.ok.exfs b hm,.inl hm,λy c e=>(IB.ok.exf b hm).2 y c e,λp hp=>?_⟩
  .exact(IB.ok.exf b hm).1
  .rw[ypn]at hp;exact nomatch hp
 have acc0:bH.PlainList s2.heap.objs.size ([]:List Ã).toArray:=⟨0,by exact ϵ _ _ dz⟩
 have loop:∀aS:Ç,aS={s2 with heap:=bH,toks:=s2.toks+([]:List<|Str×Ã).length}->
   codeAny (à X.prog X.w) X.A (.compLoop (.ListComp bU [⟨bI,ž,bq,0⟩] scope î) 0 (.ref it) (.ref s2.heap.objs.size)<|compEnvC scope cl h3'.objs.size X.env) (RR (.ref s2.heap.objs.size) h3'.objs.size) aS:=by
  rintro aS rfl;refine N9 (λn s'=>∃i ys õ τ H',Inv Y [] τ H' s'/\tn i s'.heap/\(∀b∈fp,H' b=eN)/\H' s2.heap.objs.size=eN/\gg ys õ/\s'.heap.PlainList s2.heap.objs.size õ.toArray/\W i n ys τ H') ?_ m0
   ⟨0,[],[],_,H2,IB,T.keep _ _ _ st2 λb hb o e=>ϵ _ _<|cP _ _ e,λb hb=>(f2 b hb).1,I2.fresh,.nil,acc0,w0⟩
  rintro n s3 ⟨i,ys,õ,τ,H3,I3',st3,fr3,frD,rv,pl,w3⟩;have cv:∀{α:Type}{f:Sem α}{Q Q':α->Ç->Prop}{s:Ç},wpAny (à Y.prog Y.w) Y.A f Q Y.xe s->(∀a s',Q a s'->Q' a s')->wpAny (à X.prog X.w) X.A f Q' (λ_ _=>False) s:=λ{α f Q Q' s} h hq=>by rw[yP,yw,yA,yxe]at h;exact Ĳ h hq λ_ _ e=>e
  have cvX:∀{α:Type}{f:Sem α}{Q Q':α->Ç->Prop}{s:Ç},wpAny (à X.prog X.w) Y.A f Q (λ_ _=>False) s->(∀a s',Q a s'->Q' a s')->wpAny (à X.prog X.w) X.A f Q' (λ_ _=>False) s:=λ{α f Q Q' s} h hq=>by rw[yA]at h;exact Ĳ h hq λ_ _ e=>e
  let⟨nD,hD3⟩:=id pl;have plD:∀b∈[s2.heap.objs.size],∃o,s3.heap.get? b=eM o/\∀v,o.data≠.cell v:=λb hb=>by
   have e:b=s2.heap.objs.size:=⇑hb
   subst e;exact⟨_,hD3,λv z=>by cases z⟩
  have IP:=I3'.pinned (fp:=[s2.heap.objs.size]) (λb hb=>by
    have e:b=s2.heap.objs.size:=⇑hb
    subst e
    exact fD frD) plD
  have memD:=Z0 (fp:=[s2.heap.objs.size]) (á.mpr rfl) hD3;have fF':∀b∈fp,WL Y ([]++XO [s2.heap.objs.size] s3.heap) H3 b:=λb hb=>by
   let⟨q1,q2,q3,q4,q5,q6⟩:=fF fr3 b hb;refine⟨q1,q2,q3,q4,q5,λp hp=>?_⟩;rw[ypn]at hp;let⟨cp,_⟩:=KY (show p∈XO [s2.heap.objs.size] s3.heap by simpa using hp);have e:p.1=s2.heap.objs.size:=⇑cp
   rw[e];exact(é<|hfp b hb).symm
  obtain⟨hys,h|⟨go,N,hN,step⟩⟩:=cw i n ys τ H3 w3
  .obtain⟨stop,fin⟩:=h;refine cvX (T.done Y yP yw yK yc i _ s3 _ H3 _ IP fF' st3 stop) λr s4 ⟨hr,I4⟩=>?_;subst hr;let⟨m4,hm4,_⟩:=I4.loc;rw[yenv]at hm4;have aT:Un (frs X.stack) (s2.heap.objs.size::fp) H2 H3 h3' s4.heap:=by
    have:=I4.base;rw[<-hY]at this;exact this
   have hok4:HOk X.prog X.w H3 s4.heap:=by have:=I4.hok;rw[yP,yw]at this;exact this
   have pl4:=(I4.pin _<|Ê _<|Ê _ memD).1;have nC:H3 h3'.objs.size=eN:=by have:=I4.free;rw[yenv]at this;exact this
   have hlen:ys.length<=Ý:=Ι hys;have osEq:s4.os=s2.os:=by have:=I4.os;rw[<-hY]at this;exact this
   have neD:∀b o,s2.heap.get? b=eM o->b≠s2.heap.objs.size:=λb o e=>é<|Ü e;have nin:∀b o,s2.heap.get? b=eM o->b∉fp->b∉s2.heap.objs.size::fp:=λb o e hb z=>(Æ.mp z).elim (neD b o e) hb;have hokN:HOk X.prog X.w (upd H3 s2.heap.objs.size<|.lst ys) s4.heap:=hok4.track frD ⟨hlen,õ,nD,rv,pl4⟩;have U:Un (frs X.stack) fp H2 (upd H3 s2.heap.objs.size<|.lst ys) s2.heap s4.heap:=by
    refine⟨λb o e hn hf hx=>aT.keep b o (cP b o e) hn hf<|nin b o e hx,λb o e hn hf hx=>aT.slot b o (cP b o e) hn hf<|nin b o e hx,λb o e hn hx=>?_,λb o e hx=>aT.there b o (cP b o e)<|nin b o e hx,λb xs e=>?_,λb o xs e=>?_,λb ps e=>?_⟩
    .rw[eR<|neD b o e];exact aT.free b o (cP b o e) hn<|nin b o e hx
    .have q:=aT.tups b xs e;rw[eR<|Zl q frD];exact q
    .have q:=aT.frzs b o xs e;rw[eR<|Zl q frD];exact q
    .obtain⟨more,q⟩:=aT.tbls b ps e;exact⟨more,by rw[eR<|Zl q frD];exact q⟩
   have I5:Inv X Â σ (upd H3 s2.heap.objs.size<|.lst ys) s4:=I2.call' (ch:=fp) osEq U hokN I4.bare λb hb=>by let⟨_,q2,_,q4,q5,q6⟩:=f2 b hb;exact⟨q4,q2,q5,q6⟩
   exact hRR _ _ _ _ _ m4 frD hm4 (I2.fpOk (Ι<|by rw[h3];exact ē _)<|by rw[eR hDC.symm];exact nC) I5 fin
  .refine cvX (T.item Y yP yw yK yc i _ s3 _ H3 _ IP fF' st3 go) λr s4 ⟨u,hr,h4⟩=>?_;subst hr;refine cvX h4 λ_ s5 ⟨y,H5,I5,r5,y5,st5,fr5⟩=>?_;have frD5:H5 s2.heap.objs.size=eN:=(I5.pin _<|Ê _<|Ê _ memD).2.1;have hD5:=(I5.pin _<|Ê _<|Ê _ memD).1;have I5p:=I5.unpinned.pinned (fp:=s2.heap.objs.size::fp) (λb hb=>by
     rcases Æ.mp hb with e|hb
     . subst e;exact fD frD5
     . exact fF fr5 b hb) (λb hb=>by
     rcases Æ.mp hb with e|hb
     . subst e;exact⟨_,hD5,λv z=>by cases z⟩
     . exact T.obj _ _ st5 b hb)
   have memD5:=Z0 (fp:=s2.heap.objs.size::fp) æ hD5;rw[<-yenv];refine cv (hgN _ s5 _ H5 y u _ I5p r5<|step y H5 y5) λ_ s6 ⟨σ6,H6,I6,q6⟩=>?_;have Ϻ:∀{m':Nat}{bG:St}{H7:Hp}{s7:Ç}{ys':List V}{its':List Ã},Inv Y [] bG H7 s7->tn (i+1) s7.heap->(∀b∈fp,H7 b=eN)->H7 s2.heap.objs.size=eN->gg ys' its'->s7.heap.PlainList s2.heap.objs.size its'.toArray->m'<n/\W (i+1) m' ys' bG H7->
     ∃m,m<n/\∃i ys õ τ H',Inv Y [] τ H' s7/\tn i s7.heap/\(∀b∈fp,H' b=eN)/\H' s2.heap.objs.size=eN/\gg ys õ/\s7.heap.PlainList s2.heap.objs.size õ.toArray/\W i m ys τ H' :=
    λ{m' bG H7 s7 ys' its'} J1 st7 fr7 fd7 rv7 pl7 wm=>⟨m',wm.1,i+1,ys',its',bG,H7,J1,st7,fr7,fd7,rv7,pl7,wm.2⟩
   have stay:∀{bG:St}{H7:Hp}{s7:Ç},Inv Y ([]++XO (s2.heap.objs.size::fp) s5.heap) bG H7 s7->tn (i+1) s7.heap/\(∀b∈fp,H7 b=eN)/\H7 s2.heap.objs.size=eN/\s7.heap.get? s2.heap.objs.size=eM {cls:=.type "list",data:=.seq õ.toArray nD}:=by intro bG H7 s7 J1;refine⟨T.keep _ _ _ st5 λb hb o e=>(J1.pin (b,o)<|Ê _<|Ê _<|Z0 (Ú _ hb) e).1,λb hb=>?_,(J1.pin _<|Ê _<|Ê _ memD5).2.1,(J1.pin _<|Ê _<|Ê _ memD5).1⟩;let⟨o,e,d⟩:=T.obj _ _ st5 b hb;exact(J1.pin (b,o)<|Ê _<|Ê _<|Z0 (Ú _ hb) e).2.1
   refine cv (hIY _ s6 _ H6 _ I6 q6) λok s7 ⟨H7,I7,q7⟩=>?_;cases ok with
   |false =>rw[gx<|by decide]at q7;rw[gx<|by decide];let⟨m',wm⟩:=hN _ _ _ q7;let⟨a1,a2,a3,a4⟩:=stay I7;exact Ϻ I7.unpinned a1 a2 a3 rv ⟨nD,a4⟩ wm
   |true =>
    rw[gw rfl]at q7;rw[gw rfl];refine cv (hEY _ s7 _ H7 _ I7 q7) λz s8 ⟨vz,H8,I8,rz,wm⟩=>?_;let⟨m',wm⟩:=hN _ _ _ wm;let⟨a1,a2,a3,a4⟩:=stay I8;have hlen:=rv.length;refine wpAny_list_append_plain (hsz:=by rw[Ð];lia) (⟨nD,a4⟩:s8.heap.PlainList _ õ.toArray) λh9 hl9 hs9=>?_;let⟨q1,q2,q3,q4,q5,q6⟩:=fD a3;have I9:Inv Y [] _ H8 {s8 with heap:=h9}:=I8.unpinned.turned (t':=s8.toks) (λb o hb e=>hs9.extBut b o hb e) q1 q2 q4 q5 q6;refine Ϻ I9 (T.keep _ _ _ a1 λb hb o e=>hs9.extBut b o (é<|hfp b hb) e) a2 a3 (its':=õ++[z]) (rv.append<|.cons rz .nil) ?_ wm;have e:õ.toArray.push z=(õ++[z]).toArray:=by simp
    rw[e]at hl9;exact hl9
 exact codeAny_compStart_list (loop _ rfl)<|T.self _ 0 _ _ _ (T.keep _ _ _ st2 λb hb o e=>ϵ _ _<|cP _ _ e)<|loop _ rfl
variable {wi:TI}
def Eb(hc:X.calm=eP)(B:BlkOk X scope x ù)(hi:PI X bI ž wi)(hG:∀cl C s H ex,PG (Zx X scope (Z9 X x ù) cl C s H ex) bI tg)
  (hI:∀cl C s H ex,PIfs (Zx X scope (Z9 X x ù) cl C s H ex) bq tc) (hE:∀cl C s H ex,PE (Zx X scope (Z9 X x ù) cl C s H ex) bU te)
  (hs:∀x,Ę ž X.env x=pure x:=by intro _;rfl):PE X (.ListComp bU [⟨bI,ž,bq,0⟩] scope î)<|CM wi x.length ù tg tc te:=by
 intro Â s σ H Q I h;let⟨cl,aX,c1,c2⟩:=XH (scope:=scope) (env:=X.env) λy hy e=>I.ok.has y.1<|.inl<|B.frees y hy e;rw[eval_ListComp];refine dk (use:=eN) rfl hs aX B.kind B.locs<|thn (hi Â s σ H _ I h) λv s1 h1=>thn h1 λitv s2 h2=>?_;let⟨it,fp,tn,J,H2,e,I2,T,st2,f2,W,⟨m0,w0⟩,cw⟩:=h2;subst e;refine Mc (RR:=λį C=>compPost (à X.prog X.w) X.A X.xe eN (EP X Â σ Q) į C) hc B I2 T st2 f2 c1 c2 hI hE hG w0 cw ?_;intro D C s' H' ys m hD hn fC I' fin;let⟨q1,q2,q3,q4,q5,q6⟩:=fC;exact⟨m,hn,λh' hs'=>⟨.ref D,_,I'.turned (t':=s'.toks) (λb o hb e=>hs'.extBut b o hb e) q1 q2 q4 q5 q6,rfl,fin D hD⟩⟩
def D6{y:Str}{py:Pos}{i:Nat}{Ϥ:Pos}(hN:X.N.Nodup)(hi':X.N[i]?=eM y)(hy:Loc X.env.scope y)(hc:X.calm=eP)(B:BlkOk X scope x ù)(hi:PI X bI ž wi)(hG:∀cl C s H ex,PG (Zx X scope (Z9 X x ù) cl C s H ex) bI tg)
  (hI:∀cl C s H ex,PIfs (Zx X scope (Z9 X x ù) cl C s H ex) bq tc) (hE:∀cl C s H ex,PE (Zx X scope (Z9 X x ù) cl C s H ex) bU te)
  (hs:∀x,Ę ž X.env x=pure x:=by intro _;rfl)
  (hsw:υ (.ListComp bU [⟨bI,ž,bq,0⟩] scope î) (eM<|.Name y py) Ϥ.line X.env=pure eP:=by rfl)
  (hf:X.fn y=eP\/X.env.scope.names.lookup y=eM .local:=by first|exact .inl rfl|exact .inr rfl|assumption) :
  PS X (.Assign [.Name y py] (.ListComp bU [⟨bI,ž,bq,0⟩] scope î) Ϥ) (RM (CM wi x.length ù tg tc te)<|Ib i):=by
 intro Â s σ H D I h;let⟨cl,aX,c1,c2⟩:=XH (scope:=scope) (env:=X.env) λy hy e=>I.ok.has y.1<|.inl<|B.frees y hy e;rw[exec_Assign_Name_used _ _ _ _ hsw];refine Á<|dh<|Á ?_;show wpAny _ X.A (do let _<-comprehension (.ListComp bU [⟨bI,ž,bq,0⟩] scope î) scope X.env _ (newList []) eQ (eval ž X.env) (eM<|Ε (.Name y py) X.env)) _ _ s;refine Á (Ĳ (dk (use:=eM<|Ε (.Name y py) X.env) (Q:=λ_ s'=>SP X Â D .next s') rfl hs aX B.kind B.locs
   (thn (hi Â s σ H _ I h) λv s1 h1=>thn h1 λitv s2 h2=>?_)) (λ_ s' hq=>È<|È hq) λ_ _ e=>e)
 let⟨it,fp,tn,J,H2,e,I2,T,st2,f2,W,⟨m0,w0⟩,cw⟩:=h2;subst e;refine Mc (RR:=λį C=>compPost (à X.prog X.w) X.A X.xe (eM<|Ε (.Name y py) X.env) (λ_ s'=>SP X Â D .next s') į C) hc B I2 T st2 f2 c1 c2 hI hE hG w0 cw ?_;intro Dd C s' H' ys m hD hn fC I' fin;let⟨q1,q2,q3,q4,q5,q6⟩:=fC;show wpAny _ _ (Ε (.Name y py) X.env<|.ref Dd) _ _ _;refine wpAny_assign_Name<|Mx I' hN hi' hy (v:=.ref Dd) rfl (λs2 I2 ⟨a,hs2,ha⟩=>?_) hf;have ne:C≠a:=by
  rcases ha with z|z
  .rw[z];exact q2
  .exact(q5 y a z).symm
 refine⟨m,hn.sameBut hs2 ne,λh' hs'=>?_⟩;exact⟨_,_,I2.turned (t':=s2.toks) (λb o hb e=>hs'.extBut b o hb e) q1 q2 q4 q5 q6,fin Dd hD⟩
end
mutual
inductive IsD (K:Frag) (H:Hp):V->ai->Prop
 |non:IsD K H .non .none
 |bl (b:Bool):IsD K H (.bl b)<|.bool b
 |int (i:Int):IsD K H (.int i)<|.int i
 |str (x:Str):IsD K H (.str x)<|.str x
 |lst {a:Ï}{xs:List V}{ds:List ai}:fZ K H a xs->IsDs K H xs ds->IsD K H (.ref a) (.list ds)
 |tup {a:Ï}{xs:List V}{ds:List ai}:gf K H a xs->IsDs K H xs ds->IsD K H (.ref a) (.tuple ds)
inductive IsDs (K:Frag) (H:Hp):List V->List ai->Prop
 |nil:IsDs K H [] []
 |cons {x:V}{xs:List V}{d:ai}{ds:List ai}:IsD K H x d->IsDs K H xs ds->IsDs K H (x::xs) (d::ds)
end
section
variable {X:Cx}{Â:List (Ï×Obj)}{σ:St}{H:Hp}{s:Ç}
mutual
theorem IsD.reads(I:Inv X Â σ H s):∀{v:V}{d:ai}{u:Ã},IsD X.K H v d->RelV v u->∃as,Reads s.heap u d as
 |_,_,_,.non,r=>by cases r;exact⟨_,.none⟩
 |_,_,_,.bl b,r=>by cases r;exact⟨_,.bool b⟩
 |_,_,_,.int i,r=>by let⟨t,rfl⟩:=r;exact⟨_,.int i t⟩
 |_,_,_,.str x,r=>by let⟨t,rfl⟩:=r;exact⟨_,.str x t⟩
 |_,_,_,.lst q qs,r=>by cases r;let⟨õ,rv,⟨o,n,e,c,_,d⟩,_⟩:=I.list q;let⟨as,ra⟩:=IsDs.reads I qs rv;exact⟨_,.list e c d<|by simpa using ra⟩
 |_,_,_,.tup q qs,r=>by cases r;let⟨õ,rv,⟨o,e,c,n,d⟩,_⟩:=I.tuple q;let⟨as,ra⟩:=IsDs.reads I qs rv;exact⟨_,.tuple e c d<|by simpa using ra⟩
theorem IsDs.reads(I:Inv X Â σ H s):∀{vs:List V}{ds:List ai}{us:List Ã},IsDs X.K H vs ds->gg vs us->∃as,ReadsAll s.heap us ds as
 |_,_,_,.nil,.nil=>⟨_,.nil⟩
 |_,_,_,.cons q qs,.cons r rs=>by let⟨as,ra⟩:=IsD.reads I q r;let⟨bs,rb⟩:=IsDs.reads I qs rs;exact⟨_,.cons ra rb⟩
end
end
def IsDs.ints{K:Frag}{H:Hp}:∀ns:List Int,IsDs K H (ns.map V.int) (ns.map PyData.int)
 |[]=>.nil
 |n::ns=>.cons (.int n)<|IsDs.ints ns
section
variable {X:Cx}
abbrev Ri(K:Frag):R2:=λx y H Q=>∃d e,IsD K H x d/\IsD K H y e/\SeqAt.shaped d=eP/\SeqAt.shaped e=eP/\Q (.bl<|ī d e) H
abbrev QE(K:Frag):R2:=λx y H Q=>∃d e,IsD K H x d/\IsD K H y e/\SeqAt.shaped d=eP/\SeqAt.shaped e=eP/\Q (.bl (!ī d e)) H
def Ii(hu:X.A.units+64<Ķ):OpR X (ï .Eq)<|Ri X.K:=by intro Â s σ H x y v u Q I rx ry h;let⟨d,e,hd,he,sd,se,q⟩:=h;let⟨as,ra⟩:=hd.reads I rx;let⟨bs,rb⟩:=he.reads I ry;exact SeqAt.compareEq_shaped ra rb sd se hu ⟨.bl _,H,I,rfl,q⟩
def Ij(hu:X.A.units+64<Ķ):OpR X (ï .NotEq)<|QE X.K:=by intro Â s σ H x y v u Q I rx ry h;let⟨d,e,hd,he,sd,se,q⟩:=h;let⟨as,ra⟩:=hd.reads I rx;let⟨bs,rb⟩:=he.reads I ry;exact SeqAt.compareNe_shaped ra rb sd se hu ⟨.bl _,H,I,rfl,q⟩
inductive TyV (K:Frag) (H:Hp):V->Ã->Prop
 |of {x:V}{t:Ã}:fU K H x t->TyV K H x t
 |tup {a:Ï}{xs:List V}:gf K H a xs->TyV K H (.ref a) (.type "tuple")
 |lst {a:Ï}{xs:List V}:fZ K H a xs->TyV K H (.ref a) (.type "list")
def D4:eZ X (.builtin "isinstance") λxs H Q=>∃x T t b,xs=[x,.ty T]/\TyV X.K H x t/\PySem.W.kitOne X.K t (.type T)=eM b/\Q (.bl b) H:=by
 intro Â s σ H xs us Q I r h;let⟨x,T,t,b,rfl,ty,e,q⟩:=h;let⟨u,v,rfl,ru,rv⟩:=HC r;cases rv;cases ty with
 |of ty=>exact Bo I ru ty e λtk=>⟨.bl b,H,I.tok tk,rfl,q⟩
 |tup hq =>cases ru;let⟨õ,_,⟨o,h1,h2,_⟩,_⟩:=I.tuple hq;exact PySem.W.kia_one PySem.W.kitx_tuple I.kIn ⟨o,h1,h2⟩ e (λz=>nomatch z) λtk=>⟨.bl b,H,I.tok tk,rfl,q⟩
 |lst hq =>cases ru;let⟨õ,_,⟨o,n,h1,h2,_⟩,_⟩:=I.list hq;exact PySem.W.kia_one PySem.W.kitx_list I.kIn ⟨o,h1,h2⟩ e (λz=>nomatch z) λtk=>⟨.bl b,H,I.tok tk,rfl,q⟩
def EW(hc:X.calm=eP):eZ X (.builtin "all") λxs H Q=>∃p,∃bs:List Bool,xs=[.ref p]/\fZ X.K H p (bs.map V.bl)/\Q (.bl<|bs.all id) H:=by
 intro Â s σ H xs us Q I r h;let⟨p,bs,rfl,hq,q⟩:=h;let⟨u,rfl,rx⟩:=Yo r;cases rx;let⟨õ,rv,pl,hz⟩:=I.list hq;have hlen:=rv.length;rw[À]at hlen;have Ϡ:p<s.heap.objs.size:=by let⟨o,n,e,_⟩:=pl;exact Ü e
 refine call_all_walk<|ϖ pl.isList ?_;refine⟨s.heap.objs.size,_,_,õ.toArray.size,_,_,λi=>bs.getD i eP,rfl,Walks.list (A:=X.A.in1) (I.ok.hd hc) s.heap.objs.size p (é Ϡ) õ.toArray,⟨⟨_,Ù _ rfl,rfl,rfl⟩,pl.isList.push _⟩,?_,λh' tk hk=>?_⟩
 .intro i v s' Q' E' hP hQ;have hP:õ[i]?=eM v:=⇑hP
  have hb:(bs.map V.bl)[i]?=eM (.bl<|bs.getD i eP):=by
   have hi:i<bs.length:=by have:=(Ì.mp hP).1;lia
   rw[Ø,Ď];simp[hi]
  let⟨u,hu,ru⟩:=rv.get hb;rw[hP]at hu;cases hu;cases ru;exact Č hQ
 .have e:(List.range õ.toArray.size).all (λi=>bs.getD i eP)=bs.all id:=by
   rw[Ð,<-hlen,Ϟ,û,û];constructor
   .intro h b hb;let⟨i,hi,rfl⟩:=List.mem_iff_getElem.mp hb;have:=h i<|ŗ.mpr hi;rw[Ď,É hi]at this;exact this
   .intro h i hi;have hi:=ŗ.mp hi;rw[Ď,É hi];exact h _<|Ğ hi
  rw[e];refine⟨.bl _,H,I.kept (t':=tk) λb o e=>hk b o (λhm=>?_)<|Å _ e,rfl,q⟩;have:b=s.heap.objs.size:=⇑hm
  exact gB (this▸Ü e)<|Ĥ _
abbrev sortI(ns:List Int):List Int:=ns.mergeSort λa b=>gC (a<=b)
def XY(ns:List Int):(sortI ns).Perm ns:=Ζ ns _
def OH(ns:List Int):(sortI ns).Pairwise (·<=·):=by have h:=bY (le:=λa b:Int=>gC (a<=b)) (λa b c h1 h2=>by simp at *;lia) (λa b=>by simp;lia) ns;exact h.imp λh=>⇑h
variable {ns:List Int} {ms:List Int}
def YH(hp:ms.Perm ns)(hs:ms.Pairwise (·<=·)):ms=sortI ns:=PySem.W.ksm_same (hp.trans (XY ns).symm) hs (OH ns)
def KD(hp:ms.Perm ns):sortI ms=sortI ns:=YH ((XY ms).trans hp) (OH ms)
def YO(ns:List Int):(sortI ns).length=ns.length:=(XY ns).length_eq
def YN:∀{vs:List Ã}{ns:List Int},Ā vs ns->gg (ns.map V.int) vs:=WJ
def call_sorted:eZ X (.builtin "sorted") λxs H Q=>∃p,∃ns:List Int,xs=[.ref p]/\fZ X.K H p (ns.map V.int)/\ns.length<64/\∀l,H l=eN->Q (.ref l) (upd H l<|.lst<|(sortI ns).map V.int):=by intro Â s σ H xs us Q I r h;let⟨p,ns,rfl,hq,h64,q⟩:=h;let⟨u,rfl,rx⟩:=Yo r;cases rx;let⟨õ,rv,pl,hz⟩:=I.list hq;have hlen:=rv.length;rw[À]at hlen;refine sorted_ints pl.isList (ZT rv) (by lia) λout ck a1 a2 a3=>?_;have e:=YH a2 a3;subst e;let⟨n,he⟩:=sortedAll_at s.heap õ out;refine⟨.ref<|s.heap.objs.size+1,_,I.laid (a:=s.heap.objs.size+1) (o:=.lst<|(sortI ns).map V.int) (t':=s.toks) (λb o e=>sortedAll_old e) (ő _) ?_,rfl,q _<|I.hok.fresh<|ő _⟩;exact⟨by rw[À,YO];rw[À]at hz;exact hz,out.toList,n,YN a1,by simpa[ϊ]using he⟩
end
section
variable {X:Cx}{x:Str}{p î:Pos}{e:Expr}{es:List Expr}{t:TA}
def P7{T:String}(hg:Gl X x)(hm:X.mg x=eN)(hv:Ŷ x=eM (.type T))(hn:x≠"__name__":=by decide)(hd:(x==("__debug__" : Str))=eQ:=by decide):PE X (.Name x î)<|tC<|.ty T:=Hb hg hm hv rfl hn hd
end
abbrev Ys(scope sc:Γ)(N:List Str)(x:List Str)(ù:List Nat):Bool :=
 scope.names.all (λy=>y.2 != .cell)&&scope.names.all (λy=>y.2 != .local||scope.names.lookup y.1==eM .local)&&x.all (λy=>scope.names.lookup y==eM .local) &&
 scope.names.all (λy=>y.2 != .free||sc.names.lookup y.1==eM .cell) &&
 ù.all (λj=>gC (j<N.length)&&sc.names.lookup (N.getD j Str.empty)==eM .cell&&scope.names.lookup (N.getD j Str.empty)==eM .free)&&gC (x++ù.map λj=>N.getD j Str.empty).Nodup
def UB{X:Cx}{scope sc:Γ}{x:List Str}{ù:List Nat}{N:List Str}(hsc:X.env.scope=sc)(hN:X.N=N)(hk:scope.kind=.function)(h:Ys scope sc N x ù=eP):BlkOk X scope x ù:=by
 unfold Ys at h;simp only[bAq]at h;let⟨⟨⟨⟨⟨h1,h2⟩,h3⟩,h4⟩,h5⟩,h6⟩:=h;rw[û]at h1 h2 h4 h5;refine⟨hk,λy hy=>by simpa using h1 y hy,λy hy e=>?_,λy hy=>by simpa using û.mp h3 y hy,λy hy e=>?_,λj hj=>?_,?_⟩
 .have:=h2 y hy;rw[e]at this;simpa using this
 .have:=h4 y hy;rw[e]at this;show X.env.scope.names.lookup y.1=_;rw[hsc];simpa using this
 .have:=h5 j hj;simp only[bAq,gA,beq_iff_eq]at this;let⟨⟨a,b⟩,c⟩:=this;refine⟨?_,?_,?_⟩
  .rw[hN,É a];rfl
  .show X.env.scope.names.lookup _=_;rw[hsc,hN];exact b
  .rw[hN];exact c
 .unfold Z9;rw[hN];exact of_decide_eq_true h6
abbrev fo(r:Ï)(H H':Hp):Prop:=∀b o,H b=eM o->b≠r->H' b=eM o
def fo.refl(r:Ï)(H:Hp):fo r H H:=λ_ _ h _=>h
def fo.trans{r:Ï}{H H1 H2:Hp}(a:fo r H H1)(b:fo r H1 H2):fo r H H2:=λc o h n=>b c o (a c o h n) n
noncomputable abbrev Tie:=Int×Int×Int
variable {c:Bool} {A:Prop} {B:Prop}
def fQ(e:c=eP)(h:A):if c=eP then A else B:=by rw[gw e];exact h
def fR(e:c=eQ)(h:B):if c=eP then A else B:=by rw[e,gx ö];exact h
structure BrOk(ns:List Int):Prop where
 one:1<=ns.length
 ten:ns.length<=10
 rng:∀n∈ns,0<=n/\n<=999
 nd:ns.Nodup
structure TieOk(ns:List Int)(t:Tie):Prop where
 a:t.1∈ns
 b:t.2.1∈ns
 ne:t.1≠t.2.1
 lo:1<=t.2.2
 hi:t.2.2<=1000
structure TsOk(ns:List Int)(ts:List Tie):Prop where
 few:ts.length<=16
 each:∀t∈ts,TieOk ns t
abbrev mn(x y:Int):Int:=if y<x then y else x
section
variable {X:Cx}(K:Frag) (h:X.K=K)
include h
end
section
variable {prog:ç}{w:þ}{A:ĉ}{E:Ã->Ç->Prop}{s:Ç}
variable {it:Ï} {i:Nat} {items:Array Ã} {Q:Ã->Ç->Prop}
def Ux{t:Ï}{x:Ã}(hit:s.heap.IsTupleIter it t i)(ht:s.heap.IsTuple t items)(hx:items[i]?=eM x)
  (hQ:∀h',h'.IsTupleIter it t (i+1)->θ it s.heap h'->Q x {s with heap:=h'}):wpAny (à prog w) A (Builtin.SmallTypes.nextOf<|.ref it) Q E s:=by
 let⟨o,ho,hc,hd⟩:=id hit;let⟨ot,hot,_,nt,hdt⟩:=ht;unfold Builtin.SmallTypes.nextOf;refine Á<|ĺ (name:=gD "__next__") hit.typeIs F.slot_tuple_iterator_next<|Ģ F.slot_tuple_iterator_next hit.typeIs F.entry_tuple_iterator_next ?_<|F.args_tuple_iterator_next_1 _;show wpAny _ _ (field (.ref it) 0 >>= _) _ _ s;refine Á<|ŕ ho hd (x:=.ref t) rfl ?_;show wpAny _ _ (if(Value.ref t==Value.none)=eP then _ else _) _ _ s;rw[gx<|show ¬ ((Value.ref t==Value.none)=eP) from ö];show wpAny _ _ (field (.ref it) 1 >>= _) _ _ s;refine Á<|ŕ ho hd (x:=.int i 0) rfl ?_;show wpAny _ _ (aw (.ref t) >>= _) _ _ s;refine Á<|Š hot hdt ?_;simp only[Ö,hx];refine Á (Ō ho hd (by simp)<|È ⟨x,rfl,È<|hQ _ ⟨_,Ė _ ho<|cT<|Ο hd _,(Obj.cls_mapFields ..).trans hc,?_⟩<|ā ..⟩);rw[Ο hd];simp[ĩ]
def K7{t:Ï}(hh:A.handled=eN)(hit:s.heap.IsTupleIter it t i)(ht:s.heap.IsTuple t items)(hx:items[i]?=eN)
  (hE:∀h' e,Heap.ExtBut it s.heap h'->(∃o,h'.get? e=eM o/\o.cls=.type "StopIteration")->E (.ref e) {s with heap:=h'}):wpAny (à prog w) A (Builtin.SmallTypes.nextOf<|.ref it) Q E s:=by
 let⟨o,ho,hc,hd⟩:=id hit;let⟨ot,hot,_,nt,hdt⟩:=ht;unfold Builtin.SmallTypes.nextOf;refine Á<|ĺ (name:=gD "__next__") hit.typeIs F.slot_tuple_iterator_next<|Ģ F.slot_tuple_iterator_next hit.typeIs F.entry_tuple_iterator_next ?_<|F.args_tuple_iterator_next_1 _;show wpAny _ _ (field (.ref it) 0 >>= _) _ _ s;refine Á<|ŕ ho hd (x:=.ref t) rfl ?_;show wpAny _ _ (if(Value.ref t==Value.none)=eP then _ else _) _ _ s;rw[gx<|show ¬ ((Value.ref t==Value.none)=eP) from ö];show wpAny _ _ (field (.ref it) 1 >>= _) _ _ s;refine Á<|ŕ ho hd (x:=.int i 0) rfl ?_;show wpAny _ _ (aw (.ref t) >>= _) _ _ s;refine Á<|Š hot hdt ?_;simp only[Ö,hx];refine Á (ϭ<|Á<|Ō ho hd (by simp) ?_);show wpAny _ _ (newExc (.type "StopIteration") [] >>= _) _ _ _;refine Á ?_;simp only[newExc,newTuple];refine Á (ć (Á (m:=aj _ _)<|bL (a:=Value.none) (by first|rfl|(simp only[aj];rfl))<|ć ?_<|by size_fits)<|by size_fits);simp only[raiseNew];refine Á<|wpAny_handled ?_
 first
 |rw[show A.in1.handled=eN from hh]
 |rw[hh]
 exact Á<|È<|wpAny_throw<|hE _ _ (((ā ..).extBut.push _).push _) ⟨_,Ù _ rfl,rfl⟩
end
variable {prog:ç} {w:þ} {A:ĉ}
def LF(hh:A.handled=eN)(it t:Ï)(ű:t≠it)(items:Array Ã) :
  Draws prog w A it [it,t] items.size (λi v=>items[i]?=eM v) (λi h=>h.IsTupleIter it t i/\h.IsTuple t items) where
 live:=λ_ _ st=>let ⟨o,ho,_⟩:=st.1;⟨o,ho⟩
 frame:=λ_ _ _ st hk=>⟨st.1.at λo e=>hk it (by simp) o e,st.2.at λo e=>hk t (by simp) o e⟩
 item:=λi s Q E hi st hQ=>Ux st.1 st.2 (x:=items[i]) (by simp[hi]) λh' hit' hs'=>hQ _ h' s.toks (by simp[hi]) ⟨hit',st.2.extBut hs'.extBut ű⟩ hs'
 done:=λs Q E st hE=>K7 hh st.1 st.2 (by simp) hE
open AutoSeq1 (wpAny_loadPart') in
def Im(l:Ï)(items:Array Ã)(n:Nat)(dct:Option Ï)(sl:Array<|Option Ã) :
  Meets (Builtin.«enumerate.__new__» ⟨[.type "enumerate",.ref l],[]⟩) (λ_ R s=>s.heap.get? l=eM { cls:=.type "tuple",dict:=dct,data:=.seq items n,slots:=sl }/\
    R (.ok<|.ret<|.ref (s.heap.push {cls:=.type "tuple_iterator",data:=.fields #[.ref l,.int 0 0]}).objs.size)
      { s with heap:=(s.heap.push { cls:=.type "tuple_iterator",data:=.fields #[.ref l,.int 0 0] }).push { cls:=.type "enumerate",data:=.fields #[.none,.bool eQ,.ref s.heap.objs.size,ĩ 0,.none,.none] } }) :=
 .of_wp λprog w A R s h=>by
  let⟨hp,g,d,tk,os⟩:=s;let⟨hl,h⟩:=h;have hsub:=sub_enumerate;have hL:Heap.IsTuple (Shared.heap ⟨hp,g,d,tk,os⟩) l items:=⟨_,hl,rfl,n,rfl⟩
  wp_walk using ğ hl
  refine wpAny_stack_any λst=>È ?_;split
  .rename_i c _ _ _ _ _;cases (c==Value.type "enumerate")<;>(wp_walk using ğ hl,aJ hL;exact⟨_,rfl,h⟩)
  .wp_walk using ğ hl,aJ hL;exact⟨_,rfl,h⟩
def Ue{E:Ã->Ç->Prop}{s:Ç}{l:Ï}{items:Array Ã}{Q:Ã->Ç->Prop}(hL:s.heap.IsTuple l items)
  (h:∀h',IsEnum h' (s.heap.objs.size+1) s.heap.objs.size 0 .none->h'.IsTupleIter s.heap.objs.size l 0->(∀b o,s.heap.get? b=eM o->h'.get? b=eM o)->Q (.ref<|s.heap.objs.size+1) {s with heap:=h'}) :
  wpAny (à prog w) A (call (.type "enumerate") [.ref l]) Q E s:=by
 let⟨⟨c,dct,dt,sl⟩,hl,hc,n,hd⟩:=hL;simp only at hc hd;subst hc hd;refine callType_new F.called_enumerate (by decide) (F.typeCall_enumerate_1 _) (F.newCall_enumerate_1 _) (λobj=>F.args_object_init_2 obj _) F.entry_enumerate_new (Im l items n dct sl) ⟨hl,?_⟩;have hz:(s.heap.push {cls:=.type "tuple_iterator",data:=.fields #[.ref l,.int 0 0]}).objs.size=s.heap.objs.size+1:=ι ..;have hg:=Ù (s.heap.push {cls:=.type "tuple_iterator",data:=.fields #[.ref l,.int 0 0]}) (o:={cls:=.type "enumerate",data:=.fields #[.none,.bool eQ,.ref s.heap.objs.size,ĩ 0,.none,.none]}) rfl;rw[hz]at hg;show _/\_;rw[hz];exact⟨⟨_,hg,rfl⟩,h _ hg ⟨_,Å _<|Ù _ rfl,rfl,rfl⟩ λb o x=>Å _<|Å _ x⟩
section
variable {X:Cx}{Â:List (Ï×Obj)}{σ:St}{H:Hp}{s:Ç}{h':Ĉ}
def Inv.turnedL{t':Nat}{ch:List Ï}(I:Inv X Â σ H s)(k:∀b o,b∉ch->s.heap.get? b=eM o->h'.get? b=eM o)(hc:∀b∈ch,WL X Â H b):Inv X Â σ H {s with heap:=h',toks:=t'}:=by
 have nit:∀b u,H b=eM u->b∉ch:=λb u e z=>by rw[(hc b z).1]at e;cases e
 refine I.step (g':=s.gens) (d':=s.drawn) (ch:=ch) (λb hb=>?_) (λb o _ _ hcb e _=>k b o hcb e) (λb o _ _ hcb e _=>⟨o.slots,k b o hcb e⟩) (λ_ _ _ _ n=>n)
  (λb o hcb e=>⟨o,k b o hcb e⟩) (λ_ _ e=>e) (λ_ _ _ e=>e) (λb ps e=>⟨#[],by rw[e];simp⟩) (λm hm=>?_) (λb u e=>?_) I.bare
 .obtain⟨_,q2,_,q4,q5,q6⟩:=hc b hb;exact⟨q4,q2,q5,q6⟩
 .obtain⟨o,es,ep,ho,r⟩:=hm;exact⟨o,es,ep,k _ o (λz=>(hc _ z).2.1 rfl) ho,r⟩
 .refine(I.hok b u e).stay (λc v hcc q=>k c v ?_ q) (λ_ q=>q) λ_ _ q=>q;rcases hcc with z|z
  .rw[z];exact nit b u e
  .exact nit c _ z
def Inv.track{T:Ï}{o:HO}(I:Inv X Â σ H s)(hT:H T=eN)(h0:X.s₀.heap.objs.size<=T)(hL:T≠X.env.locals)(aX:∀x c,X.env.cells.lookup x=eM c->c≠T)(hp:∀p∈X.pn++Â,p.1≠T)
  (new:fb X.prog X.w (upd H T o) s.heap T o):Inv X Â σ (upd H T o) s:=by
 have neT:∀b ob,X.s₀.heap.get? b=eM ob->b≠T:=λb ob e=>é<|è (Ü e) h0;refine⟨I.ok,I.os,I.bare,⟨I.base.keep,I.base.slot,λb ob e n hx=>?_,I.base.there,λb xs e=>?_,λb ob xs e=>?_,λb ps e=>?_⟩,I.loc,I.cell,?_,λx c e=>?_,λp hpp=>?_,I.hok.track hT new,I.len⟩
 .rw[eR<|neT b ob e];exact I.base.free b ob e n hx
 .have q:=I.base.tups b xs e;rw[eR<|Zl q hT];exact q
 .have q:=I.base.frzs b ob xs e;rw[eR<|Zl q hT];exact q
 .obtain⟨m,q⟩:=I.base.tbls b ps e;exact⟨m,by rw[eR<|Zl q hT];exact q⟩
 .rw[eR hL.symm];exact I.free
 .rw[eR<|aX x c e];exact I.freeC x c e
 .obtain⟨a,b,c,d,e⟩:=I.pin p hpp;exact⟨a,by rw[eR<|hp p hpp];exact b,c,d,e⟩
end
abbrev Ite(K:Frag)(a:Ï):It :=
 ⟨λi H=>∃xs x,gf K H a xs/\xs[i]?=eM x,λi H v H'=>∃p,v=.ref p/\H p=eN/\∀xs x,gf K H a xs->xs[i]?=eM x->H'=upd H p (.tup [.int i,x]),λi H=>∃xs,gf K H a xs/\xs.length<=i⟩
variable {es:List Expr} {kk:Nat} {tp:Pos}
def UF{P:ç}{K:Frag}(a it e:Ï)(ű:e≠it) :
  Turn P w K (.Tuple es kk tp) (Ite K a) [e,it] e (λi h=>(∃ϵ,IsEnum h e it i ϵ)/\h.IsTupleIter it a i) where
 mem:=by simp
 obj:=λi h st b hb=>by
  let⟨⟨ϵ,h1⟩,o2,e2,_,d2⟩:=st;rcases Æ.mp hb with q|q
  .subst q;exact⟨_,h1,λv z=>by cases z⟩
  .have q:b=it:=⇑q
   subst q;exact⟨o2,e2,λv z=>by rw[d2]at z;cases z⟩
 keep:=λi h h' st k=>⟨let ⟨ϵ,h1⟩:=st.1;⟨ϵ,k e (by simp) _ h1⟩,st.2.at λo q=>k it (by simp) o q⟩
 item:=by
  intro X hP hw hK hc i Â s σ H E I hf st hg;subst hP hw hK;let⟨xs,x,hq,hx⟩:=hg;let⟨õ,rv,pl,hz⟩:=I.tuple hq;let⟨u,hu,ru⟩:=rv.get hx;have hsz:=rv.length;have hi:i<õ.toArray.size:=by rw[Ð];exact(Ì.mp hu).1
  let⟨⟨ϵ,h1⟩,h2⟩:=st;have hfi:=hf it (by simp);have hai:a≠it:=λz=>by let⟨o,ho,aX,_⟩:=h2;let⟨o',aG,hcl',_⟩:=pl;rw[z,ho]at aG;cases aG;rw[aX]at hcl';exact gB (ax hcl') (by decide)
  have hae:e∉[it,a]:=λz=>by
   rcases Æ.mp z with z|z
   .exact ű z
   .have z:e=a:=⇑z
    let⟨o',aG,hcl',_⟩:=pl;rw[<-z,h1]at aG;cases aG;exact gB (ax hcl') (by decide)
  refine wpAny_pyNext_enum_itemD (LF (A:=X.A.in1) (I.ok.hd hc) it a hai õ.toArray) h1 ⟨h2,pl⟩ hi ű hae λv h3 tk hv hout hst3 hT _ hk=>?_;have ev:v=u:=by
   have hv:õ[i]?=eM v:=⇑hv
   rw[hu]at hv;exact(ñ hv).symm
  subst ev;have nT:∀b∈[e,it],s.heap.objs.size≠b:=λb hb z=>by
   rcases Æ.mp hb with q|q
   .exact gB (Ü h1) (by rw[<-q,<-z];exact Ĥ _)
   .have q:b=it:=⇑q
    let⟨o,ho,_⟩:=h2;exact gB (Ü ho) (by rw[<-q,<-z];exact Ĥ _)
  have bV:=I.fpOk (H':=H) (Ó s.heap.objs.size) I.fresh;refine⟨.ref s.heap.objs.size,rfl,wpAny_letOwnedTupleGo_enum hout λh4 he4 hs4=>?_⟩;have I4:Inv X Â σ H {s with heap:=h4,toks:=tk+1}:=I.turnedL (t':=tk+1) (ch:=[e,it]) (λb o hb q=>hs4.extBut b o (λz=>hb<|by simp[z])<|hk b o (λz=>hb<|by simp[z]) (λz=>hb<|by simp[z]) q) hf;have hT4:h4.get? s.heap.objs.size=eM {cls:=.type "tuple",data:=.seq #[.int i tk,v]}:=hs4.extBut _ _ (nT e<|by simp) hT;let⟨f0,f1,f2,f3,f4,f5⟩:=bV;have I5:Inv X Â σ (upd H s.heap.objs.size<|.tup [.int i,x]) {s with heap:=h4,toks:=tk+1}:=I4.track f0 I.sz f1 f4 f5 ⟨by show 2<=Ý;decide,[.int i tk,v],.cons ⟨tk,rfl⟩<|.cons ru .nil,_,hT4,rfl,_,rfl⟩;refine⟨.ref s.heap.objs.size,_,I5,rfl,⟨s.heap.objs.size,rfl,f0,λys y hy hyi=>?_⟩,⟨⟨v,⇑he4⟩,hst3.1.at λo q=>hs4.extBut it o (Ne.symm ű) q⟩,λb hb=>?_⟩
  .have ey:ys=xs:=I.tuple_inj hy hq;rw[ey,hx]at hyi;rw[ñ hyi]
  .rw[eR (nT b hb).symm];exact(hf b hb).1
 done:=by
  intro X hP hw hK hc i Â s σ H E I hf st hg;subst hP hw hK;let⟨xs,hq,hx⟩:=hg;let⟨õ,rv,pl,hz⟩:=I.tuple hq;have hl:=rv.length;let⟨⟨ϵ,h1⟩,h2⟩:=st;have hai:a≠it:=λz=>by let⟨o,ho,aX,_⟩:=h2;let⟨o',aG,hcl',_⟩:=pl;rw[z,ho]at aG;cases aG;rw[aX]at hcl';exact gB (ax hcl') (by decide)
  have hT:s.TypeIs (.ref e) "enumerate":=⟨_,h1,rfl⟩
  unfold Ϝ;refine Á<|wpAny_attempt<|ĺ (name:=gD "__next__") hT F.slot_enumerate_next<|Ģ F.slot_enumerate_next hT F.entry_enumerate_next ?_<|F.args_enumerate_next_1 _;show wpAny _ _ (field (.ref e) 2 >>= _) _ _ _;refine Á<|ŕ h1 rfl (x:=.ref it) rfl ?_;refine Á (K7 (A:=X.A.in1) (I.ok.hd hc) h2 pl (by simp;lia) λh' x he' hx'=>?_);let⟨o,ho,aX⟩:=hx';refine Á<|bC (T:="StopIteration") (b:=eP) ⟨o,ho,aX⟩ isSubtype_stop<|È ⟨rfl,?_⟩;exact I.turnedL (t':=s.toks) (ch:=[it]) (λb ob hb q=>he' b ob (λz=>hb<|by simp[z]) q) λb hb=>hf b<|Ú _ hb
 self:=λA i s Q E st h=>by let⟨⟨ϵ,h1⟩,_⟩:=st;exact wpAny_pyIter_enum h1 h
section
variable {X:Cx}
abbrev IF(K:Frag)(ta:TA):TI:=λσ H R=>ta σ H λvs H1=>∃a,vs=[.ref a]/\(∃xs,gf K H1 a xs)/\R (Ite K a) H1
def CO{p î:Pos}{e:Expr}{ta:TA}(hg:Gl X "enumerate")(hm:X.mg "enumerate" = eN)(ha:PA X [e] ta)(hs:ß [e] X.env=[(eQ,eval e X.env)]:=by rfl) :
  PI X (.Tuple es kk tp) (.Call (.Name "enumerate" p) [e] [] î) (IF X.K ta):=by
 intro Â s σ H R I h;refine Call_ (Xp (u:=.type "enumerate") I hg hm (by kernel_rfl)<|PyProof.Rows.callWith_type1 (T:="enumerate") (thn (ha î Â s σ H _ I h) λus s1 ⟨vs,H1,I1,r1,q1⟩=>?_) hs rfl);let⟨a,e1,⟨xs,hq⟩,q⟩:=q1;subst e1;let⟨u,rfl,ru⟩:=Yo r1;cases ru;let⟨õ,rv,pl,hz⟩:=I1.tuple hq;refine Ue pl λh2 he2 hi2 hk2=>?_;have I2:Inv X Â σ H1 {s1 with heap:=h2}:=I1.kept (t':=s1.toks) hk2;refine wpAny_pyIter_enum he2 ⟨s1.heap.objs.size+1,[s1.heap.objs.size+1,s1.heap.objs.size],_,_,H1,rfl,I2,UF a s1.heap.objs.size (s1.heap.objs.size+1)<|Ų<|ē _,⟨⟨_,he2⟩,hi2⟩,λb hb=>?_,q⟩;have aP:s1.heap.objs.size<=b:=by
  rcases Æ.mp hb with z|z
  .rw[z];exact ő _
  .have z:b=s1.heap.objs.size:=⇑z
   rw[z];exact Ó _
 exact I1.fpOk aP<|I1.hok.fresh aP
end
end L2
namespace L2
open PySem PySem.Spec PyProof.Rows
open PySem.Builtin PySem.Builtin.Str
noncomputable abbrev TJ:=St->Hp->Str->(Str->Hp->Prop)->Prop
abbrev PJ(X:Cx)(vs:List Expr)(t:TJ):Prop :=
 ∀(Â:List<|Ï×Obj) (s:Ç) (σ:St) (H:Hp) (į:Str) (Q:Str->Hp->Prop),Inv X Â σ H s->t σ H į Q->
  Joins (à X.prog X.w) X.A X.xe (cB vs X.env) į (λout s1=>∃H1,Inv X Â σ H1 s1/\out.length<=Ý/\Q out H1) s
abbrev R8:TJ:=λ_ H į Q=>į.length<=Ý/\Q į H
abbrev RJ(te:TE)(tr:TJ):TJ:=λσ H į Q=>te σ H λx H1=>∃y,x=.str y/\(į++y).length<=Ý/\tr σ H1 (į++y) Q
section
variable {X:Cx}{e:Expr}{es:List Expr}{te:TE}{tr:TJ}{î:Pos}
def pj_nil:PJ X [] R8:=λÂ s σ H į Q I h=>⟨H,I,h.1,h.2⟩
def Fw(he:PE X e te)(hr:PJ X es tr)(hs:cB (e::es) X.env=eval e X.env::cB es X.env:=by rfl):PJ X (e::es)<|RJ te tr:=by intro Â s σ H į Q I h;rw[hs];show wpAny _ _ _ _ _ _;refine thn (he Â s σ H _ I h) λv s1 ⟨x,H1,I1,r1,y,e1,hz,q1⟩=>?_;subst e1;let⟨t,rfl⟩:=r1;exact⟨y,t,rfl,hz,hr Â s1 σ H1 (į++y) Q I1 q1⟩
def Joins.imp{M:Model}{A:ĉ}{E:Ã->Ç->Prop}:∀{ps:List (Sem Ã)}{į:Str}{Q Q':Str->Ç->Prop}{s:Ç},(∀o s,Q o s->Q' o s)->Joins M A E ps į Q s->Joins M A E ps į Q' s
 |[],_,_,_,_,f,h=>f _ _ h
 |_::_,_,_,_,_,f,h=>thn h λv s1 ⟨y,t,e,hz,hr⟩=>⟨y,t,e,hz,Joins.imp f hr⟩
end
def cut_one{c:Nat}:∀{a b A B:List Nat},c∉a->c∉b->a++c::A=b++c::B->a=b/\A=B
 |[],[],_,_,_,_,h=>⟨rfl,(ϟ h).2⟩
 |[],y::b,_,_,_,hb,h=>gB (ϟ h).1 (λe=>hb<|by rw[e];exact æ)
 |x::a,[],_,_,ha,_,h=>gB (ϟ h).1 (λe=>ha<|by rw[<-e];exact æ)
 |x::a,y::b,A,B,ha,hb,h=>by let⟨e1,e2⟩:=ϟ h;let⟨e3,e4⟩:=cut_one (λz=>ha<|Ú _ z) (λz=>hb<|Ú _ z) e2;exact⟨by rw[e1,e3],e4⟩
abbrev wT:Str:="tie"
structure fm(bs:List Int)(ts:List Tie):Prop where
 br:BrOk bs
 ti:TsOk bs ts
 so:sortI bs=bs
 lo:ts.map loT=ts
end L2
namespace L2
open PySem PySem.Spec PyProof.Rows
variable {P:ç} {w:þ} {H:Hp} {h:Ĉ} {a:Ï}
def fb.obj{o:HO}(x:fb P w H h a o):∃u,h.get? a=eM u:=by
 cases o with
 |lst xs=>let⟨_,_,_,_,e⟩:=x;exact⟨_,e⟩
 |tup xs=>let⟨_,_,_,ob,e,_⟩:=x;exact⟨_,e⟩
 |dK kvs=>let⟨_,_,_,_,o,_,_,e,_⟩:=x;exact⟨_,e⟩
 |dT kvs=>let⟨_,_,_,_,o,_,_,e,_⟩:=x;exact⟨_,e⟩
 |set S n=>let⟨o,_,_,_,e,_⟩:=x;exact⟨_,e⟩
 |ins C dx fs=>let⟨_,_,_,e,_⟩:=x;exact⟨_,e⟩
 |own y=>exact x
 |xd fs=>let⟨_,⟨_,_,_,e,_⟩,_⟩:=x;exact⟨_,e⟩
 |rng lo hi=>let⟨_,_,_,e⟩:=x;exact⟨_,e⟩
 |frz ob u=>exact⟨_,x.1⟩
 |tbl ps=>exact⟨_,(show h.get? a=eM _ from x)⟩
 |met f y=>exact⟨_,(show h.get? a=eM _ from x)⟩
 |ext φ=>exact x.2.1
abbrev Ge(h:Ĉ)(a:Ï)(cls:Ã)(T:Option Ï):Prop :=
 ∃oe vs a0,h.get? a=eM oe/\oe.cls=cls/\oe.data=.fields vs/\vs[0]?=eM a0/\
  match T with
  |none=>vs[1]?=eM .none
  |some T=>vs[1]?=eM (.ref T)/\T≠a/\∃oT ts fl,h.get? T=eM oT/\oT.data=.fields ts/\ts[3]?=eM fl
structure Fl(P:ç)(w:þ)(l:List Env)(H:Hp)(s:Ç)(H':Hp)(a:Ï)(cls:Ã)(s':Ç):Prop where
 os:s'.os=s.os
 bare:ϒ s'.gens
 un:Un (frs l) [] H H' s.heap s'.heap
 hok:HOk P w H' s'.heap
 na:s.heap.get? a=eN
 ha:H' a=eN
 ex:∃T,Ge s'.heap a cls T/\∀t,T=eM t->s.heap.get? t=eN/\H' t=eN
abbrev CX1(P:ç)(w:þ):CXT:=λl H s E e s'=>∃a cls H',e=.ref a/\Fl P w l H s H' a cls s'/\E cls eN H'
abbrev XW(X:Cx)(E:XK):Prop:=∀(Â:List<|Ï×Obj) (σ:St) (H:Hp) (s:Ç) (H':Hp) (a:Ï) (cls:Ã) (s':Ç),
 Inv X Â σ H s->Fl X.prog X.w X.stack H s H' a cls s'->E cls eN H'->X.xe (.ref a) s'
def XW.passes{X:Cx}{E:XK}(h:XW X E):Xd (CX1 X.prog X.w) X E:=λÂ σ H s e s' I ⟨a,cls,H',z,f,q⟩=>by subst z;exact h Â σ H s H' a cls s' I f q
section
variable {M:Model}{A:ĉ}{E:Ã->Ç->Prop}{s:Ç}{B:Ĉ}{env:Env}{outer:List Env}{L a:Ï}{cls:Ã}{T:Option Ï}{Q:Unit->Ç->Prop}
abbrev Xi(h:Ĉ)(l:List Env)(a:Ï)(T:Option Ï):Ĉ:=PySem.W.hideAll h<|a::(T.toList++frs l)
def Xh(h:Ĉ)(l:List Env)(a:Ï)(T:Option Ï):(Xi h l a T).StaysIn h:=λb o e=>PySem.W.of_hideAll _ e
def Kq{l:List Env}(a:Ï)(T:Option Ï)(hl:h.FunFrames B l):h.FunFrames (Xi h l a T) l :=
 PySem.W.funFrames_hide hl λe he b hb=>Ú _<|Ê _<|Ź.mpr ⟨e,he,hb⟩
def Az(h:Ĉ)(l:List Env)(a:Ï)(T:Option Ï):(Xi h l a T).get? a=eN:=PySem.W.hideAll_none _ æ
def AD(h:Ĉ)(l:List Env)(a t:Ï):(Xi h l a<|eM t).get? t=eN:=PySem.W.hideAll_none _ (Ú _<|Þ _<|by simp)
def A7(bV:A.frames=eM (env::outer))(hf:env.frame=eM L)(hl:s.heap.FunFrames B<|env::outer)(hx:Ge s.heap a cls T)
  (fin:∀h' a0,Heap.NotedW (Xi s.heap (env::outer) a T) (env::outer) a cls a0 (ĩ L) s.heap h'->Q () {s with heap:=h'}):wpAny M A (bB (.ref a) env) Q E s:=by
 let⟨oe,vs,a0,he,hc,hd,h0,ht⟩:=hx;have fin:=λh'=>fin h' a0;cases T with
 |none =>subst hc;unfold bB;simp only[hf];refine Á<|ŕ he hd ht ?_;rw[gx<|by decide];exact wpAny_entryW bV (Kq a eN hl) hf he (Xh _ _ _ _) (Az _ _ _ _) hd (ľ.mp ht).1 h0 fin
 |some t =>
  let⟨h1,ű,oT,ts,fl,e1,e2,e3⟩:=ht;by_cases c:fl=ĩ L
  .subst c;have tr:s.heap.TracedAtW (Xi s.heap (env::outer) a<|eM t) a cls a0<|ĩ L:=⟨oe,vs,t,oT,ts,he,⟨hc,h0⟩,hd,h1,AD _ _ _ _,ű,e1,e2,e3⟩
   exact wpAny_noteFrame_againW hf tr<|fin _ ⟨Xh _ _ _ _,Kq a (eM t) hl,tr,λb o e nf=>⟨o.slots,e⟩⟩
  .subst hc;unfold bB;simp only[hf];refine Á<|ŕ he hd h1 ?_;rw[gw<|by simp];refine Á<|ŕ e1 e2 e3 ?_;rw[gx<|by simpa using c];refine Á<|Ō e1 e2 (ľ.mp e3).1 ?_;have off:∀b,b≠t->(s.heap.update t (ϋ (·.setIfInBounds 3 Value.none))).get? b=s.heap.get? b:=λb hb=>ð _ _ hb.symm;have nr:∀b o,s.heap.get? b=eM o->(∀vs,o.data≠.fields vs)->b≠t:=λb o hb nf z=>by
    rw[z,e1]at hb;cases hb;exact nf ts e2
   have bn:=AD s.heap (env::outer) a t;exact wpAny_entryW bV ((Kq a (eM t) hl).of_keeps λb o hb nf=>⟨o,(off b<|nr b o hb nf).trans hb,rfl⟩) hf ((off a ű.symm).trans he) (λb o hbo=>(off b λz=>by rw[z,bn]at hbo;cases hbo).trans<|Xh _ _ _ _ b o hbo) (Az _ _ _ _) hd (ľ.mp h1).1 h0 λh' ⟨x1,x2,x3,x4⟩=>fin h' ⟨x1,x2,x3,λb o hb nf=>x4 b o ((off b<|nr b o hb nf).trans hb) nf⟩
def AW(bV:A.frames=eM (env::outer))(hf:env.frame=eM L)(hl:s.heap.FunFrames B<|env::outer)(hx:Ge s.heap a cls T)
  (h:∀h' a0,dI (Xi s.heap (env::outer) a T) (env::outer) a cls a0 s.heap h'->Q () {s with heap:=h'}):wpAny M A (bB (.ref a) env) (λ_ s2=>wpAny M A (setFlight (.ref a) eN) Q E s2) E s :=
 A7 bV hf hl hx λh' a0 ⟨k1,k2,k3,k4⟩=>wpAny_setFlight_noneW k1 k2 k3 λh2 j1 j2 j3 j4=>h h2 a0 ⟨j1,j2,j3,λb o e nf=>by
   let⟨sl,e2⟩:=k4 b o e nf
   exact⟨sl,j4 b _ e2 nf⟩⟩
def UE(bV:A.frames=eM (env::outer))(hf:env.frame=eM L)(hl:s.heap.FunFrames B<|env::outer)(hx:Ge s.heap a cls T)
  (h:∀h' a0,dI (Xi s.heap (env::outer) a T) (env::outer) a cls a0 s.heap h'->Q () {s with heap:=h'}):wpAny M A (leaving env<|.ref a) Q E s:=Á<|AW bV hf hl hx h
end
variable {l:List Env} {H':Hp} {s:Ç} {s':Ç} {cls:Ã} {a0:Ã} {h':Ĉ} {B:Ĉ} {T:Option Ï}
def Fl.noted{fl:Ã}(f:Fl P w l H s H' a cls s')(hT:∀t,T=eM t->s.heap.get? t=eN/\H' t=eN)
  (hl:s'.heap.FunFrames B l) (bV:∀b∈frs l,H' b=eN) (z:Heap.NotedW (Xi s'.heap l a T) l a cls a0 fl s'.heap h'):Fl P w l H s H' a cls {s' with heap:=h'}:=by
 let⟨k1,k2,k3,k4⟩:=z;have inb:∀b o,s'.heap.get? b=eM o->b≠a->(∀t,T=eM t->b≠t)->b∉frs l->h'.get? b=eM o:=λb o e na nt nf=>k1 b o (PySem.W.hideAll_get _ e (by
   intro m
   rcases Æ.mp m with m|m
   . exact na m
   . rcases â.mp m with m|m
     . cases T with
       |none=>cases m
       |some t=>exact nt t rfl ⇑m
     . exact nf m))
 have slot:∀b o,s'.heap.get? b=eM o->b∈frs l->∃sl,h'.get? b=eM {o with slots:=sl}:=λb o e hb=>by let⟨_,o2,e2,nf⟩:=hl.mem hb;rw[e]at e2;cases e2;exact k4 b o e nf
 have ϵ:∀b o,s.heap.get? b=eM o->b≠a/\∀t,T=eM t->b≠t:=λb o e=>⟨(λz=>by rw[z,f.na]at e;cases e),(λt ht z=>by rw[z,(hT t ht).1]at e;cases e)⟩
 refine⟨f.os,f.bare,⟨λb o e n nf _=>?_,λb o e n hb _=>?_,f.un.free,λb o e _=>?_,f.un.tups,f.un.frzs,f.un.tbls⟩,?_,f.na,f.ha,?_⟩
 .exact inb b o (f.un.keep b o e n nf<|by simp) (ϵ b o e).1 (ϵ b o e).2 nf
 .obtain⟨sl,e1⟩:=f.un.slot b o e n hb (by simp);let⟨sl',e2⟩:=slot b _ e1 hb;exact⟨sl',e2⟩
 .obtain⟨o1,e1⟩:=f.un.there b o e (by simp);by_cases hb:b∈frs l
  .obtain⟨sl,e2⟩:=slot b _ e1 hb;exact⟨_,e2⟩
  .exact⟨o1,inb b o1 e1 (ϵ b o e).1 (ϵ b o e).2 hb⟩
 .intro b u e;have good:∀c v,H' c=eM v->∀ob,s'.heap.get? c=eM ob->h'.get? c=eM ob:=λc v ec ob eo =>
   inb c ob eo (λz=>by rw[z,f.ha]at ec;cases ec) (λt ht z=>by rw[z,(hT t ht).2]at ec;cases ec) λm=>by rw[bV c m]at ec;cases ec
  refine(f.hok b u e).stay (λc v hc q=>?_) (λ_ q=>q) λ_ _ q=>q;rcases hc with z|z
  .rw[z]at q ⊢;exact good b u e v q
  .exact good c _ z v q
 .obtain⟨oe,vs,t',oT,ts,e1,⟨e2,e3⟩,e4,e5,e6,e7,e8,e9,e10⟩:=k3;refine⟨eM t',⟨oe,vs,a0,e1,e2,e4,e3,e5,e7,oT,ts,fl,e8,e9,e10⟩,λt ht=>?_⟩;cases ht;have hid:∀o,s'.heap.get? t'=eM o->T=eM t':=λo e=>by
   have nin:¬ (t'∉(a::(T.toList++frs l))):=λm=>by have q:(Xi s'.heap l a T).get? t'=eM o:=PySem.W.hideAll_get _ e m;rw[e6]at q;cases q
   have m:=Classical.not_not.mp nin;rcases Æ.mp m with m|m
   .exact gB m e7
   .rcases â.mp m with m|m
    .cases T with
     |none=>cases m
     |some t=>rw[show t'=t by simpa using m]
    .obtain⟨_,o2,q,nf⟩:=k2.mem m;rw[e8]at q;cases q;exact gB e9<|nf ts
  constructor
  .cases q:s.heap.get? t' with
   |none=>rfl
   |some o =>let⟨o1,q1⟩:=f.un.there t' o q (by simp);have:=(hT t'<|hid o1 q1).1;rw[q]at this;cases this
  .cases q:H' t' with
   |none=>rfl
   |some u =>let⟨o1,q1⟩:=(f.hok t' u q).obj;have:=(hT t'<|hid o1 q1).2;rw[q]at this;cases this
def Fl.left(f:Fl P w l H s H' a cls s')(hT:∀t,T=eM t->s.heap.get? t=eN/\H' t=eN)
  (hl:s'.heap.FunFrames B l) (bV:∀b∈frs l,H' b=eN) (z:dI (Xi s'.heap l a T) l a cls a0 s'.heap h'):Fl P w l H s H' a cls {s' with heap:=h'}:=f.noted (fl:=.none) hT hl bV z
section
variable {P:ç}{w:þ}{K:Frag}{mg:Str->Option Ã}{base:Ĉ}
variable {X:Cx} {H:Hp} {s:Ç}
def Inv.raised{Â:List (Ï×Obj)}{σ:St}{H':Hp}{s':Ç}{a:Ï}{cls:Ã}(I:Inv X Â σ H s)(f:Fl X.prog X.w X.stack H s H' a cls s'):Inv X Â σ H' s' :=
 I.call' (ch:=[]) f.os f.un f.hok f.bare (λb z=>gB z<|by simp)
def Ur(ok:X.Ok)(h:X.stack=X.env::X.outer):X.env.frame=eM X.env.locals:=by
 rcases ok.stk with e|e
 .rw[h]at e;exact gB (congrArg List.length e) (by simp)
 .exact e.2
variable {N:List Str} {qual:Str} {f:Ï}
def LU{scope:Γ}{cd:Ã}{A:ĉ}{outer:List Env}{E:XK}:XW (MW (CX1 P w) P w K mg base N qual scope f cd A outer s H E) E:=by
 intro Â σ H2 s2 H' a cls s' I f q;have J:=I.raised f;let⟨T,hx,hT⟩:=f.ex;show wpAny _ _ (leaving _ _) _ _ _;refine UE (outer:=outer) J.ok.frames (Ur J.ok rfl) J.stack hx λh' a0 z=>?_;have f2:=f.left hT J.stack J.stkFree z;have J2:=I.raised f2;have Ϻ:∀b,s2.heap.get? b=eN->s.heap.get? b=eN:=λb e=>by
  cases z:s.heap.get? b with
  |none=>rfl
  |some o =>let⟨o',e'⟩:=I.base.there b o z (by intro m;cases m);rw[e]at e';cases e'
 let⟨T2,hx2,hT2⟩:=f2.ex;exact⟨a,cls,H',rfl,⟨J2.os,J2.bare,J2.base,J2.hok,Ϻ a f2.na,f2.ha,T2,hx2,λt ht=>⟨Ϻ t (hT2 t ht).1,(hT2 t ht).2⟩⟩,q⟩
def Fun.ok1{x:Str}{st:ň}{fd:Ŕ}{ps:List Str}{k:Nat}{sp:Sp}(F:Fun K x qual st f fd)(S:FnScope N ps<|Zw st)(len:∀vs H Q E,sp vs H Q E->vs.length=ps.length)
  (hbody:∀(ϱ:Ã) (A:ĉ) (outer:List Env) (s:Ç) (H:Hp) (vs:List V) (Q:VK) (E:XK),fy k (A.deeper<|aH qual (Zw st) s.heap.objs.size f ϱ)->sp vs H Q E->
    XW (MW (CX1 P w) P w K mg base N qual (Zw st) f ϱ A outer s H E) E->
    ∃t,PSs (MW (CX1 P w) P w K mg base N qual (Zw st) f ϱ A outer s H E) (ZX st) t/\t { nx:=λ_ H'=>Q .non H',rt:=Q } (start N vs) H):fz P w K mg base (CX1 P w) (k+1) f fd ps sp:=by
 let⟨oc,od,kV,doc,pm,an,ϱ,ct,osl,rfl,lk,bp⟩:=F.ex;exact Qd lk bp S len λA outer s H vs Q E hr hsp=>hbody ϱ A outer s H vs Q E hr hsp LU
end
abbrev XP(X:Cx)(Â:List<|Ï×Obj)(σ:St)(E:XK)(v:Ã)(s':Ç):Prop :=
 ∃a cls H1 H' s1,v=.ref a/\Inv X Â σ H1 s1/\Fl X.prog X.w X.stack H1 s1 H' a cls s'/\E cls eN H'
abbrev xcO(a:Ï)(cls:Ã):HO:=.ext λh=>∃o vs,h.get? a=eM o/\o.cls=cls/\o.data=.fields vs
end L2
namespace L2
open PySem PySem.Spec PySem.W PySem.Calls PyProof.Rows PySem.Builtin PySem.Builtin.ObjectAttr PySem.Builtin.Getset_descriptor
section
variable {prog:ç}{w:þ}{A:ĉ}{E:Ã->Ç->Prop}{K:Frag}{h:Ĉ}{g:Array cu}{d:Drawn}{t:Nat}{os:OsState}{a C:Ï}{o:Obj}
structure XCls(K:Frag)(C:Ï):Prop where
 ga:ak K (.ref C) "__getattribute__" = eM (eM<|.builtin "BaseException.__getattribute__")
 gr:ak K (.ref C) "__getattr__" = eM eN
 cl:ak K (.ref C) "__class__" = eM (eM<|.builtin "object.__class__")
 mo:mroIn K C (.type "object")=eM eP
 mb:mroIn K C (.type "BaseException")=eM eP
 ci:(clsIn K C).isSome=eP
end
end L2
namespace L2
open PySem PySem.Spec PyProof.Rows
section
variable {X:Cx}
def KI:eZ X (.type "int") λxs H Q=>∃z n,xs=[.str z]/\PySem.intText? z=eM n/\z.length<=640/\Q (.int n) H:=by intro Â s σ H xs us Q I r h;let⟨z,n,rfl,e,hl,q⟩:=h;let⟨u,rfl,t,rfl⟩:=Yo r;exact PySem.W.KIN.call_text e hl ⟨.int n,H,I.tok _,⟨_,rfl⟩,q⟩
end
end L2
namespace L2
open PySem PySem.Spec PyProof.Rows
open PySem.Builtin PySem.Builtin.Str
abbrev Bw(z:Str)(lo hi:Option Int):Str:=if(Ρ lo hi 1 z.length).length=z.length then z else⟨((Ρ lo hi 1 z.length).filterMap (z.cps[·]?)).toArray⟩
def D0(z:Str)(lo hi:Option Int):(Bw z lo hi).length<=z.length:=by
 unfold Bw;split
 .exact Ó _
 .show((Ρ lo hi 1 z.length).filterMap (z.cps[·]?)).toArray.size<=_;rw[Ð];exact Õ (bM _ _)<|indices_len_le lo hi z.length
section
variable {X:Cx}
abbrev Re:V->Option Int->Option Int->Hp->VK->Prop:=λx lo hi H Q=>∃z,x=.str z/\z.length<=Ý/\Q (.str<|Bw z lo hi) H
def Au{v:Ã}{lo:Option Int}(h:ϩ v lo):∃l:Option<|Int×Tok,v=partValue l/\l.map (·.1)=lo:=by
 cases h with
 |none=>exact⟨eN,rfl,rfl⟩
 |int i t=>exact⟨eM (i,t),rfl,rfl⟩
def sl_str:SlR X Re:=by
 intro Â s σ H x v vl vu lo hi sl Q I rx hs pl pu h;let⟨z,rfl,hz,q⟩:=h;let⟨t,rfl⟩:=rx;refine⟨"str",_,slot_str_getitem.lookup,typeIs_str s z t,?_⟩;let⟨l,rfl,el⟩:=Au pl;let⟨u,rfl,eu⟩:=Au pu;have hs':s.heap.IsSlice sl l u eN:=hs;refine wpAny_getItem_str_slice hs' rfl ?_;have e:sliceMade z t l u eN=if(Ρ lo hi 1 z.length).length=z.length then .val (.str z t)else .str ⟨((Ρ lo hi 1 z.length).filterMap (z.cps[·]?)).toArray⟩:=by unfold sliceMade slicePicked;rw[el,eu];simp
 rw[e];have cl:=D0 z lo hi;unfold Bw at q cl;split
 .rename_i hh;rw[gw hh]at q;exact⟨.str z,H,I,⟨t,rfl⟩,q⟩
 .rename_i hh;rw[gx hh]at q cl;exact⟨Õ cl hz,.str _,H,I.tok _,⟨_,rfl⟩,q⟩
end
section
variable {X:Cx}
def Ae(z:Str):∀(n:Nat) (a:Array Nat),((Ñ n z.cps).foldl (· ++ ·) a).size=a.size+n*z.cps.size
 |0,a=>by simp
 |n+1,a=>by rw[Ą,ŋ,Ae z n,Array.size_append,Nat.succ_mul];lia
end
end L2
namespace L2
open PySem PySem.Spec PyProof.Rows
section
variable {X:Cx}(K:Frag) (h:X.K=K)
include h
end
end L2
namespace HT
open PySem PyProof.Rows
open PySem.SeqAt
open PySem.AutoSeq1 (wpAny_loadPart')
open PySem.MeetsSeq PySem.MeetsSeq2 PySem.MeetsSeq3
section
variable {prog:ç}{w:þ}{A:ĉ}{E:Ã->Ç->Prop}{s:Ç}
def getItem_tuple_whole{t sl:Ï}{items:Array Ã}{vl vu:Ã}{lo hi:Option Int}{Q:Ã->Ç->Prop}(ht:aY s.heap t items)(hs:s.heap.IsSliceOf sl vl vu .none)(pl:ϩ vl lo)(pu:ϩ vu hi)
  (hw:sIx items.size 0 lo=0/\sIx items.size items.size hi=items.size)
  (h:Q (.ref t) s):wpAny (à prog w) A (Ϩ (.ref t)<|.ref sl) Q E s:=by
 let⟨os,hos,hcs,hds⟩:=id hs;have hTs:s.TypeIs (.ref sl) "slice":=⟨os,hos,hcs⟩
 unfold Ϩ
 try with_reducible refine Ĝ ?_
 first|refine Á (È ?_)|skip
 refine Á (wpAny_sequenceKey ht.typeIs (by decide) ?_);refine Á (ĺ (name:=gD "__getitem__") ht.typeIs PyProof.Rows.slot_tuple_getitem
   (Ģ PyProof.Rows.slot_tuple_getitem ht.typeIs entry_tuple_getitem ?_<|args_tuple_getitem _ _))
 show wpAny _ _ (Builtin.Tuple.tupleItemsOf (.ref t) >>= _) _ _ s;refine Á<|tupleItemsOf_ ht ?_;refine Á<|Ϫ hTs ?_;rw[gw<|by decide];refine Á<|YF hs pl pu ?_;have hyes:(((sIx items.size 0 lo:Nat):Int)==0&&(1:Int)==1&&(sIx items.size items.size hi - sIx items.size 0 lo)==items.size)=eP:=by rw[hw.1,hw.2];simp
 show wpAny _ _ (if(((sIx items.size 0 lo:Nat):Int)==0&&(1:Int)==1&&(sIx items.size items.size hi - sIx items.size 0 lo)==items.size)=eP then _ else _) _ _ s;rw[gw hyes];refine Á ?_;unfold Builtin.Tuple.tupleIsExact;refine Á<|Ϫ ht.typeIs<|È ?_;rw[gw<|by decide]
 first
  |exact Á<|È<|È ⟨_,rfl,È h⟩
  |exact Á<|ϭ<|È ⟨_,rfl,È h⟩
  |exact È ⟨_,rfl,È h⟩
end
end HT
namespace L2
open PySem PySem.Spec PyProof.Rows
section
variable {X:Cx}
abbrev Rv(K:Frag):V->Option Int->Option Int->Hp->VK->Prop:=λx lo hi H Q=>∃a xs,x=.ref a/\gf K H a xs/\(HT.sIx xs.length 0 lo=0/\HT.sIx xs.length xs.length hi=xs.length)/\Q (.ref a) H
def GZ:SlR X<|Rv X.K:=by
 intro Â s σ H x v vl vu lo hi sl Q I rx hs pl pu h;let⟨a,xs,rfl,hx,hw,q⟩:=h;cases rx;let⟨õ,r,ht,hz⟩:=I.tuple hx;have hlen:õ.toArray.size=xs.length:=by rw[Ð];exact r.length.symm
 refine⟨"tuple",_,PyProof.Rows.slot_tuple_getitem.lookup,ht.typeIs,?_⟩;exact HT.getItem_tuple_whole ht hs pl pu (by rw[hlen];exact hw) ⟨.ref a,H,I,rfl,q⟩
end
end L2
namespace L2
open PySem PySem.Spec PyProof.Rows
open PySem.Builtin PySem.Builtin.Str
section
variable {X:Cx}
abbrev L5(z:Str)(n:Nat):Str:=⟨(Ñ n z.cps).foldl (· ++ ·) #[]⟩
def MB(z:Array Nat):∀(n:Nat) (a:Array Nat),((Ñ n z).foldl (· ++ ·) a).toList=a.toList++(Ñ n z.toList).flatten
 |0,a=>by simp
 |n+1,a=>by rw[Ą,ŋ,MB z n,Ą,ķ,Array.toList_append,ĸ]
abbrev HZ:R2:=λx y H Q=>∃z k,x=.str z/\y=.int k/\2<=k/\k<=1000000/\1<=z.length/\z.length*k.toNat<=1000000/\Q (.str<|L5 z k.toNat) H
def Hl:OpR X (œ .Mult) HZ:=by
 intro Â s σ H x y v u Q I rx ry h;let⟨z,k,rfl,rfl,h2,h6,h1,hz,q⟩:=h;let⟨t,rfl⟩:=rx;let⟨t',rfl⟩:=ry;have big:(1000000:Nat)<=Ý:=by decide
 have nb:(k==1||z.length==0)=eQ:=by have e1:(k==1)=eQ:=beq_false_of_ne (by lia);have e2:(z.length==0)=eQ:=beq_false_of_ne (by lia);rw[e1,e2];rfl
 have zl:z.length<=1000000:=by have:z.length*1<=z.length*k.toNat:=dJ _ (by lia);lia
 have hr:(gC (k < -(2 ^ 63:Int))||gC (k≥2 ^ 63))=eQ:=by rw[gy (by lia),gy<|by lia];rfl
 have hb:¬ k<1->(k==1||z.length==0)=eQ->¬ ((z.length:Int) > (2 ^ 63 - 1) / k):=λ_ _=>by have:(1000000:Int)<=(2 ^ 63 - 1) / k:=(Int.le_ediv_iff_mul_le<|by lia).mpr (by lia);lia
 have hl:¬ k<1->(k==1||z.length==0)=eQ->tooLong (z.length*k.toNat)=eQ:=λ_ _=>by unfold tooLong;exact gy (by lia)
 refine P.mul_str hr hb hl ?_;rw[gx (by lia),gx<|by rw[nb];exact ö];have el:(⟨(Ñ k.toNat z.cps).foldl (· ++ ·) #[]⟩:Str).length=z.length*k.toNat:=by show((Ñ k.toNat z.cps).foldl (· ++ ·) #[]).size=_;rw[Ae,aC z.length];simp[Str.length]
 exact⟨by rw[el];lia,.str _,H,I.tok _,⟨_,rfl⟩,q⟩
variable {c y z a b:Str}{k1 k2 k3:Nat}{p1 p2 p3 p4 pa pb Ŗ ś:Pos}
end
end L2
namespace L2
open PySem PySem.Spec PyProof.Rows
section
variable {X:Cx}
abbrev Hv(K:Frag):R2:=λx y H Q=>∃a b ys,x=.ref a/\y=.ref b/\gf K H a []/\gf K H b ys/\Q (.ref b) H
def op_cat0:OpR X (œ .Add)<|Hv X.K:=by
 intro Â s σ H x y v u Q I rx ry h;let⟨a,b,ys,rfl,rfl,ha,hb,q⟩:=h;cases rx;cases ry;let⟨õ,r1,p1,_⟩:=I.tuple ha;let⟨Ϲ,r2,p2,_⟩:=I.tuple hb;cases r1;let⟨⟨cls,dd,data,sl⟩,ho,hc,n,hd⟩:=id p1;let⟨⟨cls2,cZ,data2,dQ⟩,ho2,hc2,n2,bT⟩:=id p2;simp only at hc hd hc2 bT;subst hc hd hc2 bT;exact d7 ⟨_,ho,rfl⟩ ⟨_,ho2,rfl⟩ bA di PySem.F.slot_tuple_add PySem.F.entry_tuple_add (PySem.F.args_tuple_add_2 _ _)
  (tuple_addW0 a b _ _ n n2 dd cZ sl dQ rfl) ⟨ho,ho2,.ref b,H,I,rfl,q⟩
end
section
variable {X:Cx}
abbrev P8(te:TE):TE:=λσ H Q=>te σ H λx H1=>(∃i,x=.int i/\i.natAbs.log2<1920/\Q (.str<|toString i) H1)\/∃z,x=.str z/\z.length<=Ý/\Q (.str z) H1
def Fv{e:Expr}{te:TE}{î:Pos}(he:PE X e te):PE X (.FormattedValue e (-1) eN î)<|P8 te:=by
 intro Â s σ H Q I h;refine wpAny_FormattedValue_plain<|thn (he Â s σ H _ I h) λv s1 ⟨x,H1,I1,r1,q1⟩=>?_;rcases q1 with⟨i,e1,hd,q1⟩|⟨z,e1,hz,q1⟩
 .subst e1;let⟨t,rfl⟩:=r1;exact wpAny_formatField_int hd ⟨.str _,H1,I1.tok _,⟨_,rfl⟩,q1⟩
 .subst e1;let⟨t,rfl⟩:=r1;exact wpAny_formatField_str ⟨.str _,H1,I1,⟨_,rfl⟩,q1⟩ ⟨.str _,H1,I1.tok _,⟨_,rfl⟩,q1⟩ hz
abbrev Fa(K:Frag)(neg:Bool):R2:=λx y H Q=>∃ds d,(IsD K H y (.tuple ds)\/IsD K H y (.list ds))/\IsD K H x d/\Ţ ds=eP/\d.canLay0=eP/\d.depth<=64/\Q (.bl<|if neg then !ds.any (λe=>ī e d)else ds.any λe=>ī e d) H
def LJ(hu:X.A.units+65<Ķ):OpR X (ï .In)<|Fa X.K eQ:=by
 intro Â s σ H x y v u Q I rx ry h;let⟨ds,d,hd,he,sd,se,hdp,q⟩:=h;let⟨bs,rb⟩:=he.reads I rx;have hr:X.A.units+1+min (ŉ ds) d.depth<Ķ:=by have:min (ŉ ds) d.depth<=d.depth:=aI _ _;lia
 rcases hd with hd|hd
 .obtain⟨as,ra⟩:=hd.reads I ry;exact SeqAt.in_tuple_reads ra rb sd se hr ⟨.bl _,H,I,rfl,q⟩
 .obtain⟨as,ra⟩:=hd.reads I ry;exact SeqAt.in_list_reads ra rb sd se hr ⟨.bl _,H,I,rfl,q⟩
def BC(hu:X.A.units+65<Ķ):OpR X (ï .NotIn)<|Fa X.K eP:=by
 intro Â s σ H x y v u Q I rx ry h;let⟨ds,d,hd,he,sd,se,hdp,q⟩:=h;let⟨bs,rb⟩:=he.reads I rx;have hr:X.A.units+1+min (ŉ ds) d.depth<Ķ:=by have:min (ŉ ds) d.depth<=d.depth:=aI _ _;lia
 rcases hd with hd|hd
 .obtain⟨as,ra⟩:=hd.reads I ry;exact SeqAt.notIn_tuple_reads ra rb sd se hr ⟨.bl _,H,I,rfl,q⟩
 .obtain⟨as,ra⟩:=hd.reads I ry;exact SeqAt.notIn_list_reads ra rb sd se hr ⟨.bl _,H,I,rfl,q⟩
end
section
variable {κ:Type} [DecidableEq κ]
abbrev YD(kvs:List<|κ×V)(k:κ):Option V:=(kvs.find? λkv=>gC (kv.1=k)).map (·.2)
abbrev fv(kvs:List<|κ×V)(k:κ)(v:V):List (κ×V) :=
 if(kvs.any λkv=>gC (kv.1=k))=eP then kvs.map (λkv=>if kv.1=k then(kv.1,v)else kv)else kvs++[(k,v)]
abbrev fw(kvs:List<|κ×V)(k:κ):List<|κ×V:=kvs.filter λkv=>gC (kv.1≠k)
variable {p:κ×V} {r:List (κ×V)}
def Xk{k:κ}(e:p.1=k):YD (p::r) k=eM p.2:=by simp[YD,ę,e]
def Xq{k:κ}(e:¬ p.1=k):YD (p::r) k=YD r k:=by simp[YD,ę,e]
def Y5(k:κ):∀kvs:List<|κ×V,(kvs.any λkv=>gC (kv.1=k))=(YD kvs k).isSome
 |[]=>rfl
 |p::r=>by
  rw[ı];by_cases e:p.1=k
  .simp only[Xk e,gz e,Bool.true_or,cU]
  .rw[Xq e,gy e,Bool.false_or];exact Y5 k r
def Y6(kvs:List<|κ×V)(k:κ)(v:V):(fv kvs k v).length<=kvs.length+1:=by
 unfold fv;split
 .rw[À];lia
 .rw[ã,Ò,Ĩ];lia
variable {o:Option V} {u:Option Ã}
def fx.isSome_eq(r:fx o u):o.isSome=u.isSome:=by
 cases o with
 |none=>cases u with
  |none=>rfl
  |some _=>exact(show False from r).elim
 |some _=>cases u with
  |none=>exact(show False from r).elim
  |some _=>rfl
def fx.getD{d:V}{d':Ã}(r:fx o u)(rd:RelV d d'):RelV (o.getD d)<|u.getD d':=by
 cases o with
 |none=>cases u with
  |none=>exact rd
  |some _=>exact(show False from r).elim
 |some _=>cases u with
  |none=>exact(show False from r).elim
  |some _=>exact r
variable {kvs:List (κ×V)} {vs:List (κ×Ã)}
def KV.val(r:KV kvs vs)(k:κ):fx (YD kvs k)<|Ϯ vs k:=by
 unfold KV at r;induction r with
 |nil=>exact True.intro
 |@cons p q ps qs h t ih =>
  let⟨h1,h2⟩:=h;by_cases e:p.1=k
  .have e':q.1=k:=h1.symm.trans e;have b:Ϯ (q::qs) k=eM q.2:=by simp[Ϯ,ę,e']
   rw[Xk e,b];exact h2
  .have e':¬ q.1=k:=λz=>e<|h1.trans z;have b:Ϯ (q::qs) k=Ϯ qs k:=by simp[Ϯ,ę,e']
   rw[Xq e,b];exact ih
def KV.any(r:KV kvs vs)(k:κ):(kvs.any λkv=>gC (kv.1=k))=vs.any λkv=>gC (kv.1=k):=by
 unfold KV at r;induction r with
 |nil=>rfl
 |cons h t ih=>rw[ı,ı,ih,h.1]
variable {y:V}
def KV.repl(r:KV kvs vs)(k:κ){u:Ã}(ry:RelV y u) :
  KV (kvs.map λkv=>if kv.1=k then(kv.1,y)else kv) (vs.map λkv=>if kv.1=k then(kv.1,u)else kv):=by
 unfold KV at r ⊢;induction r with
 |nil=>exact .nil
 |@cons p q ps qs h t ih =>
  rw[Î,Î];refine .cons ?_ ih;let⟨h1,h2⟩:=h;by_cases e:p.1=k
  .rw[gw e,gw<|h1.symm.trans e];exact⟨h1,ry⟩
  .rw[gx e,gx λz=>e<|h1.trans z];exact⟨h1,h2⟩
def KV.put(r:KV kvs vs)(k:κ){u:Ã}(ry:RelV y u):KV (fv kvs k y)<|stored vs k u:=by
 unfold fv stored;rw[r.any k];by_cases e:(vs.any λkv=>gC (kv.1=k))=eP
 .rw[gw e,gw e];exact r.repl k ry
 .rw[gx e,gx e];exact Paired.snoc r ⟨rfl,ry⟩
def KV.drop(r:KV kvs vs)(k:κ):KV (fw kvs k)<|without vs k:=by
 unfold KV at r ⊢;unfold fw without;induction r with
 |nil=>exact .nil
 |@cons p q ps qs h t ih =>
  let⟨h1,h2⟩:=h;rw[đ,đ];by_cases e:p.1=k
  .have a:¬ gC (p.1≠k)=eP:=by simp[e]
   have b:¬ gC (q.1≠k)=eP:=by simp[h1.symm.trans e]
   rw[gx a,gx b];exact ih
  .have e':¬ q.1=k:=λz=>e<|h1.trans z;have a:gC (p.1≠k)=eP:=by simp[e]
   have b:gC (q.1≠k)=eP:=by simp[e']
   rw[gw a,gw b];exact .cons ⟨h1,h2⟩ ih
def KV.keys(r:KV kvs vs):kvs.map (·.1)=vs.map (·.1):=by
 unfold KV at r;induction r with
 |nil=>rfl
 |cons h t ih=>rw[Î,Î,ih,h.1]
def KV.length(r:KV kvs vs):kvs.length=vs.length:=Paired.length r
def DS(kvs:List<|κ×V)(k:κ):(fw kvs k).length<=kvs.length:=ł _ _
end
variable {P:ç} {w:þ} {u:Ã}
def Ww{k:Key}(r:RelV (kV k) u):(Zj P w).is k u=eP:=by
 cases k with
 |inl i=>let⟨t,e⟩:=(show ∃t,u=Value.int i t from r);subst e;exact NR P w i t
 |inr x=>let⟨t,e⟩:=(show ∃t,u=Value.str x t from r);subst e;exact Oy P w x t
def K9{P:ç}{w:þ}:∀{ks:List Key}{us:List Ã},gg (ks.map kV) us->ItemsAre (Zj P w) ks us
 |[],_,r=>by rw[ϕ]at r;cases r;exact .nil
 |k::ks,_,r=>by
  rw[Î]at r;cases r with
  |cons h t=>exact .cons (Ww h)<|K9 t
@[reducible] noncomputable def KTd(H:Hp):List (List Key×V)->List (List Key×Ï×Ã)->Prop:=Paired λp q=>p.1=q.1/\H q.2.1=eM (.tup<|p.1.map kV)/\RelV p.2 q.2.2
variable {H:Hp} {kvs:List (List Key×V)} {xs:List (List Key×Ï×Ã)}
def KTd.val(r:KTd H kvs xs)(k:List Key):fx (YD kvs k) ((cC xs k).map (·.2)):=by
 induction r with
 |nil=>exact True.intro
 |@cons p q ps qs h t ih =>
  let⟨h1,_,h2⟩:=h;by_cases e:p.1=k
  .have e':q.1=k:=h1.symm.trans e;have b:cC (q::qs) k=eM q.2:=by simp[cC,ę,e']
   rw[Xk e,b];exact h2
  .have e':¬ q.1=k:=λz=>e<|h1.trans z;have b:cC (q::qs) k=cC qs k:=by simp[cC,ę,e']
   rw[Xq e,b];exact ih
variable {y:V}
def KTd.repl(r:KTd H kvs xs)(k:List Key)(ry:RelV y u) :
  KTd H (kvs.map λkv=>if kv.1=k then(kv.1,y)else kv) (xs.map<|putAt k u):=by
 induction r with
 |nil=>exact .nil
 |@cons p q ps qs h t ih =>
  rw[Î,Î];refine .cons ?_ ih;let⟨h1,h2,h3⟩:=h;unfold putAt;by_cases e:p.1=k
  .rw[gw e,gw<|h1.symm.trans e];exact⟨h1,h2,ry⟩
  .rw[gx e,gx λz=>e<|h1.trans z];exact⟨h1,h2,h3⟩
variable {b:Ï}
def KTd.put(r:KTd H kvs xs)(k:List Key)(hb:H b=eM (.tup<|k.map kV))(ry:RelV y u) :
  KTd H (fv kvs k y) (storedH xs k b u):=by
 have e:(kvs.any λkv=>gC (kv.1=k))=(cC xs k).isSome:=by rw[Y5,(r.val k).isSome_eq,ġ]
 unfold fv storedH;rw[e];by_cases q:(cC xs k).isSome=eP
 .rw[gw q,gw q];exact r.repl k ry
 .rw[gx q,gx q];exact Paired.snoc r ⟨rfl,hb,ry⟩
variable {H':Hp}
def KTd.keeps(r:KTd H kvs xs)(ht:∀b ys,H b=eM (.tup ys)->H' b=eM (.tup ys)):KTd H' kvs xs :=
 Paired.mapP r λ_ _ z=>⟨z.1,ht _ _ z.2.1,z.2.2⟩
section
variable {P:ç}{w:þ}{H:Hp}{h:Ĉ}{a:Ï}
def HW{u:HO}(ok:HOk P w H h)(e:Rd H a u):fb P w H h a u:=e.ok ok
def Wn{kvs:List (Key×V)}(ok:HOk P w H h)(e:Rd H a<|.dK kvs):kvs.length<=Ý/\(a==Ŧ)=eQ/\∃vs,KV kvs vs/\h.DictOf (Zj P w) a vs :=
 show fb P w H h a (.dK kvs) from HW ok e
def JT{kvs:List (Key×V)}(ok:HOk P w H h)(e:H a=eM (.dK kvs)):kvs.length<=Ý/\(a==Ŧ)=eQ/\∃vs,KV kvs vs/\h.DictOf (Zj P w) a vs:=Wn ok (.inl e)
def fh{ks:List Key}(ok:HOk P w H h)(e:H a=eM (.tup<|ks.map kV)):(au<|Zj P w).is h ks a:=by
 let⟨_,õ,r,o,h1,h2,n,h3⟩:=(show fb P w H h a (.tup<|ks.map kV) from ok a _ e)
 exact⟨o,õ.toArray,n,h1,h2,h3,by simpa using K9 r⟩
def Kh(ok:HOk P w H h)(e:Rd H a<|.dT kvs):kvs.length<=Ý/\(a==Ŧ)=eQ/\
  ∃xs,KTd H kvs xs/\h.DictOfH (au<|Zj P w) a xs:=by
 let⟨z,y,xs,r,o,es,ep,h1,h2,h3,h4,h5⟩:=(show fb P w H h a (.dT kvs) from HW ok e)
 refine⟨z,y,xs,r,o,es,ep,h1,h2,h3,h4,λx hx=>?_,h5⟩;have all:∀{l:List (List Key×V)}{m:List (List Key×Ï×Ã)},KTd H l m->∀x∈m,(au<|Zj P w).is h x.1 x.2.1:=by
  intro l m q;induction q with
  |nil=>intro x hx;exact nomatch hx
  |@cons p q ps qs hq t ih =>
   intro x hx;rcases Æ.mp hx with e|hx
   .subst e;exact fh ok (by rw[<-hq.1];exact hq.2.1)
   .exact ih x hx
 exact all r x hx
def P9(ok:HOk P w H h)(e:H a=eM (.dT kvs)):kvs.length<=Ý/\(a==Ŧ)=eQ/\
  ∃xs,KTd H kvs xs/\h.DictOfH (au<|Zj P w) a xs:=Kh ok<|.inl e
end
abbrev DGet(H:Hp)(a:Ï)(y:V)(r:Option V):Prop :=
 (∃kvs k,Rd H a (.dK kvs)/\y=kV k/\r=YD kvs k)\/∃kvs k b,Rd H a (.dT kvs)/\y=.ref b/\H b=eM (.tup<|k.map kV)/\r=YD kvs k
abbrev DPut(H:Hp)(a:Ï)(y v:V)(H':Hp):Prop :=
 (∃kvs k,H a=eM (.dK kvs)/\y=kV k/\kvs.length<Ý/\H'=upd H a (.dK<|fv kvs k v))\/
 ∃kvs k b,H a=eM (.dT kvs)/\y=.ref b/\H b=eM (.tup<|k.map kV)/\kvs.length<Ý/\H'=upd H a (.dT<|fv kvs k v)
def DGet.k{H:Hp}{a:Ï}{kvs:List (Key×V)}{k:Key}(e:H a=eM (.dK kvs)):DGet H a (kV k)<|YD kvs k:=.inl ⟨kvs,k,.inl e,rfl,rfl⟩
variable {a:Ï}
def DGet.t{k:List Key}(e:H a=eM (.dT kvs))(eb:H b=eM (.tup<|k.map kV)):DGet H a (.ref b)<|YD kvs k:=.inr ⟨kvs,k,b,.inl e,rfl,eb,rfl⟩
def DPut.k{H:Hp}{a:Ï}{kvs:List (Key×V)}{k:Key}{v:V}(e:H a=eM (.dK kvs))(hl:kvs.length<Ý):DPut H a (kV k) v<|upd H a<|.dK<|fv kvs k v:=.inl ⟨kvs,k,e,rfl,hl,rfl⟩
def DPut.t{k:List Key}{v:V}(e:H a=eM (.dT kvs))(eb:H b=eM (.tup<|k.map kV))(hl:kvs.length<Ý) :
  DPut H a (.ref b) v (upd H a<|.dT<|fv kvs k v):=.inr ⟨kvs,k,b,e,rfl,eb,hl,rfl⟩
section
variable {X:Cx}{Â:List (Ï×Obj)}{σ:St}{H:Hp}{s:Ç}{a:Ï}{y v:V}{u r:Ã}{o:Option V}{A:ĉ}{E:Ã->Ç->Prop}
def Inv.big(I:Inv X Â σ H s):Ŧ<s.heap.objs.size:=by have h:ą<s.heap.objs.size:=(I.mod.glob.keeps I.bk).lt;exact π (by decide) h
variable {Q:Ã->Ç->Prop}
def Mn(hu:A.units+1<Ķ)(I:Inv X Â σ H s)(g:DGet H a y<|eM v)(ry:RelV y u)(h:∀w' s',Inv X Â σ H s'->RelV v w'->Q w' s') :
  wpAny (à X.prog X.w) A (Ϩ (.ref a) u) Q E s:=by
 rcases g with⟨kvs,k,e,ey,l⟩|⟨kvs,k,b,e,ey,eb,l⟩
 .subst ey;let⟨z,hd,vs,ο,dd⟩:=Wn I.hok e;let⟨w',hw,bf⟩:=fx.some_of (v:=v) (o:=Ϯ vs k) (by rw[l];exact ο.val k);exact wpAny_getItem_of (Ww ry) dd.mapOf hw<|h w' _ (I.tok _) bf
 .subst ey;cases (show u=Value.ref b from ry);let⟨z,hd,xs,ο,dd⟩:=Kh I.hok e;let⟨w',hw,bf⟩:=fx.some_of (v:=v) (o:=(cC xs k).map (·.2)) (by rw[l];exact ο.val k);let⟨p,hp,hp2⟩:=Ä.mp hw;refine wpAny_getItem_heap (ρ hu) (fh I.hok eb) dd hp ?_;rw[hp2];exact h w' _ (I.tok _) bf
def Sa(hu:A.units+1<Ķ)(I:Inv X Â σ H s)(g:DGet H a y o)(ry:RelV y u)(h:∀s',Inv X Â σ H s'->Q (.bool o.isSome) s') :
  wpAny (à X.prog X.w) A (ï .In u<|.ref a) Q E s:=by
 rcases g with⟨kvs,k,e,ey,l⟩|⟨kvs,k,b,e,ey,eb,l⟩
 .subst ey;let⟨z,hd,vs,ο,dd⟩:=Wn I.hok e;refine wpAny_in_of (Ww ry) hd dd.mapOf ?_;rw[<-(ο.val k).isSome_eq,<-l];exact h _<|I.tok _
 .subst ey;cases (show u=Value.ref b from ry);let⟨z,hd,xs,ο,dd⟩:=Kh I.hok e;refine wpAny_in_heap (ρ hu) (fh I.hok eb) hd dd ?_;have q:=(ο.val k).isSome_eq;rw[ġ]at q;rw[<-q,<-l];exact h _<|I.tok _
def F8(hu:A.units+1<Ķ)(I:Inv X Â σ H s)(g:DGet H a y o)(ry:RelV y u)(h:∀s',Inv X Â σ H s'->Q (.bool (!o.isSome)) s') :
  wpAny (à X.prog X.w) A (ï .NotIn u<|.ref a) Q E s:=by
 rcases g with⟨kvs,k,e,ey,l⟩|⟨kvs,k,b,e,ey,eb,l⟩
 .subst ey;let⟨z,hd,vs,ο,dd⟩:=Wn I.hok e;refine wpAny_notIn_of (Ww ry) hd dd.mapOf ?_;rw[<-(ο.val k).isSome_eq,<-l];exact h _<|I.tok _
 .subst ey;cases (show u=Value.ref b from ry);let⟨z,hd,xs,ο,dd⟩:=Kh I.hok e;refine wpAny_notIn_heap (ρ hu) (fh I.hok eb) hd dd ?_;have q:=(ο.val k).isSome_eq;rw[ġ]at q;rw[<-q,<-l];exact h _<|I.tok _
variable {h':Ĉ}
def Jg{t':Nat}{ob:HO}(I:Inv X Â σ H s)(mu:Mut<|H a)(hs:θ a s.heap h')(he:∃q,h'.get? a=eM q)(new:fb X.prog X.w (upd H a ob) h' a ob) :
  Inv X Â σ (upd H a ob) {s with heap:=h',toks:=t'} :=
 I.write (x:=a) (e:=a) mu (.inl rfl) (λb q hb z=>(hs.2 b hb).trans z) he new
def OU{kvs:List (Key×V)}{vs:List (Key×Ã)}(z:kvs.length<=Ý)(hd:(a==Ŧ)=eQ)(ο:KV kvs vs)(dd:h'.DictOf (Zj P w) a vs) :
  fb P w H' h' a (.dK kvs):=⟨z,hd,vs,ο,dd⟩
def BW{Q:Unit->Ç->Prop}(hu:A.units+1<Ķ)(I:Inv X Â σ H s)(g:DPut H a y v H')(ry:RelV y u)(rv:RelV v r)(h:∀s',Inv X Â σ H' s'->Q () s') :
  wpAny (à X.prog X.w) A (aZ (.ref a) u r) Q E s:=by
 rcases g with⟨kvs,k,e,ey,l,eH⟩|⟨kvs,k,b,e,ey,eb,l,eH⟩
 .subst ey eH;let⟨z,hd,vs,ο,dd⟩:=JT I.hok e;have hz:vs.length<=Ý:=by rw[<-ο.length];exact z
  have hl:(fv kvs k v).length<=Ý:=by have:=Y6 kvs k v;lia
  refine wpAny_setItem_pairs (hsz:=hz) (Ww ry) dd λh' dd' hs=>h _ ?_;have he:∃q,h'.get? a=eM q:=let ⟨q,_,_,hq,_⟩:=dd';⟨q,hq⟩;exact Jg I (by rw[e];exact True.intro) hs he<|OU hl hd (ο.put k rv) dd'
 .subst ey eH;cases (show u=Value.ref b from ry);let⟨z,hd,xs,ο,dd⟩:=P9 I.hok e;have hz:xs.length<=Ý:=by rw[<-Paired.length ο];exact z
  have hl:(fv kvs k v).length<=Ý:=by have:=Y6 kvs k v;lia
  refine wpAny_setItem_heap (hsz:=hz) (ρ hu) (fh I.hok eb) dd λh' dd' hs=>h _ ?_;let⟨q,es,ep,hq,h2,h3,h4,_,h5⟩:=dd';refine Jg I (by rw[e];exact True.intro) hs ⟨q,hq⟩ ⟨hl,hd,_,(ο.put k eb rv).keeps λc ys ec=>?_,q,es,ep,hq,h2,h3,h4,h5⟩;rw[eR<|Rf ec e λz=>nomatch z];exact ec
end
section
variable {X:Cx}{Â:List (Ï×Obj)}{σ:St}{H:Hp}{s:Ç}{a:Ï}{kvs:List (Key×V)}{k:Key}{u:Ã}{A:ĉ}{E:Ã->Ç->Prop}
variable {Q:Ã->Ç->Prop}
def HV{v:V}{more:List Ã}(I:Inv X Â σ H s)(e:H a=eM (.dK kvs))(ry:RelV (kV k) u)(l:YD kvs k=eM v)(hm:more=[]\/∃x,more=[x])
  (h:∀w' s',Inv X Â σ (upd H a<|.dK<|fw kvs k) s'->RelV v w'->Q w' s'):wpAny (à X.prog X.w) A (call (.builtin "dict.pop")<|.ref a::u::more) Q E s:=by
 let⟨z,hd,vs,ο,dd⟩:=JT I.hok e;let⟨w',hw,bf⟩:=fx.some_of (v:=v) (o:=Ϯ vs k) (by rw[<-l];exact ο.val k);have hp:(keyPart u).isSome=eP:=by
  cases k with
  |inl i=>let⟨t,q⟩:=(show ∃t,u=Value.int i t from ry);subst q;rfl
  |inr x=>let⟨t,q⟩:=(show ∃t,u=Value.str x t from ry);subst q;rfl
 have ha:cD "dict.pop" ⟨.ref a::u::more,[]⟩:=by
  rcases hm with q|⟨x,q⟩
  .subst q;exact PySem.F.args_dict_pop_2 _ _
  .subst q;exact PySem.F.args_dict_pop_3 _ _ _
 refine ϯ PySem.F.slot_dict_pop dd.typeIs PySem.F.entry_dict_pop ha (meets_dict_pop_there (Zj X.prog X.w) a (Ww ry) more hm hp)
  ⟨vs,w',dd,by rw[<-ο.length];exact z,hw,λh' dd' hs=>h w' _ ?_ bf⟩
 have he:∃q,h'.get? a=eM q:=let ⟨q,_,_,hq,_⟩:=dd';⟨q,hq⟩;exact Jg I (by rw[e];exact True.intro) hs he<|OU (Õ (DS kvs k) z) hd (ο.drop k) dd'
def Pm{r:Ã}(I:Inv X Â σ H s)(e:H a=eM (.dK kvs))(ry:RelV (kV k) u)(l:YD kvs k=eN)(h:∀s',Inv X Â σ H s'->Q r s') :
  wpAny (à X.prog X.w) A (call (.builtin "dict.pop") [.ref a,u,r]) Q E s:=by
 let⟨z,hd,vs,ο,dd⟩:=JT I.hok e;have hn:Ϯ vs k=eN:=fx.none_of (by rw[<-l];exact ο.val k);have hp:(keyPart u).isSome=eP:=by
  cases k with
  |inl i=>let⟨t,q⟩:=(show ∃t,u=Value.int i t from ry);subst q;rfl
  |inr x=>let⟨t,q⟩:=(show ∃t,u=Value.str x t from ry);subst q;rfl
 exact ϯ PySem.F.slot_dict_pop dd.typeIs PySem.F.entry_dict_pop (PySem.F.args_dict_pop_3 _ _ _) (meets_dict_pop_default (Zj X.prog X.w) a (Ww ry) hd hp r) ⟨vs,dd,hn,h _<|I.tok _⟩
def Qy(I:Inv X Â σ H s)(e:Rd H a<|.dK kvs)(h:∀t s',Inv X Â σ H s'->Q (.int kvs.length t) s'):wpAny (à X.prog X.w) A (call (.builtin "len") [.ref a]) Q E s:=by let⟨z,hd,vs,ο,dd⟩:=Wn I.hok e;refine call_len_dict hd dd (by rw[<-ο.length];rw[ah]at z;lia) ?_;rw[<-ο.length];exact h _ _ (I.tok _)
end
variable {X:Cx} {Â:List (Ï×Obj)} {σ:St} {s:Ç}
def ON{o:Option V}(I:Inv X Â σ H s)(g:DGet H a y o):s.TypeIs (.ref a) "dict":=by
 rcases g with⟨kvs,k,e,_,_⟩|⟨kvs,k,b,e,_,_,_⟩
 .obtain⟨_,_,vs,_,dd⟩:=Wn I.hok e;exact dd.typeIs
 .obtain⟨_,_,xs,_,dd⟩:=Kh I.hok e;exact dd.typeIs
def OO(h:Ĉ)(hb:Ŧ<h.objs.size):fb P w H (h.push {cls:=.type "dict",data:=.dict #[]}) h.objs.size (.dK []) :=
 ⟨ĳ _,beq_eq_false_iff_ne.mpr<|Ne.symm<|é hb,[],.nil,Heap.DictOf.new h⟩
abbrev IA:TE:=λ_ H Q=>∀p,H p=eN->Q (.ref p) (upd H p<|.dK [])
section
variable {X:Cx}{î:Pos}
def pe_dnewK:PE X (.Dict [] [] î) IA:=λÂ s σ H Q I h =>
 wpAny_Dict_empty ⟨.ref s.heap.objs.size,_,I.laid (a:=s.heap.objs.size) (o:=.dK []) (t':=s.toks) (λ_ _ q=>Å _ q) (Ó _)<|OO s.heap I.big,rfl,h _<|I.hok.fresh<|Ó _⟩
end
abbrev Nr:List (TE×TE)->St->Hp->(List (V×V)->Hp->Prop)->Prop
 |[],_,H,Q=>Q [] H
 |(tk,tv)::r,σ,H,Q=>tk σ H λx H1=>tv σ H1 λy H2=>Nr r σ H2 λps H3=>Q ((x,y)::ps) H3
@[reducible] noncomputable def VV:List (V×V)->List (Ã×Ã)->Prop:=Paired λp q=>RelV p.1 q.1/\RelV p.2 q.2
abbrev PPs(X:Cx)(î:Pos)(keys:List<|Option Expr)(ώ:List Expr)(trs:List<|TE×TE):Prop :=
 ∀(Â:List<|Ï×Obj) (s:Ç) (σ:St) (H:Hp) (Q:List (V×V)->Hp->Prop),Inv X Â σ H s->Nr trs σ H Q->
  wpAny (à X.prog X.w) X.A (evalPairs<|pairTrees keys ώ X.env î) (λvs s'=>∃ps H',Inv X Â σ H' s'/\VV ps vs/\Q ps H') X.xe s
variable {î:Pos}
def GO:PPs X î [] [] []:=λÂ s σ H Q I h=>pairTrees_nil_walk ⟨[],H,I,.nil,h⟩
variable {trs:List (TE×TE)}
def CC{k v:Expr}{ks:List (Option Expr)}{vs:List Expr}{tk tv:TE}(hk:PE X k tk)(hv:PE X v tv)(hr:PPs X î ks vs trs) :
  PPs X î (eM k::ks) (v::vs) ((tk,tv)::trs):=λÂ s σ H Q I h =>
 pairTrees_cons_walk (thn (hk Â s σ H _ I h) λu s1 ⟨x,H1,I1,rx,q1⟩=>thn (hv Â s1 σ H1 _ I1 q1) λw2 s2 ⟨y,H2,I2,ry,q2⟩ =>
   thn (hr Â s2 σ H2 _ I2 q2) λws s3 ⟨ps,H3,I3,ο,q3⟩=>⟨(x,y)::ps,H3,I3,.cons ⟨rx,ry⟩ ο,q3⟩)
abbrev Xs(kvs more:List<|Key×V):List<|Key×V:=more.foldl (λį kv=>fv į kv.1 kv.2) kvs
def KV.merge:∀{more:List (Key×V)}{rs:List (Key×Ã)}{kvs:List (Key×V)}{vs:List (Key×Ã)},KV more rs->KV kvs vs->KV (Xs kvs more) (merged vs rs):=by
 intro more rs kvs vs r;unfold KV at r;induction r generalizing kvs vs with
 |nil=>intro q;exact q
 |@cons p q ps qs h t ih =>
  intro r0;have e:KV (fv kvs p.1 p.2)<|stored vs q.1 q.2:=by have:=r0.put p.1 h.2;rw[<-h.1];exact this
  exact ih e
def XF:∀(more kvs:List<|Key×V),(Xs kvs more).length<=kvs.length+more.length
 |[],kvs=>by show kvs.length<=kvs.length+0;lia
 |p::r,kvs=>by have h1:=XF r<|fv kvs p.1 p.2;have h2:=Y6 kvs p.1 p.2;show(Xs (fv kvs p.1 p.2) r).length<=_;rw[Ò];lia
def Kr{P:ç}{w:þ}:∀{kvs:List (Key×V)}{ws:List (Ã×Ã)},VV (kvs.map λkv=>(kV kv.1,kv.2)) ws->∃rs,Carries (Zj P w) ws rs/\KV kvs rs
 |[],_,r=>by rw[ϕ]at r;cases r;exact⟨[],True.intro,.nil⟩
 |p::kvs,_,r=>by
  rw[Î]at r;cases r with
  |@cons a b as bs h t =>let⟨rs,c,q⟩:=Kr (P:=P) (w:=w) t;let⟨b1,b2⟩:=b;exact⟨(p.1,b2)::rs,⟨Ww h.1,rfl,c⟩,.cons ⟨rfl,h.2⟩ q⟩
abbrev QY(trs:List<|TE×TE):TE:=λσ H Q=>∀p,H p=eN->Nr trs σ (upd H p<|.dK []) λps H2=>H2 p=eM (.dK [])/\∃kvs:List<|Key×V,ps=kvs.map (λkv=>(kV kv.1,kv.2))/\kvs.length<=15/\Q (.ref p) (upd H2 p<|.dK<|Xs [] kvs)
def Fd{keys:List (Option Expr)}{ώ:List Expr}(h:PPs X î keys ώ trs)(hall:keys.all (·.isSome)=eP)(hl:keys.length=ώ.length)(h0:keys≠[])
  (h15:keys.length<=15):PE X (.Dict keys ώ î)<|QY trs:=by
 intro Â s σ H Q I q;have hn:=I.hok.fresh<|Ó s.heap.objs.size;have I1:=I.laid (a:=s.heap.objs.size) (o:=.dK []) (h':=s.heap.push {cls:=.type "dict",data:=.dict #[]}) (t':=s.toks) (λ_ _ q=>Å _ q) (Ó _)<|OO s.heap I.big;refine wpAny_Dict_walk (knd:=Zj X.prog X.w) hall hl h0 h15<|thn (h Â _ σ _ _ I1<|q _ hn) λws s2 ⟨ps,H2,I2,ο,e,kvs,ep,lk,q2⟩=>?_;subst ep;let⟨rs,c,rk⟩:=Kr (P:=X.prog) (w:=X.w) ο;let⟨z,hd,vs0,r0,dd⟩:=JT I2.hok e;cases r0;refine⟨rs,c,dd,λh' dd' hs=>⟨.ref s.heap.objs.size,_,?_,rfl,q2⟩⟩;have hz:(Xs [] kvs).length<=Ý:=by have h1:=XF kvs [];rw[Ĩ]at h1;rw[ah];lia
 have he:∃q,h'.get? s.heap.objs.size=eM q:=let ⟨q,_,_,hq,_⟩:=dd';⟨q,hq⟩;exact Jg I2 (by rw[e];exact True.intro) hs he<|OU hz hd (rk.merge .nil) dd'
structure M2(X:Cx)(o:Expr)(m:Str)(Ŗ:Pos)(e f:Expr)(ś:Pos):Prop where
 base:ĝ o m X.env (eval o X.env)=eval o X.env
 few:((ě ś<|ß [e,f] X.env).all (λx=>!x.1)&&(ſ ś<|ņ [] X.env).all (λx=>x.1.isSome)
   && gC (([e,f]:List Expr).length+([]:List ϫ).length+(if([]:List ϫ).isEmpty then 0 else 1)<30))=eP
 line:(Ŗ.endLine==ś.line)=eP
 trees:ě ś (ß [e,f] X.env)=[(eQ,eval e X.env),(eQ,eval f X.env)]
abbrev RT(H:Hp)(a:Ï):Prop:=(∃kvs,Rd H a<|.dK kvs)\/∃kvs,Rd H a (.dT kvs)
def Li(I:Inv X Â σ H s)(d:RT H a) :
  s.TypeIs (.ref a) "dict"/\(∀b,Value.ref a=.ref b->∃ob,s.heap.get? b=eM ob/\ob.dict=eN)/\(a==Ŧ)=eQ:=by
 rcases d with⟨kvs,e⟩|⟨kvs,e⟩
 .obtain⟨_,hd,vs,_,dd⟩:=Wn I.hok e;refine⟨dd.typeIs,λb q=>?_,hd⟩;cases q;let⟨ob,_,_,h1,h2,_⟩:=dd;exact⟨ob,h1,h2.2.1⟩
 .obtain⟨_,hd,xs,_,dd⟩:=Kh I.hok e;refine⟨dd.typeIs,λb q=>?_,hd⟩;cases q;let⟨ob,_,_,h1,h2,_⟩:=dd;exact⟨ob,h1,h2.2.1⟩
section
variable {X:Cx}{Â:List (Ï×Obj)}{σ:St}{H:Hp}{s:Ç}{a:Ï}{y d:V}{u r:Ã}{o:Option V}{A:ĉ}{E:Ã->Ç->Prop}
def Le{Q:Ã->Ç->Prop}(hu:A.units+1<Ķ)(I:Inv X Â σ H s)(g:DGet H a y o)(ry:RelV y u)(h:∀w' s',Inv X Â σ H s'->RelV (o.getD .non) w'->Q w' s') :
  wpAny (à X.prog X.w) A (call (.builtin "dict.get") [.ref a,u]) Q E s:=by
 rcases g with⟨kvs,k,e,ey,l⟩|⟨kvs,k,b,e,ey,eb,l⟩
 .subst ey;let⟨z,hd,vs,ο,dd⟩:=Wn I.hok e;refine ϯ PySem.F.slot_dict_get dd.typeIs PySem.F.entry_dict_get (PySem.F.args_dict_get_2 _ _) (meets_dict_get (Zj X.prog X.w) a (Ww ry) hd) ⟨_,dd.mapOf,h _ _ (I.tok _) ?_⟩;rw[l];exact(ο.val k).getD rfl
 .subst ey;cases (show u=Value.ref b from ry);let⟨z,hd,xs,ο,dd⟩:=Kh I.hok e;refine ϯ PySem.F.slot_dict_get dd.typeIs PySem.F.entry_dict_get (PySem.F.args_dict_get_2 _ _) (meetsH_dict_get (au<|Zj X.prog X.w) a b hd) ⟨ρ hu,k,xs,fh I.hok eb,dd,h _ _ (I.tok _) ?_⟩;rw[l];exact(ο.val k).getD rfl
end
section
variable {X:Cx}
def Ba:eZ X (.builtin "len") λxs H Q=>∃a kvs,xs=[V.ref a]/\H a=eM (.dK kvs)/\Q (.int kvs.length) H:=by intro Â s σ H xs us Q I r h;let⟨a,kvs,rfl,ha,q⟩:=h;let⟨u,rfl,ru⟩:=Yo r;cases ru;exact Qy I (.inl ha) λt s' I'=>⟨.int kvs.length,H,I',⟨t,rfl⟩,q⟩
end
end L2
namespace O
noncomputable abbrev Ad:=Nat
inductive Val where
 |non|bl (b:Bool)|int (i:Int)|str (s:String)|tup (xs:List Val)|ref (a:Ad)|scr (ns:List Int)|key (i j:Int)
 deriving Inhabited
mutual
noncomputable def Val.eqb:Val->Val->Bool
 |.non,b=>match b with|.non=>eP|_=>eQ
 |.bl a,b=>match b with|.bl c=>a==c|_=>eQ
 |.int a,b=>match b with|.int c=>a==c|_=>eQ
 |.str a,b=>match b with|.str c=>a==c|_=>eQ
 |.tup a,b=>match b with|.tup c=>Val.eqs a c|_=>eQ
 |.ref a,b=>match b with|.ref c=>a==c|_=>eQ
 |.scr a,b=>match b with|.scr c=>a==c|_=>eQ
 |.key a b,x=>match x with|.key c d=>a==c&&b==d|_=>eQ
noncomputable def Val.eqs:List Val->List Val->Bool
 |[],b=>match b with|[]=>eP|_=>eQ
 |x::xs,b=>match b with|y::ys=>Val.eqb x y&&Val.eqs xs ys|_=>eQ
end
mutual
theorem Val.eqb_iff:∀{a b:Val},Val.eqb a b=eP↔a=b
 |.non,b=>by cases b<;>simp[Val.eqb]
 |.bl _,b=>by cases b<;>simp[Val.eqb]
 |.int _,b=>by cases b<;>simp[Val.eqb]
 |.str _,b=>by cases b<;>simp[Val.eqb]
 |.tup _,b=>by cases b<;>simp[Val.eqb,Val.eqs_iff]
 |.ref _,b=>by cases b<;>simp[Val.eqb]
 |.scr _,b=>by cases b<;>simp[Val.eqb]
 |.key _ _,b=>by cases b<;>simp[Val.eqb]
theorem Val.eqs_iff:∀{a b:List Val},Val.eqs a b=eP↔a=b
 |[],b=>by cases b<;>simp[Val.eqs]
 |_::_,b=>by cases b<;>simp[Val.eqs,Val.eqb_iff,Val.eqs_iff]
end
noncomputable instance:DecidableEq Val:=λa b=>if h:Val.eqb a b=eP then isTrue (Val.eqb_iff.mp h)else isFalse λe=>h<|Val.eqb_iff.mpr e
inductive Ob where
 |lst (xs:List Val)|dct (kvs:List<|Val×Val)|ins (C:String) (fs:List<|String×Val)|exc (C:String)|frz (kvs:List<|Val×Val)|dtp (kvs:List<|Val×Val)
 deriving Inhabited
abbrev figB(c:Char):Bool:=gC (48<=c.toNat)&&gC (c.toNat<=57)
abbrev decN(l:List Char):Nat:=l.foldl (λa c=>10*a+(c.toNat - 48)) 0
abbrev Qw:Val->Option String
 |.str s=>eM s
 |_=>eN
abbrev oneC(s:String):Option Char:=match s.toList with
 |[c]=>eM c
 |_=>eN
abbrev FA(i:Int):String:=toString i
abbrev fmtV:Val->Option String
 |.str s=>eM s
 |.int i=>if i.natAbs<10 ^ 200 then eM (FA i)else eN
 |_=>eN
noncomputable abbrev Hs:=Ad->Option Ob
@[irreducible] noncomputable def upd(h:Hs)(a:Ad)(o:Ob):Hs:=λb=>if b=a then eM o else h b
variable {h:Hs} {a:Ad} {o:Ob}
def eS:upd h a o a=eM o:=by simp[upd]
def eR{b:Ad}(e:b≠a):upd h a o b=h b:=by simp[upd,e]
def eU{u:Ob}:upd (upd h a o) a u=upd h a u:=by funext b;simp only[upd];split<;>rfl
noncomputable abbrev Env:=List<|Option Val
noncomputable abbrev Q1:=Val->Hs->Prop
noncomputable abbrev XQ:=String->Hs->Prop
noncomputable abbrev Fs:=String->List Val->Hs->Q1->XQ->Prop
abbrev lim:Nat:=1000000
variable {α:Type}
@[irreducible] noncomputable def go(o:Option α)(k:α->Prop):Prop:=match o with|some a=>k a|none=>False
@[simp] theorem eV{a:α}{k:α->Prop}:go (eM a) k=k a:=by unfold go;rfl
@[simp] theorem FJ{k:α->Prop}:go eN k=False:=by unfold go;rfl
def eW{o:Option α}{a:α}{k:α->Prop}(e:o=eM a)(h:k a):go o k:=by rw[e,eV];exact h
set_option genInjectivity false
inductive Bop where|add|sub|mul|fdiv|mod|pow
inductive Cop where|eq|ne|lt|le|gt|ge|isin|notin|is|isnot|eqE|neE|ntT
inductive Bi where
 |len|int|str|bool|abs|min2|max2|minL|maxL|minD|sum|all|any|sorted|sortedI|sortedSet|lenSet|list|tuple|dict|isi (Ts:List String)|isx (Ts:List String)|isc (C:String)|repr|listRev|listRange|tupRange|dictEnum|minP|maxP|listD
inductive Bm where
 |append|extend|pop|popAt|insert|remove|clear|reverse|index|count|dget|dgetD|dpop|dpopD|setdefault|join|split|replace|upper|partition|sidx
inductive Pt where|one (i:Nat)|many (is:List Nat)|nest (i:Nat) (is:List Nat)
mutual
inductive E where
 |cst (v:Val)|var (i:Nat)|glob (x:String) (v:Val)
 |bin (op:Bop) (a b:E)|neg (a:E)|not (a:E)|and (a b:E)|or (a b:E)
 |cmp (op:Cop) (a b:E)|chain (o1 o2:Cop) (a b c:E)
 |call (f:String) (as:Es)|make (C:String) (as:Es)|meth (C m:String) (o:E) (as:Es)|fld (o:E) (f:String)
 |bi (f:Bi) (as:Es)|bm (m:Bm) (o:E) (as:Es)
 |idx (a i:E)|slc (a:E) (lo hi:Oe)|rev (a:E)|pick (a:E) (lo hi:Oe) (st:E)
 |tup (es:Es)|lst (es:Es)|dct (es:Es)
 |ife (c:Tt) (a b:E)
 |comp (ù:List Nat) (n:Nat) (p:Pt) (it:It) (c:Tt) (e:E)
 |fstr (es:Es)
 |split (o a:E)
 |repl (o:E) (y z:String)
 |key (es:Es)|dctP
inductive Es where|nil|cons (e:E) (es:Es)
inductive Oe where|none|some (e:E)
inductive Tt where|yes|val (e:E)|not (t:Tt)|and (a b:Tt)|or (a b:Tt)
inductive It where
 |seq (e:E)|chars (e:E)|range (a:E)|range2 (a b:E)|enum (e:E)|zip (a b:E)|items (e:E)|rev (e:E)
end
mutual
inductive S where
 |set (p:Pt) (e:E)|setIdx (a i e:E)|setFld (o:E) (f:String) (e:E)
 |augVar (i:Nat) (op:Bop) (e:E)|augFld (o:E) (f:String) (op:Bop) (n:Int)|augIdx (a i:E) (op:Bop) (n:Int)
 |setPair (a i b j e:E)
 |expr (e:E)|ret (e:E)|retN|ite (c:Tt) (a b:Ss)|whl (c:Tt) (b:Ss)|for (p:Pt) (it:It) (b:Ss)|forI (k:Bool) (p:Pt) (e:E) (b:Ss)
 |never|brk|cnt|pass|raise (C:String) (as:Es)|try (t:Option Nat) (e:E) (hs:Hn)
inductive Ss where|nil|cons (s:S) (ss:Ss)
inductive Hn where|nil|cons (C:String) (n:Option Nat) (b:Ss) (r:Hn)
end
set_option genInjectivity true
abbrev ixN(n:Nat)(i:Int):Option Nat:=if 0<=i then(if i<n then eM i.toNat else eN)else if -(n:Int)<=i then eM (i+n).toNat else eN
abbrev atI(xs:List α)(i:Int):Option α:=(ixN xs.length i).bind λj=>xs[j]?
abbrev fE(n d:Nat):Option Int->Nat
 |none=>d
 |some i=>if 0<=i then min i.toNat n else(i+n).toNat
abbrev cut(xs:List α)(lo hi:Option Int):List α:=(xs.drop<|fE xs.length 0 lo).take<|fE xs.length xs.length hi - fE xs.length 0 lo
abbrev ff:Option Ob->Option (List Val)
 |some (.lst xs)=>eM xs
 |_=>eN
@[simp] theorem Js{xs:List Val}:ff (eM<|.lst xs)=eM xs:=rfl
abbrev Dx(h:Hs):Val->Option (List Val)
 |.ref a=>ff<|h a
 |.tup xs=>eM xs
 |.scr ns=>eM<|ns.map .int
 |_=>eN
abbrev gj:Option Ob->Option (List<|Val×Val)
 |some (.dct kvs)=>eM kvs
 |_=>eN
abbrev fq(kvs:List<|Val×Val)(k:Val):Option Val:=(kvs.find? λp=>p.1==k).map (·.2)
abbrev fu(kvs:List<|Val×Val)(k:Val):Bool:=kvs.any λp=>p.1==k
abbrev fv(kvs:List<|Val×Val)(k v:Val):List<|Val×Val:=if fu kvs k then kvs.map λp=>if p.1==k then(k,v)else p else kvs++[(k,v)]
abbrev fw(kvs:List<|Val×Val)(k:Val):List<|Val×Val:=kvs.filter λp=>!(p.1==k)
abbrev fk:Val->Bool
 |.int _=>eP
 |.str _=>eP
 |_=>eQ
inductive D where
 |non|bl (b:Bool)|int (i:Int)|str (s:String)|tup (ds:List D)|lst (ds:List D)
 deriving Inhabited
mutual
noncomputable def D.eqv:D->D->Bool
 |.non,.non=>eP
 |.bl a,.bl b=>a==b
 |.bl a,.int i=>(if a then 1 else 0)==i
 |.int i,.bl a=>i==(if a then 1 else 0)
 |.int a,.int b=>a==b
 |.str a,.str b=>a==b
 |.tup a,.tup b=>D.eqvs a b
 |.lst a,.lst b=>D.eqvs a b
 |_,_=>eQ
noncomputable def D.eqvs:List D->List D->Bool
 |[],[]=>eP
 |x::xs,y::ys=>D.eqv x y&&D.eqvs xs ys
 |_,_=>eQ
end
abbrev dat(h:Hs):Nat->Val->Option D
 |_,.non=>eM .non
 |_,.bl b=>eM<|.bl b
 |_,.int i=>eM<|.int i
 |_,.str s=>eM<|.str s
 |0,_=>eN
 |n+1,.tup xs=>(xs.mapM<|dat h n).map .tup
 |n+1,.ref a=>(ff<|h a).bind λxs=>(xs.mapM<|dat h n).map .lst
 |n+1,.scr ns=>eM<|.lst<|ns.map .int
 |_+1,.key _ _=>eN
abbrev deep:Nat:=12
abbrev eqV(h:Hs)(v u:Val):Option Bool:=(dat h deep v).bind λd=>(dat h deep u).map λe=>D.eqv d e
abbrev eY:List Val->Option (List Int)
 |[]=>eM []
 |.int i::xs=>(eY xs).map (i :: ·)
 |_=>eN
abbrev fG:List Int->List Int->Bool
 |[],[]=>eQ
 |[],_::_=>eP
 |_::_,[]=>eQ
 |x::xs,y::ys=>if x=y then fG xs ys else gC (x<y)
abbrev fH:Val->Val->Option Bool
 |.int i,.int j=>eM<|gC (i<j)
 |.tup xs,.tup ys=>(eY xs).bind λns=>(eY ys).map λms=>fG ns ms
 |_,_=>eN
abbrev inL(h:Hs)(x:Val)(ys:List Val):Option Bool:=(dat h deep x).bind λd=>(ys.mapM<|dat h<|deep - 1).map λds=>ds.any λe=>D.eqv e d
abbrev leV:Val->Val->Option Bool
 |.int i,.int j=>eM<|gC (i<=j)
 |_,_=>eN
abbrev isKeyT:Val->Bool
 |.key _ _=>eP
 |_=>eQ
abbrev inV(h:Hs)(v u:Val):Option Bool:=match u with
 |.tup xs=>inL h v xs
 |.ref a=>match h a with
  |some (.lst xs)=>inL h v xs
  |some (.dct kvs)=>if fk v then eM (fu kvs v)else eN
  |some (.frz kvs)=>if fk v then eM (fu kvs v)else eN
  |some (.dtp kvs)=>if isKeyT v then eM (fu kvs v)else eN
  |_=>eN
 |.str t=>(match v with|.str s=>(oneC s).map λc=>gC (c∈t.toList)|_=>eN)
 |_=>eN
abbrev isV(v u:Val):Option Bool:=match u with
 |.non=>eM<|gC (v=.non)
 |.bl b=>eM<|gC (v=.bl b)
 |_=>eN
abbrev asLst(h:Hs):Val->Option (List Val)
 |.ref a=>ff<|h a
 |_=>eN
abbrev fj(h:Hs)(op:Cop)(v u:Val):Option Bool:=match op with
 |.eq=>eqV h v u
 |.ne=>(eqV h v u).map (!·)
 |.lt=>fH v u
 |.gt=>fH u v
 |.le=>leV v u
 |.ge=>leV u v
 |.isin=>inV h v u
 |.notin=>(inV h v u).map (!·)
 |.is=>isV v u
 |.isnot=>(isV v u).map (!·)
 |_=>eN
abbrev JY(h:Hs):Val->Option Bool
 |.bl b=>eM b
 |.int i=>eM<|gC (i≠0)
 |.non=>eM eQ
 |.str s=>if s.length<=lim then eM (gC (s.length≠0))else eN
 |.tup xs=>eM (!xs.isEmpty)
 |.scr ns=>eM (!ns.isEmpty)
 |.ref a=>match h a with
  |some (.lst xs)=>eM (!xs.isEmpty)
  |some (.dct kvs)=>eM (!kvs.isEmpty)
  |_=>eN
 |.key _ _=>eN
abbrev mulOk(i j:Int):Prop:=(i.natAbs<2 ^ 64\/j.natAbs<2 ^ 64)\/(i.natAbs<=10 ^ 200/\j.natAbs<=10 ^ 200)
instance (i j:Int):Decidable<|mulOk i j:=inferInstanceAs<|Decidable<|_\/_
@[irreducible] noncomputable def new(h:Hs)(o:Ob)(Q:Q1):Prop:=∀p,h p=eN->Q (.ref p) (upd h p o)
variable {Q:Q1}
def Xm(q:∀p,h p=eN->Q (.ref p) (upd h p o)):new h o Q:=by unfold new;exact q
inductive Rs where|val (v:Val)|new (o:Ob)|no
@[irreducible] noncomputable def Rs.wp(r:Rs)(h:Hs)(Q:Q1):Prop:=match r with|.val v=>Q v h|.new o=>O.new h o Q|.no=>False
@[simp] theorem Rs.wp_val{v:Val}:(Rs.val v).wp h Q=Q v h:=by unfold Rs.wp;rfl
@[simp] theorem Rs.wp_new:(Rs.new o).wp h Q=O.new h o Q:=by unfold Rs.wp;rfl
@[simp] theorem Rs.wp_no:Rs.no.wp h Q=False:=by unfold Rs.wp;rfl
abbrev Rs.ofO:Option Val->Rs
 |some v=>.val v
 |none=>.no
abbrev Rs.lst(xs:List Val):Rs:=if xs.length<=lim then .new (.lst xs)else .no
abbrev addV(h:Hs):Val->Val->Rs
 |.int i,.int j=>.val<|.int<|i+j
 |.str s,.str t=>if s.length+t.length<=lim then .val (.str<|s++t)else .no
 |.tup xs,.tup ys=>if xs.length+ys.length<=lim then .val (.tup<|xs++ys)else .no
 |.ref a,.ref b=>match h a,h b with
  |some (.lst xs),eM (.lst ys)=>Rs.lst<|xs++ys
  |_,_=>.no
 |_,_=>.no
abbrev repT(s:String)(n:Nat):String:=Υ (Ñ n s.toList).flatten
abbrev mulV(h:Hs):Val->Val->Rs
 |.int i,.int j=>if mulOk i j then .val (.int<|i*j)else .no
 |.ref a,.int k=>match h a with
  |some (.lst xs)=>if -(2 ^ 62)<k/\k<2 ^ 62/\xs.length*k.toNat<=lim then Rs.lst (Ñ k.toNat xs).flatten else .no
  |_=>.no
 |.str s,.int k=>if 2<=k/\k<=1000000/\1<=s.length/\s.length*k.toNat<=lim then .val (.str<|repT s k.toNat)else .no
 |_,_=>.no
abbrev intV(f:Int->Int->Rs):Val->Val->Rs
 |.int i,.int j=>f i j
 |_,_=>.no
abbrev binV(h:Hs)(op:Bop)(v u:Val):Rs:=match op with
 |.add=>addV h v u
 |.sub=>intV (λi j=>.val<|.int<|i - j) v u
 |.mul=>mulV h v u
 |.fdiv=>intV (λi j=>if 0<j/\j<1073741824 then .val (.int<|i / j)else .no) v u
 |.mod=>intV (λi j=>if 0<j then .val (.int<|i % j)else .no) v u
 |.pow=>intV (λi j=>if 0<=j/\j<=1000000/\i.natAbs<2 ^ 64 then .val (.int<|i ^ j.toNat)else .no) v u
abbrev gk:Val->Option Int
 |.int i=>eM i
 |_=>eN
abbrev fI(h:Hs):Val->Val->Option Val
 |.tup xs,.int k=>atI xs k
 |.str s,.int k=>if s.length<=lim then(atI s.toList k).map λc=>.str (ay c)else eN
 |.ref a,k=>match h a with
  |some (.lst xs)=>(gk k).bind<|atI xs
  |some (.dct kvs)=>if fk k then fq kvs k else eN
  |some (.frz kvs)=>if fk k then fq kvs k else eN
  |some (.dtp kvs)=>if isKeyT k then fq kvs k else eN
  |_=>eN
 |.scr ns,.int i=>atI (ns.map .int) i
 |_,_=>eN
abbrev fJ(h:Hs)(v:Val)(lo hi:Option Int):Rs :=
 match v with
 |.tup xs=>if fE xs.length 0 lo=0/\fE xs.length xs.length hi=xs.length then .val (.tup xs)else .val (.tup<|cut xs lo hi)
 |.ref a=>match ff (h a)with
  |some xs=>.new<|.lst<|cut xs lo hi
  |none=>.no
 |.scr ns=>.new<|.lst<|cut (ns.map .int) lo hi
 |.str s=>if s.length<=lim then .val (.str<|Υ<|cut s.toList lo hi)else .no
 |_=>.no
abbrev sortI(ns:List Int):List Int:=ns.mergeSort λa b=>gC (a<=b)
abbrev blsOf:List Val->Option (List Bool)
 |[]=>eM []
 |.bl b::xs=>(blsOf xs).map (b :: ·)
 |_=>eN
abbrev minL:List Val->Option Val
 |[]=>eN
 |x::xs=>xs.foldl (λm y=>m.bind λb=>(fH y b).map λc=>if c then y else b)<|eM x
abbrev maxL:List Val->Option Val
 |[]=>eN
 |x::xs=>xs.foldl (λm y=>m.bind λb=>(fH b y).map λc=>if c then y else b)<|eM x
abbrev dedup:List Int->List Int
 |[]=>[]
 |x::xs=>x::(dedup xs).filter (· != x)
abbrev fY(c d:String):Bool:=c==d||d == "ShutError" || d == "ValueError" || d == "Exception"
abbrev gp(h:Hs):Val->Option String
 |.non=>eM "NoneType"
 |.bl _=>eM "bool"
 |.int _=>eM "int"
 |.str _=>eM "str"
 |.tup _=>eM "tuple"
 |.scr _=>eM "list"
 |.ref a=>match h a with
  |some (.lst _)=>eM "list"
  |some (.dct _)=>eM "dict"
  |_=>eN
 |.key _ _=>eN
abbrev gq(h:Hs)(v:Val)(T:String):Option Bool:=(gp h v).map λt=>t==T||(t == "bool" && T == "int")
abbrev isiAny(h:Hs)(v:Val):List String->Option Bool
 |[]=>eM eQ
 |T::Ts=>(gq h v T).bind λb=>(isiAny h v Ts).map (b || ·)
abbrev pairUp:List Val->Option (List<|Val×Val)
 |[]=>eM []
 |k::v::r=>if fk k then(pairUp r).map ((k,v) :: ·)else eN
 |_=>eN
abbrev putAll(kvs:List<|Val×Val):List (Val×Val)->List (Val×Val)
 |[]=>kvs
 |(k,v)::r=>putAll (fv kvs k v) r
abbrev fN(h:Hs):Val->Rs
 |.ref a=>match h a with
  |some (.lst xs)=>.val<|.int xs.length
  |some (.dct kvs)=>.val<|.int kvs.length
  |_=>.no
 |.tup xs=>.val<|.int xs.length
 |.scr ns=>.val<|.int ns.length
 |.str s=>if s.length<=lim then .val (.int s.length)else .no
 |_=>.no
abbrev Ql:Val->Rs
 |.int i=>.val<|.int i
 |.bl b=>.val (.int<|if b then 1 else 0)
 |.str s=>if s.length<=640/\s.toList≠[]/\s.toList.all figB=eP then .val (.int<|decN s.toList)else .no
 |_=>.no
abbrev absV:Val->Rs
 |.int i=>.val (.int<|if i<0 then -i else i)
 |_=>.no
abbrev fg(f:Val->Rs):List Val->Rs
 |[v]=>f v
 |_=>.no
abbrev rowsOf:List Val->Option (List<|List Int)
 |[]=>eM []
 |.tup xs::r=>(eY xs).bind λns=>(rowsOf r).map (ns :: ·)
 |_=>eN
abbrev minR(b:List Int):List (List Int)->List Int
 |[]=>b
 |y::r=>minR (if fG y b then y else b) r
abbrev fO(h:Hs)(v:Val):Rs:=match v with
 |.ref a=>match (ff<|h a).bind rowsOf with
  |some []=>.val .non
  |some (x::r)=>.val<|.tup<|(minR x r).map .int
  |none=>.no
 |_=>.no
abbrev SH(h:Hs):Val->Rs
 |.ref a=>.ofO<|(ff<|h a).bind λxs=>(blsOf xs).map λbs=>.bl<|bs.all id
 |_=>.no
abbrev sortOf(h:Hs):Val->Option (List Int)
 |.ref a=>(ff<|h a).bind eY
 |.scr ns=>eM ns
 |_=>eN
abbrev keysOf(kvs:List<|Val×Val):Option<|List Int:=eY (kvs.map (·.1))
abbrev sortAny(h:Hs)(v:Val):Option<|List Int:=match v with
 |.ref a=>match h a with
  |some (.lst xs)=>eY xs
  |some (.dct kvs)=>keysOf kvs
  |_=>eN
 |.scr ns=>eM ns
 |_=>eN
abbrev RB(ĕ:List<|List Int):List<|List Int:=ĕ.mergeSort λa b=>!fG b a
abbrev Ps(h:Hs)(v:Val):Option<|List<|List Int:=match v with
 |.ref a=>(ff<|h a).bind rowsOf
 |_=>eN
abbrev BL(h:Hs)(v:Val):Rs:=match Ps h v with
 |some ĕ=>if ĕ.length<64/\(ĕ.all λr=>!r.isEmpty)=eP then .new (.lst<|(RB ĕ).map λr=>.tup<|r.map .int)else .no
 |none=>.no
abbrev JO(h:Hs)(v:Val):Rs:=match sortAny h v with
 |some ns=>if ns.length<64 then .new (.lst<|(sortI ns).map .int)else .no
 |none=>BL h v
abbrev biSortedI(h:Hs)(v:Val):Rs:=match sortAny h v with
 |some ns=>if ns.length<64 then .new (.lst<|(sortI ns).map .int)else .no
 |none=>.no
abbrev biSortedSet(h:Hs)(v:Val):Rs:=match sortOf h v with
 |some ns=>if ns.length<64 then .new (.lst<|(sortI<|dedup ns).map .int)else .no
 |none=>.no
abbrev toList(h:Hs):Val->Rs
 |.ref a=>match h a with
  |some (.lst xs)=>.new<|.lst xs
  |_=>.no
 |.tup xs=>.new<|.lst xs
 |_=>.no
abbrev Ni(h:Hs):Val->Rs
 |.ref a=>match h a with
  |some (.lst xs)=>.val<|.tup xs
  |_=>.no
 |.tup xs=>.val<|.tup xs
 |_=>.no
abbrev biV(h:Hs)(b:Bi)(vs:List Val):Rs:=match b with
 |.len=>fg (fN h) vs
 |.int=>fg Ql vs
 |.minD=>fg (fO h) vs
 |.all=>fg (SH h) vs
 |.sorted=>fg (JO h) vs
 |.sortedI=>fg (biSortedI h) vs
 |.sortedSet=>fg (biSortedSet h) vs
 |.list=>fg (toList h) vs
 |.tuple=>fg (Ni h) vs
 |.isi Ts=>fg (λv=>.ofO<|(isiAny h v Ts).map .bl) vs
 |_=>.no
abbrev bmL(h:Hs)(v:Val)(f:Ad->List Val->Option (Val×Hs)):Option<|Val×Hs:=match v with
 |.ref a=>(ff<|h a).bind<|f a
 |_=>eN
abbrev bmD(h:Hs)(v:Val)(f:Ad->List (Val×Val)->Option (Val×Hs)):Option<|Val×Hs:=match v with
 |.ref a=>(gj<|h a).bind<|f a
 |_=>eN
abbrev C7(h:Hs)(vs:List Val)(a:Ad)(xs:List Val):Option<|Val×Hs:=match vs with
 |[v]=>if xs.length<lim then eM (.non,upd h a<|.lst<|xs++[v])else eN
 |_=>eN
abbrev bmExtend(h:Hs)(vs:List Val)(a:Ad)(xs:List Val):Option<|Val×Hs:=match vs with
 |[.ref b]=>(ff<|h b).bind λys=>if xs.length+ys.length<=lim then eM (.non,upd h a<|.lst<|xs++ys)else eN
 |_=>eN
abbrev bmPopAt(h:Hs)(vs:List Val)(a:Ad)(xs:List Val):Option<|Val×Hs:=match vs with
 |[.int i]=>if -(2 ^ 62)<i/\i<2 ^ 62 then(ixN xs.length i).bind λk=>(xs[k]?).map λv=>(v,upd h a<|.lst<|xs.eraseIdx k)else eN
 |_=>eN
abbrev bmRemove(h:Hs)(vs:List Val)(a:Ad)(xs:List Val):Option<|Val×Hs:=match vs with
 |[.int i]=>(eY xs).bind λns=>if i∈ns then eM (.non,upd h a<|.lst<|(ns.erase i).map .int)else eN
 |_=>eN
abbrev Qj(h:Hs)(vs:List Val)(a:Ad)(kvs:List<|Val×Val):Option<|Val×Hs:=match vs with
 |[k]=>if fk k then eM ((fq kvs k).getD .non,h)else eN
 |_=>eN
abbrev PQ(h:Hs)(vs:List Val)(a:Ad)(kvs:List<|Val×Val):Option<|Val×Hs:=match vs with
 |[k]=>if fk k then(fq kvs k).map λv=>(v,upd h a<|.dct<|fw kvs k)else eN
 |_=>eN
abbrev Ff(h:Hs)(vs:List Val)(a:Ad)(kvs:List<|Val×Val):Option<|Val×Hs:=match vs with
 |[k,d]=>if fk k then eM ((fq kvs k).getD d,upd h a<|.dct<|fw kvs k)else eN
 |_=>eN
abbrev bmV(h:Hs)(m:Bm)(v:Val)(vs:List Val):Option<|Val×Hs:=match m with
 |.append=>bmL h v<|C7 h vs
 |.extend=>bmL h v<|bmExtend h vs
 |.popAt=>bmL h v<|bmPopAt h vs
 |.remove=>bmL h v<|bmRemove h vs
 |.dget=>bmD h v<|Qj h vs
 |.dpop=>bmD h v<|PQ h vs
 |.dpopD=>bmD h v<|Ff h vs
 |_=>eN
abbrev isLst:Option Ob->Bool
 |some (.lst _)=>eP
 |_=>eQ
abbrev isDct:Option Ob->Bool
 |some (.dct _)=>eP
 |some (.dtp _)=>eP
 |_=>eQ
inductive Ty where|l|d|s|t
abbrev Bm.ty:Bm->Ty
 |.dget=>.d
 |.dgetD=>.d
 |.dpop=>.d
 |.dpopD=>.d
 |.setdefault=>.d
 |.join=>.s
 |.split=>.s
 |.replace=>.s
 |.upper=>.s
 |.partition=>.s
 |.sidx=>.s
 |.index=>.t
 |_=>.l
abbrev JC(p:Option Ob->Bool)(h:Hs):Val->Bool
 |.ref a=>p<|h a
 |_=>eQ
abbrev LW:Val->Bool
 |.str _=>eP
 |_=>eQ
abbrev IK:Val->Bool
 |.tup _=>eP
 |_=>eQ
abbrev bmTy(h:Hs)(m:Bm)(v:Val):Bool:=match m.ty with
 |.l=>JC isLst h v
 |.d=>JC isDct h v
 |.s=>LW v
 |.t=>JC isLst h v||IK v
abbrev fi:List (String×Val)->String->Val->List (String×Val)
 |[],f,v=>[(f,v)]
 |(g,x)::r,f,v=>if g=f then(g,v)::r else(g,x)::fi r f v
abbrev getV(env:Env)(i:Nat):Option Val:=match env[i]? with
 |some (eM v)=>eM v
 |_=>eN
abbrev gm:Val->Option Bool
 |.bl b=>eM b
 |_=>eN
abbrev fB:Val->Option Ad
 |.ref a=>eM a
 |_=>eN
abbrev insOf:Option Ob->Option (String×List (String×Val))
 |some (.ins C fs)=>eM (C,fs)
 |_=>eN
abbrev tupOf:Val->Option (List Val)
 |.tup xs=>eM xs
 |_=>eN
abbrev bindL:List Nat->List Val->Env->Option Env
 |[],[],env=>eM env
 |i::is,x::xs,env=>bindL is xs<|env.set i<|eM x
 |_,_,_=>eN
abbrev bind(p:Pt)(h:Hs)(v:Val)(env:Env):Option Env :=
 match p with
 |.one i=>eM<|env.set i<|eM v
 |.many is=>(tupOf v).bind λxs=>bindL is xs env
 |.nest i is=>(tupOf v).bind λxs=>match xs with
  |[x,y]=>(tupOf y).bind λys=>bindL is ys<|env.set i<|eM x
  |_=>eN
abbrev wComp(st:Hs->Prop)(step:Val->Hs->(Option Val->Hs->Prop)->XQ->Prop):List Val->List Val->Hs->(List Val->Hs->Prop)->XQ->Prop
 |[],į,h,Q,_=>st h/\Q į h
 |v::vs,į,h,Q,X=>st h/\step v h (λr h'=>wComp st step vs (į++r.toList) h' Q X) X
abbrev enumL:Nat->List Val->List Val
 |_,[]=>[]
 |k,x::xs=>.tup [.int k,x]::enumL (k+1) xs
abbrev itV(h:Hs):Val->Option ((Hs->Prop)×List Val)
 |.tup xs=>eM (λ_=>True,xs)
 |.scr ns=>eM (λ_=>True,ns.map .int)
 |.ref a=>(ff<|h a).map λxs=>(λg=>ff (g a)=eM xs,xs)
 |_=>eN
abbrev itemOf(k:Bool)(p:Val×Val):Val:=if k then p.1 else .tup [p.1,p.2]
abbrev fA(i j:Int):List Val:=(List.range (j - i).toNat).map λ(k:Nat)=>.int<|i+k
abbrev fK(h:Hs)(o k v:Val):Option Hs :=
 match o with
 |.ref p=>match h p with
  |some (.lst xs)=>(gk k).bind λn=>(ixN xs.length n).map λj=>upd h p<|.lst<|xs.set j v
  |some (.dct kvs)=>if fk k/\kvs.length<lim then eM (upd h p<|.dct<|fv kvs k v)else eN
  |some (.dtp kvs)=>if isKeyT k/\kvs.length<lim then eM (upd h p<|.dtp<|fv kvs k v)else eN
  |_=>eN
 |_=>eN
abbrev fM(h:Hs)(o:Val)(f:String)(v:Val):Option Hs :=
 match o with
 |.ref p=>match h p with
  |some (.ins C fs)=>if fs.length<900 then eM (upd h p<|.ins C<|fi fs f v)else eN
  |_=>eN
 |_=>eN
abbrev fL(h:Hs)(o:Val)(f:String):Option Val:=(fB o).bind λa=>(insOf<|h a).bind λp=>p.2.lookup f
abbrev clsV(h:Hs)(o:Val)(m:String):Option String:=(fB o).bind λa=>(insOf<|h a).bind λp=>if(p.2.lookup m).isNone then eM p.1 else eN
abbrev augV(op:Bop)(x y:Val):Option Val:=match op,x,y with
 |.add,.int i,.int j=>eM<|.int<|i+j
 |.sub,.int i,.int j=>eM<|.int<|i - j
 |_,_,_=>eN
@[irreducible] noncomputable def N0(F:Hs->(List Val->Hs->Prop)->XQ->Prop)(h:Hs)(Q:Q1)(X:XQ):Prop:=new h (.dct []) λr h1=>go (fB r) λp=>F h1 (λvs h2=>go (pairUp vs) λkvs=>h2 p=eM (.dct [])/\Q (.ref p) (upd h2 p<|.dct<|putAll [] kvs)) X
mutual
@[reducible] noncomputable def xE(Φ:Fs):E->Env->Hs->Q1->XQ->Prop
 |.cst v,_,h,Q,_=>Q v h
 |.glob _ v,_,h,Q,_=>Q v h
 |.var i,env,h,Q,_=>go (getV env i) λv=>Q v h
 |.bin op a b,env,h,Q,X=>xE Φ a env h (λv h1=>xE Φ b env h1 (λu h2=>(binV h2 op v u).wp h2 Q) X) X
 |.neg a,env,h,Q,X=>xE Φ a env h (λv h1=>go (gk v) λi=>Q (.int (-i)) h1) X
 |.not a,env,h,Q,X=>xE Φ a env h (λv h1=>go (gm v) λb=>Q (.bl (!b)) h1) X
 |.and a b,env,h,Q,X=>xE Φ a env h (λv h1=>go (gm v) λc=>if c=eP then xE Φ b env h1 Q X else Q (.bl eQ) h1) X
 |.or a b,env,h,Q,X=>xE Φ a env h (λv h1=>go (gm v) λc=>if c=eP then Q (.bl eP) h1 else xE Φ b env h1 Q X) X
 |.cmp op a b,env,h,Q,X=>xE Φ a env h (λv h1=>xE Φ b env h1 (λu h2=>go (fj h2 op v u) λc=>Q (.bl c) h2) X) X
 | .chain o1 o2 a b c,env,h,Q,X=>xE Φ a env h (λv h1=>xE Φ b env h1 (λu h2=>go (fj h2 o1 v u) λk =>
     if k=eP then xE Φ c env h2 (λw h3=>go (fj h3 o2 u w) λk2=>Q (.bl k2) h3) X else Q (.bl eQ) h2) X) X
 |.call f as,env,h,Q,X=>xA Φ as env h (λvs h1=>Φ f vs h1 Q X) X
 |.make C as,env,h,Q,X=>xA Φ as env h (λvs h1=>∀p,h1 p=eN->Φ (C ++ ".__init__") (.ref p::vs) (upd h1 p<|.ins C []) (λv h2=>v=.non/\Q (.ref p) h2) X) X
 |.meth C m o as,env,h,Q,X=>xE Φ o env h (λv h1=>clsV h1 v m=eM C/\xA Φ as env h1 (λvs h2=>Φ (C ++ "." ++ m) (v::vs) h2 Q X) X) X
 |.fld o f,env,h,Q,X=>xE Φ o env h (λv h1=>go (fL h1 v f) λu=>Q u h1) X
 |.bi f as,env,h,Q,X=>xA Φ as env h (λvs h1=>(biV h1 f vs).wp h1 Q) X
 |.bm m o as,env,h,Q,X=>xE Φ o env h (λv h1=>bmTy h1 m v=eP/\xA Φ as env h1 (λvs h2=>go (bmV h2 m v vs) λr=>Q r.1 r.2) X) X
 |.idx a i,env,h,Q,X=>xE Φ a env h (λv h1=>xE Φ i env h1 (λk h2=>go (fI h2 v k) λu=>Q u h2) X) X
 |.slc a lo hi,env,h,Q,X=>xE Φ a env h (λv h1=>xO Φ lo env h1 (λl h2=>xO Φ hi env h2 (λu h3=>(fJ h3 v l u).wp h3 Q) X) X) X
 |.tup es,env,h,Q,X=>xA Φ es env h (λvs h1=>Q (.tup vs) h1) X
 |.lst es,env,h,Q,X=>xA Φ es env h (λvs h1=>new h1 (.lst vs) Q) X
 |.dct es,env,h,Q,X=>N0 (xA Φ es env) h Q X
 |.ife c a b,env,h,Q,X=>xT Φ c env h (λk h1=>if k=eP then xE Φ a env h1 Q X else xE Φ b env h1 Q X) X
 | .comp ù n p it c e,env,h,Q,X=>xI Φ it env h (λst xs h1=>xs.length<lim/\
     wComp st (λv h2 K X2=>go (bind p h2 v<|Ñ n eN++ù.map λj=>(env[j]?).getD eN) λŤ =>
       xT Φ c Ť h2 (λk h3=>if k=eP then xE Φ e Ť h3 (λu h4=>K (eM u) h4) X2 else K eN h3) X2) xs [] h1 (λys h5=>new h5 (.lst ys) Q) λ_ _=>False) X
 |_,_,_,_,_=>False
@[reducible] noncomputable def xA(Φ:Fs):Es->Env->Hs->(List Val->Hs->Prop)->XQ->Prop
 |.nil,_,h,Q,_=>Q [] h
 |.cons e es,env,h,Q,X=>xE Φ e env h (λv h1=>xA Φ es env h1 (λvs h2=>Q (v::vs) h2) X) X
@[reducible] noncomputable def xJ(Φ:Fs):Es->Env->Hs->String->(String->Hs->Prop)->XQ->Prop
 |.nil,_,h,į,Q,_=>Q į h
 |.cons e es,env,h,į,Q,X=>xE Φ e env h (λv h1=>go (fmtV v) λs=>į.length+s.length<=lim/\xJ Φ es env h1 (į++s) Q X) X
@[reducible] noncomputable def xO(Φ:Fs):Oe->Env->Hs->(Option Int->Hs->Prop)->XQ->Prop
 |.none,_,h,Q,_=>Q eN h
 |.some e,env,h,Q,X=>xE Φ e env h (λv h1=>go (gk v) λi=>Q (eM i) h1) X
@[reducible] noncomputable def xT(Φ:Fs):Tt->Env->Hs->(Bool->Hs->Prop)->XQ->Prop
 |.yes,_,h,Q,_=>Q eP h
 |.val e,env,h,Q,X=>xE Φ e env h (λv h1=>go (JY h1 v) λk=>Q k h1) X
 |.not a,env,h,Q,X=>xT Φ a env h (λk h1=>Q (!k) h1) X
 |.and a b,env,h,Q,X=>xT Φ a env h (λk h1=>if k=eP then xT Φ b env h1 Q X else Q eQ h1) X
 |.or a b,env,h,Q,X=>xT Φ a env h (λk h1=>if k=eP then Q eP h1 else xT Φ b env h1 Q X) X
@[reducible] noncomputable def xI(Φ:Fs):It->Env->Hs->((Hs->Prop)->List Val->Hs->Prop)->XQ->Prop
 |.seq e,env,h,Q,X=>xE Φ e env h (λv h1=>go (itV h1 v) λp=>Q p.1 p.2 h1) X
 |.range a,env,h,Q,X=>xE Φ a env h (λv h1=>go (gk v) λn=>(-(2 ^ 62)<=n/\n<2 ^ 62)/\Q (λ_=>True) (fA 0 n) h1) X
 |.enum e,env,h,Q,X=>xE Φ e env h (λv h1=>go (tupOf v) λxs=>Q (λ_=>True) (enumL 0 xs) h1) X
 |_,_,_,_,_=>False
end
@[reducible] noncomputable def wE:Fs->E->Env->Hs->Q1->XQ->Prop:=xE
@[reducible] noncomputable def wA:Fs->Es->Env->Hs->(List Val->Hs->Prop)->XQ->Prop:=xA
@[reducible] noncomputable def wJ:Fs->Es->Env->Hs->String->(String->Hs->Prop)->XQ->Prop:=xJ
@[reducible] noncomputable def wO:Fs->Oe->Env->Hs->(Option Int->Hs->Prop)->XQ->Prop:=xO
@[reducible] noncomputable def wT:Fs->Tt->Env->Hs->(Bool->Hs->Prop)->XQ->Prop:=xT
@[reducible] noncomputable def wI:Fs->It->Env->Hs->((Hs->Prop)->List Val->Hs->Prop)->XQ->Prop:=xI
noncomputable abbrev NQ:=Env->Hs->Prop
noncomputable abbrev EQ:=Env->String->Hs->Prop
abbrev wFor(st:Hs->Prop)(W:Val->Env->Hs->NQ->NQ->Prop)(N:NQ):List Val->Env->Hs->Prop
 |[],env,h=>st h/\N env h
 |v::vs,env,h=>st h/\W v env h (λe g=>wFor st W N vs e g) N
abbrev wWhile(T:Env->Hs->(Bool->Hs->Prop)->Prop)(W:Env->Hs->NQ->NQ->Prop)(N:NQ):Nat->Env->Hs->Prop
 |0,_,_=>False
 |n+1,env,h=>T env h λk h1=>if k=eP then W env h1 (λe g=>wWhile T W N n e g) N else N env h1
mutual
@[reducible] noncomputable def xS(Φ:Fs):S->Env->Hs->NQ->Q1->NQ->NQ->EQ->Prop
 |.set p e,env,h,N,_,_,_,X=>wE Φ e env h (λv h1=>go (bind p h1 v env) λŤ=>N Ť h1)<|X env
 |.setIdx a i e,env,h,N,_,_,_,X=>wE Φ e env h (λv h1=>wE Φ a env h1 (λo h2=>wE Φ i env h2 (λk h3=>go (fK h3 o k v) λg=>N env g)<|X env)<|X env)<|X env
 |.setFld o f e,env,h,N,_,_,_,X=>wE Φ e env h (λv h1=>wE Φ o env h1 (λu h2=>go (fM h2 u f v) λg=>N env g)<|X env)<|X env
 |.augFld o f op n,env,h,N,_,_,_,X=>wE Φ o env h (λu h1=>go (fL h1 u f) λx=>go (augV op x<|.int n) λy=>go (fM h1 u f y) λg=>N env g)<|X env
 |.augIdx a i op n,env,h,N,_,_,_,X=>wE Φ a env h (λo h1=>wE Φ i env h1 (λk h2=>go (fI h2 o k) λx=>go (augV op x<|.int n) λy=>go (fK h2 o k y) λg=>N env g)<|X env)<|X env
 |.expr e,env,h,N,_,_,_,X=>wE Φ e env h (λ_ h1=>N env h1)<|X env
 |.ret e,env,h,_,R,_,_,X=>wE Φ e env h R<|X env
 |.retN,_,h,_,R,_,_,_=>R .non h
 |.ite c a b,env,h,N,R,B,C,X=>wT Φ c env h (λk h1=>if k=eP then xSs Φ a env h1 N R B C X else xSs Φ b env h1 N R B C X)<|X env
 |.whl c b,env,h,N,R,_,_,X=>∃n,wWhile (λe g K=>wT Φ c e g K<|X e) (λe g K M=>xSs Φ b e g K R M K X) N n env h
 |.for p it b,env,h,N,R,_,_,X=>wI Φ it env h (λst xs h1=>wFor st (λv e g K M=>go (bind p g v e) λe2=>xSs Φ b e2 g K R M K X) N xs env h1)<|X env
 | .forI k p e b,env,h,N,R,_,_,X=>wE Φ e env h (λv h1=>go (fB v) λa=>go (gj<|h1 a) λkvs =>
     wFor (λg=>g a=eM (.frz kvs)) (λv e g K M=>go (bind p g v e) λe2=>xSs Φ b e2 g K (λu g2=>g2 a=eM (.frz kvs)/\R u (upd g2 a<|.dct kvs)) M K λ_ _ _=>False)
       (λe g=>g a=eM (.frz kvs)/\N e (upd g a<|.dct kvs)) (kvs.map<|itemOf k) env (upd h1 a<|.frz kvs))<|X env
 |.never,_,_,_,_,_,_,_=>False
 |_,_,_,_,_,_,_,_=>False
@[reducible] noncomputable def xSs(Φ:Fs):Ss->Env->Hs->NQ->Q1->NQ->NQ->EQ->Prop
 |.nil,env,h,N,_,_,_,_=>N env h
 |.cons s ss,env,h,N,R,B,C,X=>xS Φ s env h (λe g=>xSs Φ ss e g N R B C X) R B C X
@[reducible] noncomputable def xH(Φ:Fs):Hn->String->Env->Hs->NQ->Q1->NQ->NQ->Prop
 |.nil,_,_,_,_,_,_,_=>False
 |.cons K eN b r,c,env,h,N,R,B,C=>if fY c K=eP then xSs Φ b env h N R B C (λ_ _ _=>False)else xH Φ r c env h N R B C
 |.cons K (eM i) b r,c,env,h,N,R,B,C=>if fY c K=eP then(∀p,h p=eN->xSs Φ b (env.set i<|eM<|.ref p) (upd h p<|.exc c) (λe g=>N (e.set i eN) g) R (λe g=>B (e.set i eN) g) (λe g=>C (e.set i eN) g) λ_ _ _=>False)
  else xH Φ r c env h N R B C
end
@[reducible] noncomputable def wS:Fs->S->Env->Hs->NQ->Q1->NQ->NQ->EQ->Prop:=xS
@[reducible] noncomputable def wSs:Fs->Ss->Env->Hs->NQ->Q1->NQ->NQ->EQ->Prop:=xSs
structure Fn where
 ar:Nat
 sz:Nat
 body:Ss
noncomputable abbrev Pg:=String->Option Fn
class In(P:Pg)(f:String)(d:outParam Fn):Prop where
 eq:P f=eM d
abbrev Fn.env(d:Fn)(vs:List Val):Env:=vs.map eM++Ñ (d.sz - d.ar) eN
abbrev wF0(P:Pg):Nat->Fs
 |0=>λ_ _ _ _ _=>False
 |n+1=>λf vs h Q X=>go (P f) λd=>vs.length=d.ar/\wSs (wF0 P n) d.body (d.env vs) h (λ_ g=>Q .non g) Q (λ_ _=>False) (λ_ _=>False) λ_ c g=>X c g
@[irreducible] noncomputable def wF(P:Pg)(n:Nat):Fs:=wF0 P n
variable {P:Pg} {n:Nat}
def wF_eq:wF P n=wF0 P n:=by unfold wF;rfl
def Zd{f:String}{d:Fn}{vs:List Val}{X:XQ}(e:P f=eM d)(hl:vs.length=d.ar)
  (q:wSs (wF P n) d.body (d.env vs) h (λ_ g=>Q .non g) Q (λ_ _=>False) (λ_ _=>False) λ_ c g=>X c g):wF P (n+1) f vs h Q X:=by
 rw[wF_eq]at q ⊢;exact eW e ⟨hl,q⟩
section
variable {Φ:Fs}{env:Env}{h:Hs}{Q:Q1}{X:XQ}{a b c e o:E}{as:Es}{v u:Val}
def Qa{es:Es}(q:new h (.dct []) λr h1=>go (fB r) λp=>wA Φ es env h1 (λvs h2=>go (pairUp vs) λkvs=>h2 p=eM (.dct [])/\Q (.ref p) (upd h2 p<|.dct<|putAll [] kvs)) X):wE Φ (.dct es) env h Q X:=by show N0 _ _ _ _;unfold N0;exact q
variable {QA:List Val->Hs->Prop}{QO:Option Int->Hs->Prop}{QT:Bool->Hs->Prop}{QI:(Hs->Prop)->List Val->Hs->Prop}
def QM(q:QA [] h):wA Φ .nil env h QA X:=q
end
section
variable {Φ:Fs}{env:Env}{h:Hs}{N B C:NQ}{R:Q1}{X:EQ}{a b c e o i:E}{as:Es}{v u:Val}{t:Tt}{s1 s2:Ss}{s:S}{p:Pt}{it:It}{hs:Hn}
def OR(q:N env h):wSs Φ .nil env h N R B C X:=q
end
section
variable {h:Hs}{Q:Q1}{i j k:Int}{a b:Ad}{xs ys:List Val}{v u:Val}{K:Val->Prop}{KB:Bool->Prop}
def wp_val{r:Rs}(e:r=.val v)(q:Q v h):r.wp h Q:=by rw[e,Rs.wp_val];exact q
def wp_new{r:Rs}{o:Ob}(e:r=.new o)(q:new h o Q):r.wp h Q:=by rw[e,Rs.wp_new];exact q
def b_add(q:Q (.int<|i+j) h):(binV h .add (.int i)<|.int j).wp h Q:=wp_val rfl q
def b_sub(q:Q (.int<|i - j) h):(binV h .sub (.int i)<|.int j).wp h Q:=wp_val rfl q
def b_mul(m:mulOk i j)(q:Q (.int<|i*j) h):(binV h .mul (.int i)<|.int j).wp h Q:=wp_val (gw m) q
def b_fdiv(m:0<j/\j<1073741824)(q:Q (.int<|i / j) h):(binV h .fdiv (.int i)<|.int j).wp h Q:=wp_val (gw m) q
def b_mod(m:0<j)(q:Q (.int<|i % j) h):(binV h .mod (.int i)<|.int j).wp h Q:=wp_val (gw m) q
def b_pow(m:0<=j/\j<=1000000/\i.natAbs<2 ^ 64)(q:Q (.int<|i ^ j.toNat) h):(binV h .pow (.int i)<|.int j).wp h Q:=wp_val (gw m) q
def L1{z:Int}(m:0<=j/\j<=1000000/\i.natAbs<2 ^ 64)(e:i ^ j.toNat=z)(q:Q (.int z) h):(binV h .pow (.int i)<|.int j).wp h Q:=b_pow m (by rw[e];exact q)
def Py(m:xs.length+ys.length<=lim)(q:Q (.tup<|xs++ys) h):(binV h .add (.tup xs)<|.tup ys).wp h Q:=wp_val (gw m) q
def MC(e1:h a=eM (.lst xs))(e2:h b=eM (.lst ys))(m:(xs++ys).length<=lim)(q:new h (.lst<|xs++ys) Q):(binV h .add (.ref a)<|.ref b).wp h Q:=by refine wp_new ?_ q;show(match h a,h b with|some (.lst xs),eM (.lst ys)=>Rs.lst (xs++ys)|_,_=>.no:Rs)=_;simp only[e1,e2,Rs.lst];rw[gw m]
def lsE(e1:h a=eM (.lst xs)):ff (h a)=eM xs:=by rw[e1];rfl
variable {kvs:List (Val×Val)}
def dcE(e1:h a=eM (.dct kvs)):gj (h a)=eM kvs:=by rw[e1];rfl
def Uh(e1:h a=eM (.lst xs))(m:(-(2 ^ 62)<k/\k<2 ^ 62/\xs.length*k.toNat<=lim))(q:new h (.lst (Ñ k.toNat xs).flatten) Q):(binV h .mul (.ref a)<|.int k).wp h Q:=by refine wp_new ?_ q;show(match h a with|some (.lst xs)=>(if -(2 ^ 62)<k/\k<2 ^ 62/\xs.length*k.toNat<=lim then Rs.lst (Ñ k.toNat xs).flatten else .no)|_=>.no:Rs)=_;simp only[e1,Rs.lst];rw[gw m,gw<|by simpa[aC]using m.2.2]
def g_int{K:Int->Prop}(q:K i):go (gk<|.int i) K:=eW rfl q
def g_bl{b:Bool}(q:KB b):go (gm<|.bl b) KB:=eW rfl q
def g_ref{K:Ad->Prop}(q:K a):go (fB<|.ref a) K:=eW rfl q
def g_tbl{b:Bool}(q:KB b):go (JY h<|.bl b) KB:=eW rfl q
def RX(q:KB<|gC (i≠0)):go (JY h<|.int i) KB:=eW rfl q
def Sg(e:h a=eM (.lst xs))(q:KB (!xs.isEmpty)):go (JY h<|.ref a) KB:=eW (by unfold JY;simp only[e]) q
def eX(e:atI xs i=eM v)(q:K v):go (fI h (.tup xs)<|.int i) K:=eW e q
def Zk(e1:h a=eM (.lst xs))(e:atI xs i=eM v)(q:K v):go (fI h (.ref a)<|.int i) K:=eW (by unfold fI;simp only[e1];exact e) q
def Zz{k:Val}(e1:h a=eM (.dct kvs))(hk:fk k=eP)(e:fq kvs k=eM v)(q:K v):go (fI h (.ref a) k) K:=eW (by unfold fI;simp only[e1];rw[gw hk];exact e) q
variable {ns:List Int}
def Ih(e:atI (ns.map Val.int) i=eM v)(q:K v):go (fI h (.scr ns)<|.int i) K:=eW e q
def c_lt(q:KB<|gC (i<j)):go (fj h .lt (.int i)<|.int j) KB:=eW rfl q
def c_gt(q:KB<|gC (j<i)):go (fj h .gt (.int i)<|.int j) KB:=eW rfl q
def c_le(q:KB<|gC (i<=j)):go (fj h .le (.int i)<|.int j) KB:=eW rfl q
def c_ge(q:KB<|gC (j<=i)):go (fj h .ge (.int i)<|.int j) KB:=eW rfl q
def UW:D.eqv (.int i) (.int j)=gC (i=j):=by rw[D.eqv];by_cases e:i=j<;>simp[e]
variable {s:String}
def HX{t:String}:D.eqv (.str s) (.str t)=gC (s=t):=by rw[D.eqv];by_cases e:s=t<;>simp[e]
def c_eqI(q:KB<|gC (i=j)):go (fj h .eq (.int i)<|.int j) KB:=eW (by show eM (D.eqv (.int i)<|.int j)=_;rw[UW]) q
def c_neI(q:KB (!gC (i=j))):go (fj h .ne (.int i)<|.int j) KB:=eW (by show eM (!D.eqv (.int i) (.int j))=_;rw[UW]) q
def c_eqS{t:String}(q:KB<|gC (s=t)):go (fj h .eq (.str s)<|.str t) KB:=eW (by show eM (D.eqv (.str s)<|.str t)=_;rw[HX]) q
def SR{t:String}(q:KB (!gC (s=t))):go (fj h .ne (.str s)<|.str t) KB:=eW (by show eM (!D.eqv (.str s) (.str t))=_;rw[HX]) q
variable {c:Bool}
def c_eqB{d:Bool}(q:KB<|c==d):go (fj h .eq (.bl c)<|.bl d) KB:=eW (by show eM (D.eqv (.bl c)<|.bl d)=_;rw[D.eqv]) q
def c_isN(q:KB<|gC (v=.non)):go (fj h .is v .non) KB:=eW (by unfold fj;rfl) q
def c_notN(q:KB (!gC (v=.non))):go (fj h .isnot v .non) KB:=eW (by unfold fj;rfl) q
def IR{ms:List Int}(e1:eY xs=eM ns)(e2:eY ys=eM ms)(q:KB<|fG ms ns):go (fj h .gt (.tup xs)<|.tup ys) KB:=eW (by show(eY ys).bind _=_;rw[e1,e2];rfl) q
variable {n:Nat} {Ŏ:Env}
def Ld{env:Env}{K:Env->Prop}(e:env.set n (eM v)=Ŏ)(q:K Ŏ):go (bind (.one n) h v env) K:=by subst e;exact eW rfl q
def Pj{is:List Nat}{env:Env}{K:Env->Prop}(e:bindL is xs env=eM Ŏ)(q:K Ŏ):go (bind (.many is) h (.tup xs) env) K:=eW e q
def SJ{K:Hs->Prop}(e1:h a=eM (.lst xs))(e:ixN xs.length i=eM n)(q:K<|upd h a<|.lst<|xs.set n v):go (fK h (.ref a) (.int i) v) K:=eW (by unfold fK;simp only[e1,gk,ú,e,Ŋ]) q
def ZM{K:Hs->Prop}{k:Val}(e1:h a=eM (.dct kvs))(m:fk k=eP/\kvs.length<lim)(q:K<|upd h a<|.dct<|fv kvs k v):go (fK h (.ref a) k v) K:=eW (by unfold fK;simp only[e1];rw[gw m]) q
def XJ(e1:h a=eM (.dct kvs))(hk:fk v=eP)(q:KB<|fu kvs v):go (fj h .isin v<|.ref a) KB:=eW (by show inV h v (.ref a)=_;unfold inV;simp only[e1];rw[gw hk]) q
def Jn(e1:h a=eM (.dct kvs))(hk:fk v=eP)(q:KB (!fu kvs v)):go (fj h .notin v<|.ref a) KB:=eW (by show(inV h v<|.ref a).map _=_;unfold inV;simp only[e1];rw[gw hk];rfl) q
variable {C:String} {f:String}
def Yx{fs:List (String×Val)}{K:Hs->Prop}(e1:h a=eM (.ins C fs))(m:fs.length<900)(q:K<|upd h a<|.ins C<|fi fs f v):go (fM h (.ref a) f v) K:=eW (by unfold fM;simp only[e1];rw[gw m]) q
def Lu{fs:List (String×Val)}(e1:h a=eM (.ins C fs))(e:fs.lookup f=eM v)(q:K v):go (fL h (.ref a) f) K:=eW (by unfold fL fB;simp only[e1,insOf,ú];exact e) q
variable {P:Prop}
def Ll{m:String}{fs:List (String×Val)}(e1:h a=eM (.ins C fs))(e:fs.lookup m=eN)(q:P):clsV h (.ref a) m=eM C/\P:=⟨by unfold clsV fB;simp only[e1,insOf,ú,e,Option.isNone_none,if_true],q⟩
def ag_add(q:K<|.int<|i+j):go (augV .add (.int i)<|.int j) K:=eW rfl q
def ln_lst(e1:h a=eM (.lst xs))(q:Q (.int xs.length) h):(biV h .len [.ref a]).wp h Q:=wp_val (by show fN h (.ref a)=_;unfold fN;dsimp only;rw[e1]) q
def ln_scr(q:Q (.int ns.length) h):(biV h .len [.scr ns]).wp h Q:=wp_val rfl q
def ln_tup(q:Q (.int xs.length) h):(biV h .len [.tup xs]).wp h Q:=wp_val rfl q
def in_str(m:s.length<=640/\s.toList≠[]/\s.toList.all figB=eP)(q:Q (.int<|decN s.toList) h):(biV h .int [.str s]).wp h Q:=wp_val (gw m) q
def Dg{bs:List Bool}(e1:h a=eM (.lst xs))(e2:blsOf xs=eM bs)(q:Q (.bl<|bs.all id) h):(biV h .all [.ref a]).wp h Q:=wp_val (by show Rs.ofO ((ff<|h a).bind _)=_;rw[lsE e1,ú,e2];rfl) q
def SQ{K:String->Prop}(q:K s):go (Qw<|.str s) K:=eW rfl q
variable {m:Bm}
def SC(hm:m=.join)(q:P):bmTy h m (.str s)=eP/\P:=⟨by subst hm;rfl,q⟩
def Sk(q:Q (.int i) h):(biV h .int [.int i]).wp h Q:=wp_val rfl q
def in_bl(q:Q (.int<|if c then 1 else 0) h):(biV h .int [.bl c]).wp h Q:=wp_val rfl q
def tp_lst(e1:h a=eM (.lst xs))(q:Q (.tup xs) h):(biV h .tuple [.ref a]).wp h Q:=wp_val (by show Ni h (.ref a)=_;unfold Ni;dsimp only;rw[e1]) q
def R3(q:Q (.tup xs) h):(biV h .tuple [.tup xs]).wp h Q:=wp_val rfl q
def Dr{Ts:List String}(e:isiAny h v Ts=eM c)(q:Q (.bl c) h):(biV h (.isi Ts) [v]).wp h Q:=wp_val (by show Rs.ofO ((isiAny h v Ts).map .bl)=_;rw[e];rfl) q
def ls_lst(e1:h a=eM (.lst xs))(q:new h (.lst xs) Q):(biV h .list [.ref a]).wp h Q:=wp_new (by show toList h (.ref a)=_;unfold toList;dsimp only;rw[e1]) q
def Sj(q:new h (.lst xs) Q):(biV h .list [.tup xs]).wp h Q:=wp_new rfl q
variable {lo:Option Int} {hi:Option Int}
def fP(n:¬ (fE xs.length 0 lo=0/\fE xs.length xs.length hi=xs.length))(q:Q (.tup<|cut xs lo hi) h):(fJ h (.tup xs) lo hi).wp h Q:=wp_val (by unfold fJ;simp only;rw[gx n]) q
def IU(hm:m.ty=.l\/m.ty=.t)(e:h a=eM (.lst xs))(q:P):bmTy h m (.ref a)=eP/\P:=⟨by unfold bmTy;rcases hm with hm|hm<;>rw[hm]<;>simp[JC,e,isLst],q⟩
def LK(hm:m.ty=.d)(e:h a=eM (.dct kvs))(q:P):bmTy h m (.ref a)=eP/\P:=⟨by unfold bmTy;rw[hm];simp[JC,e,isDct],q⟩
abbrev PX:Bi->Bool
 |.sorted=>eP
 |.sortedI=>eP
 |_=>eQ
def CN{f:Bi}(hf:PX f=eP)(e:sortAny h v=eM ns)(m:ns.length<64)(q:new h (.lst<|(sortI ns).map Val.int) Q):(biV h f [v]).wp h Q:=by
 cases f with
 |sorted=>exact wp_new (by show JO h v=_;unfold JO;simp only[e];exact gw m) q
 |sortedI=>exact wp_new (by show biSortedI h v=_;unfold biSortedI;simp only[e];exact gw m) q
 |_=>cases hf
def Pd{f:Bi}(e1:h a=eM (.lst<|ns.map Val.int))(e2:eY (ns.map Val.int)=eM ns)(m:ns.length<64)(q:new h (.lst<|(sortI ns).map Val.int) Q)(hf:PX f=eP:=by rfl):(biV h f [.ref a]).wp h Q:=CN hf (by unfold sortAny;simp only[e1,e2]) m q
def Uj{f:Bi}(e1:h a=eM (.dct kvs))(e2:keysOf kvs=eM ns)(m:ns.length<64)(q:new h (.lst<|(sortI ns).map Val.int) Q)(hf:PX f=eP:=by rfl):(biV h f [.ref a]).wp h Q:=CN hf (by unfold sortAny;simp only[e1,e2]) m q
def Pp(e1:h a=eM (.lst []))(q:Q .non h):(biV h .minD [.ref a]).wp h Q:=wp_val (by show fO h (.ref a)=_;unfold fO;simp only[e1,ff,ú,rowsOf]) q
def FY{x:List Int}{r:List (List Int)}(e1:h a=eM (.lst xs))(e2:rowsOf xs=eM (x::r))(q:Q (.tup<|(minR x r).map Val.int) h):(biV h .minD [.ref a]).wp h Q:=wp_val (by show fO h (.ref a)=_;unfold fO;simp only[e1,ff,ú,e2]) q
def sl_str(n:s.length<=lim)(q:Q (.str<|Υ<|cut s.toList lo hi) h):(fJ h (.str s) lo hi).wp h Q:=wp_val (by unfold fJ;simp only;rw[gw n]) q
def sl_lst(e1:h a=eM (.lst xs))(q:new h (.lst<|cut xs lo hi) Q):(fJ h (.ref a) lo hi).wp h Q:=wp_new (by unfold fJ;simp only[e1,ff]) q
def sl_scr(q:new h (.lst<|cut (ns.map Val.int) lo hi) Q):(fJ h (.scr ns) lo hi).wp h Q:=wp_new rfl q
def Yn{K:Val×Hs->Prop}(e1:h a=eM (.lst xs))(m:xs.length<lim)(q:K (.non,upd h a<|.lst<|xs++[v])):go (bmV h .append (.ref a) [v]) K:=eW (by show(ff<|h a).bind _=_;rw[lsE e1];exact gw m) q
def CQ{K:Val×Hs->Prop}(e1:h a=eM (.dct kvs))(hk:fk v=eP)(q:K ((fq kvs v).getD .non,h)):go (bmV h .dget (.ref a) [v]) K:=eW (by show(gj<|h a).bind _=_;rw[dcE e1];exact gw hk) q
def it_lst{K:(Hs->Prop)×List Val->Prop}(e1:h a=eM (.lst xs))(q:K (λg=>ff (g a)=eM xs,xs)):go (itV h<|.ref a) K:=eW (by unfold itV;simp only[e1,ff,Ŋ]) q
def it_scr{K:(Hs->Prop)×List Val->Prop}(q:K (λ_=>True,ns.map Val.int)):go (itV h<|.scr ns) K:=eW rfl q
def it_tup{K:(Hs->Prop)×List Val->Prop}(q:K (λ_=>True,xs)):go (itV h<|.tup xs) K:=eW rfl q
def Sr{K:List Val->Prop}(q:K xs):go (Dx h<|.tup xs) K:=eW rfl q
def Sx{K:List Val->Prop}(e1:h a=eM (.lst xs))(q:K xs):go (Dx h<|.ref a) K:=eW (by unfold Dx;simp only[e1,ff]) q
variable {A:Prop} {B:Prop}
def fQ(e:c=eP)(q:A):if c=eP then A else B:=by rw[gw e];exact q
def fR(e:c=eQ)(q:B):if c=eP then A else B:=by rw[gx<|by rw[e];decide];exact q
def fT(q:c=eP->A)(r:c=eQ->B):if c=eP then A else B:=by cases c;exact r rfl;exact q rfl
variable {p:Prop}
def fS[Decidable p](q:p->A)(r:¬p->B):if decide p=eP then A else B:=by
 by_cases e:p
 .rw[gw<|gz e];exact q e
 .rw[gx<|by simpa using e];exact r e
def Gb[Decidable p](q:¬p->A)(r:p->B):if(!decide p)=eP then A else B:=by
 by_cases e:p
 .rw[gx<|by simpa using e];exact r e
 .rw[gw<|by simpa using e];exact q e
end
structure Ext(h g:Hs):Prop where
 get:∀{a:Ad}{o:Ob},h a=eM o->g a=eM o
variable {h:Hs}
def Ext.refl:Ext h h:=⟨λe=>e⟩
def Ext.trans{g k:Hs}(e:Ext h g)(f:Ext g k):Ext h k:=⟨λx=>f.get<|e.get x⟩
variable {p:Ad} {o:Ob}
def Ext.new(e:h p=eN):Ext h<|upd h p o:=⟨λ{a u} x=>by
  rw[eR<|by intro z;rw[z,e]at x;cases x];exact x⟩
structure ExtB(w:Ad)(h g:Hs):Prop where
 get:∀{a:Ad}{o:Ob},a≠w->h a=eM o->g a=eM o
variable {a:Ad}
def Zc(x:h a=eM o)(n:h p=eN):a≠p:=by intro z;rw[z,n]at x;cases x
def ne_none'(n:h p=eN)(x:h a=eM o):a≠p:=Zc x n
def upd_ne'{b:Ad}{r:Option Ob}(n:b≠a)(e:h b=r):upd h a o b=r:=by rw[eR n];exact e
inductive Sm1 {α:Type}(p:α->Prop):Prop|mk (a:α) (h:p a)
inductive Sm2 {α β:Type}(p:α->β->Prop):Prop|mk (a:α) (b:β) (h:p a b)
inductive Sm3 {α β γ:Type}(p:α->β->γ->Prop):Prop|mk (a:α) (b:β) (c:γ) (h:p a b c)
inductive Sm4 {α β γ δ:Type}(p:α->β->γ->δ->Prop):Prop|mk (a:α) (b:β) (c:γ) (d:δ) (h:p a b c d)
inductive Sm6 {α β γ δ ε ζ:Type}(p:α->β->γ->δ->ε->ζ->Prop):Prop|mk (a:α) (b:β) (c:γ) (d:δ) (e:ε) (f:ζ) (h:p a b c d e f)
inductive Cj3 (a b c:Prop):Prop|mk (h1:a) (h2:b) (h3:c)
inductive Cj4 (a b c d:Prop):Prop|mk (h1:a) (h2:b) (h3:c) (h4:d)
inductive Cj7 (a b c d e f g:Prop):Prop|mk (h1:a) (h2:b) (h3:c) (h4:d) (h5:e) (h6:f) (h7:g)
variable {st:Hs->Prop} {N:NQ} {xs:List Val}
def Zo{W:Val->Env->Hs->NQ->NQ->Prop}(I:Nat->Env->Hs->Prop){env:Env}(h0:I 0 env h)(Δ:∀i e g,i<=xs.length->I i e g->st g)
  (step:∀i v e g,xs[i]?=eM v->I i e g->∀K:NQ,(∀e' g',I (i+1) e' g'->K e' g')->W v e g K N) (fin:∀e g,I xs.length e g->N e g):wFor st W N xs env h:=by
 have key:∀(ys:List Val) (i:Nat) e g,xs.drop i=ys->i<=xs.length->I i e g->wFor st W N ys e g:=by
  intro ys;induction ys with
  |nil =>
   intro i e g hd hi hI;have:i=xs.length:=by have:=congrArg List.length hd;simp at this;lia
   subst this;exact⟨Δ _ e g (Ó _) hI,fin e g hI⟩
  |cons v vs ih =>
   intro i e g hd hi hI;have Ϡ:i<xs.length:=by have:=congrArg List.length hd;simp at this;lia
   have hv:xs[i]?=eM v:=by have:=congrArg (λl=>l[0]?) hd;simpa using this
   refine⟨Δ i e g hi hI,step i v e g hv hI _ λe' g' hI'=>ih (i+1) e' g' ?_ (by lia) hI'⟩;have:=congrArg List.tail hd;simpa using this
 exact key xs 0 env h (by simp) (by lia) h0
def Bh{T:Env->Hs->(Bool->Hs->Prop)->Prop}{W:Env->Hs->NQ->NQ->Prop}(I:Nat->Env->Hs->Prop){env:Env}{m:Nat}(h0:I m env h)
  (step:∀m e g,I m e g->∀K:NQ,(∀m' e' g',m'<m->I m' e' g'->K e' g')->T e g λk h1=>if k=eP then W e h1 K N else N e h1):∃n,wWhile T W N n env h:=by
 refine⟨m+1,?_⟩;have key:∀(n m:Nat) e g,m<n->I m e g->wWhile T W N n e g:=by
  intro n;induction n with
  |zero=>intro m e g hm;lia
  |succ n ih=>intro m e g hm hI;exact step m e g hI _ λm' e' g' hm' hI'=>ih m' e' g' (by lia) hI'
 exact key (m+1) m env h (by lia) h0
variable {Q:List Val->Hs->Prop} {X:XQ}
def Oj{step:Val->Hs->(Option Val->Hs->Prop)->XQ->Prop}(I:Nat->List Val->Hs->Prop)(h0:I 0 [] h)(Δ:∀i ys g,i<=xs.length->I i ys g->st g)
  (go:∀i v ys g,xs[i]?=eM v->I i ys g->∀K,(∀r g',I (i+1) (ys++r.toList) g'->K r g')->step v g K X) (fin:∀ys g,I xs.length ys g->Q ys g):wComp st step xs [] h Q X:=by
 have key:∀(zs:List Val) (i:Nat) ys g,xs.drop i=zs->i<=xs.length->I i ys g->wComp st step zs ys g Q X:=by
  intro zs;induction zs with
  |nil =>
   intro i ys g hd hi hI;have:i=xs.length:=by have:=congrArg List.length hd;simp at this;lia
   subst this;exact⟨Δ _ ys g (Ó _) hI,fin ys g hI⟩
  |cons v vs ih =>
   intro i ys g hd hi hI;have Ϡ:i<xs.length:=by have:=congrArg List.length hd;simp at this;lia
   have hv:xs[i]?=eM v:=by have:=congrArg (λl=>l[0]?) hd;simpa using this
   refine⟨Δ i ys g hi hI,go i v ys g hv hI _ λr g' hI'=>ih (i+1) _ g' ?_ (by lia) hI'⟩;have:=congrArg List.tail hd;simpa using this
 exact key xs 0 [] h (by simp) (by lia) h0
def Xx{step:Val->Hs->(Option Val->Hs->Prop)->XQ->Prop}(f:Val->Option Val)(Δ:st h)
  (go:∀v∈xs,∀K,K (f v) h->step v h K X) (fin:Q (xs.filterMap f) h):wComp st step xs [] h Q X:=by
 have key:∀(zs ys:List Val),(∀v∈zs,v∈xs)->Q (ys++zs.filterMap f) h->wComp st step zs ys h Q X:=by
  intro zs;induction zs with
  |nil=>intro ys _ q;exact⟨Δ,⇑q⟩
  |cons v vs ih =>
   intro ys hm q;refine⟨Δ,go v (hm v<|by simp) _<|ih _ (λw hw=>hm w<|by simp[hw]) ?_⟩;cases e:f v with
   |none=>simpa[Ĕ,e]using q
   |some u=>simpa[Ĕ,e]using q
 exact key xs [] (λ_ h=>h) ⇑fin
section
variable {Φ:Fs}{env:Env}{h:Hs}{Q:Q1}{X:XQ}{a b c e o:E}{as:Es}{v u:Val}
def q_e_bi{f:Bi}:(wE Φ (.bi f as) env h Q X)=(wA Φ as env h (λvs h1=>(biV h1 f vs).wp h1 Q) X):=rfl
variable {es:Es}
def q_e_dct:(wE Φ (.dct es) env h Q X)=(new h (.dct []) λr h1=>go (fB r) λp=>wA Φ es env h1 (λvs h2=>go (pairUp vs) λkvs=>h2 p=eM (.dct [])/\Q (.ref p) (upd h2 p<|.dct<|putAll [] kvs)) X):=by show N0 _ _ _ _=_;unfold N0;rfl
variable {QA:List Val->Hs->Prop}{QO:Option Int->Hs->Prop}{QT:Bool->Hs->Prop}{QI:(Hs->Prop)->List Val->Hs->Prop}
def q_a_nil:(wA Φ .nil env h QA X)=(QA [] h):=rfl
def q_a_cons:(wA Φ (.cons e es) env h QA X)=(wE Φ e env h (λv h1=>wA Φ es env h1 (λvs h2=>QA (v::vs) h2) X) X):=rfl
end
mutual
theorem D.eqv_refl:∀d:D,D.eqv d d=eP
 |.non=>by simp[D.eqv]
 |.bl _=>by simp[D.eqv]
 |.int _=>by simp[D.eqv]
 |.str _=>by simp[D.eqv]
 |.tup ds=>by simp only[D.eqv];exact D.eqvs_refl ds
 |.lst ds=>by simp only[D.eqv];exact D.eqvs_refl ds
theorem D.eqvs_refl:∀ds:List D,D.eqvs ds ds=eP
 |[]=>by simp[D.eqvs]
 |d::ds=>by simp only[D.eqvs,D.eqv_refl d,D.eqvs_refl ds,Bool.and_self]
end
def AI{α:Type}{o:Option α}{k k':α->Prop}(h:go o k)(f:∀a,k a->k' a):go o k':=by
 cases o with
 |none=>rw[FJ]at h;exact h.elim
 |some a=>rw[eV]at h ⊢;exact f a h
section
variable {Φ:Fs}{env:Env}{h:Hs}{Q:Q1}{X:XQ}{a:Ad}{v:Val}{kvs:List (Val×Val)}
def L4(q:∀p,h p=eN->Q (.ref p) (upd h p<|.dct [])):wE Φ (.dct .nil) env h Q X:=by refine Qa<|Xm λp hp=>g_ref<|QM<|eW rfl ⟨eS,?_⟩;rw[eU];exact q p hp
def dw0(q:∀p,h p=eN->Q (.ref p) (upd h p<|.dct [])):N0 (xA Φ .nil env) h Q X:=L4 q
def dw{F:Hs->(List Val->Hs->Prop)->XQ->Prop}(q:new h (.dct []) λr h1=>go (fB r) λp=>F h1 (λvs h2=>go (pairUp vs) λkvs=>h2 p=eM (.dct [])/\Q (.ref p) (upd h2 p<|.dct<|putAll [] kvs)) X):N0 F h Q X:=by unfold N0;exact q
def QJ{i:Nat}{K:Val->Prop}(g:getV env i=eM v)(q:K v):go (getV env i) K:=eW g q
def dc_of{K:List (Val×Val)->Prop}(e1:h a=eM (.dct kvs))(q:K kvs):go (gj<|h a) K:=eW (dcE e1) q
variable {u:Val}
def UA{K:Val×Hs->Prop}(e1:h a=eM (.dct kvs))(hk:fk v=eP)(e2:fq kvs v=eM u)(q:K (u,upd h a<|.dct<|fw kvs v)):go (bmV h .dpop (.ref a) [v]) K:=eW (by show(gj<|h a).bind _=_;rw[dcE e1];show(if fk v then _ else _)=_;rw[gw hk,e2];rfl) q
def AA{K:Val×Hs->Prop}(e1:h a=eM (.dct kvs))(hk:fk v=eP)(q:K ((fq kvs v).getD u,upd h a<|.dct<|fw kvs v)):go (bmV h .dpopD (.ref a) [v,u]) K:=eW (by show(gj<|h a).bind _=_;rw[dcE e1];exact gw hk) q
end
end O
namespace Snd
open PySem L2
abbrev KT(K:Frag)(a:Ï)(xs:List V):Prop :=
 ∃(o:Obj) (õ:Array Ã) (n:Nat),K.lookup a=eM o/\o.cls=.type "tuple"/\o.data=.seq õ n/\õ.size<=Ý/\gg xs õ.toList
abbrev KL(K:Frag)(a:Ï)(xs:List V):Prop :=
 ∃(o:Obj) (õ:Array Ã) (n:Nat),K.lookup a=eM o/\o.cls=.type "list"/\o.dict=eN/\o.data=.seq õ n/\õ.size<=Ý/\gg xs õ.toList
mutual
inductive RV (K:Frag) (H:Hp):O.Val->V->Prop
 |non:RV K H .non .non
 |bl (b:Bool):RV K H (.bl b)<|.bl b
 |int (i:Int):RV K H (.int i)<|.int i
 |str (s:String):RV K H (.str s)<|.str<|gD s
 |tup {xs:List O.Val}{a:Ï}{vs:List V}:(H a=eM (.tup vs)\/KT K a vs)->RVs K H xs vs->RV K H (.tup xs) (.ref a)
 |ref (a:Ï):RV K H (.ref a)<|.ref a
 |scr {ns:List Int}{a:Ï}:((∃o,H a=eM (.frz o<|.lst<|ns.map V.int))\/KL K a (ns.map V.int))->RV K H (.scr ns) (.ref a)
 |key {i j:Int}{a:Ï}:H a=eM (.tup [.int i,.int j])->RV K H (.key i j) (.ref a)
inductive RVs (K:Frag) (H:Hp):List O.Val->List V->Prop
 |nil:RVs K H [] []
 |cons {v:O.Val}{x:V}{vs:List O.Val}{xs:List V}:RV K H v x->RVs K H vs xs->RVs K H (v::vs) (x::xs)
end
structure fo(H H':Hp):Prop where
 t:∀a xs,H a=eM (.tup xs)->H' a=eM (.tup xs)
 f:∀a o u,H a=eM (.frz o u)->H' a=eM (.frz o u)
def fo.refl(H:Hp):fo H H:=⟨λ_ _ e=>e,λ_ _ _ e=>e⟩
variable {H:Hp}
def fo.trans{H1 H2:Hp}(a:fo H H1)(b:fo H1 H2):fo H H2:=⟨λc xs e=>b.t c xs<|a.t c xs e,λc o u e=>b.f c o u<|a.f c o u e⟩
variable {a:Ï} {o:HO}
def fo.put(h:∀xs,H a≠eM (.tup xs))(h2:∀p u,H a≠eM (.frz p u)):fo H<|upd H a o:=⟨λb xs e=>by
  rw[eR<|by rintro rfl;exact h xs e];exact e,λb p u e=>by rw[eR<|by rintro rfl;exact h2 p u e];exact e⟩
def fo.new(h:H a=eN):fo H<|upd H a o:=fo.put (λxs e=>by rw[h]at e;cases e) λp u e=>by rw[h]at e;cases e
variable {K:Frag}{H H':Hp}
mutual
theorem RV.keep(k:fo H H'):∀{v:O.Val}{x:V},RV K H v x->RV K H' v x
 |_,_,.non=>.non
 |_,_,.bl b=>.bl b
 |_,_,.int i=>.int i
 |_,_,.str s=>.str s
 |_,_,.tup (.inl e) r=>.tup (.inl<|k.t _ _ e)<|RVs.keep k r
 |_,_,.tup (.inr e) r=>.tup (.inr e)<|RVs.keep k r
 |_,_,.ref a=>.ref a
 |_,_,.scr (.inl ⟨o,e⟩)=>.scr<|.inl ⟨o,k.f _ _ _ e⟩
 |_,_,.scr (.inr e)=>.scr<|.inr e
 |_,_,.key e=>.key<|k.t _ _ e
theorem RVs.keep(k:fo H H'):∀{vs:List O.Val}{xs:List V},RVs K H vs xs->RVs K H' vs xs
 |_,_,.nil=>.nil
 |_,_,.cons r t=>.cons (RV.keep k r)<|RVs.keep k t
end
def RVs.length:∀{vs:List O.Val}{xs:List V},RVs K H vs xs->vs.length=xs.length
 |_,_,.nil=>rfl
 |_,_,.cons _ t=>by rw[Ò,Ò,RVs.length t]
def RVs.get:∀{vs:List O.Val}{xs:List V}{i:Nat}{v:O.Val},RVs K H vs xs->vs[i]?=eM v->∃x,xs[i]?=eM x/\RV K H v x
 |_,_,_,_,.nil,e=>by simp at e
 |_,_,0,_,.cons r _,e=>by simp at e;subst e;exact⟨_,rfl,r⟩
 |_,_,i+1,v,.cons _ t,e=>by let⟨x,h1,h2⟩:=RVs.get (i:=i) (v:=v) t ⇑e;exact⟨x,⇑h1,h2⟩
def RVs.append:∀{vs us:List O.Val}{xs ys:List V},RVs K H vs xs->RVs K H us ys->RVs K H (vs++us) (xs++ys)
 |_,_,_,_,.nil,h=>h
 |_,_,_,_,.cons r t,h=>.cons r<|RVs.append t h
def RVs.set{v:O.Val}{x:V}(r:RV K H v x):∀{vs:List O.Val}{xs:List V}(i:Nat),RVs K H vs xs->RVs K H (vs.set i v) (xs.set i x)
 |_,_,_,.nil=>.nil
 |_,_,0,.cons _ t=>.cons r t
 |_,_,i+1,.cons q t=>.cons q<|RVs.set r i t
def RVs.take:∀{vs:List O.Val}{xs:List V}(n:Nat),RVs K H vs xs->RVs K H (vs.take n) (xs.take n)
 |_,_,0,_=>.nil
 |_,_,_+1,.nil=>.nil
 |_,_,n+1,.cons r t=>.cons r<|RVs.take n t
def RVs.drop:∀{vs:List O.Val}{xs:List V}(n:Nat),RVs K H vs xs->RVs K H (vs.drop n) (xs.drop n)
 |_,_,0,r=>r
 |_,_,_+1,.nil=>.nil
 |_,_,n+1,.cons _ t=>RVs.drop n t
def RVs.eraseIdx:∀{vs:List O.Val}{xs:List V}(i:Nat),RVs K H vs xs->RVs K H (vs.eraseIdx i) (xs.eraseIdx i)
 |_,_,_,.nil=>.nil
 |_,_,0,.cons _ t=>t
 |_,_,i+1,.cons q t=>.cons q<|RVs.eraseIdx i t
def Zn{vs:List V}(h:H a=eM (.tup vs)\/KT K a vs):gf K H a vs:=by
 rcases h with h|h
 .exact gf.of h
 .exact .inr h
structure Inf where
 K:Frag
 cl:String->Ï->Prop
 ins:String->Bool
 xc:String->Ï->Prop
abbrev WX:O.Val->Key->Prop
 |.int i,.inl j=>i=j
 |.str s,.inr t=>t=gD s
 |_,_=>False
inductive RKs (K:Frag) (H:Hp):List (O.Val×O.Val)->List (Key×V)->Prop
 |nil:RKs K H [] []
 |cons {k v:O.Val}{c:Key}{x:V}{kvs:List (O.Val×O.Val)}{ps:List (Key×V)}:WX k c->RV K H v x->RKs K H kvs ps->RKs K H ((k,v)::kvs) ((c,x)::ps)
inductive RFs (K:Frag) (H:Hp):List (String×O.Val)->List (Str×V)->Prop
 |nil:RFs K H [] []
 |cons {f:String}{v:O.Val}{x:V}{fs:List (String×O.Val)}{ps:List (Str×V)}:RV K H v x->RFs K H fs ps->RFs K H ((f,v)::fs) ((gD f,x)::ps)
def RKs.keep(k:fo H H'):∀{kvs:List (O.Val×O.Val)}{ps:List (Key×V)},RKs K H kvs ps->RKs K H' kvs ps
 |_,_,.nil=>.nil
 |_,_,.cons a r t=>.cons a (r.keep k)<|RKs.keep k t
inductive RTs (K:Frag) (H:Hp):List (O.Val×O.Val)->List (List Key×V)->Prop
 |nil:RTs K H [] []
 |cons {i j:Int}{v:O.Val}{x:V}{kvs:List (O.Val×O.Val)}{ps:List (List Key×V)}:RV K H v x->RTs K H kvs ps->RTs K H ((.key i j,v)::kvs) (([.inl i,.inl j],x)::ps)
def RTs.keep(k:fo H H'):∀{kvs:List (O.Val×O.Val)}{ps:List (List Key×V)},RTs K H kvs ps->RTs K H' kvs ps
 |_,_,.nil=>.nil
 |_,_,.cons r t=>.cons (r.keep k)<|RTs.keep k t
def RFs.keep(k:fo H H'):∀{fs:List (String×O.Val)}{ps:List (Str×V)},RFs K H fs ps->RFs K H' fs ps
 |_,_,.nil=>.nil
 |_,_,.cons r t=>.cons (r.keep k)<|RFs.keep k t
abbrev RO(i:Inf)(H:Hp)(a:Ï):O.Ob->Prop
 |.lst xs=>∃vs,H a=eM (.lst vs)/\RVs i.K H xs vs
 |.dct kvs=>∃ps,H a=eM (.dK ps)/\RKs i.K H kvs ps
 |.ins C fs=>∃c dx ps,i.ins C=eP/\i.cl C c/\H a=eM (.ins c dx ps)/\RFs i.K H fs ps
 |.exc C=>∃c,i.xc C c/\H a=eM (xcO a<|.ref c)
 |.frz kvs=>∃o ps,H a=eM (.frz o<|.dK ps)/\RKs i.K H kvs ps
 |.dtp kvs=>∃ps,H a=eM (.dT ps)/\RTs i.K H kvs ps
variable {i:Inf}
def RO.there{o:O.Ob}(r:RO i H a o):∃u,H a=eM u:=by
 cases o with
 |lst xs=>let⟨_,e,_⟩:=r;exact⟨_,e⟩
 |dct kvs=>let⟨_,e,_⟩:=r;exact⟨_,e⟩
 |ins C fs=>let⟨_,_,_,_,_,e,_⟩:=r;exact⟨_,e⟩
 |exc C=>let⟨_,_,e⟩:=r;exact⟨_,e⟩
 |frz kvs=>let⟨_,_,e,_⟩:=r;exact⟨_,e⟩
 |dtp kvs=>let⟨_,e,_⟩:=r;exact⟨_,e⟩
def RO.move{o:O.Ob}(r:RO i H a o)(k:fo H H')(e:H' a=H a):RO i H' a o:=by
 cases o with
 |lst xs=>let⟨vs,q,r⟩:=r;exact⟨vs,e.trans q,r.keep k⟩
 |dct kvs=>let⟨ps,q,r⟩:=r;exact⟨ps,e.trans q,r.keep k⟩
 |ins C fs=>let⟨c,dx,ps,h0,h,q,r⟩:=r;exact⟨c,dx,ps,h0,h,e.trans q,r.keep k⟩
 |exc C=>let⟨c,h,q⟩:=r;exact⟨c,h,e.trans q⟩
 |frz kvs=>let⟨o,ps,q,r⟩:=r;exact⟨o,ps,e.trans q,r.keep k⟩
 |dtp kvs=>let⟨ps,q,r⟩:=r;exact⟨ps,e.trans q,r.keep k⟩
abbrev RH(i:Inf)(G:O.Hs)(H:Hp):Prop:=∀a o,G a=eM o->RO i H a o
variable {G:O.Hs}
def RH.free(r:RH i G H)(e:H a=eN):G a=eN:=by
 cases q:G a with
 |none=>rfl
 |some o=>let⟨u,z⟩:=(r a o q).there;rw[e]at z;cases z
def RH.put{o:O.Ob}{u:HO}(r:RH i G H)(k:fo H<|upd H a u)(n:RO i (upd H a u) a o):RH i (O.upd G a o)<|upd H a u:=λb p e=>by
 by_cases hb:b=a
 .subst hb;rw[O.eS]at e;cases e;exact n
 .rw[O.eR hb]at e;exact(r b p e).move k<|eR hb
def RH.hid(r:RH i G H)(k:fo H H')(e:∀a o,G a=eM o->H' a=H a):RH i G H':=λb p q=>(r b p q).move k (e b p q)
structure REn(K:Frag)(H:Hp)(env:O.Env)(σ:St):Prop where
 len:env.length=σ.length
 get:∀(i:Nat) (v:O.Val),env[i]?=eM (eM v)->∃x,σ[i]?=eM (eM x)/\RV K H v x
variable {σ:St}
def REn.keep{env:O.Env}(r:REn K H env σ)(k:fo H H'):REn K H' env σ:=⟨r.len,λi v e=>by
  let⟨x,h1,h2⟩:=r.get i v e
  exact⟨x,h1,h2.keep k⟩⟩
def REn.set{env:O.Env}{v:O.Val}{x:V}(r:REn K H env σ)(q:RV K H v x)(j:Nat):REn K H (env.set j<|eM v)<|σ.set j<|eM x:=⟨by simp[r.len],λi u e=>by
  by_cases hij:j=i
  . subst hij
    rw[List.getElem?_set_self']at e
    cases z:env[j]? with
    |none=>rw[z]at e;cases e
    |some w =>
      rw[z]at e
      cases e
      have hj:j<σ.length:=by rw[<-r.len];exact(Ì.mp z).1
      exact⟨x,ϓ hj,q⟩
  . rw[Α hij]at e
    let⟨y,h1,h2⟩:=r.get i u e
    exact⟨y,by rw[Α hij];exact h1,h2⟩⟩
def REn.start{vs:List O.Val}{xs:List V}{n:Nat}(r:RVs K H vs xs):REn K H (vs.map eM++Ñ n eN)<|xs.map eM++Ñ n eN:=⟨by simp[r.length],λi v e=>by
  by_cases hi:i<vs.length
  . rw[Ć ⇑hi,Ø]at e
    cases z:vs[i]? with
    |none=>rw[z]at e;cases e
    |some w =>
      rw[z]at e
      cases e
      let⟨x,h1,h2⟩:=r.get z
      exact⟨x,by rw[Ć (by rw[À,<-r.length];exact hi),Ø,h1];rfl,h2⟩
  . rw[č ⇑hi,Ř]at e
    split at e<;>cases e⟩
def RVs.ints{K:Frag}{H:Hp}:∀ns:List Int,RVs K H (ns.map O.Val.int) (ns.map V.int)
 |[]=>.nil
 |n::ns=>.cons (.int n)<|RVs.ints ns
def Yk{ns:List Int}(h:(∃o,H a=eM (.frz o<|.lst<|ns.map V.int))\/KL K a (ns.map V.int)):fZ K H a<|ns.map V.int:=by
 rcases h with⟨o,h⟩|h
 .exact .inl<|.inr ⟨o,h⟩
 .exact .inr h
variable {i:Inf}{X:Cx}{Φ:O.Fs}
abbrev XK1(i:Inf)(H:Hp)(Em:O.XQ):XK:=λcls _ H'=>∃c G' ad,cls=.ref ad/\i.xc c ad/\fo H H'/\RH i G' H'/\Em c G'
abbrev XOk(X:Cx)(i:Inf)(H:Hp)(Em:O.XQ):Prop:=XW X<|XK1 i H Em
variable {H:Hp} {H1:Hp} {Em:O.XQ}
def XK1.go{H':Hp}{cls:Ã}{d:Option Ï}(k:fo H H1)(h:XK1 i H1 Em cls d H'):XK1 i H Em cls d H':=by let⟨c,G',ad,e,q,k',r,m⟩:=h;exact⟨c,G',ad,e,q,k.trans k',r,m⟩
def XOk.go(x:XOk X i H Em)(k:fo H H1):XOk X i H1 Em:=λÂ σ H0 s H' a cls s' I f e=>x Â σ H0 s H' a cls s' I f (e.go k)
structure Pre(X:Cx)(i:Inf)(σ:St)(H:Hp)(env:O.Env)(G:O.Hs)(Em:O.XQ):Prop where
 en:REn i.K H env σ
 hp:RH i G H
 xo:XOk X i H Em
variable {σ:St} {G:O.Hs}
def Pre.go{env:O.Env}{G1:O.Hs}(p:Pre X i σ H env G Em)(k:fo H H1)(r:RH i G1 H1):Pre X i σ H1 env G1 Em:=⟨p.en.keep k,r,p.xo.go k⟩
abbrev Cn(i:Inf)(H:Hp)(Q:VK)(Qm:O.Q1):Prop:=∀v G' H' x,fo H H'->RH i G' H'->RV i.K H' v x->Qm v G'->Q x H'
variable {Q:VK} {Qm:O.Q1}
def Cn.go(c:Cn i H Q Qm)(k:fo H H1):Cn i H1 Q Qm:=λv G' H' x k'=>c v G' H' x (k.trans k')
inductive tEx (X:Cx) (i:Inf) (Φ:O.Fs) (m:O.E) (σ:St) (H:Hp) (Q:VK):Prop
 |mk (env:O.Env) (G:O.Hs) (Qm:O.Q1) (Em:O.XQ) (p:Pre X i σ H env G Em) (w:O.wE Φ m env G Qm Em) (c:Cn i H Q Qm)
abbrev tE(X:Cx)(i:Inf)(Φ:O.Fs)(m:O.E):TE:=tEx X i Φ m
inductive tArx (X:Cx) (i:Inf) (Φ:O.Fs) (ms:O.Es) (n:Nat) (σ:St) (H:Hp) (Q:List V->Hp->Prop):Prop
 |mk (env:O.Env) (G:O.Hs) (Qm:List O.Val->O.Hs->Prop) (Em:O.XQ) (p:Pre X i σ H env G Em) (w:O.wA Φ ms env G Qm Em) (c:∀vs G' H' xs,fo H H'->RH i G' H'->RVs i.K H' vs xs->xs.length=n->Qm vs G'->Q xs H')
abbrev tAr(X:Cx)(i:Inf)(Φ:O.Fs)(ms:O.Es)(n:Nat):TA:=tArx X i Φ ms n
inductive tTtx (X:Cx) (i:Inf) (Φ:O.Fs) (m:O.Tt) (σ:St) (H:Hp) (Q:Bool->Hp->Prop):Prop
 |mk (env:O.Env) (G:O.Hs) (Qm:Bool->O.Hs->Prop) (Em:O.XQ) (p:Pre X i σ H env G Em) (w:O.wT Φ m env G Qm Em) (c:∀b G' H',fo H H'->RH i G' H'->Qm b G'->Q b H')
abbrev tTt(X:Cx)(i:Inf)(Φ:O.Fs)(m:O.Tt):TT:=tTtx X i Φ m
variable {e:Expr}
def _root_.L2.PE.imp{t t':TE}(h:PE X e t)(f:∀σ H Q,t' σ H Q->t σ H Q):PE X e t':=λÂ s σ H Q I q=>h Â s σ H Q I (f σ H Q q)
variable {t':TT}
def _root_.L2.PT.imp{t:TT}(h:PT X e t)(f:∀σ H Q,t' σ H Q->t σ H Q):PT X e t':=λÂ s σ H Q I q=>h Â s σ H Q I (f σ H Q q)
def _root_.L2.PW.imp{t:TT}(h:PW X e t)(f:∀σ H Q,t' σ H Q->t σ H Q):PW X e t':=λwh Â s σ H Q I q=>h wh Â s σ H Q I (f σ H Q q)
variable {es:List Expr}
def _root_.L2.PA.imp{t t':TA}(h:PA X es t)(f:∀σ H Q,t' σ H Q->t σ H Q):PA X es t':=λî Â s σ H Q I q=>h î Â s σ H Q I (f σ H Q q)
variable {j:Nat}
def Ry{env:O.Env}{h:O.Hs}{Q:O.Q1}{E:O.XQ}:(O.wE Φ (.var j) env h Q E)=(O.go (O.getV env j) λv=>Q v h):=rfl
def eV{α:Type}{o:Option α}{k:α->Prop}(h:O.go o k):∃a,o=eM a/\k a:=by
 cases o with
 |none=>simp at h
 |some a=>exact⟨a,rfl,⇑h⟩
def Bq{env:O.Env}{v:O.Val}(h:O.getV env j=eM v):env[j]?=eM (eM v):=by
 unfold O.getV at h;split at h
 .rename_i u e;cases h;exact e
 .cases h
variable {î:Pos}
def RI{x:Str}(hN:X.N[j]?=eM x)(hv:Vis X.env.scope x)(hd:(x==("__debug__" : Str))=eQ)(bp:(x==("__classdict__" : Str))=eQ):PE X (.Name x î) (tE X i Φ<|.var j) :=
 (Iv hN hv hd bp).imp λσ H Q ⟨env,G,Qm,Em,p,w,c⟩=>by rw[Ry]at w;let⟨v,e,q⟩:=eV w;let⟨y,h1,h2⟩:=p.en.get j v<|Bq e;exact⟨y,h1,c v G H y (fo.refl H) p.hp h2 q⟩
variable {x:V}
def W2{v:O.Val}(h:PE X e<|tC x)(r:∀H,RV i.K H v x):PE X e (tE X i Φ<|.cst v) :=
 h.imp λσ H Q ⟨env,G,Qm,Em,p,w,c⟩=>by exact c v G H x (fo.refl H) p.hp (r H) w
def LY{y:String}{v:O.Val}(h:PE X e<|tC x)(r:∀H,RV i.K H v x):PE X e (tE X i Φ<|.glob y v) :=
 h.imp λσ H Q ⟨env,G,Qm,Em,p,w,c⟩=>by exact c v G H x (fo.refl H) p.hp (r H) w
variable {a:O.E}
def two{b:O.E}{env:O.Env}{F:O.Val->O.Val->O.Hs->Prop}{R:V->V->Hp->Prop}(p:Pre X i σ H env G Em)
  (w:O.wE Φ a env G (λv G1=>O.wE Φ b env G1 (λu G2=>F v u G2) Em) Em)
  (h:∀v u G2 H2 x y,fo H H2->Pre X i σ H2 env G2 Em->RV i.K H2 v x->RV i.K H2 u y->F v u G2->R x y H2):tE X i Φ a σ H λx H1=>tE X i Φ b σ H1 λy H2=>R x y H2 :=
 ⟨env,G,_,Em,p,w,λv G1 H1 x k1 g1 r1 w1=>⟨env,G1,_,Em,p.go k1 g1,w1,λu G2 H2 y k2 g2 r2 w2=>h v u G2 H2 x y (k1.trans k2) ((p.go k1 g1).go k2 g2) (r1.keep k2) r2 w2⟩⟩
def one{env:O.Env}{F:O.Val->O.Hs->Prop}{R:V->Hp->Prop}(p:Pre X i σ H env G Em)
  (w:O.wE Φ a env G (λv G1=>F v G1) Em) (h:∀v G1 H1 x,fo H H1->Pre X i σ H1 env G1 Em->RV i.K H1 v x->F v G1->R x H1):tE X i Φ a σ H λx H1=>R x H1 :=
 ⟨env,G,_,Em,p,w,λv G1 H1 x k1 g1 r1 w1=>h v G1 H1 x k1 (p.go k1 g1) r1 w1⟩
abbrev J3(i:Inf)(op:O.Bop)(r:R2):Prop:=∀(v u:O.Val) (G:O.Hs) (H:Hp) (x y:V) (Q:VK) (Qm:O.Q1),RH i G H->RV i.K H v x->RV i.K H u y->(O.binV G op v u).wp G Qm->Cn i H Q Qm->r x y H Q
variable {b:Expr} {ma:O.E} {mb:O.E} {r:R2}
def Ml{a:Expr}{op:ϡ}{bop:O.Bop}(ho:OpR X (œ op) r)(hr:J3 i bop r)(ha:PE X a<|tE X i Φ ma)(hb:PE X b<|tE X i Φ mb):PE X (.BinOp a op b î) (tE X i Φ<|.bin bop ma mb) :=
 (QC ho ha hb).imp λσ H Q ⟨env,G,Qm,Em,p,w,c⟩=>by exact two p w λv u G2 H2 x y k2 p2 rx ry q=>hr v u G2 H2 x y Q Qm p2.hp rx ry q<|c.go k2
abbrev Yp(i:Inf)(op:O.Cop)(r:R2):Prop:=∀(v u:O.Val) (G:O.Hs) (H:Hp) (x y:V) (c:Bool) (Q:VK),RH i G H->RV i.K H v x->RV i.K H u y->O.fj G op v u=eM c->Q (.bl c) H->r x y H Q
variable {op:cy} {cop:O.Cop}
def Ra{a:Expr}(ho:OpR X (ï op) r)(hr:Yp i cop r)(ha:PE X a<|tE X i Φ ma)(hb:PE X b<|tE X i Φ mb)(hm:Ņ op b=eQ):PE X (.Compare a [op] [b] î) (tE X i Φ<|.cmp cop ma mb) :=
 (Ac ho ha hb hm).imp λσ H Q ⟨env,G,Qm,Em,p,w,c⟩=>by
  exact two p w λv u G2 H2 x y k2 p2 rx ry q=>by let⟨d,e,q⟩:=eV q;exact hr v u G2 H2 x y d Q p2.hp rx ry e<|c (.bl d) G2 H2 (.bl d) k2 p2.hp (.bl d) q
def Pz{a:Expr}(ho:OpR X (ï op) r)(hr:Yp i cop r)(ha:PE X a<|tE X i Φ ma)(hb:PE X b<|tE X i Φ mb)(hm:Ņ op b=eQ):PT X (.Compare a [op] [b] î) (tTt X i Φ<|.val<|.cmp cop ma mb) :=
 (Aa ho ha hb hm).imp λσ H Q ⟨env,G,Qm,Em,p,w,c⟩=>by
  exact two p w λv u G2 H2 x y k2 p2 rx ry q=>by let⟨d,e,q⟩:=eV q;let⟨d',e',q⟩:=eV q;cases e';exact hr v u G2 H2 x y d _ p2.hp rx ry e ⟨d,rfl,c d G2 H2 k2 p2.hp q⟩
def WD{v:O.Val}{b:Bool}(h:O.gm v=eM b):v=.bl b:=by cases v<;>simp_all [O.gm]
def Z3{v:O.Val}{b:Int}(h:O.gk v=eM b):v=.int b:=by cases v<;>simp_all [O.gk]
def Ju{v:O.Val}{b:O.Ad}(h:O.fB v=eM b):v=.ref b:=by cases v<;>simp_all [O.fB]
def RV.bl_inv{K:Frag}{b:Bool}(r:RV K H (.bl b) x):x=.bl b:=by cases r;rfl
def RV.int_inv{K:Frag}{b:Int}(r:RV K H (.int b) x):x=.int b:=by cases r;rfl
def RV.ref_inv{K:Frag}{b:Ï}(r:RV K H (.ref b) x):x=.ref b:=by cases r;rfl
def RV.str_inv{K:Frag}{b:String}(r:RV K H (.str b) x):x=.str (gD b):=by cases r;rfl
def RV.non_inv{K:Frag}(r:RV K H .non x):x=.non:=by cases r;rfl
def RQ{a:Expr}(ha:PE X a<|tE X i Φ ma):PE X (.UnaryOp .Not a î) (tE X i Φ<|.not ma) :=
 (Pq ha).imp λσ H Q ⟨env,G,Qm,Em,p,w,c⟩=>by
  exact one p w λv G1 H1 x k1 p1 r q=>by let⟨b,e,q2⟩:=eV q;clear q;cases WD e;exact⟨b,r.bl_inv,c _ G1 H1 _ k1 p1.hp (.bl _) q2⟩
def Ro{a:Expr}(ha:PE X a<|tE X i Φ ma):PE X (.UnaryOp .USub a î) (tE X i Φ<|.neg ma) :=
 (QQ LD ha).imp λσ H Q ⟨env,G,Qm,Em,p,w,c⟩=>by
  exact one p w λv G1 H1 x k1 p1 r q=>by let⟨b,e,q2⟩:=eV q;clear q;cases Z3 e;exact⟨b,r.int_inv,c _ G1 H1 _ k1 p1.hp (.int _) q2⟩
def Qz{a:Expr}{rest:List Expr}(ha:PE X a<|tE X i Φ ma)(hb:PE X (.BoolOp .And (b::rest) î)<|tE X i Φ mb):PE X (.BoolOp .And (a::b::rest) î) (tE X i Φ<|.and ma mb) :=
 (Lq ha hb).imp λσ H Q ⟨env,G,Qm,Em,p,w,c⟩=>by
  exact one p w λv G1 H1 x k1 p1 r q=>by
   let⟨d,e,q2⟩:=eV q;clear q;cases WD e;refine⟨d,r.bl_inv,?_⟩;cases d with
   |true=>exact⟨env,G1,Qm,Em,p1,⇑q2,c.go k1⟩
   |false=>simp at q2 ⊢;exact c _ G1 H1 _ k1 p1.hp (.bl _) q2
def RS{a:Expr}{rest:List Expr}(ha:PE X a<|tE X i Φ ma)(hb:PE X (.BoolOp .Or (b::rest) î)<|tE X i Φ mb):PE X (.BoolOp .Or (a::b::rest) î) (tE X i Φ<|.or ma mb) :=
 (QD ha hb).imp λσ H Q ⟨env,G,Qm,Em,p,w,c⟩=>by
  exact one p w λv G1 H1 x k1 p1 r q=>by
   let⟨d,e,q2⟩:=eV q;clear q;cases WD e;refine⟨d,r.bl_inv,?_⟩;cases d with
   |false=>exact⟨env,G1,Qm,Em,p1,⇑q2,c.go k1⟩
   |true=>simp at q2 ⊢;exact c _ G1 H1 _ k1 p1.hp (.bl _) q2
def Lm{a:Expr}{ma:O.Tt}(ha:PT X a<|tTt X i Φ ma):PT X (.UnaryOp .Not a î) (tTt X i Φ<|.not ma) :=
 (PN ha).imp λσ H Q ⟨env,G,Qm,Em,p,w,c⟩=>by exact⟨env,G,_,Em,p,w,λb G1 H1 k1 g1 q=>c (!b) G1 H1 k1 g1 q⟩
def Pn{a:Expr}{rest:List Expr}{ma mb:O.Tt}(ha:PT X a<|tTt X i Φ ma)(hb:PW X (.BoolOp .And (b::rest) î)<|tTt X i Φ mb):PW X (.BoolOp .And (a::b::rest) î) (tTt X i Φ<|.and ma mb) :=
 (LV ha hb).imp λσ H Q ⟨env,G,Qm,Em,p,w,c⟩=>by
  refine⟨env,G,_,Em,p,w,λd G1 H1 k1 g1 q=>?_⟩;cases d with
  |true=>exact⟨env,G1,Qm,Em,p.go k1 g1,⇑q,λb G2 H2 k2=>c b G2 H2<|k1.trans k2⟩
  |false=>simp at q ⊢;exact c eQ G1 H1 k1 g1 q
def Qc{a:Expr}{rest:List Expr}{ma mb:O.Tt}(ha:PT X a<|tTt X i Φ ma)(hb:PW X (.BoolOp .Or (b::rest) î)<|tTt X i Φ mb):PW X (.BoolOp .Or (a::b::rest) î) (tTt X i Φ<|.or ma mb) :=
 (Qs ha hb).imp λσ H Q ⟨env,G,Qm,Em,p,w,c⟩=>by
  refine⟨env,G,_,Em,p,w,λd G1 H1 k1 g1 q=>?_⟩;cases d with
  |false=>exact⟨env,G1,Qm,Em,p.go k1 g1,⇑q,λb G2 H2 k2=>c b G2 H2<|k1.trans k2⟩
  |true=>simp at q ⊢;exact c eP G1 H1 k1 g1 q
def Fr{a:Expr}{ma:O.Tt}(ha:PT X a<|tTt X i Φ ma):PW X (.BoolOp .And [a] î)<|tTt X i Φ ma:=Gn ha
def IQ{a:Expr}{ma:O.Tt}(ha:PT X a<|tTt X i Φ ma):PW X (.BoolOp .Or [a] î)<|tTt X i Φ ma:=ID ha
def Qx{c a:Expr}{mc:O.Tt}(hc:PT X c<|tTt X i Φ mc)(ha:PE X a<|tE X i Φ ma)(hb:PE X b<|tE X i Φ mb):PE X (.IfExp c a b î) (tE X i Φ<|.ife mc ma mb) :=
 (EI hc ha hb).imp λσ H Q ⟨env,G,Qm,Em,p,w,c⟩=>by
  refine⟨env,G,_,Em,p,w,λd G1 H1 k1 g1 q=>?_⟩;cases d with
  |true=>exact⟨env,G1,Qm,Em,p.go k1 g1,⇑q,c.go k1⟩
  |false=>exact⟨env,G1,Qm,Em,p.go k1 g1,⇑q,c.go k1⟩
def Iy:PA X []<|tAr X i Φ .nil 0:=fW.imp λσ H Q ⟨env,G,Qm,Em,p,w,c⟩=>by exact c [] G H [] (fo.refl H) p.hp .nil rfl w
def Go{m:O.E}{ms:O.Es}{n:Nat}(he:PE X e<|tE X i Φ m)(hes:PA X es<|tAr X i Φ ms n)(hs:ß (e::es) X.env=(eQ,eval e X.env)::ß es X.env):PA X (e::es) (tAr X i Φ (.cons m ms)<|n+1) :=
 (fX he hes hs).imp λσ H Q ⟨env,G,Qm,Em,p,w,c⟩=>by exact⟨env,G,_,Em,p,w,λv G1 H1 x k1 g1 r1 w1=>⟨env,G1,_,Em,p.go k1 g1,w1,λvs G2 H2 xs k2 g2 r2 hn w2=>c (v::vs) G2 H2 (x::xs) (k1.trans k2) g2 (.cons (r1.keep k2) r2) (by rw[Ò,hn]) w2⟩⟩
def ZR:O.lim<=Ý:=by decide
def Yw{o:O.Ob}{u:HO}(g:RH i G H)(w:O.new G o Qm)(c:Cn i H Q Qm)(r:∀p,H p=eN->RO i (upd H p u) p o):∀p,H p=eN->Q (.ref p) (upd H p u):=λp hp=>by unfold O.new at w;exact c (.ref p) _ _ (.ref p) (fo.new hp) (g.put (fo.new hp)<|r p hp) (.ref p) (w p<|g.free hp)
end Snd
namespace HT2
open PySem PySem.Spec PyProof.Rows L2
abbrev Yq:List Int->List Int->Bool
 |[],[]=>eQ
 |[],_::_=>eQ
 |_::_,[]=>eP
 |x::xs,y::ys=>if x=y then Yq xs ys else gC (x > y)
def DN(A:ĉ)(s:Ç)(a:Int)(t:Tok)(c:Int)(u:Tok)(prog:ç)(w:þ)(E:Ã->Ç->Prop)(Q:Ã->Ç->Prop)(h:Q (.bool<|gC (a > c)) s) :
  wpAny (à prog w) A (richCompare .Gt (.int a t)<|.int c u) Q E s :=
 (PyProof.Rows.gt_int h:wpAny (à prog w) A (ï .Gt (.int a t)<|.int c u) Q E s)
section
open PySem.SeqAt
open PySem.AutoSeq1 (wpAny_loadPart')
open PySem.MeetsSeq PySem.MeetsSeq2 PySem.MeetsSeq3
def Kx(l b:Ï)(items ō:Array Ã)(n n2:Nat)(dd cZ:Option Ï)(sl dQ:Array<|Option Ã)(ns ms:List Int)(hi:Ā items.toList ns)(hj:Ā ō.toList ms) :
  Meets (Builtin.«tuple.__gt__» ⟨[.ref l,.ref b],[]⟩)
   (λ_ R s=>s.heap.get? l=eM { cls:=.type "tuple",dict:=dd,data:=.seq items n,slots:=sl }/\s.heap.get? b=eM { cls:=.type "tuple",dict:=cZ,data:=.seq ō n2,slots:=dQ }/\
     R (.ok<|.ret<|.bool<|Yq ns ms) s) :=
 .of_wp λprog w A R s h=>by
  let⟨hp,g,d,tk,os⟩:=s;let⟨hl,hb,h⟩:=h;have f2:=AutoSeq1.sub_tuple_tuple;have z1:items.size=ns.length:=by rw[<-hi.length];simp
  have z2:ō.size=ms.length:=by rw[<-hj.length];simp
  wp_walk using ğ hl,ğ hb,wpAny_forIn_list _ (λrest b s'=>b.1=eN/\s'=⟨hp,g,d,tk,os⟩/\∃(vs ws:List Ã) (ck dy:List Int),rest=vs.zip ws/\
    Ā vs ck/\Ā ws dy/\ck.length+ō.size=dy.length+items.size/\R (.ok<|.ret<|.bool<|Yq ck dy) ⟨hp,g,d,tk,os⟩) _
  case turn =>
   rintro⟨y,x⟩ rest b s' ⟨aP,rfl,vs,ws,ck,dy,hz,hvi,hwi,hlen,hR⟩;cases hvi with
   |nil=>rw[Ψ]at hz;cases hz
   |cons a t hvi' =>
    cases hwi with
    |nil=>rw[Λ]at hz;cases hz
    |cons c u hwi' =>
     rw[ŝ]at hz;injection hz with hyx hrest;injection hyx with hy hx;subst hy hx;rw[Yq]at hR;simp only[Ò]at hlen;let⟨e,he,hiff⟩:=HT.eqAt_int A.in1 ⟨hp,g,d,tk,os⟩ a t c u;refine Á<|he prog w _ _ ?_;cases e with
     |true =>
      rw[gw<|hiff.mp rfl]at hR
      wp_walk
      exact⟨rfl,rfl,_,_,_,_,hrest,hvi',hwi',by lia,hR⟩
     |false =>
      rw[gx λq=>gB (hiff.mpr q) ö]at hR;have hri:=DN A.in1 ⟨hp,g,d,tk,os⟩ a t c u prog w
      wp_walk using hri
      exact⟨_,rfl,⇑hR⟩
  case fin =>
   rintro⟨b1,b2⟩ s' ⟨aP,rfl,vs,ws,ck,dy,hz,hvi,hwi,hlen,hR⟩;simp only at aP;subst aP;have hv:Yq ck dy=gC (items.size > ō.size):=by
    cases hvi with
    |nil =>
     cases hwi with
     |nil =>simp only[Ĩ]at hlen;rw[Yq];exact(gy<|by lia).symm
     |cons c u hw =>simp only[Ĩ,Ò]at hlen;rw[Yq];exact(gy<|by lia).symm
    |cons a t hv =>
     cases hwi with
     |nil =>simp only[Ĩ,Ò]at hlen;rw[Yq];exact(gz<|by lia).symm
     |cons c u hw =>rw[ŝ]at hz;cases hz
   rw[hv]at hR
   wp_walk
   exact⟨_,rfl,by simpa[Builtin.Tuple.tupleCompareSizes]using hR⟩
  case h =>exact⟨rfl,rfl,items.toList,ō.toList,ns,ms,rfl,hi,hj,by lia,h⟩
end
def OY{prog:ç}{w:þ}{A:ĉ}{E:Ã->Ç->Prop}{s:Ç}{l b:Ï}{items ō:Array Ã}{ns ms:List Int}{Q:Ã->Ç->Prop}(hl:aY s.heap l items)(hb:aY s.heap b ō)(hi:Ā items.toList ns)(hj:Ā ō.toList ms)
  (hu:A.units<Ķ) (h:Q (.bool<|Yq ns ms) s):wpAny (à prog w) A (ï .Gt (.ref l)<|.ref b) Q E s:=by
 let⟨⟨cls,dd,data,sl⟩,ho,hc,n,hd⟩:=id hl;let⟨⟨cls2,cZ,data2,dQ⟩,ho2,hc2,n2,bT⟩:=id hb;simp only at hc hd hc2 bT;subst hc hd hc2 bT;exact d6 (op:=.Gt) ⟨_,ho,rfl⟩ ⟨_,ho2,rfl⟩ PySem.F.slot_tuple_gt PySem.F.entry_tuple_gt (PySem.F.args_tuple_gt_2 _ _) (Kx l b items ō n n2 dd cZ sl dQ ns ms hi hj)
  ⟨ho,ho2,show Value.bool (Yq ns ms)≠cA/\Q (.bool<|Yq ns ms) s from ⟨(λx=>nomatch x),h⟩⟩ hu
abbrev rGtT(K:Frag):R2:=λx y H Q=>∃a b ns ms,x=.ref a/\y=.ref b/\gf K H a (ns.map V.int)/\gf K H b (ms.map V.int)/\Q (.bl<|Yq ns ms) H
def op_gtT{X:Cx}(hu:X.A.units<Ķ):OpR X (ï .Gt)<|rGtT X.K:=by intro Â s σ H x y v u Q I rx ry h;let⟨a,b,ns,ms,rfl,rfl,ha,hb,q⟩:=h;cases rx;cases ry;let⟨õ,r1,p1,_⟩:=I.tuple ha;let⟨Ϲ,r2,p2,_⟩:=I.tuple hb;have i1:Ā õ.toArray.toList ns:=ZT r1;have i2:Ā Ϲ.toArray.toList ms:=ZT r2;exact OY p1 p2 i1 i2 hu ⟨.bl<|Yq ns ms,H,I,rfl,q⟩
def lexGt_lt:∀(ns ms:List Int),Yq ns ms=HT.lexLt ms ns
 |[],[]=>rfl
 |[],_::_=>rfl
 |_::_,[]=>rfl
 |x::xs,y::ys=>by
  rw[Yq,HT.lexLt_cons,lexGt_lt xs ys];by_cases e:x=y
  .rw[gw e,gw e.symm]
  .rw[gx e,gx λz=>e z.symm]
end HT2
namespace Snd
open PySem L2
mutual
noncomputable def toD:O.D->ai
 |.non=>.none
 |.bl b=>.bool b
 |.int i=>.int i
 |.str s=>.str<|gD s
 |.tup ds=>.tuple<|toDs ds
 |.lst ds=>.list<|toDs ds
noncomputable def toDs:List O.D->List ai
 |[]=>[]
 |d::ds=>toD d::toDs ds
end
def ofS_inj{s t:String}:gD s=gD t↔s=t:=by
 constructor
 .intro h;rw[Str.ofString_eq_toList,Str.ofString_eq_toList]at h;injection h with h;have h2:s.toList.map ū=t.toList.map ū:=by simpa using congrArg bW h
  have inj:∀{a b:Char},a.toNat=b.toNat->a=b:=λ{a b} e=>Char.ext<|bN e;have:s.toList=t.toList:=by
   revert h2;generalize s.toList=a;generalize t.toList=b;intro h2;induction a generalizing b with
   |nil=>cases b with
    |nil=>rfl
    |cons _ _=>cases h2
   |cons x xs ih=>cases b with
    |nil=>cases h2
    |cons y ys =>simp only[Î,List.cons.injEq]at h2;rw[inj h2.1,ih _ h2.2]
  exact String.toList_inj.mp this
 .rintro rfl;rfl
def GY(s t:String):(gD s==gD t)=(s==t):=by
 by_cases e:s=t
 .subst e;simp
 .have:gD s≠gD t:=λz=>e<|ofS_inj.mp z;rw[beq_eq_false_iff_ne.mpr this,beq_eq_false_iff_ne.mpr e]
def AO(s:String):PyData.strOk (gD s)=eP:=by
 rw[Str.ofString_eq_toList];unfold PyData.strOk;rw[Array.all_eq_true'];intro n hn;have:n∈s.toList.map ū:=⇑hn
 let⟨c,_,rfl⟩:=Ô.mp this;have:=c.valid;have h2:c.toNat=c.val.toNat:=rfl;simp only[UInt32.isValidChar,Nat.isValidChar]at this;simp only[gA];lia
mutual
theorem Ng:∀d e:O.D,ī (toD d) (toD e)=O.D.eqv d e
 |.non,e=>by cases e<;>simp[toD,ī,O.D.eqv]
 |.bl _,e=>by cases e<;>simp[toD,ī,O.D.eqv]
 |.int _,e=>by cases e<;>simp[toD,ī,O.D.eqv]
 |.str s,e=>by cases e<;>simp only[toD,ī,O.D.eqv];exact GY _ _
 |.tup ds,e=>by cases e<;>simp only[toD,ī,O.D.eqv];exact toDs_eqv _ _
 |.lst ds,e=>by cases e<;>simp only[toD,ī,O.D.eqv];exact toDs_eqv _ _
theorem toDs_eqv:∀ds es:List O.D,Χ (toDs ds) (toDs es)=O.D.eqvs ds es
 |[],[]=>by simp[toDs,Χ,O.D.eqvs]
 |[],_::_=>by simp[toDs,Χ,O.D.eqvs]
 |_::_,[]=>by simp[toDs,Χ,O.D.eqvs]
 |d::ds,e::es=>by simp only[toDs,Χ,O.D.eqvs,Ng d e,toDs_eqv ds es]
end
mutual
theorem ML:∀d:O.D,(toD d).canLay0=eP
 |.non=>by simp[toD,ż]
 |.bl _=>by simp[toD,ż]
 |.int _=>by simp[toD,ż]
 |.str s=>by simp only[toD,ż];exact AO s
 |.tup ds=>by simp only[toD,ż];exact toDs_lay ds
 |.lst ds=>by simp only[toD,ż];exact toDs_lay ds
theorem toDs_lay:∀ds:List O.D,Ţ (toDs ds)=eP
 |[]=>by simp[toDs,Ţ]
 |d::ds=>by simp only[toDs,Ţ,ML d,toDs_lay ds,Bool.and_self]
end
section
variable {i:Inf}{G:O.Hs}{H:Hp}
def BI{α β:Type}{f:α->Option β}:∀{xs:List α}{ys:List β},xs.mapM f=eM ys->List.length xs=ys.length/\∀(n:Nat) (x:α),xs[n]?=eM x->∃y,ys[n]?=eM y/\f x=eM y:=by
 intro xs;induction xs with
 |nil=>intro ys h;simp at h;subst h;exact⟨rfl,λn x e=>by simp at e⟩
 |cons a as ih =>
  intro ys h;rw[μ]at h;cases e:f a with
  |none=>rw[e]at h;simp at h
  |some b =>
   rw[e]at h;cases e2:as.mapM f with
   |none=>rw[e2]at h;simp at h
   |some bs =>
    rw[e2]at h;simp at h;subst h;let⟨h1,h2⟩:=ih e2;refine⟨by simp[h1],λn x hn=>?_⟩;cases n with
    |zero=>simp at hn;subst hn;exact⟨b,rfl,e⟩
    |succ n=>simp at hn ⊢;exact h2 n x hn
def AE{K:Frag}{f:O.Val->Option O.D}(hf:∀v d x,f v=eM d->RV K H v x->IsD K H x (toD d)):∀{vs:List O.Val}{xs:List V}{ds:List O.D},vs.mapM f=eM ds->RVs K H vs xs->IsDs K H xs (toDs ds):=by
 intro vs;induction vs with
 |nil=>intro xs ds h r;simp at h;subst h;cases r;exact .nil
 |cons a as ih =>
  intro xs ds h r;rw[μ]at h;cases e:f a with
  |none=>rw[e]at h;simp at h
  |some b =>
   rw[e]at h;cases e2:as.mapM f with
   |none=>rw[e2]at h;simp at h
   |some bs =>
    rw[e2]at h;simp at h;subst h;cases r with
    |cons r1 r2=>exact .cons (hf a b _ e r1)<|ih e2 r2
def Z5(g:RH i G H){a:Ï}{xs:List O.Val}(e:O.ff (G a)=eM xs):∃vs,fZ i.K H a vs/\RVs i.K H xs vs:=by
 cases q:G a with
 |none=>rw[q]at e;cases e
 |some o =>
  rw[q]at e;cases o with
  |lst ys=>cases e;let⟨vs,h,r⟩:=g a _ q;exact⟨vs,fZ.of h,r⟩
  |dct _=>cases e
  |ins _ _=>cases e
  |exc _=>cases e
  |frz _=>cases e
  |dtp _=>cases e
def Mm:∀ns:List Int,toDs (ns.map O.D.int)=ns.map PyData.int
 |[]=>by simp[toDs]
 |n::ns=>by simp only[Î,toDs,toD,Mm ns]
def Wa(g:RH i G H):∀(n:Nat) (v:O.Val) (d:O.D) (x:V),O.dat G n v=eM d->RV i.K H v x->IsD i.K H x (toD d):=by
 intro n;induction n with
 |zero =>
  intro v d x e r;cases v with
  |non=>cases r;simp[O.dat]at e;subst e;rw[toD];exact .non
  |bl b=>cases r;simp[O.dat]at e;subst e;rw[toD];exact .bl b
  |int b=>cases r;simp[O.dat]at e;subst e;rw[toD];exact .int b
  |str s=>cases r;simp[O.dat]at e;subst e;rw[toD];exact .str _
  |tup xs=>simp[O.dat]at e
  |ref a=>simp[O.dat]at e
  |scr ns=>simp[O.dat]at e
  |key _ _=>simp[O.dat]at e
 |succ n ih =>
  intro v d x e r;cases v with
  |non=>cases r;simp[O.dat]at e;subst e;rw[toD];exact .non
  |bl b=>cases r;simp[O.dat]at e;subst e;rw[toD];exact .bl b
  |int b=>cases r;simp[O.dat]at e;subst e;rw[toD];exact .int b
  |str s=>cases r;simp[O.dat]at e;subst e;rw[toD];exact .str _
  |tup xs =>
   rw[O.dat]at e;cases z:xs.mapM (O.dat G n)with
   |none=>rw[z]at e;cases e
   |some ds =>
    rw[z]at e;cases e;cases r with
    |tup hp hr=>rw[toD];exact .tup (Zn hp)<|AE ih z hr
  |ref a =>
   rw[O.dat]at e;cases q:O.ff (G a)with
   |none=>rw[q]at e;cases e
   |some xs =>
    rw[q]at e;simp only[ú]at e;cases z:xs.mapM (O.dat G n)with
    |none=>rw[z]at e;cases e
    |some ds =>rw[z]at e;cases e;cases r.ref_inv;let⟨vs,h1,h2⟩:=Z5 g q;rw[toD];exact .lst h1<|AE ih z h2
  |scr ns =>
   simp[O.dat]at e;subst e;cases r with
   |scr h =>rw[toD,Mm];exact .lst (Yk h)<|IsDs.ints ns
  |key _ _=>simp[O.dat]at e
def X0{n:Nat}:∀{ds:List O.D},(∀d∈ds,(toD d).depth<=n)->ŉ (toDs ds)<=n
 |[],_=>by rw[toDs];simp[ŉ]
 |d::ds,h=>by rw[toDs];simp only[ŉ];exact Nat.max_le.mpr ⟨h d (by simp),X0 λe he=>h e<|by simp[he]⟩
def Mq:∀(n:Nat) (v:O.Val) (d:O.D),O.dat G n v=eM d->(toD d).depth<=n:=by
 have sc:∀(n:Nat) (v:O.Val) (d:O.D),(∀xs,v≠.tup xs)->(∀a,v≠.ref a)->(∀ns,v≠.scr ns)->O.dat G n v=eM d->(toD d).depth<=n:=by
  intro n v d h1 h2 h3 e;cases v with
  |tup xs=>exact gB rfl<|h1 xs
  |ref a=>exact gB rfl<|h2 a
  |scr ns=>exact gB rfl<|h3 ns
  |key _ _=>cases n<;>simp[O.dat]at e
  |_=>simp[O.dat]at e;subst e;simp[toD,PyData.depth]
 have ms:∀(n:Nat),(∀v d,O.dat G n v=eM d->(toD d).depth<=n)->∀(xs:List O.Val) (ds:List O.D),xs.mapM (O.dat G n)=eM ds->ŉ (toDs ds)<=n:=by
  intro n ih xs ds z;refine X0 λd hd=>?_;let⟨k,hk⟩:=cE.mp hd;let⟨h1,h2⟩:=BI z;have Ϡ:k<xs.length:=by rw[h1];exact(Ì.mp hk).1
  let⟨y,hy,hf⟩:=h2 k xs[k]<|É Ϡ;rw[hk]at hy;cases hy;exact ih _ _ hf
 intro n;induction n with
 |zero =>
  intro v d e;cases v with
  |tup xs=>simp[O.dat]at e
  |ref a=>simp[O.dat]at e
  |scr ns=>simp[O.dat]at e
  |_=>exact sc 0 _ d (by simp) (by simp) (by simp) e
 |succ n ih =>
  intro v d e;cases v with
  |tup xs =>
   rw[O.dat]at e;cases z:xs.mapM (O.dat G n)with
   |none=>rw[z]at e;cases e
   |some ds =>rw[z]at e;cases e;rw[toD];exact ϐ<|ms n ih xs ds z
  |ref a =>
   rw[O.dat]at e;cases q:O.ff (G a)with
   |none=>rw[q]at e;cases e
   |some xs =>
    rw[q]at e;simp only[ú]at e;cases z:xs.mapM (O.dat G n)with
    |none=>rw[z]at e;cases e
    |some ds =>rw[z]at e;cases e;rw[toD];exact ϐ<|ms n ih xs ds z
  |scr ns =>simp[O.dat]at e;subst e;rw[toD];refine ϐ<|Õ ?_<|ĳ n;refine X0 λd hd=>?_;let⟨m,_,rfl⟩:=Ô.mp hd;simp[toD,PyData.depth]
  |_=>exact sc (n+1) _ d (by simp) (by simp) (by simp) e
def Kc{v:O.Val}{d:O.D}(e:O.dat G O.deep v=eM d):SeqAt.shaped (toD d)=eP:=by show((toD d).canLay0&&gC ((toD d).depth<=64))=eP;rw[ML,gz<|Õ (Mq _ _ _ e)<|by decide];rfl
def US(g:RH i G H){v u:O.Val}{x y:V}{c:Bool}(rx:RV i.K H v x)(ry:RV i.K H u y)(e:O.eqV G v u=eM c):∃d d',IsD i.K H x d/\IsD i.K H y d'/\SeqAt.shaped d=eP/\SeqAt.shaped d'=eP/\ī d d'=c:=by
 unfold O.eqV at e;cases z:O.dat G O.deep v with
 |none=>rw[z]at e;cases e
 |some d =>
  cases z2:O.dat G O.deep u with
  |none=>rw[z,z2]at e;cases e
  |some d' =>rw[z,z2]at e;cases e;exact⟨_,_,Wa g _ _ _ _ z rx,Wa g _ _ _ _ z2 ry,Kc z,Kc z2,Ng d d'⟩
def SL:Yp i .eq<|Ri i.K:=by intro v u G H x y c Q g rx ry e q;let⟨d,d',h1,h2,h3,h4,h5⟩:=US g rx ry e;exact⟨d,d',h1,h2,h3,h4,by rw[h5];exact q⟩
def SN:Yp i .ne<|QE i.K:=by
 intro v u G H x y c Q g rx ry e q;have e:(O.eqV G v u).map (!·)=eM c:=e;cases z:O.eqV G v u with
 |none=>rw[z]at e;cases e
 |some b =>rw[z]at e;cases e;let⟨d,d',h1,h2,h3,h4,h5⟩:=US g rx ry z;exact⟨d,d',h1,h2,h3,h4,by rw[h5];exact q⟩
end
variable {i:Inf}{X:Cx}{Φ:O.Fs}
def ZB(s:String):(gD s).length=s.length:=by rw[Str.ofString_eq_toList];show(List.map ū s.toList).toArray.size=_;rw[Ð,À];first|rfl|exact ca
def MT(s t:String):gD (s++t)=gD s++gD t:=by rw[Str.ofString_eq_toList,Str.ofString_eq_toList,Str.ofString_eq_toList];show _=Str.append _ _;unfold Str.append;simp
variable {xs:List O.Val}
def KR{o:Option O.Ob}(h:O.ff o=eM xs):o=eM (.lst xs):=by
 cases o with
 |none=>cases h
 |some o=>cases o with
  |lst ys=>cases h;rfl
  |_=>cases h
variable {p:Prop}
def Zm{α:Type}[Decidable p]{o:Option α}{a:α}(e:(if p then o else eN)=eM a):p/\o=eM a:=by
 by_cases q:p
 .rw[gw q]at e;exact⟨q,e⟩
 .rw[gx q]at e;cases e
variable {h:O.Hs} {Q:O.Q1}
def Zq(w:O.Rs.no.wp h Q):False:=by rw[O.Rs.wp_no]at w;exact w
def Zu{v:O.Val}(w:(O.Rs.val v).wp h Q):Q v h:=by rw[O.Rs.wp_val]at w;exact w
def MQ{o:O.Ob}(w:(O.Rs.new o).wp h Q):O.new h o Q:=by rw[O.Rs.wp_new]at w;exact w
def X5[Decidable p]{r:O.Rs}(w:(if p then r else .no).wp h Q):p/\r.wp h Q:=by
 by_cases e:p
 .rw[gw e]at w;exact⟨e,w⟩
 .rw[gx e]at w;exact(Zq w).elim
variable {u:O.Val}
def Jb{f:Int->Int->O.Rs}{v:O.Val}(w:(O.intV f v u).wp h Q):∃i j,v=.int i/\u=.int j/\(f i j).wp h Q:=by
 cases v with
 |int i=>cases u with
  |int j=>exact⟨i,j,rfl,rfl,w⟩
  |_=>exact(Zq w).elim
 |_=>exact(Zq w).elim
abbrev HR(K:Frag):R2:=λx y H Q=>(rI0 λi j=>.int<|i+j) x y H Q\/(((Hv K x y H Q\/Ia K x y H Q)\/P1 x y H Q)\/∃i j,x=.str i/\y=.str j/\i.length+j.length<=Ý/\Q (.str<|i++j) H)
def Rk:OpR X (œ .Add)<|HR X.K:=op_add.or (((op_cat0.or GU).or Lj).or Uw)
def b_add:J3 i .add<|HR i.K:=by
 intro v u G H x y Q Qm g rx ry w c;cases v<;>cases u<;>first|exact(Zq w).elim|skip
 case int.int a b =>
  replace w:=Zu w
  exact .inl ⟨a,b,rx.int_inv,ry.int_inv,c _ G H _ (fo.refl H) g (.int _) w⟩
 case str.str a b =>
  let⟨h,w⟩:=X5 w
  replace w:=Zu w
  refine .inr<|.inr ⟨_,_,rx.str_inv,ry.str_inv,?_,?_⟩
  .rw[ZB,ZB];exact Õ h ZR
  .rw[<-MT];exact c _ G H _ (fo.refl H) g (.str _) w
 case tup.tup xs ys =>
  let⟨h,w⟩:=X5 w
  replace w:=Zu w
  .skip
   cases rx with
   |@tup _ p vs hp hr =>
   cases ry with
   |@tup _ q us hq hs =>
   by_cases h0:vs=[]
   .subst h0;have:xs=[]:=aK hr.length;subst this;exact .inr<|.inl<|.inl<|.inl ⟨p,q,us,rfl,rfl,Zn hp,Zn hq,c _ G H _ (fo.refl H) g (.tup hq hs) w⟩
   refine .inr<|.inl<|.inl<|.inr ⟨p,q,vs,us,rfl,rfl,Zn hp,Zn hq,h0,?_,λz=>?_,λz a ha=>?_⟩
   .rw[<-hr.length,<-hs.length];exact Õ h ZR
   .have:ys=[]:=aK (by rw[hs.length,z];rfl);subst this;rw[ď]at w;exact c _ G H _ (fo.refl H) g (.tup hp hr) w
   .have k:=fo.new (o:=.tup<|vs++us) ha;refine c _ G _ _ k (g.hid k λb o e=>eR ?_) (.tup (.inl eS)<|(hr.keep k).append<|hs.keep k) w;rintro rfl;rw[g.free ha]at e;cases e
 case ref.ref a b =>
  dsimp only[O.binV,O.addV]at w;split at w
  .rename_i xs ys e1 e2;unfold O.Rs.lst at w;split at w
   .rename_i hl;rw[O.Rs.wp_new]at w;cases rx.ref_inv;cases ry.ref_inv;let⟨vs,h1,r1⟩:=g a _ e1;let⟨us,h2,r2⟩:=g b _ e2;refine .inr (.inl<|.inr ⟨a,b,vs,us,rfl,rfl,h1,h2,?_,Yw g w c λp hp=>?_⟩)
    .rw[<-r1.length,<-r2.length,<-ã];exact Õ hl ZR
    .have k:=fo.new (o:=.lst<|vs++us) hp;exact⟨_,eS,(r1.keep k).append<|r2.keep k⟩
   .exact(Zq w).elim
  .exact(Zq w).elim
def b_sub:J3 i .sub<|rI0 λi j=>.int<|i - j:=by intro v u G H x y Q Qm g rx ry w c;let⟨a,b,rfl,rfl,w⟩:=Jb w;exact⟨a,b,rx.int_inv,ry.int_inv,c _ G H _ (fo.refl H) g (.int _)<|Zu w⟩
def RVs.rep{K:Frag}{H:Hp}{vs:List O.Val}{xs:List V}(r:RVs K H vs xs):∀n,RVs K H (Ñ n vs).flatten (Ñ n xs).flatten
 |0=>.nil
 |n+1=>by rw[Ą,Ą,ķ,ķ];exact r.append<|RVs.rep r n
set_option exponentiation.threshold 2000 in
def Po{i j:Int}(h:O.mulOk i j):IntMulOk i j:=by
 rcases h with(h|h)|⟨h1,h2⟩
 .exact .of_left (intBits_le_64 (by lia)<|by lia)
 .exact .of_right (intBits_le_64 (by lia)<|by lia)
 .have e:(10:Nat) ^ 200<2 ^ 1000:=by decide
  exact .of_bits (Õ (PyProof.Rows.intBits_le<|Ë h1 e)<|by decide) (Õ (PyProof.Rows.intBits_le<|Ë h2 e)<|by decide)
def F5(s:String)(n:Nat):L5 (gD s) n=gD (O.repT s n):=by unfold L5 O.repT;rw[Str.ofString_eq_toList,Str.ofString_eq_toList,cb];congr 1;apply eh.mp;rw[MB];simp[List.map_flatten,Ş]
abbrev HA:R2:=λx y H Q=>rI O.mulOk (λi j=>.int<|i*j) x y H Q\/(Rn x y H Q\/HZ x y H Q)
def RD:OpR X (œ .Mult) HA:=OpR.or (opI λ_ _ _ _ _ _ _ hc q=>PyProof.Rows.mul_int q<|Po hc) (op_rep.or Hl)
def b_mul:J3 i .mul HA:=by
 intro v u G H x y Q Qm g rx ry w c;cases v<;>cases u<;>first|exact(Zq w).elim|skip
 case int.int a b =>let⟨h,w⟩:=X5 w;exact .inl ⟨a,b,rx.int_inv,ry.int_inv,h,c _ G H _ (fo.refl H) g (.int _)<|Zu w⟩
 case ref.int a k =>
  dsimp only[O.binV,O.mulV]at w;split at w
  .rename_i xs e1;split at w
   .rename_i hk;unfold O.Rs.lst at w;split at w
    .rw[O.Rs.wp_new]at w;cases rx.ref_inv;cases ry.int_inv;let⟨vs,h1,r1⟩:=g a _ e1;refine .inr (.inl ⟨a,k,vs,rfl,rfl,h1,by lia,by lia,?_,Yw g w c λp hp=>?_⟩)
     .rw[<-r1.length];exact Õ hk.2.2 ZR
     .have kk:=fo.new (o:=.lst (Ñ k.toNat vs).flatten) hp;exact⟨_,eS,(r1.keep kk).rep _⟩
    .exact(Zq w).elim
   .exact(Zq w).elim
  .exact(Zq w).elim
 case str.int a k =>
  let⟨hk,w⟩:=X5 w
  replace w:=Zu w
  refine .inr (.inr ⟨_,k,rx.str_inv,ry.int_inv,hk.1,hk.2.1,by rw[ZB];exact hk.2.2.1,by rw[ZB];exact hk.2.2.2,?_⟩);rw[F5];exact c _ G H _ (fo.refl H) g (.str _) w
def b_fdiv:J3 i .fdiv<|rI Rq λi j=>.int<|i / j:=by intro v u G H x y Q Qm g rx ry w c;let⟨a,b,rfl,rfl,w⟩:=Jb w;let⟨h,w⟩:=X5 w;exact⟨a,b,rx.int_inv,ry.int_inv,h,c _ G H _ (fo.refl H) g (.int _)<|Zu w⟩
def b_mod:J3 i .mod<|rI (λ_ j=>0<j) λi j=>.int<|i % j:=by intro v u G H x y Q Qm g rx ry w c;let⟨a,b,rfl,rfl,w⟩:=Jb w;let⟨h,w⟩:=X5 w;exact⟨a,b,rx.int_inv,ry.int_inv,h,c _ G H _ (fo.refl H) g (.int _)<|Zu w⟩
def b_pow:J3 i .pow<|rI RP λi j=>.int<|i ^ j.toNat:=by intro v u G H x y Q Qm g rx ry w c;let⟨a,b,rfl,rfl,w⟩:=Jb w;let⟨h,w⟩:=X5 w;exact⟨a,b,rx.int_inv,ry.int_inv,h,c _ G H _ (fo.refl H) g (.int _)<|Zu w⟩
def ZS{K:Frag}{H:Hp}:∀{xs:List O.Val}{ns:List Int}{vs:List V},O.eY xs=eM ns->RVs K H xs vs->vs=ns.map V.int
 |[],_,_,e,r=>by cases r;cases e;rfl
 |v::xs,_,_,e,r=>by
  cases r with
  |cons r t=>cases v with
   |int k =>
    have e:(O.eY xs).map (k :: ·)=eM _:=e;cases z:O.eY xs with
    |none=>rw[z]at e;cases e
    |some ns=>rw[z]at e;cases e;cases r;rw[ZS z t];rfl
   |_=>cases e
def MJ:∀(ns ms:List Int),O.fG ns ms=HT.lexLt ns ms
 |[],[]=>rfl
 |[],_::_=>rfl
 |_::_,[]=>rfl
 |x::xs,y::ys=>by rw[O.fG,HT.lexLt_cons,MJ xs ys]
abbrev Q3(K:Frag):R2:=λx y H Q=>rI0 (λi j=>.bl<|gC (i<j)) x y H Q\/QP K x y H Q
def SM(hu:X.A.units<Ķ):OpR X (ï .Lt)<|Q3 X.K:=op_lt.or (PL hu)
abbrev QW(K:Frag):R2:=λx y H Q=>rI0 (λi j=>.bl<|gC (j<i)) x y H Q\/HT2.rGtT K x y H Q
def SG(hu:X.A.units<Ķ):OpR X (ï .Gt)<|QW X.K:=op_gt.or (HT2.op_gtT hu)
variable {H:Hp} {x:V} {c:Bool}
def HY{K:Frag}{ys:List O.Val}{y:V}(rx:RV K H (.tup xs) x)(ry:RV K H (.tup ys) y)(e:O.fH (.tup xs) (.tup ys)=eM c):∃a b ns ms,x=.ref a/\y=.ref b/\gf K H a (ns.map V.int)/\gf K H b (ms.map V.int)/\HT.lexLt ns ms=c:=by
 simp only[O.fH]at e;cases z1:O.eY xs with
 |none=>rw[z1]at e;cases e
 |some ns =>
  cases z2:O.eY ys with
  |none=>rw[z1,z2]at e;cases e
  |some ms =>
   rw[z1,z2]at e;cases e;cases rx with
   |@tup _ p vs hp hr =>
   cases ry with
   |@tup _ q us hq hs =>
   have h1:=ZS z1 hr;have h2:=ZS z2 hs;subst h1 h2;exact⟨p,q,ns,ms,rfl,rfl,Zn hp,Zn hq,(MJ _ _).symm⟩
def c_lt:Yp i .lt<|Q3 i.K:=by
 intro v u G H x y c Q g rx ry e q
 replace e:O.fH v u=eM c:=e
 cases v<;>cases u<;>first|(cases e;done)|skip
 case int.int a b=>cases e;exact .inl ⟨a,b,rx.int_inv,ry.int_inv,q⟩
 case tup.tup xs ys =>let⟨a,b,ns,ms,h1,h2,h3,h4,h5⟩:=HY rx ry e;exact .inr ⟨a,b,ns,ms,h1,h2,h3,h4,by rw[h5];exact q⟩
def c_gt:Yp i .gt<|QW i.K:=by
 intro v u G H x y c Q g rx ry e q
 replace e:O.fH u v=eM c:=e
 cases v<;>cases u<;>first|(cases e;done)|skip
 case int.int a b=>cases e;exact .inl ⟨a,b,rx.int_inv,ry.int_inv,q⟩
 case tup.tup xs ys =>let⟨a,b,ns,ms,h1,h2,h3,h4,h5⟩:=HY ry rx e;exact .inr ⟨b,a,ms,ns,h2,h1,h4,h3,by rw[HT2.lexGt_lt,h5];exact q⟩
def Hx{v:O.Val}(e:O.leV v u=eM c):∃i j,v=.int i/\u=.int j/\gC (i<=j)=c:=by
 cases v with
 |int i=>cases u with
  |int j=>cases e;exact⟨i,j,rfl,rfl,rfl⟩
  |_=>cases e
 |_=>cases e
def c_le:Yp i .le<|rI0 λi j=>.bl<|gC (i<=j):=by intro v u G H x y c Q g rx ry e q;let⟨a,b,rfl,rfl,rfl⟩:=Hx e;exact⟨a,b,rx.int_inv,ry.int_inv,q⟩
def c_ge:Yp i .ge<|rI0 λi j=>.bl<|gC (j<=i):=by intro v u G H x y c Q g rx ry e q;let⟨a,b,rfl,rfl,rfl⟩:=Hx e;exact⟨b,a,rx.int_inv,ry.int_inv,q⟩
def RV.isN{K:Frag}{v:O.Val}(r:RV K H v x):gC (x=.non)=gC (v=.non):=by cases r<;>simp
variable {a:Expr} {ma:O.E} {î:Pos} {p2:Pos} {j:Nat}
def RE(ha:PE X a<|tE X i Φ ma):PE X (.Compare a [.Is] [.Constant .none j p2] î) (tE X i Φ<|.cmp .is ma<|.cst .non) :=
 (CH (DV ha) rfl).imp λσ H Q ⟨env,G,Qm,Em,p,w,c⟩=>by refine one p w λv G1 H1 x k1 p1 r q=>?_;let⟨d,e,q2⟩:=eV q;have e:eM (gC (v=.non))=eM d:=e;cases e;rw[r.isN];exact c _ G1 H1 _ k1 p1.hp (.bl _) q2
def Pv(ha:PE X a<|tE X i Φ ma):PE X (.Compare a [.IsNot] [.Constant .none j p2] î) (tE X i Φ<|.cmp .isnot ma<|.cst .non) :=
 (CH (UU ha) rfl).imp λσ H Q ⟨env,G,Qm,Em,p,w,c⟩=>by refine one p w λv G1 H1 x k1 p1 r q=>?_;let⟨d,e,q2⟩:=eV q;have e:eM (!gC (v=.non))=eM d:=e;cases e;rw[r.isN];exact c _ G1 H1 _ k1 p1.hp (.bl _) q2
def L0(ha:PE X a<|tE X i Φ ma):PT X (.Compare a [.Is] [.Constant .none j p2] î) (tTt X i Φ<|.val<|.cmp .is ma<|.cst .non) :=
 (C4 (DV ha) rfl).imp λσ H Q ⟨env,G,Qm,Em,p,w,c⟩=>by refine one p w λv G1 H1 x k1 p1 r q=>?_;let⟨d,e,q2⟩:=eV q;let⟨d',e',q3⟩:=eV q2;cases e';have e:eM (gC (v=.non))=eM d:=e;cases e;rw[r.isN];exact⟨_,rfl,c _ G1 H1 k1 p1.hp q3⟩
def Hf(ha:PE X a<|tE X i Φ ma):PT X (.Compare a [.IsNot] [.Constant .none j p2] î) (tTt X i Φ<|.val<|.cmp .isnot ma<|.cst .non) :=
 (C4 (UU ha) rfl).imp λσ H Q ⟨env,G,Qm,Em,p,w,c⟩=>by refine one p w λv G1 H1 x k1 p1 r q=>?_;let⟨d,e,q2⟩:=eV q;let⟨d',e',q3⟩:=eV q2;cases e';have e:eM (!gC (v=.non))=eM d:=e;cases e;rw[r.isN];exact⟨_,rfl,c _ G1 H1 k1 p1.hp q3⟩
end Snd
namespace Snd
open PySem L2 PySem.Spec PyProof.Rows
variable {i:Inf}{X:Cx}{Φ:O.Fs}
def RKs.length{K:Frag}{H:Hp}:∀{kvs:List (O.Val×O.Val)}{ps:List (Key×V)},RKs K H kvs ps->kvs.length=ps.length
 |_,_,.nil=>rfl
 |_,_,.cons _ _ t=>by rw[Ò,Ò,RKs.length t]
def W9{k j:O.Val}{c d:Key}(a:WX k c)(b:WX j d):(k==j)=gC (c=d):=by
 have key:k=j↔c=d:=by
  cases k<;>cases c<;>first|(cases a;done)|skip
  .cases j<;>cases d<;>first|(cases b;done)|skip
   .cases a;cases b;simp
   .cases a;cases b;simp
  .cases j<;>cases d<;>first|(cases b;done)|skip
   .cases a;cases b;simp
   .cases a;cases b;simp[ofS_inj]
 by_cases e:k=j
 .rw[gz<|key.mp e,e];simp
 .rw[gy λz=>e<|key.mpr z];simpa using e
def fh{k:O.Val}{x:V}{K:Frag}{H:Hp}(h:O.fk k=eP)(r:RV K H k x):∃c,WX k c/\x=kV c:=by
 cases k with
 |int n=>cases r.int_inv;exact⟨.inl n,rfl,rfl⟩
 |str s=>cases r.str_inv;exact⟨.inr<|gD s,rfl,rfl⟩
 |_=>cases h
def RKs.look{K:Frag}{H:Hp}{k:O.Val}{c:Key}(a:WX k c):∀{kvs:List (O.Val×O.Val)}{ps:List (Key×V)},RKs K H kvs ps->
  (∀v,O.fq kvs k=eM v->∃x,YD ps c=eM x/\RV K H v x)/\(O.fq kvs k=eN->YD ps c=eN)
 |_,_,.nil=>⟨λv e=>(by cases e),λ_=>rfl⟩
 |_,_,.cons (k:=j) (v:=u) (c:=d) (x:=y) (kvs:=kvs) (ps:=ps) b r t=>by
  have ih:=RKs.look a t;have q:=W9 b a;by_cases e:d=c
  .rw[gz e]at q;have e1:O.fq ((j,u)::kvs) k=eM u:=by simp[O.fq,ę,q]
   rw[e1,Xk e];exact⟨λv z=>(by cases z;exact⟨y,rfl,r⟩),λz=>(by cases z)⟩
  .rw[gy e]at q;have e1:O.fq ((j,u)::kvs) k=O.fq kvs k:=by simp[O.fq,ę,q]
   rw[e1,Xq e];exact ih
def RKs.has{K:Frag}{H:Hp}{k:O.Val}{c:Key}(a:WX k c):∀{kvs:List (O.Val×O.Val)}{ps:List (Key×V)},RKs K H kvs ps->O.fu kvs k=ps.any λkv=>gC (kv.1=c)
 |_,_,.nil=>rfl
 |_,_,.cons b r t=>by have ih:=RKs.has a t;unfold O.fu at ih ⊢;rw[ı,ı,ih,W9 b a]
def RKs.app{K:Frag}{H:Hp}{k v:O.Val}{c:Key}{x:V}(a:WX k c)(q:RV K H v x):∀{kvs:List (O.Val×O.Val)}{ps:List (Key×V)},RKs K H kvs ps->RKs K H (kvs++[(k,v)]) (ps++[(c,x)])
 |_,_,.nil=>.cons a q .nil
 |_,_,.cons b r t=>.cons b r<|RKs.app a q t
def RKs.repl{K:Frag}{H:Hp}{k v:O.Val}{c:Key}{x:V}(a:WX k c)(q:RV K H v x):∀{kvs:List (O.Val×O.Val)}{ps:List (Key×V)},RKs K H kvs ps->
  RKs K H (kvs.map λp=>if p.1==k then(k,v)else p) (ps.map λkv=>if kv.1=c then(kv.1,x)else kv)
 |_,_,.nil=>.nil
 |_,_,.cons (k:=j) (v:=u) (c:=d) (x:=y) b r t=>by
  have ih:=RKs.repl a q t;have z:=W9 b a;rw[Î,Î];by_cases e:d=c
  .rw[gz e]at z;rw[gw z,gw e];exact .cons (e▸a) q ih
  .rw[gy e]at z;rw[gx (by rw[z];decide),gx e];exact .cons b r ih
def RKs.put{K:Frag}{H:Hp}{k v:O.Val}{c:Key}{x:V}(a:WX k c)(q:RV K H v x){kvs:List (O.Val×O.Val)}{ps:List (Key×V)}(r:RKs K H kvs ps):RKs K H (O.fv kvs k v)<|L2.fv ps c x:=by
 unfold O.fv L2.fv;rw[r.has a];by_cases e:(ps.any λkv=>gC (kv.1=c))=eP
 .rw[gw e,gw e];exact r.repl a q
 .rw[gx e,gx e];exact r.app a q
def RKs.drop{K:Frag}{H:Hp}{k:O.Val}{c:Key}(a:WX k c):∀{kvs:List (O.Val×O.Val)}{ps:List (Key×V)},RKs K H kvs ps->RKs K H (O.fw kvs k) (L2.fw ps c)
 |_,_,.nil=>.nil
 |_,_,.cons (k:=j) (v:=u) (c:=d) (x:=y) b r t=>by
  have ih:=RKs.drop a t;have z:=W9 b a;unfold O.fw L2.fw at ih ⊢;rw[đ,đ];by_cases e:d=c
  .rw[gz e]at z;rw[gx (by rw[z];decide),gx<|by simpa using e];exact ih
  .rw[gy e]at z;rw[gw (by rw[z];rfl),gw<|by simpa using e];exact .cons b r ih
variable {G:O.Hs} {H:Hp} {a:Ï} {kvs':List (O.Val×O.Val)}
def M3{kvs:List (O.Val×O.Val)}{ps cQ:List (Key×V)}(g:RH i G H)(h:H a=eM (.dK ps))(r:RKs i.K H kvs' cQ):fo H (upd H a<|.dK cQ)/\RH i (O.upd G a<|.dct kvs') (upd H a<|.dK cQ):=by
 have k:fo H<|upd H a<|.dK cQ:=fo.put (λxs e=>by rw[h]at e;cases e) λp u e=>by rw[h]at e;cases e
 exact⟨k,g.put k ⟨cQ,eS,r.keep k⟩⟩
def RTs.length{K:Frag}{H:Hp}:∀{kvs:List (O.Val×O.Val)}{ps:List (List Key×V)},RTs K H kvs ps->kvs.length=ps.length
 |_,_,.nil=>rfl
 |_,_,.cons _ t=>by rw[Ò,Ò,RTs.length t]
def Nj(a b i j:Int):(O.Val.key a b == .key i j)=gC (([.inl a,.inl b]:List Key)=[.inl i,.inl j]):=by
 by_cases e:a=i/\b=j
 .obtain⟨rfl,rfl⟩:=e;rw[gz rfl];simp
 .rw[gy λz=>e<|by simpa using z];exact beq_eq_false_iff_ne.mpr λz=>e ⇑z
def RTs.look{K:Frag}{H:Hp}{i j:Int}:∀{kvs:List (O.Val×O.Val)}{ps:List (List Key×V)},RTs K H kvs ps->
  (∀v,O.fq kvs (.key i j)=eM v->∃x,YD ps [.inl i,.inl j]=eM x/\RV K H v x)/\(O.fq kvs (.key i j)=eN->YD ps [.inl i,.inl j]=eN)
 |_,_,.nil=>⟨λv e=>(by cases e),λ_=>rfl⟩
 |_,_,.cons (i:=a) (j:=b) (v:=u) (x:=y) (kvs:=kvs) (ps:=ps) r t=>by
  have ih:=RTs.look (i:=i) (j:=j) t;have q:=Nj a b i j;by_cases e:([.inl a,.inl b]:List Key)=[.inl i,.inl j]
  .rw[gz e]at q;have e1:O.fq ((.key a b,u)::kvs) (.key i j)=eM u:=by simp[O.fq,ę,q]
   rw[e1,Xk e];exact⟨λv z=>(by cases z;exact⟨y,rfl,r⟩),λz=>(by cases z)⟩
  .rw[gy e]at q;have e1:O.fq ((.key a b,u)::kvs) (.key i j)=O.fq kvs (.key i j):=by simp[O.fq,ę,q]
   rw[e1,Xq e];exact ih
def RTs.has{K:Frag}{H:Hp}{i j:Int}:∀{kvs:List (O.Val×O.Val)}{ps:List (List Key×V)},RTs K H kvs ps->O.fu kvs (.key i j)=ps.any λkv=>gC (kv.1=[.inl i,.inl j])
 |_,_,.nil=>rfl
 |_,_,.cons (i:=a) (j:=b) r t=>by have ih:=RTs.has (i:=i) (j:=j) t;unfold O.fu at ih ⊢;rw[ı,ı,ih,Nj a b i j]
def RTs.app{K:Frag}{H:Hp}{v:O.Val}{i j:Int}{x:V}(q:RV K H v x):∀{kvs:List (O.Val×O.Val)}{ps:List (List Key×V)},RTs K H kvs ps->RTs K H (kvs++[(.key i j,v)]) (ps++[([.inl i,.inl j],x)])
 |_,_,.nil=>.cons q .nil
 |_,_,.cons r t=>.cons r<|RTs.app q t
def RTs.repl{K:Frag}{H:Hp}{v:O.Val}{i j:Int}{x:V}(q:RV K H v x):∀{kvs:List (O.Val×O.Val)}{ps:List (List Key×V)},RTs K H kvs ps->
  RTs K H (kvs.map λp=>if p.1 == .key i j then(.key i j,v)else p) (ps.map λkv=>if kv.1=[.inl i,.inl j]then(kv.1,x)else kv)
 |_,_,.nil=>.nil
 |_,_,.cons (i:=a) (j:=b) (v:=u) (x:=y) r t=>by
  have ih:=RTs.repl (i:=i) (j:=j) q t;have z:=Nj a b i j;rw[Î,Î];by_cases e:([.inl a,.inl b]:List Key)=[.inl i,.inl j]
  .rw[gz e]at z;simp only[z,if_true,e];exact .cons q ih
  .rw[gy e]at z;simp only[z,e,if_false,Ĭ];exact .cons r ih
def RTs.put{K:Frag}{H:Hp}{v:O.Val}{i j:Int}{x:V}(q:RV K H v x){kvs:List (O.Val×O.Val)}{ps:List (List Key×V)}(r:RTs K H kvs ps):RTs K H (O.fv kvs (.key i j) v)<|L2.fv ps [.inl i,.inl j] x:=by
 unfold O.fv L2.fv;rw[r.has];by_cases e:(ps.any λkv=>gC (kv.1=[.inl i,.inl j]))=eP
 .rw[gw e,gw e];exact r.repl q
 .rw[gx e,gx e];exact r.app q
def Hc{ps cQ:List (List Key×V)}(g:RH i G H)(h:H a=eM (.dT ps))(r:RTs i.K H kvs' cQ):fo H (upd H a<|.dT cQ)/\RH i (O.upd G a<|.dtp kvs') (upd H a<|.dT cQ):=by
 have k:fo H<|upd H a<|.dT cQ:=fo.put (λxs e=>by rw[h]at e;cases e) λp u e=>by rw[h]at e;cases e
 exact⟨k,g.put k ⟨cQ,eS,r.keep k⟩⟩
def W5{k:O.Val}{x:V}{K:Frag}{H:Hp}(h:O.isKeyT k=eP)(r:RV K H k x):∃a b c,k=.key a b/\x=.ref c/\H c=eM (.tup<|([.inl a,.inl b]:List Key).map kV):=by
 cases k with
 |key a b=>cases r with|key e=>exact⟨a,b,_,rfl,rfl,e⟩
 |_=>cases h
abbrev CK:R2:=λx y H Q=>∃a v,x=.ref a/\DGet H a y (eM v)/\Q v H
def GL(hu:X.A.units+1<Ķ):IxR X CK:=by
 intro Θ slice Â s σ H x y v u Q I rx ry h hs;let⟨a,z,rfl,g,q⟩:=h;cases rx;have hT:=ON I g;unfold dj;refine Á ?_;rw[getitemInPython_of_ne hT.not_modules];refine Á<|wpAny_specialOf hT PySem.F.slot_dict_getitem.lookup ?_;have fin:wpAny (à X.prog X.w) X.A (subscripted slice eQ (.ref a) u) (λr aS=>wpAny (à X.prog X.w) X.A (letTemporaryGo Θ (.ref a) r >>= λ_=>pure r) (EP X Â σ Q) X.xe aS) X.xe s:=by rw[hs];exact wpAny_operating<|Mn hu I g ry λw' s' I' bf=>Á<|wpAny_letTemporaryGo<|È ⟨_,_,I',bf,q⟩
 first
  |exact È<|Á fin
  |exact Á<|È<|Á fin
  |exact Á fin
abbrev GH(b:Bool):R2:=λx y H Q=>∃a o,y=.ref a/\DGet H a x o/\Q (.bl<|b ^^ o.isSome) H
def Pb(hu:X.A.units+1<Ķ):OpR X (ï .In)<|GH eQ:=by intro Â s σ H x y v u Q I rx ry h;let⟨a,o,rfl,g,q⟩:=h;cases ry;rw[Bool.false_xor]at q;exact Sa hu I g rx λs' I'=>⟨.bl o.isSome,_,I',rfl,q⟩
def Iq(hu:X.A.units+1<Ķ):OpR X (ï .NotIn)<|GH eP:=by intro Â s σ H x y v u Q I rx ry h;let⟨a,o,rfl,g,q⟩:=h;cases ry;rw[Bool.true_xor]at q;exact F8 hu I g rx λs' I'=>⟨.bl (!o.isSome),_,I',rfl,q⟩
abbrev HG:V->V->V->Hp->(Hp->Prop)->Prop:=λo y v H Q=>∃a H',o=.ref a/\DPut H a y v H'/\Q H'
def N8(hu:X.A.units+1<Ķ):PSet X HG:=by intro Â s σ H o y v ov iv u Q I ro ri rv h;let⟨a,H',rfl,g,q⟩:=h;cases ro;exact BW hu I g ri rv λs' I'=>⟨H',I',q⟩
def PSet.or{r r':V->V->V->Hp->(Hp->Prop)->Prop}(h:PSet X r)(h':PSet X r'):PSet X λo y v H Q=>r o y v H Q\/r' o y v H Q:=by
 intro Â s σ H o y v ov iv u Q I ro ri rv q;rcases q with q|q
 .exact h Â s σ H o y v ov iv u Q I ro ri rv q
 .exact h' Â s σ H o y v ov iv u Q I ro ri rv q
end Snd
namespace Snd
open PySem L2
variable {i:Inf}{X:Cx}{Φ:O.Fs}
def Nq(n:Nat)(k:Int):O.ixN n k=L2.ixN n k:=rfl
variable {H:Hp} {xs:List O.Val} {vs:List V}
def W7{K:Frag}{k:Int}{v:O.Val}(r:RVs K H xs vs)(e:O.atI xs k=eM v):∃x,L2.atI vs k=eM x/\RV K H v x:=by
 unfold O.atI at e;unfold L2.atI;rw[Nq,r.length]at e;cases z:L2.ixN vs.length k with
 |none=>rw[z]at e;cases e
 |some j =>rw[z]at e;let⟨x,h1,h2⟩:=r.get (show xs[j]?=eM v from e);exact⟨x,h1,h2⟩
abbrev QU(i:Inf)(r:R2):Prop:=∀(v u:O.Val) (G:O.Hs) (H:Hp) (x y:V) (w:O.Val) (Q:VK),RH i G H->RV i.K H v x->RV i.K H u y->O.fI G v u=eM w->(∀z,RV i.K H w z->Q z H)->r x y H Q
variable {a:Expr} {ma:O.E} {î:Pos}
def Qi{b:Expr}{mb:O.E}{r:R2}(hr:IxR X r)(ho:QU i r)(ha:PE X a<|tE X i Φ ma)(hb:PE X b<|tE X i Φ mb)(hs:Nl b):PE X (.Subscript a b î) (tE X i Φ<|.idx ma mb) :=
 (RF hr ha hb hs).imp λσ H Q ⟨env,G,Qm,Em,p,w,c⟩=>by
  exact two p w λv u G2 H2 x y k2 p2 rx ry q=>by let⟨z,e,q⟩:=eV q;exact ho v u G2 H2 x y z Q p2.hp rx ry e λt rt=>c z G2 H2 t k2 p2.hp rt q
def Fo{s:String}{k:Int}{c:Char}(e:O.atI s.toList k=eM c):L2.atI (gD s).cps.toList k=eM c.toNat:=by
 rw[Str.ofString_eq_toList];show L2.atI (List.map ū s.toList).toArray.toList k=_;unfold O.atI at e;unfold L2.atI;simp only[À];rw[Nq]at e;cases z:L2.ixN s.toList.length k with
 |none=>rw[z]at e;cases e
 |some j =>rw[z]at e;have e:s.toList[j]?=eM c:=e;show(List.map ū s.toList)[j]?=_;rw[Ø,e];rfl
def OV(c:Char):gD (ay c)=⟨#[c.toNat]⟩:=by rw[Str.ofString_eq_toList];simp
abbrev Sm(K:Frag):R2:=λx y H Q=>rIx K x y H Q\/CK x y H Q
def QN:QU i<|Sm i.K:=by
 intro v u G H x y w Q g rx ry e q;cases v with
 |tup xs =>
  cases u with
  |int k =>
   cases rx with
   |tup hp hr =>let⟨z,h1,h2⟩:=W7 hr (show O.atI xs k=eM w from e);exact .inl<|.inr<|.inl ⟨_,_,k,z,rfl,ry.int_inv,Zn hp,h1,q z h2⟩
  |_=>cases e
 |str s =>
  cases u with
  |int k =>
   simp only[O.fI]at e;split at e
   .rename_i hl;cases z:O.atI s.toList k with
    |none=>rw[z]at e;cases e
    |some c =>rw[z]at e;cases e;refine .inl (.inr<|.inr ⟨_,k,_,rx.str_inv,ry.int_inv,by rw[ZB];exact Õ hl ZR,Fo z,?_⟩);have:=q _<|.str<|ay c;rw[OV]at this;exact this
   .cases e
  |_=>cases e
 |ref a =>
  cases rx.ref_inv
  replace e:(match G a with|some (.lst xs)=>(O.gk u).bind (O.atI xs)|some (.dct kvs)=>if O.fk u then O.fq kvs u else eN|some (.frz kvs)=>if O.fk u then O.fq kvs u else eN|some (.dtp kvs)=>if O.isKeyT u then O.fq kvs u else eN|_=>eN)=eM w:=e
  cases z:G a with
  |none=>rw[z]at e;cases e
  |some o =>
   rw[z]at e;cases o with
   |lst xs =>let⟨k,hk,e⟩:=ê.mp e;cases Z3 hk;let⟨vs,h1,h2⟩:=g a _ z;let⟨t,h3,h4⟩:=W7 h2 e;exact .inl<|.inl ⟨a,vs,k,t,rfl,ry.int_inv,fZ.of h1,h3,q t h4⟩
   |dct kvs =>let⟨hk,e⟩:=Zm (show(if O.fk u then O.fq kvs u else eN)=eM w from e);let⟨ps,h1,h2⟩:=g a _ z;let⟨d,kr,rfl⟩:=fh hk ry;let⟨t,hx,rv⟩:=(h2.look kr).1 w e;exact .inr ⟨a,t,rfl,by rw[<-hx];exact DGet.k h1,q t rv⟩
   |frz kvs =>let⟨hk,e⟩:=Zm (show(if O.fk u then O.fq kvs u else eN)=eM w from e);let⟨ob,ps,h1,h2⟩:=g a _ z;let⟨d,kr,rfl⟩:=fh hk ry;let⟨t,hx,rv⟩:=(h2.look kr).1 w e;exact .inr ⟨a,t,rfl,.inl ⟨ps,d,.inr ⟨ob,h1⟩,rfl,hx.symm⟩,q t rv⟩
   |dtp kvs =>let⟨hk,e⟩:=Zm (show(if O.isKeyT u then O.fq kvs u else eN)=eM w from e);let⟨ps,h1,h2⟩:=g a _ z;let⟨k1,k2,b,rfl,rfl,hb⟩:=W5 hk ry;let⟨t,hx,rv⟩:=(h2.look).1 w e;exact .inr ⟨a,t,rfl,by rw[<-hx];exact DGet.t h1 hb,q t rv⟩
   |_=>cases e
 |scr ns =>
  cases u with
  |int k =>
   cases rx with
   |scr h =>let⟨t,h3,h4⟩:=W7 (RVs.ints ns) (show O.atI (ns.map .int) k=eM w from e);exact .inl<|.inl ⟨_,_,k,t,rfl,ry.int_inv,Yk h,h3,q t h4⟩
  |_=>cases e
 |_=>cases e
abbrev tOx(X:Cx)(i:Inf)(Φ:O.Fs)(m:O.Oe):TO:=λσ H Q=>∃env G Qm Em,Pre X i σ H env G Em/\O.wO Φ m env G Qm Em/\∀k G' H',fo H H'->RH i G' H'->Qm k G'->Q k H'
def _root_.L2.PO.imp{e:Option Expr}{t t':TO}(h:PO X e t)(f:∀σ H Q,t' σ H Q->t σ H Q):PO X e t':=λÂ s σ H Q I q=>h Â s σ H Q I (f σ H Q q)
def Gf:PO X eN<|tOx X i Φ .none:=po_none.imp λσ H Q ⟨env,G,Qm,Em,p,w,c⟩=>by exact c eN G H (fo.refl H) p.hp w
def FW{e:Expr}{m:O.E}(he:PE X e<|tE X i Φ m):PO X (eM e)<|tOx X i Φ<|.some m:=(He he).imp λσ H Q ⟨env,G,Qm,Em,p,w,c⟩=>by
 exact one p w λv G1 H1 x k1 p1 r q=>by let⟨b,e,q2⟩:=eV q;cases Z3 e;exact⟨b,r.int_inv,c _ G1 H1 k1 p1.hp q2⟩
def Up{K:Frag}(r:RVs K H xs vs)(lo hi:Option Int):RVs K H (O.cut xs lo hi)<|ND vs lo hi:=by
 have e:∀(n d:Nat) (o:Option Int),O.fE n d o=HT.sIx n d o:=by
  intro n d o;cases o with
  |none=>rfl
  |some k =>
   show(if 0<=k then min k.toNat n else(k+n).toNat)=(if k<0 then(k+(n:Int)).toNat else min k.toNat n)
   by_cases h:k<0
   .rw[gw h,gx<|by lia]
   .rw[gx h,gw<|by lia]
 unfold O.cut ND;rw[e,e,r.length];exact(r.drop _).take _
abbrev P4(i:Inf)(r:V->Option Int->Option Int->Hp->VK->Prop):Prop:=∀(v:O.Val) (lo hi:Option Int) (G:O.Hs) (H:Hp) (x:V) (Q:VK) (Qm:O.Q1),RH i G H->RV i.K H v x->(O.fJ G v lo hi).wp G Qm->Cn i H Q Qm->r x lo hi H Q
def Rp{lo hi:Option Expr}{ml mh:O.Oe}{r:V->Option Int->Option Int->Hp->VK->Prop}{p2:Pos}(hr:SlR X r)(ho:P4 i r)(ha:PE X a<|tE X i Φ ma)(hl:PO X lo<|tOx X i Φ ml)(hh:PO X hi<|tOx X i Φ mh):PE X (.Subscript a (.Slice lo hi eN p2) î) (tE X i Φ<|.slc ma ml mh) :=
 (Dp hr ha hl hh).imp λσ H Q ⟨env,G,Qm,Em,p,w,c⟩=>by
  exact⟨env,G,_,Em,p,w,λv G1 H1 x k1 g1 r1 w1=>⟨env,G1,_,Em,p.go k1 g1,w1,λl G2 H2 k2 g2 w2=>⟨env,G2,_,Em,(p.go k1 g1).go k2 g2,w2,λu G3 H3 k3 g3 w3 =>
    ho v l u G3 H3 x Q Qm g3 ((r1.keep k2).keep k3) w3 (((c.go k1).go k2).go k3)⟩⟩⟩
abbrev Rx(K:Frag):V->Option Int->Option Int->Hp->VK->Prop:=λx lo hi H Q=>Qp K x lo hi H Q\/Rl K x lo hi H Q\/Re x lo hi H Q\/Rv K x lo hi H Q
def R6:SlR X<|Rx X.K:=sl_list.or (fP.or<|sl_str.or GZ)
def Wd(n d:Nat)(o:Option Int):O.fE n d o=HT.sIx n d o:=by
 cases o with
 |none=>rfl
 |some k =>
  show(if 0<=k then min k.toNat n else(k+n).toNat)=(if k<0 then(k+(n:Int)).toNat else min k.toNat n)
  by_cases h:k<0
  .rw[gw h,gx<|by lia]
  .rw[gx h,gw<|by lia]
def N6(n d:Nat)(h:d<=n)(o:Option Int):O.fE n d o<=n:=by
 cases o with
 |none=>exact h
 |some k =>show(if 0<=k then min k.toNat n else(k+n).toNat)<=n;split<;>lia
def clip_eq(n d:Nat)(h:d<=n)(o:Option Int):(match o with
    |none=>(d:Int)
    | some i=>max 0<|min (if i<0 then i+(n:Int)else i) (n:Int))=(O.fE n d o:Int):=by
 cases o with
 |none=>rfl
 |some k =>
  show _=(((if 0<=k then min k.toNat n else(k+n).toNat):Nat):Int)
  by_cases hk:k<0
  .rw[gx<|show ¬ 0<=k by lia];simp only[hk,if_true];lia
  .rw[gw<|show 0<=k by lia];simp only[hk,if_false];lia
def Pr(n:Nat)(lo hi:Option Int):PySem.Builtin.Str.strSliceIndices lo hi 1 n=(List.range<|O.fE n n hi - O.fE n 0 lo).map λk=>O.fE n 0 lo+k:=by
 have e1:=clip_eq n 0 (ĳ _) lo;have e2:=clip_eq n n (Ó _) hi;have e3:PySem.Builtin.Str.strSliceIndices lo hi 1 n=sliceRange (O.fE n 0 lo:Int) (O.fE n n hi:Int) 1:=by unfold PySem.Builtin.Str.strSliceIndices;rw[<-e1,<-e2];cases lo<;>cases hi<;>rfl
 rw[e3];unfold sliceRange;have e4:(if(1:Int) > 0 then(if(O.fE n 0 lo:Int)<(O.fE n n hi:Int)then((O.fE n n hi:Int) - (O.fE n 0 lo:Int)+1 - 1) / 1 else 0)else(if(O.fE n 0 lo:Int) > (O.fE n n hi:Int)then((O.fE n 0 lo:Int) - (O.fE n n hi:Int) - 1 - 1) / (-1)else 0)).toNat=O.fE n n hi - O.fE n 0 lo:=by rw[gw (by decide),Int.ediv_one];split<;>lia
 show(List.range<|Int.toNat<|if(1:Int) > 0 then _ else _).map _=_;rw[e4];refine Ċ λk _=>?_;lia
def Gg(s:String)(lo hi:Option Int):Bw (gD s) lo hi=gD (Υ<|O.cut s.toList lo hi):=by
 have hl:(gD s).length=s.toList.length:=by rw[ZB,ca]
 have ha:=N6 s.toList.length 0 (ĳ _) lo;have hb:=N6 s.toList.length s.toList.length (Ó _) hi;have e:=Pr s.toList.length lo hi;rw[<-hl]at e;unfold Bw;rw[e];simp only[hl];have ec:(gD s).cps.toList=s.toList.map ū:=by rw[Str.ofString_eq_toList]
 split
 .rename_i z;rw[À,ĥ]at z;have e0:O.fE s.toList.length 0 lo=0\/s.toList.length=0:=by lia
  have e5:O.cut s.toList lo hi=s.toList:=by
   unfold O.cut;rw[z];rcases e0 with e0|e0
   .rw[e0,List.drop_zero,Ē]
   .have:s.toList=[]:=Ϗ.mp e0;rw[this];simp
  rw[e5,String.ofList_toList]
 .rw[Str.ofString_eq_toList<|Υ _,cb];congr 2;have e3:(λi:Nat=>(gD s).cps[i]?)=λi:Nat=>(s.toList.map ū)[i]?:=by
   funext i;rw[<-ec];simp
  rw[e3];by_cases hab:O.fE s.toList.length 0 lo<=O.fE s.toList.length s.toList.length hi
  .rw[PySem.StrLaws.picks _ _ _<|by rw[À];lia];unfold O.cut;rw[bO,List.map_drop]
  .have:O.fE s.toList.length s.toList.length hi - O.fE s.toList.length 0 lo=0:=by lia
   unfold O.cut;rw[this];simp
def Q7:P4 i<|Rx i.K:=by
 intro v lo hi G H x Q Qm g r w c;cases v with
 |tup xs =>
  simp only[O.fJ]at w;split at w
  .rename_i hn;rw[O.Rs.wp_val]at w;cases r with
   |@tup _ a vs hp hr=>exact .inr (.inr<|.inr ⟨a,vs,rfl,Zn hp,by rw[<-Wd,<-Wd,<-hr.length];exact hn,c _ G H _ (fo.refl H) g (.tup hp hr) w⟩)
  .rename_i hn;rw[O.Rs.wp_val]at w;cases r with
   |@tup _ a vs hp hr =>refine .inr (.inl ⟨a,vs,rfl,Zn hp,by rw[<-Wd,<-Wd,<-hr.length];exact hn,λp hp'=>?_⟩);have k:=fo.new (o:=.tup<|ND vs lo hi) hp';refine c _ G _ _ k (g.hid k λb o e=>eR ?_) (.tup (.inl eS)<|Up (hr.keep k) lo hi) w;rintro rfl;rw[g.free hp']at e;cases e
 |ref a =>
  cases r.ref_inv;simp only[O.fJ]at w;cases z:O.ff (G a)with
  |none=>rw[z]at w;simp at w
  |some xs =>rw[z]at w;rw[O.Rs.wp_new]at w;let⟨vs,h1,h2⟩:=Z5 g z;exact .inl ⟨a,vs,rfl,h1,Yw g w c λp hp=>⟨_,eS,Up (h2.keep<|fo.new hp) lo hi⟩⟩
 |scr ns =>
  simp only[O.fJ,O.Rs.wp_new]at w;cases r with
  |scr h=>exact .inl ⟨_,_,rfl,Yk h,Yw g w c λp hp=>⟨_,eS,Up (RVs.ints ns) lo hi⟩⟩
 |str s =>
  cases r.str_inv;simp only[O.fJ]at w;split at w
  .rename_i hl;rw[O.Rs.wp_val]at w;refine .inr (.inr <| .inl ⟨_,rfl,by rw[ZB];exact Õ hl (by decide),?_⟩);rw[Gg];exact c _ G H _ (fo.refl H) g (.str _) w
  .simp at w
 |_=>simp[O.fJ]at w
variable {H:Hp} {vs:List O.Val} {xs:List V} {x:V}
def RVs.app1{K:Frag}{v:O.Val}(r:RVs K H vs xs)(q:RV K H v x):RVs K H (vs++[v])<|xs++[x]:=r.append (.cons q .nil)
variable {es:List Expr} {ms:O.Es} {n:Nat} {î:Pos}
def RK{k:Nat}(hn:n<=1000)(h:PA X es<|tAr X i Φ ms n):PE X (.Tuple es k î) (tE X i Φ<|.tup ms) :=
 (La h).imp λσ H Q ⟨env,G,Qm,Em,p,w,c⟩=>by refine⟨env,G,_,Em,p,w,λvs G1 H1 xs k1 g1 r1 hl w1=>⟨by rw[hl];exact Õ hn (by decide),λa ha=>?_⟩⟩;have k:=fo.new (o:=.tup xs) ha;refine c _ G1 _ _ (k1.trans k) (g1.hid k λb o e=>eR ?_) (.tup (.inl eS)<|r1.keep k) w1;rintro rfl;rw[g1.free ha]at e;cases e
def Qu(hn:n<=1000)(h:PA X es<|tAr X i Φ ms n):PE X (.List es î) (tE X i Φ<|.lst ms) :=
 (LT h).imp λσ H Q ⟨env,G,Qm,Em,p,w,c⟩=>by refine⟨env,G,_,Em,p,w,λvs G1 H1 xs k1 g1 r1 hl w1=>⟨by rw[hl];exact Õ hn (by decide),Yw g1 w1 (c.go k1) λa ha=>?_⟩⟩;exact⟨xs,eS,r1.keep<|fo.new ha⟩
abbrev O3(i:Inf)(f:O.Bi)(r:List V->Hp->VK->Prop):Prop:=∀(vs:List O.Val) (G:O.Hs) (H:Hp) (xs:List V) (Q:VK) (Qm:O.Q1),RH i G H->RVs i.K H vs xs->(O.biV G f vs).wp G Qm->Cn i H Q Qm->r xs H Q
def Me{f:O.Bi}{r:List V->Hp->VK->Prop}(hr:O3 i f r):∀σ H Q,tE X i Φ (.bi f ms) σ H Q->tCB r (tAr X i Φ ms n) σ H Q:=λσ H Q ⟨env,G,Qm,Em,p,w,c⟩=>by exact⟨env,G,_,Em,p,w,λvs G1 H1 xs k1 g1 r1 _ w1=>hr vs G1 H1 xs Q Qm g1 r1 w1<|c.go k1⟩
def RVs.inv1{K:Frag}{v:O.Val}(r:RVs K H [v] xs):∃x,xs=[x]/\RV K H v x:=by cases r with|cons a t=>cases t;exact⟨_,rfl,a⟩
def RVs.inv2{K:Frag}{v u:O.Val}(r:RVs K H [v,u] xs):∃x y,xs=[x,y]/\RV K H v x/\RV K H u y:=by cases r with|cons a t=>cases t with|cons b t=>cases t;exact⟨_,_,rfl,a,b⟩
def KW(s:String):(gD s).cps.toList=s.toList.map ū:=by rw[Str.ofString_eq_toList]
def U3:∀(l:List Char) (a:Nat),(l.map ū).foldl (λį c=>į*10+(c - 48)) a=l.foldl (λa c=>10*a+(c.toNat - 48)) a
 |[],_=>rfl
 |c::l,a=>by rw[Î,ŋ,ŋ,U3 l,aC a 10]
def Gc{s:String}(h1:s.toList≠[])(h2:s.toList.all O.figB=eP)(h3:s.length<=640):PySem.intText? (gD s)=eM ((O.decN s.toList:Nat):Int):=by
 have hc:=KW s;rw[intText_digits (x:=gD s)]
 .rw[hc];unfold NumText.digitsVal O.decN;rw[U3]
 .rw[hc];intro c hm;let⟨d,hd,rfl⟩:=Ô.mp hm;have:=û.mp h2 d hd;unfold O.figB at this;simpa using this
 .rw[hc];simpa using h1
 .rw[ZB];lia
variable {h:O.Hs} {Q:O.Q1}
def WE{f:O.Val->O.Rs}(w:(O.fg f vs).wp h Q):∃v,vs=[v]/\(f v).wp h Q:=by
 cases vs with
 |nil=>exact(Zq w).elim
 |cons v vs=>cases vs with
  |nil=>exact⟨v,rfl,w⟩
  |cons _ _=>exact(Zq w).elim
def LL:O3 i .int λxs H Q=>((∃i,xs=[.int i]/\Q (.int i) H)\/∃k,xs=[.bl k]/\Q (.int<|if k then 1 else 0) H)\/∃z n,xs=[.str z]/\PySem.intText? z=eM n/\z.length<=640/\Q (.int n) H:=by
 intro vs G H xs Q Qm g r w c;let⟨v,rfl,w⟩:=WE w;let⟨x,rfl,rx⟩:=r.inv1;cases v with
 |int k=>cases rx.int_inv;exact .inl<|.inl ⟨k,rfl,c _ G H _ (fo.refl H) g (.int _)<|Zu w⟩
 |bl k=>cases rx.bl_inv;exact .inl<|.inr ⟨k,rfl,c _ G H _ (fo.refl H) g (.int _)<|Zu w⟩
 |str s =>cases rx.str_inv;let⟨hl,w⟩:=X5 w;exact .inr ⟨_,_,rfl,Gc hl.2.1 hl.2.2 hl.1,by rw[ZB];exact hl.1,c _ G H _ (fo.refl H) g (.int _)<|Zu w⟩
 |_=>exact(Zq w).elim
abbrev Q2(o:Option O.Ob)(f:List O.Val->O.Rs):O.Rs:=match o with
 |some (.lst xs)=>f xs
 |_=>.no
variable {o:Option O.Ob}
def Om{f:List O.Val->O.Rs}(w:(Q2 o f).wp h Q):∃xs,o=eM (.lst xs)/\(f xs).wp h Q:=by
 cases o with
 |none=>exact(Zq w).elim
 |some o=>cases o with
  |lst xs=>exact⟨xs,rfl,w⟩
  |_=>exact(Zq w).elim
variable {G:O.Hs}
def GG{Q:VK}{Qm:O.Q1}{ys:List O.Val}{us:List V}(g:RH i G H)(r:RVs i.K H ys us)(w:Qm (.tup ys) G)(c:Cn i H Q Qm):∀l,H l=eN->Q (.ref l) (upd H l<|.tup us):=λl hl=>by have k:=fo.new (o:=.tup us) hl;refine c _ G _ _ k (g.hid k λb o e=>eR ?_) (.tup (.inl eS)<|r.keep k) w;rintro rfl;rw[g.free hl]at e;cases e
def Ef:O3 i .tuple λxs H Q=>∃p ys,xs=[.ref p]/\((fZ i.K H p ys/\∀l,H l=eN->Q (.ref l) (upd H l<|.tup ys))\/(gf i.K H p ys/\Q (.ref p) H)):=by
 intro vs G H xs Q Qm g r w c;let⟨v,rfl,w⟩:=WE w;let⟨x,rfl,rx⟩:=r.inv1;cases v with
 |ref a =>cases rx.ref_inv;let⟨ys,e,w⟩:=Om (f:=λxs=>.val<|.tup xs) w;let⟨us,h1,h2⟩:=g a _ e;exact⟨a,us,rfl,.inl ⟨fZ.of h1,GG g h2 (Zu w) c⟩⟩
 |tup ys =>
  cases rx with
  |tup hp hr=>exact⟨_,_,rfl,.inr ⟨Zn hp,c _ G H _ (fo.refl H) g (.tup hp hr)<|Zu w⟩⟩
 |_=>exact(Zq w).elim
abbrev kinds:List String:=["int","bool","str","list","tuple","dict"]
def F9(K:Frag):∀t∈["NoneType","bool","int","str","tuple","list","dict"],∀T∈kinds,PySem.W.kitOne K (.type t) (.type T)=eM (t==T||(t == "bool" && T == "int")):=by intro t ht T hT;simp only[kinds,Æ,Í,or_false]at ht hT;rcases ht with rfl|rfl|rfl|rfl|rfl|rfl|rfl<;>rcases hT with rfl|rfl|rfl|rfl|rfl|rfl<;>rfl
def BF(g:RH i G H){v:O.Val}{t:String}(r:RV i.K H v x)(e:O.gp G v=eM t):TyV i.K H x (.type t)/\t∈["NoneType","bool","int","str","tuple","list","dict"]:=by
 cases v with
 |non=>cases r;cases e;exact⟨.of .non,by simp⟩
 |bl b=>cases r;cases e;exact⟨.of<|.bl b,by simp⟩
 |int b=>cases r;cases e;exact⟨.of<|.int b,by simp⟩
 |str b=>cases r;cases e;exact⟨.of<|.str _,by simp⟩
 |tup xs=>cases e;cases r with|tup hp hr=>exact⟨.tup<|Zn hp,by simp⟩
 |scr ns=>cases e;cases r with|scr h=>exact⟨.lst<|Yk h,by simp⟩
 |ref a =>
  cases r.ref_inv;simp only[O.gp]at e;cases q:G a with
  |none=>rw[q]at e;cases e
  |some o =>
   rw[q]at e;cases o with
   |lst xs=>cases e;let⟨vs,h1,_⟩:=g a _ q;exact⟨.lst<|fZ.of h1,by simp⟩
   |dct kvs=>cases e;let⟨ps,h1,_⟩:=g a _ q;exact⟨.of<|.dK h1,by simp⟩
   |ins C fs=>cases e
   |exc C=>cases e
   |frz _=>cases e
   |dtp _=>cases e
 |key _ _=>cases e
def QX{e:Expr}{m:O.E}{T:String}{p p2:Pos}(hT:T∈kinds)(he:PE X e<|tE X i Φ m)(hk:X.K=i.K)(hg:Gl X "isinstance")(hm:X.mg "isinstance" = eN)(hg2:Gl X<|gD T)(hm2:X.mg (gD T)=eN)
  (hv2:Ŷ (gD T)=eM (.type T)) (hn2:gD T≠"__name__") (bT:(gD T==("__debug__" : Str))=eQ) (Δ:ß [e,.Name (gD T) p2] X.env=(eQ,eval e X.env)::ß [.Name (gD T) p2] X.env) :
  PE X (.Call (.Name "isinstance" p) [e,.Name (gD T) p2] [] î) (tE X i Φ<|.bi (.isi [T])<|.cons m .nil):=by
 refine(X8 D4 hg hm (by kernel_rfl) (fX he (fX (P7 (T:=T) hg2 hm2 hv2 hn2 bT) fW) Δ) (he:=Δ)).imp λσ H Q ⟨env,G,Qm,Em,p,w,c⟩=>?_;refine one p w λv G1 H1 x k1 p1 r q=>?_
 replace q:(O.Rs.ofO (((O.gq G1 v T).bind λb=>(O.isiAny G1 v []).map (b || ·)).map .bl)).wp G1 Qm:=q
 simp only[O.isiAny,O.gq]at q;cases z:O.gp G1 v with
 |none=>rw[z]at q;simp[O.Rs.ofO]at q
 |some t =>rw[z]at q;simp only[Ŋ,ú,O.Rs.ofO,O.Rs.wp_val,Ϸ]at q;let⟨h1,h2⟩:=BF p1.hp r z;refine⟨x,T,.type t,_,rfl,by rw[hk];exact h1,by rw[hk];exact F9 _ t h2 T hT,c _ G1 H1 _ k1 p1.hp (.bl _) q⟩
def Uf(h:O.isLst o=eP):∃xs,o=eM (.lst xs):=by
 cases o with
 |none=>cases h
 |some o=>cases o with
  |lst xs=>exact⟨xs,rfl⟩
  |_=>cases h
variable {a:Ï}
def Dt{f:O.Ad->List O.Val->Option (O.Val×O.Hs)}{t:O.Val×O.Hs}(e:O.bmL G (.ref a) f=eM t):∃xs,G a=eM (.lst xs)/\f a xs=eM t:=by let⟨xs,h1,h2⟩:=ê.mp (show(O.ff<|G a).bind (f a)=eM t from e);exact⟨xs,KR h1,h2⟩
def Wi{xs:List O.Val}{vs:List V}(g:RH i G H)(h:H a=eM (.lst vs))(ys:List O.Val)(us:List V)(r:RVs i.K H ys us):fo H (upd H a<|.lst us)/\RH i (O.upd G a<|.lst ys) (upd H a<|.lst us):=by
 have k:fo H<|upd H a<|.lst us:=fo.put (λxs e=>by rw[h]at e;cases e) λp u e=>by rw[h]at e;cases e
 exact⟨k,g.put k ⟨us,eS,r.keep k⟩⟩
abbrev spF(i:Inf)(P:O.Pg)(n:Nat)(f:String):Sp:=λvs H Q E=>∃args G Qm Em,RVs i.K H args vs/\RH i G H/\O.wF P n f args G Qm Em/\Cn i H Q Qm/\∀cls d H',XK1 i H Em cls d H'->E cls d H'
abbrev Dfo(pr:ç)(w:þ)(mg:Str->Option Ã)(base:Ĉ)(i:Inf)(P:O.Pg)(n:Nat)(f:String):Prop :=
 ∃fa fd ps,fz pr w i.K mg base (CX1 pr w) (2*n) fa fd ps (spF i P n f)/\mg (gD f)=eM (.ref fa)/\PySem.W.keepIn i.K (.ref fa)=eP/\Binds i.K fd ps []
variable {e:Expr} {es:List Expr} {î:Pos}
def PF{P:O.Pg}{n k:Nat}{f:String}{ms:O.Es}{p:Pos}(hK:X.K=i.K)(D:Dfo X.prog X.w X.mg X.base i P n f)(hr:fy (2*n) X.A)(hg:Gl X<|gD f)(cL:(gD f==("__debug__" : Str))=eQ)
  (ha:PA X (e::es)<|tAr X i (O.wF P n) ms k) (he:ß (e::es) X.env=(eQ,eval e X.env)::ß es X.env) (hpl:(ě î<|ß es X.env).any (·.1)=eQ) :
  PE X (.Call (.Name (gD f) p) (e::es) [] î) (tE X i (O.wF P n)<|.call f ms):=by
 let⟨fa,fd,ps,F,hm,hk,hb⟩:=D;rw[<-hK]at F hk hb;intro Â s σ H Q I h;let⟨env,G,Qm,Em,pr,w,c⟩:=h;refine Hm (E:=XK1 i H Em) F hr hg hm hk hb .nil (XW.passes pr.xo) ha cL he hpl Â s σ H Q I ⟨env,G,_,Em,pr,w,λvs G1 H1 xs k1 g1 r1 hl w1=>?_⟩;exact⟨vs,G1,Qm,Em,by rw[ď];exact r1,g1,w1,c.go k1,λcls d H' h=>h.go k1⟩
abbrev XKS(i:Inf)(H:Hp)(Xe:O.EQ):XK:=λcls _ H'=>∃e c G' ad,cls=.ref ad/\i.xc c ad/\fo H H'/\RH i G' H'/\Xe e c G'
structure PreS(X:Cx)(i:Inf)(σ:St)(H:Hp)(env:O.Env)(G:O.Hs)(Xe:O.EQ):Prop where
 en:REn i.K H env σ
 hp:RH i G H
 xo:XW X<|XKS i H Xe
variable {σ:St} {H:Hp} {H1:Hp} {G:O.Hs} {Xe:O.EQ}
def PreS.go{σ1:St}{env env1:O.Env}{G1:O.Hs}(p:PreS X i σ H env G Xe)(k:fo H H1)(r:RH i G1 H1)(e:REn i.K H1 env1 σ1):PreS X i σ1 H1 env1 G1 Xe :=
 ⟨e,r,λÂ σ H0 s H' a cls s' I f ⟨e,c,G',ad,q1,q2,q3,q4⟩=>p.xo Â σ H0 s H' a cls s' I f ⟨e,c,G',ad,q1,q2,k.trans q3,q4⟩⟩
def PreS.pre{env:O.Env}(p:PreS X i σ H env G Xe):Pre X i σ H env G (Xe env) :=
 ⟨p.en,p.hp,λÂ σ H0 s H' a cls s' I f ⟨c,G',ad,q1,q2,q3,q4⟩=>p.xo Â σ H0 s H' a cls s' I f ⟨env,c,G',ad,q1,q2,q3,q4⟩⟩
structure EOk(i:Inf)(H:Hp)(D:Ends)(N:O.NQ)(R:O.Q1)(B C:O.NQ):Prop where
 nx:∀Ŏ ť G' H',fo H H'->RH i G' H'->REn i.K H' Ŏ ť->N Ŏ G'->D.nx ť H'
 rt:∀v G' H' x,fo H H'->RH i G' H'->RV i.K H' v x->R v G'->D.rt x H'
 bk:∀Ŏ ť G' H',fo H H'->RH i G' H'->REn i.K H' Ŏ ť->B Ŏ G'->D.bk ť H'
 ct:∀Ŏ ť G' H',fo H H'->RH i G' H'->REn i.K H' Ŏ ť->C Ŏ G'->D.ct ť H'
def EOk.go{D:Ends}{N:O.NQ}{R:O.Q1}{B C:O.NQ}(e:EOk i H D N R B C)(k:fo H H1):EOk i H1 D N R B C :=
 ⟨λa b c d k'=>e.nx a b c d<|k.trans k',λa b c d k'=>e.rt a b c d<|k.trans k',λa b c d k'=>e.bk a b c d<|k.trans k',λa b c d k'=>e.ct a b c d<|k.trans k'⟩
inductive tStx (X:Cx) (i:Inf) (Φ:O.Fs) (m:O.S) (D:Ends) (σ:St) (H:Hp):Prop
 |mk (env:O.Env) (G:O.Hs) (N:O.NQ) (R:O.Q1) (B C:O.NQ) (Xe:O.EQ) (p:PreS X i σ H env G Xe) (w:O.wS Φ m env G N R B C Xe) (e:EOk i H D N R B C)
abbrev tSt(X:Cx)(i:Inf)(Φ:O.Fs)(m:O.S):TS:=tStx X i Φ m
inductive tBlx (X:Cx) (i:Inf) (Φ:O.Fs) (m:O.Ss) (D:Ends) (σ:St) (H:Hp):Prop
 |mk (env:O.Env) (G:O.Hs) (N:O.NQ) (R:O.Q1) (B C:O.NQ) (Xe:O.EQ) (p:PreS X i σ H env G Xe) (w:O.wSs Φ m env G N R B C Xe) (e:EOk i H D N R B C)
abbrev tBl(X:Cx)(i:Inf)(Φ:O.Fs)(m:O.Ss):TS:=tBlx X i Φ m
variable {st:ň} {t':TS}
def _root_.L2.PS.imp{t:TS}(h:PS X st t)(f:∀D σ H,t' D σ H->t D σ H):PS X st t':=λÂ s σ H D I q=>h Â s σ H D I (f D σ H q)
def _root_.L2.PSs.imp{st:List ň}{t:TS}(h:PSs X st t)(f:∀D σ H,t' D σ H->t D σ H):PSs X st t':=λÂ s σ H D I q=>h Â s σ H D I (f D σ H q)
def LH:PSs X []<|tBl X i Φ .nil:=pss_nil.imp λD σ H ⟨env,G,N,R,B,C,Xe,p,w,c⟩=>by exact c.nx env σ G H (fo.refl H) p.hp p.en w
def FV{sts:List ň}{m:O.S}{ms:O.Ss}(h1:PS X st<|tSt X i Φ m)(h2:PSs X sts<|tBl X i Φ ms):PSs X (st::sts) (tBl X i Φ<|.cons m ms) :=
 (Dy h1 h2).imp λD σ H ⟨env,G,N,R,B,C,Xe,p,w,c⟩=>by exact⟨env,G,_,R,B,C,Xe,p,w,⟨λŎ ť G' H' k g e w'=>⟨Ŏ,G',N,R,B,C,Xe,p.go k g e,w',c.go k⟩,c.rt,c.bk,c.ct⟩⟩
variable {m:O.E}
def IZ(he:PE X e<|tE X i Φ m):PS X (.Return (eM e) î) (tSt X i Φ<|.ret m) :=
 (IX he).imp λD σ H ⟨env,G,N,R,B,C,Xe,p,w,c⟩=>by exact⟨env,G,R,Xe env,p.pre,w,c.rt⟩
def GR:PS X (.Return eN î) (tSt X i Φ .retN) :=
 ps_retN.imp λD σ H ⟨env,G,N,R,B,C,Xe,p,w,c⟩=>by exact c.rt _ G H _ (fo.refl H) p.hp .non w
def FQ(he:PE X e<|tE X i Φ m)(hs:υ e eN î.line X.env=pure eQ):PS X (.Expr e î) (tSt X i Φ<|.expr m) :=
 (Hh he hs).imp λD σ H ⟨env,G,N,R,B,C,Xe,p,w,c⟩=>by exact⟨env,G,_,Xe env,p.pre,w,λv G1 H1 x k1 g1 r1 w1=>c.nx env σ G1 H1 k1 g1 (p.en.keep k1) w1⟩
def PH{t:Expr}{a b:List ň}{mt:O.Tt}{ma mb:O.Ss}(ht:PT X t<|tTt X i Φ mt)(ha:PSs X a<|tBl X i Φ ma)(hb:PSs X b<|tBl X i Φ mb):PS X (.If t a b î) (tSt X i Φ<|.ite mt ma mb) :=
 (Qr ht ha hb).imp λD σ H ⟨env,G,N,R,B,C,Xe,p,w,c⟩=>by
  refine⟨env,G,_,Xe env,p.pre,w,λd G1 H1 k1 g1 q=>?_⟩;cases d with
  |true=>exact⟨env,G1,N,R,B,C,Xe,p.go k1 g1<|p.en.keep k1,⇑q,c.go k1⟩
  |false=>exact⟨env,G1,N,R,B,C,Xe,p.go k1 g1<|p.en.keep k1,⇑q,c.go k1⟩
abbrev gPt(i:Inf)(p:O.Pt):TG:=λx σ H Q=>∃v env G Ť,RV i.K H v x/\RH i G H/\REn i.K H env σ/\O.bind p G v env=eM Ť/\∀σ2,REn i.K H Ť σ2->Q σ2 H
variable {tg:Expr}
def _root_.L2.PG.imp{t t':TG}(h:PG X tg t)(f:∀v σ H Q,t' v σ H Q->t v σ H Q):PG X tg t':=λÂ s σ H v u Q I r q=>h Â s σ H v u Q I r (f v σ H Q q)
def _root_.L2.PGs.imp{tg:List Expr}{t t':TGs}(h:PGs X tg t)(f:∀v σ H Q,t' v σ H Q->t v σ H Q):PGs X tg t':=λÂ s σ H v u Q I r q=>h Â s σ H v u Q I r (f v σ H Q q)
variable {x:Str} {j:Nat}
def UD(hN:X.N.Nodup)(hi:X.N[j]?=eM x)(hx:Loc X.env.scope x)(hf:X.fn x=eP\/X.env.scope.names.lookup x=eM .local):PG X (.Name x î) (gPt i<|.one j) :=
 (AH hN hi hx hf).imp λv σ H Q ⟨u,env,G,Ť,r,g,e,b,h⟩=>by cases b;exact h _<|e.set r j
abbrev C8(i:Inf)(js:List Nat):TGs:=λxs σ H Q=>∃vs env Ť,RVs i.K H vs xs/\REn i.K H env σ/\O.bindL js vs env=eM Ť/\∀σ2,REn i.K H Ť σ2->Q σ2 H
def Fi:PGs X []<|C8 i []:=pgs_nil.imp λxs σ H Q ⟨vs,env,Ť,r,e,b,h⟩=>by
 cases vs with
 |nil=>cases r;cases b;exact⟨rfl,h _ e⟩
 |cons _ _=>cases b
variable {js:List Nat}
def EB(hN:X.N.Nodup)(hi:X.N[j]?=eM x)(hx:Loc X.env.scope x)(hf:X.fn x=eP\/X.env.scope.names.lookup x=eM .local)(h2:PGs X es<|C8 i js)
  (hs:(Ġ (.Name x î::es) X.env).map (·.2)=Ε (.Name x î) X.env::(Ġ es X.env).map (·.2)):PGs X (.Name x î::es) (C8 i<|j::js) :=
 (Ke (AH hN hi hx hf) h2 hs).imp λxs σ H Q ⟨vs,env,Ť,r,e,b,h⟩=>by
  cases vs with
  |nil=>cases b
  |cons v vs =>
   cases r with
   |cons r t=>exact⟨_,_,rfl,vs,env.set j<|eM v,Ť,t,e.set r j,b,h⟩
def Mh:∀{js:List Nat}{vs:List O.Val}{env Ť:O.Env},O.bindL js vs env=eM Ť->vs.length=js.length
 |[],[],_,_,_=>rfl
 |j::js,v::vs,env,_,h=>by rw[Ò,Ò,Mh<|show O.bindL js vs (env.set j<|eM v)=_ from h]
 |[],_::_,_,_,h=>by cases h
 |_::_,[],_,_,h=>by cases h
def An{k:Nat}(hK:X.K=i.K)(hc:X.calm=eP)(h:PGs X es<|C8 i js)(hn:(Ġ es X.env).length=js.length)(Δ:(Ġ es X.env).findIdx? (·.1)=eN):PG X (.Tuple es k î) (gPt i<|.many js) :=
 (Cw (n:=js.length) hc h hn Δ).imp λv σ H Q ⟨u,env,G,Ť,r,g,e,b,h⟩=>by
  cases u with
  |tup vs =>
   have b:O.bindL js vs env=eM Ť:=b;cases r with
   |tup hp hr=>exact⟨_,_,rfl,by rw[hK];exact Zn hp,by rw[<-hr.length];exact Mh b,vs,env,Ť,hr,e,b,h⟩
  |_=>cases b
def Fz{k k2:Nat}{p1 p2:Pos}(hK:X.K=i.K)(hc:X.calm=eP)(h1:PG X (.Name x p1)<|gPt i<|.one j)(h2:PG X (.Tuple es k2 p2)<|gPt i<|.many js):PG X (.Tuple [.Name x p1,.Tuple es k2 p2] k î) (gPt i<|.nest j js) :=
 (Cw (n:=2) hc (Ke h1 (Ke h2 pgs_nil rfl) rfl) rfl rfl).imp λv σ H Q ⟨u,env,G,Ť,r,g,e,b,h⟩=>by
  cases u with
  |tup vs =>
   cases vs with
   |nil=>cases b
   |cons x0 vs=>cases vs with
    |nil=>cases b
    |cons y vs=>cases vs with
     |cons _ _=>cases b
     |nil =>
      have b:(O.tupOf y).bind (λys=>O.bindL js ys<|env.set j<|eM x0)=eM Ť:=b;cases r with
      |tup hp hr =>
       cases hr with
       |cons r0 t=>cases t with
        |cons r1 t =>cases t;exact⟨_,_,rfl,by rw[hK];exact Zn hp,rfl,_,_,rfl,x0,env,G,_,r0,g,e,rfl,λσ2 e2=>⟨_,_,rfl,y,_,G,Ť,r1,g,e2,b,λbF e3=>⟨rfl,h bF e3⟩⟩⟩
  |_=>cases b
def L8{q:O.Pt}(he:PE X e<|tE X i Φ m)(hg:PG X tg<|gPt i q)(hs:Ϛ [tg] e î.line X.env=pure eQ)(hw:ϛ [tg] e X.env=pure eN)
  (h1:(Ġ [tg] X.env).map (·.2)=[Ε tg X.env]):PS X (.Assign [tg] e î) (tSt X i Φ<|.set q m) :=
 (CF he hg hs hw h1).imp λD σ H ⟨env,G,N,R,B,C,Xe,p,w,c⟩=>by refine⟨env,G,_,Xe env,p.pre,w,λv G1 H1 x k1 g1 r1 w1=>?_⟩;let⟨Ť,e2,w1⟩:=eV w1;exact⟨v,env,G1,Ť,r1,g1,p.en.keep k1,e2,λσ2 h2=>c.nx Ť σ2 G1 H1 k1 g1 h2 w1⟩
abbrev DH:V->V->V->Hp->(Hp->Prop)->Prop:=λo y v H Q=>Hy o y v H Q\/HG o y v H Q
def DC{G G3:O.Hs}{H:Hp}{o k v:O.Val}{y z x:V}{Q:Hp->Prop}(g:RH i G H)(ry:RV i.K H o y)(rz:RV i.K H k z)(rx:RV i.K H v x)(e:O.fK G o k v=eM G3)(c:∀H3,fo H H3->RH i G3 H3->Q H3):DH y z x H Q:=by
 cases o with
 |ref b =>
  cases ry.ref_inv
  replace e:(match G b with|some (.lst xs)=>(O.gk k).bind λn=>(O.ixN xs.length n).map λj=>O.upd G b (.lst<|xs.set j v)|some (.dct kvs)=>if O.fk k/\kvs.length<O.lim then eM (O.upd G b<|.dct<|O.fv kvs k v)else eN|some (.dtp kvs)=>if O.isKeyT k/\kvs.length<O.lim then eM (O.upd G b<|.dtp<|O.fv kvs k v)else eN|_=>eN)=eM G3:=e
  cases z4:G b with
  |none=>rw[z4]at e;cases e
  |some o =>
   rw[z4]at e;cases o with
   |lst xs =>let⟨n,hn,e⟩:=ê.mp e;let⟨jj,hj,rfl⟩:=Ä.mp e;cases Z3 hn;cases rz.int_inv;let⟨vs,h2,r2⟩:=g b _ z4;rw[Nq,r2.length]at hj;let⟨k3,g3⟩:=Wi (xs:=xs) g h2 (xs.set jj v) (vs.set jj x)<|r2.set rx jj;exact .inl ⟨b,vs,n,jj,rfl,rfl,h2,hj,c _ k3 g3⟩
   |dct kvs =>let⟨hk,e⟩:=Zm (show(if O.fk k/\kvs.length<O.lim then eM (O.upd G b<|.dct<|O.fv kvs k v)else eN)=eM G3 from e);cases e;let⟨ps,h2,r2⟩:=g b _ z4;let⟨d,kr,rfl⟩:=fh hk.1 rz;let⟨k3,g3⟩:=M3 (kvs:=kvs) g h2<|r2.put kr rx;exact .inr ⟨b,_,rfl,DPut.k h2 (by rw[<-RKs.length r2];exact è hk.2 ZR),c _ k3 g3⟩
   |dtp kvs =>let⟨hk,e⟩:=Zm (show(if O.isKeyT k/\kvs.length<O.lim then eM (O.upd G b<|.dtp<|O.fv kvs k v)else eN)=eM G3 from e);cases e;let⟨ps,h2,r2⟩:=g b _ z4;let⟨a1,a2,d,rfl,rfl,hd⟩:=W5 hk.1 rz;let⟨k3,g3⟩:=Hc g h2<|r2.put (i:=a1) (j:=a2) rx;exact .inr ⟨b,_,rfl,DPut.t h2 hd (by rw[<-RTs.length r2];exact è hk.2 ZR),c _ k3 g3⟩
   |_=>cases e
 |_=>cases e
def AZ{a j:Expr}{ma mj:O.E}{Ϥ:Pos}(hK:X.K=i.K)(he:PE X e<|tE X i Φ m)(ha:PE X a<|tE X i Φ ma)(hj:PE X j<|tE X i Φ mj)(hgl:PG X (.Subscript a j Ϥ)<|Q6 (tE X i Φ ma) (tE X i Φ mj) DH)(hs:Ϛ [.Subscript a j Ϥ] e î.line X.env=pure eQ)(hw:ϛ [.Subscript a j Ϥ] e X.env=pure eN)
  (h1:(Ġ [.Subscript a j Ϥ] X.env).map (·.2)=[Ε (.Subscript a j Ϥ) X.env]):PS X (.Assign [.Subscript a j Ϥ] e î) (tSt X i Φ<|.setIdx ma mj m) :=
 (CF he hgl hs hw h1).imp λD σ H ⟨env,G,N,R,B,C,Xe,p,w,c⟩=>by refine⟨env,G,_,Xe env,p.pre,w,λv G1 H1 x k1 g1 r1 w1=>?_⟩;refine two (p.go k1 g1<|p.en.keep k1).pre w1 λo k G2 H2 y z k2 p2 ry rz q=>?_;let⟨G3,e3,q⟩:=eV q;exact DC p2.hp ry rz (r1.keep k2) e3 λH3 k3 g3=>c.nx env σ _ _ ((k1.trans k2).trans k3) g3 (p2.en.keep k3) q
structure ItOk(i:Inf)(H0:Hp)(J:It)(st:O.Hs->Prop)(xs:List O.Val):Prop where
 go:∀n G H v,fo H0 H->RH i G H->st G->xs[n]?=eM v->J.go n H/\∀x H',J.yld n H x H'->fo H H'/\RH i G H'/\RV i.K H' v x
 stop:∀n G H,fo H0 H->RH i G H->st G->xs.length<=n->J.stop n H
abbrev tIt(X:Cx)(i:Inf)(Φ:O.Fs)(m:O.It):TI:=λσ H R=>∃env G QI Em,Pre X i σ H env G Em/\O.wI Φ m env G QI Em/\∀st xs G' H' J,fo H H'->RH i G' H'->ItOk i H' J st xs->QI st xs G'->R J H'
variable {tg:Expr} {e:Expr}
def _root_.L2.PI.imp{t t':TI}(h:PI X tg e t)(f:∀σ H Q,t' σ H Q->t σ H Q):PI X tg e t':=λÂ s σ H Q I q=>h Â s σ H Q I (f σ H Q q)
abbrev Sy(K:Frag)(tl:TE):TI:=λσ H R=>tl σ H λx H1=>∃a,x=.ref a/\(((∃xs,fZ K H1 a xs)/\R (Itl K a) H1)\/((∃xs,gf K H1 a xs)/\R (Itt K a) H1))
def PP{l:Expr}{tl:TE}(hl:PE X l tl):PI X tg l<|Sy X.K tl:=by
 intro Â s σ H R I h;refine thn (hl Â s σ H _ I h) λv s1 ⟨x,H1,I1,r1,q1⟩=>?_;let⟨a,e,q1⟩:=q1;subst e;cases r1;rcases q1 with⟨⟨xs,hq⟩,q⟩|⟨⟨xs,hq⟩,q⟩
 .obtain⟨õ,rv,p,hz⟩:=I1.list hq;refine ϖ p.isList ?_;refine⟨s1.heap.objs.size,[s1.heap.objs.size],_,_,H1,rfl,I1.kept (t':=s1.toks) λb o e=>Å _ e,BA a _,⟨_,Ù _ rfl,rfl,rfl⟩,λb hb=>?_,q⟩;have e:b=s1.heap.objs.size:=⇑hb
  subst e;exact I1.fpOk (Ó _)<|I1.hok.fresh<|Ó _
 .obtain⟨õ,rv,p,hz⟩:=I1.tuple hq;refine aJ (show s1.heap.IsTuple a õ.toArray from p) ?_;refine⟨s1.heap.objs.size,[s1.heap.objs.size],_,_,H1,rfl,I1.kept (t':=s1.toks) λb o e=>Å _ e,OX a _,⟨_,Ù _ rfl,rfl,rfl⟩,λb hb=>?_,q⟩;have e:b=s1.heap.objs.size:=⇑hb
  subst e;exact I1.fpOk (Ó _)<|I1.hok.fresh<|Ó _
variable {H0:Hp} {a:Ï} {xs:List O.Val}
def it_lst:ItOk i H0 (Itl i.K a) (λg=>O.ff (g a)=eM xs) xs where
 go:=λn G H v _ g e hv=>by let⟨vs,h1,h2⟩:=Z5 g e;let⟨x,h3,h4⟩:=h2.get hv;refine⟨⟨vs,x,h1,h3⟩,λy H' ⟨e1,e2⟩=>?_⟩;subst e1;have:=e2 vs h1;rw[h3]at this;cases this;exact⟨fo.refl _,g,h4⟩
 stop:=λn G H _ g e hn=>by let⟨vs,h1,h2⟩:=Z5 g e;exact⟨vs,h1,by rw[<-h2.length];exact hn⟩
def it_tup{vs:List V}(hp:H0 a=eM (.tup vs)\/KT i.K a vs)(hr:RVs i.K H0 xs vs):ItOk i H0 (Itt i.K a) (λ_=>True) xs where
 go:=λn G H v k g e hv=>by have hp':H a=eM (.tup vs)\/KT i.K a vs:=hp.imp (k.t _ _) id;let⟨x,h3,h4⟩:=(hr.keep k).get hv;refine⟨⟨vs,x,Zn hp',h3⟩,λy H' ⟨e1,e2⟩=>?_⟩;subst e1;have:=e2 vs<|Zn hp';rw[h3]at this;cases this;exact⟨fo.refl _,g,h4⟩
 stop:=λn G H k g e hn=>by have hp':H a=eM (.tup vs)\/KT i.K a vs:=hp.imp (k.t _ _) id;exact⟨vs,Zn hp',by rw[<-hr.length];exact hn⟩
def it_scr{ns:List Int}(h:(∃o,H0 a=eM (.frz o<|.lst<|ns.map V.int))\/KL i.K a (ns.map V.int)):ItOk i H0 (Itl i.K a) (λ_=>True) (ns.map .int) where
 go:=λn G H v k g e hv=>by have h':fZ i.K H a<|ns.map V.int:=Yk<|h.imp (λ⟨o,e⟩=>⟨o,k.f _ _ _ e⟩) id;let⟨x,h3,h4⟩:=(RVs.ints (K:=i.K) (H:=H) ns).get hv;refine⟨⟨_,x,h',h3⟩,λy H' ⟨e1,e2⟩=>?_⟩;subst e1;have:=e2 _ h';rw[h3]at this;cases this;exact⟨fo.refl _,g,h4⟩
 stop:=λn G H k g e hn=>⟨_,Yk<|h.imp (λ⟨o,e⟩=>⟨o,k.f _ _ _ e⟩) id,⇑hn⟩
def Pw{lo hi:Int}{n:Nat}(hn:n=(hi - lo).toNat):ItOk i H0 (Itr lo n) (λ_=>True) (O.fA lo hi) where
 go:=λk G H v _ g _ hv=>by
  unfold O.fA at hv;rw[Ø]at hv;have hk:k<(hi - lo).toNat:=by
   by_cases h:k<(hi - lo).toNat
   .exact h
   .rw[Ń<|by simpa using h]at hv;cases hv
  rw[List.getElem?_range hk]at hv;cases hv;refine⟨by rw[hn];exact hk,λx H' ⟨e1,e2⟩=>?_⟩;subst e1 e2;exact⟨fo.refl _,g,.int _⟩
 stop:=λk G H _ g _ hk=>by unfold O.fA at hk;show n<=k;simp at hk;lia
variable {m:O.E}
def LO(hK:X.K=i.K)(he:PE X e<|tE X i Φ m):PI X tg e (tIt X i Φ<|.seq m) :=
 (PP he).imp λσ H R ⟨env,G,QI,Em,p,w,c⟩=>by
  refine one p w λv G1 H1 x k1 p1 r q=>?_;let⟨⟨st,xs⟩,e1,q2⟩:=eV q;clear q;rw[hK];cases v with
  |tup ys =>
   cases e1;cases r with
   |tup hp hr=>exact⟨_,rfl,.inr ⟨⟨_,Zn hp⟩,c _ _ G1 H1 _ k1 p1.hp (it_tup hp hr) q2⟩⟩
  |scr ns =>
   cases e1;cases r with
   |scr h=>exact⟨_,rfl,.inl ⟨⟨_,Yk h⟩,c _ _ G1 H1 _ k1 p1.hp (it_scr h) q2⟩⟩
  |ref a =>
   cases r.ref_inv;simp only[O.itV]at e1;cases z:O.ff (G1 a)with
   |none=>rw[z]at e1;cases e1
   |some ys =>rw[z]at e1;cases e1;let⟨vs,h1,h2⟩:=Z5 p1.hp z;exact⟨a,rfl,.inl ⟨⟨vs,h1⟩,c _ _ G1 H1 _ k1 p1.hp it_lst q2⟩⟩
  |_=>cases e1
variable {î:Pos}
def E2{a:Expr}{p:Pos}(hg:Gl X "range")(hm:X.mg "range" = eN)(ha:PE X a<|tE X i Φ m)(hs:ß [a] X.env=[(eQ,eval a X.env)]):PI X tg (.Call (.Name "range" p) [a] [] î) (tIt X i Φ<|.range m) :=
 (BX hg hm (fX ha fW<|by rw[hs];rfl) hs).imp λσ H R ⟨env,G,QI,Em,p,w,c⟩=>by refine one p w λv G1 H1 x k1 p1 r q=>?_;let⟨n,e1,q2⟩:=eV q;clear q;cases Z3 e1;cases r.int_inv;exact⟨n,rfl,q2.1.1,q2.1.2,c _ _ G1 H1 _ k1 p1.hp (Pw<|by rw[cF]) q2.2⟩
variable {body:List ň} {mb:O.Ss}
def Lz{ž:Expr}{q:O.Pt}{mi:O.It}(hp:Ω (à X.prog X.w) X.A X.env X.xe)(hc:X.calm=eP)(hi:PI X tg ž<|tIt X i Φ mi)(hg:PG X tg<|gPt i q)(hb:PSs X body<|tBl X i Φ mb)
  (hs:∀x,Ę ž X.env x=pure x):PS X (.For tg ž body [] î) (tSt X i Φ<|.for q mi mb) :=
 (D8 hp hc hi hg hb hs).imp λD σ H ⟨env,G,N,R,B,C,Xe,p,w,c⟩=>by
  refine⟨env,G,_,Xe env,p.pre,w,λst xs G1 H1 J k1 g1 it w1=>?_⟩;refine⟨λn m ť H'=>n+m=xs.length/\∃Ŏ G',fo H1 H'/\RH i G' H'/\REn i.K H' Ŏ ť/\O.wFor st (λv e g K M=>O.go (O.bind q g v e) λe2=>O.wSs Φ mb e2 g K R M K Xe) N (xs.drop n) Ŏ G',⟨xs.length,by lia,env,G1,fo.refl _,g1,p.en.keep k1,⇑w1⟩,?_⟩;rintro n m ť H' ⟨hnm,Ŏ,G',k2,g2,e2,w2⟩;by_cases hn:n<xs.length
  .right;have hd:xs.drop n=xs[n]::xs.drop (n+1):=ų hn;rw[hd]at w2;let⟨s2,w2⟩:=w2;have hv:xs[n]?=eM xs[n]:=É hn;let⟨a1,a2⟩:=it.go n G' H' xs[n] k2 g2 s2 hv;refine⟨a1,λbF H3=>∃env3 G3,fo H1 H3/\RH i G3 H3/\REn i.K H3 env3 bF/\O.wFor st (λv e g K M=>O.go (O.bind q g v e) λe2=>O.wSs Φ mb e2 g K R M K Xe) N (xs.drop<|n+1) env3 G3,λbF H3 h=>⟨m - 1,by lia,by lia,h⟩,λx H3 hy=>?_⟩;let⟨k3,g3,r3⟩:=a2 x H3 hy;let⟨cR,e4,w4⟩:=eV w2;refine⟨xs[n],Ŏ,G',cR,r3,g3,e2.keep k3,e4,λσ4 h4=>?_⟩;have kk:fo H H3:=(k1.trans k2).trans k3;refine⟨cR,G',_,R,N,_,Xe,p.go kk g3 h4,w4,⟨λbg σ5 G5 H5 k5 g5 e5 w5=>?_,(c.go kk).rt,(c.go kk).nx,λbg σ5 G5 H5 k5 g5 e5 w5=>?_⟩⟩
   .exact⟨bg,G5,(k2.trans k3).trans k5,g5,e5,w5⟩
   .exact⟨bg,G5,(k2.trans k3).trans k5,g5,e5,w5⟩
  .left;have hd:xs.drop n=[]:=ş (by lia);rw[hd]at w2;exact⟨it.stop n G' H' k2 g2 w2.1 (by lia),c.nx Ŏ ť G' H' (k1.trans k2) g2 e2 w2.2⟩
def LE{t:Expr}{mt:O.Tt}(hp:Ω (à X.prog X.w) X.A X.env X.xe)(ht:PT X t<|tTt X i Φ mt)(hb:PSs X body<|tBl X i Φ mb):PS X (.While t body [] î) (tSt X i Φ<|.whl mt mb) :=
 (Ek hp ht hb).imp λD σ H ⟨env,G,N,R,B,C,Xe,p,w,c⟩=>by
  let⟨n,w⟩:=w;refine⟨λm ť H'=>∃Ŏ G',fo H H'/\RH i G' H'/\REn i.K H' Ŏ ť/\O.wWhile (λe g K=>O.wT Φ mt e g K<|Xe e) (λe g K M=>O.wSs Φ mb e g K R M K Xe) N m Ŏ G',⟨n,env,G,fo.refl H,p.hp,p.en,w⟩,?_⟩;rintro m ť H' ⟨Ŏ,G',k1,g1,e1,w1⟩;cases m with
  |zero=>cases w1
  |succ m =>
   have w1:O.wT Φ mt Ŏ G' _<|Xe Ŏ:=w1;have p1:=p.go k1 g1 e1;refine⟨Ŏ,G',_,Xe Ŏ,p1.pre,w1,λd G2 H2 k2 g2 q=>?_⟩;cases d with
   |true =>refine⟨λbF H3=>∃env3 G3,fo H H3/\RH i G3 H3/\REn i.K H3 env3 bF/\O.wWhile (λe g K=>O.wT Φ mt e g K<|Xe e) (λe g K M=>O.wSs Φ mb e g K R M K Xe) N m env3 G3,λbF H3 h=>⟨m,ē _,h⟩,?_⟩;have kk:=k1.trans k2;refine⟨Ŏ,G2,_,R,N,_,Xe,p.go kk g2<|e1.keep k2,⇑q,⟨λbg σ5 G5 H5 k5 g5 e5 w5=>⟨bg,G5,kk.trans k5,g5,e5,w5⟩,(c.go kk).rt,(c.go kk).nx,λbg σ5 G5 H5 k5 g5 e5 w5=>⟨bg,G5,kk.trans k5,g5,e5,w5⟩⟩⟩
   |false=>exact c.nx Ŏ ť G2 H2 (k1.trans k2) g2 (e1.keep k2) ⇑q
def IE:O3 i .len λxs H Q=>((∃p ys,xs=[.ref p]/\(fZ i.K H p ys\/gf i.K H p ys)/\Q (.int ys.length) H)\/∃z,xs=[.str z]/\z.length<=Ý/\Q (.int z.length) H)\/∃a kvs,xs=[V.ref a]/\H a=eM (.dK kvs)/\Q (.int kvs.length) H:=by
 intro vs G H xs Q Qm g r w c;let⟨v,rfl,w⟩:=WE w;let⟨x,rfl,rx⟩:=r.inv1;cases v with
 |ref a =>
  cases rx.ref_inv
  replace w:(match G a with|some (.lst xs)=>.val (.int xs.length)|some (.dct kvs)=>.val (.int kvs.length)|_=>.no:O.Rs).wp G Qm:=w
  cases z:G a with
  |none=>rw[z]at w;exact(Zq w).elim
  |some o =>
   rw[z]at w;cases o with
   |lst ys =>let⟨us,h1,h2⟩:=g a _ z;refine .inl<|.inl ⟨a,us,rfl,.inl<|fZ.of h1,?_⟩;rw[<-h2.length];exact c _ G H _ (fo.refl H) g (.int _)<|Zu w
   |dct kvs =>let⟨ps,h1,h2⟩:=g a _ z;refine .inr ⟨a,ps,rfl,h1,?_⟩;rw[<-h2.length];exact c _ G H _ (fo.refl H) g (.int _)<|Zu w
   |_=>exact(Zq w).elim
 |tup ys =>
  cases rx with
  |tup hp hr =>refine .inl<|.inl ⟨_,_,rfl,.inr<|Zn hp,?_⟩;rw[<-hr.length];exact c _ G H _ (fo.refl H) g (.int _)<|Zu w
 |scr ns =>
  cases rx with
  |scr h =>refine .inl<|.inl ⟨_,_,rfl,.inl<|Yk h,?_⟩;rw[À];exact c _ G H _ (fo.refl H) g (.int _)<|Zu w
 |str s =>cases rx.str_inv;let⟨hl,w⟩:=X5 w;refine .inl (.inr ⟨_,rfl,by rw[ZB];exact Õ hl ZR,?_⟩);rw[ZB];exact c _ G H _ (fo.refl H) g (.int _)<|Zu w
 |_=>exact(Zq w).elim
def FN:O3 i .list λxs H Q=>∃p ys,xs=[.ref p]/\(fZ i.K H p ys\/gf i.K H p ys)/\∀l,H l=eN->Q (.ref l) (upd H l<|.lst ys):=by
 intro vs G H xs Q Qm g r w c;let⟨v,rfl,w⟩:=WE w;let⟨x,rfl,rx⟩:=r.inv1;cases v with
 |ref a =>cases rx.ref_inv;let⟨ys,e,w⟩:=Om (f:=λxs=>.new<|.lst xs) w;let⟨us,h1,h2⟩:=g a _ e;exact⟨a,us,rfl,.inl<|fZ.of h1,Yw g (MQ w) c λp hp=>⟨_,eS,h2.keep<|fo.new hp⟩⟩
 |tup ys =>
  cases rx with
  |tup hp hr=>exact⟨_,_,rfl,.inr<|Zn hp,Yw g (MQ w) c λp hp=>⟨_,eS,hr.keep<|fo.new hp⟩⟩
 |_=>exact(Zq w).elim
variable {H:Hp}
def BQ{K:Frag}:∀{xs:List O.Val}{bs:List Bool}{vs:List V},O.blsOf xs=eM bs->RVs K H xs vs->vs=bs.map V.bl:=by
 intro xs;induction xs with
 |nil=>intro bs vs e r;cases e;cases r;rfl
 |cons v xs ih =>
  intro bs vs e r;cases v<;>first|(cases e;done)|skip
  case bl b =>
  simp only[O.blsOf]at e;cases z:O.blsOf xs with
  |none=>rw[z]at e;cases e
  |some ns=>rw[z]at e;cases e;cases r with|cons a t=>cases a.bl_inv;rw[ih z t];rfl
def Ly{o:Option O.Val}{h:O.Hs}{Q:O.Q1}(w:(O.Rs.ofO o).wp h Q):∃v,o=eM v/\Q v h:=by
 cases o with
 |none=>exact(Zq w).elim
 |some v=>exact⟨v,rfl,Zu w⟩
def LM:O3 i .all λxs H Q=>∃p,∃bs:List Bool,xs=[.ref p]/\fZ i.K H p (bs.map V.bl)/\Q (.bl<|bs.all id) H:=by
 intro vs G H xs Q Qm g r w c;let⟨v,rfl,w⟩:=WE w;let⟨x,rfl,rx⟩:=r.inv1;cases v with
 |ref a =>cases rx.ref_inv;let⟨v,e,w⟩:=Ly w;let⟨ys,z,e⟩:=ê.mp e;let⟨bs,z2,rfl⟩:=Ä.mp e;let⟨us,h1,h2⟩:=Z5 g z;have:=BQ z2 h2;subst this;exact⟨a,bs,rfl,h1,c _ G H _ (fo.refl H) g (.bl _) w⟩
 |_=>exact(Zq w).elim
set_option exponentiation.threshold 2000 in
def LN{k:Int}(h:k.natAbs<10 ^ 200):k.natAbs.log2<1920:=by
 have e:(10:Nat) ^ 200<2 ^ 1920:=by decide
 by_cases h0:k.natAbs=0
 .rw[h0];decide
 .exact(Nat.log2_lt h0).mpr<|π h e
def El(ds:List O.D)(d:O.D):(toDs ds).any (λe=>ī e<|toD d)=ds.any λe=>O.D.eqv e d:=by
 induction ds with
 |nil=>rfl
 |cons e es ih=>simp only[toDs,ı,ih,Ng]
variable {G:O.Hs} {y:V} {ys:List O.Val}
def As(g:RH i G H){v u:O.Val}{x:V}{c:Bool}(rx:RV i.K H v x)(e:O.inL G v ys=eM c)(hy:∀ds,ys.mapM (O.dat G<|O.deep - 1)=eM ds->IsD i.K H y (.tuple<|toDs ds)\/IsD i.K H y (.list<|toDs ds)) :
  ∃ds d,(IsD i.K H y (.tuple ds)\/IsD i.K H y (.list ds))/\IsD i.K H x d/\Ţ ds=eP/\d.canLay0=eP/\d.depth<=64/\ds.any (λe=>ī e d)=c:=by
 unfold O.inL at e;cases z:O.dat G O.deep v with
 |none=>rw[z]at e;cases e
 |some d =>
  rw[z]at e;simp only[ú]at e;cases z2:ys.mapM (O.dat G<|O.deep - 1)with
  |none=>rw[z2]at e;cases e
  |some ds =>rw[z2]at e;cases e;exact⟨_,_,hy ds z2,Wa g _ _ _ _ z rx,toDs_lay ds,ML d,Õ (Mq _ _ _ z) (by decide),El ds d⟩
def UR(g:RH i G H){u:O.Val}(ry:RV i.K H u y)(hu:u=.tup ys\/∃a,u=.ref a/\O.ff (G a)=eM ys):∀ds,ys.mapM (O.dat G<|O.deep - 1)=eM ds->IsD i.K H y (.tuple<|toDs ds)\/IsD i.K H y (.list<|toDs ds):=by
 intro ds hd;rcases hu with rfl|⟨a,rfl,hl⟩
 .left;have:=Wa g O.deep (.tup ys) (.tup ds) y (by show Option.map _ (List.mapM (O.dat G<|O.deep - 1) ys)=_;rw[hd];rfl) ry;simpa[toD]using this
 .right;have:=Wa g O.deep (.ref a) (.lst ds) y (by show(O.ff<|G a).bind _=_;rw[hl];show Option.map _ (List.mapM (O.dat G<|O.deep - 1) ys)=_;rw[hd];rfl) ry;simpa[toD]using this
def Px(s t:String)(c:Char)(h:O.oneC s=eM c):(!(Builtin.Str.occurrences (gD t) (gD s) 0 (gD t).length 1).isEmpty)=gC (c∈t.toList):=by
 have e:gD s=⟨#[c.toNat]⟩:=by
  unfold O.oneC at h;split at h
  .rename_i d hd;cases h;rw[Str.ofString_eq_toList,hd];rfl
  .cases h
 rw[e,StrLaws.found_one,KW];have inj:∀{a b:Char},a.toNat=b.toNat->a=b:=λ{a b} e=>Char.ext<|bN e;by_cases hc:c∈t.toList
 .rw[gz hc,gA];exact ø hc
 .rw[gy hc,decide_eq_false_iff_not];intro m;let⟨d,hd,he⟩:=Ô.mp m;exact hc<|inj he▸hd
abbrev Qf(K:Frag):R2:=λx y H Q=>GH eQ x y H Q\/Fa K eQ x y H Q\/∃i j,x=.str i/\y=.str j/\Q (.bl (!(Builtin.Str.occurrences j i 0 j.length 1).isEmpty)) H
abbrev QF(K:Frag):R2:=λx y H Q=>GH eP x y H Q\/Fa K eP x y H Q\/∃i j,x=.str i/\y=.str j/\Q (.bl (!(!(Builtin.Str.occurrences j i 0 j.length 1).isEmpty))) H
def Sh(hu:X.A.units+65<Ķ):OpR X (ï .In)<|Qf X.K:=(Pb<|by lia).or ((LJ hu).or A0)
def Sn(hu:X.A.units+65<Ķ):OpR X (ï .NotIn)<|QF X.K:=(Iq<|by lia).or ((BC hu).or MM)
def HE{v u:O.Val}{G:O.Hs}{H:Hp}{x y:V}{b:Bool}(g:RH i G H)(rx:RV i.K H v x)(ry:RV i.K H u y)(e:O.inV G v u=eM b) :
  (∃ds d,(IsD i.K H y (.tuple ds)\/IsD i.K H y (.list ds))/\IsD i.K H x d/\Ţ ds=eP/\d.canLay0=eP/\d.depth<=64/\ds.any (λe=>ī e d)=b)\/
  (∃j k,x=.str j/\y=.str k/\(!(Builtin.Str.occurrences k j 0 k.length 1).isEmpty)=b)\/∃a o,y=.ref a/\DGet H a x o/\o.isSome=b:=by
 cases u with
 |tup ys=>exact .inl<|As (u:=.tup ys) g rx e<|UR g ry<|.inl rfl
 |ref a =>
  replace e:(match G a with|some (.lst xs)=>O.inL G v xs|some (.dct kvs)=>if O.fk v then eM (O.fu kvs v)else eN|some (.frz kvs)=>if O.fk v then eM (O.fu kvs v)else eN|some (.dtp kvs)=>if O.isKeyT v then eM (O.fu kvs v)else eN|_=>eN)=eM b:=e
  cases z:G a with
  |none=>rw[z]at e;cases e
  |some o =>
   rw[z]at e;cases o with
   |lst ys=>exact .inl (As (u:=.ref a) g rx e<|UR g ry<|.inr ⟨a,rfl,by rw[z];rfl⟩)
   |dct kvs =>let⟨hk,e⟩:=Zm (show(if O.fk v then eM (O.fu kvs v)else eN)=eM b from e);cases e;let⟨ps,h1,h2⟩:=g a _ z;let⟨d,kr,rfl⟩:=fh hk rx;exact .inr (.inr ⟨a,_,ry.ref_inv,DGet.k h1,by rw[h2.has kr,Y5]⟩)
   |frz kvs =>let⟨hk,e⟩:=Zm (show(if O.fk v then eM (O.fu kvs v)else eN)=eM b from e);cases e;let⟨ob,ps,h1,h2⟩:=g a _ z;let⟨d,kr,rfl⟩:=fh hk rx;exact .inr (.inr ⟨a,_,ry.ref_inv,.inl ⟨ps,d,.inr ⟨ob,h1⟩,rfl,rfl⟩,by rw[h2.has kr,Y5]⟩)
   |dtp kvs =>let⟨hk,e⟩:=Zm (show(if O.isKeyT v then eM (O.fu kvs v)else eN)=eM b from e);cases e;let⟨ps,h1,h2⟩:=g a _ z;let⟨k1,k2,d,rfl,rfl,hd⟩:=W5 hk rx;exact .inr (.inr ⟨a,_,ry.ref_inv,DGet.t h1 hd,by rw[h2.has,Y5]⟩)
   |_=>cases e
 |str t =>
  cases v with
  |str s =>let⟨c,z,rfl⟩:=Ä.mp e;exact .inr<|.inl ⟨_,_,rx.str_inv,ry.str_inv,Px s t c z⟩
  |_=>cases e
 |_=>cases e
def Hj{o:Option Bool}{b:Bool}(e:o.map (!·)=eM b):o=eM (!b):=by let⟨c,z,rfl⟩:=Ä.mp e;rw[z,az]
def Si:Yp i .isin<|Qf i.K:=by
 intro v u G H x y c Q g rx ry e q;rcases HE g rx ry e with⟨ds,d,h1,h2,h3,h4,h5,h6⟩|⟨j,k,h1,h2,h3⟩|⟨a,o,h1,h2,h3⟩
 .exact .inr (.inl ⟨ds,d,h1,h2,h3,h4,h5,by show Q (.bl<|List.any _ _) H;rw[h6];exact q⟩)
 .exact .inr (.inr ⟨j,k,h1,h2,by rw[h3];exact q⟩)
 .exact .inl ⟨a,o,h1,h2,by rw[h3,Bool.false_xor];exact q⟩
def Sd:Yp i .notin<|QF i.K:=by
 intro v u G H x y c Q g rx ry e q;rcases HE g rx ry (Hj e)with⟨ds,d,h1,h2,h3,h4,h5,h6⟩|⟨j,k,h1,h2,h3⟩|⟨a,o,h1,h2,h3⟩
 .exact .inr (.inl ⟨ds,d,h1,h2,h3,h4,h5,by show Q (.bl (!List.any _ _)) H;rw[h6,az];exact q⟩)
 .exact .inr (.inr ⟨j,k,h1,h2,by rw[h3,az];exact q⟩)
 .exact .inl ⟨a,o,h1,h2,by rw[h3,Bool.true_xor,az];exact q⟩
variable {a:Expr} {b:Expr} {d:Expr} {ma:O.E} {mb:O.E} {op:cy} {du:cy} {cop:O.Cop} {cop':O.Cop} {r:R2} {r':R2} {î:Pos}
def GI{md:O.E}(ho:OpR X (ï op) r)(hr:Yp i cop r)(aG:OpR X (ï du) r')(hr':Yp i cop' r')(ha:PE X a<|tE X i Φ ma)(hb:PE X b<|tE X i Φ mb)(hd:PE X d<|tE X i Φ md)(hm:bx [op,du] [b,d]=eQ) :
  PE X (.Compare a [op,du] [b,d] î) (tE X i Φ<|.chain cop cop' ma mb md) :=
 (C3 ho aG ha hb hd hm).imp λσ H Q ⟨env,G,Qm,Em,p,w,k⟩=>by
  exact two p w λv u G2 H2 x y k2 p2 rx ry q=>by
   let⟨c,e,q⟩:=eV q;refine hr v u G2 H2 x y c _ p2.hp rx ry e ⟨c,rfl,?_⟩;cases c with
   |true =>
    rw[gw rfl]at q ⊢;exact one p2 q λt G3 H3 z k3 p3 rz q=>by let⟨d2,e2,q⟩:=eV q;exact hr' u t G3 H3 y z d2 Q p3.hp (ry.keep k3) rz e2<|k (.bl d2) G3 H3 (.bl d2) (k2.trans k3) p3.hp (.bl d2) q
   |false =>rw[gx ö]at q ⊢;exact k _ G2 H2 _ k2 p2.hp (.bl _) q
def E4{md:O.E}(ho:OpR X (ï op) r)(hr:Yp i cop r)(aG:OpR X (ï du) r')(hr':Yp i cop' r')(ha:PE X a<|tE X i Φ ma)(hb:PE X b<|tE X i Φ mb)(hd:PE X d<|tE X i Φ md)(hm:bx [op,du] [b,d]=eQ) :
  PT X (.Compare a [op,du] [b,d] î) (tTt X i Φ<|.val<|.chain cop cop' ma mb md) :=
 (Di ho aG ha hb hd hm).imp λσ H Q ⟨env,G,Qm,Em,p,w,k⟩=>by
  exact two p w λv u G2 H2 x y k2 p2 rx ry q=>by
   let⟨c,e,q⟩:=eV q;refine hr v u G2 H2 x y c _ p2.hp rx ry e ⟨c,rfl,?_⟩;cases c with
   |true =>
    rw[gw rfl]at q ⊢;exact one p2 q λt G3 H3 z k3 p3 rz q=>by let⟨d2,e2,q⟩:=eV q;let⟨d3,e3,q⟩:=eV q;cases e3;exact hr' u t G3 H3 y z d2 _ p3.hp (ry.keep k3) rz e2 ⟨d2,rfl,k d2 G3 H3 (k2.trans k3) p3.hp q⟩
   |false =>rw[gx ö]at q ⊢;let⟨d3,e3,q⟩:=eV q;cases e3;exact⟨eQ,rfl,k _ G2 H2 k2 p2.hp q⟩
def DY{st:ň}:PS X st<|tSt X i Φ .never:=λÂ s σ H D I ⟨env,G,N,R,B,C,Xe,p,w,c⟩=>by exact w.elim
abbrev tPt(X:Cx)(i:Inf)(Φ:O.Fs)(m:O.E):TE:=λσ H Q=>∃env G Qm Em,Pre X i σ H env G Em/\O.wE Φ m env G Qm Em/\∀v G' H',fo H H'->RH i G' H'->Qm v G'->∃s,O.fmtV v=eM s/\s.length<=O.lim/\Q (.str<|gD s) H'
abbrev tJs(X:Cx)(i:Inf)(Φ:O.Fs)(ms:O.Es):TJ:=λσ H į Q=>∃env G a Qm Em,į=gD a/\a.length<=O.lim/\Pre X i σ H env G Em/\O.wJ Φ ms env G a Qm Em/\∀s G' H',fo H H'->RH i G' H'->Qm s G'->Q (gD s) H'
def _root_.L2.PJ.imp{vs:List Expr}{t t':TJ}(h:PJ X vs t)(f:∀σ H į Q,t' σ H į Q->t σ H į Q):PJ X vs t':=λÂ s σ H į Q I q=>h Â s σ H į Q I (f σ H į Q q)
variable {e:Expr} {m:O.E} {î:Pos}
def LR(he:PE X e<|tE X i Φ m):PE X (.FormattedValue e (-1) eN î) (tPt X i Φ m) :=
 (Fv he).imp λσ H Q ⟨env,G,Qm,Em,p,w,c⟩=>by
  refine⟨env,G,Qm,Em,p,w,λv G1 H1 x k1 g1 r1 w1=>?_⟩;let⟨s,e1,hl,q⟩:=c v G1 H1 k1 g1 w1;cases v with
  |str t=>cases e1;cases r1.str_inv;exact .inr ⟨_,rfl,by rw[ZB];exact Õ hl ZR,q⟩
  |int n =>
   cases r1.int_inv;simp only[O.fmtV]at e1;split at e1
   .rename_i hn;cases e1;exact .inl ⟨n,rfl,LN hn,q⟩
   .cases e1
  |_=>cases e1
def IT{s:String}{j:Nat}:PE X (.Constant (.str<|gD s) j î) (tPt X i Φ<|.cst<|.str s) :=
 pe_str.imp λσ H Q ⟨env,G,Qm,Em,p,w,c⟩=>by let⟨t,e1,hl,q⟩:=c _ G H (fo.refl H) p.hp w;cases e1;exact q
def Iw:PJ X []<|tJs X i Φ .nil:=pj_nil.imp λσ H į Q ⟨env,G,a,Qm,Em,e,hl,p,w,c⟩=>by subst e;exact⟨by rw[ZB];exact Õ hl ZR,c a G H (fo.refl H) p.hp w⟩
def U7{es:List Expr}{ms:O.Es}(he:PE X e<|tPt X i Φ m)(hr:PJ X es<|tJs X i Φ ms)(hs:cB (e::es) X.env=eval e X.env::cB es X.env):PJ X (e::es) (tJs X i Φ<|.cons m ms) :=
 (Fw he hr hs).imp λσ H į Q ⟨env,G,a,Qm,Em,e,hl,p,w,c⟩=>by subst e;refine⟨env,G,_,Em,p,w,λv G1 H1 k1 g1 w1=>?_⟩;let⟨s,e1,dR,w2⟩:=eV w1;clear w1;refine⟨s,e1,by lia,_,rfl,?_,env,G1,a++s,Qm,Em,(MT a s).symm,by rw[ce];exact dR,p.go k1 g1,w2,λt G2 H2 k2=>c t G2 H2<|k1.trans k2⟩;rw[<-MT,ZB,ce];exact Õ dR ZR
def M0{G:O.Hs}{H:Hp}{p:Ï}{o:HO}(g:RH i G H)(hp:H p=eN):RH i G<|upd H p o:=g.hid (fo.new hp) λb u e=>eR (by rintro rfl;rw[g.free hp]at e;cases e)
abbrev tE0(i:Inf)(Φ:O.Fs)(m:O.E):TE:=λσ H Q=>∃env G Qm,REn i.K H env σ/\RH i G H/\O.wE Φ m env G Qm (λ_ _=>False)/\Cn i H Q Qm
abbrev tT0(i:Inf)(Φ:O.Fs)(m:O.Tt):TT:=λσ H Q=>∃env G Qm,REn i.K H env σ/\RH i G H/\O.wT Φ m env G Qm (λ_ _=>False)/\∀b G' H',fo H H'->RH i G' H'->Qm b G'->Q b H'
variable {H:Hp}
def U1:XOk X i H λ_ _=>False:=λÂ σ H0 s H' a cls s' I f ⟨_,_,_,_,_,_,_,z⟩=>z.elim
variable {e:Expr}
def pe0{m:O.E}(h:PE X e<|tE X i Φ m):PE X e<|tE0 i Φ m:=h.imp λσ H Q ⟨env,G,Qm,r,g,w,c⟩=>⟨env,G,Qm,_,⟨r,g,U1⟩,w,c⟩
def pt0{m:O.Tt}(h:PT X e<|tTt X i Φ m):PT X e<|tT0 i Φ m:=h.imp λσ H Q ⟨env,G,Qm,r,g,w,c⟩=>⟨env,G,Qm,_,⟨r,g,U1⟩,w,c⟩
def _root_.L2.PIfs.imp{es:List Expr}{t t':TT}(h:PIfs X es t)(f:∀σ H Q,t' σ H Q->t σ H Q):PIfs X es t':=λÂ s σ H Q I q=>h Â s σ H Q I (f σ H Q q)
def Lb:PIfs X []<|tT0 i Φ .yes:=pifs_nil.imp λσ H Q ⟨env,G,Qm,r,g,w,c⟩=>by exact c eP G H (fo.refl H) g w
variable {ù:List Nat}
def Fh{K:Frag}{H':Hp}{env:O.Env}{σ:St}{k:Nat}(r:REn K H env σ)(kp:fo H H'):REn K H' (Ñ k eN++ù.map λj=>(env[j]?).getD eN)<|Ñ k eN++OT σ ù:=by
 refine⟨by simp[OT],λn u e=>?_⟩;by_cases hn:n<k
 .rw[Ć (by rw[ì];exact hn),Ř,gw hn]at e;cases e
 .rw[č (by rw[ì];lia),ì]at e ⊢;generalize n - k=n at e ⊢;simp only[Ø]at e;cases z:ù[n]? with
  |none=>rw[z]at e;cases e
  |some j =>
   rw[z]at e;simp only[Ŋ,ĭ]at e;cases z2:env[j]? with
   |none=>rw[z2]at e;cases e
   |some o =>rw[z2]at e;have e:o=eM u:=e;subst e;let⟨y,h1,h2⟩:=r.get j u z2;exact⟨y,by unfold OT;rw[Ø,z];show eM ((σ[j]?).getD eN)=_;rw[h1];rfl,h2.keep kp⟩
abbrev OZ(k:Nat):O.Pt->Bool
 |.one j=>gC (j<k)
 |.many js=>js.all λj=>gC (j<k)
 |.nest _ _=>eQ
def MA{r:O.Env}:∀{js:List Nat}{vs:List O.Val}{l Ť:O.Env},(js.all λj=>gC (j<l.length))=eP->O.bindL js vs (l++r)=eM Ť->∃l',Ť=l'++r/\l'.length=l.length
 |[],[],l,_,_,e=>by cases e;exact⟨l,rfl,rfl⟩
 |j::js,v::vs,l,_,h,e=>by rw[List.all_cons,bAq,gA]at h;have e:O.bindL js vs ((l++r).set j<|eM v)=_:=e;rw[cV _ _ h.1]at e;let⟨l',h1,h2⟩:=MA (l:=l.set j<|eM v) (by rw[ϝ];exact h.2) e;exact⟨l',h1,by rw[h2,ϝ]⟩
 |[],_::_,_,_,_,h=>by cases h
 |_::_,[],_,_,_,h=>by cases h
variable {l:O.Env} {r:O.Env}
def Cl{p:O.Pt}{G:O.Hs}{v:O.Val}{Ť:O.Env}(h:OZ l.length p=eP)(e:O.bind p G v (l++r)=eM Ť):∃l',Ť=l'++r/\l'.length=l.length:=by
 cases p with
 |one j =>have e:eM ((l++r).set j<|eM v)=eM Ť:=e;cases e;exact⟨l.set j<|eM v,by rw[cV _ _<|of_decide_eq_true h],ϝ⟩
 |many js =>
  cases v with
  |tup vs=>exact MA h e
  |_=>cases e
 |nest j js=>cases h
def REn.pre{K:Frag}{τ:St}(q:REn K H (l++r) τ):REn K H (Ñ l.length eN++r) τ:=by
 refine⟨by rw[<-q.len];simp,λn u e=>?_⟩;by_cases hn:n<l.length
 .rw[Ć (by rw[ì];exact hn),Ř,gw hn]at e;cases e
 .rw[č (by rw[ì];lia),ì]at e;exact q.get n u (by rw[č<|by lia];exact e)
def AK{k:Nat}{pt:O.Pt}(hk:OZ k pt=eP){mi:O.It}{mt:O.Tt}{me:O.E}:∀σ H Q,tE X i Φ (.comp ù k pt mi mt me) σ H Q->CM (tIt X i Φ mi) k ù (gPt i pt) (tT0 i Φ mt) (tE0 i Φ me) σ H Q:=λσ H Q ⟨env,G,Qm,Em,p,w,c⟩=>by
 refine⟨env,G,_,Em,p,w,λst xs G1 H1 J k1 g1 it w1=>?_⟩;let⟨hl,w1⟩:=w1;generalize hstep:(λ(v:O.Val) (h2:O.Hs) (K:Option O.Val->O.Hs->Prop) (X2:O.XQ)=>O.go (O.bind pt h2 v<|Ñ k eN++ù.map λj=>(env[j]?).getD eN) λŤ =>
       O.wT Φ mt Ť h2 (λk h3=>if k=eP then O.wE Φ me Ť h3 (λu h4=>K (eM u) h4) X2 else K eN h3) X2)=step at w1
 refine⟨λn m ys τ H'=>n+m=xs.length/\ys.length<=n/\REn i.K H' (Ñ k eN++ù.map λj=>(env[j]?).getD eN) τ/\∃į G',fo H1 H'/\RH i G' H'/\RVs i.K H' į ys/\O.wComp st step (xs.drop n) į G' (λys h5=>O.new h5 (.lst ys) Qm) (λ_ _=>False),⟨xs.length,by lia,by simp,Fh p.en k1,[],G1,fo.refl _,g1,.nil,⇑w1⟩,?_⟩;rintro n m ys τ H' ⟨hnm,hly,en2,į,G',k2,g2,r2,w2⟩;refine⟨è (Ë (Õ hly<|by lia) hl) ZR,?_⟩;by_cases hn:n<xs.length
 .right;have hd:xs.drop n=xs[n]::xs.drop (n+1):=ų hn;rw[hd]at w2;let⟨s2,w2⟩:=w2;have hv:xs[n]?=eM xs[n]:=É hn;let⟨a1,a2⟩:=it.go n G' H' xs[n] k2 g2 s2 hv;refine⟨a1,λys3 τ3 H3=>ys3.length<=n+1/\REn i.K H3 (Ñ k eN++ù.map λj=>(env[j]?).getD eN) τ3/\∃acc3 G3,fo H1 H3/\RH i G3 H3/\RVs i.K H3 acc3 ys3/\O.wComp st step (xs.drop<|n+1) acc3 G3 (λys h5=>O.new h5 (.lst ys) Qm) (λ_ _=>False),λys3 τ3 H3 h=>⟨m - 1,by lia,by lia,h.1,h.2⟩,λx H3 hy=>?_⟩;let⟨k3,g3,r3⟩:=a2 x H3 hy;rw[<-hstep]at w2;let⟨cR,e4,w4⟩:=eV w2;rw[hstep]at w4;let⟨l',e5,h5⟩:=Cl (l:=Ñ k eN) (by rw[ì];exact hk) e4;rw[ì]at h5;refine⟨xs[n],_,G',cR,r3,g3,en2.keep k3,e4,λτ4 en4=>?_⟩;have Ϻ:REn i.K H3 (Ñ k eN++ù.map λj=>(env[j]?).getD eN) τ4:=by
   rw[e5]at en4;have:=en4.pre;rw[h5]at this;exact this
  refine⟨_,G',_,en4,g3,w4,λd G5 H5 k5 g5 q5=>?_⟩;have kk:=(k2.trans k3).trans k5;cases d with
  |true =>refine⟨_,G5,_,en4.keep k5,g5,⇑q5,λu G6 H6 y k6 g6 r6 q6=>?_⟩;exact⟨⇑hly,(Ϻ.keep k5).keep k6,_,G6,kk.trans k6,g6,((((r2.keep k3).keep k5).keep k6).append<|.cons r6 .nil),q6⟩
  |false =>rw[gx ö]at q5;change if eQ=eP then _ else _;rw[gx ö];have q5:O.wComp st step (xs.drop<|n+1) (į++[]) G5 (λys h5=>O.new h5 (.lst ys) Qm) λ_ _=>False:=q5;rw[ď]at q5;exact⟨by lia,Ϻ.keep k5,į,G5,kk,g5,(r2.keep k3).keep k5,q5⟩
 .left;have hd:xs.drop n=[]:=ş (by lia);rw[hd]at w2;refine⟨it.stop n G' H' k2 g2 w2.1 (by lia),?_⟩;exact Yw g2 w2.2 ((c.go k1).go k2) λq hq=>⟨_,eS,r2.keep<|fo.new hq⟩
abbrev Od(i:Inf)(m:O.Bm)(r:V->List V->Hp->VK->Prop):Prop:=∀(v:O.Val) (vs:List O.Val) (G:O.Hs) (H:Hp) (x:V) (xs:List V) (t:O.Val×O.Hs) (Q:VK) (Qm:O.Q1),
 RH i G H->RV i.K H v x->RVs i.K H vs xs->O.bmV G m v vs=eM t->Qm t.1 t.2->Cn i H Q Qm->r x xs H Q
abbrev L6(i:Inf)(m:O.Bm)(T:String):Prop:=∀(v:O.Val) (G:O.Hs) (H:Hp) (x:V),RH i G H->RV i.K H v x->O.bmTy G m v=eP->tyV i.K T x H
variable {m:O.Bm}
def Uu{o e:Expr}{es:List Expr}{name:Str}{Ŗ ś:Pos}{T id:String}{r:V->List V->Hp->VK->Prop}{mo:O.E}{ms:O.Es}{n:Nat}(hK:X.K=i.K)(pa:PlainAttrs T)(slot:Slot T name id)(hty:typeOf (.builtin id)=pure (.type "method_descriptor"))(mt:MtR X id r)(hT:L6 i m T)(hr:Od i m r)
  (ho:PE X o<|tE X i Φ mo) (ha:PA X (e::es)<|tAr X i Φ ms n) (aQ:ĝ o name X.env (eval o X.env)=eval o X.env)
  (aq:((ě ś<|ß (e::es) X.env).all (λx=>!x.1)&&(ſ ś<|ņ [] X.env).all (λx=>x.1.isSome)&&gC ((e::es).length+([]:List ϫ).length+(if([]:List ϫ).isEmpty then 0 else 1)<30))=eP)
  (aR:(Ŗ.endLine==ś.line)=eP) (hs:ß (e::es) X.env=(eQ,eval e X.env)::ß es X.env) (cM:(ě ś<|ß es X.env).any (·.1)=eQ) :
  PE X (.Call (.Attribute o name Ŗ) (e::es) [] ś) (tE X i Φ<|.bm m mo ms) :=
 (Rh pa slot hty mt ho ha aQ aq aR hs cM).imp λσ H Q ⟨env,G,Qm,Em,p,w,c⟩=>by
  refine one p w λv G1 H1 x k1 p1 rv q=>⟨by rw[hK];exact hT v G1 H1 x p1.hp rv q.1,env,G1,_,Em,p1,q.2,λvs G2 H2 xs k2 g2 r2 _ w2=>?_⟩
  let⟨t,e,w3⟩:=eV w2;exact hr v vs G2 H2 x xs t Q Qm g2 (rv.keep k2) r2 e w3<|(c.go k1).go k2
def O1{o:Option O.Ob}(h:O.isDct o=eP):(∃xs,o=eM (.dct xs))\/∃xs,o=eM (.dtp xs):=by
 cases o with
 |none=>cases h
 |some o=>cases o with
  |dct xs=>exact .inl ⟨xs,rfl⟩
  |dtp xs=>exact .inr ⟨xs,rfl⟩
  |_=>cases h
def E5(hm:m.ty=.l):L6 i m "list":=λv G H x g r h=>by
 unfold O.bmTy at h;rw[hm]at h;cases v with
 |ref a =>cases r.ref_inv;let⟨xs,e⟩:=Uf (show O.isLst (G a)=eP from h);let⟨vs,h1,_⟩:=g a _ e;exact .inl ⟨rfl,vs,fZ.of h1⟩
 |_=>cases h
def IS(hm:m.ty=.d):L6 i m "dict":=λv G H x g r h=>by
 unfold O.bmTy at h;rw[hm]at h;cases v with
 |ref a =>
  cases r.ref_inv;rcases O1 (show O.isDct (G a)=eP from h)with⟨xs,e⟩|⟨xs,e⟩
  .obtain⟨vs,h1,_⟩:=g a _ e;exact .inr<|.inr<|.inl ⟨rfl,.inl ⟨vs,h1⟩⟩
  .obtain⟨vs,h1,_⟩:=g a _ e;exact .inr<|.inr<|.inl ⟨rfl,.inr ⟨vs,h1⟩⟩
 |_=>cases h
variable {G:O.Hs}
def Ja{v:O.Val}{f:O.Ad->List O.Val->Option (O.Val×O.Hs)}{t:O.Val×O.Hs}(e:O.bmL G v f=eM t):∃a xs,v=.ref a/\G a=eM (.lst xs)/\f a xs=eM t:=by
 cases v with
 |ref a=>let⟨xs,h1,h2⟩:=Dt e;exact⟨a,xs,rfl,h1,h2⟩
 |_=>cases e
variable {vs:List O.Val} {α:Type} {a:α}
def PM{f:O.Val->Option α}(e:(match vs with|[v]=>f v|_=>eN)=eM a):∃v,vs=[v]/\f v=eM a:=by
 cases vs with
 |nil=>cases e
 |cons v vs=>cases vs with
  |nil=>exact⟨v,rfl,e⟩
  |cons _ _=>cases e
def Ig:Od i .append UM:=λv vs G H x xs t Q Qm g rx rs e q c=>by let⟨a,ys,rfl,e4,e3⟩:=Ja e;let⟨u,rfl,e3⟩:=PM e3;let⟨hl,e3⟩:=Zm e3;cases e3;cases rx.ref_inv;let⟨y,rfl,ry⟩:=rs.inv1;let⟨us,h2,r2⟩:=g a _ e4;let⟨k3,g3⟩:=Wi (xs:=ys) g h2 (ys++[u]) (us++[y])<|r2.app1 ry;exact⟨a,us,y,rfl,rfl,h2,by rw[<-r2.length];exact è hl ZR,c _ _ _ _ k3 g3 .non q⟩
def L7:Od i .extend Av:=λv vs G H x xs t Q Qm g rx rs e q c=>by
 let⟨a,ys,rfl,e4,e3⟩:=Ja e;unfold O.bmExtend at e3;split at e3
 .rename_i b;let⟨zs,e5,e3⟩:=ê.mp e3;let⟨hl,e3⟩:=Zm e3;cases e3;cases rx.ref_inv;let⟨y,rfl,ry⟩:=rs.inv1;cases ry.ref_inv;let⟨us,h2,r2⟩:=g a _ e4;let⟨ws,h3,r3⟩:=g b _<|KR e5;let⟨k3,g3⟩:=Wi (xs:=ys) g h2 (ys++zs) (us++ws)<|r2.append r3;exact⟨a,b,us,ws,rfl,rfl,h2,h3,by rw[<-r2.length,<-r3.length];exact Õ hl ZR,c _ _ _ _ k3 g3 .non q⟩
 .cases e3
def Hg:Od i .popAt C9:=λv vs G H x xs t Q Qm g rx rs e q c=>by
 let⟨a,ys,rfl,e4,e3⟩:=Ja e;unfold O.bmPopAt at e3;split at e3
 .rename_i n;let⟨hn,e3⟩:=Zm e3;let⟨k,z,e3⟩:=ê.mp e3;let⟨yv,z2,rfl⟩:=Ä.mp e3;cases rx.ref_inv;let⟨y,rfl,ry⟩:=rs.inv1;cases ry.int_inv;let⟨us,h2,r2⟩:=g a _ e4;let⟨xv,hx,rv⟩:=r2.get z2;rw[Nq,r2.length]at z;let⟨s1,s2,s3,s4⟩:=MI z;let⟨k3,g3⟩:=Wi (xs:=ys) g h2 (ys.eraseIdx k) (us.eraseIdx k)<|r2.eraseIdx k;exact⟨a,us,n,k,xv,rfl,rfl,h2,by lia,by lia,s1,hx,c _ _ _ _ k3 g3 (rv.keep k3) q⟩
 .cases e3
def MD{v:O.Val}{f:O.Ad->List (O.Val×O.Val)->Option (O.Val×O.Hs)}{t:O.Val×O.Hs}(e:O.bmD G v f=eM t):∃a kvs,v=.ref a/\G a=eM (.dct kvs)/\f a kvs=eM t:=by
 cases v with
 |ref a =>
  let⟨kvs,h1,h2⟩:=ê.mp (show(O.gj<|G a).bind (f a)=eM t from e);refine⟨a,kvs,rfl,?_,h2⟩;cases z:G a with
  |none=>rw[z]at h1;cases h1
  |some o =>
   rw[z]at h1;cases o with
   |dct ys=>cases h1;rfl
   |_=>cases h1
 |_=>cases e
def Sf{f:O.Val->O.Val->Option α}(e:(match vs with|[v,u]=>f v u|_=>eN)=eM a):∃v u,vs=[v,u]/\f v u=eM a:=by
 cases vs with
 |nil=>cases e
 |cons v vs=>cases vs with
  |nil=>cases e
  |cons u us=>cases us with
   |nil=>exact⟨v,u,rfl,e⟩
   |cons _ _=>cases e
abbrev DU:V->List V->Hp->VK->Prop:=λx vs H Q=>∃a y o,x=.ref a/\vs=[y]/\DGet H a y o/\Q (o.getD .non) H
def EX(hu:X.A.units+1<Ķ):MtR X "dict.get" DU:=by intro Â s σ H x vs v us Q I rx rv h;let⟨a,y,o,rfl,rfl,d,q⟩:=h;cases rx;let⟨u,rfl,ru⟩:=rv.one;exact Le hu I d ru λw' s' I' bf=>⟨_,_,I',bf,q⟩
abbrev DT:V->List V->Hp->VK->Prop:=λx vs H Q=>∃a kvs k v more,x=.ref a/\vs=kV k::more/\(more=[]\/∃z,more=[z])/\H a=eM (.dK kvs)/\YD kvs k=eM v/\Q v (upd H a<|.dK<|fw kvs k)
def mt_dpop:MtR X "dict.pop" DT:=by
 intro Â s σ H x vs v us Q I rx rv h;let⟨a,kvs,k,y,more,rfl,rfl,hm,hH,l,q⟩:=h;cases rx;rcases hm with rfl|⟨z,rfl⟩
 .obtain⟨u,rfl,ru⟩:=rv.one;exact HV I hH ru l (.inl rfl) λw' s' I' bf=>⟨_,_,I',bf,q⟩
 .obtain⟨u,t,rfl,ru,rt⟩:=rv.two;exact HV I hH ru l (.inr ⟨_,rfl⟩) λw' s' I' bf=>⟨_,_,I',bf,q⟩
abbrev C5:V->List V->Hp->VK->Prop:=λx vs H Q=>∃a kvs k z,x=.ref a/\vs=[kV k,z]/\H a=eM (.dK kvs)/\YD kvs k=eN/\Q z H
def Cc:MtR X "dict.pop" C5:=by intro Â s σ H x vs v us Q I rx rv h;let⟨a,kvs,k,z,rfl,rfl,hH,l,q⟩:=h;cases rx;let⟨u,t,rfl,ru,rt⟩:=rv.two;exact Pm I hH ru l λs' I'=>⟨_,_,I',rt,q⟩
def PR:Od i .dget DU:=λv vs G H x xs t Q Qm g rx rs e q c=>by
 let⟨a,kvs,rfl,e4,e3⟩:=MD e;let⟨k,rfl,e3⟩:=PM e3;let⟨hk,e3⟩:=Zm e3;cases e3;cases rx.ref_inv;let⟨y,rfl,ry⟩:=rs.inv1;let⟨ps,h2,r2⟩:=g a _ e4;let⟨d,kr,rfl⟩:=fh hk ry;refine⟨a,_,_,rfl,rfl,DGet.k (k:=d) h2,?_⟩;let⟨l1,l2⟩:=r2.look kr;cases z:O.fq kvs k with
 |none=>rw[l2 z];rw[z]at q;exact c _ _ _ _ (fo.refl H) g .non q
 |some u=>let⟨x,hx,rv⟩:=l1 u z;rw[hx];rw[z]at q;exact c _ _ _ _ (fo.refl H) g rv q
def L3:Od i .dpop DT:=λv vs G H x xs t Q Qm g rx rs e q c=>by let⟨a,kvs,rfl,e4,e3⟩:=MD e;let⟨k,rfl,e3⟩:=PM e3;let⟨hk,e3⟩:=Zm e3;let⟨u,z,rfl⟩:=Ä.mp e3;cases rx.ref_inv;let⟨y,rfl,ry⟩:=rs.inv1;let⟨ps,h2,r2⟩:=g a _ e4;let⟨d,kr,rfl⟩:=fh hk ry;let⟨x,hx,rv⟩:=(r2.look kr).1 u z;let⟨k3,g3⟩:=M3 (kvs:=kvs) g h2<|r2.drop kr;exact⟨a,ps,d,x,[],rfl,rfl,.inl rfl,h2,hx,c _ _ _ _ k3 g3 (rv.keep k3) q⟩
def O4{kvs:List (O.Val×O.Val)}{k:O.Val}(h:O.fq kvs k=eN):O.fw kvs k=kvs:=by
 unfold O.fw;rw[dm];intro p hp;have h2:kvs.find? (λp=>p.1==k)=eN:=by unfold O.fq at h;exact Option.map_eq_none_iff.mp h
 simpa using List.find?_eq_none.mp h2 p hp
def GX:Od i .dpopD λx vs H Q=>DT x vs H Q\/C5 x vs H Q:=λv vs G H x xs t Q Qm g rx rs e q c=>by
 let⟨a,kvs,rfl,e4,e3⟩:=MD e;let⟨k,dv,rfl,e3⟩:=Sf e3;let⟨hk,e3⟩:=Zm e3;cases e3;cases rx.ref_inv;let⟨y,z,rfl,ry,rz⟩:=rs.inv2;let⟨ps,h2,r2⟩:=g a _ e4;let⟨d,kr,rfl⟩:=fh hk ry;let⟨l1,l2⟩:=r2.look kr;cases z:O.fq kvs k with
 |none =>
  refine .inr ⟨a,ps,d,_,rfl,rfl,h2,l2 z,?_⟩;rw[z,O4 z]at q;have e:O.upd G a (.dct kvs)=G:=by
   funext b;by_cases hb:b=a
   .subst hb;rw[O.eS,e4]
   .rw[O.eR hb]
  rw[e]at q;exact c _ _ _ _ (fo.refl H) g rz q
 |some u =>let⟨x,hx,rv⟩:=l1 u z;let⟨k3,g3⟩:=M3 (kvs:=kvs) g h2<|r2.drop kr;rw[z]at q;exact .inl ⟨a,ps,d,x,_,rfl,rfl,.inr ⟨_,rfl⟩,h2,hx,c _ _ _ _ k3 g3 (rv.keep k3) q⟩
end Snd
namespace L2
open PySem PySem.Spec PyProof.Rows
section
variable {X:Cx}
def Ah:∀{ns:List Int}{us:List Ã},gg (ns.map V.int) us->PySem.W.kf_ints us=eP
 |[],_,.nil=>rfl
 |_::ns,_,.cons ⟨_,e⟩ r=>by subst e;unfold PySem.W.kf_ints;exact Ah (ns:=ns) r
def Co{i:Int}:∀{ns:List Int}{us:List Ã},gg (ns.map V.int) us->i∈ns->∃j,PySem.W.kf_at i us=eM j/\ns.erase i=ns.eraseIdx j
 |[],_,_,h=>nomatch h
 |n::ns,_,.cons ⟨t,e⟩ r,h=>by
  subst e;by_cases e:n=i
  .subst e;exact⟨0,by simp[PySem.W.kf_at,isInt],by simp⟩
  .obtain⟨j,h1,h2⟩:=Co r<|(Æ.mp h).resolve_left<|Ne.symm e;have e2:(n==i)=eQ:=⇑e
   refine⟨j+1,?_,by simp[List.erase_cons,e,h2]⟩;simp[PySem.W.kf_at,isInt,e2,h1]
def DR:∀(ns:List Int) (j:Nat),(ns.eraseIdx j).map V.int=(ns.map V.int).eraseIdx j
 |[],_=>rfl
 |_::_,0=>rfl
 |_::ns,j+1=>congrArg (_ :: ·)<|DR ns j
abbrev Ap:V->List V->Hp->VK->Prop:=λx vs H Q=>∃(l:Ï) (ns:List Int) (i:Int),x=.ref l/\vs=[.int i]/\H l=eM (.lst<|ns.map V.int)/\i∈ns/\Q .non (upd H l<|.lst<|(ns.erase i).map V.int)
def Bj:MtM X "list.remove" Ap:=by
 intro Â s σ H x vs v us Q I rx rv h;let⟨l,ns,i,rfl,rfl,hH,hm,q⟩:=h;cases rx;let⟨u,rfl,ru⟩:=rv.one;let⟨t,rfl⟩:=ru;let⟨z,õ,n,r,hl,e⟩:=I.lstM hH;let⟨j,hj,he⟩:=Co r hm;let⟨a,b,c⟩:=PySem.W.kf_at_spec hj;refine Ϭ F.slot_list_remove ⟨_,e,rfl⟩ F.entry_list_remove (F.args_list_remove_2 _ _)
  (MeetsSeq.list_remove l õ.toArray n (.int i t) (isInt i) (λy hy=>PySem.W.kf_eq (Ah r) y<|by simpa using hy) j ⇑a ⇑b (λm hm h2=>by simpa using c m ⇑hm h2)<|by rw[Ð];lia) ⟨e,?_⟩
 rw[he]at q;refine⟨.non,_,I.lset (its':=õ.eraseIdx j) hH e ?_ (by rw[DR];exact r.eraseIdx j) ?_,rfl,q⟩
 .show õ.toArray.eraseIdxIfInBounds j=(õ.eraseIdx j).toArray;rw[aB]
 .have:=Wy ns j;rw[À]at z ⊢;lia
end
end L2
namespace Snd
open PySem L2 PyProof.Rows
variable {i:Inf}
def PK:Od i .remove Ap:=λv vs G H x xs t Q Qm g rx rs e q c=>by
 let⟨a,ys,rfl,e4,e3⟩:=Ja e;unfold O.bmRemove at e3;split at e3
 .rename_i n;let⟨ns,z,e3⟩:=ê.mp e3;let⟨hn,e3⟩:=Zm e3;cases e3;cases rx.ref_inv;let⟨y,rfl,ry⟩:=rs.inv1;cases ry.int_inv;let⟨us,h2,r2⟩:=g a _ e4;cases ZS z r2;let⟨k3,g3⟩:=Wi (xs:=ys) g h2 ((ns.erase n).map .int) ((ns.erase n).map V.int)<|RVs.ints _;exact⟨a,ns,n,rfl,rfl,h2,hn,c _ _ _ _ k3 g3 .non q⟩
 .cases e3
end Snd
namespace Snd
open PySem L2
variable {i:Inf}{X:Cx}{Φ:O.Fs}
def RFs.look{K:Frag}{H:Hp}{f:String}:∀{fs:List (String×O.Val)}{ps:List (Str×V)},RFs K H fs ps->
  (∀v,fs.lookup f=eM v->∃x,ps.lookup (gD f)=eM x/\RV K H v x)/\(fs.lookup f=eN->ps.lookup (gD f)=eN)
 |_,_,.nil=>⟨λv e=>(by cases e),λ_=>rfl⟩
 |_,_,.cons (f:=g) (v:=u) (x:=y) r t=>by
  have ih:=RFs.look (f:=f) t;rw[ä,ä];by_cases e:f=g
  .subst e;rw[beq_self_eq_true,beq_self_eq_true];exact⟨λv z=>(by cases z;exact⟨y,rfl,r⟩),λz=>(by cases z)⟩
  .rw[show(f==g)=eQ by simpa using e,show(gD f==gD g)=eQ by rw[beq_eq_false_iff_ne];exact λz=>e<|ofS_inj.mp z];exact ih
def RFs.put{K:Frag}{H:Hp}{f:String}{v:O.Val}{x:V}(q:RV K H v x):∀{fs:List (String×O.Val)}{ps:List (Str×V)},RFs K H fs ps->RFs K H (O.fi fs f v) (L2.fi (gD f) x ps)
 |_,_,.nil=>.cons q .nil
 |_,_,.cons (f:=g) (v:=u) (x:=y) r t=>by
  unfold O.fi L2.fi;by_cases e:g=f
  .subst e;rw[gw rfl,gw rfl];exact .cons q t
  .rw[gx e,gx λz=>e<|ofS_inj.mp z];exact .cons r<|RFs.put q t
def RFs.length{K:Frag}{H:Hp}:∀{fs:List (String×O.Val)}{ps:List (Str×V)},RFs K H fs ps->fs.length=ps.length
 |_,_,.nil=>rfl
 |_,_,.cons _ t=>by rw[Ò,Ò,RFs.length t]
structure FldOk(i:Inf)(f:String):Prop where
 no:∀C c,i.cl C c->NoAttr i.K c (gD f)
structure IC(K:Frag)(C:Ï):Prop where
 ha:PySem.W.findIn K (.ref C) "__class__" = eM (eM<|.builtin "object.__class__")
 hn:PySem.W.specialIn K (.builtin "object.__class__") "__get__" = eM (eM<|.builtin "getset_descriptor.__get__")
 htk:PySem.W.takesIn K (.builtin "object.__class__")=eM eP
 hm:PySem.W.mroIn K C (.type "object")=eM eP
structure ClsA(i:Inf):Prop where
 cls:∀C c,i.ins C=eP->i.cl C c->Cls i.K c
 ic:∀C c,i.cl C c->IC i.K c
 un:∀C a b,i.cl C a->i.cl C b->a=b
def Ko{o:Option O.Ob}{p:String×List (String×O.Val)}(h:O.insOf o=eM p):o=eM (.ins p.1 p.2):=by
 cases o with
 |none=>cases h
 |some o=>cases o with
  |ins C fs=>cases h;rfl
  |_=>cases h
variable {G:O.Hs} {f:String}
def K6{v u:O.Val}(h:O.fL G v f=eM u):∃a C fs,v=.ref a/\G a=eM (.ins C fs)/\fs.lookup f=eM u:=by let⟨a,h1,h⟩:=ê.mp h;let⟨p,h2,h3⟩:=ê.mp h;exact⟨a,p.1,p.2,Ju h1,Ko h2,h3⟩
variable {o:Expr} {mo:O.E} {î:Pos}
def Q4(hK:X.K=i.K)(A:ClsA i)(F:FldOk i f)(ho:PE X o<|tE X i Φ mo)(hb:ĝ o (gD f) X.env (eval o X.env)=eval o X.env) :
  PE X (.Attribute o (gD f) î) (tE X i Φ<|.fld mo f) :=
 (Ie ho hb).imp λσ H Q ⟨env,G,Qm,Em,p,w,c⟩=>by
  exact one p w λv G1 H1 x k1 p1 r q=>by let⟨u,e,q2⟩:=eV q;clear q;let⟨a,C,fs,rfl,e2,e3⟩:=K6 e;cases r.ref_inv;let⟨c',dx,ps,hi,hc,h1,rf⟩:=p1.hp a _ e2;let⟨y,l,ry⟩:=rf.look.1 u e3;exact⟨a,c',dx,ps,y,rfl,h1,by rw[hK];exact A.cls _ _ hi hc,by rw[hK];exact F.no _ _ hc,l,c _ _ _ _ k1 p1.hp ry q2⟩
variable {C:String}
def U0{H:Hp}{a:Ï}{c' dx:Ï}{fs:List (String×O.Val)}{ps ps2:List (Str×V)}(g:RH i G H)(hi:i.ins C=eP)(hc:i.cl C c')(h:H a=eM (.ins c' dx ps2))(r:RFs i.K H fs ps) :
  fo H (upd H a<|.ins c' dx ps)/\RH i (O.upd G a<|.ins C fs) (upd H a<|.ins c' dx ps):=by
 have k:fo H<|upd H a<|.ins c' dx ps:=fo.put (λxs e=>by rw[h]at e;cases e) λp u e=>by rw[h]at e;cases e
 exact⟨k,g.put k ⟨c',dx,ps,hi,hc,eS,r.keep k⟩⟩
def JK{G':O.Hs}{o v:O.Val}(h:O.fM G o f v=eM G'):∃a C fs,o=.ref a/\G a=eM (.ins C fs)/\fs.length<900/\G'=O.upd G a (.ins C<|O.fi fs f v):=by
 cases o with
 |ref a =>
  unfold O.fM at h;dsimp only at h;split at h
  .rename_i C fs e;let⟨hl,h⟩:=Zm h;cases h;exact⟨a,C,fs,rfl,e,hl,rfl⟩
  .cases h
 |_=>cases h
variable {e:Expr}
def A6{m:O.E}{bE:Pos}(hK:X.K=i.K)(A:ClsA i)(F:FldOk i f)(ho:PE X o<|tE X i Φ mo)(he:PE X e<|tE X i Φ m)(hs:υ e (eM<|.Attribute o (gD f) bE) î.line X.env=pure eQ) :
  PS X (.Assign [.Attribute o (gD f) bE] e î) (tSt X i Φ<|.setFld mo f m) :=
 (IN ho he hs).imp λD σ H ⟨env,G,N,R,B,C,Xe,p,w,c⟩=>by refine one p.pre w λv G1 H1 x k1 p1 r q=>?_;refine one p1 q λu G2 H2 y k2 p2 ry q=>?_;let⟨G3,e3,q2⟩:=eV q;clear q;let⟨a,D',fs,rfl,e2,hl,rfl⟩:=JK e3;cases ry.ref_inv;let⟨c',dx,ps,hi,hc,h1,rf⟩:=p2.hp a _ e2;let⟨k3,g3⟩:=U0 p2.hp hi hc h1<|rf.put (f:=f)<|r.keep k2;refine⟨a,c',dx,ps,rfl,h1,by rw[hK];exact A.cls _ _ hi hc,by rw[hK];exact F.no _ _ hc,by rw[<-rf.length];lia,?_⟩;have k:=(k1.trans k2).trans k3;exact c.nx _ _ _ _ k g3 (p.en.keep k) q2
def OC{op:O.Bop}{x y z:O.Val}(h:O.augV op x y=eM z):∃a b,x=.int a/\y=.int b/\((op=.add/\z=.int (a+b))\/(op=.sub/\z=.int (a - b))):=by
 unfold O.augV at h;split at h
 .cases h;exact⟨_,_,rfl,rfl,.inl ⟨rfl,rfl⟩⟩
 .cases h;exact⟨_,_,rfl,rfl,.inr ⟨rfl,rfl⟩⟩
 .cases h
abbrev rAS(op:O.Bop):V->V->Hp->VK->Prop:=λx y H Q=>∃a b,x=.int a/\y=.int b/\((op=.add/\Q (.int<|a+b) H)\/(op=.sub/\Q (.int<|a - b) H))
def B1{op:ϡ}{bop:O.Bop}{n:Int}{k:Nat}{cK ś:Pos}(hK:X.K=i.K)(A:ClsA i)(F:FldOk i f)(hop:Cg X op<|rAS bop)(ho:PE X o<|tE X i Φ mo) :
  PS X (.AugAssign (.Attribute o (gD f) cK) op (.Constant (.int n) k ś) î) (tSt X i Φ<|.augFld mo f bop n) :=
 (A8 ho Uq hop).imp λD σ H ⟨env,G,N,R,B,C,Xe,p,w,c⟩=>by
  refine one p.pre w λv G1 H1 x k1 p1 r q=>?_;let⟨u,e1,q2⟩:=eV q;clear q;let⟨a,C',fs,rfl,e2,e3⟩:=K6 e1;cases r.ref_inv;let⟨c',dx,ps,hi,hc,h1,rf⟩:=p1.hp a _ e2;let⟨y,l,ry⟩:=rf.look.1 u e3;refine⟨a,c',dx,ps,y,rfl,h1,by rw[hK];exact A.cls _ _ hi hc,by rw[hK];exact F.no _ _ hc,l,?_⟩;let⟨z,e4,q3⟩:=eV q2;clear q2;let⟨G3,e5,q4⟩:=eV q3;clear q3;let⟨n1,n2,rfl,e0,hz⟩:=OC e4;cases e0;cases ry.int_inv;let⟨a2,C2,fs2,e6,e7,hl,rfl⟩:=JK e5;cases e6;rw[e2]at e7;cases e7;have fin:∀n:Int,z=.int n->∃dx' fs',H1 a=eM (.ins c' dx' fs')/\fs'.length<1000/\D.nx σ (upd H1 a<|.ins c' dx'<|L2.fi (gD f) (.int n) fs'):=λn hn=>by subst hn;let⟨k3,g3⟩:=U0 p1.hp hi hc h1<|rf.put (f:=f) (x:=.int n)<|.int n;refine⟨dx,ps,h1,by rw[<-rf.length];lia,?_⟩;exact c.nx _ _ _ _ (k1.trans k3) g3 (p.en.keep<|k1.trans k3) q4
  rcases hz with⟨e,hz⟩|⟨e,hz⟩
  .exact⟨n1,n,rfl,rfl,.inl ⟨e,fin _ hz⟩⟩
  .exact⟨n1,n,rfl,rfl,.inr ⟨e,fin _ hz⟩⟩
abbrev Dfm(pr:ç)(w:þ)(mg:Str->Option Ã)(base:Ĉ)(i:Inf)(P:O.Pg)(n:Nat)(f:String)(fa:Ï):Prop :=
 ∃fd ps,fz pr w i.K mg base (CX1 pr w) (2*n) fa fd ps (spF i P n f)/\Binds i.K fd ps []
variable {P:O.Pg} {n:Nat} {es:List Expr} {ms:O.Es} {p:Pos}
def PY{k:Nat}{Cn:String}{C f:Ï}(hK:X.K=i.K)(hi:i.ins Cn=eP)(hc:i.cl Cn C)(M:Mk i.K C f)(D:Dfm X.prog X.w X.mg X.base i P n (Cn ++ ".__init__") f)(hr:fy (2*n+1) X.A)
  (hg:Gl X<|gD Cn) (hm:X.mg (gD Cn)=eM (.ref C)) (cL:(gD Cn==("__debug__" : Str))=eQ)
  (ha:PA X (e::es)<|tAr X i (O.wF P n) ms k) (he:ß (e::es) X.env=(eQ,eval e X.env)::ß es X.env) (hpl:(ě î<|ß es X.env).any (·.1)=eQ) :
  PE X (.Call (.Name (gD Cn) p) (e::es) [] î) (tE X i (O.wF P n)<|.make Cn ms):=by
 let⟨fd,ps,F,hb⟩:=D;rw[<-hK]at F hb M;intro Â s σ H Q I h;let⟨env,G,Qm,Em,pr,w,c⟩:=h;refine E7 (E:=XK1 i H Em) M F hr hg hm hb .nil (XW.passes pr.xo) ha cL he hpl Â s σ H Q I ⟨env,G,_,Em,pr,w,λvs G1 H1 xs k1 g1 r1 hl w1 x dx hx hd ű=>?_⟩;have ka:fo H1<|upd H1 dx<|.own x:=fo.new hd;have hx2:upd H1 dx (.own x) x=eN:=by rw[eR λz=>ű z.symm];exact hx
 have kb:fo (upd H1 dx<|.own x)<|upd (upd H1 dx<|.own x) x<|.ins C dx []:=fo.new hx2;have g2:RH i G1<|upd H1 dx<|.own x:=M0 g1 hd;have g3:RH i (O.upd G1 x<|.ins Cn [])<|upd (upd H1 dx<|.own x) x<|.ins C dx []:=g2.put kb ⟨C,dx,[],hi,hc,eS,.nil⟩;have k:=ka.trans kb;refine⟨.ref x::vs,_,_,Em,.cons (.ref x) (by rw[ď];exact r1.keep k),g3,w1 x<|g1.free hx,?_,λcls d H' h=>(h.go k).go k1⟩;intro v G' H' y k' g' rv ⟨hv,hq⟩;subst hv;exact⟨rv.non_inv,c _ G' H' _ ((k1.trans k).trans k') g' (.ref x) hq⟩
variable {m:String}
def Mg{v:O.Val}(h:O.clsV G v m=eM C):∃a fs,v=.ref a/\G a=eM (.ins C fs)/\fs.lookup m=eN:=by
 let⟨a,h1,h⟩:=ê.mp h;let⟨p,h2,h3⟩:=ê.mp h;have e:=Ko h2;by_cases z:(p.2.lookup m).isNone=eP
 .rw[gw z]at h3;cases h3;exact⟨a,p.2,Ju h1,e,a9.mp z⟩
 .rw[gx z]at h3;cases h3
variable {Ŗ:Pos} {pl:Sem Bool}
def II{k:Nat}{Cn:String}{C f:Ï}(hK:X.K=i.K)(hfn:∀c,i.cl Cn c->c=C)(A:Cls i.K C)(M:Meth i.K C (gD m) f)(D:Dfm X.prog X.w X.mg X.base i P n (Cn ++ "." ++ m) f)(hr:fy (2*n) X.A)
  (ho:PE X o<|tE X i (O.wF P n) mo) (ha:PA X (e::es)<|tAr X i (O.wF P n) ms k) (he:ß (e::es) X.env=(eQ,eval e X.env)::ß es X.env) (hpl:(ě î<|ß es X.env).any (·.1)=eQ)
  (ht:eval (.Call (.Attribute o (gD m) Ŗ) (e::es) [] î) X.env=(do
    let ov<-eval o X.env
    ϔ Ŗ.atName
    let (f,first)<-Ŝ [ov] (Ϣ ov (gD m) pl)
    cz î f first (ě î<|ß (e::es) X.env) (ſ î<|ņ [] X.env))) :
  PE X (.Call (.Attribute o (gD m) Ŗ) (e::es) [] î) (tE X i (O.wF P n)<|.meth Cn m mo ms):=by
 let⟨fd,ps,F,hb⟩:=D;rw[<-hK]at F hb M A;intro Â s σ H Q I h;let⟨env,G,Qm,Em,pr,w,c⟩:=h;refine Fq (E:=XK1 i H Em) ho A M F hr hb .nil (XW.passes pr.xo) ha he hpl ht Â s σ H Q I<|one pr w λv G1 H1 x k1 p1 rv q=>?_;let⟨hq,w1⟩:=q;let⟨a,fs,rfl,e2,e3⟩:=Mg hq;cases rv.ref_inv;let⟨c',dx,cQ,hi,hc,h1,rf⟩:=p1.hp a _ e2;cases hfn c' hc;refine⟨a,dx,cQ,rfl,h1,rf.look.2 e3,env,G1,_,Em,p1,w1,λvs G2 H2 xs k2 g2 r2 hl w2=>?_⟩;exact⟨.ref a::vs,G2,Qm,Em,.cons (.ref a) (by rw[ď];exact r2),g2,w2,(c.go k1).go k2,λcls d H' h=>(h.go k2).go k1⟩
def Fg{Cn:String}{C f:Ï}(hK:X.K=i.K)(hfn:∀c,i.cl Cn c->c=C)(A:Cls i.K C)(M:Meth i.K C (gD m) f)(D:Dfm X.prog X.w X.mg X.base i P n (Cn ++ "." ++ m) f)(hr:fy (2*n) X.A)
  (ho:PE X o<|tE X i (O.wF P n) mo)
  (ht:eval (.Call (.Attribute o (gD m) Ŗ) [] [] î) X.env=(do
    let ov<-eval o X.env
    ϔ Ŗ.atName
    let (f,first)<-Ŝ [ov] (Ϣ ov (gD m) pl)
    cz î f first (ě î<|ß [] X.env) (ſ î<|ņ [] X.env))) :
  PE X (.Call (.Attribute o (gD m) Ŗ) [] [] î) (tE X i (O.wF P n)<|.meth Cn m mo .nil):=by
 let⟨fd,ps,F,hb⟩:=D;rw[<-hK]at F hb M A;intro Â s σ H Q I h;let⟨env,G,Qm,Em,pr,w,c⟩:=h;refine Cu (E:=XK1 i H Em) ho A M F hr hb .nil (XW.passes pr.xo) ht Â s σ H Q I<|one pr w λv G1 H1 x k1 p1 rv q=>?_;let⟨hq,w1⟩:=q;let⟨a,fs,rfl,e2,e3⟩:=Mg hq;cases rv.ref_inv;let⟨c',dx,cQ,hi,hc,h1,rf⟩:=p1.hp a _ e2;cases hfn c' hc;refine⟨a,dx,cQ,rfl,h1,rf.look.2 e3,?_⟩;exact⟨[.ref a],G1,Qm,Em,.cons (.ref a) .nil,p1.hp,w1,c.go k1,λcls d H' h=>h.go k1⟩
def Gq(hK:X.K=i.K)(D:Dfo X.prog X.w X.mg X.base i P n f)(hr:fy (2*n) X.A)(hg:Gl X<|gD f)(cL:(gD f==("__debug__" : Str))=eQ) :
  PE X (.Call (.Name (gD f) p) [] [] î) (tE X i (O.wF P n)<|.call f .nil):=by
 let⟨fa,fd,ps,F,hm,hk,hb⟩:=D;rw[<-hK]at F hk hb;intro Â s σ H Q I h;let⟨env,G,Qm,Em,pr,w,c⟩:=h;refine B6 (E:=XK1 i H Em) F hr hg hm hk hb .nil (XW.passes pr.xo) cL Â s σ H Q I ?_;exact⟨[],G,Qm,Em,.nil,pr.hp,w,c,λcls d H' h=>h⟩
abbrev Ar(X:Cx)(i:Inf)(Φ:O.Fs):O.Es->List (TE×TE)
 |.cons k (.cons v r)=>(tE X i Φ k,tE X i Φ v)::Ar X i Φ r
 |_=>[]
abbrev JD:O.Es->Bool
 |.nil=>eP
 |.cons _ .nil=>eQ
 |.cons _ (.cons _ r)=>JD r
abbrev esL:O.Es->Nat
 |.nil=>0
 |.cons _ es=>esL es+1
abbrev U2:List V->List (V×V)
 |x::y::r=>(x,y)::U2 r
 |_=>[]
def OI:∀(es:O.Es),JD es=eP->∀{σ:St}{H:Hp}{env:O.Env}{G:O.Hs}{Qm:List O.Val->O.Hs->Prop}{Em:O.XQ}{Q:List (V×V)->Hp->Prop},Pre X i σ H env G Em->O.wA Φ es env G Qm Em->
  (∀vs G' H' xs,fo H H'->RH i G' H'->RVs i.K H' vs xs->xs.length=esL es->Qm vs G'->Q (U2 xs) H')->Nr (Ar X i Φ es) σ H Q
 |.nil,_,σ,H,env,G,Qm,Em,Q,p,w,c=>by rw[O.q_a_nil]at w;exact c [] G H [] (fo.refl H) p.hp .nil rfl w
 |.cons k .nil,h,_,_,_,_,_,_,_,_,_,_=>by cases h
 |.cons k (.cons v r),h,σ,H,env,G,Qm,Em,Q,p,w,c=>by rw[O.q_a_cons]at w;refine one p w λa G1 H1 x k1 p1 ra q=>?_;rw[O.q_a_cons]at q;refine one p1 q λb G2 H2 y k2 p2 rb q2=>?_;refine OI r h p2 q2 λvs G' H' xs k3 g3 rv hl hq=>?_;exact c (a::b::vs) G' H' (x::y::xs) ((k1.trans k2).trans k3) g3 (.cons ((ra.keep k2).keep k3)<|.cons (rb.keep k3) rv) (by rw[Ò,Ò,hl];rfl) hq
def Ka{K:Frag}{H:Hp}:∀{vs:List O.Val}{xs:List V}{kvs:List (O.Val×O.Val)},RVs K H vs xs->O.pairUp vs=eM kvs->∃ps:List<|Key×V,U2 xs=ps.map (λkv=>(kV kv.1,kv.2))/\RKs K H kvs ps/\2*ps.length=xs.length
 |[],_,_,r,e=>by cases r;cases e;exact⟨[],rfl,.nil,rfl⟩
 |[_],_,_,_,e=>by cases e
 |a::b::vs,_,kvs,r,e=>by
  cases r with
  |cons ra r=>cases r with
  |cons rb t =>
  rename_i y _;unfold O.pairUp at e;split at e
  .rename_i hk;let⟨ks,e2,rfl⟩:=Ä.mp e;let⟨ps,h1,h2,h3⟩:=Ka t e2;let⟨c,hc,rfl⟩:=fh hk ra;refine⟨(c,y)::ps,?_,.cons hc rb h2,by rw[Ò,Ò,Ò];lia⟩;show(kV c,y)::U2 _=_;rw[h1];rfl
  .cases e
def RKs.merge{K:Frag}{H:Hp}:∀{kvs:List (O.Val×O.Val)}{ps:List (Key×V)}{į:List (O.Val×O.Val)}{bs:List (Key×V)},RKs K H į bs->RKs K H kvs ps->RKs K H (O.putAll į kvs) (Xs bs ps)
 |_,_,_,_,r,.nil=>r
 |_,_,į,bs,r,.cons (k:=k) (v:=v) (c:=c) (x:=x) (kvs:=kvs) (ps:=ps) a q t=>by show RKs K H (O.putAll (O.fv į k v) kvs) (Xs (L2.fv bs c x) ps);exact RKs.merge (RKs.put a q r) t
variable {î:Pos}
def IL:PE X (.Dict [] [] î) (tE X i Φ<|.dct .nil) :=
 pe_dnewK.imp λσ H Q ⟨env,G,Qm,Em,p,w,c⟩=>by rw[O.q_e_dct]at w;unfold O.new at w;intro a ha;have w1:=w a<|p.hp.free ha;let⟨a',e,w2⟩:=eV w1;cases e;rw[O.q_a_nil]at w2;let⟨ks,e2,_,w3⟩:=eV w2;cases e2;rw[O.eU]at w3;have k:=fo.new (o:=.dK []) ha;exact c _ _ _ _ k (p.hp.put (o:=.dct []) k ⟨[],eS,.nil⟩) (.ref a) w3
def P2{es:O.Es}{keys:List (Option Expr)}{ώ:List Expr}(he:JD es=eP)(h30:esL es<=30)(h:PPs X î keys ώ<|Ar X i Φ es)(hall:keys.all (·.isSome)=eP)(hl:keys.length=ώ.length)(h0:keys≠[])(h15:keys.length<=15):PE X (.Dict keys ώ î) (tE X i Φ<|.dct es) :=
 (Fd h hall hl h0 h15).imp λσ H Q ⟨env,G,Qm,Em,p,w,c⟩=>by
  rw[O.q_e_dct]at w;unfold O.new at w;intro a ha;have w1:=w a<|p.hp.free ha;let⟨a',e,w2⟩:=eV w1;cases e;have k:=fo.new (o:=.dK []) ha;have p2:Pre X i σ (upd H a<|.dK []) env (O.upd G a<|.dct []) Em:=p.go k<|p.hp.put (o:=.dct []) k ⟨[],eS,.nil⟩;refine OI es he p2 w2 λvs G' H' xs k2 g2 rv hl w3=>?_;let⟨ks,e2,e3,w4⟩:=eV w3;let⟨ps,e4,r4⟩:=g2 a _ e3;cases r4;let⟨qs,h1,h2,h3⟩:=Ka rv e2;refine⟨e4,qs,h1,by lia,?_⟩;have k3:fo H'<|upd H' a<|.dK<|Xs [] qs:=fo.put (λxs e=>by rw[e4]at e;cases e) λp u e=>by rw[e4]at e;cases e
  exact c _ _ _ _ ((k.trans k2).trans k3) (g2.put (o:=.dct<|O.putAll [] ks) k3 ⟨_,eS,(RKs.merge .nil h2).keep k3⟩) (.ref a) w4
end Snd
namespace L2
open PySem PySem.Spec PyProof.Rows
section
variable {X:Cx}{Â:List (Ï×Obj)}{σ:St}{H:Hp}{s:Ç}{a:Ï}{o:Obj}{ps:List (Key×V)}
def Inv.freeze(I:Inv X Â σ H s)(e:H a=eM (.dK ps))(ho:s.heap.get? a=eM o):Inv X Â σ (upd H a<|.frz o<|.dK ps) s:=by have h:=I.hok a _ e;exact I.write (t':=s.toks) (x:=a) (e:=a) (h':=s.heap) (by rw[e];exact True.intro) (.inl rfl) (λ_ _ _ q=>q) ⟨o,ho⟩ ⟨ho,h⟩
def Inv.thaw(I:Inv X Â σ H s)(e:H a=eM (.frz o<|.dK ps))(h0:∀o u,X.H₀ a≠eM (.frz o u)):Inv X Â σ (upd H a<|.dK ps) s:=by
 have hn:∀b,H b=eN->upd H a (.dK ps) b=eN:=λb z=>by rw[eR<|by rintro rfl;rw[e]at z;cases z];exact z
 have ho:=I.hok a _ e;refine⟨I.ok,I.os,I.bare,⟨I.base.keep,I.base.slot,λb ob q n hx=>hn b<|I.base.free b ob q n hx,I.base.there,λb xs q=>?_,λb ob u q=>?_,λb qs q=>?_⟩,I.loc,I.cell,hn _ I.free,λx c q=>hn _<|I.freeC x c q,λp hp=>?_,λb u q=>?_,I.len⟩
 .have z:=I.base.tups b xs q;rw[eR<|by rintro rfl;rw[e]at z;cases z];exact z
 .have z:=I.base.frzs b ob u q;rw[eR<|by rintro rfl;exact h0 _ _ q];exact z
 .obtain⟨m,z⟩:=I.base.tbls b qs q;exact⟨m,by rw[eR<|by rintro rfl;rw[e]at z;cases z];exact z⟩
 .obtain⟨q1,q2,q3,q4,q5⟩:=I.pin p hp;exact⟨q1,hn _ q2,q3,q4,q5⟩
 .by_cases hb:b=a
  .subst hb;rw[eS]at q;cases q;exact ho.2
  .rw[eR hb]at q;refine(I.hok b u q).stay (λ_ _ _ q=>q) (λc z=>?_) λc xs z=>?_
   .rw[eR<|by rintro rfl;rw[e]at z;cases z];exact z
   .rw[eR<|by rintro rfl;rw[e]at z;cases z];exact z
end
abbrev Ends.thaw(X:Cx)(D:Ends):Ends where
 nx:=λσ H=>∃a o ps,H a=eM (.frz o<|.dK ps)/\(∀o u,X.H₀ a≠eM (.frz o u))/\D.nx σ (upd H a<|.dK ps)
 rt:=λv H=>∃a o ps,H a=eM (.frz o<|.dK ps)/\(∀o u,X.H₀ a≠eM (.frz o u))/\D.rt v (upd H a<|.dK ps)
 bk:=D.bk
 ct:=D.ct
variable {X:Cx}
def Fp{st:ň}{t:TS}(h:PS X st t):PS X st λD σ H=>t (D.thaw X) σ H:=λÂ s σ H D I q =>
 thn (h Â s σ H _ I q) λf s' z=>by
  cases f with
  |next =>let⟨ť,H',I',a,o,ps,e,h0,q⟩:=z;exact⟨ť,_,I'.thaw e h0,q⟩
  |ret u =>let⟨v,ť,H',I',r,a,o,ps,e,h0,q⟩:=z;exact⟨v,ť,_,I'.thaw e h0,r,q⟩
  |brk=>exact z
  |cont=>exact z
abbrev Iti(a:Ï)(o:Obj)(ps:List<|Key×V):It :=
 ⟨λi H=>H a=eM (.frz o<|.dK ps)/\i<ps.length,λi H v H'=>∃p k x,v=.ref p/\H p=eN/\ps[i]?=eM (k,x)/\H'=upd H p (.tup [kV k,x]),λi H=>H a=eM (.frz o<|.dK ps)/\ps.length<=i⟩
def DJ{k:Key}{u:Ã}(h:JQ k u=eP):RelV (kV k) u:=by
 rcases Zp h with⟨i,t,rfl,rfl⟩|⟨x,t,rfl,rfl⟩
 .exact⟨t,rfl⟩
 .exact⟨t,rfl⟩
def KV.at:∀{ps:List (Key×V)}{vs:List (Key×Ã)}{i:Nat}{k:Key}{x:V},KV ps vs->ps[i]?=eM (k,x)->∃u,vs[i]?=eM (k,u)/\RelV x u:=by
 intro ps vs i k x r;unfold KV at r;induction r generalizing i with
 |nil=>intro h;simp at h
 |@cons p q ps qs h t ih =>
  intro e;cases i with
  |zero =>simp at e;subst e;let⟨q1,q2⟩:=q;let⟨h1,h2⟩:=h;have h1:k=q1:=h1;subst h1;exact⟨q2,rfl,h2⟩
  |succ i=>simpa using ih ⇑e
section
variable {X:Cx}{Â:List (Ï×Obj)}{σ:St}{H:Hp}{s:Ç}{a:Ï}{o:Obj}{ps:List (Key×V)}{es:Array DictEntry}{ep:Nat}
def Wq(I:Inv X Â σ H s)(e:H a=eM (.frz o<|.dK ps))(hd:o.data=.dict es ep):∃vs,KV ps vs/\s.heap.DictAt (Zj X.prog X.w) a vs ep:=by
 let⟨ho,_,_,vs,ο,o2,es2,ep2,h1,h2,h3,h4⟩:=(show fb X.prog X.w H s.heap a (.frz o<|.dK ps) from I.hok a _ e)
 rw[ho]at h1;cases h1;rw[hd]at h3;cases h3;exact⟨vs,ο,o,es,ho,h2,hd,h4⟩
end
variable {P:ç} {w:þ} {es:List Expr} {kk:Nat} {tp:Pos} {ds:Array DictEntry} {ep:Nat} {o:Obj} {ps:List (Key×V)}
def OP{K:Frag}(a it:Ï)(hd:o.data=.dict ds ep) :
  Turn P w K (.Tuple es kk tp) (Iti a o ps) [it] it (λi h=>∃ok ov,IsItemIter h it a i ps.length ep ok ov) where
 mem:=by simp
 obj:=λi h st b hb=>by
  let⟨ok,ov,h1⟩:=st;have q:b=it:=⇑hb
  subst q;exact⟨_,h1,λv z=>by cases z⟩
 keep:=λi h h' ⟨ok,ov,h1⟩ k=>⟨ok,ov,k it (by simp) _ h1⟩
 item:=by
  intro X hP hw hK hc i Â s σ H E I hf st hg;subst hP hw hK;let⟨e,hi⟩:=hg;let⟨ok,ov,h1⟩:=st;let⟨vs,ο,da⟩:=Wq I e hd;have hl:ps.length=vs.length:=ο.length;have hx:ps[i]?=eM ps[i]:=É hi;let⟨u,hu,ru⟩:=ο.at (k:=ps[i].1) (x:=ps[i].2) hx;rw[hl]at h1;refine wpAny_pyNext_items_item h1 da hu λkey h3 hk hout hT hsz hkeep=>?_;have hfi:=hf it (by simp);have hit:it<s.heap.objs.size:=Ü h1;have nT:s.heap.objs.size≠it:=Ų hit;have bV:=I.fpOk (H':=H) (Ó s.heap.objs.size) I.fresh;refine⟨.ref s.heap.objs.size,rfl,wpAny_letOwnedTupleGo_items (s:={s with heap:=h3}) hout λh4 he4 hs4=>?_⟩;have I4:Inv X Â σ H {s with heap:=h4,toks:=s.toks}:=I.turnedL (t':=s.toks) (ch:=[it]) (λb ob hb q=>hs4.extBut b ob (λz=>hb<|by simp[z])<|hkeep b ob (λz=>hb<|by simp[z]) q) hf;have hT4:h4.get? s.heap.objs.size=eM {cls:=.type "tuple",data:=.seq #[key,u]}:=hs4.extBut _ _ nT hT;let⟨f0,f1,f2,f3,f4,f5⟩:=bV;have I5:Inv X Â σ (upd H s.heap.objs.size<|.tup [kV ps[i].1,ps[i].2]) {s with heap:=h4,toks:=s.toks}:=I4.track f0 I.sz f1 f4 f5 ⟨by show 2<=Ý;decide,[key,u],.cons (DJ hk)<|.cons ru .nil,_,hT4,rfl,_,rfl⟩;refine⟨.ref s.heap.objs.size,_,I5,rfl,⟨s.heap.objs.size,_,_,rfl,f0,hx,rfl⟩,⟨key,u,by rw[hl];exact he4⟩,λb hb=>?_⟩;have q:b=it:=⇑hb
  subst q;rw[eR nT.symm];exact hfi.1
 done:=by
  intro X hP hw hK hc i Â s σ H E I hf st hg;subst hP hw hK;let⟨e,hi⟩:=hg;let⟨ok,ov,h1⟩:=st;let⟨vs,ο,da⟩:=Wq I e hd;have hl:ps.length=vs.length:=ο.length;rw[hl]at h1 hi;refine wpAny_pyNext_items_end (I.ok.hd hc) h1 da (Ń hi) λh' he'=>⟨rfl,?_⟩
  exact I.turnedL (t':=s.toks) (ch:=[it]) (λb ob hb q=>he' b ob (λz=>hb<|by simp[z]) q) hf
 self:=λA i s Q E st h=>by let⟨ok,ov,h1⟩:=st;exact PySem.W.kcp_self h1 h
abbrev Itk(a:Ï)(o:Obj)(ps:List<|Key×V):It :=
 ⟨λi H=>H a=eM (.frz o<|.dK ps)/\i<ps.length,λi H v H'=>H'=H/\∃k x,ps[i]?=eM (k,x)/\v=kV k,λi H=>H a=eM (.frz o<|.dK ps)/\ps.length<=i⟩
variable {tg:Expr}
def BB{K:Frag}(a it:Ï)(hd:o.data=.dict ds ep) :
  Turn P w K tg (Itk a o ps) [it] it (λi h=>h.IsKeyIter it a i ps.length ep) where
 mem:=by simp
 obj:=λi h st b hb=>by
  let⟨ob,h1,_,h2⟩:=st;have q:b=it:=⇑hb
  subst q;exact⟨ob,h1,λv z=>by rw[h2]at z;cases z⟩
 keep:=λi h h' st k=>st.at λo e=>k it (by simp) o e
 item:=by intro X hP hw hK hc i Â s σ H E I hf st hg;subst hP hw hK;let⟨e,hi⟩:=hg;let⟨vs,ο,da⟩:=Wq I e hd;have hl:ps.length=vs.length:=ο.length;have hx:ps[i]?=eM ps[i]:=É hi;let⟨u,hu,ru⟩:=ο.at (k:=ps[i].1) (x:=ps[i].2) hx;rw[hl]at st;refine wpAny_pyNext_dict_item st da hu λkey h3 hk st3 hs=>?_;have I3:Inv X Â σ H {s with heap:=h3,toks:=s.toks}:=I.turnedL (t':=s.toks) (ch:=[it]) (λb ob hb q=>hs.extBut b ob (λz=>hb<|by simp[z]) q) hf;let⟨ob,ho,aX,hda⟩:=id st3;refine⟨key,rfl,eW (s:={s with heap:=h3,toks:=s.toks}) ho aX hda (by decide) ⟨kV ps[i].1,H,I3,DJ hk,⟨rfl,_,_,hx,rfl⟩,?_,λb hb=>(hf b hb).1⟩⟩;show h3.IsKeyIter it a (i+1) ps.length ep;rw[hl];exact st3
 done:=by
  intro X hP hw hK hc i Â s σ H E I hf st hg;subst hP hw hK;let⟨e,hi⟩:=hg;let⟨vs,ο,da⟩:=Wq I e hd;have hl:ps.length=vs.length:=ο.length;rw[hl]at st hi;refine wpAny_pyNext_dict_end (I.ok.hd hc) st da (Ń hi) λh' he'=>⟨rfl,?_⟩
  exact I.turnedL (t':=s.toks) (ch:=[it]) (λb ob hb q=>he' b ob (λz=>hb<|by simp[z]) q) hf
 self:=λA i s Q E st h=>wpAny_pyIter_keyiter st h
abbrev Ik(X:Cx)(J:Ï->Obj->List (Key×V)->It)(td:TE):TI:=λσ H R=>td σ H λx H1=>∃a ps,x=.ref a/\H1 a=eM (.dK ps)/\∀o,(∀o u,X.H₀ a≠eM (.frz o u))->R (J a o ps) (upd H1 a<|.frz o<|.dK ps)
variable {d:Expr} {td:TE}
def DD{Ŗ ś:Pos}(hd:PE X d td)(aQ:ĝ d "items" X.env (eval d X.env)=eval d X.env)(aR:(Ŗ.endLine==ś.line)=eP) :
  PI X (.Tuple es kk tp) (.Call (.Attribute d "items" Ŗ) [] [] ś) (Ik X Iti td):=by
 intro Â s σ H R I h;refine wpAny_Call_method0_late aQ aR<|thn (hd Â s σ H _ I h) λv s1 ⟨x,H1,I1,r1,a,ps,ex,ea,q1⟩=>?_;subst ex;obtain rfl:v=Value.ref a:=r1;let⟨t1,t2,t3⟩:=Li I1<|.inl ⟨ps,.inl ea⟩;refine⟨"dict","dict.items",PySem.F.plainAttrs_dict,PySem.F.slot_dict_items,PySem.F.type_dict_items,t1,t2,Calls.callWith_builtin rfl<|PySem.evalArgs_none ?_⟩;let⟨z,hsm,vs,ο,dd⟩:=JT I1.hok ea;refine ϯ PySem.F.slot_dict_items dd.typeIs PySem.F.entry_dict_items (PySem.F.args_dict_items_1 _) (meets_dict_items (Zj X.prog X.w) a hsm) ⟨⟨vs,dd⟩,?_⟩;have I2:Inv X Â σ H1 {s1 with heap:=s1.heap.push {cls:=.type "dict_items",data:=.fields #[.ref a]}}:=I1.kept (t':=s1.toks) λb o e=>Å _ e;let⟨z2,hsm2,vs2,rel2,cZ⟩:=JT I2.hok ea;let⟨ep,da⟩:=cZ.dictAt;refine wpAny_pyIter_items (s:={s1 with heap:=s1.heap.push {cls:=.type "dict_items",data:=.fields #[.ref a]}}) (d:=a) ⟨_,Ù _ rfl,rfl,rfl⟩ da ?_;have I3:=I2.kept (t':=s1.toks) (h':=(s1.heap.push {cls:=.type "dict_items",data:=.fields #[.ref a]}).push {cls:=.type "dict_itemiterator",data:=.fields #[.none,.bool eQ,.ref a,.int 0 0,.int vs2.length 0,.int ep 0,.none,.none]}) λb o e=>Å _ e;let⟨ob,ds,ho,_,hdat,_⟩:=da;have I4:=I3.freeze ea<|Å _ ho;refine⟨_,[_],_,_,_,rfl,I4,OP a _ hdat,⟨.none,.none,?_⟩,λb hb=>?_,q1 ob λo u z=>by have:=I1.base.frzs a o u z;rw[ea]at this;cases this⟩
 .rw[rel2.length];exact Ù _ rfl
 .have e:b=(s1.heap.push {cls:=.type "dict_items",data:=.fields #[.ref a]}).objs.size:=⇑hb
  subst e;have hn:=I2.hok.fresh<|Ó (s1.heap.push {cls:=.type "dict_items",data:=.fields #[.ref a]}).objs.size;exact I2.fpOk (Ó _) (by rw[eR<|by intro z;rw[z]at hn;rw[ea]at hn;cases hn];exact hn)
def FS(hd:PE X d td):PI X tg d<|Ik X Itk td:=by
 intro Â s σ H R I h;refine thn (hd Â s σ H _ I h) λv s1 ⟨x,H1,I1,r1,a,ps,ex,ea,q1⟩=>?_;subst ex;obtain rfl:v=Value.ref a:=r1;let⟨z,hsm,vs,ο,dd⟩:=JT I1.hok ea;let⟨ep,da⟩:=dd.dictAt;refine wpAny_pyIter_dict hsm da ?_;have I2:=I1.kept (t':=s1.toks) (h':=s1.heap.push {cls:=.type "dict_keyiterator",data:=.fields #[.ref a,.int 0 0,.int vs.length 0,.int ep 0]}) λb o e=>Å _ e;let⟨ob,ds,ho,_,hdat,_⟩:=da;have I3:=I2.freeze ea<|Å _ ho;refine⟨_,[_],_,_,_,rfl,I3,BB a _ hdat,⟨_,Ù _ rfl,rfl,by rw[ο.length];rfl⟩,λb hb=>?_,q1 ob λo u z=>by have:=I1.base.frzs a o u z;rw[ea]at this;cases this⟩;have e:b=s1.heap.objs.size:=⇑hb
 subst e;have hn:=I1.hok.fresh<|Ó s1.heap.objs.size;exact I1.fpOk (Ó _) (by rw[eR<|by intro z;rw[z]at hn;rw[ea]at hn;cases hn];exact hn)
abbrev TupsH(I S:Ï)(items:Array Ã)(val:Nat->List Int)(h:Ĉ):Prop:=∀i v,items[i]?=eM v->∃a õ,v=.ref a/\a≠I/\a≠S/\aY h a õ/\Ā õ.toList (val i)
def TupsH.keep{I S:Ï}{items:Array Ã}{val:Nat->List Int}{h h':Ĉ}(t:TupsH I S items val h)(k:∀b o,b≠I->b≠S->h.get? b=eM o->h'.get? b=eM o):TupsH I S items val h':=λi v e=>by let⟨a,õ,h1,h2,h3,⟨o,q1,q2⟩,h5⟩:=t i v e;exact⟨a,õ,h1,h2,h3,⟨o,k a o h2 h3 q1,q2⟩,h5⟩
abbrev btL(val:Nat->List Int)(i j:Nat):Bool:=HT.lexLt (val i)<|val j
section
variable {prog:ç}{w:þ}{A:ĉ}{R:bz->Ç->Prop}{I l:Ï}{items:Array Ã}{val:Nat->List Int}{kw:List (Str×Ã)}{fp:List Ï}{St:Nat->Ĉ->Prop}
def AR(W:Walks prog w A.in1 I fp [I] items.size (λi v=>items[i]?=eM v) St)(hu:A.units+1<Ķ)(S:Ï)(hSI:S≠I)(hSf:S∉fp) :
  ∀(k j:Nat) (s:Ç) (vb:Ã) (c:Nat),items.size - (j+1)=k->j+1<=items.size->St (j+1) s.heap->TupsH I S items val s.heap->items[Ļ (btL val) j]?=eM vb->
  s.heap.get? S=eM {cls:=.type "list",dict:=eN,data:=.seq #[vb,vb] c,slots:=#[]}->
  (∀v h' tk,items[Ļ (btL val)<|items.size - 1]?=eM v->(∀b o,b≠I->b≠S->s.heap.get? b=eM o->h'.get? b=eM o)->R (.ok<|.ret v) {s with heap:=h',toks:=tk})->
  codeAny (à prog w) A (.builtin "min.loop" ⟨[.ref I,.none,.ref S],kw⟩) R s:=by
 have bw:(toString "min" ++ toString ".loop" : String) = "min.loop":=by decide
 have hSw:S∉[I]:=by simp[hSI]
 intro k;induction k with
 |zero =>
  intro j s vb c hk hj Δ hT hPb hS hR;have hin:j+1=items.size:=by lia
  refine Į PySem.F.entry_min_loop ?_;rw[ċ PySem.F.plain_min_loop _];show wpAny _ A.in1 (aw (.ref S) >>= _) _ _ s;refine Á<|Š hS rfl ?_;show wpAny _ A.in1 (tryCatch (Ϝ<|.ref I) _ >>= _) _ _ s;refine Á<|ό<|W.done s _ _ (hin▸Δ) λh' tk bu=>?_;have hS':=bu S _ hSw hS;show wpAny _ A.in1 (dL S (λ_=>#[]) >>= _) _ _ _;refine Á ?_;refine Τ hS' rfl<|Á<|bP<|È ?_;refine hR vb _ tk (by rw[<-hin];exact hPb) λb o hbw dU e=>(ð _ _<|Ne.symm dU).trans (bu b o ⇑hbw e)
 |succ k ih =>
  intro j s vb c hk hj Δ hT hPb hS hR;have Ϡ:j+1<items.size:=by lia
  refine Į PySem.F.entry_min_loop ?_;rw[ċ PySem.F.plain_min_loop _];show wpAny _ A.in1 (aw (.ref S) >>= _) _ _ s;refine Á<|Š hS rfl ?_;show wpAny _ A.in1 (tryCatch (Ϝ<|.ref I) _ >>= _) _ _ s;refine Á<|ό<|W.item (j+1) s _ _ Ϡ Δ λv h' tk hP hst' bu=>?_;have hS':=bu S _ hSw hS;have dW:TupsH I S items val h':=hT.keep λb o h1 _ e=>bu b o ⇑h1 e;have hP:items[j+1]?=eM v:=hP;let⟨a,õ,rfl,_,_,pa,ia⟩:=dW _ _ hP;let⟨b0,Ϲ,rfl,_,_,pb,ib⟩:=dW _ _ hPb;show wpAny _ A.in1 (tryCatch (Ŝ [.ref a,.ref a]<|ï .Lt (.ref a) (.ref b0) >>= _) _ >>= _) _ _ _;refine Á<|ό<|Ĝ<|Á<|HT.lt_tupInts pa pb ia ib hu ?_;refine Á<|Ĝ<|Č ?_;refine Á<|bP<|È ?_;cases hb:HT.lexLt (val<|j+1) (val<|Ļ (btL val) j)with
  |true =>
   have aP:btL val (j+1) (Ļ (btL val) j)=eP:=hb;simp only[if_true];refine Á ?_;refine Τ hS' rfl<|Á<|bP ?_;rw[bw];refine È ⟨ř PySem.F.plain_min_loop _,ih (j+1) _ (.ref a) _ (by lia) Ϡ (W.frame _ _ _ hst' λb hbf o e=>?_) (dW.keep λb o _ h2 e=>(ð _ _<|Ne.symm h2).trans e) (by simp only[Ļ,aP,if_true];exact hP) (Ė _ hS' rfl)
     λv' h'' tk'' hP' hk''=>?_⟩
   .exact(ð _ _ λh:S=b=>hSf<|by rw[h];exact hbf).trans e
   .exact hR v' h'' tk'' hP' λb o hbw dU e=>hk'' b o hbw dU ((ð _ _<|Ne.symm dU).trans<|bu b o ⇑hbw e)
  |false =>have aP:btL val (j+1) (Ļ (btL val) j)=eQ:=hb;simp only[Ĭ,if_false];refine Á<|bP ?_;rw[bw];refine È ⟨ř PySem.F.plain_min_loop _,ih (j+1) _ (.ref b0) c (by lia) Ϡ hst' dW (by simp only[Ļ,aP,Ĭ,if_false];exact hPb) hS' λv' h'' tk'' hP' hk''=>?_⟩;exact hR v' h'' tk'' hP' λb o hbw dU e=>hk'' b o hbw dU (bu b o ⇑hbw e)
variable {s:Ç} {c:Nat}
def Ug(W:Walks prog w A.in1 I fp [I] items.size (λi v=>items[i]?=eM v) St)(hu:A.units+1<Ķ)(S:Ï)(hSI:S≠I)(hSf:S∉fp)(hn:0<items.size)(Δ:St 0 s.heap)(hT:TupsH I S items val s.heap)
  (hS:s.heap.get? S=eM {cls:=.type "list",dict:=eN,data:=.seq #[] c,slots:=#[]})
  (hR:∀v h' tk,items[Ļ (btL val)<|items.size - 1]?=eM v->(∀b o,b≠I->b≠S->s.heap.get? b=eM o->h'.get? b=eM o)->R (.ok<|.ret v) {s with heap:=h',toks:=tk}) :
  codeAny (à prog w) A (.builtin "min.loop" ⟨[.ref I,.none,.ref S],kw⟩) R s:=by
 have bw:(toString "min" ++ toString ".loop" : String) = "min.loop":=by decide
 have hSw:S∉[I]:=by simp[hSI]
 refine Į PySem.F.entry_min_loop ?_;rw[ċ PySem.F.plain_min_loop _];show wpAny _ A.in1 (aw (.ref S) >>= _) _ _ s;refine Á<|Š hS rfl ?_;show wpAny _ A.in1 (tryCatch (Ϝ<|.ref I) _ >>= _) _ _ s;refine Á<|ό<|W.item 0 s _ _ hn Δ λv h' tk hP hst' bu=>?_;have hS':=bu S _ hSw hS;have dW:TupsH I S items val h':=hT.keep λb o h1 _ e=>bu b o ⇑h1 e;show wpAny _ A.in1 (dL S (λ_=>#[v,v]) >>= _) _ _ _;refine Á ?_;refine Τ hS' rfl ?_;rw[bw];refine È ⟨ř PySem.F.plain_min_loop _,AR W hu S hSI hSf _ 0 _ v _ rfl hn (W.frame _ _ _ hst' λb hbf o e=>?_) (dW.keep λb o _ h2 e=>(ð _ _<|Ne.symm h2).trans e) hP (Ė _ hS' rfl) λv' h'' tk'' hP' hk''=>?_⟩
 .exact(ð _ _ λh:S=b=>hSf<|by rw[h];exact hbf).trans e
 .exact hR v' h'' tk'' hP' λb o hbw dU e=>hk'' b o hbw dU ((ð _ _<|Ne.symm dU).trans<|bu b o ⇑hbw e)
def Bx(hh:A.handled=eN)(hlI:l≠I)(S:Ï)(hSI:S≠I)(hn:items.size=0){nm:Str}{d:Ã}(Δ:s.heap.IsListIter I l 0/\s.heap.IsList l items)
  (hS:s.heap.get? S=eM {cls:=.type "list",dict:=eN,data:=.seq #[] c,slots:=#[]})
  (hR:∀h' tk,(∀b o,b≠I->s.heap.get? b=eM o->h'.get? b=eM o)->R (.ok<|.ret d) {s with heap:=h',toks:=tk}) :
  codeAny (à prog w) A (.builtin "min.loop" ⟨[.ref I,.none,.ref S],[(nm,d)]⟩) R s:=by
 have W:=Walks.list (prog:=prog) (w:=w) (A:=A.in1) hh I l hlI items;refine Į PySem.F.entry_min_loop ?_;rw[ċ PySem.F.plain_min_loop _];show wpAny _ A.in1 (aw (.ref S) >>= _) _ _ s;refine Á<|Š hS rfl ?_;show wpAny _ A.in1 (tryCatch (Ϝ<|.ref I) _ >>= _) _ _ s;refine Á (ό<|W.done s _ _ (by rw[hn];exact Δ) λh' tk bu=>?_);show wpAny _ A.in1 (rule _ >>= λ_=>ret d) _ _ _;exact Á (ϭ<|È<|hR h' tk λb o hb e=>bu b o ⇑hb e)
end
def BO(a:Ã):cD "min" ⟨[a],[(gD "default",.none)]⟩:=by unfold cD;kernel_rfl
def Jy(bt:Nat->Nat->Bool):∀k,Ļ bt k<=k
 |0=>Ó _
 |k+1=>by
  unfold Ļ;split
  .exact Ó _
  .exact Nat.le_succ_of_le<|Jy bt k
def MP:∀{xs:List V}{us:List Ã}{i:Nat}{u:Ã},gg xs us->us[i]?=eM u->∃x,xs[i]?=eM x/\RelV x u
 |_,_,_,_,.nil,e=>by simp at e
 |_,_,0,_,.cons r _,e=>by simp at e;subst e;exact⟨_,rfl,r⟩
 |_,_,i+1,_,.cons _ t,e=>by let⟨x,h1,h2⟩:=MP (i:=i) t ⇑e;exact⟨x,⇑h1,h2⟩
section
variable {X:Cx}
def Bl{Â:List (Ï×Obj)}{s:Ç}{σ:St}{H:Hp}{a:Ï}{xs:List V}{ĕ:List (List Int)}{Q:VK}(hc:X.calm=eP)(hu:X.A.units+1<Ķ)(I:Inv X Â σ H s)(hl:fZ X.K H a xs)(hr:ĕ.length=xs.length)
  (ht:∀i,i<ĕ.length->∃p,xs[i]?=eM (.ref p)/\gf X.K H p ((ĕ.getD i []).map V.int))
  (q0:xs=[]->Q .non H) (q1:xs≠[]->∀x,xs[Ļ (btL λi=>ĕ.getD i [])<|xs.length - 1]?=eM x->Q x H) :
  wpAny (à X.prog X.w) X.A (call (.builtin "min") [.ref a] [(gD "default",.none)]) (EP X Â σ Q) X.xe s:=by
 have bw:(toString "min" ++ toString ".loop" : String) = "min.loop":=by decide
 let⟨õ,rv,pl,hz⟩:=I.list hl;have hlen:=rv.length;have dA:=pl.isList;let⟨ol,hol,_⟩:=id dA;have hll:a<s.heap.objs.size:=Ü hol;refine PyProof.Rows.kmk_tree PySem.F.kind_min PySem.F.plain_min PySem.F.entry_min (BO _) ?_;show wpAny _ X.A.in1 (Builtin.Builtins.bindParams "min" ["key","default"] 0 ⟨[],[(gD "default",.none)]⟩ >>= _) _ _ s;refine Á (bL (show Builtin.Builtins.bindParams "min" ["key","default"] 0 ⟨[],[(gD "default",.none)]⟩=pure [eN,eM .none] from rfl) ?_);refine Á<|È ?_;refine Á<|ϖ dA ?_;refine Á<|dq ?_<|ĳ _;rw[bw];have hS:(s.heap.push {cls:=.type "list_iterator",data:=.fields #[.ref a,.int 0 0]}).objs.size=s.heap.objs.size+1:=size_push' ..;have hlI:a≠s.heap.objs.size:=é hll;have hSI:(s.heap.push {cls:=.type "list_iterator",data:=.fields #[.ref a,.int 0 0]}).objs.size≠s.heap.objs.size:=by rw[hS];exact Ų<|ē _
 have hSl:(s.heap.push {cls:=.type "list_iterator",data:=.fields #[.ref a,.int 0 0]}).objs.size≠a:=by rw[hS];exact Ų<|Ĺ hll
 have kk:∀b o,s.heap.get? b=eM o->((s.heap.push {cls:=.type "list_iterator",data:=.fields #[.ref a,.int 0 0]}).push<|ϊ "list" #[] 0).get? b=eM o:=λb o e=>Å _<|Å _ e;have gI:((s.heap.push {cls:=.type "list_iterator",data:=.fields #[.ref a,.int 0 0]}).push<|ϊ "list" #[] 0).get? s.heap.objs.size=eM {cls:=.type "list_iterator",data:=.fields #[.ref a,.int 0 0]} :=
  Å _ (Ù _ rfl)
 have gS:((s.heap.push {cls:=.type "list_iterator",data:=.fields #[.ref a,.int 0 0]}).push<|ϊ "list" #[] 0).get? (s.heap.push {cls:=.type "list_iterator",data:=.fields #[.ref a,.int 0 0]}).objs.size=eM (ϊ "list" #[] 0):=Ù _ rfl;have ϵ:∀b o,s.heap.get? b=eM o->b≠s.heap.objs.size/\b≠(s.heap.push {cls:=.type "list_iterator",data:=.fields #[.ref a,.int 0 0]}).objs.size:=λb o e=>by have:=Ü e;rw[hS];exact⟨é this,é<|Ĺ this⟩
 have Δ:Heap.IsListIter ((s.heap.push {cls:=.type "list_iterator",data:=.fields #[.ref a,.int 0 0]}).push<|ϊ "list" #[] 0) s.heap.objs.size a 0/\Heap.IsList ((s.heap.push {cls:=.type "list_iterator",data:=.fields #[.ref a,.int 0 0]}).push<|ϊ "list" #[] 0) a õ.toArray:=by refine⟨⟨_,gI,rfl,rfl⟩,?_⟩;let⟨o,e,r⟩:=dA;exact⟨o,kk _ _ e,r⟩
 refine È ⟨ř PySem.F.plain_min_loop _,?_⟩;by_cases h0:xs=[]
 .have hi:õ.toArray.size=0:=by rw[Ð,<-hlen,h0];rfl
  refine Bx (I:=s.heap.objs.size) (A:=X.A) (l:=a) (items:=õ.toArray) (I.ok.hd hc) hlI _ hSI hi Δ gS λh' tk hk=>?_;exact⟨.non,H,I.kept (t':=tk) λb o e=>hk b o (ϵ b o e).1<|kk b o e,rfl,q0 h0⟩
 .have hi:0<õ.toArray.size:=by
   rw[Ð,<-hlen];exact ϳ.mpr h0
  refine Ug (A:=X.A) (items:=õ.toArray) (val:=λi=>ĕ.getD i []) (Walks.list (A:=X.A.in1) (I.ok.hd hc) s.heap.objs.size a hlI õ.toArray) hu _ hSI (λz=>(Æ.mp z).elim hSI λz=>hSl<|á.mp z) hi Δ (λi v e=>?_) gS λv h' tk hv hk=>?_
  .have e:õ[i]?=eM v:=⇑e
   have hi':i<ĕ.length:=by rw[hr,hlen];exact(Ì.mp e).1
   let⟨p,cp,hp2⟩:=ht i hi';let⟨x,hx,rx⟩:=MP rv e;rw[cp]at hx;cases hx;obtain rfl:v=Value.ref p:=rx;let⟨tt,r2,⟨o2,e2,rest⟩,_⟩:=I.tuple hp2;exact⟨p,tt.toArray,rfl,(ϵ p o2 e2).1,(ϵ p o2 e2).2,⟨o2,kk _ _ e2,rest⟩,ZT r2⟩
  .have hv:õ[Ļ (btL λi=>ĕ.getD i [])<|xs.length - 1]?=eM v:=by rw[hlen];simpa using hv
   let⟨x,hx,rx⟩:=MP rv hv;exact⟨x,H,I.kept (t':=tk) λb o e=>hk b o (ϵ b o e).1 (ϵ b o e).2<|kk b o e,rx,q1 h0 x hx⟩
abbrev Qk(K:Frag)(ta:TA):TE:=λσ H Q=>ta σ H λvs H1=>∃a xs,∃ĕ:List<|List Int,vs=[.ref a]/\fZ K H1 a xs/\ĕ.length=xs.length/\
 (∀i,i<ĕ.length->∃p,xs[i]?=eM (.ref p)/\gf K H1 p ((ĕ.getD i []).map V.int))/\(xs=[]->Q .non H1)/\(xs≠[]->∀x,xs[Ļ (btL λi=>ĕ.getD i [])<|xs.length - 1]?=eM x->Q x H1)
def Gu{e:Expr}{ta:TA}{p î kp kpos:Pos}{kk:Nat}(hc:X.calm=eP)(hu:X.A.units+1<Ķ)(hg:Gl X "min")(hm:X.mg "min" = eN)(ha:PA X [e] ta)(hs:ß [e] X.env=[(eQ,eval e X.env)]) :
  PE X (.Call (.Name "min" p) [e] [⟨eM "default",.Constant .none kk kp,kpos⟩] î) (Qk X.K ta):=by
 intro Â s σ H Q I h;refine Ĵ (Xp (u:=.builtin "min") I hg hm (by kernel_rfl) ?_);refine PyProof.Rows.callWith_kw (e:=e) (rest:=[]) ?_ (by rw[hs];rfl) (by rw[hs];rfl) rfl rfl;refine thn (ha î Â s σ H _ I h) λus s1 ⟨vs,H1,I1,r1,a,xs,ĕ,ev,hl,hr,ht,q0,q1⟩=>?_;subst ev;let⟨u,rfl,ru⟩:=Yo r1;cases ru;refine PyProof.Rows.kws_cons<|thn (EM Â s1 σ H1 (λv H2=>v=.non/\H2=H1) I1 ⟨rfl,rfl⟩) λv s2 ⟨x,H2,I2,r2,e1,e2⟩=>PyProof.Rows.kws_nil ?_;subst e1 e2;obtain rfl:v=Value.none:=r2;exact Bl hc hu I2 hl hr ht q0 q1
def Ws{P:ç}{w:þ}:∀{ns:List Int}{vs:List (Key×Ã)}{į:List Ã},vs.map (·.1)=ns.map Sum.inl->į.length=vs.length->(∀(j:Nat) (v:Ã),į[j]?=eM v->∃(k:Key) (x:Ã),vs[j]?=eM (k,x)/\(Zj P w).is k v=eP)->Ā į ns
 |[],[],[],_,_,_=>.nil
 |[],_::_,_,h,_,_=>by cases h
 |_::_,[],_,h,_,_=>by cases h
 |[],[],_::_,_,h,_=>by cases h
 |_::_,_::_,[],_,h,_=>by cases h
 |n::ns,p::vs,u::į,h1,h2,h3=>by rw[Î,Î]at h1;injection h1 with h1 h1';let⟨k,x,e1,e2⟩:=h3 0 u rfl;simp at e1;subst e1;have h1:k=Sum.inl n:=h1;subst h1;obtain⟨t,rfl⟩:∃t,u=Value.int n t:=DJ (k:=Sum.inl n) (u:=u) e2;exact .cons n t (Ws (P:=P) (w:=w) h1' ⇑h2 λj v e=>by simpa using h3 (j+1) v ⇑e)
def NA(hc:X.calm=eP):eZ X (.builtin "sorted") (λxs H Q=>∃p kvs,∃ns:List Int,xs=[.ref p]/\Rd H p (.dK kvs)/\kvs.map (·.1)=ns.map Sum.inl/\ns.length<64/\∀l,H l=eN->Q (.ref l) (upd H l<|.lst<|(sortI ns).map V.int)):=by
 intro Â s σ H xs us Q I r h;let⟨p,kvs,ns,rfl,hp,hk,h64,q⟩:=h;let⟨u,rfl,rx⟩:=Yo r;cases rx;let⟨z,hsm,vs,ο,dd⟩:=Wn I.hok hp;let⟨ep,da⟩:=dd.dictAt;have hlen:vs.length=ns.length:=by have:=congrArg List.length hk;simpa[ο.length]using this
 refine Calls.call_function_entry kind_sorted plain_sorted entry_sorted (args_sorted1 _) ?_;unfold Builtin.«sorted»;refine Á (m:=checkCount "sorted" 1 1 _)<|È ?_;refine Á (PySem.W.kdu_collect (A:=X.A.in1) (PySem.W.kdl_dict (knd:=Zj X.prog X.w) (kvs:=vs) (ep:=ep) hsm) (I.ok.hd hc) da (by rw[<-ο.length];exact z) λh' tk į hkeep hacc=>?_);have hl:į.toList.length=vs.length:=by rw[ò];exact hacc.1
 refine Á (dq ?_<|by rw[hl,<-ο.length];exact z);have hI:Ā į.toList ns:=Ws (P:=X.prog) (w:=X.w) (by rw[<-ο.keys];exact hk) hl λj v e=>hacc.2 j v (by rw[<-Ă];exact e);have hoL:(h'.push<|ϊ "list" į.toList.toArray 0).get? h'.objs.size=eM (ϊ "list" į.toList.toArray 0):=Ù _ rfl;have I1:Inv X Â σ H {s with heap:=h',toks:=tk}:=I.kept hkeep;refine Á (Ĝ<|Ģ slot_list_sort ⟨_,hoL,rfl⟩ entry_list_sort (list_sort_tree hoL hI (by rw[hl,hlen];exact h64) λout ck a1 a2 a3=>⟨_,rfl,?_⟩)<|args_list_sort _);have e:=YH a2 a3;subst e;let⟨n,he⟩:=sortedHeap_at (out:=out) hoL;refine È ⟨_,rfl,.ref h'.objs.size,_,I1.laid (a:=h'.objs.size) (o:=.lst<|(sortI ns).map V.int) (t':=tk) (λb o e=>?_) (Ó _) ?_,rfl,q _<|I1.hok.fresh<|Ó _⟩
 .have e:h'.get? b=eM o:=e;have hb:=Ü e;rw[sortedHeap_old (é hb)<|by rw[size_push'];exact Ĺ hb];exact Å _ e
 .exact⟨by rw[À,YO];unfold Ý;lia,out.toList,n,YN a1,by simpa[ϊ]using he⟩
end
end L2
namespace Srt
open PySem.W PyProof.Rows
abbrev ok(n:Nat)(lt:Nat->Nat->Bool){α:Type}:KasT α->(α->Prop)->Prop
 |.ret a,Q=>Q a
 |.ask i j k,Q=>i<n/\j<n/\ok n lt (k<|lt i j) Q
section
variable {n:Nat}{lt:Nat->Nat->Bool}
abbrev K(p:Array Nat)(k:Nat):Nat:=p.getD k 0
end
end Srt
namespace Snd
open PySem L2
variable {i:Inf}{X:Cx}{Φ:O.Fs}
def N4{H:Hp}:∀{kvs:List (O.Val×O.Val)}{ps:List (Key×V)}{ns:List Int},RKs i.K H kvs ps->O.keysOf kvs=eM ns->ps.map (·.1)=ns.map Sum.inl
 |_,_,ns,.nil,e=>by have e:eM []=eM ns:=e;cases e;rfl
 |(k,v)::kvs,_,ns,.cons (c:=c) hk _ t,e=>by
  have e:O.eY (k::kvs.map (·.1))=eM ns:=e;cases k with
  |int j =>
   have e:(O.eY (kvs.map (·.1))).map (j :: ·)=eM ns:=e;let⟨ms,z,rfl⟩:=Ä.mp e;have ih:=N4 (ns:=ms) t z;cases c with
   |inl l =>have hk:j=l:=hk;subst hk;rw[Î,Î,ih]
   |inr _=>exact(show False from hk).elim
  |_=>cases e
def Ms:∀{ys:List O.Val}{ns:List Int},O.eY ys=eM ns->ys=ns.map .int
 |[],_,e=>by cases e;rfl
 |y::ys,ns,e=>by
  cases y with
  |int j =>let⟨ms,z,rfl⟩:=Ä.mp (show(O.eY ys).map (j :: ·)=eM ns from e);rw[Î,<-Ms z]
  |_=>cases e
def NE{H:Hp}:∀{xs:List O.Val}{us:List V}{ĕ:List (List Int)},RVs i.K H xs us->O.rowsOf xs=eM ĕ->ĕ.length=us.length/\(∀n,n<ĕ.length->∃p,us[n]?=eM (.ref p)/\gf i.K H p ((ĕ.getD n []).map V.int))/\xs=ĕ.map λr=>.tup (r.map .int)
 |_,_,ĕ,.nil,e=>by have e:eM []=eM ĕ:=e;cases e;exact⟨rfl,λn h=>gB h<|Nat.not_lt_zero _,rfl⟩
 |v::xs,_,ĕ,.cons r t,e=>by
  cases v with
  |tup ys =>
   let⟨ns,z1,e⟩:=ê.mp (show(O.eY ys).bind (λns=>(O.rowsOf xs).map (ns :: ·))=eM ĕ from e);let⟨rs,z2,rfl⟩:=Ä.mp e;let⟨h1,h2,h3⟩:=NE t z2;cases r with
   |tup hp hr =>
    have:=ZS z1 hr;subst this;refine⟨by rw[Ò,Ò,h1],λn hn=>?_,?_⟩
    .cases n with
     |zero=>exact⟨_,rfl,Zn hp⟩
     |succ n=>exact h2 n ⇑hn
    .rw[Î,<-h3];have:ys=ns.map .int:=Ms z1;rw[this]
  |_=>cases e
def O7:O3 i .sortedI (λxs H Q=>(∃p,∃ns:List Int,xs=[.ref p]/\fZ i.K H p (ns.map V.int)/\ns.length<64/\∀l,H l=eN->Q (.ref l) (upd H l<|.lst<|(L2.sortI ns).map V.int))\/
    (∃p kvs,∃ns:List Int,xs=[.ref p]/\Rd H p (.dK kvs)/\kvs.map (·.1)=ns.map Sum.inl/\ns.length<64/\∀l,H l=eN->Q (.ref l) (upd H l<|.lst<|(L2.sortI ns).map V.int))):=by
 intro vs G H xs Q Qm g r w c;let⟨v,rfl,w⟩:=WE w;let⟨x,rfl,rx⟩:=r.inv1;have key:∀(ns:List Int),(if ns.length<64 then O.Rs.new (.lst<|(O.sortI ns).map .int)else .no).wp G Qm->ns.length<64/\∀l,H l=eN->Q (.ref l) (upd H l<|.lst<|(L2.sortI ns).map V.int):=λns w=>by
  split at w
  .rename_i h64;exact⟨h64,Yw g (MQ w) c λp hp=>⟨_,eS,RVs.ints _⟩⟩
  .exact(Zq w).elim
 cases v with
 |ref a =>
  cases rx.ref_inv
  replace w:(O.biSortedI G<|.ref a).wp G Qm:=w
  unfold O.biSortedI O.sortAny at w;dsimp only at w;cases z:G a with
  |none=>rw[z]at w;exact(Zq w).elim
  |some o =>
   rw[z]at w;cases o with
   |lst ys =>
    cases z2:O.eY ys with
    |none=>simp only[z2]at w;exact(Zq w).elim
    |some ns =>simp only[z2]at w;let⟨us,h1,h2⟩:=g a _ z;have:=ZS z2 h2;subst this;exact .inl ⟨a,ns,rfl,fZ.of h1,key ns w⟩
   |dct kvs =>
    cases z2:O.keysOf kvs with
    |none=>simp only[z2]at w;exact(Zq w).elim
    |some ns =>simp only[z2]at w;let⟨ps,h1,h2⟩:=g a _ z;exact .inr ⟨a,ps,ns,rfl,.inl h1,N4 h2 z2,key ns w⟩
   |_=>exact(Zq w).elim
 |scr ns =>
  cases rx with
  |scr h=>exact .inl ⟨_,ns,rfl,Yk h,key ns w⟩
 |_=>exact(Zq w).elim
end Snd
namespace Snd
open PySem L2 PyProof.Rows
variable {i:Inf}{X:Cx}{Φ:O.Fs}
def Mi:∀(ns:List Int) (a:Int),a∈O.dedup ns↔a∈ns
 |[],a=>Iff.rfl
 |x::xs,a=>by
  have ih:=Mi xs a;unfold O.dedup;simp only[Æ,ó,ih];constructor
  .rintro(h|h)
   .exact .inl h
   .exact .inr h.1
  .rintro(h|h)
   .exact .inl h
   .by_cases e:a=x
    .exact .inl e
    .exact .inr ⟨h,⇑e⟩
def WS:∀ns:List Int,(O.dedup ns).Nodup
 |[]=>ė
 |x::xs=>by unfold O.dedup;rw[ü];refine⟨λh=>?_,List.Nodup.sublist ħ<|WS xs⟩;have:=(ó.mp h).2;simp at this
def JW:∀(ns į:List Int),į.Nodup->(ns.foldl Ũ į).Nodup/\∀a,a∈ns.foldl Ũ į↔a∈į\/a∈ns
 |[],į,h=>⟨h,λa=>by simp⟩
 |x::xs,į,h=>by
  have h2:(Ũ į x).Nodup/\∀a,a∈Ũ į x↔a∈į\/a=x:=by
   unfold Ũ;split
   .rename_i hc;have hm:x∈į:=⇑hc
    exact⟨h,λa=>⟨.inl,λz=>z.elim id λe=>e▸hm⟩⟩
   .rename_i hc;have hm:x∉į:=⇑hc
    refine⟨?_,λa=>by simp⟩;rw[å];refine⟨h,by simp,λa ha b hb=>?_⟩;rw[á.mp hb];exact λe=>hm<|e▸ha
  let⟨h3,h4⟩:=JW xs (Ũ į x) h2.1;refine⟨h3,λa=>?_⟩;rw[ŋ,h4,h2.2,Æ];constructor
  .rintro((z|z)|z)
   .exact .inl z
   .exact .inr<|.inl z
   .exact .inr<|.inr z
  .rintro(z|z|z)
   .exact .inl<|.inl z
   .exact .inl<|.inr z
   .exact .inr z
def Ea(ns:List Int):(ύ (λi=>ns.getD i 0) ns.length).Perm<|O.dedup ns:=by
 have e:(List.range ns.length).map (λi=>ns.getD i 0)=ns:=by
  apply List.ext_getElem
  .simp
  .intro k h1 h2;simp at h1;simp[h1]
 unfold ύ;rw[e];let⟨h1,h2⟩:=JW ns [] ė;refine(bj h1<|WS ns).mpr λa=>?_;rw[h2,Mi];simp
def Cv{G:O.Hs}{H:Hp}{v:O.Val}{x:V}{ns:List Int}(g:RH i G H)(r:RV i.K H v x)(e:O.sortOf G v=eM ns):∃p,x=.ref p/\fZ i.K H p (ns.map V.int):=by
 cases v with
 |ref a =>let⟨ys,z1,z2⟩:=ê.mp (show(O.ff<|G a).bind O.eY=eM ns from e);let⟨us,h1,h2⟩:=Z5 g z1;have:=ZS z2 h2;subst this;exact⟨a,r.ref_inv,h1⟩
 |scr ms =>
  cases e;cases r with
  |scr h=>exact⟨_,rfl,Yk h⟩
 |_=>cases e
def Mp:∀{xs:List O.Val}{k n:Nat}{v:O.Val},(O.enumL k xs)[n]?=eM v->∃x,xs[n]?=eM x/\v=.tup [.int ((k+n:Nat):Int),x]
 |[],k,n,v,h=>by simp[O.enumL]at h
 |x::xs,k,0,v,h=>by have h:eM (O.Val.tup [.int k,x])=eM v:=h;cases h;exact⟨x,rfl,rfl⟩
 |x::xs,k,n+1,v,h=>by let⟨y,h1,h2⟩:=Mp (xs:=xs) (k:=k+1) (n:=n) (v:=v) (by simpa[O.enumL]using h);refine⟨y,⇑h1,?_⟩;rw[h2,show k+1+n=k+(n+1) by lia]
def KU:∀(xs:List O.Val) (k:Nat),(O.enumL k xs).length=xs.length
 |[],_=>rfl
 |x::xs,k=>by show(O.enumL (k+1) xs).length+1=xs.length+1;rw[KU xs]
variable {xs:List O.Val}
def EE{H0:Hp}{a:Ï}{us:List V}(ha:H0 a=eM (.tup us)\/KT i.K a us)(ra:RVs i.K H0 xs us):ItOk i H0 (Ite i.K a) (λ_=>True) (O.enumL 0 xs) where
 go:=λn G H v k g e hv=>by let⟨x,hx,rfl⟩:=Mp hv;have h1:gf i.K H a us:=Zn<|ha.imp (k.t _ _) id;let⟨x',h5,h6⟩:=(ra.keep k).get hx;refine⟨⟨us,x',h1,h5⟩,λw H' ⟨p,e1,hp,e2⟩=>?_⟩;subst e1;have:=e2 us x' h1 h5;subst this;have k:=fo.new (o:=.tup [.int n,x']) hp;refine⟨k,M0 g hp,.tup (.inl eS)<|.cons ?_<|.cons (h6.keep k) .nil⟩;rw[š];exact .int _
 stop:=λn G H k g e hn=>by have h1:gf i.K H a us:=Zn<|ha.imp (k.t _ _) id;exact⟨us,h1,by rw[<-ra.length,<-KU xs 0];exact hn⟩
def Uv{v:O.Val}(h:O.tupOf v=eM xs):v=.tup xs:=by
 cases v with
 |tup ys=>cases h;rfl
 |_=>cases h
def GQ{es:List Expr}{kk:Nat}{tp p î:Pos}{e:Expr}{m:O.E}(hK:X.K=i.K)(hg:Gl X "enumerate")(hm:X.mg "enumerate" = eN)(he:PE X e<|tE X i Φ m)(hs:ß [e] X.env=[(eQ,eval e X.env)]) :
  PI X (.Tuple es kk tp) (.Call (.Name "enumerate" p) [e] [] î) (tIt X i Φ<|.enum m) :=
 (CO hg hm (fX he fW hs) hs).imp λσ H R ⟨env,G,QI,Em,p,w,c⟩=>by
  change tE X i Φ m σ H _;refine one p w λv G1 H1 x k1 p1 rx q=>?_;let⟨xs,e1,q2⟩:=eV q;clear q;cases Uv e1;rw[hK];cases rx with
  |tup hp hr=>exact⟨_,rfl,⟨_,Zn hp⟩,c _ _ G1 H1 _ k1 p1.hp (EE hp hr) q2⟩
end Snd
namespace L2
open PySem
@[reducible] noncomputable def Ris(xs:Array Nat):Prop:=xs.toList.Pairwise (· < ·)
abbrev OW(xs:Array Nat)(j lo:Nat):Prop:=lo<=xs.size/\(∀k x,k<lo->xs[k]?=eM x->x<j)/\∀k x,lo<=k->xs[k]?=eM x->j<=x
variable {xs:Array Nat} {a:Nat} {b:Nat} {x:Nat}
def X4(h:Ris xs){y:Nat}(hab:a<b)(ha:xs[a]?=eM x)(hb:xs[b]?=eM y):x<y:=by rw[<-Ă]at ha hb;let⟨h1,rfl⟩:=Ì.mp ha;let⟨h2,rfl⟩:=Ì.mp hb;exact List.pairwise_iff_getElem.mp h a b h1 h2 hab
def Kl{xs:Array Nat}(h:Ris xs){j:Nat}:∀(f lo hi:Nat),hi - lo<=f->lo<=hi->hi<=xs.size->(∀k x,k<lo->xs[k]?=eM x->x<j)->(∀k x,hi<=k->xs[k]?=eM x->j<=x)->OW xs j (bb xs j f lo hi)
 |0,lo,hi,h1,h2,h3,h4,h5=>by
  have e:lo=hi:=by lia
  subst e;exact⟨h3,h4,h5⟩
 |f+1,lo,hi,h1,h2,h3,h4,h5=>by
  unfold bb;by_cases hl:lo<hi
  .rw[gw hl];dsimp only;have hm:(lo+hi) / 2<xs.size:=by lia
   have hx:xs[(lo+hi) / 2]?=eM xs[(lo+hi) / 2]:=ý hm;have hg:xs.getD ((lo+hi) / 2) j=xs[(lo+hi) / 2]:=by simp[ϸ,hm]
   rw[hg];by_cases hc:xs[(lo+hi) / 2]<j
   .rw[gw hc];refine Kl h f _ _ (by lia) (by lia) h3 (λk x hk hkx=>?_) h5;by_cases hkm:k=(lo+hi) / 2
    .subst hkm;rw[hx]at hkx;cases hkx;exact hc
    .exact π (X4 h (by lia) hkx hx) hc
   .rw[gx hc];refine Kl h f _ _ (by lia) (by lia) (by lia) h4 λk x hk hkx=>?_;by_cases hkm:k=(lo+hi) / 2
    .subst hkm;rw[hx]at hkx;cases hkx;lia
    .exact Õ (Nat.not_lt.mp hc) (Ι<|X4 h (by lia) hx hkx)
  .rw[gx hl];have e:lo=hi:=by lia
   subst e;exact⟨h3,h4,h5⟩
def Oq(h:Ris xs)(j:Nat):OW xs j<|ļ xs j:=by unfold ļ;refine Kl h xs.size 0 xs.size (by lia) (by lia) (by lia) (λk x hk=>by lia) λk x hk hkx=>?_;rw[ϑ hk]at hkx;cases hkx
variable {j:Nat}
def Ce(ha:OW xs j a)(hb:OW xs j b):a=b:=by
 let⟨a1,a2,a3⟩:=ha;let⟨b1,b2,b3⟩:=hb;rcases Nat.lt_trichotomy a b with h|h|h
 .have hx:=ý (xs:=xs) (i:=a) (by lia);have:=b2 a _ h hx;have:=a3 a _ (Ó _) hx;lia
 .exact h
 .have hx:=ý (xs:=xs) (i:=b) (by lia);have:=a2 b _ h hx;have:=b3 b _ (Ó _) hx;lia
def BP(h:Ris xs){i:Nat}(hx:xs[i]?=eM x):OW xs (x+1)<|i+1:=by
 have hi:i<xs.size:=(ľ.mp hx).1;refine⟨hi,λk y hk hky=>?_,λk y hk hky=>X4 h (by lia) hx hky⟩;by_cases e:k=i
 .subst e;rw[hx]at hky;cases hky;lia
 .have:=X4 h (show k<i by lia) hky hx;lia
def BZ(xs:Array Nat):OW xs 0 0:=⟨ĳ _,λk x hk=>by lia,λ_ _ _ _=>ĳ _⟩
def Fc(h:Ris xs)(hn:xs[ļ xs j]?≠eM j):Ris<|SetTable.insertAt xs (ļ xs j) j:=by
 let⟨c1,c2,c3⟩:=Oq h j;generalize ļ xs j=p at c1 c2 c3 hn;unfold Ris;rw[SetTable.toList_insertAt];have hs:(xs.toList.take p++xs.toList.drop p).Pairwise (· < ·):=by rw[List.take_append_drop];exact h
 let⟨h1,h2,h3⟩:=cW.mp hs;have hlo:∀a∈xs.toList.take p,a<j:=λa ha=>by let⟨k,hk,rfl⟩:=List.mem_take_iff_getElem.mp ha;refine c2 k _ (by lia) ?_;rw[<-Ă];exact É _
 have hhi:∀a∈xs.toList.drop p,j<a:=λa ha=>by
  let⟨k,e⟩:=cE.mp ha;rw[List.getElem?_drop,Ă]at e;have:=c3 (p+k) _ (by lia) e;rcases Nat.lt_or_ge j a with q|q
  .exact q
  .exfalso;have e2:a=j:=by lia
   subst e2;by_cases k0:k=0
   .subst k0;exact hn e
   .have hp:xs[p]?=eM (xs[p]'(by have:=(ľ.mp e).1;lia)):=ý _;have:=X4 h (show p<p+k by lia) hp e;have:=c3 p _ (Ó _) hp;lia
 exact cW.mpr ⟨h1,aa.mpr ⟨hhi,h2⟩,λa ha b hb=>by
   rcases Æ.mp hb with rfl|hb
   . exact hlo a ha
   . exact π (hlo a ha)<|hhi b hb⟩
structure Tb(b:Bool)(t:η):Prop where
 led:b=eQ->t.led=eP
 ris:Ris t.place
 dum:t.dummies=#[]
def N2{t:η}{f:Nat->Int}{h:Int}(hd:t.dummies=#[]):∀(n:Nat) (p:SetTable.Probe) (j:Nat) (d:Option Nat),p.dummy=eN->ϗ t f h n p=eM (.empty j d)->t.slot j=.empty/\d=eN
 |0,p,j,d,h0,e=>by unfold ϗ at e;cases e
 |n+1,p,j,d,h0,e=>by
  unfold ϗ at e;cases hs:t.slot p.j with
  |empty =>rw[hs]at e;dsimp only at e;injection e with e;injection e with e1 e2;subst e1;exact⟨hs,e2▸h0⟩
  |dummy =>
   exfalso;unfold ej at hs;dsimp only at hs;split at hs
   .cases hs
   .rw[hd]at hs;simp[bo]at hs
  |live i =>
   rw[hs]at e;dsimp only at e;split at e
   .cases e
   .refine N2 hd n _ j d ?_ e;unfold SetTable.advance;split
    .exact h0
    .exact h0
def GE{t:η}(hd:t.dummies=#[]){h:Int}{b:Bool}(e:t.freeSlot h=eM (j,b)):t.place[ļ t.place j]?≠eM j:=by
 unfold SetTable.freeSlot at e;split at e
 .rename_i k d hp;let⟨h1,h2⟩:=N2 hd _ _ _ _ rfl hp;subst h2;injection e with e;injection e with e1 e2;have e1:k=j:=e1;subst e1;unfold ej at h1;dsimp only at h1;split at h1
  .cases h1
  .rename_i hq;exact λz=>hq (by rw[z];exact beq_self_eq_true _)
 .cases e
def Wf{b:Bool}{t:η}(h:Tb b t)(n:Nat):Tb b (t.standIn n) :=
 ⟨h.led,by show(Array.range n).toList.Pairwise _;rw[Array.toList_range];exact cf,rfl⟩
def Pk{b:Bool}{t:η}(h:Tb b t)(es:Array<|Int×Ã)(k:Int)(x:Ã):Tb b (layNew t es k x).2.1:=by
 unfold layNew;split
 .rename_i slot wd hf;show Tb b (cg _ _);have hp:Tb b (t.put slot).1:=by
   refine⟨h.led,Fc h.ris<|GE h.dum hf,?_⟩;show(if bo t.dummies slot then _ else t.dummies)=#[];rw[h.dum];simp[bo]
  unfold cg;split
  .exact hp
  .exact Wf hp _
 .exact Wf h _
def EJ{b:Bool}{t:η}(h:Tb b t)(es:Array<|Int×Ã)(n:Nat):Tb b (relayAll t es n).2.1:=by
 unfold relayAll;split
 .rename_i t' order hr;dsimp only;split
  .unfold SetTable.relaid SetTable.laid at hr;cases hl:SetTable.layClean (SetTable.sizeAbove n - 1) (es.map (·.1))with
   |none=>rw[hl]at hr;cases hr
   |some owner =>rw[hl]at hr;cases hr;refine⟨h.led,?_,rfl⟩;show List.Pairwise _ (List.toArray _).toList;refine List.pairwise_map.mpr<|List.pairwise_filterMap.mpr ?_;refine cf.imp λ{a c} hac x hx y hy=>?_;let⟨_,_,rfl⟩:=Ä.mp hx;let⟨_,_,rfl⟩:=Ä.mp hy;exact hac
  .exact Wf h _
 .exact Wf h _
end L2
namespace L2
open PySem PySem.Spec PyProof.Rows
section
variable (prog:ç) (w:þ)
noncomputable abbrev byT:Bool:=w.params.followText "set-order"
abbrev SetI(h:Ĉ)(a:Ï)(l:List Int):Prop:=∃o es ep t es0,h.get? a=eM o/\o.ExactSet/\o.data=.set es ep t/\ElemsOf (ŧ prog w) es.toList/\es.size<aA/\t.fits es.size=eP/\
 Tb (byT w) t/\es.toList.Perm es0/\Ā (es0.map (·.2)) l
end
def XM:∀{vs:List Ã}{ns:List Int},Ā vs ns->vs.length=ns.length
 |_,_,.nil=>rfl
 |_,_,.cons _ _ r=>congrArg (· + 1)<|XM r
def UN:∀{vs:List Ã}{ns:List Int}(n:Int) (t:Tok),Ā vs ns->Ā (vs++[.int n t]) (ns++[n])
 |_,_,n,t,.nil=>.cons n t .nil
 |_,_,n,t,.cons m u r=>.cons m u<|UN n t r
def Uy{P:ç}{w:þ}{n:Int}:∀{vs:List Ã}{ns:List Int},Ā vs ns->(n∈ns↔∃v∈vs,(ŧ P w).is n v=eP)
 |_,_,.nil=>by simp
 |_,_,.cons m u r=>by
  have h:=Uy (P:=P) (w:=w) (n:=n) r;have hk:(ŧ P w).is n (.int m u)=gC (n=m):=KeyKind.is_eq_decide (intKind_is P w m u) n;rw[Æ,h];constructor
  .rintro(rfl|⟨v,hv,e⟩)
   .exact⟨_,æ,by rw[hk];simp⟩
   .exact⟨v,Ú _ hv,e⟩
  .rintro⟨v,hv,e⟩;rcases Æ.mp hv with rfl|hv
   .rw[hk]at e;exact .inl ⇑e
   .exact .inr ⟨v,hv,e⟩
variable {h:Ĉ} {a:Ï} {l:List Int}
def SetI.setOf{P:ç}{w:þ}(x:SetI P w h a l):h.SetOf (ŧ P w) a (λk=>gC (k∈l)) l.length:=by
 let⟨o,es,ep,t,es0,h1,h2,h3,h4,h5,h6,h7,h8,h9⟩:=x;refine⟨o,es,ep,t,h1,h2,h3,h4,λk=>?_,h5,h6,?_⟩
 .rw[decide_eq_true_iff,Uy (P:=P) (w:=w) h9];constructor
  .rintro⟨v,hv,e⟩;let⟨x,hx,rfl⟩:=Ô.mp hv;exact⟨x,h8.mem_iff.mpr hx,e⟩
  .rintro⟨x,hx,e⟩;exact⟨_,Ô.mpr ⟨x,h8.mem_iff.mp hx,rfl⟩,e⟩
 .rw[<-XM h9,À,<-h8.length_eq,ò]
section
variable {prog:ç}{w:þ}{A:ĉ}{E:Ã->Ç->Prop}{s:Ç}
def Ai{o:Obj}{es es':Array (Int×Ã)}{ep:Nat}{t t':η}(ho:h.get? a=eM o)(hd:o.data=.set es ep t) :
  (h.update a<|eB es' t').get? a=eM {o with data:=.set es' (ep+1) t'}:=by
 have z:=Ė (eB es' t') ho (by rw[putSet_of es' t' hd];rfl)
 rwa [putSet_of es' t' hd]at z
def add_int{n:Int}{tk:Tok}{Q:Bool->Ç->Prop}(hS:SetI prog w s.heap a l)(hroom:l.length+1<aA)
  (k:∀h' b,θ a s.heap h'->SetI prog w h' a (Ũ l n)->Q b {s with heap:=h'}):wpAny (à prog w) A (setAddHashed a (.int n tk)<|(ŧ prog w).hash n) Q E s:=by
 have hlen:=hS.setOf;let⟨o,es,ep,t,es0,ho,hex,hd,hel,hb,hf,ht,hp,hi⟩:=id hS;have hsz:es.size=l.length:=by rw[<-XM hi,À,<-hp.length_eq,ò]
 have hkey:(ŧ prog w).is n (.int n tk)=eP:=intKind_is _ _ _ _;unfold setAddHashed setAddHashedIn;refine Ĝ<|Á<|Ů ho hd hf ?_;dsimp only;rw[byScan_of rfl hb hel];simp only[↓reduceIte];unfold setAddByScan;refine Á<|Á<|ϭ<|Á<|wpAny_setScan_of hkey ho hd hf hel ?_;have hm:n∈l↔∃e∈es.toList,(ŧ prog w).is n e.2=eP:=by
  rw[Uy (P:=prog) (w:=w) hi];constructor
  .rintro⟨v,hv,e⟩;let⟨x,hx,rfl⟩:=Ô.mp hv;exact⟨x,hp.mem_iff.mpr hx,e⟩
  .rintro⟨x,hx,e⟩;exact⟨_,Ô.mpr ⟨x,hp.mem_iff.mp hx,rfl⟩,e⟩
 cases hr:List.findIdx? (λe=>(ŧ prog w).is n e.2) es.toList with
 |some j =>
  let⟨hj,hpj,_⟩:=List.findIdx?_eq_some_iff_getElem.mp hr;have hn:n∈l:=hm.mpr ⟨_,Ğ hj,hpj⟩;have e1:Ũ l n=l:=by unfold Ũ;rw[gw<|ů.mpr ⟨n,hn,by simp⟩]
  rw[e1]at k;exact È<|È<|k s.heap eQ (Heap.SameBut.refl a s.heap) hS
 |none =>
  have hn:n∉l:=λz=>by let⟨e,he,q⟩:=hm.mp z;have:=List.findIdx?_eq_none_iff.mp hr e he;rw[q]at this;cases this
  have e1:Ũ l n=l++[n]:=by
   unfold Ũ;rw[gx];intro z;let⟨m,hm,q⟩:=ů.mp z;have q:m=n:=⇑q
   exact hn<|q▸hm
  rw[e1]at k;have l1:=layNew_perm t es ((ŧ prog w).hash n)<|.int n tk;have l2:=layNew_fits t es ((ŧ prog w).hash n)<|.int n tk;have l3:=Pk ht es ((ŧ prog w).hash n)<|.int n tk;dsimp only;generalize hL:layNew t es ((ŧ prog w).hash n) (.int n tk)=L at l1 l2 l3 ⊢;let⟨cq,t1,wd,gv⟩:=L;dsimp only at l1 l2 l3 ⊢;rw[dM]at l1;have i1:Ā ((es0++[((ŧ prog w).hash n,Value.int n tk)]).map (·.2))<|l++[n]:=by rw[Û];exact UN n tk hi
  have p1:cq.toList.Perm<|es0++[((ŧ prog w).hash n,Value.int n tk)]:=l1.trans<|hp.append_right _;have hel1:ElemsOf (ŧ prog w) cq.toList:=(hel.push hkey rfl).perm l1;have hs1:cq.size=l.length+1:=by rw[<-ò,l1.length_eq,ã,ò,hsz];rfl
  have fin:∀(h':Ĉ) (o':Obj) (ep':Nat) (es':Array<|Int×Ã) (t':η),θ a s.heap h'->h'.get? a=eM o'->o'.ExactSet->o'.data=.set es' ep' t'->es'.toList.Perm cq.toList->t'.fits es'.size=eP->Tb (byT w) t'->∀b,Q b {s with heap:=h'}:=λh' o' ep' es' t' sb g1 g2 g3 g4 g5 g6 b=>by refine k h' b sb ⟨o',es',ep',t',_,g1,g2,g3,hel1.perm g4,?_,g5,g6,g4.trans p1,i1⟩;rw[<-ò,g4.length_eq,ò,hs1];exact hroom
  have hz1:cq.size<=Ý:=bc (by rw[hs1];exact hroom);have g0:∀(b:Bool){ģ:Ç}{Q':Unit->Ç->Prop},Q' () ģ->wpAny (à prog w) A (match b with|true=>rule "set.scan.the-table-gave-way" | false=>pure ()) Q' E ģ :=
   λb ģ Q' hq=>by cases b<;>first|exact È hq|exact ϭ hq
  refine Á<|g0 _ ?_;have bv:hashByValue 8 (.int n tk)=(pure eP:Sem Bool):=hashByValue_scannable 8 rfl;rw[bv,ite_self];refine Á<|È ?_;simp only[↓reduceIte];refine Á<|wpAny_storeSet_of ho hd ?_ hz1;have ho1:=Ai (es':=cq) (t':=t1) ho hd;have sb1:=ā s.heap a<|eB cq t1;split
  .have r1:=relayAll_perm t1 cq<|Ϙ cq.size;have r2:=relayAll_fits t1 cq<|Ϙ cq.size;have r3:=EJ l3 cq<|Ϙ cq.size;generalize relayAll t1 cq (Ϙ cq.size)=R at r1 r2 r3 ⊢;let⟨es2,t2,gv2⟩:=R;dsimp only at r1 r2 r3 ⊢;refine Á<|g0 _ ?_;refine Á (wpAny_storeSet_of ho1 rfl ?_<|by rw[<-ò,r1.length_eq,ò];exact hz1);exact È<|È<|fin _ _ _ es2 t2 (sb1.trans<|ā _ a _) (Ai ho1 rfl) hex rfl r1 r2 r3 _
  .exact È<|È<|fin _ _ _ cq t1 sb1 ho1 hex rfl .rfl l2 l3 _
end
def SetI.at{P:ç}{w:þ}{h h':Ĉ}{a:Ï}{l:List Int}(x:SetI P w h a l)(k:∀o,h.get? a=eM o->h'.get? a=eM o):SetI P w h' a l:=by let⟨o,es,ep,t,es0,h1,h2⟩:=x;exact⟨o,es,ep,t,es0,k _ h1,h2⟩
section
variable {prog:ç}{w:þ}{A:ĉ}{R:bz->Ç->Prop}{I:Ï}{fp wr:List Ï}{G:Array cu->Array cu->Prop}{n:Nat}{P:Nat->Ã->Prop}{St:Nat->Ç->Prop}
def Eg(W:WalksS prog w A.in1 I fp wr G n P St)(S:Ï)(hS:S∉fp)(val:Nat->Int)(hv:∀i v,P i v->∃t,v=.int (val i) t)(hb:n+1<aA) :
  ∀(k i:Nat) (s:Ç),n - i=k->i<=n->St i s->SetI prog w s.heap S (ύ val i)->(∀s',Moved (S::wr) G s s'->SetI prog w s'.heap S (ύ val n)->R (.ok<|.ret .none) s')->
   codeAny (à prog w) A (.builtin "set.update.loop" ⟨[.ref S,.ref I],[]⟩) R s:=by
 have nw:S∉wr:=λz=>hS<|W.sub _ z;intro k;induction k with
 |zero =>
  intro i s h1 h2 st x r;obtain rfl:i=n:=by lia
  refine Į F.entry_set_update_loop ?_;rw[ċ F.plain_set_update_loop _];show wpAny _ A.in1 (Ϝ (.ref I) >>= _) _ _ s;refine Á<|W.done s _ _ st λs' m=>?_;exact È<|r s' (m.mono λb hb=>Ú _ hb)<|x.at λo e=>m.heap S _ nw e
 |succ k ih =>
  intro i s h1 h2 st x r;have hi:i<n:=by lia
  refine Į F.entry_set_update_loop ?_;rw[ċ F.plain_set_update_loop _];show wpAny _ A.in1 (Ϝ (.ref I) >>= _) _ _ s;refine Á<|W.item i s _ _ hi st λv s' p dP m=>?_;let⟨t,rfl⟩:=hv i v p;show wpAny _ A.in1 (Ŝ [Value.int (val i) t] (setAdd S<|.int (val i) t) >>= _) _ _ s';refine Á<|Ĝ ?_;unfold setAdd;refine Ĝ<|Á<|(ŧ prog w).pyHash (k:=val i) (intKind_is _ _ _ _) ?_;refine add_int (s:={s' with toks:=s'.toks+1}) (x.at λo e=>m.heap S _ nw e) (by have:=aL val i;lia) λh' b sb x'=>?_;rw[<-firstMet_succ]at x';refine È ⟨ř F.plain_set_update_loop _,ih (i+1) _ (by lia) hi (W.frame _ s' _ _ dP (ő _) λb hb o e=>?_) x' λs'' m'' x''=>r s'' ?_ x''⟩
  .rw[sb.2 b λz=>hS<|z▸hb];exact e
  .refine Moved.trans W.gtrans ((m.mono λb hb=>Ú _ hb).then_heap (ő _) λb o hb e=>?_) m'';rw[sb.2 b λz=>hb<|z▸æ];exact e
end
section
variable {prog:ç}{w:þ}{A:ĉ}{E:Ã->Ç->Prop}{s:Ç}
noncomputable abbrev Jx(b:Bool):Obj:={cls:=.type "set",dict:=eN,data:=.set #[] 0 (.fresh 0 0 !b)}
variable {Q:Ã->Ç->Prop}
def FT(a:Ã)(h:Q (.ref s.heap.objs.size) {s with heap:=s.heap.push (Jx<|byT w)}) :
  codeAny (à prog w) A (.call (.builtin "set.__new__") ⟨[.type "set",a],[]⟩) (wants Q E) s:=by
 refine codeAny_of_tree ?_;show wpAny _ A.in1 (do checkBuiltinCall "set.__new__" ⟨[.type "set",a],[]⟩;again (.builtin "set.__new__" ⟨[.type "set",a],[]⟩)) _ _ s;refine Á<|bL (F.newCall_set_1 a)<|È ⟨ř F.plain_set_new _,Į F.entry_set_new ?_⟩;rw[ċ F.plain_set_new _];unfold Builtin.«set.__new__» Builtin.Frozenset.newClass;have hsub:=sub_set_self;let⟨hp,g,d,tk,os⟩:=s;dsimp only
 wp_walk
 refine ŷ<|È ?_;dsimp only;simp only[newObj];exact Á<|wpAny_alloc<|È<|È h
def Dz{l:Ï}{items:Array Ã}{ns:List Int}(hh:A.handled=eN)(hl:s.heap.IsList l items)(hi:Ā items.toList ns)(hb:items.size+1<aA)
  (h:∀(h':Ĉ) (tk:Nat),SetI prog w h' s.heap.objs.size (ύ (λi=>ns.getD i 0) items.size)->(∀b o,s.heap.get? b=eM o->h'.get? b=eM o)->Q (.ref s.heap.objs.size) {s with heap:=h',toks:=tk}) :
  wpAny (à prog w) A (call (.type "set") [.ref l]) Q E s:=by
 let⟨c,tl,hmro⟩:=F.called_set.mro;have hmade:=F.called_set.made;have hsub:=F.called_set.sub;have h1:=F.called_set.notType;have h2:=F.called_set.canCreate;have hct:=F.typeCall_set_1<|.ref l;refine wpAny_call<|codeAny_of_tree ?_;show wpAny _ _ (callAny (.type "set") _) _ _ _;refine È ⟨Code.quiet_builtin _ (by decide +kernel),Į F.entry_type_call ?_⟩;rw[Around.under_plain (weight_type_call_type "set" [.ref l] []) rfl]
 repeat (any_goals (first|assumption|wp_step))
 refine ψ (FT (.ref l) (E:=E) (Q:=λv s1=>v=.ref s.heap.objs.size/\s1={s with heap:=s.heap.push (Jx<|byT w)}) ⟨rfl,rfl⟩) λr s1 hr=>?_;cases r with
 |error e=>exact hr
 |ok fl =>
  cases fl with
  |ret obj =>
   let⟨rfl,rfl⟩:=hr;have hS:(s.heap.push<|Jx<|byT w).get? s.heap.objs.size=eM (Jx<|byT w):=Ù _ rfl;have hT:Shared.TypeIs {s with heap:=s.heap.push (Jx<|byT w)} (.ref s.heap.objs.size) "set":=⟨_,hS,rfl⟩
   have hli:=F.called_set.init.lookup;have hbi:=F.called_set.init.bind<|.ref s.heap.objs.size
   repeat (any_goals (first|assumption|wp_step))
   refine ψ (codeAny_call_builtin (R:=wants (λr s2=>r=.none/\∃h' tk,s2={ s with heap:=h',toks:=tk }/\SetI prog w h' s.heap.objs.size (ύ (λi=>ns.getD i 0) items.size)/\∀b o,s.heap.get? b=eM o->h'.get? b=eM o) E)
     F.called_set.init.plain F.entry_set_init (check_set_init_1 hT ?_)) λr s2 hr=>?_
   .have hlS:l<s.heap.objs.size:=by let⟨_,e,_⟩:=hl;exact Ü e
    have dR:(s.heap.push<|Jx<|byT w).IsList l items:=hl.push _;let⟨ol,hol,aX,nl,hdl⟩:=id dR;let⟨ocls,odict,odata,oslots⟩:=ol;simp only at aX hdl;subst aX hdl;have hsls:=F.sub_list_set;have hslf:=F.sub_list_frozenset;have ű:(Value.type "list" == Value.type "dict")=eQ:=by decide
    unfold Builtin.«set.__init__» noKeywords Builtin.Frozenset.updateFrom;generalize hPI:d0=PI
    wp_walk
    subst hPI;refine ϖ dR<|Á<|wpAny_runValue ?_;have hh3:A.in1.in1.in1.handled=eN:=by simp[hh]
    have zs:(s.heap.push<|Jx<|byT w).objs.size=s.heap.objs.size+1:=ι ..;refine Eg ((Walks.list hh3 _ l (by rw[zs];exact é<|Ĺ hlS) items).toS) s.heap.objs.size (by rw[zs];simp only[Æ,Í,or_false,not_or];exact⟨é<|ē _,Ų hlS⟩) (λi=>ns.getD i 0) (λi v hv=>IntsAre.int_at hi i v<|by rw[Ă];exact hv) hb (items.size - 0) 0 _ (by lia) (ĳ _)
     ⟨⟨_,Ù _ rfl,rfl,rfl⟩,dR.push _⟩ ?_ ?_
    .refine⟨_,#[],0,_,[],Å _ hS,⟨rfl,rfl,rfl⟩,rfl,λe he=>by simp at he,by show 0<aA;unfold aA;lia,rfl,⟨λz=>by show(!byT w)=eP;rw[z];rfl,.nil,rfl⟩,.nil,.nil⟩
    .intro s' m x;let⟨h',g',d',tk',os'⟩:=s';have eg:g'=s.gens:=m.gens;have ed:d'=s.drawn:=m.drawn;have eo:os'=s.os:=m.os;subst eg ed eo;refine È ?_;show wpAny _ _ (ret Value.none) _ _ _;refine È ⟨rfl,h',tk',rfl,x,λb o e=>?_⟩;have hb:=Ü e;exact m.heap b o (by rw[zs];simp only[Æ,Í,or_false,not_or];exact⟨é hb,é<|Ĺ hb⟩)<|Å _<|Å _ e
   .cases r with
    |error e=>exact hr
    |ok fl =>
     cases fl with
     |ret r =>
      let⟨rfl,h',tk,rfl,x,hk⟩:=hr
      repeat (any_goals (first|assumption|wp_step))
      exact h _ _ x hk
     |_=>exact hr.elim
  |_=>exact hr.elim
end
end L2
namespace L2
open PySem PySem.Spec PyProof.Rows
open PySem.Builtin
def DE:entryFor table "set.__iter__" = eM Builtin.«frozenset.__iter__»:=entryFor_alias (id':="frozenset.__iter__") (by kernel_rfl) rfl (by decide +kernel) (by kernel_rfl)
def CY:entryFor table "set_iterator.__next__" = eM Builtin.«set_iterator.__next__»:=entryFor_of_tree (by kernel_rfl)
def E1(a:Ã):cD "set_iterator.__next__" ⟨[a],[]⟩:=by unfold cD;kernel_rfl
def slot_snext:Slot "set_iterator" "__next__" "set_iterator.__next__" :=
 .of (owner:="set_iterator") (n:="__next__") (by rw[typeLookup_type,builtinLookup_eq_fast];kernel_rfl) (by decide +kernel) (by decide +kernel) (by decide +kernel)
  (by first|exact .inl (by decide +kernel)|exact .inr<|by decide +kernel) (by rw[cG];kernel_rfl)
def JF:Slot "set_iterator" "__iter__" "set_iterator.__iter__" :=
 .of (owner:="set_iterator") (n:="__iter__") (by rw[typeLookup_type,builtinLookup_eq_fast];kernel_rfl) (by decide +kernel) (by decide +kernel) (by decide +kernel)
  (by first|exact .inl (by decide +kernel)|exact .inr<|by decide +kernel) (by rw[cG];kernel_rfl)
def Ey:entryFor table "set_iterator.__iter__" = eM Builtin.«dict_keyiterator.__iter__»:=entryFor_alias (id':="dict_keyiterator.__iter__") (by kernel_rfl) rfl (by decide +kernel) (by kernel_rfl)
def Et(a:Ã):cD "set_iterator.__iter__" ⟨[a],[]⟩:=by unfold cD;kernel_rfl
def XT{α:Type}:∀{l:List α}{i:Nat}(h:i<l.length),(l[i]::l.eraseIdx i).Perm l
 |a::l,0,h=>.rfl
 |a::l,i+1,h=>(List.Perm.swap a _ _).trans<|(XT (l:=l)<|Nat.lt_of_succ_lt_succ h).cons a
def AB{α:Type}(f:Nat->Nat):∀(n k:Nat) (l:List α) (out:Array α),l.length=n->(bd f n k l out).toList.Perm (out.toList++l)
 |0,k,l,out,h=>by
  cases l with
  |nil=>unfold bd;simp
  |cons _ _=>cases h
 |n+1,k,l,out,h=>by unfold bd;have Ϡ:f k % l.length<l.length:=Nat.mod_lt _ (by lia);rw[É Ϡ];dsimp only;refine(AB f n (k+1) _ _<|by rw[Ł Ϡ];lia).trans ?_;rw[dM,ĸ];exact(XT Ϡ).append_left _
def BM{α:Type}(f:Nat->Nat)(xs:Array α):(pickOrder f xs).toList.Perm xs.toList:=by unfold pickOrder;simpa using AB f xs.size 0 xs.toList #[] (by simp)
section
variable {prog:ç}{w:þ}{A:ĉ}{E:Ã->Ç->Prop}{s:Ç}
variable {n:Nat}
def AT{src:Source}{Q:Nat->Ç->Prop}(hn:0<n)(h:∀k d,k<n->Q k {s with drawn:=d}):wpAny (à prog w) A (choose src n) Q E s :=
 λ_ _ _=>⟨Ų hn,h _ _<|Nat.mod_lt _ hn⟩
def Ou{α:Type}:∀(n:Nat) (xs:List α){s:Ç}{Q:List α->Ç->Prop},xs.length=n->(∀ys d,ys.Perm xs->Q ys {s with drawn:=d})->wpAny (à prog w) A (dN n xs) Q E s
 |0,[],s,Q,_,h=>by unfold dN;exact È<|h [] s.drawn .nil
 |0,_::_,_,_,h,_=>by cases h
 |n+1,[],_,_,h,_=>by cases h
 |n+1,x::xs,s,Q,hl,h=>by unfold dN;refine Á (AT (by simp) λk d hk=>?_);rw[É hk];dsimp only;refine Á (Ou n _ (by rw[Ł hk];lia) λys d2 hp=>È<|h _ d2 ?_);exact(hp.cons _).trans<|XT hk
abbrev SetIt(h:Ĉ)(it a:Ï)(f:Ã)(i n ep:Nat):Prop:=∃o,h.get? it=eM o/\o.cls=.type "set_iterator"/\o.data=.fields #[f,.int i 0,.ref a,.int n 0,.int ep 0]
variable {it:Ï} {a:Ï} {f:Ã} {i:Nat} {ep:Nat}
def SetIt.typeIs(h:SetIt s.heap it a f i n ep):s.TypeIs (.ref it) "set_iterator":=by let⟨o,h1,h2,_⟩:=h;exact⟨o,h1,h2⟩
structure SetO(h:Ĉ)(a:Ï)(o:Obj)(es:Array<|Int×Ã)(ep:Nat)(t:η):Prop where
 at_:h.get? a=eM o
 dat:o.data=.set es ep t
 fit:t.fits es.size=eP
def OG{Q:Ã->Ç->Prop}(hit:SetIt s.heap it a f i n ep)(h:Q (.ref it) s):wpAny (à prog w) A (d0<|.ref it) Q E s:=by have hT:=hit.typeIs;refine wpAny_pyIter_slot hT JF<|Ģ JF hT Ey ?_<|Et _;show wpAny _ _ (ret<|.ref it) _ _ s;exact È ⟨_,rfl,"set_iterator",_,hT,slot_snext.lookup,h⟩
variable {Q:Option Ã->Ç->Prop}
def Ab(hh:A.handled=eN)(hQ:∀h',(∀b o,s.heap.get? b=eM o->h'.get? b=eM o)->Q eN {s with heap:=h'}) :
  wpAny (à prog w) A (do raiseNew (<-newExc (.type "StopIteration") []):Sem Fin) (λ_ _=>False) (λe s'=>∃h',(∀b o,s.heap.get? b=eM o->h'.get? b=eM o)/\s'={s with heap:=h'}/\s'.TypeIs e "StopIteration") s:=by
 show wpAny _ _ (newExc (.type "StopIteration") [] >>= _) _ _ _;refine Á ?_;simp only[newExc,newTuple];refine Á (ć ?_<|by size_fits);refine Á (m:=aj _ _) (bL (a:=Value.none) (by first|rfl|(simp only[aj];rfl)) ?_);refine ć ?_ (by size_fits);simp only[raiseNew];refine Á<|wpAny_handled ?_;rw[hh];refine Á<|È<|wpAny_throw ?_;exact⟨_,λb o e=>Å _<|Å _ e,rfl,_,Ù _ rfl,rfl⟩
def W8(hT:s.TypeIs (.ref it) "set_iterator")
  (h:wpAny (à prog w) A.in1 (Builtin.«set_iterator.__next__» ⟨[.ref it],[]⟩) (λfin s'=>∃v,fin=.done (.ret v)/\Q (eM v) s') (λe s'=>s'.TypeIs e "StopIteration"/\Q eN s') s):wpAny (à prog w) A (Ϝ<|.ref it) Q E s:=by
 unfold Ϝ;refine Á<|wpAny_attempt<|ĺ (name:=gD "__next__") hT slot_snext<|Ģ slot_snext hT CY ?_<|E1 _;refine Ĳ h (λfin s' ⟨v,e,q⟩=>⟨v,e,È q⟩) λe s' ⟨t,q⟩=>?_;refine Á<|bC (T:="StopIteration") (b:=eP) t isSubtype_stop ?_;exact È q
abbrev NX(prog:ç)(w:þ)(a:Ï)(o:Obj)(ep:Nat)(f:Nat->Nat)(ord:List Ã):Prop :=
 ∀(A:ĉ) (s:Ç) (Q:Option (Ã×Nat)->Ç->Prop) (E:Ã->Ç->Prop) (i:Nat),i<=ord.length->s.heap.get? a=eM o->Q (ord[i]?.map (·,f<|i+1)) s->wpAny (à prog w) A (setNext a (f i) i ep) Q E s
def MR{h:Ĉ}{o:Obj}{vs:Array Ã}{k:Nat}{x:Ã}(ho:h.get? it=eM o)(hc:o.cls=.type "set_iterator")(hd:o.data=.fields vs) :
  ∃o',(h.update it (ϋ (·.setIfInBounds k x))).get? it=eM o'/\o'.cls=.type "set_iterator"/\o'.data=.fields (vs.setIfInBounds k x) :=
 ⟨_,Ė _ ho<|cT<|Ο hd _,(Obj.cls_mapFields ..).trans hc,Ο hd _⟩
end
def Walks.setT{prog:ç}{w:þ}{A:ĉ}(hh:A.handled=eN)(I a:Ï)(ű:a≠I){o:Obj}{es:Array (Int×Ã)}{ep:Nat}{t:η}{f:Nat->Nat}{ord:List Ã}(hl:ord.length=es.size)(nx:NX prog w a o ep f ord) :
  Walks prog w A I [I,a] [I] es.size (λi v=>ord[i]?=eM v) (λi h=>SetIt h I a (.int (f i) 0) i es.size ep/\SetO h a o es ep t) where
 sub:=λb hb=>by simp at hb;simp[hb]
 frame:=λ_ _ _ st hk=>⟨by let⟨o,h1,h2⟩:=st.1;exact⟨o,hk I (by simp) o h1,h2⟩,hk a (by simp) _ st.2.at_,st.2.dat,st.2.fit⟩
 item:=λi s Q E hi st hQ=>by let⟨st,so⟩:=st;refine W8 st.typeIs ?_;let⟨oi,h1,h2,h3⟩:=st;show wpAny _ _ (fieldsOf (.ref I) >>= _) _ _ s;refine Á<|al h1 h3 ?_;dsimp only;refine Á<|Ż so.at_ so.dat so.fit ?_;refine Œ (λz=>gB z<|by simp) λ_=>?_;rw[Ö,Ö,Ö];have hx:ord[i]?=eM ord[i]:=É (by lia);refine Á (nx _ s _ _ i (by lia) so.at_ ?_);rw[hx];dsimp only[Option.map];refine Á (Ō h1 h3 (by simp) ?_);let⟨o2,g1,g2,g3⟩:=MR (k:=0) (x:=ĩ<|f<|i+1) h1 h2 h3;refine Á (Ō g1 g3 (by simp) ?_);let⟨o4,g4,g5,g6⟩:=MR (k:=1) (x:=ĩ<|(i:Int)+1) g1 g2 g3;have sb:=(ā s.heap I (ϋ (·.setIfInBounds 0 (ĩ<|f<|i+1)))).trans (ā _ I (ϋ (·.setIfInBounds 1 (ĩ<|(i:Int)+1))));refine È ⟨_,rfl,hQ _ _ s.toks hx ⟨⟨o4,g4,g5,by rw[g6];simp[ĩ]⟩,?_,so.dat,so.fit⟩ λb ob hb e=>sb.extBut b ob (λz=>hb<|by simp[z]) e⟩;exact sb.extBut a _ ű so.at_
 done:=λs Q E st hQ=>by
  let⟨st,so⟩:=st;refine W8 st.typeIs ?_;let⟨oi,h1,h2,h3⟩:=st;show wpAny _ _ (fieldsOf (.ref I) >>= _) _ _ s;refine Á<|al h1 h3 ?_;dsimp only;refine Á<|Ż so.at_ so.dat so.fit ?_;refine Œ (λz=>gB z<|by simp) λ_=>?_;rw[Ö,Ö,Ö];refine Á (nx _ s _ _ es.size (by lia) so.at_ ?_);rw[Ń<|by lia];dsimp only[Option.map];refine Á (Ō h1 h3 (by simp) ?_);refine Ĳ (Ab (A:=A.in1) (Q:=Q) hh λh' hk=>?_) (λ_ _ z=>z.elim) λe s' ⟨h',hk,e2,tt⟩=>⟨tt,?_⟩
  .exact hQ h' s.toks λb ob hb e=>hk b ob ((ā s.heap I _).extBut b ob (λz=>hb<|by simp[z]) e)
  .subst e2;exact hQ h' s.toks λb ob hb e=>hk b ob ((ā s.heap I _).extBut b ob (λz=>hb<|by simp[z]) e)
 self:=λ_ _ _ _ st hQ=>OG st.1 hQ
def Walks.setD{prog:ç}{w:þ}{A:ĉ}(hh:A.handled=eN)(I a T:Ï)(ű:a≠I)(hnT:T≠I){o oT:Obj}{es:Array (Int×Ã)}{ep:Nat}{t:η}{ks:List Nat}(hl:ks.length=es.size)(hk:∀k∈ks,k<es.size)
  (hT:oT.data=.seq (ks.map λ(k:Nat)=>ĩ k).toArray) :
  Walks prog w A I [I,a,T] [I] es.size (λi v=>(ks.map λk=>(es.getD k (0,.none)).2)[i]?=eM v) (λi h=>SetIt h I a (.ref T) i es.size ep/\SetO h a o es ep t/\h.get? T=eM oT) where
 sub:=λb hb=>by simp at hb;simp[hb]
 frame:=λ_ _ _ st hk=>⟨by let⟨o,h1,h2⟩:=st.1;exact⟨o,hk I (by simp) o h1,h2⟩,⟨hk a (by simp) _ st.2.1.at_,st.2.1.dat,st.2.1.fit⟩,hk T (by simp) _ st.2.2⟩
 item:=λi s Q E hi st hQ=>by
  let⟨st,so,sT⟩:=st;refine W8 st.typeIs ?_;let⟨oi,h1,h2,h3⟩:=st;show wpAny _ _ (fieldsOf (.ref I) >>= _) _ _ s;refine Á<|al h1 h3 ?_;dsimp only;refine Á<|Ż so.at_ so.dat so.fit ?_;refine Œ (λz=>gB z<|by simp) λ_=>?_;refine Á<|Š sT hT ?_;have hi':i<ks.length:=by lia
  have hx:ks[i]?=eM ks[i]:=É hi';have hki:=hk ks[i]<|Ğ hi';have hp:((ks.map λ(k:Nat)=>ĩ k).toArray)[(i:Int).toNat]?=eM (.int (ks[i]:Nat) 0):=by rw[Ö];simp[hx,ĩ]
  dsimp only;rw[hp];dsimp only;rw[Ö,Ö];unfold setNextDrawn;refine Á<|Á<|Ů so.at_ so.dat so.fit ?_;dsimp only;refine Œ (λz=>gB z<|by simp) λ_=>?_;have he:es[ks[i]]?=eM es[ks[i]]:=ý hki;rw[he];dsimp only;refine È ?_;refine Á (Ō h1 h3 (by simp) ?_);let⟨o4,g4,g5,g6⟩:=MR (k:=1) (x:=ĩ<|(i:Int)+1) h1 h2 h3;have sb:=ā s.heap I (ϋ (·.setIfInBounds 1 (ĩ<|(i:Int)+1)));refine È ⟨_,rfl,hQ _ _ s.toks ?_ ⟨⟨o4,g4,g5,by rw[g6];simp[ĩ]⟩,⟨sb.extBut a _ ű so.at_,so.dat,so.fit⟩,sb.extBut T _ hnT sT⟩ λb ob hb e=>sb.extBut b ob (λz=>hb<|by simp[z]) e⟩;rw[Ø,hx];simp[ϸ,hki]
 done:=λs Q E st hQ=>by
  let⟨st,so,sT⟩:=st;refine W8 st.typeIs ?_;let⟨oi,h1,h2,h3⟩:=st;show wpAny _ _ (fieldsOf (.ref I) >>= _) _ _ s;refine Á<|al h1 h3 ?_;dsimp only;refine Á<|Ż so.at_ so.dat so.fit ?_;refine Œ (λz=>gB z<|by simp) λ_=>?_;refine Á<|Š sT hT ?_;have hp:((ks.map λ(k:Nat)=>ĩ k).toArray)[(es.size:Int).toNat]?=eN:=by rw[Ö];simp[hl]
  dsimp only;rw[hp];dsimp only;refine Á (Ō h1 h3 (by simp) ?_);let⟨o4,g4,g5,g6⟩:=MR (k:=0) (x:=ĩ 0) h1 h2 h3;refine Á (Ō g4 g6 (by simp) ?_);refine Ĳ (Ab (A:=A.in1) (Q:=λ_ _=>True) hh λ_ _=>trivial) (λ_ _ z=>z.elim) λe s' ⟨h',hk,e2,tt⟩=>⟨tt,?_⟩
  subst e2;exact hQ h' s.toks λb ob hb e=>hk b ob ((ā _ I _).extBut b ob (λz=>hb<|by simp[z])<|(ā s.heap I _).extBut b ob (λz=>hb<|by simp[z]) e)
 self:=λ_ _ _ _ st hQ=>OG st.1 hQ
section
variable {prog:ç}{w:þ}{a:Ï}{o:Obj}{es:Array (Int×Ã)}{ep:Nat}{t:η}
def G7(hb:byT w=eP)(hd:o.data=.set es ep t)(hf:t.fits es.size=eP):NX prog w a o ep (λ_=>0) ((pickOrder (w.params.setOrder a ep) es).toList.map (·.2)):=λA s Q E i hil ho h=>by unfold setNext;refine Á<|Ů ho hd hf ?_;dsimp only;unfold ϰ;refine Á<|Á<|ŷ<|È ?_;have aP:(à prog w).w.params.followText "set-order" = eP:=hb;dsimp only;rw[aP];simp only[↓reduceIte,bne_self_eq_false,Ĭ];refine Á ?_;unfold setWalk ϰ;refine Á<|Ů ho hd hf ?_;dsimp only;refine Á<|Á<|ŷ<|È ?_;dsimp only;rw[aP];simp only[↓reduceIte];refine Á<|ŷ<|È<|È ?_;dsimp only;rw[Ø,Ă,ũ]at h;exact h
def LS(hb:byT w=eQ)(tb:Tb (byT w) t)(hpl:(!t.plain&&gC (es.size > 1))=eQ)(hd:o.data=.set es ep t)(hf:t.fits es.size=eP) :
  NX prog w a o ep (λi=>match i with|0=>0|k+1=>t.place.getD k 0+1) (es.toList.map (·.2)):=λA s Q E i hil ho h=>by
 have e0:∀slot,setNext a slot i ep=(do
     let (es,epoch,t)<-setState a
     if<-ϰ then
       if epoch != ep then am "set_iterator.__next__:elements-changed"
       return ((<-setWalk a)[i]?).map λe=>(e.2,slot)
     if(!t.plain&&gC (es.size > 1))then am "set_iterator.__next__:the-table-is-plain-no-more"
     (do if !t.led && !es.isEmpty then am "set:maker-not-led")
     let i:=ļ t.place slot
     return match es[i]?,t.place[i]? with
       |some (_,x),eM j=>eM (x,j+1)
       | _,_=>eN):=λ_=>rfl
 rw[e0];refine Á<|Ů ho hd hf ?_;dsimp only;unfold ϰ;refine Á<|Á<|ŷ<|È ?_;have aP:(à prog w).w.params.followText "set-order" = eQ:=hb;have hled:=tb.led hb;dsimp only;rw[aP,hpl,hled];simp only[Ĭ,↓reduceIte,Bool.not_true,ϥ];refine È ?_;have hsz:t.place.size=es.size:=by simp only[SetTable.fits,bAq,beq_iff_eq,gA]at hf;exact hf.1
 have fin:∀slot,i<=es.size->OW t.place slot i->Q (match es[ļ t.place slot]?,t.place[ļ t.place slot]? with|some (_,x),eM j=>eM (x,j+1)|_,_=>eN) s:=λslot hi hc=>by
  rw[Ce (Oq tb.ris slot) hc];rw[Ø,Ă]at h;by_cases Ϡ:i<es.size
  .have h1:es[i]?=eM es[i]:=ý Ϡ;have h2:t.place[i]?=eM (t.place[i]'(by lia)):=ý _;rw[h1]at h ⊢;rw[h2];have h3:t.place.getD i 0=t.place[i]'(by lia):=by simp[ϸ,show i<t.place.size by lia]
   dsimp only[Option.map]at h ⊢;rw[h3]at h;exact h
  .have h1:es[i]?=eN:=ϑ (by lia);rw[h1]at h ⊢;exact h
 cases i with
 |zero=>exact fin 0 (ĳ _)<|BZ _
 |succ k =>
  have hk:k<t.place.size:=by simp at hil;lia
  refine fin _ (by lia)<|BP tb.ris ?_;rw[ý hk];simp[ϸ,hk]
end
structure Near(s s':Ç):Prop where
 heap:∀b o,s.heap.get? b=eM o->s'.heap.get? b=eM o
 gens:s'.gens=s.gens
 os:s'.os=s.os
def Ga:∀{vs us:List Ã}{ns:List Int},vs.Perm us->Ā us ns->∃ms,ms.Perm ns/\Ā vs ms:=by
 intro vs us ns h;induction h generalizing ns with
 |nil=>exact λr=>by cases r;exact⟨[],.nil,.nil⟩
 |cons x _ ih =>
  intro r;cases r with
  |cons n t r=>let⟨ms,h1,h2⟩:=ih r;exact⟨n::ms,h1.cons n,.cons n t h2⟩
 |swap x y l =>
  intro r;cases r with
  |cons n t r=>cases r with
   |cons m u r=>exact⟨m::n::_,.swap _ _ _,.cons m u<|.cons n t r⟩
 |trans _ _ ih1 ih2 =>intro r;let⟨ms,h1,h2⟩:=ih2 r;let⟨ks,h3,h4⟩:=ih1 h2;exact⟨ks,h3.trans h1,h4⟩
section
variable {prog:ç}{w:þ}{A:ĉ}{E:Ã->Ç->Prop}{s:Ç}
def EK{r:Ï}{Q:Bool->Ç->Prop}(hT:s.TypeIs (.ref r) "set")(h:Q eQ s):wpAny (à prog w) A (Builtin.List.listLengthHint<|.ref r) Q E s:=by
 unfold Builtin.List.listLengthHint;refine Á<|wpAny_specialOf hT PySem.F.slot_set_len.lookup ?_;generalize hid:("set.__len__" : String)=id0
 wp_delta
 rw[show splitId id0=eM ("set","__len__") from by subst hid;decide +kernel];subst hid;refine Á (bC (T:="set") (b:=eP) hT (by rw[cG];kernel_rfl) ?_);refine Œ (λhab=>gB hab<|by decide) λ_=>?_;refine Œ (λ_=>?_) (λhab=>gB (by decide +kernel) hab);exact Á<|Ϫ hT<|È h
def CZ{a:Ï}{l:List Int}{Q:Ã->Ç->Prop}(hh:A.handled=eN)(hS:SetI prog w s.heap a l)
  (h:∀s' I fp St vs ms,Near s s'->s.heap.objs.size<=I->(∀b∈fp,b=a\/s.heap.objs.size<=b)->ms.Perm l->Ā vs ms->Walks prog w A I fp [I] l.length (λi v=>vs[i]?=eM v) St->St 0 s'.heap->Q (.ref I) s') :
  wpAny (à prog w) A (d0<|.ref a) Q E s:=by
 let⟨o,es,ep,t,es0,ho,hex,hd,hel,hb,hf,ht,hp,hi⟩:=id hS;have hsz:es.size=l.length:=by rw[<-XM hi,À,<-hp.length_eq,ò]
 rw[<-hsz]at h;have hT:s.TypeIs (.ref a) "set":=⟨o,ho,hex.1⟩
 have Ϡ:=Ü ho;refine wpAny_pyIter_slot hT F.slot_set_iter<|Ģ F.slot_set_iter hT DE ?_<|F.args_set_iter_1 _;have e0:Builtin.«frozenset.__iter__» ⟨[.ref a],[]⟩=(do
     let n<-cH a
     let d<-(do
       let (es,_,t)<-setState a
       let byText<-ϰ
       return !byText&&(!t.plain&&gC (es.size > 1)))
     let first<-if d then newTuple ((<-dN n (List.range n)).map λ(i:Nat)=>ĩ i)else pure (ĩ 0)
     ret (<-newFields "set_iterator" [first,ĩ 0,.ref a,ĩ n,ĩ (<-setEpoch a)])):=rfl
 rw[e0];unfold cH;refine Á<|Á<|Ż ho hd hf<|È ?_;refine Á<|Á<|Ů ho hd hf ?_;dsimp only;unfold ϰ;refine Á<|Á<|ŷ<|È<|È ?_;have ebt:(à prog w).w.params.followText "set-order" = byT w:=rfl;dsimp only;rw[ebt];have mapP:∀es':List<|Int×Ã,es'.Perm es.toList->∃ms,ms.Perm l/\Ā (es'.map (·.2)) ms:=λes' q=>Ga ((q.trans hp).map _) hi;by_cases hdr:(!byT w&&(!t.plain&&gC (es.size > 1)))=eP
 .rw[gw hdr];refine Á (Ou es.size (List.range es.size) (by simp) λks d hks=>Á ?_);have hkl:ks.length=es.size:=by rw[hks.length_eq,ĥ]
  refine wpAny_newTuple ?_ (by rw[À,hkl];exact bc hb);refine Á<|wpAny_setEpoch_of (Å _ ho) hd hf ?_;refine Á<|ć<|È ⟨_,rfl,"set_iterator",_,⟨_,Ù _ rfl,rfl⟩,slot_snext.lookup,?_⟩;have zs:(s.heap.push { cls:=.type "tuple",dict:=eN,data:=.seq (List.map (λ(i:Nat)=>ĩ i) ks).toArray }).objs.size=s.heap.objs.size+1:=ι ..;let⟨ms,m1,m2⟩:=mapP (ks.map λk=>es.getD k (0,.none)) (by
    refine(hks.map _).trans<|List.Perm.of_eq ?_
    refine List.ext_getElem (by simp) λi h1 h2=>?_
    have hi:i<es.size:=⇑h1
    simp[ϸ,hi])
  rw[í]at m2;refine h _ _ [_,a,s.heap.objs.size] _ _ ms ⟨λb o e=>Å _<|Å _ e,rfl,rfl⟩ (by rw[zs];exact ő _) (λb hb=>?_) m1 m2
   (Walks.setD (o:=o) (oT:={cls:=.type "tuple",dict:=eN,data:=.seq (List.map (λ(i:Nat)=>ĩ i) ks).toArray}) (es:=es) (ep:=ep) (t:=t) (ks:=ks) hh _ a s.heap.objs.size (by rw[zs];exact é<|Ĺ Ϡ) (by rw[zs];exact é<|ē _) hkl (λk hk=>ŗ.mp<|hks.mem_iff.mp hk) rfl)
   ⟨⟨_,Ù _ rfl,rfl,rfl⟩,⟨Å _<|Å _ ho,hd,hf⟩,Å _<|Ù _ rfl⟩
  simp only[Æ,Í,or_false]at hb;rcases hb with rfl|rfl|rfl
  .exact .inr (by rw[zs];exact ő _)
  .exact .inl rfl
  .exact .inr<|Ó _
 .rw[gx hdr];refine Á<|È ?_;refine Á<|wpAny_setEpoch_of ho hd hf ?_;refine Á<|ć<|È ⟨_,rfl,"set_iterator",_,⟨_,Ù _ rfl,rfl⟩,slot_snext.lookup,?_⟩;have go:∀(f:Nat->Nat) (es':List<|Int×Ã),f 0=0->es'.Perm es.toList->NX prog w a o ep f (es'.map (·.2))->Q (.ref s.heap.objs.size) {s with heap:=s.heap.push {cls:=.type "set_iterator",dict:=eN,data:=.fields [ĩ 0,ĩ 0,.ref a,ĩ es.size,ĩ ep].toArray}}:=λf es' f0 hes nx=>by
   let⟨ms,m1,m2⟩:=mapP es' hes;have hl:(es'.map (·.2)).length=es.size:=by rw[À,hes.length_eq,ò]
   refine h _ _ [_,a] _ _ ms ⟨λb o e=>Å _ e,rfl,rfl⟩ (Ó _) (λb hb=>?_) m1 m2 (Walks.setT (t:=t) hh _ a (é Ϡ) hl nx) ⟨⟨_,Ù _ rfl,rfl,by rw[f0];rfl⟩,Å _ ho,hd,hf⟩;simp only[Æ,Í,or_false]at hb;rcases hb with rfl|rfl
   .exact .inr<|Ó _
   .exact .inl rfl
  cases hbt:byT w with
  |true=>exact go _ _ rfl (BM _ es)<|G7 hbt hd hf
  |false =>rw[hbt]at hdr;exact go (λi=>match i with|0=>0|k+1=>t.place.getD k 0+1) _ rfl .rfl (LS hbt ht ⇑hdr hd hf)
end
end L2
namespace L2
open PySem PySem.Spec PyProof.Rows
def Df{vs:List Ã}{į:Array Ã}{n:Nat}(h:ItemsOf (λi v=>vs[i]?=eM v) į n)(hn:vs.length=n):į.toList=vs:=by
 refine List.ext_getElem? λi=>?_;rw[Ă];by_cases hi:i<į.size
 .rw[ý hi];exact(h.2 i _<|ý hi).symm
 .rw[ϑ (by lia),Ń (by have:=h.1;lia)]
section
variable {prog:ç}{w:þ}{A:ĉ}{E:Ã->Ç->Prop}{s:Ç}
variable {a:Ï} {l:List Int}
def G8(hh:A.handled=eN)(hS:SetI prog w s.heap a l)(S:Ï)(hSa:S≠a)(hs:s.heap.get? S=eM {cls:=.type "list",data:=.seq #[] 0}){R:bz->Ç->Prop}
  (h:∀s' vs ms c,s'.gens=s.gens->s'.os=s.os->(∀b o,b≠S->s.heap.get? b=eM o->s'.heap.get? b=eM o)->ms.Perm l->Ā vs ms->s'.heap.get? S=eM {cls:=.type "list",dict:=eN,data:=.seq vs.toArray c,slots:=#[]}->R (.ok<|.ret<|.ref S) s') :
  wpAny (à prog w) A.in1 (Builtin.List.listExtendWith (.ref S) (.ref a)<|.ref S) (λfin s'=>match fin with|.done f=>R (.ok f) s'|.again c'=>c'.quiet=eP/\codeAny (à prog w) A c' R s') (λe s'=>R (.error e) s') s:=by
 have hl:=hS.setOf;let⟨o,es,ep,t,es0,ho,hex,hd,hel,hb,hf,ht,hp,hi⟩:=id hS;have hsz:l.length<=Ý:=bc (by rw[<-XM hi,À,<-hp.length_eq,ò];exact hb);have hT:s.TypeIs (.ref a) "set":=⟨o,ho,hex.1⟩
 have hSs:S<s.heap.objs.size:=Ü hs;unfold Builtin.List.listExtendWith;refine Á<|Ϫ (T:="set") hT ?_;have h1:Builtin.List.listSameRef (.ref S) (.ref a)=eQ:=by simp[Builtin.List.listSameRef,hSa]
 have h2:(Value.type "set" == Value.type "list")=eQ:=by decide
 have h3:(Value.type "set" == Value.type "tuple")=eQ:=by decide
 simp only[h1,h2,h3,Ϸ,Ĭ,if_false];refine Á<|CZ (A:=A.in1) hh hS λs1 I fp St vs ms ne hI hfp pm ia W st=>?_;have hsf:S∉fp:=λz=>by
  rcases hfp S z with q|q
  .exact hSa q
  .exact Ĥ _<|è hSs q
 have hvl:vs.length=l.length:=(XM ia).trans pm.length_eq;have key:∀(h':Ĉ) (c tk:Nat),St 0 h'->(∀b o,b≠S->s1.heap.get? b=eM o->h'.get? b=eM o)->h'.get? S=eM {cls:=.type "list",data:=.seq #[] c}->codeAny (à prog w) A (.builtin "list.extend.loop" ⟨[.ref S,.ref I,.ref S],[]⟩) R {s1 with heap:=h',toks:=tk}:=by
  intro h' c tk dP hk hS1;refine codeAny_extend_loopS W.toS hsz S hsf (.ref S) l.length 0 _ #[] c rfl (ĳ _) dP hS1 (ItemsOf.nil _) λs2 į c2 hm hS2 hacc=>?_;have ev:į.toList=vs:=Df hacc hvl;refine h s2 vs ms c2 (hm.gens.trans ne.gens) (hm.os.trans ne.os) (λb o hb e=>?_) pm ia (by rw[<-ev];simpa using hS2);refine hm.heap b o (λz=>?_)<|hk b o hb<|ne.heap b o e;rcases Æ.mp z with q|z
  .exact hb q
  .have z:b=I:=⇑z
   subst z;exact Ĥ _<|è (Ü e) hI
 have hS1:=ne.heap S _ hs;refine Á<|Ĝ<|EK ⟨o,ne.heap a o ho,hex.1⟩ ?_;refine Œ (λ_=>?_) λ_=>È ⟨ř PySem.F.plain_extend_loop _,key _ 0 _ st (λb o _ e=>e) hS1⟩;refine Á<|ϭ ?_;refine Á ?_;show wpAny _ _ (dL S (·.push .none) >>= λ_=>dL S (·.pop)) _ _ _;refine Á<|Τ hS1 rfl ?_;have hS2:=Ė (Ξ (·.push Value.none)) hS1 rfl;refine Τ (hz:=by seq_fits) hS2 rfl ?_;have hS3:=Ė (Ξ (·.pop)) hS2 rfl;refine È ⟨ř PySem.F.plain_extend_loop _,key _ _ _ ?_ (λb o hb e=>?_) hS3⟩
 .refine W.frame 0 _ _ st λb hb o e=>?_;have dU:b≠S:=λz=>hsf<|z▸hb;exact(ð _ _ dU.symm).trans<|(ð _ _ dU.symm).trans e
 .exact(ð _ _ hb.symm).trans<|(ð _ _ hb.symm).trans e
def Os{Q:List Ã->Ç->Prop}(hh:A.handled=eN)(hS:SetI prog w s.heap a l)(h:∀s' vs ms,Near s s'->ms.Perm l->Ā vs ms->Q vs s'):wpAny (à prog w) A (collect<|.ref a) Q E s:=by
 have Ϡ:a<s.heap.objs.size:=by let⟨_,_,_,_,_,e,_⟩:=hS;exact Ü e
 unfold collect;refine Á<|wpAny_runValue<|Į F.entry_proto_collect ?_;rw[ċ F.plain_proto_collect _];show wpAny _ A.in1 (newList [] >>= λl=>again<|.builtin "list.__iadd__" ⟨[l,.ref a],[]⟩) _ _ s;refine Á<|ć ?_;refine È ⟨ř F.plain_list_iadd _,Į F.entry_list_iadd ?_⟩;rw[ċ F.plain_list_iadd _];show wpAny _ A.in1 (Builtin.List.listExtendWith (.ref s.heap.objs.size) (.ref a)<|.ref s.heap.objs.size) _ _ _;have fin:∀(q:bz) (s':Ç),(∃vs ms c,q=.ok (.ret<|.ref s.heap.objs.size)/\Near s s'/\ms.Perm l/\Ā vs ms/\s'.heap.get? s.heap.objs.size=eM {cls:=.type "list",dict:=eN,data:=.seq vs.toArray c,slots:=#[]})->
   wants (λ(a:Ã) s'=>wpAny (à prog w) A (match a with
     |.ref a=>do
       match (<-load a).data with
       |.seq xs _=>pure xs.toList
       |_=>am "internal:collect"
     | _=>am "internal:collect") Q E s') E q s':=λq s' ⟨vs,ms,c,e,ne,pm,ia,hg⟩=>by
  subst e;show wpAny _ A (load s.heap.objs.size >>= _) _ _ _;refine Á<|wpAny_load hg<|È ?_;exact h s' _ ms ne pm ⇑ia
 refine Ĳ (G8 (A:=A) (s:={ s with heap:=s.heap.push { cls:=.type "list",data:=.seq ([]:List Ã).toArray } }) (R:=λq s'=>∃vs ms c,q=.ok (.ret<|.ref s.heap.objs.size)/\Near s s'/\ms.Perm l/\Ā vs ms/\s'.heap.get? s.heap.objs.size=eM { cls:=.type "list",dict:=eN,data:=.seq vs.toArray c,slots:=#[] })
   hh (hS.at λo e=>Å _ e) s.heap.objs.size (Ų Ϡ) (Ù _ rfl) λs' vs ms c g1 g2 g3 pm ia hg=>⟨vs,ms,c,rfl,⟨λb o e=>g3 b o (é<|Ü e)<|Å _ e,g1,g2⟩,pm,ia,hg⟩) (λf s' z=>?_) λe s' z=>?_
 .cases f with
  |done f=>exact fin _ _ z
  |again c=>exact⟨z.1,ψ z.2 λq s2 y=>fin q s2 y⟩
 .exact fin _ _ z
end
variable {X:Cx}
def Inv.near{Â:List (Ï×Obj)}{σ:St}{H:Hp}{s s':Ç}(I:Inv X Â σ H s)(ne:Near s s'):Inv X Â σ H s':=by have J:Inv X Â σ H {s with heap:=s'.heap,toks:=s'.toks}:=I.kept ne.heap;exact⟨J.ok,ne.os.trans J.os,by rw[ne.gens];exact J.bare,J.base,J.loc,J.cell,J.free,J.freeC,J.pin,J.hok,J.len⟩
abbrev tSS(K:Frag)(te:TE):TE:=λσ H Q=>HP te FO σ H λvs H1=>∃p,∃ns:List Int,vs=[.ref p]/\fZ K H1 p (ns.map V.int)/\ns.length<64/\∀l,H1 l=eN->Q (.ref l) (upd H1 l<|.lst<|(sortI<|ύ (λi=>ns.getD i 0) ns.length).map V.int)
def M5{e:Expr}{te:TE}{p p2 î pos2:Pos}(hc:X.calm=eP)(hg:Gl X "sorted")(hm:X.mg "sorted" = eN)(hg2:Gl X "set")(hm2:X.mg "set" = eN)(he:PE X e te)(hs:ß [e] X.env=[(eQ,eval e X.env)]) :
  PE X (.Call (.Name "sorted" p) [.Call (.Name "set" p2) [e] [] pos2] [] î) (tSS X.K te):=by
 intro Â s σ H Q I h;refine Ĵ (Xp (u:=.builtin "sorted") I hg hm (by kernel_rfl) ?_);refine PyProof.Rows.callWith_builtin1 ?_ rfl rfl;show wpAny _ _ (spliced<|(eQ,eval (.Call (.Name "set" p2) [e] [] pos2) X.env)::[]) _ _ _;refine Calls.spliced_cons ?_;refine Ĵ (Xp (u:=.type "set") I hg2 hm2 (by kernel_rfl) ?_ (by decide)<|by decide);refine callWith_type1 (thn ((fX he fW hs) pos2 Â s σ H _ I h) λus s1 ⟨vs,H1,I1,r1,q1⟩=>?_) hs rfl;let⟨a,ns,e1,hq,h64,q⟩:=q1;subst e1;let⟨u,rfl,ru⟩:=Yo r1;cases ru;let⟨õ,rv,pl,hz⟩:=I1.list hq;have hlen:=rv.length;rw[À]at hlen;refine Dz (I1.ok.hd hc) pl.isList (by simpa using ZT rv) (by rw[Ð];show õ.length+1<4096;lia) λh' tk x hk=>Calls.spliced_nil ?_
 replace x:SetI X.prog X.w h' s1.heap.objs.size<|ύ (λi=>ns.getD i 0) ns.length:=by rw[hlen];rw[show õ.toArray.size=õ.length from Ð]at x;exact x
 have I2:Inv X Â σ H1 {s1 with heap:=h',toks:=tk}:=I1.kept hk;refine Calls.call_function_entry kind_sorted plain_sorted entry_sorted (args_sorted1 _) ?_;unfold Builtin.«sorted»;refine Á (m:=checkCount "sorted" 1 1 _)<|È ?_;refine Á<|Os (A:=X.A.in1) (I1.ok.hd hc) x λs3 vs ms ne pm ia=>?_;have I3:=I2.near ne;have hvl:vs.length<64:=by rw[XM ia,pm.length_eq];exact Ë (aL _ _) (by lia)
 refine Á (dq ?_<|by unfold Ý;lia);have hoL:(s3.heap.push<|ϊ "list" vs.toArray 0).get? s3.heap.objs.size=eM (ϊ "list" vs.toArray 0):=Ù _ rfl;refine Á<|Ĝ<|Ģ slot_list_sort ⟨_,hoL,rfl⟩ entry_list_sort (list_sort_tree hoL ia hvl λout ck a1 a2 a3=>⟨_,rfl,?_⟩)<|args_list_sort _;have e:=YH (a2.trans pm) a3;subst e;let⟨n,hat⟩:=sortedHeap_at (out:=out) hoL;refine È ⟨_,rfl,.ref s3.heap.objs.size,_,I3.laid (a:=s3.heap.objs.size) (o:=.lst<|(sortI<|ύ (λi=>ns.getD i 0) ns.length).map V.int) (t':=s3.toks) (λb o e=>?_) (Ó _) ?_,rfl,q _<|I3.hok.fresh<|Ó _⟩
 .have hb:=Ü e;rw[sortedHeap_old (é hb)<|by rw[size_push'];exact Ĺ hb];exact Å _ e
 .exact⟨by rw[À,YO];have:=aL (λi=>ns.getD i 0) ns.length;unfold Ý;lia,out.toList,n,YN a1,by simpa[ϊ]using hat⟩
end L2
namespace Snd
open PySem L2
variable {i:Inf}{X:Cx}{Φ:O.Fs}
def OL{e:Expr}{m:O.E}{p p2 î pos2:Pos}(hc:X.calm=eP)(hK:X.K=i.K)(he:PE X e<|tE X i Φ m)(hg:Gl X "sorted")(hm:X.mg "sorted" = eN)(hg2:Gl X "set")(hm2:X.mg "set" = eN)(Δ:ß [e] X.env=[(eQ,eval e X.env)]) :
  PE X (.Call (.Name "sorted" p) [.Call (.Name "set" p2) [e] [] pos2] [] î) (tE X i Φ<|.bi .sortedSet<|.cons m .nil):=by
 refine(M5 hc hg hm hg2 hm2 he Δ).imp λσ H Q ⟨env,G,Qm,Em,p,w,c⟩=>?_;rw[O.q_e_bi,O.q_a_cons]at w;change tE X i Φ m σ H _;refine one p w λv G1 H1 x k1 p1 r q=>?_;rw[O.q_a_nil]at q
 replace q:(O.biSortedSet G1 v).wp G1 Qm:=q
 unfold O.biSortedSet at q;cases z:O.sortOf G1 v with
 |none=>rw[z]at q;exact(Zq q).elim
 |some ns =>
  rw[z]at q;dsimp only at q;split at q
  .rename_i h4;let⟨a,rfl,hs⟩:=Cv p1.hp r z;refine⟨a,ns,rfl,by rw[hK];exact hs,h4,?_⟩;rw[KD<|Ea ns];exact Yw p1.hp (MQ q) (c.go k1) λp hp=>⟨_,eS,RVs.ints _⟩
  .exact(Zq q).elim
section
variable {K:Frag}{H H':Hp}
structure fV(H H':Hp):Prop where
 t:∀a xs,H a=eM (.tup xs)->H' a=eM (.tup xs)
 f:∀a o xs,H a=eM (.frz o<|.lst xs)->H' a=eM (.frz o<|.lst xs)
mutual
theorem RV.keepL(k:fV H H'):∀{v:O.Val}{x:V},RV K H v x->RV K H' v x
 |_,_,.non=>.non
 |_,_,.bl b=>.bl b
 |_,_,.int i=>.int i
 |_,_,.str s=>.str s
 |_,_,.tup (.inl e) r=>.tup (.inl<|k.t _ _ e)<|RVs.keepL k r
 |_,_,.tup (.inr e) r=>.tup (.inr e)<|RVs.keepL k r
 |_,_,.ref a=>.ref a
 |_,_,.scr (.inl ⟨o,e⟩)=>.scr<|.inl ⟨o,k.f _ _ _ e⟩
 |_,_,.scr (.inr e)=>.scr<|.inr e
 |_,_,.key e=>.key<|k.t _ _ e
theorem RVs.keepL(k:fV H H'):∀{vs:List O.Val}{xs:List V},RVs K H vs xs->RVs K H' vs xs
 |_,_,.nil=>.nil
 |_,_,.cons r t=>.cons (RV.keepL k r)<|RVs.keepL k t
end
def RKs.keepL(k:fV H H'):∀{kvs:List (O.Val×O.Val)}{ps:List (Key×V)},RKs K H kvs ps->RKs K H' kvs ps
 |_,_,.nil=>.nil
 |_,_,.cons a r t=>.cons a (r.keepL k)<|RKs.keepL k t
def RTs.keepL(k:fV H H'):∀{kvs:List (O.Val×O.Val)}{ps:List (List Key×V)},RTs K H kvs ps->RTs K H' kvs ps
 |_,_,.nil=>.nil
 |_,_,.cons r t=>.cons (r.keepL k)<|RTs.keepL k t
def RFs.keepL(k:fV H H'):∀{fs:List (String×O.Val)}{ps:List (Str×V)},RFs K H fs ps->RFs K H' fs ps
 |_,_,.nil=>.nil
 |_,_,.cons r t=>.cons (r.keepL k)<|RFs.keepL k t
def REn.keepL{env:O.Env}{σ:St}(r:REn K H env σ)(k:fV H H'):REn K H' env σ:=⟨r.len,λi v e=>by
  let⟨x,h1,h2⟩:=r.get i v e
  exact⟨x,h1,h2.keepL k⟩⟩
variable {a:Ï}
def RO.moveL{o:O.Ob}(r:RO i H a o)(k:fV H H')(e:H' a=H a):RO i H' a o:=by
 cases o with
 |lst xs=>let⟨vs,q,r⟩:=r;exact⟨vs,e.trans q,r.keepL k⟩
 |dct kvs=>let⟨ps,q,r⟩:=r;exact⟨ps,e.trans q,r.keepL k⟩
 |ins C fs=>let⟨c,dx,ps,h0,h,q,r⟩:=r;exact⟨c,dx,ps,h0,h,e.trans q,r.keepL k⟩
 |exc C=>let⟨c,h,q⟩:=r;exact⟨c,h,e.trans q⟩
 |frz kvs=>let⟨o,ps,q,r⟩:=r;exact⟨o,ps,e.trans q,r.keepL k⟩
 |dtp kvs=>let⟨ps,q,r⟩:=r;exact⟨ps,e.trans q,r.keepL k⟩
variable {o:Obj} {ps:List (Key×V)}
def Xv(e:H a=eM (.frz o<|.dK ps)):fV H (upd H a<|.dK ps) :=
 ⟨λb xs q=>by rw[eR<|by rintro rfl;rw[e]at q;cases q];exact q,λb p xs q=>by rw[eR<|by rintro rfl;rw[e]at q;cases q];exact q⟩
def RH.thaw{G:O.Hs}{kvs:List (O.Val×O.Val)}(g:RH i G H)(e:H a=eM (.frz o<|.dK ps))(r:RKs i.K H kvs ps):RH i (O.upd G a<|.dct kvs)<|upd H a<|.dK ps:=λb p q=>by
 by_cases hb:b=a
 .subst hb;rw[O.eS]at q;cases q;exact⟨ps,eS,r.keepL<|Xv e⟩
 .rw[O.eR hb]at q;exact(g b p q).moveL (Xv e)<|eR hb
def RKs.len:∀{kvs:List (O.Val×O.Val)}{ps:List (Key×V)},RKs K H kvs ps->kvs.length=ps.length
 |_,_,.nil=>rfl
 |_,_,.cons _ _ t=>by rw[Ò,Ò,RKs.len t]
def RKs.at:∀{kvs:List (O.Val×O.Val)}{ps:List (Key×V)}{n:Nat}{c:Key}{x:V},RKs K H kvs ps->ps[n]?=eM (c,x)->∃k v,kvs[n]?=eM (k,v)/\WX k c/\RV K H v x
 |_,_,n,_,_,.nil,e=>by simp at e
 |_,_,0,_,_,.cons hk r _,e=>by simp at e;let⟨rfl,rfl⟩:=e;exact⟨_,_,rfl,hk,r⟩
 |_,_,n+1,_,_,.cons _ _ t,e=>by let⟨k,v,h1,h2⟩:=RKs.at (n:=n) t ⇑e;exact⟨k,v,⇑h1,h2⟩
def ET{k:O.Val}{c:Key}(h:WX k c):RV K H k<|kV c:=by
 cases k with
 |int j=>cases c with
  |inl l=>have h:j=l:=h;subst h;exact .int _
  |inr _=>exact(show False from h).elim
 |str s=>cases c with
  |inl _=>exact(show False from h).elim
  |inr t=>have h:t=gD s:=h;subst h;exact .str _
 |_=>exact(show False from h).elim
end
variable {H0:Hp} {a:Ï} {o:Obj} {ps:List (Key×V)} {kvs:List (O.Val×O.Val)}
def B8(e0:H0 a=eM (.frz o<|.dK ps))(r0:RKs i.K H0 kvs ps):ItOk i H0 (Iti a o ps) (λg=>g a=eM (.frz kvs)) (kvs.map<|O.itemOf eQ) where
 go:=λn G H v k g e hv=>by
  have e1:=k.f _ _ _ e0;rw[Ø]at hv;let⟨p,hp,rfl⟩:=Ä.mp hv;have hn:n<ps.length:=by rw[<-r0.len];exact(Ì.mp hp).1
  refine⟨⟨e1,hn⟩,λx H' ⟨q,c,y,ex,hq,hy,eH⟩=>?_⟩;subst ex eH;let⟨k2,v2,h1,h2,h3⟩:=(r0.keep k).at hy;rw[hp]at h1;cases h1;have kk:fo H<|upd H q<|.tup [kV c,y]:=fo.new hq;exact⟨kk,M0 g hq,.tup (.inl eS)<|.cons (ET h2)<|.cons (h3.keep kk) .nil⟩
 stop:=λn G H k g e hn=>⟨k.f _ _ _ e0,by rw[<-r0.len];simpa using hn⟩
def Gh(e0:H0 a=eM (.frz o<|.dK ps))(r0:RKs i.K H0 kvs ps):ItOk i H0 (Itk a o ps) (λg=>g a=eM (.frz kvs)) (kvs.map<|O.itemOf eP) where
 go:=λn G H v k g e hv=>by
  have e1:=k.f _ _ _ e0;rw[Ø]at hv;let⟨p,hp,rfl⟩:=Ä.mp hv;have hn:n<ps.length:=by rw[<-r0.len];exact(Ì.mp hp).1
  refine⟨⟨e1,hn⟩,λx H' ⟨eH,c,y,hy,ex⟩=>?_⟩;subst ex eH;let⟨k2,v2,h1,h2,h3⟩:=(r0.keep k).at hy;rw[hp]at h1;cases h1;exact⟨fo.refl _,g,ET h2⟩
 stop:=λn G H k g e hn=>⟨k.f _ _ _ e0,by rw[<-r0.len];simpa using hn⟩
variable {tg:Expr} {î:Pos} {body:List ň} {q:O.Pt} {m:O.E} {mb:O.Ss}
def UQ{ž:Expr}{kb:Bool}{J:Ï->Obj->List (Key×V)->It}(hp:Ω (à X.prog X.w) X.A X.env X.xe)(hc:X.calm=eP)(hi:PI X tg ž<|Ik X J<|tE X i Φ m)(hg:PG X tg<|gPt i q)(hb:PSs X body<|tBl X i Φ mb)
  (hs:∀x,Ę ž X.env x=pure x) (hJ:∀(H0:Hp) (a:Ï) (o:Obj) (ps:List<|Key×V) (kvs:List<|O.Val×O.Val),H0 a=eM (.frz o<|.dK ps)->RKs i.K H0 kvs ps->ItOk i H0 (J a o ps) (λg=>g a=eM (.frz kvs)) (kvs.map<|O.itemOf kb)) :
  PS X (.For tg ž body [] î) (tSt X i Φ<|.forI kb q m mb):=by
 intro Â s σ H D I ⟨env,G,N,R,B,C,Xe,p,w,c⟩;refine Fp (D8 hp hc hi hg hb hs) Â s σ H D I ?_;refine one p.pre w λv G1 H1 x k1 p1 rx w'=>?_;let⟨a,e1,w''⟩:=eV w';let⟨kvs,e2,w1⟩:=eV w'';clear w' w'';have ev:v=.ref a:=by
  cases v with
  |ref b=>cases e1;rfl
  |_=>cases e1
 subst ev;cases rx.ref_inv;have eG:G1 a=eM (.dct kvs):=by
  cases z:G1 a with
  |none=>rw[z]at e2;cases e2
  |some o=>rw[z]at e2;cases o<;>first|(cases e2;rfl)|cases e2
 let⟨ps,ha,hr⟩:=p1.hp a _ eG;refine⟨a,ps,rfl,ha,λo h0=>?_⟩;have k2:fo H1<|upd H1 a<|.frz o<|.dK ps:=fo.put (λxs z=>by rw[ha]at z;cases z) λp u z=>by rw[ha]at z;cases z
 have g2:RH i (O.upd G1 a<|.frz kvs)<|upd H1 a<|.frz o<|.dK ps:=p1.hp.put k2 ⟨o,ps,eS,hr.keep k2⟩;have it:=hJ _ a o ps kvs eS<|hr.keep k2;have Ϻ:∀{H':Hp}{G':O.Hs},fo (upd H1 a<|.frz o<|.dK ps) H'->RH i G' H'->H' a=eM (.frz o<|.dK ps)/\RKs i.K H' kvs ps/\fo H (upd H' a<|.dK ps):=λ{H' G'} k g=>by
  have e:=k.f a o _ eS;refine⟨e,(hr.keep k2).keep k,λb xs z=>?_,λb o' u z=>?_⟩
  .have z1:=k1.t b xs z;have hb:b≠a:=by rintro rfl;rw[ha]at z1;cases z1
   rw[eR hb];exact k.t b xs (by rw[eR hb];exact z1)
  .have z1:=k1.f b o' u z;have hb:b≠a:=by rintro rfl;rw[ha]at z1;cases z1
   rw[eR hb];exact k.f b o' u (by rw[eR hb];exact z1)
 have fin:∀Ŏ ť G' H',fo (upd H1 a<|.frz o<|.dK ps) H'->RH i G' H'->REn i.K H' Ŏ ť->(G' a=eM (.frz kvs)/\N Ŏ (O.upd G' a<|.dct kvs))->(D.thaw X).nx ť H':=λŎ ť G' H' k g en ⟨_,n⟩=>by let⟨b1,b2,b3⟩:=Ϻ k g;exact⟨a,o,ps,b1,h0,c.nx Ŏ ť _ _ b3 (g.thaw b1 b2) (en.keepL<|Xv b1) n⟩
 have ret:∀v G' H' x,fo (upd H1 a<|.frz o<|.dK ps) H'->RH i G' H'->RV i.K H' v x->(G' a=eM (.frz kvs)/\R v (O.upd G' a<|.dct kvs))->(D.thaw X).rt x H':=λv G' H' x k g r ⟨_,n⟩=>by let⟨b1,b2,b3⟩:=Ϻ k g;exact⟨a,o,ps,b1,h0,c.rt v _ _ x b3 (g.thaw b1 b2) (r.keepL<|Xv b1) n⟩
 have xo:∀Hq,XW X (XKS i Hq λ_ _ _=>False):=λHq=>λ_ _ _ _ _ _ _ _ _ _ ⟨_,_,_,_,_,_,_,_,z⟩=>z.elim;generalize hxs:kvs.map (O.itemOf kb)=xs at w1 it;generalize Δ:(λg:O.Hs=>g a=eM (.frz kvs))=st at w1 it;refine⟨λn m ť H'=>n+m=xs.length/\∃Ŏ G',fo (upd H1 a<|.frz o<|.dK ps) H'/\RH i G' H'/\REn i.K H' Ŏ ť/\O.wFor st (λv e g K M=>O.go (O.bind q g v e) λe2=>O.wSs Φ mb e2 g K (λu g2=>g2 a=eM (.frz kvs)/\R u (O.upd g2 a<|.dct kvs)) M K λ_ _ _=>False) (λe g=>g a=eM (.frz kvs)/\N e (O.upd g a<|.dct kvs)) (xs.drop n) Ŏ G',⟨xs.length,by lia,env,_,fo.refl _,g2,(p.en.keep k1).keep k2,⇑w1⟩,?_⟩;rintro n m ť H' ⟨hnm,Ŏ,G',k3,g3,e3,w3⟩;by_cases hn:n<xs.length
 .right;have hd:xs.drop n=xs[n]::xs.drop (n+1):=ų hn;rw[hd]at w3;let⟨s2,w3⟩:=w3;have hv:xs[n]?=eM xs[n]:=É hn;let⟨a1,a2⟩:=it.go n G' H' xs[n] k3 g3 s2 hv;refine⟨a1,λσ4 H4=>∃cR G4,fo (upd H1 a<|.frz o<|.dK ps) H4/\RH i G4 H4/\REn i.K H4 cR σ4/\O.wFor st (λv e g K M=>O.go (O.bind q g v e) λe2=>O.wSs Φ mb e2 g K (λu g2=>g2 a=eM (.frz kvs)/\R u (O.upd g2 a<|.dct kvs)) M K λ_ _ _=>False) (λe g=>g a=eM (.frz kvs)/\N e (O.upd g a<|.dct kvs)) (xs.drop<|n+1) cR G4,λσ4 H4 h=>⟨m - 1,by lia,by lia,h⟩,λx H4 hy=>?_⟩;let⟨k4,g4,r4⟩:=a2 x H4 hy;let⟨bg,e5,w5⟩:=eV w3;refine⟨xs[n],Ŏ,G',bg,r4,g4,e3.keep k4,e5,λσ5 h5=>?_⟩;refine⟨bg,G',_,_,_,_,_,⟨h5,g4,xo _⟩,w5,⟨λenv6 σ6 G6 H6 k6 g6 e6 w6=>?_,λv6 G6 H6 x6 k6 g6 r6 w6=>?_,λenv6 σ6 G6 H6 k6 g6 e6 w6=>?_,λenv6 σ6 G6 H6 k6 g6 e6 w6=>?_⟩⟩
  .exact⟨env6,G6,(k3.trans k4).trans k6,g6,e6,w6⟩
  .exact ret v6 G6 H6 x6 ((k3.trans k4).trans k6) g6 r6 w6
  .exact fin env6 σ6 G6 H6 ((k3.trans k4).trans k6) g6 e6 w6
  .exact⟨env6,G6,(k3.trans k4).trans k6,g6,e6,w6⟩
 .left;have hd:xs.drop n=[]:=ş (by lia);rw[hd]at w3;exact⟨it.stop n G' H' k3 g3 w3.1 (by lia),fin Ŏ ť G' H' k3 g3 e3 w3.2⟩
variable {kk:Nat} {d:Expr}
def GV{es:List Expr}{tp Ŗ ś:Pos}(hp:Ω (à X.prog X.w) X.A X.env X.xe)(hc:X.calm=eP)(hd:PE X d<|tE X i Φ m)(hg:PG X (.Tuple es kk tp)<|gPt i q)(hb:PSs X body<|tBl X i Φ mb)
  (aQ:ĝ d "items" X.env (eval d X.env)=eval d X.env) (aR:(Ŗ.endLine==ś.line)=eP) (hs:∀x,Ę (.Call (.Attribute d "items" Ŗ) [] [] ś) X.env x=pure x) :
  PS X (.For (.Tuple es kk tp) (.Call (.Attribute d "items" Ŗ) [] [] ś) body [] î) (tSt X i Φ<|.forI eQ q m mb) :=
 UQ hp hc (DD hd aQ aR) hg hb hs λ_ _ _ _ _ e r=>B8 e r
def Fb(hp:Ω (à X.prog X.w) X.A X.env X.xe)(hc:X.calm=eP)(hd:PE X d<|tE X i Φ m)(hg:PG X tg<|gPt i q)(hb:PSs X body<|tBl X i Φ mb)(hs:∀x,Ę d X.env x=pure x) :
  PS X (.For tg d body [] î) (tSt X i Φ<|.forI eP q m mb) :=
 UQ hp hc (FS hd) hg hb hs λ_ _ _ _ _ e r=>Gh e r
def NI(ĕ:List<|List Int):∀(k:Nat) (x:List Int) (r:List<|List Int),ĕ.take (k+1)=x::r->k<ĕ.length->O.minR x r=ĕ.getD (Ļ (btL λn=>ĕ.getD n []) k) []
 |0,x,r,h,hk=>by
  cases ĕ with
  |nil=>cases h
  |cons y ys=>simp at h;let⟨rfl,rfl⟩:=h;rfl
 |k+1,x,r,h,hk=>by
  cases ĕ with
  |nil=>cases h
  |cons y ys =>
   rw[ϴ]at h;injection h with h1 h2;subst h1 h2;have bu:k<ys.length:=⇑hk
   have ih:=NI (y::ys) k y (ys.take k) (by rw[ϴ]) (by simp;lia);have e:ys.take (k+1)=ys.take k++[ys[k]]:=by rw[ν];simp[bu]
   have app:∀(b:List Int) (l:List<|List Int) (z:List Int),O.minR b (l++[z])=if O.fG z (O.minR b l)then z else O.minR b l:=by
    intro b l z;induction l generalizing b with
    |nil=>rfl
    |cons w l ih=>exact ih _
   rw[e,app,ih];have e2:(y::ys).getD (k+1) []=ys[k]:=by simp[bu]
   show _=(y::ys).getD (if btL (λn=>(y::ys).getD n []) (k+1) (Ļ (btL λn=>(y::ys).getD n []) k)=eP then k+1 else Ļ (btL λn=>(y::ys).getD n []) k) [];have eb:btL (λn=>(y::ys).getD n []) (k+1) (Ļ (btL λn=>(y::ys).getD n []) k)=O.fG ys[k] ((y::ys).getD (Ļ (btL λn=>(y::ys).getD n []) k) []):=by rw[MJ,<-e2];rfl
   rw[eb];cases O.fG ys[k] ((y::ys).getD (Ļ (btL λn=>(y::ys).getD n []) k) [])with
   |true=>rw[gw rfl,gw rfl,e2]
   |false=>rw[gx (by decide),gx<|by decide]
def FB{G:O.Hs}{H:Hp}{xs:List O.Val}{us:List V}{w:List Int}{r:List (List Int)}{y:V}(h2:RVs i.K H xs us)(h3:(w::r).length=us.length)(h5:xs=(w::r).map λn=>.tup<|n.map .int)(hy:us[Ļ (btL λn=>(w::r).getD n [])<|us.length - 1]?=eM y):RV i.K H (.tup<|(O.minR w r).map .int) y:=by
 rw[NI (w::r) ((w::r).length - 1) w r (by simp)<|by simp];rw[<-h3]at hy;have Ϡ:Ļ (btL λn=>(w::r).getD n []) ((w::r).length - 1)<(w::r).length:=by have:=Jy (btL λn=>(w::r).getD n [])<|(w::r).length - 1;simp only[Ò]at this ⊢;lia
 generalize hj:Ļ (btL λn=>(w::r).getD n []) ((w::r).length - 1)=j at hy Ϡ ⊢;have hxj:xs[j]?=eM (.tup<|((w::r).getD j []).map .int):=by rw[h5,Ø,É Ϡ];simp[Ď,É Ϡ]
 let⟨x2,hx2,rx2⟩:=h2.get hxj;rw[hy]at hx2;cases hx2;exact rx2
def L9{e:Expr}{p kp kpos:Pos}(hc:X.calm=eP)(hu:X.A.units+1<Ķ)(hK:X.K=i.K)(hg:Gl X "min")(hm:X.mg "min" = eN)(he:PE X e<|tE X i Φ m)(hs:ß [e] X.env=[(eQ,eval e X.env)]) :
  PE X (.Call (.Name "min" p) [e] [⟨eM "default",.Constant .none kk kp,kpos⟩] î) (tE X i Φ<|.bi .minD<|.cons m .nil):=by
 refine(Gu hc hu hg hm (fX he fW<|by rw[hs];rfl) hs).imp λσ H Q ⟨env,G,Qm,Em,p,w,c⟩=>?_;change tE X i Φ m σ H _;refine one p w λv G1 H1 x k1 p1 r q=>?_
 replace q:(O.fO G1 v).wp G1 Qm:=q
 cases v with
 |ref a =>
  cases r.ref_inv;unfold O.fO at q;dsimp only at q;cases z:(O.ff<|G1 a).bind O.rowsOf with
  |none=>rw[z]at q;exact(Zq q).elim
  |some ĕ =>
   let⟨xs,z1,z2⟩:=ê.mp z;let⟨us,h1,h2⟩:=Z5 p1.hp z1;let⟨h3,h4,h5⟩:=NE h2 z2;rw[z]at q;refine⟨a,us,ĕ,rfl,by rw[hK];exact h1,h3,by rw[hK];exact h4,λe0=>?_,λe0 y hy=>?_⟩
   .subst e0;cases ĕ with
    |nil=>exact c _ G1 H1 _ k1 p1.hp .non<|Zu q
    |cons _ _=>cases h3
   .cases ĕ with
    |nil=>exact gB (Ϗ.mp h3.symm) e0
    |cons w r =>exact c _ G1 H1 _ k1 p1.hp (FB (G:=G1) h2 h3 h5 hy)<|Zu q
 |_=>exact(Zq q).elim
structure Md where
 N:List Str
 sc:Γ
 cs:List<|String×O.Val
 fs:List String
 cm:Bool
 cl:List String
 ms:List<|String×String
 fl:List String
 xs:List String
abbrev Md.nmOf(c:Md)(j:Nat):Str:=c.N.getD j Str.empty
abbrev Md.vis(c:Md)(x:Str):Bool:=match c.sc.names.lookup x with
 |some .local=>eP
 |some .cell=>eP
 |some .free=>eP
 |_=>eQ
abbrev Md.loc(c:Md)(x:Str):Bool:=c.sc.names.lookup x==eM .local||c.sc.names.lookup x==eM .cell
abbrev Md.gl(c:Md)(x:Str):Bool:=c.sc.names.lookup x==eM .globalImplicit
abbrev nm(x:Str):Bool:=!(x==("__debug__" : Str)) && !(x==("__classdict__" : Str)) && !(x==("__name__" : Str))
abbrev dE:Expr:=.Name Str.empty ⟨0,0,0,0⟩
abbrev mix:List (Option Expr)->List Expr->List Expr
 |k::ks,v::vs=>k.getD dE::v::mix ks vs
 |_,_=>[]
abbrev sub:Expr->List Expr
 |.BoolOp _ xs _=>xs
 |.BinOp a _ b _=>[a,b]
 |.UnaryOp _ a _=>[a]
 |.IfExp a b c _=>[a,b,c]
 |.Compare a _ bs _=>a::bs
 |.Call f as ks _=>f::(as++ks.map (·.value))
 |.FormattedValue a _ _ _=>[a]
 |.JoinedStr vs _=>vs
 |.Attribute a _ _=>[a]
 |.Subscript a b _=>[a,b]
 |.List es _=>es
 |.Tuple es _ _=>es
 |.Slice a b c _=>[a.getD dE,b.getD dE,c.getD dE]
 |.ListComp e gs _ _=>e::gs.flatMap λg=>g.target::g.iter::g.ifs
 |.Dict ks vs _=>mix ks vs
 |_=>[]
abbrev kid(x:Expr)(j:Nat):Expr:=(sub x).getD j dE
abbrev num:Expr->Nat
 |.Constant _ k _=>k
 |.Tuple _ k _=>k
 |_=>0
abbrev scp:Expr->Γ
 |.ListComp _ _ s _=>s
 |_=>default
abbrev kwp:Expr->Pos
 |.Call _ _ (k::_) _=>k.pos
 |_=>⟨0,0,0,0⟩
abbrev Ui:O.Bop->ϡ
 |.add=>.Add
 |.sub=>.Sub
 |.mul=>.Mult
 |.fdiv=>.FloorDiv
 |.mod=>.Mod
 |.pow=>.Pow
abbrev WY:O.Cop->cy
 |.eq=>.Eq
 |.ne=>.NotEq
 |.lt=>.Lt
 |.le=>.LtE
 |.gt=>.Gt
 |.ge=>.GtE
 |.isin=>.In
 |.notin=>.NotIn
 |.is=>.Is
 |.isnot=>.IsNot
 |.eqE=>.Eq
 |.neE=>.NotEq
 |.ntT=>.IsNot
abbrev Rj:O.Val->Const
 |.non=>.none
 |.bl b=>.bool b
 |.int i=>.int i
 |.str s=>.str<|gD s
 |_=>.ellipsis
abbrev HL:O.Val->Bool
 |.non=>eP
 |.bl _=>eP
 |.int _=>eP
 |.str _=>eP
 |_=>eQ
abbrev ZU:O.E->Bool
 |.and _ _=>eP
 |_=>eQ
abbrev YC:O.E->Bool
 |.or _ _=>eP
 |_=>eQ
abbrev Zs:O.Tt->Bool
 |.and _ _=>eP
 |_=>eQ
abbrev ZJ:O.Tt->Bool
 |.or _ _=>eP
 |_=>eQ
abbrev rest(b:Bool)(x:Expr):Expr:=match b,x with
 |true,.BoolOp op (_::xs) p=>.BoolOp op xs p
 |_,x=>kid x 1
abbrev flat(b:Bool)(x:Expr):List Expr:=match b with
 |true=>sub x
 |false=>[x]
abbrev YY:O.Bi->Str
 |.len=>"len"
 |.int=>"int"
 |.str=>"str"
 |.bool=>"bool"
 |.abs=>"abs"
 |.min2=>"min"
 |.max2=>"max"
 |.minL=>"min"
 |.maxL=>"max"
 |.minP=>"min"
 |.maxP=>"max"
 |.minD=>"min"
 |.sum=>"sum"
 |.all=>"all"
 |.any=>"any"
 |.sorted=>"sorted"
 |.sortedI=>"sorted"
 |.sortedSet=>"sorted"
 |.lenSet=>"len"
 |.list=>"list"
 |.tuple=>"tuple"
 |.dict=>"dict"
 |.isi _=>"isinstance"
 |.isx _=>"isinstance"
 |.isc _=>"isinstance"
 |.repr=>"repr"
 |.listRev=>"list"
 |.listRange=>"list"
 |.tupRange=>"tuple"
 |.dictEnum=>"dict"
 |.listD=>"list"
abbrev Rb:O.Bi->Option Str
 |.sortedSet=>eM "set"
 |.lenSet=>eM "set"
 |.listRev=>eM "reversed"
 |.listRange=>eM "range"
 |.tupRange=>eM "range"
 |.dictEnum=>eM "enumerate"
 |_=>eN
abbrev Lr(Ts:List String)(x:Expr):Expr:=match Ts with
 |[T]=>.Name (gD T) x.pos
 |Ts=>.Tuple (Ts.zipIdx.map λp=>.Name (gD p.1) (kid x p.2).pos) (num x) x.pos
abbrev Il(f:O.Bi)(as:List Expr)(x:Expr):List Expr:=match Rb f with
 |some y=>[.Call (.Name y (kid (kid x 1) 0).pos) as [] (kid x 1).pos]
 |none=>match f with
  |.isi Ts=>as++[Lr Ts<|kid x 2]
  |.isx Ts=>as++[Lr Ts<|kid x 2]
  |.isc T=>as++[Lr [T]<|kid x 2]
  |_=>as
abbrev AJ(f:O.Bi)(x:Expr):List Expr:=match Rb f with
 |some _=>(sub<|kid x 1).tail
 |none=>(sub x).tail
abbrev Sc(f:O.Bi)(x:Expr):List ϫ:=match f with
 |.minD=>[⟨eM "default",.Constant .none (num<|kid x 2) (kid x 2).pos,kwp x⟩]
 |_=>[]
abbrev LC:O.Bm->Str
 |.append=>"append"
 |.extend=>"extend"
 |.pop=>"pop"
 |.popAt=>"pop"
 |.insert=>"insert"
 |.remove=>"remove"
 |.clear=>"clear"
 |.reverse=>"reverse"
 |.index=>"index"
 |.count=>"count"
 |.dget=>"get"
 |.dgetD=>"get"
 |.dpop=>"pop"
 |.dpopD=>"pop"
 |.setdefault=>"setdefault"
 |.join=>"join"
 |.split=>"split"
 |.replace=>"replace"
 |.upper=>"upper"
 |.partition=>"partition"
 |.sidx=>"index"
abbrev Wp:List Expr->List (Option Expr)
 |k::_::r=>eM k::Wp r
 |_=>[]
abbrev CW:List Expr->List Expr
 |_::v::r=>v::CW r
 |_=>[]
abbrev toP(p:O.Pt)(c:Md)(x:Expr):Expr:=match p with
 |.one j=>.Name (c.nmOf j) x.pos
 |.many js=>.Tuple (js.zipIdx.map λp=>.Name (c.nmOf p.1) (kid x p.2).pos) (num x) x.pos
 |.nest j js=>.Tuple [.Name (c.nmOf j) (kid x 0).pos,.Tuple (js.zipIdx.map λp=>.Name (c.nmOf p.1) (kid (kid x 1) p.2).pos) (num<|kid x 1) (kid x 1).pos] (num x) x.pos
abbrev nmX:Expr->Str
 |.Name x _=>x
 |_=>Str.empty
abbrev YR:Expr->List Str
 |.Tuple es _ _=>es.map nmX
 |x=>[nmX x]
abbrev Md.blk(c:Md)(sc:Γ)(x:List Str)(ù:List Nat):Md :=
 {N:=x++ù.map (λj=>c.N.getD j Str.empty),sc:={sc with names:=sc.names.map λ(n,k)=>if(k == .free&&c.sc.kind == .function&&c.sc.names.lookup n==eM .cell)then(n,.cell)else(n,k)},cs:=c.cs,fs:=c.fs,cm:=c.cm,cl:=c.cl,ms:=c.ms,fl:=c.fl,xs:=c.xs}
abbrev BU:O.E->Bool
 |.cst (.str _)=>eP
 |_=>eQ
mutual
noncomputable def toX:O.E->Md->Expr->Expr
 |.cst v,_,x=>.Constant (Rj v) (num x) x.pos
 |.var j,c,x=>.Name (c.nmOf j) x.pos
 |.glob y _,_,x=>.Name (gD y) x.pos
 |.bin o a b,c,x=>.BinOp (toX a c<|kid x 0) (Ui o) (toX b c<|kid x 1) x.pos
 |.neg a,c,x=>.UnaryOp .USub (toX a c<|kid x 0) x.pos
 |.not a,c,x=>.UnaryOp .Not (toX a c<|kid x 0) x.pos
 |.and a b,c,x=>.BoolOp .And (toX a c (kid x 0)::flat (ZU b) (toX b c<|rest (ZU b) x)) x.pos
 |.or a b,c,x=>.BoolOp .Or (toX a c (kid x 0)::flat (YC b) (toX b c<|rest (YC b) x)) x.pos
 |.cmp o a b,c,x=>.Compare (toX a c<|kid x 0) [WY o] [toX b c<|kid x 1] x.pos
 |.chain o1 o2 a b d,c,x=>.Compare (toX a c<|kid x 0) [WY o1,WY o2] [toX b c<|kid x 1,toX d c<|kid x 2] x.pos
 |.call f as,c,x=>.Call (.Name (gD f) (kid x 0).pos) (toA as c (sub x).tail) [] x.pos
 |.make C as,c,x=>.Call (.Name (gD C) (kid x 0).pos) (toA as c (sub x).tail) [] x.pos
 |.meth _ m o as,c,x=>.Call (.Attribute (toX o c<|kid (kid x 0) 0) (gD m) (kid x 0).pos) (toA as c (sub x).tail) [] x.pos
 |.fld o f,c,x=>.Attribute (toX o c<|kid x 0) (gD f) x.pos
 |.bi f as,c,x=>.Call (.Name (YY f) (kid x 0).pos) (Il f (toA as c<|AJ f x) x) (Sc f x) x.pos
 |.bm m o as,c,x=>.Call (.Attribute (toX o c<|kid (kid x 0) 0) (LC m) (kid x 0).pos) (toA as c (sub x).tail) [] x.pos
 |.idx a b,c,x=>.Subscript (toX a c<|kid x 0) (toX b c<|kid x 1) x.pos
 |.slc a lo hi,c,x=>.Subscript (toX a c<|kid x 0) (.Slice (toO lo c<|kid (kid x 1) 0) (toO hi c<|kid (kid x 1) 1) eN (kid x 1).pos) x.pos
 |.rev a,c,x=>.Subscript (toX a c<|kid x 0) (.Slice eN eN (eM<|.UnaryOp .USub (.Constant (.int 1) (num<|kid (kid (kid x 1) 2) 0) (kid (kid (kid x 1) 2) 0).pos) (kid (kid x 1) 2).pos) (kid x 1).pos) x.pos
 |.pick a lo hi st,c,x=>.Subscript (toX a c<|kid x 0) (.Slice (toO lo c<|kid (kid x 1) 0) (toO hi c<|kid (kid x 1) 1) (eM<|toX st c<|kid (kid x 1) 2) (kid x 1).pos) x.pos
 |.tup es,c,x=>.Tuple (toA es c<|sub x) (num x) x.pos
 |.key es,c,x=>.Tuple (toA es c<|sub x) (num x) x.pos
 |.dctP,c,x=>.Dict [] [] x.pos
 |.lst es,c,x=>.List (toA es c<|sub x) x.pos
 |.dct es,c,x=>.Dict (Wp<|toA es c<|sub x) (CW<|toA es c<|sub x) x.pos
 |.ife t a b,c,x=>.IfExp (toT t c<|kid x 0) (toX a c<|kid x 1) (toX b c<|kid x 2) x.pos
 |.comp ù _ p it t e,c,x=>.ListComp (toX e (c.blk (scp x) (YR<|kid x 1) ù)<|kid x 0) [⟨toP p (c.blk (scp x) (YR<|kid x 1) ù)<|kid x 1,toI it c<|kid x 2,toF t (c.blk (scp x) (YR<|kid x 1) ù)<|kid x 3,0⟩] (scp x) x.pos
 |.fstr es,c,x=>.JoinedStr (toJ es c<|sub x) x.pos
 |.split o a,c,x=>.Call (.Attribute (toX o c<|kid (kid x 0) 0) "split" (kid x 0).pos) [toX a c<|kid x 1] [] x.pos
 |.repl o y z,c,x=>.Call (.Attribute (toX o c<|kid (kid x 0) 0) "replace" (kid x 0).pos) [.Constant (.str<|gD y) (num<|kid x 1) (kid x 1).pos,.Constant (.str<|gD z) (num<|kid x 2) (kid x 2).pos] [] x.pos
noncomputable def toA:O.Es->Md->List Expr->List Expr
 |.nil,_,_=>[]
 |.cons e es,c,xs=>toX e c (xs.headD dE)::toA es c xs.tail
noncomputable def toJ:O.Es->Md->List Expr->List Expr
 |.nil,_,_=>[]
 |.cons e es,c,xs=>(if BU e then toX e c (xs.headD dE)else .FormattedValue (toX e c<|kid (xs.headD dE) 0) (-1) eN (xs.headD dE).pos)::toJ es c xs.tail
noncomputable def toO:O.Oe->Md->Expr->Option Expr
 |.none,_,_=>eN
 |.some e,c,x=>eM<|toX e c x
noncomputable def toT:O.Tt->Md->Expr->Expr
 |.yes,_,x=>x
 |.val e,c,x=>toX e c x
 |.not t,c,x=>.UnaryOp .Not (toT t c<|kid x 0) x.pos
 |.and a b,c,x=>.BoolOp .And (toT a c (kid x 0)::flat (Zs b) (toT b c<|rest (Zs b) x)) x.pos
 |.or a b,c,x=>.BoolOp .Or (toT a c (kid x 0)::flat (ZJ b) (toT b c<|rest (ZJ b) x)) x.pos
noncomputable def toF:O.Tt->Md->Expr->List Expr
 |.yes,_,_=>[]
 |.val e,c,x=>[toX e c x]
 |.not t,c,x=>[.UnaryOp .Not (toT t c<|kid x 0) x.pos]
 |.and a b,c,x=>[.BoolOp .And (toT a c (kid x 0)::flat (Zs b) (toT b c<|rest (Zs b) x)) x.pos]
 |.or a b,c,x=>[.BoolOp .Or (toT a c (kid x 0)::flat (ZJ b) (toT b c<|rest (ZJ b) x)) x.pos]
noncomputable def toI:O.It->Md->Expr->Expr
 |.seq e,c,x=>toX e c x
 |.chars e,c,x=>toX e c x
 |.range a,c,x=>.Call (.Name "range" (kid x 0).pos) [toX a c<|kid x 1] [] x.pos
 |.range2 a b,c,x=>.Call (.Name "range" (kid x 0).pos) [toX a c<|kid x 1,toX b c<|kid x 2] [] x.pos
 |.enum e,c,x=>.Call (.Name "enumerate" (kid x 0).pos) [toX e c<|kid x 1] [] x.pos
 |.zip a b,c,x=>.Call (.Name "zip" (kid x 0).pos) [toX a c<|kid x 1,toX b c<|kid x 2] [] x.pos
 |.items e,c,x=>toX e c x
 |.rev e,c,x=>.Call (.Name "reversed" (kid x 0).pos) [toX e c<|kid x 1] [] x.pos
end
abbrev blts:List Str:=["isinstance","int","bool","str","list","tuple","dict","max","min","range","len","sorted","set","all","any","sum","enumerate","zip","reversed","abs","repr","ValueError"]
structure Kls(X:Cx)(i:Inf)(P:O.Pg)(n:Nat)(c:Md):Prop where
 A:ClsA i
 F:∀f,c.fl.contains f=eP->FldOk i f
 mkc:∀C,c.cl.contains C=eP->∃a f,i.ins C=eP/\i.cl C a/\Mk i.K a f/\X.mg (gD C)=eM (.ref a)/\Dfm X.prog X.w X.mg X.base i P n (C ++ ".__init__") f
 mth:∀C m,c.ms.contains (C,m)=eP->∃a f,(∀b,i.cl C b->b=a)/\Cls i.K a/\Meth i.K a (gD m) f/\Dfm X.prog X.w X.mg X.base i P n (C ++ "." ++ m) f
structure Xls(X:Cx)(i:Inf)(c:Md):Prop where
 xc:∀C a,i.xc C a->XCls i.K a/\PySem.W.kitOne i.K (.ref a) (.type "ValueError")=eM eP
 rs:∀C,c.xs.contains C=eP->∃a,i.xc C a/\PyProof.Rows.OwnCls (gD C) a [.type "ValueError",.type "Exception",.type "BaseException",.type "object"] "ValueError.__new__" X.mg X.base
 kn:∀T,(c.xs.contains T||T == "ShutError")=eP->∃D,X.mg (gD T)=eM (.ref D)/\∀C a,i.xc C a->PySem.W.kitOne i.K (.ref a) (.ref D)=eM (O.fY C T)/\(O.fY C T=eP->PySem.W.exmOne i.K (.ref a) (.ref D)=eM eP)
structure Gd(X:Cx)(i:Inf)(P:O.Pg)(n:Nat)(c:Md):Prop where
 K:X.K=i.K
 N:X.N=c.N
 sc:X.env.scope=c.sc
 nd:c.N.Nodup
 un:X.A.units+200<Ķ
 calm:c.cm=eP->X.calm=eP
 room:c.cm=eP->fy (2*n+1) X.A
 bl:∀x∈blts,X.mg x=eN
 dfs:∀f,c.fs.contains f=eP->Dfo X.prog X.w X.mg X.base i P n f
 cst:∀x v,c.cs.lookup x=eM v->∃u y,X.mg (gD x)=eM u/\RelV y u/\∀H,RV i.K H v y
 kl:Kls X i P n c
 xl:c.xs≠[]->Xls X i c
variable {X:Cx}{i:Inf}{P:O.Pg}{n:Nat}{c:Md}
variable {x:Str}
def Gd.gl(g:Gd X i P n c)(h:c.gl x=eP):Gl X x:=by show X.env.scope.names.lookup x=_;rw[g.sc];exact eq_of_beq h
def Gd.vis(g:Gd X i P n c)(h:c.vis x=eP):Vis X.env.scope x:=by
 unfold Vis;rw[g.sc];unfold Md.vis at h;split at h
 .exact .inl (by assumption)
 .exact .inr (.inl<|by assumption)
 .exact .inr (.inr<|by assumption)
 .cases h
def Gd.loc(g:Gd X i P n c)(h:c.loc x=eP):L2.Loc X.env.scope x:=by
 unfold L2.Loc;rw[g.sc];rcases (Bool.or_eq_true ..).mp h with h|h
 .exact .inl<|eq_of_beq h
 .exact .inr<|eq_of_beq h
def Gd.rm(g:Gd X i P n c)(h:c.cm=eP):fy (2*n) X.A:=(g.room h).mono (ő _)
def Aj(h:nm x=eP):(x==("__debug__" : Str))=eQ/\(x==("__classdict__" : Str))=eQ/\x≠"__name__":=by simp only[nm,bAq,ŏ]at h;exact⟨h.1.1,h.1.2,⇑h.2⟩
def ZK(e:O.E)(c:Md)(x:Expr)(es:List Expr)(env:Env):ß (toX e c x::es) env=(eQ,eval (toX e c x) env)::ß es env:=by cases e<;>rfl
def E3(e:O.E)(c:Md)(x:Expr):Nl<|toX e c x:=by intro o j;cases e<;>rfl
variable {op:cy}
def BR(e:O.E)(c:Md)(x:Expr):Ņ op (toX e c x)=eQ:=by cases e<;>rfl
def Iz(e:O.E)(c:Md)(x:Expr)(env:Env):∀y,Ę (toX e c x) env y=pure y:=by intro y;cases e<;>rfl
abbrev YK:Expr->Bool
 |.Call (.Name _ _) [] _ _=>eQ
 |_=>eP
variable {e:Expr}
def YA(h:YK e=eP)(f:Str)(env:Env):ĝ e f env (eval e env)=eval e env:=by
 cases e with
 |Call g as ks p =>
  cases as with
  |cons _ _=>cases g<;>rfl
  |nil=>cases g with
   |Name x q=>cases h
   |_=>rfl
 |_=>rfl
abbrev Zh:O.Es->Nat
 |.nil=>0
 |.cons _ es=>Zh es+1
def X7:∀(es:O.Es) (c:Md) (xs:List Expr),(toA es c xs).length=Zh es
 |.nil,_,_=>rfl
 |.cons _ es,c,xs=>by show(toA es c xs.tail).length+1=_;rw[X7 es];rfl
def YB(env:Env)(î:Pos):∀(es:O.Es) (c:Md) (xs:List Expr),(ě î<|ß (toA es c xs) env).any (·.1)=eQ
 |.nil,_,_=>rfl
 |.cons e es,c,xs=>by show(ě î<|ß (toX e c (xs.headD dE)::toA es c xs.tail) env).any (·.1)=eQ;rw[ZK];show(eQ||(ě î<|ß (toA es c xs.tail) env).any (·.1))=eQ;rw[YB env î es];rfl
def Kf(env:Env)(î:Pos):∀(es:O.Es) (c:Md) (xs:List Expr),(ě î<|ß (toA es c xs) env).all (λx=>!x.1)=eP
 |.nil,_,_=>rfl
 |.cons e es,c,xs=>by show(ě î<|ß (toX e c (xs.headD dE)::toA es c xs.tail) env).all (λx=>!x.1)=eP;rw[ZK];show(eP&&(ě î<|ß (toA es c xs.tail) env).all (λx=>!x.1))=eP;rw[Kf env î es];rfl
abbrev ZG:O.Pt->Bool
 |.one _=>eP
 |_=>eQ
def M6(p:O.Pt)(x:Expr):((!ZG p)=eP->∃es k q,toP p c x=.Tuple es k q)/\((!ZG p)=eQ->∃y q,toP p c x=.Name y q):=by
 cases p with
 |one j=>exact⟨λz=>(by cases z),λ_=>⟨_,_,rfl⟩⟩
 |many js=>exact⟨λ_=>⟨_,_,_,rfl⟩,λz=>(by cases z)⟩
 |nest j js=>exact⟨λ_=>⟨_,_,_,rfl⟩,λz=>(by cases z)⟩
abbrev B2(X:Cx)(c:Md)(j:Nat):Prop:=X.N[j]?=eM (c.nmOf j)/\L2.Loc X.env.scope (c.nmOf j)/\(X.fn (c.nmOf j)=eP\/X.env.scope.names.lookup (c.nmOf j)=eM .local)
abbrev Id(q:Nat->Prop):O.Pt->Prop
 |.one j=>q j
 |.many js=>∀j∈js,q j
 |.nest j js=>q j/\∀k∈js,q k
def MO{X:Cx}{c:Md}(nd:X.N.Nodup)(f:Nat->Pos):∀(js:List Nat) (k:Nat),(∀j∈js,B2 X c j)->
  PGs X ((js.zipIdx k).map λp=>.Name (c.nmOf p.1)<|f p.2) (C8 i js)/\(Ġ ((js.zipIdx k).map λp=>.Name (c.nmOf p.1)<|f p.2) X.env).length=js.length/\(Ġ ((js.zipIdx k).map λp=>.Name (c.nmOf p.1)<|f p.2) X.env).findIdx? (·.1)=eN
 |[],_,_=>⟨Fi,rfl,rfl⟩
 |j::js,k,h=>by
  let⟨h1,h2,h3⟩:=h j (by simp);let⟨a1,a2,a3⟩:=MO nd f js (k+1) λl hl=>h l (by simp[hl]);rw[List.zipIdx_cons,Î];refine⟨EB nd h1 h2 h3 a1 rfl,?_,?_⟩
  .show(Ġ ((js.zipIdx<|k+1).map _) X.env).length+1=js.length+1;rw[a2]
  .show List.findIdx? (·.1) ((eQ,Ε (.Name (c.nmOf j)<|f k) X.env)::Ġ _ X.env)=eN;rw[List.findIdx?_cons];simp[a3]
def Hz(hK:X.K=i.K)(nd:X.N.Nodup)(hc:X.calm=eP){p:O.Pt}{x:Expr}(h:Id (B2 X c) p):PG X (toP p c x)<|gPt i p:=by
 cases p with
 |one j=>exact UD nd h.1 h.2.1 h.2.2
 |many js =>let⟨a1,a2,a3⟩:=MO nd (λk=>(kid x k).pos) js 0 h;exact An hK hc a1 a2 a3
 |nest j js =>let⟨h0,h⟩:=h;let⟨a1,a2,a3⟩:=MO nd (λk=>(kid (kid x 1) k).pos) js 0 h;exact Fz hK hc (UD nd h0.1 h0.2.1 h0.2.2)<|An hK hc a1 a2 a3
variable {Φ:O.Fs} {a:O.E} {b:O.E} {l:Expr} {î:Pos}
def QK(g:Gd X i P n c){o:O.Bop}{r:Expr}(ha:PE X l<|tE X i Φ a)(hb:PE X r<|tE X i Φ b):PE X (.BinOp l (Ui o) r î)<|tE X i Φ<|.bin o a b:=by
 cases o with
 |add=>exact Ml Rk (by rw[g.K];exact b_add) ha hb
 |sub=>exact Ml IM b_sub ha hb
 |mul=>exact Ml RD b_mul ha hb
 |fdiv=>exact Ml Fm b_fdiv ha hb
 |mod=>exact Ml I0 b_mod ha hb
 |pow=>exact Ml Pe b_pow ha hb
abbrev X3:O.Cop->Bool
 |.is=>eP
 |.isnot=>eP
 |.ntT=>eP
 |.neE=>eP
 |.eqE=>eP
 |_=>eQ
variable {o:O.Cop}
def Ua(g:Gd X i P n c)(h:X3 o=eQ):∃r,OpR X (ï<|WY o) r/\Yp i o r:=by
 have u65:X.A.units+65<Ķ:=by have:=g.un;lia
 have u64:X.A.units+64<Ķ:=by have:=g.un;lia
 have u0:X.A.units<Ķ:=by have:=g.un;lia
 cases o with
 |eq=>exact⟨_,Ii u64,by rw[g.K];exact SL⟩
 |ne=>exact⟨_,Ij u64,by rw[g.K];exact SN⟩
 |lt=>exact⟨_,SM u0,by rw[g.K];exact c_lt⟩
 |le=>exact⟨_,RG,c_le⟩
 |gt=>exact⟨_,SG u0,by rw[g.K];exact c_gt⟩
 |ge=>exact⟨_,Rt,c_ge⟩
 |isin=>exact⟨_,Sh u65,by rw[g.K];exact Si⟩
 |notin=>exact⟨_,Sn u65,by rw[g.K];exact Sd⟩
 |_=>cases h
def Pc{v:O.Val}{j:Nat}(h:HL v=eP):PE X (.Constant (Rj v) j î)<|tE X i Φ<|.cst v:=by
 cases v with
 |non=>exact W2 EM λ_=>.non
 |bl b=>exact W2 Q0 λ_=>.bl _
 |int k=>exact W2 Uq λ_=>.int _
 |str s=>exact W2 pe_str λ_=>.str _
 |_=>cases h
abbrev OJ:O.E->Bool
 |.cst .non=>eP
 |_=>eQ
def Gj{e:O.E}(h:OJ e=eP):e=.cst .non:=by
 cases e with
 |cst v=>cases v with
  |non=>rfl
  |_=>cases h
 |_=>cases h
variable {y:Expr}
def JL(hn:∀G v d,O.fj G o v .non≠eM d)(ha:PE X l<|tE X i Φ a)(hb:PE X y<|tE X i Φ<|.cst .non)(hm:Ņ op y=eQ) :
  PE X (.Compare l [op] [y] î) (tE X i Φ<|.cmp o a<|.cst .non)/\PT X (.Compare l [op] [y] î) (tTt X i Φ<|.val<|.cmp o a<|.cst .non):=by
 have ho:OpR X (ï op) λ_ _ _ _=>False:=λ_ _ _ _ _ _ _ _ _ _ _ _ h=>h.elim;refine⟨(Ac ho ha hb hm).imp λσ H Q ⟨env,G,Qm,Em,p,w,c⟩=>?_,(Aa ho ha hb hm).imp λσ H Q ⟨env,G,Qm,Em,p,w,c⟩=>?_⟩
 .refine one p w λv G1 H1 x k1 p1 r q=>?_;let⟨d,e,_⟩:=eV q;exact gB e<|hn G1 v d
 .refine one p w λv G1 H1 x k1 p1 r q=>?_;let⟨d,e,_⟩:=eV q;exact gB e<|hn G1 v d
def NT(g:Gd X i P n c){x:Expr}(h:(!X3 o||OJ b)=eP)(ha:PE X l<|tE X i Φ a)(hb:PE X (toX b c x)<|tE X i Φ b) :
  PE X (.Compare l [WY o] [toX b c x] î) (tE X i Φ<|.cmp o a b)/\PT X (.Compare l [WY o] [toX b c x] î) (tTt X i Φ<|.val<|.cmp o a b):=by
 cases z:X3 o with
 |false =>let⟨r,h1,h2⟩:=Ua g z;exact⟨Ra h1 h2 ha hb<|BR _ _ _,Pz h1 h2 ha hb<|BR _ _ _⟩
 |true =>
  rw[z]at h;cases Gj h;cases o with
  |is=>exact⟨RE ha,L0 ha⟩
  |isnot=>exact⟨Pv ha,Hf ha⟩
  |ntT=>exact JL (λG v d e=>by cases v<;>simp[O.fj,O.asLst]at e) ha hb<|BR _ _ _
  |neE=>exact JL (λG v d e=>by cases v<;>simp[O.fj,O.asLst]at e) ha hb<|BR _ _ _
  |eqE=>exact JL (λG v d e=>by cases v<;>simp[O.fj,O.asLst]at e) ha hb<|BR _ _ _
  |_=>cases z
def Kn(g:Gd X i P n c){o1 o2:O.Cop}{d:O.E}{x:Expr}(h1:X3 o1=eQ)(h2:X3 o2=eQ)(ha:PE X l<|tE X i Φ a)(hb:PE X y<|tE X i Φ b)(hd:PE X (toX d c x)<|tE X i Φ d) :
  PE X (.Compare l [WY o1,WY o2] [y,toX d c x] î) (tE X i Φ<|.chain o1 o2 a b d)/\PT X (.Compare l [WY o1,WY o2] [y,toX d c x] î) (tTt X i Φ<|.val<|.chain o1 o2 a b d):=by
 let⟨r1,a1,a2⟩:=Ua g h1;let⟨r2,b1,b2⟩:=Ua g h2;have hm:bx [WY o1,WY o2] [y,toX d c x]=eQ:=BR _ _ _;exact⟨GI a1 a2 b1 b2 ha hb hd hm,E4 a1 a2 b1 b2 ha hb hd hm⟩
def Lv{m:O.E}(h:PE X e<|tE X i Φ m)(he:∀aN,cx e X.env aN=(do let v<-aN;ϔ e.pos;Ŝ [v] (truthy v)))(hK:X.K=i.K):PT X e<|tTt X i Φ<|.val m:=by
 refine(Ci h he).imp λσ H Q ⟨env,G,Qm,Em,p,w,c⟩=>?_;refine one p w λv G1 H1 x k1 p1 r q=>?_;let⟨d,e1,q2⟩:=eV q;clear q;refine⟨d,?_,c d G1 H1 k1 p1.hp q2⟩;cases v with
 |non=>cases r;cases e1;rfl
 |bl b=>cases r;cases e1;rfl
 |int b =>
  cases r;cases e1;show gC (b≠0)=(b != 0)
  by_cases e:b=0<;>simp[e]
 |key _ _=>cases e1
 |str b =>
  cases r;let⟨hl,e1⟩:=Zm e1;cases e1;refine⟨by rw[ZB];exact Õ hl ZR,?_⟩;rw[ZB];by_cases e:b.length=0
  .rw[e];rfl
  .rw[gz e];symm;simpa using (by lia:¬ ((b.length:Int)=0))
 |tup xs =>
  cases e1;cases r with
  |tup hp hr =>refine .inr (.inl ⟨_,by rw[hK];exact Zn hp,?_⟩);cases hr<;>rfl
 |scr ns =>
  cases e1;cases r with
  |scr h =>refine .inl ⟨_,by rw[hK];exact Yk h,?_⟩;cases ns<;>rfl
 |ref a =>
  cases r.ref_inv
  replace e1:(match G1 a with|some (.lst xs)=>eM (!xs.isEmpty)|some (.dct kvs)=>eM (!kvs.isEmpty)|_=>eN)=eM d:=e1
  cases z:G1 a with
  |none=>rw[z]at e1;cases e1
  |some o =>
   rw[z]at e1;cases o with
   |lst xs =>cases e1;let⟨vs,h1,h2⟩:=p1.hp a _ z;refine .inl ⟨vs,fZ.of h1,?_⟩;cases h2<;>rfl
   |dct kvs =>cases e1;let⟨ps,h1,h2⟩:=p1.hp a _ z;refine .inr<|.inr ⟨ps,h1,?_⟩;cases h2<;>rfl
   |_=>cases e1
abbrev Md.gn(c:Md)(y:String):Bool:=c.gl (gD y)&&nm (gD y)
abbrev We:O.Bi->Bool
 |.len=>eP
 |.int=>eP
 |.all=>eP
 |.list=>eP
 |.tuple=>eP
 |.sortedI=>eP
 |_=>eQ
abbrev Fy:O.Bi->Option String
 |.isi [T]=>eM T
 |_=>eN
abbrev Gp:O.Bi->Option (List String)
 |_=>eN
abbrev Wo:O.Bi->Bool
 |_=>eQ
abbrev W0:O.Bi->Bool
 |.sortedSet=>eP
 |_=>eQ
abbrev De:O.Bi->Str
 |.listRev=>"reversed"
 |.sortedSet=>"set"
 |_=>"range"
abbrev U9:O.Bi->Bool
 |_=>eQ
abbrev UX:O.Bi->Bool
 |_=>eQ
abbrev N1:O.Bi->String
 |.isc T=>T
 |_=>""
abbrev Na:O.Bi->Bool
 |.minD=>eP
 |_=>eQ
abbrev Du:O.Bi->Option (List String)
 |_=>eN
abbrev Md.xn(c:Md)(T:String):Bool:=(c.xs.contains T||T == "ShutError")&&c.gn T
abbrev WP:O.Bi->Bool
 |.len=>eP
 |.int=>eP
 |.list=>eP
 |.tuple=>eP
 |_=>eQ
abbrev Pa(c:Md)(Ts:List String):Bool:=match Ts with
 |[T]=>c.xn T||(T == "ValueError" && c.gl (gD T))
 |Ts=>Ts.all c.xn&&gC (Ts.length<=20)
abbrev EC:O.Bm->Option Nat
 |.append=>eM 1
 |.extend=>eM 1
 |.popAt=>eM 1
 |.remove=>eM 1
 |.dget=>eM 1
 |.dpop=>eM 1
 |.dpopD=>eM 2
 |_=>eN
abbrev Ao:O.Tt->Bool
 |.yes=>eP
 |_=>eQ
abbrev Uo:O.E->Bool
 |.var _=>eP
 |.call _ _=>eP
 |.meth _ _ _ _=>eP
 |.bi _ _=>eP
 |.bm _ _ _=>eP
 |.idx _ _=>eP
 |.fld _ _=>eP
 |.glob _ _=>eP
 |_=>eQ
abbrev Ru:O.E->Bool
 |.cmp _ _ _=>eP
 |.chain _ _ _ _ _=>eP
 |_=>eQ
mutual
noncomputable def okE:O.E->Md->Expr->Bool
 |.cst v,_,_=>HL v
 |.var j,c,_=>gC (j<c.N.length)&&c.vis (c.nmOf j)&&nm (c.nmOf j)
 |.glob y v,c,_=>c.gn y&&gC (c.cs.lookup y=eM v)
 |.bin _ a b,c,x=>okE a c (kid x 0)&&okE b c (kid x 1)
 |.neg a,c,x=>okE a c<|kid x 0
 |.not a,c,x=>okE a c<|kid x 0
 |.and a b,c,x=>okE a c (kid x 0)&&okE b c (rest (ZU b) x)&&(!ZU b||(rest (ZU b) x).pos==x.pos)
 |.or a b,c,x=>okE a c (kid x 0)&&okE b c (rest (YC b) x)&&(!YC b||(rest (YC b) x).pos==x.pos)
 |.cmp o a b,c,x=>okE a c (kid x 0)&&okE b c (kid x 1)&&(!X3 o||OJ b)
 |.chain o1 o2 a b d,c,x=>okE a c (kid x 0)&&okE b c (kid x 1)&&okE d c (kid x 2) && !X3 o1 && !X3 o2
 |.call f as,c,x=>c.gn f&&c.fs.contains f&&c.cm&&okA as c (sub x).tail
 |.make C as,c,x=>c.gn C&&c.cl.contains C&&c.cm&&gC (Zh as≠0)&&okA as c (sub x).tail
 |.meth C m o as,c,x=>c.ms.contains (C,m)&&c.cm&&okE o c (kid (kid x 0) 0)&&YK (toX o c<|kid (kid x 0) 0)&&((kid x 0).pos.endLine==x.pos.line)&&gC (Zh as<20)&&okA as c (sub x).tail
 |.fld o f,c,x=>c.fl.contains f&&okE o c (kid x 0)&&YK (toX o c<|kid x 0)
 | .bi f as,c,x=>(match Fy f with
   |some T=>gC (Zh as=1)&&kinds.contains T&&c.gl "isinstance" && c.gl (gD T)
   |none=>match Gp f with
     |some Ts=>gC (Zh as=1)&&c.gl "isinstance" && !c.xs.isEmpty&&Pa c Ts
     |none=>match Du f with
       |some Ts=>gC (Zh as=1)&&c.gl "isinstance" && Ts.all (λT=>kinds.contains T&&c.gl (gD T))&&gC (Ts.length<=20)
       | none=>if Wo f then gC (Zh as=1)&&c.gl "len" && c.gl "set" && c.cm else if W0 f then gC (Zh as=1)&&c.gl (YY f)&&c.gl (De f)&&c.cm else if Na f then gC (Zh as=1)&&c.gl "min" && c.cm else if U9 f then gC (Zh as=1)&&c.gl "dict" && c.gl "enumerate" && c.cm else if UX f then gC (Zh as=1)&&c.gl "isinstance" && c.gn (N1 f)&&c.cl.contains (N1 f)else We f&&c.gl (YY f)&&gC (Zh as≠0)&&(c.cm||WP f))&&okA as c (AJ f x)
 |.bm m o as,c,x=>gC (EC m=eM (Zh as))&&okE o c (kid (kid x 0) 0)&&YK (toX o c<|kid (kid x 0) 0)&&((kid x 0).pos.endLine==x.pos.line)&&okA as c (sub x).tail
 |.idx a b,c,x=>okE a c (kid x 0)&&okE b c (kid x 1)
 |.slc a lo hi,c,x=>okE a c (kid x 0)&&okO lo c (kid (kid x 1) 0)&&okO hi c (kid (kid x 1) 1)
 |.tup es,c,x=>okA es c (sub x)&&gC (Zh es<=1000)
 |.lst es,c,x=>okA es c (sub x)&&gC (Zh es<=1000)
 |.dct es,c,x=>okA es c (sub x)&&JD es&&gC (esL es<=30)
 |.ife t a b,c,x=>okT t c (kid x 0)&&okE a c (kid x 1)&&okE b c (kid x 2)
 |.comp ù m p it t e,c,x=>(OZ m p&&(YR<|kid x 1).length==m)&&c.cm&&Ys (scp x) c.sc c.N (YR<|kid x 1) ù&&(scp x).kind == .function&&okI it c (kid x 2) (!ZG p)&&okE e (c.blk (scp x) (YR<|kid x 1) ù) (kid x 0)&&(Ao t||okT t (c.blk (scp x) (YR<|kid x 1) ù) (kid x 3))
 |_,_,_=>eQ
noncomputable def okA:O.Es->Md->List Expr->Bool
 |.nil,_,_=>eP
 |.cons e es,c,xs=>okE e c (xs.headD dE)&&okA es c xs.tail
noncomputable def okJ:O.Es->Md->List Expr->Bool
 |.nil,_,_=>eP
 |.cons e es,c,xs=>(BU e||okE e c (kid (xs.headD dE) 0))&&okJ es c xs.tail
noncomputable def okO:O.Oe->Md->Expr->Bool
 |.none,_,_=>eP
 |.some e,c,x=>okE e c x
noncomputable def okT:O.Tt->Md->Expr->Bool
 |.yes,_,_=>eQ
 |.val e,c,x=>okE e c x&&(Uo e||Ru e)
 |.not t,c,x=>okT t c<|kid x 0
 |.and a b,c,x=>okT a c (kid x 0)&&okT b c (rest (Zs b) x)&&(!Zs b||(rest (Zs b) x).pos==x.pos)
 |.or a b,c,x=>okT a c (kid x 0)&&okT b c (rest (ZJ b) x)&&(!ZJ b||(rest (ZJ b) x).pos==x.pos)
noncomputable def okI:O.It->Md->Expr->Bool->Bool
 |.seq e,c,x,_=>okE e c x
 |.range a,c,x,_=>c.gl "range" && okE a c (kid x 1)
 |.enum e,c,x,t=>t&&c.gl "enumerate" && okE e c (kid x 1)
 |_,_,_,_=>eQ
end
variable {X:Cx}{i:Inf}{P:O.Pg}{n:Nat}{c:Md}
variable {f:O.Bi} {e:Expr} {es:List Expr} {q:Pos} {p:Pos} {l:Nat}
def FD(g:Gd X i P n c)(hp:We f=eP)(dX:(c.cm||WP f)=eP){as:O.Es}(hg:Gl X<|YY f)(ha:PA X (e::es)<|tAr X i (O.wF P n) as l)
  (he:ß (e::es) X.env=(eQ,eval e X.env)::ß es X.env) (hpl:(ě p<|ß es X.env).any (·.1)=eQ):PE X (.Call (.Name (YY f) q) (e::es) [] p)<|tE X i (O.wF P n)<|.bi f as:=by
 have hc:WP f=eQ->X.calm=eP:=λz=>g.calm (by rw[z,Ϸ]at dX;exact dX);cases f with
 |len=>exact(X8 ((call_len_seq.or MY).or Ba) hg (g.bl _<|by simp[blts,YY]) (by kernel_rfl) ha (he:=he) (hpl:=hpl)).imp (Me<|by rw[g.K];exact IE)
 |int=>exact(WB (call_int1.or KI) hg (g.bl _<|by simp[blts,YY]) (by kernel_rfl) ha (he:=he) (hpl:=hpl)).imp<|Me LL
 |all=>exact(X8 (EW<|hc rfl) hg (g.bl _<|by simp[blts,YY]) (by kernel_rfl) ha (he:=he) (hpl:=hpl)).imp (Me<|by rw[g.K];exact LM)
 |list=>exact(WB Nt hg (g.bl _<|by simp[blts,YY]) (by kernel_rfl) ha (he:=he) (hpl:=hpl)).imp (Me<|by rw[g.K];exact FN)
 |sortedI=>exact(X8 (call_sorted.or<|NA<|hc rfl) hg (g.bl _<|by simp[blts,YY]) (by kernel_rfl) ha (he:=he) (hpl:=hpl)).imp (Me<|by rw[g.K];exact O7)
 |tuple=>exact(WB KO hg (g.bl _<|by simp[blts,YY]) (by kernel_rfl) ha (he:=he) (hpl:=hpl)).imp (Me<|by rw[g.K];exact Ef)
 |_=>cases hp
variable {T:String}
def Lp(h:Fy f=eM T):f=.isi [T]:=by
 cases f with
 |isi Ts =>
  cases Ts with
  |nil=>cases h
  |cons a r=>cases r with
   |nil=>cases h;rfl
   |cons _ _=>cases h
 |_=>cases h
def CB(g:Gd X i P n c){m:O.E}{p2 î:Pos}(hT:T∈kinds)(h2:c.gl "isinstance" = eP)(h5:c.gl (gD T)=eP)(he:PE X e<|tE X i (O.wF P n) m)(Δ:ß [e,.Name (gD T) p2] X.env=(eQ,eval e X.env)::ß [.Name (gD T) p2] X.env) :
  PE X (.Call (.Name "isinstance" p) [e,.Name (gD T) p2] [] î) (tE X i (O.wF P n)<|.bi (.isi [T])<|.cons m .nil):=by
 have dW:=hT;simp only[kinds,Æ,Í,or_false]at dW;refine QX hT he g.K (g.gl h2) (g.bl _<|by simp[blts]) (g.gl h5) ?_ ?_ ?_ ?_ Δ
 .rcases dW with rfl|rfl|rfl|rfl|rfl|rfl<;>exact g.bl _ (by simp[blts])
 .rcases dW with rfl|rfl|rfl|rfl|rfl|rfl<;>kernel_rfl
 .rcases dW with rfl|rfl|rfl|rfl|rfl|rfl<;>decide
 .rcases dW with rfl|rfl|rfl|rfl|rfl|rfl<;>decide
variable {m:O.Bm} {o:Expr} {mo:O.E} {Ŗ:Pos} {ś:Pos}
def B4(g:Gd X i P n c)(h:EC m=eM 0)(ho:PE X o<|tE X i (O.wF P n) mo)(hb:∀f,ĝ o f X.env (eval o X.env)=eval o X.env)(hl:(Ŗ.endLine==ś.line)=eP) :
  PE X (.Call (.Attribute o (LC m) Ŗ) [] [] ś) (tE X i (O.wF P n)<|.bm m mo .nil):=by
 cases m with
 |_=>cases h
def F0(g:Gd X i P n c){k:Nat}(h:EC m=eM (k+1)){ms:O.Es}(ho:PE X o<|tE X i (O.wF P n) mo)(ha:PA X (e::es)<|tAr X i (O.wF P n) ms l)(hb:∀f,ĝ o f X.env (eval o X.env)=eval o X.env)(hl:(Ŗ.endLine==ś.line)=eP)
  (aq:((ě ś<|ß (e::es) X.env).all (λx=>!x.1)&&(ſ ś<|ņ [] X.env).all (λx=>x.1.isSome)&&gC ((e::es).length+([]:List ϫ).length+(if([]:List ϫ).isEmpty then 0 else 1)<30))=eP)
  (hs:ß (e::es) X.env=(eQ,eval e X.env)::ß es X.env) (hpl:(ě ś<|ß es X.env).any (·.1)=eQ) :
  PE X (.Call (.Attribute o (LC m) Ŗ) (e::es) [] ś) (tE X i (O.wF P n)<|.bm m mo ms):=by
 have u1:X.A.units+1<Ķ:=by have:=g.un;lia
 cases m with
 |append=>exact Uu g.K PySem.F.plainAttrs_list PySem.F.slot_list_append PySem.F.type_list_append AU (E5 rfl) Ig ho ha (hb _) aq hl hs hpl
 |extend=>exact Uu g.K PySem.F.plainAttrs_list PySem.F.slot_list_extend PySem.F.type_list_extend BS (E5 rfl) L7 ho ha (hb _) aq hl hs hpl
 |popAt=>exact Uu g.K PySem.F.plainAttrs_list PySem.F.slot_list_pop PySem.F.type_list_pop Cm (E5 rfl) Hg ho ha (hb _) aq hl hs hpl
 |remove=>exact Uu g.K PySem.F.plainAttrs_list PySem.F.slot_list_remove PySem.F.type_list_remove Bj (E5 rfl) PK ho ha (hb _) aq hl hs hpl
 |dget=>exact Uu g.K PySem.F.plainAttrs_dict PySem.F.slot_dict_get PySem.F.type_dict_get (EX u1) (IS rfl) PR ho ha (hb _) aq hl hs hpl
 |dpop=>exact Uu g.K PySem.F.plainAttrs_dict PySem.F.slot_dict_pop PySem.F.type_dict_pop mt_dpop (IS rfl) L3 ho ha (hb _) aq hl hs hpl
 |dpopD=>exact Uu g.K PySem.F.plainAttrs_dict PySem.F.slot_dict_pop PySem.F.type_dict_pop (mt_dpop.or Cc) (IS rfl) GX ho ha (hb _) aq hl hs hpl
 |_=>cases h
variable {sc:Γ} {ù:List Nat}
def Gd.blk(g:Gd X i P n c){x:List Str}(hb:Ys sc c.sc c.N x ù=eP)(hk:sc.kind=.function)(cl:List<|Str×Ï)(C:Ï)(s:Ç)(H:Hp)(ex:List Ï) :
  Gd (Zx X sc (Z9 X x ù) cl C s H ex) i P n (c.blk sc x ù) where
 K:=g.K
 N:=by show Z9 X x ù=_;unfold Z9;rw[g.N];rfl
 sc:=by show b9 sc X.env=_;unfold b9 Env.kindOf;rw[g.sc];rfl
 nd:=by have B:=UB g.sc g.N hk hb;have:=B.nd;unfold Z9 at this;rw[g.N]at this;exact this
 un:=g.un
 calm:=g.calm
 room:=g.room
 bl:=g.bl
 dfs:=g.dfs
 cst:=g.cst
 kl:=⟨g.kl.A,g.kl.F,g.kl.mkc,g.kl.mth⟩
 xl:=λh=>⟨(g.xl h).xc,(g.xl h).rs,(g.xl h).kn⟩
def Gd.pt(g:Gd X i P n c)(dX:c.cm=eP){xs:List Str}(hb:Ys sc c.sc c.N xs ù=eP)(hk:sc.kind=.function){p:O.Pt}(hp:OZ xs.length p=eP)(x:Expr)(cl:List<|Str×Ï)(C:Ï)(s:Ç)(H:Hp)(ex:List Ï) :
  PG (Zx X sc (Z9 X xs ù) cl C s H ex) (toP p (c.blk sc xs ù) x) (gPt i p):=by
 have B:=UB g.sc g.N hk hb;have G:=g.blk hb hk cl C s H ex;have key:∀j,j<xs.length->B2 (Zx X sc (Z9 X xs ù) cl C s H ex) (c.blk sc xs ù) j:=λj hj=>by
  have e:(c.blk sc xs ù).nmOf j=xs[j]:=by unfold Md.nmOf Md.blk;show(xs++_).getD j _=_;rw[Ď,Ć hj,É hj];rfl
  have lo:=lookup_relabel_local (env:=X.env)<|B.own xs[j]<|Ğ hj;unfold B2;rw[e];refine⟨?_,.inl lo,.inr lo⟩;show(xs++_)[j]?=_;rw[Ć hj,É hj]
 refine Hz G.K (by rw[G.N];exact G.nd) (g.calm dX) ?_;cases p with
 |one j=>exact key j<|of_decide_eq_true hp
 |many js=>exact λj hj=>key j<|of_decide_eq_true<|û.mp hp j hj
 |nest j js=>cases hp
variable {b:O.E}
def Ag(h:ZU b=eP):∃a d,b=.and a d:=by
 cases b with
 |and a d=>exact⟨a,d,rfl⟩
 |_=>cases h
def Dn(h:YC b=eP):∃a d,b=.or a d:=by
 cases b with
 |or a d=>exact⟨a,d,rfl⟩
 |_=>cases h
def Cj{b:O.Tt}(h:Zs b=eP):∃a d,b=.and a d:=by
 cases b with
 |and a d=>exact⟨a,d,rfl⟩
 |_=>cases h
def GP{b:O.Tt}(h:ZJ b=eP):∃a d,b=.or a d:=by
 cases b with
 |or a d=>exact⟨a,d,rfl⟩
 |_=>cases h
def MF{b:Bool}(h:(!b||p==q)=eP)(hb:b=eP):p=q:=by rw[hb]at h;exact eq_of_beq h
variable {Φ:O.Fs} {x:Expr}
def EU(hp:(!ZU b||(rest (ZU b) x).pos==x.pos)=eP)(h:PE X (toX b c<|rest (ZU b) x)<|tE X i Φ b):PE X (.BoolOp .And (flat (ZU b)<|toX b c<|rest (ZU b) x) x.pos)<|tE X i Φ b:=by
 cases z:ZU b with
 |false=>rw[z]at h;exact Ec h
 |true =>have e:=MF hp z;rw[z]at e h;let⟨a,d,rfl⟩:=Ag z;show PE X (.BoolOp .And (sub<|.BoolOp .And _ (rest eP x).pos) x.pos) _;rw[<-e];exact h
def Gx(hp:(!YC b||(rest (YC b) x).pos==x.pos)=eP)(h:PE X (toX b c<|rest (YC b) x)<|tE X i Φ b):PE X (.BoolOp .Or (flat (YC b)<|toX b c<|rest (YC b) x) x.pos)<|tE X i Φ b:=by
 cases z:YC b with
 |false=>rw[z]at h;exact Ec h
 |true =>have e:=MF hp z;rw[z]at e h;let⟨a,d,rfl⟩:=Dn z;show PE X (.BoolOp .Or (sub<|.BoolOp .Or _ (rest eP x).pos) x.pos) _;rw[<-e];exact h
def K4(b:Bool){e:O.E}(h:b=ZU e\/b=YC e):∃y ys,flat b (toX e c x)=y::ys:=by
 cases b with
 |false=>exact⟨_,_,rfl⟩
 |true =>
  rcases h with h|h
  .obtain⟨a,d,rfl⟩:=Ag h.symm;exact⟨_,_,rfl⟩
  .obtain⟨a,d,rfl⟩:=Dn h.symm;exact⟨_,_,rfl⟩
variable {i:Inf}{P:O.Pg}{n:Nat}
variable {X:Cx} {c:Md} {Φ:O.Fs} {b:O.Tt} {x:Expr}
def AM(hp:(!Zs b||(rest (Zs b) x).pos==x.pos)=eP)(h:PT X (toT b c<|rest (Zs b) x)<|tTt X i Φ b)(h2:(Zs b||ZJ b)=eP->PW X (toT b c<|rest (Zs b) x) (tTt X i Φ b)) :
  ∃y ys,flat (Zs b) (toT b c<|rest (Zs b) x)=y::ys/\PW X (.BoolOp .And (y::ys) x.pos) (tTt X i Φ b):=by
 cases z:Zs b with
 |false=>rw[z]at h;exact⟨_,_,rfl,Fr h⟩
 |true =>have e:=MF hp z;rw[z]at e h2;let⟨a,d,rfl⟩:=Cj z;refine⟨_,_,rfl,?_⟩;rw[<-e];exact h2 rfl
def DG(hp:(!ZJ b||(rest (ZJ b) x).pos==x.pos)=eP)(h:PT X (toT b c<|rest (ZJ b) x)<|tTt X i Φ b)(h2:(Zs b||ZJ b)=eP->PW X (toT b c<|rest (ZJ b) x) (tTt X i Φ b)) :
  ∃y ys,flat (ZJ b) (toT b c<|rest (ZJ b) x)=y::ys/\PW X (.BoolOp .Or (y::ys) x.pos) (tTt X i Φ b):=by
 cases z:ZJ b with
 |false=>rw[z]at h;exact⟨_,_,rfl,IQ h⟩
 |true =>have e:=MF hp z;rw[z]at e h2;let⟨a,d,rfl⟩:=GP z;refine⟨_,_,rfl,?_⟩;rw[<-e];exact h2 rfl
variable {e:O.E}
def Se(h:BU e=eP):∃s,e=.cst (.str s):=by
 cases e with
 |cst v=>cases v with
  |str s=>exact⟨s,rfl⟩
  |_=>cases h
 |_=>cases h
variable {ù:List Nat} {p:O.Pt} {it:O.It} {î:Pos}
def Mj(g:Gd X i P n c){mt:O.Tt}{me:O.E}{bU ž bI:Expr}{x:List Str}{bq:List Expr}{sc:Γ}(dX:c.cm=eP)(h1:Ys sc c.sc c.N x ù=eP)(hk:sc.kind=.function)(hp:OZ x.length p=eP)
  (hi:PI X bI ž<|tIt X i (O.wF P n) it) (hs:∀y,Ę ž X.env y=pure y) (hG:∀cl C s H ex,PG (Zx X sc (Z9 X x ù) cl C s H ex) bI<|gPt i p)
  (hE:∀cl C s H ex,PE (Zx X sc (Z9 X x ù) cl C s H ex) bU<|tE0 i (O.wF P n) me) (hI:∀cl C s H ex,PIfs (Zx X sc (Z9 X x ù) cl C s H ex) bq<|tT0 i (O.wF P n) mt) :
  PE X (.ListComp bU [⟨bI,ž,bq,0⟩] sc î) (tE X i (O.wF P n)<|.comp ù x.length p it mt me)/\
   ∀(y:Str) (py Ϥ:Pos) (j:Nat),X.N[j]?=eM y->L2.Loc X.env.scope y->(X.fn y=eP\/X.env.scope.names.lookup y=eM .local)->υ (.ListComp bU [⟨bI,ž,bq,0⟩] sc î) (eM<|.Name y py) Ϥ.line X.env=pure eP->PS X (.Assign [.Name y py] (.ListComp bU [⟨bI,ž,bq,0⟩] sc î) Ϥ) (tSt X i (O.wF P n)<|.set (.one j)<|.comp ù x.length p it mt me):=by
 have B:=UB g.sc g.N hk h1;have hc:=g.calm dX;refine⟨(Eb hc B hi hG hI hE hs).imp<|AK hp,λy py Ϥ j hj hl hf hsw=>?_⟩;refine(D6 (by rw[g.N];exact g.nd) hj hl hc B hi hG hI hE hs hsw hf).imp λD σ H ⟨env,G,N,R,Bk,Ct,Xe,p,w,e⟩=>?_;refine AK hp σ H _ ⟨env,G,_,Xe env,p.pre,w,λv G1 H1 x k1 g1 r1 w1=>?_⟩;let⟨Ť,e2,w2⟩:=eV w1;clear w1;cases e2;exact e.nx _ _ G1 H1 k1 g1 ((p.en.keep k1).set r1 j) w2
def Cs{j:Nat}(hN:X.N=c.N)(h:j<c.N.length):X.N[j]?=eM (c.nmOf j):=by rw[hN];unfold Md.nmOf;rw[Ď,É h];rfl
def FZ{o:Expr}{m:Str}{Ŗ:Pos}{args:List Expr}{env:Env}(hb:ĝ o m env (eval o env)=eval o env)(aq:cI (args.length+0) (ě î<|ß args env) (ſ î<|ņ [] env)=eP)(hl:(Ŗ.endLine==î.line)=eP) :
  eval (.Call (.Attribute o m Ŗ) args [] î) env=(do
    let ov<-eval o env
    ϔ Ŗ.atName
    let (f,first)<-Ŝ [ov] (Ϣ ov m<|do return (<-importBound o env).getD eP)
    cz î f first (ě î<|ß args env) (ſ î<|ņ [] env)):=by
 show(do
   let ov<-ĝ o m env (eval o env)
   ϔ Ŗ.atName
   methodCall o m Ŗ î env ov (args.length+0) (ě î<|ß args env) (ſ î<|ņ [] env))=_
 rw[hb];unfold methodCall methodCallPos;rw[aq,hl];rfl
def PD(env:Env)(î:Pos){as:O.Es}{xs:List Expr}(h:Zh as<20):cI ((toA as c xs).length+0) (ě î<|ß (toA as c xs) env) (ſ î<|ņ [] env)=eP:=by unfold cI;rw[bAq,bAq,gA,X7];refine⟨⟨Kf env î as c xs,rfl⟩,?_⟩;show Zh as+0+0<30;lia
def QL{m:O.Tt}(h:Ao m=eQ->PT X (toT m c x) (tTt X i (O.wF P n) m)):PIfs X (toF m c x)<|tT0 i (O.wF P n) m:=by
 cases m with
 |yes=>exact Lb
 |val e=>exact Wt<|pt0<|h rfl
 |not t=>exact Wt<|pt0<|h rfl
 |and a b=>exact Wt<|pt0<|h rfl
 |or a b=>exact Wt<|pt0<|h rfl
def OM(c:Md):∀(es:O.Es) (xs:List Expr),JD es=eP->(Wp<|toA es c xs).all (·.isSome)=eP/\(Wp<|toA es c xs).length=(CW<|toA es c xs).length/\2*(Wp<|toA es c xs).length=esL es
 |.nil,_,_=>⟨rfl,rfl,rfl⟩
 |.cons _ .nil,_,h=>by cases h
 |.cons k (.cons v r),xs,h=>by
  let⟨h1,h2,h3⟩:=OM c r xs.tail.tail h;refine⟨?_,?_,?_⟩
  .show(eP&&(Wp<|toA r c xs.tail.tail).all (·.isSome))=eP;rw[h1];rfl
  .show(Wp<|toA r c xs.tail.tail).length+1=(CW<|toA r c xs.tail.tail).length+1;rw[h2]
  .show 2*((Wp<|toA r c xs.tail.tail).length+1)=esL r+1+1;lia
mutual
theorem eE:∀(m:O.E) (X:Cx) (c:Md) (x:Expr),Gd X i P n c->okE m c x=eP->PE X (toX m c x) (tE X i (O.wF P n) m)
 |.cst v,X,c,x,g,h=>Pc h
 |.var j,X,c,x,g,h=>by have h:(gC (j<c.N.length)&&c.vis (c.nmOf j)&&nm (c.nmOf j))=eP:=h;rw[bAq,bAq,gA]at h;let⟨q1,q2,_⟩:=Aj h.2;exact RI (Cs g.N h.1.1) (g.vis h.1.2) q1 q2
 |.glob y v,X,c,x,g,h=>by have h:((c.gl (gD y)&&nm (gD y))&&gC (c.cs.lookup y=eM v))=eP:=h;rw[bAq,bAq,gA]at h;let⟨q1,q2,_⟩:=Aj h.1.2;let⟨u,z,e1,e2,e3⟩:=g.cst _ _ h.2;exact LY (FC (g.gl h.1.1) e1 e2 q1) e3
 |.bin o a b,X,c,x,g,h=>by have h:(okE a c (kid x 0)&&okE b c (kid x 1))=eP:=h;rw[bAq]at h;exact QK g (eE a X c _ g h.1)<|eE b X c _ g h.2
 |.neg a,X,c,x,g,h=>Ro<|eE a X c _ g h
 |.not a,X,c,x,g,h=>RQ<|eE a X c _ g h
 |.and a b,X,c,x,g,h=>by have h:(okE a c (kid x 0)&&okE b c (rest (ZU b) x)&&(!ZU b||(rest (ZU b) x).pos==x.pos))=eP:=h;rw[bAq,bAq]at h;have h2:=EU h.2<|eE b X c _ g h.1.2;let⟨y,ys,e⟩:=K4 (c:=c) (ZU b) (e:=b) (x:=rest (ZU b) x)<|.inl rfl;show PE X (.BoolOp .And (toX a c (kid x 0)::flat (ZU b) (toX b c<|rest (ZU b) x)) x.pos) _;rw[e]at h2 ⊢;exact Qz (eE a X c _ g h.1.1) h2
 |.or a b,X,c,x,g,h=>by have h:(okE a c (kid x 0)&&okE b c (rest (YC b) x)&&(!YC b||(rest (YC b) x).pos==x.pos))=eP:=h;rw[bAq,bAq]at h;have h2:=Gx h.2<|eE b X c _ g h.1.2;let⟨y,ys,e⟩:=K4 (c:=c) (YC b) (e:=b) (x:=rest (YC b) x)<|.inr rfl;show PE X (.BoolOp .Or (toX a c (kid x 0)::flat (YC b) (toX b c<|rest (YC b) x)) x.pos) _;rw[e]at h2 ⊢;exact RS (eE a X c _ g h.1.1) h2
 |.cmp o a b,X,c,x,g,h=>by have h:(okE a c (kid x 0)&&okE b c (kid x 1)&&(!X3 o||OJ b))=eP:=h;rw[bAq,bAq]at h;exact(NT g h.2 (eE a X c _ g h.1.1)<|eE b X c _ g h.1.2).1
 |.chain o1 o2 a b d,X,c,x,g,h=>by have h:(okE a c (kid x 0)&&okE b c (kid x 1)&&okE d c (kid x 2) && !X3 o1 && !X3 o2)=eP:=h;rw[bAq,bAq,bAq,bAq,ŏ,ŏ]at h;let⟨⟨⟨⟨h1,h2⟩,h3⟩,h4⟩,h5⟩:=h;exact(Kn g h4 h5 (eE a X c _ g h1) (eE b X c _ g h2)<|eE d X c _ g h3).1
 |.call f as,X,c,x,g,h=>by
  have h:((c.gl (gD f)&&nm (gD f))&&c.fs.contains f&&c.cm&&okA as c (sub x).tail)=eP:=h;rw[bAq,bAq,bAq,bAq]at h;let⟨⟨⟨⟨h1,h2⟩,h3⟩,h4⟩,h5⟩:=h;let⟨q1,_,_⟩:=Aj h2;have ha:=eA as X c _ g h5;cases as with
  |nil=>exact Gq g.K (g.dfs _ h3) (g.rm h4) (g.gl h1) q1
  |cons a as=>exact PF g.K (g.dfs _ h3) (g.rm h4) (g.gl h1) q1 ha (ZK ..)<|YB ..
 |.make C as,X,c,x,g,h=>by
  have h:((c.gl (gD C)&&nm (gD C))&&c.cl.contains C&&c.cm&&gC (Zh as≠0)&&okA as c (sub x).tail)=eP:=h;rw[bAq,bAq,bAq,bAq,bAq,gA]at h;let⟨⟨⟨⟨⟨h1,h2⟩,h3⟩,h4⟩,h6⟩,h5⟩:=h;let⟨q1,_,_⟩:=Aj h2;have ha:=eA as X c _ g h5;let⟨a,f,i1,i2,M,hm,D⟩:=g.kl.mkc C h3;cases as with
  |nil=>exact gB rfl h6
  |cons b as=>exact PY g.K i1 i2 M D (g.room h4) (g.gl h1) hm q1 ha (ZK ..)<|YB ..
 |.meth C m o as,X,c,x,g,h=>by
  have h:(c.ms.contains (C,m)&&c.cm&&okE o c (kid (kid x 0) 0)&&YK (toX o c<|kid (kid x 0) 0)&&((kid x 0).pos.endLine==x.pos.line)&&gC (Zh as<20)&&okA as c (sub x).tail)=eP:=h;rw[bAq,bAq,bAq,bAq,bAq,bAq,gA]at h;let⟨⟨⟨⟨⟨⟨h1,h2⟩,h3⟩,h4⟩,h6⟩,h7⟩,h5⟩:=h;have ev:=FZ (m:=gD m) (YA h4 _ X.env) (PD X.env x.pos (c:=c) (xs:=(sub x).tail) h7) h6;have ha:=eA as X c _ g h5;have ho:=eE o X c _ g h3;let⟨a,f,i1,A,M,D⟩:=g.kl.mth C m h1;cases as with
  |nil=>exact Fg g.K i1 A M D (g.rm h2) ho ev
  |cons b as=>exact II g.K i1 A M D (g.rm h2) ho ha (ZK ..) (YB ..) ev
 |.fld o f,X,c,x,g,h=>by have h:(c.fl.contains f&&okE o c (kid x 0)&&YK (toX o c<|kid x 0))=eP:=h;rw[bAq,bAq]at h;exact Q4 g.K g.kl.A (g.kl.F _ h.1.1) (eE o X c _ g h.1.2)<|YA h.2 _ _
 |.bi f as,X,c,x,g,h=>by
  have h:((match Fy f with
    |some T=>gC (Zh as=1)&&kinds.contains T&&c.gl "isinstance" && c.gl (gD T)
    |none=>match Gp f with
      |some Ts=>gC (Zh as=1)&&c.gl "isinstance" && !c.xs.isEmpty&&Pa c Ts
      |none=>match Du f with
        |some Ts=>gC (Zh as=1)&&c.gl "isinstance" && Ts.all (λT=>kinds.contains T&&c.gl (gD T))&&gC (Ts.length<=20)
        | none=>if Wo f then gC (Zh as=1)&&c.gl "len" && c.gl "set" && c.cm else if W0 f then gC (Zh as=1)&&c.gl (YY f)&&c.gl (De f)&&c.cm else if Na f then gC (Zh as=1)&&c.gl "min" && c.cm else if U9 f then gC (Zh as=1)&&c.gl "dict" && c.gl "enumerate" && c.cm else if UX f then gC (Zh as=1)&&c.gl "isinstance" && c.gn (N1 f)&&c.cl.contains (N1 f)else We f&&c.gl (YY f)&&gC (Zh as≠0)&&(c.cm||WP f))&&okA as c (AJ f x))=eP:=h
  rw[bAq]at h;cases z:Fy f with
  |some T =>
   have h1:=h.1;rw[z]at h1;rw[bAq,bAq,bAq,gA]at h1;let⟨⟨⟨h1,h2⟩,h3⟩,h4⟩:=h1;cases Lp z;cases as with
   |nil=>cases h1
   |cons a as=>cases as with
    |nil =>have h5:(okE a c _&&eP)=eP:=h.2;rw[bAq]at h5;exact CB g (ă.mp h2) h3 h4 (eE a X c _ g h5.1)<|ZK ..
    |cons b as=>exact gB h1 (by simp[Zh])
  |none =>
   have h1:=h.1;rw[z]at h1
   replace h1:(match Gp f with
     |some Ts=>gC (Zh as=1)&&c.gl "isinstance" && !c.xs.isEmpty&&Pa c Ts
     |none=>match Du f with
       |some Ts=>gC (Zh as=1)&&c.gl "isinstance" && Ts.all (λT=>kinds.contains T&&c.gl (gD T))&&gC (Ts.length<=20)
       | none=>if Wo f then gC (Zh as=1)&&c.gl "len" && c.gl "set" && c.cm else if W0 f then gC (Zh as=1)&&c.gl (YY f)&&c.gl (De f)&&c.cm else if Na f then gC (Zh as=1)&&c.gl "min" && c.cm else if U9 f then gC (Zh as=1)&&c.gl "dict" && c.gl "enumerate" && c.cm else if UX f then gC (Zh as=1)&&c.gl "isinstance" && c.gn (N1 f)&&c.cl.contains (N1 f)else We f&&c.gl (YY f)&&gC (Zh as≠0)&&(c.cm||WP f))=eP:=h1
   cases zx:Gp f with
   |some Ts=>cases zx
   |none =>
    rw[zx]at h1
    replace h1:(match Du f with
      |some Ts=>gC (Zh as=1)&&c.gl "isinstance" && Ts.all (λT=>kinds.contains T&&c.gl (gD T))&&gC (Ts.length<=20)
      | none=>if Wo f then gC (Zh as=1)&&c.gl "len" && c.gl "set" && c.cm else if W0 f then gC (Zh as=1)&&c.gl (YY f)&&c.gl (De f)&&c.cm else if Na f then gC (Zh as=1)&&c.gl "min" && c.cm else if U9 f then gC (Zh as=1)&&c.gl "dict" && c.gl "enumerate" && c.cm else if UX f then gC (Zh as=1)&&c.gl "isinstance" && c.gn (N1 f)&&c.cl.contains (N1 f)else We f&&c.gl (YY f)&&gC (Zh as≠0)&&(c.cm||WP f))=eP:=h1
    cases zl:Du f with
    |some Ts=>cases zl
    |none =>
     rw[zl]at h1;dsimp only at h1;split at h1
     .rename_i dA;exact gB (show eQ=eP from dA) (by decide)
     split at h1
     .rename_i _ dA;have hf:f=.sortedSet:=by cases f<;>first|rfl|cases dA
      rw[bAq,bAq,bAq,gA]at h1;let⟨⟨⟨h1,h2⟩,h3⟩,h4⟩:=h1;cases as with
      |nil=>cases h1
      |cons a as=>cases as with
       |nil =>
        rcases hf with rfl
        .have h6:(okE a c _&&eP)=eP:=h.2;rw[bAq]at h6;exact OL (g.calm h4) g.K (eE a X c _ g h6.1) (g.gl h2) (g.bl _<|by simp[blts]) (g.gl h3) (g.bl _<|by simp[blts,De]) (by rw[ZK];rfl)
       |cons b as=>exact gB h1 (by simp[Zh])
     split at h1
     .rename_i _ _ dA;have hf:f=.minD:=by cases f<;>first|rfl|cases dA
      subst hf;rw[bAq,bAq,gA]at h1;let⟨⟨h1,h2⟩,h4⟩:=h1;cases as with
      |nil=>cases h1
      |cons a as=>cases as with
       |nil =>have h6:(okE a c _&&eP)=eP:=h.2;rw[bAq]at h6;exact L9 (g.calm h4) (by have:=g.un;lia) g.K (g.gl h2) (g.bl _<|by simp[blts]) (eE a X c _ g h6.1) (by rw[ZK];rfl)
       |cons b as=>exact gB h1 (by simp[Zh])
     split at h1
     .rename_i _ _ _ dA;exact gB (show eQ=eP from dA) (by decide)
     split at h1
     .rename_i _ _ _ _ dA;exact gB (show eQ=eP from dA) (by decide)
     rw[bAq,bAq,bAq,gA]at h1;let⟨⟨⟨h1,h2⟩,h3⟩,h4⟩:=h1;have ha:=eA as X c _ g h.2;cases as with
     |nil=>exact gB rfl h3
     |cons a as =>
      have e1:toX (.bi f<|.cons a as) c x=.Call (.Name (YY f) (kid x 0).pos) (toA (.cons a as) c<|AJ f x) [] x.pos:=by cases f<;>first|(cases h1;done)|rfl
      rw[e1];exact FD g h1 h4 (g.gl h2) ha (ZK ..)<|YB ..
 |.bm m o as,X,c,x,g,h=>by
  have h:(gC (EC m=eM (Zh as))&&okE o c (kid (kid x 0) 0)&&YK (toX o c<|kid (kid x 0) 0)&&((kid x 0).pos.endLine==x.pos.line)&&okA as c (sub x).tail)=eP:=h;rw[bAq,bAq,bAq,bAq,gA]at h;let⟨⟨⟨⟨h1,h2⟩,h3⟩,h4⟩,h5⟩:=h;have ha:=eA as X c _ g h5;have ho:=eE o X c _ g h2;cases as with
  |nil=>exact B4 g h1 ho (λf=>YA h3 f _) h4
  |cons a as =>
   refine F0 g h1 ho ha (λf=>YA h3 f _) h4 ?_ (ZK ..)<|YB ..;rw[bAq,bAq,gA];refine⟨⟨Kf X.env x.pos (.cons a as) c (sub x).tail,rfl⟩,?_⟩;have e2:(toA (.cons a as) c (sub x).tail).length=Zh (.cons a as):=X7 ..;have e3:Zh (.cons a as)<=2:=by
    have:∀m:O.Bm,∀k,EC m=eM k->k<=2:=by intro m k;cases m<;>intro z<;>first|(cases z;done)|(cases z;decide)
    exact this m _ h1
   show(toA (.cons a as) c (sub x).tail).length+0+0<30;lia
 |.idx a b,X,c,x,g,h=>by have h:(okE a c (kid x 0)&&okE b c (kid x 1))=eP:=h;rw[bAq]at h;exact Qi (ix_seq.or<|GL (by have:=g.un;lia)) (by rw[g.K];exact QN) (eE a X c _ g h.1) (eE b X c _ g h.2)<|E3 _ _ _
 |.slc a lo hi,X,c,x,g,h=>by have h:(okE a c (kid x 0)&&okO lo c (kid (kid x 1) 0)&&okO hi c (kid (kid x 1) 1))=eP:=h;rw[bAq,bAq]at h;exact Rp R6 (by rw[g.K];exact Q7) (eE a X c _ g h.1.1) (eO lo X c _ g h.1.2)<|eO hi X c _ g h.2
 |.tup es,X,c,x,g,h=>by have h:(okA es c (sub x)&&gC (Zh es<=1000))=eP:=h;rw[bAq,gA]at h;exact RK (by rw[X7];exact h.2)<|eA es X c _ g h.1
 |.key es,X,c,x,g,h=>nomatch h
 |.dctP,X,c,x,g,h=>nomatch h
 |.lst es,X,c,x,g,h=>by have h:(okA es c (sub x)&&gC (Zh es<=1000))=eP:=h;rw[bAq,gA]at h;exact Qu (by rw[X7];exact h.2)<|eA es X c _ g h.1
 |.dct es,X,c,x,g,h=>by
  have h:(okA es c (sub x)&&JD es&&gC (esL es<=30))=eP:=h;rw[bAq,bAq,gA]at h;let⟨⟨h1,h2⟩,h3⟩:=h;have hp:=eD es X c (sub x) x.pos g h1 h2;cases es with
  |nil=>exact IL
  |cons k r=>cases r with
   |nil=>cases h2
   |cons v r =>let⟨q1,q2,q3⟩:=OM c (.cons k<|.cons v r) (sub x) h2;refine P2 h2 h3 hp q1 q2 (by intro z;cases z) (by rw[<-q3]at h3;lia)
 |.ife t a b,X,c,x,g,h=>by have h:(okT t c (kid x 0)&&okE a c (kid x 1)&&okE b c (kid x 2))=eP:=h;rw[bAq,bAq]at h;exact Qx (eT t X c _ g h.1.1).1 (eE a X c _ g h.1.2)<|eE b X c _ g h.2
 |.comp ù m p it t e,X,c,x,g,h=>by
  have h:((OZ m p&&(YR<|kid x 1).length == m)&&c.cm&&Ys (scp x) c.sc c.N (YR<|kid x 1) ù&&(scp x).kind == .function&&okI it c (kid x 2) (!ZG p)&&okE e (c.blk (scp x) (YR<|kid x 1) ù) (kid x 0)&&(Ao t||okT t (c.blk (scp x) (YR<|kid x 1) ù) (kid x 3)))=eP:=h;rw[bAq,bAq,bAq,bAq,bAq,bAq]at h;let⟨⟨⟨⟨⟨⟨h1,h2⟩,h3⟩,h4⟩,h5⟩,h6⟩,h7⟩:=h;rw[bAq,beq_iff_eq]at h1;let⟨h1,rfl⟩:=h1;have hk:=eq_of_beq h4;let⟨t1,t2⟩:=M6 (c:=c.blk (scp x) (YR<|kid x 1) ù) p<|kid x 1;let⟨a1,a2⟩:=eI it X c (kid x 2) (toP p (c.blk (scp x) (YR<|kid x 1) ù)<|kid x 1) g (!ZG p) t1 t2 h5;exact(Mj g h2 h3 hk h1 a1 a2 (g.pt h2 h3 hk h1 _)
    (λcl C s H ex=>pe0<|eE e _ _ _ (g.blk h3 hk cl C s H ex) h6) (λcl C s H ex=>QL λz=>(eT t _ _ _ (g.blk h3 hk cl C s H ex)<|by rw[z]at h7;exact h7).1)).1
 |.fstr es,X,c,x,g,h=>nomatch h
 |.repl _ _ _,X,c,x,g,h=>nomatch h
 |.split o a,X,c,x,g,h=>nomatch h
 |.rev a,X,c,x,g,h=>nomatch h
 |.pick a lo hi st,X,c,x,g,h=>nomatch h
theorem eD:∀(es:O.Es) (X:Cx) (c:Md) (xs:List Expr) (î:Pos),Gd X i P n c->okA es c xs=eP->JD es=eP->PPs X î (Wp<|toA es c xs) (CW<|toA es c xs) (Ar X i (O.wF P n) es)
 |.nil,X,c,xs,î,g,h,he=>GO
 |.cons k .nil,X,c,xs,î,g,h,he=>by cases he
 |.cons k (.cons v r),X,c,xs,î,g,h,he=>by have h:(okE k c (xs.headD dE)&&(okE v c (xs.tail.headD dE)&&okA r c xs.tail.tail))=eP:=h;rw[bAq,bAq]at h;exact CC (eE k X c _ g h.1) (eE v X c _ g h.2.1)<|eD r X c _ î g h.2.2 he
theorem eA:∀(ms:O.Es) (X:Cx) (c:Md) (xs:List Expr),Gd X i P n c->okA ms c xs=eP->PA X (toA ms c xs) (tAr X i (O.wF P n) ms (toA ms c xs).length)
 |.nil,X,c,xs,g,h=>Iy
 |.cons a as,X,c,xs,g,h=>by have h:(okE a c (xs.headD dE)&&okA as c xs.tail)=eP:=h;rw[bAq]at h;exact Go (eE a X c _ g h.1) (eA as X c _ g h.2)<|ZK ..
theorem eJ:∀(ms:O.Es) (X:Cx) (c:Md) (xs:List Expr),Gd X i P n c->okJ ms c xs=eP->PJ X (toJ ms c xs) (tJs X i (O.wF P n) ms)
 |.nil,X,c,xs,g,h=>Iw
 |.cons a as,X,c,xs,g,h=>by
  have h:((BU a||okE a c (kid (xs.headD dE) 0))&&okJ as c xs.tail)=eP:=h;rw[bAq]at h;have hr:=eJ as X c _ g h.2;show PJ X ((if BU a then toX a c (xs.headD dE)else .FormattedValue (toX a c<|kid (xs.headD dE) 0) (-1) eN (xs.headD dE).pos)::toJ as c xs.tail) _;cases z:BU a with
  |true =>let⟨s,rfl⟩:=Se z;exact U7 IT hr rfl
  |false =>rw[z]at h;exact U7 (LR<|eE a X c _ g h.1) hr rfl
theorem eO:∀(m:O.Oe) (X:Cx) (c:Md) (x:Expr),Gd X i P n c->okO m c x=eP->PO X (toO m c x) (tOx X i (O.wF P n) m)
 |.none,X,c,x,g,h=>Gf
 |.some e,X,c,x,g,h=>FW<|eE e X c _ g h
theorem eT:∀(m:O.Tt) (X:Cx) (c:Md) (x:Expr),Gd X i P n c->okT m c x=eP->PT X (toT m c x) (tTt X i (O.wF P n) m)/\((Zs m||ZJ m)=eP->PW X (toT m c x) (tTt X i (O.wF P n) m))
 |.yes,X,c,x,g,h=>nomatch h
 |.val e,X,c,x,g,h=>by
  refine⟨?_,λz=>(by cases z)⟩;have h:(okE e c x&&(Uo e||Ru e))=eP:=h;rw[bAq]at h;have he:=eE e X c x g h.1;cases z:Uo e with
  |true=>exact Lv he (by cases e<;>first|(cases z;done)|exact λ_=>rfl) g.K
  |false =>
   have h2:=h.2;rw[z]at h2;cases e with
   |cmp o a b =>have h:(okE a c (kid x 0)&&okE b c (kid x 1)&&(!X3 o||OJ b))=eP:=h.1;rw[bAq,bAq]at h;exact(NT g h.2 (eE a X c _ g h.1.1)<|eE b X c _ g h.1.2).2
   |chain o1 o2 a b d =>have h:(okE a c (kid x 0)&&okE b c (kid x 1)&&okE d c (kid x 2) && !X3 o1 && !X3 o2)=eP:=h.1;rw[bAq,bAq,bAq,bAq,ŏ,ŏ]at h;let⟨⟨⟨⟨h1,h2⟩,h3⟩,h4⟩,h5⟩:=h;exact(Kn g h4 h5 (eE a X c _ g h1) (eE b X c _ g h2)<|eE d X c _ g h3).2
   |_=>cases h2
 |.not t,X,c,x,g,h=>⟨Lm (eT t X c _ g h).1,λz=>(by cases z)⟩
 |.and a b,X,c,x,g,h=>by
  have h:(okT a c (kid x 0)&&okT b c (rest (Zs b) x)&&(!Zs b||(rest (Zs b) x).pos==x.pos))=eP:=h;rw[bAq,bAq]at h;have h2:=eT b X c _ g h.1.2;let⟨y,ys,e,h3⟩:=AM h.2 h2.1 h2.2;have h4:PW X (toT (.and a b) c x)<|tTt X i (O.wF P n)<|.and a b:=by show PW X (.BoolOp .And (toT a c (kid x 0)::flat (Zs b) (toT b c<|rest (Zs b) x)) x.pos) _;rw[e];exact Pn (eT a X c _ g h.1.1).1 h3
  exact⟨h4.pt,λ_=>h4⟩
 |.or a b,X,c,x,g,h=>by
  have h:(okT a c (kid x 0)&&okT b c (rest (ZJ b) x)&&(!ZJ b||(rest (ZJ b) x).pos==x.pos))=eP:=h;rw[bAq,bAq]at h;have h2:=eT b X c _ g h.1.2;let⟨y,ys,e,h3⟩:=DG h.2 h2.1 h2.2;have h4:PW X (toT (.or a b) c x)<|tTt X i (O.wF P n)<|.or a b:=by show PW X (.BoolOp .Or (toT a c (kid x 0)::flat (ZJ b) (toT b c<|rest (ZJ b) x)) x.pos) _;rw[e];exact Qc (eT a X c _ g h.1.1).1 h3
  exact⟨h4.pt,λ_=>h4⟩
theorem eI:∀(m:O.It) (X:Cx) (c:Md) (x tg:Expr),Gd X i P n c->∀(b:Bool),(b=eP->∃es k p,tg=.Tuple es k p)->(b=eQ->∃y p,tg=.Name y p)->okI m c x b=eP->PI X tg (toI m c x) (tIt X i (O.wF P n) m)/\∀y,Ę (toI m c x) X.env y=pure y
 |.seq e,X,c,x,tg,g,b,t1,t2,h=>⟨LO g.K<|eE e X c _ g h,Iz _ _ _ _⟩
 |.chars e,X,c,x,tg,g,b,t1,t2,h=>nomatch h
 |.range a,X,c,x,tg,g,b,t1,t2,h=>by have h:(c.gl "range" && okE a c (kid x 1))=eP:=h;rw[bAq]at h;exact⟨E2 (g.gl h.1) (g.bl _<|by simp[blts]) (eE a X c _ g h.2)<|ZK ..,λ_=>rfl⟩
 |.range2 a d,X,c,x,tg,g,b,t1,t2,h=>nomatch h
 |.zip a d,X,c,x,tg,g,b,t1,t2,h=>nomatch h
 |.enum e,X,c,x,tg,g,b,t1,t2,h=>by have h:(b&&c.gl "enumerate" && okE e c (kid x 1))=eP:=h;rw[bAq,bAq]at h;let⟨es,k,p,rfl⟩:=t1 h.1.1;exact⟨GQ g.K (g.gl h.1.2) (g.bl _<|by simp[blts]) (eE e X c _ g h.2) (by rw[ZK];rfl),λ_=>rfl⟩
 |.items e,X,c,x,tg,g,b,t1,t2,h=>nomatch h
 |.rev e,_,_,_,_,_,_,_,_,h=>nomatch h
end
def BY(g:Gd X i P n c){m:Nat}{t:O.Tt}(h:okE (.comp ù m p it t e) c x=eP) :
  PE X (toX (.comp ù m p it t e) c x) (tE X i (O.wF P n)<|.comp ù m p it t e)/\
   ∀(y:Str) (py Ϥ:Pos) (j:Nat),X.N[j]?=eM y->L2.Loc X.env.scope y->(X.fn y=eP\/X.env.scope.names.lookup y=eM .local)->υ (toX (.comp ù m p it t e) c x) (eM<|.Name y py) Ϥ.line X.env=pure eP->PS X (.Assign [.Name y py] (toX (.comp ù m p it t e) c x) Ϥ) (tSt X i (O.wF P n)<|.set (.one j)<|.comp ù m p it t e):=by
 have h:((OZ m p&&(YR<|kid x 1).length==m)&&c.cm&&Ys (scp x) c.sc c.N (YR<|kid x 1) ù&&(scp x).kind == .function&&okI it c (kid x 2) (!ZG p)&&okE e (c.blk (scp x) (YR<|kid x 1) ù) (kid x 0)&&(Ao t||okT t (c.blk (scp x) (YR<|kid x 1) ù) (kid x 3)))=eP:=h;rw[bAq,bAq,bAq,bAq,bAq,bAq]at h;let⟨⟨⟨⟨⟨⟨h1,h2⟩,h3⟩,h4⟩,h5⟩,h6⟩,h7⟩:=h;rw[bAq,beq_iff_eq]at h1;let⟨h1,rfl⟩:=h1;have hk:=eq_of_beq h4;let⟨t1,t2⟩:=M6 (c:=c.blk (scp x) (YR<|kid x 1) ù) p<|kid x 1;let⟨a1,a2⟩:=eI it X c (kid x 2) (toP p (c.blk (scp x) (YR<|kid x 1) ù)<|kid x 1) g (!ZG p) t1 t2 h5;exact Mj g h2 h3 hk h1 a1 a2 (g.pt h2 h3 hk h1 _)
  (λcl C s H ex=>pe0<|eE e _ _ _ (g.blk h3 hk cl C s H ex) h6) (λcl C s H ex=>QL λz=>(eT t _ _ _ (g.blk h3 hk cl C s H ex)<|by rw[z]at h7;exact h7).1)
abbrev dS:ň:=.Pass ⟨0,0,0,0⟩
abbrev stE:ň->List Expr
 |.Assign ts v _=>v::ts
 |.AugAssign t _ v _=>[v,t]
 |.For t it _ _ _=>[t,it]
 |.While t _ _ _=>[t]
 |.If t _ _ _=>[t]
 |.Expr e _=>[e]
 |.Return (eM e) _=>[e]
 |.Raise (eM e) _ _=>[e]
 |_=>[]
abbrev ke(s:ň)(j:Nat):Expr:=(stE s).getD j dE
abbrev stB:ň->List ň
 |.For _ _ b _ _=>b
 |.While _ b _ _=>b
 |.If _ b _ _=>b
 |.Try b _ _ _ _=>b
 |_=>[]
abbrev stO:ň->List ň
 |.If _ _ b _=>b
 |_=>[]
abbrev stH:ň->List ExceptHandler
 |.Try _ hs _ _ _=>hs
 |_=>[]
abbrev dH:ExceptHandler:=.ExceptHandler eN eN [] ⟨0,0,0,0⟩
abbrev hT:ExceptHandler->Expr
 |.ExceptHandler (eM e) _ _ _=>e
 |_=>dE
abbrev hB:ExceptHandler->List ň
 |.ExceptHandler _ _ b _=>b
abbrev hP:ExceptHandler->Pos
 |.ExceptHandler _ _ _ p=>p
abbrev Md.hot(c:Md):Md:={c with cm:=eQ}
abbrev R0(t:Option Nat)(e:O.E)(c:Md)(y:ň):ň:=match t with
 |none=>.Expr (toX e c<|ke y 0) y.pos
 |some j=>.Assign [.Name (c.nmOf j) (ke y 1).pos] (toX e c<|ke y 0) y.pos
mutual
noncomputable def toS:O.S->Md->ň->ň
 |.set p a,c,s=>.Assign [toP p c<|ke s 1] (toX a c<|ke s 0) s.pos
 |.setIdx a j e,c,s=>.Assign [.Subscript (toX a c<|kid (ke s 1) 0) (toX j c<|kid (ke s 1) 1) (ke s 1).pos] (toX e c<|ke s 0) s.pos
 |.setPair a i b j e,c,s=>.Assign [.Tuple [.Subscript (toX a c<|kid (kid (ke s 1) 0) 0) (toX i c<|kid (kid (ke s 1) 0) 1) (kid (ke s 1) 0).pos,.Subscript (toX b c<|kid (kid (ke s 1) 1) 0) (toX j c<|kid (kid (ke s 1) 1) 1) (kid (ke s 1) 1).pos] (num<|ke s 1) (ke s 1).pos] (toX e c<|ke s 0) s.pos
 |.setFld o f e,c,s=>.Assign [.Attribute (toX o c<|kid (ke s 1) 0) (gD f) (ke s 1).pos] (toX e c<|ke s 0) s.pos
 |.augVar j op e,c,s=>.AugAssign (.Name (c.nmOf j) (ke s 1).pos) (Ui op) (toX e c<|ke s 0) s.pos
 |.augFld o f op n,c,s=>.AugAssign (.Attribute (toX o c<|kid (ke s 1) 0) (gD f) (ke s 1).pos) (Ui op) (.Constant (.int n) (num<|ke s 0) (ke s 0).pos) s.pos
 |.augIdx a j op n,c,s=>.AugAssign (.Subscript (toX a c<|kid (ke s 1) 0) (toX j c<|kid (ke s 1) 1) (ke s 1).pos) (Ui op) (.Constant (.int n) (num<|ke s 0) (ke s 0).pos) s.pos
 |.expr e,c,s=>.Expr (toX e c<|ke s 0) s.pos
 |.ret e,c,s=>.Return (eM<|toX e c<|ke s 0) s.pos
 |.retN,_,s=>.Return eN s.pos
 |.ite t a b,c,s=>.If (toT t c<|ke s 0) (toSs a c<|stB s) (toSs b c<|stO s) s.pos
 |.whl t b,c,s=>.While (toT t c<|ke s 0) (toSs b c<|stB s) [] s.pos
 |.for p it b,c,s=>.For (toP p c<|ke s 0) (toI it c<|ke s 1) (toSs b c<|stB s) [] s.pos
 |.forI eP p e b,c,s=>.For (toP p c<|ke s 0) (toX e c<|ke s 1) (toSs b c<|stB s) [] s.pos
 |.forI eQ p e b,c,s=>.For (toP p c<|ke s 0) (.Call (.Attribute (toX e c<|kid (kid (ke s 1) 0) 0) "items" (kid (ke s 1) 0).pos) [] [] (ke s 1).pos) (toSs b c<|stB s) [] s.pos
 |.brk,_,s=>.Break s.pos
 |.cnt,_,s=>.Continue s.pos
 |.pass,_,s=>.Pass s.pos
 |.raise C as,c,s=>.Raise (eM<|.Call (.Name (gD C) (kid (ke s 0) 0).pos) (toA as c (sub<|ke s 0).tail) [] (ke s 0).pos) eN s.pos
 |.try t e hs,c,s=>.Try [R0 t e c<|(stB s).headD dS] (toH hs c<|stH s) [] [] s.pos
 |_,_,s=>s
noncomputable def toH:O.Hn->Md->List ExceptHandler->List ExceptHandler
 |.nil,_,_=>[]
 |.cons K nm b r,c,xs=>.ExceptHandler (eM<|.Name (gD K) (hT<|xs.headD dH).pos) (nm.map c.nmOf) (toSs b c.hot<|hB<|xs.headD dH) (hP<|xs.headD dH)::toH r c xs.tail
noncomputable def toSs:O.Ss->Md->List ň->List ň
 |.nil,_,_=>[]
 |.cons m ms,c,xs=>toS m c (xs.headD dS)::toSs ms c xs.tail
end
abbrev H9:O.E->Bool
 |.idx _ _=>eP
 |.var _=>eP
 |.fld _ _=>eP
 |_=>eQ
abbrev N5(c:Md)(j:Nat):Bool:=gC (j<c.N.length)&&c.loc (c.nmOf j)
abbrev okP(p:O.Pt)(c:Md):Bool:=match p with
 |.one j=>N5 c j
 |.many js=>js.all<|N5 c
 |.nest j js=>N5 c j&&js.all (N5 c)
abbrev CG:O.E->Bool
 |.tup _=>eP
 |.key _=>eP
 |_=>eQ
abbrev O6:O.E->Bool
 |.comp _ _ _ _ _ _=>eP
 |_=>eQ
abbrev swT(c:Md)(tg v:Expr):Bool:=match v,tg with
 |.ListComp _ _ s î,.Name t p=>(if c.sc.kind.isAnnotationScope then ScopeKind.function else c.sc.kind) == .function&&c.sc.names.lookup t==eM .local&&p.line==î.line && !(s.names.any λ(n,k)=>n==t&&(k == .local||k == .cell))
 |_,_=>eQ
abbrev A4:O.Bop->Bool
 |.add=>eP
 |.sub=>eP
 |_=>eQ
abbrev R1(c:Md)(j:Nat):Bool:=gC (j<c.N.length)&&c.sc.names.lookup (c.nmOf j)==eM .local
abbrev Sl(c:Md):Option Nat->Bool
 |none=>eP
 |some j=>R1 c j
abbrev Qn:O.Ss->Bool
 |.nil=>eQ
 |_=>eP
abbrev RN:O.Hn->Bool
 |.nil=>eP
 |_=>eQ
mutual
noncomputable def okS:O.S->Md->ň->Bool
 |.set p a,c,s=>okP p c&&okE a c (ke s 0)&&(ZG p || !CG a)&&(ZG p||c.cm)
 |.setIdx a j e,c,s=>okE e c (ke s 0)&&okE a c (kid (ke s 1) 0)&&okE j c (kid (ke s 1) 1)
 |.setFld o f e,c,s=>c.fl.contains f&&okE o c (kid (ke s 1) 0)&&okE e c (ke s 0)
 |.augFld o f op _,c,s=>c.fl.contains f&&okE o c (kid (ke s 1) 0)&&A4 op
 |.augIdx a j op _,c,s=>okE a c (kid (ke s 1) 0)&&okE j c (kid (ke s 1) 1)&&A4 op
 |.expr e,c,s=>okE e c (ke s 0) && !O6 e
 |.ret e,c,s=>okE e c<|ke s 0
 |.retN,_,_=>eP
 |.ite t a b,c,s=>okT t c (ke s 0)&&okSs a c (stB s)&&okSs b c (stO s)
 |.whl t b,c,s=>okT t c (ke s 0)&&okSs b c (stB s)&&c.cm
 |.for p it b,c,s=>okP p c&&okI it c (ke s 1) (!ZG p)&&okSs b c (stB s)&&c.cm
 |.forI eP p e b,c,s=>okP p c&&H9 e&&okE e c (ke s 1)&&okSs b c (stB s)&&c.cm
 |.forI eQ p e b,c,s=>okP p c && !ZG p&&okE e c (kid (kid (ke s 1) 0) 0)&&YK (toX e c<|kid (kid (ke s 1) 0) 0)&&((kid (ke s 1) 0).pos.endLine==(ke s 1).pos.line)&&okSs b c (stB s)&&c.cm
 |.never,_,_=>eP
 |_,_,_=>eQ
noncomputable def okH:O.Hn->Md->List ExceptHandler->Bool
 |.nil,_,_=>eQ
 |.cons K nm b r,c,xs=>(c.xs.contains K||K == "ShutError")&&c.gn K && !c.xs.isEmpty&&Sl c nm&&Qn b&&okSs b c.hot (hB<|xs.headD dH)&&RN r
noncomputable def okSs:O.Ss->Md->List ň->Bool
 |.nil,_,_=>eP
 |.cons m ms,c,xs=>okS m c (xs.headD dS)&&okSs ms c xs.tail
end
structure Gs(X:Cx)(i:Inf)(P:O.Pg)(n:Nat)(c:Md):Prop extends Gd X i P n c where
 fn:∀x,c.loc x=eP->X.fn x=eP\/X.env.scope.names.lookup x=eM .local
 own:c.cm=eP->Ω (à X.prog X.w) X.A X.env X.xe
 stk:c.cm=eP->X.stack=X.env::X.outer
variable {X:Cx}{i:Inf}{P:O.Pg}{n:Nat}{c:Md}
def Gs.nm1(g:Gs X i P n c){j:Nat}(h:N5 c j=eP):X.N[j]?=eM (c.nmOf j)/\L2.Loc X.env.scope (c.nmOf j)/\(X.fn (c.nmOf j)=eP\/X.env.scope.names.lookup (c.nmOf j)=eM .local):=by unfold N5 at h;rw[bAq,gA]at h;exact⟨Cs g.N h.1,g.loc h.2,g.fn _ h.2⟩
variable {p:O.Pt}
def QR(g:Gs X i P n c)(h:okP p c=eP):Id (B2 X c) p:=by
 cases p with
 |one j=>exact g.nm1 h
 |many js=>exact λj hj=>g.nm1<|û.mp h j hj
 |nest j js =>have h:(N5 c j&&js.all (N5 c))=eP:=h;rw[bAq]at h;exact⟨g.nm1 h.1,λk hk=>g.nm1<|û.mp h.2 k hk⟩
variable {x:Expr}
def Ak(g:Gs X i P n c)(dX:c.cm=eP)(h:okP p c=eP):PG X (toP p c x)<|gPt i p:=Hz g.K (by rw[g.N];exact g.nd) (g.calm dX) (QR g h)
variable {tg:Expr}
def Jf{l:Nat}{env:Env}(a:O.E)(x:Expr)(hs:env.scope=c.sc):υ (toX a c x) (eM tg) l env=pure (swT c tg<|toX a c x):=by
 cases a with
 |comp ù m p it t e =>
  cases tg with
  |Name t q =>unfold υ swT Env.blockKind Env.kindOf;rw[hs];rfl
  |_=>rfl
 |_=>rfl
def Lc(p:O.Pt)(a:O.E)(x y:Expr)(env:Env)(h:(ZG p || !CG a)=eP):ϛ [toP p c x] (toX a c y) env=pure eN:=by
 cases p with
 |one j=>cases a<;>rfl
 |many js=>cases a<;>first|rfl|cases h
 |nest j js=>cases a<;>first|rfl|cases h
def E0(p:O.Pt)(x:Expr)(env:Env):(Ġ [toP p c x] env).map (·.2)=[Ε (toP p c x) env]:=by cases p<;>rfl
def Ix{a:O.E}(h:swT c tg (toX a c x)=eP):∃ù m p it t e,a=.comp ù m p it t e:=by
 cases a with
 |comp ù m p it t e=>exact⟨_,_,_,_,_,_,rfl⟩
 |_=>cases h
def FX(y:O.E){b:Expr}{î:Pos}{env:Env}:∀v,Ε (.Subscript b (toX y c x) î) env v=(do
    let ov<-Ŝ [v] (eval b env)
    let iv<-Ŝ [v,ov] (eval (toX y c x) env)
    ϔ î
    Ŝ [v,ov,iv] (aZ ov iv v)
    dZ [v,ov,iv] []):=by
 intro v;cases y<;>rfl
def HH{op:O.Bop}(h:A4 op=eP):Cg X (Ui op)<|rAS op:=by
 cases op with
 |add =>
  intro Â s σ H x y u v Q I rx ry q;let⟨a,b,rfl,rfl,q⟩:=q;rcases q with⟨_,q⟩|⟨z,_⟩
  .exact Lo Â s σ H _ _ u v Q I rx ry ⟨a,b,rfl,rfl,q⟩
  .cases z
 |sub =>
  intro Â s σ H x y u v Q I rx ry q;let⟨a,b,rfl,rfl,q⟩:=q;rcases q with⟨z,_⟩|⟨_,q⟩
  .cases z
  .exact Ln Â s σ H _ _ u v Q I rx ry ⟨a,b,rfl,rfl,q⟩
 |_=>cases h
def ED:PGet X<|DM X.K:=λÂ s σ H x y v u Q I rx ry h=>by
 let⟨p,xs,i,z,rfl,rfl,hq,he,q⟩:=h;cases rx;let⟨t,rfl⟩:=ry;let⟨õ,r,pl,hz⟩:=I.list hq;let⟨j,h1,h2,h3,h4,h5⟩:=W1 he;let⟨w,ew,bf⟩:=r.get h2;have hl:=r.length;have hn:=Xn;have fin:EP X Â σ Q w s:=⟨z,H,I,bf,q⟩
 by_cases h0:0<=i
 .have hj:i.toNat=j:=by
   rw[bK h0 h5]at h1;exact ñ h1
  exact wpAny_getItem_list pl.isList h0 (by lia) (by rw[hj];simpa using ew) fin
 .have hj:(i+(õ.toArray.size:Int)).toNat=j:=by
   rw[a8 (by lia) h4]at h1;rw[Ð,<-hl];exact ñ h1
  exact d9 pl.isList (by lia) (by rw[Ð]<;>lia) (by lia) (by rw[hj];simpa using ew) fin
def CU(hu:X.A.units+1<Ķ):PGet X CK:=λÂ s σ H x y v u Q I rx ry h=>by let⟨a,z,rfl,g,q⟩:=h;cases rx;exact Mn hu I g ry λw s' I' r=>⟨z,H,I',r,q⟩
def PGet.or{r r':R2}(h:PGet X r)(h':PGet X r'):PGet X λx y H Q=>r x y H Q\/r' x y H Q:=λÂ s σ H o j ov jv Q I ro rj q=>by
 rcases q with q|q
 .exact h Â s σ H o j ov jv Q I ro rj q
 .exact h' Â s σ H o j ov jv Q I ro rj q
def LA{G:O.Hs}{H:Hp}{a:Ï}{u w:O.Val}{y:V}{K:Frag}{Q:VK}(g:RH i G H)(ry:RV i.K H u y)(e:O.fI G (.ref a) u=eM w)(q:∀z,RV i.K H w z->Q z H):DM K (.ref a) y H Q\/CK (.ref a) y H Q:=by
 replace e:(match G a with|some (.lst xs)=>(O.gk u).bind (O.atI xs)|some (.dct kvs)=>if O.fk u then O.fq kvs u else eN|some (.frz kvs)=>if O.fk u then O.fq kvs u else eN|some (.dtp kvs)=>if O.isKeyT u then O.fq kvs u else eN|_=>eN)=eM w:=e
 cases z:G a with
 |none=>rw[z]at e;cases e
 |some o =>
  rw[z]at e;cases o with
  |lst xs =>let⟨k,hk,e⟩:=ê.mp e;cases Z3 hk;let⟨vs,h1,h2⟩:=g a _ z;let⟨t,h3,h4⟩:=W7 h2 e;exact .inl ⟨a,vs,k,t,rfl,ry.int_inv,fZ.of h1,h3,q t h4⟩
  |dct kvs =>let⟨hk,e⟩:=Zm (show(if O.fk u then O.fq kvs u else eN)=eM w from e);let⟨ps,h1,h2⟩:=g a _ z;let⟨d,kr,rfl⟩:=fh hk ry;let⟨t,hx,rv⟩:=(h2.look kr).1 w e;exact .inr ⟨a,t,rfl,by rw[<-hx];exact DGet.k h1,q t rv⟩
  |frz kvs =>let⟨hk,e⟩:=Zm (show(if O.fk u then O.fq kvs u else eN)=eM w from e);let⟨ob,ps,h1,h2⟩:=g a _ z;let⟨d,kr,rfl⟩:=fh hk ry;let⟨t,hx,rv⟩:=(h2.look kr).1 w e;exact .inr ⟨a,t,rfl,.inl ⟨ps,d,.inr ⟨ob,h1⟩,rfl,hx.symm⟩,q t rv⟩
  |dtp kvs =>let⟨hk,e⟩:=Zm (show(if O.isKeyT u then O.fq kvs u else eN)=eM w from e);let⟨ps,h1,h2⟩:=g a _ z;let⟨k1,k2,b,rfl,rfl,hb⟩:=W5 hk ry;let⟨t,hx,rv⟩:=(h2.look).1 w e;exact .inr ⟨a,t,rfl,by rw[<-hx];exact DGet.t h1 hb,q t rv⟩
  |_=>cases e
def Pf(e:O.E)(x:Expr):∀ov iv new,augStore (toX e c x) ov iv new=(do Ŝ [new,ov,iv] (aZ ov iv new);dZ [new,ov,iv] [];pure .next):=by intro ov iv new;cases e<;>rfl
def BH{Φ:O.Fs}{a j:Expr}{ma mj:O.E}{op:O.Bop}{k:Int}{kk:Nat}{î cK ś:Pos}(hK:X.K=i.K)(hu:X.A.units+1<Ķ)(h:A4 op=eP)(ha:PE X a<|tE X i Φ ma)(hj:PE X j<|tE X i Φ mj)
  (hs:∀ov iv new,augStore j ov iv new=(do Ŝ [new,ov,iv] (aZ ov iv new);dZ [new,ov,iv] [];pure .next)) :
  PS X (.AugAssign (.Subscript a j cK) (Ui op) (.Constant (.int k) kk ś) î) (tSt X i Φ<|.augIdx ma mj op k) :=
 (GJ ha hj (PGet.or ED<|CU hu) Uq (HH h) (PSet.or OD<|N8 hu) hs).imp λD σ H ⟨env,G,N,R,B,C,Xe,p,w,c⟩=>by
  refine one p.pre w λv G1 H1 x k1 p1 rx q=>?_;refine one p1 q λu G2 H2 y k2 p2 ry q=>?_;let⟨t,e1,q2⟩:=eV q;clear q;let⟨z,e2,q3⟩:=eV q2;clear q2;let⟨G3,e3,q4⟩:=eV q3;clear q3;have hr:∃b,v=.ref b:=by
   cases v with
   |ref b=>exact⟨b,rfl⟩
   |_=>cases e3
  let⟨b,rfl⟩:=hr;cases rx.ref_inv;have ix2:∀Q:VK,(∀t',RV i.K H2 t t'->Q t' H2)->DM X.K (.ref b) y H2 Q\/CK (.ref b) y H2 Q:=λQ hQ=>LA p2.hp ry e1 hQ;refine ix2 _ λt' rt=>?_;let⟨n1,n2,rfl,e0,hz⟩:=OC e2;cases e0;cases rt.int_inv;have fin:∀m:Int,z=.int m->DH (.ref b) y (.int m) H2 λH6=>D.nx σ H6:=λm hm=>by subst hm;exact DC p2.hp (.ref b) ry (.int m) e3 λH3 k3 g3=>c.nx env σ _ _ ((k1.trans k2).trans k3) g3 (p2.en.keep k3) q4
  rcases hz with⟨eo,hz⟩|⟨eo,hz⟩
  .exact⟨n1,k,rfl,rfl,.inl ⟨eo,fin _ hz⟩⟩
  .exact⟨n1,k,rfl,rfl,.inr ⟨eo,fin _ hz⟩⟩
def Fu(t v:Expr)(p:Pos)(env:Env)(h:(∃a b q,t=.Subscript a b q)\/(∃a b q,t=.Attribute a b q)):ϛ [t] v env=pure eN:=by rcases h with⟨a,b,q,rfl⟩|⟨a,b,q,rfl⟩<;>rfl
variable {a:O.E} {x:Expr}
def FG{t:Option Expr}{l:Nat}{env:Env}(h:(!O6 a)=eP):υ (toX a c x) t l env=pure eQ:=by
 cases a with
 |comp ù m p it tt e=>cases h
 |_=>rfl
def CT{tg:Expr}(h:∀y q,tg≠.Name y q):swT c tg (toX a c x)=eQ:=by
 cases a with
 |comp ù m p it tt e =>
  cases tg with
  |Name y q=>exact gB rfl<|h y q
  |_=>rfl
 |_=>rfl
def Lx(g:Gs X i P n c){p:O.Pt}(hc:(ZG p||c.cm)=eP)(h:okP p c=eP):PG X (toP p c x)<|gPt i p:=by
 by_cases dX:c.cm=eP
 .exact Ak g dX h
 .cases p with
  |one j =>let⟨h1,h2,h3⟩:=g.nm1 h;exact UD (by rw[g.N];exact g.nd) h1 h2 h3
  |many js=>exact gB hc dX
  |nest j js=>exact gB hc dX
mutual
theorem sS:∀(m:O.S) (X:Cx) (c:Md) (s:ň),Gs X i P n c->okS m c s=eP->PS X (toS m c s) (tSt X i (O.wF P n) m)
 |.set p a,X,c,s,g,h=>by
  have h:(okP p c&&okE a c (ke s 0)&&(ZG p || !CG a)&&(ZG p||c.cm))=eP:=h;rw[bAq,bAq,bAq]at h;let⟨⟨⟨h1,h2⟩,h3⟩,h4⟩:=h;by_cases hsw:swT c (toP p c<|ke s 1) (toX a c<|ke s 0)=eP
  .obtain⟨ù,k,pt,it,tt,e,rfl⟩:=Ix hsw;cases p with
   |one j =>let⟨q1,q2,q3⟩:=g.nm1 h1;exact(BY g.toGd h2).2 _ _ _ j q1 q2 q3 (by rw[<-hsw];exact Jf (c:=c) (.comp ù k pt it tt e) (ke s 0) g.sc)
   |many js=>cases hsw
   |nest j js=>cases hsw
  .have hp:PG X (toP p c<|ke s 1)<|gPt i p:=Lx g h4 h1;exact L8 (eE a X c _ g.toGd h2) hp (by rw[Ϛ,Jf a _ g.sc,eC.mpr hsw]) (Lc p a _ _ _ h3)<|E0 p _ _
 |.setIdx a j e,X,c,s,g,h=>by have h:(okE e c (ke s 0)&&okE a c (kid (ke s 1) 0)&&okE j c (kid (ke s 1) 1))=eP:=h;rw[bAq,bAq]at h;have ha:=eE a X c _ g.toGd h.1.2;have hj:=eE j X c _ g.toGd h.2;exact AZ g.K (eE e X c _ g.toGd h.1.1) ha hj (IV ha hj (PSet.or OD<|N8 (by have:=g.un;lia))<|FX j) (by rw[Ϛ,Jf e _ g.sc,CT λy q z=>(by cases z)]) (Fu _ _ (ke s 1).pos _<|.inl ⟨_,_,_,rfl⟩) rfl
 |.setPair a j b k e,X,c,s,g,h=>nomatch h
 |.setFld o f e,X,c,s,g,h=>by have h:(c.fl.contains f&&okE o c (kid (ke s 1) 0)&&okE e c (ke s 0))=eP:=h;rw[bAq,bAq]at h;exact A6 g.K g.kl.A (g.kl.F _ h.1.1) (eE o X c _ g.toGd h.1.2) (eE e X c _ g.toGd h.2) (by rw[Jf e _ g.sc,CT λy q z=>(by cases z)])
 |.augVar j op e,X,c,s,g,h=>nomatch h
 |.augFld o f op k,X,c,s,g,h=>by have h:(c.fl.contains f&&okE o c (kid (ke s 1) 0)&&A4 op)=eP:=h;rw[bAq,bAq]at h;exact B1 g.K g.kl.A (g.kl.F _ h.1.1) (HH h.2)<|eE o X c _ g.toGd h.1.2
 |.expr e,X,c,s,g,h=>by have h:(okE e c (ke s 0) && !O6 e)=eP:=h;rw[bAq]at h;exact FQ (eE e X c _ g.toGd h.1)<|FG h.2
 |.ret e,X,c,s,g,h=>IZ<|eE e X c _ g.toGd h
 |.retN,X,c,s,g,h=>GR
 |.ite t a b,X,c,s,g,h=>by have h:(okT t c (ke s 0)&&okSs a c (stB s)&&okSs b c (stO s))=eP:=h;rw[bAq,bAq]at h;exact PH (eT t X c _ g.toGd h.1.1).1 (sSs a X c _ g h.1.2)<|sSs b X c _ g h.2
 |.whl t b,X,c,s,g,h=>by have h:(okT t c (ke s 0)&&okSs b c (stB s)&&c.cm)=eP:=h;rw[bAq,bAq]at h;exact LE (g.own h.2) (eT t X c _ g.toGd h.1.1).1<|sSs b X c _ g h.1.2
 |.for p it b,X,c,s,g,h=>by have h:(okP p c&&okI it c (ke s 1) (!ZG p)&&okSs b c (stB s)&&c.cm)=eP:=h;rw[bAq,bAq,bAq]at h;let⟨⟨⟨h1,h2⟩,h3⟩,h4⟩:=h;let⟨t1,t2⟩:=M6 (c:=c) p<|ke s 0;let⟨a1,a2⟩:=eI it X c (ke s 1) (toP p c<|ke s 0) g.toGd (!ZG p) t1 t2 h2;exact Lz (g.own h4) (g.calm h4) a1 (Ak g h4 h1) (sSs b X c _ g h3) a2
 |.forI eP p e b,X,c,s,g,h=>by have h:(okP p c&&H9 e&&okE e c (ke s 1)&&okSs b c (stB s)&&c.cm)=eP:=h;rw[bAq,bAq,bAq,bAq]at h;let⟨⟨⟨⟨h1,h2⟩,h3⟩,h6⟩,h7⟩:=h;refine Fb (g.own h7) (g.calm h7) (eE e X c _ g.toGd h3) (Ak g h7 h1) (sSs b X c _ g h6) λ_=>?_;cases e<;>first|rfl|cases h2
 |.forI eQ p e b,X,c,s,g,h=>by have h:(okP p c && !ZG p&&okE e c (kid (kid (ke s 1) 0) 0)&&YK (toX e c<|kid (kid (ke s 1) 0) 0)&&((kid (ke s 1) 0).pos.endLine==(ke s 1).pos.line)&&okSs b c (stB s)&&c.cm)=eP:=h;rw[bAq,bAq,bAq,bAq,bAq,bAq]at h;let⟨⟨⟨⟨⟨⟨h1,h2⟩,h3⟩,h4⟩,h5⟩,h6⟩,h7⟩:=h;let⟨es,k,q,et⟩:=(M6 (c:=c) p<|ke s 0).1 h2;have hg:=Ak (x:=ke s 0) g h7 h1;show PS X (.For (toP p c<|ke s 0) _ _ _ _) _;rw[et]at hg ⊢;exact GV (g.own h7) (g.calm h7) (eE e X c _ g.toGd h3) hg (sSs b X c _ g h6) (YA h4 _ _) h5 λ_=>rfl
 |.never,X,c,s,g,h=>DY
 |.brk,X,c,s,g,h=>nomatch h
 |.cnt,X,c,s,g,h=>nomatch h
 |.pass,X,c,s,g,h=>nomatch h
 |.raise C as,X,c,s,g,h=>nomatch h
 |.try t e (.cons K nm b .nil),X,c,s,g,h=>nomatch h
 |.try t e (.cons K nm b<|.cons _ _ _ _),X,c,s,g,h=>nomatch h
 |.try t e .nil,X,c,s,g,h=>nomatch h
 |.augIdx a j op k,X,c,s,g,h=>by have h:(okE a c (kid (ke s 1) 0)&&okE j c (kid (ke s 1) 1)&&A4 op)=eP:=h;rw[bAq,bAq]at h;exact BH g.K (by have:=g.un;lia) h.2 (eE a X c _ g.toGd h.1.1) (eE j X c _ g.toGd h.1.2)<|Pf j _
theorem sSs:∀(ms:O.Ss) (X:Cx) (c:Md) (xs:List ň),Gs X i P n c->okSs ms c xs=eP->PSs X (toSs ms c xs) (tBl X i (O.wF P n) ms)
 |.nil,X,c,xs,g,h=>LH
 |.cons m ms,X,c,xs,g,h=>by have h:(okS m c (xs.headD dS)&&okSs ms c xs.tail)=eP:=h;rw[bAq]at h;exact FV (sS m X c _ g h.1)<|sSs ms X c _ g h.2
end
abbrev Uc(N ps:List Str)(sc:Γ):Bool :=
 sc.kind == .function && !sc.isCoroutine && !sc.isGenerator&&decide N.Nodup&&(N.take ps.length==ps)&&ps.all (λx=>sc.names.lookup x==eM .local||sc.names.lookup x==eM .cell)&&sc.names.all λy=>y.2 != .free
variable {ps:List Str}
def Qg{N:List Str}{sc:Γ}(h:Uc N ps sc=eP):FnScope N ps sc:=by
 simp only[Uc,bAq,ŏ,gA,û]at h;let⟨⟨⟨⟨⟨⟨h1,h2⟩,h3⟩,h4⟩,h5⟩,h6⟩,h7⟩:=h;refine⟨eq_of_beq h1,h2,h3,h4,eq_of_beq h5,λx hx=>?_,λy hy=>?_⟩
 .simpa using h6 x hx
 .simpa using h7 y hy
structure Ds where
 st:ň
 N:List Str
 ps:List Str
 d:O.Fn
structure Mt where
 C:String
 m:String
 qual:String
 x:Ds
structure Tb where
 fs:List<|String×Ds
 ms:List Mt
 cs:List<|String×O.Val
 cl:List String
 fl:List String
 xs:List String
abbrev Tb.md(T:Tb)(x:Ds):Md:={N:=x.N,sc:=Zw x.st,cs:=T.cs,fs:=T.fs.map (·.1),cm:=eP,cl:=T.cl,ms:=T.ms.map λy=>(y.C,y.m),fl:=T.fl,xs:=T.xs}
abbrev Ds.test(T:Tb)(x:Ds):Bool :=
 Uc x.N x.ps (Zw x.st)&&okSs x.d.body (T.md x) (ZX x.st)&&x.ps.length==x.d.ar&&x.N.length==x.d.sz&&gC (x.d.ar<=x.d.sz)
structure Ds.Ok(T:Tb)(x:Ds):Prop where
 ok:x.test T=eP
 eq:toSs x.d.body (T.md x) (ZX x.st)=ZX x.st
variable {pr:ç}{wd:þ}{mg:Str->Option Ã}{base:Ĉ}{i:Inf}{P:O.Pg}{T:Tb}
abbrev Dst(K:Frag)(mg:Str->Option Ã)(f:String)(x:Ds):Prop:=∃fa fd qual,Fun K (gD f) qual x.st fa fd/\mg (gD f)=eM (.ref fa)/\Binds K fd x.ps []
structure Mst(i:Inf)(mg:Str->Option Ã)(y:Mt)(a fa:Ï):Prop where
 cl:mg (gD y.C)=eM (.ref a)
 fn:∃fd,Fun i.K (gD y.m) (gD y.qual) y.x.st fa fd/\Binds i.K fd y.x.ps []
 at_:Meth i.K a (gD y.m) fa
variable {f:String} {fa:Ï} {fd:Ŕ}
def Am:fz pr wd i.K mg base (CX1 pr wd) 0 fa fd ps<|spF i P 0 f:=by
 refine⟨λvs H Q E h=>?_,λA outer s H args us vs Q E hr he hb hv h=>?_⟩
 .obtain⟨_,_,_,_,_,_,w,_⟩:=h;rw[O.wF_eq]at w;exact w.elim
 .obtain⟨_,_,_,_,_,_,w,_⟩:=h;rw[O.wF_eq]at w;exact w.elim
variable {n:Nat}
def Er{vs:List O.Val}{h:O.Hs}{Q:O.Q1}{E:O.XQ}(q:O.wF P (n+1) f vs h Q E):∃d,P f=eM d/\vs.length=d.ar/\O.wSs (O.wF P n) d.body (d.env vs) h (λ_ g=>Q .non g) Q (λ_ _=>False) (λ_ _=>False) λ_ c g=>E c g:=by rw[O.wF_eq]at q;let⟨d,e,q1,q2⟩:=eV q;exact⟨d,e,q1,by rw[O.wF_eq];exact q2⟩
structure Modu(mg:Str->Option Ã)(base:Ĉ)(i:Inf)(T:Tb):Prop where
 bl:∀x∈blts,mg x=eN
 cst:∀x v,T.cs.lookup x=eM v->∃u y,mg (gD x)=eM u/\RelV y u/\∀H,RV i.K H v y
 A:ClsA i
 F:∀f,T.fl.contains f=eP->FldOk i f
 cl:∀C a,i.cl C a->mg (gD C)=eM (.ref a)
 mkc:∀C,T.cl.contains C=eP->∃a y f,i.ins C=eP/\i.cl C a/\Mk i.K a f/\y∈T.ms/\y.C=C/\y.m = "__init__"/\Mst i mg y a f
 fs:∀f x,(f,x)∈T.fs->Dst i.K mg f x
 ms:∀y,y∈T.ms->∃a f,Mst i mg y a f/\Cls i.K a
 xc:T.xs≠[]->∀C a,i.xc C a->XCls i.K a/\PySem.W.kitOne i.K (.ref a) (.type "ValueError")=eM eP
 rs:T.xs≠[]->∀C,T.xs.contains C=eP->∃a,i.xc C a/\PyProof.Rows.OwnCls (gD C) a [.type "ValueError",.type "Exception",.type "BaseException",.type "object"] "ValueError.__new__" mg base
 kn:T.xs≠[]->∀T',(T.xs.contains T'||T' == "ShutError")=eP->∃D,mg (gD T')=eM (.ref D)/\∀C a,i.xc C a->PySem.W.kitOne i.K (.ref a) (.ref D)=eM (O.fY C T')/\(O.fY C T'=eP->PySem.W.exmOne i.K (.ref a) (.ref D)=eM eP)
structure Held(pr:ç)(wd:þ)(mg:Str->Option Ã)(base:Ĉ)(i:Inf)(P:O.Pg)(T:Tb)(n:Nat):Prop where
 fs:∀f x,(f,x)∈T.fs->Dfo pr wd mg base i P n f
 ms:∀y a f,y∈T.ms->Mst i mg y a f->Dfm pr wd mg base i P n (y.C ++ "." ++ y.m) f
def fn_succ{x:Ds}{nm qual:Str}(M:Modu mg base i T)(hn:Held pr wd mg base i P T n)(F:Fun i.K nm qual x.st fa fd)(hP:P f=eM x.d)(ht:x.Ok T):fz pr wd i.K mg base (CX1 pr wd) (2*(n+1)) fa fd x.ps<|spF i P (n+1) f:=by
 let⟨ht,heq⟩:=ht;simp only[Ds.test,bAq,gA]at ht;let⟨⟨⟨⟨h1,h2⟩,h3⟩,h4⟩,h5⟩:=ht;have h3:=eq_of_beq h3;have h4:=eq_of_beq h4;have S:=Qg h1;refine F.ok1 (k:=2*n+1) S (λvs H Q E h=>?_) λϱ A outer s H vs Q E hr hsp hw=>?_
 .obtain⟨args,G,Qm,Em,r,g,w,_⟩:=h;let⟨d,e,q,_⟩:=Er w;rw[hP]at e;cases e;rw[<-r.length,q,h3]
 .obtain⟨args,G,Qm,Em,r,g,w,cn,ex⟩:=hsp;let⟨d,e,q,w⟩:=Er w;rw[hP]at e;cases e;have gd:Gs (MW (CX1 pr wd) pr wd i.K mg base x.N qual (Zw x.st) fa ϱ A outer s H E) i P n (T.md x) :=
   { K:=rfl,N:=rfl,sc:=rfl,nd:=S.nd,un:=(by have:=hr.un;show(A.deeper _).units+200<Ķ;lia),calm:=λ_=>rfl,room:=λ_=>hr,bl:=M.bl
     dfs:=λg hg=>(by
       let⟨p,hy,e⟩:=Ô.mp<|ă.mp hg
       subst e
       exact hn.fs p.1 p.2 hy)
     cst:=M.cst
     kl:=⟨M.A,M.F,λC hC=>(by
       let⟨a,y,f,q1,q2,q3,q4,rfl,q6,q7⟩:=M.mkc C hC
       refine⟨a,f,q1,q2,q3,M.cl _ _ q2,?_⟩
       have:=hn.ms y a f q4 q7
       rw[q6]at this
       rwa [show y.C ++ ".__init__" = y.C ++ "." ++ "__init__" by rw[String.append_assoc];rfl]),λC m hC=>(by
       let⟨y,hy,e⟩:=Ô.mp<|ă.mp hC
       cases e
       let⟨a,f,q1,q2⟩:=M.ms y hy
       refine⟨a,f,λb hb=>?_,q2,q1.at_,hn.ms y a f hy q1⟩
       have e1:=M.cl _ _ hb
       rw[q1.cl]at e1
       cases e1
       rfl)⟩
     xl:=λh=>⟨M.xc h,M.rs h,M.kn h⟩
     fn:=λ_ _=>.inl rfl
     own:=λ_=>PassesOwn.leaving
     stk:=λ_=>rfl }
  have hb:=sSs x.d.body _ _ _ gd h2;rw[heq]at hb;refine⟨_,hb,?_⟩;refine⟨x.d.env args,G,(λ_ g=>Qm .non g),Qm,(λ_ _=>False),(λ_ _=>False),(λ_ c g=>Em c g),?_,w,?_⟩
  .refine⟨?_,g,?_⟩
   .have:=REn.start (n:=x.d.sz - x.d.ar) r;unfold L2.start;have e1:x.N.length - vs.length=x.d.sz - x.d.ar:=by rw[h4,<-r.length,q]
    rw[e1];exact this
   .intro Â σ H0 s0 H' a cls s' I fl hx;let⟨e,c,G',ad,q1,q2,q3,q4,q5⟩:=hx;exact hw Â σ H0 s0 H' a cls s' I fl<|ex _ _ _ ⟨c,G',ad,q1,q2,q3,q4,q5⟩
  .refine⟨?_,?_,?_,?_⟩
   .intro Ŏ ť G' H' k g' e w';exact cn .non G' H' .non k g' .non w'
   .intro v G' H' y k g' rv w';exact cn v G' H' y k g' rv w'
   .intro _ _ _ _ _ _ _ z;exact z.elim
   .intro _ _ _ _ _ _ _ z;exact z.elim
def held_all(M:Modu mg base i T)(hP:∀f x,(f,x)∈T.fs->P f=eM x.d)(hPm:∀y,y∈T.ms->P (y.C ++ "." ++ y.m)=eM y.x.d)(ht:∀f x,(f,x)∈T.fs->x.Ok T)(htm:∀y,y∈T.ms->y.x.Ok T):∀n,Held pr wd mg base i P T n:=by
 intro n;induction n with
 |zero =>
  refine⟨λf x h=>?_,λy a f hy S=>?_⟩
  .obtain⟨fa,fd,qual,F,hm,hb⟩:=M.fs f x h;exact⟨fa,fd,x.ps,Am,hm,F.kp,hb⟩
  .obtain⟨fd,F,hb⟩:=S.fn;exact⟨fd,y.x.ps,Am,hb⟩
 |succ n ih =>
  refine⟨λf x h=>?_,λy a f hy S=>?_⟩
  .obtain⟨fa,fd,qual,F,hm,hb⟩:=M.fs f x h;exact⟨fa,fd,x.ps,fn_succ M ih F (hP f x h)<|ht f x h,hm,F.kp,hb⟩
  .obtain⟨fd,F,hb⟩:=S.fn;exact⟨fd,y.x.ps,fn_succ M ih F (hPm y hy)<|htm y hy,hb⟩
end Snd
namespace Hd
open PySem PySem.W PyProof.Rows
abbrev Jl(st:SharedT->Thread->Option (SharedT×Thread))(ok th:Thread->Bool):Nat->SharedT->Thread->Option SharedT
 |0,_,_=>eN
 |n+1,s,t=>match th t with
  |true=>eM s
  |false=>match ok t with
   |false=>eN
   |true=>match st s t with
    |some (s',t')=>Jl st ok th n s' t'
    |none=>eN
def JN{tb:String->Option Builtin}{p:Program}{w:World}{n₀:Nat}{ann:Option Value}:∀{n:Nat}{s s':SharedT}{t:Thread},Jl (stepT (denote tb) p w) (stepOk n₀ ann) through n s t=eM s'->topRun tb p w n₀ ann n s.abs t=eM s'.abs
 |0,_,_,_,h=>by cases h
 |n+1,s,s',t,h=>by
  unfold Jl at h;unfold topRun;cases ht:through t with
  |true=>rw[ht]at h;cases h;rfl
  |false =>
   rw[ht]at h;dsimp only at h ⊢;cases hk:stepOk n₀ ann t with
   |false=>rw[hk]at h;cases h
   |true =>
    rw[hk]at h;dsimp only at h ⊢;cases hs:stepT (denote tb) p w s t with
    |none=>rw[hs]at h;cases h
    |some r =>let⟨s2,t2⟩:=r;rw[hs]at h;rw[stepT_spec hs];exact JN h
abbrev J8(P:Params):BT :=
 .node (boot_o_0 P) (.node (boot_o_1 P) (.node (boot_o_3 P) (.node (boot_o_7 P) .nil .nil) .nil)<|.node (boot_o_5 P) (.node (boot_o_9 P) .nil .nil) .nil)
  (.node (boot_o_2 P) (.node (boot_o_4 P) (.node (boot_o_8 P) .nil .nil) .nil)<|.node (boot_o_6 P) (.node (boot_o_10 P) .nil .nil) .nil)
def B9(P:Params):absHeap (J8 P) 11 {}=boot_heap P:=by kernel_rfl
def Be(P:Params):((boot_heap P).isNs mainGlobals&&(Array.mk []:Array GenState).size==0,(boot_heap P).objs.size,(boot_heap P).nsMap mainGlobals "__annotations__")=(eP,11,eM<|.ref 6):=by
 rw[show @Heap.nsMap=_ from Fast.te8920871248978507458]
 kernel_rfl
abbrev HJ:=Fast.tw10156331382660048174
abbrev UP:=Fast.tw11892475500146522536
abbrev ES:=Fast.tw14364793385576792824
abbrev okY:=Fast.tw6613529449190102663
abbrev seenY:=Fast.tw4187177175401517315
abbrev modsY:=Fast.tw5923862056798008813
abbrev runY(p:Program)(N:Nat)(w:World)(os:OsState):Option SharedT:=Jl (HJ (UP ES) p w) (okY 11<|eM<|.ref 6) through N ⟨J8 w.params,11,{},Array.mk [],boot_drawn,boot_toks,os⟩<|topStub p
abbrev stY(p:Program)(w:World)(s:SharedT):Bool:=staticsOk (modsY p.main.body) (boot_heap w.params) s.abs.heap&&namesBound p s.abs.heap&&gensDone s.abs&&laidKept (boot_heap w.params) s.abs.heap
def left_of{p q:Program}{loose:List Str}{Xt:Shared->Bool}{α:Type}{Yf:Shared->α}{Ya:World->α}{N:Nat}(e:opening p=plainProg p.main.scope.names)(hN:Nat.ble 600 N=eP)(f:∀s,fenceModules? p s=eM s)
  (one:∀w os,(runY p N w os).map (stY p w)=eM eP) (two:∀w os,(runY p N w os).map (λs=>seenY q loose (modsY p.main.body) Xt eP s.abs)=eM (openGood q loose)) (three:∀w os,(runY p N w os).map (λs=>Yf s.abs)=eM (Ya w)) :
  LeftO p q loose Xt Yf Ya N:=by
 intro w;let⟨⟨h,gs,d,k,os⟩,e1,e2⟩:=Ä.mp<|boot_open e hN f w;obtain⟨rfl,rfl,rfl,rfl⟩:h=boot_heap w.params/\gs=Array.mk []/\d=boot_drawn/\k=boot_toks:=⇑e2
 let⟨s,r,l1⟩:=Ä.mp<|one w os;let⟨s',r',l2⟩:=Ä.mp<|two w os;cases r.symm.trans r';let⟨s',r',l3⟩:=Ä.mp<|three w os;cases r.symm.trans r';obtain⟨z1,z2,z3⟩:_/\_/\_:=by simpa only[χ]using Be w.params
 unfold stY at l1;unfold runY HJ UP ES okY at r;rw[<-Fast.te10156331382660048174,<-Fast.te11892475500146522536,<-Fast.te14364793385576792824,<-Fast.te6613529449190102663]at r;unfold modsY at l1 l2;unfold seenY at l2;rw[<-Fast.te5923862056798008813]at l1 l2;rw[<-Fast.te4187177175401517315]at l2;have r2:=JN r;have ea:(SharedT.mk (J8 w.params) 11 {} (Array.mk []) boot_drawn boot_toks os).abs=⟨boot_heap w.params,Array.mk [],boot_drawn,boot_toks,os⟩:=by show Shared.mk (absHeap _ _ _) _ _ _ _=_;rw[B9]
 rw[ea]at r2;have t:topFrom treeTable p w N ⟨boot_heap w.params,Array.mk [],boot_drawn,boot_toks,os⟩=eM s.abs:=by unfold topFrom;dsimp only;rw[z1,z2,z3,r2];show(match staticsOk (importedModules p.main.body) (boot_heap w.params) s.abs.heap&&namesBound p s.abs.heap&&gensDone s.abs&&laidKept (boot_heap w.params) s.abs.heap with|true=>_|false=>_)=_;rw[l1]
 unfold openEnds;rw[e1];show(topFrom treeTable p w N _).map _=_;rw[t];exact congrArg eM<|Prod.ext l2 l3
end Hd
namespace Hd
open PySem PySem.W PyProof.Rows L2
abbrev Mz:Nat->List Obj->Frag
 |_,[]=>[]
 |i,o::r=>match o with
  |⟨_,_,.freed,_⟩=>Mz (i+1) r
  |o=>(i,o)::Mz (i+1) r
abbrev ZD(g:Heap):Frag:=Mz 0 g.objs.toList
def Oi:∀(l:List Obj) (i a:Nat) (o:Obj),(Mz i l).lookup a=eM o->i<=a/\l[a - i]?=eM o/\(match eM o with|some ⟨_,_,.freed,_⟩=>eN|o=>o)=eM o
 |[],_,_,_,h=>by cases h
 |x::r,i,a,o,h=>by
  have rec1:(Mz (i+1) r).lookup a=eM o->i<=a/\(x::r)[a - i]?=eM o/\(match eM o with|some ⟨_,_,.freed,_⟩=>eN|o=>o)=eM o:=λq=>by let⟨h1,h2,h3⟩:=Oi r (i+1) a o q;refine⟨by lia,?_,h3⟩;rw[show a - i=(a - (i+1))+1 by lia,bZ];exact h2
  unfold Mz at h;split at h
  .exact rec1 h
  .rename_i c ű;rw[ä]at h;split at h
   .rename_i e;cases h;have e:=eq_of_beq e;subst e;refine⟨Ó _,by rw[Nat.sub_self];rfl,?_⟩;split
    .rename_i d1 d2 d3 d4;cases d4;exact(ű _ _ _ rfl).elim
    .rfl
   .exact rec1 h
def Um{g:Heap}{a:Addr}{o:Obj}(h:(ZD g).lookup a=eM o):g.get? a=eM o:=by let⟨_,h2,h3⟩:=Oi _ _ _ _ h;unfold Heap.get?;rw[Nat.sub_zero,Ă]at h2;rw[h2];exact h3
abbrev D9(K:Frag)(nm:Str):Option<|FuncData×Bool×Bool:=match nsIn K mainGlobals nm with
 |some (eM<|.ref f)=>match K.lookup f with
  |some ⟨_,_,.func fd,_⟩=>eM ({fd with kwdefaults:=.none,doc:=.none,pyModule:=.none,annotations:=eN,code:=.none,closureTuple:=.none},codeIn K fd.code fd.qualname,keepIn K<|.ref f)
  |_=>eN
 |_=>eN
abbrev DO(nm:Str)(st:Stmt):Option<|FuncData×Bool×Bool:=eM (fnOf nm nm (YM st) (ZX st) (Zw st) .none .none .none .none eN .none .none,eP,eP)
def Lk{K:Frag}{nm:Str}{st:Stmt}(e:D9 K nm=DO nm st):∃fa fd,Fun K nm nm st fa fd/\nsIn K mainGlobals nm=eM (eM<|.ref fa):=by
 unfold D9 at e;split at e
 .rename_i f hf;split at e
  .rename_i oc od fd sl hl;simp only[DO,ĭ,χ]at e;let⟨e1,e2,e3⟩:=e;let⟨n1,n2,n3,n4,n5,n6,n7,n8,n9,n10,n11,n12,n13,n14,n15⟩:=fd;simp only[fnOf,FuncData.mk.injEq]at e1;obtain⟨rfl,rfl,rfl,rfl,rfl,rfl,rfl,rfl,-,-,-,-,-,-,rfl⟩:=e1;exact⟨f,_,ER hl e2 e3,hf⟩
  .cases e
 .cases e
abbrev HN(K:Frag)(y:Str):Bool:=match nsIn K mainGlobals y with
 |some eN=>eP
 |_=>eQ
def FF{l:OpenLaw}{n k:Nat}{q:Program}{loose:List Str}{XP:(Str->Option Value)->Heap->Prop}{YP:World->Heap->Prop}{d:DefRec}{CX:World->CXT}{x:Str}
  (hn:l.most=eM n) (hn2:n<=sizeLine) (hdf:d.params.defaults=[]) (hr:fy k callerA)
  (F:∀(w:World) (mg:Str->Option Value) (fa:Addr) (h:Heap),YP w h->h.Ns mainGlobals mg->mg d.name=eM (.ref fa)->∃(K:Frag) (sp:Sp),K.In h/\
    (∃fd:FuncData,(∀(s:Shared) (u:Value),BindsTo s fd ⟨[u],[]⟩ [(x,u)])/\∀base:Heap,K.In base->base.Ns mainGlobals mg->fz l.prog w K mg base (CX w) k fa fd [x] sp)/\
    ∀(H:Hp) (a:Addr) (ns:List Int),ns.length<=n->PU H->fZ K H a (ns.map V.int)->sp [.ref a] H (λv _=>v=.bl eP) λ_ _ _=>False)
  (hCX:∀(w:World) (H:Hp) (s:Shared) (e:Value) (s':Shared),CX w [] H s (λ_ _ _=>False) e s'->False) :
  WalkO q loose XP YP l.row.toRowW d [] (λf vs=>PySem.call f vs):=by
 refine Att.attach_call hn hdf λw s₀ ģ mg mb fa o pm cd doc a vs ns G Y ho hd bp hmg dz hints hlen hg=>?_;let⟨K,sp,KX,⟨fd,hb,hF⟩,hsp⟩:=F w mg fa _ Y G.T.g hmg;exact Ei KX G.T.g G.T.b G.T.builtins G.T.nolimit hg dz hints (Õ hlen hn2) hr hF hb (λH hO hS=>hsp H a ns hlen hO hS) λH e s'=>hCX w H ģ e s'
abbrev F2(f:Value->O.Val->Bool):List Value->List O.Val->Bool
 |[],[]=>eP
 |u::us,x::xs=>f u x&&F2 f us xs
 |_,_=>eQ
abbrev HD(K:Frag):Value->Option (List Value)
 |.ref a=>match K.lookup a with
  |some ⟨.type n,_,.seq us _,_⟩=>if n == "tuple" && gC (us.size<=sizeLine)then eM us.toList else eN
  |_=>eN
 |_=>eN
abbrev GD(K:Frag):Nat->Value->O.Val->Bool
 |0,_,_=>eQ
 |n+1,u,v=>match v with
  |.non=>(match u with|.none=>eP|_=>eQ)
  |.bl b=>(match u with|.bool a=>a==b|_=>eQ)
  |.int j=>(match u with|.int i _=>i==j|_=>eQ)
  |.str t=>(match u with|.str s _=>Fast.sEq s (gD t)|_=>eQ)
  |.tup xs=>(match HD K u with|some us=>F2 (GD K n) us xs|none=>eQ)
  |_=>eQ
def DI{K:Frag}{f:Value->O.Val->Bool}(hf:∀u v,f u v=eP->∃z,RelV z u/\∀H,Snd.RV K H v z):∀(us:List Value) (xs:List O.Val),F2 f us xs=eP->∃zs,gg zs us/\∀H,Snd.RVs K H xs zs
 |[],[],_=>⟨[],.nil,λ_=>.nil⟩
 |u::us,x::xs,h=>by rw[F2,bAq]at h;let⟨z,r,q⟩:=hf u x h.1;let⟨zs,rs,qs⟩:=DI hf us xs h.2;exact⟨z::zs,.cons r rs,λH=>.cons (q H)<|qs H⟩
 |[],_::_,h=>by cases h
 |_::_,[],h=>by cases h
def Eh{K:Frag}:∀(n:Nat) (u:Value) (v:O.Val),GD K n u v=eP->∃z,RelV z u/\∀H,Snd.RV K H v z
 |0,_,_,h=>by cases h
 |n+1,u,v,h=>by
  unfold GD at h;cases v with
  |non =>
   dsimp only at h;split at h
   .exact⟨.non,rfl,λ_=>.non⟩
   .cases h
  |bl b =>
   dsimp only at h;split at h
   .cases eq_of_beq h;exact⟨.bl b,rfl,λ_=>.bl b⟩
   .cases h
  |int j =>
   dsimp only at h;split at h
   .cases eq_of_beq h;exact⟨.int j,⟨_,rfl⟩,λ_=>.int j⟩
   .cases h
  |str t =>
   dsimp only at h;split at h
   .cases Fast.sEq_iff.mp h;exact⟨.str<|gD t,⟨_,rfl⟩,λ_=>.str t⟩
   .cases h
  |tup xs =>
   dsimp only at h;split at h
   .rename_i us hu;let⟨zs,rs,qs⟩:=DI (λu v=>Eh n u v) us xs h;unfold HD at hu;split at hu
    .rename_i a;split at hu
     .rename_i nm od õ k sl hl;split at hu
      .rename_i hc;rw[bAq,gA]at hc;cases eq_of_beq hc.1;cases hu;exact⟨.ref a,rfl,λH=>.tup (.inr ⟨_,õ,k,hl,rfl,rfl,hc.2,rs⟩)<|qs H⟩
      .cases hu
     .cases hu
    .cases hu
   .cases h
  |ref a=>cases h
  |scr ns=>cases h
  |key i j=>cases h
abbrev Dw(K:Frag)(p:String×O.Val):Bool:=match nsIn K mainGlobals (gD p.1)with
 |some (eM u)=>GD K 4 u p.2
 |_=>eQ
def Jr{α β:Type}[BEq α][LawfulBEq α]{a:α}{b:β}:∀{l:List (α×β)},l.lookup a=eM b->(a,b)∈l
 |[],h=>by cases h
 |(x,y)::r,h=>by
  rw[ä]at h;split at h
  .rename_i e;cases h;cases eq_of_beq e;exact .head _
  .exact .tail _<|Jr h
def LI{K:Frag}{mg:Str->Option Value}{h:Heap}{x:Str}{C:Addr}{bmB:List Value}{id:String}(X:K.In h)(hm:mg x=eM (.ref C))(q:excIn K C bmB id=eP):PyProof.Rows.OwnCls x C bmB id mg h:=by
 constructor
 .exact hm
 have z:=q;unfold excIn at z;split at z
 next dd cd sl ho =>
  split at z
  next C1 bm k0 k1 k2 k3 n k5 em es =>
   rw[bAq,bAq,bAq,bAq,bAq]at z;let⟨⟨⟨⟨⟨z1,z2⟩,z3⟩,z4⟩,z5⟩,z6⟩:=z;have z1:=eq_of_beq z1;have z2:=eq_of_beq z2;have z6:=eq_of_beq z6;subst z1 z2;have z3b:cd.hasDel=eQ:=by
    cases e:cd.hasDel with
    |false=>rfl
    |true=>rw[e]at z3;cases z3
   have es':sl=#[k0,k1,k2,k3,eM<|.builtin n,k5]:=eh.mp es;have nN:=nsMap_none_of_in X z5 z6;have nI:=Heap.Ns.of_isNs<|isNs_of_in X z5;have tI:=tail_of_in X z4;cases cd;dsimp only at em z3b nN nI;subst em z3b es';exact⟨bm,_,_,_,_,_,_,_,_,_,dd,k0,k1,k2,k3,k5,_,X _ _ ho,nI,nN,tI⟩
  next=>cases z
 next=>cases z
abbrev Pu(K:Frag)(f:Addr):Option<|FuncData×Bool×Bool:=match K.lookup f with
 |some ⟨_,_,.func fd,_⟩=>eM ({fd with kwdefaults:=.none,doc:=.none,pyModule:=.none,annotations:=eN,code:=.none,closureTuple:=.none},codeIn K fd.code fd.qualname,keepIn K<|.ref f)
 |_=>eN
abbrev Us(nm qual:Str)(st:Stmt):Option<|FuncData×Bool×Bool:=eM (fnOf nm qual (YM st) (ZX st) (Zw st) .none .none .none .none eN .none .none,eP,eP)
def LQ{K:Frag}{nm qual:Str}{st:Stmt}{f:Addr}(e:Pu K f=Us nm qual st):∃fd,Fun K nm qual st f fd:=by
 unfold Pu at e;split at e
 .rename_i oc od fd sl hl;simp only[Us,ĭ,χ]at e;let⟨e1,e2,e3⟩:=e;let⟨n1,n2,n3,n4,n5,n6,n7,n8,n9,n10,n11,n12,n13,n14,n15⟩:=fd;simp only[fnOf,FuncData.mk.injEq]at e1;obtain⟨rfl,rfl,rfl,rfl,rfl,rfl,rfl,rfl,-,-,-,-,-,-,rfl⟩:=e1;exact⟨_,ER hl e2 e3⟩
 .cases e
abbrev JB(K:Frag)(C:String):Option Addr:=match nsIn K mainGlobals (gD C)with
 |some (eM<|.ref a)=>eM a
 |_=>eN
variable {C:String} {a:Addr}
def Jj{K:Frag}(h:JB K C=eM a):nsIn K mainGlobals (gD C)=eM (eM<|.ref a):=by
 unfold JB at h;split at h
 .cases h;assumption
 .cases h
structure CV where
 pg:Bool
 hd:Bool
 po:Bool
 sa:Option<|Option Value
abbrev Ha(K:Frag)(a:Addr):CV:=⟨plainGet K a Str.empty,hasDictIn K a,plainOver K a,findIn K (.ref a) "__setattr__"⟩
abbrev UV:CV:=⟨eP,eP,eP,eM<|eM<|.builtin "object.__setattr__"⟩
def D5{K:Frag}(h:Ha K a=UV):Cls K a:=by simp only[Ha,UV,CV.mk.injEq]at h;exact⟨h.1,h.2.1,h.2.2.1,h.2.2.2⟩
structure MV where
 fn:Option<|FuncData×Bool×Bool
 isf:Bool
 cv:CV
abbrev Eo(K:Frag)(y:Snd.Mt):Option MV:=match JB K y.C with
 |some a=>match findIn K (.ref a) (gD y.m)with
  |some (eM<|.ref f)=>eM ⟨Pu K f,isFn K<|.ref f,Ha K a⟩
  |_=>eN
 |none=>eN
abbrev Dk(y:Snd.Mt):Option MV:=eM ⟨Us (gD y.m) (gD y.qual) y.x.st,eP,UV⟩
def Q8{K:Frag}{y:Snd.Mt}(e:Eo K y=Dk y):∃a f fd,nsIn K mainGlobals (gD y.C)=eM (eM<|.ref a)/\Fun K (gD y.m) (gD y.qual) y.x.st f fd/\Meth K a (gD y.m) f/\Cls K a:=by
 unfold Eo at e;split at e
 .rename_i a ha;split at e
  .rename_i f hf;simp only[Dk,ĭ,MV.mk.injEq]at e;let⟨e1,e2,e3⟩:=e;let⟨fd,F⟩:=LQ e1;exact⟨a,f,fd,Jj ha,F,⟨hf,e2,F.kp⟩,D5 e3⟩
  .cases e
 .cases e
structure QV where
 mks:Bool
 kp:Bool
 cv:CV
 fl:List<|Option<|Option Value
 ic:Option (Option Value)×Option (Option Value)×Option Bool×Option Bool
abbrev EV(K:Frag)(fl:List String)(C:String):Option QV:=match JB K C with
 |some a=>eM ⟨makesIn K a,keepIn K<|.ref a,Ha K a,fl.map λf=>findIn K (.ref a)<|gD f,(findIn K (.ref a) "__class__",specialIn K (.builtin "object.__class__") "__get__",takesIn K<|.builtin "object.__class__",mroIn K a<|.type "object")⟩
 |none=>eN
abbrev Da(fl:List String):Option QV:=eM ⟨eP,eP,UV,fl.map λ_=>eM eN,(eM<|eM<|.builtin "object.__class__",eM<|eM<|.builtin "getset_descriptor.__get__",eM eP,eM eP)⟩
def HQ{K:Frag}{fl:List String}(e:EV K fl C=Da fl):∃a,nsIn K mainGlobals (gD C)=eM (eM<|.ref a)/\makesIn K a=eP/\keepIn K (.ref a)=eP/\Cls K a/\(∀f∈fl,NoAttr K a<|gD f)/\Snd.IC K a:=by
 unfold EV at e;split at e
 .rename_i a ha;simp only[Da,ĭ,QV.mk.injEq,χ]at e;let⟨e1,e2,e3,e4,e5,e6,e7,e8⟩:=e;exact⟨a,Jj ha,e1,e2,D5 e3,λf hf=>Ħ.mp e4 f hf,⟨e5,e6,e7,e8⟩⟩
 .cases e
structure XV where
 ex:Bool
 f1:Option<|Option Value
 f2:Option<|Option Value
 f3:Option<|Option Value
 m1:Option Bool
 m2:Option Bool
 ci:Bool
 ve:Option Bool
 ks:List<|Option<|Option Bool×Option Bool
abbrev CI(K:Frag)(xs:List String)(C:String):Option XV:=match JB K C with
 |some a=>eM ⟨excIn K a [.type "ValueError",.type "Exception",.type "BaseException",.type "object"] "ValueError.__new__",findIn K (.ref a) "__getattribute__",findIn K (.ref a) "__getattr__",findIn K (.ref a) "__class__",mroIn K a<|.type "object",mroIn K a<|.type "BaseException",(clsIn K a).isSome,kitOne K (.ref a)<|.type "ValueError",("ShutError" :: xs).map λT=>(JB K T).map λD=>(kitOne K (.ref a)<|.ref D,exmOne K (.ref a)<|.ref D)⟩
 |none=>eN
abbrev CA(xs:List String)(C:String):Option XV:=eM ⟨eP,eM<|eM<|.builtin "BaseException.__getattribute__",eM eN,eM<|eM<|.builtin "object.__class__",eM eP,eM eP,eP,eM eP,("ShutError" :: xs).map λT=>eM (eM<|O.fY C T,eM<|O.fY C T)⟩
def DX{K:Frag}{xs:List String}(e:CI K xs C=CA xs C):∃a,nsIn K mainGlobals (gD C)=eM (eM<|.ref a)/\excIn K a [.type "ValueError",.type "Exception",.type "BaseException",.type "object"] "ValueError.__new__" = eP/\XCls K a/\kitOne K (.ref a) (.type "ValueError")=eM eP/\
  ∀T∈"ShutError" :: xs,∃D,nsIn K mainGlobals (gD T)=eM (eM<|.ref D)/\kitOne K (.ref a) (.ref D)=eM (O.fY C T)/\exmOne K (.ref a) (.ref D)=eM (O.fY C T):=by
 unfold CI at e;split at e
 .rename_i a ha;simp only[CA,ĭ,XV.mk.injEq]at e;let⟨e1,e2,e3,e4,e5,e6,e7,e8,e9⟩:=e;refine⟨a,Jj ha,e1,⟨e2,e3,e4,e5,e6,e7⟩,e8,λT hT=>?_⟩;have:=Ħ.mp e9 T hT;cases z:JB K T with
  |none=>rw[z]at this;cases this
  |some D =>rw[z]at this;simp only[Ŋ,ĭ,χ]at this;exact⟨D,Jj z,this.1,this.2⟩
 .cases e
structure View where
 fs:List<|Option<|FuncData×Bool×Bool
 ms:List<|Option MV
 cl:List<|Option QV
 xs:List<|Option XV
 ok:Bool
abbrev view(T:Snd.Tb)(K:Frag):View:=⟨T.fs.map λp=>D9 K<|gD p.1,T.ms.map<|Eo K,T.cl.map<|EV K T.fl,T.xs.map<|CI K T.xs,T.cs.all (Dw K)&&Snd.blts.all (HN K)⟩
abbrev due(T:Snd.Tb):View:=⟨T.fs.map λp=>DO (gD p.1) p.2.st,T.ms.map Dk,T.cl.map λ_=>Da T.fl,T.xs.map<|CA T.xs,eP⟩
abbrev hook(T:Snd.Tb):Hook where
 α:=View
 obs:=λs=>view T<|ZD s.heap
 val:=λ_=>due T
 says:=λ_ h=>∃g:Heap,view T (ZD g)=due T/\∀b o,g.get? b=eM o->h.get? b=eM o
 of:=λ_ s e=>⟨s.heap,e,λ_ _ x=>x⟩
 keeps:=λ_ _ _ ⟨g,e,k⟩ k2=>⟨g,e,λb o x=>k2 b o<|k b o x⟩
abbrev Bd(nm qual:Str)(x:Snd.Ds):Prop:=∀(kV doc pm:Value) (an:Option Addr) (ϱ ct:Value) (us:List Value),us.length=x.ps.length->bindArgs (fnOf nm qual (YM x.st) (ZX x.st) (Zw x.st) .none kV doc pm an ϱ ct) ⟨us,[]⟩=pure (x.ps.zip us)
abbrev G0(T:Snd.Tb):Bool:=T.cl.all λC=>T.ms.any λy=>y.C==C&&y.m == "__init__"
def law_walk{l:OpenLaw}{q:Program}{loose:List Str}{XP:(Str->Option Value)->Heap->Prop}{d:DefRec}{T:Snd.Tb}{pg:O.Pg}{k:Nat}{xl:Snd.Ds}
  (hn:l.most=eM 63) (hdf:d.params.defaults=[]) (hdn:d.name=gD "law") (hr:fy (2*(k+1)) callerA) (hlaw:("law",xl)∈T.fs) (hps:xl.ps=[gD "script"]) (hin:G0 T=eP)
  (tab_pg:∀f x,(f,x)∈T.fs->pg f=eM x.d) (tab_pm:∀y,y∈T.ms->pg (y.C ++ "." ++ y.m)=eM y.x.d) (tab_ok:∀f x,(f,x)∈T.fs->x.Ok T) (tab_om:∀y,y∈T.ms->y.x.Ok T)
  (tab_bd:∀f x,(f,x)∈T.fs->Bd (gD f) (gD f) x) (tab_bm:∀y,y∈T.ms->Bd (gD y.m) (gD y.qual) y.x)
  (ok:∀ns:List Int,ns.length<=63->O.wF pg (k+1) "law" [.scr ns] (λ_=>eN) (λv _=>v=.bl eP) λ_ _=>False) :
  WalkO q loose XP (hook T).says l.row.toRowW d [] (λf vs=>PySem.call f vs):=by
 refine FF (n:=63) (k:=2*(k+1)) (x:=gD "script") (CX:=λw=>CX1 l.prog w) hn (by decide) hdf hr (λw mg fa h Y G hmg=>?_) λ_ _ _ _ _ ⟨_,_,_,_,_,z⟩=>z;let⟨g,e,keep⟩:=Y;have X:(ZD g).In h:=λa o z=>keep a o<|Um z;simp only[view,due,View.mk.injEq]at e;let⟨e1,e3,e4,e5,e2⟩:=e;rw[bAq,û,û]at e2
 let i:Snd.Inf:=⟨ZD g,λC a=>T.cl.contains C=eP/\mg (gD C)=eM (.ref a),λC=>T.cl.contains C,λC a=>T.xs.contains C=eP/\mg (gD C)=eM (.ref a)⟩
 have hF:∀f x,(f,x)∈T.fs->∃fa fd,Fun (ZD g) (gD f) (gD f) x.st fa fd/\mg (gD f)=eM (.ref fa):=λf x hx=>by let⟨fa,fd,F,z⟩:=Lk<|Ħ.mp e1 (f,x) hx;exact⟨fa,fd,F,mg_of X G z⟩
 have aX:∀C a,i.cl C a->makesIn (ZD g) a=eP/\keepIn (ZD g) (.ref a)=eP/\Cls (ZD g) a/\(∀f∈T.fl,NoAttr (ZD g) a<|gD f)/\Snd.IC (ZD g) a:=λC a ⟨hc,hm⟩=>by let⟨b,z,q⟩:=HQ<|Ħ.mp e4 C<|ă.mp hc;have:=mg_of X G z;rw[hm]at this;cases this;exact q
 have hms:∀y,y∈T.ms->∃a f,Snd.Mst i mg y a f/\Cls i.K a:=λy hy=>by let⟨a,f,fd,z,F,M,A⟩:=Q8<|Ħ.mp e3 y hy;exact⟨a,f,⟨mg_of X G z,⟨fd,F,F.binds<|tab_bm y hy⟩,M⟩,A⟩
 have hxc:∀C a,i.xc C a->excIn (ZD g) a [.type "ValueError",.type "Exception",.type "BaseException",.type "object"] "ValueError.__new__" = eP/\XCls (ZD g) a/\kitOne (ZD g) (.ref a) (.type "ValueError")=eM eP/\
   ∀T'∈"ShutError" :: T.xs,∃D,nsIn (ZD g) mainGlobals (gD T')=eM (eM<|.ref D)/\kitOne (ZD g) (.ref a) (.ref D)=eM (O.fY C T')/\exmOne (ZD g) (.ref a) (.ref D)=eM (O.fY C T'):=λC a ⟨hc,hm⟩=>by
  let⟨b,z,q⟩:=DX<|Ħ.mp e5 C<|ă.mp hc;have:=mg_of X G z;rw[hm]at this;cases this;exact q
 have mod:∀base:Heap,(ZD g).In base->Snd.Modu mg base i T:=λbase Xb =>
  { bl:=λy hy=>by
      have:=e2.2 y hy
      unfold HN at this
      split at this
      . rename_i z;exact mg_none_of X G z
      . cases this
    cst:=λy v hv=>by
      have:=e2.1 _<|Jr hv
      unfold Dw at this
      split at this
      . rename_i u z
        let⟨x,r,rv⟩:=Eh 4 u v this
        exact⟨u,x,mg_of X G z,r,rv⟩
      . cases this
    A:=⟨λC a _ z=>(aX C a z).2.2.1,λC a z=>(aX C a z).2.2.2.2,λC a b z y=>by have:=z.2.symm.trans y.2;cases this;rfl⟩
    F:=λf hf=>⟨λC a z=>(aX C a z).2.2.2.1 f<|ă.mp hf⟩
    cl:=λC a z=>z.2
    mkc:=λC hC=>by
      let⟨a,z,_⟩:=HQ<|Ħ.mp e4 C<|ă.mp hC
      have hi:i.cl C a:=⟨hC,mg_of X G z⟩
      let⟨y,hy,e⟩:=ů.mp<|û.mp hin C<|ă.mp hC
      rw[bAq]at e
      let⟨b,f,S,A⟩:=hms y hy
      have h1:=eq_of_beq e.1
      have h2:=eq_of_beq e.2
      have hb:=S.cl
      rw[h1,hi.2]at hb
      cases hb
      refine⟨a,y,f,hC,hi,⟨(aX C a hi).1,?_,S.at_.fn,(aX C a hi).2.1⟩,hy,h1,h2,S⟩
      have:=S.at_.at_
      rw[h2]at this
      exact this
    fs:=λf x hx=>by
      let⟨fa,fd,F,m⟩:=hF f x hx
      exact⟨fa,fd,_,F,m,F.binds<|tab_bd f x hx⟩
    ms:=hms
    xc:=λ_ C a z=>⟨(hxc C a z).2.1,(hxc C a z).2.2.1⟩
    rs:=λ_ C hC=>by
      let⟨a,z,q1,_⟩:=DX<|Ħ.mp e5 C<|ă.mp hC
      exact⟨a,⟨hC,mg_of X G z⟩,LI Xb (mg_of X G z) q1⟩
    kn:=λű T' hT=>by
      have hT2:T'∈"ShutError" :: T.xs:=by
        rcases (Bool.or_eq_true ..).mp hT with z|z
        . exact .tail _<|ă.mp z
        . cases eq_of_beq z;exact .head _
      let⟨C0,hC0⟩:=List.exists_mem_of_ne_nil _ ű
      let⟨a0,z0,_,_,_,q0⟩:=DX<|Ħ.mp e5 C0 hC0
      let⟨D,zD,_⟩:=q0 T' hT2
      refine⟨D,mg_of X G zD,λC a z=>?_⟩
      let⟨D2,z2,k1,k2⟩:=(hxc C a z).2.2.2 T' hT2
      rw[zD]at z2
      cases z2
      exact⟨k1,λe=>by rw[k2,e]⟩ }
 let⟨fl,fd,F,m⟩:=hF "law" xl hlaw;have ef:=hmg.symm.trans<|hdn▸m;cases ef;refine⟨ZD g,Snd.spF i pg (k+1) "law",X,⟨fd,λs u=>?_,λbase Xb _=>?_⟩,λH a ns hl hO hS=>?_⟩
 .have B:=F.ex;let⟨oc,od,kV,dc,pm,an,ϱ,ct,sl,rfl,lk,bp⟩:=B;have:=tab_bd "law" xl hlaw kV dc pm an ϱ ct [u] (by rw[hps];rfl);rw[hps]at this;exact .of_eq this
 .have M:=mod base Xb;have:=Snd.fn_succ (i:=i) (pr:=l.prog) (wd:=w) (base:=base) (mg:=mg) (P:=pg) (n:=k) M (Snd.held_all M tab_pg tab_pm tab_ok tab_om k) F (tab_pg "law" xl hlaw)<|tab_ok "law" xl hlaw;rw[hps]at this;exact this
 .refine⟨[.scr ns],λ_=>eN,λv _=>v=.bl eP,λ_ _=>False,.cons (.scr ?_) .nil,λ_ _ e=>(by cases e),ok ns hl,?_,?_⟩
  .rcases hS with(h|⟨o,h⟩)|h
   .rcases hO a with z|⟨o,xs,z⟩
    .rw[h]at z;cases z
    .rw[h]at z;cases z
   .exact .inl ⟨o,h⟩
   .exact .inr h
  .intro v G' H' x _ _ r e;subst e;exact r.bl_inv
  .rintro cls d H' ⟨_,_,_,_,_,_,_,z⟩;exact z
end Hd
set_option maxRecDepth 20000
set_option maxHeartbeats 2000000
namespace O
local macro_rules|`(#[$x])=>`(.cons $x .nil)|`(#[$x,$y,*])=>`(.cons $x #[$y,*])
@[reducible] noncomputable def B0(P:Pg)(n:Nat)(d:Fn)(e:Env)(h:Hs)(Q:Q1)(X:XQ):Prop:=wSs (wF P n) d.body e h (λ_ g=>Q .non g) Q (λ_ _=>False) (λ_ _=>False) λ_ c g=>X c g
variable {P:Pg}{n:Nat}{a0 a1 a2 a3 a4 a5 a6 a7:Val}{h:Hs}{Q:Q1}{X:XQ}
local macro_rules|`(↑$n:num)=>`(.cst (.int $n))
local macro_rules|`(⇑$n:num)=>`(.var $n)
instance TL:Fn:={ar:=1,sz:=1,body:=#[.ret<|.and (.bi (.isi ["int"]) #[⇑0])<|.not<|.bi (.isi ["bool"]) #[⇑0]]}
instance Tq:Fn:={ar:=2,sz:=5,body:=#[.set (.one 2)<|.lst .nil,.for (.many [3,4]) (.enum<|.idx ⇑0 ↑1) #[.ite (.val<|.cmp .isin ⇑1<|.slc ⇑4 .none<|.some ↑2) #[.expr<|.bm .append ⇑2 #[.tup #[⇑3,.call "far_end" #[⇑4,⇑1],.idx ⇑4 ↑2]]] .nil],.ret ⇑2]}
instance TH:Fn:={ar:=2,sz:=2,body:=#[.ret<|.ife (.val<|.cmp .eq (.idx ⇑0 ↑0) ⇑1) (.idx ⇑0 ↑1)<|.idx ⇑0 ↑0]}
instance Tr:Fn:={ar:=2,sz:=2,body:=#[.ret<|.cmp .gt (.idx ⇑0<|.glob "NUMBER"<|.int 0)<|.idx ⇑1<|.glob "NUMBER"<|.int 0]}
instance TF:Fn:={ar:=2,sz:=3,body:=#[.set (.one 2)<|.comp [0] 1 (.one 0) (.seq ⇑1) (.val<|.cmp .lt (.idx ⇑0 ↑0) ⇑1) ⇑0,.ret<|.bi .minD #[⇑2]]}
instance SW:Fn:={ar:=5,sz:=8,body:=#[.setFld ⇑0 "number" ⇑1,.setFld ⇑0 "life" ⇑2,.setFld ⇑0 "age_let_go" ⇑4,.setFld ⇑0 "ties_by_place"<|.dct .nil,.for (.many [5,6,7]) (.seq ⇑3) #[.setIdx (.fld ⇑0 "ties_by_place") ⇑5<|.tup #[⇑6,⇑7]],.setFld ⇑0 "held_by_place"<|.dct .nil,.setFld ⇑0 "label_now"<|.tup #[⇑1,↑0,.cst .non,.cst .non],.setFld ⇑0 "version" ↑0,.setFld ⇑0 "ticks_had" ↑0]}
instance SS:Fn:={ar:=1,sz:=1,body:=#[.ret<|.fld ⇑0 "label_now"]}
instance S1:Fn:={ar:=1,sz:=1,body:=#[.ret<|.tup #[.fld ⇑0 "life",.fld ⇑0 "version"]]}
instance SX:Fn:={ar:=2,sz:=2,body:=#[.ret<|.bm .dget (.fld ⇑0 "held_by_place") #[⇑1]]}
instance S4:Fn:={ar:=4,sz:=4,body:=#[.ite (.val<|.cmp .notin ⇑1<|.fld ⇑0 "ties_by_place") #[.setIdx (.fld ⇑0 "ties_by_place") ⇑1<|.tup #[⇑2,⇑3]] .nil]}
instance SZ:Fn:={ar:=2,sz:=2,body:=#[.expr<|.bm .dpopD (.fld ⇑0 "ties_by_place") #[⇑1,.cst .non],.expr<|.bm .dpopD (.fld ⇑0 "held_by_place") #[⇑1,.cst .non]]}
instance SY:Fn:={ar:=3,sz:=4,body:=#[.ite (.val<|.cmp .notin ⇑1<|.fld ⇑0 "ties_by_place") #[.retN] .nil,.set (.one 3)<|.meth "Bridge" "held" ⇑0 #[⇑1],.ite (.or (.val<|.cmp .is ⇑3<|.cst .non)<|.val<|.call "newer" #[⇑2,.idx ⇑3 ↑0]) #[.setIdx (.fld ⇑0 "held_by_place") ⇑1<|.tup #[⇑2,.idx ⇑2<|.glob "AGE"<|.int 4]] .nil]}
instance S3:Fn:={ar:=1,sz:=2,body:=#[.expr<|.meth "Bridge" "let_grow_older" ⇑0 .nil,.expr<|.meth "Bridge" "take_label" ⇑0 #[.meth "Bridge" "reckon_label" ⇑0 .nil],.set (.one 1)<|.comp [0] 1 (.one 0) (.seq<|.bi .sortedI #[.fld ⇑0 "ties_by_place"]) .yes<|.tup #[⇑0,.meth "Bridge" "letter_over" ⇑1 #[⇑0]],.augFld ⇑0 "ticks_had" .add 1,.ret ⇑1]}
instance ST:Fn:={ar:=1,sz:=4,body:=#[.set (.one 1)<|.dct .nil,.forI eQ (.many [2,3]) (.fld ⇑0 "held_by_place") #[.ite (.val<|.cmp .lt (.bin .add (.idx ⇑3 ↑1) ↑1)<|.fld ⇑0 "age_let_go") #[.setIdx ⇑1 ⇑2<|.tup #[.idx ⇑3 ↑0,.bin .add (.idx ⇑3 ↑1) ↑1]] .nil],.setFld ⇑0 "held_by_place" ⇑1]}
instance S0:Fn:={ar:=1,sz:=8,body:=#[.set (.one 1)<|.lst .nil,.forI eQ (.many [2,3]) (.fld ⇑0 "held_by_place") #[.set (.many [4,5])<|.idx (.fld ⇑0 "ties_by_place") ⇑2,.expr<|.bm .append ⇑1 #[.tup #[.idx (.idx ⇑3 ↑0)<|.glob "ROOT"<|.int 2,.bin .add (.idx (.idx ⇑3 ↑0)<|.glob "COST"<|.int 3) ⇑5,⇑4,⇑2]]],.set (.one 6)<|.call "best_offer" #[.fld ⇑0 "number",⇑1],.ite (.val<|.cmp .is ⇑6<|.cst .non) #[.ret<|.tup #[.fld ⇑0 "number",↑0,.cst .non,.cst .non]] .nil,.set (.many [7,5,4,2]) ⇑6,.ret<|.tup #[⇑7,⇑5,⇑2,.idx (.idx (.idx (.fld ⇑0 "held_by_place") ⇑2) ↑0)<|.glob "STAMP"<|.int 1]]}
instance S2:Fn:={ar:=2,sz:=2,body:=#[.ite (.val<|.cmp .ne ⇑1<|.fld ⇑0 "label_now") #[.setFld ⇑0 "label_now" ⇑1,.augFld ⇑0 "version" .add 1] .nil]}
instance SV:Fn:={ar:=2,sz:=8,body:=#[.set (.many [2,3,4,5])<|.fld ⇑0 "label_now",.set (.one 6)<|.ife (.val<|.cmp .is ⇑4<|.cst .non) ↑0<|.bin .add (.idx (.idx (.fld ⇑0 "held_by_place") ⇑4) ↑1) ↑1,.set (.one 7)<|.tup #[.tup #[.fld ⇑0 "life",.fld ⇑0 "ticks_had"],.meth "Bridge" "stamp" ⇑0 .nil,⇑2,⇑3,⇑6],.ite (.val<|.cmp .eq ⇑1 ⇑4) #[.ret<|.bin .add ⇑7<|.tup #[⇑5,.cst .non]] .nil,.ite (.val<|.meth "Bridge" "is_rested_on" ⇑0 #[⇑1]) #[.ret<|.bin .add ⇑7<|.tup #[.cst .non,.idx (.idx (.idx (.fld ⇑0 "held_by_place") ⇑1) ↑0)<|.glob "STAMP"<|.int 1]] .nil,.ret<|.bin .add ⇑7<|.tup #[.cst .non,.cst .non]]}
instance SU:Fn:={ar:=2,sz:=3,body:=#[.set (.one 2)<|.meth "Bridge" "held" ⇑0 #[⇑1],.ret<|.and (.cmp .isnot ⇑2<|.cst .non)<|.cmp .eq (.idx (.idx ⇑2 ↑0)<|.glob "RESTS"<|.int 5)<|.meth "Bridge" "stamp" ⇑0 .nil]}
instance TW:Fn:={ar:=3,sz:=4,body:=#[.setFld ⇑0 "net_made_of" ⇑1,.setFld ⇑0 "greatest_age" ⇑2,.setFld ⇑0 "lives"<|.dct .nil,.setFld ⇑0 "standing"<|.dct .nil,.setFld ⇑0 "ties_fallen"<|.dct .nil,.setFld ⇑0 "letters_on_road"<|.lst .nil,.for (.one 3) (.seq<|.idx ⇑1 ↑0) #[.setIdx (.fld ⇑0 "lives") ⇑3 ↑0,.setIdx (.fld ⇑0 "standing") ⇑3<|.make "Bridge" #[⇑3,↑0,.call "neighbours" #[⇑1,⇑3],⇑2]]]}
instance TM:Fn:={ar:=1,sz:=1,body:=#[.ret<|.bi .list #[.fld ⇑0 "letters_on_road"]]}
instance TK:Fn:={ar:=1,sz:=1,body:=#[.ret<|.comp [0] 1 (.one 0) (.seq<|.bi .sortedI #[.fld ⇑0 "standing"]) .yes<|.tup #[⇑0,.meth "Bridge" "label" (.idx (.fld ⇑1 "standing") ⇑0) .nil]]}
instance TB:Fn:={ar:=1,sz:=1,body:=#[.ret<|.comp [0] 1 (.one 0) (.seq<|.bi .sortedI #[.fld ⇑0 "standing"]) .yes<|.tup #[⇑0,.meth "Bridge" "stamp" (.idx (.fld ⇑1 "standing") ⇑0) .nil]]}
instance S7:Fn:={ar:=2,sz:=2,body:=#[.ret<|.bm .dget (.fld ⇑0 "standing") #[⇑1]]}
instance TX:Fn:={ar:=2,sz:=2,body:=#[.ret<|.chain .le .lt ↑0 ⇑1<|.bi .len #[.idx (.fld ⇑0 "net_made_of") ↑1]]}
instance S9:Fn:={ar:=2,sz:=4,body:=#[.set (.many [2,3])<|.call "read_deed" #[⇑1],.ite (.val<|.cmp .eq ⇑2<|.tup #[.cst<|.str "tick"]) #[.expr<|.meth "Yard" "tick_of" ⇑0 #[⇑3]] #[.ite (.val<|.cmp .eq ⇑2<|.tup #[.cst<|.str "come"]) #[.expr<|.meth "Yard" "come" ⇑0 #[⇑3]] #[.ite (.val<|.cmp .eq ⇑2<|.tup #[.cst<|.str "lost"]) #[.expr<|.meth "Yard" "take_off" ⇑0 #[⇑3]] #[.ite (.val<|.cmp .eq ⇑2<|.tup #[.cst<|.str "fall",.cst<|.str "bridge"]) #[.expr<|.meth "Yard" "fall_of_bridge" ⇑0 #[⇑3]] #[.ite (.val<|.cmp .eq ⇑2<|.tup #[.cst<|.str "fall",.cst<|.str "tie"]) #[.expr<|.meth "Yard" "fall_of_tie" ⇑0 #[⇑3]] #[.ite (.val<|.cmp .eq ⇑2<|.tup #[.cst<|.str "back",.cst<|.str "bridge"]) #[.expr<|.meth "Yard" "back_of_bridge" ⇑0 #[⇑3]] #[.expr<|.meth "Yard" "back_of_tie" ⇑0 #[⇑3]]]]]]]]}
instance TD:Fn:={ar:=2,sz:=5,body:=#[.ite (.val<|.cmp .notin ⇑1<|.fld ⇑0 "standing") #[.never] .nil,.for (.many [2,3]) (.seq<|.meth "Bridge" "tick" (.idx (.fld ⇑0 "standing") ⇑1) .nil) #[.set (.one 4)<|.call "far_end" #[.idx (.idx (.fld ⇑0 "net_made_of") ↑1) ⇑2,⇑1],.expr<|.bm .append (.fld ⇑0 "letters_on_road") #[.tup #[⇑1,⇑4,⇑2,⇑3]]]]}
instance S8:Fn:={ar:=2,sz:=6,body:=#[.set (.many [2,3,4,5])<|.meth "Yard" "take_off" ⇑0 #[⇑1],.ite (.val<|.cmp .isin ⇑3<|.fld ⇑0 "standing") #[.expr<|.meth "Bridge" "hear" (.idx (.fld ⇑0 "standing") ⇑3) #[⇑4,⇑5]] .nil]}
instance TC:Fn:={ar:=2,sz:=2,body:=#[.ite (.not<|.val<|.chain .le .lt ↑0 ⇑1<|.bi .len #[.fld ⇑0 "letters_on_road"]) #[.never] .nil,.ret<|.bm .popAt (.fld ⇑0 "letters_on_road") #[⇑1]]}
instance TZ:Fn:={ar:=2,sz:=2,body:=#[.ite (.val<|.cmp .notin ⇑1<|.fld ⇑0 "standing") #[.never] .nil,.expr<|.bm .dpop (.fld ⇑0 "standing") #[⇑1],.expr<|.meth "Yard" "set_ties_of" ⇑0 #[⇑1]]}
instance TY:Fn:={ar:=2,sz:=2,body:=#[.ite (.or (.not<|.val<|.meth "Yard" "has_tie" ⇑0 #[⇑1])<|.val<|.cmp .isin ⇑1<|.fld ⇑0 "ties_fallen") #[.never] .nil,.setIdx (.fld ⇑0 "ties_fallen") ⇑1<|.cst<|.bl eP,.expr<|.meth "Yard" "set_tie" ⇑0 #[⇑1]]}
instance S5:Fn:={ar:=2,sz:=2,body:=#[.ite (.or (.val<|.cmp .notin ⇑1<|.fld ⇑0 "lives")<|.val<|.cmp .isin ⇑1<|.fld ⇑0 "standing") #[.never] .nil,.augIdx (.fld ⇑0 "lives") ⇑1 .add 1,.setIdx (.fld ⇑0 "standing") ⇑1<|.make "Bridge" #[⇑1,.idx (.fld ⇑0 "lives") ⇑1,.lst .nil,.fld ⇑0 "greatest_age"],.expr<|.meth "Yard" "set_ties_of" ⇑0 #[⇑1]]}
instance S6:Fn:={ar:=2,sz:=2,body:=#[.ite (.val<|.cmp .notin ⇑1<|.fld ⇑0 "ties_fallen") #[.never] .nil,.expr<|.bm .dpop (.fld ⇑0 "ties_fallen") #[⇑1],.expr<|.meth "Yard" "set_tie" ⇑0 #[⇑1]]}
instance TU:Fn:={ar:=2,sz:=5,body:=#[.for (.many [2,3,4]) (.seq<|.call "neighbours" #[.fld ⇑0 "net_made_of",⇑1]) #[.expr<|.meth "Yard" "set_tie" ⇑0 #[⇑2]]]}
instance TN:Fn:={ar:=2,sz:=8,body:=#[.set (.many [2,3,4])<|.idx (.idx (.fld ⇑0 "net_made_of") ↑1) ⇑1,.set (.one 5)<|.and (.cmp .notin ⇑1<|.fld ⇑0 "ties_fallen")<|.and (.cmp .isin ⇑2<|.fld ⇑0 "standing")<|.cmp .isin ⇑3<|.fld ⇑0 "standing",.for (.many [6,7]) (.seq<|.tup #[.tup #[⇑2,⇑3],.tup #[⇑3,⇑2]]) #[.ite (.val ⇑5) #[.expr<|.meth "Bridge" "up" (.idx (.fld ⇑0 "standing") ⇑6) #[⇑1,⇑7,⇑4]] #[.ite (.val<|.cmp .isin ⇑6<|.fld ⇑0 "standing") #[.expr<|.meth "Bridge" "down" (.idx (.fld ⇑0 "standing") ⇑6) #[⇑1]] .nil]]]}
instance Tv:Fn:={ar:=1,sz:=2,body:=#[.ite (.not<|.val<|.bi (.isi ["tuple"]) #[⇑0]) #[.never] .nil,.set (.one 1)<|.slc ⇑0 .none<|.some<|.neg ↑1,.ite (.or (.not<|.val<|.bi .all #[.comp [] 1 (.one 0) (.seq ⇑1) .yes<|.bi (.isi ["str"]) #[⇑0]])<|.val<|.cmp .notin ⇑1<|.glob "DEEDS"<|.tup [(.tup [(.str "tick")]),(.tup [(.str "come")]),(.tup [(.str "lost")]),(.tup [(.str "fall"),(.str "bridge")]),(.tup [(.str "fall"),(.str "tie")]),(.tup [(.str "back"),(.str "bridge")]),(.tup [(.str "back"),(.str "tie")])]) #[.never] .nil,.ite (.not<|.val<|.call "is_whole" #[.idx ⇑0<|.neg ↑1]) #[.never] .nil,.ret<|.tup #[⇑1,.idx ⇑0<|.neg ↑1]]}
instance Tz:Fn:={ar:=2,sz:=2,body:=#[.ite (.val<|.cmp .lt ⇑1<|.bi .len #[⇑0]) #[.ret<|.idx ⇑0 ⇑1] .nil,.ret ↑0]}
instance Ta:Fn:={ar:=2,sz:=3,body:=#[.set (.one 2)<|.bin .mod (.bin .mul (.bin .add (.bin .add (.bin .mod ⇑0 ↑2147483647)<|.bin .mul ↑7919 ⇑1) ↑1) ↑48271) ↑2147483647,.set (.one 2)<|.bin .mod (.bin .mul ⇑2 ⇑2) ↑2147483629,.ret<|.bin .fdiv (.bin .mod (.bin .mul (.bin .add ⇑2<|.bin .mul ↑40692<|.bin .add ⇑1 ↑3) ↑69621) ↑2147483579) ↑8]}
instance Tj:Fn:={ar:=2,sz:=6,body:=#[.set (.one 2)<|.bin .mod ⇑0<|.bin .mul (.bin .mul (.bin .pow ↑10 ↑60)<|.bin .pow ↑10 ↑60)<|.bin .pow ↑10 ↑30,.set (.one 3)<|.cmp .ge ⇑2<|.bin .pow ↑10 ↑18,.set (.one 4)<|.lst .nil,.for (.one 5) (.range ⇑1) #[.ite (.and (.val ⇑3)<|.val<|.cmp .gt ⇑2 ↑0) #[.expr<|.bm .append ⇑4 #[.bin .mod ⇑2 ↑1000],.set (.one 2)<|.bin .fdiv ⇑2 ↑1000] #[.expr<|.bm .append ⇑4 #[.call "_law_mixed" #[⇑0,⇑5]]]],.ret ⇑4]}
instance TV:Fn:={ar:=1,sz:=3,body:=#[.set (.one 1)<|.bin .add ↑2<|.bin .mod (.idx ⇑0 ↑0) ↑4,.ite (.val<|.cmp .eq (.bin .mod (.bin .fdiv (.idx ⇑0 ↑0) ↑4) ↑8) ↑7) #[.set (.one 1)<|.bin .add ↑1<|.bin .mod (.bin .fdiv (.idx ⇑0 ↑0) ↑32) ↑10] .nil,.set (.one 2)<|.idx (.lst #[↑1000,↑12,↑1000,↑30])<|.bin .mod (.idx ⇑0 ↑1) ↑4,.ret<|.bi .sortedSet #[.comp [2] 1 (.one 0) (.seq<|.slc ⇑0 (.some ↑4)<|.some<|.bin .add ↑4 ⇑1) .yes<|.bin .mod ⇑0 ⇑1]]}
instance Tl:Fn:={ar:=3,sz:=8,body:=#[.set (.one 3)<|.bi .len #[⇑0],.set (.one 4)<|.bin .mod (.idx ⇑1 ↑0) ⇑3,.set (.one 5)<|.bin .mod (.bin .add (.bin .add ⇑4 ↑1)<|.bin .mod (.idx ⇑1 ↑1)<|.bin .sub ⇑3 ↑1) ⇑3,.ite (.and (.val<|.cmp .lt (.bin .add ⇑2 ↑1) ⇑3)<|.val<|.cmp .eq (.bin .mod (.bin .fdiv (.idx ⇑1 ↑0) ↑10) ↑2) ↑0) #[.set (.one 4)<|.bin .add ⇑2 ↑1,.set (.one 5)<|.bin .mod (.idx ⇑1 ↑1)<|.bin .add ⇑2 ↑1] .nil,.set (.one 6)<|.bin .add ↑1<|.bin .mod (.idx ⇑1 ↑2) ↑1000,.ite (.val<|.cmp .eq (.bin .mod (.bin .fdiv (.idx ⇑1 ↑0) ↑20) ↑2) ↑0) #[.set (.one 6)<|.bin .add ↑1<|.bin .mod (.idx ⇑1 ↑2) ↑3] .nil,.set (.one 7)<|.bi .sortedI #[.lst #[.idx ⇑0 ⇑4,.idx ⇑0 ⇑5]],.ret<|.tup #[.idx ⇑7 ↑0,.idx ⇑7 ↑1,⇑6]]}
instance Td:Fn:={ar:=2,sz:=7,body:=#[.set (.one 2)<|.call "_law_draws" #[⇑0,↑14],.set (.one 3)<|.call "_law_bridges" #[⇑2],.set (.one 4)<|.bin .mod (.idx ⇑2 ↑2) ↑8,.ite (.val<|.cmp .eq (.bin .mod (.bin .fdiv (.idx ⇑2 ↑2) ↑8) ↑7) ↑6) #[.set (.one 4)<|.bin .mod (.bin .fdiv (.idx ⇑2 ↑2) ↑56) ↑17] .nil,.ite (.val<|.cmp .eq (.bi .len #[⇑3]) ↑1) #[.set (.one 4) ↑0] .nil,.set (.one 5)<|.call "_law_draws" #[⇑1,.bin .mul ↑3 ⇑4],.set (.one 6)<|.comp [3,5] 1 (.one 0) (.range ⇑4) .yes<|.call "_law_tie" #[⇑1,.slc ⇑2 (.some<|.bin .mul ↑3 ⇑0)<|.some<|.bin .add (.bin .mul ↑3 ⇑0) ↑3,⇑0],.ret<|.tup #[.bi .tuple #[⇑3],.bi .tuple #[⇑6]]]}
instance Tk:Fn:={ar:=1,sz:=2,body:=#[.set (.one 1)<|.call "_law_draws" #[⇑0,↑4],.ite (.val<|.cmp .eq (.bin .mod (.bin .fdiv (.idx ⇑1 ↑1) ↑4) ↑2) ↑0) #[.ret<|.bin .add ↑4<|.bin .mod (.idx ⇑1 ↑3) ↑8] .nil,.ret<|.bin .add ↑4<|.bin .mod (.idx ⇑1 ↑3) ↑197]}
instance Tf:Fn:={ar:=2,sz:=3,body:=#[.ite (.val<|.cmp .is ⇑1<|.cst .non) #[.ret<|.cmp .is ⇑0<|.cst .non] .nil,.ite (.val<|.bi (.isi ["str"]) #[⇑1]) #[.ret<|.and (.bi (.isi ["str"]) #[⇑0])<|.cmp .eq ⇑0 ⇑1] .nil,.ite (.val<|.bi (.isi ["int"]) #[⇑1]) #[.ret<|.and (.bi (.isi ["int"]) #[⇑0])<|.and (.not<|.bi (.isi ["bool"]) #[⇑0])<|.cmp .eq ⇑0 ⇑1] .nil,.ite (.val<|.bi (.isi ["tuple"]) #[⇑1]) #[.ite (.not<|.val<|.bi (.isi ["tuple"]) #[⇑0]) #[.ret<|.cst<|.bl eQ] .nil] #[.ite (.not<|.val<|.bi (.isi ["list"]) #[⇑0]) #[.ret<|.cst<|.bl eQ] .nil],.ite (.val<|.cmp .ne (.bi .len #[⇑0])<|.bi .len #[⇑1]) #[.ret<|.cst<|.bl eQ] .nil,.for (.one 2) (.range<|.bi .len #[⇑1]) #[.ite (.not<|.val<|.call "_law_same" #[.idx ⇑0 ⇑2,.idx ⇑1 ⇑2]) #[.ret<|.cst<|.bl eQ] .nil],.ret<|.cst<|.bl eP]}
instance Tp:Fn:={ar:=2,sz:=5,body:=#[.set (.one 2)<|.lst .nil,.for (.many [3,4]) (.enum<|.idx ⇑0 ↑1) #[.ite (.val<|.cmp .eq (.idx ⇑4 ↑0) ⇑1) #[.expr<|.bm .append ⇑2 #[.tup #[⇑3,.idx ⇑4 ↑1,.idx ⇑4 ↑2]]] .nil,.ite (.val<|.cmp .eq (.idx ⇑4 ↑1) ⇑1) #[.expr<|.bm .append ⇑2 #[.tup #[⇑3,.idx ⇑4 ↑0,.idx ⇑4 ↑2]]] .nil],.ret ⇑2]}
instance Tx:Fn:={ar:=1,sz:=4,body:=#[.set (.one 1)<|.lst .nil,.for (.one 2) (.seq ⇑0) #[.set (.one 3)<|.bin .mod ⇑2<|.bin .pow ↑10 ↑60,.expr<|.bm .append ⇑1 #[.bin .mod ⇑3 ↑1000],.set (.one 3)<|.bin .fdiv ⇑3 ↑1000,.whl (.val<|.cmp .gt ⇑3 ↑0) #[.expr<|.bm .append ⇑1 #[.bin .mod ⇑3 ↑1000],.set (.one 3)<|.bin .fdiv ⇑3 ↑1000]],.ret<|.slc ⇑1 .none<|.some ↑80]}
instance Tu:Fn:={ar:=4,sz:=5,body:=#[.set (.one 4)<|.idx (.idx ⇑0 ↑1) ⇑3,.ret<|.and (.cmp .notin ⇑3 ⇑2)<|.and (.cmp .notin (.idx ⇑4 ↑0) ⇑1)<|.cmp .notin (.idx ⇑4 ↑1) ⇑1]}
instance Te:Fn:={ar:=5,sz:=10,body:=#[.set (.one 5)<|.comp [1] 1 (.one 0) (.seq<|.idx ⇑0 ↑0) (.val<|.cmp .notin ⇑0 ⇑1) ⇑0,.set (.one 6)<|.bin .fdiv ⇑4 ↑10,.ite (.or (.val<|.cmp .gt ⇑3 ↑48)<|.and (.val<|.cmp .isin (.bin .mod ⇑4 ↑10)<|.tup #[↑2,↑3,↑4,↑5])<|.val<|.cmp .gt ⇑3 ↑0) #[.ret<|.tup #[.idx (.lst #[.cst<|.str "come",.cst<|.str "lost"])<|.bin .fdiv (.bin .mod ⇑4 ↑10) ↑5,.bin .mod ⇑6 ⇑3]] .nil,.set (.one 7)<|.bin .add (.comp [] 1 (.one 0) (.seq<|.idx ⇑0 ↑0) .yes<|.tup #[.cst<|.str "bridge",⇑0])<|.comp [] 1 (.one 0) (.range<|.bi .len #[.idx ⇑0 ↑1]) .yes<|.tup #[.cst<|.str "tie",⇑0],.set (.one 8)<|.bin .add (.comp [] 1 (.one 0) (.seq ⇑1) .yes<|.tup #[.cst<|.str "bridge",⇑0])<|.comp [] 1 (.one 0) (.seq ⇑2) .yes<|.tup #[.cst<|.str "tie",⇑0],.set (.one 9)<|.idx ⇑7<|.bin .mod ⇑6<|.bi .len #[⇑7],.ite (.and (.val<|.cmp .eq (.bin .mod ⇑4 ↑10) ↑6)<|.val<|.cmp .notin ⇑9 ⇑8) #[.ret<|.bin .add (.tup #[.cst<|.str "fall"]) ⇑9] .nil,.ite (.and (.val<|.cmp .ne ⇑8<|.lst .nil)<|.or (.val<|.cmp .eq (.bin .mod ⇑4 ↑10) ↑7)<|.val<|.cmp .eq ⇑5<|.lst .nil) #[.ret<|.bin .add (.tup #[.cst<|.str "back"])<|.idx ⇑8<|.bin .mod ⇑6<|.bi .len #[⇑8]] .nil,.ret<|.tup #[.cst<|.str "tick",.idx ⇑5<|.bin .mod ⇑6<|.bi .len #[⇑5]]]}
instance Tg:Fn:={ar:=5,sz:=7,body:=#[.ite (.val<|.cmp .lt (.bin .mod ⇑4 ↑10) ↑8) #[.ret<|.lst #[.call "_law_one_deed" #[⇑0,⇑1,⇑2,⇑3,⇑4]]] .nil,.set (.one 5)<|.comp [0,1,2] 1 (.one 0) (.range<|.bi .len #[.idx ⇑0 ↑1]) (.val<|.call "_law_is_up" #[⇑1,⇑2,⇑3,⇑0]) ⇑0,.set (.one 6)<|.comp [1] 1 (.one 0) (.seq<|.idx ⇑0 ↑0) (.val<|.cmp .notin ⇑0 ⇑1)<|.tup #[.cst<|.str "tick",⇑0],.ret<|.bin .add ⇑6<|.bin .mul (.lst #[.tup #[.cst<|.str "come",↑0]])<|.bin .add ⇑3<|.bin .mul ↑2<|.bi .len #[⇑5]]}
instance Tw:Fn:={ar:=2,sz:=2,body:=#[.ret<|.and (.bi (.isi ["int"]) #[⇑0])<|.and (.not<|.bi (.isi ["bool"]) #[⇑0])<|.cmp .ge ⇑0 ⇑1]}
instance To:Fn:={ar:=1,sz:=1,body:=#[.ite (.or (.not<|.val<|.bi (.isi ["tuple"]) #[⇑0])<|.val<|.cmp .ne (.bi .len #[⇑0]) ↑2) #[.ret<|.cst<|.bl eQ] .nil,.ret<|.and (.call "_law_count" #[.idx ⇑0 ↑0,↑0])<|.call "_law_count" #[.idx ⇑0 ↑1,↑0]]}
instance Tm:Fn:={ar:=4,sz:=7,body:=#[.ite (.val<|.call "_law_same" #[⇑3,.tup #[⇑2,↑0,.cst .non,.cst .non]]) #[.ret<|.cst<|.bl eP] .nil,.ite (.or (.not<|.val<|.bi (.isi ["tuple"]) #[⇑3])<|.or (.val<|.cmp .ne (.bi .len #[⇑3]) ↑4)<|.not<|.val<|.call "_law_is_stamp" #[.idx ⇑3 ↑3]) #[.ret<|.cst<|.bl eQ] .nil,.ite (.or (.not<|.val<|.call "_law_count" #[.idx ⇑3 ↑0,↑0])<|.or (.not<|.val<|.call "_law_count" #[.idx ⇑3 ↑1,↑1])<|.not<|.val<|.call "_law_count" #[.idx ⇑3 ↑2,↑0]) #[.ret<|.cst<|.bl eQ] .nil,.for (.many [4,5,6]) (.seq<|.call "_law_ties_of" #[⇑0,⇑2]) #[.ite (.and (.val<|.cmp .eq ⇑4<|.idx ⇑3 ↑2)<|.val<|.call "_law_is_up" #[⇑0,.idx ⇑1 ↑0,.idx ⇑1 ↑1,⇑4]) #[.ret<|.and (.cmp .lt (.idx ⇑3 ↑0) ⇑2)<|.and (.cmp .le ⇑6<|.idx ⇑3 ↑1)<|.cmp .eq (.cmp .eq (.idx ⇑3 ↑1) ⇑6)<|.cmp .eq (.idx ⇑3 ↑0) ⇑5] .nil],.ret<|.cst<|.bl eQ]}
instance Tn:Fn:={ar:=5,sz:=17,body:=#[.set (.one 5)<|.comp [0,1] 1 (.one 0) (.seq<|.call "_law_ties_of" #[⇑0,⇑2]) (.val<|.call "_law_is_up" #[⇑1,.idx ⇑2 ↑0,.idx ⇑2 ↑1,.idx ⇑0 ↑0]) ⇑0,.ite (.val<|.cmp .ne (.bi .len #[⇑4])<|.bi .len #[⇑5]) #[.ret<|.cst<|.bl eQ] .nil,.set (.one 6)<|.lst .nil,.for (.one 7) (.range<|.bi .len #[⇑5]) #[.set (.many [8,9,10])<|.idx ⇑5 ⇑7,.set (.one 11)<|.cst .non,.ite (.val<|.cmp .eq ⇑8<|.idx ⇑3 ↑2) #[.set (.one 11)<|.idx ⇑3 ↑3] .nil,.set (.one 12)<|.idx (.idx ⇑4 ⇑7) ↑3,.ite (.or (.not<|.val<|.bi (.isi ["tuple"]) #[⇑12])<|.val<|.cmp .ne (.bi .len #[⇑12]) ↑7) #[.ret<|.cst<|.bl eQ] .nil,.ite (.and (.val<|.cmp .isnot (.idx ⇑12 ↑6)<|.cst .non)<|.or (.val<|.cmp .eq ⇑8<|.idx ⇑3 ↑2)<|.not<|.val<|.call "_law_is_stamp" #[.idx ⇑12 ↑6]) #[.ret<|.cst<|.bl eQ] .nil,.set (.many [13,14,15])<|.idx (.idx ⇑1 ↑2) ⇑2,.set (.one 16)<|.tup #[.tup #[⇑13,⇑14],.tup #[⇑13,⇑15],.idx ⇑3 ↑0,.idx ⇑3 ↑1,.idx ⇑12 ↑4,⇑11,.idx ⇑12 ↑6],.ite (.or (.not<|.val<|.call "_law_count" #[.idx ⇑12 ↑4,↑0])<|.not<|.val<|.call "_law_same" #[.idx ⇑4 ⇑7,.tup #[⇑2,⇑9,⇑8,⇑16]]) #[.ret<|.cst<|.bl eQ] .nil,.expr<|.bm .append ⇑6 #[.idx ⇑12 ↑4]],.ite (.val<|.cmp .is (.idx ⇑3 ↑2)<|.cst .non) #[.ret<|.cmp .eq ⇑6<|.bin .mul (.lst #[↑0])<|.bi .len #[⇑5]] .nil,.ret<|.and (.cmp .eq ⇑6<|.bin .mul (.slc ⇑6 .none<|.some ↑1)<|.bi .len #[⇑5])<|.bi .all #[.comp [1] 1 (.one 0) (.seq ⇑6) .yes<|.chain .le .le ↑2 ⇑0<|.idx ⇑1 ↑4]]}
instance Ti:Fn:={ar:=5,sz:=12,body:=#[.set (.one 5)<|.meth "Bridge" "label" (.meth "Yard" "bridge" ⇑0 #[⇑4]) .nil,.ite (.not<|.val<|.call "_law_is_label" #[⇑1,⇑2,⇑4,⇑5]) #[.ret<|.cst<|.bl eQ] .nil,.set (.many [6,7,8])<|.idx (.idx ⇑2 ↑2) ⇑4,.setIdx (.idx ⇑2 ↑2) ⇑4<|.tup #[⇑6,⇑7,.bin .add ⇑8<|.bi .int #[.cmp .ne ⇑5<|.idx ⇑3 ⇑4]],.setIdx ⇑3 ⇑4 ⇑5,.set (.one 9)<|.bi .len #[.idx ⇑2 ↑3],.set (.one 10)<|.meth "Yard" "road" ⇑0 .nil,.set (.one 11)<|.slc ⇑10 (.some ⇑9) .none,.ite (.or (.val<|.cmp .ne (.slc ⇑10 .none<|.some ⇑9)<|.idx ⇑2 ↑3)<|.not<|.val<|.call "_law_is_sent" #[⇑1,⇑2,⇑4,⇑5,⇑11]) #[.ret<|.cst<|.bl eQ] .nil,.setIdx (.idx ⇑2 ↑2) ⇑4<|.tup #[⇑6,.bin .add ⇑7 ↑1,.idx (.idx (.idx ⇑2 ↑2) ⇑4) ↑2],.expr<|.bm .extend (.idx ⇑2 ↑3) #[⇑11],.ret<|.cst<|.bl eP]}
instance Tc:Fn:={ar:=3,sz:=4,body:=#[.ite (.val<|.cmp .isin (.idx ⇑2 ↑0)<|.tup #[.cst<|.str "come",.cst<|.str "lost"]) #[.expr<|.bm .popAt (.idx ⇑0 ↑3) #[.idx ⇑2 ↑1],.retN] .nil,.set (.one 3)<|.idx ⇑0<|.bi .int #[.cmp .eq (.idx ⇑2 ↑1)<|.cst<|.str "tie"],.ite (.val<|.cmp .eq (.idx ⇑2 ↑0)<|.cst<|.str "fall") #[.expr<|.bm .append ⇑3 #[.idx ⇑2 ↑2],.ite (.val<|.cmp .eq (.idx ⇑2 ↑1)<|.cst<|.str "bridge") #[.expr<|.bm .dpop ⇑1 #[.idx ⇑2 ↑2]] .nil] #[.expr<|.bm .remove ⇑3 #[.idx ⇑2 ↑2],.ite (.val<|.cmp .eq (.idx ⇑2 ↑1)<|.cst<|.str "bridge") #[.setIdx ⇑1 (.idx ⇑2 ↑2)<|.tup #[.idx ⇑2 ↑2,↑0,.cst .non,.cst .non],.setIdx (.idx ⇑0 ↑2) (.idx ⇑2 ↑2)<|.tup #[.bin .add (.idx (.idx (.idx ⇑0 ↑2)<|.idx ⇑2 ↑2) ↑0) ↑1,↑0,↑0]] .nil]]}
instance Th:Fn:={ar:=4,sz:=5,body:=#[.ite (.val<|.cmp .ne (.meth "Yard" "road" ⇑0 .nil)<|.idx ⇑2 ↑3) #[.ret<|.cst<|.bl eQ] .nil,.ite (.val<|.cmp .ne (.meth "Yard" "labels" ⇑0 .nil)<|.comp [3] 1 (.one 0) (.seq<|.idx ⇑1 ↑0) (.val<|.cmp .isin ⇑0 ⇑1)<|.tup #[⇑0,.idx ⇑1 ⇑0]) #[.ret<|.cst<|.bl eQ] .nil,.set (.one 4)<|.comp [2,3] 1 (.one 0) (.seq<|.idx ⇑1 ↑0) (.val<|.cmp .isin ⇑0 ⇑2)<|.tup #[⇑0,.tup #[.idx (.idx (.idx ⇑1 ↑2) ⇑0) ↑0,.idx (.idx (.idx ⇑1 ↑2) ⇑0) ↑2]],.ret<|.cmp .eq (.meth "Yard" "stamps" ⇑0 .nil) ⇑4]}
instance TQ:Fn:={ar:=1,sz:=12,body:=#[.set (.one 1)<|.call "_law_net" #[.call "_law_cell_at" #[⇑0,↑0],.call "_law_cell_at" #[⇑0,↑1]],.set (.one 2)<|.call "_law_greatest" #[.call "_law_cell_at" #[⇑0,↑0]],.set (.one 3)<|.make "Yard" #[⇑1,⇑2],.set (.one 4)<|.tup #[.lst .nil,.lst .nil,.dct .nil,.lst .nil,⇑2],.set (.one 5)<|.dct .nil,.for (.one 6) (.seq<|.idx ⇑1 ↑0) #[.setIdx (.idx ⇑4 ↑2) ⇑6<|.tup #[↑0,↑0,↑0],.setIdx ⇑5 ⇑6<|.tup #[⇑6,↑0,.cst .non,.cst .non]],.set (.one 7) ↑120,.for (.one 8) (.seq<|.call "_law_codes" #[.slc ⇑0 (.some ↑2) .none]) #[.set (.one 9)<|.call "_law_some_deeds" #[⇑1,.idx ⇑4 ↑0,.idx ⇑4 ↑1,.bi .len #[.idx ⇑4 ↑3],⇑8],.for (.one 10) (.seq<|.slc ⇑9 .none<|.some ⇑7) #[.set (.one 7)<|.bin .sub ⇑7 ↑1,.expr<|.meth "Yard" "deed" ⇑3 #[⇑10],.ite (.val<|.cmp .eq (.idx ⇑10 ↑0)<|.cst<|.str "tick") #[.ite (.not<|.val<|.call "_law_ticked" #[⇑3,⇑1,⇑4,⇑5,.idx ⇑10 ↑1]) #[.ret<|.cst<|.bl eQ] .nil] #[.expr<|.call "_law_moved" #[⇑4,⇑5,⇑10]],.ite (.not<|.val<|.call "_law_stands" #[⇑3,⇑1,⇑4,⇑5]) #[.ret<|.cst<|.bl eQ] .nil]],.set (.one 11)<|.comp [5] 1 (.one 0) (.seq<|.idx ⇑1 ↑0) (.val<|.cmp .isin ⇑0 ⇑1)<|.tup #[⇑0,.idx ⇑1 ⇑0],.ret<|.and (.call "_law_same" #[.meth "Yard" "labels" ⇑3 .nil,⇑11])<|.call "_law_same" #[.meth "Yard" "road" ⇑3 .nil,.idx ⇑4 ↑3]]}
class Al(P:Pg):Prop where
 c0:P "is_whole" = eM TL
 c1:P "neighbours" = eM Tq
 c2:P "far_end" = eM TH
 c3:P "newer" = eM Tr
 c4:P "best_offer" = eM TF
 c5:P "Bridge.__init__" = eM SW
 c6:P "Bridge.label" = eM SS
 c7:P "Bridge.stamp" = eM S1
 c8:P "Bridge.held" = eM SX
 c9:P "Bridge.up" = eM S4
 c10:P "Bridge.down" = eM SZ
 c11:P "Bridge.hear" = eM SY
 c12:P "Bridge.tick" = eM S3
 c13:P "Bridge.let_grow_older" = eM ST
 c14:P "Bridge.reckon_label" = eM S0
 c15:P "Bridge.take_label" = eM S2
 c16:P "Bridge.letter_over" = eM SV
 c17:P "Bridge.is_rested_on" = eM SU
 c18:P "Yard.__init__" = eM TW
 c19:P "Yard.road" = eM TM
 c20:P "Yard.labels" = eM TK
 c21:P "Yard.stamps" = eM TB
 c22:P "Yard.bridge" = eM S7
 c23:P "Yard.has_tie" = eM TX
 c24:P "Yard.deed" = eM S9
 c25:P "Yard.tick_of" = eM TD
 c26:P "Yard.come" = eM S8
 c27:P "Yard.take_off" = eM TC
 c28:P "Yard.fall_of_bridge" = eM TZ
 c29:P "Yard.fall_of_tie" = eM TY
 c30:P "Yard.back_of_bridge" = eM S5
 c31:P "Yard.back_of_tie" = eM S6
 c32:P "Yard.set_ties_of" = eM TU
 c33:P "Yard.set_tie" = eM TN
 c34:P "read_deed" = eM Tv
 c35:P "_law_cell_at" = eM Tz
 c36:P "_law_mixed" = eM Ta
 c37:P "_law_draws" = eM Tj
 c38:P "_law_bridges" = eM TV
 c39:P "_law_tie" = eM Tl
 c40:P "_law_net" = eM Td
 c41:P "_law_greatest" = eM Tk
 c42:P "_law_same" = eM Tf
 c43:P "_law_ties_of" = eM Tp
 c44:P "_law_codes" = eM Tx
 c45:P "_law_is_up" = eM Tu
 c46:P "_law_one_deed" = eM Te
 c47:P "_law_some_deeds" = eM Tg
 c48:P "_law_count" = eM Tw
 c49:P "_law_is_stamp" = eM To
 c50:P "_law_is_label" = eM Tm
 c51:P "_law_is_sent" = eM Tn
 c52:P "_law_ticked" = eM Ti
 c53:P "_law_moved" = eM Tc
 c54:P "_law_stands" = eM Th
 c55:P "law" = eM TQ
set_option hygiene false in
local macro_rules|`(#check $r:ident $c:ident $d:ident $s:str $a:num $z:num)=>do
 let v:=(Array.range a.getNat).map λi=>Lean.mkIdent (.mkSimple s!"a{i}")
 let e<-(Array.range z.getNat).mapM λi=>if i<a.getNat then `(eM $(v[i]!))else`(eN)
 `(theorem $r [Al P](q:B0 P n $d [$e,*] h Q X):wF P (n+1) $s [$v,*] h Q X:=Zd $c rfl q)
#check OS Al.c0 TL "is_whole" 1 1
#check Nf Al.c1 Tq "neighbours" 2 5
#check Bg Al.c2 TH "far_end" 2 2
#check Gv Al.c3 Tr "newer" 2 2
#check MH Al.c4 TF "best_offer" 2 3
#check Ky Al.c5 SW "Bridge.__init__" 5 8
#check Kb Al.c6 SS "Bridge.label" 1 1
#check Km Al.c7 S1 "Bridge.stamp" 1 1
#check Ku Al.c8 SX "Bridge.held" 2 2
#check NW Al.c9 S4 "Bridge.up" 4 4
#check KH Al.c10 SZ "Bridge.down" 2 2
#check Kt Al.c11 SY "Bridge.hear" 3 4
#check Kw Al.c12 S3 "Bridge.tick" 1 2
#check YE Al.c13 ST "Bridge.let_grow_older" 1 4
#check YW Al.c14 S0 "Bridge.reckon_label" 1 8
#check XC Al.c15 S2 "Bridge.take_label" 2 2
#check Xo Al.c16 SV "Bridge.letter_over" 2 8
#check Y3 Al.c17 SU "Bridge.is_rested_on" 2 3
#check On Al.c18 TW "Yard.__init__" 3 4
#check NP Al.c19 TM "Yard.road" 1 1
#check Kz Al.c20 TK "Yard.labels" 1 1
#check KM Al.c21 TB "Yard.stamps" 1 1
#check KG Al.c22 S7 "Yard.bridge" 2 2
#check JH Al.c23 TX "Yard.has_tie" 2 2
#check Ov Al.c24 S9 "Yard.deed" 2 4
#check Jo Al.c25 TD "Yard.tick_of" 2 5
#check WT Al.c26 S8 "Yard.come" 2 6
#check WW Al.c27 TC "Yard.take_off" 2 2
#check YV Al.c28 TZ "Yard.fall_of_bridge" 2 2
#check XZ Al.c29 TY "Yard.fall_of_tie" 2 2
#check YZ Al.c30 S5 "Yard.back_of_bridge" 2 2
#check XU Al.c31 S6 "Yard.back_of_tie" 2 2
#check X1 Al.c32 TU "Yard.set_ties_of" 2 5
#check Jt Al.c33 TN "Yard.set_tie" 2 8
#check NZ Al.c34 Tv "read_deed" 1 2
#check KF Al.c35 Tz "_law_cell_at" 2 2
#check N3 Al.c36 Ta "_law_mixed" 2 3
#check NG Al.c37 Tj "_law_draws" 2 6
#check KN Al.c38 TV "_law_bridges" 1 3
#check Bu Al.c39 Tl "_law_tie" 3 8
#check BN Al.c40 Td "_law_net" 2 7
#check Ki Al.c41 Tk "_law_greatest" 1 2
#check ZQ Al.c42 Tf "_law_same" 2 3
#check Kv Al.c43 Tp "_law_ties_of" 2 5
#check NM Al.c44 Tx "_law_codes" 1 4
#check Ot Al.c45 Tu "_law_is_up" 4 5
#check JM Al.c46 Te "_law_one_deed" 5 10
#check WF Al.c47 Tg "_law_some_deeds" 5 7
#check NV Al.c48 Tw "_law_count" 2 2
#check JU Al.c49 To "_law_is_stamp" 1 1
#check JP Al.c50 Tm "_law_is_label" 4 7
#check KC Al.c51 Tn "_law_is_sent" 5 17
#check MU Al.c52 Ti "_law_ticked" 5 12
#check Z7 Al.c53 Tc "_law_moved" 3 4
#check Nd Al.c54 Th "_law_stands" 4 5
#check Qo Al.c55 TQ "law" 1 12
local macro_rules|`(#[$x])=>`(.cons $x .nil)|`(#[$x,$y,*])=>`(.cons $x #[$y,*])
local macro_rules | `(tactic| walk_at "ne")=>`(tactic| first | assumption | (apply Ne.symm; assumption) | ((with_reducible apply ne_none'); (· assumption); (· walk_at "look")) | (apply Ne.symm; (with_reducible apply ne_none'); (· assumption); (· walk_at "look")))
local macro_rules | `(tactic| walk_at "look")=>`(tactic| first | assumption | with_reducible exact eS | ((with_reducible apply upd_ne'); (· walk_at "ne"); (· walk_at "look")) | ((with_reducible apply Ext.get); (· assumption); (· walk_at "look")) | ((with_reducible apply ExtB.get); (· assumption); (· walk_at "ne"); (· walk_at "look")))
local macro_rules | `(tactic| walk_at "ar")=>`(tactic| first | decide | lia | assumption | (simp only [Ò,Ĩ]; decide))
local macro_rules | `(tactic| walk_at "mul")=>`(tactic| first | exact .inl (.inr<|by lia) | exact .inl (.inl<|by lia) | exact .inr ⟨by decide,by decide⟩)
local macro_rules | `(tactic| walk_at "setl")=>`(tactic| first | (simp only [ŝ,Λ,Ψ,ŋ,List.foldl_nil,ab,ac]; done) | (simp only [ŝ,Λ,Ψ,ŋ,List.foldl_nil,ab,ac]; exact rfl) | exact rfl)
local macro_rules | `(tactic| walk_at "w")=>`(tactic| with_reducible conv=>whnf)
local macro_rules | `(tactic| walk_at "py1")=>do
 let a<-[`dw0,`b_add,`b_sub,`g_int,`g_bl,`g_ref,`g_tbl,`c_lt,`c_gt,`c_le,`c_ge,`c_eqI,`c_neI,`c_eqS,`c_eqB,`c_isN,`c_notN,`ag_add,`ln_scr,`ln_tup,`in_bl,`sl_scr,`it_tup].toArray.mapM λn=>`(tactic| refine $(Lean.mkIdent n) ?_)
 let c<-[`ln_lst,`tp_lst,`ls_lst,`sl_lst,`it_lst,`dc_of].toArray.mapM λn=>`(tactic| ((with_reducible apply $(Lean.mkIdent n)); (· walk_at "look")))
 `(tactic| first
 |(with_reducible first $[| $a:tactic]*)
 |((with_reducible apply QJ);(· exact rfl))
 |((with_reducible apply Ld);(· walk_at "setl"))|((with_reducible apply Pj);(· (simp only[bindL,ab,ac];exact rfl)))|((with_reducible apply b_mul);(· walk_at "mul"))|((with_reducible apply b_fdiv);(· walk_at "ar"))|((with_reducible apply b_mod);(· walk_at "ar"))|((with_reducible apply L1);(· walk_at "ar");(· simp only[Int.reduceToNat,Int.reducePow];exact rfl))|((with_reducible apply MC);(· walk_at "look");(· walk_at "look");(· first|(simp only[aF,List.nil_append,Ò,Ĩ];decide)|lia))|((with_reducible apply Py);(· walk_at "ar"))
 |((with_reducible apply eX);(· exact rfl))|((with_reducible apply Zk);(· walk_at "look");(· exact rfl))
 |((with_reducible apply Yx);(· walk_at "look");(· walk_at "ar"))|((with_reducible apply Lu);(· walk_at "look");(· exact rfl))|((with_reducible apply Ll);(· walk_at "look");(· exact rfl))
 |((with_reducible apply Dr);(· exact rfl))|((with_reducible apply fP);(· decide))
 | ((with_reducible apply IU);(· first | exact .inl rfl | exact .inr (.inl rfl) | simp);(· walk_at "look")) | ((with_reducible apply LK);(· first | exact rfl | simp);(· walk_at "look")) | ((with_reducible apply Yn);(· walk_at "look");(· walk_at "ar")) | (first $[| $c:tactic]*))
local macro_rules | `(tactic| fail)=>`(tactic| ((repeat walk_at "py1"); walk_at "w"))
local macro_rules | `(tactic| walk_at "p")=>`(tactic| ((repeat first | walk_at "py1" | refine fQ rfl ?_ | refine fR rfl ?_); walk_at "w"))
local macro_rules | `(tactic| exists $e)=>`(tactic| (fail; refine $e ?_))
local macro_rules | `(tactic| refine' $e)=>`(tactic| (fail; refine $e))
section
variable {α:Type}(val:α->Val)
abbrev Zb(kvs:List<|Int×α):List<|Val×Val:=kvs.map λp=>(.int p.1,val p.2)
abbrev Za(kvs:List<|Int×α)(k:Int)(v:α):List<|Int×α:=if(kvs.lookup k).isSome then kvs.map (λp=>if p.1=k then(k,v)else p)else kvs++[(k,v)]
abbrev Ze(kvs:List<|Int×α)(k:Int):List<|Int×α:=kvs.filter λp=>gC (p.1≠k)
variable {val}
def Jh(a b:Int):(Val.int a==Val.int b)=gC (a=b):=by
 by_cases e:a=b
 .subst e;simp
 .rw[gy e];exact beq_eq_false_iff_ne.mpr λz=>e (by injection z)
def ZE(kvs:List<|Int×α)(k:Int):fq (Zb val kvs) (.int k)=(kvs.lookup k).map val:=by
 induction kvs with
 |nil=>rfl
 |cons p r ih =>
  unfold fq Zb at ih ⊢;rw[Î,ę,ä,Jh];by_cases e:p.1=k
  .have:(k==p.1)=eP:=by simp[e]
   simp[e]
  .have h2:(k==p.1)=eQ:=by simpa using λz=>e z.symm
   rw[gy e,h2];exact ih
def YX(kvs:List<|Int×α)(k:Int):fu (Zb val kvs) (.int k)=(kvs.lookup k).isSome:=by
 induction kvs with
 |nil=>rfl
 |cons p r ih =>
  unfold fu Zb at ih ⊢;rw[Î,ı,ä,Jh];by_cases e:p.1=k
  .simp[e]
  .have h2:(k==p.1)=eQ:=by simpa using λz=>e z.symm
   rw[gy e,h2];exact ih
def ZA(kvs:List<|Int×α)(k:Int)(v:α):fv (Zb val kvs) (.int k) (val v)=Zb val (Za kvs k v):=by
 unfold fv Za;rw[YX];split
 .unfold Zb;rw[í,í];refine Ċ λp _=>?_;simp only[b4,Jh];by_cases e:p.1=k
  .simp[e]
  .simp[e]
 .unfold Zb;rw[Û];rfl
def Xl(kvs:List<|Int×α)(k:Int):fw (Zb val kvs) (.int k)=Zb val (Ze kvs k):=by
 unfold fw Ze Zb;induction kvs with
 |nil=>rfl
 |cons p r ih =>rw[Î,đ,đ,Jh,ih];by_cases e:p.1=k<;>simp[e]
def Wj(ns:List Int):eY (ns.map Val.int)=eM ns:=by
 induction ns with
 |nil=>rfl
 |cons n ns ih=>show(eY<|ns.map Val.int).map _=_;rw[ih];rfl
def CS(kvs:List<|Int×α):keysOf (Zb val kvs)=eM (kvs.map (·.1)):=by unfold keysOf Zb;rw[í];exact(congrArg eY (í (f:=λp:Int×α=>p.1) (g:=Val.int) (l:=kvs)).symm).trans (Wj _)
def Xf(kvs:List<|Int×α):(Zb val kvs).length=kvs.length:=by unfold Zb;rw[À]
variable {kvs:List (Int×α)}
def Zi{k:Int}{v:α}(h:kvs.lookup k=eM v):(k,v)∈kvs:=by
 induction kvs with
 |nil=>cases h
 |cons p r ih =>
  rw[ä]at h;by_cases e:k=p.1
  .have:(k==p.1)=eP:=by simp[e]
   rw[this]at h;cases h;rw[e];exact æ
  .have:(k==p.1)=eQ:=⇑e
   rw[this]at h;exact Ú _<|ih h
def ZW{k:Int}(h:k∈kvs.map (·.1)):∃v,kvs.lookup k=eM v:=by
 induction kvs with
 |nil=>cases h
 |cons p r ih =>
  rw[ä];by_cases e:k=p.1
  .have:(k==p.1)=eP:=by simp[e]
   rw[this];exact⟨_,rfl⟩
  .have:(k==p.1)=eQ:=⇑e
   rw[this];rw[Î,Æ]at h;exact ih<|h.resolve_left e
def Xy{k:Int}(h:kvs.lookup k=eN):k∉kvs.map (·.1):=λm=>by let⟨v,e⟩:=ZW m;rw[h]at e;cases e
def Yu(nd:(kvs.map (·.1)).Nodup){k:Int}{v:α}(h:(k,v)∈kvs):kvs.lookup k=eM v:=by
 induction kvs with
 |nil=>cases h
 |cons p r ih =>
  rw[Î,ü]at nd;rw[ä];rcases Æ.mp h with e|h
  .subst e;simp
  .have:k≠p.1:=λz=>nd.1 (z▸ø (f:=(·.1)) h);have:(k==p.1)=eQ:=⇑this
   rw[this];exact ih nd.2 h
def Z6(kvs:List<|Int×α)(k:Int)(v:α):(Za kvs k v).map (·.1)=if(kvs.lookup k).isSome then kvs.map (·.1)else kvs.map (·.1)++[k]:=by
 unfold Za;split
 .rw[í];refine Ċ λp _=>?_;simp only[b4];by_cases e:p.1=k<;>simp[e]
 .rw[Û];rfl
def YJ{k:Int}(v:α)(h:k∉kvs.map (·.1)):Za kvs k v=kvs++[(k,v)]:=by
 unfold Za;have:kvs.lookup k=eN:=by
  cases e:kvs.lookup k with
  |none=>rfl
  |some w=>exact gB (ø (f:=(·.1))<|Zi e) h
 rw[this];rfl
def WN(nd:(kvs.map (·.1)).Nodup)(k:Int)(v:α):((Za kvs k v).map (·.1)).Nodup:=by
 rw[Z6];split
 .exact nd
 .rename_i h;have h:kvs.lookup k=eN:=Ś.mp h;rw[å];refine⟨nd,by simp,λa ha b hb=>?_⟩;rw[á.mp hb];exact λe=>Xy h<|e▸ha
variable {p:Int×α}
def YQ{k:Int}{v:α}(h:p∈Za kvs k v):p=(k,v)\/p∈kvs:=by
 unfold Za at h;split at h
 .obtain⟨q,hq,e⟩:=Ô.mp h;split at e
  .exact .inl e.symm
  .exact .inr<|e▸hq
 .rcases â.mp h with h|h
  .exact .inr h
  .exact .inl<|á.mp h
def NS(kvs:List<|Int×α)(k:Int):(Ze kvs k).Sublist kvs:=ħ
def YL(nd:(kvs.map (·.1)).Nodup)(k:Int):((Ze kvs k).map (·.1)).Nodup:=nd.sublist ((NS kvs k).map _)
def FP{k:Int}(h:p∈Ze kvs k):p.1≠k:=by unfold Ze at h;have:=(ó.mp h).2;simpa using this
end
def Ye:∀{m:Nat}{ns:List Int},ns.Nodup->(∀x∈ns,0<=x/\x<m)->ns.length<=m
 |0,ns,nd,h=>by
  cases ns with
  |nil=>exact Ó _
  |cons x xs=>have:=h x æ;lia
 |m+1,ns,nd,h=>by
  by_cases hm:(m:Int)∈ns
  .have:=Ye (m:=m) (nd.erase (m:Int)) λx hx=>by
    have h1:=(nd.mem_erase_iff).mp hx;have h2:=h x h1.2;have:=h1.1;lia
   rw[bR hm]at this;lia
  .have:=Ye (m:=m) nd λx hx=>by
    have h2:=h x hx;have:x≠(m:Int):=λe=>hm<|e▸hx;lia
   lia
noncomputable abbrev Pi:=Int×Int
noncomputable abbrev pV(p:Pi):Val:=.tup [.int p.1,.int p.2]
abbrev oV:Option Pi->Val
 |none=>.non
 |some p=>pV p
structure L where
 num:Pi
 st:Pi
 root:Int
 cost:Int
 age:Int
 rests:Option Pi
 agrees:Option Pi
noncomputable abbrev L.v(l:L):Val:=.tup [pV l.num,pV l.st,.int l.root,.int l.cost,.int l.age,oV l.rests,oV l.agrees]
noncomputable abbrev Bv(t:Int×Int):Val:=.tup [.int t.1,.int t.2]
noncomputable abbrev hdV(t:L×Int):Val:=.tup [t.1.v,.int t.2]
structure Lab where
 root:Int
 cost:Int
 up:Option<|Int×Pi
 deriving DecidableEq
abbrev upV:Option (Int×Pi)->Val
 |none=>.non
 |some p=>.int p.1
abbrev rsV:Option (Int×Pi)->Val
 |none=>.non
 |some p=>pV p.2
noncomputable abbrev Lab.v(l:Lab):Val:=.tup [.int l.root,.int l.cost,upV l.up,rsV l.up]
structure Br where
 number:Int
 life:Int
 most:Int
 ties:List<|Int×(Int×Int)
 held:List<|Int×(L×Int)
 label:Lab
 version:Int
 count:Int
structure fc(h:Hs)(b t d:Ad)(B:Br):Prop where
 ins:h b=eM (.ins "Bridge" [("number",.int B.number),("life",.int B.life),("age_let_go",.int B.most),("ties_by_place",.ref t),("held_by_place",.ref d),("label_now",B.label.v),("version",.int B.version),("ticks_had",.int B.count)])
 ties:h t=eM (.dct<|Zb Bv B.ties)
 held:h d=eM (.dct<|Zb hdV B.held)
 ne:t≠d
variable {h:Hs} {b:Ad} {o:Ob}
def Dl{a:Ad}{u:Ob}(ha:h a=eM o)(hb:h b=eM u)(ne:o≠u):a≠b:=λe=>by subst e;rw[ha]at hb;exact ne (ñ hb)
variable {d:Ad} {B:Br}
def fc.nbt{t:Ad}(x:fc h b t d B):b≠t:=Dl x.ins x.ties nofun
def fc.nbd{t:Ad}(x:fc h b t d B):b≠d:=Dl x.ins x.held nofun
structure Ex(S:List Ad)(h g:Hs):Prop where
 get:∀{a:Ad}{o:Ob},a∉S->h a=eM o->g a=eM o
def Ex.refl{S:List Ad}:Ex S h h:=⟨λ_ e=>e⟩
variable {g:Hs}
def Ex.trans{k:Hs}{S:List Ad}(e:Ex S h g)(f:Ex S g k):Ex S h k:=⟨λn x=>f.get n<|e.get n x⟩
def Ex.of{S:List Ad}(e:Ext h g):Ex S h g:=⟨λ_ x=>e.get x⟩
def Ex.upd{S:List Ad}{w:Ad}(m:w∈S):Ex S h<|upd h w o:=⟨λ{a _} n x=>by rw[eR λe:a=w=>n<|by rw[e];exact m];exact x⟩
def Ex.sub{S T:List Ad}(e:Ex S h g)(m:∀a∈S,a∈T):Ex T h g:=⟨λn x=>e.get (λz=>n<|m _ z) x⟩
variable {p:Ad}
def Ex.none(e:Ex [b] h g)(hb:g b≠eN)(hp:g p=eN):h p=eN:=by
 cases z:h p with
 |none=>rfl
 |some o =>
  by_cases hpb:p=b
  .subst hpb;exact gB hp hb
  .rw[e.get ⇑hpb z]at hp;cases hp
def fc.keep{t:Ad}{S:List Ad}(x:fc h b t d B)(e:Ex S h g)(hb:b∉S)(ht:t∉S)(hd:d∉S):fc g b t d B:=⟨e.get hb x.ins,e.get ht x.ties,e.get hd x.held,x.ne⟩
def fc.ext{t:Ad}(x:fc h b t d B)(e:Ext h g):fc g b t d B:=⟨e.get x.ins,e.get x.ties,e.get x.held,x.ne⟩
def nw{Q:Q1}(q:∀p,h p=eN->Q (.ref p) (upd h p o)):new h o Q:=Xm q
abbrev Yv(most:Int)(held:List<|Int×(L×Int)):List<|Int×(L×Int):=held.filterMap λp=>if p.2.2+1<most then eM (p.1,(p.2.1,p.2.2+1))else eN
variable {most:Int} {held:List (Int×(L×Int))}
def Bz{p:Int×(L×Int)}(h:p∈Yv most held):∃a,(p.1,(p.2.1,a))∈held:=by
 let⟨q,hq,e⟩:=Ź.mp h;split at e
 .cases e;exact⟨_,hq⟩
 .cases e
def Jq(most:Int)(held:List<|Int×(L×Int)):((Yv most held).map (·.1)).Sublist (held.map (·.1)):=by
 unfold Yv;induction held with
 |nil=>exact Ŵ _
 |cons p r ih =>
  rw[Ĕ];split
  .exact ih.cons _
  .rename_i q e;split at e
   .cases e;exact ih.cons₂ _
   .cases e
def BJ(most:Int)(held:List<|Int×(L×Int)):(Yv most held).length<=held.length:=bM _ _
def YU{α β:Type}{f:α->β}:∀{xs:List α}{i:Nat}{q:α},(xs.map f).Nodup->xs[i]?=eM q->f q∉(xs.take i).map f
 |[],_,_,_,h=>by simp at h
 |x::xs,0,_,_,_=>by simp
 |x::xs,i+1,q,nd,h=>by
  rw[Î,ü]at nd;have h:xs[i]?=eM q:=⇑h
  rw[ϴ,Î,Æ,not_or];exact⟨λe=>nd.1<|e▸ø (ô h),YU nd.2 h⟩
variable {α:Type} {xs:List α} {i:Nat} {x:α}
def ZC(h:xs[i]?=eM x):xs.take (i+1)=xs.take i++[x]:=by rw[ν,h];rfl
def Yy{f:α->Val}{v:Val}(h:(xs.map f)[i]?=eM v):∃x,xs[i]?=eM x/\v=f x:=by rw[Ø]at h;let⟨x,h1,h2⟩:=Ä.mp h;exact⟨x,h1,h2.symm⟩
variable {kvs:List (Int×α)}
def OF{val:α->Val}{v:Val}(h:((Zb val kvs).map<|itemOf eQ)[i]?=eM v):∃p,kvs[i]?=eM p/\v=.tup [.int p.1,val p.2]:=by let⟨q,h1,rfl⟩:=Yy h;unfold Zb at h1;rw[Ø]at h1;let⟨x,h2,rfl⟩:=Ä.mp h1;exact⟨x,h2,rfl⟩
def HF{val:α->Val}(kvs:List<|Int×α):((Zb val kvs).map<|itemOf eQ).length=kvs.length:=by rw[À,Xf]
variable {P:Pg} [Al P] {n:Nat}{h:Hs}{w b t d st a f tt hh:Ad}{S B:Br}{c:Int}{all:List (Int×Int)}{ps:List Int}{Q:Q1}{X:XQ}
def Oz(x:fc h b t d B)(k:Q B.label.v h):wF P (n+1) "Bridge.label" [.ref b] h Q X:=by let⟨hi,ht,hd,ű⟩:=x;refine Kb ?_;refine' k
def Wc(x:fc h b t d B)(k:Q (pV (B.life,B.version)) h):wF P (n+1) "Bridge.stamp" [.ref b] h Q X:=by let⟨hi,ht,hd,ű⟩:=x;refine Km ?_;refine' k
abbrev hdO:Option (L×Int)->Val
 |none=>.non
 |some p=>hdV p
def Af{p:Int}(x:fc h b t d B)(k:Q (hdO<|B.held.lookup p) h):wF P (n+1) "Bridge.held" [.ref b,.int p] h Q X:=by
 let⟨hi,ht,hd,ű⟩:=x;refine Ku ?_
 exists CQ (v:=.int p) hd rfl
 rw[ZE];cases e:B.held.lookup p with
 |none=>rw[e]at k;exact k
 |some q=>rw[e]at k;exact k
def Fk(x:fc h b t d B)(nd:(B.held.map (·.1)).Nodup)(hl:B.held.length<1000)(k:∀d' g,h d'=eN->fc g b t d' {B with held:=Yv B.most B.held}->Ex [b] h g->Q .non g):wF P (n+1) "Bridge.let_grow_older" [.ref b] h Q X:=by
 let⟨hi,ht,hd,ű⟩:=id x;refine YE ?_;fail;intro p hp;have npd:=Zc hd hp;have npb:=Zc hi hp;have npt:=Zc ht hp;have nbd:=x.nbd;refine' Zo (λi e g=>Sm2 λu v=>Cj4 (e=[eM<|.ref b,eM<|.ref p,u,v]) (g p=eM (.dct<|Zb hdV<|Yv B.most<|B.held.take i)) (g d=eM (.frz<|Zb hdV B.held))<|Ex [d] h g) ⟨eN,eN,rfl,by rw[eR npd.symm];exact eS,eS,?_⟩ ?_ ?_ ?_
 .exact⟨λm e=>by rw[eR λz=>m<|by simp[z],eR<|Zc e hp];exact e⟩
 .rintro i e g hi2 ⟨u,v,rfl,h1,h2,h3⟩;exact h2
 .rintro i v e g hv ⟨u,w,rfl,h1,h2,h3⟩ K hK;let⟨q,hq,rfl⟩:=OF hv;have hi1:=h3.get ⇑nbd hi;let⟨pl,l,a⟩:=q;have e1:Yv B.most (B.held.take<|i+1)=Yv B.most (B.held.take i)++Yv B.most [(pl,(l,a))]:=by
   unfold Yv;rw[ZC hq,List.filterMap_append]
  refine' fS (λhc=>?_) (λhc=>?_)
  .refine' ZM (k:=.int pl) h1 ⟨rfl,?_⟩ ?_
   .rw[Xf];have h5:=BJ B.most<|B.held.take i;have h6:(B.held.take i).length<=B.held.length:=Ϧ _ _;exact Ë (Õ h5 h6) (π hl<|by decide)
   fail;rw[show Val.tup [l.v,.int<|a+1]=hdV (l,a+1) from rfl,ZA];refine hK _ _ ⟨_,_,rfl,?_,?_,?_⟩
   .rw[eS,e1,YJ]
    .unfold Yv;rw[Ĕ,gw hc];rfl
    .exact λm=>YU nd hq<|(Jq _ _).subset m
   .rw[eR npd];exact h2
   .exact⟨λm e=>by rw[eR<|Zc e hp];exact h3.get m e⟩
  .refine' hK _ _ ⟨_,_,rfl,?_,h2,h3⟩;rw[h1,e1];unfold Yv;rw[Ĕ,gx hc];simp
 .rintro e g ⟨u,v,rfl,h1,h2,h3⟩;have hi1:=h3.get ⇑nbd hi;rw[HF,Ē]at h1;refine⟨h2,?_⟩;refine' k p _ hp ⟨eS,?_,?_,npt⟩ ?_
  .rw[eR x.nbt.symm,eR ű];exact h3.get ⇑ű ht
  .rw[eR npb.symm,eR npd.symm];exact h1
  .refine⟨λ{c o} m e=>?_⟩;rw[eR<|by simpa using m];by_cases bp:c=d
   .subst bp;rw[eS,<-e];exact hd.symm
   .rw[eR bp];exact h3.get ⇑bp e
def FK(x:α)(xs:List α):atI (x::xs) 0=eM x:=by unfold atI ixN;rw[gw (by decide),gw<|by simp];rfl
abbrev Wg(r:List Int):Val:=.tup<|r.map .int
def Ca(ĕ:List<|List Int):rowsOf (ĕ.map Wg)=eM ĕ:=by
 induction ĕ with
 |nil=>rfl
 |cons r rs ih =>show(eY<|r.map .int).bind (λns=>(rowsOf<|rs.map Wg).map (ns :: ·))=_;rw[Wj,ih];rfl
abbrev Yb(number:Int)(ĕ:List<|List Int):Option<|List Int:=match ĕ.filter (λr=>gC (r.headD 0<number))with
 |[]=>eN
 |x::r=>eM<|minR x r
abbrev F1:Option (List Int)->Val
 |none=>.non
 |some r=>Wg r
def Jp:∀(r:List<|List Int) (x:List Int),minR x r∈x::r
 |[],x=>æ
 |y::r,x=>by
  show minR (if fG y x then y else x) r∈x::y::r;have h:=Jp r (if fG y x then y else x);rcases Æ.mp h with e|h
  .rw[e];split
   .simp
   .simp
  .simp[h]
variable {number:Int} {ĕ:List (List Int)} {m:List Int}
def J6(h:Yb number ĕ=eM m):m∈ĕ:=by
 unfold Yb at h;split at h
 .cases h
 .rename_i x r e;cases h;have:minR x r∈ĕ.filter (λr=>gC (r.headD 0<number)):=by rw[e];exact Jp r x
  exact(ó.mp this).1
variable {l:Ad}
def Gz(hl:h l=eM (.lst<|ĕ.map Wg))(h0:∀r∈ĕ,r≠[])(hn:ĕ.length<1000)(k:∀g,Ext h g->Q (F1<|Yb number ĕ) g):wF P (n+1) "best_offer" [.int number,.ref l] h Q X:=by
 refine MH ?_;refine' ⟨by rw[À];exact π hn (by decide),?_⟩;refine Xx (λv=>match v with|.tup (.int i::xs)=>if i<number then eM v else eN|_=>eN) (lsE hl) ?_ ?_
 .intro v hv K hK;let⟨r,hr,rfl⟩:=Ô.mp hv;cases r with
  |nil=>exact gB rfl<|h0 _ hr
  |cons i xs =>
   have hK:K (if i<number then eM (Wg<|i::xs)else eN) h:=hK;rw[show Wg (i::xs)=.tup (.int i::xs.map .int) from rfl]at hK ⊢
   exists eX (FK _ _)
   refine' fS (λhc=>?_) (λhc=>?_)
   .rw[gw hc]at hK;refine' hK
   .rw[gx hc]at hK;exact hK
 .refine Xm λp hp=>?_;fail;have e1:(ĕ.map Wg).filterMap (λv=>match v with|.tup (.int i::xs)=>if i<number then eM v else eN|_=>eN)=(ĕ.filter λr=>gC (r.headD 0<number)).map Wg:=by
   clear hl k hn;induction ĕ with
   |nil=>rfl
   |cons r rs ih =>
    have ih:=ih λr hr=>h0 r<|Ú _ hr;cases r with
    |nil=>exact gB rfl<|h0 _ æ
    |cons i xs =>
     rw[Î,Ĕ,đ];by_cases hc:i<number
     .simp only[Wg,Î,gw hc,List.headD_cons,hc,decide_true,if_true]at ih ⊢;rw[ih]
     .simp only[Wg,Î,gx hc,List.headD_cons,hc,decide_false,Ĭ,if_false]at ih ⊢;rw[ih]
  rw[e1];have hx:Ext h<|upd h p<|.lst<|(ĕ.filter λr=>gC (r.headD 0<number)).map Wg:=Ext.new hp;cases e2:ĕ.filter λr=>gC (r.headD 0<number)with
  |nil =>rw[e2]at hx;refine Pp eS ?_;have:=k _ hx;unfold Yb at this;rw[e2]at this;exact this
  |cons x r =>rw[e2]at hx;refine FY eS (Ca<|x::r) ?_;have:=k _ hx;unfold Yb at this;rw[e2]at this;exact this
abbrev Xc(ties:List<|Int×(Int×Int))(p:Int):Int×Int:=(ties.lookup p).getD (0,0)
abbrev M8(ties:List<|Int×(Int×Int))(q:Int×(L×Int)):List Int:=[q.2.1.root,q.2.1.cost+(Xc ties q.1).2,(Xc ties q.1).1,q.1]
abbrev KJ(ties:List<|Int×(Int×Int))(held:List<|Int×(L×Int)):List<|List Int:=held.map<|M8 ties
abbrev M9(held:List<|Int×(L×Int))(p:Int):Pi:=((held.lookup p).map (·.1.st)).getD (0,0)
abbrev reck(B:Br):Lab:=match Yb B.number (KJ B.ties B.held)with
 |none=>⟨B.number,0,eN⟩
 |some m=>⟨m.getD 0 0,m.getD 1 0,eM (m.getD 3 0,M9 B.held<|m.getD 3 0)⟩
def Ul{ties:List (Int×(Int×Int))}{p:Int}(h:(ties.lookup p).isSome=eP):ties.lookup p=eM (Xc ties p):=by
 unfold Xc;cases e:ties.lookup p with
 |none=>rw[e]at h;cases h
 |some v=>rfl
def AX(x:fc h b t d B)(sub:∀q∈B.held,(B.ties.lookup q.1).isSome=eP)(hn:B.held.length<1000)(k:∀g,Ext h g->Q (reck B).v g):wF P (n+2) "Bridge.reckon_label" [.ref b] h Q X:=by
 let⟨hi,ht,hd,ű⟩:=id x;refine YW ?_;refine' Xm λp hp=>?_;have npd:=Zc hd hp;have npb:=Zc hi hp;have npt:=Zc ht hp;have nbd:=x.nbd;refine' Zo (λi e g=>Sm4 λu v w z=>Cj4 (e=[eM<|.ref b,eM<|.ref p,u,v,w,z,eN,eN]) (g p=eM (.lst<|(KJ B.ties<|B.held.take i).map Wg)) (g d=eM (.frz<|Zb hdV B.held))<|Ex [d] h g) ⟨eN,eN,eN,eN,rfl,by rw[eR npd.symm];exact eS,eS,?_⟩ ?_ ?_ ?_
 .exact⟨λm e=>by rw[eR λz=>m<|by simp[z],eR<|Zc e hp];exact e⟩
 .rintro i e g hi2 ⟨u,v,w,z,rfl,h1,h2,h3⟩;exact h2
 .rintro i v e g hv ⟨u,v,w,z,rfl,h1,h2,h3⟩ K hK;let⟨q,hq,rfl⟩:=OF hv;have hi1:=h3.get ⇑nbd hi;have ht1:=h3.get ⇑ű ht;have hs:=Ul<|sub q<|ô hq;let⟨pl,l,a⟩:=q;generalize htt:Xc B.ties pl=tt at hs;let⟨nb,c⟩:=tt;refine' Zz ht1 rfl (by rw[ZE,hs];rfl) ?_;refine' Yn h1 ?_ ?_
  .rw[À];unfold KJ;rw[À];exact Ë (Ϧ _ _) (π hn<|by decide)
  dsimp only;refine' hK _ _ ⟨_,_,_,_,rfl,?_,?_,?_⟩
  .rw[eS,ZC hq];unfold KJ M8;rw[Û,Û,Î,htt];rfl
  .rw[eR npd];exact h2
  .exact⟨λm e=>by rw[eR<|Zc e hp];exact h3.get m e⟩
 .rintro e g ⟨u,v,w,z,rfl,h1,h2,h3⟩;have hi1:=h3.get ⇑nbd hi;have hi2:upd g d (.dct<|Zb hdV B.held) b=_:=upd_ne' nbd hi1;rw[HF,Ē]at h1;have h1':upd g d (.dct<|Zb hdV B.held) p=_:=upd_ne' npd.symm h1;have hx:Ext h<|upd g d<|.dct<|Zb hdV B.held:=⟨λ{c o} e=>by
    by_cases bp:c=d
    . subst bp;rw[eS,<-e];exact hd.symm
    . rw[eR bp];exact h3.get ⇑bp e⟩
  have bT:upd g d (.dct<|Zb hdV B.held) d=_:=eS;refine⟨h2,?_⟩;generalize upd g d (.dct<|Zb hdV B.held)=g2 at hi2 h1' hx bT ⊢;refine' Gz h1' ?_ ?_ λg3 h3=>?_
  .intro r hr;unfold KJ at hr;let⟨q,_,rfl⟩:=Ô.mp hr;unfold M8;simp
  .unfold KJ;rw[À];exact hn
  have hi3:=h3.get hi2;have hd3:=h3.get bT;have kk:=k g3<|hx.trans h3;unfold reck at kk;fail;cases e:Yb B.number (KJ B.ties B.held)with
  |none =>rw[e]at kk;simp only[F1];refine fS (λhc=>?_) λhc=>gB trivial hc;refine' kk
  |some m =>rw[e]at kk;have hm:=J6 e;unfold KJ at hm;let⟨q,hq,rfl⟩:=Ô.mp hm;refine fS (λhc=>(by simp[F1,Wg]at hc)) λhc=>?_;have hlk:∃y,B.held.lookup q.1=eM y:=ZW (ø (f:=(·.1)) hq);let⟨y,hy⟩:=hlk;unfold M8 at kk ⊢;simp only[F1,Wg,Î,ϕ];refine' Zz hd3 rfl (by rw[ZE,hy];rfl) ?_;fail;unfold M9 at kk;simp only[List.getD_cons_succ,List.getD_cons_zero]at kk;rw[hy]at kk;exact kk
abbrev GA(l:Lab):D:=.tup [.int l.root,.int l.cost,(match l.up with|none=>.non|some p=>.int p.1),(match l.up with|none=>.non|some p=>.tup [.int p.2.1,.int p.2.2])]
def UT(h:Hs)(l:Lab):dat h deep l.v=eM (GA l):=by let⟨r,c,u⟩:=l;cases u<;>rfl
def Ee(h:Hs)(l m:Lab):eqV h l.v m.v=eM (gC (l=m)):=by
 unfold eqV;rw[UT,UT];show eM (D.eqv (GA l)<|GA m)=_;congr 1;let⟨r,c,u⟩:=l;let⟨r',c',u'⟩:=m;unfold GA;cases u with
 |none=>cases u' with
  |none=>simp only[D.eqv,D.eqvs,ω];by_cases h1:r=r'<;>by_cases h2:c=c'<;>simp[h1,h2]
  |some q=>simp[D.eqv,D.eqvs]
 |some p=>cases u' with
  |none=>simp[D.eqv,D.eqvs]
  |some q =>let⟨p1,p2,p3⟩:=p;let⟨q1,q2,q3⟩:=q;simp only[D.eqv,D.eqvs,ω];by_cases h1:r=r'<;>by_cases h2:c=c'<;>by_cases h3:p1=q1<;>by_cases h4:p2=q2<;>by_cases h5:p3=q3<;>simp[h1,h2,h3,h4,h5]
abbrev taken(B:Br)(l:Lab):Br:=if l=B.label then B else {B with label:=l,version:=B.version+1}
variable {u:Val} {KB:Bool->Prop}
def K1{v:Val}{c:Bool}(e:eqV h v u=eM c)(q:KB (!c)):go (fj h .ne v u) KB:=eW (by show(eqV h v u).map _=_;rw[e];rfl) q
def WR{v:Val}{c:Bool}(e:eqV h v u=eM c)(q:KB c):go (fj h .eq v u) KB:=eW e q
def GT{l:Lab}(x:fc h b t d B)(k:∀g,fc g b t d (taken B l)->Ex [b] h g->Q .non g):wF P (n+1) "Bridge.take_label" [.ref b,l.v] h Q X:=by
 let⟨hi,ht,hd,ű⟩:=id x;refine XC ?_
 exists K1 (Ee h l B.label)
 fail;unfold taken at k;refine Gb (λhc=>?_) λhc=>?_
 .rw[gx hc]at k;refine' Yx eS (show(8:Nat)<900 by decide) ?_;refine' k _ ⟨?_,?_,?_,ű⟩ ?_
  .rw[eU,eS];rfl
  .rw[eR x.nbt.symm,eR x.nbt.symm];exact ht
  .rw[eR x.nbd.symm,eR x.nbd.symm];exact hd
  .exact(Ex.upd<|by simp).trans (Ex.upd<|by simp)
 .rw[gw hc]at k;refine' k h x Ex.refl
def SO(h:Hs)(r:Option Pi)(s:Pi):eqV h (oV r) (pV s)=eM (gC (r=eM s)):=by
 let⟨s1,s2⟩:=s;cases r with
 |none =>show eM (D.eqv .non<|.tup [.int s1,.int s2])=_;simp[D.eqv]
 |some p =>let⟨p1,p2⟩:=p;show eM (D.eqv (.tup [.int p1,.int p2])<|.tup [.int s1,.int s2])=_;congr 1;simp only[D.eqv,D.eqvs,ω];by_cases h1:p1=s1<;>by_cases h2:p2=s2<;>simp[h1,h2]
abbrev WK(B:Br)(p:Int):Bool:=match B.held.lookup p with
 |none=>eQ
 |some q=>gC (q.1.rests=eM (B.life,B.version))
def Bs{p:Int}(x:fc h b t d B)(k:Q (.bl<|WK B p) h):wF P (n+2) "Bridge.is_rested_on" [.ref b,.int p] h Q X:=by
 let⟨hi,ht,hd,ű⟩:=id x;refine Y3 ?_
 exists Af x
 unfold WK at k;fail;cases e:B.held.lookup p with
 |none =>rw[e]at k;refine Gb (λhc=>gB rfl hc) λhc=>?_;exact k
 |some q =>
  rw[e]at k;let⟨l,a⟩:=q;refine Gb (λhc=>?_) (λhc=>by simp[hdO]at hc);simp only[hdO]
  exists Wc x
  refine WR (SO h _ _) ?_;exact k
abbrev Oo(u:Option<|Int×Pi)(p:Int):Bool:=match u with
 |none=>eQ
 |some q=>gC (p=q.1)
abbrev Z8(B:Br):Int:=match B.label.up with
 |none=>0
 |some q=>((B.held.lookup q.1).map (·.2)).getD 0+1
abbrev Zg(B:Br)(p:Int):L where
 num:=(B.life,B.count)
 st:=(B.life,B.version)
 root:=B.label.root
 cost:=B.label.cost
 age:=Z8 B
 rests:=if Oo B.label.up p then B.label.up.map (·.2)else eN
 agrees:=if Oo B.label.up p then eN else if WK B p then eM (M9 B.held p)else eN
def EG(h:Hs)(p:Int)(u:Option<|Int×Pi):eqV h (.int p) (upV u)=eM (Oo u p):=by
 cases u with
 |none=>rfl
 |some q =>show eM (D.eqv (.int p)<|.int q.1)=_;rw[UW];rfl
def GF{p:Int}(x:fc h b t d B)(hu:∀q,B.label.up=eM q->(B.held.lookup q.1).isSome=eP)(k:Q (Zg B p).v h):wF P (n+3) "Bridge.letter_over" [.ref b,.int p] h Q X:=by
 let⟨hi,ht,hd,ű⟩:=id x;refine Xo ?_;fail;have aD:wSs (wF P<|n+2) #[.ite (.val<|.cmp .eq (.var 1)<|.var 4) #[.ret<|.bin .add (.var 7)<|.tup #[.var 5,.cst .non]] .nil,.ite (.val<|.meth "Bridge" "is_rested_on" (.var 0) #[.var 1]) #[.ret<|.bin .add (.var 7)<|.tup #[.cst .non,.idx (.idx (.idx (.fld (.var 0) "held_by_place")<|.var 1)<|.cst<|.int 0)<|.glob "STAMP"<|.int 1]] .nil,.ret<|.bin .add (.var 7)<|.tup #[.cst .non,.cst .non]]
   [eM<|.ref b,eM<|.int p,eM<|.int B.label.root,eM<|.int B.label.cost,eM<|upV B.label.up,eM<|rsV B.label.up,eM<|.int<|Z8 B,eM<|.tup [pV (B.life,B.count),pV (B.life,B.version),.int B.label.root,.int B.label.cost,.int<|Z8 B]] h (λ_ g=>Q .non g) Q (λ_ _=>False) (λ_ _=>False) λ_ c g=>X c g:=by
  exists WR (EG h p B.label.up)
  refine' fT (λhc=>?_) (λhc=>?_)
  .fail;unfold Zg at k;rw[hc]at k;cases e:B.label.up with
   |none=>rw[e]at hc;cases hc
   |some q=>rw[e]at k;exact k
  .exists Bs x
   fail;unfold Zg at k;rw[hc]at k;refine fT (λhr=>?_) λhr=>?_
   .rw[hr]at k;unfold WK at hr;cases e:B.held.lookup p with
    |none=>rw[e]at hr;cases hr
    |some q =>let⟨l,a⟩:=q;refine' Zz hd rfl (by rw[ZE,e];rfl) ?_;fail;unfold M9 at k;rw[e]at k;exact k
   .rw[hr]at k;refine' k
 cases e:B.label.up with
 |none =>
  have ea:Z8 B=0:=by unfold Z8;rw[e]
  rw[e,ea]at aD;refine fS (λhc=>?_) λhc=>gB rfl hc
  exists Wc x
  walk_at "w"
  repeat (first|exact aD|(walk_at "py1";walk_at "w"))
 |some q =>
  let⟨y,hy⟩:=ë.mp<|hu q e;have ea:Z8 B=y.2+1:=by unfold Z8;rw[e];dsimp only;rw[hy];rfl
  rw[e,ea]at aD;refine fS (λhc=>by cases hc) λhc=>?_;simp only[upV];refine' Zz hd rfl (by rw[ZE,hy];rfl) ?_
  exists Wc x
  walk_at "w"
  repeat (first|exact aD|(walk_at "py1";walk_at "w"))
def Ht{q:Int×Pi}(hq:(reck B).up=eM q):(B.held.lookup q.1).isSome=eP:=by
 unfold reck at hq;split at hq
 .cases hq
 .rename_i m e;have hm:=J6 e;unfold KJ at hm;let⟨y,hy,rfl⟩:=Ô.mp hm;cases hq;let⟨v,hv⟩:=ZW (ø (f:=(·.1)) hy);show(B.held.lookup y.1).isSome=eP;rw[hv];rfl
abbrev Br.grown(B:Br):Br:={B with held:=Yv B.most B.held}
abbrev Br.told(B:Br):Br:=taken B.grown<|reck B.grown
abbrev Br.ticked(B:Br):Br:={B.told with count:=B.count+1}
abbrev Z1(B:Br):List Val:=(sortI (B.ties.map (·.1))).map λp=>.tup [.int p,(Zg B p).v]
def Zr(B:Br)(l:Lab):(taken B l).held=B.held/\(taken B l).ties=B.ties/\(taken B l).count=B.count/\(taken B l).label=l/\(taken B l).number=B.number/\(taken B l).life=B.life/\(taken B l).most=B.most:=by
 unfold taken;split
 .rename_i e;exact⟨rfl,rfl,rfl,e.symm,rfl,rfl,rfl⟩
 .exact⟨rfl,rfl,rfl,rfl,rfl,rfl,rfl⟩
structure Br.ok(B:Br):Prop where
 nd:(B.held.map (·.1)).Nodup
 sub:∀q∈B.held,(B.ties.lookup q.1).isSome=eP
 nt:(B.ties.map (·.1)).Nodup
 rg:∀q∈B.ties,0<=q.1/\q.1<16
def Br.ok.tlen(o:B.ok):B.ties.length<=16:=by
 have:=Ye (m:=16) o.nt λx hx=>by let⟨q,hq,rfl⟩:=Ô.mp hx;exact o.rg q hq
 simpa using this
def Br.ok.hlen(o:B.ok):B.held.length<=16:=by
 have:=Ye (m:=16) o.nd λx hx=>by let⟨q,hq,rfl⟩:=Ô.mp hx;let⟨v,hv⟩:=ë.mp<|o.sub q hq;exact o.rg _<|Zi hv
 simpa using this
def Br.ok.grown(o:B.ok):B.grown.ok where
 nd:=o.nd.sublist<|Jq _ _
 sub:=λq hq=>by let⟨a,ha⟩:=Bz hq;exact o.sub (q.1,(q.2.1,a)) ha
 nt:=o.nt
 rg:=o.rg
def Br.ok.told(o:B.ok):B.told.ok:=by
 let⟨h1,h2,_⟩:=Zr B.grown<|reck B.grown;have g:=o.grown;refine⟨?_,?_,?_,?_⟩
 .show((taken B.grown<|reck B.grown).held.map (·.1)).Nodup;rw[h1];exact g.nd
 .show ∀q∈(taken B.grown<|reck B.grown).held,((taken B.grown<|reck B.grown).ties.lookup q.1).isSome=eP;rw[h1,h2];exact g.sub
 .show((taken B.grown<|reck B.grown).ties.map (·.1)).Nodup;rw[h2];exact g.nt
 .show ∀q∈(taken B.grown<|reck B.grown).ties,_;rw[h2];exact g.rg
def Br.ok.ticked(o:B.ok):B.ticked.ok:=⟨o.told.nd,o.told.sub,o.told.nt,o.told.rg⟩
def F6(x:fc h b t d B)(o:B.ok)(k:∀p d' g,h p=eN->h d'=eN->fc g b t d' B.ticked->g p=eM (.lst<|Z1 B.told)->Ex [b] h g->p≠d'->Q (.ref p) g):wF P (n+4) "Bridge.tick" [.ref b] h Q X:=by
 let⟨hi,ht,hd,ű⟩:=id x;have hlen:=o.hlen;refine Kw ?_;refine' Fk x o.nd (by lia) λd' g hd' x1 e1=>?_;let⟨hi1,ht1,hd1,hne1⟩:=id x1;have og:=o.grown;have x1':fc g b t d' B.grown:=x1;refine' AX x1' og.sub (by have:=og.hlen;lia) λg2 e2=>?_;have x2:=x1'.ext e2;refine' GT x2 λg3 x3 e3=>?_;let⟨hi3,ht3,hd3,hne3⟩:=id x3;let⟨c1,c2,c3,c4,c5,c6,c7⟩:=Zr B.grown<|reck B.grown;have hties:B.told.ties=B.ties:=c2;refine' Uj ht3 (CS _) ?_ (Xm λp1 cp=>?_)
 .rw[À];have:=o.tlen;show B.told.ties.length<64;rw[hties];lia
 refine' ⟨?_,?_⟩
 .rw[À,sortI,ń,À];have:=o.tlen;show B.told.ties.length<lim;rw[hties];exact Ë this (by decide)
 have x4:=x3.ext (Ext.new (o:=.lst ((sortI ((taken B.grown<|reck B.grown).ties.map (·.1))).map Val.int)) cp);have up:∀q,(taken B.grown<|reck B.grown).label.up=eM q->((taken B.grown<|reck B.grown).held.lookup q.1).isSome=eP:=λq hq=>by rw[c4]at hq;rw[c1];exact Ht hq
 refine Xx (λv=>match v with|.int i=>eM (.tup [.int i,(Zg B.told i).v])|_=>eN) (lsE eS) ?_ ?_
 .intro v hv K hK;let⟨i,hi,rfl⟩:=Ô.mp hv;let⟨hi4,ht4,hd4,hne4⟩:=id x4;fail;rw[gw rfl];change wE _ _ [eM<|.int i,eM<|.ref b] _ _ _
  exists GF x4 up
  refine' hK
 .refine Xm λp hp=>?_;have x5:=x4.ext<|Ext.new (o:=.lst<|Z1 B.told) hp;have e0:((sortI ((taken B.grown<|reck B.grown).ties.map (·.1))).map Val.int).filterMap (λv=>match v with|.int i=>eM (.tup [.int i,(Zg B.told i).v])|_=>eN)=Z1 B.told:=by
   rw[Μ];unfold Z1;exact congrFun (List.filterMap_eq_map (f:=λi:Int=>Val.tup [.int i,(Zg B.told i).v])) _
  rw[e0];let⟨hi5,ht5,hd5,hne5⟩:=id x5;fail;have c3':(taken B.grown<|reck B.grown).count=B.count:=c3;rw[c3'];have eg:Ex [b] h (upd g3 p1 (.lst ((sortI ((taken B.grown<|reck B.grown).ties.map (·.1))).map Val.int))):=((e1.trans<|.of e2).trans e3).trans<|.of<|Ext.new cp;have hpn:h p=eN:=eg.none (by rw[x4.ins];intro z;cases z) hp;have npb:b≠p:=Zc x4.ins hp;refine k p d' _ hpn hd' ⟨eS,?_,?_,x5.ne⟩ ?_ ?_ (Zc x4.held hp).symm
  .rw[eR x5.nbt.symm];exact x5.ties
  .rw[eR x5.nbd.symm];exact x5.held
  .rw[eR npb.symm];exact eS
  .exact(eg.trans<|.of<|Ext.new hp).trans (Ex.upd<|by simp)
abbrev Kg(S:Br)(p:Int)(l:L):Bool:=match S.held.lookup p with
 |none=>eP
 |some q=>fG [q.1.num.1,q.1.num.2] [l.num.1,l.num.2]
abbrev Zy(S:Br)(p:Int)(l:L):Br:=if(S.ties.lookup p).isSome then(if Kg S p l then {S with held:=Za S.held p (l,l.age)} else S)else S
abbrev JZ(S:Br)(p:Int):Br:={S with ties:=Ze S.ties p,held:=Ze S.held p}
abbrev upB(S:Br)(p:Int)(c:Int×Int):Br:=if(S.ties.lookup p).isSome then S else {S with ties:=Za S.ties p c}
variable {q:Int}
def Cp{k:Int}{v:α}:(kvs.lookup q).isSome=eP->((Za kvs k v).lookup q).isSome=eP:=λh=>by
 let⟨x,hx⟩:=ë.mp h;have hm:q∈kvs.map (·.1):=ø (f:=(·.1))<|Zi hx;have:q∈(Za kvs k v).map (·.1):=by
  rw[Z6];split
  .exact hm
  .exact Þ _ hm
 let⟨y,hy⟩:=ZW this;rw[hy];rfl
def Br.ok.heard(o:S.ok){p:Int}{l:L}:(Zy S p l).ok:=by
 unfold Zy;split
 .rename_i h1;split
  .refine⟨WN o.nd _ _,λq hq=>?_,o.nt,o.rg⟩;rcases YQ hq with e|hq
   .rw[e];exact h1
   .exact o.sub q hq
  .exact o
 .exact o
def ZO{k:Int}{q:Int×α}(h:q∈Ze kvs k):q∈kvs:=(NS kvs k).subset h
def A1{k:Int}(h:(kvs.lookup q).isSome=eP)(n:q≠k):((Ze kvs k).lookup q).isSome=eP:=by
 let⟨x,hx⟩:=ë.mp h;have:q∈(Ze kvs k).map (·.1):=by refine Ô.mpr ⟨(q,x),?_,rfl⟩;unfold Ze;exact ó.mpr ⟨Zi hx,⇑n⟩
 let⟨y,hy⟩:=ZW this;rw[hy];rfl
def Br.ok.down(o:S.ok)(p:Int):(JZ S p).ok :=
 ⟨YL o.nd _,λq hq=>A1 (o.sub q<|ZO hq)<|FP hq,YL o.nt _,λq hq=>o.rg q<|ZO hq⟩
def Br.ok.up(o:S.ok){p:Int}{c:Int×Int}(h0:0<=p)(h1:p<16):(upB S p c).ok:=by
 unfold upB;split
 .exact o
 .refine⟨o.nd,λq hq=>Cp<|o.sub q hq,WN o.nt _ _,λq hq=>?_⟩;rcases YQ hq with e|hq
  .rw[e];exact⟨h0,h1⟩
  .exact o.rg q hq
def FE{p:Int}{l:L}(x:fc h b t d B)(o:B.ok)(k:∀g,fc g b t d (Zy B p l)->Ex [d] h g->Q .non g):wF P (n+2) "Bridge.hear" [.ref b,.int p,l.v] h Q X:=by
 let⟨hi,ht,hd,ű⟩:=id x;have hlen:=o.hlen;refine Kt ?_
 exists Jn ht rfl
 rw[YX];fail;unfold Zy at k;cases e:(B.ties.lookup p).isSome with
 |false =>rw[e]at k;refine fQ rfl ?_;refine' k h x Ex.refl
 |true =>
  rw[e,gw rfl]at k;refine fR rfl ?_
  exists Af x
  have put:(∀g,fc g b t d {B with held:=Za B.held p (l,l.age)}->Ex [d] h g->Q .non g)->go (fK h (.ref d) (.int p)<|.tup [l.v,.int l.age]) λg=>Q .non g:=λk=>by refine ZM hd ⟨rfl,by rw[Xf];exact Ë hlen<|by decide⟩ ?_;rw[show Val.tup [l.v,.int l.age]=hdV (l,l.age) from rfl,ZA];exact k _ ⟨by rw[eR x.nbd];exact hi,by rw[eR ű];exact ht,eS,ű⟩ (Ex.upd<|by simp)
  fail;cases e2:B.held.lookup p with
  |none =>
   have et:Kg B p l=eP:=by unfold Kg;rw[e2]
   rw[et,gw rfl]at k;refine fS (λhc=>?_) λhc=>gB rfl hc;refine fQ rfl ?_;refine' AI (put k) λg q=>by fail;exact q
  |some q =>
   let⟨m,ag⟩:=q;have et:Kg B p l=fG [m.num.1,m.num.2] [l.num.1,l.num.2]:=by unfold Kg;rw[e2]
   rw[et]at k;refine fS (λhc=>by simp[hdO]at hc) λhc=>?_;simp only[hdO]
   exists Gv
   exists IR (Wj [l.num.1,l.num.2]) (Wj [m.num.1,m.num.2])
   refine' fT (λhc=>?_) (λhc=>?_)
   .rw[gw hc]at k;refine' AI (put k) λg q=>by fail;exact q
   .rw[gx<|by rw[hc];decide]at k;refine' k h x Ex.refl
def Ft{p:Int}(x:fc h b t d B)(k:∀g,fc g b t d (JZ B p)->Ex [t,d] h g->Q .non g):wF P (n+1) "Bridge.down" [.ref b,.int p] h Q X:=by
 let⟨hi,ht,hd,ű⟩:=id x;refine KH ?_
 exists AA ht rfl
 dsimp only;rw[Xl];have hi2:upd h t (.dct<|Zb Bv<|Ze B.ties p) b=_:=upd_ne' x.nbt hi;have bT:upd h t (.dct<|Zb Bv<|Ze B.ties p) d=_:=upd_ne' ű.symm hd
 exists AA bT rfl
 dsimp only;rw[Xl];refine' k _ ⟨by rw[eR x.nbd];exact hi2,by rw[eR ű];exact eS,eS,ű⟩ ((Ex.upd<|by simp).trans<|Ex.upd<|by simp)
def QH{p nb:Int}(x:fc h b t d B)(o:B.ok)(k:∀g,fc g b t d (upB B p (nb,c))->Ex [t] h g->Q .non g):wF P (n+1) "Bridge.up" [.ref b,.int p,.int nb,.int c] h Q X:=by
 let⟨hi,ht,hd,ű⟩:=id x;have hlen:=o.tlen;refine NW ?_
 exists Jn ht rfl
 rw[YX];fail;unfold upB at k;cases e:(B.ties.lookup p).isSome with
 |true =>rw[e,gw rfl]at k;refine fR rfl ?_;refine' k h x Ex.refl
 |false =>rw[e,gx<|by decide]at k;refine fQ rfl ?_;refine' ZM ht ⟨rfl,by rw[Xf];exact Ë hlen<|by decide⟩ ?_;rw[show Val.tup [.int nb,.int c]=Bv (nb,c) from rfl,ZA];refine' k _ ⟨by rw[eR x.nbt];exact hi,eS,by rw[eR ű.symm];exact hd,ű⟩ (Ex.upd<|by simp)
def Zf(q:∀p g,h p=eN->Ext h g->g p=eM o->Q (.ref p) g):new h o Q:=Xm λp hp=>q p _ hp (Ext.new hp) eS
variable {r:Int}
def Z2(r0:0<=r)(e:xs[r.toNat]?=eM x):atI xs r=eM x:=by have:=(Ì.mp e).1;unfold atI ixN;rw[gw r0,gw<|by lia];exact e
def O9(r0:0<=r)(r1:r<xs.length):∃x,xs[r.toNat]?=eM x/\x∈xs:=by
 have h:r.toNat<xs.length:=by lia
 exact⟨xs[r.toNat],É h,Ğ h⟩
def J9(r0:0<=r)(r1:r<xs.length):∃x,atI xs r=eM x/\x∈xs:=by let⟨x,h1,h2⟩:=O9 r0 r1;exact⟨x,Z2 r0 h1,h2⟩
def Xa:∀ns:List Int,eY (ns.map .int)=eM ns
 |[]=>rfl
 |n::ns=>by rw[Î,eY,Xa ns];rfl
def XN:∀bs:List Bool,blsOf (bs.map .bl)=eM bs
 |[]=>rfl
 |b::bs=>by rw[Î,blsOf,XN bs];rfl
def KZ{x:Int}:∀{ns:List Int},x∈dedup ns↔x∈ns
 |[]=>by simp[dedup]
 |n::ns=>by rw[dedup,Æ,ó,KZ,Æ];by_cases h:x=n<;>simp[h]
def Oa:∀(ns:List Int),(dedup ns).length<=ns.length
 |[]=>by simp[dedup]
 |n::ns=>by have:=Oa ns;have:=ł (λy=>y != n)<|dedup ns;rw[dedup,Ò,Ò];lia
def XA{v:Val}{m:Int}(h:(fA 0 m)[i]?=eM v):v=.int i/\(i:Int)<m:=by unfold fA at h;rw[Ø]at h;let⟨k,hk,rfl⟩:=Ä.mp h;let⟨Ϡ,rfl⟩:=Ì.mp hk;rw[ĥ]at Ϡ;rw[List.getElem_range];exact⟨by rw[Int.zero_add],by lia⟩
def Wr{m:Int}:(fA 0 m).length=m.toNat:=by unfold fA;rw[À,ĥ,cF]
abbrev Brs(ns:List Int):Prop:=∀i∈ns,0<=i/\i<1000
noncomputable abbrev Tie:=Int×Int×Int
abbrev trV(t:Tie):Val:=.tup [.int t.1,.int t.2.1,.int t.2.2]
abbrev LOk(ns:List Int)(t:Tie):Prop:=t.1∈ns/\t.2.1∈ns/\t.1<t.2.1/\1<=t.2.2/\t.2.2<=1000
structure fm(bs:List Int)(ts:List Tie):Prop where
 one:1<=bs.length
 ten:bs.length<=10
 rng:Brs bs
 up:bs.Pairwise (· < ·)
 sixteen:ts.length<=16
 tie:∀t∈ts,LOk bs t
abbrev ZN(bs:List Int)(ts:List Tie):Val:=.tup [.tup<|bs.map .int,.tup<|ts.map trV]
variable {ns:List Int}
def mem_sort{i:Int}:i∈sortI ns↔i∈ns:=(Ζ ns _).mem_iff
def Nm(nd:ns.Nodup):(sortI ns).Pairwise (· < ·):=by have p:=Ζ ns λa b=>gC (a<=b);have s:(sortI ns).Pairwise λa b=>gC (a<=b)=eP:=bY (λa b c h1 h2=>by simp at *;lia) (λa b=>by simp;lia) ns;have d:(sortI ns).Nodup:=p.nodup_iff.mpr nd;exact(s.and d).imp λ⟨h1,h2⟩=>by simp at h1;lia
def RY(e:h a=eM (.lst<|ns.map .int))(m:ns.length<64)(q:new h (.lst<|(sortI<|dedup ns).map .int) Q):(biV h .sortedSet [.ref a]).wp h Q:=wp_new (by show biSortedSet h (.ref a)=_;unfold biSortedSet sortOf;simp only[e,ff,ú,Xa];rw[gw m]) q
def NF:∀ns:List Int,(dedup ns).Nodup
 |[]=>ė
 |n::ns=>by rw[dedup,ü];refine⟨λz=>?_,(NF ns).sublist ħ⟩;have:=(ó.mp z).2;simp at this
def Rw(ns:List Int):(sortI<|dedup ns).Pairwise (· < ·):=Nm (NF ns)
def Ir(ns:List Int):(sortI<|dedup ns).length<=ns.length:=by rw[sortI,ń];exact Oa ns
def IY(h:1<=ns.length):1<=(sortI<|dedup ns).length:=by
 rw[sortI,ń];cases ns with
 |nil=>exact gB h (by decide)
 |cons n ns=>rw[dedup,Ò];lia
def sd_mem{i:Int}:i∈sortI (dedup ns)↔i∈ns:=by rw[mem_sort,KZ]
def Y4(ns:List Int)(lo hi:Option Int):cut (ns.map Val.int) lo hi=(cut ns lo hi).map Val.int:=by unfold cut;rw[À,bO,List.map_drop]
def Ev{a b:Int}(h0:0<=a)(h1:a<=b):cut xs (eM a) (eM b)=(xs.drop a.toNat).take (b.toNat - a.toNat):=by
 unfold cut fE;dsimp only;rw[gw h0,gw<|by lia];by_cases h:a.toNat<=xs.length
 .rw[ź h];by_cases h2:b.toNat<=xs.length
  .rw[ź h2]
  .rw[Nat.min_eq_right<|by lia];rw[ϙ (by rw[Ľ];lia),ϙ<|by rw[Ľ];lia]
 .rw[ş (by lia:xs.length<=min a.toNat xs.length),ş (by lia:xs.length<=a.toNat)];simp
def Xr{st:Hs->Prop}{step:Val->Hs->(Option Val->Hs->Prop)->XQ->Prop}{Q:List Val->Hs->Prop}{f:α->Val}{l:List α}(p:α->Bool)(v:α->Val)(Δ:st h)(go:∀x∈l,∀K,(p x=eP->K (eM<|v x) h)->(p x=eQ->K eN h)->step (f x) h K X)(fin:Q ((l.filter p).map v) h):wComp st step (l.map f) [] h Q X:=by
 refine Oj (λi ys g=>g=h/\ys=((l.take i).filter p).map v) ⟨rfl,rfl⟩ (λ_ _ _ _ z=>z.1▸Δ) ?_ ?_
 .rintro i u ys g hv ⟨rfl,rfl⟩ K hK;let⟨x,hx,rfl⟩:=Yy hv;rw[ZC hx,ae,đ,aW]at hK;exact go x (ô hx) K (λe=>hK _ _ ⟨rfl,by rw[e,gw rfl,Û];rfl⟩) λe=>hK _ _ ⟨rfl,by rw[e,gx (by decide),ď,Option.toList_none,ď]⟩
 .rintro ys g ⟨rfl,rfl⟩;rw[À,Ē];exact fin
def XX{st:Hs->Prop}{step:Val->Hs->(Option Val->Hs->Prop)->XQ->Prop}{Q:List Val->Hs->Prop}{f:α->Val}{l:List α}(v:α->Val)(Δ:st h)(go:∀x∈l,∀K,K (eM<|v x) h->step (f x) h K X)(fin:Q (l.map v) h):wComp st step (l.map f) [] h Q X:=Xr (λ_=>eP) v Δ (λx hx K h1 _=>go x hx K<|h1 rfl) (by rw[dm.mpr λ_ _=>rfl];exact fin)
def Hw(m:Nat):fA 0 (m:Int)=(List.range m).map λi:Nat=>.int i:=by unfold fA;rw[cF,Ö];exact Ċ λi _=>by rw[Int.zero_add]
def Ol{h:Hs}{d:Nat}:∀ns:List Int,(ns.map Val.int).mapM (dat h d)=eM (ns.map D.int)
 |[]=>rfl
 |n::ns=>by rw[Î,μ,Ol ns,Î];cases d<;>rfl
def Aq{i:Int}:∀ns:List Int,((ns.map D.int).any λe=>D.eqv e<|.int i)=gC (i∈ns)
 |[]=>by simp
 |n::ns=>by
  rw[Î,ı,Aq ns,UW];by_cases h:n=i
  .simp[h]
  .simp[h,Ne.symm h]
def Nb{i:Int}:inL h (.int i) (ns.map .int)=eM (gC (i∈ns)):=by unfold inL;rw[Ol];exact congrArg eM (Aq ns)
def Xu(x:Ext h g)(e:h p=eN):Ext h<|upd g p o:=⟨λ{a u} z=>by rw[eR<|Zc z e];exact x.get z⟩
abbrev far(t:Tie)(b:Int):Int:=if t.1=b then t.2.1 else t.1
abbrev gh(b:Int):Nat->List Tie->List Tie
 |_,[]=>[]
 |k,t::r=>if b=t.1\/b=t.2.1 then((k:Int),far t b,t.2.2)::gh b (k+1) r else gh b (k+1) r
def J5{b:Int}{t:Tie}:∀{l:List Tie}{k:Nat},gh b k (l++[t])=gh b k l++(if b=t.1\/b=t.2.1 then [(((k+l.length:Nat):Int),far t b,t.2.2)]else [])
 |[],k=>by show gh b k [t]=_;unfold gh;split<;>rfl
 |u::l,k=>by
  rw[aF,gh,gh,J5,Ò,show k+1+l.length=k+(l.length+1) by lia];by_cases h:b=u.1\/b=u.2.1
  .rw[gw h,gw h,aF]
  .rw[gx h,gx h]
def Np:∀{xs:List Val}{k i:Nat}{v:Val},(enumL k xs)[i]?=eM v->∃x,xs[i]?=eM x/\v=.tup [.int ((k+i:Nat):Int),x]
 |[],_,_,_,e=>by simp[enumL]at e
 |x::xs,k,0,v,e=>by have e:eM (Val.tup [.int k,x])=eM v:=e;cases e;exact⟨x,rfl,rfl⟩
 |x::xs,k,i+1,v,e=>by let⟨y,h1,h2⟩:=Np (xs:=xs) (k:=k+1) (i:=i) (v:=v) (by simpa[enumL]using e);exact⟨y,⇑h1,by rw[h2,show k+1+i=k+(i+1) by lia]⟩
def J0:∀(xs:List Val) (k:Nat),(enumL k xs).length=xs.length
 |[],_=>rfl
 |_::xs,k=>by simp[enumL,J0 xs<|k+1]
def Ip{i:Int}(q:KB<|gC (i∈ns)):go (fj h .isin (.int i)<|.tup<|ns.map .int) KB:=eW (by show inV h (.int i) (.tup _)=_;unfold inV;exact Nb) q
section
variable {bs:List Int}{ts:List Tie}
def EY{t:Tie}{b:Int}(k:Q (.int<|far t b) h):wF P (n+1) "far_end" [trV t,.int b] h Q X:=by
 let⟨x,y,c⟩:=t;unfold trV;unfold far at k;dsimp only at k ⊢;refine Bg ?_;fail;by_cases e:x=b
 .refine fQ (gz e) ?_;rw[gw e]at k;refine' k
 .refine fR (gy e) ?_;rw[gx e]at k;refine' k
def XI{b:Int}(l:ts.length<=16)(k:∀p g,h p=eN->Ext h g->g p=eM (.lst<|(gh b 0 ts).map trV)->Q (.ref p) g):wF P (n+2) "neighbours" [ZN bs ts,.int b] h Q X:=by
 unfold ZN;refine Nf ?_;refine' Zf λp g0 hp x0 e0=>?_
 exists eW rfl
 have nl:∀l:List Tie,∀k,(gh b k l).length<=l.length:=by
  intro l;induction l with
  |nil=>intro k;exact Ó _
  |cons t l ih =>intro k;have:=ih<|k+1;unfold gh;split<;>simp only[Ò]<;>lia
 refine Zo (λi en g=>Sm2 λv3 v4=>Cj3 (en=[eM<|.tup [.tup<|bs.map .int,.tup<|ts.map trV],eM<|.int b,eM<|.ref p,v3,v4]) (Ext h g)<|g p=eM (.lst<|(gh b 0<|ts.take i).map trV)) ⟨_,_,rfl,x0,e0⟩ (λ_ _ _ _ _=>trivial) ?_ ?_
 .rintro i v en g hv ⟨v3,v4,rfl,x,ep⟩ K hK;let⟨y,hy,rfl⟩:=Np hv;rw[Ø]at hy;let⟨t,ht,rfl⟩:=Ä.mp hy;have hi:i<ts.length:=(Ì.mp ht).1;have hn:gh b 0 (ts.take<|i+1)=gh b 0 (ts.take i)++(if b=t.1\/b=t.2.1 then [((i:Int),far t b,t.2.2)]else []):=by
   rw[ν,ht];have:=J5 (b:=b) (t:=t) (l:=ts.take i) (k:=0);rw[ÿ,ź (by lia),š]at this;exact this
  rw[š];have et:trV t=.tup [.int t.1,.int t.2.1,.int t.2.2]:=rfl;fail;rw[et];refine fP (by simp[fE]) ?_;refine Ip (ns:=[t.1,t.2.1]) ?_;refine' fS (λhc=>?_) (λhc=>?_)
  .exists EY (t:=t)
   fail;have hl:=nl (ts.take i) 0;rw[ÿ]at hl;refine Yn ep (by rw[À,lim];lia) ?_;refine' hK _ _ ⟨_,_,rfl,?_,?_⟩
   .exact Xu x hp
   .have hc:b=t.1\/b=t.2.1:=⇑hc
    rw[hn,gw hc,Û];exact eS
  .refine' hK _ _ ⟨_,_,rfl,x,?_⟩;have hc:¬ (b=t.1\/b=t.2.1):=⇑hc
   rw[hn,gx hc,ď];exact ep
 .rintro en g ⟨v3,v4,rfl,x,ep⟩;rw[J0,À,Ē]at ep;refine' k p g hp x ep
end
abbrev XG(rs:List Tie):List<|Int×(Int×Int):=rs.map λr=>(r.1,r.2)
def Nu(rs:List Tie):(XG rs).map (·.1)=rs.map (·.1):=by unfold XG;rw[í];rfl
abbrev Zv(own life most:Int)(rs:List Tie):Br:=⟨own,life,most,XG rs,[],⟨own,0,eN⟩,0,0⟩
variable {own:Int} {life:Int}
def AC{rs:List Tie}(hb:h b=eM (.ins "Bridge" []))(hl:h l=eM (.lst<|rs.map trV))(nd:(rs.map (·.1)).Nodup)(h16:rs.length<=16)
  (k:∀t d g,h t=eN->h d=eN->fc g b t d (Zv own life most rs)->Ex [b] h g->Q .non g):wF P (n+1) "Bridge.__init__" [.ref b,.int own,.int life,.ref l,.int most] h Q X:=by
 have nlb:b≠l:=Dl hb hl nofun;refine Ky ?_;refine' Yx eS (show(1:Nat)<900 by decide) ?_;refine' Yx eS (show(2:Nat)<900 by decide) ?_;fail;intro t ht;rw[eU,eU]at ht ⊢;have ntb:b≠t:=Zc eS ht;have nht:h t=eN:=by rw[eR ntb.symm]at ht;exact ht
 have ntl:l≠t:=Zc hl nht;refine' Yx (upd_ne' ntb eS) (show(3:Nat)<900 by decide) ?_;fail;have dR:∀{o1 o2 o3:Ob},upd (upd (upd h b o1) t o2) b o3 l=eM (.lst<|rs.map trV):=λ{_ _ _}=>by rw[eR nlb.symm,eR ntl,eR nlb.symm];exact hl
 refine Zo (λi e g=>Sm3 λu v w=>Cj4 (e=[eM<|.ref b,eM<|.int own,eM<|.int life,eM<|.ref l,eM<|.int most,u,v,w]) (g b=eM (.ins "Bridge" [("number",.int own),("life",.int life),("age_let_go",.int most),("ties_by_place",.ref t)])) (g t=eM (.dct<|Zb Bv<|XG<|rs.take i))<|Ex [b] h g) ⟨eN,eN,eN,rfl,eS,by rw[eR ntb.symm];exact eS,?_⟩ ?_ ?_ ?_
 .refine⟨λ{a o} na e=>?_⟩;have nab:a≠b:=⇑na
  rw[eR nab,eR<|Zc e nht,eR nab];exact e
 .rintro i e g _ ⟨u,v,w,rfl,h1,h2,h3⟩;exact lsE (h3.get (by simpa using nlb.symm) hl)
 .rintro i v e g hv ⟨u,v,w,rfl,h1,h2,h3⟩ K hK;let⟨r,hp,rfl⟩:=Yy hv;have nk:=YU nd hp;let⟨p,nb,c⟩:=r;unfold trV;refine' ZM (k:=.int p) h2 ⟨rfl,?_⟩ ?_
  .rw[Xf];unfold XG;rw[À];exact Ë (Õ (Ϧ _ _) h16) (by decide)
  rw[show Val.tup [.int nb,.int c]=Bv (nb,c) from rfl,ZA];refine' hK _ _ ⟨_,_,_,rfl,by rw[eR ntb];exact h1,?_,?_⟩
  .rw[eS,YJ,ZC hp]
   .unfold XG;rw[Û];rfl
   .rw[Nu];exact nk
  .exact⟨λna e=>by rw[eR<|Zc e nht];exact h3.get na e⟩
 .rintro e g ⟨u,v,w,rfl,h1,h2,h3⟩;rw[À,Ē]at h2;fail;intro d hd;have ndb:b≠d:=Zc h1 hd;have ndt:t≠d:=Zc h2 hd;have nhd:h d=eN:=h3.none (by rw[h1];intro z;cases z) hd;refine' Yx eS (show(5:Nat)<900 by decide) ?_;refine' Yx eS (show(6:Nat)<900 by decide) ?_;refine' Yx eS (show(7:Nat)<900 by decide) ?_;fail;rw[eU,eU,eU];refine k t d _ nht nhd ⟨eS,?_,?_,ndt⟩ ?_
  .rw[eR ntb.symm,eR ndt];exact h2
  .rw[eR ndb.symm];exact eS
  .exact(h3.trans<|.of<|Ext.new hd).trans (Ex.upd<|by simp)
def WG{b:Int}:∀{l:List Tie}{k:Nat},((gh b k l).map (·.1)).Pairwise (· < ·)/\∀r∈gh b k l,(k:Int)<=r.1/\r.1<(k+l.length:Nat)
 |[],k=>⟨by simp[gh],λr hr=>gB hr<|by simp[gh]⟩
 |t::l,k=>by
  let⟨h1,h2⟩:=WG (b:=b) (l:=l) (k:=k+1);unfold gh;split
  .refine⟨?_,λr hr=>?_⟩
   .rw[Î,aa];refine⟨λx hx=>?_,h1⟩;let⟨r,hr,rfl⟩:=Ô.mp hx;have:=(h2 r hr).1;show(k:Int)<r.1;lia
   .rcases Æ.mp hr with rfl|hr
    .exact⟨ĵ _,by show(k:Int)<((k+(t::l).length:Nat):Int);rw[Ò];lia⟩
    .have:=h2 r hr;rw[Ò];lia
  .refine⟨h1,λr hr=>?_⟩;have:=h2 r hr;rw[Ò];lia
def Wh{b:Int}:∀{l:List Tie}{k:Nat},(gh b k l).length<=l.length
 |[],k=>Ó _
 |t::l,k=>by have:=Wh (b:=b) (l:=l) (k:=k+1);unfold gh;split<;>simp only[Ò]<;>lia
structure En where
 num:Int
 b:Ad
 t:Ad
 d:Ad
 B:Br
structure Yd where
 y:Ad
 lv:Ad
 st:Ad
 fl:Ad
 rd:Ad
 bs:List Int
 ts:List Tie
 most:Int
 lives:List<|Int×Int
 es:List En
 fallen:List<|Int×Bool
 road:List<|Int×Int×Int×L
abbrev enA(es:List En):List Ad:=es.flatMap λe=>[e.b,e.t,e.d]
abbrev Yd.adr(Y:Yd):List Ad:=[Y.y,Y.lv,Y.st,Y.fl,Y.rd]++enA Y.es
noncomputable abbrev rfV(a:Ad):Val:=.ref a
noncomputable abbrev rdV(r:Int×Int×Int×L):Val:=.tup [.int r.1,.int r.2.1,.int r.2.2.1,r.2.2.2.v]
abbrev stands(es:List En):List<|Int×Ad:=es.map λe=>(e.num,e.b)
def ZL(es:List En):(stands es).map (·.1)=es.map (·.num):=by unfold stands;rw[í];rfl
structure fe(h:Hs)(Y:Yd):Prop where
 ins:h Y.y=eM (.ins "Yard" [("net_made_of",ZN Y.bs Y.ts),("greatest_age",.int Y.most),("lives",.ref Y.lv),("standing",.ref Y.st),("ties_fallen",.ref Y.fl),("letters_on_road",.ref Y.rd)])
 lives:h Y.lv=eM (.dct<|Zb Val.int Y.lives)
 stand:h Y.st=eM (.dct<|Zb rfV<|stands Y.es)
 fallen:h Y.fl=eM (.dct<|Zb Val.bl Y.fallen)
 road:h Y.rd=eM (.lst<|Y.road.map rdV)
 brs:∀e∈Y.es,fc h e.b e.t e.d e.B
 nd:Y.adr.Nodup
 key:(Y.es.map (·.num)).Nodup
variable {es:List En} {e:En}
def WA(h:e∈es):e.b∈enA es/\e.t∈enA es/\e.d∈enA es:=by refine⟨?_,?_,?_⟩<;>exact Ű.mpr ⟨e,h,by simp⟩
def X6(es:List En)(e:En):enA (es++[e])=enA es++[e.b,e.t,e.d]:=by unfold enA;rw[dr];simp
variable {Y:Yd}
def fe.keep{S:List Ad}(x:fe h Y)(e:Ex S h g)(ds:∀a∈Y.adr,a∉S):fe g Y:=by have m:∀a∈[Y.y,Y.lv,Y.st,Y.fl,Y.rd],a∉S:=λa ha=>ds a<|Þ _ ha;refine⟨e.get (m _<|by simp) x.ins,e.get (m _<|by simp) x.lives,e.get (m _<|by simp) x.stand,e.get (m _<|by simp) x.fallen,e.get (m _<|by simp) x.road,λb hb=>?_,x.nd,x.key⟩;let⟨q1,q2,q3⟩:=WA hb;exact(x.brs b hb).keep e (ds _<|Ê _ q1) (ds _<|Ê _ q2) (ds _<|Ê _ q3)
def fe.ext(x:fe h Y)(e:Ext h g):fe g Y:=x.keep (S:=[]) (.of e) λ_ _=>by simp
def fe.taken(x:fe h Y)(ha:a∈Y.adr):h a≠eN:=by
 rcases â.mp ha with ha|ha
 .simp only[Æ,Í,or_false]at ha;rcases ha with rfl|rfl|rfl|rfl|rfl
  .rw[x.ins];simp
  .rw[x.lives];simp
  .rw[x.stand];simp
  .rw[x.fallen];simp
  .rw[x.road];simp
 .obtain⟨e,he,ha⟩:=Ű.mp ha;have:=x.brs e he;simp only[Æ,Í,or_false]at ha;rcases ha with rfl|rfl|rfl
  .rw[this.ins];simp
  .rw[this.ties];simp
  .rw[this.held];simp
def Yd.sep(nd:Y.adr.Nodup)(ha:a∈[Y.y,Y.lv,Y.st,Y.fl,Y.rd])(hb:b∈enA Y.es):b≠a:=λz=>(å.mp nd).2.2 a ha b hb z.symm
def Yd.five(nd:Y.adr.Nodup):(Y.y≠Y.lv/\Y.y≠Y.st/\Y.y≠Y.fl/\Y.y≠Y.rd)/\(Y.lv≠Y.st/\Y.lv≠Y.fl/\Y.lv≠Y.rd)/\(Y.st≠Y.fl/\Y.st≠Y.rd)/\Y.fl≠Y.rd:=by have:=(å.mp nd).1;simp only[ü,Æ,Í,or_false,not_or,not_false_eq_true,ė,and_true]at this;let⟨⟨a1,a2,a3,a4⟩,⟨b1,b2,b3⟩,⟨c1,c2⟩,d1⟩:=this;exact⟨⟨a1,a2,a3,a4⟩,⟨b1,b2,b3⟩,⟨c1,c2⟩,d1⟩
def fc.off(x:fc h e.b e.t e.d e.B)(he:e∈es)(n:∀b∈enA es,b≠a):fc (upd h a o) e.b e.t e.d e.B:=by let⟨q1,q2,q3⟩:=WA he;exact⟨(eR<|n _ q1).trans x.ins,(eR<|n _ q2).trans x.ties,(eR<|n _ q3).trans x.held,x.ne⟩
def fe.setLives(x:fe h Y)(l:List<|Int×Int):fe (upd h Y.lv<|.dct<|Zb Val.int l) {Y with lives:=l}:=by let⟨⟨a1,a2,a3,a4⟩,⟨b1,b2,b3⟩,_,_⟩:=Yd.five x.nd;exact⟨(eR a1).trans x.ins,eS,(eR b1.symm).trans x.stand,(eR b2.symm).trans x.fallen,(eR b3.symm).trans x.road,λe he=>(x.brs e he).off he λb hb=>Yd.sep x.nd (by simp) hb,x.nd,x.key⟩
def fe.setRoad(x:fe h Y)(l:List<|Int×Int×Int×L):fe (upd h Y.rd<|.lst<|l.map rdV) {Y with road:=l}:=by let⟨⟨a1,a2,a3,a4⟩,⟨b1,b2,b3⟩,⟨c1,c2⟩,d1⟩:=Yd.five x.nd;exact⟨(eR a4).trans x.ins,(eR b3).trans x.lives,(eR c2).trans x.stand,(eR d1).trans x.fallen,eS,λe he=>(x.brs e he).off he λb hb=>Yd.sep x.nd (by simp) hb,x.nd,x.key⟩
def fe.stands(x:fe h Y)(hb:fc h e.b e.t e.d e.B)(hn:e.num∉Y.es.map (·.num))(fr:∀a∈[e.b,e.t,e.d],a∉Y.adr):fe (upd h Y.st<|.dct<|Zb rfV<|stands<|Y.es++[e]) {Y with es:=Y.es++[e]}:=by
 let⟨⟨a1,a2,a3,a4⟩,⟨b1,b2,b3⟩,⟨c1,c2⟩,d1⟩:=Yd.five x.nd;have Δ:Y.st∈Y.adr:=Þ _ (by simp);have nb:∀a∈enA (Y.es++[e]),a≠Y.st:=λa ha=>by
  rw[X6]at ha;rcases â.mp ha with ha|ha
  .exact Yd.sep x.nd (by simp) ha
  .exact λz=>fr a ha<|z▸Δ
 refine⟨(eR a2).trans x.ins,(eR b1).trans x.lives,eS,(eR c1.symm).trans x.fallen,(eR c2.symm).trans x.road,λq hq=>?_,?_,?_⟩
 .refine fc.off ?_ hq nb;rcases â.mp hq with hq|hq
  .exact x.brs q hq
  .rw[á.mp hq];exact hb
 .show([Y.y,Y.lv,Y.st,Y.fl,Y.rd]++enA (Y.es++[e])).Nodup;rw[X6,<-ĸ,å];refine⟨x.nd,?_,λa ha b hb z=>fr b hb<|z▸ha⟩;simp[hb.nbt,hb.nbd,hb.ne]
 .show((Y.es++[e]).map (·.num)).Nodup;rw[Û,å];refine⟨x.key,by simp,λa ha b hb=>?_⟩;have:b=e.num:=⇑hb
  rw[this];exact λz=>hn<|z▸ha
def Jk{h0:Hs}{fs:List (String×Val)}{f:String}{K:Hs->Prop}(i:g p=eM (.ins "Yard" fs))(x:Ex [p] h0 g)(hp:h0 p=eN)(ha:g a=eN)(m:fs.length<900)(q:∀g',g' p=eM (.ins "Yard"<|fi fs f<|.ref a)->g' a=eM o->Ex [p] h0 g'->Ex [p] g g'->p≠a->h0 a=eN->K g'):go (fM (upd g a o) (.ref p) f<|.ref a) K:=by
 have n:=Zc i ha;have y:Ex [p] g<|upd (upd g a o) p<|.ins "Yard"<|fi fs f<|.ref a:=⟨λ{b u} nb e=>by rw[eR λz=>nb<|by simp[z],eR<|Zc e ha];exact e⟩
 refine Yx (upd_ne' n i) m<|q _ eS ((eR n.symm).trans eS) (x.trans y) y n ?_;cases z:h0 a with
 |none=>rfl
 |some u=>rw[x.get (by simpa using n.symm) z]at ha;cases ha
structure YNew(bs:List Int)(ts:List Tie)(most:Int)(Y:Yd):Prop where
 hb:Y.bs=bs
 ht:Y.ts=ts
 hm:Y.most=most
 num:Y.es.map (·.num)=bs
 br:∀e∈Y.es,e.B=Zv e.num 0 most (gh e.num 0 ts)
 fallen:Y.fallen=[]
 road:Y.road=[]
 lives:Y.lives=bs.map λb=>(b,0)
section
variable {bs:List Int}{ts:List Tie}
def B5(no:fm bs ts)(hp:h p=eN)(k:∀Y g,Y.y=p->fe g Y->YNew bs ts most Y->(∀a∈Y.adr,h a=eN)->Ext h g->Q .non g):wF P (n+3) "Yard.__init__" [.ref p,ZN bs ts,.int most] (upd h p<|.ins "Yard" []) Q X:=by
 have h10:=no.ten;have h16:=no.sixteen;have hbl:(bs.map Val.int).length=bs.length:=À _;have ndb:bs.Nodup:=no.up.imp λh=>by lia
 refine On ?_;refine' Yx eS (show(1:Nat)<900 by decide) ?_;rw[eU,eU];have i1:=eS (h:=h) (a:=p) (o:=Ob.ins "Yard"<|fi (fi [] "net_made_of"<|ZN bs ts) "greatest_age"<|.int most);have x1:Ex [p] h<|upd h p<|Ob.ins "Yard"<|fi (fi [] "net_made_of"<|ZN bs ts) "greatest_age"<|.int most:=Ex.upd (by simp);generalize upd h p (Ob.ins "Yard"<|fi (fi [] "net_made_of"<|ZN bs ts) "greatest_age"<|.int most)=g1 at i1 x1 ⊢;fail;intro lv hlv;refine' Jk i1 x1 hp hlv (show(2:Nat)<900 by decide) λg2 i2 lv2 x2 y2 nlv flv=>?_;fail;intro st Δ;refine' Jk i2 x2 hp Δ (show(3:Nat)<900 by decide) λg3 i3 st3 x3 y3 nst fst=>?_;fail;intro fl hfl;refine' Jk i3 x3 hp hfl (show(4:Nat)<900 by decide) λg4 i4 fl4 x4 y4 nfl ffl=>?_;refine' Xm λrd hrd=>?_;refine' Jk i4 x4 hp hrd (show(5:Nat)<900 by decide) λg5 i5 rd5 x5 y5 nrd frd=>?_;have q1:lv≠st:=Zc lv2 Δ;have lv3:=y3.get (by simpa using nlv.symm) lv2;have q2:lv≠fl:=Zc lv3 hfl;have q3:st≠fl:=Zc st3 hfl;have lv4:=y4.get (by simpa using nlv.symm) lv3;have st4:=y4.get (by simpa using nst.symm) st3;have q4:lv≠rd:=Zc lv4 hrd;have q5:st≠rd:=Zc st4 hrd;have q6:fl≠rd:=Zc fl4 hrd;have lv5:=y5.get (by simpa using nlv.symm) lv4;have st5:=y5.get (by simpa using nst.symm) st4;have fl5:=y5.get (by simpa using nfl.symm) fl4;have xe:Ext h g5:=⟨λ{a o} e=>x5.get (by simpa using Zc e hp) e⟩
 have Y0:fe g5 ⟨p,lv,st,fl,rd,bs,ts,most,[],[],[],[]⟩:=⟨i5,lv5,st5,fl5,rd5,(λe he=>gB he Í),by
   show([p,lv,st,fl,rd]++[]).Nodup
   simp[nlv,nst,nfl,nrd,q1,q2,q3,q4,q5,q6],ė⟩
 exists eX (xs:=[.tup<|bs.map .int,.tup<|ts.map trV]) (v:=.tup<|bs.map .int) rfl
 refine' Zo (λi en g=>Sm3 λv3 lvs es=>Cj7 (en=[eM<|.ref p,eM<|ZN bs ts,eM<|.int most,v3]) (fe g ⟨p,lv,st,fl,rd,bs,ts,most,lvs,es,[],[]⟩) (lvs=(bs.take i).map (λb=>(b,0))) (es.map (·.num)=bs.take i) ((∀e∈es,e.B=Zv e.num 0 most (gh e.num 0 ts))) ((∀a∈[p,lv,st,fl,rd]++enA es,h a=eN))<|Ext h g) ⟨_,[],[],rfl,Y0,rfl,rfl,(λe he=>gB he Í),?_,xe⟩ (λ_ _ _ _ _=>trivial) ?_ ?_
 .intro a ha;simp only[enA,List.flatMap_nil,ď,Æ,Í,or_false]at ha;rcases ha with rfl|rfl|rfl|rfl|rfl<;>assumption
 .rintro i v en g hv ⟨v3,lvs,es,rfl,Y,hlv,hnum,hbr,bV,x⟩ K hK;let⟨b,hb,rfl⟩:=Yy hv;have hi:i<bs.length:=(Ì.mp hb).1;have hnb:b∉es.map (·.num):=by
   rw[hnum];intro m;have:=YU (f:=id) (by rw[Ŭ];exact ndb) hb;rw[Ŭ]at this;exact this m
  have hll:lvs.length<=10:=by rw[hlv,À,ÿ];lia
  have hkl:b∉lvs.map (·.1):=by rw[hlv,í,show((λq:Int×Int=>q.1) ∘ λb:Int=>(b,(0:Int)))=id from rfl,Ŭ,<-hnum];exact hnb
  have hesl:es.length<=10:=by rw[<-À (f:=(·.num)) (as:=es),hnum,ÿ];lia
  let⟨yi,yl,ys,yf,yr,yb,ynd,yk⟩:=id Y;dsimp only at yi yl ys yf yr yb;refine' ZM (k:=.int b) yl ⟨rfl,by rw[Xf];exact Ë hll<|by decide⟩ ?_;rw[ZA (val:=Val.int)];have Y1:=Y.setLives<|Za lvs b 0;have x1:Ext h<|upd g lv<|.dct<|Zb Val.int<|Za lvs b 0:=⟨λe=>by rw[eR<|Zc e flv];exact x.get e⟩
  dsimp only at Y1;generalize upd g lv (.dct<|Zb Val.int<|Za lvs b 0)=g6 at Y1 x1;let⟨zi,zl,zs,zf,zr,zb,znd,zk⟩:=id Y1;dsimp only at zi zl zs zf zr zb;refine' XI h16 λpn g7 hpn x7 en=>?_;have Y7:=Y1.ext x7;fail;intro q hq;have nr:=WG (b:=b) (l:=ts) (k:=0);have nl:=Wh (b:=b) (l:=ts) (k:=0);have xq:Ext g7<|upd g7 q<|.ins "Bridge" []:=Ext.new hq;have eq:(upd g7 q<|.ins "Bridge" []) q=eM (.ins "Bridge" []):=eS;refine AC (rs:=gh b 0 ts) eq (xq.get en) (nr.1.imp λz=>by lia) (by lia) λt d g8 ht hd ba x8=>?_;have x78:Ext g7 g8:=⟨λ{a o} e=>x8.get (by simpa using Zc e hq)<|xq.get e⟩
  have Y8:=Y7.ext x78;have ht7:g7 t=eN:=by cases z:g7 t with|none=>rfl|some o=>rw[xq.get z]at ht;cases ht
  have hd7:g7 d=eN:=by cases z:g7 d with|none=>rfl|some o=>rw[xq.get z]at hd;cases hd
  refine⟨rfl,?_⟩;let⟨wi,wl,ws,wf,wr,wb,wnd,wk⟩:=id Y8;dsimp only at wi wl ws wf wr wb;refine' ZM (k:=.int b) ws ⟨rfl,by rw[Xf];unfold stands;rw[À];exact Ë hesl<|by decide⟩ ?_;rw[ZA (val:=rfV),YJ _<|by rw[ZL];exact hnb];have Δ:stands es++[(b,q)]=stands (es++[⟨b,q,t,d,Zv b 0 most<|gh b 0 ts⟩]):=by unfold stands;rw[Û];rfl
  rw[Δ];have fr:∀a∈[q,t,d],g7 a=eN:=λa ha=>by simp only[Æ,Í,or_false]at ha;rcases ha with rfl|rfl|rfl<;>assumption
  have Y9:=Y8.stands (e:=⟨b,q,t,d,Zv b 0 most<|gh b 0 ts⟩) ba hnb λa ha z=>Y7.taken z<|fr a ha;fail;have x9:Ext h g8:=(x1.trans x7).trans x78;refine hK _ _ ⟨_,_,_,rfl,Y9,?_,?_,?_,?_,⟨λe=>by rw[eR<|Zc e fst];exact x9.get e⟩⟩
  .show Za lvs b 0=_;rw[YJ _ hkl,hlv,ZC hb,Û];rfl
  .rw[Û,hnum,ν,hb];rfl
  .intro e he;rcases â.mp he with he|he
   .exact hbr e he
   .rw[á.mp he]
  .intro a ha;rw[X6,<-ĸ]at ha;rcases â.mp ha with ha|ha
   .exact bV a ha
   .cases z:h a with
    |none=>rfl
    |some o=>have:=fr a ha;rw[(x1.trans x7).get z]at this;cases this
 .rintro en g ⟨v3,lvs,es,rfl,Y,hlv,hnum,hbr,bV,x⟩;rw[hbl,Ē]at hnum hlv;refine' k _ g rfl Y ⟨rfl,rfl,rfl,hnum,hbr,rfl,rfl,hlv⟩ bV x
end
abbrev ZY(ts:List Tie)(p num:Int):Int:=far (ts[p.toNat]?.getD (0,0,0)) num
abbrev ZP(ts:List Tie)(num:Int)(B:Br):List<|Int×Int×Int×L:=(sortI (B.ties.map (·.1))).map λp=>(num,ZY ts p num,p,Zg B p)
def Xg{num:Int}(h:(stands es).lookup num=eM b):∃e pre Ŀ,es=pre++e::Ŀ/\e.num=num/\e.b=b:=by have:=Zi h;unfold stands at this;let⟨e,he,z⟩:=Ô.mp this;let⟨pre,Ŀ,rfl⟩:=dO he;injection z with z1 z2;exact⟨e,pre,Ŀ,rfl,z1,z2⟩
def YS(pre Ŀ:List En)(e:En):enA (pre++e::Ŀ)=enA pre++([e.b,e.t,e.d]++enA Ŀ):=by unfold enA;rw[dr];rfl
variable {Ŀ:List En}
def fe.change{pre:List En}(x:fe h Y)(he:Y.es=pre++e::Ŀ)(ex:Ex [e.b] h g)(hb:fc g e.b t d B)(ft:t=e.t\/h t=eN)(fd:d=e.d\/h d=eN):fe g {Y with es:=pre++⟨e.num,e.b,t,d,B⟩::Ŀ}:=by
 let⟨y,lv,st,fl,rd,bs,ts,most,lives,es,fallen,road⟩:=Y;dsimp only at he;subst he;have hm:e∈pre++e::Ŀ:=by simp
 have heA:=WA hm;have nb:∀a∈[y,lv,st,fl,rd],a∉[e.b]:=λa ha z=>Yd.sep x.nd ha heA.1 (á.mp z).symm;have nd0:([y,lv,st,fl,rd]++(enA pre++([e.b,e.t,e.d]++enA Ŀ))).Nodup:=by rw[<-YS];exact x.nd
 have key:∀q∈pre++Ŀ,fc g q.b q.t q.d q.B:=λq hq=>by
  have hq':q∈pre++e::Ŀ:=by
   rcases â.mp hq with z|z
   .exact Þ _ z
   .exact Ê _<|Ú _ z
  have nq:∀a∈[q.b,q.t,q.d],a≠e.b:=λa ha z=>by
   have n1:=(å.mp nd0).2.1;rcases â.mp hq with hq|hq
   .have ha':a∈enA pre:=Ű.mpr ⟨q,hq,ha⟩;exact(å.mp n1).2.2 a ha' e.b (by simp) z
   .have ha':a∈enA Ŀ:=Ű.mpr ⟨q,hq,ha⟩;have n2:=(å.mp n1).2.1;exact(å.mp n2).2.2 e.b (by simp) a ha' z.symm
  exact(x.brs q hq').keep ex (by simpa using nq _ (by simp)) (by simpa using nq _ (by simp)) (by simpa using nq _ (by simp))
 have tk:∀a∈[y,lv,st,fl,rd]++(enA pre++([e.b,e.t,e.d]++enA Ŀ)),h a≠eN:=λa ha=>x.taken (by show a∈[y,lv,st,fl,rd]++enA (pre++e::Ŀ);rw[YS];exact ha);have fr:∀{a c:Ad},(a=c\/h a=eN)->∀z,z∈[y,lv,st,fl,rd]++(enA pre++([e.b,e.t,e.d]++enA Ŀ))->z≠c->z≠a:=λf z hz nc e=>by
  subst e;rcases f with f|f
  .exact nc f
  .exact tk z hz f
 refine⟨ex.get (nb _<|by simp) x.ins,ex.get (nb _<|by simp) x.lives,?_,ex.get (nb _<|by simp) x.fallen,ex.get (nb _<|by simp) x.road,λq hq=>?_,?_,?_⟩
 .have:=ex.get (nb st<|by simp) x.stand;dsimp only at this ⊢;rw[this];unfold O.stands;simp
 .dsimp only at hq;rcases â.mp hq with z|z
  .exact key q<|Þ _ z
  .rcases Æ.mp z with rfl|z
   .exact hb
   .exact key q<|Ê _ z
 .show([y,lv,st,fl,rd]++enA (pre++⟨e.num,e.b,t,d,B⟩::Ŀ)).Nodup;rw[YS];dsimp only;have n1:=å.mp nd0;have n2:=å.mp n1.2.1;have n3:=å.mp n2.2.1;have e3:e.b≠e.t/\e.b≠e.d/\e.t≠e.d:=by
   have:=n3.1;simp only[ü,Æ,Í,or_false,not_or,ė,and_true,not_false_eq_true]at this;exact⟨this.1.1,this.1.2,this.2⟩
  have out:∀z,z∈[y,lv,st,fl,rd]\/z∈enA pre\/z∈enA Ŀ->z∉[e.b,t,d]:=λz hz m=>by
   have hza:z∈[y,lv,st,fl,rd]++(enA pre++([e.b,e.t,e.d]++enA Ŀ)):=by
    rcases hz with q|q|q
    .exact Þ _ q
    .exact Ê _<|Þ _ q
    .exact Ê _<|Ê _<|Ê _ q
   have nz:∀c∈[e.b,e.t,e.d],z≠c:=λc hc w=>by
    rcases hz with q|q|q
    .exact n1.2.2 z q c (Ê _<|Þ _ hc) w
    .exact n2.2.2 z q c (Þ _ hc) w
    .exact n3.2.2 c hc z q w.symm
   simp only[Æ,Í,or_false]at m;rcases m with m|m|m
   .exact nz e.b (by simp) m
   .exact fr ft z hza (nz e.t<|by simp) m
   .exact fr fd z hza (nz e.d<|by simp) m
  refine å.mpr ⟨n1.1,å.mpr ⟨n2.1,å.mpr ⟨?_,n3.2.1,λa ha b hb z=>out b (.inr<|.inr hb)<|z▸ha⟩,λa ha b hb z=>?_⟩,λa ha b hb z=>?_⟩
  .simp[hb.nbt,hb.nbd,hb.ne]
  .rcases â.mp hb with q|q
   .exact out a (.inr<|.inl ha)<|z▸q
   .exact n2.2.2 a ha b (Ê _ q) z
  .rcases â.mp hb with q|q
   .exact n1.2.2 a ha b (Þ _ q) z
   .rcases â.mp q with q|q
    .exact out a (.inl ha)<|z▸q
    .exact n1.2.2 a ha b (Ê _<|Ê _ q) z
 .have:=x.key;simpa using this
def fe.inner{pre:List En}(x:fe h Y)(he:Y.es=pre++e::Ŀ)(ex:Ex [e.b,e.t,e.d] h g)(hb:fc g e.b e.t e.d B):fe g {Y with es:=pre ++ {e with B:=B} :: Ŀ}:=by
 let⟨y,lv,st,fl,rd,bs,ts,most,lives,es,fallen,road⟩:=Y;dsimp only at he;subst he;have nd0:([y,lv,st,fl,rd]++(enA pre++([e.b,e.t,e.d]++enA Ŀ))).Nodup:=by rw[<-YS];exact x.nd
 have n1:=å.mp nd0;have n2:=å.mp n1.2.1;have n3:=å.mp n2.2.1;have nb:∀a∈[y,lv,st,fl,rd],a∉[e.b,e.t,e.d]:=λa ha z=>n1.2.2 a ha a (Ê _<|Þ _ z) rfl;have key:∀q,q∈pre\/q∈Ŀ->fc g q.b q.t q.d q.B:=λq hq=>by
  have hq':q∈pre++e::Ŀ:=by
   rcases hq with z|z
   .exact Þ _ z
   .exact Ê _<|Ú _ z
  have nq:∀a∈[q.b,q.t,q.d],a∉[e.b,e.t,e.d]:=λa ha z=>by
   rcases hq with hq|hq
   .exact n2.2.2 a (Ű.mpr ⟨q,hq,ha⟩) a (Þ _ z) rfl
   .exact n3.2.2 a z a (Ű.mpr ⟨q,hq,ha⟩) rfl
  exact(x.brs q hq').keep ex (nq _<|by simp) (nq _<|by simp) (nq _<|by simp)
 refine⟨ex.get (nb _<|by simp) x.ins,ex.get (nb _<|by simp) x.lives,?_,ex.get (nb _<|by simp) x.fallen,ex.get (nb _<|by simp) x.road,λq hq=>?_,?_,?_⟩
 .have:=ex.get (nb st<|by simp) x.stand;dsimp only at this ⊢;rw[this];unfold O.stands;simp
 .dsimp only at hq;rcases â.mp hq with z|z
  .exact key q<|.inl z
  .rcases Æ.mp z with rfl|z
   .exact hb
   .exact key q<|.inr z
 .show([y,lv,st,fl,rd]++enA (pre ++ {e with B:=B} :: Ŀ)).Nodup;rw[YS];exact nd0
 .have:=x.key;dsimp only at this ⊢;simpa using this
def DZ{xs:List Val}{v:Val}{p:Nat}{K:Val×Hs->Prop}(e1:h a=eM (.lst xs))(e:xs[p]?=eM v)(m:xs.length<=500000)(q:K (v,upd h a<|.lst<|xs.eraseIdx p)):go (bmV h .popAt (.ref a) [.int p]) K:=by
 have hp:p<xs.length:=(Ì.mp e).1;have h1:-(2 ^ 62)<(p:Int)/\(p:Int)<2 ^ 62:=by
  have:(p:Int)<500000:=by lia
  exact⟨eL (by decide:(-(2 ^ 62):Int)<0)<|Đ p,Int.lt_trans this<|by decide⟩
 have h2:ixN xs.length (p:Int)=eM p:=by unfold ixN;rw[gw<|Đ p,gw (by lia),Ö]
 have h3:bmPopAt h [.int p] a xs=eM (v,upd h a<|.lst<|xs.eraseIdx p):=by unfold bmPopAt;dsimp only;rw[gw h1,h2];simp only[ú,e,Ŋ]
 exact eW (by show(ff<|h a).bind (bmPopAt h [.int p] a)=_;rw[lsE e1,ú];exact h3) q
def WH{α β:Type}(f:α->β):∀(l:List α) (i:Nat),(l.map f).eraseIdx i=(l.eraseIdx i).map f
 |[],_=>by simp
 |_::_,0=>by simp
 |x::l,i+1=>by simp[WH f l i]
section
variable {Y:Yd}{p:Nat}
variable {r:Int×Int×Int×L}
def XS(x:fe h Y)(hr:Y.road[p]?=eM r)(hl:Y.road.length<=500000)(k:∀g,fe g {Y with road:=Y.road.eraseIdx p}->Ex [Y.rd] h g->Q (rdV r) g):wF P (n+1) "Yard.take_off" [.ref Y.y,.int p] h Q X:=by have xi:=x.ins;have xr:=x.road;have hp:p<Y.road.length:=(Ì.mp hr).1;have hrl:(Y.road.map rdV).length=Y.road.length:=À _;refine WW ?_;fail;refine fQ (by simp) ?_;fail;refine fR (by rw[hrl];simpa using hp) ?_;refine' DZ xr (by rw[Ø,hr];rfl) (by lia) ?_;rw[WH];exact k _ (x.setRoad _) (Ex.upd<|by simp)
def Hu{pre:List En}(x:fe h Y)(hr:Y.road[p]?=eM r)(hl:Y.road.length<=500000)(he:Y.es=pre++e::Ŀ)(hg:r.2.1=e.num)(o:e.B.ok)
  (k:∀g,fe g {Y with es:=pre ++ {e with B:=Zy e.B r.2.2.1 r.2.2.2} :: Ŀ,road:=Y.road.eraseIdx p}->Ex Y.adr h g->Q .non g):wF P (n+3) "Yard.come" [.ref Y.y,.int p] h Q X:=by
 have xi:=x.ins;have hm:e∈Y.es:=by rw[he];simp
 have lk:(stands Y.es).lookup r.2.1=eM e.b:=by rw[hg];exact Yu (by rw[ZL];exact x.key)<|Ô.mpr ⟨e,hm,rfl⟩
 refine WT ?_;refine' XS x hr hl λg1 y1 x1=>?_;have yi:=y1.ins;have ys:=y1.stand;have ba:=y1.brs e hm;have bi:=ba.ins;dsimp only at yi ys;let⟨rs,rg,rt,rl⟩:=r;dsimp only at lk hg k
 exists XJ ys rfl
 rw[YX,lk];walk_at "p";refine Zz ys rfl (by rw[ZE,lk];rfl) ?_;refine' FE ba o λg2 b2 x2=>?_;have y2:=y1.inner (e:=e) he (x2.sub<|by simp) b2;have mA:=WA hm;refine' k g2 y2 ((x1.sub λa ha=>?_).trans<|x2.sub λa ha=>?_)
 .rw[á.mp ha];exact Þ _ (by simp)
 .rw[á.mp ha];exact Ê _ mA.2.2
def D7(x:fe h Y)(hr:Y.road[p]?=eM r)(hl:Y.road.length<=500000)(hg:r.2.1∉Y.es.map (·.num))
  (k:∀g,fe g {Y with road:=Y.road.eraseIdx p}->Ex Y.adr h g->Q .non g):wF P (n+3) "Yard.come" [.ref Y.y,.int p] h Q X:=by
 have xi:=x.ins;have lk:(stands Y.es).lookup r.2.1=eN:=by
  cases z:(stands Y.es).lookup r.2.1 with
  |none=>rfl
  |some q =>have:=ø (f:=(·.1))<|Zi z;rw[ZL]at this;exact gB this hg
 refine WT ?_;refine' XS x hr hl λg1 y1 x1=>?_;have yi:=y1.ins;have ys:=y1.stand;dsimp only at yi ys;let⟨rs,rg,rt,rl⟩:=r;dsimp only at lk hg k
 exists XJ ys rfl
 rw[YX,lk];walk_at "p";exact k g1 y1 (x1.sub λa ha=>by rw[á.mp ha];exact Þ _<|by simp)
end
abbrev Yr(k:Int)(F:Br->Br)(es:List En):List En:=es.map λe=>if e.num=k then {e with B:=F e.B} else e
def Wb{k:Int}{F:Br->Br}:∀{es:List En},k∉es.map (·.num)->Yr k F es=es
 |[],_=>rfl
 |e::es,h=>by rw[Î,Æ,not_or]at h;unfold Yr;rw[Î,gx λz=>h.1 z.symm];exact congrArg (e :: ·)<|Wb h.2
variable {F:Br->Br}
def OA{pre:List En}(nd:((pre++e::Ŀ).map (·.num)).Nodup):Yr e.num F (pre++e::Ŀ)=pre ++ {e with B:=F e.B} :: Ŀ:=by rw[Û,Î,å,ü]at nd;have h1:Yr e.num F pre=pre:=Wb λz=>nd.2.2 _ z e.num (by simp) rfl;have h2:Yr e.num F Ŀ=Ŀ:=Wb nd.2.1.1;unfold Yr at h1 h2 ⊢;rw[Û,Î,h1,h2,gw rfl]
def NY{k:Int}(es:List En):(Yr k F es).map (·.num)=es.map (·.num):=by unfold Yr;rw[í];refine Ċ λe _=>?_;show(if e.num=k then({e with B:=F e.B}:En)else e).num=e.num;split<;>rfl
def NO{k:Int}(es:List En):stands (Yr k F es)=stands es:=by unfold Yr stands;rw[í];refine Ċ λe _=>?_;show((if e.num=k then({e with B:=F e.B}:En)else e).num,(if e.num=k then({e with B:=F e.B}:En)else e).b)=_;split<;>rfl
def Wv{k:Int}{F:Br->Br}:∀es:List En,enA (Yr k F es)=enA es
 |[]=>rfl
 |e::es=>by have:=Wv (k:=k) (F:=F) es;unfold Yr enA at this ⊢;rw[Î,ξ,ξ,this];split<;>rfl
def Oh{k:Int}{q:En}(h:q∈Yr k F es):(q∈es/\q.num≠k)\/∃e∈es,e.num=k/\q={e with B:=F e.B}:=by
 let⟨e,he,rfl⟩:=Ô.mp h;by_cases z:e.num=k
 .right;exact⟨e,he,z,by rw[gw z]⟩
 .left;rw[gx z];exact⟨he,z⟩
abbrev tieF(on:Bool)(p:Int)(far c:Int)(B:Br):Br:=if on then upB B p (far,c)else JZ B p
abbrev setT(on:Bool)(p:Int)(t:Tie)(es:List En):List En:=Yr t.2.1 (tieF on p t.1 t.2.2)<|Yr t.1 (tieF on p t.2.1 t.2.2) es
abbrev onT(Y:Yd)(p:Int)(t:Tie):Bool:=!(Y.fallen.lookup p).isSome&&(((stands Y.es).lookup t.1).isSome&&((stands Y.es).lookup t.2.1).isSome)
section
variable {Y:Yd}
def fe.one(x:fe h Y)(he:e∈Y.es)(ex:Ex [e.b,e.t,e.d] h g)(hb:fc g e.b e.t e.d<|F e.B):fe g {Y with es:=Yr e.num F Y.es}:=by let⟨pre,Ŀ,hs⟩:=dO he;have k:=x.key;rw[hs]at k;rw[hs,OA k];exact x.inner hs ex hb
end
noncomputable abbrev GW:Ss:=#[.ite (.val<|.var 5) #[.expr<|.meth "Bridge" "up" (.idx (.fld (.var 0) "standing")<|.var 6) #[.var 1,.var 7,.var 4]] #[.ite (.val<|.cmp .isin (.var 6)<|.fld (.var 0) "standing") #[.expr<|.meth "Bridge" "down" (.idx (.fld (.var 0) "standing")<|.var 6) #[.var 1]] .nil]]
section
variable {Y:Yd}
def MG{p:Nat}{t1 t2:Int}{on:Bool}{v6 v7:Option Val}{R:NQ}(x:fe h Y)(hn:t1≠t2)(gd:∀e∈Y.es,e.B.ok)(hon:∀near far:Int,(near=t1/\far=t2\/near=t2/\far=t1)->on=eP->∃b,(stands Y.es).lookup near=eM b)
  (k:∀g e,fe g {Y with es:=setT on p (t1,t2,c) Y.es}->Ex Y.adr h g->R e g) :
  wFor (λ_=>True) (λv e g K M=>go (bind (.many [6,7]) g v e) λe2=>wSs (wF P<|n+1) GW e2 g K Q M K λ_ c g=>X c g) R [.tup [.int t1,.int t2],.tup [.int t2,.int t1]] [eM<|.ref Y.y,eM<|.int p,eM<|.int t1,eM<|.int t2,eM<|.int c,eM<|.bl on,v6,v7] h:=by
 refine Zo (λi e g=>∃v6 v7 es',e=[eM<|.ref Y.y,eM<|.int p,eM<|.int t1,eM<|.int t2,eM<|.int c,eM<|.bl on,v6,v7]/\fe g {Y with es:=es'}/\Ex Y.adr h g/\(i=0->es'=Y.es)/\(i=1->es'=Yr t1 (tieF on p t2 c) Y.es)/\(i=2->es'=setT on p (t1,t2,c) Y.es)) ⟨_,_,Y.es,rfl,x,Ex.refl,λ_=>rfl,λz=>(by cases z),λz=>(by cases z)⟩ (λ_ _ _ _ _=>trivial) ?_ ?_
 .rintro i v e g hv ⟨u6,u7,es',rfl,y,xg,q0,q1,q2⟩ K hK;obtain⟨near,far,rfl,hnf,Δ,heA,hgd,hnext⟩:∃near far,v=.tup [.int near,.int far]/\(near=t1/\far=t2\/near=t2/\far=t1)/\stands es'=stands Y.es/\enA es'=enA Y.es/\(∀e∈es',e.num=near->e.B.ok)/\∀dB,dB=Yr near (tieF on p far c) es'->(i+1=0->dB=Y.es)/\(i+1=1->dB=Yr t1 (tieF on p t2 c) Y.es)/\(i+1=2->dB=setT on p (t1,t2,c) Y.es):=by
   match i,hv with
   |0,hv =>cases hv;have:=q0 rfl;subst this;exact⟨t1,t2,rfl,.inl ⟨rfl,rfl⟩,rfl,rfl,λe he _=>gd e he,λdB z=>⟨λy=>(by cases y),λ_=>z,λy=>(by cases y)⟩⟩
   |1,hv =>
    cases hv;have:=q1 rfl;subst this;refine⟨t2,t1,rfl,.inr ⟨rfl,rfl⟩,NO _,Wv _,λe he hz=>?_,λdB z=>⟨λy=>(by cases y),λy=>(by cases y),λ_=>z⟩⟩;rcases Oh he with⟨hm,_⟩|⟨q,hq,hq1,hq2⟩
    .exact gd e hm
    .exact gB (by rw[hq2]at hz;exact hq1.symm.trans hz) hn
   |i+2,hv=>simp at hv
  have yi:=y.ins;have ys:=y.stand;dsimp only at yi ys;have step:∀{e:En}{g':Hs},e∈es'->e.num=near->Ex [e.b,e.t,e.d] g g'->fc g' e.b e.t e.d (tieF on p far c e.B)->∀w6 w7,K [eM<|.ref Y.y,eM<|.int p,eM<|.int t1,eM<|.int t2,eM<|.int c,eM<|.bl on,w6,w7] g':=λ{e g'} he ű ex hb w6 w7=>by
   have y':=y.one (F:=tieF on p far c) he ex hb;rw[ű]at y';have mA:=WA he;refine hK _ _ ⟨w6,w7,_,rfl,y',xg.trans<|ex.sub λa ha=>?_,hnext _ rfl⟩;refine Ê _ ?_;rw[<-heA];simp only[Æ,Í,or_false]at ha;rcases ha with rfl|rfl|rfl
   .exact mA.1
   .exact mA.2.1
   .exact mA.2.2
  fail;cases hob:on with
  |true =>
   let⟨b,lk⟩:=hon near far hnf hob;rw[<-Δ]at lk;let⟨e,pre,Ŀ,hs,ű,hbb⟩:=Xg lk;have hm:e∈es':=by rw[hs];simp
   have ba:=y.brs e hm;have bi:=ba.ins;subst hbb;refine fQ rfl ?_;refine' Zz ys rfl (by rw[ZE,lk];rfl) ?_;refine' QH ba (hgd e hm ű) λg' b' x'=>?_;fail;rw[<-hob];exact step hm ű (x'.sub<|by simp) (by unfold tieF;rw[hob];exact b') _ _
  |false =>
   refine fR rfl ?_
   exists XJ ys rfl
   rw[YX];cases hlk:(stands es').lookup near with
   |none =>
    walk_at "p";rw[<-hob];refine hK _ _ ⟨_,_,es',rfl,y,xg,hnext es' (Wb ?_).symm⟩;have:=Xy hlk
    rwa [ZL]at this
   |some b =>
    let⟨e,pre,Ŀ,hs,ű,hbb⟩:=Xg hlk;have hm:e∈es':=by rw[hs];simp
    have ba:=y.brs e hm;have bi:=ba.ins;subst hbb;walk_at "p";refine Zz ys rfl (by rw[ZE,hlk];rfl) ?_;refine' Ft ba λg' b' x'=>?_;fail;rw[<-hob];exact step hm ű (x'.sub<|by simp) (by unfold tieF;rw[hob];exact b') _ _
 .rintro e g ⟨u6,u7,es',rfl,y,xg,q0,q1,q2⟩;have:=q2 rfl;subst this;exact k _ _ y xg
def WC{p:Nat}{t:Tie}(x:fe h Y)(et:Y.ts[p]?=eM t)(hn:t.1≠t.2.1)(gd:∀e∈Y.es,e.B.ok)(k:∀g,fe g {Y with es:=setT (onT Y p t) p t Y.es}->Ex Y.adr h g->Q .non g):wF P (n+2) "Yard.set_tie" [.ref Y.y,.int p] h Q X:=by
 have xi:=x.ins;have xs:=x.stand;have xf:=x.fallen;let⟨t1,t2,c⟩:=t;dsimp only at hn;have fin:onT Y p (t1,t2,c)=onT Y p (t1,t2,c)->∀near far:Int,(near=t1/\far=t2\/near=t2/\far=t1)->onT Y p (t1,t2,c)=eP->∃b,(stands Y.es).lookup near=eM b:=λ_ near far hv ho=>by
  simp only[onT,bAq]at ho;rcases hv with⟨rfl,_⟩|⟨rfl,_⟩
  .exact ë.mp ho.2.1
  .exact ë.mp ho.2.2
 refine Jt ?_
 exists eX (xs:=[.tup<|Y.bs.map .int,.tup<|Y.ts.map trV]) (v:=.tup<|Y.ts.map trV) rfl
 refine' eX (v:=.tup [.int t1,.int t2,.int c]) (Z2 (by lia)<|by rw[Ø,Ö,et];rfl) ?_
 exists Jn xf rfl
 rw[YX];obtain⟨on,hon⟩:∃on:Bool,on=onT Y p (t1,t2,c):=⟨_,rfl⟩
 rw[<-hon]at k fin;have fin:=fin rfl;cases e1:(Y.fallen.lookup (p:Int)).isSome with
 |true =>
  have z:eQ=on:=by rw[hon];unfold onT;rw[e1];rfl
  walk_at "p";rw[z];exact MG x hn gd fin λg e y xg=>by fail;exact k g y xg
 |false =>
  walk_at "p";refine XJ xs rfl ?_;rw[YX];cases e2:((stands Y.es).lookup t1).isSome with
  |false =>
   have z:eQ=on:=by rw[hon];unfold onT;rw[e1,e2];rfl
   walk_at "p";rw[z];exact MG x hn gd fin λg e y xg=>by fail;exact k g y xg
  |true =>
   walk_at "p";refine XJ xs rfl ?_;rw[YX];have z:((stands Y.es).lookup t2).isSome=on:=by rw[hon];unfold onT;rw[e1,e2];rfl
   rw[z];refine' MG x hn gd fin λg e y xg=>by fail;exact k g y xg
end
def Nv{on:Bool}{p far:Int}(o:B.ok)(h0:0<=p)(h1:p<16):(tieF on p far c B).ok:=by
 unfold tieF;split
 .exact o.up h0 h1
 .exact o.down p
def U4{k:Int}(gd:∀e∈es,e.B.ok)(hF:∀B,B.ok->(F B).ok):∀e∈Yr k F es,e.B.ok:=λq hq=>by
 rcases Oh hq with⟨hm,_⟩|⟨e,he,_,rfl⟩
 .exact gd q hm
 .exact hF _<|gd e he
def FU{on:Bool}{p:Int}{t:Tie}(gd:∀e∈es,e.B.ok)(h0:0<=p)(h1:p<16):∀e∈setT on p t es,e.B.ok :=
 U4 (U4 gd λ_ o=>Nv o h0 h1) λ_ o=>Nv o h0 h1
def Ed{on:Bool}{p:Int}{t:Tie}(es:List En):(setT on p t es).map (·.num)=es.map (·.num):=by unfold setT;rw[NY,NY]
def JX{on:Bool}{p:Int}{t:Tie}(es:List En):enA (setT on p t es)=enA es:=by unfold setT;rw[Wv,Wv]
abbrev ZZ(Y:Yd)(l:List Tie):Yd:=l.foldl (λY r=>{Y with es:=setT (onT Y r.1<|Y.ts[r.1.toNat]?.getD (0,0,0)) r.1 (Y.ts[r.1.toNat]?.getD (0,0,0)) Y.es}) Y
def J7(Y:Yd)(l:List Tie)(r:Tie):ZZ Y (l++[r])={ZZ Y l with es:=setT (onT (ZZ Y l) r.1<|(ZZ Y l).ts[r.1.toNat]?.getD (0,0,0)) r.1 ((ZZ Y l).ts[r.1.toNat]?.getD (0,0,0)) (ZZ Y l).es}:=by unfold ZZ;rw[List.foldl_append];rfl
structure Same(Y Z:Yd):Prop where
 y:Z.y=Y.y
 lv:Z.lv=Y.lv
 st:Z.st=Y.st
 fl:Z.fl=Y.fl
 rd:Z.rd=Y.rd
 bs:Z.bs=Y.bs
 ts:Z.ts=Y.ts
 most:Z.most=Y.most
 lives:Z.lives=Y.lives
 fallen:Z.fallen=Y.fallen
 road:Z.road=Y.road
 num:Z.es.map (·.num)=Y.es.map (·.num)
 enA:enA Z.es=enA Y.es
variable {Z:Yd}
def Same.adr(s:Same Y Z):Z.adr=Y.adr:=by unfold Yd.adr;rw[s.y,s.lv,s.st,s.fl,s.rd,s.enA]
def Same.refl:Same Y Y:=⟨rfl,rfl,rfl,rfl,rfl,rfl,rfl,rfl,rfl,rfl,rfl,rfl,rfl⟩
def Same.trans{W:Yd}(a:Same Y Z)(b:Same Z W):Same Y W:=⟨b.y.trans a.y,b.lv.trans a.lv,b.st.trans a.st,b.fl.trans a.fl,b.rd.trans a.rd,b.bs.trans a.bs,b.ts.trans a.ts,b.most.trans a.most,b.lives.trans a.lives,b.fallen.trans a.fallen,b.road.trans a.road,b.num.trans a.num,b.enA.trans a.enA⟩
def Same.setT{on:Bool}{p:Int}{t:Tie}:Same Y {Y with es:=setT on p t Y.es}:=⟨rfl,rfl,rfl,rfl,rfl,rfl,rfl,rfl,rfl,rfl,rfl,Ed _,JX _⟩
def YT:∀(l:List Tie) (Y:Yd),Same Y (ZZ Y l)
 |[],_=>.refl
 |_::l,_=>Same.setT.trans<|YT l _
section
variable {Y:Yd}
def JG{b:Int}(no:fm Y.bs Y.ts)(x:fe h Y)(gd:∀e∈Y.es,e.B.ok)(k:∀g,fe g (ZZ Y<|gh b 0 Y.ts)->(∀e∈(ZZ Y<|gh b 0 Y.ts).es,e.B.ok)->Ex Y.adr h g->Q .non g):wF P (n+3) "Yard.set_ties_of" [.ref Y.y,.int b] h Q X:=by
 have xi:=x.ins;have h16:=no.sixteen;refine X1 ?_;refine' XI no.sixteen λp g0 hp x0 e0=>?_;fail;have x':=x.ext x0;have npA:p∉Y.adr:=λz=>x.taken z hp;refine Zo (λi e g=>Sm3 λv2 v3 v4=>Cj4 (e=[eM<|.ref Y.y,eM<|.int b,v2,v3,v4]) (fe g<|ZZ Y<|(gh b 0 Y.ts).take i) ((∀e∈(ZZ Y<|(gh b 0 Y.ts).take i).es,e.B.ok))<|Ex Y.adr g0 g) ⟨_,_,_,rfl,x',gd,Ex.refl⟩ (λi e g _ ⟨_,_,_,_,_,_,z⟩=>lsE<|z.get npA e0) ?_ ?_
 .rintro i v e g hv ⟨v2,v3,v4,rfl,y,gi,xg⟩ K hK;let⟨r,hr,rfl⟩:=Yy hv;have sm:=YT ((gh b 0 Y.ts).take i) Y;have rg:=(WG (b:=b) (l:=Y.ts) (k:=0)).2 r<|ô hr;obtain⟨q,hq⟩:∃q:Nat,r.1=q:=⟨r.1.toNat,by lia⟩
  have hql:q<Y.ts.length:=by lia
  have et:(ZZ Y<|(gh b 0 Y.ts).take i).ts[q]?=eM Y.ts[q]:=by rw[sm.ts];exact É hql
  have lo:=no.tie _<|Ğ hql;have yi:=y.ins;rw[sm.y]at yi;let⟨r1,r2,r3⟩:=r;dsimp only at hq;subst hq;unfold trV;fail;rw[<-sm.y];refine WC y et (by have:=lo.2.2.1;lia) gi λg1 y1 xg1=>?_;rw[sm.adr]at xg1;fail;rw[sm.y];refine hK _ _ ⟨_,_,_,rfl,?_,?_,xg.trans xg1⟩
  .rw[ZC hr,J7];dsimp only;rw[Ö,et];exact y1
  .rw[ZC hr,J7];dsimp only;rw[Ö,et];exact FU gi (by lia) (by lia)
 .rintro e g ⟨v2,v3,v4,rfl,y,gi,xg⟩;rw[À,Ē]at y gi;refine' k g y gi ((Ex.of x0).trans xg)
end
abbrev YG(b:Int)(es:List En):List En:=es.filter λe=>gC (e.num≠b)
def ME(b:Int)(es:List En):Ze (stands es) b=stands (YG b es):=by unfold Ze stands YG;rw[List.filter_map];rfl
def Xz(b:Int)(es:List En):(YG b es).Sublist es:=ħ
def W4{fs:List En}(h:es.Sublist fs):(enA es).Sublist<|enA fs:=by
 induction h with
 |slnil=>exact .slnil
 |cons a _ ih=>unfold enA at ih ⊢;rw[ξ];exact ih.trans<|List.sublist_append_right _ _
 |cons_cons a _ ih=>unfold enA at ih ⊢;rw[ξ,ξ];exact(Ŵ _).append ih
def fe.drop(x:fe h Y)(b:Int):fe (upd h Y.st<|.dct<|Zb rfV<|O.stands<|YG b Y.es) {Y with es:=YG b Y.es}:=by
 let⟨⟨a1,a2,a3,a4⟩,⟨b1,b2,b3⟩,⟨c1,c2⟩,d1⟩:=Yd.five x.nd;have sb:=Xz b Y.es;have nb:∀a∈enA (YG b Y.es),a≠Y.st:=λa ha=>Yd.sep x.nd (by simp)<|(W4 sb).subset ha;refine⟨(eR a2).trans x.ins,(eR b1).trans x.lives,eS,(eR c1.symm).trans x.fallen,(eR c2.symm).trans x.road,λq hq=>(x.brs q<|sb.subset hq).off hq nb,?_,?_⟩
 .exact((Ŵ _).append<|W4 sb).nodup x.nd
 .exact(sb.map _).nodup x.key
def fe.setFallen(x:fe h Y)(l:List<|Int×Bool):fe (upd h Y.fl<|.dct<|Zb Val.bl l) {Y with fallen:=l}:=by let⟨⟨a1,a2,a3,a4⟩,⟨b1,b2,b3⟩,⟨c1,c2⟩,d1⟩:=Yd.five x.nd;exact⟨(eR a3).trans x.ins,(eR b2).trans x.lives,(eR c1).trans x.stand,eS,(eR d1.symm).trans x.road,λe he=>(x.brs e he).off he λb hb=>Yd.sep x.nd (by simp) hb,x.nd,x.key⟩
section
variable {Y:Yd}
def Dq{b:Int}(no:fm Y.bs Y.ts)(x:fe h Y)(gd:∀e∈Y.es,e.B.ok)(hb:b∈Y.es.map (·.num))(k:∀g,fe g (ZZ {Y with es:=YG b Y.es}<|gh b 0 Y.ts)->(∀e∈(ZZ {Y with es:=YG b Y.es}<|gh b 0 Y.ts).es,e.B.ok)->Ex Y.adr h g->Q .non g):wF P (n+4) "Yard.fall_of_bridge" [.ref Y.y,.int b] h Q X:=by
 have xi:=x.ins;have xs:=x.stand;obtain⟨a,lk⟩:∃a,(stands Y.es).lookup b=eM a:=ZW (by rw[ZL];exact hb);refine YV ?_
 exists Jn xs rfl
 rw[YX,lk];walk_at "p";refine UA xs rfl (by rw[ZE,lk];rfl) ?_;rw[Xl,ME];dsimp only;have y1:=x.drop b;have x1:Ex Y.adr h<|upd h Y.st<|.dct<|Zb rfV<|stands<|YG b Y.es:=Ex.upd (Þ _<|by simp);generalize upd h Y.st (.dct<|Zb rfV<|stands<|YG b Y.es)=g1 at y1 x1;have yi:=y1.ins;dsimp only at yi;refine' JG (Y:={Y with es:=YG b Y.es}) no y1 (λe he=>gd e<|(Xz b Y.es).subset he) λg2 y2 gd2 x2=>?_;refine' k g2 y2 gd2 (x1.trans<|x2.sub λa ha=>?_);exact((Ŵ _).append<|W4<|Xz b Y.es).subset ha
end
section
variable {Y:Yd}
def DQ{p:Nat}{t:Tie}(no:fm Y.bs Y.ts)(x:fe h Y)(gd:∀e∈Y.es,e.B.ok)(et:Y.ts[p]?=eM t)(hf:Y.fallen.lookup (p:Int)=eN)(hl:Y.fallen.length<=100)(k:∀g,fe g {Y with fallen:=Za Y.fallen p eP,es:=setT (onT {Y with fallen:=Za Y.fallen p eP} p t) p t Y.es}->Ex Y.adr h g->Q .non g):wF P (n+3) "Yard.fall_of_tie" [.ref Y.y,.int p] h Q X:=by
 have xi:=x.ins;have xf:=x.fallen;have hp:p<Y.ts.length:=(Ì.mp et).1;have htl:(Y.ts.map trV).length=Y.ts.length:=À _;have lo:=no.tie _<|ô et;refine XZ ?_
 exists JH
 fail;refine fQ (by simp) ?_
 exists eX (xs:=[.tup<|Y.bs.map .int,.tup<|Y.ts.map trV]) (v:=.tup<|Y.ts.map trV) rfl
 fail;refine fR (by rw[htl];simpa using hp) ?_
 exists XJ xf rfl
 rw[YX,hf];walk_at "p";refine ZM (k:=.int p) xf ⟨rfl,by rw[Xf];exact Ë hl<|by decide⟩ ?_;rw[ZA (val:=Val.bl)];have y1:=x.setFallen<|Za Y.fallen p eP;have x1:Ex Y.adr h<|upd h Y.fl<|.dct<|Zb Val.bl<|Za Y.fallen p eP:=Ex.upd (Þ _<|by simp);generalize upd h Y.fl (.dct<|Zb Val.bl<|Za Y.fallen p eP)=g1 at y1 x1;have yi:=y1.ins;dsimp only at yi;refine' WC (Y:={Y with fallen:=Za Y.fallen p eP}) y1 et (by have:=lo.2.2.1;lia) gd λg2 y2 x2=>?_;refine' k g2 y2 (x1.trans x2)
def DL{p:Nat}{t:Tie}(no:fm Y.bs Y.ts)(x:fe h Y)(gd:∀e∈Y.es,e.B.ok)(et:Y.ts[p]?=eM t){v:Bool}(hf:Y.fallen.lookup (p:Int)=eM v)(k:∀g,fe g {Y with fallen:=Ze Y.fallen p,es:=setT (onT {Y with fallen:=Ze Y.fallen p} p t) p t Y.es}->Ex Y.adr h g->Q .non g):wF P (n+3) "Yard.back_of_tie" [.ref Y.y,.int p] h Q X:=by
 have xi:=x.ins;have xf:=x.fallen;have lo:=no.tie _<|ô et;refine XU ?_
 exists Jn xf rfl
 rw[YX,hf];walk_at "p";refine UA xf rfl (by rw[ZE,hf];rfl) ?_;rw[Xl];dsimp only;have y1:=x.setFallen<|Ze Y.fallen p;have x1:Ex Y.adr h<|upd h Y.fl<|.dct<|Zb Val.bl<|Ze Y.fallen p:=Ex.upd (Þ _<|by simp);generalize upd h Y.fl (.dct<|Zb Val.bl<|Ze Y.fallen p)=g1 at y1 x1;have yi:=y1.ins;dsimp only at yi;refine' WC (Y:={Y with fallen:=Ze Y.fallen p}) y1 et (by have:=lo.2.2.1;lia) gd λg2 y2 x2=>?_;refine' k g2 y2 (x1.trans x2)
end
def At:(Zv own life most []).ok:=⟨ė,(λ_ m=>nomatch m),ė,(λ_ m=>nomatch m)⟩
def ZF{k:Int}{v:α}:(Za kvs k v).lookup k=eM v:=by
 unfold Za;split
 .rename_i h;induction kvs with
  |nil=>cases h
  |cons p r ih =>
   rw[Î,ä];by_cases e:p.1=k
   .simp[e]
   .have e2:(k==p.1)=eQ:=by simpa using λz=>e z.symm
    rw[ä,e2]at h;simp only[e,if_false,e2];exact ih h
 .rename_i h;have h:kvs.lookup k=eN:=Ś.mp h;rw[af,h];simp
section
variable {Y:Yd}
def Cz{b:Int}(no:fm Y.bs Y.ts)(x:fe h Y)(gd:∀e∈Y.es,e.B.ok)(hlv:Y.lives.lookup b=eM life)(hb:b∉Y.es.map (·.num))(hl:Y.lives.length<=100)(hel:Y.es.length<=100)
  (k:∀q t d g,(∀a∈[q,t,d],h a=eN)->fe g (ZZ {Y with lives:=Za Y.lives b<|life+1,es:=Y.es++[⟨b,q,t,d,Zv b (life+1) Y.most []⟩]}<|gh b 0 Y.ts)->(∀e∈(ZZ {Y with lives:=Za Y.lives b<|life+1,es:=Y.es++[⟨b,q,t,d,Zv b (life+1) Y.most []⟩]}<|gh b 0 Y.ts).es,e.B.ok)->Ex Y.adr h g->Q .non g):wF P (n+4) "Yard.back_of_bridge" [.ref Y.y,.int b] h Q X:=by
 have xi:=x.ins;have xs:=x.stand;have xl:=x.lives;have lk:(stands Y.es).lookup b=eN:=by
  cases z:(stands Y.es).lookup b with
  |none=>rfl
  |some q =>have:=ø (f:=(·.1))<|Zi z;rw[ZL]at this;exact gB this hb
 refine YZ ?_
 exists Jn xl rfl
 rw[YX,hlv];walk_at "p";refine XJ xs rfl ?_;rw[YX,lk];walk_at "p";refine Zz xl rfl (by rw[ZE,hlv];rfl) ?_;refine' ZM (k:=.int b) xl ⟨rfl,by rw[Xf];exact Ë hl<|by decide⟩ ?_;rw[ZA (val:=Val.int)];have Y1:=x.setLives<|Za Y.lives b<|life+1;have x1:Ex Y.adr h<|upd h Y.lv<|.dct<|Zb Val.int<|Za Y.lives b<|life+1:=Ex.upd (Þ _<|by simp);have keepN:∀{a:Ad},upd h Y.lv (.dct<|Zb Val.int<|Za Y.lives b<|life+1) a=eN->h a=eN:=λ{a} z=>by
  by_cases e:a=Y.lv
  .rw[e,eS]at z;cases z
  .rwa [eR e]at z
 generalize upd h Y.lv (.dct<|Zb Val.int<|Za Y.lives b<|life+1)=g1 at Y1 x1 keepN;have zi:=Y1.ins;have zl:=Y1.lives;dsimp only at zi zl;refine' Zz zl rfl (by rw[ZE,ZF];rfl) ?_;refine' Zf λpn g7 hpn x7 en=>?_;have Y7:=Y1.ext x7;have yi7:=Y7.ins;dsimp only at yi7;fail;intro q hq;have xq:Ext g7<|upd g7 q<|.ins "Bridge" []:=Ext.new hq;have eq:(upd g7 q<|.ins "Bridge" []) q=eM (.ins "Bridge" []):=eS;refine AC (rs:=[]) eq (xq.get en) (by simp) (by simp) λt d g8 ht hd ba x8=>?_;have x78:Ext g7 g8:=⟨λ{a o} e=>x8.get (by simpa using Zc e hq)<|xq.get e⟩
 have Y8:=Y7.ext x78;have ht7:g7 t=eN:=by cases z:g7 t with|none=>rfl|some o=>rw[xq.get z]at ht;cases ht
 have hd7:g7 d=eN:=by cases z:g7 d with|none=>rfl|some o=>rw[xq.get z]at hd;cases hd
 refine⟨rfl,?_⟩;have wi:=Y8.ins;have ws:=Y8.stand;dsimp only at wi ws;refine' ZM (k:=.int b) ws ⟨rfl,by rw[Xf];unfold stands;rw[À];exact Ë hel<|by decide⟩ ?_;rw[ZA (val:=rfV),YJ _<|by rw[ZL];exact hb];have Δ:stands Y.es++[(b,q)]=stands (Y.es++[⟨b,q,t,d,Zv b (life+1) Y.most []⟩]):=by unfold stands;rw[Û];rfl
 rw[Δ];have fr:∀a∈[q,t,d],g7 a=eN:=λa ha=>by simp only[Æ,Í,or_false]at ha;rcases ha with rfl|rfl|rfl<;>assumption
 have fr0:∀a∈[q,t,d],h a=eN:=λa ha=>keepN (by cases z:g1 a with|none=>rfl|some o=>have:=fr a ha;rw[x7.get z]at this;cases this);have Y9:=Y8.stands (e:=⟨b,q,t,d,Zv b (life+1) Y.most []⟩) ba hb λa ha z=>Y7.taken z<|fr a ha;have x9:Ex Y.adr h<|upd g8 Y.st<|.dct<|Zb rfV<|stands<|Y.es++[⟨b,q,t,d,Zv b (life+1) Y.most []⟩]:=(x1.trans<|.of<|x7.trans x78).trans (Ex.upd<|Þ _<|by simp);dsimp only at Y9;generalize upd g8 Y.st (.dct<|Zb rfV<|stands<|Y.es++[⟨b,q,t,d,Zv b (life+1) Y.most []⟩])=g9 at Y9 x9;have vi:=Y9.ins;dsimp only at vi;refine' JG (Y:={Y with lives:=Za Y.lives b<|life+1,es:=Y.es++[⟨b,q,t,d,Zv b (life+1) Y.most []⟩]}) no Y9 (λe he=>?_) λg2 y2 gd2 x2=>?_
 .rcases â.mp he with he|he
  .exact gd e he
  .rw[á.mp he];exact At
 refine' k q t d g2 fr0 y2 gd2 ⟨λ{a o} na ha=>x2.get (λz=>?_)<|x9.get na ha⟩;have z:a∈[Y.y,Y.lv,Y.st,Y.fl,Y.rd]++enA (Y.es++[⟨b,q,t,d,Zv b (life+1) Y.most []⟩]):=z;rw[X6,<-ĸ]at z;rcases â.mp z with z|z
 .exact na z
 .rw[fr0 a z]at ha;cases ha
end
abbrev wordsL:List<|List String:=[["tick"],["come"],["lost"],["fall","bridge"],["fall","tie"],["back","bridge"],["back","tie"]]
def F7{ws:List String}(hw:ws∈wordsL)(k:∀g,Ext h g->Q (.tup [.tup<|ws.map .str,.int c]) g):wF P (n+2) "read_deed" [.tup<|ws.map .str++[.int c]] h Q X:=by
 have hc:cut (ws.map Val.str++[.int c]) eN (eM (-1))=ws.map .str:=by simp only[wordsL,Æ,Í,or_false]at hw;rcases hw with rfl|rfl|rfl|rfl|rfl|rfl|rfl<;>rfl
 have hlast:atI (ws.map Val.str++[.int c]) (-1)=eM (.int c):=by simp only[wordsL,Æ,Í,or_false]at hw;rcases hw with rfl|rfl|rfl|rfl|rfl|rfl|rfl<;>rfl
 have hlen:ws.length<=2:=by simp only[wordsL,Æ,Í,or_false]at hw;rcases hw with rfl|rfl|rfl|rfl|rfl|rfl|rfl<;>decide
 refine NZ ?_;walk_at "p";refine fP (xs:=ws.map Val.str++[.int c]) (lo:=eN) (hi:=eM (-1)) (by rw[ã,À];intro z;have:=z.2;unfold fE at this;simp at this;lia) ?_;rw[hc];refine' ⟨Ë (by rw[À];exact hlen) (by decide),Xx (λ_=>eM<|.bl eP) trivial (λv hv K hK=>?_) ?_⟩
 .obtain⟨u,_,rfl⟩:=Ô.mp hv;walk_at "p";exact hK
 rw[show(ws.map Val.str).filterMap (λ_=>eM<|Val.bl eP)=(ws.map λ_=>eP).map Val.bl by rw[Μ,í];exact congrFun (cj (f:=λ_:String=>Val.bl eP)) ws];refine Zf λp1 g1 cp x1 e1=>?_
 exists Dg (bs:=ws.map λ_=>eP) e1 (XN _)
 have ha:(ws.map λ_=>eP).all id=eP:=by simp
 fail;refine fR (by simp) ?_;fail;have hin:∀{h:Hs},fj h .notin (.tup<|ws.map .str) (.tup<|wordsL.map λl=>.tup<|l.map .str)=eM eQ:=λ{h}=>by simp only[wordsL,Æ,Í,or_false]at hw;rcases hw with rfl|rfl|rfl|rfl|rfl|rfl|rfl<;>rfl
 refine eW (a:=eQ) hin ?_;walk_at "p";refine eX hlast ?_
 exists OS
 walk_at "p";refine eX hlast ?_;refine' k g1 x1
inductive Dd where
 |tick (b:Int)|come (b:Int)|lost (b:Int)|fallB (b:Int)|fallT (b:Int)|backB (b:Int)|backT (b:Int)
abbrev Dd.ws:Dd->List String
 |.tick _=>["tick"]|.come _=>["come"]|.lost _=>["lost"]|.fallB _=>["fall","bridge"]|.fallT _=>["fall","tie"]|.backB _=>["back","bridge"]|.backT _=>["back","tie"]
abbrev Dd.num:Dd->Int
 |.tick c=>c|.come c=>c|.lost c=>c|.fallB c=>c|.fallT c=>c|.backB c=>c|.backT c=>c
abbrev Dd.fn:Dd->String
 |.tick _=>"Yard.tick_of" | .come _=>"Yard.come" | .lost _=>"Yard.take_off" | .fallB _=>"Yard.fall_of_bridge" | .fallT _=>"Yard.fall_of_tie" | .backB _=>"Yard.back_of_bridge" | .backT _=>"Yard.back_of_tie"
noncomputable abbrev Dd.v(d:Dd):Val:=.tup<|d.ws.map .str++[.int d.num]
def Dd.words(d:Dd):d.ws∈wordsL:=by cases d<;>simp[Dd.ws,wordsL]
def Ym(x:Ext h g)(hp:g p=eN):h p=eN:=by
 cases z:h p with
 |none=>rfl
 |some o=>rw[x.get z]at hp;cases hp
variable {ts:List Tie}
def Ax{i:Int}(h0:0<=i)(h1:i<ts.length):atI (ts.map trV) i=eM (trV<|ts[i.toNat]?.getD (0,0,0)):=by
 have h2:i.toNat<ts.length:=by lia
 refine Z2 h0 ?_;rw[Ø,É h2];rfl
def BV{pre:List En}(x:fe h Y)(he:Y.es=pre++e::Ŀ)(o:e.B.ok)(hp:∀q∈e.B.ties,q.1<Y.ts.length)(hr:Y.road.length<=100000)
  (k:∀d g,fe g {Y with es:=pre++⟨e.num,e.b,e.t,d,e.B.ticked⟩::Ŀ,road:=Y.road++ZP Y.ts e.num e.B.told}->h d=eN->Ex Y.adr h g->Q .non g):wF P (n+5) "Yard.tick_of" [.ref Y.y,.int e.num] h Q X:=by
 have hm:e∈Y.es:=by rw[he];simp
 have lk:(stands Y.es).lookup e.num=eM e.b:=Yu (by rw[ZL];exact x.key)<|Ô.mpr ⟨e,hm,rfl⟩;let⟨xi,xl,xs,xf,xr,xb,xnd,xk⟩:=id x;refine Jo ?_
 exists Jn xs rfl
 rw[YX,lk];walk_at "p";refine Zz xs rfl (by rw[ZE,lk];rfl) ?_;have ba:=xb e hm;have bi:=ba.ins;refine' F6 ba o λp d g1 cp hd1 ba1 ep x1 npd=>?_;have Y1:=x.change he x1 ba1 (.inl rfl)<|.inr hd1;let⟨yi,yl,ys,yf,yr,yb,ynd,yk⟩:=id Y1;dsimp only at yi yl ys yf yr yb;have npa:∀a∈Y.adr,a≠p:=λa ha z=>x.taken ha<|z▸cp;have npr:Y.rd≠p:=npa _ (Þ _<|by simp);have hbm:e.b∈Y.adr:=Ê _ (WA hm).1;have htl:(sortI (e.B.told.ties.map (·.1))).length<=16:=by rw[sortI,ń,À];exact o.told.tlen
 have htie:∀i∈sortI (e.B.told.ties.map (·.1)),0<=i/\i<Y.ts.length:=λi hi=>by let⟨q,hq,rfl⟩:=Ô.mp<|mem_sort.mp hi;rw[show e.B.told.ties=e.B.ties from (Zr e.B.grown<|reck e.B.grown).2.1]at hq;exact⟨(o.rg q hq).1,hp q hq⟩
 refine' Zo (λi en g=>Sm3 λv2 v3 v4=>Cj4 (en=[eM<|.ref Y.y,eM<|.int e.num,v2,v3,v4]) (fe g {Y with es:=pre++⟨e.num,e.b,e.t,d,e.B.ticked⟩::Ŀ,road:=Y.road++(ZP Y.ts e.num e.B.told).take i}) (g p=eM (.lst<|Z1 e.B.told))<|Ex Y.adr h g) ⟨_,_,_,rfl,by rw[List.take_zero,ď];exact Y1,ep,x1.sub λa ha=>by rw[á.mp ha];exact hbm⟩ (λi en g _ ⟨_,_,_,_,_,z,_⟩=>lsE z) ?_ ?_
 .rintro i v en g hv ⟨v2,v3,v4,rfl,Yi,ep,xi⟩ K hK;let⟨pl,hpl,rfl⟩:=Yy hv;have hplm:=ô hpl;let⟨r0,r1⟩:=htie pl hplm;have et:=Ax (ts:=Y.ts) r0 r1;let⟨zi,zl,zs,zf,zr,zb,znd,zk⟩:=id Yi;dsimp only at zi zl zs zf zr zb;have hil:=(Ì.mp hpl).1
  exists eX (xs:=[.tup<|Y.bs.map .int,.tup<|Y.ts.map trV]) (v:=.tup<|Y.ts.map trV) rfl
  exists eX et
  exists EY
  refine' Yn zr ?_ ?_
  .rw[À,ã,ÿ];exact Ë (by lia:_<=100016) (by decide)
  dsimp only;have es:(ZP Y.ts e.num e.B.told)[i]?=eM (e.num,ZY Y.ts pl e.num,pl,Zg e.B.told pl):=by unfold ZP;rw[Ø,hpl];rfl
  have Y2:=Yi.setRoad<|Y.road++(ZP Y.ts e.num e.B.told).take (i+1);dsimp only at Y2;have er:(Y.road++(ZP Y.ts e.num e.B.told).take i).map rdV++[rdV (e.num,ZY Y.ts pl e.num,pl,Zg e.B.told pl)]=(Y.road++(ZP Y.ts e.num e.B.told).take (i+1)).map rdV:=by rw[ZC es,<-ĸ,Û (l₂:=[_])];rfl
  have er':(Y.road++(ZP Y.ts e.num e.B.told).take i).map rdV++[.tup [.int e.num,.int<|far (Y.ts[pl.toNat]?.getD (0,0,0)) e.num,.int pl,(Zg e.B.told pl).v]]=(Y.road++(ZP Y.ts e.num e.B.told).take (i+1)).map rdV:=er;rw[er'];refine' hK _ _ ⟨_,_,_,rfl,Y2,(eR npr.symm).trans ep,xi.trans<|Ex.upd<|Þ _<|by simp⟩
 .rintro en g ⟨v2,v3,v4,rfl,Yi,ep,xi⟩;rw[show(Z1 e.B.told).length=(ZP Y.ts e.num e.B.told).length by unfold Z1 ZP;rw[À,À],Ē]at Yi;refine' k d g Yi hd1 xi
def Gy{d:Dd}(x:fe h Y)(k:∀(g:Hs) (Q':Q1),Ext h g->fe g Y->(∀v g',Q .non g'->Q' v g')->wF P (n+5) d.fn [.ref Y.y,.int d.num] g Q' X):wF P (n+6) "Yard.deed" [.ref Y.y,d.v] h Q X:=by
 have xi0:=x.ins;refine Ov ?_;refine' F7 d.words λg1 x1=>?_;have x':=x.ext x1;have xi:=x'.ins;cases d<;>(
   fail
   repeat (first
     |(refine eW (a:=eQ) rfl ?_;fail;refine fR rfl ?_;fail)
     | (refine eW (a:=eP) rfl ?_;fail;refine fQ rfl ?_;fail))
   refine k g1 _ x1 x' λv g' q=>?_
   refine' q)
structure Yc where
 bs:List Int
 ts:List Tie
 most:Int
 lives:List<|Int×Int
 br:List<|Int×Br
 fallen:List<|Int×Bool
 road:List<|Int×Int×Int×L
abbrev enC(es:List En):List<|Int×Br:=es.map λe=>(e.num,e.B)
abbrev Yd.cc(Y:Yd):Yc:=⟨Y.bs,Y.ts,Y.most,Y.lives,enC Y.es,Y.fallen,Y.road⟩
abbrev upC(k:Int)(F:Br->Br)(l:List<|Int×Br):List<|Int×Br:=l.map λq=>if q.1=k then(q.1,F q.2)else q
abbrev EZ(on:Bool)(p:Int)(t:Tie)(l:List<|Int×Br):List<|Int×Br:=upC t.2.1 (tieF on p t.1 t.2.2)<|upC t.1 (tieF on p t.2.1 t.2.2) l
abbrev Yc.tie(C:Yc)(p:Int):Tie:=C.ts[p.toNat]?.getD (0,0,0)
abbrev onC(C:Yc)(p:Int):Bool:=!(C.fallen.lookup p).isSome&&((C.br.lookup (C.tie p).1).isSome&&(C.br.lookup (C.tie p).2.1).isSome)
abbrev Yc.set1(C:Yc)(p:Int):Yc:={C with br:=EZ (onC C p) p (C.tie p) C.br}
abbrev Yc.sets(C:Yc)(l:List Tie):Yc:=l.foldl (λC r=>C.set1 r.1) C
def Xj(es:List En):(enC es).map (·.1)=es.map (·.num):=by unfold enC;rw[í];rfl
def look_iff{k:Int}:(kvs.lookup k).isSome=gC (k∈kvs.map (·.1)):=by
 cases z:kvs.lookup k with
 |none=>exact(gy<|Xy z).symm
 |some v=>exact(gz (ø (f:=(·.1))<|Zi z)).symm
def Ji{k:Int}(es:List En):enC (Yr k F es)=upC k F (enC es):=by
 unfold enC Yr upC;rw[í,í];refine Ċ λe _=>?_;show((if e.num=k then({e with B:=F e.B}:En)else e).num,(if e.num=k then({e with B:=F e.B}:En)else e).B)=if e.num=k then(e.num,F e.B)else(e.num,e.B)
 split<;>rfl
def Ep{on:Bool}{p:Int}{t:Tie}(es:List En):enC (setT on p t es)=EZ on p t (enC es):=by unfold setT EZ;rw[Ji,Ji]
def Ph{k:Int}:((enC es).lookup k).isSome=((stands es).lookup k).isSome:=look_iff.trans ((decide_eq_decide.mpr<|by rw[Xj,ZL]).trans look_iff.symm)
def Q5{p:Int}:onT Y p (Y.ts[p.toNat]?.getD (0,0,0))=onC Y.cc p:=by unfold onT onC;rw[<-Ph,<-Ph];rfl
def UC{p:Int}:({Y with es:=setT (onT Y p<|Y.ts[p.toNat]?.getD (0,0,0)) p (Y.ts[p.toNat]?.getD (0,0,0)) Y.es}:Yd).cc=Y.cc.set1 p:=by rw[Q5];unfold Yd.cc Yc.set1;dsimp only;rw[Ep];rfl
def O2:∀(l:List Tie) (Y:Yd),(ZZ Y l).cc=Y.cc.sets l
 |[],_=>rfl
 |r::l,Y=>(O2 l _).trans (congrArg (Yc.sets · l)<|UC (Y:=Y) (p:=r.1))
abbrev step(C:Yc):Dd->Option Yc
 |.tick b=>(C.br.lookup b).map λB=>{C with br:=upC b Br.ticked C.br,road:=C.road++ZP C.ts b B.told}
 |.come p=>if p<0 then eN else(C.road[p.toNat]?).map λr=>{C with br:=upC r.2.1 (Zy · r.2.2.1 r.2.2.2) C.br,road:=C.road.eraseIdx p.toNat}
 |.lost p=>if p<0 then eN else(C.road[p.toNat]?).map λr=>{C with road:=C.road.eraseIdx p.toNat}
 |.fallB b=>if(C.br.lookup b).isSome then eM (Yc.sets {C with br:=Ze C.br b}<|gh b 0 C.ts)else eN
 |.fallT p=>if(0<=p/\p<C.ts.length)/\(C.fallen.lookup p).isSome=eQ then eM (Yc.set1 {C with fallen:=Za C.fallen p eP} p)else eN
 |.backB b=>if(C.br.lookup b).isSome then eN else(C.lives.lookup b).map λl=>Yc.sets {C with lives:=Za C.lives b<|l+1,br:=C.br++[(b,Zv b (l+1) C.most [])]}<|gh b 0 C.ts
 |.backT p=>if(C.fallen.lookup p).isSome then eM (Yc.set1 {C with fallen:=Ze C.fallen p} p)else eN
structure Bok(m:Nat)(B:Br):Prop where
 ok:B.ok
 pl:∀t∈B.ties,t.1<m
def Bok.ticked{m:Nat}(o:Bok m B):Bok m B.ticked:=⟨o.ok.ticked,λt ht=>o.pl t<|by rwa [show B.ticked.ties=B.ties from (Zr B.grown<|reck B.grown).2.1]at ht⟩
def Bok.heard{m:Nat}(o:Bok m B){p:Int}{l:L}:Bok m<|Zy B p l:=⟨o.ok.heard,λt ht=>o.pl t<|by revert ht;unfold Zy;split<;>(try split)<;>exact id⟩
def Bok.tieF{m:Nat}(o:Bok m B){on:Bool}{p far:Int}(h0:0<=p)(h1:p<m)(hm:m<=16):Bok m<|O.tieF on p far c B:=⟨Nv o.ok h0 (by lia),λt ht=>by
  unfold O.tieF at ht
  split at ht
  . unfold upB at ht
    split at ht
    . exact o.pl t ht
    . rcases YQ ht with e|ht
      . rw[e];exact h1
      . exact o.pl t ht
  . exact o.pl t<|ZO ht⟩
structure Yc.gd(C:Yc)(N:Nat):Prop where
 no:fm C.bs C.ts
 nd:(C.br.map (·.1)).Nodup
 sub:∀q∈C.br,q.1∈C.bs
 ok:∀q∈C.br,Bok C.ts.length q.2
 lv:C.lives.map (·.1)=C.bs
 fn:(C.fallen.map (·.1)).Nodup
 fr:∀q∈C.fallen,0<=q.1/\q.1<C.ts.length
 len:C.road.length<=16*N
def JE{k:Int}(l:List<|Int×Br):(upC k F l).map (·.1)=l.map (·.1):=by unfold upC;rw[í];refine Ċ λe _=>?_;show(if e.1=k then(e.1,F e.2)else e).1=e.1;split<;>rfl
def Wl{k:Int}{l:List (Int×Br)}{R:Br->Prop}(h:∀q∈l,R q.2)(hF:∀B,R B->R (F B)):∀q∈upC k F l,R q.2:=λq hq=>by
 let⟨e,he,rfl⟩:=Ô.mp hq;split
 .exact hF _<|h e he
 .exact h e he
def keys_sub{l:List (Int×Br)}{bs:List Int}:(∀q∈l,q.1∈bs)↔∀x∈l.map (·.1),x∈bs:=⟨λh x hx=>by let⟨q,hq,rfl⟩:=Ô.mp hx;exact h q hq,λh q hq=>h _<|ø hq⟩
variable {C:Yc} {N:Nat} {M:Nat} {rd:List (Int×Int×Int×L)}
def Yc.gd.upC{k:Int}(g:C.gd N)(hF:∀B,Bok C.ts.length B->Bok C.ts.length (F B))(hr:rd.length<=16*M):({C with br:=O.upC k F C.br,road:=rd}:Yc).gd M :=
 ⟨g.no,by show((O.upC k F C.br).map (·.1)).Nodup;rw[JE];exact g.nd,keys_sub.mpr (by show ∀x∈(O.upC k F C.br).map (·.1),_;rw[JE];exact keys_sub.mp g.sub),Wl g.ok hF,g.lv,g.fn,g.fr,hr⟩
def Yc.gd.set1{p:Int}(g:C.gd N)(h0:0<=p)(h1:p<C.ts.length):(C.set1 p).gd N :=
 (g.upC (M:=N) (k:=(C.tie p).1) (F:=tieF (onC C p) p (C.tie p).2.1 (C.tie p).2.2) (λ_ o=>o.tieF h0 h1 g.no.sixteen) g.len).upC (λ_ o=>o.tieF h0 h1 g.no.sixteen) g.len
def Yc.gd.sets{N:Nat}:∀{l:List Tie}{C:Yc},C.gd N->(∀r∈l,0<=r.1/\r.1<C.ts.length)->(C.sets l).gd N
 |[],_,g,_=>g
 |r::l,C,g,h=>Yc.gd.sets (l:=l) (C:=C.set1 r.1) (g.set1 (h r<|by simp).1 (h r<|by simp).2) λq hq=>h q (by simp[hq])
def Yc.gd.more(g:C.gd N)(h:N<=M):C.gd M:=⟨g.no,g.nd,g.sub,g.ok,g.lv,g.fn,g.fr,Õ g.len<|dJ _ h⟩
def Yl:∀(l:List Tie) (C:Yc),(C.sets l).bs=C.bs/\(C.sets l).ts=C.ts/\(C.sets l).most=C.most
 |[],_=>⟨rfl,rfl,rfl⟩
 |r::l,C=>Yl l<|C.set1 r.1
def XR{b:Int}:∀r∈gh b 0 ts,0<=r.1/\r.1<ts.length:=λr hr=>by have:=(WG (b:=b) (l:=ts) (k:=0)).2 r hr;lia
def keys_look{b:Int}:(C.br.lookup b).isSome=eP↔b∈C.br.map (·.1):=by rw[look_iff];simp
def KS{b:Int}(o:B.ok):(ZP ts b B.told).length<=16:=by unfold ZP;rw[À,sortI,ń,À];exact o.told.tlen
def UL{D:Yc}{d:Dd}(g:C.gd N)(s:step C d=eM D):D.gd (N+1)/\D.bs=C.bs/\D.ts=C.ts/\D.most=C.most:=by
 have hlen:=g.len;cases d with
 |tick b =>let⟨B,hB,rfl⟩:=Ä.mp s;have ok:B.ok:=(g.ok _<|Zi hB).ok;have:=KS (ts:=C.ts) (b:=b) ok;exact⟨g.upC (λ_ o=>o.ticked) (by rw[ã];lia),rfl,rfl,rfl⟩
 |come p =>
  dsimp only[step]at s;split at s
  .cases s
  .obtain⟨r,hr,rfl⟩:=Ä.mp s;exact⟨g.upC (λ_ o=>o.heard)<|Õ (b5 _ _)<|by lia,rfl,rfl,rfl⟩
 |lost p =>
  dsimp only[step]at s;split at s
  .cases s
  .obtain⟨r,hr,rfl⟩:=Ä.mp s;exact⟨⟨g.no,g.nd,g.sub,g.ok,g.lv,g.fn,g.fr,Õ (b5 _ _)<|by lia⟩,rfl,rfl,rfl⟩
 |fallB b =>
  dsimp only[step]at s;split at s
  .cases s;refine⟨Yc.gd.more (Yc.gd.sets ⟨g.no,YL g.nd b,λq hq=>g.sub q<|ZO hq,λq hq=>g.ok q<|ZO hq,g.lv,g.fn,g.fr,hlen⟩ XR) (by lia),?_⟩;let⟨e1,e2,e3⟩:=Yl (gh b 0 C.ts) {C with br:=Ze C.br b};exact⟨e1,e2,e3⟩
  .cases s
 |fallT p =>
  dsimp only[step]at s;split at s
  .rename_i h;cases s;refine⟨Yc.gd.more (Yc.gd.set1 ⟨g.no,g.nd,g.sub,g.ok,g.lv,WN g.fn p eP,λq hq=>?_,hlen⟩ h.1.1 h.1.2) (by lia),rfl,rfl,rfl⟩;rcases YQ hq with e|hq
   .rw[e];exact h.1
   .exact g.fr q hq
  .cases s
 |backB b =>
  dsimp only[step]at s;split at s
  .cases s
  .rename_i h;let⟨l,hl,rfl⟩:=Ä.mp s;have hk:(C.lives.lookup b).isSome=eP:=by rw[hl];rfl
   have hb:b∈C.bs:=by rw[<-g.lv];rw[look_iff]at hk;exact of_decide_eq_true hk
   have hn:b∉C.br.map (·.1):=λz=>h<|keys_look.mpr z;refine⟨Yc.gd.more (Yc.gd.sets ⟨g.no,?_,λq hq=>?_,λq hq=>?_,?_,g.fn,g.fr,hlen⟩ XR) (by lia),?_⟩
   .show((C.br++[(b,Zv b (l+1) C.most [])]).map (·.1)).Nodup;rw[Û,å];exact⟨g.nd,by simp,λa ha c hc=>by have hc:c=b:=á.mp hc;rw[hc];exact λz=>hn<|z▸ha⟩
   .rcases â.mp hq with hq|hq
    .exact g.sub q hq
    .rw[á.mp hq];exact hb
   .rcases â.mp hq with hq|hq
    .exact g.ok q hq
    .rw[á.mp hq];exact⟨At,λt ht=>nomatch ht⟩
   .show(Za C.lives b<|l+1).map (·.1)=_;rw[Z6,gw hk];exact g.lv
   .exact Yl (gh b 0 C.ts) {C with lives:=Za C.lives b<|l+1,br:=C.br++[(b,Zv b (l+1) C.most [])]}
 |backT p =>
  dsimp only[step]at s;split at s
  .rename_i h;cases s;let⟨v,hv⟩:=ë.mp h;have hp:=g.fr _<|Zi hv;exact⟨Yc.gd.more (Yc.gd.set1 ⟨g.no,g.nd,g.sub,g.ok,g.lv,YL g.fn p,λq hq=>g.fr q<|ZO hq,hlen⟩ hp.1 hp.2) (by lia),rfl,rfl,rfl⟩
  .cases s
def Nc{b:Int}:(Y.cc.br.lookup b).isSome=((stands Y.es).lookup b).isSome:=Ph
def Aw{pre:List En}(he:Y.es=pre++e::Ŀ)(nd:(Y.es.map (·.num)).Nodup):enC (pre++⟨e.num,e.b,t,d,F e.B⟩::Ŀ)=upC e.num F (enC Y.es):=by rw[he]at nd ⊢;rw[<-Ji,OA nd];unfold enC;rw[Û,Û];rfl
def UZ{pre:List En}(he:Y.es=pre++e::Ŀ)(ht:t=e.t)(hd:d=e.d\/h d=eN):∀a∈({Y with es:=pre++⟨e.num,e.b,t,d,B⟩::Ŀ,road:=rd}:Yd).adr,a∈Y.adr\/h a=eN:=λa ha=>by
 subst ht;unfold Yd.adr at ha ⊢;rw[he,YS];dsimp only at ha;rw[YS]at ha;simp only[â,Æ,Í,or_false]at ha ⊢;rcases hd with rfl|hd
 .exact .inl ha
 .rcases ha with ha|ha|(rfl|rfl|rfl)|ha
  .exact .inl<|.inl ha
  .exact .inl<|.inr<|.inl ha
  .exact .inl<|.inr<|.inr<|.inl<|.inl rfl
  .exact .inl<|.inr<|.inr<|.inl<|.inr<|.inl rfl
  .exact .inr hd
  .exact .inl<|.inr<|.inr<|.inr ha
def Wz:∀{l bs:List Int},l.Nodup->(∀x∈l,x∈bs)->l.length<=bs.length
 |[],_,_,_=>ĳ _
 |a::l,bs,nd,h=>by have ha:=h a (by simp);have:=Wz (l:=l) (bs:=bs.erase a) (ü.mp nd).2 λx hx=>(List.mem_erase_of_ne λz:x=a=>(ü.mp nd).1<|z▸hx).mpr (h x<|by simp[hx]);rw[bR ha]at this;have:=List.length_pos_of_mem ha;rw[Ò];lia
def U5{p:Int}{β:Type}{f:Int×Int×Int×L->β}(hp:¬(0<=p/\p<Y.road.length)):(if p<0 then eN else(Y.cc.road[p.toNat]?).map f)=eN:=by
 split
 .rfl
 .rw[show Y.cc.road[p.toNat]?=eN from Ń<|by show Y.road.length<=_;lia];rfl
structure Mv(h:Hs)(Y:Yd)(g:Hs)(Z:Yd):Prop where
 y:Z.y=Y.y
 at_:fe g Z
 nw:∀a∈Z.adr,a∈Y.adr\/h a=eN
 ex:Ex Y.adr h g
def Mv.off(m:Mv h Y g Z)(na:a∉Y.adr)(e:h a=eM o):a∉Z.adr/\g a=eM o:=⟨λz=>(m.nw a z).elim na λy=>(by rw[e]at y;cases y),m.ex.get na e⟩
def MX{b:Int}(h:(stands es).lookup b=eN):b∉es.map (·.num):=by rw[<-ZL];exact Xy h
section
variable {Y:Yd}
def Gr{d:Dd}(x:fe h Y)(gd:Y.cc.gd N)(hN:N<=6000)(sd:(step Y.cc d).isSome=eP)(k:∀(Y':Yd) g',step Y.cc d=eM Y'.cc->Mv h Y g' Y'->Q .non g'):wF P (n+6) "Yard.deed" [.ref Y.y,d.v] h Q X:=by
 refine Gy x λg Q' x1 x' hq=>?_;have no:fm Y.bs Y.ts:=gd.no;have ok:∀e∈Y.es,Bok Y.ts.length e.B:=λe he=>gd.ok (e.num,e.B)<|Ô.mpr ⟨e,he,rfl⟩;have oks:∀e∈Y.es,e.B.ok:=λe he=>(ok e he).ok;have hl:Y.road.length<=16*N:=gd.len;have key:=x.key;have xi:=x'.ins;have xs:=x'.stand;have xf:=x'.fallen;have xl:=x'.lives;have fin:∀{Y':Yd} {g'},fe g' Y'->step Y.cc d=eM Y'.cc->Y'.y=Y.y->(∀a∈Y'.adr,a∈Y.adr\/g a=eN)->Ex Y.adr g g'->∀v,Q' v g':=λ{Y' g'} y s e f ex v=>hq v g'<|k Y' g' s ⟨e,y,λa ha=>(f a ha).imp id λz=>Ym x1 z,(Ex.of x1).trans ex⟩;have bad:∀{p:Prop},step Y.cc d=eN->p:=λ{p} s=>by rw[s]at sd;cases sd
 have h10:Y.lives.length<=10:=by have e:=congrArg List.length gd.lv;rw[À]at e;have:=no.ten;have:Y.cc.bs.length=Y.bs.length:=rfl;have:Y.cc.lives.length=Y.lives.length:=rfl;lia
 have e10:Y.es.length<=10:=by
  have:=Wz gd.nd<|keys_sub.mp gd.sub;have h2:(Y.cc.br.map (·.1)).length=Y.es.length:=by show((enC Y.es).map (·.1)).length=_;rw[Xj,À]
  have:=no.ten;have:Y.cc.bs.length=Y.bs.length:=rfl;lia
 have f16:Y.fallen.length<=16:=by
  have:=Ye (m:=16) gd.fn λx hx=>by let⟨q,hq,rfl⟩:=Ô.mp hx;have:=gd.fr q hq;have:=no.sixteen;have:Y.cc.ts.length=Y.ts.length:=rfl;lia
  rw[À]at this;exact this
 clear sd;cases d with
 |tick b =>
  show wF P (n+5) "Yard.tick_of" [.ref Y.y,.int b] g Q' X;cases lk:(stands Y.es).lookup b with
  |none =>refine bad ?_;have:=Nc (Y:=Y) (b:=b);rw[lk]at this;show(Y.cc.br.lookup b).map _=eN;rw[Option.isSome_eq_false_iff.mp this |> a9.mp];rfl
  |some a =>
   let⟨e,pre,Ŀ,he,rfl,rfl⟩:=Xg lk;have hm:e∈Y.es:=by rw[he];simp
   refine BV x' he (oks e hm) (ok e hm).pl (by lia) λd' g2 y2 hd x2=>?_;refine fin y2 ?_ rfl (UZ he rfl<|.inr hd) x2 .non;show(Y.cc.br.lookup e.num).map _=_;rw[show Y.cc.br.lookup e.num=eM e.B from Yu gd.nd<|Ô.mpr ⟨e,hm,rfl⟩];unfold Yd.cc;dsimp only;rw[Aw (F:=Br.ticked) he key];rfl
 |come p =>
  show wF P (n+5) "Yard.come" [.ref Y.y,.int p] g Q' X;by_cases hp:0<=p/\p<Y.road.length
  .obtain⟨q,rfl⟩:∃q:Nat,p=q:=⟨p.toNat,by lia⟩
   have hr:=É (l:=Y.road) (i:=q) (by lia);generalize Y.road[q]'(by lia)=r at hr;have st:step Y.cc (.come q)=eM {Y.cc with br:=upC r.2.1 (Zy · r.2.2.1 r.2.2.2) Y.cc.br,road:=Y.road.eraseIdx q}:=by show(if(q:Int)<0 then eN else(Y.road[(q:Int).toNat]?).map _)=_;rw[gx (by lia),Ö,hr];rfl
   cases lk:(stands Y.es).lookup r.2.1 with
   |none =>refine D7 x' hr (by lia) (MX lk) λg2 y2 x2=>fin y2 ?_ rfl (λa ha=>.inl ha) x2 .non;rw[st];unfold Yd.cc;dsimp only;rw[<-Ji,Wb<|MX lk]
   |some a =>
    let⟨e,pre,Ŀ,he,hn,rfl⟩:=Xg lk;have hm:e∈Y.es:=by rw[he];simp
    refine Hu x' hr (by lia) he hn.symm (oks e hm) λg2 y2 x2=>fin y2 ?_ rfl (UZ he rfl<|.inl rfl) x2 .non;rw[st];unfold Yd.cc;dsimp only;rw[<-hn,Aw (F:=(Zy · r.2.2.1 r.2.2.2)) he key]
  .exact bad<|U5 hp
 |lost p =>
  show wF P (n+5) "Yard.take_off" [.ref Y.y,.int p] g Q' X;by_cases hp:0<=p/\p<Y.road.length
  .obtain⟨q,rfl⟩:∃q:Nat,p=q:=⟨p.toNat,by lia⟩
   have hr:=É (l:=Y.road) (i:=q) (by lia);refine XS x' hr (by lia) λg2 y2 x2=>fin y2 ?_ rfl (λa ha=>.inl ha) (x2.sub λa ha=>by rw[á.mp ha];exact Þ _<|by simp) _;show(if(q:Int)<0 then eN else(Y.road[(q:Int).toNat]?).map _)=_;rw[gx (by lia),Ö,hr];rfl
  .exact bad<|U5 hp
 |fallB b =>
  show wF P (n+5) "Yard.fall_of_bridge" [.ref Y.y,.int b] g Q' X;have lc:=Nc (Y:=Y) (b:=b);cases lk:(stands Y.es).lookup b with
  |none =>rw[lk]at lc;exact bad (gx<|by rw[lc];decide)
  |some a =>
   rw[lk]at lc;refine Dq no x' oks (by rw[<-ZL];exact ø (f:=(·.1))<|Zi lk) λg2 y2 gd2 x2=>?_;have sm:=YT (gh b 0 Y.ts) {Y with es:=YG b Y.es};refine fin y2 ?_ sm.y (λa ha=>.inl ?_) x2 .non
   .rw[O2];refine(gw lc).trans ?_;congr 2;unfold Yd.cc;dsimp only;congr 1;unfold Ze enC YG;rw[List.filter_map];rfl
   .rw[sm.adr]at ha;exact((Ŵ _).append<|W4<|Xz b Y.es).subset ha
 |fallT p =>
  show wF P (n+5) "Yard.fall_of_tie" [.ref Y.y,.int p] g Q' X;have htl:(Y.ts.map trV).length=Y.ts.length:=À _;by_cases hp:0<=p/\p<Y.ts.length
  .obtain⟨q,rfl⟩:∃q:Nat,p=q:=⟨p.toNat,by lia⟩
   have et:=É (l:=Y.ts) (i:=q) (by lia);have eg:Y.ts[(q:Int).toNat]?.getD (0,0,0)=Y.ts[q]'(by lia):=by rw[Ö,et];rfl
   cases lk:Y.fallen.lookup (q:Int)with
   |none =>
    refine DQ no x' oks et lk (by lia) λg2 y2 x2=>fin y2 ?_ rfl (λa ha=>.inl ?_) x2 .non
    .refine(gw ⟨hp,by show(Y.fallen.lookup _).isSome=eQ;rw[lk];rfl⟩).trans<|congrArg eM ?_;have:=UC (Y:={Y with fallen:=Za Y.fallen q eP}) (p:=q);dsimp only at this;rw[eg]at this;exact this.symm
    .unfold Yd.adr at ha ⊢;dsimp only at ha
     rwa [JX]at ha
   |some v =>exact bad (gx λz=>by have z:=z.2;have:(Y.fallen.lookup (q:Int)).isSome=eQ:=z;rw[lk]at this;cases this)
  .exact bad<|gx λz=>hp z.1
 |backB b =>
  show wF P (n+5) "Yard.back_of_bridge" [.ref Y.y,.int b] g Q' X;have lc:=Nc (Y:=Y) (b:=b);cases ll:Y.lives.lookup b with
  |none =>
   refine bad ?_;dsimp only[step];split
   .rfl
   .show(Y.lives.lookup b).map _=eN;rw[ll];rfl
  |some life =>
   cases lk:(stands Y.es).lookup b with
   |some a =>rw[lk]at lc;exact bad<|gw lc
   |none =>
    rw[lk]at lc;refine Cz no x' oks ll (MX lk) (by lia) (by lia) λq t d' g2 fr y2 gd2 x2=>?_;have sm:=YT (gh b 0 Y.ts) {Y with lives:=Za Y.lives b<|life+1,es:=Y.es++[⟨b,q,t,d',Zv b (life+1) Y.most []⟩]};refine fin y2 ?_ sm.y (λa ha=>?_) x2 .non
    .rw[O2];refine(gx<|by rw[lc];decide).trans ?_;show(Y.lives.lookup b).map _=_;rw[ll];congr 2;unfold Yd.cc;dsimp only;unfold enC;rw[Û];rfl
    .rw[sm.adr]at ha;have z:a∈[Y.y,Y.lv,Y.st,Y.fl,Y.rd]++enA (Y.es++[⟨b,q,t,d',Zv b (life+1) Y.most []⟩]):=ha;rw[X6,<-ĸ]at z;rcases â.mp z with z|z
     .exact .inl z
     .exact .inr<|fr a z
 |backT p =>
  show wF P (n+5) "Yard.back_of_tie" [.ref Y.y,.int p] g Q' X;cases lk:Y.fallen.lookup p with
  |none =>exact bad (gx<|by show ¬(Y.fallen.lookup p).isSome=eP;rw[lk];decide)
  |some v =>
   have hp:=gd.fr _<|Zi lk;have hp2:p<Y.ts.length:=hp.2;obtain⟨q,rfl⟩:∃q:Nat,p=q:=⟨p.toNat,by have:0<=p:=hp.1;lia⟩
   have et:=É (l:=Y.ts) (i:=q) (by lia);have eg:Y.ts[(q:Int).toNat]?.getD (0,0,0)=Y.ts[q]'(by lia):=by rw[Ö,et];rfl
   refine DL no x' oks et lk λg2 y2 x2=>fin y2 ?_ rfl (λa ha=>.inl ?_) x2 .non
   .refine(gw<|by show(Y.fallen.lookup _).isSome=eP;rw[lk];rfl).trans<|congrArg eM ?_;have:=UC (Y:={Y with fallen:=Ze Y.fallen q}) (p:=q);dsimp only at this;rw[eg]at this;exact this.symm
   .unfold Yd.adr at ha ⊢;dsimp only at ha
    rwa [JX]at ha
end
abbrev Yc.at_(C:Yc)(b:Int):Br:=(C.br.lookup b).getD<|Zv 0 0 0 []
abbrev Yc.keys(C:Yc):List Int:=sortI (C.br.map (·.1))
abbrev Lh(C:Yc):List Val:=C.keys.map λb=>.tup [.int b,(C.at_ b).label.v]
abbrev Yc.downs(C:Yc):List Int:=C.bs.filter λb=>!(C.br.lookup b).isSome
abbrev Yc.cuts(C:Yc):List Int:=sortI (C.fallen.map (·.1))
def Yc.gd.ten(g:C.gd N):(C.br.map (·.1)).length<=10:=Õ (Wz g.nd<|keys_sub.mp g.sub) g.no.ten
def Yc.gd.f16(g:C.gd N):(C.fallen.map (·.1)).length<=16:=Ye (m:=16) g.fn λx hx=>by let⟨q,hq,rfl⟩:=Ô.mp hx;have:=g.fr q hq;have:=g.no.sixteen;lia
def NJ:C.keys.length=(C.br.map (·.1)).length:=(Ζ _ _).length_eq
def keys_mem{b:Int}:b∈C.keys↔(C.br.lookup b).isSome=eP:=by unfold Yc.keys;rw[mem_sort,keys_look]
def fe.at_(x:fe h Y){b:Int}(hb:(Y.cc.br.lookup b).isSome=eP):∃e∈Y.es,e.num=b/\(O.stands Y.es).lookup b=eM e.b/\Y.cc.at_ b=e.B/\fc h e.b e.t e.d e.B:=by
 rw[Nc]at hb;let⟨a,ha⟩:=ë.mp hb;let⟨e,pre,Ŀ,he,rfl,rfl⟩:=Xg ha;have hm:e∈Y.es:=by rw[he];simp
 refine⟨e,hm,rfl,ha,?_,x.brs e hm⟩;have:(enC Y.es).lookup e.num=eM e.B:=Yu (by rw[Xj];exact x.key)<|Ô.mpr ⟨e,hm,rfl⟩;show((enC Y.es).lookup e.num).getD _=_;rw[this];rfl
section
variable {Y:Yd}{N:Nat}
def Nw(x:fe h Y)(k:∀p g,h p=eN->Ext h g->g p=eM (.lst<|Y.road.map rdV)->Q (.ref p) g):wF P (n+1) "Yard.road" [.ref Y.y] h Q X:=by have xi:=x.ins;have xr:=x.road;refine NP ?_;refine' Zf k
def K8(x:fe h Y)(gd:Y.cc.gd N)(k:∀p g,h p=eN->Ext h g->g p=eM (.lst<|Lh Y.cc)->Q (.ref p) g):wF P (n+2) "Yard.labels" [.ref Y.y] h Q X:=by
 have xi:=x.ins;have xs:=x.stand;have ek:(stands Y.es).map (·.1)=Y.cc.br.map (·.1):=(ZL _).trans (Xj _).symm;have h10:=gd.ten;have kl:=NJ (C:=Y.cc);refine Kz ?_;refine' Uj xs (CS _) (by rw[ek];lia) (Zf λp1 g1 cp x1 e1=>?_);rw[ek]at e1;have x':=x.ext x1;have xi:=x'.ins;have xs:=x'.stand;refine' ⟨Ë (by rw[À];show Y.cc.keys.length<=10;lia) (by decide),?_⟩;refine XX (l:=Y.cc.keys) (λb=>.tup [.int b,(Y.cc.at_ b).label.v]) (lsE e1) (λnm hm K k1=>?_)<|Zf λp g2 hp x2 ep=>k p g2 (Ym x1 hp) (x1.trans x2) ep;let⟨e,he,en,lk,ea,ba⟩:=x'.at_<|keys_mem.mp hm;have bi:=ba.ins;walk_at "p";refine Zz xs rfl (by rw[ZE,lk];rfl) ?_
 exists Oz ba
 fail;rw[ea]at k1;exact k1
end
def MN{k:Nat}(q:∀c,Q (.int c) h):wF P (n+1) "_law_cell_at" [.scr ns,.int k] h Q X:=by
 refine KF ?_;refine' fS (λhc=>?_) (λhc=>?_)
 .fail;have hk:k<ns.length:=by lia
  refine Ih (v:=.int ns[k]) ?_ ?_
  .refine Z2 (by lia) ?_;rw[Ø];simp[hk]
  .exact q _
 .refine' q _
def NU{k:Nat}(hk:k<=100)(q:∀r,0<=r->Q (.int r) h):wF P (n+1) "_law_mixed" [.int c,.int k] h Q X:=by
 refine N3 ?_
 exists q _
 exact Int.ediv_nonneg (Ě _<|by decide) (by decide)
abbrev Nn(ns:List Int):Prop:=∀x∈ns,0<=x
def Jz{m:Nat}(hm:m<=100)(q:∀p (ns:List Int) g,h p=eN->Ext h g->g p=eM (.lst<|ns.map .int)->ns.length=m->Nn ns->Q (.ref p) g):wF P (n+2) "_law_draws" [.int c,.int m] h Q X:=by
 refine NG ?_;refine' Zf λp g1 hp x1 e1=>?_;refine' ⟨⟨by lia,by lia⟩,?_⟩;refine Zo (λi en g=>Sm3 λr v5 b=>∃ns:List Int,en=[eM<|.int c,eM<|.int m,eM<|.int r,eM<|.bl b,eM<|.ref p,v5]/\g p=eM (.lst<|ns.map .int)/\ns.length=i/\Nn ns/\Ext h g) ⟨_,_,_,[],rfl,e1,rfl,(λx hx=>gB hx Í),x1⟩ (λ_ _ _ _ _=>trivial) ?_ ?_
 .rintro i v en g hv ⟨r,v5,b,ns,rfl,e,hl,hn,x⟩ K hK;let⟨rfl,hi⟩:=XA hv;have put:∀{y:Int}{r':Int},0<=y->K [eM<|.int c,eM<|.int m,eM<|.int r',eM<|.bl b,eM<|.ref p,eM<|.int i] (upd g p<|.lst<|ns.map Val.int++[.int y]):=λ{y r'} hy=>by
   refine hK _ _ ⟨_,_,_,ns++[y],rfl,by rw[eS,Û];rfl,by rw[ã,hl];rfl,λz hz=>?_,⟨λe=>by rw[eR<|Zc e hp];exact x.get e⟩⟩;rcases â.mp hz with hz|hz
   .exact hn z hz
   .rw[á.mp hz];exact hy
  have hlim:(ns.map Val.int).length<lim:=by rw[À];exact Ë (by lia:ns.length<=100) (by decide)
  refine' fT (λhc=>?_) (λhc=>?_)
  .refine' fS (λhr=>?_) (λhr=>?_)
   .refine' put (Ě _<|by decide)
   .refine' NU (by lia) λy hy=>?_;refine' put hy
  .refine fR rfl ?_;refine' NU (by lia) λy hy=>?_;refine' put hy
 .rintro en g ⟨r,v5,b,ns,rfl,e,hl,hn,x⟩;rw[Wr]at hl;refine' q p ns g hp x e (by lia) hn
def nth(hi:i<ns.length)(hn:Nn ns):∃x,0<=x/\atI (ns.map Val.int) i=eM (.int x):=by refine⟨ns[i],hn _<|Ğ hi,Z2 (by lia) ?_⟩;rw[Ø];simp[hi]
def UG(ea:h a=eM (.lst<|ns.map .int))(hl:ns.length=14)(hn:Nn ns)(q:∀p (bs:List Int) g,h p=eN->Ext h g->g p=eM (.lst<|bs.map .int)->1<=bs.length->bs.length<=10->Brs bs->bs.Pairwise (· < ·)->Q (.ref p) g):wF P (n+1) "_law_bridges" [.ref a] h Q X:=by
 let⟨s0,s00,a0⟩:=nth (i:=0) (by lia) hn;let⟨s1,s10,a1⟩:=nth (i:=1) (by lia) hn;have fin:∀m:Int,1<=m->m<=10->∀{v3:Option Val},wSs (wF P n) #[.set (.one 2)<|.idx (.lst #[.cst<|.int 1000,.cst<|.int 12,.cst<|.int 1000,.cst<|.int 30])<|.bin .mod (.idx (.var 0)<|.cst<|.int 1)<|.cst<|.int 4,.ret<|.bi .sortedSet #[.comp [2] 1 (.one 0) (.seq<|.slc (.var 0) (.some<|.cst<|.int 4)<|.some<|.bin .add (.cst<|.int 4)<|.var 1) .yes<|.bin .mod (.var 0)<|.var 1]] [eM<|.ref a,eM<|.int m,v3] h (λ_ g=>Q .non g) Q (λ_ _=>False) (λ_ _=>False) λ_ c g=>X c g:=by
  intro m m1 m2 v3;refine' Zf λp1 g1 cp x1 e1=>?_
  exists Zk (x1.get ea) a1
  fail;let⟨v,ev,hv⟩:=J9 (xs:=[Val.int 1000,.int 12,.int 1000,.int 30]) (r:=s1 % 4) (Ě _<|by decide) (İ _<|by decide);obtain⟨wd,rfl,w1,w2⟩:∃wd:Int,v=.int wd/\1<=wd/\wd<=1000:=by simp only[Æ,Í,or_false]at hv;rcases hv with rfl|rfl|rfl|rfl<;>exact⟨_,rfl,by decide,by decide⟩
  refine Zk e1 ev ?_;refine' Zf λp2 g2 hp2 x2 e2=>?_;rw[Y4,Ev (by decide)<|by lia]at e2;have hc:((ns.drop (4:Int).toNat).take<|(4+m).toNat - (4:Int).toNat).length=m.toNat:=by rw[ÿ,Ľ,hl];lia
  generalize (ns.drop (4:Int).toNat).take ((4+m).toNat - (4:Int).toNat)=ks at e2 hc;refine' ⟨Ë (by rw[À];lia:_<=10) (by decide),Xx (λv=>match v with|.int b=>eM (.int<|b % wd)|_=>eN) (lsE e2) (λv hv K hK=>?_) ?_⟩
  .obtain⟨b,_,rfl⟩:=Ô.mp hv;walk_at "p";exact hK
  rw[show(ks.map Val.int).filterMap (λv=>match v with|.int b=>eM (.int<|b % wd)|_=>eN)=(ks.map (· % wd)).map Val.int by rw[Μ,í];exact congrFun (cj (f:=λb:Int=>Val.int<|b % wd)) ks];refine Zf λp3 g3 hp3 x3 e3=>?_;fail;have hk:(ks.map (· % wd)).length=m.toNat:=by rw[À];exact hc
  refine RY e3 (by lia)<|Zf λp4 g4 hp4 x4 e4=>?_;have xx:=((x1.trans x2).trans x3).trans x4;have hp0:h p4=eN:=by
   cases z:h p4 with
   |none=>rfl
   |some o=>rw[x3.get<|x2.get<|x1.get z]at hp4;cases hp4
  refine q p4 _ g4 hp0 xx e4 (IY<|by lia) (Õ (Ir _)<|by lia) (λi hi=>?_)<|Rw _;let⟨b,_,rfl⟩:=Ô.mp<|sd_mem.mp hi;exact⟨Ě _ (by lia),eL (İ _<|by lia) w2⟩
 refine KN ?_
 exists Zk ea a0
 exists Zk ea a0
 refine' fS (λhc=>?_) (λhc=>?_)
 .exists Zk ea a0
  repeat (first|exact fin _ (by lia) (by lia)|walk_at "py1")
 .exact fin _ (by lia) (by lia)
variable {j:Int}
def P6(nd:ns.Nodup){i:Int}{a b:Int}(i0:0<=i)(i1:i<ns.length)(j0:0<=j)(j1:j<ns.length)(hij:i≠j)(ea:atI (ns.map Val.int) i=eM (.int a))(eb:atI (ns.map Val.int) j=eM (.int b)):a≠b:=by
 have hi:i.toNat<ns.length:=by lia
 have hj:j.toNat<ns.length:=by lia
 have e1:=Z2 (xs:=ns.map Val.int) i0 (x:=.int ns[i.toNat]) (by rw[Ø,É hi];rfl);have e2:=Z2 (xs:=ns.map Val.int) j0 (x:=.int ns[j.toNat]) (by rw[Ø,É hj];rfl);rw[ea]at e1;rw[eb]at e2;simp only[ĭ,Val.int.injEq]at e1 e2;rw[e1,e2];intro z;have:=(List.getElem_inj nd).mp z;lia
def B7{a L:Int}(a0:0<=a)(a1:a<L)(r0:0<=r)(r1:r<L - 1):(a+1+r) % L≠a:=by
 by_cases hc:a+1+r<L
 .rw[Int.emod_eq_of_lt (by lia) hc];lia
 .rw[<-Int.sub_emod_right,Int.emod_eq_of_lt (by lia)<|by lia];lia
def Rm(a b:Int):sortI [a,b]=if b<a then [b,a]else [a,b]:=by
 unfold sortI;by_cases h:b<a
 .rw[gw h,ϧ];simp[Η,ϧ,List.merge,Int.not_le.mpr h]
 .rw[gx h,ϧ];simp[Η,ϧ,List.merge,Int.not_lt.mp h]
def Hi{pb pt:Ad}{bs th:List Int}{k:Nat}(eb:h pb=eM (.lst<|bs.map .int))(l2:2<=bs.length)(l10:bs.length<=10)(nd:bs.Nodup)(et:h pt=eM (.lst<|th.map .int))(hl:th.length=3)(hn:Nn th)(q:∀t g,LOk bs t->Ext h g->Q (trV t) g):wF P (n+1) "_law_tie" [.ref pb,.ref pt,.int k] h Q X:=by
 have hL:(bs.map Val.int).length=bs.length:=À _;let⟨t0,t00,a0⟩:=nth (i:=0) (by lia) hn;let⟨t1,t10,a1⟩:=nth (i:=1) (by lia) hn;let⟨t2,t20,a2⟩:=nth (i:=2) (by lia) hn;have fin:∀{one aU:Int},0<=one->one<bs.length->0<=aU->aU<bs.length->one≠aU->wSs (wF P n) #[.set (.one 6)<|.bin .add (.cst<|.int 1)<|.bin .mod (.idx (.var 1)<|.cst<|.int 2)<|.cst<|.int 1000,.ite (.val<|.cmp .eq (.bin .mod (.bin .fdiv (.idx (.var 1)<|.cst<|.int 0)<|.cst<|.int 20)<|.cst<|.int 2)<|.cst<|.int 0) #[.set (.one 6)<|.bin .add (.cst<|.int 1)<|.bin .mod (.idx (.var 1)<|.cst<|.int 2)<|.cst<|.int 3] .nil,.set (.one 7)<|.bi .sortedI #[.lst #[.idx (.var 0)<|.var 4,.idx (.var 0)<|.var 5]],.ret<|.tup #[.idx (.var 7)<|.cst<|.int 0,.idx (.var 7)<|.cst<|.int 1,.var 6]] [eM<|.ref pb,eM<|.ref pt,eM<|.int k,eM<|.int bs.length,eM<|.int one,eM<|.int aU,eN,eN] h (λ_ g=>Q .non g) Q (λ_ _=>False) (λ_ _=>False) λ_ c g=>X c g:=by
  intro one aU o0 o1 p0 p1 ű;let⟨u1,eu1,hu1⟩:=J9 (xs:=bs.map Val.int) (r:=one) o0 (by lia);let⟨i1,hi1,rfl⟩:=Ô.mp hu1;let⟨u2,eu2,hu2⟩:=J9 (xs:=bs.map Val.int) (r:=aU) p0 (by lia);let⟨i2,hi2,rfl⟩:=Ô.mp hu2;have hi:=P6 nd o0 o1 p0 p1 ű eu1 eu2;have last:∀c:Int,1<=c->c<=1000->wSs (wF P n) #[.set (.one 7)<|.bi .sortedI #[.lst #[.idx (.var 0)<|.var 4,.idx (.var 0)<|.var 5]],.ret<|.tup #[.idx (.var 7)<|.cst<|.int 0,.idx (.var 7)<|.cst<|.int 1,.var 6]] [eM<|.ref pb,eM<|.ref pt,eM<|.int k,eM<|.int bs.length,eM<|.int one,eM<|.int aU,eM<|.int c,eN] h (λ_ g=>Q .non g) Q (λ_ _=>False) (λ_ _=>False) λ_ c g=>X c g:=by
   intro c c0 c1
   exists Zk eb eu1
   exists Zk eb eu2
   refine' Zf λp3 g3 hp3 x3 e3=>?_;refine' Pd (ns:=[i1,i2]) e3 rfl (by simp) (Zf λp4 g4 hp4 x4 e4=>?_);rw[Rm]at e4;have x34:=x3.trans x4;by_cases Ϡ:i2<i1
   .rw[gw Ϡ]at e4;refine' q (i2,i1,c) g4 ⟨hi2,hi1,Ϡ,c0,c1⟩ x34
   .rw[gx Ϡ]at e4;refine' q (i1,i2,c) g4 ⟨hi1,hi2,by show i1<i2;lia,c0,c1⟩ x34
  exists Zk et a2
  exists Zk et a0
  refine' fS (λhc=>?_) (λhc=>?_)
  .exists Zk et a2
   repeat (first|exact last _ (by lia) (by lia)|walk_at "py1")
  .refine OR ?_;exact last _ (by lia) (by lia)
 refine Bu ?_
 exists Zk et a0
 rw[hL]
 exists Zk et a1
 fail;have o0:=Ě t0 (show(bs.length:Int)≠0 by lia);have o1:=İ t0 (show(0:Int)<bs.length by lia);have r0:=Ě t1 (show(bs.length:Int) - 1≠0 by lia);have r1:=İ t1 (show(0:Int)<(bs.length:Int) - 1 by lia);have p0:=Ě (t0 % bs.length+1+t1 % ((bs.length:Int) - 1)) (show(bs.length:Int)≠0 by lia);have p1:=İ (t0 % bs.length+1+t1 % ((bs.length:Int) - 1)) (show(0:Int)<bs.length by lia);refine fS (λhc=>?_) λhc=>?_
 .exists Zk et a0
  refine' fS (λhd=>?_) (λhd=>?_)
  .exists Zk et a1
   have q0:=Ě t1 (show(k:Int)+1≠0 by lia);have q1:=İ t1 (show(0:Int)<(k:Int)+1 by lia)
   repeat (first|exact fin (by lia) hc q0 (by lia) (by lia)|walk_at "py1")
  .exact fin o0 o1 p0 p1 (B7 o0 o1 r0 r1).symm
 .refine fR rfl ?_;exact fin o0 o1 p0 p1 (B7 o0 o1 r0 r1).symm
def Lg{d:Int}(q:∀bs ts g,fm bs ts->Ext h g->Q (ZN bs ts) g):wF P (n+3) "_law_net" [.int c,.int d] h Q X:=by
 refine BN ?_;refine' Jz (m:=14) (by decide) λp ns g1 hp x1 e1 hl hn=>?_;let⟨s2,s20,a2⟩:=nth (i:=2) (by lia) hn;refine' UG e1 hl hn λpb bs g2 hpb x2 eb l1 l10 hb up=>?_;have hL:(bs.map Val.int).length=bs.length:=À _;have nd:bs.Nodup:=up.imp λh=>by lia
 have e1':=x2.get e1;have x12:=x1.trans x2;have fin:∀m:Nat,m<=16->(0<m->2<=bs.length)->wSs (wF P<|n+2) #[.set (.one 5)<|.call "_law_draws" #[.var 1,.bin .mul (.cst<|.int 3)<|.var 4],.set (.one 6)<|.comp [3,5] 1 (.one 0) (.range<|.var 4) .yes<|.call "_law_tie" #[.var 1,.slc (.var 2) (.some<|.bin .mul (.cst<|.int 3)<|.var 0)<|.some<|.bin .add (.bin .mul (.cst<|.int 3)<|.var 0)<|.cst<|.int 3,.var 0],.ret<|.tup #[.bi .tuple #[.var 3],.bi .tuple #[.var 6]]] [eM<|.int c,eM<|.int d,eM<|.ref p,eM<|.ref pb,eM<|.int m,eN,eN] g2 (λ_ g=>Q .non g) Q (λ_ _=>False) (λ_ _=>False) λ_ c g=>X c g:=by
  intro m hm h2;fail;rw[show(3:Int)*(m:Int)=((3*m:Nat):Int) by lia];refine Jz (m:=3*m) (by lia) λpd ds g3 hpd x3 e3 hdl hdn=>?_;have eb3:=x3.get eb;refine' ⟨⟨by lia,by lia⟩,by rw[Wr];exact Ë (by lia:_<=16) (by decide),?_⟩;refine Oj (λi zs g=>∃ts:List Tie,zs=ts.map trV/\ts.length=i/\(∀t∈ts,LOk bs t)/\Ext g3 g) ⟨[],rfl,rfl,(λt ht=>gB ht Í),.refl⟩ (λ_ _ _ _ _=>trivial) ?_ ?_
  .rintro i v zs g hv ⟨ts,rfl,htl,ht,x⟩ K hK;let⟨rfl,hi⟩:=XA hv;walk_at "p";refine Zf λp4 g4 hp4 x4 e4=>?_;rw[Y4,Ev (by lia)<|by lia]at e4;have hc:((ds.drop (3*(i:Int)).toNat).take<|(3*(i:Int)+3).toNat - (3*(i:Int)).toNat).length=3:=by
    rw[ÿ,Ľ,hdl];lia
   have hcn:Nn<|(ds.drop (3*(i:Int)).toNat).take<|(3*(i:Int)+3).toNat - (3*(i:Int)).toNat:=λy hy=>hdn y<|List.mem_of_mem_drop<|cX hy;refine' Hi (x4.get<|x.get eb3) (h2<|by lia) l10 nd e4 hc hcn λt g5 lo x5=>?_;refine hK _ _ ⟨ts++[t],by rw[Û];rfl,by rw[ã,htl];rfl,λy hy=>?_,(x.trans x4).trans x5⟩;rcases â.mp hy with hy|hy
   .exact ht y hy
   .rw[á.mp hy];exact lo
  .rintro zs g ⟨ts,rfl,htl,ht,x⟩;rw[Wr]at htl;refine Zf λp6 g6 hp6 x6 e6=>?_;have eb6:=x6.get<|x.get eb3;refine' q bs ts g6 ⟨l1,l10,hb,up,by lia,ht⟩ (((x12.trans x3).trans x).trans x6)
 exists Zk e1' a2
 exists Zk e1' a2
 fail;have tail:∀m:Int,0<=m->m<=16->wSs (wF P<|n+2) #[.ite (.val<|.cmp .eq (.bi .len #[.var 3])<|.cst<|.int 1) #[.set (.one 4)<|.cst<|.int 0] .nil,.set (.one 5)<|.call "_law_draws" #[.var 1,.bin .mul (.cst<|.int 3)<|.var 4],.set (.one 6)<|.comp [3,5] 1 (.one 0) (.range<|.var 4) .yes<|.call "_law_tie" #[.var 1,.slc (.var 2) (.some<|.bin .mul (.cst<|.int 3)<|.var 0)<|.some<|.bin .add (.bin .mul (.cst<|.int 3)<|.var 0)<|.cst<|.int 3,.var 0],.ret<|.tup #[.bi .tuple #[.var 3],.bi .tuple #[.var 6]]] [eM<|.int c,eM<|.int d,eM<|.ref p,eM<|.ref pb,eM<|.int m,eN,eN] g2 (λ_ g=>Q .non g) Q (λ_ _=>False) (λ_ _=>False) λ_ c g=>X c g:=by
  intro m m0 m1;fail;rw[hL];refine fS (λhc=>?_) λhc=>?_
  .repeat (first|exact fin 0 (by lia) (λz=>gB z<|by decide)|walk_at "py1")
  .refine OR ?_;have:=fin m.toNat (by lia) (λ_=>by lia)
   rwa [Int.toNat_of_nonneg m0]at this
 refine fS (λhc=>?_) λhc=>?_
 .exists Zk e1' a2
  repeat (first|exact tail _ (by lia) (by lia)|walk_at "py1")
 .refine OR ?_;exact tail _ (by lia) (by lia)
def Op(q:∀m g,4<=m->m<=200->Ext h g->Q (.int m) g):wF P (n+3) "_law_greatest" [.int c] h Q X:=by
 refine Ki ?_;refine' Jz (m:=4) (by decide) λp ns g1 hp x1 e1 hl hn=>?_;let⟨s1,s10,a1⟩:=nth (i:=1) (by lia) hn;let⟨s3,s30,a3⟩:=nth (i:=3) (by lia) hn
 exists Zk e1 a1
 refine' fS (λhc=>?_) (λhc=>?_)
 .exists Zk e1 a3
  refine' q _ g1 (by lia) (by lia) x1
 .exists Zk e1 a3
  refine' q _ g1 (by lia) (by lia) x1
abbrev Pl:Nat->Val->Prop
 |_,.non=>True
 |_,.int _=>True
 |_,.str s=>True
 |d+1,.tup xs=>xs.length<=100/\∀x∈xs,Pl d x
 |_,_=>False
def W6{xs:List Val}(e:h a=eM (.lst xs))(T:String):isiAny h (.ref a) [T]=eM (T == "list"):=by
 unfold isiAny gq gp;simp only[e,Ŋ,ú,isiAny];by_cases z:T = "list"
 .subst z;rfl
 .have e1:("list" == T)=eQ:=beq_eq_false_iff_ne.mpr λy=>z y.symm;have e2:(T == "list")=eQ:=beq_eq_false_iff_ne.mpr z;rw[e1,e2];rfl
def OB(k:Q (.bl eP) h):wF P (n+1) "_law_same" [.non,.non] h Q X:=by refine ZQ ?_;fail;refine fQ (by decide) ?_;refine' k
def N7{i:Int}(k:Q (.bl eP) h):wF P (n+1) "_law_same" [.int i,.int i] h Q X:=by refine ZQ ?_;fail;refine fR (by simp) ?_;walk_at "p";rw[gz rfl];exact k
def Of{s:String}(k:Q (.bl eP) h):wF P (n+1) "_law_same" [.str s,.str s] h Q X:=by refine ZQ ?_;fail;refine fR (by simp) ?_;walk_at "p";rw[gz rfl];exact k
def M1:∀(d:Nat){v:Val}{h:Hs}{Q:Q1},Pl d v->Q (.bl eP) h->wF P (n+d+1) "_law_same" [v,v] h Q X:=by
 intro d;induction d with
 |zero =>
  intro v h Q hv k;cases v with
  |non=>exact OB k
  |int i=>exact N7 k
  |str s=>exact Of k
  |_=>exact hv.elim
 |succ d ih =>
  intro v h Q hv k;cases v with
  |tup xs =>
   refine ZQ ?_;fail;refine fR (by simp) ?_;walk_at "p";refine fR (by simp) ?_;fail;let⟨hl,hv⟩:=hv;refine⟨⟨by lia,by lia⟩,?_⟩;refine Zo (λi e g=>g=h/\∃v,e=[eM<|.tup xs,eM<|.tup xs,v]) ⟨rfl,_,rfl⟩ (λ_ _ _ _ _=>trivial) ?_ ?_
   .rintro i v e g hvi ⟨rfl,v1,rfl⟩ K hK;let⟨rfl,hi⟩:=XA hvi;let⟨x,ex,hx⟩:=J9 (xs:=xs) (r:=(i:Int)) (by lia) hi
    exists eX ex
    exists eX ex
    exists ih (hv x hx)
    walk_at "p";exact hK _ _ ⟨rfl,_,rfl⟩
   .rintro e g ⟨rfl,v1,rfl⟩;refine' k
  |non=>exact OB k
  |int i=>exact N7 k
  |str s=>exact Of k
  |_=>exact hv.elim
def NK{d:Nat}{xs:List Val}(ha:h a=eM (.lst xs))(hb:h b=eM (.lst xs))(hl:xs.length<=100000)(hx:∀x∈xs,Pl d x)(k:Q (.bl eP) h):wF P (n+d+2) "_law_same" [.ref a,.ref b] h Q X:=by
 refine ZQ ?_;fail;refine fR (by simp) ?_
 exists Dr (W6 hb _)
 walk_at "p";refine Dr (W6 hb _) ?_;walk_at "p";refine Dr (W6 hb _) ?_;walk_at "p";refine Dr (W6 ha _) ?_;walk_at "p";refine fR (by simp) ?_;refine' ⟨⟨by lia,by lia⟩,?_⟩;refine Zo (λi e g=>g=h/\∃v,e=[eM<|.ref a,eM<|.ref b,v]) ⟨rfl,_,rfl⟩ (λ_ _ _ _ _=>trivial) ?_ ?_
 .rintro i v e g hvi ⟨rfl,v1,rfl⟩ K hK;let⟨rfl,hi⟩:=XA hvi;let⟨x,ex,hx'⟩:=J9 (xs:=xs) (r:=(i:Int)) (by lia) hi
  exists Zk ha ex
  exists Zk hb ex
  exists M1 d (hx x hx')
  walk_at "p";exact hK _ _ ⟨rfl,_,rfl⟩
 .rintro e g ⟨rfl,v1,rfl⟩;refine' k
abbrev XE(bs:List Int)(ts:List Tie)(most:Int):Yc:=⟨bs,ts,most,bs.map λb=>(b,0),bs.map λb=>(b,Zv b 0 most<|gh b 0 ts),[],[]⟩
def Qq{bs:List Int}(nw:YNew bs ts most Y):Y.cc=XE bs ts most:=by
 have e:enC Y.es=bs.map λb=>(b,Zv b 0 most<|gh b 0 ts):=by rw[<-nw.num,í];exact Ċ λe he=>by show(e.num,e.B)=(e.num,_);rw[nw.br e he]
 unfold Yd.cc XE;rw[nw.hb,nw.ht,nw.hm,nw.lives,nw.fallen,nw.road,e]
def E6{b:Int}(h:ts.length<=16):Bok ts.length<|Zv b life most<|gh b 0 ts:=by
 have r:=WG (b:=b) (l:=ts) (k:=0);have rg:∀q∈XG (gh b 0 ts),0<=q.1/\q.1<ts.length:=λq hq=>by let⟨x,hx,rfl⟩:=Ô.mp hq;have:=r.2 x hx;dsimp only;lia
 refine⟨⟨ė,(λ_ m=>nomatch m),?_,λq hq=>?_⟩,λq hq=>(rg q hq).2⟩
 .show((XG _).map (·.1)).Nodup;rw[Nu];exact r.1.imp λz=>by lia
 .have:=rg q hq;lia
def E9{bs:List Int}(no:fm bs ts):(XE bs ts most).gd 0:=by
 have e1:(bs.map λb=>(b,Zv b 0 most<|gh b 0 ts)).map (·.1)=bs:=by rw[í];exact Ŭ _
 refine⟨no,?_,keys_sub.mpr ?_,λq hq=>?_,?_,ė,(λ_ m=>nomatch m),Ó _⟩
 .show((bs.map λb=>(b,Zv b 0 most<|gh b 0 ts)).map (·.1)).Nodup;rw[e1];exact no.up.imp λh=>by lia
 .show ∀x∈(bs.map λb=>(b,Zv b 0 most<|gh b 0 ts)).map (·.1),_;rw[e1];exact λ_=>id
 .obtain⟨b,_,rfl⟩:=Ô.mp hq;exact E6 no.sixteen
 .show(bs.map λb=>(b,(0:Int))).map (·.1)=bs;rw[í];exact Ŭ _
def K5{b:Int}(h:b∈C.br.map (·.1)):∃D,step C (.tick b)=eM D/\D.br.map (·.1)=C.br.map (·.1):=by let⟨B,hB⟩:=ZW h;refine⟨_,by show(C.br.lookup b).map _=_;rw[hB];rfl,JE _⟩
def DW{b:Int}(h:b∈C.keys):(step C<|.fallB b).isSome=eP:=by dsimp only[step];rw[gw<|keys_mem.mp h];rfl
def AG{b:Int}(h:b∈C.keys):(step C<|.tick b).isSome=eP:=by let⟨D,hD,_⟩:=K5<|keys_look.mp<|keys_mem.mp h;rw[hD];rfl
def cut_mem{p:Int}:p∈C.cuts↔(C.fallen.lookup p).isSome=eP:=by unfold Yc.cuts;rw[mem_sort,look_iff];simp
def Dm{p:Int}(h0:0<=p)(h1:p<C.ts.length)(h:p∉C.cuts):(step C<|.fallT p).isSome=eP:=by dsimp only[step];rw[gw ⟨⟨h0,h1⟩,by cases z:(C.fallen.lookup p).isSome with|false=>rfl|true=>exact gB (cut_mem.mpr z) h⟩];rfl
def Cy{p:Int}(h:p∈C.cuts):(step C<|.backT p).isSome=eP:=by dsimp only[step];rw[gw<|cut_mem.mp h];rfl
def downs_mem{b:Int}:b∈C.downs↔b∈C.bs/\(C.br.lookup b).isSome=eQ:=by unfold Yc.downs;rw[ó];simp
def Ej{b:Int}(g:C.gd N)(h:b∈C.downs):(step C<|.backB b).isSome=eP:=by let⟨h1,h2⟩:=downs_mem.mp h;dsimp only[step];rw[gx<|by rw[h2];decide];rw[<-g.lv]at h1;let⟨v,hv⟩:=ZW h1;rw[hv];rfl
def U8(h0:0<=r)(h1:r<C.road.length):(step C<|.lost r).isSome=eP/\(step C<|.come r).isSome=eP:=by have e:=É (l:=C.road) (i:=r.toNat) (by lia);dsimp only[step];rw[gx (by lia),e];exact⟨rfl,by rw[gx<|by lia];rfl⟩
def pick(r0:0<=r)(r1:r<ns.length):∃b∈ns,atI (ns.map Val.int) r=eM (.int b):=by let⟨b,hb,hm⟩:=O9 r0 r1;exact⟨b,hm,Z2 r0<|by rw[Ø,hb];rfl⟩
abbrev flat:Nat->Val->Bool
 |_,.non=>eP
 |_,.bl _=>eP
 |_,.int _=>eP
 |_,.str _=>eP
 |n+1,.tup xs=>xs.all<|flat n
 |_,_=>eQ
def W3{α β:Type}{f:α->Option β}:∀{xs:List α},(∀x∈xs,∃d,f x=eM d)->∃ds,xs.mapM f=eM ds
 |[],_=>⟨[],rfl⟩
 |x::xs,h=>by let⟨d,hd⟩:=h x (by simp);let⟨ds,hds⟩:=W3 (xs:=xs) λy hy=>h y (by simp[hy]);exact⟨d::ds,by rw[μ,hd,hds];rfl⟩
def Kp{h:Hs}:∀{n:Nat}{v:Val},flat n v=eP->∃d,dat h n v=eM d
 |0,.non,_=>⟨_,rfl⟩
 |0,.bl _,_=>⟨_,rfl⟩
 |0,.int _,_=>⟨_,rfl⟩
 |0,.str _,_=>⟨_,rfl⟩
 |n+1,.non,_=>⟨_,rfl⟩
 |n+1,.bl _,_=>⟨_,rfl⟩
 |n+1,.int _,_=>⟨_,rfl⟩
 |n+1,.str _,_=>⟨_,rfl⟩
 |n+1,.tup xs,e=>by let⟨ds,hds⟩:=W3 (f:=dat h n) (xs:=xs) λx hx=>Kp<|û.mp e x hx;exact⟨_,by show(xs.mapM<|dat h n).map D.tup=_;rw[hds];rfl⟩
def WM{xs:List Val}(ea:h a=eM (.lst xs))(eb:h b=eM (.lst xs))(e:xs.all (flat 11)=eP):eqV h (.ref a) (.ref b)=eM eP:=by
 let⟨ds,hds⟩:=W3 (f:=dat h 11) (xs:=xs) λx hx=>Kp<|û.mp e x hx;have h1:∀{c:Ad},h c=eM (.lst xs)->dat h deep (.ref c)=eM (.lst ds):=λ{c} ec=>by show(ff<|h c).bind (λxs=>(xs.mapM<|dat h 11).map D.lst)=_;rw[ec,Js,ú,hds];rfl
 unfold eqV;rw[h1 ea,h1 eb];show eM (D.eqv _ _)=_;rw[D.eqv_refl]
def all_map{α:Type}{f:α->Val}{n:Nat}{xs:List α}(h:∀x∈xs,flat n (f x)=eP):(xs.map f).all (flat n)=eP:=by rw[List.all_map];exact û.mpr h
def Kj{i:Int}:flat n (.int i)=eP:=by cases n<;>rfl
abbrev QS(C:Yc):List Val:=C.keys.map λb=>.tup [.int b,pV ((C.at_ b).life,(C.at_ b).version)]
section
variable {Y Z:Yd}{N:Nat}
def B3{bs:List Int}(no:fm bs ts)(hp:h p=eN)(k:∀Y g,Y.y=p->fe g Y->Y.cc=XE bs ts most->(∀a∈Y.adr,h a=eN)->Ext h g->Q .non g):wF P (n+3) "Yard.__init__" [.ref p,ZN bs ts,.int most] (upd h p<|.ins "Yard" []) Q X:=B5 no hp λY g e y nw f x=>k Y g e y (Qq nw) f x
def Bp(x:fe h Y)(gd:Y.cc.gd N)(k:∀p g,h p=eN->Ext h g->g p=eM (.lst<|QS Y.cc)->Q (.ref p) g):wF P (n+2) "Yard.stamps" [.ref Y.y] h Q X:=by
 have xi:=x.ins;have xs:=x.stand;have ek:(stands Y.es).map (·.1)=Y.cc.br.map (·.1):=(ZL _).trans (Xj _).symm;have h10:=gd.ten;have kl:=NJ (C:=Y.cc);refine KM ?_;refine' Uj xs (CS _) (by rw[ek];lia) (Zf λp1 g1 cp x1 e1=>?_);rw[ek]at e1;have x':=x.ext x1;have xi:=x'.ins;have xs:=x'.stand;refine' ⟨Ë (by rw[À];show Y.cc.keys.length<=10;lia) (by decide),?_⟩;refine XX (l:=Y.cc.keys) (λb=>.tup [.int b,pV ((Y.cc.at_ b).life,(Y.cc.at_ b).version)]) (lsE e1) (λnm hm K k1=>?_)<|Zf λp g2 hp x2 ep=>k p g2 (Ym x1 hp) (x1.trans x2) ep;let⟨e,he,en,lk,ea,ba⟩:=x'.at_<|keys_mem.mp hm;have bi:=ba.ins;walk_at "p";refine Zz xs rfl (by rw[ZE,lk];rfl) ?_
 exists Wc ba
 fail;rw[ea]at k1;exact k1
end
def AL{k:Int}{v:α}:((Za kvs k v).lookup q).isSome=(gC (q=k)||(kvs.lookup q).isSome):=by
 rw[look_iff,Z6,look_iff (k:=k),look_iff];by_cases h:k∈kvs.map (·.1)
 .rw[gz h,gw rfl];by_cases e:q=k
  .subst e;simp[h]
  .simp[e]
 .rw[gy h,gx<|by decide];by_cases e:q=k<;>simp[e]
def ZI{α:Type}{k b:Int}:∀{kvs:List (Int×α)},(Ze kvs k).lookup b=if b=k then eN else kvs.lookup b
 |[]=>by split<;>rfl
 |p::r=>by
  have ih:=ZI (k:=k) (b:=b) (kvs:=r);unfold Ze at ih ⊢;rw[đ,ä];by_cases e:p.1=k
  .rw[gx (by simp[e]),ih];by_cases eb:b=k
   .rw[gw eb,gw eb]
   .rw[gx eb,gx eb,show(b==p.1)=eQ by rw[e];simpa using eb]
  .rw[gw (by simp[e]),ä,ih];by_cases eb:b=p.1
   .subst eb;simp[e]
   .have:(b==p.1)=eQ:=⇑eb
    rw[this]
def Yt{k b:Int}{F:Br->Br}:∀{l:List (Int×Br)},(upC k F l).lookup b=(l.lookup b).map λB=>if b=k then F B else B
 |[]=>rfl
 |p::r=>by
  have ih:=Yt (k:=k) (b:=b) (F:=F) (l:=r);unfold upC at ih ⊢;rw[Î,ä,ä];by_cases e:p.1=k
  .rw[gw e];dsimp only;by_cases eb:b=p.1
   .have:(b==p.1)=eP:=⇑eb
    rw[this];show eM (F p.2)=eM (if b=k then F p.2 else p.2);rw[gw<|eb.trans e]
   .have:(b==p.1)=eQ:=⇑eb
    rw[this,ih]
  .rw[gx e];by_cases eb:b=p.1
   .have:(b==p.1)=eP:=⇑eb
    rw[this];show eM p.2=eM (if b=k then F p.2 else p.2);rw[gx λz=>e<|eb.symm.trans z]
   .have:(b==p.1)=eQ:=⇑eb
    rw[this,ih]
noncomputable abbrev Cr:=Int×Int×Int
abbrev core(B:Br):Cr:=(B.number,B.life,B.count)
abbrev Yc.core(C:Yc)(b:Int):Option Cr:=(C.br.lookup b).map O.core
abbrev Yc.tied(C:Yc)(b p:Int):Bool:=((C.br.lookup b).map λB=>(B.ties.lookup p).isSome).getD eQ
abbrev Yc.std(C:Yc)(b:Int):Bool:=(C.br.lookup b).isSome
abbrev ZH(t:Tie)(b:Int):Bool:=gC (b=t.1)||gC (b=t.2.1)
abbrev inl(l:List Tie)(q:Int):Bool:=l.any λr=>gC (r.1=q)
abbrev inR(ts:List Tie)(q:Int):Bool:=gC (0<=q/\q<ts.length)
def Bf{on:Bool}{p f:Int}:core (tieF on p f c B)=core B:=by
 unfold tieF upB JZ;split
 .split<;>rfl
 .rfl
def Mo{on:Bool}{p f:Int}:((tieF on p f c B).ties.lookup q).isSome=if q=p then on else(B.ties.lookup q).isSome:=by
 unfold tieF upB JZ;cases on with
 |true =>
  rw[gw rfl];split
  .rename_i h;split
   .rename_i e;rw[e];exact h
   .rfl
  .show((Za B.ties p (f,c)).lookup q).isSome=_;rw[AL];by_cases e:q=p<;>simp[e]
 |false =>rw[gx<|by decide];show((Ze B.ties p).lookup q).isSome=_;rw[ZI];by_cases e:q=p<;>simp[e]
def Yh{p b:Int}:((C.set1 p).core b=C.core b)/\((C.set1 p).std b=C.std b):=by
 unfold Yc.set1 EZ Yc.core Yc.std;dsimp only;rw[Yt,Yt];cases C.br.lookup b with
 |none=>exact⟨rfl,rfl⟩
 |some B =>
  refine⟨?_,rfl⟩;have two:∀{q:Prop} [Decidable q] {a f c:Int}{A:Br},core (if q then tieF (onC C p) a f c A else A)=core A:=λ{q _ a f c A}=>by
   split
   .exact Bf
   .rfl
  show eM (core<|if b=(C.tie p).2.1 then tieF _ _ _ _ (if b=(C.tie p).1 then tieF _ _ _ _ B else B)else(if b=(C.tie p).1 then tieF _ _ _ _ B else B))=eM (core B);rw[two,two]
def BK{p b:Int}(ű:(C.tie p).1≠(C.tie p).2.1):(C.set1 p).tied b q=if(gC (p=q)&&(ZH (C.tie p) b&&C.std b))=eP then onC C p else C.tied b q:=by
 unfold Yc.tied Yc.std Yc.set1 EZ ZH;dsimp only;rw[Yt,Yt];cases C.br.lookup b with
 |none=>simp
 |some B =>
  simp only[Ŋ,Option.getD_some,cU,ω];by_cases e1:b=(C.tie p).1
  .have e2:¬ b=(C.tie p).2.1:=λz=>ű<|e1.symm.trans z;rw[gx e2,gw e1,Mo];by_cases e:q=p
   .subst e;simp[e1]
   .have e':¬ p=q:=λz=>e z.symm;simp[e,e']
  .by_cases e2:b=(C.tie p).2.1
   .rw[gw e2,gx e1,Mo];by_cases e:q=p
    .subst e;simp[e2]
    .have e':¬ p=q:=λz=>e z.symm;simp[e,e']
   .rw[gx e2,gx e1];simp[e1,e2]
def Yg:∀(l:List Tie) (C:Yc),(∀b,(C.sets l).core b=C.core b)/\(∀b,(C.sets l).std b=C.std b)/\(C.sets l).fallen=C.fallen/\(C.sets l).lives=C.lives/\(C.sets l).road=C.road/\(C.sets l).bs=C.bs/\(C.sets l).ts=C.ts
 |[],_=>⟨λ_=>rfl,λ_=>rfl,rfl,rfl,rfl,rfl,rfl⟩
 |r::l,C=>by let⟨h1,h2,h3,h4,h5,h6,h7⟩:=Yg l<|C.set1 r.1;exact⟨λb=>(h1 b).trans Yh.1,λb=>(h2 b).trans Yh.2,h3,h4,h5,h6,h7⟩
def O8{D:Yc}(h1:∀b,D.std b=C.std b)(h2:D.fallen=C.fallen)(h3:D.ts=C.ts)(q:Int):onC D q=onC C q:=by
 have e:D.tie q=C.tie q:=by unfold Yc.tie;rw[h3]
 unfold onC;rw[h2,e];have a:=h1 (C.tie q).1;have b:=h1 (C.tie q).2.1;unfold Yc.std at a b;rw[a,b]
def K3{b q:Int}:∀{l:List Tie}{C:Yc},(∀r∈l,(C.tie r.1).1≠(C.tie r.1).2.1)->(C.sets l).tied b q=if(inl l q&&(ZH (C.tie q) b&&C.std b))=eP then onC C q else C.tied b q
 |[],C,_=>rfl
 |r::l,C,h=>by
  have ih:=K3 (b:=b) (q:=q) (l:=l) (C:=C.set1 r.1) λs hs=>h s<|Ú _ hs;have e1:=BK (C:=C) (p:=r.1) (b:=b) (q:=q)<|h r æ;have eo:=O8 (C:=C) (D:=C.set1 r.1) (λb=>Yh.2) rfl rfl q;have es:(C.set1 r.1).std b=C.std b:=Yh.2;have et:(C.set1 r.1).tie q=C.tie q:=rfl;rw[et,es,eo,e1]at ih;show((C.set1 r.1).sets l).tied b q=_;rw[ih];unfold inl;rw[ı];by_cases e:r.1=q
  .subst e;cases (ZH (C.tie r.1) b&&C.std b)<;>cases (l.any λs=>gC (s.1=r.1))<;>simp
  .cases (ZH (C.tie q) b&&C.std b)<;>cases (l.any λs=>gC (s.1=q))<;>simp[e]
abbrev TI(C:Yc):Prop:=∀b q,C.tied b q=(C.std b&&(inR C.ts q&&(ZH (C.tie q) b&&onC C q)))
def Gk{l:List Tie}(ű:∀r∈l,(C.tie r.1).1≠(C.tie r.1).2.1)(hr:∀q,inl l q=eP->inR C.ts q=eP)(h0:∀b q,inl l q=eQ->C.tied b q=(C.std b&&(inR C.ts q&&(ZH (C.tie q) b&&onC C q))))(h1:∀b q,inl l q=eP->C.tied b q=eP->(ZH (C.tie q) b&&C.std b)=eP):TI<|C.sets l:=by
 intro b q;let⟨s1,s2,s3,s4,s5,s6,s7⟩:=Yg l C;have et:(C.sets l).tie q=C.tie q:=by unfold Yc.tie;rw[s7]
 rw[K3 ű,s2,s7,et,O8 s2 s3 s7];cases z:inl l q with
 |false=>rw[ϥ,gx<|by decide];exact h0 b q z
 |true =>
  rw[hr q z];cases w:(ZH (C.tie q) b&&C.std b)with
  |true =>let⟨w1,w2⟩:=ŭ.mp w;rw[w1,w2];rfl
  |false =>
   rw[gx<|by decide];have:C.tied b q=eQ:=by
    cases y:C.tied b q with
    |false=>rfl
    |true=>rw[h1 b q z y]at w;cases w
   rw[this];cases w1:ZH (C.tie q) b with
   |false=>simp
   |true=>rw[w1,ţ]at w;rw[w];rfl
def nbs_iff{b:Int}{r:Tie}:∀{l:List Tie}{k:Nat},r∈gh b k l↔∃i t,l[i]?=eM t/\(b=t.1\/b=t.2.1)/\r=(((k+i:Nat):Int),far t b,t.2.2)
 |[],k=>⟨λh=>gB h (by simp[gh]),λ⟨i,t,h,_⟩=>by simp at h⟩
 |t::l,k=>by
  have later:r∈gh b (k+1) l↔∃i t',(t::l)[i+1]?=eM t'/\(b=t'.1\/b=t'.2.1)/\r=(((k+(i+1):Nat):Int),far t' b,t'.2.2):=by rw[nbs_iff];simp only[bZ,show ∀i,k+1+i=k+(i+1) from λi=>by lia]
  have now:(∃i t',(t::l)[i]?=eM t'/\(b=t'.1\/b=t'.2.1)/\r=(((k+i:Nat):Int),far t' b,t'.2.2))↔((b=t.1\/b=t.2.1)/\r=((k:Int),far t b,t.2.2))\/r∈gh b (k+1) l:=by
   rw[later];constructor
   .rintro⟨i,t',h1,h2,h3⟩;cases i with
    |zero=>cases h1;exact .inl ⟨h2,h3⟩
    |succ i=>exact .inr ⟨i,t',h1,h2,h3⟩
   .rintro(⟨h2,h3⟩|⟨i,t',h1,h2,h3⟩)
    .exact⟨0,t,rfl,h2,h3⟩
    .exact⟨i+1,t',h1,h2,h3⟩
  rw[now];have un:gh b k (t::l)=if b=t.1\/b=t.2.1 then((k:Int),far t b,t.2.2)::gh b (k+1) l else gh b (k+1) l:=rfl;rw[un];split
  .rename_i hc;rw[Æ];constructor
   .rintro(h|h)
    .exact .inl ⟨hc,h⟩
    .exact .inr h
   .rintro(h|h)
    .exact .inl h.2
    .exact .inr h
  .rename_i hc;constructor
   .exact .inr
   .rintro(h|h)
    .exact gB h.1 hc
    .exact h
def touch_iff{t:Tie}{b:Int}:ZH t b=eP↔b=t.1\/b=t.2.1:=by unfold ZH;simp
def X9{x:Int}:inl (gh x 0 ts) q=(inR ts q&&ZH (ts[q.toNat]?.getD (0,0,0)) x):=by
 unfold inl inR;rw[Ϟ,ů,bAq,gA,touch_iff];constructor
 .rintro⟨r,hr,e⟩;let⟨i,t,h1,h2,rfl⟩:=nbs_iff.mp hr;have e:((0+i:Nat):Int)=q:=of_decide_eq_true e;subst e;have hi:=(Ì.mp h1).1;rw[š,Ö,h1];exact⟨⟨by lia,by lia⟩,h2⟩
 .rintro⟨⟨h0,h1⟩,h2⟩;obtain⟨i,rfl⟩:∃i:Nat,q=i:=⟨q.toNat,by lia⟩
  have hi:i<ts.length:=by lia
  rw[Ö,É hi]at h2;exact⟨(((0+i:Nat):Int),far ts[i] x,ts[i].2.2),nbs_iff.mpr ⟨i,ts[i],É hi,h2,rfl⟩,by simp⟩
def Wu{bs:List Int}(no:fm bs ts)(h:inR ts q=eP):LOk bs<|ts[q.toNat]?.getD (0,0,0):=by
 have h:=of_decide_eq_true h;have hi:q.toNat<ts.length:=by lia
 rw[É hi];exact no.tie _<|Ğ hi
def LZ{b:Int}(h:onC C q=eP)(t:ZH (C.tie q) b=eP):C.std b=eP:=by
 unfold onC at h;let⟨_,h⟩:=ŭ.mp h;let⟨h1,h2⟩:=ŭ.mp h;rcases touch_iff.mp t with e|e<;>rw[e]
 .exact h1
 .exact h2
def Do{C1:Yc}{l:List Tie}(ti:TI C)(ets:C1.ts=C.ts)(ű:∀r∈l,(C1.tie r.1).1≠(C1.tie r.1).2.1)(hr:∀q,inl l q=eP->inR C1.ts q=eP)(hon:∀q,inl l q=eQ->inR C.ts q=eP->onC C1 q=onC C q)(ht:∀b q,C1.tied b q=(C1.std b&&C.tied b q)):TI<|C1.sets l:=by
 have et:∀q,C1.tie q=C.tie q:=λq=>by unfold Yc.tie;rw[ets]
 refine Gk ű hr (λb q z=>?_) λb q z y=>?_
 .rw[ht,ti,ets,et];cases w:inR C.ts q with
  |false=>simp
  |true =>
   rw[hon q z w];cases v:onC C q with
   |false=>simp
   |true =>
    cases u:ZH (C.tie q) b with
    |false=>simp
    |true=>rw[LZ v u];simp
 .rw[ht,ti,bAq,bAq,bAq,bAq]at y;rw[et,y.2.2.2.1,y.1];rfl
def Cq(b q:Int):C.tied b q=(C.std b&&C.tied b q):=by unfold Yc.tied Yc.std;cases C.br.lookup b<;>rfl
def XB{l:List (Int×α)}{x b:Int}{v:α}(h:l.lookup x=eN):(l++[(x,v)]).lookup b=if b=x then eM v else l.lookup b:=by
 rw[af];by_cases e:b=x
 .subst e;rw[h,gw rfl];simp
 .have:(b==x)=eQ:=⇑e
  rw[gx e,ä,this];simp
def ZV{k:Int}{v:α}(n:q≠k):(Za kvs k v).lookup q=kvs.lookup q:=by
 unfold Za;split
 .rename_i h;clear h;induction kvs with
  |nil=>rfl
  |cons p r ih =>
   rw[Î,ä,ä,ih];by_cases e:p.1=k
   .have e1:(q==k)=eQ:=⇑n
    have e2:(q==p.1)=eQ:=by rw[e];exact e1
    simp only[e,if_true,e1]
   .simp only[e,if_false]
 .have:(q==k)=eQ:=⇑n
  rw[af,ä,this];simp
def DB{x:Int}(no:fm C.bs C.ts):∀r∈gh x 0 C.ts,(C.tie r.1).1≠(C.tie r.1).2.1:=λr hr=>by have h:=Wu (q:=r.1) no<|gz<|XR r hr;have:=h.2.2.1;unfold Yc.tie;lia
def CD{x:Int}(no:fm C.bs C.ts)(ti:TI C):TI<|Yc.sets {C with br:=Ze C.br x}<|gh x 0 C.ts:=by
 have st:∀b,(Ze C.br x).lookup b=if b=x then eN else C.br.lookup b:=λb=>ZI;refine Do ti rfl (DB (C:={C with br:=Ze C.br x}) no) (λq z=>?_) (λq z w=>?_) λb q=>?_
 .rw[X9,bAq]at z;exact z.1
 .rw[X9,w,ţ]at z;change ZH (C.tie q) x=eQ at z;have n1:¬ (C.tie q).1=x:=λe=>by rw[touch_iff.mpr<|.inl e.symm]at z;cases z
  have n2:¬ (C.tie q).2.1=x:=λe=>by rw[touch_iff.mpr<|.inr e.symm]at z;cases z
  unfold onC;show(_&&(((Ze C.br x).lookup (C.tie q).1).isSome&&((Ze C.br x).lookup (C.tie q).2.1).isSome))=_;rw[st,st,gx n1,gx n2]
 .unfold Yc.tied Yc.std;dsimp only;rw[st];by_cases e:b=x
  .rw[gw e];rfl
  .rw[gx e];cases C.br.lookup b<;>rfl
def CL{x l:Int}(no:fm C.bs C.ts)(ti:TI C)(hx:C.br.lookup x=eN){lv:List (Int×Int)}:TI<|Yc.sets {C with lives:=lv,br:=C.br++[(x,Zv x l C.most [])]}<|gh x 0 C.ts:=by
 have st:∀b,(C.br++[(x,Zv x l C.most [])]).lookup b=if b=x then eM (Zv x l C.most [])else C.br.lookup b:=λb=>XB hx;refine Do ti rfl (DB (C:={C with lives:=lv,br:=C.br++[(x,Zv x l C.most [])]}) no) (λq z=>?_) (λq z w=>?_) λb q=>?_
 .rw[X9,bAq]at z;exact z.1
 .rw[X9,w,ţ]at z;change ZH (C.tie q) x=eQ at z;have n1:¬ (C.tie q).1=x:=λe=>by rw[touch_iff.mpr<|.inl e.symm]at z;cases z
  have n2:¬ (C.tie q).2.1=x:=λe=>by rw[touch_iff.mpr<|.inr e.symm]at z;cases z
  unfold onC;show(_&&(((C.br++[(x,Zv x l C.most [])]).lookup (C.tie q).1).isSome&&((C.br++[(x,Zv x l C.most [])]).lookup (C.tie q).2.1).isSome))=_;rw[st,st,gx n1,gx n2]
 .unfold Yc.tied Yc.std;dsimp only;rw[st];by_cases e:b=x
  .rw[gw e,e,hx];rfl
  .rw[gx e];cases C.br.lookup b<;>rfl
def DF{p:Int}{fl:List (Int×Bool)}(no:fm C.bs C.ts)(ti:TI C)(hp:inR C.ts p=eP)(hf:∀q,q≠p->(fl.lookup q).isSome=(C.fallen.lookup q).isSome):TI<|Yc.set1 {C with fallen:=fl} p:=by
 have il:∀q,inl [(p,0,0)] q=gC (p=q):=λq=>by unfold inl;simp
 refine Do (C1:={C with fallen:=fl}) (l:=[(p,0,0)]) ti rfl (λr hr=>?_) (λq z=>?_) (λq z w=>?_) λb q=>Cq b q
 .rw[á.mp hr];have:=(Wu no hp).2.2.1;show(C.tie p).1≠(C.tie p).2.1;unfold Yc.tie;lia
 .rw[il]at z;rw[<-of_decide_eq_true z];exact hp
 .rw[il]at z;unfold onC;show(!(fl.lookup q).isSome&&_)=_;rw[hf q λe=>of_decide_eq_false z e.symm];rfl
def Yj{α:Type}{f:Int->α}{b:Int}:∀{bs:List Int},(bs.map λb=>(b,f b)).lookup b=if b∈bs then eM (f b)else eN
 |[]=>rfl
 |x::bs=>by
  rw[Î,ä,Yj (bs:=bs)];by_cases e:b=x
  .subst e;simp
  .have:(b==x)=eQ:=⇑e
   rw[this];simp[e]
structure Wk(C:Yc)(gone cut:List Int):Prop where
 st:∀b,C.std b=gC (b∈C.bs/\b∉gone)
 fa:∀q,(C.fallen.lookup q).isSome=gC (q∈cut)
 ti:TI C
def Gi{bs:List Int}(no:fm bs ts):Wk (XE bs ts most) [] []:=by
 have lk:∀b,(XE bs ts most).br.lookup b=if b∈bs then eM (Zv b 0 most<|gh b 0 ts)else eN:=λb=>Yj;have st:∀b,(XE bs ts most).std b=gC (b∈bs):=λb=>by unfold Yc.std;rw[lk];by_cases h:b∈bs<;>simp[h]
 refine⟨λb=>(st b).trans<|decide_eq_decide.mpr ⟨λh=>⟨h,Í⟩,λh=>h.1⟩,λ_=>rfl,λb q=>?_⟩;have on:inR ts q=eP->onC (XE bs ts most) q=eP:=λh=>by let⟨h1,h2,_⟩:=Wu no h;have a:=st ((XE bs ts most).tie q).1;have c:=st ((XE bs ts most).tie q).2.1;unfold Yc.std at a c;unfold onC;rw[a,c,gz (show((XE bs ts most).tie q).1∈bs from h1),gz<|show((XE bs ts most).tie q).2.1∈bs from h2];rfl
 rw[st];unfold Yc.tied;rw[lk];by_cases h:b∈bs
 .rw[gw h,gz h];show((XG<|gh b 0 ts).lookup q).isSome=(eP&&(inR ts q&&(ZH (ts[q.toNat]?.getD (0,0,0)) b&&_)))
  have e:((XG<|gh b 0 ts).lookup q).isSome=inl (gh b 0 ts) q:=by rw[look_iff,Nu,Ϟ];unfold inl;rw[ů,gA,Ô];exact⟨λ⟨r,h1,h2⟩=>⟨r,h1,⇑h2⟩,λ⟨r,h1,h2⟩=>⟨r,h1,⇑h2⟩⟩
  rw[e,X9,ţ];cases z:inR ts q with
  |false=>rfl
  |true=>rw[on z,ω]
 .rw[gx h,gy h];rfl
section
variable {C D:Yc}{gone cut:List Int}{N:Nat}{b p:Int}
def Wk.keep(w:Wk C gone cut)(h1:D.bs=C.bs)(h2:D.ts=C.ts)(h3:D.fallen=C.fallen)(h4:∀b,(D.br.lookup b).map Br.ties=(C.br.lookup b).map Br.ties):Wk D gone cut:=by
 have es:∀b,D.std b=C.std b:=λb=>by
  have:=congrArg Option.isSome<|h4 b
  rwa [ġ,ġ]at this
 refine⟨λb=>by rw[es,h1];exact w.st b,λq=>by rw[h3];exact w.fa q,λb q=>?_⟩;have et:D.tied b q=C.tied b q:=by have:=congrArg (λo:Option (List<|Int×(Int×Int))=>(o.map λl=>(l.lookup q).isSome).getD eQ)<|h4 b;rw[ũ,ũ]at this;exact this
 rw[et,es,h2,O8 es h3 h2,show D.tie q=C.tie q by unfold Yc.tie;rw[h2]];exact w.ti b q
def U6{k:Int}{l:List (Int×Br)}(hF:∀B,(F B).ties=B.ties)(b:Int):((upC k F l).lookup b).map Br.ties=(l.lookup b).map Br.ties:=by
 rw[Yt,ũ];cases l.lookup b with
 |none=>rfl
 |some B =>
  show eM (if b=k then F B else B).ties=eM B.ties;split
  .rw[hF]
  .rfl
def Wk.tick(w:Wk C gone cut)(s:step C (.tick b)=eM D):Wk D gone cut/\∃B,C.br.lookup b=eM B/\D.road.length=C.road.length+B.ties.length:=by let⟨B,hB,rfl⟩:=Ä.mp s;have ht:∀A:Br,A.told.ties=A.ties:=λA=>(Zr A.grown<|reck A.grown).2.1;refine⟨w.keep rfl rfl rfl<|U6 λA=>ht A,B,hB,?_⟩;show(C.road++ZP C.ts b B.told).length=_;unfold ZP sortI;rw[ã,À,ń,À,ht]
def Wk.road(w:Wk C gone cut)(s:step C (.come p)=eM D\/step C (.lost p)=eM D):Wk D gone cut/\D.road.length+1=C.road.length:=by
 rcases s with s|s
 .replace s:(if p<0 then eN else(C.road[p.toNat]?).map λr=>({C with br:=upC r.2.1 (Zy · r.2.2.1 r.2.2.2) C.br,road:=C.road.eraseIdx p.toNat}:Yc))=eM D:=s
  split at s
  .cases s
  .obtain⟨r,hr,rfl⟩:=Ä.mp s;have:=(Ì.mp hr).1;exact⟨w.keep rfl rfl rfl (U6 (F:=(Zy · r.2.2.1 r.2.2.2)) λA=>by unfold Zy;split<;>(try split)<;>rfl),by show(C.road.eraseIdx p.toNat).length+1=_;rw[Ł this];lia⟩
 .replace s:(if p<0 then eN else(C.road[p.toNat]?).map λr=>({C with road:=C.road.eraseIdx p.toNat}:Yc))=eM D:=s
  split at s
  .cases s
  .obtain⟨r,hr,rfl⟩:=Ä.mp s;have:=(Ì.mp hr).1;exact⟨w.keep rfl rfl rfl λ_=>rfl,by show(C.road.eraseIdx p.toNat).length+1=_;rw[Ł this];lia⟩
def Zt{p:Prop}[Decidable p]{a b:α}(h:(if p then eM a else eN)=eM b):p/\a=b:=by
 split at h
 .rename_i z;exact⟨z,ñ h⟩
 .cases h
def Wk.fallB(w:Wk C gone cut)(g:C.gd N)(s:step C (.fallB b)=eM D):Wk D (gone++[b]) cut/\D.road=C.road:=by
 let⟨_,rfl⟩:=Zt s;let⟨s1,s2,s3,s4,s5,s6,s7⟩:=Yg (gh b 0 C.ts) {C with br:=Ze C.br b};refine⟨⟨λc=>?_,λq=>by rw[s3];exact w.fa q,CD g.no w.ti⟩,s5⟩;rw[s2,s6];have:=w.st c;unfold Yc.std at this ⊢;dsimp only;rw[ZI];by_cases e:c=b
 .rw[gw e];symm;simp[e]
 .rw[gx e,this];simp[e]
def Wk.fallT(w:Wk C gone cut)(g:C.gd N)(s:step C (.fallT p)=eM D):Wk D gone (cut++[p])/\D.road=C.road:=by
 let⟨hp,rfl⟩:=Zt s;have hr:inR C.ts p=eP:=gz hp.1;refine⟨⟨λc=>?_,λq=>?_,DF (fl:=Za C.fallen p eP) g.no w.ti hr λq hq=>by rw[ZV hq]⟩,rfl⟩
 .rw[Yh.2];exact w.st c
 .show((Za C.fallen p eP).lookup q).isSome=_;rw[AL,w.fa];by_cases e:q=p<;>simp[e]
abbrev JA(ts:List Tie)(gone cut:List Int)(b:Int)(p:Nat):Bool:=ZH (ts[p]?.getD (0,0,0)) b&&(!gC ((p:Int)∈cut)&&(!gC ((ts[p]?.getD (0,0,0)).1∈gone) && !gC ((ts[p]?.getD (0,0,0)).2.1∈gone)))
abbrev cnt(ts:List Tie)(gone cut:List Int)(b:Int)(m:Nat):Nat:=((List.range m).filter<|JA ts gone cut b).length
def RC{m:Nat}:cnt ts gone cut b (m+1)=cnt ts gone cut b m+if JA ts gone cut b m then 1 else 0:=by unfold cnt;rw[List.range_succ,ae,ã,đ,aW];split<;>rfl
def Wk.cnt(w:Wk C gone cut)(g:C.gd N)(hB:C.br.lookup b=eM B):B.ties.length=O.cnt C.ts gone cut b C.ts.length:=by
 have ok:=(g.ok _<|Zi hB).ok;have nd2:(((List.range C.ts.length).filter<|JA C.ts gone cut b).map λi:Nat=>(i:Int)).Nodup:=List.Pairwise.map _ (λa b h=>by lia)<|(List.nodup_range).sublist ħ;have pm:(B.ties.map (·.1)).Perm (((List.range C.ts.length).filter<|JA C.ts gone cut b).map λi:Nat=>(i:Int)):=(bj ok.nt nd2).mpr λq=>by
  have t:=w.ti b q;have e1:C.tied b q=(B.ties.lookup q).isSome:=by unfold Yc.tied;rw[hB];rfl
  have e2:C.std b=eP:=by unfold Yc.std;rw[hB];rfl
  rw[e1,e2,ţ]at t;have hk:q∈B.ties.map (·.1)↔(B.ties.lookup q).isSome=eP:=by rw[look_iff];simp
  rw[hk,t,bAq];have on:inR C.ts q=eP->onC C q=(!gC (q∈cut)&&(!gC ((C.tie q).1∈gone) && !gC ((C.tie q).2.1∈gone))):=λh=>by let⟨h1,h2,_⟩:=Wu g.no h;have a:=w.st (C.tie q).1;have c:=w.st (C.tie q).2.1;unfold Yc.std at a c;unfold onC;rw[w.fa,a,c];congr 1;have m1:(C.tie q).1∈C.bs:=h1;have m2:(C.tie q).2.1∈C.bs:=h2;simp[m1,m2]
  constructor
  .rintro⟨z1,z2⟩;rw[on z1]at z2;obtain⟨r0,r1⟩:0<=q/\q<C.ts.length:=of_decide_eq_true z1;refine Ô.mpr ⟨q.toNat,ó.mpr ⟨ŗ.mpr (by lia),?_⟩,by lia⟩;unfold JA;rw[show((q.toNat:Nat):Int)=q by lia];exact z2
  .intro hq;let⟨i,hi,rfl⟩:=Ô.mp hq;let⟨h1,h2⟩:=ó.mp hi;have h1:=ŗ.mp h1;have z1:inR C.ts (i:Int)=eP:=gz (by lia);refine⟨z1,?_⟩;rw[on z1];unfold JA at h2;have:C.tie (i:Int)=C.ts[i]?.getD (0,0,0):=by unfold Yc.tie;rw[Ö]
   rw[this];exact h2
 have:=pm.length_eq;rw[À,À]at this;exact this
end
def M4{α:Type}{f g:α->Nat}:∀l:List α,(l.map λx=>f x+g x).sum=(l.map f).sum+(l.map g).sum
 |[]=>rfl
 |x::l=>by rw[Î,Î,Î,ŵ,ŵ,ŵ,M4 l];lia
def JI:∀l:List Int,(l.map λ_=>0).sum=0
 |[]=>rfl
 |_::l=>by rw[Î,ŵ,JI l]
def EL{x:Int}:∀{l:List Int},x∉l->(l.map λb=>if b=x then 1 else 0).sum=0
 |[],_=>rfl
 |y::l,h=>by rw[Æ,not_or]at h;rw[Î,ŵ,EL h.2,gx λe=>h.1 e.symm]
def No{x:Int}:∀{l:List Int},l.Nodup->x∈l->(l.map λb=>if b=x then 1 else 0).sum=1
 |y::l,nd,h=>by
  rw[ü]at nd;rw[Î,ŵ];by_cases e:y=x
  .rw[gw e,EL<|e▸nd.1]
  .rw[gx e,No nd.2<|(Æ.mp h).resolve_left λz=>e z.symm]
abbrev Inc(ts:List Tie)(p b:Int):Prop:=0<=p/\p<ts.length/\((ts[p.toNat]?.getD (0,0,0)).1=b\/(ts[p.toNat]?.getD (0,0,0)).2.1=b)
abbrev cst(ts:List Tie)(p:Int):Int:=(ts[p.toNat]?.getD (0,0,0)).2.2
def Nx{p:Int}(h0:0<=p)(h1:p<ts.length):ts[p.toNat]?.getD (0,0,0)∈ts:=by
 have h2:p.toNat<ts.length:=by lia
 rw[É h2];exact Ğ h2
def Inc.far{bs:List Int}(no:fm bs ts){p b:Int}(h:Inc ts p b):Inc ts p (ZY ts p b)/\ZY ts p (ZY ts p b)=b:=by
 let⟨h0,h1,h2⟩:=h;have lt:=(no.tie _<|Nx h0 h1).2.2.1;unfold Inc ZY O.far;rcases h2 with h2|h2
 .rw[gw h2,gx<|by lia];exact⟨⟨h0,h1,.inr rfl⟩,h2⟩
 .rw[gx (by lia),gw rfl];exact⟨⟨h0,h1,.inl rfl⟩,h2⟩
abbrev nnP(s:Pi):Prop:=0<=s.1/\0<=s.2
structure LG(b:Int)(l:L):Prop where
 st:nnP l.st
 rt:0<=l.root
 cs:0<=l.cost
 cr:l.cost=0↔l.root=b
 ag:0<=l.age
structure BG(ts:List Tie)(lv:List<|Int×Int)(b:Int)(B:Br):Prop where
 num:B.number=b
 nn:0<=b
 life:lv.lookup b=eM B.life
 st:nnP (B.life,B.version)
 cnt:0<=B.count
 held:∀q∈B.held,LG (ZY ts q.1 b) q.2.1/\0<=q.2.2
 ties:∀q∈B.ties,Inc ts q.1 b/\q.2=(ZY ts q.1 b,cst ts q.1)
 rt:0<=B.label.root
 cs:0<=B.label.cost
 cr:B.label.cost=0↔B.label.root=b
 up:∀u,B.label.up=eM u->nnP u.2
structure GS(C:Yc):Prop where
 br:∀q∈C.br,BG C.ts C.lives q.1 q.2
 lv:∀q∈C.lives,0<=q.2
 road:∀r∈C.road,r.2.1=ZY C.ts r.2.2.1 r.1/\Inc C.ts r.2.2.1 r.1/\LG r.1 r.2.2.2
section
variable {ts:List Tie}{lv:List (Int×Int)}{b c p:Int}{l:L}{B:Br}{C D:Yc}
def BG.less(o:BG ts lv b B){A:Br}(e0:A.number=B.number)(e1:A.life=B.life)(e2:A.version=B.version)(e3:A.label=B.label)(e4:A.count=B.count)(hh:∀q∈A.held,LG (ZY ts q.1 b) q.2.1/\0<=q.2.2)(ht:∀q∈A.ties,Inc ts q.1 b/\q.2=(ZY ts q.1 b,cst ts q.1)):BG ts lv b A :=
 ⟨e0.trans o.num,o.nn,by rw[e1];exact o.life,by rw[e1,e2];exact o.st,by rw[e4];exact o.cnt,hh,ht,by rw[e3];exact o.rt,by rw[e3];exact o.cs,by rw[e3];exact o.cr,by rw[e3];exact o.up⟩
def BG.tieF(o:BG ts lv b B){on:Bool}{f k:Int}(hp:Inc ts p b)(hf:f=ZY ts p b)(hk:k=cst ts p):BG ts lv b<|O.tieF on p f k B:=by
 subst hf hk;unfold O.tieF;split
 .unfold upB;split
  .exact o
  .refine o.less rfl rfl rfl rfl rfl o.held λq hq=>?_;rcases YQ hq with e|hq
   .rw[e];exact⟨hp,rfl⟩
   .exact o.ties q hq
 .exact o.less rfl rfl rfl rfl rfl (λq h=>o.held q<|ZO h) λq hq=>o.ties q<|ZO hq
def Uz{R:Int->Br->Prop}{k:Int}{m:List (Int×Br)}(h:∀q∈m,R q.1 q.2)(hF:∀A,R k A->R k (F A)):∀q∈upC k F m,R q.1 q.2:=λq hq=>by
 let⟨e,he,rfl⟩:=Ô.mp hq;split
 .rename_i z;have:=h e he;rw[z]at this;dsimp only;rw[z];exact hF _ this
 .exact h e he
def MK{bs:List Int}(no:fm bs C.ts)(h0:0<=p)(h1:p<C.ts.length)(h:∀q∈C.br,BG C.ts C.lives q.1 q.2):∀q∈(C.set1 p).br,BG C.ts C.lives q.1 q.2:=by have lt:=(no.tie _<|Nx h0 h1).2.2.1;have e1:ZY C.ts p (C.tie p).1=(C.tie p).2.1:=gw rfl;have e2:ZY C.ts p (C.tie p).2.1=(C.tie p).1:=gx (by show ¬ (C.ts[p.toNat]?.getD (0,0,0)).1=(C.ts[p.toNat]?.getD (0,0,0)).2.1;lia);exact Uz (R:=BG C.ts C.lives) (Uz (R:=BG C.ts C.lives) h λA o=>o.tieF ⟨h0,h1,.inl rfl⟩ e1.symm rfl) λA o=>o.tieF ⟨h0,h1,.inr rfl⟩ e2.symm rfl
def Nk{bs:List Int}:∀{m:List Tie}{C:Yc},fm bs C.ts->(∀r∈m,0<=r.1/\r.1<C.ts.length)->(∀q∈C.br,BG C.ts C.lives q.1 q.2)->(∀q∈(C.sets m).br,BG C.ts C.lives q.1 q.2)/\(C.sets m).lives=C.lives/\(C.sets m).road=C.road
 |[],_,_,_,h=>⟨h,rfl,rfl⟩
 |r::m,C,no,hm,h=>Nk (m:=m) (C:=C.set1 r.1) no (λq hq=>hm q<|by simp[hq]) (MK no (hm r<|by simp).1 (hm r<|by simp).2 h)
def AY(h:Yb number ĕ=eM m):m.headD 0<number:=by
 unfold Yb at h;split at h
 .cases h
 .rename_i x r e;cases h;have:minR x r∈ĕ.filter (λr=>gC (r.headD 0<number)):=by rw[e];exact Jp r x
  exact of_decide_eq_true (ó.mp this).2
def G9(o:B.ok):(reck B=⟨B.number,0,eN⟩)\/∃p l a,(p,(l,a))∈B.held/\reck B=⟨l.root,l.cost+(Xc B.ties p).2,eM (p,l.st)⟩/\l.root<B.number:=by
 unfold reck;split
 .exact .inl rfl
 .rename_i m e;have hl:=AY e;have hm:=J6 e;unfold KJ at hm;let⟨y,hy,rfl⟩:=Ô.mp hm;refine .inr ⟨y.1,y.2.1,y.2.2,hy,?_,hl⟩;have:M9 B.held y.1=y.2.1.st:=by unfold M9;rw[Yu o.nd hy];rfl
  show(⟨y.2.1.root,y.2.1.cost+(Xc B.ties y.1).2,eM (y.1,M9 B.held y.1)⟩:Lab)=_;rw[this]
abbrev HI(ts:List Tie)(b:Int)(B:Br)(y:Lab):Prop:=y=⟨b,0,eN⟩\/∃p s,y.up=eM (p,s)/\nnP s/\0<=y.root/\y.root<b/\(B.ties.lookup p).isSome=eP/\(B.held.lookup p).isSome=eP/\cst ts p<=y.cost/\(y.cost=cst ts p↔y.root=ZY ts p b)
def BG.reck(o:BG ts lv b B)(ok:B.ok):HI ts b B<|O.reck B:=by
 rcases G9 ok with e|⟨p,l,a,hm,e,hl⟩
 .exact .inl (by rw[e,o.num])
 .obtain⟨g,_⟩:=o.held _ hm;have hs:=ok.sub _ hm;have ht:Xc B.ties p=(ZY ts p b,cst ts p):=(o.ties _<|Zi<|Ul hs).2;have e2:(Xc B.ties p).2=cst ts p:=by rw[ht]
  replace g:LG (ZY ts p b) l:=g
  have gc:=g.cs;have gr:=g.cr;rw[e];refine .inr ⟨p,l.st,rfl,g.st,g.rt,by rw[o.num]at hl;exact hl,hs,by rw[Yu ok.nd hm];rfl,?_,?_⟩
  .show cst ts p<=l.cost+(Xc B.ties p).2;rw[e2];lia
  .show l.cost+(Xc B.ties p).2=cst ts p↔l.root=ZY ts p b;rw[e2,<-gr];lia
def JJ{p:Int×(L×Int)}(h:p∈Yv most held):∃a,(p.1,(p.2.1,a))∈held/\p.2.2=a+1/\a+1<most:=by
 let⟨q,hq,e⟩:=Ź.mp h;split at e
 .rename_i z;cases e;exact⟨_,hq,rfl,z⟩
 .cases e
def BG.grown(o:BG ts lv b B):BG ts lv b B.grown:=o.less rfl rfl rfl rfl rfl (λq hq=>by
  let⟨a,ha,e,_⟩:=JJ hq
  let⟨g,ga⟩:=o.held _ ha
  exact⟨g,by rw[e];replace ga:0<=a:=ga;lia⟩) o.ties
def BG.told{bs:List Int}(no:fm bs ts)(o:BG ts lv b B)(ok:B.ok):BG ts lv b B.told/\HI ts b B.grown B.told.label:=by
 have og:=o.grown;have r:=og.reck ok.grown;have el:B.told.label=O.reck B.grown:=by
  unfold Br.told taken;split
  .rename_i e;exact e.symm
  .rfl
 rw[el];refine⟨?_,r⟩;have key:0<=(O.reck B.grown).root/\0<=(O.reck B.grown).cost/\((O.reck B.grown).cost=0↔(O.reck B.grown).root=b)/\∀u,(O.reck B.grown).up=eM u->nnP u.2:=by
  rcases r with e|⟨p,s,h1,h2,h3,h4,h5,_,h6,_⟩
  .rw[e];exact⟨o.nn,ĵ _,⟨λ_=>rfl,λ_=>rfl⟩,λu hu=>by cases hu⟩
  .have hi:=(o.ties _<|Zi<|Ul h5).1;have hc:1<=cst ts p:=(no.tie _<|Nx hi.1 hi.2.1).2.2.2.1;refine⟨h3,by lia,⟨λz=>by lia,λz=>by lia⟩,λu hu=>?_⟩;rw[h1]at hu;cases hu;exact h2
 let⟨k1,k2,k3,k4⟩:=key;unfold Br.told taken;split
 .exact og
 .exact⟨og.num,og.nn,og.life,⟨og.st.1,by have:=og.st.2;show 0<=B.version+1;replace this:0<=B.version:=this;lia⟩,og.cnt,og.held,og.ties,k1,k2,k3,k4⟩
def told_most:B.told.most=B.most:=by unfold Br.told taken;split<;>rfl
def BG.age{bs:List Int}(no:fm bs ts)(o:BG ts lv b B)(ok:B.ok):(B.told.label.up=eN->Z8 B.told=0)/\(∀u,B.told.label.up=eM u->2<=Z8 B.told/\Z8 B.told<=B.most):=by
 let⟨_,r⟩:=o.told no ok;have hh:B.told.held=B.grown.held:=(Zr B.grown<|O.reck B.grown).1;unfold Z8;refine⟨λe=>by rw[e],λu e=>?_⟩;rw[e];rcases r with z|⟨p,s,h1,h2,h3,h4,h5,h6,_⟩
 .rw[z]at e;cases e
 .rw[e]at h1;cases h1;let⟨v,hv⟩:=ë.mp h6;let⟨a,ha,ea,hm⟩:=JJ<|Zi hv;let⟨_,ga⟩:=o.held _ ha;show 2<=((B.told.held.lookup p).map (·.2)).getD 0+1/\((B.told.held.lookup p).map (·.2)).getD 0+1<=B.most;rw[hh,hv]
  replace ga:0<=a:=ga
  replace ea:v.2=a+1:=ea
  show 2<=v.2+1/\v.2+1<=B.most;lia
def BG.letter{bs:List Int}(no:fm bs ts)(o:BG ts lv b B)(ok:B.ok):LG b<|Zg B.told p:=by
 let⟨t,_⟩:=o.told no ok;let⟨a1,a2⟩:=o.age no ok;refine⟨t.st,t.rt,t.cs,t.cr,?_⟩;show 0<=Z8 B.told;cases e:B.told.label.up with
 |none=>rw[a1 e];exact ĵ _
 |some u=>have:=a2 u e;lia
def BG.agrees{bs:List Int}(no:fm bs ts)(o:BG ts lv b B)(ok:B.ok){s:Pi}(h:(Zg B.told p).agrees=eM s):Oo B.told.label.up p=eQ/\nnP s:=by
 let⟨t,_⟩:=o.told no ok
 replace h:(if Oo B.told.label.up p then eN else if WK B.told p then eM (M9 B.told.held p)else eN)=eM s:=h
 split at h
 .cases h
 .rename_i hu;split at h
  .rename_i hr;refine⟨⇑hu,?_⟩;unfold WK at hr;cases e:B.told.held.lookup p with
   |none=>rw[e]at hr;cases hr
   |some v =>cases h;unfold M9;rw[e];exact(t.held _<|Zi e).1.st
  .cases h
end
section
variable {C D:Yc}{N:Nat}
def Fj{d:Dd}(gd:C.gd N)(sf:GS C)(st:step C d=eM D):GS D:=by
 have no:=gd.no;cases d with
 |tick b =>
  let⟨B,hB,rfl⟩:=Ä.mp st;have hm:=Zi hB;have o:=sf.br _ hm;have ok:=(gd.ok _ hm).ok;let⟨t,_⟩:=o.told no ok;refine⟨λq hq=>?_,sf.lv,λr hr=>?_⟩
  .obtain⟨e,he,rfl⟩:=Ô.mp hq;split
   .rename_i z;have:=Yu gd.nd he;rw[z,hB]at this;cases this;dsimp only;rw[z];exact⟨t.num,t.nn,t.life,t.st,by show 0<=e.2.count+1;have:0<=e.2.count:=o.cnt;lia,t.held,t.ties,t.rt,t.cs,t.cr,t.up⟩
   .exact sf.br e he
  .rcases â.mp hr with hr|hr
   .exact sf.road r hr
   .obtain⟨p,hp,rfl⟩:=Ô.mp hr;let⟨q,hq,rfl⟩:=Ô.mp<|mem_sort.mp hp;rw[show B.told.ties=B.ties from (Zr B.grown<|reck B.grown).2.1]at hq;exact⟨rfl,(o.ties q hq).1,o.letter no ok⟩
 |come p =>
  replace st:(if p<0 then eN else(C.road[p.toNat]?).map λr=>({C with br:=upC r.2.1 (Zy · r.2.2.1 r.2.2.2) C.br,road:=C.road.eraseIdx p.toNat}:Yc))=eM D:=st
  split at st
  .cases st
  .obtain⟨r,hr,rfl⟩:=Ä.mp st;let⟨e,inc,lo⟩:=sf.road r<|ô hr;refine⟨Uz (R:=BG C.ts C.lives) (F:=(Zy · r.2.2.1 r.2.2.2)) sf.br λA o=>?_,sf.lv,λq hq=>sf.road q<|bS hq⟩;unfold Zy;split
   .split
    .refine o.less rfl rfl rfl rfl rfl (λq hq=>?_) o.ties;rcases YQ hq with z|hq
     .rw[z];show LG (ZY C.ts r.2.2.1 r.2.1) r.2.2.2/\0<=r.2.2.2.age;rw[e,(inc.far no).2];exact⟨lo,lo.ag⟩
     .exact o.held q hq
    .exact o
   .exact o
 |lost p =>
  replace st:(if p<0 then eN else(C.road[p.toNat]?).map λr=>({C with road:=C.road.eraseIdx p.toNat}:Yc))=eM D:=st
  split at st
  .cases st
  .obtain⟨r,hr,rfl⟩:=Ä.mp st;exact⟨sf.br,sf.lv,λq hq=>sf.road q<|bS hq⟩
 |fallB b =>let⟨_,rfl⟩:=Zt st;let⟨q1,q2,q3⟩:=Nk (C:={C with br:=Ze C.br b}) no (XR (b:=b)) λq hq=>sf.br q<|ZO hq;let⟨e1,e2,e3⟩:=Yl (gh b 0 C.ts) {C with br:=Ze C.br b};exact⟨by rw[e2,q2];exact q1,by rw[q2];exact sf.lv,by rw[e2,q3];exact sf.road⟩
 |fallT p =>let⟨hp,rfl⟩:=Zt st;exact⟨MK (C:={C with fallen:=Za C.fallen p eP}) no hp.1.1 hp.1.2 sf.br,sf.lv,sf.road⟩
 |backB b =>
  replace st:(if(C.br.lookup b).isSome then eN else(C.lives.lookup b).map λl=>Yc.sets {C with lives:=Za C.lives b<|l+1,br:=C.br++[(b,Zv b (l+1) C.most [])]}<|gh b 0 C.ts)=eM D:=st
  split at st
  .cases st
  .rename_i hn;let⟨l,hl,rfl⟩:=Ä.mp st;have l0:0<=l:=sf.lv _<|Zi hl;have hb:b∈C.bs:=by rw[<-gd.lv];exact ø (f:=(·.1)) (Zi hl)
   have lk:∀c,(Za C.lives b<|l+1).lookup c=if c=b then eM (l+1)else C.lives.lookup c:=λc=>by
    split
    .rename_i z;rw[z];exact ZF
    .rename_i z;exact ZV z
   let⟨q1,q2,q3⟩:=Nk (C:={C with lives:=Za C.lives b<|l+1,br:=C.br++[(b,Zv b (l+1) C.most [])]}) no (XR (b:=b)) λq hq=>by
    rcases â.mp hq with hq|hq
    .have ű:q.1≠b:=λz=>hn (by rw[keys_look,<-z];exact ø hq);have o:=sf.br q hq;exact⟨o.num,o.nn,by show(Za C.lives b<|l+1).lookup q.1=_;rw[lk,gx ű];exact o.life,o.st,o.cnt,o.held,o.ties,o.rt,o.cs,o.cr,o.up⟩
    .rw[á.mp hq];have n0:0<=b:=(no.rng b hb).1;exact⟨rfl,n0,by show(Za C.lives b<|l+1).lookup b=_;rw[lk,gw rfl];rfl,⟨by show 0<=l+1;lia,ĵ _⟩,ĵ _,(λq hq=>gB hq Í),(λq hq=>gB hq Í),n0,ĵ _,⟨λ_=>rfl,λ_=>rfl⟩,λu hu=>by cases hu⟩
   let⟨e1,e2,e3⟩:=Yl (gh b 0 C.ts) {C with lives:=Za C.lives b<|l+1,br:=C.br++[(b,Zv b (l+1) C.most [])]};refine⟨by rw[e2,q2];exact q1,?_,?_⟩
   .rw[q2];intro q hq;rcases YQ hq with z|hq
    .rw[z];show 0<=l+1;lia
    .exact sf.lv q hq
   .rw[e2,q3];exact sf.road
 |backT p =>let⟨hp,rfl⟩:=Zt st;let⟨v,hv⟩:=ë.mp hp;have:=gd.fr _<|Zi hv;exact⟨MK (C:={C with fallen:=Ze C.fallen p}) no this.1 this.2 sf.br,sf.lv,sf.road⟩
def E8{bs:List Int}(no:fm bs ts):GS<|XE bs ts most:=by
 refine⟨λq hq=>?_,λq hq=>?_,(λr hr=>gB hr Í)⟩
 .obtain⟨b,hb,rfl⟩:=Ô.mp hq;have n0:0<=b:=(no.rng b hb).1;refine⟨rfl,n0,?_,⟨ĵ _,ĵ _⟩,ĵ _,(λq hq=>gB hq Í),λq hq=>?_,n0,ĵ _,⟨λ_=>rfl,λ_=>rfl⟩,λu hu=>by cases hu⟩
  .exact Yu (by rw[show((XE bs ts most).lives.map (·.1))=bs by show(bs.map λb=>(b,(0:Int))).map (·.1)=bs;rw[í];exact Ŭ _];exact no.up.imp λh=>by lia)<|Ô.mpr ⟨b,hb,rfl⟩
  .obtain⟨r,hr,rfl⟩:=Ô.mp hq;let⟨j,t,h1,h3,rfl⟩:=nbs_iff.mp hr;have hj:=(Ì.mp h1).1;have e:ts[((0+j:Nat):Int).toNat]?.getD (0,0,0)=t:=by rw[š,Ö,h1];rfl
   refine⟨⟨by lia,by show((0+j:Nat):Int)<(ts.length:Nat);lia,?_⟩,?_⟩
   .show(ts[((0+j:Nat):Int).toNat]?.getD (0,0,0)).1=b\/(ts[((0+j:Nat):Int).toNat]?.getD (0,0,0)).2.1=b;rw[e];exact h3.imp Eq.symm Eq.symm
   .show(far t b,t.2.2)=(far (ts[((0+j:Nat):Int).toNat]?.getD (0,0,0)) b,(ts[((0+j:Nat):Int).toNat]?.getD (0,0,0)).2.2)
    rw[e]
 .obtain⟨c,_,rfl⟩:=Ô.mp hq;exact ĵ _
end
def UJ:∀{l m:List Int},l.Pairwise (· < ·)->m.Pairwise (· < ·)->(∀x,x∈l↔x∈m)->l=m
 |[],[],_,_,_=>rfl
 |[],y::m,_,_,h=>gB ((h y).mpr æ) Í
 |x::l,[],_,_,h=>gB ((h x).mp æ) Í
 |x::l,y::m,hl,hm,h=>by
  rw[aa]at hl hm;have e:x=y:=by
   rcases Æ.mp ((h x).mp æ)with e|z
   .exact e
   .rcases Æ.mp ((h y).mpr æ)with e|w
    .exact e.symm
    .have:=hm.1 x z;have:=hl.1 y w;lia
  subst e;refine congrArg (x :: ·)<|UJ hl.2 hm.2 λz=>⟨λhz=>?_,λhz=>?_⟩
  .rcases Æ.mp ((h z).mp<|Ú _ hz)with e|w
   .have:=hl.1 z hz;lia
   .exact w
  .rcases Æ.mp ((h z).mpr<|Ú _ hz)with e|w
   .have:=hm.1 z hz;lia
   .exact w
def Og{i:Int}(e:h a=eM (.lst<|ns.map .int))(q:KB (!gC (i∈ns))):go (fj h .notin (.int i)<|.ref a) KB:=eW (by show(inV h (.int i)<|.ref a).map _=_;unfold inV;simp only[e];rw[Nb];rfl) q
def NN{i:Int}{K:Val×Hs->Prop}(e:h a=eM (.lst<|ns.map .int))(m:i∈ns)(q:K (.non,upd h a<|.lst<|(ns.erase i).map .int)):go (bmV h .remove (.ref a) [.int i]) K:=eW (by
  show(ff<|h a).bind _=_
  rw[lsE e]
  show(eY<|ns.map .int).bind _=_
  rw[Xa]
  exact gw m) q
abbrev Wm(ts:List Tie)(p:Int):Tie:=ts[p.toNat]?.getD (0,0,0)
abbrev XD(ts:List Tie)(gone cut:List Int)(p:Int):Bool:=!gC (p∈cut)&&(!gC ((Wm ts p).1∈gone) && !gC ((Wm ts p).2.1∈gone))
abbrev ups(bs gone:List Int):List Int:=bs.filter λb=>!gC (b∈gone)
def UY{b:Int}(h1:inR ts q=eP)(h2:ZH (Wm ts q) b=eP):(q,far (Wm ts q) b,(Wm ts q).2.2)∈gh b 0 ts:=by
 obtain⟨i,rfl⟩:∃i:Nat,q=i:=⟨q.toNat,by have:=(of_decide_eq_true h1).1;lia⟩
 have hi:i<ts.length:=by have:=(of_decide_eq_true h1).2;lia
 have et:Wm ts (i:Int)=ts[i]:=by unfold Wm;rw[Ö,É hi];rfl
 rw[et]at h2 ⊢;exact nbs_iff.mpr ⟨i,ts[i],É hi,touch_iff.mp h2,by rw[š]⟩
def Jv{r:Tie}{b:Int}(h:r∈gh b 0 ts):inR ts r.1=eP/\ZH (Wm ts r.1) b=eP/\r=(r.1,far (Wm ts r.1) b,(Wm ts r.1).2.2):=by
 let⟨i,t,h1,h2,rfl⟩:=nbs_iff.mp h;have hi:=(Ì.mp h1).1;have et:Wm ts ((0+i:Nat):Int)=t:=by unfold Wm;rw[š,Ö,h1];rfl
 dsimp only;rw[et];exact⟨gz ⟨by lia,by lia⟩,touch_iff.mpr h2,rfl⟩
abbrev upT(ts:List Tie)(gone cut:List Int)(b:Int):List Tie:=(gh b 0 ts).filter λr=>XD ts gone cut r.1
section
variable {C D:Yc}{gone cut:List Int}{N:Nat}{b p:Int}{B:Br}
def Wk.on(w:Wk C gone cut)(g:C.gd N)(h:inR C.ts q=eP):onC C q=XD C.ts gone cut q:=by
 let⟨h1,h2,_⟩:=Wu g.no h;have a:=w.st (C.tie q).1;have c:=w.st (C.tie q).2.1;unfold Yc.std at a c;unfold onC XD;rw[w.fa,a,c];congr 1;have m1:(C.tie q).1∈C.bs:=h1;have m2:(C.tie q).2.1∈C.bs:=h2;show(decide _&&decide _)=(!gC ((C.tie q).1∈gone) && !gC ((C.tie q).2.1∈gone))
 simp[m1,m2]
def Wk.keys_eq(w:Wk C gone cut)(g:C.gd N):C.keys=ups C.bs gone:=by refine UJ (Nm g.nd) (g.no.up.sublist ħ) λb=>?_;have hs:=w.st b;unfold Yc.std at hs;show b∈C.keys↔_;rw[keys_mem,hs];unfold ups;rw[ó];simp
def Wk.tied(w:Wk C gone cut)(g:C.gd N)(hB:C.br.lookup b=eM B)(q:Int):(B.ties.lookup q).isSome=eP↔(inR C.ts q=eP/\ZH (Wm C.ts q) b=eP/\XD C.ts gone cut q=eP):=by
 have t:=w.ti b q;have e1:C.tied b q=(B.ties.lookup q).isSome:=by unfold Yc.tied;rw[hB];rfl
 have e2:C.std b=eP:=by unfold Yc.std;rw[hB];rfl
 rw[e1,e2,ţ]at t;rw[t,bAq,bAq];constructor
 .rintro⟨h1,h2,h3⟩;exact⟨h1,h2,by rw[<-w.on g h1];exact h3⟩
 .rintro⟨h1,h2,h3⟩;exact⟨h1,h2,by rw[w.on g h1];exact h3⟩
def Wk.places(w:Wk C gone cut)(g:C.gd N)(hB:C.br.lookup b=eM B):sortI (B.ties.map (·.1))=(upT C.ts gone cut b).map (·.1):=by
 have ok:=(g.ok _<|Zi hB).ok;refine UJ (Nm ok.nt) (WG.1.sublist<|ħ.map _) λp=>?_;have hk:p∈B.ties.map (·.1)↔(B.ties.lookup p).isSome=eP:=by rw[look_iff];simp
 rw[mem_sort,hk,w.tied g hB];constructor
 .rintro⟨h1,h2,h3⟩;exact Ô.mpr ⟨_,ó.mpr ⟨UY h1 h2,h3⟩,rfl⟩
 .intro hp;let⟨r,hr,rfl⟩:=Ô.mp hp;let⟨hr,hu⟩:=ó.mp hr;let⟨h1,h2,_⟩:=Jv hr;exact⟨h1,h2,hu⟩
def Wk.sent(w:Wk C gone cut)(g:C.gd N)(hB:C.br.lookup b=eM B):ZP C.ts b B.told=(upT C.ts gone cut b).map λr=>(b,r.2.1,r.1,Zg B.told r.1):=by unfold ZP;rw[show B.told.ties=B.ties from (Zr B.grown<|reck B.grown).2.1,w.places g hB,í];refine Ċ λr hr=>?_;let⟨_,_,e⟩:=Jv (ó.mp hr).1;show(b,ZY C.ts r.1 b,r.1,Zg _ r.1)=_;rw[show r.2.1=ZY C.ts r.1 b from congrArg (λz:Tie=>z.2.1) e]
def Wk.backE{gone':List Int}(w:Wk C gone cut)(g:C.gd N)(hb:b∈C.bs)(hg:∀c,c∈gone'↔c∈gone/\c≠b)(s:step C (.backB b)=eM D):Wk D gone' cut/\D.road=C.road:=by
 replace s:(if(C.br.lookup b).isSome then eN else(C.lives.lookup b).map λl=>Yc.sets {C with lives:=Za C.lives b<|l+1,br:=C.br++[(b,Zv b (l+1) C.most [])]}<|gh b 0 C.ts)=eM D:=s
 split at s
 .cases s
 .rename_i hz;let⟨l,hl,rfl⟩:=Ä.mp s;have hx:C.br.lookup b=eN:=Ś.mp hz;let⟨s1,s2,s3,s4,s5,s6,s7⟩:=Yg (gh b 0 C.ts) {C with lives:=Za C.lives b<|l+1,br:=C.br++[(b,Zv b (l+1) C.most [])]};refine⟨⟨λc=>?_,λq=>by rw[s3];exact w.fa q,CL g.no w.ti hx⟩,s5⟩;rw[s2,s6];have:=w.st c;unfold Yc.std at this ⊢;dsimp only;rw[XB hx];by_cases e:c=b
  .rw[gw e,e];symm;simp[hb,hg]
  .rw[gx e,this];simp[e,hg]
def Wk.backT{cut':List Int}(w:Wk C gone cut)(g:C.gd N)(hc:∀q,q∈cut'↔q∈cut/\q≠p)(s:step C (.backT p)=eM D):Wk D gone cut'/\D.road=C.road:=by
 let⟨hp,rfl⟩:=Zt s;let⟨v,hv⟩:=ë.mp hp;have hr:inR C.ts p=eP:=gz<|g.fr _<|Zi hv;have ld:∀q,(Ze C.fallen p).lookup q=if q=p then eN else C.fallen.lookup q:=λq=>ZI;refine⟨⟨λc=>?_,λq=>?_,DF (fl:=Ze C.fallen p) g.no w.ti hr λq hq=>by rw[ld,gx hq]⟩,rfl⟩
 .rw[Yh.2];exact w.st c
 .show((Ze C.fallen p).lookup q).isSome=_;rw[ld];have:=w.fa q;by_cases e:q=p
  .rw[gw e];symm;simp[e,hc]
  .rw[gx e,this];simp[e,hc]
end
abbrev kyB(B:Br):Int×Int×Int×Lab:=(B.life,B.count,B.version,B.label)
abbrev DP(f:Int->α)(b:Int)(v:α):Int->α:=λc=>if c=b then v else f c
def BD{f:Int->α}{b:Int}{v:α}:DP f b v b=v:=gw rfl
def AQ{f:Int->α}{b:Int}{v:α}(h:c≠b):DP f b v c=f c:=gx h
def UK{k:Int}{l:List (Int×Br)}(hF:∀B,kyB (F B)=kyB B)(b:Int):((upC k F l).lookup b).map kyB=(l.lookup b).map kyB:=by
 rw[Yt,ũ];cases l.lookup b with
 |none=>rfl
 |some B =>
  show eM (kyB<|if b=k then F B else B)=eM (kyB B);split
  .rw[hF]
  .rfl
def NL{on:Bool}{p f:Int}(B:Br):kyB (tieF on p f c B)=kyB B:=by
 unfold tieF upB JZ;split
 .split<;>rfl
 .rfl
def JS{p b:Int}:((C.set1 p).br.lookup b).map kyB=(C.br.lookup b).map kyB:=(UK (λB=>NL B) b).trans (UK (λB=>NL B) b)
def Kk:∀(l:List Tie) (C:Yc) (b:Int),((C.sets l).br.lookup b).map kyB=(C.br.lookup b).map kyB
 |[],_,_=>rfl
 |r::l,C,b=>(Kk l (C.set1 r.1) b).trans JS
structure Lw(C:Yc)(Ž:Int->Int×Int×Int)(LB:List<|Int×Lab):Prop where
 live:∀b∈C.bs,C.lives.lookup b=eM (Ž b).1
 br:∀b B,C.br.lookup b=eM B->Ž b=(B.life,B.count,B.version)
 nd:(LB.map (·.1)).Nodup
 lab:∀b,LB.lookup b=(C.br.lookup b).map (·.label)
def Ay{k:Int}{v:α}(h:(kvs.map (·.1)).Nodup):((Za kvs k v).map (·.1)).Nodup:=by
 rw[Z6];split
 .exact h
 .rename_i z;refine å.mpr ⟨h,by simp,λa ha c hc e=>z ?_⟩;rw[á]at hc;rw[look_iff,gA,<-hc,<-e];exact ha
section
variable {C D:Yc}{Ž:Int->Int×Int×Int}{LB:List (Int×Lab)}{N:Nat}{b p:Int}{B:Br}
def Lw.keep(w:Lw C Ž LB)(h1:D.bs=C.bs)(h2:D.lives=C.lives)(h3:∀b,(D.br.lookup b).map kyB=(C.br.lookup b).map kyB):Lw D Ž LB:=by
 refine⟨λb hb=>by rw[h2];exact w.live b (by rw[<-h1];exact hb),λb B hB=>?_,w.nd,λb=>?_⟩
 .have:=h3 b;rw[hB]at this;let⟨A,hA,e⟩:=Ä.mp this.symm;rw[w.br b A hA];have e:(A.life,A.count,A.version,A.label)=(B.life,B.count,B.version,B.label):=e;simp only[χ]at e;rw[e.1,e.2.1,e.2.2.1]
 .rw[w.lab];have:=congrArg (Option.map λz:Int×Int×Int×Lab=>z.2.2.2)<|h3 b;rw[ũ,ũ]at this;exact this.symm
def Lw.road(w:Lw C Ž LB)(s:step C (.come p)=eM D\/step C (.lost p)=eM D):Lw D Ž LB/\D.road=C.road.eraseIdx p.toNat:=by
 rcases s with s|s
 .replace s:(if p<0 then eN else(C.road[p.toNat]?).map λr=>({C with br:=upC r.2.1 (Zy · r.2.2.1 r.2.2.2) C.br,road:=C.road.eraseIdx p.toNat}:Yc))=eM D:=s
  split at s
  .cases s
  .obtain⟨r,hr,rfl⟩:=Ä.mp s;exact⟨w.keep rfl rfl (UK (F:=(Zy · r.2.2.1 r.2.2.2)) λA=>by unfold Zy;split<;>(try split)<;>rfl),rfl⟩
 .replace s:(if p<0 then eN else(C.road[p.toNat]?).map λr=>({C with road:=C.road.eraseIdx p.toNat}:Yc))=eM D:=s
  split at s
  .cases s
  .obtain⟨r,hr,rfl⟩:=Ä.mp s;exact⟨w.keep rfl rfl λ_=>rfl,rfl⟩
def Lw.fallT(w:Lw C Ž LB)(s:step C (.fallT p)=eM D):Lw D Ž LB:=by let⟨_,rfl⟩:=Zt s;exact w.keep rfl rfl λ_=>JS
def Lw.backT(w:Lw C Ž LB)(s:step C (.backT p)=eM D):Lw D Ž LB:=by let⟨_,rfl⟩:=Zt s;exact w.keep rfl rfl λ_=>JS
def Lw.fallB(w:Lw C Ž LB)(s:step C (.fallB b)=eM D):Lw D Ž<|Ze LB b:=by
 let⟨_,rfl⟩:=Zt s;let⟨s1,s2,s3,s4,s5,s6,s7⟩:=Yg (gh b 0 C.ts) {C with br:=Ze C.br b};have w1:Lw {C with br:=Ze C.br b} Ž<|Ze LB b:=by
  refine⟨w.live,λc B hB=>?_,?_,λc=>?_⟩
  .replace hB:(Ze C.br b).lookup c=eM B:=hB
   rw[ZI]at hB;split at hB
   .cases hB
   .exact w.br c B hB
  .unfold Ze;exact w.nd.sublist<|ħ.map _
  .show(Ze LB b).lookup c=((Ze C.br b).lookup c).map _;rw[ZI,ZI];split
   .rfl
   .exact w.lab c
 exact w1.keep s6 s4<|Kk _ _
def Lw.backB(w:Lw C Ž LB)(hb:b∈C.bs)(s:step C (.backB b)=eM D):Lw D (DP Ž b ((Ž b).1+1,0,0))<|Za LB b ⟨b,0,eN⟩:=by
 replace s:(if(C.br.lookup b).isSome then eN else(C.lives.lookup b).map λl=>Yc.sets {C with lives:=Za C.lives b<|l+1,br:=C.br++[(b,Zv b (l+1) C.most [])]}<|gh b 0 C.ts)=eM D:=s
 split at s
 .cases s
 .rename_i hz;let⟨l,hl,rfl⟩:=Ä.mp s;have hx:C.br.lookup b=eN:=Ś.mp hz;have el:l=(Ž b).1:=by have:=w.live b hb;rw[hl]at this;exact ñ this
  let⟨s1,s2,s3,s4,s5,s6,s7⟩:=Yg (gh b 0 C.ts) {C with lives:=Za C.lives b<|l+1,br:=C.br++[(b,Zv b (l+1) C.most [])]};have w1:Lw {C with lives:=Za C.lives b<|l+1,br:=C.br++[(b,Zv b (l+1) C.most [])]} (DP Ž b ((Ž b).1+1,0,0))<|Za LB b ⟨b,0,eN⟩:=by
   refine⟨λc hc=>?_,λc B hB=>?_,Ay w.nd,λc=>?_⟩
   .show(Za C.lives b<|l+1).lookup c=_;by_cases e:c=b
    .rw[e,ZF,BD,el]
    .rw[ZV e,AQ e];exact w.live c hc
   .replace hB:(C.br++[(b,Zv b (l+1) C.most [])]).lookup c=eM B:=hB
    rw[XB hx]at hB;split at hB
    .rename_i e;cases hB;rw[e,BD,el];rfl
    .rename_i e;rw[AQ e];exact w.br c B hB
   .show(Za LB b ⟨b,0,eN⟩).lookup c=((C.br++[(b,Zv b (l+1) C.most [])]).lookup c).map _;rw[XB hx];by_cases e:c=b
    .rw[e,ZF,gw rfl];rfl
    .rw[ZV e,gx e];exact w.lab c
  exact w1.keep s6 s4<|Kk _ _
def Lw.tick(w:Lw C Ž LB)(hB:C.br.lookup b=eM B)(s:step C (.tick b)=eM D):Lw D (DP Ž b (B.life,B.count+1,B.told.version)) (Za LB b B.told.label)/\D.road=C.road++ZP C.ts b B.told/\D.br.lookup b=eM B.ticked:=by
 let⟨A,hA,rfl⟩:=Ä.mp s;rw[hB]at hA;cases hA;have tl:B.told.life=B.life:=by unfold Br.told taken;split<;>rfl
 have lk:∀c,(upC b Br.ticked C.br).lookup c=if c=b then eM B.ticked else C.br.lookup c:=λc=>by
  rw[Yt];by_cases e:c=b
  .rw[gw e,e,hB];show eM (if b=b then B.ticked else B)=_;rw[gw rfl]
  .rw[gx e];cases C.br.lookup c with
   |none=>rfl
   |some A=>show eM (if c=b then A.ticked else A)=_;rw[gx e]
 refine⟨⟨λc hc=>?_,λc A hA=>?_,Ay w.nd,λc=>?_⟩,rfl,by show(upC b Br.ticked C.br).lookup b=_;rw[lk,gw rfl]⟩
 .have:=w.live c hc;by_cases e:c=b
  .rw[e]at this ⊢;rw[BD];rw[w.br b B hB]at this;exact this
  .rw[AQ e];exact this
 .replace hA:(upC b Br.ticked C.br).lookup c=eM A:=hA
  rw[lk]at hA;split at hA
  .rename_i e;cases hA;rw[e,BD];show _=(B.told.life,B.count+1,B.told.version)
   rw[tl]
  .rename_i e;rw[AQ e];exact w.br c A hA
 .show _=((upC b Br.ticked C.br).lookup c).map _;rw[lk];by_cases e:c=b
  .rw[e,ZF,gw rfl];rfl
  .rw[ZV e,gx e];exact w.lab c
def GC{bs:List Int}(no:fm bs ts):Lw (XE bs ts most) (λ_=>(0,0,0))<|bs.map λb=>(b,⟨b,0,eN⟩):=by
 have nd:bs.Nodup:=no.up.imp λh=>by lia
 refine⟨λb hb=>?_,λb B hB=>?_,?_,λb=>?_⟩
 .show(bs.map λb=>(b,(0:Int))).lookup b=_;rw[Yj,gw<|show b∈bs from hb]
 .replace hB:(bs.map λb=>(b,Zv b 0 most<|gh b 0 ts)).lookup b=eM B:=hB
  rw[Yj]at hB;split at hB
  .cases hB;rfl
  .cases hB
 .rw[í];exact(Ŭ bs).symm▸nd
 .show _=((bs.map λb=>(b,Zv b 0 most<|gh b 0 ts)).lookup b).map _;rw[Yj,Yj];split<;>rfl
end
section
variable {pg pc pd pr:Ad}{bs gone cut:List Int}{ts:List Tie}
variable {i:Int}
def Bn(k:Q (.bl<|gC (i=j)) h):wF P (n+1) "_law_same" [.int i,.int j] h Q X:=by refine ZQ ?_;fail;refine fR (by simp) ?_;walk_at "p";exact k
def GK{xs ys:List Val}(e:i≠j)(l:xs.length=ys.length)(l9:ys.length<=90)(k:Q (.bl eQ) h):wF P (n+2) "_law_same" [.tup<|.int i::xs,.tup<|.int j::ys] h Q X:=by
 refine ZQ ?_;fail;refine fR (by simp) ?_;walk_at "p";refine fR (by simp[l]) ?_;fail;have hl:(Val.int j::ys).length=ys.length+1:=rfl;rw[hl];refine⟨⟨by lia,by lia⟩,?_⟩;refine Zo (λi' en g=>i'=0/\g=h/\∃v,en=[eM<|.tup<|.int i::xs,eM<|.tup<|.int j::ys,v]) ⟨rfl,rfl,_,rfl⟩ (λ_ _ _ _ _=>trivial) ?_ ?_
 .rintro i' v en g hv ⟨rfl,rfl,v1,rfl⟩ K hK;let⟨rfl,hi⟩:=XA hv
  exists eX (v:=.int i) (Z2 (Đ 0) rfl)
  exists eX (v:=.int j) (Z2 (Đ 0) rfl)
  exists Bn
  fail;refine fQ (by rw[gy e];rfl) ?_;refine' k
 .rintro en g ⟨z,_⟩;rw[Wr]at z;lia
def Yz{m:Int}(k:Q (.bl<|gC (m<=i)) h):wF P (n+1) "_law_count" [.int i,.int m] h Q X:=by refine NV ?_;walk_at "p";exact k
def KP{s:Pi}(hs:nnP s)(k:Q (.bl eP) h):wF P (n+2) "_law_is_stamp" [pV s] h Q X:=by refine JU ?_;walk_at "p";refine Yz ?_;rw[gz hs.1];walk_at "p";refine Yz ?_;rw[gz hs.2];exact k
def NC{p:Int}(h0:0<=p)(h1:p<ts.length)(eg:h pg=eM (.lst<|gone.map .int))(ec:h pc=eM (.lst<|cut.map .int))(k:Q (.bl<|XD ts gone cut p) h):wF P (n+1) "_law_is_up" [ZN bs ts,.ref pg,.ref pc,.int p] h Q X:=by
 unfold ZN;refine Ot ?_
 exists eX (Ax h0 h1)
 unfold XD Wm at k;generalize ts[p.toNat]?.getD (0,0,0)=t at k ⊢;let⟨a,b,c⟩:=t;unfold trV
 exists Og ec
 refine' fT (λhc=>?_) (λhc=>?_)
 .rw[hc,ţ]at k
  exists Og eg
  refine' fT (λhd=>?_) (λhd=>?_)
  .rw[hd,ţ]at k
   exists Og eg
   exact k
  .rw[hd]at k;exact k
 .rw[hc]at k;exact k
def K0{b:Int}(no:fm bs ts)(k:∀p g,h p=eN->Ext h g->g p=eM (.lst<|(gh b 0 ts).map trV)->Q (.ref p) g):wF P (n+1) "_law_ties_of" [ZN bs ts,.int b] h Q X:=by
 have l16:=no.sixteen;unfold ZN;refine Kv ?_;refine' Zf λp g0 hp x0 e0=>?_
 exists eW rfl
 refine Zo (λi en g=>Sm2 λv3 v4=>Cj3 (en=[eM<|.tup [.tup<|bs.map .int,.tup<|ts.map trV],eM<|.int b,eM<|.ref p,v3,v4]) (Ext h g)<|g p=eM (.lst<|(gh b 0<|ts.take i).map trV)) ⟨_,_,rfl,x0,e0⟩ (λ_ _ _ _ _=>trivial) ?_ ?_
 .rintro i v en g hv ⟨v3,v4,rfl,x,ep⟩ K hK;let⟨y,hy,rfl⟩:=Np hv;rw[Ø]at hy;let⟨t,ht,rfl⟩:=Ä.mp hy;have hi:i<ts.length:=(Ì.mp ht).1;have Ϡ:=(no.tie t<|ô ht).2.2.1;have hn:gh b 0 (ts.take<|i+1)=gh b 0 (ts.take i)++(if b=t.1\/b=t.2.1 then [((i:Int),far t b,t.2.2)]else []):=by
   rw[ν,ht];have:=J5 (b:=b) (t:=t) (l:=ts.take i) (k:=0);rw[ÿ,ź (by lia),š]at this;exact this
  have hl:=Wh (b:=b) (l:=ts.take i) (k:=0);rw[ÿ]at hl;have hlim:((gh b 0<|ts.take i).map trV).length<lim:=by rw[À];exact Ë (by lia:_<=16) (by decide)
  rw[š];let⟨t1,t2,t3⟩:=t;dsimp only at Ϡ hn;unfold trV;refine' fS (λhc=>?_) (λhc=>?_)
  .have e2:far (t1,t2,t3) b=t2:=gw hc;rw[gw<|.inl hc.symm,e2]at hn;fail;refine fR (gy<|by lia) ?_;refine' hK _ _ ⟨_,_,rfl,Xu x hp,?_⟩;rw[hn,Û];exact eS
  .refine' fS (λhd=>?_) (λhd=>?_)
   .have e2:far (t1,t2,t3) b=t1:=gx hc;rw[gw<|.inr hd.symm,e2]at hn;refine' hK _ _ ⟨_,_,rfl,Xu x hp,?_⟩;rw[hn,Û];exact eS
   .rw[gx λz=>z.elim (λe=>hc e.symm) λe=>hd e.symm,ď]at hn;refine' hK _ _ ⟨_,_,rfl,x,?_⟩;rw[hn];exact ep
 .rintro en g ⟨v3,v4,rfl,x,ep⟩;rw[J0,À,Ē]at ep;refine' k p g hp x ep
def O0{b:Int}{y:Lab}(no:fm bs ts)(eg:h pg=eM (.lst<|gone.map .int))(ec:h pc=eM (.lst<|cut.map .int))(lab:y=⟨b,0,eN⟩\/∃p s,y.up=eM (p,s)/\nnP s/\0<=y.root/\y.root<b/\(p,ZY ts p b,cst ts p)∈gh b 0 ts/\XD ts gone cut p=eP/\1<=y.cost/\cst ts p<=y.cost/\(y.cost=cst ts p↔y.root=ZY ts p b))(k:∀g,Ext h g->Q (.bl eP) g):wF P (n+3) "_law_is_label" [ZN bs ts,.tup [.ref pg,.ref pc,.ref pd,.ref pr,.int most],.int b,y.v] h Q X:=by
 refine JP ?_;fail;rcases lab with rfl|⟨p,s,hu,hs,h0,h1,hm,up,hc1,hc,he⟩
 .refine M1 1 (v:=.tup [.int b,.int 0,.non,.non]) ⟨Ň rfl,λx hx=>?_⟩ ?_
  .simp only[Æ,Í,or_false]at hx;rcases hx with rfl|rfl|rfl|rfl<;>trivial
  walk_at "p";exact k h .refl
 .obtain⟨r,c,u⟩:=y;dsimp only at hu h0 h1 hc1 hc he;subst hu;obtain⟨p0,p1⟩:0<=p/\p<ts.length:=XR _ hm;refine GK (i:=r) (j:=b) (xs:=[.int c,.int p,pV s]) (ys:=[.int 0,.non,.non]) (Int.ne_of_lt h1) rfl (by decide) ?_;walk_at "p";refine KP hs ?_;walk_at "p";refine Yz ?_;rw[gz h0];walk_at "p";refine Yz ?_;rw[gz hc1];walk_at "p";refine Yz ?_;rw[gz p0];walk_at "p";refine K0 no λq g hq x e=>?_;have eg':=x.get eg;have ec':=x.get ec;refine' Zo (λi en g'=>g'=g/\(∃v4 v5 v6,en=[eM<|ZN bs ts,eM<|.tup [.ref pg,.ref pc,.ref pd,.ref pr,.int most],eM<|.int b,eM<|.tup [.int r,.int c,.int p,pV s],v4,v5,v6])/\∃j:Nat,i<=j/\(gh b 0 ts)[j]?=eM (p,ZY ts p b,cst ts p)) ⟨rfl,⟨_,_,_,rfl⟩,?_⟩ (λ_ _ _ _ ⟨e',_⟩=>e'▸lsE e) ?_ ?_
  .obtain⟨j,hj⟩:=List.getElem?_of_mem hm;exact⟨j,ĳ _,hj⟩
  .rintro i v en g' hv ⟨rfl,⟨v4,v5,v6,rfl⟩,j,hij,hj⟩ K hK;rw[Ø]at hv;let⟨t,ht,rfl⟩:=Ä.mp hv;let⟨q1,q2,q3⟩:=t;unfold trV;refine' fS (λz=>?_) (λz=>?_)
   .obtain⟨_,_,e3⟩:=Jv<|ô ht;subst z;have e4:q2=ZY ts q1 b:=congrArg (λz:Tie=>z.2.1) e3;have e5:q3=cst ts q1:=congrArg (λz:Tie=>z.2.2) e3
    exists NC p0 p1 eg' ec'
    rw[up];walk_at "p";refine fQ (gz h1) ?_;fail;refine fQ (gz<|by lia) ?_;fail;have eb:(gC (c=q3)==gC (r=q2))=eP:=by rw[e4,e5,decide_eq_decide.mpr he];exact beq_self_eq_true _
    rw[eb];exact k _ x
   .walk_at "p";refine hK _ _ ⟨rfl,⟨_,_,_,rfl⟩,j,?_,hj⟩;rcases Nat.lt_or_eq_of_le hij with w|w
    .exact w
    .rw[<-w,ht]at hj;cases hj;exact gB rfl z
  .rintro en g' ⟨rfl,_,j,hij,hj⟩;rw[À]at hij;have:=(Ì.mp hj).1;lia
end
def Jc{d:Nat}(p:Pi):Pl (d+1)<|pV p:=⟨Ň rfl,λv hv=>by simp only[Æ,Í,or_false]at hv;rcases hv with rfl|rfl<;>cases d<;>trivial⟩
def DK{d:Nat}:∀o:Option Pi,Pl (d+1) (oV o)
 |none=>trivial
 |some p=>Jc p
def EO(r:Int×Int×Int×L):Pl 3<|rdV r:=by
 refine⟨Ň rfl,λv hv=>?_⟩;simp only[Æ,Í,or_false]at hv;rcases hv with rfl|rfl|rfl|rfl
 .trivial
 .trivial
 .trivial
 .refine⟨Ň rfl,λv hv=>?_⟩;simp only[Æ,Í,or_false]at hv;rcases hv with rfl|rfl|rfl|rfl|rfl|rfl|rfl
  .exact Jc _
  .exact Jc _
  .trivial
  .trivial
  .trivial
  .exact DK _
  .exact DK _
abbrev tl:Nat->Ss->Ss
 |0,s=>s
 |k+1,.cons _ r=>tl k r
 |_+1,.nil=>.nil
abbrev Xw:Ss->Ss
 |.cons (.for _ _ b) _=>b
 |_=>.nil
noncomputable abbrev stV(pg pc pd pr:Ad)(most:Int):Val:=.tup [.ref pg,.ref pc,.ref pd,.ref pr,.int most]
abbrev PV(Φ:Fs)(env:Env)(h:Hs)(X:XQ)(e:E)(v:Val):Prop:=∀Q:Q1,Q v h->xE Φ e env h Q X
abbrev PVA(Φ:Fs)(env:Env)(h:Hs)(X:XQ)(es:Es)(vs:List Val):Prop:=∀Q:List Val->Hs->Prop,Q vs h->xA Φ es env h Q X
section
variable {Φ:Fs}{env:Env}{h:Hs}{X:XQ}{a i e:E}{es:Es}{v:Val}{vs xs:List Val}{k:Int}{j:Nat}
def Cf:PV Φ env h X (.cst v) v:=λ_ q=>q
def Db(g:getV env j=eM v):PV Φ env h X (.var j) v:=λ_ q=>eW g q
def Lf(g:PVA Φ env h X es vs):PV Φ env h X (.tup es)<|.tup vs:=λ_ q=>g _ q
def Cd(f:PV Φ env h X a<|.tup xs)(g:PV Φ env h X i<|.int k)(e:atI xs k=eM v):PV Φ env h X (.idx a i) v:=λ_ q=>f _ (g _<|eW e q)
def HK(p:PV Φ env h X e v)(q:Q v h):xE Φ e env h Q X:=p Q q
def fW:PVA Φ env h X .nil []:=λ_ q=>q
def fX(f:PV Φ env h X e v)(g:PVA Φ env h X es vs):PVA Φ env h X (.cons e es)<|v::vs:=λ_ q=>f _ (g _ q)
end
section
variable {pg pc pd pr ps:Ad}{bs gone cut:List Int}{ts:List Tie}
def QG{K M M2:NQ}{b:Int}{y:Lab}{l:L}{t:Tie}{p5 p6:Ad}{v12 v13 v14 v15 v16:Option Val}{T:Tie}{TR:List (Int×Tie)}{ĕ:List Val}{ags:List Int}(ed:g pd=eM (.dct<|Zb trV TR))(hT:TR.lookup b=eM T)(es:g ps=eM (.lst ĕ))(e4:atI ĕ (i:Int)=eM (rdV (b,t.2.1,t.1,l)))(e6:g p6=eM (.lst<|ags.map .int))(h6:ags.length<=16)(l1:l.num=(T.1,T.2.1))(l2:l.st=(T.1,T.2.2))(l3:l.root=y.root)(l4:l.cost=y.cost)(l5:0<=l.age)(agr:∀s,l.agrees=eM s->Oo y.up t.1=eQ/\nnP s)(k:∀v12 v13 v14 v15 v16,K [eM<|ZN bs ts,eM<|stV pg pc pd pr most,eM<|.int b,eM y.v,eM<|.ref ps,eM<|.ref p5,eM<|.ref p6,eM<|.int i,eM<|.int t.1,eM<|.int t.2.1,eM<|.int t.2.2,eM<|oV l.rests,v12,v13,v14,v15,v16]<|upd g p6<|.lst<|(ags++[l.age]).map .int):wSs (wF P<|n+4) (tl 3<|Xw<|tl 3 Tn.body) [eM<|ZN bs ts,eM<|stV pg pc pd pr most,eM<|.int b,eM y.v,eM<|.ref ps,eM<|.ref p5,eM<|.ref p6,eM<|.int i,eM<|.int t.1,eM<|.int t.2.1,eM<|.int t.2.2,eM<|oV l.rests,v12,v13,v14,v15,v16] g K Q M M2 λ_ c g=>X c g:=by
 let⟨num,st,root,cost,age,rests,agrees⟩:=l;let⟨yr,yc,yu⟩:=y;let⟨T1,T2,T3⟩:=T;dsimp only at l1 l2 l3 l4 l5 agr k;subst l1 l2 l3 l4;have aD:wSs (wF P<|n+4) (tl 6<|Xw<|tl 3 Tn.body) [eM<|ZN bs ts,eM<|stV pg pc pd pr most,eM<|.int b,eM<|.tup [.int root,.int cost,upV yu,rsV yu],eM<|.ref ps,eM<|.ref p5,eM<|.ref p6,eM<|.int i,eM<|.int t.1,eM<|.int t.2.1,eM<|.int t.2.2,eM<|oV rests,eM<|.tup [pV (T1,T2),pV (T1,T3),.int root,.int cost,.int age,oV rests,oV agrees],v13,v14,v15,v16] g K Q M M2 λ_ c g=>X c g:=by
  have df:fq (Zb trV TR) (.int b)=eM (.tup [.int T1,.int T2,.int T3]):=by rw[ZE,hT];rfl
  have e4':atI ĕ (i:Int)=eM (.tup [.int b,.int t.2.1,.int t.1,.tup [pV (T1,T2),pV (T1,T3),.int root,.int cost,.int age,oV rests,oV agrees]]):=e4;have pl:Pl 3<|.tup [.int b,.int t.2.1,.int t.1,.tup [pV (T1,T2),pV (T1,T3),.int root,.int cost,.int age,oV rests,oV agrees]]:=EO (b,t.2.1,t.1,⟨(T1,T2),(T1,T3),root,cost,age,rests,agrees⟩);clear e4 agr;generalize oV rests=ro at *;generalize oV agrees=ao at *;generalize ZN bs ts=nv at *;dsimp only[tl,Xw,Tn];fail;refine Zz ed rfl df ?_;walk_at "py1";refine HK (v:=.tup [pV (T1,T2),pV (T1,T3),.int root,.int cost,.int age,ro,ao]) ?_ ?_
  .repeat first|exact fW|exact Cf|exact Db rfl|refine fX ?_ ?_|refine Lf ?_|apply Cd|rfl
  fail;refine Yz ?_;rw[gz l5];walk_at "p";refine Zk es e4' ?_;fail;refine M1 3 pl ?_;walk_at "p";refine Yn e6 (by rw[À];exact Ë h6<|by decide) ?_;have k:=k (eM<|.tup [pV (T1,T2),pV (T1,T3),.int root,.int cost,.int age,ro,ao]) (eM<|.int T1) (eM<|.int T2) (eM<|.int T3)<|eM<|.tup [pV (T1,T2),pV (T1,T3),.int root,.int cost,.int age,ro,ao];rw[Û]at k;exact k
 have e6':atI [pV (T1,T2),pV (T1,T3),.int root,.int cost,.int age,oV rests,oV agrees] 6=eM (oV agrees):=rfl;dsimp only[tl,Xw,Tn]at aD ⊢;fail;refine Zk es e4 ?_;unfold rdV L.v;fail;refine fR rfl ?_;fail;refine fR rfl ?_;clear e4;generalize oV rests=ro at *;cases agrees with
 |none =>fail;refine fR rfl ?_;exact aD
 |some s =>let⟨a1,a2⟩:=agr s rfl;fail;refine fQ rfl ?_;fail;refine WR (EG g t.1 yu) ?_;rw[a1];fail;refine fR rfl ?_;fail;refine KP a2 ?_;fail;refine fR rfl ?_;exact aD
end
def MZ{v:Val}(m:Nat):(Ñ m [v]).flatten=Ñ m v:=by
 induction m with
 |zero=>rfl
 |succ m ih=>rw[Ą,ķ,ih];rfl
def cut_one{m:Nat}{a:α}:cut (Ñ m a) eN (eM 1)=Ñ (min 1 m) a:=by unfold cut fE;simp
def FH{m:Nat}{a:Int}:(Ñ m<|(Ñ (min 1 m) a).map Val.int).flatten=(Ñ m a).map Val.int:=by
 cases m with
 |zero=>rfl
 |succ m=>rw[ź<|by lia];show(Ñ _ [Val.int a]).flatten=_;rw[MZ,Ş]
section
variable {pg pc pd pr ps:Ad}{bs gone cut:List Int}{ts:List Tie}
def Bc{b:Int}{TR:List (Int×Tie)}(no:fm bs ts)(eg:h pg=eM (.lst<|gone.map .int))(ec:h pc=eM (.lst<|cut.map .int))(ed:h pd=eM (.dct<|Zb trV TR))(hT:TR.lookup b=eM (B.life,B.count,B.version))(es:h ps=eM (.lst<|((upT ts gone cut b).map λr=>(b,r.2.1,r.1,Zg B r.1)).map rdV))(a0:B.label.up=eN->Z8 B=0)(a1:∀u,B.label.up=eM u->2<=Z8 B/\Z8 B<=most)(agr:∀p s,(Zg B p).agrees=eM s->Oo B.label.up p=eQ/\nnP s)(k:∀g,Ext h g->Q (.bl eP) g):wF P (n+5) "_law_is_sent" [ZN bs ts,stV pg pc pd pr most,.int b,B.label.v,.ref ps] h Q X:=by
 have l16:=no.sixteen;have ul:(upT ts gone cut b).length<=16:=Õ (ł _ _)<|Õ Wh l16;have age0:0<=Z8 B:=by
  cases e:B.label.up with
  |none=>rw[a0 e];exact ĵ _
  |some u=>have:=a1 u e;lia
 refine KC ?_;refine' K0 no λq g0 hq x0 e0=>?_;refine' ⟨by show((gh b 0 ts).map trV).length<lim;rw[À];exact Ë (Õ Wh l16) (by decide),?_⟩;refine Xr (λr=>XD ts gone cut r.1) trV (lsE e0) (λr hr K k1 k2=>?_)<|Zf λp5 g5 hp5 x5 e5=>?_
 .obtain⟨r0,r1⟩:=XR r hr;unfold trV at k1 ⊢
  exists NC r0 r1 (x0.get eg) (x0.get ec)
  refine' fT (λhc=>?_) k2;refine' k1 hc
 have e5:g5 p5=eM (.lst<|(upT ts gone cut b).map trV):=e5;have es5:=x5.get<|x0.get es;have ed5:=x5.get<|x0.get ed;have dR:((upT ts gone cut b).map trV).length=(upT ts gone cut b).length:=À _;have hl2:(((upT ts gone cut b).map λr=>(b,r.2.1,r.1,Zg B r.1)).map rdV).length=(upT ts gone cut b).length:=by rw[À,À]
 fail;rw[dR,hl2];refine fR (by simp) ?_;refine' Zf λp6 g6 hp6 x6 e6=>?_;have e56:=x6.get e5;fail;rw[dR];refine⟨⟨by lia,by lia⟩,?_⟩;refine Zo (λi en g=>∃v7 v8 v9 cS b7 v12 v13 v14 v15 v16,en=[eM<|ZN bs ts,eM<|stV pg pc pd pr most,eM<|.int b,eM B.label.v,eM<|.ref ps,eM<|.ref p5,eM<|.ref p6,v7,v8,v9,cS,b7,v12,v13,v14,v15,v16]/\Ext g5 g/\g p6=eM (.lst<|(Ñ i<|Z8 B).map .int)) ⟨_,_,_,_,_,_,_,_,_,_,rfl,x6,e6⟩ (λ_ _ _ _ _=>trivial) ?_ ?_
 .rintro i v en g hv ⟨v7,v8,v9,cS,b7,v12,v13,v14,v15,v16,rfl,x,e⟩ K hK;let⟨rfl,hi⟩:=XA hv;have hi':i<(upT ts gone cut b).length:=by lia
  have ht:(upT ts gone cut b)[i]?=eM (upT ts gone cut b)[i]:=É hi';generalize (upT ts gone cut b)[i]=t at ht;have a5:atI ((upT ts gone cut b).map trV) (i:Int)=eM (trV t):=Z2 (Đ i) (by rw[Ö,Ø,ht];rfl);have a4:atI (((upT ts gone cut b).map λr=>(b,r.2.1,r.1,Zg B r.1)).map rdV) (i:Int)=eM (rdV (b,t.2.1,t.1,Zg B t.1)):=Z2 (Đ i) (by rw[Ö,Ø,Ø,ht];rfl)
  exists Zk (x.get e5) a5
  unfold trV;have aD:∀(M:NQ) (R:Val),R=oV (Zg B t.1).rests->wSs (wF P<|n+4) (tl 3<|Xw<|tl 3 Tn.body) [eM<|ZN bs ts,eM<|stV pg pc pd pr most,eM<|.int b,eM B.label.v,eM<|.ref ps,eM<|.ref p5,eM<|.ref p6,eM<|.int i,eM<|.int t.1,eM<|.int t.2.1,eM<|.int t.2.2,eM R,v12,v13,v14,v15,v16] g K Q M K λ_ c g=>X c g:=by rintro M R rfl;refine QG (l:=Zg B t.1) (x.get ed5) hT (x.get es5) a4 e (by rw[ì];lia) rfl rfl rfl rfl age0 (agr t.1) λw1 w2 w3 w4 w5=>hK _ _ ⟨_,_,_,_,_,_,_,_,_,_,rfl,Xu x hp6,?_⟩;rw[eS,List.replicate_succ'];rfl
  dsimp only[tl,Xw,Tn]at aD;have hr:(Zg B t.1).rests=if Oo B.label.up t.1 then B.label.up.map (·.2)else eN:=rfl
  exists WR (EG g t.1 B.label.up)
  refine' fT (λhc=>?_) (λhc=>?_)
  .have h1:rsV B.label.up=oV (Zg B t.1).rests:=by
    rw[hr,hc,gw rfl];cases B.label.up<;>rfl
   clear hr;refine HK (v:=rsV B.label.up) (Cd (xs:=[.int B.label.root,.int B.label.cost,upV B.label.up,rsV B.label.up]) (k:=3) (Db rfl) Cf rfl) ?_;walk_at "py1";exact aD _ (rsV B.label.up) h1
  .have h2:Val.non=oV (Zg B t.1).rests:=by
    rw[hr,hc,gx<|by decide];rfl
   clear hr;exact aD _ .non h2
 rintro en g ⟨v7,v8,v9,cS,b7,v12,v13,v14,v15,v16,rfl,x,e⟩;rw[Wr,Ö]at e;have e5:=x.get e5;have xx:=(x0.trans x5).trans x;generalize (upT ts gone cut b).length=m at *;cases hu:B.label.up with
 |none =>
  have ev:B.label.v=.tup [.int B.label.root,.int B.label.cost,.non,.non]:=by show Val.tup [_,_,upV B.label.up,rsV B.label.up]=_;rw[hu];rfl
  rw[ev];rw[a0 hu]at e;walk_at "p";refine Zf λp7 g7 hp7 x7 e7=>?_;have e5:=x7.get e5;fail;rw[dR];refine Uh e7 ⟨by lia,by lia,?_⟩<|Zf λp8 g8 hp8 x8 e8=>?_
  .show 1*(m:Int).toNat<=lim;exact Õ (by lia:_<=16) (by decide)
  rw[Ö,MZ (v:=.int 0),<-Ş]at e8;refine WR (WM ((x7.trans x8).get e) e8<|all_map λ_ _=>Kj) ?_;exact k _<|xx.trans<|x7.trans x8
 |some u =>
  have ev:B.label.v=.tup [.int B.label.root,.int B.label.cost,.int u.1,pV u.2]:=by show Val.tup [_,_,upV B.label.up,rsV B.label.up]=_;rw[hu];rfl
  let⟨a2,a3⟩:=a1 u hu;rw[ev];walk_at "p";refine Zf λp7 g7 hp7 x7 e7=>?_;have e5:=x7.get e5;fail;rw[dR];rw[Y4,cut_one]at e7;refine Uh e7 ⟨by lia,by lia,?_⟩<|Zf λp8 g8 hp8 x8 e8=>?_
  .rw[À,ì,Ö];exact Õ (Nat.mul_le_mul (Nat.min_le_left 1 m) ul) (by decide)
  have x78:=x7.trans x8;have e9:=x78.get e;rw[Ö,FH]at e8;refine WR (WM e9 e8<|all_map λ_ _=>Kj) ?_;walk_at "p";refine⟨by rw[À,ì];exact Ë ul (by decide),XX (λ_=>.bl eP) (lsE e9) (λa ha K k1=>?_)<|Zf λp9 g9 hp9 x9 f9=>?_⟩
  .have:=List.eq_of_mem_replicate ha;subst this;walk_at "p";refine fQ (gz a2) ?_;fail;rw[gz a3];exact k1
  rw[Ş,<-Ş (f:=Val.bl)]at f9
  exists Dg f9 (XN _)
  rw[show(Ñ m eP).all id=eP by simp];exact k _<|xx.trans<|x78.trans x9
end
abbrev Can:Yc->List Dd->Prop
 |_,[]=>True
 |C,d::r=>(step C d).isSome=eP/\∀D,step C d=eM D->Can D r
def Can.take:∀{l:List Dd}{C:Yc}(k:Nat),Can C l->Can C (l.take k)
 |[],_,_,_=>by rw[List.take_nil];trivial
 |_::_,_,0,_=>trivial
 |d::l,C,k+1,h=>⟨h.1,λD s=>(h.2 D s).take k⟩
def Ow:∀{m:Nat}{C:Yc},m<=C.road.length->Can C (Ñ m<|.come 0)
 |0,_,_=>trivial
 |m+1,C,h=>by
  refine⟨(U8 (ĵ _)<|by lia).2,λD s=>Ow ?_⟩
  replace s:(if(0:Int)<0 then eN else(C.road[(0:Int).toNat]?).map _)=eM D:=s
  rw[gx<|by decide]at s;let⟨r,_,e⟩:=Ä.mp s;rw[<-e];show m<=(C.road.eraseIdx 0).length;rw[Ł<|by lia];lia
def Ma{gone cut:List Int}{m:Nat}:∀{l:List Int}{C:Yc}{N:Nat},C.gd N->Wk C gone cut->(∀b∈l,b∈C.keys)->m<=C.road.length+(l.map λb=>cnt C.ts gone cut b C.ts.length).sum->Can C (l.map Dd.tick++Ñ m (.come 0))
 |[],C,N,_,_,_,h=>Ow h
 |b::l,C,N,g,w,hk,h=>by
  refine⟨AG<|hk b<|by simp,λD s=>?_⟩;let⟨w',B,hB,hl⟩:=w.tick s;let⟨g',_,e2,_⟩:=UL g s;let⟨D',s',bu⟩:=K5 (keys_look.mp<|keys_mem.mp<|hk b<|by simp);rw[s]at s';cases s';refine Ma g' w' (λc hc=>?_) ?_
  .rw[keys_mem,keys_look,bu,<-keys_look,<-keys_mem];exact hk c (by simp[hc])
  .have:=w.cnt g hB;simp only[Î,ŵ]at h;rw[e2];lia
def AF{f:Int->Nat}{gone:List Int}(hf:∀b∈gone,f b=0):∀bs:List Int,((ups bs gone).map f).sum=(bs.map f).sum
 |[]=>rfl
 |b::bs=>by
  have ih:=AF hf bs;unfold ups at ih ⊢;by_cases h:b∈gone
  .have:=hf b h;simp[h,this,ih]
  .simp[h,ih]
def UO{bs gone cut:List Int}{ts:List Tie}(no:fm bs ts):∀m,m<=ts.length->(bs.map λb=>cnt ts gone cut b m).sum=2*((List.range m).filter λp:Nat=>XD ts gone cut p).length
 |0,_=>by rw[show(λb=>cnt ts gone cut b 0)=λ_:Int=>0 from rfl];exact JI bs
 |m+1,hm=>by
  have ih:=UO no (gone:=gone) (cut:=cut) m (by lia);have ht:ts[m]?.getD (0,0,0)∈ts:=by rw[É (by lia:m<ts.length)];exact Ğ _
  let⟨h1,h2,h3,_⟩:=no.tie _ ht;have nd:bs.Nodup:=no.up.imp λh=>by lia
  have e0:∀b,JA ts gone cut b m=(ZH (ts[m]?.getD (0,0,0)) b&&XD ts gone cut m):=λb=>rfl;have e:(λb=>cnt ts gone cut b<|m+1)=λb=>cnt ts gone cut b m+if JA ts gone cut b m then 1 else 0:=by funext b;exact RC
  rw[e,M4,ih,List.range_succ,ae,ã,đ,aW];cases hu:XD ts gone cut m with
  |false =>
   have e1:(λb=>if JA ts gone cut b m then 1 else 0)=λ_:Int=>0:=by funext b;rw[e0,hu,bh];rfl
   rw[e1,JI];rfl
  |true =>
   have e1:(λb=>if JA ts gone cut b m then 1 else 0)=λb=>(if b=(ts[m]?.getD (0,0,0)).1 then 1 else 0)+(if b=(ts[m]?.getD (0,0,0)).2.1 then 1 else 0):=by
    funext b;rw[e0,hu,ω];unfold ZH;by_cases e1:b=(ts[m]?.getD (0,0,0)).1
    .have:¬ b=(ts[m]?.getD (0,0,0)).2.1:=λz=>by lia
     simp[e1,show ¬ (ts[m]?.getD (0,0,0)).1=(ts[m]?.getD (0,0,0)).2.1 by lia]
    .simp[e1]
   rw[e1,M4,No nd h1,No nd h2,gw rfl];show _=2*(_+1);lia
def Dh{gone cut:List Int}{b:Int}{m:Nat}(h:b∈gone):cnt ts gone cut b m=0:=by
 unfold cnt;rw[Ϗ,List.filter_eq_nil_iff];intro p _ hp;unfold JA at hp;simp only[bAq,ŏ,decide_eq_false_iff_not]at hp;rcases touch_iff.mp hp.1 with e|e
 .exact hp.2.2.1<|e▸h
 .exact hp.2.2.2<|e▸h
abbrev thV(x:Bool×Int):Val:=.tup [.str (if x.1 then "bridge" else "tie"),.int x.2]
abbrev thD(x:Bool×Int):D:=.tup [.str (if x.1 then "bridge" else "tie"),.int x.2]
def Ch{h:Hs}:∀l:List<|Bool×Int,(l.map thV).mapM (dat h 11)=eM (l.map thD)
 |[]=>rfl
 |x::l=>by rw[Î,μ,Ch l];rfl
def HU:∀x y:Bool×Int,D.eqv (thD x) (thD y)=gC (x=y)
 |(a,i),(b,j)=>by
  show((if a then "bridge" else "tie")==(if b then "bridge" else "tie")&&(i==j&&eP))=_;by_cases e:i=j
  .subst e;cases a<;>cases b<;>simp
  .have:(i==j)=eQ:=⇑e
   rw[this,ϥ,bh];simp[e]
def Qv{x:Bool×Int}{l:List (Bool×Int)}:inL h (thV x) (l.map thV)=eM (gC (x∈l)):=by
 unfold inL;rw[show deep - 1=11 from rfl,Ch];show eM ((l.map thD).any λe=>D.eqv e<|thD x)=_;congr 1;rw[List.any_map,Ϟ,ů,gA];constructor
 .rintro⟨y,hy,e⟩;have:D.eqv (thD y) (thD x)=eP:=e;rw[HU,gA]at this;exact this▸hy
 .exact λhx=>⟨x,hx,(HU x x).trans<|gz rfl⟩
def Iu{x:Bool×Int}{l:List (Bool×Int)}(e:h a=eM (.lst<|l.map thV))(q:KB (!gC (x∈l))):go (fj h .notin (thV x)<|.ref a) KB:=eW (by show(inV h (thV x)<|.ref a).map _=_;unfold inV;simp only[e];rw[Qv];rfl) q
def EN{xs:List Val}(ea:h a=eM (.lst xs))(eb:h b=eM (.lst []))(e:xs.all (flat 11)=eP):eqV h (.ref a) (.ref b)=eM xs.isEmpty:=by
 let⟨ds,hds⟩:=W3 (f:=dat h 11) (xs:=xs) λx hx=>Kp<|û.mp e x hx;have h1:dat h deep (.ref a)=eM (.lst ds):=by show(ff<|h a).bind (λxs=>(xs.mapM<|dat h 11).map D.lst)=_;rw[ea,Js,ú,hds];rfl
 have h2:dat h deep (.ref b)=eM (.lst []):=by show(ff<|h b).bind (λxs=>(xs.mapM<|dat h 11).map D.lst)=_;rw[eb,Js];rfl
 unfold eqV;rw[h1,h2];cases xs with
 |nil=>cases hds;rfl
 |cons x xs =>
  rw[μ]at hds;cases e1:dat h 11 x with
  |none=>rw[e1]at hds;cases hds
  |some d =>
   cases e2:xs.mapM (dat h 11)with
   |none=>rw[e1,e2]at hds;cases hds
   |some r=>rw[e1,e2]at hds;cases hds;rfl
def Ew{f:α->Val}{l:List α}{m:Int}(h:0<l.length):∃x∈l,atI (l.map f) (m % l.length)=eM (f x):=by have r0:0<=m % (l.length:Int):=Ě _ (by lia);let⟨x,h1,h2⟩:=O9 r0 (İ m<|by lia);exact⟨x,h2,Z2 r0<|by rw[Ø,h1];rfl⟩
section
variable {pg pc:Ad}{gone cut:List Int}{C:Yc}{N:Nat}
def UI{code:Int}(g:C.gd N)(w:Wk C gone cut)(gs:∀b∈gone,b∈C.bs)(lg:gone.length<=10)(lc:cut.length<=16)(c0:0<=code)(eg:h pg=eM (.lst<|gone.map .int))(ec:h pc=eM (.lst<|cut.map .int))(k:∀d f,(step C d).isSome=eP->Ext h f->Q (Dd.v d) f):wF P (n+1) "_law_one_deed" [ZN C.bs C.ts,.ref pg,.ref pc,.int C.road.length,.int code] h Q X:=by
 have t16:=g.no.sixteen;have b10:=g.no.ten;have b1:=g.no.one;have ke:=w.keys_eq g;unfold ZN;refine JM ?_;refine' ⟨Ë (by rw[À];exact b10) (by decide),Xr (λb=>!gC (b∈gone)) .int trivial (λb _ K k1 k2=>?_)<|Zf λp5 g5 hp5 x5 e5=>?_⟩
 .exists Og eg
  refine' fT (λhc=>?_) k2;refine' k1 hc
 have e5:g5 p5=eM (.lst<|(ups C.bs gone).map .int):=e5;have ec5:=x5.get ec;have eg5:=x5.get eg;fail;have rest:wSs (wF P n) (tl 3 Te.body) [eM<|.tup [.tup<|C.bs.map .int,.tup<|C.ts.map trV],eM<|.ref pg,eM<|.ref pc,eM<|.int C.road.length,eM<|.int code,eM<|.ref p5,eM<|.int<|code / 10,eN,eN,eN] g5 (λ_ g=>Q .non g) Q (λ_ _=>False) (λ_ _=>False) λ_ c g=>X c g:=by
  dsimp only[tl,Te];refine' ⟨Ë (by rw[À];exact b10) (by decide),XX (λb=>thV (eP,b)) trivial (λb _ K k1=>?_)<|Zf λq1 h1 hq1 y1 f1=>?_⟩
  .walk_at "p";exact k1
  fail;rw[À,Hw];refine⟨⟨by lia,by lia⟩,Ë (by rw[À,ĥ];exact t16) (by decide),XX (λp:Nat=>thV (eQ,p)) trivial (λb _ K k1=>?_)<|Zf λq2 h2 hq2 y2 f2=>?_⟩
  .walk_at "p";exact k1
  have f1:=y2.get f1;refine' MC f1 f2 (by rw[ã,À,À,ĥ];exact Õ (by lia:_<=26)<|by decide) (Zf λq3 h3 hq3 y3 f3=>?_);have y13:=(y1.trans y2).trans y3;have eth:((C.bs.map λb=>thV (eP,b))++((List.range C.ts.length).map λp:Nat=>thV (eQ,p)))=((C.bs.map λb=>(eP,b))++((List.range C.ts.length).map λp:Nat=>(eQ,(p:Int)))).map thV:=by rw[Û,í,í];rfl
  rw[eth]at f3;clear eth;have hmem:∀x∈(C.bs.map λb=>(eP,b))++((List.range C.ts.length).map λp:Nat=>(eQ,(p:Int))),(x.1=eP->x.2∈C.bs)/\(x.1=eQ->0<=x.2/\x.2<C.ts.length):=λx hx=>by
   rcases â.mp hx with hx|hx
   .obtain⟨b,hb,rfl⟩:=Ô.mp hx;exact⟨λ_=>hb,(λz=>nomatch z)⟩
   .obtain⟨p,hp,rfl⟩:=Ô.mp hx;have:=ŗ.mp hp;exact⟨(λz=>nomatch z),λ_=>⟨Đ _,Int.ofNat_lt.mpr this⟩⟩
  have hlen:((C.bs.map λb=>(eP,b))++((List.range C.ts.length).map λp:Nat=>(eQ,(p:Int)))).length=C.bs.length+C.ts.length:=by rw[ã,À,À,ĥ]
  generalize (C.bs.map λb=>(eP,b))++((List.range C.ts.length).map λp:Nat=>(eQ,(p:Int)))=things at f3 hmem hlen;have eg3:=y13.get eg5;have ec3:=y13.get ec5;refine' ⟨Ë (by rw[À];exact lg) (by decide),XX (λb=>thV (eP,b)) (lsE eg3) (λb _ K k1=>?_)<|Zf λq4 h4 hq4 y4 f4=>?_⟩
  .walk_at "p";exact k1
  have ec4:=y4.get ec3;refine' ⟨Ë (by rw[À];exact lc) (by decide),XX (λb=>thV (eQ,b)) (lsE ec4) (λb _ K k1=>?_)<|Zf λq5 h5 hq5 y5 f5=>?_⟩
  .walk_at "p";exact k1
  have f4:=y5.get f4;refine' MC f4 f5 (by rw[ã,À,À];exact Õ (by lia:_<=26)<|by decide) (Zf λq6 h6 hq6 y6 f6=>?_);have y46:=(y4.trans y5).trans y6;rw[show((gone.map λb=>thV (eP,b))++(cut.map λb=>thV (eQ,b)))=((gone.map λb=>(eP,b))++(cut.map λb=>(eQ,b))).map thV by rw[Û,í,í];rfl]at f6;have hfal:∀x,x∈(gone.map λb=>(eP,b))++(cut.map λb=>(eQ,b))↔(x.1=eP/\x.2∈gone)\/(x.1=eQ/\x.2∈cut):=λx=>by let⟨a,i⟩:=x;rw[â,Ô,Ô];cases a<;>simp
  generalize (gone.map λb=>(eP,b))++(cut.map λb=>(eQ,b))=fal at f6 hfal;have f3:=y46.get f3;have f50:=(y13.trans y46).get e5;have xx:Ext _ h6:=x5.trans<|y13.trans y46;let⟨x,hx,ex⟩:=Ew (f:=thV) (l:=things) (m:=code / 10) (by lia);have Ϡ:(things.map thV).length=things.length:=À _;fail;rw[Ϡ];have:(0:Int)<things.length:=by lia
  exists Zk f3 ex
  fail;have stF:x∉fal->∃d,Dd.v d=.tup (.str "fall" :: [.str (if x.1 then "bridge" else "tie"),.int x.2])/\(step C d).isSome=eP:=λhn=>by
   rw[hfal]at hn;let⟨m1,m2⟩:=hmem x hx;let⟨a,i⟩:=x;cases a with
   |true=>exact⟨.fallB i,rfl,DW<|by rw[ke];exact ó.mpr ⟨m1 rfl,by simpa using λz=>hn<|.inl ⟨rfl,z⟩⟩⟩
   |false=>exact⟨.fallT i,rfl,Dm (m2 rfl).1 (m2 rfl).2 λz=>hn<|.inr ⟨rfl,by have:=w.fa i;rw[cut_mem.mp z]at this;simpa using this⟩⟩
  have rest2:wSs (wF P n) (tl 7 Te.body) [eM<|.tup [.tup<|C.bs.map .int,.tup<|C.ts.map trV],eM<|.ref pg,eM<|.ref pc,eM<|.int C.road.length,eM<|.int code,eM<|.ref p5,eM<|.int<|code / 10,eM<|.ref q3,eM<|.ref q6,eM<|thV x] h6 (λ_ g=>Q .non g) Q (λ_ _=>False) (λ_ _=>False) λ_ c g=>X c g:=by
   dsimp only[tl,Te];have last:ups C.bs gone≠[]->∀f,Ext h6 f->wSs (wF P n) (tl 8 Te.body) [eM<|.tup [.tup<|C.bs.map .int,.tup<|C.ts.map trV],eM<|.ref pg,eM<|.ref pc,eM<|.int C.road.length,eM<|.int code,eM<|.ref p5,eM<|.int<|code / 10,eM<|.ref q3,eM<|.ref q6,eM<|thV x] f (λ_ g=>Q .non g) Q (λ_ _=>False) (λ_ _=>False) λ_ c g=>X c g:=λű f xf=>by
    dsimp only[tl,Te];have hpos:=ϳ.mpr ű;let⟨b,hb,eb⟩:=Ew (f:=Val.int) (l:=ups C.bs gone) (m:=code / 10) hpos;have e6:=xf.get f50;have hl:((ups C.bs gone).map Val.int).length=(ups C.bs gone).length:=À _;fail;rw[hl];have:(0:Int)<(ups C.bs gone).length:=by lia
    exists Zk e6 eb
    refine' k (.tick b) _ (AG<|by rw[ke];exact hb) (xx.trans xf)
   have Ϻ:fal≠[]->∀f,Ext h6 f->wSs (wF P n) #[.ret<|.bin .add (.tup #[.cst<|.str "back"])<|.idx (.var 8)<|.bin .mod (.var 6)<|.bi .len #[.var 8]] [eM<|.tup [.tup<|C.bs.map .int,.tup<|C.ts.map trV],eM<|.ref pg,eM<|.ref pc,eM<|.int C.road.length,eM<|.int code,eM<|.ref p5,eM<|.int<|code / 10,eM<|.ref q3,eM<|.ref q6,eM<|thV x] f (λ_ g=>Q .non g) Q (λ_ _=>False) (λ_ _=>False) λ_ c g=>X c g:=λű f xf=>by
    have hpos:=ϳ.mpr ű;let⟨z,hz,ez⟩:=Ew (f:=thV) (l:=fal) (m:=code / 10) hpos;have e6:=xf.get f6;have hl:(fal.map thV).length=fal.length:=À _;fail;rw[hl];have:(0:Int)<fal.length:=by lia
    exists Zk e6 ez
    unfold thV;fail;have stB:∃d,Dd.v d=.tup ([.str "back"]++[.str (if z.1 then "bridge" else "tie"),.int z.2])/\(step C d).isSome=eP:=by
     rw[hfal]at hz;let⟨a,i⟩:=z;rcases hz with⟨rfl,hz⟩|⟨rfl,hz⟩
     .refine⟨.backB i,rfl,Ej g<|downs_mem.mpr ⟨gs i hz,?_⟩⟩;have:=w.st i;unfold Yc.std at this;rw[this];simp[hz]
     .refine⟨.backT i,rfl,Cy<|cut_mem.mpr ?_⟩;rw[w.fa];simpa using hz
    let⟨d,ed,sd⟩:=stB;rw[<-ed];exact k d _ sd<|xx.trans xf
   refine' Zf λq7 h7 hq7 y7 f7=>?_;refine K1 (EN (y7.get f6) f7<|all_map λ_ _=>rfl) ?_;fail;have hfe:(fal.map thV).isEmpty=fal.isEmpty:=by cases fal<;>rfl
   rw[hfe];have nn:ups C.bs gone=[]->fal≠[]:=λz hz=>by
    let⟨b,hb⟩:=List.exists_mem_of_length_pos (by lia:0<C.bs.length);have:b∈gone:=by
     by_cases hg:b∈gone
     .exact hg
     .have:b∈ups C.bs gone:=ó.mpr ⟨hb,⇑hg⟩;rw[z]at this;exact gB this Í
    have:=(hfal (eP,b)).mpr<|.inl ⟨rfl,this⟩;rw[hz]at this;exact gB this Í
   refine fT (λc1=>?_) λc1=>?_
   .have ű:fal≠[]:=by rintro rfl;cases c1
    refine' fS (λc2=>?_) (λc2=>?_)
    .refine fQ rfl ?_;exact Ϻ ű _ y7
    .refine' Zf λq8 h8 hq8 y8 f8=>?_;refine WR (EN ((y7.trans y8).get f50) f8<|all_map λ_ _=>Kj) ?_;fail;have hue:((ups C.bs gone).map Val.int).isEmpty=(ups C.bs gone).isEmpty:=by cases ups C.bs gone<;>rfl
     rw[hue];refine fT (λc3=>?_) λc3=>?_
     .exact Ϻ ű _<|y7.trans y8
     .exact last (by rintro z;rw[z]at c3;cases c3) _<|y7.trans y8
   .refine fR rfl ?_;refine last (λz=>nn z ?_) _ y7;cases fal with
    |nil=>rfl
    |cons a l=>cases c1
  refine fS (λc1=>?_) λc1=>?_
  .exists Iu f6
   refine' Gb (λc2=>?_) (λc2=>?_)
   .obtain⟨d,ed,sd⟩:=stF c2;unfold thV;fail;have ed':Dd.v d=.tup ([.str "fall"]++[.str (if x.1 then "bridge" else "tie"),.int x.2]):=ed;rw[<-ed'];exact k d _ sd xx
   .exact rest2
  .refine fR rfl ?_;exact rest2
 have road:0<C.road.length->wSs (wF P n) #[.ret<|.tup #[.idx (.lst #[.cst<|.str "come",.cst<|.str "lost"])<|.bin .fdiv (.bin .mod (.var 4)<|.cst<|.int 10)<|.cst<|.int 5,.bin .mod (.var 6)<|.var 3]] [eM<|.tup [.tup<|C.bs.map .int,.tup<|C.ts.map trV],eM<|.ref pg,eM<|.ref pc,eM<|.int C.road.length,eM<|.int code,eM<|.ref p5,eM<|.int<|code / 10,eN,eN,eN] g5 (λ_ g=>Q .non g) Q (λ_ _=>False) (λ_ _=>False) λ_ c g=>X c g:=λhp=>by
  have hp':(0:Int)<C.road.length:=by lia
  have r0:0<=code / 10 % (C.road.length:Int):=Ě _ (by lia);have r1:code / 10 % (C.road.length:Int)<C.road.length:=İ _ hp';let⟨s1,s2⟩:=U8 r0 r1;refine' Zf λq g6 hq x6 e6=>?_;fail;by_cases c5:code % 10<5
  .rw[show code % 10 / 5=0 by lia];refine' k (.come _) _ s2 (x5.trans x6)
  .rw[show code % 10 / 5=1 by lia];refine' k (.lost _) _ s1 (x5.trans x6)
 refine fS (λc1=>?_) λc1=>?_
 .refine fQ rfl ?_;exact road (by lia)
 .refine' eW (show fj g5 .isin (.int<|code % 10) (.tup<|[2,3,4,5].map .int)=eM (gC (code % 10∈[2,3,4,5])) from (by show inV g5 (.int<|code % 10) (.tup<|[2,3,4,5].map Val.int)=_;unfold inV;exact Nb)) ?_;refine' fS (λc2=>?_) (λc2=>?_)
  .refine' fS (λc3=>?_) (λc3=>?_)
   .exact road (by lia)
   .exact rest
  .refine fR rfl ?_;exact rest
end
def Nz{k:Int}(h:0<=k):cut xs eN (eM k)=xs.take k.toNat:=by unfold cut fE;dsimp only;rw[gw h];simp[List.take_eq_take_iff]
def DA{k:Int}(h:0<=k)(l:k<=xs.length):cut xs (eM k) eN=xs.drop k.toNat:=by unfold cut fE;dsimp only;rw[gw h,ź<|by lia];exact ϙ (by rw[Ľ];exact Ó _)
section
variable {pg pc pz:Ad}{gone cut:List Int}{C:Yc}{N:Nat}
def Nh{code:Int}(g:C.gd N)(w:Wk C gone cut)(gs:∀b∈gone,b∈C.bs)(lg:gone.length<=10)(lc:cut.length<=16)(c0:0<=code)(hN:N<=200)(eg:h pg=eM (.lst<|gone.map .int))(ec:h pc=eM (.lst<|cut.map .int))(k:∀ds p f,h p=eN->Ext h f->f p=eM (.lst<|ds.map Dd.v)->Can C ds->Q (.ref p) f):wF P (n+2) "_law_some_deeds" [ZN C.bs C.ts,.ref pg,.ref pc,.int C.road.length,.int code] h Q X:=by
 have t16:=g.no.sixteen;have b10:=g.no.ten;have ke:=w.keys_eq g;have rl:=g.len;refine WF ?_;refine' fS (λc8=>?_) (λc8=>?_)
 .refine' UI g w gs lg lc c0 eg ec λd f sd xf=>?_;refine' Zf λp f2 hp x2 e2=>k [d] p f2 (Ym xf hp) (xf.trans x2) e2 ⟨sd,λ_ _=>trivial⟩
 .unfold ZN;fail;rw[À,Hw];refine⟨⟨by lia,by lia⟩,Ë (by rw[À,ĥ];exact t16) (by decide),Xr (λp:Nat=>XD C.ts gone cut p) (λp:Nat=>.int p) trivial (λi hi K k1 k2=>?_)<|Zf λp5 g5 hp5 x5 e5=>?_⟩
  .exists NC (bs:=C.bs) (Đ i) (Int.ofNat_lt.mpr<|ŗ.mp hi) eg ec
   refine' fT (λhc=>?_) k2;refine' k1 hc
  have eg5:=x5.get eg;refine' ⟨Ë (by rw[À];exact b10) (by decide),Xr (λb=>!gC (b∈gone)) (λb=>Dd.v<|.tick b) trivial (λb _ K k1 k2=>?_)<|Zf λp6 g6 hp6 x6 e6=>?_⟩
  .exists Og eg5
   refine' fT (λhc=>?_) k2;refine' k1 hc
  have e5:=x6.get e5;have wl:((List.range C.ts.length).filter λp:Nat=>XD C.ts gone cut p).length<=16:=Õ (ł _ _) (by rw[ĥ];exact t16);have e6:g6 p6=eM (.lst<|(ups C.bs gone).map λb=>Dd.v<|.tick b):=e6;have ul:(ups C.bs gone).length<=10:=Õ (ł _ _) b10;have sc:((ups C.bs gone).map λb=>cnt C.ts gone cut b C.ts.length).sum=2*((List.range C.ts.length).filter λp:Nat=>XD C.ts gone cut p).length:=by rw[AF λb hb=>Dh hb];exact UO g.no _<|Ó _
  refine' Zf λp7 g7 hp7 x7 e7=>?_;have e5:=x7.get e5;fail;rw[À];generalize ((List.range C.ts.length).filter λp:Nat=>XD C.ts gone cut p).length=W at *;refine' Uh e7 ⟨by lia,by lia,?_⟩ (Zf λp8 g8 hp8 x8 e8=>?_)
  .show 1*_<=lim;exact Õ (by lia:_<=4000) (by decide)
  have em:((C.road.length:Int)+2*(W:Int)).toNat=C.road.length+2*W:=by lia
  rw[em,MZ]at e8;refine' MC ((x7.trans x8).get e6) e8 (by rw[ã,À,ì];exact Õ (by lia:_<=5000)<|by decide) (Zf λp9 g9 hp9 x9 e9=>?_);refine k ((ups C.bs gone).map Dd.tick++Ñ (C.road.length+2*W) (.come 0)) p9 g9 (Ym ((x5.trans x6).trans<|x7.trans x8) hp9) (((x5.trans x6).trans<|x7.trans x8).trans x9) ?_ (Ma g w (λb hb=>by rw[ke];exact hb)<|by lia);rw[e9,Û,í,Ş];rfl
def Cb(e:h pz=eM (.lst<|ns.map .int))(l:ns.length<=63)(k:∀(cs:List Int) p f,h p=eN->Ext h f->f p=eM (.lst<|cs.map .int)->(∀c∈cs,0<=c)->Q (.ref p) f):wF P (n+1) "_law_codes" [.ref pz] h Q X:=by
 refine NM ?_;refine' Zf λp1 g1 cp x1 e1=>?_;have e':=x1.get e;refine' Zo (λi en g=>Sm2 λv2 v3=>∃cs:List Int,en=[eM<|.ref pz,eM<|.ref p1,v2,v3]/\Ext h g/\g p1=eM (.lst<|cs.map .int)/\cs.length<=20*i/\∀c∈cs,0<=c) ⟨_,_,[],rfl,x1,e1,Ó _,(λ_ m=>nomatch m)⟩ (λ_ _ g _ ⟨_,_,_,_,x,_⟩=>lsE<|x.get e) ?_ ?_
 .rintro i v en g hv ⟨v2,v3,cs,rfl,x,ec,hl,h0⟩ K hK;let⟨c,hc,rfl⟩:=Yy hv;have hi:=(Ì.mp hc).1;have lm:∀{cs:List Int},cs.length<=20*(i+1)->(cs.map Val.int).length<lim:=λz=>by rw[À];exact Ë (by lia:_<=1300) (by decide)
  have sn:∀{cs:List Int}{a:Int},(∀c∈cs,0<=c)->0<=a->∀c∈cs++[a],0<=c:=λz z2 c hc=>(â.mp hc).elim (z c) λm=>by rw[á.mp m];exact z2
  have lm1:=lm (cs:=cs) (by lia);fail;have r0:0<=c % 1000000000000000000000000000000000000000000000000000000000000:=Ě _ (by decide);have r1:c % 1000000000000000000000000000000000000000000000000000000000000 / 1000<1000 ^ 19:=by lia
  generalize c % 1000000000000000000000000000000000000000000000000000000000000=R at r0 r1;refine Bh (λm en g=>Sm1 λr=>∃cs:List Int,en=[eM<|.ref pz,eM<|.ref p1,eM<|.int c,eM<|.int r]/\Ext h g/\g p1=eM (.lst<|cs.map .int)/\0<=r/\r<1000 ^ m/\cs.length+m<=20*(i+1)/\∀c∈cs,0<=c) (m:=19) ⟨R / 1000,cs++[R % 1000],rfl,Xu x cp,by rw[Û];exact eS,by lia,r1,by rw[ã];show _+1+19<=_;lia,sn h0<|by lia⟩ ?_;rintro m en g ⟨r,cs,rfl,x,ec,r0,r1,hl,h0⟩ K2 hK2;have lm1:=lm (cs:=cs) (by lia);refine' fS (λhr=>?_) (λhr=>?_)
  .fail;cases m with
   |zero=>rw[Int.pow_zero]at r1;lia
   |succ m =>refine hK2 m _ _ (ē m) ⟨r / 1000,cs++[r % 1000],rfl,Xu x cp,by rw[Û];exact eS,by lia,?_,by rw[ã];show _+1+_<=_;lia,sn h0<|by lia⟩;rw[Int.pow_succ]at r1;exact Int.ediv_lt_of_lt_mul (by decide) r1
  .exact hK _ _ ⟨_,_,cs,rfl,x,ec,by lia,h0⟩
 rintro en g ⟨v2,v3,cs,rfl,x,ec,hl,h0⟩;refine' Zf λp f hp xf ef=>?_;rw[Y4,Nz<|by decide]at ef;exact k _ p f (Ym x hp) (x.trans xf) ef λc hc=>h0 c<|cX hc
end
abbrev MS(C:Yc):Prop:=∀q∈C.br,q.2.most=C.most
def Mw{on:Bool}{p f m:Int}(B:Br)(h:B.most=m):(tieF on p f c B).most=m:=by
 unfold tieF upB JZ;split
 .split<;>exact h
 .exact h
def WI{p m:Int}(h:∀q∈C.br,q.2.most=m):∀q∈(C.set1 p).br,q.2.most=m:=Wl (R:=λB=>B.most=m) (Wl (R:=λB=>B.most=m) h λB=>Mw B) λB=>Mw B
def WO{m:Int}:∀{l:List Tie}{C:Yc},(∀q∈C.br,q.2.most=m)->∀q∈(C.sets l).br,q.2.most=m
 |[],_,h=>h
 |r::l,C,h=>WO (l:=l) (C:=C.set1 r.1)<|WI h
def Hk{D:Yc}{d:Dd}(h:MS C)(s:step C d=eM D):MS D:=by
 unfold MS at h ⊢;cases d with
 |tick b =>let⟨B,hB,rfl⟩:=Ä.mp s;exact Wl (R:=λB=>B.most=C.most) h λB hb=>told_most.trans hb
 |come p =>
  dsimp only[step]at s;split at s
  .cases s
  .obtain⟨r,hr,rfl⟩:=Ä.mp s;exact Wl (F:=(Zy · r.2.2.1 r.2.2.2)) (R:=λB=>B.most=C.most) h λB hb=>by unfold Zy;split<;>(try split)<;>exact hb
 |lost p =>
  dsimp only[step]at s;split at s
  .cases s
  .obtain⟨r,hr,rfl⟩:=Ä.mp s;exact h
 |fallB b =>let⟨_,rfl⟩:=Zt s;rw[(Yl _ _).2.2];exact WO λq hq=>h q<|ZO hq
 |fallT p =>let⟨_,rfl⟩:=Zt s;exact WI (C:={C with fallen:=Za C.fallen p eP}) h
 |backB b =>
  dsimp only[step]at s;split at s
  .cases s
  .obtain⟨l,hl,rfl⟩:=Ä.mp s;rw[(Yl _ _).2.2];refine WO λq hq=>?_;rcases â.mp hq with hq|hq
   .exact h q hq
   .rw[á.mp hq];rfl
 |backT p =>let⟨_,rfl⟩:=Zt s;exact WI (C:={C with fallen:=Ze C.fallen p}) h
def FL{bs:List Int}:MS<|XE bs ts most:=λq hq=>by let⟨b,_,rfl⟩:=Ô.mp hq;rfl
def Dc{xs ys:List Val}{K:Val×Hs->Prop}(e1:h a=eM (.lst xs))(e2:h b=eM (.lst ys))(m:xs.length+ys.length<=lim)(q:K (.non,upd h a<|.lst<|xs++ys)):go (bmV h .extend (.ref a) [.ref b]) K:=eW (by
  show(ff<|h a).bind _=_
  rw[lsE e1]
  show(ff<|h b).bind _=_
  rw[lsE e2]
  exact gw m) q
def D3(b:Int)(l:Lab):flat 11 (.tup [.int b,l.v])=eP:=by let⟨r,c,u⟩:=l;cases u<;>rfl
def Ox(r:Int×Int×Int×L):flat 11 (rdV r)=eP:=by let⟨a,b,c,⟨n,s,r,d,e,x,y⟩⟩:=r;cases x<;>cases y<;>rfl
structure S28(y pg pc pd pr pl:Ad)(bs:List Int)(ts:List Tie)(most:Int)(N:Nat)(g:Hs)(Z:Yd)(gone cut:List Int)(TR:List<|Int×Tie)(LB:List<|Int×Lab)(Ž:Int->Tie):Prop where
 ya:fe g Z
 yy:Z.y=y
 hb:Z.bs=bs
 ht:Z.ts=ts
 hm:Z.most=most
 gd:Z.cc.gd N
 gs:GS Z.cc
 ms:MS Z.cc
 w:Wk Z.cc gone cut
 lw:Lw Z.cc Ž LB
 gn:gone.Nodup
 cn:cut.Nodup
 gb:∀b∈gone,b∈Z.cc.bs
 tk:TR.map (·.1)=bs
 tr:∀b∈Z.cc.bs,TR.lookup b=eM (Ž b)
 eg:g pg=eM (.lst<|gone.map .int)
 ec:g pc=eM (.lst<|cut.map .int)
 ed:g pd=eM (.dct<|Zb trV TR)
 er:g pr=eM (.lst<|Z.road.map rdV)
 el:g pl=eM (.dct<|Zb Lab.v LB)
 ad:∀a∈[pg,pc,pd,pr,pl],a∉Z.adr
 nd:[pg,pc,pd,pr,pl].Nodup
section
variable {g g2:Hs}{Y Z Z':Yd}{N:Nat}{y pg pc pd pr pl:Ad}{bs gone cut:List Int}{ts:List Tie}{most:Int}{TR:List (Int×Tie)}{LB:List (Int×Lab)}{Ž:Int->Tie}
def A3{b:Int}(x:fe h Y)(hs:(Y.cc.br.lookup b).isSome=eP)(k:∀a t d,fc h a t d (Y.cc.at_ b)->Q (.ref a) h):wF P (n+1) "Yard.bridge" [.ref Y.y,.int b] h Q X:=by
 have xi:=x.ins;have xs:=x.stand;refine KG ?_
 exists CQ xs rfl
 let⟨e,he,en,lk,ea,ba⟩:=x.at_ hs;rw[ZE,lk];exact k e.b e.t e.d<|ea▸ba
def S28.ext(s:S28 y pg pc pd pr pl bs ts most N g Z gone cut TR LB Ž){f:Hs}(x:Ext g f):S28 y pg pc pd pr pl bs ts most N f Z gone cut TR LB Ž :=
 ⟨s.ya.ext x,s.yy,s.hb,s.ht,s.hm,s.gd,s.gs,s.ms,s.w,s.lw,s.gn,s.cn,s.gb,s.tk,s.tr,x.get s.eg,x.get s.ec,x.get s.ed,x.get s.er,x.get s.el,s.ad,s.nd⟩
def S28.next(s:S28 y pg pc pd pr pl bs ts most N g Z gone cut TR LB Ž){d:Dd}{g3:Hs}(st:step Z.cc d=eM Z'.cc)(m:Mv g Z g2 Z')(ex:Ex [pg,pc,pd,pr,pl] g2 g3){gone' cut':List Int}{dC:List (Int×Tie)}{dY:List (Int×Lab)}{aE:Int->Tie}(w:Wk Z'.cc gone' cut')(lw:Lw Z'.cc aE dY)(gn:gone'.Nodup)(cn:cut'.Nodup)(gb:∀b∈gone',b∈Z.cc.bs)(tk:dC.map (·.1)=bs)(tr:∀b∈Z.cc.bs,dC.lookup b=eM (aE b))
  (eg:g3 pg=eM (.lst<|gone'.map .int)) (ec:g3 pc=eM (.lst<|cut'.map .int)) (ed:g3 pd=eM (.dct<|Zb trV dC)) (er:g3 pr=eM (.lst<|Z'.road.map rdV)) (el:g3 pl=eM (.dct<|Zb Lab.v dY)):S28 y pg pc pd pr pl bs ts most (N+1) g3 Z' gone' cut' dC dY aE:=by
 let⟨gd,b1,b2,b3⟩:=UL s.gd st;have off:∀{a o},a∈[pg,pc,pd,pr,pl]->g a=eM o->a∉Z'.adr:=λha e=>(m.off (s.ad _ ha) e).1;have ad:∀a∈[pg,pc,pd,pr,pl],a∉Z'.adr:=λa ha=>by
  have ha':=ha;simp only[Æ,Í,or_false]at ha';rcases ha' with rfl|rfl|rfl|rfl|rfl
  .exact off ha s.eg
  .exact off ha s.ec
  .exact off ha s.ed
  .exact off ha s.er
  .exact off ha s.el
 exact⟨m.at_.keep ex λa ha z=>ad a z ha,m.y.trans s.yy,(show Z'.bs=Z.bs from b1).trans s.hb,(show Z'.ts=Z.ts from b2).trans s.ht,(show Z'.most=Z.most from b3).trans s.hm,gd,Fj s.gd s.gs st,Hk s.ms st,w,lw,gn,cn,λb hb=>by rw[b1];exact gb b hb,tk,λb hb=>tr b (by rw[<-b1];exact hb),eg,ec,ed,er,el,ad,s.nd⟩
def S28.glen(s:S28 y pg pc pd pr pl bs ts most N g Z gone cut TR LB Ž):gone.length<=10/\cut.length<=16/\LB.length<=10/\TR.length<=10:=by
 have h10:=s.gd.no.ten;refine⟨Õ (Wz s.gn s.gb) h10,Õ (Wz s.cn λq hq=>?_) s.gd.f16,?_,?_⟩
 .have:=s.w.fa q;rw[gz hq,look_iff]at this;exact of_decide_eq_true this
 .rw[<-À (f:=(·.1))];refine Õ (Wz s.lw.nd λb hb=>?_) s.gd.ten;have:=s.lw.lab b;have h1:(LB.lookup b).isSome=eP:=by rw[look_iff];exact gz hb
  rw[this,ġ]at h1;exact keys_look.mp h1
 .have:=congrArg List.length s.tk;rw[À]at this;rw[this,<-s.hb];exact h10
def S28.hin(s:S28 y pg pc pd pr pl bs ts most N g Z gone cut TR LB Ž):∀b∈Z.bs,(LB.lookup b).isSome=!gC (b∈gone):=λb hb=>by rw[s.lw.lab,ġ];have:=s.w.st b;unfold Yc.std at this;rw[this];have aP:b∈Z.cc.bs:=hb;simp[aP]
def S28.hat(s:S28 y pg pc pd pr pl bs ts most N g Z gone cut TR LB Ž):∀b∈Z.bs,b∉gone->LB.lookup b=eM (Z.cc.at_ b).label/\TR.lookup b=eM ((Z.cc.at_ b).life,(Z.cc.at_ b).count,(Z.cc.at_ b).version):=λb hb hg=>by
 have h1:=s.hin b hb;rw[s.lw.lab,ġ,gy hg]at h1;let⟨B,hB⟩:=ë.mp h1;have e:Z.cc.at_ b=B:=by unfold Yc.at_;rw[hB];rfl
 rw[s.lw.lab,hB,e,s.tr b hb,s.lw.br b B hB];exact⟨rfl,rfl⟩
def C6(s:S28 y pg pc pd pr pl bs ts most N g Z gone cut TR LB Ž)(k:∀f,Ext g f->Q (.bl eP) f):wF P (n+3) "_law_stands" [.ref y,ZN bs ts,stV pg pc pd pr most,.ref pl] g Q X:=by
 rw[<-s.yy,<-s.hb,<-s.ht];have ke:=s.w.keys_eq s.gd;have b10:=s.gd.no.ten;have xi:=s.ya.ins;have hin:=s.hin;have hat:=s.hat;unfold ZN;refine Nd ?_;refine' Nw s.ya λp1 g1 cp x1 e1=>?_;have s1:=s.ext x1;have xi:=s1.ya.ins
 exists K1 (WM e1 s1.er<|all_map λr _=>Ox r)
 walk_at "p";refine K8 s1.ya s1.gd λp2 g2 hp2 x2 e2=>?_;have s2:=s1.ext x2;have xi:=s2.ya.ins;have el:=s2.el;have ed:=s2.ed;refine' ⟨Ë (by rw[À];exact b10) (by decide),Xr (λb=>!gC (b∈gone)) (λb=>.tup [.int b,(Z.cc.at_ b).label.v]) trivial (λb hm K k1 k2=>?_)<|Zf λp3 g3 hp3 x3 e3=>?_⟩
 .exists XJ el rfl
  rw[YX,hin b hm];refine' fT (λhc=>?_) k2;have df:fq (Zb Lab.v LB) (.int b)=eM (Z.cc.at_ b).label.v:=by rw[ZE,(hat b hm<|by simpa using hc).1];rfl
  exists Zz el rfl df
  refine' k1 hc
 have e2':=x3.get e2;unfold Lh at e2';rw[ke]at e2';refine K1 (WM e2' e3<|all_map λb _=>D3 _ _) ?_;have s3:=s2.ext x3;have xi:=s3.ya.ins;have el:=s3.el;have ed:=s3.ed;walk_at "p";refine⟨Ë (by rw[À];exact b10) (by decide),Xr (λb=>!gC (b∈gone)) (λb=>.tup [.int b,pV ((Z.cc.at_ b).life,(Z.cc.at_ b).version)]) trivial (λb hm K k1 k2=>?_)<|Zf λp4 g4 hp4 x4 e4=>?_⟩
 .exists XJ el rfl
  rw[YX,hin b hm];refine' fT (λhc=>?_) k2;have df:fq (Zb trV TR) (.int b)=eM (.tup [.int (Z.cc.at_ b).life,.int (Z.cc.at_ b).count,.int (Z.cc.at_ b).version]):=by rw[ZE,(hat b hm<|by simpa using hc).2];rfl
  exists Zz ed rfl df
  exists Zz ed rfl df
  refine' k1 hc
 have s4:=s3.ext x4;have xi:=s4.ya.ins;refine' Bp s4.ya s4.gd λp5 g5 hp5 x5 e5=>?_;unfold QS at e5;rw[ke]at e5
 exists WR (WM e5 (x5.get e4)<|all_map λb _=>rfl)
 exact k _<|(x1.trans x2).trans<|x3.trans<|x4.trans x5
end
section
variable {g g2:Hs}{Y Z Z':Yd}{N:Nat}{y pg pc pd pr pl:Ad}{bs gone cut:List Int}{ts:List Tie}{most:Int}{TR:List (Int×Tie)}{LB:List (Int×Lab)}{Ž:Int->Tie}
def EF{b:Int}(s:S28 y pg pc pd pr pl bs ts most N g Z gone cut TR LB Ž)(hN:N<=200)(st:step Z.cc (.tick b)=eM Z'.cc)(m:Mv g Z g2 Z')(k:∀g3 dC dY aE,S28 y pg pc pd pr pl bs ts most (N+1) g3 Z' gone cut dC dY aE->Ex [pg,pc,pd,pr,pl] g2 g3->Q (.bl eP) g3):wF P (n+6) "_law_ticked" [.ref y,ZN bs ts,stV pg pc pd pr most,.ref pl,.int b] g2 Q X:=by
 let⟨B,hB,_⟩:=Ä.mp st;have hm:=Zi hB;have hbs:b∈Z.cc.bs:=s.gd.sub _ hm;have ok:=(s.gd.ok _ hm).ok;have o:=s.gs.br _ hm;have no:=s.gd.no;let⟨lw',rd,hB'⟩:=s.lw.tick hB st;let⟨w',_⟩:=s.w.tick st;have hT:=s.tr b hbs;rw[s.lw.br b B hB]at hT;have hL:LB.lookup b=eM B.label:=by rw[s.lw.lab,hB];rfl
 let⟨to,tl⟩:=o.told no ok;let⟨g1,g2',g3',g4'⟩:=s.glen;have sl:(ZP ts b B.told).length<=16:=KS ok;have hts:Z.cc.ts=ts:=s.ht;have rl:Z.road.length<=16*N:=s.gd.len;have off:∀{a o},a∈[pg,pc,pd,pr,pl]->g a=eM o->g2 a=eM o:=λha e=>(m.off (s.ad _ ha) e).2;have eg:=off (a:=pg) (by simp) s.eg;have ec:=off (a:=pc) (by simp) s.ec;have ed:=off (a:=pd) (by simp) s.ed;have er:=off (a:=pr) (by simp) s.er;have el:=off (a:=pl) (by simp) s.el;have nd:=s.nd;simp only[ü,Æ,Í,or_false,not_or]at nd;let⟨⟨n12,n13,n14,n15⟩,⟨n23,n24,n25⟩,⟨n34,n35⟩,n45,_⟩:=nd;have ey:Z'.y=y:=m.y.trans s.yy;have es:=s.w.sent s.gd hB;have rd:Z'.road=Z.road++ZP Z.cc.ts b B.told:=rd;rw[hts]at es rd;have at_:Z'.cc.at_ b=B.ticked:=by unfold Yc.at_;rw[hB'];rfl
 have lab:B.told.label=⟨b,0,eN⟩\/∃p s,B.told.label.up=eM (p,s)/\nnP s/\0<=B.told.label.root/\B.told.label.root<b/\(p,ZY ts p b,cst ts p)∈gh b 0 ts/\XD ts gone cut p=eP/\1<=B.told.label.cost/\cst ts p<=B.told.label.cost/\(B.told.label.cost=cst ts p↔B.told.label.root=ZY ts p b):=by
  rw[<-s.ht];rcases tl with e|⟨p,t,h1,h2,h3,h4,h5,_,h6,h7⟩
  .exact .inl e
  .obtain⟨t1,t2,t3⟩:=(s.w.tied s.gd hB p).mp h5;have hc:1<=cst Z.ts p:=(no.tie _<|Nx (of_decide_eq_true t1).1 (of_decide_eq_true t1).2).2.2.2.1;exact .inr ⟨p,t,h1,h2,h3,h4,UY t1 t2,t3,Int.le_trans hc h6,h6,h7⟩
 have no':fm bs ts:=by rw[<-s.hb,<-s.ht];exact no
 have yi:=m.at_.ins;have tv:B.told.version=B.version+if(!gC (B.told.label=B.label))=eP then 1 else 0:=by
  have e:B.told.label=reck B.grown:=(Zr B.grown<|reck B.grown).2.2.2.1;rw[e];unfold Br.told taken;by_cases z:reck B.grown=B.grown.label
  .rw[gw z];have z':reck B.grown=B.label:=z;rw[gz z'];exact(Int.add_zero _).symm
  .rw[gx z];have z':¬ reck B.grown=B.label:=z;rw[gy z'];rfl
 have tc:B.told.count=B.count:=(Zr B.grown<|reck B.grown).2.2.1;have tli:B.told.life=B.life:=(Zr B.grown<|reck B.grown).2.2.2.2.2.1;rw[<-ey];refine MU ?_;refine' A3 m.at_ (by rw[hB'];rfl) λa t d ba=>?_;rw[at_]at ba;have bi:=ba.ins
 exists Oz ba
 rw[show B.ticked.label=B.told.label from rfl];refine' O0 no' eg ec lab λf1 x1=>?_;have eg:=x1.get eg;have ec:=x1.get ec;have ed:=x1.get ed;have er:=x1.get er;have el:=x1.get el;have y1:=m.at_.ext x1;walk_at "p";have df:fq (Zb trV TR) (.int b)=eM (.tup [.int B.life,.int B.count,.int B.version]):=by rw[ZE,hT];rfl
 have ell:fq (Zb Lab.v LB) (.int b)=eM B.label.v:=by rw[ZE,hL];rfl
 refine Zz ed rfl df ?_
 exists Zz el rfl ell
 exists K1 (Ee f1 B.told.label B.label)
 fail;rw[<-tv];refine ZM ed ⟨rfl,by rw[Xf];exact Ë g4'<|by decide⟩ ?_;rw[show Val.tup [.int B.life,.int B.count,.int B.told.version]=trV (B.life,B.count,B.told.version) from rfl,ZA];have ed:upd f1 pd (.dct<|Zb trV<|Za TR b (B.life,B.count,B.told.version)) pd=_:=eS;have eg:upd f1 pd (.dct<|Zb trV<|Za TR b (B.life,B.count,B.told.version)) pg=_:=(eR n13).trans eg;have ec:upd f1 pd (.dct<|Zb trV<|Za TR b (B.life,B.count,B.told.version)) pc=_:=(eR n23).trans ec;have er:upd f1 pd (.dct<|Zb trV<|Za TR b (B.life,B.count,B.told.version)) pr=_:=(eR<|Ne.symm n34).trans er;have el:upd f1 pd (.dct<|Zb trV<|Za TR b (B.life,B.count,B.told.version)) pl=_:=(eR<|Ne.symm n35).trans el;have ex:Ex [pg,pc,pd,pr,pl] g2<|upd f1 pd<|.dct<|Zb trV<|Za TR b (B.life,B.count,B.told.version):=(Ex.of x1).trans (Ex.upd<|by simp);generalize upd f1 pd (.dct<|Zb trV<|Za TR b (B.life,B.count,B.told.version))=f2 at ed eg ec er el ex ⊢;refine' ZM el ⟨rfl,by rw[Xf];exact Ë g3'<|by decide⟩ ?_;rw[ZA];have eg:upd f2 pl (.dct<|Zb Lab.v<|Za LB b B.told.label) pg=_:=(eR n15).trans eg;have ec:upd f2 pl (.dct<|Zb Lab.v<|Za LB b B.told.label) pc=_:=(eR n25).trans ec;have ed:upd f2 pl (.dct<|Zb Lab.v<|Za LB b B.told.label) pd=_:=(eR n35).trans ed;have er:upd f2 pl (.dct<|Zb Lab.v<|Za LB b B.told.label) pr=_:=(eR n45).trans er;have el:upd f2 pl (.dct<|Zb Lab.v<|Za LB b B.told.label) pl=_:=eS;have ex:Ex [pg,pc,pd,pr,pl] g2<|upd f2 pl<|.dct<|Zb Lab.v<|Za LB b B.told.label:=ex.trans (Ex.upd<|by simp);generalize upd f2 pl (.dct<|Zb Lab.v<|Za LB b B.told.label)=f3 at ed eg ec er el ex ⊢;have nad:∀a∈Z'.adr,a∉[pg,pc,pd,pr,pl]:=λa ha z=>by
  have off:∀{a o},a∈[pg,pc,pd,pr,pl]->g a=eM o->a∉Z'.adr:=λha e=>(m.off (s.ad _ ha) e).1;have z':=z;simp only[Æ,Í,or_false]at z';rcases z' with rfl|rfl|rfl|rfl|rfl
  .exact off z s.eg ha
  .exact off z s.ec ha
  .exact off z s.ed ha
  .exact off z s.er ha
  .exact off z s.el ha
 have y3:=m.at_.keep ex nad;have yi:=y3.ins;refine' Nw y3 λp4 f4 hp4 x4 e4=>?_;have hl:(Z.road.map rdV).length=Z.road.length:=À _;rw[hl];have e4l:((Z'.road).map rdV).length=Z'.road.length:=À _;refine' Zf λp5 f5 hp5 x5 e5=>?_;rw[DA (Đ _) (by rw[À,rd,ã];lia),Ö,rd,Û,<-hl,List.drop_left,es]at e5;have e4:=x5.get e4;refine' Zf λp6 f6 hp6 x6 e6=>?_;rw[<-hl,Nz<|Đ _,Ö,rd,Û,List.take_left]at e6;have x46:=(x4.trans x5).trans x6
 exists K1 (WM e6 (x46.get er)<|all_map λr _=>Ox r)
 have e5:=x6.get e5;have ag:=o.age no ok;walk_at "p";refine Bc (B:=B.told) no' (x46.get eg) (x46.get ec) (x46.get ed) (by rw[ZF,tc,tli]) e5 ag.1 (λu hu=>by rw[<-s.hm,<-show B.most=Z.most from s.ms _ hm];exact ag.2 u hu) (λp z hz=>o.agrees no ok hz) λf7 x7=>?_;have x47:=x46.trans x7;have ed:=x47.get ed;have er:=x47.get er;have e5:=x7.get e5;walk_at "p";have elk2:fq (Zb trV<|Za TR b (B.life,B.count,B.told.version)) (.int b)=eM (.tup [.int B.life,.int B.count,.int B.told.version]):=by rw[ZE,ZF];rfl
 refine Zz ed rfl elk2 ?_;fail;have hk:∀{v:Tie},(Za TR b v).map (·.1)=TR.map (·.1):=λ{v}=>by rw[Z6,hT];rfl
 refine ZM ed ⟨rfl,by rw[Xf,<-À (f:=(·.1)),hk,À];exact Ë g4'<|by decide⟩ ?_;rw[show Val.tup [.int B.life,.int<|B.count+1,.int B.told.version]=trV (B.life,B.count+1,B.told.version) from rfl,ZA];have er:upd f7 pd (.dct<|Zb trV<|Za (Za TR b (B.life,B.count,B.told.version)) b (B.life,B.count+1,B.told.version)) pr=_:=(eR<|Ne.symm n34).trans er;have e5:upd f7 pd (.dct<|Zb trV<|Za (Za TR b (B.life,B.count,B.told.version)) b (B.life,B.count+1,B.told.version)) p5=_:=(eR<|Ne.symm<|Zc (x4.get (by assumption:f3 pd=_)) hp5).trans e5;refine' Dc er e5 (by rw[À,À,<-es];exact Õ (by lia:_<=4000)<|by decide) ?_;fail;have ex7:Ex [pg,pc,pd,pr,pl] g2 f7:=ex.trans<|Ex.of x47;have eg:=x47.get eg;have ec:=x47.get ec;have el:=x47.get el;have exf:Ex [pg,pc,pd,pr,pl] g2<|upd (upd f7 pd<|.dct<|Zb trV<|Za (Za TR b (B.life,B.count,B.told.version)) b (B.life,B.count+1,B.told.version)) pr<|.lst<|Z.road.map rdV++(((upT ts gone cut b).map λr=>(b,r.2.1,r.1,Zg B.told r.1)).map rdV):=(ex7.trans<|Ex.upd<|by simp).trans (Ex.upd<|by simp);refine k _ (Za (Za TR b (B.life,B.count,B.told.version)) b (B.life,B.count+1,B.told.version)) _ _ (s.next st m exf w' lw' s.gn s.cn s.gb ?_ (λc hc=>?_) ((eR n14).trans<|(eR n13).trans eg) ((eR n24).trans<|(eR n23).trans ec) ((eR n34).trans eS) ?_<|(eR<|Ne.symm n45).trans<|(eR<|Ne.symm n35).trans el) exf
 .rw[Z6,ZF];exact hk.trans s.tk
 .by_cases z:c=b
  .rw[z,ZF,BD]
  .rw[ZV z,ZV z,AQ z];exact s.tr c hc
 .rw[eS,rd,Û,es]
end
section
variable {g g2:Hs}{Y Z Z':Yd}{N:Nat}{y pg pc pd pr pl:Ad}{bs gone cut:List Int}{ts:List Tie}{most:Int}{TR:List (Int×Tie)}{LB:List (Int×Lab)}{Ž:Int->Tie}
def Fx{d:Dd}(s:S28 y pg pc pd pr pl bs ts most N g Z gone cut TR LB Ž)(hN:N<=200)(nt:∀b,d≠.tick b)(st:step Z.cc d=eM Z'.cc)(m:Mv g Z g2 Z')(k:∀g3 gone' cut' dC dY aE,S28 y pg pc pd pr pl bs ts most (N+1) g3 Z' gone' cut' dC dY aE->Ex [pg,pc,pd,pr,pl] g2 g3->Q .non g3):wF P (n+1) "_law_moved" [stV pg pc pd pr most,.ref pl,d.v] g2 Q X:=by
 let⟨l1,l2,l3,l4⟩:=s.glen;have rl:Z.road.length<=16*N:=s.gd.len;have off:∀{a o},a∈[pg,pc,pd,pr,pl]->g a=eM o->g2 a=eM o:=λha e=>(m.off (s.ad _ ha) e).2;have eg:=off (a:=pg) (by simp) s.eg;have ec:=off (a:=pc) (by simp) s.ec;have ed:=off (a:=pd) (by simp) s.ed;have er:=off (a:=pr) (by simp) s.er;have el:=off (a:=pl) (by simp) s.el;have nd:=s.nd;simp only[ü,Æ,Í,or_false,not_or]at nd;let⟨⟨n12,n13,n14,n15⟩,⟨n23,n24,n25⟩,⟨n34,n35⟩,n45,_⟩:=nd;have road:∀{p:Int}{wd:String},d.v=.tup [.str wd,.int p]->(step Z.cc (.come p)=eM Z'.cc\/step Z.cc (.lost p)=eM Z'.cc)->fj g2 .isin (.str wd) (.tup [.str "come",.str "lost"])=eM eP->wF P (n+1) "_law_moved" [stV pg pc pd pr most,.ref pl,d.v] g2 Q X:=λ{p wd} ev sr ei=>by
  let⟨w',_⟩:=s.w.road sr;let⟨lw',rd⟩:=s.lw.road sr;have hr:0<=p/\∃r,Z.road[p.toNat]?=eM r:=by
   rcases sr with z|z <;>
   .dsimp only[step]at z;split at z
    .cases z
    .obtain⟨r,hr,_⟩:=Ä.mp z;exact⟨by lia,r,hr⟩
  let⟨h0,r,hr⟩:=hr;obtain⟨q,rfl⟩:∃q:Nat,p=q:=⟨p.toNat,by lia⟩
  rw[Ö]at hr rd;rw[ev];refine Z7 ?_
  exists eW ei
  walk_at "p";refine DZ er (by rw[Ø,hr];rfl) (by rw[À];lia) ?_;fail;have ex:Ex [pg,pc,pd,pr,pl] g2<|upd g2 pr<|.lst<|(Z.road.map rdV).eraseIdx q:=Ex.upd (by simp);refine k _ gone cut TR LB Ž (s.next st m ex w' lw' s.gn s.cn s.gb s.tk s.tr ((eR n14).trans eg) ((eR n24).trans ec) ((eR n34).trans ed) ?_<|(eR<|Ne.symm n45).trans el) ex;rw[eS,show Z'.road=Z.road.eraseIdx q from rd,WH]
 cases d with
 |tick b=>exact gB rfl<|nt b
 |come p=>exact road rfl (.inl st) rfl
 |lost p=>exact road rfl (.inr st) rfl
 |fallB b =>
  have hs:=(Zt st).1;have hb:b∈Z.cc.bs:=keys_sub.mp s.gd.sub b<|keys_look.mp hs;have hg:b∉gone:=by have:=s.w.st b;unfold Yc.std at this;rw[hs]at this;exact(of_decide_eq_true this.symm).2
  let⟨w',rd⟩:=s.w.fallB s.gd st;have lw':=s.lw.fallB st;obtain⟨v,hv⟩:∃v,LB.lookup b=eM v:=ë.mp (by rw[s.lw.lab,ġ];exact hs);have df:fq (Zb Lab.v LB) (.int b)=eM v.v:=by rw[ZE,hv];rfl
  show wF P (n+1) "_law_moved" [stV pg pc pd pr most,.ref pl,.tup [.str "fall",.str "bridge",.int b]] g2 Q X;refine Z7 ?_;refine' eW (show _=eM eQ from rfl) ?_;walk_at "p";refine Yn eg (by rw[À];exact Ë l1<|by decide) ?_;have el1:upd g2 pg (.lst<|gone.map Val.int++[.int b]) pl=_:=(eR<|Ne.symm n15).trans el;walk_at "p";refine UA el1 rfl df ?_;rw[Xl];fail;have ex:Ex [pg,pc,pd,pr,pl] g2<|upd (upd g2 pg<|.lst<|gone.map Val.int++[.int b]) pl<|.dct<|Zb Lab.v<|Ze LB b:=(Ex.upd<|by simp).trans (Ex.upd<|by simp);refine k _ (gone++[b]) cut TR (Ze LB b) Ž (s.next st m ex w' lw' (å.mpr ⟨s.gn,by simp,λa ha c hc e=>hg<|by rw[<-á.mp hc,<-e];exact ha⟩) s.cn (λc hc=>(â.mp hc).elim (s.gb c) λz=>by rw[á.mp z];exact hb) s.tk s.tr ((eR n15).trans ?_) ((eR n25).trans<|(eR<|Ne.symm n12).trans ec) ((eR n35).trans<|(eR<|Ne.symm n13).trans ed) ?_ eS) ex
  .rw[Û];exact eS
  .rw[show Z'.road=Z.road from rd];exact(eR n45).trans<|(eR<|Ne.symm n14).trans er
 |fallT p =>
  have hs:=(Zt st).1;have hg:p∉cut:=by have:=s.w.fa p;rw[hs.2]at this;exact of_decide_eq_false this.symm
  let⟨w',rd⟩:=s.w.fallT s.gd st;have lw':=s.lw.fallT st;show wF P (n+1) "_law_moved" [stV pg pc pd pr most,.ref pl,.tup [.str "fall",.str "tie",.int p]] g2 Q X;refine Z7 ?_;refine' eW (show _=eM eQ from rfl) ?_;walk_at "p";refine Yn ec (by rw[À];exact Ë l2<|by decide) ?_;walk_at "p";have ex:Ex [pg,pc,pd,pr,pl] g2<|upd g2 pc<|.lst<|cut.map Val.int++[.int p]:=Ex.upd (by simp);refine k _ gone (cut++[p]) TR LB Ž (s.next st m ex w' lw' s.gn (å.mpr ⟨s.cn,by simp,λa ha c hc e=>hg<|by rw[<-á.mp hc,<-e];exact ha⟩) s.gb s.tk s.tr ((eR n12).trans eg) ?_ ((eR<|Ne.symm n23).trans ed) ?_<|(eR<|Ne.symm n25).trans el) ex
  .rw[Û];exact eS
  .rw[show Z'.road=Z.road from rd];exact(eR<|Ne.symm n24).trans er
 |backB b =>
  have hs:(Z.cc.br.lookup b).isSome=eQ/\b∈Z.cc.bs:=by
   have z:=st;dsimp only[step]at z;split at z
   .cases z
   .rename_i hz;let⟨l,hl,_⟩:=Ä.mp z;have hk:(Z.cc.lives.lookup b).isSome=eP:=by rw[hl];rfl
    rw[look_iff,s.gd.lv]at hk;exact⟨eC.mpr hz,of_decide_eq_true hk⟩
  have hg:b∈gone:=by
   have:=s.w.st b;unfold Yc.std at this;rw[hs.1]at this;have:=of_decide_eq_false this.symm;by_cases z:b∈gone
   .exact z
   .exact gB ⟨hs.2,z⟩ this
  let⟨w',rd⟩:=s.w.backE (gone':=gone.erase b) s.gd hs.2 (λc=>by rw[s.gn.mem_erase_iff];exact And.comm) st;have lw':=s.lw.backB hs.2 st;have hT:=s.tr b hs.2;have df:fq (Zb trV TR) (.int b)=eM (.tup [.int (Ž b).1,.int (Ž b).2.1,.int (Ž b).2.2]):=by rw[ZE,hT];rfl
  show wF P (n+1) "_law_moved" [stV pg pc pd pr most,.ref pl,.tup [.str "back",.str "bridge",.int b]] g2 Q X;refine Z7 ?_;refine' eW (show _=eM eQ from rfl) ?_;walk_at "p";refine NN eg hg ?_;have el1:upd g2 pg (.lst<|(gone.erase b).map Val.int) pl=_:=(eR<|Ne.symm n15).trans el;have ed1:upd g2 pg (.lst<|(gone.erase b).map Val.int) pd=_:=(eR<|Ne.symm n13).trans ed;walk_at "p";refine ZM el1 ⟨rfl,by rw[Xf];exact Ë l3<|by decide⟩ ?_;rw[show Val.tup [.int b,.int 0,.non,.non]=Lab.v ⟨b,0,eN⟩ from rfl,ZA];have ed2:upd (upd g2 pg<|.lst<|(gone.erase b).map Val.int) pl (.dct<|Zb Lab.v<|Za LB b ⟨b,0,eN⟩) pd=_:=(eR n35).trans ed1
  exists Zz ed2 rfl df
  refine' ZM ed2 ⟨rfl,by rw[Xf];exact Ë l4<|by decide⟩ ?_;rw[show Val.tup [.int<|(Ž b).1+1,.int 0,.int 0]=trV ((Ž b).1+1,0,0) from rfl,ZA];fail;have ex:Ex [pg,pc,pd,pr,pl] g2<|upd (upd (upd g2 pg<|.lst<|(gone.erase b).map Val.int) pl<|.dct<|Zb Lab.v<|Za LB b ⟨b,0,eN⟩) pd<|.dct<|Zb trV<|Za TR b ((Ž b).1+1,0,0):=((Ex.upd<|by simp).trans<|Ex.upd<|by simp).trans (Ex.upd<|by simp);refine k _ (gone.erase b) cut (Za TR b ((Ž b).1+1,0,0)) (Za LB b ⟨b,0,eN⟩) _ (s.next st m ex w' lw' (s.gn.erase b) s.cn (λc hc=>s.gb c<|List.mem_of_mem_erase hc) ?_ (λc hc=>?_) ((eR n13).trans<|(eR n15).trans eS) ((eR n23).trans<|(eR n25).trans<|(eR<|Ne.symm n12).trans ec) eS ?_<|(eR<|Ne.symm n35).trans eS) ex
  .rw[Z6,hT];exact s.tk
  .by_cases z:c=b
   .rw[z,ZF,BD]
   .rw[ZV z,AQ z];exact s.tr c hc
  .rw[show Z'.road=Z.road from rd];exact(eR<|Ne.symm n34).trans<|(eR n45).trans<|(eR<|Ne.symm n14).trans er
 |backT p =>
  have hs:=(Zt st).1;have hg:p∈cut:=by have:=s.w.fa p;rw[hs]at this;exact of_decide_eq_true this.symm
  let⟨w',rd⟩:=s.w.backT (cut':=cut.erase p) s.gd (λc=>by rw[s.cn.mem_erase_iff];exact And.comm) st;have lw':=s.lw.backT st;show wF P (n+1) "_law_moved" [stV pg pc pd pr most,.ref pl,.tup [.str "back",.str "tie",.int p]] g2 Q X;refine Z7 ?_;refine' eW (show _=eM eQ from rfl) ?_;walk_at "p";refine NN ec hg ?_;walk_at "p";have ex:Ex [pg,pc,pd,pr,pl] g2<|upd g2 pc<|.lst<|(cut.erase p).map Val.int:=Ex.upd (by simp);refine k _ gone (cut.erase p) TR LB Ž (s.next st m ex w' lw' s.gn (s.cn.erase p) s.gb s.tk s.tr ((eR n12).trans eg) eS ((eR<|Ne.symm n23).trans ed) ?_<|(eR<|Ne.symm n25).trans el) ex;rw[show Z'.road=Z.road from rd];exact(eR<|Ne.symm n24).trans er
end
def By(b:Int)(l:Lab):Pl 3<|.tup [.int b,l.v]:=by
 refine⟨Ň rfl,λv hv=>?_⟩;simp only[Æ,Í,or_false]at hv;rcases hv with rfl|rfl
 .trivial
 .refine⟨Ň rfl,λv hv=>?_⟩;let⟨r,c,u⟩:=l;simp only[Æ,Í,or_false]at hv;rcases hv with rfl|rfl|rfl|rfl
  .trivial
  .trivial
  .cases u<;>trivial
  .cases u with
   |none=>trivial
   |some u=>exact Jc _
def law_ok(h63:ns.length<=63)(k:∀g,Q (.bl eP) g):wF P (n+8) "law" [.scr ns] h Q X:=by
 refine Qo ?_;refine' MN (k:=0) λc0=>?_;refine' MN (k:=1) λc1=>?_;refine' Lg λbs ts g1 no x1=>?_;refine' MN (k:=0) λc2=>?_;refine' Op λmost g2 m1 m2 x2=>?_;fail;intro y hy;refine B3 no hy λY g3 ey y3 ec fr x3=>?_;refine⟨rfl,?_⟩;subst ey;refine' Zf λpg g4 hpg x4 eg=>?_;refine' Zf λpc g5 hpc x5 ec_=>?_;fail;intro pd hpd;have x6:Ext g5<|upd g5 pd<|.dct []:=Ext.new hpd;have ed:upd g5 pd (.dct []) pd=eM (.dct<|Zb trV []):=eS;generalize upd g5 pd (.dct [])=g6 at x6 ed;refine' Zf λpr g7 hpr x7 er=>?_;fail;intro pl hpl;have x8:Ext g7<|upd g7 pl<|.dct []:=Ext.new hpl;have el:upd g7 pl (.dct []) pl=eM (.dct<|Zb Lab.v []):=eS;generalize upd g7 pl (.dct [])=g8 at x8 el;have dn:∀{a b:Ad}{o:Ob}{q:Hs},q a=eM o->q b=eN->a≠b:=λe1 e2 z=>by rw[z,e2]at e1;cases e1
 have eg5:=x5.get eg;have eg6:=x6.get eg5;have eg7:=x7.get eg6;have ec6:=x6.get ec_;have ec7:=x7.get ec6;have ed7:=x7.get ed;have nd:[pg,pc,pd,pr,pl].Nodup:=by simp[dn eg hpc,dn eg5 hpd,dn eg6 hpr,dn eg7 hpl,dn ec_ hpd,dn ec6 hpr,dn ec7 hpl,dn ed hpr,dn ed7 hpl,dn er hpl]
 have f4:∀{q:Hs}{a:Ad},Ext g3 q->q a=eN->a∉Y.adr:=λx e z=>(y3.ext x).taken z e;have ad:∀a∈[pg,pc,pd,pr,pl],a∉Y.adr:=λa ha=>by
  simp only[Æ,Í,or_false]at ha;rcases ha with rfl|rfl|rfl|rfl|rfl
  .exact f4 .refl hpg
  .exact f4 x4 hpc
  .exact f4 (x4.trans x5) hpd
  .exact f4 ((x4.trans x5).trans x6) hpr
  .exact f4 (((x4.trans x5).trans x6).trans x7) hpl
 have xx:Ext g3 g8:=(((x4.trans x5).trans x6).trans x7).trans x8;have y8:=y3.ext xx;have eg8:=x8.get eg7;have ec8:=x8.get ec7;have ed8:=x8.get ed7;have er8:=x8.get er;clear f4 eg5 eg6 eg7 ec6 ec7 ed7;have nb:bs.Nodup:=no.up.imp λh=>by lia
 have nd':=nd;simp only[ü,Æ,Í,or_false,not_or]at nd';let⟨⟨n12,n13,n14,n15⟩,⟨n23,n24,n25⟩,⟨n34,n35⟩,n45,_⟩:=nd';unfold ZN;refine' Zo (λi en g=>Sm6 λv6 v7 v8 v9 cS b7=>Cj7 (en=[eM<|.scr ns,eM<|.tup [.tup<|bs.map .int,.tup<|ts.map trV],eM<|.int most,eM<|.ref Y.y,eM<|stV pg pc pd pr most,eM<|.ref pl,v6,v7,v8,v9,cS,b7]) (fe g Y) (g pg=eM (.lst<|([]:List Int).map .int)) (g pc=eM (.lst<|([]:List Int).map .int)) (g pd=eM (.dct<|Zb trV<|(bs.take i).map λb=>(b,(0,0,0)))) (g pr=eM (.lst []))<|g pl=eM (.dct<|Zb Lab.v<|(bs.take i).map λb=>(b,⟨b,0,eN⟩))) ⟨_,_,_,_,_,_,rfl,y8,eg8,ec8,ed8,er8,el⟩ (λ_ _ _ _ _=>trivial) ?_ ?_
 .rintro i v en g hv ⟨v6,v7,v8,v9,cS,b7,rfl,yg,eg,ec,ed,er,el⟩ K hK;let⟨b,hb,rfl⟩:=Yy hv;have hi:=(Ì.mp hb).1;have hl:(bs.take i).length<=10:=by rw[ÿ];have:=no.ten;lia
  have hn:b∉bs.take i:=λz=>by have e:bs.take (i+1)=bs.take i++[b]:=ZC hb;have:(bs.take<|i+1).Nodup:=nb.sublist<|d5 _ _;rw[e,å]at this;exact this.2.2 b z b (by simp) rfl
  have hd:∀{α:Type}{f:Int->α},b∉((bs.take i).map λb=>(b,f b)).map (·.1):=λ{α f}=>by rw[í];exact λz=>hn (by rwa [show(λx:Int×α=>x.1) ∘ (λb=>(b,f b))=id from rfl,Ŭ]at z)
  refine' ZM ed ⟨rfl,by rw[Xf,À];exact Ë hl<|by decide⟩ ?_;rw[show Val.tup [.int 0,.int 0,.int 0]=trV (0,0,0) from rfl,ZA,YJ _<|hd (f:=λ_=>((0:Int),(0:Int),(0:Int)))];have el1:upd g pd (.dct<|Zb trV<|((bs.take i).map λb=>(b,(0,0,0)))++[(b,(0,0,0))]) pl=_:=(eR<|Ne.symm n35).trans el;refine' ZM el1 ⟨rfl,by rw[Xf,À];exact Ë hl<|by decide⟩ ?_;rw[show Val.tup [.int b,.int 0,.non,.non]=Lab.v ⟨b,0,eN⟩ from rfl,ZA,YJ _<|hd (f:=λb=>(⟨b,0,eN⟩:Lab))];refine' hK _ _ ⟨_,_,_,_,_,_,rfl,?_,(eR n15).trans<|(eR n13).trans eg,(eR n25).trans<|(eR n23).trans ec,?_,(eR n45).trans<|(eR<|Ne.symm n34).trans er,?_⟩
  .exact yg.keep (S:=[pd,pl]) ((Ex.upd<|by simp).trans<|Ex.upd<|by simp) λa ha z=>by
    simp only[Æ,Í,or_false]at z;rcases z with rfl|rfl
    .exact ad _ (by simp) ha
    .exact ad _ (by simp) ha
  .rw[ZC hb,Û];exact(eR n35).trans eS
  .rw[ZC hb,Û];exact eS
 rintro en g ⟨v6,v7,v8,v9,cS,b7,rfl,yg,eg,ec',ed,er,el⟩;rw[À,Ē]at ed el;have hb:Y.bs=bs:=congrArg Yc.bs ec;have ht:Y.ts=ts:=congrArg Yc.ts ec;have hmo:Y.most=most:=congrArg Yc.most ec;have hr:Y.road=[]:=congrArg Yc.road ec;have s0:S28 Y.y pg pc pd pr pl bs ts most 0 g Y [] [] (bs.map λb=>(b,(0,0,0))) (bs.map λb=>(b,⟨b,0,eN⟩)) λ_=>(0,0,0):=by refine⟨yg,rfl,hb,ht,hmo,ec▸E9 no,ec▸E8 no,ec▸FL,ec▸Gi no,ec▸GC no,ė,ė,(λ_ m=>nomatch m),by rw[í];exact Ŭ _,λb aP=>?_,eg,ec',ed,by rw[hr];exact er,el,ad,nd⟩;rw[Yj (f:=λ_=>((0:Int),(0:Int),(0:Int))),gw];rw[<-hb];exact aP
 clear yg eg ec' ed er el y8 eg8 ec8 ed8 er8;refine' Zf λpz g9 hpz x9 e9=>?_;rw[Y4]at e9;have cl:(cut ns (eM 2) eN).length<=63:=by unfold cut;rw[ÿ,Ľ];lia
 generalize cut ns (eM 2) eN=cs0 at e9 cl;refine' Cb e9 cl λcs pq g10 hpq x10 e10 cn=>?_;have s1:=(s0.ext x9).ext x10;have hq:g pq=eN:=Ym x9 hpq;have inS:∀{a o},g a=eM o->a≠pq:=λe z=>by rw[z,hq]at e;cases e
 have nqS:pq∉[pg,pc,pd,pr,pl]:=by simp only[Æ,Í,or_false,not_or];exact⟨Ne.symm<|inS s0.eg,Ne.symm<|inS s0.ec,Ne.symm<|inS s0.ed,Ne.symm<|inS s0.er,Ne.symm<|inS s0.el⟩
 have nqA:pq∉Y.adr:=λz=>s0.ya.taken z hq;refine' Zo (λi en g=>∃v8 v9 cS b7 N Z gone cut TR LB Ž,en=[eM<|.scr ns,eM<|.tup [.tup<|bs.map .int,.tup<|ts.map trV],eM<|.int most,eM<|.ref Y.y,eM<|stV pg pc pd pr most,eM<|.ref pl,v6,eM<|.int<|120 - (N:Nat),v8,v9,cS,b7]/\N<=120/\S28 Y.y pg pc pd pr pl bs ts most N g Z gone cut TR LB Ž/\pq∉Z.adr/\g pq=eM (.lst<|cs.map .int)) ⟨_,_,_,_,0,Y,[],[],_,_,_,rfl,by decide,s1,nqA,e10⟩ (λ_ _ _ _ z=>by let⟨_,_,_,_,_,_,_,_,_,_,_,_,_,_,_,e⟩:=z;exact lsE e) ?_ ?_
 .rintro i v en g hv ⟨v8,v9,cS,b7,N,Z,gone,cut,TR,LB,Ž,rfl,hN,s,nz,eq⟩ K hK;let⟨code,hc,rfl⟩:=Yy hv;let⟨l1,l2,l3,l4⟩:=s.glen;have er:=s.er;have ebs:Z.cc.bs=bs:=s.hb;have ets:Z.cc.ts=ts:=s.ht;fail;rw[À,show Val.tup [.tup<|bs.map .int,.tup<|ts.map trV]=ZN Z.cc.bs Z.cc.ts by rw[ebs,ets];rfl];refine Nh (C:=Z.cc) s.gd s.w s.gb l1 l2 (cn code<|ô hc) (by lia) s.eg s.ec λds p2 g2 hp2 x2 e2 can=>?_;rw[ebs,ets];unfold ZN;have s2:=s.ext x2;have eq2:=x2.get eq;refine' Zf λp3 g3 hp3 x3 e3=>?_;have s3:=s2.ext x3;have eq3:=x3.get eq2;rw[Nz (by lia),<-bO]at e3;have can:=can.take (120 - (N:Int)).toNat;have hdl:(ds.take (120 - (N:Int)).toNat).length<=120 - N:=by rw[ÿ];lia
  generalize ds.take (120 - (N:Int)).toNat=ds at e3 can hdl;have n3:∀{a o},g2 a=eM o->a≠p3:=λe z=>by rw[z,hp3]at e;cases e
  have n3S:p3∉[pg,pc,pd,pr,pl]:=by simp only[Æ,Í,or_false,not_or];exact⟨Ne.symm<|n3 s2.eg,Ne.symm<|n3 s2.ec,Ne.symm<|n3 s2.ed,Ne.symm<|n3 s2.er,Ne.symm<|n3 s2.el⟩
  have n3A:p3∉Z.adr:=λz=>s2.ya.taken z hp3;refine' Zo (λj en g=>∃cS b7 Z gone cut TR LB Ž,en=[eM<|.scr ns,eM<|.tup [.tup<|bs.map .int,.tup<|ts.map trV],eM<|.int most,eM<|.ref Y.y,eM<|stV pg pc pd pr most,eM<|.ref pl,v6,eM<|.int<|120 - ((N+j:Nat):Int),eM<|.int code,eM<|.ref p2,cS,b7]/\S28 Y.y pg pc pd pr pl bs ts most (N+j) g Z gone cut TR LB Ž/\pq∉Z.adr/\g pq=eM (.lst<|cs.map .int)/\p3∉Z.adr/\g p3=eM (.lst<|ds.map Dd.v)/\Can Z.cc (ds.drop j)) ⟨_,_,Z,gone,cut,TR,LB,Ž,rfl,s3,nz,eq3,n3A,e3,can⟩ (λ_ _ _ _ z=>by let⟨_,_,_,_,_,_,_,_,_,_,_,_,_,e,_⟩:=z;exact lsE e) ?_ ?_
  .rintro j v en g hv ⟨cS,b7,Z,gone,cut,TR,LB,Ž,rfl,s,nz,eq,n3A,e3,can⟩ K2 hK2;let⟨d,hd,rfl⟩:=Yy hv;have hj:=(Ì.mp hd).1;have ed:ds.drop j=d::ds.drop (j+1):=by
    rw[ų hj];congr 1;exact(Ì.mp hd).2
   rw[ed]at can;have yi:=s.ya.ins;rw[s.yy]at yi;fail;rw[<-s.yy];refine Gr s.ya s.gd (by lia) can.1 λZ' g4 st m=>?_;have o1:=m.off nz eq;have o2:=m.off n3A e3;have can:=can.2 _ st;have rest:∀{f:Hs}{gone' cut':List Int}{dC:List (Int×Tie)}{dY:List (Int×Lab)}{aE:Int->Tie}{M:NQ},S28 Y.y pg pc pd pr pl bs ts most (N+j+1) f Z' gone' cut' dC dY aE->Ex [pg,pc,pd,pr,pl] g4 f->wSs (wF P<|n+7) #[.ite (.not<|.val<|.call "_law_stands" #[.var 3,.var 1,.var 4,.var 5]) #[.ret<|.cst<|.bl eQ] .nil] [eM<|.scr ns,eM<|.tup [.tup<|bs.map .int,.tup<|ts.map trV],eM<|.int most,eM<|.ref Y.y,eM<|stV pg pc pd pr most,eM<|.ref pl,v6,eM<|.int<|120 - ((N+j:Nat):Int) - 1,eM<|.int code,eM<|.ref p2,eM<|Dd.v d,b7] f K2 Q M K2 λ_ c g=>X c g:=λ{f gone' cut' dC dY aE M} s' ex=>by refine' C6 s' λf2 xf=>?_;walk_at "p";rw[show(120:Int) - ((N+j:Nat):Int) - 1=120 - ((N+(j+1):Nat):Int) by lia];exact hK2 _ _ ⟨eM<|Dd.v d,b7,Z',gone',cut',dC,dY,aE,rfl,s'.ext xf,o1.1,xf.get<|ex.get nqS o1.2,o2.1,xf.get<|ex.get n3S o2.2,can⟩
   rw[s.yy];cases d with
   |tick b =>walk_at "p";refine EF s (by lia) st m λf dC dY aE s' ex=>?_;fail;refine fR rfl ?_;exact rest s' ex
   |_ b =>walk_at "p";refine Fx s (by lia) (λ_ z=>nomatch z) st m λf a b c e t s' ex=>?_;exact rest s' ex
  rintro en g ⟨cS,b7,Z,gone,cut,TR,LB,Ž,rfl,s,nz,eq,_⟩;rw[À]at s ⊢;refine' hK _ _ ⟨_,_,_,_,N+ds.length,Z,gone,cut,TR,LB,Ž,rfl,by lia,s,nz,eq⟩
 rintro en g ⟨v8,v9,cS,b7,N,Z,gone,cut,TR,LB,Ž,rfl,hN,s,_⟩;have b10:=no.ten;have el:=s.el;have ke:=s.w.keys_eq s.gd;have ebs:Z.cc.bs=bs:=s.hb;have ebs':Z.bs=bs:=s.hb;have hin:=s.hin;have hat:=s.hat;rw[ebs']at hin hat;refine' ⟨Ë (by rw[À];exact b10) (by decide),Xr (λb=>!gC (b∈gone)) (λb=>.tup [.int b,(Z.cc.at_ b).label.v]) trivial (λb hm K k1 k2=>?_)<|Zf λp3 g3 hp3 x3 e3=>?_⟩
 .exists XJ el rfl
  rw[YX,hin b hm];refine' fT (λhc=>?_) k2;have df:fq (Zb Lab.v LB) (.int b)=eM (Z.cc.at_ b).label.v:=by rw[ZE,(hat b hm<|by simpa using hc).1];rfl
  exists Zz el rfl df
  refine' k1 hc
 have s3:=s.ext x3;have yi:=s3.ya.ins;rw[s.yy]at yi;fail;rw[<-s.yy];refine K8 s3.ya s3.gd λp4 g4 hp4 x4 e4=>?_;unfold Lh at e4;rw[ke,ebs]at e4;have s4:=s3.ext x4;have yi:=s4.ya.ins;have ul:(ups bs gone).length<=10:=Õ (ł _ _) b10;refine' NK (d:=3) e4 (x4.get e3) (by rw[À];lia) (λv hv=>?_) ?_
 .obtain⟨b,_,rfl⟩:=Ô.mp hv;exact By b _
 walk_at "p";refine Nw s4.ya λp5 g5 hp5 x5 e5=>?_;have rl:Z.road.length<=16*N:=s.gd.len;refine' NK (d:=3) e5 (x5.get s4.er) (by rw[À];lia) (λv hv=>?_) (k _);let⟨r,_,rfl⟩:=Ô.mp hv;exact EO r
end O
set_option maxRecDepth 1000000
set_option maxHeartbeats 0
namespace My
open PySem L2 Snd PySem.W
abbrev top(i:Nat):Stmt:=PySem.Challenge.pw_shutways_k28_whole_letters_tell_labels.main.body.getD i<|.Pass ⟨0,0,0,0⟩
abbrev inC:Stmt->Nat->Stmt
 |.ClassDef _ _ _ b _ _ _ _ _ _ _,j=>b.getD j<|.Pass ⟨0,0,0,0⟩
 |s,_=>s
abbrev x0:Ds:=⟨top 5,["thing"],["thing"],O.TL⟩
abbrev x1:Ds:=⟨top 7,["net","bridge","found","place","tie"],["net","bridge"],O.Tq⟩
abbrev x2:Ds:=⟨top 8,["tie","bridge"],["tie","bridge"],O.TH⟩
abbrev x3:Ds:=⟨top 16,["one","other"],["one","other"],O.Tr⟩
abbrev x4:Ds:=⟨top 18,["bridge","offers","better"],["bridge","offers"],O.TF⟩
abbrev x5:Ds:=⟨top 24,["some","words"],["some"],O.Tv⟩
abbrev x6:Ds:=⟨top 26,["script","k"],["script","k"],O.Tz⟩
abbrev x7:Ds:=⟨top 27,["cell","k","number"],["cell","k"],O.Ta⟩
abbrev x8:Ds:=⟨top 28,["cell","many","rest","plain","found","k"],["cell","many"],O.Tj⟩
abbrev x9:Ds:=⟨top 29,["sizes","many","width"],["sizes"],O.TV⟩
abbrev x10:Ds:=⟨top 30,["bridges","three","k","size","one","other","cost","pair"],["bridges","three","k"],O.Tl⟩
abbrev x11:Ds:=⟨top 31,["first","second","sizes","bridges","many","draws","ties"],["first","second"],O.Td⟩
abbrev x12:Ds:=⟨top 32,["first","sizes"],["first"],O.Tk⟩
abbrev x13:Ds:=⟨top 33,["found","due","k"],["found","due"],O.Tf⟩
abbrev x14:Ds:=⟨top 34,["net","number","some","place","tie"],["net","number"],O.Tp⟩
abbrev x15:Ds:=⟨top 35,["cells","codes","cell","rest"],["cells"],O.Tx⟩
abbrev x16:Ds:=⟨top 36,["net","gone","cut","place","tie"],["net","gone","cut","place"],O.Tu⟩
abbrev x17:Ds:=⟨top 37,["net","gone","cut","size","code","up","at","things","fallen","thing"],["net","gone","cut","size","code"],O.Te⟩
abbrev x18:Ds:=⟨top 38,["net","gone","cut","size","code","ways","ticks"],["net","gone","cut","size","code"],O.Tg⟩
abbrev x19:Ds:=⟨top 39,["found","least"],["found","least"],O.Tw⟩
abbrev x20:Ds:=⟨top 40,["found"],["found"],O.To⟩
abbrev x21:Ds:=⟨top 41,["net","state","number","label","place","other","cost"],["net","state","number","label"],O.Tm⟩
abbrev x22:Ds:=⟨top 42,["net","state","number","label","sent","ties","ages","k","place","other","cost","rests","letter","life","count","version","due"],["net","state","number","label","sent"],O.Tn⟩
abbrev x23:Ds:=⟨top 43,["yard","net","state","labels","number","label","life","count","version","size","road","sent"],["yard","net","state","labels","number"],O.Ti⟩
abbrev x24:Ds:=⟨top 44,["state","labels","deed","there"],["state","labels","deed"],O.Tc⟩
abbrev x25:Ds:=⟨top 45,["yard","net","state","labels","some"],["yard","net","state","labels"],O.Th⟩
abbrev x26:Ds:=⟨top 46,["script","net","greatest","yard","state","labels","number","left","code","some","deed","due"],["script"],O.TQ⟩
abbrev z0:Ds:=⟨inC (top 20) 0,["self","number","life","ties","greatest","place","neighbour","cost"],["self","number","life","ties","greatest"],O.SW⟩
abbrev z1:Ds:=⟨inC (top 20) 2,["self"],["self"],O.SS⟩
abbrev z2:Ds:=⟨inC (top 20) 3,["self"],["self"],O.S1⟩
abbrev z3:Ds:=⟨inC (top 20) 4,["self","place"],["self","place"],O.SX⟩
abbrev z4:Ds:=⟨inC (top 20) 5,["self","place","neighbour","cost"],["self","place","neighbour","cost"],O.S4⟩
abbrev z5:Ds:=⟨inC (top 20) 6,["self","place"],["self","place"],O.SZ⟩
abbrev z6:Ds:=⟨inC (top 20) 7,["self","place","letter","held"],["self","place","letter"],O.SY⟩
abbrev z7:Ds:=⟨inC (top 20) 8,["self","letters"],["self"],O.S3⟩
abbrev z8:Ds:=⟨inC (top 20) 9,["self","older","place","held"],["self"],O.ST⟩
abbrev z9:Ds:=⟨inC (top 20) 10,["self","offers","place","held","neighbour","cost","best","root"],["self"],O.S0⟩
abbrev z10:Ds:=⟨inC (top 20) 11,["self","label"],["self","label"],O.S2⟩
abbrev z11:Ds:=⟨inC (top 20) 12,["self","place","root","cost","over","rests","age","ahead"],["self","place"],O.SV⟩
abbrev z12:Ds:=⟨inC (top 20) 13,["self","place","held"],["self","place"],O.SU⟩
abbrev z13:Ds:=⟨inC (top 23) 0,["self","net","greatest","number"],["self","net","greatest"],O.TW⟩
abbrev z14:Ds:=⟨inC (top 23) 4,["self"],["self"],O.TM⟩
abbrev z15:Ds:=⟨inC (top 23) 6,["self"],["self"],O.TK⟩
abbrev z16:Ds:=⟨inC (top 23) 7,["self"],["self"],O.TB⟩
abbrev z17:Ds:=⟨inC (top 23) 8,["self","number"],["self","number"],O.S7⟩
abbrev z18:Ds:=⟨inC (top 23) 11,["self","place"],["self","place"],O.TX⟩
abbrev z19:Ds:=⟨inC (top 23) 12,["self","some","words","number"],["self","some"],O.S9⟩
abbrev z20:Ds:=⟨inC (top 23) 13,["self","number","place","letter","goal"],["self","number"],O.TD⟩
abbrev z21:Ds:=⟨inC (top 23) 14,["self","place","start","goal","tie","letter"],["self","place"],O.S8⟩
abbrev z22:Ds:=⟨inC (top 23) 15,["self","place"],["self","place"],O.TC⟩
abbrev z23:Ds:=⟨inC (top 23) 16,["self","number"],["self","number"],O.TZ⟩
abbrev z24:Ds:=⟨inC (top 23) 17,["self","place"],["self","place"],O.TY⟩
abbrev z25:Ds:=⟨inC (top 23) 18,["self","number"],["self","number"],O.S5⟩
abbrev z26:Ds:=⟨inC (top 23) 19,["self","place"],["self","place"],O.S6⟩
abbrev z27:Ds:=⟨inC (top 23) 20,["self","number","place","neighbour","cost"],["self","number"],O.TU⟩
abbrev z28:Ds:=⟨inC (top 23) 21,["self","place","one","other","cost","stands","near","far"],["self","place"],O.TN⟩
abbrev tb:Tb where
 fs:=[("is_whole",x0),("neighbours",x1),("far_end",x2),("newer",x3),("best_offer",x4),("read_deed",x5),("_law_cell_at",x6),("_law_mixed",x7),("_law_draws",x8),("_law_bridges",x9),("_law_tie",x10),("_law_net",x11),("_law_greatest",x12),("_law_same",x13),("_law_ties_of",x14),("_law_codes",x15),("_law_is_up",x16),("_law_one_deed",x17),("_law_some_deeds",x18),("_law_count",x19),("_law_is_stamp",x20),("_law_is_label",x21),("_law_is_sent",x22),("_law_ticked",x23),("_law_moved",x24),("_law_stands",x25),("law",x26)]
 ms:=[⟨"Bridge","__init__","Bridge.__init__",z0⟩,⟨"Bridge","label","Bridge.label",z1⟩,⟨"Bridge","stamp","Bridge.stamp",z2⟩,⟨"Bridge","held","Bridge.held",z3⟩,⟨"Bridge","up","Bridge.up",z4⟩,⟨"Bridge","down","Bridge.down",z5⟩,⟨"Bridge","hear","Bridge.hear",z6⟩,⟨"Bridge","tick","Bridge.tick",z7⟩,⟨"Bridge","let_grow_older","Bridge.let_grow_older",z8⟩,⟨"Bridge","reckon_label","Bridge.reckon_label",z9⟩,⟨"Bridge","take_label","Bridge.take_label",z10⟩,⟨"Bridge","letter_over","Bridge.letter_over",z11⟩,⟨"Bridge","is_rested_on","Bridge.is_rested_on",z12⟩,⟨"Yard","__init__","Yard.__init__",z13⟩,⟨"Yard","road","Yard.road",z14⟩,⟨"Yard","labels","Yard.labels",z15⟩,⟨"Yard","stamps","Yard.stamps",z16⟩,⟨"Yard","bridge","Yard.bridge",z17⟩,⟨"Yard","has_tie","Yard.has_tie",z18⟩,⟨"Yard","deed","Yard.deed",z19⟩,⟨"Yard","tick_of","Yard.tick_of",z20⟩,⟨"Yard","come","Yard.come",z21⟩,⟨"Yard","take_off","Yard.take_off",z22⟩,⟨"Yard","fall_of_bridge","Yard.fall_of_bridge",z23⟩,⟨"Yard","fall_of_tie","Yard.fall_of_tie",z24⟩,⟨"Yard","back_of_bridge","Yard.back_of_bridge",z25⟩,⟨"Yard","back_of_tie","Yard.back_of_tie",z26⟩,⟨"Yard","set_ties_of","Yard.set_ties_of",z27⟩,⟨"Yard","set_tie","Yard.set_tie",z28⟩]
 cs:=[("NUMBER",(.int 0)),("STAMP",(.int 1)),("ROOT",(.int 2)),("COST",(.int 3)),("AGE",(.int 4)),("RESTS",(.int 5)),("DEEDS",(.tup [(.tup [(.str "tick")]),(.tup [(.str "come")]),(.tup [(.str "lost")]),(.tup [(.str "fall"),(.str "bridge")]),(.tup [(.str "fall"),(.str "tie")]),(.tup [(.str "back"),(.str "bridge")]),(.tup [(.str "back"),(.str "tie")])]))]
 cl:=["Bridge","Yard"]
 fl:=["age_let_go","greatest_age","held_by_place","label_now","letters_on_road","life","lives","net_made_of","number","standing","ticks_had","ties_by_place","ties_fallen","version"]
 xs:=[]
abbrev pg:O.Pg:=λf=>(([("is_whole",O.TL),("neighbours",O.Tq),("far_end",O.TH),("newer",O.Tr),("best_offer",O.TF),("read_deed",O.Tv),("_law_cell_at",O.Tz),("_law_mixed",O.Ta),("_law_draws",O.Tj),("_law_bridges",O.TV),("_law_tie",O.Tl),("_law_net",O.Td),("_law_greatest",O.Tk),("_law_same",O.Tf),("_law_ties_of",O.Tp),("_law_codes",O.Tx),("_law_is_up",O.Tu),("_law_one_deed",O.Te),("_law_some_deeds",O.Tg),("_law_count",O.Tw),("_law_is_stamp",O.To),("_law_is_label",O.Tm),("_law_is_sent",O.Tn),("_law_ticked",O.Ti),("_law_moved",O.Tc),("_law_stands",O.Th),("law",O.TQ),("Bridge.__init__",O.SW),("Bridge.label",O.SS),("Bridge.stamp",O.S1),("Bridge.held",O.SX),("Bridge.up",O.S4),("Bridge.down",O.SZ),("Bridge.hear",O.SY),("Bridge.tick",O.S3),("Bridge.let_grow_older",O.ST),("Bridge.reckon_label",O.S0),("Bridge.take_label",O.S2),("Bridge.letter_over",O.SV),("Bridge.is_rested_on",O.SU),("Yard.__init__",O.TW),("Yard.road",O.TM),("Yard.labels",O.TK),("Yard.stamps",O.TB),("Yard.bridge",O.S7),("Yard.has_tie",O.TX),("Yard.deed",O.S9),("Yard.tick_of",O.TD),("Yard.come",O.S8),("Yard.take_off",O.TC),("Yard.fall_of_bridge",O.TZ),("Yard.fall_of_tie",O.TY),("Yard.back_of_bridge",O.S5),("Yard.back_of_tie",O.S6),("Yard.set_ties_of",O.TU),("Yard.set_tie",O.TN)]:List<|String×O.Fn).lookup f)
instance:O.Al pg:=by constructor<;>rfl
variable {α:Type} {p:List α->Prop}
def ar1(h:∀a0,p [a0])(us:List α)(e:us.length=1):p us:=match us,e with|[a0],_=>h a0
def ar2(h:∀a0 a1,p [a0,a1])(us:List α)(e:us.length=2):p us:=match us,e with|[a0,a1],_=>h a0 a1
def ar3(h:∀a0 a1 a2,p [a0,a1,a2])(us:List α)(e:us.length=3):p us:=match us,e with|[a0,a1,a2],_=>h a0 a1 a2
def ar4(h:∀a0 a1 a2 a3,p [a0,a1,a2,a3])(us:List α)(e:us.length=4):p us:=match us,e with|[a0,a1,a2,a3],_=>h a0 a1 a2 a3
def ar5(h:∀a0 a1 a2 a3 a4,p [a0,a1,a2,a3,a4])(us:List α)(e:us.length=5):p us:=match us,e with|[a0,a1,a2,a3,a4],_=>h a0 a1 a2 a3 a4
variable {P:String->Ds->Prop}
def mc{f:String}{x:Ds}{l:List (String×Ds)}(h:P f x)(k:∀g y,(g,y)∈l->P g y):∀g y,(g,y)∈(f,x)::l->P g y:=λg y m=>by
 rcases Æ.mp m with e|m
 .cases e;exact h
 .exact k g y m
def mn:∀g y,(g,y)∈([]:List<|String×Ds)->P g y:=λ_ _ m=>nomatch m
def GB:∀f x,(f,x)∈tb.fs.drop 24->x.Ok tb:=by
 iterate 3 refine mc ⟨by kernel_rfl,by kernel_rfl⟩ ?_
 exact mn
def FI:∀f x,(f,x)∈tb.fs.drop 12->x.Ok tb:=by
 iterate 12 refine mc ⟨by kernel_rfl,by kernel_rfl⟩ ?_
 exact GB
def tab_ok:∀f x,(f,x)∈tb.fs->x.Ok tb:=by
 iterate 12 refine mc ⟨by kernel_rfl,by kernel_rfl⟩ ?_
 exact FI
def tab_pg:∀f x,(f,x)∈tb.fs->pg f=eM x.d:=by repeat first|exact mn|refine mc rfl ?_
def tab_bd:∀f x,(f,x)∈tb.fs->Hd.Bd (gD f) (gD f) x:=by repeat first|exact mn|refine mc (λ_ _ _ _ _ _=>(by first|exact ar1 λ_=>rfl|exact ar2 λ_ _=>rfl|exact ar3 λ_ _ _=>rfl|exact ar4 λ_ _ _ _=>rfl|exact ar5 λ_ _ _ _ _=>rfl)) ?_
def md{P:α->Prop}{x:α}{l:List α}(h:P x)(k:∀y,y∈l->P y):∀y,y∈x::l->P y:=λy m=>by
 rcases Æ.mp m with e|m
 .cases e;exact h
 .exact k y m
def me{P:α->Prop}:∀y,y∈([]:List α)->P y:=λ_ m=>nomatch m
def GM:∀y,y∈tb.ms.drop 24->y.x.Ok tb:=by
 iterate 5 refine md ⟨by kernel_rfl,by kernel_rfl⟩ ?_
 exact me
def Gw:∀y,y∈tb.ms.drop 12->y.x.Ok tb:=by
 iterate 12 refine md ⟨by kernel_rfl,by kernel_rfl⟩ ?_
 exact GM
def tab_om:∀y,y∈tb.ms->y.x.Ok tb:=by
 iterate 12 refine md ⟨by kernel_rfl,by kernel_rfl⟩ ?_
 exact Gw
def tab_pm:∀y,y∈tb.ms->pg (y.C ++ "." ++ y.m)=eM y.x.d:=by repeat first|exact me|refine md rfl ?_
def tab_bm:∀y,y∈tb.ms->Hd.Bd (gD y.m) (gD y.qual) y.x:=by repeat first|exact me|refine md (λ_ _ _ _ _ _=>(by first|exact ar1 λ_=>rfl|exact ar2 λ_ _=>rfl|exact ar3 λ_ _ _=>rfl|exact ar4 λ_ _ _ _=>rfl|exact ar5 λ_ _ _ _ _=>rfl)) ?_
def law_in:("law",x26)∈tb.fs:=ô (i:=26) rfl
noncomputable abbrev pr:Program:=PySem.Challenge.rw_shutways_k28_whole_letters_tell_labels.row.prog
noncomputable abbrev vw:Program:=PySem.W.view pr [0,2,3,5,7,8,10,11,12,13,14,15,16,18,20,22,23,24,26,27,28,29,30,31,32,33,34,35,36,37,38,39,40,41,42,43,44,45,46]
noncomputable abbrev xt(s:Shared):Bool:=xlAt vw [] s&&recOk (RowW.records PySem.Challenge.rw_shutways_k28_whole_letters_tell_labels.row.toRowW) s
def said:PySem.Challenge.rw_shutways_k28_whole_letters_tell_labels.wellSaid=eP:=by rw[Fast.te9446332074065402090];kernel_rfl
def l1:∀w os,(Hd.runY pr 12000 w os).map (Hd.stY pr w)=eM eP:=λw os=>by kernel_rfl
def l2:∀w os,(Hd.runY pr 12000 w os).map (λs=>Hd.seenY vw [] (Hd.modsY pr.main.body) xt eP s.abs)=eM (openGood vw []):=λw os=>by kernel_rfl
def l3:∀w os,(Hd.runY pr 12000 w os).map (λs=>(Hd.hook tb).obs s.abs)=eM ((Hd.hook tb).val w):=λw os=>by kernel_rfl
def left:LeftO pr vw [] xt (Hd.hook tb).obs (Hd.hook tb).val 12000:=Hd.left_of (by kernel_rfl) rfl (λs=>by kernel_rfl) l1 l2 l3
end My
open PySem PySem.W PyProof.Rows
theorem PySem.Challenge.cw_shutways_k28_whole_letters_tell_labels_holds : PySem.Challenge.rw_shutways_k28_whole_letters_tell_labels.Holds := by
 refine holds_law My.said λsaid=>?_;refine holds_open (q:=My.vw) (loose:=[]) (Xt:=My.xt) (XP:=XL My.vw []) (YP:=(Hd.hook My.tb).says) My.left (Hook.of _) (Hook.keeps _) (λs e=>xl_of s (ŭ.mp e).1) XL.keeps (by rfl) (by rfl) (by rfl) (λs e=>recFacts_of (ŭ.mp e).2) (by rfl) said (by decide +kernel) ⟨rfl,rfl,rfl,rfl,rfl,by decide +kernel⟩ ?hw ?hc
 case hw=>w_on;w_witness2
 case hc=>exact Hd.law_walk (k:=7) rfl rfl rfl ⟨rfl,by decide,by decide⟩ My.law_in rfl rfl My.tab_pg My.tab_pm My.tab_ok My.tab_om My.tab_bd My.tab_bm λns hl=>O.law_ok (n:=0) hl λ_=>rfl
