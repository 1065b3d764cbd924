import PyProof.Rows.All
import Wide.All
import OpenK.AllK
import Wide.FinOn
import PyProof.EqAt
import PyProof.EqKinds
import PyProof.TupleCall
import Lean
import PySem.Challenge.RW_shutways_k31_open_ways_told
set_option Elab.async false
set_option bootstrap.genMatcherCode false
set_option compiler.extract_closed false
set_option genSizeOf false
local macro_rules|`(command|def $x:declId $b:bracketedBinder*:$t $v:declVal)=>`(command|theorem $x:declId $b:bracketedBinder*:$t $v:declVal)
local macro_rules|`(command|abbrev $x:declId $s:optDeclSig $v:declVal)=>`(command|noncomputable def $x:declId $s:optDeclSig $v:declVal)
set_option linter.all false
set_option maxRecDepth 100000
open PySem.Str renaming ofString->gg
open Decidable renaming decide->gf
open Option renaming some->eh, none->ei
open Bool renaming true->ej, false->ez
open PySem.W (Frag)
open Array renaming length_toList->î, getElem?_eq_getElem->ö, getElem?_toList->ą, getElem?_eq_some_iff->ĸ, getD->ι, getElem?_eq_none->Ρ, toList->bH, append_assoc->cR, toList_push->dA, toList_inj->dZ
open Bool renaming false_ne_true->ü, false_eq_true->ħ, not_eq_true'->ŗ, and_true->Ζ, and_eq_true_iff->Ϛ, or_false->Ϫ, not_not->aa, false_xor->aU
open Char renaming toNat->Ō
open False renaming elim->ģ
open ForInStep renaming yield->ĺ
open Function renaming comp_apply->bJ
open Int renaming toNat_natCast->á, emod_lt_of_pos->ω, emod_nonneg->ϒ, natCast_nonneg->ee
open List renaming length_map->Ã, mem_cons->Ç, mem_append_right->É, getElem?_eq_getElem->Ê, length_cons->Ë, size_toArray->Í, map_cons->Ï, getElem?_eq_some_iff->Ð, getElem?_map->Ò, replicate->Õ, mem_append_left->Ö, mem_map->Ú, mem_cons_of_mem->Ü, not_mem_nil->Þ, map_append->ß, mem_singleton->â, mem_append->å, nodup_append->æ, length_append->ê, mem_cons_self->ì, lookup_cons->ï, length_replicate->ð, all_eq_true->ò, map_map->õ, getD_eq_getElem?_getD->ý, mem_map_of_mem->ÿ, append_nil->Ā, take_length->ā, mem_of_getElem?->ă, contains_iff_mem->Ć, nodup_cons->ć, getElem?_append_left->Ċ, replicate_succ->ċ, getElem?_append_right->ď, filterMap_cons->Ē, mem_filter->Ĕ, find?_cons->Ė, map_inj_left->Ĝ, map_congr_left->ğ, length_take->ĥ, filter_cons->Ĩ, nodup_nil->Į, append_assoc->ı, length_nil->Ĳ, any_cons->ķ, getElem?_eq_none->Ļ, foldl_cons->Ŀ, flatten_cons->ł, getElem?_replicate->Ň, zip_cons_cons->ŋ, drop_eq_nil_of_le->Ŏ, length_mergeSort->Œ, length_range->ŕ, getElem_mem->Ŝ, mem_flatMap->Ş, mergeSort_perm->Š, filter_sublist->š, mem_range->ū, take_add_one->ŭ, flatMap_cons->Ů, length_filter_le->ų, getElem?_set_ne->ź, lookup->Ż, mem_filterMap->μ, zip_nil_right->ν, filterMap_map->ξ, mapM_cons->ο, drop_eq_getElem_cons->Γ, zip_nil_left->Δ, reverse_cons->Ε, length_drop->Ν, length_eq_zero_iff->Ξ, getElem?_set_self->Υ, map_nil->Ψ, filterMap_eq_map'->ό, length_set->ϐ, length_take_le'->ϛ, map_id->Ϝ, take_succ_cons->ϧ, flatMap_append->Ϩ, set_cons_succ->Ϭ, set_cons_zero->ϭ, length_filter_eq_length_iff->ac, any_eq_true->ak, eq_nil_of_length_eq_zero->ap, of_mem_zip->aF, perm_ext_iff_of_nodup->aV, length_eraseIdx_of_lt->aX, getElem?_eq_none_iff->a9, length_filterMap_le->bx, length_erase_of_mem->bC, pairwise_mergeSort->bI, length_eraseIdx_le->bK, pairwise_lt_range->bT, take_of_length_le->bV, length_singleton->ce, dropLast_eq_take->cq, mem_iff_getElem?->cr, set_append_left->cK, pairwise_append->cL, length_pos_iff->cZ, foldl->dn, pairwise_cons->dz, getElem_range->dC, append_of_mem->dD, filter_append->dF
open List.Sublist renaming refl->Ţ
open Nat renaming le_refl->Ì, lt_of_le_of_lt->Ø, le_trans->Ý, lt_of_lt_of_le->ã, ne_of_lt->ä, lt_irrefl->ě, lt_succ_self->ĭ, zero_le->į, lt_succ_of_lt->ĳ, le_succ->Ń, ne_of_gt->ş, lt_trans->Ű, le_of_lt->η, succ_le_succ->Ο, zero_add->ϑ, min_le_right->am, min_eq_left->aR, mul_comm->cf, mul_le_mul_left->du
open Option renaming map_eq_some_iff->Î, bind_eq_some_iff->é, isSome_iff_exists->ø, bind_some->ú, map_some->ō, isSome_map->ϫ, not_isSome_iff_eq_none->af, isNone_iff_eq_none->aL, toList_none->cM, getD_none->dm
open Option.some renaming inj->í, injEq->ĩ
open Prod.mk renaming injEq->ψ
open PyProof.Rows renaming IntsAre->ù, step_dedup->Ŗ, firstMet->Ÿ, kindOf->ρ, seqObj->Η, AllBare->Τ, envOfC->ϯ, IsTup->ah, firstMet_length_le->aq, Constant_none->cS, subscriptTail->cV, subscriptTail_builtinR->dW
open PySem renaming wpAny_bind->À, Value->Â, Shared->Å, wpAny_pure->Æ, Addr->È, starEach->Ô, sizeLine->Ù, model->Û, Program->à, compareOp->è, World->ó, wpAny_newObj_type->þ, Heap->Ă, Around->Ą, mainGlobals->Ĉ, wpAny_call_entry->ĉ, wpAny_truthy_bool->Ď, wpAny_callSpecial?_slot->Đ, wpAny_mono->ē, foldedSetIterable->ĕ, wpAny_holding->ė, wpAny_loadPart'->Ę, assignEach->ę, backTo->ĝ, rawInt->Ğ, attributeBase->Ġ, cLine->Ĥ, wpAny_field->Ħ, codeAny_builtin->Ī, wpAny_ite_split->ī, wpAny_Call_Name_kw->İ, wpAny_setField->Ĵ, argBest->ĵ, behindInMarks->ļ, Stmt->Ľ, wpAny_seqItems->ŀ, binaryOp->ń, FuncData->Ņ, keywordEach->ņ, plainId_quiet->ň, holding->Ŋ, sysModules->œ, intKind->Ŕ, wpAny_setState_of->ŝ, bootBuiltins->ţ, wpAny_askSetting->Ť, PyData->Ŧ, wpAny_setEntries_of->ŧ, SetTable->Ū, tupleKind_room_in1->ű, swapsWith->Ų, pyNext->ŵ, codeAny_mono->Ŷ, backToKw->ŷ, firstArgMember->Ź, Scope->ż, builtinLookup_eq_fast->Ž, assign->ž, sliceBounds->θ, wpAny_passesOwn->π, wpAny_updateSeq->χ, wpAny_rule->Θ, wpAny_tryCatch->Κ, isSubtype_type->Λ, standAt->Χ, wpAny_pyIter_list->Ω, swapsWithSole->ώ, swappedStores->Ϗ, Operator->ϓ, getMethod->ϔ, NameKind->ϕ, seqItems?->ϖ, wpAny_isInstance->Ϙ, getItem->ϝ, IsPart->Ϟ, wpAny_typeOf->ϟ, valueAt->Ϡ, argsOk->ϡ, call_meetsIn->Ϣ, setsByText->ϣ, letOwnedTupleGo->ϥ, typeLookup_type->Ϧ, sizeLine_eq->Ϯ, wpAny_of_eq->ϰ, wpAny_fieldsOf->ϲ, unsupported->ϳ, tupleKind->ϵ, PassesOwn->Ϸ, callerA->ϸ, scanBound->ab, intBits_le_64->ai, wpAny_attempt->aj, wpAny_pyIter_tuple->ao, setItem->aI, seqIndex_neg->aJ, Keyword->aK, wpAny_pyIter_slot->aM, fits_of_scanBound->aO, lastMarks->bb, Result->bc, noFill_tuple_add->bd, noteFrame->be, seqIndex_of->bw, wpAny_letGo->bA, relabel->bP, GenState->bY, isTrue->bZ, CmpOp->b6, pyIter->b7, callWith->b9, call_meets->cb, newExc->cg, isSubtype_stop->cj, evalEach->ck, atKey->cp, entryFor->cu, entryFor_alias->cx, methodCallForm->cz, wpAny_standAt->cT, seq_tuple_add->cU, wpAny_comprehension_free->cW, wpAny_handled->cX, wpAny_newList->cY, bindC->dk, field->dq, updateSeq->dy, drawOrder->dB, release->dQ, richCompare_meets_room->dR, concat_meets->dU, wpAny_getItem_list_neg->dX
open PySem.Around renaming under_plainId->č, under->bu
open PySem.Builtin renaming iter->ũ
open PySem.Builtin.Frozenset renaming sizeOf->cy
open PySem.Builtin.Str renaming strSliceIndices->υ
open PySem.Code renaming isFrame->bO
open PySem.FuncData.mk renaming injEq->bB
open PySem.Heap renaming get?_push_of_some->Ä, get?_push_size->Ñ, lt_size->Ó, get?_update_other->ë, get?_update_self->Č, SameBut->ś, size_push->Ŭ, LeftW->dr
open PySem.Heap.SameBut renaming update->û
open PySem.NameKind renaming free->ġ, cell->dY
open PySem.Obj renaming data_mapFields->ŏ, mapSeq->ς, mapFields->Ι, isFreed_of_fields->ϗ, cls_mapFields->ae, putSet->d7
open PySem.PyData renaming eqv->Ģ, depthAll->ľ, canLayAll0->Ő, canLay0->Ũ, eqvAll->Β
open PySem.SetTable renaming below->Ķ, grown->ϋ, has->aW, orStandIn->bU, slot->d6
open PySem.SetTable.below renaming go->aN
open PySem.SetTable.probe renaming go->ϊ
open PySem.Value renaming notImplemented->ca
open PySem.Value.type renaming inj->Ϲ
open PySem.W renaming boot_heap->ť, findIn->ϱ, boot_drawn->au, SharedT->aQ, boot_toks->bf, mg_of->cA, nsIn->d8, kitOne->d9
open PySem.pickOrder renaming go->aP
open String renaming ofList->Α, singleton->Ϻ, length_toList->bQ, toList_ofList->bR, length_append->bS
open UInt32.toNat renaming inj->bz
def bAq(a b:Bool):((a&&b)=ej)=(a=ej/\b=ej):=Bool.and_eq_true a b
abbrev f6:=@if_pos
abbrev f7:=@if_neg
abbrev f8:=@decide_eq_false
abbrev f9:=@decide_eq_true
abbrev gb:=@decide_eq_true_eq
@[reducible] noncomputable def gc:=@absurd
namespace L2
open PySem PySem.Spec PyProof.Rows
noncomputable abbrev Key:=Sum Int Str
abbrev W9:Key->Â->Bool
 |.inl k,v=>Value.isInt k v
 |.inr x,v=>Value.isStrOf x v
abbrev QZ(w:ó):Key->Int
 |.inl k=>hashInt k
 |.inr x=>hashStr w x
def Zm:∀{k:Key}{v:Â},W9 k v=ej->(∃i t,k=Sum.inl i/\v=Value.int i t)\/(∃x t,k=Sum.inr x/\v=Value.str x t)
 |.inl i,v,h=>by obtain⟨t,e⟩:=Value.isInt_shape (k:=i) (v:=v) h;exact .inl ⟨i,t,rfl,e⟩
 |.inr x,v,h=>by obtain⟨t,e⟩:=Value.isStrOf_shape (x:=x) (v:=v) h;exact .inr ⟨x,t,rfl,e⟩
def Av(i:Int)(t:Tok):W9 (.inl i) (.int i t)=ej:=by simp[W9,Value.isInt]
def UX(x:Str)(t:Tok):W9 (.inr x) (.str x t)=ej:=by simp[W9,Value.isStrOf]
def HE(a b:Int):gf ((Sum.inl a:Key)=Sum.inl b)=(a==b):=by
 by_cases e:a=b
 .subst e;simp
 .have h:¬ (Sum.inl a:Key)=Sum.inl b:=λq=>e<|Sum.inl.inj q;rw[f8 h];exact(beq_eq_false_iff_ne.mpr e).symm
def Hz(a b:Str):gf ((Sum.inr a:Key)=Sum.inr b)=gf (a=b):=by
 by_cases e:a=b
 .subst e;simp
 .have h:¬ (Sum.inr a:Key)=Sum.inr b:=λq=>e<|Sum.inr.inj q;rw[f8 h,f8 e]
def Io(a:Int)(b:Str):gf ((Sum.inl a:Key)=Sum.inr b)=ez:=f8 (λq=>nomatch q)
def HD(a:Str)(b:Int):gf ((Sum.inr a:Key)=Sum.inl b)=ez:=f8 (λq=>nomatch q)
abbrev Ze(prog:à)(w:ó):PySem.KeyKind prog w Key where
 is:=W9
 hash:=QZ w
 inj:=λv a b ha hb=>by
  rcases Zm ha with⟨i,t,rfl,rfl⟩|⟨x,t,rfl,rfl⟩
  .rcases Zm hb with⟨j,u,rfl,e⟩|⟨y,u,rfl,e⟩
   .injection e with e1 _;rw[e1]
   .exact nomatch e
  .rcases Zm hb with⟨j,u,rfl,e⟩|⟨y,u,rfl,e⟩
   .exact nomatch e
   .injection e with e1 _;rw[e1]
 byValue:=λk v h=>by rcases Zm h with⟨i,t,rfl,rfl⟩|⟨x,t,rfl,rfl⟩<;>rfl
 pyHash:=λhv h=>by
  rcases Zm hv with⟨i,t,rfl,rfl⟩|⟨x,t,rfl,rfl⟩
  .exact wpAny_pyHash_int h
  .exact wpAny_pyHash_str h
 eqBool:=λhu hv h=>by
  rcases Zm hu with⟨i,t,rfl,rfl⟩|⟨x,t,rfl,rfl⟩
  .rcases Zm hv with⟨j,u,rfl,rfl⟩|⟨y,u,rfl,rfl⟩
   .rw[HE]at h;exact wpAny_eqBool_int h
   .rw[Io]at h;exact SeqAt.EqAt.int_str i t y u _ _ _ _ h
  .rcases Zm hv with⟨j,u,rfl,rfl⟩|⟨y,u,rfl,rfl⟩
   .rw[HD]at h;exact SeqAt.EqAt.str_int x t j u _ _ _ _ h
   .rw[Hz]at h;exact wpAny_eqBool_str h
 «strs»:=λk x t v h=>by
  rcases Zm h with⟨i,u,rfl,e⟩|⟨y,u,rfl,e⟩
  .exact nomatch e
  .injection e with e1 _;subst e1;cases v<;>rfl
def NB(prog:à)(w:ó)(i:Int)(t:Tok):(Ze prog w).is (.inl i) (.int i t)=ej:=Av i t
def Nl(prog:à)(w:ó)(x:Str)(t:Tok):(Ze prog w).is (.inr x) (.str x t)=ej:=UX x t
inductive V where
 |non|bl (b:Bool)|int (i:Int)|str (x:Str)|byt (b:Array UInt8)|flt (b:UInt64)|ref (a:È)|ty (n:String)
 deriving DecidableEq
abbrev RelV:V->Â->Prop
 |.non,u=>u=Value.none
 |.bl b,u=>u=Value.bool b
 |.int i,u=>∃t,u=Value.int i t
 |.str x,u=>∃t,u=Value.str x t
 |.byt b,u=>∃t,u=Value.bytes b t
 |.flt b,u=>∃t,u=Value.float b t
 |.ref a,u=>u=Value.ref a
 |.ty n,u=>u=Value.type n
@[reducible] noncomputable def fS:List V->List Â->Prop:=Paired RelV
def fS.length{xs:List V}{us:List Â}(r:fS xs us):xs.length=us.length:=Paired.length r
def fS.get:∀{xs:List V}{us:List Â}{i:Nat}{x:V},fS xs us->xs[i]?=eh x->∃u,us[i]?=eh u/\RelV x u
 |_,_,_,_,.nil,e=>by simp at e
 |_,_,0,_,.cons r _,e=>by simp at e;subst e;exact⟨_,rfl,r⟩
 |_,_,i+1,x,.cons _ t,e=>by obtain⟨u,h1,h2⟩:=fS.get (i:=i) (x:=x) t (by simpa using e);exact⟨u,by simpa using h1,h2⟩
def fS.set{x:V}{u:Â}(r:RelV x u):∀{xs:List V}{us:List Â}(i:Nat),fS xs us->fS (xs.set i x) (us.set i u)
 |_,_,_,.nil=>.nil
 |_,_,0,.cons _ t=>.cons r t
 |_,_,i+1,.cons q t=>.cons q<|fS.set r i t
def fS.append:∀{xs ys:List V}{us ws:List Â},fS xs us->fS ys ws->fS (xs++ys) (us++ws)
 |_,_,_,_,.nil,s=>s
 |_,_,_,_,.cons r t,s=>.cons r<|fS.append t s
def fS.take:∀{xs:List V}{us:List Â}(n:Nat),fS xs us->fS (xs.take n) (us.take n)
 |_,_,0,_=>.nil
 |_,_,_+1,.nil=>.nil
 |_,_,n+1,.cons r t=>.cons r<|fS.take n t
def fS.drop:∀{xs:List V}{us:List Â}(n:Nat),fS xs us->fS (xs.drop n) (us.drop n)
 |_,_,0,r=>r
 |_,_,_+1,.nil=>.nil
 |_,_,n+1,.cons _ t=>fS.drop n t
def fS.none_of:∀{xs:List V}{us:List Â}{i:Nat},fS xs us->xs[i]?=ei->us[i]?=ei:=λ{xs us i} r e=>by have h1:=r.length;have h2:xs.length<=i:=a9.mp e;exact a9.mpr (by lia)
abbrev fi:Option V->Option Â->Prop
 |some v,eh u=>RelV v u
 |none,ei=>True
 |_,_=>False
abbrev KV{κ:Type}:List (κ×V)->List (κ×Â)->Prop:=Paired λ(p:κ×V) (q:κ×Â)=>p.1=q.1/\RelV p.2 q.2
abbrev kV:Key->V
 |.inl i=>.int i
 |.inr x=>.str x
inductive HO where
 |lst (xs:List V)
 |tup (xs:List V)
 |dK (kvs:List<|Key×V)|dT (kvs:List<|List Key×V)
 |set (S:Int->Bool) (n:Nat)
 |ins (C dx:È) (fs:List<|Str×V)
 |own (x:È)
 |xd (fs:List<|Str×V)
 |met (f x:È)
 |rng (lo hi:Int)
 |frz (o:Obj) (u:HO)
 |tbl (ps:Array Â)
 |ext (φ:Ă->Prop)
noncomputable abbrev Hp:=È->Option HO
abbrev upd(H:Hp)(a:È)(o:HO):Hp:=λb=>if b=a then eh o else H b
variable {H:Hp} {a:È} {o:HO}
def eC:upd H a o a=eh o:=by unfold upd;rw[f6 rfl]
variable {b:È}
def eB(h:b≠a):upd H a o b=H b:=by unfold upd;rw[f7 h]
variable {u:HO}
def eF:upd (upd H a o) a u=upd H a u:=by funext b;unfold upd;split<;>rfl
def Bc(h:H a=eh o)(h':H b=eh u)(d:o≠u):a≠b:=by intro e;subst e;rw[h]at h';exact d (í h')
def Zg(h:H a=eh o)(h':H b=ei):a≠b:=by intro e;subst e;rw[h]at h';cases h'
section
variable (P:à) (w:ó)
abbrev eQ(H:Hp)(h:Ă)(a:È):HO->Prop
 |.lst xs=>xs.length<=Ù/\∃(ñ:List Â) (n:Nat),fS xs ñ/\h.get? a=eh {cls:=.type "list",data:=.seq ñ.toArray n}
 |.tup xs=>xs.length<=Ù/\∃ñ:List Â,fS xs ñ/\ah h a ñ.toArray
 |.dK kvs=>kvs.length<=Ù/\(a==œ)=ez/\∃vs,KV kvs vs/\h.DictOf (Ze P w) a vs
 |.dT kvs=>kvs.length<=Ù/\(a==œ)=ez/\∃xs:List<|List Key×È×Â,
   Paired (λ(p:List Key×V) (q:List Key×È×Â)=>p.1=q.1/\H q.2.1=eh (.tup<|p.1.map kV)/\RelV p.2 q.2.2) kvs xs/\
   ∃o es ep,h.get? a=eh o/\o.ExactDict/\o.data=.dict es ep/\es.toList=xs.map (entryOfKey<|ϵ<|Ze P w)/\(xs.map (·.1)).Nodup
 |.set S n=>h.SetOf (Ŕ P w) a S n
 |.ins C dx fs=>H dx=eh (.own a)/\fs.length<=1000/\dx≠a/\h.get? a=eh (PySem.W.instObj C dx)/\
   ∃mA,h.Ns1 dx mA/\(∀f,fi (fs.lookup f)<|mA f)/\PySem.Within mA (fs.map (·.1))
 |.own _=>∃o,h.get? a=eh o
 |.xd fs=>∃mA,h.Ns1 a mA/\∀f,fi (fs.lookup f) (mA f)
 |.rng lo hi=>∃t u v,h.get? a=eh {cls:=.type "range",data:=.fields #[.int lo t,.int hi u,.int 1 v]}
 |.frz o u=>h.get? a=eh o/\eQ H h a u
 |.tbl ps=>h.get? a=eh {cls:=.none,data:=.fields ps}
 |.met f x=>h.get? a=eh (PySem.W.methodObj (.ref f)<|.ref x)
 |.ext φ=>φ h/\(∃o,h.get? a=eh o)/\∀h1 h2:Ă,φ h1->(∀o,h1.get? a=eh o->h2.get? a=eh o)->φ h2
abbrev HOk(H:Hp)(h:Ă):Prop:=∀a o,H a=eh o->eQ P w H h a o
end
section
variable {P:à}{w:ó}{H H':Hp}{h h':Ă}{a:È}{o:HO}
def eQ.lt(x:eQ P w H h a o):a<h.objs.size:=by
 cases o with
 |lst xs=>obtain⟨_,_,_,_,e⟩:=x;exact Ó e
 |tup xs=>obtain⟨_,_,_,p⟩:=x;exact p.lt
 |dK kvs=>obtain⟨_,_,_,_,o,_,_,e,_⟩:=x;exact Ó e
 |dT kvs=>obtain⟨_,_,_,_,o,_,_,e,_⟩:=x;exact Ó e
 |set S n=>obtain⟨o,_,_,_,e,_⟩:=x;exact Ó e
 |ins C dx fs=>obtain⟨_,_,_,e,_⟩:=x;exact Ó e
 |own y=>obtain⟨_,e⟩:=x;exact Ó e
 |xd fs=>obtain⟨_,⟨_,_,_,e,_⟩,_⟩:=x;exact Ó e
 |rng lo hi=>obtain⟨_,_,_,e⟩:=x;exact Ó e
 |frz ob u=>obtain⟨e,_⟩:=x;exact Ó e
 |tbl ps=>exact Ó (show h.get? a=eh _ from x)
 |met f y=>exact Ó (show h.get? a=eh _ from x)
 |ext φ=>obtain⟨_,⟨_,e⟩,_⟩:=x;exact Ó e
def Paired.mapP{α β:Type}{F G:α->β->Prop}:∀{l₁:List α}{l₂:List β},Paired F l₁ l₂->(∀a b,F a b->G a b)->Paired G l₁ l₂
 |_,_,.nil,_=>.nil
 |_,_,.cons r t,f=>.cons (f _ _ r)<|Paired.mapP t f
def eQ.stay(x:eQ P w H h a o)(k:∀b u,(b=a\/H b=eh (.own a))->h.get? b=eh u->h'.get? b=eh u)
  (ho:∀b,H b=eh (.own a)->H' b=eh (.own a)) (ht:∀b xs,H b=eh (.tup xs)->H' b=eh (.tup xs)):eQ P w H' h' a o:=by
 induction o with
 |lst xs=>obtain⟨z,ñ,n,r,e⟩:=x;exact⟨z,ñ,n,r,k _ _ (.inl rfl) e⟩
 |tup xs=>obtain⟨z,ñ,r,ob,e,c⟩:=x;exact⟨z,ñ,r,ob,k _ _ (.inl rfl) e,c⟩
 |dK kvs=>obtain⟨z,y,vs,r,ob,es,ep,e,c⟩:=x;exact⟨z,y,vs,r,ob,es,ep,k _ _ (.inl rfl) e,c⟩
 |dT kvs =>obtain⟨z,y,xs,r,ob,es,ep,e,c⟩:=x;exact⟨z,y,xs,Paired.mapP r λp q z=>⟨z.1,ht _ _ z.2.1,z.2.2⟩,ob,es,ep,k _ _ (.inl rfl) e,c⟩
 |set S n=>obtain⟨ob,es,ep,t,e,c⟩:=x;exact⟨ob,es,ep,t,k _ _ (.inl rfl) e,c⟩
 |ins C dx fs =>obtain⟨d,z,ne,e,mA,⟨od,es,ep,e2,c⟩,r⟩:=x;exact⟨ho _ d,z,ne,k _ _ (.inl rfl) e,mA,⟨od,es,ep,k _ _ (.inr d) e2,c⟩,r⟩
 |own y=>obtain⟨ob,e⟩:=x;exact⟨ob,k _ _ (.inl rfl) e⟩
 |xd fs=>obtain⟨mA,⟨od,es,ep,e,c⟩,r⟩:=x;exact⟨mA,⟨od,es,ep,k _ _ (.inl rfl) e,c⟩,r⟩
 |rng lo hi=>obtain⟨t,u,v,e⟩:=x;exact⟨t,u,v,k _ _ (.inl rfl) e⟩
 |frz ob u ih=>obtain⟨e,q⟩:=x;exact⟨k _ _ (.inl rfl) e,ih q⟩
 |tbl ps =>have e:h.get? a=eh {cls:=.none,data:=.fields ps}:=x;show h'.get? a=eh {cls:=.none,data:=.fields ps};exact k a _ (.inl rfl) e
 |met f y =>have e:h.get? a=eh (PySem.W.methodObj (.ref f)<|.ref y):=x;show h'.get? a=eh (PySem.W.methodObj (.ref f)<|.ref y);exact k a _ (.inl rfl) e
 |ext φ=>obtain⟨p,⟨o,e⟩,st⟩:=x;exact⟨st _ _ p λo q=>k _ _ (.inl rfl) q,⟨o,k _ _ (.inl rfl) e⟩,st⟩
def HOk.lt(x:HOk P w H h)(e:H a=eh o):a<h.objs.size:=(x a o e).lt
def HOk.fresh(x:HOk P w H h)(e:h.objs.size<=a):H a=ei:=by
 cases q:H a with
 |none=>rfl
 |some u=>exact gc (ã (x.lt q) e)<|ě _
def HOk.kept(x:HOk P w H h)(k:∀b u,h.get? b=eh u->h'.get? b=eh u):HOk P w H h':=λa o e =>
 (x a o e).stay (λb u _ q=>k b u q) (λ_ q=>q) λ_ _ q=>q
def HOk.laid(x:HOk P w H h)(k:∀b u,h.get? b=eh u->h'.get? b=eh u)(hp:h.objs.size<=a)(new:eQ P w (upd H a o) h' a o):HOk P w (upd H a o) h':=λb u e=>by
 have hn:=x.fresh hp;by_cases hb:b=a
 .subst hb;rw[eC]at e;cases e;exact new
 .rw[eB hb]at e;exact(x b u e).stay (λc v _ q=>k c v q) (λc q=>by rw[eB<|Zg q hn];exact q) λc xs q=>by rw[eB<|Zg q hn];exact q
end
abbrev Rd(H:Hp)(a:È)(u:HO):Prop:=H a=eh u\/∃o,H a=eh (.frz o u)
def Rd.of(h:H a=eh u):Rd H a u:=.inl h
variable {h:Ă}
def Rd.ok{P:à}{w:ó}(r:Rd H a u)(x:HOk P w H h):eQ P w H h a u:=by
 rcases r with r|⟨o,r⟩
 .exact x a u r
 .obtain⟨_,q⟩:=x a _ r;exact q
abbrev Mut:Option HO->Prop
 |some (.lst _)=>True
 |some (.dK _)=>True
 |some (.dT _)=>True
 |some (.set _ _)=>True
 |some (.ins _ _ _)=>True
 |some (.ext _)=>True
 |_=>False
section
variable {P:à}{w:ó}{H:Hp}{h h':Ă}{x e:È}{o':HO}
def HOk.write(ok:HOk P w H h)(mu:Mut<|H x)(he:e=x\/H e=eh (.own x))(k:∀b u,b≠e->h.get? b=eh u->h'.get? b=eh u)(heo:∃u,h'.get? e=eh u)
  (new:eQ P w (upd H x o') h' x o'):HOk P w (upd H x o') h':=λb u q=>by
 have nown:∀c y,H c=eh (.own y)->c≠x:=λc y r z=>by subst z;rw[r]at mu;exact mu
 have ntup:∀c xs,H c=eh (.tup xs)->c≠x:=λc xs r z=>by subst z;rw[r]at mu;exact mu
 by_cases hb:b=x
 .subst hb;rw[eC]at q;cases q;exact new
 .rw[eB hb]at q;by_cases hbe:b=e
  .have q':H b=eh (.own x):=by
    rcases he with z|z
    .exact gc (hbe.trans z) hb
    .rw[hbe];exact z
   rw[q]at q';cases q';obtain⟨v,hv⟩:=heo;exact⟨v,by rw[hbe];exact hv⟩
  .refine(ok b u q).stay (λc v hc r=>k c v ?_ r) (λc r=>by rw[eB<|nown c b r];exact r) λc xs r=>by rw[eB<|ntup c xs r];exact r
   rcases hc with rfl|hc
   .exact hbe
   .rintro rfl;rcases he with z|z
    .exact nown c b hc z
    .rw[hc]at z;cases z;exact hb rfl
end
structure Un(fs ex:List È)(H H':Hp)(h h':Ă):Prop where
 keep:∀b o,h.get? b=eh o->H b=ei->b∉fs->b∉ex->h'.get? b=eh o
 slot:∀b o,h.get? b=eh o->H b=ei->b∈fs->b∉ex->∃sl,h'.get? b=eh {o with slots:=sl}
 free:∀b o,h.get? b=eh o->H b=ei->b∉ex->H' b=ei
 there:∀b o,h.get? b=eh o->b∉ex->∃o',h'.get? b=eh o'
 tups:∀b xs,H b=eh (.tup xs)->H' b=eh (.tup xs)
 frzs:∀b o u,H b=eh (.frz o u)->H' b=eh (.frz o u)
 tbls:∀b ps,H b=eh (.tbl ps)->∃more,H' b=eh (.tbl<|ps++more)
section
variable {fs dG ex ex':List È}{H H1 H2:Hp}{h h1 h2 h':Ă}{a x e:È}{o:HO}
def Un.any(u:Un fs ex H H1 h h1){ob:Obj}(q:h.get? b=eh ob)(n:H b=ei)(hx:b∉ex):∃sl,h1.get? b=eh {ob with slots:=sl}:=by
 by_cases hb:b∈fs
 .exact u.slot b ob q n hb hx
 .exact⟨ob.slots,u.keep b ob q n hb hx⟩
def Un.trans(a:Un fs ex H H1 h h1)(b:Un fs ex H1 H2 h1 h2):Un fs ex H H2 h h2 where
 keep:=λc ob q n hc hx=>b.keep c ob (a.keep c ob q n hc hx) (a.free c ob q n hx) hc hx
 slot:=λc ob q n hc hx=>by obtain⟨sl,e1⟩:=a.slot c ob q n hc hx;obtain⟨sl',e2⟩:=b.slot c _ e1 (a.free c ob q n hx) hc hx;exact⟨sl',e2⟩
 free:=λc ob q n hx=>by obtain⟨o',e1⟩:=a.there c ob q hx;exact b.free c o' e1 (a.free c ob q n hx) hx
 there:=λc ob q hx=>by obtain⟨o',e1⟩:=a.there c ob q hx;exact b.there c o' e1 hx
 tups:=λc xs q=>b.tups c xs<|a.tups c xs q
 frzs:=λc ob xs q=>b.frzs c ob xs<|a.frzs c ob xs q
 tbls:=λc ps q=>by obtain⟨m1,e1⟩:=a.tbls c ps q;obtain⟨m2,e2⟩:=b.tbls c _ e1;exact⟨m1++m2,by rw[e2,cR]⟩
def Un.kept(k:∀b u,h.get? b=eh u->h'.get? b=eh u):Un fs ex H H h h' :=
 ⟨λb ob q _ _ _=>k b ob q,λb ob q _ _ _=>⟨ob.slots,k b ob q⟩,λ_ _ _ n _=>n,λb ob q _=>⟨ob,k b ob q⟩,λ_ _ q=>q,λ_ _ _ q=>q,λ_ ps q=>⟨#[],by rw[q];simp⟩⟩
def Un.refl:Un fs ex H H h h:=Un.kept λ_ _ q=>q
def Un.laid(k:∀b u,h.get? b=eh u->h'.get? b=eh u)(hp:h.objs.size<=a)(hn:H a=ei):Un fs ex H (upd H a o) h h' where
 keep:=λb u q _ _ _=>k b u q
 slot:=λb u q _ _ _=>⟨u.slots,k b u q⟩
 free:=λb u q n _=>by rw[eB<|ä<|ã (Ó q) hp];exact n
 there:=λb u q _=>⟨u,k b u q⟩
 tups:=λb xs q=>by rw[eB<|Zg q hn];exact q
 frzs:=λb u xs q=>by rw[eB<|Zg q hn];exact q
 tbls:=λb ps q=>⟨#[],by rw[eB<|Zg q hn,q];simp⟩
def Un.write(mu:Mut<|H x)(he:e=x\/H e=eh (.own x))(k:∀b u,b≠e->h.get? b=eh u->h'.get? b=eh u)(heo:∃u,h'.get? e=eh u):Un fs ex H (upd H x o) h h':=by
 have hx:∀b,H b=ei->b≠x:=λb n z=>by subst z;rw[n]at mu;exact mu
 have hb:∀b,H b=ei->b≠e:=λb n z=>by
  subst z;rcases he with r|r
  .exact hx b n r
  .rw[n]at r;cases r
 have hm:∀b u,H b=eh u->¬ Mut (eh u)->b≠x:=λb u q nm z=>by subst z;rw[q]at mu;exact nm mu
 refine⟨λb u q n _ _=>k b u (hb b n) q,λb u q n _ _=>⟨u.slots,k b u (hb b n) q⟩,λb u q n _=>by rw[eB<|hx b n];exact n,λb u q _=>?_,
   λb xs q=>by rw[eB<|hm b _ q λz=>z];exact q,λb u xs q=>by rw[eB<|hm b _ q λz=>z];exact q,λb ps q=>⟨#[],by rw[eB<|hm b _ q λz=>z,q];simp⟩⟩
 by_cases hbe:b=e
 .subst hbe;exact heo
 .exact⟨u,k b u hbe q⟩
def Un.mono(u:Un fs ex H H1 h h1)(hs:∀b∈fs,b∈dG)(hx:∀b∈ex,b∈ex'):Un dG ex' H H1 h h1 :=
 ⟨λb ob q n hb he=>u.keep b ob q n (λz=>hb<|hs b z) λz=>he<|hx b z,λ_ _ q n _ he=>u.any q n λz=>he<|hx _ z,λb ob q n he=>u.free b ob q n λz=>he<|hx b z,λb ob q he=>u.there b ob q λz=>he<|hx b z,u.tups,u.frzs,u.tbls⟩
end
abbrev trk(h:Ă)(H:Hp):List È:=(List.range h.objs.size).filter λa=>(H a).isSome
abbrev Mp(h:Ă)(H:Hp):Ă:=PySem.W.hideAll h<|trk h H
def U8(h:Ă)(H:Hp):(Mp h H).objs.size=h.objs.size:=PySem.W.hideAll_size _ _
def BA{o:Obj}(e:h.get? b=eh o)(n:H b=ei):(Mp h H).get? b=eh o :=
 PySem.W.hideAll_get _ e λhm=>by have q:(H b).isSome=ej:=(Ĕ.mp hm).2;rw[n]at q;simp at q
def F7{o:Obj}(e:(Mp h H).get? b=eh o):h.get? b=eh o/\H b=ei:=by
 have e':h.get? b=eh o:=PySem.W.of_hideAll (trk h H) e;refine⟨e',?_⟩;cases q:H b with
 |none=>rfl
 |some x =>have hm:b∈trk h H:=Ĕ.mpr ⟨ū.mpr<|Ó e',by simp[q]⟩;have z:(Mp h H).get? b=ei:=PySem.W.hideAll_none (trk h H) hm;rw[z]at e;cases e
abbrev Ei(g h:Ă)(L:È):List<|È×Obj:=(List.range h.objs.size).filterMap λa=>if a=L\/(g.get? a).isSome=ej then ei else(h.get? a).map λo=>(a,o)
abbrev rest(g h:Ă)(L d:È):List<|È×Obj:=(Ei g h L).filter λp=>gf (p.1≠d)
structure Mod(K:Frag)(mg:Str->Option Â)(base:Ă):Prop where
 kin:K.In base
 glob:base.Ns Ĉ mg
 blt:∃mb,base.Ns builtinsNs mb/\∀x:Str,x≠"__name__"->mb x=ţ x
 nolimit:base.NoLimit
structure Cx where
 prog:à
 w:ó
 K:Frag
 mg:Str->Option Â
 base:Ă
 A:Ą
 N:List Str
 s₀:Å
 H₀:Hp
 env:Env
 outer:List Env
 stack:List Env
 ex:List È
 fn:Str->Bool
 calm:Bool
 pn:List<|È×Obj
 xe:Â->Å->Prop
abbrev frs(l:List Env):List È:=l.filterMap (·.frame)
noncomputable abbrev Cx.fs(X:Cx):List È:=frs X.outer
abbrev Vis(sc:ż)(x:Str):Prop:=sc.names.lookup x=eh .local\/sc.names.lookup x=eh .cell\/sc.names.lookup x=eh .free
abbrev Loc(sc:ż)(x:Str):Prop:=sc.names.lookup x=eh .local\/sc.names.lookup x=eh .cell
abbrev Rh(env:Env)(h:Ă)(m:Str->Option Â)(x:Str)(u:Â):Prop :=
 (env.kindOf x=eh .local/\m x=eh u)\/((env.kindOf x=eh .cell\/env.kindOf x=eh .free)/\∃c,env.cells.lookup x=eh c/\h.IsCell c (eh u))
structure Cx.Ok(X:Cx):Prop where
 mod:Mod X.K X.mg X.base
 kind:X.env.scope.kind=.function
 glob:X.env.globals=Ĉ
 blt:X.env.builtins=builtinsNs
 above:X.s₀.heap.objs.size<=X.env.locals
 inj:∀x y c,X.env.cells.lookup x=eh c->X.env.cells.lookup y=eh c->x=y
 has:∀x,(X.env.kindOf x=eh .cell\/X.env.kindOf x=eh .free)->∃c,X.env.cells.lookup x=eh c
 cab:∀x c,X.fn x=ej->X.env.cells.lookup x=eh c->X.s₀.heap.objs.size<=c
 hd:X.calm=ej->X.A.handled=ei
 frames:X.A.frames=eh X.stack
 stk:X.stack=X.outer\/(X.stack=X.env::X.outer/\X.env.frame=eh X.env.locals)
 exf:∀b∈X.ex,b≠X.env.locals/\∀x c,X.env.cells.lookup x=eh c->c≠b
 bs:∀b o,X.base.get? b=eh o->X.s₀.heap.get? b=eh o/\X.H₀ b=ei
 bsz:X.base.objs.size<=X.s₀.heap.objs.size
 noex:∀b o,X.base.get? b=eh o->b∉X.ex
 exfs:∀b∈X.ex,b∉X.fs
 funs:X.s₀.heap.FunFrames X.base X.outer
 frf:∀b∈X.fs,X.H₀ b=ei
structure Inv(X:Cx)(Á:List<|È×Obj)(σ:List<|Option V)(H:Hp)(s:Å):Prop where
 ok:X.Ok
 os:s.os=X.s₀.os
 bare:Τ s.gens
 base:Un X.fs X.ex X.H₀ H X.s₀.heap s.heap
 loc:∃m,s.heap.Ns X.env.locals m/\∀(i:Nat) (x:Str) (v:V),X.N[i]?=eh x->σ[i]?=eh (eh v)->Vis X.env.scope x->∃u,RelV v u/\Rh X.env s.heap m x u
 cell:∀x c,X.env.cells.lookup x=eh c->∃v,s.heap.IsCell c v
 free:H X.env.locals=ei
 freeC:∀x c,X.env.cells.lookup x=eh c->H c=ei
 pin:∀p∈X.pn++Á,s.heap.get? p.1=eh p.2/\H p.1=ei/\p.1≠X.env.locals/\p.1∉X.fs/\∀v,p.2.data≠.cell v
 hok:HOk X.prog X.w H s.heap
 len:σ.length=X.N.length
section
variable {X:Cx}{Á:List (È×Obj)}{σ:List (Option V)}{H H':Hp}{s:Å}{h':Ă}
def Cx.Ok.nofr(ok:X.Ok){b:È}{o:Obj}(e:X.base.get? b=eh o):b∉X.fs:=λhb=>by have:=(ok.funs.mem hb).1;rw[e]at this;cases this
def Inv.bs(I:Inv X Á σ H s):∀b o,X.base.get? b=eh o->s.heap.get? b=eh o/\H b=ei:=λb o e =>
 ⟨I.base.keep b o (I.ok.bs b o e).1 (I.ok.bs b o e).2 (I.ok.nofr e)<|I.ok.noex b o e,I.base.free b o (I.ok.bs b o e).1 (I.ok.bs b o e).2<|I.ok.noex b o e⟩
def Inv.bk(I:Inv X Á σ H s):∀b o,X.base.get? b=eh o->s.heap.get? b=eh o:=λb o e=>(I.bs b o e).1
def Inv.mod(I:Inv X Á σ H s):Mod X.K X.mg X.base:=I.ok.mod
def Inv.kIn(I:Inv X Á σ H s):X.K.In s.heap:=I.ok.mod.kin.keeps I.bk
def Inv.nolimit(I:Inv X Á σ H s):s.heap.NoLimit:=I.ok.mod.nolimit.keeps I.bk
def Inv.fr(I:Inv X Á σ H s):∃m,Fr X.base X.env.locals s.heap m :=
 let ⟨m,hn,_⟩:=I.loc
 ⟨m,hn,I.bk,Ý I.ok.bsz I.ok.above⟩
def Inv.lt(I:Inv X Á σ H s):X.env.locals<s.heap.objs.size:=let ⟨_,hn,_⟩:=I.loc;hn.lt
def Inv.sz(I:Inv X Á σ H s):X.s₀.heap.objs.size<=s.heap.objs.size:=Ý I.ok.above (η I.lt)
variable {a:È}
def Inv.nofs(I:Inv X Á σ H s)(h:s.heap.objs.size<=a):a∉X.fs:=λhb=>by obtain⟨_,o,ho,_⟩:=I.ok.funs.mem hb;exact gc (ã (Ó ho)<|Ý I.sz h) (ě _)
def Inv.cne(I:Inv X Á σ H s):∀x c,X.env.cells.lookup x=eh c->c≠X.env.locals:=λx c e z=>by obtain⟨v,o,ho,hd⟩:=I.cell x c e;obtain⟨m,⟨o',es,ep,al,hd',_⟩,_⟩:=I.loc;rw[z,al]at ho;cases ho;rw[hd']at hd;cases hd
def Inv.funs(I:Inv X Á σ H s):s.heap.FunFrames X.base X.outer:=by
 have all:∀(l:List Env),(∀b∈frs l,b∈X.fs)->X.s₀.heap.FunFrames X.base l->s.heap.FunFrames X.base l:=by
  intro l;induction l with
  |nil=>intro _ _;trivial
  |cons env r ih =>intro hs hl;obtain⟨hk,⟨L,o,hf,hn,ho,hd⟩,hr⟩:=hl;have hL:L∈X.fs:=hs L (by unfold frs;rw[Ē,hf];exact ì);obtain⟨sl,e⟩:=I.base.slot L o ho (I.ok.frf L hL) hL λz=>I.ok.exfs L z hL;exact⟨hk,⟨L,_,hf,hn,e,hd⟩,ih (λb hb=>hs b<|by unfold frs;rw[Ē,hf];exact Ü _ hb) hr⟩
 exact all X.outer (λ_ hb=>hb) I.ok.funs
def Inv.stack(I:Inv X Á σ H s):s.heap.FunFrames X.base X.stack:=by
 rcases I.ok.stk with e|⟨e,hf⟩
 .rw[e];exact I.funs
 .rw[e];obtain⟨m,hn,_⟩:=I.loc;refine .cons (by rw[I.ok.kind];decide) hf hn ?_ I.funs;exact Heap.get?_none_of_le<|Ý I.ok.bsz I.ok.above
def Inv.stkSub(I:Inv X Á σ H s):∀b∈frs X.stack,b∈X.env.locals::X.fs:=λb hb=>by
 rcases I.ok.stk with e|⟨e,hf⟩
 .rw[e]at hb;exact Ü _ hb
 .rw[e]at hb;unfold frs at hb;rw[Ē,hf]at hb;exact hb
def Inv.stkFree(I:Inv X Á σ H s):∀b∈frs X.stack,H b=ei:=λb hb=>by
 rcases Ç.mp (I.stkSub b hb)with e|hb
 .rw[e];exact I.free
 .obtain⟨_,o,ho,_⟩:=I.ok.funs.mem hb;exact I.base.free b o ho (I.ok.frf b hb) λz=>I.ok.exfs b z hb
variable {g':Array bY} {t':Nat} {d':Drawn} {ch:List È}
def Inv.step(I:Inv X Á σ H s)
  (hch:∀b∈ch,(b∈X.ex\/X.s₀.heap.objs.size<=b)/\b≠X.env.locals/\(∀x c,X.env.cells.lookup x=eh c->c≠b)/\∀p∈X.pn++Á,p.1≠b)
  (keep:∀b o,b≠X.env.locals->b∉X.fs->b∉ch->s.heap.get? b=eh o->H b=ei->h'.get? b=eh o)
  (slot:∀b o,b≠X.env.locals->b∈X.fs->b∉ch->s.heap.get? b=eh o->H b=ei->∃sl,h'.get? b=eh {o with slots:=sl}) (free:∀b o,b∉ch->s.heap.get? b=eh o->H b=ei->H' b=ei)
  (there:∀b o,b∉ch->s.heap.get? b=eh o->∃o',h'.get? b=eh o')
  (tups:∀b xs,H b=eh (.tup xs)->H' b=eh (.tup xs)) (frzs:∀b o u,H b=eh (.frz o u)->H' b=eh (.frz o u)) (tbls:∀b ps,H b=eh (.tbl ps)->∃more,H' b=eh (.tbl<|ps++more))
  (ns:∀m,s.heap.Ns X.env.locals m->h'.Ns X.env.locals m) (hok:HOk X.prog X.w H' h') (hg:Τ g') :
  Inv X Á σ H' {s with heap:=h',gens:=g',drawn:=d',toks:=t'}:=by
 have neL:∀b o,X.s₀.heap.get? b=eh o->b≠X.env.locals:=λb o e=>ä<|ã (Ó e) I.ok.above;have neC:∀b o,X.s₀.heap.get? b=eh o->b∉X.ex->b∉ch:=λb o e hx hb=>by
  rcases (hch b hb).1 with z|z
  .exact hx z
  .exact gc (ã (Ó e) z)<|ě _
 have cellK:∀x c,X.env.cells.lookup x=eh c->∀v,s.heap.IsCell c v->h'.IsCell c v:=λx c e v ⟨o,ho,hd⟩=>by
  have nch:c∉ch:=λz=>(hch c z).2.2.1 x c e rfl;by_cases hc:c∈X.fs
  .obtain⟨sl,q⟩:=slot c o (I.cne x c e) hc nch ho<|I.freeC x c e;exact⟨_,q,hd⟩
  .exact⟨o,keep c o (I.cne x c e) hc nch ho<|I.freeC x c e,hd⟩
 refine⟨I.ok,I.os,hg,⟨λb o e n hb hx=>?_,λb o e n hb hx=>?_,λb o e n hx=>?_,λb o e hx=>?_,λb xs e=>tups b xs<|I.base.tups b xs e,λb o xs e=>frzs b o xs<|I.base.frzs b o xs e,λb ps e=>?_⟩,?_,λx c e=>?_,?_,λx c e=>?_,λp hp=>?_,hok,I.len⟩
 .exact keep b o (neL b o e) hb (neC b o e hx) (I.base.keep b o e n hb hx)<|I.base.free b o e n hx
 .obtain⟨sl,e1⟩:=I.base.slot b o e n hb hx;obtain⟨sl',e2⟩:=slot b _ (neL b o e) hb (neC b o e hx) e1<|I.base.free b o e n hx;exact⟨sl',e2⟩
 .obtain⟨o',e1⟩:=I.base.there b o e hx;exact free b o' (neC b o e hx) e1<|I.base.free b o e n hx
 .obtain⟨o',e1⟩:=I.base.there b o e hx;exact there b o' (neC b o e hx) e1
 .obtain⟨m1,e1⟩:=I.base.tbls b ps e;obtain⟨m2,e2⟩:=tbls b _ e1;exact⟨m1++m2,by rw[e2,cR]⟩
 .obtain⟨m,hn,hl⟩:=I.loc;refine⟨m,ns m hn,λi x v e1 e2 e3=>?_⟩;obtain⟨u,r,l⟩:=hl i x v e1 e2 e3;refine⟨u,r,?_⟩;rcases l with l|⟨k,c,e,z⟩
  .exact .inl l
  .exact .inr ⟨k,c,e,cellK x c e _ z⟩
 .obtain⟨v,z⟩:=I.cell x c e;exact⟨v,cellK x c e v z⟩
 .obtain⟨m,⟨o,_,_,ho,_⟩,_⟩:=I.loc;exact free _ o (λz=>(hch _ z).2.1 rfl) ho I.free
 .obtain⟨v,o,ho,hd⟩:=I.cell x c e;exact free c o (λz=>(hch c z).2.2.1 x c e rfl) ho<|I.freeC x c e
 .obtain⟨e,n,ne,nf,d⟩:=I.pin p hp;have nch:p.1∉ch:=λz=>(hch p.1 z).2.2.2 p hp rfl;exact⟨keep p.1 p.2 ne nf nch e n,free p.1 p.2 nch e n,ne,nf,d⟩
def Inv.un(I:Inv X Á σ H s)(u:Un X.fs [] H H' s.heap h')(hok:HOk X.prog X.w H' h'):Inv X Á σ H' {s with heap:=h',toks:=t'}:=by
 obtain⟨m,⟨o,es,ep,ho,r⟩,_⟩:=id I.loc;obtain⟨sl,hL⟩:=u.any ho I.free (by simp);exact I.step (g':=s.gens) (d':=s.drawn) (ch:=[]) (λ_ z=>nomatch z) (λb o _ hb _ e n=>u.keep b o e n hb<|by simp) (λb o _ hb _ e n=>u.slot b o e n hb<|by simp) (λb o _ e n=>u.free b o e n<|by simp) (λb o _ e=>u.there b o e<|by simp) u.tups u.frzs u.tbls (λm' hm=>by
   obtain⟨o',es',ep',al,r'⟩:=hm
   rw[ho]at al;cases al
   exact⟨_,es',ep',hL,r'⟩) hok I.bare
def Inv.call(I:Inv X Á σ H s)(u:Un (frs X.stack) ch H H' s.heap h')(hok:HOk X.prog X.w H' h')(hg:Τ g')
  (hch:∀b∈ch,(b∈X.ex\/X.s₀.heap.objs.size<=b)/\b≠X.env.locals/\(∀x c,X.env.cells.lookup x=eh c->c≠b)/\∀p∈X.pn++Á,p.1≠b) :
  Inv X Á σ H' {s with heap:=h',gens:=g',drawn:=d',toks:=t'}:=by
 obtain⟨m,⟨o,es,ep,ho,r⟩,_⟩:=id I.loc;obtain⟨sl,hL⟩:=u.any ho I.free λz=>(hch _ z).2.1 rfl;exact I.step (ch:=ch) hch (λb o hL hb hc e n=>u.keep b o e n (λz=>(Ç.mp<|I.stkSub b z).elim hL hb) hc) (λb o _ _ hc e n=>u.any e n hc) (λb o hc e n=>u.free b o e n hc) (λb o hc e=>u.there b o e hc) u.tups u.frzs u.tbls (λm' hm=>by
   obtain⟨o',es',ep',al,r'⟩:=hm
   rw[ho]at al;cases al
   exact⟨_,es',ep',hL,r'⟩) hok hg
def Inv.turned{it:È}(I:Inv X Á σ H s)(k:∀b o,b≠it->s.heap.get? b=eh o->h'.get? b=eh o)(hn:H it=ei)(hL:it≠X.env.locals)
  (h1:it∈X.ex\/X.s₀.heap.objs.size<=it) (h2:∀x c,X.env.cells.lookup x=eh c->c≠it) (h3:∀p∈X.pn++Á,p.1≠it):Inv X Á σ H {s with heap:=h',toks:=t'}:=by
 have nit:∀b u,H b=eh u->b≠it:=λb u e z=>by rw[z,hn]at e;cases e
 refine I.step (g':=s.gens) (d':=s.drawn) (ch:=[it]) (λb hb=>?_) (λb o _ _ hc e _=>k b o (λz=>hc<|by simp[z]) e) (λb o _ _ hc e _=>⟨o.slots,k b o (λz=>hc<|by simp[z]) e⟩) (λ_ _ _ _ n=>n)
  (λb o hc e=>⟨o,k b o (λz=>hc<|by simp[z]) e⟩) (λ_ _ e=>e) (λ_ _ _ e=>e) (λb ps e=>⟨#[],by rw[e];simp⟩) (λm hm=>?_) (λb u e=>?_) I.bare
 .have e:b=it:=by simpa using hb
  subst e;exact⟨h1,hL,h2,h3⟩
 .obtain⟨o,es,ep,ho,r⟩:=hm;exact⟨o,es,ep,k _ o (Ne.symm hL) ho,r⟩
 .refine(I.hok b u e).stay (λc v hc q=>k c v ?_ q) (λ_ q=>q) λ_ _ q=>q;rcases hc with z|z
  .rw[z];exact nit b u e
  .exact nit c _ z
def Inv.tok(I:Inv X Á σ H s)(t:Nat):Inv X Á σ H {s with toks:=t}:=I.un (h':=s.heap) (t':=t) Un.refl I.hok
def Inv.kept(I:Inv X Á σ H s)(k:∀b u,s.heap.get? b=eh u->h'.get? b=eh u):Inv X Á σ H {s with heap:=h',toks:=t'}:=I.un (Un.kept k) (I.hok.kept k)
variable {o:HO}
def Inv.laid(I:Inv X Á σ H s)(k:∀b u,s.heap.get? b=eh u->h'.get? b=eh u)(hp:s.heap.objs.size<=a)(new:eQ X.prog X.w (upd H a o) h' a o) :
  Inv X Á σ (upd H a o) {s with heap:=h',toks:=t'}:=I.un (Un.laid k hp<|I.hok.fresh hp)<|I.hok.laid k hp new
def Inv.write{x e:È}(I:Inv X Á σ H s)(mu:Mut<|H x)(he:e=x\/H e=eh (.own x))(k:∀b u,b≠e->s.heap.get? b=eh u->h'.get? b=eh u)(heo:∃u,h'.get? e=eh u)
  (new:eQ X.prog X.w (upd H x o) h' x o):Inv X Á σ (upd H x o) {s with heap:=h',toks:=t'}:=I.un (Un.write mu he k heo)<|I.hok.write mu he k heo new
def Inv.pins_of{pins':List (È×Obj)}(I:Inv X Á σ H s)(h:∀p∈pins',s.heap.get? p.1=eh p.2/\H p.1=ei/\p.1≠X.env.locals/\p.1∉X.fs/\∀v,p.2.data≠.cell v):Inv X pins' σ H s :=
 ⟨I.ok,I.os,I.bare,I.base,I.loc,I.cell,I.free,I.freeC,λp hp=>(å.mp hp).elim (λz=>I.pin p<|Ö _ z)<|h p,I.hok,I.len⟩
variable {i:Nat} {x:Str}
def Np{N:List Str}(hN:N.Nodup){j:Nat}(a:N[i]?=eh x)(b:N[j]?=eh x):i=j:=by obtain⟨h1,e1⟩:=Ð.mp a;obtain⟨h2,e2⟩:=Ð.mp b;exact(List.getElem_inj hN).mp (e1.trans e2.symm)
variable {M:Model} {A:Ą} {u:Â} {Q:Unit->Å->Prop}
def KE{E:Â->Å->Prop}{v:V}(I:Inv X Á σ H s)(hN:X.N.Nodup)(hi:X.N[i]?=eh x)(hx:Loc X.env.scope x)(r:RelV v u)
  (h:∀s',Inv X Á (σ.set i<|eh v) H s'->(∃a,ś a s.heap s'.heap/\(a=X.env.locals\/X.env.cells.lookup x=eh a))->Q () s') (hf:X.fn x=ej\/X.env.scope.names.lookup x=eh .local:=by first|exact .inl rfl|exact .inr rfl|assumption):wpAny M A (storeName X.env x u) Q E s:=by
 obtain⟨m,hn,hl⟩:=id I.loc;have hcls:(X.env.scope.kind == .class||(X.env.scope.kind == .module&&X.env.locals != X.env.globals))=ez:=by rw[I.ok.kind];rfl
 have hiσ:i<σ.length:=by rw[I.len];exact(Ð.mp hi).1
 have cne:=I.cne;have cN:∀{a:È}{h':Ă},(∃o,s.heap.get? a=eh o/\H a=ei)->ś a s.heap h'->HOk X.prog X.w H h':=λ{a h'} ha hs b ob e=>by
  obtain⟨_,_,hfree⟩:=ha;refine(I.hok b ob e).stay (λc w' hc q=>(hs.2 c ?_).trans q) (λ_ q=>q) λ_ _ q=>q;rintro rfl;rcases hc with rfl|hc
  .rw[hfree]at e;cases e
  .rw[hfree]at hc;cases hc
 rcases hx with hk|hk
 .refine wpAny_storeName_local hk hn (λh' hn' hs=>?_) hcls;obtain⟨oL,_,_,hoL,_⟩:=id hn;refine h _ ⟨I.ok,I.os,I.bare,⟨λb o e n hb hx=>?_,λb o e n hb hx=>?_,I.base.free,λb o e hx=>?_,I.base.tups,I.base.frzs,I.base.tbls⟩,⟨_,hn',λj y v' e1 e2 e3=>?_⟩,λy c e=>?_,I.free,I.freeC,λp hp=>?_,cN ⟨oL,hoL,I.free⟩ hs,by simpa using I.len⟩ ⟨_,hs,.inl rfl⟩
  .exact(hs.2 b<|ä<|ã (Ó e) I.ok.above).trans<|I.base.keep b o e n hb hx
  .obtain⟨sl,e1⟩:=I.base.slot b o e n hb hx;exact⟨sl,(hs.2 b<|ä<|ã (Ó e) I.ok.above).trans e1⟩
  .obtain⟨o',e1⟩:=I.base.there b o e hx;exact⟨o',(hs.2 b<|ä<|ã (Ó e) I.ok.above).trans e1⟩
  .by_cases hj:j=i
   .subst hj;rw[hi]at e1;cases e1;rw[Υ hiσ]at e2;cases e2;exact⟨u,r,.inl ⟨hk,by simp⟩⟩
   .rw[ź<|Ne.symm hj]at e2;obtain⟨u',r',q⟩:=hl j y v' e1 e2 e3;refine⟨u',r',?_⟩;rcases q with⟨k,e⟩|⟨k,c,e,z⟩
    .refine .inl ⟨k,?_⟩;have:y≠x:=λe=>hj<|Np hN e1<|e▸hi;simp[this,e]
    .exact .inr ⟨k,c,e,z.sameBut hs<|cne y c e⟩
  .obtain⟨w',z⟩:=I.cell y c e;exact⟨w',z.sameBut hs<|cne y c e⟩
  .obtain⟨e,n,ne,nf,d⟩:=I.pin p hp;exact⟨(hs.2 p.1 ne).trans e,n,ne,nf,d⟩
 .have hfn:X.fn x=ej:=by
   rcases hf with z|z
   .exact z
   .rw[z]at hk;cases hk
  obtain⟨c,hc⟩:=I.ok.has x<|.inl hk;obtain⟨w',z⟩:=I.cell x c hc;refine wpAny_storeName_cell I.ok.kind hk hc z λh' hc' hs=>?_;obtain⟨oc,hoc,hocd⟩:=id z;refine h {s with heap:=h'} ⟨I.ok,I.os,I.bare,⟨λb o e n hb hx=>?_,λb o e n hb hx=>?_,I.base.free,λb o e hx=>?_,I.base.tups,I.base.frzs,I.base.tbls⟩,⟨m,hn.sameBut hs<|Ne.symm<|cne x c hc,λj y v' e1 e2 e3=>?_⟩,λy c' e=>?_,I.free,I.freeC,λp hp=>?_,cN ⟨oc,hoc,I.freeC x c hc⟩ hs,by simpa using I.len⟩ ⟨c,hs,.inr hc⟩
  .exact(hs.2 b<|ä<|ã (Ó e)<|I.ok.cab x c hfn hc).trans<|I.base.keep b o e n hb hx
  .obtain⟨sl,e1⟩:=I.base.slot b o e n hb hx;exact⟨sl,(hs.2 b<|ä<|ã (Ó e)<|I.ok.cab x c hfn hc).trans e1⟩
  .obtain⟨o',e1⟩:=I.base.there b o e hx;exact⟨o',(hs.2 b<|ä<|ã (Ó e)<|I.ok.cab x c hfn hc).trans e1⟩
  .by_cases hj:j=i
   .subst hj;rw[hi]at e1;cases e1;rw[Υ hiσ]at e2;cases e2;exact⟨u,r,.inr ⟨.inl hk,c,hc,hc'⟩⟩
   .rw[ź<|Ne.symm hj]at e2;obtain⟨u',r',q⟩:=hl j y v' e1 e2 e3;refine⟨u',r',?_⟩;rcases q with q|⟨k,c',e,z'⟩
    .exact .inl q
    .refine .inr ⟨k,c',e,z'.sameBut hs ?_⟩;rintro rfl;exact hj<|Np hN e1<|I.ok.inj _ _ _ e hc▸hi
  .by_cases hcc:c'=c
   .subst hcc;exact⟨_,hc'⟩
   .obtain⟨w2,z2⟩:=I.cell y c' e;exact⟨w2,z2.sameBut hs hcc⟩
  .obtain⟨e,n,ne,nf,d⟩:=I.pin p hp;refine⟨(hs.2 p.1 ?_).trans e,n,ne,nf,d⟩;intro q;rw[q,hoc]at e;have q':oc=p.2:=í e;exact d w' (by rw[<-q'];exact hocd)
def B1{E:Â->Å->Prop}{v:V}(I:Inv X Á σ H s)(hN:X.N.Nodup)(hi:X.N[i]?=eh x)(hx:Loc X.env.scope x)(r:RelV v u)
  (h:∀s',Inv X Á (σ.set i<|eh v) H s'->Q () s') (hf:X.fn x=ej\/X.env.scope.names.lookup x=eh .local:=by first|exact .inl rfl|exact .inr rfl|assumption):wpAny M A (storeName X.env x u) Q E s :=
 KE I hN hi hx r (λs' I' _=>h s' I') hf
def Inv.call'{s':Å}(I:Inv X Á σ H s)(ho:s'.os=s.os)(u:Un (frs X.stack) ch H H' s.heap s'.heap)(hok:HOk X.prog X.w H' s'.heap)(hg:Τ s'.gens)
  (hch:∀b∈ch,(b∈X.ex\/X.s₀.heap.objs.size<=b)/\b≠X.env.locals/\(∀x c,X.env.cells.lookup x=eh c->c≠b)/\∀p∈X.pn++Á,p.1≠b):Inv X Á σ H' s':=by
 obtain⟨h',g',d',t',o'⟩:=s';have e:o'=s.os:=ho;subst e;exact I.call (g':=g') (t':=t') (d':=d') u hok hg hch
end
noncomputable abbrev XK:=Â->Option È->Hp->Prop
noncomputable abbrev St:=List<|Option V
noncomputable abbrev VK:=V->Hp->Prop
noncomputable abbrev TE:=St->Hp->VK->Prop
noncomputable abbrev TT:=St->Hp->(Bool->Hp->Prop)->Prop
noncomputable abbrev TA:=St->Hp->(List V->Hp->Prop)->Prop
structure Ends where
 nx:St->Hp->Prop
 rt:VK
 bk:St->Hp->Prop:=λ_ _=>False
 ct:St->Hp->Prop:=λ_ _=>False
noncomputable abbrev TS:=Ends->St->Hp->Prop
inductive EP (X:Cx) (Á:List<|È×Obj) (σ:St) (Q:VK) (u:Â) (s':Å):Prop
 |mk (v:V) (H':Hp) (i:Inv X Á σ H' s') (r:RelV v u) (q:Q v H')
abbrev TP(X:Cx)(Á:List<|È×Obj)(σ:St)(Q:Bool->Hp->Prop)(b:Bool)(s':Å):Prop:=∃H',Inv X Á σ H' s'/\Q b H'
inductive AP (X:Cx) (Á:List<|È×Obj) (σ:St) (Q:List V->Hp->Prop) (us:List Â) (s':Å):Prop
 |mk (vs:List V) (H':Hp) (i:Inv X Á σ H' s') (r:fS vs us) (q:Q vs H')
abbrev SP(X:Cx)(Á:List<|È×Obj)(D:Ends)(f:Flow)(s':Å):Prop :=
 match f with
 |.next=>∃Ř H',Inv X Á Ř H' s'/\D.nx Ř H'
 |.brk=>∃Ř H',Inv X Á Ř H' s'/\D.bk Ř H'
 |.cont=>∃Ř H',Inv X Á Ř H' s'/\D.ct Ř H'
 |.ret u=>∃v Ř H',Inv X Á Ř H' s'/\RelV v u/\D.rt v H'
abbrev PE(X:Cx)(e:Expr)(t:TE):Prop :=
 ∀(Á:List<|È×Obj) (s:Å) (σ:St) (H:Hp) (Q:VK),Inv X Á σ H s->t σ H Q->wpAny (Û X.prog X.w) X.A (eval e X.env) (EP X Á σ Q) X.xe s
abbrev PT(X:Cx)(e:Expr)(t:TT):Prop :=
 ∀(Á:List<|È×Obj) (s:Å) (σ:St) (H:Hp) (Q:Bool->Hp->Prop),Inv X Á σ H s->t σ H Q->wpAny (Û X.prog X.w) X.A (bZ e X.env<|eval e X.env) (TP X Á σ Q) X.xe s
abbrev PW(X:Cx)(e:Expr)(t:TT):Prop :=
 ∀(av:Sem Â) (Á:List<|È×Obj) (s:Å) (σ:St) (H:Hp) (Q:Bool->Hp->Prop),Inv X Á σ H s->t σ H Q->wpAny (Û X.prog X.w) X.A (bZ e X.env av) (TP X Á σ Q) X.xe s
def PW.pt{X:Cx}{e:Expr}{t:TT}(h:PW X e t):PT X e t:=h _
abbrev PA(X:Cx)(es:List Expr)(t:TA):Prop :=
 ∀(ç:Pos) (Á:List<|È×Obj) (s:Å) (σ:St) (H:Hp) (Q:List V->Hp->Prop),Inv X Á σ H s->t σ H Q->wpAny (Û X.prog X.w) X.A (spliced<|ĝ ç<|Ô es X.env) (AP X Á σ Q) X.xe s
abbrev PS(X:Cx)(st:Ľ)(t:TS):Prop :=
 ∀(Á:List<|È×Obj) (s:Å) (σ:St) (H:Hp) (D:Ends),Inv X Á σ H s->t D σ H->wpAny (Û X.prog X.w) X.A (exec st X.env) (SP X Á D) X.xe s
abbrev PSs(X:Cx)(st:List Ľ)(t:TS):Prop :=
 ∀(Á:List<|È×Obj) (s:Å) (σ:St) (H:Hp) (D:Ends),Inv X Á σ H s->t D σ H->wpAny (Û X.prog X.w) X.A (execs st X.env) (SP X Á D) X.xe s
def thn{α:Type}{t:Sem α}{Q Q':α->Å->Prop}{M:Model}{A:Ą}{E:Â->Å->Prop}{s:Å}(h:wpAny M A t Q E s)(hQ:∀a s,Q a s->Q' a s):wpAny M A t Q' E s:=ē h hQ λ_ _ x=>x
section
variable {X:Cx}
variable {Á:List (È×Obj)} {s:Å} {σ:St} {H:Hp}
def bin{a b:Expr}{ta tb:TE}(ha:PE X a ta)(hb:PE X b tb){R:V->V->Hp->Prop}(I:Inv X Á σ H s)(h:ta σ H λx H1=>tb σ H1 λy H2=>R x y H2)
  {α:Type}{Q:α->Å->Prop}{f:Â->Â->Sem α}
  (hf:∀v u s2 x y H2,Inv X Á σ H2 s2->RelV x v->RelV y u->R x y H2->wpAny (Û X.prog X.w) X.A (f v u) Q X.xe s2) :
  wpAny (Û X.prog X.w) X.A (eval a X.env) (λv Ě=>wpAny (Û X.prog X.w) X.A (eval b X.env) (λu bL=>wpAny (Û X.prog X.w) X.A (f v u) Q X.xe bL) X.xe Ě) X.xe s:=by
 refine thn (ha Á s σ H _ I h) λv s1 ⟨x,H1,I1,r1,q1⟩=>?_;refine thn (hb Á s1 σ H1 _ I1 q1) λu s2 ⟨y,H2,I2,r2,q2⟩=>?_;exact hf v u s2 x y H2 I2 r1 r2 q2
abbrev Q6(i:Nat):TE:=λσ H Q=>∃v,σ[i]?=eh (eh v)/\Q v H
abbrev tC(v:V):TE:=λ_ H Q=>Q v H
variable {x:Str} {ç:Pos}
def Im{i:Nat}(hN:X.N[i]?=eh x)(hv:Vis X.env.scope x)(hd:(x==("__debug__" : Str))=ez:=by decide)(aG:(x==("__classdict__" : Str))=ez:=by decide):PE X (.Name x ç)<|Q6 i:=by
 intro Á s σ H Q I h;obtain⟨v,e,h⟩:=h;obtain⟨m,hn,hl⟩:=I.loc;obtain⟨u,r,l⟩:=hl i x v hN e hv;have fin:EP X Á σ Q u s:=⟨v,H,I,r,h⟩
 rcases l with⟨hk,hm⟩|⟨hk,c,hc,hcell⟩
 .exact wpAny_Name (wpAny_loadName_local I.ok.kind hk hn hm fin) hd
 .rcases hk with hk|hk
  .exact wpAny_Name (wpAny_loadName_cell I.ok.kind hk hc hcell fin) hd
  .exact wpAny_Name (wpAny_loadName_free I.ok.kind hk hc hcell fin aG) hd
def NV{i j ç}:PE X (.Constant (.int i) j ç)<|tC<|.int i:=λ_ _ _ H _ I h=>wpAny_Constant_int ⟨.int i,H,I.tok _,⟨_,rfl⟩,h⟩
def QC{b j ç}:PE X (.Constant (.bool b) j ç)<|tC<|.bl b:=λ_ _ _ H _ I h=>Constant_bool ⟨.bl b,H,I,rfl,h⟩
def Bo{j ç}:PE X (.Constant .none j ç)<|tC .non:=λ_ _ _ H _ I h=>cS ⟨.non,H,I,rfl,h⟩
def pe_str{x j ç}:PE X (.Constant (.str x) j ç)<|tC<|.str x:=λ_ _ _ H _ I h=>Calls.Constant_str ⟨.str x,H,I.tok _,⟨_,rfl⟩,h⟩
abbrev Gl(X:Cx)(x:Str):Prop:=X.env.kindOf x=eh .globalImplicit
variable {u:Â} {Q:Â->Å->Prop}
def WK{E:Â->Å->Prop}(I:Inv X Á σ H s)(hg:Gl X x)(hm:X.mg x=eh u)(h:Q u s)
  (hd:(x==("__debug__" : Str))=ez:=by decide):wpAny (Û X.prog X.w) X.A (eval (.Name x ç) X.env) Q E s :=
 Calls.Name_function_global I.ok.kind hg (Calls.loadGlobal_global (by rw[I.ok.glob];exact I.mod.glob.keeps I.bk) hm h) hd
def Yx{E:Â->Å->Prop}(I:Inv X Á σ H s)(hg:Gl X x)(hm:X.mg x=ei)(hv:ţ x=eh u)(h:Q u s)
  (hn:x≠"__name__":=by decide) (hd:(x==("__debug__" : Str))=ez:=by decide):wpAny (Û X.prog X.w) X.A (eval (.Name x ç) X.env) Q E s:=by
 obtain⟨mb,h1,h2⟩:=I.mod.blt;exact Calls.Name_function_global I.ok.kind hg (Calls.loadGlobal_builtin (by rw[I.ok.glob];exact I.mod.glob.keeps I.bk) hm (by rw[I.ok.blt];exact h1.keeps I.bk) ((h2 x hn).trans hv) h) hd
def EZ{v:V}(hg:Gl X x)(hm:X.mg x=eh u)(r:RelV v u)(hd:(x==("__debug__" : Str))=ez:=by decide):PE X (.Name x ç) (tC v) :=
 λ_ _ _ H _ I h=>WK I hg hm ⟨v,H,I,r,h⟩ hd
def E2{v:V}(hg:Gl X x)(hm:X.mg x=ei)(hv:ţ x=eh u)(r:RelV v u)(hn:x≠"__name__":=by decide)(hd:(x==("__debug__" : Str))=ez:=by decide):PE X (.Name x ç) (tC v) :=
 λ_ _ _ H _ I h=>Yx I hg hm hv ⟨v,H,I,r,h⟩ hn hd
variable {a b:Expr}{ta tb:TE}{ç:Pos}
abbrev PC(X:Cx)(op:b6)(a b:Expr)(t:TE):Prop :=
 ∀(Á:List<|È×Obj) (s:Å) (σ:St) (H:Hp) (Q:VK),Inv X Á σ H s->t σ H Q->
  wpAny (Û X.prog X.w) X.A (eval a X.env) (λv Ě=>wpAny (Û X.prog X.w) X.A (eval b X.env) (λu bL=>wpAny (Û X.prog X.w) X.A (è op v u) (EP X Á σ Q) X.xe bL) X.xe Ě) X.xe s
variable {op:b6}
def Nb(b:Expr)(h:op≠.In)(h2:op≠.NotIn):ļ op b=ez:=by
 have e1:(op==CmpOp.In)=ez:=by cases op<;>first|rfl|exact gc rfl h
 have e2:(op==CmpOp.NotIn)=ez:=by cases op<;>first|rfl|exact gc rfl h2
 cases b<;>simp[ļ,e1,e2]
abbrev Rz(ta:TE):TE:=λσ H Q=>ta σ H λx H1=>Q (.bl<|gf (x=.non)) H1
abbrev PR(ta:TE):TE:=λσ H Q=>ta σ H λx H1=>Q (.bl (!gf (x=.non))) H1
def RelV.none_iff{x:V}{v:Â}(r:RelV x v):(v==Value.none)=gf (x=.non):=by
 cases x with
 |non=>cases r;rfl
 |bl _=>cases r;rfl
 |int _=>obtain⟨t,rfl⟩:=r;rfl
 |str _=>obtain⟨t,rfl⟩:=r;rfl
 |byt _=>obtain⟨t,rfl⟩:=r;rfl
 |flt _=>obtain⟨t,rfl⟩:=r;rfl
 |ref _=>cases r;rfl
 |ty _=>cases r;rfl
def DL{j bg}(ha:PE X a ta):PC X .Is a (.Constant .none j bg)<|Rz ta:=by intro Á s σ H Q I h;refine thn (ha Á s σ H _ I h) λv s1 ⟨x,H1,I1,r1,q1⟩=>?_;exact cS (is_none_gen ⟨.bl _,H1,I1,by rw[r1.none_iff];rfl,q1⟩)
def OK{j bg}(ha:PE X a ta):PC X .IsNot a (.Constant .none j bg)<|PR ta:=by intro Á s σ H Q I h;refine thn (ha Á s σ H _ I h) λv s1 ⟨x,H1,I1,r1,q1⟩=>?_;exact cS (isnot_none_gen ⟨.bl _,H1,I1,by rw[r1.none_iff];rfl,q1⟩)
abbrev tB(t:TE):TT:=λσ H Q=>t σ H λx H1=>∃c,x=.bl c/\Q c H1
def C8{t:TE}(h:PC X op a b t)(h1:ļ op b=ez:=by first|exact Nb _ (by decide) (by decide)|rfl):PE X (.Compare a [op] [b] ç) t:=λÁ s σ H Q I hw=>wpAny_Compare1 (h Á s σ H Q I hw) h1
def Cw{t:TE}(h:PC X op a b t)(h1:ļ op b=ez:=by first|exact Nb _ (by decide) (by decide)|rfl):PT X (.Compare a [op] [b] ç)<|tB t:=by intro Á s σ H Q I hw;refine wpAny_isTrue_Compare1 (thn (h Á s σ H _ I hw) λv s1 h1=>thn h1 λu s2 h2=>thn h2 λc s3 ⟨x,H1,I1,r1,q1⟩=>?_) h1;obtain⟨d,rfl,q⟩:=q1;cases r1;exact Ď ⟨H1,I1,q⟩
variable {tA tB':TT}{rest:List Expr}
abbrev Q8(t u:TT):TT:=λσ H Q=>t σ H λc H1=>if c=ej then u σ H1 Q else Q ez H1
abbrev tOr(t u:TT):TT:=λσ H Q=>t σ H λc H1=>if c=ej then Q ej H1 else u σ H1 Q
abbrev RI(t:TT):TT:=λσ H Q=>t σ H λc H1=>Q (!c) H1
def Fv(ha:PT X a tA):PW X (.BoolOp .And [a] ç) tA:=by
 intro wh Á s σ H Q I h;refine isTrue_and<|thn (ha Á s σ H Q I h) λc s1 e=>?_;cases c with
 |true=>exact isTrue_and_nil e
 |false=>exact e
def G9(ha:PT X a tA):PW X (.BoolOp .Or [a] ç) tA:=by
 intro wh Á s σ H Q I h;refine isTrue_or<|thn (ha Á s σ H Q I h) λc s1 e=>?_;cases c with
 |false=>exact isTrue_or_nil e
 |true=>exact e
def HG(ha:PT X a tA)(hb:PW X (.BoolOp .And (b::rest) ç) tB'):PW X (.BoolOp .And (a::b::rest) ç)<|Q8 tA tB':=by
 intro wh Á s σ H Q I h;refine isTrue_and<|thn (ha Á s σ H _ I h) λc s1 ⟨H1,I1,q1⟩=>?_;cases c with
 |true=>exact hb wh Á s1 σ H1 Q I1 q1
 |false=>exact⟨H1,I1,q1⟩
def Qo(ha:PT X a tA)(hb:PW X (.BoolOp .Or (b::rest) ç) tB'):PW X (.BoolOp .Or (a::b::rest) ç)<|tOr tA tB':=by
 intro wh Á s σ H Q I h;refine isTrue_or<|thn (ha Á s σ H _ I h) λc s1 ⟨H1,I1,q1⟩=>?_;cases c with
 |true=>exact⟨H1,I1,q1⟩
 |false=>exact hb wh Á s1 σ H1 Q I1 q1
def Ld(ha:PT X a tA):PT X (.UnaryOp .Not a ç)<|RI tA:=by intro Á s σ H Q I h;exact isTrue_not (ha Á s σ H (λc H1=>Q (!c) H1) I h)
abbrev L5(ta tb:TE):TE:=λσ H Q=>ta σ H λx H1=>∃c,x=.bl c/\if c=ej then tb σ H1 Q else Q (.bl ez) H1
abbrev QQ(ta tb:TE):TE:=λσ H Q=>ta σ H λx H1=>∃c,x=.bl c/\if c=ej then Q (.bl ej) H1 else tb σ H1 Q
abbrev Qu(ta:TE):TE:=λσ H Q=>ta σ H λx H1=>∃c,x=.bl c/\Q (.bl (!c)) H1
def CZ{op}{t:TE}(h:PE X a t):PE X (.BoolOp op [a] ç) t:=λÁ s σ H Q I hw=>BoolOp_one (h Á s σ H Q I hw)
def IA(ha:PE X a ta)(hb:PE X (.BoolOp .And (b::rest) ç) tb):PE X (.BoolOp .And (a::b::rest) ç)<|L5 ta tb:=by
 intro Á s σ H Q I h;refine BoolOp_and<|thn (ha Á s σ H _ I h) λv s1 ⟨x,H1,I1,r1,q1⟩=>?_;obtain⟨c,rfl,q1⟩:=q1;cases r1;refine Ď ?_;cases c with
 |true=>exact hb Á s1 σ H1 Q I1 q1
 |false=>exact⟨.bl ez,H1,I1,rfl,q1⟩
def L0(ha:PE X a ta)(hb:PE X (.BoolOp .Or (b::rest) ç) tb):PE X (.BoolOp .Or (a::b::rest) ç)<|QQ ta tb:=by
 intro Á s σ H Q I h;refine BoolOp_or<|thn (ha Á s σ H _ I h) λv s1 ⟨x,H1,I1,r1,q1⟩=>?_;obtain⟨c,rfl,q1⟩:=q1;cases r1;refine Ď ?_;cases c with
 |false=>exact hb Á s1 σ H1 Q I1 q1
 |true=>exact⟨.bl ej,H1,I1,rfl,q1⟩
def IX(ha:PE X a ta):PE X (.UnaryOp .Not a ç)<|Qu ta:=by intro Á s σ H Q I h;refine UnaryOp_<|thn (ha Á s σ H _ I h) λv s1 ⟨x,H1,I1,r1,q1⟩=>?_;obtain⟨c,rfl,q1⟩:=q1;cases r1;exact not_of (Ď ⟨.bl (!c),H1,I1,rfl,q1⟩)
abbrev tIf(t:TT)(ta tb:TE):TE:=λσ H Q=>t σ H λc H1=>if c=ej then ta σ H1 Q else tb σ H1 Q
def CC{c:Expr}(hc:PT X c tA)(ha:PE X a ta)(hb:PE X b tb):PE X (.IfExp c a b ç)<|tIf tA ta tb:=by
 intro Á s σ H Q I h;refine wpAny_IfExp<|thn (hc Á s σ H _ I h) λd s1 ⟨H1,I1,q1⟩=>?_;cases d with
 |true=>exact ha Á s1 σ H1 Q I1 q1
 |false=>exact hb Á s1 σ H1 Q I1 q1
end
abbrev fQ(K:Frag)(H:Hp)(a:È)(xs:List V):Prop :=
 Rd H a (.lst xs)\/
  ∃(o:Obj) (ñ:Array Â) (n:Nat),K.lookup a=eh o/\o.cls=.type "list"/\o.dict=ei/\o.data=.seq ñ n/\ñ.size<=Ù/\fS xs ñ.toList
abbrev fR(K:Frag)(H:Hp)(a:È)(xs:List V):Prop :=
 Rd H a (.tup xs)\/
  ∃(o:Obj) (ñ:Array Â) (n:Nat),K.lookup a=eh o/\o.cls=.type "tuple"/\o.data=.seq ñ n/\ñ.size<=Ù/\fS xs ñ.toList
abbrev absV:Â->Option V
 |.none=>eh .non
 |.bool b=>eh<|.bl b
 |.int i _=>eh<|.int i
 |.str x _=>eh<|.str x
 |.bytes b _=>eh<|.byt b
 |.float b _=>eh<|.flt b
 |.ref a=>eh<|.ref a
 |.type n=>eh<|.ty n
 |_=>ei
variable {x:V} {u:Â}
def RelV.abs(r:RelV x u):absV u=eh x:=by
 cases x with
 |non=>cases r;rfl
 |bl _=>cases r;rfl
 |int _=>obtain⟨t,rfl⟩:=r;rfl
 |str _=>obtain⟨t,rfl⟩:=r;rfl
 |byt _=>obtain⟨t,rfl⟩:=r;rfl
 |flt _=>obtain⟨t,rfl⟩:=r;rfl
 |ref _=>cases r;rfl
 |ty _=>cases r;rfl
def RelV.inj{y:V}(r:RelV x u)(q:RelV y u):x=y:=í (r.abs.symm.trans q.abs)
def fS.inj:∀{xs ys:List V}{us:List Â},fS xs us->fS ys us->xs=ys
 |_,_,_,.nil,.nil=>rfl
 |_,_,_,.cons r t,.cons r' t'=>by rw[r.inj r',fS.inj t t']
section
variable {X:Cx}{Á:List (È×Obj)}{σ:St}{H:Hp}{s:Å}{a:È}{xs ys:List V}
def fQ.of{K:Frag}(h:H a=eh (.lst xs)):fQ K H a xs:=.inl (.inl h)
def fR.of{K:Frag}(h:H a=eh (.tup xs)):fR K H a xs:=.inl (.inl h)
def Inv.list(I:Inv X Á σ H s)(h:fQ X.K H a xs):∃ñ:List Â,fS xs ñ/\PlainL s.heap a ñ.toArray/\xs.length<=Ù:=by
 rcases h with h|⟨o,ñ,n,hk,hc,hd,hs,hz,r⟩
 .obtain⟨z,ñ,n,r,e⟩:=h.ok I.hok;exact⟨ñ,r,⟨_,n,e,rfl,rfl,rfl⟩,z⟩
 .refine⟨ñ.toList,r,⟨o,n,I.kIn a o hk,hc,hd,by simpa using hs⟩,?_⟩;have e:=r.length;simp only[î]at e;lia
def Inv.tuple(I:Inv X Á σ H s)(h:fR X.K H a xs):∃ñ:List Â,fS xs ñ/\ah s.heap a ñ.toArray/\xs.length<=Ù:=by
 rcases h with h|⟨o,ñ,n,hk,hc,hs,hz,r⟩
 .obtain⟨z,ñ,r,p⟩:=h.ok I.hok;exact⟨ñ,r,p,z⟩
 .refine⟨ñ.toList,r,⟨o,I.kIn a o hk,hc,n,by simpa using hs⟩,?_⟩;have e:=r.length;simp only[î]at e;lia
def Inv.list_inj(I:Inv X Á σ H s)(h:fQ X.K H a xs)(h':fQ X.K H a ys):xs=ys:=by
 obtain⟨ñ,r,⟨o,n,e,_,_,d⟩,_⟩:=I.list h;obtain⟨its',r',⟨o',n',e',_,_,d'⟩,_⟩:=I.list h';rw[e]at e';cases e';rw[d]at d';injection d' with d1 _;have:ñ=its':=by simpa using congrArg bH d1
 subst this;exact r.inj r'
def Inv.tuple_inj(I:Inv X Á σ H s)(h:fR X.K H a xs)(h':fR X.K H a ys):xs=ys:=by
 obtain⟨ñ,r,⟨o,e,_,n,d⟩,_⟩:=I.tuple h;obtain⟨its',r',⟨o',e',_,n',d'⟩,_⟩:=I.tuple h';rw[e]at e';cases e';rw[d]at d';injection d' with d1 _;have:ñ=its':=by simpa using congrArg bH d1
 subst this;exact r.inj r'
end
noncomputable abbrev Cx.wish(X:Cx)(E:Â->Å->Prop):Cx:={X with xe:=E}
noncomputable abbrev Cx.nox(X:Cx):Cx:=X.wish λ_ _=>False
variable {X:Cx}
def Cx.Ok.wish(ok:X.Ok)(E:Â->Å->Prop):(X.wish E).Ok :=
 ⟨ok.mod,ok.kind,ok.glob,ok.blt,ok.above,ok.inj,ok.has,ok.cab,ok.hd,ok.frames,ok.stk,ok.exf,ok.bs,ok.bsz,ok.noex,ok.exfs,ok.funs,ok.frf⟩
def Cx.Ok.unwish{E:Â->Å->Prop}(ok:(X.wish E).Ok):X.Ok :=
 ⟨ok.mod,ok.kind,ok.glob,ok.blt,ok.above,ok.inj,ok.has,ok.cab,ok.hd,ok.frames,ok.stk,ok.exf,ok.bs,ok.bsz,ok.noex,ok.exfs,ok.funs,ok.frf⟩
section
variable {X:Cx}{Á:List (È×Obj)}{σ:St}{H:Hp}{s:Å}{E:Â->Å->Prop}
def Inv.wish(I:Inv X Á σ H s)(E:Â->Å->Prop):Inv (X.wish E) Á σ H s:=⟨I.ok.wish E,I.os,I.bare,I.base,I.loc,I.cell,I.free,I.freeC,I.pin,I.hok,I.len⟩
def Inv.unwish(I:Inv (X.wish E) Á σ H s):Inv X Á σ H s:=⟨I.ok.unwish,I.os,I.bare,I.base,I.loc,I.cell,I.free,I.freeC,I.pin,I.hok,I.len⟩
def SP.unwish{D:Ends}{f:Flow}{s':Å}(h:SP (X.wish E) Á D f s'):SP X Á D f s':=by
 cases f with
 |next=>obtain⟨Ř,H',I,q⟩:=h;exact⟨Ř,H',I.unwish,q⟩
 |brk=>obtain⟨Ř,H',I,q⟩:=h;exact⟨Ř,H',I.unwish,q⟩
 |cont=>obtain⟨Ř,H',I,q⟩:=h;exact⟨Ř,H',I.unwish,q⟩
 |ret u=>obtain⟨v,Ř,H',I,r,q⟩:=h;exact⟨v,Ř,H',I.unwish,r,q⟩
variable {e:Expr}
def PE.nox{t:TE}(h:PE X.nox e t):PE X e t:=λÁ s σ H Q I hw =>
 ē (h Á s σ H Q (I.wish _) hw) (λ_ _ ⟨v,H',I',r,q⟩=>⟨v,H',I'.unwish,r,q⟩) λ_ _ z=>ģ z
def PT.nox{t:TT}(h:PT X.nox e t):PT X e t:=λÁ s σ H Q I hw =>
 ē (h Á s σ H Q (I.wish _) hw) (λ_ _ ⟨H',I',q⟩=>⟨H',I'.unwish,q⟩) λ_ _ z=>ģ z
def PSs.nox{st:List Ľ}{t:TS}(h:PSs X.nox st t):PSs X st t:=λÁ s σ H D I hw =>
 ē (h Á s σ H D (I.wish _) hw) (λ_ _ q=>q.unwish) λ_ _ z=>ģ z
end
section
variable {X:Cx}{st:Ľ}{rest:List Ľ}{t u:TS}{e:Expr}{te:TE}{ç:Pos}
abbrev PF:TS:=λD σ H=>D.nx σ H
abbrev Rt(t u:TS):TS:=λD σ H=>t {D with nx:=u D} σ H
def pss_nil:PSs X [] PF:=λ_ _ σ H _ I h=>wpAny_execs_nil ⟨σ,H,I,h⟩
def Cu(h1:PS X st t)(h2:PSs X rest u):PSs X (st::rest)<|Rt t u:=by
 intro Á s σ H D I h;refine wpAny_execs_cons<|thn (h1 Á s σ H {D with nx:=u D} I h) λf s1 q=>?_;cases f with
 |next =>obtain⟨Ř,H',I',q⟩:=q;exact h2 Á s1 Ř H' D I' q
 |ret v=>exact q
 |brk=>exact q
 |cont=>exact q
def Inv.quiet{Á:List (È×Obj)}{σ:St}{H:Hp}{s:Å}(I:Inv X Á σ H s):interactive X.env=ez:=by simp[interactive,I.ok.kind]
abbrev Qc(te:TE):TS:=λD σ H=>te σ H λ_ H1=>D.nx σ H1
def DO(he:PE X e te)(hs:Ų e ei ç.line X.env=pure ez:=by rfl):PS X (.Expr e ç)<|Qc te:=by intro Á s σ H D I h;exact wpAny_Expr_any (thn (he Á s σ H _ I h) λv s1 ⟨x,H1,I1,r1,q1⟩=>⟨σ,H1,I1,q1⟩) I.quiet hs
abbrev Ra(te:TE):TS:=λD σ H=>te σ H D.rt
def Ip(he:PE X e te):PS X (.Return (eh e) ç)<|Ra te:=by intro Á s σ H D I h;exact wpAny_Return_some (thn (he Á s σ H _ I h) λv s1 ⟨x,H1,I1,r1,q1⟩=>⟨x,σ,H1,I1,r1,q1⟩)
abbrev L1:TS:=λD _ H=>D.rt .non H
def ps_retN:PS X (.Return ei ç) L1:=λ_ _ σ H _ I h=>wpAny_Return_none ⟨.non,σ,H,I,rfl,h⟩
abbrev Q4(c:TT)(t u:TS):TS:=λD σ H=>c σ H λb H1=>if b=ej then t D σ H1 else u D σ H1
def LM{c:Expr}{a b:List Ľ}{tc:TT}(hc:PT X c tc)(ha:PSs X a t)(hb:PSs X b u):PS X (.If c a b ç)<|Q4 tc t u:=by
 intro Á s σ H D I h;refine wpAny_If<|thn (hc Á s σ H _ I h) λd s1 ⟨H1,I1,q1⟩=>?_;cases d with
 |true=>exact ha Á s1 σ H1 D I1 q1
 |false=>exact hb Á s1 σ H1 D I1 q1
end
noncomputable abbrev TG:=V->St->Hp->(St->Hp->Prop)->Prop
noncomputable abbrev TGs:=List V->St->Hp->(St->Hp->Prop)->Prop
abbrev PG(X:Cx)(ϴ:Expr)(t:TG):Prop :=
 ∀(Á:List<|È×Obj) (s:Å) (σ:St) (H:Hp) (v:V) (u:Â) (Q:St->Hp->Prop),Inv X Á σ H s->RelV v u->t v σ H Q->
  wpAny (Û X.prog X.w) X.A (ž ϴ X.env u) (λ_ s'=>∃Ř H',Inv X Á Ř H' s'/\Q Ř H') X.xe s
abbrev PGs(X:Cx)(ts:List Expr)(t:TGs):Prop :=
 ∀(Á:List<|È×Obj) (s:Å) (σ:St) (H:Hp) (vs:List V) (us:List Â) (Q:St->Hp->Prop),Inv X Á σ H s->fS vs us->t vs σ H Q->
  wpAny (Û X.prog X.w) X.A (assignInOrder ((ę ts X.env).map (·.2)) us) (λ_ s'=>∃Ř H',Inv X Á Ř H' s'/\Q Ř H') X.xe s
noncomputable abbrev A8:=V->V->V->Hp->(Hp->Prop)->Prop
abbrev PSet(X:Cx)(t:A8):Prop :=
 ∀(Á:List<|È×Obj) (s:Å) (σ:St) (H:Hp) (o i v:V) (ov iv u:Â) (Q:Hp->Prop),Inv X Á σ H s->RelV o ov->RelV i iv->RelV v u->t o i v H Q->
  wpAny (Û X.prog X.w) X.A (aI ov iv u) (λ_ s'=>∃H',Inv X Á σ H' s'/\Q H') X.xe s
noncomputable abbrev TIp:=V->V->Hp->VK->Prop
abbrev PIp(X:Cx)(op:ϓ)(t:TIp):Prop :=
 ∀(Á:List<|È×Obj) (s:Å) (σ:St) (H:Hp) (x y:V) (v u:Â) (Q:VK),Inv X Á σ H s->RelV x v->RelV y u->t x y H Q->
  wpAny (Û X.prog X.w) X.A (inplaceOp op v u) (EP X Á σ Q) X.xe s
section
variable {X:Cx}{ç:Pos}
abbrev GA(i:Nat):TG:=λv σ H Q=>Q (σ.set i<|eh v) H
def OI{i:Nat}{x:Str}(hN:X.N.Nodup)(hi:X.N[i]?=eh x)(hx:Loc X.env.scope x)(hf:X.fn x=ej\/X.env.scope.names.lookup x=eh .local:=by first|exact .inl rfl|exact .inr rfl|assumption):PG X (.Name x ç)<|GA i:=by intro Á s σ H v u Q I r h;exact wpAny_assign_Name (B1 I hN hi hx r (λs' I'=>⟨_,H,I',h⟩) hf)
abbrev QH:TGs:=λvs σ H Q=>vs=[]/\Q σ H
abbrev Ps(t:TG)(u:TGs):TGs:=λvs σ H Q=>∃v r,vs=v::r/\t v σ H λŘ H'=>u r Ř H' Q
def pgs_nil:PGs X [] QH:=by intro Á s σ H vs us Q I r h;obtain⟨e,h⟩:=h;subst e;cases r;exact assignInOrder_nil ⟨σ,H,I,h⟩
variable {e:Expr} {es:List Expr}
def Jh{t:TG}{u:TGs}(h1:PG X e t)(h2:PGs X es u)
  (hs:(ę (e::es) X.env).map (·.2)=ž e X.env::(ę es X.env).map (·.2):=by rfl):PGs X (e::es)<|Ps t u:=by
 intro Á s σ H vs us Q I r h;obtain⟨v,vr,e1,h⟩:=h;subst e1;cases r with
 |cons r rr =>rw[hs];refine assignInOrder_cons<|thn (h1 Á s σ H _ _ _ I r h) λ_ s1 ⟨σ1,H1,I1,q1⟩=>?_;exact h2 Á s1 σ1 H1 _ _ Q I1 rr q1
abbrev Ru(K:Frag)(n:Nat)(t:TGs):TG:=λv σ H Q=>∃a xs,v=.ref a/\fR K H a xs/\xs.length=n/\t xs σ H Q
def Bu{k:Nat}{t:TGs}{n:Nat}(hc:X.calm=ej)(h:PGs X es t)
  (hn:(ę es X.env).length=n:=by rfl) (ſ:(ę es X.env).findIdx? (·.1)=ei:=by rfl):PG X (.Tuple es k ç)<|Ru X.K n t:=by
 intro Á s σ H v u Q I r hw;obtain⟨a,xs,e1,hq,hl,hw⟩:=hw;subst e1;cases r;obtain⟨ñ,rv,ht,hz⟩:=I.tuple hq;refine assign_Tuple_tuple (I.ok.hd hc) ht (by simp[hn,<-hl,rv.length]) ſ λh' hx=>?_;have I1:Inv X Á σ H {s with heap:=h'}:=I.kept (t':=s.toks) λb o e=>hx b o (ä<|Ó e) e;exact h Á _ σ H xs _ Q I1 (by simpa using rv) hw
abbrev P9(to ti:TE)(t:A8):TG:=λv σ H Q=>to σ H λo H1=>ti σ H1 λi H2=>t o i v H2 λH3=>Q σ H3
variable {o:Expr} {i:Expr} {to:TE} {ti:TE}
def HQ{t:A8}(ho:PE X o to)(hi:PE X i ti)(hs:PSet X t)
  (ha:∀v,ž (.Subscript o i ç) X.env v=(do
    let ov<-Ŋ [v] (eval o X.env)
    let iv<-Ŋ [v,ov] (eval i X.env)
    Χ ç
    Ŋ [v,ov,iv] (aI ov iv v)
    dQ [v,ov,iv] []):=by intro _;rfl):PG X (.Subscript o i ç)<|P9 to ti t:=by
 intro Á s σ H v u Q I r h;rw[ha];refine À<|ė<|thn (ho Á s σ H _ I h) λov s1 ⟨x,H1,I1,r1,q1⟩=>?_;refine À<|ė<|thn (hi Á s1 σ H1 _ I1 q1) λiv s2 ⟨y,H2,I2,r2,q2⟩=>?_;refine À<|cT<|À<|ė<|thn (hs Á s2 σ H2 x y v ov iv u _ I2 r1 r2 r q2) λ_ s3 ⟨H3,I3,q3⟩=>?_;exact wpAny_release ⟨σ,H3,I3,q3⟩
abbrev Pf(te:TE)(g:TG):TS:=λD σ H=>te σ H λx H1=>g x σ H1 D.nx
variable {te:TE}
def CQ{tg:Expr}{g:TG}(he:PE X e te)(hg:PG X tg g)(hs:ώ [tg] e ç.line X.env=pure ez:=by rfl)(hw:Ϗ [tg] e X.env=pure ei:=by rfl)
  (h1:(ę [tg] X.env).map (·.2)=[ž tg X.env]:=by rfl):PS X (.Assign [tg] e ç)<|Pf te g:=by
 intro Á s σ H D I h;refine wpAny_Assign_stores (thn (he Á s σ H _ I h) λv s1 ⟨x,H1,I1,r1,q1⟩=>?_) hs hw;rw[h1];exact thn (hg Á s1 σ H1 x v _ I1 r1 q1) λ_ s2 q=>q
abbrev LR(to ti te:TE)(tget:V->V->Hp->VK->Prop)(tip:TIp)(tset:A8):TS:=λD σ H=>to σ H λo H1=>ti σ H1 λi H2=>tget o i H2 λx H3=>te σ H3 λy H4=>tip x y H4 λz H5=>tset o i z H5 λH6=>D.nx σ H6
abbrev PGet(X:Cx)(t:V->V->Hp->VK->Prop):Prop :=
 ∀(Á:List<|È×Obj) (s:Å) (σ:St) (H:Hp) (o i:V) (ov iv:Â) (Q:VK),Inv X Á σ H s->RelV o ov->RelV i iv->t o i H Q->
  wpAny (Û X.prog X.w) X.A (ϝ ov iv) (EP X Á σ Q) X.xe s
def EV{tget:V->V->Hp->VK->Prop}{tip:TIp}{tset:A8}{op:ϓ}{cB:Pos}(ho:PE X o to)(hi:PE X i ti)(hg:PGet X tget)(he:PE X e te)(hp:PIp X op tip)(hs:PSet X tset)
  (ha:∀ov iv new,augStore i ov iv new=(do Ŋ [new,ov,iv] (aI ov iv new);dQ [new,ov,iv] [];pure .next):=by intros;rfl):PS X (.AugAssign (.Subscript o i cB) op e ç)<|LR to ti te tget tip tset:=by
 intro Á s σ H D I h;refine wpAny_AugAssign_SubscriptAny (thn (ho Á s σ H _ I h) λov s1 ⟨x1,H1,I1,r1,q1⟩=>?_) ha;refine thn (hi Á s1 σ H1 _ I1 q1) λiv s2 ⟨x2,H2,I2,r2,q2⟩=>?_;refine thn (hg Á s2 σ H2 x1 x2 ov iv _ I2 r1 r2 q2) λϩ s3 ⟨x3,H3,I3,r3,q3⟩=>?_;refine thn (he Á s3 σ H3 _ I3 q3) λv s4 ⟨x4,H4,I4,r4,q4⟩=>?_;refine thn (hp Á s4 σ H4 x3 x4 ϩ v _ I4 r3 r4 q4) λnew s5 ⟨x5,H5,I5,r5,q5⟩=>?_;exact thn (hs Á s5 σ H5 x1 x2 x5 ov iv new _ I5 r1 r2 r5 q5) λ_ s6 ⟨H6,I6,q6⟩=>⟨σ,H6,I6,q6⟩
end
structure It where
 go:Nat->Hp->Prop
 yld:Nat->Hp->V->Hp->Prop
 stop:Nat->Hp->Prop
abbrev Wd(X:Cx)(Á:List<|È×Obj)(H:Hp)(b:È):Prop :=
 H b=ei/\b≠X.env.locals/\b∉X.fs/\(b∈X.ex\/X.s₀.heap.objs.size<=b)/\(∀x c,X.env.cells.lookup x=eh c->c≠b)/\∀p∈X.pn++Á,p.1≠b
variable {s:Å}
def Inv.fpOk{Á:List (È×Obj)}{σ:St}{H H':Hp}{b:È}(I:Inv X Á σ H s)(hb:s.heap.objs.size<=b)(hn:H' b=ei):Wd X Á H' b:=by
 refine⟨hn,ş<|ã I.lt hb,I.nofs hb,.inr<|Ý I.sz hb,λx c e z=>?_,λp hp z=>?_⟩
 .obtain⟨v,q⟩:=I.cell x c e;exact gc (ã q.lt<|by rw[z];exact hb)<|ě _
 .exact gc (ã (Ó (I.pin p hp).1)<|by rw[z];exact hb)<|ě _
structure Turn(P:à)(w:ó)(K:Frag)(tg:Expr)(J:It)(fp:List È)(it:È)(tn:Nat->Ă->Prop):Prop where
 mem:it∈fp
 obj:∀i h,tn i h->∀b∈fp,∃o,h.get? b=eh o/\∀v,o.data≠.cell v
 keep:∀i h h',tn i h->(∀b∈fp,∀o,h.get? b=eh o->h'.get? b=eh o)->tn i h'
 item:∀(X:Cx),X.prog=P->X.w=w->X.K=K->X.calm=ej->∀(i:Nat) (Á:List<|È×Obj) (s:Å) (σ:St) (H:Hp) (E:Â->Å->Prop),Inv X Á σ H s->(∀b∈fp,Wd X Á H b)->tn i s.heap->J.go i H->
  wpAny (Û P w) X.A (ŵ<|.ref it) (λr s1=>∃u,r=eh u/\
    wpAny (Û P w) X.A (ϥ tg (.ref it) u) (λ_ s2=>∃x H',Inv X Á σ H' s2/\RelV x u/\J.yld i H x H'/\tn (i+1) s2.heap/\∀b∈fp,H' b=ei) E s1) E s
 done:∀(X:Cx),X.prog=P->X.w=w->X.K=K->X.calm=ej->∀(i:Nat) (Á:List<|È×Obj) (s:Å) (σ:St) (H:Hp) (E:Â->Å->Prop),Inv X Á σ H s->(∀b∈fp,Wd X Á H b)->tn i s.heap->J.stop i H->
  wpAny (Û P w) X.A (ŵ<|.ref it) (λr s1=>r=ei/\Inv X Á σ H s1) E s
 self:∀(A:Ą) (i:Nat) (s:Å) (Q:Â->Å->Prop) (E:Â->Å->Prop),tn i s.heap->Q (.ref it) s->wpAny (Û P w) A (b7<|.ref it) Q E s
noncomputable abbrev TI:=St->Hp->(It->Hp->Prop)->Prop
abbrev PIE(X:Cx)(Á:List<|È×Obj)(σ:St)(tg:Expr)(R:It->Hp->Prop)(itv:Â)(s2:Å):Prop :=
 ∃(it:È) (fp:List È) (tn:Nat->Ă->Prop) (J:It) (H':Hp),itv=.ref it/\Inv X Á σ H' s2/\Turn X.prog X.w X.K tg J fp it tn/\tn 0 s2.heap/\(∀b∈fp,Wd X Á H' b)/\R J H'
abbrev PI(X:Cx)(tg ũ:Expr)(wi:TI):Prop :=
 ∀(Á:List<|È×Obj) (s:Å) (σ:St) (H:Hp) (R:It->Hp->Prop),Inv X Á σ H s->wi σ H R->
  wpAny (Û X.prog X.w) X.A (eval ũ X.env) (λv s1=>wpAny (Û X.prog X.w) X.A (b7 v) (PIE X Á σ tg R) X.xe s1) X.xe s
variable {tg:Expr}
def eL{M:Model}{A:Ą}{E:Â->Å->Prop}{it:È}{o:Obj}{n:String}{vs:Array Â}{Q:Unit->Å->Prop}(ho:s.heap.get? it=eh o)(hc:o.cls=.type n)(hd:o.data=.fields vs)
  (hn:["enumerate","zip","dict_itemiterator","dict_reverseitemiterator","odict_iterator","itertools.zip_longest","itertools.pairwise"].contains n=ez) (hQ:Q () s):wpAny M A (ϥ tg (.ref it) u) Q E s:=by
 unfold ϥ;cases tg<;>first
  |exact Æ hQ
  | (cases u<;>first
      |exact Æ hQ
      | (refine À (wpAny_load ho ?_)
         rw[hc,hd]
         show wpAny M A (if(["enumerate","zip","dict_itemiterator","dict_reverseitemiterator","odict_iterator","itertools.zip_longest","itertools.pairwise"].contains n&&vs[0]? == eh (Ğ _))=ej then _ else _) Q E s
         rw[f7<|by intro h;rw[hn,Bool.false_and]at h;cases h]
         exact Æ hQ))
abbrev Itl(K:Frag)(a:È):It :=
 ⟨λi H=>∃xs x,fQ K H a xs/\xs[i]?=eh x,λi H x H'=>H'=H/\∀xs,fQ K H a xs->xs[i]?=eh x,λi H=>∃xs,fQ K H a xs/\xs.length<=i⟩
abbrev Itt(K:Frag)(a:È):It :=
 ⟨λi H=>∃xs x,fR K H a xs/\xs[i]?=eh x,λi H x H'=>H'=H/\∀xs,fR K H a xs->xs[i]?=eh x,λi H=>∃xs,fR K H a xs/\xs.length<=i⟩
abbrev Itr(lo:Int)(n:Nat):It:=⟨λi _=>i<n,λi H x H'=>H'=H/\x=.int (lo+i),λi _=>n<=i⟩
variable {P:à} {w:ó}
def UE{K:Frag}(a it:È):Turn P w K tg (Itl K a) [it] it (λi h=>h.IsListIter it a i) where
 mem:=by simp
 obj:=λi h st b hb=>by
  have e:b=it:=by simpa using hb
  subst e;obtain⟨o,e,c,d⟩:=st;exact⟨o,e,λv z=>by rw[d]at z;cases z⟩
 keep:=λi h h' st k=>st.at λo e=>k it (by simp) o e
 item:=by intro X hP hw hK hc i Á s σ H E I hf st hg;subst hP hw hK;obtain⟨xs,x,hq,hx⟩:=hg;obtain⟨ñ,rv,p,hz⟩:=I.list hq;obtain⟨u,hu,ru⟩:=rv.get hx;obtain⟨f0,f1,f2,f3,f4,f5⟩:=hf it (by simp);refine wpAny_pyNext_list_item st p.isList (x:=u) (by simpa using hu) λh' dI sb=>?_;have I1:Inv X Á σ H {s with heap:=h'}:=I.turned (t':=s.toks) (λb o hb e=>(sb.2 b hb).trans e) f0 f1 f3 f4 f5;obtain⟨o,e,c,d⟩:=id dI;exact⟨u,rfl,eL (s:={s with heap:=h'}) e c d (by decide) ⟨x,H,I1,ru,⟨rfl,λys hy=>by rw[I.list_inj hy hq];exact hx⟩,dI,λb hb=>(hf b hb).1⟩⟩
 done:=by intro X hP hw hK hc i Á s σ H E I hf st hg;subst hP hw hK;obtain⟨xs,hq,hx⟩:=hg;obtain⟨ñ,rv,p,hz⟩:=I.list hq;obtain⟨f0,f1,f2,f3,f4,f5⟩:=hf it (by simp);have hl:=rv.length;exact wpAny_pyNext_list_end (I.ok.hd hc) st p.isList (by simp;lia) λh' eb=>⟨rfl,I.turned (t':=s.toks) (λb o hb e=>eb b o hb e) f0 f1 f3 f4 f5⟩
 self:=λ_ _ _ _ _ st h=>wpAny_pyIter_listiter st h
def Om{K:Frag}(a it:È):Turn P w K tg (Itt K a) [it] it (λi h=>h.IsTupleIter it a i) where
 mem:=by simp
 obj:=λi h st b hb=>by
  have e:b=it:=by simpa using hb
  subst e;obtain⟨o,e,c,d⟩:=st;exact⟨o,e,λv z=>by rw[d]at z;cases z⟩
 keep:=λi h h' st k=>st.at λo e=>k it (by simp) o e
 item:=by intro X hP hw hK hc i Á s σ H E I hf st hg;subst hP hw hK;obtain⟨xs,x,hq,hx⟩:=hg;obtain⟨ñ,rv,p,hz⟩:=I.tuple hq;obtain⟨u,hu,ru⟩:=rv.get hx;obtain⟨f0,f1,f2,f3,f4,f5⟩:=hf it (by simp);refine wpAny_pyNext_tuple_item st (show s.heap.IsTuple a ñ.toArray from p) (x:=u) (by simpa using hu) λh' dI sb=>?_;have I1:Inv X Á σ H {s with heap:=h'}:=I.turned (t':=s.toks) (λb o hb e=>(sb.2 b hb).trans e) f0 f1 f3 f4 f5;obtain⟨o,e,c,d⟩:=id dI;exact⟨u,rfl,eL (s:={s with heap:=h'}) e c d (by decide) ⟨x,H,I1,ru,⟨rfl,λys hy=>by rw[I.tuple_inj hy hq];exact hx⟩,dI,λb hb=>(hf b hb).1⟩⟩
 done:=by intro X hP hw hK hc i Á s σ H E I hf st hg;subst hP hw hK;obtain⟨xs,hq,hx⟩:=hg;obtain⟨ñ,rv,p,hz⟩:=I.tuple hq;obtain⟨f0,f1,f2,f3,f4,f5⟩:=hf it (by simp);have hl:=rv.length;exact wpAny_pyNext_tuple_end (I.ok.hd hc) st (show s.heap.IsTuple a ñ.toArray from p) (by simp;lia) λh' eb=>⟨rfl,I.turned (t':=s.toks) (λb o hb e=>eb b o hb e) f0 f1 f3 f4 f5⟩
 self:=λ_ _ _ _ _ st h=>wpAny_pyIter_tupleiter st h
def NS{K:Frag}(it:È)(lo:Int)(n:Nat):Turn P w K tg (Itr lo n) [it] it (λi h=>IsRangeIter h it (lo+(i:Nat)*1) ((n:Int) - (i:Nat)) 1) where
 mem:=by simp
 obj:=λi h st b hb=>by
  have e:b=it:=by simpa using hb
  subst e;exact⟨_,st,λv z=>by
    have z':Data.fields _=Data.cell v:=z
    cases z'⟩
 keep:=λi h h' st k=>k it (by simp) _ st
 item:=by intro X hP hw hK hc i Á s σ H E I hf st hg;subst hP hw hK;obtain⟨f0,f1,f2,f3,f4,f5⟩:=hf it (by simp);have W:=Walks.range (prog:=X.prog) (w:=X.w) (I.ok.hd hc) it lo 1 n;refine W.item i s _ _ hg st λv h' tk hv dI kk=>?_;obtain⟨t,rfl⟩:=hv;have I1:Inv X Á σ H {s with heap:=h',toks:=tk}:=I.turned (λb o hb e=>kk b o (by simpa using hb) e) f0 f1 f3 f4 f5;refine⟨_,rfl,eL (s:={s with heap:=h',toks:=tk}) (n:="range_iterator") dI rfl rfl (by decide) ⟨.int<|lo+i,H,I1,⟨t,?_⟩,⟨rfl,rfl⟩,dI,λb hb=>(hf b hb).1⟩⟩;rw[Int.mul_one]
 done:=by intro X hP hw hK hc i Á s σ H E I hf st hg;subst hP hw hK;obtain⟨f0,f1,f2,f3,f4,f5⟩:=hf it (by simp);exact wpAny_pyNext_range_end (I.ok.hd hc) st (by have:n<=i:=hg;lia) λh' eb=>⟨rfl,I.turned (t':=s.toks) (λb o hb e=>eb b o hb e) f0 f1 f3 f4 f5⟩
 self:=λ_ _ _ _ _ st h=>wpAny_pyIter_rangeiter st h
section
variable {X:Cx}{tg:Expr}
variable {Á:List (È×Obj)} {σ:St} {H:Hp} {s:Å}
def Nu{R:It->Hp->Prop}{E:Â->Å->Prop}{lo hi:Int}{t u v:Tok}{tk:Nat}(I:Inv X Á σ H s)(h1:-(2 ^ 62)<=lo)(h2:lo<2 ^ 62)(h3:-(2 ^ 62)<=hi)(h4:hi<2 ^ 62)
  (q:R (Itr lo (hi - lo).toNat) H):wpAny (Û X.prog X.w) X.A (b7<|.ref s.heap.objs.size) (PIE X Á σ tg R) E {s with heap:=s.heap.push {cls:=.type "range",data:=.fields #[.int lo t,.int hi u,.int 1 v]},toks:=tk}:=by
 refine wpAny_pyIter_range (IsRange.new ..) (small_one h1 h2 h3 h4) ?_;have I1:Inv X Á σ H { s with heap:=s.heap.push { cls:=.type "range",data:=.fields #[.int lo t,.int hi u,.int 1 v] },toks:=tk }:=I.kept λb o e=>Ä _ e;refine⟨(s.heap.push { cls:=.type "range",data:=.fields #[.int lo t,.int hi u,.int 1 v] }).objs.size,[(s.heap.push { cls:=.type "range",data:=.fields #[.int lo t,.int hi u,.int 1 v] }).objs.size],_,_,H,rfl,
   I1.kept (t':=tk) λb o e=>Ä _ e,NS _ lo (hi - lo).toNat,?_,λb hb=>?_,q⟩
 .have e1:lo+((0:Nat):Int)*1=lo:=by simp
  have e2:(((hi - lo).toNat:Nat):Int) - ((0:Nat):Int)=Builtin.Range.rangeSize lo hi 1:=by rw[rangeSize_one];split<;>lia
  show IsRangeIter _ _ (lo+((0:Nat):Int)*1) ((((hi - lo).toNat:Nat):Int) - ((0:Nat):Int)) 1;rw[e1,e2];exact Ñ _ rfl
 .have e:b=(s.heap.push {cls:=.type "range",data:=.fields #[.int lo t,.int hi u,.int 1 v]}).objs.size:=by simpa using hb
  subst e;exact I1.fpOk (Ì _)<|I1.hok.fresh<|Ì _
abbrev Pl(ta:TA):TI:=λσ H R=>ta σ H λvs H1=>∃j:Int,vs=[.int j]/\-(2 ^ 62)<=j/\j<2 ^ 62/\R (Itr 0 j.toNat) H1
abbrev P2(ta:TA):TI:=λσ H R=>ta σ H λvs H1=>∃i j:Int,vs=[.int i,.int j]/\(-(2 ^ 62)<=i/\i<2 ^ 62/\-(2 ^ 62)<=j/\j<2 ^ 62)/\R (Itr i (j - i).toNat) H1
variable {a:Expr} {ta:TA} {p:Pos} {ç:Pos}
def Ax(hg:Gl X "range")(hm:X.mg "range" = ei)(ha:PA X [a] ta)(hs:Ô [a] X.env=[(ez,eval a X.env)]:=by rfl):PI X tg (.Call (.Name "range" p) [a] [] ç)<|Pl ta:=by
 intro Á s σ H R I h;refine Call_<|Yx I hg hm boot_range<|PyProof.Rows.callWith_type1 (thn (ha ç Á s σ H _ I h) λus s1 ⟨vs,H1,I1,r1,q1⟩=>?_) hs rfl;obtain⟨j,e,q1,q2,q⟩:=q1;subst e;cases r1 with
 |cons r rr =>cases rr;obtain⟨t,rfl⟩:=r;exact call_range_1 (Nu I1 (by lia) (by lia) q1 q2<|by simpa using q)
def Aa{b:Expr}(hg:Gl X "range")(hm:X.mg "range" = ei)(ha:PA X [a,b] ta)(hs:Ô [a,b] X.env=[(ez,eval a X.env),(ez,eval b X.env)]:=by rfl)(hs2:Ô [b] X.env=[(ez,eval b X.env)]:=by rfl) :
  PI X tg (.Call (.Name "range" p) [a,b] [] ç) (P2 ta):=by
 intro Á s σ H R I h;refine Call_ (Yx I hg hm boot_range<|PyProof.Rows.callWith_type1 (thn (ha ç Á s σ H _ I h) λus s1 ⟨vs,H1,I1,r1,q1⟩=>?_) (by rw[hs,hs2])<|by rw[hs2];rfl);obtain⟨i,j,e,⟨q1,q2,q3,q4⟩,q⟩:=q1;subst e;cases r1 with
 |cons r rr =>
  cases rr with
  |cons r' rr =>cases rr;obtain⟨t,rfl⟩:=r;obtain⟨t',rfl⟩:=r';exact call_range_2<|Nu I1 q1 q2 q3 q4 q
abbrev Rl(wi:TI)(g:TG)(tb:TS):TS:=λD σ H=>wi σ H λJ H1=>∃W:Nat->Nat->St->Hp->Prop,(∃m,W 0 m σ H1)/\∀i m σ H,W i m σ H->
 (J.stop i H/\D.nx σ H)\/(J.go i H/\∃N:St->Hp->Prop,(∀Ř H',N Ř H'->∃m',m'<m/\W (i+1) m' Ř H')/\∀x H',J.yld i H x H'->g x σ H' λσ2 H2=>tb {D with nx:=N,ct:=N,bk:=D.nx} σ2 H2)
abbrev XD(fp:List È)(h:Ă):List<|È×Obj:=fp.filterMap λb=>(h.get? b).map λo=>(b,o)
variable {fp:List È} {h:Ă}
def ZN{b:È}{o:Obj}(hb:b∈fp)(e:h.get? b=eh o):(b,o)∈XD fp h:=μ.mpr ⟨b,hb,by rw[e];rfl⟩
def Kd{p:È×Obj}(hp:p∈XD fp h):p.1∈fp/\h.get? p.1=eh p.2:=by
 obtain⟨b,hb,e⟩:=μ.mp hp;cases q:h.get? b with
 |none=>rw[q]at e;cases e
 |some o =>rw[q]at e;have e':(b,o)=p:=í e;subst e';exact⟨hb,q⟩
def Inv.pinned(I:Inv X Á σ H s)(hf:∀b∈fp,Wd X Á H b)(ho:∀b∈fp,∃o,s.heap.get? b=eh o/\∀v,o.data≠.cell v):Inv X (Á++XD fp s.heap) σ H s :=
 I.pins_of λp hp=>(å.mp hp).elim (λz=>I.pin p<|É _ z) λz=>by obtain⟨hb,e⟩:=Kd z;obtain⟨f0,f1,f2,_⟩:=hf p.1 hb;obtain⟨o,e',d⟩:=ho p.1 hb;rw[e]at e';cases e';exact⟨e,f0,f1,f2,d⟩
def Inv.unpinned{pl:List (È×Obj)}(I:Inv X (Á++pl) σ H s):Inv X Á σ H s:=I.pins_of λp hp=>I.pin p (É _<|Ö _ hp)
def CH{ũ:Expr}{body:List Ľ}{wi:TI}{g:TG}{tb:TS}(hp:Ϸ (Û X.prog X.w) X.A X.env X.xe)(hc:X.calm=ej)(hi:PI X tg ũ wi)(hg:PG X tg g)(hb:PSs X body tb)
  (hs:∀x,ĕ ũ X.env x=pure x:=by intro _;rfl):PS X (.For tg ũ body [] ç)<|Rl wi g tb:=by
 intro Á s σ H D I h;refine wpAny_For (thn (hi Á s σ H _ I h) λv s1 h1=>thn h1 λitv s2 h2=>?_) hs;obtain⟨it,fp,tn,J,H2,e,I2,T,st2,f2,W,⟨m0,w0⟩,turn⟩:=h2;subst e;have stat:∀{H':Hp},(∀b∈fp,H' b=ei)->∀b∈fp,Wd X Á H' b:=λhn b hb=>⟨hn b hb,(f2 b hb).2⟩
 refine codeAny_forLoop_any (λn s'=>∃i Ř H',Inv X Á Ř H' s'/\tn i s'.heap/\(∀b∈fp,H' b=ei)/\W i n Ř H') ?_ m0 ⟨0,σ,H2,I2,st2,λb hb=>(f2 b hb).1,w0⟩;rintro n s3 ⟨i,σ3,H3,I3,st3,fr3,w3⟩;rcases turn i n σ3 H3 w3 with⟨stop,qn⟩|⟨go,N,hN,step⟩
 .refine π hp<|thn (T.done X rfl rfl rfl hc i Á s3 σ3 H3 X.xe I3 (stat fr3) st3 stop) λr s4 ⟨hr,I4⟩=>?_;subst hr;exact wpAny_execs_nil ⟨σ3,H3,I4,qn⟩
 .refine π hp<|thn (T.item X rfl rfl rfl hc i Á s3 σ3 H3 X.xe I3 (stat fr3) st3 go) λr s4 ⟨u,hr,h4⟩=>?_;subst hr;refine π hp<|thn h4 λ_ s5 ⟨x,H5,I5,r5,y5,st5,fr5⟩=>?_;have I5':=I5.pinned (stat fr5)<|T.obj _ _ st5;refine π hp<|thn (hg _ s5 σ3 H5 x u _ I5' r5<|step x H5 y5) λ_ s6 ⟨σ6,H6,I6,q6⟩=>?_;refine π hp<|thn (hb _ s6 σ6 H6 _ I6 q6) λf s7 q7=>?_;have again:∀{bh:St}{H7:Hp},Inv X (Á++XD fp s5.heap) bh H7 s7->N bh H7->∃m,m<n/\∃i Ř H',Inv X Á Ř H' s7/\tn i s7.heap/\(∀b∈fp,H' b=ei)/\W i m Ř H':=λ{bh H7} I7 n7=>by
   obtain⟨m',hm,w7⟩:=hN bh H7 n7;refine⟨m',hm,i+1,bh,H7,I7.unpinned,T.keep _ _ _ st5 λb hb o e=>(I7.pin (b,o)<|É _<|É _<|ZN hb e).1,λb hb=>?_,w7⟩;obtain⟨o,e,d⟩:=T.obj _ _ st5 b hb;exact(I7.pin (b,o)<|É _<|É _<|ZN hb e).2.1
  cases f with
  |next=>obtain⟨bh,H7,I7,n7⟩:=q7;exact again I7 n7
  |cont=>obtain⟨bh,H7,I7,n7⟩:=q7;exact again I7 n7
  |brk=>obtain⟨bh,H7,I7,q7⟩:=q7;exact⟨bh,H7,I7.unpinned,q7⟩
  |ret v=>obtain⟨x7,bh,H7,I7,r7,q7⟩:=q7;exact⟨x7,bh,H7,I7.unpinned,r7,q7⟩
end
noncomputable abbrev R2:=V->V->Hp->VK->Prop
abbrev OpR(X:Cx)(f:Â->Â->Sem Â)(r:R2):Prop :=
 ∀(Á:List<|È×Obj) (s:Å) (σ:St) (H:Hp) (x y:V) (v u:Â) (Q:VK),Inv X Á σ H s->RelV x v->RelV y u->r x y H Q->
  wpAny (Û X.prog X.w) X.A (f v u) (EP X Á σ Q) X.xe s
abbrev UnR(X:Cx)(f:Â->Sem Â)(r:V->Hp->VK->Prop):Prop :=
 ∀(Á:List<|È×Obj) (s:Å) (σ:St) (H:Hp) (x:V) (v:Â) (Q:VK),Inv X Á σ H s->RelV x v->r x H Q->
  wpAny (Û X.prog X.w) X.A (f v) (EP X Á σ Q) X.xe s
abbrev eP(X:Cx)(f:Â)(r:List V->Hp->VK->Prop):Prop :=
 ∀(Á:List<|È×Obj) (s:Å) (σ:St) (H:Hp) (xs:List V) (us:List Â) (Q:VK),Inv X Á σ H s->fS xs us->r xs H Q->
  wpAny (Û X.prog X.w) X.A (call f us) (EP X Á σ Q) X.xe s
abbrev Ry(X:Cx)(r:V->Hp->(Bool->Hp->Prop)->Prop):Prop :=
 ∀(Á:List<|È×Obj) (s:Å) (σ:St) (H:Hp) (x:V) (v:Â) (Q:Bool->Hp->Prop),Inv X Á σ H s->RelV x v->r x H Q->
  wpAny (Û X.prog X.w) X.A (truthy v) (TP X Á σ Q) X.xe s
abbrev tOp(r:R2)(ta tb:TE):TE:=λσ H Q=>ta σ H λx H1=>tb σ H1 λy H2=>r x y H2 Q
abbrev tUn(r:V->Hp->VK->Prop)(ta:TE):TE:=λσ H Q=>ta σ H λx H1=>r x H1 Q
abbrev rI(C:Int->Int->Prop)(g:Int->Int->V):R2:=λx y H Q=>∃i j,x=.int i/\y=.int j/\C i j/\Q (g i j) H
abbrev rI0(g:Int->Int->V):R2:=λx y H Q=>∃i j,x=.int i/\y=.int j/\Q (g i j) H
abbrev rU(g:Int->V):V->Hp->VK->Prop:=λx H Q=>∃i,x=.int i/\Q (g i) H
section
variable {X:Cx}{a b c:Expr}{ta tb tc:TE}{ç:Pos}
variable {f:Â->Â->Sem Â}
def Lw(ha:PE X a ta)(hb:PE X b tb){Á:List (È×Obj)}{s:Å}{σ:St}{H:Hp}{R:V->V->Hp->Prop}(I:Inv X Á σ H s)
  (h:ta σ H λx H1=>tb σ H1 λy H2=>R x y H2){Q:Â->Å->Prop} 
  (hf:∀v u s2 x y H2,Inv X Á σ H2 s2->RelV x v->RelV y u->R x y H2->wpAny (Û X.prog X.w) X.A (f v u) Q X.xe s2) :
  wpAny (Û X.prog X.w) X.A (eval a X.env) (λv Ě=>wpAny (Û X.prog X.w) X.A (eval b X.env) (λu bL=>wpAny (Û X.prog X.w) X.A (f v u) Q X.xe bL) X.xe Ě) X.xe s:=by
 refine thn (ha Á s σ H _ I h) λv s1 ⟨x,H1,I1,r1,q1⟩=>?_;refine thn (hb Á s1 σ H1 _ I1 q1) λu s2 ⟨y,H2,I2,r2,q2⟩=>?_;exact hf v u s2 x y H2 I2 r1 r2 q2
def Pc{op:ϓ}{r:R2}(ho:OpR X (ń op) r)(ha:PE X a ta)(hb:PE X b tb):PE X (.BinOp a op b ç)<|tOp r ta tb:=by intro Á s σ H Q I h;exact wpAny_BinOp (Lw ha hb I h λv u s2 x y H2 I2 rx ry q=>ho Á s2 σ H2 x y v u Q I2 rx ry q)
def QG{op:UnaryOp}{r:V->Hp->VK->Prop}(ho:UnR X (unaryOp op) r)(ha:PE X a ta):PE X (.UnaryOp op a ç)<|tUn r ta:=by intro Á s σ H Q I h;exact UnaryOp_ (thn (ha Á s σ H _ I h) λv s1 ⟨x,H1,I1,r1,q1⟩=>ho Á s1 σ H1 x v Q I1 r1 q1)
variable {g:Int->Int->Int}
def opI{C:Int->Int->Prop} 
  (rule:∀(i j:Int) (t u:Tok) (s:Å) (Q:Â->Å->Prop) (E:Â->Å->Prop),C i j->Q (.int (g i j) s.toks) {s with toks:=s.toks+1}->wpAny (Û X.prog X.w) X.A (f (.int i t)<|.int j u) Q E s) :
  OpR X f (rI C λi j=>.int<|g i j):=by
 intro Á s σ H x y v u Q I rx ry h;obtain⟨i,j,rfl,rfl,hc,q⟩:=h;obtain⟨t,rfl⟩:=rx;obtain⟨t',rfl⟩:=ry;exact rule i j t t' s _ _ hc ⟨.int<|g i j,H,I.tok _,⟨_,rfl⟩,q⟩
def P0  
  (rule:∀(i j:Int) (t u:Tok) (s:Å) (Q:Â->Å->Prop) (E:Â->Å->Prop),Q (.int (g i j) s.toks) {s with toks:=s.toks+1}->wpAny (Û X.prog X.w) X.A (f (.int i t)<|.int j u) Q E s) :
  OpR X f (rI0 λi j=>.int<|g i j):=by
 intro Á s σ H x y v u Q I rx ry h;obtain⟨i,j,rfl,rfl,q⟩:=h;obtain⟨t,rfl⟩:=rx;obtain⟨t',rfl⟩:=ry;exact rule i j t t' s _ _ ⟨.int<|g i j,H,I.tok _,⟨_,rfl⟩,q⟩
def EG{g:Int->Int->Bool}
  (rule:∀(i j:Int) (t u:Tok) (s:Å) (Q:Â->Å->Prop) (E:Â->Å->Prop),Q (.bool<|g i j) s->wpAny (Û X.prog X.w) X.A (f (.int i t)<|.int j u) Q E s) :
  OpR X f (rI0 λi j=>.bl<|g i j):=by
 intro Á s σ H x y v u Q I rx ry h;obtain⟨i,j,rfl,rfl,q⟩:=h;obtain⟨t,rfl⟩:=rx;obtain⟨t',rfl⟩:=ry;exact rule i j t t' s _ _ ⟨.bl<|g i j,H,I,rfl,q⟩
abbrev LN(i j:Int):Prop:=0<j/\j<1073741824
abbrev Qi(i j:Int):Prop:=0<=j/\j<=1000000/\i.natAbs<2 ^ 64
abbrev CMul(i j:Int):Prop:=(-(2 ^ 64)<i/\i<2 ^ 64)\/(-(2 ^ 64)<j/\j<2 ^ 64)
def CMul.ok{i j:Int}(h:CMul i j):IntMulOk i j:=by
 rcases h with⟨h1,h2⟩|⟨h1,h2⟩
 .exact .of_left<|ai h1 h2
 .exact .of_right<|ai h1 h2
def op_add:OpR X (ń .Add)<|rI0 λi j=>.int<|i+j:=P0 λ_ _ _ _ _ _ _ q=>add_int q
def Ik:OpR X (ń .Sub)<|rI0 λi j=>.int<|i - j:=P0 λ_ _ _ _ _ _ _ q=>sub_int q
def EI:OpR X (ń .FloorDiv)<|rI LN λi j=>.int<|i / j:=opI λi j _ _ _ _ _ hc q=>by have h1:(0:Int)<j:=hc.1;have h2:j<1073741824:=hc.2;exact floordiv_int (by lia) (by rw[Int.fdiv_eq_ediv_of_nonneg i<|by lia];exact q) (.inl<|PyProof.noPylong_small<|by lia)
def Lh:OpR X (ń .Mod)<|rI (λ_ j=>0<j) λi j=>.int<|i % j:=opI λi j _ _ _ _ _ hc q=>by have h1:(0:Int)<j:=hc;exact mod_int' (by lia) (by rw[Int.fmod_eq_emod_of_nonneg i<|by lia];exact q)
def Li:OpR X (ń .Pow)<|rI Qi λi j=>.int<|i ^ j.toNat:=opI λ_ _ _ _ _ _ _ hc q=>pow_int_small hc.1 hc.2.1 hc.2.2 q
def unI{f:Â->Sem Â}{g:Int->Int}
  (rule:∀(i:Int) (t:Tok) (s:Å) (Q:Â->Å->Prop) (E:Â->Å->Prop),Q (.int (g i) s.toks) {s with toks:=s.toks+1}->wpAny (Û X.prog X.w) X.A (f<|.int i t) Q E s) :
  UnR X f (rU λi=>.int<|g i):=by
 intro Á s σ H x v Q I rx h;obtain⟨i,rfl,q⟩:=h;obtain⟨t,rfl⟩:=rx;exact rule i t s _ _ ⟨.int<|g i,H,I.tok _,⟨_,rfl⟩,q⟩
def IL:UnR X (unaryOp .USub)<|rU λi=>.int (-i):=unI λ_ _ _ _ _ q=>neg_int q
end
section
variable {X:Cx}{a b c:Expr}{ta tb tc:TE}{ç:Pos}
def I0{Á:List (È×Obj)}{σ:St}{H:Hp}{s:Å}{Q:VK}{k k':Bool}(I:Inv X Á σ H s)(q:Q (.bl k) H)(e:k=k'):EP X Á σ Q (.bool k') s:=by subst e;exact⟨.bl k,H,I,rfl,q⟩
def op_lt:OpR X (è .Lt)<|rI0 λi j=>.bl<|gf (i<j):=EG λ_ _ _ _ _ _ _ q=>lt_int q
def Ph:OpR X (è .LtE)<|rI0 λi j=>.bl<|gf (i<=j):=EG λ_ _ _ _ _ _ _ q=>le_int q
def op_gt:OpR X (è .Gt)<|rI0 λi j=>.bl<|gf (j<i):=EG λ_ _ _ _ _ _ _ q=>gt_int q
def Px:OpR X (è .GtE)<|rI0 λi j=>.bl<|gf (j<=i):=EG λ_ _ _ _ _ _ _ q=>ge_int q
def AD:OpR X (è .In) λx y H Q=>∃i j,x=.str i/\y=.str j/\Q (.bl (!(Builtin.Str.occurrences j i 0 j.length 1).isEmpty)) H:=by intro Á s σ H x y v u Q I rx ry h;obtain⟨i,j,rfl,rfl,q⟩:=h;obtain⟨t,rfl⟩:=rx;obtain⟨t',rfl⟩:=ry;exact in_str (I0 I q rfl)
variable {r:R2} {r':R2}
def OpR.or{f:Â->Â->Sem Â}(h:OpR X f r)(h':OpR X f r'):OpR X f λx y H Q=>r x y H Q\/r' x y H Q:=by
 intro Á s σ H x y v u Q I rx ry q;rcases q with q|q
 .exact h Á s σ H x y v u Q I rx ry q
 .exact h' Á s σ H x y v u Q I rx ry q
variable {op:b6}
def Ue(ho:OpR X (è op) r)(ha:PE X a ta)(hb:PE X b tb)(hm:ļ op b=ez):PE X (.Compare a [op] [b] ç)<|tOp r ta tb:=by intro Á s σ H Q I h;exact wpAny_Compare1 (Lw ha hb I h λv u s2 x y H2 I2 rx ry q=>ho Á s2 σ H2 x y v u Q I2 rx ry q) hm
abbrev Gq(t:TE):TT:=λσ H Q=>t σ H λx H'=>∃k,x=.bl k/\Q k H'
def OO(ho:OpR X (è op) r)(ha:PE X a ta)(hb:PE X b tb)(hm:ļ op b=ez):PT X (.Compare a [op] [b] ç)<|Gq<|tOp r ta tb:=by
 intro Á s σ H Q I h;refine wpAny_isTrue_Compare1 (thn (ha Á s σ H _ I h) λv s1 ⟨x,H1,I1,r1,q1⟩=>thn (hb Á s1 σ H1 _ I1 q1) λu s2 ⟨y,H2,I2,r2,q2⟩ =>
   thn (ho Á s2 σ H2 x y v u _ I2 r1 r2 q2) λc s3 ⟨z,H3,I3,r3,k,e,q3⟩=>?_) hm
 subst e;cases r3;exact Ď ⟨H3,I3,q3⟩
abbrev Cs(r r':R2)(ta tb tc:TE):TE:=λσ H Q=>ta σ H λx H1=>tb σ H1 λy H2=>r x y H2 λz H3=>∃k,z=.bl k/\
 (if k=ej then tc σ H3 λw' H4=>r' y w' H4 Q else Q (.bl ez) H3)
variable {db:b6}
def BD(ho:OpR X (è op) r)(al:OpR X (è db) r')(ha:PE X a ta)(hb:PE X b tb)(hc:PE X c tc)
  (hm:bb [op,db] [b,c]=ez:=by with_unfolding_all rfl):PE X (.Compare a [op,db] [b,c] ç)<|Cs r r' ta tb tc:=by
 intro Á s σ H Q I h;refine Compare_chain (thn (ha Á s σ H _ I h) λv s1 ⟨x,H1,I1,r1,q1⟩=>chain_link (thn (hb Á s1 σ H1 _ I1 q1) λu s2 ⟨y,H2,I2,r2,q2⟩ =>
   thn (ho Á s2 σ H2 x y v u _ I2 r1 r2 q2) λd s3 ⟨z,H3,I3,r3,k,e,q3⟩=>?_)) hm
 subst e;cases r3;refine Ď ?_;cases k with
 |false=>exact ite_ff ⟨.bl ez,H3,I3,rfl,q3⟩
 |true=>exact ite_tt<|chain_last<|thn (hc Á s3 σ H3 _ I3 q3) λw' s4 ⟨z',H4,I4,r4,q4⟩=>al Á s4 σ H4 y z' u w' Q I4 r2 r4 q4
def Du(ho:OpR X (è op) r)(al:OpR X (è db) r')(ha:PE X a ta)(hb:PE X b tb)(hc:PE X c tc)
  (hm:bb [op,db] [b,c]=ez:=by with_unfolding_all rfl):PT X (.Compare a [op,db] [b,c] ç)<|Gq<|Cs r r' ta tb tc:=by
 intro Á s σ H Q I h;refine isTrue_chain (thn (ha Á s σ H _ I h) λv s1 ⟨x,H1,I1,r1,q1⟩=>test_link (thn (hb Á s1 σ H1 _ I1 q1) λu s2 ⟨y,H2,I2,r2,q2⟩ =>
   thn (ho Á s2 σ H2 x y v u _ I2 r1 r2 q2) λd s3 ⟨z,H3,I3,r3,k,e,q3⟩=>?_)) hm
 subst e;cases r3;refine Ď ?_;cases k with
 |false =>obtain⟨k',e',q'⟩:=q3;cases e';exact ite_ff ⟨H3,I3,q'⟩
 |true =>refine ite_tt<|test_last<|thn (hc Á s3 σ H3 _ I3 q3) λw' s4 ⟨z',H4,I4,r4,q4⟩=>thn (al Á s4 σ H4 y z' u w' _ I4 r2 r4 q4) λd' s5 ⟨z2,H5,I5,r5,k2,e2,q5⟩=>?_;subst e2;cases r5;exact Ď ⟨H5,I5,q5⟩
abbrev L8(K:Frag)(x:V)(H:Hp)(k:Bool):Prop :=
 match x with
 |.non=>k=ez
 |.bl b=>k=b
 |.int i=>k=(i != 0)
 |.str y=>y.length<=Ù/\k=((y.length:Int) != 0)
 |.byt y=>y.size<=Ù/\k=((y.size:Int) != 0)
 |.ref p=>(∃xs,fQ K H p xs/\k=!xs.isEmpty)\/(∃xs,fR K H p xs/\k=!xs.isEmpty)\/∃kvs,H p=eh (.dK kvs)/\k=!kvs.isEmpty
 |_=>False
def Op{κ:Type}{kvs:List (κ×V)}{vs:List (κ×Â)}(r:KV kvs vs):(!vs.isEmpty)=!kvs.isEmpty:=by cases r<;>rfl
def JI{xs:List V}{ñ:List Â}(r:fS xs ñ):(!ñ.toArray.isEmpty)=!xs.isEmpty:=by cases r<;>simp
def YY:(Ù:Nat)<2 ^ 63:=by rw[Ϯ];decide
def ID:Ry X λx H Q=>∃k,L8 X.K x H k/\Q k H:=by
 intro Á s σ H x v Q I rx h;obtain⟨k,e,q⟩:=h;have hl:=YY;have hs:Ù=16777216:=Ϯ;cases x with
 |non =>cases rx;have e':k=ez:=e;subst e';exact truthy_none ⟨H,I,q⟩
 |bl b =>cases rx;have e':k=b:=e;subst e';exact Ď ⟨H,I,q⟩
 |int i =>obtain⟨t,rfl⟩:=rx;have e':k=(i != 0):=e;subst e';exact PySem.P.truthy_int ⟨H,I,q⟩
 |str y =>obtain⟨t,rfl⟩:=rx;obtain⟨hy,e'⟩:y.length<=Ù/\k=((y.length:Int) != 0):=e;subst e';exact PySem.P.truthy_str (by lia) ⟨H,I.tok _,q⟩
 |byt y =>obtain⟨t,rfl⟩:=rx;obtain⟨hy,e'⟩:y.size<=Ù/\k=((y.size:Int) != 0):=e;subst e';exact PySem.W.truthy_bytes (by lia) ⟨H,I.tok _,q⟩
 |ref p =>
  cases rx;have e':(∃xs,fQ X.K H p xs/\k=!xs.isEmpty)\/(∃xs,fR X.K H p xs/\k=!xs.isEmpty)\/∃kvs,H p=eh (.dK kvs)/\k=!kvs.isEmpty:=e;rcases e' with⟨xs,hx,e'⟩|⟨xs,hx,e'⟩|⟨kvs,hx,e'⟩
  .subst e';obtain⟨ñ,r,pl,hz⟩:=I.list hx;have hlen:=r.length;exact wpAny_truthy_list pl.isList (by simp only[Í];lia) ⟨H,I.tok _,by rw[JI r];exact q⟩
  .subst e';obtain⟨ñ,r,pl,hz⟩:=I.tuple hx;have hlen:=r.length;exact truthy_tuple pl (by simp only[Í];lia) ⟨H,I.tok _,by rw[JI r];exact q⟩
  .subst e';obtain⟨hz,hS,vs,r,m⟩:kvs.length<=Ù/\(p==œ)=ez/\∃vs,KV kvs vs/\s.heap.DictOf (Ze X.prog X.w) p vs:=I.hok p _ hx;have hlen:kvs.length=vs.length:=Paired.length r;exact wpAny_truthy_dict hS m (by lia) ⟨H,I.tok _,by rw[Op r];exact q⟩
 |_=>exact(show False from e).elim
def A2(ha:PE X a ta)(he:∀av,bZ a X.env av=(do let v<-av;Χ a.pos;Ŋ [v] (truthy v))) :
  PT X a (λσ H Q=>ta σ H λx H'=>∃k,L8 X.K x H' k/\Q k H'):=by
 intro Á s σ H Q I h;exact isTrue_plain (thn (ha Á s σ H _ I h) λv s1 ⟨x,H1,I1,r1,q1⟩=>ID Á s1 σ H1 x v Q I1 r1 q1)<|he _
def N3:OpR X (ń .Add) λx y H Q=>∃i j,x=.str i/\y=.str j/\i.length+j.length<=Ù/\Q (.str<|i++j) H:=by intro Á s σ H x y v u Q I rx ry h;obtain⟨i,j,rfl,rfl,hz,q⟩:=h;obtain⟨t,rfl⟩:=rx;obtain⟨t',rfl⟩:=ry;exact add_str (λt' tk=>⟨.str<|i++j,H,I.tok _,⟨_,rfl⟩,q⟩) hz
variable {x:V} {us:List Â}
def ZT(r:fS [x] us):∃u,us=[u]/\RelV x u:=by
 cases r with
 |cons r1 r2=>cases r2;exact⟨_,rfl,r1⟩
def Uw{y:V}(r:fS [x,y] us):∃u w',us=[u,w']/\RelV x u/\RelV y w':=by
 cases r with
 |cons r1 r2 =>
  cases r2 with
  |cons r3 r4=>cases r4;exact⟨_,_,rfl,r1,r3⟩
def AM(hc:X.calm=ej):eP X (.builtin "max") λxs H Q=>∃i j,xs=[.int i,.int j]/\Q (.int<|if j > i then j else i) H:=by
 intro Á s σ H xs us Q I r h;obtain⟨i,j,rfl,q⟩:=h;obtain⟨u,w',rfl,⟨t,rfl⟩,⟨t',rfl⟩⟩:=Uw r;refine max_two_ints (I.ok.hd hc) λh' tk k=>⟨_,H,I.kept k,?_,q⟩
 by_cases hj:j > i
 .rw[f6 hj,f6 hj];exact⟨_,rfl⟩
 .rw[f7 hj,f7 hj];exact⟨_,rfl⟩
def U9(hc:X.calm=ej):eP X (.builtin "min") λxs H Q=>∃i j,xs=[.int i,.int j]/\Q (.int<|if j<i then j else i) H:=by
 intro Á s σ H xs us Q I r h;obtain⟨i,j,rfl,q⟩:=h;obtain⟨u,w',rfl,⟨t,rfl⟩,⟨t',rfl⟩⟩:=Uw r;refine min_two_ints (I.ok.hd hc) λh' tk k=>⟨_,H,I.kept k,?_,q⟩
 by_cases hj:j<i
 .rw[f6 hj,f6 hj];exact⟨_,rfl⟩
 .rw[f7 hj,f7 hj];exact⟨_,rfl⟩
def call_int1:eP X (.type "int") λxs H Q=>(∃i,xs=[.int i]/\Q (.int i) H)\/∃k,xs=[.bl k]/\Q (.int<|if k then 1 else 0) H:=by
 intro Á s σ H xs us Q I r h;rcases h with⟨i,rfl,q⟩|⟨k,rfl,q⟩
 .obtain⟨u,rfl,t,rfl⟩:=ZT r;exact call_int_int ⟨.int i,H,I,⟨_,rfl⟩,q⟩
 .obtain⟨u,rfl,r1⟩:=ZT r;cases r1;exact call_int_bool ⟨.int (if k then 1 else 0),H,I.tok _,⟨_,rfl⟩,q⟩
end
structure ObjM(h:Ă)(x dx C:È)(mA:Str->Option Â):Prop where
 obj:h.get? x=eh (PySem.W.instObj C dx)
 ns:h.Ns1 dx mA
 ne:dx≠x
variable {h:Ă} {dx:È} {mA:Str->Option Â}
def An(n:h.Ns1 dx mA):∃od,h.get? dx=eh od/\∀name,PySem.W.lookIn name od=eh (mA name):=by
 obtain⟨o,es,ep,ho,hd,hk,_,hm⟩:=n;refine⟨o,ho,λname=>?_⟩;have e:=hm name;unfold nsFind findBy at e;rw[<-Array.find?_toList]at e;unfold PySem.W.lookIn;rw[hd];dsimp only;split
 .rename_i y q;rw[q]at e;exact congrArg eh e
 .rename_i q;rw[q]at e;have a:es.toList.any (·.refKey)=ez:=by
   rw[List.any_eq_false];intro y hy;obtain⟨z,t,hkey⟩:=hk y<|Array.mem_toList_iff.mp hy;simp[DictEntry.refKey,hkey]
  have a':¬ es.toList.any (·.refKey)=ej:=by rw[a];exact ü
  rw[f7 a'];exact congrArg eh e
variable {C:È}
def ObjM.look{x:È}(I:ObjM h x dx C mA):∃od,PySem.W.InstAt h x (PySem.W.instObj C dx) C (eh od)/\∀name,PySem.W.lookIn name od=eh (mA name) :=
 let ⟨od,ho,hl⟩:=An I.ns
 ⟨od,⟨I.obj,rfl,rfl,ho⟩,hl⟩
section
variable {prog:à}{w:ó}{A:Ą}{E:Â->Å->Prop}{s:Å}{K:Frag}{x dx C f:È}{mA:Str->Option Â}{name:Str}{v:Â}
def Fm{expr:Bool}{Q:Â->Å->Prop}(X:K.In s.heap)(I:ObjM s.heap x dx C mA)(hg:PySem.W.plainGet K C name=ej)(hh:PySem.W.hasDictIn K C=ej)
  (ha:PySem.W.findIn K (.ref C) name=eh ei) (hv:mA name=eh v) (hv':PySem.W.handedIn v=ej) (h:Q v {s with toks:=s.toks+1}) :
  wpAny (Û prog w) A (getAttr (.ref x) name expr) Q E s:=by
 obtain⟨od,J,hl⟩:=I.look;exact PySem.W.get_value X J (PySem.W.plainGet_of hg).1 (PySem.W.findObj_own hh ha rfl<|by rw[hl,hv]) hv' h
def CO{pl:Sem Bool}{Q:Â×List Â->Å->Prop}(X:K.In s.heap)(I:ObjM s.heap x dx C mA)(hg:PySem.W.plainGet K C name=ej)
  (hf:PySem.W.findIn K (.ref C) name=eh (eh<|.ref f)) (ht:PySem.W.isFn K (.ref f)=ej) (hv:mA name=ei) (h:Q (.ref f,[.ref x]) s) :
  wpAny (Û prog w) A (ϔ (.ref x) name pl) Q E s:=by
 obtain⟨od,J,hl⟩:=I.look;exact PySem.W.method_fn X J (PySem.W.plainGet_of hg).1 (PySem.W.plainGet_of hg).2 hf (beq_iff_eq.mp ht) (by show(PySem.W.lookIn name od).map (·.isSome)=eh ez;rw[hl,hv];rfl) h
def DX{ns:List Str}{Q:Unit->Å->Prop}(X:K.In s.heap)(I:ObjM s.heap x dx C mA)
  (hs:PySem.W.findIn K (.ref C) "__setattr__" = eh (eh<|.builtin "object.__setattr__")) (hp:PySem.W.plainOver K C=ej) (ht:PySem.W.takerIn K C name=eh ei) (hh:PySem.W.hasDictIn K C=ej)
  (hw:PySem.Within mA ns) (hsz:ns.length<=Ù)
  (h:∀h',ObjM h' x dx C (λy=>if y=name then eh v else mA y)->ś dx s.heap h'->Q () {s with heap:=h',toks:=s.toks+2}) :
  wpAny (Û prog w) A (setAttr (.ref x) name v) Q E s:=by
 obtain⟨od,J,hl⟩:=I.look;refine PySem.W.set_plain X J hs<|PySem.W.osa_open (s:={s with toks:=s.toks+1}) (r:=ei) X J hp ht λb=>?_;obtain⟨cd,hc,hd'⟩:=PySem.W.any_some hh;have hx:s.heap.get? x=eh ⟨.ref C,eh dx,.plain,#[]⟩:=I.obj;refine À<|Æ<|À<|À<|wpAny_loadPart hx<|À<|PySem.W.Looks.here (s:={s with toks:=s.toks+1}) (PySem.W.looks_clsIn X hc) ?_;rw[hd'];refine Æ (a:=eh dx)<|À<|Æ<|À ?_;refine wpAny_nsSet1 (s:={s with toks:=s.toks+1}) I.ns λh' hn2 hs2=>?_;obtain⟨oD,esD,epD,hoD,hdD,hcD⟩:=hn2.count<|PySem.Within.cons name v hw;refine À (wpAny_lookBehind hoD (by rw[hdD];exact pastItsLine_dict<|Ý hcD<|by rw[Ë];lia) ?_);exact Æ<|h _ ⟨(hs2.2 _<|Ne.symm I.ne).trans I.obj,hn2,I.ne⟩ hs2
def DJ{R:bc->Å->Prop}{vs:List Â}{kw:List (Str×Â)}(X:K.In s.heap)(hm:PySem.W.makesIn K C=ej)
  (hi:PySem.W.findIn K (.ref C) "__init__" = eh (eh<|.ref f)) (hf:PySem.W.typeIn K (.ref f)=eh (.type "function"))
  (h:codeAny (Û prog w) (A.under<|.builtin "type.__call__" ⟨.ref C::vs,kw⟩) (.call (.ref f) ⟨.ref (s.heap.objs.size+1)::vs,kw⟩) (PySem.W.InitBack (s.heap.objs.size+1) R)
    { s with heap:=(s.heap.push PySem.W.emptyDict).push (PySem.W.instObj C s.heap.objs.size) }) :
  codeAny (Û prog w) A (.call (.ref C) ⟨vs,kw⟩) R s:=by
 obtain⟨hh,g,d,t,os⟩:=s;exact PySem.W.make_core (PySem.W.makes_of X hm) (PySem.W.looks_findIn X hi) (λself=>PySem.W.bind_fn X self hf) (.inl rfl) h
end
abbrev eX(f:Str)(v:V):List (Str×V)->List (Str×V)
 |[]=>[(f,v)]
 |(g,x)::r=>if g=f then(g,v)::r else(g,x)::eX f v r
def Wq(f g:Str)(v:V):∀fs:List<|Str×V,(eX f v fs).lookup g=if g=f then eh v else fs.lookup g
 |[]=>by
  show Ż g [(f,v)]=_;by_cases h:g=f
  .have hb:(g==f)=ej:=beq_iff_eq.mpr h;simp only[Ż,hb,f6 h]
  .have hb:(g==f)=ez:=beq_eq_false_iff_ne.mpr h;simp only[Ż,hb,f7 h]
 |(k,x)::r=>by
  have ih:=Wq f g v r;rw[show eX f v ((k,x)::r)=(if k=f then(k,v)::r else(k,x)::eX f v r) from rfl];by_cases hk:k=f
  .rw[f6 hk];by_cases h:g=k
   .have hb:(g==k)=ej:=beq_iff_eq.mpr h;simp only[Ż,hb,f6<|h.trans hk]
   .have hb:(g==k)=ez:=beq_eq_false_iff_ne.mpr h;simp only[Ż,hb,f7 λe:g=f=>h<|e.trans hk.symm]
  .rw[f7 hk];by_cases h:g=k
   .have hb:(g==k)=ej:=beq_iff_eq.mpr h;simp only[Ż,hb,f7 λe:g=f=>hk<|h.symm.trans e]
   .have hb:(g==k)=ez:=beq_eq_false_iff_ne.mpr h;simp only[Ż,hb];exact ih
def Wi(f:Str)(v:V):∀fs:List<|Str×V,f∈(eX f v fs).map (·.1)/\∀g,g∈fs.map (·.1)->g∈(eX f v fs).map (·.1)
 |[]=>⟨by simp[eX],λg h=>by simp at h⟩
 |(k,x)::r=>by
  obtain⟨i1,i2⟩:=Wi f v r;rw[show eX f v ((k,x)::r)=(if k=f then(k,v)::r else(k,x)::eX f v r) from rfl];by_cases hk:k=f
  .rw[f6 hk];subst hk;exact⟨by simp,λg h=>by simpa using h⟩
  .rw[f7 hk];refine⟨?_,λg h=>?_⟩
   .rw[Ï];exact Ü _ i1
   .rw[Ï]at h ⊢;rcases Ç.mp h with e|e
    .exact Ç.mpr<|.inl e
    .exact Ü _<|i2 g e
def Wu(f:Str)(v:V):∀fs:List<|Str×V,(eX f v fs).length<=fs.length+1
 |[]=>by simp[eX]
 |(k,x)::r=>by
  have ih:=Wu f v r;rw[show eX f v ((k,x)::r)=(if k=f then(k,v)::r else(k,x)::eX f v r) from rfl];by_cases hk:k=f
  .rw[f6 hk,Ë,Ë];lia
  .rw[f7 hk,Ë,Ë];lia
variable {o:Option Â}
def fi.some_of{v:V}(r:fi (eh v) o):∃u,o=eh u/\RelV v u:=by
 cases o with
 |none=>exact(show False from r).elim
 |some u=>exact⟨u,rfl,r⟩
def fi.none_of(r:fi ei o):o=ei:=by
 cases o with
 |none=>rfl
 |some u=>exact(show False from r).elim
variable {u:Â}
def Am{v:V}(r:RelV v u):PySem.W.handedIn u=ej:=by
 cases v with
 |non=>cases (show u=Value.none from r);rfl
 |bl b=>cases (show u=Value.bool b from r);rfl
 |int i=>obtain⟨t,e⟩:=(show ∃t,u=Value.int i t from r);cases e;rfl
 |str x=>obtain⟨t,e⟩:=(show ∃t,u=Value.str x t from r);cases e;rfl
 |byt b=>obtain⟨t,e⟩:=(show ∃t,u=Value.bytes b t from r);cases e;rfl
 |flt b=>obtain⟨t,e⟩:=(show ∃t,u=Value.float b t from r);cases e;rfl
 |ref a=>cases (show u=Value.ref a from r);rfl
 |ty n=>cases (show u=Value.type n from r);rfl
section
variable {P:à}{w:ó}{H H':Hp}{h h':Ă}{a C dx:È}{fs dG:List (Str×V)}
def WO(hok:HOk P w H h)(e:H a=eh (.ins C dx fs)):∃mA,ObjM h a dx C mA/\(∀f,fi (fs.lookup f)<|mA f)/\PySem.Within mA (fs.map (·.1))/\fs.length<=1000/\H dx=eh (.own a):=by
 obtain⟨d,z,ne,ob,mA,n,r,q⟩:=(show eQ P w H h a (.ins C dx fs) from hok a _ e)
 exact⟨mA,⟨ob,n,ne⟩,r,q,z,d⟩
end
structure Cls(K:Frag)(C:È):Prop where
 pg:PySem.W.plainGet K C Str.empty=ej
 hd:PySem.W.hasDictIn K C=ej
 po:PySem.W.plainOver K C=ej
 sa:PySem.W.findIn K (.ref C) "__setattr__" = eh (eh<|.builtin "object.__setattr__")
def Cls.get{K:Frag}(c:Cls K C)(f:Str):PySem.W.plainGet K C f=ej:=c.pg
abbrev NoAttr(K:Frag)(C:È)(f:Str):Prop:=PySem.W.findIn K (.ref C) f=eh ei
def NoAttr.taker{K:Frag}{f:Str}(n:NoAttr K C f):PySem.W.takerIn K C f=eh ei:=by unfold PySem.W.takerIn;rw[show PySem.W.findIn K (.ref C) f=eh ei from n];rfl
structure Meth(K:Frag)(C:È)(m:Str)(f:È):Prop where
 at_:PySem.W.findIn K (.ref C) m=eh (eh<|.ref f)
 fn:PySem.W.isFn K (.ref f)=ej
 kp:PySem.W.keepIn K (.ref f)=ej
section
variable {X:Cx}{Á:List (È×Obj)}{σ:St}{H:Hp}{s:Å}{a C dx:È}{fs:List (Str×V)}{f:Str}{v:V}{A:Ą}{E:Â->Å->Prop}
variable {Q:Â->Å->Prop}
def Jj{b:Bool}(I:Inv X Á σ H s)(e:H a=eh (.ins C dx fs))(c:Cls X.K C)(n:NoAttr X.K C f)(l:fs.lookup f=eh v)
  (h:∀u s',Inv X Á σ H s'->RelV v u->Q u s'):wpAny (Û X.prog X.w) A (getAttr (.ref a) f b) Q E s:=by
 obtain⟨mA,O,r,_,_,_⟩:=WO I.hok e;obtain⟨u,hu,ru⟩:=fi.some_of (v:=v) (o:=mA f) (by rw[<-l];exact r f);exact Fm I.kIn O (c.get f) c.hd n hu (Am ru)<|h u _ (I.tok _) ru
def Jz{m:Str}{g:È}{pl:Sem Bool}{Q:Â×List Â->Å->Prop}(I:Inv X Á σ H s)(e:H a=eh (.ins C dx fs))(c:Cls X.K C)(k:Meth X.K C m g)(l:fs.lookup m=ei)
  (h:Q (.ref g,[.ref a]) s):wpAny (Û X.prog X.w) A (ϔ (.ref a) m pl) Q E s:=by
 obtain⟨mA,O,r,_,_,_⟩:=WO I.hok e;have hn:mA m=ei:=fi.none_of (by rw[<-l];exact r m);exact CO I.kIn O (c.get m) k.at_ k.fn hn h
def Jr{y:V}{Q:Unit->Å->Prop}(I:Inv X Á σ H s)(e:H a=eh (.ins C dx fs))(c:Cls X.K C)(n:NoAttr X.K C f)(hl:fs.length<1000)(ry:RelV y u)
  (h:∀s',Inv X Á σ (upd H a<|.ins C dx<|eX f y fs) s'->Q () s'):wpAny (Û X.prog X.w) A (setAttr (.ref a) f u) Q E s:=by
 obtain⟨mA,O,r,wi,_,ho⟩:=WO I.hok e;have hz:(fs.map (·.1)).length<=Ù:=by rw[Ã,Ϯ];lia
 refine DX I.kIn O c.sa c.po n.taker c.hd wi hz λh' O' sb=>h _ ?_;have hd:∃o,h'.get? dx=eh o:=let ⟨o,_,_,e',_⟩:=O'.ns;⟨o,e'⟩;refine I.write (x:=a) (e:=dx) (by rw[e];exact True.intro) (.inr ho) (λb q hb z=>(sb.2 b hb).trans z) hd ?_;refine⟨by rw[eB O.ne];exact ho,?_,O.ne,O'.obj,_,O'.ns,λg=>?_,λg hg=>?_⟩
 .have:=Wu f y fs;lia
 .show fi ((eX f y fs).lookup g) (if g=f then eh u else mA g);rw[Wq];by_cases q:g=f
  .rw[f6 q,f6 q];exact ry
  .rw[f7 q,f7 q];exact r g
 .by_cases q:g=f
  .rw[q];exact(Wi f y fs).1
  .refine(Wi f y fs).2 g<|wi g λz=>hg ?_;show(if g=f then eh u else mA g)=ei;rw[f7 q];exact z
def Inv.made(I:Inv X Á σ H s):Inv X Á σ (upd (upd H s.heap.objs.size<|.own<|s.heap.objs.size+1) (s.heap.objs.size+1)<|.ins C s.heap.objs.size [])
  {s with heap:=(s.heap.push PySem.W.emptyDict).push (PySem.W.instObj C s.heap.objs.size)}:=by
 have e1:(s.heap.push PySem.W.emptyDict).get? s.heap.objs.size=eh PySem.W.emptyDict:=Ñ s.heap rfl;have e2:((s.heap.push PySem.W.emptyDict).push<|PySem.W.instObj C s.heap.objs.size).get? (s.heap.objs.size+1)=eh (PySem.W.instObj C s.heap.objs.size):=by
  have:=Ñ (s.heap.push PySem.W.emptyDict) (o:=PySem.W.instObj C s.heap.objs.size) rfl
  rwa [Ŭ]at this
 have e3:(s.heap.push PySem.W.emptyDict).Ns s.heap.objs.size λ_=>ei:=⟨PySem.W.emptyDict,#[],_,e1,rfl,(λe he=>gc he<|by simp),λ_=>rfl⟩
 have I1:=I.laid (a:=s.heap.objs.size) (o:=.own<|s.heap.objs.size+1) (h':=s.heap.push PySem.W.emptyDict) (t':=s.toks) (λb u q=>Ä _ q) (Ì _) ⟨_,e1⟩;refine I1.laid (a:=s.heap.objs.size+1) (o:=.ins C s.heap.objs.size []) (t':=s.toks) (λb u q=>Ä _ q) (Nat.le_of_eq<|Ŭ _ _) ?_;have ne:s.heap.objs.size≠s.heap.objs.size+1:=ä<|ĭ _;refine⟨by rw[eB ne,eC],į _,ne,e2,λ_=>ei,(Heap.Ns1.of_empty e3).at λo q=>Ä _ q,λ_=>True.intro,λy hy=>gc rfl hy⟩
def DM{prog:à}{w:ó}{env:Env}{e:Expr}{ç:Pos}(hb:Ġ e f env (eval e env)=eval e env)
  (h:wpAny (Û prog w) A (eval e env) (λo Ě=>wpAny (Û prog w) A (getAttr o f ej) Q E Ě) E s):wpAny (Û prog w) A (eval (.Attribute e f ç) env) Q E s :=
 Attribute_any_ h (by rw[arm_eval_Attribute,hb])
end
abbrev Re(K:Frag)(ta:TE)(f:Str):TE:=λσ H Q=>ta σ H λx H1=>∃a C dx fs v,x=.ref a/\H1 a=eh (.ins C dx fs)/\Cls K C/\NoAttr K C f/\fs.lookup f=eh v/\Q v H1
abbrev QJ(K:Frag)(ta tv:TE)(f:Str):TS:=λD σ H=>tv σ H λy H1=>ta σ H1 λx H2=>∃a C dx fs,x=.ref a/\H2 a=eh (.ins C dx fs)/\Cls K C/\NoAttr K C f/\fs.length<1000/\
 D.nx σ (upd H2 a<|.ins C dx<|eX f y fs)
abbrev C5(X:Cx)(op:ϓ)(rd:V->V->Hp->VK->Prop):Prop :=
 ∀(Á:List<|È×Obj) (s:Å) (σ:St) (H:Hp) (x y:V) (u v:Â) (Q:VK),Inv X Á σ H s->RelV x u->RelV y v->rd x y H Q->wpAny (Û X.prog X.w) X.A (inplaceOp op u v) (EP X Á σ Q) X.xe s
abbrev EE(K:Frag)(ta tv:TE)(rd:V->V->Hp->VK->Prop)(f:Str):TS:=λD σ H=>ta σ H λx H1=>∃a C dx fs v,x=.ref a/\H1 a=eh (.ins C dx fs)/\Cls K C/\NoAttr K C f/\fs.lookup f=eh v/\
 tv σ H1 λy H2=>rd v y H2 λz H3=>∃dx' dG,H3 a=eh (.ins C dx' dG)/\dG.length<1000/\D.nx σ (upd H3 a<|.ins C dx'<|eX f z dG)
section
variable {X:Cx}{o e ζ:Expr}{f:Str}{ç bg cB:Pos}{ta tv:TE}
def Hm(he:PE X e ta)(hb:Ġ e f X.env (eval e X.env)=eval e X.env):PE X (.Attribute e f ç)<|Re X.K ta f:=by intro Á s σ H Q I h;refine DM hb<|thn (he Á s σ H _ I h) λu s1 ⟨x,H1,I1,rx,a,C,dx,fs,v,ex,ea,c,n,l,q⟩=>?_;subst ex;obtain rfl:u=Value.ref a:=rx;exact Jj I1 ea c n l λu' s2 I2 ru=>⟨v,H1,I2,ru,q⟩
def Hf(ha:PE X o ta)(hv:PE X ζ tv)(hs:Ų ζ (eh<|.Attribute o f bg) ç.line X.env=pure ez):PS X (.Assign [.Attribute o f bg] ζ ç)<|QJ X.K ta tv f:=by intro Á s σ H D I h;refine plainObj_wpAny_Assign_Attribute (thn (hv Á s σ H _ I h) λu s1 ⟨y,H1,I1,ry,q⟩=>thn (ha Á s1 σ H1 _ I1 q) λov s2 ⟨x,H2,I2,rx,a,C,dx,fs,ex,ea,c,n,l,q2⟩=>?_) hs;subst ex;obtain rfl:ov=Value.ref a:=rx;exact Jr I2 ea c n l ry λs3 I3=>⟨σ,_,I3,q2⟩
def Ac{op:ϓ}{rd:V->V->Hp->VK->Prop}(ha:PE X o ta)(hv:PE X ζ tv)(hop:C5 X op rd):PS X (.AugAssign (.Attribute o f cB) op ζ ç)<|EE X.K ta tv rd f:=by intro Á s σ H D I h;refine wpAny_AugAssign_AttributeAny<|thn (ha Á s σ H _ I h) λov s1 ⟨x,H1,I1,rx,a,C,dx,fs,v,ex,ea,c,n,l,q⟩=>?_;subst ex;obtain rfl:ov=Value.ref a:=rx;refine Jj I1 ea c n l λu s2 I2 ru=>thn (hv Á s2 σ H1 _ I2 q) λw3 s3 ⟨y,H2,I3,ry,q3⟩=>thn (hop Á s3 σ H2 v y u w3 _ I3 ru ry q3) λw4 s4 ⟨z,H3,I4,rz,dx',dG,ea',l',q4⟩=>?_;exact Jr I4 ea' c n l' rz λs5 I5=>⟨σ,_,I5,q4⟩
abbrev QN:V->V->Hp->VK->Prop:=λx y H Q=>∃i j,x=.int i/\y=.int j/\Q (.int<|i+j) H
abbrev Rf:V->V->Hp->VK->Prop:=λx y H Q=>∃i j,x=.int i/\y=.int j/\Q (.int<|i - j) H
def IN:C5 X .Add QN:=by
 rintro Á s σ H x y u v Q I rx ry ⟨i,j,rfl,rfl,q⟩;obtain⟨t,rfl⟩:=(show ∃t,u=Value.int i t from rx)
 obtain⟨t',rfl⟩:=(show ∃t',v=Value.int j t' from ry)
 exact PyProof.Rows.iadd_int ⟨.int<|i+j,H,I.tok _,⟨_,rfl⟩,q⟩
def Hu:C5 X .Sub Rf:=by
 rintro Á s σ H x y u v Q I rx ry ⟨i,j,rfl,rfl,q⟩;obtain⟨t,rfl⟩:=(show ∃t,u=Value.int i t from rx)
 obtain⟨t',rfl⟩:=(show ∃t',v=Value.int j t' from ry)
 exact PyProof.Rows.isub_int ⟨.int<|i - j,H,I.tok _,⟨_,rfl⟩,q⟩
end
section
variable {X:Cx}{Á:List (È×Obj)}{σ:St}{H:Hp}{s:Å}{A:Ą}{E:Â->Å->Prop}{Q:Â->Å->Prop}{c:Â}{b:Bool}
inductive fL (K:Frag) (H:Hp):V->Â->Prop where
 |non:fL K H .non<|.type "NoneType"
 |bl (x:Bool):fL K H (.bl x)<|.type "bool"
 |int (i:Int):fL K H (.int i)<|.type "int"
 |str (x:Str):fL K H (.str x)<|.type "str"
 |flt (x:UInt64):fL K H (.flt x)<|.type "float"
 |lst {a:È}{xs:List V}(e:H a=eh (.lst xs)):fL K H (.ref a)<|.type "list"
 |frz {a:È}{o:Obj}{xs:List V}(e:H a=eh (.frz o<|.lst xs)):fL K H (.ref a)<|.type "list"
 |tup {a:È}{xs:List V}(e:H a=eh (.tup xs)):fL K H (.ref a)<|.type "tuple"
 |dK {a:È}{kvs:List (Key×V)}(e:H a=eh (.dK kvs)):fL K H (.ref a)<|.type "dict"
 |dT {a:È}{kvs:List (List Key×V)}(e:H a=eh (.dT kvs)):fL K H (.ref a)<|.type "dict"
 |ins {a C dx:È}{fs:List (Str×V)}(e:H a=eh (.ins C dx fs)) (cl:Cls K C) (ha:PySem.W.findIn K (.ref C) "__class__" = eh (eh<|.builtin "object.__class__"))
   (hn:PySem.W.specialIn K (.builtin "object.__class__") "__get__" = eh (eh<|.builtin "getset_descriptor.__get__")) (htk:PySem.W.takesIn K (.builtin "object.__class__")=eh ej)
   (hm:PySem.W.mroIn K C (.type "object")=eh ej):fL K H (.ref a)<|.ref C
def Aw{x:V}{t:Â}(I:Inv X Á σ H s)(rx:RelV x u)(ty:fL X.K H x t)(e:PySem.W.kitOne X.K t c=eh b)(h:∀tk,Q (.bool b) {s with toks:=tk}) :
  wpAny (Û X.prog X.w) A (call (.builtin "isinstance") [u,c]) Q E s:=by
 cases ty with
 |non=>cases (show u=Value.none from rx);exact PySem.W.kia_one PySem.W.kitx_none I.kIn True.intro e (λz=>nomatch z) h
 |bl y=>cases (show u=Value.bool y from rx);exact PySem.W.kia_one PySem.W.kitx_bool I.kIn True.intro e (λz=>nomatch z) h
 |int i=>obtain⟨t,q⟩:=(show ∃t,u=Value.int i t from rx);cases q;exact PySem.W.kia_one PySem.W.kitx_int I.kIn True.intro e (λz=>nomatch z) h
 |str y=>obtain⟨t,q⟩:=(show ∃t,u=Value.str y t from rx);cases q;exact PySem.W.kia_one PySem.W.kitx_str I.kIn True.intro e (λz=>nomatch z) h
 |flt y=>obtain⟨t,q⟩:=(show ∃t,u=Value.float y t from rx);cases q;exact PySem.W.kia_one PySem.W.kitx_float I.kIn True.intro e (λz=>nomatch z) h
 |@lst a xs ea =>
  cases (show u=Value.ref a from rx);obtain⟨_,_,n,_,h1⟩:=(show eQ X.prog X.w H s.heap a (.lst xs) from I.hok a _ ea)
  exact PySem.W.kia_one PySem.W.kitx_list I.kIn ⟨_,h1,rfl⟩ e (λz=>nomatch z) h
 |@frz a ob xs ea =>
  cases (show u=Value.ref a from rx);obtain⟨_,_,_,n,_,h1⟩:=(show eQ X.prog X.w H s.heap a (.frz ob<|.lst xs) from I.hok a _ ea)
  exact PySem.W.kia_one PySem.W.kitx_list I.kIn ⟨_,h1,rfl⟩ e (λz=>nomatch z) h
 |@tup a xs ea =>
  cases (show u=Value.ref a from rx);obtain⟨_,_,_,p⟩:=(show eQ X.prog X.w H s.heap a (.tup xs) from I.hok a _ ea)
  obtain⟨o,h1,h2,_⟩:=p;exact PySem.W.kia_one PySem.W.kitx_tuple I.kIn ⟨o,h1,h2⟩ e (λz=>nomatch z) h
 |@dK a kvs ea =>
  cases (show u=Value.ref a from rx);obtain⟨_,_,vs,_,p⟩:=(show eQ X.prog X.w H s.heap a (.dK kvs) from I.hok a _ ea)
  obtain⟨o,es,ep,h1,h2,_⟩:=p;exact PySem.W.kia_one PySem.W.kitx_dict I.kIn ⟨o,h1,h2.1⟩ e (λz=>nomatch z) h
 |@dT a kvs ea =>
  cases (show u=Value.ref a from rx);obtain⟨_,_,xs,_,o,es,ep,h1,h2,_⟩:=(show eQ X.prog X.w H s.heap a (.dT kvs) from I.hok a _ ea)
  exact PySem.W.kia_one PySem.W.kitx_dict I.kIn ⟨o,h1,h2.1⟩ e (λz=>nomatch z) h
 |@ins a C dx fs ea cl ha hn htk hm =>cases (show u=Value.ref a from rx);obtain⟨mA,O,_⟩:=WO I.hok ea;obtain⟨od,J,_⟩:=O.look;exact PySem.W.kia_one (PySem.W.kitx_own (cl.get _) cl.hd ha hn htk hm) I.kIn J e (λz=>nomatch z) h
end
structure fj(k:Nat)(A:Ą):Prop where
 hd:A.handled=ei
 dp:A.depth+3*k+5<recursionLimit
 un:A.units+16*k+200<Ĥ
variable {j:Nat} {A:Ą}
def fj.mono{k:Nat}(r:fj k A)(h:j<=k):fj j A:=⟨r.hd,by have:=r.dp;lia,by have:=r.un;lia⟩
def fj.deeper{k:Nat}(r:fj (k+1) A)(env:Env):fj k (A.deeper env) :=
 ⟨r.hd,by have:=r.dp;show A.depth+1+3*k+5<_;lia,by have:=r.un;show A.units+3+16*k+200<_;lia⟩
def fj.in1{k:Nat}(r:fj (k+1) A):fj k A.in1 :=
 ⟨r.hd,by have:=r.dp;show A.depth+3*k+5<_;lia,by have:=r.un;show A.units+1+16*k+200<_;lia⟩
variable {C:È} {us:List Â} {kw:List (Str×Â)}
def Oq:(A.under<|.builtin "type.__call__" ⟨.ref C::us,kw⟩).depth=A.depth+1:=by
 first|rfl|simp[bu,Code.weight,Code.isCreation,Code.isGuard,Code.isCaller,Code.frames,bO,guardIds]
def NL:(A.under<|.builtin "type.__call__" ⟨.ref C::us,kw⟩).units=A.units+1:=by
 first|rfl|simp[bu,Code.cUnits,Code.frames,bO]
def fj.make{k:Nat}(r:fj (k+1) A)(C:È)(us:List Â)(kw:List<|Str×Â):fj k (A.under<|.builtin "type.__call__" ⟨.ref C::us,kw⟩) :=
 ⟨r.hd,by have:=r.dp;rw[Oq];lia,by have:=r.un;rw[NL];lia⟩
def fj.depth{k:Nat}(r:fj k A):A.depth<recursionLimit:=by have:=r.dp;lia
def fj.units{k:Nat}(r:fj k A):A.units+64<Ĥ:=by have:=r.un;lia
abbrev Fa:TA:=λ_ H Q=>Q [] H
abbrev GN(ta:TE)(tr:TA):TA:=λσ H Q=>ta σ H λx H1=>tr σ H1 λxs H2=>Q (x::xs) H2
section
variable {X:Cx}{e:Expr}{es:List Expr}{te:TE}{t:TA}{ç:Pos}
def fO:PA X [] Fa:=λ_ _ _ _ H Q I h=>Calls.spliced_nil ⟨[],H,I,.nil,h⟩
def ZI(ha:PE X e te)(hr:PA X es t)(hs:Ô (e::es) X.env=(ez,eval e X.env)::Ô es X.env:=by rfl):PA X (e::es)<|GN te t:=by intro ç Á s σ H Q I h;rw[hs];show wpAny _ _ (spliced<|(ez,eval e X.env)::ĝ ç (Ô es X.env)) _ _ s;refine Calls.spliced_cons<|thn (ha Á s σ H _ I h) λu s1 ⟨x,H1,I1,r1,q1⟩=>?_;exact thn (hr ç Á s1 σ H1 _ I1 q1) λus s2 ⟨xs,H2,I2,r2,q2⟩=>⟨x::xs,H2,I2,.cons r1 r2,q2⟩
abbrev Rk(t:TA):TE:=λσ H Q=>t σ H λxs H1=>xs.length<=Ù/\∀p,H1 p=ei->Q (.ref p) (upd H1 p<|.tup xs)
abbrev Q9(t:TA):TE:=λσ H Q=>t σ H λxs H1=>xs.length<=Ù/\∀p,H1 p=ei->Q (.ref p) (upd H1 p<|.lst xs)
def LE{x1}(h:PA X es t):PE X (.Tuple es x1 ç)<|Rk t:=by intro Á s σ H Q I hq;refine wpAny_Tuple_spliced (thn (h ç Á s σ H _ I hq) λus s1 ⟨xs,H1,I1,r,z,q⟩=>⟨by rw[<-r.length];exact z,?_⟩);have hf:H1 s1.heap.objs.size=ei:=I1.hok.fresh<|Ì _;refine⟨.ref s1.heap.objs.size,upd H1 s1.heap.objs.size<|.tup xs,I1.laid (t':=s1.toks) (λb u e=>Ä _ e) (Ì _) ?_,rfl,q _ hf⟩;exact⟨z,us,r,⟨_,Ñ _ rfl,rfl,_,rfl⟩⟩
def IS(h:PA X es t):PE X (.List es ç)<|Q9 t:=by intro Á s σ H Q I hq;refine wpAny_List_spliced (thn (h ç Á s σ H _ I hq) λus s1 ⟨xs,H1,I1,r,z,q⟩=>⟨by rw[<-r.length];exact z,?_⟩);have hf:H1 s1.heap.objs.size=ei:=I1.hok.fresh<|Ì _;refine⟨.ref s1.heap.objs.size,upd H1 s1.heap.objs.size<|.lst xs,I1.laid (t':=s1.toks) (λb u e=>Ä _ e) (Ì _) ?_,rfl,q _ hf⟩;exact⟨z,us,0,r,Ñ _ rfl⟩
end
noncomputable abbrev Sp:=List V->Hp->VK->XK->Prop
noncomputable abbrev CXT:=List Env->Hp->Å->XK->Â->Å->Prop
structure Env0(P:à)(w:ó)(K:Frag)(mg:Str->Option Â)(base:Ă)(A:Ą)(outer:List Env)(s:Å)(H:Hp):Prop where
 frames:A.frames=eh outer
 mod:Mod K mg base
 bs:∀b o,base.get? b=eh o->s.heap.get? b=eh o/\H b=ei
 bsz:base.objs.size<=s.heap.objs.size
 funs:s.heap.FunFrames base outer
 frf:∀b∈frs outer,H b=ei
 hok:HOk P w H s.heap
 bare:Τ s.gens
abbrev CE(outer:List Env)(P:à)(w:ó)(H:Hp)(s:Å)(Q:VK)(u:Â)(s':Å):Prop :=
 ∃v H',s'.os=s.os/\Τ s'.gens/\Un (frs outer) [] H H' s.heap s'.heap/\HOk P w H' s'.heap/\RelV v u/\Q v H'
abbrev CR(CX:CXT)(outer:List Env)(P:à)(w:ó)(H:Hp)(s:Å)(Q:VK)(E:XK)(r:bc)(s':Å):Prop :=
 match r with
 |.ok (.ret u)=>CE outer P w H s Q u s'
 |.ok _=>False
 |.error e=>CX outer H s E e s'
structure fk(P:à)(w:ó)(K:Frag)(mg:Str->Option Â)(base:Ă)(CX:CXT)(k:Nat)(f:È)(fd:Ņ)(ps:List Str)(sp:Sp):Prop where
 len:∀vs H Q E,sp vs H Q E->vs.length=ps.length
 run:∀(A:Ą) (outer:List Env) (s:Å) (H:Hp) (args:Args) (us:List Â) (vs:List V) (Q:VK) (E:XK),fj k A->Env0 P w K mg base A outer s H->BindsTo s fd args (ps.zip us)->fS vs us->sp vs H Q E->
  codeAny (Û P w) A (.call (.ref f) args) (CR CX outer P w H s Q E) s
variable {P:à} {w:ó} {mg:Str->Option Â} {base:Ă} {CX:CXT} {f:È} {fd:Ņ} {ps:List Str} {sp:Sp}
def fk.mono{K:Frag}{k:Nat}(F:fk P w K mg base CX j f fd ps sp)(h:j<=k) :
  fk P w K mg base CX k f fd ps sp:=⟨F.len,λA outer s H args us vs Q E hr=>F.run A outer s H args us vs Q E<|hr.mono h⟩
def fk.imp{K:Frag}{k:Nat}{sp':Sp}(F:fk P w K mg base CX k f fd ps sp)
  (h:∀vs H Q E,sp' vs H Q E->sp vs H Q E):fk P w K mg base CX k f fd ps sp' :=
 ⟨λvs H Q E q=>F.len vs H Q E<|h _ _ _ _ q,λA outer s H args us vs Q E hr he hb hv hs=>F.run A outer s H args us vs Q E hr he hb hv<|h _ _ _ _ hs⟩
variable {outer:List Env} {s:Å} {H:Hp}
def Env0.make{K:Frag}(e:Env0 P w K mg base A outer s H)(C:È)(us:List Â)(kw:List<|Str×Â) :
  Env0 P w K mg base (A.under<|.builtin "type.__call__" ⟨.ref C::us,kw⟩) outer s H:=⟨by first|exact e.frames|(simpa[bu,Code.envs,bO,pushEnvs]using e.frames),e.mod,e.bs,e.bsz,e.funs,e.frf,e.hok,e.bare⟩
def Env0.in1{K:Frag}(e:Env0 P w K mg base A outer s H) :
  Env0 P w K mg base A.in1 outer s H:=⟨e.frames,e.mod,e.bs,e.bsz,e.funs,e.frf,e.hok,e.bare⟩
section
variable {X:Cx}{Á:List (È×Obj)}{σ:St}{H:Hp}{s s':Å}
def Inv.env0(I:Inv X Á σ H s):Env0 X.prog X.w X.K X.mg X.base X.A X.stack s H :=
 ⟨I.ok.frames,I.ok.mod,I.bs,Ý I.ok.bsz I.sz,I.stack,I.stkFree,I.hok,I.bare⟩
def Inv.after{Q:VK}{u:Â}(I:Inv X Á σ H s)(h:CE X.stack X.prog X.w H s Q u s'):EP X Á σ Q u s':=by obtain⟨v,H',os,bare,un,hok,r,q⟩:=h;obtain⟨hh,g,d,t,os'⟩:=s';obtain rfl:os'=s.os:=os;exact⟨v,H',I.call (h':=hh) (g':=g) (d':=d) (t':=t) (ch:=[]) un hok bare λb z=>gc z<|by simp,r,q⟩
end
abbrev GK(sp:Sp)(aw:List V)(E:XK)(t:TA):TE:=λσ H Q=>t σ H λvs H1=>sp (vs++aw) H1 Q E
abbrev GB(C:È)(m:Str)(sp:Sp)(aw:List V)(E:XK)(ta:TE)(t:TA):TE:=λσ H Q=>ta σ H λx H1=>∃a dx fs,x=.ref a/\H1 a=eh (.ins C dx fs)/\fs.lookup m=ei/\
 t σ H1 λvs H2=>sp (x::(vs++aw)) H2 Q E
abbrev Po(C:È)(sp:Sp)(aw:List V)(E:XK)(t:TA):TE:=λσ H Q=>t σ H λvs H1=>∀x dx,H1 x=ei->H1 dx=ei->dx≠x->
 sp (.ref x::(vs++aw)) (upd (upd H1 dx<|.own x) x<|.ins C dx []) (λv H2=>v=.non/\Q (.ref x) H2) E
abbrev Binds(K:Frag)(fd:Ņ)(ps:List Str)(ds:List Â):Prop :=
 ∀(s:Å) (us:List Â),K.In s.heap->(us++ds).length=ps.length->BindsTo s fd ⟨us,[]⟩ (ps.zip<|us++ds)
def Binds.all{K:Frag}(h:∀us:List Â,us.length=ps.length->bindArgs fd ⟨us,[]⟩=pure (ps.zip us)):Binds K fd ps []:=λs us _ hl=>by rw[Ā]at hl ⊢;exact .of_eq (h us hl)
abbrev Y5(CX:CXT)(X:Cx)(E:XK):Prop:=∀(Á:List<|È×Obj) (σ:St) (H:Hp) (s:Å) (e:Â) (s':Å),Inv X Á σ H s->CX X.stack H s E e s'->X.xe e s'
section
variable {X:Cx}{CX:CXT}{k:Nat}{f C:È}{fd:Ņ}{ps:List Str}{sp:Sp}{aw:List V}{ds:List Â}{E:XK}{x m:Str}{p ç ŉ:Pos}{e o:Expr}{es:List Expr}{ta:TE}{t:TA}
variable {Á:List (È×Obj)} {σ:St} {Q:VK} {vs:List V}
def K8(F:fk X.prog X.w X.K X.mg X.base CX k f fd ps sp)(hr:fj k X.A)(hb:Binds X.K fd ps ds)(hd:fS aw ds)(hx:Y5 CX X E)
  (I:Inv X Á σ H s) (r:fS vs us) (h:sp (vs++aw) H Q E):wpAny (Û X.prog X.w) X.A (call (.ref f) us) (EP X Á σ Q) X.xe s:=by
 have r2:fS (vs++aw)<|us++ds:=r.append hd;have hl:(us++ds).length=ps.length:=by rw[<-r2.length];exact F.len _ _ _ _ h
 refine wpAny_call<|Ŷ (F.run X.A X.stack s H ⟨us,[]⟩ (us++ds) (vs++aw) Q E hr I.env0 (hb s us I.kIn hl) r2 h) λr s' hq=>?_;cases r with
 |error e=>exact hx Á σ H s e s' I hq
 |ok fl =>
  cases fl with
  |ret u=>exact I.after hq
  |next=>exact ģ hq
  |brk=>exact ģ hq
  |cont=>exact ģ hq
def EH(F:fk X.prog X.w X.K X.mg X.base CX k f fd ps sp)(hr:fj k X.A)(hg:Gl X x)(hm:X.mg x=eh (.ref f))(hk:PySem.W.keepIn X.K (.ref f)=ej)(hb:Binds X.K fd ps ds)(hd:fS aw ds)(hx:Y5 CX X E)
  (ha:PA X (e::es) t) (cC:(x==("__debug__" : Str))=ez:=by decide) (he:Ô (e::es) X.env=(ez,eval e X.env)::Ô es X.env:=by rfl) (hpl:(ĝ ç<|Ô es X.env).any (·.1)=ez:=by rfl) :
  PE X (.Call (.Name x p) (e::es) [] ç) (GK sp aw E t):=by
 intro Á s σ H Q I h;refine İ<|WK I hg hm ?_ cC;refine PySem.W.callWith_K (h₀:=X.base) I.ok.mod.kin hk (thn (ha ç Á s σ H _ I h) λus s1 ⟨vs,H1,I1,r,q⟩=>⟨I1.kIn,?_⟩) he hpl;exact K8 F hr hb hd hx I1 r q
def AN(F:fk X.prog X.w X.K X.mg X.base CX k f fd ps sp)(hr:fj k X.A)(hg:Gl X x)(hm:X.mg x=eh (.ref f))(hk:PySem.W.keepIn X.K (.ref f)=ej)(hb:Binds X.K fd ps ds)(hd:fS aw ds)(hx:Y5 CX X E)
  (cC:(x==("__debug__" : Str))=ez:=by decide):PE X (.Call (.Name x p) [] [] ç)<|GK sp aw E Fa:=by
 intro Á s σ H Q I h;refine İ<|WK I hg hm ?_ cC;exact PySem.W.callWith_K0 I.kIn hk<|K8 (us:=[]) F hr hb hd hx I .nil h
variable {pl:Sem Bool}
def Ft(he:PE X o ta)(c:Cls X.K C)(hm:Meth X.K C m f)(F:fk X.prog X.w X.K X.mg X.base CX k f fd ps sp)(hr:fj k X.A)(hb:Binds X.K fd ps ds)(hd:fS aw ds)(hx:Y5 CX X E)(ha:PA X (e::es) t)
  (ſ:Ô (e::es) X.env=(ez,eval e X.env)::Ô es X.env:=by rfl) (hpl:(ĝ ç<|Ô es X.env).any (·.1)=ez:=by rfl)
  (ht:eval (.Call (.Attribute o m ŉ) (e::es) [] ç) X.env=(do
    let ov<-eval o X.env
    Χ ŉ.atName
    let (f,first)<-Ŋ [ov] (ϔ ov m pl)
    b9 ç f first (ĝ ç<|Ô (e::es) X.env) (ŷ ç<|ņ [] X.env)):=by rfl) :
  PE X (.Call (.Attribute o m ŉ) (e::es) [] ç) (GB C m sp aw E ta t):=by
 intro Á s σ H Q I h;refine PySem.W.methodCall_KW (pl:=pl) (thn (he Á s σ H _ I h) λu s1 ⟨x,H1,I1,rx,a,dx,fs,ex,ea,l,q⟩=>?_) ht;subst ex;obtain rfl:u=Value.ref a:=rx;refine Jz I1 ea c hm l ?_;refine PySem.W.callWith_K (first:=[.ref a]) (h₀:=X.base) I.ok.mod.kin hm.kp (thn (ha ç Á s1 σ H1 _ I1 q) λus s2 ⟨vs,H2,I2,r,q2⟩=>⟨I2.kIn,?_⟩) ſ hpl;exact K8 (us:=.ref a::us) (vs:=.ref a::vs) F hr hb hd hx I2 (.cons rfl r) q2
def CU(he:PE X o ta)(c:Cls X.K C)(hm:Meth X.K C m f)(F:fk X.prog X.w X.K X.mg X.base CX k f fd ps sp)(hr:fj k X.A)(hb:Binds X.K fd ps ds)(hd:fS aw ds)(hx:Y5 CX X E)
  (ht:eval (.Call (.Attribute o m ŉ) [] [] ç) X.env=(do
    let ov<-eval o X.env
    Χ ŉ.atName
    let (f,first)<-Ŋ [ov] (ϔ ov m pl)
    b9 ç f first (ĝ ç<|Ô [] X.env) (ŷ ç<|ņ [] X.env)):=by rfl) :
  PE X (.Call (.Attribute o m ŉ) [] [] ç) (GB C m sp aw E ta Fa):=by
 intro Á s σ H Q I h;refine PySem.W.methodCall_KW (pl:=pl) (thn (he Á s σ H _ I h) λu s1 ⟨x,H1,I1,rx,a,dx,fs,ex,ea,l,q⟩=>?_) ht;subst ex;obtain rfl:u=Value.ref a:=rx;refine Jz I1 ea c hm l ?_;exact PySem.W.callWith_K0 (first:=[.ref a]) I1.kIn hm.kp<|K8 (us:=[.ref a]) (vs:=[.ref a]) F hr hb hd hx I1 (.cons rfl .nil) q
structure Mk(K:Frag)(C f:È):Prop where
 makes:PySem.W.makesIn K C=ej
 init:PySem.W.findIn K (.ref C) "__init__" = eh (eh<|.ref f)
 fn:PySem.W.isFn K (.ref f)=ej
 kp:PySem.W.keepIn K (.ref C)=ej
def Bv(M:Mk X.K C f)(F:fk X.prog X.w X.K X.mg X.base CX k f fd ps sp)(hr:fj (k+1) X.A)(hb:Binds X.K fd ps ds)(hd:fS aw ds)
  (hx:Y5 CX X E) (I:Inv X Á σ H s) (r:fS vs us)
  (h:∀x dx,H x=ei->H dx=ei->dx≠x->sp (.ref x::(vs++aw)) (upd (upd H dx<|.own x) x<|.ins C dx []) (λv H2=>v=.non/\Q (.ref x) H2) E) :
  wpAny (Û X.prog X.w) X.A (call (.ref C) us) (EP X Á σ Q) X.xe s:=by
 have hq:=h (s.heap.objs.size+1) s.heap.objs.size (I.hok.fresh<|Ń _) (I.hok.fresh<|Ì _)<|ä<|ĭ _;have I2:=Inv.made (C:=C) I;have r2:fS (V.ref (s.heap.objs.size+1)::(vs++aw))<|Value.ref (s.heap.objs.size+1)::(us++ds):=.cons rfl<|r.append hd;have hl:(Value.ref (s.heap.objs.size+1)::us++ds).length=ps.length:=by have e:=r2.length;rw[F.len _ _ _ _ hq]at e;exact e.symm
 refine wpAny_call (DJ (f:=f) I.kIn M.makes M.init (beq_iff_eq.mp M.fn) (Ŷ (F.run _ X.stack _ _ ⟨Value.ref (s.heap.objs.size+1)::us,[]⟩ (Value.ref (s.heap.objs.size+1)::(us++ds)) _ _ E (hr.make C us [])
   (I2.env0.make C us []) (hb _ (Value.ref (s.heap.objs.size+1)::us) I2.kIn hl) r2 hq) λr s' hq'=>?_))
 cases r with
 |error e=>exact hx Á σ _ _ e s' I2 hq'
 |ok fl =>
  cases fl with
  |ret u =>obtain⟨v,H',I3,rv,ev,q3⟩:=I2.after hq';subst ev;exact⟨rv,⟨V.ref<|s.heap.objs.size+1,H',I3,rfl,q3⟩⟩
  |next=>exact ģ hq'
  |brk=>exact ģ hq'
  |cont=>exact ģ hq'
def D7(M:Mk X.K C f)(F:fk X.prog X.w X.K X.mg X.base CX k f fd ps sp)(hr:fj (k+1) X.A)(hg:Gl X x)(hm:X.mg x=eh (.ref C))(hb:Binds X.K fd ps ds)(hd:fS aw ds)(hx:Y5 CX X E)
  (ha:PA X (e::es) t) (cC:(x==("__debug__" : Str))=ez:=by decide) (he:Ô (e::es) X.env=(ez,eval e X.env)::Ô es X.env:=by rfl) (hpl:(ĝ ç<|Ô es X.env).any (·.1)=ez:=by rfl) :
  PE X (.Call (.Name x p) (e::es) [] ç) (Po C sp aw E t):=by
 intro Á s σ H Q I h;refine İ<|WK I hg hm ?_ cC;refine PySem.W.callWith_K (h₀:=X.base) I.ok.mod.kin M.kp (thn (ha ç Á s σ H _ I h) λus s1 ⟨vs,H1,I1,r,q⟩=>⟨I1.kIn,?_⟩) he hpl;exact Bv M F hr hb hd hx I1 r q
end
structure FnScope(N P:List Str)(sc:ż):Prop where
 kind:sc.kind=.function
 co:sc.isCoroutine=ez
 gen:sc.isGenerator=ez
 nd:N.Nodup
 pre:N.take P.length=P
 par:∀x∈P,sc.names.lookup x=eh .local\/sc.names.lookup x=eh .cell
 nofree:∀y∈sc.names,y.2≠.free
def J9{ρ:Str->Option ϕ}{x:Str}:∀{binds:List (Str×Â)}{m:Str->Option Â},(∀v,(x,v)∉binds)->bindL ρ binds m x=m x
 |[],_,_=>rfl
 |(n,v)::r,m,h=>by
  unfold bindL;rw[J9 λw hw=>h w<|Ü _ hw];split
  .have:x≠n:=by rintro rfl;exact h v ì
   simp[this]
  .rfl
def Ko{ρ:Str->Option ϕ}{x:Str}:∀{binds:List (Str×Â)}{m:Str->Option Â},(∀v,(x,v)∉binds)->dk ρ binds m x=m x
 |[],_,_=>rfl
 |(n,v)::r,m,h=>by
  unfold dk;rw[Ko λw hw=>h w<|Ü _ hw];split
  .rfl
  .have:x≠n:=by rintro rfl;exact h v ì
   simp[this]
def Kt{ρ:Str->Option ϕ}{x:Str}{v:Â}:∀{P:List Str}{vs:List Â}{i:Nat}{m:Str->Option Â},P.Nodup->P[i]?=eh x->vs[i]?=eh v->ρ x=eh .local->
  bindL ρ (P.zip vs) m x=eh v
 |[],_,_,_,_,h,_,_=>by simp at h
 |_::_,[],_,_,_,_,h,_=>by simp at h
 |p::P,w::vs,0,m,nd,h1,h2,hk=>by simp at h1 h2;subst h1;subst h2;show bindL ρ ((p,w)::P.zip vs) m p=_;unfold bindL;rw[J9 λv hv=>(ć.mp nd).1 (aF hv).1,f6 hk];simp
 |p::P,w::vs,i+1,m,nd,h1,h2,hk=>by show bindL ρ ((p,w)::P.zip vs) m x=_;unfold bindL;exact Kt (i:=i) (ć.mp nd).2 (by simpa using h1) (by simpa using h2) hk
def Ks{ρ:Str->Option ϕ}{x:Str}{v:Â}:∀{P:List Str}{vs:List Â}{i:Nat}{m:Str->Option Â},P.Nodup->P[i]?=eh x->vs[i]?=eh v->ρ x≠eh .local->
  dk ρ (P.zip vs) m x=eh v
 |[],_,_,_,_,h,_,_=>by simp at h
 |_::_,[],_,_,_,_,h,_=>by simp at h
 |p::P,w::vs,0,m,nd,h1,h2,hk=>by simp at h1 h2;subst h1;subst h2;show dk ρ ((p,w)::P.zip vs) m p=_;unfold dk;rw[Ko λv hv=>(ć.mp nd).1 (aF hv).1,f7 hk];simp
 |p::P,w::vs,i+1,m,nd,h1,h2,hk=>by show dk ρ ((p,w)::P.zip vs) m x=_;unfold dk;exact Ks (i:=i) (ć.mp nd).2 (by simpa using h1) (by simpa using h2) hk
abbrev start(N:List Str)(vs:List V):St:=vs.map eh++Õ (N.length - vs.length) ei
abbrev JQ(CX:CXT)(P:à)(w:ó)(K:Frag)(mg:Str->Option Â)(base:Ă)(N:List Str)(qual:Str)(scope:ż)(f:È)(cd:Â)(A:Ą)(outer:List Env)(s:Å)(H:Hp)(E:XK):Cx where
 prog:=P
 w:=w
 K:=K
 mg:=mg
 base:=base
 A:=A.deeper<|ϯ qual scope s.heap.objs.size f cd
 N:=N
 s₀:=s
 H₀:=H
 env:=ϯ qual scope s.heap.objs.size f cd
 outer:=outer
 stack:=ϯ qual scope s.heap.objs.size f cd::outer
 ex:=[]
 calm:=ej
 fn:=λ_=>ej
 pn:=[]
 xe:=λe s'=>wpAny (Û P w) (A.deeper<|ϯ qual scope s.heap.objs.size f cd) (leaving (ϯ qual scope s.heap.objs.size f cd) e) (λ_ s''=>CX outer H s E e s'') (λe' s''=>CX outer H s E e' s'') s'
def Ni{sc:ż}{n:Nat}{x:Str}(h:sc.names.lookup x=eh .cell):∃c,(cellsFrom n sc.names []).lookup x=eh c:=by have q:=PySem.W.cellsFrom_some sc.names n []<|.inl h;exact ø.mp q
variable {N:List Str} {qual:Str} {scope:ż}
def AA{K:Frag}{cd:Â}{s1:Å}{E:XK}{vs:List V}
  (S:FnScope N ps scope) (hd:A.handled=ei) (e0:Env0 P w K mg base A outer s H) (hl:vs.length=ps.length) (r:fS vs us)
  (x:InCallC s s.heap.objs.size (bindL (ϯ qual scope s.heap.objs.size f cd).kindOf (ps.zip us) λ_=>ei) (cellsFrom (s.heap.objs.size+1) scope.names []) (dk (ϯ qual scope s.heap.objs.size f cd).kindOf (ps.zip us) λ_=>ei) s1) :
  Inv (JQ CX P w K mg base N qual scope f cd A outer s H E) [] (start N vs) H s1:=by
 have hpl:ps.length<=N.length:=by have:=congrArg List.length S.pre;rw[ĥ]at this;lia
 obtain⟨h1,tk,rfl,hk⟩:=x.done;have noA:∀b:È,b∉(JQ CX P w K mg base N qual scope f cd A outer s H E).ex:=λb z=>gc (show b∈([]:List È) from z) (by simp);refine⟨⟨e0.mod,S.kind,rfl,rfl,Ì _,λy z c h1 h2=>?_,λy hy=>?_,λy c _ h=>?_,λ_=>hd,Around.frames_deeper e0.frames,.inr ⟨rfl,rfl⟩,λb z=>gc z<|noA b,e0.bs,e0.bsz,λb _ _=>noA b,λb z=>gc z<|noA b,e0.funs,e0.frf⟩,
   rfl,e0.bare,Un.kept hk,⟨_,x.toInCall.ns,λi y v h1 h2 h3=>?_⟩,λy c h=>⟨_,x.cell y c h⟩,e0.hok.fresh<|Ì _,λy c h=>?_,λp hp=>gc (show p∈([]:List<|È×Obj) from hp) (by simp),e0.hok.kept hk,?_⟩
 .exact name_of_addr x.apart (PySem.mem_of_lookup h1)<|PySem.mem_of_lookup h2
 .have hy:scope.names.lookup y=eh .cell\/scope.names.lookup y=eh .free:=hy;rcases hy with hy|hy
  .exact Ni hy
  .exact gc rfl<|S.nofree _<|PySem.mem_of_lookup hy
 .exact η<|x.above y c<|PySem.mem_of_lookup h
 .have hi:i<vs.length:=by
   unfold start at h2;by_cases hi:i<vs.length
   .exact hi
   .rw[ď<|by simpa using hi]at h2;rw[Ň]at h2;split at h2<;>cases h2
  have ha:vs[i]?=eh v:=by
   unfold start at h2;rw[Ċ (by simpa using hi),Ò]at h2;cases e:vs[i]? with
   |none=>rw[e]at h2;cases h2
   |some a=>rw[e]at h2;cases h2;rfl
  obtain⟨u,hu,rv⟩:=r.get ha;have hp:ps[i]?=eh y:=by rw[<-S.pre,List.getElem?_take_of_lt<|by lia];exact h1
  have ndP:ps.Nodup:=by rw[<-S.pre];exact S.nd.sublist<|List.take_sublist _ _
  refine⟨u,rv,?_⟩;rcases S.par y (ă hp)with k|k
  .exact .inl ⟨k,Kt ndP hp hu k⟩
  .obtain⟨c,e⟩:=Ni (n:=s.heap.objs.size+1) k;refine .inr ⟨.inl k,c,e,?_⟩;have q:=x.cell y c e;rw[Ks ndP hp hu<|by show scope.names.lookup y≠_;rw[k];decide]at q;exact q
 .exact e0.hok.fresh<|η<|x.above y c<|PySem.mem_of_lookup h
 .unfold start;show _=N.length;rw[ê,Ã,ð];lia
def Gf{K:Frag}{k:Nat}{name:Str}{params:Arguments}{body:List Ľ}{dV kV doc pm ύ ct oc:Â}{an od:Option È}
  {osl:Array (Option Â)}   (lk:K.lookup f=eh ⟨oc,od,.func<|PySem.W.fnOf name qual params body scope dV kV doc pm an ύ ct,osl⟩) (aG:PySem.W.codeIn K ύ qual=ej) (S:FnScope N ps scope)
  (len:∀vs H Q E,sp vs H Q E->vs.length=ps.length)
  (bM:∀(A:Ą) (outer:List Env) (s:Å) (H:Hp) (vs:List V) (Q:VK) (E:XK),fj k (A.deeper<|ϯ qual scope s.heap.objs.size f ύ)->sp vs H Q E->
    ∃t,PSs (JQ CX P w K mg base N qual scope f ύ A outer s H E) body t/\t { nx:=λ_ H'=>Q .non H',rt:=Q } (start N vs) H) :
  fk P w K mg base CX (k+1) f (PySem.W.fnOf name qual params body scope dV kV doc pm an ύ ct) ps sp:=by
 refine⟨len,λA outer s H args us vs Q E hr e0 hb r dJ=>?_⟩;have hl:=len _ _ _ _ dJ;have KX:K.In s.heap:=e0.mod.kin.keeps λb o e=>(e0.bs b o e).1;have lim:s.heap.NoLimit:=e0.mod.nolimit.keeps λb o e=>(e0.bs b o e).1;have hkind:∀y∈ps.zip us,scope.names.lookup y.1=eh .local\/(scope.names.lookup y.1=eh .cell/\((cellsFrom (s.heap.objs.size+1) scope.names []).lookup y.1).isSome=ej):=λ⟨n,v⟩ hy=>by
  rcases S.par n (aF hy).1 with q|q
  .exact .inl q
  .exact .inr ⟨q,PySem.W.cellsFrom_some _ _ _<|.inl q⟩
 refine codeAny_call_function hr.depth (KX _ _ lk) rfl S.co S.gen rfl (PySem.W.codeRec_of KX aG)<|hb _ _ _ _ ?_;refine wpAny_newFunctionEnv_cells S.kind hkind λenv he s1 x=>?_;subst he;refine⟨lim.keeps x.toInCall.keep,codeAny_func ?_⟩;obtain⟨t,ht,hq⟩:=bM A outer s H vs Q E (hr.deeper _) dJ;have I:Inv (JQ CX P w K mg base N qual scope f ύ A outer s H E) [] (start N vs) H s1:=AA S hr.hd e0 hl r x;refine ē (ht [] s1 (start N vs) H _ I hq) (λfl s' hs=>?_) λe s' hs=>hs;have fin:∀{Ř:St}{H':Hp}{v:V}{u:Â},Inv (JQ CX P w K mg base N qual scope f ύ A outer s H E) [] Ř H' s'->RelV v u->Q v H'->CE outer P w H s Q u s' :=
  λ{Ř H' v u} J rv q=>⟨v,H',J.os,J.bare,J.base,J.hok,rv,q⟩
 cases fl with
 |ret u =>obtain⟨v,Ř,H',J,rv,q⟩:=hs;exact fin J rv q
 |next =>obtain⟨Ř,H',J,q⟩:=hs;exact fin (v:=V.non) (u:=Value.none) J rfl q
 |brk =>obtain⟨_,_,_,q⟩:=hs;exact ģ q
 |cont =>obtain⟨_,_,_,q⟩:=hs;exact ģ q
section
variable {X:Cx}{x:Str}{p ç:Pos}{e:Expr}{es:List Expr}{t:TA}{id T:String}{r:List V->Hp->VK->Prop}
abbrev tCB(r:List V->Hp->VK->Prop)(t:TA):TE:=λσ H Q=>t σ H λvs H1=>r vs H1 Q
def Z4(hc:eP X (.builtin id) r)(hg:Gl X x)(hm:X.mg x=ei)(hv:ţ x=eh (.builtin id))(ha:PA X (e::es) t)(hn:x≠"__name__":=by decide)(cC:(x==("__debug__" : Str))=ez:=by decide)
  (he:Ô (e::es) X.env=(ez,eval e X.env)::Ô es X.env:=by rfl) (hpl:(ĝ ç<|Ô es X.env).any (·.1)=ez:=by rfl):PE X (.Call (.Name x p) (e::es) [] ç)<|tCB r t:=by
 intro Á s σ H Q I h;refine İ<|Yx I hg hm hv ?_ hn cC;exact PyProof.Rows.callWith_builtin1 (thn (ha ç Á s σ H _ I h) λus s1 ⟨vs,H1,I1,r1,q1⟩=>hc Á s1 σ H1 vs us Q I1 r1 q1) he hpl
def Xh(hc:eP X (.type T) r)(hg:Gl X x)(hm:X.mg x=ei)(hv:ţ x=eh (.type T))(ha:PA X (e::es) t)(hn:x≠"__name__":=by decide)(cC:(x==("__debug__" : Str))=ez:=by decide)
  (he:Ô (e::es) X.env=(ez,eval e X.env)::Ô es X.env:=by rfl) (hpl:(ĝ ç<|Ô es X.env).any (·.1)=ez:=by rfl):PE X (.Call (.Name x p) (e::es) [] ç)<|tCB r t:=by
 intro Á s σ H Q I h;refine İ<|Yx I hg hm hv ?_ hn cC;exact PyProof.Rows.callWith_type1 (thn (ha ç Á s σ H _ I h) λus s1 ⟨vs,H1,I1,r1,q1⟩=>hc Á s1 σ H1 vs us Q I1 r1 q1) he hpl
end
end L2
namespace HT
open PySem PyProof.Rows
abbrev lexLt:List Int->List Int->Bool
 |[],[]=>ez
 |[],_::_=>ej
 |_::_,[]=>ez
 |x::xs,y::ys=>if x=y then lexLt xs ys else gf (x<y)
def lexLt_cons(x y:Int)(xs ys:List Int):lexLt (x::xs) (y::ys)=if x=y then lexLt xs ys else gf (x<y):=rfl
def J3:lexLt [] []=ez:=rfl
def Jt(y:Int)(ys:List Int):lexLt [] (y::ys)=ej:=rfl
def Jk(x:Int)(xs:List Int):lexLt (x::xs) []=ez:=rfl
def eqAt_int(A:Ą)(s:Å)(a:Int)(t:Tok)(c:Int)(u:Tok):∃e,SeqAt.EqAt A s (.int a t) (.int c u) e/\(e=ej↔a=c) :=
 ⟨(a==c),SeqAt.EqAt.int_int a t c u,by simp⟩
def DK(A:Ą)(s:Å)(a:Int)(t:Tok)(c:Int)(u:Tok)(prog:à)(w:ó)(E:Â->Å->Prop)(Q:Â->Å->Prop)(h:Q (.bool<|gf (a<c)) s) :
  wpAny (Û prog w) A (richCompare .Lt (.int a t)<|.int c u) Q E s :=
 (PyProof.Rows.lt_int h:wpAny (Û prog w) A (è .Lt (.int a t)<|.int c u) Q E s)
section
open PySem.SeqAt
open PySem.AutoSeq1 (wpAny_loadPart')
open PySem.MeetsSeq PySem.MeetsSeq2 PySem.MeetsSeq3
def J6(l b:È)(items Ł:Array Â)(n n2:Nat)(dd cO:Option È)(sl dL:Array<|Option Â)(ns ms:List Int)(hi:ù items.toList ns)(hj:ù Ł.toList ms) :
  Meets (Builtin.«tuple.__lt__» ⟨[.ref l,.ref b],[]⟩)
   (λ_ R s=>s.heap.get? l=eh { cls:=.type "tuple",dict:=dd,data:=.seq items n,slots:=sl }/\s.heap.get? b=eh { cls:=.type "tuple",dict:=cO,data:=.seq Ł n2,slots:=dL }/\
     R (.ok<|.ret<|.bool<|lexLt ns ms) s) :=
 .of_wp λprog w A R s h=>by
  obtain⟨hp,g,d,tk,os⟩:=s;obtain⟨hl,hb,h⟩:=h;have f2:=AutoSeq1.sub_tuple_tuple;have z1:items.size=ns.length:=by rw[<-hi.length];simp
  have z2:Ł.size=ms.length:=by rw[<-hj.length];simp
  wp_walk using Ę hl,Ę hb,wpAny_forIn_list _ (λrest b s'=>b.1=ei/\s'=⟨hp,g,d,tk,os⟩/\∃(vs ws:List Â) (bW de:List Int),rest=vs.zip ws/\
    ù vs bW/\ù ws de/\bW.length+Ł.size=de.length+items.size/\R (.ok<|.ret<|.bool<|lexLt bW de) ⟨hp,g,d,tk,os⟩) _
  case turn =>
   rintro⟨y,x⟩ rest b s' ⟨bj,rfl,vs,ws,bW,de,hz,hvi,hwi,hlen,hR⟩;cases hvi with
   |nil=>rw[Δ]at hz;cases hz
   |cons a t hvi' =>
    cases hwi with
    |nil=>rw[ν]at hz;cases hz
    |cons c u hwi' =>
     rw[ŋ]at hz;injection hz with hyx hrest;injection hyx with hy hx;subst hy hx;rw[lexLt_cons]at hR;simp only[Ë]at hlen;obtain⟨e,he,hiff⟩:=eqAt_int A.in1 ⟨hp,g,d,tk,os⟩ a t c u;refine À<|he prog w _ _ ?_;cases e with
     |true =>
      rw[f6<|hiff.mp rfl]at hR
      wp_walk
      exact⟨rfl,rfl,_,_,_,_,hrest,hvi',hwi',by lia,hR⟩
     |false =>
      rw[f7 λq=>gc (hiff.mpr q) ü]at hR;have hri:=DK A.in1 ⟨hp,g,d,tk,os⟩ a t c u prog w
      wp_walk using hri
      exact⟨_,rfl,by simpa using hR⟩
  case fin =>
   rintro⟨b1,b2⟩ s' ⟨bj,rfl,vs,ws,bW,de,hz,hvi,hwi,hlen,hR⟩;simp only at bj;subst bj;have hv:lexLt bW de=gf (items.size<Ł.size):=by
    cases hvi with
    |nil =>
     cases hwi with
     |nil =>simp only[Ĳ]at hlen;rw[J3];exact(f8<|by lia).symm
     |cons c u hw =>simp only[Ĳ,Ë]at hlen;rw[Jt];exact(f9<|by lia).symm
    |cons a t hv =>
     cases hwi with
     |nil =>simp only[Ĳ,Ë]at hlen;rw[Jk];exact(f8<|by lia).symm
     |cons c u hw =>rw[ŋ]at hz;cases hz
   rw[hv]at hR
   wp_walk
   exact⟨_,rfl,by simpa[Builtin.Tuple.tupleCompareSizes]using hR⟩
  case h =>exact⟨rfl,rfl,items.toList,Ł.toList,ns,ms,rfl,hi,hj,by lia,h⟩
end
section
variable {prog:à}{w:ó}{A:Ą}{E:Â->Å->Prop}{s:Å}
variable {b:È} {items:Array Â} {Q:Â->Å->Prop}
def lt_tupInts{l:È}{Ł:Array Â}{ns ms:List Int}(hl:ah s.heap l items)(hb:ah s.heap b Ł)(hi:ù items.toList ns)(hj:ù Ł.toList ms)
  (hu:A.units<Ĥ) (h:Q (.bool<|lexLt ns ms) s):wpAny (Û prog w) A (è .Lt (.ref l)<|.ref b) Q E s:=by
 obtain⟨⟨cls,dd,data,sl⟩,ho,hc,n,hd⟩:=id hl;obtain⟨⟨cls2,cO,data2,dL⟩,ho2,hc2,n2,bD⟩:=id hb;simp only at hc hd hc2 bD;subst hc hd hc2 bD;exact dR (op:=.Lt) ⟨_,ho,rfl⟩ ⟨_,ho2,rfl⟩ PySem.F.slot_tuple_lt PySem.F.entry_tuple_lt (PySem.F.args_tuple_lt_2 _ _) (J6 l b items Ł n n2 dd cO sl dL ns ms hi hj)
  ⟨ho,ho2,show Value.bool (lexLt ns ms)≠ca/\Q (.bool<|lexLt ns ms) s from ⟨(λx=>nomatch x),h⟩⟩ hu
def cat_tup{t:È}{vs ws:List Â}(ht:ah s.heap t vs.toArray)(hb:ah s.heap b ws.toArray)(hv:vs≠[])
  (h1:ws=[]->Q (.ref t) s) (h2:ws≠[]->Q (.ref s.heap.objs.size) {s with heap:=s.heap.push {cls:=.type "tuple",data:=.seq (vs++ws).toArray}})
  (hsz:vs.length+ws.length<=Ù):wpAny (Û prog w) A (ń .Add (.ref t)<|.ref b) Q E s:=by
 obtain⟨⟨cls,dd,data,sl⟩,ho,hc,n,hd⟩:=id ht;obtain⟨⟨cls2,cO,data2,dL⟩,ho2,hc2,n2,bD⟩:=id hb;simp only at hc hd hc2 bD;subst hc hd hc2 bD;have e:vs.toArray++ws.toArray=(vs++ws).toArray:=by simp
 by_cases hw:ws=[]
 .exact dU ⟨_,ho,rfl⟩ ⟨_,ho2,rfl⟩ bd cU PySem.F.slot_tuple_add PySem.F.entry_tuple_add (PySem.F.args_tuple_add_2 _ _)
   (tuple_addW1 t b vs.toArray ws.toArray n n2 dd cO sl dL (by simpa using hv)<|by simp[hw]) ⟨ho,ho2,h1 hw⟩
 .refine dU ⟨_,ho,rfl⟩ ⟨_,ho2,rfl⟩ bd cU PySem.F.slot_tuple_add PySem.F.entry_tuple_add (PySem.F.args_tuple_add_2 _ _)
   (tuple_addW2 t b vs.toArray ws.toArray n n2 dd cO sl dL (by simpa using hv) (by simpa using hw)<|by rw[Í,Í];exact hsz) ⟨ho,ho2,?_⟩
  rw[e];exact h2 hw
abbrev sIx(n d:Nat):Option Int->Nat
 |none=>d
 |some v=>if v<0 then(v+(n:Int)).toNat else min v.toNat n
def Lv(n d:Nat)(hd:d<=n)(o:Option Int):sIx n d o<=n:=by
 cases o with
 |none=>exact hd
 |some v =>
  show(if v<0 then(v+(n:Int)).toNat else min v.toNat n)<=n;by_cases hv:v<0
  .rw[f6 hv];lia
  .rw[f7 hv];exact am _ _
def clip_eq(v:Int)(n d:Nat):(if v<0 then max (v+(n:Int)) 0 else min v (n:Int))=((sIx n d (eh v):Nat):Int):=by
 show(if v<0 then max (v+(n:Int)) 0 else min v (n:Int))=(((if v<0 then(v+(n:Int)).toNat else min v.toNat n):Nat):Int)
 by_cases hv:v<0
 .simp only[f6 hv];lia
 .simp only[f7 hv];lia
def NU(lo hi:Option Int)(n:Nat):Builtin.Slice.sliceAdjust lo hi 1 (n:Int)=(((sIx n 0 lo:Nat):Int),((sIx n n hi:Nat):Int)):=by
 have h1:¬ ((1:Int)<0):=by lia
 unfold Builtin.Slice.sliceAdjust;simp only[h1,if_false];refine Prod.ext ?_ ?_
 .cases lo with
  |none=>rfl
  |some v=>exact clip_eq v n 0
 .cases hi with
  |none=>rfl
  |some v=>exact clip_eq v n n
def NO(i j:Nat):Builtin.Slice.slicePlaces (i:Int) (j:Int) 1=j - i:=by
 unfold Builtin.Slice.slicePlaces;have h1:(1:Int) > 0:=by lia
 simp only[h1,if_true,Int.ediv_one];split<;>lia
def W5{v:Â}{o:Option Int}{Q:Option Int->Å->Prop}(p:Ϟ v o)(h:Q o s):wpAny (Û prog w) A (Builtin.Slice.slicePartIndex v) Q E s:=by
 cases p with
 |none=>exact slicePart_none h
 |int i t=>exact slicePart_int h
variable {sl:È} {vl:Â} {vu:Â} {lo:Option Int} {hi:Option Int}
def Yk{n:Nat}{Q:Int×Int×Nat->Å->Prop}(hs:s.heap.IsSliceOf sl vl vu .none)(pl:Ϟ vl lo)(pu:Ϟ vu hi)
  (h:Q (((sIx n 0 lo:Nat):Int),1,sIx n n hi - sIx n 0 lo) s):wpAny (Û prog w) A (Builtin.Slice.sliceApplied (.ref sl)<|pure (n:Int)) Q E s:=by
 obtain⟨os,hos,hcs,hds⟩:=id hs;unfold Builtin.Slice.sliceApplied Builtin.Slice.sliceFields;refine À<|À<|Ħ hos hds (x:=vl) rfl<|À<|Ħ hos hds (x:=vu) rfl<|À<|Ħ hos hds (x:=.none) rfl<|Æ ?_;refine À<|slicePart_none ?_;show wpAny _ _ (if((1:Int)==0)=ej then _ else _) _ _ s;rw[f7<|by decide];refine À<|W5 pl<|À<|W5 pu<|À<|Æ ?_;show wpAny _ _ (match Builtin.Slice.sliceAdjust lo hi 1 (n:Int)with|(lo,hi)=>pure (lo,(1:Int),Builtin.Slice.slicePlaces lo hi 1)) _ _ s;rw[NU lo hi n];show wpAny _ _ (pure (((sIx n 0 lo:Nat):Int),(1:Int),Builtin.Slice.slicePlaces ((sIx n 0 lo:Nat):Int) ((sIx n n hi:Nat):Int) 1)) _ _ s;rw[NO];exact Æ h
def Cb(xs:Array Â)(i k:Nat):((List.range k).filterMap λ(m:Nat)=>xs[((i:Int)+(m:Int)*1).toNat]?).toArray=((xs.toList.drop i).take k).toArray:=by
 have e:(λ(m:Nat)=>xs[((i:Int)+(m:Int)*1).toNat]?)=λm=>xs[i+m]?:=by
  funext m;have:((i:Int)+(m:Int)*1).toNat=i+m:=by lia
  rw[this]
 rw[e];have:=pick_run xs i k;rw[ξ]at this;have e2:((λx=>xs[x]?) ∘ λx=>i+x)=λm=>xs[i+m]?:=rfl;rw[e2]at this;rw[this]
def getItem_tuple_cut{t:È}(ht:ah s.heap t items)(hs:s.heap.IsSliceOf sl vl vu .none)(pl:Ϟ vl lo)(pu:Ϟ vu hi)
  (hw:¬ (sIx items.size 0 lo=0/\sIx items.size items.size hi=items.size))
  (h:Q (.ref s.heap.objs.size) {s with heap:=s.heap.push {cls:=.type "tuple",data:=.seq ((items.toList.drop<|sIx items.size 0 lo).take<|sIx items.size items.size hi - sIx items.size 0 lo).toArray}})
  (hsz:items.size<=Ù):wpAny (Û prog w) A (ϝ (.ref t)<|.ref sl) Q E s:=by
 have cP:sizeOk<|.seq ((items.toList.drop<|sIx items.size 0 lo).take<|sIx items.size items.size hi - sIx items.size 0 lo).toArray:=by show((items.toList.drop<|sIx items.size 0 lo).take<|sIx items.size items.size hi - sIx items.size 0 lo).toArray.size<=Ù;rw[Í,ĥ,Ν,î];lia
 have hj:sIx items.size items.size hi<=items.size:=Lv _ _ (Ì _) hi;obtain⟨os,hos,hcs,hds⟩:=id hs;have hTs:s.TypeIs (.ref sl) "slice":=⟨os,hos,hcs⟩
 unfold ϝ
 try with_reducible refine ė ?_
 first|refine À (Æ ?_)|skip
 refine À (wpAny_sequenceKey ht.typeIs (by decide) ?_);refine À (Đ (name:=gg "__getitem__") ht.typeIs PyProof.Rows.slot_tuple_getitem
   (ĉ PyProof.Rows.slot_tuple_getitem ht.typeIs entry_tuple_getitem ?_<|args_tuple_getitem _ _))
 show wpAny _ _ (Builtin.Tuple.tupleItemsOf (.ref t) >>= _) _ _ s;refine À<|tupleItemsOf_ ht ?_;refine À<|ϟ hTs ?_;rw[f6<|by decide];refine À<|Yk hs pl pu ?_;have hno:¬ ((((sIx items.size 0 lo:Nat):Int)==0&&(1:Int)==1&&(sIx items.size items.size hi - sIx items.size 0 lo)==items.size)=ej):=by intro q;rw[bAq,bAq]at q;have q1:((sIx items.size 0 lo:Nat):Int)=0:=eq_of_beq q.1.1;have q2:sIx items.size items.size hi - sIx items.size 0 lo=items.size:=eq_of_beq q.2;exact hw ⟨by lia,by lia⟩
 show wpAny _ _ (if(((sIx items.size 0 lo:Nat):Int)==0&&(1:Int)==1&&(sIx items.size items.size hi - sIx items.size 0 lo)==items.size)=ej then _ else _) _ _ s;rw[f7 hno,Cb]
 first
  |exact À (m:=Builtin.Tuple.tupleExact _)<|þ (Æ ⟨_,rfl,Æ h⟩) cP
  |exact À (m:=Builtin.Tuple.tupleExact _)<|þ (À<|Æ<|Æ ⟨_,rfl,Æ h⟩) cP
  |exact À<|À (m:=Builtin.Tuple.tupleExact _)<|þ (Æ<|Æ ⟨_,rfl,Æ h⟩) cP
  |exact À<|À (m:=Builtin.Tuple.tupleExact _)<|þ (Æ ⟨_,rfl,Æ h⟩) cP
end
end HT
namespace L2
open PySem PySem.Spec PyProof.Rows
noncomputable abbrev TO:=St->Hp->(Option Int->Hp->Prop)->Prop
abbrev PO(X:Cx)(e:Option Expr)(t:TO):Prop :=
 ∀(Á:List<|È×Obj) (s:Å) (σ:St) (H:Hp) (Q:Option Int->Hp->Prop),Inv X Á σ H s->t σ H Q->
  wpAny (Û X.prog X.w) X.A (evalPart e X.env) (λu s'=>∃o H',Inv X Á σ H' s'/\Ϟ u o/\Q o H') X.xe s
abbrev DZ:TO:=λ_ H Q=>Q ei H
abbrev PZ(t:TE):TO:=λσ H Q=>t σ H λx H1=>∃i,x=.int i/\Q (eh i) H1
def ZD{ns:List Int}:∀{us:List Â},fS (ns.map V.int) us->ù us ns:=by
 induction ns with
 |nil=>intro us r;rw[Ψ]at r;cases r;exact .nil
 |cons n ns ih =>
  intro us r;rw[Ï]at r;cases r with
  |cons r1 r2 =>obtain⟨t,e⟩:=r1;subst e;exact .cons n t<|ih r2
section
variable {X:Cx}{e:Expr}{te:TE}{lo hi:Option Expr}{tl th:TO}{ç p2:Pos}
def po_none:PO X ei DZ:=by intro Á s σ H Q I h;rw[evalPart_none];exact Æ ⟨ei,H,I,.none,h⟩
def EU(h:PE X e te):PO X (eh e)<|PZ te:=by intro Á s σ H Q I hw;rw[evalPart_some];refine thn (h Á s σ H _ I hw) λu s1 ⟨x,H1,I1,r1,q1⟩=>?_;obtain⟨i,rfl,q⟩:=q1;obtain⟨t,rfl⟩:=r1;exact⟨eh i,H1,I1,.int i t,q⟩
abbrev SlR(X:Cx)(r:V->Option Int->Option Int->Hp->VK->Prop):Prop :=
 ∀(Á:List<|È×Obj) (s:Å) (σ:St) (H:Hp) (x:V) (v vl vu:Â) (lo hi:Option Int) (sl:È) (Q:VK),Inv X Á σ H s->RelV x v->s.heap.IsSliceOf sl vl vu .none->Ϟ vl lo->Ϟ vu hi->r x lo hi H Q->
  ∃T id,typeLookup (.type T) "__getitem__" = pure (eh<|.builtin id)/\s.TypeIs v T/\wpAny (Û X.prog X.w) X.A (ϝ v<|.ref sl) (EP X Á σ Q) X.xe s
variable {r:V->Option Int->Option Int->Hp->VK->Prop}
def SlR.or{r':V->Option Int->Option Int->Hp->VK->Prop}(h:SlR X r)(h':SlR X r'):SlR X λx lo hi H Q=>r x lo hi H Q\/r' x lo hi H Q:=by
 intro Á s σ H x v vl vu lo hi sl Q I rx hs pl pu q;rcases q with q|q
 .exact h Á s σ H x v vl vu lo hi sl Q I rx hs pl pu q
 .exact h' Á s σ H x v vl vu lo hi sl Q I rx hs pl pu q
abbrev tSl(r:V->Option Int->Option Int->Hp->VK->Prop)(te:TE)(tl th:TO):TE:=λσ H Q=>te σ H λx H1=>tl σ H1 λl H2=>th σ H2 λu H3=>r x l u H3 Q
def BQ(hr:SlR X r)(he:PE X e te)(hl:PO X lo tl)(hu:PO X hi th):PE X (.Subscript e (.Slice lo hi ei p2) ç)<|tSl r te tl th:=by intro Á s σ H Q I h;refine Subscript_<|thn (he Á s σ H _ I h) λv s1 ⟨x,H1,I1,r1,q1⟩=>?_;refine wpAny_Slice<|thn (hl Á s1 σ H1 _ I1 q1) λvl s2 ⟨l,H2,I2,pl,q2⟩=>thn (hu Á s2 σ H2 _ I2 q2) λvu s3 ⟨u,H3,I3,pu,q3⟩=>?_;rw[evalPart_none];refine Æ ?_;have I4:Inv X Á σ H3 {s3 with heap:=s3.heap.push {cls:=.type "slice",data:=.fields #[vl,vu,.none]}}:=I3.kept (t':=s3.toks) λb ob q=>Ä _ q;obtain⟨T,id,hT,ht,hg⟩:=hr Á {s3 with heap:=s3.heap.push {cls:=.type "slice",data:=.fields #[vl,vu,.none]}} σ H3 x v vl vu l u s3.heap.objs.size Q I4 r1 (Heap.IsSliceOf.new ..) pl pu q3;show wpAny (Û X.prog X.w) X.A (cV e (.Slice lo hi ei p2) v<|.ref s3.heap.objs.size) (EP X Á σ Q) X.xe {s3 with heap:=s3.heap.push {cls:=.type "slice",data:=.fields #[vl,vu,.none]}};exact tail_any (ops:=[.ref s3.heap.objs.size,v]) ht hT hg (by with_unfolding_all rfl)
abbrev Ms(xs:List V)(lo hi:Option Int):List V:=(xs.drop<|HT.sIx xs.length 0 lo).take<|HT.sIx xs.length xs.length hi - HT.sIx xs.length 0 lo
def Wp(xs:List V)(lo hi:Option Int):(Ms xs lo hi).length<=xs.length:=by unfold Ms;rw[ĥ,Ν];lia
abbrev LV(K:Frag):V->Option Int->Option Int->Hp->VK->Prop:=λx lo hi H Q=>∃a xs,x=.ref a/\fR K H a xs/\
 ¬ (HT.sIx xs.length 0 lo=0/\HT.sIx xs.length xs.length hi=xs.length)/\∀p,H p=ei->Q (.ref p) (upd H p<|.tup<|Ms xs lo hi)
def fG:SlR X<|LV X.K:=by
 intro Á s σ H x v vl vu lo hi sl Q I rx hs pl pu h;obtain⟨a,xs,rfl,hx,hw,q⟩:=h;cases rx;obtain⟨ñ,r,ht,hz⟩:=I.tuple hx;have hlen:ñ.toArray.size=xs.length:=by rw[Í];exact r.length.symm
 refine⟨"tuple",_,PyProof.Rows.slot_tuple_getitem.lookup,ht.typeIs,?_⟩;refine HT.getItem_tuple_cut ht hs pl pu (by rw[hlen];exact hw) ?_ (by rw[hlen];exact hz);rw[hlen];refine⟨.ref s.heap.objs.size,_,I.laid (t':=s.toks) (o:=.tup<|Ms xs lo hi) (λb ob q=>Ä _ q) (Ì _) ?_,rfl,q _<|I.hok.fresh<|Ì _⟩;exact⟨Ý (Wp xs lo hi) hz,_,(r.drop<|HT.sIx xs.length 0 lo).take<|HT.sIx xs.length xs.length hi - HT.sIx xs.length 0 lo,IsTup.new _ _⟩
abbrev LX(K:Frag):R2:=λx y H Q=>∃a b ns ms,x=.ref a/\y=.ref b/\fR K H a (ns.map V.int)/\fR K H b (ms.map V.int)/\Q (.bl<|HT.lexLt ns ms) H
def Ir(hu:X.A.units<Ĥ):OpR X (è .Lt)<|LX X.K:=by intro Á s σ H x y v u Q I rx ry h;obtain⟨a,b,ns,ms,rfl,rfl,ha,hb,q⟩:=h;cases rx;cases ry;obtain⟨ñ,r1,p1,_⟩:=I.tuple ha;obtain⟨aS,r2,p2,_⟩:=I.tuple hb;have i1:ù ñ.toArray.toList ns:=ZD r1;have i2:ù aS.toArray.toList ms:=ZD r2;exact HT.lt_tupInts p1 p2 i1 i2 hu ⟨.bl<|HT.lexLt ns ms,H,I,rfl,q⟩
abbrev Gj(K:Frag):R2:=λx y H Q=>∃a b xs ys,x=.ref a/\y=.ref b/\fR K H a xs/\fR K H b ys/\xs≠[]/\xs.length+ys.length<=Ù/\
 (ys=[]->Q (.ref a) H)/\(ys≠[]->∀p,H p=ei->Q (.ref p) (upd H p<|.tup<|xs++ys))
def fS.nil_iff{xs:List V}{us:List Â}(r:fS xs us):us=[]↔xs=[]:=by
 cases r with
 |nil=>simp
 |cons _ _=>simp
def FP:OpR X (ń .Add)<|Gj X.K:=by intro Á s σ H x y v u Q I rx ry h;obtain⟨a,b,xs,ys,rfl,rfl,ha,hb,hx,hz,q1,q2⟩:=h;cases rx;cases ry;obtain⟨ñ,r1,p1,_⟩:=I.tuple ha;obtain⟨aS,r2,p2,_⟩:=I.tuple hb;refine HT.cat_tup p1 p2 (λz=>hx<|r1.nil_iff.mp z) (λz=>⟨.ref a,H,I,rfl,q1<|r2.nil_iff.mp z⟩) (λz=>?_) (by rw[<-r1.length,<-r2.length];exact hz);refine⟨.ref s.heap.objs.size,_,I.laid (t':=s.toks) (o:=.tup<|xs++ys) (λb ob q=>Ä _ q) (Ì _) ?_,rfl,q2 (λw=>z<|r2.nil_iff.mpr w) _<|I.hok.fresh<|Ì _⟩;exact⟨by rw[ê];exact hz,_,r1.append r2,IsTup.new _ _⟩
end
abbrev ixN(n:Nat)(i:Int):Option Nat:=if 0<=i then(if i<n then eh i.toNat else ei)else if -(n:Int)<=i then eh (i+n).toNat else ei
variable {α:Type}
abbrev atI(xs:List α)(i:Int):Option α:=(ixN xs.length i).bind λj=>xs[j]?
variable {n:Nat} {i:Int}
def KM{j:Nat}(h:ixN n i=eh j):seqIndex? i n=eh j/\j<n/\-(n:Int)<=i/\i<n:=by
 unfold ixN at h;by_cases h0:0<=i
 .rw[f6 h0]at h;by_cases h1:i<n
  .rw[f6 h1]at h;have e:i.toNat=j:=í h;exact⟨by rw[bw h0 h1,e],by lia,by lia,h1⟩
  .rw[f7 h1]at h;cases h
 .rw[f7 h0]at h;by_cases h1:-(n:Int)<=i
  .rw[f6 h1]at h;have e:(i+n).toNat=j:=í h;exact⟨by rw[aJ (by lia) h1,e],by lia,h1,by lia⟩
  .rw[f7 h1]at h;cases h
def WQ{xs:List α}{v:α}(h:atI xs i=eh v):∃j,seqIndex? i xs.length=eh j/\xs[j]?=eh v/\j<xs.length/\-(xs.length:Int)<=i/\i<xs.length:=by
 unfold atI at h;cases e:ixN xs.length i with
 |none=>rw[e]at h;cases h
 |some j =>rw[e]at h;obtain⟨h1,h2,h3,h4⟩:=KM e;exact⟨j,h1,h,h2,h3,h4⟩
abbrev KZ(b:Expr):Prop:=∀o i,subscripted b ez o i=operate [o,i] (ϝ o i)
abbrev IxR(X:Cx)(r:R2):Prop :=
 ∀(ζ slice:Expr) (Á:List<|È×Obj) (s:Å) (σ:St) (H:Hp) (x y:V) (v u:Â) (Q:VK),Inv X Á σ H s->RelV x v->RelV y u->r x y H Q->
  subscripted slice ez v u=operate [v,u] (ϝ v u)->wpAny (Û X.prog X.w) X.A (cV ζ slice v u) (EP X Á σ Q) X.xe s
abbrev MtR(X:Cx)(id:String)(r:V->List V->Hp->VK->Prop):Prop :=
 ∀(Á:List<|È×Obj) (s:Å) (σ:St) (H:Hp) (x:V) (xs:List V) (v:Â) (us:List Â) (Q:VK),Inv X Á σ H s->RelV x v->fS xs us->r x xs H Q->
  wpAny (Û X.prog X.w) X.A (call (.builtin id)<|v::us) (EP X Á σ Q) X.xe s
section
variable {X:Cx}{a b:Expr}{ta tb:TE}{ç:Pos}
variable {r:R2}
def IxR.or{r':R2}(h:IxR X r)(h':IxR X r'):IxR X λx y H Q=>r x y H Q\/r' x y H Q:=by
 intro ζ slice Á s σ H x y v u Q I rx ry q hs;rcases q with q|q
 .exact h ζ slice Á s σ H x y v u Q I rx ry q hs
 .exact h' ζ slice Á s σ H x y v u Q I rx ry q hs
def MtR.or{id:String}{r r':V->List V->Hp->VK->Prop}(h:MtR X id r)(h':MtR X id r'):MtR X id λx xs H Q=>r x xs H Q\/r' x xs H Q:=by
 intro Á s σ H x xs v us Q I rx rs q;rcases q with q|q
 .exact h Á s σ H x xs v us Q I rx rs q
 .exact h' Á s σ H x xs v us Q I rx rs q
def PY(hr:IxR X r)(ha:PE X a ta)(hb:PE X b tb)(hs:KZ b):PE X (.Subscript a b ç)<|tOp r ta tb:=by intro Á s σ H Q I h;exact Subscript_ (Lw ha hb I h λv u s2 x y H2 I2 rx ry q=>hr a b Á s2 σ H2 x y v u Q I2 rx ry q<|hs _ _)
abbrev Co(K:Frag):R2:=λx y H Q=>∃p xs i v,x=.ref p/\y=.int i/\fQ K H p xs/\atI xs i=eh v/\Q v H
abbrev Qn(K:Frag):R2:=λx y H Q=>∃p xs i v,x=.ref p/\y=.int i/\fR K H p xs/\atI xs i=eh v/\Q v H
abbrev Qy:R2:=λx y H Q=>∃z i c,x=.str z/\y=.int i/\z.length<=Ù/\atI z.cps.toList i=eh c/\Q (.str ⟨#[c]⟩) H
def ix_list:IxR X<|Co X.K:=by
 intro ζ slice Á s σ H x y v u Q I rx ry h hs;obtain⟨p,xs,i,z,rfl,rfl,hq,he,q⟩:=h;cases rx;obtain⟨t,rfl⟩:=ry;obtain⟨ñ,r,pl,hz⟩:=I.list hq;obtain⟨j,h1,h2,h3,h4,h5⟩:=WQ he;obtain⟨w,ew,aT⟩:=r.get h2;have hl:=r.length;have hn:=YY;have fin:EP X Á σ Q w s:=⟨z,H,I,aT,q⟩
 by_cases h0:0<=i
 .have hj:i.toNat=j:=by
   rw[bw h0 h5]at h1;exact í h1
  exact item_listR pl.isList h0 (by lia) (by rw[hj];simpa using ew) fin hs
 .have hj:(i+(ñ.toArray.size:Int)).toNat=j:=by
   rw[aJ (by lia) h4]at h1;rw[Í,<-hl];exact í h1
  exact dW (x:=w) pl.isList.typeIs slot_list_getitem.lookup
   (dX (Q:=λr s'=>r=w/\EP X Á σ Q r s') pl.isList (by lia) (by rw[Í]<;>lia) (by lia) (by rw[hj];simpa using ew) ⟨rfl,fin⟩) hs
def eM:IxR X<|Qn X.K:=by
 intro ζ slice Á s σ H x y v u Q I rx ry h hs;obtain⟨p,xs,i,z,rfl,rfl,hq,he,q⟩:=h;cases rx;obtain⟨t,rfl⟩:=ry;obtain⟨ñ,r,pl,hz⟩:=I.tuple hq;obtain⟨j,h1,h2,h3,h4,h5⟩:=WQ he;obtain⟨w,ew,aT⟩:=r.get h2;have hl:=r.length;have hn:=YY;have fin:EP X Á σ Q w s:=⟨z,H,I,aT,q⟩
 exact dW (x:=w) pl.typeIs slot_tuple_getitem.lookup
  (getItem_tuple (j:=j) (Q:=λr s'=>r=w/\EP X Á σ Q r s') pl (by lia) (by lia) (by rw[Í,<-hl];exact h1) (by simpa using ew) ⟨rfl,fin⟩) hs
def HR:IxR X Qy:=by
 intro ζ slice Á s σ H x y v u Q I rx ry h hs;obtain⟨z,i,c,rfl,rfl,hz,he,q⟩:=h;obtain⟨t,rfl⟩:=rx;obtain⟨t',rfl⟩:=ry;obtain⟨j,h1,h2,h3,h4,h5⟩:=WQ he;have hl:z.cps.toList.length=z.length:=by simp[Str.length]
 rw[hl]at h1 h4 h5;have hn:=YY;exact tail_any (typeIs_str s z t) slot_str_getitem.lookup (getItem_str (c:=c) (by
   have e1:gf (i < -(2 ^ 63:Int))=ez:=f8 (by lia)
   have e2:gf (i≥2 ^ 63)=ez:=f8 (by lia)
   rw[e1,e2,Ϫ]) (by rw[h1];simpa using h2) ⟨.str ⟨#[c]⟩,H,I.tok _,⟨_,rfl⟩,q⟩) hs
abbrev rIx(K:Frag):R2:=λx y H Q=>Co K x y H Q\/Qn K x y H Q\/Qy x y H Q
def ix_seq:IxR X<|rIx X.K:=ix_list.or (eM.or HR)
def Ov(ñ:List Â)(n j:Nat)(u:Â):ς (·.setIfInBounds j u) {cls:=.type "list",data:=.seq ñ.toArray n}={cls:=.type "list",data:=.seq (ñ.set j u).toArray n}:=by simp[ς]
def Inv.lst{Á:List (È×Obj)}{σ:St}{H:Hp}{s:Å}{p:È}{xs:List V}(I:Inv X Á σ H s)(h:H p=eh (.lst xs)) :
  ∃(ñ:List Â) (n:Nat),fS xs ñ/\s.heap.get? p=eh {cls:=.type "list",data:=.seq ñ.toArray n}/\xs.length<=Ù:=by
 obtain⟨z,ñ,n,r,e⟩:=I.hok p _ h;exact⟨ñ,n,r,e,z⟩
variable {Á:List (È×Obj)} {σ:St} {H:Hp} {s:Å}
def Inv.lstUpd{p:È}{xs ys:List V}{ñ its':List Â}{n':Nat}{f:Obj->Obj}(I:Inv X Á σ H s)(h:H p=eh (.lst xs))
  (ho:s.heap.get? p=eh {cls:=.type "list",data:=.seq ñ.toArray n}) (hf:f {cls:=.type "list",data:=.seq ñ.toArray n}={cls:=.type "list",data:=.seq its'.toArray n'}) (r:fS ys its') (hz:ys.length<=Ù) (t:Nat) :
  Inv X Á σ (upd H p<|.lst ys) {s with heap:=s.heap.update p f,toks:=t}:=by
 have e:(s.heap.update p f).get? p=eh {cls:=.type "list",data:=.seq its'.toArray n'}:=by rw[Č f ho (by rw[hf]<;>rfl),hf]
 refine I.write (x:=p) (e:=p) (by rw[h];trivial) (.inl rfl) (λb u hb q=>(ë _ _<|Ne.symm hb).trans q) ⟨_,e⟩ ?_;exact⟨hz,its',n',r,e⟩
abbrev Gr:V->V->V->Hp->(Hp->Prop)->Prop:=λo i v H Q=>∃p xs k j,o=.ref p/\i=.int k/\H p=eh (.lst xs)/\ixN xs.length k=eh j/\Q (upd H p<|.lst<|xs.set j v)
def NG:PSet X Gr:=by
 intro Á s σ H o i v ov iv u Q I ro ri rv h;obtain⟨p,xs,k,j,rfl,rfl,hp,hj,q⟩:=h;cases ro;obtain⟨t,rfl⟩:=ri;obtain⟨ñ,n,r,ho,hz⟩:=I.lst hp;obtain⟨h1,h2,h3,h4⟩:=KM hj;have hl:=r.length;have hn:=YY;have I':Inv X Á σ (upd H p<|.lst<|xs.set j v) {s with heap:=s.heap.update p (ς (·.setIfInBounds j u))} :=
  I.lstUpd hp ho (Ov ñ n j u) (r.set rv j) (by rw[ϐ];exact hz) s.toks
 by_cases h0:0<=k
 .have hk:k.toNat=j:=by
   rw[bw h0 h4]at h1;exact í h1
  exact PySem.W.ki_setAt ho h0 (by lia) (by rw[Í,<-hl];exact h4) (by rw[hk];exact⟨_,I',q⟩)
 .have hk:(k+(ñ.toArray.size:Int)).toNat=j:=by
   rw[aJ (by lia) h3]at h1;rw[Í,<-hl];exact í h1
  exact PySem.W.ki_setBack ho (by lia) (by rw[Í,<-hl];exact h3) (by lia) (by rw[hk];exact⟨_,I',q⟩)
def Mq(lo hi:Option Int)(n:Nat):(θ lo hi ei n).1=((HT.sIx n 0 lo:Nat):Int)/\(θ lo hi ei n).2.1=((HT.sIx n n hi:Nat):Int)/\(θ lo hi ei n).2.2=1:=by
 refine⟨?_,?_,rfl⟩
 .cases lo with
  |none=>simp[θ,HT.sIx]
  |some i =>
   simp only[θ,HT.sIx,dm,show(1:Int) > 0 by decide,if_true];by_cases h:i<0
   .simp only[h,if_true]<;>lia
   .simp only[h,if_false]<;>lia
 .cases hi with
  |none=>simp[θ,HT.sIx]
  |some i =>
   simp only[θ,HT.sIx,dm,show(1:Int) > 0 by decide,if_true];by_cases h:i<0
   .simp only[h,if_true]<;>lia
   .simp only[h,if_false]<;>lia
def JP(ñ:List Â)(lo hi:Option Int):slicePick ñ.toArray lo hi ei=((ñ.drop<|HT.sIx ñ.length 0 lo).take<|HT.sIx ñ.length ñ.length hi - HT.sIx ñ.length 0 lo).toArray:=by obtain⟨h1,h2,h3⟩:=Mq lo hi ñ.toArray.size;unfold slicePick;rw[h1,h2,h3];simp only[sliceRange_one,pick_run,Í]<;>rfl
abbrev LO(K:Frag):V->Option Int->Option Int->Hp->VK->Prop:=λx lo hi H Q=>∃a xs,x=.ref a/\fQ K H a xs/\∀p,H p=ei->Q (.ref p) (upd H p<|.lst<|Ms xs lo hi)
def sl_list:SlR X<|LO X.K:=by intro Á s σ H x v vl vu lo hi sl Q I rx hs pl pu h;obtain⟨a,xs,rfl,hx,q⟩:=h;cases rx;obtain⟨ñ,r,ht,hz⟩:=I.list hx;have hlen:=r.length;refine⟨"list",_,slot_list_getitem.lookup,ht.isList.typeIs,?_⟩;refine wpAny_getItem_list_slice ht.isList hs pl pu .none (by simp) ?_ (by rw[Í]<;>lia);rw[JP,<-hlen];refine⟨.ref s.heap.objs.size,_,I.laid (t':=s.toks) (o:=.lst<|Ms xs lo hi) (λb ob q=>Ä _ q) (Ì _) ?_,rfl,q _<|I.hok.fresh<|Ì _⟩;exact⟨Ý (Wp xs lo hi) hz,_,0,(r.drop<|HT.sIx xs.length 0 lo).take<|HT.sIx xs.length xs.length hi - HT.sIx xs.length 0 lo,Ñ _ rfl⟩
abbrev eqV:V->V->Bool
 |.non,.non=>ej
 |.bl a,.bl b=>a==b
 |.bl a,.int b=>(if a then 1 else 0)==b
 |.int a,.bl b=>a==(if b then 1 else 0)
 |.int a,.int b=>a==b
 |.str a,.str b=>a==b
 |_,_=>ez
abbrev inV(x:V)(xs:List V):Bool:=xs.any λy=>eqV y x
def KN:OpR X (è .NotIn) λx y H Q=>∃i j,x=.str i/\y=.str j/\Q (.bl (!(!(Builtin.Str.occurrences j i 0 j.length 1).isEmpty))) H:=by intro Á s σ H x y v u Q I rx ry h;obtain⟨i,j,rfl,rfl,q⟩:=h;obtain⟨t,rfl⟩:=rx;obtain⟨t',rfl⟩:=ry;exact notIn_str ⟨.bl _,H,I,rfl,q⟩
def call_len_seq:eP X (.builtin "len") λxs H Q=>∃p ys,xs=[.ref p]/\(fQ X.K H p ys\/fR X.K H p ys)/\Q (.int ys.length) H:=by
 intro Á s σ H xs us Q I r h;obtain⟨p,ys,rfl,hq,q⟩:=h;obtain⟨u,rfl,rx⟩:=ZT r;cases rx;have hn:=YY;rcases hq with hq|hq
 .obtain⟨ñ,r',pl,hz⟩:=I.list hq;have hlen:=r'.length;exact Calls.call_len_list pl.isList (by simp only[Í]<;>lia) ⟨.int ys.length,H,I.tok _,⟨s.toks+1,by rw[Í,hlen]⟩,q⟩
 .obtain⟨ñ,r',pl,hz⟩:=I.tuple hq;have hlen:=r'.length;exact len_tuple pl (by simp only[Í]<;>lia) ⟨.int ys.length,H,I.tok _,⟨s.toks+1,by rw[Í,hlen]⟩,q⟩
def Mb:eP X (.builtin "len") λxs H Q=>∃z,xs=[.str z]/\z.length<=Ù/\Q (.int z.length) H:=by intro Á s σ H xs us Q I r h;obtain⟨z,rfl,hz,q⟩:=h;obtain⟨u,rfl,t,rfl⟩:=ZT r;have hn:=YY;exact len_str (by lia) ⟨.int z.length,H,I.tok _,⟨_,rfl⟩,q⟩
def eP.or{f:Â}{r r':List V->Hp->VK->Prop}(h:eP X f r)(h':eP X f r'):eP X f λxs H Q=>r xs H Q\/r' xs H Q:=by
 intro Á s σ H xs us Q I rs q;rcases q with q|q
 .exact h Á s σ H xs us Q I rs q
 .exact h' Á s σ H xs us Q I rs q
def Mu:eP X (.type "list") λxs H Q=>∃p ys,xs=[.ref p]/\(fQ X.K H p ys\/fR X.K H p ys)/\∀l,H l=ei->Q (.ref l) (upd H l<|.lst ys):=by
 intro Á s σ H xs us Q I r h;obtain⟨p,ys,rfl,hq,q⟩:=h;obtain⟨u,rfl,rx⟩:=ZT r;cases rx;have fin:∀(ñ:List Â),fS ys ñ->ys.length<=Ù->∀(h':Ă) (c':Nat),(∀b o',s.heap.get? b=eh o'->h'.get? b=eh o')->
   h'.get? s.heap.objs.size=eh {cls:=.type "list",dict:=ei,data:=.seq ñ.toArray c',slots:=#[]}->EP X Á σ Q (.ref s.heap.objs.size) {s with heap:=h'}:=λñ r' hz h' c' kp e =>
  ⟨.ref s.heap.objs.size,_,I.laid (t':=s.toks) kp (Ì _) (show eQ X.prog X.w _ h' _ (.lst ys) from ⟨hz,ñ,c',r',e⟩),rfl,q _<|I.hok.fresh<|Ì _⟩
 rcases hq with hq|hq
 .obtain⟨ñ,r',pl,hz⟩:=I.list hq;have hlen:=r'.length;obtain⟨o,ho,hc,n,hd⟩:=pl.isList;exact call_list_seq p (.inl rfl) ho hc hd (λh' c' kp e=>fin ñ r' hz h' c' kp e) (by simp only[Í]<;>lia)
 .obtain⟨ñ,r',pl,hz⟩:=I.tuple hq;have hlen:=r'.length;obtain⟨o,ho,hc,n,hd⟩:=pl;exact call_list_seq p (.inr rfl) ho hc hd (λh' c' kp e=>fin ñ r' hz h' c' kp e) (by simp only[Í]<;>lia)
def JR:eP X (.type "tuple") λxs H Q=>∃p ys,xs=[.ref p]/\((fQ X.K H p ys/\∀l,H l=ei->Q (.ref l) (upd H l<|.tup ys))\/(fR X.K H p ys/\Q (.ref p) H)):=by
 intro Á s σ H xs us Q I r h;obtain⟨p,ys,rfl,h⟩:=h;obtain⟨u,rfl,rx⟩:=ZT r;cases rx;rcases h with⟨hq,q⟩|⟨hq,q⟩
 .obtain⟨ñ,r',pl,hz⟩:=I.list hq;have hlen:=r'.length;refine call_tuple_list pl.isList (λh' kp=>?_) (by simp only[Í]<;>lia);have I1:Inv X Á σ H {s with heap:=h'}:=I.kept (t':=s.toks) kp;have I2:Inv X Á σ (upd H h'.objs.size<|.tup ys) {s with heap:=h'.push {cls:=.type "tuple",data:=.seq ñ.toArray}} :=
   I1.laid (t':=s.toks) (λb o e=>Ä _ e) (Ì _) (show eQ X.prog X.w _ _ _ (.tup ys) from ⟨hz,ñ,r',IsTup.new _ _⟩)
  exact⟨.ref h'.objs.size,_,I2,rfl,q _<|I1.hok.fresh<|Ì _⟩
 .obtain⟨ñ,r',pl,hz⟩:=I.tuple hq;exact call_tuple_same pl ⟨.ref p,H,I,rfl,q⟩
abbrev tyV(K:Frag)(T:String)(x:V)(H:Hp):Prop:=match x with
 |.str _=>T = "str"
 |.int _=>T = "int"
 |.ref p=>(T = "list"/\∃xs,fQ K H p xs)\/(T = "tuple"/\∃o,K.lookup p=eh o/\o.cls=.type "tuple"/\o.dict=ei)\/
   (T = "dict"/\((∃kvs,H p=eh (.dK kvs))\/∃kvs,H p=eh (.dT kvs)))\/(T = "set"/\∃S n,H p=eh (.set S n))
 |_=>False
def IG{T:String}{x:V}{v:Â}(I:Inv X Á σ H s)(r:RelV x v)(ty:tyV X.K T x H) :
  s.TypeIs v T/\∀a,v=.ref a->∃ob,s.heap.get? a=eh ob/\ob.dict=ei:=by
 cases x with
 |str z =>obtain⟨t,rfl⟩:=r;cases (show T = "str" from ty);exact⟨typeIs_str s z t,λ_ e=>nomatch e⟩
 |int i =>obtain⟨t,rfl⟩:=r;cases (show T = "int" from ty);exact⟨typeIs_int s i t,λ_ e=>nomatch e⟩
 |ref p =>
  cases r;rcases ty with⟨rfl,xs,hq⟩|⟨rfl,o,hk,hc,hd⟩|⟨rfl,hk⟩|⟨rfl,S,n,hk⟩
  .obtain⟨ñ,_,pl,_⟩:=I.list hq;refine⟨pl.isList.typeIs,λa e=>?_⟩;cases e;obtain⟨o,n,e,c,hd,_⟩:=pl;exact⟨o,e,hd⟩
  .refine⟨⟨o,I.kIn p o hk,hc⟩,λa e=>?_⟩;cases e;exact⟨o,I.kIn _ o hk,hd⟩
  .have z:∃o,s.heap.get? p=eh o/\o.ExactDict:=by
    rcases hk with⟨kvs,hk⟩|⟨kvs,hk⟩
    .obtain⟨_,_,_,_,o,_,_,e,ex,_⟩:=I.hok p _ hk;exact⟨o,e,ex⟩
    .obtain⟨_,_,_,_,o,_,_,e,ex,_⟩:=I.hok p _ hk;exact⟨o,e,ex⟩
   obtain⟨o,e,ex⟩:=z;refine⟨⟨o,e,ex.1⟩,λa e2=>?_⟩;cases e2;exact⟨o,e,ex.2.1⟩
  .obtain⟨o,_,_,_,e,ex,_⟩:=I.hok p _ hk;refine⟨⟨o,e,ex.1⟩,λa e2=>?_⟩;cases e2;exact⟨o,e,ex.2.1⟩
 |_=>exact ģ ty
abbrev tBM(K:Frag)(T:String)(r:V->List V->Hp->VK->Prop)(to:TE)(t:TA):TE:=λσ H Q=>to σ H λx H1=>tyV K T x H1/\t σ H1 λxs H2=>r x xs H2 Q
variable {o e:Expr}{es:List Expr}{to:TE}{t:TA}{name:Str}{ŉ ř:Pos}{T id:String}{r:V->List V->Hp->VK->Prop}
def Qs(pa:PlainAttrs T)(slot:Slot T name id)(hty:typeOf (.builtin id)=pure (.type "method_descriptor"))(hm:MtR X id r)(ho:PE X o to)(ha:PA X (e::es) t)
  (ay:Ġ o name X.env (eval o X.env)=eval o X.env:=by rfl)
  (az:((ĝ ř<|Ô (e::es) X.env).all (λx=>!x.1)&&(ŷ ř<|ņ [] X.env).all (λx=>x.1.isSome)
    && gf ((e::es).length+([]:List aK).length+(if([]:List aK).isEmpty then 0 else 1)<30))=ej:=by rfl)
  (aA:(ŉ.endLine==ř.line)=ej:=by rfl) (hs:Ô (e::es) X.env=(ez,eval e X.env)::Ô es X.env:=by rfl) (cD:(ĝ ř<|Ô es X.env).any (·.1)=ez:=by rfl) :
  PE X (.Call (.Attribute o name ŉ) (e::es) [] ř) (tBM X.K T r to t):=by
 intro Á s σ H Q I h;refine wpAny_Call_method_late ay az aA rfl<|thn (ho Á s σ H _ I h) λv s1 ⟨x,H1,I1,r1,ty,q1⟩=>?_;obtain⟨h1,h2⟩:=IG I1 r1 ty;refine⟨T,id,pa,slot,hty,h1,h2,?_⟩;have hA:=ha ř Á s1 σ H1 _ I1 q1;rw[hs]at hA ⊢;refine Calls.callWith_builtin (by show(ez||(ĝ ř<|Ô es X.env).any (·.1))=ez;rw[cD]<;>rfl)<|Calls.evalArgs_plain ?_;exact thn hA λus s2 ⟨vs,H2,I2,r2,q2⟩=>hm Á s2 σ H2 x vs v us Q I2 r1 r2 q2
/- xs.append(e),list.index on a module's tuple .. are MtR facts of 06m -/
end
abbrev MtM(X:Cx)(id:String)(r:V->List V->Hp->VK->Prop):Prop :=
 ∀(Á:List<|È×Obj) (s:Å) (σ:St) (H:Hp) (x:V) (xs:List V) (v:Â) (us:List Â) (Q:VK),Inv X Á σ H s->RelV x v->fS xs us->r x xs H Q->
  wpAny (Û X.prog X.w) X.A (call (.builtin id)<|v::us) (EP X Á σ Q) X.xe s
variable {x:V} {us:List Â}
def fS.one(r:fS [x] us):∃u,us=[u]/\RelV x u:=ZT r
def fS.two{y:V}(r:fS [x,y] us):∃u v,us=[u,v]/\RelV x u/\RelV y v:=Uw r
def fS.zero(r:fS [] us):us=[]:=by cases r;rfl
variable {xs:List V}
def fS.dropLast(h:fS xs us):fS xs.dropLast us.dropLast:=by
 induction h with
 |nil=>exact .nil
 |cons r t ih =>
  cases t with
  |nil=>exact .nil
  |cons q t'=>exact .cons r ih
def fS.eraseIdx:∀{xs:List V}{us:List Â}(i:Nat),fS xs us->fS (xs.eraseIdx i) (us.eraseIdx i)
 |_,_,_,.nil=>.nil
 |_,_,0,.cons _ t=>t
 |_,_,i+1,.cons r t=>.cons r<|fS.eraseIdx i t
def fS.reverse(h:fS xs us):fS xs.reverse us.reverse:=by
 induction h with
 |nil=>exact .nil
 |cons r t ih=>rw[Ε,Ε];exact fS.append ih<|.cons r .nil
def fS.rep{xs:List V}{us:List Â}(h:fS xs us):∀k:Nat,fS (Õ k xs).flatten (Õ k us).flatten
 |0=>.nil
 |k+1=>by rw[ċ,ċ,ł,ł];exact fS.append h<|fS.rep h k
def Kv{α:Type}:∀(l:List α) (i:Nat),(l.eraseIdx i).length<=l.length
 |[],_=>Ì _
 |_::_,0=>Ń _
 |_::r,i+1=>Ο<|Kv r i
def Kf(ñ:List Â):∀(k:Nat) (Ĭ:List Â),
  dn (λx1 x2=>x1++x2) Ĭ.toArray (Õ k ñ.toArray)=(Ĭ++(Õ k ñ).flatten).toArray
 |0,Ĭ=>by simp
 |k+1,Ĭ=>by
  have e:Ĭ.toArray++ñ.toArray=(Ĭ++ñ).toArray:=by simp
  have e2:(Ĭ++ñ)++(Õ k ñ).flatten=Ĭ++(Õ (k+1) ñ).flatten:=by rw[ċ,ł,ı]
  rw[<-e2,<-Kf ñ k (Ĭ++ñ),<-e,ċ,Ŀ]
section
variable {X:Cx}{Á:List (È×Obj)}{σ:St}{H:Hp}{s:Å}{l b:È}{xs ys zs:List V}
variable {ñ:List Â} {n:Nat} {t':Nat}
def Inv.lset{its':List Â}{f:Array Â->Array Â}(I:Inv X Á σ H s)(hH:H l=eh (.lst xs))
  (e:s.heap.get? l=eh {cls:=.type "list",data:=.seq ñ.toArray n}) (hf:f ñ.toArray=its'.toArray) (hv:fS ys its') (hz:ys.length<=Ù) :
  Inv X Á σ (upd H l<|.lst ys) {s with heap:=s.heap.update l<|ς f,toks:=t'}:=by
 have q:=PySem.IsL.update e f;rw[hf]at q;refine I.write (x:=l) (e:=l) (by rw[hH];exact trivial) (.inl rfl) (λb' u hb hu=>(ë s.heap (ς f)<|Ne.symm hb).trans hu) ⟨_,q⟩ ?_;exact⟨hz,its',_,hv,q⟩
def Inv.lnew(I:Inv X Á σ H s)(hv:fS ys ñ)(hz:ys.length<=Ù) :
  Inv X Á σ (upd H s.heap.objs.size<|.lst ys) {s with heap:=s.heap.push {cls:=.type "list",data:=.seq ñ.toArray},toks:=t'} :=
 I.laid (λ_ _ q=>Ä _ q) (Ì _) ⟨hz,ñ,0,hv,Ñ _ rfl⟩
def Inv.fresh(I:Inv X Á σ H s):H s.heap.objs.size=ei:=I.hok.fresh (Ì _)
def Inv.lstM(I:Inv X Á σ H s)(hH:H l=eh (.lst xs)):xs.length<=Ù/\∃(ñ:List Â) (n:Nat),fS xs ñ/\xs.length=ñ.length/\s.heap.get? l=eh {cls:=.type "list",data:=.seq ñ.toArray n}:=by obtain⟨z,ñ,n,r,e⟩:=I.hok l _ hH;exact⟨z,ñ,n,r,r.length,e⟩
def Bg(h:n<=Ù):Builtin.List.listTooLong n=ez:=by unfold Builtin.List.listTooLong;exact f8 (by lia)
end
section
variable {X:Cx}
abbrev O6:V->List V->Hp->VK->Prop:=λx vs H Q=>∃l xs y,x=.ref l/\vs=[y]/\H l=eh (.lst xs)/\xs.length<Ù/\Q .non (upd H l<|.lst<|xs++[y])
def U7:MtM X "list.append" O6:=by intro Á s σ H x vs v us Q I rx rv h;obtain⟨l,xs,y,rfl,rfl,hH,hz,q⟩:=h;cases rx;obtain⟨u,rfl,ru⟩:=rv.one;obtain⟨z,ñ,n,r,hl,e⟩:=I.lstM hH;refine cb F.slot_list_append ⟨_,e,rfl⟩ F.entry_list_append (F.args_list_append_2 _ _) (PySem.list_append l ñ.toArray n u<|by rw[Í];lia) ⟨e,?_⟩;refine⟨.non,_,I.lset (its':=ñ++[u]) hH e (by simp) (r.append<|.cons ru .nil) ?_,rfl,q⟩;rw[ê,ce];lia
abbrev CW:V->List V->Hp->VK->Prop:=λx vs H Q=>∃l xs i k y,x=.ref l/\vs=[.int i]/\H l=eh (.lst xs)/\-(2 ^ 63)<=i/\i<2 ^ 63/\seqIndex? i xs.length=eh k/\xs[k]?=eh y/\Q y (upd H l<|.lst<|xs.eraseIdx k)
def Bw:MtM X "list.pop" CW:=by
 intro Á s σ H x vs v us Q I rx rv h;obtain⟨l,xs,i,k,y,rfl,rfl,hH,h1,h2,hk,hy,q⟩:=h;cases rx;obtain⟨u,rfl,ru⟩:=rv.one;obtain⟨t,rfl⟩:=ru;obtain⟨z,ñ,n,r,hl,e⟩:=I.lstM hH;obtain⟨w,hw,aT⟩:=r.get hy;refine cb F.slot_list_pop ⟨_,e,rfl⟩ F.entry_list_pop (F.args_list_pop_2 _ _)
  (MeetsSeq.list_pop_at l ñ.toArray n i t k w (fitsIndex_both h1 h2) (by rw[Í,<-hl];exact hk) (by rw[<-ą];exact hw)<|by rw[Í];lia) ⟨e,?_⟩
 refine⟨y,_,I.lset (its':=ñ.eraseIdx k) hH e ?_ (r.eraseIdx k) ?_,aT,q⟩
 .show ñ.toArray.eraseIdxIfInBounds k=(ñ.eraseIdx k).toArray;rw[List.eraseIdxIfInBounds_toArray]
 .have:=Kv xs k;lia
abbrev Qf:R2:=λx y H Q=>∃l b xs zs,x=.ref l/\y=.ref b/\H l=eh (.lst xs)/\H b=eh (.lst zs)/\xs.length+zs.length<=Ù/\∀p,H p=ei->Q (.ref p) (upd H p<|.lst<|xs++zs)
def IH:OpR X (ń .Add) Qf:=by
 intro Á s σ H x y v u Q I rx ry h;obtain⟨l,b,xs,zs,rfl,rfl,hH,hB,hz,q⟩:=h;cases rx;cases ry;obtain⟨z,ñ,n,r,hl,e⟩:=I.lstM hH;obtain⟨z2,aS,n2,r2,hl2,e2⟩:=I.lstM hB;refine PySem.P.add_list e e2 ?_ (by rw[Í,Í];lia);have ea:ñ.toArray++aS.toArray=(ñ++aS).toArray:=by simp
 rw[ea];exact⟨.ref _,_,I.lnew (t':=s.toks) (r.append r2) (by rw[ê];lia),rfl,q _ I.fresh⟩
abbrev LL:R2:=λx y H Q=>∃l k xs,x=.ref l/\y=.int k/\H l=eh (.lst xs)/\-(2 ^ 63)<=k/\k<2 ^ 63/\xs.length*k.toNat<=Ù/\
 ∀p,H p=ei->Q (.ref p) (upd H p<|.lst (Õ k.toNat xs).flatten)
def FI{α:Type}(xs:List α)(k:Nat):(Õ k xs).flatten.length=k*xs.length:=by
 induction k with
 |zero=>simp
 |succ k ih=>rw[ċ,ł,ê,ih,Nat.succ_mul,Nat.add_comm]
def op_rep:OpR X (ń .Mult) LL:=by
 intro Á s σ H x y v u Q I rx ry h;obtain⟨l,k,xs,rfl,rfl,hH,h1,h2,hz,q⟩:=h;cases rx;obtain⟨t,rfl⟩:=ry;obtain⟨z,ñ,n,r,hl,e⟩:=I.lstM hH;have hlen:ñ.toArray.size*k.toNat<=Ù:=by rw[Í,<-hl];exact hz
 have hcap:¬ ñ.toArray.size*k.toNat > (2 ^ 63 - 1) / 8:=by
  have:(Ù:Nat)<=(2 ^ 63 - 1) / 8:=by decide
  lia
 have hfit:¬ (!Builtin.List.listFitsIndex k)=ej:=by rw[fitsIndex_both h1 h2];exact ü
 have hlong:¬ Builtin.List.listTooLong (ñ.toArray.size*k.toNat)=ej:=by rw[Bg hlen];exact ü
 have hnew:dn (λx1 x2=>x1++x2) #[] (Õ (if ñ.toArray.isEmpty=ej then 0 else k.toNat) ñ.toArray)=(Õ k.toNat ñ).flatten.toArray:=by
  have f0:∀m:Nat,dn (λx1 x2=>x1++x2) #[] (Õ m ñ.toArray)=(Õ m ñ).flatten.toArray:=λm=>by have:=Kf ñ m [];rw[List.nil_append]at this;exact this
  rw[f0];cases ñ with
  |nil=>simp
  |cons a r'=>rw[f7<|by simp]
 refine wpAny_binaryOp_repeat_ref (T:="list") (U:="int") (by decide) ⟨_,e,rfl⟩ (λs'=>typeIs_int s' k t) noFill_list_mul F.fills_int_mul F.slot_int_rmul repeat_list F.slot_int_index.lookup
  (cb F.slot_int_rmul (typeIs_int s k t) F.entry_int_rmul (F.args_int_rmul_2 _ _) (int___rmul___int_list k t l ñ.toArray n)
    ⟨e,rfl,⟨_,e,rfl⟩,cb F.slot_list_mul ⟨_,e,rfl⟩ F.entry_list_mul (F.args_list_mul_2 _ _) (AutoListH.list___mul___list_int_3 l ñ.toArray n k t hfit hcap hlong) ⟨e,?_⟩⟩)
 rw[hnew];exact⟨.ref _,_,I.lnew (t':=s.toks) (r.rep k.toNat) (by rw[FI,cf];exact hz),rfl,q _ I.fresh⟩
end
end L2
namespace Att
open PySem PySem.W PySem.Calls PyProof.Rows
variable {P:Params} {h:Ă}
def Wx:∀(ns:List Int) (vs:List Â),WellAll P h vs (ns.map WData.int)->ù vs ns:=by
 intro ns;induction ns with
 |nil =>intro vs w;rw[Ψ]at w;cases w;exact .nil
 |cons n ns ih =>
  intro vs w;rw[Ï]at w;cases w with
  |cons a b =>cases a;exact .cons _ _<|ih _ b
variable {l:OpenLaw} {n:Nat}
def UN(hn:l.most=eh n){args:List WData}{aB:List Â}
  (hpre:l.row.toRowW.claim.pre args=ej) (hwl:WellAll P h aB args) :
  ∃a vs ns,aB=[Value.ref a]/\args=[WData.list<|ns.map WData.int]/\h.get? a=eh {cls:=.type "list",data:=.seq vs.toArray}/\ù vs ns/\ns.length<=n:=by
 have hsh:WShape.hasAll [] args [.list .int]=ej:=(pre_splitW hpre).1;have hc:l.pre.holds [] {args:=args}=ej:=(pre_splitW hpre).2;obtain⟨d,r,rfl,h1,h2⟩:=hasAllW_cons hsh;obtain rfl:=hasAllW_nil h2;obtain⟨xs,rfl,h3⟩:=hasW_list h1;obtain⟨ns,rfl⟩:=items_int h3;have hlen:ns.length<=n:=by
  unfold OpenLaw.pre at hc;have h4:(WTm.not<|.lt (.lit<|.int (n:Int))<|.len<|.arg 0).holds [] {args:=[.list<|ns.map .int]}=ej:=by have h4:=(holds_andW hc).1;rw[hn]at h4;exact h4
  have h5:=condW_of h4<|w_not<|w_lt w_lit<|w_len_list<|w_arg rfl;rw[Ã]at h5;refine Nat.le_of_not_lt λq=>?_;have q':(n:Int)<((ns.length:Nat):Int):=by lia
  first
   |(rw[f9 q']at h5;exact gc h5<|by decide)
   |(simp at h5;lia)
 cases hwl with
 |cons w1 w2 =>
  cases w2;cases w1 with
  |list ho hall=>exact⟨_,_,ns,rfl,rfl,ho,Wx ns _ hall,hlen⟩
def At(l:OpenLaw)(args:List WData):l.row.toRowW.claim.post args (.bool ej) args=ej :=
 postW_of (r:=l.row.toRowW) (X:=(ej==ej))
  (show WShape.has [] (.bool ej) .bool=ej by first|rfl|decide|simp[WShape.has,WShape.arms,WShape.armsAll])
  (show(WTm.eq .res<|.lit<|.bool ej).value [] {args:=args,res:=eh<|.bool ej,after:=args}=eh (.bool<|ej==ej) from w_eq_bool (w_res rfl) w_lit) rfl
def attach_call{q:à}{loose:List Str}{XP:(Str->Option Â)->Ă->Prop}{YP:ó->Ă->Prop}{d:DefRec}
  (hn:l.most=eh n) (hdf:d.params.defaults=[])
  (call:∀(w:ó) (s₀ Ě:Å) (mg mb:Str->Option Â) (fa:È) (o:Obj) (pm cd doc:Â) (a:È) (vs:List Â) (ns:List Int),
    Ground q loose [] XP w s₀ mg mb Ě.heap->YP w Ě.heap->
    Ě.heap.get? fa=eh o->o.data=.func (docDef d.name d.params d.body d.scope pm cd doc)->Ě.heap.CodeRec cd d.name->mg d.name=eh (.ref fa)->
    Ě.heap.get? a=eh {cls:=.type "list",data:=.seq vs.toArray}->ù vs ns->ns.length<=n->Ě.gens=#[]->
    codeAny (Û l.prog w) ϸ (.call (.ref fa) ⟨[.ref a],[]⟩) (λr s'=>r=.ok (.ret<|.bool ej)/\OldK Ě.heap s'.heap/\s'.os=Ě.os/\Τ s'.gens) Ě) :
  WalkO q loose XP YP l.row.toRowW d [] (λf vs=>PySem.call f vs):=by
 intro w s₀ Ě mg mb G Y fa o pm cd doc dV kV ho hd aG hD hmg hg args aB as hpre hlay hrd hwl hlo;obtain rfl:dV=.none:=Dflts.none hD hdf;obtain rfl:kV=.none:=Dflts.noKw hD;obtain⟨a,vs,ns,rfl,rfl,df,hints,hlen⟩:=UN hn hpre hwl;refine enter_call<|Ŷ (call w s₀ Ě mg mb fa o pm cd doc a vs ns G Y ho (fd_plain hd) aG hmg df hints hlen hg) λr s' hq=>?_;obtain⟨rfl,h2,h3,h4⟩:=hq;exact⟨.inl ⟨.bool ej,.bool ej,[],rfl,λ_=>rfl,.bool ej,At l _,λ_=>⟨List.Pairwise.nil,λ_ hm=>(nomatch hm)⟩⟩,h2,h3,h4⟩
end Att
namespace L2
open PySem PySem.Spec PyProof.Rows
def We:∀{vs:List Â}{ns:List Int},ù vs ns->fS (ns.map V.int) vs
 |_,_,.nil=>.nil
 |_,_,.cons n t h=>.cons ⟨t,rfl⟩<|We h
abbrev HH(H:Hp):Prop:=∀b,H b=ei\/∃o xs,H b=eh (.frz o<|.lst xs)
def Dn{P:à}{w:ó}{K:Frag}{mg mb:Str->Option Â}{CX:CXT}{k:Nat}{fa a:È}{fd:Ņ}{x:Str}{sp:Sp}{Ě:Å}{vs:List Â}{ns:List Int}
  (KX:K.In Ě.heap) (hns:Ě.heap.Ns Ĉ mg) (hb:Ě.heap.Ns builtinsNs mb) (hbb:∀x:Str,x≠"__name__"->mb x=ţ x) (hlim:Ě.heap.NoLimit) (hg:Ě.gens=#[])
  (ha:Ě.heap.get? a=eh {cls:=.type "list",data:=.seq vs.toArray}) (hi:ù vs ns) (hl:ns.length<=Ù) (hr:fj k ϸ)
  (F:∀base:Ă,K.In base->base.Ns Ĉ mg->fk P w K mg base CX k fa fd [x] sp) (hbind:∀(s:Å) (u:Â),BindsTo s fd ⟨[u],[]⟩ [(x,u)])
  (dJ:∀H:Hp,HH H->fQ K H a (ns.map V.int)->sp [.ref a] H (λv _=>v=.bl ej) λ_ _ _=>False)
  (hCX:∀H e s',CX [] H Ě (λ_ _ _=>False) e s'->False) :
  codeAny (Û P w) ϸ (.call (.ref fa) ⟨[.ref a],[]⟩) (λr s'=>r=.ok (.ret<|.bool ej)/\OldK Ě.heap s'.heap/\s'.os=Ě.os/\Τ s'.gens) Ě:=by
 have rv:=We hi;have fB:=hi.length;have core:∀H:Hp,HH H->fQ K H a (ns.map V.int)->HOk P w H Ě.heap->(∀b,H b≠ei->b=a)->(H a≠ei->K.lookup a=ei)->
   codeAny (Û P w) ϸ (.call (.ref fa) ⟨[.ref a],[]⟩) (λr s'=>r=.ok (.ret<|.bool ej)/\OldK Ě.heap s'.heap/\s'.os=Ě.os/\Τ s'.gens) Ě:=by
  intro H hO hS hok hA hK;have cQ:∀{b:È}{o:Obj},Ě.heap.get? b=eh o->H b=ei->(Mp Ě.heap H).get? b=eh o:=λe n=>BA e n;have noA:∀{b:È}{o:Obj}{es:Array DictEntry}{ep:Nat},Ě.heap.get? b=eh o->o.data=.dict es ep->H b=ei:=λ{b o es ep} e d=>by
   cases q:H b with
   |none=>rfl
   |some u =>have e':b=a:=hA b (by rw[q];simp);subst e';rw[ha]at e;cases e;have d':Data.seq vs.toArray _=Data.dict es ep:=d;cases d'
  have nsK:∀{b:È}{m:Str->Option Â},Ě.heap.Ns b m->(Mp Ě.heap H).Ns b m:=λ{b m} ⟨o,es,ep,e,d,r⟩=>⟨o,es,ep,cQ e<|noA e d,d,r⟩
  have hKb:K.In<|Mp Ě.heap H:=λb o e=>cQ (KX b o e) (by
    cases q:H b with
    |none=>rfl
    |some u =>
      have e':b=a:=hA b (by rw[q];simp)
      subst e'
      rw[hK<|by rw[q];simp]at e;cases e)
  have hM:Mod K mg<|Mp Ě.heap H:=⟨hKb,nsK hns,⟨mb,nsK hb,hbb⟩,let ⟨mc,h1,h2⟩:=hlim;⟨mc,nsK h1,h2⟩⟩
  have e0:Env0 P w K mg (Mp Ě.heap H) ϸ [] Ě H:=⟨rfl,hM,λb o e=>F7 e,Nat.le_of_eq<|U8 _ _,trivial,λb hb=>gc (show b∈([]:List È) from hb) (by simp),hok,.of_eq hg⟩
  refine Ŷ ((F _ hKb<|nsK hns).run ϸ [] Ě H ⟨[.ref a],[]⟩ [.ref a] [.ref a] _ _ hr e0 (hbind Ě<|.ref a) (.cons rfl .nil)<|dJ H hO hS) λr s' h=>?_;cases r with
  |error e=>exact(hCX H e s' h).elim
  |ok fl =>
   cases fl with
   |next=>exact ģ h
   |brk=>exact ģ h
   |cont=>exact ģ h
   |ret u =>
    obtain⟨v,H',os,bare,un,hok',r',q⟩:=h;have q':v=.bl ej:=q;subst q';obtain rfl:u=Value.bool ej:=r';refine⟨rfl,OldK.of_keep λb o e=>?_,os,bare⟩;cases q:H b with
    |none=>exact un.keep b o e q (by intro z;exact gc (show b∈([]:List È) from z)<|by simp) (by simp)
    |some u =>
     rcases hO b with z|⟨ob,xs,z⟩
     .rw[q]at z;cases z
     .have z2:=un.frzs b ob _ z;obtain⟨e1,_⟩:=hok b _ z;obtain⟨e2,_⟩:=hok' b _ z2;rw[e]at e1;cases e1;exact e2
 cases hk:K.lookup a with
 |some o =>have e:=KX a o hk;rw[ha]at e;cases e;refine core (λ_=>ei) (λ_=>.inl rfl) (.inr ⟨_,vs.toArray,_,hk,rfl,rfl,rfl,by rw[Í,fB];exact hl,by simpa using rv⟩) (λb u z=>by have z':(ei:Option HO)=eh u:=z;cases z') (λb z=>gc rfl z) λz=>gc rfl z
 |none =>
  refine core (λb=>if b=a then eh (.frz {cls:=.type "list",data:=.seq vs.toArray}<|.lst<|ns.map V.int)else ei) (λb=>?_) (.inl<|.inr ⟨{cls:=.type "list",data:=.seq vs.toArray},f6 rfl⟩) (λb u z=>?_) (λb z=>?_) λ_=>hk
  .by_cases hb:b=a
   .exact .inr ⟨_,_,f6 hb⟩
   .exact .inl<|f7 hb
  .by_cases hb:b=a
   .have z':=(f6 hb).symm.trans z;cases z';subst hb;exact⟨ha,by rw[Ã];exact hl,vs,_,rv,ha⟩
   .have z':=(f7 hb).symm.trans z;cases z'
  .by_cases hb:b=a
   .exact hb
   .exact gc (f7 hb) z
abbrev YI(s:Ľ):Arguments:=match s with
 |.FunctionDef _ a _ _ _ _ _ _ _ _=>a
 |_=>{posonlyargs:=[],args:=[],vararg:=ei,kwonlyargs:=[],kw_defaults:=[],kwarg:=ei,defaults:=[]}
abbrev ZE(s:Ľ):List Ľ:=match s with
 |.FunctionDef _ _ b _ _ _ _ _ _ _=>b
 |_=>[]
abbrev Zh(s:Ľ):ż:=match s with
 |.FunctionDef _ _ _ _ _ _ sc _ _ _=>sc
 |_=>{kind:=.function,names:=[],isGenerator:=ez,isCoroutine:=ez}
noncomputable abbrev CX0:CXT:=λ_ _ _ _ _ _=>False
structure Fun(K:Frag)(x qual:Str)(st:Ľ)(f:È)(fd:Ņ):Prop where
 ex:∃(oc:Â) (od:Option È) (kV doc pm:Â) (an:Option È) (ύ ct:Â) (osl:Array<|Option Â),
  fd=PySem.W.fnOf x qual (YI st) (ZE st) (Zh st) .none kV doc pm an ύ ct/\K.lookup f=eh ⟨oc,od,.func fd,osl⟩/\PySem.W.codeIn K ύ qual=ej
 kp:PySem.W.keepIn K (.ref f)=ej
section
variable {P:à}{w:ó}{K:Frag}{mg:Str->Option Â}{base:Ă}
variable {x:Str} {qual:Str} {st:Ľ} {f:È} {fd:Ņ} {ps:List Str}
def Fun.ok{N:List Str}{k:Nat}{sp:Sp}(F:Fun K x qual st f fd)(S:FnScope N ps<|Zh st)(len:∀vs H Q E,sp vs H Q E->vs.length=ps.length)
  (bM:∀(ύ:Â) (A:Ą) (outer:List Env) (s:Å) (H:Hp) (vs:List V) (Q:VK) (E:XK),fj k (A.deeper<|ϯ qual (Zh st) s.heap.objs.size f ύ)->sp vs H Q E->
    ∃t,PSs (JQ CX0 P w K mg base N qual (Zh st) f ύ A outer s H E).nox (ZE st) t/\t { nx:=λ_ H'=>Q .non H',rt:=Q } (start N vs) H):fk P w K mg base CX0 (k+1) f fd ps sp:=by
 obtain⟨oc,od,kV,doc,pm,an,ύ,ct,osl,rfl,lk,aG⟩:=F.ex;refine Gf lk aG S len λA outer s H vs Q E hr dJ=>?_;obtain⟨t,h,q⟩:=bM ύ A outer s H vs Q E hr dJ;exact⟨t,h.nox,q⟩
def Fun.binds(F:Fun K x qual st f fd)
  (h:∀(kV doc pm:Â) (an:Option È) (ύ ct:Â) (us:List Â),us.length=ps.length->bindArgs (PySem.W.fnOf x qual (YI st) (ZE st) (Zh st) .none kV doc pm an ύ ct) ⟨us,[]⟩=pure (ps.zip us)):Binds K fd ps []:=by
 obtain⟨oc,od,kV,doc,pm,an,ύ,ct,osl,rfl,lk,aG⟩:=F.ex;exact .all<|h kV doc pm an ύ ct
def Bz{oc:Â}{od an:Option È}{osl:Array (Option Â)}{kV doc pm ύ ct:Â}(l:K.lookup f=eh ⟨oc,od,.func<|PySem.W.fnOf x qual (YI st) (ZE st) (Zh st) .none kV doc pm an ύ ct,osl⟩)
  (c:PySem.W.codeIn K ύ qual=ej) (k:PySem.W.keepIn K (.ref f)=ej):Fun K x qual st f<|PySem.W.fnOf x qual (YI st) (ZE st) (Zh st) .none kV doc pm an ύ ct:=⟨⟨oc,od,kV,doc,pm,an,ύ,ct,osl,rfl,l,c⟩,k⟩
end
abbrev Same(H H':Hp):Prop:=∀b o,H b=eh o->H' b=eh o
def Same.refl(H:Hp):Same H H:=λ_ _ h=>h
variable {H:Hp}
def Same.trans{H1 H2:Hp}(a:Same H H1)(b:Same H1 H2):Same H H2:=λc o h=>b c o (a c o h)
variable {H':Hp}
def Same.free(e:Same H H'){l:È}(h:H' l=Option.none):H l=Option.none:=by
 cases q:H l with
 |none=>rfl
 |some o =>rw[e l o q]at h;cases h
def Same.seq{K:Frag}{a:È}{xs:List V}(e:Same H H')(h:fQ K H a xs):fQ K H' a xs:=by
 rcases h with(h|⟨o,h⟩)|h
 .exact .inl<|.inl<|e _ _ h
 .exact .inl<|.inr ⟨o,e _ _ h⟩
 .exact .inr h
end L2
set_option maxHeartbeats 4000000
namespace L2
open PySem PySem.Spec PyProof.Rows
variable {w:ó}
def HOk.track{P:à}{H:Hp}{h:Ă}{a:È}{o:HO}(x:HOk P w H h)(hn:H a=ei)(new:eQ P w (upd H a o) h a o):HOk P w (upd H a o) h:=λb u e=>by
 by_cases hb:b=a
 .subst hb;rw[eC]at e;cases e;exact new
 .rw[eB hb]at e;exact(x b u e).stay (λc v _ q=>q) (λc q=>by rw[eB<|Zg q hn];exact q) λc xs q=>by rw[eB<|Zg q hn];exact q
abbrev Zr(X:Cx)(scope:ż)(N':List Str)(cl:List<|Str×È)(C:È)(s:Å)(H:Hp)(ex:List È):Cx where
 prog:=X.prog
 w:=X.w
 K:=X.K
 mg:=X.mg
 base:=X.base
 A:=X.A
 N:=N'
 s₀:=s
 H₀:=H
 env:=compEnvC scope cl C X.env
 outer:=X.stack
 stack:=X.stack
 ex:=ex
 fn:=λ_=>ez
 calm:=X.calm
 pn:=[]
 xe:=λ_ _=>False
abbrev ZX(X:Cx)(x:List Str)(ô:List Nat):List Str:=x++ô.map λj=>X.N.getD j Str.empty
abbrev NM(σ:St)(ô:List Nat):St:=ô.map λj=>(σ[j]?).getD ei
structure BlkOk(X:Cx)(scope:ż)(x:List Str)(ô:List Nat):Prop where
 kind:scope.kind=.function
 nocell:∀y∈scope.names,y.2≠.cell
 locs:∀y∈scope.names,y.2=.local->scope.names.lookup y.1=eh .local
 own:∀y∈x,scope.names.lookup y=eh .local
 frees:∀y∈scope.names,y.2=.free->X.env.kindOf y.1=eh .cell
 cap:∀j∈ô,(X.N[j]?).isSome=ej/\X.env.kindOf (X.N.getD j Str.empty)=eh .cell/\scope.names.lookup (X.N.getD j Str.empty)=eh .free
 nd:(ZX X x ô).Nodup
def YC{env:Env}:∀(names:List<|Str×ϕ) (Ĭ:List<|Str×È),(∀y∈names,y.2=.free->∃c,env.cells.lookup y.1=eh c)->(∀x c,Ĭ.lookup x=eh c->env.cells.lookup x=eh c)->
  ∃cl,(forIn names Ĭ λ(p:Str×ϕ) (r:List<|Str×È)=>(do
    if(p.2 == ġ)=ej then do let a<-cellOf env p.1;pure (ĺ<|(p.1,a)::r)else pure (ĺ r):Sem _))=pure cl/\
   (∀x c,cl.lookup x=eh c->env.cells.lookup x=eh c)/\(∀x c,Ĭ.lookup x=eh c->∃c',cl.lookup x=eh c')/\∀x,(x,ġ)∈names->∃c,cl.lookup x=eh c
 |[],Ĭ,_,ha=>⟨Ĭ,rfl,ha,λx c h=>⟨c,h⟩,λx h=>nomatch h⟩
 |(n,k)::r,Ĭ,hn,ha=>by
  by_cases hk:k=.free
  .subst hk;obtain⟨c,hc⟩:=hn (n,.free) ì rfl;have ha':∀x d,(((n,c)::Ĭ:List<|Str×È)).lookup x=eh d->env.cells.lookup x=eh d:=λx d h=>by
    rw[ï]at h;cases e:x==n with
    |true =>
     rw[e]at h;have:x=n:=by simpa using e
     subst this;cases h;exact hc
    |false=>rw[e]at h;exact ha x d h
   obtain⟨cl,h1,h2,h3,h4⟩:=YC r ((n,c)::Ĭ) (λy hy=>hn y<|Ü _ hy) ha';refine⟨cl,?_,h2,λx d h=>?_,λx hx=>?_⟩
   .rw[List.forIn_cons];have e:cellOf env n=pure c:=by unfold cellOf;rw[hc]
    simp only[beq_self_eq_true,if_true,e];exact h1
   .by_cases hx:x=n
    .subst hx;exact h3 x c (by rw[ï];simp)
    .exact h3 x d (by rw[ï,beq_false_of_ne hx];exact h)
   .rcases Ç.mp hx with e|hx
    .cases e;exact h3 _ c (by rw[ï];simp)
    .exact h4 x hx
  .have hb:(k==ġ)=ez:=by simpa using hk
   obtain⟨cl,h1,h2,h3,h4⟩:=YC r Ĭ (λy hy=>hn y<|Ü _ hy) ha;refine⟨cl,?_,h2,h3,λx hx=>?_⟩
   .rw[List.forIn_cons];simp only[hb,ħ,if_false];exact h1
   .rcases Ç.mp hx with e|hx
    .cases e;exact gc rfl hk
    .exact h4 x hx
def ZR{env:Env}:∀{names:List (Str×ϕ)}{x:Str}{k:ϕ},(names.map λ(n,k)=>if(k==ġ&&env.scope.kind == .function&&env.kindOf n==eh .cell)then(n,dY)else(n,k)).lookup x=eh k->
  (∃k0,(x,k0)∈names/\names.lookup x=eh k0/\(k0=k\/(k0=.free/\k=.cell)))
 |[],_,_,h=>by simp at h
 |(n,k0)::r,x,k,h=>by
  rw[Ï,ï]at h;cases hx:x==n with
  |true =>
   have e:x=n:=by simpa using hx
   subst e;refine⟨k0,ì,by rw[ï];simp,?_⟩;by_cases hc:(k0==ġ&&env.scope.kind == .function&&env.kindOf x==eh .cell)=ej
   .rw[f6 hc]at h;simp at h;have:k0=.free:=by
     simp only[bAq]at hc;simpa using hc.1.1
    exact .inr ⟨this,h.symm⟩
   .rw[f7 hc]at h;simp at h;exact .inl h
  |false =>
   have h':(r.map λ(n,k)=>if(k==ġ&&env.scope.kind == .function&&env.kindOf n==eh .cell)then(n,dY)else(n,k)).lookup x=eh k:=by
    by_cases hc:(k0==ġ&&env.scope.kind == .function&&env.kindOf n==eh .cell)=ej
    .rw[f6 hc]at h;simpa[hx]using h
    .rw[f7 hc]at h;simpa[hx]using h
   obtain⟨k1,a,b,c⟩:=ZR h';exact⟨k1,Ü _ a,by rw[ï,hx];exact b,c⟩
abbrev PIfs(X:Cx)(aY:List Expr)(t:TT):Prop :=
 ∀(Á:List<|È×Obj) (s:Å) (σ:St) (H:Hp) (Q:Bool->Hp->Prop),Inv X Á σ H s->t σ H Q->
  wpAny (Û X.prog X.w) X.A (forIn aY ej λc r=>if r=ej then do let ok<-bZ c X.env (eval c X.env);pure (ĺ ok)else pure (ĺ r)) (TP X Á σ Q) X.xe s
abbrev Rb:TT:=λ_ H Q=>Q ej H
variable {X:Cx}
def pifs_nil:PIfs X [] Rb:=λ_ _ _ H _ I h=>wpAny_tests_nil ⟨H,I,h⟩
def X7{c:Expr}{t:TT}(h:PT X c t):PIfs X [c] t:=λÁ s σ H Q I hq=>wpAny_tests_one (h Á s σ H Q I hq)
abbrev GM(J:It)(tg:TG)(tc:TT)(te:TE)(Fin:List V->Hp->Prop)(W:Nat->Nat->List V->St->Hp->Prop):Prop :=
 ∀i m ys τ H,W i m ys τ H->ys.length<Ù/\((J.stop i H/\Fin ys H)\/(J.go i H/\∃N:List V->St->Hp->Prop,(∀ys' τ' H',N ys' τ' H'->∃m',m'<m/\W (i+1) m' ys' τ' H')/\∀x H',J.yld i H x H'->
   tg x τ H' λτ' H1=>tc τ' H1 λb H2=>if b=ej then te τ' H2 λy H3=>N (ys++[y]) τ' H3 else N ys τ' H2))
abbrev BB(wi:TI)(k:Nat)(ô:List Nat)(tg:TG)(tc:TT)(te:TE):TE:=λσ H Q=>wi σ H λJ H1=>∃W:Nat->Nat->List V->St->Hp->Prop,(∃m,W 0 m [] (Õ k ei++NM σ ô) H1)/\
 GM J tg tc te (λys H=>∀p,H p=ei->Q (.ref p) (upd H p<|.lst ys)) W
section
variable {X:Cx}{Á:List (È×Obj)}{σ:St}{H2:Hp}{s2:Å}
variable {scope:ż} {x:List Str} {ô:List Nat} {cl:List (Str×È)} {fp:List È}
def UT{s3:Å}{D:È}{h1:Ă}{tk:Nat}{m:Str->Option Â}(B:BlkOk X scope x ô)(I2:Inv X Á σ H2 s2)(f2:∀b∈fp,Wd X Á H2 b)
  (c1:∀x c,cl.lookup x=eh c->X.env.cells.lookup x=eh c) (c2:∀x,(x,ġ)∈scope.names->∃c,cl.lookup x=eh c)
  (I3:Inv X Á σ H2 s3) (hD:D=s2.heap.objs.size) (h3:s3.heap.objs.size=D+1) (ϩ:∀b o,s3.heap.get? b=eh o->h1.get? b=eh o) (hfp:∀b∈fp,b<s2.heap.objs.size)
  (hn:h1.Ns s3.heap.objs.size m) :
  Inv (Zr X scope (ZX X x ô) cl s3.heap.objs.size s3 H2<|D::fp) [] (Õ x.length ei++NM σ ô) H2 {s3 with heap:=h1,toks:=tk}:=by
 have neD:∀b o,s2.heap.get? b=eh o->b≠D:=λb o e=>by rw[hD];exact ä<|Ó e
 have exlt:∀b∈D::fp,b<s3.heap.objs.size:=λb hb=>by
  rw[h3];rcases Ç.mp hb with e|hb
  .rw[e];exact ĭ _
  .exact ĳ (by rw[hD];exact hfp b hb)
 have keeps:=I3.hok.kept (h':=h1) ϩ;refine⟨⟨I2.mod,B.kind,I2.ok.glob,I2.ok.blt,Ì _,λy z c e1 e2=>?_,λy hy=>?_,λy c e _=>(by cases e),λhc=>I2.ok.hd hc,I2.ok.frames,.inl rfl,λb hb=>?_,λb o e=>?_,?_,λb o e hb=>?_,λb hb hf=>?_,I3.stack,λb hb=>I2.stkFree b hb⟩,
   rfl,I3.bare,Un.kept ϩ,⟨m,hn,λi y v e1 e2 e3=>?_⟩,λy c e=>?_,I3.hok.fresh<|Ì _,λy c e=>I3.freeC y c<|c1 y c e,λp hp=>(nomatch hp),keeps,?_⟩
 .exact I2.ok.inj y z c (c1 y c e1)<|c1 z c e2
 .have hy:(bP scope X.env).names.lookup y=eh .cell\/(bP scope X.env).names.lookup y=eh .free:=hy;rcases hy with hy|hy
  .obtain⟨k0,a,b,c⟩:=ZR hy;rcases c with c|⟨c,_⟩
   .subst c;exact gc rfl<|B.nocell _ a
   .subst c;exact c2 y a
  .obtain⟨k0,a,b,c⟩:=ZR hy;rcases c with c|⟨_,c⟩
   .subst c;exact c2 y a
   .cases c
 .refine⟨ä<|exlt b hb,λy c e z=>?_⟩;have e':=c1 y c e;rcases Ç.mp hb with q|q
  .obtain⟨v,o,ho,_⟩:=I2.cell y c e';exact neD c o ho<|z.trans q
  .exact(f2 b q).2.2.2.2.1 y c e' z
 .exact I3.bs b o e
 .exact Ý I2.ok.bsz (Ý I2.sz<|show s2.heap.objs.size<=s3.heap.objs.size by rw[h3,hD];exact Ń _)
 .rcases Ç.mp hb with q|q
  .exact neD b o (I2.bk b o e) q
  .rcases (f2 b q).2.2.2.1 with z|z
   .exact I2.ok.noex b o e z
   .exact gc (ã (Ó (I2.ok.bs b o e).1) z)<|ě _
 .have hf:b∈frs X.stack:=hf;rcases Ç.mp (I2.stkSub b hf)with z|z
  .rcases Ç.mp hb with q|q
   .exact gc I2.lt (by rw[<-z,q,hD];exact ě _)
   .exact(f2 b q).2.1 z
  .rcases Ç.mp hb with q|q
   .exact I2.nofs (a:=b) (by rw[q,hD];exact Ì _) z
   .exact(f2 b q).2.2.1 z
 .by_cases hik:i<x.length
  .rw[Ċ (by rw[ð];exact hik),Ň,f6 hik]at e2;cases e2
  .have e1:(x++ô.map λj=>X.N.getD j Str.empty)[i]?=eh y:=e1;rw[ď<|by lia]at e1;rw[ď (by rw[ð];lia),ð]at e2;generalize i - x.length=j at e1 e2;have e2:(ô.map λj=>(σ[j]?).getD ei)[j]?=eh (eh v):=e2;rw[Ò]at e1 e2;cases hj:ô[j]? with
   |none=>rw[hj]at e1;cases e1
   |some q =>
    rw[hj]at e1 e2;have e1':X.N.getD q Str.empty=y:=í e1;have e2':(σ[q]?).getD ei=eh v:=í e2;obtain⟨hs,hk,hsc⟩:=B.cap q<|ă hj;obtain⟨y',hy'⟩:=ø.mp hs;have ey:y'=y:=by rw[<-e1',ý,hy'];rfl
    subst ey;have es:σ[q]?=eh (eh v):=by
     cases hq:σ[q]? with
     |none=>rw[hq]at e2';cases e2'
     |some o=>rw[hq]at e2';exact congrArg eh e2'
    rw[e1']at hk hsc;obtain⟨m2,_,hl⟩:=I3.loc;have bE:X.env.scope.names.lookup y'=eh .cell:=hk;obtain⟨u,r,l⟩:=hl q y' v hy' es<|.inr<|.inl bE;refine⟨u,r,.inr ⟨?_,?_⟩⟩
    .rcases e3 with e3|e3|e3
     .obtain⟨k0,a,b,c⟩:=ZR (show(bP scope X.env).names.lookup y'=eh .local from e3);rw[hsc]at b;cases b;rcases c with c|⟨_,c⟩<;>cases c
     .exact .inl e3
     .exact .inr e3
    .rcases l with⟨l,_⟩|⟨_,c,hc,z⟩
     .rw[hk]at l;cases l
     .obtain⟨c',hc'⟩:=c2 y'<|PySem.mem_of_lookup hsc;have ec:c'=c:=í<|(c1 y' c' hc').symm.trans hc;subst ec;obtain⟨o,ho,hd⟩:=z;exact⟨c',hc',o,ϩ c' o ho,hd⟩
 .obtain⟨v,o,ho,hd⟩:=I3.cell y c<|c1 y c e;exact⟨v,o,ϩ c o ho,hd⟩
 .show _=(ZX X x ô).length;unfold ZX NM;rw[ê,ê,Ã,Ã,ð]
def Xq{env:Env}(h:∀y∈scope.names,y.2=.free->∃c,env.cells.lookup y.1=eh c) :
  ∃cl,closureFor scope env=pure cl/\(∀x c,cl.lookup x=eh c->env.cells.lookup x=eh c)/\∀x,(x,ġ)∈scope.names->∃c,cl.lookup x=eh c:=by
 obtain⟨cl,h1,h2,_,h4⟩:=YC (env:=env) scope.names [] h λx c e=>nomatch e;refine⟨cl,?_,h2,h4⟩;simp only[closureFor];have e:(forIn scope.names ([]:List<|Str×È) λx r =>
     (match x with
     | (name,kind)=>if(kind == ġ)=ej then do let a<-cellOf env name;pure (ĺ<|(name,a)::r)else pure (ĺ r):Sem<|ForInStep<|List<|Str×È))=pure cl:=h1
 first
  |(rw[e];rfl)
  |(refine Eq.trans (congrArg (· >>= pure) ?_) (rfl:(pure cl >>= pure:Sem _)=pure cl);exact e)
variable {bF:Expr} {ũ:Expr} {aY:List Expr} {ç:Pos}
def MY{prog:à}{A:Ą}{R:bc->Å->Prop}{s:Å}{ϴ:Expr}{it Ĭ:Â}{env:Env}(I:Nat->Å->Prop)
  (turn:∀n s,I n s->wpAny (Û prog w) A (ŵ it) (λr Ě=>match r with
    |none=>R (.ok .next) Ě
    | some v=>wpAny (Û prog w) A (ϥ ϴ it v) (λ_ Ě=>wpAny (Û prog w) A (ž ϴ env v) (λ_ bL =>
        wpAny (Û prog w) A (forIn aY ej λc r=>if r=ej then do let ok<-bZ c env (eval c env);pure (ĺ ok)else pure (ĺ r)) (λok aC =>
          if ok=ej then wpAny (Û prog w) A (eval bF env) (λx s₄ =>
            wpAny (Û prog w) A (call (.builtin "list.append") [Ĭ,x]) (λ_ s₅=>∃m,m<n/\I m s₅) (λ_ _=>False) s₄) (λ_ _=>False) aC
          else ∃m,m<n/\I m aC) (λ_ _=>False) bL) (λ_ _=>False) Ě) (λ_ _=>False) Ě) (λ_ _=>False) s)
  (n:Nat) (h:I n s) :
  codeAny (Û prog w) A (.compLoop (.ListComp bF [⟨ϴ,ũ,aY,0⟩] scope ç) 0 it Ĭ env) R s:=by
 refine codeAny_loop rfl I (λn s hI=>?_) n h;show wpAny _ A ((compTurn (.ListComp bF [⟨ϴ,ũ,aY,0⟩] scope ç) 0 it Ĭ env).onRaise λx=>do be x env;theTreesLotGoes x) _ _ s;refine wpAny_noted ?_;rw[compTurn_list];refine À<|cT<|À<|ē (turn n s hI) (λr Ě bo=>?_) λ_ _ h'=>h'.elim;cases r with
 |none=>exact Æ bo
 |some v =>
  refine À<|ē bo (λ_ Ě bo=>?_) λ_ _ h'=>h'.elim;refine À<|ē bo (λ_ bL h₂=>À<|ē h₂ (λok aC h₃=>?_) λ_ _ h'=>h'.elim) λ_ _ h'=>h'.elim;cases ok with
  |false=>exact Æ ⟨rfl,h₃⟩
  |true =>exact À<|À<|ē h₃ (λx s₄ h₄=>À<|ē h₄ (λ_ s₅ h₅=>Æ<|Æ ⟨rfl,h₅⟩) λ_ _ h'=>h'.elim) λ_ _ h'=>h'.elim
variable {bp:Expr} {tg:TG} {tc:TT} {te:TE}
def Kq{it:È}{tn:Nat->Ă->Prop}{J:It}{Fin:List V->Hp->Prop}{W:Nat->Nat->List V->St->Hp->Prop}{E:Â->Å->Prop}
  {RR:Â->È->bc->Å->Prop}{m0:Nat}(hc:X.calm=ej) (B:BlkOk X scope x ô) (I2:Inv X Á σ H2 s2) (T:Turn X.prog X.w X.K bp J fp it tn) (st2:tn 0 s2.heap) (f2:∀b∈fp,Wd X Á H2 b)
  (c1:∀x c,cl.lookup x=eh c->X.env.cells.lookup x=eh c) (c2:∀x,(x,ġ)∈scope.names->∃c,cl.lookup x=eh c)
  (hI:∀cl C s H ex,PIfs (Zr X scope (ZX X x ô) cl C s H ex) aY tc) (hE:∀cl C s H ex,PE (Zr X scope (ZX X x ô) cl C s H ex) bF te)
  (hG:∀cl C s H ex,PG (Zr X scope (ZX X x ô) cl C s H ex) bp tg) (w0:W 0 m0 [] (Õ x.length ei++NM σ ô) H2) (cw:GM J tg tc te Fin W)
  (hRR:∀D C s' H' ys m,H' D=ei->s'.heap.Ns C m->Wd X Á (upd H' D<|.lst ys) C->Inv X Á σ (upd H' D<|.lst ys) s'->Fin ys H'->RR (.ref D) C (.ok .next) s') :
  wpAny (Û X.prog X.w) X.A (newList []) (λĬ aC=>wpAny (Û X.prog X.w) X.A (newFunctionEnv scope X.env.globals cl [] X.env.qual ei .none<|eh X.env) (λcenv s₄ =>
    codeAny (Û X.prog X.w) X.A (.compStart (.ListComp bF [⟨bp,ũ,aY,0⟩] scope ç) 0 (.ref it) Ĭ { cenv with scope:=bP scope X.env }) (RR Ĭ cenv.locals) s₄) E aC) E s2:=by
 refine þ (wpAny_newFunctionEnv B.nocell (by intro y hy;simp at hy) (λbo cE cF=>?_) B.kind);dsimp only at cE cF ⊢;have hfp:∀b∈fp,b<s2.heap.objs.size:=λb hb=>by obtain⟨o,e,_⟩:=T.obj _ _ st2 b hb;exact Ó e
 have I3:Inv X Á σ H2 {s2 with heap:=s2.heap.push {cls:=.type "list",dict:=ei,data:=.seq ([]:List Â).toArray}}:=I2.kept (t':=s2.toks) λb o e=>Ä _ e;have h3:(s2.heap.push {cls:=.type "list",dict:=ei,data:=.seq ([]:List Â).toArray}).objs.size=s2.heap.objs.size+1:=Ŭ ..;have df:(s2.heap.push {cls:=.type "list",dict:=ei,data:=.seq ([]:List Â).toArray}).get? s2.heap.objs.size=eh {cls:=.type "list",dict:=ei,data:=.seq ([]:List Â).toArray}:=Ñ _ rfl;have cG:∀b o,s2.heap.get? b=eh o->(s2.heap.push {cls:=.type "list",dict:=ei,data:=.seq ([]:List Â).toArray}).get? b=eh o:=λb o e=>Ä _ e;generalize hH3:s2.heap.push {cls:=.type "list",dict:=ei,data:=.seq ([]:List Â).toArray}=h3' at cE cF I3 h3 df cG ⊢;have ϩ:∀b o,h3'.get? b=eh o->bo.get? b=eh o:=λb o e=>cF.extBut b o (ä<|Ó e)<|Ä _ e;have hDC:s2.heap.objs.size≠h3'.objs.size:=by rw[h3];exact ä<|ĭ _
 have IB:=UT (cl:=cl) (fp:=fp) (s3:={s2 with heap:=h3'}) (D:=s2.heap.objs.size) (h1:=bo) (tk:=s2.toks+([]:List<|Str×Â).length) B I2 f2 c1 c2 I3 rfl h3 ϩ hfp cE;generalize hY:Zr X scope (ZX X x ô) cl h3'.objs.size {s2 with heap:=h3'} H2 (s2.heap.objs.size::fp)=Y at IB;have yP:Y.prog=X.prog:=by rw[<-hY];rfl
 have yw:Y.w=X.w:=by rw[<-hY];rfl
 have yK:Y.K=X.K:=by rw[<-hY];rfl
 have yA:Y.A=X.A:=by rw[<-hY];rfl
 have yc:Y.calm=ej:=by rw[<-hY];exact hc
 have yenv:Y.env=compEnvC scope cl h3'.objs.size X.env:=by rw[<-hY];rfl
 have hIY:PIfs Y aY tc:=by rw[<-hY];exact hI _ _ _ _ _
 have hEY:PE Y bF te:=by rw[<-hY];exact hE _ _ _ _ _
 have yxe:Y.xe=λ_ _=>False:=by rw[<-hY];rfl
 have ypn:Y.pn=[]:=by rw[<-hY];rfl
 have hgN:PG Y bp tg:=by rw[<-hY];exact hG _ _ _ _ _
 have fD:∀{H':Hp},H' s2.heap.objs.size=ei->Wd Y [] H' s2.heap.objs.size:=λ{H'} hn=>by
  refine⟨hn,?_,?_,?_,?_,λp hp=>?_⟩
  .rw[yenv];exact hDC
  .exact IB.ok.exfs _ (by rw[<-hY];exact ì)
  .exact .inl (by rw[<-hY];exact ì)
  .exact λy c e=>(IB.ok.exf _<|by rw[<-hY];exact ì).2 y c e
  .rw[ypn]at hp;exact nomatch hp
 have fF:∀{H':Hp},(∀b∈fp,H' b=ei)->∀b∈fp,Wd Y [] H' b:=λ{H'} hn b hb=>by
  have hm:b∈Y.ex:=by rw[<-hY];exact Ü _ hb
  refine⟨hn b hb,?_,IB.ok.exfs b hm,.inl hm,λy c e=>(IB.ok.exf b hm).2 y c e,λp hp=>?_⟩
  .exact(IB.ok.exf b hm).1
  .rw[ypn]at hp;exact nomatch hp
 have acc0:bo.PlainList s2.heap.objs.size ([]:List Â).toArray:=⟨0,by exact ϩ _ _ df⟩
 have loop:∀aC:Å,aC={s2 with heap:=bo,toks:=s2.toks+([]:List<|Str×Â).length}->
   codeAny (Û X.prog X.w) X.A (.compLoop (.ListComp bF [⟨bp,ũ,aY,0⟩] scope ç) 0 (.ref it) (.ref s2.heap.objs.size)<|compEnvC scope cl h3'.objs.size X.env) (RR (.ref s2.heap.objs.size) h3'.objs.size) aC:=by
  rintro aC rfl;refine MY (λn s'=>∃i ys ñ τ H',Inv Y [] τ H' s'/\tn i s'.heap/\(∀b∈fp,H' b=ei)/\H' s2.heap.objs.size=ei/\fS ys ñ/\s'.heap.PlainList s2.heap.objs.size ñ.toArray/\W i n ys τ H') ?_ m0
   ⟨0,[],[],_,H2,IB,T.keep _ _ _ st2 λb hb o e=>ϩ _ _<|cG _ _ e,λb hb=>(f2 b hb).1,I2.fresh,.nil,acc0,w0⟩
  rintro n s3 ⟨i,ys,ñ,τ,H3,I3',st3,fr3,frD,rv,pl,w3⟩;have cv:∀{α:Type}{f:Sem α}{Q Q':α->Å->Prop}{s:Å},wpAny (Û Y.prog Y.w) Y.A f Q Y.xe s->(∀a s',Q a s'->Q' a s')->wpAny (Û X.prog X.w) X.A f Q' (λ_ _=>False) s:=λ{α f Q Q' s} h hq=>by rw[yP,yw,yA,yxe]at h;exact ē h hq λ_ _ e=>e
  have cvX:∀{α:Type}{f:Sem α}{Q Q':α->Å->Prop}{s:Å},wpAny (Û X.prog X.w) Y.A f Q (λ_ _=>False) s->(∀a s',Q a s'->Q' a s')->wpAny (Û X.prog X.w) X.A f Q' (λ_ _=>False) s:=λ{α f Q Q' s} h hq=>by rw[yA]at h;exact ē h hq λ_ _ e=>e
  obtain⟨nD,hD3⟩:=id pl;have plD:∀b∈[s2.heap.objs.size],∃o,s3.heap.get? b=eh o/\∀v,o.data≠.cell v:=λb hb=>by
   have e:b=s2.heap.objs.size:=by simpa using hb
   subst e;exact⟨_,hD3,λv z=>by cases z⟩
  have IP:=I3'.pinned (fp:=[s2.heap.objs.size]) (λb hb=>by
    have e:b=s2.heap.objs.size:=by simpa using hb
    subst e
    exact fD frD) plD
  have memD:=ZN (fp:=[s2.heap.objs.size]) (â.mpr rfl) hD3;have fF':∀b∈fp,Wd Y ([]++XD [s2.heap.objs.size] s3.heap) H3 b:=λb hb=>by
   obtain⟨q1,q2,q3,q4,q5,q6⟩:=fF fr3 b hb;refine⟨q1,q2,q3,q4,q5,λp hp=>?_⟩;rw[ypn]at hp;obtain⟨bN,_⟩:=Kd (show p∈XD [s2.heap.objs.size] s3.heap by simpa using hp);have e:p.1=s2.heap.objs.size:=by simpa using bN
   rw[e];exact(ä<|hfp b hb).symm
  obtain⟨hys,h|⟨go,N,hN,step⟩⟩:=cw i n ys τ H3 w3
  .obtain⟨stop,fin⟩:=h;refine cvX (T.done Y yP yw yK yc i _ s3 _ H3 _ IP fF' st3 stop) λr s4 ⟨hr,I4⟩=>?_;subst hr;obtain⟨m4,hm4,_⟩:=I4.loc;rw[yenv]at hm4;have aD:Un (frs X.stack) (s2.heap.objs.size::fp) H2 H3 h3' s4.heap:=by
    have:=I4.base;rw[<-hY]at this;exact this
   have hok4:HOk X.prog X.w H3 s4.heap:=by have:=I4.hok;rw[yP,yw]at this;exact this
   have pl4:=(I4.pin _<|É _<|É _ memD).1;have nC:H3 h3'.objs.size=ei:=by have:=I4.free;rw[yenv]at this;exact this
   have hlen:ys.length<=Ù:=η hys;have osEq:s4.os=s2.os:=by have:=I4.os;rw[<-hY]at this;exact this
   have neD:∀b o,s2.heap.get? b=eh o->b≠s2.heap.objs.size:=λb o e=>ä<|Ó e;have nin:∀b o,s2.heap.get? b=eh o->b∉fp->b∉s2.heap.objs.size::fp:=λb o e hb z=>(Ç.mp z).elim (neD b o e) hb;have hokN:HOk X.prog X.w (upd H3 s2.heap.objs.size<|.lst ys) s4.heap:=hok4.track frD ⟨hlen,ñ,nD,rv,pl4⟩;have U:Un (frs X.stack) fp H2 (upd H3 s2.heap.objs.size<|.lst ys) s2.heap s4.heap:=by
    refine⟨λb o e hn hf hx=>aD.keep b o (cG b o e) hn hf<|nin b o e hx,λb o e hn hf hx=>aD.slot b o (cG b o e) hn hf<|nin b o e hx,λb o e hn hx=>?_,λb o e hx=>aD.there b o (cG b o e)<|nin b o e hx,λb xs e=>?_,λb o xs e=>?_,λb ps e=>?_⟩
    .rw[eB<|neD b o e];exact aD.free b o (cG b o e) hn<|nin b o e hx
    .have q:=aD.tups b xs e;rw[eB<|Zg q frD];exact q
    .have q:=aD.frzs b o xs e;rw[eB<|Zg q frD];exact q
    .obtain⟨more,q⟩:=aD.tbls b ps e;exact⟨more,by rw[eB<|Zg q frD];exact q⟩
   have I5:Inv X Á σ (upd H3 s2.heap.objs.size<|.lst ys) s4:=I2.call' (ch:=fp) osEq U hokN I4.bare λb hb=>by obtain⟨_,q2,_,q4,q5,q6⟩:=f2 b hb;exact⟨q4,q2,q5,q6⟩
   exact hRR _ _ _ _ _ m4 frD hm4 (I2.fpOk (η<|by rw[h3];exact ĭ _)<|by rw[eB hDC.symm];exact nC) I5 fin
  .refine cvX (T.item Y yP yw yK yc i _ s3 _ H3 _ IP fF' st3 go) λr s4 ⟨u,hr,h4⟩=>?_;subst hr;refine cvX h4 λ_ s5 ⟨y,H5,I5,r5,y5,st5,fr5⟩=>?_;have frD5:H5 s2.heap.objs.size=ei:=(I5.pin _<|É _<|É _ memD).2.1;have hD5:=(I5.pin _<|É _<|É _ memD).1;have I5p:=I5.unpinned.pinned (fp:=s2.heap.objs.size::fp) (λb hb=>by
     rcases Ç.mp hb with e|hb
     . subst e;exact fD frD5
     . exact fF fr5 b hb) (λb hb=>by
     rcases Ç.mp hb with e|hb
     . subst e;exact⟨_,hD5,λv z=>by cases z⟩
     . exact T.obj _ _ st5 b hb)
   have memD5:=ZN (fp:=s2.heap.objs.size::fp) ì hD5;rw[<-yenv];refine cv (hgN _ s5 _ H5 y u _ I5p r5<|step y H5 y5) λ_ s6 ⟨σ6,H6,I6,q6⟩=>?_;have aE:∀{m':Nat}{bh:St}{H7:Hp}{s7:Å}{ys':List V}{its':List Â},Inv Y [] bh H7 s7->tn (i+1) s7.heap->(∀b∈fp,H7 b=ei)->H7 s2.heap.objs.size=ei->fS ys' its'->s7.heap.PlainList s2.heap.objs.size its'.toArray->m'<n/\W (i+1) m' ys' bh H7->
     ∃m,m<n/\∃i ys ñ τ H',Inv Y [] τ H' s7/\tn i s7.heap/\(∀b∈fp,H' b=ei)/\H' s2.heap.objs.size=ei/\fS ys ñ/\s7.heap.PlainList s2.heap.objs.size ñ.toArray/\W i m ys τ H' :=
    λ{m' bh H7 s7 ys' its'} J1 st7 fr7 fd7 rv7 pl7 wm=>⟨m',wm.1,i+1,ys',its',bh,H7,J1,st7,fr7,fd7,rv7,pl7,wm.2⟩
   have stay:∀{bh:St}{H7:Hp}{s7:Å},Inv Y ([]++XD (s2.heap.objs.size::fp) s5.heap) bh H7 s7->tn (i+1) s7.heap/\(∀b∈fp,H7 b=ei)/\H7 s2.heap.objs.size=ei/\s7.heap.get? s2.heap.objs.size=eh {cls:=.type "list",data:=.seq ñ.toArray nD}:=by intro bh H7 s7 J1;refine⟨T.keep _ _ _ st5 λb hb o e=>(J1.pin (b,o)<|É _<|É _<|ZN (Ü _ hb) e).1,λb hb=>?_,(J1.pin _<|É _<|É _ memD5).2.1,(J1.pin _<|É _<|É _ memD5).1⟩;obtain⟨o,e,d⟩:=T.obj _ _ st5 b hb;exact(J1.pin (b,o)<|É _<|É _<|ZN (Ü _ hb) e).2.1
   refine cv (hIY _ s6 _ H6 _ I6 q6) λok s7 ⟨H7,I7,q7⟩=>?_;cases ok with
   |false =>rw[f7<|by decide]at q7;rw[f7<|by decide];obtain⟨m',wm⟩:=hN _ _ _ q7;obtain⟨a1,a2,a3,a4⟩:=stay I7;exact aE I7.unpinned a1 a2 a3 rv ⟨nD,a4⟩ wm
   |true =>
    rw[f6 rfl]at q7;rw[f6 rfl];refine cv (hEY _ s7 _ H7 _ I7 q7) λz s8 ⟨vz,H8,I8,rz,wm⟩=>?_;obtain⟨m',wm⟩:=hN _ _ _ wm;obtain⟨a1,a2,a3,a4⟩:=stay I8;have hlen:=rv.length;refine wpAny_list_append_plain (hsz:=by rw[Í];lia) (⟨nD,a4⟩:s8.heap.PlainList _ ñ.toArray) λh9 hl9 hs9=>?_;obtain⟨q1,q2,q3,q4,q5,q6⟩:=fD a3;have I9:Inv Y [] _ H8 {s8 with heap:=h9}:=I8.unpinned.turned (t':=s8.toks) (λb o hb e=>hs9.extBut b o hb e) q1 q2 q4 q5 q6;refine aE I9 (T.keep _ _ _ a1 λb hb o e=>hs9.extBut b o (ä<|hfp b hb) e) a2 a3 (its':=ñ++[z]) (rv.append<|.cons rz .nil) ?_ wm;have e:ñ.toArray.push z=(ñ++[z]).toArray:=by simp
    rw[e]at hl9;exact hl9
 exact codeAny_compStart_list (loop _ rfl)<|T.self _ 0 _ _ _ (T.keep _ _ _ st2 λb hb o e=>ϩ _ _<|cG _ _ e)<|loop _ rfl
variable {wi:TI}
def Dx(hc:X.calm=ej)(B:BlkOk X scope x ô)(hi:PI X bp ũ wi)(hG:∀cl C s H ex,PG (Zr X scope (ZX X x ô) cl C s H ex) bp tg)
  (hI:∀cl C s H ex,PIfs (Zr X scope (ZX X x ô) cl C s H ex) aY tc) (hE:∀cl C s H ex,PE (Zr X scope (ZX X x ô) cl C s H ex) bF te)
  (hs:∀x,ĕ ũ X.env x=pure x:=by intro _;rfl):PE X (.ListComp bF [⟨bp,ũ,aY,0⟩] scope ç)<|BB wi x.length ô tg tc te:=by
 intro Á s σ H Q I h;obtain⟨cl,aH,c1,c2⟩:=Xq (scope:=scope) (env:=X.env) λy hy e=>I.ok.has y.1<|.inl<|B.frees y hy e;rw[eval_ListComp];refine cW (use:=ei) rfl hs aH B.kind B.locs<|thn (hi Á s σ H _ I h) λv s1 h1=>thn h1 λitv s2 h2=>?_;obtain⟨it,fp,tn,J,H2,e,I2,T,st2,f2,W,⟨m0,w0⟩,cw⟩:=h2;subst e;refine Kq (RR:=λĬ C=>compPost (Û X.prog X.w) X.A X.xe ei (EP X Á σ Q) Ĭ C) hc B I2 T st2 f2 c1 c2 hI hE hG w0 cw ?_;intro D C s' H' ys m hD hn fC I' fin;obtain⟨q1,q2,q3,q4,q5,q6⟩:=fC;exact⟨m,hn,λh' hs'=>⟨.ref D,_,I'.turned (t':=s'.toks) (λb o hb e=>hs'.extBut b o hb e) q1 q2 q4 q5 q6,rfl,fin D hD⟩⟩
def BJ{y:Str}{py:Pos}{i:Nat}{ϙ:Pos}(hN:X.N.Nodup)(hi':X.N[i]?=eh y)(hy:Loc X.env.scope y)(hc:X.calm=ej)(B:BlkOk X scope x ô)(hi:PI X bp ũ wi)(hG:∀cl C s H ex,PG (Zr X scope (ZX X x ô) cl C s H ex) bp tg)
  (hI:∀cl C s H ex,PIfs (Zr X scope (ZX X x ô) cl C s H ex) aY tc) (hE:∀cl C s H ex,PE (Zr X scope (ZX X x ô) cl C s H ex) bF te)
  (hs:∀x,ĕ ũ X.env x=pure x:=by intro _;rfl)
  (hsw:Ų (.ListComp bF [⟨bp,ũ,aY,0⟩] scope ç) (eh<|.Name y py) ϙ.line X.env=pure ej:=by rfl)
  (hf:X.fn y=ej\/X.env.scope.names.lookup y=eh .local:=by first|exact .inl rfl|exact .inr rfl|assumption) :
  PS X (.Assign [.Name y py] (.ListComp bF [⟨bp,ũ,aY,0⟩] scope ç) ϙ) (Pf (BB wi x.length ô tg tc te)<|GA i):=by
 intro Á s σ H D I h;obtain⟨cl,aH,c1,c2⟩:=Xq (scope:=scope) (env:=X.env) λy hy e=>I.ok.has y.1<|.inl<|B.frees y hy e;rw[exec_Assign_Name_used _ _ _ _ hsw];refine À<|cT<|À ?_;show wpAny _ X.A (do let _<-comprehension (.ListComp bF [⟨bp,ũ,aY,0⟩] scope ç) scope X.env _ (newList []) ez (eval ũ X.env) (eh<|ž (.Name y py) X.env)) _ _ s;refine À (ē (cW (use:=eh<|ž (.Name y py) X.env) (Q:=λ_ s'=>SP X Á D .next s') rfl hs aH B.kind B.locs
   (thn (hi Á s σ H _ I h) λv s1 h1=>thn h1 λitv s2 h2=>?_)) (λ_ s' hq=>Æ<|Æ hq) λ_ _ e=>e)
 obtain⟨it,fp,tn,J,H2,e,I2,T,st2,f2,W,⟨m0,w0⟩,cw⟩:=h2;subst e;refine Kq (RR:=λĬ C=>compPost (Û X.prog X.w) X.A X.xe (eh<|ž (.Name y py) X.env) (λ_ s'=>SP X Á D .next s') Ĭ C) hc B I2 T st2 f2 c1 c2 hI hE hG w0 cw ?_;intro Dd C s' H' ys m hD hn fC I' fin;obtain⟨q1,q2,q3,q4,q5,q6⟩:=fC;show wpAny _ _ (ž (.Name y py) X.env<|.ref Dd) _ _ _;refine wpAny_assign_Name<|KE I' hN hi' hy (v:=.ref Dd) rfl (λs2 I2 ⟨a,hs2,ha⟩=>?_) hf;have ne:C≠a:=by
  rcases ha with z|z
  .rw[z];exact q2
  .exact(q5 y a z).symm
 refine⟨m,hn.sameBut hs2 ne,λh' hs'=>?_⟩;exact⟨_,_,I2.turned (t':=s2.toks) (λb o hb e=>hs'.extBut b o hb e) q1 q2 q4 q5 q6,fin Dd hD⟩
end
mutual
inductive IsD (K:Frag) (H:Hp):V->Ŧ->Prop
 |non:IsD K H .non .none
 |bl (b:Bool):IsD K H (.bl b)<|.bool b
 |int (i:Int):IsD K H (.int i)<|.int i
 |str (x:Str):IsD K H (.str x)<|.str x
 |lst {a:È}{xs:List V}{ds:List Ŧ}:fQ K H a xs->IsDs K H xs ds->IsD K H (.ref a) (.list ds)
 |tup {a:È}{xs:List V}{ds:List Ŧ}:fR K H a xs->IsDs K H xs ds->IsD K H (.ref a) (.tuple ds)
inductive IsDs (K:Frag) (H:Hp):List V->List Ŧ->Prop
 |nil:IsDs K H [] []
 |cons {x:V}{xs:List V}{d:Ŧ}{ds:List Ŧ}:IsD K H x d->IsDs K H xs ds->IsDs K H (x::xs) (d::ds)
end
section
variable {X:Cx}{Á:List (È×Obj)}{σ:St}{H:Hp}{s:Å}
mutual
theorem IsD.reads(I:Inv X Á σ H s):∀{v:V}{d:Ŧ}{u:Â},IsD X.K H v d->RelV v u->∃as,Reads s.heap u d as
 |_,_,_,.non,r=>by cases r;exact⟨_,.none⟩
 |_,_,_,.bl b,r=>by cases r;exact⟨_,.bool b⟩
 |_,_,_,.int i,r=>by obtain⟨t,rfl⟩:=r;exact⟨_,.int i t⟩
 |_,_,_,.str x,r=>by obtain⟨t,rfl⟩:=r;exact⟨_,.str x t⟩
 |_,_,_,.lst q qs,r=>by cases r;obtain⟨ñ,rv,⟨o,n,e,c,_,d⟩,_⟩:=I.list q;obtain⟨as,ra⟩:=IsDs.reads I qs rv;exact⟨_,.list e c d<|by simpa using ra⟩
 |_,_,_,.tup q qs,r=>by cases r;obtain⟨ñ,rv,⟨o,e,c,n,d⟩,_⟩:=I.tuple q;obtain⟨as,ra⟩:=IsDs.reads I qs rv;exact⟨_,.tuple e c d<|by simpa using ra⟩
theorem IsDs.reads(I:Inv X Á σ H s):∀{vs:List V}{ds:List Ŧ}{us:List Â},IsDs X.K H vs ds->fS vs us->∃as,ReadsAll s.heap us ds as
 |_,_,_,.nil,.nil=>⟨_,.nil⟩
 |_,_,_,.cons q qs,.cons r rs=>by obtain⟨as,ra⟩:=IsD.reads I q r;obtain⟨bs,rb⟩:=IsDs.reads I qs rs;exact⟨_,.cons ra rb⟩
end
end
def IsDs.ints{K:Frag}{H:Hp}:∀ns:List Int,IsDs K H (ns.map V.int) (ns.map PyData.int)
 |[]=>.nil
 |n::ns=>.cons (.int n)<|IsDs.ints ns
def IsDs.length{K:Frag}{H:Hp}:∀{vs:List V}{ds:List Ŧ},IsDs K H vs ds->vs.length=ds.length
 |_,_,.nil=>rfl
 |_,_,.cons _ t=>by rw[Ë,Ë,IsDs.length t]
def IsDs.get{K:Frag}{H:Hp}:∀{vs:List V}{ds:List Ŧ}{i:Nat}{v:V},IsDs K H vs ds->vs[i]?=eh v->∃d,ds[i]?=eh d/\IsD K H v d
 |_,_,_,_,.nil,e=>by simp at e
 |_,_,0,_,.cons q _,e=>by simp at e;subst e;exact⟨_,rfl,q⟩
 |_,_,i+1,v,.cons _ t,e=>by obtain⟨d,h1,h2⟩:=IsDs.get (i:=i) (v:=v) t (by simpa using e);exact⟨d,by simpa using h1,h2⟩
def IsDs.append{K:Frag}{H:Hp}:∀{xs ys:List V}{ds es:List Ŧ},IsDs K H xs ds->IsDs K H ys es->IsDs K H (xs++ys) (ds++es)
 |_,_,_,_,.nil,h=>h
 |_,_,_,_,.cons q t,h=>.cons q<|IsDs.append t h
section
variable {X:Cx}
abbrev P7(K:Frag):R2:=λx y H Q=>∃d e,IsD K H x d/\IsD K H y e/\SeqAt.shaped d=ej/\SeqAt.shaped e=ej/\Q (.bl<|Ģ d e) H
abbrev P8(K:Frag):R2:=λx y H Q=>∃d e,IsD K H x d/\IsD K H y e/\SeqAt.shaped d=ej/\SeqAt.shaped e=ej/\Q (.bl (!Ģ d e)) H
def GY(hu:X.A.units+64<Ĥ):OpR X (è .Eq)<|P7 X.K:=by intro Á s σ H x y v u Q I rx ry h;obtain⟨d,e,hd,he,sd,se,q⟩:=h;obtain⟨as,ra⟩:=hd.reads I rx;obtain⟨bs,rb⟩:=he.reads I ry;exact SeqAt.compareEq_shaped ra rb sd se hu ⟨.bl _,H,I,rfl,q⟩
def Hc(hu:X.A.units+64<Ĥ):OpR X (è .NotEq)<|P8 X.K:=by intro Á s σ H x y v u Q I rx ry h;obtain⟨d,e,hd,he,sd,se,q⟩:=h;obtain⟨as,ra⟩:=hd.reads I rx;obtain⟨bs,rb⟩:=he.reads I ry;exact SeqAt.compareNe_shaped ra rb sd se hu ⟨.bl _,H,I,rfl,q⟩
inductive TyV (K:Frag) (H:Hp):V->Â->Prop
 |of {x:V}{t:Â}:fL K H x t->TyV K H x t
 |tup {a:È}{xs:List V}:fR K H a xs->TyV K H (.ref a) (.type "tuple")
 |lst {a:È}{xs:List V}:fQ K H a xs->TyV K H (.ref a) (.type "list")
def TyV.int{K:Frag}{H:Hp}(i:Int):TyV K H (.int i)<|.type "int":=.of (.int i)
def BL:eP X (.builtin "isinstance") λxs H Q=>∃x T t b,xs=[x,.ty T]/\TyV X.K H x t/\PySem.W.kitOne X.K t (.type T)=eh b/\Q (.bl b) H:=by
 intro Á s σ H xs us Q I r h;obtain⟨x,T,t,b,rfl,ty,e,q⟩:=h;obtain⟨u,v,rfl,ru,rv⟩:=Uw r;cases rv;cases ty with
 |of ty=>exact Aw I ru ty e λtk=>⟨.bl b,H,I.tok tk,rfl,q⟩
 |tup hq =>cases ru;obtain⟨ñ,_,⟨o,h1,h2,_⟩,_⟩:=I.tuple hq;exact PySem.W.kia_one PySem.W.kitx_tuple I.kIn ⟨o,h1,h2⟩ e (λz=>nomatch z) λtk=>⟨.bl b,H,I.tok tk,rfl,q⟩
 |lst hq =>cases ru;obtain⟨ñ,_,⟨o,n,h1,h2,_⟩,_⟩:=I.list hq;exact PySem.W.kia_one PySem.W.kitx_list I.kIn ⟨o,h1,h2⟩ e (λz=>nomatch z) λtk=>⟨.bl b,H,I.tok tk,rfl,q⟩
def CB(hc:X.calm=ej):eP X (.builtin "all") λxs H Q=>∃p,∃bs:List Bool,xs=[.ref p]/\fQ X.K H p (bs.map V.bl)/\Q (.bl<|bs.all id) H:=by
 intro Á s σ H xs us Q I r h;obtain⟨p,bs,rfl,hq,q⟩:=h;obtain⟨u,rfl,rx⟩:=ZT r;cases rx;obtain⟨ñ,rv,pl,hz⟩:=I.list hq;have hlen:=rv.length;rw[Ã]at hlen;have Ϥ:p<s.heap.objs.size:=by obtain⟨o,n,e,_⟩:=pl;exact Ó e
 refine call_all_walk<|Ω pl.isList ?_;refine⟨s.heap.objs.size,_,_,ñ.toArray.size,_,_,λi=>bs.getD i ej,rfl,Walks.list (A:=X.A.in1) (I.ok.hd hc) s.heap.objs.size p (ä Ϥ) ñ.toArray,⟨⟨_,Ñ _ rfl,rfl,rfl⟩,pl.isList.push _⟩,?_,λh' tk hk=>?_⟩
 .intro i v s' Q' E' hP hQ;have hP:ñ[i]?=eh v:=by simpa using hP
  have hb:(bs.map V.bl)[i]?=eh (.bl<|bs.getD i ej):=by
   have hi:i<bs.length:=by have:=(Ð.mp hP).1;lia
   rw[Ò,ý];simp[hi]
  obtain⟨u,hu,ru⟩:=rv.get hb;rw[hP]at hu;cases hu;cases ru;exact Ď hQ
 .have e:(List.range ñ.toArray.size).all (λi=>bs.getD i ej)=bs.all id:=by
   rw[Í,<-hlen,Bool.eq_iff_iff,ò,ò];constructor
   .intro h b hb;obtain⟨i,hi,rfl⟩:=List.mem_iff_getElem.mp hb;have:=h i<|ū.mpr hi;rw[ý,Ê hi]at this;exact this
   .intro h i hi;have hi:=ū.mp hi;rw[ý,Ê hi];exact h _<|Ŝ hi
  rw[e];refine⟨.bl _,H,I.kept (t':=tk) λb o e=>hk b o (λhm=>?_)<|Ä _ e,rfl,q⟩;have:b=s.heap.objs.size:=by simpa using hm
  exact gc (this▸Ó e)<|ě _
abbrev sortI(ns:List Int):List Int:=ns.mergeSort λa b=>gf (a<=b)
def Xy(ns:List Int):(sortI ns).Perm ns:=Š ns _
def Nj(ns:List Int):(sortI ns).Pairwise (·<=·):=by have h:=bI (le:=λa b:Int=>gf (a<=b)) (λa b c h1 h2=>by simp at *;lia) (λa b=>by simp;lia) ns;exact h.imp λh=>by simpa using h
variable {ns:List Int} {ms:List Int}
def Yz(hp:ms.Perm ns)(hs:ms.Pairwise (·<=·)):ms=sortI ns:=PySem.W.ksm_same (hp.trans (Xy ns).symm) hs (Nj ns)
def J0(hp:ms.Perm ns):sortI ms=sortI ns:=Yz ((Xy ms).trans hp) (Nj ms)
def Yw(ns:List Int):(sortI ns).length=ns.length:=(Xy ns).length_eq
def YD:∀{vs:List Â}{ns:List Int},ù vs ns->fS (ns.map V.int) vs:=We
def call_sorted:eP X (.builtin "sorted") λxs H Q=>∃p,∃ns:List Int,xs=[.ref p]/\fQ X.K H p (ns.map V.int)/\ns.length<64/\∀l,H l=ei->Q (.ref l) (upd H l<|.lst<|(sortI ns).map V.int):=by intro Á s σ H xs us Q I r h;obtain⟨p,ns,rfl,hq,h64,q⟩:=h;obtain⟨u,rfl,rx⟩:=ZT r;cases rx;obtain⟨ñ,rv,pl,hz⟩:=I.list hq;have hlen:=rv.length;rw[Ã]at hlen;refine sorted_ints pl.isList (ZD rv) (by lia) λout bW a1 a2 a3=>?_;have e:=Yz a2 a3;subst e;obtain⟨n,he⟩:=sortedAll_at s.heap ñ out;refine⟨.ref<|s.heap.objs.size+1,_,I.laid (a:=s.heap.objs.size+1) (o:=.lst<|(sortI ns).map V.int) (t':=s.toks) (λb o e=>sortedAll_old e) (Ń _) ?_,rfl,q _<|I.hok.fresh<|Ń _⟩;exact⟨by rw[Ã,Yw];rw[Ã]at hz;exact hz,out.toList,n,YD a1,by simpa[Η]using he⟩
def AT:eP X (.type "set") (λxs H Q=>∃p,∃ns:List Int,xs=[.ref p]/\fQ X.K H p (ns.map V.int)/\ns.length<4000/\X.calm=ej/\
    ∀l S n,H l=ei->n=(Ÿ (λi=>ns.getD i 0) ns.length).length->Q (.ref l) (upd H l<|.set S n)):=by
 intro Á s σ H xs us Q I r h;obtain⟨p,ns,rfl,hq,h4,hc,q⟩:=h;obtain⟨u,rfl,rx⟩:=ZT r;cases rx;obtain⟨ñ,rv,pl,hz⟩:=I.list hq;have hlen:=rv.length;rw[Ã]at hlen;refine call_set_list (I.ok.hd hc) pl.isList (by simpa using ZD rv) (by rw[Í];show ñ.length+1<4096;lia) λh' tk hS hk=>?_;refine⟨.ref s.heap.objs.size,_,I.laid (a:=s.heap.objs.size) (o:=.set _ _) (t':=tk) (λb o e=>hk b o (Ó e) e) (Ì _) hS,rfl,q _ _ _ (I.hok.fresh<|Ì _) ?_⟩;rw[Í,hlen]
def UH:eP X (.builtin "len") λxs H Q=>∃p S n,xs=[.ref p]/\H p=eh (.set S n)/\Q (.int n) H:=by
 intro Á s σ H xs us Q I r h;obtain⟨p,S,n,rfl,hq,q⟩:=h;obtain⟨u,rfl,rx⟩:=ZT r;cases rx;obtain⟨o,es,ep,t,e,hex,hd,_,_,hb,hf,hn⟩:=(show eQ X.prog X.w H s.heap p (.set S n) from I.hok p _ hq)
 subst hn;exact call_len_set e hex hd hf (by have:es.size<4096:=hb;lia) ⟨.int _,H,I.tok _,⟨_,rfl⟩,q⟩
end
section
variable {X:Cx}{x:Str}{p ç:Pos}{e:Expr}{es:List Expr}{t:TA}
def PU{T:String}(hg:Gl X x)(hm:X.mg x=ei)(hv:ţ x=eh (.type T))(hn:x≠"__name__":=by decide)(hd:(x==("__debug__" : Str))=ez:=by decide):PE X (.Name x ç)<|tC<|.ty T:=E2 hg hm hv rfl hn hd
end
abbrev Z8(scope sc:ż)(N:List Str)(x:List Str)(ô:List Nat):Bool :=
 scope.names.all (λy=>y.2 != .cell)&&scope.names.all (λy=>y.2 != .local||scope.names.lookup y.1==eh .local)&&x.all (λy=>scope.names.lookup y==eh .local) &&
 scope.names.all (λy=>y.2 != .free||sc.names.lookup y.1==eh .cell) &&
 ô.all (λj=>gf (j<N.length)&&sc.names.lookup (N.getD j Str.empty)==eh .cell&&scope.names.lookup (N.getD j Str.empty)==eh .free)&&gf (x++ô.map λj=>N.getD j Str.empty).Nodup
def Ou{X:Cx}{scope sc:ż}{x:List Str}{ô:List Nat}{N:List Str}(hsc:X.env.scope=sc)(hN:X.N=N)(hk:scope.kind=.function)(h:Z8 scope sc N x ô=ej):BlkOk X scope x ô:=by
 unfold Z8 at h;simp only[bAq]at h;obtain⟨⟨⟨⟨⟨h1,h2⟩,h3⟩,h4⟩,h5⟩,h6⟩:=h;rw[ò]at h1 h2 h4 h5;refine⟨hk,λy hy=>by simpa using h1 y hy,λy hy e=>?_,λy hy=>by simpa using ò.mp h3 y hy,λy hy e=>?_,λj hj=>?_,?_⟩
 .have:=h2 y hy;rw[e]at this;simpa using this
 .have:=h4 y hy;rw[e]at this;show X.env.scope.names.lookup y.1=_;rw[hsc];simpa using this
 .have:=h5 j hj;simp only[bAq,gb,beq_iff_eq]at this;obtain⟨⟨a,b⟩,c⟩:=this;refine⟨?_,?_,?_⟩
  .rw[hN,Ê a];rfl
  .show X.env.scope.names.lookup _=_;rw[hsc,hN];exact b
  .rw[hN];exact c
 .unfold ZX;rw[hN];exact of_decide_eq_true h6
abbrev fc(r:È)(H H':Hp):Prop:=∀b o,H b=eh o->b≠r->H' b=eh o
variable {H:Hp} {H':Hp}
def Same.keep(e:Same H H')(r:È):fc r H H':=λb o h _=>e b o h
def fc.refl(r:È)(H:Hp):fc r H H:=λ_ _ h _=>h
variable {r:È}
def fc.trans{H1 H2:Hp}(a:fc r H H1)(b:fc r H1 H2):fc r H H2:=λc o h n=>b c o (a c o h n) n
def fc.upd{o:HO}:fc r H<|L2.upd H r o:=λb u h n=>by rw[eB n];exact h
def fc.free(e:fc r H H'){l:È}(hr:∃o,H' r=eh o)(h:H' l=Option.none):H l=Option.none:=by
 cases q:H l with
 |none=>rfl
 |some o =>
  by_cases hl:l=r
  .subst hl;obtain⟨o',z⟩:=hr;rw[h]at z;cases z
  .rw[e l o q hl]at h;cases h
mutual
noncomputable def NT:Ŧ->Bool
 |.list _=>ez
 |.tuple xs=>noLists xs
 |.dict _=>ez
 |_=>ej
noncomputable def noLists:List Ŧ->Bool
 |[]=>ej
 |x::xs=>NT x&&noLists xs
end
variable {a:È} {xs:List V}
def fR.keep{K:Frag}{zs:List V}(k:fc r H H')(hr:H r=eh (.lst zs))(h:fR K H a xs):fR K H' a xs:=by
 rcases h with(h|⟨o,h⟩)|h
 .exact .inl (.inl<|k _ _ h<|Bc h hr<|by intro z;cases z)
 .exact .inl (.inr ⟨o,k _ _ h<|Bc h hr<|by intro z;cases z⟩)
 .exact .inr h
def fQ.keep{K:Frag}(k:fc r H H')(hr:a≠r)(h:fQ K H a xs):fQ K H' a xs:=by
 rcases h with(h|⟨o,h⟩)|h
 .exact .inl<|.inl<|k _ _ h hr
 .exact .inl<|.inr ⟨o,k _ _ h hr⟩
 .exact .inr h
mutual
theorem IsD.keep{K:Frag}{r:È}{H H':Hp}{zs:List V}(k:fc r H H')(hr:H r=eh (.lst zs)):∀{v:V}{d:Ŧ},IsD K H v d->NT d=ej->IsD K H' v d
 |_,_,.non,_=>.non
 |_,_,.bl b,_=>.bl b
 |_,_,.int i,_=>.int i
 |_,_,.str x,_=>.str x
 |_,_,.lst q qs,h=>by cases h
 |_,_,.tup q qs,h=>.tup (q.keep k hr)<|IsDs.keep k hr qs h
theorem IsDs.keep{K:Frag}{r:È}{H H':Hp}{zs:List V}(k:fc r H H')(hr:H r=eh (.lst zs)):∀{vs:List V}{ds:List Ŧ},IsDs K H vs ds->noLists ds=ej->IsDs K H' vs ds
 |_,_,.nil,_=>.nil
 |_,_,.cons q qs,h=>by have h':=Ϛ.mp (show(NT _&&noLists _)=ej from h);exact .cons (IsD.keep k hr q h'.1)<|IsDs.keep k hr qs h'.2
end
noncomputable abbrev Tie:=Int×Int×Int
abbrev QR(t:Tie):Ŧ:=.tuple [.int t.1,.int t.2.1,.int t.2.2]
def IsD.tie{K:Frag}{x y c:Int}(h:fR K H a [.int x,.int y,.int c]):IsD K H (.ref a)<|QR (x,y,c):=.tup h (.cons (.int x)<|.cons (.int y)<|.cons (.int c) .nil)
variable {c:Bool} {A:Prop} {B:Prop}
def fH(e:c=ej)(h:A):if c=ej then A else B:=by rw[f6 e];exact h
def fI(e:c=ez)(h:B):if c=ej then A else B:=by rw[e,f7 ü];exact h
structure BrOk(ns:List Int):Prop where
 one:1<=ns.length
 ten:ns.length<=10
 rng:∀n∈ns,0<=n/\n<=999
 nd:ns.Nodup
structure TieOk(ns:List Int)(t:Tie):Prop where
 a:t.1∈ns
 b:t.2.1∈ns
 ne:t.1≠t.2.1
 lo:1<=t.2.2
 hi:t.2.2<=1000
structure TsOk(ns:List Int)(ts:List Tie):Prop where
 few:ts.length<=16
 each:∀t∈ts,TieOk ns t
abbrev mn(x y:Int):Int:=if y<x then y else x
abbrev mx(x y:Int):Int:=if y > x then y else x
abbrev loT(t:Tie):Tie:=(mn t.1 t.2.1,mx t.1 t.2.1,t.2.2)
variable {ns:List Int} {ms:List Int}
def BrOk.perm(h:BrOk ns)(p:ms.Perm ns):BrOk ms:=⟨by rw[p.length_eq];exact h.one,by rw[p.length_eq];exact h.ten,λn hn=>h.rng n<|p.mem_iff.mp hn,p.nodup_iff.mpr h.nd⟩
def TsOk.perm{ts:List Tie}(h:TsOk ns ts)(p:ms.Perm ns):TsOk ms ts:=⟨h.few,λt ht=>let ⟨a,b,c,d,e⟩:=h.each t ht;⟨p.mem_iff.mpr a,p.mem_iff.mpr b,c,d,e⟩⟩
section
variable {X:Cx}(K:Frag) (h:X.K=K)
include h
end
section
variable {prog:à}{w:ó}{A:Ą}{E:Â->Å->Prop}{s:Å}
variable {it:È} {i:Nat} {items:Array Â} {Q:Â->Å->Prop}
def N7{t:È}{x:Â}(bq:s.heap.IsTupleIter it t i)(ht:s.heap.IsTuple t items)(hx:items[i]?=eh x)
  (hQ:∀h',h'.IsTupleIter it t (i+1)->ś it s.heap h'->Q x {s with heap:=h'}):wpAny (Û prog w) A (Builtin.SmallTypes.nextOf<|.ref it) Q E s:=by
 obtain⟨o,ho,hc,hd⟩:=id bq;obtain⟨ot,hot,_,nt,hdt⟩:=ht;unfold Builtin.SmallTypes.nextOf;refine À<|Đ (name:=gg "__next__") bq.typeIs F.slot_tuple_iterator_next<|ĉ F.slot_tuple_iterator_next bq.typeIs F.entry_tuple_iterator_next ?_<|F.args_tuple_iterator_next_1 _;show wpAny _ _ (dq (.ref it) 0 >>= _) _ _ s;refine À<|Ħ ho hd (x:=.ref t) rfl ?_;show wpAny _ _ (if(Value.ref t==Value.none)=ej then _ else _) _ _ s;rw[f7<|show ¬ ((Value.ref t==Value.none)=ej) from ü];show wpAny _ _ (dq (.ref it) 1 >>= _) _ _ s;refine À<|Ħ ho hd (x:=.int i 0) rfl ?_;show wpAny _ _ (ϖ (.ref t) >>= _) _ _ s;refine À<|ŀ hot hdt ?_;simp only[á,hx];refine À (Ĵ ho hd (by simp)<|Æ ⟨x,rfl,Æ<|hQ _ ⟨_,Č _ ho<|ϗ<|ŏ hd _,(ae ..).trans hc,?_⟩<|û ..⟩);rw[ŏ hd];simp[Ğ]
def Kp{t:È}(hh:A.handled=ei)(bq:s.heap.IsTupleIter it t i)(ht:s.heap.IsTuple t items)(hx:items[i]?=ei)
  (hE:∀h' e,Heap.ExtBut it s.heap h'->(∃o,h'.get? e=eh o/\o.cls=.type "StopIteration")->E (.ref e) {s with heap:=h'}):wpAny (Û prog w) A (Builtin.SmallTypes.nextOf<|.ref it) Q E s:=by
 obtain⟨o,ho,hc,hd⟩:=id bq;obtain⟨ot,hot,_,nt,hdt⟩:=ht;unfold Builtin.SmallTypes.nextOf;refine À<|Đ (name:=gg "__next__") bq.typeIs F.slot_tuple_iterator_next<|ĉ F.slot_tuple_iterator_next bq.typeIs F.entry_tuple_iterator_next ?_<|F.args_tuple_iterator_next_1 _;show wpAny _ _ (dq (.ref it) 0 >>= _) _ _ s;refine À<|Ħ ho hd (x:=.ref t) rfl ?_;show wpAny _ _ (if(Value.ref t==Value.none)=ej then _ else _) _ _ s;rw[f7<|show ¬ ((Value.ref t==Value.none)=ej) from ü];show wpAny _ _ (dq (.ref it) 1 >>= _) _ _ s;refine À<|Ħ ho hd (x:=.int i 0) rfl ?_;show wpAny _ _ (ϖ (.ref t) >>= _) _ _ s;refine À<|ŀ hot hdt ?_;simp only[á,hx];refine À (Θ<|À<|Ĵ ho hd (by simp) ?_);show wpAny _ _ (cg (.type "StopIteration") [] >>= _) _ _ _;refine À ?_;simp only[cg,newTuple];refine À (þ (À (m:=Ź _ _)<|ϰ (a:=Value.none) (by first|rfl|(simp only[Ź];rfl))<|þ ?_<|by size_fits)<|by size_fits);simp only[raiseNew];refine À<|cX ?_
 first
 |rw[show A.in1.handled=ei from hh]
 |rw[hh]
 exact À<|Æ<|wpAny_throw<|hE _ _ (((û ..).extBut.push _).push _) ⟨_,Ñ _ rfl,rfl⟩
end
variable {prog:à} {w:ó} {A:Ą}
def IZ(hh:A.handled=ei)(it t:È)(Ŵ:t≠it)(items:Array Â) :
  Draws prog w A it [it,t] items.size (λi v=>items[i]?=eh v) (λi h=>h.IsTupleIter it t i/\h.IsTuple t items) where
 live:=λ_ _ st=>let ⟨o,ho,_⟩:=st.1;⟨o,ho⟩
 frame:=λ_ _ _ st hk=>⟨st.1.at λo e=>hk it (by simp) o e,st.2.at λo e=>hk t (by simp) o e⟩
 item:=λi s Q E hi st hQ=>N7 st.1 st.2 (x:=items[i]) (by simp[hi]) λh' hit' hs'=>hQ _ h' s.toks (by simp[hi]) ⟨hit',st.2.extBut hs'.extBut Ŵ⟩ hs'
 done:=λs Q E st hE=>Kp hh st.1 st.2 (by simp) hE
open AutoSeq1 (wpAny_loadPart') in
def LA(l:È)(items:Array Â)(n:Nat)(dct:Option È)(sl:Array<|Option Â) :
  Meets (Builtin.«enumerate.__new__» ⟨[.type "enumerate",.ref l],[]⟩) (λ_ R s=>s.heap.get? l=eh { cls:=.type "tuple",dict:=dct,data:=.seq items n,slots:=sl }/\
    R (.ok<|.ret<|.ref (s.heap.push {cls:=.type "tuple_iterator",data:=.fields #[.ref l,.int 0 0]}).objs.size)
      { s with heap:=(s.heap.push { cls:=.type "tuple_iterator",data:=.fields #[.ref l,.int 0 0] }).push { cls:=.type "enumerate",data:=.fields #[.none,.bool ez,.ref s.heap.objs.size,Ğ 0,.none,.none] } }) :=
 .of_wp λprog w A R s h=>by
  obtain⟨hp,g,d,tk,os⟩:=s;obtain⟨hl,h⟩:=h;have hsub:=sub_enumerate;have hL:Heap.IsTuple (Shared.heap ⟨hp,g,d,tk,os⟩) l items:=⟨_,hl,rfl,n,rfl⟩
  wp_walk using Ę hl
  refine wpAny_stack_any λst=>Æ ?_;split
  .rename_i c _ _ _ _ _;cases (c==Value.type "enumerate")<;>(wp_walk using Ę hl,ao hL;exact⟨_,rfl,h⟩)
  .wp_walk using Ę hl,ao hL;exact⟨_,rfl,h⟩
def N1{E:Â->Å->Prop}{s:Å}{l:È}{items:Array Â}{Q:Â->Å->Prop}(hL:s.heap.IsTuple l items)
  (h:∀h',IsEnum h' (s.heap.objs.size+1) s.heap.objs.size 0 .none->h'.IsTupleIter s.heap.objs.size l 0->(∀b o,s.heap.get? b=eh o->h'.get? b=eh o)->Q (.ref<|s.heap.objs.size+1) {s with heap:=h'}) :
  wpAny (Û prog w) A (call (.type "enumerate") [.ref l]) Q E s:=by
 obtain⟨⟨c,dct,dt,sl⟩,hl,hc,n,hd⟩:=hL;simp only at hc hd;subst hc hd;refine callType_new F.called_enumerate (by decide) (F.typeCall_enumerate_1 _) (F.newCall_enumerate_1 _) (λobj=>F.args_object_init_2 obj _) F.entry_enumerate_new (LA l items n dct sl) ⟨hl,?_⟩;have hz:(s.heap.push {cls:=.type "tuple_iterator",data:=.fields #[.ref l,.int 0 0]}).objs.size=s.heap.objs.size+1:=Ŭ ..;have hg:=Ñ (s.heap.push {cls:=.type "tuple_iterator",data:=.fields #[.ref l,.int 0 0]}) (o:={cls:=.type "enumerate",data:=.fields #[.none,.bool ez,.ref s.heap.objs.size,Ğ 0,.none,.none]}) rfl;rw[hz]at hg;show _/\_;rw[hz];exact⟨⟨_,hg,rfl⟩,h _ hg ⟨_,Ä _<|Ñ _ rfl,rfl,rfl⟩ λb o x=>Ä _<|Ä _ x⟩
section
variable {X:Cx}{Á:List (È×Obj)}{σ:St}{H:Hp}{s:Å}{h':Ă}
def Inv.turnedL{t':Nat}{ch:List È}(I:Inv X Á σ H s)(k:∀b o,b∉ch->s.heap.get? b=eh o->h'.get? b=eh o)(hc:∀b∈ch,Wd X Á H b):Inv X Á σ H {s with heap:=h',toks:=t'}:=by
 have nit:∀b u,H b=eh u->b∉ch:=λb u e z=>by rw[(hc b z).1]at e;cases e
 refine I.step (g':=s.gens) (d':=s.drawn) (ch:=ch) (λb hb=>?_) (λb o _ _ hcb e _=>k b o hcb e) (λb o _ _ hcb e _=>⟨o.slots,k b o hcb e⟩) (λ_ _ _ _ n=>n)
  (λb o hcb e=>⟨o,k b o hcb e⟩) (λ_ _ e=>e) (λ_ _ _ e=>e) (λb ps e=>⟨#[],by rw[e];simp⟩) (λm hm=>?_) (λb u e=>?_) I.bare
 .obtain⟨_,q2,_,q4,q5,q6⟩:=hc b hb;exact⟨q4,q2,q5,q6⟩
 .obtain⟨o,es,ep,ho,r⟩:=hm;exact⟨o,es,ep,k _ o (λz=>(hc _ z).2.1 rfl) ho,r⟩
 .refine(I.hok b u e).stay (λc v hcc q=>k c v ?_ q) (λ_ q=>q) λ_ _ q=>q;rcases hcc with z|z
  .rw[z];exact nit b u e
  .exact nit c _ z
def Inv.track{T:È}{o:HO}(I:Inv X Á σ H s)(hT:H T=ei)(h0:X.s₀.heap.objs.size<=T)(hL:T≠X.env.locals)(aH:∀x c,X.env.cells.lookup x=eh c->c≠T)(hp:∀p∈X.pn++Á,p.1≠T)
  (new:eQ X.prog X.w (upd H T o) s.heap T o):Inv X Á σ (upd H T o) s:=by
 have neT:∀b ob,X.s₀.heap.get? b=eh ob->b≠T:=λb ob e=>ä<|ã (Ó e) h0;refine⟨I.ok,I.os,I.bare,⟨I.base.keep,I.base.slot,λb ob e n hx=>?_,I.base.there,λb xs e=>?_,λb ob xs e=>?_,λb ps e=>?_⟩,I.loc,I.cell,?_,λx c e=>?_,λp hpp=>?_,I.hok.track hT new,I.len⟩
 .rw[eB<|neT b ob e];exact I.base.free b ob e n hx
 .have q:=I.base.tups b xs e;rw[eB<|Zg q hT];exact q
 .have q:=I.base.frzs b ob xs e;rw[eB<|Zg q hT];exact q
 .obtain⟨m,q⟩:=I.base.tbls b ps e;exact⟨m,by rw[eB<|Zg q hT];exact q⟩
 .rw[eB hL.symm];exact I.free
 .rw[eB<|aH x c e];exact I.freeC x c e
 .obtain⟨a,b,c,d,e⟩:=I.pin p hpp;exact⟨a,by rw[eB<|hp p hpp];exact b,c,d,e⟩
end
abbrev Ite(K:Frag)(a:È):It :=
 ⟨λi H=>∃xs x,fR K H a xs/\xs[i]?=eh x,λi H v H'=>∃p,v=.ref p/\H p=ei/\∀xs x,fR K H a xs->xs[i]?=eh x->H'=upd H p (.tup [.int i,x]),λi H=>∃xs,fR K H a xs/\xs.length<=i⟩
variable {es:List Expr} {kk:Nat} {tp:Pos}
def Od{P:à}{K:Frag}(a it e:È)(Ŵ:e≠it) :
  Turn P w K (.Tuple es kk tp) (Ite K a) [e,it] e (λi h=>(∃ϩ,IsEnum h e it i ϩ)/\h.IsTupleIter it a i) where
 mem:=by simp
 obj:=λi h st b hb=>by
  obtain⟨⟨ϩ,h1⟩,o2,e2,_,d2⟩:=st;rcases Ç.mp hb with q|q
  .subst q;exact⟨_,h1,λv z=>by cases z⟩
  .have q:b=it:=by simpa using q
   subst q;exact⟨o2,e2,λv z=>by rw[d2]at z;cases z⟩
 keep:=λi h h' st k=>⟨let ⟨ϩ,h1⟩:=st.1;⟨ϩ,k e (by simp) _ h1⟩,st.2.at λo q=>k it (by simp) o q⟩
 item:=by
  intro X hP hw hK hc i Á s σ H E I hf st hg;subst hP hw hK;obtain⟨xs,x,hq,hx⟩:=hg;obtain⟨ñ,rv,pl,hz⟩:=I.tuple hq;obtain⟨u,hu,ru⟩:=rv.get hx;have hsz:=rv.length;have hi:i<ñ.toArray.size:=by rw[Í];exact(Ð.mp hu).1
  obtain⟨⟨ϩ,h1⟩,h2⟩:=st;have hfi:=hf it (by simp);have hai:a≠it:=λz=>by obtain⟨o,ho,aH,_⟩:=h2;obtain⟨o',al,hcl',_⟩:=pl;rw[z,ho]at al;cases al;rw[aH]at hcl';exact gc (Ϲ hcl') (by decide)
  have hae:e∉[it,a]:=λz=>by
   rcases Ç.mp z with z|z
   .exact Ŵ z
   .have z:e=a:=by simpa using z
    obtain⟨o',al,hcl',_⟩:=pl;rw[<-z,h1]at al;cases al;exact gc (Ϲ hcl') (by decide)
  refine wpAny_pyNext_enum_itemD (IZ (A:=X.A.in1) (I.ok.hd hc) it a hai ñ.toArray) h1 ⟨h2,pl⟩ hi Ŵ hae λv h3 tk hv hout hst3 hT _ hk=>?_;have ev:v=u:=by
   have hv:ñ[i]?=eh v:=by simpa using hv
   rw[hu]at hv;exact(í hv).symm
  subst ev;have nT:∀b∈[e,it],s.heap.objs.size≠b:=λb hb z=>by
   rcases Ç.mp hb with q|q
   .exact gc (Ó h1) (by rw[<-q,<-z];exact ě _)
   .have q:b=it:=by simpa using q
    obtain⟨o,ho,_⟩:=h2;exact gc (Ó ho) (by rw[<-q,<-z];exact ě _)
  have bG:=I.fpOk (H':=H) (Ì s.heap.objs.size) I.fresh;refine⟨.ref s.heap.objs.size,rfl,wpAny_letOwnedTupleGo_enum hout λh4 he4 hs4=>?_⟩;have I4:Inv X Á σ H {s with heap:=h4,toks:=tk+1}:=I.turnedL (t':=tk+1) (ch:=[e,it]) (λb o hb q=>hs4.extBut b o (λz=>hb<|by simp[z])<|hk b o (λz=>hb<|by simp[z]) (λz=>hb<|by simp[z]) q) hf;have hT4:h4.get? s.heap.objs.size=eh {cls:=.type "tuple",data:=.seq #[.int i tk,v]}:=hs4.extBut _ _ (nT e<|by simp) hT;obtain⟨f0,f1,f2,f3,f4,f5⟩:=bG;have I5:Inv X Á σ (upd H s.heap.objs.size<|.tup [.int i,x]) {s with heap:=h4,toks:=tk+1}:=I4.track f0 I.sz f1 f4 f5 ⟨by show 2<=Ù;decide,[.int i tk,v],.cons ⟨tk,rfl⟩<|.cons ru .nil,_,hT4,rfl,_,rfl⟩;refine⟨.ref s.heap.objs.size,_,I5,rfl,⟨s.heap.objs.size,rfl,f0,λys y hy hyi=>?_⟩,⟨⟨v,by simpa using he4⟩,hst3.1.at λo q=>hs4.extBut it o (Ne.symm Ŵ) q⟩,λb hb=>?_⟩
  .have ey:ys=xs:=I.tuple_inj hy hq;rw[ey,hx]at hyi;rw[í hyi]
  .rw[eB (nT b hb).symm];exact(hf b hb).1
 done:=by
  intro X hP hw hK hc i Á s σ H E I hf st hg;subst hP hw hK;obtain⟨xs,hq,hx⟩:=hg;obtain⟨ñ,rv,pl,hz⟩:=I.tuple hq;have hl:=rv.length;obtain⟨⟨ϩ,h1⟩,h2⟩:=st;have hai:a≠it:=λz=>by obtain⟨o,ho,aH,_⟩:=h2;obtain⟨o',al,hcl',_⟩:=pl;rw[z,ho]at al;cases al;rw[aH]at hcl';exact gc (Ϲ hcl') (by decide)
  have hT:s.TypeIs (.ref e) "enumerate":=⟨_,h1,rfl⟩
  unfold ŵ;refine À<|aj<|Đ (name:=gg "__next__") hT F.slot_enumerate_next<|ĉ F.slot_enumerate_next hT F.entry_enumerate_next ?_<|F.args_enumerate_next_1 _;show wpAny _ _ (dq (.ref e) 2 >>= _) _ _ _;refine À<|Ħ h1 rfl (x:=.ref it) rfl ?_;refine À (Kp (A:=X.A.in1) (I.ok.hd hc) h2 pl (by simp;lia) λh' x he' hx'=>?_);obtain⟨o,ho,aH⟩:=hx';refine À<|Ϙ (T:="StopIteration") (b:=ej) ⟨o,ho,aH⟩ cj<|Æ ⟨rfl,?_⟩;exact I.turnedL (t':=s.toks) (ch:=[it]) (λb ob hb q=>he' b ob (λz=>hb<|by simp[z]) q) λb hb=>hf b<|Ü _ hb
 self:=λA i s Q E st h=>by obtain⟨⟨ϩ,h1⟩,_⟩:=st;exact wpAny_pyIter_enum h1 h
section
variable {X:Cx}
abbrev GU(K:Frag)(ta:TA):TI:=λσ H R=>ta σ H λvs H1=>∃a,vs=[.ref a]/\(∃xs,fR K H1 a xs)/\R (Ite K a) H1
def A4{p ç:Pos}{e:Expr}{ta:TA}(hg:Gl X "enumerate")(hm:X.mg "enumerate" = ei)(ha:PA X [e] ta)(hs:Ô [e] X.env=[(ez,eval e X.env)]:=by rfl) :
  PI X (.Tuple es kk tp) (.Call (.Name "enumerate" p) [e] [] ç) (GU X.K ta):=by
 intro Á s σ H R I h;refine Call_ (Yx (u:=.type "enumerate") I hg hm (by kernel_rfl)<|PyProof.Rows.callWith_type1 (T:="enumerate") (thn (ha ç Á s σ H _ I h) λus s1 ⟨vs,H1,I1,r1,q1⟩=>?_) hs rfl);obtain⟨a,e1,⟨xs,hq⟩,q⟩:=q1;subst e1;obtain⟨u,rfl,ru⟩:=ZT r1;cases ru;obtain⟨ñ,rv,pl,hz⟩:=I1.tuple hq;refine N1 pl λh2 he2 dM hk2=>?_;have I2:Inv X Á σ H1 {s1 with heap:=h2}:=I1.kept (t':=s1.toks) hk2;refine wpAny_pyIter_enum he2 ⟨s1.heap.objs.size+1,[s1.heap.objs.size+1,s1.heap.objs.size],_,_,H1,rfl,I2,Od a s1.heap.objs.size (s1.heap.objs.size+1)<|ş<|ĭ _,⟨⟨_,he2⟩,dM⟩,λb hb=>?_,q⟩;have bj:s1.heap.objs.size<=b:=by
  rcases Ç.mp hb with z|z
  .rw[z];exact Ń _
  .have z:b=s1.heap.objs.size:=by simpa using z
   rw[z];exact Ì _
 exact I1.fpOk bj<|I1.hok.fresh bj
end
end L2
namespace L2
open PySem PySem.Spec PyProof.Rows
open PySem.Builtin PySem.Builtin.Str
noncomputable abbrev TJ:=St->Hp->Str->(Str->Hp->Prop)->Prop
abbrev PJ(X:Cx)(vs:List Expr)(t:TJ):Prop :=
 ∀(Á:List<|È×Obj) (s:Å) (σ:St) (H:Hp) (Ĭ:Str) (Q:Str->Hp->Prop),Inv X Á σ H s->t σ H Ĭ Q->
  Joins (Û X.prog X.w) X.A X.xe (ck vs X.env) Ĭ (λout s1=>∃H1,Inv X Á σ H1 s1/\out.length<=Ù/\Q out H1) s
abbrev Rc:TJ:=λ_ H Ĭ Q=>Ĭ.length<=Ù/\Q Ĭ H
abbrev PH(te:TE)(tr:TJ):TJ:=λσ H Ĭ Q=>te σ H λx H1=>∃y,x=.str y/\(Ĭ++y).length<=Ù/\tr σ H1 (Ĭ++y) Q
section
variable {X:Cx}{e:Expr}{es:List Expr}{te:TE}{tr:TJ}{ç:Pos}
def pj_nil:PJ X [] Rc:=λÁ s σ H Ĭ Q I h=>⟨H,I,h.1,h.2⟩
def EM(he:PE X e te)(hr:PJ X es tr)(hs:ck (e::es) X.env=eval e X.env::ck es X.env:=by rfl):PJ X (e::es)<|PH te tr:=by intro Á s σ H Ĭ Q I h;rw[hs];show wpAny _ _ _ _ _ _;refine thn (he Á s σ H _ I h) λv s1 ⟨x,H1,I1,r1,y,e1,hz,q1⟩=>?_;subst e1;obtain⟨t,rfl⟩:=r1;exact⟨y,t,rfl,hz,hr Á s1 σ H1 (Ĭ++y) Q I1 q1⟩
def Joins.imp{M:Model}{A:Ą}{E:Â->Å->Prop}:∀{ps:List (Sem Â)}{Ĭ:Str}{Q Q':Str->Å->Prop}{s:Å},(∀o s,Q o s->Q' o s)->Joins M A E ps Ĭ Q s->Joins M A E ps Ĭ Q' s
 |[],_,_,_,_,f,h=>f _ _ h
 |_::_,_,_,_,_,f,h=>thn h λv s1 ⟨y,t,e,hz,hr⟩=>⟨y,t,e,hz,Joins.imp f hr⟩
end
abbrev Wr(x:Str):List Nat:=x.cps.toList
abbrev dg(n:Int):Str:=gg<|toString n
abbrev UJ(m:Nat):List Nat:=(Nat.toDigits 10 m).map Ō
def BE(m:Nat):Wr (dg (m:Int))=UJ m:=PySem.W.KIN.signs_num m
abbrev GP(m:Nat):Bool:=gf (1<=(UJ m).length)&&gf ((UJ m).length<=4)&&(UJ m).all (λc=>gf (48<=c)&&gf (c<=57))&&(if m=0 then UJ m==[48]else(UJ m).head? != eh 48)
def EK:(List.range 1001).all GP=ej:=by decide +kernel
structure FigOk(n:Int):Prop where
 one:1<=(Wr<|dg n).length
 four:(Wr<|dg n).length<=4
 fig:∀c∈Wr (dg n),48<=c/\c<=57
 nought:n=0->Wr (dg n)=[48]
 first:n≠0->(Wr<|dg n).head?≠eh 48
def HP{n:Int}(h0:0<=n)(h1:n<=1000):FigOk n:=by
 obtain⟨m,rfl⟩:∃m:Nat,n=(m:Int):=⟨n.toNat,by lia⟩
 have h:=ò.mp EK m (ū.mpr<|by lia);unfold GP at h;simp only[bAq,gb]at h;obtain⟨⟨⟨a,b⟩,c⟩,d⟩:=h;rw[<-BE]at a b c d;refine⟨a,b,λk hk=>?_,λe=>?_,λe=>?_⟩
 .have:=ò.mp c k hk;simpa using this
 .have e:m=0:=by lia
  rw[f6 e]at d;simpa using d
 .have e:¬ m=0:=by lia
  rw[f7 e]at d;simpa using d
abbrev wT:Str:="tie"
abbrev nl:Str:="\n"
abbrev fl(ls:List Str):List Nat:=(ls.map λl=>Wr l++[10]).flatten
structure fb(bs:List Int)(ts:List Tie):Prop where
 br:BrOk bs
 ti:TsOk bs ts
 so:sortI bs=bs
 lo:ts.map loT=ts
variable {n:Int}
def BrOk.fig{bs:List Int}(h:BrOk bs)(hn:n∈bs):FigOk n:=HP (h.rng n hn).1 (by have:=(h.rng n hn).2;lia)
def FigOk.no(h:FigOk n){c:Nat}(hc:c<48):c∉Wr (dg n):=λm=>by have:=(h.fig c m).1;lia
end L2
namespace L2
open PySem PySem.Spec PyProof.Rows
variable {P:à} {w:ó} {H:Hp} {h:Ă} {a:È}
def eQ.obj{o:HO}(x:eQ P w H h a o):∃u,h.get? a=eh u:=by
 cases o with
 |lst xs=>obtain⟨_,_,_,_,e⟩:=x;exact⟨_,e⟩
 |tup xs=>obtain⟨_,_,_,ob,e,_⟩:=x;exact⟨_,e⟩
 |dK kvs=>obtain⟨_,_,_,_,o,_,_,e,_⟩:=x;exact⟨_,e⟩
 |dT kvs=>obtain⟨_,_,_,_,o,_,_,e,_⟩:=x;exact⟨_,e⟩
 |set S n=>obtain⟨o,_,_,_,e,_⟩:=x;exact⟨_,e⟩
 |ins C dx fs=>obtain⟨_,_,_,e,_⟩:=x;exact⟨_,e⟩
 |own y=>exact x
 |xd fs=>obtain⟨_,⟨_,_,_,e,_⟩,_⟩:=x;exact⟨_,e⟩
 |rng lo hi=>obtain⟨_,_,_,e⟩:=x;exact⟨_,e⟩
 |frz ob u=>exact⟨_,x.1⟩
 |tbl ps=>exact⟨_,(show h.get? a=eh _ from x)⟩
 |met f y=>exact⟨_,(show h.get? a=eh _ from x)⟩
 |ext φ=>exact x.2.1
def HOk.none_of(x:HOk P w H h)(e:h.get? a=ei):H a=ei:=by
 cases q:H a with
 |none=>rfl
 |some u =>obtain⟨ob,z⟩:=(x a u q).obj;rw[e]at z;cases z
abbrev EA(h:Ă)(a:È)(cls:Â)(T:Option È):Prop :=
 ∃oe vs a0,h.get? a=eh oe/\oe.cls=cls/\oe.data=.fields vs/\vs[0]?=eh a0/\
  match T with
  |none=>vs[1]?=eh .none
  |some T=>vs[1]?=eh (.ref T)/\T≠a/\∃oT ts fl,h.get? T=eh oT/\oT.data=.fields ts/\ts[3]?=eh fl
structure Fl(P:à)(w:ó)(l:List Env)(H:Hp)(s:Å)(H':Hp)(a:È)(cls:Â)(s':Å):Prop where
 os:s'.os=s.os
 bare:Τ s'.gens
 un:Un (frs l) [] H H' s.heap s'.heap
 hok:HOk P w H' s'.heap
 na:s.heap.get? a=ei
 ha:H' a=ei
 ex:∃T,EA s'.heap a cls T/\∀t,T=eh t->s.heap.get? t=ei/\H' t=ei
abbrev CX1(P:à)(w:ó):CXT:=λl H s E e s'=>∃a cls H',e=.ref a/\Fl P w l H s H' a cls s'/\E cls ei H'
abbrev XW(X:Cx)(E:XK):Prop:=∀(Á:List<|È×Obj) (σ:St) (H:Hp) (s:Å) (H':Hp) (a:È) (cls:Â) (s':Å),
 Inv X Á σ H s->Fl X.prog X.w X.stack H s H' a cls s'->E cls ei H'->X.xe (.ref a) s'
def XW.passes{X:Cx}{E:XK}(h:XW X E):Y5 (CX1 X.prog X.w) X E:=λÁ σ H s e s' I ⟨a,cls,H',z,f,q⟩=>by subst z;exact h Á σ H s H' a cls s' I f q
section
variable {M:Model}{A:Ą}{E:Â->Å->Prop}{s:Å}{B:Ă}{env:Env}{outer:List Env}{L a:È}{cls:Â}{T:Option È}{Q:Unit->Å->Prop}
abbrev YX(h:Ă)(l:List Env)(a:È)(T:Option È):Ă:=PySem.W.hideAll h<|a::(T.toList++frs l)
def YV(h:Ă)(l:List Env)(a:È)(T:Option È):(YX h l a T).StaysIn h:=λb o e=>PySem.W.of_hideAll _ e
def W2{l:List Env}(a:È)(T:Option È)(hl:h.FunFrames B l):h.FunFrames (YX h l a T) l :=
 PySem.W.funFrames_hide hl λe he b hb=>Ü _<|É _<|μ.mpr ⟨e,he,hb⟩
def Ur(h:Ă)(l:List Env)(a:È)(T:Option È):(YX h l a T).get? a=ei:=PySem.W.hideAll_none _ ì
def Uu(h:Ă)(l:List Env)(a t:È):(YX h l a<|eh t).get? t=ei:=PySem.W.hideAll_none _ (Ü _<|Ö _<|by simp)
def Ao(bG:A.frames=eh (env::outer))(hf:env.frame=eh L)(hl:s.heap.FunFrames B<|env::outer)(hx:EA s.heap a cls T)
  (fin:∀h' a0,Heap.NotedW (YX s.heap (env::outer) a T) (env::outer) a cls a0 (Ğ L) s.heap h'->Q () {s with heap:=h'}):wpAny M A (be (.ref a) env) Q E s:=by
 obtain⟨oe,vs,a0,he,hc,hd,h0,ht⟩:=hx;have fin:=λh'=>fin h' a0;cases T with
 |none =>subst hc;unfold be;simp only[hf];refine À<|Ħ he hd ht ?_;rw[f7<|by decide];exact wpAny_entryW bG (W2 a ei hl) hf he (YV _ _ _ _) (Ur _ _ _ _) hd (ĸ.mp ht).1 h0 fin
 |some t =>
  obtain⟨h1,Ŵ,oT,ts,fl,e1,e2,e3⟩:=ht;by_cases c:fl=Ğ L
  .subst c;have tr:s.heap.TracedAtW (YX s.heap (env::outer) a<|eh t) a cls a0<|Ğ L:=⟨oe,vs,t,oT,ts,he,⟨hc,h0⟩,hd,h1,Uu _ _ _ _,Ŵ,e1,e2,e3⟩
   exact wpAny_noteFrame_againW hf tr<|fin _ ⟨YV _ _ _ _,W2 a (eh t) hl,tr,λb o e nf=>⟨o.slots,e⟩⟩
  .subst hc;unfold be;simp only[hf];refine À<|Ħ he hd h1 ?_;rw[f6<|by simp];refine À<|Ħ e1 e2 e3 ?_;rw[f7<|by simpa using c];refine À<|Ĵ e1 e2 (ĸ.mp e3).1 ?_;have off:∀b,b≠t->(s.heap.update t (Ι (·.setIfInBounds 3 Value.none))).get? b=s.heap.get? b:=λb hb=>ë _ _ hb.symm;have nr:∀b o,s.heap.get? b=eh o->(∀vs,o.data≠.fields vs)->b≠t:=λb o hb nf z=>by
    rw[z,e1]at hb;cases hb;exact nf ts e2
   have bn:=Uu s.heap (env::outer) a t;exact wpAny_entryW bG ((W2 a (eh t) hl).of_keeps λb o hb nf=>⟨o,(off b<|nr b o hb nf).trans hb,rfl⟩) hf ((off a Ŵ.symm).trans he) (λb o hbo=>(off b λz=>by rw[z,bn]at hbo;cases hbo).trans<|YV _ _ _ _ b o hbo) (Ur _ _ _ _) hd (ĸ.mp h1).1 h0 λh' ⟨x1,x2,x3,x4⟩=>fin h' ⟨x1,x2,x3,λb o hb nf=>x4 b o ((off b<|nr b o hb nf).trans hb) nf⟩
def AH(bG:A.frames=eh (env::outer))(hf:env.frame=eh L)(hl:s.heap.FunFrames B<|env::outer)(hx:EA s.heap a cls T)
  (h:∀h' a0,dr (YX s.heap (env::outer) a T) (env::outer) a cls a0 s.heap h'->Q () {s with heap:=h'}):wpAny M A (be (.ref a) env) (λ_ s2=>wpAny M A (setFlight (.ref a) ei) Q E s2) E s :=
 Ao bG hf hl hx λh' a0 ⟨k1,k2,k3,k4⟩=>wpAny_setFlight_noneW k1 k2 k3 λh2 j1 j2 j3 j4=>h h2 a0 ⟨j1,j2,j3,λb o e nf=>by
   obtain⟨sl,e2⟩:=k4 b o e nf
   exact⟨sl,j4 b _ e2 nf⟩⟩
def Ow(bG:A.frames=eh (env::outer))(hf:env.frame=eh L)(hl:s.heap.FunFrames B<|env::outer)(hx:EA s.heap a cls T)
  (h:∀h' a0,dr (YX s.heap (env::outer) a T) (env::outer) a cls a0 s.heap h'->Q () {s with heap:=h'}):wpAny M A (leaving env<|.ref a) Q E s:=À<|AH bG hf hl hx h
end
variable {l:List Env} {H':Hp} {s:Å} {s':Å} {cls:Â} {a0:Â} {h':Ă} {B:Ă} {T:Option È}
def Fl.noted{fl:Â}(f:Fl P w l H s H' a cls s')(hT:∀t,T=eh t->s.heap.get? t=ei/\H' t=ei)
  (hl:s'.heap.FunFrames B l) (bG:∀b∈frs l,H' b=ei) (z:Heap.NotedW (YX s'.heap l a T) l a cls a0 fl s'.heap h'):Fl P w l H s H' a cls {s' with heap:=h'}:=by
 obtain⟨k1,k2,k3,k4⟩:=z;have inb:∀b o,s'.heap.get? b=eh o->b≠a->(∀t,T=eh t->b≠t)->b∉frs l->h'.get? b=eh o:=λb o e na nt nf=>k1 b o (PySem.W.hideAll_get _ e (by
   intro m
   rcases Ç.mp m with m|m
   . exact na m
   . rcases å.mp m with m|m
     . cases T with
       |none=>cases m
       |some t=>exact nt t rfl (by simpa using m)
     . exact nf m))
 have slot:∀b o,s'.heap.get? b=eh o->b∈frs l->∃sl,h'.get? b=eh {o with slots:=sl}:=λb o e hb=>by obtain⟨_,o2,e2,nf⟩:=hl.mem hb;rw[e]at e2;cases e2;exact k4 b o e nf
 have ϩ:∀b o,s.heap.get? b=eh o->b≠a/\∀t,T=eh t->b≠t:=λb o e=>⟨(λz=>by rw[z,f.na]at e;cases e),(λt ht z=>by rw[z,(hT t ht).1]at e;cases e)⟩
 refine⟨f.os,f.bare,⟨λb o e n nf _=>?_,λb o e n hb _=>?_,f.un.free,λb o e _=>?_,f.un.tups,f.un.frzs,f.un.tbls⟩,?_,f.na,f.ha,?_⟩
 .exact inb b o (f.un.keep b o e n nf<|by simp) (ϩ b o e).1 (ϩ b o e).2 nf
 .obtain⟨sl,e1⟩:=f.un.slot b o e n hb (by simp);obtain⟨sl',e2⟩:=slot b _ e1 hb;exact⟨sl',e2⟩
 .obtain⟨o1,e1⟩:=f.un.there b o e (by simp);by_cases hb:b∈frs l
  .obtain⟨sl,e2⟩:=slot b _ e1 hb;exact⟨_,e2⟩
  .exact⟨o1,inb b o1 e1 (ϩ b o e).1 (ϩ b o e).2 hb⟩
 .intro b u e;have good:∀c v,H' c=eh v->∀ob,s'.heap.get? c=eh ob->h'.get? c=eh ob:=λc v ec ob eo =>
   inb c ob eo (λz=>by rw[z,f.ha]at ec;cases ec) (λt ht z=>by rw[z,(hT t ht).2]at ec;cases ec) λm=>by rw[bG c m]at ec;cases ec
  refine(f.hok b u e).stay (λc v hc q=>?_) (λ_ q=>q) λ_ _ q=>q;rcases hc with z|z
  .rw[z]at q ⊢;exact good b u e v q
  .exact good c _ z v q
 .obtain⟨oe,vs,t',oT,ts,e1,⟨e2,e3⟩,e4,e5,e6,e7,e8,e9,e10⟩:=k3;refine⟨eh t',⟨oe,vs,a0,e1,e2,e4,e3,e5,e7,oT,ts,fl,e8,e9,e10⟩,λt ht=>?_⟩;cases ht;have hid:∀o,s'.heap.get? t'=eh o->T=eh t':=λo e=>by
   have nin:¬ (t'∉(a::(T.toList++frs l))):=λm=>by have q:(YX s'.heap l a T).get? t'=eh o:=PySem.W.hideAll_get _ e m;rw[e6]at q;cases q
   have m:=Classical.not_not.mp nin;rcases Ç.mp m with m|m
   .exact gc m e7
   .rcases å.mp m with m|m
    .cases T with
     |none=>cases m
     |some t=>rw[show t'=t by simpa using m]
    .obtain⟨_,o2,q,nf⟩:=k2.mem m;rw[e8]at q;cases q;exact gc e9<|nf ts
  constructor
  .cases q:s.heap.get? t' with
   |none=>rfl
   |some o =>obtain⟨o1,q1⟩:=f.un.there t' o q (by simp);have:=(hT t'<|hid o1 q1).1;rw[q]at this;cases this
  .cases q:H' t' with
   |none=>rfl
   |some u =>obtain⟨o1,q1⟩:=(f.hok t' u q).obj;have:=(hT t'<|hid o1 q1).2;rw[q]at this;cases this
def Fl.left(f:Fl P w l H s H' a cls s')(hT:∀t,T=eh t->s.heap.get? t=ei/\H' t=ei)
  (hl:s'.heap.FunFrames B l) (bG:∀b∈frs l,H' b=ei) (z:dr (YX s'.heap l a T) l a cls a0 s'.heap h'):Fl P w l H s H' a cls {s' with heap:=h'}:=f.noted (fl:=.none) hT hl bG z
section
variable {P:à}{w:ó}{K:Frag}{mg:Str->Option Â}{base:Ă}
variable {X:Cx} {H:Hp} {s:Å}
def Inv.raised{Á:List (È×Obj)}{σ:St}{H':Hp}{s':Å}{a:È}{cls:Â}(I:Inv X Á σ H s)(f:Fl X.prog X.w X.stack H s H' a cls s'):Inv X Á σ H' s' :=
 I.call' (ch:=[]) f.os f.un f.hok f.bare (λb z=>gc z<|by simp)
def Oz(ok:X.Ok)(h:X.stack=X.env::X.outer):X.env.frame=eh X.env.locals:=by
 rcases ok.stk with e|e
 .rw[h]at e;exact gc (congrArg List.length e) (by simp)
 .exact e.2
variable {N:List Str} {qual:Str} {f:È}
def Hw{scope:ż}{cd:Â}{A:Ą}{outer:List Env}{E:XK}:XW (JQ (CX1 P w) P w K mg base N qual scope f cd A outer s H E) E:=by
 intro Á σ H2 s2 H' a cls s' I f q;have J:=I.raised f;obtain⟨T,hx,hT⟩:=f.ex;show wpAny _ _ (leaving _ _) _ _ _;refine Ow (outer:=outer) J.ok.frames (Oz J.ok rfl) J.stack hx λh' a0 z=>?_;have f2:=f.left hT J.stack J.stkFree z;have J2:=I.raised f2;have aE:∀b,s2.heap.get? b=ei->s.heap.get? b=ei:=λb e=>by
  cases z:s.heap.get? b with
  |none=>rfl
  |some o =>obtain⟨o',e'⟩:=I.base.there b o z (by intro m;cases m);rw[e]at e';cases e'
 obtain⟨T2,hx2,hT2⟩:=f2.ex;exact⟨a,cls,H',rfl,⟨J2.os,J2.bare,J2.base,J2.hok,aE a f2.na,f2.ha,T2,hx2,λt ht=>⟨aE t (hT2 t ht).1,(hT2 t ht).2⟩⟩,q⟩
def Fun.ok1{x:Str}{st:Ľ}{fd:Ņ}{ps:List Str}{k:Nat}{sp:Sp}(F:Fun K x qual st f fd)(S:FnScope N ps<|Zh st)(len:∀vs H Q E,sp vs H Q E->vs.length=ps.length)
  (bM:∀(ύ:Â) (A:Ą) (outer:List Env) (s:Å) (H:Hp) (vs:List V) (Q:VK) (E:XK),fj k (A.deeper<|ϯ qual (Zh st) s.heap.objs.size f ύ)->sp vs H Q E->
    XW (JQ (CX1 P w) P w K mg base N qual (Zh st) f ύ A outer s H E) E->
    ∃t,PSs (JQ (CX1 P w) P w K mg base N qual (Zh st) f ύ A outer s H E) (ZE st) t/\t { nx:=λ_ H'=>Q .non H',rt:=Q } (start N vs) H):fk P w K mg base (CX1 P w) (k+1) f fd ps sp:=by
 obtain⟨oc,od,kV,doc,pm,an,ύ,ct,osl,rfl,lk,aG⟩:=F.ex;exact Gf lk aG S len λA outer s H vs Q E hr dJ=>bM ύ A outer s H vs Q E hr dJ Hw
end
abbrev XP(X:Cx)(Á:List<|È×Obj)(σ:St)(E:XK)(v:Â)(s':Å):Prop :=
 ∃a cls H1 H' s1,v=.ref a/\Inv X Á σ H1 s1/\Fl X.prog X.w X.stack H1 s1 H' a cls s'/\E cls ei H'
abbrev xcO(a:È)(cls:Â):HO:=.ext λh=>∃o vs,h.get? a=eh o/\o.cls=cls/\o.data=.fields vs
noncomputable abbrev Cx.caught(X:Cx)(a:È):Cx:={X with A:=X.A.mark<|eh<|.ref a,calm:=ez,xe:=λ_ _=>False}
section
variable {X:Cx}{Á:List (È×Obj)}{σ:St}{H H':Hp}{s s':Å}{a:È}{cls:Â}
def Inv.caught(I:Inv X Á σ H s)(a:È):Inv (X.caught a) Á σ H s :=
 ⟨⟨I.ok.mod,I.ok.kind,I.ok.glob,I.ok.blt,I.ok.above,I.ok.inj,I.ok.has,I.ok.cab,λz=>Bool.noConfusion z,I.ok.frames,I.ok.stk,I.ok.exf,I.ok.bs,I.ok.bsz,I.ok.noex,I.ok.exfs,I.ok.funs,I.ok.frf⟩,I.os,I.bare,I.base,I.loc,I.cell,I.free,I.freeC,I.pin,I.hok,I.len⟩
end
end L2
namespace L2
open PySem PySem.Spec PySem.W PySem.Calls PyProof.Rows PySem.Builtin PySem.Builtin.ObjectAttr PySem.Builtin.Getset_descriptor
section
variable {prog:à}{w:ó}{A:Ą}{E:Â->Å->Prop}{K:Frag}{h:Ă}{g:Array bY}{d:Drawn}{t:Nat}{os:OsState}{a C:È}{o:Obj}
structure XCls(K:Frag)(C:È):Prop where
 ga:ϱ K (.ref C) "__getattribute__" = eh (eh<|.builtin "BaseException.__getattribute__")
 gr:ϱ K (.ref C) "__getattr__" = eh ei
 cl:ϱ K (.ref C) "__class__" = eh (eh<|.builtin "object.__class__")
 mo:mroIn K C (.type "object")=eh ej
 mb:mroIn K C (.type "BaseException")=eh ej
 ci:(clsIn K C).isSome=ej
end
end L2
namespace L2
open PySem PySem.Spec PyProof.Rows
section
variable {X:Cx}
def JU:eP X (.type "int") λxs H Q=>∃z n,xs=[.str z]/\PySem.intText? z=eh n/\z.length<=640/\Q (.int n) H:=by intro Á s σ H xs us Q I r h;obtain⟨z,n,rfl,e,hl,q⟩:=h;obtain⟨u,rfl,t,rfl⟩:=ZT r;exact PySem.W.KIN.call_text e hl ⟨.int n,H,I.tok _,⟨_,rfl⟩,q⟩
end
end L2
namespace L2
open PySem PySem.Spec PyProof.Rows
open PySem.Builtin PySem.Builtin.Str
abbrev AK(z:Str)(lo hi:Option Int):Str:=if(υ lo hi 1 z.length).length=z.length then z else⟨((υ lo hi 1 z.length).filterMap (z.cps[·]?)).toArray⟩
def DE(z:Str)(lo hi:Option Int):(AK z lo hi).length<=z.length:=by
 unfold AK;split
 .exact Ì _
 .show((υ lo hi 1 z.length).filterMap (z.cps[·]?)).toArray.size<=_;rw[Í];exact Ý (bx _ _)<|indices_len_le lo hi z.length
section
variable {X:Cx}
abbrev PQ:V->Option Int->Option Int->Hp->VK->Prop:=λx lo hi H Q=>∃z,x=.str z/\z.length<=Ù/\Q (.str<|AK z lo hi) H
def Uj{v:Â}{lo:Option Int}(h:Ϟ v lo):∃l:Option<|Int×Tok,v=partValue l/\l.map (·.1)=lo:=by
 cases h with
 |none=>exact⟨ei,rfl,rfl⟩
 |int i t=>exact⟨eh (i,t),rfl,rfl⟩
def sl_str:SlR X PQ:=by
 intro Á s σ H x v vl vu lo hi sl Q I rx hs pl pu h;obtain⟨z,rfl,hz,q⟩:=h;obtain⟨t,rfl⟩:=rx;refine⟨"str",_,slot_str_getitem.lookup,typeIs_str s z t,?_⟩;obtain⟨l,rfl,el⟩:=Uj pl;obtain⟨u,rfl,eu⟩:=Uj pu;have hs':s.heap.IsSlice sl l u ei:=hs;refine wpAny_getItem_str_slice hs' rfl ?_;have e:sliceMade z t l u ei=if(υ lo hi 1 z.length).length=z.length then .val (.str z t)else .str ⟨((υ lo hi 1 z.length).filterMap (z.cps[·]?)).toArray⟩:=by unfold sliceMade slicePicked;rw[el,eu];simp
 rw[e];have cl:=DE z lo hi;unfold AK at q cl;split
 .rename_i hh;rw[f6 hh]at q;exact⟨.str z,H,I,⟨t,rfl⟩,q⟩
 .rename_i hh;rw[f7 hh]at q cl;exact⟨Ý cl hz,.str _,H,I.tok _,⟨_,rfl⟩,q⟩
end
section
variable {X:Cx}
def Ua(z:Str):∀(n:Nat) (a:Array Nat),((Õ n z.cps).foldl (· ++ ·) a).size=a.size+n*z.cps.size
 |0,a=>by simp
 |n+1,a=>by rw[ċ,Ŀ,Ua z n,Array.size_append,Nat.succ_mul];lia
def fS.ins{xs:List V}{us:List Â}{y:V}{u:Â}(r:fS xs us)(ry:RelV y u)(k:Nat):fS (xs.take k++y::xs.drop k)<|us.take k++u::us.drop k:=(r.take k).append (.cons ry<|r.drop k)
end
end L2
namespace L2
open PySem PySem.Spec PyProof.Rows
section
variable {X:Cx}(K:Frag) (h:X.K=K)
include h
end
end L2
namespace HT
open PySem PyProof.Rows
open PySem.SeqAt
open PySem.AutoSeq1 (wpAny_loadPart')
open PySem.MeetsSeq PySem.MeetsSeq2 PySem.MeetsSeq3
section
variable {prog:à}{w:ó}{A:Ą}{E:Â->Å->Prop}{s:Å}
def getItem_tuple_whole{t sl:È}{items:Array Â}{vl vu:Â}{lo hi:Option Int}{Q:Â->Å->Prop}(ht:ah s.heap t items)(hs:s.heap.IsSliceOf sl vl vu .none)(pl:Ϟ vl lo)(pu:Ϟ vu hi)
  (hw:sIx items.size 0 lo=0/\sIx items.size items.size hi=items.size)
  (h:Q (.ref t) s):wpAny (Û prog w) A (ϝ (.ref t)<|.ref sl) Q E s:=by
 obtain⟨os,hos,hcs,hds⟩:=id hs;have hTs:s.TypeIs (.ref sl) "slice":=⟨os,hos,hcs⟩
 unfold ϝ
 try with_reducible refine ė ?_
 first|refine À (Æ ?_)|skip
 refine À (wpAny_sequenceKey ht.typeIs (by decide) ?_);refine À (Đ (name:=gg "__getitem__") ht.typeIs PyProof.Rows.slot_tuple_getitem
   (ĉ PyProof.Rows.slot_tuple_getitem ht.typeIs entry_tuple_getitem ?_<|args_tuple_getitem _ _))
 show wpAny _ _ (Builtin.Tuple.tupleItemsOf (.ref t) >>= _) _ _ s;refine À<|tupleItemsOf_ ht ?_;refine À<|ϟ hTs ?_;rw[f6<|by decide];refine À<|Yk hs pl pu ?_;have hyes:(((sIx items.size 0 lo:Nat):Int)==0&&(1:Int)==1&&(sIx items.size items.size hi - sIx items.size 0 lo)==items.size)=ej:=by rw[hw.1,hw.2];simp
 show wpAny _ _ (if(((sIx items.size 0 lo:Nat):Int)==0&&(1:Int)==1&&(sIx items.size items.size hi - sIx items.size 0 lo)==items.size)=ej then _ else _) _ _ s;rw[f6 hyes];refine À ?_;unfold Builtin.Tuple.tupleIsExact;refine À<|ϟ ht.typeIs<|Æ ?_;rw[f6<|by decide]
 first
  |exact À<|Æ<|Æ ⟨_,rfl,Æ h⟩
  |exact À<|Θ<|Æ ⟨_,rfl,Æ h⟩
  |exact Æ ⟨_,rfl,Æ h⟩
end
end HT
namespace L2
open PySem PySem.Spec PyProof.Rows
section
variable {X:Cx}
abbrev Qp(K:Frag):V->Option Int->Option Int->Hp->VK->Prop:=λx lo hi H Q=>∃a xs,x=.ref a/\fR K H a xs/\(HT.sIx xs.length 0 lo=0/\HT.sIx xs.length xs.length hi=xs.length)/\Q (.ref a) H
def FR:SlR X<|Qp X.K:=by
 intro Á s σ H x v vl vu lo hi sl Q I rx hs pl pu h;obtain⟨a,xs,rfl,hx,hw,q⟩:=h;cases rx;obtain⟨ñ,r,ht,hz⟩:=I.tuple hx;have hlen:ñ.toArray.size=xs.length:=by rw[Í];exact r.length.symm
 refine⟨"tuple",_,PyProof.Rows.slot_tuple_getitem.lookup,ht.typeIs,?_⟩;exact HT.getItem_tuple_whole ht hs pl pu (by rw[hlen];exact hw) ⟨.ref a,H,I,rfl,q⟩
end
end L2
namespace L2
open PySem PySem.Spec PyProof.Rows
open PySem.Builtin PySem.Builtin.Str
section
variable {X:Cx}
abbrev Hg(z:Str)(n:Nat):Str:=⟨(Õ n z.cps).foldl (· ++ ·) #[]⟩
def KF(z:Array Nat):∀(n:Nat) (a:Array Nat),((Õ n z).foldl (· ++ ·) a).toList=a.toList++(Õ n z.toList).flatten
 |0,a=>by simp
 |n+1,a=>by rw[ċ,Ŀ,KF z n,ċ,ł,Array.toList_append,ı]
abbrev Gx:R2:=λx y H Q=>∃z k,x=.str z/\y=.int k/\2<=k/\k<=1000000/\1<=z.length/\z.length*k.toNat<=1000000/\Q (.str<|Hg z k.toNat) H
def E9:OpR X (ń .Mult) Gx:=by
 intro Á s σ H x y v u Q I rx ry h;obtain⟨z,k,rfl,rfl,h2,h6,h1,hz,q⟩:=h;obtain⟨t,rfl⟩:=rx;obtain⟨t',rfl⟩:=ry;have big:(1000000:Nat)<=Ù:=by decide
 have nb:(k==1||z.length==0)=ez:=by have e1:(k==1)=ez:=beq_false_of_ne (by lia);have e2:(z.length==0)=ez:=beq_false_of_ne (by lia);rw[e1,e2];rfl
 have zl:z.length<=1000000:=by have:z.length*1<=z.length*k.toNat:=du _ (by lia);lia
 have hr:(gf (k < -(2 ^ 63:Int))||gf (k≥2 ^ 63))=ez:=by rw[f8 (by lia),f8<|by lia];rfl
 have hb:¬ k<1->(k==1||z.length==0)=ez->¬ ((z.length:Int) > (2 ^ 63 - 1) / k):=λ_ _=>by have:(1000000:Int)<=(2 ^ 63 - 1) / k:=(Int.le_ediv_iff_mul_le<|by lia).mpr (by lia);lia
 have hl:¬ k<1->(k==1||z.length==0)=ez->tooLong (z.length*k.toNat)=ez:=λ_ _=>by unfold tooLong;exact f8 (by lia)
 refine P.mul_str hr hb hl ?_;rw[f7 (by lia),f7<|by rw[nb];exact ü];have el:(⟨(Õ k.toNat z.cps).foldl (· ++ ·) #[]⟩:Str).length=z.length*k.toNat:=by show((Õ k.toNat z.cps).foldl (· ++ ·) #[]).size=_;rw[Ua,cf z.length];simp[Str.length]
 exact⟨by rw[el];lia,.str _,H,I.tok _,⟨_,rfl⟩,q⟩
variable {c y z a b:Str}{k1 k2 k3:Nat}{p1 p2 p3 p4 pa pb ŉ ř:Pos}
end
end L2
namespace L2
open PySem PySem.Spec PyProof.Rows
section
variable {X:Cx}
abbrev Gn(K:Frag):R2:=λx y H Q=>∃a b ys,x=.ref a/\y=.ref b/\fR K H a []/\fR K H b ys/\Q (.ref b) H
def op_cat0:OpR X (ń .Add)<|Gn X.K:=by
 intro Á s σ H x y v u Q I rx ry h;obtain⟨a,b,ys,rfl,rfl,ha,hb,q⟩:=h;cases rx;cases ry;obtain⟨ñ,r1,p1,_⟩:=I.tuple ha;obtain⟨aS,r2,p2,_⟩:=I.tuple hb;cases r1;obtain⟨⟨cls,dd,data,sl⟩,ho,hc,n,hd⟩:=id p1;obtain⟨⟨cls2,cO,data2,dL⟩,ho2,hc2,n2,bD⟩:=id p2;simp only at hc hd hc2 bD;subst hc hd hc2 bD;exact dU ⟨_,ho,rfl⟩ ⟨_,ho2,rfl⟩ bd cU PySem.F.slot_tuple_add PySem.F.entry_tuple_add (PySem.F.args_tuple_add_2 _ _)
  (tuple_addW0 a b _ _ n n2 dd cO sl dL rfl) ⟨ho,ho2,.ref b,H,I,rfl,q⟩
end
abbrev ZSt(z TI TO i1 i2 a b:È)(i:Nat)(h:Ă):Prop:=IsZip h z TI TO .none/\IsPair h TI (.ref i1) (.ref i2)/\(∃u v,IsPair h TO u v)/\h.IsListIter i1 a i/\h.IsListIter i2 b i
variable {z:È} {i1:È} {i2:È} {a:È} {b:È} {i:Nat} {h:Ă}
def ZSt.keep{TI TO:È}{h':Ă}(st:ZSt z TI TO i1 i2 a b i h)(k:∀c∈[z,TI,TO,i1,i2],∀o,h.get? c=eh o->h'.get? c=eh o):ZSt z TI TO i1 i2 a b i h':=by obtain⟨h1,h2,⟨u,v,h3⟩,h4,h5⟩:=st;exact⟨k z (by simp) _ h1,k TI (by simp) _ h2,⟨u,v,k TO (by simp) _ h3⟩,h4.at λo q=>k i1 (by simp) o q,h5.at λo q=>k i2 (by simp) o q⟩
def ZSt.obj{TI TO:È}(st:ZSt z TI TO i1 i2 a b i h):∀c∈[z,TI,TO,i1,i2],∃o,h.get? c=eh o/\(∀v,o.data≠.cell v)/\o.cls≠.type "list":=by
 obtain⟨h1,h2,⟨u,v,h3⟩,⟨o4,e4,c4,d4⟩,⟨o5,e5,c5,d5⟩⟩:=st;intro c hc;simp only[Ç,Þ,or_false]at hc;rcases hc with rfl|rfl|rfl|rfl|rfl
 .exact⟨_,h1,(λv z=>(by cases z)),(show Value.type "zip"≠.type "list" by decide)⟩
 .exact⟨_,h2,(λv z=>(by cases z)),(show Value.type "tuple"≠.type "list" by decide)⟩
 .exact⟨_,h3,(λv z=>(by cases z)),(show Value.type "tuple"≠.type "list" by decide)⟩
 .exact⟨_,e4,(λv z=>(by rw[d4]at z;cases z)),(by rw[c4];decide)⟩
 .exact⟨_,e5,(λv z=>(by rw[d5]at z;cases z)),(by rw[c5];decide)⟩
section
variable {X:Cx}
abbrev Pz(te:TE):TE:=λσ H Q=>te σ H λx H1=>(∃i,x=.int i/\i.natAbs.log2<1920/\Q (.str<|toString i) H1)\/∃z,x=.str z/\z.length<=Ù/\Q (.str z) H1
def FZ{e:Expr}{te:TE}{ç:Pos}(he:PE X e te):PE X (.FormattedValue e (-1) ei ç)<|Pz te:=by
 intro Á s σ H Q I h;refine wpAny_FormattedValue_plain<|thn (he Á s σ H _ I h) λv s1 ⟨x,H1,I1,r1,q1⟩=>?_;rcases q1 with⟨i,e1,hd,q1⟩|⟨z,e1,hz,q1⟩
 .subst e1;obtain⟨t,rfl⟩:=r1;exact wpAny_formatField_int hd ⟨.str _,H1,I1.tok _,⟨_,rfl⟩,q1⟩
 .subst e1;obtain⟨t,rfl⟩:=r1;exact wpAny_formatField_str ⟨.str _,H1,I1,⟨_,rfl⟩,q1⟩ ⟨.str _,H1,I1.tok _,⟨_,rfl⟩,q1⟩ hz
abbrev F6(K:Frag)(neg:Bool):R2:=λx y H Q=>∃ds d,(IsD K H y (.tuple ds)\/IsD K H y (.list ds))/\IsD K H x d/\Ő ds=ej/\d.canLay0=ej/\d.depth<=64/\Q (.bl<|if neg then !ds.any (λe=>Ģ e d)else ds.any λe=>Ģ e d) H
def IV(hu:X.A.units+65<Ĥ):OpR X (è .In)<|F6 X.K ez:=by
 intro Á s σ H x y v u Q I rx ry h;obtain⟨ds,d,hd,he,sd,se,hdp,q⟩:=h;obtain⟨bs,rb⟩:=he.reads I rx;have hr:X.A.units+1+min (ľ ds) d.depth<Ĥ:=by have:min (ľ ds) d.depth<=d.depth:=am _ _;lia
 rcases hd with hd|hd
 .obtain⟨as,ra⟩:=hd.reads I ry;exact SeqAt.in_tuple_reads ra rb sd se hr ⟨.bl _,H,I,rfl,q⟩
 .obtain⟨as,ra⟩:=hd.reads I ry;exact SeqAt.in_list_reads ra rb sd se hr ⟨.bl _,H,I,rfl,q⟩
def UG(hu:X.A.units+65<Ĥ):OpR X (è .NotIn)<|F6 X.K ej:=by
 intro Á s σ H x y v u Q I rx ry h;obtain⟨ds,d,hd,he,sd,se,hdp,q⟩:=h;obtain⟨bs,rb⟩:=he.reads I rx;have hr:X.A.units+1+min (ľ ds) d.depth<Ĥ:=by have:min (ľ ds) d.depth<=d.depth:=am _ _;lia
 rcases hd with hd|hd
 .obtain⟨as,ra⟩:=hd.reads I ry;exact SeqAt.notIn_tuple_reads ra rb sd se hr ⟨.bl _,H,I,rfl,q⟩
 .obtain⟨as,ra⟩:=hd.reads I ry;exact SeqAt.notIn_list_reads ra rb sd se hr ⟨.bl _,H,I,rfl,q⟩
end
abbrev ZSy(z TI TO i1 i2 a b:È)(i:Nat)(h:Ă):Prop:=IsZip h z TI TO .none/\IsPair h TI (.ref i1) (.ref i2)/\(∃u v,IsPair h TO u v)/\h.IsTupleIter i1 a i/\h.IsTupleIter i2 b i
variable {z:È} {i1:È} {i2:È} {a:È} {b:È} {i:Nat} {h:Ă}
def ZSy.keep{TI TO:È}{h':Ă}(st:ZSy z TI TO i1 i2 a b i h)(k:∀c∈[z,TI,TO,i1,i2],∀o,h.get? c=eh o->h'.get? c=eh o):ZSy z TI TO i1 i2 a b i h':=by obtain⟨h1,h2,⟨u,v,h3⟩,h4,h5⟩:=st;exact⟨k z (by simp) _ h1,k TI (by simp) _ h2,⟨u,v,k TO (by simp) _ h3⟩,h4.at λo q=>k i1 (by simp) o q,h5.at λo q=>k i2 (by simp) o q⟩
def ZSy.obj{TI TO:È}(st:ZSy z TI TO i1 i2 a b i h):∀c∈[z,TI,TO,i1,i2],∃o,h.get? c=eh o/\∀v,o.data≠.cell v:=by
 obtain⟨h1,h2,⟨u,v,h3⟩,⟨o4,e4,c4,d4⟩,⟨o5,e5,c5,d5⟩⟩:=st;intro c hc;simp only[Ç,Þ,or_false]at hc;rcases hc with rfl|rfl|rfl|rfl|rfl
 .exact⟨_,h1,λv z=>by cases z⟩
 .exact⟨_,h2,λv z=>by cases z⟩
 .exact⟨_,h3,λv z=>by cases z⟩
 .exact⟨_,e4,λv z=>by rw[d4]at z;cases z⟩
 .exact⟨_,e5,λv z=>by rw[d5]at z;cases z⟩
section
variable {κ:Type} [DecidableEq κ]
abbrev Yl(kvs:List<|κ×V)(k:κ):Option V:=(kvs.find? λkv=>gf (kv.1=k)).map (·.2)
abbrev fg(kvs:List<|κ×V)(k:κ)(v:V):List (κ×V) :=
 if(kvs.any λkv=>gf (kv.1=k))=ej then kvs.map (λkv=>if kv.1=k then(kv.1,v)else kv)else kvs++[(k,v)]
abbrev fh(kvs:List<|κ×V)(k:κ):List<|κ×V:=kvs.filter λkv=>gf (kv.1≠k)
variable {p:κ×V} {r:List (κ×V)}
def Y3{k:κ}(e:p.1=k):Yl (p::r) k=eh p.2:=by simp[Yl,Ė,e]
def Xf{k:κ}(e:¬ p.1=k):Yl (p::r) k=Yl r k:=by simp[Yl,Ė,e]
def Y4(k:κ):∀kvs:List<|κ×V,(kvs.any λkv=>gf (kv.1=k))=(Yl kvs k).isSome
 |[]=>rfl
 |p::r=>by
  rw[ķ];by_cases e:p.1=k
  .simp only[Y3 e,f9 e,Bool.true_or,Option.isSome_some]
  .rw[Xf e,f8 e,Bool.false_or];exact Y4 k r
def YZ(kvs:List<|κ×V)(k:κ)(v:V):(fg kvs k v).length<=kvs.length+1:=by
 unfold fg;split
 .rw[Ã];lia
 .rw[ê,Ë,Ĳ];lia
variable {o:Option V} {u:Option Â}
def fi.isSome_eq(r:fi o u):o.isSome=u.isSome:=by
 cases o with
 |none=>cases u with
  |none=>rfl
  |some _=>exact(show False from r).elim
 |some _=>cases u with
  |none=>exact(show False from r).elim
  |some _=>rfl
def fi.getD{d:V}{d':Â}(r:fi o u)(rd:RelV d d'):RelV (o.getD d)<|u.getD d':=by
 cases o with
 |none=>cases u with
  |none=>exact rd
  |some _=>exact(show False from r).elim
 |some _=>cases u with
  |none=>exact(show False from r).elim
  |some _=>exact r
variable {kvs:List (κ×V)} {vs:List (κ×Â)}
def KV.val(r:KV kvs vs)(k:κ):fi (Yl kvs k)<|Ϡ vs k:=by
 unfold KV at r;induction r with
 |nil=>exact True.intro
 |@cons p q ps qs h t ih =>
  obtain⟨h1,h2⟩:=h;by_cases e:p.1=k
  .have e':q.1=k:=h1.symm.trans e;have b:Ϡ (q::qs) k=eh q.2:=by simp[Ϡ,Ė,e']
   rw[Y3 e,b];exact h2
  .have e':¬ q.1=k:=λz=>e<|h1.trans z;have b:Ϡ (q::qs) k=Ϡ qs k:=by simp[Ϡ,Ė,e']
   rw[Xf e,b];exact ih
def KV.any(r:KV kvs vs)(k:κ):(kvs.any λkv=>gf (kv.1=k))=vs.any λkv=>gf (kv.1=k):=by
 unfold KV at r;induction r with
 |nil=>rfl
 |cons h t ih=>rw[ķ,ķ,ih,h.1]
variable {y:V}
def KV.repl(r:KV kvs vs)(k:κ){u:Â}(ry:RelV y u) :
  KV (kvs.map λkv=>if kv.1=k then(kv.1,y)else kv) (vs.map λkv=>if kv.1=k then(kv.1,u)else kv):=by
 unfold KV at r ⊢;induction r with
 |nil=>exact .nil
 |@cons p q ps qs h t ih =>
  rw[Ï,Ï];refine .cons ?_ ih;obtain⟨h1,h2⟩:=h;by_cases e:p.1=k
  .rw[f6 e,f6<|h1.symm.trans e];exact⟨h1,ry⟩
  .rw[f7 e,f7 λz=>e<|h1.trans z];exact⟨h1,h2⟩
def KV.put(r:KV kvs vs)(k:κ){u:Â}(ry:RelV y u):KV (fg kvs k y)<|stored vs k u:=by
 unfold fg stored;rw[r.any k];by_cases e:(vs.any λkv=>gf (kv.1=k))=ej
 .rw[f6 e,f6 e];exact r.repl k ry
 .rw[f7 e,f7 e];exact Paired.snoc r ⟨rfl,ry⟩
def KV.drop(r:KV kvs vs)(k:κ):KV (fh kvs k)<|without vs k:=by
 unfold KV at r ⊢;unfold fh without;induction r with
 |nil=>exact .nil
 |@cons p q ps qs h t ih =>
  obtain⟨h1,h2⟩:=h;rw[Ĩ,Ĩ];by_cases e:p.1=k
  .have a:¬ gf (p.1≠k)=ej:=by simp[e]
   have b:¬ gf (q.1≠k)=ej:=by simp[h1.symm.trans e]
   rw[f7 a,f7 b];exact ih
  .have e':¬ q.1=k:=λz=>e<|h1.trans z;have a:gf (p.1≠k)=ej:=by simp[e]
   have b:gf (q.1≠k)=ej:=by simp[e']
   rw[f6 a,f6 b];exact .cons ⟨h1,h2⟩ ih
def KV.keys(r:KV kvs vs):kvs.map (·.1)=vs.map (·.1):=by
 unfold KV at r;induction r with
 |nil=>rfl
 |cons h t ih=>rw[Ï,Ï,ih,h.1]
def KV.length(r:KV kvs vs):kvs.length=vs.length:=Paired.length r
def Bh(kvs:List<|κ×V)(k:κ):(fh kvs k).length<=kvs.length:=ų _ _
end
variable {P:à} {w:ó} {u:Â}
def X0{k:Key}(r:RelV (kV k) u):(Ze P w).is k u=ej:=by
 cases k with
 |inl i=>obtain⟨t,e⟩:=(show ∃t,u=Value.int i t from r);subst e;exact NB P w i t
 |inr x=>obtain⟨t,e⟩:=(show ∃t,u=Value.str x t from r);subst e;exact Nl P w x t
def Ky{P:à}{w:ó}:∀{ks:List Key}{us:List Â},fS (ks.map kV) us->ItemsAre (Ze P w) ks us
 |[],_,r=>by rw[Ψ]at r;cases r;exact .nil
 |k::ks,_,r=>by
  rw[Ï]at r;cases r with
  |cons h t=>exact .cons (X0 h)<|Ky t
@[reducible] noncomputable def KTd(H:Hp):List (List Key×V)->List (List Key×È×Â)->Prop:=Paired λp q=>p.1=q.1/\H q.2.1=eh (.tup<|p.1.map kV)/\RelV p.2 q.2.2
variable {H:Hp} {kvs:List (List Key×V)} {xs:List (List Key×È×Â)}
def KTd.val(r:KTd H kvs xs)(k:List Key):fi (Yl kvs k) ((cp xs k).map (·.2)):=by
 induction r with
 |nil=>exact True.intro
 |@cons p q ps qs h t ih =>
  obtain⟨h1,_,h2⟩:=h;by_cases e:p.1=k
  .have e':q.1=k:=h1.symm.trans e;have b:cp (q::qs) k=eh q.2:=by simp[cp,Ė,e']
   rw[Y3 e,b];exact h2
  .have e':¬ q.1=k:=λz=>e<|h1.trans z;have b:cp (q::qs) k=cp qs k:=by simp[cp,Ė,e']
   rw[Xf e,b];exact ih
variable {y:V}
def KTd.repl(r:KTd H kvs xs)(k:List Key)(ry:RelV y u) :
  KTd H (kvs.map λkv=>if kv.1=k then(kv.1,y)else kv) (xs.map<|putAt k u):=by
 induction r with
 |nil=>exact .nil
 |@cons p q ps qs h t ih =>
  rw[Ï,Ï];refine .cons ?_ ih;obtain⟨h1,h2,h3⟩:=h;unfold putAt;by_cases e:p.1=k
  .rw[f6 e,f6<|h1.symm.trans e];exact⟨h1,h2,ry⟩
  .rw[f7 e,f7 λz=>e<|h1.trans z];exact⟨h1,h2,h3⟩
variable {b:È}
def KTd.put(r:KTd H kvs xs)(k:List Key)(hb:H b=eh (.tup<|k.map kV))(ry:RelV y u) :
  KTd H (fg kvs k y) (storedH xs k b u):=by
 have e:(kvs.any λkv=>gf (kv.1=k))=(cp xs k).isSome:=by rw[Y4,(r.val k).isSome_eq,ϫ]
 unfold fg storedH;rw[e];by_cases q:(cp xs k).isSome=ej
 .rw[f6 q,f6 q];exact r.repl k ry
 .rw[f7 q,f7 q];exact Paired.snoc r ⟨rfl,hb,ry⟩
variable {H':Hp}
def KTd.keeps(r:KTd H kvs xs)(ht:∀b ys,H b=eh (.tup ys)->H' b=eh (.tup ys)):KTd H' kvs xs :=
 Paired.mapP r λ_ _ z=>⟨z.1,ht _ _ z.2.1,z.2.2⟩
section
variable {P:à}{w:ó}{H:Hp}{h:Ă}{a:È}
def Gk{u:HO}(ok:HOk P w H h)(e:Rd H a u):eQ P w H h a u:=e.ok ok
def X6{kvs:List (Key×V)}(ok:HOk P w H h)(e:Rd H a<|.dK kvs):kvs.length<=Ù/\(a==œ)=ez/\∃vs,KV kvs vs/\h.DictOf (Ze P w) a vs :=
 show eQ P w H h a (.dK kvs) from Gk ok e
def Jl{kvs:List (Key×V)}(ok:HOk P w H h)(e:H a=eh (.dK kvs)):kvs.length<=Ù/\(a==œ)=ez/\∃vs,KV kvs vs/\h.DictOf (Ze P w) a vs:=X6 ok (.inl e)
def eW{ks:List Key}(ok:HOk P w H h)(e:H a=eh (.tup<|ks.map kV)):(ϵ<|Ze P w).is h ks a:=by
 obtain⟨_,ñ,r,o,h1,h2,n,h3⟩:=(show eQ P w H h a (.tup<|ks.map kV) from ok a _ e)
 exact⟨o,ñ.toArray,n,h1,h2,h3,by simpa using Ky r⟩
def JN(ok:HOk P w H h)(e:Rd H a<|.dT kvs):kvs.length<=Ù/\(a==œ)=ez/\
  ∃xs,KTd H kvs xs/\h.DictOfH (ϵ<|Ze P w) a xs:=by
 obtain⟨z,y,xs,r,o,es,ep,h1,h2,h3,h4,h5⟩:=(show eQ P w H h a (.dT kvs) from Gk ok e)
 refine⟨z,y,xs,r,o,es,ep,h1,h2,h3,h4,λx hx=>?_,h5⟩;have all:∀{l:List (List Key×V)}{m:List (List Key×È×Â)},KTd H l m->∀x∈m,(ϵ<|Ze P w).is h x.1 x.2.1:=by
  intro l m q;induction q with
  |nil=>intro x hx;exact nomatch hx
  |@cons p q ps qs hq t ih =>
   intro x hx;rcases Ç.mp hx with e|hx
   .subst e;exact eW ok (by rw[<-hq.1];exact hq.2.1)
   .exact ih x hx
 exact all r x hx
def Pk(ok:HOk P w H h)(e:H a=eh (.dT kvs)):kvs.length<=Ù/\(a==œ)=ez/\
  ∃xs,KTd H kvs xs/\h.DictOfH (ϵ<|Ze P w) a xs:=JN ok<|.inl e
end
abbrev DGet(H:Hp)(a:È)(y:V)(r:Option V):Prop :=
 (∃kvs k,Rd H a (.dK kvs)/\y=kV k/\r=Yl kvs k)\/∃kvs k b,Rd H a (.dT kvs)/\y=.ref b/\H b=eh (.tup<|k.map kV)/\r=Yl kvs k
abbrev DPut(H:Hp)(a:È)(y v:V)(H':Hp):Prop :=
 (∃kvs k,H a=eh (.dK kvs)/\y=kV k/\kvs.length<Ù/\H'=upd H a (.dK<|fg kvs k v))\/
 ∃kvs k b,H a=eh (.dT kvs)/\y=.ref b/\H b=eh (.tup<|k.map kV)/\kvs.length<Ù/\H'=upd H a (.dT<|fg kvs k v)
def DGet.k{H:Hp}{a:È}{kvs:List (Key×V)}{k:Key}(e:H a=eh (.dK kvs)):DGet H a (kV k)<|Yl kvs k:=.inl ⟨kvs,k,.inl e,rfl,rfl⟩
variable {a:È}
def DGet.t{k:List Key}(e:H a=eh (.dT kvs))(eb:H b=eh (.tup<|k.map kV)):DGet H a (.ref b)<|Yl kvs k:=.inr ⟨kvs,k,b,.inl e,rfl,eb,rfl⟩
def DPut.k{H:Hp}{a:È}{kvs:List (Key×V)}{k:Key}{v:V}(e:H a=eh (.dK kvs))(hl:kvs.length<Ù):DPut H a (kV k) v<|upd H a<|.dK<|fg kvs k v:=.inl ⟨kvs,k,e,rfl,hl,rfl⟩
def DPut.t{k:List Key}{v:V}(e:H a=eh (.dT kvs))(eb:H b=eh (.tup<|k.map kV))(hl:kvs.length<Ù) :
  DPut H a (.ref b) v (upd H a<|.dT<|fg kvs k v):=.inr ⟨kvs,k,b,e,rfl,eb,hl,rfl⟩
section
variable {X:Cx}{Á:List (È×Obj)}{σ:St}{H:Hp}{s:Å}{a:È}{y v:V}{u r:Â}{o:Option V}{A:Ą}{E:Â->Å->Prop}
def Inv.big(I:Inv X Á σ H s):œ<s.heap.objs.size:=by have h:Ĉ<s.heap.objs.size:=(I.mod.glob.keeps I.bk).lt;exact Ű (by decide) h
variable {Q:Â->Å->Prop}
def Kx(hu:A.units+1<Ĥ)(I:Inv X Á σ H s)(g:DGet H a y<|eh v)(ry:RelV y u)(h:∀w' s',Inv X Á σ H s'->RelV v w'->Q w' s') :
  wpAny (Û X.prog X.w) A (ϝ (.ref a) u) Q E s:=by
 rcases g with⟨kvs,k,e,ey,l⟩|⟨kvs,k,b,e,ey,eb,l⟩
 .subst ey;obtain⟨z,hd,vs,ů,dd⟩:=X6 I.hok e;obtain⟨w',hw,aT⟩:=fi.some_of (v:=v) (o:=Ϡ vs k) (by rw[l];exact ů.val k);exact wpAny_getItem_of (X0 ry) dd.mapOf hw<|h w' _ (I.tok _) aT
 .subst ey;cases (show u=Value.ref b from ry);obtain⟨z,hd,xs,ů,dd⟩:=JN I.hok e;obtain⟨w',hw,aT⟩:=fi.some_of (v:=v) (o:=(cp xs k).map (·.2)) (by rw[l];exact ů.val k);obtain⟨p,hp,hp2⟩:=Î.mp hw;refine wpAny_getItem_heap (ű hu) (eW I.hok eb) dd hp ?_;rw[hp2];exact h w' _ (I.tok _) aT
def RD(hu:A.units+1<Ĥ)(I:Inv X Á σ H s)(g:DGet H a y o)(ry:RelV y u)(h:∀s',Inv X Á σ H s'->Q (.bool o.isSome) s') :
  wpAny (Û X.prog X.w) A (è .In u<|.ref a) Q E s:=by
 rcases g with⟨kvs,k,e,ey,l⟩|⟨kvs,k,b,e,ey,eb,l⟩
 .subst ey;obtain⟨z,hd,vs,ů,dd⟩:=X6 I.hok e;refine wpAny_in_of (X0 ry) hd dd.mapOf ?_;rw[<-(ů.val k).isSome_eq,<-l];exact h _<|I.tok _
 .subst ey;cases (show u=Value.ref b from ry);obtain⟨z,hd,xs,ů,dd⟩:=JN I.hok e;refine wpAny_in_heap (ű hu) (eW I.hok eb) hd dd ?_;have q:=(ů.val k).isSome_eq;rw[ϫ]at q;rw[<-q,<-l];exact h _<|I.tok _
def D3(hu:A.units+1<Ĥ)(I:Inv X Á σ H s)(g:DGet H a y o)(ry:RelV y u)(h:∀s',Inv X Á σ H s'->Q (.bool (!o.isSome)) s') :
  wpAny (Û X.prog X.w) A (è .NotIn u<|.ref a) Q E s:=by
 rcases g with⟨kvs,k,e,ey,l⟩|⟨kvs,k,b,e,ey,eb,l⟩
 .subst ey;obtain⟨z,hd,vs,ů,dd⟩:=X6 I.hok e;refine wpAny_notIn_of (X0 ry) hd dd.mapOf ?_;rw[<-(ů.val k).isSome_eq,<-l];exact h _<|I.tok _
 .subst ey;cases (show u=Value.ref b from ry);obtain⟨z,hd,xs,ů,dd⟩:=JN I.hok e;refine wpAny_notIn_heap (ű hu) (eW I.hok eb) hd dd ?_;have q:=(ů.val k).isSome_eq;rw[ϫ]at q;rw[<-q,<-l];exact h _<|I.tok _
variable {h':Ă}
def WF{t':Nat}{ob:HO}(I:Inv X Á σ H s)(mu:Mut<|H a)(hs:ś a s.heap h')(he:∃q,h'.get? a=eh q)(new:eQ X.prog X.w (upd H a ob) h' a ob) :
  Inv X Á σ (upd H a ob) {s with heap:=h',toks:=t'} :=
 I.write (x:=a) (e:=a) mu (.inl rfl) (λb q hb z=>(hs.2 b hb).trans z) he new
def N6{kvs:List (Key×V)}{vs:List (Key×Â)}(z:kvs.length<=Ù)(hd:(a==œ)=ez)(ů:KV kvs vs)(dd:h'.DictOf (Ze P w) a vs) :
  eQ P w H' h' a (.dK kvs):=⟨z,hd,vs,ů,dd⟩
def US{Q:Unit->Å->Prop}(hu:A.units+1<Ĥ)(I:Inv X Á σ H s)(g:DPut H a y v H')(ry:RelV y u)(rv:RelV v r)(h:∀s',Inv X Á σ H' s'->Q () s') :
  wpAny (Û X.prog X.w) A (aI (.ref a) u r) Q E s:=by
 rcases g with⟨kvs,k,e,ey,l,eH⟩|⟨kvs,k,b,e,ey,eb,l,eH⟩
 .subst ey eH;obtain⟨z,hd,vs,ů,dd⟩:=Jl I.hok e;have hz:vs.length<=Ù:=by rw[<-ů.length];exact z
  have hl:(fg kvs k v).length<=Ù:=by have:=YZ kvs k v;lia
  refine wpAny_setItem_pairs (hsz:=hz) (X0 ry) dd λh' dd' hs=>h _ ?_;have he:∃q,h'.get? a=eh q:=let ⟨q,_,_,hq,_⟩:=dd';⟨q,hq⟩;exact WF I (by rw[e];exact True.intro) hs he<|N6 hl hd (ů.put k rv) dd'
 .subst ey eH;cases (show u=Value.ref b from ry);obtain⟨z,hd,xs,ů,dd⟩:=Pk I.hok e;have hz:xs.length<=Ù:=by rw[<-Paired.length ů];exact z
  have hl:(fg kvs k v).length<=Ù:=by have:=YZ kvs k v;lia
  refine wpAny_setItem_heap (hsz:=hz) (ű hu) (eW I.hok eb) dd λh' dd' hs=>h _ ?_;obtain⟨q,es,ep,hq,h2,h3,h4,_,h5⟩:=dd';refine WF I (by rw[e];exact True.intro) hs ⟨q,hq⟩ ⟨hl,hd,_,(ů.put k eb rv).keeps λc ys ec=>?_,q,es,ep,hq,h2,h3,h4,h5⟩;rw[eB<|Bc ec e λz=>nomatch z];exact ec
end
section
variable {X:Cx}{Á:List (È×Obj)}{σ:St}{H:Hp}{s:Å}{a:È}{kvs:List (Key×V)}{k:Key}{u:Â}{A:Ą}{E:Â->Å->Prop}
variable {Q:Â->Å->Prop}
def Ge{v:V}{more:List Â}(I:Inv X Á σ H s)(e:H a=eh (.dK kvs))(ry:RelV (kV k) u)(l:Yl kvs k=eh v)(hm:more=[]\/∃x,more=[x])
  (h:∀w' s',Inv X Á σ (upd H a<|.dK<|fh kvs k) s'->RelV v w'->Q w' s'):wpAny (Û X.prog X.w) A (call (.builtin "dict.pop")<|.ref a::u::more) Q E s:=by
 obtain⟨z,hd,vs,ů,dd⟩:=Jl I.hok e;obtain⟨w',hw,aT⟩:=fi.some_of (v:=v) (o:=Ϡ vs k) (by rw[<-l];exact ů.val k);have hp:(keyPart u).isSome=ej:=by
  cases k with
  |inl i=>obtain⟨t,q⟩:=(show ∃t,u=Value.int i t from ry);subst q;rfl
  |inr x=>obtain⟨t,q⟩:=(show ∃t,u=Value.str x t from ry);subst q;rfl
 have ha:ϡ "dict.pop" ⟨.ref a::u::more,[]⟩:=by
  rcases hm with q|⟨x,q⟩
  .subst q;exact PySem.F.args_dict_pop_2 _ _
  .subst q;exact PySem.F.args_dict_pop_3 _ _ _
 refine Ϣ PySem.F.slot_dict_pop dd.typeIs PySem.F.entry_dict_pop ha (meets_dict_pop_there (Ze X.prog X.w) a (X0 ry) more hm hp)
  ⟨vs,w',dd,by rw[<-ů.length];exact z,hw,λh' dd' hs=>h w' _ ?_ aT⟩
 have he:∃q,h'.get? a=eh q:=let ⟨q,_,_,hq,_⟩:=dd';⟨q,hq⟩;exact WF I (by rw[e];exact True.intro) hs he<|N6 (Ý (Bh kvs k) z) hd (ů.drop k) dd'
def Lu{r:Â}(I:Inv X Á σ H s)(e:H a=eh (.dK kvs))(ry:RelV (kV k) u)(l:Yl kvs k=ei)(h:∀s',Inv X Á σ H s'->Q r s') :
  wpAny (Û X.prog X.w) A (call (.builtin "dict.pop") [.ref a,u,r]) Q E s:=by
 obtain⟨z,hd,vs,ů,dd⟩:=Jl I.hok e;have hn:Ϡ vs k=ei:=fi.none_of (by rw[<-l];exact ů.val k);have hp:(keyPart u).isSome=ej:=by
  cases k with
  |inl i=>obtain⟨t,q⟩:=(show ∃t,u=Value.int i t from ry);subst q;rfl
  |inr x=>obtain⟨t,q⟩:=(show ∃t,u=Value.str x t from ry);subst q;rfl
 exact Ϣ PySem.F.slot_dict_pop dd.typeIs PySem.F.entry_dict_pop (PySem.F.args_dict_pop_3 _ _ _) (meets_dict_pop_default (Ze X.prog X.w) a (X0 ry) hd hp r) ⟨vs,dd,hn,h _<|I.tok _⟩
def Pq(I:Inv X Á σ H s)(e:Rd H a<|.dK kvs)(h:∀t s',Inv X Á σ H s'->Q (.int kvs.length t) s'):wpAny (Û X.prog X.w) A (call (.builtin "len") [.ref a]) Q E s:=by obtain⟨z,hd,vs,ů,dd⟩:=X6 I.hok e;refine call_len_dict hd dd (by rw[<-ů.length];rw[Ϯ]at z;lia) ?_;rw[<-ů.length];exact h _ _ (I.tok _)
end
variable {X:Cx} {Á:List (È×Obj)} {σ:St} {s:Å}
def MI{o:Option V}(I:Inv X Á σ H s)(g:DGet H a y o):s.TypeIs (.ref a) "dict":=by
 rcases g with⟨kvs,k,e,_,_⟩|⟨kvs,k,b,e,_,_,_⟩
 .obtain⟨_,_,vs,_,dd⟩:=X6 I.hok e;exact dd.typeIs
 .obtain⟨_,_,xs,_,dd⟩:=JN I.hok e;exact dd.typeIs
def M8(h:Ă)(hb:œ<h.objs.size):eQ P w H (h.push {cls:=.type "dict",data:=.dict #[]}) h.objs.size (.dK []) :=
 ⟨į _,beq_eq_false_iff_ne.mpr<|Ne.symm<|ä hb,[],.nil,Heap.DictOf.new h⟩
abbrev LI:TE:=λ_ H Q=>∀p,H p=ei->Q (.ref p) (upd H p<|.dK [])
section
variable {X:Cx}{ç:Pos}
def pe_dnewK:PE X (.Dict [] [] ç) LI:=λÁ s σ H Q I h =>
 wpAny_Dict_empty ⟨.ref s.heap.objs.size,_,I.laid (a:=s.heap.objs.size) (o:=.dK []) (t':=s.toks) (λ_ _ q=>Ä _ q) (Ì _)<|M8 s.heap I.big,rfl,h _<|I.hok.fresh<|Ì _⟩
end
abbrev Mf:List (TE×TE)->St->Hp->(List (V×V)->Hp->Prop)->Prop
 |[],_,H,Q=>Q [] H
 |(tk,tv)::r,σ,H,Q=>tk σ H λx H1=>tv σ H1 λy H2=>Mf r σ H2 λps H3=>Q ((x,y)::ps) H3
@[reducible] noncomputable def VV:List (V×V)->List (Â×Â)->Prop:=Paired λp q=>RelV p.1 q.1/\RelV p.2 q.2
abbrev PPs(X:Cx)(ç:Pos)(keys:List<|Option Expr)(Μ:List Expr)(trs:List<|TE×TE):Prop :=
 ∀(Á:List<|È×Obj) (s:Å) (σ:St) (H:Hp) (Q:List (V×V)->Hp->Prop),Inv X Á σ H s->Mf trs σ H Q->
  wpAny (Û X.prog X.w) X.A (evalPairs<|pairTrees keys Μ X.env ç) (λvs s'=>∃ps H',Inv X Á σ H' s'/\VV ps vs/\Q ps H') X.xe s
variable {ç:Pos}
def D4:PPs X ç [] [] []:=λÁ s σ H Q I h=>pairTrees_nil_walk ⟨[],H,I,.nil,h⟩
variable {trs:List (TE×TE)}
def Cj{k v:Expr}{ks:List (Option Expr)}{vs:List Expr}{tk tv:TE}(hk:PE X k tk)(hv:PE X v tv)(hr:PPs X ç ks vs trs) :
  PPs X ç (eh k::ks) (v::vs) ((tk,tv)::trs):=λÁ s σ H Q I h =>
 pairTrees_cons_walk (thn (hk Á s σ H _ I h) λu s1 ⟨x,H1,I1,rx,q1⟩=>thn (hv Á s1 σ H1 _ I1 q1) λw2 s2 ⟨y,H2,I2,ry,q2⟩ =>
   thn (hr Á s2 σ H2 _ I2 q2) λws s3 ⟨ps,H3,I3,ů,q3⟩=>⟨(x,y)::ps,H3,I3,.cons ⟨rx,ry⟩ ů,q3⟩)
abbrev YW(kvs more:List<|Key×V):List<|Key×V:=more.foldl (λĬ kv=>fg Ĭ kv.1 kv.2) kvs
def KV.merge:∀{more:List (Key×V)}{rs:List (Key×Â)}{kvs:List (Key×V)}{vs:List (Key×Â)},KV more rs->KV kvs vs->KV (YW kvs more) (merged vs rs):=by
 intro more rs kvs vs r;unfold KV at r;induction r generalizing kvs vs with
 |nil=>intro q;exact q
 |@cons p q ps qs h t ih =>
  intro r0;have e:KV (fg kvs p.1 p.2)<|stored vs q.1 q.2:=by have:=r0.put p.1 h.2;rw[<-h.1];exact this
  exact ih e
def Xp:∀(more kvs:List<|Key×V),(YW kvs more).length<=kvs.length+more.length
 |[],kvs=>by show kvs.length<=kvs.length+0;lia
 |p::r,kvs=>by have h1:=Xp r<|fg kvs p.1 p.2;have h2:=YZ kvs p.1 p.2;show(YW (fg kvs p.1 p.2) r).length<=_;rw[Ë];lia
def Jg{P:à}{w:ó}:∀{kvs:List (Key×V)}{ws:List (Â×Â)},VV (kvs.map λkv=>(kV kv.1,kv.2)) ws->∃rs,Carries (Ze P w) ws rs/\KV kvs rs
 |[],_,r=>by rw[Ψ]at r;cases r;exact⟨[],True.intro,.nil⟩
 |p::kvs,_,r=>by
  rw[Ï]at r;cases r with
  |@cons a b as bs h t =>obtain⟨rs,c,q⟩:=Jg (P:=P) (w:=w) t;obtain⟨b1,b2⟩:=b;exact⟨(p.1,b2)::rs,⟨X0 h.1,rfl,c⟩,.cons ⟨rfl,h.2⟩ q⟩
abbrev Pv(trs:List<|TE×TE):TE:=λσ H Q=>∀p,H p=ei->Mf trs σ (upd H p<|.dK []) λps H2=>H2 p=eh (.dK [])/\∃kvs:List<|Key×V,ps=kvs.map (λkv=>(kV kv.1,kv.2))/\kvs.length<=15/\Q (.ref p) (upd H2 p<|.dK<|YW [] kvs)
def Ed{keys:List (Option Expr)}{Μ:List Expr}(h:PPs X ç keys Μ trs)(hall:keys.all (·.isSome)=ej)(hl:keys.length=Μ.length)(h0:keys≠[])
  (h15:keys.length<=15):PE X (.Dict keys Μ ç)<|Pv trs:=by
 intro Á s σ H Q I q;have hn:=I.hok.fresh<|Ì s.heap.objs.size;have I1:=I.laid (a:=s.heap.objs.size) (o:=.dK []) (h':=s.heap.push {cls:=.type "dict",data:=.dict #[]}) (t':=s.toks) (λ_ _ q=>Ä _ q) (Ì _)<|M8 s.heap I.big;refine wpAny_Dict_walk (knd:=Ze X.prog X.w) hall hl h0 h15<|thn (h Á _ σ _ _ I1<|q _ hn) λws s2 ⟨ps,H2,I2,ů,e,kvs,ep,lk,q2⟩=>?_;subst ep;obtain⟨rs,c,rk⟩:=Jg (P:=X.prog) (w:=X.w) ů;obtain⟨z,hd,vs0,r0,dd⟩:=Jl I2.hok e;cases r0;refine⟨rs,c,dd,λh' dd' hs=>⟨.ref s.heap.objs.size,_,?_,rfl,q2⟩⟩;have hz:(YW [] kvs).length<=Ù:=by have h1:=Xp kvs [];rw[Ĳ]at h1;rw[Ϯ];lia
 have he:∃q,h'.get? s.heap.objs.size=eh q:=let ⟨q,_,_,hq,_⟩:=dd';⟨q,hq⟩;exact WF I2 (by rw[e];exact True.intro) hs he<|N6 hz hd (rk.merge .nil) dd'
abbrev RB(H:Hp)(a:È):Prop:=(∃kvs,Rd H a<|.dK kvs)\/∃kvs,Rd H a (.dT kvs)
def Iy(I:Inv X Á σ H s)(d:RB H a) :
  s.TypeIs (.ref a) "dict"/\(∀b,Value.ref a=.ref b->∃ob,s.heap.get? b=eh ob/\ob.dict=ei)/\(a==œ)=ez:=by
 rcases d with⟨kvs,e⟩|⟨kvs,e⟩
 .obtain⟨_,hd,vs,_,dd⟩:=X6 I.hok e;refine⟨dd.typeIs,λb q=>?_,hd⟩;cases q;obtain⟨ob,_,_,h1,h2,_⟩:=dd;exact⟨ob,h1,h2.2.1⟩
 .obtain⟨_,hd,xs,_,dd⟩:=JN I.hok e;refine⟨dd.typeIs,λb q=>?_,hd⟩;cases q;obtain⟨ob,_,_,h1,h2,_⟩:=dd;exact⟨ob,h1,h2.2.1⟩
section
variable {X:Cx}{Á:List (È×Obj)}{σ:St}{H:Hp}{s:Å}{a:È}{y d:V}{u r:Â}{o:Option V}{A:Ą}{E:Â->Å->Prop}
def La{Q:Â->Å->Prop}(hu:A.units+1<Ĥ)(I:Inv X Á σ H s)(g:DGet H a y o)(ry:RelV y u)(h:∀w' s',Inv X Á σ H s'->RelV (o.getD .non) w'->Q w' s') :
  wpAny (Û X.prog X.w) A (call (.builtin "dict.get") [.ref a,u]) Q E s:=by
 rcases g with⟨kvs,k,e,ey,l⟩|⟨kvs,k,b,e,ey,eb,l⟩
 .subst ey;obtain⟨z,hd,vs,ů,dd⟩:=X6 I.hok e;refine Ϣ PySem.F.slot_dict_get dd.typeIs PySem.F.entry_dict_get (PySem.F.args_dict_get_2 _ _) (meets_dict_get (Ze X.prog X.w) a (X0 ry) hd) ⟨_,dd.mapOf,h _ _ (I.tok _) ?_⟩;rw[l];exact(ů.val k).getD rfl
 .subst ey;cases (show u=Value.ref b from ry);obtain⟨z,hd,xs,ů,dd⟩:=JN I.hok e;refine Ϣ PySem.F.slot_dict_get dd.typeIs PySem.F.entry_dict_get (PySem.F.args_dict_get_2 _ _) (meetsH_dict_get (ϵ<|Ze X.prog X.w) a b hd) ⟨ű hu,k,xs,eW I.hok eb,dd,h _ _ (I.tok _) ?_⟩;rw[l];exact(ů.val k).getD rfl
end
section
variable {X:Cx}
def Ay:eP X (.builtin "len") λxs H Q=>∃a kvs,xs=[V.ref a]/\H a=eh (.dK kvs)/\Q (.int kvs.length) H:=by intro Á s σ H xs us Q I r h;obtain⟨a,kvs,rfl,ha,q⟩:=h;obtain⟨u,rfl,ru⟩:=ZT r;cases ru;exact Pq I (.inl ha) λt s' I'=>⟨.int kvs.length,H,I',⟨t,rfl⟩,q⟩
end
end L2
namespace O
noncomputable abbrev Ad:=Nat
inductive Val where
 |non|bl (b:Bool)|int (i:Int)|str (s:String)|tup (xs:List Val)|ref (a:Ad)|scr (ns:List Int)|key (i j:Int)
 deriving Inhabited
mutual
noncomputable def Val.eqb:Val->Val->Bool
 |.non,b=>match b with|.non=>ej|_=>ez
 |.bl a,b=>match b with|.bl c=>a==c|_=>ez
 |.int a,b=>match b with|.int c=>a==c|_=>ez
 |.str a,b=>match b with|.str c=>a==c|_=>ez
 |.tup a,b=>match b with|.tup c=>Val.eqs a c|_=>ez
 |.ref a,b=>match b with|.ref c=>a==c|_=>ez
 |.scr a,b=>match b with|.scr c=>a==c|_=>ez
 |.key a b,x=>match x with|.key c d=>a==c&&b==d|_=>ez
noncomputable def Val.eqs:List Val->List Val->Bool
 |[],b=>match b with|[]=>ej|_=>ez
 |x::xs,b=>match b with|y::ys=>Val.eqb x y&&Val.eqs xs ys|_=>ez
end
mutual
theorem Val.eqb_iff:∀{a b:Val},Val.eqb a b=ej↔a=b
 |.non,b=>by cases b<;>simp[Val.eqb]
 |.bl _,b=>by cases b<;>simp[Val.eqb]
 |.int _,b=>by cases b<;>simp[Val.eqb]
 |.str _,b=>by cases b<;>simp[Val.eqb]
 |.tup _,b=>by cases b<;>simp[Val.eqb,Val.eqs_iff]
 |.ref _,b=>by cases b<;>simp[Val.eqb]
 |.scr _,b=>by cases b<;>simp[Val.eqb]
 |.key _ _,b=>by cases b<;>simp[Val.eqb]
theorem Val.eqs_iff:∀{a b:List Val},Val.eqs a b=ej↔a=b
 |[],b=>by cases b<;>simp[Val.eqs]
 |_::_,b=>by cases b<;>simp[Val.eqs,Val.eqb_iff,Val.eqs_iff]
end
noncomputable instance:DecidableEq Val:=λa b=>if h:Val.eqb a b=ej then isTrue (Val.eqb_iff.mp h)else isFalse λe=>h<|Val.eqb_iff.mpr e
inductive Ob where
 |lst (xs:List Val)|dct (kvs:List<|Val×Val)|ins (C:String) (fs:List<|String×Val)|exc (C:String)|frz (kvs:List<|Val×Val)|dtp (kvs:List<|Val×Val)
 deriving Inhabited
abbrev figB(c:Char):Bool:=gf (48<=c.toNat)&&gf (c.toNat<=57)
abbrev decN(l:List Char):Nat:=l.foldl (λa c=>10*a+(c.toNat - 48)) 0
abbrev P1:Val->Option String
 |.str s=>eh s
 |_=>ei
abbrev oneC(s:String):Option Char:=match s.toList with
 |[c]=>eh c
 |_=>ei
abbrev FD(i:Int):String:=toString i
abbrev fmtV:Val->Option String
 |.str s=>eh s
 |.int i=>if i.natAbs<10 ^ 200 then eh (FD i)else ei
 |_=>ei
noncomputable abbrev Hs:=Ad->Option Ob
@[irreducible] noncomputable def upd(h:Hs)(a:Ad)(o:Ob):Hs:=λb=>if b=a then eh o else h b
variable {h:Hs} {a:Ad} {o:Ob}
def eC:upd h a o a=eh o:=by simp[upd]
def eB{b:Ad}(e:b≠a):upd h a o b=h b:=by simp[upd,e]
def eF{u:Ob}:upd (upd h a o) a u=upd h a u:=by funext b;simp only[upd];split<;>rfl
noncomputable abbrev Env:=List<|Option Val
noncomputable abbrev Q1:=Val->Hs->Prop
noncomputable abbrev XQ:=String->Hs->Prop
noncomputable abbrev Fs:=String->List Val->Hs->Q1->XQ->Prop
abbrev lim:Nat:=1000000
variable {α:Type}
@[irreducible] noncomputable def go(o:Option α)(k:α->Prop):Prop:=match o with|some a=>k a|none=>False
@[simp] theorem eK{a:α}{k:α->Prop}:go (eh a) k=k a:=by unfold go;rfl
@[simp] theorem Ga{k:α->Prop}:go ei k=False:=by unfold go;rfl
def eL{o:Option α}{a:α}{k:α->Prop}(e:o=eh a)(h:k a):go o k:=by rw[e,eK];exact h
set_option genInjectivity false
inductive Bop where|add|sub|mul|fdiv|mod|pow
inductive Cop where|eq|ne|lt|le|gt|ge|isin|notin|is|isnot|eqE|neE|ntT
inductive Bi where
 |len|int|str|bool|abs|min2|max2|minL|maxL|minD|sum|all|any|sorted|sortedI|sortedSet|lenSet|list|tuple|dict|isi (Ts:List String)|isx (Ts:List String)|isc (C:String)|repr|listRev|listRange|tupRange|dictEnum|minP|maxP
inductive Bm where
 |append|extend|pop|popAt|insert|remove|clear|reverse|index|count|dget|dgetD|dpop|dpopD|setdefault|join|split|replace|upper|partition|sidx
inductive Pt where|one (i:Nat)|many (is:List Nat)|nest (i:Nat) (is:List Nat)
mutual
inductive E where
 |cst (v:Val)|var (i:Nat)|glob (x:String) (v:Val)
 |bin (op:Bop) (a b:E)|neg (a:E)|not (a:E)|and (a b:E)|or (a b:E)
 |cmp (op:Cop) (a b:E)|chain (o1 o2:Cop) (a b c:E)
 |call (f:String) (as:Es)|make (C:String) (as:Es)|meth (C m:String) (o:E) (as:Es)|fld (o:E) (f:String)
 |bi (f:Bi) (as:Es)|bm (m:Bm) (o:E) (as:Es)
 |idx (a i:E)|slc (a:E) (lo hi:Oe)|rev (a:E)
 |tup (es:Es)|lst (es:Es)|dct (es:Es)
 |ife (c:Tt) (a b:E)
 |comp (ô:List Nat) (n:Nat) (p:Pt) (it:It) (c:Tt) (e:E)
 |fstr (es:Es)
 |split (o a:E)
 |repl (o:E) (y z:String)
 |key (es:Es)|dctP
inductive Es where|nil|cons (e:E) (es:Es)
inductive Oe where|none|some (e:E)
inductive Tt where|yes|val (e:E)|not (t:Tt)|and (a b:Tt)|or (a b:Tt)
inductive It where
 |seq (e:E)|chars (e:E)|range (a:E)|range2 (a b:E)|enum (e:E)|zip (a b:E)|items (e:E)|rev (e:E)
end
mutual
inductive S where
 |set (p:Pt) (e:E)|setIdx (a i e:E)|setFld (o:E) (f:String) (e:E)
 |augVar (i:Nat) (op:Bop) (e:E)|augFld (o:E) (f:String) (op:Bop) (n:Int)|augIdx (a i:E) (op:Bop) (n:Int)
 |setPair (a i b j e:E)
 |expr (e:E)|ret (e:E)|retN|ite (c:Tt) (a b:Ss)|whl (c:Tt) (b:Ss)|for (p:Pt) (it:It) (b:Ss)|forI (k:Bool) (p:Pt) (e:E) (b:Ss)
 |never|brk|cnt|pass|raise (C:String) (as:Es)|try (t:Option Nat) (e:E) (hs:Hn)
inductive Ss where|nil|cons (s:S) (ss:Ss)
inductive Hn where|nil|cons (C:String) (n:Option Nat) (b:Ss) (r:Hn)
end
set_option genInjectivity true
abbrev ixN(n:Nat)(i:Int):Option Nat:=if 0<=i then(if i<n then eh i.toNat else ei)else if -(n:Int)<=i then eh (i+n).toNat else ei
abbrev atI(xs:List α)(i:Int):Option α:=(ixN xs.length i).bind λj=>xs[j]?
abbrev fq(n d:Nat):Option Int->Nat
 |none=>d
 |some i=>if 0<=i then min i.toNat n else(i+n).toNat
abbrev cut(xs:List α)(lo hi:Option Int):List α:=(xs.drop<|fq xs.length 0 lo).take<|fq xs.length xs.length hi - fq xs.length 0 lo
abbrev eU:Option Ob->Option (List Val)
 |some (.lst xs)=>eh xs
 |_=>ei
@[simp] theorem Jm{xs:List Val}:eU (eh<|.lst xs)=eh xs:=rfl
abbrev Bj(h:Hs):Val->Option (List Val)
 |.ref a=>eU<|h a
 |.tup xs=>eh xs
 |.scr ns=>eh<|ns.map .int
 |_=>ei
abbrev fU:Option Ob->Option (List<|Val×Val)
 |some (.dct kvs)=>eh kvs
 |_=>ei
abbrev fe(kvs:List<|Val×Val)(k:Val):Option Val:=(kvs.find? λp=>p.1==k).map (·.2)
abbrev ff(kvs:List<|Val×Val)(k:Val):Bool:=kvs.any λp=>p.1==k
abbrev fg(kvs:List<|Val×Val)(k v:Val):List<|Val×Val:=if ff kvs k then kvs.map λp=>if p.1==k then(k,v)else p else kvs++[(k,v)]
abbrev fh(kvs:List<|Val×Val)(k:Val):List<|Val×Val:=kvs.filter λp=>!(p.1==k)
abbrev eZ:Val->Bool
 |.int _=>ej
 |.str _=>ej
 |_=>ez
inductive D where
 |non|bl (b:Bool)|int (i:Int)|str (s:String)|tup (ds:List D)|lst (ds:List D)
 deriving Inhabited
mutual
noncomputable def D.eqv:D->D->Bool
 |.non,.non=>ej
 |.bl a,.bl b=>a==b
 |.bl a,.int i=>(if a then 1 else 0)==i
 |.int i,.bl a=>i==(if a then 1 else 0)
 |.int a,.int b=>a==b
 |.str a,.str b=>a==b
 |.tup a,.tup b=>D.eqvs a b
 |.lst a,.lst b=>D.eqvs a b
 |_,_=>ez
noncomputable def D.eqvs:List D->List D->Bool
 |[],[]=>ej
 |x::xs,y::ys=>D.eqv x y&&D.eqvs xs ys
 |_,_=>ez
end
abbrev dat(h:Hs):Nat->Val->Option D
 |_,.non=>eh .non
 |_,.bl b=>eh<|.bl b
 |_,.int i=>eh<|.int i
 |_,.str s=>eh<|.str s
 |0,_=>ei
 |n+1,.tup xs=>(xs.mapM<|dat h n).map .tup
 |n+1,.ref a=>(eU<|h a).bind λxs=>(xs.mapM<|dat h n).map .lst
 |n+1,.scr ns=>eh<|.lst<|ns.map .int
 |_+1,.key _ _=>ei
abbrev deep:Nat:=12
abbrev eqV(h:Hs)(v u:Val):Option Bool:=(dat h deep v).bind λd=>(dat h deep u).map λe=>D.eqv d e
abbrev eN:List Val->Option (List Int)
 |[]=>eh []
 |.int i::xs=>(eN xs).map (i :: ·)
 |_=>ei
abbrev fu:List Int->List Int->Bool
 |[],[]=>ez
 |[],_::_=>ej
 |_::_,[]=>ez
 |x::xs,y::ys=>if x=y then fu xs ys else gf (x<y)
abbrev fv:Val->Val->Option Bool
 |.int i,.int j=>eh<|gf (i<j)
 |.tup xs,.tup ys=>(eN xs).bind λns=>(eN ys).map λms=>fu ns ms
 |_,_=>ei
abbrev inL(h:Hs)(x:Val)(ys:List Val):Option Bool:=(dat h deep x).bind λd=>(ys.mapM<|dat h<|deep - 1).map λds=>ds.any λe=>D.eqv e d
abbrev leV:Val->Val->Option Bool
 |.int i,.int j=>eh<|gf (i<=j)
 |_,_=>ei
abbrev isKeyT:Val->Bool
 |.key _ _=>ej
 |_=>ez
abbrev inV(h:Hs)(v u:Val):Option Bool:=match u with
 |.tup xs=>inL h v xs
 |.ref a=>match h a with
  |some (.lst xs)=>inL h v xs
  |some (.dct kvs)=>if eZ v then eh (ff kvs v)else ei
  |some (.frz kvs)=>if eZ v then eh (ff kvs v)else ei
  |some (.dtp kvs)=>if isKeyT v then eh (ff kvs v)else ei
  |_=>ei
 |.str t=>(match v with|.str s=>(oneC s).map λc=>gf (c∈t.toList)|_=>ei)
 |_=>ei
abbrev isV(v u:Val):Option Bool:=match u with
 |.non=>eh<|gf (v=.non)
 |.bl b=>eh<|gf (v=.bl b)
 |_=>ei
abbrev asLst(h:Hs):Val->Option (List Val)
 |.ref a=>eU<|h a
 |_=>ei
abbrev eY(h:Hs)(op:Cop)(v u:Val):Option Bool:=match op with
 |.eq=>eqV h v u
 |.ne=>(eqV h v u).map (!·)
 |.lt=>fv v u
 |.gt=>fv u v
 |.le=>leV v u
 |.ge=>leV u v
 |.isin=>inV h v u
 |.notin=>(inV h v u).map (!·)
 |.is=>isV v u
 |.isnot=>(isV v u).map (!·)
 |.eqE=>(asLst h v).bind λxs=>(asLst h u).bind λys=>if ys.isEmpty then eh xs.isEmpty else ei
 |_=>ei
abbrev Wk(h:Hs):Val->Option Bool
 |.bl b=>eh b
 |.int i=>eh<|gf (i≠0)
 |.non=>eh ez
 |.str s=>if s.length<=lim then eh (gf (s.length≠0))else ei
 |.tup xs=>eh (!xs.isEmpty)
 |.scr ns=>eh (!ns.isEmpty)
 |.ref a=>match h a with
  |some (.lst xs)=>eh (!xs.isEmpty)
  |some (.dct kvs)=>eh (!kvs.isEmpty)
  |_=>ei
 |.key _ _=>ei
abbrev mulOk(i j:Int):Prop:=(i.natAbs<2 ^ 64\/j.natAbs<2 ^ 64)\/(i.natAbs<=10 ^ 200/\j.natAbs<=10 ^ 200)
instance (i j:Int):Decidable<|mulOk i j:=inferInstanceAs<|Decidable<|_\/_
@[irreducible] noncomputable def new(h:Hs)(o:Ob)(Q:Q1):Prop:=∀p,h p=ei->Q (.ref p) (upd h p o)
variable {Q:Q1}
def YT(q:∀p,h p=ei->Q (.ref p) (upd h p o)):new h o Q:=by unfold new;exact q
inductive Rs where|val (v:Val)|new (o:Ob)|no
@[irreducible] noncomputable def Rs.wp(r:Rs)(h:Hs)(Q:Q1):Prop:=match r with|.val v=>Q v h|.new o=>O.new h o Q|.no=>False
@[simp] theorem Rs.wp_val{v:Val}:(Rs.val v).wp h Q=Q v h:=by unfold Rs.wp;rfl
@[simp] theorem Rs.wp_new:(Rs.new o).wp h Q=O.new h o Q:=by unfold Rs.wp;rfl
@[simp] theorem Rs.wp_no:Rs.no.wp h Q=False:=by unfold Rs.wp;rfl
abbrev Rs.ofO:Option Val->Rs
 |some v=>.val v
 |none=>.no
abbrev Rs.lst(xs:List Val):Rs:=if xs.length<=lim then .new (.lst xs)else .no
abbrev addV(h:Hs):Val->Val->Rs
 |.int i,.int j=>.val<|.int<|i+j
 |.str s,.str t=>if s.length+t.length<=lim then .val (.str<|s++t)else .no
 |.tup xs,.tup ys=>if xs.length+ys.length<=lim then .val (.tup<|xs++ys)else .no
 |.ref a,.ref b=>match h a,h b with
  |some (.lst xs),eh (.lst ys)=>Rs.lst<|xs++ys
  |_,_=>.no
 |_,_=>.no
abbrev repT(s:String)(n:Nat):String:=Α (Õ n s.toList).flatten
abbrev mulV(h:Hs):Val->Val->Rs
 |.int i,.int j=>if mulOk i j then .val (.int<|i*j)else .no
 |.ref a,.int k=>match h a with
  |some (.lst xs)=>if -(2 ^ 62)<k/\k<2 ^ 62/\xs.length*k.toNat<=lim then Rs.lst (Õ k.toNat xs).flatten else .no
  |_=>.no
 |.str s,.int k=>if 2<=k/\k<=1000000/\1<=s.length/\s.length*k.toNat<=lim then .val (.str<|repT s k.toNat)else .no
 |_,_=>.no
abbrev intV(f:Int->Int->Rs):Val->Val->Rs
 |.int i,.int j=>f i j
 |_,_=>.no
abbrev binV(h:Hs)(op:Bop)(v u:Val):Rs:=match op with
 |.add=>addV h v u
 |.sub=>intV (λi j=>.val<|.int<|i - j) v u
 |.mul=>mulV h v u
 |.fdiv=>intV (λi j=>if 0<j/\j<1073741824 then .val (.int<|i / j)else .no) v u
 |.mod=>intV (λi j=>if 0<j then .val (.int<|i % j)else .no) v u
 |.pow=>intV (λi j=>if 0<=j/\j<=1000000/\i.natAbs<2 ^ 64 then .val (.int<|i ^ j.toNat)else .no) v u
abbrev fV:Val->Option Int
 |.int i=>eh i
 |_=>ei
abbrev fw(h:Hs):Val->Val->Option Val
 |.tup xs,.int k=>atI xs k
 |.str s,.int k=>if s.length<=lim then(atI s.toList k).map λc=>.str (Ϻ c)else ei
 |.ref a,k=>match h a with
  |some (.lst xs)=>(fV k).bind<|atI xs
  |some (.dct kvs)=>if eZ k then fe kvs k else ei
  |some (.frz kvs)=>if eZ k then fe kvs k else ei
  |some (.dtp kvs)=>if isKeyT k then fe kvs k else ei
  |_=>ei
 |.scr ns,.int i=>atI (ns.map .int) i
 |_,_=>ei
abbrev fx(h:Hs)(v:Val)(lo hi:Option Int):Rs :=
 match v with
 |.tup xs=>if fq xs.length 0 lo=0/\fq xs.length xs.length hi=xs.length then .val (.tup xs)else .val (.tup<|cut xs lo hi)
 |.ref a=>match eU (h a)with
  |some xs=>.new<|.lst<|cut xs lo hi
  |none=>.no
 |.scr ns=>.new<|.lst<|cut (ns.map .int) lo hi
 |.str s=>if s.length<=lim then .val (.str<|Α<|cut s.toList lo hi)else .no
 |_=>.no
abbrev sortI(ns:List Int):List Int:=ns.mergeSort λa b=>gf (a<=b)
abbrev blsOf:List Val->Option (List Bool)
 |[]=>eh []
 |.bl b::xs=>(blsOf xs).map (b :: ·)
 |_=>ei
abbrev minL:List Val->Option Val
 |[]=>ei
 |x::xs=>xs.foldl (λm y=>m.bind λb=>(fv y b).map λc=>if c then y else b)<|eh x
abbrev maxL:List Val->Option Val
 |[]=>ei
 |x::xs=>xs.foldl (λm y=>m.bind λb=>(fv b y).map λc=>if c then y else b)<|eh x
abbrev dedup:List Int->List Int
 |[]=>[]
 |x::xs=>x::(dedup xs).filter (· != x)
abbrev fP(c d:String):Bool:=c==d||d == "ShutError" || d == "ValueError" || d == "Exception"
abbrev fX(h:Hs):Val->Option String
 |.non=>eh "NoneType"
 |.bl _=>eh "bool"
 |.int _=>eh "int"
 |.str _=>eh "str"
 |.tup _=>eh "tuple"
 |.scr _=>eh "list"
 |.ref a=>match h a with
  |some (.lst _)=>eh "list"
  |some (.dct _)=>eh "dict"
  |_=>ei
 |.key _ _=>ei
abbrev fY(h:Hs)(v:Val)(T:String):Option Bool:=(fX h v).map λt=>t==T||(t == "bool" && T == "int")
abbrev isiAny(h:Hs)(v:Val):List String->Option Bool
 |[]=>eh ez
 |T::Ts=>(fY h v T).bind λb=>(isiAny h v Ts).map (b || ·)
abbrev pairUp:List Val->Option (List<|Val×Val)
 |[]=>eh []
 |k::v::r=>if eZ k then(pairUp r).map ((k,v) :: ·)else ei
 |_=>ei
abbrev putAll(kvs:List<|Val×Val):List (Val×Val)->List (Val×Val)
 |[]=>kvs
 |(k,v)::r=>putAll (fg kvs k v) r
abbrev fB(h:Hs):Val->Rs
 |.ref a=>match h a with
  |some (.lst xs)=>.val<|.int xs.length
  |some (.dct kvs)=>.val<|.int kvs.length
  |_=>.no
 |.tup xs=>.val<|.int xs.length
 |.scr ns=>.val<|.int ns.length
 |.str s=>if s.length<=lim then .val (.int s.length)else .no
 |_=>.no
abbrev LS:Val->Rs
 |.int i=>.val<|.int i
 |.bl b=>.val (.int<|if b then 1 else 0)
 |.str s=>if s.length<=640/\s.toList≠[]/\s.toList.all figB=ej then .val (.int<|decN s.toList)else .no
 |_=>.no
abbrev absV:Val->Rs
 |.int i=>.val (.int<|if i<0 then -i else i)
 |_=>.no
abbrev eV(f:Val->Rs):List Val->Rs
 |[v]=>f v
 |_=>.no
abbrev biOf2(f:Val->Val->Rs):List Val->Rs
 |[v,u]=>f v u
 |_=>.no
abbrev rowsOf:List Val->Option (List<|List Int)
 |[]=>eh []
 |.tup xs::r=>(eN xs).bind λns=>(rowsOf r).map (ns :: ·)
 |_=>ei
abbrev minR(b:List Int):List (List Int)->List Int
 |[]=>b
 |y::r=>minR (if fu y b then y else b) r
abbrev fE(h:Hs)(v:Val):Rs:=match v with
 |.ref a=>match (eU<|h a).bind rowsOf with
  |some []=>.val .non
  |some (x::r)=>.val<|.tup<|(minR x r).map .int
  |none=>.no
 |_=>.no
abbrev QM(h:Hs):Val->Rs
 |.ref a=>.ofO<|(eU<|h a).bind λxs=>(blsOf xs).map λbs=>.bl<|bs.all id
 |_=>.no
abbrev sortOf(h:Hs):Val->Option (List Int)
 |.ref a=>(eU<|h a).bind eN
 |.scr ns=>eh ns
 |_=>ei
abbrev keysOf(kvs:List<|Val×Val):Option<|List Int:=eN (kvs.map (·.1))
abbrev sortAny(h:Hs)(v:Val):Option<|List Int:=match v with
 |.ref a=>match h a with
  |some (.lst xs)=>eN xs
  |some (.dct kvs)=>keysOf kvs
  |_=>ei
 |.scr ns=>eh ns
 |_=>ei
abbrev Qh(đ:List<|List Int):List<|List Int:=đ.mergeSort λa b=>!fu b a
abbrev Ia(h:Hs)(v:Val):Option<|List<|List Int:=match v with
 |.ref a=>(eU<|h a).bind rowsOf
 |_=>ei
abbrev Ab(h:Hs)(v:Val):Rs:=match Ia h v with
 |some đ=>if đ.length<64/\(đ.all λr=>!r.isEmpty)=ej then .new (.lst<|(Qh đ).map λr=>.tup<|r.map .int)else .no
 |none=>.no
abbrev JO(h:Hs)(v:Val):Rs:=match sortAny h v with
 |some ns=>if ns.length<64 then .new (.lst<|(sortI ns).map .int)else .no
 |none=>Ab h v
abbrev biSortedI(h:Hs)(v:Val):Rs:=match sortAny h v with
 |some ns=>if ns.length<64 then .new (.lst<|(sortI ns).map .int)else .no
 |none=>.no
abbrev biSortedSet(h:Hs)(v:Val):Rs:=match sortOf h v with
 |some ns=>if ns.length<64 then .new (.lst<|(sortI<|dedup ns).map .int)else .no
 |none=>.no
abbrev biLenSet(h:Hs)(v:Val):Rs:=match sortOf h v with
 |some ns=>if ns.length<4000 then .val (.int (dedup ns).length)else .no
 |none=>.no
abbrev toList(h:Hs):Val->Rs
 |.ref a=>match h a with
  |some (.lst xs)=>.new<|.lst xs
  |_=>.no
 |.tup xs=>.new<|.lst xs
 |_=>.no
abbrev K7(h:Hs):Val->Rs
 |.ref a=>match h a with
  |some (.lst xs)=>.val<|.tup xs
  |_=>.no
 |.tup xs=>.val<|.tup xs
 |_=>.no
abbrev biV(h:Hs)(b:Bi)(vs:List Val):Rs:=match b with
 |.len=>eV (fB h) vs
 |.int=>eV LS vs
 |.min2=>biOf2 (intV λi j=>.val<|.int<|if j<i then j else i) vs
 |.max2=>biOf2 (intV λi j=>.val<|.int<|if j > i then j else i) vs
 |.minD=>eV (fE h) vs
 |.all=>eV (QM h) vs
 |.sorted=>eV (JO h) vs
 |.sortedI=>eV (biSortedI h) vs
 |.sortedSet=>eV (biSortedSet h) vs
 |.lenSet=>eV (biLenSet h) vs
 |.list=>eV (toList h) vs
 |.tuple=>eV (K7 h) vs
 |.isi Ts=>eV (λv=>.ofO<|(isiAny h v Ts).map .bl) vs
 |_=>.no
abbrev bmL(h:Hs)(v:Val)(f:Ad->List Val->Option (Val×Hs)):Option<|Val×Hs:=match v with
 |.ref a=>(eU<|h a).bind<|f a
 |_=>ei
abbrev bmD(h:Hs)(v:Val)(f:Ad->List (Val×Val)->Option (Val×Hs)):Option<|Val×Hs:=match v with
 |.ref a=>(fU<|h a).bind<|f a
 |_=>ei
abbrev A1(h:Hs)(vs:List Val)(a:Ad)(xs:List Val):Option<|Val×Hs:=match vs with
 |[v]=>if xs.length<lim then eh (.non,upd h a<|.lst<|xs++[v])else ei
 |_=>ei
abbrev bmPopAt(h:Hs)(vs:List Val)(a:Ad)(xs:List Val):Option<|Val×Hs:=match vs with
 |[.int i]=>if -(2 ^ 62)<i/\i<2 ^ 62 then(ixN xs.length i).bind λk=>(xs[k]?).map λv=>(v,upd h a<|.lst<|xs.eraseIdx k)else ei
 |_=>ei
abbrev Pm(h:Hs)(vs:List Val)(a:Ad)(kvs:List<|Val×Val):Option<|Val×Hs:=match vs with
 |[k]=>if eZ k then eh ((fe kvs k).getD .non,h)else ei
 |_=>ei
abbrev Ie(h:Hs)(vs:List Val)(a:Ad)(kvs:List<|Val×Val):Option<|Val×Hs:=match vs with
 |[k]=>if eZ k then(fe kvs k).map λv=>(v,upd h a<|.dct<|fh kvs k)else ei
 |_=>ei
abbrev FE(h:Hs)(vs:List Val)(a:Ad)(kvs:List<|Val×Val):Option<|Val×Hs:=match vs with
 |[k,d]=>if eZ k then eh ((fe kvs k).getD d,upd h a<|.dct<|fh kvs k)else ei
 |_=>ei
abbrev bmV(h:Hs)(m:Bm)(v:Val)(vs:List Val):Option<|Val×Hs:=match m with
 |.append=>bmL h v<|A1 h vs
 |.popAt=>bmL h v<|bmPopAt h vs
 |.dget=>bmD h v<|Pm h vs
 |.dpop=>bmD h v<|Ie h vs
 |.dpopD=>bmD h v<|FE h vs
 |_=>ei
abbrev isLst:Option Ob->Bool
 |some (.lst _)=>ej
 |_=>ez
abbrev isDct:Option Ob->Bool
 |some (.dct _)=>ej
 |some (.dtp _)=>ej
 |_=>ez
inductive Ty where|l|d|s|t
abbrev Bm.ty:Bm->Ty
 |.dget=>.d
 |.dgetD=>.d
 |.dpop=>.d
 |.dpopD=>.d
 |.setdefault=>.d
 |.join=>.s
 |.split=>.s
 |.replace=>.s
 |.upper=>.s
 |.partition=>.s
 |.sidx=>.s
 |.index=>.t
 |_=>.l
abbrev Ji(p:Option Ob->Bool)(h:Hs):Val->Bool
 |.ref a=>p<|h a
 |_=>ez
abbrev IT:Val->Bool
 |.str _=>ej
 |_=>ez
abbrev Iz:Val->Bool
 |.tup _=>ej
 |_=>ez
abbrev bmTy(h:Hs)(m:Bm)(v:Val):Bool:=match m.ty with
 |.l=>Ji isLst h v
 |.d=>Ji isDct h v
 |.s=>IT v
 |.t=>Ji isLst h v||Iz v
abbrev eX:List (String×Val)->String->Val->List (String×Val)
 |[],f,v=>[(f,v)]
 |(g,x)::r,f,v=>if g=f then(g,v)::r else(g,x)::eX r f v
abbrev getV(env:Env)(i:Nat):Option Val:=match env[i]? with
 |some (eh v)=>eh v
 |_=>ei
abbrev fW:Val->Option Bool
 |.bl b=>eh b
 |_=>ei
abbrev fo:Val->Option Ad
 |.ref a=>eh a
 |_=>ei
abbrev insOf:Option Ob->Option (String×List (String×Val))
 |some (.ins C fs)=>eh (C,fs)
 |_=>ei
abbrev tupOf:Val->Option (List Val)
 |.tup xs=>eh xs
 |_=>ei
abbrev bindL:List Nat->List Val->Env->Option Env
 |[],[],env=>eh env
 |i::is,x::xs,env=>bindL is xs<|env.set i<|eh x
 |_,_,_=>ei
abbrev bind(p:Pt)(h:Hs)(v:Val)(env:Env):Option Env :=
 match p with
 |.one i=>eh<|env.set i<|eh v
 |.many is=>(tupOf v).bind λxs=>bindL is xs env
 |.nest i is=>(tupOf v).bind λxs=>match xs with
  |[x,y]=>(tupOf y).bind λys=>bindL is ys<|env.set i<|eh x
  |_=>ei
abbrev wComp(st:Hs->Prop)(step:Val->Hs->(Option Val->Hs->Prop)->XQ->Prop):List Val->List Val->Hs->(List Val->Hs->Prop)->XQ->Prop
 |[],Ĭ,h,Q,_=>st h/\Q Ĭ h
 |v::vs,Ĭ,h,Q,X=>st h/\step v h (λr h'=>wComp st step vs (Ĭ++r.toList) h' Q X) X
abbrev enumL:Nat->List Val->List Val
 |_,[]=>[]
 |k,x::xs=>.tup [.int k,x]::enumL (k+1) xs
abbrev itV(h:Hs):Val->Option ((Hs->Prop)×List Val)
 |.tup xs=>eh (λ_=>True,xs)
 |.scr ns=>eh (λ_=>True,ns.map .int)
 |.ref a=>(eU<|h a).map λxs=>(λg=>eU (g a)=eh xs,xs)
 |_=>ei
abbrev itemOf(k:Bool)(p:Val×Val):Val:=if k then p.1 else .tup [p.1,p.2]
abbrev fm(i j:Int):List Val:=(List.range (j - i).toNat).map λ(k:Nat)=>.int<|i+k
abbrev fy(h:Hs)(o k v:Val):Option Hs :=
 match o with
 |.ref p=>match h p with
  |some (.lst xs)=>(fV k).bind λn=>(ixN xs.length n).map λj=>upd h p<|.lst<|xs.set j v
  |some (.dct kvs)=>if eZ k/\kvs.length<lim then eh (upd h p<|.dct<|fg kvs k v)else ei
  |some (.dtp kvs)=>if isKeyT k/\kvs.length<lim then eh (upd h p<|.dtp<|fg kvs k v)else ei
  |_=>ei
 |_=>ei
abbrev fA(h:Hs)(o:Val)(f:String)(v:Val):Option Hs :=
 match o with
 |.ref p=>match h p with
  |some (.ins C fs)=>if fs.length<900 then eh (upd h p<|.ins C<|eX fs f v)else ei
  |_=>ei
 |_=>ei
abbrev fz(h:Hs)(o:Val)(f:String):Option Val:=(fo o).bind λa=>(insOf<|h a).bind λp=>p.2.lookup f
abbrev clsV(h:Hs)(o:Val)(m:String):Option String:=(fo o).bind λa=>(insOf<|h a).bind λp=>if(p.2.lookup m).isNone then eh p.1 else ei
abbrev augV(op:Bop)(x y:Val):Option Val:=match op,x,y with
 |.add,.int i,.int j=>eh<|.int<|i+j
 |.sub,.int i,.int j=>eh<|.int<|i - j
 |_,_,_=>ei
@[irreducible] noncomputable def Nm(F:Hs->(List Val->Hs->Prop)->XQ->Prop)(h:Hs)(Q:Q1)(X:XQ):Prop:=new h (.dct []) λr h1=>go (fo r) λp=>F h1 (λvs h2=>go (pairUp vs) λkvs=>h2 p=eh (.dct [])/\Q (.ref p) (upd h2 p<|.dct<|putAll [] kvs)) X
mutual
@[reducible] noncomputable def xE(Φ:Fs):E->Env->Hs->Q1->XQ->Prop
 |.cst v,_,h,Q,_=>Q v h
 |.glob _ v,_,h,Q,_=>Q v h
 |.var i,env,h,Q,_=>go (getV env i) λv=>Q v h
 |.bin op a b,env,h,Q,X=>xE Φ a env h (λv h1=>xE Φ b env h1 (λu h2=>(binV h2 op v u).wp h2 Q) X) X
 |.neg a,env,h,Q,X=>xE Φ a env h (λv h1=>go (fV v) λi=>Q (.int (-i)) h1) X
 |.not a,env,h,Q,X=>xE Φ a env h (λv h1=>go (fW v) λb=>Q (.bl (!b)) h1) X
 |.and a b,env,h,Q,X=>xE Φ a env h (λv h1=>go (fW v) λc=>if c=ej then xE Φ b env h1 Q X else Q (.bl ez) h1) X
 |.or a b,env,h,Q,X=>xE Φ a env h (λv h1=>go (fW v) λc=>if c=ej then Q (.bl ej) h1 else xE Φ b env h1 Q X) X
 |.cmp op a b,env,h,Q,X=>xE Φ a env h (λv h1=>xE Φ b env h1 (λu h2=>go (eY h2 op v u) λc=>Q (.bl c) h2) X) X
 | .chain o1 o2 a b c,env,h,Q,X=>xE Φ a env h (λv h1=>xE Φ b env h1 (λu h2=>go (eY h2 o1 v u) λk =>
     if k=ej then xE Φ c env h2 (λw h3=>go (eY h3 o2 u w) λk2=>Q (.bl k2) h3) X else Q (.bl ez) h2) X) X
 |.call f as,env,h,Q,X=>xA Φ as env h (λvs h1=>Φ f vs h1 Q X) X
 |.make C as,env,h,Q,X=>xA Φ as env h (λvs h1=>∀p,h1 p=ei->Φ (C ++ ".__init__") (.ref p::vs) (upd h1 p<|.ins C []) (λv h2=>v=.non/\Q (.ref p) h2) X) X
 |.meth C m o as,env,h,Q,X=>xE Φ o env h (λv h1=>clsV h1 v m=eh C/\xA Φ as env h1 (λvs h2=>Φ (C ++ "." ++ m) (v::vs) h2 Q X) X) X
 |.fld o f,env,h,Q,X=>xE Φ o env h (λv h1=>go (fz h1 v f) λu=>Q u h1) X
 |.bi f as,env,h,Q,X=>xA Φ as env h (λvs h1=>(biV h1 f vs).wp h1 Q) X
 |.bm m o as,env,h,Q,X=>xE Φ o env h (λv h1=>bmTy h1 m v=ej/\xA Φ as env h1 (λvs h2=>go (bmV h2 m v vs) λr=>Q r.1 r.2) X) X
 |.idx a i,env,h,Q,X=>xE Φ a env h (λv h1=>xE Φ i env h1 (λk h2=>go (fw h2 v k) λu=>Q u h2) X) X
 |.slc a lo hi,env,h,Q,X=>xE Φ a env h (λv h1=>xO Φ lo env h1 (λl h2=>xO Φ hi env h2 (λu h3=>(fx h3 v l u).wp h3 Q) X) X) X
 |.tup es,env,h,Q,X=>xA Φ es env h (λvs h1=>Q (.tup vs) h1) X
 |.lst es,env,h,Q,X=>xA Φ es env h (λvs h1=>new h1 (.lst vs) Q) X
 |.dct es,env,h,Q,X=>Nm (xA Φ es env) h Q X
 |.ife c a b,env,h,Q,X=>xT Φ c env h (λk h1=>if k=ej then xE Φ a env h1 Q X else xE Φ b env h1 Q X) X
 | .comp ô n p it c e,env,h,Q,X=>xI Φ it env h (λst xs h1=>xs.length<lim/\
     wComp st (λv h2 K X2=>go (bind p h2 v<|Õ n ei++ô.map λj=>(env[j]?).getD ei) λő =>
       xT Φ c ő h2 (λk h3=>if k=ej then xE Φ e ő h3 (λu h4=>K (eh u) h4) X2 else K ei h3) X2) xs [] h1 (λys h5=>new h5 (.lst ys) Q) λ_ _=>False) X
 |_,_,_,_,_=>False
@[reducible] noncomputable def xA(Φ:Fs):Es->Env->Hs->(List Val->Hs->Prop)->XQ->Prop
 |.nil,_,h,Q,_=>Q [] h
 |.cons e es,env,h,Q,X=>xE Φ e env h (λv h1=>xA Φ es env h1 (λvs h2=>Q (v::vs) h2) X) X
@[reducible] noncomputable def xJ(Φ:Fs):Es->Env->Hs->String->(String->Hs->Prop)->XQ->Prop
 |.nil,_,h,Ĭ,Q,_=>Q Ĭ h
 |.cons e es,env,h,Ĭ,Q,X=>xE Φ e env h (λv h1=>go (fmtV v) λs=>Ĭ.length+s.length<=lim/\xJ Φ es env h1 (Ĭ++s) Q X) X
@[reducible] noncomputable def xO(Φ:Fs):Oe->Env->Hs->(Option Int->Hs->Prop)->XQ->Prop
 |.none,_,h,Q,_=>Q ei h
 |.some e,env,h,Q,X=>xE Φ e env h (λv h1=>go (fV v) λi=>Q (eh i) h1) X
@[reducible] noncomputable def xT(Φ:Fs):Tt->Env->Hs->(Bool->Hs->Prop)->XQ->Prop
 |.yes,_,h,Q,_=>Q ej h
 |.val e,env,h,Q,X=>xE Φ e env h (λv h1=>go (Wk h1 v) λk=>Q k h1) X
 |.not a,env,h,Q,X=>xT Φ a env h (λk h1=>Q (!k) h1) X
 |.and a b,env,h,Q,X=>xT Φ a env h (λk h1=>if k=ej then xT Φ b env h1 Q X else Q ez h1) X
 |.or a b,env,h,Q,X=>xT Φ a env h (λk h1=>if k=ej then Q ej h1 else xT Φ b env h1 Q X) X
@[reducible] noncomputable def xI(Φ:Fs):It->Env->Hs->((Hs->Prop)->List Val->Hs->Prop)->XQ->Prop
 |.seq e,env,h,Q,X=>xE Φ e env h (λv h1=>go (itV h1 v) λp=>Q p.1 p.2 h1) X
 |.range a,env,h,Q,X=>xE Φ a env h (λv h1=>go (fV v) λn=>(-(2 ^ 62)<=n/\n<2 ^ 62)/\Q (λ_=>True) (fm 0 n) h1) X
 | .range2 a b,env,h,Q,X=>xE Φ a env h (λv h1=>xE Φ b env h1 (λu h2=>go (fV v) λi=>go (fV u) λj =>
     (-(2 ^ 62)<=i/\i<2 ^ 62/\-(2 ^ 62)<=j/\j<2 ^ 62)/\Q (λ_=>True) (fm i j) h2) X) X
 |.enum e,env,h,Q,X=>xE Φ e env h (λv h1=>go (tupOf v) λxs=>Q (λ_=>True) (enumL 0 xs) h1) X
 |_,_,_,_,_=>False
end
@[reducible] noncomputable def wE:Fs->E->Env->Hs->Q1->XQ->Prop:=xE
@[reducible] noncomputable def wA:Fs->Es->Env->Hs->(List Val->Hs->Prop)->XQ->Prop:=xA
@[reducible] noncomputable def wJ:Fs->Es->Env->Hs->String->(String->Hs->Prop)->XQ->Prop:=xJ
@[reducible] noncomputable def wO:Fs->Oe->Env->Hs->(Option Int->Hs->Prop)->XQ->Prop:=xO
@[reducible] noncomputable def wT:Fs->Tt->Env->Hs->(Bool->Hs->Prop)->XQ->Prop:=xT
@[reducible] noncomputable def wI:Fs->It->Env->Hs->((Hs->Prop)->List Val->Hs->Prop)->XQ->Prop:=xI
def Pn:wE=xE:=by unfold wE;rfl
noncomputable abbrev NQ:=Env->Hs->Prop
noncomputable abbrev EQ:=Env->String->Hs->Prop
abbrev wFor(st:Hs->Prop)(W:Val->Env->Hs->NQ->NQ->Prop)(N:NQ):List Val->Env->Hs->Prop
 |[],env,h=>st h/\N env h
 |v::vs,env,h=>st h/\W v env h (λe g=>wFor st W N vs e g) N
mutual
@[reducible] noncomputable def xS(Φ:Fs):S->Env->Hs->NQ->Q1->NQ->NQ->EQ->Prop
 |.set p e,env,h,N,_,_,_,X=>wE Φ e env h (λv h1=>go (bind p h1 v env) λő=>N ő h1)<|X env
 |.setIdx a i e,env,h,N,_,_,_,X=>wE Φ e env h (λv h1=>wE Φ a env h1 (λo h2=>wE Φ i env h2 (λk h3=>go (fy h3 o k v) λg=>N env g)<|X env)<|X env)<|X env
 |.setFld o f e,env,h,N,_,_,_,X=>wE Φ e env h (λv h1=>wE Φ o env h1 (λu h2=>go (fA h2 u f v) λg=>N env g)<|X env)<|X env
 |.augFld o f op n,env,h,N,_,_,_,X=>wE Φ o env h (λu h1=>go (fz h1 u f) λx=>go (augV op x<|.int n) λy=>go (fA h1 u f y) λg=>N env g)<|X env
 |.augIdx a i op n,env,h,N,_,_,_,X=>wE Φ a env h (λo h1=>wE Φ i env h1 (λk h2=>go (fw h2 o k) λx=>go (augV op x<|.int n) λy=>go (fy h2 o k y) λg=>N env g)<|X env)<|X env
 |.expr e,env,h,N,_,_,_,X=>wE Φ e env h (λ_ h1=>N env h1)<|X env
 |.ret e,env,h,_,R,_,_,X=>wE Φ e env h R<|X env
 |.retN,_,h,_,R,_,_,_=>R .non h
 |.ite c a b,env,h,N,R,B,C,X=>wT Φ c env h (λk h1=>if k=ej then xSs Φ a env h1 N R B C X else xSs Φ b env h1 N R B C X)<|X env
 |.for p it b,env,h,N,R,_,_,X=>wI Φ it env h (λst xs h1=>wFor st (λv e g K M=>go (bind p g v e) λe2=>xSs Φ b e2 g K R M K X) N xs env h1)<|X env
 | .forI k p e b,env,h,N,R,_,_,X=>wE Φ e env h (λv h1=>go (fo v) λa=>go (fU<|h1 a) λkvs =>
     wFor (λg=>g a=eh (.frz kvs)) (λv e g K M=>go (bind p g v e) λe2=>xSs Φ b e2 g K (λu g2=>g2 a=eh (.frz kvs)/\R u (upd g2 a<|.dct kvs)) M K λ_ _ _=>False)
       (λe g=>g a=eh (.frz kvs)/\N e (upd g a<|.dct kvs)) (kvs.map<|itemOf k) env (upd h1 a<|.frz kvs))<|X env
 |.never,_,_,_,_,_,_,_=>False
 |_,_,_,_,_,_,_,_=>False
@[reducible] noncomputable def xSs(Φ:Fs):Ss->Env->Hs->NQ->Q1->NQ->NQ->EQ->Prop
 |.nil,env,h,N,_,_,_,_=>N env h
 |.cons s ss,env,h,N,R,B,C,X=>xS Φ s env h (λe g=>xSs Φ ss e g N R B C X) R B C X
@[reducible] noncomputable def xH(Φ:Fs):Hn->String->Env->Hs->NQ->Q1->NQ->NQ->Prop
 |.nil,_,_,_,_,_,_,_=>False
 |.cons K ei b r,c,env,h,N,R,B,C=>if fP c K=ej then xSs Φ b env h N R B C (λ_ _ _=>False)else xH Φ r c env h N R B C
 |.cons K (eh i) b r,c,env,h,N,R,B,C=>if fP c K=ej then(∀p,h p=ei->xSs Φ b (env.set i<|eh<|.ref p) (upd h p<|.exc c) (λe g=>N (e.set i ei) g) R (λe g=>B (e.set i ei) g) (λe g=>C (e.set i ei) g) λ_ _ _=>False)
  else xH Φ r c env h N R B C
end
@[reducible] noncomputable def wS:Fs->S->Env->Hs->NQ->Q1->NQ->NQ->EQ->Prop:=xS
@[reducible] noncomputable def wSs:Fs->Ss->Env->Hs->NQ->Q1->NQ->NQ->EQ->Prop:=xSs
structure Fn where
 ar:Nat
 sz:Nat
 body:Ss
noncomputable abbrev Pg:=String->Option Fn
class In(P:Pg)(f:String)(d:outParam Fn):Prop where
 eq:P f=eh d
abbrev Fn.env(d:Fn)(vs:List Val):Env:=vs.map eh++Õ (d.sz - d.ar) ei
abbrev wF0(P:Pg):Nat->Fs
 |0=>λ_ _ _ _ _=>False
 |n+1=>λf vs h Q X=>go (P f) λd=>vs.length=d.ar/\wSs (wF0 P n) d.body (d.env vs) h (λ_ g=>Q .non g) Q (λ_ _=>False) (λ_ _=>False) λ_ c g=>X c g
@[irreducible] noncomputable def wF(P:Pg)(n:Nat):Fs:=wF0 P n
variable {P:Pg} {n:Nat}
def wF_eq:wF P n=wF0 P n:=by unfold wF;rfl
def Zb{f:String}{d:Fn}{vs:List Val}{X:XQ}(e:P f=eh d)(hl:vs.length=d.ar)
  (q:wSs (wF P n) d.body (d.env vs) h (λ_ g=>Q .non g) Q (λ_ _=>False) (λ_ _=>False) λ_ c g=>X c g):wF P (n+1) f vs h Q X:=by
 rw[wF_eq]at q ⊢;exact eL e ⟨hl,q⟩
section
variable {Φ:Fs}{env:Env}{h:Hs}{Q:Q1}{X:XQ}{a b c e o:E}{as:Es}{v u:Val}
def Gv{i:Nat}(g:getV env i=eh v)(q:Q v h):wE Φ (.var i) env h Q X:=by rw[Pn];exact eL g q
def Qd{f:Bi}(q:wA Φ as env h (λvs h1=>(biV h1 f vs).wp h1 Q) X):wE Φ (.bi f as) env h Q X:=q
variable {es:Es}
def Qq(q:new h (.dct []) λr h1=>go (fo r) λp=>wA Φ es env h1 (λvs h2=>go (pairUp vs) λkvs=>h2 p=eh (.dct [])/\Q (.ref p) (upd h2 p<|.dct<|putAll [] kvs)) X):wE Φ (.dct es) env h Q X:=by show Nm _ _ _ _;unfold Nm;exact q
variable {QA:List Val->Hs->Prop}{QO:Option Int->Hs->Prop}{QT:Bool->Hs->Prop}{QI:(Hs->Prop)->List Val->Hs->Prop}
def A5(q:QA [] h):wA Φ .nil env h QA X:=q
def AO(q:wE Φ e env h (λv h1=>wA Φ es env h1 (λvs h2=>QA (v::vs) h2) X) X):wA Φ (.cons e es) env h QA X:=q
def GE(q:wE Φ e env h (λv h1=>go (Wk h1 v) λk=>QT k h1) X):wT Φ (.val e) env h QT X:=q
def Gy{t:Tt}(q:wT Φ t env h (λk h1=>QT (!k) h1) X):wT Φ (.not t) env h QT X:=q
def Ro{s t:Tt}(q:wT Φ s env h (λk h1=>if k=ej then QT ej h1 else wT Φ t env h1 QT X) X):wT Φ (.or s t) env h QT X:=q
end
section
variable {Φ:Fs}{env:Env}{h:Hs}{N B C:NQ}{R:Q1}{X:EQ}{a b c e o i:E}{as:Es}{v u:Val}{t:Tt}{s1 s2:Ss}{s:S}{p:Pt}{it:It}{hs:Hn}
def Pe(q:wT Φ t env h (λk h1=>if k=ej then wSs Φ s1 env h1 N R B C X else wSs Φ s2 env h1 N R B C X)<|X env):wS Φ (.ite t s1 s2) env h N R B C X:=q
def BM(q:N env h):wSs Φ .nil env h N R B C X:=q
def Fg{ss:Ss}(q:wS Φ s env h (λe g=>wSs Φ ss e g N R B C X) R B C X):wSs Φ (.cons s ss) env h N R B C X:=q
end
section
variable {h:Hs}{Q:Q1}{i j k:Int}{a b:Ad}{xs ys:List Val}{v u:Val}{K:Val->Prop}{KB:Bool->Prop}
def wp_val{r:Rs}(e:r=.val v)(q:Q v h):r.wp h Q:=by rw[e,Rs.wp_val];exact q
def wp_new{r:Rs}{o:Ob}(e:r=.new o)(q:new h o Q):r.wp h Q:=by rw[e,Rs.wp_new];exact q
def b_add(q:Q (.int<|i+j) h):(binV h .add (.int i)<|.int j).wp h Q:=wp_val rfl q
def b_sub(q:Q (.int<|i - j) h):(binV h .sub (.int i)<|.int j).wp h Q:=wp_val rfl q
def b_mul(m:mulOk i j)(q:Q (.int<|i*j) h):(binV h .mul (.int i)<|.int j).wp h Q:=wp_val (f6 m) q
def b_fdiv(m:0<j/\j<1073741824)(q:Q (.int<|i / j) h):(binV h .fdiv (.int i)<|.int j).wp h Q:=wp_val (f6 m) q
def b_mod(m:0<j)(q:Q (.int<|i % j) h):(binV h .mod (.int i)<|.int j).wp h Q:=wp_val (f6 m) q
def b_pow(m:0<=j/\j<=1000000/\i.natAbs<2 ^ 64)(q:Q (.int<|i ^ j.toNat) h):(binV h .pow (.int i)<|.int j).wp h Q:=wp_val (f6 m) q
def Iw{z:Int}(m:0<=j/\j<=1000000/\i.natAbs<2 ^ 64)(e:i ^ j.toNat=z)(q:Q (.int z) h):(binV h .pow (.int i)<|.int j).wp h Q:=b_pow m (by rw[e];exact q)
def LG(m:xs.length+ys.length<=lim)(q:Q (.tup<|xs++ys) h):(binV h .add (.tup xs)<|.tup ys).wp h Q:=wp_val (f6 m) q
def QU(e1:h a=eh (.lst xs))(e2:h b=eh (.lst ys))(m:(xs++ys).length<=lim)(q:new h (.lst<|xs++ys) Q):(binV h .add (.ref a)<|.ref b).wp h Q:=by refine wp_new ?_ q;show(match h a,h b with|some (.lst xs),eh (.lst ys)=>Rs.lst (xs++ys)|_,_=>.no:Rs)=_;simp only[e1,e2,Rs.lst];rw[f6 m]
def lsE(e1:h a=eh (.lst xs)):eU (h a)=eh xs:=by rw[e1];rfl
variable {kvs:List (Val×Val)}
def dcE(e1:h a=eh (.dct kvs)):fU (h a)=eh kvs:=by rw[e1];rfl
def g_int{K:Int->Prop}(q:K i):go (fV<|.int i) K:=eL rfl q
def g_bl{b:Bool}(q:KB b):go (fW<|.bl b) KB:=eL rfl q
def g_ref{K:Ad->Prop}(q:K a):go (fo<|.ref a) K:=eL rfl q
def g_tbl{b:Bool}(q:KB b):go (Wk h<|.bl b) KB:=eL rfl q
def QK(q:KB<|gf (i≠0)):go (Wk h<|.int i) KB:=eL rfl q
def Q5(e:h a=eh (.lst xs))(q:KB (!xs.isEmpty)):go (Wk h<|.ref a) KB:=eL (by unfold Wk;simp only[e]) q
def eM(e:atI xs i=eh v)(q:K v):go (fw h (.tup xs)<|.int i) K:=eL e q
def Ye(e1:h a=eh (.lst xs))(e:atI xs i=eh v)(q:K v):go (fw h (.ref a)<|.int i) K:=eL (by unfold fw;simp only[e1];exact e) q
def ZU{k:Val}(e1:h a=eh (.dct kvs))(hk:eZ k=ej)(e:fe kvs k=eh v)(q:K v):go (fw h (.ref a) k) K:=eL (by unfold fw;simp only[e1];rw[f6 hk];exact e) q
variable {ns:List Int}
def Iv(e:atI (ns.map Val.int) i=eh v)(q:K v):go (fw h (.scr ns)<|.int i) K:=eL e q
def c_lt(q:KB<|gf (i<j)):go (eY h .lt (.int i)<|.int j) KB:=eL rfl q
def c_gt(q:KB<|gf (j<i)):go (eY h .gt (.int i)<|.int j) KB:=eL rfl q
def c_le(q:KB<|gf (i<=j)):go (eY h .le (.int i)<|.int j) KB:=eL rfl q
def c_ge(q:KB<|gf (j<=i)):go (eY h .ge (.int i)<|.int j) KB:=eL rfl q
def Uk:D.eqv (.int i) (.int j)=gf (i=j):=by rw[D.eqv];by_cases e:i=j<;>simp[e]
variable {s:String}
def GD{t:String}:D.eqv (.str s) (.str t)=gf (s=t):=by rw[D.eqv];by_cases e:s=t<;>simp[e]
def c_eqI(q:KB<|gf (i=j)):go (eY h .eq (.int i)<|.int j) KB:=eL (by show eh (D.eqv (.int i)<|.int j)=_;rw[Uk]) q
def c_neI(q:KB (!gf (i=j))):go (eY h .ne (.int i)<|.int j) KB:=eL (by show eh (!D.eqv (.int i) (.int j))=_;rw[Uk]) q
def c_eqS{t:String}(q:KB<|gf (s=t)):go (eY h .eq (.str s)<|.str t) KB:=eL (by show eh (D.eqv (.str s)<|.str t)=_;rw[GD]) q
def RJ{t:String}(q:KB (!gf (s=t))):go (eY h .ne (.str s)<|.str t) KB:=eL (by show eh (!D.eqv (.str s) (.str t))=_;rw[GD]) q
variable {c:Bool}
def RK{d:Bool}(q:KB<|c==d):go (eY h .eq (.bl c)<|.bl d) KB:=eL (by show eh (D.eqv (.bl c)<|.bl d)=_;rw[D.eqv]) q
def c_isN(q:KB<|gf (v=.non)):go (eY h .is v .non) KB:=eL (by unfold eY;rfl) q
def c_notN(q:KB (!gf (v=.non))):go (eY h .isnot v .non) KB:=eL (by unfold eY;rfl) q
def c_eqE(e1:h a=eh (.lst xs))(e2:h b=eh (.lst []))(q:KB xs.isEmpty):go (eY h .eqE (.ref a)<|.ref b) KB:=eL (by show(eU<|h a).bind _=_;rw[e1,Jm];show(eU<|h b).bind _=_;rw[e2,Jm];rfl) q
def GR{ms:List Int}(e1:eN xs=eh ns)(e2:eN ys=eh ms)(q:KB<|fu ms ns):go (eY h .gt (.tup xs)<|.tup ys) KB:=eL (by show(eN ys).bind _=_;rw[e1,e2];rfl) q
variable {n:Nat} {Ś:Env}
def Hb{env:Env}{K:Env->Prop}(e:env.set n (eh v)=Ś)(q:K Ś):go (bind (.one n) h v env) K:=by subst e;exact eL rfl q
def GZ{is:List Nat}{env:Env}{K:Env->Prop}(e:bindL is xs env=eh Ś)(q:K Ś):go (bind (.many is) h (.tup xs) env) K:=eL e q
def II{K:Hs->Prop}(e1:h a=eh (.lst xs))(e:ixN xs.length i=eh n)(q:K<|upd h a<|.lst<|xs.set n v):go (fy h (.ref a) (.int i) v) K:=eL (by unfold fy;simp only[e1,fV,ú,e,ō]) q
def Yv{K:Hs->Prop}{k:Val}(e1:h a=eh (.dct kvs))(m:eZ k=ej/\kvs.length<lim)(q:K<|upd h a<|.dct<|fg kvs k v):go (fy h (.ref a) k v) K:=eL (by unfold fy;simp only[e1];rw[f6 m]) q
def WZ(e1:h a=eh (.dct kvs))(hk:eZ v=ej)(q:KB<|ff kvs v):go (eY h .isin v<|.ref a) KB:=eL (by show inV h v (.ref a)=_;unfold inV;simp only[e1];rw[f6 hk]) q
def Xn(e1:h a=eh (.dct kvs))(hk:eZ v=ej)(q:KB (!ff kvs v)):go (eY h .notin v<|.ref a) KB:=eL (by show(inV h v<|.ref a).map _=_;unfold inV;simp only[e1];rw[f6 hk];rfl) q
variable {C:String} {f:String}
def Yg{fs:List (String×Val)}{K:Hs->Prop}(e1:h a=eh (.ins C fs))(m:fs.length<900)(q:K<|upd h a<|.ins C<|eX fs f v):go (fA h (.ref a) f v) K:=eL (by unfold fA;simp only[e1];rw[f6 m]) q
def HM{fs:List (String×Val)}(e1:h a=eh (.ins C fs))(e:fs.lookup f=eh v)(q:K v):go (fz h (.ref a) f) K:=eL (by unfold fz fo;simp only[e1,insOf,ú];exact e) q
variable {P:Prop}
def Ln{m:String}{fs:List (String×Val)}(e1:h a=eh (.ins C fs))(e:fs.lookup m=ei)(q:P):clsV h (.ref a) m=eh C/\P:=⟨by unfold clsV fo;simp only[e1,insOf,ú,e,Option.isNone_none,if_true],q⟩
def ag_add(q:K<|.int<|i+j):go (augV .add (.int i)<|.int j) K:=eL rfl q
def ln_lst(e1:h a=eh (.lst xs))(q:Q (.int xs.length) h):(biV h .len [.ref a]).wp h Q:=wp_val (by show fB h (.ref a)=_;unfold fB;dsimp only;rw[e1]) q
def ln_scr(q:Q (.int ns.length) h):(biV h .len [.scr ns]).wp h Q:=wp_val rfl q
def ln_tup(q:Q (.int xs.length) h):(biV h .len [.tup xs]).wp h Q:=wp_val rfl q
def in_str(m:s.length<=640/\s.toList≠[]/\s.toList.all figB=ej)(q:Q (.int<|decN s.toList) h):(biV h .int [.str s]).wp h Q:=wp_val (f6 m) q
def OD{bs:List Bool}(e1:h a=eh (.lst xs))(e2:blsOf xs=eh bs)(q:Q (.bl<|bs.all id) h):(biV h .all [.ref a]).wp h Q:=wp_val (by show Rs.ofO ((eU<|h a).bind _)=_;rw[lsE e1,ú,e2];rfl) q
def RL{K:String->Prop}(q:K s):go (P1<|.str s) K:=eL rfl q
variable {m:Bm}
def RE(hm:m=.join)(q:P):bmTy h m (.str s)=ej/\P:=⟨by subst hm;rfl,q⟩
def QL(q:Q (.int i) h):(biV h .int [.int i]).wp h Q:=wp_val rfl q
def in_bl(q:Q (.int<|if c then 1 else 0) h):(biV h .int [.bl c]).wp h Q:=wp_val rfl q
def mn2(q:Q (.int<|if j<i then j else i) h):(biV h .min2 [.int i,.int j]).wp h Q:=wp_val rfl q
def mx2(q:Q (.int<|if j > i then j else i) h):(biV h .max2 [.int i,.int j]).wp h Q:=wp_val rfl q
def tp_lst(e1:h a=eh (.lst xs))(q:Q (.tup xs) h):(biV h .tuple [.ref a]).wp h Q:=wp_val (by show K7 h (.ref a)=_;unfold K7;dsimp only;rw[e1]) q
def QW(q:Q (.tup xs) h):(biV h .tuple [.tup xs]).wp h Q:=wp_val rfl q
def Py{Ts:List String}(e:isiAny h v Ts=eh c)(q:Q (.bl c) h):(biV h (.isi Ts) [v]).wp h Q:=wp_val (by show Rs.ofO ((isiAny h v Ts).map .bl)=_;rw[e];rfl) q
def ls_lst(e1:h a=eh (.lst xs))(q:new h (.lst xs) Q):(biV h .list [.ref a]).wp h Q:=wp_new (by show toList h (.ref a)=_;unfold toList;dsimp only;rw[e1]) q
def QX(q:new h (.lst xs) Q):(biV h .list [.tup xs]).wp h Q:=wp_new rfl q
variable {lo:Option Int} {hi:Option Int}
def fG(n:¬ (fq xs.length 0 lo=0/\fq xs.length xs.length hi=xs.length))(q:Q (.tup<|cut xs lo hi) h):(fx h (.tup xs) lo hi).wp h Q:=wp_val (by unfold fx;simp only;rw[f7 n]) q
def GT(hm:m.ty=.l\/m.ty=.t)(e:h a=eh (.lst xs))(q:P):bmTy h m (.ref a)=ej/\P:=⟨by unfold bmTy;rcases hm with hm|hm<;>rw[hm]<;>simp[Ji,e,isLst],q⟩
def IW(hm:m.ty=.d)(e:h a=eh (.dct kvs))(q:P):bmTy h m (.ref a)=ej/\P:=⟨by unfold bmTy;rw[hm];simp[Ji,e,isDct],q⟩
abbrev HX:Bi->Bool
 |.sorted=>ej
 |.sortedI=>ej
 |_=>ez
def CM{f:Bi}(hf:HX f=ej)(e:sortAny h v=eh ns)(m:ns.length<64)(q:new h (.lst<|(sortI ns).map Val.int) Q):(biV h f [v]).wp h Q:=by
 cases f with
 |sorted=>exact wp_new (by show JO h v=_;unfold JO;simp only[e];exact f6 m) q
 |sortedI=>exact wp_new (by show biSortedI h v=_;unfold biSortedI;simp only[e];exact f6 m) q
 |_=>cases hf
def HA{f:Bi}(e1:h a=eh (.lst<|ns.map Val.int))(e2:eN (ns.map Val.int)=eh ns)(m:ns.length<64)(q:new h (.lst<|(sortI ns).map Val.int) Q)(hf:HX f=ej:=by rfl):(biV h f [.ref a]).wp h Q:=CM hf (by unfold sortAny;simp only[e1,e2]) m q
def Os{f:Bi}(e1:h a=eh (.dct kvs))(e2:keysOf kvs=eh ns)(m:ns.length<64)(q:new h (.lst<|(sortI ns).map Val.int) Q)(hf:HX f=ej:=by rfl):(biV h f [.ref a]).wp h Q:=CM hf (by unfold sortAny;simp only[e1,e2]) m q
def GS(e1:h a=eh (.lst []))(q:Q .non h):(biV h .minD [.ref a]).wp h Q:=wp_val (by show fE h (.ref a)=_;unfold fE;simp only[e1,eU,ú,rowsOf]) q
def Fc{x:List Int}{r:List (List Int)}(e1:h a=eh (.lst xs))(e2:rowsOf xs=eh (x::r))(q:Q (.tup<|(minR x r).map Val.int) h):(biV h .minD [.ref a]).wp h Q:=wp_val (by show fE h (.ref a)=_;unfold fE;simp only[e1,eU,ú,e2]) q
def sl_str(n:s.length<=lim)(q:Q (.str<|Α<|cut s.toList lo hi) h):(fx h (.str s) lo hi).wp h Q:=wp_val (by unfold fx;simp only;rw[f6 n]) q
def sl_lst(e1:h a=eh (.lst xs))(q:new h (.lst<|cut xs lo hi) Q):(fx h (.ref a) lo hi).wp h Q:=wp_new (by unfold fx;simp only[e1,eU]) q
def sl_scr(q:new h (.lst<|cut (ns.map Val.int) lo hi) Q):(fx h (.scr ns) lo hi).wp h Q:=wp_new rfl q
def Zw{K:Val×Hs->Prop}(e1:h a=eh (.lst xs))(m:xs.length<lim)(q:K (.non,upd h a<|.lst<|xs++[v])):go (bmV h .append (.ref a) [v]) K:=eL (by show(eU<|h a).bind _=_;rw[lsE e1];exact f6 m) q
def HZ{K:Val×Hs->Prop}(e1:h a=eh (.dct kvs))(hk:eZ v=ej)(q:K ((fe kvs v).getD .non,h)):go (bmV h .dget (.ref a) [v]) K:=eL (by show(fU<|h a).bind _=_;rw[dcE e1];exact f6 hk) q
def it_lst{K:(Hs->Prop)×List Val->Prop}(e1:h a=eh (.lst xs))(q:K (λg=>eU (g a)=eh xs,xs)):go (itV h<|.ref a) K:=eL (by unfold itV;simp only[e1,eU,ō]) q
def it_scr{K:(Hs->Prop)×List Val->Prop}(q:K (λ_=>True,ns.map Val.int)):go (itV h<|.scr ns) K:=eL rfl q
def it_tup{K:(Hs->Prop)×List Val->Prop}(q:K (λ_=>True,xs)):go (itV h<|.tup xs) K:=eL rfl q
def Rp{K:List Val->Prop}(q:K xs):go (Bj h<|.tup xs) K:=eL rfl q
def Rm{K:List Val->Prop}(e1:h a=eh (.lst xs))(q:K xs):go (Bj h<|.ref a) K:=eL (by unfold Bj;simp only[e1,eU]) q
variable {A:Prop} {B:Prop}
def fH(e:c=ej)(q:A):if c=ej then A else B:=by rw[f6 e];exact q
def fI(e:c=ez)(q:B):if c=ej then A else B:=by rw[f7<|by rw[e];decide];exact q
def fK(q:c=ej->A)(r:c=ez->B):if c=ej then A else B:=by cases c;exact r rfl;exact q rfl
variable {p:Prop}
def fJ[Decidable p](q:p->A)(r:¬p->B):if decide p=ej then A else B:=by
 by_cases e:p
 .rw[f6<|f9 e];exact q e
 .rw[f7<|by simpa using e];exact r e
def AI[Decidable p](q:¬p->A)(r:p->B):if(!decide p)=ej then A else B:=by
 by_cases e:p
 .rw[f7<|by simpa using e];exact r e
 .rw[f6<|by simpa using e];exact q e
end
structure Ext(h g:Hs):Prop where
 get:∀{a:Ad}{o:Ob},h a=eh o->g a=eh o
variable {h:Hs}
def Ext.refl:Ext h h:=⟨λe=>e⟩
variable {g:Hs}
def Ext.trans{k:Hs}(e:Ext h g)(f:Ext g k):Ext h k:=⟨λx=>f.get<|e.get x⟩
variable {p:Ad} {o:Ob}
def Ext.new(e:h p=ei):Ext h<|upd h p o:=⟨λ{a u} x=>by
  rw[eB<|by intro z;rw[z,e]at x;cases x];exact x⟩
structure ExtB(w:Ad)(h g:Hs):Prop where
 get:∀{a:Ad}{o:Ob},a≠w->h a=eh o->g a=eh o
variable {w:Ad}
def ExtB.refl:ExtB w h h:=⟨λ_ e=>e⟩
def ExtB.trans{k:Hs}(e:ExtB w h g)(f:ExtB w g k):ExtB w h k:=⟨λn x=>f.get n<|e.get n x⟩
def ExtB.upd:ExtB w h<|upd h w o:=⟨λn x=>by rw[eB n];exact x⟩
def ExtB.of(e:Ext h g):ExtB w h g:=⟨λ_ x=>e.get x⟩
variable {a:Ad}
def Za(x:h a=eh o)(n:h p=ei):a≠p:=by intro z;rw[z,n]at x;cases x
def ne_none'(n:h p=ei)(x:h a=eh o):a≠p:=Za x n
def upd_ne'{b:Ad}{r:Option Ob}(n:b≠a)(e:h b=r):upd h a o b=r:=by rw[eB n];exact e
inductive Sm2 {α β:Type}(p:α->β->Prop):Prop|mk (a:α) (b:β) (h:p a b)
inductive Sm3 {α β γ:Type}(p:α->β->γ->Prop):Prop|mk (a:α) (b:β) (c:γ) (h:p a b c)
inductive Sm4 {α β γ δ:Type}(p:α->β->γ->δ->Prop):Prop|mk (a:α) (b:β) (c:γ) (d:δ) (h:p a b c d)
inductive Sm5 {α β γ δ ε:Type}(p:α->β->γ->δ->ε->Prop):Prop|mk (a:α) (b:β) (c:γ) (d:δ) (e:ε) (h:p a b c d e)
inductive Cj3 (a b c:Prop):Prop|mk (h1:a) (h2:b) (h3:c)
inductive Cj4 (a b c d:Prop):Prop|mk (h1:a) (h2:b) (h3:c) (h4:d)
inductive Cj7 (a b c d e f g:Prop):Prop|mk (h1:a) (h2:b) (h3:c) (h4:d) (h5:e) (h6:f) (h7:g)
inductive Cj8 (a b c d e f g h:Prop):Prop|mk (h1:a) (h2:b) (h3:c) (h4:d) (h5:e) (h6:f) (h7:g) (h8:h)
variable {st:Hs->Prop} {xs:List Val}
def Zz{W:Val->Env->Hs->NQ->NQ->Prop}{N:NQ}(I:Nat->Env->Hs->Prop){env:Env}(h0:I 0 env h)(ſ:∀i e g,i<=xs.length->I i e g->st g)
  (step:∀i v e g,xs[i]?=eh v->I i e g->∀K:NQ,(∀e' g',I (i+1) e' g'->K e' g')->W v e g K N) (fin:∀e g,I xs.length e g->N e g):wFor st W N xs env h:=by
 have key:∀(ys:List Val) (i:Nat) e g,xs.drop i=ys->i<=xs.length->I i e g->wFor st W N ys e g:=by
  intro ys;induction ys with
  |nil =>
   intro i e g hd hi hI;have:i=xs.length:=by have:=congrArg List.length hd;simp at this;lia
   subst this;exact⟨ſ _ e g (Ì _) hI,fin e g hI⟩
  |cons v vs ih =>
   intro i e g hd hi hI;have Ϥ:i<xs.length:=by have:=congrArg List.length hd;simp at this;lia
   have hv:xs[i]?=eh v:=by have:=congrArg (λl=>l[0]?) hd;simpa using this
   refine⟨ſ i e g hi hI,step i v e g hv hI _ λe' g' hI'=>ih (i+1) e' g' ?_ (by lia) hI'⟩;have:=congrArg List.tail hd;simpa using this
 exact key xs 0 env h (by simp) (by lia) h0
variable {Q:List Val->Hs->Prop} {X:XQ}
def Z3{step:Val->Hs->(Option Val->Hs->Prop)->XQ->Prop}(I:Nat->List Val->Hs->Prop)(h0:I 0 [] h)(ſ:∀i ys g,i<=xs.length->I i ys g->st g)
  (go:∀i v ys g,xs[i]?=eh v->I i ys g->∀K,(∀r g',I (i+1) (ys++r.toList) g'->K r g')->step v g K X) (fin:∀ys g,I xs.length ys g->Q ys g):wComp st step xs [] h Q X:=by
 have key:∀(zs:List Val) (i:Nat) ys g,xs.drop i=zs->i<=xs.length->I i ys g->wComp st step zs ys g Q X:=by
  intro zs;induction zs with
  |nil =>
   intro i ys g hd hi hI;have:i=xs.length:=by have:=congrArg List.length hd;simp at this;lia
   subst this;exact⟨ſ _ ys g (Ì _) hI,fin ys g hI⟩
  |cons v vs ih =>
   intro i ys g hd hi hI;have Ϥ:i<xs.length:=by have:=congrArg List.length hd;simp at this;lia
   have hv:xs[i]?=eh v:=by have:=congrArg (λl=>l[0]?) hd;simpa using this
   refine⟨ſ i ys g hi hI,go i v ys g hv hI _ λr g' hI'=>ih (i+1) _ g' ?_ (by lia) hI'⟩;have:=congrArg List.tail hd;simpa using this
 exact key xs 0 [] h (by simp) (by lia) h0
def ZY{step:Val->Hs->(Option Val->Hs->Prop)->XQ->Prop}(f:Val->Option Val)(ſ:st h)
  (go:∀v∈xs,∀K,K (f v) h->step v h K X) (fin:Q (xs.filterMap f) h):wComp st step xs [] h Q X:=by
 have key:∀(zs ys:List Val),(∀v∈zs,v∈xs)->Q (ys++zs.filterMap f) h->wComp st step zs ys h Q X:=by
  intro zs;induction zs with
  |nil=>intro ys _ q;exact⟨ſ,by simpa using q⟩
  |cons v vs ih =>
   intro ys hm q;refine⟨ſ,go v (hm v<|by simp) _<|ih _ (λw hw=>hm w<|by simp[hw]) ?_⟩;cases e:f v with
   |none=>simpa[Ē,e]using q
   |some u=>simpa[Ē,e]using q
 exact key xs [] (λ_ h=>h) (by simpa using fin)
section
variable {Φ:Fs}{env:Env}{h:Hs}{Q:Q1}{X:XQ}{a b c e o:E}{as:Es}{v u:Val}
def q_e_bi{f:Bi}:(wE Φ (.bi f as) env h Q X)=(wA Φ as env h (λvs h1=>(biV h1 f vs).wp h1 Q) X):=rfl
variable {es:Es}
def q_e_dct:(wE Φ (.dct es) env h Q X)=(new h (.dct []) λr h1=>go (fo r) λp=>wA Φ es env h1 (λvs h2=>go (pairUp vs) λkvs=>h2 p=eh (.dct [])/\Q (.ref p) (upd h2 p<|.dct<|putAll [] kvs)) X):=by show Nm _ _ _ _=_;unfold Nm;rfl
variable {QA:List Val->Hs->Prop}{QO:Option Int->Hs->Prop}{QT:Bool->Hs->Prop}{QI:(Hs->Prop)->List Val->Hs->Prop}
def q_a_nil:(wA Φ .nil env h QA X)=(QA [] h):=rfl
def q_a_cons:(wA Φ (.cons e es) env h QA X)=(wE Φ e env h (λv h1=>wA Φ es env h1 (λvs h2=>QA (v::vs) h2) X) X):=rfl
end
mutual
theorem D.eqv_refl:∀d:D,D.eqv d d=ej
 |.non=>by simp[D.eqv]
 |.bl _=>by simp[D.eqv]
 |.int _=>by simp[D.eqv]
 |.str _=>by simp[D.eqv]
 |.tup ds=>by simp only[D.eqv];exact D.eqvs_refl ds
 |.lst ds=>by simp only[D.eqv];exact D.eqvs_refl ds
theorem D.eqvs_refl:∀ds:List D,D.eqvs ds ds=ej
 |[]=>by simp[D.eqvs]
 |d::ds=>by simp only[D.eqvs,D.eqv_refl d,D.eqvs_refl ds,Bool.and_self]
end
def OQ{α:Type}{o:Option α}{k k':α->Prop}(h:go o k)(f:∀a,k a->k' a):go o k':=by
 cases o with
 |none=>rw[Ga]at h;exact h.elim
 |some a=>rw[eK]at h ⊢;exact f a h
section
variable {Φ:Fs}{env:Env}{h:Hs}{Q:Q1}{X:XQ}{a:Ad}{v:Val}{kvs:List (Val×Val)}
def Lz(q:∀p,h p=ei->Q (.ref p) (upd h p<|.dct [])):wE Φ (.dct .nil) env h Q X:=by refine Qq<|YT λp hp=>g_ref<|A5<|eL rfl ⟨eC,?_⟩;rw[eF];exact q p hp
def dw0(q:∀p,h p=ei->Q (.ref p) (upd h p<|.dct [])):Nm (xA Φ .nil env) h Q X:=Lz q
def dw{F:Hs->(List Val->Hs->Prop)->XQ->Prop}(q:new h (.dct []) λr h1=>go (fo r) λp=>F h1 (λvs h2=>go (pairUp vs) λkvs=>h2 p=eh (.dct [])/\Q (.ref p) (upd h2 p<|.dct<|putAll [] kvs)) X):Nm F h Q X:=by unfold Nm;exact q
def L4{i:Nat}{K:Val->Prop}(g:getV env i=eh v)(q:K v):go (getV env i) K:=eL g q
def dc_of{K:List (Val×Val)->Prop}(e1:h a=eh (.dct kvs))(q:K kvs):go (fU<|h a) K:=eL (dcE e1) q
variable {u:Val}
def DD{K:Val×Hs->Prop}(e1:h a=eh (.dct kvs))(hk:eZ v=ej)(e2:fe kvs v=eh u)(q:K (u,upd h a<|.dct<|fh kvs v)):go (bmV h .dpop (.ref a) [v]) K:=eL (by show(fU<|h a).bind _=_;rw[dcE e1];show(if eZ v then _ else _)=_;rw[f6 hk,e2];rfl) q
def Ub{K:Val×Hs->Prop}(e1:h a=eh (.dct kvs))(hk:eZ v=ej)(q:K ((fe kvs v).getD u,upd h a<|.dct<|fh kvs v)):go (bmV h .dpopD (.ref a) [v,u]) K:=eL (by show(fU<|h a).bind _=_;rw[dcE e1];exact f6 hk) q
end
end O
namespace Snd
open PySem L2
abbrev KT(K:Frag)(a:È)(xs:List V):Prop :=
 ∃(o:Obj) (ñ:Array Â) (n:Nat),K.lookup a=eh o/\o.cls=.type "tuple"/\o.data=.seq ñ n/\ñ.size<=Ù/\fS xs ñ.toList
abbrev KL(K:Frag)(a:È)(xs:List V):Prop :=
 ∃(o:Obj) (ñ:Array Â) (n:Nat),K.lookup a=eh o/\o.cls=.type "list"/\o.dict=ei/\o.data=.seq ñ n/\ñ.size<=Ù/\fS xs ñ.toList
mutual
inductive RV (K:Frag) (H:Hp):O.Val->V->Prop
 |non:RV K H .non .non
 |bl (b:Bool):RV K H (.bl b)<|.bl b
 |int (i:Int):RV K H (.int i)<|.int i
 |str (s:String):RV K H (.str s)<|.str<|gg s
 |tup {xs:List O.Val}{a:È}{vs:List V}:(H a=eh (.tup vs)\/KT K a vs)->RVs K H xs vs->RV K H (.tup xs) (.ref a)
 |ref (a:È):RV K H (.ref a)<|.ref a
 |scr {ns:List Int}{a:È}:((∃o,H a=eh (.frz o<|.lst<|ns.map V.int))\/KL K a (ns.map V.int))->RV K H (.scr ns) (.ref a)
 |key {i j:Int}{a:È}:H a=eh (.tup [.int i,.int j])->RV K H (.key i j) (.ref a)
inductive RVs (K:Frag) (H:Hp):List O.Val->List V->Prop
 |nil:RVs K H [] []
 |cons {v:O.Val}{x:V}{vs:List O.Val}{xs:List V}:RV K H v x->RVs K H vs xs->RVs K H (v::vs) (x::xs)
end
structure fc(H H':Hp):Prop where
 t:∀a xs,H a=eh (.tup xs)->H' a=eh (.tup xs)
 f:∀a o u,H a=eh (.frz o u)->H' a=eh (.frz o u)
def fc.refl(H:Hp):fc H H:=⟨λ_ _ e=>e,λ_ _ _ e=>e⟩
variable {H:Hp}
def fc.trans{H1 H2:Hp}(a:fc H H1)(b:fc H1 H2):fc H H2:=⟨λc xs e=>b.t c xs<|a.t c xs e,λc o u e=>b.f c o u<|a.f c o u e⟩
variable {a:È} {o:HO}
def fc.put(h:∀xs,H a≠eh (.tup xs))(h2:∀p u,H a≠eh (.frz p u)):fc H<|upd H a o:=⟨λb xs e=>by
  rw[eB<|by rintro rfl;exact h xs e];exact e,λb p u e=>by rw[eB<|by rintro rfl;exact h2 p u e];exact e⟩
def fc.new(h:H a=ei):fc H<|upd H a o:=fc.put (λxs e=>by rw[h]at e;cases e) λp u e=>by rw[h]at e;cases e
variable {K:Frag}{H H':Hp}
mutual
theorem RV.keep(k:fc H H'):∀{v:O.Val}{x:V},RV K H v x->RV K H' v x
 |_,_,.non=>.non
 |_,_,.bl b=>.bl b
 |_,_,.int i=>.int i
 |_,_,.str s=>.str s
 |_,_,.tup (.inl e) r=>.tup (.inl<|k.t _ _ e)<|RVs.keep k r
 |_,_,.tup (.inr e) r=>.tup (.inr e)<|RVs.keep k r
 |_,_,.ref a=>.ref a
 |_,_,.scr (.inl ⟨o,e⟩)=>.scr<|.inl ⟨o,k.f _ _ _ e⟩
 |_,_,.scr (.inr e)=>.scr<|.inr e
 |_,_,.key e=>.key<|k.t _ _ e
theorem RVs.keep(k:fc H H'):∀{vs:List O.Val}{xs:List V},RVs K H vs xs->RVs K H' vs xs
 |_,_,.nil=>.nil
 |_,_,.cons r t=>.cons (RV.keep k r)<|RVs.keep k t
end
def RVs.length:∀{vs:List O.Val}{xs:List V},RVs K H vs xs->vs.length=xs.length
 |_,_,.nil=>rfl
 |_,_,.cons _ t=>by rw[Ë,Ë,RVs.length t]
def RVs.get:∀{vs:List O.Val}{xs:List V}{i:Nat}{v:O.Val},RVs K H vs xs->vs[i]?=eh v->∃x,xs[i]?=eh x/\RV K H v x
 |_,_,_,_,.nil,e=>by simp at e
 |_,_,0,_,.cons r _,e=>by simp at e;subst e;exact⟨_,rfl,r⟩
 |_,_,i+1,v,.cons _ t,e=>by obtain⟨x,h1,h2⟩:=RVs.get (i:=i) (v:=v) t (by simpa using e);exact⟨x,by simpa using h1,h2⟩
def RVs.append:∀{vs us:List O.Val}{xs ys:List V},RVs K H vs xs->RVs K H us ys->RVs K H (vs++us) (xs++ys)
 |_,_,_,_,.nil,h=>h
 |_,_,_,_,.cons r t,h=>.cons r<|RVs.append t h
def RVs.set{v:O.Val}{x:V}(r:RV K H v x):∀{vs:List O.Val}{xs:List V}(i:Nat),RVs K H vs xs->RVs K H (vs.set i v) (xs.set i x)
 |_,_,_,.nil=>.nil
 |_,_,0,.cons _ t=>.cons r t
 |_,_,i+1,.cons q t=>.cons q<|RVs.set r i t
def RVs.take:∀{vs:List O.Val}{xs:List V}(n:Nat),RVs K H vs xs->RVs K H (vs.take n) (xs.take n)
 |_,_,0,_=>.nil
 |_,_,_+1,.nil=>.nil
 |_,_,n+1,.cons r t=>.cons r<|RVs.take n t
def RVs.drop:∀{vs:List O.Val}{xs:List V}(n:Nat),RVs K H vs xs->RVs K H (vs.drop n) (xs.drop n)
 |_,_,0,r=>r
 |_,_,_+1,.nil=>.nil
 |_,_,n+1,.cons _ t=>RVs.drop n t
variable {vs:List O.Val} {xs:List V}
def RVs.reverse(r:RVs K H vs xs):RVs K H vs.reverse xs.reverse:=by
 induction r using RVs.rec (motive_1:=λ_ _ _=>True)with
 |nil=>exact .nil
 |cons r t _ ih=>rw[Ε,Ε];exact ih.append<|.cons r .nil
 |_=>trivial
def RVs.eraseIdx:∀{vs:List O.Val}{xs:List V}(i:Nat),RVs K H vs xs->RVs K H (vs.eraseIdx i) (xs.eraseIdx i)
 |_,_,_,.nil=>.nil
 |_,_,0,.cons _ t=>t
 |_,_,i+1,.cons q t=>.cons q<|RVs.eraseIdx i t
def RVs.dropLast(r:RVs K H vs xs):RVs K H vs.dropLast xs.dropLast:=by rw[cq,cq,r.length];exact r.take _
def Zk{vs:List V}(h:H a=eh (.tup vs)\/KT K a vs):fR K H a vs:=by
 rcases h with h|h
 .exact fR.of h
 .exact .inr h
structure Inf where
 K:Frag
 cl:String->È->Prop
 ins:String->Bool
 xc:String->È->Prop
abbrev Wv:O.Val->Key->Prop
 |.int i,.inl j=>i=j
 |.str s,.inr t=>t=gg s
 |_,_=>False
inductive RKs (K:Frag) (H:Hp):List (O.Val×O.Val)->List (Key×V)->Prop
 |nil:RKs K H [] []
 |cons {k v:O.Val}{c:Key}{x:V}{kvs:List (O.Val×O.Val)}{ps:List (Key×V)}:Wv k c->RV K H v x->RKs K H kvs ps->RKs K H ((k,v)::kvs) ((c,x)::ps)
inductive RFs (K:Frag) (H:Hp):List (String×O.Val)->List (Str×V)->Prop
 |nil:RFs K H [] []
 |cons {f:String}{v:O.Val}{x:V}{fs:List (String×O.Val)}{ps:List (Str×V)}:RV K H v x->RFs K H fs ps->RFs K H ((f,v)::fs) ((gg f,x)::ps)
def RKs.keep(k:fc H H'):∀{kvs:List (O.Val×O.Val)}{ps:List (Key×V)},RKs K H kvs ps->RKs K H' kvs ps
 |_,_,.nil=>.nil
 |_,_,.cons a r t=>.cons a (r.keep k)<|RKs.keep k t
inductive RTs (K:Frag) (H:Hp):List (O.Val×O.Val)->List (List Key×V)->Prop
 |nil:RTs K H [] []
 |cons {i j:Int}{v:O.Val}{x:V}{kvs:List (O.Val×O.Val)}{ps:List (List Key×V)}:RV K H v x->RTs K H kvs ps->RTs K H ((.key i j,v)::kvs) (([.inl i,.inl j],x)::ps)
def RTs.keep(k:fc H H'):∀{kvs:List (O.Val×O.Val)}{ps:List (List Key×V)},RTs K H kvs ps->RTs K H' kvs ps
 |_,_,.nil=>.nil
 |_,_,.cons r t=>.cons (r.keep k)<|RTs.keep k t
def RFs.keep(k:fc H H'):∀{fs:List (String×O.Val)}{ps:List (Str×V)},RFs K H fs ps->RFs K H' fs ps
 |_,_,.nil=>.nil
 |_,_,.cons r t=>.cons (r.keep k)<|RFs.keep k t
abbrev RO(i:Inf)(H:Hp)(a:È):O.Ob->Prop
 |.lst xs=>∃vs,H a=eh (.lst vs)/\RVs i.K H xs vs
 |.dct kvs=>∃ps,H a=eh (.dK ps)/\RKs i.K H kvs ps
 |.ins C fs=>∃c dx ps,i.ins C=ej/\i.cl C c/\H a=eh (.ins c dx ps)/\RFs i.K H fs ps
 |.exc C=>∃c,i.xc C c/\H a=eh (xcO a<|.ref c)
 |.frz kvs=>∃o ps,H a=eh (.frz o<|.dK ps)/\RKs i.K H kvs ps
 |.dtp kvs=>∃ps,H a=eh (.dT ps)/\RTs i.K H kvs ps
variable {i:Inf}
def RO.there{o:O.Ob}(r:RO i H a o):∃u,H a=eh u:=by
 cases o with
 |lst xs=>obtain⟨_,e,_⟩:=r;exact⟨_,e⟩
 |dct kvs=>obtain⟨_,e,_⟩:=r;exact⟨_,e⟩
 |ins C fs=>obtain⟨_,_,_,_,_,e,_⟩:=r;exact⟨_,e⟩
 |exc C=>obtain⟨_,_,e⟩:=r;exact⟨_,e⟩
 |frz kvs=>obtain⟨_,_,e,_⟩:=r;exact⟨_,e⟩
 |dtp kvs=>obtain⟨_,e,_⟩:=r;exact⟨_,e⟩
def RO.move{o:O.Ob}(r:RO i H a o)(k:fc H H')(e:H' a=H a):RO i H' a o:=by
 cases o with
 |lst xs=>obtain⟨vs,q,r⟩:=r;exact⟨vs,e.trans q,r.keep k⟩
 |dct kvs=>obtain⟨ps,q,r⟩:=r;exact⟨ps,e.trans q,r.keep k⟩
 |ins C fs=>obtain⟨c,dx,ps,h0,h,q,r⟩:=r;exact⟨c,dx,ps,h0,h,e.trans q,r.keep k⟩
 |exc C=>obtain⟨c,h,q⟩:=r;exact⟨c,h,e.trans q⟩
 |frz kvs=>obtain⟨o,ps,q,r⟩:=r;exact⟨o,ps,e.trans q,r.keep k⟩
 |dtp kvs=>obtain⟨ps,q,r⟩:=r;exact⟨ps,e.trans q,r.keep k⟩
abbrev RH(i:Inf)(G:O.Hs)(H:Hp):Prop:=∀a o,G a=eh o->RO i H a o
variable {G:O.Hs}
def RH.free(r:RH i G H)(e:H a=ei):G a=ei:=by
 cases q:G a with
 |none=>rfl
 |some o=>obtain⟨u,z⟩:=(r a o q).there;rw[e]at z;cases z
def RH.put{o:O.Ob}{u:HO}(r:RH i G H)(k:fc H<|upd H a u)(n:RO i (upd H a u) a o):RH i (O.upd G a o)<|upd H a u:=λb p e=>by
 by_cases hb:b=a
 .subst hb;rw[O.eC]at e;cases e;exact n
 .rw[O.eB hb]at e;exact(r b p e).move k<|eB hb
def RH.hid(r:RH i G H)(k:fc H H')(e:∀a o,G a=eh o->H' a=H a):RH i G H':=λb p q=>(r b p q).move k (e b p q)
structure REn(K:Frag)(H:Hp)(env:O.Env)(σ:St):Prop where
 len:env.length=σ.length
 get:∀(i:Nat) (v:O.Val),env[i]?=eh (eh v)->∃x,σ[i]?=eh (eh x)/\RV K H v x
variable {σ:St}
def REn.keep{env:O.Env}(r:REn K H env σ)(k:fc H H'):REn K H' env σ:=⟨r.len,λi v e=>by
  obtain⟨x,h1,h2⟩:=r.get i v e
  exact⟨x,h1,h2.keep k⟩⟩
def REn.set{env:O.Env}{v:O.Val}{x:V}(r:REn K H env σ)(q:RV K H v x)(j:Nat):REn K H (env.set j<|eh v)<|σ.set j<|eh x:=⟨by simp[r.len],λi u e=>by
  by_cases hij:j=i
  . subst hij
    rw[List.getElem?_set_self']at e
    cases z:env[j]? with
    |none=>rw[z]at e;cases e
    |some w =>
      rw[z]at e
      cases e
      have hj:j<σ.length:=by rw[<-r.len];exact(Ð.mp z).1
      exact⟨x,Υ hj,q⟩
  . rw[ź hij]at e
    obtain⟨y,h1,h2⟩:=r.get i u e
    exact⟨y,by rw[ź hij];exact h1,h2⟩⟩
def REn.start{n:Nat}(r:RVs K H vs xs):REn K H (vs.map eh++Õ n ei)<|xs.map eh++Õ n ei:=⟨by simp[r.length],λi v e=>by
  by_cases hi:i<vs.length
  . rw[Ċ (by simpa using hi),Ò]at e
    cases z:vs[i]? with
    |none=>rw[z]at e;cases e
    |some w =>
      rw[z]at e
      cases e
      obtain⟨x,h1,h2⟩:=r.get z
      exact⟨x,by rw[Ċ (by rw[Ã,<-r.length];exact hi),Ò,h1];rfl,h2⟩
  . rw[ď (by simpa using hi),Ň]at e
    split at e<;>cases e⟩
def RVs.ints{K:Frag}{H:Hp}:∀ns:List Int,RVs K H (ns.map O.Val.int) (ns.map V.int)
 |[]=>.nil
 |n::ns=>.cons (.int n)<|RVs.ints ns
def Z0{ns:List Int}(h:(∃o,H a=eh (.frz o<|.lst<|ns.map V.int))\/KL K a (ns.map V.int)):fQ K H a<|ns.map V.int:=by
 rcases h with⟨o,h⟩|h
 .exact .inl<|.inr ⟨o,h⟩
 .exact .inr h
variable {i:Inf}{X:Cx}{Φ:O.Fs}
abbrev XK1(i:Inf)(H:Hp)(Em:O.XQ):XK:=λcls _ H'=>∃c G' ad,cls=.ref ad/\i.xc c ad/\fc H H'/\RH i G' H'/\Em c G'
abbrev XOk(X:Cx)(i:Inf)(H:Hp)(Em:O.XQ):Prop:=XW X<|XK1 i H Em
variable {H:Hp} {H1:Hp} {Em:O.XQ}
def XK1.go{H':Hp}{cls:Â}{d:Option È}(k:fc H H1)(h:XK1 i H1 Em cls d H'):XK1 i H Em cls d H':=by obtain⟨c,G',ad,e,q,k',r,m⟩:=h;exact⟨c,G',ad,e,q,k.trans k',r,m⟩
def XOk.go(x:XOk X i H Em)(k:fc H H1):XOk X i H1 Em:=λÁ σ H0 s H' a cls s' I f e=>x Á σ H0 s H' a cls s' I f (e.go k)
structure Pre(X:Cx)(i:Inf)(σ:St)(H:Hp)(env:O.Env)(G:O.Hs)(Em:O.XQ):Prop where
 en:REn i.K H env σ
 hp:RH i G H
 xo:XOk X i H Em
variable {σ:St} {G:O.Hs}
def Pre.go{env:O.Env}{G1:O.Hs}(p:Pre X i σ H env G Em)(k:fc H H1)(r:RH i G1 H1):Pre X i σ H1 env G1 Em:=⟨p.en.keep k,r,p.xo.go k⟩
abbrev Cn(i:Inf)(H:Hp)(Q:VK)(Qm:O.Q1):Prop:=∀v G' H' x,fc H H'->RH i G' H'->RV i.K H' v x->Qm v G'->Q x H'
variable {Q:VK} {Qm:O.Q1}
def Cn.go(c:Cn i H Q Qm)(k:fc H H1):Cn i H1 Q Qm:=λv G' H' x k'=>c v G' H' x (k.trans k')
inductive tEx (X:Cx) (i:Inf) (Φ:O.Fs) (m:O.E) (σ:St) (H:Hp) (Q:VK):Prop
 |mk (env:O.Env) (G:O.Hs) (Qm:O.Q1) (Em:O.XQ) (p:Pre X i σ H env G Em) (w:O.wE Φ m env G Qm Em) (c:Cn i H Q Qm)
abbrev tE(X:Cx)(i:Inf)(Φ:O.Fs)(m:O.E):TE:=tEx X i Φ m
inductive tArx (X:Cx) (i:Inf) (Φ:O.Fs) (ms:O.Es) (n:Nat) (σ:St) (H:Hp) (Q:List V->Hp->Prop):Prop
 |mk (env:O.Env) (G:O.Hs) (Qm:List O.Val->O.Hs->Prop) (Em:O.XQ) (p:Pre X i σ H env G Em) (w:O.wA Φ ms env G Qm Em) (c:∀vs G' H' xs,fc H H'->RH i G' H'->RVs i.K H' vs xs->xs.length=n->Qm vs G'->Q xs H')
abbrev tAr(X:Cx)(i:Inf)(Φ:O.Fs)(ms:O.Es)(n:Nat):TA:=tArx X i Φ ms n
inductive tTtx (X:Cx) (i:Inf) (Φ:O.Fs) (m:O.Tt) (σ:St) (H:Hp) (Q:Bool->Hp->Prop):Prop
 |mk (env:O.Env) (G:O.Hs) (Qm:Bool->O.Hs->Prop) (Em:O.XQ) (p:Pre X i σ H env G Em) (w:O.wT Φ m env G Qm Em) (c:∀b G' H',fc H H'->RH i G' H'->Qm b G'->Q b H')
abbrev tTt(X:Cx)(i:Inf)(Φ:O.Fs)(m:O.Tt):TT:=tTtx X i Φ m
variable {e:Expr}
def _root_.L2.PE.imp{t t':TE}(h:PE X e t)(f:∀σ H Q,t' σ H Q->t σ H Q):PE X e t':=λÁ s σ H Q I q=>h Á s σ H Q I (f σ H Q q)
variable {t':TT}
def _root_.L2.PT.imp{t:TT}(h:PT X e t)(f:∀σ H Q,t' σ H Q->t σ H Q):PT X e t':=λÁ s σ H Q I q=>h Á s σ H Q I (f σ H Q q)
def _root_.L2.PW.imp{t:TT}(h:PW X e t)(f:∀σ H Q,t' σ H Q->t σ H Q):PW X e t':=λwh Á s σ H Q I q=>h wh Á s σ H Q I (f σ H Q q)
variable {es:List Expr}
def _root_.L2.PA.imp{t t':TA}(h:PA X es t)(f:∀σ H Q,t' σ H Q->t σ H Q):PA X es t':=λç Á s σ H Q I q=>h ç Á s σ H Q I (f σ H Q q)
variable {j:Nat}
def QF{env:O.Env}{h:O.Hs}{Q:O.Q1}{E:O.XQ}:(O.wE Φ (.var j) env h Q E)=(O.go (O.getV env j) λv=>Q v h):=rfl
def eK{α:Type}{o:Option α}{k:α->Prop}(h:O.go o k):∃a,o=eh a/\k a:=by
 cases o with
 |none=>simp at h
 |some a=>exact⟨a,rfl,by simpa using h⟩
def UF{env:O.Env}{v:O.Val}(h:O.getV env j=eh v):env[j]?=eh (eh v):=by
 unfold O.getV at h;split at h
 .rename_i u e;cases h;exact e
 .cases h
variable {ç:Pos}
def Qv{x:Str}(hN:X.N[j]?=eh x)(hv:Vis X.env.scope x)(hd:(x==("__debug__" : Str))=ez)(aG:(x==("__classdict__" : Str))=ez):PE X (.Name x ç) (tE X i Φ<|.var j) :=
 (Im hN hv hd aG).imp λσ H Q ⟨env,G,Qm,Em,p,w,c⟩=>by rw[QF]at w;obtain⟨v,e,q⟩:=eK w;obtain⟨y,h1,h2⟩:=p.en.get j v<|UF e;exact⟨y,h1,c v G H y (fc.refl H) p.hp h2 q⟩
variable {x:V}
def WD{v:O.Val}(h:PE X e<|tC x)(r:∀H,RV i.K H v x):PE X e (tE X i Φ<|.cst v) :=
 h.imp λσ H Q ⟨env,G,Qm,Em,p,w,c⟩=>by exact c v G H x (fc.refl H) p.hp (r H) w
def LD{y:String}{v:O.Val}(h:PE X e<|tC x)(r:∀H,RV i.K H v x):PE X e (tE X i Φ<|.glob y v) :=
 h.imp λσ H Q ⟨env,G,Qm,Em,p,w,c⟩=>by exact c v G H x (fc.refl H) p.hp (r H) w
variable {a:O.E}
def two{b:O.E}{env:O.Env}{F:O.Val->O.Val->O.Hs->Prop}{R:V->V->Hp->Prop}(p:Pre X i σ H env G Em)
  (w:O.wE Φ a env G (λv G1=>O.wE Φ b env G1 (λu G2=>F v u G2) Em) Em)
  (h:∀v u G2 H2 x y,fc H H2->Pre X i σ H2 env G2 Em->RV i.K H2 v x->RV i.K H2 u y->F v u G2->R x y H2):tE X i Φ a σ H λx H1=>tE X i Φ b σ H1 λy H2=>R x y H2 :=
 ⟨env,G,_,Em,p,w,λv G1 H1 x k1 g1 r1 w1=>⟨env,G1,_,Em,p.go k1 g1,w1,λu G2 H2 y k2 g2 r2 w2=>h v u G2 H2 x y (k1.trans k2) ((p.go k1 g1).go k2 g2) (r1.keep k2) r2 w2⟩⟩
def one{env:O.Env}{F:O.Val->O.Hs->Prop}{R:V->Hp->Prop}(p:Pre X i σ H env G Em)
  (w:O.wE Φ a env G (λv G1=>F v G1) Em) (h:∀v G1 H1 x,fc H H1->Pre X i σ H1 env G1 Em->RV i.K H1 v x->F v G1->R x H1):tE X i Φ a σ H λx H1=>R x H1 :=
 ⟨env,G,_,Em,p,w,λv G1 H1 x k1 g1 r1 w1=>h v G1 H1 x k1 (p.go k1 g1) r1 w1⟩
abbrev JA(i:Inf)(op:O.Bop)(r:R2):Prop:=∀(v u:O.Val) (G:O.Hs) (H:Hp) (x y:V) (Q:VK) (Qm:O.Q1),RH i G H->RV i.K H v x->RV i.K H u y->(O.binV G op v u).wp G Qm->Cn i H Q Qm->r x y H Q
variable {b:Expr} {ma:O.E} {mb:O.E} {r:R2}
def Kl{a:Expr}{op:ϓ}{bop:O.Bop}(ho:OpR X (ń op) r)(hr:JA i bop r)(ha:PE X a<|tE X i Φ ma)(hb:PE X b<|tE X i Φ mb):PE X (.BinOp a op b ç) (tE X i Φ<|.bin bop ma mb) :=
 (Pc ho ha hb).imp λσ H Q ⟨env,G,Qm,Em,p,w,c⟩=>by exact two p w λv u G2 H2 x y k2 p2 rx ry q=>hr v u G2 H2 x y Q Qm p2.hp rx ry q<|c.go k2
abbrev ZV(i:Inf)(op:O.Cop)(r:R2):Prop:=∀(v u:O.Val) (G:O.Hs) (H:Hp) (x y:V) (c:Bool) (Q:VK),RH i G H->RV i.K H v x->RV i.K H u y->O.eY G op v u=eh c->Q (.bl c) H->r x y H Q
variable {op:b6} {cop:O.Cop}
def LU{a:Expr}(ho:OpR X (è op) r)(hr:ZV i cop r)(ha:PE X a<|tE X i Φ ma)(hb:PE X b<|tE X i Φ mb)(hm:ļ op b=ez):PE X (.Compare a [op] [b] ç) (tE X i Φ<|.cmp cop ma mb) :=
 (Ue ho ha hb hm).imp λσ H Q ⟨env,G,Qm,Em,p,w,c⟩=>by
  exact two p w λv u G2 H2 x y k2 p2 rx ry q=>by obtain⟨d,e,q⟩:=eK q;exact hr v u G2 H2 x y d Q p2.hp rx ry e<|c (.bl d) G2 H2 (.bl d) k2 p2.hp (.bl d) q
def LC{a:Expr}(ho:OpR X (è op) r)(hr:ZV i cop r)(ha:PE X a<|tE X i Φ ma)(hb:PE X b<|tE X i Φ mb)(hm:ļ op b=ez):PT X (.Compare a [op] [b] ç) (tTt X i Φ<|.val<|.cmp cop ma mb) :=
 (OO ho ha hb hm).imp λσ H Q ⟨env,G,Qm,Em,p,w,c⟩=>by
  exact two p w λv u G2 H2 x y k2 p2 rx ry q=>by obtain⟨d,e,q⟩:=eK q;obtain⟨d',e',q⟩:=eK q;cases e';exact hr v u G2 H2 x y d _ p2.hp rx ry e ⟨d,rfl,c d G2 H2 k2 p2.hp q⟩
def Wl{v:O.Val}{b:Bool}(h:O.fW v=eh b):v=.bl b:=by cases v<;>simp_all [O.fW]
def ZB{v:O.Val}{b:Int}(h:O.fV v=eh b):v=.int b:=by cases v<;>simp_all [O.fV]
def Ja{v:O.Val}{b:O.Ad}(h:O.fo v=eh b):v=.ref b:=by cases v<;>simp_all [O.fo]
def RV.bl_inv{K:Frag}{b:Bool}(r:RV K H (.bl b) x):x=.bl b:=by cases r;rfl
def RV.int_inv{K:Frag}{b:Int}(r:RV K H (.int b) x):x=.int b:=by cases r;rfl
def RV.ref_inv{K:Frag}{b:È}(r:RV K H (.ref b) x):x=.ref b:=by cases r;rfl
def RV.str_inv{K:Frag}{b:String}(r:RV K H (.str b) x):x=.str (gg b):=by cases r;rfl
def RV.non_inv{K:Frag}(r:RV K H .non x):x=.non:=by cases r;rfl
def Pr{a:Expr}(ha:PE X a<|tE X i Φ ma):PE X (.UnaryOp .Not a ç) (tE X i Φ<|.not ma) :=
 (IX ha).imp λσ H Q ⟨env,G,Qm,Em,p,w,c⟩=>by
  exact one p w λv G1 H1 x k1 p1 r q=>by obtain⟨b,e,q2⟩:=eK q;clear q;cases Wl e;exact⟨b,r.bl_inv,c _ G1 H1 _ k1 p1.hp (.bl _) q2⟩
def P4{a:Expr}(ha:PE X a<|tE X i Φ ma):PE X (.UnaryOp .USub a ç) (tE X i Φ<|.neg ma) :=
 (QG IL ha).imp λσ H Q ⟨env,G,Qm,Em,p,w,c⟩=>by
  exact one p w λv G1 H1 x k1 p1 r q=>by obtain⟨b,e,q2⟩:=eK q;clear q;cases ZB e;exact⟨b,r.int_inv,c _ G1 H1 _ k1 p1.hp (.int _) q2⟩
def Qz{a:Expr}{rest:List Expr}(ha:PE X a<|tE X i Φ ma)(hb:PE X (.BoolOp .And (b::rest) ç)<|tE X i Φ mb):PE X (.BoolOp .And (a::b::rest) ç) (tE X i Φ<|.and ma mb) :=
 (IA ha hb).imp λσ H Q ⟨env,G,Qm,Em,p,w,c⟩=>by
  exact one p w λv G1 H1 x k1 p1 r q=>by
   obtain⟨d,e,q2⟩:=eK q;clear q;cases Wl e;refine⟨d,r.bl_inv,?_⟩;cases d with
   |true=>exact⟨env,G1,Qm,Em,p1,by simpa using q2,c.go k1⟩
   |false=>simp at q2 ⊢;exact c _ G1 H1 _ k1 p1.hp (.bl _) q2
def QY{a:Expr}{rest:List Expr}(ha:PE X a<|tE X i Φ ma)(hb:PE X (.BoolOp .Or (b::rest) ç)<|tE X i Φ mb):PE X (.BoolOp .Or (a::b::rest) ç) (tE X i Φ<|.or ma mb) :=
 (L0 ha hb).imp λσ H Q ⟨env,G,Qm,Em,p,w,c⟩=>by
  exact one p w λv G1 H1 x k1 p1 r q=>by
   obtain⟨d,e,q2⟩:=eK q;clear q;cases Wl e;refine⟨d,r.bl_inv,?_⟩;cases d with
   |false=>exact⟨env,G1,Qm,Em,p1,by simpa using q2,c.go k1⟩
   |true=>simp at q2 ⊢;exact c _ G1 H1 _ k1 p1.hp (.bl _) q2
def LH{a:Expr}{ma:O.Tt}(ha:PT X a<|tTt X i Φ ma):PT X (.UnaryOp .Not a ç) (tTt X i Φ<|.not ma) :=
 (Ld ha).imp λσ H Q ⟨env,G,Qm,Em,p,w,c⟩=>by exact⟨env,G,_,Em,p,w,λb G1 H1 k1 g1 q=>c (!b) G1 H1 k1 g1 q⟩
def G8{a:Expr}{rest:List Expr}{ma mb:O.Tt}(ha:PT X a<|tTt X i Φ ma)(hb:PW X (.BoolOp .And (b::rest) ç)<|tTt X i Φ mb):PW X (.BoolOp .And (a::b::rest) ç) (tTt X i Φ<|.and ma mb) :=
 (HG ha hb).imp λσ H Q ⟨env,G,Qm,Em,p,w,c⟩=>by
  refine⟨env,G,_,Em,p,w,λd G1 H1 k1 g1 q=>?_⟩;cases d with
  |true=>exact⟨env,G1,Qm,Em,p.go k1 g1,by simpa using q,λb G2 H2 k2=>c b G2 H2<|k1.trans k2⟩
  |false=>simp at q ⊢;exact c ez G1 H1 k1 g1 q
def Pj{a:Expr}{rest:List Expr}{ma mb:O.Tt}(ha:PT X a<|tTt X i Φ ma)(hb:PW X (.BoolOp .Or (b::rest) ç)<|tTt X i Φ mb):PW X (.BoolOp .Or (a::b::rest) ç) (tTt X i Φ<|.or ma mb) :=
 (Qo ha hb).imp λσ H Q ⟨env,G,Qm,Em,p,w,c⟩=>by
  refine⟨env,G,_,Em,p,w,λd G1 H1 k1 g1 q=>?_⟩;cases d with
  |false=>exact⟨env,G1,Qm,Em,p.go k1 g1,by simpa using q,λb G2 H2 k2=>c b G2 H2<|k1.trans k2⟩
  |true=>simp at q ⊢;exact c ej G1 H1 k1 g1 q
def DS{a:Expr}{ma:O.Tt}(ha:PT X a<|tTt X i Φ ma):PW X (.BoolOp .And [a] ç)<|tTt X i Φ ma:=Fv ha
def Lb{a:Expr}{ma:O.Tt}(ha:PT X a<|tTt X i Φ ma):PW X (.BoolOp .Or [a] ç)<|tTt X i Φ ma:=G9 ha
def LZ{c a:Expr}{mc:O.Tt}(hc:PT X c<|tTt X i Φ mc)(ha:PE X a<|tE X i Φ ma)(hb:PE X b<|tE X i Φ mb):PE X (.IfExp c a b ç) (tE X i Φ<|.ife mc ma mb) :=
 (CC hc ha hb).imp λσ H Q ⟨env,G,Qm,Em,p,w,c⟩=>by
  refine⟨env,G,_,Em,p,w,λd G1 H1 k1 g1 q=>?_⟩;cases d with
  |true=>exact⟨env,G1,Qm,Em,p.go k1 g1,by simpa using q,c.go k1⟩
  |false=>exact⟨env,G1,Qm,Em,p.go k1 g1,by simpa using q,c.go k1⟩
def LF:PA X []<|tAr X i Φ .nil 0:=fO.imp λσ H Q ⟨env,G,Qm,Em,p,w,c⟩=>by exact c [] G H [] (fc.refl H) p.hp .nil rfl w
def FQ{m:O.E}{ms:O.Es}{n:Nat}(he:PE X e<|tE X i Φ m)(hes:PA X es<|tAr X i Φ ms n)(hs:Ô (e::es) X.env=(ez,eval e X.env)::Ô es X.env):PA X (e::es) (tAr X i Φ (.cons m ms)<|n+1) :=
 (ZI he hes hs).imp λσ H Q ⟨env,G,Qm,Em,p,w,c⟩=>by exact⟨env,G,_,Em,p,w,λv G1 H1 x k1 g1 r1 w1=>⟨env,G1,_,Em,p.go k1 g1,w1,λvs G2 H2 xs k2 g2 r2 hn w2=>c (v::vs) G2 H2 (x::xs) (k1.trans k2) g2 (.cons (r1.keep k2) r2) (by rw[Ë,hn]) w2⟩⟩
def ZL:O.lim<=Ù:=by decide
def Yh{o:O.Ob}{u:HO}(g:RH i G H)(w:O.new G o Qm)(c:Cn i H Q Qm)(r:∀p,H p=ei->RO i (upd H p u) p o):∀p,H p=ei->Q (.ref p) (upd H p u):=λp hp=>by unfold O.new at w;exact c (.ref p) _ _ (.ref p) (fc.new hp) (g.put (fc.new hp)<|r p hp) (.ref p) (w p<|g.free hp)
end Snd
namespace HT2
open PySem PySem.Spec PyProof.Rows L2
abbrev Z2:List Int->List Int->Bool
 |[],[]=>ez
 |[],_::_=>ez
 |_::_,[]=>ej
 |x::xs,y::ys=>if x=y then Z2 xs ys else gf (x > y)
def Dw(A:Ą)(s:Å)(a:Int)(t:Tok)(c:Int)(u:Tok)(prog:à)(w:ó)(E:Â->Å->Prop)(Q:Â->Å->Prop)(h:Q (.bool<|gf (a > c)) s) :
  wpAny (Û prog w) A (richCompare .Gt (.int a t)<|.int c u) Q E s :=
 (PyProof.Rows.gt_int h:wpAny (Û prog w) A (è .Gt (.int a t)<|.int c u) Q E s)
section
open PySem.SeqAt
open PySem.AutoSeq1 (wpAny_loadPart')
open PySem.MeetsSeq PySem.MeetsSeq2 PySem.MeetsSeq3
def J7(l b:È)(items Ł:Array Â)(n n2:Nat)(dd cO:Option È)(sl dL:Array<|Option Â)(ns ms:List Int)(hi:ù items.toList ns)(hj:ù Ł.toList ms) :
  Meets (Builtin.«tuple.__gt__» ⟨[.ref l,.ref b],[]⟩)
   (λ_ R s=>s.heap.get? l=eh { cls:=.type "tuple",dict:=dd,data:=.seq items n,slots:=sl }/\s.heap.get? b=eh { cls:=.type "tuple",dict:=cO,data:=.seq Ł n2,slots:=dL }/\
     R (.ok<|.ret<|.bool<|Z2 ns ms) s) :=
 .of_wp λprog w A R s h=>by
  obtain⟨hp,g,d,tk,os⟩:=s;obtain⟨hl,hb,h⟩:=h;have f2:=AutoSeq1.sub_tuple_tuple;have z1:items.size=ns.length:=by rw[<-hi.length];simp
  have z2:Ł.size=ms.length:=by rw[<-hj.length];simp
  wp_walk using Ę hl,Ę hb,wpAny_forIn_list _ (λrest b s'=>b.1=ei/\s'=⟨hp,g,d,tk,os⟩/\∃(vs ws:List Â) (bW de:List Int),rest=vs.zip ws/\
    ù vs bW/\ù ws de/\bW.length+Ł.size=de.length+items.size/\R (.ok<|.ret<|.bool<|Z2 bW de) ⟨hp,g,d,tk,os⟩) _
  case turn =>
   rintro⟨y,x⟩ rest b s' ⟨bj,rfl,vs,ws,bW,de,hz,hvi,hwi,hlen,hR⟩;cases hvi with
   |nil=>rw[Δ]at hz;cases hz
   |cons a t hvi' =>
    cases hwi with
    |nil=>rw[ν]at hz;cases hz
    |cons c u hwi' =>
     rw[ŋ]at hz;injection hz with hyx hrest;injection hyx with hy hx;subst hy hx;rw[Z2]at hR;simp only[Ë]at hlen;obtain⟨e,he,hiff⟩:=HT.eqAt_int A.in1 ⟨hp,g,d,tk,os⟩ a t c u;refine À<|he prog w _ _ ?_;cases e with
     |true =>
      rw[f6<|hiff.mp rfl]at hR
      wp_walk
      exact⟨rfl,rfl,_,_,_,_,hrest,hvi',hwi',by lia,hR⟩
     |false =>
      rw[f7 λq=>gc (hiff.mpr q) ü]at hR;have hri:=Dw A.in1 ⟨hp,g,d,tk,os⟩ a t c u prog w
      wp_walk using hri
      exact⟨_,rfl,by simpa using hR⟩
  case fin =>
   rintro⟨b1,b2⟩ s' ⟨bj,rfl,vs,ws,bW,de,hz,hvi,hwi,hlen,hR⟩;simp only at bj;subst bj;have hv:Z2 bW de=gf (items.size > Ł.size):=by
    cases hvi with
    |nil =>
     cases hwi with
     |nil =>simp only[Ĳ]at hlen;rw[Z2];exact(f8<|by lia).symm
     |cons c u hw =>simp only[Ĳ,Ë]at hlen;rw[Z2];exact(f8<|by lia).symm
    |cons a t hv =>
     cases hwi with
     |nil =>simp only[Ĳ,Ë]at hlen;rw[Z2];exact(f9<|by lia).symm
     |cons c u hw =>rw[ŋ]at hz;cases hz
   rw[hv]at hR
   wp_walk
   exact⟨_,rfl,by simpa[Builtin.Tuple.tupleCompareSizes]using hR⟩
  case h =>exact⟨rfl,rfl,items.toList,Ł.toList,ns,ms,rfl,hi,hj,by lia,h⟩
end
def Oi{prog:à}{w:ó}{A:Ą}{E:Â->Å->Prop}{s:Å}{l b:È}{items Ł:Array Â}{ns ms:List Int}{Q:Â->Å->Prop}(hl:ah s.heap l items)(hb:ah s.heap b Ł)(hi:ù items.toList ns)(hj:ù Ł.toList ms)
  (hu:A.units<Ĥ) (h:Q (.bool<|Z2 ns ms) s):wpAny (Û prog w) A (è .Gt (.ref l)<|.ref b) Q E s:=by
 obtain⟨⟨cls,dd,data,sl⟩,ho,hc,n,hd⟩:=id hl;obtain⟨⟨cls2,cO,data2,dL⟩,ho2,hc2,n2,bD⟩:=id hb;simp only at hc hd hc2 bD;subst hc hd hc2 bD;exact dR (op:=.Gt) ⟨_,ho,rfl⟩ ⟨_,ho2,rfl⟩ PySem.F.slot_tuple_gt PySem.F.entry_tuple_gt (PySem.F.args_tuple_gt_2 _ _) (J7 l b items Ł n n2 dd cO sl dL ns ms hi hj)
  ⟨ho,ho2,show Value.bool (Z2 ns ms)≠ca/\Q (.bool<|Z2 ns ms) s from ⟨(λx=>nomatch x),h⟩⟩ hu
abbrev rGtT(K:Frag):R2:=λx y H Q=>∃a b ns ms,x=.ref a/\y=.ref b/\fR K H a (ns.map V.int)/\fR K H b (ms.map V.int)/\Q (.bl<|Z2 ns ms) H
def op_gtT{X:Cx}(hu:X.A.units<Ĥ):OpR X (è .Gt)<|rGtT X.K:=by intro Á s σ H x y v u Q I rx ry h;obtain⟨a,b,ns,ms,rfl,rfl,ha,hb,q⟩:=h;cases rx;cases ry;obtain⟨ñ,r1,p1,_⟩:=I.tuple ha;obtain⟨aS,r2,p2,_⟩:=I.tuple hb;have i1:ù ñ.toArray.toList ns:=ZD r1;have i2:ù aS.toArray.toList ms:=ZD r2;exact Oi p1 p2 i1 i2 hu ⟨.bl<|Z2 ns ms,H,I,rfl,q⟩
def lexGt_lt:∀(ns ms:List Int),Z2 ns ms=HT.lexLt ms ns
 |[],[]=>rfl
 |[],_::_=>rfl
 |_::_,[]=>rfl
 |x::xs,y::ys=>by
  rw[Z2,HT.lexLt_cons,lexGt_lt xs ys];by_cases e:x=y
  .rw[f6 e,f6 e.symm]
  .rw[f7 e,f7 λz=>e z.symm]
end HT2
namespace Snd
open PySem L2
mutual
noncomputable def toD:O.D->Ŧ
 |.non=>.none
 |.bl b=>.bool b
 |.int i=>.int i
 |.str s=>.str<|gg s
 |.tup ds=>.tuple<|toDs ds
 |.lst ds=>.list<|toDs ds
noncomputable def toDs:List O.D->List Ŧ
 |[]=>[]
 |d::ds=>toD d::toDs ds
end
def ofS_inj{s t:String}:gg s=gg t↔s=t:=by
 constructor
 .intro h;rw[Str.ofString_eq_toList,Str.ofString_eq_toList]at h;injection h with h;have h2:s.toList.map Ō=t.toList.map Ō:=by simpa using congrArg bH h
  have inj:∀{a b:Char},a.toNat=b.toNat->a=b:=λ{a b} e=>Char.ext<|bz e;have:s.toList=t.toList:=by
   revert h2;generalize s.toList=a;generalize t.toList=b;intro h2;induction a generalizing b with
   |nil=>cases b with
    |nil=>rfl
    |cons _ _=>cases h2
   |cons x xs ih=>cases b with
    |nil=>cases h2
    |cons y ys =>simp only[Ï,List.cons.injEq]at h2;rw[inj h2.1,ih _ h2.2]
  exact String.toList_inj.mp this
 .rintro rfl;rfl
def ES(s t:String):(gg s==gg t)=(s==t):=by
 by_cases e:s=t
 .subst e;simp
 .have:gg s≠gg t:=λz=>e<|ofS_inj.mp z;rw[beq_eq_false_iff_ne.mpr this,beq_eq_false_iff_ne.mpr e]
def Ai(s:String):PyData.strOk (gg s)=ej:=by
 rw[Str.ofString_eq_toList];unfold PyData.strOk;rw[Array.all_eq_true'];intro n hn;have:n∈s.toList.map Ō:=by simpa using hn
 obtain⟨c,_,rfl⟩:=Ú.mp this;have:=c.valid;have h2:c.toNat=c.val.toNat:=rfl;simp only[UInt32.isValidChar,Nat.isValidChar]at this;simp only[gb];lia
mutual
theorem KO:∀d e:O.D,Ģ (toD d) (toD e)=O.D.eqv d e
 |.non,e=>by cases e<;>simp[toD,Ģ,O.D.eqv]
 |.bl _,e=>by cases e<;>simp[toD,Ģ,O.D.eqv]
 |.int _,e=>by cases e<;>simp[toD,Ģ,O.D.eqv]
 |.str s,e=>by cases e<;>simp only[toD,Ģ,O.D.eqv];exact ES _ _
 |.tup ds,e=>by cases e<;>simp only[toD,Ģ,O.D.eqv];exact toDs_eqv _ _
 |.lst ds,e=>by cases e<;>simp only[toD,Ģ,O.D.eqv];exact toDs_eqv _ _
theorem toDs_eqv:∀ds es:List O.D,Β (toDs ds) (toDs es)=O.D.eqvs ds es
 |[],[]=>by simp[toDs,Β,O.D.eqvs]
 |[],_::_=>by simp[toDs,Β,O.D.eqvs]
 |_::_,[]=>by simp[toDs,Β,O.D.eqvs]
 |d::ds,e::es=>by simp only[toDs,Β,O.D.eqvs,KO d e,toDs_eqv ds es]
end
mutual
theorem KQ:∀d:O.D,(toD d).canLay0=ej
 |.non=>by simp[toD,Ũ]
 |.bl _=>by simp[toD,Ũ]
 |.int _=>by simp[toD,Ũ]
 |.str s=>by simp only[toD,Ũ];exact Ai s
 |.tup ds=>by simp only[toD,Ũ];exact toDs_lay ds
 |.lst ds=>by simp only[toD,Ũ];exact toDs_lay ds
theorem toDs_lay:∀ds:List O.D,Ő (toDs ds)=ej
 |[]=>by simp[toDs,Ő]
 |d::ds=>by simp only[toDs,Ő,KQ d,toDs_lay ds,Bool.and_self]
end
section
variable {i:Inf}{G:O.Hs}{H:Hp}
def UM{α β:Type}{f:α->Option β}:∀{xs:List α}{ys:List β},xs.mapM f=eh ys->List.length xs=ys.length/\∀(n:Nat) (x:α),xs[n]?=eh x->∃y,ys[n]?=eh y/\f x=eh y:=by
 intro xs;induction xs with
 |nil=>intro ys h;simp at h;subst h;exact⟨rfl,λn x e=>by simp at e⟩
 |cons a as ih =>
  intro ys h;rw[ο]at h;cases e:f a with
  |none=>rw[e]at h;simp at h
  |some b =>
   rw[e]at h;cases e2:as.mapM f with
   |none=>rw[e2]at h;simp at h
   |some bs =>
    rw[e2]at h;simp at h;subst h;obtain⟨h1,h2⟩:=ih e2;refine⟨by simp[h1],λn x hn=>?_⟩;cases n with
    |zero=>simp at hn;subst hn;exact⟨b,rfl,e⟩
    |succ n=>simp at hn ⊢;exact h2 n x hn
def Ux{K:Frag}{f:O.Val->Option O.D}(hf:∀v d x,f v=eh d->RV K H v x->IsD K H x (toD d)):∀{vs:List O.Val}{xs:List V}{ds:List O.D},vs.mapM f=eh ds->RVs K H vs xs->IsDs K H xs (toDs ds):=by
 intro vs;induction vs with
 |nil=>intro xs ds h r;simp at h;subst h;cases r;exact .nil
 |cons a as ih =>
  intro xs ds h r;rw[ο]at h;cases e:f a with
  |none=>rw[e]at h;simp at h
  |some b =>
   rw[e]at h;cases e2:as.mapM f with
   |none=>rw[e2]at h;simp at h
   |some bs =>
    rw[e2]at h;simp at h;subst h;cases r with
    |cons r1 r2=>exact .cons (hf a b _ e r1)<|ih e2 r2
def ZJ(g:RH i G H){a:È}{xs:List O.Val}(e:O.eU (G a)=eh xs):∃vs,fQ i.K H a vs/\RVs i.K H xs vs:=by
 cases q:G a with
 |none=>rw[q]at e;cases e
 |some o =>
  rw[q]at e;cases o with
  |lst ys=>cases e;obtain⟨vs,h,r⟩:=g a _ q;exact⟨vs,fQ.of h,r⟩
  |dct _=>cases e
  |ins _ _=>cases e
  |exc _=>cases e
  |frz _=>cases e
  |dtp _=>cases e
def Kw:∀ns:List Int,toDs (ns.map O.D.int)=ns.map PyData.int
 |[]=>by simp[toDs]
 |n::ns=>by simp only[Ï,toDs,toD,Kw ns]
def XO(g:RH i G H):∀(n:Nat) (v:O.Val) (d:O.D) (x:V),O.dat G n v=eh d->RV i.K H v x->IsD i.K H x (toD d):=by
 intro n;induction n with
 |zero =>
  intro v d x e r;cases v with
  |non=>cases r;simp[O.dat]at e;subst e;rw[toD];exact .non
  |bl b=>cases r;simp[O.dat]at e;subst e;rw[toD];exact .bl b
  |int b=>cases r;simp[O.dat]at e;subst e;rw[toD];exact .int b
  |str s=>cases r;simp[O.dat]at e;subst e;rw[toD];exact .str _
  |tup xs=>simp[O.dat]at e
  |ref a=>simp[O.dat]at e
  |scr ns=>simp[O.dat]at e
  |key _ _=>simp[O.dat]at e
 |succ n ih =>
  intro v d x e r;cases v with
  |non=>cases r;simp[O.dat]at e;subst e;rw[toD];exact .non
  |bl b=>cases r;simp[O.dat]at e;subst e;rw[toD];exact .bl b
  |int b=>cases r;simp[O.dat]at e;subst e;rw[toD];exact .int b
  |str s=>cases r;simp[O.dat]at e;subst e;rw[toD];exact .str _
  |tup xs =>
   rw[O.dat]at e;cases z:xs.mapM (O.dat G n)with
   |none=>rw[z]at e;cases e
   |some ds =>
    rw[z]at e;cases e;cases r with
    |tup hp hr=>rw[toD];exact .tup (Zk hp)<|Ux ih z hr
  |ref a =>
   rw[O.dat]at e;cases q:O.eU (G a)with
   |none=>rw[q]at e;cases e
   |some xs =>
    rw[q]at e;simp only[ú]at e;cases z:xs.mapM (O.dat G n)with
    |none=>rw[z]at e;cases e
    |some ds =>rw[z]at e;cases e;cases r.ref_inv;obtain⟨vs,h1,h2⟩:=ZJ g q;rw[toD];exact .lst h1<|Ux ih z h2
  |scr ns =>
   simp[O.dat]at e;subst e;cases r with
   |scr h =>rw[toD,Kw];exact .lst (Z0 h)<|IsDs.ints ns
  |key _ _=>simp[O.dat]at e
def Xs{n:Nat}:∀{ds:List O.D},(∀d∈ds,(toD d).depth<=n)->ľ (toDs ds)<=n
 |[],_=>by rw[toDs];simp[ľ]
 |d::ds,h=>by rw[toDs];simp only[ľ];exact Nat.max_le.mpr ⟨h d (by simp),Xs λe he=>h e<|by simp[he]⟩
def Ku:∀(n:Nat) (v:O.Val) (d:O.D),O.dat G n v=eh d->(toD d).depth<=n:=by
 have sc:∀(n:Nat) (v:O.Val) (d:O.D),(∀xs,v≠.tup xs)->(∀a,v≠.ref a)->(∀ns,v≠.scr ns)->O.dat G n v=eh d->(toD d).depth<=n:=by
  intro n v d h1 h2 h3 e;cases v with
  |tup xs=>exact gc rfl<|h1 xs
  |ref a=>exact gc rfl<|h2 a
  |scr ns=>exact gc rfl<|h3 ns
  |key _ _=>cases n<;>simp[O.dat]at e
  |_=>simp[O.dat]at e;subst e;simp[toD,PyData.depth]
 have ms:∀(n:Nat),(∀v d,O.dat G n v=eh d->(toD d).depth<=n)->∀(xs:List O.Val) (ds:List O.D),xs.mapM (O.dat G n)=eh ds->ľ (toDs ds)<=n:=by
  intro n ih xs ds z;refine Xs λd hd=>?_;obtain⟨k,hk⟩:=cr.mp hd;obtain⟨h1,h2⟩:=UM z;have Ϥ:k<xs.length:=by rw[h1];exact(Ð.mp hk).1
  obtain⟨y,hy,hf⟩:=h2 k xs[k]<|Ê Ϥ;rw[hk]at hy;cases hy;exact ih _ _ hf
 intro n;induction n with
 |zero =>
  intro v d e;cases v with
  |tup xs=>simp[O.dat]at e
  |ref a=>simp[O.dat]at e
  |scr ns=>simp[O.dat]at e
  |_=>exact sc 0 _ d (by simp) (by simp) (by simp) e
 |succ n ih =>
  intro v d e;cases v with
  |tup xs =>
   rw[O.dat]at e;cases z:xs.mapM (O.dat G n)with
   |none=>rw[z]at e;cases e
   |some ds =>rw[z]at e;cases e;rw[toD];exact Ο<|ms n ih xs ds z
  |ref a =>
   rw[O.dat]at e;cases q:O.eU (G a)with
   |none=>rw[q]at e;cases e
   |some xs =>
    rw[q]at e;simp only[ú]at e;cases z:xs.mapM (O.dat G n)with
    |none=>rw[z]at e;cases e
    |some ds =>rw[z]at e;cases e;rw[toD];exact Ο<|ms n ih xs ds z
  |scr ns =>simp[O.dat]at e;subst e;rw[toD];refine Ο<|Ý ?_<|į n;refine Xs λd hd=>?_;obtain⟨m,_,rfl⟩:=Ú.mp hd;simp[toD,PyData.depth]
  |_=>exact sc (n+1) _ d (by simp) (by simp) (by simp) e
def Jf{v:O.Val}{d:O.D}(e:O.dat G O.deep v=eh d):SeqAt.shaped (toD d)=ej:=by show((toD d).canLay0&&gf ((toD d).depth<=64))=ej;rw[KQ,f9<|Ý (Ku _ _ _ e)<|by decide];rfl
def Uz(g:RH i G H){v u:O.Val}{x y:V}{c:Bool}(rx:RV i.K H v x)(ry:RV i.K H u y)(e:O.eqV G v u=eh c):∃d d',IsD i.K H x d/\IsD i.K H y d'/\SeqAt.shaped d=ej/\SeqAt.shaped d'=ej/\Ģ d d'=c:=by
 unfold O.eqV at e;cases z:O.dat G O.deep v with
 |none=>rw[z]at e;cases e
 |some d =>
  cases z2:O.dat G O.deep u with
  |none=>rw[z,z2]at e;cases e
  |some d' =>rw[z,z2]at e;cases e;exact⟨_,_,XO g _ _ _ _ z rx,XO g _ _ _ _ z2 ry,Jf z,Jf z2,KO d d'⟩
def QS:ZV i .eq<|P7 i.K:=by intro v u G H x y c Q g rx ry e q;obtain⟨d,d',h1,h2,h3,h4,h5⟩:=Uz g rx ry e;exact⟨d,d',h1,h2,h3,h4,by rw[h5];exact q⟩
def RG:ZV i .ne<|P8 i.K:=by
 intro v u G H x y c Q g rx ry e q;have e:(O.eqV G v u).map (!·)=eh c:=e;cases z:O.eqV G v u with
 |none=>rw[z]at e;cases e
 |some b =>rw[z]at e;cases e;obtain⟨d,d',h1,h2,h3,h4,h5⟩:=Uz g rx ry z;exact⟨d,d',h1,h2,h3,h4,by rw[h5];exact q⟩
end
variable {i:Inf}{X:Cx}{Φ:O.Fs}
def Zs(s:String):(gg s).length=s.length:=by rw[Str.ofString_eq_toList];show(List.map Ō s.toList).toArray.size=_;rw[Í,Ã];first|rfl|exact bQ
def Ml(s t:String):gg (s++t)=gg s++gg t:=by rw[Str.ofString_eq_toList,Str.ofString_eq_toList,Str.ofString_eq_toList];show _=Str.append _ _;unfold Str.append;simp
variable {xs:List O.Val}
def UW{o:Option O.Ob}(h:O.eU o=eh xs):o=eh (.lst xs):=by
 cases o with
 |none=>cases h
 |some o=>cases o with
  |lst ys=>cases h;rfl
  |_=>cases h
variable {p:Prop}
def Zo{α:Type}[Decidable p]{o:Option α}{a:α}(e:(if p then o else ei)=eh a):p/\o=eh a:=by
 by_cases q:p
 .rw[f6 q]at e;exact⟨q,e⟩
 .rw[f7 q]at e;cases e
variable {h:O.Hs} {Q:O.Q1}
def Zf(w:O.Rs.no.wp h Q):False:=by rw[O.Rs.wp_no]at w;exact w
def Zi{v:O.Val}(w:(O.Rs.val v).wp h Q):Q v h:=by rw[O.Rs.wp_val]at w;exact w
def KY{o:O.Ob}(w:(O.Rs.new o).wp h Q):O.new h o Q:=by rw[O.Rs.wp_new]at w;exact w
def XT[Decidable p]{r:O.Rs}(w:(if p then r else .no).wp h Q):p/\r.wp h Q:=by
 by_cases e:p
 .rw[f6 e]at w;exact⟨e,w⟩
 .rw[f7 e]at w;exact(Zf w).elim
variable {u:O.Val}
def Xj{f:Int->Int->O.Rs}{v:O.Val}(w:(O.intV f v u).wp h Q):∃i j,v=.int i/\u=.int j/\(f i j).wp h Q:=by
 cases v with
 |int i=>cases u with
  |int j=>exact⟨i,j,rfl,rfl,w⟩
  |_=>exact(Zf w).elim
 |_=>exact(Zf w).elim
abbrev Gi(K:Frag):R2:=λx y H Q=>(rI0 λi j=>.int<|i+j) x y H Q\/(((Gn K x y H Q\/Gj K x y H Q)\/Qf x y H Q)\/∃i j,x=.str i/\y=.str j/\i.length+j.length<=Ù/\Q (.str<|i++j) H)
def L6:OpR X (ń .Add)<|Gi X.K:=op_add.or (((op_cat0.or FP).or IH).or N3)
def b_add:JA i .add<|Gi i.K:=by
 intro v u G H x y Q Qm g rx ry w c;cases v<;>cases u<;>first|exact(Zf w).elim|skip
 case int.int a b =>
  replace w:=Zi w
  exact .inl ⟨a,b,rx.int_inv,ry.int_inv,c _ G H _ (fc.refl H) g (.int _) w⟩
 case str.str a b =>
  obtain⟨h,w⟩:=XT w
  replace w:=Zi w
  refine .inr<|.inr ⟨_,_,rx.str_inv,ry.str_inv,?_,?_⟩
  .rw[Zs,Zs];exact Ý h ZL
  .rw[<-Ml];exact c _ G H _ (fc.refl H) g (.str _) w
 case tup.tup xs ys =>
  obtain⟨h,w⟩:=XT w
  replace w:=Zi w
  .skip
   cases rx with
   |@tup _ p vs hp hr =>
   cases ry with
   |@tup _ q us hq hs =>
   by_cases h0:vs=[]
   .subst h0;have:xs=[]:=ap hr.length;subst this;exact .inr<|.inl<|.inl<|.inl ⟨p,q,us,rfl,rfl,Zk hp,Zk hq,c _ G H _ (fc.refl H) g (.tup hq hs) w⟩
   refine .inr<|.inl<|.inl<|.inr ⟨p,q,vs,us,rfl,rfl,Zk hp,Zk hq,h0,?_,λz=>?_,λz a ha=>?_⟩
   .rw[<-hr.length,<-hs.length];exact Ý h ZL
   .have:ys=[]:=ap (by rw[hs.length,z];rfl);subst this;rw[Ā]at w;exact c _ G H _ (fc.refl H) g (.tup hp hr) w
   .have k:=fc.new (o:=.tup<|vs++us) ha;refine c _ G _ _ k (g.hid k λb o e=>eB ?_) (.tup (.inl eC)<|(hr.keep k).append<|hs.keep k) w;rintro rfl;rw[g.free ha]at e;cases e
 case ref.ref a b =>
  dsimp only[O.binV,O.addV]at w;split at w
  .rename_i xs ys e1 e2;unfold O.Rs.lst at w;split at w
   .rename_i hl;rw[O.Rs.wp_new]at w;cases rx.ref_inv;cases ry.ref_inv;obtain⟨vs,h1,r1⟩:=g a _ e1;obtain⟨us,h2,r2⟩:=g b _ e2;refine .inr (.inl<|.inr ⟨a,b,vs,us,rfl,rfl,h1,h2,?_,Yh g w c λp hp=>?_⟩)
    .rw[<-r1.length,<-r2.length,<-ê];exact Ý hl ZL
    .have k:=fc.new (o:=.lst<|vs++us) hp;exact⟨_,eC,(r1.keep k).append<|r2.keep k⟩
   .exact(Zf w).elim
  .exact(Zf w).elim
def b_sub:JA i .sub<|rI0 λi j=>.int<|i - j:=by intro v u G H x y Q Qm g rx ry w c;obtain⟨a,b,rfl,rfl,w⟩:=Xj w;exact⟨a,b,rx.int_inv,ry.int_inv,c _ G H _ (fc.refl H) g (.int _)<|Zi w⟩
def RVs.rep{K:Frag}{H:Hp}{vs:List O.Val}{xs:List V}(r:RVs K H vs xs):∀n,RVs K H (Õ n vs).flatten (Õ n xs).flatten
 |0=>.nil
 |n+1=>by rw[ċ,ċ,ł,ł];exact r.append<|RVs.rep r n
set_option exponentiation.threshold 2000 in
def Lg{i j:Int}(h:O.mulOk i j):IntMulOk i j:=by
 rcases h with(h|h)|⟨h1,h2⟩
 .exact .of_left (ai (by lia)<|by lia)
 .exact .of_right (ai (by lia)<|by lia)
 .have e:(10:Nat) ^ 200<2 ^ 1000:=by decide
  exact .of_bits (Ý (PyProof.Rows.intBits_le<|Ø h1 e)<|by decide) (Ý (PyProof.Rows.intBits_le<|Ø h2 e)<|by decide)
def ET(s:String)(n:Nat):Hg (gg s) n=gg (O.repT s n):=by unfold Hg O.repT;rw[Str.ofString_eq_toList,Str.ofString_eq_toList,bR];congr 1;apply dZ.mp;rw[KF];simp[List.map_flatten,List.map_replicate]
abbrev GG:R2:=λx y H Q=>rI O.mulOk (λi j=>.int<|i*j) x y H Q\/(LL x y H Q\/Gx x y H Q)
def Qx:OpR X (ń .Mult) GG:=OpR.or (opI λ_ _ _ _ _ _ _ hc q=>PyProof.Rows.mul_int q<|Lg hc) (op_rep.or E9)
def b_mul:JA i .mul GG:=by
 intro v u G H x y Q Qm g rx ry w c;cases v<;>cases u<;>first|exact(Zf w).elim|skip
 case int.int a b =>obtain⟨h,w⟩:=XT w;exact .inl ⟨a,b,rx.int_inv,ry.int_inv,h,c _ G H _ (fc.refl H) g (.int _)<|Zi w⟩
 case ref.int a k =>
  dsimp only[O.binV,O.mulV]at w;split at w
  .rename_i xs e1;split at w
   .rename_i hk;unfold O.Rs.lst at w;split at w
    .rw[O.Rs.wp_new]at w;cases rx.ref_inv;cases ry.int_inv;obtain⟨vs,h1,r1⟩:=g a _ e1;refine .inr (.inl ⟨a,k,vs,rfl,rfl,h1,by lia,by lia,?_,Yh g w c λp hp=>?_⟩)
     .rw[<-r1.length];exact Ý hk.2.2 ZL
     .have kk:=fc.new (o:=.lst (Õ k.toNat vs).flatten) hp;exact⟨_,eC,(r1.keep kk).rep _⟩
    .exact(Zf w).elim
   .exact(Zf w).elim
  .exact(Zf w).elim
 case str.int a k =>
  obtain⟨hk,w⟩:=XT w
  replace w:=Zi w
  refine .inr (.inr ⟨_,k,rx.str_inv,ry.int_inv,hk.1,hk.2.1,by rw[Zs];exact hk.2.2.1,by rw[Zs];exact hk.2.2.2,?_⟩);rw[ET];exact c _ G H _ (fc.refl H) g (.str _) w
def b_fdiv:JA i .fdiv<|rI LN λi j=>.int<|i / j:=by intro v u G H x y Q Qm g rx ry w c;obtain⟨a,b,rfl,rfl,w⟩:=Xj w;obtain⟨h,w⟩:=XT w;exact⟨a,b,rx.int_inv,ry.int_inv,h,c _ G H _ (fc.refl H) g (.int _)<|Zi w⟩
def b_mod:JA i .mod<|rI (λ_ j=>0<j) λi j=>.int<|i % j:=by intro v u G H x y Q Qm g rx ry w c;obtain⟨a,b,rfl,rfl,w⟩:=Xj w;obtain⟨h,w⟩:=XT w;exact⟨a,b,rx.int_inv,ry.int_inv,h,c _ G H _ (fc.refl H) g (.int _)<|Zi w⟩
def b_pow:JA i .pow<|rI Qi λi j=>.int<|i ^ j.toNat:=by intro v u G H x y Q Qm g rx ry w c;obtain⟨a,b,rfl,rfl,w⟩:=Xj w;obtain⟨h,w⟩:=XT w;exact⟨a,b,rx.int_inv,ry.int_inv,h,c _ G H _ (fc.refl H) g (.int _)<|Zi w⟩
def ZQ{K:Frag}{H:Hp}:∀{xs:List O.Val}{ns:List Int}{vs:List V},O.eN xs=eh ns->RVs K H xs vs->vs=ns.map V.int
 |[],_,_,e,r=>by cases r;cases e;rfl
 |v::xs,_,_,e,r=>by
  cases r with
  |cons r t=>cases v with
   |int k =>
    have e:(O.eN xs).map (k :: ·)=eh _:=e;cases z:O.eN xs with
    |none=>rw[z]at e;cases e
    |some ns=>rw[z]at e;cases e;cases r;rw[ZQ z t];rfl
   |_=>cases e
def Mi:∀(ns ms:List Int),O.fu ns ms=HT.lexLt ns ms
 |[],[]=>rfl
 |[],_::_=>rfl
 |_::_,[]=>rfl
 |x::xs,y::ys=>by rw[O.fu,HT.lexLt_cons,Mi xs ys]
abbrev QD(K:Frag):R2:=λx y H Q=>rI0 (λi j=>.bl<|gf (i<j)) x y H Q\/LX K x y H Q
def Rg(hu:X.A.units<Ĥ):OpR X (è .Lt)<|QD X.K:=op_lt.or (Ir hu)
abbrev P3(K:Frag):R2:=λx y H Q=>rI0 (λi j=>.bl<|gf (j<i)) x y H Q\/HT2.rGtT K x y H Q
def Q0(hu:X.A.units<Ĥ):OpR X (è .Gt)<|P3 X.K:=op_gt.or (HT2.op_gtT hu)
variable {H:Hp} {x:V} {c:Bool}
def GI{K:Frag}{ys:List O.Val}{y:V}(rx:RV K H (.tup xs) x)(ry:RV K H (.tup ys) y)(e:O.fv (.tup xs) (.tup ys)=eh c):∃a b ns ms,x=.ref a/\y=.ref b/\fR K H a (ns.map V.int)/\fR K H b (ms.map V.int)/\HT.lexLt ns ms=c:=by
 simp only[O.fv]at e;cases z1:O.eN xs with
 |none=>rw[z1]at e;cases e
 |some ns =>
  cases z2:O.eN ys with
  |none=>rw[z1,z2]at e;cases e
  |some ms =>
   rw[z1,z2]at e;cases e;cases rx with
   |@tup _ p vs hp hr =>
   cases ry with
   |@tup _ q us hq hs =>
   have h1:=ZQ z1 hr;have h2:=ZQ z2 hs;subst h1 h2;exact⟨p,q,ns,ms,rfl,rfl,Zk hp,Zk hq,(Mi _ _).symm⟩
def c_lt:ZV i .lt<|QD i.K:=by
 intro v u G H x y c Q g rx ry e q
 replace e:O.fv v u=eh c:=e
 cases v<;>cases u<;>first|(cases e;done)|skip
 case int.int a b=>cases e;exact .inl ⟨a,b,rx.int_inv,ry.int_inv,q⟩
 case tup.tup xs ys =>obtain⟨a,b,ns,ms,h1,h2,h3,h4,h5⟩:=GI rx ry e;exact .inr ⟨a,b,ns,ms,h1,h2,h3,h4,by rw[h5];exact q⟩
def c_gt:ZV i .gt<|P3 i.K:=by
 intro v u G H x y c Q g rx ry e q
 replace e:O.fv u v=eh c:=e
 cases v<;>cases u<;>first|(cases e;done)|skip
 case int.int a b=>cases e;exact .inl ⟨a,b,rx.int_inv,ry.int_inv,q⟩
 case tup.tup xs ys =>obtain⟨a,b,ns,ms,h1,h2,h3,h4,h5⟩:=GI ry rx e;exact .inr ⟨b,a,ms,ns,h2,h1,h4,h3,by rw[HT2.lexGt_lt,h5];exact q⟩
def Gp{v:O.Val}(e:O.leV v u=eh c):∃i j,v=.int i/\u=.int j/\gf (i<=j)=c:=by
 cases v with
 |int i=>cases u with
  |int j=>cases e;exact⟨i,j,rfl,rfl,rfl⟩
  |_=>cases e
 |_=>cases e
def c_le:ZV i .le<|rI0 λi j=>.bl<|gf (i<=j):=by intro v u G H x y c Q g rx ry e q;obtain⟨a,b,rfl,rfl,rfl⟩:=Gp e;exact⟨a,b,rx.int_inv,ry.int_inv,q⟩
def c_ge:ZV i .ge<|rI0 λi j=>.bl<|gf (j<=i):=by intro v u G H x y c Q g rx ry e q;obtain⟨a,b,rfl,rfl,rfl⟩:=Gp e;exact⟨b,a,rx.int_inv,ry.int_inv,q⟩
def RV.isN{K:Frag}{v:O.Val}(r:RV K H v x):gf (x=.non)=gf (v=.non):=by cases r<;>simp
variable {a:Expr} {ma:O.E} {ç:Pos} {p2:Pos} {j:Nat}
def Qe(ha:PE X a<|tE X i Φ ma):PE X (.Compare a [.Is] [.Constant .none j p2] ç) (tE X i Φ<|.cmp .is ma<|.cst .non) :=
 (C8 (DL ha) rfl).imp λσ H Q ⟨env,G,Qm,Em,p,w,c⟩=>by refine one p w λv G1 H1 x k1 p1 r q=>?_;obtain⟨d,e,q2⟩:=eK q;have e:eh (gf (v=.non))=eh d:=e;cases e;rw[r.isN];exact c _ G1 H1 _ k1 p1.hp (.bl _) q2
def Lc(ha:PE X a<|tE X i Φ ma):PE X (.Compare a [.IsNot] [.Constant .none j p2] ç) (tE X i Φ<|.cmp .isnot ma<|.cst .non) :=
 (C8 (OK ha) rfl).imp λσ H Q ⟨env,G,Qm,Em,p,w,c⟩=>by refine one p w λv G1 H1 x k1 p1 r q=>?_;obtain⟨d,e,q2⟩:=eK q;have e:eh (!gf (v=.non))=eh d:=e;cases e;rw[r.isN];exact c _ G1 H1 _ k1 p1.hp (.bl _) q2
def Ix(ha:PE X a<|tE X i Φ ma):PT X (.Compare a [.Is] [.Constant .none j p2] ç) (tTt X i Φ<|.val<|.cmp .is ma<|.cst .non) :=
 (Cw (DL ha) rfl).imp λσ H Q ⟨env,G,Qm,Em,p,w,c⟩=>by refine one p w λv G1 H1 x k1 p1 r q=>?_;obtain⟨d,e,q2⟩:=eK q;obtain⟨d',e',q3⟩:=eK q2;cases e';have e:eh (gf (v=.non))=eh d:=e;cases e;rw[r.isN];exact⟨_,rfl,c _ G1 H1 k1 p1.hp q3⟩
def Fw(ha:PE X a<|tE X i Φ ma):PT X (.Compare a [.IsNot] [.Constant .none j p2] ç) (tTt X i Φ<|.val<|.cmp .isnot ma<|.cst .non) :=
 (Cw (OK ha) rfl).imp λσ H Q ⟨env,G,Qm,Em,p,w,c⟩=>by refine one p w λv G1 H1 x k1 p1 r q=>?_;obtain⟨d,e,q2⟩:=eK q;obtain⟨d',e',q3⟩:=eK q2;cases e';have e:eh (!gf (v=.non))=eh d:=e;cases e;rw[r.isN];exact⟨_,rfl,c _ G1 H1 k1 p1.hp q3⟩
end Snd
namespace Snd
open PySem L2 PySem.Spec PyProof.Rows
variable {i:Inf}{X:Cx}{Φ:O.Fs}
def RKs.length{K:Frag}{H:Hp}:∀{kvs:List (O.Val×O.Val)}{ps:List (Key×V)},RKs K H kvs ps->kvs.length=ps.length
 |_,_,.nil=>rfl
 |_,_,.cons _ _ t=>by rw[Ë,Ë,RKs.length t]
def WU{k j:O.Val}{c d:Key}(a:Wv k c)(b:Wv j d):(k==j)=gf (c=d):=by
 have key:k=j↔c=d:=by
  cases k<;>cases c<;>first|(cases a;done)|skip
  .cases j<;>cases d<;>first|(cases b;done)|skip
   .cases a;cases b;simp
   .cases a;cases b;simp
  .cases j<;>cases d<;>first|(cases b;done)|skip
   .cases a;cases b;simp
   .cases a;cases b;simp[ofS_inj]
 by_cases e:k=j
 .rw[f9<|key.mp e,e];simp
 .rw[f8 λz=>e<|key.mpr z];simpa using e
def eW{k:O.Val}{x:V}{K:Frag}{H:Hp}(h:O.eZ k=ej)(r:RV K H k x):∃c,Wv k c/\x=kV c:=by
 cases k with
 |int n=>cases r.int_inv;exact⟨.inl n,rfl,rfl⟩
 |str s=>cases r.str_inv;exact⟨.inr<|gg s,rfl,rfl⟩
 |_=>cases h
def RKs.look{K:Frag}{H:Hp}{k:O.Val}{c:Key}(a:Wv k c):∀{kvs:List (O.Val×O.Val)}{ps:List (Key×V)},RKs K H kvs ps->
  (∀v,O.fe kvs k=eh v->∃x,Yl ps c=eh x/\RV K H v x)/\(O.fe kvs k=ei->Yl ps c=ei)
 |_,_,.nil=>⟨λv e=>(by cases e),λ_=>rfl⟩
 |_,_,.cons (k:=j) (v:=u) (c:=d) (x:=y) (kvs:=kvs) (ps:=ps) b r t=>by
  have ih:=RKs.look a t;have q:=WU b a;by_cases e:d=c
  .rw[f9 e]at q;have e1:O.fe ((j,u)::kvs) k=eh u:=by simp[O.fe,Ė,q]
   rw[e1,Y3 e];exact⟨λv z=>(by cases z;exact⟨y,rfl,r⟩),λz=>(by cases z)⟩
  .rw[f8 e]at q;have e1:O.fe ((j,u)::kvs) k=O.fe kvs k:=by simp[O.fe,Ė,q]
   rw[e1,Xf e];exact ih
def RKs.has{K:Frag}{H:Hp}{k:O.Val}{c:Key}(a:Wv k c):∀{kvs:List (O.Val×O.Val)}{ps:List (Key×V)},RKs K H kvs ps->O.ff kvs k=ps.any λkv=>gf (kv.1=c)
 |_,_,.nil=>rfl
 |_,_,.cons b r t=>by have ih:=RKs.has a t;unfold O.ff at ih ⊢;rw[ķ,ķ,ih,WU b a]
def RKs.app{K:Frag}{H:Hp}{k v:O.Val}{c:Key}{x:V}(a:Wv k c)(q:RV K H v x):∀{kvs:List (O.Val×O.Val)}{ps:List (Key×V)},RKs K H kvs ps->RKs K H (kvs++[(k,v)]) (ps++[(c,x)])
 |_,_,.nil=>.cons a q .nil
 |_,_,.cons b r t=>.cons b r<|RKs.app a q t
def RKs.repl{K:Frag}{H:Hp}{k v:O.Val}{c:Key}{x:V}(a:Wv k c)(q:RV K H v x):∀{kvs:List (O.Val×O.Val)}{ps:List (Key×V)},RKs K H kvs ps->
  RKs K H (kvs.map λp=>if p.1==k then(k,v)else p) (ps.map λkv=>if kv.1=c then(kv.1,x)else kv)
 |_,_,.nil=>.nil
 |_,_,.cons (k:=j) (v:=u) (c:=d) (x:=y) b r t=>by
  have ih:=RKs.repl a q t;have z:=WU b a;rw[Ï,Ï];by_cases e:d=c
  .rw[f9 e]at z;rw[f6 z,f6 e];exact .cons (e▸a) q ih
  .rw[f8 e]at z;rw[f7 (by rw[z];decide),f7 e];exact .cons b r ih
def RKs.put{K:Frag}{H:Hp}{k v:O.Val}{c:Key}{x:V}(a:Wv k c)(q:RV K H v x){kvs:List (O.Val×O.Val)}{ps:List (Key×V)}(r:RKs K H kvs ps):RKs K H (O.fg kvs k v)<|L2.fg ps c x:=by
 unfold O.fg L2.fg;rw[r.has a];by_cases e:(ps.any λkv=>gf (kv.1=c))=ej
 .rw[f6 e,f6 e];exact r.repl a q
 .rw[f7 e,f7 e];exact r.app a q
def RKs.drop{K:Frag}{H:Hp}{k:O.Val}{c:Key}(a:Wv k c):∀{kvs:List (O.Val×O.Val)}{ps:List (Key×V)},RKs K H kvs ps->RKs K H (O.fh kvs k) (L2.fh ps c)
 |_,_,.nil=>.nil
 |_,_,.cons (k:=j) (v:=u) (c:=d) (x:=y) b r t=>by
  have ih:=RKs.drop a t;have z:=WU b a;unfold O.fh L2.fh at ih ⊢;rw[Ĩ,Ĩ];by_cases e:d=c
  .rw[f9 e]at z;rw[f7 (by rw[z];decide),f7<|by simpa using e];exact ih
  .rw[f8 e]at z;rw[f6 (by rw[z];rfl),f6<|by simpa using e];exact .cons b r ih
variable {G:O.Hs} {H:Hp} {a:È} {kvs':List (O.Val×O.Val)}
def Mm{kvs:List (O.Val×O.Val)}{ps cH:List (Key×V)}(g:RH i G H)(h:H a=eh (.dK ps))(r:RKs i.K H kvs' cH):fc H (upd H a<|.dK cH)/\RH i (O.upd G a<|.dct kvs') (upd H a<|.dK cH):=by
 have k:fc H<|upd H a<|.dK cH:=fc.put (λxs e=>by rw[h]at e;cases e) λp u e=>by rw[h]at e;cases e
 exact⟨k,g.put k ⟨cH,eC,r.keep k⟩⟩
def RTs.length{K:Frag}{H:Hp}:∀{kvs:List (O.Val×O.Val)}{ps:List (List Key×V)},RTs K H kvs ps->kvs.length=ps.length
 |_,_,.nil=>rfl
 |_,_,.cons _ t=>by rw[Ë,Ë,RTs.length t]
def Mh(a b i j:Int):(O.Val.key a b == .key i j)=gf (([.inl a,.inl b]:List Key)=[.inl i,.inl j]):=by
 by_cases e:a=i/\b=j
 .obtain⟨rfl,rfl⟩:=e;rw[f9 rfl];simp
 .rw[f8 λz=>e<|by simpa using z];exact beq_eq_false_iff_ne.mpr λz=>e (by simpa using z)
def RTs.look{K:Frag}{H:Hp}{i j:Int}:∀{kvs:List (O.Val×O.Val)}{ps:List (List Key×V)},RTs K H kvs ps->
  (∀v,O.fe kvs (.key i j)=eh v->∃x,Yl ps [.inl i,.inl j]=eh x/\RV K H v x)/\(O.fe kvs (.key i j)=ei->Yl ps [.inl i,.inl j]=ei)
 |_,_,.nil=>⟨λv e=>(by cases e),λ_=>rfl⟩
 |_,_,.cons (i:=a) (j:=b) (v:=u) (x:=y) (kvs:=kvs) (ps:=ps) r t=>by
  have ih:=RTs.look (i:=i) (j:=j) t;have q:=Mh a b i j;by_cases e:([.inl a,.inl b]:List Key)=[.inl i,.inl j]
  .rw[f9 e]at q;have e1:O.fe ((.key a b,u)::kvs) (.key i j)=eh u:=by simp[O.fe,Ė,q]
   rw[e1,Y3 e];exact⟨λv z=>(by cases z;exact⟨y,rfl,r⟩),λz=>(by cases z)⟩
  .rw[f8 e]at q;have e1:O.fe ((.key a b,u)::kvs) (.key i j)=O.fe kvs (.key i j):=by simp[O.fe,Ė,q]
   rw[e1,Xf e];exact ih
def RTs.has{K:Frag}{H:Hp}{i j:Int}:∀{kvs:List (O.Val×O.Val)}{ps:List (List Key×V)},RTs K H kvs ps->O.ff kvs (.key i j)=ps.any λkv=>gf (kv.1=[.inl i,.inl j])
 |_,_,.nil=>rfl
 |_,_,.cons (i:=a) (j:=b) r t=>by have ih:=RTs.has (i:=i) (j:=j) t;unfold O.ff at ih ⊢;rw[ķ,ķ,ih,Mh a b i j]
def RTs.app{K:Frag}{H:Hp}{v:O.Val}{i j:Int}{x:V}(q:RV K H v x):∀{kvs:List (O.Val×O.Val)}{ps:List (List Key×V)},RTs K H kvs ps->RTs K H (kvs++[(.key i j,v)]) (ps++[([.inl i,.inl j],x)])
 |_,_,.nil=>.cons q .nil
 |_,_,.cons r t=>.cons r<|RTs.app q t
def RTs.repl{K:Frag}{H:Hp}{v:O.Val}{i j:Int}{x:V}(q:RV K H v x):∀{kvs:List (O.Val×O.Val)}{ps:List (List Key×V)},RTs K H kvs ps->
  RTs K H (kvs.map λp=>if p.1 == .key i j then(.key i j,v)else p) (ps.map λkv=>if kv.1=[.inl i,.inl j]then(kv.1,x)else kv)
 |_,_,.nil=>.nil
 |_,_,.cons (i:=a) (j:=b) (v:=u) (x:=y) r t=>by
  have ih:=RTs.repl (i:=i) (j:=j) q t;have z:=Mh a b i j;rw[Ï,Ï];by_cases e:([.inl a,.inl b]:List Key)=[.inl i,.inl j]
  .rw[f9 e]at z;simp only[z,if_true,e];exact .cons q ih
  .rw[f8 e]at z;simp only[z,e,if_false,ħ];exact .cons r ih
def RTs.put{K:Frag}{H:Hp}{v:O.Val}{i j:Int}{x:V}(q:RV K H v x){kvs:List (O.Val×O.Val)}{ps:List (List Key×V)}(r:RTs K H kvs ps):RTs K H (O.fg kvs (.key i j) v)<|L2.fg ps [.inl i,.inl j] x:=by
 unfold O.fg L2.fg;rw[r.has];by_cases e:(ps.any λkv=>gf (kv.1=[.inl i,.inl j]))=ej
 .rw[f6 e,f6 e];exact r.repl q
 .rw[f7 e,f7 e];exact r.app q
def DP{ps cH:List (List Key×V)}(g:RH i G H)(h:H a=eh (.dT ps))(r:RTs i.K H kvs' cH):fc H (upd H a<|.dT cH)/\RH i (O.upd G a<|.dtp kvs') (upd H a<|.dT cH):=by
 have k:fc H<|upd H a<|.dT cH:=fc.put (λxs e=>by rw[h]at e;cases e) λp u e=>by rw[h]at e;cases e
 exact⟨k,g.put k ⟨cH,eC,r.keep k⟩⟩
def WB{k:O.Val}{x:V}{K:Frag}{H:Hp}(h:O.isKeyT k=ej)(r:RV K H k x):∃a b c,k=.key a b/\x=.ref c/\H c=eh (.tup<|([.inl a,.inl b]:List Key).map kV):=by
 cases k with
 |key a b=>cases r with|key e=>exact⟨a,b,_,rfl,rfl,e⟩
 |_=>cases h
abbrev Dg:R2:=λx y H Q=>∃a v,x=.ref a/\DGet H a y (eh v)/\Q v H
def FL(hu:X.A.units+1<Ĥ):IxR X Dg:=by
 intro ζ slice Á s σ H x y v u Q I rx ry h hs;obtain⟨a,z,rfl,g,q⟩:=h;cases rx;have hT:=MI I g;unfold cV;refine À ?_;rw[getitemInPython_of_ne hT.not_modules];refine À<|wpAny_specialOf hT PySem.F.slot_dict_getitem.lookup ?_;have fin:wpAny (Û X.prog X.w) X.A (subscripted slice ez (.ref a) u) (λr aC=>wpAny (Û X.prog X.w) X.A (letTemporaryGo ζ (.ref a) r >>= λ_=>pure r) (EP X Á σ Q) X.xe aC) X.xe s:=by rw[hs];exact wpAny_operating<|Kx hu I g ry λw' s' I' aT=>À<|wpAny_letTemporaryGo<|Æ ⟨_,_,I',aT,q⟩
 first
  |exact Æ<|À fin
  |exact À<|Æ<|À fin
  |exact À fin
abbrev E0(b:Bool):R2:=λx y H Q=>∃a o,y=.ref a/\DGet H a x o/\Q (.bl<|b ^^ o.isSome) H
def Ii(hu:X.A.units+1<Ĥ):OpR X (è .In)<|E0 ez:=by intro Á s σ H x y v u Q I rx ry h;obtain⟨a,o,rfl,g,q⟩:=h;cases ry;rw[aU]at q;exact RD hu I g rx λs' I'=>⟨.bl o.isSome,_,I',rfl,q⟩
def Hv(hu:X.A.units+1<Ĥ):OpR X (è .NotIn)<|E0 ej:=by intro Á s σ H x y v u Q I rx ry h;obtain⟨a,o,rfl,g,q⟩:=h;cases ry;rw[Bool.true_xor]at q;exact D3 hu I g rx λs' I'=>⟨.bl (!o.isSome),_,I',rfl,q⟩
abbrev Go:V->V->V->Hp->(Hp->Prop)->Prop:=λo y v H Q=>∃a H',o=.ref a/\DPut H a y v H'/\Q H'
def M5(hu:X.A.units+1<Ĥ):PSet X Go:=by intro Á s σ H o y v ov iv u Q I ro ri rv h;obtain⟨a,H',rfl,g,q⟩:=h;cases ro;exact US hu I g ri rv λs' I'=>⟨H',I',q⟩
def PSet.or{r r':V->V->V->Hp->(Hp->Prop)->Prop}(h:PSet X r)(h':PSet X r'):PSet X λo y v H Q=>r o y v H Q\/r' o y v H Q:=by
 intro Á s σ H o y v ov iv u Q I ro ri rv q;rcases q with q|q
 .exact h Á s σ H o y v ov iv u Q I ro ri rv q
 .exact h' Á s σ H o y v ov iv u Q I ro ri rv q
end Snd
namespace Snd
open PySem L2
variable {i:Inf}{X:Cx}{Φ:O.Fs}
def K1(n:Nat)(k:Int):O.ixN n k=L2.ixN n k:=rfl
variable {H:Hp} {xs:List O.Val} {vs:List V}
def WV{K:Frag}{k:Int}{v:O.Val}(r:RVs K H xs vs)(e:O.atI xs k=eh v):∃x,L2.atI vs k=eh x/\RV K H v x:=by
 unfold O.atI at e;unfold L2.atI;rw[K1,r.length]at e;cases z:L2.ixN vs.length k with
 |none=>rw[z]at e;cases e
 |some j =>rw[z]at e;obtain⟨x,h1,h2⟩:=r.get (show xs[j]?=eh v from e);exact⟨x,h1,h2⟩
abbrev Qw(i:Inf)(r:R2):Prop:=∀(v u:O.Val) (G:O.Hs) (H:Hp) (x y:V) (w:O.Val) (Q:VK),RH i G H->RV i.K H v x->RV i.K H u y->O.fw G v u=eh w->(∀z,RV i.K H w z->Q z H)->r x y H Q
variable {a:Expr} {ma:O.E} {ç:Pos}
def PV{b:Expr}{mb:O.E}{r:R2}(hr:IxR X r)(ho:Qw i r)(ha:PE X a<|tE X i Φ ma)(hb:PE X b<|tE X i Φ mb)(hs:KZ b):PE X (.Subscript a b ç) (tE X i Φ<|.idx ma mb) :=
 (PY hr ha hb hs).imp λσ H Q ⟨env,G,Qm,Em,p,w,c⟩=>by
  exact two p w λv u G2 H2 x y k2 p2 rx ry q=>by obtain⟨z,e,q⟩:=eK q;exact ho v u G2 H2 x y z Q p2.hp rx ry e λt rt=>c z G2 H2 t k2 p2.hp rt q
def EF{s:String}{k:Int}{c:Char}(e:O.atI s.toList k=eh c):L2.atI (gg s).cps.toList k=eh c.toNat:=by
 rw[Str.ofString_eq_toList];show L2.atI (List.map Ō s.toList).toArray.toList k=_;unfold O.atI at e;unfold L2.atI;simp only[Ã];rw[K1]at e;cases z:L2.ixN s.toList.length k with
 |none=>rw[z]at e;cases e
 |some j =>rw[z]at e;have e:s.toList[j]?=eh c:=e;show(List.map Ō s.toList)[j]?=_;rw[Ò,e];rfl
def Og(c:Char):gg (Ϻ c)=⟨#[c.toNat]⟩:=by rw[Str.ofString_eq_toList];simp
abbrev Rw(K:Frag):R2:=λx y H Q=>rIx K x y H Q\/Dg x y H Q
def LY:Qw i<|Rw i.K:=by
 intro v u G H x y w Q g rx ry e q;cases v with
 |tup xs =>
  cases u with
  |int k =>
   cases rx with
   |tup hp hr =>obtain⟨z,h1,h2⟩:=WV hr (show O.atI xs k=eh w from e);exact .inl<|.inr<|.inl ⟨_,_,k,z,rfl,ry.int_inv,Zk hp,h1,q z h2⟩
  |_=>cases e
 |str s =>
  cases u with
  |int k =>
   simp only[O.fw]at e;split at e
   .rename_i hl;cases z:O.atI s.toList k with
    |none=>rw[z]at e;cases e
    |some c =>rw[z]at e;cases e;refine .inl (.inr<|.inr ⟨_,k,_,rx.str_inv,ry.int_inv,by rw[Zs];exact Ý hl ZL,EF z,?_⟩);have:=q _<|.str<|Ϻ c;rw[Og]at this;exact this
   .cases e
  |_=>cases e
 |ref a =>
  cases rx.ref_inv
  replace e:(match G a with|some (.lst xs)=>(O.fV u).bind (O.atI xs)|some (.dct kvs)=>if O.eZ u then O.fe kvs u else ei|some (.frz kvs)=>if O.eZ u then O.fe kvs u else ei|some (.dtp kvs)=>if O.isKeyT u then O.fe kvs u else ei|_=>ei)=eh w:=e
  cases z:G a with
  |none=>rw[z]at e;cases e
  |some o =>
   rw[z]at e;cases o with
   |lst xs =>obtain⟨k,hk,e⟩:=é.mp e;cases ZB hk;obtain⟨vs,h1,h2⟩:=g a _ z;obtain⟨t,h3,h4⟩:=WV h2 e;exact .inl<|.inl ⟨a,vs,k,t,rfl,ry.int_inv,fQ.of h1,h3,q t h4⟩
   |dct kvs =>obtain⟨hk,e⟩:=Zo (show(if O.eZ u then O.fe kvs u else ei)=eh w from e);obtain⟨ps,h1,h2⟩:=g a _ z;obtain⟨d,kr,rfl⟩:=eW hk ry;obtain⟨t,hx,rv⟩:=(h2.look kr).1 w e;exact .inr ⟨a,t,rfl,by rw[<-hx];exact DGet.k h1,q t rv⟩
   |frz kvs =>obtain⟨hk,e⟩:=Zo (show(if O.eZ u then O.fe kvs u else ei)=eh w from e);obtain⟨ob,ps,h1,h2⟩:=g a _ z;obtain⟨d,kr,rfl⟩:=eW hk ry;obtain⟨t,hx,rv⟩:=(h2.look kr).1 w e;exact .inr ⟨a,t,rfl,.inl ⟨ps,d,.inr ⟨ob,h1⟩,rfl,hx.symm⟩,q t rv⟩
   |dtp kvs =>obtain⟨hk,e⟩:=Zo (show(if O.isKeyT u then O.fe kvs u else ei)=eh w from e);obtain⟨ps,h1,h2⟩:=g a _ z;obtain⟨k1,k2,b,rfl,rfl,hb⟩:=WB hk ry;obtain⟨t,hx,rv⟩:=(h2.look).1 w e;exact .inr ⟨a,t,rfl,by rw[<-hx];exact DGet.t h1 hb,q t rv⟩
   |_=>cases e
 |scr ns =>
  cases u with
  |int k =>
   cases rx with
   |scr h =>obtain⟨t,h3,h4⟩:=WV (RVs.ints ns) (show O.atI (ns.map .int) k=eh w from e);exact .inl<|.inl ⟨_,_,k,t,rfl,ry.int_inv,Z0 h,h3,q t h4⟩
  |_=>cases e
 |_=>cases e
abbrev tOx(X:Cx)(i:Inf)(Φ:O.Fs)(m:O.Oe):TO:=λσ H Q=>∃env G Qm Em,Pre X i σ H env G Em/\O.wO Φ m env G Qm Em/\∀k G' H',fc H H'->RH i G' H'->Qm k G'->Q k H'
def _root_.L2.PO.imp{e:Option Expr}{t t':TO}(h:PO X e t)(f:∀σ H Q,t' σ H Q->t σ H Q):PO X e t':=λÁ s σ H Q I q=>h Á s σ H Q I (f σ H Q q)
def Fb:PO X ei<|tOx X i Φ .none:=po_none.imp λσ H Q ⟨env,G,Qm,Em,p,w,c⟩=>by exact c ei G H (fc.refl H) p.hp w
def Et{e:Expr}{m:O.E}(he:PE X e<|tE X i Φ m):PO X (eh e)<|tOx X i Φ<|.some m:=(EU he).imp λσ H Q ⟨env,G,Qm,Em,p,w,c⟩=>by
 exact one p w λv G1 H1 x k1 p1 r q=>by obtain⟨b,e,q2⟩:=eK q;cases ZB e;exact⟨b,r.int_inv,c _ G1 H1 k1 p1.hp q2⟩
def OA{K:Frag}(r:RVs K H xs vs)(lo hi:Option Int):RVs K H (O.cut xs lo hi)<|Ms vs lo hi:=by
 have e:∀(n d:Nat) (o:Option Int),O.fq n d o=HT.sIx n d o:=by
  intro n d o;cases o with
  |none=>rfl
  |some k =>
   show(if 0<=k then min k.toNat n else(k+n).toNat)=(if k<0 then(k+(n:Int)).toNat else min k.toNat n)
   by_cases h:k<0
   .rw[f6 h,f7<|by lia]
   .rw[f7 h,f6<|by lia]
 unfold O.cut Ms;rw[e,e,r.length];exact(r.drop _).take _
abbrev PN(i:Inf)(r:V->Option Int->Option Int->Hp->VK->Prop):Prop:=∀(v:O.Val) (lo hi:Option Int) (G:O.Hs) (H:Hp) (x:V) (Q:VK) (Qm:O.Q1),RH i G H->RV i.K H v x->(O.fx G v lo hi).wp G Qm->Cn i H Q Qm->r x lo hi H Q
def PX{lo hi:Option Expr}{ml mh:O.Oe}{r:V->Option Int->Option Int->Hp->VK->Prop}{p2:Pos}(hr:SlR X r)(ho:PN i r)(ha:PE X a<|tE X i Φ ma)(hl:PO X lo<|tOx X i Φ ml)(hh:PO X hi<|tOx X i Φ mh):PE X (.Subscript a (.Slice lo hi ei p2) ç) (tE X i Φ<|.slc ma ml mh) :=
 (BQ hr ha hl hh).imp λσ H Q ⟨env,G,Qm,Em,p,w,c⟩=>by
  exact⟨env,G,_,Em,p,w,λv G1 H1 x k1 g1 r1 w1=>⟨env,G1,_,Em,p.go k1 g1,w1,λl G2 H2 k2 g2 w2=>⟨env,G2,_,Em,(p.go k1 g1).go k2 g2,w2,λu G3 H3 k3 g3 w3 =>
    ho v l u G3 H3 x Q Qm g3 ((r1.keep k2).keep k3) w3 (((c.go k1).go k2).go k3)⟩⟩⟩
abbrev Pp(K:Frag):V->Option Int->Option Int->Hp->VK->Prop:=λx lo hi H Q=>LO K x lo hi H Q\/LV K x lo hi H Q\/PQ x lo hi H Q\/Qp K x lo hi H Q
def Q2:SlR X<|Pp X.K:=sl_list.or (fG.or<|sl_str.or FR)
def XZ(n d:Nat)(o:Option Int):O.fq n d o=HT.sIx n d o:=by
 cases o with
 |none=>rfl
 |some k =>
  show(if 0<=k then min k.toNat n else(k+n).toNat)=(if k<0 then(k+(n:Int)).toNat else min k.toNat n)
  by_cases h:k<0
  .rw[f6 h,f7<|by lia]
  .rw[f7 h,f6<|by lia]
def M4(n d:Nat)(h:d<=n)(o:Option Int):O.fq n d o<=n:=by
 cases o with
 |none=>exact h
 |some k =>show(if 0<=k then min k.toNat n else(k+n).toNat)<=n;split<;>lia
def clip_eq(n d:Nat)(h:d<=n)(o:Option Int):(match o with
    |none=>(d:Int)
    | some i=>max 0<|min (if i<0 then i+(n:Int)else i) (n:Int))=(O.fq n d o:Int):=by
 cases o with
 |none=>rfl
 |some k =>
  show _=(((if 0<=k then min k.toNat n else(k+n).toNat):Nat):Int)
  by_cases hk:k<0
  .rw[f7<|show ¬ 0<=k by lia];simp only[hk,if_true];lia
  .rw[f6<|show 0<=k by lia];simp only[hk,if_false];lia
def G0(n:Nat)(lo hi:Option Int):PySem.Builtin.Str.strSliceIndices lo hi 1 n=(List.range<|O.fq n n hi - O.fq n 0 lo).map λk=>O.fq n 0 lo+k:=by
 have e1:=clip_eq n 0 (į _) lo;have e2:=clip_eq n n (Ì _) hi;have e3:PySem.Builtin.Str.strSliceIndices lo hi 1 n=sliceRange (O.fq n 0 lo:Int) (O.fq n n hi:Int) 1:=by unfold PySem.Builtin.Str.strSliceIndices;rw[<-e1,<-e2];cases lo<;>cases hi<;>rfl
 rw[e3];unfold sliceRange;have e4:(if(1:Int) > 0 then(if(O.fq n 0 lo:Int)<(O.fq n n hi:Int)then((O.fq n n hi:Int) - (O.fq n 0 lo:Int)+1 - 1) / 1 else 0)else(if(O.fq n 0 lo:Int) > (O.fq n n hi:Int)then((O.fq n 0 lo:Int) - (O.fq n n hi:Int) - 1 - 1) / (-1)else 0)).toNat=O.fq n n hi - O.fq n 0 lo:=by rw[f6 (by decide),Int.ediv_one];split<;>lia
 show(List.range<|Int.toNat<|if(1:Int) > 0 then _ else _).map _=_;rw[e4];refine ğ λk _=>?_;lia
def E6(s:String)(lo hi:Option Int):AK (gg s) lo hi=gg (Α<|O.cut s.toList lo hi):=by
 have hl:(gg s).length=s.toList.length:=by rw[Zs,bQ]
 have ha:=M4 s.toList.length 0 (į _) lo;have hb:=M4 s.toList.length s.toList.length (Ì _) hi;have e:=G0 s.toList.length lo hi;rw[<-hl]at e;unfold AK;rw[e];simp only[hl];have ec:(gg s).cps.toList=s.toList.map Ō:=by rw[Str.ofString_eq_toList]
 split
 .rename_i z;rw[Ã,ŕ]at z;have e0:O.fq s.toList.length 0 lo=0\/s.toList.length=0:=by lia
  have e5:O.cut s.toList lo hi=s.toList:=by
   unfold O.cut;rw[z];rcases e0 with e0|e0
   .rw[e0,List.drop_zero,ā]
   .have:s.toList=[]:=Ξ.mp e0;rw[this];simp
  rw[e5,String.ofList_toList]
 .rw[Str.ofString_eq_toList<|Α _,bR];congr 2;have e3:(λi:Nat=>(gg s).cps[i]?)=λi:Nat=>(s.toList.map Ō)[i]?:=by
   funext i;rw[<-ec];simp
  rw[e3];by_cases hab:O.fq s.toList.length 0 lo<=O.fq s.toList.length s.toList.length hi
  .rw[PySem.StrLaws.picks _ _ _<|by rw[Ã];lia];unfold O.cut;rw[List.map_take,List.map_drop]
  .have:O.fq s.toList.length s.toList.length hi - O.fq s.toList.length 0 lo=0:=by lia
   unfold O.cut;rw[this];simp
def Ql:PN i<|Pp i.K:=by
 intro v lo hi G H x Q Qm g r w c;cases v with
 |tup xs =>
  simp only[O.fx]at w;split at w
  .rename_i hn;rw[O.Rs.wp_val]at w;cases r with
   |@tup _ a vs hp hr=>exact .inr (.inr<|.inr ⟨a,vs,rfl,Zk hp,by rw[<-XZ,<-XZ,<-hr.length];exact hn,c _ G H _ (fc.refl H) g (.tup hp hr) w⟩)
  .rename_i hn;rw[O.Rs.wp_val]at w;cases r with
   |@tup _ a vs hp hr =>refine .inr (.inl ⟨a,vs,rfl,Zk hp,by rw[<-XZ,<-XZ,<-hr.length];exact hn,λp hp'=>?_⟩);have k:=fc.new (o:=.tup<|Ms vs lo hi) hp';refine c _ G _ _ k (g.hid k λb o e=>eB ?_) (.tup (.inl eC)<|OA (hr.keep k) lo hi) w;rintro rfl;rw[g.free hp']at e;cases e
 |ref a =>
  cases r.ref_inv;simp only[O.fx]at w;cases z:O.eU (G a)with
  |none=>rw[z]at w;simp at w
  |some xs =>rw[z]at w;rw[O.Rs.wp_new]at w;obtain⟨vs,h1,h2⟩:=ZJ g z;exact .inl ⟨a,vs,rfl,h1,Yh g w c λp hp=>⟨_,eC,OA (h2.keep<|fc.new hp) lo hi⟩⟩
 |scr ns =>
  simp only[O.fx,O.Rs.wp_new]at w;cases r with
  |scr h=>exact .inl ⟨_,_,rfl,Z0 h,Yh g w c λp hp=>⟨_,eC,OA (RVs.ints ns) lo hi⟩⟩
 |str s =>
  cases r.str_inv;simp only[O.fx]at w;split at w
  .rename_i hl;rw[O.Rs.wp_val]at w;refine .inr (.inr <| .inl ⟨_,rfl,by rw[Zs];exact Ý hl (by decide),?_⟩);rw[E6];exact c _ G H _ (fc.refl H) g (.str _) w
  .simp at w
 |_=>simp[O.fx]at w
variable {H:Hp} {vs:List O.Val} {xs:List V} {x:V}
def RVs.app1{K:Frag}{v:O.Val}(r:RVs K H vs xs)(q:RV K H v x):RVs K H (vs++[v])<|xs++[x]:=r.append (.cons q .nil)
variable {es:List Expr} {ms:O.Es} {n:Nat} {ç:Pos}
def L9{k:Nat}(hn:n<=1000)(h:PA X es<|tAr X i Φ ms n):PE X (.Tuple es k ç) (tE X i Φ<|.tup ms) :=
 (LE h).imp λσ H Q ⟨env,G,Qm,Em,p,w,c⟩=>by refine⟨env,G,_,Em,p,w,λvs G1 H1 xs k1 g1 r1 hl w1=>⟨by rw[hl];exact Ý hn (by decide),λa ha=>?_⟩⟩;have k:=fc.new (o:=.tup xs) ha;refine c _ G1 _ _ (k1.trans k) (g1.hid k λb o e=>eB ?_) (.tup (.inl eC)<|r1.keep k) w1;rintro rfl;rw[g1.free ha]at e;cases e
def LW(hn:n<=1000)(h:PA X es<|tAr X i Φ ms n):PE X (.List es ç) (tE X i Φ<|.lst ms) :=
 (IS h).imp λσ H Q ⟨env,G,Qm,Em,p,w,c⟩=>by refine⟨env,G,_,Em,p,w,λvs G1 H1 xs k1 g1 r1 hl w1=>⟨by rw[hl];exact Ý hn (by decide),Yh g1 w1 (c.go k1) λa ha=>?_⟩⟩;exact⟨xs,eC,r1.keep<|fc.new ha⟩
abbrev fN(i:Inf)(f:O.Bi)(r:List V->Hp->VK->Prop):Prop:=∀(vs:List O.Val) (G:O.Hs) (H:Hp) (xs:List V) (Q:VK) (Qm:O.Q1),RH i G H->RVs i.K H vs xs->(O.biV G f vs).wp G Qm->Cn i H Q Qm->r xs H Q
variable {f:O.Bi} {r:List V->Hp->VK->Prop}
def Wo(hr:fN i f r):∀σ H Q,tE X i Φ (.bi f ms) σ H Q->tCB r (tAr X i Φ ms n) σ H Q:=λσ H Q ⟨env,G,Qm,Em,p,w,c⟩=>by exact⟨env,G,_,Em,p,w,λvs G1 H1 xs k1 g1 r1 _ w1=>hr vs G1 H1 xs Q Qm g1 r1 w1<|c.go k1⟩
def RVs.inv1{K:Frag}{v:O.Val}(r:RVs K H [v] xs):∃x,xs=[x]/\RV K H v x:=by cases r with|cons a t=>cases t;exact⟨_,rfl,a⟩
def RVs.inv2{K:Frag}{v u:O.Val}(r:RVs K H [v,u] xs):∃x y,xs=[x,y]/\RV K H v x/\RV K H u y:=by cases r with|cons a t=>cases t with|cons b t=>cases t;exact⟨_,_,rfl,a,b⟩
def Kk(s:String):(gg s).cps.toList=s.toList.map Ō:=by rw[Str.ofString_eq_toList]
def Uy:∀(l:List Char) (a:Nat),(l.map Ō).foldl (λĬ c=>Ĭ*10+(c - 48)) a=l.foldl (λa c=>10*a+(c.toNat - 48)) a
 |[],_=>rfl
 |c::l,a=>by rw[Ï,Ŀ,Ŀ,Uy l,cf a 10]
def ER{s:String}(h1:s.toList≠[])(h2:s.toList.all O.figB=ej)(h3:s.length<=640):PySem.intText? (gg s)=eh ((O.decN s.toList:Nat):Int):=by
 have hc:=Kk s;rw[intText_digits (x:=gg s)]
 .rw[hc];unfold NumText.digitsVal O.decN;rw[Uy]
 .rw[hc];intro c hm;obtain⟨d,hd,rfl⟩:=Ú.mp hm;have:=ò.mp h2 d hd;unfold O.figB at this;simpa using this
 .rw[hc];simpa using h1
 .rw[Zs];lia
variable {h:O.Hs} {Q:O.Q1}
def Wh{f:O.Val->O.Rs}(w:(O.eV f vs).wp h Q):∃v,vs=[v]/\(f v).wp h Q:=by
 cases vs with
 |nil=>exact(Zf w).elim
 |cons v vs=>cases vs with
  |nil=>exact⟨v,rfl,w⟩
  |cons _ _=>exact(Zf w).elim
def Ci{f:O.Val->O.Val->O.Rs}(w:(O.biOf2 f vs).wp h Q):∃v u,vs=[v,u]/\(f v u).wp h Q:=by
 cases vs with
 |nil=>exact(Zf w).elim
 |cons v vs=>cases vs with
  |nil=>exact(Zf w).elim
  |cons u us=>cases us with
   |nil=>exact⟨v,u,rfl,w⟩
   |cons _ _=>exact(Zf w).elim
def fN.imp{r':List V->Hp->VK->Prop}(h:fN i f r)(k:∀xs H Q,r xs H Q->r' xs H Q):fN i f r':=λvs G H xs Q Qm g rv w c=>k _ _ _ (h vs G H xs Q Qm g rv w c)
def HJ:fN i .int λxs H Q=>((∃i,xs=[.int i]/\Q (.int i) H)\/∃k,xs=[.bl k]/\Q (.int<|if k then 1 else 0) H)\/∃z n,xs=[.str z]/\PySem.intText? z=eh n/\z.length<=640/\Q (.int n) H:=by
 intro vs G H xs Q Qm g r w c;obtain⟨v,rfl,w⟩:=Wh w;obtain⟨x,rfl,rx⟩:=r.inv1;cases v with
 |int k=>cases rx.int_inv;exact .inl<|.inl ⟨k,rfl,c _ G H _ (fc.refl H) g (.int _)<|Zi w⟩
 |bl k=>cases rx.bl_inv;exact .inl<|.inr ⟨k,rfl,c _ G H _ (fc.refl H) g (.int _)<|Zi w⟩
 |str s =>cases rx.str_inv;obtain⟨hl,w⟩:=XT w;exact .inr ⟨_,_,rfl,ER hl.2.1 hl.2.2 hl.1,by rw[Zs];exact hl.1,c _ G H _ (fc.refl H) g (.int _)<|Zi w⟩
 |_=>exact(Zf w).elim
def FT:fN i .max2 λxs H Q=>∃i j,xs=[.int i,.int j]/\Q (.int<|if j > i then j else i) H:=by intro vs G H xs Q Qm g r w c;obtain⟨v,u,rfl,w⟩:=Ci w;obtain⟨a,b,rfl,rfl,w⟩:=Xj w;obtain⟨x,y,rfl,rx,ry⟩:=r.inv2;cases rx.int_inv;cases ry.int_inv;exact⟨a,b,rfl,c _ G H _ (fc.refl H) g (.int _)<|Zi w⟩
def FG:fN i .min2 λxs H Q=>∃i j,xs=[.int i,.int j]/\Q (.int<|if j<i then j else i) H:=by intro vs G H xs Q Qm g r w c;obtain⟨v,u,rfl,w⟩:=Ci w;obtain⟨a,b,rfl,rfl,w⟩:=Xj w;obtain⟨x,y,rfl,rx,ry⟩:=r.inv2;cases rx.int_inv;cases ry.int_inv;exact⟨a,b,rfl,c _ G H _ (fc.refl H) g (.int _)<|Zi w⟩
abbrev Pw(o:Option O.Ob)(f:List O.Val->O.Rs):O.Rs:=match o with
 |some (.lst xs)=>f xs
 |_=>.no
variable {o:Option O.Ob}
def MG{f:List O.Val->O.Rs}(w:(Pw o f).wp h Q):∃xs,o=eh (.lst xs)/\(f xs).wp h Q:=by
 cases o with
 |none=>exact(Zf w).elim
 |some o=>cases o with
  |lst xs=>exact⟨xs,rfl,w⟩
  |_=>exact(Zf w).elim
variable {G:O.Hs}
def Eo{Q:VK}{Qm:O.Q1}{ys:List O.Val}{us:List V}(g:RH i G H)(r:RVs i.K H ys us)(w:Qm (.tup ys) G)(c:Cn i H Q Qm):∀l,H l=ei->Q (.ref l) (upd H l<|.tup us):=λl hl=>by have k:=fc.new (o:=.tup us) hl;refine c _ G _ _ k (g.hid k λb o e=>eB ?_) (.tup (.inl eC)<|r.keep k) w;rintro rfl;rw[g.free hl]at e;cases e
def Dm:fN i .tuple λxs H Q=>∃p ys,xs=[.ref p]/\((fQ i.K H p ys/\∀l,H l=ei->Q (.ref l) (upd H l<|.tup ys))\/(fR i.K H p ys/\Q (.ref p) H)):=by
 intro vs G H xs Q Qm g r w c;obtain⟨v,rfl,w⟩:=Wh w;obtain⟨x,rfl,rx⟩:=r.inv1;cases v with
 |ref a =>cases rx.ref_inv;obtain⟨ys,e,w⟩:=MG (f:=λxs=>.val<|.tup xs) w;obtain⟨us,h1,h2⟩:=g a _ e;exact⟨a,us,rfl,.inl ⟨fQ.of h1,Eo g h2 (Zi w) c⟩⟩
 |tup ys =>
  cases rx with
  |tup hp hr=>exact⟨_,_,rfl,.inr ⟨Zk hp,c _ G H _ (fc.refl H) g (.tup hp hr)<|Zi w⟩⟩
 |_=>exact(Zf w).elim
abbrev kinds:List String:=["int","bool","str","list","tuple","dict"]
def F5(K:Frag):∀t∈["NoneType","bool","int","str","tuple","list","dict"],∀T∈kinds,PySem.W.kitOne K (.type t) (.type T)=eh (t==T||(t == "bool" && T == "int")):=by intro t ht T hT;simp only[kinds,Ç,Þ,or_false]at ht hT;rcases ht with rfl|rfl|rfl|rfl|rfl|rfl|rfl<;>rcases hT with rfl|rfl|rfl|rfl|rfl|rfl<;>rfl
def AG(g:RH i G H){v:O.Val}{t:String}(r:RV i.K H v x)(e:O.fX G v=eh t):TyV i.K H x (.type t)/\t∈["NoneType","bool","int","str","tuple","list","dict"]:=by
 cases v with
 |non=>cases r;cases e;exact⟨.of .non,by simp⟩
 |bl b=>cases r;cases e;exact⟨.of<|.bl b,by simp⟩
 |int b=>cases r;cases e;exact⟨.of<|.int b,by simp⟩
 |str b=>cases r;cases e;exact⟨.of<|.str _,by simp⟩
 |tup xs=>cases e;cases r with|tup hp hr=>exact⟨.tup<|Zk hp,by simp⟩
 |scr ns=>cases e;cases r with|scr h=>exact⟨.lst<|Z0 h,by simp⟩
 |ref a =>
  cases r.ref_inv;simp only[O.fX]at e;cases q:G a with
  |none=>rw[q]at e;cases e
  |some o =>
   rw[q]at e;cases o with
   |lst xs=>cases e;obtain⟨vs,h1,_⟩:=g a _ q;exact⟨.lst<|fQ.of h1,by simp⟩
   |dct kvs=>cases e;obtain⟨ps,h1,_⟩:=g a _ q;exact⟨.of<|.dK h1,by simp⟩
   |ins C fs=>cases e
   |exc C=>cases e
   |frz _=>cases e
   |dtp _=>cases e
 |key _ _=>cases e
def Qa{e:Expr}{m:O.E}{T:String}{p p2:Pos}(hT:T∈kinds)(he:PE X e<|tE X i Φ m)(hk:X.K=i.K)(hg:Gl X "isinstance")(hm:X.mg "isinstance" = ei)(hg2:Gl X<|gg T)(hm2:X.mg (gg T)=ei)
  (hv2:ţ (gg T)=eh (.type T)) (hn2:gg T≠"__name__") (bD:(gg T==("__debug__" : Str))=ez) (ſ:Ô [e,.Name (gg T) p2] X.env=(ez,eval e X.env)::Ô [.Name (gg T) p2] X.env) :
  PE X (.Call (.Name "isinstance" p) [e,.Name (gg T) p2] [] ç) (tE X i Φ<|.bi (.isi [T])<|.cons m .nil):=by
 refine(Z4 BL hg hm (by kernel_rfl) (ZI he (ZI (PU (T:=T) hg2 hm2 hv2 hn2 bD) fO) ſ) (he:=ſ)).imp λσ H Q ⟨env,G,Qm,Em,p,w,c⟩=>?_;refine one p w λv G1 H1 x k1 p1 r q=>?_
 replace q:(O.Rs.ofO (((O.fY G1 v T).bind λb=>(O.isiAny G1 v []).map (b || ·)).map .bl)).wp G1 Qm:=q
 simp only[O.isiAny,O.fY]at q;cases z:O.fX G1 v with
 |none=>rw[z]at q;simp[O.Rs.ofO]at q
 |some t =>rw[z]at q;simp only[ō,ú,O.Rs.ofO,O.Rs.wp_val,Ϫ]at q;obtain⟨h1,h2⟩:=AG p1.hp r z;refine⟨x,T,.type t,_,rfl,by rw[hk];exact h1,by rw[hk];exact F5 _ t h2 T hT,c _ G1 H1 _ k1 p1.hp (.bl _) q⟩
def NR(h:O.isLst o=ej):∃xs,o=eh (.lst xs):=by
 cases o with
 |none=>cases h
 |some o=>cases o with
  |lst xs=>exact⟨xs,rfl⟩
  |_=>cases h
variable {a:È}
def Cg{f:O.Ad->List O.Val->Option (O.Val×O.Hs)}{t:O.Val×O.Hs}(e:O.bmL G (.ref a) f=eh t):∃xs,G a=eh (.lst xs)/\f a xs=eh t:=by obtain⟨xs,h1,h2⟩:=é.mp (show(O.eU<|G a).bind (f a)=eh t from e);exact⟨xs,UW h1,h2⟩
def KP{xs:List O.Val}{vs:List V}(g:RH i G H)(h:H a=eh (.lst vs))(ys:List O.Val)(us:List V)(r:RVs i.K H ys us):fc H (upd H a<|.lst us)/\RH i (O.upd G a<|.lst ys) (upd H a<|.lst us):=by
 have k:fc H<|upd H a<|.lst us:=fc.put (λxs e=>by rw[h]at e;cases e) λp u e=>by rw[h]at e;cases e
 exact⟨k,g.put k ⟨us,eC,r.keep k⟩⟩
abbrev spF(i:Inf)(P:O.Pg)(n:Nat)(f:String):Sp:=λvs H Q E=>∃args G Qm Em,RVs i.K H args vs/\RH i G H/\O.wF P n f args G Qm Em/\Cn i H Q Qm/\∀cls d H',XK1 i H Em cls d H'->E cls d H'
abbrev Dfo(pr:à)(w:ó)(mg:Str->Option Â)(base:Ă)(i:Inf)(P:O.Pg)(n:Nat)(f:String):Prop :=
 ∃fa fd ps,fk pr w i.K mg base (CX1 pr w) (2*n) fa fd ps (spF i P n f)/\mg (gg f)=eh (.ref fa)/\PySem.W.keepIn i.K (.ref fa)=ej/\Binds i.K fd ps []
variable {e:Expr} {es:List Expr} {ç:Pos}
def IK{P:O.Pg}{n k:Nat}{f:String}{ms:O.Es}{p:Pos}(hK:X.K=i.K)(D:Dfo X.prog X.w X.mg X.base i P n f)(hr:fj (2*n) X.A)(hg:Gl X<|gg f)(cC:(gg f==("__debug__" : Str))=ez)
  (ha:PA X (e::es)<|tAr X i (O.wF P n) ms k) (he:Ô (e::es) X.env=(ez,eval e X.env)::Ô es X.env) (hpl:(ĝ ç<|Ô es X.env).any (·.1)=ez) :
  PE X (.Call (.Name (gg f) p) (e::es) [] ç) (tE X i (O.wF P n)<|.call f ms):=by
 obtain⟨fa,fd,ps,F,hm,hk,hb⟩:=D;rw[<-hK]at F hk hb;intro Á s σ H Q I h;obtain⟨env,G,Qm,Em,pr,w,c⟩:=h;refine EH (E:=XK1 i H Em) F hr hg hm hk hb .nil (XW.passes pr.xo) ha cC he hpl Á s σ H Q I ⟨env,G,_,Em,pr,w,λvs G1 H1 xs k1 g1 r1 hl w1=>?_⟩;exact⟨vs,G1,Qm,Em,by rw[Ā];exact r1,g1,w1,c.go k1,λcls d H' h=>h.go k1⟩
abbrev XKS(i:Inf)(H:Hp)(Xe:O.EQ):XK:=λcls _ H'=>∃e c G' ad,cls=.ref ad/\i.xc c ad/\fc H H'/\RH i G' H'/\Xe e c G'
structure PreS(X:Cx)(i:Inf)(σ:St)(H:Hp)(env:O.Env)(G:O.Hs)(Xe:O.EQ):Prop where
 en:REn i.K H env σ
 hp:RH i G H
 xo:XW X<|XKS i H Xe
variable {σ:St} {H:Hp} {H1:Hp} {G:O.Hs} {Xe:O.EQ}
def PreS.go{σ1:St}{env env1:O.Env}{G1:O.Hs}(p:PreS X i σ H env G Xe)(k:fc H H1)(r:RH i G1 H1)(e:REn i.K H1 env1 σ1):PreS X i σ1 H1 env1 G1 Xe :=
 ⟨e,r,λÁ σ H0 s H' a cls s' I f ⟨e,c,G',ad,q1,q2,q3,q4⟩=>p.xo Á σ H0 s H' a cls s' I f ⟨e,c,G',ad,q1,q2,k.trans q3,q4⟩⟩
def PreS.pre{env:O.Env}(p:PreS X i σ H env G Xe):Pre X i σ H env G (Xe env) :=
 ⟨p.en,p.hp,λÁ σ H0 s H' a cls s' I f ⟨c,G',ad,q1,q2,q3,q4⟩=>p.xo Á σ H0 s H' a cls s' I f ⟨env,c,G',ad,q1,q2,q3,q4⟩⟩
structure EOk(i:Inf)(H:Hp)(D:Ends)(N:O.NQ)(R:O.Q1)(B C:O.NQ):Prop where
 nx:∀Ś Ř G' H',fc H H'->RH i G' H'->REn i.K H' Ś Ř->N Ś G'->D.nx Ř H'
 rt:∀v G' H' x,fc H H'->RH i G' H'->RV i.K H' v x->R v G'->D.rt x H'
 bk:∀Ś Ř G' H',fc H H'->RH i G' H'->REn i.K H' Ś Ř->B Ś G'->D.bk Ř H'
 ct:∀Ś Ř G' H',fc H H'->RH i G' H'->REn i.K H' Ś Ř->C Ś G'->D.ct Ř H'
def EOk.go{D:Ends}{N:O.NQ}{R:O.Q1}{B C:O.NQ}(e:EOk i H D N R B C)(k:fc H H1):EOk i H1 D N R B C :=
 ⟨λa b c d k'=>e.nx a b c d<|k.trans k',λa b c d k'=>e.rt a b c d<|k.trans k',λa b c d k'=>e.bk a b c d<|k.trans k',λa b c d k'=>e.ct a b c d<|k.trans k'⟩
inductive tStx (X:Cx) (i:Inf) (Φ:O.Fs) (m:O.S) (D:Ends) (σ:St) (H:Hp):Prop
 |mk (env:O.Env) (G:O.Hs) (N:O.NQ) (R:O.Q1) (B C:O.NQ) (Xe:O.EQ) (p:PreS X i σ H env G Xe) (w:O.wS Φ m env G N R B C Xe) (e:EOk i H D N R B C)
abbrev tSt(X:Cx)(i:Inf)(Φ:O.Fs)(m:O.S):TS:=tStx X i Φ m
inductive tBlx (X:Cx) (i:Inf) (Φ:O.Fs) (m:O.Ss) (D:Ends) (σ:St) (H:Hp):Prop
 |mk (env:O.Env) (G:O.Hs) (N:O.NQ) (R:O.Q1) (B C:O.NQ) (Xe:O.EQ) (p:PreS X i σ H env G Xe) (w:O.wSs Φ m env G N R B C Xe) (e:EOk i H D N R B C)
abbrev tBl(X:Cx)(i:Inf)(Φ:O.Fs)(m:O.Ss):TS:=tBlx X i Φ m
variable {st:Ľ} {t':TS}
def _root_.L2.PS.imp{t:TS}(h:PS X st t)(f:∀D σ H,t' D σ H->t D σ H):PS X st t':=λÁ s σ H D I q=>h Á s σ H D I (f D σ H q)
def _root_.L2.PSs.imp{st:List Ľ}{t:TS}(h:PSs X st t)(f:∀D σ H,t' D σ H->t D σ H):PSs X st t':=λÁ s σ H D I q=>h Á s σ H D I (f D σ H q)
def Ib:PSs X []<|tBl X i Φ .nil:=pss_nil.imp λD σ H ⟨env,G,N,R,B,C,Xe,p,w,c⟩=>by exact c.nx env σ G H (fc.refl H) p.hp p.en w
def FO{sts:List Ľ}{m:O.S}{ms:O.Ss}(h1:PS X st<|tSt X i Φ m)(h2:PSs X sts<|tBl X i Φ ms):PSs X (st::sts) (tBl X i Φ<|.cons m ms) :=
 (Cu h1 h2).imp λD σ H ⟨env,G,N,R,B,C,Xe,p,w,c⟩=>by exact⟨env,G,_,R,B,C,Xe,p,w,⟨λŚ Ř G' H' k g e w'=>⟨Ś,G',N,R,B,C,Xe,p.go k g e,w',c.go k⟩,c.rt,c.bk,c.ct⟩⟩
variable {m:O.E}
def GV(he:PE X e<|tE X i Φ m):PS X (.Return (eh e) ç) (tSt X i Φ<|.ret m) :=
 (Ip he).imp λD σ H ⟨env,G,N,R,B,C,Xe,p,w,c⟩=>by exact⟨env,G,R,Xe env,p.pre,w,c.rt⟩
def Fk:PS X (.Return ei ç) (tSt X i Φ .retN) :=
 ps_retN.imp λD σ H ⟨env,G,N,R,B,C,Xe,p,w,c⟩=>by exact c.rt _ G H _ (fc.refl H) p.hp .non w
def FY(he:PE X e<|tE X i Φ m)(hs:Ų e ei ç.line X.env=pure ez):PS X (.Expr e ç) (tSt X i Φ<|.expr m) :=
 (DO he hs).imp λD σ H ⟨env,G,N,R,B,C,Xe,p,w,c⟩=>by exact⟨env,G,_,Xe env,p.pre,w,λv G1 H1 x k1 g1 r1 w1=>c.nx env σ G1 H1 k1 g1 (p.en.keep k1) w1⟩
def GX{t:Expr}{a b:List Ľ}{mt:O.Tt}{ma mb:O.Ss}(ht:PT X t<|tTt X i Φ mt)(ha:PSs X a<|tBl X i Φ ma)(hb:PSs X b<|tBl X i Φ mb):PS X (.If t a b ç) (tSt X i Φ<|.ite mt ma mb) :=
 (LM ht ha hb).imp λD σ H ⟨env,G,N,R,B,C,Xe,p,w,c⟩=>by
  refine⟨env,G,_,Xe env,p.pre,w,λd G1 H1 k1 g1 q=>?_⟩;cases d with
  |true=>exact⟨env,G1,N,R,B,C,Xe,p.go k1 g1<|p.en.keep k1,by simpa using q,c.go k1⟩
  |false=>exact⟨env,G1,N,R,B,C,Xe,p.go k1 g1<|p.en.keep k1,by simpa using q,c.go k1⟩
abbrev gPt(i:Inf)(p:O.Pt):TG:=λx σ H Q=>∃v env G ő,RV i.K H v x/\RH i G H/\REn i.K H env σ/\O.bind p G v env=eh ő/\∀σ2,REn i.K H ő σ2->Q σ2 H
variable {tg:Expr}
def _root_.L2.PG.imp{t t':TG}(h:PG X tg t)(f:∀v σ H Q,t' v σ H Q->t v σ H Q):PG X tg t':=λÁ s σ H v u Q I r q=>h Á s σ H v u Q I r (f v σ H Q q)
def _root_.L2.PGs.imp{tg:List Expr}{t t':TGs}(h:PGs X tg t)(f:∀v σ H Q,t' v σ H Q->t v σ H Q):PGs X tg t':=λÁ s σ H v u Q I r q=>h Á s σ H v u Q I r (f v σ H Q q)
variable {x:Str} {j:Nat}
def NW(hN:X.N.Nodup)(hi:X.N[j]?=eh x)(hx:Loc X.env.scope x)(hf:X.fn x=ej\/X.env.scope.names.lookup x=eh .local):PG X (.Name x ç) (gPt i<|.one j) :=
 (OI hN hi hx hf).imp λv σ H Q ⟨u,env,G,ő,r,g,e,b,h⟩=>by cases b;exact h _<|e.set r j
abbrev BO(i:Inf)(js:List Nat):TGs:=λxs σ H Q=>∃vs env ő,RVs i.K H vs xs/\REn i.K H env σ/\O.bindL js vs env=eh ő/\∀σ2,REn i.K H ő σ2->Q σ2 H
def ED:PGs X []<|BO i []:=pgs_nil.imp λxs σ H Q ⟨vs,env,ő,r,e,b,h⟩=>by
 cases vs with
 |nil=>cases r;cases b;exact⟨rfl,h _ e⟩
 |cons _ _=>cases b
variable {js:List Nat}
def C3(hN:X.N.Nodup)(hi:X.N[j]?=eh x)(hx:Loc X.env.scope x)(hf:X.fn x=ej\/X.env.scope.names.lookup x=eh .local)(h2:PGs X es<|BO i js)
  (hs:(ę (.Name x ç::es) X.env).map (·.2)=ž (.Name x ç) X.env::(ę es X.env).map (·.2)):PGs X (.Name x ç::es) (BO i<|j::js) :=
 (Jh (OI hN hi hx hf) h2 hs).imp λxs σ H Q ⟨vs,env,ő,r,e,b,h⟩=>by
  cases vs with
  |nil=>cases b
  |cons v vs =>
   cases r with
   |cons r t=>exact⟨_,_,rfl,vs,env.set j<|eh v,ő,t,e.set r j,b,h⟩
def Kh:∀{js:List Nat}{vs:List O.Val}{env ő:O.Env},O.bindL js vs env=eh ő->vs.length=js.length
 |[],[],_,_,_=>rfl
 |j::js,v::vs,env,_,h=>by rw[Ë,Ë,Kh<|show O.bindL js vs (env.set j<|eh v)=_ from h]
 |[],_::_,_,_,h=>by cases h
 |_::_,[],_,_,h=>by cases h
def OT{k:Nat}(hK:X.K=i.K)(hc:X.calm=ej)(h:PGs X es<|BO i js)(hn:(ę es X.env).length=js.length)(ſ:(ę es X.env).findIdx? (·.1)=ei):PG X (.Tuple es k ç) (gPt i<|.many js) :=
 (Bu (n:=js.length) hc h hn ſ).imp λv σ H Q ⟨u,env,G,ő,r,g,e,b,h⟩=>by
  cases u with
  |tup vs =>
   have b:O.bindL js vs env=eh ő:=b;cases r with
   |tup hp hr=>exact⟨_,_,rfl,by rw[hK];exact Zk hp,by rw[<-hr.length];exact Kh b,vs,env,ő,hr,e,b,h⟩
  |_=>cases b
def F0{k k2:Nat}{p1 p2:Pos}(hK:X.K=i.K)(hc:X.calm=ej)(h1:PG X (.Name x p1)<|gPt i<|.one j)(h2:PG X (.Tuple es k2 p2)<|gPt i<|.many js):PG X (.Tuple [.Name x p1,.Tuple es k2 p2] k ç) (gPt i<|.nest j js) :=
 (Bu (n:=2) hc (Jh h1 (Jh h2 pgs_nil rfl) rfl) rfl rfl).imp λv σ H Q ⟨u,env,G,ő,r,g,e,b,h⟩=>by
  cases u with
  |tup vs =>
   cases vs with
   |nil=>cases b
   |cons x0 vs=>cases vs with
    |nil=>cases b
    |cons y vs=>cases vs with
     |cons _ _=>cases b
     |nil =>
      have b:(O.tupOf y).bind (λys=>O.bindL js ys<|env.set j<|eh x0)=eh ő:=b;cases r with
      |tup hp hr =>
       cases hr with
       |cons r0 t=>cases t with
        |cons r1 t =>cases t;exact⟨_,_,rfl,by rw[hK];exact Zk hp,rfl,_,_,rfl,x0,env,G,_,r0,g,e,rfl,λσ2 e2=>⟨_,_,rfl,y,_,G,ő,r1,g,e2,b,λσ3 e3=>⟨rfl,h σ3 e3⟩⟩⟩
  |_=>cases b
def Lq{q:O.Pt}(he:PE X e<|tE X i Φ m)(hg:PG X tg<|gPt i q)(hs:ώ [tg] e ç.line X.env=pure ez)(hw:Ϗ [tg] e X.env=pure ei)
  (h1:(ę [tg] X.env).map (·.2)=[ž tg X.env]):PS X (.Assign [tg] e ç) (tSt X i Φ<|.set q m) :=
 (CQ he hg hs hw h1).imp λD σ H ⟨env,G,N,R,B,C,Xe,p,w,c⟩=>by refine⟨env,G,_,Xe env,p.pre,w,λv G1 H1 x k1 g1 r1 w1=>?_⟩;obtain⟨ő,e2,w1⟩:=eK w1;exact⟨v,env,G1,ő,r1,g1,p.en.keep k1,e2,λσ2 h2=>c.nx ő σ2 G1 H1 k1 g1 h2 w1⟩
abbrev Di:V->V->V->Hp->(Hp->Prop)->Prop:=λo y v H Q=>Gr o y v H Q\/Go o y v H Q
def Dv{G G3:O.Hs}{H:Hp}{o k v:O.Val}{y z x:V}{Q:Hp->Prop}(g:RH i G H)(ry:RV i.K H o y)(rz:RV i.K H k z)(rx:RV i.K H v x)(e:O.fy G o k v=eh G3)(c:∀H3,fc H H3->RH i G3 H3->Q H3):Di y z x H Q:=by
 cases o with
 |ref b =>
  cases ry.ref_inv
  replace e:(match G b with|some (.lst xs)=>(O.fV k).bind λn=>(O.ixN xs.length n).map λj=>O.upd G b (.lst<|xs.set j v)|some (.dct kvs)=>if O.eZ k/\kvs.length<O.lim then eh (O.upd G b<|.dct<|O.fg kvs k v)else ei|some (.dtp kvs)=>if O.isKeyT k/\kvs.length<O.lim then eh (O.upd G b<|.dtp<|O.fg kvs k v)else ei|_=>ei)=eh G3:=e
  cases z4:G b with
  |none=>rw[z4]at e;cases e
  |some o =>
   rw[z4]at e;cases o with
   |lst xs =>obtain⟨n,hn,e⟩:=é.mp e;obtain⟨jj,hj,rfl⟩:=Î.mp e;cases ZB hn;cases rz.int_inv;obtain⟨vs,h2,r2⟩:=g b _ z4;rw[K1,r2.length]at hj;obtain⟨k3,g3⟩:=KP (xs:=xs) g h2 (xs.set jj v) (vs.set jj x)<|r2.set rx jj;exact .inl ⟨b,vs,n,jj,rfl,rfl,h2,hj,c _ k3 g3⟩
   |dct kvs =>obtain⟨hk,e⟩:=Zo (show(if O.eZ k/\kvs.length<O.lim then eh (O.upd G b<|.dct<|O.fg kvs k v)else ei)=eh G3 from e);cases e;obtain⟨ps,h2,r2⟩:=g b _ z4;obtain⟨d,kr,rfl⟩:=eW hk.1 rz;obtain⟨k3,g3⟩:=Mm (kvs:=kvs) g h2<|r2.put kr rx;exact .inr ⟨b,_,rfl,DPut.k h2 (by rw[<-RKs.length r2];exact ã hk.2 ZL),c _ k3 g3⟩
   |dtp kvs =>obtain⟨hk,e⟩:=Zo (show(if O.isKeyT k/\kvs.length<O.lim then eh (O.upd G b<|.dtp<|O.fg kvs k v)else ei)=eh G3 from e);cases e;obtain⟨ps,h2,r2⟩:=g b _ z4;obtain⟨a1,a2,d,rfl,rfl,hd⟩:=WB hk.1 rz;obtain⟨k3,g3⟩:=DP g h2<|r2.put (i:=a1) (j:=a2) rx;exact .inr ⟨b,_,rfl,DPut.t h2 hd (by rw[<-RTs.length r2];exact ã hk.2 ZL),c _ k3 g3⟩
   |_=>cases e
 |_=>cases e
def UR{a j:Expr}{ma mj:O.E}{ϙ:Pos}(hK:X.K=i.K)(he:PE X e<|tE X i Φ m)(ha:PE X a<|tE X i Φ ma)(hj:PE X j<|tE X i Φ mj)(hgl:PG X (.Subscript a j ϙ)<|P9 (tE X i Φ ma) (tE X i Φ mj) Di)(hs:ώ [.Subscript a j ϙ] e ç.line X.env=pure ez)(hw:Ϗ [.Subscript a j ϙ] e X.env=pure ei)
  (h1:(ę [.Subscript a j ϙ] X.env).map (·.2)=[ž (.Subscript a j ϙ) X.env]):PS X (.Assign [.Subscript a j ϙ] e ç) (tSt X i Φ<|.setIdx ma mj m) :=
 (CQ he hgl hs hw h1).imp λD σ H ⟨env,G,N,R,B,C,Xe,p,w,c⟩=>by refine⟨env,G,_,Xe env,p.pre,w,λv G1 H1 x k1 g1 r1 w1=>?_⟩;refine two (p.go k1 g1<|p.en.keep k1).pre w1 λo k G2 H2 y z k2 p2 ry rz q=>?_;obtain⟨G3,e3,q⟩:=eK q;exact Dv p2.hp ry rz (r1.keep k2) e3 λH3 k3 g3=>c.nx env σ _ _ ((k1.trans k2).trans k3) g3 (p2.en.keep k3) q
structure ItOk(i:Inf)(H0:Hp)(J:It)(st:O.Hs->Prop)(xs:List O.Val):Prop where
 go:∀n G H v,fc H0 H->RH i G H->st G->xs[n]?=eh v->J.go n H/\∀x H',J.yld n H x H'->fc H H'/\RH i G H'/\RV i.K H' v x
 stop:∀n G H,fc H0 H->RH i G H->st G->xs.length<=n->J.stop n H
abbrev tIt(X:Cx)(i:Inf)(Φ:O.Fs)(m:O.It):TI:=λσ H R=>∃env G QI Em,Pre X i σ H env G Em/\O.wI Φ m env G QI Em/\∀st xs G' H' J,fc H H'->RH i G' H'->ItOk i H' J st xs->QI st xs G'->R J H'
variable {tg:Expr} {e:Expr}
def _root_.L2.PI.imp{t t':TI}(h:PI X tg e t)(f:∀σ H Q,t' σ H Q->t σ H Q):PI X tg e t':=λÁ s σ H Q I q=>h Á s σ H Q I (f σ H Q q)
abbrev Rj(K:Frag)(tl:TE):TI:=λσ H R=>tl σ H λx H1=>∃a,x=.ref a/\(((∃xs,fQ K H1 a xs)/\R (Itl K a) H1)\/((∃xs,fR K H1 a xs)/\R (Itt K a) H1))
def Il{l:Expr}{tl:TE}(hl:PE X l tl):PI X tg l<|Rj X.K tl:=by
 intro Á s σ H R I h;refine thn (hl Á s σ H _ I h) λv s1 ⟨x,H1,I1,r1,q1⟩=>?_;obtain⟨a,e,q1⟩:=q1;subst e;cases r1;rcases q1 with⟨⟨xs,hq⟩,q⟩|⟨⟨xs,hq⟩,q⟩
 .obtain⟨ñ,rv,p,hz⟩:=I1.list hq;refine Ω p.isList ?_;refine⟨s1.heap.objs.size,[s1.heap.objs.size],_,_,H1,rfl,I1.kept (t':=s1.toks) λb o e=>Ä _ e,UE a _,⟨_,Ñ _ rfl,rfl,rfl⟩,λb hb=>?_,q⟩;have e:b=s1.heap.objs.size:=by simpa using hb
  subst e;exact I1.fpOk (Ì _)<|I1.hok.fresh<|Ì _
 .obtain⟨ñ,rv,p,hz⟩:=I1.tuple hq;refine ao (show s1.heap.IsTuple a ñ.toArray from p) ?_;refine⟨s1.heap.objs.size,[s1.heap.objs.size],_,_,H1,rfl,I1.kept (t':=s1.toks) λb o e=>Ä _ e,Om a _,⟨_,Ñ _ rfl,rfl,rfl⟩,λb hb=>?_,q⟩;have e:b=s1.heap.objs.size:=by simpa using hb
  subst e;exact I1.fpOk (Ì _)<|I1.hok.fresh<|Ì _
variable {H0:Hp} {a:È} {xs:List O.Val}
def it_lst:ItOk i H0 (Itl i.K a) (λg=>O.eU (g a)=eh xs) xs where
 go:=λn G H v _ g e hv=>by obtain⟨vs,h1,h2⟩:=ZJ g e;obtain⟨x,h3,h4⟩:=h2.get hv;refine⟨⟨vs,x,h1,h3⟩,λy H' ⟨e1,e2⟩=>?_⟩;subst e1;have:=e2 vs h1;rw[h3]at this;cases this;exact⟨fc.refl _,g,h4⟩
 stop:=λn G H _ g e hn=>by obtain⟨vs,h1,h2⟩:=ZJ g e;exact⟨vs,h1,by rw[<-h2.length];exact hn⟩
def it_tup{vs:List V}(hp:H0 a=eh (.tup vs)\/KT i.K a vs)(hr:RVs i.K H0 xs vs):ItOk i H0 (Itt i.K a) (λ_=>True) xs where
 go:=λn G H v k g e hv=>by have hp':H a=eh (.tup vs)\/KT i.K a vs:=hp.imp (k.t _ _) id;obtain⟨x,h3,h4⟩:=(hr.keep k).get hv;refine⟨⟨vs,x,Zk hp',h3⟩,λy H' ⟨e1,e2⟩=>?_⟩;subst e1;have:=e2 vs<|Zk hp';rw[h3]at this;cases this;exact⟨fc.refl _,g,h4⟩
 stop:=λn G H k g e hn=>by have hp':H a=eh (.tup vs)\/KT i.K a vs:=hp.imp (k.t _ _) id;exact⟨vs,Zk hp',by rw[<-hr.length];exact hn⟩
def it_scr{ns:List Int}(h:(∃o,H0 a=eh (.frz o<|.lst<|ns.map V.int))\/KL i.K a (ns.map V.int)):ItOk i H0 (Itl i.K a) (λ_=>True) (ns.map .int) where
 go:=λn G H v k g e hv=>by have h':fQ i.K H a<|ns.map V.int:=Z0<|h.imp (λ⟨o,e⟩=>⟨o,k.f _ _ _ e⟩) id;obtain⟨x,h3,h4⟩:=(RVs.ints (K:=i.K) (H:=H) ns).get hv;refine⟨⟨_,x,h',h3⟩,λy H' ⟨e1,e2⟩=>?_⟩;subst e1;have:=e2 _ h';rw[h3]at this;cases this;exact⟨fc.refl _,g,h4⟩
 stop:=λn G H k g e hn=>⟨_,Z0<|h.imp (λ⟨o,e⟩=>⟨o,k.f _ _ _ e⟩) id,by simpa using hn⟩
def Bl{lo hi:Int}{n:Nat}(hn:n=(hi - lo).toNat):ItOk i H0 (Itr lo n) (λ_=>True) (O.fm lo hi) where
 go:=λk G H v _ g _ hv=>by
  unfold O.fm at hv;rw[Ò]at hv;have hk:k<(hi - lo).toNat:=by
   by_cases h:k<(hi - lo).toNat
   .exact h
   .rw[Ļ<|by simpa using h]at hv;cases hv
  rw[List.getElem?_range hk]at hv;cases hv;refine⟨by rw[hn];exact hk,λx H' ⟨e1,e2⟩=>?_⟩;subst e1 e2;exact⟨fc.refl _,g,.int _⟩
 stop:=λk G H _ g _ hk=>by unfold O.fm at hk;show n<=k;simp at hk;lia
variable {m:O.E}
def HF(hK:X.K=i.K)(he:PE X e<|tE X i Φ m):PI X tg e (tIt X i Φ<|.seq m) :=
 (Il he).imp λσ H R ⟨env,G,QI,Em,p,w,c⟩=>by
  refine one p w λv G1 H1 x k1 p1 r q=>?_;obtain⟨⟨st,xs⟩,e1,q2⟩:=eK q;clear q;rw[hK];cases v with
  |tup ys =>
   cases e1;cases r with
   |tup hp hr=>exact⟨_,rfl,.inr ⟨⟨_,Zk hp⟩,c _ _ G1 H1 _ k1 p1.hp (it_tup hp hr) q2⟩⟩
  |scr ns =>
   cases e1;cases r with
   |scr h=>exact⟨_,rfl,.inl ⟨⟨_,Z0 h⟩,c _ _ G1 H1 _ k1 p1.hp (it_scr h) q2⟩⟩
  |ref a =>
   cases r.ref_inv;simp only[O.itV]at e1;cases z:O.eU (G1 a)with
   |none=>rw[z]at e1;cases e1
   |some ys =>rw[z]at e1;cases e1;obtain⟨vs,h1,h2⟩:=ZJ p1.hp z;exact⟨a,rfl,.inl ⟨⟨vs,h1⟩,c _ _ G1 H1 _ k1 p1.hp it_lst q2⟩⟩
  |_=>cases e1
variable {p:Pos} {ç:Pos}
def B4{a:Expr}(hg:Gl X "range")(hm:X.mg "range" = ei)(ha:PE X a<|tE X i Φ m)(hs:Ô [a] X.env=[(ez,eval a X.env)]):PI X tg (.Call (.Name "range" p) [a] [] ç) (tIt X i Φ<|.range m) :=
 (Ax hg hm (ZI ha fO<|by rw[hs];rfl) hs).imp λσ H R ⟨env,G,QI,Em,p,w,c⟩=>by refine one p w λv G1 H1 x k1 p1 r q=>?_;obtain⟨n,e1,q2⟩:=eK q;clear q;cases ZB e1;cases r.int_inv;exact⟨n,rfl,q2.1.1,q2.1.2,c _ _ G1 H1 _ k1 p1.hp (Bl<|by rw[Int.sub_zero]) q2.2⟩
def Aj{a b:Expr}{ma mb:O.E}(hg:Gl X "range")(hm:X.mg "range" = ei)(ha:PE X a<|tE X i Φ ma)(hb:PE X b<|tE X i Φ mb)(hs:Ô [a,b] X.env=[(ez,eval a X.env),(ez,eval b X.env)])(hs1:Ô [b] X.env=[(ez,eval b X.env)]) :
  PI X tg (.Call (.Name "range" p) [a,b] [] ç) (tIt X i Φ<|.range2 ma mb) :=
 (Aa hg hm (ZI ha (ZI hb fO<|by rw[hs1];rfl)<|by rw[hs,hs1]) hs hs1).imp λσ H R ⟨env,G,QI,Em,p,w,c⟩=>by refine two p w λv u G1 H1 x y k1 p1 rx ry q=>?_;obtain⟨n,e1,q1⟩:=eK q;obtain⟨m,e2,q2⟩:=eK q1;clear q q1;cases ZB e1;cases ZB e2;cases rx.int_inv;cases ry.int_inv;exact⟨n,m,rfl,q2.1,c _ _ G1 H1 _ k1 p1.hp (Bl rfl) q2.2⟩
def Lm{ũ:Expr}{body:List Ľ}{q:O.Pt}{mi:O.It}{mb:O.Ss}(hp:Ϸ (Û X.prog X.w) X.A X.env X.xe)(hc:X.calm=ej)(hi:PI X tg ũ<|tIt X i Φ mi)(hg:PG X tg<|gPt i q)(hb:PSs X body<|tBl X i Φ mb)
  (hs:∀x,ĕ ũ X.env x=pure x):PS X (.For tg ũ body [] ç) (tSt X i Φ<|.for q mi mb) :=
 (CH hp hc hi hg hb hs).imp λD σ H ⟨env,G,N,R,B,C,Xe,p,w,c⟩=>by
  refine⟨env,G,_,Xe env,p.pre,w,λst xs G1 H1 J k1 g1 it w1=>?_⟩;refine⟨λn m Ř H'=>n+m=xs.length/\∃Ś G',fc H1 H'/\RH i G' H'/\REn i.K H' Ś Ř/\O.wFor st (λv e g K M=>O.go (O.bind q g v e) λe2=>O.wSs Φ mb e2 g K R M K Xe) N (xs.drop n) Ś G',⟨xs.length,by lia,env,G1,fc.refl _,g1,p.en.keep k1,by simpa using w1⟩,?_⟩;rintro n m Ř H' ⟨hnm,Ś,G',k2,g2,e2,w2⟩;by_cases hn:n<xs.length
  .right;have hd:xs.drop n=xs[n]::xs.drop (n+1):=Γ hn;rw[hd]at w2;obtain⟨s2,w2⟩:=w2;have hv:xs[n]?=eh xs[n]:=Ê hn;obtain⟨a1,a2⟩:=it.go n G' H' xs[n] k2 g2 s2 hv;refine⟨a1,λσ3 H3=>∃env3 G3,fc H1 H3/\RH i G3 H3/\REn i.K H3 env3 σ3/\O.wFor st (λv e g K M=>O.go (O.bind q g v e) λe2=>O.wSs Φ mb e2 g K R M K Xe) N (xs.drop<|n+1) env3 G3,λσ3 H3 h=>⟨m - 1,by lia,by lia,h⟩,λx H3 hy=>?_⟩;obtain⟨k3,g3,r3⟩:=a2 x H3 hy;obtain⟨cI,e4,w4⟩:=eK w2;refine⟨xs[n],Ś,G',cI,r3,g3,e2.keep k3,e4,λσ4 h4=>?_⟩;have kk:fc H H3:=(k1.trans k2).trans k3;refine⟨cI,G',_,R,N,_,Xe,p.go kk g3 h4,w4,⟨λdh σ5 G5 H5 k5 g5 e5 w5=>?_,(c.go kk).rt,(c.go kk).nx,λdh σ5 G5 H5 k5 g5 e5 w5=>?_⟩⟩
   .exact⟨dh,G5,(k2.trans k3).trans k5,g5,e5,w5⟩
   .exact⟨dh,G5,(k2.trans k3).trans k5,g5,e5,w5⟩
  .left;have hd:xs.drop n=[]:=Ŏ (by lia);rw[hd]at w2;exact⟨it.stop n G' H' k2 g2 w2.1 (by lia),c.nx Ś Ř G' H' (k1.trans k2) g2 e2 w2.2⟩
def Iu:fN i .len λxs H Q=>((∃p ys,xs=[.ref p]/\(fQ i.K H p ys\/fR i.K H p ys)/\Q (.int ys.length) H)\/∃z,xs=[.str z]/\z.length<=Ù/\Q (.int z.length) H)\/∃a kvs,xs=[V.ref a]/\H a=eh (.dK kvs)/\Q (.int kvs.length) H:=by
 intro vs G H xs Q Qm g r w c;obtain⟨v,rfl,w⟩:=Wh w;obtain⟨x,rfl,rx⟩:=r.inv1;cases v with
 |ref a =>
  cases rx.ref_inv
  replace w:(match G a with|some (.lst xs)=>.val (.int xs.length)|some (.dct kvs)=>.val (.int kvs.length)|_=>.no:O.Rs).wp G Qm:=w
  cases z:G a with
  |none=>rw[z]at w;exact(Zf w).elim
  |some o =>
   rw[z]at w;cases o with
   |lst ys =>obtain⟨us,h1,h2⟩:=g a _ z;refine .inl<|.inl ⟨a,us,rfl,.inl<|fQ.of h1,?_⟩;rw[<-h2.length];exact c _ G H _ (fc.refl H) g (.int _)<|Zi w
   |dct kvs =>obtain⟨ps,h1,h2⟩:=g a _ z;refine .inr ⟨a,ps,rfl,h1,?_⟩;rw[<-h2.length];exact c _ G H _ (fc.refl H) g (.int _)<|Zi w
   |_=>exact(Zf w).elim
 |tup ys =>
  cases rx with
  |tup hp hr =>refine .inl<|.inl ⟨_,_,rfl,.inr<|Zk hp,?_⟩;rw[<-hr.length];exact c _ G H _ (fc.refl H) g (.int _)<|Zi w
 |scr ns =>
  cases rx with
  |scr h =>refine .inl<|.inl ⟨_,_,rfl,.inl<|Z0 h,?_⟩;rw[Ã];exact c _ G H _ (fc.refl H) g (.int _)<|Zi w
 |str s =>cases rx.str_inv;obtain⟨hl,w⟩:=XT w;refine .inl (.inr ⟨_,rfl,by rw[Zs];exact Ý hl ZL,?_⟩);rw[Zs];exact c _ G H _ (fc.refl H) g (.int _)<|Zi w
 |_=>exact(Zf w).elim
def E7:fN i .list λxs H Q=>∃p ys,xs=[.ref p]/\(fQ i.K H p ys\/fR i.K H p ys)/\∀l,H l=ei->Q (.ref l) (upd H l<|.lst ys):=by
 intro vs G H xs Q Qm g r w c;obtain⟨v,rfl,w⟩:=Wh w;obtain⟨x,rfl,rx⟩:=r.inv1;cases v with
 |ref a =>cases rx.ref_inv;obtain⟨ys,e,w⟩:=MG (f:=λxs=>.new<|.lst xs) w;obtain⟨us,h1,h2⟩:=g a _ e;exact⟨a,us,rfl,.inl<|fQ.of h1,Yh g (KY w) c λp hp=>⟨_,eC,h2.keep<|fc.new hp⟩⟩
 |tup ys =>
  cases rx with
  |tup hp hr=>exact⟨_,_,rfl,.inr<|Zk hp,Yh g (KY w) c λp hp=>⟨_,eC,hr.keep<|fc.new hp⟩⟩
 |_=>exact(Zf w).elim
variable {H:Hp}
def AE{K:Frag}:∀{xs:List O.Val}{bs:List Bool}{vs:List V},O.blsOf xs=eh bs->RVs K H xs vs->vs=bs.map V.bl:=by
 intro xs;induction xs with
 |nil=>intro bs vs e r;cases e;cases r;rfl
 |cons v xs ih =>
  intro bs vs e r;cases v<;>first|(cases e;done)|skip
  case bl b =>
  simp only[O.blsOf]at e;cases z:O.blsOf xs with
  |none=>rw[z]at e;cases e
  |some ns=>rw[z]at e;cases e;cases r with|cons a t=>cases a.bl_inv;rw[ih z t];rfl
def IU{o:Option O.Val}{h:O.Hs}{Q:O.Q1}(w:(O.Rs.ofO o).wp h Q):∃v,o=eh v/\Q v h:=by
 cases o with
 |none=>exact(Zf w).elim
 |some v=>exact⟨v,rfl,Zi w⟩
def HY:fN i .all λxs H Q=>∃p,∃bs:List Bool,xs=[.ref p]/\fQ i.K H p (bs.map V.bl)/\Q (.bl<|bs.all id) H:=by
 intro vs G H xs Q Qm g r w c;obtain⟨v,rfl,w⟩:=Wh w;obtain⟨x,rfl,rx⟩:=r.inv1;cases v with
 |ref a =>cases rx.ref_inv;obtain⟨v,e,w⟩:=IU w;obtain⟨ys,z,e⟩:=é.mp e;obtain⟨bs,z2,rfl⟩:=Î.mp e;obtain⟨us,h1,h2⟩:=ZJ g z;have:=AE z2 h2;subst this;exact⟨a,bs,rfl,h1,c _ G H _ (fc.refl H) g (.bl _) w⟩
 |_=>exact(Zf w).elim
set_option exponentiation.threshold 2000 in
def IM{k:Int}(h:k.natAbs<10 ^ 200):k.natAbs.log2<1920:=by
 have e:(10:Nat) ^ 200<2 ^ 1920:=by decide
 by_cases h0:k.natAbs=0
 .rw[h0];decide
 .exact(Nat.log2_lt h0).mpr<|Ű h e
def BN(ds:List O.D)(d:O.D):(toDs ds).any (λe=>Ģ e<|toD d)=ds.any λe=>O.D.eqv e d:=by
 induction ds with
 |nil=>rfl
 |cons e es ih=>simp only[toDs,ķ,ih,KO]
variable {G:O.Hs} {y:V} {ys:List O.Val}
def Uv(g:RH i G H){v u:O.Val}{x:V}{c:Bool}(rx:RV i.K H v x)(e:O.inL G v ys=eh c)(hy:∀ds,ys.mapM (O.dat G<|O.deep - 1)=eh ds->IsD i.K H y (.tuple<|toDs ds)\/IsD i.K H y (.list<|toDs ds)) :
  ∃ds d,(IsD i.K H y (.tuple ds)\/IsD i.K H y (.list ds))/\IsD i.K H x d/\Ő ds=ej/\d.canLay0=ej/\d.depth<=64/\ds.any (λe=>Ģ e d)=c:=by
 unfold O.inL at e;cases z:O.dat G O.deep v with
 |none=>rw[z]at e;cases e
 |some d =>
  rw[z]at e;simp only[ú]at e;cases z2:ys.mapM (O.dat G<|O.deep - 1)with
  |none=>rw[z2]at e;cases e
  |some ds =>rw[z2]at e;cases e;exact⟨_,_,hy ds z2,XO g _ _ _ _ z rx,toDs_lay ds,KQ d,Ý (Ku _ _ _ z) (by decide),BN ds d⟩
def OZ(g:RH i G H){u:O.Val}(ry:RV i.K H u y)(hu:u=.tup ys\/∃a,u=.ref a/\O.eU (G a)=eh ys):∀ds,ys.mapM (O.dat G<|O.deep - 1)=eh ds->IsD i.K H y (.tuple<|toDs ds)\/IsD i.K H y (.list<|toDs ds):=by
 intro ds hd;rcases hu with rfl|⟨a,rfl,hl⟩
 .left;have:=XO g O.deep (.tup ys) (.tup ds) y (by show Option.map _ (List.mapM (O.dat G<|O.deep - 1) ys)=_;rw[hd];rfl) ry;simpa[toD]using this
 .right;have:=XO g O.deep (.ref a) (.lst ds) y (by show(O.eU<|G a).bind _=_;rw[hl];show Option.map _ (List.mapM (O.dat G<|O.deep - 1) ys)=_;rw[hd];rfl) ry;simpa[toD]using this
def HB(s t:String)(c:Char)(h:O.oneC s=eh c):(!(Builtin.Str.occurrences (gg t) (gg s) 0 (gg t).length 1).isEmpty)=gf (c∈t.toList):=by
 have e:gg s=⟨#[c.toNat]⟩:=by
  unfold O.oneC at h;split at h
  .rename_i d hd;cases h;rw[Str.ofString_eq_toList,hd];rfl
  .cases h
 rw[e,StrLaws.found_one,Kk];have inj:∀{a b:Char},a.toNat=b.toNat->a=b:=λ{a b} e=>Char.ext<|bz e;by_cases hc:c∈t.toList
 .rw[f9 hc,gb];exact ÿ hc
 .rw[f8 hc,decide_eq_false_iff_not];intro m;obtain⟨d,hd,he⟩:=Ú.mp m;exact hc<|inj he▸hd
abbrev PL(K:Frag):R2:=λx y H Q=>E0 ez x y H Q\/F6 K ez x y H Q\/∃i j,x=.str i/\y=.str j/\Q (.bl (!(Builtin.Str.occurrences j i 0 j.length 1).isEmpty)) H
abbrev LT(K:Frag):R2:=λx y H Q=>E0 ej x y H Q\/F6 K ej x y H Q\/∃i j,x=.str i/\y=.str j/\Q (.bl (!(!(Builtin.Str.occurrences j i 0 j.length 1).isEmpty))) H
def Rn(hu:X.A.units+65<Ĥ):OpR X (è .In)<|PL X.K:=(Ii<|by lia).or ((IV hu).or AD)
def Rv(hu:X.A.units+65<Ĥ):OpR X (è .NotIn)<|LT X.K:=(Hv<|by lia).or ((UG hu).or KN)
def Gh{v u:O.Val}{G:O.Hs}{H:Hp}{x y:V}{b:Bool}(g:RH i G H)(rx:RV i.K H v x)(ry:RV i.K H u y)(e:O.inV G v u=eh b) :
  (∃ds d,(IsD i.K H y (.tuple ds)\/IsD i.K H y (.list ds))/\IsD i.K H x d/\Ő ds=ej/\d.canLay0=ej/\d.depth<=64/\ds.any (λe=>Ģ e d)=b)\/
  (∃j k,x=.str j/\y=.str k/\(!(Builtin.Str.occurrences k j 0 k.length 1).isEmpty)=b)\/∃a o,y=.ref a/\DGet H a x o/\o.isSome=b:=by
 cases u with
 |tup ys=>exact .inl<|Uv (u:=.tup ys) g rx e<|OZ g ry<|.inl rfl
 |ref a =>
  replace e:(match G a with|some (.lst xs)=>O.inL G v xs|some (.dct kvs)=>if O.eZ v then eh (O.ff kvs v)else ei|some (.frz kvs)=>if O.eZ v then eh (O.ff kvs v)else ei|some (.dtp kvs)=>if O.isKeyT v then eh (O.ff kvs v)else ei|_=>ei)=eh b:=e
  cases z:G a with
  |none=>rw[z]at e;cases e
  |some o =>
   rw[z]at e;cases o with
   |lst ys=>exact .inl (Uv (u:=.ref a) g rx e<|OZ g ry<|.inr ⟨a,rfl,by rw[z];rfl⟩)
   |dct kvs =>obtain⟨hk,e⟩:=Zo (show(if O.eZ v then eh (O.ff kvs v)else ei)=eh b from e);cases e;obtain⟨ps,h1,h2⟩:=g a _ z;obtain⟨d,kr,rfl⟩:=eW hk rx;exact .inr (.inr ⟨a,_,ry.ref_inv,DGet.k h1,by rw[h2.has kr,Y4]⟩)
   |frz kvs =>obtain⟨hk,e⟩:=Zo (show(if O.eZ v then eh (O.ff kvs v)else ei)=eh b from e);cases e;obtain⟨ob,ps,h1,h2⟩:=g a _ z;obtain⟨d,kr,rfl⟩:=eW hk rx;exact .inr (.inr ⟨a,_,ry.ref_inv,.inl ⟨ps,d,.inr ⟨ob,h1⟩,rfl,rfl⟩,by rw[h2.has kr,Y4]⟩)
   |dtp kvs =>obtain⟨hk,e⟩:=Zo (show(if O.isKeyT v then eh (O.ff kvs v)else ei)=eh b from e);cases e;obtain⟨ps,h1,h2⟩:=g a _ z;obtain⟨k1,k2,d,rfl,rfl,hd⟩:=WB hk rx;exact .inr (.inr ⟨a,_,ry.ref_inv,DGet.t h1 hd,by rw[h2.has,Y4]⟩)
   |_=>cases e
 |str t =>
  cases v with
  |str s =>obtain⟨c,z,rfl⟩:=Î.mp e;exact .inr<|.inl ⟨_,_,rx.str_inv,ry.str_inv,HB s t c z⟩
  |_=>cases e
 |_=>cases e
def E8{o:Option Bool}{b:Bool}(e:o.map (!·)=eh b):o=eh (!b):=by obtain⟨c,z,rfl⟩:=Î.mp e;rw[z,aa]
def QP:ZV i .isin<|PL i.K:=by
 intro v u G H x y c Q g rx ry e q;rcases Gh g rx ry e with⟨ds,d,h1,h2,h3,h4,h5,h6⟩|⟨j,k,h1,h2,h3⟩|⟨a,o,h1,h2,h3⟩
 .exact .inr (.inl ⟨ds,d,h1,h2,h3,h4,h5,by show Q (.bl<|List.any _ _) H;rw[h6];exact q⟩)
 .exact .inr (.inr ⟨j,k,h1,h2,by rw[h3];exact q⟩)
 .exact .inl ⟨a,o,h1,h2,by rw[h3,aU];exact q⟩
def Rq:ZV i .notin<|LT i.K:=by
 intro v u G H x y c Q g rx ry e q;rcases Gh g rx ry (E8 e)with⟨ds,d,h1,h2,h3,h4,h5,h6⟩|⟨j,k,h1,h2,h3⟩|⟨a,o,h1,h2,h3⟩
 .exact .inr (.inl ⟨ds,d,h1,h2,h3,h4,h5,by show Q (.bl (!List.any _ _)) H;rw[h6,aa];exact q⟩)
 .exact .inr (.inr ⟨j,k,h1,h2,by rw[h3,aa];exact q⟩)
 .exact .inl ⟨a,o,h1,h2,by rw[h3,Bool.true_xor,aa];exact q⟩
variable {a:Expr} {b:Expr} {d:Expr} {ma:O.E} {mb:O.E} {op:b6} {db:b6} {cop:O.Cop} {cop':O.Cop} {r:R2} {r':R2} {ç:Pos}
def FB{md:O.E}(ho:OpR X (è op) r)(hr:ZV i cop r)(al:OpR X (è db) r')(hr':ZV i cop' r')(ha:PE X a<|tE X i Φ ma)(hb:PE X b<|tE X i Φ mb)(hd:PE X d<|tE X i Φ md)(hm:bb [op,db] [b,d]=ez) :
  PE X (.Compare a [op,db] [b,d] ç) (tE X i Φ<|.chain cop cop' ma mb md) :=
 (BD ho al ha hb hd hm).imp λσ H Q ⟨env,G,Qm,Em,p,w,k⟩=>by
  exact two p w λv u G2 H2 x y k2 p2 rx ry q=>by
   obtain⟨c,e,q⟩:=eK q;refine hr v u G2 H2 x y c _ p2.hp rx ry e ⟨c,rfl,?_⟩;cases c with
   |true =>
    rw[f6 rfl]at q ⊢;exact one p2 q λt G3 H3 z k3 p3 rz q=>by obtain⟨d2,e2,q⟩:=eK q;exact hr' u t G3 H3 y z d2 Q p3.hp (ry.keep k3) rz e2<|k (.bl d2) G3 H3 (.bl d2) (k2.trans k3) p3.hp (.bl d2) q
   |false =>rw[f7 ü]at q ⊢;exact k _ G2 H2 _ k2 p2.hp (.bl _) q
def Da{md:O.E}(ho:OpR X (è op) r)(hr:ZV i cop r)(al:OpR X (è db) r')(hr':ZV i cop' r')(ha:PE X a<|tE X i Φ ma)(hb:PE X b<|tE X i Φ mb)(hd:PE X d<|tE X i Φ md)(hm:bb [op,db] [b,d]=ez) :
  PT X (.Compare a [op,db] [b,d] ç) (tTt X i Φ<|.val<|.chain cop cop' ma mb md) :=
 (Du ho al ha hb hd hm).imp λσ H Q ⟨env,G,Qm,Em,p,w,k⟩=>by
  exact two p w λv u G2 H2 x y k2 p2 rx ry q=>by
   obtain⟨c,e,q⟩:=eK q;refine hr v u G2 H2 x y c _ p2.hp rx ry e ⟨c,rfl,?_⟩;cases c with
   |true =>
    rw[f6 rfl]at q ⊢;exact one p2 q λt G3 H3 z k3 p3 rz q=>by obtain⟨d2,e2,q⟩:=eK q;obtain⟨d3,e3,q⟩:=eK q;cases e3;exact hr' u t G3 H3 y z d2 _ p3.hp (ry.keep k3) rz e2 ⟨d2,rfl,k d2 G3 H3 (k2.trans k3) p3.hp q⟩
   |false =>rw[f7 ü]at q ⊢;obtain⟨d3,e3,q⟩:=eK q;cases e3;exact⟨ez,rfl,k _ G2 H2 k2 p2.hp q⟩
def Cz{st:Ľ}:PS X st<|tSt X i Φ .never:=λÁ s σ H D I ⟨env,G,N,R,B,C,Xe,p,w,c⟩=>by exact w.elim
end Snd
namespace L2
open PySem PySem.Spec PyProof.Rows
def L7{x:V}{xs:List V}{ñ:List Â}(hl:(x::xs).length=ñ.length):(ñ.toArray.size != (#[]:Array Â).size)=ej:=by
 cases ñ with
 |nil=>cases hl
 |cons y ys=>simp
section
variable {X:Cx}
abbrev Qt(K:Frag)(n:Bool):R2:=λx y H Q=>∃a b xs,x=.ref a/\y=.ref b/\fQ K H a xs/\fQ K H b []/\Q (.bl<|n ^^ xs.isEmpty) H
def Dt(hu:X.A.units+64<Ĥ):OpR X (è .Eq)<|Qt X.K ez:=by
 intro Á s σ H x y v u Q I rx ry h;obtain⟨a,b,xs,rfl,rfl,ha,hb,q⟩:=h;cases rx;cases ry;obtain⟨ñ,rv,pl,_⟩:=I.list ha;obtain⟨aS,rv2,pl2,_⟩:=I.list hb;cases rv2;have hl:=rv.length;cases xs with
 |nil =>have:ñ=[]:=Ξ.mp hl.symm;subst this;exact SeqAt.RcAt.lists (A:=X.A) (e:=λ_=>ej) pl.isList pl2.isList rfl (by lia) (λj j1 _=>by simp at j1) X.prog X.w X.xe _ ⟨.bl ej,H,I,rfl,q⟩
 |cons x xs =>exact SeqAt.RcAt.lists_lengths (A:=X.A) pl.isList pl2.isList (L7 hl) (by lia) X.prog X.w X.xe _ ⟨.bl ez,H,I,rfl,q⟩
end
end L2
namespace Snd
open PySem L2
variable {i:Inf}{G:O.Hs}{H:Hp}
variable {x:V} {xs:List O.Val}
def Kn(g:RH i G H){v:O.Val}(r:RV i.K H v x)(e:O.asLst G v=eh xs):∃a vs,x=.ref a/\fQ i.K H a vs/\RVs i.K H xs vs:=by
 cases v with
 |ref a =>cases r;obtain⟨vs,h1,h2⟩:=ZJ g e;exact⟨a,vs,rfl,h1,h2⟩
 |_=>cases e
def C9(g:RH i G H){v u:O.Val}{y:V}(rx:RV i.K H v x)(ry:RV i.K H u y){c:Bool}{f:List O.Val->List O.Val->Option Bool}(e:((O.asLst G v).bind λxs=>(O.asLst G u).bind λys=>f xs ys)=eh c):∃xs ys a b vs us,f xs ys=eh c/\x=.ref a/\y=.ref b/\fQ i.K H a vs/\fQ i.K H b us/\RVs i.K H xs vs/\RVs i.K H ys us:=by
 cases z:O.asLst G v with
 |none=>rw[z]at e;cases e
 |some xs =>
  cases z2:O.asLst G u with
  |none=>rw[z,z2]at e;cases e
  |some ys =>rw[z,z2]at e;obtain⟨a,vs,h1,h2,h3⟩:=Kn g rx z;obtain⟨b,us,k1,k2,k3⟩:=Kn g ry z2;exact⟨xs,ys,a,b,vs,us,e,h1,k1,h2,k2,h3,k3⟩
def Ec{vs:List V}(h:RVs i.K H xs vs):vs.isEmpty=xs.isEmpty:=by cases h<;>rfl
def c_eqE:ZV i .eqE<|Qt i.K ez:=by
 intro v u G H x y c Q g rx ry e q;obtain⟨xs,ys,a,b,vs,us,e,h1,h2,h3,h4,h5,h6⟩:=C9 g rx ry e;split at e
 .rename_i z;cases e;cases h6 with
  |nil=>exact⟨a,b,vs,h1,h2,h3,h4,by rw[Ec h5,aU];exact q⟩
  |cons _ _=>cases z
 .cases e
variable {i:Inf}{X:Cx}{Φ:O.Fs}
def RVs.strs{K:Frag}{H:Hp}:∀ss:List String,RVs K H (ss.map O.Val.str) ((ss.map gg).map V.str)
 |[]=>.nil
 |s::ss=>.cons (.str s)<|RVs.strs ss
abbrev tPt(X:Cx)(i:Inf)(Φ:O.Fs)(m:O.E):TE:=λσ H Q=>∃env G Qm Em,Pre X i σ H env G Em/\O.wE Φ m env G Qm Em/\∀v G' H',fc H H'->RH i G' H'->Qm v G'->∃s,O.fmtV v=eh s/\s.length<=O.lim/\Q (.str<|gg s) H'
abbrev tJs(X:Cx)(i:Inf)(Φ:O.Fs)(ms:O.Es):TJ:=λσ H Ĭ Q=>∃env G a Qm Em,Ĭ=gg a/\a.length<=O.lim/\Pre X i σ H env G Em/\O.wJ Φ ms env G a Qm Em/\∀s G' H',fc H H'->RH i G' H'->Qm s G'->Q (gg s) H'
def _root_.L2.PJ.imp{vs:List Expr}{t t':TJ}(h:PJ X vs t)(f:∀σ H Ĭ Q,t' σ H Ĭ Q->t σ H Ĭ Q):PJ X vs t':=λÁ s σ H Ĭ Q I q=>h Á s σ H Ĭ Q I (f σ H Ĭ Q q)
variable {e:Expr} {m:O.E} {ç:Pos}
def LB(he:PE X e<|tE X i Φ m):PE X (.FormattedValue e (-1) ei ç) (tPt X i Φ m) :=
 (FZ he).imp λσ H Q ⟨env,G,Qm,Em,p,w,c⟩=>by
  refine⟨env,G,Qm,Em,p,w,λv G1 H1 x k1 g1 r1 w1=>?_⟩;obtain⟨s,e1,hl,q⟩:=c v G1 H1 k1 g1 w1;cases v with
  |str t=>cases e1;cases r1.str_inv;exact .inr ⟨_,rfl,by rw[Zs];exact Ý hl ZL,q⟩
  |int n =>
   cases r1.int_inv;simp only[O.fmtV]at e1;split at e1
   .rename_i hn;cases e1;exact .inl ⟨n,rfl,IM hn,q⟩
   .cases e1
  |_=>cases e1
def Ho{s:String}{j:Nat}:PE X (.Constant (.str<|gg s) j ç) (tPt X i Φ<|.cst<|.str s) :=
 pe_str.imp λσ H Q ⟨env,G,Qm,Em,p,w,c⟩=>by obtain⟨t,e1,hl,q⟩:=c _ G H (fc.refl H) p.hp w;cases e1;exact q
def Hj:PJ X []<|tJs X i Φ .nil:=pj_nil.imp λσ H Ĭ Q ⟨env,G,a,Qm,Em,e,hl,p,w,c⟩=>by subst e;exact⟨by rw[Zs];exact Ý hl ZL,c a G H (fc.refl H) p.hp w⟩
def OM{es:List Expr}{ms:O.Es}(he:PE X e<|tPt X i Φ m)(hr:PJ X es<|tJs X i Φ ms)(hs:ck (e::es) X.env=eval e X.env::ck es X.env):PJ X (e::es) (tJs X i Φ<|.cons m ms) :=
 (EM he hr hs).imp λσ H Ĭ Q ⟨env,G,a,Qm,Em,e,hl,p,w,c⟩=>by subst e;refine⟨env,G,_,Em,p,w,λv G1 H1 k1 g1 w1=>?_⟩;obtain⟨s,e1,hl1,w2⟩:=eK w1;clear w1;refine⟨s,e1,by lia,_,rfl,?_,env,G1,a++s,Qm,Em,(Ml a s).symm,by rw[bS];exact hl1,p.go k1 g1,w2,λt G2 H2 k2=>c t G2 H2<|k1.trans k2⟩;rw[<-Ml,Zs,bS];exact Ý hl1 ZL
def WN{G:O.Hs}{H:Hp}{p:È}{o:HO}(g:RH i G H)(hp:H p=ei):RH i G<|upd H p o:=g.hid (fc.new hp) λb u e=>eB (by rintro rfl;rw[g.free hp]at e;cases e)
abbrev tE0(i:Inf)(Φ:O.Fs)(m:O.E):TE:=λσ H Q=>∃env G Qm,REn i.K H env σ/\RH i G H/\O.wE Φ m env G Qm (λ_ _=>False)/\Cn i H Q Qm
abbrev tT0(i:Inf)(Φ:O.Fs)(m:O.Tt):TT:=λσ H Q=>∃env G Qm,REn i.K H env σ/\RH i G H/\O.wT Φ m env G Qm (λ_ _=>False)/\∀b G' H',fc H H'->RH i G' H'->Qm b G'->Q b H'
variable {H:Hp}
def OP:XOk X i H λ_ _=>False:=λÁ σ H0 s H' a cls s' I f ⟨_,_,_,_,_,_,_,z⟩=>z.elim
variable {e:Expr}
def pe0{m:O.E}(h:PE X e<|tE X i Φ m):PE X e<|tE0 i Φ m:=h.imp λσ H Q ⟨env,G,Qm,r,g,w,c⟩=>⟨env,G,Qm,_,⟨r,g,OP⟩,w,c⟩
def pt0{m:O.Tt}(h:PT X e<|tTt X i Φ m):PT X e<|tT0 i Φ m:=h.imp λσ H Q ⟨env,G,Qm,r,g,w,c⟩=>⟨env,G,Qm,_,⟨r,g,OP⟩,w,c⟩
def _root_.L2.PIfs.imp{es:List Expr}{t t':TT}(h:PIfs X es t)(f:∀σ H Q,t' σ H Q->t σ H Q):PIfs X es t':=λÁ s σ H Q I q=>h Á s σ H Q I (f σ H Q q)
def Lo:PIfs X []<|tT0 i Φ .yes:=pifs_nil.imp λσ H Q ⟨env,G,Qm,r,g,w,c⟩=>by exact c ej G H (fc.refl H) g w
variable {ô:List Nat}
def Eg{K:Frag}{H':Hp}{env:O.Env}{σ:St}{k:Nat}(r:REn K H env σ)(kp:fc H H'):REn K H' (Õ k ei++ô.map λj=>(env[j]?).getD ei)<|Õ k ei++NM σ ô:=by
 refine⟨by simp[NM],λn u e=>?_⟩;by_cases hn:n<k
 .rw[Ċ (by rw[ð];exact hn),Ň,f6 hn]at e;cases e
 .rw[ď (by rw[ð];lia),ð]at e ⊢;generalize n - k=n at e ⊢;simp only[Ò]at e;cases z:ô[n]? with
  |none=>rw[z]at e;cases e
  |some j =>
   rw[z]at e;simp only[ō,ĩ]at e;cases z2:env[j]? with
   |none=>rw[z2]at e;cases e
   |some o =>rw[z2]at e;have e:o=eh u:=e;subst e;obtain⟨y,h1,h2⟩:=r.get j u z2;exact⟨y,by unfold NM;rw[Ò,z];show eh ((σ[j]?).getD ei)=_;rw[h1];rfl,h2.keep kp⟩
abbrev Oa(k:Nat):O.Pt->Bool
 |.one j=>gf (j<k)
 |.many js=>js.all λj=>gf (j<k)
 |.nest _ _=>ez
def Kz{r:O.Env}:∀{js:List Nat}{vs:List O.Val}{l ő:O.Env},(js.all λj=>gf (j<l.length))=ej->O.bindL js vs (l++r)=eh ő->∃l',ő=l'++r/\l'.length=l.length
 |[],[],l,_,_,e=>by cases e;exact⟨l,rfl,rfl⟩
 |j::js,v::vs,l,_,h,e=>by rw[List.all_cons,bAq,gb]at h;have e:O.bindL js vs ((l++r).set j<|eh v)=_:=e;rw[cK _ _ h.1]at e;obtain⟨l',h1,h2⟩:=Kz (l:=l.set j<|eh v) (by rw[ϐ];exact h.2) e;exact⟨l',h1,by rw[h2,ϐ]⟩
 |[],_::_,_,_,_,h=>by cases h
 |_::_,[],_,_,_,h=>by cases h
variable {l:O.Env} {r:O.Env}
def CD{p:O.Pt}{G:O.Hs}{v:O.Val}{ő:O.Env}(h:Oa l.length p=ej)(e:O.bind p G v (l++r)=eh ő):∃l',ő=l'++r/\l'.length=l.length:=by
 cases p with
 |one j =>have e:eh ((l++r).set j<|eh v)=eh ő:=e;cases e;exact⟨l.set j<|eh v,by rw[cK _ _<|of_decide_eq_true h],ϐ⟩
 |many js =>
  cases v with
  |tup vs=>exact Kz h e
  |_=>cases e
 |nest j js=>cases h
def REn.pre{K:Frag}{τ:St}(q:REn K H (l++r) τ):REn K H (Õ l.length ei++r) τ:=by
 refine⟨by rw[<-q.len];simp,λn u e=>?_⟩;by_cases hn:n<l.length
 .rw[Ċ (by rw[ð];exact hn),Ň,f6 hn]at e;cases e
 .rw[ď (by rw[ð];lia),ð]at e;exact q.get n u (by rw[ď<|by lia];exact e)
def Um{k:Nat}{pt:O.Pt}(hk:Oa k pt=ej){mi:O.It}{mt:O.Tt}{me:O.E}:∀σ H Q,tE X i Φ (.comp ô k pt mi mt me) σ H Q->BB (tIt X i Φ mi) k ô (gPt i pt) (tT0 i Φ mt) (tE0 i Φ me) σ H Q:=λσ H Q ⟨env,G,Qm,Em,p,w,c⟩=>by
 refine⟨env,G,_,Em,p,w,λst xs G1 H1 J k1 g1 it w1=>?_⟩;obtain⟨hl,w1⟩:=w1;generalize hstep:(λ(v:O.Val) (h2:O.Hs) (K:Option O.Val->O.Hs->Prop) (X2:O.XQ)=>O.go (O.bind pt h2 v<|Õ k ei++ô.map λj=>(env[j]?).getD ei) λő =>
       O.wT Φ mt ő h2 (λk h3=>if k=ej then O.wE Φ me ő h3 (λu h4=>K (eh u) h4) X2 else K ei h3) X2)=step at w1
 refine⟨λn m ys τ H'=>n+m=xs.length/\ys.length<=n/\REn i.K H' (Õ k ei++ô.map λj=>(env[j]?).getD ei) τ/\∃Ĭ G',fc H1 H'/\RH i G' H'/\RVs i.K H' Ĭ ys/\O.wComp st step (xs.drop n) Ĭ G' (λys h5=>O.new h5 (.lst ys) Qm) (λ_ _=>False),⟨xs.length,by lia,by simp,Eg p.en k1,[],G1,fc.refl _,g1,.nil,by simpa using w1⟩,?_⟩;rintro n m ys τ H' ⟨hnm,hly,en2,Ĭ,G',k2,g2,r2,w2⟩;refine⟨ã (Ø (Ý hly<|by lia) hl) ZL,?_⟩;by_cases hn:n<xs.length
 .right;have hd:xs.drop n=xs[n]::xs.drop (n+1):=Γ hn;rw[hd]at w2;obtain⟨s2,w2⟩:=w2;have hv:xs[n]?=eh xs[n]:=Ê hn;obtain⟨a1,a2⟩:=it.go n G' H' xs[n] k2 g2 s2 hv;refine⟨a1,λys3 τ3 H3=>ys3.length<=n+1/\REn i.K H3 (Õ k ei++ô.map λj=>(env[j]?).getD ei) τ3/\∃acc3 G3,fc H1 H3/\RH i G3 H3/\RVs i.K H3 acc3 ys3/\O.wComp st step (xs.drop<|n+1) acc3 G3 (λys h5=>O.new h5 (.lst ys) Qm) (λ_ _=>False),λys3 τ3 H3 h=>⟨m - 1,by lia,by lia,h.1,h.2⟩,λx H3 hy=>?_⟩;obtain⟨k3,g3,r3⟩:=a2 x H3 hy;rw[<-hstep]at w2;obtain⟨cI,e4,w4⟩:=eK w2;rw[hstep]at w4;obtain⟨l',e5,h5⟩:=CD (l:=Õ k ei) (by rw[ð];exact hk) e4;rw[ð]at h5;refine⟨xs[n],_,G',cI,r3,g3,en2.keep k3,e4,λτ4 en4=>?_⟩;have aE:REn i.K H3 (Õ k ei++ô.map λj=>(env[j]?).getD ei) τ4:=by
   rw[e5]at en4;have:=en4.pre;rw[h5]at this;exact this
  refine⟨_,G',_,en4,g3,w4,λd G5 H5 k5 g5 q5=>?_⟩;have kk:=(k2.trans k3).trans k5;cases d with
  |true =>refine⟨_,G5,_,en4.keep k5,g5,by simpa using q5,λu G6 H6 y k6 g6 r6 q6=>?_⟩;exact⟨by simpa using hly,(aE.keep k5).keep k6,_,G6,kk.trans k6,g6,((((r2.keep k3).keep k5).keep k6).append<|.cons r6 .nil),q6⟩
  |false =>rw[f7 ü]at q5;change if ez=ej then _ else _;rw[f7 ü];have q5:O.wComp st step (xs.drop<|n+1) (Ĭ++[]) G5 (λys h5=>O.new h5 (.lst ys) Qm) λ_ _=>False:=q5;rw[Ā]at q5;exact⟨by lia,aE.keep k5,Ĭ,G5,kk,g5,(r2.keep k3).keep k5,q5⟩
 .left;have hd:xs.drop n=[]:=Ŏ (by lia);rw[hd]at w2;refine⟨it.stop n G' H' k2 g2 w2.1 (by lia),?_⟩;exact Yh g2 w2.2 ((c.go k1).go k2) λq hq=>⟨_,eC,r2.keep<|fc.new hq⟩
abbrev U0(i:Inf)(m:O.Bm)(r:V->List V->Hp->VK->Prop):Prop:=∀(v:O.Val) (vs:List O.Val) (G:O.Hs) (H:Hp) (x:V) (xs:List V) (t:O.Val×O.Hs) (Q:VK) (Qm:O.Q1),
 RH i G H->RV i.K H v x->RVs i.K H vs xs->O.bmV G m v vs=eh t->Qm t.1 t.2->Cn i H Q Qm->r x xs H Q
abbrev HV(i:Inf)(m:O.Bm)(T:String):Prop:=∀(v:O.Val) (G:O.Hs) (H:Hp) (x:V),RH i G H->RV i.K H v x->O.bmTy G m v=ej->tyV i.K T x H
variable {m:O.Bm}
def Dy{o e:Expr}{es:List Expr}{name:Str}{ŉ ř:Pos}{T id:String}{r:V->List V->Hp->VK->Prop}{mo:O.E}{ms:O.Es}{n:Nat}(hK:X.K=i.K)(pa:PlainAttrs T)(slot:Slot T name id)(hty:typeOf (.builtin id)=pure (.type "method_descriptor"))(mt:MtR X id r)(hT:HV i m T)(hr:U0 i m r)
  (ho:PE X o<|tE X i Φ mo) (ha:PA X (e::es)<|tAr X i Φ ms n) (ay:Ġ o name X.env (eval o X.env)=eval o X.env)
  (az:((ĝ ř<|Ô (e::es) X.env).all (λx=>!x.1)&&(ŷ ř<|ņ [] X.env).all (λx=>x.1.isSome)&&gf ((e::es).length+([]:List aK).length+(if([]:List aK).isEmpty then 0 else 1)<30))=ej)
  (aA:(ŉ.endLine==ř.line)=ej) (hs:Ô (e::es) X.env=(ez,eval e X.env)::Ô es X.env) (cD:(ĝ ř<|Ô es X.env).any (·.1)=ez) :
  PE X (.Call (.Attribute o name ŉ) (e::es) [] ř) (tE X i Φ<|.bm m mo ms) :=
 (Qs pa slot hty mt ho ha ay az aA hs cD).imp λσ H Q ⟨env,G,Qm,Em,p,w,c⟩=>by
  refine one p w λv G1 H1 x k1 p1 rv q=>⟨by rw[hK];exact hT v G1 H1 x p1.hp rv q.1,env,G1,_,Em,p1,q.2,λvs G2 H2 xs k2 g2 r2 _ w2=>?_⟩
  obtain⟨t,e,w3⟩:=eK w2;exact hr v vs G2 H2 x xs t Q Qm g2 (rv.keep k2) r2 e w3<|(c.go k1).go k2
def N8{o:Option O.Ob}(h:O.isDct o=ej):(∃xs,o=eh (.dct xs))\/∃xs,o=eh (.dtp xs):=by
 cases o with
 |none=>cases h
 |some o=>cases o with
  |dct xs=>exact .inl ⟨xs,rfl⟩
  |dtp xs=>exact .inr ⟨xs,rfl⟩
  |_=>cases h
def P5(hm:m.ty=.l):HV i m "list":=λv G H x g r h=>by
 unfold O.bmTy at h;rw[hm]at h;cases v with
 |ref a =>cases r.ref_inv;obtain⟨xs,e⟩:=NR (show O.isLst (G a)=ej from h);obtain⟨vs,h1,_⟩:=g a _ e;exact .inl ⟨rfl,vs,fQ.of h1⟩
 |_=>cases h
def Hl(hm:m.ty=.d):HV i m "dict":=λv G H x g r h=>by
 unfold O.bmTy at h;rw[hm]at h;cases v with
 |ref a =>
  cases r.ref_inv;rcases N8 (show O.isDct (G a)=ej from h)with⟨xs,e⟩|⟨xs,e⟩
  .obtain⟨vs,h1,_⟩:=g a _ e;exact .inr<|.inr<|.inl ⟨rfl,.inl ⟨vs,h1⟩⟩
  .obtain⟨vs,h1,_⟩:=g a _ e;exact .inr<|.inr<|.inl ⟨rfl,.inr ⟨vs,h1⟩⟩
 |_=>cases h
variable {G:O.Hs}
def O9{v:O.Val}{f:O.Ad->List O.Val->Option (O.Val×O.Hs)}{t:O.Val×O.Hs}(e:O.bmL G v f=eh t):∃a xs,v=.ref a/\G a=eh (.lst xs)/\f a xs=eh t:=by
 cases v with
 |ref a=>obtain⟨xs,h1,h2⟩:=Cg e;exact⟨a,xs,rfl,h1,h2⟩
 |_=>cases e
variable {vs:List O.Val} {α:Type} {a:α}
def Lf{f:O.Val->Option α}(e:(match vs with|[v]=>f v|_=>ei)=eh a):∃v,vs=[v]/\f v=eh a:=by
 cases vs with
 |nil=>cases e
 |cons v vs=>cases vs with
  |nil=>exact⟨v,rfl,e⟩
  |cons _ _=>cases e
def Hh:U0 i .append O6:=λv vs G H x xs t Q Qm g rx rs e q c=>by obtain⟨a,ys,rfl,e4,e3⟩:=O9 e;obtain⟨u,rfl,e3⟩:=Lf e3;obtain⟨hl,e3⟩:=Zo e3;cases e3;cases rx.ref_inv;obtain⟨y,rfl,ry⟩:=rs.inv1;obtain⟨us,h2,r2⟩:=g a _ e4;obtain⟨k3,g3⟩:=KP (xs:=ys) g h2 (ys++[u]) (us++[y])<|r2.app1 ry;exact⟨a,us,y,rfl,rfl,h2,by rw[<-r2.length];exact ã hl ZL,c _ _ _ _ k3 g3 .non q⟩
def DT:U0 i .popAt CW:=λv vs G H x xs t Q Qm g rx rs e q c=>by
 obtain⟨a,ys,rfl,e4,e3⟩:=O9 e;unfold O.bmPopAt at e3;split at e3
 .rename_i n;obtain⟨hn,e3⟩:=Zo e3;obtain⟨k,z,e3⟩:=é.mp e3;obtain⟨yv,z2,rfl⟩:=Î.mp e3;cases rx.ref_inv;obtain⟨y,rfl,ry⟩:=rs.inv1;cases ry.int_inv;obtain⟨us,h2,r2⟩:=g a _ e4;obtain⟨xv,hx,rv⟩:=r2.get z2;rw[K1,r2.length]at z;obtain⟨s1,s2,s3,s4⟩:=KM z;obtain⟨k3,g3⟩:=KP (xs:=ys) g h2 (ys.eraseIdx k) (us.eraseIdx k)<|r2.eraseIdx k;exact⟨a,us,n,k,xv,rfl,rfl,h2,by lia,by lia,s1,hx,c _ _ _ _ k3 g3 (rv.keep k3) q⟩
 .cases e3
def KR{v:O.Val}{f:O.Ad->List (O.Val×O.Val)->Option (O.Val×O.Hs)}{t:O.Val×O.Hs}(e:O.bmD G v f=eh t):∃a kvs,v=.ref a/\G a=eh (.dct kvs)/\f a kvs=eh t:=by
 cases v with
 |ref a =>
  obtain⟨kvs,h1,h2⟩:=é.mp (show(O.fU<|G a).bind (f a)=eh t from e);refine⟨a,kvs,rfl,?_,h2⟩;cases z:G a with
  |none=>rw[z]at h1;cases h1
  |some o =>
   rw[z]at h1;cases o with
   |dct ys=>cases h1;rfl
   |_=>cases h1
 |_=>cases e
def Ri{f:O.Val->O.Val->Option α}(e:(match vs with|[v,u]=>f v u|_=>ei)=eh a):∃v u,vs=[v,u]/\f v u=eh a:=by
 cases vs with
 |nil=>cases e
 |cons v vs=>cases vs with
  |nil=>cases e
  |cons u us=>cases us with
   |nil=>exact⟨v,u,rfl,e⟩
   |cons _ _=>cases e
abbrev AZ:V->List V->Hp->VK->Prop:=λx vs H Q=>∃a y o,x=.ref a/\vs=[y]/\DGet H a y o/\Q (o.getD .non) H
def Dk(hu:X.A.units+1<Ĥ):MtR X "dict.get" AZ:=by intro Á s σ H x vs v us Q I rx rv h;obtain⟨a,y,o,rfl,rfl,d,q⟩:=h;cases rx;obtain⟨u,rfl,ru⟩:=rv.one;exact La hu I d ru λw' s' I' aT=>⟨_,_,I',aT,q⟩
abbrev AU:V->List V->Hp->VK->Prop:=λx vs H Q=>∃a kvs k v more,x=.ref a/\vs=kV k::more/\(more=[]\/∃z,more=[z])/\H a=eh (.dK kvs)/\Yl kvs k=eh v/\Q v (upd H a<|.dK<|fh kvs k)
def mt_dpop:MtR X "dict.pop" AU:=by
 intro Á s σ H x vs v us Q I rx rv h;obtain⟨a,kvs,k,y,more,rfl,rfl,hm,hH,l,q⟩:=h;cases rx;rcases hm with rfl|⟨z,rfl⟩
 .obtain⟨u,rfl,ru⟩:=rv.one;exact Ge I hH ru l (.inl rfl) λw' s' I' aT=>⟨_,_,I',aT,q⟩
 .obtain⟨u,t,rfl,ru,rt⟩:=rv.two;exact Ge I hH ru l (.inr ⟨_,rfl⟩) λw' s' I' aT=>⟨_,_,I',aT,q⟩
abbrev DH:V->List V->Hp->VK->Prop:=λx vs H Q=>∃a kvs k z,x=.ref a/\vs=[kV k,z]/\H a=eh (.dK kvs)/\Yl kvs k=ei/\Q z H
def Bp:MtR X "dict.pop" DH:=by intro Á s σ H x vs v us Q I rx rv h;obtain⟨a,kvs,k,z,rfl,rfl,hH,l,q⟩:=h;cases rx;obtain⟨u,t,rfl,ru,rt⟩:=rv.two;exact Lu I hH ru l λs' I'=>⟨_,_,I',rt,q⟩
def G7:U0 i .dget AZ:=λv vs G H x xs t Q Qm g rx rs e q c=>by
 obtain⟨a,kvs,rfl,e4,e3⟩:=KR e;obtain⟨k,rfl,e3⟩:=Lf e3;obtain⟨hk,e3⟩:=Zo e3;cases e3;cases rx.ref_inv;obtain⟨y,rfl,ry⟩:=rs.inv1;obtain⟨ps,h2,r2⟩:=g a _ e4;obtain⟨d,kr,rfl⟩:=eW hk ry;refine⟨a,_,_,rfl,rfl,DGet.k (k:=d) h2,?_⟩;obtain⟨l1,l2⟩:=r2.look kr;cases z:O.fe kvs k with
 |none=>rw[l2 z];rw[z]at q;exact c _ _ _ _ (fc.refl H) g .non q
 |some u=>obtain⟨x,hx,rv⟩:=l1 u z;rw[hx];rw[z]at q;exact c _ _ _ _ (fc.refl H) g rv q
def Ic:U0 i .dpop AU:=λv vs G H x xs t Q Qm g rx rs e q c=>by obtain⟨a,kvs,rfl,e4,e3⟩:=KR e;obtain⟨k,rfl,e3⟩:=Lf e3;obtain⟨hk,e3⟩:=Zo e3;obtain⟨u,z,rfl⟩:=Î.mp e3;cases rx.ref_inv;obtain⟨y,rfl,ry⟩:=rs.inv1;obtain⟨ps,h2,r2⟩:=g a _ e4;obtain⟨d,kr,rfl⟩:=eW hk ry;obtain⟨x,hx,rv⟩:=(r2.look kr).1 u z;obtain⟨k3,g3⟩:=Mm (kvs:=kvs) g h2<|r2.drop kr;exact⟨a,ps,d,x,[],rfl,rfl,.inl rfl,h2,hx,c _ _ _ _ k3 g3 (rv.keep k3) q⟩
def OC{kvs:List (O.Val×O.Val)}{k:O.Val}(h:O.fe kvs k=ei):O.fh kvs k=kvs:=by
 unfold O.fh;rw[List.filter_eq_self];intro p hp;have h2:kvs.find? (λp=>p.1==k)=ei:=by unfold O.fe at h;exact Option.map_eq_none_iff.mp h
 simpa using List.find?_eq_none.mp h2 p hp
def Fz:U0 i .dpopD λx vs H Q=>AU x vs H Q\/DH x vs H Q:=λv vs G H x xs t Q Qm g rx rs e q c=>by
 obtain⟨a,kvs,rfl,e4,e3⟩:=KR e;obtain⟨k,dv,rfl,e3⟩:=Ri e3;obtain⟨hk,e3⟩:=Zo e3;cases e3;cases rx.ref_inv;obtain⟨y,z,rfl,ry,rz⟩:=rs.inv2;obtain⟨ps,h2,r2⟩:=g a _ e4;obtain⟨d,kr,rfl⟩:=eW hk ry;obtain⟨l1,l2⟩:=r2.look kr;cases z:O.fe kvs k with
 |none =>
  refine .inr ⟨a,ps,d,_,rfl,rfl,h2,l2 z,?_⟩;rw[z,OC z]at q;have e:O.upd G a (.dct kvs)=G:=by
   funext b;by_cases hb:b=a
   .subst hb;rw[O.eC,e4]
   .rw[O.eB hb]
  rw[e]at q;exact c _ _ _ _ (fc.refl H) g rz q
 |some u =>obtain⟨x,hx,rv⟩:=l1 u z;obtain⟨k3,g3⟩:=Mm (kvs:=kvs) g h2<|r2.drop kr;rw[z]at q;exact .inl ⟨a,ps,d,x,_,rfl,rfl,.inr ⟨_,rfl⟩,h2,hx,c _ _ _ _ k3 g3 (rv.keep k3) q⟩
def RFs.look{K:Frag}{H:Hp}{f:String}:∀{fs:List (String×O.Val)}{ps:List (Str×V)},RFs K H fs ps->
  (∀v,fs.lookup f=eh v->∃x,ps.lookup (gg f)=eh x/\RV K H v x)/\(fs.lookup f=ei->ps.lookup (gg f)=ei)
 |_,_,.nil=>⟨λv e=>(by cases e),λ_=>rfl⟩
 |_,_,.cons (f:=g) (v:=u) (x:=y) r t=>by
  have ih:=RFs.look (f:=f) t;rw[ï,ï];by_cases e:f=g
  .subst e;rw[beq_self_eq_true,beq_self_eq_true];exact⟨λv z=>(by cases z;exact⟨y,rfl,r⟩),λz=>(by cases z)⟩
  .rw[show(f==g)=ez by simpa using e,show(gg f==gg g)=ez by rw[beq_eq_false_iff_ne];exact λz=>e<|ofS_inj.mp z];exact ih
def RFs.put{K:Frag}{H:Hp}{f:String}{v:O.Val}{x:V}(q:RV K H v x):∀{fs:List (String×O.Val)}{ps:List (Str×V)},RFs K H fs ps->RFs K H (O.eX fs f v) (L2.eX (gg f) x ps)
 |_,_,.nil=>.cons q .nil
 |_,_,.cons (f:=g) (v:=u) (x:=y) r t=>by
  unfold O.eX L2.eX;by_cases e:g=f
  .subst e;rw[f6 rfl,f6 rfl];exact .cons q t
  .rw[f7 e,f7 λz=>e<|ofS_inj.mp z];exact .cons r<|RFs.put q t
def RFs.length{K:Frag}{H:Hp}:∀{fs:List (String×O.Val)}{ps:List (Str×V)},RFs K H fs ps->fs.length=ps.length
 |_,_,.nil=>rfl
 |_,_,.cons _ t=>by rw[Ë,Ë,RFs.length t]
structure FldOk(i:Inf)(f:String):Prop where
 no:∀C c,i.cl C c->NoAttr i.K c (gg f)
structure IC(K:Frag)(C:È):Prop where
 ha:PySem.W.findIn K (.ref C) "__class__" = eh (eh<|.builtin "object.__class__")
 hn:PySem.W.specialIn K (.builtin "object.__class__") "__get__" = eh (eh<|.builtin "getset_descriptor.__get__")
 htk:PySem.W.takesIn K (.builtin "object.__class__")=eh ej
 hm:PySem.W.mroIn K C (.type "object")=eh ej
structure ClsA(i:Inf):Prop where
 cls:∀C c,i.ins C=ej->i.cl C c->Cls i.K c
 ic:∀C c,i.cl C c->IC i.K c
 un:∀C a b,i.cl C a->i.cl C b->a=b
def Jy{o:Option O.Ob}{p:String×List (String×O.Val)}(h:O.insOf o=eh p):o=eh (.ins p.1 p.2):=by
 cases o with
 |none=>cases h
 |some o=>cases o with
  |ins C fs=>cases h;rfl
  |_=>cases h
variable {G:O.Hs} {f:String}
def Kb{v u:O.Val}(h:O.fz G v f=eh u):∃a C fs,v=.ref a/\G a=eh (.ins C fs)/\fs.lookup f=eh u:=by obtain⟨a,h1,h⟩:=é.mp h;obtain⟨p,h2,h3⟩:=é.mp h;exact⟨a,p.1,p.2,Ja h1,Jy h2,h3⟩
variable {o:Expr} {mo:O.E} {ç:Pos}
def Qr(hK:X.K=i.K)(A:ClsA i)(F:FldOk i f)(ho:PE X o<|tE X i Φ mo)(hb:Ġ o (gg f) X.env (eval o X.env)=eval o X.env) :
  PE X (.Attribute o (gg f) ç) (tE X i Φ<|.fld mo f) :=
 (Hm ho hb).imp λσ H Q ⟨env,G,Qm,Em,p,w,c⟩=>by
  exact one p w λv G1 H1 x k1 p1 r q=>by obtain⟨u,e,q2⟩:=eK q;clear q;obtain⟨a,C,fs,rfl,e2,e3⟩:=Kb e;cases r.ref_inv;obtain⟨c',dx,ps,hi,hc,h1,rf⟩:=p1.hp a _ e2;obtain⟨y,l,ry⟩:=rf.look.1 u e3;exact⟨a,c',dx,ps,y,rfl,h1,by rw[hK];exact A.cls _ _ hi hc,by rw[hK];exact F.no _ _ hc,l,c _ _ _ _ k1 p1.hp ry q2⟩
variable {C:String}
def UC{H:Hp}{a:È}{c' dx:È}{fs:List (String×O.Val)}{ps ps2:List (Str×V)}(g:RH i G H)(hi:i.ins C=ej)(hc:i.cl C c')(h:H a=eh (.ins c' dx ps2))(r:RFs i.K H fs ps) :
  fc H (upd H a<|.ins c' dx ps)/\RH i (O.upd G a<|.ins C fs) (upd H a<|.ins c' dx ps):=by
 have k:fc H<|upd H a<|.ins c' dx ps:=fc.put (λxs e=>by rw[h]at e;cases e) λp u e=>by rw[h]at e;cases e
 exact⟨k,g.put k ⟨c',dx,ps,hi,hc,eC,r.keep k⟩⟩
def JH{G':O.Hs}{o v:O.Val}(h:O.fA G o f v=eh G'):∃a C fs,o=.ref a/\G a=eh (.ins C fs)/\fs.length<900/\G'=O.upd G a (.ins C<|O.eX fs f v):=by
 cases o with
 |ref a =>
  unfold O.fA at h;dsimp only at h;split at h
  .rename_i C fs e;obtain⟨hl,h⟩:=Zo h;cases h;exact⟨a,C,fs,rfl,e,hl,rfl⟩
  .cases h
 |_=>cases h
variable {e:Expr}
def Ar{m:O.E}{bg:Pos}(hK:X.K=i.K)(A:ClsA i)(F:FldOk i f)(ho:PE X o<|tE X i Φ mo)(he:PE X e<|tE X i Φ m)(hs:Ų e (eh<|.Attribute o (gg f) bg) ç.line X.env=pure ez) :
  PS X (.Assign [.Attribute o (gg f) bg] e ç) (tSt X i Φ<|.setFld mo f m) :=
 (Hf ho he hs).imp λD σ H ⟨env,G,N,R,B,C,Xe,p,w,c⟩=>by refine one p.pre w λv G1 H1 x k1 p1 r q=>?_;refine one p1 q λu G2 H2 y k2 p2 ry q=>?_;obtain⟨G3,e3,q2⟩:=eK q;clear q;obtain⟨a,D',fs,rfl,e2,hl,rfl⟩:=JH e3;cases ry.ref_inv;obtain⟨c',dx,ps,hi,hc,h1,rf⟩:=p2.hp a _ e2;obtain⟨k3,g3⟩:=UC p2.hp hi hc h1<|rf.put (f:=f)<|r.keep k2;refine⟨a,c',dx,ps,rfl,h1,by rw[hK];exact A.cls _ _ hi hc,by rw[hK];exact F.no _ _ hc,by rw[<-rf.length];lia,?_⟩;have k:=(k1.trans k2).trans k3;exact c.nx _ _ _ _ k g3 (p.en.keep k) q2
def NC{op:O.Bop}{x y z:O.Val}(h:O.augV op x y=eh z):∃a b,x=.int a/\y=.int b/\((op=.add/\z=.int (a+b))\/(op=.sub/\z=.int (a - b))):=by
 unfold O.augV at h;split at h
 .cases h;exact⟨_,_,rfl,rfl,.inl ⟨rfl,rfl⟩⟩
 .cases h;exact⟨_,_,rfl,rfl,.inr ⟨rfl,rfl⟩⟩
 .cases h
abbrev rAS(op:O.Bop):V->V->Hp->VK->Prop:=λx y H Q=>∃a b,x=.int a/\y=.int b/\((op=.add/\Q (.int<|a+b) H)\/(op=.sub/\Q (.int<|a - b) H))
def Ak{op:ϓ}{bop:O.Bop}{n:Int}{k:Nat}{cB ř:Pos}(hK:X.K=i.K)(A:ClsA i)(F:FldOk i f)(hop:C5 X op<|rAS bop)(ho:PE X o<|tE X i Φ mo) :
  PS X (.AugAssign (.Attribute o (gg f) cB) op (.Constant (.int n) k ř) ç) (tSt X i Φ<|.augFld mo f bop n) :=
 (Ac ho NV hop).imp λD σ H ⟨env,G,N,R,B,C,Xe,p,w,c⟩=>by
  refine one p.pre w λv G1 H1 x k1 p1 r q=>?_;obtain⟨u,e1,q2⟩:=eK q;clear q;obtain⟨a,C',fs,rfl,e2,e3⟩:=Kb e1;cases r.ref_inv;obtain⟨c',dx,ps,hi,hc,h1,rf⟩:=p1.hp a _ e2;obtain⟨y,l,ry⟩:=rf.look.1 u e3;refine⟨a,c',dx,ps,y,rfl,h1,by rw[hK];exact A.cls _ _ hi hc,by rw[hK];exact F.no _ _ hc,l,?_⟩;obtain⟨z,e4,q3⟩:=eK q2;clear q2;obtain⟨G3,e5,q4⟩:=eK q3;clear q3;obtain⟨n1,n2,rfl,e0,hz⟩:=NC e4;cases e0;cases ry.int_inv;obtain⟨a2,C2,fs2,e6,e7,hl,rfl⟩:=JH e5;cases e6;rw[e2]at e7;cases e7;have fin:∀n:Int,z=.int n->∃dx' dG,H1 a=eh (.ins c' dx' dG)/\dG.length<1000/\D.nx σ (upd H1 a<|.ins c' dx'<|L2.eX (gg f) (.int n) dG):=λn hn=>by subst hn;obtain⟨k3,g3⟩:=UC p1.hp hi hc h1<|rf.put (f:=f) (x:=.int n)<|.int n;refine⟨dx,ps,h1,by rw[<-rf.length];lia,?_⟩;exact c.nx _ _ _ _ (k1.trans k3) g3 (p.en.keep<|k1.trans k3) q4
  rcases hz with⟨e,hz⟩|⟨e,hz⟩
  .exact⟨n1,n,rfl,rfl,.inl ⟨e,fin _ hz⟩⟩
  .exact⟨n1,n,rfl,rfl,.inr ⟨e,fin _ hz⟩⟩
abbrev Dfm(pr:à)(w:ó)(mg:Str->Option Â)(base:Ă)(i:Inf)(P:O.Pg)(n:Nat)(f:String)(fa:È):Prop :=
 ∃fd ps,fk pr w i.K mg base (CX1 pr w) (2*n) fa fd ps (spF i P n f)/\Binds i.K fd ps []
variable {P:O.Pg} {n:Nat} {es:List Expr} {ms:O.Es} {p:Pos}
def Hk{k:Nat}{Cn:String}{C f:È}(hK:X.K=i.K)(hi:i.ins Cn=ej)(hc:i.cl Cn C)(M:Mk i.K C f)(D:Dfm X.prog X.w X.mg X.base i P n (Cn ++ ".__init__") f)(hr:fj (2*n+1) X.A)
  (hg:Gl X<|gg Cn) (hm:X.mg (gg Cn)=eh (.ref C)) (cC:(gg Cn==("__debug__" : Str))=ez)
  (ha:PA X (e::es)<|tAr X i (O.wF P n) ms k) (he:Ô (e::es) X.env=(ez,eval e X.env)::Ô es X.env) (hpl:(ĝ ç<|Ô es X.env).any (·.1)=ez) :
  PE X (.Call (.Name (gg Cn) p) (e::es) [] ç) (tE X i (O.wF P n)<|.make Cn ms):=by
 obtain⟨fd,ps,F,hb⟩:=D;rw[<-hK]at F hb M;intro Á s σ H Q I h;obtain⟨env,G,Qm,Em,pr,w,c⟩:=h;refine D7 (E:=XK1 i H Em) M F hr hg hm hb .nil (XW.passes pr.xo) ha cC he hpl Á s σ H Q I ⟨env,G,_,Em,pr,w,λvs G1 H1 xs k1 g1 r1 hl w1 x dx hx hd Ŵ=>?_⟩;have ka:fc H1<|upd H1 dx<|.own x:=fc.new hd;have hx2:upd H1 dx (.own x) x=ei:=by rw[eB λz=>Ŵ z.symm];exact hx
 have kb:fc (upd H1 dx<|.own x)<|upd (upd H1 dx<|.own x) x<|.ins C dx []:=fc.new hx2;have g2:RH i G1<|upd H1 dx<|.own x:=WN g1 hd;have g3:RH i (O.upd G1 x<|.ins Cn [])<|upd (upd H1 dx<|.own x) x<|.ins C dx []:=g2.put kb ⟨C,dx,[],hi,hc,eC,.nil⟩;have k:=ka.trans kb;refine⟨.ref x::vs,_,_,Em,.cons (.ref x) (by rw[Ā];exact r1.keep k),g3,w1 x<|g1.free hx,?_,λcls d H' h=>(h.go k).go k1⟩;intro v G' H' y k' g' rv ⟨hv,hq⟩;subst hv;exact⟨rv.non_inv,c _ G' H' _ ((k1.trans k).trans k') g' (.ref x) hq⟩
variable {m:String}
def Ke{v:O.Val}(h:O.clsV G v m=eh C):∃a fs,v=.ref a/\G a=eh (.ins C fs)/\fs.lookup m=ei:=by
 obtain⟨a,h1,h⟩:=é.mp h;obtain⟨p,h2,h3⟩:=é.mp h;have e:=Jy h2;by_cases z:(p.2.lookup m).isNone=ej
 .rw[f6 z]at h3;cases h3;exact⟨a,p.2,Ja h1,e,aL.mp z⟩
 .rw[f7 z]at h3;cases h3
variable {ŉ:Pos} {pl:Sem Bool}
def IQ{k:Nat}{Cn:String}{C f:È}(hK:X.K=i.K)(hfn:∀c,i.cl Cn c->c=C)(A:Cls i.K C)(M:Meth i.K C (gg m) f)(D:Dfm X.prog X.w X.mg X.base i P n (Cn ++ "." ++ m) f)(hr:fj (2*n) X.A)
  (ho:PE X o<|tE X i (O.wF P n) mo) (ha:PA X (e::es)<|tAr X i (O.wF P n) ms k) (he:Ô (e::es) X.env=(ez,eval e X.env)::Ô es X.env) (hpl:(ĝ ç<|Ô es X.env).any (·.1)=ez)
  (ht:eval (.Call (.Attribute o (gg m) ŉ) (e::es) [] ç) X.env=(do
    let ov<-eval o X.env
    Χ ŉ.atName
    let (f,first)<-Ŋ [ov] (ϔ ov (gg m) pl)
    b9 ç f first (ĝ ç<|Ô (e::es) X.env) (ŷ ç<|ņ [] X.env))) :
  PE X (.Call (.Attribute o (gg m) ŉ) (e::es) [] ç) (tE X i (O.wF P n)<|.meth Cn m mo ms):=by
 obtain⟨fd,ps,F,hb⟩:=D;rw[<-hK]at F hb M A;intro Á s σ H Q I h;obtain⟨env,G,Qm,Em,pr,w,c⟩:=h;refine Ft (E:=XK1 i H Em) ho A M F hr hb .nil (XW.passes pr.xo) ha he hpl ht Á s σ H Q I<|one pr w λv G1 H1 x k1 p1 rv q=>?_;obtain⟨hq,w1⟩:=q;obtain⟨a,fs,rfl,e2,e3⟩:=Ke hq;cases rv.ref_inv;obtain⟨c',dx,cH,hi,hc,h1,rf⟩:=p1.hp a _ e2;cases hfn c' hc;refine⟨a,dx,cH,rfl,h1,rf.look.2 e3,env,G1,_,Em,p1,w1,λvs G2 H2 xs k2 g2 r2 hl w2=>?_⟩;exact⟨.ref a::vs,G2,Qm,Em,.cons (.ref a) (by rw[Ā];exact r2),g2,w2,(c.go k1).go k2,λcls d H' h=>(h.go k2).go k1⟩
def Fj{Cn:String}{C f:È}(hK:X.K=i.K)(hfn:∀c,i.cl Cn c->c=C)(A:Cls i.K C)(M:Meth i.K C (gg m) f)(D:Dfm X.prog X.w X.mg X.base i P n (Cn ++ "." ++ m) f)(hr:fj (2*n) X.A)
  (ho:PE X o<|tE X i (O.wF P n) mo)
  (ht:eval (.Call (.Attribute o (gg m) ŉ) [] [] ç) X.env=(do
    let ov<-eval o X.env
    Χ ŉ.atName
    let (f,first)<-Ŋ [ov] (ϔ ov (gg m) pl)
    b9 ç f first (ĝ ç<|Ô [] X.env) (ŷ ç<|ņ [] X.env))) :
  PE X (.Call (.Attribute o (gg m) ŉ) [] [] ç) (tE X i (O.wF P n)<|.meth Cn m mo .nil):=by
 obtain⟨fd,ps,F,hb⟩:=D;rw[<-hK]at F hb M A;intro Á s σ H Q I h;obtain⟨env,G,Qm,Em,pr,w,c⟩:=h;refine CU (E:=XK1 i H Em) ho A M F hr hb .nil (XW.passes pr.xo) ht Á s σ H Q I<|one pr w λv G1 H1 x k1 p1 rv q=>?_;obtain⟨hq,w1⟩:=q;obtain⟨a,fs,rfl,e2,e3⟩:=Ke hq;cases rv.ref_inv;obtain⟨c',dx,cH,hi,hc,h1,rf⟩:=p1.hp a _ e2;cases hfn c' hc;refine⟨a,dx,cH,rfl,h1,rf.look.2 e3,?_⟩;exact⟨[.ref a],G1,Qm,Em,.cons (.ref a) .nil,p1.hp,w1,c.go k1,λcls d H' h=>h.go k1⟩
def DY(hK:X.K=i.K)(D:Dfo X.prog X.w X.mg X.base i P n f)(hr:fj (2*n) X.A)(hg:Gl X<|gg f)(cC:(gg f==("__debug__" : Str))=ez) :
  PE X (.Call (.Name (gg f) p) [] [] ç) (tE X i (O.wF P n)<|.call f .nil):=by
 obtain⟨fa,fd,ps,F,hm,hk,hb⟩:=D;rw[<-hK]at F hk hb;intro Á s σ H Q I h;obtain⟨env,G,Qm,Em,pr,w,c⟩:=h;refine AN (E:=XK1 i H Em) F hr hg hm hk hb .nil (XW.passes pr.xo) cC Á s σ H Q I ?_;exact⟨[],G,Qm,Em,.nil,pr.hp,w,c,λcls d H' h=>h⟩
abbrev ON(X:Cx)(i:Inf)(Φ:O.Fs):O.Es->List (TE×TE)
 |.cons k (.cons v r)=>(tE X i Φ k,tE X i Φ v)::ON X i Φ r
 |_=>[]
abbrev W4:O.Es->Bool
 |.nil=>ej
 |.cons _ .nil=>ez
 |.cons _ (.cons _ r)=>W4 r
abbrev esL:O.Es->Nat
 |.nil=>0
 |.cons _ es=>esL es+1
abbrev Up:List V->List (V×V)
 |x::y::r=>(x,y)::Up r
 |_=>[]
def M1:∀(es:O.Es),W4 es=ej->∀{σ:St}{H:Hp}{env:O.Env}{G:O.Hs}{Qm:List O.Val->O.Hs->Prop}{Em:O.XQ}{Q:List (V×V)->Hp->Prop},Pre X i σ H env G Em->O.wA Φ es env G Qm Em->
  (∀vs G' H' xs,fc H H'->RH i G' H'->RVs i.K H' vs xs->xs.length=esL es->Qm vs G'->Q (Up xs) H')->Mf (ON X i Φ es) σ H Q
 |.nil,_,σ,H,env,G,Qm,Em,Q,p,w,c=>by rw[O.q_a_nil]at w;exact c [] G H [] (fc.refl H) p.hp .nil rfl w
 |.cons k .nil,h,_,_,_,_,_,_,_,_,_,_=>by cases h
 |.cons k (.cons v r),h,σ,H,env,G,Qm,Em,Q,p,w,c=>by rw[O.q_a_cons]at w;refine one p w λa G1 H1 x k1 p1 ra q=>?_;rw[O.q_a_cons]at q;refine one p1 q λb G2 H2 y k2 p2 rb q2=>?_;refine M1 r h p2 q2 λvs G' H' xs k3 g3 rv hl hq=>?_;exact c (a::b::vs) G' H' (x::y::xs) ((k1.trans k2).trans k3) g3 (.cons ((ra.keep k2).keep k3)<|.cons (rb.keep k3) rv) (by rw[Ë,Ë,hl];rfl) hq
def Ju{K:Frag}{H:Hp}:∀{vs:List O.Val}{xs:List V}{kvs:List (O.Val×O.Val)},RVs K H vs xs->O.pairUp vs=eh kvs->∃ps:List<|Key×V,Up xs=ps.map (λkv=>(kV kv.1,kv.2))/\RKs K H kvs ps/\2*ps.length=xs.length
 |[],_,_,r,e=>by cases r;cases e;exact⟨[],rfl,.nil,rfl⟩
 |[_],_,_,_,e=>by cases e
 |a::b::vs,_,kvs,r,e=>by
  cases r with
  |cons ra r=>cases r with
  |cons rb t =>
  rename_i y _;unfold O.pairUp at e;split at e
  .rename_i hk;obtain⟨ks,e2,rfl⟩:=Î.mp e;obtain⟨ps,h1,h2,h3⟩:=Ju t e2;obtain⟨c,hc,rfl⟩:=eW hk ra;refine⟨(c,y)::ps,?_,.cons hc rb h2,by rw[Ë,Ë,Ë];lia⟩;show(kV c,y)::Up _=_;rw[h1];rfl
  .cases e
def RKs.merge{K:Frag}{H:Hp}:∀{kvs:List (O.Val×O.Val)}{ps:List (Key×V)}{Ĭ:List (O.Val×O.Val)}{bs:List (Key×V)},RKs K H Ĭ bs->RKs K H kvs ps->RKs K H (O.putAll Ĭ kvs) (YW bs ps)
 |_,_,_,_,r,.nil=>r
 |_,_,Ĭ,bs,r,.cons (k:=k) (v:=v) (c:=c) (x:=x) (kvs:=kvs) (ps:=ps) a q t=>by show RKs K H (O.putAll (O.fg Ĭ k v) kvs) (YW (L2.fg bs c x) ps);exact RKs.merge (RKs.put a q r) t
variable {ç:Pos}
def HI:PE X (.Dict [] [] ç) (tE X i Φ<|.dct .nil) :=
 pe_dnewK.imp λσ H Q ⟨env,G,Qm,Em,p,w,c⟩=>by rw[O.q_e_dct]at w;unfold O.new at w;intro a ha;have w1:=w a<|p.hp.free ha;obtain⟨a',e,w2⟩:=eK w1;cases e;rw[O.q_a_nil]at w2;obtain⟨ks,e2,_,w3⟩:=eK w2;cases e2;rw[O.eF]at w3;have k:=fc.new (o:=.dK []) ha;exact c _ _ _ _ k (p.hp.put (o:=.dct []) k ⟨[],eC,.nil⟩) (.ref a) w3
def L3{es:O.Es}{keys:List (Option Expr)}{Μ:List Expr}(he:W4 es=ej)(h30:esL es<=30)(h:PPs X ç keys Μ<|ON X i Φ es)(hall:keys.all (·.isSome)=ej)(hl:keys.length=Μ.length)(h0:keys≠[])(h15:keys.length<=15):PE X (.Dict keys Μ ç) (tE X i Φ<|.dct es) :=
 (Ed h hall hl h0 h15).imp λσ H Q ⟨env,G,Qm,Em,p,w,c⟩=>by
  rw[O.q_e_dct]at w;unfold O.new at w;intro a ha;have w1:=w a<|p.hp.free ha;obtain⟨a',e,w2⟩:=eK w1;cases e;have k:=fc.new (o:=.dK []) ha;have p2:Pre X i σ (upd H a<|.dK []) env (O.upd G a<|.dct []) Em:=p.go k<|p.hp.put (o:=.dct []) k ⟨[],eC,.nil⟩;refine M1 es he p2 w2 λvs G' H' xs k2 g2 rv hl w3=>?_;obtain⟨ks,e2,e3,w4⟩:=eK w3;obtain⟨ps,e4,r4⟩:=g2 a _ e3;cases r4;obtain⟨qs,h1,h2,h3⟩:=Ju rv e2;refine⟨e4,qs,h1,by lia,?_⟩;have k3:fc H'<|upd H' a<|.dK<|YW [] qs:=fc.put (λxs e=>by rw[e4]at e;cases e) λp u e=>by rw[e4]at e;cases e
  exact c _ _ _ _ ((k.trans k2).trans k3) (g2.put (o:=.dct<|O.putAll [] ks) k3 ⟨_,eC,(RKs.merge .nil h2).keep k3⟩) (.ref a) w4
end Snd
namespace L2
open PySem PySem.Spec PyProof.Rows
section
variable {X:Cx}{Á:List (È×Obj)}{σ:St}{H:Hp}{s:Å}{a:È}{o:Obj}{ps:List (Key×V)}
def Inv.freeze(I:Inv X Á σ H s)(e:H a=eh (.dK ps))(ho:s.heap.get? a=eh o):Inv X Á σ (upd H a<|.frz o<|.dK ps) s:=by have h:=I.hok a _ e;exact I.write (t':=s.toks) (x:=a) (e:=a) (h':=s.heap) (by rw[e];exact True.intro) (.inl rfl) (λ_ _ _ q=>q) ⟨o,ho⟩ ⟨ho,h⟩
def Inv.thaw(I:Inv X Á σ H s)(e:H a=eh (.frz o<|.dK ps))(h0:∀o u,X.H₀ a≠eh (.frz o u)):Inv X Á σ (upd H a<|.dK ps) s:=by
 have hn:∀b,H b=ei->upd H a (.dK ps) b=ei:=λb z=>by rw[eB<|by rintro rfl;rw[e]at z;cases z];exact z
 have ho:=I.hok a _ e;refine⟨I.ok,I.os,I.bare,⟨I.base.keep,I.base.slot,λb ob q n hx=>hn b<|I.base.free b ob q n hx,I.base.there,λb xs q=>?_,λb ob u q=>?_,λb qs q=>?_⟩,I.loc,I.cell,hn _ I.free,λx c q=>hn _<|I.freeC x c q,λp hp=>?_,λb u q=>?_,I.len⟩
 .have z:=I.base.tups b xs q;rw[eB<|by rintro rfl;rw[e]at z;cases z];exact z
 .have z:=I.base.frzs b ob u q;rw[eB<|by rintro rfl;exact h0 _ _ q];exact z
 .obtain⟨m,z⟩:=I.base.tbls b qs q;exact⟨m,by rw[eB<|by rintro rfl;rw[e]at z;cases z];exact z⟩
 .obtain⟨q1,q2,q3,q4,q5⟩:=I.pin p hp;exact⟨q1,hn _ q2,q3,q4,q5⟩
 .by_cases hb:b=a
  .subst hb;rw[eC]at q;cases q;exact ho.2
  .rw[eB hb]at q;refine(I.hok b u q).stay (λ_ _ _ q=>q) (λc z=>?_) λc xs z=>?_
   .rw[eB<|by rintro rfl;rw[e]at z;cases z];exact z
   .rw[eB<|by rintro rfl;rw[e]at z;cases z];exact z
end
abbrev Ends.thaw(X:Cx)(D:Ends):Ends where
 nx:=λσ H=>∃a o ps,H a=eh (.frz o<|.dK ps)/\(∀o u,X.H₀ a≠eh (.frz o u))/\D.nx σ (upd H a<|.dK ps)
 rt:=λv H=>∃a o ps,H a=eh (.frz o<|.dK ps)/\(∀o u,X.H₀ a≠eh (.frz o u))/\D.rt v (upd H a<|.dK ps)
 bk:=D.bk
 ct:=D.ct
variable {X:Cx}
def FM{st:Ľ}{t:TS}(h:PS X st t):PS X st λD σ H=>t (D.thaw X) σ H:=λÁ s σ H D I q =>
 thn (h Á s σ H _ I q) λf s' z=>by
  cases f with
  |next =>obtain⟨Ř,H',I',a,o,ps,e,h0,q⟩:=z;exact⟨Ř,_,I'.thaw e h0,q⟩
  |ret u =>obtain⟨v,Ř,H',I',r,a,o,ps,e,h0,q⟩:=z;exact⟨v,Ř,_,I'.thaw e h0,r,q⟩
  |brk=>exact z
  |cont=>exact z
abbrev Iti(a:È)(o:Obj)(ps:List<|Key×V):It :=
 ⟨λi H=>H a=eh (.frz o<|.dK ps)/\i<ps.length,λi H v H'=>∃p k x,v=.ref p/\H p=ei/\ps[i]?=eh (k,x)/\H'=upd H p (.tup [kV k,x]),λi H=>H a=eh (.frz o<|.dK ps)/\ps.length<=i⟩
def Cq{k:Key}{u:Â}(h:W9 k u=ej):RelV (kV k) u:=by
 rcases Zm h with⟨i,t,rfl,rfl⟩|⟨x,t,rfl,rfl⟩
 .exact⟨t,rfl⟩
 .exact⟨t,rfl⟩
def KV.at:∀{ps:List (Key×V)}{vs:List (Key×Â)}{i:Nat}{k:Key}{x:V},KV ps vs->ps[i]?=eh (k,x)->∃u,vs[i]?=eh (k,u)/\RelV x u:=by
 intro ps vs i k x r;unfold KV at r;induction r generalizing i with
 |nil=>intro h;simp at h
 |@cons p q ps qs h t ih =>
  intro e;cases i with
  |zero =>simp at e;subst e;obtain⟨q1,q2⟩:=q;obtain⟨h1,h2⟩:=h;have h1:k=q1:=h1;subst h1;exact⟨q2,rfl,h2⟩
  |succ i=>simpa using ih (by simpa using e)
section
variable {X:Cx}{Á:List (È×Obj)}{σ:St}{H:Hp}{s:Å}{a:È}{o:Obj}{ps:List (Key×V)}{es:Array DictEntry}{ep:Nat}
def XN(I:Inv X Á σ H s)(e:H a=eh (.frz o<|.dK ps))(hd:o.data=.dict es ep):∃vs,KV ps vs/\s.heap.DictAt (Ze X.prog X.w) a vs ep:=by
 obtain⟨ho,_,_,vs,ů,o2,es2,ep2,h1,h2,h3,h4⟩:=(show eQ X.prog X.w H s.heap a (.frz o<|.dK ps) from I.hok a _ e)
 rw[ho]at h1;cases h1;rw[hd]at h3;cases h3;exact⟨vs,ů,o,es,ho,h2,hd,h4⟩
end
variable {P:à} {w:ó} {es:List Expr} {kk:Nat} {tp:Pos} {ds:Array DictEntry} {ep:Nat} {o:Obj} {ps:List (Key×V)}
def Of{K:Frag}(a it:È)(hd:o.data=.dict ds ep) :
  Turn P w K (.Tuple es kk tp) (Iti a o ps) [it] it (λi h=>∃ok ov,IsItemIter h it a i ps.length ep ok ov) where
 mem:=by simp
 obj:=λi h st b hb=>by
  obtain⟨ok,ov,h1⟩:=st;have q:b=it:=by simpa using hb
  subst q;exact⟨_,h1,λv z=>by cases z⟩
 keep:=λi h h' ⟨ok,ov,h1⟩ k=>⟨ok,ov,k it (by simp) _ h1⟩
 item:=by
  intro X hP hw hK hc i Á s σ H E I hf st hg;subst hP hw hK;obtain⟨e,hi⟩:=hg;obtain⟨ok,ov,h1⟩:=st;obtain⟨vs,ů,da⟩:=XN I e hd;have hl:ps.length=vs.length:=ů.length;have hx:ps[i]?=eh ps[i]:=Ê hi;obtain⟨u,hu,ru⟩:=ů.at (k:=ps[i].1) (x:=ps[i].2) hx;rw[hl]at h1;refine wpAny_pyNext_items_item h1 da hu λkey h3 hk hout hT hsz hkeep=>?_;have hfi:=hf it (by simp);have bq:it<s.heap.objs.size:=Ó h1;have nT:s.heap.objs.size≠it:=ş bq;have bG:=I.fpOk (H':=H) (Ì s.heap.objs.size) I.fresh;refine⟨.ref s.heap.objs.size,rfl,wpAny_letOwnedTupleGo_items (s:={s with heap:=h3}) hout λh4 he4 hs4=>?_⟩;have I4:Inv X Á σ H {s with heap:=h4,toks:=s.toks}:=I.turnedL (t':=s.toks) (ch:=[it]) (λb ob hb q=>hs4.extBut b ob (λz=>hb<|by simp[z])<|hkeep b ob (λz=>hb<|by simp[z]) q) hf;have hT4:h4.get? s.heap.objs.size=eh {cls:=.type "tuple",data:=.seq #[key,u]}:=hs4.extBut _ _ nT hT;obtain⟨f0,f1,f2,f3,f4,f5⟩:=bG;have I5:Inv X Á σ (upd H s.heap.objs.size<|.tup [kV ps[i].1,ps[i].2]) {s with heap:=h4,toks:=s.toks}:=I4.track f0 I.sz f1 f4 f5 ⟨by show 2<=Ù;decide,[key,u],.cons (Cq hk)<|.cons ru .nil,_,hT4,rfl,_,rfl⟩;refine⟨.ref s.heap.objs.size,_,I5,rfl,⟨s.heap.objs.size,_,_,rfl,f0,hx,rfl⟩,⟨key,u,by rw[hl];exact he4⟩,λb hb=>?_⟩;have q:b=it:=by simpa using hb
  subst q;rw[eB nT.symm];exact hfi.1
 done:=by
  intro X hP hw hK hc i Á s σ H E I hf st hg;subst hP hw hK;obtain⟨e,hi⟩:=hg;obtain⟨ok,ov,h1⟩:=st;obtain⟨vs,ů,da⟩:=XN I e hd;have hl:ps.length=vs.length:=ů.length;rw[hl]at h1 hi;refine wpAny_pyNext_items_end (I.ok.hd hc) h1 da (Ļ hi) λh' he'=>⟨rfl,?_⟩
  exact I.turnedL (t':=s.toks) (ch:=[it]) (λb ob hb q=>he' b ob (λz=>hb<|by simp[z]) q) hf
 self:=λA i s Q E st h=>by obtain⟨ok,ov,h1⟩:=st;exact PySem.W.kcp_self h1 h
abbrev Itk(a:È)(o:Obj)(ps:List<|Key×V):It :=
 ⟨λi H=>H a=eh (.frz o<|.dK ps)/\i<ps.length,λi H v H'=>H'=H/\∃k x,ps[i]?=eh (k,x)/\v=kV k,λi H=>H a=eh (.frz o<|.dK ps)/\ps.length<=i⟩
variable {tg:Expr}
def AJ{K:Frag}(a it:È)(hd:o.data=.dict ds ep) :
  Turn P w K tg (Itk a o ps) [it] it (λi h=>h.IsKeyIter it a i ps.length ep) where
 mem:=by simp
 obj:=λi h st b hb=>by
  obtain⟨ob,h1,_,h2⟩:=st;have q:b=it:=by simpa using hb
  subst q;exact⟨ob,h1,λv z=>by rw[h2]at z;cases z⟩
 keep:=λi h h' st k=>st.at λo e=>k it (by simp) o e
 item:=by intro X hP hw hK hc i Á s σ H E I hf st hg;subst hP hw hK;obtain⟨e,hi⟩:=hg;obtain⟨vs,ů,da⟩:=XN I e hd;have hl:ps.length=vs.length:=ů.length;have hx:ps[i]?=eh ps[i]:=Ê hi;obtain⟨u,hu,ru⟩:=ů.at (k:=ps[i].1) (x:=ps[i].2) hx;rw[hl]at st;refine wpAny_pyNext_dict_item st da hu λkey h3 hk st3 hs=>?_;have I3:Inv X Á σ H {s with heap:=h3,toks:=s.toks}:=I.turnedL (t':=s.toks) (ch:=[it]) (λb ob hb q=>hs.extBut b ob (λz=>hb<|by simp[z]) q) hf;obtain⟨ob,ho,aH,hda⟩:=id st3;refine⟨key,rfl,eL (s:={s with heap:=h3,toks:=s.toks}) ho aH hda (by decide) ⟨kV ps[i].1,H,I3,Cq hk,⟨rfl,_,_,hx,rfl⟩,?_,λb hb=>(hf b hb).1⟩⟩;show h3.IsKeyIter it a (i+1) ps.length ep;rw[hl];exact st3
 done:=by
  intro X hP hw hK hc i Á s σ H E I hf st hg;subst hP hw hK;obtain⟨e,hi⟩:=hg;obtain⟨vs,ů,da⟩:=XN I e hd;have hl:ps.length=vs.length:=ů.length;rw[hl]at st hi;refine wpAny_pyNext_dict_end (I.ok.hd hc) st da (Ļ hi) λh' he'=>⟨rfl,?_⟩
  exact I.turnedL (t':=s.toks) (ch:=[it]) (λb ob hb q=>he' b ob (λz=>hb<|by simp[z]) q) hf
 self:=λA i s Q E st h=>wpAny_pyIter_keyiter st h
abbrev HN(X:Cx)(J:È->Obj->List (Key×V)->It)(td:TE):TI:=λσ H R=>td σ H λx H1=>∃a ps,x=.ref a/\H1 a=eh (.dK ps)/\∀o,(∀o u,X.H₀ a≠eh (.frz o u))->R (J a o ps) (upd H1 a<|.frz o<|.dK ps)
variable {d:Expr} {td:TE}
def By{ŉ ř:Pos}(hd:PE X d td)(ay:Ġ d "items" X.env (eval d X.env)=eval d X.env)(aA:(ŉ.endLine==ř.line)=ej) :
  PI X (.Tuple es kk tp) (.Call (.Attribute d "items" ŉ) [] [] ř) (HN X Iti td):=by
 intro Á s σ H R I h;refine wpAny_Call_method0_late ay aA<|thn (hd Á s σ H _ I h) λv s1 ⟨x,H1,I1,r1,a,ps,ex,ea,q1⟩=>?_;subst ex;obtain rfl:v=Value.ref a:=r1;obtain⟨t1,t2,t3⟩:=Iy I1<|.inl ⟨ps,.inl ea⟩;refine⟨"dict","dict.items",PySem.F.plainAttrs_dict,PySem.F.slot_dict_items,PySem.F.type_dict_items,t1,t2,Calls.callWith_builtin rfl<|PySem.evalArgs_none ?_⟩;obtain⟨z,hsm,vs,ů,dd⟩:=Jl I1.hok ea;refine Ϣ PySem.F.slot_dict_items dd.typeIs PySem.F.entry_dict_items (PySem.F.args_dict_items_1 _) (meets_dict_items (Ze X.prog X.w) a hsm) ⟨⟨vs,dd⟩,?_⟩;have I2:Inv X Á σ H1 {s1 with heap:=s1.heap.push {cls:=.type "dict_items",data:=.fields #[.ref a]}}:=I1.kept (t':=s1.toks) λb o e=>Ä _ e;obtain⟨z2,hsm2,vs2,rel2,cO⟩:=Jl I2.hok ea;obtain⟨ep,da⟩:=cO.dictAt;refine wpAny_pyIter_items (s:={s1 with heap:=s1.heap.push {cls:=.type "dict_items",data:=.fields #[.ref a]}}) (d:=a) ⟨_,Ñ _ rfl,rfl,rfl⟩ da ?_;have I3:=I2.kept (t':=s1.toks) (h':=(s1.heap.push {cls:=.type "dict_items",data:=.fields #[.ref a]}).push {cls:=.type "dict_itemiterator",data:=.fields #[.none,.bool ez,.ref a,.int 0 0,.int vs2.length 0,.int ep 0,.none,.none]}) λb o e=>Ä _ e;obtain⟨ob,ds,ho,_,hdat,_⟩:=da;have I4:=I3.freeze ea<|Ä _ ho;refine⟨_,[_],_,_,_,rfl,I4,Of a _ hdat,⟨.none,.none,?_⟩,λb hb=>?_,q1 ob λo u z=>by have:=I1.base.frzs a o u z;rw[ea]at this;cases this⟩
 .rw[rel2.length];exact Ñ _ rfl
 .have e:b=(s1.heap.push {cls:=.type "dict_items",data:=.fields #[.ref a]}).objs.size:=by simpa using hb
  subst e;have hn:=I2.hok.fresh<|Ì (s1.heap.push {cls:=.type "dict_items",data:=.fields #[.ref a]}).objs.size;exact I2.fpOk (Ì _) (by rw[eB<|by intro z;rw[z]at hn;rw[ea]at hn;cases hn];exact hn)
def D9(hd:PE X d td):PI X tg d<|HN X Itk td:=by
 intro Á s σ H R I h;refine thn (hd Á s σ H _ I h) λv s1 ⟨x,H1,I1,r1,a,ps,ex,ea,q1⟩=>?_;subst ex;obtain rfl:v=Value.ref a:=r1;obtain⟨z,hsm,vs,ů,dd⟩:=Jl I1.hok ea;obtain⟨ep,da⟩:=dd.dictAt;refine wpAny_pyIter_dict hsm da ?_;have I2:=I1.kept (t':=s1.toks) (h':=s1.heap.push {cls:=.type "dict_keyiterator",data:=.fields #[.ref a,.int 0 0,.int vs.length 0,.int ep 0]}) λb o e=>Ä _ e;obtain⟨ob,ds,ho,_,hdat,_⟩:=da;have I3:=I2.freeze ea<|Ä _ ho;refine⟨_,[_],_,_,_,rfl,I3,AJ a _ hdat,⟨_,Ñ _ rfl,rfl,by rw[ů.length];rfl⟩,λb hb=>?_,q1 ob λo u z=>by have:=I1.base.frzs a o u z;rw[ea]at this;cases this⟩;have e:b=s1.heap.objs.size:=by simpa using hb
 subst e;have hn:=I1.hok.fresh<|Ì s1.heap.objs.size;exact I1.fpOk (Ì _) (by rw[eB<|by intro z;rw[z]at hn;rw[ea]at hn;cases hn];exact hn)
abbrev TupsH(I S:È)(items:Array Â)(val:Nat->List Int)(h:Ă):Prop:=∀i v,items[i]?=eh v->∃a ñ,v=.ref a/\a≠I/\a≠S/\ah h a ñ/\ù ñ.toList (val i)
def TupsH.keep{I S:È}{items:Array Â}{val:Nat->List Int}{h h':Ă}(t:TupsH I S items val h)(k:∀b o,b≠I->b≠S->h.get? b=eh o->h'.get? b=eh o):TupsH I S items val h':=λi v e=>by obtain⟨a,ñ,h1,h2,h3,⟨o,q1,q2⟩,h5⟩:=t i v e;exact⟨a,ñ,h1,h2,h3,⟨o,k a o h2 h3 q1,q2⟩,h5⟩
abbrev btL(val:Nat->List Int)(i j:Nat):Bool:=HT.lexLt (val i)<|val j
section
variable {prog:à}{w:ó}{A:Ą}{R:bc->Å->Prop}{I l:È}{items:Array Â}{val:Nat->List Int}{kw:List (Str×Â)}{fp:List È}{St:Nat->Ă->Prop}
def Ag(W:Walks prog w A.in1 I fp [I] items.size (λi v=>items[i]?=eh v) St)(hu:A.units+1<Ĥ)(S:È)(hSI:S≠I)(hSf:S∉fp) :
  ∀(k j:Nat) (s:Å) (vb:Â) (c:Nat),items.size - (j+1)=k->j+1<=items.size->St (j+1) s.heap->TupsH I S items val s.heap->items[ĵ (btL val) j]?=eh vb->
  s.heap.get? S=eh {cls:=.type "list",dict:=ei,data:=.seq #[vb,vb] c,slots:=#[]}->
  (∀v h' tk,items[ĵ (btL val)<|items.size - 1]?=eh v->(∀b o,b≠I->b≠S->s.heap.get? b=eh o->h'.get? b=eh o)->R (.ok<|.ret v) {s with heap:=h',toks:=tk})->
  codeAny (Û prog w) A (.builtin "min.loop" ⟨[.ref I,.none,.ref S],kw⟩) R s:=by
 have aZ:(toString "min" ++ toString ".loop" : String) = "min.loop":=by decide
 have hSw:S∉[I]:=by simp[hSI]
 intro k;induction k with
 |zero =>
  intro j s vb c hk hj ſ hT hPb hS hR;have hin:j+1=items.size:=by lia
  refine Ī PySem.F.entry_min_loop ?_;rw[č PySem.F.plain_min_loop _];show wpAny _ A.in1 (ϖ (.ref S) >>= _) _ _ s;refine À<|ŀ hS rfl ?_;show wpAny _ A.in1 (tryCatch (ŵ<|.ref I) _ >>= _) _ _ s;refine À<|Κ<|W.done s _ _ (hin▸ſ) λh' tk bE=>?_;have hS':=bE S _ hSw hS;show wpAny _ A.in1 (dy S (λ_=>#[]) >>= _) _ _ _;refine À ?_;refine χ hS' rfl<|À<|bA<|Æ ?_;refine hR vb _ tk (by rw[<-hin];exact hPb) λb o hbw dN e=>(ë _ _<|Ne.symm dN).trans (bE b o (by simpa using hbw) e)
 |succ k ih =>
  intro j s vb c hk hj ſ hT hPb hS hR;have Ϥ:j+1<items.size:=by lia
  refine Ī PySem.F.entry_min_loop ?_;rw[č PySem.F.plain_min_loop _];show wpAny _ A.in1 (ϖ (.ref S) >>= _) _ _ s;refine À<|ŀ hS rfl ?_;show wpAny _ A.in1 (tryCatch (ŵ<|.ref I) _ >>= _) _ _ s;refine À<|Κ<|W.item (j+1) s _ _ Ϥ ſ λv h' tk hP hst' bE=>?_;have hS':=bE S _ hSw hS;have dO:TupsH I S items val h':=hT.keep λb o h1 _ e=>bE b o (by simpa using h1) e;have hP:items[j+1]?=eh v:=hP;obtain⟨a,ñ,rfl,_,_,pa,ia⟩:=dO _ _ hP;obtain⟨b0,aS,rfl,_,_,pb,ib⟩:=dO _ _ hPb;show wpAny _ A.in1 (tryCatch (Ŋ [.ref a,.ref a]<|è .Lt (.ref a) (.ref b0) >>= _) _ >>= _) _ _ _;refine À<|Κ<|ė<|À<|HT.lt_tupInts pa pb ia ib hu ?_;refine À<|ė<|Ď ?_;refine À<|bA<|Æ ?_;cases hb:HT.lexLt (val<|j+1) (val<|ĵ (btL val) j)with
  |true =>
   have bj:btL val (j+1) (ĵ (btL val) j)=ej:=hb;simp only[if_true];refine À ?_;refine χ hS' rfl<|À<|bA ?_;rw[aZ];refine Æ ⟨ň PySem.F.plain_min_loop _,ih (j+1) _ (.ref a) _ (by lia) Ϥ (W.frame _ _ _ hst' λb hbf o e=>?_) (dO.keep λb o _ h2 e=>(ë _ _<|Ne.symm h2).trans e) (by simp only[ĵ,bj,if_true];exact hP) (Č _ hS' rfl)
     λv' h'' tk'' hP' hk''=>?_⟩
   .exact(ë _ _ λh:S=b=>hSf<|by rw[h];exact hbf).trans e
   .exact hR v' h'' tk'' hP' λb o hbw dN e=>hk'' b o hbw dN ((ë _ _<|Ne.symm dN).trans<|bE b o (by simpa using hbw) e)
  |false =>have bj:btL val (j+1) (ĵ (btL val) j)=ez:=hb;simp only[ħ,if_false];refine À<|bA ?_;rw[aZ];refine Æ ⟨ň PySem.F.plain_min_loop _,ih (j+1) _ (.ref b0) c (by lia) Ϥ hst' dO (by simp only[ĵ,bj,ħ,if_false];exact hPb) hS' λv' h'' tk'' hP' hk''=>?_⟩;exact hR v' h'' tk'' hP' λb o hbw dN e=>hk'' b o hbw dN (bE b o (by simpa using hbw) e)
variable {s:Å} {c:Nat}
def N2(W:Walks prog w A.in1 I fp [I] items.size (λi v=>items[i]?=eh v) St)(hu:A.units+1<Ĥ)(S:È)(hSI:S≠I)(hSf:S∉fp)(hn:0<items.size)(ſ:St 0 s.heap)(hT:TupsH I S items val s.heap)
  (hS:s.heap.get? S=eh {cls:=.type "list",dict:=ei,data:=.seq #[] c,slots:=#[]})
  (hR:∀v h' tk,items[ĵ (btL val)<|items.size - 1]?=eh v->(∀b o,b≠I->b≠S->s.heap.get? b=eh o->h'.get? b=eh o)->R (.ok<|.ret v) {s with heap:=h',toks:=tk}) :
  codeAny (Û prog w) A (.builtin "min.loop" ⟨[.ref I,.none,.ref S],kw⟩) R s:=by
 have aZ:(toString "min" ++ toString ".loop" : String) = "min.loop":=by decide
 have hSw:S∉[I]:=by simp[hSI]
 refine Ī PySem.F.entry_min_loop ?_;rw[č PySem.F.plain_min_loop _];show wpAny _ A.in1 (ϖ (.ref S) >>= _) _ _ s;refine À<|ŀ hS rfl ?_;show wpAny _ A.in1 (tryCatch (ŵ<|.ref I) _ >>= _) _ _ s;refine À<|Κ<|W.item 0 s _ _ hn ſ λv h' tk hP hst' bE=>?_;have hS':=bE S _ hSw hS;have dO:TupsH I S items val h':=hT.keep λb o h1 _ e=>bE b o (by simpa using h1) e;show wpAny _ A.in1 (dy S (λ_=>#[v,v]) >>= _) _ _ _;refine À ?_;refine χ hS' rfl ?_;rw[aZ];refine Æ ⟨ň PySem.F.plain_min_loop _,Ag W hu S hSI hSf _ 0 _ v _ rfl hn (W.frame _ _ _ hst' λb hbf o e=>?_) (dO.keep λb o _ h2 e=>(ë _ _<|Ne.symm h2).trans e) hP (Č _ hS' rfl) λv' h'' tk'' hP' hk''=>?_⟩
 .exact(ë _ _ λh:S=b=>hSf<|by rw[h];exact hbf).trans e
 .exact hR v' h'' tk'' hP' λb o hbw dN e=>hk'' b o hbw dN ((ë _ _<|Ne.symm dN).trans<|bE b o (by simpa using hbw) e)
def Af(hh:A.handled=ei)(hlI:l≠I)(S:È)(hSI:S≠I)(hn:items.size=0){nm:Str}{d:Â}(ſ:s.heap.IsListIter I l 0/\s.heap.IsList l items)
  (hS:s.heap.get? S=eh {cls:=.type "list",dict:=ei,data:=.seq #[] c,slots:=#[]})
  (hR:∀h' tk,(∀b o,b≠I->s.heap.get? b=eh o->h'.get? b=eh o)->R (.ok<|.ret d) {s with heap:=h',toks:=tk}) :
  codeAny (Û prog w) A (.builtin "min.loop" ⟨[.ref I,.none,.ref S],[(nm,d)]⟩) R s:=by
 have W:=Walks.list (prog:=prog) (w:=w) (A:=A.in1) hh I l hlI items;refine Ī PySem.F.entry_min_loop ?_;rw[č PySem.F.plain_min_loop _];show wpAny _ A.in1 (ϖ (.ref S) >>= _) _ _ s;refine À<|ŀ hS rfl ?_;show wpAny _ A.in1 (tryCatch (ŵ<|.ref I) _ >>= _) _ _ s;refine À (Κ<|W.done s _ _ (by rw[hn];exact ſ) λh' tk bE=>?_);show wpAny _ A.in1 (rule _ >>= λ_=>ret d) _ _ _;exact À (Θ<|Æ<|hR h' tk λb o hb e=>bE b o (by simpa using hb) e)
end
def U6(a:Â):ϡ "min" ⟨[a],[(gg "default",.none)]⟩:=by unfold ϡ;kernel_rfl
def JC(bt:Nat->Nat->Bool):∀k,ĵ bt k<=k
 |0=>Ì _
 |k+1=>by
  unfold ĵ;split
  .exact Ì _
  .exact Nat.le_succ_of_le<|JC bt k
def KS:∀{xs:List V}{us:List Â}{i:Nat}{u:Â},fS xs us->us[i]?=eh u->∃x,xs[i]?=eh x/\RelV x u
 |_,_,_,_,.nil,e=>by simp at e
 |_,_,0,_,.cons r _,e=>by simp at e;subst e;exact⟨_,rfl,r⟩
 |_,_,i+1,_,.cons _ t,e=>by obtain⟨x,h1,h2⟩:=KS (i:=i) t (by simpa using e);exact⟨x,by simpa using h1,h2⟩
section
variable {X:Cx}
def AF{Á:List (È×Obj)}{s:Å}{σ:St}{H:Hp}{a:È}{xs:List V}{đ:List (List Int)}{Q:VK}(hc:X.calm=ej)(hu:X.A.units+1<Ĥ)(I:Inv X Á σ H s)(hl:fQ X.K H a xs)(hr:đ.length=xs.length)
  (ht:∀i,i<đ.length->∃p,xs[i]?=eh (.ref p)/\fR X.K H p ((đ.getD i []).map V.int))
  (q0:xs=[]->Q .non H) (q1:xs≠[]->∀x,xs[ĵ (btL λi=>đ.getD i [])<|xs.length - 1]?=eh x->Q x H) :
  wpAny (Û X.prog X.w) X.A (call (.builtin "min") [.ref a] [(gg "default",.none)]) (EP X Á σ Q) X.xe s:=by
 have aZ:(toString "min" ++ toString ".loop" : String) = "min.loop":=by decide
 obtain⟨ñ,rv,pl,hz⟩:=I.list hl;have hlen:=rv.length;have di:=pl.isList;obtain⟨ol,hol,_⟩:=id di;have hll:a<s.heap.objs.size:=Ó hol;refine PyProof.Rows.kmk_tree PySem.F.kind_min PySem.F.plain_min PySem.F.entry_min (U6 _) ?_;show wpAny _ X.A.in1 (Builtin.Builtins.bindParams "min" ["key","default"] 0 ⟨[],[(gg "default",.none)]⟩ >>= _) _ _ s;refine À (ϰ (show Builtin.Builtins.bindParams "min" ["key","default"] 0 ⟨[],[(gg "default",.none)]⟩=pure [ei,eh .none] from rfl) ?_);refine À<|Æ ?_;refine À<|Ω di ?_;refine À<|cY ?_<|į _;rw[aZ];have hS:(s.heap.push {cls:=.type "list_iterator",data:=.fields #[.ref a,.int 0 0]}).objs.size=s.heap.objs.size+1:=size_push' ..;have hlI:a≠s.heap.objs.size:=ä hll;have hSI:(s.heap.push {cls:=.type "list_iterator",data:=.fields #[.ref a,.int 0 0]}).objs.size≠s.heap.objs.size:=by rw[hS];exact ş<|ĭ _
 have hSl:(s.heap.push {cls:=.type "list_iterator",data:=.fields #[.ref a,.int 0 0]}).objs.size≠a:=by rw[hS];exact ş<|ĳ hll
 have kk:∀b o,s.heap.get? b=eh o->((s.heap.push {cls:=.type "list_iterator",data:=.fields #[.ref a,.int 0 0]}).push<|Η "list" #[] 0).get? b=eh o:=λb o e=>Ä _<|Ä _ e;have gI:((s.heap.push {cls:=.type "list_iterator",data:=.fields #[.ref a,.int 0 0]}).push<|Η "list" #[] 0).get? s.heap.objs.size=eh {cls:=.type "list_iterator",data:=.fields #[.ref a,.int 0 0]} :=
  Ä _ (Ñ _ rfl)
 have gS:((s.heap.push {cls:=.type "list_iterator",data:=.fields #[.ref a,.int 0 0]}).push<|Η "list" #[] 0).get? (s.heap.push {cls:=.type "list_iterator",data:=.fields #[.ref a,.int 0 0]}).objs.size=eh (Η "list" #[] 0):=Ñ _ rfl;have ϩ:∀b o,s.heap.get? b=eh o->b≠s.heap.objs.size/\b≠(s.heap.push {cls:=.type "list_iterator",data:=.fields #[.ref a,.int 0 0]}).objs.size:=λb o e=>by have:=Ó e;rw[hS];exact⟨ä this,ä<|ĳ this⟩
 have ſ:Heap.IsListIter ((s.heap.push {cls:=.type "list_iterator",data:=.fields #[.ref a,.int 0 0]}).push<|Η "list" #[] 0) s.heap.objs.size a 0/\Heap.IsList ((s.heap.push {cls:=.type "list_iterator",data:=.fields #[.ref a,.int 0 0]}).push<|Η "list" #[] 0) a ñ.toArray:=by refine⟨⟨_,gI,rfl,rfl⟩,?_⟩;obtain⟨o,e,r⟩:=di;exact⟨o,kk _ _ e,r⟩
 refine Æ ⟨ň PySem.F.plain_min_loop _,?_⟩;by_cases h0:xs=[]
 .have hi:ñ.toArray.size=0:=by rw[Í,<-hlen,h0];rfl
  refine Af (I:=s.heap.objs.size) (A:=X.A) (l:=a) (items:=ñ.toArray) (I.ok.hd hc) hlI _ hSI hi ſ gS λh' tk hk=>?_;exact⟨.non,H,I.kept (t':=tk) λb o e=>hk b o (ϩ b o e).1<|kk b o e,rfl,q0 h0⟩
 .have hi:0<ñ.toArray.size:=by
   rw[Í,<-hlen];exact cZ.mpr h0
  refine N2 (A:=X.A) (items:=ñ.toArray) (val:=λi=>đ.getD i []) (Walks.list (A:=X.A.in1) (I.ok.hd hc) s.heap.objs.size a hlI ñ.toArray) hu _ hSI (λz=>(Ç.mp z).elim hSI λz=>hSl<|â.mp z) hi ſ (λi v e=>?_) gS λv h' tk hv hk=>?_
  .have e:ñ[i]?=eh v:=by simpa using e
   have hi':i<đ.length:=by rw[hr,hlen];exact(Ð.mp e).1
   obtain⟨p,bN,hp2⟩:=ht i hi';obtain⟨x,hx,rx⟩:=KS rv e;rw[bN]at hx;cases hx;obtain rfl:v=Value.ref p:=rx;obtain⟨tt,r2,⟨o2,e2,rest⟩,_⟩:=I.tuple hp2;exact⟨p,tt.toArray,rfl,(ϩ p o2 e2).1,(ϩ p o2 e2).2,⟨o2,kk _ _ e2,rest⟩,ZD r2⟩
  .have hv:ñ[ĵ (btL λi=>đ.getD i [])<|xs.length - 1]?=eh v:=by rw[hlen];simpa using hv
   obtain⟨x,hx,rx⟩:=KS rv hv;exact⟨x,H,I.kept (t':=tk) λb o e=>hk b o (ϩ b o e).1 (ϩ b o e).2<|kk b o e,rx,q1 h0 x hx⟩
abbrev PD(K:Frag)(ta:TA):TE:=λσ H Q=>ta σ H λvs H1=>∃a xs,∃đ:List<|List Int,vs=[.ref a]/\fQ K H1 a xs/\đ.length=xs.length/\
 (∀i,i<đ.length->∃p,xs[i]?=eh (.ref p)/\fR K H1 p ((đ.getD i []).map V.int))/\(xs=[]->Q .non H1)/\(xs≠[]->∀x,xs[ĵ (btL λi=>đ.getD i [])<|xs.length - 1]?=eh x->Q x H1)
def Ej{e:Expr}{ta:TA}{p ç kp kpos:Pos}{kk:Nat}(hc:X.calm=ej)(hu:X.A.units+1<Ĥ)(hg:Gl X "min")(hm:X.mg "min" = ei)(ha:PA X [e] ta)(hs:Ô [e] X.env=[(ez,eval e X.env)]) :
  PE X (.Call (.Name "min" p) [e] [⟨eh "default",.Constant .none kk kp,kpos⟩] ç) (PD X.K ta):=by
 intro Á s σ H Q I h;refine İ (Yx (u:=.builtin "min") I hg hm (by kernel_rfl) ?_);refine PyProof.Rows.callWith_kw (e:=e) (rest:=[]) ?_ (by rw[hs];rfl) (by rw[hs];rfl) rfl rfl;refine thn (ha ç Á s σ H _ I h) λus s1 ⟨vs,H1,I1,r1,a,xs,đ,ev,hl,hr,ht,q0,q1⟩=>?_;subst ev;obtain⟨u,rfl,ru⟩:=ZT r1;cases ru;refine PyProof.Rows.kws_cons<|thn (Bo Á s1 σ H1 (λv H2=>v=.non/\H2=H1) I1 ⟨rfl,rfl⟩) λv s2 ⟨x,H2,I2,r2,e1,e2⟩=>PyProof.Rows.kws_nil ?_;subst e1 e2;obtain rfl:v=Value.none:=r2;exact AF hc hu I2 hl hr ht q0 q1
def XM{P:à}{w:ó}:∀{ns:List Int}{vs:List (Key×Â)}{Ĭ:List Â},vs.map (·.1)=ns.map Sum.inl->Ĭ.length=vs.length->(∀(j:Nat) (v:Â),Ĭ[j]?=eh v->∃(k:Key) (x:Â),vs[j]?=eh (k,x)/\(Ze P w).is k v=ej)->ù Ĭ ns
 |[],[],[],_,_,_=>.nil
 |[],_::_,_,h,_,_=>by cases h
 |_::_,[],_,h,_,_=>by cases h
 |[],[],_::_,_,h,_=>by cases h
 |_::_,_::_,[],_,h,_=>by cases h
 |n::ns,p::vs,u::Ĭ,h1,h2,h3=>by rw[Ï,Ï]at h1;injection h1 with h1 h1';obtain⟨k,x,e1,e2⟩:=h3 0 u rfl;simp at e1;subst e1;have h1:k=Sum.inl n:=h1;subst h1;obtain⟨t,rfl⟩:∃t,u=Value.int n t:=Cq (k:=Sum.inl n) (u:=u) e2;exact .cons n t (XM (P:=P) (w:=w) h1' (by simpa using h2) λj v e=>by simpa using h3 (j+1) v (by simpa using e))
def KI(hc:X.calm=ej):eP X (.builtin "sorted") (λxs H Q=>∃p kvs,∃ns:List Int,xs=[.ref p]/\Rd H p (.dK kvs)/\kvs.map (·.1)=ns.map Sum.inl/\ns.length<64/\∀l,H l=ei->Q (.ref l) (upd H l<|.lst<|(sortI ns).map V.int)):=by
 intro Á s σ H xs us Q I r h;obtain⟨p,kvs,ns,rfl,hp,hk,h64,q⟩:=h;obtain⟨u,rfl,rx⟩:=ZT r;cases rx;obtain⟨z,hsm,vs,ů,dd⟩:=X6 I.hok hp;obtain⟨ep,da⟩:=dd.dictAt;have hlen:vs.length=ns.length:=by have:=congrArg List.length hk;simpa[ů.length]using this
 refine Calls.call_function_entry kind_sorted plain_sorted entry_sorted (args_sorted1 _) ?_;unfold Builtin.«sorted»;refine À (m:=checkCount "sorted" 1 1 _)<|Æ ?_;refine À (PySem.W.kdu_collect (A:=X.A.in1) (PySem.W.kdl_dict (knd:=Ze X.prog X.w) (kvs:=vs) (ep:=ep) hsm) (I.ok.hd hc) da (by rw[<-ů.length];exact z) λh' tk Ĭ hkeep hacc=>?_);have hl:Ĭ.toList.length=vs.length:=by rw[î];exact hacc.1
 refine À (cY ?_<|by rw[hl,<-ů.length];exact z);have hI:ù Ĭ.toList ns:=XM (P:=X.prog) (w:=X.w) (by rw[<-ů.keys];exact hk) hl λj v e=>hacc.2 j v (by rw[<-ą];exact e);have hoL:(h'.push<|Η "list" Ĭ.toList.toArray 0).get? h'.objs.size=eh (Η "list" Ĭ.toList.toArray 0):=Ñ _ rfl;have I1:Inv X Á σ H {s with heap:=h',toks:=tk}:=I.kept hkeep;refine À (ė<|ĉ slot_list_sort ⟨_,hoL,rfl⟩ entry_list_sort (list_sort_tree hoL hI (by rw[hl,hlen];exact h64) λout bW a1 a2 a3=>⟨_,rfl,?_⟩)<|args_list_sort _);have e:=Yz a2 a3;subst e;obtain⟨n,he⟩:=sortedHeap_at (out:=out) hoL;refine Æ ⟨_,rfl,.ref h'.objs.size,_,I1.laid (a:=h'.objs.size) (o:=.lst<|(sortI ns).map V.int) (t':=tk) (λb o e=>?_) (Ì _) ?_,rfl,q _<|I1.hok.fresh<|Ì _⟩
 .have e:h'.get? b=eh o:=e;have hb:=Ó e;rw[sortedHeap_old (ä hb)<|by rw[size_push'];exact ĳ hb];exact Ä _ e
 .exact⟨by rw[Ã,Yw];unfold Ù;lia,out.toList,n,YD a1,by simpa[Η]using he⟩
end
end L2
namespace Srt
open PySem.W PyProof.Rows
abbrev ok(n:Nat)(lt:Nat->Nat->Bool){α:Type}:KasT α->(α->Prop)->Prop
 |.ret a,Q=>Q a
 |.ask i j k,Q=>i<n/\j<n/\ok n lt (k<|lt i j) Q
section
variable {n:Nat}{lt:Nat->Nat->Bool}
abbrev K(p:Array Nat)(k:Nat):Nat:=p.getD k 0
structure Good(n:Nat)(p:Array Nat):Prop where
 sz:p.size=n
 pm:p.toList.Perm<|List.range n
variable {p:Array Nat}
def Good.at(g:Good n p)(h0:0<n)(k:Nat):K p k<n:=by
 unfold K;by_cases h:k<p.size
 .have e:p.getD k 0=p[k]:=by simp[ι,h]
  rw[e];have:p[k]∈List.range n:=g.pm.mem_iff.mp (by simp);exact ū.mp this
 .have e:p.getD k 0=0:=by simp[ι,h]
  rw[e];exact h0
def Good.rev(g:Good n p)(i j:Nat):Good n<|kas_rev p i j:=⟨(mirror_size ..).trans g.sz,(Array.perm_iff_toList_perm.mp<|mirror_perm ..).trans g.pm⟩
end
end Srt
namespace L2
open PySem PySem.Spec PyProof.Rows PySem.W
section
variable {prog:à}{w:ó}{A:Ą}{E:Â->Å->Prop}{s:Å}
abbrev RowsAt(h:Ă)(vs:List Â)(đ:List<|List Int):Prop:=đ.length=vs.length/\∀i,i<vs.length->∃p o ñ n,vs.getD i Value.none=.ref p/\h.get? p=eh o/\o.cls=.type "tuple"/\o.data=.seq ñ n/\ù ñ.toList (đ.getD i [])/\đ.getD i []≠[]
def RowsAt.keep{h h':Ă}{vs:List Â}{đ:List (List Int)}(r:RowsAt h vs đ)(k:∀b o,h.get? b=eh o->o.cls=.type "tuple"->h'.get? b=eh o):RowsAt h' vs đ:=⟨r.1,λi hi=>by
  obtain⟨p,o,ñ,n,h1,h2,h3,h4,h5⟩:=r.2 i hi
  exact⟨p,o,ñ,n,h1,k p o h2 h3,h3,h4,h5⟩⟩
end
end L2
namespace Snd
open PySem L2
variable {i:Inf}{X:Cx}{Φ:O.Fs}
def Ny{H:Hp}:∀{kvs:List (O.Val×O.Val)}{ps:List (Key×V)}{ns:List Int},RKs i.K H kvs ps->O.keysOf kvs=eh ns->ps.map (·.1)=ns.map Sum.inl
 |_,_,ns,.nil,e=>by have e:eh []=eh ns:=e;cases e;rfl
 |(k,v)::kvs,_,ns,.cons (c:=c) hk _ t,e=>by
  have e:O.eN (k::kvs.map (·.1))=eh ns:=e;cases k with
  |int j =>
   have e:(O.eN (kvs.map (·.1))).map (j :: ·)=eh ns:=e;obtain⟨ms,z,rfl⟩:=Î.mp e;have ih:=Ny (ns:=ms) t z;cases c with
   |inl l =>have hk:j=l:=hk;subst hk;rw[Ï,Ï,ih]
   |inr _=>exact(show False from hk).elim
  |_=>cases e
def RVs.perm{H:Hp}{vs:List O.Val}{xs:List V}(r:RVs i.K H vs xs):∀(ps:List Nat),(∀k∈ps,k<vs.length)->RVs i.K H (ps.map λk=>vs.getD k .non) (ps.map λk=>xs.getD k .non)
 |[],_=>.nil
 |k::ps,h=>by have hk:=h k ì;obtain⟨x,h1,h2⟩:=r.get<|Ê hk;refine .cons ?_<|RVs.perm r ps λj hj=>h j<|Ü _ hj;show RV i.K H (vs.getD k .non) (xs.getD k .non);rw[ý,ý,Ê hk,h1];exact h2
def KD:∀{ys:List O.Val}{ns:List Int},O.eN ys=eh ns->ys=ns.map .int
 |[],_,e=>by cases e;rfl
 |y::ys,ns,e=>by
  cases y with
  |int j =>obtain⟨ms,z,rfl⟩:=Î.mp (show(O.eN ys).map (j :: ·)=eh ns from e);rw[Ï,<-KD z]
  |_=>cases e
def NA{H:Hp}:∀{xs:List O.Val}{us:List V}{đ:List (List Int)},RVs i.K H xs us->O.rowsOf xs=eh đ->đ.length=us.length/\(∀n,n<đ.length->∃p,us[n]?=eh (.ref p)/\fR i.K H p ((đ.getD n []).map V.int))/\xs=đ.map λr=>.tup (r.map .int)
 |_,_,đ,.nil,e=>by have e:eh []=eh đ:=e;cases e;exact⟨rfl,λn h=>gc h<|Nat.not_lt_zero _,rfl⟩
 |v::xs,_,đ,.cons r t,e=>by
  cases v with
  |tup ys =>
   obtain⟨ns,z1,e⟩:=é.mp (show(O.eN ys).bind (λns=>(O.rowsOf xs).map (ns :: ·))=eh đ from e);obtain⟨rs,z2,rfl⟩:=Î.mp e;obtain⟨h1,h2,h3⟩:=NA t z2;cases r with
   |tup hp hr =>
    have:=ZQ z1 hr;subst this;refine⟨by rw[Ë,Ë,h1],λn hn=>?_,?_⟩
    .cases n with
     |zero=>exact⟨_,rfl,Zk hp⟩
     |succ n=>exact h2 n (by simpa using hn)
    .rw[Ï,<-h3];have:ys=ns.map .int:=KD z1;rw[this]
  |_=>cases e
def OG:fN i .sortedI (λxs H Q=>(∃p,∃ns:List Int,xs=[.ref p]/\fQ i.K H p (ns.map V.int)/\ns.length<64/\∀l,H l=ei->Q (.ref l) (upd H l<|.lst<|(L2.sortI ns).map V.int))\/
    (∃p kvs,∃ns:List Int,xs=[.ref p]/\Rd H p (.dK kvs)/\kvs.map (·.1)=ns.map Sum.inl/\ns.length<64/\∀l,H l=ei->Q (.ref l) (upd H l<|.lst<|(L2.sortI ns).map V.int))):=by
 intro vs G H xs Q Qm g r w c;obtain⟨v,rfl,w⟩:=Wh w;obtain⟨x,rfl,rx⟩:=r.inv1;have key:∀(ns:List Int),(if ns.length<64 then O.Rs.new (.lst<|(O.sortI ns).map .int)else .no).wp G Qm->ns.length<64/\∀l,H l=ei->Q (.ref l) (upd H l<|.lst<|(L2.sortI ns).map V.int):=λns w=>by
  split at w
  .rename_i h64;exact⟨h64,Yh g (KY w) c λp hp=>⟨_,eC,RVs.ints _⟩⟩
  .exact(Zf w).elim
 cases v with
 |ref a =>
  cases rx.ref_inv
  replace w:(O.biSortedI G<|.ref a).wp G Qm:=w
  unfold O.biSortedI O.sortAny at w;dsimp only at w;cases z:G a with
  |none=>rw[z]at w;exact(Zf w).elim
  |some o =>
   rw[z]at w;cases o with
   |lst ys =>
    cases z2:O.eN ys with
    |none=>simp only[z2]at w;exact(Zf w).elim
    |some ns =>simp only[z2]at w;obtain⟨us,h1,h2⟩:=g a _ z;have:=ZQ z2 h2;subst this;exact .inl ⟨a,ns,rfl,fQ.of h1,key ns w⟩
   |dct kvs =>
    cases z2:O.keysOf kvs with
    |none=>simp only[z2]at w;exact(Zf w).elim
    |some ns =>simp only[z2]at w;obtain⟨ps,h1,h2⟩:=g a _ z;exact .inr ⟨a,ps,ns,rfl,.inl h1,Ny h2 z2,key ns w⟩
   |_=>exact(Zf w).elim
 |scr ns =>
  cases rx with
  |scr h=>exact .inl ⟨_,ns,rfl,Z0 h,key ns w⟩
 |_=>exact(Zf w).elim
end Snd
namespace Snd
open PySem L2 PyProof.Rows
variable {i:Inf}{X:Cx}{Φ:O.Fs}
def Kj:∀(ns:List Int) (a:Int),a∈O.dedup ns↔a∈ns
 |[],a=>Iff.rfl
 |x::xs,a=>by
  have ih:=Kj xs a;unfold O.dedup;simp only[Ç,Ĕ,ih];constructor
  .rintro(h|h)
   .exact .inl h
   .exact .inr h.1
  .rintro(h|h)
   .exact .inl h
   .by_cases e:a=x
    .exact .inl e
    .exact .inr ⟨h,by simpa using e⟩
def Ws:∀ns:List Int,(O.dedup ns).Nodup
 |[]=>Į
 |x::xs=>by unfold O.dedup;rw[ć];refine⟨λh=>?_,List.Nodup.sublist š<|Ws xs⟩;have:=(Ĕ.mp h).2;simp at this
def Jp:∀(ns Ĭ:List Int),Ĭ.Nodup->(ns.foldl Ŗ Ĭ).Nodup/\∀a,a∈ns.foldl Ŗ Ĭ↔a∈Ĭ\/a∈ns
 |[],Ĭ,h=>⟨h,λa=>by simp⟩
 |x::xs,Ĭ,h=>by
  have h2:(Ŗ Ĭ x).Nodup/\∀a,a∈Ŗ Ĭ x↔a∈Ĭ\/a=x:=by
   unfold Ŗ;split
   .rename_i hc;have hm:x∈Ĭ:=by simpa using hc
    exact⟨h,λa=>⟨.inl,λz=>z.elim id λe=>e▸hm⟩⟩
   .rename_i hc;have hm:x∉Ĭ:=by simpa using hc
    refine⟨?_,λa=>by simp⟩;rw[æ];refine⟨h,by simp,λa ha b hb=>?_⟩;rw[â.mp hb];exact λe=>hm<|e▸ha
  obtain⟨h3,h4⟩:=Jp xs (Ŗ Ĭ x) h2.1;refine⟨h3,λa=>?_⟩;rw[Ŀ,h4,h2.2,Ç];constructor
  .rintro((z|z)|z)
   .exact .inl z
   .exact .inr<|.inl z
   .exact .inr<|.inr z
  .rintro(z|z|z)
   .exact .inl<|.inl z
   .exact .inl<|.inr z
   .exact .inr z
def M9(ns:List Int):(Ÿ (λi=>ns.getD i 0) ns.length).Perm<|O.dedup ns:=by
 have e:(List.range ns.length).map (λi=>ns.getD i 0)=ns:=by
  apply List.ext_getElem
  .simp
  .intro k h1 h2;simp at h1;simp[h1]
 unfold Ÿ;rw[e];obtain⟨h1,h2⟩:=Jp ns [] Į;refine(aV h1<|Ws ns).mpr λa=>?_;rw[h2,Kj];simp
def Eu(ns:List Int):(Ÿ (λi=>ns.getD i 0) ns.length).length=(O.dedup ns).length:=(M9 ns).length_eq
def MC{G:O.Hs}{H:Hp}{v:O.Val}{x:V}{ns:List Int}(g:RH i G H)(r:RV i.K H v x)(e:O.sortOf G v=eh ns):∃p,x=.ref p/\fQ i.K H p (ns.map V.int):=by
 cases v with
 |ref a =>obtain⟨ys,z1,z2⟩:=é.mp (show(O.eU<|G a).bind O.eN=eh ns from e);obtain⟨us,h1,h2⟩:=ZJ g z1;have:=ZQ z2 h2;subst this;exact⟨a,r.ref_inv,h1⟩
 |scr ms =>
  cases e;cases r with
  |scr h=>exact⟨_,rfl,Z0 h⟩
 |_=>cases e
def Ka:∀{xs:List O.Val}{k n:Nat}{v:O.Val},(O.enumL k xs)[n]?=eh v->∃x,xs[n]?=eh x/\v=.tup [.int ((k+n:Nat):Int),x]
 |[],k,n,v,h=>by simp[O.enumL]at h
 |x::xs,k,0,v,h=>by have h:eh (O.Val.tup [.int k,x])=eh v:=h;cases h;exact⟨x,rfl,rfl⟩
 |x::xs,k,n+1,v,h=>by obtain⟨y,h1,h2⟩:=Ka (xs:=xs) (k:=k+1) (n:=n) (v:=v) (by simpa[O.enumL]using h);refine⟨y,by simpa using h1,?_⟩;rw[h2,show k+1+n=k+(n+1) by lia]
def Kr:∀(xs:List O.Val) (k:Nat),(O.enumL k xs).length=xs.length
 |[],_=>rfl
 |x::xs,k=>by show(O.enumL (k+1) xs).length+1=xs.length+1;rw[Kr xs]
variable {xs:List O.Val}
def AW{H0:Hp}{a:È}{us:List V}(ha:H0 a=eh (.tup us)\/KT i.K a us)(ra:RVs i.K H0 xs us):ItOk i H0 (Ite i.K a) (λ_=>True) (O.enumL 0 xs) where
 go:=λn G H v k g e hv=>by obtain⟨x,hx,rfl⟩:=Ka hv;have h1:fR i.K H a us:=Zk<|ha.imp (k.t _ _) id;obtain⟨x',h5,h6⟩:=(ra.keep k).get hx;refine⟨⟨us,x',h1,h5⟩,λw H' ⟨p,e1,hp,e2⟩=>?_⟩;subst e1;have:=e2 us x' h1 h5;subst this;have k:=fc.new (o:=.tup [.int n,x']) hp;refine⟨k,WN g hp,.tup (.inl eC)<|.cons ?_<|.cons (h6.keep k) .nil⟩;rw[ϑ];exact .int _
 stop:=λn G H k g e hn=>by have h1:fR i.K H a us:=Zk<|ha.imp (k.t _ _) id;exact⟨us,h1,by rw[<-ra.length,<-Kr xs 0];exact hn⟩
def N4{v:O.Val}(h:O.tupOf v=eh xs):v=.tup xs:=by
 cases v with
 |tup ys=>cases h;rfl
 |_=>cases h
variable {p:Pos} {ç:Pos} {e:Expr} {m:O.E}
def Ek{es:List Expr}{kk:Nat}{tp:Pos}(hK:X.K=i.K)(hg:Gl X "enumerate")(hm:X.mg "enumerate" = ei)(he:PE X e<|tE X i Φ m)(hs:Ô [e] X.env=[(ez,eval e X.env)]) :
  PI X (.Tuple es kk tp) (.Call (.Name "enumerate" p) [e] [] ç) (tIt X i Φ<|.enum m) :=
 (A4 hg hm (ZI he fO hs) hs).imp λσ H R ⟨env,G,QI,Em,p,w,c⟩=>by
  change tE X i Φ m σ H _;refine one p w λv G1 H1 x k1 p1 rx q=>?_;obtain⟨xs,e1,q2⟩:=eK q;clear q;cases N4 e1;rw[hK];cases rx with
  |tup hp hr=>exact⟨_,rfl,⟨_,Zk hp⟩,c _ _ G1 H1 _ k1 p1.hp (AW hp hr) q2⟩
def DI{p2 cJ:Pos}(hc:X.calm=ej)(hK:X.K=i.K)(he:PE X e<|tE X i Φ m)(hg:Gl X "len")(hm:X.mg "len" = ei)(hg2:Gl X "set")(hm2:X.mg "set" = ei)(ſ:Ô [e] X.env=[(ez,eval e X.env)]) :
  PE X (.Call (.Name "len" p) [.Call (.Name "set" p2) [e] [] cJ] [] ç) (tE X i Φ<|.bi .lenSet<|.cons m .nil):=by
 refine(Z4 UH hg hm (by kernel_rfl)<|ZI (Xh AT hg2 hm2 (by kernel_rfl) (ZI he fO ſ) (he:=ſ)) fO).imp λσ H Q ⟨env,G,Qm,Em,p,w,c⟩=>?_;change tE X i Φ m σ H _;refine one p w λv G1 H1 x k1 p1 r q=>?_
 replace q:(O.biLenSet G1 v).wp G1 Qm:=q
 unfold O.biLenSet at q;cases z:O.sortOf G1 v with
 |none=>rw[z]at q;exact(Zf q).elim
 |some ns =>
  rw[z]at q;dsimp only at q;split at q
  .rename_i h4;obtain⟨a,rfl,hs⟩:=MC p1.hp r z;refine⟨a,ns,rfl,by rw[hK];exact hs,h4,hc,λl S n hl hn=>?_⟩;have hn2:=hn.trans<|Eu ns;clear hn;subst hn2;have k2:fc H1<|upd H1 l<|.set S (O.dedup ns).length:=fc.new hl;refine⟨l,S,_,rfl,eC,?_⟩;exact c _ G1 _ _ (k1.trans k2) (WN p1.hp hl) (.int _)<|Zi q
  .exact(Zf q).elim
end Snd
namespace L2
open PySem PySem.Spec PyProof.Rows
open PySem.Builtin
section
variable {prog:à}{w:ó}{A:Ą}{E:Â->Å->Prop}
abbrev PairsH(I d:È)(items:Array Â)(aB:List<|Key×Â)(prog:à)(w:ó)(h:Ă):Prop:=∀(i:Nat) (v:Â),items[i]?=eh v->∃(a:È) (key:Â) (p:Key×Â),v=.ref a/\a≠I/\a≠d/\aB[i]?=eh p/\ah h a #[key,p.2]/\(Ze prog w).is p.1 key=ej
def PairsH.keep{I d:È}{items:Array Â}{aB:List (Key×Â)}{h h':Ă}(t:PairsH I d items aB prog w h)(k:∀b o,b≠I->b≠d->h.get? b=eh o->h'.get? b=eh o):PairsH I d items aB prog w h':=λi v e=>by obtain⟨a,key,p,h1,h2,h3,h4,⟨o,q1,q2⟩,h5⟩:=t i v e;exact⟨a,key,p,h1,h2,h3,h4,⟨o,k a o h2 h3 q1,q2⟩,h5⟩
end
def KV.all{kvs:List (Key×V)}{aB:List (Key×Â)}(r:KV kvs aB):∀{m:List (Key×V)}{n:List (Key×Â)},KV m n->KV (kvs.foldl (λm p=>fg m p.1 p.2) m) (aB.foldl (λm p=>stored m p.1 p.2) n):=by
 unfold KV at r;induction r with
 |nil=>exact λh=>h
 |cons q t ih =>intro m n h;rename_i a b l1 l2;obtain⟨k,x⟩:=a;obtain⟨k2,u⟩:=b;obtain⟨e,rx⟩:=q;cases (show k=k2 from e);exact ih<|h.put k rx
def MN:cu table "list_reverseiterator.__next__" = eh Builtin.«list_reverseiterator.__next__»:=entryFor_of_tree (by kernel_rfl)
def NJ(a:Â):ϡ "list_reverseiterator.__next__" ⟨[a],[]⟩:=by unfold ϡ;kernel_rfl
def slot_rnext:Slot "list_reverseiterator" "__next__" "list_reverseiterator.__next__" :=
 .of (owner:="list_reverseiterator") (n:="__next__") (by rw[Ϧ,Ž];kernel_rfl) (by decide +kernel) (by decide +kernel) (by decide +kernel)
  (by first|exact .inl (by decide +kernel)|exact .inr<|by decide +kernel) (by rw[Λ];kernel_rfl)
def Jn:Slot "list_reverseiterator" "__iter__" "list_reverseiterator.__iter__" :=
 .of (owner:="list_reverseiterator") (n:="__iter__") (by rw[Ϧ,Ž];kernel_rfl) (by decide +kernel) (by decide +kernel) (by decide +kernel)
  (by first|exact .inl (by decide +kernel)|exact .inr<|by decide +kernel) (by rw[Λ];kernel_rfl)
def DC:cu table "list_reverseiterator.__iter__" = eh Builtin.«dict_keyiterator.__iter__» :=
 cx (id':="dict_keyiterator.__iter__") (by kernel_rfl) (by first|rfl|decide +kernel|(unfold String.splitOn;simp +decide [String.splitOnAux])) (by decide +kernel) (by kernel_rfl)
def Dq(a:Â):ϡ "list_reverseiterator.__iter__" ⟨[a],[]⟩:=by unfold ϡ;kernel_rfl
abbrev RevIt(h:Ă)(it l:È)(k:Int):Prop:=∃o,h.get? it=eh o/\o.cls=.type "list_reverseiterator"/\o.data=.fields #[.ref l,.int k 0]
section
variable {prog:à}{w:ó}{A:Ą}{E:Â->Å->Prop}{s:Å}
variable {it:È} {l:È}
def RevIt.typeIs{k:Int}(h:RevIt s.heap it l k):s.TypeIs (.ref it) "list_reverseiterator":=by obtain⟨o,h1,h2,_⟩:=h;exact⟨o,h1,h2⟩
variable {Q:Option Â->Å->Prop}
def Cp{k:Nat}{items:Array Â}{x:Â}(bq:RevIt s.heap it l k)(hl:s.heap.IsList l items)(hx:items[k]?=eh x)
  (hQ:∀h',RevIt h' it l ((k:Int) - 1)->ś it s.heap h'->Q (eh x) {s with heap:=h'}):wpAny (Û prog w) A (ŵ<|.ref it) Q E s:=by
 have hT:=bq.typeIs;obtain⟨o,ho,hc,hd⟩:=id bq;obtain⟨ol,hol,_,nl,hdl⟩:=hl;unfold ŵ;refine À<|aj<|Đ (name:=gg "__next__") hT slot_rnext<|ĉ slot_rnext hT MN ?_<|NJ _;show wpAny _ _ (dq (.ref it) 1 >>= _) _ _ s;refine À<|Ħ ho hd (x:=.int k 0) rfl ?_;refine ī (λhab=>gc hab<|by lia) λ_=>?_;show wpAny _ _ (dq (.ref it) 0 >>= _) _ _ s;refine À<|Ħ ho hd (x:=.ref l) rfl ?_;show wpAny _ _ (ϖ (.ref l) >>= _) _ _ s;refine À<|ŀ hol hdl ?_;simp only[á,hx];refine À (Ĵ ho hd (by simp)<|Æ ⟨x,rfl,Æ<|hQ _ ?_<|û ..⟩);exact⟨_,Č _ ho<|ϗ<|ŏ hd _,(ae ..).trans hc,by
   rw[ŏ hd];simp[Ğ]⟩
def EC(hh:A.handled=ei)(bq:RevIt s.heap it l (-1))(hQ:∀h',Heap.ExtBut it s.heap h'->Q ei {s with heap:=h'}):wpAny (Û prog w) A (ŵ<|.ref it) Q E s:=by have hT:=bq.typeIs;obtain⟨o,ho,hc,hd⟩:=id bq;unfold ŵ;refine À<|aj<|Đ (name:=gg "__next__") hT slot_rnext<|ĉ slot_rnext hT MN ?_<|NJ _;show wpAny _ _ (dq (.ref it) 1 >>= _) _ _ s;refine À<|Ħ ho hd (x:=.int (-1) 0) rfl ?_;refine ī (λ_=>?_) (λhab=>gc (by decide) hab);refine À<|Θ ?_;refine À ?_;show wpAny _ _ (cg (.type "StopIteration") [] >>= _) _ _ _;refine À ?_;simp only[cg,newTuple];refine À (þ ?_<|by size_fits);refine À (m:=Ź _ _) (ϰ (a:=Value.none) (by first|rfl|(simp only[Ź];rfl)) ?_);refine þ ?_ (by size_fits);simp only[raiseNew];refine À<|cX ?_;rw[show A.in1.handled=ei from hh];refine À<|Æ<|wpAny_throw ?_;refine À<|Ϙ (T:="StopIteration") (b:=ej) ⟨_,Ñ _ rfl,rfl⟩ cj ?_;exact Æ (hQ _ λb o _ e=>Ä _<|Ä _ e)
def Bs{k:Int}{Q:Â->Å->Prop}(bq:RevIt s.heap it l k)(h:Q (.ref it) s):wpAny (Û prog w) A (b7<|.ref it) Q E s:=by have hT:=bq.typeIs;refine aM hT Jn<|ĉ Jn hT DC ?_<|Dq _;show wpAny _ _ (ret<|.ref it) _ _ s;exact Æ ⟨_,rfl,"list_reverseiterator",_,hT,slot_rnext.lookup,h⟩
end
def Walks.rev{prog:à}{w:ó}{A:Ą}(hh:A.handled=ei)(I ax:È)(Ŵ:ax≠I)(items:Array Â) :
  Walks prog w A I [I,ax] [I] items.size (λi v=>items[items.size - 1 - i]?=eh v) (λi h=>RevIt h I ax ((items.size:Int) - 1 - i)/\h.IsList ax items) where
 sub:=λb hb=>by simp at hb;simp[hb]
 frame:=λ_ _ _ st hk=>⟨by obtain⟨o,h1,h2⟩:=st.1;exact⟨o,hk I (by simp) o h1,h2⟩,st.2.at λo e=>hk ax (by simp) o e⟩
 item:=λi s Q E hi st hQ=>by
  have e:(items.size:Int) - 1 - i=((items.size - 1 - i:Nat):Int):=by lia
  rw[e]at st;have Ϥ:items.size - 1 - i<items.size:=by lia
  refine Cp st.1 st.2 (x:=items[items.size - 1 - i]) (by simp[Ϥ]) λh' hit' hs'=>?_;exact hQ _ h' s.toks (by simp[Ϥ]) ⟨by rw[show(items.size:Int) - 1 - ((i+1:Nat):Int)=((items.size - 1 - i:Nat):Int) - 1 by lia];exact hit',st.2.extBut hs'.extBut Ŵ⟩ λb o hb e=>hs'.extBut b o (λh=>hb<|by simp[h]) e
 done:=λs Q E st hQ=>by rw[show(items.size:Int) - 1 - (items.size:Nat)=-1 by lia]at st;exact EC hh st.1 λh' he'=>hQ h' s.toks λb o hb e=>he' b o (λh=>hb<|by simp[h]) e
 self:=λ_ _ _ _ st hQ=>Bs st.1 hQ
end L2
namespace L2
open PySem
@[reducible] noncomputable def Ris(xs:Array Nat):Prop:=xs.toList.Pairwise (· < ·)
abbrev NP(xs:Array Nat)(j lo:Nat):Prop:=lo<=xs.size/\(∀k x,k<lo->xs[k]?=eh x->x<j)/\∀k x,lo<=k->xs[k]?=eh x->j<=x
variable {xs:Array Nat} {a:Nat} {b:Nat} {x:Nat}
def XR(h:Ris xs){y:Nat}(hab:a<b)(ha:xs[a]?=eh x)(hb:xs[b]?=eh y):x<y:=by rw[<-ą]at ha hb;obtain⟨h1,rfl⟩:=Ð.mp ha;obtain⟨h2,rfl⟩:=Ð.mp hb;exact List.pairwise_iff_getElem.mp h a b h1 h2 hab
def JJ{xs:Array Nat}(h:Ris xs){j:Nat}:∀(f lo hi:Nat),hi - lo<=f->lo<=hi->hi<=xs.size->(∀k x,k<lo->xs[k]?=eh x->x<j)->(∀k x,hi<=k->xs[k]?=eh x->j<=x)->NP xs j (aN xs j f lo hi)
 |0,lo,hi,h1,h2,h3,h4,h5=>by
  have e:lo=hi:=by lia
  subst e;exact⟨h3,h4,h5⟩
 |f+1,lo,hi,h1,h2,h3,h4,h5=>by
  unfold aN;by_cases hl:lo<hi
  .rw[f6 hl];dsimp only;have hm:(lo+hi) / 2<xs.size:=by lia
   have hx:xs[(lo+hi) / 2]?=eh xs[(lo+hi) / 2]:=ö hm;have hg:xs.getD ((lo+hi) / 2) j=xs[(lo+hi) / 2]:=by simp[ι,hm]
   rw[hg];by_cases hc:xs[(lo+hi) / 2]<j
   .rw[f6 hc];refine JJ h f _ _ (by lia) (by lia) h3 (λk x hk hkx=>?_) h5;by_cases hkm:k=(lo+hi) / 2
    .subst hkm;rw[hx]at hkx;cases hkx;exact hc
    .exact Ű (XR h (by lia) hkx hx) hc
   .rw[f7 hc];refine JJ h f _ _ (by lia) (by lia) (by lia) h4 λk x hk hkx=>?_;by_cases hkm:k=(lo+hi) / 2
    .subst hkm;rw[hx]at hkx;cases hkx;lia
    .exact Ý (Nat.not_lt.mp hc) (η<|XR h (by lia) hx hkx)
  .rw[f7 hl];have e:lo=hi:=by lia
   subst e;exact⟨h3,h4,h5⟩
def MP(h:Ris xs)(j:Nat):NP xs j<|Ķ xs j:=by unfold Ķ;refine JJ h xs.size 0 xs.size (by lia) (by lia) (by lia) (λk x hk=>by lia) λk x hk hkx=>?_;rw[Ρ hk]at hkx;cases hkx
variable {j:Nat}
def Bf(ha:NP xs j a)(hb:NP xs j b):a=b:=by
 obtain⟨a1,a2,a3⟩:=ha;obtain⟨b1,b2,b3⟩:=hb;rcases Nat.lt_trichotomy a b with h|h|h
 .have hx:=ö (xs:=xs) (i:=a) (by lia);have:=b2 a _ h hx;have:=a3 a _ (Ì _) hx;lia
 .exact h
 .have hx:=ö (xs:=xs) (i:=b) (by lia);have:=a2 b _ h hx;have:=b3 b _ (Ì _) hx;lia
def UZ(h:Ris xs){i:Nat}(hx:xs[i]?=eh x):NP xs (x+1)<|i+1:=by
 have hi:i<xs.size:=(ĸ.mp hx).1;refine⟨hi,λk y hk hky=>?_,λk y hk hky=>XR h (by lia) hx hky⟩;by_cases e:k=i
 .subst e;rw[hx]at hky;cases hky;lia
 .have:=XR h (show k<i by lia) hky hx;lia
def UO(xs:Array Nat):NP xs 0 0:=⟨į _,λk x hk=>by lia,λ_ _ _ _=>į _⟩
def F4(h:Ris xs)(hn:xs[Ķ xs j]?≠eh j):Ris<|SetTable.insertAt xs (Ķ xs j) j:=by
 obtain⟨c1,c2,c3⟩:=MP h j;generalize Ķ xs j=p at c1 c2 c3 hn;unfold Ris;rw[SetTable.toList_insertAt];have hs:(xs.toList.take p++xs.toList.drop p).Pairwise (· < ·):=by rw[List.take_append_drop];exact h
 obtain⟨h1,h2,h3⟩:=cL.mp hs;have hlo:∀a∈xs.toList.take p,a<j:=λa ha=>by obtain⟨k,hk,rfl⟩:=List.mem_take_iff_getElem.mp ha;refine c2 k _ (by lia) ?_;rw[<-ą];exact Ê _
 have hhi:∀a∈xs.toList.drop p,j<a:=λa ha=>by
  obtain⟨k,e⟩:=cr.mp ha;rw[List.getElem?_drop,ą]at e;have:=c3 (p+k) _ (by lia) e;rcases Nat.lt_or_ge j a with q|q
  .exact q
  .exfalso;have e2:a=j:=by lia
   subst e2;by_cases k0:k=0
   .subst k0;exact hn e
   .have hp:xs[p]?=eh (xs[p]'(by have:=(ĸ.mp e).1;lia)):=ö _;have:=XR h (show p<p+k by lia) hp e;have:=c3 p _ (Ì _) hp;lia
 exact cL.mpr ⟨h1,dz.mpr ⟨hhi,h2⟩,λa ha b hb=>by
   rcases Ç.mp hb with rfl|hb
   . exact hlo a ha
   . exact Ű (hlo a ha)<|hhi b hb⟩
structure Tb(b:Bool)(t:Ū):Prop where
 led:b=ez->t.led=ej
 ris:Ris t.place
 dum:t.dummies=#[]
def Nq{t:Ū}{f:Nat->Int}{h:Int}(hd:t.dummies=#[]):∀(n:Nat) (p:SetTable.Probe) (j:Nat) (d:Option Nat),p.dummy=ei->ϊ t f h n p=eh (.empty j d)->t.slot j=.empty/\d=ei
 |0,p,j,d,h0,e=>by unfold ϊ at e;cases e
 |n+1,p,j,d,h0,e=>by
  unfold ϊ at e;cases hs:t.slot p.j with
  |empty =>rw[hs]at e;dsimp only at e;injection e with e;injection e with e1 e2;subst e1;exact⟨hs,e2▸h0⟩
  |dummy =>
   exfalso;unfold d6 at hs;dsimp only at hs;split at hs
   .cases hs
   .rw[hd]at hs;simp[aW]at hs
  |live i =>
   rw[hs]at e;dsimp only at e;split at e
   .cases e
   .refine Nq hd n _ j d ?_ e;unfold SetTable.advance;split
    .exact h0
    .exact h0
def DU{t:Ū}(hd:t.dummies=#[]){h:Int}{b:Bool}(e:t.freeSlot h=eh (j,b)):t.place[Ķ t.place j]?≠eh j:=by
 unfold SetTable.freeSlot at e;split at e
 .rename_i k d hp;obtain⟨h1,h2⟩:=Nq hd _ _ _ _ rfl hp;subst h2;injection e with e;injection e with e1 e2;have e1:k=j:=e1;subst e1;unfold d6 at h1;dsimp only at h1;split at h1
  .cases h1
  .rename_i hq;exact λz=>hq (by rw[z];exact beq_self_eq_true _)
 .cases e
def X9{b:Bool}{t:Ū}(h:Tb b t)(n:Nat):Tb b (t.standIn n) :=
 ⟨h.led,by show(Array.range n).toList.Pairwise _;rw[Array.toList_range];exact bT,rfl⟩
def LJ{b:Bool}{t:Ū}(h:Tb b t)(es:Array<|Int×Â)(k:Int)(x:Â):Tb b (layNew t es k x).2.1:=by
 unfold layNew;split
 .rename_i slot wd hf;show Tb b (bU _ _);have hp:Tb b (t.put slot).1:=by
   refine⟨h.led,F4 h.ris<|DU h.dum hf,?_⟩;show(if aW t.dummies slot then _ else t.dummies)=#[];rw[h.dum];simp[aW]
  unfold bU;split
  .exact hp
  .exact X9 hp _
 .exact X9 h _
def A3{b:Bool}{t:Ū}(h:Tb b t)(es:Array<|Int×Â)(n:Nat):Tb b (relayAll t es n).2.1:=by
 unfold relayAll;split
 .rename_i t' order hr;dsimp only;split
  .unfold SetTable.relaid SetTable.laid at hr;cases hl:SetTable.layClean (SetTable.sizeAbove n - 1) (es.map (·.1))with
   |none=>rw[hl]at hr;cases hr
   |some owner =>rw[hl]at hr;cases hr;refine⟨h.led,?_,rfl⟩;show List.Pairwise _ (List.toArray _).toList;refine List.pairwise_map.mpr<|List.pairwise_filterMap.mpr ?_;refine bT.imp λ{a c} hac x hx y hy=>?_;obtain⟨_,_,rfl⟩:=Î.mp hx;obtain⟨_,_,rfl⟩:=Î.mp hy;exact hac
  .exact X9 h _
 .exact X9 h _
end L2
namespace L2
open PySem PySem.Spec PyProof.Rows
section
variable (prog:à) (w:ó)
noncomputable abbrev byT:Bool:=w.params.followText "set-order"
abbrev SetI(h:Ă)(a:È)(l:List Int):Prop:=∃o es ep t es0,h.get? a=eh o/\o.ExactSet/\o.data=.set es ep t/\ElemsOf (Ŕ prog w) es.toList/\es.size<ab/\t.fits es.size=ej/\
 Tb (byT w) t/\es.toList.Perm es0/\ù (es0.map (·.2)) l
end
def XC:∀{vs:List Â}{ns:List Int},ù vs ns->vs.length=ns.length
 |_,_,.nil=>rfl
 |_,_,.cons _ _ r=>congrArg (· + 1)<|XC r
def O0:∀{vs:List Â}{ns:List Int}(n:Int) (t:Tok),ù vs ns->ù (vs++[.int n t]) (ns++[n])
 |_,_,n,t,.nil=>.cons n t .nil
 |_,_,n,t,.cons m u r=>.cons m u<|O0 n t r
def Ox{P:à}{w:ó}{n:Int}:∀{vs:List Â}{ns:List Int},ù vs ns->(n∈ns↔∃v∈vs,(Ŕ P w).is n v=ej)
 |_,_,.nil=>by simp
 |_,_,.cons m u r=>by
  have h:=Ox (P:=P) (w:=w) (n:=n) r;have hk:(Ŕ P w).is n (.int m u)=gf (n=m):=KeyKind.is_eq_decide (intKind_is P w m u) n;rw[Ç,h];constructor
  .rintro(rfl|⟨v,hv,e⟩)
   .exact⟨_,ì,by rw[hk];simp⟩
   .exact⟨v,Ü _ hv,e⟩
  .rintro⟨v,hv,e⟩;rcases Ç.mp hv with rfl|hv
   .rw[hk]at e;exact .inl (by simpa using e)
   .exact .inr ⟨v,hv,e⟩
variable {h:Ă} {a:È} {l:List Int}
def SetI.setOf{P:à}{w:ó}(x:SetI P w h a l):h.SetOf (Ŕ P w) a (λk=>gf (k∈l)) l.length:=by
 obtain⟨o,es,ep,t,es0,h1,h2,h3,h4,h5,h6,h7,h8,h9⟩:=x;refine⟨o,es,ep,t,h1,h2,h3,h4,λk=>?_,h5,h6,?_⟩
 .rw[decide_eq_true_iff,Ox (P:=P) (w:=w) h9];constructor
  .rintro⟨v,hv,e⟩;obtain⟨x,hx,rfl⟩:=Ú.mp hv;exact⟨x,h8.mem_iff.mpr hx,e⟩
  .rintro⟨x,hx,e⟩;exact⟨_,Ú.mpr ⟨x,h8.mem_iff.mp hx,rfl⟩,e⟩
 .rw[<-XC h9,Ã,<-h8.length_eq,î]
section
variable {prog:à}{w:ó}{A:Ą}{E:Â->Å->Prop}{s:Å}
def Us{o:Obj}{es es':Array (Int×Â)}{ep:Nat}{t t':Ū}(ho:h.get? a=eh o)(hd:o.data=.set es ep t) :
  (h.update a<|d7 es' t').get? a=eh {o with data:=.set es' (ep+1) t'}:=by
 have z:=Č (d7 es' t') ho (by rw[putSet_of es' t' hd];rfl)
 rwa [putSet_of es' t' hd]at z
def add_int{n:Int}{tk:Tok}{Q:Bool->Å->Prop}(hS:SetI prog w s.heap a l)(hroom:l.length+1<ab)
  (k:∀h' b,ś a s.heap h'->SetI prog w h' a (Ŗ l n)->Q b {s with heap:=h'}):wpAny (Û prog w) A (setAddHashed a (.int n tk)<|(Ŕ prog w).hash n) Q E s:=by
 have hlen:=hS.setOf;obtain⟨o,es,ep,t,es0,ho,hex,hd,hel,hb,hf,ht,hp,hi⟩:=id hS;have hsz:es.size=l.length:=by rw[<-XC hi,Ã,<-hp.length_eq,î]
 have hkey:(Ŕ prog w).is n (.int n tk)=ej:=intKind_is _ _ _ _;unfold setAddHashed setAddHashedIn;refine ė<|À<|ŝ ho hd hf ?_;dsimp only;rw[byScan_of rfl hb hel];simp only[↓reduceIte];unfold setAddByScan;refine À<|À<|Θ<|À<|wpAny_setScan_of hkey ho hd hf hel ?_;have hm:n∈l↔∃e∈es.toList,(Ŕ prog w).is n e.2=ej:=by
  rw[Ox (P:=prog) (w:=w) hi];constructor
  .rintro⟨v,hv,e⟩;obtain⟨x,hx,rfl⟩:=Ú.mp hv;exact⟨x,hp.mem_iff.mpr hx,e⟩
  .rintro⟨x,hx,e⟩;exact⟨_,Ú.mpr ⟨x,hp.mem_iff.mp hx,rfl⟩,e⟩
 cases hr:List.findIdx? (λe=>(Ŕ prog w).is n e.2) es.toList with
 |some j =>
  obtain⟨hj,hpj,_⟩:=List.findIdx?_eq_some_iff_getElem.mp hr;have hn:n∈l:=hm.mpr ⟨_,Ŝ hj,hpj⟩;have e1:Ŗ l n=l:=by unfold Ŗ;rw[f6<|ak.mpr ⟨n,hn,by simp⟩]
  rw[e1]at k;exact Æ<|Æ<|k s.heap ez (Heap.SameBut.refl a s.heap) hS
 |none =>
  have hn:n∉l:=λz=>by obtain⟨e,he,q⟩:=hm.mp z;have:=List.findIdx?_eq_none_iff.mp hr e he;rw[q]at this;cases this
  have e1:Ŗ l n=l++[n]:=by
   unfold Ŗ;rw[f7];intro z;obtain⟨m,hm,q⟩:=ak.mp z;have q:m=n:=by simpa using q
   exact hn<|q▸hm
  rw[e1]at k;have l1:=layNew_perm t es ((Ŕ prog w).hash n)<|.int n tk;have l2:=layNew_fits t es ((Ŕ prog w).hash n)<|.int n tk;have l3:=LJ ht es ((Ŕ prog w).hash n)<|.int n tk;dsimp only;generalize hL:layNew t es ((Ŕ prog w).hash n) (.int n tk)=L at l1 l2 l3 ⊢;obtain⟨bX,t1,wd,gv⟩:=L;dsimp only at l1 l2 l3 ⊢;rw[dA]at l1;have i1:ù ((es0++[((Ŕ prog w).hash n,Value.int n tk)]).map (·.2))<|l++[n]:=by rw[ß];exact O0 n tk hi
  have p1:bX.toList.Perm<|es0++[((Ŕ prog w).hash n,Value.int n tk)]:=l1.trans<|hp.append_right _;have hel1:ElemsOf (Ŕ prog w) bX.toList:=(hel.push hkey rfl).perm l1;have hs1:bX.size=l.length+1:=by rw[<-î,l1.length_eq,ê,î,hsz];rfl
  have fin:∀(h':Ă) (o':Obj) (ep':Nat) (es':Array<|Int×Â) (t':Ū),ś a s.heap h'->h'.get? a=eh o'->o'.ExactSet->o'.data=.set es' ep' t'->es'.toList.Perm bX.toList->t'.fits es'.size=ej->Tb (byT w) t'->∀b,Q b {s with heap:=h'}:=λh' o' ep' es' t' sb g1 g2 g3 g4 g5 g6 b=>by refine k h' b sb ⟨o',es',ep',t',_,g1,g2,g3,hel1.perm g4,?_,g5,g6,g4.trans p1,i1⟩;rw[<-î,g4.length_eq,î,hs1];exact hroom
  have hz1:bX.size<=Ù:=aO (by rw[hs1];exact hroom);have g0:∀(b:Bool){Ě:Å}{Q':Unit->Å->Prop},Q' () Ě->wpAny (Û prog w) A (match b with|true=>rule "set.scan.the-table-gave-way" | false=>pure ()) Q' E Ě :=
   λb Ě Q' hq=>by cases b<;>first|exact Æ hq|exact Θ hq
  refine À<|g0 _ ?_;have bv:hashByValue 8 (.int n tk)=(pure ej:Sem Bool):=hashByValue_scannable 8 rfl;rw[bv,ite_self];refine À<|Æ ?_;simp only[↓reduceIte];refine À<|wpAny_storeSet_of ho hd ?_ hz1;have ho1:=Us (es':=bX) (t':=t1) ho hd;have sb1:=û s.heap a<|d7 bX t1;split
  .have r1:=relayAll_perm t1 bX<|ϋ bX.size;have r2:=relayAll_fits t1 bX<|ϋ bX.size;have r3:=A3 l3 bX<|ϋ bX.size;generalize relayAll t1 bX (ϋ bX.size)=R at r1 r2 r3 ⊢;obtain⟨es2,t2,gv2⟩:=R;dsimp only at r1 r2 r3 ⊢;refine À<|g0 _ ?_;refine À (wpAny_storeSet_of ho1 rfl ?_<|by rw[<-î,r1.length_eq,î];exact hz1);exact Æ<|Æ<|fin _ _ _ es2 t2 (sb1.trans<|û _ a _) (Us ho1 rfl) hex rfl r1 r2 r3 _
  .exact Æ<|Æ<|fin _ _ _ bX t1 sb1 ho1 hex rfl .rfl l2 l3 _
end
def SetI.at{P:à}{w:ó}{h h':Ă}{a:È}{l:List Int}(x:SetI P w h a l)(k:∀o,h.get? a=eh o->h'.get? a=eh o):SetI P w h' a l:=by obtain⟨o,es,ep,t,es0,h1,h2⟩:=x;exact⟨o,es,ep,t,es0,k _ h1,h2⟩
section
variable {prog:à}{w:ó}{A:Ą}{R:bc->Å->Prop}{I:È}{fp wr:List È}{G:Array bY->Array bY->Prop}{n:Nat}{P:Nat->Â->Prop}{St:Nat->Å->Prop}
def AV(W:WalksS prog w A.in1 I fp wr G n P St)(S:È)(hS:S∉fp)(val:Nat->Int)(hv:∀i v,P i v->∃t,v=.int (val i) t)(hb:n+1<ab) :
  ∀(k i:Nat) (s:Å),n - i=k->i<=n->St i s->SetI prog w s.heap S (Ÿ val i)->(∀s',Moved (S::wr) G s s'->SetI prog w s'.heap S (Ÿ val n)->R (.ok<|.ret .none) s')->
   codeAny (Û prog w) A (.builtin "set.update.loop" ⟨[.ref S,.ref I],[]⟩) R s:=by
 have nw:S∉wr:=λz=>hS<|W.sub _ z;intro k;induction k with
 |zero =>
  intro i s h1 h2 st x r;obtain rfl:i=n:=by lia
  refine Ī F.entry_set_update_loop ?_;rw[č F.plain_set_update_loop _];show wpAny _ A.in1 (ŵ (.ref I) >>= _) _ _ s;refine À<|W.done s _ _ st λs' m=>?_;exact Æ<|r s' (m.mono λb hb=>Ü _ hb)<|x.at λo e=>m.heap S _ nw e
 |succ k ih =>
  intro i s h1 h2 st x r;have hi:i<n:=by lia
  refine Ī F.entry_set_update_loop ?_;rw[č F.plain_set_update_loop _];show wpAny _ A.in1 (ŵ (.ref I) >>= _) _ _ s;refine À<|W.item i s _ _ hi st λv s' p dI m=>?_;obtain⟨t,rfl⟩:=hv i v p;show wpAny _ A.in1 (Ŋ [Value.int (val i) t] (setAdd S<|.int (val i) t) >>= _) _ _ s';refine À<|ė ?_;unfold setAdd;refine ė<|À<|(Ŕ prog w).pyHash (k:=val i) (intKind_is _ _ _ _) ?_;refine add_int (s:={s' with toks:=s'.toks+1}) (x.at λo e=>m.heap S _ nw e) (by have:=aq val i;lia) λh' b sb x'=>?_;rw[<-firstMet_succ]at x';refine Æ ⟨ň F.plain_set_update_loop _,ih (i+1) _ (by lia) hi (W.frame _ s' _ _ dI (Ń _) λb hb o e=>?_) x' λs'' m'' x''=>r s'' ?_ x''⟩
  .rw[sb.2 b λz=>hS<|z▸hb];exact e
  .refine Moved.trans W.gtrans ((m.mono λb hb=>Ü _ hb).then_heap (Ń _) λb o hb e=>?_) m'';rw[sb.2 b λz=>hb<|z▸ì];exact e
end
section
variable {prog:à}{w:ó}{A:Ą}{E:Â->Å->Prop}{s:Å}
noncomputable abbrev W1(b:Bool):Obj:={cls:=.type "set",dict:=ei,data:=.set #[] 0 (.fresh 0 0 !b)}
variable {Q:Â->Å->Prop}
def Fd(a:Â)(h:Q (.ref s.heap.objs.size) {s with heap:=s.heap.push (W1<|byT w)}) :
  codeAny (Û prog w) A (.call (.builtin "set.__new__") ⟨[.type "set",a],[]⟩) (wants Q E) s:=by
 refine codeAny_of_tree ?_;show wpAny _ A.in1 (do checkBuiltinCall "set.__new__" ⟨[.type "set",a],[]⟩;again (.builtin "set.__new__" ⟨[.type "set",a],[]⟩)) _ _ s;refine À<|ϰ (F.newCall_set_1 a)<|Æ ⟨ň F.plain_set_new _,Ī F.entry_set_new ?_⟩;rw[č F.plain_set_new _];unfold Builtin.«set.__new__» Builtin.Frozenset.newClass;have hsub:=sub_set_self;obtain⟨hp,g,d,tk,os⟩:=s;dsimp only
 wp_walk
 refine Ť<|Æ ?_;dsimp only;simp only[newObj];exact À<|wpAny_alloc<|Æ<|Æ h
def CG{l:È}{items:Array Â}{ns:List Int}(hh:A.handled=ei)(hl:s.heap.IsList l items)(hi:ù items.toList ns)(hb:items.size+1<ab)
  (h:∀(h':Ă) (tk:Nat),SetI prog w h' s.heap.objs.size (Ÿ (λi=>ns.getD i 0) items.size)->(∀b o,s.heap.get? b=eh o->h'.get? b=eh o)->Q (.ref s.heap.objs.size) {s with heap:=h',toks:=tk}) :
  wpAny (Û prog w) A (call (.type "set") [.ref l]) Q E s:=by
 obtain⟨c,tl,hmro⟩:=F.called_set.mro;have hmade:=F.called_set.made;have hsub:=F.called_set.sub;have h1:=F.called_set.notType;have h2:=F.called_set.canCreate;have hct:=F.typeCall_set_1<|.ref l;refine wpAny_call<|codeAny_of_tree ?_;show wpAny _ _ (callAny (.type "set") _) _ _ _;refine Æ ⟨Code.quiet_builtin _ (by decide +kernel),Ī F.entry_type_call ?_⟩;rw[Around.under_plain (weight_type_call_type "set" [.ref l] []) rfl]
 repeat (any_goals (first|assumption|wp_step))
 refine Ŷ (Fd (.ref l) (E:=E) (Q:=λv s1=>v=.ref s.heap.objs.size/\s1={s with heap:=s.heap.push (W1<|byT w)}) ⟨rfl,rfl⟩) λr s1 hr=>?_;cases r with
 |error e=>exact hr
 |ok fl =>
  cases fl with
  |ret obj =>
   obtain⟨rfl,rfl⟩:=hr;have hS:(s.heap.push<|W1<|byT w).get? s.heap.objs.size=eh (W1<|byT w):=Ñ _ rfl;have hT:Shared.TypeIs {s with heap:=s.heap.push (W1<|byT w)} (.ref s.heap.objs.size) "set":=⟨_,hS,rfl⟩
   have hli:=F.called_set.init.lookup;have hbi:=F.called_set.init.bind<|.ref s.heap.objs.size
   repeat (any_goals (first|assumption|wp_step))
   refine Ŷ (codeAny_call_builtin (R:=wants (λr s2=>r=.none/\∃h' tk,s2={ s with heap:=h',toks:=tk }/\SetI prog w h' s.heap.objs.size (Ÿ (λi=>ns.getD i 0) items.size)/\∀b o,s.heap.get? b=eh o->h'.get? b=eh o) E)
     F.called_set.init.plain F.entry_set_init (check_set_init_1 hT ?_)) λr s2 hr=>?_
   .have hlS:l<s.heap.objs.size:=by obtain⟨_,e,_⟩:=hl;exact Ó e
    have hl1:(s.heap.push<|W1<|byT w).IsList l items:=hl.push _;obtain⟨ol,hol,aH,nl,hdl⟩:=id hl1;obtain⟨ocls,odict,odata,oslots⟩:=ol;simp only at aH hdl;subst aH hdl;have hsls:=F.sub_list_set;have hslf:=F.sub_list_frozenset;have Ŵ:(Value.type "list" == Value.type "dict")=ez:=by decide
    unfold Builtin.«set.__init__» noKeywords Builtin.Frozenset.updateFrom;generalize hPI:b7=PI
    wp_walk
    subst hPI;refine Ω hl1<|À<|wpAny_runValue ?_;have hh3:A.in1.in1.in1.handled=ei:=by simp[hh]
    have zs:(s.heap.push<|W1<|byT w).objs.size=s.heap.objs.size+1:=Ŭ ..;refine AV ((Walks.list hh3 _ l (by rw[zs];exact ä<|ĳ hlS) items).toS) s.heap.objs.size (by rw[zs];simp only[Ç,Þ,or_false,not_or];exact⟨ä<|ĭ _,ş hlS⟩) (λi=>ns.getD i 0) (λi v hv=>IntsAre.int_at hi i v<|by rw[ą];exact hv) hb (items.size - 0) 0 _ (by lia) (į _)
     ⟨⟨_,Ñ _ rfl,rfl,rfl⟩,hl1.push _⟩ ?_ ?_
    .refine⟨_,#[],0,_,[],Ä _ hS,⟨rfl,rfl,rfl⟩,rfl,λe he=>by simp at he,by show 0<ab;unfold ab;lia,rfl,⟨λz=>by show(!byT w)=ej;rw[z];rfl,.nil,rfl⟩,.nil,.nil⟩
    .intro s' m x;obtain⟨h',g',d',tk',os'⟩:=s';have eg:g'=s.gens:=m.gens;have ed:d'=s.drawn:=m.drawn;have eo:os'=s.os:=m.os;subst eg ed eo;refine Æ ?_;show wpAny _ _ (ret Value.none) _ _ _;refine Æ ⟨rfl,h',tk',rfl,x,λb o e=>?_⟩;have hb:=Ó e;exact m.heap b o (by rw[zs];simp only[Ç,Þ,or_false,not_or];exact⟨ä hb,ä<|ĳ hb⟩)<|Ä _<|Ä _ e
   .cases r with
    |error e=>exact hr
    |ok fl =>
     cases fl with
     |ret r =>
      obtain⟨rfl,h',tk,rfl,x,hk⟩:=hr
      repeat (any_goals (first|assumption|wp_step))
      exact h _ _ x hk
     |_=>exact hr.elim
  |_=>exact hr.elim
end
end L2
namespace L2
open PySem PySem.Spec PyProof.Rows
open PySem.Builtin
def AQ:cu table "set.__iter__" = eh Builtin.«frozenset.__iter__»:=cx (id':="frozenset.__iter__") (by kernel_rfl) rfl (by decide +kernel) (by kernel_rfl)
def Cv:cu table "set_iterator.__next__" = eh Builtin.«set_iterator.__next__»:=entryFor_of_tree (by kernel_rfl)
def CA(a:Â):ϡ "set_iterator.__next__" ⟨[a],[]⟩:=by unfold ϡ;kernel_rfl
def slot_snext:Slot "set_iterator" "__next__" "set_iterator.__next__" :=
 .of (owner:="set_iterator") (n:="__next__") (by rw[Ϧ,Ž];kernel_rfl) (by decide +kernel) (by decide +kernel) (by decide +kernel)
  (by first|exact .inl (by decide +kernel)|exact .inr<|by decide +kernel) (by rw[Λ];kernel_rfl)
def Jd:Slot "set_iterator" "__iter__" "set_iterator.__iter__" :=
 .of (owner:="set_iterator") (n:="__iter__") (by rw[Ϧ,Ž];kernel_rfl) (by decide +kernel) (by decide +kernel) (by decide +kernel)
  (by first|exact .inl (by decide +kernel)|exact .inr<|by decide +kernel) (by rw[Λ];kernel_rfl)
def A0:cu table "set_iterator.__iter__" = eh Builtin.«dict_keyiterator.__iter__»:=cx (id':="dict_keyiterator.__iter__") (by kernel_rfl) rfl (by decide +kernel) (by kernel_rfl)
def B2(a:Â):ϡ "set_iterator.__iter__" ⟨[a],[]⟩:=by unfold ϡ;kernel_rfl
def Xw{α:Type}:∀{l:List α}{i:Nat}(h:i<l.length),(l[i]::l.eraseIdx i).Perm l
 |a::l,0,h=>.rfl
 |a::l,i+1,h=>(List.Perm.swap a _ _).trans<|(Xw (l:=l)<|Nat.lt_of_succ_lt_succ h).cons a
def O7{α:Type}(f:Nat->Nat):∀(n k:Nat) (l:List α) (out:Array α),l.length=n->(aP f n k l out).toList.Perm (out.toList++l)
 |0,k,l,out,h=>by
  cases l with
  |nil=>unfold aP;simp
  |cons _ _=>cases h
 |n+1,k,l,out,h=>by unfold aP;have Ϥ:f k % l.length<l.length:=Nat.mod_lt _ (by lia);rw[Ê Ϥ];dsimp only;refine(O7 f n (k+1) _ _<|by rw[aX Ϥ];lia).trans ?_;rw[dA,ı];exact(Xw Ϥ).append_left _
def AC{α:Type}(f:Nat->Nat)(xs:Array α):(pickOrder f xs).toList.Perm xs.toList:=by unfold pickOrder;simpa using O7 f xs.size 0 xs.toList #[] (by simp)
section
variable {prog:à}{w:ó}{A:Ą}{E:Â->Å->Prop}{s:Å}
variable {n:Nat}
def UV{src:Source}{Q:Nat->Å->Prop}(hn:0<n)(h:∀k d,k<n->Q k {s with drawn:=d}):wpAny (Û prog w) A (choose src n) Q E s :=
 λ_ _ _=>⟨ş hn,h _ _<|Nat.mod_lt _ hn⟩
def Nc{α:Type}:∀(n:Nat) (xs:List α){s:Å}{Q:List α->Å->Prop},xs.length=n->(∀ys d,ys.Perm xs->Q ys {s with drawn:=d})->wpAny (Û prog w) A (dB n xs) Q E s
 |0,[],s,Q,_,h=>by unfold dB;exact Æ<|h [] s.drawn .nil
 |0,_::_,_,_,h,_=>by cases h
 |n+1,[],_,_,h,_=>by cases h
 |n+1,x::xs,s,Q,hl,h=>by unfold dB;refine À (UV (by simp) λk d hk=>?_);rw[Ê hk];dsimp only;refine À (Nc n _ (by rw[aX hk];lia) λys d2 hp=>Æ<|h _ d2 ?_);exact(hp.cons _).trans<|Xw hk
abbrev SetIt(h:Ă)(it a:È)(f:Â)(i n ep:Nat):Prop:=∃o,h.get? it=eh o/\o.cls=.type "set_iterator"/\o.data=.fields #[f,.int i 0,.ref a,.int n 0,.int ep 0]
variable {it:È} {a:È} {f:Â} {i:Nat} {ep:Nat}
def SetIt.typeIs(h:SetIt s.heap it a f i n ep):s.TypeIs (.ref it) "set_iterator":=by obtain⟨o,h1,h2,_⟩:=h;exact⟨o,h1,h2⟩
structure SetO(h:Ă)(a:È)(o:Obj)(es:Array<|Int×Â)(ep:Nat)(t:Ū):Prop where
 at_:h.get? a=eh o
 dat:o.data=.set es ep t
 fit:t.fits es.size=ej
def Nf{Q:Â->Å->Prop}(bq:SetIt s.heap it a f i n ep)(h:Q (.ref it) s):wpAny (Û prog w) A (b7<|.ref it) Q E s:=by have hT:=bq.typeIs;refine aM hT Jd<|ĉ Jd hT A0 ?_<|B2 _;show wpAny _ _ (ret<|.ref it) _ _ s;exact Æ ⟨_,rfl,"set_iterator",_,hT,slot_snext.lookup,h⟩
variable {Q:Option Â->Å->Prop}
def Ud(hh:A.handled=ei)(hQ:∀h',(∀b o,s.heap.get? b=eh o->h'.get? b=eh o)->Q ei {s with heap:=h'}) :
  wpAny (Û prog w) A (do raiseNew (<-cg (.type "StopIteration") []):Sem Fin) (λ_ _=>False) (λe s'=>∃h',(∀b o,s.heap.get? b=eh o->h'.get? b=eh o)/\s'={s with heap:=h'}/\s'.TypeIs e "StopIteration") s:=by
 show wpAny _ _ (cg (.type "StopIteration") [] >>= _) _ _ _;refine À ?_;simp only[cg,newTuple];refine À (þ ?_<|by size_fits);refine À (m:=Ź _ _) (ϰ (a:=Value.none) (by first|rfl|(simp only[Ź];rfl)) ?_);refine þ ?_ (by size_fits);simp only[raiseNew];refine À<|cX ?_;rw[hh];refine À<|Æ<|wpAny_throw ?_;exact⟨_,λb o e=>Ä _<|Ä _ e,rfl,_,Ñ _ rfl,rfl⟩
def WT(hT:s.TypeIs (.ref it) "set_iterator")
  (h:wpAny (Û prog w) A.in1 (Builtin.«set_iterator.__next__» ⟨[.ref it],[]⟩) (λfin s'=>∃v,fin=.done (.ret v)/\Q (eh v) s') (λe s'=>s'.TypeIs e "StopIteration"/\Q ei s') s):wpAny (Û prog w) A (ŵ<|.ref it) Q E s:=by
 unfold ŵ;refine À<|aj<|Đ (name:=gg "__next__") hT slot_snext<|ĉ slot_snext hT Cv ?_<|CA _;refine ē h (λfin s' ⟨v,e,q⟩=>⟨v,e,Æ q⟩) λe s' ⟨t,q⟩=>?_;refine À<|Ϙ (T:="StopIteration") (b:=ej) t cj ?_;exact Æ q
abbrev NX(prog:à)(w:ó)(a:È)(o:Obj)(ep:Nat)(f:Nat->Nat)(ord:List Â):Prop :=
 ∀(A:Ą) (s:Å) (Q:Option (Â×Nat)->Å->Prop) (E:Â->Å->Prop) (i:Nat),i<=ord.length->s.heap.get? a=eh o->Q (ord[i]?.map (·,f<|i+1)) s->wpAny (Û prog w) A (setNext a (f i) i ep) Q E s
def K0{h:Ă}{o:Obj}{vs:Array Â}{k:Nat}{x:Â}(ho:h.get? it=eh o)(hc:o.cls=.type "set_iterator")(hd:o.data=.fields vs) :
  ∃o',(h.update it (Ι (·.setIfInBounds k x))).get? it=eh o'/\o'.cls=.type "set_iterator"/\o'.data=.fields (vs.setIfInBounds k x) :=
 ⟨_,Č _ ho<|ϗ<|ŏ hd _,(ae ..).trans hc,ŏ hd _⟩
end
def Walks.setT{prog:à}{w:ó}{A:Ą}(hh:A.handled=ei)(I a:È)(Ŵ:a≠I){o:Obj}{es:Array (Int×Â)}{ep:Nat}{t:Ū}{f:Nat->Nat}{ord:List Â}(hl:ord.length=es.size)(nx:NX prog w a o ep f ord) :
  Walks prog w A I [I,a] [I] es.size (λi v=>ord[i]?=eh v) (λi h=>SetIt h I a (.int (f i) 0) i es.size ep/\SetO h a o es ep t) where
 sub:=λb hb=>by simp at hb;simp[hb]
 frame:=λ_ _ _ st hk=>⟨by obtain⟨o,h1,h2⟩:=st.1;exact⟨o,hk I (by simp) o h1,h2⟩,hk a (by simp) _ st.2.at_,st.2.dat,st.2.fit⟩
 item:=λi s Q E hi st hQ=>by obtain⟨st,so⟩:=st;refine WT st.typeIs ?_;obtain⟨oi,h1,h2,h3⟩:=st;show wpAny _ _ (fieldsOf (.ref I) >>= _) _ _ s;refine À<|ϲ h1 h3 ?_;dsimp only;refine À<|ŧ so.at_ so.dat so.fit ?_;refine ī (λz=>gc z<|by simp) λ_=>?_;rw[á,á,á];have hx:ord[i]?=eh ord[i]:=Ê (by lia);refine À (nx _ s _ _ i (by lia) so.at_ ?_);rw[hx];dsimp only[Option.map];refine À (Ĵ h1 h3 (by simp) ?_);obtain⟨o2,g1,g2,g3⟩:=K0 (k:=0) (x:=Ğ<|f<|i+1) h1 h2 h3;refine À (Ĵ g1 g3 (by simp) ?_);obtain⟨o4,g4,g5,g6⟩:=K0 (k:=1) (x:=Ğ<|(i:Int)+1) g1 g2 g3;have sb:=(û s.heap I (Ι (·.setIfInBounds 0 (Ğ<|f<|i+1)))).trans (û _ I (Ι (·.setIfInBounds 1 (Ğ<|(i:Int)+1))));refine Æ ⟨_,rfl,hQ _ _ s.toks hx ⟨⟨o4,g4,g5,by rw[g6];simp[Ğ]⟩,?_,so.dat,so.fit⟩ λb ob hb e=>sb.extBut b ob (λz=>hb<|by simp[z]) e⟩;exact sb.extBut a _ Ŵ so.at_
 done:=λs Q E st hQ=>by
  obtain⟨st,so⟩:=st;refine WT st.typeIs ?_;obtain⟨oi,h1,h2,h3⟩:=st;show wpAny _ _ (fieldsOf (.ref I) >>= _) _ _ s;refine À<|ϲ h1 h3 ?_;dsimp only;refine À<|ŧ so.at_ so.dat so.fit ?_;refine ī (λz=>gc z<|by simp) λ_=>?_;rw[á,á,á];refine À (nx _ s _ _ es.size (by lia) so.at_ ?_);rw[Ļ<|by lia];dsimp only[Option.map];refine À (Ĵ h1 h3 (by simp) ?_);refine ē (Ud (A:=A.in1) (Q:=Q) hh λh' hk=>?_) (λ_ _ z=>z.elim) λe s' ⟨h',hk,e2,tt⟩=>⟨tt,?_⟩
  .exact hQ h' s.toks λb ob hb e=>hk b ob ((û s.heap I _).extBut b ob (λz=>hb<|by simp[z]) e)
  .subst e2;exact hQ h' s.toks λb ob hb e=>hk b ob ((û s.heap I _).extBut b ob (λz=>hb<|by simp[z]) e)
 self:=λ_ _ _ _ st hQ=>Nf st.1 hQ
def Walks.setD{prog:à}{w:ó}{A:Ą}(hh:A.handled=ei)(I a T:È)(Ŵ:a≠I)(hnT:T≠I){o oT:Obj}{es:Array (Int×Â)}{ep:Nat}{t:Ū}{ks:List Nat}(hl:ks.length=es.size)(hk:∀k∈ks,k<es.size)
  (hT:oT.data=.seq (ks.map λ(k:Nat)=>Ğ k).toArray) :
  Walks prog w A I [I,a,T] [I] es.size (λi v=>(ks.map λk=>(es.getD k (0,.none)).2)[i]?=eh v) (λi h=>SetIt h I a (.ref T) i es.size ep/\SetO h a o es ep t/\h.get? T=eh oT) where
 sub:=λb hb=>by simp at hb;simp[hb]
 frame:=λ_ _ _ st hk=>⟨by obtain⟨o,h1,h2⟩:=st.1;exact⟨o,hk I (by simp) o h1,h2⟩,⟨hk a (by simp) _ st.2.1.at_,st.2.1.dat,st.2.1.fit⟩,hk T (by simp) _ st.2.2⟩
 item:=λi s Q E hi st hQ=>by
  obtain⟨st,so,sT⟩:=st;refine WT st.typeIs ?_;obtain⟨oi,h1,h2,h3⟩:=st;show wpAny _ _ (fieldsOf (.ref I) >>= _) _ _ s;refine À<|ϲ h1 h3 ?_;dsimp only;refine À<|ŧ so.at_ so.dat so.fit ?_;refine ī (λz=>gc z<|by simp) λ_=>?_;refine À<|ŀ sT hT ?_;have hi':i<ks.length:=by lia
  have hx:ks[i]?=eh ks[i]:=Ê hi';have hki:=hk ks[i]<|Ŝ hi';have hp:((ks.map λ(k:Nat)=>Ğ k).toArray)[(i:Int).toNat]?=eh (.int (ks[i]:Nat) 0):=by rw[á];simp[hx,Ğ]
  dsimp only;rw[hp];dsimp only;rw[á,á];unfold setNextDrawn;refine À<|À<|ŝ so.at_ so.dat so.fit ?_;dsimp only;refine ī (λz=>gc z<|by simp) λ_=>?_;have he:es[ks[i]]?=eh es[ks[i]]:=ö hki;rw[he];dsimp only;refine Æ ?_;refine À (Ĵ h1 h3 (by simp) ?_);obtain⟨o4,g4,g5,g6⟩:=K0 (k:=1) (x:=Ğ<|(i:Int)+1) h1 h2 h3;have sb:=û s.heap I (Ι (·.setIfInBounds 1 (Ğ<|(i:Int)+1)));refine Æ ⟨_,rfl,hQ _ _ s.toks ?_ ⟨⟨o4,g4,g5,by rw[g6];simp[Ğ]⟩,⟨sb.extBut a _ Ŵ so.at_,so.dat,so.fit⟩,sb.extBut T _ hnT sT⟩ λb ob hb e=>sb.extBut b ob (λz=>hb<|by simp[z]) e⟩;rw[Ò,hx];simp[ι,hki]
 done:=λs Q E st hQ=>by
  obtain⟨st,so,sT⟩:=st;refine WT st.typeIs ?_;obtain⟨oi,h1,h2,h3⟩:=st;show wpAny _ _ (fieldsOf (.ref I) >>= _) _ _ s;refine À<|ϲ h1 h3 ?_;dsimp only;refine À<|ŧ so.at_ so.dat so.fit ?_;refine ī (λz=>gc z<|by simp) λ_=>?_;refine À<|ŀ sT hT ?_;have hp:((ks.map λ(k:Nat)=>Ğ k).toArray)[(es.size:Int).toNat]?=ei:=by rw[á];simp[hl]
  dsimp only;rw[hp];dsimp only;refine À (Ĵ h1 h3 (by simp) ?_);obtain⟨o4,g4,g5,g6⟩:=K0 (k:=0) (x:=Ğ 0) h1 h2 h3;refine À (Ĵ g4 g6 (by simp) ?_);refine ē (Ud (A:=A.in1) (Q:=λ_ _=>True) hh λ_ _=>trivial) (λ_ _ z=>z.elim) λe s' ⟨h',hk,e2,tt⟩=>⟨tt,?_⟩
  subst e2;exact hQ h' s.toks λb ob hb e=>hk b ob ((û _ I _).extBut b ob (λz=>hb<|by simp[z])<|(û s.heap I _).extBut b ob (λz=>hb<|by simp[z]) e)
 self:=λ_ _ _ _ st hQ=>Nf st.1 hQ
section
variable {prog:à}{w:ó}{a:È}{o:Obj}{es:Array (Int×Â)}{ep:Nat}{t:Ū}
def FF(hb:byT w=ej)(hd:o.data=.set es ep t)(hf:t.fits es.size=ej):NX prog w a o ep (λ_=>0) ((pickOrder (w.params.setOrder a ep) es).toList.map (·.2)):=λA s Q E i hil ho h=>by unfold setNext;refine À<|ŝ ho hd hf ?_;dsimp only;unfold ϣ;refine À<|À<|Ť<|Æ ?_;have bj:(Û prog w).w.params.followText "set-order" = ej:=hb;dsimp only;rw[bj];simp only[↓reduceIte,bne_self_eq_false,ħ];refine À ?_;unfold setWalk ϣ;refine À<|ŝ ho hd hf ?_;dsimp only;refine À<|À<|Ť<|Æ ?_;dsimp only;rw[bj];simp only[↓reduceIte];refine À<|Ť<|Æ<|Æ ?_;dsimp only;rw[Ò,ą,Option.map_map]at h;exact h
def HS(hb:byT w=ez)(tb:Tb (byT w) t)(hpl:(!t.plain&&gf (es.size > 1))=ez)(hd:o.data=.set es ep t)(hf:t.fits es.size=ej) :
  NX prog w a o ep (λi=>match i with|0=>0|k+1=>t.place.getD k 0+1) (es.toList.map (·.2)):=λA s Q E i hil ho h=>by
 have e0:∀slot,setNext a slot i ep=(do
     let (es,epoch,t)<-setState a
     if<-ϣ then
       if epoch != ep then ϳ "set_iterator.__next__:elements-changed"
       return ((<-setWalk a)[i]?).map λe=>(e.2,slot)
     if(!t.plain&&gf (es.size > 1))then ϳ "set_iterator.__next__:the-table-is-plain-no-more"
     (do if !t.led && !es.isEmpty then ϳ "set:maker-not-led")
     let i:=Ķ t.place slot
     return match es[i]?,t.place[i]? with
       |some (_,x),eh j=>eh (x,j+1)
       | _,_=>ei):=λ_=>rfl
 rw[e0];refine À<|ŝ ho hd hf ?_;dsimp only;unfold ϣ;refine À<|À<|Ť<|Æ ?_;have bj:(Û prog w).w.params.followText "set-order" = ez:=hb;have hled:=tb.led hb;dsimp only;rw[bj,hpl,hled];simp only[ħ,↓reduceIte,Bool.not_true,Bool.false_and];refine Æ ?_;have hsz:t.place.size=es.size:=by simp only[SetTable.fits,bAq,beq_iff_eq,gb]at hf;exact hf.1
 have fin:∀slot,i<=es.size->NP t.place slot i->Q (match es[Ķ t.place slot]?,t.place[Ķ t.place slot]? with|some (_,x),eh j=>eh (x,j+1)|_,_=>ei) s:=λslot hi hc=>by
  rw[Bf (MP tb.ris slot) hc];rw[Ò,ą]at h;by_cases Ϥ:i<es.size
  .have h1:es[i]?=eh es[i]:=ö Ϥ;have h2:t.place[i]?=eh (t.place[i]'(by lia)):=ö _;rw[h1]at h ⊢;rw[h2];have h3:t.place.getD i 0=t.place[i]'(by lia):=by simp[ι,show i<t.place.size by lia]
   dsimp only[Option.map]at h ⊢;rw[h3]at h;exact h
  .have h1:es[i]?=ei:=Ρ (by lia);rw[h1]at h ⊢;exact h
 cases i with
 |zero=>exact fin 0 (į _)<|UO _
 |succ k =>
  have hk:k<t.place.size:=by simp at hil;lia
  refine fin _ (by lia)<|UZ tb.ris ?_;rw[ö hk];simp[ι,hk]
end
structure Near(s s':Å):Prop where
 heap:∀b o,s.heap.get? b=eh o->s'.heap.get? b=eh o
 gens:s'.gens=s.gens
 os:s'.os=s.os
def F1:∀{vs us:List Â}{ns:List Int},vs.Perm us->ù us ns->∃ms,ms.Perm ns/\ù vs ms:=by
 intro vs us ns h;induction h generalizing ns with
 |nil=>exact λr=>by cases r;exact⟨[],.nil,.nil⟩
 |cons x _ ih =>
  intro r;cases r with
  |cons n t r=>obtain⟨ms,h1,h2⟩:=ih r;exact⟨n::ms,h1.cons n,.cons n t h2⟩
 |swap x y l =>
  intro r;cases r with
  |cons n t r=>cases r with
   |cons m u r=>exact⟨m::n::_,.swap _ _ _,.cons m u<|.cons n t r⟩
 |trans _ _ ih1 ih2 =>intro r;obtain⟨ms,h1,h2⟩:=ih2 r;obtain⟨ks,h3,h4⟩:=ih1 h2;exact⟨ks,h3.trans h1,h4⟩
section
variable {prog:à}{w:ó}{A:Ą}{E:Â->Å->Prop}{s:Å}
def Cd{r:È}{Q:Bool->Å->Prop}(hT:s.TypeIs (.ref r) "set")(h:Q ez s):wpAny (Û prog w) A (Builtin.List.listLengthHint<|.ref r) Q E s:=by
 unfold Builtin.List.listLengthHint;refine À<|wpAny_specialOf hT PySem.F.slot_set_len.lookup ?_;generalize hid:("set.__len__" : String)=id0
 wp_delta
 rw[show splitId id0=eh ("set","__len__") from by subst hid;decide +kernel];subst hid;refine À (Ϙ (T:="set") (b:=ej) hT (by rw[Λ];kernel_rfl) ?_);refine ī (λhab=>gc hab<|by decide) λ_=>?_;refine ī (λ_=>?_) (λhab=>gc (by decide +kernel) hab);exact À<|ϟ hT<|Æ h
def BI{a:È}{l:List Int}{Q:Â->Å->Prop}(hh:A.handled=ei)(hS:SetI prog w s.heap a l)
  (h:∀s' I fp St vs ms,Near s s'->s.heap.objs.size<=I->(∀b∈fp,b=a\/s.heap.objs.size<=b)->ms.Perm l->ù vs ms->Walks prog w A I fp [I] l.length (λi v=>vs[i]?=eh v) St->St 0 s'.heap->Q (.ref I) s') :
  wpAny (Û prog w) A (b7<|.ref a) Q E s:=by
 obtain⟨o,es,ep,t,es0,ho,hex,hd,hel,hb,hf,ht,hp,hi⟩:=id hS;have hsz:es.size=l.length:=by rw[<-XC hi,Ã,<-hp.length_eq,î]
 rw[<-hsz]at h;have hT:s.TypeIs (.ref a) "set":=⟨o,ho,hex.1⟩
 have Ϥ:=Ó ho;refine aM hT F.slot_set_iter<|ĉ F.slot_set_iter hT AQ ?_<|F.args_set_iter_1 _;have e0:Builtin.«frozenset.__iter__» ⟨[.ref a],[]⟩=(do
     let n<-cy a
     let d<-(do
       let (es,_,t)<-setState a
       let byText<-ϣ
       return !byText&&(!t.plain&&gf (es.size > 1)))
     let first<-if d then newTuple ((<-dB n (List.range n)).map λ(i:Nat)=>Ğ i)else pure (Ğ 0)
     ret (<-newFields "set_iterator" [first,Ğ 0,.ref a,Ğ n,Ğ (<-setEpoch a)])):=rfl
 rw[e0];unfold cy;refine À<|À<|ŧ ho hd hf<|Æ ?_;refine À<|À<|ŝ ho hd hf ?_;dsimp only;unfold ϣ;refine À<|À<|Ť<|Æ<|Æ ?_;have ebt:(Û prog w).w.params.followText "set-order" = byT w:=rfl;dsimp only;rw[ebt];have mapP:∀es':List<|Int×Â,es'.Perm es.toList->∃ms,ms.Perm l/\ù (es'.map (·.2)) ms:=λes' q=>F1 ((q.trans hp).map _) hi;by_cases hdr:(!byT w&&(!t.plain&&gf (es.size > 1)))=ej
 .rw[f6 hdr];refine À (Nc es.size (List.range es.size) (by simp) λks d hks=>À ?_);have hkl:ks.length=es.size:=by rw[hks.length_eq,ŕ]
  refine wpAny_newTuple ?_ (by rw[Ã,hkl];exact aO hb);refine À<|wpAny_setEpoch_of (Ä _ ho) hd hf ?_;refine À<|þ<|Æ ⟨_,rfl,"set_iterator",_,⟨_,Ñ _ rfl,rfl⟩,slot_snext.lookup,?_⟩;have zs:(s.heap.push { cls:=.type "tuple",dict:=ei,data:=.seq (List.map (λ(i:Nat)=>Ğ i) ks).toArray }).objs.size=s.heap.objs.size+1:=Ŭ ..;obtain⟨ms,m1,m2⟩:=mapP (ks.map λk=>es.getD k (0,.none)) (by
    refine(hks.map _).trans<|List.Perm.of_eq ?_
    refine List.ext_getElem (by simp) λi h1 h2=>?_
    have hi:i<es.size:=by simpa using h1
    simp[ι,hi])
  rw[õ]at m2;refine h _ _ [_,a,s.heap.objs.size] _ _ ms ⟨λb o e=>Ä _<|Ä _ e,rfl,rfl⟩ (by rw[zs];exact Ń _) (λb hb=>?_) m1 m2
   (Walks.setD (o:=o) (oT:={cls:=.type "tuple",dict:=ei,data:=.seq (List.map (λ(i:Nat)=>Ğ i) ks).toArray}) (es:=es) (ep:=ep) (t:=t) (ks:=ks) hh _ a s.heap.objs.size (by rw[zs];exact ä<|ĳ Ϥ) (by rw[zs];exact ä<|ĭ _) hkl (λk hk=>ū.mp<|hks.mem_iff.mp hk) rfl)
   ⟨⟨_,Ñ _ rfl,rfl,rfl⟩,⟨Ä _<|Ä _ ho,hd,hf⟩,Ä _<|Ñ _ rfl⟩
  simp only[Ç,Þ,or_false]at hb;rcases hb with rfl|rfl|rfl
  .exact .inr (by rw[zs];exact Ń _)
  .exact .inl rfl
  .exact .inr<|Ì _
 .rw[f7 hdr];refine À<|Æ ?_;refine À<|wpAny_setEpoch_of ho hd hf ?_;refine À<|þ<|Æ ⟨_,rfl,"set_iterator",_,⟨_,Ñ _ rfl,rfl⟩,slot_snext.lookup,?_⟩;have go:∀(f:Nat->Nat) (es':List<|Int×Â),f 0=0->es'.Perm es.toList->NX prog w a o ep f (es'.map (·.2))->Q (.ref s.heap.objs.size) {s with heap:=s.heap.push {cls:=.type "set_iterator",dict:=ei,data:=.fields [Ğ 0,Ğ 0,.ref a,Ğ es.size,Ğ ep].toArray}}:=λf es' f0 hes nx=>by
   obtain⟨ms,m1,m2⟩:=mapP es' hes;have hl:(es'.map (·.2)).length=es.size:=by rw[Ã,hes.length_eq,î]
   refine h _ _ [_,a] _ _ ms ⟨λb o e=>Ä _ e,rfl,rfl⟩ (Ì _) (λb hb=>?_) m1 m2 (Walks.setT (t:=t) hh _ a (ä Ϥ) hl nx) ⟨⟨_,Ñ _ rfl,rfl,by rw[f0];rfl⟩,Ä _ ho,hd,hf⟩;simp only[Ç,Þ,or_false]at hb;rcases hb with rfl|rfl
   .exact .inr<|Ì _
   .exact .inl rfl
  cases hbt:byT w with
  |true=>exact go _ _ rfl (AC _ es)<|FF hbt hd hf
  |false =>rw[hbt]at hdr;exact go (λi=>match i with|0=>0|k+1=>t.place.getD k 0+1) _ rfl .rfl (HS hbt ht (by simpa using hdr) hd hf)
end
end L2
namespace L2
open PySem PySem.Spec PyProof.Rows
def Near.trans{a b c:Å}(h:Near a b)(k:Near b c):Near a c:=⟨λx o e=>k.heap x o<|h.heap x o e,k.gens.trans h.gens,k.os.trans h.os⟩
def BP{vs:List Â}{Ĭ:Array Â}{n:Nat}(h:ItemsOf (λi v=>vs[i]?=eh v) Ĭ n)(hn:vs.length=n):Ĭ.toList=vs:=by
 refine List.ext_getElem? λi=>?_;rw[ą];by_cases hi:i<Ĭ.size
 .rw[ö hi];exact(h.2 i _<|ö hi).symm
 .rw[Ρ (by lia),Ļ (by have:=h.1;lia)]
section
variable {prog:à}{w:ó}{A:Ą}{E:Â->Å->Prop}{s:Å}
variable {a:È} {l:List Int}
def FW(hh:A.handled=ei)(hS:SetI prog w s.heap a l)(S:È)(hSa:S≠a)(hs:s.heap.get? S=eh {cls:=.type "list",data:=.seq #[] 0}){R:bc->Å->Prop}
  (h:∀s' vs ms c,s'.gens=s.gens->s'.os=s.os->(∀b o,b≠S->s.heap.get? b=eh o->s'.heap.get? b=eh o)->ms.Perm l->ù vs ms->s'.heap.get? S=eh {cls:=.type "list",dict:=ei,data:=.seq vs.toArray c,slots:=#[]}->R (.ok<|.ret<|.ref S) s') :
  wpAny (Û prog w) A.in1 (Builtin.List.listExtendWith (.ref S) (.ref a)<|.ref S) (λfin s'=>match fin with|.done f=>R (.ok f) s'|.again c'=>c'.quiet=ej/\codeAny (Û prog w) A c' R s') (λe s'=>R (.error e) s') s:=by
 have hl:=hS.setOf;obtain⟨o,es,ep,t,es0,ho,hex,hd,hel,hb,hf,ht,hp,hi⟩:=id hS;have hsz:l.length<=Ù:=aO (by rw[<-XC hi,Ã,<-hp.length_eq,î];exact hb);have hT:s.TypeIs (.ref a) "set":=⟨o,ho,hex.1⟩
 have hSs:S<s.heap.objs.size:=Ó hs;unfold Builtin.List.listExtendWith;refine À<|ϟ (T:="set") hT ?_;have h1:Builtin.List.listSameRef (.ref S) (.ref a)=ez:=by simp[Builtin.List.listSameRef,hSa]
 have h2:(Value.type "set" == Value.type "list")=ez:=by decide
 have h3:(Value.type "set" == Value.type "tuple")=ez:=by decide
 simp only[h1,h2,h3,Ϫ,ħ,if_false];refine À<|BI (A:=A.in1) hh hS λs1 I fp St vs ms ne hI hfp pm ia W st=>?_;have hsf:S∉fp:=λz=>by
  rcases hfp S z with q|q
  .exact hSa q
  .exact ě _<|ã hSs q
 have hvl:vs.length=l.length:=(XC ia).trans pm.length_eq;have key:∀(h':Ă) (c tk:Nat),St 0 h'->(∀b o,b≠S->s1.heap.get? b=eh o->h'.get? b=eh o)->h'.get? S=eh {cls:=.type "list",data:=.seq #[] c}->codeAny (Û prog w) A (.builtin "list.extend.loop" ⟨[.ref S,.ref I,.ref S],[]⟩) R {s1 with heap:=h',toks:=tk}:=by
  intro h' c tk dI hk hS1;refine codeAny_extend_loopS W.toS hsz S hsf (.ref S) l.length 0 _ #[] c rfl (į _) dI hS1 (ItemsOf.nil _) λs2 Ĭ c2 hm hS2 hacc=>?_;have ev:Ĭ.toList=vs:=BP hacc hvl;refine h s2 vs ms c2 (hm.gens.trans ne.gens) (hm.os.trans ne.os) (λb o hb e=>?_) pm ia (by rw[<-ev];simpa using hS2);refine hm.heap b o (λz=>?_)<|hk b o hb<|ne.heap b o e;rcases Ç.mp z with q|z
  .exact hb q
  .have z:b=I:=by simpa using z
   subst z;exact ě _<|ã (Ó e) hI
 have hS1:=ne.heap S _ hs;refine À<|ė<|Cd ⟨o,ne.heap a o ho,hex.1⟩ ?_;refine ī (λ_=>?_) λ_=>Æ ⟨ň PySem.F.plain_extend_loop _,key _ 0 _ st (λb o _ e=>e) hS1⟩;refine À<|Θ ?_;refine À ?_;show wpAny _ _ (dy S (·.push .none) >>= λ_=>dy S (·.pop)) _ _ _;refine À<|χ hS1 rfl ?_;have hS2:=Č (ς (·.push Value.none)) hS1 rfl;refine χ (hz:=by seq_fits) hS2 rfl ?_;have hS3:=Č (ς (·.pop)) hS2 rfl;refine Æ ⟨ň PySem.F.plain_extend_loop _,key _ _ _ ?_ (λb o hb e=>?_) hS3⟩
 .refine W.frame 0 _ _ st λb hb o e=>?_;have dN:b≠S:=λz=>hsf<|z▸hb;exact(ë _ _ dN.symm).trans<|(ë _ _ dN.symm).trans e
 .exact(ë _ _ hb.symm).trans<|(ë _ _ hb.symm).trans e
def MH{Q:List Â->Å->Prop}(hh:A.handled=ei)(hS:SetI prog w s.heap a l)(h:∀s' vs ms,Near s s'->ms.Perm l->ù vs ms->Q vs s'):wpAny (Û prog w) A (collect<|.ref a) Q E s:=by
 have Ϥ:a<s.heap.objs.size:=by obtain⟨_,_,_,_,_,e,_⟩:=hS;exact Ó e
 unfold collect;refine À<|wpAny_runValue<|Ī F.entry_proto_collect ?_;rw[č F.plain_proto_collect _];show wpAny _ A.in1 (newList [] >>= λl=>again<|.builtin "list.__iadd__" ⟨[l,.ref a],[]⟩) _ _ s;refine À<|þ ?_;refine Æ ⟨ň F.plain_list_iadd _,Ī F.entry_list_iadd ?_⟩;rw[č F.plain_list_iadd _];show wpAny _ A.in1 (Builtin.List.listExtendWith (.ref s.heap.objs.size) (.ref a)<|.ref s.heap.objs.size) _ _ _;have fin:∀(q:bc) (s':Å),(∃vs ms c,q=.ok (.ret<|.ref s.heap.objs.size)/\Near s s'/\ms.Perm l/\ù vs ms/\s'.heap.get? s.heap.objs.size=eh {cls:=.type "list",dict:=ei,data:=.seq vs.toArray c,slots:=#[]})->
   wants (λ(a:Â) s'=>wpAny (Û prog w) A (match a with
     |.ref a=>do
       match (<-load a).data with
       |.seq xs _=>pure xs.toList
       |_=>ϳ "internal:collect"
     | _=>ϳ "internal:collect") Q E s') E q s':=λq s' ⟨vs,ms,c,e,ne,pm,ia,hg⟩=>by
  subst e;show wpAny _ A (load s.heap.objs.size >>= _) _ _ _;refine À<|wpAny_load hg<|Æ ?_;exact h s' _ ms ne pm (by simpa using ia)
 refine ē (FW (A:=A) (s:={ s with heap:=s.heap.push { cls:=.type "list",data:=.seq ([]:List Â).toArray } }) (R:=λq s'=>∃vs ms c,q=.ok (.ret<|.ref s.heap.objs.size)/\Near s s'/\ms.Perm l/\ù vs ms/\s'.heap.get? s.heap.objs.size=eh { cls:=.type "list",dict:=ei,data:=.seq vs.toArray c,slots:=#[] })
   hh (hS.at λo e=>Ä _ e) s.heap.objs.size (ş Ϥ) (Ñ _ rfl) λs' vs ms c g1 g2 g3 pm ia hg=>⟨vs,ms,c,rfl,⟨λb o e=>g3 b o (ä<|Ó e)<|Ä _ e,g1,g2⟩,pm,ia,hg⟩) (λf s' z=>?_) λe s' z=>?_
 .cases f with
  |done f=>exact fin _ _ z
  |again c=>exact⟨z.1,Ŷ z.2 λq s2 y=>fin q s2 y⟩
 .exact fin _ _ z
end
variable {X:Cx}
def Inv.near{Á:List (È×Obj)}{σ:St}{H:Hp}{s s':Å}(I:Inv X Á σ H s)(ne:Near s s'):Inv X Á σ H s':=by have J:Inv X Á σ H {s with heap:=s'.heap,toks:=s'.toks}:=I.kept ne.heap;exact⟨J.ok,ne.os.trans J.os,by rw[ne.gens];exact J.bare,J.base,J.loc,J.cell,J.free,J.freeC,J.pin,J.hok,J.len⟩
abbrev tSS(K:Frag)(te:TE):TE:=λσ H Q=>GN te Fa σ H λvs H1=>∃p,∃ns:List Int,vs=[.ref p]/\fQ K H1 p (ns.map V.int)/\ns.length<64/\∀l,H1 l=ei->Q (.ref l) (upd H1 l<|.lst<|(sortI<|Ÿ (λi=>ns.getD i 0) ns.length).map V.int)
def Ma{e:Expr}{te:TE}{p p2 ç cJ:Pos}(hc:X.calm=ej)(hg:Gl X "sorted")(hm:X.mg "sorted" = ei)(hg2:Gl X "set")(hm2:X.mg "set" = ei)(he:PE X e te)(hs:Ô [e] X.env=[(ez,eval e X.env)]) :
  PE X (.Call (.Name "sorted" p) [.Call (.Name "set" p2) [e] [] cJ] [] ç) (tSS X.K te):=by
 intro Á s σ H Q I h;refine İ (Yx (u:=.builtin "sorted") I hg hm (by kernel_rfl) ?_);refine PyProof.Rows.callWith_builtin1 ?_ rfl rfl;show wpAny _ _ (spliced<|(ez,eval (.Call (.Name "set" p2) [e] [] cJ) X.env)::[]) _ _ _;refine Calls.spliced_cons ?_;refine İ (Yx (u:=.type "set") I hg2 hm2 (by kernel_rfl) ?_ (by decide)<|by decide);refine callWith_type1 (thn ((ZI he fO hs) cJ Á s σ H _ I h) λus s1 ⟨vs,H1,I1,r1,q1⟩=>?_) hs rfl;obtain⟨a,ns,e1,hq,h64,q⟩:=q1;subst e1;obtain⟨u,rfl,ru⟩:=ZT r1;cases ru;obtain⟨ñ,rv,pl,hz⟩:=I1.list hq;have hlen:=rv.length;rw[Ã]at hlen;refine CG (I1.ok.hd hc) pl.isList (by simpa using ZD rv) (by rw[Í];show ñ.length+1<4096;lia) λh' tk x hk=>Calls.spliced_nil ?_
 replace x:SetI X.prog X.w h' s1.heap.objs.size<|Ÿ (λi=>ns.getD i 0) ns.length:=by rw[hlen];rw[show ñ.toArray.size=ñ.length from Í]at x;exact x
 have I2:Inv X Á σ H1 {s1 with heap:=h',toks:=tk}:=I1.kept hk;refine Calls.call_function_entry kind_sorted plain_sorted entry_sorted (args_sorted1 _) ?_;unfold Builtin.«sorted»;refine À (m:=checkCount "sorted" 1 1 _)<|Æ ?_;refine À<|MH (A:=X.A.in1) (I1.ok.hd hc) x λs3 vs ms ne pm ia=>?_;have I3:=I2.near ne;have hvl:vs.length<64:=by rw[XC ia,pm.length_eq];exact Ø (aq _ _) (by lia)
 refine À (cY ?_<|by unfold Ù;lia);have hoL:(s3.heap.push<|Η "list" vs.toArray 0).get? s3.heap.objs.size=eh (Η "list" vs.toArray 0):=Ñ _ rfl;refine À<|ė<|ĉ slot_list_sort ⟨_,hoL,rfl⟩ entry_list_sort (list_sort_tree hoL ia hvl λout bW a1 a2 a3=>⟨_,rfl,?_⟩)<|args_list_sort _;have e:=Yz (a2.trans pm) a3;subst e;obtain⟨n,hat⟩:=sortedHeap_at (out:=out) hoL;refine Æ ⟨_,rfl,.ref s3.heap.objs.size,_,I3.laid (a:=s3.heap.objs.size) (o:=.lst<|(sortI<|Ÿ (λi=>ns.getD i 0) ns.length).map V.int) (t':=s3.toks) (λb o e=>?_) (Ì _) ?_,rfl,q _<|I3.hok.fresh<|Ì _⟩
 .have hb:=Ó e;rw[sortedHeap_old (ä hb)<|by rw[size_push'];exact ĳ hb];exact Ä _ e
 .exact⟨by rw[Ã,Yw];have:=aq (λi=>ns.getD i 0) ns.length;unfold Ù;lia,out.toList,n,YD a1,by simpa[Η]using hat⟩
end L2
namespace Snd
open PySem L2
variable {i:Inf}{X:Cx}{Φ:O.Fs}
def NF{e:Expr}{m:O.E}{p p2 ç cJ:Pos}(hc:X.calm=ej)(hK:X.K=i.K)(he:PE X e<|tE X i Φ m)(hg:Gl X "sorted")(hm:X.mg "sorted" = ei)(hg2:Gl X "set")(hm2:X.mg "set" = ei)(ſ:Ô [e] X.env=[(ez,eval e X.env)]) :
  PE X (.Call (.Name "sorted" p) [.Call (.Name "set" p2) [e] [] cJ] [] ç) (tE X i Φ<|.bi .sortedSet<|.cons m .nil):=by
 refine(Ma hc hg hm hg2 hm2 he ſ).imp λσ H Q ⟨env,G,Qm,Em,p,w,c⟩=>?_;rw[O.q_e_bi,O.q_a_cons]at w;change tE X i Φ m σ H _;refine one p w λv G1 H1 x k1 p1 r q=>?_;rw[O.q_a_nil]at q
 replace q:(O.biSortedSet G1 v).wp G1 Qm:=q
 unfold O.biSortedSet at q;cases z:O.sortOf G1 v with
 |none=>rw[z]at q;exact(Zf q).elim
 |some ns =>
  rw[z]at q;dsimp only at q;split at q
  .rename_i h4;obtain⟨a,rfl,hs⟩:=MC p1.hp r z;refine⟨a,ns,rfl,by rw[hK];exact hs,h4,?_⟩;rw[J0<|M9 ns];exact Yh p1.hp (KY q) (c.go k1) λp hp=>⟨_,eC,RVs.ints _⟩
  .exact(Zf q).elim
section
variable {K:Frag}{H H':Hp}
structure fM(H H':Hp):Prop where
 t:∀a xs,H a=eh (.tup xs)->H' a=eh (.tup xs)
 f:∀a o xs,H a=eh (.frz o<|.lst xs)->H' a=eh (.frz o<|.lst xs)
mutual
theorem RV.keepL(k:fM H H'):∀{v:O.Val}{x:V},RV K H v x->RV K H' v x
 |_,_,.non=>.non
 |_,_,.bl b=>.bl b
 |_,_,.int i=>.int i
 |_,_,.str s=>.str s
 |_,_,.tup (.inl e) r=>.tup (.inl<|k.t _ _ e)<|RVs.keepL k r
 |_,_,.tup (.inr e) r=>.tup (.inr e)<|RVs.keepL k r
 |_,_,.ref a=>.ref a
 |_,_,.scr (.inl ⟨o,e⟩)=>.scr<|.inl ⟨o,k.f _ _ _ e⟩
 |_,_,.scr (.inr e)=>.scr<|.inr e
 |_,_,.key e=>.key<|k.t _ _ e
theorem RVs.keepL(k:fM H H'):∀{vs:List O.Val}{xs:List V},RVs K H vs xs->RVs K H' vs xs
 |_,_,.nil=>.nil
 |_,_,.cons r t=>.cons (RV.keepL k r)<|RVs.keepL k t
end
def RKs.keepL(k:fM H H'):∀{kvs:List (O.Val×O.Val)}{ps:List (Key×V)},RKs K H kvs ps->RKs K H' kvs ps
 |_,_,.nil=>.nil
 |_,_,.cons a r t=>.cons a (r.keepL k)<|RKs.keepL k t
def RTs.keepL(k:fM H H'):∀{kvs:List (O.Val×O.Val)}{ps:List (List Key×V)},RTs K H kvs ps->RTs K H' kvs ps
 |_,_,.nil=>.nil
 |_,_,.cons r t=>.cons (r.keepL k)<|RTs.keepL k t
def RFs.keepL(k:fM H H'):∀{fs:List (String×O.Val)}{ps:List (Str×V)},RFs K H fs ps->RFs K H' fs ps
 |_,_,.nil=>.nil
 |_,_,.cons r t=>.cons (r.keepL k)<|RFs.keepL k t
def REn.keepL{env:O.Env}{σ:St}(r:REn K H env σ)(k:fM H H'):REn K H' env σ:=⟨r.len,λi v e=>by
  obtain⟨x,h1,h2⟩:=r.get i v e
  exact⟨x,h1,h2.keepL k⟩⟩
variable {a:È}
def RO.moveL{o:O.Ob}(r:RO i H a o)(k:fM H H')(e:H' a=H a):RO i H' a o:=by
 cases o with
 |lst xs=>obtain⟨vs,q,r⟩:=r;exact⟨vs,e.trans q,r.keepL k⟩
 |dct kvs=>obtain⟨ps,q,r⟩:=r;exact⟨ps,e.trans q,r.keepL k⟩
 |ins C fs=>obtain⟨c,dx,ps,h0,h,q,r⟩:=r;exact⟨c,dx,ps,h0,h,e.trans q,r.keepL k⟩
 |exc C=>obtain⟨c,h,q⟩:=r;exact⟨c,h,e.trans q⟩
 |frz kvs=>obtain⟨o,ps,q,r⟩:=r;exact⟨o,ps,e.trans q,r.keepL k⟩
 |dtp kvs=>obtain⟨ps,q,r⟩:=r;exact⟨ps,e.trans q,r.keepL k⟩
variable {o:Obj} {ps:List (Key×V)}
def Xk(e:H a=eh (.frz o<|.dK ps)):fM H (upd H a<|.dK ps) :=
 ⟨λb xs q=>by rw[eB<|by rintro rfl;rw[e]at q;cases q];exact q,λb p xs q=>by rw[eB<|by rintro rfl;rw[e]at q;cases q];exact q⟩
def RH.thaw{G:O.Hs}{kvs:List (O.Val×O.Val)}(g:RH i G H)(e:H a=eh (.frz o<|.dK ps))(r:RKs i.K H kvs ps):RH i (O.upd G a<|.dct kvs)<|upd H a<|.dK ps:=λb p q=>by
 by_cases hb:b=a
 .subst hb;rw[O.eC]at q;cases q;exact⟨ps,eC,r.keepL<|Xk e⟩
 .rw[O.eB hb]at q;exact(g b p q).moveL (Xk e)<|eB hb
def RKs.len:∀{kvs:List (O.Val×O.Val)}{ps:List (Key×V)},RKs K H kvs ps->kvs.length=ps.length
 |_,_,.nil=>rfl
 |_,_,.cons _ _ t=>by rw[Ë,Ë,RKs.len t]
def RKs.at:∀{kvs:List (O.Val×O.Val)}{ps:List (Key×V)}{n:Nat}{c:Key}{x:V},RKs K H kvs ps->ps[n]?=eh (c,x)->∃k v,kvs[n]?=eh (k,v)/\Wv k c/\RV K H v x
 |_,_,n,_,_,.nil,e=>by simp at e
 |_,_,0,_,_,.cons hk r _,e=>by simp at e;obtain⟨rfl,rfl⟩:=e;exact⟨_,_,rfl,hk,r⟩
 |_,_,n+1,_,_,.cons _ _ t,e=>by obtain⟨k,v,h1,h2⟩:=RKs.at (n:=n) t (by simpa using e);exact⟨k,v,by simpa using h1,h2⟩
def BS{k:O.Val}{c:Key}(h:Wv k c):RV K H k<|kV c:=by
 cases k with
 |int j=>cases c with
  |inl l=>have h:j=l:=h;subst h;exact .int _
  |inr _=>exact(show False from h).elim
 |str s=>cases c with
  |inl _=>exact(show False from h).elim
  |inr t=>have h:t=gg s:=h;subst h;exact .str _
 |_=>exact(show False from h).elim
end
variable {H0:Hp} {a:È} {o:Obj} {ps:List (Key×V)} {kvs:List (O.Val×O.Val)}
def Be(e0:H0 a=eh (.frz o<|.dK ps))(r0:RKs i.K H0 kvs ps):ItOk i H0 (Iti a o ps) (λg=>g a=eh (.frz kvs)) (kvs.map<|O.itemOf ez) where
 go:=λn G H v k g e hv=>by
  have e1:=k.f _ _ _ e0;rw[Ò]at hv;obtain⟨p,hp,rfl⟩:=Î.mp hv;have hn:n<ps.length:=by rw[<-r0.len];exact(Ð.mp hp).1
  refine⟨⟨e1,hn⟩,λx H' ⟨q,c,y,ex,hq,hy,eH⟩=>?_⟩;subst ex eH;obtain⟨k2,v2,h1,h2,h3⟩:=(r0.keep k).at hy;rw[hp]at h1;cases h1;have kk:fc H<|upd H q<|.tup [kV c,y]:=fc.new hq;exact⟨kk,WN g hq,.tup (.inl eC)<|.cons (BS h2)<|.cons (h3.keep kk) .nil⟩
 stop:=λn G H k g e hn=>⟨k.f _ _ _ e0,by rw[<-r0.len];simpa using hn⟩
def EB(e0:H0 a=eh (.frz o<|.dK ps))(r0:RKs i.K H0 kvs ps):ItOk i H0 (Itk a o ps) (λg=>g a=eh (.frz kvs)) (kvs.map<|O.itemOf ej) where
 go:=λn G H v k g e hv=>by
  have e1:=k.f _ _ _ e0;rw[Ò]at hv;obtain⟨p,hp,rfl⟩:=Î.mp hv;have hn:n<ps.length:=by rw[<-r0.len];exact(Ð.mp hp).1
  refine⟨⟨e1,hn⟩,λx H' ⟨eH,c,y,hy,ex⟩=>?_⟩;subst ex eH;obtain⟨k2,v2,h1,h2,h3⟩:=(r0.keep k).at hy;rw[hp]at h1;cases h1;exact⟨fc.refl _,g,BS h2⟩
 stop:=λn G H k g e hn=>⟨k.f _ _ _ e0,by rw[<-r0.len];simpa using hn⟩
variable {tg:Expr} {ç:Pos} {body:List Ľ} {q:O.Pt} {m:O.E} {mb:O.Ss}
def OH{ũ:Expr}{kb:Bool}{J:È->Obj->List (Key×V)->It}(hp:Ϸ (Û X.prog X.w) X.A X.env X.xe)(hc:X.calm=ej)(hi:PI X tg ũ<|HN X J<|tE X i Φ m)(hg:PG X tg<|gPt i q)(hb:PSs X body<|tBl X i Φ mb)
  (hs:∀x,ĕ ũ X.env x=pure x) (hJ:∀(H0:Hp) (a:È) (o:Obj) (ps:List<|Key×V) (kvs:List<|O.Val×O.Val),H0 a=eh (.frz o<|.dK ps)->RKs i.K H0 kvs ps->ItOk i H0 (J a o ps) (λg=>g a=eh (.frz kvs)) (kvs.map<|O.itemOf kb)) :
  PS X (.For tg ũ body [] ç) (tSt X i Φ<|.forI kb q m mb):=by
 intro Á s σ H D I ⟨env,G,N,R,B,C,Xe,p,w,c⟩;refine FM (CH hp hc hi hg hb hs) Á s σ H D I ?_;refine one p.pre w λv G1 H1 x k1 p1 rx w'=>?_;obtain⟨a,e1,w''⟩:=eK w';obtain⟨kvs,e2,w1⟩:=eK w'';clear w' w'';have ev:v=.ref a:=by
  cases v with
  |ref b=>cases e1;rfl
  |_=>cases e1
 subst ev;cases rx.ref_inv;have eG:G1 a=eh (.dct kvs):=by
  cases z:G1 a with
  |none=>rw[z]at e2;cases e2
  |some o=>rw[z]at e2;cases o<;>first|(cases e2;rfl)|cases e2
 obtain⟨ps,ha,hr⟩:=p1.hp a _ eG;refine⟨a,ps,rfl,ha,λo h0=>?_⟩;have k2:fc H1<|upd H1 a<|.frz o<|.dK ps:=fc.put (λxs z=>by rw[ha]at z;cases z) λp u z=>by rw[ha]at z;cases z
 have g2:RH i (O.upd G1 a<|.frz kvs)<|upd H1 a<|.frz o<|.dK ps:=p1.hp.put k2 ⟨o,ps,eC,hr.keep k2⟩;have it:=hJ _ a o ps kvs eC<|hr.keep k2;have aE:∀{H':Hp}{G':O.Hs},fc (upd H1 a<|.frz o<|.dK ps) H'->RH i G' H'->H' a=eh (.frz o<|.dK ps)/\RKs i.K H' kvs ps/\fc H (upd H' a<|.dK ps):=λ{H' G'} k g=>by
  have e:=k.f a o _ eC;refine⟨e,(hr.keep k2).keep k,λb xs z=>?_,λb o' u z=>?_⟩
  .have z1:=k1.t b xs z;have hb:b≠a:=by rintro rfl;rw[ha]at z1;cases z1
   rw[eB hb];exact k.t b xs (by rw[eB hb];exact z1)
  .have z1:=k1.f b o' u z;have hb:b≠a:=by rintro rfl;rw[ha]at z1;cases z1
   rw[eB hb];exact k.f b o' u (by rw[eB hb];exact z1)
 have fin:∀Ś Ř G' H',fc (upd H1 a<|.frz o<|.dK ps) H'->RH i G' H'->REn i.K H' Ś Ř->(G' a=eh (.frz kvs)/\N Ś (O.upd G' a<|.dct kvs))->(D.thaw X).nx Ř H':=λŚ Ř G' H' k g en ⟨_,n⟩=>by obtain⟨b1,b2,b3⟩:=aE k g;exact⟨a,o,ps,b1,h0,c.nx Ś Ř _ _ b3 (g.thaw b1 b2) (en.keepL<|Xk b1) n⟩
 have ret:∀v G' H' x,fc (upd H1 a<|.frz o<|.dK ps) H'->RH i G' H'->RV i.K H' v x->(G' a=eh (.frz kvs)/\R v (O.upd G' a<|.dct kvs))->(D.thaw X).rt x H':=λv G' H' x k g r ⟨_,n⟩=>by obtain⟨b1,b2,b3⟩:=aE k g;exact⟨a,o,ps,b1,h0,c.rt v _ _ x b3 (g.thaw b1 b2) (r.keepL<|Xk b1) n⟩
 have xo:∀Hq,XW X (XKS i Hq λ_ _ _=>False):=λHq=>λ_ _ _ _ _ _ _ _ _ _ ⟨_,_,_,_,_,_,_,_,z⟩=>z.elim;generalize hxs:kvs.map (O.itemOf kb)=xs at w1 it;generalize ſ:(λg:O.Hs=>g a=eh (.frz kvs))=st at w1 it;refine⟨λn m Ř H'=>n+m=xs.length/\∃Ś G',fc (upd H1 a<|.frz o<|.dK ps) H'/\RH i G' H'/\REn i.K H' Ś Ř/\O.wFor st (λv e g K M=>O.go (O.bind q g v e) λe2=>O.wSs Φ mb e2 g K (λu g2=>g2 a=eh (.frz kvs)/\R u (O.upd g2 a<|.dct kvs)) M K λ_ _ _=>False) (λe g=>g a=eh (.frz kvs)/\N e (O.upd g a<|.dct kvs)) (xs.drop n) Ś G',⟨xs.length,by lia,env,_,fc.refl _,g2,(p.en.keep k1).keep k2,by simpa using w1⟩,?_⟩;rintro n m Ř H' ⟨hnm,Ś,G',k3,g3,e3,w3⟩;by_cases hn:n<xs.length
 .right;have hd:xs.drop n=xs[n]::xs.drop (n+1):=Γ hn;rw[hd]at w3;obtain⟨s2,w3⟩:=w3;have hv:xs[n]?=eh xs[n]:=Ê hn;obtain⟨a1,a2⟩:=it.go n G' H' xs[n] k3 g3 s2 hv;refine⟨a1,λσ4 H4=>∃cI G4,fc (upd H1 a<|.frz o<|.dK ps) H4/\RH i G4 H4/\REn i.K H4 cI σ4/\O.wFor st (λv e g K M=>O.go (O.bind q g v e) λe2=>O.wSs Φ mb e2 g K (λu g2=>g2 a=eh (.frz kvs)/\R u (O.upd g2 a<|.dct kvs)) M K λ_ _ _=>False) (λe g=>g a=eh (.frz kvs)/\N e (O.upd g a<|.dct kvs)) (xs.drop<|n+1) cI G4,λσ4 H4 h=>⟨m - 1,by lia,by lia,h⟩,λx H4 hy=>?_⟩;obtain⟨k4,g4,r4⟩:=a2 x H4 hy;obtain⟨dh,e5,w5⟩:=eK w3;refine⟨xs[n],Ś,G',dh,r4,g4,e3.keep k4,e5,λσ5 h5=>?_⟩;refine⟨dh,G',_,_,_,_,_,⟨h5,g4,xo _⟩,w5,⟨λenv6 σ6 G6 H6 k6 g6 e6 w6=>?_,λv6 G6 H6 x6 k6 g6 r6 w6=>?_,λenv6 σ6 G6 H6 k6 g6 e6 w6=>?_,λenv6 σ6 G6 H6 k6 g6 e6 w6=>?_⟩⟩
  .exact⟨env6,G6,(k3.trans k4).trans k6,g6,e6,w6⟩
  .exact ret v6 G6 H6 x6 ((k3.trans k4).trans k6) g6 r6 w6
  .exact fin env6 σ6 G6 H6 ((k3.trans k4).trans k6) g6 e6 w6
  .exact⟨env6,G6,(k3.trans k4).trans k6,g6,e6,w6⟩
 .left;have hd:xs.drop n=[]:=Ŏ (by lia);rw[hd]at w3;exact⟨it.stop n G' H' k3 g3 w3.1 (by lia),fin Ś Ř G' H' k3 g3 e3 w3.2⟩
variable {kk:Nat} {d:Expr}
def EY{es:List Expr}{tp ŉ ř:Pos}(hp:Ϸ (Û X.prog X.w) X.A X.env X.xe)(hc:X.calm=ej)(hd:PE X d<|tE X i Φ m)(hg:PG X (.Tuple es kk tp)<|gPt i q)(hb:PSs X body<|tBl X i Φ mb)
  (ay:Ġ d "items" X.env (eval d X.env)=eval d X.env) (aA:(ŉ.endLine==ř.line)=ej) (hs:∀x,ĕ (.Call (.Attribute d "items" ŉ) [] [] ř) X.env x=pure x) :
  PS X (.For (.Tuple es kk tp) (.Call (.Attribute d "items" ŉ) [] [] ř) body [] ç) (tSt X i Φ<|.forI ez q m mb) :=
 OH hp hc (By hd ay aA) hg hb hs λ_ _ _ _ _ e r=>Be e r
def F2(hp:Ϸ (Û X.prog X.w) X.A X.env X.xe)(hc:X.calm=ej)(hd:PE X d<|tE X i Φ m)(hg:PG X tg<|gPt i q)(hb:PSs X body<|tBl X i Φ mb)(hs:∀x,ĕ d X.env x=pure x) :
  PS X (.For tg d body [] ç) (tSt X i Φ<|.forI ej q m mb) :=
 OH hp hc (D9 hd) hg hb hs λ_ _ _ _ _ e r=>EB e r
def MX(đ:List<|List Int):∀(k:Nat) (x:List Int) (r:List<|List Int),đ.take (k+1)=x::r->k<đ.length->O.minR x r=đ.getD (ĵ (btL λn=>đ.getD n []) k) []
 |0,x,r,h,hk=>by
  cases đ with
  |nil=>cases h
  |cons y ys=>simp at h;obtain⟨rfl,rfl⟩:=h;rfl
 |k+1,x,r,h,hk=>by
  cases đ with
  |nil=>cases h
  |cons y ys =>
   rw[ϧ]at h;injection h with h1 h2;subst h1 h2;have bE:k<ys.length:=by simpa using hk
   have ih:=MX (y::ys) k y (ys.take k) (by rw[ϧ]) (by simp;lia);have e:ys.take (k+1)=ys.take k++[ys[k]]:=by rw[ŭ];simp[bE]
   have app:∀(b:List Int) (l:List<|List Int) (z:List Int),O.minR b (l++[z])=if O.fu z (O.minR b l)then z else O.minR b l:=by
    intro b l z;induction l generalizing b with
    |nil=>rfl
    |cons w l ih=>exact ih _
   rw[e,app,ih];have e2:(y::ys).getD (k+1) []=ys[k]:=by simp[bE]
   show _=(y::ys).getD (if btL (λn=>(y::ys).getD n []) (k+1) (ĵ (btL λn=>(y::ys).getD n []) k)=ej then k+1 else ĵ (btL λn=>(y::ys).getD n []) k) [];have eb:btL (λn=>(y::ys).getD n []) (k+1) (ĵ (btL λn=>(y::ys).getD n []) k)=O.fu ys[k] ((y::ys).getD (ĵ (btL λn=>(y::ys).getD n []) k) []):=by rw[Mi,<-e2];rfl
   rw[eb];cases O.fu ys[k] ((y::ys).getD (ĵ (btL λn=>(y::ys).getD n []) k) [])with
   |true=>rw[f6 rfl,f6 rfl,e2]
   |false=>rw[f7 (by decide),f7<|by decide]
def Fy{G:O.Hs}{H:Hp}{xs:List O.Val}{us:List V}{w:List Int}{r:List (List Int)}{y:V}(h2:RVs i.K H xs us)(h3:(w::r).length=us.length)(h5:xs=(w::r).map λn=>.tup<|n.map .int)(hy:us[ĵ (btL λn=>(w::r).getD n [])<|us.length - 1]?=eh y):RV i.K H (.tup<|(O.minR w r).map .int) y:=by
 rw[MX (w::r) ((w::r).length - 1) w r (by simp)<|by simp];rw[<-h3]at hy;have Ϥ:ĵ (btL λn=>(w::r).getD n []) ((w::r).length - 1)<(w::r).length:=by have:=JC (btL λn=>(w::r).getD n [])<|(w::r).length - 1;simp only[Ë]at this ⊢;lia
 generalize hj:ĵ (btL λn=>(w::r).getD n []) ((w::r).length - 1)=j at hy Ϥ ⊢;have hxj:xs[j]?=eh (.tup<|((w::r).getD j []).map .int):=by rw[h5,Ò,Ê Ϥ];simp[ý,Ê Ϥ]
 obtain⟨x2,hx2,rx2⟩:=h2.get hxj;rw[hy]at hx2;cases hx2;exact rx2
def Hi{e:Expr}{p kp kpos:Pos}(hc:X.calm=ej)(hu:X.A.units+1<Ĥ)(hK:X.K=i.K)(hg:Gl X "min")(hm:X.mg "min" = ei)(he:PE X e<|tE X i Φ m)(hs:Ô [e] X.env=[(ez,eval e X.env)]) :
  PE X (.Call (.Name "min" p) [e] [⟨eh "default",.Constant .none kk kp,kpos⟩] ç) (tE X i Φ<|.bi .minD<|.cons m .nil):=by
 refine(Ej hc hu hg hm (ZI he fO<|by rw[hs];rfl) hs).imp λσ H Q ⟨env,G,Qm,Em,p,w,c⟩=>?_;change tE X i Φ m σ H _;refine one p w λv G1 H1 x k1 p1 r q=>?_
 replace q:(O.fE G1 v).wp G1 Qm:=q
 cases v with
 |ref a =>
  cases r.ref_inv;unfold O.fE at q;dsimp only at q;cases z:(O.eU<|G1 a).bind O.rowsOf with
  |none=>rw[z]at q;exact(Zf q).elim
  |some đ =>
   obtain⟨xs,z1,z2⟩:=é.mp z;obtain⟨us,h1,h2⟩:=ZJ p1.hp z1;obtain⟨h3,h4,h5⟩:=NA h2 z2;rw[z]at q;refine⟨a,us,đ,rfl,by rw[hK];exact h1,h3,by rw[hK];exact h4,λe0=>?_,λe0 y hy=>?_⟩
   .subst e0;cases đ with
    |nil=>exact c _ G1 H1 _ k1 p1.hp .non<|Zi q
    |cons _ _=>cases h3
   .cases đ with
    |nil=>exact gc (Ξ.mp h3.symm) e0
    |cons w r =>exact c _ G1 H1 _ k1 p1.hp (Fy (G:=G1) h2 h3 h5 hy)<|Zi q
 |_=>exact(Zf q).elim
structure Md where
 N:List Str
 sc:ż
 cs:List<|String×O.Val
 fs:List String
 cm:Bool
 cl:List String
 ms:List<|String×String
 fl:List String
 xs:List String
abbrev Md.nmOf(c:Md)(j:Nat):Str:=c.N.getD j Str.empty
abbrev Md.vis(c:Md)(x:Str):Bool:=match c.sc.names.lookup x with
 |some .local=>ej
 |some .cell=>ej
 |some .free=>ej
 |_=>ez
abbrev Md.loc(c:Md)(x:Str):Bool:=c.sc.names.lookup x==eh .local||c.sc.names.lookup x==eh .cell
abbrev Md.gl(c:Md)(x:Str):Bool:=c.sc.names.lookup x==eh .globalImplicit
abbrev nm(x:Str):Bool:=!(x==("__debug__" : Str)) && !(x==("__classdict__" : Str)) && !(x==("__name__" : Str))
abbrev dE:Expr:=.Name Str.empty ⟨0,0,0,0⟩
abbrev mix:List (Option Expr)->List Expr->List Expr
 |k::ks,v::vs=>k.getD dE::v::mix ks vs
 |_,_=>[]
abbrev sub:Expr->List Expr
 |.BoolOp _ xs _=>xs
 |.BinOp a _ b _=>[a,b]
 |.UnaryOp _ a _=>[a]
 |.IfExp a b c _=>[a,b,c]
 |.Compare a _ bs _=>a::bs
 |.Call f as ks _=>f::(as++ks.map (·.value))
 |.FormattedValue a _ _ _=>[a]
 |.JoinedStr vs _=>vs
 |.Attribute a _ _=>[a]
 |.Subscript a b _=>[a,b]
 |.List es _=>es
 |.Tuple es _ _=>es
 |.Slice a b c _=>[a.getD dE,b.getD dE,c.getD dE]
 |.ListComp e gs _ _=>e::gs.flatMap λg=>g.target::g.iter::g.ifs
 |.Dict ks vs _=>mix ks vs
 |_=>[]
abbrev kid(x:Expr)(j:Nat):Expr:=(sub x).getD j dE
abbrev num:Expr->Nat
 |.Constant _ k _=>k
 |.Tuple _ k _=>k
 |_=>0
abbrev scp:Expr->ż
 |.ListComp _ _ s _=>s
 |_=>default
abbrev kwp:Expr->Pos
 |.Call _ _ (k::_) _=>k.pos
 |_=>⟨0,0,0,0⟩
abbrev N0:O.Bop->ϓ
 |.add=>.Add
 |.sub=>.Sub
 |.mul=>.Mult
 |.fdiv=>.FloorDiv
 |.mod=>.Mod
 |.pow=>.Pow
abbrev Ww:O.Cop->b6
 |.eq=>.Eq
 |.ne=>.NotEq
 |.lt=>.Lt
 |.le=>.LtE
 |.gt=>.Gt
 |.ge=>.GtE
 |.isin=>.In
 |.notin=>.NotIn
 |.is=>.Is
 |.isnot=>.IsNot
 |.eqE=>.Eq
 |.neE=>.NotEq
 |.ntT=>.IsNot
abbrev Qj:O.Val->Const
 |.non=>.none
 |.bl b=>.bool b
 |.int i=>.int i
 |.str s=>.str<|gg s
 |_=>.ellipsis
abbrev GC:O.Val->Bool
 |.non=>ej
 |.bl _=>ej
 |.int _=>ej
 |.str _=>ej
 |_=>ez
abbrev ZH:O.E->Bool
 |.and _ _=>ej
 |_=>ez
abbrev Yt:O.E->Bool
 |.or _ _=>ej
 |_=>ez
abbrev Zn:O.Tt->Bool
 |.and _ _=>ej
 |_=>ez
abbrev ZA:O.Tt->Bool
 |.or _ _=>ej
 |_=>ez
abbrev rest(b:Bool)(x:Expr):Expr:=match b,x with
 |true,.BoolOp op (_::xs) p=>.BoolOp op xs p
 |_,x=>kid x 1
abbrev flat(b:Bool)(x:Expr):List Expr:=match b with
 |true=>sub x
 |false=>[x]
abbrev Yn:O.Bi->Str
 |.len=>"len"
 |.int=>"int"
 |.str=>"str"
 |.bool=>"bool"
 |.abs=>"abs"
 |.min2=>"min"
 |.max2=>"max"
 |.minL=>"min"
 |.maxL=>"max"
 |.minP=>"min"
 |.maxP=>"max"
 |.minD=>"min"
 |.sum=>"sum"
 |.all=>"all"
 |.any=>"any"
 |.sorted=>"sorted"
 |.sortedI=>"sorted"
 |.sortedSet=>"sorted"
 |.lenSet=>"len"
 |.list=>"list"
 |.tuple=>"tuple"
 |.dict=>"dict"
 |.isi _=>"isinstance"
 |.isx _=>"isinstance"
 |.isc _=>"isinstance"
 |.repr=>"repr"
 |.listRev=>"list"
 |.listRange=>"list"
 |.tupRange=>"tuple"
 |.dictEnum=>"dict"
abbrev PK:O.Bi->Option Str
 |.sortedSet=>eh "set"
 |.lenSet=>eh "set"
 |.listRev=>eh "reversed"
 |.listRange=>eh "range"
 |.tupRange=>eh "range"
 |.dictEnum=>eh "enumerate"
 |_=>ei
abbrev IY(Ts:List String)(x:Expr):Expr:=match Ts with
 |[T]=>.Name (gg T) x.pos
 |Ts=>.Tuple (Ts.zipIdx.map λp=>.Name (gg p.1) (kid x p.2).pos) (num x) x.pos
abbrev Hy(f:O.Bi)(as:List Expr)(x:Expr):List Expr:=match PK f with
 |some y=>[.Call (.Name y (kid (kid x 1) 0).pos) as [] (kid x 1).pos]
 |none=>match f with
  |.isi Ts=>as++[IY Ts<|kid x 2]
  |.isx Ts=>as++[IY Ts<|kid x 2]
  |.isc T=>as++[IY [T]<|kid x 2]
  |_=>as
abbrev OR(f:O.Bi)(x:Expr):List Expr:=match PK f with
 |some _=>(sub<|kid x 1).tail
 |none=>(sub x).tail
abbrev Rx(f:O.Bi)(x:Expr):List aK:=match f with
 |.minD=>[⟨eh "default",.Constant .none (num<|kid x 2) (kid x 2).pos,kwp x⟩]
 |_=>[]
abbrev IR:O.Bm->Str
 |.append=>"append"
 |.extend=>"extend"
 |.pop=>"pop"
 |.popAt=>"pop"
 |.insert=>"insert"
 |.remove=>"remove"
 |.clear=>"clear"
 |.reverse=>"reverse"
 |.index=>"index"
 |.count=>"count"
 |.dget=>"get"
 |.dgetD=>"get"
 |.dpop=>"pop"
 |.dpopD=>"pop"
 |.setdefault=>"setdefault"
 |.join=>"join"
 |.split=>"split"
 |.replace=>"replace"
 |.upper=>"upper"
 |.partition=>"partition"
 |.sidx=>"index"
abbrev XG:List Expr->List (Option Expr)
 |k::_::r=>eh k::XG r
 |_=>[]
abbrev BF:List Expr->List Expr
 |_::v::r=>v::BF r
 |_=>[]
abbrev toP(p:O.Pt)(c:Md)(x:Expr):Expr:=match p with
 |.one j=>.Name (c.nmOf j) x.pos
 |.many js=>.Tuple (js.zipIdx.map λp=>.Name (c.nmOf p.1) (kid x p.2).pos) (num x) x.pos
 |.nest j js=>.Tuple [.Name (c.nmOf j) (kid x 0).pos,.Tuple (js.zipIdx.map λp=>.Name (c.nmOf p.1) (kid (kid x 1) p.2).pos) (num<|kid x 1) (kid x 1).pos] (num x) x.pos
abbrev nmX:Expr->Str
 |.Name x _=>x
 |_=>Str.empty
abbrev Yy:Expr->List Str
 |.Tuple es _ _=>es.map nmX
 |x=>[nmX x]
abbrev Md.blk(c:Md)(sc:ż)(x:List Str)(ô:List Nat):Md :=
 {N:=x++ô.map (λj=>c.N.getD j Str.empty),sc:={sc with names:=sc.names.map λ(n,k)=>if(k == .free&&c.sc.kind == .function&&c.sc.names.lookup n==eh .cell)then(n,.cell)else(n,k)},cs:=c.cs,fs:=c.fs,cm:=c.cm,cl:=c.cl,ms:=c.ms,fl:=c.fl,xs:=c.xs}
abbrev UI:O.E->Bool
 |.cst (.str _)=>ej
 |_=>ez
mutual
noncomputable def toX:O.E->Md->Expr->Expr
 |.cst v,_,x=>.Constant (Qj v) (num x) x.pos
 |.var j,c,x=>.Name (c.nmOf j) x.pos
 |.glob y _,_,x=>.Name (gg y) x.pos
 |.bin o a b,c,x=>.BinOp (toX a c<|kid x 0) (N0 o) (toX b c<|kid x 1) x.pos
 |.neg a,c,x=>.UnaryOp .USub (toX a c<|kid x 0) x.pos
 |.not a,c,x=>.UnaryOp .Not (toX a c<|kid x 0) x.pos
 |.and a b,c,x=>.BoolOp .And (toX a c (kid x 0)::flat (ZH b) (toX b c<|rest (ZH b) x)) x.pos
 |.or a b,c,x=>.BoolOp .Or (toX a c (kid x 0)::flat (Yt b) (toX b c<|rest (Yt b) x)) x.pos
 |.cmp o a b,c,x=>.Compare (toX a c<|kid x 0) [Ww o] [toX b c<|kid x 1] x.pos
 |.chain o1 o2 a b d,c,x=>.Compare (toX a c<|kid x 0) [Ww o1,Ww o2] [toX b c<|kid x 1,toX d c<|kid x 2] x.pos
 |.call f as,c,x=>.Call (.Name (gg f) (kid x 0).pos) (toA as c (sub x).tail) [] x.pos
 |.make C as,c,x=>.Call (.Name (gg C) (kid x 0).pos) (toA as c (sub x).tail) [] x.pos
 |.meth _ m o as,c,x=>.Call (.Attribute (toX o c<|kid (kid x 0) 0) (gg m) (kid x 0).pos) (toA as c (sub x).tail) [] x.pos
 |.fld o f,c,x=>.Attribute (toX o c<|kid x 0) (gg f) x.pos
 |.bi f as,c,x=>.Call (.Name (Yn f) (kid x 0).pos) (Hy f (toA as c<|OR f x) x) (Rx f x) x.pos
 |.bm m o as,c,x=>.Call (.Attribute (toX o c<|kid (kid x 0) 0) (IR m) (kid x 0).pos) (toA as c (sub x).tail) [] x.pos
 |.idx a b,c,x=>.Subscript (toX a c<|kid x 0) (toX b c<|kid x 1) x.pos
 |.slc a lo hi,c,x=>.Subscript (toX a c<|kid x 0) (.Slice (toO lo c<|kid (kid x 1) 0) (toO hi c<|kid (kid x 1) 1) ei (kid x 1).pos) x.pos
 |.rev a,c,x=>.Subscript (toX a c<|kid x 0) (.Slice ei ei (eh<|.UnaryOp .USub (.Constant (.int 1) (num<|kid (kid (kid x 1) 2) 0) (kid (kid (kid x 1) 2) 0).pos) (kid (kid x 1) 2).pos) (kid x 1).pos) x.pos
 |.tup es,c,x=>.Tuple (toA es c<|sub x) (num x) x.pos
 |.key es,c,x=>.Tuple (toA es c<|sub x) (num x) x.pos
 |.dctP,c,x=>.Dict [] [] x.pos
 |.lst es,c,x=>.List (toA es c<|sub x) x.pos
 |.dct es,c,x=>.Dict (XG<|toA es c<|sub x) (BF<|toA es c<|sub x) x.pos
 |.ife t a b,c,x=>.IfExp (toT t c<|kid x 0) (toX a c<|kid x 1) (toX b c<|kid x 2) x.pos
 |.comp ô _ p it t e,c,x=>.ListComp (toX e (c.blk (scp x) (Yy<|kid x 1) ô)<|kid x 0) [⟨toP p (c.blk (scp x) (Yy<|kid x 1) ô)<|kid x 1,toI it c<|kid x 2,toF t (c.blk (scp x) (Yy<|kid x 1) ô)<|kid x 3,0⟩] (scp x) x.pos
 |.fstr es,c,x=>.JoinedStr (toJ es c<|sub x) x.pos
 |.split o a,c,x=>.Call (.Attribute (toX o c<|kid (kid x 0) 0) "split" (kid x 0).pos) [toX a c<|kid x 1] [] x.pos
 |.repl o y z,c,x=>.Call (.Attribute (toX o c<|kid (kid x 0) 0) "replace" (kid x 0).pos) [.Constant (.str<|gg y) (num<|kid x 1) (kid x 1).pos,.Constant (.str<|gg z) (num<|kid x 2) (kid x 2).pos] [] x.pos
noncomputable def toA:O.Es->Md->List Expr->List Expr
 |.nil,_,_=>[]
 |.cons e es,c,xs=>toX e c (xs.headD dE)::toA es c xs.tail
noncomputable def toJ:O.Es->Md->List Expr->List Expr
 |.nil,_,_=>[]
 |.cons e es,c,xs=>(if UI e then toX e c (xs.headD dE)else .FormattedValue (toX e c<|kid (xs.headD dE) 0) (-1) ei (xs.headD dE).pos)::toJ es c xs.tail
noncomputable def toO:O.Oe->Md->Expr->Option Expr
 |.none,_,_=>ei
 |.some e,c,x=>eh<|toX e c x
noncomputable def toT:O.Tt->Md->Expr->Expr
 |.yes,_,x=>x
 |.val e,c,x=>toX e c x
 |.not t,c,x=>.UnaryOp .Not (toT t c<|kid x 0) x.pos
 |.and a b,c,x=>.BoolOp .And (toT a c (kid x 0)::flat (Zn b) (toT b c<|rest (Zn b) x)) x.pos
 |.or a b,c,x=>.BoolOp .Or (toT a c (kid x 0)::flat (ZA b) (toT b c<|rest (ZA b) x)) x.pos
noncomputable def toF:O.Tt->Md->Expr->List Expr
 |.yes,_,_=>[]
 |.val e,c,x=>[toX e c x]
 |.not t,c,x=>[.UnaryOp .Not (toT t c<|kid x 0) x.pos]
 |.and a b,c,x=>[.BoolOp .And (toT a c (kid x 0)::flat (Zn b) (toT b c<|rest (Zn b) x)) x.pos]
 |.or a b,c,x=>[.BoolOp .Or (toT a c (kid x 0)::flat (ZA b) (toT b c<|rest (ZA b) x)) x.pos]
noncomputable def toI:O.It->Md->Expr->Expr
 |.seq e,c,x=>toX e c x
 |.chars e,c,x=>toX e c x
 |.range a,c,x=>.Call (.Name "range" (kid x 0).pos) [toX a c<|kid x 1] [] x.pos
 |.range2 a b,c,x=>.Call (.Name "range" (kid x 0).pos) [toX a c<|kid x 1,toX b c<|kid x 2] [] x.pos
 |.enum e,c,x=>.Call (.Name "enumerate" (kid x 0).pos) [toX e c<|kid x 1] [] x.pos
 |.zip a b,c,x=>.Call (.Name "zip" (kid x 0).pos) [toX a c<|kid x 1,toX b c<|kid x 2] [] x.pos
 |.items e,c,x=>toX e c x
 |.rev e,c,x=>.Call (.Name "reversed" (kid x 0).pos) [toX e c<|kid x 1] [] x.pos
end
abbrev blts:List Str:=["isinstance","int","bool","str","list","tuple","dict","max","min","range","len","sorted","set","all","any","sum","enumerate","zip","reversed","abs","repr","ValueError"]
structure Kls(X:Cx)(i:Inf)(P:O.Pg)(n:Nat)(c:Md):Prop where
 A:ClsA i
 F:∀f,c.fl.contains f=ej->FldOk i f
 mkc:∀C,c.cl.contains C=ej->∃a f,i.ins C=ej/\i.cl C a/\Mk i.K a f/\X.mg (gg C)=eh (.ref a)/\Dfm X.prog X.w X.mg X.base i P n (C ++ ".__init__") f
 mth:∀C m,c.ms.contains (C,m)=ej->∃a f,(∀b,i.cl C b->b=a)/\Cls i.K a/\Meth i.K a (gg m) f/\Dfm X.prog X.w X.mg X.base i P n (C ++ "." ++ m) f
structure Xls(X:Cx)(i:Inf)(c:Md):Prop where
 xc:∀C a,i.xc C a->XCls i.K a/\PySem.W.kitOne i.K (.ref a) (.type "ValueError")=eh ej
 rs:∀C,c.xs.contains C=ej->∃a,i.xc C a/\PyProof.Rows.OwnCls (gg C) a [.type "ValueError",.type "Exception",.type "BaseException",.type "object"] "ValueError.__new__" X.mg X.base
 kn:∀T,(c.xs.contains T||T == "ShutError")=ej->∃D,X.mg (gg T)=eh (.ref D)/\∀C a,i.xc C a->PySem.W.kitOne i.K (.ref a) (.ref D)=eh (O.fP C T)/\(O.fP C T=ej->PySem.W.exmOne i.K (.ref a) (.ref D)=eh ej)
structure Gd(X:Cx)(i:Inf)(P:O.Pg)(n:Nat)(c:Md):Prop where
 K:X.K=i.K
 N:X.N=c.N
 sc:X.env.scope=c.sc
 nd:c.N.Nodup
 un:X.A.units+200<Ĥ
 calm:c.cm=ej->X.calm=ej
 room:c.cm=ej->fj (2*n+1) X.A
 bl:∀x∈blts,X.mg x=ei
 dfs:∀f,c.fs.contains f=ej->Dfo X.prog X.w X.mg X.base i P n f
 cst:∀x v,c.cs.lookup x=eh v->∃u y,X.mg (gg x)=eh u/\RelV y u/\∀H,RV i.K H v y
 kl:Kls X i P n c
 xl:c.xs≠[]->Xls X i c
variable {X:Cx}{i:Inf}{P:O.Pg}{n:Nat}{c:Md}
variable {x:Str}
def Gd.gl(g:Gd X i P n c)(h:c.gl x=ej):Gl X x:=by show X.env.scope.names.lookup x=_;rw[g.sc];exact eq_of_beq h
def Gd.vis(g:Gd X i P n c)(h:c.vis x=ej):Vis X.env.scope x:=by
 unfold Vis;rw[g.sc];unfold Md.vis at h;split at h
 .exact .inl (by assumption)
 .exact .inr (.inl<|by assumption)
 .exact .inr (.inr<|by assumption)
 .cases h
def Gd.loc(g:Gd X i P n c)(h:c.loc x=ej):L2.Loc X.env.scope x:=by
 unfold L2.Loc;rw[g.sc];rcases (Bool.or_eq_true ..).mp h with h|h
 .exact .inl<|eq_of_beq h
 .exact .inr<|eq_of_beq h
def Gd.rm(g:Gd X i P n c)(h:c.cm=ej):fj (2*n) X.A:=(g.room h).mono (Ń _)
def Uf(h:nm x=ej):(x==("__debug__" : Str))=ez/\(x==("__classdict__" : Str))=ez/\x≠"__name__":=by simp only[nm,bAq,ŗ]at h;exact⟨h.1.1,h.1.2,by simpa using h.2⟩
def Zq(e:O.E)(c:Md)(x:Expr)(es:List Expr)(env:Env):Ô (toX e c x::es) env=(ez,eval (toX e c x) env)::Ô es env:=by cases e<;>rfl
def CF(e:O.E)(c:Md)(x:Expr):KZ<|toX e c x:=by intro o j;cases e<;>rfl
variable {op:b6}
def Dh(e:O.E)(c:Md)(x:Expr):ļ op (toX e c x)=ez:=by cases e<;>rfl
def Ht(e:O.E)(c:Md)(x:Expr)(env:Env):∀y,ĕ (toX e c x) env y=pure y:=by intro y;cases e<;>rfl
abbrev YA:Expr->Bool
 |.Call (.Name _ _) [] _ _=>ez
 |_=>ej
variable {e:Expr}
def Ys(h:YA e=ej)(f:Str)(env:Env):Ġ e f env (eval e env)=eval e env:=by
 cases e with
 |Call g as ks p =>
  cases as with
  |cons _ _=>cases g<;>rfl
  |nil=>cases g with
   |Name x q=>cases h
   |_=>rfl
 |_=>rfl
abbrev Zc:O.Es->Nat
 |.nil=>0
 |.cons _ es=>Zc es+1
def XI:∀(es:O.Es) (c:Md) (xs:List Expr),(toA es c xs).length=Zc es
 |.nil,_,_=>rfl
 |.cons _ es,c,xs=>by show(toA es c xs.tail).length+1=_;rw[XI es];rfl
def Yj(env:Env)(ç:Pos):∀(es:O.Es) (c:Md) (xs:List Expr),(ĝ ç<|Ô (toA es c xs) env).any (·.1)=ez
 |.nil,_,_=>rfl
 |.cons e es,c,xs=>by show(ĝ ç<|Ô (toX e c (xs.headD dE)::toA es c xs.tail) env).any (·.1)=ez;rw[Zq];show(ez||(ĝ ç<|Ô (toA es c xs.tail) env).any (·.1))=ez;rw[Yj env ç es];rfl
def JF(env:Env)(ç:Pos):∀(es:O.Es) (c:Md) (xs:List Expr),(ĝ ç<|Ô (toA es c xs) env).all (λx=>!x.1)=ej
 |.nil,_,_=>rfl
 |.cons e es,c,xs=>by show(ĝ ç<|Ô (toX e c (xs.headD dE)::toA es c xs.tail) env).all (λx=>!x.1)=ej;rw[Zq];show(ej&&(ĝ ç<|Ô (toA es c xs.tail) env).all (λx=>!x.1))=ej;rw[JF env ç es];rfl
abbrev Zy:O.Pt->Bool
 |.one _=>ej
 |_=>ez
def KJ(p:O.Pt)(x:Expr):((!Zy p)=ej->∃es k q,toP p c x=.Tuple es k q)/\((!Zy p)=ez->∃y q,toP p c x=.Name y q):=by
 cases p with
 |one j=>exact⟨λz=>(by cases z),λ_=>⟨_,_,rfl⟩⟩
 |many js=>exact⟨λ_=>⟨_,_,_,rfl⟩,λz=>(by cases z)⟩
 |nest j js=>exact⟨λ_=>⟨_,_,_,rfl⟩,λz=>(by cases z)⟩
abbrev BV(X:Cx)(c:Md)(j:Nat):Prop:=X.N[j]?=eh (c.nmOf j)/\L2.Loc X.env.scope (c.nmOf j)/\(X.fn (c.nmOf j)=ej\/X.env.scope.names.lookup (c.nmOf j)=eh .local)
abbrev Gc(q:Nat->Prop):O.Pt->Prop
 |.one j=>q j
 |.many js=>∀j∈js,q j
 |.nest j js=>q j/\∀k∈js,q k
def MA{X:Cx}{c:Md}(nd:X.N.Nodup)(f:Nat->Pos):∀(js:List Nat) (k:Nat),(∀j∈js,BV X c j)->
  PGs X ((js.zipIdx k).map λp=>.Name (c.nmOf p.1)<|f p.2) (BO i js)/\(ę ((js.zipIdx k).map λp=>.Name (c.nmOf p.1)<|f p.2) X.env).length=js.length/\(ę ((js.zipIdx k).map λp=>.Name (c.nmOf p.1)<|f p.2) X.env).findIdx? (·.1)=ei
 |[],_,_=>⟨ED,rfl,rfl⟩
 |j::js,k,h=>by
  obtain⟨h1,h2,h3⟩:=h j (by simp);obtain⟨a1,a2,a3⟩:=MA nd f js (k+1) λl hl=>h l (by simp[hl]);rw[List.zipIdx_cons,Ï];refine⟨C3 nd h1 h2 h3 a1 rfl,?_,?_⟩
  .show(ę ((js.zipIdx<|k+1).map _) X.env).length+1=js.length+1;rw[a2]
  .show List.findIdx? (·.1) ((ez,ž (.Name (c.nmOf j)<|f k) X.env)::ę _ X.env)=ei;rw[List.findIdx?_cons];simp[a3]
def Gm(hK:X.K=i.K)(nd:X.N.Nodup)(hc:X.calm=ej){p:O.Pt}{x:Expr}(h:Gc (BV X c) p):PG X (toP p c x)<|gPt i p:=by
 cases p with
 |one j=>exact NW nd h.1 h.2.1 h.2.2
 |many js =>obtain⟨a1,a2,a3⟩:=MA nd (λk=>(kid x k).pos) js 0 h;exact OT hK hc a1 a2 a3
 |nest j js =>obtain⟨h0,h⟩:=h;obtain⟨a1,a2,a3⟩:=MA nd (λk=>(kid (kid x 1) k).pos) js 0 h;exact F0 hK hc (NW nd h0.1 h0.2.1 h0.2.2)<|OT hK hc a1 a2 a3
variable {Φ:O.Fs} {a:O.E} {b:O.E} {l:Expr} {ç:Pos}
def Qk(g:Gd X i P n c){o:O.Bop}{r:Expr}(ha:PE X l<|tE X i Φ a)(hb:PE X r<|tE X i Φ b):PE X (.BinOp l (N0 o) r ç)<|tE X i Φ<|.bin o a b:=by
 cases o with
 |add=>exact Kl L6 (by rw[g.K];exact b_add) ha hb
 |sub=>exact Kl Ik b_sub ha hb
 |mul=>exact Kl Qx b_mul ha hb
 |fdiv=>exact Kl EI b_fdiv ha hb
 |mod=>exact Kl Lh b_mod ha hb
 |pow=>exact Kl Li b_pow ha hb
abbrev Wa:O.Cop->Bool
 |.is=>ej
 |.isnot=>ej
 |.ntT=>ej
 |.neE=>ej
 |_=>ez
variable {o:O.Cop}
def Oj(g:Gd X i P n c)(h:Wa o=ez):∃r,OpR X (è<|Ww o) r/\ZV i o r:=by
 have u65:X.A.units+65<Ĥ:=by have:=g.un;lia
 have u64:X.A.units+64<Ĥ:=by have:=g.un;lia
 have u0:X.A.units<Ĥ:=by have:=g.un;lia
 cases o with
 |eq=>exact⟨_,GY u64,by rw[g.K];exact QS⟩
 |ne=>exact⟨_,Hc u64,by rw[g.K];exact RG⟩
 |lt=>exact⟨_,Rg u0,by rw[g.K];exact c_lt⟩
 |le=>exact⟨_,Ph,c_le⟩
 |gt=>exact⟨_,Q0 u0,by rw[g.K];exact c_gt⟩
 |ge=>exact⟨_,Px,c_ge⟩
 |isin=>exact⟨_,Rn u65,by rw[g.K];exact QP⟩
 |notin=>exact⟨_,Rv u65,by rw[g.K];exact Rq⟩
 |eqE=>exact⟨_,Dt u64,by rw[g.K];exact c_eqE⟩
 |_=>cases h
def GW{v:O.Val}{j:Nat}(h:GC v=ej):PE X (.Constant (Qj v) j ç)<|tE X i Φ<|.cst v:=by
 cases v with
 |non=>exact WD Bo λ_=>.non
 |bl b=>exact WD QC λ_=>.bl _
 |int k=>exact WD NV λ_=>.int _
 |str s=>exact WD pe_str λ_=>.str _
 |_=>cases h
abbrev M6:O.E->Bool
 |.cst .non=>ej
 |_=>ez
def EN{e:O.E}(h:M6 e=ej):e=.cst .non:=by
 cases e with
 |cst v=>cases v with
  |non=>rfl
  |_=>cases h
 |_=>cases h
variable {y:Expr}
def MO(hn:∀G v d,O.eY G o v .non≠eh d)(ha:PE X l<|tE X i Φ a)(hb:PE X y<|tE X i Φ<|.cst .non)(hm:ļ op y=ez) :
  PE X (.Compare l [op] [y] ç) (tE X i Φ<|.cmp o a<|.cst .non)/\PT X (.Compare l [op] [y] ç) (tTt X i Φ<|.val<|.cmp o a<|.cst .non):=by
 have ho:OpR X (è op) λ_ _ _ _=>False:=λ_ _ _ _ _ _ _ _ _ _ _ _ h=>h.elim;refine⟨(Ue ho ha hb hm).imp λσ H Q ⟨env,G,Qm,Em,p,w,c⟩=>?_,(OO ho ha hb hm).imp λσ H Q ⟨env,G,Qm,Em,p,w,c⟩=>?_⟩
 .refine one p w λv G1 H1 x k1 p1 r q=>?_;obtain⟨d,e,_⟩:=eK q;exact gc e<|hn G1 v d
 .refine one p w λv G1 H1 x k1 p1 r q=>?_;obtain⟨d,e,_⟩:=eK q;exact gc e<|hn G1 v d
def NI(g:Gd X i P n c){x:Expr}(h:(!Wa o||M6 b)=ej)(ha:PE X l<|tE X i Φ a)(hb:PE X (toX b c x)<|tE X i Φ b) :
  PE X (.Compare l [Ww o] [toX b c x] ç) (tE X i Φ<|.cmp o a b)/\PT X (.Compare l [Ww o] [toX b c x] ç) (tTt X i Φ<|.val<|.cmp o a b):=by
 cases z:Wa o with
 |false =>obtain⟨r,h1,h2⟩:=Oj g z;exact⟨LU h1 h2 ha hb<|Dh _ _ _,LC h1 h2 ha hb<|Dh _ _ _⟩
 |true =>
  rw[z]at h;cases EN h;cases o with
  |is=>exact⟨Qe ha,Ix ha⟩
  |isnot=>exact⟨Lc ha,Fw ha⟩
  |ntT=>exact MO (λG v d e=>by cases v<;>simp[O.eY,O.asLst]at e) ha hb<|Dh _ _ _
  |neE=>exact MO (λG v d e=>by cases v<;>simp[O.eY,O.asLst]at e) ha hb<|Dh _ _ _
  |_=>cases z
def W7(g:Gd X i P n c){o1 o2:O.Cop}{d:O.E}{x:Expr}(h1:Wa o1=ez)(h2:Wa o2=ez)(ha:PE X l<|tE X i Φ a)(hb:PE X y<|tE X i Φ b)(hd:PE X (toX d c x)<|tE X i Φ d) :
  PE X (.Compare l [Ww o1,Ww o2] [y,toX d c x] ç) (tE X i Φ<|.chain o1 o2 a b d)/\PT X (.Compare l [Ww o1,Ww o2] [y,toX d c x] ç) (tTt X i Φ<|.val<|.chain o1 o2 a b d):=by
 obtain⟨r1,a1,a2⟩:=Oj g h1;obtain⟨r2,b1,b2⟩:=Oj g h2;have hm:bb [Ww o1,Ww o2] [y,toX d c x]=ez:=Dh _ _ _;exact⟨FB a1 a2 b1 b2 ha hb hd hm,Da a1 a2 b1 b2 ha hb hd hm⟩
def Iq{m:O.E}(h:PE X e<|tE X i Φ m)(he:∀av,bZ e X.env av=(do let v<-av;Χ e.pos;Ŋ [v] (truthy v)))(hK:X.K=i.K):PT X e<|tTt X i Φ<|.val m:=by
 refine(A2 h he).imp λσ H Q ⟨env,G,Qm,Em,p,w,c⟩=>?_;refine one p w λv G1 H1 x k1 p1 r q=>?_;obtain⟨d,e1,q2⟩:=eK q;clear q;refine⟨d,?_,c d G1 H1 k1 p1.hp q2⟩;cases v with
 |non=>cases r;cases e1;rfl
 |bl b=>cases r;cases e1;rfl
 |int b =>
  cases r;cases e1;show gf (b≠0)=(b != 0)
  by_cases e:b=0<;>simp[e]
 |key _ _=>cases e1
 |str b =>
  cases r;obtain⟨hl,e1⟩:=Zo e1;cases e1;refine⟨by rw[Zs];exact Ý hl ZL,?_⟩;rw[Zs];by_cases e:b.length=0
  .rw[e];rfl
  .rw[f9 e];symm;simpa using (by lia:¬ ((b.length:Int)=0))
 |tup xs =>
  cases e1;cases r with
  |tup hp hr =>refine .inr (.inl ⟨_,by rw[hK];exact Zk hp,?_⟩);cases hr<;>rfl
 |scr ns =>
  cases e1;cases r with
  |scr h =>refine .inl ⟨_,by rw[hK];exact Z0 h,?_⟩;cases ns<;>rfl
 |ref a =>
  cases r.ref_inv
  replace e1:(match G1 a with|some (.lst xs)=>eh (!xs.isEmpty)|some (.dct kvs)=>eh (!kvs.isEmpty)|_=>ei)=eh d:=e1
  cases z:G1 a with
  |none=>rw[z]at e1;cases e1
  |some o =>
   rw[z]at e1;cases o with
   |lst xs =>cases e1;obtain⟨vs,h1,h2⟩:=p1.hp a _ z;refine .inl ⟨vs,fQ.of h1,?_⟩;cases h2<;>rfl
   |dct kvs =>cases e1;obtain⟨ps,h1,h2⟩:=p1.hp a _ z;refine .inr<|.inr ⟨ps,h1,?_⟩;cases h2<;>rfl
   |_=>cases e1
abbrev Md.gn(c:Md)(y:String):Bool:=c.gl (gg y)&&nm (gg y)
abbrev XE:O.Bi->Bool
 |.len=>ej
 |.int=>ej
 |.min2=>ej
 |.max2=>ej
 |.all=>ej
 |.list=>ej
 |.tuple=>ej
 |.sortedI=>ej
 |_=>ez
abbrev F3:O.Bi->Option String
 |.isi [T]=>eh T
 |_=>ei
abbrev EO:O.Bi->Option (List String)
 |_=>ei
abbrev X1:O.Bi->Bool
 |.lenSet=>ej
 |_=>ez
abbrev WW:O.Bi->Bool
 |.sortedSet=>ej
 |_=>ez
abbrev BR:O.Bi->Str
 |.listRev=>"reversed"
 |.sortedSet=>"set"
 |_=>"range"
abbrev OY:O.Bi->Bool
 |_=>ez
abbrev Ui:O.Bi->Bool
 |_=>ez
abbrev Nw:O.Bi->String
 |.isc T=>T
 |_=>""
abbrev Me:O.Bi->Bool
 |.minD=>ej
 |_=>ez
abbrev BX:O.Bi->Option (List String)
 |_=>ei
abbrev Md.xn(c:Md)(T:String):Bool:=(c.xs.contains T||T == "ShutError")&&c.gn T
abbrev Wj:O.Bi->Bool
 |.len=>ej
 |.int=>ej
 |.list=>ej
 |.tuple=>ej
 |_=>ez
abbrev Id(c:Md)(Ts:List String):Bool:=match Ts with
 |[T]=>c.xn T||(T == "ValueError" && c.gl (gg T))
 |Ts=>Ts.all c.xn&&gf (Ts.length<=20)
abbrev Dr:O.Bm->Option Nat
 |.append=>eh 1
 |.popAt=>eh 1
 |.dget=>eh 1
 |.dpop=>eh 1
 |.dpopD=>eh 2
 |_=>ei
abbrev Uq:O.Tt->Bool
 |.yes=>ej
 |_=>ez
abbrev N5:O.E->Bool
 |.var _=>ej
 |.call _ _=>ej
 |.meth _ _ _ _=>ej
 |.bi _ _=>ej
 |.bm _ _ _=>ej
 |.idx _ _=>ej
 |.fld _ _=>ej
 |.glob _ _=>ej
 |_=>ez
abbrev PP:O.E->Bool
 |.cmp _ _ _=>ej
 |.chain _ _ _ _ _=>ej
 |_=>ez
mutual
noncomputable def okE:O.E->Md->Expr->Bool
 |.cst v,_,_=>GC v
 |.var j,c,_=>gf (j<c.N.length)&&c.vis (c.nmOf j)&&nm (c.nmOf j)
 |.glob y v,c,_=>c.gn y&&gf (c.cs.lookup y=eh v)
 |.bin _ a b,c,x=>okE a c (kid x 0)&&okE b c (kid x 1)
 |.neg a,c,x=>okE a c<|kid x 0
 |.not a,c,x=>okE a c<|kid x 0
 |.and a b,c,x=>okE a c (kid x 0)&&okE b c (rest (ZH b) x)&&(!ZH b||(rest (ZH b) x).pos==x.pos)
 |.or a b,c,x=>okE a c (kid x 0)&&okE b c (rest (Yt b) x)&&(!Yt b||(rest (Yt b) x).pos==x.pos)
 |.cmp o a b,c,x=>okE a c (kid x 0)&&okE b c (kid x 1)&&(!Wa o||M6 b)
 |.chain o1 o2 a b d,c,x=>okE a c (kid x 0)&&okE b c (kid x 1)&&okE d c (kid x 2) && !Wa o1 && !Wa o2
 |.call f as,c,x=>c.gn f&&c.fs.contains f&&c.cm&&okA as c (sub x).tail
 |.make C as,c,x=>c.gn C&&c.cl.contains C&&c.cm&&gf (Zc as≠0)&&okA as c (sub x).tail
 |.meth C m o as,c,x=>c.ms.contains (C,m)&&c.cm&&okE o c (kid (kid x 0) 0)&&YA (toX o c<|kid (kid x 0) 0)&&((kid x 0).pos.endLine==x.pos.line)&&gf (Zc as<20)&&okA as c (sub x).tail
 |.fld o f,c,x=>c.fl.contains f&&okE o c (kid x 0)&&YA (toX o c<|kid x 0)
 | .bi f as,c,x=>(match F3 f with
   |some T=>gf (Zc as=1)&&kinds.contains T&&c.gl "isinstance" && c.gl (gg T)
   |none=>match EO f with
     |some Ts=>gf (Zc as=1)&&c.gl "isinstance" && !c.xs.isEmpty&&Id c Ts
     |none=>match BX f with
       |some Ts=>gf (Zc as=1)&&c.gl "isinstance" && Ts.all (λT=>kinds.contains T&&c.gl (gg T))&&gf (Ts.length<=20)
       | none=>if X1 f then gf (Zc as=1)&&c.gl "len" && c.gl "set" && c.cm else if WW f then gf (Zc as=1)&&c.gl (Yn f)&&c.gl (BR f)&&c.cm else if Me f then gf (Zc as=1)&&c.gl "min" && c.cm else if OY f then gf (Zc as=1)&&c.gl "dict" && c.gl "enumerate" && c.cm else if Ui f then gf (Zc as=1)&&c.gl "isinstance" && c.gn (Nw f)&&c.cl.contains (Nw f)else XE f&&c.gl (Yn f)&&gf (Zc as≠0)&&(c.cm||Wj f))&&okA as c (OR f x)
 |.bm m o as,c,x=>gf (Dr m=eh (Zc as))&&okE o c (kid (kid x 0) 0)&&YA (toX o c<|kid (kid x 0) 0)&&((kid x 0).pos.endLine==x.pos.line)&&okA as c (sub x).tail
 |.idx a b,c,x=>okE a c (kid x 0)&&okE b c (kid x 1)
 |.slc a lo hi,c,x=>okE a c (kid x 0)&&okO lo c (kid (kid x 1) 0)&&okO hi c (kid (kid x 1) 1)
 |.tup es,c,x=>okA es c (sub x)&&gf (Zc es<=1000)
 |.lst es,c,x=>okA es c (sub x)&&gf (Zc es<=1000)
 |.dct es,c,x=>okA es c (sub x)&&W4 es&&gf (esL es<=30)
 |.ife t a b,c,x=>okT t c (kid x 0)&&okE a c (kid x 1)&&okE b c (kid x 2)
 |.comp ô m p it t e,c,x=>(Oa m p&&(Yy<|kid x 1).length==m)&&c.cm&&Z8 (scp x) c.sc c.N (Yy<|kid x 1) ô&&(scp x).kind == .function&&okI it c (kid x 2) (!Zy p)&&okE e (c.blk (scp x) (Yy<|kid x 1) ô) (kid x 0)&&(Uq t||okT t (c.blk (scp x) (Yy<|kid x 1) ô) (kid x 3))
 |_,_,_=>ez
noncomputable def okA:O.Es->Md->List Expr->Bool
 |.nil,_,_=>ej
 |.cons e es,c,xs=>okE e c (xs.headD dE)&&okA es c xs.tail
noncomputable def okJ:O.Es->Md->List Expr->Bool
 |.nil,_,_=>ej
 |.cons e es,c,xs=>(UI e||okE e c (kid (xs.headD dE) 0))&&okJ es c xs.tail
noncomputable def okO:O.Oe->Md->Expr->Bool
 |.none,_,_=>ej
 |.some e,c,x=>okE e c x
noncomputable def okT:O.Tt->Md->Expr->Bool
 |.yes,_,_=>ez
 |.val e,c,x=>okE e c x&&(N5 e||PP e)
 |.not t,c,x=>okT t c<|kid x 0
 |.and a b,c,x=>okT a c (kid x 0)&&okT b c (rest (Zn b) x)&&(!Zn b||(rest (Zn b) x).pos==x.pos)
 |.or a b,c,x=>okT a c (kid x 0)&&okT b c (rest (ZA b) x)&&(!ZA b||(rest (ZA b) x).pos==x.pos)
noncomputable def okI:O.It->Md->Expr->Bool->Bool
 |.seq e,c,x,_=>okE e c x
 |.range a,c,x,_=>c.gl "range" && okE a c (kid x 1)
 |.range2 a b,c,x,_=>c.gl "range" && okE a c (kid x 1)&&okE b c (kid x 2)
 |.enum e,c,x,t=>t&&c.gl "enumerate" && okE e c (kid x 1)
 |_,_,_,_=>ez
end
variable {X:Cx}{i:Inf}{P:O.Pg}{n:Nat}{c:Md}
variable {f:O.Bi} {e:Expr} {es:List Expr} {q:Pos} {p:Pos} {l:Nat}
def E1(g:Gd X i P n c)(hp:XE f=ej)(dP:(c.cm||Wj f)=ej){as:O.Es}(hg:Gl X<|Yn f)(ha:PA X (e::es)<|tAr X i (O.wF P n) as l)
  (he:Ô (e::es) X.env=(ez,eval e X.env)::Ô es X.env) (hpl:(ĝ p<|Ô es X.env).any (·.1)=ez):PE X (.Call (.Name (Yn f) q) (e::es) [] p)<|tE X i (O.wF P n)<|.bi f as:=by
 have hc:Wj f=ez->X.calm=ej:=λz=>g.calm (by rw[z,Ϫ]at dP;exact dP);cases f with
 |len=>exact(Z4 ((call_len_seq.or Mb).or Ay) hg (g.bl _<|by simp[blts,Yn]) (by kernel_rfl) ha (he:=he) (hpl:=hpl)).imp (Wo<|by rw[g.K];exact Iu)
 |int=>exact(Xh (call_int1.or JU) hg (g.bl _<|by simp[blts,Yn]) (by kernel_rfl) ha (he:=he) (hpl:=hpl)).imp<|Wo HJ
 |min2=>exact(Z4 (U9<|hc rfl) hg (g.bl _<|by simp[blts,Yn]) (by kernel_rfl) ha (he:=he) (hpl:=hpl)).imp<|Wo FG
 |max2=>exact(Z4 (AM<|hc rfl) hg (g.bl _<|by simp[blts,Yn]) (by kernel_rfl) ha (he:=he) (hpl:=hpl)).imp<|Wo FT
 |all=>exact(Z4 (CB<|hc rfl) hg (g.bl _<|by simp[blts,Yn]) (by kernel_rfl) ha (he:=he) (hpl:=hpl)).imp (Wo<|by rw[g.K];exact HY)
 |list=>exact(Xh Mu hg (g.bl _<|by simp[blts,Yn]) (by kernel_rfl) ha (he:=he) (hpl:=hpl)).imp (Wo<|by rw[g.K];exact E7)
 |sortedI=>exact(Z4 (call_sorted.or<|KI<|hc rfl) hg (g.bl _<|by simp[blts,Yn]) (by kernel_rfl) ha (he:=he) (hpl:=hpl)).imp (Wo<|by rw[g.K];exact OG)
 |tuple=>exact(Xh JR hg (g.bl _<|by simp[blts,Yn]) (by kernel_rfl) ha (he:=he) (hpl:=hpl)).imp (Wo<|by rw[g.K];exact Dm)
 |_=>cases hp
variable {T:String}
def IE(h:F3 f=eh T):f=.isi [T]:=by
 cases f with
 |isi Ts =>
  cases Ts with
  |nil=>cases h
  |cons a r=>cases r with
   |nil=>cases h;rfl
   |cons _ _=>cases h
 |_=>cases h
def Cr(g:Gd X i P n c){m:O.E}{p2 ç:Pos}(hT:T∈kinds)(h2:c.gl "isinstance" = ej)(h5:c.gl (gg T)=ej)(he:PE X e<|tE X i (O.wF P n) m)(ſ:Ô [e,.Name (gg T) p2] X.env=(ez,eval e X.env)::Ô [.Name (gg T) p2] X.env) :
  PE X (.Call (.Name "isinstance" p) [e,.Name (gg T) p2] [] ç) (tE X i (O.wF P n)<|.bi (.isi [T])<|.cons m .nil):=by
 have dO:=hT;simp only[kinds,Ç,Þ,or_false]at dO;refine Qa hT he g.K (g.gl h2) (g.bl _<|by simp[blts]) (g.gl h5) ?_ ?_ ?_ ?_ ſ
 .rcases dO with rfl|rfl|rfl|rfl|rfl|rfl<;>exact g.bl _ (by simp[blts])
 .rcases dO with rfl|rfl|rfl|rfl|rfl|rfl<;>kernel_rfl
 .rcases dO with rfl|rfl|rfl|rfl|rfl|rfl<;>decide
 .rcases dO with rfl|rfl|rfl|rfl|rfl|rfl<;>decide
variable {m:O.Bm} {o:Expr} {mo:O.E} {ŉ:Pos} {ř:Pos}
def B3(g:Gd X i P n c)(h:Dr m=eh 0)(ho:PE X o<|tE X i (O.wF P n) mo)(hb:∀f,Ġ o f X.env (eval o X.env)=eval o X.env)(hl:(ŉ.endLine==ř.line)=ej) :
  PE X (.Call (.Attribute o (IR m) ŉ) [] [] ř) (tE X i (O.wF P n)<|.bm m mo .nil):=by
 cases m with
 |_=>cases h
def D0(g:Gd X i P n c){k:Nat}(h:Dr m=eh (k+1)){ms:O.Es}(ho:PE X o<|tE X i (O.wF P n) mo)(ha:PA X (e::es)<|tAr X i (O.wF P n) ms l)(hb:∀f,Ġ o f X.env (eval o X.env)=eval o X.env)(hl:(ŉ.endLine==ř.line)=ej)
  (az:((ĝ ř<|Ô (e::es) X.env).all (λx=>!x.1)&&(ŷ ř<|ņ [] X.env).all (λx=>x.1.isSome)&&gf ((e::es).length+([]:List aK).length+(if([]:List aK).isEmpty then 0 else 1)<30))=ej)
  (hs:Ô (e::es) X.env=(ez,eval e X.env)::Ô es X.env) (hpl:(ĝ ř<|Ô es X.env).any (·.1)=ez) :
  PE X (.Call (.Attribute o (IR m) ŉ) (e::es) [] ř) (tE X i (O.wF P n)<|.bm m mo ms):=by
 have u1:X.A.units+1<Ĥ:=by have:=g.un;lia
 cases m with
 |append=>exact Dy g.K PySem.F.plainAttrs_list PySem.F.slot_list_append PySem.F.type_list_append U7 (P5 rfl) Hh ho ha (hb _) az hl hs hpl
 |popAt=>exact Dy g.K PySem.F.plainAttrs_list PySem.F.slot_list_pop PySem.F.type_list_pop Bw (P5 rfl) DT ho ha (hb _) az hl hs hpl
 |dget=>exact Dy g.K PySem.F.plainAttrs_dict PySem.F.slot_dict_get PySem.F.type_dict_get (Dk u1) (Hl rfl) G7 ho ha (hb _) az hl hs hpl
 |dpop=>exact Dy g.K PySem.F.plainAttrs_dict PySem.F.slot_dict_pop PySem.F.type_dict_pop mt_dpop (Hl rfl) Ic ho ha (hb _) az hl hs hpl
 |dpopD=>exact Dy g.K PySem.F.plainAttrs_dict PySem.F.slot_dict_pop PySem.F.type_dict_pop (mt_dpop.or Bp) (Hl rfl) Fz ho ha (hb _) az hl hs hpl
 |_=>cases h
variable {sc:ż} {ô:List Nat}
def Gd.blk(g:Gd X i P n c){x:List Str}(hb:Z8 sc c.sc c.N x ô=ej)(hk:sc.kind=.function)(cl:List<|Str×È)(C:È)(s:Å)(H:Hp)(ex:List È) :
  Gd (Zr X sc (ZX X x ô) cl C s H ex) i P n (c.blk sc x ô) where
 K:=g.K
 N:=by show ZX X x ô=_;unfold ZX;rw[g.N];rfl
 sc:=by show bP sc X.env=_;unfold bP Env.kindOf;rw[g.sc];rfl
 nd:=by have B:=Ou g.sc g.N hk hb;have:=B.nd;unfold ZX at this;rw[g.N]at this;exact this
 un:=g.un
 calm:=g.calm
 room:=g.room
 bl:=g.bl
 dfs:=g.dfs
 cst:=g.cst
 kl:=⟨g.kl.A,g.kl.F,g.kl.mkc,g.kl.mth⟩
 xl:=λh=>⟨(g.xl h).xc,(g.xl h).rs,(g.xl h).kn⟩
def Gd.pt(g:Gd X i P n c)(dP:c.cm=ej){xs:List Str}(hb:Z8 sc c.sc c.N xs ô=ej)(hk:sc.kind=.function){p:O.Pt}(hp:Oa xs.length p=ej)(x:Expr)(cl:List<|Str×È)(C:È)(s:Å)(H:Hp)(ex:List È) :
  PG (Zr X sc (ZX X xs ô) cl C s H ex) (toP p (c.blk sc xs ô) x) (gPt i p):=by
 have B:=Ou g.sc g.N hk hb;have G:=g.blk hb hk cl C s H ex;have key:∀j,j<xs.length->BV (Zr X sc (ZX X xs ô) cl C s H ex) (c.blk sc xs ô) j:=λj hj=>by
  have e:(c.blk sc xs ô).nmOf j=xs[j]:=by unfold Md.nmOf Md.blk;show(xs++_).getD j _=_;rw[ý,Ċ hj,Ê hj];rfl
  have lo:=lookup_relabel_local (env:=X.env)<|B.own xs[j]<|Ŝ hj;unfold BV;rw[e];refine⟨?_,.inl lo,.inr lo⟩;show(xs++_)[j]?=_;rw[Ċ hj,Ê hj]
 refine Gm G.K (by rw[G.N];exact G.nd) (g.calm dP) ?_;cases p with
 |one j=>exact key j<|of_decide_eq_true hp
 |many js=>exact λj hj=>key j<|of_decide_eq_true<|ò.mp hp j hj
 |nest j js=>cases hp
variable {b:O.E}
def UB(h:ZH b=ej):∃a d,b=.and a d:=by
 cases b with
 |and a d=>exact⟨a,d,rfl⟩
 |_=>cases h
def A6(h:Yt b=ej):∃a d,b=.or a d:=by
 cases b with
 |or a d=>exact⟨a,d,rfl⟩
 |_=>cases h
def Ba{b:O.Tt}(h:Zn b=ej):∃a d,b=.and a d:=by
 cases b with
 |and a d=>exact⟨a,d,rfl⟩
 |_=>cases h
def Ff{b:O.Tt}(h:ZA b=ej):∃a d,b=.or a d:=by
 cases b with
 |or a d=>exact⟨a,d,rfl⟩
 |_=>cases h
def Mn{b:Bool}(h:(!b||p==q)=ej)(hb:b=ej):p=q:=by rw[hb]at h;exact eq_of_beq h
variable {Φ:O.Fs} {x:Expr}
def AR(hp:(!ZH b||(rest (ZH b) x).pos==x.pos)=ej)(h:PE X (toX b c<|rest (ZH b) x)<|tE X i Φ b):PE X (.BoolOp .And (flat (ZH b)<|toX b c<|rest (ZH b) x) x.pos)<|tE X i Φ b:=by
 cases z:ZH b with
 |false=>rw[z]at h;exact CZ h
 |true =>have e:=Mn hp z;rw[z]at e h;obtain⟨a,d,rfl⟩:=UB z;show PE X (.BoolOp .And (sub<|.BoolOp .And _ (rest ej x).pos) x.pos) _;rw[<-e];exact h
def FH(hp:(!Yt b||(rest (Yt b) x).pos==x.pos)=ej)(h:PE X (toX b c<|rest (Yt b) x)<|tE X i Φ b):PE X (.BoolOp .Or (flat (Yt b)<|toX b c<|rest (Yt b) x) x.pos)<|tE X i Φ b:=by
 cases z:Yt b with
 |false=>rw[z]at h;exact CZ h
 |true =>have e:=Mn hp z;rw[z]at e h;obtain⟨a,d,rfl⟩:=A6 z;show PE X (.BoolOp .Or (sub<|.BoolOp .Or _ (rest ej x).pos) x.pos) _;rw[<-e];exact h
def KA(b:Bool){e:O.E}(h:b=ZH e\/b=Yt e):∃y ys,flat b (toX e c x)=y::ys:=by
 cases b with
 |false=>exact⟨_,_,rfl⟩
 |true =>
  rcases h with h|h
  .obtain⟨a,d,rfl⟩:=UB h.symm;exact⟨_,_,rfl⟩
  .obtain⟨a,d,rfl⟩:=A6 h.symm;exact⟨_,_,rfl⟩
variable {i:Inf}{P:O.Pg}{n:Nat}
variable {X:Cx} {c:Md} {Φ:O.Fs} {b:O.Tt} {x:Expr}
def As(hp:(!Zn b||(rest (Zn b) x).pos==x.pos)=ej)(h:PT X (toT b c<|rest (Zn b) x)<|tTt X i Φ b)(h2:(Zn b||ZA b)=ej->PW X (toT b c<|rest (Zn b) x) (tTt X i Φ b)) :
  ∃y ys,flat (Zn b) (toT b c<|rest (Zn b) x)=y::ys/\PW X (.BoolOp .And (y::ys) x.pos) (tTt X i Φ b):=by
 cases z:Zn b with
 |false=>rw[z]at h;exact⟨_,_,rfl,DS h⟩
 |true =>have e:=Mn hp z;rw[z]at e h2;obtain⟨a,d,rfl⟩:=Ba z;refine⟨_,_,rfl,?_⟩;rw[<-e];exact h2 rfl
def AX(hp:(!ZA b||(rest (ZA b) x).pos==x.pos)=ej)(h:PT X (toT b c<|rest (ZA b) x)<|tTt X i Φ b)(h2:(Zn b||ZA b)=ej->PW X (toT b c<|rest (ZA b) x) (tTt X i Φ b)) :
  ∃y ys,flat (ZA b) (toT b c<|rest (ZA b) x)=y::ys/\PW X (.BoolOp .Or (y::ys) x.pos) (tTt X i Φ b):=by
 cases z:ZA b with
 |false=>rw[z]at h;exact⟨_,_,rfl,Lb h⟩
 |true =>have e:=Mn hp z;rw[z]at e h2;obtain⟨a,d,rfl⟩:=Ff z;refine⟨_,_,rfl,?_⟩;rw[<-e];exact h2 rfl
variable {e:O.E}
def Rr(h:UI e=ej):∃s,e=.cst (.str s):=by
 cases e with
 |cst v=>cases v with
  |str s=>exact⟨s,rfl⟩
  |_=>cases h
 |_=>cases h
variable {ô:List Nat} {p:O.Pt} {it:O.It} {ç:Pos}
def Km(g:Gd X i P n c){mt:O.Tt}{me:O.E}{bF ũ bp:Expr}{x:List Str}{aY:List Expr}{sc:ż}(dP:c.cm=ej)(h1:Z8 sc c.sc c.N x ô=ej)(hk:sc.kind=.function)(hp:Oa x.length p=ej)
  (hi:PI X bp ũ<|tIt X i (O.wF P n) it) (hs:∀y,ĕ ũ X.env y=pure y) (hG:∀cl C s H ex,PG (Zr X sc (ZX X x ô) cl C s H ex) bp<|gPt i p)
  (hE:∀cl C s H ex,PE (Zr X sc (ZX X x ô) cl C s H ex) bF<|tE0 i (O.wF P n) me) (hI:∀cl C s H ex,PIfs (Zr X sc (ZX X x ô) cl C s H ex) aY<|tT0 i (O.wF P n) mt) :
  PE X (.ListComp bF [⟨bp,ũ,aY,0⟩] sc ç) (tE X i (O.wF P n)<|.comp ô x.length p it mt me)/\
   ∀(y:Str) (py ϙ:Pos) (j:Nat),X.N[j]?=eh y->L2.Loc X.env.scope y->(X.fn y=ej\/X.env.scope.names.lookup y=eh .local)->Ų (.ListComp bF [⟨bp,ũ,aY,0⟩] sc ç) (eh<|.Name y py) ϙ.line X.env=pure ej->PS X (.Assign [.Name y py] (.ListComp bF [⟨bp,ũ,aY,0⟩] sc ç) ϙ) (tSt X i (O.wF P n)<|.set (.one j)<|.comp ô x.length p it mt me):=by
 have B:=Ou g.sc g.N hk h1;have hc:=g.calm dP;refine⟨(Dx hc B hi hG hI hE hs).imp<|Um hp,λy py ϙ j hj hl hf hsw=>?_⟩;refine(BJ (by rw[g.N];exact g.nd) hj hl hc B hi hG hI hE hs hsw hf).imp λD σ H ⟨env,G,N,R,Bk,Ct,Xe,p,w,e⟩=>?_;refine Um hp σ H _ ⟨env,G,_,Xe env,p.pre,w,λv G1 H1 x k1 g1 r1 w1=>?_⟩;obtain⟨ő,e2,w2⟩:=eK w1;clear w1;cases e2;exact e.nx _ _ G1 H1 k1 g1 ((p.en.keep k1).set r1 j) w2
def Bq{j:Nat}(hN:X.N=c.N)(h:j<c.N.length):X.N[j]?=eh (c.nmOf j):=by rw[hN];unfold Md.nmOf;rw[ý,Ê h];rfl
def EW{o:Expr}{m:Str}{ŉ:Pos}{args:List Expr}{env:Env}(hb:Ġ o m env (eval o env)=eval o env)(az:cz (args.length+0) (ĝ ç<|Ô args env) (ŷ ç<|ņ [] env)=ej)(hl:(ŉ.endLine==ç.line)=ej) :
  eval (.Call (.Attribute o m ŉ) args [] ç) env=(do
    let ov<-eval o env
    Χ ŉ.atName
    let (f,first)<-Ŋ [ov] (ϔ ov m<|do return (<-importBound o env).getD ej)
    b9 ç f first (ĝ ç<|Ô args env) (ŷ ç<|ņ [] env)):=by
 show(do
   let ov<-Ġ o m env (eval o env)
   Χ ŉ.atName
   methodCall o m ŉ ç env ov (args.length+0) (ĝ ç<|Ô args env) (ŷ ç<|ņ [] env))=_
 rw[hb];unfold methodCall methodCallPos;rw[az,hl];rfl
def HC(env:Env)(ç:Pos){as:O.Es}{xs:List Expr}(h:Zc as<20):cz ((toA as c xs).length+0) (ĝ ç<|Ô (toA as c xs) env) (ŷ ç<|ņ [] env)=ej:=by unfold cz;rw[bAq,bAq,gb,XI];refine⟨⟨JF env ç as c xs,rfl⟩,?_⟩;show Zc as+0+0<30;lia
def PM{m:O.Tt}(h:Uq m=ez->PT X (toT m c x) (tTt X i (O.wF P n) m)):PIfs X (toF m c x)<|tT0 i (O.wF P n) m:=by
 cases m with
 |yes=>exact Lo
 |val e=>exact X7<|pt0<|h rfl
 |not t=>exact X7<|pt0<|h rfl
 |and a b=>exact X7<|pt0<|h rfl
 |or a b=>exact X7<|pt0<|h rfl
def MQ(c:Md):∀(es:O.Es) (xs:List Expr),W4 es=ej->(XG<|toA es c xs).all (·.isSome)=ej/\(XG<|toA es c xs).length=(BF<|toA es c xs).length/\2*(XG<|toA es c xs).length=esL es
 |.nil,_,_=>⟨rfl,rfl,rfl⟩
 |.cons _ .nil,_,h=>by cases h
 |.cons k (.cons v r),xs,h=>by
  obtain⟨h1,h2,h3⟩:=MQ c r xs.tail.tail h;refine⟨?_,?_,?_⟩
  .show(ej&&(XG<|toA r c xs.tail.tail).all (·.isSome))=ej;rw[h1];rfl
  .show(XG<|toA r c xs.tail.tail).length+1=(BF<|toA r c xs.tail.tail).length+1;rw[h2]
  .show 2*((XG<|toA r c xs.tail.tail).length+1)=esL r+1+1;lia
mutual
theorem eE:∀(m:O.E) (X:Cx) (c:Md) (x:Expr),Gd X i P n c->okE m c x=ej->PE X (toX m c x) (tE X i (O.wF P n) m)
 |.cst v,X,c,x,g,h=>GW h
 |.var j,X,c,x,g,h=>by have h:(gf (j<c.N.length)&&c.vis (c.nmOf j)&&nm (c.nmOf j))=ej:=h;rw[bAq,bAq,gb]at h;obtain⟨q1,q2,_⟩:=Uf h.2;exact Qv (Bq g.N h.1.1) (g.vis h.1.2) q1 q2
 |.glob y v,X,c,x,g,h=>by have h:((c.gl (gg y)&&nm (gg y))&&gf (c.cs.lookup y=eh v))=ej:=h;rw[bAq,bAq,gb]at h;obtain⟨q1,q2,_⟩:=Uf h.1.2;obtain⟨u,z,e1,e2,e3⟩:=g.cst _ _ h.2;exact LD (EZ (g.gl h.1.1) e1 e2 q1) e3
 |.bin o a b,X,c,x,g,h=>by have h:(okE a c (kid x 0)&&okE b c (kid x 1))=ej:=h;rw[bAq]at h;exact Qk g (eE a X c _ g h.1)<|eE b X c _ g h.2
 |.neg a,X,c,x,g,h=>P4<|eE a X c _ g h
 |.not a,X,c,x,g,h=>Pr<|eE a X c _ g h
 |.and a b,X,c,x,g,h=>by have h:(okE a c (kid x 0)&&okE b c (rest (ZH b) x)&&(!ZH b||(rest (ZH b) x).pos==x.pos))=ej:=h;rw[bAq,bAq]at h;have h2:=AR h.2<|eE b X c _ g h.1.2;obtain⟨y,ys,e⟩:=KA (c:=c) (ZH b) (e:=b) (x:=rest (ZH b) x)<|.inl rfl;show PE X (.BoolOp .And (toX a c (kid x 0)::flat (ZH b) (toX b c<|rest (ZH b) x)) x.pos) _;rw[e]at h2 ⊢;exact Qz (eE a X c _ g h.1.1) h2
 |.or a b,X,c,x,g,h=>by have h:(okE a c (kid x 0)&&okE b c (rest (Yt b) x)&&(!Yt b||(rest (Yt b) x).pos==x.pos))=ej:=h;rw[bAq,bAq]at h;have h2:=FH h.2<|eE b X c _ g h.1.2;obtain⟨y,ys,e⟩:=KA (c:=c) (Yt b) (e:=b) (x:=rest (Yt b) x)<|.inr rfl;show PE X (.BoolOp .Or (toX a c (kid x 0)::flat (Yt b) (toX b c<|rest (Yt b) x)) x.pos) _;rw[e]at h2 ⊢;exact QY (eE a X c _ g h.1.1) h2
 |.cmp o a b,X,c,x,g,h=>by have h:(okE a c (kid x 0)&&okE b c (kid x 1)&&(!Wa o||M6 b))=ej:=h;rw[bAq,bAq]at h;exact(NI g h.2 (eE a X c _ g h.1.1)<|eE b X c _ g h.1.2).1
 |.chain o1 o2 a b d,X,c,x,g,h=>by have h:(okE a c (kid x 0)&&okE b c (kid x 1)&&okE d c (kid x 2) && !Wa o1 && !Wa o2)=ej:=h;rw[bAq,bAq,bAq,bAq,ŗ,ŗ]at h;obtain⟨⟨⟨⟨h1,h2⟩,h3⟩,h4⟩,h5⟩:=h;exact(W7 g h4 h5 (eE a X c _ g h1) (eE b X c _ g h2)<|eE d X c _ g h3).1
 |.call f as,X,c,x,g,h=>by
  have h:((c.gl (gg f)&&nm (gg f))&&c.fs.contains f&&c.cm&&okA as c (sub x).tail)=ej:=h;rw[bAq,bAq,bAq,bAq]at h;obtain⟨⟨⟨⟨h1,h2⟩,h3⟩,h4⟩,h5⟩:=h;obtain⟨q1,_,_⟩:=Uf h2;have ha:=eA as X c _ g h5;cases as with
  |nil=>exact DY g.K (g.dfs _ h3) (g.rm h4) (g.gl h1) q1
  |cons a as=>exact IK g.K (g.dfs _ h3) (g.rm h4) (g.gl h1) q1 ha (Zq ..)<|Yj ..
 |.make C as,X,c,x,g,h=>by
  have h:((c.gl (gg C)&&nm (gg C))&&c.cl.contains C&&c.cm&&gf (Zc as≠0)&&okA as c (sub x).tail)=ej:=h;rw[bAq,bAq,bAq,bAq,bAq,gb]at h;obtain⟨⟨⟨⟨⟨h1,h2⟩,h3⟩,h4⟩,h6⟩,h5⟩:=h;obtain⟨q1,_,_⟩:=Uf h2;have ha:=eA as X c _ g h5;obtain⟨a,f,i1,i2,M,hm,D⟩:=g.kl.mkc C h3;cases as with
  |nil=>exact gc rfl h6
  |cons b as=>exact Hk g.K i1 i2 M D (g.room h4) (g.gl h1) hm q1 ha (Zq ..)<|Yj ..
 |.meth C m o as,X,c,x,g,h=>by
  have h:(c.ms.contains (C,m)&&c.cm&&okE o c (kid (kid x 0) 0)&&YA (toX o c<|kid (kid x 0) 0)&&((kid x 0).pos.endLine==x.pos.line)&&gf (Zc as<20)&&okA as c (sub x).tail)=ej:=h;rw[bAq,bAq,bAq,bAq,bAq,bAq,gb]at h;obtain⟨⟨⟨⟨⟨⟨h1,h2⟩,h3⟩,h4⟩,h6⟩,h7⟩,h5⟩:=h;have ev:=EW (m:=gg m) (Ys h4 _ X.env) (HC X.env x.pos (c:=c) (xs:=(sub x).tail) h7) h6;have ha:=eA as X c _ g h5;have ho:=eE o X c _ g h3;obtain⟨a,f,i1,A,M,D⟩:=g.kl.mth C m h1;cases as with
  |nil=>exact Fj g.K i1 A M D (g.rm h2) ho ev
  |cons b as=>exact IQ g.K i1 A M D (g.rm h2) ho ha (Zq ..) (Yj ..) ev
 |.fld o f,X,c,x,g,h=>by have h:(c.fl.contains f&&okE o c (kid x 0)&&YA (toX o c<|kid x 0))=ej:=h;rw[bAq,bAq]at h;exact Qr g.K g.kl.A (g.kl.F _ h.1.1) (eE o X c _ g h.1.2)<|Ys h.2 _ _
 |.bi f as,X,c,x,g,h=>by
  have h:((match F3 f with
    |some T=>gf (Zc as=1)&&kinds.contains T&&c.gl "isinstance" && c.gl (gg T)
    |none=>match EO f with
      |some Ts=>gf (Zc as=1)&&c.gl "isinstance" && !c.xs.isEmpty&&Id c Ts
      |none=>match BX f with
        |some Ts=>gf (Zc as=1)&&c.gl "isinstance" && Ts.all (λT=>kinds.contains T&&c.gl (gg T))&&gf (Ts.length<=20)
        | none=>if X1 f then gf (Zc as=1)&&c.gl "len" && c.gl "set" && c.cm else if WW f then gf (Zc as=1)&&c.gl (Yn f)&&c.gl (BR f)&&c.cm else if Me f then gf (Zc as=1)&&c.gl "min" && c.cm else if OY f then gf (Zc as=1)&&c.gl "dict" && c.gl "enumerate" && c.cm else if Ui f then gf (Zc as=1)&&c.gl "isinstance" && c.gn (Nw f)&&c.cl.contains (Nw f)else XE f&&c.gl (Yn f)&&gf (Zc as≠0)&&(c.cm||Wj f))&&okA as c (OR f x))=ej:=h
  rw[bAq]at h;cases z:F3 f with
  |some T =>
   have h1:=h.1;rw[z]at h1;rw[bAq,bAq,bAq,gb]at h1;obtain⟨⟨⟨h1,h2⟩,h3⟩,h4⟩:=h1;cases IE z;cases as with
   |nil=>cases h1
   |cons a as=>cases as with
    |nil =>have h5:(okE a c _&&ej)=ej:=h.2;rw[bAq]at h5;exact Cr g (Ć.mp h2) h3 h4 (eE a X c _ g h5.1)<|Zq ..
    |cons b as=>exact gc h1 (by simp[Zc])
  |none =>
   have h1:=h.1;rw[z]at h1
   replace h1:(match EO f with
     |some Ts=>gf (Zc as=1)&&c.gl "isinstance" && !c.xs.isEmpty&&Id c Ts
     |none=>match BX f with
       |some Ts=>gf (Zc as=1)&&c.gl "isinstance" && Ts.all (λT=>kinds.contains T&&c.gl (gg T))&&gf (Ts.length<=20)
       | none=>if X1 f then gf (Zc as=1)&&c.gl "len" && c.gl "set" && c.cm else if WW f then gf (Zc as=1)&&c.gl (Yn f)&&c.gl (BR f)&&c.cm else if Me f then gf (Zc as=1)&&c.gl "min" && c.cm else if OY f then gf (Zc as=1)&&c.gl "dict" && c.gl "enumerate" && c.cm else if Ui f then gf (Zc as=1)&&c.gl "isinstance" && c.gn (Nw f)&&c.cl.contains (Nw f)else XE f&&c.gl (Yn f)&&gf (Zc as≠0)&&(c.cm||Wj f))=ej:=h1
   cases zx:EO f with
   |some Ts=>cases zx
   |none =>
    rw[zx]at h1
    replace h1:(match BX f with
      |some Ts=>gf (Zc as=1)&&c.gl "isinstance" && Ts.all (λT=>kinds.contains T&&c.gl (gg T))&&gf (Ts.length<=20)
      | none=>if X1 f then gf (Zc as=1)&&c.gl "len" && c.gl "set" && c.cm else if WW f then gf (Zc as=1)&&c.gl (Yn f)&&c.gl (BR f)&&c.cm else if Me f then gf (Zc as=1)&&c.gl "min" && c.cm else if OY f then gf (Zc as=1)&&c.gl "dict" && c.gl "enumerate" && c.cm else if Ui f then gf (Zc as=1)&&c.gl "isinstance" && c.gn (Nw f)&&c.cl.contains (Nw f)else XE f&&c.gl (Yn f)&&gf (Zc as≠0)&&(c.cm||Wj f))=ej:=h1
    cases zl:BX f with
    |some Ts=>cases zl
    |none =>
     rw[zl]at h1;dsimp only at h1;split at h1
     .rename_i di;have hf:f=.lenSet:=by cases f<;>first|rfl|cases di
      subst hf;rw[bAq,bAq,bAq,gb]at h1;obtain⟨⟨⟨h1,h2⟩,h3⟩,h4⟩:=h1;cases as with
      |nil=>cases h1
      |cons a as=>cases as with
       |nil =>have h6:(okE a c _&&ej)=ej:=h.2;rw[bAq]at h6;exact DI (g.calm h4) g.K (eE a X c _ g h6.1) (g.gl h2) (g.bl _<|by simp[blts]) (g.gl h3) (g.bl _<|by simp[blts]) (by rw[Zq];rfl)
       |cons b as=>exact gc h1 (by simp[Zc])
     split at h1
     .rename_i _ di;have hf:f=.sortedSet:=by cases f<;>first|rfl|cases di
      rw[bAq,bAq,bAq,gb]at h1;obtain⟨⟨⟨h1,h2⟩,h3⟩,h4⟩:=h1;cases as with
      |nil=>cases h1
      |cons a as=>cases as with
       |nil =>
        rcases hf with rfl
        .have h6:(okE a c _&&ej)=ej:=h.2;rw[bAq]at h6;exact NF (g.calm h4) g.K (eE a X c _ g h6.1) (g.gl h2) (g.bl _<|by simp[blts]) (g.gl h3) (g.bl _<|by simp[blts,BR]) (by rw[Zq];rfl)
       |cons b as=>exact gc h1 (by simp[Zc])
     split at h1
     .rename_i _ _ di;have hf:f=.minD:=by cases f<;>first|rfl|cases di
      subst hf;rw[bAq,bAq,gb]at h1;obtain⟨⟨h1,h2⟩,h4⟩:=h1;cases as with
      |nil=>cases h1
      |cons a as=>cases as with
       |nil =>have h6:(okE a c _&&ej)=ej:=h.2;rw[bAq]at h6;exact Hi (g.calm h4) (by have:=g.un;lia) g.K (g.gl h2) (g.bl _<|by simp[blts]) (eE a X c _ g h6.1) (by rw[Zq];rfl)
       |cons b as=>exact gc h1 (by simp[Zc])
     split at h1
     .rename_i _ _ _ di;exact gc (show ez=ej from di) (by decide)
     split at h1
     .rename_i _ _ _ _ di;exact gc (show ez=ej from di) (by decide)
     rw[bAq,bAq,bAq,gb]at h1;obtain⟨⟨⟨h1,h2⟩,h3⟩,h4⟩:=h1;have ha:=eA as X c _ g h.2;cases as with
     |nil=>exact gc rfl h3
     |cons a as =>
      have e1:toX (.bi f<|.cons a as) c x=.Call (.Name (Yn f) (kid x 0).pos) (toA (.cons a as) c<|OR f x) [] x.pos:=by cases f<;>first|(cases h1;done)|rfl
      rw[e1];exact E1 g h1 h4 (g.gl h2) ha (Zq ..)<|Yj ..
 |.bm m o as,X,c,x,g,h=>by
  have h:(gf (Dr m=eh (Zc as))&&okE o c (kid (kid x 0) 0)&&YA (toX o c<|kid (kid x 0) 0)&&((kid x 0).pos.endLine==x.pos.line)&&okA as c (sub x).tail)=ej:=h;rw[bAq,bAq,bAq,bAq,gb]at h;obtain⟨⟨⟨⟨h1,h2⟩,h3⟩,h4⟩,h5⟩:=h;have ha:=eA as X c _ g h5;have ho:=eE o X c _ g h2;cases as with
  |nil=>exact B3 g h1 ho (λf=>Ys h3 f _) h4
  |cons a as =>
   refine D0 g h1 ho ha (λf=>Ys h3 f _) h4 ?_ (Zq ..)<|Yj ..;rw[bAq,bAq,gb];refine⟨⟨JF X.env x.pos (.cons a as) c (sub x).tail,rfl⟩,?_⟩;have e2:(toA (.cons a as) c (sub x).tail).length=Zc (.cons a as):=XI ..;have e3:Zc (.cons a as)<=2:=by
    have:∀m:O.Bm,∀k,Dr m=eh k->k<=2:=by intro m k;cases m<;>intro z<;>first|(cases z;done)|(cases z;decide)
    exact this m _ h1
   show(toA (.cons a as) c (sub x).tail).length+0+0<30;lia
 |.idx a b,X,c,x,g,h=>by have h:(okE a c (kid x 0)&&okE b c (kid x 1))=ej:=h;rw[bAq]at h;exact PV (ix_seq.or<|FL (by have:=g.un;lia)) (by rw[g.K];exact LY) (eE a X c _ g h.1) (eE b X c _ g h.2)<|CF _ _ _
 |.slc a lo hi,X,c,x,g,h=>by have h:(okE a c (kid x 0)&&okO lo c (kid (kid x 1) 0)&&okO hi c (kid (kid x 1) 1))=ej:=h;rw[bAq,bAq]at h;exact PX Q2 (by rw[g.K];exact Ql) (eE a X c _ g h.1.1) (eO lo X c _ g h.1.2)<|eO hi X c _ g h.2
 |.tup es,X,c,x,g,h=>by have h:(okA es c (sub x)&&gf (Zc es<=1000))=ej:=h;rw[bAq,gb]at h;exact L9 (by rw[XI];exact h.2)<|eA es X c _ g h.1
 |.key es,X,c,x,g,h=>nomatch h
 |.dctP,X,c,x,g,h=>nomatch h
 |.lst es,X,c,x,g,h=>by have h:(okA es c (sub x)&&gf (Zc es<=1000))=ej:=h;rw[bAq,gb]at h;exact LW (by rw[XI];exact h.2)<|eA es X c _ g h.1
 |.dct es,X,c,x,g,h=>by
  have h:(okA es c (sub x)&&W4 es&&gf (esL es<=30))=ej:=h;rw[bAq,bAq,gb]at h;obtain⟨⟨h1,h2⟩,h3⟩:=h;have hp:=eD es X c (sub x) x.pos g h1 h2;cases es with
  |nil=>exact HI
  |cons k r=>cases r with
   |nil=>cases h2
   |cons v r =>obtain⟨q1,q2,q3⟩:=MQ c (.cons k<|.cons v r) (sub x) h2;refine L3 h2 h3 hp q1 q2 (by intro z;cases z) (by rw[<-q3]at h3;lia)
 |.ife t a b,X,c,x,g,h=>by have h:(okT t c (kid x 0)&&okE a c (kid x 1)&&okE b c (kid x 2))=ej:=h;rw[bAq,bAq]at h;exact LZ (eT t X c _ g h.1.1).1 (eE a X c _ g h.1.2)<|eE b X c _ g h.2
 |.comp ô m p it t e,X,c,x,g,h=>by
  have h:((Oa m p&&(Yy<|kid x 1).length == m)&&c.cm&&Z8 (scp x) c.sc c.N (Yy<|kid x 1) ô&&(scp x).kind == .function&&okI it c (kid x 2) (!Zy p)&&okE e (c.blk (scp x) (Yy<|kid x 1) ô) (kid x 0)&&(Uq t||okT t (c.blk (scp x) (Yy<|kid x 1) ô) (kid x 3)))=ej:=h;rw[bAq,bAq,bAq,bAq,bAq,bAq]at h;obtain⟨⟨⟨⟨⟨⟨h1,h2⟩,h3⟩,h4⟩,h5⟩,h6⟩,h7⟩:=h;rw[bAq,beq_iff_eq]at h1;obtain⟨h1,rfl⟩:=h1;have hk:=eq_of_beq h4;obtain⟨t1,t2⟩:=KJ (c:=c.blk (scp x) (Yy<|kid x 1) ô) p<|kid x 1;obtain⟨a1,a2⟩:=eI it X c (kid x 2) (toP p (c.blk (scp x) (Yy<|kid x 1) ô)<|kid x 1) g (!Zy p) t1 t2 h5;exact(Km g h2 h3 hk h1 a1 a2 (g.pt h2 h3 hk h1 _)
    (λcl C s H ex=>pe0<|eE e _ _ _ (g.blk h3 hk cl C s H ex) h6) (λcl C s H ex=>PM λz=>(eT t _ _ _ (g.blk h3 hk cl C s H ex)<|by rw[z]at h7;exact h7).1)).1
 |.fstr es,X,c,x,g,h=>nomatch h
 |.repl _ _ _,X,c,x,g,h=>nomatch h
 |.split o a,X,c,x,g,h=>nomatch h
 |.rev a,X,c,x,g,h=>nomatch h
theorem eD:∀(es:O.Es) (X:Cx) (c:Md) (xs:List Expr) (ç:Pos),Gd X i P n c->okA es c xs=ej->W4 es=ej->PPs X ç (XG<|toA es c xs) (BF<|toA es c xs) (ON X i (O.wF P n) es)
 |.nil,X,c,xs,ç,g,h,he=>D4
 |.cons k .nil,X,c,xs,ç,g,h,he=>by cases he
 |.cons k (.cons v r),X,c,xs,ç,g,h,he=>by have h:(okE k c (xs.headD dE)&&(okE v c (xs.tail.headD dE)&&okA r c xs.tail.tail))=ej:=h;rw[bAq,bAq]at h;exact Cj (eE k X c _ g h.1) (eE v X c _ g h.2.1)<|eD r X c _ ç g h.2.2 he
theorem eA:∀(ms:O.Es) (X:Cx) (c:Md) (xs:List Expr),Gd X i P n c->okA ms c xs=ej->PA X (toA ms c xs) (tAr X i (O.wF P n) ms (toA ms c xs).length)
 |.nil,X,c,xs,g,h=>LF
 |.cons a as,X,c,xs,g,h=>by have h:(okE a c (xs.headD dE)&&okA as c xs.tail)=ej:=h;rw[bAq]at h;exact FQ (eE a X c _ g h.1) (eA as X c _ g h.2)<|Zq ..
theorem eJ:∀(ms:O.Es) (X:Cx) (c:Md) (xs:List Expr),Gd X i P n c->okJ ms c xs=ej->PJ X (toJ ms c xs) (tJs X i (O.wF P n) ms)
 |.nil,X,c,xs,g,h=>Hj
 |.cons a as,X,c,xs,g,h=>by
  have h:((UI a||okE a c (kid (xs.headD dE) 0))&&okJ as c xs.tail)=ej:=h;rw[bAq]at h;have hr:=eJ as X c _ g h.2;show PJ X ((if UI a then toX a c (xs.headD dE)else .FormattedValue (toX a c<|kid (xs.headD dE) 0) (-1) ei (xs.headD dE).pos)::toJ as c xs.tail) _;cases z:UI a with
  |true =>obtain⟨s,rfl⟩:=Rr z;exact OM Ho hr rfl
  |false =>rw[z]at h;exact OM (LB<|eE a X c _ g h.1) hr rfl
theorem eO:∀(m:O.Oe) (X:Cx) (c:Md) (x:Expr),Gd X i P n c->okO m c x=ej->PO X (toO m c x) (tOx X i (O.wF P n) m)
 |.none,X,c,x,g,h=>Fb
 |.some e,X,c,x,g,h=>Et<|eE e X c _ g h
theorem eT:∀(m:O.Tt) (X:Cx) (c:Md) (x:Expr),Gd X i P n c->okT m c x=ej->PT X (toT m c x) (tTt X i (O.wF P n) m)/\((Zn m||ZA m)=ej->PW X (toT m c x) (tTt X i (O.wF P n) m))
 |.yes,X,c,x,g,h=>nomatch h
 |.val e,X,c,x,g,h=>by
  refine⟨?_,λz=>(by cases z)⟩;have h:(okE e c x&&(N5 e||PP e))=ej:=h;rw[bAq]at h;have he:=eE e X c x g h.1;cases z:N5 e with
  |true=>exact Iq he (by cases e<;>first|(cases z;done)|exact λ_=>rfl) g.K
  |false =>
   have h2:=h.2;rw[z]at h2;cases e with
   |cmp o a b =>have h:(okE a c (kid x 0)&&okE b c (kid x 1)&&(!Wa o||M6 b))=ej:=h.1;rw[bAq,bAq]at h;exact(NI g h.2 (eE a X c _ g h.1.1)<|eE b X c _ g h.1.2).2
   |chain o1 o2 a b d =>have h:(okE a c (kid x 0)&&okE b c (kid x 1)&&okE d c (kid x 2) && !Wa o1 && !Wa o2)=ej:=h.1;rw[bAq,bAq,bAq,bAq,ŗ,ŗ]at h;obtain⟨⟨⟨⟨h1,h2⟩,h3⟩,h4⟩,h5⟩:=h;exact(W7 g h4 h5 (eE a X c _ g h1) (eE b X c _ g h2)<|eE d X c _ g h3).2
   |_=>cases h2
 |.not t,X,c,x,g,h=>⟨LH (eT t X c _ g h).1,λz=>(by cases z)⟩
 |.and a b,X,c,x,g,h=>by
  have h:(okT a c (kid x 0)&&okT b c (rest (Zn b) x)&&(!Zn b||(rest (Zn b) x).pos==x.pos))=ej:=h;rw[bAq,bAq]at h;have h2:=eT b X c _ g h.1.2;obtain⟨y,ys,e,h3⟩:=As h.2 h2.1 h2.2;have h4:PW X (toT (.and a b) c x)<|tTt X i (O.wF P n)<|.and a b:=by show PW X (.BoolOp .And (toT a c (kid x 0)::flat (Zn b) (toT b c<|rest (Zn b) x)) x.pos) _;rw[e];exact G8 (eT a X c _ g h.1.1).1 h3
  exact⟨h4.pt,λ_=>h4⟩
 |.or a b,X,c,x,g,h=>by
  have h:(okT a c (kid x 0)&&okT b c (rest (ZA b) x)&&(!ZA b||(rest (ZA b) x).pos==x.pos))=ej:=h;rw[bAq,bAq]at h;have h2:=eT b X c _ g h.1.2;obtain⟨y,ys,e,h3⟩:=AX h.2 h2.1 h2.2;have h4:PW X (toT (.or a b) c x)<|tTt X i (O.wF P n)<|.or a b:=by show PW X (.BoolOp .Or (toT a c (kid x 0)::flat (ZA b) (toT b c<|rest (ZA b) x)) x.pos) _;rw[e];exact Pj (eT a X c _ g h.1.1).1 h3
  exact⟨h4.pt,λ_=>h4⟩
theorem eI:∀(m:O.It) (X:Cx) (c:Md) (x tg:Expr),Gd X i P n c->∀(b:Bool),(b=ej->∃es k p,tg=.Tuple es k p)->(b=ez->∃y p,tg=.Name y p)->okI m c x b=ej->PI X tg (toI m c x) (tIt X i (O.wF P n) m)/\∀y,ĕ (toI m c x) X.env y=pure y
 |.seq e,X,c,x,tg,g,b,t1,t2,h=>⟨HF g.K<|eE e X c _ g h,Ht _ _ _ _⟩
 |.chars e,X,c,x,tg,g,b,t1,t2,h=>nomatch h
 |.range a,X,c,x,tg,g,b,t1,t2,h=>by have h:(c.gl "range" && okE a c (kid x 1))=ej:=h;rw[bAq]at h;exact⟨B4 (g.gl h.1) (g.bl _<|by simp[blts]) (eE a X c _ g h.2)<|Zq ..,λ_=>rfl⟩
 |.range2 a d,X,c,x,tg,g,b,t1,t2,h=>by have h:(c.gl "range" && okE a c (kid x 1)&&okE d c (kid x 2))=ej:=h;rw[bAq,bAq]at h;exact⟨Aj (g.gl h.1.1) (g.bl _<|by simp[blts]) (eE a X c _ g h.1.2) (eE d X c _ g h.2) (by rw[Zq,Zq];rfl)<|Zq ..,λ_=>rfl⟩
 |.zip a d,X,c,x,tg,g,b,t1,t2,h=>nomatch h
 |.enum e,X,c,x,tg,g,b,t1,t2,h=>by have h:(b&&c.gl "enumerate" && okE e c (kid x 1))=ej:=h;rw[bAq,bAq]at h;obtain⟨es,k,p,rfl⟩:=t1 h.1.1;exact⟨Ek g.K (g.gl h.1.2) (g.bl _<|by simp[blts]) (eE e X c _ g h.2) (by rw[Zq];rfl),λ_=>rfl⟩
 |.items e,X,c,x,tg,g,b,t1,t2,h=>nomatch h
 |.rev e,_,_,_,_,_,_,_,_,h=>nomatch h
end
def AB(g:Gd X i P n c){m:Nat}{t:O.Tt}(h:okE (.comp ô m p it t e) c x=ej) :
  PE X (toX (.comp ô m p it t e) c x) (tE X i (O.wF P n)<|.comp ô m p it t e)/\
   ∀(y:Str) (py ϙ:Pos) (j:Nat),X.N[j]?=eh y->L2.Loc X.env.scope y->(X.fn y=ej\/X.env.scope.names.lookup y=eh .local)->Ų (toX (.comp ô m p it t e) c x) (eh<|.Name y py) ϙ.line X.env=pure ej->PS X (.Assign [.Name y py] (toX (.comp ô m p it t e) c x) ϙ) (tSt X i (O.wF P n)<|.set (.one j)<|.comp ô m p it t e):=by
 have h:((Oa m p&&(Yy<|kid x 1).length==m)&&c.cm&&Z8 (scp x) c.sc c.N (Yy<|kid x 1) ô&&(scp x).kind == .function&&okI it c (kid x 2) (!Zy p)&&okE e (c.blk (scp x) (Yy<|kid x 1) ô) (kid x 0)&&(Uq t||okT t (c.blk (scp x) (Yy<|kid x 1) ô) (kid x 3)))=ej:=h;rw[bAq,bAq,bAq,bAq,bAq,bAq]at h;obtain⟨⟨⟨⟨⟨⟨h1,h2⟩,h3⟩,h4⟩,h5⟩,h6⟩,h7⟩:=h;rw[bAq,beq_iff_eq]at h1;obtain⟨h1,rfl⟩:=h1;have hk:=eq_of_beq h4;obtain⟨t1,t2⟩:=KJ (c:=c.blk (scp x) (Yy<|kid x 1) ô) p<|kid x 1;obtain⟨a1,a2⟩:=eI it X c (kid x 2) (toP p (c.blk (scp x) (Yy<|kid x 1) ô)<|kid x 1) g (!Zy p) t1 t2 h5;exact Km g h2 h3 hk h1 a1 a2 (g.pt h2 h3 hk h1 _)
  (λcl C s H ex=>pe0<|eE e _ _ _ (g.blk h3 hk cl C s H ex) h6) (λcl C s H ex=>PM λz=>(eT t _ _ _ (g.blk h3 hk cl C s H ex)<|by rw[z]at h7;exact h7).1)
abbrev dS:Ľ:=.Pass ⟨0,0,0,0⟩
abbrev stE:Ľ->List Expr
 |.Assign ts v _=>v::ts
 |.AugAssign t _ v _=>[v,t]
 |.For t it _ _ _=>[t,it]
 |.While t _ _ _=>[t]
 |.If t _ _ _=>[t]
 |.Expr e _=>[e]
 |.Return (eh e) _=>[e]
 |.Raise (eh e) _ _=>[e]
 |_=>[]
abbrev ke(s:Ľ)(j:Nat):Expr:=(stE s).getD j dE
abbrev stB:Ľ->List Ľ
 |.For _ _ b _ _=>b
 |.While _ b _ _=>b
 |.If _ b _ _=>b
 |.Try b _ _ _ _=>b
 |_=>[]
abbrev stO:Ľ->List Ľ
 |.If _ _ b _=>b
 |_=>[]
abbrev stH:Ľ->List ExceptHandler
 |.Try _ hs _ _ _=>hs
 |_=>[]
abbrev dH:ExceptHandler:=.ExceptHandler ei ei [] ⟨0,0,0,0⟩
abbrev hT:ExceptHandler->Expr
 |.ExceptHandler (eh e) _ _ _=>e
 |_=>dE
abbrev hB:ExceptHandler->List Ľ
 |.ExceptHandler _ _ b _=>b
abbrev hP:ExceptHandler->Pos
 |.ExceptHandler _ _ _ p=>p
abbrev Md.hot(c:Md):Md:={c with cm:=ez}
abbrev RF(t:Option Nat)(e:O.E)(c:Md)(y:Ľ):Ľ:=match t with
 |none=>.Expr (toX e c<|ke y 0) y.pos
 |some j=>.Assign [.Name (c.nmOf j) (ke y 1).pos] (toX e c<|ke y 0) y.pos
mutual
noncomputable def toS:O.S->Md->Ľ->Ľ
 |.set p a,c,s=>.Assign [toP p c<|ke s 1] (toX a c<|ke s 0) s.pos
 |.setIdx a j e,c,s=>.Assign [.Subscript (toX a c<|kid (ke s 1) 0) (toX j c<|kid (ke s 1) 1) (ke s 1).pos] (toX e c<|ke s 0) s.pos
 |.setPair a i b j e,c,s=>.Assign [.Tuple [.Subscript (toX a c<|kid (kid (ke s 1) 0) 0) (toX i c<|kid (kid (ke s 1) 0) 1) (kid (ke s 1) 0).pos,.Subscript (toX b c<|kid (kid (ke s 1) 1) 0) (toX j c<|kid (kid (ke s 1) 1) 1) (kid (ke s 1) 1).pos] (num<|ke s 1) (ke s 1).pos] (toX e c<|ke s 0) s.pos
 |.setFld o f e,c,s=>.Assign [.Attribute (toX o c<|kid (ke s 1) 0) (gg f) (ke s 1).pos] (toX e c<|ke s 0) s.pos
 |.augVar j op e,c,s=>.AugAssign (.Name (c.nmOf j) (ke s 1).pos) (N0 op) (toX e c<|ke s 0) s.pos
 |.augFld o f op n,c,s=>.AugAssign (.Attribute (toX o c<|kid (ke s 1) 0) (gg f) (ke s 1).pos) (N0 op) (.Constant (.int n) (num<|ke s 0) (ke s 0).pos) s.pos
 |.augIdx a j op n,c,s=>.AugAssign (.Subscript (toX a c<|kid (ke s 1) 0) (toX j c<|kid (ke s 1) 1) (ke s 1).pos) (N0 op) (.Constant (.int n) (num<|ke s 0) (ke s 0).pos) s.pos
 |.expr e,c,s=>.Expr (toX e c<|ke s 0) s.pos
 |.ret e,c,s=>.Return (eh<|toX e c<|ke s 0) s.pos
 |.retN,_,s=>.Return ei s.pos
 |.ite t a b,c,s=>.If (toT t c<|ke s 0) (toSs a c<|stB s) (toSs b c<|stO s) s.pos
 |.whl t b,c,s=>.While (toT t c<|ke s 0) (toSs b c<|stB s) [] s.pos
 |.for p it b,c,s=>.For (toP p c<|ke s 0) (toI it c<|ke s 1) (toSs b c<|stB s) [] s.pos
 |.forI ej p e b,c,s=>.For (toP p c<|ke s 0) (toX e c<|ke s 1) (toSs b c<|stB s) [] s.pos
 |.forI ez p e b,c,s=>.For (toP p c<|ke s 0) (.Call (.Attribute (toX e c<|kid (kid (ke s 1) 0) 0) "items" (kid (ke s 1) 0).pos) [] [] (ke s 1).pos) (toSs b c<|stB s) [] s.pos
 |.brk,_,s=>.Break s.pos
 |.cnt,_,s=>.Continue s.pos
 |.pass,_,s=>.Pass s.pos
 |.raise C as,c,s=>.Raise (eh<|.Call (.Name (gg C) (kid (ke s 0) 0).pos) (toA as c (sub<|ke s 0).tail) [] (ke s 0).pos) ei s.pos
 |.try t e hs,c,s=>.Try [RF t e c<|(stB s).headD dS] (toH hs c<|stH s) [] [] s.pos
 |_,_,s=>s
noncomputable def toH:O.Hn->Md->List ExceptHandler->List ExceptHandler
 |.nil,_,_=>[]
 |.cons K nm b r,c,xs=>.ExceptHandler (eh<|.Name (gg K) (hT<|xs.headD dH).pos) (nm.map c.nmOf) (toSs b c.hot<|hB<|xs.headD dH) (hP<|xs.headD dH)::toH r c xs.tail
noncomputable def toSs:O.Ss->Md->List Ľ->List Ľ
 |.nil,_,_=>[]
 |.cons m ms,c,xs=>toS m c (xs.headD dS)::toSs ms c xs.tail
end
abbrev Gg:O.E->Bool
 |.idx _ _=>ej
 |.var _=>ej
 |.fld _ _=>ej
 |_=>ez
abbrev MT(c:Md)(j:Nat):Bool:=gf (j<c.N.length)&&c.loc (c.nmOf j)
abbrev okP(p:O.Pt)(c:Md):Bool:=match p with
 |.one j=>MT c j
 |.many js=>js.all<|MT c
 |.nest j js=>MT c j&&js.all (MT c)
abbrev Bx:O.E->Bool
 |.tup _=>ej
 |.key _=>ej
 |_=>ez
abbrev NZ:O.E->Bool
 |.comp _ _ _ _ _ _=>ej
 |_=>ez
abbrev swT(c:Md)(tg v:Expr):Bool:=match v,tg with
 |.ListComp _ _ s ç,.Name t p=>(if c.sc.kind.isAnnotationScope then ScopeKind.function else c.sc.kind) == .function&&c.sc.names.lookup t==eh .local&&p.line==ç.line && !(s.names.any λ(n,k)=>n==t&&(k == .local||k == .cell))
 |_,_=>ez
abbrev Ae:O.Bop->Bool
 |.add=>ej
 |.sub=>ej
 |_=>ez
abbrev Q7(c:Md)(j:Nat):Bool:=gf (j<c.N.length)&&c.sc.names.lookup (c.nmOf j)==eh .local
abbrev RA(c:Md):Option Nat->Bool
 |none=>ej
 |some j=>Q7 c j
abbrev Pb:O.Ss->Bool
 |.nil=>ez
 |_=>ej
abbrev P6:O.Hn->Bool
 |.nil=>ej
 |_=>ez
mutual
noncomputable def okS:O.S->Md->Ľ->Bool
 |.set p a,c,s=>okP p c&&okE a c (ke s 0)&&(Zy p || !Bx a)&&(Zy p||c.cm)
 |.setIdx a j e,c,s=>okE e c (ke s 0)&&okE a c (kid (ke s 1) 0)&&okE j c (kid (ke s 1) 1)
 |.setFld o f e,c,s=>c.fl.contains f&&okE o c (kid (ke s 1) 0)&&okE e c (ke s 0)
 |.augFld o f op _,c,s=>c.fl.contains f&&okE o c (kid (ke s 1) 0)&&Ae op
 |.augIdx a j op _,c,s=>okE a c (kid (ke s 1) 0)&&okE j c (kid (ke s 1) 1)&&Ae op
 |.expr e,c,s=>okE e c (ke s 0) && !NZ e
 |.ret e,c,s=>okE e c<|ke s 0
 |.retN,_,_=>ej
 |.ite t a b,c,s=>okT t c (ke s 0)&&okSs a c (stB s)&&okSs b c (stO s)
 |.for p it b,c,s=>okP p c&&okI it c (ke s 1) (!Zy p)&&okSs b c (stB s)&&c.cm
 |.forI ej p e b,c,s=>okP p c&&Gg e&&okE e c (ke s 1)&&okSs b c (stB s)&&c.cm
 |.forI ez p e b,c,s=>okP p c && !Zy p&&okE e c (kid (kid (ke s 1) 0) 0)&&YA (toX e c<|kid (kid (ke s 1) 0) 0)&&((kid (ke s 1) 0).pos.endLine==(ke s 1).pos.line)&&okSs b c (stB s)&&c.cm
 |.never,_,_=>ej
 |_,_,_=>ez
noncomputable def okH:O.Hn->Md->List ExceptHandler->Bool
 |.nil,_,_=>ez
 |.cons K nm b r,c,xs=>(c.xs.contains K||K == "ShutError")&&c.gn K && !c.xs.isEmpty&&RA c nm&&Pb b&&okSs b c.hot (hB<|xs.headD dH)&&P6 r
noncomputable def okSs:O.Ss->Md->List Ľ->Bool
 |.nil,_,_=>ej
 |.cons m ms,c,xs=>okS m c (xs.headD dS)&&okSs ms c xs.tail
end
structure Gs(X:Cx)(i:Inf)(P:O.Pg)(n:Nat)(c:Md):Prop extends Gd X i P n c where
 fn:∀x,c.loc x=ej->X.fn x=ej\/X.env.scope.names.lookup x=eh .local
 own:c.cm=ej->Ϸ (Û X.prog X.w) X.A X.env X.xe
 stk:c.cm=ej->X.stack=X.env::X.outer
variable {X:Cx}{i:Inf}{P:O.Pg}{n:Nat}{c:Md}
def Gs.nm1(g:Gs X i P n c){j:Nat}(h:MT c j=ej):X.N[j]?=eh (c.nmOf j)/\L2.Loc X.env.scope (c.nmOf j)/\(X.fn (c.nmOf j)=ej\/X.env.scope.names.lookup (c.nmOf j)=eh .local):=by unfold MT at h;rw[bAq,gb]at h;exact⟨Bq g.N h.1,g.loc h.2,g.fn _ h.2⟩
variable {p:O.Pt}
def Pu(g:Gs X i P n c)(h:okP p c=ej):Gc (BV X c) p:=by
 cases p with
 |one j=>exact g.nm1 h
 |many js=>exact λj hj=>g.nm1<|ò.mp h j hj
 |nest j js =>have h:(MT c j&&js.all (MT c))=ej:=h;rw[bAq]at h;exact⟨g.nm1 h.1,λk hk=>g.nm1<|ò.mp h.2 k hk⟩
variable {x:Expr}
def UA(g:Gs X i P n c)(dP:c.cm=ej)(h:okP p c=ej):PG X (toP p c x)<|gPt i p:=Gm g.K (by rw[g.N];exact g.nd) (g.calm dP) (Pu g h)
variable {tg:Expr}
def WI{l:Nat}{env:Env}(a:O.E)(x:Expr)(hs:env.scope=c.sc):Ų (toX a c x) (eh tg) l env=pure (swT c tg<|toX a c x):=by
 cases a with
 |comp ô m p it t e =>
  cases tg with
  |Name t q =>unfold Ų swT Env.blockKind Env.kindOf;rw[hs];rfl
  |_=>rfl
 |_=>rfl
def Ha(p:O.Pt)(a:O.E)(x y:Expr)(env:Env)(h:(Zy p || !Bx a)=ej):Ϗ [toP p c x] (toX a c y) env=pure ei:=by
 cases p with
 |one j=>cases a<;>rfl
 |many js=>cases a<;>first|rfl|cases h
 |nest j js=>cases a<;>first|rfl|cases h
def Dc(p:O.Pt)(x:Expr)(env:Env):(ę [toP p c x] env).map (·.2)=[ž (toP p c x) env]:=by cases p<;>rfl
def Ll{a:O.E}(h:swT c tg (toX a c x)=ej):∃ô m p it t e,a=.comp ô m p it t e:=by
 cases a with
 |comp ô m p it t e=>exact⟨_,_,_,_,_,_,rfl⟩
 |_=>cases h
def D1(y:O.E){b:Expr}{ç:Pos}{env:Env}:∀v,ž (.Subscript b (toX y c x) ç) env v=(do
    let ov<-Ŋ [v] (eval b env)
    let iv<-Ŋ [v,ov] (eval (toX y c x) env)
    Χ ç
    Ŋ [v,ov,iv] (aI ov iv v)
    dQ [v,ov,iv] []):=by
 intro v;cases y<;>rfl
def GQ{op:O.Bop}(h:Ae op=ej):C5 X (N0 op)<|rAS op:=by
 cases op with
 |add =>
  intro Á s σ H x y u v Q I rx ry q;obtain⟨a,b,rfl,rfl,q⟩:=q;rcases q with⟨_,q⟩|⟨z,_⟩
  .exact IN Á s σ H _ _ u v Q I rx ry ⟨a,b,rfl,rfl,q⟩
  .cases z
 |sub =>
  intro Á s σ H x y u v Q I rx ry q;obtain⟨a,b,rfl,rfl,q⟩:=q;rcases q with⟨z,_⟩|⟨_,q⟩
  .cases z
  .exact Hu Á s σ H _ _ u v Q I rx ry ⟨a,b,rfl,rfl,q⟩
 |_=>cases h
def Df:PGet X<|Co X.K:=λÁ s σ H x y v u Q I rx ry h=>by
 obtain⟨p,xs,i,z,rfl,rfl,hq,he,q⟩:=h;cases rx;obtain⟨t,rfl⟩:=ry;obtain⟨ñ,r,pl,hz⟩:=I.list hq;obtain⟨j,h1,h2,h3,h4,h5⟩:=WQ he;obtain⟨w,ew,aT⟩:=r.get h2;have hl:=r.length;have hn:=YY;have fin:EP X Á σ Q w s:=⟨z,H,I,aT,q⟩
 by_cases h0:0<=i
 .have hj:i.toNat=j:=by
   rw[bw h0 h5]at h1;exact í h1
  exact wpAny_getItem_list pl.isList h0 (by lia) (by rw[hj];simpa using ew) fin
 .have hj:(i+(ñ.toArray.size:Int)).toNat=j:=by
   rw[aJ (by lia) h4]at h1;rw[Í,<-hl];exact í h1
  exact dX pl.isList (by lia) (by rw[Í]<;>lia) (by lia) (by rw[hj];simpa using ew) fin
def Cl(hu:X.A.units+1<Ĥ):PGet X Dg:=λÁ s σ H x y v u Q I rx ry h=>by obtain⟨a,z,rfl,g,q⟩:=h;cases rx;exact Kx hu I g ry λw s' I' r=>⟨z,H,I',r,q⟩
def PGet.or{r r':R2}(h:PGet X r)(h':PGet X r'):PGet X λx y H Q=>r x y H Q\/r' x y H Q:=λÁ s σ H o j ov jv Q I ro rj q=>by
 rcases q with q|q
 .exact h Á s σ H o j ov jv Q I ro rj q
 .exact h' Á s σ H o j ov jv Q I ro rj q
def IF{G:O.Hs}{H:Hp}{a:È}{u w:O.Val}{y:V}{K:Frag}{Q:VK}(g:RH i G H)(ry:RV i.K H u y)(e:O.fw G (.ref a) u=eh w)(q:∀z,RV i.K H w z->Q z H):Co K (.ref a) y H Q\/Dg (.ref a) y H Q:=by
 replace e:(match G a with|some (.lst xs)=>(O.fV u).bind (O.atI xs)|some (.dct kvs)=>if O.eZ u then O.fe kvs u else ei|some (.frz kvs)=>if O.eZ u then O.fe kvs u else ei|some (.dtp kvs)=>if O.isKeyT u then O.fe kvs u else ei|_=>ei)=eh w:=e
 cases z:G a with
 |none=>rw[z]at e;cases e
 |some o =>
  rw[z]at e;cases o with
  |lst xs =>obtain⟨k,hk,e⟩:=é.mp e;cases ZB hk;obtain⟨vs,h1,h2⟩:=g a _ z;obtain⟨t,h3,h4⟩:=WV h2 e;exact .inl ⟨a,vs,k,t,rfl,ry.int_inv,fQ.of h1,h3,q t h4⟩
  |dct kvs =>obtain⟨hk,e⟩:=Zo (show(if O.eZ u then O.fe kvs u else ei)=eh w from e);obtain⟨ps,h1,h2⟩:=g a _ z;obtain⟨d,kr,rfl⟩:=eW hk ry;obtain⟨t,hx,rv⟩:=(h2.look kr).1 w e;exact .inr ⟨a,t,rfl,by rw[<-hx];exact DGet.k h1,q t rv⟩
  |frz kvs =>obtain⟨hk,e⟩:=Zo (show(if O.eZ u then O.fe kvs u else ei)=eh w from e);obtain⟨ob,ps,h1,h2⟩:=g a _ z;obtain⟨d,kr,rfl⟩:=eW hk ry;obtain⟨t,hx,rv⟩:=(h2.look kr).1 w e;exact .inr ⟨a,t,rfl,.inl ⟨ps,d,.inr ⟨ob,h1⟩,rfl,hx.symm⟩,q t rv⟩
  |dtp kvs =>obtain⟨hk,e⟩:=Zo (show(if O.isKeyT u then O.fe kvs u else ei)=eh w from e);obtain⟨ps,h1,h2⟩:=g a _ z;obtain⟨k1,k2,b,rfl,rfl,hb⟩:=WB hk ry;obtain⟨t,hx,rv⟩:=(h2.look).1 w e;exact .inr ⟨a,t,rfl,by rw[<-hx];exact DGet.t h1 hb,q t rv⟩
  |_=>cases e
def Ly(e:O.E)(x:Expr):∀ov iv new,augStore (toX e c x) ov iv new=(do Ŋ [new,ov,iv] (aI ov iv new);dQ [new,ov,iv] [];pure .next):=by intro ov iv new;cases e<;>rfl
def Ah{Φ:O.Fs}{a j:Expr}{ma mj:O.E}{op:O.Bop}{k:Int}{kk:Nat}{ç cB ř:Pos}(hK:X.K=i.K)(hu:X.A.units+1<Ĥ)(h:Ae op=ej)(ha:PE X a<|tE X i Φ ma)(hj:PE X j<|tE X i Φ mj)
  (hs:∀ov iv new,augStore j ov iv new=(do Ŋ [new,ov,iv] (aI ov iv new);dQ [new,ov,iv] [];pure .next)) :
  PS X (.AugAssign (.Subscript a j cB) (N0 op) (.Constant (.int k) kk ř) ç) (tSt X i Φ<|.augIdx ma mj op k) :=
 (EV ha hj (PGet.or Df<|Cl hu) NV (GQ h) (PSet.or NG<|M5 hu) hs).imp λD σ H ⟨env,G,N,R,B,C,Xe,p,w,c⟩=>by
  refine one p.pre w λv G1 H1 x k1 p1 rx q=>?_;refine one p1 q λu G2 H2 y k2 p2 ry q=>?_;obtain⟨t,e1,q2⟩:=eK q;clear q;obtain⟨z,e2,q3⟩:=eK q2;clear q2;obtain⟨G3,e3,q4⟩:=eK q3;clear q3;have hr:∃b,v=.ref b:=by
   cases v with
   |ref b=>exact⟨b,rfl⟩
   |_=>cases e3
  obtain⟨b,rfl⟩:=hr;cases rx.ref_inv;have ix2:∀Q:VK,(∀t',RV i.K H2 t t'->Q t' H2)->Co X.K (.ref b) y H2 Q\/Dg (.ref b) y H2 Q:=λQ hQ=>IF p2.hp ry e1 hQ;refine ix2 _ λt' rt=>?_;obtain⟨n1,n2,rfl,e0,hz⟩:=NC e2;cases e0;cases rt.int_inv;have fin:∀m:Int,z=.int m->Di (.ref b) y (.int m) H2 λH6=>D.nx σ H6:=λm hm=>by subst hm;exact Dv p2.hp (.ref b) ry (.int m) e3 λH3 k3 g3=>c.nx env σ _ _ ((k1.trans k2).trans k3) g3 (p2.en.keep k3) q4
  rcases hz with⟨eo,hz⟩|⟨eo,hz⟩
  .exact⟨n1,k,rfl,rfl,.inl ⟨eo,fin _ hz⟩⟩
  .exact⟨n1,k,rfl,rfl,.inr ⟨eo,fin _ hz⟩⟩
def Ef(t v:Expr)(p:Pos)(env:Env)(h:(∃a b q,t=.Subscript a b q)\/(∃a b q,t=.Attribute a b q)):Ϗ [t] v env=pure ei:=by rcases h with⟨a,b,q,rfl⟩|⟨a,b,q,rfl⟩<;>rfl
variable {a:O.E} {x:Expr}
def D8{t:Option Expr}{l:Nat}{env:Env}(h:(!NZ a)=ej):Ų (toX a c x) t l env=pure ez:=by
 cases a with
 |comp ô m p it tt e=>cases h
 |_=>rfl
def Ch{tg:Expr}(h:∀y q,tg≠.Name y q):swT c tg (toX a c x)=ez:=by
 cases a with
 |comp ô m p it tt e =>
  cases tg with
  |Name y q=>exact gc rfl<|h y q
  |_=>rfl
 |_=>rfl
def Lk(g:Gs X i P n c){p:O.Pt}(hc:(Zy p||c.cm)=ej)(h:okP p c=ej):PG X (toP p c x)<|gPt i p:=by
 by_cases dP:c.cm=ej
 .exact UA g dP h
 .cases p with
  |one j =>obtain⟨h1,h2,h3⟩:=g.nm1 h;exact NW (by rw[g.N];exact g.nd) h1 h2 h3
  |many js=>exact gc hc dP
  |nest j js=>exact gc hc dP
def Gd.nox(g:Gd X i P n c):Gd X.nox i P n c :=
 ⟨g.K,g.N,g.sc,g.nd,g.un,g.calm,g.room,g.bl,g.dfs,g.cst,⟨g.kl.A,g.kl.F,g.kl.mkc,g.kl.mth⟩,λh=>⟨(g.xl h).xc,(g.xl h).rs,(g.xl h).kn⟩⟩
def Gs.hot(g:Gs X i P n c)(a:È):Gs (X.caught a) i P n c.hot :=
 {K:=g.K,N:=g.N,sc:=g.sc,nd:=g.nd,un:=g.un,calm:=λz=>(by cases z),room:=λz=>(by cases z),bl:=g.bl,dfs:=g.dfs,cst:=g.cst,kl:=⟨g.kl.A,g.kl.F,g.kl.mkc,g.kl.mth⟩,xl:=λh=>⟨(g.xl h).xc,(g.xl h).rs,(g.xl h).kn⟩,fn:=g.fn,own:=λz=>(by cases z),stk:=λz=>(by cases z)}
mutual
theorem sS:∀(m:O.S) (X:Cx) (c:Md) (s:Ľ),Gs X i P n c->okS m c s=ej->PS X (toS m c s) (tSt X i (O.wF P n) m)
 |.set p a,X,c,s,g,h=>by
  have h:(okP p c&&okE a c (ke s 0)&&(Zy p || !Bx a)&&(Zy p||c.cm))=ej:=h;rw[bAq,bAq,bAq]at h;obtain⟨⟨⟨h1,h2⟩,h3⟩,h4⟩:=h;by_cases hsw:swT c (toP p c<|ke s 1) (toX a c<|ke s 0)=ej
  .obtain⟨ô,k,pt,it,tt,e,rfl⟩:=Ll hsw;cases p with
   |one j =>obtain⟨q1,q2,q3⟩:=g.nm1 h1;exact(AB g.toGd h2).2 _ _ _ j q1 q2 q3 (by rw[<-hsw];exact WI (c:=c) (.comp ô k pt it tt e) (ke s 0) g.sc)
   |many js=>cases hsw
   |nest j js=>cases hsw
  .have hp:PG X (toP p c<|ke s 1)<|gPt i p:=Lk g h4 h1;exact Lq (eE a X c _ g.toGd h2) hp (by rw[ώ,WI a _ g.sc,Bool.eq_false_iff.mpr hsw]) (Ha p a _ _ _ h3)<|Dc p _ _
 |.setIdx a j e,X,c,s,g,h=>by have h:(okE e c (ke s 0)&&okE a c (kid (ke s 1) 0)&&okE j c (kid (ke s 1) 1))=ej:=h;rw[bAq,bAq]at h;have ha:=eE a X c _ g.toGd h.1.2;have hj:=eE j X c _ g.toGd h.2;exact UR g.K (eE e X c _ g.toGd h.1.1) ha hj (HQ ha hj (PSet.or NG<|M5 (by have:=g.un;lia))<|D1 j) (by rw[ώ,WI e _ g.sc,Ch λy q z=>(by cases z)]) (Ef _ _ (ke s 1).pos _<|.inl ⟨_,_,_,rfl⟩) rfl
 |.setPair a j b k e,X,c,s,g,h=>nomatch h
 |.setFld o f e,X,c,s,g,h=>by have h:(c.fl.contains f&&okE o c (kid (ke s 1) 0)&&okE e c (ke s 0))=ej:=h;rw[bAq,bAq]at h;exact Ar g.K g.kl.A (g.kl.F _ h.1.1) (eE o X c _ g.toGd h.1.2) (eE e X c _ g.toGd h.2) (by rw[WI e _ g.sc,Ch λy q z=>(by cases z)])
 |.augVar j op e,X,c,s,g,h=>nomatch h
 |.augFld o f op k,X,c,s,g,h=>by have h:(c.fl.contains f&&okE o c (kid (ke s 1) 0)&&Ae op)=ej:=h;rw[bAq,bAq]at h;exact Ak g.K g.kl.A (g.kl.F _ h.1.1) (GQ h.2)<|eE o X c _ g.toGd h.1.2
 |.expr e,X,c,s,g,h=>by have h:(okE e c (ke s 0) && !NZ e)=ej:=h;rw[bAq]at h;exact FY (eE e X c _ g.toGd h.1)<|D8 h.2
 |.ret e,X,c,s,g,h=>GV<|eE e X c _ g.toGd h
 |.retN,X,c,s,g,h=>Fk
 |.ite t a b,X,c,s,g,h=>by have h:(okT t c (ke s 0)&&okSs a c (stB s)&&okSs b c (stO s))=ej:=h;rw[bAq,bAq]at h;exact GX (eT t X c _ g.toGd h.1.1).1 (sSs a X c _ g h.1.2)<|sSs b X c _ g h.2
 |.whl t b,X,c,s,g,h=>nomatch h
 |.for p it b,X,c,s,g,h=>by have h:(okP p c&&okI it c (ke s 1) (!Zy p)&&okSs b c (stB s)&&c.cm)=ej:=h;rw[bAq,bAq,bAq]at h;obtain⟨⟨⟨h1,h2⟩,h3⟩,h4⟩:=h;obtain⟨t1,t2⟩:=KJ (c:=c) p<|ke s 0;obtain⟨a1,a2⟩:=eI it X c (ke s 1) (toP p c<|ke s 0) g.toGd (!Zy p) t1 t2 h2;exact Lm (g.own h4) (g.calm h4) a1 (UA g h4 h1) (sSs b X c _ g h3) a2
 |.forI ej p e b,X,c,s,g,h=>by have h:(okP p c&&Gg e&&okE e c (ke s 1)&&okSs b c (stB s)&&c.cm)=ej:=h;rw[bAq,bAq,bAq,bAq]at h;obtain⟨⟨⟨⟨h1,h2⟩,h3⟩,h6⟩,h7⟩:=h;refine F2 (g.own h7) (g.calm h7) (eE e X c _ g.toGd h3) (UA g h7 h1) (sSs b X c _ g h6) λ_=>?_;cases e<;>first|rfl|cases h2
 |.forI ez p e b,X,c,s,g,h=>by have h:(okP p c && !Zy p&&okE e c (kid (kid (ke s 1) 0) 0)&&YA (toX e c<|kid (kid (ke s 1) 0) 0)&&((kid (ke s 1) 0).pos.endLine==(ke s 1).pos.line)&&okSs b c (stB s)&&c.cm)=ej:=h;rw[bAq,bAq,bAq,bAq,bAq,bAq]at h;obtain⟨⟨⟨⟨⟨⟨h1,h2⟩,h3⟩,h4⟩,h5⟩,h6⟩,h7⟩:=h;obtain⟨es,k,q,et⟩:=(KJ (c:=c) p<|ke s 0).1 h2;have hg:=UA (x:=ke s 0) g h7 h1;show PS X (.For (toP p c<|ke s 0) _ _ _ _) _;rw[et]at hg ⊢;exact EY (g.own h7) (g.calm h7) (eE e X c _ g.toGd h3) hg (sSs b X c _ g h6) (Ys h4 _ _) h5 λ_=>rfl
 |.never,X,c,s,g,h=>Cz
 |.brk,X,c,s,g,h=>nomatch h
 |.cnt,X,c,s,g,h=>nomatch h
 |.pass,X,c,s,g,h=>nomatch h
 |.raise C as,X,c,s,g,h=>nomatch h
 |.try t e (.cons K nm b .nil),X,c,s,g,h=>nomatch h
 |.try t e (.cons K nm b<|.cons _ _ _ _),X,c,s,g,h=>nomatch h
 |.try t e .nil,X,c,s,g,h=>nomatch h
 |.augIdx a j op k,X,c,s,g,h=>by have h:(okE a c (kid (ke s 1) 0)&&okE j c (kid (ke s 1) 1)&&Ae op)=ej:=h;rw[bAq,bAq]at h;exact Ah g.K (by have:=g.un;lia) h.2 (eE a X c _ g.toGd h.1.1) (eE j X c _ g.toGd h.1.2)<|Ly j _
theorem sSs:∀(ms:O.Ss) (X:Cx) (c:Md) (xs:List Ľ),Gs X i P n c->okSs ms c xs=ej->PSs X (toSs ms c xs) (tBl X i (O.wF P n) ms)
 |.nil,X,c,xs,g,h=>Ib
 |.cons m ms,X,c,xs,g,h=>by have h:(okS m c (xs.headD dS)&&okSs ms c xs.tail)=ej:=h;rw[bAq]at h;exact FO (sS m X c _ g h.1)<|sSs ms X c _ g h.2
end
abbrev OE(N ps:List Str)(sc:ż):Bool :=
 sc.kind == .function && !sc.isCoroutine && !sc.isGenerator&&decide N.Nodup&&(N.take ps.length==ps)&&ps.all (λx=>sc.names.lookup x==eh .local||sc.names.lookup x==eh .cell)&&sc.names.all λy=>y.2 != .free
variable {ps:List Str}
def QE{N:List Str}{sc:ż}(h:OE N ps sc=ej):FnScope N ps sc:=by
 simp only[OE,bAq,ŗ,gb,ò]at h;obtain⟨⟨⟨⟨⟨⟨h1,h2⟩,h3⟩,h4⟩,h5⟩,h6⟩,h7⟩:=h;refine⟨eq_of_beq h1,h2,h3,h4,eq_of_beq h5,λx hx=>?_,λy hy=>?_⟩
 .simpa using h6 x hx
 .simpa using h7 y hy
structure Ds where
 st:Ľ
 N:List Str
 ps:List Str
 d:O.Fn
structure Mt where
 C:String
 m:String
 qual:String
 x:Ds
structure Tb where
 fs:List<|String×Ds
 ms:List Mt
 cs:List<|String×O.Val
 cl:List String
 fl:List String
 xs:List String
abbrev Tb.md(T:Tb)(x:Ds):Md:={N:=x.N,sc:=Zh x.st,cs:=T.cs,fs:=T.fs.map (·.1),cm:=ej,cl:=T.cl,ms:=T.ms.map λy=>(y.C,y.m),fl:=T.fl,xs:=T.xs}
abbrev Ds.test(T:Tb)(x:Ds):Bool :=
 OE x.N x.ps (Zh x.st)&&okSs x.d.body (T.md x) (ZE x.st)&&x.ps.length==x.d.ar&&x.N.length==x.d.sz&&gf (x.d.ar<=x.d.sz)
structure Ds.Ok(T:Tb)(x:Ds):Prop where
 ok:x.test T=ej
 eq:toSs x.d.body (T.md x) (ZE x.st)=ZE x.st
variable {pr:à}{wd:ó}{mg:Str->Option Â}{base:Ă}{i:Inf}{P:O.Pg}{T:Tb}
abbrev Dst(K:Frag)(mg:Str->Option Â)(f:String)(x:Ds):Prop:=∃fa fd qual,Fun K (gg f) qual x.st fa fd/\mg (gg f)=eh (.ref fa)/\Binds K fd x.ps []
structure Mst(i:Inf)(mg:Str->Option Â)(y:Mt)(a fa:È):Prop where
 cl:mg (gg y.C)=eh (.ref a)
 fn:∃fd,Fun i.K (gg y.m) (gg y.qual) y.x.st fa fd/\Binds i.K fd y.x.ps []
 at_:Meth i.K a (gg y.m) fa
variable {f:String} {fa:È} {fd:Ņ}
def O4:fk pr wd i.K mg base (CX1 pr wd) 0 fa fd ps<|spF i P 0 f:=by
 refine⟨λvs H Q E h=>?_,λA outer s H args us vs Q E hr he hb hv h=>?_⟩
 .obtain⟨_,_,_,_,_,_,w,_⟩:=h;rw[O.wF_eq]at w;exact w.elim
 .obtain⟨_,_,_,_,_,_,w,_⟩:=h;rw[O.wF_eq]at w;exact w.elim
variable {n:Nat}
def B7{vs:List O.Val}{h:O.Hs}{Q:O.Q1}{E:O.XQ}(q:O.wF P (n+1) f vs h Q E):∃d,P f=eh d/\vs.length=d.ar/\O.wSs (O.wF P n) d.body (d.env vs) h (λ_ g=>Q .non g) Q (λ_ _=>False) (λ_ _=>False) λ_ c g=>E c g:=by rw[O.wF_eq]at q;obtain⟨d,e,q1,q2⟩:=eK q;exact⟨d,e,q1,by rw[O.wF_eq];exact q2⟩
structure Modu(mg:Str->Option Â)(base:Ă)(i:Inf)(T:Tb):Prop where
 bl:∀x∈blts,mg x=ei
 cst:∀x v,T.cs.lookup x=eh v->∃u y,mg (gg x)=eh u/\RelV y u/\∀H,RV i.K H v y
 A:ClsA i
 F:∀f,T.fl.contains f=ej->FldOk i f
 cl:∀C a,i.cl C a->mg (gg C)=eh (.ref a)
 mkc:∀C,T.cl.contains C=ej->∃a y f,i.ins C=ej/\i.cl C a/\Mk i.K a f/\y∈T.ms/\y.C=C/\y.m = "__init__"/\Mst i mg y a f
 fs:∀f x,(f,x)∈T.fs->Dst i.K mg f x
 ms:∀y,y∈T.ms->∃a f,Mst i mg y a f/\Cls i.K a
 xc:T.xs≠[]->∀C a,i.xc C a->XCls i.K a/\PySem.W.kitOne i.K (.ref a) (.type "ValueError")=eh ej
 rs:T.xs≠[]->∀C,T.xs.contains C=ej->∃a,i.xc C a/\PyProof.Rows.OwnCls (gg C) a [.type "ValueError",.type "Exception",.type "BaseException",.type "object"] "ValueError.__new__" mg base
 kn:T.xs≠[]->∀T',(T.xs.contains T'||T' == "ShutError")=ej->∃D,mg (gg T')=eh (.ref D)/\∀C a,i.xc C a->PySem.W.kitOne i.K (.ref a) (.ref D)=eh (O.fP C T')/\(O.fP C T'=ej->PySem.W.exmOne i.K (.ref a) (.ref D)=eh ej)
structure Held(pr:à)(wd:ó)(mg:Str->Option Â)(base:Ă)(i:Inf)(P:O.Pg)(T:Tb)(n:Nat):Prop where
 fs:∀f x,(f,x)∈T.fs->Dfo pr wd mg base i P n f
 ms:∀y a f,y∈T.ms->Mst i mg y a f->Dfm pr wd mg base i P n (y.C ++ "." ++ y.m) f
def fn_succ{x:Ds}{nm qual:Str}(M:Modu mg base i T)(hn:Held pr wd mg base i P T n)(F:Fun i.K nm qual x.st fa fd)(hP:P f=eh x.d)(ht:x.Ok T):fk pr wd i.K mg base (CX1 pr wd) (2*(n+1)) fa fd x.ps<|spF i P (n+1) f:=by
 obtain⟨ht,heq⟩:=ht;simp only[Ds.test,bAq,gb]at ht;obtain⟨⟨⟨⟨h1,h2⟩,h3⟩,h4⟩,h5⟩:=ht;have h3:=eq_of_beq h3;have h4:=eq_of_beq h4;have S:=QE h1;refine F.ok1 (k:=2*n+1) S (λvs H Q E h=>?_) λύ A outer s H vs Q E hr dJ hw=>?_
 .obtain⟨args,G,Qm,Em,r,g,w,_⟩:=h;obtain⟨d,e,q,_⟩:=B7 w;rw[hP]at e;cases e;rw[<-r.length,q,h3]
 .obtain⟨args,G,Qm,Em,r,g,w,cn,ex⟩:=dJ;obtain⟨d,e,q,w⟩:=B7 w;rw[hP]at e;cases e;have gd:Gs (JQ (CX1 pr wd) pr wd i.K mg base x.N qual (Zh x.st) fa ύ A outer s H E) i P n (T.md x) :=
   { K:=rfl,N:=rfl,sc:=rfl,nd:=S.nd,un:=(by have:=hr.un;show(A.deeper _).units+200<Ĥ;lia),calm:=λ_=>rfl,room:=λ_=>hr,bl:=M.bl
     dfs:=λg hg=>(by
       obtain⟨p,hy,e⟩:=Ú.mp<|Ć.mp hg
       subst e
       exact hn.fs p.1 p.2 hy)
     cst:=M.cst
     kl:=⟨M.A,M.F,λC hC=>(by
       obtain⟨a,y,f,q1,q2,q3,q4,rfl,q6,q7⟩:=M.mkc C hC
       refine⟨a,f,q1,q2,q3,M.cl _ _ q2,?_⟩
       have:=hn.ms y a f q4 q7
       rw[q6]at this
       rwa [show y.C ++ ".__init__" = y.C ++ "." ++ "__init__" by rw[String.append_assoc];rfl]),λC m hC=>(by
       obtain⟨y,hy,e⟩:=Ú.mp<|Ć.mp hC
       cases e
       obtain⟨a,f,q1,q2⟩:=M.ms y hy
       refine⟨a,f,λb hb=>?_,q2,q1.at_,hn.ms y a f hy q1⟩
       have e1:=M.cl _ _ hb
       rw[q1.cl]at e1
       cases e1
       rfl)⟩
     xl:=λh=>⟨M.xc h,M.rs h,M.kn h⟩
     fn:=λ_ _=>.inl rfl
     own:=λ_=>PassesOwn.leaving
     stk:=λ_=>rfl }
  have hb:=sSs x.d.body _ _ _ gd h2;rw[heq]at hb;refine⟨_,hb,?_⟩;refine⟨x.d.env args,G,(λ_ g=>Qm .non g),Qm,(λ_ _=>False),(λ_ _=>False),(λ_ c g=>Em c g),?_,w,?_⟩
  .refine⟨?_,g,?_⟩
   .have:=REn.start (n:=x.d.sz - x.d.ar) r;unfold L2.start;have e1:x.N.length - vs.length=x.d.sz - x.d.ar:=by rw[h4,<-r.length,q]
    rw[e1];exact this
   .intro Á σ H0 s0 H' a cls s' I fl hx;obtain⟨e,c,G',ad,q1,q2,q3,q4,q5⟩:=hx;exact hw Á σ H0 s0 H' a cls s' I fl<|ex _ _ _ ⟨c,G',ad,q1,q2,q3,q4,q5⟩
  .refine⟨?_,?_,?_,?_⟩
   .intro Ś Ř G' H' k g' e w';exact cn .non G' H' .non k g' .non w'
   .intro v G' H' y k g' rv w';exact cn v G' H' y k g' rv w'
   .intro _ _ _ _ _ _ _ z;exact z.elim
   .intro _ _ _ _ _ _ _ z;exact z.elim
def held_all(M:Modu mg base i T)(hP:∀f x,(f,x)∈T.fs->P f=eh x.d)(hPm:∀y,y∈T.ms->P (y.C ++ "." ++ y.m)=eh y.x.d)(ht:∀f x,(f,x)∈T.fs->x.Ok T)(htm:∀y,y∈T.ms->y.x.Ok T):∀n,Held pr wd mg base i P T n:=by
 intro n;induction n with
 |zero =>
  refine⟨λf x h=>?_,λy a f hy S=>?_⟩
  .obtain⟨fa,fd,qual,F,hm,hb⟩:=M.fs f x h;exact⟨fa,fd,x.ps,O4,hm,F.kp,hb⟩
  .obtain⟨fd,F,hb⟩:=S.fn;exact⟨fd,y.x.ps,O4,hb⟩
 |succ n ih =>
  refine⟨λf x h=>?_,λy a f hy S=>?_⟩
  .obtain⟨fa,fd,qual,F,hm,hb⟩:=M.fs f x h;exact⟨fa,fd,x.ps,fn_succ M ih F (hP f x h)<|ht f x h,hm,F.kp,hb⟩
  .obtain⟨fd,F,hb⟩:=S.fn;exact⟨fd,y.x.ps,fn_succ M ih F (hPm y hy)<|htm y hy,hb⟩
end Snd
namespace Hd
open PySem PySem.W PyProof.Rows
abbrev WL(st:SharedT->Thread->Option (SharedT×Thread))(ok th:Thread->Bool):Nat->SharedT->Thread->Option SharedT
 |0,_,_=>ei
 |n+1,s,t=>match th t with
  |true=>eh s
  |false=>match ok t with
   |false=>ei
   |true=>match st s t with
    |some (s',t')=>WL st ok th n s' t'
    |none=>ei
def W6{tb:String->Option Builtin}{p:Program}{w:World}{n₀:Nat}{ann:Option Value}:∀{n:Nat}{s s':SharedT}{t:Thread},WL (stepT (denote tb) p w) (stepOk n₀ ann) through n s t=eh s'->topRun tb p w n₀ ann n s.abs t=eh s'.abs
 |0,_,_,_,h=>by cases h
 |n+1,s,s',t,h=>by
  unfold WL at h;unfold topRun;cases ht:through t with
  |true=>rw[ht]at h;cases h;rfl
  |false =>
   rw[ht]at h;dsimp only at h ⊢;cases hk:stepOk n₀ ann t with
   |false=>rw[hk]at h;cases h
   |true =>
    rw[hk]at h;dsimp only at h ⊢;cases hs:stepT (denote tb) p w s t with
    |none=>rw[hs]at h;cases h
    |some r =>obtain⟨s2,t2⟩:=r;rw[hs]at h;rw[stepT_spec hs];exact W6 h
abbrev Js(P:Params):BT :=
 .node (boot_o_0 P) (.node (boot_o_1 P) (.node (boot_o_3 P) (.node (boot_o_7 P) .nil .nil) .nil)<|.node (boot_o_5 P) (.node (boot_o_9 P) .nil .nil) .nil)
  (.node (boot_o_2 P) (.node (boot_o_4 P) (.node (boot_o_8 P) .nil .nil) .nil)<|.node (boot_o_6 P) (.node (boot_o_10 P) .nil .nil) .nil)
def AS(P:Params):absHeap (Js P) 11 {}=boot_heap P:=by kernel_rfl
def Az(P:Params):((boot_heap P).isNs mainGlobals&&(Array.mk []:Array GenState).size==0,(boot_heap P).objs.size,(boot_heap P).nsMap mainGlobals "__annotations__")=(ej,11,eh<|.ref 6):=by
 rw[show @Heap.nsMap=_ from Fast.te8920871248978507458]
 kernel_rfl
abbrev GH:=Fast.tw10156331382660048174
abbrev Uh:=Fast.tw11892475500146522536
abbrev DG:=Fast.tw14364793385576792824
abbrev okY:=Fast.tw6613529449190102663
abbrev seenY:=Fast.tw4187177175401517315
abbrev modsY:=Fast.tw5923862056798008813
abbrev runY(p:Program)(N:Nat)(w:World)(os:OsState):Option SharedT:=WL (GH (Uh DG) p w) (okY 11<|eh<|.ref 6) through N ⟨Js w.params,11,{},Array.mk [],boot_drawn,boot_toks,os⟩<|topStub p
abbrev stY(p:Program)(w:World)(s:SharedT):Bool:=staticsOk (modsY p.main.body) (boot_heap w.params) s.abs.heap&&namesBound p s.abs.heap&&gensDone s.abs&&laidKept (boot_heap w.params) s.abs.heap
def left_of{p q:Program}{loose:List Str}{Xt:Shared->Bool}{α:Type}{Yf:Shared->α}{Ya:World->α}{N:Nat}(e:opening p=plainProg p.main.scope.names)(hN:Nat.ble 600 N=ej)(f:∀s,fenceModules? p s=eh s)
  (one:∀w os,(runY p N w os).map (stY p w)=eh ej) (two:∀w os,(runY p N w os).map (λs=>seenY q loose (modsY p.main.body) Xt ej s.abs)=eh (openGood q loose)) (three:∀w os,(runY p N w os).map (λs=>Yf s.abs)=eh (Ya w)) :
  LeftO p q loose Xt Yf Ya N:=by
 intro w;obtain⟨⟨h,gs,d,k,os⟩,e1,e2⟩:=Î.mp<|boot_open e hN f w;obtain⟨rfl,rfl,rfl,rfl⟩:h=boot_heap w.params/\gs=Array.mk []/\d=boot_drawn/\k=boot_toks:=by simpa using e2
 obtain⟨s,r,l1⟩:=Î.mp<|one w os;obtain⟨s',r',l2⟩:=Î.mp<|two w os;cases r.symm.trans r';obtain⟨s',r',l3⟩:=Î.mp<|three w os;cases r.symm.trans r';obtain⟨z1,z2,z3⟩:_/\_/\_:=by simpa only[ψ]using Az w.params
 unfold stY at l1;unfold runY GH Uh DG okY at r;rw[<-Fast.te10156331382660048174,<-Fast.te11892475500146522536,<-Fast.te14364793385576792824,<-Fast.te6613529449190102663]at r;unfold modsY at l1 l2;unfold seenY at l2;rw[<-Fast.te5923862056798008813]at l1 l2;rw[<-Fast.te4187177175401517315]at l2;have r2:=W6 r;have ea:(SharedT.mk (Js w.params) 11 {} (Array.mk []) boot_drawn boot_toks os).abs=⟨boot_heap w.params,Array.mk [],boot_drawn,boot_toks,os⟩:=by show Shared.mk (absHeap _ _ _) _ _ _ _=_;rw[AS]
 rw[ea]at r2;have t:topFrom treeTable p w N ⟨boot_heap w.params,Array.mk [],boot_drawn,boot_toks,os⟩=eh s.abs:=by unfold topFrom;dsimp only;rw[z1,z2,z3,r2];show(match staticsOk (importedModules p.main.body) (boot_heap w.params) s.abs.heap&&namesBound p s.abs.heap&&gensDone s.abs&&laidKept (boot_heap w.params) s.abs.heap with|true=>_|false=>_)=_;rw[l1]
 unfold openEnds;rw[e1];show(topFrom treeTable p w N _).map _=_;rw[t];exact congrArg eh<|Prod.ext l2 l3
end Hd
namespace Hd
open PySem PySem.W PyProof.Rows L2
abbrev Kc:Nat->List Obj->Frag
 |_,[]=>[]
 |i,o::r=>match o with
  |⟨_,_,.freed,_⟩=>Kc (i+1) r
  |o=>(i,o)::Kc (i+1) r
abbrev Zv(g:Heap):Frag:=Kc 0 g.objs.toList
def MU:∀(l:List Obj) (i a:Nat) (o:Obj),(Kc i l).lookup a=eh o->i<=a/\l[a - i]?=eh o/\(match eh o with|some ⟨_,_,.freed,_⟩=>ei|o=>o)=eh o
 |[],_,_,_,h=>by cases h
 |x::r,i,a,o,h=>by
  have rec1:(Kc (i+1) r).lookup a=eh o->i<=a/\(x::r)[a - i]?=eh o/\(match eh o with|some ⟨_,_,.freed,_⟩=>ei|o=>o)=eh o:=λq=>by obtain⟨h1,h2,h3⟩:=MU r (i+1) a o q;refine⟨by lia,?_,h3⟩;rw[show a - i=(a - (i+1))+1 by lia,List.getElem?_cons_succ];exact h2
  unfold Kc at h;split at h
  .exact rec1 h
  .rename_i c Ŵ;rw[ï]at h;split at h
   .rename_i e;cases h;have e:=eq_of_beq e;subst e;refine⟨Ì _,by rw[Nat.sub_self];rfl,?_⟩;split
    .rename_i d1 d2 d3 d4;cases d4;exact(Ŵ _ _ _ rfl).elim
    .rfl
   .exact rec1 h
def OB{g:Heap}{a:Addr}{o:Obj}(h:(Zv g).lookup a=eh o):g.get? a=eh o:=by obtain⟨_,h2,h3⟩:=MU _ _ _ _ h;unfold Heap.get?;rw[Nat.sub_zero,ą]at h2;rw[h2];exact h3
abbrev Ce(K:Frag)(nm:Str):Option<|FuncData×Bool×Bool:=match nsIn K mainGlobals nm with
 |some (eh<|.ref f)=>match K.lookup f with
  |some ⟨_,_,.func fd,_⟩=>eh ({fd with kwdefaults:=.none,doc:=.none,pyModule:=.none,annotations:=ei,code:=.none,closureTuple:=.none},codeIn K fd.code fd.qualname,keepIn K<|.ref f)
  |_=>ei
 |_=>ei
abbrev CP(nm:Str)(st:Stmt):Option<|FuncData×Bool×Bool:=eh (fnOf nm nm (YI st) (ZE st) (Zh st) .none .none .none .none ei .none .none,ej,ej)
def Lx{K:Frag}{nm:Str}{st:Stmt}(e:Ce K nm=CP nm st):∃fa fd,Fun K nm nm st fa fd/\nsIn K mainGlobals nm=eh (eh<|.ref fa):=by
 unfold Ce at e;split at e
 .rename_i f hf;split at e
  .rename_i oc od fd sl hl;simp only[CP,ĩ,ψ]at e;obtain⟨e1,e2,e3⟩:=e;obtain⟨n1,n2,n3,n4,n5,n6,n7,n8,n9,n10,n11,n12,n13,n14,n15⟩:=fd;simp only[fnOf,FuncData.mk.injEq]at e1;obtain⟨rfl,rfl,rfl,rfl,rfl,rfl,rfl,rfl,-,-,-,-,-,-,rfl⟩:=e1;exact⟨f,_,Bz hl e2 e3,hf⟩
  .cases e
 .cases e
abbrev GF(K:Frag)(y:Str):Bool:=match nsIn K mainGlobals y with
 |some ei=>ej
 |_=>ez
def Er{l:OpenLaw}{n k:Nat}{q:Program}{loose:List Str}{XP:(Str->Option Value)->Heap->Prop}{YP:World->Heap->Prop}{d:DefRec}{CX:World->CXT}{x:Str}
  (hn:l.most=eh n) (hn2:n<=sizeLine) (hdf:d.params.defaults=[]) (hr:fj k callerA)
  (F:∀(w:World) (mg:Str->Option Value) (fa:Addr) (h:Heap),YP w h->h.Ns mainGlobals mg->mg d.name=eh (.ref fa)->∃(K:Frag) (sp:Sp),K.In h/\
    (∃fd:FuncData,(∀(s:Shared) (u:Value),BindsTo s fd ⟨[u],[]⟩ [(x,u)])/\∀base:Heap,K.In base->base.Ns mainGlobals mg->fk l.prog w K mg base (CX w) k fa fd [x] sp)/\
    ∀(H:Hp) (a:Addr) (ns:List Int),ns.length<=n->HH H->fQ K H a (ns.map V.int)->sp [.ref a] H (λv _=>v=.bl ej) λ_ _ _=>False)
  (hCX:∀(w:World) (H:Hp) (s:Shared) (e:Value) (s':Shared),CX w [] H s (λ_ _ _=>False) e s'->False) :
  WalkO q loose XP YP l.row.toRowW d [] (λf vs=>PySem.call f vs):=by
 refine Att.attach_call hn hdf λw s₀ Ě mg mb fa o pm cd doc a vs ns G Y ho hd aG hmg df hints hlen hg=>?_;obtain⟨K,sp,KX,⟨fd,hb,hF⟩,dJ⟩:=F w mg fa _ Y G.T.g hmg;exact Dn KX G.T.g G.T.b G.T.builtins G.T.nolimit hg df hints (Ý hlen hn2) hr hF hb (λH hO hS=>dJ H a ns hlen hO hS) λH e s'=>hCX w H Ě e s'
abbrev EJ(f:Value->O.Val->Bool):List Value->List O.Val->Bool
 |[],[]=>ej
 |u::us,x::xs=>f u x&&EJ f us xs
 |_,_=>ez
abbrev GO(K:Frag):Value->Option (List Value)
 |.ref a=>match K.lookup a with
  |some ⟨.type n,_,.seq us _,_⟩=>if n == "tuple" && gf (us.size<=sizeLine)then eh us.toList else ei
  |_=>ei
 |_=>ei
abbrev DV(K:Frag):Nat->Value->O.Val->Bool
 |0,_,_=>ez
 |n+1,u,v=>match v with
  |.non=>(match u with|.none=>ej|_=>ez)
  |.bl b=>(match u with|.bool a=>a==b|_=>ez)
  |.int j=>(match u with|.int i _=>i==j|_=>ez)
  |.str t=>(match u with|.str s _=>Fast.sEq s (gg t)|_=>ez)
  |.tup xs=>(match GO K u with|some us=>EJ (DV K n) us xs|none=>ez)
  |_=>ez
def BY{K:Frag}{f:Value->O.Val->Bool}(hf:∀u v,f u v=ej->∃z,RelV z u/\∀H,Snd.RV K H v z):∀(us:List Value) (xs:List O.Val),EJ f us xs=ej->∃zs,fS zs us/\∀H,Snd.RVs K H xs zs
 |[],[],_=>⟨[],.nil,λ_=>.nil⟩
 |u::us,x::xs,h=>by rw[EJ,bAq]at h;obtain⟨z,r,q⟩:=hf u x h.1;obtain⟨zs,rs,qs⟩:=BY hf us xs h.2;exact⟨z::zs,.cons r rs,λH=>.cons (q H)<|qs H⟩
 |[],_::_,h=>by cases h
 |_::_,[],h=>by cases h
def A9{K:Frag}:∀(n:Nat) (u:Value) (v:O.Val),DV K n u v=ej->∃z,RelV z u/\∀H,Snd.RV K H v z
 |0,_,_,h=>by cases h
 |n+1,u,v,h=>by
  unfold DV at h;cases v with
  |non =>
   dsimp only at h;split at h
   .exact⟨.non,rfl,λ_=>.non⟩
   .cases h
  |bl b =>
   dsimp only at h;split at h
   .cases eq_of_beq h;exact⟨.bl b,rfl,λ_=>.bl b⟩
   .cases h
  |int j =>
   dsimp only at h;split at h
   .cases eq_of_beq h;exact⟨.int j,⟨_,rfl⟩,λ_=>.int j⟩
   .cases h
  |str t =>
   dsimp only at h;split at h
   .cases Fast.sEq_iff.mp h;exact⟨.str<|gg t,⟨_,rfl⟩,λ_=>.str t⟩
   .cases h
  |tup xs =>
   dsimp only at h;split at h
   .rename_i us hu;obtain⟨zs,rs,qs⟩:=BY (λu v=>A9 n u v) us xs h;unfold GO at hu;split at hu
    .rename_i a;split at hu
     .rename_i nm od ñ k sl hl;split at hu
      .rename_i hc;rw[bAq,gb]at hc;cases eq_of_beq hc.1;cases hu;exact⟨.ref a,rfl,λH=>.tup (.inr ⟨_,ñ,k,hl,rfl,rfl,hc.2,rs⟩)<|qs H⟩
      .cases hu
     .cases hu
    .cases hu
   .cases h
  |ref a=>cases h
  |scr ns=>cases h
  |key i j=>cases h
abbrev Cy(K:Frag)(p:String×O.Val):Bool:=match nsIn K mainGlobals (gg p.1)with
 |some (eh u)=>DV K 4 u p.2
 |_=>ez
def WY{α β:Type}[BEq α][LawfulBEq α]{a:α}{b:β}:∀{l:List (α×β)},l.lookup a=eh b->(a,b)∈l
 |[],h=>by cases h
 |(x,y)::r,h=>by
  rw[ï]at h;split at h
  .rename_i e;cases h;cases eq_of_beq e;exact .head _
  .exact .tail _<|WY h
def Lr{K:Frag}{mg:Str->Option Value}{h:Heap}{x:Str}{C:Addr}{bmB:List Value}{id:String}(X:K.In h)(hm:mg x=eh (.ref C))(q:excIn K C bmB id=ej):PyProof.Rows.OwnCls x C bmB id mg h:=by
 constructor
 .exact hm
 have z:=q;unfold excIn at z;split at z
 next dd cd sl ho =>
  split at z
  next C1 bm k0 k1 k2 k3 n k5 em es =>
   rw[bAq,bAq,bAq,bAq,bAq]at z;obtain⟨⟨⟨⟨⟨z1,z2⟩,z3⟩,z4⟩,z5⟩,z6⟩:=z;have z1:=eq_of_beq z1;have z2:=eq_of_beq z2;have z6:=eq_of_beq z6;subst z1 z2;have z3b:cd.hasDel=ez:=by
    cases e:cd.hasDel with
    |false=>rfl
    |true=>rw[e]at z3;cases z3
   have es':sl=#[k0,k1,k2,k3,eh<|.builtin n,k5]:=dZ.mp es;have nN:=nsMap_none_of_in X z5 z6;have nI:=Heap.Ns.of_isNs<|isNs_of_in X z5;have tI:=tail_of_in X z4;cases cd;dsimp only at em z3b nN nI;subst em z3b es';exact⟨bm,_,_,_,_,_,_,_,_,_,dd,k0,k1,k2,k3,k5,_,X _ _ ho,nI,nN,tI⟩
  next=>cases z
 next=>cases z
abbrev He(K:Frag)(f:Addr):Option<|FuncData×Bool×Bool:=match K.lookup f with
 |some ⟨_,_,.func fd,_⟩=>eh ({fd with kwdefaults:=.none,doc:=.none,pyModule:=.none,annotations:=ei,code:=.none,closureTuple:=.none},codeIn K fd.code fd.qualname,keepIn K<|.ref f)
 |_=>ei
abbrev N9(nm qual:Str)(st:Stmt):Option<|FuncData×Bool×Bool:=eh (fnOf nm qual (YI st) (ZE st) (Zh st) .none .none .none .none ei .none .none,ej,ej)
def Ls{K:Frag}{nm qual:Str}{st:Stmt}{f:Addr}(e:He K f=N9 nm qual st):∃fd,Fun K nm qual st f fd:=by
 unfold He at e;split at e
 .rename_i oc od fd sl hl;simp only[N9,ĩ,ψ]at e;obtain⟨e1,e2,e3⟩:=e;obtain⟨n1,n2,n3,n4,n5,n6,n7,n8,n9,n10,n11,n12,n13,n14,n15⟩:=fd;simp only[fnOf,FuncData.mk.injEq]at e1;obtain⟨rfl,rfl,rfl,rfl,rfl,rfl,rfl,rfl,-,-,-,-,-,-,rfl⟩:=e1;exact⟨_,Bz hl e2 e3⟩
 .cases e
abbrev JE(K:Frag)(C:String):Option Addr:=match nsIn K mainGlobals (gg C)with
 |some (eh<|.ref a)=>eh a
 |_=>ei
variable {C:String} {a:Addr}
def WM{K:Frag}(h:JE K C=eh a):nsIn K mainGlobals (gg C)=eh (eh<|.ref a):=by
 unfold JE at h;split at h
 .cases h;assumption
 .cases h
structure CV where
 pg:Bool
 hd:Bool
 po:Bool
 sa:Option<|Option Value
abbrev Gb(K:Frag)(a:Addr):CV:=⟨plainGet K a Str.empty,hasDictIn K a,plainOver K a,findIn K (.ref a) "__setattr__"⟩
abbrev OJ:CV:=⟨ej,ej,ej,eh<|eh<|.builtin "object.__setattr__"⟩
def Bt{K:Frag}(h:Gb K a=OJ):Cls K a:=by simp only[Gb,OJ,CV.mk.injEq]at h;exact⟨h.1,h.2.1,h.2.2.1,h.2.2.2⟩
structure MV where
 fn:Option<|FuncData×Bool×Bool
 isf:Bool
 cv:CV
abbrev Dj(K:Frag)(y:Snd.Mt):Option MV:=match JE K y.C with
 |some a=>match findIn K (.ref a) (gg y.m)with
  |some (eh<|.ref f)=>eh ⟨He K f,isFn K<|.ref f,Gb K a⟩
  |_=>ei
 |none=>ei
abbrev CI(y:Snd.Mt):Option MV:=eh ⟨N9 (gg y.m) (gg y.qual) y.x.st,ej,OJ⟩
def LQ{K:Frag}{y:Snd.Mt}(e:Dj K y=CI y):∃a f fd,nsIn K mainGlobals (gg y.C)=eh (eh<|.ref a)/\Fun K (gg y.m) (gg y.qual) y.x.st f fd/\Meth K a (gg y.m) f/\Cls K a:=by
 unfold Dj at e;split at e
 .rename_i a ha;split at e
  .rename_i f hf;simp only[CI,ĩ,MV.mk.injEq]at e;obtain⟨e1,e2,e3⟩:=e;obtain⟨fd,F⟩:=Ls e1;exact⟨a,f,fd,WM ha,F,⟨hf,e2,F.kp⟩,Bt e3⟩
  .cases e
 .cases e
structure QV where
 mks:Bool
 kp:Bool
 cv:CV
 fl:List<|Option<|Option Value
 ic:Option (Option Value)×Option (Option Value)×Option Bool×Option Bool
abbrev DF(K:Frag)(fl:List String)(C:String):Option QV:=match JE K C with
 |some a=>eh ⟨makesIn K a,keepIn K<|.ref a,Gb K a,fl.map λf=>findIn K (.ref a)<|gg f,(findIn K (.ref a) "__class__",specialIn K (.builtin "object.__class__") "__get__",takesIn K<|.builtin "object.__class__",mroIn K a<|.type "object")⟩
 |none=>ei
abbrev CY(fl:List String):Option QV:=eh ⟨ej,ej,OJ,fl.map λ_=>eh ei,(eh<|eh<|.builtin "object.__class__",eh<|eh<|.builtin "getset_descriptor.__get__",eh ej,eh ej)⟩
def GL{K:Frag}{fl:List String}(e:DF K fl C=CY fl):∃a,nsIn K mainGlobals (gg C)=eh (eh<|.ref a)/\makesIn K a=ej/\keepIn K (.ref a)=ej/\Cls K a/\(∀f∈fl,NoAttr K a<|gg f)/\Snd.IC K a:=by
 unfold DF at e;split at e
 .rename_i a ha;simp only[CY,ĩ,QV.mk.injEq,ψ]at e;obtain⟨e1,e2,e3,e4,e5,e6,e7,e8⟩:=e;exact⟨a,WM ha,e1,e2,Bt e3,λf hf=>Ĝ.mp e4 f hf,⟨e5,e6,e7,e8⟩⟩
 .cases e
structure XV where
 ex:Bool
 f1:Option<|Option Value
 f2:Option<|Option Value
 f3:Option<|Option Value
 m1:Option Bool
 m2:Option Bool
 ci:Bool
 ve:Option Bool
 ks:List<|Option<|Option Bool×Option Bool
abbrev AY(K:Frag)(xs:List String)(C:String):Option XV:=match JE K C with
 |some a=>eh ⟨excIn K a [.type "ValueError",.type "Exception",.type "BaseException",.type "object"] "ValueError.__new__",findIn K (.ref a) "__getattribute__",findIn K (.ref a) "__getattr__",findIn K (.ref a) "__class__",mroIn K a<|.type "object",mroIn K a<|.type "BaseException",(clsIn K a).isSome,kitOne K (.ref a)<|.type "ValueError",("ShutError" :: xs).map λT=>(JE K T).map λD=>(kitOne K (.ref a)<|.ref D,exmOne K (.ref a)<|.ref D)⟩
 |none=>ei
abbrev Db(xs:List String)(C:String):Option XV:=eh ⟨ej,eh<|eh<|.builtin "BaseException.__getattribute__",eh ei,eh<|eh<|.builtin "object.__class__",eh ej,eh ej,ej,eh ej,("ShutError" :: xs).map λT=>eh (eh<|O.fP C T,eh<|O.fP C T)⟩
def Ck{K:Frag}{xs:List String}(e:AY K xs C=Db xs C):∃a,nsIn K mainGlobals (gg C)=eh (eh<|.ref a)/\excIn K a [.type "ValueError",.type "Exception",.type "BaseException",.type "object"] "ValueError.__new__" = ej/\XCls K a/\kitOne K (.ref a) (.type "ValueError")=eh ej/\
  ∀T∈"ShutError" :: xs,∃D,nsIn K mainGlobals (gg T)=eh (eh<|.ref D)/\kitOne K (.ref a) (.ref D)=eh (O.fP C T)/\exmOne K (.ref a) (.ref D)=eh (O.fP C T):=by
 unfold AY at e;split at e
 .rename_i a ha;simp only[Db,ĩ,XV.mk.injEq]at e;obtain⟨e1,e2,e3,e4,e5,e6,e7,e8,e9⟩:=e;refine⟨a,WM ha,e1,⟨e2,e3,e4,e5,e6,e7⟩,e8,λT hT=>?_⟩;have:=Ĝ.mp e9 T hT;cases z:JE K T with
  |none=>rw[z]at this;cases this
  |some D =>rw[z]at this;simp only[ō,ĩ,ψ]at this;exact⟨D,WM z,this.1,this.2⟩
 .cases e
structure View where
 fs:List<|Option<|FuncData×Bool×Bool
 ms:List<|Option MV
 cl:List<|Option QV
 xs:List<|Option XV
 ok:Bool
abbrev view(T:Snd.Tb)(K:Frag):View:=⟨T.fs.map λp=>Ce K<|gg p.1,T.ms.map<|Dj K,T.cl.map<|DF K T.fl,T.xs.map<|AY K T.xs,T.cs.all (Cy K)&&Snd.blts.all (GF K)⟩
abbrev due(T:Snd.Tb):View:=⟨T.fs.map λp=>CP (gg p.1) p.2.st,T.ms.map CI,T.cl.map λ_=>CY T.fl,T.xs.map<|Db T.xs,ej⟩
abbrev hook(T:Snd.Tb):Hook where
 α:=View
 obs:=λs=>view T<|Zv s.heap
 val:=λ_=>due T
 says:=λ_ h=>∃g:Heap,view T (Zv g)=due T/\∀b o,g.get? b=eh o->h.get? b=eh o
 of:=λ_ s e=>⟨s.heap,e,λ_ _ x=>x⟩
 keeps:=λ_ _ _ ⟨g,e,k⟩ k2=>⟨g,e,λb o x=>k2 b o<|k b o x⟩
abbrev Bd(nm qual:Str)(x:Snd.Ds):Prop:=∀(kV doc pm:Value) (an:Option Addr) (ύ ct:Value) (us:List Value),us.length=x.ps.length->bindArgs (fnOf nm qual (YI x.st) (ZE x.st) (Zh x.st) .none kV doc pm an ύ ct) ⟨us,[]⟩=pure (x.ps.zip us)
abbrev F8(T:Snd.Tb):Bool:=T.cl.all λC=>T.ms.any λy=>y.C==C&&y.m == "__init__"
def law_walk{l:OpenLaw}{q:Program}{loose:List Str}{XP:(Str->Option Value)->Heap->Prop}{d:DefRec}{T:Snd.Tb}{pg:O.Pg}{k:Nat}{xl:Snd.Ds}
  (hn:l.most=eh 63) (hdf:d.params.defaults=[]) (hdn:d.name=gg "law") (hr:fj (2*(k+1)) callerA) (hlaw:("law",xl)∈T.fs) (hps:xl.ps=[gg "script"]) (hin:F8 T=ej)
  (tab_pg:∀f x,(f,x)∈T.fs->pg f=eh x.d) (tab_pm:∀y,y∈T.ms->pg (y.C ++ "." ++ y.m)=eh y.x.d) (tab_ok:∀f x,(f,x)∈T.fs->x.Ok T) (tab_om:∀y,y∈T.ms->y.x.Ok T)
  (tab_bd:∀f x,(f,x)∈T.fs->Bd (gg f) (gg f) x) (tab_bm:∀y,y∈T.ms->Bd (gg y.m) (gg y.qual) y.x)
  (ok:∀ns:List Int,ns.length<=63->O.wF pg (k+1) "law" [.scr ns] (λ_=>ei) (λv _=>v=.bl ej) λ_ _=>False) :
  WalkO q loose XP (hook T).says l.row.toRowW d [] (λf vs=>PySem.call f vs):=by
 refine Er (n:=63) (k:=2*(k+1)) (x:=gg "script") (CX:=λw=>CX1 l.prog w) hn (by decide) hdf hr (λw mg fa h Y G hmg=>?_) λ_ _ _ _ _ ⟨_,_,_,_,_,z⟩=>z;obtain⟨g,e,keep⟩:=Y;have X:(Zv g).In h:=λa o z=>keep a o<|OB z;simp only[view,due,View.mk.injEq]at e;obtain⟨e1,e3,e4,e5,e2⟩:=e;rw[bAq,ò,ò]at e2
 let i:Snd.Inf:=⟨Zv g,λC a=>T.cl.contains C=ej/\mg (gg C)=eh (.ref a),λC=>T.cl.contains C,λC a=>T.xs.contains C=ej/\mg (gg C)=eh (.ref a)⟩
 have hF:∀f x,(f,x)∈T.fs->∃fa fd,Fun (Zv g) (gg f) (gg f) x.st fa fd/\mg (gg f)=eh (.ref fa):=λf x hx=>by obtain⟨fa,fd,F,z⟩:=Lx<|Ĝ.mp e1 (f,x) hx;exact⟨fa,fd,F,mg_of X G z⟩
 have aH:∀C a,i.cl C a->makesIn (Zv g) a=ej/\keepIn (Zv g) (.ref a)=ej/\Cls (Zv g) a/\(∀f∈T.fl,NoAttr (Zv g) a<|gg f)/\Snd.IC (Zv g) a:=λC a ⟨hc,hm⟩=>by obtain⟨b,z,q⟩:=GL<|Ĝ.mp e4 C<|Ć.mp hc;have:=mg_of X G z;rw[hm]at this;cases this;exact q
 have hms:∀y,y∈T.ms->∃a f,Snd.Mst i mg y a f/\Cls i.K a:=λy hy=>by obtain⟨a,f,fd,z,F,M,A⟩:=LQ<|Ĝ.mp e3 y hy;exact⟨a,f,⟨mg_of X G z,⟨fd,F,F.binds<|tab_bm y hy⟩,M⟩,A⟩
 have hxc:∀C a,i.xc C a->excIn (Zv g) a [.type "ValueError",.type "Exception",.type "BaseException",.type "object"] "ValueError.__new__" = ej/\XCls (Zv g) a/\kitOne (Zv g) (.ref a) (.type "ValueError")=eh ej/\
   ∀T'∈"ShutError" :: T.xs,∃D,nsIn (Zv g) mainGlobals (gg T')=eh (eh<|.ref D)/\kitOne (Zv g) (.ref a) (.ref D)=eh (O.fP C T')/\exmOne (Zv g) (.ref a) (.ref D)=eh (O.fP C T'):=λC a ⟨hc,hm⟩=>by
  obtain⟨b,z,q⟩:=Ck<|Ĝ.mp e5 C<|Ć.mp hc;have:=mg_of X G z;rw[hm]at this;cases this;exact q
 have mod:∀base:Heap,(Zv g).In base->Snd.Modu mg base i T:=λbase Xb =>
  { bl:=λy hy=>by
      have:=e2.2 y hy
      unfold GF at this
      split at this
      . rename_i z;exact mg_none_of X G z
      . cases this
    cst:=λy v hv=>by
      have:=e2.1 _<|WY hv
      unfold Cy at this
      split at this
      . rename_i u z
        obtain⟨x,r,rv⟩:=A9 4 u v this
        exact⟨u,x,mg_of X G z,r,rv⟩
      . cases this
    A:=⟨λC a _ z=>(aH C a z).2.2.1,λC a z=>(aH C a z).2.2.2.2,λC a b z y=>by have:=z.2.symm.trans y.2;cases this;rfl⟩
    F:=λf hf=>⟨λC a z=>(aH C a z).2.2.2.1 f<|Ć.mp hf⟩
    cl:=λC a z=>z.2
    mkc:=λC hC=>by
      obtain⟨a,z,_⟩:=GL<|Ĝ.mp e4 C<|Ć.mp hC
      have hi:i.cl C a:=⟨hC,mg_of X G z⟩
      obtain⟨y,hy,e⟩:=ak.mp<|ò.mp hin C<|Ć.mp hC
      rw[bAq]at e
      obtain⟨b,f,S,A⟩:=hms y hy
      have h1:=eq_of_beq e.1
      have h2:=eq_of_beq e.2
      have hb:=S.cl
      rw[h1,hi.2]at hb
      cases hb
      refine⟨a,y,f,hC,hi,⟨(aH C a hi).1,?_,S.at_.fn,(aH C a hi).2.1⟩,hy,h1,h2,S⟩
      have:=S.at_.at_
      rw[h2]at this
      exact this
    fs:=λf x hx=>by
      obtain⟨fa,fd,F,m⟩:=hF f x hx
      exact⟨fa,fd,_,F,m,F.binds<|tab_bd f x hx⟩
    ms:=hms
    xc:=λ_ C a z=>⟨(hxc C a z).2.1,(hxc C a z).2.2.1⟩
    rs:=λ_ C hC=>by
      obtain⟨a,z,q1,_⟩:=Ck<|Ĝ.mp e5 C<|Ć.mp hC
      exact⟨a,⟨hC,mg_of X G z⟩,Lr Xb (mg_of X G z) q1⟩
    kn:=λŴ T' hT=>by
      have hT2:T'∈"ShutError" :: T.xs:=by
        rcases (Bool.or_eq_true ..).mp hT with z|z
        . exact .tail _<|Ć.mp z
        . cases eq_of_beq z;exact .head _
      obtain⟨C0,hC0⟩:=List.exists_mem_of_ne_nil _ Ŵ
      obtain⟨a0,z0,_,_,_,q0⟩:=Ck<|Ĝ.mp e5 C0 hC0
      obtain⟨D,zD,_⟩:=q0 T' hT2
      refine⟨D,mg_of X G zD,λC a z=>?_⟩
      obtain⟨D2,z2,k1,k2⟩:=(hxc C a z).2.2.2 T' hT2
      rw[zD]at z2
      cases z2
      exact⟨k1,λe=>by rw[k2,e]⟩ }
 obtain⟨fl,fd,F,m⟩:=hF "law" xl hlaw;have ef:=hmg.symm.trans<|hdn▸m;cases ef;refine⟨Zv g,Snd.spF i pg (k+1) "law",X,⟨fd,λs u=>?_,λbase Xb _=>?_⟩,λH a ns hl hO hS=>?_⟩
 .have B:=F.ex;obtain⟨oc,od,kV,dc,pm,an,ύ,ct,sl,rfl,lk,aG⟩:=B;have:=tab_bd "law" xl hlaw kV dc pm an ύ ct [u] (by rw[hps];rfl);rw[hps]at this;exact .of_eq this
 .have M:=mod base Xb;have:=Snd.fn_succ (i:=i) (pr:=l.prog) (wd:=w) (base:=base) (mg:=mg) (P:=pg) (n:=k) M (Snd.held_all M tab_pg tab_pm tab_ok tab_om k) F (tab_pg "law" xl hlaw)<|tab_ok "law" xl hlaw;rw[hps]at this;exact this
 .refine⟨[.scr ns],λ_=>ei,λv _=>v=.bl ej,λ_ _=>False,.cons (.scr ?_) .nil,λ_ _ e=>(by cases e),ok ns hl,?_,?_⟩
  .rcases hS with(h|⟨o,h⟩)|h
   .rcases hO a with z|⟨o,xs,z⟩
    .rw[h]at z;cases z
    .rw[h]at z;cases z
   .exact .inl ⟨o,h⟩
   .exact .inr h
  .intro v G' H' x _ _ r e;subst e;exact r.bl_inv
  .rintro cls d H' ⟨_,_,_,_,_,_,_,z⟩;exact z
end Hd
set_option maxRecDepth 20000
set_option maxHeartbeats 2000000
namespace O
local macro_rules|`(#[$x])=>`(.cons $x .nil)|`(#[$x,$y,*])=>`(.cons $x #[$y,*])
@[reducible] noncomputable def B0(P:Pg)(n:Nat)(d:Fn)(e:Env)(h:Hs)(Q:Q1)(X:XQ):Prop:=wSs (wF P n) d.body e h (λ_ g=>Q .non g) Q (λ_ _=>False) (λ_ _=>False) λ_ c g=>X c g
variable {P:Pg}{n:Nat}{a0 a1 a2 a3 a4 a5 a6 a7:Val}{h:Hs}{Q:Q1}{X:XQ}
local macro_rules|`(↑$n:num)=>`(.cst (.int $n))
local macro_rules|`(⇑$n:num)=>`(.var $n)
noncomputable abbrev SH:Fn:={ar:=1,sz:=1,body:=#[.ret<|.and (.bi (.isi ["int"]) #[⇑0])<|.not<|.bi (.isi ["bool"]) #[⇑0]]}
noncomputable abbrev SI:Fn:={ar:=3,sz:=3,body:=#[.ret<|.and (.call "is_whole" #[⇑0])<|.chain .le .le ⇑1 ⇑0 ⇑2]}
noncomputable abbrev Sm:Fn:={ar:=2,sz:=2,body:=#[.ite (.or (.not<|.val<|.bi (.isi ["list"]) #[⇑0])<|.not<|.val<|.bi (.isi ["list"]) #[⇑1]) #[.never] .nil,.ite (.not<|.val<|.chain .le .le ↑1 (.bi .len #[⇑0])<|.glob "MOST_BRIDGES"<|.int 10) #[.never] .nil,.ite (.val<|.cmp .gt (.bi .len #[⇑1])<|.glob "MOST_TIES"<|.int 16) #[.never] .nil,.ite (.not<|.val<|.call "are_bridges" #[⇑0]) #[.never] .nil,.ite (.not<|.val<|.bi .all #[.comp [0] 1 (.one 0) (.seq ⇑1) .yes<|.call "is_tie" #[⇑0,⇑1]]) #[.never] .nil,.ret<|.tup #[.bi .tuple #[.bi .sortedI #[⇑0]],.bi .tuple #[.comp [] 1 (.one 0) (.seq ⇑1) .yes<|.call "lesser_end_first" #[⇑0]]]]}
noncomputable abbrev SD:Fn:={ar:=1,sz:=1,body:=#[.ite (.not<|.val<|.bi .all #[.comp [] 1 (.one 0) (.seq ⇑0) .yes<|.call "is_whole_between" #[⇑0,↑0,.glob "GREATEST_NUMBER"<|.int 999]]) #[.ret<|.cst<|.bl ez] .nil,.ret<|.cmp .eq (.bi .lenSet #[⇑0])<|.bi .len #[⇑0]]}
noncomputable abbrev SG:Fn:={ar:=2,sz:=2,body:=#[.ite (.or (.not<|.val<|.bi (.isi ["tuple"]) #[⇑0])<|.val<|.cmp .ne (.bi .len #[⇑0]) ↑3) #[.ret<|.cst<|.bl ez] .nil,.ite (.or (.not<|.val<|.call "is_whole" #[.idx ⇑0 ↑0])<|.not<|.val<|.call "is_whole" #[.idx ⇑0 ↑1]) #[.ret<|.cst<|.bl ez] .nil,.ite (.or (.val<|.cmp .notin (.idx ⇑0 ↑0) ⇑1)<|.val<|.cmp .notin (.idx ⇑0 ↑1) ⇑1) #[.ret<|.cst<|.bl ez] .nil,.ret<|.and (.cmp .ne (.idx ⇑0 ↑0)<|.idx ⇑0 ↑1)<|.call "is_whole_between" #[.idx ⇑0 ↑2,↑1,.glob "GREATEST_COST"<|.int 1000]]}
noncomputable abbrev Sk:Fn:={ar:=1,sz:=1,body:=#[.ret<|.tup #[.bi .min2 #[.idx ⇑0 ↑0,.idx ⇑0 ↑1],.bi .max2 #[.idx ⇑0 ↑0,.idx ⇑0 ↑1],.idx ⇑0 ↑2]]}
noncomputable abbrev Sn:Fn:={ar:=2,sz:=5,body:=#[.set (.one 2)<|.lst .nil,.for (.many [3,4]) (.enum<|.idx ⇑0 ↑1) #[.ite (.val<|.cmp .isin ⇑1<|.slc ⇑4 .none<|.some ↑2) #[.expr<|.bm .append ⇑2 #[.tup #[⇑3,.call "far_end" #[⇑4,⇑1],.idx ⇑4 ↑2]]] .nil],.ret ⇑2]}
noncomputable abbrev SF:Fn:={ar:=2,sz:=2,body:=#[.ret<|.ife (.val<|.cmp .eq (.idx ⇑0 ↑0) ⇑1) (.idx ⇑0 ↑1)<|.idx ⇑0 ↑0]}
noncomputable abbrev Su:Fn:={ar:=1,sz:=5,body:=#[.set (.one 1)<|.lst .nil,.for (.many [2,3]) (.enum<|.idx (.meth "Yard" "net" ⇑0 .nil) ↑1) #[.set (.one 4)<|.meth "Yard" "ends" ⇑0 #[⇑2],.ite (.val<|.cmp .eq ⇑4<|.tup #[.cst<|.str "child",.cst<|.str "parent"]) #[.expr<|.bm .append ⇑1 #[.tup #[⇑2,.idx ⇑3 ↑0,.idx ⇑3 ↑1]]] #[.ite (.val<|.cmp .eq ⇑4<|.tup #[.cst<|.str "parent",.cst<|.str "child"]) #[.expr<|.bm .append ⇑1 #[.tup #[⇑2,.idx ⇑3 ↑1,.idx ⇑3 ↑0]]] .nil]],.ret ⇑1]}
noncomputable abbrev Sa:Fn:={ar:=1,sz:=1,body:=#[.ret<|.comp [] 2 (.many [0,1]) (.seq<|.meth "Yard" "labels" ⇑0 .nil) .yes<|.tup #[⇑0,.idx ⇑1 ↑0,.idx ⇑1 ↑1]]}
noncomputable abbrev So:Fn:={ar:=2,sz:=2,body:=#[.ret<|.cmp .gt (.idx ⇑0<|.glob "NUMBER"<|.int 0)<|.idx ⇑1<|.glob "NUMBER"<|.int 0]}
noncomputable abbrev SE:Fn:={ar:=2,sz:=3,body:=#[.set (.one 2)<|.comp [0] 1 (.one 0) (.seq ⇑1) (.val<|.cmp .lt (.idx ⇑0 ↑0) ⇑1) ⇑0,.ret<|.bi .minD #[⇑2]]}
noncomputable abbrev RM:Fn:={ar:=5,sz:=8,body:=#[.setFld ⇑0 "number" ⇑1,.setFld ⇑0 "life" ⇑2,.setFld ⇑0 "age_let_go" ⇑4,.setFld ⇑0 "ties_by_place"<|.dct .nil,.for (.many [5,6,7]) (.seq ⇑3) #[.setIdx (.fld ⇑0 "ties_by_place") ⇑5<|.tup #[⇑6,⇑7]],.setFld ⇑0 "held_by_place"<|.dct .nil,.setFld ⇑0 "label_now"<|.tup #[⇑1,↑0,.cst .non,.cst .non],.setFld ⇑0 "version" ↑0,.setFld ⇑0 "ticks_had" ↑0]}
noncomputable abbrev RP:Fn:={ar:=1,sz:=1,body:=#[.ret<|.fld ⇑0 "label_now"]}
noncomputable abbrev R0:Fn:={ar:=1,sz:=1,body:=#[.ret<|.tup #[.fld ⇑0 "life",.fld ⇑0 "version"]]}
noncomputable abbrev RW:Fn:={ar:=2,sz:=2,body:=#[.ret<|.bm .dget (.fld ⇑0 "held_by_place") #[⇑1]]}
noncomputable abbrev R4:Fn:={ar:=4,sz:=4,body:=#[.ite (.val<|.cmp .notin ⇑1<|.fld ⇑0 "ties_by_place") #[.setIdx (.fld ⇑0 "ties_by_place") ⇑1<|.tup #[⇑2,⇑3]] .nil]}
noncomputable abbrev RZ:Fn:={ar:=2,sz:=2,body:=#[.expr<|.bm .dpopD (.fld ⇑0 "ties_by_place") #[⇑1,.cst .non],.expr<|.bm .dpopD (.fld ⇑0 "held_by_place") #[⇑1,.cst .non]]}
noncomputable abbrev RX:Fn:={ar:=3,sz:=4,body:=#[.ite (.val<|.cmp .notin ⇑1<|.fld ⇑0 "ties_by_place") #[.retN] .nil,.set (.one 3)<|.meth "Bridge" "held" ⇑0 #[⇑1],.ite (.or (.val<|.cmp .is ⇑3<|.cst .non)<|.val<|.call "newer" #[⇑2,.idx ⇑3 ↑0]) #[.setIdx (.fld ⇑0 "held_by_place") ⇑1<|.tup #[⇑2,.idx ⇑2<|.glob "AGE"<|.int 4]] .nil]}
noncomputable abbrev R3:Fn:={ar:=1,sz:=2,body:=#[.expr<|.meth "Bridge" "let_grow_older" ⇑0 .nil,.expr<|.meth "Bridge" "take_label" ⇑0 #[.meth "Bridge" "reckon_label" ⇑0 .nil],.set (.one 1)<|.comp [0] 1 (.one 0) (.seq<|.bi .sortedI #[.fld ⇑0 "ties_by_place"]) .yes<|.tup #[⇑0,.meth "Bridge" "letter_over" ⇑1 #[⇑0]],.augFld ⇑0 "ticks_had" .add 1,.ret ⇑1]}
noncomputable abbrev RQ:Fn:={ar:=1,sz:=4,body:=#[.set (.one 1)<|.dct .nil,.forI ez (.many [2,3]) (.fld ⇑0 "held_by_place") #[.ite (.val<|.cmp .lt (.bin .add (.idx ⇑3 ↑1) ↑1)<|.fld ⇑0 "age_let_go") #[.setIdx ⇑1 ⇑2<|.tup #[.idx ⇑3 ↑0,.bin .add (.idx ⇑3 ↑1) ↑1]] .nil],.setFld ⇑0 "held_by_place" ⇑1]}
noncomputable abbrev RT:Fn:={ar:=1,sz:=8,body:=#[.set (.one 1)<|.lst .nil,.forI ez (.many [2,3]) (.fld ⇑0 "held_by_place") #[.set (.many [4,5])<|.idx (.fld ⇑0 "ties_by_place") ⇑2,.expr<|.bm .append ⇑1 #[.tup #[.idx (.idx ⇑3 ↑0)<|.glob "ROOT"<|.int 2,.bin .add (.idx (.idx ⇑3 ↑0)<|.glob "COST"<|.int 3) ⇑5,⇑4,⇑2]]],.set (.one 6)<|.call "best_offer" #[.fld ⇑0 "number",⇑1],.ite (.val<|.cmp .is ⇑6<|.cst .non) #[.ret<|.tup #[.fld ⇑0 "number",↑0,.cst .non,.cst .non]] .nil,.set (.many [7,5,4,2]) ⇑6,.ret<|.tup #[⇑7,⇑5,⇑2,.idx (.idx (.idx (.fld ⇑0 "held_by_place") ⇑2) ↑0)<|.glob "STAMP"<|.int 1]]}
noncomputable abbrev R1:Fn:={ar:=2,sz:=2,body:=#[.ite (.val<|.cmp .ne ⇑1<|.fld ⇑0 "label_now") #[.setFld ⇑0 "label_now" ⇑1,.augFld ⇑0 "version" .add 1] .nil]}
noncomputable abbrev RS:Fn:={ar:=2,sz:=8,body:=#[.set (.many [2,3,4,5])<|.fld ⇑0 "label_now",.set (.one 6)<|.ife (.val<|.cmp .is ⇑4<|.cst .non) ↑0<|.bin .add (.idx (.idx (.fld ⇑0 "held_by_place") ⇑4) ↑1) ↑1,.set (.one 7)<|.tup #[.tup #[.fld ⇑0 "life",.fld ⇑0 "ticks_had"],.meth "Bridge" "stamp" ⇑0 .nil,⇑2,⇑3,⇑6],.ite (.val<|.cmp .eq ⇑1 ⇑4) #[.ret<|.bin .add ⇑7<|.tup #[⇑5,.cst .non]] .nil,.ite (.val<|.meth "Bridge" "is_rested_on" ⇑0 #[⇑1]) #[.ret<|.bin .add ⇑7<|.tup #[.cst .non,.idx (.idx (.idx (.fld ⇑0 "held_by_place") ⇑1) ↑0)<|.glob "STAMP"<|.int 1]] .nil,.ret<|.bin .add ⇑7<|.tup #[.cst .non,.cst .non]]}
noncomputable abbrev RU:Fn:={ar:=2,sz:=3,body:=#[.set (.one 2)<|.meth "Bridge" "held" ⇑0 #[⇑1],.ret<|.and (.cmp .isnot ⇑2<|.cst .non)<|.cmp .eq (.idx (.idx ⇑2 ↑0)<|.glob "RESTS"<|.int 5)<|.meth "Bridge" "stamp" ⇑0 .nil]}
noncomputable abbrev RN:Fn:={ar:=2,sz:=3,body:=#[.set (.one 2)<|.meth "Bridge" "held" ⇑0 #[⇑1],.ite (.or (.val<|.cmp .is ⇑2<|.cst .non)<|.val<|.cmp .ne (.idx (.idx ⇑2 ↑0)<|.glob "AGREES"<|.int 6)<|.meth "Bridge" "stamp" ⇑0 .nil) #[.ret<|.cst<|.bl ez] .nil,.ret<|.cmp .eq (.idx (.idx ⇑2 ↑0)<|.glob "STAMP"<|.int 1)<|.idx (.fld ⇑0 "label_now") ↑3]}
noncomputable abbrev RY:Fn:={ar:=2,sz:=2,body:=#[.ite (.val<|.cmp .notin ⇑1<|.fld ⇑0 "ties_by_place") #[.ret<|.cst<|.str "down"] .nil,.ite (.val<|.cmp .eq ⇑1<|.idx (.fld ⇑0 "label_now") ↑2) #[.ret<|.ife (.val<|.meth "Bridge" "is_agreed_to" ⇑0 #[⇑1]) (.cst<|.str "child")<|.cst<|.str "shut"] .nil,.ret<|.ife (.val<|.meth "Bridge" "is_rested_on" ⇑0 #[⇑1]) (.cst<|.str "parent")<|.cst<|.str "shut"]}
noncomputable abbrev SK:Fn:={ar:=3,sz:=4,body:=#[.setFld ⇑0 "net_made_of" ⇑1,.setFld ⇑0 "greatest_age" ⇑2,.setFld ⇑0 "lives"<|.dct .nil,.setFld ⇑0 "standing"<|.dct .nil,.setFld ⇑0 "ties_fallen"<|.dct .nil,.setFld ⇑0 "letters_on_road"<|.lst .nil,.for (.one 3) (.seq<|.idx ⇑1 ↑0) #[.setIdx (.fld ⇑0 "lives") ⇑3 ↑0,.setIdx (.fld ⇑0 "standing") ⇑3<|.make "Bridge" #[⇑3,↑0,.call "neighbours" #[⇑1,⇑3],⇑2]]]}
noncomputable abbrev SN:Fn:={ar:=1,sz:=1,body:=#[.ret<|.fld ⇑0 "net_made_of"]}
noncomputable abbrev SO:Fn:={ar:=1,sz:=1,body:=#[.ret<|.bi .list #[.fld ⇑0 "letters_on_road"]]}
noncomputable abbrev R9:Fn:={ar:=1,sz:=2,body:=#[.set (.one 1)<|.comp [0] 1 (.one 0) (.seq<|.idx (.fld ⇑0 "net_made_of") ↑0) (.val<|.cmp .notin ⇑0<|.fld ⇑1 "standing") ⇑0,.ret<|.tup #[.bi .tuple #[⇑1],.bi .tuple #[.bi .sortedI #[.fld ⇑0 "ties_fallen"]]]]}
noncomputable abbrev SM:Fn:={ar:=1,sz:=1,body:=#[.ret<|.comp [0] 1 (.one 0) (.seq<|.bi .sortedI #[.fld ⇑0 "standing"]) .yes<|.tup #[⇑0,.meth "Bridge" "label" (.idx (.fld ⇑1 "standing") ⇑0) .nil]]}
noncomputable abbrev SY:Fn:={ar:=2,sz:=5,body:=#[.ite (.not<|.val<|.meth "Yard" "has_tie" ⇑0 #[⇑1]) #[.ret<|.tup #[.cst<|.str "down",.cst<|.str "down"]] .nil,.set (.many [2,3,4])<|.idx (.idx (.fld ⇑0 "net_made_of") ↑1) ⇑1,.ret<|.tup #[.meth "Yard" "end_at" ⇑0 #[⇑2,⇑1],.meth "Yard" "end_at" ⇑0 #[⇑3,⇑1]]]}
noncomputable abbrev SZ:Fn:={ar:=3,sz:=3,body:=#[.ite (.val<|.cmp .notin ⇑1<|.fld ⇑0 "standing") #[.ret<|.cst<|.str "down"] .nil,.ret<|.meth "Bridge" "end" (.idx (.fld ⇑0 "standing") ⇑1) #[⇑2]]}
noncomputable abbrev SJ:Fn:={ar:=2,sz:=2,body:=#[.ret<|.chain .le .lt ↑0 ⇑1<|.bi .len #[.idx (.fld ⇑0 "net_made_of") ↑1]]}
noncomputable abbrev R8:Fn:={ar:=2,sz:=4,body:=#[.set (.many [2,3])<|.call "read_deed" #[⇑1],.ite (.val<|.cmp .eq ⇑2<|.tup #[.cst<|.str "tick"]) #[.expr<|.meth "Yard" "tick_of" ⇑0 #[⇑3]] #[.ite (.val<|.cmp .eq ⇑2<|.tup #[.cst<|.str "come"]) #[.expr<|.meth "Yard" "come" ⇑0 #[⇑3]] #[.ite (.val<|.cmp .eq ⇑2<|.tup #[.cst<|.str "lost"]) #[.expr<|.meth "Yard" "take_off" ⇑0 #[⇑3]] #[.ite (.val<|.cmp .eq ⇑2<|.tup #[.cst<|.str "fall",.cst<|.str "bridge"]) #[.expr<|.meth "Yard" "fall_of_bridge" ⇑0 #[⇑3]] #[.ite (.val<|.cmp .eq ⇑2<|.tup #[.cst<|.str "fall",.cst<|.str "tie"]) #[.expr<|.meth "Yard" "fall_of_tie" ⇑0 #[⇑3]] #[.ite (.val<|.cmp .eq ⇑2<|.tup #[.cst<|.str "back",.cst<|.str "bridge"]) #[.expr<|.meth "Yard" "back_of_bridge" ⇑0 #[⇑3]] #[.expr<|.meth "Yard" "back_of_tie" ⇑0 #[⇑3]]]]]]]]}
noncomputable abbrev SC:Fn:={ar:=2,sz:=5,body:=#[.ite (.val<|.cmp .notin ⇑1<|.fld ⇑0 "standing") #[.never] .nil,.for (.many [2,3]) (.seq<|.meth "Bridge" "tick" (.idx (.fld ⇑0 "standing") ⇑1) .nil) #[.set (.one 4)<|.call "far_end" #[.idx (.idx (.fld ⇑0 "net_made_of") ↑1) ⇑2,⇑1],.expr<|.bm .append (.fld ⇑0 "letters_on_road") #[.tup #[⇑1,⇑4,⇑2,⇑3]]]]}
noncomputable abbrev R7:Fn:={ar:=2,sz:=6,body:=#[.set (.many [2,3,4,5])<|.meth "Yard" "take_off" ⇑0 #[⇑1],.ite (.val<|.cmp .isin ⇑3<|.fld ⇑0 "standing") #[.expr<|.meth "Bridge" "hear" (.idx (.fld ⇑0 "standing") ⇑3) #[⇑4,⇑5]] .nil]}
noncomputable abbrev SB:Fn:={ar:=2,sz:=2,body:=#[.ite (.not<|.val<|.chain .le .lt ↑0 ⇑1<|.bi .len #[.fld ⇑0 "letters_on_road"]) #[.never] .nil,.ret<|.bm .popAt (.fld ⇑0 "letters_on_road") #[⇑1]]}
noncomputable abbrev SX:Fn:={ar:=2,sz:=2,body:=#[.ite (.val<|.cmp .notin ⇑1<|.fld ⇑0 "standing") #[.never] .nil,.expr<|.bm .dpop (.fld ⇑0 "standing") #[⇑1],.expr<|.meth "Yard" "set_ties_of" ⇑0 #[⇑1]]}
noncomputable abbrev SW:Fn:={ar:=2,sz:=2,body:=#[.ite (.or (.not<|.val<|.meth "Yard" "has_tie" ⇑0 #[⇑1])<|.val<|.cmp .isin ⇑1<|.fld ⇑0 "ties_fallen") #[.never] .nil,.setIdx (.fld ⇑0 "ties_fallen") ⇑1<|.cst<|.bl ej,.expr<|.meth "Yard" "set_tie" ⇑0 #[⇑1]]}
noncomputable abbrev R5:Fn:={ar:=2,sz:=2,body:=#[.ite (.or (.val<|.cmp .notin ⇑1<|.fld ⇑0 "lives")<|.val<|.cmp .isin ⇑1<|.fld ⇑0 "standing") #[.never] .nil,.augIdx (.fld ⇑0 "lives") ⇑1 .add 1,.setIdx (.fld ⇑0 "standing") ⇑1<|.make "Bridge" #[⇑1,.idx (.fld ⇑0 "lives") ⇑1,.lst .nil,.fld ⇑0 "greatest_age"],.expr<|.meth "Yard" "set_ties_of" ⇑0 #[⇑1]]}
noncomputable abbrev R6:Fn:={ar:=2,sz:=2,body:=#[.ite (.val<|.cmp .notin ⇑1<|.fld ⇑0 "ties_fallen") #[.never] .nil,.expr<|.bm .dpop (.fld ⇑0 "ties_fallen") #[⇑1],.expr<|.meth "Yard" "set_tie" ⇑0 #[⇑1]]}
noncomputable abbrev SA:Fn:={ar:=2,sz:=5,body:=#[.for (.many [2,3,4]) (.seq<|.call "neighbours" #[.fld ⇑0 "net_made_of",⇑1]) #[.expr<|.meth "Yard" "set_tie" ⇑0 #[⇑2]]]}
noncomputable abbrev SU:Fn:={ar:=2,sz:=8,body:=#[.set (.many [2,3,4])<|.idx (.idx (.fld ⇑0 "net_made_of") ↑1) ⇑1,.set (.one 5)<|.and (.cmp .notin ⇑1<|.fld ⇑0 "ties_fallen")<|.and (.cmp .isin ⇑2<|.fld ⇑0 "standing")<|.cmp .isin ⇑3<|.fld ⇑0 "standing",.for (.many [6,7]) (.seq<|.tup #[.tup #[⇑2,⇑3],.tup #[⇑3,⇑2]]) #[.ite (.val ⇑5) #[.expr<|.meth "Bridge" "up" (.idx (.fld ⇑0 "standing") ⇑6) #[⇑1,⇑7,⇑4]] #[.ite (.val<|.cmp .isin ⇑6<|.fld ⇑0 "standing") #[.expr<|.meth "Bridge" "down" (.idx (.fld ⇑0 "standing") ⇑6) #[⇑1]] .nil]]]}
noncomputable abbrev Sb:Fn:={ar:=1,sz:=2,body:=#[.ite (.not<|.val<|.bi (.isi ["tuple"]) #[⇑0]) #[.never] .nil,.set (.one 1)<|.slc ⇑0 .none<|.some<|.neg ↑1,.ite (.or (.not<|.val<|.bi .all #[.comp [] 1 (.one 0) (.seq ⇑1) .yes<|.bi (.isi ["str"]) #[⇑0]])<|.val<|.cmp .notin ⇑1<|.glob "DEEDS"<|.tup [(.tup [(.str "tick")]),(.tup [(.str "come")]),(.tup [(.str "lost")]),(.tup [(.str "fall"),(.str "bridge")]),(.tup [(.str "fall"),(.str "tie")]),(.tup [(.str "back"),(.str "bridge")]),(.tup [(.str "back"),(.str "tie")])]) #[.never] .nil,.ite (.not<|.val<|.call "is_whole" #[.idx ⇑0<|.neg ↑1]) #[.never] .nil,.ret<|.tup #[⇑1,.idx ⇑0<|.neg ↑1]]}
noncomputable abbrev SQ:Fn:={ar:=2,sz:=2,body:=#[.ite (.val<|.cmp .lt ⇑1<|.bi .len #[⇑0]) #[.ret<|.idx ⇑0 ⇑1] .nil,.ret ↑0]}
noncomputable abbrev Sz:Fn:={ar:=1,sz:=1,body:=#[.ret<|.lst #[⇑0,.bin .mod ⇑0 ↑2147483587]]}
noncomputable abbrev Sy:Fn:={ar:=2,sz:=3,body:=#[.ite (.val<|.cmp .gt (.idx ⇑0 ↑0)<|.bin .pow ↑10 ↑18) #[.set (.one 2)<|.bin .mod (.idx ⇑0 ↑0) ⇑1,.setIdx ⇑0 ↑0<|.bin .fdiv (.idx ⇑0 ↑0) ⇑1,.ret ⇑2] .nil,.setIdx ⇑0 ↑1<|.bin .mod (.bin .add (.bin .add (.bin .mul (.idx ⇑0 ↑1)<|.idx ⇑0 ↑1)<|.bin .mul ↑69621<|.idx ⇑0 ↑1) ↑12345) ↑2147483587,.ret<|.bin .mod (.bin .fdiv (.idx ⇑0 ↑1) ↑8) ⇑1]}
noncomputable abbrev ST:Fn:={ar:=1,sz:=9,body:=#[.set (.one 1)<|.bin .add ↑1<|.call "_law_take" #[⇑0,↑6],.set (.one 2)<|.idx (.lst #[↑1,↑3,↑10,↑100])<|.call "_law_take" #[⇑0,↑4],.set (.one 4)<|.comp [0,2] 1 (.one 0) (.range ⇑1) .yes<|.bin .add (.bin .mul ⇑2<|.bin .add ⇑0<|.call "_law_take" #[⇑1,↑2])<|.idx (.lst #[↑0,↑7])<|.bin .fdiv ⇑2 ↑100,.set (.one 4)<|.bi .sortedSet #[⇑4],.set (.one 5)<|.lst .nil,.for (.one 3) (.range<|.call "_law_take" #[⇑0,↑10]) #[.set (.one 6)<|.idx ⇑4<|.call "_law_take" #[⇑0,.bi .len #[⇑4]],.set (.one 7)<|.idx ⇑4<|.call "_law_take" #[⇑0,.bi .len #[⇑4]],.set (.one 8)<|.idx (.lst #[↑1,↑1,↑2,.bin .add ↑1<|.call "_law_take" #[⇑0,↑4],.bin .add ↑1<|.call "_law_take" #[⇑0,↑1000]])<|.call "_law_take" #[⇑0,↑5],.ite (.val<|.cmp .ne ⇑6 ⇑7) #[.expr<|.bm .append ⇑5 #[.tup #[⇑6,⇑7,⇑8]]] .nil],.for (.one 3) (.range2 ↑1<|.bi .len #[⇑4]) #[.ite (.val<|.cmp .gt (.call "_law_take" #[⇑0,↑4]) ↑0) #[.expr<|.bm .append ⇑5 #[.tup #[.idx ⇑4<|.call "_law_take" #[⇑0,⇑3],.idx ⇑4 ⇑3,.bin .add ↑1<|.call "_law_take" #[⇑0,↑3]]]] .nil],.ret<|.call "make_net" #[⇑4,⇑5]]}
noncomputable abbrev Sw:Fn:={ar:=2,sz:=2,body:=#[.ret<|.comp [1] 1 (.one 0) (.seq<|.idx ⇑0 ↑0) (.val<|.cmp .notin ⇑0<|.idx ⇑1 ↑0) ⇑0]}
noncomputable abbrev Sx:Fn:={ar:=3,sz:=5,body:=#[.set (.one 3)<|.call "_law_take" #[⇑0,.bi .max2 #[↑1,.bi .len #[.idx ⇑1 ↑1]]],.set (.one 4)<|.idx (.idx ⇑1 ↑0)<|.call "_law_take" #[⇑0,.bi .len #[.idx ⇑1 ↑0]],.ite (.and (.val<|.cmp .eq (.call "_law_take" #[⇑0,↑2]) ↑0)<|.val<|.cmp .ne (.idx ⇑1 ↑1)<|.tup .nil) #[.ret<|.tup #[.idx (.lst #[.cst<|.str "fall",.cst<|.str "back"])<|.bi .int #[.cmp .isin ⇑3<|.idx ⇑2 ↑1],.cst<|.str "tie",⇑3]] .nil,.ret<|.tup #[.idx (.lst #[.cst<|.str "fall",.cst<|.str "back"])<|.bi .int #[.cmp .isin ⇑4<|.idx ⇑2 ↑0],.cst<|.str "bridge",⇑4]]}
noncomputable abbrev SS:Fn:={ar:=3,sz:=8,body:=#[.set (.one 3)<|.bi .len #[.meth "Yard" "road" ⇑1 .nil],.set (.one 4)<|.meth "Yard" "down" ⇑1 .nil,.set (.one 5)<|.call "_law_ups" #[⇑2,⇑4],.set (.one 6)<|.call "_law_take" #[⇑0,↑14],.ite (.or (.val<|.cmp .eq ⇑6 ↑13)<|.val<|.cmp .eqE ⇑5<|.lst .nil) #[.ret<|.call "_law_turned" #[⇑0,⇑2,⇑4]] .nil,.ite (.or (.val<|.cmp .lt ⇑6 ↑5)<|.val<|.cmp .eq ⇑3 ↑0) #[.ret<|.tup #[.cst<|.str "tick",.idx ⇑5<|.call "_law_take" #[⇑0,.bi .len #[⇑5]]]] .nil,.set (.one 7)<|.idx (.lst #[↑0,↑0,.bin .sub ⇑3 ↑1,.call "_law_take" #[⇑0,⇑3]])<|.call "_law_take" #[⇑0,↑4],.ret<|.idx (.lst #[.tup #[.cst<|.str "come",⇑7],.tup #[.cst<|.str "lost",⇑7]])<|.bi .int #[.cmp .eq ⇑6 ↑12]]}
noncomputable abbrev SR:Fn:={ar:=3,sz:=5,body:=#[.set (.one 3)<|.call "_law_row" #[⇑0],.for (.one 4) (.range<|.bin .add ↑1<|.call "_law_take" #[⇑3,↑6]) #[.expr<|.meth "Yard" "deed" ⇑1 #[.call "_law_drawn" #[⇑3,⇑1,⇑2]]]]}
noncomputable abbrev Sj:Fn:={ar:=2,sz:=6,body:=#[.set (.one 2)<|.lst .nil,.for (.many [3,4]) (.enum<|.idx ⇑1 ↑1) #[.set (.one 5)<|.meth "Yard" "ends" ⇑0 #[⇑3],.ite (.and (.val<|.cmp .eq (.idx ⇑5 ↑0)<|.cst<|.str "child")<|.val<|.cmp .eq (.idx ⇑5 ↑1)<|.cst<|.str "parent") #[.expr<|.bm .append ⇑2 #[.tup #[⇑3,.idx ⇑4 ↑0,.idx ⇑4 ↑1]]] .nil,.ite (.and (.val<|.cmp .eq (.idx ⇑5 ↑0)<|.cst<|.str "parent")<|.val<|.cmp .eq (.idx ⇑5 ↑1)<|.cst<|.str "child") #[.expr<|.bm .append ⇑2 #[.tup #[⇑3,.idx ⇑4 ↑1,.idx ⇑4 ↑0]]] .nil],.ret ⇑2]}
noncomputable abbrev SV:Fn:={ar:=2,sz:=5,body:=#[.set (.one 2)<|.call "open_ways" #[⇑0],.set (.one 3)<|.call "rank_paper" #[⇑0],.ite (.or (.not<|.val<|.bi (.isi ["list"]) #[⇑2])<|.val<|.cmp .ne ⇑2<|.call "_law_ways" #[⇑0,⇑1]) #[.ret<|.cst<|.bl ez] .nil,.set (.one 4)<|.comp [] 2 (.many [0,1]) (.seq<|.meth "Yard" "labels" ⇑0 .nil) .yes<|.tup #[⇑0,.idx ⇑1 ↑0,.idx ⇑1 ↑1],.ite (.or (.val<|.cmp .ne ⇑3 ⇑4)<|.val<|.cmp .ne (.comp [] 1 (.one 0) (.seq ⇑4) .yes<|.idx ⇑0 ↑0)<|.call "_law_ups" #[⇑1,.meth "Yard" "down" ⇑0 .nil]) #[.ret<|.cst<|.bl ez] .nil,.expr<|.bm .append ⇑2 #[.tup #[↑0,↑0,↑0]],.expr<|.bm .append ⇑3 #[.tup #[↑0,↑0,↑0]],.ret<|.and (.cmp .eq (.call "open_ways" #[⇑0])<|.slc ⇑2 .none<|.some<|.neg ↑1)<|.cmp .eq (.call "rank_paper" #[⇑0])<|.slc ⇑3 .none<|.some<|.neg ↑1]}
noncomputable abbrev SL:Fn:={ar:=1,sz:=5,body:=#[.set (.one 1)<|.call "_law_row" #[.call "_law_cell_at" #[⇑0,↑0]],.set (.one 2)<|.call "_law_net" #[⇑1],.set (.one 3)<|.make "Yard" #[⇑2,.bin .add ↑4<|.call "_law_take" #[⇑1,↑37]],.for (.one 4) (.seq<|.slc ⇑0 (.some ↑1)<|.some ↑63) #[.expr<|.call "_law_deeds" #[⇑4,⇑3,⇑2],.ite (.not<|.val<|.call "_law_right" #[⇑3,⇑2]) #[.ret<|.cst<|.bl ez] .nil],.ret<|.call "_law_right" #[⇑3,⇑2]]}
class Al(P:Pg):Prop where
 c0:P "is_whole" = eh SH
 c1:P "is_whole_between" = eh SI
 c2:P "make_net" = eh Sm
 c3:P "are_bridges" = eh SD
 c4:P "is_tie" = eh SG
 c5:P "lesser_end_first" = eh Sk
 c6:P "neighbours" = eh Sn
 c7:P "far_end" = eh SF
 c8:P "open_ways" = eh Su
 c9:P "rank_paper" = eh Sa
 c10:P "newer" = eh So
 c11:P "best_offer" = eh SE
 c12:P "Bridge.__init__" = eh RM
 c13:P "Bridge.label" = eh RP
 c14:P "Bridge.stamp" = eh R0
 c15:P "Bridge.held" = eh RW
 c16:P "Bridge.up" = eh R4
 c17:P "Bridge.down" = eh RZ
 c18:P "Bridge.hear" = eh RX
 c19:P "Bridge.tick" = eh R3
 c20:P "Bridge.let_grow_older" = eh RQ
 c21:P "Bridge.reckon_label" = eh RT
 c22:P "Bridge.take_label" = eh R1
 c23:P "Bridge.letter_over" = eh RS
 c24:P "Bridge.is_rested_on" = eh RU
 c25:P "Bridge.is_agreed_to" = eh RN
 c26:P "Bridge.end" = eh RY
 c27:P "Yard.__init__" = eh SK
 c28:P "Yard.net" = eh SN
 c29:P "Yard.road" = eh SO
 c30:P "Yard.down" = eh R9
 c31:P "Yard.labels" = eh SM
 c32:P "Yard.ends" = eh SY
 c33:P "Yard.end_at" = eh SZ
 c34:P "Yard.has_tie" = eh SJ
 c35:P "Yard.deed" = eh R8
 c36:P "Yard.tick_of" = eh SC
 c37:P "Yard.come" = eh R7
 c38:P "Yard.take_off" = eh SB
 c39:P "Yard.fall_of_bridge" = eh SX
 c40:P "Yard.fall_of_tie" = eh SW
 c41:P "Yard.back_of_bridge" = eh R5
 c42:P "Yard.back_of_tie" = eh R6
 c43:P "Yard.set_ties_of" = eh SA
 c44:P "Yard.set_tie" = eh SU
 c45:P "read_deed" = eh Sb
 c46:P "_law_cell_at" = eh SQ
 c47:P "_law_row" = eh Sz
 c48:P "_law_take" = eh Sy
 c49:P "_law_net" = eh ST
 c50:P "_law_ups" = eh Sw
 c51:P "_law_turned" = eh Sx
 c52:P "_law_drawn" = eh SS
 c53:P "_law_deeds" = eh SR
 c54:P "_law_ways" = eh Sj
 c55:P "_law_right" = eh SV
 c56:P "law" = eh SL
set_option hygiene false in
local macro_rules|`(#check $r:ident $c:ident $d:ident $s:str $a:num $z:num)=>do
 let v:=(Array.range a.getNat).map λi=>Lean.mkIdent (.mkSimple s!"a{i}")
 let e<-(Array.range z.getNat).mapM λi=>if i<a.getNat then `(eh $(v[i]!))else`(ei)
 `(theorem $r [Al P](q:B0 P n $d [$e,*] h Q X):wF P (n+1) $s [$v,*] h Q X:=Zb $c rfl q)
#check Xx Al.c0 SH "is_whole" 1 1
#check Xr Al.c1 SI "is_whole_between" 3 3
#check Ot Al.c2 Sm "make_net" 2 2
#check JV Al.c3 SD "are_bridges" 1 1
#check Do Al.c4 SG "is_tie" 2 2
#check Xz Al.c5 Sk "lesser_end_first" 1 1
#check Mz Al.c6 Sn "neighbours" 2 5
#check UQ Al.c7 SF "far_end" 2 2
#check MM Al.c8 Su "open_ways" 1 5
#check Mw Al.c9 Sa "rank_paper" 1 1
#check DQ Al.c10 So "newer" 2 2
#check K4 Al.c11 SE "best_offer" 2 3
#check JZ Al.c12 RM "Bridge.__init__" 5 8
#check JG Al.c13 RP "Bridge.label" 1 1
#check JM Al.c14 R0 "Bridge.stamp" 1 1
#check JT Al.c15 RW "Bridge.held" 2 2
#check No Al.c16 R4 "Bridge.up" 4 4
#check J8 Al.c17 RZ "Bridge.down" 2 2
#check JY Al.c18 RX "Bridge.hear" 3 4
#check JX Al.c19 R3 "Bridge.tick" 1 2
#check Yq Al.c20 RQ "Bridge.let_grow_older" 1 4
#check YM Al.c21 RT "Bridge.reckon_label" 1 8
#check Xm Al.c22 R1 "Bridge.take_label" 2 2
#check Y6 Al.c23 RS "Bridge.letter_over" 2 8
#check YS Al.c24 RU "Bridge.is_rested_on" 2 3
#check YQ Al.c25 RN "Bridge.is_agreed_to" 2 3
#check Mr Al.c26 RY "Bridge.end" 2 2
#check Nh Al.c27 SK "Yard.__init__" 3 4
#check On Al.c28 SN "Yard.net" 1 1
#check M0 Al.c29 SO "Yard.road" 1 1
#check MS Al.c30 R9 "Yard.down" 1 2
#check J5 Al.c31 SM "Yard.labels" 1 1
#check Nx Al.c32 SY "Yard.ends" 2 5
#check J4 Al.c33 SZ "Yard.end_at" 3 3
#check Xd Al.c34 SJ "Yard.has_tie" 2 2
#check Na Al.c35 R8 "Yard.deed" 2 4
#check JD Al.c36 SC "Yard.tick_of" 2 5
#check Wt Al.c37 R7 "Yard.come" 2 6
#check Wy Al.c38 SB "Yard.take_off" 2 2
#check YO Al.c39 SX "Yard.fall_of_bridge" 2 2
#check XB Al.c40 SW "Yard.fall_of_tie" 2 2
#check YR Al.c41 R5 "Yard.back_of_bridge" 2 2
#check XA Al.c42 R6 "Yard.back_of_tie" 2 2
#check Xu Al.c43 SA "Yard.set_ties_of" 2 5
#check Jx Al.c44 SU "Yard.set_tie" 2 8
#check MR Al.c45 Sb "read_deed" 1 2
#check JW Al.c46 SQ "_law_cell_at" 2 2
#check Aq Al.c47 Sz "_law_row" 1 1
#check Oy Al.c48 Sy "_law_take" 2 3
#check UY Al.c49 ST "_law_net" 1 9
#check U1 Al.c50 Sw "_law_ups" 2 2
#check KU Al.c51 Sx "_law_turned" 3 5
#check MB Al.c52 SS "_law_drawn" 3 8
#check Nr Al.c53 SR "_law_deeds" 3 5
#check Oh Al.c54 Sj "_law_ways" 2 6
#check MZ Al.c55 SV "_law_right" 2 5
#check Qb Al.c56 SL "law" 1 5
local macro_rules|`(#[$x])=>`(.cons $x .nil)|`(#[$x,$y,*])=>`(.cons $x #[$y,*])
local macro_rules | `(tactic| walk_at "ne")=>`(tactic| first | assumption | (apply Ne.symm; assumption) | ((with_reducible apply ne_none'); (· assumption); (· walk_at "look")) | (apply Ne.symm; (with_reducible apply ne_none'); (· assumption); (· walk_at "look")))
local macro_rules | `(tactic| walk_at "look")=>`(tactic| first | assumption | with_reducible exact eC | ((with_reducible apply upd_ne'); (· walk_at "ne"); (· walk_at "look")) | ((with_reducible apply Ext.get); (· assumption); (· walk_at "look")) | ((with_reducible apply ExtB.get); (· assumption); (· walk_at "ne"); (· walk_at "look")))
local macro_rules | `(tactic| walk_at "ar")=>`(tactic| first | decide | lia | assumption | (simp only [Ë,Ĳ]; decide))
local macro_rules | `(tactic| walk_at "mul")=>`(tactic| first | exact .inl (.inr<|by lia) | exact .inl (.inl<|by lia) | exact .inr ⟨by decide,by decide⟩)
local macro_rules | `(tactic| walk_at "setl")=>`(tactic| first | (simp only [ŋ,ν,Δ,Ŀ,List.foldl_nil,Ϭ,ϭ]; done) | (simp only [ŋ,ν,Δ,Ŀ,List.foldl_nil,Ϭ,ϭ]; exact rfl) | exact rfl)
local macro_rules | `(tactic| walk_at "w")=>`(tactic| with_reducible conv=>whnf)
local macro_rules | `(tactic| walk_at "py1")=>do
 let a<-[`dw0,`b_add,`b_sub,`g_int,`g_bl,`g_ref,`g_tbl,`c_lt,`c_gt,`c_le,`c_eqI,`c_neI,`c_eqS,`c_isN,`c_notN,`ag_add,`ln_scr,`ln_tup,`in_bl,`mn2,`mx2,`sl_scr,`it_tup].toArray.mapM λn=>`(tactic| refine $(Lean.mkIdent n) ?_)
 let c<-[`ln_lst,`tp_lst,`ls_lst,`sl_lst,`it_lst,`dc_of].toArray.mapM λn=>`(tactic| ((with_reducible apply $(Lean.mkIdent n)); (· walk_at "look")))
 `(tactic| first
 |(with_reducible first $[| $a:tactic]*)
 |((with_reducible apply L4);(· exact rfl))
 |((with_reducible apply Hb);(· walk_at "setl"))|((with_reducible apply GZ);(· (simp only[bindL,Ϭ,ϭ];exact rfl)))|((with_reducible apply b_mul);(· walk_at "mul"))|((with_reducible apply b_fdiv);(· walk_at "ar"))|((with_reducible apply b_mod);(· walk_at "ar"))|((with_reducible apply Iw);(· walk_at "ar");(· simp only[Int.reduceToNat,Int.reducePow];exact rfl))|((with_reducible apply LG);(· walk_at "ar"))
 |((with_reducible apply eM);(· exact rfl))|((with_reducible apply Ye);(· walk_at "look");(· exact rfl))
 |((with_reducible apply II);(· walk_at "look");(· exact rfl))|((with_reducible apply Yg);(· walk_at "look");(· walk_at "ar"))|((with_reducible apply HM);(· walk_at "look");(· exact rfl))|((with_reducible apply Ln);(· walk_at "look");(· exact rfl))
 |((with_reducible apply Py);(· exact rfl))|((with_reducible apply fG);(· decide))
 | ((with_reducible apply GT);(· first | exact .inl rfl | exact .inr (.inl rfl) | simp);(· walk_at "look")) | ((with_reducible apply IW);(· first | exact rfl | simp);(· walk_at "look")) | ((with_reducible apply Zw);(· walk_at "look");(· walk_at "ar")) | (first $[| $c:tactic]*))
local macro_rules | `(tactic| fail)=>`(tactic| ((repeat walk_at "py1"); walk_at "w"))
local macro_rules | `(tactic| walk_at "p")=>`(tactic| ((repeat first | walk_at "py1" | refine fH rfl ?_ | refine fI rfl ?_); walk_at "w"))
local macro_rules | `(tactic| exists $e)=>`(tactic| (fail; refine $e ?_))
local macro_rules | `(tactic| refine' $e)=>`(tactic| (fail; refine $e))
section
variable {α:Type}(val:α->Val)
abbrev Zj(kvs:List<|Int×α):List<|Val×Val:=kvs.map λp=>(.int p.1,val p.2)
abbrev Zu(kvs:List<|Int×α)(k:Int)(v:α):List<|Int×α:=if(kvs.lookup k).isSome then kvs.map (λp=>if p.1=k then(k,v)else p)else kvs++[(k,v)]
abbrev Zt(kvs:List<|Int×α)(k:Int):List<|Int×α:=kvs.filter λp=>gf (p.1≠k)
variable {val}
def WH(a b:Int):(Val.int a==Val.int b)=gf (a=b):=by
 by_cases e:a=b
 .subst e;simp
 .rw[f8 e];exact beq_eq_false_iff_ne.mpr λz=>e (by injection z)
def Z1(kvs:List<|Int×α)(k:Int):fe (Zj val kvs) (.int k)=(kvs.lookup k).map val:=by
 induction kvs with
 |nil=>rfl
 |cons p r ih =>
  unfold fe Zj at ih ⊢;rw[Ï,Ė,ï,WH];by_cases e:p.1=k
  .have:(k==p.1)=ej:=by simp[e]
   simp[e]
  .have h2:(k==p.1)=ez:=by simpa using λz=>e z.symm
   rw[f8 e,h2];exact ih
def YN(kvs:List<|Int×α)(k:Int):ff (Zj val kvs) (.int k)=(kvs.lookup k).isSome:=by
 induction kvs with
 |nil=>rfl
 |cons p r ih =>
  unfold ff Zj at ih ⊢;rw[Ï,ķ,ï,WH];by_cases e:p.1=k
  .simp[e]
  .have h2:(k==p.1)=ez:=by simpa using λz=>e z.symm
   rw[f8 e,h2];exact ih
def ZW(kvs:List<|Int×α)(k:Int)(v:α):fg (Zj val kvs) (.int k) (val v)=Zj val (Zu kvs k v):=by
 unfold fg Zu;rw[YN];split
 .unfold Zj;rw[õ,õ];refine ğ λp _=>?_;simp only[bJ,WH];by_cases e:p.1=k
  .simp[e]
  .simp[e]
 .unfold Zj;rw[ß];rfl
def XH(kvs:List<|Int×α)(k:Int):fh (Zj val kvs) (.int k)=Zj val (Zt kvs k):=by
 unfold fh Zt Zj;induction kvs with
 |nil=>rfl
 |cons p r ih =>rw[Ï,Ĩ,Ĩ,WH,ih];by_cases e:p.1=k<;>simp[e]
def XX(ns:List Int):eN (ns.map Val.int)=eh ns:=by
 induction ns with
 |nil=>rfl
 |cons n ns ih=>show(eN<|ns.map Val.int).map _=_;rw[ih];rfl
def Dz(kvs:List<|Int×α):keysOf (Zj val kvs)=eh (kvs.map (·.1)):=by unfold keysOf Zj;rw[õ];exact(congrArg eN (õ (f:=λp:Int×α=>p.1) (g:=Val.int) (l:=kvs)).symm).trans (XX _)
def JS(kvs:List<|Int×α):(Zj val kvs).length=kvs.length:=by unfold Zj;rw[Ã]
variable {kvs:List (Int×α)}
def Zx{k:Int}{v:α}(h:kvs.lookup k=eh v):(k,v)∈kvs:=by
 induction kvs with
 |nil=>cases h
 |cons p r ih =>
  rw[ï]at h;by_cases e:k=p.1
  .have:(k==p.1)=ej:=by simp[e]
   rw[this]at h;cases h;rw[e];exact ì
  .have:(k==p.1)=ez:=by simpa using e
   rw[this]at h;exact Ü _<|ih h
def ZG{k:Int}(h:k∈kvs.map (·.1)):∃v,kvs.lookup k=eh v:=by
 induction kvs with
 |nil=>cases h
 |cons p r ih =>
  rw[ï];by_cases e:k=p.1
  .have:(k==p.1)=ej:=by simp[e]
   rw[this];exact⟨_,rfl⟩
  .have:(k==p.1)=ez:=by simpa using e
   rw[this];rw[Ï,Ç]at h;exact ih<|h.resolve_left e
def Xi{k:Int}(h:kvs.lookup k=ei):k∉kvs.map (·.1):=λm=>by obtain⟨v,e⟩:=ZG m;rw[h]at e;cases e
def WJ(nd:(kvs.map (·.1)).Nodup){k:Int}{v:α}(h:(k,v)∈kvs):kvs.lookup k=eh v:=by
 induction kvs with
 |nil=>cases h
 |cons p r ih =>
  rw[Ï,ć]at nd;rw[ï];rcases Ç.mp h with e|h
  .subst e;simp
  .have:k≠p.1:=λz=>nd.1 (z▸ÿ (f:=(·.1)) h);have:(k==p.1)=ez:=by simpa using this
   rw[this];exact ih nd.2 h
def Jo(kvs:List<|Int×α)(k:Int)(v:α):(Zu kvs k v).map (·.1)=if(kvs.lookup k).isSome then kvs.map (·.1)else kvs.map (·.1)++[k]:=by
 unfold Zu;split
 .rw[õ];refine ğ λp _=>?_;simp only[bJ];by_cases e:p.1=k<;>simp[e]
 .rw[ß];rfl
def XY{k:Int}(v:α)(h:k∉kvs.map (·.1)):Zu kvs k v=kvs++[(k,v)]:=by
 unfold Zu;have:kvs.lookup k=ei:=by
  cases e:kvs.lookup k with
  |none=>rfl
  |some w=>exact gc (ÿ (f:=(·.1))<|Zx e) h
 rw[this];rfl
def Wf(nd:(kvs.map (·.1)).Nodup)(k:Int)(v:α):((Zu kvs k v).map (·.1)).Nodup:=by
 rw[Jo];split
 .exact nd
 .rename_i h;have h:kvs.lookup k=ei:=af.mp h;rw[æ];refine⟨nd,by simp,λa ha b hb=>?_⟩;rw[â.mp hb];exact λe=>Xi h<|e▸ha
variable {p:Int×α}
def Wz{k:Int}{v:α}(h:p∈Zu kvs k v):p=(k,v)\/p∈kvs:=by
 unfold Zu at h;split at h
 .obtain⟨q,hq,e⟩:=Ú.mp h;split at e
  .exact .inl e.symm
  .exact .inr<|e▸hq
 .rcases å.mp h with h|h
  .exact .inr h
  .exact .inl<|â.mp h
def MF(kvs:List<|Int×α)(k:Int):(Zt kvs k).Sublist kvs:=š
def YF(nd:(kvs.map (·.1)).Nodup)(k:Int):((Zt kvs k).map (·.1)).Nodup:=nd.sublist ((MF kvs k).map _)
def Fx{k:Int}(h:p∈Zt kvs k):p.1≠k:=by unfold Zt at h;have:=(Ĕ.mp h).2;simpa using this
end
def ZZ:∀{m:Nat}{ns:List Int},ns.Nodup->(∀x∈ns,0<=x/\x<m)->ns.length<=m
 |0,ns,nd,h=>by
  cases ns with
  |nil=>exact Ì _
  |cons x xs=>have:=h x ì;lia
 |m+1,ns,nd,h=>by
  by_cases hm:(m:Int)∈ns
  .have:=ZZ (m:=m) (nd.erase (m:Int)) λx hx=>by
    have h1:=(nd.mem_erase_iff).mp hx;have h2:=h x h1.2;have:=h1.1;lia
   rw[bC hm]at this;lia
  .have:=ZZ (m:=m) nd λx hx=>by
    have h2:=h x hx;have:x≠(m:Int):=λe=>hm<|e▸hx;lia
   lia
noncomputable abbrev Pi:=Int×Int
noncomputable abbrev pV(p:Pi):Val:=.tup [.int p.1,.int p.2]
abbrev oV:Option Pi->Val
 |none=>.non
 |some p=>pV p
structure L where
 num:Pi
 st:Pi
 root:Int
 cost:Int
 age:Int
 rests:Option Pi
 agrees:Option Pi
noncomputable abbrev L.v(l:L):Val:=.tup [pV l.num,pV l.st,.int l.root,.int l.cost,.int l.age,oV l.rests,oV l.agrees]
noncomputable abbrev UP(t:Int×Int):Val:=.tup [.int t.1,.int t.2]
noncomputable abbrev hdV(t:L×Int):Val:=.tup [t.1.v,.int t.2]
structure Lab where
 root:Int
 cost:Int
 up:Option<|Int×Pi
 deriving DecidableEq
abbrev upV:Option (Int×Pi)->Val
 |none=>.non
 |some p=>.int p.1
abbrev rsV:Option (Int×Pi)->Val
 |none=>.non
 |some p=>pV p.2
noncomputable abbrev Lab.v(l:Lab):Val:=.tup [.int l.root,.int l.cost,upV l.up,rsV l.up]
structure Br where
 number:Int
 life:Int
 most:Int
 ties:List<|Int×(Int×Int)
 held:List<|Int×(L×Int)
 label:Lab
 version:Int
 count:Int
abbrev Br.fs(B:Br)(t d:Ad):List<|String×Val:=[("number",.int B.number),("life",.int B.life),("age_let_go",.int B.most),("ties_by_place",.ref t),("held_by_place",.ref d),("label_now",B.label.v),("version",.int B.version),("ticks_had",.int B.count)]
structure eR(h:Hs)(b t d:Ad)(B:Br):Prop where
 ins:h b=eh (.ins "Bridge" [("number",.int B.number),("life",.int B.life),("age_let_go",.int B.most),("ties_by_place",.ref t),("held_by_place",.ref d),("label_now",B.label.v),("version",.int B.version),("ticks_had",.int B.count)])
 ties:h t=eh (.dct<|Zj UP B.ties)
 held:h d=eh (.dct<|Zj hdV B.held)
 ne:t≠d
variable {h:Hs} {b:Ad} {o:Ob}
def B9{a:Ad}{u:Ob}(ha:h a=eh o)(hb:h b=eh u)(ne:o≠u):a≠b:=λe=>by subst e;rw[ha]at hb;exact ne (í hb)
variable {d:Ad} {B:Br}
def eR.nbt{t:Ad}(x:eR h b t d B):b≠t:=B9 x.ins x.ties nofun
def eR.nbd{t:Ad}(x:eR h b t d B):b≠d:=B9 x.ins x.held nofun
structure Ex(S:List Ad)(h g:Hs):Prop where
 get:∀{a:Ad}{o:Ob},a∉S->h a=eh o->g a=eh o
def Ex.refl{S:List Ad}:Ex S h h:=⟨λ_ e=>e⟩
variable {g:Hs}
def Ex.trans{k:Hs}{S:List Ad}(e:Ex S h g)(f:Ex S g k):Ex S h k:=⟨λn x=>f.get n<|e.get n x⟩
def Ex.of{S:List Ad}(e:Ext h g):Ex S h g:=⟨λ_ x=>e.get x⟩
variable {w:Ad}
def Ex.upd{S:List Ad}(m:w∈S):Ex S h<|upd h w o:=⟨λ{a _} n x=>by rw[eB λe:a=w=>n<|by rw[e];exact m];exact x⟩
def Ex.sub{S T:List Ad}(e:Ex S h g)(m:∀a∈S,a∈T):Ex T h g:=⟨λn x=>e.get (λz=>n<|m _ z) x⟩
def Ex.ext(e:Ex [] h g):Ext h g:=⟨λx=>e.get (by simp) x⟩
variable {p:Ad}
def Ex.none(e:Ex [b] h g)(hb:g b≠ei)(hp:g p=ei):h p=ei:=by
 cases z:h p with
 |none=>rfl
 |some o =>
  by_cases hpb:p=b
  .subst hpb;exact gc hp hb
  .rw[e.get (by simpa using hpb) z]at hp;cases hp
def Ex.ofB{S:List Ad}(e:ExtB w h g)(m:w∈S):Ex S h g:=⟨λn x=>e.get (λz=>n<|z▸m) x⟩
def eR.keep{t:Ad}{S:List Ad}(x:eR h b t d B)(e:Ex S h g)(hb:b∉S)(ht:t∉S)(hd:d∉S):eR g b t d B:=⟨e.get hb x.ins,e.get ht x.ties,e.get hd x.held,x.ne⟩
def eR.ext{t:Ad}(x:eR h b t d B)(e:Ext h g):eR g b t d B:=⟨e.get x.ins,e.get x.ties,e.get x.held,x.ne⟩
def nw{Q:Q1}(q:∀p,h p=ei->Q (.ref p) (upd h p o)):new h o Q:=YT q
abbrev Yp(most:Int)(held:List<|Int×(L×Int)):List<|Int×(L×Int):=held.filterMap λp=>if p.2.2+1<most then eh (p.1,(p.2.1,p.2.2+1))else ei
variable {most:Int}
def UU{held:List (Int×(L×Int))}{p:Int×(L×Int)}(h:p∈Yp most held):∃a,(p.1,(p.2.1,a))∈held:=by
 obtain⟨q,hq,e⟩:=μ.mp h;split at e
 .cases e;exact⟨_,hq⟩
 .cases e
def JB(most:Int)(held:List<|Int×(L×Int)):((Yp most held).map (·.1)).Sublist (held.map (·.1)):=by
 unfold Yp;induction held with
 |nil=>exact Ţ _
 |cons p r ih =>
  rw[Ē];split
  .exact ih.cons _
  .rename_i q e;split at e
   .cases e;exact ih.cons₂ _
   .cases e
def Ap(most:Int)(held:List<|Int×(L×Int)):(Yp most held).length<=held.length:=bx _ _
def YJ{α β:Type}{f:α->β}:∀{xs:List α}{i:Nat}{q:α},(xs.map f).Nodup->xs[i]?=eh q->f q∉(xs.take i).map f
 |[],_,_,_,h=>by simp at h
 |x::xs,0,_,_,_=>by simp
 |x::xs,i+1,q,nd,h=>by
  rw[Ï,ć]at nd;have h:xs[i]?=eh q:=by simpa using h
  rw[ϧ,Ï,Ç,not_or];exact⟨λe=>nd.1<|e▸ÿ (ă h),YJ nd.2 h⟩
variable {α:Type} {xs:List α} {i:Nat} {x:α}
def Zp(h:xs[i]?=eh x):xs.take (i+1)=xs.take i++[x]:=by rw[ŭ,h];rfl
def Z5{f:α->Val}{v:Val}(h:(xs.map f)[i]?=eh v):∃x,xs[i]?=eh x/\v=f x:=by rw[Ò]at h;obtain⟨x,h1,h2⟩:=Î.mp h;exact⟨x,h1,h2.symm⟩
variable {kvs:List (Int×α)}
def ME{val:α->Val}{v:Val}(h:((Zj val kvs).map<|itemOf ez)[i]?=eh v):∃p,kvs[i]?=eh p/\v=.tup [.int p.1,val p.2]:=by obtain⟨q,h1,rfl⟩:=Z5 h;unfold Zj at h1;rw[Ò]at h1;obtain⟨x,h2,rfl⟩:=Î.mp h1;exact⟨x,h2,rfl⟩
def Gz{val:α->Val}(kvs:List<|Int×α):((Zj val kvs).map<|itemOf ez).length=kvs.length:=by rw[Ã,JS]
variable {P:Pg} [Al P] {n:Nat}{h:Hs}{w b t d st a f tt hh:Ad}{S B:Br}{c:Int}{all:List (Int×Int)}{ps:List Int}{Q:Q1}{X:XQ}
def CK(x:eR h b t d B)(k:Q B.label.v h):wF P (n+1) "Bridge.label" [.ref b] h Q X:=by obtain⟨hi,ht,hd,Ŵ⟩:=x;refine JG ?_;refine' k
def X5(x:eR h b t d B)(k:Q (pV (B.life,B.version)) h):wF P (n+1) "Bridge.stamp" [.ref b] h Q X:=by obtain⟨hi,ht,hd,Ŵ⟩:=x;refine JM ?_;refine' k
abbrev hdO:Option (L×Int)->Val
 |none=>.non
 |some p=>hdV p
def K5{p:Int}(x:eR h b t d B)(k:Q (hdO<|B.held.lookup p) h):wF P (n+1) "Bridge.held" [.ref b,.int p] h Q X:=by
 obtain⟨hi,ht,hd,Ŵ⟩:=x;refine JT ?_
 exists HZ (v:=.int p) hd rfl
 rw[Z1];cases e:B.held.lookup p with
 |none=>rw[e]at k;exact k
 |some q=>rw[e]at k;exact k
def Ep(x:eR h b t d B)(nd:(B.held.map (·.1)).Nodup)(hl:B.held.length<1000)(k:∀d' g,h d'=ei->eR g b t d' {B with held:=Yp B.most B.held}->Ex [b] h g->Q .non g):wF P (n+1) "Bridge.let_grow_older" [.ref b] h Q X:=by
 obtain⟨hi,ht,hd,Ŵ⟩:=id x;refine Yq ?_;fail;intro p hp;have npd:=Za hd hp;have npb:=Za hi hp;have npt:=Za ht hp;have nbd:=x.nbd;refine' Zz (λi e g=>Sm2 λu v=>Cj4 (e=[eh<|.ref b,eh<|.ref p,u,v]) (g p=eh (.dct<|Zj hdV<|Yp B.most<|B.held.take i)) (g d=eh (.frz<|Zj hdV B.held))<|Ex [d] h g) ⟨ei,ei,rfl,by rw[eB npd.symm];exact eC,eC,?_⟩ ?_ ?_ ?_
 .exact⟨λm e=>by rw[eB λz=>m<|by simp[z],eB<|Za e hp];exact e⟩
 .rintro i e g dM ⟨u,v,rfl,h1,h2,h3⟩;exact h2
 .rintro i v e g hv ⟨u,w,rfl,h1,h2,h3⟩ K hK;obtain⟨q,hq,rfl⟩:=ME hv;have hi1:=h3.get (by simpa using nbd) hi;obtain⟨pl,l,a⟩:=q;have e1:Yp B.most (B.held.take<|i+1)=Yp B.most (B.held.take i)++Yp B.most [(pl,(l,a))]:=by
   unfold Yp;rw[Zp hq,List.filterMap_append]
  refine' fJ (λhc=>?_) (λhc=>?_)
  .refine' Yv (k:=.int pl) h1 ⟨rfl,?_⟩ ?_
   .rw[JS];have h5:=Ap B.most<|B.held.take i;have h6:(B.held.take i).length<=B.held.length:=ϛ _ _;exact Ø (Ý h5 h6) (Ű hl<|by decide)
   fail;rw[show Val.tup [l.v,.int<|a+1]=hdV (l,a+1) from rfl,ZW];refine hK _ _ ⟨_,_,rfl,?_,?_,?_⟩
   .rw[eC,e1,XY]
    .unfold Yp;rw[Ē,f6 hc];rfl
    .exact λm=>YJ nd hq<|(JB _ _).subset m
   .rw[eB npd];exact h2
   .exact⟨λm e=>by rw[eB<|Za e hp];exact h3.get m e⟩
  .refine' hK _ _ ⟨_,_,rfl,?_,h2,h3⟩;rw[h1,e1];unfold Yp;rw[Ē,f7 hc];simp
 .rintro e g ⟨u,v,rfl,h1,h2,h3⟩;have hi1:=h3.get (by simpa using nbd) hi;rw[Gz,ā]at h1;refine⟨h2,?_⟩;refine' k p _ hp ⟨eC,?_,?_,npt⟩ ?_
  .rw[eB x.nbt.symm,eB Ŵ];exact h3.get (by simpa using Ŵ) ht
  .rw[eB npb.symm,eB npd.symm];exact h1
  .refine⟨λ{c o} m e=>?_⟩;rw[eB<|by simpa using m];by_cases aG:c=d
   .subst aG;rw[eC,<-e];exact hd.symm
   .rw[eB aG];exact h3.get (by simpa using aG) e
def F9(x:α)(xs:List α):atI (x::xs) 0=eh x:=by unfold atI ixN;rw[f6 (by decide),f6<|by simp];rfl
abbrev XF(r:List Int):Val:=.tup<|r.map .int
def Dp(đ:List<|List Int):rowsOf (đ.map XF)=eh đ:=by
 induction đ with
 |nil=>rfl
 |cons r rs ih =>show(eN<|r.map .int).bind (λns=>(rowsOf<|rs.map XF).map (ns :: ·))=_;rw[XX,ih];rfl
abbrev YH(number:Int)(đ:List<|List Int):Option<|List Int:=match đ.filter (λr=>gf (r.headD 0<number))with
 |[]=>ei
 |x::r=>eh<|minR x r
abbrev Eh:Option (List Int)->Val
 |none=>.non
 |some r=>XF r
def NK:∀(r:List<|List Int) (x:List Int),minR x r∈x::r
 |[],x=>ì
 |y::r,x=>by
  show minR (if fu y x then y else x) r∈x::y::r;have h:=NK r (if fu y x then y else x);rcases Ç.mp h with e|h
  .rw[e];split
   .simp
   .simp
  .simp[h]
variable {number:Int} {đ:List (List Int)}
def NH{m:List Int}(h:YH number đ=eh m):m∈đ:=by
 unfold YH at h;split at h
 .cases h
 .rename_i x r e;cases h;have:minR x r∈đ.filter (λr=>gf (r.headD 0<number)):=by rw[e];exact NK r x
  exact(Ĕ.mp this).1
variable {l:Ad}
def FK(hl:h l=eh (.lst<|đ.map XF))(h0:∀r∈đ,r≠[])(hn:đ.length<1000)(k:∀g,Ext h g->Q (Eh<|YH number đ) g):wF P (n+1) "best_offer" [.int number,.ref l] h Q X:=by
 refine K4 ?_;refine' ⟨by rw[Ã];exact Ű hn (by decide),?_⟩;refine ZY (λv=>match v with|.tup (.int i::xs)=>if i<number then eh v else ei|_=>ei) (lsE hl) ?_ ?_
 .intro v hv K hK;obtain⟨r,hr,rfl⟩:=Ú.mp hv;cases r with
  |nil=>exact gc rfl<|h0 _ hr
  |cons i xs =>
   have hK:K (if i<number then eh (XF<|i::xs)else ei) h:=hK;rw[show XF (i::xs)=.tup (.int i::xs.map .int) from rfl]at hK ⊢
   exists eM (F9 _ _)
   refine' fJ (λhc=>?_) (λhc=>?_)
   .rw[f6 hc]at hK;refine' hK
   .rw[f7 hc]at hK;exact hK
 .refine YT λp hp=>?_;fail;have e1:(đ.map XF).filterMap (λv=>match v with|.tup (.int i::xs)=>if i<number then eh v else ei|_=>ei)=(đ.filter λr=>gf (r.headD 0<number)).map XF:=by
   clear hl k hn;induction đ with
   |nil=>rfl
   |cons r rs ih =>
    have ih:=ih λr hr=>h0 r<|Ü _ hr;cases r with
    |nil=>exact gc rfl<|h0 _ ì
    |cons i xs =>
     rw[Ï,Ē,Ĩ];by_cases hc:i<number
     .simp only[XF,Ï,f6 hc,List.headD_cons,hc,decide_true,if_true]at ih ⊢;rw[ih]
     .simp only[XF,Ï,f7 hc,List.headD_cons,hc,decide_false,ħ,if_false]at ih ⊢;rw[ih]
  rw[e1];have hx:Ext h<|upd h p<|.lst<|(đ.filter λr=>gf (r.headD 0<number)).map XF:=Ext.new hp;cases e2:đ.filter λr=>gf (r.headD 0<number)with
  |nil =>rw[e2]at hx;refine GS eC ?_;have:=k _ hx;unfold YH at this;rw[e2]at this;exact this
  |cons x r =>rw[e2]at hx;refine Fc eC (Dp<|x::r) ?_;have:=k _ hx;unfold YH at this;rw[e2]at this;exact this
abbrev NE(ties:List<|Int×(Int×Int))(p:Int):Int×Int:=(ties.lookup p).getD (0,0)
abbrev K9(ties:List<|Int×(Int×Int))(q:Int×(L×Int)):List Int:=[q.2.1.root,q.2.1.cost+(NE ties q.1).2,(NE ties q.1).1,q.1]
abbrev Mx(ties:List<|Int×(Int×Int))(held:List<|Int×(L×Int)):List<|List Int:=held.map<|K9 ties
abbrev Fe(held:List<|Int×(L×Int))(p:Int):Pi:=((held.lookup p).map (·.1.st)).getD (0,0)
abbrev Yr(B:Br):Lab:=match YH B.number (Mx B.ties B.held)with
 |none=>⟨B.number,0,ei⟩
 |some m=>⟨m.getD 0 0,m.getD 1 0,eh (m.getD 3 0,Fe B.held<|m.getD 3 0)⟩
def HU{ties:List (Int×(Int×Int))}{p:Int}(h:(ties.lookup p).isSome=ej):ties.lookup p=eh (NE ties p):=by
 unfold NE;cases e:ties.lookup p with
 |none=>rw[e]at h;cases h
 |some v=>rfl
def U5(x:eR h b t d B)(sub:∀q∈B.held,(B.ties.lookup q.1).isSome=ej)(hn:B.held.length<1000)(k:∀g,Ext h g->Q (Yr B).v g):wF P (n+2) "Bridge.reckon_label" [.ref b] h Q X:=by
 obtain⟨hi,ht,hd,Ŵ⟩:=id x;refine YM ?_;refine' YT λp hp=>?_;have npd:=Za hd hp;have npb:=Za hi hp;have npt:=Za ht hp;have nbd:=x.nbd;refine' Zz (λi e g=>Sm4 λu v w z=>Cj4 (e=[eh<|.ref b,eh<|.ref p,u,v,w,z,ei,ei]) (g p=eh (.lst<|(Mx B.ties<|B.held.take i).map XF)) (g d=eh (.frz<|Zj hdV B.held))<|Ex [d] h g) ⟨ei,ei,ei,ei,rfl,by rw[eB npd.symm];exact eC,eC,?_⟩ ?_ ?_ ?_
 .exact⟨λm e=>by rw[eB λz=>m<|by simp[z],eB<|Za e hp];exact e⟩
 .rintro i e g dM ⟨u,v,w,z,rfl,h1,h2,h3⟩;exact h2
 .rintro i v e g hv ⟨u,v,w,z,rfl,h1,h2,h3⟩ K hK;obtain⟨q,hq,rfl⟩:=ME hv;have hi1:=h3.get (by simpa using nbd) hi;have ht1:=h3.get (by simpa using Ŵ) ht;have hs:=HU<|sub q<|ă hq;obtain⟨pl,l,a⟩:=q;generalize htt:NE B.ties pl=tt at hs;obtain⟨nb,c⟩:=tt;refine' ZU ht1 rfl (by rw[Z1,hs];rfl) ?_;refine' Zw h1 ?_ ?_
  .rw[Ã];unfold Mx;rw[Ã];exact Ø (ϛ _ _) (Ű hn<|by decide)
  dsimp only;refine' hK _ _ ⟨_,_,_,_,rfl,?_,?_,?_⟩
  .rw[eC,Zp hq];unfold Mx K9;rw[ß,ß,Ï,htt];rfl
  .rw[eB npd];exact h2
  .exact⟨λm e=>by rw[eB<|Za e hp];exact h3.get m e⟩
 .rintro e g ⟨u,v,w,z,rfl,h1,h2,h3⟩;have hi1:=h3.get (by simpa using nbd) hi;have dM:upd g d (.dct<|Zj hdV B.held) b=_:=upd_ne' nbd hi1;rw[Gz,ā]at h1;have h1':upd g d (.dct<|Zj hdV B.held) p=_:=upd_ne' npd.symm h1;have hx:Ext h<|upd g d<|.dct<|Zj hdV B.held:=⟨λ{c o} e=>by
    by_cases aG:c=d
    . subst aG;rw[eC,<-e];exact hd.symm
    . rw[eB aG];exact h3.get (by simpa using aG) e⟩
  have bD:upd g d (.dct<|Zj hdV B.held) d=_:=eC;refine⟨h2,?_⟩;generalize upd g d (.dct<|Zj hdV B.held)=g2 at dM h1' hx bD ⊢;refine' FK h1' ?_ ?_ λg3 h3=>?_
  .intro r hr;unfold Mx at hr;obtain⟨q,_,rfl⟩:=Ú.mp hr;unfold K9;simp
  .unfold Mx;rw[Ã];exact hn
  have hi3:=h3.get dM;have hd3:=h3.get bD;have kk:=k g3<|hx.trans h3;unfold Yr at kk;fail;cases e:YH B.number (Mx B.ties B.held)with
  |none =>rw[e]at kk;simp only[Eh];refine fJ (λhc=>?_) λhc=>gc trivial hc;refine' kk
  |some m =>rw[e]at kk;have hm:=NH e;unfold Mx at hm;obtain⟨q,hq,rfl⟩:=Ú.mp hm;refine fJ (λhc=>(by simp[Eh,XF]at hc)) λhc=>?_;have hlk:∃y,B.held.lookup q.1=eh y:=ZG (ÿ (f:=(·.1)) hq);obtain⟨y,hy⟩:=hlk;unfold K9 at kk ⊢;simp only[Eh,XF,Ï,Ψ];refine' ZU hd3 rfl (by rw[Z1,hy];rfl) ?_;fail;unfold Fe at kk;simp only[List.getD_cons_succ,List.getD_cons_zero]at kk;rw[hy]at kk;exact kk
abbrev E5(l:Lab):D:=.tup [.int l.root,.int l.cost,(match l.up with|none=>.non|some p=>.int p.1),(match l.up with|none=>.non|some p=>.tup [.int p.2.1,.int p.2.2])]
def Ug(h:Hs)(l:Lab):dat h deep l.v=eh (E5 l):=by obtain⟨r,c,u⟩:=l;cases u<;>rfl
def Lj(h:Hs)(l m:Lab):eqV h l.v m.v=eh (gf (l=m)):=by
 unfold eqV;rw[Ug,Ug];show eh (D.eqv (E5 l)<|E5 m)=_;congr 1;obtain⟨r,c,u⟩:=l;obtain⟨r',c',u'⟩:=m;unfold E5;cases u with
 |none=>cases u' with
  |none=>simp only[D.eqv,D.eqvs,Ζ];by_cases h1:r=r'<;>by_cases h2:c=c'<;>simp[h1,h2]
  |some q=>simp[D.eqv,D.eqvs]
 |some p=>cases u' with
  |none=>simp[D.eqv,D.eqvs]
  |some q =>obtain⟨p1,p2,p3⟩:=p;obtain⟨q1,q2,q3⟩:=q;simp only[D.eqv,D.eqvs,Ζ];by_cases h1:r=r'<;>by_cases h2:c=c'<;>by_cases h3:p1=q1<;>by_cases h4:p2=q2<;>by_cases h5:p3=q3<;>simp[h1,h2,h3,h4,h5]
abbrev taken(B:Br)(l:Lab):Br:=if l=B.label then B else {B with label:=l,version:=B.version+1}
variable {u:Val} {KB:Bool->Prop}
def KG{v:Val}{c:Bool}(e:eqV h v u=eh c)(q:KB (!c)):go (eY h .ne v u) KB:=eL (by show(eqV h v u).map _=_;rw[e];rfl) q
def Wm{v:Val}{c:Bool}(e:eqV h v u=eh c)(q:KB c):go (eY h .eq v u) KB:=eL e q
def D5{l:Lab}(x:eR h b t d B)(k:∀g,eR g b t d (taken B l)->Ex [b] h g->Q .non g):wF P (n+1) "Bridge.take_label" [.ref b,l.v] h Q X:=by
 obtain⟨hi,ht,hd,Ŵ⟩:=id x;refine Xm ?_
 exists KG (Lj h l B.label)
 fail;unfold taken at k;refine AI (λhc=>?_) λhc=>?_
 .rw[f7 hc]at k;refine' Yg eC (show(8:Nat)<900 by decide) ?_;refine' k _ ⟨?_,?_,?_,Ŵ⟩ ?_
  .rw[eF,eC];rfl
  .rw[eB x.nbt.symm,eB x.nbt.symm];exact ht
  .rw[eB x.nbd.symm,eB x.nbd.symm];exact hd
  .exact(Ex.upd<|by simp).trans (Ex.upd<|by simp)
 .rw[f6 hc]at k;refine' k h x Ex.refl
def PB(h:Hs)(r:Option Pi)(s:Pi):eqV h (oV r) (pV s)=eh (gf (r=eh s)):=by
 obtain⟨s1,s2⟩:=s;cases r with
 |none =>show eh (D.eqv .non<|.tup [.int s1,.int s2])=_;simp[D.eqv]
 |some p =>obtain⟨p1,p2⟩:=p;show eh (D.eqv (.tup [.int p1,.int p2])<|.tup [.int s1,.int s2])=_;congr 1;simp only[D.eqv,D.eqvs,Ζ];by_cases h1:p1=s1<;>by_cases h2:p2=s2<;>simp[h1,h2]
abbrev JL(B:Br)(p:Int):Bool:=match B.held.lookup p with
 |none=>ez
 |some q=>gf (q.1.rests=eh (B.life,B.version))
def Ki{p:Int}(x:eR h b t d B)(k:Q (.bl<|JL B p) h):wF P (n+2) "Bridge.is_rested_on" [.ref b,.int p] h Q X:=by
 obtain⟨hi,ht,hd,Ŵ⟩:=id x;refine YS ?_
 exists K5 x
 unfold JL at k;fail;cases e:B.held.lookup p with
 |none =>rw[e]at k;refine AI (λhc=>gc rfl hc) λhc=>?_;exact k
 |some q =>
  rw[e]at k;obtain⟨l,a⟩:=q;refine AI (λhc=>?_) (λhc=>by simp[hdO]at hc);simp only[hdO]
  exists X5 x
  refine Wm (PB h _ _) ?_;exact k
abbrev Fi(u:Option<|Int×Pi)(p:Int):Bool:=match u with
 |none=>ez
 |some q=>gf (p=q.1)
abbrev Je(B:Br):Int:=match B.label.up with
 |none=>0
 |some q=>((B.held.lookup q.1).map (·.2)).getD 0+1
abbrev ZC(B:Br)(p:Int):L where
 num:=(B.life,B.count)
 st:=(B.life,B.version)
 root:=B.label.root
 cost:=B.label.cost
 age:=Je B
 rests:=if Fi B.label.up p then B.label.up.map (·.2)else ei
 agrees:=if Fi B.label.up p then ei else if JL B p then eh (Fe B.held p)else ei
def Gu(h:Hs)(p:Int)(u:Option<|Int×Pi):eqV h (.int p) (upV u)=eh (Fi u p):=by
 cases u with
 |none=>rfl
 |some q =>show eh (D.eqv (.int p)<|.int q.1)=_;rw[Uk];rfl
def DR{p:Int}(x:eR h b t d B)(hu:∀q,B.label.up=eh q->(B.held.lookup q.1).isSome=ej)(k:Q (ZC B p).v h):wF P (n+3) "Bridge.letter_over" [.ref b,.int p] h Q X:=by
 obtain⟨hi,ht,hd,Ŵ⟩:=id x;refine Y6 ?_;fail;have main:wSs (wF P<|n+2) #[.ite (.val<|.cmp .eq (.var 1)<|.var 4) #[.ret<|.bin .add (.var 7)<|.tup #[.var 5,.cst .non]] .nil,.ite (.val<|.meth "Bridge" "is_rested_on" (.var 0) #[.var 1]) #[.ret<|.bin .add (.var 7)<|.tup #[.cst .non,.idx (.idx (.idx (.fld (.var 0) "held_by_place")<|.var 1)<|.cst<|.int 0)<|.glob "STAMP"<|.int 1]] .nil,.ret<|.bin .add (.var 7)<|.tup #[.cst .non,.cst .non]]
   [eh<|.ref b,eh<|.int p,eh<|.int B.label.root,eh<|.int B.label.cost,eh<|upV B.label.up,eh<|rsV B.label.up,eh<|.int<|Je B,eh<|.tup [pV (B.life,B.count),pV (B.life,B.version),.int B.label.root,.int B.label.cost,.int<|Je B]] h (λ_ g=>Q .non g) Q (λ_ _=>False) (λ_ _=>False) λ_ c g=>X c g:=by
  exists Wm (Gu h p B.label.up)
  refine' fK (λhc=>?_) (λhc=>?_)
  .fail;unfold ZC at k;rw[hc]at k;cases e:B.label.up with
   |none=>rw[e]at hc;cases hc
   |some q=>rw[e]at k;exact k
  .exists Ki x
   fail;unfold ZC at k;rw[hc]at k;refine fK (λhr=>?_) λhr=>?_
   .rw[hr]at k;unfold JL at hr;cases e:B.held.lookup p with
    |none=>rw[e]at hr;cases hr
    |some q =>obtain⟨l,a⟩:=q;refine' ZU hd rfl (by rw[Z1,e];rfl) ?_;fail;unfold Fe at k;rw[e]at k;exact k
   .rw[hr]at k;refine' k
 cases e:B.label.up with
 |none =>
  have ea:Je B=0:=by unfold Je;rw[e]
  rw[e,ea]at main;refine fJ (λhc=>?_) λhc=>gc rfl hc
  exists X5 x
  walk_at "w"
  repeat (first|exact main|(walk_at "py1";walk_at "w"))
 |some q =>
  obtain⟨y,hy⟩:=ø.mp<|hu q e;have ea:Je B=y.2+1:=by unfold Je;rw[e];dsimp only;rw[hy];rfl
  rw[e,ea]at main;refine fJ (λhc=>by cases hc) λhc=>?_;simp only[upV];refine' ZU hd rfl (by rw[Z1,hy];rfl) ?_
  exists X5 x
  walk_at "w"
  repeat (first|exact main|(walk_at "py1";walk_at "w"))
def Fq{q:Int×Pi}(hq:(Yr B).up=eh q):(B.held.lookup q.1).isSome=ej:=by
 unfold Yr at hq;split at hq
 .cases hq
 .rename_i m e;have hm:=NH e;unfold Mx at hm;obtain⟨y,hy,rfl⟩:=Ú.mp hm;cases hq;obtain⟨v,hv⟩:=ZG (ÿ (f:=(·.1)) hy);show(B.held.lookup y.1).isSome=ej;rw[hv];rfl
abbrev Br.grown(B:Br):Br:={B with held:=Yp B.most B.held}
abbrev Br.told(B:Br):Br:=taken B.grown<|Yr B.grown
abbrev Br.ticked(B:Br):Br:={B.told with count:=B.count+1}
abbrev ZO(B:Br):List Val:=(sortI (B.ties.map (·.1))).map λp=>.tup [.int p,(ZC B p).v]
def YK(B:Br)(l:Lab):(taken B l).held=B.held/\(taken B l).ties=B.ties/\(taken B l).count=B.count/\(taken B l).label=l/\(taken B l).number=B.number/\(taken B l).life=B.life/\(taken B l).most=B.most:=by
 unfold taken;split
 .rename_i e;exact⟨rfl,rfl,rfl,e.symm,rfl,rfl,rfl⟩
 .exact⟨rfl,rfl,rfl,rfl,rfl,rfl,rfl⟩
structure Br.ok(B:Br):Prop where
 nd:(B.held.map (·.1)).Nodup
 sub:∀q∈B.held,(B.ties.lookup q.1).isSome=ej
 nt:(B.ties.map (·.1)).Nodup
 rg:∀q∈B.ties,0<=q.1/\q.1<16
def Br.ok.tlen(o:B.ok):B.ties.length<=16:=by
 have:=ZZ (m:=16) o.nt λx hx=>by obtain⟨q,hq,rfl⟩:=Ú.mp hx;exact o.rg q hq
 simpa using this
def Br.ok.hlen(o:B.ok):B.held.length<=16:=by
 have:=ZZ (m:=16) o.nd λx hx=>by obtain⟨q,hq,rfl⟩:=Ú.mp hx;obtain⟨v,hv⟩:=ø.mp<|o.sub q hq;exact o.rg _<|Zx hv
 simpa using this
def Br.ok.grown(o:B.ok):B.grown.ok where
 nd:=o.nd.sublist<|JB _ _
 sub:=λq hq=>by obtain⟨a,ha⟩:=UU hq;exact o.sub (q.1,(q.2.1,a)) ha
 nt:=o.nt
 rg:=o.rg
def Br.ok.told(o:B.ok):B.told.ok:=by
 obtain⟨h1,h2,_⟩:=YK B.grown<|Yr B.grown;have g:=o.grown;refine⟨?_,?_,?_,?_⟩
 .show((taken B.grown<|Yr B.grown).held.map (·.1)).Nodup;rw[h1];exact g.nd
 .show ∀q∈(taken B.grown<|Yr B.grown).held,((taken B.grown<|Yr B.grown).ties.lookup q.1).isSome=ej;rw[h1,h2];exact g.sub
 .show((taken B.grown<|Yr B.grown).ties.map (·.1)).Nodup;rw[h2];exact g.nt
 .show ∀q∈(taken B.grown<|Yr B.grown).ties,_;rw[h2];exact g.rg
def Br.ok.ticked(o:B.ok):B.ticked.ok:=⟨o.told.nd,o.told.sub,o.told.nt,o.told.rg⟩
def Fh(x:eR h b t d B)(o:B.ok)(k:∀p d' g,h p=ei->h d'=ei->eR g b t d' B.ticked->g p=eh (.lst<|ZO B.told)->Ex [b] h g->p≠d'->Q (.ref p) g):wF P (n+4) "Bridge.tick" [.ref b] h Q X:=by
 obtain⟨hi,ht,hd,Ŵ⟩:=id x;have hlen:=o.hlen;refine JX ?_;refine' Ep x o.nd (by lia) λd' g hd' x1 e1=>?_;obtain⟨hi1,ht1,hd1,hne1⟩:=id x1;have og:=o.grown;have x1':eR g b t d' B.grown:=x1;refine' U5 x1' og.sub (by have:=og.hlen;lia) λg2 e2=>?_;have x2:=x1'.ext e2;refine' D5 x2 λg3 x3 e3=>?_;obtain⟨hi3,ht3,hd3,hne3⟩:=id x3;obtain⟨c1,c2,c3,c4,c5,c6,c7⟩:=YK B.grown<|Yr B.grown;have hties:B.told.ties=B.ties:=c2;refine' Os ht3 (Dz _) ?_ (YT λp1 bN=>?_)
 .rw[Ã];have:=o.tlen;show B.told.ties.length<64;rw[hties];lia
 refine' ⟨?_,?_⟩
 .rw[Ã,sortI,Œ,Ã];have:=o.tlen;show B.told.ties.length<lim;rw[hties];exact Ø this (by decide)
 have x4:=x3.ext (Ext.new (o:=.lst ((sortI ((taken B.grown<|Yr B.grown).ties.map (·.1))).map Val.int)) bN);have up:∀q,(taken B.grown<|Yr B.grown).label.up=eh q->((taken B.grown<|Yr B.grown).held.lookup q.1).isSome=ej:=λq hq=>by rw[c4]at hq;rw[c1];exact Fq hq
 refine ZY (λv=>match v with|.int i=>eh (.tup [.int i,(ZC B.told i).v])|_=>ei) (lsE eC) ?_ ?_
 .intro v hv K hK;obtain⟨i,hi,rfl⟩:=Ú.mp hv;obtain⟨hi4,ht4,hd4,hne4⟩:=id x4;fail;rw[f6 rfl];change wE _ _ [eh<|.int i,eh<|.ref b] _ _ _
  exists DR x4 up
  refine' hK
 .refine YT λp hp=>?_;have x5:=x4.ext<|Ext.new (o:=.lst<|ZO B.told) hp;have e0:((sortI ((taken B.grown<|Yr B.grown).ties.map (·.1))).map Val.int).filterMap (λv=>match v with|.int i=>eh (.tup [.int i,(ZC B.told i).v])|_=>ei)=ZO B.told:=by
   rw[ξ];unfold ZO;exact congrFun (List.filterMap_eq_map (f:=λi:Int=>Val.tup [.int i,(ZC B.told i).v])) _
  rw[e0];obtain⟨hi5,ht5,hd5,hne5⟩:=id x5;fail;have c3':(taken B.grown<|Yr B.grown).count=B.count:=c3;rw[c3'];have eg:Ex [b] h (upd g3 p1 (.lst ((sortI ((taken B.grown<|Yr B.grown).ties.map (·.1))).map Val.int))):=((e1.trans<|.of e2).trans e3).trans<|.of<|Ext.new bN;have hpn:h p=ei:=eg.none (by rw[x4.ins];intro z;cases z) hp;have npb:b≠p:=Za x4.ins hp;refine k p d' _ hpn hd' ⟨eC,?_,?_,x5.ne⟩ ?_ ?_ (Za x4.held hp).symm
  .rw[eB x5.nbt.symm];exact x5.ties
  .rw[eB x5.nbd.symm];exact x5.held
  .rw[eB npb.symm];exact eC
  .exact(eg.trans<|.of<|Ext.new hp).trans (Ex.upd<|by simp)
abbrev Jb(S:Br)(p:Int)(l:L):Bool:=match S.held.lookup p with
 |none=>ej
 |some q=>fu [q.1.num.1,q.1.num.2] [l.num.1,l.num.2]
abbrev Yb(S:Br)(p:Int)(l:L):Br:=if(S.ties.lookup p).isSome then(if Jb S p l then {S with held:=Zu S.held p (l,l.age)} else S)else S
abbrev B6(S:Br)(p:Int):Br:={S with ties:=Zt S.ties p,held:=Zt S.held p}
abbrev upB(S:Br)(p:Int)(c:Int×Int):Br:=if(S.ties.lookup p).isSome then S else {S with ties:=Zu S.ties p c}
variable {q:Int}
def B5{k:Int}{v:α}:(kvs.lookup q).isSome=ej->((Zu kvs k v).lookup q).isSome=ej:=λh=>by
 obtain⟨x,hx⟩:=ø.mp h;have hm:q∈kvs.map (·.1):=ÿ (f:=(·.1))<|Zx hx;have:q∈(Zu kvs k v).map (·.1):=by
  rw[Jo];split
  .exact hm
  .exact Ö _ hm
 obtain⟨y,hy⟩:=ZG this;rw[hy];rfl
def Br.ok.heard(o:S.ok){p:Int}{l:L}:(Yb S p l).ok:=by
 unfold Yb;split
 .rename_i h1;split
  .refine⟨Wf o.nd _ _,λq hq=>?_,o.nt,o.rg⟩;rcases Wz hq with e|hq
   .rw[e];exact h1
   .exact o.sub q hq
  .exact o
 .exact o
def Yo{k:Int}{q:Int×α}(h:q∈Zt kvs k):q∈kvs:=(MF kvs k).subset h
def U4{k:Int}(h:(kvs.lookup q).isSome=ej)(n:q≠k):((Zt kvs k).lookup q).isSome=ej:=by
 obtain⟨x,hx⟩:=ø.mp h;have:q∈(Zt kvs k).map (·.1):=by refine Ú.mpr ⟨(q,x),?_,rfl⟩;unfold Zt;exact Ĕ.mpr ⟨Zx hx,by simpa using n⟩
 obtain⟨y,hy⟩:=ZG this;rw[hy];rfl
def Br.ok.down(o:S.ok)(p:Int):(B6 S p).ok :=
 ⟨YF o.nd _,λq hq=>U4 (o.sub q<|Yo hq)<|Fx hq,YF o.nt _,λq hq=>o.rg q<|Yo hq⟩
def Br.ok.up(o:S.ok){p:Int}{c:Int×Int}(h0:0<=p)(h1:p<16):(upB S p c).ok:=by
 unfold upB;split
 .exact o
 .refine⟨o.nd,λq hq=>B5<|o.sub q hq,Wf o.nt _ _,λq hq=>?_⟩;rcases Wz hq with e|hq
  .rw[e];exact⟨h0,h1⟩
  .exact o.rg q hq
def FN{p:Int}{l:L}(x:eR h b t d B)(o:B.ok)(k:∀g,eR g b t d (Yb B p l)->Ex [d] h g->Q .non g):wF P (n+2) "Bridge.hear" [.ref b,.int p,l.v] h Q X:=by
 obtain⟨hi,ht,hd,Ŵ⟩:=id x;have hlen:=o.hlen;refine JY ?_
 exists Xn ht rfl
 rw[YN];fail;unfold Yb at k;cases e:(B.ties.lookup p).isSome with
 |false =>rw[e]at k;refine fH rfl ?_;refine' k h x Ex.refl
 |true =>
  rw[e,f6 rfl]at k;refine fI rfl ?_
  exists K5 x
  have put:(∀g,eR g b t d {B with held:=Zu B.held p (l,l.age)}->Ex [d] h g->Q .non g)->go (fy h (.ref d) (.int p)<|.tup [l.v,.int l.age]) λg=>Q .non g:=λk=>by refine Yv hd ⟨rfl,by rw[JS];exact Ø hlen<|by decide⟩ ?_;rw[show Val.tup [l.v,.int l.age]=hdV (l,l.age) from rfl,ZW];exact k _ ⟨by rw[eB x.nbd];exact hi,by rw[eB Ŵ];exact ht,eC,Ŵ⟩ (Ex.upd<|by simp)
  fail;cases e2:B.held.lookup p with
  |none =>
   have et:Jb B p l=ej:=by unfold Jb;rw[e2]
   rw[et,f6 rfl]at k;refine fJ (λhc=>?_) λhc=>gc rfl hc;refine fH rfl ?_;refine' OQ (put k) λg q=>by fail;exact q
  |some q =>
   obtain⟨m,ag⟩:=q;have et:Jb B p l=fu [m.num.1,m.num.2] [l.num.1,l.num.2]:=by unfold Jb;rw[e2]
   rw[et]at k;refine fJ (λhc=>by simp[hdO]at hc) λhc=>?_;simp only[hdO]
   exists DQ
   exists GR (XX [l.num.1,l.num.2]) (XX [m.num.1,m.num.2])
   refine' fK (λhc=>?_) (λhc=>?_)
   .rw[f6 hc]at k;refine' OQ (put k) λg q=>by fail;exact q
   .rw[f7<|by rw[hc];decide]at k;refine' k h x Ex.refl
def Ez{p:Int}(x:eR h b t d B)(k:∀g,eR g b t d (B6 B p)->Ex [t,d] h g->Q .non g):wF P (n+1) "Bridge.down" [.ref b,.int p] h Q X:=by
 obtain⟨hi,ht,hd,Ŵ⟩:=id x;refine J8 ?_
 exists Ub ht rfl
 dsimp only;rw[XH];have dM:upd h t (.dct<|Zj UP<|Zt B.ties p) b=_:=upd_ne' x.nbt hi;have bD:upd h t (.dct<|Zj UP<|Zt B.ties p) d=_:=upd_ne' Ŵ.symm hd
 exists Ub bD rfl
 dsimp only;rw[XH];refine' k _ ⟨by rw[eB x.nbd];exact dM,by rw[eB Ŵ];exact eC,eC,Ŵ⟩ ((Ex.upd<|by simp).trans<|Ex.upd<|by simp)
def Qg{p nb:Int}(x:eR h b t d B)(o:B.ok)(k:∀g,eR g b t d (upB B p (nb,c))->Ex [t] h g->Q .non g):wF P (n+1) "Bridge.up" [.ref b,.int p,.int nb,.int c] h Q X:=by
 obtain⟨hi,ht,hd,Ŵ⟩:=id x;have hlen:=o.tlen;refine No ?_
 exists Xn ht rfl
 rw[YN];fail;unfold upB at k;cases e:(B.ties.lookup p).isSome with
 |true =>rw[e,f6 rfl]at k;refine fI rfl ?_;refine' k h x Ex.refl
 |false =>rw[e,f7<|by decide]at k;refine fH rfl ?_;refine' Yv ht ⟨rfl,by rw[JS];exact Ø hlen<|by decide⟩ ?_;rw[show Val.tup [.int nb,.int c]=UP (nb,c) from rfl,ZW];refine' k _ ⟨by rw[eB x.nbt];exact hi,eC,by rw[eB Ŵ.symm];exact hd,Ŵ⟩ (Ex.upd<|by simp)
def RC(h:Hs)(s:Pi)(u:Option<|Int×Pi):eqV h (pV s) (rsV u)=eh (gf (u.map (·.2)=eh s)):=by
 obtain⟨s1,s2⟩:=s;cases u with
 |none =>show eh (D.eqv (.tup [.int s1,.int s2]) .non)=_;simp[D.eqv]
 |some p =>
  obtain⟨p0,p1,p2⟩:=p;show eh (D.eqv (.tup [.int s1,.int s2])<|.tup [.int p1,.int p2])=_;congr 1;simp only[D.eqv,D.eqvs,Ζ,ō];by_cases h1:s1=p1
  .subst h1;by_cases h2:s2=p2
   .subst h2;simp
   .have h3:¬ p2=s2:=λz=>h2 z.symm;simp[h2,h3]
  .have h3:¬ p1=s1:=λz=>h1 z.symm;simp[h1,h3]
abbrev Oc(B:Br)(p:Int):Bool:=match B.held.lookup p with
 |none=>ez
 |some q=>if q.1.agrees=eh (B.life,B.version)then gf (B.label.up.map (·.2)=eh q.1.st)else ez
def U2{p:Int}(x:eR h b t d B)(k:Q (.bl<|Oc B p) h):wF P (n+2) "Bridge.is_agreed_to" [.ref b,.int p] h Q X:=by
 obtain⟨hi,ht,hd,Ŵ⟩:=id x;refine YQ ?_
 exists K5 x
 unfold Oc at k;fail;cases e:B.held.lookup p with
 |none =>rw[e]at k;refine fJ (λhc=>?_) λhc=>gc rfl hc;refine fH rfl ?_;refine' k
 |some q =>
  rw[e]at k;obtain⟨l,a⟩:=q;refine fJ (λhc=>by simp[hdO]at hc) λhc=>?_;simp only[hdO]
  exists X5 x
  refine KG (PB h _ _) ?_;refine' AI (λhc=>?_) (λhc=>?_)
  .fail;rw[show(match eh (l,a)with|none=>ez|some q=>if q.1.agrees=eh (B.life,B.version)then gf (B.label.up.map (·.2)=eh q.1.st)else ez)=ez from f7 hc]at k;exact k
  .fail;rw[show(match eh (l,a)with|none=>ez|some q=>if q.1.agrees=eh (B.life,B.version)then gf (B.label.up.map (·.2)=eh q.1.st)else ez)=gf (B.label.up.map (·.2)=eh l.st) from f6 hc]at k;refine Wm (RC h _ _) ?_;exact k
abbrev Ca(B:Br)(p:Int):String:=if(B.ties.lookup p).isSome then(if Fi B.label.up p then(if Oc B p then "child" else "shut")else if JL B p then "parent" else "shut")else "down"
def Ih{p:Int}(x:eR h b t d B)(k:Q (.str<|Ca B p) h):wF P (n+3) "Bridge.end" [.ref b,.int p] h Q X:=by
 obtain⟨hi,ht,hd,Ŵ⟩:=id x;refine Mr ?_
 exists Xn ht rfl
 rw[YN];fail;unfold Ca at k;cases e:(B.ties.lookup p).isSome with
 |false =>rw[e]at k;refine fH rfl ?_;refine' k
 |true =>
  rw[e,f6 rfl]at k;refine fI rfl ?_
  exists Wm (Gu h p B.label.up)
  refine' fK (λhc=>?_) (λhc=>?_)
  .rw[hc,f6 rfl]at k
   exists U2 x
   refine' fK (λhc=>?_) (λhc=>?_)
   .rw[hc]at k;refine' k
   .rw[hc]at k;refine' k
  .rw[hc,f7<|by decide]at k
   exists Ki x
   refine' fK (λhc=>?_) (λhc=>?_)
   .rw[hc]at k;refine' k
   .rw[hc]at k;refine' k
def Zl(q:∀p g,h p=ei->Ext h g->g p=eh o->Q (.ref p) g):new h o Q:=YT λp hp=>q p _ hp (Ext.new hp) eC
variable {r:Int}
def YU(r0:0<=r)(e:xs[r.toNat]?=eh x):atI xs r=eh x:=by have:=(Ð.mp e).1;unfold atI ixN;rw[f6 r0,f6<|by lia];exact e
def BK(r0:0<=r)(r1:r<xs.length):∃x,xs[r.toNat]?=eh x/\x∈xs:=by
 have h:r.toNat<xs.length:=by lia
 exact⟨xs[r.toNat],Ê h,Ŝ h⟩
def Xa(r0:0<=r)(r1:r<xs.length):∃x,atI xs r=eh x/\x∈xs:=by obtain⟨x,h1,h2⟩:=BK r0 r1;exact⟨x,YU r0 h1,h2⟩
def Z7:∀ns:List Int,eN (ns.map .int)=eh ns
 |[]=>rfl
 |n::ns=>by rw[Ï,eN,Z7 ns];rfl
def YE:∀bs:List Bool,blsOf (bs.map .bl)=eh bs
 |[]=>rfl
 |b::bs=>by rw[Ï,blsOf,YE bs];rfl
def mem_dedup{x:Int}:∀{ns:List Int},x∈dedup ns↔x∈ns
 |[]=>by simp[dedup]
 |n::ns=>by rw[dedup,Ç,Ĕ,mem_dedup,Ç];by_cases h:x=n<;>simp[h]
def W8:∀(ns:List Int),(dedup ns).length<=ns.length
 |[]=>by simp[dedup]
 |n::ns=>by have:=W8 ns;have:=ų (λy=>y != n)<|dedup ns;rw[dedup,Ë,Ë];lia
variable {m:Int}
def K3{v:Val}(h:(fm 0 m)[i]?=eh v):v=.int i/\(i:Int)<m:=by unfold fm at h;rw[Ò]at h;obtain⟨k,hk,rfl⟩:=Î.mp h;obtain⟨Ϥ,rfl⟩:=Ð.mp hk;rw[ŕ]at Ϥ;rw[dC];exact⟨by rw[Int.zero_add],by lia⟩
def WE:(fm 0 m).length=m.toNat:=by unfold fm;rw[Ã,ŕ,Int.sub_zero]
abbrev Brs(ns:List Int):Prop:=∀i∈ns,0<=i/\i<1000
noncomputable abbrev Tie:=Int×Int×Int
abbrev trV(t:Tie):Val:=.tup [.int t.1,.int t.2.1,.int t.2.2]
abbrev LOk(ns:List Int)(t:Tie):Prop:=t.1∈ns/\t.2.1∈ns/\t.1<t.2.1/\1<=t.2.2/\t.2.2<=1000
structure fb(bs:List Int)(ts:List Tie):Prop where
 one:1<=bs.length
 ten:bs.length<=10
 rng:Brs bs
 up:bs.Pairwise (· < ·)
 sixteen:ts.length<=16
 tie:∀t∈ts,LOk bs t
abbrev ZP(bs:List Int)(ts:List Tie):Val:=.tup [.tup<|bs.map .int,.tup<|ts.map trV]
variable {ns:List Int}
def mem_sort{i:Int}:i∈sortI ns↔i∈ns:=(Š ns _).mem_iff
def Mc(nd:ns.Nodup):(sortI ns).Pairwise (· < ·):=by have p:=Š ns λa b=>gf (a<=b);have s:(sortI ns).Pairwise λa b=>gf (a<=b)=ej:=bI (λa b c h1 h2=>by simp at *;lia) (λa b=>by simp;lia) ns;have d:(sortI ns).Nodup:=p.nodup_iff.mpr nd;exact(s.and d).imp λ⟨h1,h2⟩=>by simp at h1;lia
def Q3(e:h a=eh (.lst<|ns.map .int))(m:ns.length<64)(q:new h (.lst<|(sortI<|dedup ns).map .int) Q):(biV h .sortedSet [.ref a]).wp h Q:=wp_new (by show biSortedSet h (.ref a)=_;unfold biSortedSet sortOf;simp only[e,eU,ú,Z7];rw[f6 m]) q
def MJ:∀ns:List Int,(dedup ns).Nodup
 |[]=>Į
 |n::ns=>by rw[dedup,ć];refine⟨λz=>?_,(MJ ns).sublist š⟩;have:=(Ĕ.mp z).2;simp at this
def LP(ns:List Int):(sortI<|dedup ns).Pairwise (· < ·):=Mc (MJ ns)
def DA(ns:List Int):(sortI<|dedup ns).Nodup:=(LP ns).imp λh=>by lia
def Le(ns:List Int):(sortI<|dedup ns).length<=ns.length:=by rw[sortI,Œ];exact W8 ns
def IJ(h:1<=ns.length):1<=(sortI<|dedup ns).length:=by
 rw[sortI,Œ];cases ns with
 |nil=>exact gc h (by decide)
 |cons n ns=>rw[dedup,Ë];lia
def sd_mem{i:Int}:i∈sortI (dedup ns)↔i∈ns:=by rw[mem_sort,mem_dedup]
def CL(ns:List Int)(lo hi:Option Int):cut (ns.map Val.int) lo hi=(cut ns lo hi).map Val.int:=by unfold cut;rw[Ã,List.map_take,List.map_drop]
def Ij{a b:Int}(h0:0<=a)(h1:a<=b):cut xs (eh a) (eh b)=(xs.drop a.toNat).take (b.toNat - a.toNat):=by
 unfold cut fq;dsimp only;rw[f6 h0,f6<|by lia];by_cases h:a.toNat<=xs.length
 .rw[aR h];by_cases h2:b.toNat<=xs.length
  .rw[aR h2]
  .rw[Nat.min_eq_right<|by lia];rw[bV (by rw[Ν];lia),bV<|by rw[Ν];lia]
 .rw[Ŏ (by lia:xs.length<=min a.toNat xs.length),Ŏ (by lia:xs.length<=a.toNat)];simp
def Nt{h:Hs}{d:Nat}:∀ns:List Int,(ns.map Val.int).mapM (dat h d)=eh (ns.map D.int)
 |[]=>rfl
 |n::ns=>by rw[Ï,ο,Nt ns,Ï];cases d<;>rfl
def Uc{i:Int}:∀ns:List Int,((ns.map D.int).any λe=>D.eqv e<|.int i)=gf (i∈ns)
 |[]=>by simp
 |n::ns=>by
  rw[Ï,ķ,Uc ns,Uk];by_cases h:n=i
  .simp[h]
  .simp[h,Ne.symm h]
def KK{i:Int}:inL h (.int i) (ns.map .int)=eh (gf (i∈ns)):=by unfold inL;rw[Nt];exact congrArg eh (Uc ns)
def Yu(x:Ext h g)(e:h p=ei):Ext h<|upd g p o:=⟨λ{a u} z=>by rw[eB<|Za z e];exact x.get z⟩
abbrev far(t:Tie)(b:Int):Int:=if t.1=b then t.2.1 else t.1
abbrev fT(b:Int):Nat->List Tie->List Tie
 |_,[]=>[]
 |k,t::r=>if b=t.1\/b=t.2.1 then((k:Int),far t b,t.2.2)::fT b (k+1) r else fT b (k+1) r
def Nz{b:Int}{t:Tie}:∀{l:List Tie}{k:Nat},fT b k (l++[t])=fT b k l++(if b=t.1\/b=t.2.1 then [(((k+l.length:Nat):Int),far t b,t.2.2)]else [])
 |[],k=>by show fT b k [t]=_;unfold fT;split<;>rfl
 |u::l,k=>by
  rw[List.cons_append,fT,fT,Nz,Ë,show k+1+l.length=k+(l.length+1) by lia];by_cases h:b=u.1\/b=u.2.1
  .rw[f6 h,f6 h,List.cons_append]
  .rw[f7 h,f7 h]
def WP:∀{xs:List Val}{k i:Nat}{v:Val},(enumL k xs)[i]?=eh v->∃x,xs[i]?=eh x/\v=.tup [.int ((k+i:Nat):Int),x]
 |[],_,_,_,e=>by simp[enumL]at e
 |x::xs,k,0,v,e=>by have e:eh (Val.tup [.int k,x])=eh v:=e;cases e;exact⟨x,rfl,rfl⟩
 |x::xs,k,i+1,v,e=>by obtain⟨y,h1,h2⟩:=WP (xs:=xs) (k:=k+1) (i:=i) (v:=v) (by simpa[enumL]using e);exact⟨y,by simpa using h1,by rw[h2,show k+1+i=k+(i+1) by lia]⟩
def X3:∀(xs:List Val) (k:Nat),(enumL k xs).length=xs.length
 |[],_=>rfl
 |_::xs,k=>by simp[enumL,X3 xs<|k+1]
def NY{i:Int}(q:KB<|gf (i∈ns)):go (eY h .isin (.int i)<|.tup<|ns.map .int) KB:=eL (by show inV h (.int i) (.tup _)=_;unfold inV;exact KK) q
def H9{i:Int}(q:KB (!gf (i∈ns))):go (eY h .notin (.int i)<|.tup<|ns.map .int) KB:=eL (by show(inV h (.int i)<|.tup _).map _=_;unfold inV;simp only[KK];rfl) q
section
variable {bs:List Int}{ts:List Tie}
def BU{t:Tie}{b:Int}(k:Q (.int<|far t b) h):wF P (n+1) "far_end" [trV t,.int b] h Q X:=by
 obtain⟨x,y,c⟩:=t;unfold trV;unfold far at k;dsimp only at k ⊢;refine UQ ?_;fail;by_cases e:x=b
 .refine fH (f9 e) ?_;rw[f6 e]at k;refine' k
 .refine fI (f8 e) ?_;rw[f7 e]at k;refine' k
def Xo{b:Int}(l:ts.length<=16)(k:∀p g,h p=ei->Ext h g->g p=eh (.lst<|(fT b 0 ts).map trV)->Q (.ref p) g):wF P (n+2) "neighbours" [ZP bs ts,.int b] h Q X:=by
 unfold ZP;refine Mz ?_;refine' Zl λp g0 hp x0 e0=>?_
 exists eL rfl
 have nl:∀l:List Tie,∀k,(fT b k l).length<=l.length:=by
  intro l;induction l with
  |nil=>intro k;exact Ì _
  |cons t l ih =>intro k;have:=ih<|k+1;unfold fT;split<;>simp only[Ë]<;>lia
 refine Zz (λi en g=>Sm2 λv3 v4=>Cj3 (en=[eh<|.tup [.tup<|bs.map .int,.tup<|ts.map trV],eh<|.int b,eh<|.ref p,v3,v4]) (Ext h g)<|g p=eh (.lst<|(fT b 0<|ts.take i).map trV)) ⟨_,_,rfl,x0,e0⟩ (λ_ _ _ _ _=>trivial) ?_ ?_
 .rintro i v en g hv ⟨v3,v4,rfl,x,ep⟩ K hK;obtain⟨y,hy,rfl⟩:=WP hv;rw[Ò]at hy;obtain⟨t,ht,rfl⟩:=Î.mp hy;have hi:i<ts.length:=(Ð.mp ht).1;have hn:fT b 0 (ts.take<|i+1)=fT b 0 (ts.take i)++(if b=t.1\/b=t.2.1 then [((i:Int),far t b,t.2.2)]else []):=by
   rw[ŭ,ht];have:=Nz (b:=b) (t:=t) (l:=ts.take i) (k:=0);rw[ĥ,aR (by lia),ϑ]at this;exact this
  rw[ϑ];have et:trV t=.tup [.int t.1,.int t.2.1,.int t.2.2]:=rfl;fail;rw[et];refine fG (by simp[fq]) ?_;refine NY (ns:=[t.1,t.2.1]) ?_;refine' fJ (λhc=>?_) (λhc=>?_)
  .exists BU (t:=t)
   fail;have hl:=nl (ts.take i) 0;rw[ĥ]at hl;refine Zw ep (by rw[Ã,lim];lia) ?_;refine' hK _ _ ⟨_,_,rfl,?_,?_⟩
   .exact Yu x hp
   .have hc:b=t.1\/b=t.2.1:=by simpa using hc
    rw[hn,f6 hc,ß];exact eC
  .refine' hK _ _ ⟨_,_,rfl,x,?_⟩;have hc:¬ (b=t.1\/b=t.2.1):=by simpa using hc
   rw[hn,f7 hc,Ā];exact ep
 .rintro en g ⟨v3,v4,rfl,x,ep⟩;rw[X3,Ã,ā]at ep;refine' k p g hp x ep
end
abbrev Wn(rs:List Tie):List<|Int×(Int×Int):=rs.map λr=>(r.1,r.2)
def Ut(rs:List Tie):(Wn rs).map (·.1)=rs.map (·.1):=by unfold Wn;rw[õ];rfl
abbrev ZS(own life most:Int)(rs:List Tie):Br:=⟨own,life,most,Wn rs,[],⟨own,0,ei⟩,0,0⟩
variable {own:Int} {life:Int}
def O5{rs:List Tie}(hb:h b=eh (.ins "Bridge" []))(hl:h l=eh (.lst<|rs.map trV))(nd:(rs.map (·.1)).Nodup)(h16:rs.length<=16)
  (k:∀t d g,h t=ei->h d=ei->eR g b t d (ZS own life most rs)->Ex [b] h g->Q .non g):wF P (n+1) "Bridge.__init__" [.ref b,.int own,.int life,.ref l,.int most] h Q X:=by
 have nlb:b≠l:=B9 hb hl nofun;refine JZ ?_;refine' Yg eC (show(1:Nat)<900 by decide) ?_;refine' Yg eC (show(2:Nat)<900 by decide) ?_;fail;intro t ht;rw[eF,eF]at ht ⊢;have ntb:b≠t:=Za eC ht;have nht:h t=ei:=by rw[eB ntb.symm]at ht;exact ht
 have ntl:l≠t:=Za hl nht;refine' Yg (upd_ne' ntb eC) (show(3:Nat)<900 by decide) ?_;fail;have hl1:∀{o1 o2 o3:Ob},upd (upd (upd h b o1) t o2) b o3 l=eh (.lst<|rs.map trV):=λ{_ _ _}=>by rw[eB nlb.symm,eB ntl,eB nlb.symm];exact hl
 refine Zz (λi e g=>Sm3 λu v w=>Cj4 (e=[eh<|.ref b,eh<|.int own,eh<|.int life,eh<|.ref l,eh<|.int most,u,v,w]) (g b=eh (.ins "Bridge" [("number",.int own),("life",.int life),("age_let_go",.int most),("ties_by_place",.ref t)])) (g t=eh (.dct<|Zj UP<|Wn<|rs.take i))<|Ex [b] h g) ⟨ei,ei,ei,rfl,eC,by rw[eB ntb.symm];exact eC,?_⟩ ?_ ?_ ?_
 .refine⟨λ{a o} na e=>?_⟩;have nab:a≠b:=by simpa using na
  rw[eB nab,eB<|Za e nht,eB nab];exact e
 .rintro i e g _ ⟨u,v,w,rfl,h1,h2,h3⟩;exact lsE (h3.get (by simpa using nlb.symm) hl)
 .rintro i v e g hv ⟨u,v,w,rfl,h1,h2,h3⟩ K hK;obtain⟨r,hp,rfl⟩:=Z5 hv;have nk:=YJ nd hp;obtain⟨p,nb,c⟩:=r;unfold trV;refine' Yv (k:=.int p) h2 ⟨rfl,?_⟩ ?_
  .rw[JS];unfold Wn;rw[Ã];exact Ø (Ý (ϛ _ _) h16) (by decide)
  rw[show Val.tup [.int nb,.int c]=UP (nb,c) from rfl,ZW];refine' hK _ _ ⟨_,_,_,rfl,by rw[eB ntb];exact h1,?_,?_⟩
  .rw[eC,XY,Zp hp]
   .unfold Wn;rw[ß];rfl
   .rw[Ut];exact nk
  .exact⟨λna e=>by rw[eB<|Za e nht];exact h3.get na e⟩
 .rintro e g ⟨u,v,w,rfl,h1,h2,h3⟩;rw[Ã,ā]at h2;fail;intro d hd;have ndb:b≠d:=Za h1 hd;have ndt:t≠d:=Za h2 hd;have nhd:h d=ei:=h3.none (by rw[h1];intro z;cases z) hd;refine' Yg eC (show(5:Nat)<900 by decide) ?_;refine' Yg eC (show(6:Nat)<900 by decide) ?_;refine' Yg eC (show(7:Nat)<900 by decide) ?_;fail;rw[eF,eF,eF];refine k t d _ nht nhd ⟨eC,?_,?_,ndt⟩ ?_
  .rw[eB ntb.symm,eB ndt];exact h2
  .rw[eB ndb.symm];exact eC
  .exact(h3.trans<|.of<|Ext.new hd).trans (Ex.upd<|by simp)
def JK{b:Int}:∀{l:List Tie}{k:Nat},((fT b k l).map (·.1)).Pairwise (· < ·)/\∀r∈fT b k l,(k:Int)<=r.1/\r.1<(k+l.length:Nat)
 |[],k=>⟨by simp[fT],λr hr=>gc hr<|by simp[fT]⟩
 |t::l,k=>by
  obtain⟨h1,h2⟩:=JK (b:=b) (l:=l) (k:=k+1);unfold fT;split
  .refine⟨?_,λr hr=>?_⟩
   .rw[Ï,dz];refine⟨λx hx=>?_,h1⟩;obtain⟨r,hr,rfl⟩:=Ú.mp hx;have:=(h2 r hr).1;show(k:Int)<r.1;lia
   .rcases Ç.mp hr with rfl|hr
    .exact⟨Int.le_refl _,by show(k:Int)<((k+(t::l).length:Nat):Int);rw[Ë];lia⟩
    .have:=h2 r hr;rw[Ë];lia
  .refine⟨h1,λr hr=>?_⟩;have:=h2 r hr;rw[Ë];lia
def OX{b:Int}:∀{l:List Tie}{k:Nat},(fT b k l).length<=l.length
 |[],k=>Ì _
 |t::l,k=>by have:=OX (b:=b) (l:=l) (k:=k+1);unfold fT;split<;>simp only[Ë]<;>lia
structure En where
 num:Int
 b:Ad
 t:Ad
 d:Ad
 B:Br
structure Yd where
 y:Ad
 lv:Ad
 st:Ad
 fl:Ad
 rd:Ad
 bs:List Int
 ts:List Tie
 most:Int
 lives:List<|Int×Int
 es:List En
 fallen:List<|Int×Bool
 road:List<|Int×Int×Int×L
abbrev enA(es:List En):List Ad:=es.flatMap λe=>[e.b,e.t,e.d]
abbrev Yd.adr(Y:Yd):List Ad:=[Y.y,Y.lv,Y.st,Y.fl,Y.rd]++enA Y.es
noncomputable abbrev rfV(a:Ad):Val:=.ref a
noncomputable abbrev rdV(r:Int×Int×Int×L):Val:=.tup [.int r.1,.int r.2.1,.int r.2.2.1,r.2.2.2.v]
abbrev stands(es:List En):List<|Int×Ad:=es.map λe=>(e.num,e.b)
def ZF(es:List En):(stands es).map (·.1)=es.map (·.num):=by unfold stands;rw[õ];rfl
structure eS(h:Hs)(Y:Yd):Prop where
 ins:h Y.y=eh (.ins "Yard" [("net_made_of",ZP Y.bs Y.ts),("greatest_age",.int Y.most),("lives",.ref Y.lv),("standing",.ref Y.st),("ties_fallen",.ref Y.fl),("letters_on_road",.ref Y.rd)])
 lives:h Y.lv=eh (.dct<|Zj Val.int Y.lives)
 stand:h Y.st=eh (.dct<|Zj rfV<|stands Y.es)
 fallen:h Y.fl=eh (.dct<|Zj Val.bl Y.fallen)
 road:h Y.rd=eh (.lst<|Y.road.map rdV)
 brs:∀e∈Y.es,eR h e.b e.t e.d e.B
 nd:Y.adr.Nodup
 key:(Y.es.map (·.num)).Nodup
variable {es:List En} {e:En}
def Wc(h:e∈es):e.b∈enA es/\e.t∈enA es/\e.d∈enA es:=by refine⟨?_,?_,?_⟩<;>exact Ş.mpr ⟨e,h,by simp⟩
def X4(es:List En)(e:En):enA (es++[e])=enA es++[e.b,e.t,e.d]:=by unfold enA;rw[Ϩ];simp
variable {Y:Yd}
def eS.keep{S:List Ad}(x:eS h Y)(e:Ex S h g)(ds:∀a∈Y.adr,a∉S):eS g Y:=by have m:∀a∈[Y.y,Y.lv,Y.st,Y.fl,Y.rd],a∉S:=λa ha=>ds a<|Ö _ ha;refine⟨e.get (m _<|by simp) x.ins,e.get (m _<|by simp) x.lives,e.get (m _<|by simp) x.stand,e.get (m _<|by simp) x.fallen,e.get (m _<|by simp) x.road,λb hb=>?_,x.nd,x.key⟩;obtain⟨q1,q2,q3⟩:=Wc hb;exact(x.brs b hb).keep e (ds _<|É _ q1) (ds _<|É _ q2) (ds _<|É _ q3)
def eS.ext(x:eS h Y)(e:Ext h g):eS g Y:=x.keep (S:=[]) (.of e) λ_ _=>by simp
def eS.taken(x:eS h Y)(ha:a∈Y.adr):h a≠ei:=by
 rcases å.mp ha with ha|ha
 .simp only[Ç,Þ,or_false]at ha;rcases ha with rfl|rfl|rfl|rfl|rfl
  .rw[x.ins];simp
  .rw[x.lives];simp
  .rw[x.stand];simp
  .rw[x.fallen];simp
  .rw[x.road];simp
 .obtain⟨e,he,ha⟩:=Ş.mp ha;have:=x.brs e he;simp only[Ç,Þ,or_false]at ha;rcases ha with rfl|rfl|rfl
  .rw[this.ins];simp
  .rw[this.ties];simp
  .rw[this.held];simp
def Yd.sep(nd:Y.adr.Nodup)(ha:a∈[Y.y,Y.lv,Y.st,Y.fl,Y.rd])(hb:b∈enA Y.es):b≠a:=λz=>(æ.mp nd).2.2 a ha b hb z.symm
def Yd.five(nd:Y.adr.Nodup):(Y.y≠Y.lv/\Y.y≠Y.st/\Y.y≠Y.fl/\Y.y≠Y.rd)/\(Y.lv≠Y.st/\Y.lv≠Y.fl/\Y.lv≠Y.rd)/\(Y.st≠Y.fl/\Y.st≠Y.rd)/\Y.fl≠Y.rd:=by have:=(æ.mp nd).1;simp only[ć,Ç,Þ,or_false,not_or,not_false_eq_true,Į,and_true]at this;obtain⟨⟨a1,a2,a3,a4⟩,⟨b1,b2,b3⟩,⟨c1,c2⟩,d1⟩:=this;exact⟨⟨a1,a2,a3,a4⟩,⟨b1,b2,b3⟩,⟨c1,c2⟩,d1⟩
def eR.off(x:eR h e.b e.t e.d e.B)(he:e∈es)(n:∀b∈enA es,b≠a):eR (upd h a o) e.b e.t e.d e.B:=by obtain⟨q1,q2,q3⟩:=Wc he;exact⟨(eB<|n _ q1).trans x.ins,(eB<|n _ q2).trans x.ties,(eB<|n _ q3).trans x.held,x.ne⟩
def eS.setLives(x:eS h Y)(l:List<|Int×Int):eS (upd h Y.lv<|.dct<|Zj Val.int l) {Y with lives:=l}:=by obtain⟨⟨a1,a2,a3,a4⟩,⟨b1,b2,b3⟩,_,_⟩:=Yd.five x.nd;exact⟨(eB a1).trans x.ins,eC,(eB b1.symm).trans x.stand,(eB b2.symm).trans x.fallen,(eB b3.symm).trans x.road,λe he=>(x.brs e he).off he λb hb=>Yd.sep x.nd (by simp) hb,x.nd,x.key⟩
def eS.setRoad(x:eS h Y)(l:List<|Int×Int×Int×L):eS (upd h Y.rd<|.lst<|l.map rdV) {Y with road:=l}:=by obtain⟨⟨a1,a2,a3,a4⟩,⟨b1,b2,b3⟩,⟨c1,c2⟩,d1⟩:=Yd.five x.nd;exact⟨(eB a4).trans x.ins,(eB b3).trans x.lives,(eB c2).trans x.stand,(eB d1).trans x.fallen,eC,λe he=>(x.brs e he).off he λb hb=>Yd.sep x.nd (by simp) hb,x.nd,x.key⟩
def eS.stands(x:eS h Y)(hb:eR h e.b e.t e.d e.B)(hn:e.num∉Y.es.map (·.num))(fr:∀a∈[e.b,e.t,e.d],a∉Y.adr):eS (upd h Y.st<|.dct<|Zj rfV<|stands<|Y.es++[e]) {Y with es:=Y.es++[e]}:=by
 obtain⟨⟨a1,a2,a3,a4⟩,⟨b1,b2,b3⟩,⟨c1,c2⟩,d1⟩:=Yd.five x.nd;have ſ:Y.st∈Y.adr:=Ö _ (by simp);have nb:∀a∈enA (Y.es++[e]),a≠Y.st:=λa ha=>by
  rw[X4]at ha;rcases å.mp ha with ha|ha
  .exact Yd.sep x.nd (by simp) ha
  .exact λz=>fr a ha<|z▸ſ
 refine⟨(eB a2).trans x.ins,(eB b1).trans x.lives,eC,(eB c1.symm).trans x.fallen,(eB c2.symm).trans x.road,λq hq=>?_,?_,?_⟩
 .refine eR.off ?_ hq nb;rcases å.mp hq with hq|hq
  .exact x.brs q hq
  .rw[â.mp hq];exact hb
 .show([Y.y,Y.lv,Y.st,Y.fl,Y.rd]++enA (Y.es++[e])).Nodup;rw[X4,<-ı,æ];refine⟨x.nd,?_,λa ha b hb z=>fr b hb<|z▸ha⟩;simp[hb.nbt,hb.nbd,hb.ne]
 .show((Y.es++[e]).map (·.num)).Nodup;rw[ß,æ];refine⟨x.key,by simp,λa ha b hb=>?_⟩;have:b=e.num:=by simpa using hb
  rw[this];exact λz=>hn<|z▸ha
def WA{h0:Hs}{fs:List (String×Val)}{f:String}{K:Hs->Prop}(i:g p=eh (.ins "Yard" fs))(x:Ex [p] h0 g)(hp:h0 p=ei)(ha:g a=ei)(m:fs.length<900)(q:∀g',g' p=eh (.ins "Yard"<|eX fs f<|.ref a)->g' a=eh o->Ex [p] h0 g'->Ex [p] g g'->p≠a->h0 a=ei->K g'):go (fA (upd g a o) (.ref p) f<|.ref a) K:=by
 have n:=Za i ha;have y:Ex [p] g<|upd (upd g a o) p<|.ins "Yard"<|eX fs f<|.ref a:=⟨λ{b u} nb e=>by rw[eB λz=>nb<|by simp[z],eB<|Za e ha];exact e⟩
 refine Yg (upd_ne' n i) m<|q _ eC ((eB n.symm).trans eC) (x.trans y) y n ?_;cases z:h0 a with
 |none=>rfl
 |some u=>rw[x.get (by simpa using n.symm) z]at ha;cases ha
structure YNew(bs:List Int)(ts:List Tie)(most:Int)(Y:Yd):Prop where
 hb:Y.bs=bs
 ht:Y.ts=ts
 hm:Y.most=most
 num:Y.es.map (·.num)=bs
 br:∀e∈Y.es,e.B=ZS e.num 0 most (fT e.num 0 ts)
 fallen:Y.fallen=[]
 road:Y.road=[]
 lives:Y.lives=bs.map λb=>(b,0)
section
variable {bs:List Int}{ts:List Tie}
def Dl(no:fb bs ts)(hp:h p=ei)(k:∀Y g,Y.y=p->eS g Y->YNew bs ts most Y->(∀a∈Y.adr,h a=ei)->Ext h g->Q .non g):wF P (n+3) "Yard.__init__" [.ref p,ZP bs ts,.int most] (upd h p<|.ins "Yard" []) Q X:=by
 have h10:=no.ten;have h16:=no.sixteen;have hbl:(bs.map Val.int).length=bs.length:=Ã _;have ndb:bs.Nodup:=no.up.imp λh=>by lia
 refine Nh ?_;refine' Yg eC (show(1:Nat)<900 by decide) ?_;rw[eF,eF];have i1:=eC (h:=h) (a:=p) (o:=Ob.ins "Yard"<|eX (eX [] "net_made_of"<|ZP bs ts) "greatest_age"<|.int most);have x1:Ex [p] h<|upd h p<|Ob.ins "Yard"<|eX (eX [] "net_made_of"<|ZP bs ts) "greatest_age"<|.int most:=Ex.upd (by simp);generalize upd h p (Ob.ins "Yard"<|eX (eX [] "net_made_of"<|ZP bs ts) "greatest_age"<|.int most)=g1 at i1 x1 ⊢;fail;intro lv hlv;refine' WA i1 x1 hp hlv (show(2:Nat)<900 by decide) λg2 i2 lv2 x2 y2 nlv flv=>?_;fail;intro st ſ;refine' WA i2 x2 hp ſ (show(3:Nat)<900 by decide) λg3 i3 st3 x3 y3 nst fst=>?_;fail;intro fl hfl;refine' WA i3 x3 hp hfl (show(4:Nat)<900 by decide) λg4 i4 fl4 x4 y4 nfl ffl=>?_;refine' YT λrd hrd=>?_;refine' WA i4 x4 hp hrd (show(5:Nat)<900 by decide) λg5 i5 rd5 x5 y5 nrd frd=>?_;have q1:lv≠st:=Za lv2 ſ;have lv3:=y3.get (by simpa using nlv.symm) lv2;have q2:lv≠fl:=Za lv3 hfl;have q3:st≠fl:=Za st3 hfl;have lv4:=y4.get (by simpa using nlv.symm) lv3;have st4:=y4.get (by simpa using nst.symm) st3;have q4:lv≠rd:=Za lv4 hrd;have q5:st≠rd:=Za st4 hrd;have q6:fl≠rd:=Za fl4 hrd;have lv5:=y5.get (by simpa using nlv.symm) lv4;have st5:=y5.get (by simpa using nst.symm) st4;have fl5:=y5.get (by simpa using nfl.symm) fl4;have xe:Ext h g5:=⟨λ{a o} e=>x5.get (by simpa using Za e hp) e⟩
 have Y0:eS g5 ⟨p,lv,st,fl,rd,bs,ts,most,[],[],[],[]⟩:=⟨i5,lv5,st5,fl5,rd5,(λe he=>gc he Þ),by
   show([p,lv,st,fl,rd]++[]).Nodup
   simp[nlv,nst,nfl,nrd,q1,q2,q3,q4,q5,q6],Į⟩
 exists eM (xs:=[.tup<|bs.map .int,.tup<|ts.map trV]) (v:=.tup<|bs.map .int) rfl
 refine' Zz (λi en g=>Sm3 λv3 lvs es=>Cj7 (en=[eh<|.ref p,eh<|ZP bs ts,eh<|.int most,v3]) (eS g ⟨p,lv,st,fl,rd,bs,ts,most,lvs,es,[],[]⟩) (lvs=(bs.take i).map (λb=>(b,0))) (es.map (·.num)=bs.take i) ((∀e∈es,e.B=ZS e.num 0 most (fT e.num 0 ts))) ((∀a∈[p,lv,st,fl,rd]++enA es,h a=ei))<|Ext h g) ⟨_,[],[],rfl,Y0,rfl,rfl,(λe he=>gc he Þ),?_,xe⟩ (λ_ _ _ _ _=>trivial) ?_ ?_
 .intro a ha;simp only[enA,List.flatMap_nil,Ā,Ç,Þ,or_false]at ha;rcases ha with rfl|rfl|rfl|rfl|rfl<;>assumption
 .rintro i v en g hv ⟨v3,lvs,es,rfl,Y,hlv,hnum,hbr,bG,x⟩ K hK;obtain⟨b,hb,rfl⟩:=Z5 hv;have hi:i<bs.length:=(Ð.mp hb).1;have hnb:b∉es.map (·.num):=by
   rw[hnum];intro m;have:=YJ (f:=id) (by rw[Ϝ];exact ndb) hb;rw[Ϝ]at this;exact this m
  have hll:lvs.length<=10:=by rw[hlv,Ã,ĥ];lia
  have hkl:b∉lvs.map (·.1):=by rw[hlv,õ,show((λq:Int×Int=>q.1) ∘ λb:Int=>(b,(0:Int)))=id from rfl,Ϝ,<-hnum];exact hnb
  have hesl:es.length<=10:=by rw[<-Ã (f:=(·.num)) (as:=es),hnum,ĥ];lia
  obtain⟨yi,yl,ys,yf,yr,yb,ynd,yk⟩:=id Y;dsimp only at yi yl ys yf yr yb;refine' Yv (k:=.int b) yl ⟨rfl,by rw[JS];exact Ø hll<|by decide⟩ ?_;rw[ZW (val:=Val.int)];have Y1:=Y.setLives<|Zu lvs b 0;have x1:Ext h<|upd g lv<|.dct<|Zj Val.int<|Zu lvs b 0:=⟨λe=>by rw[eB<|Za e flv];exact x.get e⟩
  dsimp only at Y1;generalize upd g lv (.dct<|Zj Val.int<|Zu lvs b 0)=g6 at Y1 x1;obtain⟨zi,zl,zs,zf,zr,zb,znd,zk⟩:=id Y1;dsimp only at zi zl zs zf zr zb;refine' Xo h16 λpn g7 hpn x7 en=>?_;have Y7:=Y1.ext x7;fail;intro q hq;have nr:=JK (b:=b) (l:=ts) (k:=0);have nl:=OX (b:=b) (l:=ts) (k:=0);have xq:Ext g7<|upd g7 q<|.ins "Bridge" []:=Ext.new hq;have eq:(upd g7 q<|.ins "Bridge" []) q=eh (.ins "Bridge" []):=eC;refine O5 (rs:=fT b 0 ts) eq (xq.get en) (nr.1.imp λz=>by lia) (by lia) λt d g8 ht hd ba x8=>?_;have x78:Ext g7 g8:=⟨λ{a o} e=>x8.get (by simpa using Za e hq)<|xq.get e⟩
  have Y8:=Y7.ext x78;have ht7:g7 t=ei:=by cases z:g7 t with|none=>rfl|some o=>rw[xq.get z]at ht;cases ht
  have hd7:g7 d=ei:=by cases z:g7 d with|none=>rfl|some o=>rw[xq.get z]at hd;cases hd
  refine⟨rfl,?_⟩;obtain⟨wi,wl,ws,wf,wr,wb,wnd,wk⟩:=id Y8;dsimp only at wi wl ws wf wr wb;refine' Yv (k:=.int b) ws ⟨rfl,by rw[JS];unfold stands;rw[Ã];exact Ø hesl<|by decide⟩ ?_;rw[ZW (val:=rfV),XY _<|by rw[ZF];exact hnb];have ſ:stands es++[(b,q)]=stands (es++[⟨b,q,t,d,ZS b 0 most<|fT b 0 ts⟩]):=by unfold stands;rw[ß];rfl
  rw[ſ];have fr:∀a∈[q,t,d],g7 a=ei:=λa ha=>by simp only[Ç,Þ,or_false]at ha;rcases ha with rfl|rfl|rfl<;>assumption
  have Y9:=Y8.stands (e:=⟨b,q,t,d,ZS b 0 most<|fT b 0 ts⟩) ba hnb λa ha z=>Y7.taken z<|fr a ha;fail;have x9:Ext h g8:=(x1.trans x7).trans x78;refine hK _ _ ⟨_,_,_,rfl,Y9,?_,?_,?_,?_,⟨λe=>by rw[eB<|Za e fst];exact x9.get e⟩⟩
  .show Zu lvs b 0=_;rw[XY _ hkl,hlv,Zp hb,ß];rfl
  .rw[ß,hnum,ŭ,hb];rfl
  .intro e he;rcases å.mp he with he|he
   .exact hbr e he
   .rw[â.mp he]
  .intro a ha;rw[X4,<-ı]at ha;rcases å.mp ha with ha|ha
   .exact bG a ha
   .cases z:h a with
    |none=>rfl
    |some o=>have:=fr a ha;rw[(x1.trans x7).get z]at this;cases this
 .rintro en g ⟨v3,lvs,es,rfl,Y,hlv,hnum,hbr,bG,x⟩;rw[hbl,ā]at hnum hlv;refine' k _ g rfl Y ⟨rfl,rfl,rfl,hnum,hbr,rfl,rfl,hlv⟩ bG x
end
abbrev HK(ts:List Tie)(p num:Int):Int:=far (ts[p.toNat]?.getD (0,0,0)) num
abbrev Z9(ts:List Tie)(num:Int)(B:Br):List<|Int×Int×Int×L:=(sortI (B.ties.map (·.1))).map λp=>(num,HK ts p num,p,ZC B p)
def Xc{num:Int}(h:(stands es).lookup num=eh b):∃e pre Ĺ,es=pre++e::Ĺ/\e.num=num/\e.b=b:=by have:=Zx h;unfold stands at this;obtain⟨e,he,z⟩:=Ú.mp this;obtain⟨pre,Ĺ,rfl⟩:=dD he;injection z with z1 z2;exact⟨e,pre,Ĺ,rfl,z1,z2⟩
def YB(pre Ĺ:List En)(e:En):enA (pre++e::Ĺ)=enA pre++([e.b,e.t,e.d]++enA Ĺ):=by unfold enA;rw[Ϩ];rfl
variable {Ĺ:List En}
def eS.change{pre:List En}(x:eS h Y)(he:Y.es=pre++e::Ĺ)(ex:Ex [e.b] h g)(hb:eR g e.b t d B)(ft:t=e.t\/h t=ei)(fd:d=e.d\/h d=ei):eS g {Y with es:=pre++⟨e.num,e.b,t,d,B⟩::Ĺ}:=by
 obtain⟨y,lv,st,fl,rd,bs,ts,most,lives,es,fallen,road⟩:=Y;dsimp only at he;subst he;have hm:e∈pre++e::Ĺ:=by simp
 have heA:=Wc hm;have nb:∀a∈[y,lv,st,fl,rd],a∉[e.b]:=λa ha z=>Yd.sep x.nd ha heA.1 (â.mp z).symm;have nd0:([y,lv,st,fl,rd]++(enA pre++([e.b,e.t,e.d]++enA Ĺ))).Nodup:=by rw[<-YB];exact x.nd
 have key:∀q∈pre++Ĺ,eR g q.b q.t q.d q.B:=λq hq=>by
  have hq':q∈pre++e::Ĺ:=by
   rcases å.mp hq with z|z
   .exact Ö _ z
   .exact É _<|Ü _ z
  have nq:∀a∈[q.b,q.t,q.d],a≠e.b:=λa ha z=>by
   have n1:=(æ.mp nd0).2.1;rcases å.mp hq with hq|hq
   .have ha':a∈enA pre:=Ş.mpr ⟨q,hq,ha⟩;exact(æ.mp n1).2.2 a ha' e.b (by simp) z
   .have ha':a∈enA Ĺ:=Ş.mpr ⟨q,hq,ha⟩;have n2:=(æ.mp n1).2.1;exact(æ.mp n2).2.2 e.b (by simp) a ha' z.symm
  exact(x.brs q hq').keep ex (by simpa using nq _ (by simp)) (by simpa using nq _ (by simp)) (by simpa using nq _ (by simp))
 have tk:∀a∈[y,lv,st,fl,rd]++(enA pre++([e.b,e.t,e.d]++enA Ĺ)),h a≠ei:=λa ha=>x.taken (by show a∈[y,lv,st,fl,rd]++enA (pre++e::Ĺ);rw[YB];exact ha);have fr:∀{a c:Ad},(a=c\/h a=ei)->∀z,z∈[y,lv,st,fl,rd]++(enA pre++([e.b,e.t,e.d]++enA Ĺ))->z≠c->z≠a:=λf z hz nc e=>by
  subst e;rcases f with f|f
  .exact nc f
  .exact tk z hz f
 refine⟨ex.get (nb _<|by simp) x.ins,ex.get (nb _<|by simp) x.lives,?_,ex.get (nb _<|by simp) x.fallen,ex.get (nb _<|by simp) x.road,λq hq=>?_,?_,?_⟩
 .have:=ex.get (nb st<|by simp) x.stand;dsimp only at this ⊢;rw[this];unfold O.stands;simp
 .dsimp only at hq;rcases å.mp hq with z|z
  .exact key q<|Ö _ z
  .rcases Ç.mp z with rfl|z
   .exact hb
   .exact key q<|É _ z
 .show([y,lv,st,fl,rd]++enA (pre++⟨e.num,e.b,t,d,B⟩::Ĺ)).Nodup;rw[YB];dsimp only;have n1:=æ.mp nd0;have n2:=æ.mp n1.2.1;have n3:=æ.mp n2.2.1;have e3:e.b≠e.t/\e.b≠e.d/\e.t≠e.d:=by
   have:=n3.1;simp only[ć,Ç,Þ,or_false,not_or,Į,and_true,not_false_eq_true]at this;exact⟨this.1.1,this.1.2,this.2⟩
  have out:∀z,z∈[y,lv,st,fl,rd]\/z∈enA pre\/z∈enA Ĺ->z∉[e.b,t,d]:=λz hz m=>by
   have hza:z∈[y,lv,st,fl,rd]++(enA pre++([e.b,e.t,e.d]++enA Ĺ)):=by
    rcases hz with q|q|q
    .exact Ö _ q
    .exact É _<|Ö _ q
    .exact É _<|É _<|É _ q
   have nz:∀c∈[e.b,e.t,e.d],z≠c:=λc hc w=>by
    rcases hz with q|q|q
    .exact n1.2.2 z q c (É _<|Ö _ hc) w
    .exact n2.2.2 z q c (Ö _ hc) w
    .exact n3.2.2 c hc z q w.symm
   simp only[Ç,Þ,or_false]at m;rcases m with m|m|m
   .exact nz e.b (by simp) m
   .exact fr ft z hza (nz e.t<|by simp) m
   .exact fr fd z hza (nz e.d<|by simp) m
  refine æ.mpr ⟨n1.1,æ.mpr ⟨n2.1,æ.mpr ⟨?_,n3.2.1,λa ha b hb z=>out b (.inr<|.inr hb)<|z▸ha⟩,λa ha b hb z=>?_⟩,λa ha b hb z=>?_⟩
  .simp[hb.nbt,hb.nbd,hb.ne]
  .rcases å.mp hb with q|q
   .exact out a (.inr<|.inl ha)<|z▸q
   .exact n2.2.2 a ha b (É _ q) z
  .rcases å.mp hb with q|q
   .exact n1.2.2 a ha b (Ö _ q) z
   .rcases å.mp q with q|q
    .exact out a (.inl ha)<|z▸q
    .exact n1.2.2 a ha b (É _<|É _ q) z
 .have:=x.key;simpa using this
def eS.inner{pre:List En}(x:eS h Y)(he:Y.es=pre++e::Ĺ)(ex:Ex [e.b,e.t,e.d] h g)(hb:eR g e.b e.t e.d B):eS g {Y with es:=pre ++ {e with B:=B} :: Ĺ}:=by
 obtain⟨y,lv,st,fl,rd,bs,ts,most,lives,es,fallen,road⟩:=Y;dsimp only at he;subst he;have nd0:([y,lv,st,fl,rd]++(enA pre++([e.b,e.t,e.d]++enA Ĺ))).Nodup:=by rw[<-YB];exact x.nd
 have n1:=æ.mp nd0;have n2:=æ.mp n1.2.1;have n3:=æ.mp n2.2.1;have nb:∀a∈[y,lv,st,fl,rd],a∉[e.b,e.t,e.d]:=λa ha z=>n1.2.2 a ha a (É _<|Ö _ z) rfl;have key:∀q,q∈pre\/q∈Ĺ->eR g q.b q.t q.d q.B:=λq hq=>by
  have hq':q∈pre++e::Ĺ:=by
   rcases hq with z|z
   .exact Ö _ z
   .exact É _<|Ü _ z
  have nq:∀a∈[q.b,q.t,q.d],a∉[e.b,e.t,e.d]:=λa ha z=>by
   rcases hq with hq|hq
   .exact n2.2.2 a (Ş.mpr ⟨q,hq,ha⟩) a (Ö _ z) rfl
   .exact n3.2.2 a z a (Ş.mpr ⟨q,hq,ha⟩) rfl
  exact(x.brs q hq').keep ex (nq _<|by simp) (nq _<|by simp) (nq _<|by simp)
 refine⟨ex.get (nb _<|by simp) x.ins,ex.get (nb _<|by simp) x.lives,?_,ex.get (nb _<|by simp) x.fallen,ex.get (nb _<|by simp) x.road,λq hq=>?_,?_,?_⟩
 .have:=ex.get (nb st<|by simp) x.stand;dsimp only at this ⊢;rw[this];unfold O.stands;simp
 .dsimp only at hq;rcases å.mp hq with z|z
  .exact key q<|.inl z
  .rcases Ç.mp z with rfl|z
   .exact hb
   .exact key q<|.inr z
 .show([y,lv,st,fl,rd]++enA (pre ++ {e with B:=B} :: Ĺ)).Nodup;rw[YB];exact nd0
 .have:=x.key;dsimp only at this ⊢;simpa using this
def Ig{xs:List Val}{v:Val}{p:Nat}{K:Val×Hs->Prop}(e1:h a=eh (.lst xs))(e:xs[p]?=eh v)(m:xs.length<=500000)(q:K (v,upd h a<|.lst<|xs.eraseIdx p)):go (bmV h .popAt (.ref a) [.int p]) K:=by
 have hp:p<xs.length:=(Ð.mp e).1;have h1:-(2 ^ 62)<(p:Int)/\(p:Int)<2 ^ 62:=by
  have:(p:Int)<500000:=by lia
  exact⟨Int.lt_of_lt_of_le (by decide:(-(2 ^ 62):Int)<0)<|ee p,Int.lt_trans this<|by decide⟩
 have h2:ixN xs.length (p:Int)=eh p:=by unfold ixN;rw[f6<|ee p,f6 (by lia),á]
 have h3:bmPopAt h [.int p] a xs=eh (v,upd h a<|.lst<|xs.eraseIdx p):=by unfold bmPopAt;dsimp only;rw[f6 h1,h2];simp only[ú,e,ō]
 exact eL (by show(eU<|h a).bind (bmPopAt h [.int p] a)=_;rw[lsE e1,ú];exact h3) q
def KC{α β:Type}(f:α->β):∀(l:List α) (i:Nat),(l.map f).eraseIdx i=(l.eraseIdx i).map f
 |[],_=>by simp
 |_::_,0=>by simp
 |x::l,i+1=>by simp[KC f l i]
section
variable {Y:Yd}{p:Nat}
variable {r:Int×Int×Int×L}
def Xv(x:eS h Y)(hr:Y.road[p]?=eh r)(hl:Y.road.length<=500000)(k:∀g,eS g {Y with road:=Y.road.eraseIdx p}->Ex [Y.rd] h g->Q (rdV r) g):wF P (n+1) "Yard.take_off" [.ref Y.y,.int p] h Q X:=by have xi:=x.ins;have xr:=x.road;have hp:p<Y.road.length:=(Ð.mp hr).1;have hrl:(Y.road.map rdV).length=Y.road.length:=Ã _;refine Wy ?_;fail;refine fH (by simp) ?_;fail;refine fI (by rw[hrl];simpa using hp) ?_;refine' Ig xr (by rw[Ò,hr];rfl) (by lia) ?_;rw[KC];exact k _ (x.setRoad _) (Ex.upd<|by simp)
def El{pre:List En}(x:eS h Y)(hr:Y.road[p]?=eh r)(hl:Y.road.length<=500000)(he:Y.es=pre++e::Ĺ)(hg:r.2.1=e.num)(o:e.B.ok)
  (k:∀g,eS g {Y with es:=pre ++ {e with B:=Yb e.B r.2.2.1 r.2.2.2} :: Ĺ,road:=Y.road.eraseIdx p}->Ex Y.adr h g->Q .non g):wF P (n+3) "Yard.come" [.ref Y.y,.int p] h Q X:=by
 have xi:=x.ins;have hm:e∈Y.es:=by rw[he];simp
 have lk:(stands Y.es).lookup r.2.1=eh e.b:=by rw[hg];exact WJ (by rw[ZF];exact x.key)<|Ú.mpr ⟨e,hm,rfl⟩
 refine Wt ?_;refine' Xv x hr hl λg1 y1 x1=>?_;have yi:=y1.ins;have ys:=y1.stand;have ba:=y1.brs e hm;have bi:=ba.ins;dsimp only at yi ys;obtain⟨rs,rg,rt,rl⟩:=r;dsimp only at lk hg k
 exists WZ ys rfl
 rw[YN,lk];walk_at "p";refine ZU ys rfl (by rw[Z1,lk];rfl) ?_;refine' FN ba o λg2 b2 x2=>?_;have y2:=y1.inner (e:=e) he (x2.sub<|by simp) b2;have mA:=Wc hm;refine' k g2 y2 ((x1.sub λa ha=>?_).trans<|x2.sub λa ha=>?_)
 .rw[â.mp ha];exact Ö _ (by simp)
 .rw[â.mp ha];exact É _ mA.2.2
def Cc(x:eS h Y)(hr:Y.road[p]?=eh r)(hl:Y.road.length<=500000)(hg:r.2.1∉Y.es.map (·.num))
  (k:∀g,eS g {Y with road:=Y.road.eraseIdx p}->Ex Y.adr h g->Q .non g):wF P (n+3) "Yard.come" [.ref Y.y,.int p] h Q X:=by
 have xi:=x.ins;have lk:(stands Y.es).lookup r.2.1=ei:=by
  cases z:(stands Y.es).lookup r.2.1 with
  |none=>rfl
  |some q =>have:=ÿ (f:=(·.1))<|Zx z;rw[ZF]at this;exact gc this hg
 refine Wt ?_;refine' Xv x hr hl λg1 y1 x1=>?_;have yi:=y1.ins;have ys:=y1.stand;dsimp only at yi ys;obtain⟨rs,rg,rt,rl⟩:=r;dsimp only at lk hg k
 exists WZ ys rfl
 rw[YN,lk];walk_at "p";exact k g1 y1 (x1.sub λa ha=>by rw[â.mp ha];exact Ö _<|by simp)
end
abbrev Z6(k:Int)(F:Br->Br)(es:List En):List En:=es.map λe=>if e.num=k then {e with B:=F e.B} else e
def XJ{k:Int}{F:Br->Br}:∀{es:List En},k∉es.map (·.num)->Z6 k F es=es
 |[],_=>rfl
 |e::es,h=>by rw[Ï,Ç,not_or]at h;unfold Z6;rw[Ï,f7 λz=>h.1 z.symm];exact congrArg (e :: ·)<|XJ h.2
variable {F:Br->Br}
def MD{pre:List En}(nd:((pre++e::Ĺ).map (·.num)).Nodup):Z6 e.num F (pre++e::Ĺ)=pre ++ {e with B:=F e.B} :: Ĺ:=by rw[ß,Ï,æ,ć]at nd;have h1:Z6 e.num F pre=pre:=XJ λz=>nd.2.2 _ z e.num (by simp) rfl;have h2:Z6 e.num F Ĺ=Ĺ:=XJ nd.2.1.1;unfold Z6 at h1 h2 ⊢;rw[ß,Ï,h1,h2,f6 rfl]
def M2{k:Int}(es:List En):(Z6 k F es).map (·.num)=es.map (·.num):=by unfold Z6;rw[õ];refine ğ λe _=>?_;show(if e.num=k then({e with B:=F e.B}:En)else e).num=e.num;split<;>rfl
def M3{k:Int}(es:List En):stands (Z6 k F es)=stands es:=by unfold Z6 stands;rw[õ];refine ğ λe _=>?_;show((if e.num=k then({e with B:=F e.B}:En)else e).num,(if e.num=k then({e with B:=F e.B}:En)else e).b)=_;split<;>rfl
def X8{k:Int}{F:Br->Br}:∀es:List En,enA (Z6 k F es)=enA es
 |[]=>rfl
 |e::es=>by have:=X8 (k:=k) (F:=F) es;unfold Z6 enA at this ⊢;rw[Ï,Ů,Ů,this];split<;>rfl
def Nd{k:Int}{q:En}(h:q∈Z6 k F es):(q∈es/\q.num≠k)\/∃e∈es,e.num=k/\q={e with B:=F e.B}:=by
 obtain⟨e,he,rfl⟩:=Ú.mp h;by_cases z:e.num=k
 .right;exact⟨e,he,z,by rw[f6 z]⟩
 .left;rw[f7 z];exact⟨he,z⟩
abbrev tieF(on:Bool)(p:Int)(far c:Int)(B:Br):Br:=if on then upB B p (far,c)else B6 B p
abbrev setT(on:Bool)(p:Int)(t:Tie)(es:List En):List En:=Z6 t.2.1 (tieF on p t.1 t.2.2)<|Z6 t.1 (tieF on p t.2.1 t.2.2) es
abbrev onT(Y:Yd)(p:Int)(t:Tie):Bool:=!(Y.fallen.lookup p).isSome&&(((stands Y.es).lookup t.1).isSome&&((stands Y.es).lookup t.2.1).isSome)
section
variable {Y:Yd}
def eS.one(x:eS h Y)(he:e∈Y.es)(ex:Ex [e.b,e.t,e.d] h g)(hb:eR g e.b e.t e.d<|F e.B):eS g {Y with es:=Z6 e.num F Y.es}:=by obtain⟨pre,Ĺ,hs⟩:=dD he;have k:=x.key;rw[hs]at k;rw[hs,MD k];exact x.inner hs ex hb
end
noncomputable abbrev D6:Ss:=#[.ite (.val<|.var 5) #[.expr<|.meth "Bridge" "up" (.idx (.fld (.var 0) "standing")<|.var 6) #[.var 1,.var 7,.var 4]] #[.ite (.val<|.cmp .isin (.var 6)<|.fld (.var 0) "standing") #[.expr<|.meth "Bridge" "down" (.idx (.fld (.var 0) "standing")<|.var 6) #[.var 1]] .nil]]
section
variable {Y:Yd}
def K6{p:Nat}{t1 t2:Int}{on:Bool}{v6 v7:Option Val}{R:NQ}(x:eS h Y)(hn:t1≠t2)(gd:∀e∈Y.es,e.B.ok)(hon:∀near far:Int,(near=t1/\far=t2\/near=t2/\far=t1)->on=ej->∃b,(stands Y.es).lookup near=eh b)
  (k:∀g e,eS g {Y with es:=setT on p (t1,t2,c) Y.es}->Ex Y.adr h g->R e g) :
  wFor (λ_=>True) (λv e g K M=>go (bind (.many [6,7]) g v e) λe2=>wSs (wF P<|n+1) D6 e2 g K Q M K λ_ c g=>X c g) R [.tup [.int t1,.int t2],.tup [.int t2,.int t1]] [eh<|.ref Y.y,eh<|.int p,eh<|.int t1,eh<|.int t2,eh<|.int c,eh<|.bl on,v6,v7] h:=by
 refine Zz (λi e g=>∃v6 v7 es',e=[eh<|.ref Y.y,eh<|.int p,eh<|.int t1,eh<|.int t2,eh<|.int c,eh<|.bl on,v6,v7]/\eS g {Y with es:=es'}/\Ex Y.adr h g/\(i=0->es'=Y.es)/\(i=1->es'=Z6 t1 (tieF on p t2 c) Y.es)/\(i=2->es'=setT on p (t1,t2,c) Y.es)) ⟨_,_,Y.es,rfl,x,Ex.refl,λ_=>rfl,λz=>(by cases z),λz=>(by cases z)⟩ (λ_ _ _ _ _=>trivial) ?_ ?_
 .rintro i v e g hv ⟨u6,u7,es',rfl,y,xg,q0,q1,q2⟩ K hK;obtain⟨near,far,rfl,hnf,ſ,heA,hgd,hnext⟩:∃near far,v=.tup [.int near,.int far]/\(near=t1/\far=t2\/near=t2/\far=t1)/\stands es'=stands Y.es/\enA es'=enA Y.es/\(∀e∈es',e.num=near->e.B.ok)/\∀dj,dj=Z6 near (tieF on p far c) es'->(i+1=0->dj=Y.es)/\(i+1=1->dj=Z6 t1 (tieF on p t2 c) Y.es)/\(i+1=2->dj=setT on p (t1,t2,c) Y.es):=by
   match i,hv with
   |0,hv =>cases hv;have:=q0 rfl;subst this;exact⟨t1,t2,rfl,.inl ⟨rfl,rfl⟩,rfl,rfl,λe he _=>gd e he,λdj z=>⟨λy=>(by cases y),λ_=>z,λy=>(by cases y)⟩⟩
   |1,hv =>
    cases hv;have:=q1 rfl;subst this;refine⟨t2,t1,rfl,.inr ⟨rfl,rfl⟩,M3 _,X8 _,λe he hz=>?_,λdj z=>⟨λy=>(by cases y),λy=>(by cases y),λ_=>z⟩⟩;rcases Nd he with⟨hm,_⟩|⟨q,hq,hq1,hq2⟩
    .exact gd e hm
    .exact gc (by rw[hq2]at hz;exact hq1.symm.trans hz) hn
   |i+2,hv=>simp at hv
  have yi:=y.ins;have ys:=y.stand;dsimp only at yi ys;have step:∀{e:En}{g':Hs},e∈es'->e.num=near->Ex [e.b,e.t,e.d] g g'->eR g' e.b e.t e.d (tieF on p far c e.B)->∀w6 w7,K [eh<|.ref Y.y,eh<|.int p,eh<|.int t1,eh<|.int t2,eh<|.int c,eh<|.bl on,w6,w7] g':=λ{e g'} he Ŵ ex hb w6 w7=>by
   have y':=y.one (F:=tieF on p far c) he ex hb;rw[Ŵ]at y';have mA:=Wc he;refine hK _ _ ⟨w6,w7,_,rfl,y',xg.trans<|ex.sub λa ha=>?_,hnext _ rfl⟩;refine É _ ?_;rw[<-heA];simp only[Ç,Þ,or_false]at ha;rcases ha with rfl|rfl|rfl
   .exact mA.1
   .exact mA.2.1
   .exact mA.2.2
  fail;cases hob:on with
  |true =>
   obtain⟨b,lk⟩:=hon near far hnf hob;rw[<-ſ]at lk;obtain⟨e,pre,Ĺ,hs,Ŵ,hbb⟩:=Xc lk;have hm:e∈es':=by rw[hs];simp
   have ba:=y.brs e hm;have bi:=ba.ins;subst hbb;refine fH rfl ?_;refine' ZU ys rfl (by rw[Z1,lk];rfl) ?_;refine' Qg ba (hgd e hm Ŵ) λg' b' x'=>?_;fail;rw[<-hob];exact step hm Ŵ (x'.sub<|by simp) (by unfold tieF;rw[hob];exact b') _ _
  |false =>
   refine fI rfl ?_
   exists WZ ys rfl
   rw[YN];cases hlk:(stands es').lookup near with
   |none =>
    walk_at "p";rw[<-hob];refine hK _ _ ⟨_,_,es',rfl,y,xg,hnext es' (XJ ?_).symm⟩;have:=Xi hlk
    rwa [ZF]at this
   |some b =>
    obtain⟨e,pre,Ĺ,hs,Ŵ,hbb⟩:=Xc hlk;have hm:e∈es':=by rw[hs];simp
    have ba:=y.brs e hm;have bi:=ba.ins;subst hbb;walk_at "p";refine ZU ys rfl (by rw[Z1,hlk];rfl) ?_;refine' Ez ba λg' b' x'=>?_;fail;rw[<-hob];exact step hm Ŵ (x'.sub<|by simp) (by unfold tieF;rw[hob];exact b') _ _
 .rintro e g ⟨u6,u7,es',rfl,y,xg,q0,q1,q2⟩;have:=q2 rfl;subst this;exact k _ _ y xg
def Wg{p:Nat}{t:Tie}(x:eS h Y)(et:Y.ts[p]?=eh t)(hn:t.1≠t.2.1)(gd:∀e∈Y.es,e.B.ok)(k:∀g,eS g {Y with es:=setT (onT Y p t) p t Y.es}->Ex Y.adr h g->Q .non g):wF P (n+2) "Yard.set_tie" [.ref Y.y,.int p] h Q X:=by
 have xi:=x.ins;have xs:=x.stand;have xf:=x.fallen;obtain⟨t1,t2,c⟩:=t;dsimp only at hn;have fin:onT Y p (t1,t2,c)=onT Y p (t1,t2,c)->∀near far:Int,(near=t1/\far=t2\/near=t2/\far=t1)->onT Y p (t1,t2,c)=ej->∃b,(stands Y.es).lookup near=eh b:=λ_ near far hv ho=>by
  simp only[onT,bAq]at ho;rcases hv with⟨rfl,_⟩|⟨rfl,_⟩
  .exact ø.mp ho.2.1
  .exact ø.mp ho.2.2
 refine Jx ?_
 exists eM (xs:=[.tup<|Y.bs.map .int,.tup<|Y.ts.map trV]) (v:=.tup<|Y.ts.map trV) rfl
 refine' eM (v:=.tup [.int t1,.int t2,.int c]) (YU (by lia)<|by rw[Ò,á,et];rfl) ?_
 exists Xn xf rfl
 rw[YN];obtain⟨on,hon⟩:∃on:Bool,on=onT Y p (t1,t2,c):=⟨_,rfl⟩
 rw[<-hon]at k fin;have fin:=fin rfl;cases e1:(Y.fallen.lookup (p:Int)).isSome with
 |true =>
  have z:ez=on:=by rw[hon];unfold onT;rw[e1];rfl
  walk_at "p";rw[z];exact K6 x hn gd fin λg e y xg=>by fail;exact k g y xg
 |false =>
  walk_at "p";refine WZ xs rfl ?_;rw[YN];cases e2:((stands Y.es).lookup t1).isSome with
  |false =>
   have z:ez=on:=by rw[hon];unfold onT;rw[e1,e2];rfl
   walk_at "p";rw[z];exact K6 x hn gd fin λg e y xg=>by fail;exact k g y xg
  |true =>
   walk_at "p";refine WZ xs rfl ?_;rw[YN];have z:((stands Y.es).lookup t2).isSome=on:=by rw[hon];unfold onT;rw[e1,e2];rfl
   rw[z];refine' K6 x hn gd fin λg e y xg=>by fail;exact k g y xg
end
variable {on:Bool}
def Mg{p far:Int}(o:B.ok)(h0:0<=p)(h1:p<16):(tieF on p far c B).ok:=by
 unfold tieF;split
 .exact o.up h0 h1
 .exact o.down p
def OS{k:Int}(gd:∀e∈es,e.B.ok)(hF:∀B,B.ok->(F B).ok):∀e∈Z6 k F es,e.B.ok:=λq hq=>by
 rcases Nd hq with⟨hm,_⟩|⟨e,he,_,rfl⟩
 .exact gd q hm
 .exact hF _<|gd e he
def FS{p:Int}{t:Tie}(gd:∀e∈es,e.B.ok)(h0:0<=p)(h1:p<16):∀e∈setT on p t es,e.B.ok :=
 OS (OS gd λ_ o=>Mg o h0 h1) λ_ o=>Mg o h0 h1
def A7{p:Int}{t:Tie}(es:List En):(setT on p t es).map (·.num)=es.map (·.num):=by unfold setT;rw[M2,M2]
def Jq{p:Int}{t:Tie}(es:List En):enA (setT on p t es)=enA es:=by unfold setT;rw[X8,X8]
abbrev ZM(Y:Yd)(l:List Tie):Yd:=l.foldl (λY r=>{Y with es:=setT (onT Y r.1<|Y.ts[r.1.toNat]?.getD (0,0,0)) r.1 (Y.ts[r.1.toNat]?.getD (0,0,0)) Y.es}) Y
def Jw(Y:Yd)(l:List Tie)(r:Tie):ZM Y (l++[r])={ZM Y l with es:=setT (onT (ZM Y l) r.1<|(ZM Y l).ts[r.1.toNat]?.getD (0,0,0)) r.1 ((ZM Y l).ts[r.1.toNat]?.getD (0,0,0)) (ZM Y l).es}:=by unfold ZM;rw[List.foldl_append];rfl
structure Same(Y Z:Yd):Prop where
 y:Z.y=Y.y
 lv:Z.lv=Y.lv
 st:Z.st=Y.st
 fl:Z.fl=Y.fl
 rd:Z.rd=Y.rd
 bs:Z.bs=Y.bs
 ts:Z.ts=Y.ts
 most:Z.most=Y.most
 lives:Z.lives=Y.lives
 fallen:Z.fallen=Y.fallen
 road:Z.road=Y.road
 num:Z.es.map (·.num)=Y.es.map (·.num)
 enA:enA Z.es=enA Y.es
variable {Z:Yd}
def Same.adr(s:Same Y Z):Z.adr=Y.adr:=by unfold Yd.adr;rw[s.y,s.lv,s.st,s.fl,s.rd,s.enA]
def Same.refl:Same Y Y:=⟨rfl,rfl,rfl,rfl,rfl,rfl,rfl,rfl,rfl,rfl,rfl,rfl,rfl⟩
variable {W:Yd}
def Same.trans(a:Same Y Z)(b:Same Z W):Same Y W:=⟨b.y.trans a.y,b.lv.trans a.lv,b.st.trans a.st,b.fl.trans a.fl,b.rd.trans a.rd,b.bs.trans a.bs,b.ts.trans a.ts,b.most.trans a.most,b.lives.trans a.lives,b.fallen.trans a.fallen,b.road.trans a.road,b.num.trans a.num,b.enA.trans a.enA⟩
def Same.setT{p:Int}{t:Tie}:Same Y {Y with es:=setT on p t Y.es}:=⟨rfl,rfl,rfl,rfl,rfl,rfl,rfl,rfl,rfl,rfl,rfl,A7 _,Jq _⟩
def YG:∀(l:List Tie) (Y:Yd),Same Y (ZM Y l)
 |[],_=>.refl
 |_::l,_=>Same.setT.trans<|YG l _
section
variable {Y:Yd}
def WX{b:Int}(no:fb Y.bs Y.ts)(x:eS h Y)(gd:∀e∈Y.es,e.B.ok)(k:∀g,eS g (ZM Y<|fT b 0 Y.ts)->(∀e∈(ZM Y<|fT b 0 Y.ts).es,e.B.ok)->Ex Y.adr h g->Q .non g):wF P (n+3) "Yard.set_ties_of" [.ref Y.y,.int b] h Q X:=by
 have xi:=x.ins;have h16:=no.sixteen;refine Xu ?_;refine' Xo no.sixteen λp g0 hp x0 e0=>?_;fail;have x':=x.ext x0;have npA:p∉Y.adr:=λz=>x.taken z hp;refine Zz (λi e g=>Sm3 λv2 v3 v4=>Cj4 (e=[eh<|.ref Y.y,eh<|.int b,v2,v3,v4]) (eS g<|ZM Y<|(fT b 0 Y.ts).take i) ((∀e∈(ZM Y<|(fT b 0 Y.ts).take i).es,e.B.ok))<|Ex Y.adr g0 g) ⟨_,_,_,rfl,x',gd,Ex.refl⟩ (λi e g _ ⟨_,_,_,_,_,_,z⟩=>lsE<|z.get npA e0) ?_ ?_
 .rintro i v e g hv ⟨v2,v3,v4,rfl,y,gi,xg⟩ K hK;obtain⟨r,hr,rfl⟩:=Z5 hv;have sm:=YG ((fT b 0 Y.ts).take i) Y;have rg:=(JK (b:=b) (l:=Y.ts) (k:=0)).2 r<|ă hr;obtain⟨q,hq⟩:∃q:Nat,r.1=q:=⟨r.1.toNat,by lia⟩
  have hql:q<Y.ts.length:=by lia
  have et:(ZM Y<|(fT b 0 Y.ts).take i).ts[q]?=eh Y.ts[q]:=by rw[sm.ts];exact Ê hql
  have lo:=no.tie _<|Ŝ hql;have yi:=y.ins;rw[sm.y]at yi;obtain⟨r1,r2,r3⟩:=r;dsimp only at hq;subst hq;unfold trV;fail;rw[<-sm.y];refine Wg y et (by have:=lo.2.2.1;lia) gi λg1 y1 xg1=>?_;rw[sm.adr]at xg1;fail;rw[sm.y];refine hK _ _ ⟨_,_,_,rfl,?_,?_,xg.trans xg1⟩
  .rw[Zp hr,Jw];dsimp only;rw[á,et];exact y1
  .rw[Zp hr,Jw];dsimp only;rw[á,et];exact FS gi (by lia) (by lia)
 .rintro e g ⟨v2,v3,v4,rfl,y,gi,xg⟩;rw[Ã,ā]at y gi;refine' k g y gi ((Ex.of x0).trans xg)
end
abbrev Ym(b:Int)(es:List En):List En:=es.filter λe=>gf (e.num≠b)
def Mj(b:Int)(es:List En):Zt (stands es) b=stands (Ym b es):=by unfold Zt stands Ym;rw[List.filter_map];rfl
def Xl(b:Int)(es:List En):(Ym b es).Sublist es:=š
def WC{fs:List En}(h:es.Sublist fs):(enA es).Sublist<|enA fs:=by
 induction h with
 |slnil=>exact .slnil
 |cons a _ ih=>unfold enA at ih ⊢;rw[Ů];exact ih.trans<|List.sublist_append_right _ _
 |cons_cons a _ ih=>unfold enA at ih ⊢;rw[Ů,Ů];exact(Ţ _).append ih
def eS.drop(x:eS h Y)(b:Int):eS (upd h Y.st<|.dct<|Zj rfV<|O.stands<|Ym b Y.es) {Y with es:=Ym b Y.es}:=by
 obtain⟨⟨a1,a2,a3,a4⟩,⟨b1,b2,b3⟩,⟨c1,c2⟩,d1⟩:=Yd.five x.nd;have sb:=Xl b Y.es;have nb:∀a∈enA (Ym b Y.es),a≠Y.st:=λa ha=>Yd.sep x.nd (by simp)<|(WC sb).subset ha;refine⟨(eB a2).trans x.ins,(eB b1).trans x.lives,eC,(eB c1.symm).trans x.fallen,(eB c2.symm).trans x.road,λq hq=>(x.brs q<|sb.subset hq).off hq nb,?_,?_⟩
 .exact((Ţ _).append<|WC sb).nodup x.nd
 .exact(sb.map _).nodup x.key
def eS.setFallen(x:eS h Y)(l:List<|Int×Bool):eS (upd h Y.fl<|.dct<|Zj Val.bl l) {Y with fallen:=l}:=by obtain⟨⟨a1,a2,a3,a4⟩,⟨b1,b2,b3⟩,⟨c1,c2⟩,d1⟩:=Yd.five x.nd;exact⟨(eB a3).trans x.ins,(eB b2).trans x.lives,(eB c1).trans x.stand,eC,(eB d1.symm).trans x.road,λe he=>(x.brs e he).off he λb hb=>Yd.sep x.nd (by simp) hb,x.nd,x.key⟩
section
variable {Y:Yd}
def DB{b:Int}(no:fb Y.bs Y.ts)(x:eS h Y)(gd:∀e∈Y.es,e.B.ok)(hb:b∈Y.es.map (·.num))(k:∀g,eS g (ZM {Y with es:=Ym b Y.es}<|fT b 0 Y.ts)->(∀e∈(ZM {Y with es:=Ym b Y.es}<|fT b 0 Y.ts).es,e.B.ok)->Ex Y.adr h g->Q .non g):wF P (n+4) "Yard.fall_of_bridge" [.ref Y.y,.int b] h Q X:=by
 have xi:=x.ins;have xs:=x.stand;obtain⟨a,lk⟩:∃a,(stands Y.es).lookup b=eh a:=ZG (by rw[ZF];exact hb);refine YO ?_
 exists Xn xs rfl
 rw[YN,lk];walk_at "p";refine DD xs rfl (by rw[Z1,lk];rfl) ?_;rw[XH,Mj];dsimp only;have y1:=x.drop b;have x1:Ex Y.adr h<|upd h Y.st<|.dct<|Zj rfV<|stands<|Ym b Y.es:=Ex.upd (Ö _<|by simp);generalize upd h Y.st (.dct<|Zj rfV<|stands<|Ym b Y.es)=g1 at y1 x1;have yi:=y1.ins;dsimp only at yi;refine' WX (Y:={Y with es:=Ym b Y.es}) no y1 (λe he=>gd e<|(Xl b Y.es).subset he) λg2 y2 gd2 x2=>?_;refine' k g2 y2 gd2 (x1.trans<|x2.sub λa ha=>?_);exact((Ţ _).append<|WC<|Xl b Y.es).subset ha
end
section
variable {Y:Yd}
def BC{p:Nat}{t:Tie}(no:fb Y.bs Y.ts)(x:eS h Y)(gd:∀e∈Y.es,e.B.ok)(et:Y.ts[p]?=eh t)(hf:Y.fallen.lookup (p:Int)=ei)(hl:Y.fallen.length<=100)(k:∀g,eS g {Y with fallen:=Zu Y.fallen p ej,es:=setT (onT {Y with fallen:=Zu Y.fallen p ej} p t) p t Y.es}->Ex Y.adr h g->Q .non g):wF P (n+3) "Yard.fall_of_tie" [.ref Y.y,.int p] h Q X:=by
 have xi:=x.ins;have xf:=x.fallen;have hp:p<Y.ts.length:=(Ð.mp et).1;have htl:(Y.ts.map trV).length=Y.ts.length:=Ã _;have lo:=no.tie _<|ă et;refine XB ?_
 exists Xd
 fail;refine fH (by simp) ?_
 exists eM (xs:=[.tup<|Y.bs.map .int,.tup<|Y.ts.map trV]) (v:=.tup<|Y.ts.map trV) rfl
 fail;refine fI (by rw[htl];simpa using hp) ?_
 exists WZ xf rfl
 rw[YN,hf];walk_at "p";refine Yv (k:=.int p) xf ⟨rfl,by rw[JS];exact Ø hl<|by decide⟩ ?_;rw[ZW (val:=Val.bl)];have y1:=x.setFallen<|Zu Y.fallen p ej;have x1:Ex Y.adr h<|upd h Y.fl<|.dct<|Zj Val.bl<|Zu Y.fallen p ej:=Ex.upd (Ö _<|by simp);generalize upd h Y.fl (.dct<|Zj Val.bl<|Zu Y.fallen p ej)=g1 at y1 x1;have yi:=y1.ins;dsimp only at yi;refine' Wg (Y:={Y with fallen:=Zu Y.fallen p ej}) y1 et (by have:=lo.2.2.1;lia) gd λg2 y2 x2=>?_;refine' k g2 y2 (x1.trans x2)
def CJ{p:Nat}{t:Tie}(no:fb Y.bs Y.ts)(x:eS h Y)(gd:∀e∈Y.es,e.B.ok)(et:Y.ts[p]?=eh t){v:Bool}(hf:Y.fallen.lookup (p:Int)=eh v)(k:∀g,eS g {Y with fallen:=Zt Y.fallen p,es:=setT (onT {Y with fallen:=Zt Y.fallen p} p t) p t Y.es}->Ex Y.adr h g->Q .non g):wF P (n+3) "Yard.back_of_tie" [.ref Y.y,.int p] h Q X:=by
 have xi:=x.ins;have xf:=x.fallen;have lo:=no.tie _<|ă et;refine XA ?_
 exists Xn xf rfl
 rw[YN,hf];walk_at "p";refine DD xf rfl (by rw[Z1,hf];rfl) ?_;rw[XH];dsimp only;have y1:=x.setFallen<|Zt Y.fallen p;have x1:Ex Y.adr h<|upd h Y.fl<|.dct<|Zj Val.bl<|Zt Y.fallen p:=Ex.upd (Ö _<|by simp);generalize upd h Y.fl (.dct<|Zj Val.bl<|Zt Y.fallen p)=g1 at y1 x1;have yi:=y1.ins;dsimp only at yi;refine' Wg (Y:={Y with fallen:=Zt Y.fallen p}) y1 et (by have:=lo.2.2.1;lia) gd λg2 y2 x2=>?_;refine' k g2 y2 (x1.trans x2)
end
def OW:(ZS own life most []).ok:=⟨Į,(λ_ m=>nomatch m),Į,(λ_ m=>nomatch m)⟩
def AL{k:Int}{v:α}:(Zu kvs k v).lookup k=eh v:=by
 unfold Zu;split
 .rename_i h;induction kvs with
  |nil=>cases h
  |cons p r ih =>
   rw[Ï,ï];by_cases e:p.1=k
   .simp[e]
   .have e2:(k==p.1)=ez:=by simpa using λz=>e z.symm
    rw[ï,e2]at h;simp only[e,if_false,e2];exact ih h
 .rename_i h;have h:kvs.lookup k=ei:=af.mp h;rw[List.lookup_append,h];simp
section
variable {Y:Yd}
def Bn{b:Int}(no:fb Y.bs Y.ts)(x:eS h Y)(gd:∀e∈Y.es,e.B.ok)(hlv:Y.lives.lookup b=eh life)(hb:b∉Y.es.map (·.num))(hl:Y.lives.length<=100)(hel:Y.es.length<=100)
  (k:∀q t d g,(∀a∈[q,t,d],h a=ei)->eS g (ZM {Y with lives:=Zu Y.lives b<|life+1,es:=Y.es++[⟨b,q,t,d,ZS b (life+1) Y.most []⟩]}<|fT b 0 Y.ts)->(∀e∈(ZM {Y with lives:=Zu Y.lives b<|life+1,es:=Y.es++[⟨b,q,t,d,ZS b (life+1) Y.most []⟩]}<|fT b 0 Y.ts).es,e.B.ok)->Ex Y.adr h g->Q .non g):wF P (n+4) "Yard.back_of_bridge" [.ref Y.y,.int b] h Q X:=by
 have xi:=x.ins;have xs:=x.stand;have xl:=x.lives;have lk:(stands Y.es).lookup b=ei:=by
  cases z:(stands Y.es).lookup b with
  |none=>rfl
  |some q =>have:=ÿ (f:=(·.1))<|Zx z;rw[ZF]at this;exact gc this hb
 refine YR ?_
 exists Xn xl rfl
 rw[YN,hlv];walk_at "p";refine WZ xs rfl ?_;rw[YN,lk];walk_at "p";refine ZU xl rfl (by rw[Z1,hlv];rfl) ?_;refine' Yv (k:=.int b) xl ⟨rfl,by rw[JS];exact Ø hl<|by decide⟩ ?_;rw[ZW (val:=Val.int)];have Y1:=x.setLives<|Zu Y.lives b<|life+1;have x1:Ex Y.adr h<|upd h Y.lv<|.dct<|Zj Val.int<|Zu Y.lives b<|life+1:=Ex.upd (Ö _<|by simp);have keepN:∀{a:Ad},upd h Y.lv (.dct<|Zj Val.int<|Zu Y.lives b<|life+1) a=ei->h a=ei:=λ{a} z=>by
  by_cases e:a=Y.lv
  .rw[e,eC]at z;cases z
  .rwa [eB e]at z
 generalize upd h Y.lv (.dct<|Zj Val.int<|Zu Y.lives b<|life+1)=g1 at Y1 x1 keepN;have zi:=Y1.ins;have zl:=Y1.lives;dsimp only at zi zl;refine' ZU zl rfl (by rw[Z1,AL];rfl) ?_;refine' Zl λpn g7 hpn x7 en=>?_;have Y7:=Y1.ext x7;have yi7:=Y7.ins;dsimp only at yi7;fail;intro q hq;have xq:Ext g7<|upd g7 q<|.ins "Bridge" []:=Ext.new hq;have eq:(upd g7 q<|.ins "Bridge" []) q=eh (.ins "Bridge" []):=eC;refine O5 (rs:=[]) eq (xq.get en) (by simp) (by simp) λt d g8 ht hd ba x8=>?_;have x78:Ext g7 g8:=⟨λ{a o} e=>x8.get (by simpa using Za e hq)<|xq.get e⟩
 have Y8:=Y7.ext x78;have ht7:g7 t=ei:=by cases z:g7 t with|none=>rfl|some o=>rw[xq.get z]at ht;cases ht
 have hd7:g7 d=ei:=by cases z:g7 d with|none=>rfl|some o=>rw[xq.get z]at hd;cases hd
 refine⟨rfl,?_⟩;have wi:=Y8.ins;have ws:=Y8.stand;dsimp only at wi ws;refine' Yv (k:=.int b) ws ⟨rfl,by rw[JS];unfold stands;rw[Ã];exact Ø hel<|by decide⟩ ?_;rw[ZW (val:=rfV),XY _<|by rw[ZF];exact hb];have ſ:stands Y.es++[(b,q)]=stands (Y.es++[⟨b,q,t,d,ZS b (life+1) Y.most []⟩]):=by unfold stands;rw[ß];rfl
 rw[ſ];have fr:∀a∈[q,t,d],g7 a=ei:=λa ha=>by simp only[Ç,Þ,or_false]at ha;rcases ha with rfl|rfl|rfl<;>assumption
 have fr0:∀a∈[q,t,d],h a=ei:=λa ha=>keepN (by cases z:g1 a with|none=>rfl|some o=>have:=fr a ha;rw[x7.get z]at this;cases this);have Y9:=Y8.stands (e:=⟨b,q,t,d,ZS b (life+1) Y.most []⟩) ba hb λa ha z=>Y7.taken z<|fr a ha;have x9:Ex Y.adr h<|upd g8 Y.st<|.dct<|Zj rfV<|stands<|Y.es++[⟨b,q,t,d,ZS b (life+1) Y.most []⟩]:=(x1.trans<|.of<|x7.trans x78).trans (Ex.upd<|Ö _<|by simp);dsimp only at Y9;generalize upd g8 Y.st (.dct<|Zj rfV<|stands<|Y.es++[⟨b,q,t,d,ZS b (life+1) Y.most []⟩])=g9 at Y9 x9;have vi:=Y9.ins;dsimp only at vi;refine' WX (Y:={Y with lives:=Zu Y.lives b<|life+1,es:=Y.es++[⟨b,q,t,d,ZS b (life+1) Y.most []⟩]}) no Y9 (λe he=>?_) λg2 y2 gd2 x2=>?_
 .rcases å.mp he with he|he
  .exact gd e he
  .rw[â.mp he];exact OW
 refine' k q t d g2 fr0 y2 gd2 ⟨λ{a o} na ha=>x2.get (λz=>?_)<|x9.get na ha⟩;have z:a∈[Y.y,Y.lv,Y.st,Y.fl,Y.rd]++enA (Y.es++[⟨b,q,t,d,ZS b (life+1) Y.most []⟩]):=z;rw[X4,<-ı]at z;rcases å.mp z with z|z
 .exact na z
 .rw[fr0 a z]at ha;cases ha
end
abbrev wordsL:List<|List String:=[["tick"],["come"],["lost"],["fall","bridge"],["fall","tie"],["back","bridge"],["back","tie"]]
def Ey{ws:List String}(hw:ws∈wordsL)(k:∀g,Ext h g->Q (.tup [.tup<|ws.map .str,.int c]) g):wF P (n+2) "read_deed" [.tup<|ws.map .str++[.int c]] h Q X:=by
 have hc:cut (ws.map Val.str++[.int c]) ei (eh (-1))=ws.map .str:=by simp only[wordsL,Ç,Þ,or_false]at hw;rcases hw with rfl|rfl|rfl|rfl|rfl|rfl|rfl<;>rfl
 have hlast:atI (ws.map Val.str++[.int c]) (-1)=eh (.int c):=by simp only[wordsL,Ç,Þ,or_false]at hw;rcases hw with rfl|rfl|rfl|rfl|rfl|rfl|rfl<;>rfl
 have hlen:ws.length<=2:=by simp only[wordsL,Ç,Þ,or_false]at hw;rcases hw with rfl|rfl|rfl|rfl|rfl|rfl|rfl<;>decide
 refine MR ?_;walk_at "p";refine fG (xs:=ws.map Val.str++[.int c]) (lo:=ei) (hi:=eh (-1)) (by rw[ê,Ã];intro z;have:=z.2;unfold fq at this;simp at this;lia) ?_;rw[hc];refine' ⟨Ø (by rw[Ã];exact hlen) (by decide),ZY (λ_=>eh<|.bl ej) trivial (λv hv K hK=>?_) ?_⟩
 .obtain⟨u,_,rfl⟩:=Ú.mp hv;walk_at "p";exact hK
 rw[show(ws.map Val.str).filterMap (λ_=>eh<|Val.bl ej)=(ws.map λ_=>ej).map Val.bl by rw[ξ,õ];exact congrFun (ό (f:=λ_:String=>Val.bl ej)) ws];refine Zl λp1 g1 bN x1 e1=>?_
 exists OD (bs:=ws.map λ_=>ej) e1 (YE _)
 have ha:(ws.map λ_=>ej).all id=ej:=by simp
 fail;refine fI (by simp) ?_;fail;have hin:∀{h:Hs},eY h .notin (.tup<|ws.map .str) (.tup<|wordsL.map λl=>.tup<|l.map .str)=eh ez:=λ{h}=>by simp only[wordsL,Ç,Þ,or_false]at hw;rcases hw with rfl|rfl|rfl|rfl|rfl|rfl|rfl<;>rfl
 refine eL (a:=ez) hin ?_;walk_at "p";refine eM hlast ?_
 exists Xx
 walk_at "p";refine eM hlast ?_;refine' k g1 x1
inductive Dd where
 |tick (b:Int)|come (b:Int)|lost (b:Int)|fallB (b:Int)|fallT (b:Int)|backB (b:Int)|backT (b:Int)
abbrev Dd.ws:Dd->List String
 |.tick _=>["tick"]|.come _=>["come"]|.lost _=>["lost"]|.fallB _=>["fall","bridge"]|.fallT _=>["fall","tie"]|.backB _=>["back","bridge"]|.backT _=>["back","tie"]
abbrev Dd.num:Dd->Int
 |.tick c=>c|.come c=>c|.lost c=>c|.fallB c=>c|.fallT c=>c|.backB c=>c|.backT c=>c
abbrev Dd.fn:Dd->String
 |.tick _=>"Yard.tick_of" | .come _=>"Yard.come" | .lost _=>"Yard.take_off" | .fallB _=>"Yard.fall_of_bridge" | .fallT _=>"Yard.fall_of_tie" | .backB _=>"Yard.back_of_bridge" | .backT _=>"Yard.back_of_tie"
noncomputable abbrev Dd.v(d:Dd):Val:=.tup<|d.ws.map .str++[.int d.num]
def Dd.words(d:Dd):d.ws∈wordsL:=by cases d<;>simp[Dd.ws,wordsL]
def XS(x:Ext h g)(hp:g p=ei):h p=ei:=by
 cases z:h p with
 |none=>rfl
 |some o=>rw[x.get z]at hp;cases hp
variable {ts:List Tie}
def Ea{i:Int}(h0:0<=i)(h1:i<ts.length):atI (ts.map trV) i=eh (trV<|ts[i.toNat]?.getD (0,0,0)):=by
 have h2:i.toNat<ts.length:=by lia
 refine YU h0 ?_;rw[Ò,Ê h2];rfl
def UK{pre:List En}(x:eS h Y)(he:Y.es=pre++e::Ĺ)(o:e.B.ok)(hp:∀q∈e.B.ties,q.1<Y.ts.length)(hr:Y.road.length<=100000)
  (k:∀d g,eS g {Y with es:=pre++⟨e.num,e.b,e.t,d,e.B.ticked⟩::Ĺ,road:=Y.road++Z9 Y.ts e.num e.B.told}->h d=ei->Ex Y.adr h g->Q .non g):wF P (n+5) "Yard.tick_of" [.ref Y.y,.int e.num] h Q X:=by
 have hm:e∈Y.es:=by rw[he];simp
 have lk:(stands Y.es).lookup e.num=eh e.b:=WJ (by rw[ZF];exact x.key)<|Ú.mpr ⟨e,hm,rfl⟩;obtain⟨xi,xl,xs,xf,xr,xb,xnd,xk⟩:=id x;refine JD ?_
 exists Xn xs rfl
 rw[YN,lk];walk_at "p";refine ZU xs rfl (by rw[Z1,lk];rfl) ?_;have ba:=xb e hm;have bi:=ba.ins;refine' Fh ba o λp d g1 bN hd1 ba1 ep x1 npd=>?_;have Y1:=x.change he x1 ba1 (.inl rfl)<|.inr hd1;obtain⟨yi,yl,ys,yf,yr,yb,ynd,yk⟩:=id Y1;dsimp only at yi yl ys yf yr yb;have npa:∀a∈Y.adr,a≠p:=λa ha z=>x.taken ha<|z▸bN;have npr:Y.rd≠p:=npa _ (Ö _<|by simp);have hbm:e.b∈Y.adr:=É _ (Wc hm).1;have htl:(sortI (e.B.told.ties.map (·.1))).length<=16:=by rw[sortI,Œ,Ã];exact o.told.tlen
 have htie:∀i∈sortI (e.B.told.ties.map (·.1)),0<=i/\i<Y.ts.length:=λi hi=>by obtain⟨q,hq,rfl⟩:=Ú.mp<|mem_sort.mp hi;rw[show e.B.told.ties=e.B.ties from (YK e.B.grown<|Yr e.B.grown).2.1]at hq;exact⟨(o.rg q hq).1,hp q hq⟩
 refine' Zz (λi en g=>Sm3 λv2 v3 v4=>Cj4 (en=[eh<|.ref Y.y,eh<|.int e.num,v2,v3,v4]) (eS g {Y with es:=pre++⟨e.num,e.b,e.t,d,e.B.ticked⟩::Ĺ,road:=Y.road++(Z9 Y.ts e.num e.B.told).take i}) (g p=eh (.lst<|ZO e.B.told))<|Ex Y.adr h g) ⟨_,_,_,rfl,by rw[List.take_zero,Ā];exact Y1,ep,x1.sub λa ha=>by rw[â.mp ha];exact hbm⟩ (λi en g _ ⟨_,_,_,_,_,z,_⟩=>lsE z) ?_ ?_
 .rintro i v en g hv ⟨v2,v3,v4,rfl,Yi,ep,xi⟩ K hK;obtain⟨pl,hpl,rfl⟩:=Z5 hv;have hplm:=ă hpl;obtain⟨r0,r1⟩:=htie pl hplm;have et:=Ea (ts:=Y.ts) r0 r1;obtain⟨zi,zl,zs,zf,zr,zb,znd,zk⟩:=id Yi;dsimp only at zi zl zs zf zr zb;have hil:=(Ð.mp hpl).1
  exists eM (xs:=[.tup<|Y.bs.map .int,.tup<|Y.ts.map trV]) (v:=.tup<|Y.ts.map trV) rfl
  exists eM et
  exists BU
  refine' Zw zr ?_ ?_
  .rw[Ã,ê,ĥ];exact Ø (by lia:_<=100016) (by decide)
  dsimp only;have es:(Z9 Y.ts e.num e.B.told)[i]?=eh (e.num,HK Y.ts pl e.num,pl,ZC e.B.told pl):=by unfold Z9;rw[Ò,hpl];rfl
  have Y2:=Yi.setRoad<|Y.road++(Z9 Y.ts e.num e.B.told).take (i+1);dsimp only at Y2;have er:(Y.road++(Z9 Y.ts e.num e.B.told).take i).map rdV++[rdV (e.num,HK Y.ts pl e.num,pl,ZC e.B.told pl)]=(Y.road++(Z9 Y.ts e.num e.B.told).take (i+1)).map rdV:=by rw[Zp es,<-ı,ß (l₂:=[_])];rfl
  have er':(Y.road++(Z9 Y.ts e.num e.B.told).take i).map rdV++[.tup [.int e.num,.int<|far (Y.ts[pl.toNat]?.getD (0,0,0)) e.num,.int pl,(ZC e.B.told pl).v]]=(Y.road++(Z9 Y.ts e.num e.B.told).take (i+1)).map rdV:=er;rw[er'];refine' hK _ _ ⟨_,_,_,rfl,Y2,(eB npr.symm).trans ep,xi.trans<|Ex.upd<|Ö _<|by simp⟩
 .rintro en g ⟨v2,v3,v4,rfl,Yi,ep,xi⟩;rw[show(ZO e.B.told).length=(Z9 Y.ts e.num e.B.told).length by unfold ZO Z9;rw[Ã,Ã],ā]at Yi;refine' k d g Yi hd1 xi
def Eb{d:Dd}(x:eS h Y)(k:∀(g:Hs) (Q':Q1),Ext h g->eS g Y->(∀v g',Q .non g'->Q' v g')->wF P (n+5) d.fn [.ref Y.y,.int d.num] g Q' X):wF P (n+6) "Yard.deed" [.ref Y.y,d.v] h Q X:=by
 have xi0:=x.ins;refine Na ?_;refine' Ey d.words λg1 x1=>?_;have x':=x.ext x1;have xi:=x'.ins;cases d<;>(
   fail
   repeat (first
     |(refine eL (a:=ez) rfl ?_;fail;refine fI rfl ?_;fail)
     | (refine eL (a:=ej) rfl ?_;fail;refine fH rfl ?_;fail))
   refine k g1 _ x1 x' λv g' q=>?_
   refine' q)
structure Yc where
 bs:List Int
 ts:List Tie
 most:Int
 lives:List<|Int×Int
 br:List<|Int×Br
 fallen:List<|Int×Bool
 road:List<|Int×Int×Int×L
abbrev enC(es:List En):List<|Int×Br:=es.map λe=>(e.num,e.B)
abbrev Yd.cc(Y:Yd):Yc:=⟨Y.bs,Y.ts,Y.most,Y.lives,enC Y.es,Y.fallen,Y.road⟩
abbrev upC(k:Int)(F:Br->Br)(l:List<|Int×Br):List<|Int×Br:=l.map λq=>if q.1=k then(q.1,F q.2)else q
abbrev Hx(on:Bool)(p:Int)(t:Tie)(l:List<|Int×Br):List<|Int×Br:=upC t.2.1 (tieF on p t.1 t.2.2)<|upC t.1 (tieF on p t.2.1 t.2.2) l
abbrev Yc.tie(C:Yc)(p:Int):Tie:=C.ts[p.toNat]?.getD (0,0,0)
abbrev onC(C:Yc)(p:Int):Bool:=!(C.fallen.lookup p).isSome&&((C.br.lookup (C.tie p).1).isSome&&(C.br.lookup (C.tie p).2.1).isSome)
abbrev Yc.set1(C:Yc)(p:Int):Yc:={C with br:=Hx (onC C p) p (C.tie p) C.br}
abbrev Yc.sets(C:Yc)(l:List Tie):Yc:=l.foldl (λC r=>C.set1 r.1) C
def XU(es:List En):(enC es).map (·.1)=es.map (·.num):=by unfold enC;rw[õ];rfl
def look_iff{k:Int}:(kvs.lookup k).isSome=gf (k∈kvs.map (·.1)):=by
 cases z:kvs.lookup k with
 |none=>exact(f8<|Xi z).symm
 |some v=>exact(f9 (ÿ (f:=(·.1))<|Zx z)).symm
def WS{k:Int}(es:List En):enC (Z6 k F es)=upC k F (enC es):=by
 unfold enC Z6 upC;rw[õ,õ];refine ğ λe _=>?_;show((if e.num=k then({e with B:=F e.B}:En)else e).num,(if e.num=k then({e with B:=F e.B}:En)else e).B)=if e.num=k then(e.num,F e.B)else(e.num,e.B)
 split<;>rfl
def CS{p:Int}{t:Tie}(es:List En):enC (setT on p t es)=Hx on p t (enC es):=by unfold setT Hx;rw[WS,WS]
def HL{k:Int}:((enC es).lookup k).isSome=((stands es).lookup k).isSome:=look_iff.trans ((decide_eq_decide.mpr<|by rw[XU,ZF]).trans look_iff.symm)
def Pa{p:Int}:onT Y p (Y.ts[p.toNat]?.getD (0,0,0))=onC Y.cc p:=by unfold onT onC;rw[<-HL,<-HL];rfl
def Ol{p:Int}:({Y with es:=setT (onT Y p<|Y.ts[p.toNat]?.getD (0,0,0)) p (Y.ts[p.toNat]?.getD (0,0,0)) Y.es}:Yd).cc=Y.cc.set1 p:=by rw[Pa];unfold Yd.cc Yc.set1;dsimp only;rw[CS];rfl
def Oo:∀(l:List Tie) (Y:Yd),(ZM Y l).cc=Y.cc.sets l
 |[],_=>rfl
 |r::l,Y=>(Oo l _).trans (congrArg (Yc.sets · l)<|Ol (Y:=Y) (p:=r.1))
abbrev step(C:Yc):Dd->Option Yc
 |.tick b=>(C.br.lookup b).map λB=>{C with br:=upC b Br.ticked C.br,road:=C.road++Z9 C.ts b B.told}
 |.come p=>if p<0 then ei else(C.road[p.toNat]?).map λr=>{C with br:=upC r.2.1 (Yb · r.2.2.1 r.2.2.2) C.br,road:=C.road.eraseIdx p.toNat}
 |.lost p=>if p<0 then ei else(C.road[p.toNat]?).map λr=>{C with road:=C.road.eraseIdx p.toNat}
 |.fallB b=>if(C.br.lookup b).isSome then eh (Yc.sets {C with br:=Zt C.br b}<|fT b 0 C.ts)else ei
 |.fallT p=>if(0<=p/\p<C.ts.length)/\(C.fallen.lookup p).isSome=ez then eh (Yc.set1 {C with fallen:=Zu C.fallen p ej} p)else ei
 |.backB b=>if(C.br.lookup b).isSome then ei else(C.lives.lookup b).map λl=>Yc.sets {C with lives:=Zu C.lives b<|l+1,br:=C.br++[(b,ZS b (l+1) C.most [])]}<|fT b 0 C.ts
 |.backT p=>if(C.fallen.lookup p).isSome then eh (Yc.set1 {C with fallen:=Zt C.fallen p} p)else ei
structure Bok(m:Nat)(B:Br):Prop where
 ok:B.ok
 pl:∀t∈B.ties,t.1<m
def Bok.ticked{m:Nat}(o:Bok m B):Bok m B.ticked:=⟨o.ok.ticked,λt ht=>o.pl t<|by rwa [show B.ticked.ties=B.ties from (YK B.grown<|Yr B.grown).2.1]at ht⟩
def Bok.heard{m:Nat}(o:Bok m B){p:Int}{l:L}:Bok m<|Yb B p l:=⟨o.ok.heard,λt ht=>o.pl t<|by revert ht;unfold Yb;split<;>(try split)<;>exact id⟩
def Bok.tieF{m:Nat}(o:Bok m B){p far:Int}(h0:0<=p)(h1:p<m)(hm:m<=16):Bok m<|O.tieF on p far c B:=⟨Mg o.ok h0 (by lia),λt ht=>by
  unfold O.tieF at ht
  split at ht
  . unfold upB at ht
    split at ht
    . exact o.pl t ht
    . rcases Wz ht with e|ht
      . rw[e];exact h1
      . exact o.pl t ht
  . exact o.pl t<|Yo ht⟩
structure Yc.gd(C:Yc)(N:Nat):Prop where
 no:fb C.bs C.ts
 nd:(C.br.map (·.1)).Nodup
 sub:∀q∈C.br,q.1∈C.bs
 ok:∀q∈C.br,Bok C.ts.length q.2
 lv:C.lives.map (·.1)=C.bs
 fn:(C.fallen.map (·.1)).Nodup
 fr:∀q∈C.fallen,0<=q.1/\q.1<C.ts.length
 len:C.road.length<=16*N
def W3{k:Int}(l:List<|Int×Br):(upC k F l).map (·.1)=l.map (·.1):=by unfold upC;rw[õ];refine ğ λe _=>?_;show(if e.1=k then(e.1,F e.2)else e).1=e.1;split<;>rfl
def EX{k:Int}{l:List (Int×Br)}{R:Br->Prop}(h:∀q∈l,R q.2)(hF:∀B,R B->R (F B)):∀q∈upC k F l,R q.2:=λq hq=>by
 obtain⟨e,he,rfl⟩:=Ú.mp hq;split
 .exact hF _<|h e he
 .exact h e he
def keys_sub{l:List (Int×Br)}{bs:List Int}:(∀q∈l,q.1∈bs)↔∀x∈l.map (·.1),x∈bs:=⟨λh x hx=>by obtain⟨q,hq,rfl⟩:=Ú.mp hx;exact h q hq,λh q hq=>h _<|ÿ hq⟩
variable {C:Yc} {N:Nat} {M:Nat} {rd:List (Int×Int×Int×L)}
def Yc.gd.upC{k:Int}(g:C.gd N)(hF:∀B,Bok C.ts.length B->Bok C.ts.length (F B))(hr:rd.length<=16*M):({C with br:=O.upC k F C.br,road:=rd}:Yc).gd M :=
 ⟨g.no,by show((O.upC k F C.br).map (·.1)).Nodup;rw[W3];exact g.nd,keys_sub.mpr (by show ∀x∈(O.upC k F C.br).map (·.1),_;rw[W3];exact keys_sub.mp g.sub),EX g.ok hF,g.lv,g.fn,g.fr,hr⟩
def Yc.gd.set1{p:Int}(g:C.gd N)(h0:0<=p)(h1:p<C.ts.length):(C.set1 p).gd N :=
 (g.upC (M:=N) (k:=(C.tie p).1) (F:=tieF (onC C p) p (C.tie p).2.1 (C.tie p).2.2) (λ_ o=>o.tieF h0 h1 g.no.sixteen) g.len).upC (λ_ o=>o.tieF h0 h1 g.no.sixteen) g.len
def Yc.gd.sets{N:Nat}:∀{l:List Tie}{C:Yc},C.gd N->(∀r∈l,0<=r.1/\r.1<C.ts.length)->(C.sets l).gd N
 |[],_,g,_=>g
 |r::l,C,g,h=>Yc.gd.sets (l:=l) (C:=C.set1 r.1) (g.set1 (h r<|by simp).1 (h r<|by simp).2) λq hq=>h q (by simp[hq])
def Yc.gd.more(g:C.gd N)(h:N<=M):C.gd M:=⟨g.no,g.nd,g.sub,g.ok,g.lv,g.fn,g.fr,Ý g.len<|du _ h⟩
def Jc:∀(l:List Tie) (C:Yc),(C.sets l).bs=C.bs/\(C.sets l).ts=C.ts/\(C.sets l).most=C.most
 |[],_=>⟨rfl,rfl,rfl⟩
 |r::l,C=>Jc l<|C.set1 r.1
def C7{b:Int}:∀r∈fT b 0 ts,0<=r.1/\r.1<ts.length:=λr hr=>by have:=(JK (b:=b) (l:=ts) (k:=0)).2 r hr;lia
def keys_look{b:Int}:(C.br.lookup b).isSome=ej↔b∈C.br.map (·.1):=by rw[look_iff];simp
def UL{b:Int}(o:B.ok):(Z9 ts b B.told).length<=16:=by unfold Z9;rw[Ã,sortI,Œ,Ã];exact o.told.tlen
def Ev{D:Yc}{d:Dd}(g:C.gd N)(s:step C d=eh D):D.gd (N+1)/\D.bs=C.bs/\D.ts=C.ts/\D.most=C.most:=by
 have hlen:=g.len;cases d with
 |tick b =>obtain⟨B,hB,rfl⟩:=Î.mp s;have ok:B.ok:=(g.ok _<|Zx hB).ok;have:=UL (ts:=C.ts) (b:=b) ok;exact⟨g.upC (λ_ o=>o.ticked) (by rw[ê];lia),rfl,rfl,rfl⟩
 |come p =>
  dsimp only[step]at s;split at s
  .cases s
  .obtain⟨r,hr,rfl⟩:=Î.mp s;exact⟨g.upC (λ_ o=>o.heard)<|Ý (bK _ _)<|by lia,rfl,rfl,rfl⟩
 |lost p =>
  dsimp only[step]at s;split at s
  .cases s
  .obtain⟨r,hr,rfl⟩:=Î.mp s;exact⟨⟨g.no,g.nd,g.sub,g.ok,g.lv,g.fn,g.fr,Ý (bK _ _)<|by lia⟩,rfl,rfl,rfl⟩
 |fallB b =>
  dsimp only[step]at s;split at s
  .cases s;refine⟨Yc.gd.more (Yc.gd.sets ⟨g.no,YF g.nd b,λq hq=>g.sub q<|Yo hq,λq hq=>g.ok q<|Yo hq,g.lv,g.fn,g.fr,hlen⟩ C7) (by lia),?_⟩;obtain⟨e1,e2,e3⟩:=Jc (fT b 0 C.ts) {C with br:=Zt C.br b};exact⟨e1,e2,e3⟩
  .cases s
 |fallT p =>
  dsimp only[step]at s;split at s
  .rename_i h;cases s;refine⟨Yc.gd.more (Yc.gd.set1 ⟨g.no,g.nd,g.sub,g.ok,g.lv,Wf g.fn p ej,λq hq=>?_,hlen⟩ h.1.1 h.1.2) (by lia),rfl,rfl,rfl⟩;rcases Wz hq with e|hq
   .rw[e];exact h.1
   .exact g.fr q hq
  .cases s
 |backB b =>
  dsimp only[step]at s;split at s
  .cases s
  .rename_i h;obtain⟨l,hl,rfl⟩:=Î.mp s;have hk:(C.lives.lookup b).isSome=ej:=by rw[hl];rfl
   have hb:b∈C.bs:=by rw[<-g.lv];rw[look_iff]at hk;exact of_decide_eq_true hk
   have hn:b∉C.br.map (·.1):=λz=>h<|keys_look.mpr z;refine⟨Yc.gd.more (Yc.gd.sets ⟨g.no,?_,λq hq=>?_,λq hq=>?_,?_,g.fn,g.fr,hlen⟩ C7) (by lia),?_⟩
   .show((C.br++[(b,ZS b (l+1) C.most [])]).map (·.1)).Nodup;rw[ß,æ];exact⟨g.nd,by simp,λa ha c hc=>by have hc:c=b:=â.mp hc;rw[hc];exact λz=>hn<|z▸ha⟩
   .rcases å.mp hq with hq|hq
    .exact g.sub q hq
    .rw[â.mp hq];exact hb
   .rcases å.mp hq with hq|hq
    .exact g.ok q hq
    .rw[â.mp hq];exact⟨OW,λt ht=>nomatch ht⟩
   .show(Zu C.lives b<|l+1).map (·.1)=_;rw[Jo,f6 hk];exact g.lv
   .exact Jc (fT b 0 C.ts) {C with lives:=Zu C.lives b<|l+1,br:=C.br++[(b,ZS b (l+1) C.most [])]}
 |backT p =>
  dsimp only[step]at s;split at s
  .rename_i h;cases s;obtain⟨v,hv⟩:=ø.mp h;have hp:=g.fr _<|Zx hv;exact⟨Yc.gd.more (Yc.gd.set1 ⟨g.no,g.nd,g.sub,g.ok,g.lv,YF g.fn p,λq hq=>g.fr q<|Yo hq,hlen⟩ hp.1 hp.2) (by lia),rfl,rfl,rfl⟩
  .cases s
def Wb{b:Int}:(Y.cc.br.lookup b).isSome=((stands Y.es).lookup b).isSome:=HL
def Uo{pre:List En}(he:Y.es=pre++e::Ĺ)(nd:(Y.es.map (·.num)).Nodup):enC (pre++⟨e.num,e.b,t,d,F e.B⟩::Ĺ)=upC e.num F (enC Y.es):=by rw[he]at nd ⊢;rw[<-WS,MD nd];unfold enC;rw[ß,ß];rfl
def O8{pre:List En}(he:Y.es=pre++e::Ĺ)(ht:t=e.t)(hd:d=e.d\/h d=ei):∀a∈({Y with es:=pre++⟨e.num,e.b,t,d,B⟩::Ĺ,road:=rd}:Yd).adr,a∈Y.adr\/h a=ei:=λa ha=>by
 subst ht;unfold Yd.adr at ha ⊢;rw[he,YB];dsimp only at ha;rw[YB]at ha;simp only[å,Ç,Þ,or_false]at ha ⊢;rcases hd with rfl|hd
 .exact .inl ha
 .rcases ha with ha|ha|(rfl|rfl|rfl)|ha
  .exact .inl<|.inl ha
  .exact .inl<|.inr<|.inl ha
  .exact .inl<|.inr<|.inr<|.inl<|.inl rfl
  .exact .inl<|.inr<|.inr<|.inl<|.inr<|.inl rfl
  .exact .inr hd
  .exact .inl<|.inr<|.inr<|.inr ha
def NN:∀{l bs:List Int},l.Nodup->(∀x∈l,x∈bs)->l.length<=bs.length
 |[],_,_,_=>į _
 |a::l,bs,nd,h=>by have ha:=h a (by simp);have:=NN (l:=l) (bs:=bs.erase a) (ć.mp nd).2 λx hx=>(List.mem_erase_of_ne λz:x=a=>(ć.mp nd).1<|z▸hx).mpr (h x<|by simp[hx]);rw[bC ha]at this;have:=List.length_pos_of_mem ha;rw[Ë];lia
def O2{p:Int}{β:Type}{f:Int×Int×Int×L->β}(hp:¬(0<=p/\p<Y.road.length)):(if p<0 then ei else(Y.cc.road[p.toNat]?).map f)=ei:=by
 split
 .rfl
 .rw[show Y.cc.road[p.toNat]?=ei from Ļ<|by show Y.road.length<=_;lia];rfl
structure Mv(h:Hs)(Y:Yd)(g:Hs)(Z:Yd):Prop where
 y:Z.y=Y.y
 at_:eS g Z
 nw:∀a∈Z.adr,a∈Y.adr\/h a=ei
 ex:Ex Y.adr h g
def Mv.refl(x:eS h Y):Mv h Y h Y:=⟨rfl,x,λ_=>.inl,Ex.refl⟩
def Mv.off(m:Mv h Y g Z)(na:a∉Y.adr)(e:h a=eh o):a∉Z.adr/\g a=eh o:=⟨λz=>(m.nw a z).elim na λy=>(by rw[e]at y;cases y),m.ex.get na e⟩
def Mv.trans{f:Hs}(m:Mv h Y g Z)(l:Mv g Z f W):Mv h Y f W:=by
 refine⟨l.y.trans m.y,l.at_,λa ha=>?_,⟨λna e=>let ⟨h1,h2⟩:=m.off na e;l.ex.get h1 h2⟩⟩;rcases l.nw a ha with z|z
 .exact m.nw a z
 .by_cases na:a∈Y.adr
  .exact .inl na
  .cases e:h a with
   |none=>exact .inr rfl
   |some o=>rw[m.ex.get na e]at z;cases z
def Mv.ext{f:Hs}(m:Mv h Y g Z)(x:Ext g f):Mv h Y f Z:=⟨m.y,m.at_.ext x,m.nw,m.ex.trans<|.of x⟩
def Mv.put(m:Mv h Y g Z)(hp:h p=ei)(np:p∉Z.adr):Mv h Y (upd g p o) Z:=⟨m.y,m.at_.keep (S:=[p]) (Ex.upd<|by simp) λa ha z=>np<|â.mp z▸ha,m.nw,⟨λna e=>by rw[eB<|Za e hp];exact m.ex.get na e⟩⟩
def KW{b:Int}(h:(stands es).lookup b=ei):b∉es.map (·.num):=by rw[<-ZF];exact Xi h
section
variable {Y:Yd}
def E4{d:Dd}(x:eS h Y)(gd:Y.cc.gd N)(hN:N<=6000)(sd:(step Y.cc d).isSome=ej)(k:∀(Y':Yd) g',step Y.cc d=eh Y'.cc->Mv h Y g' Y'->Q .non g'):wF P (n+6) "Yard.deed" [.ref Y.y,d.v] h Q X:=by
 refine Eb x λg Q' x1 x' hq=>?_;have no:fb Y.bs Y.ts:=gd.no;have ok:∀e∈Y.es,Bok Y.ts.length e.B:=λe he=>gd.ok (e.num,e.B)<|Ú.mpr ⟨e,he,rfl⟩;have oks:∀e∈Y.es,e.B.ok:=λe he=>(ok e he).ok;have hl:Y.road.length<=16*N:=gd.len;have key:=x.key;have xi:=x'.ins;have xs:=x'.stand;have xf:=x'.fallen;have xl:=x'.lives;have fin:∀{Y':Yd} {g'},eS g' Y'->step Y.cc d=eh Y'.cc->Y'.y=Y.y->(∀a∈Y'.adr,a∈Y.adr\/g a=ei)->Ex Y.adr g g'->∀v,Q' v g':=λ{Y' g'} y s e f ex v=>hq v g'<|k Y' g' s ⟨e,y,λa ha=>(f a ha).imp id λz=>XS x1 z,(Ex.of x1).trans ex⟩;have bad:∀{p:Prop},step Y.cc d=ei->p:=λ{p} s=>by rw[s]at sd;cases sd
 have h10:Y.lives.length<=10:=by have e:=congrArg List.length gd.lv;rw[Ã]at e;have:=no.ten;have:Y.cc.bs.length=Y.bs.length:=rfl;have:Y.cc.lives.length=Y.lives.length:=rfl;lia
 have e10:Y.es.length<=10:=by
  have:=NN gd.nd<|keys_sub.mp gd.sub;have h2:(Y.cc.br.map (·.1)).length=Y.es.length:=by show((enC Y.es).map (·.1)).length=_;rw[XU,Ã]
  have:=no.ten;have:Y.cc.bs.length=Y.bs.length:=rfl;lia
 have f16:Y.fallen.length<=16:=by
  have:=ZZ (m:=16) gd.fn λx hx=>by obtain⟨q,hq,rfl⟩:=Ú.mp hx;have:=gd.fr q hq;have:=no.sixteen;have:Y.cc.ts.length=Y.ts.length:=rfl;lia
  rw[Ã]at this;exact this
 clear sd;cases d with
 |tick b =>
  show wF P (n+5) "Yard.tick_of" [.ref Y.y,.int b] g Q' X;cases lk:(stands Y.es).lookup b with
  |none =>refine bad ?_;have:=Wb (Y:=Y) (b:=b);rw[lk]at this;show(Y.cc.br.lookup b).map _=ei;rw[Option.isSome_eq_false_iff.mp this |> aL.mp];rfl
  |some a =>
   obtain⟨e,pre,Ĺ,he,rfl,rfl⟩:=Xc lk;have hm:e∈Y.es:=by rw[he];simp
   refine UK x' he (oks e hm) (ok e hm).pl (by lia) λd' g2 y2 hd x2=>?_;refine fin y2 ?_ rfl (O8 he rfl<|.inr hd) x2 .non;show(Y.cc.br.lookup e.num).map _=_;rw[show Y.cc.br.lookup e.num=eh e.B from WJ gd.nd<|Ú.mpr ⟨e,hm,rfl⟩];unfold Yd.cc;dsimp only;rw[Uo (F:=Br.ticked) he key];rfl
 |come p =>
  show wF P (n+5) "Yard.come" [.ref Y.y,.int p] g Q' X;by_cases hp:0<=p/\p<Y.road.length
  .obtain⟨q,rfl⟩:∃q:Nat,p=q:=⟨p.toNat,by lia⟩
   have hr:=Ê (l:=Y.road) (i:=q) (by lia);generalize Y.road[q]'(by lia)=r at hr;have st:step Y.cc (.come q)=eh {Y.cc with br:=upC r.2.1 (Yb · r.2.2.1 r.2.2.2) Y.cc.br,road:=Y.road.eraseIdx q}:=by show(if(q:Int)<0 then ei else(Y.road[(q:Int).toNat]?).map _)=_;rw[f7 (by lia),á,hr];rfl
   cases lk:(stands Y.es).lookup r.2.1 with
   |none =>refine Cc x' hr (by lia) (KW lk) λg2 y2 x2=>fin y2 ?_ rfl (λa ha=>.inl ha) x2 .non;rw[st];unfold Yd.cc;dsimp only;rw[<-WS,XJ<|KW lk]
   |some a =>
    obtain⟨e,pre,Ĺ,he,hn,rfl⟩:=Xc lk;have hm:e∈Y.es:=by rw[he];simp
    refine El x' hr (by lia) he hn.symm (oks e hm) λg2 y2 x2=>fin y2 ?_ rfl (O8 he rfl<|.inl rfl) x2 .non;rw[st];unfold Yd.cc;dsimp only;rw[<-hn,Uo (F:=(Yb · r.2.2.1 r.2.2.2)) he key]
  .exact bad<|O2 hp
 |lost p =>
  show wF P (n+5) "Yard.take_off" [.ref Y.y,.int p] g Q' X;by_cases hp:0<=p/\p<Y.road.length
  .obtain⟨q,rfl⟩:∃q:Nat,p=q:=⟨p.toNat,by lia⟩
   have hr:=Ê (l:=Y.road) (i:=q) (by lia);refine Xv x' hr (by lia) λg2 y2 x2=>fin y2 ?_ rfl (λa ha=>.inl ha) (x2.sub λa ha=>by rw[â.mp ha];exact Ö _<|by simp) _;show(if(q:Int)<0 then ei else(Y.road[(q:Int).toNat]?).map _)=_;rw[f7 (by lia),á,hr];rfl
  .exact bad<|O2 hp
 |fallB b =>
  show wF P (n+5) "Yard.fall_of_bridge" [.ref Y.y,.int b] g Q' X;have lc:=Wb (Y:=Y) (b:=b);cases lk:(stands Y.es).lookup b with
  |none =>rw[lk]at lc;exact bad (f7<|by rw[lc];decide)
  |some a =>
   rw[lk]at lc;refine DB no x' oks (by rw[<-ZF];exact ÿ (f:=(·.1))<|Zx lk) λg2 y2 gd2 x2=>?_;have sm:=YG (fT b 0 Y.ts) {Y with es:=Ym b Y.es};refine fin y2 ?_ sm.y (λa ha=>.inl ?_) x2 .non
   .rw[Oo];refine(f6 lc).trans ?_;congr 2;unfold Yd.cc;dsimp only;congr 1;unfold Zt enC Ym;rw[List.filter_map];rfl
   .rw[sm.adr]at ha;exact((Ţ _).append<|WC<|Xl b Y.es).subset ha
 |fallT p =>
  show wF P (n+5) "Yard.fall_of_tie" [.ref Y.y,.int p] g Q' X;have htl:(Y.ts.map trV).length=Y.ts.length:=Ã _;by_cases hp:0<=p/\p<Y.ts.length
  .obtain⟨q,rfl⟩:∃q:Nat,p=q:=⟨p.toNat,by lia⟩
   have et:=Ê (l:=Y.ts) (i:=q) (by lia);have eg:Y.ts[(q:Int).toNat]?.getD (0,0,0)=Y.ts[q]'(by lia):=by rw[á,et];rfl
   cases lk:Y.fallen.lookup (q:Int)with
   |none =>
    refine BC no x' oks et lk (by lia) λg2 y2 x2=>fin y2 ?_ rfl (λa ha=>.inl ?_) x2 .non
    .refine(f6 ⟨hp,by show(Y.fallen.lookup _).isSome=ez;rw[lk];rfl⟩).trans<|congrArg eh ?_;have:=Ol (Y:={Y with fallen:=Zu Y.fallen q ej}) (p:=q);dsimp only at this;rw[eg]at this;exact this.symm
    .unfold Yd.adr at ha ⊢;dsimp only at ha
     rwa [Jq]at ha
   |some v =>exact bad (f7 λz=>by have z:=z.2;have:(Y.fallen.lookup (q:Int)).isSome=ez:=z;rw[lk]at this;cases this)
  .exact bad<|f7 λz=>hp z.1
 |backB b =>
  show wF P (n+5) "Yard.back_of_bridge" [.ref Y.y,.int b] g Q' X;have lc:=Wb (Y:=Y) (b:=b);cases ll:Y.lives.lookup b with
  |none =>
   refine bad ?_;dsimp only[step];split
   .rfl
   .show(Y.lives.lookup b).map _=ei;rw[ll];rfl
  |some life =>
   cases lk:(stands Y.es).lookup b with
   |some a =>rw[lk]at lc;exact bad<|f6 lc
   |none =>
    rw[lk]at lc;refine Bn no x' oks ll (KW lk) (by lia) (by lia) λq t d' g2 fr y2 gd2 x2=>?_;have sm:=YG (fT b 0 Y.ts) {Y with lives:=Zu Y.lives b<|life+1,es:=Y.es++[⟨b,q,t,d',ZS b (life+1) Y.most []⟩]};refine fin y2 ?_ sm.y (λa ha=>?_) x2 .non
    .rw[Oo];refine(f7<|by rw[lc];decide).trans ?_;show(Y.lives.lookup b).map _=_;rw[ll];congr 2;unfold Yd.cc;dsimp only;unfold enC;rw[ß];rfl
    .rw[sm.adr]at ha;have z:a∈[Y.y,Y.lv,Y.st,Y.fl,Y.rd]++enA (Y.es++[⟨b,q,t,d',ZS b (life+1) Y.most []⟩]):=ha;rw[X4,<-ı]at z;rcases å.mp z with z|z
     .exact .inl z
     .exact .inr<|fr a z
 |backT p =>
  show wF P (n+5) "Yard.back_of_tie" [.ref Y.y,.int p] g Q' X;cases lk:Y.fallen.lookup p with
  |none =>exact bad (f7<|by show ¬(Y.fallen.lookup p).isSome=ej;rw[lk];decide)
  |some v =>
   have hp:=gd.fr _<|Zx lk;have hp2:p<Y.ts.length:=hp.2;obtain⟨q,rfl⟩:∃q:Nat,p=q:=⟨p.toNat,by have:0<=p:=hp.1;lia⟩
   have et:=Ê (l:=Y.ts) (i:=q) (by lia);have eg:Y.ts[(q:Int).toNat]?.getD (0,0,0)=Y.ts[q]'(by lia):=by rw[á,et];rfl
   refine CJ no x' oks et lk λg2 y2 x2=>fin y2 ?_ rfl (λa ha=>.inl ?_) x2 .non
   .refine(f6<|by show(Y.fallen.lookup _).isSome=ej;rw[lk];rfl).trans<|congrArg eh ?_;have:=Ol (Y:={Y with fallen:=Zt Y.fallen q}) (p:=q);dsimp only at this;rw[eg]at this;exact this.symm
   .unfold Yd.adr at ha ⊢;dsimp only at ha
    rwa [Jq]at ha
end
abbrev Yc.at_(C:Yc)(b:Int):Br:=(C.br.lookup b).getD<|ZS 0 0 0 []
abbrev Yc.keys(C:Yc):List Int:=sortI (C.br.map (·.1))
abbrev Mo(C:Yc):List Val:=C.keys.map λb=>.tup [.int b,(C.at_ b).label.v]
abbrev Fo(C:Yc)(b p:Int):String:=if(C.br.lookup b).isSome then Ca (C.at_ b) p else "down"
abbrev Yc.ends(C:Yc)(p:Int):String×String:=(Fo C (C.tie p).1 p,Fo C (C.tie p).2.1 p)
abbrev Yc.downs(C:Yc):List Int:=C.bs.filter λb=>!(C.br.lookup b).isSome
abbrev Yc.cuts(C:Yc):List Int:=sortI (C.fallen.map (·.1))
def Yc.gd.ten(g:C.gd N):(C.br.map (·.1)).length<=10:=Ý (NN g.nd<|keys_sub.mp g.sub) g.no.ten
def Yc.gd.f16(g:C.gd N):(C.fallen.map (·.1)).length<=16:=ZZ (m:=16) g.fn λx hx=>by obtain⟨q,hq,rfl⟩:=Ú.mp hx;have:=g.fr q hq;have:=g.no.sixteen;lia
def W0:C.keys.length=(C.br.map (·.1)).length:=(Š _ _).length_eq
def keys_mem{b:Int}:b∈C.keys↔(C.br.lookup b).isSome=ej:=by unfold Yc.keys;rw[mem_sort,keys_look]
def eS.at_(x:eS h Y){b:Int}(hb:(Y.cc.br.lookup b).isSome=ej):∃e∈Y.es,e.num=b/\(O.stands Y.es).lookup b=eh e.b/\Y.cc.at_ b=e.B/\eR h e.b e.t e.d e.B:=by
 rw[Wb]at hb;obtain⟨a,ha⟩:=ø.mp hb;obtain⟨e,pre,Ĺ,he,rfl,rfl⟩:=Xc ha;have hm:e∈Y.es:=by rw[he];simp
 refine⟨e,hm,rfl,ha,?_,x.brs e hm⟩;have:(enC Y.es).lookup e.num=eh e.B:=WJ (by rw[XU];exact x.key)<|Ú.mpr ⟨e,hm,rfl⟩;show((enC Y.es).lookup e.num).getD _=_;rw[this];rfl
section
variable {Y:Yd}{N:Nat}
def Fp(x:eS h Y)(k:∀p g,h p=ei->Ext h g->g p=eh (.lst<|Y.road.map rdV)->Q (.ref p) g):wF P (n+1) "Yard.road" [.ref Y.y] h Q X:=by have xi:=x.ins;have xr:=x.road;refine M0 ?_;refine' Zl k
def DN(x:eS h Y)(k:Q (ZP Y.bs Y.ts) h):wF P (n+1) "Yard.net" [.ref Y.y] h Q X:=by have xi:=x.ins;refine On ?_;refine' k
def KH(x:eS h Y)(gd:Y.cc.gd N)(k:∀p g,h p=ei->Ext h g->g p=eh (.lst<|Mo Y.cc)->Q (.ref p) g):wF P (n+2) "Yard.labels" [.ref Y.y] h Q X:=by
 have xi:=x.ins;have xs:=x.stand;have ek:(stands Y.es).map (·.1)=Y.cc.br.map (·.1):=(ZF _).trans (XU _).symm;have h10:=gd.ten;have kl:=W0 (C:=Y.cc);refine J5 ?_;refine' Os xs (Dz _) (by rw[ek];lia) (Zl λp1 g1 bN x1 e1=>?_);rw[ek]at e1;have x':=x.ext x1;have xi:=x'.ins;have xs:=x'.stand;refine' ⟨Ø (by rw[Ã];show Y.cc.keys.length<=10;lia) (by decide),?_⟩;refine Z3 (λi ys g=>g=g1/\ys=(Y.cc.keys.take i).map λb=>.tup [.int b,(Y.cc.at_ b).label.v]) ⟨rfl,rfl⟩ (λi ys g _ ⟨z,_⟩=>by rw[z];exact lsE e1) ?_ ?_
 .rintro i v ys g hv ⟨rfl,rfl⟩ K hK;obtain⟨nm,hnm,rfl⟩:=Z5 hv;obtain⟨e,he,en,lk,ea,ba⟩:=x'.at_<|keys_mem.mp<|ă hnm;have bi:=ba.ins;walk_at "p";refine ZU xs rfl (by rw[Z1,lk];rfl) ?_
  exists CK ba
  refine' hK _ _ ⟨rfl,?_⟩;rw[Zp (xs:=Y.cc.keys) hnm,ß,<-ea];rfl
 .rintro ys g ⟨rfl,rfl⟩;rw[Ã,show(sortI (Y.cc.br.map (·.1))).length=Y.cc.keys.length from rfl,ā];exact Zl λp g2 hp x2 ep=>k p g2 (XS x1 hp) (x1.trans x2) ep
def Nk(x:eS h Y)(gd:Y.cc.gd N)(k:∀g,Ext h g->Q (.tup [.tup<|Y.cc.downs.map .int,.tup<|Y.cc.cuts.map .int]) g):wF P (n+1) "Yard.down" [.ref Y.y] h Q X:=by
 have xi:=x.ins;have xs:=x.stand;have hbl:(Y.bs.map Val.int).length<=10:=by rw[Ã];exact gd.no.ten
 refine MS ?_
 exists eM (xs:=[.tup<|Y.bs.map .int,.tup<|Y.ts.map trV]) (v:=.tup<|Y.bs.map .int) rfl
 refine' ⟨Ø hbl (by decide),Z3 (λi ys g=>g=h/\ys=((Y.bs.take i).filter λb=>!(Y.cc.br.lookup b).isSome).map .int) ⟨rfl,rfl⟩ (λ_ _ _ _ _=>trivial) ?_ ?_⟩
 .rintro i v ys g hv ⟨rfl,rfl⟩ K hK;obtain⟨b,hb,rfl⟩:=Z5 hv;rw[Zp hb,dF,Ĩ,List.filter_nil]at hK
  exists Xn xs rfl
  rw[YN,<-Wb];refine' fK (λhc=>?_) (λhc=>?_)
  .refine' hK _ _ ⟨rfl,by rw[hc,f6 rfl,ß];rfl⟩
  .exact hK _ _ ⟨rfl,by rw[hc,f7 (by decide),Ā,cM,Ā]⟩
 rintro ys g ⟨rfl,rfl⟩;rw[Ã,ā];refine Zl λp1 g1 bN x1 e1=>?_;have x':=x.ext x1;have xi:=x'.ins;have xf:=x'.fallen;refine' Os xf (Dz _) (by have:=gd.f16;show(Y.cc.fallen.map (·.1)).length<_;lia) (Zl λp2 g2 hp2 x2 e2=>?_);refine' k _ (x1.trans x2)
def Nv{b p:Int}(x:eS h Y)(k:Q (.str<|Fo Y.cc b p) h):wF P (n+4) "Yard.end_at" [.ref Y.y,.int b,.int p] h Q X:=by
 have xi:=x.ins;have xs:=x.stand;refine J4 ?_
 exists Xn xs rfl
 rw[YN,<-Wb];fail;unfold Fo at k;cases z:(Y.cc.br.lookup b).isSome with
 |false =>rw[z]at k;walk_at "p";exact k
 |true =>rw[z,f6 rfl]at k;obtain⟨e,he,en,lk,ea,ba⟩:=x.at_ z;have bi:=ba.ins;walk_at "p";refine ZU xs rfl (by rw[Z1,lk];rfl) ?_;fail;rw[ea]at k;exact Ih ba k
def Ul{p:Nat}(x:eS h Y)(hp:p<Y.ts.length)(k:Q (.tup [.str (Y.cc.ends p).1,.str (Y.cc.ends p).2]) h):wF P (n+5) "Yard.ends" [.ref Y.y,.int p] h Q X:=by
 have xi:=x.ins;have htl:(Y.ts.map trV).length=Y.ts.length:=Ã _;have eg:Y.cc.tie p=Y.ts[p]:=by show Y.ts[(p:Int).toNat]?.getD _=_;rw[á,Ê hp];rfl
 refine Nx ?_
 exists Xd
 fail;refine fH (by simp) ?_
 exists eM (xs:=[.tup<|Y.bs.map .int,.tup<|Y.ts.map trV]) (v:=.tup<|Y.ts.map trV) rfl
 fail;refine fI (by rw[htl];simpa using hp) ?_
 exists eM (xs:=[.tup<|Y.bs.map .int,.tup<|Y.ts.map trV]) (v:=.tup<|Y.ts.map trV) rfl
 refine' eM (v:=trV Y.ts[p]) (YU (by lia)<|by rw[á,Ò,Ê hp];rfl) ?_;unfold Yc.ends at k;rw[eg]at k;unfold trV
 exists Nv x
 exists Nv x
 refine' k
end
abbrev Row(h:Hs)(w:Ad):Prop:=∃a b:Int,h w=eh (.lst [.int a,.int b])/\0<=b/\b<2147483587
def Row.ne(x:Row h w)(e:h p=ei):w≠p:=by obtain⟨_,_,x,_⟩:=x;exact Za x e
def Row.ext(x:Row h w)(e:Ext h g):Row g w:=by obtain⟨_,_,x,y⟩:=x;exact⟨_,_,e.get x,y⟩
def Gw{i:Int}(e:h a=eh (.lst<|ns.map .int))(q:KB (!gf (i∈ns))):go (eY h .notin (.int i)<|.ref a) KB:=eL (by show(inV h (.int i)<|.ref a).map _=_;unfold inV;simp only[e];rw[KK];rfl) q
def lset(e:h a=eh (.lst<|ns.map .int))(m:ns.length<4000)(q:Q (.int (dedup ns).length) h):(biV h .lenSet [.ref a]).wp h Q:=wp_val (by show biLenSet h (.ref a)=_;unfold biLenSet sortOf;simp only[e,eU,ú,Z7];rw[f6 m]) q
def Kg:∀(ns:List Int),(dedup ns).length=ns.length↔ns.Nodup
 |[]=>by simp[dedup]
 |n::ns=>by
  have h1:=W8 ns;have h2:=ų (λy=>y != n)<|dedup ns;have ih:=Kg ns;rw[dedup,Ë,Ë,ć];constructor
  .intro h;have h3:(List.filter (λy=>y != n)<|dedup ns).length=(dedup ns).length:=by lia
   have h4:=ac.mp h3;refine⟨λhm=>?_,ih.mp<|by lia⟩;have:=h4 n<|mem_dedup.mpr hm;simp at this
  .rintro⟨h3,h4⟩;have h5:=ih.mpr h4;have h6:(List.filter (λy=>y != n)<|dedup ns).length=(dedup ns).length:=ac.mpr λy hy=>by
    have:=mem_dedup.mp hy;simp only[bne_iff_ne,ne_eq];rintro rfl;exact h3 this
   lia
def Row.exb(x:Row h w)(n:p≠w):Row (upd h p o) w:=by obtain⟨_,_,x,y⟩:=x;exact⟨_,_,(eB n.symm).trans x,y⟩
def Nn(x:ExtB w h g)(e:h p=ei):ExtB w h<|upd g p o:=⟨λ{a u} n z=>by rw[eB<|Za z e];exact x.get n z⟩
def OL(k:∀p g,h p=ei->Ext h g->Row g p->Q (.ref p) g):wF P (n+1) "_law_row" [.int c] h Q X:=by refine Aq ?_;refine' Zl λp g hp x e=>k p g hp x ⟨_,_,e,ϒ _ (by decide),ω _<|by decide⟩
def Zd(hw:Row h w)(h1:0<m)(h2:m<1073741824)(k:∀r g,0<=r->r<m->ExtB w h g->Row g w->Q (.int r) g):wF P (n+1) "_law_take" [.ref w,.int m] h Q X:=by
 obtain⟨a,b,e,b0,b1⟩:=hw;refine Oy ?_;refine' fJ (λhc=>?_) (λhc=>?_)<;>fail
 .exact k _ _ (ϒ _<|by lia) (ω _ h1) ExtB.upd ⟨_,_,eC,b0,b1⟩
 .exact k _ _ (ϒ _<|by lia) (ω _ h1) ExtB.upd ⟨_,_,eC,ϒ _ (by decide),ω _<|by decide⟩
abbrev TOk(ns:List Int)(t:Tie):Prop:=t.1∈ns/\t.2.1∈ns/\t.1≠t.2.1/\1<=t.2.2/\t.2.2<=1000
abbrev IsT(ns:List Int)(v:Val):Prop:=∃t:Tie,v=trV t/\TOk ns t
def Pd(nd:ns.Nodup){i j:Int}{a b:Int}(i0:0<=i)(i1:i<ns.length)(j0:0<=j)(j1:j<ns.length)(hij:i≠j)(ea:atI (ns.map Val.int) i=eh (.int a))(eb:atI (ns.map Val.int) j=eh (.int b)):a≠b:=by
 have hi:i.toNat<ns.length:=by lia
 have hj:j.toNat<ns.length:=by lia
 have e1:=YU (xs:=ns.map Val.int) i0 (x:=.int ns[i.toNat]) (by rw[Ò,Ê hi];rfl);have e2:=YU (xs:=ns.map Val.int) j0 (x:=.int ns[j.toNat]) (by rw[Ò,Ê hj];rfl);rw[ea]at e1;rw[eb]at e2;simp only[ĩ,Val.int.injEq]at e1 e2;rw[e1,e2];intro z;have:=(List.getElem_inj nd).mp z;lia
abbrev OF(t:Tie):Tie:=(if t.2.1<t.1 then t.2.1 else t.1,if t.2.1 > t.1 then t.2.1 else t.1,t.2.2)
def FV{t:Tie}(h:TOk ns t):LOk ns<|OF t:=by
 obtain⟨h1,h2,h3,h4,h5⟩:=h;unfold OF LOk;by_cases z:t.2.1<t.1
 .rw[f6 z,f7<|by lia];exact⟨h2,h1,z,h4,h5⟩
 .rw[f7 z,f6<|by lia];exact⟨h1,h2,by show t.1<t.2.1;lia,h4,h5⟩
def O1{ns:List Int}:∀{ys:List Val},(∀y∈ys,IsT ns y)->∃zs:List Tie,ys=zs.map trV/\∀z∈zs,TOk ns z
 |[],_=>⟨[],rfl,by simp⟩
 |y::ys,h=>by obtain⟨t,rfl,ht⟩:=h y (by simp);obtain⟨zs,rfl,hz⟩:=O1 (ys:=ys) λz hz=>h z<|Ü _ hz;exact⟨t::zs,rfl,λz hz'=>(Ç.mp hz').elim (λe=>e▸ht)<|hz z⟩
def isl{xs:List Val}(e:h a=eh (.lst xs))(q:Q (.bl ej) h):(biV h (.isi ["list"]) [.ref a]).wp h Q:=Py (by unfold isiAny isiAny fY fX;simp only[e];rfl) q
variable {lo:Int}
def OV{i hi:Int}(h1:lo<=i)(h2:i<=hi)(k:Q (.bl ej) h):wF P (n+2) "is_whole_between" [.int i,.int lo,.int hi] h Q X:=by
 refine Xr ?_
 exists Xx
 walk_at "p";refine fH (by simpa using h1) ?_;fail;rw[f9 h2];exact k
def MW{i:Int}(k:Q (.bl ej) h):wF P (n+1) "is_whole" [.int i] h Q X:=by refine Xx ?_;walk_at "p";exact k
def UD{xs:List Val}:xs.filterMap (λ_=>eh<|Val.bl ej)=(xs.map λ_=>ej).map Val.bl:=by rw[õ];exact congrFun (ό (f:=Val.bl ∘ λ_=>ej)) xs
def Hr(e:h a=eh (.lst<|ns.map .int))(l2:ns.length<=10)(hb:Brs ns)(nd:ns.Nodup)(k:∀g,Ext h g->Q (.bl ej) g):wF P (n+3) "are_bridges" [.ref a] h Q X:=by
 refine JV ?_;have hL:(ns.map Val.int).length=ns.length:=Ã _;refine' ⟨Ø (by rw[hL];exact l2) (by decide),ZY (λ_=>eh<|.bl ej) (lsE e) (λv hv K hK=>?_) ?_⟩
 .obtain⟨i,hi,rfl⟩:=Ú.mp hv;walk_at "p";exact OV (hb i hi).1 (by have:=(hb i hi).2;lia) hK
 rw[UD];refine Zl λp g hp x ep=>?_
 exists OD ep (YE _)
 fail;refine fI (by simp) ?_;have e':=x.get e;refine' lset e' (by lia) ?_;fail;have:gf (((dedup ns).length:Int)=((ns.map Val.int).length:Int))=ej:=f9 (by rw[hL];have:=(Kg ns).mpr nd;lia);rw[this];exact k g x
def HW{t:Tie}(ht:TOk ns t)(e:h b=eh (.lst<|ns.map .int))(k:Q (.bl ej) h):wF P (n+3) "is_tie" [trV t,.ref b] h Q X:=by
 obtain⟨i,j,c⟩:=t;obtain⟨h1,h2,h3,h4,h5⟩:=ht;unfold trV;dsimp only at h1 h2 h3 h4 h5 ⊢;refine Do ?_;walk_at "p";refine MW ?_;walk_at "p";refine MW ?_;walk_at "p";refine Gw e ?_;fail;refine fI (by simpa using h1) ?_
 exists Gw e
 fail;refine fI (by simpa using h2) ?_;fail;refine fH (by simpa using h3) ?_;refine' OV h4 h5 k
def E3{t:Tie}(k:Q (trV<|OF t) h):wF P (n+1) "lesser_end_first" [trV t] h Q X:=by obtain⟨i,j,c⟩:=t;unfold trV;refine Xz ?_;refine' k
def Ee{zs:List Tie}(eb:h b=eh (.lst<|ns.map .int))(et:h t=eh (.lst<|zs.map trV))(l1:1<=ns.length)(l2:ns.length<=10)(hb:Brs ns)(nd:ns.Nodup)(lt:zs.length<=16)(hz:∀z∈zs,TOk ns z)
  (k:∀g,Ext h g->Q (ZP (sortI ns)<|zs.map OF) g):wF P (n+4) "make_net" [.ref b,.ref t] h Q X:=by
 have hL:(ns.map Val.int).length=ns.length:=Ã _;have hT:(zs.map trV).length=zs.length:=Ã _;refine Ot ?_;refine Fg<|Pe<|Ro<|Gy<|GE<|Qd<|AO<|Gv rfl<|A5<|isl eb<|g_tbl ?_;refine fI rfl ?_;refine Gy<|GE<|Qd<|AO<|Gv rfl<|A5<|isl et<|g_tbl ?_;refine fI rfl ?_;fail;refine fH (by simpa using (by lia:(1:Int)<=(ns.map Val.int).length)) ?_;fail;refine fI (by simpa using (by lia:(ns.length:Int)<=10)) ?_;fail;refine fI (by simpa using (by lia:(zs.length:Int)<=16)) ?_;refine' Hr eb l2 hb nd λg x=>?_;fail;refine fI rfl ?_;have eb':=x.get eb;have et':=x.get et;refine' ⟨Ø (by rw[hT];exact lt) (by decide),ZY (λ_=>eh<|.bl ej) (lsE et') (λv hv K hK=>?_) ?_⟩
 .obtain⟨z,hz',rfl⟩:=Ú.mp hv;walk_at "p";exact HW (hz z hz') eb' hK
 rw[UD];refine Zl λp g2 hp x2 ep=>?_
 exists OD ep (YE _)
 fail;refine fI (by simp) ?_;have eb2:=x2.get eb';have et2:=x2.get et';refine' HA eb2 (Z7 _) (by lia) ?_;refine Zl λp3 g3 hp3 x3 ep3=>?_;have et3:=x3.get et2;refine' ⟨Ø (by rw[hT];exact lt) (by decide),Z3 (λi ys g=>g=g3/\ys=(zs.take i).map λz=>trV<|OF z) ⟨rfl,rfl⟩ (λ_ _ g _ z=>by rw[z.1];exact lsE et3) (λi v ys g hv hI K hK=>?_) λys g hI=>?_⟩
 .obtain⟨rfl,rfl⟩:=hI;rw[Ò]at hv;obtain⟨z,hz',rfl⟩:=Î.mp hv;walk_at "p";refine E3<|hK _ _ ⟨rfl,?_⟩;rw[ŭ,hz',ß];rfl
 .obtain⟨rfl,rfl⟩:=hI;rw[hT,ā];refine Zl λp4 g4 hp4 x4 ep4=>?_;fail;have e:ZP (sortI ns) (zs.map OF)=.tup [.tup<|(sortI ns).map .int,.tup<|zs.map λz=>trV<|OF z]:=by unfold ZP;rw[õ];rfl
  rw[e]at k;exact k _<|((x.trans x2).trans x3).trans x4
def Bb{v:Val}(h:(fm lo m)[i]?=eh v):v=.int (lo+i)/\lo+(i:Int)<m:=by unfold fm at h;rw[Ò]at h;obtain⟨k,hk,rfl⟩:=Î.mp h;obtain⟨Ϥ,rfl⟩:=Ð.mp hk;rw[ŕ]at Ϥ;rw[dC];exact⟨rfl,by lia⟩
def Cf:(fm lo m).length=(m - lo).toNat:=by unfold fm;rw[Ã,ŕ]
def Lp(hw:Row h w)(k:∀bs ts g,fb bs ts->ExtB w h g->Row g w->Q (ZP bs ts) g):wF P (n+5) "_law_net" [.ref w] h Q X:=by
 refine UY ?_;refine' Zd hw (by decide) (by decide) λr0 g0 a0 b0 x0 w0=>?_;refine' Zl λp1 g1 bN x1 e1=>?_;have n1:p1≠w:=λz=>w0.ne bN z.symm;refine' Zd (w0.ext x1) (by decide) (by decide) λr2 g2 a2 b2 x2 w2=>?_;obtain⟨v,ev,hv⟩:=Xa (xs:=[Val.int 1,.int 3,.int 10,.int 100]) (r:=r2) a2 b2;obtain⟨st,rfl,s1,s2⟩:∃st:Int,v=.int st/\1<=st/\st<=100:=by simp only[Ç,Þ,or_false]at hv;rcases hv with rfl|rfl|rfl|rfl<;>exact⟨_,rfl,by decide,by decide⟩
 refine Ye (x2.get n1 e1) ev ?_;have xh:ExtB w h g2:=(x0.trans<|.of x1).trans x2;clear e1 ev hv;refine' ⟨⟨by lia,by lia⟩,by rw[WE];exact Ø (by lia:(1+r0).toNat<=6) (by decide),?_⟩;refine Z3 (λi ys g=>∃ns:List Int,ys=ns.map Val.int/\ns.length=i/\Brs ns/\ExtB w h g/\Row g w) ⟨[],rfl,rfl,(λi hi=>gc hi Þ),xh,w2⟩ (λ_ _ _ _ _=>trivial) ?_ ?_
 .rintro i v ys g hv ⟨ns,rfl,hl,hb,x,hr⟩ K hK;obtain⟨rfl,hi⟩:=K3 hv;walk_at "p";refine Zd hr (by decide) (by decide) λr3 g3 a3 b3 x3 w3=>?_;have m1:(i:Int)+r3<=6:=by lia
  have m2:st*((i:Int)+r3)<=100*6:=Int.le_trans (Int.mul_le_mul_of_nonneg_right s2<|by lia) (Int.mul_le_mul_of_nonneg_left m1<|by decide);have m3:0<=st*((i:Int)+r3):=Int.mul_nonneg (by lia) (by lia);refine' Zl λp4 g4 hp4 x4 e4=>?_;fail;have d0:(0:Int)<=st / 100:=Int.ediv_nonneg (by lia) (by decide);have d1:st / 100<2:=Int.ediv_lt_of_lt_mul (by decide) (by lia);obtain⟨v,ev,hv⟩:=Xa (xs:=[Val.int 0,.int 7]) (r:=st / 100) d0 d1;obtain⟨c,rfl,c0,c1⟩:∃c:Int,v=.int c/\0<=c/\c<=7:=by simp only[Ç,Þ,or_false]at hv;rcases hv with rfl|rfl<;>exact⟨_,rfl,by decide,by decide⟩
  refine Ye e4 ev ?_;refine' hK _ _ ⟨ns++[st*((i:Int)+r3)+c],by rw[ß];rfl,by rw[ê,hl];rfl,λj hj=>?_,(x.trans x3).trans<|.of x4,w3.ext x4⟩;rcases å.mp hj with hj|hj
  .exact hb j hj
  .rw[â.mp hj];lia
 .rintro ys g ⟨ns,rfl,hl,hb,x,hr⟩;rw[WE]at hl;have l1:1<=ns.length:=by lia
  have l2:ns.length<=6:=by lia
  refine Zl λp5 g5 hp5 x5 e5=>?_;refine' Q3 e5 (by lia) (Zl λb g6 hb6 x6 eb=>?_);have hrb:Brs<|sortI<|dedup ns:=λi hi=>hb i<|sd_mem.mp hi;have nd:=DA ns;have l3:=IJ l1;have l4:=Le ns;generalize sortI (dedup ns)=bs at eb hrb nd l3 l4;have w6:=(hr.ext x5).ext x6;have nb:b≠w:=λz=>(hr.ext x5).ne hb6 z.symm;have xh6:ExtB w h g6:=x.trans<|.of<|x5.trans x6;clear e5 x6 x5 hp5 hr x hb;have hL:(bs.map Val.int).length=bs.length:=Ã _;refine' Zl λt g7 ht7 x7 e7=>?_;have nt:t≠w:=λz=>w6.ne ht7 z.symm;have ntb:t≠b:=λz=>Za eb ht7 z.symm;refine' Zd (w6.ext x7) (by decide) (by decide) λr8 g8 a8 b8 x8 w8=>?_;have xh8:ExtB w h g8:=xh6.trans<|(ExtB.of x7).trans x8;have eb8:=x8.get nb<|x7.get eb;have e8:=x8.get nt e7;clear e7 eb;have ht0:h t=ei:=by
   cases z:h t with
   |none=>rfl
   |some o=>rw[xh6.get nt z]at ht7;cases ht7
  refine' ⟨⟨by lia,by lia⟩,?_⟩;refine Zz (λi en g=>Sm5 λv3 v6 v7 v8 ts=>Cj7 (en=[eh<|.ref w,eh<|.int<|1+r0,eh<|.int st,v3,eh<|.ref b,eh<|.ref t,v6,v7,v8]) (g t=eh (.lst ts)) (ts.length<=i) ((∀t∈ts,IsT bs t)) (g b=eh (.lst<|bs.map .int)) (ExtB w h g)<|Row g w) ⟨_,_,_,_,[],rfl,e8,Ì _,(λi hi=>gc hi Þ),eb8,xh8,w8⟩ (λ_ _ _ _ _=>trivial) ?_ ?_
  .rintro i v en g hv ⟨v3,v6,v7,v8,ts,rfl,et,hl,ht,ebg,x,hr⟩ K hK;obtain⟨rfl,hi⟩:=K3 hv;refine' Zd hr (by lia) (by lia) λq1 g1 a1 b1 x1 w1=>?_;have eb1:=x1.get nb ebg;obtain⟨u1,eu1,hu1⟩:=Xa (xs:=bs.map Val.int) (r:=q1) a1 b1;obtain⟨i1,hi1,rfl⟩:=Ú.mp hu1;refine Ye eb1 eu1 ?_;refine' Zd w1 (by lia) (by lia) λq2 g2 a2 b2 x2 w2=>?_;have eb2:=x2.get nb eb1;obtain⟨u2,eu2,hu2⟩:=Xa (xs:=bs.map Val.int) (r:=q2) a2 b2;obtain⟨i2,dM,rfl⟩:=Ú.mp hu2;refine Ye eb2 eu2 ?_;refine' Zd w2 (by lia) (by lia) λq3 g3 a3 b3 x3 w3=>?_;refine' Zd w3 (by lia) (by lia) λq4 g4 a4 b4 x4 w4=>?_;refine' Zl λp9 g9 hp9 x9 e9=>?_;have n9:p9≠w:=λz=>w4.ne hp9 z.symm;refine' Zd (w4.ext x9) (by lia) (by lia) λq5 g5 a5 b5 x5 w5=>?_;obtain⟨u3,eu3,hu3⟩:=Xa (xs:=[Val.int 1,.int 1,.int 2,.int<|1+q3,.int<|1+q4]) (r:=q5) a5 b5;obtain⟨c,rfl,c0,c1⟩:∃c:Int,u3=.int c/\1<=c/\c<=1000:=by
    simp only[Ç,Þ,or_false]at hu3;rcases hu3 with rfl|rfl|rfl|rfl|rfl<;>exact⟨_,rfl,by lia,by lia⟩
   refine Ye (x5.get n9 e9) eu3 ?_;have xx:ExtB w g g5:=((((x1.trans x2).trans x3).trans x4).trans<|.of x9).trans x5;have et5:=xx.get nt et;have eb5:=xx.get nb ebg;refine' AI (λhc=>?_) (λhc=>?_)
   .refine' Zw et5 (Ø (by lia:ts.length<=10)<|by decide) ?_;dsimp only;refine' hK _ _ ⟨_,_,_,_,_,rfl,eC,by rw[ê];simp;lia,λz hz=>?_,(eB ntb.symm).trans eb5,Nn (x.trans xx) ht0,w5.exb nt⟩
    .rcases å.mp hz with hz|hz
     .exact ht z hz
     .rw[â.mp hz];exact⟨(i1,i2,c),rfl,hi1,dM,hc,c0,c1⟩
   .refine' hK _ _ ⟨_,_,_,_,_,rfl,et5,by lia,ht,eb5,x.trans xx,w5⟩
  .rintro en g ⟨v3,v6,v7,v8,ts,rfl,et,hl,ht,ebg,x,hr⟩;rw[WE]at hl;refine' ⟨⟨by lia,by lia⟩,?_⟩;refine Zz (λi en g=>Sm5 λv3 v6 v7 v8 ts=>Cj7 (en=[eh<|.ref w,eh<|.int<|1+r0,eh<|.int st,v3,eh<|.ref b,eh<|.ref t,v6,v7,v8]) (g t=eh (.lst ts)) (ts.length<=9+i) ((∀t∈ts,IsT bs t)) (g b=eh (.lst<|bs.map .int)) (ExtB w h g)<|Row g w) ⟨_,_,_,_,ts,rfl,et,by lia,ht,ebg,x,hr⟩ (λ_ _ _ _ _=>trivial) ?_ ?_
   .rintro i v en g hv ⟨v3,v6,v7,v8,ts,rfl,et,hl,ht,ebg,x,hr⟩ K hK;obtain⟨rfl,hi⟩:=Bb hv;rw[hL]at hi;refine' Zd hr (by lia) (by lia) λq1 g1 a1 b1 x1 w1=>?_;refine' fJ (λhc=>?_) (λhc=>?_)
    .refine' Zd w1 (by lia) (by lia) λq2 g2 a2 b2 x2 w2=>?_;have eb2:=x2.get nb<|x1.get nb ebg;obtain⟨u2,eu2,hu2⟩:=Xa (xs:=bs.map Val.int) (r:=q2) a2 (by lia);obtain⟨i2,dM,rfl⟩:=Ú.mp hu2;refine Ye eb2 eu2 ?_;fail;obtain⟨u3,eu3,hu3⟩:=Xa (xs:=bs.map Val.int) (r:=1+(i:Int)) (by lia) (by lia);obtain⟨i3,hi3,rfl⟩:=Ú.mp hu3;refine Ye eb2 eu3 ?_;refine' Zd w2 (by lia) (by lia) λq4 g4 a4 b4 x4 w4=>?_;have xx:ExtB w g g4:=(x1.trans x2).trans x4;have et4:=xx.get nt et;refine' Zw et4 (Ø (by lia:ts.length<=20)<|by decide) ?_;dsimp only;refine' hK _ _ ⟨_,_,_,_,_,rfl,eC,by rw[ê];simp;lia,λz hz=>?_,(eB ntb.symm).trans<|xx.get nb ebg,Nn (x.trans xx) ht0,w4.exb nt⟩;rcases å.mp hz with hz|hz
     .exact ht z hz
     .rw[â.mp hz];exact⟨(i2,i3,1+q4),rfl,dM,hi3,Pd nd a2 (by lia) (by lia) (by lia) (by lia) eu2 eu3,by show 1<=1+q4;lia,by show 1+q4<=1000;lia⟩
    .refine' hK _ _ ⟨_,_,_,_,_,rfl,x1.get nt et,by lia,ht,x1.get nb ebg,x.trans x1,w1⟩
   .rintro en g ⟨v3,v6,v7,v8,ts,rfl,et,hl,ht,ebg,x,hr⟩;rw[Cf]at hl;obtain⟨zs,rfl,hz⟩:=O1 ht;rw[Ã]at hl;refine' Ee ebg et l3 (by lia) hrb nd (by lia) hz λg3 x3=>?_;have hl2:(sortI bs).length=bs.length:=(Š bs _).length_eq;refine k _ _ _ ⟨by lia,by lia,λi hi=>hrb i<|mem_sort.mp hi,Mc nd,by rw[Ã];lia,λt ht=>?_⟩ (x.trans<|.of x3)<|hr.ext x3;obtain⟨z,hz',rfl⟩:=Ú.mp ht;obtain⟨q1,q2,q3⟩:=FV<|hz z hz';exact⟨mem_sort.mpr q1,mem_sort.mpr q2,q3⟩
abbrev FA(bs:List Int)(ts:List Tie)(most:Int):Yc:=⟨bs,ts,most,bs.map λb=>(b,0),bs.map λb=>(b,ZS b 0 most<|fT b 0 ts),[],[]⟩
def QB{bs:List Int}(nw:YNew bs ts most Y):Y.cc=FA bs ts most:=by
 have e:enC Y.es=bs.map λb=>(b,ZS b 0 most<|fT b 0 ts):=by rw[<-nw.num,õ];exact ğ λe he=>by show(e.num,e.B)=(e.num,_);rw[nw.br e he]
 unfold Yd.cc FA;rw[nw.hb,nw.ht,nw.hm,nw.lives,nw.fallen,nw.road,e]
def FC{b:Int}(h:ts.length<=16):Bok ts.length<|ZS b life most<|fT b 0 ts:=by
 have r:=JK (b:=b) (l:=ts) (k:=0);have rg:∀q∈Wn (fT b 0 ts),0<=q.1/\q.1<ts.length:=λq hq=>by obtain⟨x,hx,rfl⟩:=Ú.mp hq;have:=r.2 x hx;dsimp only;lia
 refine⟨⟨Į,(λ_ m=>nomatch m),?_,λq hq=>?_⟩,λq hq=>(rg q hq).2⟩
 .show((Wn _).map (·.1)).Nodup;rw[Ut];exact r.1.imp λz=>by lia
 .have:=rg q hq;lia
def FX{bs:List Int}(no:fb bs ts):(FA bs ts most).gd 0:=by
 have e1:(bs.map λb=>(b,ZS b 0 most<|fT b 0 ts)).map (·.1)=bs:=by rw[õ];exact Ϝ _
 refine⟨no,?_,keys_sub.mpr ?_,λq hq=>?_,?_,Į,(λ_ m=>nomatch m),Ì _⟩
 .show((bs.map λb=>(b,ZS b 0 most<|fT b 0 ts)).map (·.1)).Nodup;rw[e1];exact no.up.imp λh=>by lia
 .show ∀x∈(bs.map λb=>(b,ZS b 0 most<|fT b 0 ts)).map (·.1),_;rw[e1];exact λ_=>id
 .obtain⟨b,_,rfl⟩:=Ú.mp hq;exact FC no.sixteen
 .show(bs.map λb=>(b,(0:Int))).map (·.1)=bs;rw[õ];exact Ϝ _
def Au{b:Int}(h:b∈C.br.map (·.1)):∃D,step C (.tick b)=eh D/\D.br.map (·.1)=C.br.map (·.1):=by obtain⟨B,hB⟩:=ZG h;refine⟨_,by show(C.br.lookup b).map _=_;rw[hB];rfl,W3 _⟩
def eS.extb(x:eS h Y)(e:ExtB w h g)(nw:w∉Y.adr):eS g Y:=x.keep (S:=[w]) (Ex.ofB e<|by simp) λa ha z=>nw (â.mp z▸ha)
def BW{b:Int}(h:b∈C.keys):(step C<|.fallB b).isSome=ej:=by dsimp only[step];rw[f6<|keys_mem.mp h];rfl
def FU{b:Int}(h:b∈C.keys):(step C<|.tick b).isSome=ej:=by obtain⟨D,hD,_⟩:=Au<|keys_look.mp<|keys_mem.mp h;rw[hD];rfl
def cut_mem{p:Int}:p∈C.cuts↔(C.fallen.lookup p).isSome=ej:=by unfold Yc.cuts;rw[mem_sort,look_iff];simp
def CN{p:Int}(h0:0<=p)(h1:p<C.ts.length)(h:p∉C.cuts):(step C<|.fallT p).isSome=ej:=by dsimp only[step];rw[f6 ⟨⟨h0,h1⟩,by cases z:(C.fallen.lookup p).isSome with|false=>rfl|true=>exact gc (cut_mem.mpr z) h⟩];rfl
def B8{p:Int}(h:p∈C.cuts):(step C<|.backT p).isSome=ej:=by dsimp only[step];rw[f6<|cut_mem.mp h];rfl
def downs_mem{b:Int}:b∈C.downs↔b∈C.bs/\(C.br.lookup b).isSome=ez:=by unfold Yc.downs;rw[Ĕ];simp
def De{b:Int}(g:C.gd N)(h:b∈C.downs):(step C<|.backB b).isSome=ej:=by obtain⟨h1,h2⟩:=downs_mem.mp h;dsimp only[step];rw[f7<|by rw[h2];decide];rw[<-g.lv]at h1;obtain⟨v,hv⟩:=ZG h1;rw[hv];rfl
def OU(h0:0<=r)(h1:r<C.road.length):(step C<|.lost r).isSome=ej/\(step C<|.come r).isSome=ej:=by have e:=Ê (l:=C.road) (i:=r.toNat) (by lia);dsimp only[step];rw[f7 (by lia),e];exact⟨rfl,by rw[f7<|by lia];rfl⟩
def LK(r0:0<=r)(r1:r<ns.length):∃b∈ns,atI (ns.map Val.int) r=eh (.int b):=by obtain⟨b,hb,hm⟩:=BK r0 r1;exact⟨b,hm,YU r0<|by rw[Ò,hb];rfl⟩
abbrev flat:Nat->Val->Bool
 |_,.non=>ej
 |_,.bl _=>ej
 |_,.int _=>ej
 |_,.str _=>ej
 |n+1,.tup xs=>xs.all<|flat n
 |_,_=>ez
def WR{α β:Type}{f:α->Option β}:∀{xs:List α},(∀x∈xs,∃d,f x=eh d)->∃ds,xs.mapM f=eh ds
 |[],_=>⟨[],rfl⟩
 |x::xs,h=>by obtain⟨d,hd⟩:=h x (by simp);obtain⟨ds,hds⟩:=WR (xs:=xs) λy hy=>h y (by simp[hy]);exact⟨d::ds,by rw[ο,hd,hds];rfl⟩
def ND{h:Hs}:∀{n:Nat}{v:Val},flat n v=ej->∃d,dat h n v=eh d
 |0,.non,_=>⟨_,rfl⟩
 |0,.bl _,_=>⟨_,rfl⟩
 |0,.int _,_=>⟨_,rfl⟩
 |0,.str _,_=>⟨_,rfl⟩
 |n+1,.non,_=>⟨_,rfl⟩
 |n+1,.bl _,_=>⟨_,rfl⟩
 |n+1,.int _,_=>⟨_,rfl⟩
 |n+1,.str _,_=>⟨_,rfl⟩
 |n+1,.tup xs,e=>by obtain⟨ds,hds⟩:=WR (f:=dat h n) (xs:=xs) λx hx=>ND<|ò.mp e x hx;exact⟨_,by show(xs.mapM<|dat h n).map D.tup=_;rw[hds];rfl⟩
def Jv{xs:List Val}(ea:h a=eh (.lst xs))(eb:h b=eh (.lst xs))(e:xs.all (flat 11)=ej):eqV h (.ref a) (.ref b)=eh ej:=by
 obtain⟨ds,hds⟩:=WR (f:=dat h 11) (xs:=xs) λx hx=>ND<|ò.mp e x hx;have h1:∀{c:Ad},h c=eh (.lst xs)->dat h deep (.ref c)=eh (.lst ds):=λ{c} ec=>by show(eU<|h c).bind (λxs=>(xs.mapM<|dat h 11).map D.lst)=_;rw[ec,Jm,ú,hds];rfl
 unfold eqV;rw[h1 ea,h1 eb];show eh (D.eqv _ _)=_;rw[D.eqv_refl]
def all_map{α:Type}{f:α->Val}{n:Nat}{xs:List α}(h:∀x∈xs,flat n (f x)=ej):(xs.map f).all (flat n)=ej:=by rw[List.all_map];exact ò.mpr h
def BG{i:Int}:flat n (.int i)=ej:=by cases n<;>rfl
section
variable {Y:Yd}{N:Nat}
def Cm{bs:List Int}(no:fb bs ts)(hp:h p=ei)(k:∀Y g,Y.y=p->eS g Y->Y.cc=FA bs ts most->(∀a∈Y.adr,h a=ei)->Ext h g->Q .non g):wF P (n+3) "Yard.__init__" [.ref p,ZP bs ts,.int most] (upd h p<|.ins "Yard" []) Q X:=Dl no hp λY g e y nw f x=>k Y g e y (QB nw) f x
def FJ{k:Nat}(q:∀c,Q (.int c) h):wF P (n+1) "_law_cell_at" [.scr ns,.int k] h Q X:=by
 refine JW ?_;refine' fJ (λhc=>?_) (λhc=>?_)
 .fail;have hk:k<ns.length:=by lia
  refine Iv (v:=.int ns[k]) ?_ ?_
  .refine YU (by lia) ?_;rw[Ò];simp[hk]
  .exact q _
 .refine' q _
end
abbrev Yc.ups(C:Yc):List Int:=C.bs.filter λb=>(C.br.lookup b).isSome
def Ng(g:C.gd N):C.keys=C.ups:=by
 have s1:C.keys.Pairwise (· < ·):=Mc g.nd;have s2:C.ups.Pairwise (· < ·):=g.no.up.sublist š;have p:C.keys.Perm C.ups:=(aV (s1.imp λz=>by lia)<|s2.imp λz=>by lia).mpr λb=>by rw[keys_mem];unfold Yc.ups;rw[Ĕ];exact⟨λz=>⟨keys_sub.mp g.sub b<|keys_look.mp z,z⟩,λz=>z.2⟩
 exact p.eq_of_pairwise (λa b _ _ z1 z2=>by lia) s1 s2
def Ew:eqV h (.tup<|ts.map trV) (.tup [])=eh (gf (ts=[])):=by
 cases ts with
 |nil=>rfl
 |cons a l =>
  obtain⟨ds,hds⟩:=WR (f:=dat h 11) (xs:=(a::l).map trV) λx hx=>by obtain⟨t,_,rfl⟩:=Ú.mp hx;exact⟨_,rfl⟩
  show((((a::l).map trV).mapM<|dat h 11).map D.tup).bind _=_;have:∃d r,ds=d::r:=by
   rw[Ï,ο]at hds;cases e:(l.map trV).mapM (dat h 11)with
   |none=>rw[e]at hds;cases hds
   |some r=>rw[e]at hds;exact⟨_,_,(í hds).symm⟩
  obtain⟨d,r,rfl⟩:=this;rw[hds];rfl
noncomputable abbrev dnV(C:Yc):Val:=.tup [.tup<|C.downs.map .int,.tup<|C.cuts.map .int]
section
variable {Y:Yd}{N:Nat}{C:Yc}
def CT(gd:C.gd N)(k:∀p g,h p=ei->Ext h g->g p=eh (.lst<|C.ups.map .int)->Q (.ref p) g):wF P (n+1) "_law_ups" [ZP C.bs C.ts,dnV C] h Q X:=by
 refine U1 ?_
 exists eM (xs:=[.tup<|C.bs.map .int,.tup<|C.ts.map trV]) (v:=.tup<|C.bs.map .int) rfl
 refine' ⟨Ø (by rw[Ã];exact gd.no.ten) (by decide),Z3 (λi ys g=>g=h/\ys=((C.bs.take i).filter λb=>(C.br.lookup b).isSome).map .int) ⟨rfl,rfl⟩ (λ_ _ _ _ _=>trivial) ?_ ?_⟩
 .rintro i v ys g hv ⟨rfl,rfl⟩ K hK;obtain⟨b,hb,rfl⟩:=Z5 hv;rw[Zp hb,dF,Ĩ,List.filter_nil]at hK;have hm:=ă hb
  exists H9 (ns:=C.downs)
  have e:(!gf (b∈C.downs))=(C.br.lookup b).isSome:=by
   cases z:(C.br.lookup b).isSome with
   |false=>rw[f9<|downs_mem.mpr ⟨hm,z⟩];rfl
   |true=>rw[f8 λy=>by have:=(downs_mem.mp y).2;rw[z]at this;cases this];rfl
  rw[e];refine' fK (λhc=>?_) (λhc=>?_)
  .refine' hK _ _ ⟨rfl,by rw[hc,f6 rfl,ß];rfl⟩
  .exact hK _ _ ⟨rfl,by rw[hc,f7 (by decide),Ā,cM,Ā]⟩
 rintro ys g ⟨rfl,rfl⟩;rw[Ã,ā];exact Zl k
def U3(hw:Row h w)(gd:C.gd N)(k:∀d g,(step C d).isSome=ej->ExtB w h g->Row g w->Q (Dd.v d) g):wF P (n+2) "_law_turned" [.ref w,ZP C.bs C.ts,dnV C] h Q X:=by
 have t16:=gd.no.sixteen;have b10:=gd.no.ten;have b1:=gd.no.one;have htl:(C.ts.map trV).length=C.ts.length:=Ã _;have hbl:(C.bs.map Val.int).length=C.bs.length:=Ã _;refine KU ?_
 exists eM (xs:=[.tup<|C.bs.map .int,.tup<|C.ts.map trV]) (v:=.tup<|C.ts.map trV) rfl
 fail;rw[htl];refine Zd hw (by split<;>lia) (by split<;>lia) λp g1 p0 p1 x1 w1=>?_
 exists eM (xs:=[.tup<|C.bs.map .int,.tup<|C.ts.map trV]) (v:=.tup<|C.bs.map .int) rfl
 exists eM (xs:=[.tup<|C.bs.map .int,.tup<|C.ts.map trV]) (v:=.tup<|C.bs.map .int) rfl
 fail;rw[hbl];refine Zd w1 (by lia) (by lia) λr g2 r0 r1 x2 w2=>?_;obtain⟨b,hb,eb⟩:=LK (ns:=C.bs) r0 r1;refine eM eb ?_;refine' Zd w2 (by decide) (by decide) λs g3 s0 s1 x3 w3=>?_;have xx:=(x1.trans x2).trans x3;have fin:∀{g:Hs},ExtB w h g->Row g w->wSs (wF P<|n+1) #[.ret<|.tup #[.idx (.lst #[.cst<|.str "fall",.cst<|.str "back"])<|.bi .int #[.cmp .isin (.var 4)<|.idx (.var 2)<|.cst<|.int 0],.cst<|.str "bridge",.var 4]] [eh<|.ref w,eh<|ZP C.bs C.ts,eh<|dnV C,eh<|.int p,eh<|.int b] g (λ_ g=>Q .non g) Q (λ_ _=>False) (λ_ _=>False) λ_ c g=>X c g:=λ{g} y wg=>by
  refine' Zl λq g4 hq x4 e4=>?_
  exists NY (ns:=C.downs)
  have y4:=y.trans<|.of x4;by_cases z:b∈C.downs
  .rw[f9 z];refine' k (.backB b) _ (De gd z) y4 (wg.ext x4)
  .rw[f8 z];refine' k (.fallB b) _ (BW<|keys_mem.mpr ?_) y4 (wg.ext x4);cases e:(C.br.lookup b).isSome with
   |true=>rfl
   |false=>exact gc (downs_mem.mpr ⟨hb,e⟩) z
 refine' fJ (λc1=>?_) (λc1=>fI rfl<|BM<|fin xx w3)
 exists eM (xs:=[.tup<|C.bs.map .int,.tup<|C.ts.map trV]) (v:=.tup<|C.ts.map trV) rfl
 refine KG Ew ?_;refine' AI (λc2=>?_) (λc2=>BM<|fin xx w3);have hl:=cZ.mpr c2;have p1:p<C.ts.length:=by split at p1<;>lia
 refine' Zl λq g4 hq x4 e4=>?_
 exists NY (ns:=C.cuts)
 have y4:=xx.trans<|.of x4;by_cases z:p∈C.cuts
 .rw[f9 z];refine' k (.backT p) _ (B8 z) y4 (w3.ext x4)
 .rw[f8 z];refine' k (.fallT p) _ (CN p0 p1 z) y4 (w3.ext x4)
def C6(hw:Row h w)(x:eS h Y)(gd:Y.cc.gd N)(hN:N<=6000)(nw:w∉Y.adr)(k:∀d g,(step Y.cc d).isSome=ej->ExtB w h g->Row g w->Q (Dd.v d) g):wF P (n+3) "_law_drawn" [.ref w,.ref Y.y,ZP Y.bs Y.ts] h Q X:=by
 have xi:=x.ins;have hl:Y.road.length<=16*N:=gd.len;have rl:(Y.road.map rdV).length=Y.road.length:=Ã _;refine MB ?_;refine' Fp x λp1 g1 bN x1 e1=>?_;have y1:=x.ext x1;have xi:=y1.ins;refine' Nk y1 gd λg2 x2=>?_;have y2:=y1.ext x2;refine' CT (C:=Y.cc) gd λpu g3 hpu x3 eu=>?_;have w3:=((hw.ext x1).ext x2).ext x3;have nu:pu≠w:=λz=>((hw.ext x1).ext x2).ne hpu z.symm;fail;rw[rl];refine Zd w3 (by decide) (by decide) λkd g4 k0 k1 x4 w4=>?_;have xx:ExtB w h g4:=(ExtB.of<|(x1.trans x2).trans x3).trans x4;have eu4:=x4.get nu eu;have ul:(Y.cc.ups.map Val.int).length=Y.cc.ups.length:=Ã _;have ul10:Y.cc.ups.length<=10:=Ý (ų _ _) gd.no.ten;have tn:∀{g:Hs},ExtB w h g->Row g w->wF P (n+2) "_law_turned" [.ref w,ZP Y.bs Y.ts,dnV Y.cc] g Q X:=λ{g} y wg=>U3 (C:=Y.cc) wg gd λd g' s x' w'=>k d g' s (y.trans x') w';refine' fJ (λc1=>?_) (λc1=>?_)
 .refine fH rfl ?_;refine' tn xx w4
 refine' Zl λpz g5 hz x5 e5=>?_;refine c_eqE (x5.get eu4) e5 ?_;have y5:ExtB w h g5:=xx.trans<|.of x5;have w5:=w4.ext x5;refine' fK (λc2=>?_) (λc2=>?_)
 .refine' tn y5 w5
 have eu5:=x5.get eu4;have hpos:0<Y.cc.ups.length:=by
  cases z:Y.cc.ups with
  |nil=>rw[z]at c2;cases c2
  |cons a l=>simp
 have tick:wSs (wF P<|n+2) #[.ret<|.tup #[.cst<|.str "tick",.idx (.var 5)<|.call "_law_take" #[.var 0,.bi .len #[.var 5]]]] [eh<|.ref w,eh<|.ref Y.y,eh<|ZP Y.bs Y.ts,eh<|.int (Y.road.length:Nat),eh<|dnV Y.cc,eh<|.ref pu,eh<|.int kd,ei] g5 (λe g=>True) Q (λ_ _=>False) (λ_ _=>False) λ_ c g=>X c g:=by fail;rw[ul];refine Zd w5 (by lia) (by lia) λr g6 r0 r1 x6 w6=>?_;obtain⟨b,hb,eb⟩:=LK (ns:=Y.cc.ups) r0 r1;refine Ye (x6.get nu eu5) eb ?_;refine' k (.tick b) _ (FU<|by rw[Ng gd];exact hb) (y5.trans x6) w6
 refine' fJ (λc3=>?_) (λc3=>?_)
 .refine fH rfl ?_;exact tick
 refine' fJ (λc4=>?_) (λc4=>?_)
 .exact tick
 refine' Zd w5 (by lia) (by lia) λr g6 r0 r1 x6 w6=>?_;refine' Zl λq g7 hq x7 e7=>?_;have nq:q≠w:=λz=>w6.ne hq z.symm;refine' Zd (w6.ext x7) (by decide) (by decide) λs g8 s0 s1 x8 w8=>?_;obtain⟨v,hv,em⟩:=Xa (xs:=[Val.int 0,.int 0,.int<|(Y.road.length:Nat) - 1,.int r]) (r:=s) s0 s1;refine Ye (x8.get nq e7) hv ?_;have:∃q:Int,v=.int q/\0<=q/\q<Y.cc.road.length:=by
  have:Y.cc.road.length=Y.road.length:=rfl;simp only[Ç,Þ,or_false]at em;rcases em with rfl|rfl|rfl|rfl
  .exact⟨_,rfl,by lia,by lia⟩
  .exact⟨_,rfl,by lia,by lia⟩
  .exact⟨_,rfl,by lia,by lia⟩
  .exact⟨_,rfl,r0,r1⟩
 obtain⟨pl,rfl,q0,q1⟩:=this;refine' Zl λq2 g9 hq2 x9 e9=>?_;fail;have y9:ExtB w h g9:=(((y5.trans x6).trans<|.of x7).trans x8).trans<|.of x9;by_cases z:kd=12
 .rw[f9 z];refine' k (.lost pl) _ (OU q0 q1).1 y9 (w8.ext x9)
 .rw[f8 z];refine' k (.come pl) _ (OU q0 q1).2 y9 (w8.ext x9)
end
abbrev opn(C:Yc)(p:Nat):List Tie:=if C.ends p=("child","parent")then [((p:Int),(C.tie p).1,(C.tie p).2.1)]else if C.ends p=("parent","child")then [((p:Int),(C.tie p).2.1,(C.tie p).1)]else []
abbrev YL(C:Yc)(m:Nat):List Tie:=(List.range m).flatMap<|opn C
def K2{m:Nat}:YL C (m+1)=YL C m++opn C m:=by unfold YL;rw[List.range_succ,Ϩ];simp
def Xg{C:Yc}:∀m:Nat,(YL C m).length<=m
 |0=>Ì _
 |m+1=>by
  have:=Xg (C:=C) m;have:(opn C m).length<=1:=by
   unfold opn;split
   .exact Ì _
   .split
    .exact Ì _
    .exact į _
  rw[K2,ê];lia
abbrev ZK(C:Yc):List Tie:=C.keys.map λb=>(b,(C.at_ b).label.root,(C.at_ b).label.cost)
def GJ{a b c d:String}:eqV h (.tup [.str a,.str b]) (.tup [.str c,.str d])=eh (gf ((a,b)=(c,d))):=by
 show eh (D.eqv (.tup [.str a,.str b])<|.tup [.str c,.str d])=_;congr 1;simp only[D.eqv,D.eqvs,Ζ];by_cases h1:a=c
 .by_cases h2:b=d
  .subst h1;subst h2;simp
  .simp[h2]
 .simp[h1]
section
variable {Y:Yd}{N:Nat}{C:Yc}
def BZ{t:Tie}(h:C.ts[i]?=eh t):C.tie i=t:=by show C.ts[(i:Int).toNat]?.getD _=_;rw[á,h];rfl
def O3(x:eS h Y)(gd:Y.cc.gd N)(k:∀p g,h p=ei->Ext h g->g p=eh (.lst<|(YL Y.cc Y.ts.length).map trV)->Q (.ref p) g):wF P (n+6) "open_ways" [.ref Y.y] h Q X:=by
 have t16:Y.ts.length<=16:=gd.no.sixteen;refine MM ?_;refine' Zl λp g1 hp x1 e1=>?_;have y1:=x.ext x1;have yi:=y1.ins
 exists DN y1
 exists eM (xs:=[.tup<|Y.bs.map .int,.tup<|Y.ts.map trV]) (v:=.tup<|Y.ts.map trV) rfl
 exists eL rfl
 refine Zz (λi en g=>Sm3 λv2 v3 v4=>Cj3 (en=[eh<|.ref Y.y,eh<|.ref p,v2,v3,v4]) (Ext h g)<|g p=eh (.lst<|(YL Y.cc i).map trV)) ⟨_,_,_,rfl,x1,e1⟩ (λ_ _ _ _ _=>trivial) ?_ ?_
 .rintro i v en g hv ⟨v2,v3,v4,rfl,xg,ep⟩ K hK;obtain⟨z,hz,rfl⟩:=WP hv;rw[Ò]at hz;obtain⟨t,ht,rfl⟩:=Î.mp hz;have hi:i<Y.ts.length:=(Ð.mp ht).1;rw[ϑ];have yg:=x.ext xg;have yi:=yg.ins;have ol:=Xg (C:=Y.cc) i;have et:Y.cc.tie i=t:=BZ (C:=Y.cc) ht;rw[K2]at hK;unfold opn at hK;rw[et]at hK
  exists Ul yg hi
  exists Wm GJ
  fail;unfold trV;refine fJ (λc1=>?_) λc1=>?_
  .rw[f6 c1]at hK;refine' Zw ep (by rw[Ã,lim];lia) ?_;refine' hK _ _ ⟨_,_,_,rfl,Yu xg hp,by rw[ß];exact eC⟩
  rw[f7 c1]at hK
  exists Wm GJ
  refine' fJ (λc2=>?_) (λc2=>?_)
  .rw[f6 c2]at hK;refine' Zw ep (by rw[Ã,lim];lia) ?_;refine' hK _ _ ⟨_,_,_,rfl,Yu xg hp,by rw[ß];exact eC⟩
  .rw[f7 c2,Ā]at hK;refine' hK _ _ ⟨_,_,_,rfl,xg,ep⟩
 .rintro en g ⟨v2,v3,v4,rfl,xg,ep⟩;rw[X3,Ã]at ep;refine' k p g hp xg ep
def C4(x:eS h Y)(gd:Y.cc.gd N)(k:∀p g,h p=ei->Ext h g->g p=eh (.lst<|(YL Y.cc Y.ts.length).map trV)->Q (.ref p) g):wF P (n+6) "_law_ways" [.ref Y.y,ZP Y.bs Y.ts] h Q X:=by
 have t16:Y.ts.length<=16:=gd.no.sixteen;refine Oh ?_;refine' Zl λp g1 hp x1 e1=>?_
 exists eM (xs:=[.tup<|Y.bs.map .int,.tup<|Y.ts.map trV]) (v:=.tup<|Y.ts.map trV) rfl
 exists eL rfl
 refine Zz (λi en g=>Sm3 λv2 v3 v4=>Cj3 (en=[eh<|.ref Y.y,eh<|ZP Y.bs Y.ts,eh<|.ref p,v2,v3,v4]) (Ext h g)<|g p=eh (.lst<|(YL Y.cc i).map trV)) ⟨_,_,_,rfl,x1,e1⟩ (λ_ _ _ _ _=>trivial) ?_ ?_
 .rintro i v en g hv ⟨v2,v3,v4,rfl,xg,ep⟩ K hK;obtain⟨z,hz,rfl⟩:=WP hv;rw[Ò]at hz;obtain⟨t,ht,rfl⟩:=Î.mp hz;have hi:i<Y.ts.length:=(Ð.mp ht).1;rw[ϑ];have yg:=x.ext xg;have yi:=yg.ins;have ol:=Xg (C:=Y.cc) i;have et:Y.cc.tie i=t:=BZ (C:=Y.cc) ht;rw[K2]at hK;unfold opn at hK;rw[et]at hK
  exists Ul yg hi
  generalize Y.cc.ends i=es at hK ⊢;obtain⟨a,b⟩:=es;unfold trV;have no:∀{A B:String},¬ (a=A/\b=B)->¬ (a,b)=(A,B):=λz y=>z ⟨congrArg Prod.fst y,congrArg Prod.snd y⟩;have lastp:¬ (a,b)=("child","parent")->¬ (a,b)=("parent","child")->K [eh<|.ref Y.y,eh<|ZP Y.bs Y.ts,eh<|.ref p,eh<|.int i,eh<|.tup [.int t.1,.int t.2.1,.int t.2.2],eh<|.tup [.str a,.str b]] g:=λc1 c2=>by rw[f7 c1,f7 c2,Ā]at hK;exact hK _ _ ⟨_,_,_,rfl,xg,ep⟩
  refine' fJ (λc1=>?_) (λc1=>?_)
  .have nc:a≠"parent":=λz=>by rw[c1]at z;exact gc z (by decide)
   refine' fJ (λc2=>?_) (λc2=>?_)
   .rw[f6<|by rw[c1,c2]]at hK;refine' Zw ep (by rw[Ã,lim];lia) ?_;refine' fJ (λc3=>gc c3 nc) (λc3=>?_);walk_at "p";exact hK _ _ ⟨_,_,_,rfl,Yu xg hp,by rw[ß];exact eC⟩
   .refine' fJ (λc3=>gc c3 nc) (λc3=>?_);walk_at "p";exact lastp (no λz=>c2 z.2)<|no λz=>c3 z.1
  walk_at "p";refine fJ (λc2=>?_) λc2=>?_
  .refine' fJ (λc3=>?_) (λc3=>?_)
   .rw[f7<|no λz=>c1 z.1,f6<|by rw[c2,c3]]at hK;refine' Zw ep (by rw[Ã,lim];lia) ?_;refine' hK _ _ ⟨_,_,_,rfl,Yu xg hp,by rw[ß];exact eC⟩
   .refine' lastp (no λz=>c1 z.1) (no λz=>c3 z.2)
  .walk_at "p";exact lastp (no λz=>c1 z.1)<|no λz=>c2 z.1
 .rintro en g ⟨v2,v3,v4,rfl,xg,ep⟩;rw[X3,Ã]at ep;refine' k p g hp xg ep
def ML(x:eS h Y)(gd:Y.cc.gd N)(k:∀p g,h p=ei->Ext h g->g p=eh (.lst<|(ZK Y.cc).map trV)->Q (.ref p) g):wF P (n+3) "rank_paper" [.ref Y.y] h Q X:=by
 have xi:=x.ins;have h10:=gd.ten;have kl:=W0 (C:=Y.cc);refine Mw ?_;refine' KH x gd λp1 g1 bN x1 e1=>?_;refine' ⟨Ø (by show(Mo Y.cc).length<=10;unfold Mo;rw[Ã];lia) (by decide),?_⟩;refine Z3 (λi ys g=>g=g1/\ys=((ZK Y.cc).take i).map trV) ⟨rfl,rfl⟩ (λi ys g _ ⟨z,_⟩=>by rw[z];exact lsE e1) ?_ ?_
 .rintro i v ys g hv ⟨rfl,rfl⟩ K hK;obtain⟨b,hb,rfl⟩:=Z5 hv;walk_at "p";refine hK _ _ ⟨rfl,?_⟩;rw[Zp (xs:=ZK Y.cc) (x:=(b,(Y.cc.at_ b).label.root,(Y.cc.at_ b).label.cost)) (by unfold ZK;rw[Ò,hb];rfl),ß];rfl
 rintro ys g ⟨rfl,rfl⟩;rw[show(Mo Y.cc).length=(ZK Y.cc).length by unfold Mo ZK;rw[Ã,Ã],ā];exact Zl λp g2 hp x2 e2=>k p g2 (XS x1 hp) (x1.trans x2) e2
end
section
variable {Y:Yd}{N:Nat}{C:Yc}
def BH(x:eS h Y)(gd:Y.cc.gd N)(hN:N<=5000)(k:∀Z g,Mv h Y g Z->Z.cc.gd (N+6)->Z.bs=Y.bs->Z.ts=Y.ts->Q .non g):wF P (n+7) "_law_deeds" [.int c,.ref Y.y,ZP Y.bs Y.ts] h Q X:=by
 refine Nr ?_;refine' OL λw g1 hw x1 w1=>?_;have nA:w∉Y.adr:=λz=>x.taken z hw;refine' Zd w1 (by decide) (by decide) λr g2 r0 r1 x2 w2=>?_;have m2:Mv h Y g2 Y:=⟨rfl,(x.ext x1).extb x2 nA,λ_=>.inl,⟨λ{a o} na e=>x2.get (Za e hw)<|x1.get e⟩⟩
 refine' ⟨⟨by lia,by lia⟩,?_⟩;refine Zz (λi en g=>Sm2 λv4 Z=>Cj7 (en=[eh<|.int c,eh<|.ref Y.y,eh<|ZP Y.bs Y.ts,eh<|.ref w,v4]) (Mv h Y g Z) (w∉Z.adr) (Row g w) (Z.cc.gd<|N+i) (Z.bs=Y.bs)<|Z.ts=Y.ts) ⟨_,Y,rfl,m2,nA,w2,gd,rfl,rfl⟩ (λ_ _ _ _ _=>trivial) ?_ ?_
 .rintro i v en g hv ⟨v4,Z,rfl,m,nw,wg,gz,eb,et⟩ K hK;obtain⟨rfl,hi⟩:=K3 hv;have zi:=m.at_.ins;rw[m.y]at zi;fail;rw[<-m.y,<-eb,<-et];refine C6 wg m.at_ gz (by lia) nw λd g3 s x3 w3=>?_;have y3:=m.at_.extb x3 nw;have zi:=y3.ins;refine' E4 y3 gz (by lia) s λV g4 sv mv=>?_;obtain⟨g5,e1,e2,_⟩:=Ev gz sv;obtain⟨a,b,e,w0,w1⟩:=w3;have o:=mv.off nw e;have m3:Mv h Y g3 Z:=⟨m.y,y3,m.nw,⟨λ{a o} na e=>x3.get (Za e hw)<|m.ex.get na e⟩⟩
  fail;rw[m.y];refine hK _ _ ⟨_,V,by rw[eb,et],m3.trans mv,o.1,⟨a,b,o.2,w0,w1⟩,g5,e1.trans eb,e2.trans et⟩
 .rintro en g ⟨v4,Z,rfl,m,nw,wg,gz,eb,et⟩;rw[WE]at gz;refine' k Z g m (gz.more<|by lia) eb et
def WG:(ts.map trV).all (flat 11)=ej:=all_map λ_ _=>rfl
def MK(xs:List α)(x:α):cut (xs++[x]) ei (eh (-1))=xs:=by unfold cut fq;dsimp only;rw[f7 (by decide),ê,ce,List.drop_zero,show((-1:Int)+((xs.length+1:Nat):Int)).toNat=xs.length by lia];simp
def M7(x:eS h Y)(gd:Y.cc.gd N)(k:∀g,Ext h g->Q (.bl ej) g):wF P (n+7) "_law_right" [.ref Y.y,ZP Y.bs Y.ts] h Q X:=by
 have t16:Y.ts.length<=16:=gd.no.sixteen;have h10:=gd.ten;have kl:=W0 (C:=Y.cc);have ol:=Xg (C:=Y.cc) Y.ts.length;have rl:(ZK Y.cc).length<=10:=by unfold ZK;rw[Ã];lia
 refine MZ ?_;refine' O3 x gd λp1 g1 bN x1 e1=>?_;refine' ML (x.ext x1) gd λp2 g2 hp2 x2 e2=>?_;have e1':=x2.get e1;have x12:=x1.trans x2;have n12:p1≠p2:=Za e1 hp2
 exists isl e1'
 walk_at "p";refine C4 (x.ext x12) gd λp3 g3 hp3 x3 e3=>?_;refine KG (Jv (x3.get e1') e3 WG) ?_;fail;refine fI rfl ?_;have y3:=x.ext<|x12.trans x3;have yi:=y3.ins;refine' KH y3 gd λp4 g4 hp4 x4 e4=>?_;refine' ⟨Ø (by show(Mo Y.cc).length<=10;unfold Mo;rw[Ã];lia) (by decide),?_⟩;refine Z3 (λi ys g=>g=g4/\ys=((ZK Y.cc).take i).map trV) ⟨rfl,rfl⟩ (λi ys g _ ⟨z,_⟩=>by rw[z];exact lsE e4) ?_ ?_
 .rintro i v ys g hv ⟨rfl,rfl⟩ K hK;obtain⟨b,hb,rfl⟩:=Z5 hv;walk_at "p";refine hK _ _ ⟨rfl,?_⟩;rw[Zp (xs:=ZK Y.cc) (x:=(b,(Y.cc.at_ b).label.root,(Y.cc.at_ b).label.cost)) (by unfold ZK;rw[Ò,hb];rfl),ß];rfl
 rintro ys g ⟨rfl,rfl⟩;rw[show(Mo Y.cc).length=(ZK Y.cc).length by unfold Mo ZK;rw[Ã,Ã],ā];refine Zl λp5 g5 hp5 x5 e5=>?_;have x25:=(x3.trans x4).trans x5;have e2':=x25.get e2
 exists KG (Jv e2' e5 WG)
 walk_at "p";refine⟨Ø (by rw[Ã];exact rl) (by decide),?_⟩;refine ZY (λv=>match v with|.tup (a::_)=>eh a|_=>ei) (lsE e5) (λv hv K hK=>?_) ?_
 .obtain⟨t,_,rfl⟩:=Ú.mp hv;unfold trV at hK ⊢;walk_at "p";exact hK
 have ek:((ZK Y.cc).map trV).filterMap (λv=>match v with|.tup (a::_)=>eh a|_=>ei)=Y.cc.ups.map Val.int:=by rw[<-Ng gd];unfold ZK;rw[õ,ξ];exact congrFun (ό (f:=Val.int)) _
 rw[ek];refine Zl λp6 g6 hp6 x6 e6=>?_;have y6:=y3.ext<|(x4.trans x5).trans x6;have yi:=y6.ins;refine' Nk y6 gd λg7 x7=>?_;refine' CT (C:=Y.cc) gd λp8 g8 hp8 x8 e8=>?_;refine KG (Jv ((x7.trans x8).get e6) e8<|all_map λ_ _=>BG) ?_;fail;refine fI rfl ?_;have x68:=(x6.trans x7).trans x8;have e1':=(x25.trans x68).get e1';have e2':=x68.get e2';refine' Zw e1' (by rw[Ã,lim];lia) ?_;have xh8:Ext h g8:=(x12.trans x25).trans x68;have xh9:=Yu (o:=.lst<|(YL Y.cc Y.ts.length).map trV++[.tup [.int 0,.int 0,.int 0]]) xh8 bN;have f1:=eC (h:=g8) (a:=p1) (o:=.lst<|(YL Y.cc Y.ts.length).map trV++[.tup [.int 0,.int 0,.int 0]]);have f2:=upd_ne' (o:=.lst<|(YL Y.cc Y.ts.length).map trV++[.tup [.int 0,.int 0,.int 0]]) n12.symm e2';dsimp only;generalize upd g8 p1 (.lst<|(YL Y.cc Y.ts.length).map trV++[.tup [.int 0,.int 0,.int 0]])=g9 at xh9 f1 f2 ⊢;refine' Zw f2 (by rw[Ã,lim];lia) ?_;have hp2':h p2=ei:=XS x1 hp2;have xh10:=Yu (o:=.lst<|(ZK Y.cc).map trV++[.tup [.int 0,.int 0,.int 0]]) xh9 hp2';have f3:=eC (h:=g9) (a:=p2) (o:=.lst<|(ZK Y.cc).map trV++[.tup [.int 0,.int 0,.int 0]]);have f4:=upd_ne' (o:=.lst<|(ZK Y.cc).map trV++[.tup [.int 0,.int 0,.int 0]]) n12 f1;dsimp only;generalize upd g9 p2 (.lst<|(ZK Y.cc).map trV++[.tup [.int 0,.int 0,.int 0]])=g10 at xh10 f3 f4 ⊢;refine' O3 (x.ext xh10) gd λq1 g11 hq1 z1 u1=>?_;have f4':=z1.get f4;fail;rw[MK];refine Zl λq2 g12 hq2 z2 u2=>?_;refine Wm (Jv (z2.get u1) u2 WG) ?_;walk_at "p";refine ML (x.ext<|xh10.trans<|z1.trans z2) gd λq3 g13 hq3 z3 u3=>?_;have f3':=((z1.trans z2).trans z3).get f3;fail;rw[MK];refine Zl λq4 g14 hq4 z4 u4=>?_;refine Wm (Jv (z4.get u3) u4 WG) ?_;refine' k _ (xh10.trans<|((z1.trans z2).trans z3).trans z4)
def law_ok(h63:ns.length<=63)(k:∀g,Q (.bl ej) g):wF P (n+8) "law" [.scr ns] h Q X:=by
 refine Qb ?_;refine' FJ (k:=0) λc0=>?_;refine' OL λw g1 hw x1 w1=>?_;refine' Lp w1 λbs ts g2 no x2 w2=>?_;refine' Zd w2 (by decide) (by decide) λr g3 r0 r1 x3 w3=>?_;fail;intro py hpy;refine Cm no hpy λY g4 e4 y4 cc fr x4=>?_;subst e4;have eb:Y.bs=bs:=congrArg Yc.bs cc;have et:Y.ts=ts:=congrArg Yc.ts cc;have gd0:Y.cc.gd 0:=by rw[cc];exact FX no
 refine⟨rfl,?_⟩;refine' Zl λps g5 hps x5 e5=>?_;have y5:=y4.ext x5;have np:ps∉Y.adr:=λz=>y4.taken z hps;have cl:(cut (ns.map Val.int) (eh 1)<|eh 63).length<=62:=by rw[Ij (by decide) (by decide),ĥ];exact Nat.min_le_left _ _
 rw[CL]at e5 cl;rw[Ã]at cl;generalize cut ns (eh 1) (eh 63)=cs at e5 cl;refine' Zz (λi en g=>Sm2 λv4 Z=>Cj8 (en=[eh<|.scr ns,eh<|.ref w,eh<|ZP bs ts,eh<|.ref Y.y,v4]) (Z.y=Y.y) (eS g Z) (Z.cc.gd<|6*i) (Z.bs=bs) (Z.ts=ts) (ps∉Z.adr)<|g ps=eh (.lst<|cs.map .int)) ⟨_,Y,rfl,rfl,y5,gd0,eb,et,np,e5⟩ (λ_ _ _ _ ⟨_,_,_,_,_,_,_,_,_,e⟩=>lsE e) ?_ ?_
 .rintro i v en g hv ⟨v4,Z,rfl,ey,yz,gz,eb,et,np,ep⟩ K hK;obtain⟨c,hc,rfl⟩:=Z5 hv;have hi:=(Ð.mp hc).1;fail;rw[<-ey,<-eb,<-et];refine BH yz gz (by lia) λV g6 m gv eb' et'=>?_;have o:=m.off np ep;fail;rw[<-m.y,<-eb',<-et'];refine M7 m.at_ gv λg7 x7=>?_;walk_at "p";exact hK _ _ ⟨_,V,by rw[m.y,eb',et',ey,eb,et],m.y.trans ey,m.at_.ext x7,gv,eb'.trans eb,et'.trans et,o.1,x7.get o.2⟩
 .rintro en g ⟨v4,Z,rfl,ey,yz,gz,eb,et,np,ep⟩;fail;rw[<-ey,<-eb,<-et];exact M7 yz gz λg7 x7=>k _
end
end O
set_option maxRecDepth 1000000
set_option maxHeartbeats 0
namespace My
open PySem L2 Snd PySem.W
abbrev top(i:Nat):Stmt:=PySem.Challenge.pw_shutways_k31_open_ways_told.main.body.getD i<|.Pass ⟨0,0,0,0⟩
abbrev inC:Stmt->Nat->Stmt
 |.ClassDef _ _ _ b _ _ _ _ _ _ _,j=>b.getD j<|.Pass ⟨0,0,0,0⟩
 |s,_=>s
abbrev x0:Ds:=⟨top 6,["thing"],["thing"],O.SH⟩
abbrev x1:Ds:=⟨top 7,["thing","least","greatest"],["thing","least","greatest"],O.SI⟩
abbrev x2:Ds:=⟨top 13,["bridges","ties"],["bridges","ties"],O.Sm⟩
abbrev x3:Ds:=⟨top 14,["things"],["things"],O.SD⟩
abbrev x4:Ds:=⟨top 15,["thing","bridges"],["thing","bridges"],O.SG⟩
abbrev x5:Ds:=⟨top 16,["tie"],["tie"],O.Sk⟩
abbrev x6:Ds:=⟨top 17,["net","bridge","found","place","tie"],["net","bridge"],O.Sn⟩
abbrev x7:Ds:=⟨top 18,["tie","bridge"],["tie","bridge"],O.SF⟩
abbrev x8:Ds:=⟨top 20,["yard","ways","place","tie","ends"],["yard"],O.Su⟩
abbrev x9:Ds:=⟨top 21,["yard"],["yard"],O.Sa⟩
abbrev x10:Ds:=⟨top 30,["one","other"],["one","other"],O.So⟩
abbrev x11:Ds:=⟨top 32,["bridge","offers","better"],["bridge","offers"],O.SE⟩
abbrev x12:Ds:=⟨top 38,["some","words"],["some"],O.Sb⟩
abbrev x13:Ds:=⟨top 40,["script","k"],["script","k"],O.SQ⟩
abbrev x14:Ds:=⟨top 41,["cell"],["cell"],O.Sz⟩
abbrev x15:Ds:=⟨top 42,["row","many","told"],["row","many"],O.Sy⟩
abbrev x16:Ds:=⟨top 43,["row","many","step","k","bridges","ties","one","other","cost"],["row"],O.ST⟩
abbrev x17:Ds:=⟨top 44,["net","downs"],["net","downs"],O.Sw⟩
abbrev x18:Ds:=⟨top 45,["row","net","downs","place","bridge"],["row","net","downs"],O.Sx⟩
abbrev x19:Ds:=⟨top 46,["row","yard","net","road","downs","ups","kind","place"],["row","yard","net"],O.SS⟩
abbrev x20:Ds:=⟨top 47,["cell","yard","net","row","k"],["cell","yard","net"],O.SR⟩
abbrev x21:Ds:=⟨top 48,["yard","net","ways","place","tie","ends"],["yard","net"],O.Sj⟩
abbrev x22:Ds:=⟨top 49,["yard","net","ways","paper","due"],["yard","net"],O.SV⟩
abbrev x23:Ds:=⟨top 50,["script","row","net","yard","cell"],["script"],O.SL⟩
abbrev z0:Ds:=⟨inC (top 34) 0,["self","number","life","ties","greatest","place","neighbour","cost"],["self","number","life","ties","greatest"],O.RM⟩
abbrev z1:Ds:=⟨inC (top 34) 2,["self"],["self"],O.RP⟩
abbrev z2:Ds:=⟨inC (top 34) 3,["self"],["self"],O.R0⟩
abbrev z3:Ds:=⟨inC (top 34) 4,["self","place"],["self","place"],O.RW⟩
abbrev z4:Ds:=⟨inC (top 34) 5,["self","place","neighbour","cost"],["self","place","neighbour","cost"],O.R4⟩
abbrev z5:Ds:=⟨inC (top 34) 6,["self","place"],["self","place"],O.RZ⟩
abbrev z6:Ds:=⟨inC (top 34) 7,["self","place","letter","held"],["self","place","letter"],O.RX⟩
abbrev z7:Ds:=⟨inC (top 34) 8,["self","letters"],["self"],O.R3⟩
abbrev z8:Ds:=⟨inC (top 34) 9,["self","older","place","held"],["self"],O.RQ⟩
abbrev z9:Ds:=⟨inC (top 34) 10,["self","offers","place","held","neighbour","cost","best","root"],["self"],O.RT⟩
abbrev z10:Ds:=⟨inC (top 34) 11,["self","label"],["self","label"],O.R1⟩
abbrev z11:Ds:=⟨inC (top 34) 12,["self","place","root","cost","over","rests","age","ahead"],["self","place"],O.RS⟩
abbrev z12:Ds:=⟨inC (top 34) 13,["self","place","held"],["self","place"],O.RU⟩
abbrev z13:Ds:=⟨inC (top 34) 14,["self","place","held"],["self","place"],O.RN⟩
abbrev z14:Ds:=⟨inC (top 34) 15,["self","place"],["self","place"],O.RY⟩
abbrev z15:Ds:=⟨inC (top 37) 0,["self","net","greatest","number"],["self","net","greatest"],O.SK⟩
abbrev z16:Ds:=⟨inC (top 37) 2,["self"],["self"],O.SN⟩
abbrev z17:Ds:=⟨inC (top 37) 4,["self"],["self"],O.SO⟩
abbrev z18:Ds:=⟨inC (top 37) 5,["self","fallen"],["self"],O.R9⟩
abbrev z19:Ds:=⟨inC (top 37) 6,["self"],["self"],O.SM⟩
abbrev z20:Ds:=⟨inC (top 37) 9,["self","place","one","other","cost"],["self","place"],O.SY⟩
abbrev z21:Ds:=⟨inC (top 37) 10,["self","number","place"],["self","number","place"],O.SZ⟩
abbrev z22:Ds:=⟨inC (top 37) 11,["self","place"],["self","place"],O.SJ⟩
abbrev z23:Ds:=⟨inC (top 37) 12,["self","some","words","number"],["self","some"],O.R8⟩
abbrev z24:Ds:=⟨inC (top 37) 13,["self","number","place","letter","goal"],["self","number"],O.SC⟩
abbrev z25:Ds:=⟨inC (top 37) 14,["self","place","start","goal","tie","letter"],["self","place"],O.R7⟩
abbrev z26:Ds:=⟨inC (top 37) 15,["self","place"],["self","place"],O.SB⟩
abbrev z27:Ds:=⟨inC (top 37) 16,["self","number"],["self","number"],O.SX⟩
abbrev z28:Ds:=⟨inC (top 37) 17,["self","place"],["self","place"],O.SW⟩
abbrev z29:Ds:=⟨inC (top 37) 18,["self","number"],["self","number"],O.R5⟩
abbrev z30:Ds:=⟨inC (top 37) 19,["self","place"],["self","place"],O.R6⟩
abbrev z31:Ds:=⟨inC (top 37) 20,["self","number","place","neighbour","cost"],["self","number"],O.SA⟩
abbrev z32:Ds:=⟨inC (top 37) 21,["self","place","one","other","cost","stands","near","far"],["self","place"],O.SU⟩
abbrev tb:Tb where
 fs:=[("is_whole",x0),("is_whole_between",x1),("make_net",x2),("are_bridges",x3),("is_tie",x4),("lesser_end_first",x5),("neighbours",x6),("far_end",x7),("open_ways",x8),("rank_paper",x9),("newer",x10),("best_offer",x11),("read_deed",x12),("_law_cell_at",x13),("_law_row",x14),("_law_take",x15),("_law_net",x16),("_law_ups",x17),("_law_turned",x18),("_law_drawn",x19),("_law_deeds",x20),("_law_ways",x21),("_law_right",x22),("law",x23)]
 ms:=[⟨"Bridge","__init__","Bridge.__init__",z0⟩,⟨"Bridge","label","Bridge.label",z1⟩,⟨"Bridge","stamp","Bridge.stamp",z2⟩,⟨"Bridge","held","Bridge.held",z3⟩,⟨"Bridge","up","Bridge.up",z4⟩,⟨"Bridge","down","Bridge.down",z5⟩,⟨"Bridge","hear","Bridge.hear",z6⟩,⟨"Bridge","tick","Bridge.tick",z7⟩,⟨"Bridge","let_grow_older","Bridge.let_grow_older",z8⟩,⟨"Bridge","reckon_label","Bridge.reckon_label",z9⟩,⟨"Bridge","take_label","Bridge.take_label",z10⟩,⟨"Bridge","letter_over","Bridge.letter_over",z11⟩,⟨"Bridge","is_rested_on","Bridge.is_rested_on",z12⟩,⟨"Bridge","is_agreed_to","Bridge.is_agreed_to",z13⟩,⟨"Bridge","end","Bridge.end",z14⟩,⟨"Yard","__init__","Yard.__init__",z15⟩,⟨"Yard","net","Yard.net",z16⟩,⟨"Yard","road","Yard.road",z17⟩,⟨"Yard","down","Yard.down",z18⟩,⟨"Yard","labels","Yard.labels",z19⟩,⟨"Yard","ends","Yard.ends",z20⟩,⟨"Yard","end_at","Yard.end_at",z21⟩,⟨"Yard","has_tie","Yard.has_tie",z22⟩,⟨"Yard","deed","Yard.deed",z23⟩,⟨"Yard","tick_of","Yard.tick_of",z24⟩,⟨"Yard","come","Yard.come",z25⟩,⟨"Yard","take_off","Yard.take_off",z26⟩,⟨"Yard","fall_of_bridge","Yard.fall_of_bridge",z27⟩,⟨"Yard","fall_of_tie","Yard.fall_of_tie",z28⟩,⟨"Yard","back_of_bridge","Yard.back_of_bridge",z29⟩,⟨"Yard","back_of_tie","Yard.back_of_tie",z30⟩,⟨"Yard","set_ties_of","Yard.set_ties_of",z31⟩,⟨"Yard","set_tie","Yard.set_tie",z32⟩]
 cs:=[("MOST_BRIDGES",(.int 10)),("MOST_TIES",(.int 16)),("GREATEST_NUMBER",(.int 999)),("GREATEST_COST",(.int 1000)),("NUMBER",(.int 0)),("STAMP",(.int 1)),("ROOT",(.int 2)),("COST",(.int 3)),("AGE",(.int 4)),("RESTS",(.int 5)),("AGREES",(.int 6)),("DEEDS",(.tup [(.tup [(.str "tick")]),(.tup [(.str "come")]),(.tup [(.str "lost")]),(.tup [(.str "fall"),(.str "bridge")]),(.tup [(.str "fall"),(.str "tie")]),(.tup [(.str "back"),(.str "bridge")]),(.tup [(.str "back"),(.str "tie")])]))]
 cl:=["Bridge","Yard"]
 fl:=["age_let_go","greatest_age","held_by_place","label_now","letters_on_road","life","lives","net_made_of","number","standing","ticks_had","ties_by_place","ties_fallen","version"]
 xs:=[]
abbrev pg:O.Pg:=λf=>(([("is_whole",O.SH),("is_whole_between",O.SI),("make_net",O.Sm),("are_bridges",O.SD),("is_tie",O.SG),("lesser_end_first",O.Sk),("neighbours",O.Sn),("far_end",O.SF),("open_ways",O.Su),("rank_paper",O.Sa),("newer",O.So),("best_offer",O.SE),("read_deed",O.Sb),("_law_cell_at",O.SQ),("_law_row",O.Sz),("_law_take",O.Sy),("_law_net",O.ST),("_law_ups",O.Sw),("_law_turned",O.Sx),("_law_drawn",O.SS),("_law_deeds",O.SR),("_law_ways",O.Sj),("_law_right",O.SV),("law",O.SL),("Bridge.__init__",O.RM),("Bridge.label",O.RP),("Bridge.stamp",O.R0),("Bridge.held",O.RW),("Bridge.up",O.R4),("Bridge.down",O.RZ),("Bridge.hear",O.RX),("Bridge.tick",O.R3),("Bridge.let_grow_older",O.RQ),("Bridge.reckon_label",O.RT),("Bridge.take_label",O.R1),("Bridge.letter_over",O.RS),("Bridge.is_rested_on",O.RU),("Bridge.is_agreed_to",O.RN),("Bridge.end",O.RY),("Yard.__init__",O.SK),("Yard.net",O.SN),("Yard.road",O.SO),("Yard.down",O.R9),("Yard.labels",O.SM),("Yard.ends",O.SY),("Yard.end_at",O.SZ),("Yard.has_tie",O.SJ),("Yard.deed",O.R8),("Yard.tick_of",O.SC),("Yard.come",O.R7),("Yard.take_off",O.SB),("Yard.fall_of_bridge",O.SX),("Yard.fall_of_tie",O.SW),("Yard.back_of_bridge",O.R5),("Yard.back_of_tie",O.R6),("Yard.set_ties_of",O.SA),("Yard.set_tie",O.SU)]:List<|String×O.Fn).lookup f)
instance:O.Al pg:=by constructor<;>rfl
variable {α:Type} {p:List α->Prop}
def ar1(h:∀a0,p [a0])(us:List α)(e:us.length=1):p us:=match us,e with|[a0],_=>h a0
def ar2(h:∀a0 a1,p [a0,a1])(us:List α)(e:us.length=2):p us:=match us,e with|[a0,a1],_=>h a0 a1
def ar3(h:∀a0 a1 a2,p [a0,a1,a2])(us:List α)(e:us.length=3):p us:=match us,e with|[a0,a1,a2],_=>h a0 a1 a2
def ar4(h:∀a0 a1 a2 a3,p [a0,a1,a2,a3])(us:List α)(e:us.length=4):p us:=match us,e with|[a0,a1,a2,a3],_=>h a0 a1 a2 a3
def ar5(h:∀a0 a1 a2 a3 a4,p [a0,a1,a2,a3,a4])(us:List α)(e:us.length=5):p us:=match us,e with|[a0,a1,a2,a3,a4],_=>h a0 a1 a2 a3 a4
variable {P:String->Ds->Prop}
def mc{f:String}{x:Ds}{l:List (String×Ds)}(h:P f x)(k:∀g y,(g,y)∈l->P g y):∀g y,(g,y)∈(f,x)::l->P g y:=λg y m=>by
 rcases Ç.mp m with e|m
 .cases e;exact h
 .exact k g y m
def mn:∀g y,(g,y)∈([]:List<|String×Ds)->P g y:=λ_ _ m=>nomatch m
def Fu:∀f x,(f,x)∈tb.fs.drop 12->x.Ok tb:=by
 iterate 12 refine mc ⟨by kernel_rfl,by kernel_rfl⟩ ?_
 exact mn
def tab_ok:∀f x,(f,x)∈tb.fs->x.Ok tb:=by
 iterate 12 refine mc ⟨by kernel_rfl,by kernel_rfl⟩ ?_
 exact Fu
def tab_pg:∀f x,(f,x)∈tb.fs->pg f=eh x.d:=by repeat first|exact mn|refine mc rfl ?_
def tab_bd:∀f x,(f,x)∈tb.fs->Hd.Bd (gg f) (gg f) x:=by repeat first|exact mn|refine mc (λ_ _ _ _ _ _=>(by first|exact ar1 λ_=>rfl|exact ar2 λ_ _=>rfl|exact ar3 λ_ _ _=>rfl|exact ar4 λ_ _ _ _=>rfl|exact ar5 λ_ _ _ _ _=>rfl)) ?_
def md{P:α->Prop}{x:α}{l:List α}(h:P x)(k:∀y,y∈l->P y):∀y,y∈x::l->P y:=λy m=>by
 rcases Ç.mp m with e|m
 .cases e;exact h
 .exact k y m
def me{P:α->Prop}:∀y,y∈([]:List α)->P y:=λ_ m=>nomatch m
def EL:∀y,y∈tb.ms.drop 24->y.x.Ok tb:=by
 iterate 9 refine md ⟨by kernel_rfl,by kernel_rfl⟩ ?_
 exact me
def DW:∀y,y∈tb.ms.drop 12->y.x.Ok tb:=by
 iterate 12 refine md ⟨by kernel_rfl,by kernel_rfl⟩ ?_
 exact EL
def tab_om:∀y,y∈tb.ms->y.x.Ok tb:=by
 iterate 12 refine md ⟨by kernel_rfl,by kernel_rfl⟩ ?_
 exact DW
def tab_pm:∀y,y∈tb.ms->pg (y.C ++ "." ++ y.m)=eh y.x.d:=by repeat first|exact me|refine md rfl ?_
def tab_bm:∀y,y∈tb.ms->Hd.Bd (gg y.m) (gg y.qual) y.x:=by repeat first|exact me|refine md (λ_ _ _ _ _ _=>(by first|exact ar1 λ_=>rfl|exact ar2 λ_ _=>rfl|exact ar3 λ_ _ _=>rfl|exact ar4 λ_ _ _ _=>rfl|exact ar5 λ_ _ _ _ _=>rfl)) ?_
def law_in:("law",x23)∈tb.fs:=ă (i:=23) rfl
noncomputable abbrev pr:Program:=PySem.Challenge.rw_shutways_k31_open_ways_told.row.prog
noncomputable abbrev vw:Program:=PySem.W.view pr [0,2,3,4,6,7,9,10,11,12,13,14,15,16,17,18,20,21,23,24,25,26,27,28,29,30,32,34,36,37,38,40,41,42,43,44,45,46,47,48,49,50]
noncomputable abbrev xt(s:Shared):Bool:=xlAt vw [] s&&recOk (RowW.records PySem.Challenge.rw_shutways_k31_open_ways_told.row.toRowW) s
def said:PySem.Challenge.rw_shutways_k31_open_ways_told.wellSaid=ej:=by rw[Fast.te9446332074065402090];kernel_rfl
def l1:∀w os,(Hd.runY pr 12000 w os).map (Hd.stY pr w)=eh ej:=λw os=>by kernel_rfl
def l2:∀w os,(Hd.runY pr 12000 w os).map (λs=>Hd.seenY vw [] (Hd.modsY pr.main.body) xt ej s.abs)=eh (openGood vw []):=λw os=>by kernel_rfl
def l3:∀w os,(Hd.runY pr 12000 w os).map (λs=>(Hd.hook tb).obs s.abs)=eh ((Hd.hook tb).val w):=λw os=>by kernel_rfl
def left:LeftO pr vw [] xt (Hd.hook tb).obs (Hd.hook tb).val 12000:=Hd.left_of (by kernel_rfl) rfl (λs=>by kernel_rfl) l1 l2 l3
end My
open PySem PySem.W PyProof.Rows
theorem PySem.Challenge.cw_shutways_k31_open_ways_told_holds : PySem.Challenge.rw_shutways_k31_open_ways_told.Holds := by
 refine holds_law My.said λsaid=>?_;refine holds_open (q:=My.vw) (loose:=[]) (Xt:=My.xt) (XP:=XL My.vw []) (YP:=(Hd.hook My.tb).says) My.left (Hook.of _) (Hook.keeps _) (λs e=>xl_of s (Ϛ.mp e).1) XL.keeps (by rfl) (by rfl) (by rfl) (λs e=>recFacts_of (Ϛ.mp e).2) (by rfl) said (by decide +kernel) ⟨rfl,rfl,rfl,rfl,rfl,by decide +kernel⟩ ?hw ?hc
 case hw=>w_on;w_witness2
 case hc=>exact Hd.law_walk (k:=7) rfl rfl rfl ⟨rfl,by decide,by decide⟩ My.law_in rfl rfl My.tab_pg My.tab_pm My.tab_ok My.tab_om My.tab_bd My.tab_bm λns hl=>O.law_ok (n:=0) hl λ_=>rfl
