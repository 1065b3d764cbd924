import PyProof.Rows.All
import Wide.All
import OpenK.AllK
import Wide.FinOn
import PyProof.EqAt
import PyProof.EqKinds
import PyProof.TupleCall
import Lean
import PySem.Challenge.RW_shutways_k26_what_is_down
set_option Elab.async false
set_option bootstrap.genMatcherCode false
set_option compiler.extract_closed false
set_option genSizeOf false
local macro_rules|`(command|def $x:declId $b:bracketedBinder*:$t $v:declVal)=>`(command|theorem $x:declId $b:bracketedBinder*:$t $v:declVal)
local macro_rules|`(command|abbrev $x:declId $s:optDeclSig $v:declVal)=>`(command|noncomputable def $x:declId $s:optDeclSig $v:declVal)
set_option linter.all false
set_option maxRecDepth 100000
open PySem.Str renaming ofString->gu
open PySem.W (Frag)
open Decidable renaming decide->gq
open Option renaming some->eL, none->eM
open Bool renaming true->eN, false->eP
open Array renaming length_toList->ï, getElem?_eq_getElem->ö, getElem?_toList->č, getElem?_eq_some_iff->ł, getD->Α, getElem?_eq_none->Ϗ, toList->bR, append_assoc->dh, toList_push->dQ, toList_inj->ez
open Bool renaming false_ne_true->ü, false_eq_true->ĭ, and_eq_true_iff->ō, not_eq_true'->Ť, true_and->θ, false_and->Β, or_false->ϰ, not_not->am, eq_iff_iff->aT, and_false->bj
open Char renaming toNat->ŧ
open False renaming elim->ø
open ForInStep renaming yield->ń
open Function renaming comp_apply->bV
open Int renaming toNat_natCast->á, emod_nonneg->Ħ, emod_lt_of_pos->Ĳ
open List renaming length_map->Ã, mem_cons->Æ, getElem?_eq_getElem->É, mem_append_right->Ê, length_cons->Ë, not_mem_nil->Í, size_toArray->Î, map_cons->Ï, getElem?_eq_some_iff->Ó, replicate->Ö, mem_cons_of_mem->Ú, mem_map->Û, getElem?_map->Ý, mem_append_left->Þ, lookup_cons->à, map_append->ã, nodup_append->å, mem_append->æ, mem_cons_self->è, mem_singleton->é, length_append->î, length_replicate->ð, mem_of_getElem?->ó, append_nil->õ, map_map->ú, getD_eq_getElem?_getD->ý, nodup_cons->Ă, length_take->ă, contains_iff_mem->Ą, map_congr_left->ą, all_eq_true->Ć, getElem?_append_left->ĉ, mem_filter->Ċ, replicate_succ->Č, getElem?_append_right->đ, take_length->ĕ, length_mergeSort->Ė, length_nil->Ę, find?_cons->ę, filter_cons->ě, nodup_nil->ġ, map_inj_left->Ģ, mem_map_of_mem->Ĥ, any_cons->ĳ, getElem?_set_ne->ĵ, append_assoc->Ķ, filterMap_cons->ĺ, filter_sublist->Ļ, getElem_mem->Ł, flatten_cons->Ō, getElem?_replicate->Ő, zip_cons_cons->œ, drop_eq_nil_of_le->ŕ, length_filter_le->ŝ, getElem?_eq_none->Ş, length_drop->ũ, mem_flatMap->ū, mergeSort_perm->ŭ, foldl_cons->ű, mem_range->Ź, take_add_one->ż, flatMap_cons->Ž, any_eq_true->ſ, lookup->ι, length_set->ξ, zip_nil_right->Γ, filterMap_map->Δ, drop_eq_getElem_cons->Ξ, zip_nil_left->Ο, reverse_cons->Ρ, length_range->Τ, getElem?_set_self'->ύ, getElem?_set_self->ϑ, map_id->Ϣ, mergeSort->ϣ, take_succ_cons->Ϯ, mem_filterMap->ϱ, pairwise_cons->ϳ, set_cons_succ->ϴ, set_cons_zero->ϵ, lookup_append->Ϸ, map_nil->ai, cons_append->aB, eq_nil_of_length_eq_zero->aH, of_mem_zip->aS, mapM_cons->bf, length_eraseIdx_of_lt->bh, getElem?_eq_none_iff->bu, length_erase_of_mem->bN, pairwise_mergeSort->bS, length_eq_zero_iff->bT, getElem?_cons_succ->bU, pairwise_lt_range->ca, take_of_length_le->ce, filterMap_eq_map'->cf, dropLast_eq_take->cD, mem_iff_getElem?->cE, set_append_left->cW, pairwise_append->cX, flatMap_append->dy, foldl->dM, append_of_mem->dU, filter_append->dW
open List.MergeSort.Internal renaming splitInTwo->ς
open List.Sublist renaming refl->μ
open Nat renaming le_refl->Ì, le_trans->Ô, lt_of_le_of_lt->Ü, lt_of_lt_of_le->â, ne_of_lt->ä, lt_irrefl->Ġ, lt_succ_self->ı, lt_succ_of_lt->ķ, zero_le->Ŀ, le_succ->ŀ, zero_add->ŗ, le_succ_of_le->ť, ne_of_gt->Ŭ, le_of_lt->ψ, succ_le_succ->ώ, min_eq_left->Ϛ, lt_trans->aq, min_le_right->aF, mul_le_mul_left->dO
open Option renaming map_eq_some_iff->Ò, bind_eq_some_iff->ê, bind_some->Ĕ, isSome_iff_exists->ī, map_some->Ŕ, isSome_map->ř, not_isSome_iff_eq_none->au, isNone_iff_eq_none->aY, isSome_some->cV, getD_none->dL
open Option.some renaming inj->ì, injEq->Į
open Prod.mk renaming injEq->Λ
open PyProof.Rows renaming IntsAre->ù, step_dedup->ţ, kindOf->Ζ, seqObj->Υ, firstMet->ϊ, AllBare->ϐ, envOfC->Ϻ, IsTup->ay, firstMet_length_le->aI, Constant_none->di, subscriptTail->dm, subscriptTail_builtinR->eh
open PySem renaming wpAny_bind->À, Value->Â, Shared->Ä, wpAny_pure->Ç, Addr->È, starEach->Ð, sizeLine->Ø, model->Ù, Program->ß, compareOp->ë, World->ñ, Heap->þ, wpAny_newObj_type->ÿ, wpAny_mono->Ā, Around->ā, mainGlobals->ć, wpAny_call_entry->Ĉ, backTo->ċ, wpAny_truthy_bool->Đ, wpAny_callSpecial?_slot->ē, foldedSetIterable->ė, wpAny_holding->Ě, wpAny_loadPart'->Ĝ, assignEach->ĝ, wpAny_Call_Name_kw->Ğ, rawInt->ģ, attributeBase->ĥ, Stmt->ħ, cLine->Ĩ, wpAny_field->Ĭ, codeAny_builtin->į, wpAny_ite_split->İ, keywordEach->ĸ, wpAny_setField->Ĺ, argBest->ļ, behindInMarks->Ņ, FuncData->Ň, wpAny_seqItems->ň, holding->ŋ, binaryOp->ŏ, plainId_quiet->ő, sysModules->ş, intKind->Š, codeAny_mono->š, tupleKind_room_in1->Ţ, swapsWith->Ŧ, PyData->Ũ, wpAny_setState_of->Ū, backToKw->Ů, bootBuiltins->Ű, wpAny_askSetting->Ų, wpAny_setEntries_of->ŵ, SetTable->Ÿ, wpAny_execs_nil->ź, pyNext->ε, firstArgMember->ζ, call_meetsIn->η, Scope->ν, builtinLookup_eq_fast->ο, assign->π, getMethod->ρ, standAt->χ, sliceBounds->ω, wpAny_passesOwn->Ε, wpAny_updateSeq->Κ, wpAny_rule->Χ, wpAny_tryCatch->Ω, isSubtype_type->ϋ, wpAny_pyIter_list->ϒ, swapsWithSole->ϖ, swappedStores->ϗ, tupleKind->ϛ, Operator->Ϝ, NameKind->ϝ, seqItems?->Ϟ, wpAny_isInstance->Ϡ, getItem->ϥ, IsPart->Ϧ, wpAny_typeOf->ϧ, valueAt->Ϩ, argsOk->ϩ, setsByText->Ϫ, letOwnedTupleGo->Ϭ, typeLookup_type->ϭ, sizeLine_eq->ϸ, callWith->Ϲ, wpAny_of_eq->aa, wpAny_fieldsOf->ae, unsupported->af, PassesOwn->ah, callerA->aj, scanBound->ao, intBits_le_64->az, wpAny_attempt->aA, wpAny_call->aE, wpAny_pyIter_tuple->aG, setItem->aV, seqIndex_neg->aW, Keyword->aX, wpAny_pyIter_slot->aZ, fits_of_scanBound->a9, wpAny_execs_cons->bw, lastMarks->bx, Result->bz, noFill_tuple_add->bA, noteFrame->bB, seqIndex_of->bJ, wpAny_letGo->bL, relabel->b6, GenState->ck, isTrue->cp, CmpOp->cq, pyIter->cr, call_meets->cx, newExc->cy, isSubtype_stop->cz, evalEach->cA, atKey->cC, entryFor->cF, entryFor_alias->cG, methodCallForm->cI, wpAny_standAt->dj, seq_tuple_add->dk, wpAny_comprehension_free->dq, wpAny_handled->dr, wpAny_newList->du, bindC->dJ, field->dN, updateSeq->dP, drawOrder->dR, release->d8, richCompare_meets_room->d9, concat_meets->ee, wpAny_getItem_list_neg->ei
open PySem.Around renaming under_plainId->ď, under->bI
open PySem.Builtin renaming iter->ŷ
open PySem.Builtin.Frozenset renaming sizeOf->cH
open PySem.Builtin.Str renaming strSliceIndices->Ι
open PySem.Code renaming isFrame->b5
open PySem.FuncData.mk renaming injEq->bM
open PySem.Heap renaming get?_push_of_some->Å, get?_push_size->Ñ, lt_size->Õ, get?_update_other->í, get?_update_self->Ď, SameBut->Œ, size_push->Ż, LeftW->ϲ
open PySem.Heap.SameBut renaming update->û
open PySem.NameKind renaming free->ĩ, cell->ej
open PySem.Obj renaming data_mapFields->Ŗ, mapSeq->Η, mapFields->Ψ, isFreed_of_fields->ϟ, cls_mapFields->ap, putSet->eC
open PySem.PyData renaming eqv->Ī, depthAll->ņ, canLayAll0->Ř, canLay0->Ŷ, eqvAll->Ν
open PySem.SetTable renaming below->Ľ, grown->ϔ, has->bg, orStandIn->cb, slot->eB
open PySem.SetTable.below renaming go->a8
open PySem.SetTable.probe renaming go->ϓ
open PySem.Value renaming notImplemented->cu
open PySem.Value.type renaming inj->ak
open PySem.W renaming boot_heap->ų, Frag->Θ, findIn->ac, boot_drawn->aJ, SharedT->bc, boot_toks->bC, mg_of->cJ, nsIn->eF, kitOne->eK
open PySem.pickOrder renaming go->bb
open String renaming ofList->Μ, singleton->al, length_toList->b7, toList_ofList->b8, length_append->b9
open UInt32.toNat renaming inj->bK
def bAq(a b:Bool):((a&&b)=eN)=(a=eN/\b=eN):=Bool.and_eq_true a b
abbrev gg:=@if_pos
abbrev gh:=@if_neg
abbrev gj:=@decide_eq_false
abbrev gk:=@decide_eq_true
abbrev gm:=@decide_eq_true_eq
@[reducible] noncomputable def gp:=@absurd
namespace L2
open PySem PySem.Spec PyProof.Rows
noncomputable abbrev Key:=Sum Int Str
abbrev W2:Key->Â->Bool
 |.inl k,v=>Value.isInt k v
 |.inr x,v=>Value.isStrOf x v
abbrev Q0(w:ñ):Key->Int
 |.inl k=>hashInt k
 |.inr x=>hashStr w x
def Zn:∀{k:Key}{v:Â},W2 k v=eN->(∃i t,k=Sum.inl i/\v=Value.int i t)\/(∃x t,k=Sum.inr x/\v=Value.str x t)
 |.inl i,v,h=>by obtain⟨t,e⟩:=Value.isInt_shape (k:=i) (v:=v) h;exact .inl ⟨i,t,rfl,e⟩
 |.inr x,v,h=>by obtain⟨t,e⟩:=Value.isStrOf_shape (x:=x) (v:=v) h;exact .inr ⟨x,t,rfl,e⟩
def AB(i:Int)(t:Tok):W2 (.inl i) (.int i t)=eN:=by simp[W2,Value.isInt]
def UM(x:Str)(t:Tok):W2 (.inr x) (.str x t)=eN:=by simp[W2,Value.isStrOf]
def IH(a b:Int):gq ((Sum.inl a:Key)=Sum.inl b)=(a==b):=by
 by_cases e:a=b
 .subst e;simp
 .have h:¬ (Sum.inl a:Key)=Sum.inl b:=λq=>e<|Sum.inl.inj q;rw[gj h];exact(beq_eq_false_iff_ne.mpr e).symm
def HE(a b:Str):gq ((Sum.inr a:Key)=Sum.inr b)=gq (a=b):=by
 by_cases e:a=b
 .subst e;simp
 .have h:¬ (Sum.inr a:Key)=Sum.inr b:=λq=>e<|Sum.inr.inj q;rw[gj h,gj e]
def Lu(a:Int)(b:Str):gq ((Sum.inl a:Key)=Sum.inr b)=eP:=gj (λq=>nomatch q)
def ID(a:Str)(b:Int):gq ((Sum.inr a:Key)=Sum.inl b)=eP:=gj (λq=>nomatch q)
abbrev Zd(prog:ß)(w:ñ):PySem.KeyKind prog w Key where
 is:=W2
 hash:=Q0 w
 inj:=λv a b ha hb=>by
  rcases Zn ha with⟨i,t,rfl,rfl⟩|⟨x,t,rfl,rfl⟩
  .rcases Zn hb with⟨j,u,rfl,e⟩|⟨y,u,rfl,e⟩
   .injection e with e1 _;rw[e1]
   .exact nomatch e
  .rcases Zn hb with⟨j,u,rfl,e⟩|⟨y,u,rfl,e⟩
   .exact nomatch e
   .injection e with e1 _;rw[e1]
 byValue:=λk v h=>by rcases Zn h with⟨i,t,rfl,rfl⟩|⟨x,t,rfl,rfl⟩<;>rfl
 pyHash:=λhv h=>by
  rcases Zn hv with⟨i,t,rfl,rfl⟩|⟨x,t,rfl,rfl⟩
  .exact wpAny_pyHash_int h
  .exact wpAny_pyHash_str h
 eqBool:=λhu hv h=>by
  rcases Zn hu with⟨i,t,rfl,rfl⟩|⟨x,t,rfl,rfl⟩
  .rcases Zn hv with⟨j,u,rfl,rfl⟩|⟨y,u,rfl,rfl⟩
   .rw[IH]at h;exact wpAny_eqBool_int h
   .rw[Lu]at h;exact SeqAt.EqAt.int_str i t y u _ _ _ _ h
  .rcases Zn hv with⟨j,u,rfl,rfl⟩|⟨y,u,rfl,rfl⟩
   .rw[ID]at h;exact SeqAt.EqAt.str_int x t j u _ _ _ _ h
   .rw[HE]at h;exact wpAny_eqBool_str h
 «strs»:=λk x t v h=>by
  rcases Zn h with⟨i,u,rfl,e⟩|⟨y,u,rfl,e⟩
  .exact nomatch e
  .injection e with e1 _;subst e1;cases v<;>rfl
def MI(prog:ß)(w:ñ)(i:Int)(t:Tok):(Zd prog w).is (.inl i) (.int i t)=eN:=AB i t
def NM(prog:ß)(w:ñ)(x:Str)(t:Tok):(Zd prog w).is (.inr x) (.str x t)=eN:=UM x t
inductive V where
 |non|bl (b:Bool)|int (i:Int)|str (x:Str)|byt (b:Array UInt8)|flt (b:UInt64)|ref (a:È)|ty (n:String)
 deriving DecidableEq
abbrev RelV:V->Â->Prop
 |.non,u=>u=Value.none
 |.bl b,u=>u=Value.bool b
 |.int i,u=>∃t,u=Value.int i t
 |.str x,u=>∃t,u=Value.str x t
 |.byt b,u=>∃t,u=Value.bytes b t
 |.flt b,u=>∃t,u=Value.float b t
 |.ref a,u=>u=Value.ref a
 |.ty n,u=>u=Value.type n
@[reducible] noncomputable def fZ:List V->List Â->Prop:=Paired RelV
def fZ.length{xs:List V}{us:List Â}(r:fZ xs us):xs.length=us.length:=Paired.length r
def fZ.get:∀{xs:List V}{us:List Â}{i:Nat}{x:V},fZ xs us->xs[i]?=eL x->∃u,us[i]?=eL u/\RelV x u
 |_,_,_,_,.nil,e=>by simp at e
 |_,_,0,_,.cons r _,e=>by simp at e;subst e;exact⟨_,rfl,r⟩
 |_,_,i+1,x,.cons _ t,e=>by obtain⟨u,h1,h2⟩:=fZ.get (i:=i) (x:=x) t (by simpa using e);exact⟨u,by simpa using h1,h2⟩
def fZ.set{x:V}{u:Â}(r:RelV x u):∀{xs:List V}{us:List Â}(i:Nat),fZ xs us->fZ (xs.set i x) (us.set i u)
 |_,_,_,.nil=>.nil
 |_,_,0,.cons _ t=>.cons r t
 |_,_,i+1,.cons q t=>.cons q<|fZ.set r i t
def fZ.append:∀{xs ys:List V}{us ws:List Â},fZ xs us->fZ ys ws->fZ (xs++ys) (us++ws)
 |_,_,_,_,.nil,s=>s
 |_,_,_,_,.cons r t,s=>.cons r<|fZ.append t s
def fZ.take:∀{xs:List V}{us:List Â}(n:Nat),fZ xs us->fZ (xs.take n) (us.take n)
 |_,_,0,_=>.nil
 |_,_,_+1,.nil=>.nil
 |_,_,n+1,.cons r t=>.cons r<|fZ.take n t
def fZ.drop:∀{xs:List V}{us:List Â}(n:Nat),fZ xs us->fZ (xs.drop n) (us.drop n)
 |_,_,0,r=>r
 |_,_,_+1,.nil=>.nil
 |_,_,n+1,.cons _ t=>fZ.drop n t
def fZ.none_of:∀{xs:List V}{us:List Â}{i:Nat},fZ xs us->xs[i]?=eM->us[i]?=eM:=λ{xs us i} r e=>by have h1:=r.length;have h2:xs.length<=i:=bu.mp e;exact bu.mpr (by lia)
abbrev fw:Option V->Option Â->Prop
 |some v,eL u=>RelV v u
 |none,eM=>True
 |_,_=>False
abbrev KV{κ:Type}:List (κ×V)->List (κ×Â)->Prop:=Paired λ(p:κ×V) (q:κ×Â)=>p.1=q.1/\RelV p.2 q.2
abbrev kV:Key->V
 |.inl i=>.int i
 |.inr x=>.str x
inductive HO where
 |lst (xs:List V)
 |tup (xs:List V)
 |dK (kvs:List<|Key×V)|dT (kvs:List<|List Key×V)
 |set (S:Int->Bool) (n:Nat)
 |ins (C dx:È) (fs:List<|Str×V)
 |own (x:È)
 |xd (fs:List<|Str×V)
 |met (f x:È)
 |rng (lo hi:Int)
 |frz (o:Obj) (u:HO)
 |tbl (ps:Array Â)
 |ext (φ:þ->Prop)
noncomputable abbrev Hp:=È->Option HO
abbrev upd(H:Hp)(a:È)(o:HO):Hp:=λb=>if b=a then eL o else H b
variable {H:Hp} {a:È} {o:HO}
def eR:upd H a o a=eL o:=by unfold upd;rw[gg rfl]
variable {b:È}
def eQ(h:b≠a):upd H a o b=H b:=by unfold upd;rw[gh h]
variable {u:HO}
def eS:upd (upd H a o) a u=upd H a u:=by funext b;unfold upd;split<;>rfl
def A7(h:H a=eL o)(h':H b=eL u)(d:o≠u):a≠b:=by intro e;subst e;rw[h]at h';exact d (ì h')
def Ze(h:H a=eL o)(h':H b=eM):a≠b:=by intro e;subst e;rw[h]at h';cases h'
section
variable (P:ß) (w:ñ)
abbrev eZ(H:Hp)(h:þ)(a:È):HO->Prop
 |.lst xs=>xs.length<=Ø/\∃(ò:List Â) (n:Nat),fZ xs ò/\h.get? a=eL {cls:=.type "list",data:=.seq ò.toArray n}
 |.tup xs=>xs.length<=Ø/\∃ò:List Â,fZ xs ò/\ay h a ò.toArray
 |.dK kvs=>kvs.length<=Ø/\(a==ş)=eP/\∃vs,KV kvs vs/\h.DictOf (Zd P w) a vs
 |.dT kvs=>kvs.length<=Ø/\(a==ş)=eP/\∃xs:List<|List Key×È×Â,
   Paired (λ(p:List Key×V) (q:List Key×È×Â)=>p.1=q.1/\H q.2.1=eL (.tup<|p.1.map kV)/\RelV p.2 q.2.2) kvs xs/\
   ∃o es ep,h.get? a=eL o/\o.ExactDict/\o.data=.dict es ep/\es.toList=xs.map (entryOfKey<|ϛ<|Zd P w)/\(xs.map (·.1)).Nodup
 |.set S n=>h.SetOf (Š P w) a S n
 |.ins C dx fs=>H dx=eL (.own a)/\fs.length<=1000/\dx≠a/\h.get? a=eL (PySem.W.instObj C dx)/\
   ∃mA,h.Ns1 dx mA/\(∀f,fw (fs.lookup f)<|mA f)/\PySem.Within mA (fs.map (·.1))
 |.own _=>∃o,h.get? a=eL o
 |.xd fs=>∃mA,h.Ns1 a mA/\∀f,fw (fs.lookup f) (mA f)
 |.rng lo hi=>∃t u v,h.get? a=eL {cls:=.type "range",data:=.fields #[.int lo t,.int hi u,.int 1 v]}
 |.frz o u=>h.get? a=eL o/\eZ H h a u
 |.tbl ps=>h.get? a=eL {cls:=.none,data:=.fields ps}
 |.met f x=>h.get? a=eL (PySem.W.methodObj (.ref f)<|.ref x)
 |.ext φ=>φ h/\(∃o,h.get? a=eL o)/\∀h1 h2:þ,φ h1->(∀o,h1.get? a=eL o->h2.get? a=eL o)->φ h2
abbrev HOk(H:Hp)(h:þ):Prop:=∀a o,H a=eL o->eZ P w H h a o
end
section
variable {P:ß}{w:ñ}{H H':Hp}{h h':þ}{a:È}{o:HO}
def eZ.lt(x:eZ P w H h a o):a<h.objs.size:=by
 cases o with
 |lst xs=>obtain⟨_,_,_,_,e⟩:=x;exact Õ e
 |tup xs=>obtain⟨_,_,_,p⟩:=x;exact p.lt
 |dK kvs=>obtain⟨_,_,_,_,o,_,_,e,_⟩:=x;exact Õ e
 |dT kvs=>obtain⟨_,_,_,_,o,_,_,e,_⟩:=x;exact Õ e
 |set S n=>obtain⟨o,_,_,_,e,_⟩:=x;exact Õ e
 |ins C dx fs=>obtain⟨_,_,_,e,_⟩:=x;exact Õ e
 |own y=>obtain⟨_,e⟩:=x;exact Õ e
 |xd fs=>obtain⟨_,⟨_,_,_,e,_⟩,_⟩:=x;exact Õ e
 |rng lo hi=>obtain⟨_,_,_,e⟩:=x;exact Õ e
 |frz ob u=>obtain⟨e,_⟩:=x;exact Õ e
 |tbl ps=>exact Õ (show h.get? a=eL _ from x)
 |met f y=>exact Õ (show h.get? a=eL _ from x)
 |ext φ=>obtain⟨_,⟨_,e⟩,_⟩:=x;exact Õ e
def Paired.mapP{α β:Type}{F G:α->β->Prop}:∀{l₁:List α}{l₂:List β},Paired F l₁ l₂->(∀a b,F a b->G a b)->Paired G l₁ l₂
 |_,_,.nil,_=>.nil
 |_,_,.cons r t,f=>.cons (f _ _ r)<|Paired.mapP t f
def eZ.stay(x:eZ P w H h a o)(k:∀b u,(b=a\/H b=eL (.own a))->h.get? b=eL u->h'.get? b=eL u)
  (ho:∀b,H b=eL (.own a)->H' b=eL (.own a)) (ht:∀b xs,H b=eL (.tup xs)->H' b=eL (.tup xs)):eZ P w H' h' a o:=by
 induction o with
 |lst xs=>obtain⟨z,ò,n,r,e⟩:=x;exact⟨z,ò,n,r,k _ _ (.inl rfl) e⟩
 |tup xs=>obtain⟨z,ò,r,ob,e,c⟩:=x;exact⟨z,ò,r,ob,k _ _ (.inl rfl) e,c⟩
 |dK kvs=>obtain⟨z,y,vs,r,ob,es,ep,e,c⟩:=x;exact⟨z,y,vs,r,ob,es,ep,k _ _ (.inl rfl) e,c⟩
 |dT kvs =>obtain⟨z,y,xs,r,ob,es,ep,e,c⟩:=x;exact⟨z,y,xs,Paired.mapP r λp q z=>⟨z.1,ht _ _ z.2.1,z.2.2⟩,ob,es,ep,k _ _ (.inl rfl) e,c⟩
 |set S n=>obtain⟨ob,es,ep,t,e,c⟩:=x;exact⟨ob,es,ep,t,k _ _ (.inl rfl) e,c⟩
 |ins C dx fs =>obtain⟨d,z,ne,e,mA,⟨od,es,ep,e2,c⟩,r⟩:=x;exact⟨ho _ d,z,ne,k _ _ (.inl rfl) e,mA,⟨od,es,ep,k _ _ (.inr d) e2,c⟩,r⟩
 |own y=>obtain⟨ob,e⟩:=x;exact⟨ob,k _ _ (.inl rfl) e⟩
 |xd fs=>obtain⟨mA,⟨od,es,ep,e,c⟩,r⟩:=x;exact⟨mA,⟨od,es,ep,k _ _ (.inl rfl) e,c⟩,r⟩
 |rng lo hi=>obtain⟨t,u,v,e⟩:=x;exact⟨t,u,v,k _ _ (.inl rfl) e⟩
 |frz ob u ih=>obtain⟨e,q⟩:=x;exact⟨k _ _ (.inl rfl) e,ih q⟩
 |tbl ps =>have e:h.get? a=eL {cls:=.none,data:=.fields ps}:=x;show h'.get? a=eL {cls:=.none,data:=.fields ps};exact k a _ (.inl rfl) e
 |met f y =>have e:h.get? a=eL (PySem.W.methodObj (.ref f)<|.ref y):=x;show h'.get? a=eL (PySem.W.methodObj (.ref f)<|.ref y);exact k a _ (.inl rfl) e
 |ext φ=>obtain⟨p,⟨o,e⟩,st⟩:=x;exact⟨st _ _ p λo q=>k _ _ (.inl rfl) q,⟨o,k _ _ (.inl rfl) e⟩,st⟩
def HOk.lt(x:HOk P w H h)(e:H a=eL o):a<h.objs.size:=(x a o e).lt
def HOk.fresh(x:HOk P w H h)(e:h.objs.size<=a):H a=eM:=by
 cases q:H a with
 |none=>rfl
 |some u=>exact gp (â (x.lt q) e)<|Ġ _
def HOk.kept(x:HOk P w H h)(k:∀b u,h.get? b=eL u->h'.get? b=eL u):HOk P w H h':=λa o e =>
 (x a o e).stay (λb u _ q=>k b u q) (λ_ q=>q) λ_ _ q=>q
def HOk.laid(x:HOk P w H h)(k:∀b u,h.get? b=eL u->h'.get? b=eL u)(hp:h.objs.size<=a)(new:eZ P w (upd H a o) h' a o):HOk P w (upd H a o) h':=λb u e=>by
 have hn:=x.fresh hp;by_cases hb:b=a
 .subst hb;rw[eR]at e;cases e;exact new
 .rw[eQ hb]at e;exact(x b u e).stay (λc v _ q=>k c v q) (λc q=>by rw[eQ<|Ze q hn];exact q) λc xs q=>by rw[eQ<|Ze q hn];exact q
end
abbrev Rd(H:Hp)(a:È)(u:HO):Prop:=H a=eL u\/∃o,H a=eL (.frz o u)
def Rd.of(h:H a=eL u):Rd H a u:=.inl h
variable {h:þ}
def Rd.ok{P:ß}{w:ñ}(r:Rd H a u)(x:HOk P w H h):eZ P w H h a u:=by
 rcases r with r|⟨o,r⟩
 .exact x a u r
 .obtain⟨_,q⟩:=x a _ r;exact q
abbrev Mut:Option HO->Prop
 |some (.lst _)=>True
 |some (.dK _)=>True
 |some (.dT _)=>True
 |some (.set _ _)=>True
 |some (.ins _ _ _)=>True
 |some (.ext _)=>True
 |_=>False
section
variable {P:ß}{w:ñ}{H:Hp}{h h':þ}{x e:È}{o':HO}
def HOk.write(ok:HOk P w H h)(mu:Mut<|H x)(he:e=x\/H e=eL (.own x))(k:∀b u,b≠e->h.get? b=eL u->h'.get? b=eL u)(heo:∃u,h'.get? e=eL u)
  (new:eZ P w (upd H x o') h' x o'):HOk P w (upd H x o') h':=λb u q=>by
 have nown:∀c y,H c=eL (.own y)->c≠x:=λc y r z=>by subst z;rw[r]at mu;exact mu
 have ntup:∀c xs,H c=eL (.tup xs)->c≠x:=λc xs r z=>by subst z;rw[r]at mu;exact mu
 by_cases hb:b=x
 .subst hb;rw[eR]at q;cases q;exact new
 .rw[eQ hb]at q;by_cases hbe:b=e
  .have q':H b=eL (.own x):=by
    rcases he with z|z
    .exact gp (hbe.trans z) hb
    .rw[hbe];exact z
   rw[q]at q';cases q';obtain⟨v,hv⟩:=heo;exact⟨v,by rw[hbe];exact hv⟩
  .refine(ok b u q).stay (λc v hc r=>k c v ?_ r) (λc r=>by rw[eQ<|nown c b r];exact r) λc xs r=>by rw[eQ<|ntup c xs r];exact r
   rcases hc with rfl|hc
   .exact hbe
   .rintro rfl;rcases he with z|z
    .exact nown c b hc z
    .rw[hc]at z;cases z;exact hb rfl
end
structure Un(fs ex:List È)(H H':Hp)(h h':þ):Prop where
 keep:∀b o,h.get? b=eL o->H b=eM->b∉fs->b∉ex->h'.get? b=eL o
 slot:∀b o,h.get? b=eL o->H b=eM->b∈fs->b∉ex->∃sl,h'.get? b=eL {o with slots:=sl}
 free:∀b o,h.get? b=eL o->H b=eM->b∉ex->H' b=eM
 there:∀b o,h.get? b=eL o->b∉ex->∃o',h'.get? b=eL o'
 tups:∀b xs,H b=eL (.tup xs)->H' b=eL (.tup xs)
 frzs:∀b o u,H b=eL (.frz o u)->H' b=eL (.frz o u)
 tbls:∀b ps,H b=eL (.tbl ps)->∃more,H' b=eL (.tbl<|ps++more)
section
variable {fs dX ex ex':List È}{H H1 H2:Hp}{h h1 h2 h':þ}{a x e:È}{o:HO}
def Un.any(u:Un fs ex H H1 h h1){ob:Obj}(q:h.get? b=eL ob)(n:H b=eM)(hx:b∉ex):∃sl,h1.get? b=eL {ob with slots:=sl}:=by
 by_cases hb:b∈fs
 .exact u.slot b ob q n hb hx
 .exact⟨ob.slots,u.keep b ob q n hb hx⟩
def Un.trans(a:Un fs ex H H1 h h1)(b:Un fs ex H1 H2 h1 h2):Un fs ex H H2 h h2 where
 keep:=λc ob q n hc hx=>b.keep c ob (a.keep c ob q n hc hx) (a.free c ob q n hx) hc hx
 slot:=λc ob q n hc hx=>by obtain⟨sl,e1⟩:=a.slot c ob q n hc hx;obtain⟨sl',e2⟩:=b.slot c _ e1 (a.free c ob q n hx) hc hx;exact⟨sl',e2⟩
 free:=λc ob q n hx=>by obtain⟨o',e1⟩:=a.there c ob q hx;exact b.free c o' e1 (a.free c ob q n hx) hx
 there:=λc ob q hx=>by obtain⟨o',e1⟩:=a.there c ob q hx;exact b.there c o' e1 hx
 tups:=λc xs q=>b.tups c xs<|a.tups c xs q
 frzs:=λc ob xs q=>b.frzs c ob xs<|a.frzs c ob xs q
 tbls:=λc ps q=>by obtain⟨m1,e1⟩:=a.tbls c ps q;obtain⟨m2,e2⟩:=b.tbls c _ e1;exact⟨m1++m2,by rw[e2,dh]⟩
def Un.kept(k:∀b u,h.get? b=eL u->h'.get? b=eL u):Un fs ex H H h h' :=
 ⟨λb ob q _ _ _=>k b ob q,λb ob q _ _ _=>⟨ob.slots,k b ob q⟩,λ_ _ _ n _=>n,λb ob q _=>⟨ob,k b ob q⟩,λ_ _ q=>q,λ_ _ _ q=>q,λ_ ps q=>⟨#[],by rw[q];simp⟩⟩
def Un.refl:Un fs ex H H h h:=Un.kept λ_ _ q=>q
def Un.laid(k:∀b u,h.get? b=eL u->h'.get? b=eL u)(hp:h.objs.size<=a)(hn:H a=eM):Un fs ex H (upd H a o) h h' where
 keep:=λb u q _ _ _=>k b u q
 slot:=λb u q _ _ _=>⟨u.slots,k b u q⟩
 free:=λb u q n _=>by rw[eQ<|ä<|â (Õ q) hp];exact n
 there:=λb u q _=>⟨u,k b u q⟩
 tups:=λb xs q=>by rw[eQ<|Ze q hn];exact q
 frzs:=λb u xs q=>by rw[eQ<|Ze q hn];exact q
 tbls:=λb ps q=>⟨#[],by rw[eQ<|Ze q hn,q];simp⟩
def Un.write(mu:Mut<|H x)(he:e=x\/H e=eL (.own x))(k:∀b u,b≠e->h.get? b=eL u->h'.get? b=eL u)(heo:∃u,h'.get? e=eL u):Un fs ex H (upd H x o) h h':=by
 have hx:∀b,H b=eM->b≠x:=λb n z=>by subst z;rw[n]at mu;exact mu
 have hb:∀b,H b=eM->b≠e:=λb n z=>by
  subst z;rcases he with r|r
  .exact hx b n r
  .rw[n]at r;cases r
 have hm:∀b u,H b=eL u->¬ Mut (eL u)->b≠x:=λb u q nm z=>by subst z;rw[q]at mu;exact nm mu
 refine⟨λb u q n _ _=>k b u (hb b n) q,λb u q n _ _=>⟨u.slots,k b u (hb b n) q⟩,λb u q n _=>by rw[eQ<|hx b n];exact n,λb u q _=>?_,
   λb xs q=>by rw[eQ<|hm b _ q λz=>z];exact q,λb u xs q=>by rw[eQ<|hm b _ q λz=>z];exact q,λb ps q=>⟨#[],by rw[eQ<|hm b _ q λz=>z,q];simp⟩⟩
 by_cases hbe:b=e
 .subst hbe;exact heo
 .exact⟨u,k b u hbe q⟩
def Un.mono(u:Un fs ex H H1 h h1)(hs:∀b∈fs,b∈dX)(hx:∀b∈ex,b∈ex'):Un dX ex' H H1 h h1 :=
 ⟨λb ob q n hb he=>u.keep b ob q n (λz=>hb<|hs b z) λz=>he<|hx b z,λ_ _ q n _ he=>u.any q n λz=>he<|hx _ z,λb ob q n he=>u.free b ob q n λz=>he<|hx b z,λb ob q he=>u.there b ob q λz=>he<|hx b z,u.tups,u.frzs,u.tbls⟩
end
abbrev trk(h:þ)(H:Hp):List È:=(List.range h.objs.size).filter λa=>(H a).isSome
abbrev Mn(h:þ)(H:Hp):þ:=PySem.W.hideAll h<|trk h H
def Am(h:þ)(H:Hp):(Mn h H).objs.size=h.objs.size:=PySem.W.hideAll_size _ _
def Bt{o:Obj}(e:h.get? b=eL o)(n:H b=eM):(Mn h H).get? b=eL o :=
 PySem.W.hideAll_get _ e λhm=>by have q:(H b).isSome=eN:=(Ċ.mp hm).2;rw[n]at q;simp at q
def Ef{o:Obj}(e:(Mn h H).get? b=eL o):h.get? b=eL o/\H b=eM:=by
 have e':h.get? b=eL o:=PySem.W.of_hideAll (trk h H) e;refine⟨e',?_⟩;cases q:H b with
 |none=>rfl
 |some x =>have hm:b∈trk h H:=Ċ.mpr ⟨Ź.mpr<|Õ e',by simp[q]⟩;have z:(Mn h H).get? b=eM:=PySem.W.hideAll_none (trk h H) hm;rw[z]at e;cases e
abbrev DZ(g h:þ)(L:È):List<|È×Obj:=(List.range h.objs.size).filterMap λa=>if a=L\/(g.get? a).isSome=eN then eM else(h.get? a).map λo=>(a,o)
abbrev rest(g h:þ)(L d:È):List<|È×Obj:=(DZ g h L).filter λp=>gq (p.1≠d)
structure Mod(K:Frag)(mg:Str->Option Â)(base:þ):Prop where
 kin:K.In base
 glob:base.Ns ć mg
 blt:∃mb,base.Ns builtinsNs mb/\∀x:Str,x≠"__name__"->mb x=Ű x
 nolimit:base.NoLimit
structure Cx where
 prog:ß
 w:ñ
 K:Frag
 mg:Str->Option Â
 base:þ
 A:ā
 N:List Str
 s₀:Ä
 H₀:Hp
 env:Env
 outer:List Env
 stack:List Env
 ex:List È
 fn:Str->Bool
 calm:Bool
 pn:List<|È×Obj
 xe:Â->Ä->Prop
abbrev frs(l:List Env):List È:=l.filterMap (·.frame)
noncomputable abbrev Cx.fs(X:Cx):List È:=frs X.outer
abbrev Vis(sc:ν)(x:Str):Prop:=sc.names.lookup x=eL .local\/sc.names.lookup x=eL .cell\/sc.names.lookup x=eL .free
abbrev Loc(sc:ν)(x:Str):Prop:=sc.names.lookup x=eL .local\/sc.names.lookup x=eL .cell
abbrev QF(env:Env)(h:þ)(m:Str->Option Â)(x:Str)(u:Â):Prop :=
 (env.kindOf x=eL .local/\m x=eL u)\/((env.kindOf x=eL .cell\/env.kindOf x=eL .free)/\∃c,env.cells.lookup x=eL c/\h.IsCell c (eL u))
structure Cx.Ok(X:Cx):Prop where
 mod:Mod X.K X.mg X.base
 kind:X.env.scope.kind=.function
 glob:X.env.globals=ć
 blt:X.env.builtins=builtinsNs
 above:X.s₀.heap.objs.size<=X.env.locals
 inj:∀x y c,X.env.cells.lookup x=eL c->X.env.cells.lookup y=eL c->x=y
 has:∀x,(X.env.kindOf x=eL .cell\/X.env.kindOf x=eL .free)->∃c,X.env.cells.lookup x=eL c
 cab:∀x c,X.fn x=eN->X.env.cells.lookup x=eL c->X.s₀.heap.objs.size<=c
 hd:X.calm=eN->X.A.handled=eM
 frames:X.A.frames=eL X.stack
 stk:X.stack=X.outer\/(X.stack=X.env::X.outer/\X.env.frame=eL X.env.locals)
 exf:∀b∈X.ex,b≠X.env.locals/\∀x c,X.env.cells.lookup x=eL c->c≠b
 bs:∀b o,X.base.get? b=eL o->X.s₀.heap.get? b=eL o/\X.H₀ b=eM
 bsz:X.base.objs.size<=X.s₀.heap.objs.size
 noex:∀b o,X.base.get? b=eL o->b∉X.ex
 exfs:∀b∈X.ex,b∉X.fs
 funs:X.s₀.heap.FunFrames X.base X.outer
 frf:∀b∈X.fs,X.H₀ b=eM
structure Inv(X:Cx)(Á:List<|È×Obj)(σ:List<|Option V)(H:Hp)(s:Ä):Prop where
 ok:X.Ok
 os:s.os=X.s₀.os
 bare:ϐ s.gens
 base:Un X.fs X.ex X.H₀ H X.s₀.heap s.heap
 loc:∃m,s.heap.Ns X.env.locals m/\∀(i:Nat) (x:Str) (v:V),X.N[i]?=eL x->σ[i]?=eL (eL v)->Vis X.env.scope x->∃u,RelV v u/\QF X.env s.heap m x u
 cell:∀x c,X.env.cells.lookup x=eL c->∃v,s.heap.IsCell c v
 free:H X.env.locals=eM
 freeC:∀x c,X.env.cells.lookup x=eL c->H c=eM
 pin:∀p∈X.pn++Á,s.heap.get? p.1=eL p.2/\H p.1=eM/\p.1≠X.env.locals/\p.1∉X.fs/\∀v,p.2.data≠.cell v
 hok:HOk X.prog X.w H s.heap
 len:σ.length=X.N.length
section
variable {X:Cx}{Á:List (È×Obj)}{σ:List (Option V)}{H H':Hp}{s:Ä}{h':þ}
def Cx.Ok.nofr(ok:X.Ok){b:È}{o:Obj}(e:X.base.get? b=eL o):b∉X.fs:=λhb=>by have:=(ok.funs.mem hb).1;rw[e]at this;cases this
def Inv.bs(I:Inv X Á σ H s):∀b o,X.base.get? b=eL o->s.heap.get? b=eL o/\H b=eM:=λb o e =>
 ⟨I.base.keep b o (I.ok.bs b o e).1 (I.ok.bs b o e).2 (I.ok.nofr e)<|I.ok.noex b o e,I.base.free b o (I.ok.bs b o e).1 (I.ok.bs b o e).2<|I.ok.noex b o e⟩
def Inv.bk(I:Inv X Á σ H s):∀b o,X.base.get? b=eL o->s.heap.get? b=eL o:=λb o e=>(I.bs b o e).1
def Inv.mod(I:Inv X Á σ H s):Mod X.K X.mg X.base:=I.ok.mod
def Inv.kIn(I:Inv X Á σ H s):X.K.In s.heap:=I.ok.mod.kin.keeps I.bk
def Inv.nolimit(I:Inv X Á σ H s):s.heap.NoLimit:=I.ok.mod.nolimit.keeps I.bk
def Inv.fr(I:Inv X Á σ H s):∃m,Fr X.base X.env.locals s.heap m :=
 let ⟨m,hn,_⟩:=I.loc
 ⟨m,hn,I.bk,Ô I.ok.bsz I.ok.above⟩
def Inv.lt(I:Inv X Á σ H s):X.env.locals<s.heap.objs.size:=let ⟨_,hn,_⟩:=I.loc;hn.lt
def Inv.sz(I:Inv X Á σ H s):X.s₀.heap.objs.size<=s.heap.objs.size:=Ô I.ok.above (ψ I.lt)
variable {a:È}
def Inv.nofs(I:Inv X Á σ H s)(h:s.heap.objs.size<=a):a∉X.fs:=λhb=>by obtain⟨_,o,ho,_⟩:=I.ok.funs.mem hb;exact gp (â (Õ ho)<|Ô I.sz h) (Ġ _)
def Inv.cne(I:Inv X Á σ H s):∀x c,X.env.cells.lookup x=eL c->c≠X.env.locals:=λx c e z=>by obtain⟨v,o,ho,hd⟩:=I.cell x c e;obtain⟨m,⟨o',es,ep,aC,hd',_⟩,_⟩:=I.loc;rw[z,aC]at ho;cases ho;rw[hd']at hd;cases hd
def Inv.funs(I:Inv X Á σ H s):s.heap.FunFrames X.base X.outer:=by
 have all:∀(l:List Env),(∀b∈frs l,b∈X.fs)->X.s₀.heap.FunFrames X.base l->s.heap.FunFrames X.base l:=by
  intro l;induction l with
  |nil=>intro _ _;trivial
  |cons env r ih =>intro hs hl;obtain⟨hk,⟨L,o,hf,hn,ho,hd⟩,hr⟩:=hl;have hL:L∈X.fs:=hs L (by unfold frs;rw[ĺ,hf];exact è);obtain⟨sl,e⟩:=I.base.slot L o ho (I.ok.frf L hL) hL λz=>I.ok.exfs L z hL;exact⟨hk,⟨L,_,hf,hn,e,hd⟩,ih (λb hb=>hs b<|by unfold frs;rw[ĺ,hf];exact Ú _ hb) hr⟩
 exact all X.outer (λ_ hb=>hb) I.ok.funs
def Inv.stack(I:Inv X Á σ H s):s.heap.FunFrames X.base X.stack:=by
 rcases I.ok.stk with e|⟨e,hf⟩
 .rw[e];exact I.funs
 .rw[e];obtain⟨m,hn,_⟩:=I.loc;refine .cons (by rw[I.ok.kind];decide) hf hn ?_ I.funs;exact Heap.get?_none_of_le<|Ô I.ok.bsz I.ok.above
def Inv.stkSub(I:Inv X Á σ H s):∀b∈frs X.stack,b∈X.env.locals::X.fs:=λb hb=>by
 rcases I.ok.stk with e|⟨e,hf⟩
 .rw[e]at hb;exact Ú _ hb
 .rw[e]at hb;unfold frs at hb;rw[ĺ,hf]at hb;exact hb
def Inv.stkFree(I:Inv X Á σ H s):∀b∈frs X.stack,H b=eM:=λb hb=>by
 rcases Æ.mp (I.stkSub b hb)with e|hb
 .rw[e];exact I.free
 .obtain⟨_,o,ho,_⟩:=I.ok.funs.mem hb;exact I.base.free b o ho (I.ok.frf b hb) λz=>I.ok.exfs b z hb
variable {g':Array ck} {t':Nat} {d':Drawn} {ch:List È}
def Inv.step(I:Inv X Á σ H s)
  (hch:∀b∈ch,(b∈X.ex\/X.s₀.heap.objs.size<=b)/\b≠X.env.locals/\(∀x c,X.env.cells.lookup x=eL c->c≠b)/\∀p∈X.pn++Á,p.1≠b)
  (keep:∀b o,b≠X.env.locals->b∉X.fs->b∉ch->s.heap.get? b=eL o->H b=eM->h'.get? b=eL o)
  (slot:∀b o,b≠X.env.locals->b∈X.fs->b∉ch->s.heap.get? b=eL o->H b=eM->∃sl,h'.get? b=eL {o with slots:=sl}) (free:∀b o,b∉ch->s.heap.get? b=eL o->H b=eM->H' b=eM)
  (there:∀b o,b∉ch->s.heap.get? b=eL o->∃o',h'.get? b=eL o')
  (tups:∀b xs,H b=eL (.tup xs)->H' b=eL (.tup xs)) (frzs:∀b o u,H b=eL (.frz o u)->H' b=eL (.frz o u)) (tbls:∀b ps,H b=eL (.tbl ps)->∃more,H' b=eL (.tbl<|ps++more))
  (ns:∀m,s.heap.Ns X.env.locals m->h'.Ns X.env.locals m) (hok:HOk X.prog X.w H' h') (hg:ϐ g') :
  Inv X Á σ H' {s with heap:=h',gens:=g',drawn:=d',toks:=t'}:=by
 have neL:∀b o,X.s₀.heap.get? b=eL o->b≠X.env.locals:=λb o e=>ä<|â (Õ e) I.ok.above;have neC:∀b o,X.s₀.heap.get? b=eL o->b∉X.ex->b∉ch:=λb o e hx hb=>by
  rcases (hch b hb).1 with z|z
  .exact hx z
  .exact gp (â (Õ e) z)<|Ġ _
 have cellK:∀x c,X.env.cells.lookup x=eL c->∀v,s.heap.IsCell c v->h'.IsCell c v:=λx c e v ⟨o,ho,hd⟩=>by
  have nch:c∉ch:=λz=>(hch c z).2.2.1 x c e rfl;by_cases hc:c∈X.fs
  .obtain⟨sl,q⟩:=slot c o (I.cne x c e) hc nch ho<|I.freeC x c e;exact⟨_,q,hd⟩
  .exact⟨o,keep c o (I.cne x c e) hc nch ho<|I.freeC x c e,hd⟩
 refine⟨I.ok,I.os,hg,⟨λb o e n hb hx=>?_,λb o e n hb hx=>?_,λb o e n hx=>?_,λb o e hx=>?_,λb xs e=>tups b xs<|I.base.tups b xs e,λb o xs e=>frzs b o xs<|I.base.frzs b o xs e,λb ps e=>?_⟩,?_,λx c e=>?_,?_,λx c e=>?_,λp hp=>?_,hok,I.len⟩
 .exact keep b o (neL b o e) hb (neC b o e hx) (I.base.keep b o e n hb hx)<|I.base.free b o e n hx
 .obtain⟨sl,e1⟩:=I.base.slot b o e n hb hx;obtain⟨sl',e2⟩:=slot b _ (neL b o e) hb (neC b o e hx) e1<|I.base.free b o e n hx;exact⟨sl',e2⟩
 .obtain⟨o',e1⟩:=I.base.there b o e hx;exact free b o' (neC b o e hx) e1<|I.base.free b o e n hx
 .obtain⟨o',e1⟩:=I.base.there b o e hx;exact there b o' (neC b o e hx) e1
 .obtain⟨m1,e1⟩:=I.base.tbls b ps e;obtain⟨m2,e2⟩:=tbls b _ e1;exact⟨m1++m2,by rw[e2,dh]⟩
 .obtain⟨m,hn,hl⟩:=I.loc;refine⟨m,ns m hn,λi x v e1 e2 e3=>?_⟩;obtain⟨u,r,l⟩:=hl i x v e1 e2 e3;refine⟨u,r,?_⟩;rcases l with l|⟨k,c,e,z⟩
  .exact .inl l
  .exact .inr ⟨k,c,e,cellK x c e _ z⟩
 .obtain⟨v,z⟩:=I.cell x c e;exact⟨v,cellK x c e v z⟩
 .obtain⟨m,⟨o,_,_,ho,_⟩,_⟩:=I.loc;exact free _ o (λz=>(hch _ z).2.1 rfl) ho I.free
 .obtain⟨v,o,ho,hd⟩:=I.cell x c e;exact free c o (λz=>(hch c z).2.2.1 x c e rfl) ho<|I.freeC x c e
 .obtain⟨e,n,ne,nf,d⟩:=I.pin p hp;have nch:p.1∉ch:=λz=>(hch p.1 z).2.2.2 p hp rfl;exact⟨keep p.1 p.2 ne nf nch e n,free p.1 p.2 nch e n,ne,nf,d⟩
def Inv.un(I:Inv X Á σ H s)(u:Un X.fs [] H H' s.heap h')(hok:HOk X.prog X.w H' h'):Inv X Á σ H' {s with heap:=h',toks:=t'}:=by
 obtain⟨m,⟨o,es,ep,ho,r⟩,_⟩:=id I.loc;obtain⟨sl,hL⟩:=u.any ho I.free (by simp);exact I.step (g':=s.gens) (d':=s.drawn) (ch:=[]) (λ_ z=>nomatch z) (λb o _ hb _ e n=>u.keep b o e n hb<|by simp) (λb o _ hb _ e n=>u.slot b o e n hb<|by simp) (λb o _ e n=>u.free b o e n<|by simp) (λb o _ e=>u.there b o e<|by simp) u.tups u.frzs u.tbls (λm' hm=>by
   obtain⟨o',es',ep',aC,r'⟩:=hm
   rw[ho]at aC;cases aC
   exact⟨_,es',ep',hL,r'⟩) hok I.bare
def Inv.call(I:Inv X Á σ H s)(u:Un (frs X.stack) ch H H' s.heap h')(hok:HOk X.prog X.w H' h')(hg:ϐ g')
  (hch:∀b∈ch,(b∈X.ex\/X.s₀.heap.objs.size<=b)/\b≠X.env.locals/\(∀x c,X.env.cells.lookup x=eL c->c≠b)/\∀p∈X.pn++Á,p.1≠b) :
  Inv X Á σ H' {s with heap:=h',gens:=g',drawn:=d',toks:=t'}:=by
 obtain⟨m,⟨o,es,ep,ho,r⟩,_⟩:=id I.loc;obtain⟨sl,hL⟩:=u.any ho I.free λz=>(hch _ z).2.1 rfl;exact I.step (ch:=ch) hch (λb o hL hb hc e n=>u.keep b o e n (λz=>(Æ.mp<|I.stkSub b z).elim hL hb) hc) (λb o _ _ hc e n=>u.any e n hc) (λb o hc e n=>u.free b o e n hc) (λb o hc e=>u.there b o e hc) u.tups u.frzs u.tbls (λm' hm=>by
   obtain⟨o',es',ep',aC,r'⟩:=hm
   rw[ho]at aC;cases aC
   exact⟨_,es',ep',hL,r'⟩) hok hg
def Inv.turned{it:È}(I:Inv X Á σ H s)(k:∀b o,b≠it->s.heap.get? b=eL o->h'.get? b=eL o)(hn:H it=eM)(hL:it≠X.env.locals)
  (h1:it∈X.ex\/X.s₀.heap.objs.size<=it) (h2:∀x c,X.env.cells.lookup x=eL c->c≠it) (h3:∀p∈X.pn++Á,p.1≠it):Inv X Á σ H {s with heap:=h',toks:=t'}:=by
 have nit:∀b u,H b=eL u->b≠it:=λb u e z=>by rw[z,hn]at e;cases e
 refine I.step (g':=s.gens) (d':=s.drawn) (ch:=[it]) (λb hb=>?_) (λb o _ _ hc e _=>k b o (λz=>hc<|by simp[z]) e) (λb o _ _ hc e _=>⟨o.slots,k b o (λz=>hc<|by simp[z]) e⟩) (λ_ _ _ _ n=>n)
  (λb o hc e=>⟨o,k b o (λz=>hc<|by simp[z]) e⟩) (λ_ _ e=>e) (λ_ _ _ e=>e) (λb ps e=>⟨#[],by rw[e];simp⟩) (λm hm=>?_) (λb u e=>?_) I.bare
 .have e:b=it:=by simpa using hb
  subst e;exact⟨h1,hL,h2,h3⟩
 .obtain⟨o,es,ep,ho,r⟩:=hm;exact⟨o,es,ep,k _ o (Ne.symm hL) ho,r⟩
 .refine(I.hok b u e).stay (λc v hc q=>k c v ?_ q) (λ_ q=>q) λ_ _ q=>q;rcases hc with z|z
  .rw[z];exact nit b u e
  .exact nit c _ z
def Inv.tok(I:Inv X Á σ H s)(t:Nat):Inv X Á σ H {s with toks:=t}:=I.un (h':=s.heap) (t':=t) Un.refl I.hok
def Inv.kept(I:Inv X Á σ H s)(k:∀b u,s.heap.get? b=eL u->h'.get? b=eL u):Inv X Á σ H {s with heap:=h',toks:=t'}:=I.un (Un.kept k) (I.hok.kept k)
variable {o:HO}
def Inv.laid(I:Inv X Á σ H s)(k:∀b u,s.heap.get? b=eL u->h'.get? b=eL u)(hp:s.heap.objs.size<=a)(new:eZ X.prog X.w (upd H a o) h' a o) :
  Inv X Á σ (upd H a o) {s with heap:=h',toks:=t'}:=I.un (Un.laid k hp<|I.hok.fresh hp)<|I.hok.laid k hp new
def Inv.write{x e:È}(I:Inv X Á σ H s)(mu:Mut<|H x)(he:e=x\/H e=eL (.own x))(k:∀b u,b≠e->s.heap.get? b=eL u->h'.get? b=eL u)(heo:∃u,h'.get? e=eL u)
  (new:eZ X.prog X.w (upd H x o) h' x o):Inv X Á σ (upd H x o) {s with heap:=h',toks:=t'}:=I.un (Un.write mu he k heo)<|I.hok.write mu he k heo new
def Inv.pins_of{pins':List (È×Obj)}(I:Inv X Á σ H s)(h:∀p∈pins',s.heap.get? p.1=eL p.2/\H p.1=eM/\p.1≠X.env.locals/\p.1∉X.fs/\∀v,p.2.data≠.cell v):Inv X pins' σ H s :=
 ⟨I.ok,I.os,I.bare,I.base,I.loc,I.cell,I.free,I.freeC,λp hp=>(æ.mp hp).elim (λz=>I.pin p<|Þ _ z)<|h p,I.hok,I.len⟩
variable {i:Nat} {x:Str}
def JC{N:List Str}(hN:N.Nodup){j:Nat}(a:N[i]?=eL x)(b:N[j]?=eL x):i=j:=by obtain⟨h1,e1⟩:=Ó.mp a;obtain⟨h2,e2⟩:=Ó.mp b;exact(List.getElem_inj hN).mp (e1.trans e2.symm)
variable {M:Model} {A:ā} {u:Â} {Q:Unit->Ä->Prop}
def Kf{E:Â->Ä->Prop}{v:V}(I:Inv X Á σ H s)(hN:X.N.Nodup)(hi:X.N[i]?=eL x)(hx:Loc X.env.scope x)(r:RelV v u)
  (h:∀s',Inv X Á (σ.set i<|eL v) H s'->(∃a,Œ a s.heap s'.heap/\(a=X.env.locals\/X.env.cells.lookup x=eL a))->Q () s') (hf:X.fn x=eN\/X.env.scope.names.lookup x=eL .local:=by first|exact .inl rfl|exact .inr rfl|assumption):wpAny M A (storeName X.env x u) Q E s:=by
 obtain⟨m,hn,hl⟩:=id I.loc;have cK:(X.env.scope.kind == .class||(X.env.scope.kind == .module&&X.env.locals != X.env.globals))=eP:=by rw[I.ok.kind];rfl
 have hiσ:i<σ.length:=by rw[I.len];exact(Ó.mp hi).1
 have cne:=I.cne;have cY:∀{a:È}{h':þ},(∃o,s.heap.get? a=eL o/\H a=eM)->Œ a s.heap h'->HOk X.prog X.w H h':=λ{a h'} ha hs b ob e=>by
  obtain⟨_,_,hfree⟩:=ha;refine(I.hok b ob e).stay (λc w' hc q=>(hs.2 c ?_).trans q) (λ_ q=>q) λ_ _ q=>q;rintro rfl;rcases hc with rfl|hc
  .rw[hfree]at e;cases e
  .rw[hfree]at hc;cases hc
 rcases hx with hk|hk
 .refine wpAny_storeName_local hk hn (λh' hn' hs=>?_) cK;obtain⟨oL,_,_,hoL,_⟩:=id hn;refine h _ ⟨I.ok,I.os,I.bare,⟨λb o e n hb hx=>?_,λb o e n hb hx=>?_,I.base.free,λb o e hx=>?_,I.base.tups,I.base.frzs,I.base.tbls⟩,⟨_,hn',λj y v' e1 e2 e3=>?_⟩,λy c e=>?_,I.free,I.freeC,λp hp=>?_,cY ⟨oL,hoL,I.free⟩ hs,by simpa using I.len⟩ ⟨_,hs,.inl rfl⟩
  .exact(hs.2 b<|ä<|â (Õ e) I.ok.above).trans<|I.base.keep b o e n hb hx
  .obtain⟨sl,e1⟩:=I.base.slot b o e n hb hx;exact⟨sl,(hs.2 b<|ä<|â (Õ e) I.ok.above).trans e1⟩
  .obtain⟨o',e1⟩:=I.base.there b o e hx;exact⟨o',(hs.2 b<|ä<|â (Õ e) I.ok.above).trans e1⟩
  .by_cases hj:j=i
   .subst hj;rw[hi]at e1;cases e1;rw[ϑ hiσ]at e2;cases e2;exact⟨u,r,.inl ⟨hk,by simp⟩⟩
   .rw[ĵ<|Ne.symm hj]at e2;obtain⟨u',r',q⟩:=hl j y v' e1 e2 e3;refine⟨u',r',?_⟩;rcases q with⟨k,e⟩|⟨k,c,e,z⟩
    .refine .inl ⟨k,?_⟩;have:y≠x:=λe=>hj<|JC hN e1<|e▸hi;simp[this,e]
    .exact .inr ⟨k,c,e,z.sameBut hs<|cne y c e⟩
  .obtain⟨w',z⟩:=I.cell y c e;exact⟨w',z.sameBut hs<|cne y c e⟩
  .obtain⟨e,n,ne,nf,d⟩:=I.pin p hp;exact⟨(hs.2 p.1 ne).trans e,n,ne,nf,d⟩
 .have hfn:X.fn x=eN:=by
   rcases hf with z|z
   .exact z
   .rw[z]at hk;cases hk
  obtain⟨c,hc⟩:=I.ok.has x<|.inl hk;obtain⟨w',z⟩:=I.cell x c hc;refine wpAny_storeName_cell I.ok.kind hk hc z λh' hc' hs=>?_;obtain⟨oc,hoc,hocd⟩:=id z;refine h {s with heap:=h'} ⟨I.ok,I.os,I.bare,⟨λb o e n hb hx=>?_,λb o e n hb hx=>?_,I.base.free,λb o e hx=>?_,I.base.tups,I.base.frzs,I.base.tbls⟩,⟨m,hn.sameBut hs<|Ne.symm<|cne x c hc,λj y v' e1 e2 e3=>?_⟩,λy c' e=>?_,I.free,I.freeC,λp hp=>?_,cY ⟨oc,hoc,I.freeC x c hc⟩ hs,by simpa using I.len⟩ ⟨c,hs,.inr hc⟩
  .exact(hs.2 b<|ä<|â (Õ e)<|I.ok.cab x c hfn hc).trans<|I.base.keep b o e n hb hx
  .obtain⟨sl,e1⟩:=I.base.slot b o e n hb hx;exact⟨sl,(hs.2 b<|ä<|â (Õ e)<|I.ok.cab x c hfn hc).trans e1⟩
  .obtain⟨o',e1⟩:=I.base.there b o e hx;exact⟨o',(hs.2 b<|ä<|â (Õ e)<|I.ok.cab x c hfn hc).trans e1⟩
  .by_cases hj:j=i
   .subst hj;rw[hi]at e1;cases e1;rw[ϑ hiσ]at e2;cases e2;exact⟨u,r,.inr ⟨.inl hk,c,hc,hc'⟩⟩
   .rw[ĵ<|Ne.symm hj]at e2;obtain⟨u',r',q⟩:=hl j y v' e1 e2 e3;refine⟨u',r',?_⟩;rcases q with q|⟨k,c',e,z'⟩
    .exact .inl q
    .refine .inr ⟨k,c',e,z'.sameBut hs ?_⟩;rintro rfl;exact hj<|JC hN e1<|I.ok.inj _ _ _ e hc▸hi
  .by_cases hcc:c'=c
   .subst hcc;exact⟨_,hc'⟩
   .obtain⟨w2,z2⟩:=I.cell y c' e;exact⟨w2,z2.sameBut hs hcc⟩
  .obtain⟨e,n,ne,nf,d⟩:=I.pin p hp;refine⟨(hs.2 p.1 ?_).trans e,n,ne,nf,d⟩;intro q;rw[q,hoc]at e;have q':oc=p.2:=ì e;exact d w' (by rw[<-q'];exact hocd)
def W3{E:Â->Ä->Prop}{v:V}(I:Inv X Á σ H s)(hN:X.N.Nodup)(hi:X.N[i]?=eL x)(hx:Loc X.env.scope x)(r:RelV v u)
  (h:∀s',Inv X Á (σ.set i<|eL v) H s'->Q () s') (hf:X.fn x=eN\/X.env.scope.names.lookup x=eL .local:=by first|exact .inl rfl|exact .inr rfl|assumption):wpAny M A (storeName X.env x u) Q E s :=
 Kf I hN hi hx r (λs' I' _=>h s' I') hf
def Inv.call'{s':Ä}(I:Inv X Á σ H s)(ho:s'.os=s.os)(u:Un (frs X.stack) ch H H' s.heap s'.heap)(hok:HOk X.prog X.w H' s'.heap)(hg:ϐ s'.gens)
  (hch:∀b∈ch,(b∈X.ex\/X.s₀.heap.objs.size<=b)/\b≠X.env.locals/\(∀x c,X.env.cells.lookup x=eL c->c≠b)/\∀p∈X.pn++Á,p.1≠b):Inv X Á σ H' s':=by
 obtain⟨h',g',d',t',o'⟩:=s';have e:o'=s.os:=ho;subst e;exact I.call (g':=g') (t':=t') (d':=d') u hok hg hch
end
noncomputable abbrev XK:=Â->Option È->Hp->Prop
noncomputable abbrev St:=List<|Option V
noncomputable abbrev VK:=V->Hp->Prop
noncomputable abbrev TE:=St->Hp->VK->Prop
noncomputable abbrev TT:=St->Hp->(Bool->Hp->Prop)->Prop
noncomputable abbrev TA:=St->Hp->(List V->Hp->Prop)->Prop
structure Ends where
 nx:St->Hp->Prop
 rt:VK
 bk:St->Hp->Prop:=λ_ _=>False
 ct:St->Hp->Prop:=λ_ _=>False
noncomputable abbrev TS:=Ends->St->Hp->Prop
inductive EP (X:Cx) (Á:List<|È×Obj) (σ:St) (Q:VK) (u:Â) (s':Ä):Prop
 |mk (v:V) (H':Hp) (i:Inv X Á σ H' s') (r:RelV v u) (q:Q v H')
abbrev TP(X:Cx)(Á:List<|È×Obj)(σ:St)(Q:Bool->Hp->Prop)(b:Bool)(s':Ä):Prop:=∃H',Inv X Á σ H' s'/\Q b H'
inductive AP (X:Cx) (Á:List<|È×Obj) (σ:St) (Q:List V->Hp->Prop) (us:List Â) (s':Ä):Prop
 |mk (vs:List V) (H':Hp) (i:Inv X Á σ H' s') (r:fZ vs us) (q:Q vs H')
abbrev SP(X:Cx)(Á:List<|È×Obj)(D:Ends)(f:Flow)(s':Ä):Prop :=
 match f with
 |.next=>∃Ś H',Inv X Á Ś H' s'/\D.nx Ś H'
 |.brk=>∃Ś H',Inv X Á Ś H' s'/\D.bk Ś H'
 |.cont=>∃Ś H',Inv X Á Ś H' s'/\D.ct Ś H'
 |.ret u=>∃v Ś H',Inv X Á Ś H' s'/\RelV v u/\D.rt v H'
abbrev PE(X:Cx)(e:Expr)(t:TE):Prop :=
 ∀(Á:List<|È×Obj) (s:Ä) (σ:St) (H:Hp) (Q:VK),Inv X Á σ H s->t σ H Q->wpAny (Ù X.prog X.w) X.A (eval e X.env) (EP X Á σ Q) X.xe s
abbrev PT(X:Cx)(e:Expr)(t:TT):Prop :=
 ∀(Á:List<|È×Obj) (s:Ä) (σ:St) (H:Hp) (Q:Bool->Hp->Prop),Inv X Á σ H s->t σ H Q->wpAny (Ù X.prog X.w) X.A (cp e X.env<|eval e X.env) (TP X Á σ Q) X.xe s
abbrev PW(X:Cx)(e:Expr)(t:TT):Prop :=
 ∀(aK:Sem Â) (Á:List<|È×Obj) (s:Ä) (σ:St) (H:Hp) (Q:Bool->Hp->Prop),Inv X Á σ H s->t σ H Q->wpAny (Ù X.prog X.w) X.A (cp e X.env aK) (TP X Á σ Q) X.xe s
def PW.pt{X:Cx}{e:Expr}{t:TT}(h:PW X e t):PT X e t:=h _
abbrev PA(X:Cx)(es:List Expr)(t:TA):Prop :=
 ∀(ç:Pos) (Á:List<|È×Obj) (s:Ä) (σ:St) (H:Hp) (Q:List V->Hp->Prop),Inv X Á σ H s->t σ H Q->wpAny (Ù X.prog X.w) X.A (spliced<|ċ ç<|Ð es X.env) (AP X Á σ Q) X.xe s
abbrev PS(X:Cx)(st:ħ)(t:TS):Prop :=
 ∀(Á:List<|È×Obj) (s:Ä) (σ:St) (H:Hp) (D:Ends),Inv X Á σ H s->t D σ H->wpAny (Ù X.prog X.w) X.A (exec st X.env) (SP X Á D) X.xe s
abbrev PSs(X:Cx)(st:List ħ)(t:TS):Prop :=
 ∀(Á:List<|È×Obj) (s:Ä) (σ:St) (H:Hp) (D:Ends),Inv X Á σ H s->t D σ H->wpAny (Ù X.prog X.w) X.A (execs st X.env) (SP X Á D) X.xe s
def thn{α:Type}{t:Sem α}{Q Q':α->Ä->Prop}{M:Model}{A:ā}{E:Â->Ä->Prop}{s:Ä}(h:wpAny M A t Q E s)(hQ:∀a s,Q a s->Q' a s):wpAny M A t Q' E s:=Ā h hQ λ_ _ x=>x
section
variable {X:Cx}
variable {Á:List (È×Obj)} {s:Ä} {σ:St} {H:Hp}
def bin{a b:Expr}{ta tb:TE}(ha:PE X a ta)(hb:PE X b tb){R:V->V->Hp->Prop}(I:Inv X Á σ H s)(h:ta σ H λx H1=>tb σ H1 λy H2=>R x y H2)
  {α:Type}{Q:α->Ä->Prop}{f:Â->Â->Sem α}
  (hf:∀v u s2 x y H2,Inv X Á σ H2 s2->RelV x v->RelV y u->R x y H2->wpAny (Ù X.prog X.w) X.A (f v u) Q X.xe s2) :
  wpAny (Ù X.prog X.w) X.A (eval a X.env) (λv ğ=>wpAny (Ù X.prog X.w) X.A (eval b X.env) (λu bW=>wpAny (Ù X.prog X.w) X.A (f v u) Q X.xe bW) X.xe ğ) X.xe s:=by
 refine thn (ha Á s σ H _ I h) λv s1 ⟨x,H1,I1,r1,q1⟩=>?_;refine thn (hb Á s1 σ H1 _ I1 q1) λu s2 ⟨y,H2,I2,r2,q2⟩=>?_;exact hf v u s2 x y H2 I2 r1 r2 q2
abbrev QR(i:Nat):TE:=λσ H Q=>∃v,σ[i]?=eL (eL v)/\Q v H
abbrev tC(v:V):TE:=λ_ H Q=>Q v H
variable {x:Str} {ç:Pos}
def Lj{i:Nat}(hN:X.N[i]?=eL x)(hv:Vis X.env.scope x)(hd:(x==("__debug__" : Str))=eP:=by decide)(bo:(x==("__classdict__" : Str))=eP:=by decide):PE X (.Name x ç)<|QR i:=by
 intro Á s σ H Q I h;obtain⟨v,e,h⟩:=h;obtain⟨m,hn,hl⟩:=I.loc;obtain⟨u,r,l⟩:=hl i x v hN e hv;have fin:EP X Á σ Q u s:=⟨v,H,I,r,h⟩
 rcases l with⟨hk,hm⟩|⟨hk,c,hc,hcell⟩
 .exact wpAny_Name (wpAny_loadName_local I.ok.kind hk hn hm fin) hd
 .rcases hk with hk|hk
  .exact wpAny_Name (wpAny_loadName_cell I.ok.kind hk hc hcell fin) hd
  .exact wpAny_Name (wpAny_loadName_free I.ok.kind hk hc hcell fin bo) hd
def OC{i j ç}:PE X (.Constant (.int i) j ç)<|tC<|.int i:=λ_ _ _ H _ I h=>wpAny_Constant_int ⟨.int i,H,I.tok _,⟨_,rfl⟩,h⟩
def Pm{b j ç}:PE X (.Constant (.bool b) j ç)<|tC<|.bl b:=λ_ _ _ H _ I h=>Constant_bool ⟨.bl b,H,I,rfl,h⟩
def CN{j ç}:PE X (.Constant .none j ç)<|tC .non:=λ_ _ _ H _ I h=>di ⟨.non,H,I,rfl,h⟩
def pe_str{x j ç}:PE X (.Constant (.str x) j ç)<|tC<|.str x:=λ_ _ _ H _ I h=>Calls.Constant_str ⟨.str x,H,I.tok _,⟨_,rfl⟩,h⟩
abbrev Gl(X:Cx)(x:Str):Prop:=X.env.kindOf x=eL .globalImplicit
variable {u:Â} {Q:Â->Ä->Prop}
def Yj{E:Â->Ä->Prop}(I:Inv X Á σ H s)(hg:Gl X x)(hm:X.mg x=eL u)(h:Q u s)
  (hd:(x==("__debug__" : Str))=eP:=by decide):wpAny (Ù X.prog X.w) X.A (eval (.Name x ç) X.env) Q E s :=
 Calls.Name_function_global I.ok.kind hg (Calls.loadGlobal_global (by rw[I.ok.glob];exact I.mod.glob.keeps I.bk) hm h) hd
def YW{E:Â->Ä->Prop}(I:Inv X Á σ H s)(hg:Gl X x)(hm:X.mg x=eM)(hv:Ű x=eL u)(h:Q u s)
  (hn:x≠"__name__":=by decide) (hd:(x==("__debug__" : Str))=eP:=by decide):wpAny (Ù X.prog X.w) X.A (eval (.Name x ç) X.env) Q E s:=by
 obtain⟨mb,h1,h2⟩:=I.mod.blt;exact Calls.Name_function_global I.ok.kind hg (Calls.loadGlobal_builtin (by rw[I.ok.glob];exact I.mod.glob.keeps I.bk) hm (by rw[I.ok.blt];exact h1.keeps I.bk) ((h2 x hn).trans hv) h) hd
def Fj{v:V}(hg:Gl X x)(hm:X.mg x=eL u)(r:RelV v u)(hd:(x==("__debug__" : Str))=eP:=by decide):PE X (.Name x ç) (tC v) :=
 λ_ _ _ H _ I h=>Yj I hg hm ⟨v,H,I,r,h⟩ hd
def FF{v:V}(hg:Gl X x)(hm:X.mg x=eM)(hv:Ű x=eL u)(r:RelV v u)(hn:x≠"__name__":=by decide)(hd:(x==("__debug__" : Str))=eP:=by decide):PE X (.Name x ç) (tC v) :=
 λ_ _ _ H _ I h=>YW I hg hm hv ⟨v,H,I,r,h⟩ hn hd
variable {a b:Expr}{ta tb:TE}{ç:Pos}
abbrev PC(X:Cx)(op:cq)(a b:Expr)(t:TE):Prop :=
 ∀(Á:List<|È×Obj) (s:Ä) (σ:St) (H:Hp) (Q:VK),Inv X Á σ H s->t σ H Q->
  wpAny (Ù X.prog X.w) X.A (eval a X.env) (λv ğ=>wpAny (Ù X.prog X.w) X.A (eval b X.env) (λu bW=>wpAny (Ù X.prog X.w) X.A (ë op v u) (EP X Á σ Q) X.xe bW) X.xe ğ) X.xe s
variable {op:cq}
def NC(b:Expr)(h:op≠.In)(h2:op≠.NotIn):Ņ op b=eP:=by
 have e1:(op==CmpOp.In)=eP:=by cases op<;>first|rfl|exact gp rfl h
 have e2:(op==CmpOp.NotIn)=eP:=by cases op<;>first|rfl|exact gp rfl h2
 cases b<;>simp[Ņ,e1,e2]
abbrev QD(ta:TE):TE:=λσ H Q=>ta σ H λx H1=>Q (.bl<|gq (x=.non)) H1
abbrev LN(ta:TE):TE:=λσ H Q=>ta σ H λx H1=>Q (.bl (!gq (x=.non))) H1
def RelV.none_iff{x:V}{v:Â}(r:RelV x v):(v==Value.none)=gq (x=.non):=by
 cases x with
 |non=>cases r;rfl
 |bl _=>cases r;rfl
 |int _=>obtain⟨t,rfl⟩:=r;rfl
 |str _=>obtain⟨t,rfl⟩:=r;rfl
 |byt _=>obtain⟨t,rfl⟩:=r;rfl
 |flt _=>obtain⟨t,rfl⟩:=r;rfl
 |ref _=>cases r;rfl
 |ty _=>cases r;rfl
def DL{j av}(ha:PE X a ta):PC X .Is a (.Constant .none j av)<|QD ta:=by intro Á s σ H Q I h;refine thn (ha Á s σ H _ I h) λv s1 ⟨x,H1,I1,r1,q1⟩=>?_;exact di (is_none_gen ⟨.bl _,H1,I1,by rw[r1.none_iff];rfl,q1⟩)
def OR{j av}(ha:PE X a ta):PC X .IsNot a (.Constant .none j av)<|LN ta:=by intro Á s σ H Q I h;refine thn (ha Á s σ H _ I h) λv s1 ⟨x,H1,I1,r1,q1⟩=>?_;exact di (isnot_none_gen ⟨.bl _,H1,I1,by rw[r1.none_iff];rfl,q1⟩)
abbrev tB(t:TE):TT:=λσ H Q=>t σ H λx H1=>∃c,x=.bl c/\Q c H1
def A8{t:TE}(h:PC X op a b t)(h1:Ņ op b=eP:=by first|exact NC _ (by decide) (by decide)|rfl):PE X (.Compare a [op] [b] ç) t:=λÁ s σ H Q I hw=>wpAny_Compare1 (h Á s σ H Q I hw) h1
def Cv{t:TE}(h:PC X op a b t)(h1:Ņ op b=eP:=by first|exact NC _ (by decide) (by decide)|rfl):PT X (.Compare a [op] [b] ç)<|tB t:=by intro Á s σ H Q I hw;refine wpAny_isTrue_Compare1 (thn (h Á s σ H _ I hw) λv s1 h1=>thn h1 λu s2 h2=>thn h2 λc s3 ⟨x,H1,I1,r1,q1⟩=>?_) h1;obtain⟨d,rfl,q⟩:=q1;cases r1;exact Đ ⟨H1,I1,q⟩
variable {tA tB':TT}{rest:List Expr}
abbrev Rr(t u:TT):TT:=λσ H Q=>t σ H λc H1=>if c=eN then u σ H1 Q else Q eP H1
abbrev tOr(t u:TT):TT:=λσ H Q=>t σ H λc H1=>if c=eN then Q eN H1 else u σ H1 Q
abbrev Rb(t:TT):TT:=λσ H Q=>t σ H λc H1=>Q (!c) H1
def EH(ha:PT X a tA):PW X (.BoolOp .And [a] ç) tA:=by
 intro wh Á s σ H Q I h;refine isTrue_and<|thn (ha Á s σ H Q I h) λc s1 e=>?_;cases c with
 |true=>exact isTrue_and_nil e
 |false=>exact e
def Ld(ha:PT X a tA):PW X (.BoolOp .Or [a] ç) tA:=by
 intro wh Á s σ H Q I h;refine isTrue_or<|thn (ha Á s σ H Q I h) λc s1 e=>?_;cases c with
 |false=>exact isTrue_or_nil e
 |true=>exact e
def GO(ha:PT X a tA)(hb:PW X (.BoolOp .And (b::rest) ç) tB'):PW X (.BoolOp .And (a::b::rest) ç)<|Rr tA tB':=by
 intro wh Á s σ H Q I h;refine isTrue_and<|thn (ha Á s σ H _ I h) λc s1 ⟨H1,I1,q1⟩=>?_;cases c with
 |true=>exact hb wh Á s1 σ H1 Q I1 q1
 |false=>exact⟨H1,I1,q1⟩
def LL(ha:PT X a tA)(hb:PW X (.BoolOp .Or (b::rest) ç) tB'):PW X (.BoolOp .Or (a::b::rest) ç)<|tOr tA tB':=by
 intro wh Á s σ H Q I h;refine isTrue_or<|thn (ha Á s σ H _ I h) λc s1 ⟨H1,I1,q1⟩=>?_;cases c with
 |true=>exact⟨H1,I1,q1⟩
 |false=>exact hb wh Á s1 σ H1 Q I1 q1
def Hg(ha:PT X a tA):PT X (.UnaryOp .Not a ç)<|Rb tA:=by intro Á s σ H Q I h;exact isTrue_not (ha Á s σ H (λc H1=>Q (!c) H1) I h)
abbrev Pd(ta tb:TE):TE:=λσ H Q=>ta σ H λx H1=>∃c,x=.bl c/\if c=eN then tb σ H1 Q else Q (.bl eP) H1
abbrev Rx(ta tb:TE):TE:=λσ H Q=>ta σ H λx H1=>∃c,x=.bl c/\if c=eN then Q (.bl eN) H1 else tb σ H1 Q
abbrev P0(ta:TE):TE:=λσ H Q=>ta σ H λx H1=>∃c,x=.bl c/\Q (.bl (!c)) H1
def Do{op}{t:TE}(h:PE X a t):PE X (.BoolOp op [a] ç) t:=λÁ s σ H Q I hw=>BoolOp_one (h Á s σ H Q I hw)
def GG(ha:PE X a ta)(hb:PE X (.BoolOp .And (b::rest) ç) tb):PE X (.BoolOp .And (a::b::rest) ç)<|Pd ta tb:=by
 intro Á s σ H Q I h;refine BoolOp_and<|thn (ha Á s σ H _ I h) λv s1 ⟨x,H1,I1,r1,q1⟩=>?_;obtain⟨c,rfl,q1⟩:=q1;cases r1;refine Đ ?_;cases c with
 |true=>exact hb Á s1 σ H1 Q I1 q1
 |false=>exact⟨.bl eP,H1,I1,rfl,q1⟩
def L4(ha:PE X a ta)(hb:PE X (.BoolOp .Or (b::rest) ç) tb):PE X (.BoolOp .Or (a::b::rest) ç)<|Rx ta tb:=by
 intro Á s σ H Q I h;refine BoolOp_or<|thn (ha Á s σ H _ I h) λv s1 ⟨x,H1,I1,r1,q1⟩=>?_;obtain⟨c,rfl,q1⟩:=q1;cases r1;refine Đ ?_;cases c with
 |false=>exact hb Á s1 σ H1 Q I1 q1
 |true=>exact⟨.bl eN,H1,I1,rfl,q1⟩
def HL(ha:PE X a ta):PE X (.UnaryOp .Not a ç)<|P0 ta:=by intro Á s σ H Q I h;refine UnaryOp_<|thn (ha Á s σ H _ I h) λv s1 ⟨x,H1,I1,r1,q1⟩=>?_;obtain⟨c,rfl,q1⟩:=q1;cases r1;exact not_of (Đ ⟨.bl (!c),H1,I1,rfl,q1⟩)
abbrev tIf(t:TT)(ta tb:TE):TE:=λσ H Q=>t σ H λc H1=>if c=eN then ta σ H1 Q else tb σ H1 Q
def CY{c:Expr}(hc:PT X c tA)(ha:PE X a ta)(hb:PE X b tb):PE X (.IfExp c a b ç)<|tIf tA ta tb:=by
 intro Á s σ H Q I h;refine wpAny_IfExp<|thn (hc Á s σ H _ I h) λd s1 ⟨H1,I1,q1⟩=>?_;cases d with
 |true=>exact ha Á s1 σ H1 Q I1 q1
 |false=>exact hb Á s1 σ H1 Q I1 q1
end
abbrev fX(K:Frag)(H:Hp)(a:È)(xs:List V):Prop :=
 Rd H a (.lst xs)\/
  ∃(o:Obj) (ò:Array Â) (n:Nat),K.lookup a=eL o/\o.cls=.type "list"/\o.dict=eM/\o.data=.seq ò n/\ò.size<=Ø/\fZ xs ò.toList
abbrev fY(K:Frag)(H:Hp)(a:È)(xs:List V):Prop :=
 Rd H a (.tup xs)\/
  ∃(o:Obj) (ò:Array Â) (n:Nat),K.lookup a=eL o/\o.cls=.type "tuple"/\o.data=.seq ò n/\ò.size<=Ø/\fZ xs ò.toList
abbrev absV:Â->Option V
 |.none=>eL .non
 |.bool b=>eL<|.bl b
 |.int i _=>eL<|.int i
 |.str x _=>eL<|.str x
 |.bytes b _=>eL<|.byt b
 |.float b _=>eL<|.flt b
 |.ref a=>eL<|.ref a
 |.type n=>eL<|.ty n
 |_=>eM
variable {x:V} {u:Â}
def RelV.abs(r:RelV x u):absV u=eL x:=by
 cases x with
 |non=>cases r;rfl
 |bl _=>cases r;rfl
 |int _=>obtain⟨t,rfl⟩:=r;rfl
 |str _=>obtain⟨t,rfl⟩:=r;rfl
 |byt _=>obtain⟨t,rfl⟩:=r;rfl
 |flt _=>obtain⟨t,rfl⟩:=r;rfl
 |ref _=>cases r;rfl
 |ty _=>cases r;rfl
def RelV.inj{y:V}(r:RelV x u)(q:RelV y u):x=y:=ì (r.abs.symm.trans q.abs)
def fZ.inj:∀{xs ys:List V}{us:List Â},fZ xs us->fZ ys us->xs=ys
 |_,_,_,.nil,.nil=>rfl
 |_,_,_,.cons r t,.cons r' t'=>by rw[r.inj r',fZ.inj t t']
section
variable {X:Cx}{Á:List (È×Obj)}{σ:St}{H:Hp}{s:Ä}{a:È}{xs ys:List V}
def fX.of{K:Frag}(h:H a=eL (.lst xs)):fX K H a xs:=.inl (.inl h)
def fY.of{K:Frag}(h:H a=eL (.tup xs)):fY K H a xs:=.inl (.inl h)
def Inv.list(I:Inv X Á σ H s)(h:fX X.K H a xs):∃ò:List Â,fZ xs ò/\PlainL s.heap a ò.toArray/\xs.length<=Ø:=by
 rcases h with h|⟨o,ò,n,hk,hc,hd,hs,hz,r⟩
 .obtain⟨z,ò,n,r,e⟩:=h.ok I.hok;exact⟨ò,r,⟨_,n,e,rfl,rfl,rfl⟩,z⟩
 .refine⟨ò.toList,r,⟨o,n,I.kIn a o hk,hc,hd,by simpa using hs⟩,?_⟩;have e:=r.length;simp only[ï]at e;lia
def Inv.tuple(I:Inv X Á σ H s)(h:fY X.K H a xs):∃ò:List Â,fZ xs ò/\ay s.heap a ò.toArray/\xs.length<=Ø:=by
 rcases h with h|⟨o,ò,n,hk,hc,hs,hz,r⟩
 .obtain⟨z,ò,r,p⟩:=h.ok I.hok;exact⟨ò,r,p,z⟩
 .refine⟨ò.toList,r,⟨o,I.kIn a o hk,hc,n,by simpa using hs⟩,?_⟩;have e:=r.length;simp only[ï]at e;lia
def Inv.list_inj(I:Inv X Á σ H s)(h:fX X.K H a xs)(h':fX X.K H a ys):xs=ys:=by
 obtain⟨ò,r,⟨o,n,e,_,_,d⟩,_⟩:=I.list h;obtain⟨its',r',⟨o',n',e',_,_,d'⟩,_⟩:=I.list h';rw[e]at e';cases e';rw[d]at d';injection d' with d1 _;have:ò=its':=by simpa using congrArg bR d1
 subst this;exact r.inj r'
def Inv.tuple_inj(I:Inv X Á σ H s)(h:fY X.K H a xs)(h':fY X.K H a ys):xs=ys:=by
 obtain⟨ò,r,⟨o,e,_,n,d⟩,_⟩:=I.tuple h;obtain⟨its',r',⟨o',e',_,n',d'⟩,_⟩:=I.tuple h';rw[e]at e';cases e';rw[d]at d';injection d' with d1 _;have:ò=its':=by simpa using congrArg bR d1
 subst this;exact r.inj r'
end
noncomputable abbrev Cx.wish(X:Cx)(E:Â->Ä->Prop):Cx:={X with xe:=E}
noncomputable abbrev Cx.nox(X:Cx):Cx:=X.wish λ_ _=>False
variable {X:Cx}
def Cx.Ok.wish(ok:X.Ok)(E:Â->Ä->Prop):(X.wish E).Ok :=
 ⟨ok.mod,ok.kind,ok.glob,ok.blt,ok.above,ok.inj,ok.has,ok.cab,ok.hd,ok.frames,ok.stk,ok.exf,ok.bs,ok.bsz,ok.noex,ok.exfs,ok.funs,ok.frf⟩
def Cx.Ok.unwish{E:Â->Ä->Prop}(ok:(X.wish E).Ok):X.Ok :=
 ⟨ok.mod,ok.kind,ok.glob,ok.blt,ok.above,ok.inj,ok.has,ok.cab,ok.hd,ok.frames,ok.stk,ok.exf,ok.bs,ok.bsz,ok.noex,ok.exfs,ok.funs,ok.frf⟩
section
variable {X:Cx}{Á:List (È×Obj)}{σ:St}{H:Hp}{s:Ä}{E:Â->Ä->Prop}
def Inv.wish(I:Inv X Á σ H s)(E:Â->Ä->Prop):Inv (X.wish E) Á σ H s:=⟨I.ok.wish E,I.os,I.bare,I.base,I.loc,I.cell,I.free,I.freeC,I.pin,I.hok,I.len⟩
def Inv.unwish(I:Inv (X.wish E) Á σ H s):Inv X Á σ H s:=⟨I.ok.unwish,I.os,I.bare,I.base,I.loc,I.cell,I.free,I.freeC,I.pin,I.hok,I.len⟩
def SP.unwish{D:Ends}{f:Flow}{s':Ä}(h:SP (X.wish E) Á D f s'):SP X Á D f s':=by
 cases f with
 |next=>obtain⟨Ś,H',I,q⟩:=h;exact⟨Ś,H',I.unwish,q⟩
 |brk=>obtain⟨Ś,H',I,q⟩:=h;exact⟨Ś,H',I.unwish,q⟩
 |cont=>obtain⟨Ś,H',I,q⟩:=h;exact⟨Ś,H',I.unwish,q⟩
 |ret u=>obtain⟨v,Ś,H',I,r,q⟩:=h;exact⟨v,Ś,H',I.unwish,r,q⟩
variable {e:Expr}
def PE.nox{t:TE}(h:PE X.nox e t):PE X e t:=λÁ s σ H Q I hw =>
 Ā (h Á s σ H Q (I.wish _) hw) (λ_ _ ⟨v,H',I',r,q⟩=>⟨v,H',I'.unwish,r,q⟩) λ_ _ z=>ø z
def PT.nox{t:TT}(h:PT X.nox e t):PT X e t:=λÁ s σ H Q I hw =>
 Ā (h Á s σ H Q (I.wish _) hw) (λ_ _ ⟨H',I',q⟩=>⟨H',I'.unwish,q⟩) λ_ _ z=>ø z
def PSs.nox{st:List ħ}{t:TS}(h:PSs X.nox st t):PSs X st t:=λÁ s σ H D I hw =>
 Ā (h Á s σ H D (I.wish _) hw) (λ_ _ q=>q.unwish) λ_ _ z=>ø z
end
section
variable {X:Cx}{st:ħ}{rest:List ħ}{t u:TS}{e:Expr}{te:TE}{ç:Pos}
abbrev LF:TS:=λD σ H=>D.nx σ H
abbrev QZ(t u:TS):TS:=λD σ H=>t {D with nx:=u D} σ H
def pss_nil:PSs X [] LF:=λ_ _ σ H _ I h=>ź ⟨σ,H,I,h⟩
def Cs(h1:PS X st t)(h2:PSs X rest u):PSs X (st::rest)<|QZ t u:=by
 intro Á s σ H D I h;refine bw<|thn (h1 Á s σ H {D with nx:=u D} I h) λf s1 q=>?_;cases f with
 |next =>obtain⟨Ś,H',I',q⟩:=q;exact h2 Á s1 Ś H' D I' q
 |ret v=>exact q
 |brk=>exact q
 |cont=>exact q
def Inv.quiet{Á:List (È×Obj)}{σ:St}{H:Hp}{s:Ä}(I:Inv X Á σ H s):interactive X.env=eP:=by simp[interactive,I.ok.kind]
abbrev PN(te:TE):TS:=λD σ H=>te σ H λ_ H1=>D.nx σ H1
def Fo(he:PE X e te)(hs:Ŧ e eM ç.line X.env=pure eP:=by rfl):PS X (.Expr e ç)<|PN te:=by intro Á s σ H D I h;exact wpAny_Expr_any (thn (he Á s σ H _ I h) λv s1 ⟨x,H1,I1,r1,q1⟩=>⟨σ,H1,I1,q1⟩) I.quiet hs
abbrev Q7(te:TE):TS:=λD σ H=>te σ H D.rt
def Ih(he:PE X e te):PS X (.Return (eL e) ç)<|Q7 te:=by intro Á s σ H D I h;exact wpAny_Return_some (thn (he Á s σ H _ I h) λv s1 ⟨x,H1,I1,r1,q1⟩=>⟨x,σ,H1,I1,r1,q1⟩)
abbrev Q9(c:TT)(t u:TS):TS:=λD σ H=>c σ H λb H1=>if b=eN then t D σ H1 else u D σ H1
def Qu{c:Expr}{a b:List ħ}{tc:TT}(hc:PT X c tc)(ha:PSs X a t)(hb:PSs X b u):PS X (.If c a b ç)<|Q9 tc t u:=by
 intro Á s σ H D I h;refine wpAny_If<|thn (hc Á s σ H _ I h) λd s1 ⟨H1,I1,q1⟩=>?_;cases d with
 |true=>exact ha Á s1 σ H1 D I1 q1
 |false=>exact hb Á s1 σ H1 D I1 q1
end
noncomputable abbrev TG:=V->St->Hp->(St->Hp->Prop)->Prop
noncomputable abbrev TGs:=List V->St->Hp->(St->Hp->Prop)->Prop
abbrev PG(X:Cx)(ag:Expr)(t:TG):Prop :=
 ∀(Á:List<|È×Obj) (s:Ä) (σ:St) (H:Hp) (v:V) (u:Â) (Q:St->Hp->Prop),Inv X Á σ H s->RelV v u->t v σ H Q->
  wpAny (Ù X.prog X.w) X.A (π ag X.env u) (λ_ s'=>∃Ś H',Inv X Á Ś H' s'/\Q Ś H') X.xe s
abbrev PGs(X:Cx)(ts:List Expr)(t:TGs):Prop :=
 ∀(Á:List<|È×Obj) (s:Ä) (σ:St) (H:Hp) (vs:List V) (us:List Â) (Q:St->Hp->Prop),Inv X Á σ H s->fZ vs us->t vs σ H Q->
  wpAny (Ù X.prog X.w) X.A (assignInOrder ((ĝ ts X.env).map (·.2)) us) (λ_ s'=>∃Ś H',Inv X Á Ś H' s'/\Q Ś H') X.xe s
noncomputable abbrev CT:=V->V->V->Hp->(Hp->Prop)->Prop
abbrev PSet(X:Cx)(t:CT):Prop :=
 ∀(Á:List<|È×Obj) (s:Ä) (σ:St) (H:Hp) (o i v:V) (ov iv u:Â) (Q:Hp->Prop),Inv X Á σ H s->RelV o ov->RelV i iv->RelV v u->t o i v H Q->
  wpAny (Ù X.prog X.w) X.A (aV ov iv u) (λ_ s'=>∃H',Inv X Á σ H' s'/\Q H') X.xe s
noncomputable abbrev TIp:=V->V->Hp->VK->Prop
abbrev PIp(X:Cx)(op:Ϝ)(t:TIp):Prop :=
 ∀(Á:List<|È×Obj) (s:Ä) (σ:St) (H:Hp) (x y:V) (v u:Â) (Q:VK),Inv X Á σ H s->RelV x v->RelV y u->t x y H Q->
  wpAny (Ù X.prog X.w) X.A (inplaceOp op v u) (EP X Á σ Q) X.xe s
section
variable {X:Cx}{ç:Pos}
abbrev Ga(i:Nat):TG:=λv σ H Q=>Q (σ.set i<|eL v) H
def UD{i:Nat}{x:Str}(hN:X.N.Nodup)(hi:X.N[i]?=eL x)(hx:Loc X.env.scope x)(hf:X.fn x=eN\/X.env.scope.names.lookup x=eL .local:=by first|exact .inl rfl|exact .inr rfl|assumption):PG X (.Name x ç)<|Ga i:=by intro Á s σ H v u Q I r h;exact wpAny_assign_Name (W3 I hN hi hx r (λs' I'=>⟨_,H,I',h⟩) hf)
abbrev QP:TGs:=λvs σ H Q=>vs=[]/\Q σ H
abbrev Py(t:TG)(u:TGs):TGs:=λvs σ H Q=>∃v r,vs=v::r/\t v σ H λŚ H'=>u r Ś H' Q
def pgs_nil:PGs X [] QP:=by intro Á s σ H vs us Q I r h;obtain⟨e,h⟩:=h;subst e;cases r;exact assignInOrder_nil ⟨σ,H,I,h⟩
variable {e:Expr} {es:List Expr}
def JJ{t:TG}{u:TGs}(h1:PG X e t)(h2:PGs X es u)
  (hs:(ĝ (e::es) X.env).map (·.2)=π e X.env::(ĝ es X.env).map (·.2):=by rfl):PGs X (e::es)<|Py t u:=by
 intro Á s σ H vs us Q I r h;obtain⟨v,vr,e1,h⟩:=h;subst e1;cases r with
 |cons r rr =>rw[hs];refine assignInOrder_cons<|thn (h1 Á s σ H _ _ _ I r h) λ_ s1 ⟨σ1,H1,I1,q1⟩=>?_;exact h2 Á s1 σ1 H1 _ _ Q I1 rr q1
abbrev QN(K:Frag)(n:Nat)(t:TGs):TG:=λv σ H Q=>∃a xs,v=.ref a/\fY K H a xs/\xs.length=n/\t xs σ H Q
def Dl{k:Nat}{t:TGs}{n:Nat}(hc:X.calm=eN)(h:PGs X es t)
  (hn:(ĝ es X.env).length=n:=by rfl) (ů:(ĝ es X.env).findIdx? (·.1)=eM:=by rfl):PG X (.Tuple es k ç)<|QN X.K n t:=by
 intro Á s σ H v u Q I r hw;obtain⟨a,xs,e1,hq,hl,hw⟩:=hw;subst e1;cases r;obtain⟨ò,rv,ht,hz⟩:=I.tuple hq;refine assign_Tuple_tuple (I.ok.hd hc) ht (by simp[hn,<-hl,rv.length]) ů λh' hx=>?_;have I1:Inv X Á σ H {s with heap:=h'}:=I.kept (t':=s.toks) λb o e=>hx b o (ä<|Õ e) e;exact h Á _ σ H xs _ Q I1 (by simpa using rv) hw
abbrev PY(to ti:TE)(t:CT):TG:=λv σ H Q=>to σ H λo H1=>ti σ H1 λi H2=>t o i v H2 λH3=>Q σ H3
variable {o:Expr} {i:Expr} {to:TE} {ti:TE}
def IW{t:CT}(ho:PE X o to)(hi:PE X i ti)(hs:PSet X t)
  (ha:∀v,π (.Subscript o i ç) X.env v=(do
    let ov<-ŋ [v] (eval o X.env)
    let iv<-ŋ [v,ov] (eval i X.env)
    χ ç
    ŋ [v,ov,iv] (aV ov iv v)
    d8 [v,ov,iv] []):=by intro _;rfl):PG X (.Subscript o i ç)<|PY to ti t:=by
 intro Á s σ H v u Q I r h;rw[ha];refine À<|Ě<|thn (ho Á s σ H _ I h) λov s1 ⟨x,H1,I1,r1,q1⟩=>?_;refine À<|Ě<|thn (hi Á s1 σ H1 _ I1 q1) λiv s2 ⟨y,H2,I2,r2,q2⟩=>?_;refine À<|dj<|À<|Ě<|thn (hs Á s2 σ H2 x y v ov iv u _ I2 r1 r2 r q2) λ_ s3 ⟨H3,I3,q3⟩=>?_;exact wpAny_release ⟨σ,H3,I3,q3⟩
abbrev Qi(te:TE)(g:TG):TS:=λD σ H=>te σ H λx H1=>g x σ H1 D.nx
variable {te:TE}
def DM{tg:Expr}{g:TG}(he:PE X e te)(hg:PG X tg g)(hs:ϖ [tg] e ç.line X.env=pure eP:=by rfl)(hw:ϗ [tg] e X.env=pure eM:=by rfl)
  (h1:(ĝ [tg] X.env).map (·.2)=[π tg X.env]:=by rfl):PS X (.Assign [tg] e ç)<|Qi te g:=by
 intro Á s σ H D I h;refine wpAny_Assign_stores (thn (he Á s σ H _ I h) λv s1 ⟨x,H1,I1,r1,q1⟩=>?_) hs hw;rw[h1];exact thn (hg Á s1 σ H1 x v _ I1 r1 q1) λ_ s2 q=>q
abbrev Qr(to ti te:TE)(tget:V->V->Hp->VK->Prop)(tip:TIp)(tset:CT):TS:=λD σ H=>to σ H λo H1=>ti σ H1 λi H2=>tget o i H2 λx H3=>te σ H3 λy H4=>tip x y H4 λz H5=>tset o i z H5 λH6=>D.nx σ H6
abbrev PGet(X:Cx)(t:V->V->Hp->VK->Prop):Prop :=
 ∀(Á:List<|È×Obj) (s:Ä) (σ:St) (H:Hp) (o i:V) (ov iv:Â) (Q:VK),Inv X Á σ H s->RelV o ov->RelV i iv->t o i H Q->
  wpAny (Ù X.prog X.w) X.A (ϥ ov iv) (EP X Á σ Q) X.xe s
def EK{tget:V->V->Hp->VK->Prop}{tip:TIp}{tset:CT}{op:Ϝ}{cL:Pos}(ho:PE X o to)(hi:PE X i ti)(hg:PGet X tget)(he:PE X e te)(hp:PIp X op tip)(hs:PSet X tset)
  (ha:∀ov iv new,augStore i ov iv new=(do ŋ [new,ov,iv] (aV ov iv new);d8 [new,ov,iv] [];pure .next):=by intros;rfl):PS X (.AugAssign (.Subscript o i cL) op e ç)<|Qr to ti te tget tip tset:=by
 intro Á s σ H D I h;refine wpAny_AugAssign_SubscriptAny (thn (ho Á s σ H _ I h) λov s1 ⟨x1,H1,I1,r1,q1⟩=>?_) ha;refine thn (hi Á s1 σ H1 _ I1 q1) λiv s2 ⟨x2,H2,I2,r2,q2⟩=>?_;refine thn (hg Á s2 σ H2 x1 x2 ov iv _ I2 r1 r2 q2) λϯ s3 ⟨x3,H3,I3,r3,q3⟩=>?_;refine thn (he Á s3 σ H3 _ I3 q3) λv s4 ⟨x4,H4,I4,r4,q4⟩=>?_;refine thn (hp Á s4 σ H4 x3 x4 ϯ v _ I4 r3 r4 q4) λnew s5 ⟨x5,H5,I5,r5,q5⟩=>?_;exact thn (hs Á s5 σ H5 x1 x2 x5 ov iv new _ I5 r1 r2 r5 q5) λ_ s6 ⟨H6,I6,q6⟩=>⟨σ,H6,I6,q6⟩
end
structure It where
 go:Nat->Hp->Prop
 yld:Nat->Hp->V->Hp->Prop
 stop:Nat->Hp->Prop
abbrev Wd(X:Cx)(Á:List<|È×Obj)(H:Hp)(b:È):Prop :=
 H b=eM/\b≠X.env.locals/\b∉X.fs/\(b∈X.ex\/X.s₀.heap.objs.size<=b)/\(∀x c,X.env.cells.lookup x=eL c->c≠b)/\∀p∈X.pn++Á,p.1≠b
variable {s:Ä}
def Inv.fpOk{Á:List (È×Obj)}{σ:St}{H H':Hp}{b:È}(I:Inv X Á σ H s)(hb:s.heap.objs.size<=b)(hn:H' b=eM):Wd X Á H' b:=by
 refine⟨hn,Ŭ<|â I.lt hb,I.nofs hb,.inr<|Ô I.sz hb,λx c e z=>?_,λp hp z=>?_⟩
 .obtain⟨v,q⟩:=I.cell x c e;exact gp (â q.lt<|by rw[z];exact hb)<|Ġ _
 .exact gp (â (Õ (I.pin p hp).1)<|by rw[z];exact hb)<|Ġ _
structure Turn(P:ß)(w:ñ)(K:Frag)(tg:Expr)(J:It)(fp:List È)(it:È)(tn:Nat->þ->Prop):Prop where
 mem:it∈fp
 obj:∀i h,tn i h->∀b∈fp,∃o,h.get? b=eL o/\∀v,o.data≠.cell v
 keep:∀i h h',tn i h->(∀b∈fp,∀o,h.get? b=eL o->h'.get? b=eL o)->tn i h'
 item:∀(X:Cx),X.prog=P->X.w=w->X.K=K->X.calm=eN->∀(i:Nat) (Á:List<|È×Obj) (s:Ä) (σ:St) (H:Hp) (E:Â->Ä->Prop),Inv X Á σ H s->(∀b∈fp,Wd X Á H b)->tn i s.heap->J.go i H->
  wpAny (Ù P w) X.A (ε<|.ref it) (λr s1=>∃u,r=eL u/\
    wpAny (Ù P w) X.A (Ϭ tg (.ref it) u) (λ_ s2=>∃x H',Inv X Á σ H' s2/\RelV x u/\J.yld i H x H'/\tn (i+1) s2.heap/\∀b∈fp,H' b=eM) E s1) E s
 done:∀(X:Cx),X.prog=P->X.w=w->X.K=K->X.calm=eN->∀(i:Nat) (Á:List<|È×Obj) (s:Ä) (σ:St) (H:Hp) (E:Â->Ä->Prop),Inv X Á σ H s->(∀b∈fp,Wd X Á H b)->tn i s.heap->J.stop i H->
  wpAny (Ù P w) X.A (ε<|.ref it) (λr s1=>r=eM/\Inv X Á σ H s1) E s
 self:∀(A:ā) (i:Nat) (s:Ä) (Q:Â->Ä->Prop) (E:Â->Ä->Prop),tn i s.heap->Q (.ref it) s->wpAny (Ù P w) A (cr<|.ref it) Q E s
noncomputable abbrev TI:=St->Hp->(It->Hp->Prop)->Prop
abbrev PIE(X:Cx)(Á:List<|È×Obj)(σ:St)(tg:Expr)(R:It->Hp->Prop)(itv:Â)(s2:Ä):Prop :=
 ∃(it:È) (fp:List È) (tn:Nat->þ->Prop) (J:It) (H':Hp),itv=.ref it/\Inv X Á σ H' s2/\Turn X.prog X.w X.K tg J fp it tn/\tn 0 s2.heap/\(∀b∈fp,Wd X Á H' b)/\R J H'
abbrev PI(X:Cx)(tg ŷ:Expr)(wi:TI):Prop :=
 ∀(Á:List<|È×Obj) (s:Ä) (σ:St) (H:Hp) (R:It->Hp->Prop),Inv X Á σ H s->wi σ H R->
  wpAny (Ù X.prog X.w) X.A (eval ŷ X.env) (λv s1=>wpAny (Ù X.prog X.w) X.A (cr v) (PIE X Á σ tg R) X.xe s1) X.xe s
variable {tg:Expr}
def eV{M:Model}{A:ā}{E:Â->Ä->Prop}{it:È}{o:Obj}{n:String}{vs:Array Â}{Q:Unit->Ä->Prop}(ho:s.heap.get? it=eL o)(hc:o.cls=.type n)(hd:o.data=.fields vs)
  (hn:["enumerate","zip","dict_itemiterator","dict_reverseitemiterator","odict_iterator","itertools.zip_longest","itertools.pairwise"].contains n=eP) (hQ:Q () s):wpAny M A (Ϭ tg (.ref it) u) Q E s:=by
 unfold Ϭ;cases tg<;>first
  |exact Ç hQ
  | (cases u<;>first
      |exact Ç hQ
      | (refine À (wpAny_load ho ?_)
         rw[hc,hd]
         show wpAny M A (if(["enumerate","zip","dict_itemiterator","dict_reverseitemiterator","odict_iterator","itertools.zip_longest","itertools.pairwise"].contains n&&vs[0]? == eL (ģ _))=eN then _ else _) Q E s
         rw[gh<|by intro h;rw[hn,Β]at h;cases h]
         exact Ç hQ))
abbrev Itl(K:Frag)(a:È):It :=
 ⟨λi H=>∃xs x,fX K H a xs/\xs[i]?=eL x,λi H x H'=>H'=H/\∀xs,fX K H a xs->xs[i]?=eL x,λi H=>∃xs,fX K H a xs/\xs.length<=i⟩
abbrev Itt(K:Frag)(a:È):It :=
 ⟨λi H=>∃xs x,fY K H a xs/\xs[i]?=eL x,λi H x H'=>H'=H/\∀xs,fY K H a xs->xs[i]?=eL x,λi H=>∃xs,fY K H a xs/\xs.length<=i⟩
abbrev Itr(lo:Int)(n:Nat):It:=⟨λi _=>i<n,λi H x H'=>H'=H/\x=.int (lo+i),λi _=>n<=i⟩
variable {P:ß} {w:ñ}
def AN{K:Frag}(a it:È):Turn P w K tg (Itl K a) [it] it (λi h=>h.IsListIter it a i) where
 mem:=by simp
 obj:=λi h st b hb=>by
  have e:b=it:=by simpa using hb
  subst e;obtain⟨o,e,c,d⟩:=st;exact⟨o,e,λv z=>by rw[d]at z;cases z⟩
 keep:=λi h h' st k=>st.at λo e=>k it (by simp) o e
 item:=by intro X hP hw hK hc i Á s σ H E I hf st hg;subst hP hw hK;obtain⟨xs,x,hq,hx⟩:=hg;obtain⟨ò,rv,p,hz⟩:=I.list hq;obtain⟨u,hu,ru⟩:=rv.get hx;obtain⟨f0,f1,f2,f3,f4,f5⟩:=hf it (by simp);refine wpAny_pyNext_list_item st p.isList (x:=u) (by simpa using hu) λh' dY sb=>?_;have I1:Inv X Á σ H {s with heap:=h'}:=I.turned (t':=s.toks) (λb o hb e=>(sb.2 b hb).trans e) f0 f1 f3 f4 f5;obtain⟨o,e,c,d⟩:=id dY;exact⟨u,rfl,eV (s:={s with heap:=h'}) e c d (by decide) ⟨x,H,I1,ru,⟨rfl,λys hy=>by rw[I.list_inj hy hq];exact hx⟩,dY,λb hb=>(hf b hb).1⟩⟩
 done:=by intro X hP hw hK hc i Á s σ H E I hf st hg;subst hP hw hK;obtain⟨xs,hq,hx⟩:=hg;obtain⟨ò,rv,p,hz⟩:=I.list hq;obtain⟨f0,f1,f2,f3,f4,f5⟩:=hf it (by simp);have hl:=rv.length;exact wpAny_pyNext_list_end (I.ok.hd hc) st p.isList (by simp;lia) λh' eb=>⟨rfl,I.turned (t':=s.toks) (λb o hb e=>eb b o hb e) f0 f1 f3 f4 f5⟩
 self:=λ_ _ _ _ _ st h=>wpAny_pyIter_listiter st h
def NV{K:Frag}(a it:È):Turn P w K tg (Itt K a) [it] it (λi h=>h.IsTupleIter it a i) where
 mem:=by simp
 obj:=λi h st b hb=>by
  have e:b=it:=by simpa using hb
  subst e;obtain⟨o,e,c,d⟩:=st;exact⟨o,e,λv z=>by rw[d]at z;cases z⟩
 keep:=λi h h' st k=>st.at λo e=>k it (by simp) o e
 item:=by intro X hP hw hK hc i Á s σ H E I hf st hg;subst hP hw hK;obtain⟨xs,x,hq,hx⟩:=hg;obtain⟨ò,rv,p,hz⟩:=I.tuple hq;obtain⟨u,hu,ru⟩:=rv.get hx;obtain⟨f0,f1,f2,f3,f4,f5⟩:=hf it (by simp);refine wpAny_pyNext_tuple_item st (show s.heap.IsTuple a ò.toArray from p) (x:=u) (by simpa using hu) λh' dY sb=>?_;have I1:Inv X Á σ H {s with heap:=h'}:=I.turned (t':=s.toks) (λb o hb e=>(sb.2 b hb).trans e) f0 f1 f3 f4 f5;obtain⟨o,e,c,d⟩:=id dY;exact⟨u,rfl,eV (s:={s with heap:=h'}) e c d (by decide) ⟨x,H,I1,ru,⟨rfl,λys hy=>by rw[I.tuple_inj hy hq];exact hx⟩,dY,λb hb=>(hf b hb).1⟩⟩
 done:=by intro X hP hw hK hc i Á s σ H E I hf st hg;subst hP hw hK;obtain⟨xs,hq,hx⟩:=hg;obtain⟨ò,rv,p,hz⟩:=I.tuple hq;obtain⟨f0,f1,f2,f3,f4,f5⟩:=hf it (by simp);have hl:=rv.length;exact wpAny_pyNext_tuple_end (I.ok.hd hc) st (show s.heap.IsTuple a ò.toArray from p) (by simp;lia) λh' eb=>⟨rfl,I.turned (t':=s.toks) (λb o hb e=>eb b o hb e) f0 f1 f3 f4 f5⟩
 self:=λ_ _ _ _ _ st h=>wpAny_pyIter_tupleiter st h
def NW{K:Frag}(it:È)(lo:Int)(n:Nat):Turn P w K tg (Itr lo n) [it] it (λi h=>IsRangeIter h it (lo+(i:Nat)*1) ((n:Int) - (i:Nat)) 1) where
 mem:=by simp
 obj:=λi h st b hb=>by
  have e:b=it:=by simpa using hb
  subst e;exact⟨_,st,λv z=>by
    have z':Data.fields _=Data.cell v:=z
    cases z'⟩
 keep:=λi h h' st k=>k it (by simp) _ st
 item:=by intro X hP hw hK hc i Á s σ H E I hf st hg;subst hP hw hK;obtain⟨f0,f1,f2,f3,f4,f5⟩:=hf it (by simp);have W:=Walks.range (prog:=X.prog) (w:=X.w) (I.ok.hd hc) it lo 1 n;refine W.item i s _ _ hg st λv h' tk hv dY kk=>?_;obtain⟨t,rfl⟩:=hv;have I1:Inv X Á σ H {s with heap:=h',toks:=tk}:=I.turned (λb o hb e=>kk b o (by simpa using hb) e) f0 f1 f3 f4 f5;refine⟨_,rfl,eV (s:={s with heap:=h',toks:=tk}) (n:="range_iterator") dY rfl rfl (by decide) ⟨.int<|lo+i,H,I1,⟨t,?_⟩,⟨rfl,rfl⟩,dY,λb hb=>(hf b hb).1⟩⟩;rw[Int.mul_one]
 done:=by intro X hP hw hK hc i Á s σ H E I hf st hg;subst hP hw hK;obtain⟨f0,f1,f2,f3,f4,f5⟩:=hf it (by simp);exact wpAny_pyNext_range_end (I.ok.hd hc) st (by have:n<=i:=hg;lia) λh' eb=>⟨rfl,I.turned (t':=s.toks) (λb o hb e=>eb b o hb e) f0 f1 f3 f4 f5⟩
 self:=λ_ _ _ _ _ st h=>wpAny_pyIter_rangeiter st h
section
variable {X:Cx}{tg:Expr}
variable {Á:List (È×Obj)} {σ:St} {H:Hp} {s:Ä}
def BR{R:It->Hp->Prop}{E:Â->Ä->Prop}{lo hi:Int}{t u v:Tok}{tk:Nat}(I:Inv X Á σ H s)(h1:-(2 ^ 62)<=lo)(h2:lo<2 ^ 62)(h3:-(2 ^ 62)<=hi)(h4:hi<2 ^ 62)
  (q:R (Itr lo (hi - lo).toNat) H):wpAny (Ù X.prog X.w) X.A (cr<|.ref s.heap.objs.size) (PIE X Á σ tg R) E {s with heap:=s.heap.push {cls:=.type "range",data:=.fields #[.int lo t,.int hi u,.int 1 v]},toks:=tk}:=by
 refine wpAny_pyIter_range (IsRange.new ..) (small_one h1 h2 h3 h4) ?_;have I1:Inv X Á σ H { s with heap:=s.heap.push { cls:=.type "range",data:=.fields #[.int lo t,.int hi u,.int 1 v] },toks:=tk }:=I.kept λb o e=>Å _ e;refine⟨(s.heap.push { cls:=.type "range",data:=.fields #[.int lo t,.int hi u,.int 1 v] }).objs.size,[(s.heap.push { cls:=.type "range",data:=.fields #[.int lo t,.int hi u,.int 1 v] }).objs.size],_,_,H,rfl,
   I1.kept (t':=tk) λb o e=>Å _ e,NW _ lo (hi - lo).toNat,?_,λb hb=>?_,q⟩
 .have e1:lo+((0:Nat):Int)*1=lo:=by simp
  have e2:(((hi - lo).toNat:Nat):Int) - ((0:Nat):Int)=Builtin.Range.rangeSize lo hi 1:=by rw[rangeSize_one];split<;>lia
  show IsRangeIter _ _ (lo+((0:Nat):Int)*1) ((((hi - lo).toNat:Nat):Int) - ((0:Nat):Int)) 1;rw[e1,e2];exact Ñ _ rfl
 .have e:b=(s.heap.push {cls:=.type "range",data:=.fields #[.int lo t,.int hi u,.int 1 v]}).objs.size:=by simpa using hb
  subst e;exact I1.fpOk (Ì _)<|I1.hok.fresh<|Ì _
abbrev Pr(ta:TA):TI:=λσ H R=>ta σ H λvs H1=>∃j:Int,vs=[.int j]/\-(2 ^ 62)<=j/\j<2 ^ 62/\R (Itr 0 j.toNat) H1
variable {ç:Pos}
def Ae{a:Expr}{ta:TA}{p:Pos}(hg:Gl X "range")(hm:X.mg "range" = eM)(ha:PA X [a] ta)(hs:Ð [a] X.env=[(eP,eval a X.env)]:=by rfl):PI X tg (.Call (.Name "range" p) [a] [] ç)<|Pr ta:=by
 intro Á s σ H R I h;refine Call_<|YW I hg hm boot_range<|PyProof.Rows.callWith_type1 (thn (ha ç Á s σ H _ I h) λus s1 ⟨vs,H1,I1,r1,q1⟩=>?_) hs rfl;obtain⟨j,e,q1,q2,q⟩:=q1;subst e;cases r1 with
 |cons r rr =>cases rr;obtain⟨t,rfl⟩:=r;exact call_range_1 (BR I1 (by lia) (by lia) q1 q2<|by simpa using q)
abbrev Rq(wi:TI)(g:TG)(tb:TS):TS:=λD σ H=>wi σ H λJ H1=>∃W:Nat->Nat->St->Hp->Prop,(∃m,W 0 m σ H1)/\∀i m σ H,W i m σ H->
 (J.stop i H/\D.nx σ H)\/(J.go i H/\∃N:St->Hp->Prop,(∀Ś H',N Ś H'->∃m',m'<m/\W (i+1) m' Ś H')/\∀x H',J.yld i H x H'->g x σ H' λσ2 H2=>tb {D with nx:=N,ct:=N,bk:=D.nx} σ2 H2)
abbrev Xr(fp:List È)(h:þ):List<|È×Obj:=fp.filterMap λb=>(h.get? b).map λo=>(b,o)
variable {fp:List È} {h:þ}
def ZQ{b:È}{o:Obj}(hb:b∈fp)(e:h.get? b=eL o):(b,o)∈Xr fp h:=ϱ.mpr ⟨b,hb,by rw[e];rfl⟩
def Kg{p:È×Obj}(hp:p∈Xr fp h):p.1∈fp/\h.get? p.1=eL p.2:=by
 obtain⟨b,hb,e⟩:=ϱ.mp hp;cases q:h.get? b with
 |none=>rw[q]at e;cases e
 |some o =>rw[q]at e;have e':(b,o)=p:=ì e;subst e';exact⟨hb,q⟩
def Inv.pinned(I:Inv X Á σ H s)(hf:∀b∈fp,Wd X Á H b)(ho:∀b∈fp,∃o,s.heap.get? b=eL o/\∀v,o.data≠.cell v):Inv X (Á++Xr fp s.heap) σ H s :=
 I.pins_of λp hp=>(æ.mp hp).elim (λz=>I.pin p<|Ê _ z) λz=>by obtain⟨hb,e⟩:=Kg z;obtain⟨f0,f1,f2,_⟩:=hf p.1 hb;obtain⟨o,e',d⟩:=ho p.1 hb;rw[e]at e';cases e';exact⟨e,f0,f1,f2,d⟩
def Inv.unpinned{pl:List (È×Obj)}(I:Inv X (Á++pl) σ H s):Inv X Á σ H s:=I.pins_of λp hp=>I.pin p (Ê _<|Þ _ hp)
def CC{ŷ:Expr}{body:List ħ}{wi:TI}{g:TG}{tb:TS}(hp:ah (Ù X.prog X.w) X.A X.env X.xe)(hc:X.calm=eN)(hi:PI X tg ŷ wi)(hg:PG X tg g)(hb:PSs X body tb)
  (hs:∀x,ė ŷ X.env x=pure x:=by intro _;rfl):PS X (.For tg ŷ body [] ç)<|Rq wi g tb:=by
 intro Á s σ H D I h;refine wpAny_For (thn (hi Á s σ H _ I h) λv s1 h1=>thn h1 λitv s2 h2=>?_) hs;obtain⟨it,fp,tn,J,H2,e,I2,T,st2,f2,W,⟨m0,w0⟩,turn⟩:=h2;subst e;have stat:∀{H':Hp},(∀b∈fp,H' b=eM)->∀b∈fp,Wd X Á H' b:=λhn b hb=>⟨hn b hb,(f2 b hb).2⟩
 refine codeAny_forLoop_any (λn s'=>∃i Ś H',Inv X Á Ś H' s'/\tn i s'.heap/\(∀b∈fp,H' b=eM)/\W i n Ś H') ?_ m0 ⟨0,σ,H2,I2,st2,λb hb=>(f2 b hb).1,w0⟩;rintro n s3 ⟨i,σ3,H3,I3,st3,fr3,w3⟩;rcases turn i n σ3 H3 w3 with⟨stop,qn⟩|⟨go,N,hN,step⟩
 .refine Ε hp<|thn (T.done X rfl rfl rfl hc i Á s3 σ3 H3 X.xe I3 (stat fr3) st3 stop) λr s4 ⟨hr,I4⟩=>?_;subst hr;exact ź ⟨σ3,H3,I4,qn⟩
 .refine Ε hp<|thn (T.item X rfl rfl rfl hc i Á s3 σ3 H3 X.xe I3 (stat fr3) st3 go) λr s4 ⟨u,hr,h4⟩=>?_;subst hr;refine Ε hp<|thn h4 λ_ s5 ⟨x,H5,I5,r5,y5,st5,fr5⟩=>?_;have I5':=I5.pinned (stat fr5)<|T.obj _ _ st5;refine Ε hp<|thn (hg _ s5 σ3 H5 x u _ I5' r5<|step x H5 y5) λ_ s6 ⟨σ6,H6,I6,q6⟩=>?_;refine Ε hp<|thn (hb _ s6 σ6 H6 _ I6 q6) λf s7 q7=>?_;have again:∀{bD:St}{H7:Hp},Inv X (Á++Xr fp s5.heap) bD H7 s7->N bD H7->∃m,m<n/\∃i Ś H',Inv X Á Ś H' s7/\tn i s7.heap/\(∀b∈fp,H' b=eM)/\W i m Ś H':=λ{bD H7} I7 n7=>by
   obtain⟨m',hm,w7⟩:=hN bD H7 n7;refine⟨m',hm,i+1,bD,H7,I7.unpinned,T.keep _ _ _ st5 λb hb o e=>(I7.pin (b,o)<|Ê _<|Ê _<|ZQ hb e).1,λb hb=>?_,w7⟩;obtain⟨o,e,d⟩:=T.obj _ _ st5 b hb;exact(I7.pin (b,o)<|Ê _<|Ê _<|ZQ hb e).2.1
  cases f with
  |next=>obtain⟨bD,H7,I7,n7⟩:=q7;exact again I7 n7
  |cont=>obtain⟨bD,H7,I7,n7⟩:=q7;exact again I7 n7
  |brk=>obtain⟨bD,H7,I7,q7⟩:=q7;exact⟨bD,H7,I7.unpinned,q7⟩
  |ret v=>obtain⟨x7,bD,H7,I7,r7,q7⟩:=q7;exact⟨x7,bD,H7,I7.unpinned,r7,q7⟩
end
noncomputable abbrev R2:=V->V->Hp->VK->Prop
abbrev OpR(X:Cx)(f:Â->Â->Sem Â)(r:R2):Prop :=
 ∀(Á:List<|È×Obj) (s:Ä) (σ:St) (H:Hp) (x y:V) (v u:Â) (Q:VK),Inv X Á σ H s->RelV x v->RelV y u->r x y H Q->
  wpAny (Ù X.prog X.w) X.A (f v u) (EP X Á σ Q) X.xe s
abbrev UnR(X:Cx)(f:Â->Sem Â)(r:V->Hp->VK->Prop):Prop :=
 ∀(Á:List<|È×Obj) (s:Ä) (σ:St) (H:Hp) (x:V) (v:Â) (Q:VK),Inv X Á σ H s->RelV x v->r x H Q->
  wpAny (Ù X.prog X.w) X.A (f v) (EP X Á σ Q) X.xe s
abbrev eY(X:Cx)(f:Â)(r:List V->Hp->VK->Prop):Prop :=
 ∀(Á:List<|È×Obj) (s:Ä) (σ:St) (H:Hp) (xs:List V) (us:List Â) (Q:VK),Inv X Á σ H s->fZ xs us->r xs H Q->
  wpAny (Ù X.prog X.w) X.A (call f us) (EP X Á σ Q) X.xe s
abbrev QX(X:Cx)(r:V->Hp->(Bool->Hp->Prop)->Prop):Prop :=
 ∀(Á:List<|È×Obj) (s:Ä) (σ:St) (H:Hp) (x:V) (v:Â) (Q:Bool->Hp->Prop),Inv X Á σ H s->RelV x v->r x H Q->
  wpAny (Ù X.prog X.w) X.A (truthy v) (TP X Á σ Q) X.xe s
abbrev tOp(r:R2)(ta tb:TE):TE:=λσ H Q=>ta σ H λx H1=>tb σ H1 λy H2=>r x y H2 Q
abbrev tUn(r:V->Hp->VK->Prop)(ta:TE):TE:=λσ H Q=>ta σ H λx H1=>r x H1 Q
abbrev rI(C:Int->Int->Prop)(g:Int->Int->V):R2:=λx y H Q=>∃i j,x=.int i/\y=.int j/\C i j/\Q (g i j) H
abbrev rI0(g:Int->Int->V):R2:=λx y H Q=>∃i j,x=.int i/\y=.int j/\Q (g i j) H
abbrev rU(g:Int->V):V->Hp->VK->Prop:=λx H Q=>∃i,x=.int i/\Q (g i) H
section
variable {X:Cx}{a b c:Expr}{ta tb tc:TE}{ç:Pos}
variable {f:Â->Â->Sem Â}
def Hw(ha:PE X a ta)(hb:PE X b tb){Á:List (È×Obj)}{s:Ä}{σ:St}{H:Hp}{R:V->V->Hp->Prop}(I:Inv X Á σ H s)
  (h:ta σ H λx H1=>tb σ H1 λy H2=>R x y H2){Q:Â->Ä->Prop} 
  (hf:∀v u s2 x y H2,Inv X Á σ H2 s2->RelV x v->RelV y u->R x y H2->wpAny (Ù X.prog X.w) X.A (f v u) Q X.xe s2) :
  wpAny (Ù X.prog X.w) X.A (eval a X.env) (λv ğ=>wpAny (Ù X.prog X.w) X.A (eval b X.env) (λu bW=>wpAny (Ù X.prog X.w) X.A (f v u) Q X.xe bW) X.xe ğ) X.xe s:=by
 refine thn (ha Á s σ H _ I h) λv s1 ⟨x,H1,I1,r1,q1⟩=>?_;refine thn (hb Á s1 σ H1 _ I1 q1) λu s2 ⟨y,H2,I2,r2,q2⟩=>?_;exact hf v u s2 x y H2 I2 r1 r2 q2
def Pp{op:Ϝ}{r:R2}(ho:OpR X (ŏ op) r)(ha:PE X a ta)(hb:PE X b tb):PE X (.BinOp a op b ç)<|tOp r ta tb:=by intro Á s σ H Q I h;exact wpAny_BinOp (Hw ha hb I h λv u s2 x y H2 I2 rx ry q=>ho Á s2 σ H2 x y v u Q I2 rx ry q)
def P2{op:UnaryOp}{r:V->Hp->VK->Prop}(ho:UnR X (unaryOp op) r)(ha:PE X a ta):PE X (.UnaryOp op a ç)<|tUn r ta:=by intro Á s σ H Q I h;exact UnaryOp_ (thn (ha Á s σ H _ I h) λv s1 ⟨x,H1,I1,r1,q1⟩=>ho Á s1 σ H1 x v Q I1 r1 q1)
variable {g:Int->Int->Int}
def opI{C:Int->Int->Prop} 
  (rule:∀(i j:Int) (t u:Tok) (s:Ä) (Q:Â->Ä->Prop) (E:Â->Ä->Prop),C i j->Q (.int (g i j) s.toks) {s with toks:=s.toks+1}->wpAny (Ù X.prog X.w) X.A (f (.int i t)<|.int j u) Q E s) :
  OpR X f (rI C λi j=>.int<|g i j):=by
 intro Á s σ H x y v u Q I rx ry h;obtain⟨i,j,rfl,rfl,hc,q⟩:=h;obtain⟨t,rfl⟩:=rx;obtain⟨t',rfl⟩:=ry;exact rule i j t t' s _ _ hc ⟨.int<|g i j,H,I.tok _,⟨_,rfl⟩,q⟩
def Qg  
  (rule:∀(i j:Int) (t u:Tok) (s:Ä) (Q:Â->Ä->Prop) (E:Â->Ä->Prop),Q (.int (g i j) s.toks) {s with toks:=s.toks+1}->wpAny (Ù X.prog X.w) X.A (f (.int i t)<|.int j u) Q E s) :
  OpR X f (rI0 λi j=>.int<|g i j):=by
 intro Á s σ H x y v u Q I rx ry h;obtain⟨i,j,rfl,rfl,q⟩:=h;obtain⟨t,rfl⟩:=rx;obtain⟨t',rfl⟩:=ry;exact rule i j t t' s _ _ ⟨.int<|g i j,H,I.tok _,⟨_,rfl⟩,q⟩
def DX{g:Int->Int->Bool}
  (rule:∀(i j:Int) (t u:Tok) (s:Ä) (Q:Â->Ä->Prop) (E:Â->Ä->Prop),Q (.bool<|g i j) s->wpAny (Ù X.prog X.w) X.A (f (.int i t)<|.int j u) Q E s) :
  OpR X f (rI0 λi j=>.bl<|g i j):=by
 intro Á s σ H x y v u Q I rx ry h;obtain⟨i,j,rfl,rfl,q⟩:=h;obtain⟨t,rfl⟩:=rx;obtain⟨t',rfl⟩:=ry;exact rule i j t t' s _ _ ⟨.bl<|g i j,H,I,rfl,q⟩
abbrev Po(i j:Int):Prop:=0<j/\j<1073741824
abbrev PF(i j:Int):Prop:=0<=j/\j<=1000000/\i.natAbs<2 ^ 64
abbrev CMul(i j:Int):Prop:=(-(2 ^ 64)<i/\i<2 ^ 64)\/(-(2 ^ 64)<j/\j<2 ^ 64)
def CMul.ok{i j:Int}(h:CMul i j):IntMulOk i j:=by
 rcases h with⟨h1,h2⟩|⟨h1,h2⟩
 .exact .of_left<|az h1 h2
 .exact .of_right<|az h1 h2
def op_add:OpR X (ŏ .Add)<|rI0 λi j=>.int<|i+j:=Qg λ_ _ _ _ _ _ _ q=>add_int q
def Hz:OpR X (ŏ .Sub)<|rI0 λi j=>.int<|i - j:=Qg λ_ _ _ _ _ _ _ q=>sub_int q
def Er:OpR X (ŏ .FloorDiv)<|rI Po λi j=>.int<|i / j:=opI λi j _ _ _ _ _ hc q=>by have h1:(0:Int)<j:=hc.1;have h2:j<1073741824:=hc.2;exact floordiv_int (by lia) (by rw[Int.fdiv_eq_ediv_of_nonneg i<|by lia];exact q) (.inl<|PyProof.noPylong_small<|by lia)
def HA:OpR X (ŏ .Mod)<|rI (λ_ j=>0<j) λi j=>.int<|i % j:=opI λi j _ _ _ _ _ hc q=>by have h1:(0:Int)<j:=hc;exact mod_int' (by lia) (by rw[Int.fmod_eq_emod_of_nonneg i<|by lia];exact q)
def Ip:OpR X (ŏ .Pow)<|rI PF λi j=>.int<|i ^ j.toNat:=opI λ_ _ _ _ _ _ _ hc q=>pow_int_small hc.1 hc.2.1 hc.2.2 q
def unI{f:Â->Sem Â}{g:Int->Int}
  (rule:∀(i:Int) (t:Tok) (s:Ä) (Q:Â->Ä->Prop) (E:Â->Ä->Prop),Q (.int (g i) s.toks) {s with toks:=s.toks+1}->wpAny (Ù X.prog X.w) X.A (f<|.int i t) Q E s) :
  UnR X f (rU λi=>.int<|g i):=by
 intro Á s σ H x v Q I rx h;obtain⟨i,rfl,q⟩:=h;obtain⟨t,rfl⟩:=rx;exact rule i t s _ _ ⟨.int<|g i,H,I.tok _,⟨_,rfl⟩,q⟩
def Ir:UnR X (unaryOp .USub)<|rU λi=>.int (-i):=unI λ_ _ _ _ _ q=>neg_int q
end
section
variable {X:Cx}{a b c:Expr}{ta tb tc:TE}{ç:Pos}
def Hl{Á:List (È×Obj)}{σ:St}{H:Hp}{s:Ä}{Q:VK}{k k':Bool}(I:Inv X Á σ H s)(q:Q (.bl k) H)(e:k=k'):EP X Á σ Q (.bool k') s:=by subst e;exact⟨.bl k,H,I,rfl,q⟩
def op_lt:OpR X (ë .Lt)<|rI0 λi j=>.bl<|gq (i<j):=DX λ_ _ _ _ _ _ _ q=>lt_int q
def LW:OpR X (ë .LtE)<|rI0 λi j=>.bl<|gq (i<=j):=DX λ_ _ _ _ _ _ _ q=>le_int q
def op_gt:OpR X (ë .Gt)<|rI0 λi j=>.bl<|gq (j<i):=DX λ_ _ _ _ _ _ _ q=>gt_int q
def Qp:OpR X (ë .GtE)<|rI0 λi j=>.bl<|gq (j<=i):=DX λ_ _ _ _ _ _ _ q=>ge_int q
def U9:OpR X (ë .In) λx y H Q=>∃i j,x=.str i/\y=.str j/\Q (.bl (!(Builtin.Str.occurrences j i 0 j.length 1).isEmpty)) H:=by intro Á s σ H x y v u Q I rx ry h;obtain⟨i,j,rfl,rfl,q⟩:=h;obtain⟨t,rfl⟩:=rx;obtain⟨t',rfl⟩:=ry;exact in_str (Hl I q rfl)
variable {r:R2} {r':R2}
def OpR.or{f:Â->Â->Sem Â}(h:OpR X f r)(h':OpR X f r'):OpR X f λx y H Q=>r x y H Q\/r' x y H Q:=by
 intro Á s σ H x y v u Q I rx ry q;rcases q with q|q
 .exact h Á s σ H x y v u Q I rx ry q
 .exact h' Á s σ H x y v u Q I rx ry q
variable {op:cq}
def Uj(ho:OpR X (ë op) r)(ha:PE X a ta)(hb:PE X b tb)(hm:Ņ op b=eP):PE X (.Compare a [op] [b] ç)<|tOp r ta tb:=by intro Á s σ H Q I h;exact wpAny_Compare1 (Hw ha hb I h λv u s2 x y H2 I2 rx ry q=>ho Á s2 σ H2 x y v u Q I2 rx ry q) hm
abbrev Gg(t:TE):TT:=λσ H Q=>t σ H λx H'=>∃k,x=.bl k/\Q k H'
def OS(ho:OpR X (ë op) r)(ha:PE X a ta)(hb:PE X b tb)(hm:Ņ op b=eP):PT X (.Compare a [op] [b] ç)<|Gg<|tOp r ta tb:=by
 intro Á s σ H Q I h;refine wpAny_isTrue_Compare1 (thn (ha Á s σ H _ I h) λv s1 ⟨x,H1,I1,r1,q1⟩=>thn (hb Á s1 σ H1 _ I1 q1) λu s2 ⟨y,H2,I2,r2,q2⟩ =>
   thn (ho Á s2 σ H2 x y v u _ I2 r1 r2 q2) λc s3 ⟨z,H3,I3,r3,k,e,q3⟩=>?_) hm
 subst e;cases r3;exact Đ ⟨H3,I3,q3⟩
abbrev Dc(r r':R2)(ta tb tc:TE):TE:=λσ H Q=>ta σ H λx H1=>tb σ H1 λy H2=>r x y H2 λz H3=>∃k,z=.bl k/\
 (if k=eN then tc σ H3 λw' H4=>r' y w' H4 Q else Q (.bl eP) H3)
variable {dz:cq}
def Bl(ho:OpR X (ë op) r)(aC:OpR X (ë dz) r')(ha:PE X a ta)(hb:PE X b tb)(hc:PE X c tc)
  (hm:bx [op,dz] [b,c]=eP:=by with_unfolding_all rfl):PE X (.Compare a [op,dz] [b,c] ç)<|Dc r r' ta tb tc:=by
 intro Á s σ H Q I h;refine Compare_chain (thn (ha Á s σ H _ I h) λv s1 ⟨x,H1,I1,r1,q1⟩=>chain_link (thn (hb Á s1 σ H1 _ I1 q1) λu s2 ⟨y,H2,I2,r2,q2⟩ =>
   thn (ho Á s2 σ H2 x y v u _ I2 r1 r2 q2) λd s3 ⟨z,H3,I3,r3,k,e,q3⟩=>?_)) hm
 subst e;cases r3;refine Đ ?_;cases k with
 |false=>exact ite_ff ⟨.bl eP,H3,I3,rfl,q3⟩
 |true=>exact ite_tt<|chain_last<|thn (hc Á s3 σ H3 _ I3 q3) λw' s4 ⟨z',H4,I4,r4,q4⟩=>aC Á s4 σ H4 y z' u w' Q I4 r2 r4 q4
def BL(ho:OpR X (ë op) r)(aC:OpR X (ë dz) r')(ha:PE X a ta)(hb:PE X b tb)(hc:PE X c tc)
  (hm:bx [op,dz] [b,c]=eP:=by with_unfolding_all rfl):PT X (.Compare a [op,dz] [b,c] ç)<|Gg<|Dc r r' ta tb tc:=by
 intro Á s σ H Q I h;refine isTrue_chain (thn (ha Á s σ H _ I h) λv s1 ⟨x,H1,I1,r1,q1⟩=>test_link (thn (hb Á s1 σ H1 _ I1 q1) λu s2 ⟨y,H2,I2,r2,q2⟩ =>
   thn (ho Á s2 σ H2 x y v u _ I2 r1 r2 q2) λd s3 ⟨z,H3,I3,r3,k,e,q3⟩=>?_)) hm
 subst e;cases r3;refine Đ ?_;cases k with
 |false =>obtain⟨k',e',q'⟩:=q3;cases e';exact ite_ff ⟨H3,I3,q'⟩
 |true =>refine ite_tt<|test_last<|thn (hc Á s3 σ H3 _ I3 q3) λw' s4 ⟨z',H4,I4,r4,q4⟩=>thn (aC Á s4 σ H4 y z' u w' _ I4 r2 r4 q4) λd' s5 ⟨z2,H5,I5,r5,k2,e2,q5⟩=>?_;subst e2;cases r5;exact Đ ⟨H5,I5,q5⟩
abbrev L1(K:Frag)(x:V)(H:Hp)(k:Bool):Prop :=
 match x with
 |.non=>k=eP
 |.bl b=>k=b
 |.int i=>k=(i != 0)
 |.str y=>y.length<=Ø/\k=((y.length:Int) != 0)
 |.byt y=>y.size<=Ø/\k=((y.size:Int) != 0)
 |.ref p=>(∃xs,fX K H p xs/\k=!xs.isEmpty)\/(∃xs,fY K H p xs/\k=!xs.isEmpty)\/∃kvs,H p=eL (.dK kvs)/\k=!kvs.isEmpty
 |_=>False
def Og{κ:Type}{kvs:List (κ×V)}{vs:List (κ×Â)}(r:KV kvs vs):(!vs.isEmpty)=!kvs.isEmpty:=by cases r<;>rfl
def Jj{xs:List V}{ò:List Â}(r:fZ xs ò):(!ò.toArray.isEmpty)=!xs.isEmpty:=by cases r<;>simp
def YL:(Ø:Nat)<2 ^ 63:=by rw[ϸ];decide
def Iu:QX X λx H Q=>∃k,L1 X.K x H k/\Q k H:=by
 intro Á s σ H x v Q I rx h;obtain⟨k,e,q⟩:=h;have hl:=YL;have hs:Ø=16777216:=ϸ;cases x with
 |non =>cases rx;have e':k=eP:=e;subst e';exact truthy_none ⟨H,I,q⟩
 |bl b =>cases rx;have e':k=b:=e;subst e';exact Đ ⟨H,I,q⟩
 |int i =>obtain⟨t,rfl⟩:=rx;have e':k=(i != 0):=e;subst e';exact PySem.P.truthy_int ⟨H,I,q⟩
 |str y =>obtain⟨t,rfl⟩:=rx;obtain⟨hy,e'⟩:y.length<=Ø/\k=((y.length:Int) != 0):=e;subst e';exact PySem.P.truthy_str (by lia) ⟨H,I.tok _,q⟩
 |byt y =>obtain⟨t,rfl⟩:=rx;obtain⟨hy,e'⟩:y.size<=Ø/\k=((y.size:Int) != 0):=e;subst e';exact PySem.W.truthy_bytes (by lia) ⟨H,I.tok _,q⟩
 |ref p =>
  cases rx;have e':(∃xs,fX X.K H p xs/\k=!xs.isEmpty)\/(∃xs,fY X.K H p xs/\k=!xs.isEmpty)\/∃kvs,H p=eL (.dK kvs)/\k=!kvs.isEmpty:=e;rcases e' with⟨xs,hx,e'⟩|⟨xs,hx,e'⟩|⟨kvs,hx,e'⟩
  .subst e';obtain⟨ò,r,pl,hz⟩:=I.list hx;have Ē:=r.length;exact wpAny_truthy_list pl.isList (by simp only[Î];lia) ⟨H,I.tok _,by rw[Jj r];exact q⟩
  .subst e';obtain⟨ò,r,pl,hz⟩:=I.tuple hx;have Ē:=r.length;exact truthy_tuple pl (by simp only[Î];lia) ⟨H,I.tok _,by rw[Jj r];exact q⟩
  .subst e';obtain⟨hz,hS,vs,r,m⟩:kvs.length<=Ø/\(p==ş)=eP/\∃vs,KV kvs vs/\s.heap.DictOf (Zd X.prog X.w) p vs:=I.hok p _ hx;have Ē:kvs.length=vs.length:=Paired.length r;exact wpAny_truthy_dict hS m (by lia) ⟨H,I.tok _,by rw[Og r];exact q⟩
 |_=>exact(show False from e).elim
def BE(ha:PE X a ta)(he:∀aK,cp a X.env aK=(do let v<-aK;χ a.pos;ŋ [v] (truthy v))) :
  PT X a (λσ H Q=>ta σ H λx H'=>∃k,L1 X.K x H' k/\Q k H'):=by
 intro Á s σ H Q I h;exact isTrue_plain (thn (ha Á s σ H _ I h) λv s1 ⟨x,H1,I1,r1,q1⟩=>Iu Á s1 σ H1 x v Q I1 r1 q1)<|he _
def OD:OpR X (ŏ .Add) λx y H Q=>∃i j,x=.str i/\y=.str j/\i.length+j.length<=Ø/\Q (.str<|i++j) H:=by intro Á s σ H x y v u Q I rx ry h;obtain⟨i,j,rfl,rfl,hz,q⟩:=h;obtain⟨t,rfl⟩:=rx;obtain⟨t',rfl⟩:=ry;exact add_str (λt' tk=>⟨.str<|i++j,H,I.tok _,⟨_,rfl⟩,q⟩) hz
variable {x:V} {us:List Â}
def YG(r:fZ [x] us):∃u,us=[u]/\RelV x u:=by
 cases r with
 |cons r1 r2=>cases r2;exact⟨_,rfl,r1⟩
def GC{y:V}(r:fZ [x,y] us):∃u w',us=[u,w']/\RelV x u/\RelV y w':=by
 cases r with
 |cons r1 r2 =>
  cases r2 with
  |cons r3 r4=>cases r4;exact⟨_,_,rfl,r1,r3⟩
end
structure ObjM(h:þ)(x dx C:È)(mA:Str->Option Â):Prop where
 obj:h.get? x=eL (PySem.W.instObj C dx)
 ns:h.Ns1 dx mA
 ne:dx≠x
variable {h:þ} {dx:È} {mA:Str->Option Â}
def UK(n:h.Ns1 dx mA):∃od,h.get? dx=eL od/\∀name,PySem.W.lookIn name od=eL (mA name):=by
 obtain⟨o,es,ep,ho,hd,hk,_,hm⟩:=n;refine⟨o,ho,λname=>?_⟩;have e:=hm name;unfold nsFind findBy at e;rw[<-Array.find?_toList]at e;unfold PySem.W.lookIn;rw[hd];dsimp only;split
 .rename_i y q;rw[q]at e;exact congrArg eL e
 .rename_i q;rw[q]at e;have a:es.toList.any (·.refKey)=eP:=by
   rw[List.any_eq_false];intro y hy;obtain⟨z,t,hkey⟩:=hk y<|Array.mem_toList_iff.mp hy;simp[DictEntry.refKey,hkey]
  have a':¬ es.toList.any (·.refKey)=eN:=by rw[a];exact ü
  rw[gh a'];exact congrArg eL e
variable {C:È}
def ObjM.look{x:È}(I:ObjM h x dx C mA):∃od,PySem.W.InstAt h x (PySem.W.instObj C dx) C (eL od)/\∀name,PySem.W.lookIn name od=eL (mA name) :=
 let ⟨od,ho,hl⟩:=UK I.ns
 ⟨od,⟨I.obj,rfl,rfl,ho⟩,hl⟩
section
variable {prog:ß}{w:ñ}{A:ā}{E:Â->Ä->Prop}{s:Ä}{K:Frag}{x dx C f:È}{mA:Str->Option Â}{name:Str}{v:Â}
def DS{expr:Bool}{Q:Â->Ä->Prop}(X:K.In s.heap)(I:ObjM s.heap x dx C mA)(hg:PySem.W.plainGet K C name=eN)(hh:PySem.W.hasDictIn K C=eN)
  (ha:PySem.W.findIn K (.ref C) name=eL eM) (hv:mA name=eL v) (hv':PySem.W.handedIn v=eN) (h:Q v {s with toks:=s.toks+1}) :
  wpAny (Ù prog w) A (getAttr (.ref x) name expr) Q E s:=by
 obtain⟨od,J,hl⟩:=I.look;exact PySem.W.get_value X J (PySem.W.plainGet_of hg).1 (PySem.W.findObj_own hh ha rfl<|by rw[hl,hv]) hv' h
def B8{pl:Sem Bool}{Q:Â×List Â->Ä->Prop}(X:K.In s.heap)(I:ObjM s.heap x dx C mA)(hg:PySem.W.plainGet K C name=eN)
  (hf:PySem.W.findIn K (.ref C) name=eL (eL<|.ref f)) (ht:PySem.W.isFn K (.ref f)=eN) (hv:mA name=eM) (h:Q (.ref f,[.ref x]) s) :
  wpAny (Ù prog w) A (ρ (.ref x) name pl) Q E s:=by
 obtain⟨od,J,hl⟩:=I.look;exact PySem.W.method_fn X J (PySem.W.plainGet_of hg).1 (PySem.W.plainGet_of hg).2 hf (beq_iff_eq.mp ht) (by show(PySem.W.lookIn name od).map (·.isSome)=eL eP;rw[hl,hv];rfl) h
def EL{ns:List Str}{Q:Unit->Ä->Prop}(X:K.In s.heap)(I:ObjM s.heap x dx C mA)
  (hs:PySem.W.findIn K (.ref C) "__setattr__" = eL (eL<|.builtin "object.__setattr__")) (hp:PySem.W.plainOver K C=eN) (ht:PySem.W.takerIn K C name=eL eM) (hh:PySem.W.hasDictIn K C=eN)
  (hw:PySem.Within mA ns) (hsz:ns.length<=Ø)
  (h:∀h',ObjM h' x dx C (λy=>if y=name then eL v else mA y)->Œ dx s.heap h'->Q () {s with heap:=h',toks:=s.toks+2}) :
  wpAny (Ù prog w) A (setAttr (.ref x) name v) Q E s:=by
 obtain⟨od,J,hl⟩:=I.look;refine PySem.W.set_plain X J hs<|PySem.W.osa_open (s:={s with toks:=s.toks+1}) (r:=eM) X J hp ht λb=>?_;obtain⟨cd,hc,hd'⟩:=PySem.W.any_some hh;have hx:s.heap.get? x=eL ⟨.ref C,eL dx,.plain,#[]⟩:=I.obj;refine À<|Ç<|À<|À<|wpAny_loadPart hx<|À<|PySem.W.Looks.here (s:={s with toks:=s.toks+1}) (PySem.W.looks_clsIn X hc) ?_;rw[hd'];refine Ç (a:=eL dx)<|À<|Ç<|À ?_;refine wpAny_nsSet1 (s:={s with toks:=s.toks+1}) I.ns λh' hn2 hs2=>?_;obtain⟨oD,esD,epD,hoD,hdD,hcD⟩:=hn2.count<|PySem.Within.cons name v hw;refine À (wpAny_lookBehind hoD (by rw[hdD];exact pastItsLine_dict<|Ô hcD<|by rw[Ë];lia) ?_);exact Ç<|h _ ⟨(hs2.2 _<|Ne.symm I.ne).trans I.obj,hn2,I.ne⟩ hs2
def Bc{R:bz->Ä->Prop}{vs:List Â}{kw:List (Str×Â)}(X:K.In s.heap)(hm:PySem.W.makesIn K C=eN)
  (hi:PySem.W.findIn K (.ref C) "__init__" = eL (eL<|.ref f)) (hf:PySem.W.typeIn K (.ref f)=eL (.type "function"))
  (h:codeAny (Ù prog w) (A.under<|.builtin "type.__call__" ⟨.ref C::vs,kw⟩) (.call (.ref f) ⟨.ref (s.heap.objs.size+1)::vs,kw⟩) (PySem.W.InitBack (s.heap.objs.size+1) R)
    { s with heap:=(s.heap.push PySem.W.emptyDict).push (PySem.W.instObj C s.heap.objs.size) }) :
  codeAny (Ù prog w) A (.call (.ref C) ⟨vs,kw⟩) R s:=by
 obtain⟨hh,g,d,t,os⟩:=s;exact PySem.W.make_core (PySem.W.makes_of X hm) (PySem.W.looks_findIn X hi) (λself=>PySem.W.bind_fn X self hf) (.inl rfl) h
end
abbrev fh(f:Str)(v:V):List (Str×V)->List (Str×V)
 |[]=>[(f,v)]
 |(g,x)::r=>if g=f then(g,v)::r else(g,x)::fh f v r
def Wq(f g:Str)(v:V):∀fs:List<|Str×V,(fh f v fs).lookup g=if g=f then eL v else fs.lookup g
 |[]=>by
  show ι g [(f,v)]=_;by_cases h:g=f
  .have hb:(g==f)=eN:=beq_iff_eq.mpr h;simp only[ι,hb,gg h]
  .have hb:(g==f)=eP:=beq_eq_false_iff_ne.mpr h;simp only[ι,hb,gh h]
 |(k,x)::r=>by
  have ih:=Wq f g v r;rw[show fh f v ((k,x)::r)=(if k=f then(k,v)::r else(k,x)::fh f v r) from rfl];by_cases hk:k=f
  .rw[gg hk];by_cases h:g=k
   .have hb:(g==k)=eN:=beq_iff_eq.mpr h;simp only[ι,hb,gg<|h.trans hk]
   .have hb:(g==k)=eP:=beq_eq_false_iff_ne.mpr h;simp only[ι,hb,gh λe:g=f=>h<|e.trans hk.symm]
  .rw[gh hk];by_cases h:g=k
   .have hb:(g==k)=eN:=beq_iff_eq.mpr h;simp only[ι,hb,gh λe:g=f=>hk<|h.symm.trans e]
   .have hb:(g==k)=eP:=beq_eq_false_iff_ne.mpr h;simp only[ι,hb];exact ih
def Wa(f:Str)(v:V):∀fs:List<|Str×V,f∈(fh f v fs).map (·.1)/\∀g,g∈fs.map (·.1)->g∈(fh f v fs).map (·.1)
 |[]=>⟨by simp[fh],λg h=>by simp at h⟩
 |(k,x)::r=>by
  obtain⟨i1,i2⟩:=Wa f v r;rw[show fh f v ((k,x)::r)=(if k=f then(k,v)::r else(k,x)::fh f v r) from rfl];by_cases hk:k=f
  .rw[gg hk];subst hk;exact⟨by simp,λg h=>by simpa using h⟩
  .rw[gh hk];refine⟨?_,λg h=>?_⟩
   .rw[Ï];exact Ú _ i1
   .rw[Ï]at h ⊢;rcases Æ.mp h with e|e
    .exact Æ.mpr<|.inl e
    .exact Ú _<|i2 g e
def Wn(f:Str)(v:V):∀fs:List<|Str×V,(fh f v fs).length<=fs.length+1
 |[]=>by simp[fh]
 |(k,x)::r=>by
  have ih:=Wn f v r;rw[show fh f v ((k,x)::r)=(if k=f then(k,v)::r else(k,x)::fh f v r) from rfl];by_cases hk:k=f
  .rw[gg hk,Ë,Ë];lia
  .rw[gh hk,Ë,Ë];lia
variable {o:Option Â}
def fw.some_of{v:V}(r:fw (eL v) o):∃u,o=eL u/\RelV v u:=by
 cases o with
 |none=>exact(show False from r).elim
 |some u=>exact⟨u,rfl,r⟩
def fw.none_of(r:fw eM o):o=eM:=by
 cases o with
 |none=>rfl
 |some u=>exact(show False from r).elim
variable {u:Â}
def Ai{v:V}(r:RelV v u):PySem.W.handedIn u=eN:=by
 cases v with
 |non=>cases (show u=Value.none from r);rfl
 |bl b=>cases (show u=Value.bool b from r);rfl
 |int i=>obtain⟨t,e⟩:=(show ∃t,u=Value.int i t from r);cases e;rfl
 |str x=>obtain⟨t,e⟩:=(show ∃t,u=Value.str x t from r);cases e;rfl
 |byt b=>obtain⟨t,e⟩:=(show ∃t,u=Value.bytes b t from r);cases e;rfl
 |flt b=>obtain⟨t,e⟩:=(show ∃t,u=Value.float b t from r);cases e;rfl
 |ref a=>cases (show u=Value.ref a from r);rfl
 |ty n=>cases (show u=Value.type n from r);rfl
section
variable {P:ß}{w:ñ}{H H':Hp}{h h':þ}{a C dx:È}{fs dX:List (Str×V)}
def WA(hok:HOk P w H h)(e:H a=eL (.ins C dx fs)):∃mA,ObjM h a dx C mA/\(∀f,fw (fs.lookup f)<|mA f)/\PySem.Within mA (fs.map (·.1))/\fs.length<=1000/\H dx=eL (.own a):=by
 obtain⟨d,z,ne,ob,mA,n,r,q⟩:=(show eZ P w H h a (.ins C dx fs) from hok a _ e)
 exact⟨mA,⟨ob,n,ne⟩,r,q,z,d⟩
end
structure Cls(K:Frag)(C:È):Prop where
 pg:PySem.W.plainGet K C Str.empty=eN
 hd:PySem.W.hasDictIn K C=eN
 po:PySem.W.plainOver K C=eN
 sa:PySem.W.findIn K (.ref C) "__setattr__" = eL (eL<|.builtin "object.__setattr__")
def Cls.get{K:Frag}(c:Cls K C)(f:Str):PySem.W.plainGet K C f=eN:=c.pg
abbrev NoAttr(K:Frag)(C:È)(f:Str):Prop:=PySem.W.findIn K (.ref C) f=eL eM
def NoAttr.taker{K:Frag}{f:Str}(n:NoAttr K C f):PySem.W.takerIn K C f=eL eM:=by unfold PySem.W.takerIn;rw[show PySem.W.findIn K (.ref C) f=eL eM from n];rfl
structure Meth(K:Frag)(C:È)(m:Str)(f:È):Prop where
 at_:PySem.W.findIn K (.ref C) m=eL (eL<|.ref f)
 fn:PySem.W.isFn K (.ref f)=eN
 kp:PySem.W.keepIn K (.ref f)=eN
section
variable {X:Cx}{Á:List (È×Obj)}{σ:St}{H:Hp}{s:Ä}{a C dx:È}{fs:List (Str×V)}{f:Str}{v:V}{A:ā}{E:Â->Ä->Prop}
variable {Q:Â->Ä->Prop}
def WX{b:Bool}(I:Inv X Á σ H s)(e:H a=eL (.ins C dx fs))(c:Cls X.K C)(n:NoAttr X.K C f)(l:fs.lookup f=eL v)
  (h:∀u s',Inv X Á σ H s'->RelV v u->Q u s'):wpAny (Ù X.prog X.w) A (getAttr (.ref a) f b) Q E s:=by
 obtain⟨mA,O,r,_,_,_⟩:=WA I.hok e;obtain⟨u,hu,ru⟩:=fw.some_of (v:=v) (o:=mA f) (by rw[<-l];exact r f);exact DS I.kIn O (c.get f) c.hd n hu (Ai ru)<|h u _ (I.tok _) ru
def Xy{m:Str}{g:È}{pl:Sem Bool}{Q:Â×List Â->Ä->Prop}(I:Inv X Á σ H s)(e:H a=eL (.ins C dx fs))(c:Cls X.K C)(k:Meth X.K C m g)(l:fs.lookup m=eM)
  (h:Q (.ref g,[.ref a]) s):wpAny (Ù X.prog X.w) A (ρ (.ref a) m pl) Q E s:=by
 obtain⟨mA,O,r,_,_,_⟩:=WA I.hok e;have hn:mA m=eM:=fw.none_of (by rw[<-l];exact r m);exact B8 I.kIn O (c.get m) k.at_ k.fn hn h
def W8{y:V}{Q:Unit->Ä->Prop}(I:Inv X Á σ H s)(e:H a=eL (.ins C dx fs))(c:Cls X.K C)(n:NoAttr X.K C f)(hl:fs.length<1000)(ry:RelV y u)
  (h:∀s',Inv X Á σ (upd H a<|.ins C dx<|fh f y fs) s'->Q () s'):wpAny (Ù X.prog X.w) A (setAttr (.ref a) f u) Q E s:=by
 obtain⟨mA,O,r,wi,_,ho⟩:=WA I.hok e;have hz:(fs.map (·.1)).length<=Ø:=by rw[Ã,ϸ];lia
 refine EL I.kIn O c.sa c.po n.taker c.hd wi hz λh' O' sb=>h _ ?_;have hd:∃o,h'.get? dx=eL o:=let ⟨o,_,_,e',_⟩:=O'.ns;⟨o,e'⟩;refine I.write (x:=a) (e:=dx) (by rw[e];exact True.intro) (.inr ho) (λb q hb z=>(sb.2 b hb).trans z) hd ?_;refine⟨by rw[eQ O.ne];exact ho,?_,O.ne,O'.obj,_,O'.ns,λg=>?_,λg hg=>?_⟩
 .have:=Wn f y fs;lia
 .show fw ((fh f y fs).lookup g) (if g=f then eL u else mA g);rw[Wq];by_cases q:g=f
  .rw[gg q,gg q];exact ry
  .rw[gh q,gh q];exact r g
 .by_cases q:g=f
  .rw[q];exact(Wa f y fs).1
  .refine(Wa f y fs).2 g<|wi g λz=>hg ?_;show(if g=f then eL u else mA g)=eM;rw[gh q];exact z
def Inv.made(I:Inv X Á σ H s):Inv X Á σ (upd (upd H s.heap.objs.size<|.own<|s.heap.objs.size+1) (s.heap.objs.size+1)<|.ins C s.heap.objs.size [])
  {s with heap:=(s.heap.push PySem.W.emptyDict).push (PySem.W.instObj C s.heap.objs.size)}:=by
 have e1:(s.heap.push PySem.W.emptyDict).get? s.heap.objs.size=eL PySem.W.emptyDict:=Ñ s.heap rfl;have e2:((s.heap.push PySem.W.emptyDict).push<|PySem.W.instObj C s.heap.objs.size).get? (s.heap.objs.size+1)=eL (PySem.W.instObj C s.heap.objs.size):=by
  have:=Ñ (s.heap.push PySem.W.emptyDict) (o:=PySem.W.instObj C s.heap.objs.size) rfl
  rwa [Ż]at this
 have e3:(s.heap.push PySem.W.emptyDict).Ns s.heap.objs.size λ_=>eM:=⟨PySem.W.emptyDict,#[],_,e1,rfl,(λe he=>gp he<|by simp),λ_=>rfl⟩
 have I1:=I.laid (a:=s.heap.objs.size) (o:=.own<|s.heap.objs.size+1) (h':=s.heap.push PySem.W.emptyDict) (t':=s.toks) (λb u q=>Å _ q) (Ì _) ⟨_,e1⟩;refine I1.laid (a:=s.heap.objs.size+1) (o:=.ins C s.heap.objs.size []) (t':=s.toks) (λb u q=>Å _ q) (Nat.le_of_eq<|Ż _ _) ?_;have ne:s.heap.objs.size≠s.heap.objs.size+1:=ä<|ı _;refine⟨by rw[eQ ne,eR],Ŀ _,ne,e2,λ_=>eM,(Heap.Ns1.of_empty e3).at λo q=>Å _ q,λ_=>True.intro,λy hy=>gp rfl hy⟩
def Fc{prog:ß}{w:ñ}{env:Env}{e:Expr}{ç:Pos}(hb:ĥ e f env (eval e env)=eval e env)
  (h:wpAny (Ù prog w) A (eval e env) (λo ğ=>wpAny (Ù prog w) A (getAttr o f eN) Q E ğ) E s):wpAny (Ù prog w) A (eval (.Attribute e f ç) env) Q E s :=
 Attribute_any_ h (by rw[arm_eval_Attribute,hb])
end
abbrev QL(K:Frag)(ta:TE)(f:Str):TE:=λσ H Q=>ta σ H λx H1=>∃a C dx fs v,x=.ref a/\H1 a=eL (.ins C dx fs)/\Cls K C/\NoAttr K C f/\fs.lookup f=eL v/\Q v H1
abbrev Rn(K:Frag)(ta tv:TE)(f:Str):TS:=λD σ H=>tv σ H λy H1=>ta σ H1 λx H2=>∃a C dx fs,x=.ref a/\H2 a=eL (.ins C dx fs)/\Cls K C/\NoAttr K C f/\fs.length<1000/\
 D.nx σ (upd H2 a<|.ins C dx<|fh f y fs)
abbrev Bx(X:Cx)(op:Ϝ)(rd:V->V->Hp->VK->Prop):Prop :=
 ∀(Á:List<|È×Obj) (s:Ä) (σ:St) (H:Hp) (x y:V) (u v:Â) (Q:VK),Inv X Á σ H s->RelV x u->RelV y v->rd x y H Q->wpAny (Ù X.prog X.w) X.A (inplaceOp op u v) (EP X Á σ Q) X.xe s
abbrev FV(K:Frag)(ta tv:TE)(rd:V->V->Hp->VK->Prop)(f:Str):TS:=λD σ H=>ta σ H λx H1=>∃a C dx fs v,x=.ref a/\H1 a=eL (.ins C dx fs)/\Cls K C/\NoAttr K C f/\fs.lookup f=eL v/\
 tv σ H1 λy H2=>rd v y H2 λz H3=>∃dx' dX,H3 a=eL (.ins C dx' dX)/\dX.length<1000/\D.nx σ (upd H3 a<|.ins C dx'<|fh f z dX)
section
variable {X:Cx}{o e υ:Expr}{f:Str}{ç av cL:Pos}{ta tv:TE}
def Li(he:PE X e ta)(hb:ĥ e f X.env (eval e X.env)=eval e X.env):PE X (.Attribute e f ç)<|QL X.K ta f:=by intro Á s σ H Q I h;refine Fc hb<|thn (he Á s σ H _ I h) λu s1 ⟨x,H1,I1,rx,a,C,dx,fs,v,ex,ea,c,n,l,q⟩=>?_;subst ex;obtain rfl:u=Value.ref a:=rx;exact WX I1 ea c n l λu' s2 I2 ru=>⟨v,H1,I2,ru,q⟩
def Lk(ha:PE X o ta)(hv:PE X υ tv)(hs:Ŧ υ (eL<|.Attribute o f av) ç.line X.env=pure eP):PS X (.Assign [.Attribute o f av] υ ç)<|Rn X.K ta tv f:=by intro Á s σ H D I h;refine plainObj_wpAny_Assign_Attribute (thn (hv Á s σ H _ I h) λu s1 ⟨y,H1,I1,ry,q⟩=>thn (ha Á s1 σ H1 _ I1 q) λov s2 ⟨x,H2,I2,rx,a,C,dx,fs,ex,ea,c,n,l,q2⟩=>?_) hs;subst ex;obtain rfl:ov=Value.ref a:=rx;exact W8 I2 ea c n l ry λs3 I3=>⟨σ,_,I3,q2⟩
def Ax{op:Ϝ}{rd:V->V->Hp->VK->Prop}(ha:PE X o ta)(hv:PE X υ tv)(hop:Bx X op rd):PS X (.AugAssign (.Attribute o f cL) op υ ç)<|FV X.K ta tv rd f:=by intro Á s σ H D I h;refine wpAny_AugAssign_AttributeAny<|thn (ha Á s σ H _ I h) λov s1 ⟨x,H1,I1,rx,a,C,dx,fs,v,ex,ea,c,n,l,q⟩=>?_;subst ex;obtain rfl:ov=Value.ref a:=rx;refine WX I1 ea c n l λu s2 I2 ru=>thn (hv Á s2 σ H1 _ I2 q) λw3 s3 ⟨y,H2,I3,ry,q3⟩=>thn (hop Á s3 σ H2 v y u w3 _ I3 ru ry q3) λw4 s4 ⟨z,H3,I4,rz,dx',dX,ea',l',q4⟩=>?_;exact W8 I4 ea' c n l' rz λs5 I5=>⟨σ,_,I5,q4⟩
abbrev QS:V->V->Hp->VK->Prop:=λx y H Q=>∃i j,x=.int i/\y=.int j/\Q (.int<|i+j) H
abbrev QW:V->V->Hp->VK->Prop:=λx y H Q=>∃i j,x=.int i/\y=.int j/\Q (.int<|i - j) H
def Ii:Bx X .Add QS:=by
 rintro Á s σ H x y u v Q I rx ry ⟨i,j,rfl,rfl,q⟩;obtain⟨t,rfl⟩:=(show ∃t,u=Value.int i t from rx)
 obtain⟨t',rfl⟩:=(show ∃t',v=Value.int j t' from ry)
 exact PyProof.Rows.iadd_int ⟨.int<|i+j,H,I.tok _,⟨_,rfl⟩,q⟩
def Ix:Bx X .Sub QW:=by
 rintro Á s σ H x y u v Q I rx ry ⟨i,j,rfl,rfl,q⟩;obtain⟨t,rfl⟩:=(show ∃t,u=Value.int i t from rx)
 obtain⟨t',rfl⟩:=(show ∃t',v=Value.int j t' from ry)
 exact PyProof.Rows.isub_int ⟨.int<|i - j,H,I.tok _,⟨_,rfl⟩,q⟩
end
section
variable {X:Cx}{Á:List (È×Obj)}{σ:St}{H:Hp}{s:Ä}{A:ā}{E:Â->Ä->Prop}{Q:Â->Ä->Prop}{c:Â}{b:Bool}
inductive fS (K:Frag) (H:Hp):V->Â->Prop where
 |non:fS K H .non<|.type "NoneType"
 |bl (x:Bool):fS K H (.bl x)<|.type "bool"
 |int (i:Int):fS K H (.int i)<|.type "int"
 |str (x:Str):fS K H (.str x)<|.type "str"
 |flt (x:UInt64):fS K H (.flt x)<|.type "float"
 |lst {a:È}{xs:List V}(e:H a=eL (.lst xs)):fS K H (.ref a)<|.type "list"
 |frz {a:È}{o:Obj}{xs:List V}(e:H a=eL (.frz o<|.lst xs)):fS K H (.ref a)<|.type "list"
 |tup {a:È}{xs:List V}(e:H a=eL (.tup xs)):fS K H (.ref a)<|.type "tuple"
 |dK {a:È}{kvs:List (Key×V)}(e:H a=eL (.dK kvs)):fS K H (.ref a)<|.type "dict"
 |dT {a:È}{kvs:List (List Key×V)}(e:H a=eL (.dT kvs)):fS K H (.ref a)<|.type "dict"
 |ins {a C dx:È}{fs:List (Str×V)}(e:H a=eL (.ins C dx fs)) (cl:Cls K C) (ha:PySem.W.findIn K (.ref C) "__class__" = eL (eL<|.builtin "object.__class__"))
   (hn:PySem.W.specialIn K (.builtin "object.__class__") "__get__" = eL (eL<|.builtin "getset_descriptor.__get__")) (htk:PySem.W.takesIn K (.builtin "object.__class__")=eL eN)
   (hm:PySem.W.mroIn K C (.type "object")=eL eN):fS K H (.ref a)<|.ref C
def UR{x:V}{t:Â}(I:Inv X Á σ H s)(rx:RelV x u)(ty:fS X.K H x t)(e:PySem.W.kitOne X.K t c=eL b)(h:∀tk,Q (.bool b) {s with toks:=tk}) :
  wpAny (Ù X.prog X.w) A (call (.builtin "isinstance") [u,c]) Q E s:=by
 cases ty with
 |non=>cases (show u=Value.none from rx);exact PySem.W.kia_one PySem.W.kitx_none I.kIn True.intro e (λz=>nomatch z) h
 |bl y=>cases (show u=Value.bool y from rx);exact PySem.W.kia_one PySem.W.kitx_bool I.kIn True.intro e (λz=>nomatch z) h
 |int i=>obtain⟨t,q⟩:=(show ∃t,u=Value.int i t from rx);cases q;exact PySem.W.kia_one PySem.W.kitx_int I.kIn True.intro e (λz=>nomatch z) h
 |str y=>obtain⟨t,q⟩:=(show ∃t,u=Value.str y t from rx);cases q;exact PySem.W.kia_one PySem.W.kitx_str I.kIn True.intro e (λz=>nomatch z) h
 |flt y=>obtain⟨t,q⟩:=(show ∃t,u=Value.float y t from rx);cases q;exact PySem.W.kia_one PySem.W.kitx_float I.kIn True.intro e (λz=>nomatch z) h
 |@lst a xs ea =>
  cases (show u=Value.ref a from rx);obtain⟨_,_,n,_,h1⟩:=(show eZ X.prog X.w H s.heap a (.lst xs) from I.hok a _ ea)
  exact PySem.W.kia_one PySem.W.kitx_list I.kIn ⟨_,h1,rfl⟩ e (λz=>nomatch z) h
 |@frz a ob xs ea =>
  cases (show u=Value.ref a from rx);obtain⟨_,_,_,n,_,h1⟩:=(show eZ X.prog X.w H s.heap a (.frz ob<|.lst xs) from I.hok a _ ea)
  exact PySem.W.kia_one PySem.W.kitx_list I.kIn ⟨_,h1,rfl⟩ e (λz=>nomatch z) h
 |@tup a xs ea =>
  cases (show u=Value.ref a from rx);obtain⟨_,_,_,p⟩:=(show eZ X.prog X.w H s.heap a (.tup xs) from I.hok a _ ea)
  obtain⟨o,h1,h2,_⟩:=p;exact PySem.W.kia_one PySem.W.kitx_tuple I.kIn ⟨o,h1,h2⟩ e (λz=>nomatch z) h
 |@dK a kvs ea =>
  cases (show u=Value.ref a from rx);obtain⟨_,_,vs,_,p⟩:=(show eZ X.prog X.w H s.heap a (.dK kvs) from I.hok a _ ea)
  obtain⟨o,es,ep,h1,h2,_⟩:=p;exact PySem.W.kia_one PySem.W.kitx_dict I.kIn ⟨o,h1,h2.1⟩ e (λz=>nomatch z) h
 |@dT a kvs ea =>
  cases (show u=Value.ref a from rx);obtain⟨_,_,xs,_,o,es,ep,h1,h2,_⟩:=(show eZ X.prog X.w H s.heap a (.dT kvs) from I.hok a _ ea)
  exact PySem.W.kia_one PySem.W.kitx_dict I.kIn ⟨o,h1,h2.1⟩ e (λz=>nomatch z) h
 |@ins a C dx fs ea cl ha hn htk hm =>cases (show u=Value.ref a from rx);obtain⟨mA,O,_⟩:=WA I.hok ea;obtain⟨od,J,_⟩:=O.look;exact PySem.W.kia_one (PySem.W.kitx_own (cl.get _) cl.hd ha hn htk hm) I.kIn J e (λz=>nomatch z) h
end
structure fx(k:Nat)(A:ā):Prop where
 hd:A.handled=eM
 dp:A.depth+3*k+5<recursionLimit
 un:A.units+16*k+200<Ĩ
variable {j:Nat} {A:ā}
def fx.mono{k:Nat}(r:fx k A)(h:j<=k):fx j A:=⟨r.hd,by have:=r.dp;lia,by have:=r.un;lia⟩
def fx.deeper{k:Nat}(r:fx (k+1) A)(env:Env):fx k (A.deeper env) :=
 ⟨r.hd,by have:=r.dp;show A.depth+1+3*k+5<_;lia,by have:=r.un;show A.units+3+16*k+200<_;lia⟩
def fx.in1{k:Nat}(r:fx (k+1) A):fx k A.in1 :=
 ⟨r.hd,by have:=r.dp;show A.depth+3*k+5<_;lia,by have:=r.un;show A.units+1+16*k+200<_;lia⟩
variable {C:È} {us:List Â} {kw:List (Str×Â)}
def Oo:(A.under<|.builtin "type.__call__" ⟨.ref C::us,kw⟩).depth=A.depth+1:=by
 first|rfl|simp[bI,Code.weight,Code.isCreation,Code.isGuard,Code.isCaller,Code.frames,b5,guardIds]
def Oh:(A.under<|.builtin "type.__call__" ⟨.ref C::us,kw⟩).units=A.units+1:=by
 first|rfl|simp[bI,Code.cUnits,Code.frames,b5]
def fx.make{k:Nat}(r:fx (k+1) A)(C:È)(us:List Â)(kw:List<|Str×Â):fx k (A.under<|.builtin "type.__call__" ⟨.ref C::us,kw⟩) :=
 ⟨r.hd,by have:=r.dp;rw[Oo];lia,by have:=r.un;rw[Oh];lia⟩
def fx.depth{k:Nat}(r:fx k A):A.depth<recursionLimit:=by have:=r.dp;lia
def fx.units{k:Nat}(r:fx k A):A.units+64<Ĩ:=by have:=r.un;lia
abbrev FN:TA:=λ_ H Q=>Q [] H
abbrev Gw(ta:TE)(tr:TA):TA:=λσ H Q=>ta σ H λx H1=>tr σ H1 λxs H2=>Q (x::xs) H2
section
variable {X:Cx}{e:Expr}{es:List Expr}{te:TE}{t:TA}{ç:Pos}
def fV:PA X [] FN:=λ_ _ _ _ H Q I h=>Calls.spliced_nil ⟨[],H,I,.nil,h⟩
def YD(ha:PE X e te)(hr:PA X es t)(hs:Ð (e::es) X.env=(eP,eval e X.env)::Ð es X.env:=by rfl):PA X (e::es)<|Gw te t:=by intro ç Á s σ H Q I h;rw[hs];show wpAny _ _ (spliced<|(eP,eval e X.env)::ċ ç (Ð es X.env)) _ _ s;refine Calls.spliced_cons<|thn (ha Á s σ H _ I h) λu s1 ⟨x,H1,I1,r1,q1⟩=>?_;exact thn (hr ç Á s1 σ H1 _ I1 q1) λus s2 ⟨xs,H2,I2,r2,q2⟩=>⟨x::xs,H2,I2,.cons r1 r2,q2⟩
abbrev QH(t:TA):TE:=λσ H Q=>t σ H λxs H1=>xs.length<=Ø/\∀p,H1 p=eM->Q (.ref p) (upd H1 p<|.tup xs)
abbrev Rj(t:TA):TE:=λσ H Q=>t σ H λxs H1=>xs.length<=Ø/\∀p,H1 p=eM->Q (.ref p) (upd H1 p<|.lst xs)
def G8{x1}(h:PA X es t):PE X (.Tuple es x1 ç)<|QH t:=by intro Á s σ H Q I hq;refine wpAny_Tuple_spliced (thn (h ç Á s σ H _ I hq) λus s1 ⟨xs,H1,I1,r,z,q⟩=>⟨by rw[<-r.length];exact z,?_⟩);have hf:H1 s1.heap.objs.size=eM:=I1.hok.fresh<|Ì _;refine⟨.ref s1.heap.objs.size,upd H1 s1.heap.objs.size<|.tup xs,I1.laid (t':=s1.toks) (λb u e=>Å _ e) (Ì _) ?_,rfl,q _ hf⟩;exact⟨z,us,r,⟨_,Ñ _ rfl,rfl,_,rfl⟩⟩
def Ig(h:PA X es t):PE X (.List es ç)<|Rj t:=by intro Á s σ H Q I hq;refine wpAny_List_spliced (thn (h ç Á s σ H _ I hq) λus s1 ⟨xs,H1,I1,r,z,q⟩=>⟨by rw[<-r.length];exact z,?_⟩);have hf:H1 s1.heap.objs.size=eM:=I1.hok.fresh<|Ì _;refine⟨.ref s1.heap.objs.size,upd H1 s1.heap.objs.size<|.lst xs,I1.laid (t':=s1.toks) (λb u e=>Å _ e) (Ì _) ?_,rfl,q _ hf⟩;exact⟨z,us,0,r,Ñ _ rfl⟩
end
noncomputable abbrev Sp:=List V->Hp->VK->XK->Prop
noncomputable abbrev CXT:=List Env->Hp->Ä->XK->Â->Ä->Prop
structure Env0(P:ß)(w:ñ)(K:Frag)(mg:Str->Option Â)(base:þ)(A:ā)(outer:List Env)(s:Ä)(H:Hp):Prop where
 frames:A.frames=eL outer
 mod:Mod K mg base
 bs:∀b o,base.get? b=eL o->s.heap.get? b=eL o/\H b=eM
 bsz:base.objs.size<=s.heap.objs.size
 funs:s.heap.FunFrames base outer
 frf:∀b∈frs outer,H b=eM
 hok:HOk P w H s.heap
 bare:ϐ s.gens
abbrev CE(outer:List Env)(P:ß)(w:ñ)(H:Hp)(s:Ä)(Q:VK)(u:Â)(s':Ä):Prop :=
 ∃v H',s'.os=s.os/\ϐ s'.gens/\Un (frs outer) [] H H' s.heap s'.heap/\HOk P w H' s'.heap/\RelV v u/\Q v H'
abbrev CR(CX:CXT)(outer:List Env)(P:ß)(w:ñ)(H:Hp)(s:Ä)(Q:VK)(E:XK)(r:bz)(s':Ä):Prop :=
 match r with
 |.ok (.ret u)=>CE outer P w H s Q u s'
 |.ok _=>False
 |.error e=>CX outer H s E e s'
structure fy(P:ß)(w:ñ)(K:Frag)(mg:Str->Option Â)(base:þ)(CX:CXT)(k:Nat)(f:È)(fd:Ň)(ps:List Str)(sp:Sp):Prop where
 len:∀vs H Q E,sp vs H Q E->vs.length=ps.length
 run:∀(A:ā) (outer:List Env) (s:Ä) (H:Hp) (args:Args) (us:List Â) (vs:List V) (Q:VK) (E:XK),fx k A->Env0 P w K mg base A outer s H->BindsTo s fd args (ps.zip us)->fZ vs us->sp vs H Q E->
  codeAny (Ù P w) A (.call (.ref f) args) (CR CX outer P w H s Q E) s
variable {P:ß} {w:ñ} {mg:Str->Option Â} {base:þ} {CX:CXT} {f:È} {fd:Ň} {ps:List Str} {sp:Sp}
def fy.mono{K:Frag}{k:Nat}(F:fy P w K mg base CX j f fd ps sp)(h:j<=k) :
  fy P w K mg base CX k f fd ps sp:=⟨F.len,λA outer s H args us vs Q E hr=>F.run A outer s H args us vs Q E<|hr.mono h⟩
def fy.imp{K:Frag}{k:Nat}{sp':Sp}(F:fy P w K mg base CX k f fd ps sp)
  (h:∀vs H Q E,sp' vs H Q E->sp vs H Q E):fy P w K mg base CX k f fd ps sp' :=
 ⟨λvs H Q E q=>F.len vs H Q E<|h _ _ _ _ q,λA outer s H args us vs Q E hr he hb hv hs=>F.run A outer s H args us vs Q E hr he hb hv<|h _ _ _ _ hs⟩
variable {outer:List Env} {s:Ä} {H:Hp}
def Env0.make{K:Frag}(e:Env0 P w K mg base A outer s H)(C:È)(us:List Â)(kw:List<|Str×Â) :
  Env0 P w K mg base (A.under<|.builtin "type.__call__" ⟨.ref C::us,kw⟩) outer s H:=⟨by first|exact e.frames|(simpa[bI,Code.envs,b5,pushEnvs]using e.frames),e.mod,e.bs,e.bsz,e.funs,e.frf,e.hok,e.bare⟩
def Env0.in1{K:Frag}(e:Env0 P w K mg base A outer s H) :
  Env0 P w K mg base A.in1 outer s H:=⟨e.frames,e.mod,e.bs,e.bsz,e.funs,e.frf,e.hok,e.bare⟩
section
variable {X:Cx}{Á:List (È×Obj)}{σ:St}{H:Hp}{s s':Ä}
def Inv.env0(I:Inv X Á σ H s):Env0 X.prog X.w X.K X.mg X.base X.A X.stack s H :=
 ⟨I.ok.frames,I.ok.mod,I.bs,Ô I.ok.bsz I.sz,I.stack,I.stkFree,I.hok,I.bare⟩
def Inv.after{Q:VK}{u:Â}(I:Inv X Á σ H s)(h:CE X.stack X.prog X.w H s Q u s'):EP X Á σ Q u s':=by obtain⟨v,H',os,bare,un,hok,r,q⟩:=h;obtain⟨hh,g,d,t,os'⟩:=s';obtain rfl:os'=s.os:=os;exact⟨v,H',I.call (h':=hh) (g':=g) (d':=d) (t':=t) (ch:=[]) un hok bare λb z=>gp z<|by simp,r,q⟩
end
abbrev Gp(sp:Sp)(aL:List V)(E:XK)(t:TA):TE:=λσ H Q=>t σ H λvs H1=>sp (vs++aL) H1 Q E
abbrev Gv(C:È)(m:Str)(sp:Sp)(aL:List V)(E:XK)(ta:TE)(t:TA):TE:=λσ H Q=>ta σ H λx H1=>∃a dx fs,x=.ref a/\H1 a=eL (.ins C dx fs)/\fs.lookup m=eM/\
 t σ H1 λvs H2=>sp (x::(vs++aL)) H2 Q E
abbrev Qy(C:È)(sp:Sp)(aL:List V)(E:XK)(t:TA):TE:=λσ H Q=>t σ H λvs H1=>∀x dx,H1 x=eM->H1 dx=eM->dx≠x->
 sp (.ref x::(vs++aL)) (upd (upd H1 dx<|.own x) x<|.ins C dx []) (λv H2=>v=.non/\Q (.ref x) H2) E
abbrev Binds(K:Frag)(fd:Ň)(ps:List Str)(ds:List Â):Prop :=
 ∀(s:Ä) (us:List Â),K.In s.heap->(us++ds).length=ps.length->BindsTo s fd ⟨us,[]⟩ (ps.zip<|us++ds)
def Binds.all{K:Frag}(h:∀us:List Â,us.length=ps.length->bindArgs fd ⟨us,[]⟩=pure (ps.zip us)):Binds K fd ps []:=λs us _ hl=>by rw[õ]at hl ⊢;exact .of_eq (h us hl)
abbrev Y3(CX:CXT)(X:Cx)(E:XK):Prop:=∀(Á:List<|È×Obj) (σ:St) (H:Hp) (s:Ä) (e:Â) (s':Ä),Inv X Á σ H s->CX X.stack H s E e s'->X.xe e s'
section
variable {X:Cx}{CX:CXT}{k:Nat}{f C:È}{fd:Ň}{ps:List Str}{sp:Sp}{aL:List V}{ds:List Â}{E:XK}{x m:Str}{p ç Ń:Pos}{e o:Expr}{es:List Expr}{ta:TE}{t:TA}
variable {Á:List (È×Obj)} {σ:St} {Q:VK} {vs:List V}
def Mm(F:fy X.prog X.w X.K X.mg X.base CX k f fd ps sp)(hr:fx k X.A)(hb:Binds X.K fd ps ds)(hd:fZ aL ds)(hx:Y3 CX X E)
  (I:Inv X Á σ H s) (r:fZ vs us) (h:sp (vs++aL) H Q E):wpAny (Ù X.prog X.w) X.A (call (.ref f) us) (EP X Á σ Q) X.xe s:=by
 have r2:fZ (vs++aL)<|us++ds:=r.append hd;have hl:(us++ds).length=ps.length:=by rw[<-r2.length];exact F.len _ _ _ _ h
 refine aE<|š (F.run X.A X.stack s H ⟨us,[]⟩ (us++ds) (vs++aL) Q E hr I.env0 (hb s us I.kIn hl) r2 h) λr s' hq=>?_;cases r with
 |error e=>exact hx Á σ H s e s' I hq
 |ok fl =>
  cases fl with
  |ret u=>exact I.after hq
  |next=>exact ø hq
  |brk=>exact ø hq
  |cont=>exact ø hq
def Eg(F:fy X.prog X.w X.K X.mg X.base CX k f fd ps sp)(hr:fx k X.A)(hg:Gl X x)(hm:X.mg x=eL (.ref f))(hk:PySem.W.keepIn X.K (.ref f)=eN)(hb:Binds X.K fd ps ds)(hd:fZ aL ds)(hx:Y3 CX X E)
  (ha:PA X (e::es) t) (ϫ:(x==("__debug__" : Str))=eP:=by decide) (he:Ð (e::es) X.env=(eP,eval e X.env)::Ð es X.env:=by rfl) (hpl:(ċ ç<|Ð es X.env).any (·.1)=eP:=by rfl) :
  PE X (.Call (.Name x p) (e::es) [] ç) (Gp sp aL E t):=by
 intro Á s σ H Q I h;refine Ğ<|Yj I hg hm ?_ ϫ;refine PySem.W.callWith_K (h₀:=X.base) I.ok.mod.kin hk (thn (ha ç Á s σ H _ I h) λus s1 ⟨vs,H1,I1,r,q⟩=>⟨I1.kIn,?_⟩) he hpl;exact Mm F hr hb hd hx I1 r q
def AU(F:fy X.prog X.w X.K X.mg X.base CX k f fd ps sp)(hr:fx k X.A)(hg:Gl X x)(hm:X.mg x=eL (.ref f))(hk:PySem.W.keepIn X.K (.ref f)=eN)(hb:Binds X.K fd ps ds)(hd:fZ aL ds)(hx:Y3 CX X E)
  (ϫ:(x==("__debug__" : Str))=eP:=by decide):PE X (.Call (.Name x p) [] [] ç)<|Gp sp aL E FN:=by
 intro Á s σ H Q I h;refine Ğ<|Yj I hg hm ?_ ϫ;exact PySem.W.callWith_K0 I.kIn hk<|Mm (us:=[]) F hr hb hd hx I .nil h
variable {pl:Sem Bool}
def D3(he:PE X o ta)(c:Cls X.K C)(hm:Meth X.K C m f)(F:fy X.prog X.w X.K X.mg X.base CX k f fd ps sp)(hr:fx k X.A)(hb:Binds X.K fd ps ds)(hd:fZ aL ds)(hx:Y3 CX X E)(ha:PA X (e::es) t)
  (ů:Ð (e::es) X.env=(eP,eval e X.env)::Ð es X.env:=by rfl) (hpl:(ċ ç<|Ð es X.env).any (·.1)=eP:=by rfl)
  (ht:eval (.Call (.Attribute o m Ń) (e::es) [] ç) X.env=(do
    let ov<-eval o X.env
    χ Ń.atName
    let (f,first)<-ŋ [ov] (ρ ov m pl)
    Ϲ ç f first (ċ ç<|Ð (e::es) X.env) (Ů ç<|ĸ [] X.env)):=by rfl) :
  PE X (.Call (.Attribute o m Ń) (e::es) [] ç) (Gv C m sp aL E ta t):=by
 intro Á s σ H Q I h;refine PySem.W.methodCall_KW (pl:=pl) (thn (he Á s σ H _ I h) λu s1 ⟨x,H1,I1,rx,a,dx,fs,ex,ea,l,q⟩=>?_) ht;subst ex;obtain rfl:u=Value.ref a:=rx;refine Xy I1 ea c hm l ?_;refine PySem.W.callWith_K (first:=[.ref a]) (h₀:=X.base) I.ok.mod.kin hm.kp (thn (ha ç Á s1 σ H1 _ I1 q) λus s2 ⟨vs,H2,I2,r,q2⟩=>⟨I2.kIn,?_⟩) ů hpl;exact Mm (us:=.ref a::us) (vs:=.ref a::vs) F hr hb hd hx I2 (.cons rfl r) q2
def C9(he:PE X o ta)(c:Cls X.K C)(hm:Meth X.K C m f)(F:fy X.prog X.w X.K X.mg X.base CX k f fd ps sp)(hr:fx k X.A)(hb:Binds X.K fd ps ds)(hd:fZ aL ds)(hx:Y3 CX X E)
  (ht:eval (.Call (.Attribute o m Ń) [] [] ç) X.env=(do
    let ov<-eval o X.env
    χ Ń.atName
    let (f,first)<-ŋ [ov] (ρ ov m pl)
    Ϲ ç f first (ċ ç<|Ð [] X.env) (Ů ç<|ĸ [] X.env)):=by rfl) :
  PE X (.Call (.Attribute o m Ń) [] [] ç) (Gv C m sp aL E ta FN):=by
 intro Á s σ H Q I h;refine PySem.W.methodCall_KW (pl:=pl) (thn (he Á s σ H _ I h) λu s1 ⟨x,H1,I1,rx,a,dx,fs,ex,ea,l,q⟩=>?_) ht;subst ex;obtain rfl:u=Value.ref a:=rx;refine Xy I1 ea c hm l ?_;exact PySem.W.callWith_K0 (first:=[.ref a]) I1.kIn hm.kp<|Mm (us:=[.ref a]) (vs:=[.ref a]) F hr hb hd hx I1 (.cons rfl .nil) q
structure Mk(K:Frag)(C f:È):Prop where
 makes:PySem.W.makesIn K C=eN
 init:PySem.W.findIn K (.ref C) "__init__" = eL (eL<|.ref f)
 fn:PySem.W.isFn K (.ref f)=eN
 kp:PySem.W.keepIn K (.ref C)=eN
def BC(M:Mk X.K C f)(F:fy X.prog X.w X.K X.mg X.base CX k f fd ps sp)(hr:fx (k+1) X.A)(hb:Binds X.K fd ps ds)(hd:fZ aL ds)
  (hx:Y3 CX X E) (I:Inv X Á σ H s) (r:fZ vs us)
  (h:∀x dx,H x=eM->H dx=eM->dx≠x->sp (.ref x::(vs++aL)) (upd (upd H dx<|.own x) x<|.ins C dx []) (λv H2=>v=.non/\Q (.ref x) H2) E) :
  wpAny (Ù X.prog X.w) X.A (call (.ref C) us) (EP X Á σ Q) X.xe s:=by
 have hq:=h (s.heap.objs.size+1) s.heap.objs.size (I.hok.fresh<|ŀ _) (I.hok.fresh<|Ì _)<|ä<|ı _;have I2:=Inv.made (C:=C) I;have r2:fZ (V.ref (s.heap.objs.size+1)::(vs++aL))<|Value.ref (s.heap.objs.size+1)::(us++ds):=.cons rfl<|r.append hd;have hl:(Value.ref (s.heap.objs.size+1)::us++ds).length=ps.length:=by have e:=r2.length;rw[F.len _ _ _ _ hq]at e;exact e.symm
 refine aE (Bc (f:=f) I.kIn M.makes M.init (beq_iff_eq.mp M.fn) (š (F.run _ X.stack _ _ ⟨Value.ref (s.heap.objs.size+1)::us,[]⟩ (Value.ref (s.heap.objs.size+1)::(us++ds)) _ _ E (hr.make C us [])
   (I2.env0.make C us []) (hb _ (Value.ref (s.heap.objs.size+1)::us) I2.kIn hl) r2 hq) λr s' hq'=>?_))
 cases r with
 |error e=>exact hx Á σ _ _ e s' I2 hq'
 |ok fl =>
  cases fl with
  |ret u =>obtain⟨v,H',I3,rv,ev,q3⟩:=I2.after hq';subst ev;exact⟨rv,⟨V.ref<|s.heap.objs.size+1,H',I3,rfl,q3⟩⟩
  |next=>exact ø hq'
  |brk=>exact ø hq'
  |cont=>exact ø hq'
def FL(M:Mk X.K C f)(F:fy X.prog X.w X.K X.mg X.base CX k f fd ps sp)(hr:fx (k+1) X.A)(hg:Gl X x)(hm:X.mg x=eL (.ref C))(hb:Binds X.K fd ps ds)(hd:fZ aL ds)(hx:Y3 CX X E)
  (ha:PA X (e::es) t) (ϫ:(x==("__debug__" : Str))=eP:=by decide) (he:Ð (e::es) X.env=(eP,eval e X.env)::Ð es X.env:=by rfl) (hpl:(ċ ç<|Ð es X.env).any (·.1)=eP:=by rfl) :
  PE X (.Call (.Name x p) (e::es) [] ç) (Qy C sp aL E t):=by
 intro Á s σ H Q I h;refine Ğ<|Yj I hg hm ?_ ϫ;refine PySem.W.callWith_K (h₀:=X.base) I.ok.mod.kin M.kp (thn (ha ç Á s σ H _ I h) λus s1 ⟨vs,H1,I1,r,q⟩=>⟨I1.kIn,?_⟩) he hpl;exact BC M F hr hb hd hx I1 r q
end
structure FnScope(N P:List Str)(sc:ν):Prop where
 kind:sc.kind=.function
 co:sc.isCoroutine=eP
 gen:sc.isGenerator=eP
 nd:N.Nodup
 pre:N.take P.length=P
 par:∀x∈P,sc.names.lookup x=eL .local\/sc.names.lookup x=eL .cell
 nofree:∀y∈sc.names,y.2≠.free
def Ki{Ζ:Str->Option ϝ}{x:Str}:∀{binds:List (Str×Â)}{m:Str->Option Â},(∀v,(x,v)∉binds)->bindL Ζ binds m x=m x
 |[],_,_=>rfl
 |(n,v)::r,m,h=>by
  unfold bindL;rw[Ki λw hw=>h w<|Ú _ hw];split
  .have:x≠n:=by rintro rfl;exact h v è
   simp[this]
  .rfl
def KC{Ζ:Str->Option ϝ}{x:Str}:∀{binds:List (Str×Â)}{m:Str->Option Â},(∀v,(x,v)∉binds)->dJ Ζ binds m x=m x
 |[],_,_=>rfl
 |(n,v)::r,m,h=>by
  unfold dJ;rw[KC λw hw=>h w<|Ú _ hw];split
  .rfl
  .have:x≠n:=by rintro rfl;exact h v è
   simp[this]
def Kl{Ζ:Str->Option ϝ}{x:Str}{v:Â}:∀{P:List Str}{vs:List Â}{i:Nat}{m:Str->Option Â},P.Nodup->P[i]?=eL x->vs[i]?=eL v->Ζ x=eL .local->
  bindL Ζ (P.zip vs) m x=eL v
 |[],_,_,_,_,h,_,_=>by simp at h
 |_::_,[],_,_,_,_,h,_=>by simp at h
 |p::P,w::vs,0,m,nd,h1,h2,hk=>by simp at h1 h2;subst h1;subst h2;show bindL Ζ ((p,w)::P.zip vs) m p=_;unfold bindL;rw[Ki λv hv=>(Ă.mp nd).1 (aS hv).1,gg hk];simp
 |p::P,w::vs,i+1,m,nd,h1,h2,hk=>by show bindL Ζ ((p,w)::P.zip vs) m x=_;unfold bindL;exact Kl (i:=i) (Ă.mp nd).2 (by simpa using h1) (by simpa using h2) hk
def KI{Ζ:Str->Option ϝ}{x:Str}{v:Â}:∀{P:List Str}{vs:List Â}{i:Nat}{m:Str->Option Â},P.Nodup->P[i]?=eL x->vs[i]?=eL v->Ζ x≠eL .local->
  dJ Ζ (P.zip vs) m x=eL v
 |[],_,_,_,_,h,_,_=>by simp at h
 |_::_,[],_,_,_,_,h,_=>by simp at h
 |p::P,w::vs,0,m,nd,h1,h2,hk=>by simp at h1 h2;subst h1;subst h2;show dJ Ζ ((p,w)::P.zip vs) m p=_;unfold dJ;rw[KC λv hv=>(Ă.mp nd).1 (aS hv).1,gh hk];simp
 |p::P,w::vs,i+1,m,nd,h1,h2,hk=>by show dJ Ζ ((p,w)::P.zip vs) m x=_;unfold dJ;exact KI (i:=i) (Ă.mp nd).2 (by simpa using h1) (by simpa using h2) hk
abbrev start(N:List Str)(vs:List V):St:=vs.map eL++Ö (N.length - vs.length) eM
abbrev JR(CX:CXT)(P:ß)(w:ñ)(K:Frag)(mg:Str->Option Â)(base:þ)(N:List Str)(qual:Str)(scope:ν)(f:È)(cd:Â)(A:ā)(outer:List Env)(s:Ä)(H:Hp)(E:XK):Cx where
 prog:=P
 w:=w
 K:=K
 mg:=mg
 base:=base
 A:=A.deeper<|Ϻ qual scope s.heap.objs.size f cd
 N:=N
 s₀:=s
 H₀:=H
 env:=Ϻ qual scope s.heap.objs.size f cd
 outer:=outer
 stack:=Ϻ qual scope s.heap.objs.size f cd::outer
 ex:=[]
 calm:=eN
 fn:=λ_=>eN
 pn:=[]
 xe:=λe s'=>wpAny (Ù P w) (A.deeper<|Ϻ qual scope s.heap.objs.size f cd) (leaving (Ϻ qual scope s.heap.objs.size f cd) e) (λ_ s''=>CX outer H s E e s'') (λe' s''=>CX outer H s E e' s'') s'
def Nd{sc:ν}{n:Nat}{x:Str}(h:sc.names.lookup x=eL .cell):∃c,(cellsFrom n sc.names []).lookup x=eL c:=by have q:=PySem.W.cellsFrom_some sc.names n []<|.inl h;exact ī.mp q
variable {N:List Str} {qual:Str} {scope:ν}
def AM{K:Frag}{cd:Â}{s1:Ä}{E:XK}{vs:List V}
  (S:FnScope N ps scope) (hd:A.handled=eM) (e0:Env0 P w K mg base A outer s H) (hl:vs.length=ps.length) (r:fZ vs us)
  (x:InCallC s s.heap.objs.size (bindL (Ϻ qual scope s.heap.objs.size f cd).kindOf (ps.zip us) λ_=>eM) (cellsFrom (s.heap.objs.size+1) scope.names []) (dJ (Ϻ qual scope s.heap.objs.size f cd).kindOf (ps.zip us) λ_=>eM) s1) :
  Inv (JR CX P w K mg base N qual scope f cd A outer s H E) [] (start N vs) H s1:=by
 have hpl:ps.length<=N.length:=by have:=congrArg List.length S.pre;rw[ă]at this;lia
 obtain⟨h1,tk,rfl,hk⟩:=x.done;have noA:∀b:È,b∉(JR CX P w K mg base N qual scope f cd A outer s H E).ex:=λb z=>gp (show b∈([]:List È) from z) (by simp);refine⟨⟨e0.mod,S.kind,rfl,rfl,Ì _,λy z c h1 h2=>?_,λy hy=>?_,λy c _ h=>?_,λ_=>hd,Around.frames_deeper e0.frames,.inr ⟨rfl,rfl⟩,λb z=>gp z<|noA b,e0.bs,e0.bsz,λb _ _=>noA b,λb z=>gp z<|noA b,e0.funs,e0.frf⟩,
   rfl,e0.bare,Un.kept hk,⟨_,x.toInCall.ns,λi y v h1 h2 h3=>?_⟩,λy c h=>⟨_,x.cell y c h⟩,e0.hok.fresh<|Ì _,λy c h=>?_,λp hp=>gp (show p∈([]:List<|È×Obj) from hp) (by simp),e0.hok.kept hk,?_⟩
 .exact name_of_addr x.apart (PySem.mem_of_lookup h1)<|PySem.mem_of_lookup h2
 .have hy:scope.names.lookup y=eL .cell\/scope.names.lookup y=eL .free:=hy;rcases hy with hy|hy
  .exact Nd hy
  .exact gp rfl<|S.nofree _<|PySem.mem_of_lookup hy
 .exact ψ<|x.above y c<|PySem.mem_of_lookup h
 .have hi:i<vs.length:=by
   unfold start at h2;by_cases hi:i<vs.length
   .exact hi
   .rw[đ<|by simpa using hi]at h2;rw[Ő]at h2;split at h2<;>cases h2
  have ha:vs[i]?=eL v:=by
   unfold start at h2;rw[ĉ (by simpa using hi),Ý]at h2;cases e:vs[i]? with
   |none=>rw[e]at h2;cases h2
   |some a=>rw[e]at h2;cases h2;rfl
  obtain⟨u,hu,rv⟩:=r.get ha;have hp:ps[i]?=eL y:=by rw[<-S.pre,List.getElem?_take_of_lt<|by lia];exact h1
  have ndP:ps.Nodup:=by rw[<-S.pre];exact S.nd.sublist<|List.take_sublist _ _
  refine⟨u,rv,?_⟩;rcases S.par y (ó hp)with k|k
  .exact .inl ⟨k,Kl ndP hp hu k⟩
  .obtain⟨c,e⟩:=Nd (n:=s.heap.objs.size+1) k;refine .inr ⟨.inl k,c,e,?_⟩;have q:=x.cell y c e;rw[KI ndP hp hu<|by show scope.names.lookup y≠_;rw[k];decide]at q;exact q
 .exact e0.hok.fresh<|ψ<|x.above y c<|PySem.mem_of_lookup h
 .unfold start;show _=N.length;rw[î,Ã,ð];lia
def Gn{K:Frag}{k:Nat}{name:Str}{params:Arguments}{body:List ħ}{dV kV doc pm ϕ ct oc:Â}{an od:Option È}
  {osl:Array (Option Â)}   (lk:K.lookup f=eL ⟨oc,od,.func<|PySem.W.fnOf name qual params body scope dV kV doc pm an ϕ ct,osl⟩) (bo:PySem.W.codeIn K ϕ qual=eN) (S:FnScope N ps scope)
  (len:∀vs H Q E,sp vs H Q E->vs.length=ps.length)
  (bX:∀(A:ā) (outer:List Env) (s:Ä) (H:Hp) (vs:List V) (Q:VK) (E:XK),fx k (A.deeper<|Ϻ qual scope s.heap.objs.size f ϕ)->sp vs H Q E->
    ∃t,PSs (JR CX P w K mg base N qual scope f ϕ A outer s H E) body t/\t { nx:=λ_ H'=>Q .non H',rt:=Q } (start N vs) H) :
  fy P w K mg base CX (k+1) f (PySem.W.fnOf name qual params body scope dV kV doc pm an ϕ ct) ps sp:=by
 refine⟨len,λA outer s H args us vs Q E hr e0 hb r dZ=>?_⟩;have hl:=len _ _ _ _ dZ;have KX:K.In s.heap:=e0.mod.kin.keeps λb o e=>(e0.bs b o e).1;have lim:s.heap.NoLimit:=e0.mod.nolimit.keeps λb o e=>(e0.bs b o e).1;have hkind:∀y∈ps.zip us,scope.names.lookup y.1=eL .local\/(scope.names.lookup y.1=eL .cell/\((cellsFrom (s.heap.objs.size+1) scope.names []).lookup y.1).isSome=eN):=λ⟨n,v⟩ hy=>by
  rcases S.par n (aS hy).1 with q|q
  .exact .inl q
  .exact .inr ⟨q,PySem.W.cellsFrom_some _ _ _<|.inl q⟩
 refine codeAny_call_function hr.depth (KX _ _ lk) rfl S.co S.gen rfl (PySem.W.codeRec_of KX bo)<|hb _ _ _ _ ?_;refine wpAny_newFunctionEnv_cells S.kind hkind λenv he s1 x=>?_;subst he;refine⟨lim.keeps x.toInCall.keep,codeAny_func ?_⟩;obtain⟨t,ht,hq⟩:=bX A outer s H vs Q E (hr.deeper _) dZ;have I:Inv (JR CX P w K mg base N qual scope f ϕ A outer s H E) [] (start N vs) H s1:=AM S hr.hd e0 hl r x;refine Ā (ht [] s1 (start N vs) H _ I hq) (λfl s' hs=>?_) λe s' hs=>hs;have fin:∀{Ś:St}{H':Hp}{v:V}{u:Â},Inv (JR CX P w K mg base N qual scope f ϕ A outer s H E) [] Ś H' s'->RelV v u->Q v H'->CE outer P w H s Q u s' :=
  λ{Ś H' v u} J rv q=>⟨v,H',J.os,J.bare,J.base,J.hok,rv,q⟩
 cases fl with
 |ret u =>obtain⟨v,Ś,H',J,rv,q⟩:=hs;exact fin J rv q
 |next =>obtain⟨Ś,H',J,q⟩:=hs;exact fin (v:=V.non) (u:=Value.none) J rfl q
 |brk =>obtain⟨_,_,_,q⟩:=hs;exact ø q
 |cont =>obtain⟨_,_,_,q⟩:=hs;exact ø q
section
variable {X:Cx}{x:Str}{p ç:Pos}{e:Expr}{es:List Expr}{t:TA}{id T:String}{r:List V->Hp->VK->Prop}
abbrev tCB(r:List V->Hp->VK->Prop)(t:TA):TE:=λσ H Q=>t σ H λvs H1=>r vs H1 Q
def XG(hc:eY X (.builtin id) r)(hg:Gl X x)(hm:X.mg x=eM)(hv:Ű x=eL (.builtin id))(ha:PA X (e::es) t)(hn:x≠"__name__":=by decide)(ϫ:(x==("__debug__" : Str))=eP:=by decide)
  (he:Ð (e::es) X.env=(eP,eval e X.env)::Ð es X.env:=by rfl) (hpl:(ċ ç<|Ð es X.env).any (·.1)=eP:=by rfl):PE X (.Call (.Name x p) (e::es) [] ç)<|tCB r t:=by
 intro Á s σ H Q I h;refine Ğ<|YW I hg hm hv ?_ hn ϫ;exact PyProof.Rows.callWith_builtin1 (thn (ha ç Á s σ H _ I h) λus s1 ⟨vs,H1,I1,r1,q1⟩=>hc Á s1 σ H1 vs us Q I1 r1 q1) he hpl
def KG(hc:eY X (.type T) r)(hg:Gl X x)(hm:X.mg x=eM)(hv:Ű x=eL (.type T))(ha:PA X (e::es) t)(hn:x≠"__name__":=by decide)(ϫ:(x==("__debug__" : Str))=eP:=by decide)
  (he:Ð (e::es) X.env=(eP,eval e X.env)::Ð es X.env:=by rfl) (hpl:(ċ ç<|Ð es X.env).any (·.1)=eP:=by rfl):PE X (.Call (.Name x p) (e::es) [] ç)<|tCB r t:=by
 intro Á s σ H Q I h;refine Ğ<|YW I hg hm hv ?_ hn ϫ;exact PyProof.Rows.callWith_type1 (thn (ha ç Á s σ H _ I h) λus s1 ⟨vs,H1,I1,r1,q1⟩=>hc Á s1 σ H1 vs us Q I1 r1 q1) he hpl
end
end L2
namespace HT
open PySem PyProof.Rows
abbrev lexLt:List Int->List Int->Bool
 |[],[]=>eP
 |[],_::_=>eN
 |_::_,[]=>eP
 |x::xs,y::ys=>if x=y then lexLt xs ys else gq (x<y)
def lexLt_cons(x y:Int)(xs ys:List Int):lexLt (x::xs) (y::ys)=if x=y then lexLt xs ys else gq (x<y):=rfl
def J0:lexLt [] []=eP:=rfl
def Jc(y:Int)(ys:List Int):lexLt [] (y::ys)=eN:=rfl
def Ji(x:Int)(xs:List Int):lexLt (x::xs) []=eP:=rfl
def eqAt_int(A:ā)(s:Ä)(a:Int)(t:Tok)(c:Int)(u:Tok):∃e,SeqAt.EqAt A s (.int a t) (.int c u) e/\(e=eN↔a=c) :=
 ⟨(a==c),SeqAt.EqAt.int_int a t c u,by simp⟩
def CQ(A:ā)(s:Ä)(a:Int)(t:Tok)(c:Int)(u:Tok)(prog:ß)(w:ñ)(E:Â->Ä->Prop)(Q:Â->Ä->Prop)(h:Q (.bool<|gq (a<c)) s) :
  wpAny (Ù prog w) A (richCompare .Lt (.int a t)<|.int c u) Q E s :=
 (PyProof.Rows.lt_int h:wpAny (Ù prog w) A (ë .Lt (.int a t)<|.int c u) Q E s)
section
open PySem.SeqAt
open PySem.AutoSeq1 (wpAny_loadPart')
open PySem.MeetsSeq PySem.MeetsSeq2 PySem.MeetsSeq3
def J4(l b:È)(items ŉ:Array Â)(n n2:Nat)(dd cZ:Option È)(sl d0:Array<|Option Â)(ns ms:List Int)(hi:ù items.toList ns)(hj:ù ŉ.toList ms) :
  Meets (Builtin.«tuple.__lt__» ⟨[.ref l,.ref b],[]⟩)
   (λ_ R s=>s.heap.get? l=eL { cls:=.type "tuple",dict:=dd,data:=.seq items n,slots:=sl }/\s.heap.get? b=eL { cls:=.type "tuple",dict:=cZ,data:=.seq ŉ n2,slots:=d0 }/\
     R (.ok<|.ret<|.bool<|lexLt ns ms) s) :=
 .of_wp λprog w A R s h=>by
  obtain⟨hp,g,d,tk,os⟩:=s;obtain⟨hl,hb,h⟩:=h;have f2:=AutoSeq1.sub_tuple_tuple;have z1:items.size=ns.length:=by rw[<-hi.length];simp
  have z2:ŉ.size=ms.length:=by rw[<-hj.length];simp
  wp_walk using Ĝ hl,Ĝ hb,wpAny_forIn_list _ (λrest b s'=>b.1=eM/\s'=⟨hp,g,d,tk,os⟩/\∃(vs ws:List Â) (cg dA:List Int),rest=vs.zip ws/\
    ù vs cg/\ù ws dA/\cg.length+ŉ.size=dA.length+items.size/\R (.ok<|.ret<|.bool<|lexLt cg dA) ⟨hp,g,d,tk,os⟩) _
  case turn =>
   rintro⟨y,x⟩ rest b s' ⟨aU,rfl,vs,ws,cg,dA,hz,hvi,hwi,Ē,hR⟩;cases hvi with
   |nil=>rw[Ο]at hz;cases hz
   |cons a t hvi' =>
    cases hwi with
    |nil=>rw[Γ]at hz;cases hz
    |cons c u hwi' =>
     rw[œ]at hz;injection hz with hyx hrest;injection hyx with hy hx;subst hy hx;rw[lexLt_cons]at hR;simp only[Ë]at Ē;obtain⟨e,he,hiff⟩:=eqAt_int A.in1 ⟨hp,g,d,tk,os⟩ a t c u;refine À<|he prog w _ _ ?_;cases e with
     |true =>
      rw[gg<|hiff.mp rfl]at hR
      wp_walk
      exact⟨rfl,rfl,_,_,_,_,hrest,hvi',hwi',by lia,hR⟩
     |false =>
      rw[gh λq=>gp (hiff.mpr q) ü]at hR;have hri:=CQ A.in1 ⟨hp,g,d,tk,os⟩ a t c u prog w
      wp_walk using hri
      exact⟨_,rfl,by simpa using hR⟩
  case fin =>
   rintro⟨b1,b2⟩ s' ⟨aU,rfl,vs,ws,cg,dA,hz,hvi,hwi,Ē,hR⟩;simp only at aU;subst aU;have hv:lexLt cg dA=gq (items.size<ŉ.size):=by
    cases hvi with
    |nil =>
     cases hwi with
     |nil =>simp only[Ę]at Ē;rw[J0];exact(gj<|by lia).symm
     |cons c u hw =>simp only[Ę,Ë]at Ē;rw[Jc];exact(gk<|by lia).symm
    |cons a t hv =>
     cases hwi with
     |nil =>simp only[Ę,Ë]at Ē;rw[Ji];exact(gj<|by lia).symm
     |cons c u hw =>rw[œ]at hz;cases hz
   rw[hv]at hR
   wp_walk
   exact⟨_,rfl,by simpa[Builtin.Tuple.tupleCompareSizes]using hR⟩
  case h =>exact⟨rfl,rfl,items.toList,ŉ.toList,ns,ms,rfl,hi,hj,by lia,h⟩
end
section
variable {prog:ß}{w:ñ}{A:ā}{E:Â->Ä->Prop}{s:Ä}
variable {b:È} {items:Array Â} {Q:Â->Ä->Prop}
def lt_tupInts{l:È}{ŉ:Array Â}{ns ms:List Int}(hl:ay s.heap l items)(hb:ay s.heap b ŉ)(hi:ù items.toList ns)(hj:ù ŉ.toList ms)
  (hu:A.units<Ĩ) (h:Q (.bool<|lexLt ns ms) s):wpAny (Ù prog w) A (ë .Lt (.ref l)<|.ref b) Q E s:=by
 obtain⟨⟨cls,dd,data,sl⟩,ho,hc,n,hd⟩:=id hl;obtain⟨⟨cls2,cZ,data2,d0⟩,ho2,hc2,n2,cM⟩:=id hb;simp only at hc hd hc2 cM;subst hc hd hc2 cM;exact d9 (op:=.Lt) ⟨_,ho,rfl⟩ ⟨_,ho2,rfl⟩ PySem.F.slot_tuple_lt PySem.F.entry_tuple_lt (PySem.F.args_tuple_lt_2 _ _) (J4 l b items ŉ n n2 dd cZ sl d0 ns ms hi hj)
  ⟨ho,ho2,show Value.bool (lexLt ns ms)≠cu/\Q (.bool<|lexLt ns ms) s from ⟨(λx=>nomatch x),h⟩⟩ hu
def cat_tup{t:È}{vs ws:List Â}(ht:ay s.heap t vs.toArray)(hb:ay s.heap b ws.toArray)(hv:vs≠[])
  (h1:ws=[]->Q (.ref t) s) (h2:ws≠[]->Q (.ref s.heap.objs.size) {s with heap:=s.heap.push {cls:=.type "tuple",data:=.seq (vs++ws).toArray}})
  (hsz:vs.length+ws.length<=Ø):wpAny (Ù prog w) A (ŏ .Add (.ref t)<|.ref b) Q E s:=by
 obtain⟨⟨cls,dd,data,sl⟩,ho,hc,n,hd⟩:=id ht;obtain⟨⟨cls2,cZ,data2,d0⟩,ho2,hc2,n2,cM⟩:=id hb;simp only at hc hd hc2 cM;subst hc hd hc2 cM;have e:vs.toArray++ws.toArray=(vs++ws).toArray:=by simp
 by_cases hw:ws=[]
 .exact ee ⟨_,ho,rfl⟩ ⟨_,ho2,rfl⟩ bA dk PySem.F.slot_tuple_add PySem.F.entry_tuple_add (PySem.F.args_tuple_add_2 _ _)
   (tuple_addW1 t b vs.toArray ws.toArray n n2 dd cZ sl d0 (by simpa using hv)<|by simp[hw]) ⟨ho,ho2,h1 hw⟩
 .refine ee ⟨_,ho,rfl⟩ ⟨_,ho2,rfl⟩ bA dk PySem.F.slot_tuple_add PySem.F.entry_tuple_add (PySem.F.args_tuple_add_2 _ _)
   (tuple_addW2 t b vs.toArray ws.toArray n n2 dd cZ sl d0 (by simpa using hv) (by simpa using hw)<|by rw[Î,Î];exact hsz) ⟨ho,ho2,?_⟩
  rw[e];exact h2 hw
abbrev sIx(n d:Nat):Option Int->Nat
 |none=>d
 |some v=>if v<0 then(v+(n:Int)).toNat else min v.toNat n
def IA(n d:Nat)(hd:d<=n)(o:Option Int):sIx n d o<=n:=by
 cases o with
 |none=>exact hd
 |some v =>
  show(if v<0 then(v+(n:Int)).toNat else min v.toNat n)<=n;by_cases hv:v<0
  .rw[gg hv];lia
  .rw[gh hv];exact aF _ _
def clip_eq(v:Int)(n d:Nat):(if v<0 then max (v+(n:Int)) 0 else min v (n:Int))=((sIx n d (eL v):Nat):Int):=by
 show(if v<0 then max (v+(n:Int)) 0 else min v (n:Int))=(((if v<0 then(v+(n:Int)).toNat else min v.toNat n):Nat):Int)
 by_cases hv:v<0
 .simp only[gg hv];lia
 .simp only[gh hv];lia
def Ot(lo hi:Option Int)(n:Nat):Builtin.Slice.sliceAdjust lo hi 1 (n:Int)=(((sIx n 0 lo:Nat):Int),((sIx n n hi:Nat):Int)):=by
 have h1:¬ ((1:Int)<0):=by lia
 unfold Builtin.Slice.sliceAdjust;simp only[h1,if_false];refine Prod.ext ?_ ?_
 .cases lo with
  |none=>rfl
  |some v=>exact clip_eq v n 0
 .cases hi with
  |none=>rfl
  |some v=>exact clip_eq v n n
def NR(i j:Nat):Builtin.Slice.slicePlaces (i:Int) (j:Int) 1=j - i:=by
 unfold Builtin.Slice.slicePlaces;have h1:(1:Int) > 0:=by lia
 simp only[h1,if_true,Int.ediv_one];split<;>lia
def Jw{v:Â}{o:Option Int}{Q:Option Int->Ä->Prop}(p:Ϧ v o)(h:Q o s):wpAny (Ù prog w) A (Builtin.Slice.slicePartIndex v) Q E s:=by
 cases p with
 |none=>exact slicePart_none h
 |int i t=>exact slicePart_int h
variable {sl:È} {vl:Â} {vu:Â} {lo:Option Int} {hi:Option Int}
def Yr{n:Nat}{Q:Int×Int×Nat->Ä->Prop}(hs:s.heap.IsSliceOf sl vl vu .none)(pl:Ϧ vl lo)(pu:Ϧ vu hi)
  (h:Q (((sIx n 0 lo:Nat):Int),1,sIx n n hi - sIx n 0 lo) s):wpAny (Ù prog w) A (Builtin.Slice.sliceApplied (.ref sl)<|pure (n:Int)) Q E s:=by
 obtain⟨os,hos,hcs,hds⟩:=id hs;unfold Builtin.Slice.sliceApplied Builtin.Slice.sliceFields;refine À<|À<|Ĭ hos hds (x:=vl) rfl<|À<|Ĭ hos hds (x:=vu) rfl<|À<|Ĭ hos hds (x:=.none) rfl<|Ç ?_;refine À<|slicePart_none ?_;show wpAny _ _ (if((1:Int)==0)=eN then _ else _) _ _ s;rw[gh<|by decide];refine À<|Jw pl<|À<|Jw pu<|À<|Ç ?_;show wpAny _ _ (match Builtin.Slice.sliceAdjust lo hi 1 (n:Int)with|(lo,hi)=>pure (lo,(1:Int),Builtin.Slice.slicePlaces lo hi 1)) _ _ s;rw[Ot lo hi n];show wpAny _ _ (pure (((sIx n 0 lo:Nat):Int),(1:Int),Builtin.Slice.slicePlaces ((sIx n 0 lo:Nat):Int) ((sIx n n hi:Nat):Int) 1)) _ _ s;rw[NR];exact Ç h
def Di(xs:Array Â)(i k:Nat):((List.range k).filterMap λ(m:Nat)=>xs[((i:Int)+(m:Int)*1).toNat]?).toArray=((xs.toList.drop i).take k).toArray:=by
 have e:(λ(m:Nat)=>xs[((i:Int)+(m:Int)*1).toNat]?)=λm=>xs[i+m]?:=by
  funext m;have:((i:Int)+(m:Int)*1).toNat=i+m:=by lia
  rw[this]
 rw[e];have:=pick_run xs i k;rw[Δ]at this;have e2:((λx=>xs[x]?) ∘ λx=>i+x)=λm=>xs[i+m]?:=rfl;rw[e2]at this;rw[this]
def getItem_tuple_cut{t:È}(ht:ay s.heap t items)(hs:s.heap.IsSliceOf sl vl vu .none)(pl:Ϧ vl lo)(pu:Ϧ vu hi)
  (hw:¬ (sIx items.size 0 lo=0/\sIx items.size items.size hi=items.size))
  (h:Q (.ref s.heap.objs.size) {s with heap:=s.heap.push {cls:=.type "tuple",data:=.seq ((items.toList.drop<|sIx items.size 0 lo).take<|sIx items.size items.size hi - sIx items.size 0 lo).toArray}})
  (hsz:items.size<=Ø):wpAny (Ù prog w) A (ϥ (.ref t)<|.ref sl) Q E s:=by
 have db:sizeOk<|.seq ((items.toList.drop<|sIx items.size 0 lo).take<|sIx items.size items.size hi - sIx items.size 0 lo).toArray:=by show((items.toList.drop<|sIx items.size 0 lo).take<|sIx items.size items.size hi - sIx items.size 0 lo).toArray.size<=Ø;rw[Î,ă,ũ,ï];lia
 have hj:sIx items.size items.size hi<=items.size:=IA _ _ (Ì _) hi;obtain⟨os,hos,hcs,hds⟩:=id hs;have hTs:s.TypeIs (.ref sl) "slice":=⟨os,hos,hcs⟩
 unfold ϥ
 try with_reducible refine Ě ?_
 first|refine À (Ç ?_)|skip
 refine À (wpAny_sequenceKey ht.typeIs (by decide) ?_);refine À (ē (name:=gu "__getitem__") ht.typeIs PyProof.Rows.slot_tuple_getitem
   (Ĉ PyProof.Rows.slot_tuple_getitem ht.typeIs entry_tuple_getitem ?_<|args_tuple_getitem _ _))
 show wpAny _ _ (Builtin.Tuple.tupleItemsOf (.ref t) >>= _) _ _ s;refine À<|tupleItemsOf_ ht ?_;refine À<|ϧ hTs ?_;rw[gg<|by decide];refine À<|Yr hs pl pu ?_;have hno:¬ ((((sIx items.size 0 lo:Nat):Int)==0&&(1:Int)==1&&(sIx items.size items.size hi - sIx items.size 0 lo)==items.size)=eN):=by intro q;rw[bAq,bAq]at q;have q1:((sIx items.size 0 lo:Nat):Int)=0:=eq_of_beq q.1.1;have q2:sIx items.size items.size hi - sIx items.size 0 lo=items.size:=eq_of_beq q.2;exact hw ⟨by lia,by lia⟩
 show wpAny _ _ (if(((sIx items.size 0 lo:Nat):Int)==0&&(1:Int)==1&&(sIx items.size items.size hi - sIx items.size 0 lo)==items.size)=eN then _ else _) _ _ s;rw[gh hno,Di]
 first
  |exact À (m:=Builtin.Tuple.tupleExact _)<|ÿ (Ç ⟨_,rfl,Ç h⟩) db
  |exact À (m:=Builtin.Tuple.tupleExact _)<|ÿ (À<|Ç<|Ç ⟨_,rfl,Ç h⟩) db
  |exact À<|À (m:=Builtin.Tuple.tupleExact _)<|ÿ (Ç<|Ç ⟨_,rfl,Ç h⟩) db
  |exact À<|À (m:=Builtin.Tuple.tupleExact _)<|ÿ (Ç ⟨_,rfl,Ç h⟩) db
end
end HT
namespace L2
open PySem PySem.Spec PyProof.Rows
noncomputable abbrev TO:=St->Hp->(Option Int->Hp->Prop)->Prop
abbrev PO(X:Cx)(e:Option Expr)(t:TO):Prop :=
 ∀(Á:List<|È×Obj) (s:Ä) (σ:St) (H:Hp) (Q:Option Int->Hp->Prop),Inv X Á σ H s->t σ H Q->
  wpAny (Ù X.prog X.w) X.A (evalPart e X.env) (λu s'=>∃o H',Inv X Á σ H' s'/\Ϧ u o/\Q o H') X.xe s
abbrev Fe:TO:=λ_ H Q=>Q eM H
abbrev Pb(t:TE):TO:=λσ H Q=>t σ H λx H1=>∃i,x=.int i/\Q (eL i) H1
def ZE{ns:List Int}:∀{us:List Â},fZ (ns.map V.int) us->ù us ns:=by
 induction ns with
 |nil=>intro us r;rw[ai]at r;cases r;exact .nil
 |cons n ns ih =>
  intro us r;rw[Ï]at r;cases r with
  |cons r1 r2 =>obtain⟨t,e⟩:=r1;subst e;exact .cons n t<|ih r2
section
variable {X:Cx}{e:Expr}{te:TE}{lo hi:Option Expr}{tl th:TO}{ç p2:Pos}
def po_none:PO X eM Fe:=by intro Á s σ H Q I h;rw[evalPart_none];exact Ç ⟨eM,H,I,.none,h⟩
def Ew(h:PE X e te):PO X (eL e)<|Pb te:=by intro Á s σ H Q I hw;rw[evalPart_some];refine thn (h Á s σ H _ I hw) λu s1 ⟨x,H1,I1,r1,q1⟩=>?_;obtain⟨i,rfl,q⟩:=q1;obtain⟨t,rfl⟩:=r1;exact⟨eL i,H1,I1,.int i t,q⟩
abbrev SlR(X:Cx)(r:V->Option Int->Option Int->Hp->VK->Prop):Prop :=
 ∀(Á:List<|È×Obj) (s:Ä) (σ:St) (H:Hp) (x:V) (v vl vu:Â) (lo hi:Option Int) (sl:È) (Q:VK),Inv X Á σ H s->RelV x v->s.heap.IsSliceOf sl vl vu .none->Ϧ vl lo->Ϧ vu hi->r x lo hi H Q->
  ∃T id,typeLookup (.type T) "__getitem__" = pure (eL<|.builtin id)/\s.TypeIs v T/\wpAny (Ù X.prog X.w) X.A (ϥ v<|.ref sl) (EP X Á σ Q) X.xe s
variable {r:V->Option Int->Option Int->Hp->VK->Prop}
def SlR.or{r':V->Option Int->Option Int->Hp->VK->Prop}(h:SlR X r)(h':SlR X r'):SlR X λx lo hi H Q=>r x lo hi H Q\/r' x lo hi H Q:=by
 intro Á s σ H x v vl vu lo hi sl Q I rx hs pl pu q;rcases q with q|q
 .exact h Á s σ H x v vl vu lo hi sl Q I rx hs pl pu q
 .exact h' Á s σ H x v vl vu lo hi sl Q I rx hs pl pu q
abbrev tSl(r:V->Option Int->Option Int->Hp->VK->Prop)(te:TE)(tl th:TO):TE:=λσ H Q=>te σ H λx H1=>tl σ H1 λl H2=>th σ H2 λu H3=>r x l u H3 Q
def Cy(hr:SlR X r)(he:PE X e te)(hl:PO X lo tl)(hu:PO X hi th):PE X (.Subscript e (.Slice lo hi eM p2) ç)<|tSl r te tl th:=by intro Á s σ H Q I h;refine Subscript_<|thn (he Á s σ H _ I h) λv s1 ⟨x,H1,I1,r1,q1⟩=>?_;refine wpAny_Slice<|thn (hl Á s1 σ H1 _ I1 q1) λvl s2 ⟨l,H2,I2,pl,q2⟩=>thn (hu Á s2 σ H2 _ I2 q2) λvu s3 ⟨u,H3,I3,pu,q3⟩=>?_;rw[evalPart_none];refine Ç ?_;have I4:Inv X Á σ H3 {s3 with heap:=s3.heap.push {cls:=.type "slice",data:=.fields #[vl,vu,.none]}}:=I3.kept (t':=s3.toks) λb ob q=>Å _ q;obtain⟨T,id,hT,ht,hg⟩:=hr Á {s3 with heap:=s3.heap.push {cls:=.type "slice",data:=.fields #[vl,vu,.none]}} σ H3 x v vl vu l u s3.heap.objs.size Q I4 r1 (Heap.IsSliceOf.new ..) pl pu q3;show wpAny (Ù X.prog X.w) X.A (dm e (.Slice lo hi eM p2) v<|.ref s3.heap.objs.size) (EP X Á σ Q) X.xe {s3 with heap:=s3.heap.push {cls:=.type "slice",data:=.fields #[vl,vu,.none]}};exact tail_any (ops:=[.ref s3.heap.objs.size,v]) ht hT hg (by with_unfolding_all rfl)
abbrev MB(xs:List V)(lo hi:Option Int):List V:=(xs.drop<|HT.sIx xs.length 0 lo).take<|HT.sIx xs.length xs.length hi - HT.sIx xs.length 0 lo
def Wo(xs:List V)(lo hi:Option Int):(MB xs lo hi).length<=xs.length:=by unfold MB;rw[ă,ũ];lia
abbrev Qk(K:Frag):V->Option Int->Option Int->Hp->VK->Prop:=λx lo hi H Q=>∃a xs,x=.ref a/\fY K H a xs/\
 ¬ (HT.sIx xs.length 0 lo=0/\HT.sIx xs.length xs.length hi=xs.length)/\∀p,H p=eM->Q (.ref p) (upd H p<|.tup<|MB xs lo hi)
def fO:SlR X<|Qk X.K:=by
 intro Á s σ H x v vl vu lo hi sl Q I rx hs pl pu h;obtain⟨a,xs,rfl,hx,hw,q⟩:=h;cases rx;obtain⟨ò,r,ht,hz⟩:=I.tuple hx;have Ē:ò.toArray.size=xs.length:=by rw[Î];exact r.length.symm
 refine⟨"tuple",_,PyProof.Rows.slot_tuple_getitem.lookup,ht.typeIs,?_⟩;refine HT.getItem_tuple_cut ht hs pl pu (by rw[Ē];exact hw) ?_ (by rw[Ē];exact hz);rw[Ē];refine⟨.ref s.heap.objs.size,_,I.laid (t':=s.toks) (o:=.tup<|MB xs lo hi) (λb ob q=>Å _ q) (Ì _) ?_,rfl,q _<|I.hok.fresh<|Ì _⟩;exact⟨Ô (Wo xs lo hi) hz,_,(r.drop<|HT.sIx xs.length 0 lo).take<|HT.sIx xs.length xs.length hi - HT.sIx xs.length 0 lo,IsTup.new _ _⟩
abbrev PK(K:Frag):R2:=λx y H Q=>∃a b ns ms,x=.ref a/\y=.ref b/\fY K H a (ns.map V.int)/\fY K H b (ms.map V.int)/\Q (.bl<|HT.lexLt ns ms) H
def Iw(hu:X.A.units<Ĩ):OpR X (ë .Lt)<|PK X.K:=by intro Á s σ H x y v u Q I rx ry h;obtain⟨a,b,ns,ms,rfl,rfl,ha,hb,q⟩:=h;cases rx;cases ry;obtain⟨ò,r1,p1,_⟩:=I.tuple ha;obtain⟨bE,r2,p2,_⟩:=I.tuple hb;have i1:ù ò.toArray.toList ns:=ZE r1;have i2:ù bE.toArray.toList ms:=ZE r2;exact HT.lt_tupInts p1 p2 i1 i2 hu ⟨.bl<|HT.lexLt ns ms,H,I,rfl,q⟩
abbrev Gf(K:Frag):R2:=λx y H Q=>∃a b xs ys,x=.ref a/\y=.ref b/\fY K H a xs/\fY K H b ys/\xs≠[]/\xs.length+ys.length<=Ø/\
 (ys=[]->Q (.ref a) H)/\(ys≠[]->∀p,H p=eM->Q (.ref p) (upd H p<|.tup<|xs++ys))
def fZ.nil_iff{xs:List V}{us:List Â}(r:fZ xs us):us=[]↔xs=[]:=by
 cases r with
 |nil=>simp
 |cons _ _=>simp
def Fa:OpR X (ŏ .Add)<|Gf X.K:=by intro Á s σ H x y v u Q I rx ry h;obtain⟨a,b,xs,ys,rfl,rfl,ha,hb,hx,hz,q1,q2⟩:=h;cases rx;cases ry;obtain⟨ò,r1,p1,_⟩:=I.tuple ha;obtain⟨bE,r2,p2,_⟩:=I.tuple hb;refine HT.cat_tup p1 p2 (λz=>hx<|r1.nil_iff.mp z) (λz=>⟨.ref a,H,I,rfl,q1<|r2.nil_iff.mp z⟩) (λz=>?_) (by rw[<-r1.length,<-r2.length];exact hz);refine⟨.ref s.heap.objs.size,_,I.laid (t':=s.toks) (o:=.tup<|xs++ys) (λb ob q=>Å _ q) (Ì _) ?_,rfl,q2 (λw=>z<|r2.nil_iff.mpr w) _<|I.hok.fresh<|Ì _⟩;exact⟨by rw[î];exact hz,_,r1.append r2,IsTup.new _ _⟩
end
abbrev ixN(n:Nat)(i:Int):Option Nat:=if 0<=i then(if i<n then eL i.toNat else eM)else if -(n:Int)<=i then eL (i+n).toNat else eM
variable {α:Type}
abbrev atI(xs:List α)(i:Int):Option α:=(ixN xs.length i).bind λj=>xs[j]?
variable {n:Nat} {i:Int}
def OV{j:Nat}(h:ixN n i=eL j):seqIndex? i n=eL j/\j<n/\-(n:Int)<=i/\i<n:=by
 unfold ixN at h;by_cases h0:0<=i
 .rw[gg h0]at h;by_cases h1:i<n
  .rw[gg h1]at h;have e:i.toNat=j:=ì h;exact⟨by rw[bJ h0 h1,e],by lia,by lia,h1⟩
  .rw[gh h1]at h;cases h
 .rw[gh h0]at h;by_cases h1:-(n:Int)<=i
  .rw[gg h1]at h;have e:(i+n).toNat=j:=ì h;exact⟨by rw[aW (by lia) h1,e],by lia,h1,by lia⟩
  .rw[gh h1]at h;cases h
def WS{xs:List α}{v:α}(h:atI xs i=eL v):∃j,seqIndex? i xs.length=eL j/\xs[j]?=eL v/\j<xs.length/\-(xs.length:Int)<=i/\i<xs.length:=by
 unfold atI at h;cases e:ixN xs.length i with
 |none=>rw[e]at h;cases h
 |some j =>rw[e]at h;obtain⟨h1,h2,h3,h4⟩:=OV e;exact⟨j,h1,h,h2,h3,h4⟩
abbrev K8(b:Expr):Prop:=∀o i,subscripted b eP o i=operate [o,i] (ϥ o i)
abbrev IxR(X:Cx)(r:R2):Prop :=
 ∀(υ slice:Expr) (Á:List<|È×Obj) (s:Ä) (σ:St) (H:Hp) (x y:V) (v u:Â) (Q:VK),Inv X Á σ H s->RelV x v->RelV y u->r x y H Q->
  subscripted slice eP v u=operate [v,u] (ϥ v u)->wpAny (Ù X.prog X.w) X.A (dm υ slice v u) (EP X Á σ Q) X.xe s
abbrev MtR(X:Cx)(id:String)(r:V->List V->Hp->VK->Prop):Prop :=
 ∀(Á:List<|È×Obj) (s:Ä) (σ:St) (H:Hp) (x:V) (xs:List V) (v:Â) (us:List Â) (Q:VK),Inv X Á σ H s->RelV x v->fZ xs us->r x xs H Q->
  wpAny (Ù X.prog X.w) X.A (call (.builtin id)<|v::us) (EP X Á σ Q) X.xe s
section
variable {X:Cx}{a b:Expr}{ta tb:TE}{ç:Pos}
variable {r:R2}
def IxR.or{r':R2}(h:IxR X r)(h':IxR X r'):IxR X λx y H Q=>r x y H Q\/r' x y H Q:=by
 intro υ slice Á s σ H x y v u Q I rx ry q hs;rcases q with q|q
 .exact h υ slice Á s σ H x y v u Q I rx ry q hs
 .exact h' υ slice Á s σ H x y v u Q I rx ry q hs
def MtR.or{id:String}{r r':V->List V->Hp->VK->Prop}(h:MtR X id r)(h':MtR X id r'):MtR X id λx xs H Q=>r x xs H Q\/r' x xs H Q:=by
 intro Á s σ H x xs v us Q I rx rs q;rcases q with q|q
 .exact h Á s σ H x xs v us Q I rx rs q
 .exact h' Á s σ H x xs v us Q I rx rs q
def Qe(hr:IxR X r)(ha:PE X a ta)(hb:PE X b tb)(hs:K8 b):PE X (.Subscript a b ç)<|tOp r ta tb:=by intro Á s σ H Q I h;exact Subscript_ (Hw ha hb I h λv u s2 x y H2 I2 rx ry q=>hr a b Á s2 σ H2 x y v u Q I2 rx ry q<|hs _ _)
abbrev Ci(K:Frag):R2:=λx y H Q=>∃p xs i v,x=.ref p/\y=.int i/\fX K H p xs/\atI xs i=eL v/\Q v H
abbrev PH(K:Frag):R2:=λx y H Q=>∃p xs i v,x=.ref p/\y=.int i/\fY K H p xs/\atI xs i=eL v/\Q v H
abbrev Pv:R2:=λx y H Q=>∃z i c,x=.str z/\y=.int i/\z.length<=Ø/\atI z.cps.toList i=eL c/\Q (.str ⟨#[c]⟩) H
def ix_list:IxR X<|Ci X.K:=by
 intro υ slice Á s σ H x y v u Q I rx ry h hs;obtain⟨p,xs,i,z,rfl,rfl,hq,he,q⟩:=h;cases rx;obtain⟨t,rfl⟩:=ry;obtain⟨ò,r,pl,hz⟩:=I.list hq;obtain⟨j,h1,h2,h3,h4,h5⟩:=WS he;obtain⟨w,ew,be⟩:=r.get h2;have hl:=r.length;have hn:=YL;have fin:EP X Á σ Q w s:=⟨z,H,I,be,q⟩
 by_cases h0:0<=i
 .have hj:i.toNat=j:=by
   rw[bJ h0 h5]at h1;exact ì h1
  exact item_listR pl.isList h0 (by lia) (by rw[hj];simpa using ew) fin hs
 .have hj:(i+(ò.toArray.size:Int)).toNat=j:=by
   rw[aW (by lia) h4]at h1;rw[Î,<-hl];exact ì h1
  exact eh (x:=w) pl.isList.typeIs slot_list_getitem.lookup
   (ei (Q:=λr s'=>r=w/\EP X Á σ Q r s') pl.isList (by lia) (by rw[Î]<;>lia) (by lia) (by rw[hj];simpa using ew) ⟨rfl,fin⟩) hs
def eW:IxR X<|PH X.K:=by
 intro υ slice Á s σ H x y v u Q I rx ry h hs;obtain⟨p,xs,i,z,rfl,rfl,hq,he,q⟩:=h;cases rx;obtain⟨t,rfl⟩:=ry;obtain⟨ò,r,pl,hz⟩:=I.tuple hq;obtain⟨j,h1,h2,h3,h4,h5⟩:=WS he;obtain⟨w,ew,be⟩:=r.get h2;have hl:=r.length;have hn:=YL;have fin:EP X Á σ Q w s:=⟨z,H,I,be,q⟩
 exact eh (x:=w) pl.typeIs slot_tuple_getitem.lookup
  (getItem_tuple (j:=j) (Q:=λr s'=>r=w/\EP X Á σ Q r s') pl (by lia) (by lia) (by rw[Î,<-hl];exact h1) (by simpa using ew) ⟨rfl,fin⟩) hs
def HV:IxR X Pv:=by
 intro υ slice Á s σ H x y v u Q I rx ry h hs;obtain⟨z,i,c,rfl,rfl,hz,he,q⟩:=h;obtain⟨t,rfl⟩:=rx;obtain⟨t',rfl⟩:=ry;obtain⟨j,h1,h2,h3,h4,h5⟩:=WS he;have hl:z.cps.toList.length=z.length:=by simp[Str.length]
 rw[hl]at h1 h4 h5;have hn:=YL;exact tail_any (typeIs_str s z t) slot_str_getitem.lookup (getItem_str (c:=c) (by
   have e1:gq (i < -(2 ^ 63:Int))=eP:=gj (by lia)
   have e2:gq (i≥2 ^ 63)=eP:=gj (by lia)
   rw[e1,e2,ϰ]) (by rw[h1];simpa using h2) ⟨.str ⟨#[c]⟩,H,I.tok _,⟨_,rfl⟩,q⟩) hs
abbrev rIx(K:Frag):R2:=λx y H Q=>Ci K x y H Q\/PH K x y H Q\/Pv x y H Q
def ix_seq:IxR X<|rIx X.K:=ix_list.or (eW.or HV)
def Od(ò:List Â)(n j:Nat)(u:Â):Η (·.setIfInBounds j u) {cls:=.type "list",data:=.seq ò.toArray n}={cls:=.type "list",data:=.seq (ò.set j u).toArray n}:=by simp[Η]
def Inv.lst{Á:List (È×Obj)}{σ:St}{H:Hp}{s:Ä}{p:È}{xs:List V}(I:Inv X Á σ H s)(h:H p=eL (.lst xs)) :
  ∃(ò:List Â) (n:Nat),fZ xs ò/\s.heap.get? p=eL {cls:=.type "list",data:=.seq ò.toArray n}/\xs.length<=Ø:=by
 obtain⟨z,ò,n,r,e⟩:=I.hok p _ h;exact⟨ò,n,r,e,z⟩
variable {Á:List (È×Obj)} {σ:St} {H:Hp} {s:Ä}
def Inv.lstUpd{p:È}{xs ys:List V}{ò its':List Â}{n':Nat}{f:Obj->Obj}(I:Inv X Á σ H s)(h:H p=eL (.lst xs))
  (ho:s.heap.get? p=eL {cls:=.type "list",data:=.seq ò.toArray n}) (hf:f {cls:=.type "list",data:=.seq ò.toArray n}={cls:=.type "list",data:=.seq its'.toArray n'}) (r:fZ ys its') (hz:ys.length<=Ø) (t:Nat) :
  Inv X Á σ (upd H p<|.lst ys) {s with heap:=s.heap.update p f,toks:=t}:=by
 have e:(s.heap.update p f).get? p=eL {cls:=.type "list",data:=.seq its'.toArray n'}:=by rw[Ď f ho (by rw[hf]<;>rfl),hf]
 refine I.write (x:=p) (e:=p) (by rw[h];trivial) (.inl rfl) (λb u hb q=>(í _ _<|Ne.symm hb).trans q) ⟨_,e⟩ ?_;exact⟨hz,its',n',r,e⟩
abbrev Gi:V->V->V->Hp->(Hp->Prop)->Prop:=λo i v H Q=>∃p xs k j,o=.ref p/\i=.int k/\H p=eL (.lst xs)/\ixN xs.length k=eL j/\Q (upd H p<|.lst<|xs.set j v)
def M8:PSet X Gi:=by
 intro Á s σ H o i v ov iv u Q I ro ri rv h;obtain⟨p,xs,k,j,rfl,rfl,hp,hj,q⟩:=h;cases ro;obtain⟨t,rfl⟩:=ri;obtain⟨ò,n,r,ho,hz⟩:=I.lst hp;obtain⟨h1,h2,h3,h4⟩:=OV hj;have hl:=r.length;have hn:=YL;have I':Inv X Á σ (upd H p<|.lst<|xs.set j v) {s with heap:=s.heap.update p (Η (·.setIfInBounds j u))} :=
  I.lstUpd hp ho (Od ò n j u) (r.set rv j) (by rw[ξ];exact hz) s.toks
 by_cases h0:0<=k
 .have hk:k.toNat=j:=by
   rw[bJ h0 h4]at h1;exact ì h1
  exact PySem.W.ki_setAt ho h0 (by lia) (by rw[Î,<-hl];exact h4) (by rw[hk];exact⟨_,I',q⟩)
 .have hk:(k+(ò.toArray.size:Int)).toNat=j:=by
   rw[aW (by lia) h3]at h1;rw[Î,<-hl];exact ì h1
  exact PySem.W.ki_setBack ho (by lia) (by rw[Î,<-hl];exact h3) (by lia) (by rw[hk];exact⟨_,I',q⟩)
def Mb(lo hi:Option Int)(n:Nat):(ω lo hi eM n).1=((HT.sIx n 0 lo:Nat):Int)/\(ω lo hi eM n).2.1=((HT.sIx n n hi:Nat):Int)/\(ω lo hi eM n).2.2=1:=by
 refine⟨?_,?_,rfl⟩
 .cases lo with
  |none=>simp[ω,HT.sIx]
  |some i =>
   simp only[ω,HT.sIx,dL,show(1:Int) > 0 by decide,if_true];by_cases h:i<0
   .simp only[h,if_true]<;>lia
   .simp only[h,if_false]<;>lia
 .cases hi with
  |none=>simp[ω,HT.sIx]
  |some i =>
   simp only[ω,HT.sIx,dL,show(1:Int) > 0 by decide,if_true];by_cases h:i<0
   .simp only[h,if_true]<;>lia
   .simp only[h,if_false]<;>lia
def J9(ò:List Â)(lo hi:Option Int):slicePick ò.toArray lo hi eM=((ò.drop<|HT.sIx ò.length 0 lo).take<|HT.sIx ò.length ò.length hi - HT.sIx ò.length 0 lo).toArray:=by obtain⟨h1,h2,h3⟩:=Mb lo hi ò.toArray.size;unfold slicePick;rw[h1,h2,h3];simp only[sliceRange_one,pick_run,Î]<;>rfl
abbrev PP(K:Frag):V->Option Int->Option Int->Hp->VK->Prop:=λx lo hi H Q=>∃a xs,x=.ref a/\fX K H a xs/\∀p,H p=eM->Q (.ref p) (upd H p<|.lst<|MB xs lo hi)
def sl_list:SlR X<|PP X.K:=by intro Á s σ H x v vl vu lo hi sl Q I rx hs pl pu h;obtain⟨a,xs,rfl,hx,q⟩:=h;cases rx;obtain⟨ò,r,ht,hz⟩:=I.list hx;have Ē:=r.length;refine⟨"list",_,slot_list_getitem.lookup,ht.isList.typeIs,?_⟩;refine wpAny_getItem_list_slice ht.isList hs pl pu .none (by simp) ?_ (by rw[Î]<;>lia);rw[J9,<-Ē];refine⟨.ref s.heap.objs.size,_,I.laid (t':=s.toks) (o:=.lst<|MB xs lo hi) (λb ob q=>Å _ q) (Ì _) ?_,rfl,q _<|I.hok.fresh<|Ì _⟩;exact⟨Ô (Wo xs lo hi) hz,_,0,(r.drop<|HT.sIx xs.length 0 lo).take<|HT.sIx xs.length xs.length hi - HT.sIx xs.length 0 lo,Ñ _ rfl⟩
abbrev eqV:V->V->Bool
 |.non,.non=>eN
 |.bl a,.bl b=>a==b
 |.bl a,.int b=>(if a then 1 else 0)==b
 |.int a,.bl b=>a==(if b then 1 else 0)
 |.int a,.int b=>a==b
 |.str a,.str b=>a==b
 |_,_=>eP
abbrev inV(x:V)(xs:List V):Bool:=xs.any λy=>eqV y x
def KW:OpR X (ë .NotIn) λx y H Q=>∃i j,x=.str i/\y=.str j/\Q (.bl (!(!(Builtin.Str.occurrences j i 0 j.length 1).isEmpty))) H:=by intro Á s σ H x y v u Q I rx ry h;obtain⟨i,j,rfl,rfl,q⟩:=h;obtain⟨t,rfl⟩:=rx;obtain⟨t',rfl⟩:=ry;exact notIn_str ⟨.bl _,H,I,rfl,q⟩
def call_len_seq:eY X (.builtin "len") λxs H Q=>∃p ys,xs=[.ref p]/\(fX X.K H p ys\/fY X.K H p ys)/\Q (.int ys.length) H:=by
 intro Á s σ H xs us Q I r h;obtain⟨p,ys,rfl,hq,q⟩:=h;obtain⟨u,rfl,rx⟩:=YG r;cases rx;have hn:=YL;rcases hq with hq|hq
 .obtain⟨ò,r',pl,hz⟩:=I.list hq;have Ē:=r'.length;exact Calls.call_len_list pl.isList (by simp only[Î]<;>lia) ⟨.int ys.length,H,I.tok _,⟨s.toks+1,by rw[Î,Ē]⟩,q⟩
 .obtain⟨ò,r',pl,hz⟩:=I.tuple hq;have Ē:=r'.length;exact len_tuple pl (by simp only[Î]<;>lia) ⟨.int ys.length,H,I.tok _,⟨s.toks+1,by rw[Î,Ē]⟩,q⟩
def Mg:eY X (.builtin "len") λxs H Q=>∃z,xs=[.str z]/\z.length<=Ø/\Q (.int z.length) H:=by intro Á s σ H xs us Q I r h;obtain⟨z,rfl,hz,q⟩:=h;obtain⟨u,rfl,t,rfl⟩:=YG r;have hn:=YL;exact len_str (by lia) ⟨.int z.length,H,I.tok _,⟨_,rfl⟩,q⟩
def eY.or{f:Â}{r r':List V->Hp->VK->Prop}(h:eY X f r)(h':eY X f r'):eY X f λxs H Q=>r xs H Q\/r' xs H Q:=by
 intro Á s σ H xs us Q I rs q;rcases q with q|q
 .exact h Á s σ H xs us Q I rs q
 .exact h' Á s σ H xs us Q I rs q
def Mj:eY X (.type "list") λxs H Q=>∃p ys,xs=[.ref p]/\(fX X.K H p ys\/fY X.K H p ys)/\∀l,H l=eM->Q (.ref l) (upd H l<|.lst ys):=by
 intro Á s σ H xs us Q I r h;obtain⟨p,ys,rfl,hq,q⟩:=h;obtain⟨u,rfl,rx⟩:=YG r;cases rx;have fin:∀(ò:List Â),fZ ys ò->ys.length<=Ø->∀(h':þ) (c':Nat),(∀b o',s.heap.get? b=eL o'->h'.get? b=eL o')->
   h'.get? s.heap.objs.size=eL {cls:=.type "list",dict:=eM,data:=.seq ò.toArray c',slots:=#[]}->EP X Á σ Q (.ref s.heap.objs.size) {s with heap:=h'}:=λò r' hz h' c' kp e =>
  ⟨.ref s.heap.objs.size,_,I.laid (t':=s.toks) kp (Ì _) (show eZ X.prog X.w _ h' _ (.lst ys) from ⟨hz,ò,c',r',e⟩),rfl,q _<|I.hok.fresh<|Ì _⟩
 rcases hq with hq|hq
 .obtain⟨ò,r',pl,hz⟩:=I.list hq;have Ē:=r'.length;obtain⟨o,ho,hc,n,hd⟩:=pl.isList;exact call_list_seq p (.inl rfl) ho hc hd (λh' c' kp e=>fin ò r' hz h' c' kp e) (by simp only[Î]<;>lia)
 .obtain⟨ò,r',pl,hz⟩:=I.tuple hq;have Ē:=r'.length;obtain⟨o,ho,hc,n,hd⟩:=pl;exact call_list_seq p (.inr rfl) ho hc hd (λh' c' kp e=>fin ò r' hz h' c' kp e) (by simp only[Î]<;>lia)
def Ka:eY X (.type "tuple") λxs H Q=>∃p ys,xs=[.ref p]/\((fX X.K H p ys/\∀l,H l=eM->Q (.ref l) (upd H l<|.tup ys))\/(fY X.K H p ys/\Q (.ref p) H)):=by
 intro Á s σ H xs us Q I r h;obtain⟨p,ys,rfl,h⟩:=h;obtain⟨u,rfl,rx⟩:=YG r;cases rx;rcases h with⟨hq,q⟩|⟨hq,q⟩
 .obtain⟨ò,r',pl,hz⟩:=I.list hq;have Ē:=r'.length;refine call_tuple_list pl.isList (λh' kp=>?_) (by simp only[Î]<;>lia);have I1:Inv X Á σ H {s with heap:=h'}:=I.kept (t':=s.toks) kp;have I2:Inv X Á σ (upd H h'.objs.size<|.tup ys) {s with heap:=h'.push {cls:=.type "tuple",data:=.seq ò.toArray}} :=
   I1.laid (t':=s.toks) (λb o e=>Å _ e) (Ì _) (show eZ X.prog X.w _ _ _ (.tup ys) from ⟨hz,ò,r',IsTup.new _ _⟩)
  exact⟨.ref h'.objs.size,_,I2,rfl,q _<|I1.hok.fresh<|Ì _⟩
 .obtain⟨ò,r',pl,hz⟩:=I.tuple hq;exact call_tuple_same pl ⟨.ref p,H,I,rfl,q⟩
abbrev tyV(K:Frag)(T:String)(x:V)(H:Hp):Prop:=match x with
 |.str _=>T = "str"
 |.int _=>T = "int"
 |.ref p=>(T = "list"/\∃xs,fX K H p xs)\/(T = "tuple"/\∃o,K.lookup p=eL o/\o.cls=.type "tuple"/\o.dict=eM)\/
   (T = "dict"/\((∃kvs,H p=eL (.dK kvs))\/∃kvs,H p=eL (.dT kvs)))\/(T = "set"/\∃S n,H p=eL (.set S n))
 |_=>False
def Lc{T:String}{x:V}{v:Â}(I:Inv X Á σ H s)(r:RelV x v)(ty:tyV X.K T x H) :
  s.TypeIs v T/\∀a,v=.ref a->∃ob,s.heap.get? a=eL ob/\ob.dict=eM:=by
 cases x with
 |str z =>obtain⟨t,rfl⟩:=r;cases (show T = "str" from ty);exact⟨typeIs_str s z t,λ_ e=>nomatch e⟩
 |int i =>obtain⟨t,rfl⟩:=r;cases (show T = "int" from ty);exact⟨typeIs_int s i t,λ_ e=>nomatch e⟩
 |ref p =>
  cases r;rcases ty with⟨rfl,xs,hq⟩|⟨rfl,o,hk,hc,hd⟩|⟨rfl,hk⟩|⟨rfl,S,n,hk⟩
  .obtain⟨ò,_,pl,_⟩:=I.list hq;refine⟨pl.isList.typeIs,λa e=>?_⟩;cases e;obtain⟨o,n,e,c,hd,_⟩:=pl;exact⟨o,e,hd⟩
  .refine⟨⟨o,I.kIn p o hk,hc⟩,λa e=>?_⟩;cases e;exact⟨o,I.kIn _ o hk,hd⟩
  .have z:∃o,s.heap.get? p=eL o/\o.ExactDict:=by
    rcases hk with⟨kvs,hk⟩|⟨kvs,hk⟩
    .obtain⟨_,_,_,_,o,_,_,e,ex,_⟩:=I.hok p _ hk;exact⟨o,e,ex⟩
    .obtain⟨_,_,_,_,o,_,_,e,ex,_⟩:=I.hok p _ hk;exact⟨o,e,ex⟩
   obtain⟨o,e,ex⟩:=z;refine⟨⟨o,e,ex.1⟩,λa e2=>?_⟩;cases e2;exact⟨o,e,ex.2.1⟩
  .obtain⟨o,_,_,_,e,ex,_⟩:=I.hok p _ hk;refine⟨⟨o,e,ex.1⟩,λa e2=>?_⟩;cases e2;exact⟨o,e,ex.2.1⟩
 |_=>exact ø ty
abbrev tBM(K:Frag)(T:String)(r:V->List V->Hp->VK->Prop)(to:TE)(t:TA):TE:=λσ H Q=>to σ H λx H1=>tyV K T x H1/\t σ H1 λxs H2=>r x xs H2 Q
variable {o e:Expr}{es:List Expr}{to:TE}{t:TA}{name:Str}{Ń Ŏ:Pos}{T id:String}{r:V->List V->Hp->VK->Prop}
def Qd(pa:PlainAttrs T)(slot:Slot T name id)(hty:typeOf (.builtin id)=pure (.type "method_descriptor"))(hm:MtR X id r)(ho:PE X o to)(ha:PA X (e::es) t)
  (aM:ĥ o name X.env (eval o X.env)=eval o X.env:=by rfl)
  (aw:((ċ Ŏ<|Ð (e::es) X.env).all (λx=>!x.1)&&(Ů Ŏ<|ĸ [] X.env).all (λx=>x.1.isSome)
    && gq ((e::es).length+([]:List aX).length+(if([]:List aX).isEmpty then 0 else 1)<30))=eN:=by rfl)
  (aN:(Ń.endLine==Ŏ.line)=eN:=by rfl) (hs:Ð (e::es) X.env=(eP,eval e X.env)::Ð es X.env:=by rfl) (cN:(ċ Ŏ<|Ð es X.env).any (·.1)=eP:=by rfl) :
  PE X (.Call (.Attribute o name Ń) (e::es) [] Ŏ) (tBM X.K T r to t):=by
 intro Á s σ H Q I h;refine wpAny_Call_method_late aM aw aN rfl<|thn (ho Á s σ H _ I h) λv s1 ⟨x,H1,I1,r1,ty,q1⟩=>?_;obtain⟨h1,h2⟩:=Lc I1 r1 ty;refine⟨T,id,pa,slot,hty,h1,h2,?_⟩;have hA:=ha Ŏ Á s1 σ H1 _ I1 q1;rw[hs]at hA ⊢;refine Calls.callWith_builtin (by show(eP||(ċ Ŏ<|Ð es X.env).any (·.1))=eP;rw[cN]<;>rfl)<|Calls.evalArgs_plain ?_;exact thn hA λus s2 ⟨vs,H2,I2,r2,q2⟩=>hm Á s2 σ H2 x vs v us Q I2 r1 r2 q2
/- xs.append(e),list.index on a module's tuple .. are MtR facts of 06m -/
end
abbrev MtM(X:Cx)(id:String)(r:V->List V->Hp->VK->Prop):Prop :=
 ∀(Á:List<|È×Obj) (s:Ä) (σ:St) (H:Hp) (x:V) (xs:List V) (v:Â) (us:List Â) (Q:VK),Inv X Á σ H s->RelV x v->fZ xs us->r x xs H Q->
  wpAny (Ù X.prog X.w) X.A (call (.builtin id)<|v::us) (EP X Á σ Q) X.xe s
variable {x:V} {us:List Â}
def fZ.one(r:fZ [x] us):∃u,us=[u]/\RelV x u:=YG r
def fZ.two{y:V}(r:fZ [x,y] us):∃u v,us=[u,v]/\RelV x u/\RelV y v:=GC r
def fZ.zero(r:fZ [] us):us=[]:=by cases r;rfl
variable {xs:List V}
def fZ.dropLast(h:fZ xs us):fZ xs.dropLast us.dropLast:=by
 induction h with
 |nil=>exact .nil
 |cons r t ih =>
  cases t with
  |nil=>exact .nil
  |cons q t'=>exact .cons r ih
def fZ.eraseIdx:∀{xs:List V}{us:List Â}(i:Nat),fZ xs us->fZ (xs.eraseIdx i) (us.eraseIdx i)
 |_,_,_,.nil=>.nil
 |_,_,0,.cons _ t=>t
 |_,_,i+1,.cons r t=>.cons r<|fZ.eraseIdx i t
def fZ.reverse(h:fZ xs us):fZ xs.reverse us.reverse:=by
 induction h with
 |nil=>exact .nil
 |cons r t ih=>rw[Ρ,Ρ];exact fZ.append ih<|.cons r .nil
def fZ.rep{xs:List V}{us:List Â}(h:fZ xs us):∀k:Nat,fZ (Ö k xs).flatten (Ö k us).flatten
 |0=>.nil
 |k+1=>by rw[Č,Č,Ō,Ō];exact fZ.append h<|fZ.rep h k
def Kd{α:Type}:∀(l:List α) (i:Nat),(l.eraseIdx i).length<=l.length
 |[],_=>Ì _
 |_::_,0=>ŀ _
 |_::r,i+1=>ώ<|Kd r i
def Km(ò:List Â):∀(k:Nat) (Ĵ:List Â),
  dM (λx1 x2=>x1++x2) Ĵ.toArray (Ö k ò.toArray)=(Ĵ++(Ö k ò).flatten).toArray
 |0,Ĵ=>by simp
 |k+1,Ĵ=>by
  have e:Ĵ.toArray++ò.toArray=(Ĵ++ò).toArray:=by simp
  have e2:(Ĵ++ò)++(Ö k ò).flatten=Ĵ++(Ö (k+1) ò).flatten:=by rw[Č,Ō,Ķ]
  rw[<-e2,<-Km ò k (Ĵ++ò),<-e,Č,ű]
section
variable {X:Cx}{Á:List (È×Obj)}{σ:St}{H:Hp}{s:Ä}{l b:È}{xs ys zs:List V}
variable {ò:List Â} {n:Nat} {t':Nat}
def Inv.lset{its':List Â}{f:Array Â->Array Â}(I:Inv X Á σ H s)(hH:H l=eL (.lst xs))
  (e:s.heap.get? l=eL {cls:=.type "list",data:=.seq ò.toArray n}) (hf:f ò.toArray=its'.toArray) (hv:fZ ys its') (hz:ys.length<=Ø) :
  Inv X Á σ (upd H l<|.lst ys) {s with heap:=s.heap.update l<|Η f,toks:=t'}:=by
 have q:=PySem.IsL.update e f;rw[hf]at q;refine I.write (x:=l) (e:=l) (by rw[hH];exact trivial) (.inl rfl) (λb' u hb hu=>(í s.heap (Η f)<|Ne.symm hb).trans hu) ⟨_,q⟩ ?_;exact⟨hz,its',_,hv,q⟩
def Inv.lnew(I:Inv X Á σ H s)(hv:fZ ys ò)(hz:ys.length<=Ø) :
  Inv X Á σ (upd H s.heap.objs.size<|.lst ys) {s with heap:=s.heap.push {cls:=.type "list",data:=.seq ò.toArray},toks:=t'} :=
 I.laid (λ_ _ q=>Å _ q) (Ì _) ⟨hz,ò,0,hv,Ñ _ rfl⟩
def Inv.fresh(I:Inv X Á σ H s):H s.heap.objs.size=eM:=I.hok.fresh (Ì _)
def Inv.lstM(I:Inv X Á σ H s)(hH:H l=eL (.lst xs)):xs.length<=Ø/\∃(ò:List Â) (n:Nat),fZ xs ò/\xs.length=ò.length/\s.heap.get? l=eL {cls:=.type "list",data:=.seq ò.toArray n}:=by obtain⟨z,ò,n,r,e⟩:=I.hok l _ hH;exact⟨z,ò,n,r,r.length,e⟩
def Cm(h:n<=Ø):Builtin.List.listTooLong n=eP:=by unfold Builtin.List.listTooLong;exact gj (by lia)
end
section
variable {X:Cx}
abbrev Ui:V->List V->Hp->VK->Prop:=λx vs H Q=>∃l xs y,x=.ref l/\vs=[y]/\H l=eL (.lst xs)/\xs.length<Ø/\Q .non (upd H l<|.lst<|xs++[y])
def Ak:MtM X "list.append" Ui:=by intro Á s σ H x vs v us Q I rx rv h;obtain⟨l,xs,y,rfl,rfl,hH,hz,q⟩:=h;cases rx;obtain⟨u,rfl,ru⟩:=rv.one;obtain⟨z,ò,n,r,hl,e⟩:=I.lstM hH;refine cx F.slot_list_append ⟨_,e,rfl⟩ F.entry_list_append (F.args_list_append_2 _ _) (PySem.list_append l ò.toArray n u<|by rw[Î];lia) ⟨e,?_⟩;refine⟨.non,_,I.lset (its':=ò++[u]) hH e (by simp) (r.append<|.cons ru .nil) ?_,rfl,q⟩;rw[î,List.length_singleton];lia
abbrev P5:R2:=λx y H Q=>∃l b xs zs,x=.ref l/\y=.ref b/\H l=eL (.lst xs)/\H b=eL (.lst zs)/\xs.length+zs.length<=Ø/\∀p,H p=eM->Q (.ref p) (upd H p<|.lst<|xs++zs)
def Lz:OpR X (ŏ .Add) P5:=by
 intro Á s σ H x y v u Q I rx ry h;obtain⟨l,b,xs,zs,rfl,rfl,hH,hB,hz,q⟩:=h;cases rx;cases ry;obtain⟨z,ò,n,r,hl,e⟩:=I.lstM hH;obtain⟨z2,bE,n2,r2,hl2,e2⟩:=I.lstM hB;refine PySem.P.add_list e e2 ?_ (by rw[Î,Î];lia);have ea:ò.toArray++bE.toArray=(ò++bE).toArray:=by simp
 rw[ea];exact⟨.ref _,_,I.lnew (t':=s.toks) (r.append r2) (by rw[î];lia),rfl,q _ I.fresh⟩
abbrev QB:R2:=λx y H Q=>∃l k xs,x=.ref l/\y=.int k/\H l=eL (.lst xs)/\-(2 ^ 63)<=k/\k<2 ^ 63/\xs.length*k.toNat<=Ø/\
 ∀p,H p=eM->Q (.ref p) (upd H p<|.lst (Ö k.toNat xs).flatten)
def D6{α:Type}(xs:List α)(k:Nat):(Ö k xs).flatten.length=k*xs.length:=by
 induction k with
 |zero=>simp
 |succ k ih=>rw[Č,Ō,î,ih,Nat.succ_mul,Nat.add_comm]
def op_rep:OpR X (ŏ .Mult) QB:=by
 intro Á s σ H x y v u Q I rx ry h;obtain⟨l,k,xs,rfl,rfl,hH,h1,h2,hz,q⟩:=h;cases rx;obtain⟨t,rfl⟩:=ry;obtain⟨z,ò,n,r,hl,e⟩:=I.lstM hH;have Ē:ò.toArray.size*k.toNat<=Ø:=by rw[Î,<-hl];exact hz
 have hcap:¬ ò.toArray.size*k.toNat > (2 ^ 63 - 1) / 8:=by
  have:(Ø:Nat)<=(2 ^ 63 - 1) / 8:=by decide
  lia
 have hfit:¬ (!Builtin.List.listFitsIndex k)=eN:=by rw[fitsIndex_both h1 h2];exact ü
 have hlong:¬ Builtin.List.listTooLong (ò.toArray.size*k.toNat)=eN:=by rw[Cm Ē];exact ü
 have hnew:dM (λx1 x2=>x1++x2) #[] (Ö (if ò.toArray.isEmpty=eN then 0 else k.toNat) ò.toArray)=(Ö k.toNat ò).flatten.toArray:=by
  have f0:∀m:Nat,dM (λx1 x2=>x1++x2) #[] (Ö m ò.toArray)=(Ö m ò).flatten.toArray:=λm=>by have:=Km ò m [];rw[List.nil_append]at this;exact this
  rw[f0];cases ò with
  |nil=>simp
  |cons a r'=>rw[gh<|by simp]
 refine wpAny_binaryOp_repeat_ref (T:="list") (U:="int") (by decide) ⟨_,e,rfl⟩ (λs'=>typeIs_int s' k t) noFill_list_mul F.fills_int_mul F.slot_int_rmul repeat_list F.slot_int_index.lookup
  (cx F.slot_int_rmul (typeIs_int s k t) F.entry_int_rmul (F.args_int_rmul_2 _ _) (int___rmul___int_list k t l ò.toArray n)
    ⟨e,rfl,⟨_,e,rfl⟩,cx F.slot_list_mul ⟨_,e,rfl⟩ F.entry_list_mul (F.args_list_mul_2 _ _) (AutoListH.list___mul___list_int_3 l ò.toArray n k t hfit hcap hlong) ⟨e,?_⟩⟩)
 rw[hnew];exact⟨.ref _,_,I.lnew (t':=s.toks) (r.rep k.toNat) (by rw[D6,Nat.mul_comm];exact hz),rfl,q _ I.fresh⟩
end
end L2
namespace Att
open PySem PySem.W PySem.Calls PyProof.Rows
variable {P:Params} {h:þ}
def Wx:∀(ns:List Int) (vs:List Â),WellAll P h vs (ns.map WData.int)->ù vs ns:=by
 intro ns;induction ns with
 |nil =>intro vs w;rw[ai]at w;cases w;exact .nil
 |cons n ns ih =>
  intro vs w;rw[Ï]at w;cases w with
  |cons a b =>cases a;exact .cons _ _<|ih _ b
variable {l:OpenLaw} {n:Nat}
def Ao(hn:l.most=eL n){args:List WData}{aO:List Â}
  (hpre:l.row.toRowW.claim.pre args=eN) (hwl:WellAll P h aO args) :
  ∃a vs ns,aO=[Value.ref a]/\args=[WData.list<|ns.map WData.int]/\h.get? a=eL {cls:=.type "list",data:=.seq vs.toArray}/\ù vs ns/\ns.length<=n:=by
 have hsh:WShape.hasAll [] args [.list .int]=eN:=(pre_splitW hpre).1;have hc:l.pre.holds [] {args:=args}=eN:=(pre_splitW hpre).2;obtain⟨d,r,rfl,h1,h2⟩:=hasAllW_cons hsh;obtain rfl:=hasAllW_nil h2;obtain⟨xs,rfl,h3⟩:=hasW_list h1;obtain⟨ns,rfl⟩:=items_int h3;have Ē:ns.length<=n:=by
  unfold OpenLaw.pre at hc;have h4:(WTm.not<|.lt (.lit<|.int (n:Int))<|.len<|.arg 0).holds [] {args:=[.list<|ns.map .int]}=eN:=by have h4:=(holds_andW hc).1;rw[hn]at h4;exact h4
  have h5:=condW_of h4<|w_not<|w_lt w_lit<|w_len_list<|w_arg rfl;rw[Ã]at h5;refine Nat.le_of_not_lt λq=>?_;have q':(n:Int)<((ns.length:Nat):Int):=by lia
  first
   |(rw[gk q']at h5;exact gp h5<|by decide)
   |(simp at h5;lia)
 cases hwl with
 |cons w1 w2 =>
  cases w2;cases w1 with
  |list ho hall=>exact⟨_,_,ns,rfl,rfl,ho,Wx ns _ hall,Ē⟩
def UO(l:OpenLaw)(args:List WData):l.row.toRowW.claim.post args (.bool eN) args=eN :=
 postW_of (r:=l.row.toRowW) (X:=(eN==eN))
  (show WShape.has [] (.bool eN) .bool=eN by first|rfl|decide|simp[WShape.has,WShape.arms,WShape.armsAll])
  (show(WTm.eq .res<|.lit<|.bool eN).value [] {args:=args,res:=eL<|.bool eN,after:=args}=eL (.bool<|eN==eN) from w_eq_bool (w_res rfl) w_lit) rfl
def attach_call{q:ß}{loose:List Str}{XP:(Str->Option Â)->þ->Prop}{YP:ñ->þ->Prop}{d:DefRec}
  (hn:l.most=eL n) (hdf:d.params.defaults=[])
  (call:∀(w:ñ) (s₀ ğ:Ä) (mg mb:Str->Option Â) (fa:È) (o:Obj) (pm cd doc:Â) (a:È) (vs:List Â) (ns:List Int),
    Ground q loose [] XP w s₀ mg mb ğ.heap->YP w ğ.heap->
    ğ.heap.get? fa=eL o->o.data=.func (docDef d.name d.params d.body d.scope pm cd doc)->ğ.heap.CodeRec cd d.name->mg d.name=eL (.ref fa)->
    ğ.heap.get? a=eL {cls:=.type "list",data:=.seq vs.toArray}->ù vs ns->ns.length<=n->ğ.gens=#[]->
    codeAny (Ù l.prog w) aj (.call (.ref fa) ⟨[.ref a],[]⟩) (λr s'=>r=.ok (.ret<|.bool eN)/\OldK ğ.heap s'.heap/\s'.os=ğ.os/\ϐ s'.gens) ğ) :
  WalkO q loose XP YP l.row.toRowW d [] (λf vs=>PySem.call f vs):=by
 intro w s₀ ğ mg mb G Y fa o pm cd doc dV kV ho hd bo hD hmg hg args aO as hpre hlay hrd hwl hlo;obtain rfl:dV=.none:=Dflts.none hD hdf;obtain rfl:kV=.none:=Dflts.noKw hD;obtain⟨a,vs,ns,rfl,rfl,dB,hints,Ē⟩:=Ao hn hpre hwl;refine enter_call<|š (call w s₀ ğ mg mb fa o pm cd doc a vs ns G Y ho (fd_plain hd) bo hmg dB hints Ē hg) λr s' hq=>?_;obtain⟨rfl,h2,h3,h4⟩:=hq;exact⟨.inl ⟨.bool eN,.bool eN,[],rfl,λ_=>rfl,.bool eN,UO l _,λ_=>⟨List.Pairwise.nil,λ_ hm=>(nomatch hm)⟩⟩,h2,h3,h4⟩
end Att
namespace L2
open PySem PySem.Spec PyProof.Rows
def Wh:∀{vs:List Â}{ns:List Int},ù vs ns->fZ (ns.map V.int) vs
 |_,_,.nil=>.nil
 |_,_,.cons n t h=>.cons ⟨t,rfl⟩<|Wh h
abbrev LE(H:Hp):Prop:=∀b,H b=eM\/∃o xs,H b=eL (.frz o<|.lst xs)
def Bu{P:ß}{w:ñ}{K:Frag}{mg mb:Str->Option Â}{CX:CXT}{k:Nat}{fa a:È}{fd:Ň}{x:Str}{sp:Sp}{ğ:Ä}{vs:List Â}{ns:List Int}
  (KX:K.In ğ.heap) (hns:ğ.heap.Ns ć mg) (hb:ğ.heap.Ns builtinsNs mb) (hbb:∀x:Str,x≠"__name__"->mb x=Ű x) (hlim:ğ.heap.NoLimit) (hg:ğ.gens=#[])
  (ha:ğ.heap.get? a=eL {cls:=.type "list",data:=.seq vs.toArray}) (hi:ù vs ns) (hl:ns.length<=Ø) (hr:fx k aj)
  (F:∀base:þ,K.In base->base.Ns ć mg->fy P w K mg base CX k fa fd [x] sp) (hbind:∀(s:Ä) (u:Â),BindsTo s fd ⟨[u],[]⟩ [(x,u)])
  (dZ:∀H:Hp,LE H->fX K H a (ns.map V.int)->sp [.ref a] H (λv _=>v=.bl eN) λ_ _ _=>False)
  (hCX:∀H e s',CX [] H ğ (λ_ _ _=>False) e s'->False) :
  codeAny (Ù P w) aj (.call (.ref fa) ⟨[.ref a],[]⟩) (λr s'=>r=.ok (.ret<|.bool eN)/\OldK ğ.heap s'.heap/\s'.os=ğ.os/\ϐ s'.gens) ğ:=by
 have rv:=Wh hi;have fM:=hi.length;have core:∀H:Hp,LE H->fX K H a (ns.map V.int)->HOk P w H ğ.heap->(∀b,H b≠eM->b=a)->(H a≠eM->K.lookup a=eM)->
   codeAny (Ù P w) aj (.call (.ref fa) ⟨[.ref a],[]⟩) (λr s'=>r=.ok (.ret<|.bool eN)/\OldK ğ.heap s'.heap/\s'.os=ğ.os/\ϐ s'.gens) ğ:=by
  intro H hO hS hok hA hK;have de:∀{b:È}{o:Obj},ğ.heap.get? b=eL o->H b=eM->(Mn ğ.heap H).get? b=eL o:=λe n=>Bt e n;have noA:∀{b:È}{o:Obj}{es:Array DictEntry}{ep:Nat},ğ.heap.get? b=eL o->o.data=.dict es ep->H b=eM:=λ{b o es ep} e d=>by
   cases q:H b with
   |none=>rfl
   |some u =>have e':b=a:=hA b (by rw[q];simp);subst e';rw[ha]at e;cases e;have d':Data.seq vs.toArray _=Data.dict es ep:=d;cases d'
  have nsK:∀{b:È}{m:Str->Option Â},ğ.heap.Ns b m->(Mn ğ.heap H).Ns b m:=λ{b m} ⟨o,es,ep,e,d,r⟩=>⟨o,es,ep,de e<|noA e d,d,r⟩
  have hKb:K.In<|Mn ğ.heap H:=λb o e=>de (KX b o e) (by
    cases q:H b with
    |none=>rfl
    |some u =>
      have e':b=a:=hA b (by rw[q];simp)
      subst e'
      rw[hK<|by rw[q];simp]at e;cases e)
  have hM:Mod K mg<|Mn ğ.heap H:=⟨hKb,nsK hns,⟨mb,nsK hb,hbb⟩,let ⟨mc,h1,h2⟩:=hlim;⟨mc,nsK h1,h2⟩⟩
  have e0:Env0 P w K mg (Mn ğ.heap H) aj [] ğ H:=⟨rfl,hM,λb o e=>Ef e,Nat.le_of_eq<|Am _ _,trivial,λb hb=>gp (show b∈([]:List È) from hb) (by simp),hok,.of_eq hg⟩
  refine š ((F _ hKb<|nsK hns).run aj [] ğ H ⟨[.ref a],[]⟩ [.ref a] [.ref a] _ _ hr e0 (hbind ğ<|.ref a) (.cons rfl .nil)<|dZ H hO hS) λr s' h=>?_;cases r with
  |error e=>exact(hCX H e s' h).elim
  |ok fl =>
   cases fl with
   |next=>exact ø h
   |brk=>exact ø h
   |cont=>exact ø h
   |ret u =>
    obtain⟨v,H',os,bare,un,hok',r',q⟩:=h;have q':v=.bl eN:=q;subst q';obtain rfl:u=Value.bool eN:=r';refine⟨rfl,OldK.of_keep λb o e=>?_,os,bare⟩;cases q:H b with
    |none=>exact un.keep b o e q (by intro z;exact gp (show b∈([]:List È) from z)<|by simp) (by simp)
    |some u =>
     rcases hO b with z|⟨ob,xs,z⟩
     .rw[q]at z;cases z
     .have z2:=un.frzs b ob _ z;obtain⟨e1,_⟩:=hok b _ z;obtain⟨e2,_⟩:=hok' b _ z2;rw[e]at e1;cases e1;exact e2
 cases hk:K.lookup a with
 |some o =>have e:=KX a o hk;rw[ha]at e;cases e;refine core (λ_=>eM) (λ_=>.inl rfl) (.inr ⟨_,vs.toArray,_,hk,rfl,rfl,rfl,by rw[Î,fM];exact hl,by simpa using rv⟩) (λb u z=>by have z':(eM:Option HO)=eL u:=z;cases z') (λb z=>gp rfl z) λz=>gp rfl z
 |none =>
  refine core (λb=>if b=a then eL (.frz {cls:=.type "list",data:=.seq vs.toArray}<|.lst<|ns.map V.int)else eM) (λb=>?_) (.inl<|.inr ⟨{cls:=.type "list",data:=.seq vs.toArray},gg rfl⟩) (λb u z=>?_) (λb z=>?_) λ_=>hk
  .by_cases hb:b=a
   .exact .inr ⟨_,_,gg hb⟩
   .exact .inl<|gh hb
  .by_cases hb:b=a
   .have z':=(gg hb).symm.trans z;cases z';subst hb;exact⟨ha,by rw[Ã];exact hl,vs,_,rv,ha⟩
   .have z':=(gh hb).symm.trans z;cases z'
  .by_cases hb:b=a
   .exact hb
   .exact gp (gh hb) z
abbrev Yw(s:ħ):Arguments:=match s with
 |.FunctionDef _ a _ _ _ _ _ _ _ _=>a
 |_=>{posonlyargs:=[],args:=[],vararg:=eM,kwonlyargs:=[],kw_defaults:=[],kwarg:=eM,defaults:=[]}
abbrev ZD(s:ħ):List ħ:=match s with
 |.FunctionDef _ _ b _ _ _ _ _ _ _=>b
 |_=>[]
abbrev Zf(s:ħ):ν:=match s with
 |.FunctionDef _ _ _ _ _ _ sc _ _ _=>sc
 |_=>{kind:=.function,names:=[],isGenerator:=eP,isCoroutine:=eP}
noncomputable abbrev CX0:CXT:=λ_ _ _ _ _ _=>False
structure Fun(K:Frag)(x qual:Str)(st:ħ)(f:È)(fd:Ň):Prop where
 ex:∃(oc:Â) (od:Option È) (kV doc pm:Â) (an:Option È) (ϕ ct:Â) (osl:Array<|Option Â),
  fd=PySem.W.fnOf x qual (Yw st) (ZD st) (Zf st) .none kV doc pm an ϕ ct/\K.lookup f=eL ⟨oc,od,.func fd,osl⟩/\PySem.W.codeIn K ϕ qual=eN
 kp:PySem.W.keepIn K (.ref f)=eN
section
variable {P:ß}{w:ñ}{K:Frag}{mg:Str->Option Â}{base:þ}
variable {x:Str} {qual:Str} {st:ħ} {f:È} {fd:Ň} {ps:List Str}
def Fun.ok{N:List Str}{k:Nat}{sp:Sp}(F:Fun K x qual st f fd)(S:FnScope N ps<|Zf st)(len:∀vs H Q E,sp vs H Q E->vs.length=ps.length)
  (bX:∀(ϕ:Â) (A:ā) (outer:List Env) (s:Ä) (H:Hp) (vs:List V) (Q:VK) (E:XK),fx k (A.deeper<|Ϻ qual (Zf st) s.heap.objs.size f ϕ)->sp vs H Q E->
    ∃t,PSs (JR CX0 P w K mg base N qual (Zf st) f ϕ A outer s H E).nox (ZD st) t/\t { nx:=λ_ H'=>Q .non H',rt:=Q } (start N vs) H):fy P w K mg base CX0 (k+1) f fd ps sp:=by
 obtain⟨oc,od,kV,doc,pm,an,ϕ,ct,osl,rfl,lk,bo⟩:=F.ex;refine Gn lk bo S len λA outer s H vs Q E hr dZ=>?_;obtain⟨t,h,q⟩:=bX ϕ A outer s H vs Q E hr dZ;exact⟨t,h.nox,q⟩
def Fun.binds(F:Fun K x qual st f fd)
  (h:∀(kV doc pm:Â) (an:Option È) (ϕ ct:Â) (us:List Â),us.length=ps.length->bindArgs (PySem.W.fnOf x qual (Yw st) (ZD st) (Zf st) .none kV doc pm an ϕ ct) ⟨us,[]⟩=pure (ps.zip us)):Binds K fd ps []:=by
 obtain⟨oc,od,kV,doc,pm,an,ϕ,ct,osl,rfl,lk,bo⟩:=F.ex;exact .all<|h kV doc pm an ϕ ct
def AR{oc:Â}{od an:Option È}{osl:Array (Option Â)}{kV doc pm ϕ ct:Â}(l:K.lookup f=eL ⟨oc,od,.func<|PySem.W.fnOf x qual (Yw st) (ZD st) (Zf st) .none kV doc pm an ϕ ct,osl⟩)
  (c:PySem.W.codeIn K ϕ qual=eN) (k:PySem.W.keepIn K (.ref f)=eN):Fun K x qual st f<|PySem.W.fnOf x qual (Yw st) (ZD st) (Zf st) .none kV doc pm an ϕ ct:=⟨⟨oc,od,kV,doc,pm,an,ϕ,ct,osl,rfl,l,c⟩,k⟩
end
abbrev Same(H H':Hp):Prop:=∀b o,H b=eL o->H' b=eL o
def Same.refl(H:Hp):Same H H:=λ_ _ h=>h
variable {H:Hp}
def Same.trans{H1 H2:Hp}(a:Same H H1)(b:Same H1 H2):Same H H2:=λc o h=>b c o (a c o h)
variable {H':Hp}
def Same.free(e:Same H H'){l:È}(h:H' l=Option.none):H l=Option.none:=by
 cases q:H l with
 |none=>rfl
 |some o =>rw[e l o q]at h;cases h
def Same.seq{K:Frag}{a:È}{xs:List V}(e:Same H H')(h:fX K H a xs):fX K H' a xs:=by
 rcases h with(h|⟨o,h⟩)|h
 .exact .inl<|.inl<|e _ _ h
 .exact .inl<|.inr ⟨o,e _ _ h⟩
 .exact .inr h
end L2
set_option maxHeartbeats 4000000
namespace L2
open PySem PySem.Spec PyProof.Rows
variable {P:ß} {w:ñ} {H:Hp} {h:þ}
def HOk.track{a:È}{o:HO}(x:HOk P w H h)(hn:H a=eM)(new:eZ P w (upd H a o) h a o):HOk P w (upd H a o) h:=λb u e=>by
 by_cases hb:b=a
 .subst hb;rw[eR]at e;cases e;exact new
 .rw[eQ hb]at e;exact(x b u e).stay (λc v _ q=>q) (λc q=>by rw[eQ<|Ze q hn];exact q) λc xs q=>by rw[eQ<|Ze q hn];exact q
def HOk.same{h':þ}{C:È}(x:HOk P w H h)(hn:H C=eM)(hs:Œ C h h'):HOk P w H h':=λb u e=>by
 refine(x b u e).stay (λc v hc q=>hs.extBut c v ?_ q) (λ_ q=>q) λ_ _ q=>q;rcases hc with z|z
 .rw[z];exact Ze e hn
 .exact Ze z hn
abbrev Zq(X:Cx)(scope:ν)(N':List Str)(cl:List<|Str×È)(C:È)(s:Ä)(H:Hp)(ex:List È):Cx where
 prog:=X.prog
 w:=X.w
 K:=X.K
 mg:=X.mg
 base:=X.base
 A:=X.A
 N:=N'
 s₀:=s
 H₀:=H
 env:=compEnvC scope cl C X.env
 outer:=X.stack
 stack:=X.stack
 ex:=ex
 fn:=λ_=>eP
 calm:=X.calm
 pn:=[]
 xe:=λ_ _=>False
abbrev ZZ(X:Cx)(x:List Str)(ô:List Nat):List Str:=x++ô.map λj=>X.N.getD j Str.empty
abbrev On(σ:St)(ô:List Nat):St:=ô.map λj=>(σ[j]?).getD eM
structure BlkOk(X:Cx)(scope:ν)(x:List Str)(ô:List Nat):Prop where
 kind:scope.kind=.function
 nocell:∀y∈scope.names,y.2≠.cell
 locs:∀y∈scope.names,y.2=.local->scope.names.lookup y.1=eL .local
 own:∀y∈x,scope.names.lookup y=eL .local
 frees:∀y∈scope.names,y.2=.free->X.env.kindOf y.1=eL .cell
 cap:∀j∈ô,(X.N[j]?).isSome=eN/\X.env.kindOf (X.N.getD j Str.empty)=eL .cell/\scope.names.lookup (X.N.getD j Str.empty)=eL .free
 nd:(ZZ X x ô).Nodup
def YA{env:Env}:∀(names:List<|Str×ϝ) (Ĵ:List<|Str×È),(∀y∈names,y.2=.free->∃c,env.cells.lookup y.1=eL c)->(∀x c,Ĵ.lookup x=eL c->env.cells.lookup x=eL c)->
  ∃cl,(forIn names Ĵ λ(p:Str×ϝ) (r:List<|Str×È)=>(do
    if(p.2 == ĩ)=eN then do let a<-cellOf env p.1;pure (ń<|(p.1,a)::r)else pure (ń r):Sem _))=pure cl/\
   (∀x c,cl.lookup x=eL c->env.cells.lookup x=eL c)/\(∀x c,Ĵ.lookup x=eL c->∃c',cl.lookup x=eL c')/\∀x,(x,ĩ)∈names->∃c,cl.lookup x=eL c
 |[],Ĵ,_,ha=>⟨Ĵ,rfl,ha,λx c h=>⟨c,h⟩,λx h=>nomatch h⟩
 |(n,k)::r,Ĵ,hn,ha=>by
  by_cases hk:k=.free
  .subst hk;obtain⟨c,hc⟩:=hn (n,.free) è rfl;have ha':∀x d,(((n,c)::Ĵ:List<|Str×È)).lookup x=eL d->env.cells.lookup x=eL d:=λx d h=>by
    rw[à]at h;cases e:x==n with
    |true =>
     rw[e]at h;have:x=n:=by simpa using e
     subst this;cases h;exact hc
    |false=>rw[e]at h;exact ha x d h
   obtain⟨cl,h1,h2,h3,h4⟩:=YA r ((n,c)::Ĵ) (λy hy=>hn y<|Ú _ hy) ha';refine⟨cl,?_,h2,λx d h=>?_,λx hx=>?_⟩
   .rw[List.forIn_cons];have e:cellOf env n=pure c:=by unfold cellOf;rw[hc]
    simp only[beq_self_eq_true,if_true,e];exact h1
   .by_cases hx:x=n
    .subst hx;exact h3 x c (by rw[à];simp)
    .exact h3 x d (by rw[à,beq_false_of_ne hx];exact h)
   .rcases Æ.mp hx with e|hx
    .cases e;exact h3 _ c (by rw[à];simp)
    .exact h4 x hx
  .have hb:(k==ĩ)=eP:=by simpa using hk
   obtain⟨cl,h1,h2,h3,h4⟩:=YA r Ĵ (λy hy=>hn y<|Ú _ hy) ha;refine⟨cl,?_,h2,h3,λx hx=>?_⟩
   .rw[List.forIn_cons];simp only[hb,ĭ,if_false];exact h1
   .rcases Æ.mp hx with e|hx
    .cases e;exact gp rfl hk
    .exact h4 x hx
def ZU{env:Env}:∀{names:List (Str×ϝ)}{x:Str}{k:ϝ},(names.map λ(n,k)=>if(k==ĩ&&env.scope.kind == .function&&env.kindOf n==eL .cell)then(n,ej)else(n,k)).lookup x=eL k->
  (∃k0,(x,k0)∈names/\names.lookup x=eL k0/\(k0=k\/(k0=.free/\k=.cell)))
 |[],_,_,h=>by simp at h
 |(n,k0)::r,x,k,h=>by
  rw[Ï,à]at h;cases hx:x==n with
  |true =>
   have e:x=n:=by simpa using hx
   subst e;refine⟨k0,è,by rw[à];simp,?_⟩;by_cases hc:(k0==ĩ&&env.scope.kind == .function&&env.kindOf x==eL .cell)=eN
   .rw[gg hc]at h;simp at h;have:k0=.free:=by
     simp only[bAq]at hc;simpa using hc.1.1
    exact .inr ⟨this,h.symm⟩
   .rw[gh hc]at h;simp at h;exact .inl h
  |false =>
   have h':(r.map λ(n,k)=>if(k==ĩ&&env.scope.kind == .function&&env.kindOf n==eL .cell)then(n,ej)else(n,k)).lookup x=eL k:=by
    by_cases hc:(k0==ĩ&&env.scope.kind == .function&&env.kindOf n==eL .cell)=eN
    .rw[gg hc]at h;simpa[hx]using h
    .rw[gh hc]at h;simpa[hx]using h
   obtain⟨k1,a,b,c⟩:=ZU h';exact⟨k1,Ú _ a,by rw[à,hx];exact b,c⟩
abbrev PIfs(X:Cx)(bp:List Expr)(t:TT):Prop :=
 ∀(Á:List<|È×Obj) (s:Ä) (σ:St) (H:Hp) (Q:Bool->Hp->Prop),Inv X Á σ H s->t σ H Q->
  wpAny (Ù X.prog X.w) X.A (forIn bp eN λc r=>if r=eN then do let ok<-cp c X.env (eval c X.env);pure (ń ok)else pure (ń r)) (TP X Á σ Q) X.xe s
abbrev Ry:TT:=λ_ H Q=>Q eN H
variable {X:Cx}
def pifs_nil:PIfs X [] Ry:=λ_ _ _ H _ I h=>wpAny_tests_nil ⟨H,I,h⟩
def XJ{c:Expr}{t:TT}(h:PT X c t):PIfs X [c] t:=λÁ s σ H Q I hq=>wpAny_tests_one (h Á s σ H Q I hq)
abbrev Gx(J:It)(tg:TG)(tc:TT)(te:TE)(Fin:List V->Hp->Prop)(W:Nat->Nat->List V->St->Hp->Prop):Prop :=
 ∀i m ys τ H,W i m ys τ H->ys.length<Ø/\((J.stop i H/\Fin ys H)\/(J.go i H/\∃N:List V->St->Hp->Prop,(∀ys' τ' H',N ys' τ' H'->∃m',m'<m/\W (i+1) m' ys' τ' H')/\∀x H',J.yld i H x H'->
   tg x τ H' λτ' H1=>tc τ' H1 λb H2=>if b=eN then te τ' H2 λy H3=>N (ys++[y]) τ' H3 else N ys τ' H2))
abbrev Bg(wi:TI)(k:Nat)(ô:List Nat)(tg:TG)(tc:TT)(te:TE):TE:=λσ H Q=>wi σ H λJ H1=>∃W:Nat->Nat->List V->St->Hp->Prop,(∃m,W 0 m [] (Ö k eM++On σ ô) H1)/\
 Gx J tg tc te (λys H=>∀p,H p=eM->Q (.ref p) (upd H p<|.lst ys)) W
section
variable {X:Cx}{Á:List (È×Obj)}{σ:St}{H2:Hp}{s2:Ä}
variable {scope:ν} {x:List Str} {ô:List Nat} {cl:List (Str×È)} {fp:List È}
def UY{s3:Ä}{D:È}{h1:þ}{tk:Nat}{m:Str->Option Â}(B:BlkOk X scope x ô)(I2:Inv X Á σ H2 s2)(f2:∀b∈fp,Wd X Á H2 b)
  (c1:∀x c,cl.lookup x=eL c->X.env.cells.lookup x=eL c) (c2:∀x,(x,ĩ)∈scope.names->∃c,cl.lookup x=eL c)
  (I3:Inv X Á σ H2 s3) (hD:D=s2.heap.objs.size) (h3:s3.heap.objs.size=D+1) (ϯ:∀b o,s3.heap.get? b=eL o->h1.get? b=eL o) (hfp:∀b∈fp,b<s2.heap.objs.size)
  (hn:h1.Ns s3.heap.objs.size m) :
  Inv (Zq X scope (ZZ X x ô) cl s3.heap.objs.size s3 H2<|D::fp) [] (Ö x.length eM++On σ ô) H2 {s3 with heap:=h1,toks:=tk}:=by
 have neD:∀b o,s2.heap.get? b=eL o->b≠D:=λb o e=>by rw[hD];exact ä<|Õ e
 have exlt:∀b∈D::fp,b<s3.heap.objs.size:=λb hb=>by
  rw[h3];rcases Æ.mp hb with e|hb
  .rw[e];exact ı _
  .exact ķ (by rw[hD];exact hfp b hb)
 have keeps:=I3.hok.kept (h':=h1) ϯ;refine⟨⟨I2.mod,B.kind,I2.ok.glob,I2.ok.blt,Ì _,λy z c e1 e2=>?_,λy hy=>?_,λy c e _=>(by cases e),λhc=>I2.ok.hd hc,I2.ok.frames,.inl rfl,λb hb=>?_,λb o e=>?_,?_,λb o e hb=>?_,λb hb hf=>?_,I3.stack,λb hb=>I2.stkFree b hb⟩,
   rfl,I3.bare,Un.kept ϯ,⟨m,hn,λi y v e1 e2 e3=>?_⟩,λy c e=>?_,I3.hok.fresh<|Ì _,λy c e=>I3.freeC y c<|c1 y c e,λp hp=>(nomatch hp),keeps,?_⟩
 .exact I2.ok.inj y z c (c1 y c e1)<|c1 z c e2
 .have hy:(b6 scope X.env).names.lookup y=eL .cell\/(b6 scope X.env).names.lookup y=eL .free:=hy;rcases hy with hy|hy
  .obtain⟨k0,a,b,c⟩:=ZU hy;rcases c with c|⟨c,_⟩
   .subst c;exact gp rfl<|B.nocell _ a
   .subst c;exact c2 y a
  .obtain⟨k0,a,b,c⟩:=ZU hy;rcases c with c|⟨_,c⟩
   .subst c;exact c2 y a
   .cases c
 .refine⟨ä<|exlt b hb,λy c e z=>?_⟩;have e':=c1 y c e;rcases Æ.mp hb with q|q
  .obtain⟨v,o,ho,_⟩:=I2.cell y c e';exact neD c o ho<|z.trans q
  .exact(f2 b q).2.2.2.2.1 y c e' z
 .exact I3.bs b o e
 .exact Ô I2.ok.bsz (Ô I2.sz<|show s2.heap.objs.size<=s3.heap.objs.size by rw[h3,hD];exact ŀ _)
 .rcases Æ.mp hb with q|q
  .exact neD b o (I2.bk b o e) q
  .rcases (f2 b q).2.2.2.1 with z|z
   .exact I2.ok.noex b o e z
   .exact gp (â (Õ (I2.ok.bs b o e).1) z)<|Ġ _
 .have hf:b∈frs X.stack:=hf;rcases Æ.mp (I2.stkSub b hf)with z|z
  .rcases Æ.mp hb with q|q
   .exact gp I2.lt (by rw[<-z,q,hD];exact Ġ _)
   .exact(f2 b q).2.1 z
  .rcases Æ.mp hb with q|q
   .exact I2.nofs (a:=b) (by rw[q,hD];exact Ì _) z
   .exact(f2 b q).2.2.1 z
 .by_cases hik:i<x.length
  .rw[ĉ (by rw[ð];exact hik),Ő,gg hik]at e2;cases e2
  .have e1:(x++ô.map λj=>X.N.getD j Str.empty)[i]?=eL y:=e1;rw[đ<|by lia]at e1;rw[đ (by rw[ð];lia),ð]at e2;generalize i - x.length=j at e1 e2;have e2:(ô.map λj=>(σ[j]?).getD eM)[j]?=eL (eL v):=e2;rw[Ý]at e1 e2;cases hj:ô[j]? with
   |none=>rw[hj]at e1;cases e1
   |some q =>
    rw[hj]at e1 e2;have e1':X.N.getD q Str.empty=y:=ì e1;have e2':(σ[q]?).getD eM=eL v:=ì e2;obtain⟨hs,hk,hsc⟩:=B.cap q<|ó hj;obtain⟨y',hy'⟩:=ī.mp hs;have ey:y'=y:=by rw[<-e1',ý,hy'];rfl
    subst ey;have es:σ[q]?=eL (eL v):=by
     cases hq:σ[q]? with
     |none=>rw[hq]at e2';cases e2'
     |some o=>rw[hq]at e2';exact congrArg eL e2'
    rw[e1']at hk hsc;obtain⟨m2,_,hl⟩:=I3.loc;have bO:X.env.scope.names.lookup y'=eL .cell:=hk;obtain⟨u,r,l⟩:=hl q y' v hy' es<|.inr<|.inl bO;refine⟨u,r,.inr ⟨?_,?_⟩⟩
    .rcases e3 with e3|e3|e3
     .obtain⟨k0,a,b,c⟩:=ZU (show(b6 scope X.env).names.lookup y'=eL .local from e3);rw[hsc]at b;cases b;rcases c with c|⟨_,c⟩<;>cases c
     .exact .inl e3
     .exact .inr e3
    .rcases l with⟨l,_⟩|⟨_,c,hc,z⟩
     .rw[hk]at l;cases l
     .obtain⟨c',hc'⟩:=c2 y'<|PySem.mem_of_lookup hsc;have ec:c'=c:=ì<|(c1 y' c' hc').symm.trans hc;subst ec;obtain⟨o,ho,hd⟩:=z;exact⟨c',hc',o,ϯ c' o ho,hd⟩
 .obtain⟨v,o,ho,hd⟩:=I3.cell y c<|c1 y c e;exact⟨v,o,ϯ c o ho,hd⟩
 .show _=(ZZ X x ô).length;unfold ZZ On;rw[î,î,Ã,Ã,ð]
def Xk{env:Env}(h:∀y∈scope.names,y.2=.free->∃c,env.cells.lookup y.1=eL c) :
  ∃cl,closureFor scope env=pure cl/\(∀x c,cl.lookup x=eL c->env.cells.lookup x=eL c)/\∀x,(x,ĩ)∈scope.names->∃c,cl.lookup x=eL c:=by
 obtain⟨cl,h1,h2,_,h4⟩:=YA (env:=env) scope.names [] h λx c e=>nomatch e;refine⟨cl,?_,h2,h4⟩;simp only[closureFor];have e:(forIn scope.names ([]:List<|Str×È) λx r =>
     (match x with
     | (name,kind)=>if(kind == ĩ)=eN then do let a<-cellOf env name;pure (ń<|(name,a)::r)else pure (ń r):Sem<|ForInStep<|List<|Str×È))=pure cl:=h1
 first
  |(rw[e];rfl)
  |(refine Eq.trans (congrArg (· >>= pure) ?_) (rfl:(pure cl >>= pure:Sem _)=pure cl);exact e)
variable {bP:Expr} {ŷ:Expr} {bp:List Expr} {ç:Pos}
def No{prog:ß}{A:ā}{R:bz->Ä->Prop}{s:Ä}{ag:Expr}{it Ĵ:Â}{env:Env}(I:Nat->Ä->Prop)
  (turn:∀n s,I n s->wpAny (Ù prog w) A (ε it) (λr ğ=>match r with
    |none=>R (.ok .next) ğ
    | some v=>wpAny (Ù prog w) A (Ϭ ag it v) (λ_ ğ=>wpAny (Ù prog w) A (π ag env v) (λ_ bW =>
        wpAny (Ù prog w) A (forIn bp eN λc r=>if r=eN then do let ok<-cp c env (eval c env);pure (ń ok)else pure (ń r)) (λok aP =>
          if ok=eN then wpAny (Ù prog w) A (eval bP env) (λx s₄ =>
            wpAny (Ù prog w) A (call (.builtin "list.append") [Ĵ,x]) (λ_ s₅=>∃m,m<n/\I m s₅) (λ_ _=>False) s₄) (λ_ _=>False) aP
          else ∃m,m<n/\I m aP) (λ_ _=>False) bW) (λ_ _=>False) ğ) (λ_ _=>False) ğ) (λ_ _=>False) s)
  (n:Nat) (h:I n s) :
  codeAny (Ù prog w) A (.compLoop (.ListComp bP [⟨ag,ŷ,bp,0⟩] scope ç) 0 it Ĵ env) R s:=by
 refine codeAny_loop rfl I (λn s hI=>?_) n h;show wpAny _ A ((compTurn (.ListComp bP [⟨ag,ŷ,bp,0⟩] scope ç) 0 it Ĵ env).onRaise λx=>do bB x env;theTreesLotGoes x) _ _ s;refine wpAny_noted ?_;rw[compTurn_list];refine À<|dj<|À<|Ā (turn n s hI) (λr ğ bF=>?_) λ_ _ h'=>h'.elim;cases r with
 |none=>exact Ç bF
 |some v =>
  refine À<|Ā bF (λ_ ğ bF=>?_) λ_ _ h'=>h'.elim;refine À<|Ā bF (λ_ bW h₂=>À<|Ā h₂ (λok aP h₃=>?_) λ_ _ h'=>h'.elim) λ_ _ h'=>h'.elim;cases ok with
  |false=>exact Ç ⟨rfl,h₃⟩
  |true =>exact À<|À<|Ā h₃ (λx s₄ h₄=>À<|Ā h₄ (λ_ s₅ h₅=>Ç<|Ç ⟨rfl,h₅⟩) λ_ _ h'=>h'.elim) λ_ _ h'=>h'.elim
variable {bG:Expr} {tg:TG} {tc:TT} {te:TE}
def KE{it:È}{tn:Nat->þ->Prop}{J:It}{Fin:List V->Hp->Prop}{W:Nat->Nat->List V->St->Hp->Prop}{E:Â->Ä->Prop}
  {RR:Â->È->bz->Ä->Prop}{m0:Nat}(hc:X.calm=eN) (B:BlkOk X scope x ô) (I2:Inv X Á σ H2 s2) (T:Turn X.prog X.w X.K bG J fp it tn) (st2:tn 0 s2.heap) (f2:∀b∈fp,Wd X Á H2 b)
  (c1:∀x c,cl.lookup x=eL c->X.env.cells.lookup x=eL c) (c2:∀x,(x,ĩ)∈scope.names->∃c,cl.lookup x=eL c)
  (hI:∀cl C s H ex,PIfs (Zq X scope (ZZ X x ô) cl C s H ex) bp tc) (hE:∀cl C s H ex,PE (Zq X scope (ZZ X x ô) cl C s H ex) bP te)
  (hG:∀cl C s H ex,PG (Zq X scope (ZZ X x ô) cl C s H ex) bG tg) (w0:W 0 m0 [] (Ö x.length eM++On σ ô) H2) (cw:Gx J tg tc te Fin W)
  (hRR:∀D C s' H' ys m,H' D=eM->s'.heap.Ns C m->Wd X Á (upd H' D<|.lst ys) C->Inv X Á σ (upd H' D<|.lst ys) s'->Fin ys H'->RR (.ref D) C (.ok .next) s') :
  wpAny (Ù X.prog X.w) X.A (newList []) (λĴ aP=>wpAny (Ù X.prog X.w) X.A (newFunctionEnv scope X.env.globals cl [] X.env.qual eM .none<|eL X.env) (λcenv s₄ =>
    codeAny (Ù X.prog X.w) X.A (.compStart (.ListComp bP [⟨bG,ŷ,bp,0⟩] scope ç) 0 (.ref it) Ĵ { cenv with scope:=b6 scope X.env }) (RR Ĵ cenv.locals) s₄) E aP) E s2:=by
 refine ÿ (wpAny_newFunctionEnv B.nocell (by intro y hy;simp at hy) (λbF cO cP=>?_) B.kind);dsimp only at cO cP ⊢;have hfp:∀b∈fp,b<s2.heap.objs.size:=λb hb=>by obtain⟨o,e,_⟩:=T.obj _ _ st2 b hb;exact Õ e
 have I3:Inv X Á σ H2 {s2 with heap:=s2.heap.push {cls:=.type "list",dict:=eM,data:=.seq ([]:List Â).toArray}}:=I2.kept (t':=s2.toks) λb o e=>Å _ e;have h3:(s2.heap.push {cls:=.type "list",dict:=eM,data:=.seq ([]:List Â).toArray}).objs.size=s2.heap.objs.size+1:=Ż ..;have dB:(s2.heap.push {cls:=.type "list",dict:=eM,data:=.seq ([]:List Â).toArray}).get? s2.heap.objs.size=eL {cls:=.type "list",dict:=eM,data:=.seq ([]:List Â).toArray}:=Ñ _ rfl;have cQ:∀b o,s2.heap.get? b=eL o->(s2.heap.push {cls:=.type "list",dict:=eM,data:=.seq ([]:List Â).toArray}).get? b=eL o:=λb o e=>Å _ e;generalize hH3:s2.heap.push {cls:=.type "list",dict:=eM,data:=.seq ([]:List Â).toArray}=h3' at cO cP I3 h3 dB cQ ⊢;have ϯ:∀b o,h3'.get? b=eL o->bF.get? b=eL o:=λb o e=>cP.extBut b o (ä<|Õ e)<|Å _ e;have hDC:s2.heap.objs.size≠h3'.objs.size:=by rw[h3];exact ä<|ı _
 have IB:=UY (cl:=cl) (fp:=fp) (s3:={s2 with heap:=h3'}) (D:=s2.heap.objs.size) (h1:=bF) (tk:=s2.toks+([]:List<|Str×Â).length) B I2 f2 c1 c2 I3 rfl h3 ϯ hfp cO;generalize hY:Zq X scope (ZZ X x ô) cl h3'.objs.size {s2 with heap:=h3'} H2 (s2.heap.objs.size::fp)=Y at IB;have yP:Y.prog=X.prog:=by rw[<-hY];rfl
 have yw:Y.w=X.w:=by rw[<-hY];rfl
 have yK:Y.K=X.K:=by rw[<-hY];rfl
 have yA:Y.A=X.A:=by rw[<-hY];rfl
 have yc:Y.calm=eN:=by rw[<-hY];exact hc
 have yenv:Y.env=compEnvC scope cl h3'.objs.size X.env:=by rw[<-hY];rfl
 have hIY:PIfs Y bp tc:=by rw[<-hY];exact hI _ _ _ _ _
 have hEY:PE Y bP te:=by rw[<-hY];exact hE _ _ _ _ _
 have yxe:Y.xe=λ_ _=>False:=by rw[<-hY];rfl
 have ypn:Y.pn=[]:=by rw[<-hY];rfl
 have hgN:PG Y bG tg:=by rw[<-hY];exact hG _ _ _ _ _
 have fD:∀{H':Hp},H' s2.heap.objs.size=eM->Wd Y [] H' s2.heap.objs.size:=λ{H'} hn=>by
  refine⟨hn,?_,?_,?_,?_,λp hp=>?_⟩
  .rw[yenv];exact hDC
  .exact IB.ok.exfs _ (by rw[<-hY];exact è)
  .exact .inl (by rw[<-hY];exact è)
  .exact λy c e=>(IB.ok.exf _<|by rw[<-hY];exact è).2 y c e
  .rw[ypn]at hp;exact nomatch hp
 have fF:∀{H':Hp},(∀b∈fp,H' b=eM)->∀b∈fp,Wd Y [] H' b:=λ{H'} hn b hb=>by
  have hm:b∈Y.ex:=by rw[<-hY];exact Ú _ hb
  refine⟨hn b hb,?_,IB.ok.exfs b hm,.inl hm,λy c e=>(IB.ok.exf b hm).2 y c e,λp hp=>?_⟩
  .exact(IB.ok.exf b hm).1
  .rw[ypn]at hp;exact nomatch hp
 have acc0:bF.PlainList s2.heap.objs.size ([]:List Â).toArray:=⟨0,by exact ϯ _ _ dB⟩
 have loop:∀aP:Ä,aP={s2 with heap:=bF,toks:=s2.toks+([]:List<|Str×Â).length}->
   codeAny (Ù X.prog X.w) X.A (.compLoop (.ListComp bP [⟨bG,ŷ,bp,0⟩] scope ç) 0 (.ref it) (.ref s2.heap.objs.size)<|compEnvC scope cl h3'.objs.size X.env) (RR (.ref s2.heap.objs.size) h3'.objs.size) aP:=by
  rintro aP rfl;refine No (λn s'=>∃i ys ò τ H',Inv Y [] τ H' s'/\tn i s'.heap/\(∀b∈fp,H' b=eM)/\H' s2.heap.objs.size=eM/\fZ ys ò/\s'.heap.PlainList s2.heap.objs.size ò.toArray/\W i n ys τ H') ?_ m0
   ⟨0,[],[],_,H2,IB,T.keep _ _ _ st2 λb hb o e=>ϯ _ _<|cQ _ _ e,λb hb=>(f2 b hb).1,I2.fresh,.nil,acc0,w0⟩
  rintro n s3 ⟨i,ys,ò,τ,H3,I3',st3,fr3,frD,rv,pl,w3⟩;have cv:∀{α:Type}{f:Sem α}{Q Q':α->Ä->Prop}{s:Ä},wpAny (Ù Y.prog Y.w) Y.A f Q Y.xe s->(∀a s',Q a s'->Q' a s')->wpAny (Ù X.prog X.w) X.A f Q' (λ_ _=>False) s:=λ{α f Q Q' s} h hq=>by rw[yP,yw,yA,yxe]at h;exact Ā h hq λ_ _ e=>e
  have cvX:∀{α:Type}{f:Sem α}{Q Q':α->Ä->Prop}{s:Ä},wpAny (Ù X.prog X.w) Y.A f Q (λ_ _=>False) s->(∀a s',Q a s'->Q' a s')->wpAny (Ù X.prog X.w) X.A f Q' (λ_ _=>False) s:=λ{α f Q Q' s} h hq=>by rw[yA]at h;exact Ā h hq λ_ _ e=>e
  obtain⟨nD,hD3⟩:=id pl;have plD:∀b∈[s2.heap.objs.size],∃o,s3.heap.get? b=eL o/\∀v,o.data≠.cell v:=λb hb=>by
   have e:b=s2.heap.objs.size:=by simpa using hb
   subst e;exact⟨_,hD3,λv z=>by cases z⟩
  have IP:=I3'.pinned (fp:=[s2.heap.objs.size]) (λb hb=>by
    have e:b=s2.heap.objs.size:=by simpa using hb
    subst e
    exact fD frD) plD
  have memD:=ZQ (fp:=[s2.heap.objs.size]) (é.mpr rfl) hD3;have fF':∀b∈fp,Wd Y ([]++Xr [s2.heap.objs.size] s3.heap) H3 b:=λb hb=>by
   obtain⟨q1,q2,q3,q4,q5,q6⟩:=fF fr3 b hb;refine⟨q1,q2,q3,q4,q5,λp hp=>?_⟩;rw[ypn]at hp;obtain⟨bY,_⟩:=Kg (show p∈Xr [s2.heap.objs.size] s3.heap by simpa using hp);have e:p.1=s2.heap.objs.size:=by simpa using bY
   rw[e];exact(ä<|hfp b hb).symm
  obtain⟨hys,h|⟨go,N,hN,step⟩⟩:=cw i n ys τ H3 w3
  .obtain⟨stop,fin⟩:=h;refine cvX (T.done Y yP yw yK yc i _ s3 _ H3 _ IP fF' st3 stop) λr s4 ⟨hr,I4⟩=>?_;subst hr;obtain⟨m4,hm4,_⟩:=I4.loc;rw[yenv]at hm4;have aQ:Un (frs X.stack) (s2.heap.objs.size::fp) H2 H3 h3' s4.heap:=by
    have:=I4.base;rw[<-hY]at this;exact this
   have hok4:HOk X.prog X.w H3 s4.heap:=by have:=I4.hok;rw[yP,yw]at this;exact this
   have pl4:=(I4.pin _<|Ê _<|Ê _ memD).1;have nC:H3 h3'.objs.size=eM:=by have:=I4.free;rw[yenv]at this;exact this
   have Ē:ys.length<=Ø:=ψ hys;have osEq:s4.os=s2.os:=by have:=I4.os;rw[<-hY]at this;exact this
   have neD:∀b o,s2.heap.get? b=eL o->b≠s2.heap.objs.size:=λb o e=>ä<|Õ e;have nin:∀b o,s2.heap.get? b=eL o->b∉fp->b∉s2.heap.objs.size::fp:=λb o e hb z=>(Æ.mp z).elim (neD b o e) hb;have hokN:HOk X.prog X.w (upd H3 s2.heap.objs.size<|.lst ys) s4.heap:=hok4.track frD ⟨Ē,ò,nD,rv,pl4⟩;have U:Un (frs X.stack) fp H2 (upd H3 s2.heap.objs.size<|.lst ys) s2.heap s4.heap:=by
    refine⟨λb o e hn hf hx=>aQ.keep b o (cQ b o e) hn hf<|nin b o e hx,λb o e hn hf hx=>aQ.slot b o (cQ b o e) hn hf<|nin b o e hx,λb o e hn hx=>?_,λb o e hx=>aQ.there b o (cQ b o e)<|nin b o e hx,λb xs e=>?_,λb o xs e=>?_,λb ps e=>?_⟩
    .rw[eQ<|neD b o e];exact aQ.free b o (cQ b o e) hn<|nin b o e hx
    .have q:=aQ.tups b xs e;rw[eQ<|Ze q frD];exact q
    .have q:=aQ.frzs b o xs e;rw[eQ<|Ze q frD];exact q
    .obtain⟨more,q⟩:=aQ.tbls b ps e;exact⟨more,by rw[eQ<|Ze q frD];exact q⟩
   have I5:Inv X Á σ (upd H3 s2.heap.objs.size<|.lst ys) s4:=I2.call' (ch:=fp) osEq U hokN I4.bare λb hb=>by obtain⟨_,q2,_,q4,q5,q6⟩:=f2 b hb;exact⟨q4,q2,q5,q6⟩
   exact hRR _ _ _ _ _ m4 frD hm4 (I2.fpOk (ψ<|by rw[h3];exact ı _)<|by rw[eQ hDC.symm];exact nC) I5 fin
  .refine cvX (T.item Y yP yw yK yc i _ s3 _ H3 _ IP fF' st3 go) λr s4 ⟨u,hr,h4⟩=>?_;subst hr;refine cvX h4 λ_ s5 ⟨y,H5,I5,r5,y5,st5,fr5⟩=>?_;have frD5:H5 s2.heap.objs.size=eM:=(I5.pin _<|Ê _<|Ê _ memD).2.1;have hD5:=(I5.pin _<|Ê _<|Ê _ memD).1;have I5p:=I5.unpinned.pinned (fp:=s2.heap.objs.size::fp) (λb hb=>by
     rcases Æ.mp hb with e|hb
     . subst e;exact fD frD5
     . exact fF fr5 b hb) (λb hb=>by
     rcases Æ.mp hb with e|hb
     . subst e;exact⟨_,hD5,λv z=>by cases z⟩
     . exact T.obj _ _ st5 b hb)
   have memD5:=ZQ (fp:=s2.heap.objs.size::fp) è hD5;rw[<-yenv];refine cv (hgN _ s5 _ H5 y u _ I5p r5<|step y H5 y5) λ_ s6 ⟨σ6,H6,I6,q6⟩=>?_;have Ϙ:∀{m':Nat}{bD:St}{H7:Hp}{s7:Ä}{ys':List V}{its':List Â},Inv Y [] bD H7 s7->tn (i+1) s7.heap->(∀b∈fp,H7 b=eM)->H7 s2.heap.objs.size=eM->fZ ys' its'->s7.heap.PlainList s2.heap.objs.size its'.toArray->m'<n/\W (i+1) m' ys' bD H7->
     ∃m,m<n/\∃i ys ò τ H',Inv Y [] τ H' s7/\tn i s7.heap/\(∀b∈fp,H' b=eM)/\H' s2.heap.objs.size=eM/\fZ ys ò/\s7.heap.PlainList s2.heap.objs.size ò.toArray/\W i m ys τ H' :=
    λ{m' bD H7 s7 ys' its'} J1 st7 fr7 fd7 rv7 pl7 wm=>⟨m',wm.1,i+1,ys',its',bD,H7,J1,st7,fr7,fd7,rv7,pl7,wm.2⟩
   have stay:∀{bD:St}{H7:Hp}{s7:Ä},Inv Y ([]++Xr (s2.heap.objs.size::fp) s5.heap) bD H7 s7->tn (i+1) s7.heap/\(∀b∈fp,H7 b=eM)/\H7 s2.heap.objs.size=eM/\s7.heap.get? s2.heap.objs.size=eL {cls:=.type "list",data:=.seq ò.toArray nD}:=by intro bD H7 s7 J1;refine⟨T.keep _ _ _ st5 λb hb o e=>(J1.pin (b,o)<|Ê _<|Ê _<|ZQ (Ú _ hb) e).1,λb hb=>?_,(J1.pin _<|Ê _<|Ê _ memD5).2.1,(J1.pin _<|Ê _<|Ê _ memD5).1⟩;obtain⟨o,e,d⟩:=T.obj _ _ st5 b hb;exact(J1.pin (b,o)<|Ê _<|Ê _<|ZQ (Ú _ hb) e).2.1
   refine cv (hIY _ s6 _ H6 _ I6 q6) λok s7 ⟨H7,I7,q7⟩=>?_;cases ok with
   |false =>rw[gh<|by decide]at q7;rw[gh<|by decide];obtain⟨m',wm⟩:=hN _ _ _ q7;obtain⟨a1,a2,a3,a4⟩:=stay I7;exact Ϙ I7.unpinned a1 a2 a3 rv ⟨nD,a4⟩ wm
   |true =>
    rw[gg rfl]at q7;rw[gg rfl];refine cv (hEY _ s7 _ H7 _ I7 q7) λz s8 ⟨vz,H8,I8,rz,wm⟩=>?_;obtain⟨m',wm⟩:=hN _ _ _ wm;obtain⟨a1,a2,a3,a4⟩:=stay I8;have Ē:=rv.length;refine wpAny_list_append_plain (hsz:=by rw[Î];lia) (⟨nD,a4⟩:s8.heap.PlainList _ ò.toArray) λh9 hl9 hs9=>?_;obtain⟨q1,q2,q3,q4,q5,q6⟩:=fD a3;have I9:Inv Y [] _ H8 {s8 with heap:=h9}:=I8.unpinned.turned (t':=s8.toks) (λb o hb e=>hs9.extBut b o hb e) q1 q2 q4 q5 q6;refine Ϙ I9 (T.keep _ _ _ a1 λb hb o e=>hs9.extBut b o (ä<|hfp b hb) e) a2 a3 (its':=ò++[z]) (rv.append<|.cons rz .nil) ?_ wm;have e:ò.toArray.push z=(ò++[z]).toArray:=by simp
    rw[e]at hl9;exact hl9
 exact codeAny_compStart_list (loop _ rfl)<|T.self _ 0 _ _ _ (T.keep _ _ _ st2 λb hb o e=>ϯ _ _<|cQ _ _ e)<|loop _ rfl
variable {wi:TI}
def Bs(hc:X.calm=eN)(B:BlkOk X scope x ô)(hi:PI X bG ŷ wi)(hG:∀cl C s H ex,PG (Zq X scope (ZZ X x ô) cl C s H ex) bG tg)
  (hI:∀cl C s H ex,PIfs (Zq X scope (ZZ X x ô) cl C s H ex) bp tc) (hE:∀cl C s H ex,PE (Zq X scope (ZZ X x ô) cl C s H ex) bP te)
  (hs:∀x,ė ŷ X.env x=pure x:=by intro _;rfl):PE X (.ListComp bP [⟨bG,ŷ,bp,0⟩] scope ç)<|Bg wi x.length ô tg tc te:=by
 intro Á s σ H Q I h;obtain⟨cl,aD,c1,c2⟩:=Xk (scope:=scope) (env:=X.env) λy hy e=>I.ok.has y.1<|.inl<|B.frees y hy e;rw[eval_ListComp];refine dq (use:=eM) rfl hs aD B.kind B.locs<|thn (hi Á s σ H _ I h) λv s1 h1=>thn h1 λitv s2 h2=>?_;obtain⟨it,fp,tn,J,H2,e,I2,T,st2,f2,W,⟨m0,w0⟩,cw⟩:=h2;subst e;refine KE (RR:=λĴ C=>compPost (Ù X.prog X.w) X.A X.xe eM (EP X Á σ Q) Ĵ C) hc B I2 T st2 f2 c1 c2 hI hE hG w0 cw ?_;intro D C s' H' ys m hD hn fC I' fin;obtain⟨q1,q2,q3,q4,q5,q6⟩:=fC;exact⟨m,hn,λh' hs'=>⟨.ref D,_,I'.turned (t':=s'.toks) (λb o hb e=>hs'.extBut b o hb e) q1 q2 q4 q5 q6,rfl,fin D hD⟩⟩
def Dp{y:Str}{py:Pos}{i:Nat}{ϡ:Pos}(hN:X.N.Nodup)(hi':X.N[i]?=eL y)(hy:Loc X.env.scope y)(hc:X.calm=eN)(B:BlkOk X scope x ô)(hi:PI X bG ŷ wi)(hG:∀cl C s H ex,PG (Zq X scope (ZZ X x ô) cl C s H ex) bG tg)
  (hI:∀cl C s H ex,PIfs (Zq X scope (ZZ X x ô) cl C s H ex) bp tc) (hE:∀cl C s H ex,PE (Zq X scope (ZZ X x ô) cl C s H ex) bP te)
  (hs:∀x,ė ŷ X.env x=pure x:=by intro _;rfl)
  (hsw:Ŧ (.ListComp bP [⟨bG,ŷ,bp,0⟩] scope ç) (eL<|.Name y py) ϡ.line X.env=pure eN:=by rfl)
  (hf:X.fn y=eN\/X.env.scope.names.lookup y=eL .local:=by first|exact .inl rfl|exact .inr rfl|assumption) :
  PS X (.Assign [.Name y py] (.ListComp bP [⟨bG,ŷ,bp,0⟩] scope ç) ϡ) (Qi (Bg wi x.length ô tg tc te)<|Ga i):=by
 intro Á s σ H D I h;obtain⟨cl,aD,c1,c2⟩:=Xk (scope:=scope) (env:=X.env) λy hy e=>I.ok.has y.1<|.inl<|B.frees y hy e;rw[exec_Assign_Name_used _ _ _ _ hsw];refine À<|dj<|À ?_;show wpAny _ X.A (do let _<-comprehension (.ListComp bP [⟨bG,ŷ,bp,0⟩] scope ç) scope X.env _ (newList []) eP (eval ŷ X.env) (eL<|π (.Name y py) X.env)) _ _ s;refine À (Ā (dq (use:=eL<|π (.Name y py) X.env) (Q:=λ_ s'=>SP X Á D .next s') rfl hs aD B.kind B.locs
   (thn (hi Á s σ H _ I h) λv s1 h1=>thn h1 λitv s2 h2=>?_)) (λ_ s' hq=>Ç<|Ç hq) λ_ _ e=>e)
 obtain⟨it,fp,tn,J,H2,e,I2,T,st2,f2,W,⟨m0,w0⟩,cw⟩:=h2;subst e;refine KE (RR:=λĴ C=>compPost (Ù X.prog X.w) X.A X.xe (eL<|π (.Name y py) X.env) (λ_ s'=>SP X Á D .next s') Ĵ C) hc B I2 T st2 f2 c1 c2 hI hE hG w0 cw ?_;intro Dd C s' H' ys m hD hn fC I' fin;obtain⟨q1,q2,q3,q4,q5,q6⟩:=fC;show wpAny _ _ (π (.Name y py) X.env<|.ref Dd) _ _ _;refine wpAny_assign_Name<|Kf I' hN hi' hy (v:=.ref Dd) rfl (λs2 I2 ⟨a,hs2,ha⟩=>?_) hf;have ne:C≠a:=by
  rcases ha with z|z
  .rw[z];exact q2
  .exact(q5 y a z).symm
 refine⟨m,hn.sameBut hs2 ne,λh' hs'=>?_⟩;exact⟨_,_,I2.turned (t':=s2.toks) (λb o hb e=>hs'.extBut b o hb e) q1 q2 q4 q5 q6,fin Dd hD⟩
end
mutual
inductive IsD (K:Frag) (H:Hp):V->Ũ->Prop
 |non:IsD K H .non .none
 |bl (b:Bool):IsD K H (.bl b)<|.bool b
 |int (i:Int):IsD K H (.int i)<|.int i
 |str (x:Str):IsD K H (.str x)<|.str x
 |lst {a:È}{xs:List V}{ds:List Ũ}:fX K H a xs->IsDs K H xs ds->IsD K H (.ref a) (.list ds)
 |tup {a:È}{xs:List V}{ds:List Ũ}:fY K H a xs->IsDs K H xs ds->IsD K H (.ref a) (.tuple ds)
inductive IsDs (K:Frag) (H:Hp):List V->List Ũ->Prop
 |nil:IsDs K H [] []
 |cons {x:V}{xs:List V}{d:Ũ}{ds:List Ũ}:IsD K H x d->IsDs K H xs ds->IsDs K H (x::xs) (d::ds)
end
section
variable {X:Cx}{Á:List (È×Obj)}{σ:St}{H:Hp}{s:Ä}
mutual
theorem IsD.reads(I:Inv X Á σ H s):∀{v:V}{d:Ũ}{u:Â},IsD X.K H v d->RelV v u->∃as,Reads s.heap u d as
 |_,_,_,.non,r=>by cases r;exact⟨_,.none⟩
 |_,_,_,.bl b,r=>by cases r;exact⟨_,.bool b⟩
 |_,_,_,.int i,r=>by obtain⟨t,rfl⟩:=r;exact⟨_,.int i t⟩
 |_,_,_,.str x,r=>by obtain⟨t,rfl⟩:=r;exact⟨_,.str x t⟩
 |_,_,_,.lst q qs,r=>by cases r;obtain⟨ò,rv,⟨o,n,e,c,_,d⟩,_⟩:=I.list q;obtain⟨as,ra⟩:=IsDs.reads I qs rv;exact⟨_,.list e c d<|by simpa using ra⟩
 |_,_,_,.tup q qs,r=>by cases r;obtain⟨ò,rv,⟨o,e,c,n,d⟩,_⟩:=I.tuple q;obtain⟨as,ra⟩:=IsDs.reads I qs rv;exact⟨_,.tuple e c d<|by simpa using ra⟩
theorem IsDs.reads(I:Inv X Á σ H s):∀{vs:List V}{ds:List Ũ}{us:List Â},IsDs X.K H vs ds->fZ vs us->∃as,ReadsAll s.heap us ds as
 |_,_,_,.nil,.nil=>⟨_,.nil⟩
 |_,_,_,.cons q qs,.cons r rs=>by obtain⟨as,ra⟩:=IsD.reads I q r;obtain⟨bs,rb⟩:=IsDs.reads I qs rs;exact⟨_,.cons ra rb⟩
end
end
variable {H:Hp}
def Same.sqT{K:Frag}{H':Hp}{a:È}{xs:List V}(e:Same H H')(h:fY K H a xs):fY K H' a xs:=by
 rcases h with(h|⟨o,h⟩)|h
 .exact .inl<|.inl<|e _ _ h
 .exact .inl<|.inr ⟨o,e _ _ h⟩
 .exact .inr h
mutual
theorem IsD.same{K:Frag}{H H':Hp}(e:Same H H'):∀{v:V}{d:Ũ},IsD K H v d->IsD K H' v d
 |_,_,.non=>.non
 |_,_,.bl b=>.bl b
 |_,_,.int i=>.int i
 |_,_,.str x=>.str x
 |_,_,.lst q qs=>.lst (e.seq q)<|IsDs.same e qs
 |_,_,.tup q qs=>.tup (e.sqT q)<|IsDs.same e qs
theorem IsDs.same{K:Frag}{H H':Hp}(e:Same H H'):∀{vs:List V}{ds:List Ũ},IsDs K H vs ds->IsDs K H' vs ds
 |_,_,.nil=>.nil
 |_,_,.cons q qs=>.cons (IsD.same e q)<|IsDs.same e qs
end
def IsDs.ints{K:Frag}{H:Hp}:∀ns:List Int,IsDs K H (ns.map V.int) (ns.map PyData.int)
 |[]=>.nil
 |n::ns=>.cons (.int n)<|IsDs.ints ns
def IsDs.length{K:Frag}{H:Hp}:∀{vs:List V}{ds:List Ũ},IsDs K H vs ds->vs.length=ds.length
 |_,_,.nil=>rfl
 |_,_,.cons _ t=>by rw[Ë,Ë,IsDs.length t]
def IsDs.get{K:Frag}{H:Hp}:∀{vs:List V}{ds:List Ũ}{i:Nat}{v:V},IsDs K H vs ds->vs[i]?=eL v->∃d,ds[i]?=eL d/\IsD K H v d
 |_,_,_,_,.nil,e=>by simp at e
 |_,_,0,_,.cons q _,e=>by simp at e;subst e;exact⟨_,rfl,q⟩
 |_,_,i+1,v,.cons _ t,e=>by obtain⟨d,h1,h2⟩:=IsDs.get (i:=i) (v:=v) t (by simpa using e);exact⟨d,by simpa using h1,h2⟩
def IsDs.append{K:Frag}{H:Hp}:∀{xs ys:List V}{ds es:List Ũ},IsDs K H xs ds->IsDs K H ys es->IsDs K H (xs++ys) (ds++es)
 |_,_,_,_,.nil,h=>h
 |_,_,_,_,.cons q t,h=>.cons q<|IsDs.append t h
section
variable {X:Cx}
abbrev P8(K:Frag):R2:=λx y H Q=>∃d e,IsD K H x d/\IsD K H y e/\SeqAt.shaped d=eN/\SeqAt.shaped e=eN/\Q (.bl<|Ī d e) H
abbrev Qt(K:Frag):R2:=λx y H Q=>∃d e,IsD K H x d/\IsD K H y e/\SeqAt.shaped d=eN/\SeqAt.shaped e=eN/\Q (.bl (!Ī d e)) H
def Lh(hu:X.A.units+64<Ĩ):OpR X (ë .Eq)<|P8 X.K:=by intro Á s σ H x y v u Q I rx ry h;obtain⟨d,e,hd,he,sd,se,q⟩:=h;obtain⟨as,ra⟩:=hd.reads I rx;obtain⟨bs,rb⟩:=he.reads I ry;exact SeqAt.compareEq_shaped ra rb sd se hu ⟨.bl _,H,I,rfl,q⟩
def Iq(hu:X.A.units+64<Ĩ):OpR X (ë .NotEq)<|Qt X.K:=by intro Á s σ H x y v u Q I rx ry h;obtain⟨d,e,hd,he,sd,se,q⟩:=h;obtain⟨as,ra⟩:=hd.reads I rx;obtain⟨bs,rb⟩:=he.reads I ry;exact SeqAt.compareNe_shaped ra rb sd se hu ⟨.bl _,H,I,rfl,q⟩
inductive TyV (K:Frag) (H:Hp):V->Â->Prop
 |of {x:V}{t:Â}:fS K H x t->TyV K H x t
 |tup {a:È}{xs:List V}:fY K H a xs->TyV K H (.ref a) (.type "tuple")
 |lst {a:È}{xs:List V}:fX K H a xs->TyV K H (.ref a) (.type "list")
def TyV.int{K:Frag}(i:Int):TyV K H (.int i)<|.type "int":=.of (.int i)
def Bn:eY X (.builtin "isinstance") λxs H Q=>∃x T t b,xs=[x,.ty T]/\TyV X.K H x t/\PySem.W.kitOne X.K t (.type T)=eL b/\Q (.bl b) H:=by
 intro Á s σ H xs us Q I r h;obtain⟨x,T,t,b,rfl,ty,e,q⟩:=h;obtain⟨u,v,rfl,ru,rv⟩:=GC r;cases rv;cases ty with
 |of ty=>exact UR I ru ty e λtk=>⟨.bl b,H,I.tok tk,rfl,q⟩
 |tup hq =>cases ru;obtain⟨ò,_,⟨o,h1,h2,_⟩,_⟩:=I.tuple hq;exact PySem.W.kia_one PySem.W.kitx_tuple I.kIn ⟨o,h1,h2⟩ e (λz=>nomatch z) λtk=>⟨.bl b,H,I.tok tk,rfl,q⟩
 |lst hq =>cases ru;obtain⟨ò,_,⟨o,n,h1,h2,_⟩,_⟩:=I.list hq;exact PySem.W.kia_one PySem.W.kitx_list I.kIn ⟨o,h1,h2⟩ e (λz=>nomatch z) λtk=>⟨.bl b,H,I.tok tk,rfl,q⟩
def BJ(hc:X.calm=eN):eY X (.builtin "all") λxs H Q=>∃p,∃bs:List Bool,xs=[.ref p]/\fX X.K H p (bs.map V.bl)/\Q (.bl<|bs.all id) H:=by
 intro Á s σ H xs us Q I r h;obtain⟨p,bs,rfl,hq,q⟩:=h;obtain⟨u,rfl,rx⟩:=YG r;cases rx;obtain⟨ò,rv,pl,hz⟩:=I.list hq;have Ē:=rv.length;rw[Ã]at Ē;have ϙ:p<s.heap.objs.size:=by obtain⟨o,n,e,_⟩:=pl;exact Õ e
 refine call_all_walk<|ϒ pl.isList ?_;refine⟨s.heap.objs.size,_,_,ò.toArray.size,_,_,λi=>bs.getD i eN,rfl,Walks.list (A:=X.A.in1) (I.ok.hd hc) s.heap.objs.size p (ä ϙ) ò.toArray,⟨⟨_,Ñ _ rfl,rfl,rfl⟩,pl.isList.push _⟩,?_,λh' tk hk=>?_⟩
 .intro i v s' Q' E' hP hQ;have hP:ò[i]?=eL v:=by simpa using hP
  have hb:(bs.map V.bl)[i]?=eL (.bl<|bs.getD i eN):=by
   have hi:i<bs.length:=by have:=(Ó.mp hP).1;lia
   rw[Ý,ý];simp[hi]
  obtain⟨u,hu,ru⟩:=rv.get hb;rw[hP]at hu;cases hu;cases ru;exact Đ hQ
 .have e:(List.range ò.toArray.size).all (λi=>bs.getD i eN)=bs.all id:=by
   rw[Î,<-Ē,aT,Ć,Ć];constructor
   .intro h b hb;obtain⟨i,hi,rfl⟩:=List.mem_iff_getElem.mp hb;have:=h i<|Ź.mpr hi;rw[ý,É hi]at this;exact this
   .intro h i hi;have hi:=Ź.mp hi;rw[ý,É hi];exact h _<|Ł hi
  rw[e];refine⟨.bl _,H,I.kept (t':=tk) λb o e=>hk b o (λhm=>?_)<|Å _ e,rfl,q⟩;have:b=s.heap.objs.size:=by simpa using hm
  exact gp (this▸Õ e)<|Ġ _
abbrev sortI(ns:List Int):List Int:=ns.mergeSort λa b=>gq (a<=b)
def Xu(ns:List Int):(sortI ns).Perm ns:=ŭ ns _
def M1(ns:List Int):(sortI ns).Pairwise (·<=·):=by have h:=bS (le:=λa b:Int=>gq (a<=b)) (λa b c h1 h2=>by simp at *;lia) (λa b=>by simp;lia) ns;exact h.imp λh=>by simpa using h
variable {ns:List Int} {ms:List Int}
def Yx(hp:ms.Perm ns)(hs:ms.Pairwise (·<=·)):ms=sortI ns:=PySem.W.ksm_same (hp.trans (Xu ns).symm) hs (M1 ns)
def JX(hp:ms.Perm ns):sortI ms=sortI ns:=Yx ((Xu ms).trans hp) (M1 ms)
def YB(ns:List Int):(sortI ns).length=ns.length:=(Xu ns).length_eq
def Yt:∀{vs:List Â}{ns:List Int},ù vs ns->fZ (ns.map V.int) vs:=Wh
def call_sorted:eY X (.builtin "sorted") λxs H Q=>∃p,∃ns:List Int,xs=[.ref p]/\fX X.K H p (ns.map V.int)/\ns.length<64/\∀l,H l=eM->Q (.ref l) (upd H l<|.lst<|(sortI ns).map V.int):=by intro Á s σ H xs us Q I r h;obtain⟨p,ns,rfl,hq,h64,q⟩:=h;obtain⟨u,rfl,rx⟩:=YG r;cases rx;obtain⟨ò,rv,pl,hz⟩:=I.list hq;have Ē:=rv.length;rw[Ã]at Ē;refine sorted_ints pl.isList (ZE rv) (by lia) λout cg a1 a2 a3=>?_;have e:=Yx a2 a3;subst e;obtain⟨n,he⟩:=sortedAll_at s.heap ò out;refine⟨.ref<|s.heap.objs.size+1,_,I.laid (a:=s.heap.objs.size+1) (o:=.lst<|(sortI ns).map V.int) (t':=s.toks) (λb o e=>sortedAll_old e) (ŀ _) ?_,rfl,q _<|I.hok.fresh<|ŀ _⟩;exact⟨by rw[Ã,YB];rw[Ã]at hz;exact hz,out.toList,n,Yt a1,by simpa[Υ]using he⟩
end
section
variable {X:Cx}{x:Str}{p ç:Pos}{e:Expr}{es:List Expr}{t:TA}
def PU{T:String}(hg:Gl X x)(hm:X.mg x=eM)(hv:Ű x=eL (.type T))(hn:x≠"__name__":=by decide)(hd:(x==("__debug__" : Str))=eP:=by decide):PE X (.Name x ç)<|tC<|.ty T:=FF hg hm hv rfl hn hd
end
abbrev Yh(scope sc:ν)(N:List Str)(x:List Str)(ô:List Nat):Bool :=
 scope.names.all (λy=>y.2 != .cell)&&scope.names.all (λy=>y.2 != .local||scope.names.lookup y.1==eL .local)&&x.all (λy=>scope.names.lookup y==eL .local) &&
 scope.names.all (λy=>y.2 != .free||sc.names.lookup y.1==eL .cell) &&
 ô.all (λj=>gq (j<N.length)&&sc.names.lookup (N.getD j Str.empty)==eL .cell&&scope.names.lookup (N.getD j Str.empty)==eL .free)&&gq (x++ô.map λj=>N.getD j Str.empty).Nodup
def N1{X:Cx}{scope sc:ν}{x:List Str}{ô:List Nat}{N:List Str}(hsc:X.env.scope=sc)(hN:X.N=N)(hk:scope.kind=.function)(h:Yh scope sc N x ô=eN):BlkOk X scope x ô:=by
 unfold Yh at h;simp only[bAq]at h;obtain⟨⟨⟨⟨⟨h1,h2⟩,h3⟩,h4⟩,h5⟩,h6⟩:=h;rw[Ć]at h1 h2 h4 h5;refine⟨hk,λy hy=>by simpa using h1 y hy,λy hy e=>?_,λy hy=>by simpa using Ć.mp h3 y hy,λy hy e=>?_,λj hj=>?_,?_⟩
 .have:=h2 y hy;rw[e]at this;simpa using this
 .have:=h4 y hy;rw[e]at this;show X.env.scope.names.lookup y.1=_;rw[hsc];simpa using this
 .have:=h5 j hj;simp only[bAq,gm,beq_iff_eq]at this;obtain⟨⟨a,b⟩,c⟩:=this;refine⟨?_,?_,?_⟩
  .rw[hN,É a];rfl
  .show X.env.scope.names.lookup _=_;rw[hsc,hN];exact b
  .rw[hN];exact c
 .unfold ZZ;rw[hN];exact of_decide_eq_true h6
abbrev fm(r:È)(H H':Hp):Prop:=∀b o,H b=eL o->b≠r->H' b=eL o
variable {H:Hp} {H':Hp}
def Same.keep(e:Same H H')(r:È):fm r H H':=λb o h _=>e b o h
def fm.refl(r:È)(H:Hp):fm r H H:=λ_ _ h _=>h
variable {r:È}
def fm.trans{H1 H2:Hp}(a:fm r H H1)(b:fm r H1 H2):fm r H H2:=λc o h n=>b c o (a c o h n) n
def fm.upd{o:HO}:fm r H<|L2.upd H r o:=λb u h n=>by rw[eQ n];exact h
def fm.free(e:fm r H H'){l:È}(hr:∃o,H' r=eL o)(h:H' l=Option.none):H l=Option.none:=by
 cases q:H l with
 |none=>rfl
 |some o =>
  by_cases hl:l=r
  .subst hl;obtain⟨o',z⟩:=hr;rw[h]at z;cases z
  .rw[e l o q hl]at h;cases h
mutual
noncomputable def Ou:Ũ->Bool
 |.list _=>eP
 |.tuple xs=>noLists xs
 |.dict _=>eP
 |_=>eN
noncomputable def noLists:List Ũ->Bool
 |[]=>eN
 |x::xs=>Ou x&&noLists xs
end
variable {a:È} {xs:List V}
def fY.keep{K:Frag}{zs:List V}(k:fm r H H')(hr:H r=eL (.lst zs))(h:fY K H a xs):fY K H' a xs:=by
 rcases h with(h|⟨o,h⟩)|h
 .exact .inl (.inl<|k _ _ h<|A7 h hr<|by intro z;cases z)
 .exact .inl (.inr ⟨o,k _ _ h<|A7 h hr<|by intro z;cases z⟩)
 .exact .inr h
def fX.keep{K:Frag}(k:fm r H H')(hr:a≠r)(h:fX K H a xs):fX K H' a xs:=by
 rcases h with(h|⟨o,h⟩)|h
 .exact .inl<|.inl<|k _ _ h hr
 .exact .inl<|.inr ⟨o,k _ _ h hr⟩
 .exact .inr h
mutual
theorem IsD.keep{K:Frag}{r:È}{H H':Hp}{zs:List V}(k:fm r H H')(hr:H r=eL (.lst zs)):∀{v:V}{d:Ũ},IsD K H v d->Ou d=eN->IsD K H' v d
 |_,_,.non,_=>.non
 |_,_,.bl b,_=>.bl b
 |_,_,.int i,_=>.int i
 |_,_,.str x,_=>.str x
 |_,_,.lst q qs,h=>by cases h
 |_,_,.tup q qs,h=>.tup (q.keep k hr)<|IsDs.keep k hr qs h
theorem IsDs.keep{K:Frag}{r:È}{H H':Hp}{zs:List V}(k:fm r H H')(hr:H r=eL (.lst zs)):∀{vs:List V}{ds:List Ũ},IsDs K H vs ds->noLists ds=eN->IsDs K H' vs ds
 |_,_,.nil,_=>.nil
 |_,_,.cons q qs,h=>by have h':=ō.mp (show(Ou _&&noLists _)=eN from h);exact .cons (IsD.keep k hr q h'.1)<|IsDs.keep k hr qs h'.2
end
noncomputable abbrev Tie:=Int×Int×Int
abbrev Q4(t:Tie):Ũ:=.tuple [.int t.1,.int t.2.1,.int t.2.2]
def IsD.tie{K:Frag}{x y c:Int}(h:fY K H a [.int x,.int y,.int c]):IsD K H (.ref a)<|Q4 (x,y,c):=.tup h (.cons (.int x)<|.cons (.int y)<|.cons (.int c) .nil)
variable {c:Bool} {A:Prop} {B:Prop}
def fP(e:c=eN)(h:A):if c=eN then A else B:=by rw[gg e];exact h
def fQ(e:c=eP)(h:B):if c=eN then A else B:=by rw[e,gh ü];exact h
structure BrOk(ns:List Int):Prop where
 one:1<=ns.length
 ten:ns.length<=10
 rng:∀n∈ns,0<=n/\n<=999
 nd:ns.Nodup
structure TieOk(ns:List Int)(t:Tie):Prop where
 a:t.1∈ns
 b:t.2.1∈ns
 ne:t.1≠t.2.1
 lo:1<=t.2.2
 hi:t.2.2<=1000
structure TsOk(ns:List Int)(ts:List Tie):Prop where
 few:ts.length<=16
 each:∀t∈ts,TieOk ns t
abbrev mn(x y:Int):Int:=if y<x then y else x
abbrev mx(x y:Int):Int:=if y > x then y else x
abbrev loT(t:Tie):Tie:=(mn t.1 t.2.1,mx t.1 t.2.1,t.2.2)
variable {ns:List Int} {ms:List Int}
def BrOk.perm(h:BrOk ns)(p:ms.Perm ns):BrOk ms:=⟨by rw[p.length_eq];exact h.one,by rw[p.length_eq];exact h.ten,λn hn=>h.rng n<|p.mem_iff.mp hn,p.nodup_iff.mpr h.nd⟩
def TsOk.perm{ts:List Tie}(h:TsOk ns ts)(p:ms.Perm ns):TsOk ms ts:=⟨h.few,λt ht=>let ⟨a,b,c,d,e⟩:=h.each t ht;⟨p.mem_iff.mpr a,p.mem_iff.mpr b,c,d,e⟩⟩
section
variable {X:Cx}(K:Frag) (h:X.K=K)
include h
end
section
variable {prog:ß}{w:ñ}{A:ā}{E:Â->Ä->Prop}{s:Ä}
variable {it:È} {i:Nat} {items:Array Â} {Q:Â->Ä->Prop}
def OI{t:È}{x:Â}(bH:s.heap.IsTupleIter it t i)(ht:s.heap.IsTuple t items)(hx:items[i]?=eL x)
  (hQ:∀h',h'.IsTupleIter it t (i+1)->Œ it s.heap h'->Q x {s with heap:=h'}):wpAny (Ù prog w) A (Builtin.SmallTypes.nextOf<|.ref it) Q E s:=by
 obtain⟨o,ho,hc,hd⟩:=id bH;obtain⟨ot,hot,_,nt,hdt⟩:=ht;unfold Builtin.SmallTypes.nextOf;refine À<|ē (name:=gu "__next__") bH.typeIs F.slot_tuple_iterator_next<|Ĉ F.slot_tuple_iterator_next bH.typeIs F.entry_tuple_iterator_next ?_<|F.args_tuple_iterator_next_1 _;show wpAny _ _ (dN (.ref it) 0 >>= _) _ _ s;refine À<|Ĭ ho hd (x:=.ref t) rfl ?_;show wpAny _ _ (if(Value.ref t==Value.none)=eN then _ else _) _ _ s;rw[gh<|show ¬ ((Value.ref t==Value.none)=eN) from ü];show wpAny _ _ (dN (.ref it) 1 >>= _) _ _ s;refine À<|Ĭ ho hd (x:=.int i 0) rfl ?_;show wpAny _ _ (Ϟ (.ref t) >>= _) _ _ s;refine À<|ň hot hdt ?_;simp only[á,hx];refine À (Ĺ ho hd (by simp)<|Ç ⟨x,rfl,Ç<|hQ _ ⟨_,Ď _ ho<|ϟ<|Ŗ hd _,(ap ..).trans hc,?_⟩<|û ..⟩);rw[Ŗ hd];simp[ģ]
def KA{t:È}(hh:A.handled=eM)(bH:s.heap.IsTupleIter it t i)(ht:s.heap.IsTuple t items)(hx:items[i]?=eM)
  (hE:∀h' e,Heap.ExtBut it s.heap h'->(∃o,h'.get? e=eL o/\o.cls=.type "StopIteration")->E (.ref e) {s with heap:=h'}):wpAny (Ù prog w) A (Builtin.SmallTypes.nextOf<|.ref it) Q E s:=by
 obtain⟨o,ho,hc,hd⟩:=id bH;obtain⟨ot,hot,_,nt,hdt⟩:=ht;unfold Builtin.SmallTypes.nextOf;refine À<|ē (name:=gu "__next__") bH.typeIs F.slot_tuple_iterator_next<|Ĉ F.slot_tuple_iterator_next bH.typeIs F.entry_tuple_iterator_next ?_<|F.args_tuple_iterator_next_1 _;show wpAny _ _ (dN (.ref it) 0 >>= _) _ _ s;refine À<|Ĭ ho hd (x:=.ref t) rfl ?_;show wpAny _ _ (if(Value.ref t==Value.none)=eN then _ else _) _ _ s;rw[gh<|show ¬ ((Value.ref t==Value.none)=eN) from ü];show wpAny _ _ (dN (.ref it) 1 >>= _) _ _ s;refine À<|Ĭ ho hd (x:=.int i 0) rfl ?_;show wpAny _ _ (Ϟ (.ref t) >>= _) _ _ s;refine À<|ň hot hdt ?_;simp only[á,hx];refine À (Χ<|À<|Ĺ ho hd (by simp) ?_);show wpAny _ _ (cy (.type "StopIteration") [] >>= _) _ _ _;refine À ?_;simp only[cy,newTuple];refine À (ÿ (À (m:=ζ _ _)<|aa (a:=Value.none) (by first|rfl|(simp only[ζ];rfl))<|ÿ ?_<|by size_fits)<|by size_fits);simp only[raiseNew];refine À<|dr ?_
 first
 |rw[show A.in1.handled=eM from hh]
 |rw[hh]
 exact À<|Ç<|wpAny_throw<|hE _ _ (((û ..).extBut.push _).push _) ⟨_,Ñ _ rfl,rfl⟩
end
variable {prog:ß} {w:ñ} {A:ā}
def GL(hh:A.handled=eM)(it t:È)(ž:t≠it)(items:Array Â) :
  Draws prog w A it [it,t] items.size (λi v=>items[i]?=eL v) (λi h=>h.IsTupleIter it t i/\h.IsTuple t items) where
 live:=λ_ _ st=>let ⟨o,ho,_⟩:=st.1;⟨o,ho⟩
 frame:=λ_ _ _ st hk=>⟨st.1.at λo e=>hk it (by simp) o e,st.2.at λo e=>hk t (by simp) o e⟩
 item:=λi s Q E hi st hQ=>OI st.1 st.2 (x:=items[i]) (by simp[hi]) λh' hit' hs'=>hQ _ h' s.toks (by simp[hi]) ⟨hit',st.2.extBut hs'.extBut ž⟩ hs'
 done:=λs Q E st hE=>KA hh st.1 st.2 (by simp) hE
open AutoSeq1 (wpAny_loadPart') in
def H9(l:È)(items:Array Â)(n:Nat)(dct:Option È)(sl:Array<|Option Â) :
  Meets (Builtin.«enumerate.__new__» ⟨[.type "enumerate",.ref l],[]⟩) (λ_ R s=>s.heap.get? l=eL { cls:=.type "tuple",dict:=dct,data:=.seq items n,slots:=sl }/\
    R (.ok<|.ret<|.ref (s.heap.push {cls:=.type "tuple_iterator",data:=.fields #[.ref l,.int 0 0]}).objs.size)
      { s with heap:=(s.heap.push { cls:=.type "tuple_iterator",data:=.fields #[.ref l,.int 0 0] }).push { cls:=.type "enumerate",data:=.fields #[.none,.bool eP,.ref s.heap.objs.size,ģ 0,.none,.none] } }) :=
 .of_wp λprog w A R s h=>by
  obtain⟨hp,g,d,tk,os⟩:=s;obtain⟨hl,h⟩:=h;have hsub:=sub_enumerate;have hL:Heap.IsTuple (Shared.heap ⟨hp,g,d,tk,os⟩) l items:=⟨_,hl,rfl,n,rfl⟩
  wp_walk using Ĝ hl
  refine wpAny_stack_any λst=>Ç ?_;split
  .rename_i c _ _ _ _ _;cases (c==Value.type "enumerate")<;>(wp_walk using Ĝ hl,aG hL;exact⟨_,rfl,h⟩)
  .wp_walk using Ĝ hl,aG hL;exact⟨_,rfl,h⟩
def N0{E:Â->Ä->Prop}{s:Ä}{l:È}{items:Array Â}{Q:Â->Ä->Prop}(hL:s.heap.IsTuple l items)
  (h:∀h',IsEnum h' (s.heap.objs.size+1) s.heap.objs.size 0 .none->h'.IsTupleIter s.heap.objs.size l 0->(∀b o,s.heap.get? b=eL o->h'.get? b=eL o)->Q (.ref<|s.heap.objs.size+1) {s with heap:=h'}) :
  wpAny (Ù prog w) A (call (.type "enumerate") [.ref l]) Q E s:=by
 obtain⟨⟨c,dct,dt,sl⟩,hl,hc,n,hd⟩:=hL;simp only at hc hd;subst hc hd;refine callType_new F.called_enumerate (by decide) (F.typeCall_enumerate_1 _) (F.newCall_enumerate_1 _) (λobj=>F.args_object_init_2 obj _) F.entry_enumerate_new (H9 l items n dct sl) ⟨hl,?_⟩;have hz:(s.heap.push {cls:=.type "tuple_iterator",data:=.fields #[.ref l,.int 0 0]}).objs.size=s.heap.objs.size+1:=Ż ..;have hg:=Ñ (s.heap.push {cls:=.type "tuple_iterator",data:=.fields #[.ref l,.int 0 0]}) (o:={cls:=.type "enumerate",data:=.fields #[.none,.bool eP,.ref s.heap.objs.size,ģ 0,.none,.none]}) rfl;rw[hz]at hg;show _/\_;rw[hz];exact⟨⟨_,hg,rfl⟩,h _ hg ⟨_,Å _<|Ñ _ rfl,rfl,rfl⟩ λb o x=>Å _<|Å _ x⟩
section
variable {X:Cx}{Á:List (È×Obj)}{σ:St}{H:Hp}{s:Ä}{h':þ}
def Inv.turnedL{t':Nat}{ch:List È}(I:Inv X Á σ H s)(k:∀b o,b∉ch->s.heap.get? b=eL o->h'.get? b=eL o)(hc:∀b∈ch,Wd X Á H b):Inv X Á σ H {s with heap:=h',toks:=t'}:=by
 have nit:∀b u,H b=eL u->b∉ch:=λb u e z=>by rw[(hc b z).1]at e;cases e
 refine I.step (g':=s.gens) (d':=s.drawn) (ch:=ch) (λb hb=>?_) (λb o _ _ hcb e _=>k b o hcb e) (λb o _ _ hcb e _=>⟨o.slots,k b o hcb e⟩) (λ_ _ _ _ n=>n)
  (λb o hcb e=>⟨o,k b o hcb e⟩) (λ_ _ e=>e) (λ_ _ _ e=>e) (λb ps e=>⟨#[],by rw[e];simp⟩) (λm hm=>?_) (λb u e=>?_) I.bare
 .obtain⟨_,q2,_,q4,q5,q6⟩:=hc b hb;exact⟨q4,q2,q5,q6⟩
 .obtain⟨o,es,ep,ho,r⟩:=hm;exact⟨o,es,ep,k _ o (λz=>(hc _ z).2.1 rfl) ho,r⟩
 .refine(I.hok b u e).stay (λc v hcc q=>k c v ?_ q) (λ_ q=>q) λ_ _ q=>q;rcases hcc with z|z
  .rw[z];exact nit b u e
  .exact nit c _ z
def Inv.track{T:È}{o:HO}(I:Inv X Á σ H s)(hT:H T=eM)(h0:X.s₀.heap.objs.size<=T)(hL:T≠X.env.locals)(aD:∀x c,X.env.cells.lookup x=eL c->c≠T)(hp:∀p∈X.pn++Á,p.1≠T)
  (new:eZ X.prog X.w (upd H T o) s.heap T o):Inv X Á σ (upd H T o) s:=by
 have neT:∀b ob,X.s₀.heap.get? b=eL ob->b≠T:=λb ob e=>ä<|â (Õ e) h0;refine⟨I.ok,I.os,I.bare,⟨I.base.keep,I.base.slot,λb ob e n hx=>?_,I.base.there,λb xs e=>?_,λb ob xs e=>?_,λb ps e=>?_⟩,I.loc,I.cell,?_,λx c e=>?_,λp hpp=>?_,I.hok.track hT new,I.len⟩
 .rw[eQ<|neT b ob e];exact I.base.free b ob e n hx
 .have q:=I.base.tups b xs e;rw[eQ<|Ze q hT];exact q
 .have q:=I.base.frzs b ob xs e;rw[eQ<|Ze q hT];exact q
 .obtain⟨m,q⟩:=I.base.tbls b ps e;exact⟨m,by rw[eQ<|Ze q hT];exact q⟩
 .rw[eQ hL.symm];exact I.free
 .rw[eQ<|aD x c e];exact I.freeC x c e
 .obtain⟨a,b,c,d,e⟩:=I.pin p hpp;exact⟨a,by rw[eQ<|hp p hpp];exact b,c,d,e⟩
end
abbrev Ite(K:Frag)(a:È):It :=
 ⟨λi H=>∃xs x,fY K H a xs/\xs[i]?=eL x,λi H v H'=>∃p,v=.ref p/\H p=eM/\∀xs x,fY K H a xs->xs[i]?=eL x->H'=upd H p (.tup [.int i,x]),λi H=>∃xs,fY K H a xs/\xs.length<=i⟩
variable {es:List Expr} {kk:Nat} {tp:Pos}
def N5{P:ß}{K:Frag}(a it e:È)(ž:e≠it) :
  Turn P w K (.Tuple es kk tp) (Ite K a) [e,it] e (λi h=>(∃ϯ,IsEnum h e it i ϯ)/\h.IsTupleIter it a i) where
 mem:=by simp
 obj:=λi h st b hb=>by
  obtain⟨⟨ϯ,h1⟩,o2,e2,_,d2⟩:=st;rcases Æ.mp hb with q|q
  .subst q;exact⟨_,h1,λv z=>by cases z⟩
  .have q:b=it:=by simpa using q
   subst q;exact⟨o2,e2,λv z=>by rw[d2]at z;cases z⟩
 keep:=λi h h' st k=>⟨let ⟨ϯ,h1⟩:=st.1;⟨ϯ,k e (by simp) _ h1⟩,st.2.at λo q=>k it (by simp) o q⟩
 item:=by
  intro X hP hw hK hc i Á s σ H E I hf st hg;subst hP hw hK;obtain⟨xs,x,hq,hx⟩:=hg;obtain⟨ò,rv,pl,hz⟩:=I.tuple hq;obtain⟨u,hu,ru⟩:=rv.get hx;have hsz:=rv.length;have hi:i<ò.toArray.size:=by rw[Î];exact(Ó.mp hu).1
  obtain⟨⟨ϯ,h1⟩,h2⟩:=st;have hfi:=hf it (by simp);have hai:a≠it:=λz=>by obtain⟨o,ho,aD,_⟩:=h2;obtain⟨o',aC,hcl',_⟩:=pl;rw[z,ho]at aC;cases aC;rw[aD]at hcl';exact gp (ak hcl') (by decide)
  have hae:e∉[it,a]:=λz=>by
   rcases Æ.mp z with z|z
   .exact ž z
   .have z:e=a:=by simpa using z
    obtain⟨o',aC,hcl',_⟩:=pl;rw[<-z,h1]at aC;cases aC;exact gp (ak hcl') (by decide)
  refine wpAny_pyNext_enum_itemD (GL (A:=X.A.in1) (I.ok.hd hc) it a hai ò.toArray) h1 ⟨h2,pl⟩ hi ž hae λv h3 tk hv hout hst3 hT _ hk=>?_;have ev:v=u:=by
   have hv:ò[i]?=eL v:=by simpa using hv
   rw[hu]at hv;exact(ì hv).symm
  subst ev;have nT:∀b∈[e,it],s.heap.objs.size≠b:=λb hb z=>by
   rcases Æ.mp hb with q|q
   .exact gp (Õ h1) (by rw[<-q,<-z];exact Ġ _)
   .have q:b=it:=by simpa using q
    obtain⟨o,ho,_⟩:=h2;exact gp (Õ ho) (by rw[<-q,<-z];exact Ġ _)
  have bQ:=I.fpOk (H':=H) (Ì s.heap.objs.size) I.fresh;refine⟨.ref s.heap.objs.size,rfl,wpAny_letOwnedTupleGo_enum hout λh4 he4 hs4=>?_⟩;have I4:Inv X Á σ H {s with heap:=h4,toks:=tk+1}:=I.turnedL (t':=tk+1) (ch:=[e,it]) (λb o hb q=>hs4.extBut b o (λz=>hb<|by simp[z])<|hk b o (λz=>hb<|by simp[z]) (λz=>hb<|by simp[z]) q) hf;have hT4:h4.get? s.heap.objs.size=eL {cls:=.type "tuple",data:=.seq #[.int i tk,v]}:=hs4.extBut _ _ (nT e<|by simp) hT;obtain⟨f0,f1,f2,f3,f4,f5⟩:=bQ;have I5:Inv X Á σ (upd H s.heap.objs.size<|.tup [.int i,x]) {s with heap:=h4,toks:=tk+1}:=I4.track f0 I.sz f1 f4 f5 ⟨by show 2<=Ø;decide,[.int i tk,v],.cons ⟨tk,rfl⟩<|.cons ru .nil,_,hT4,rfl,_,rfl⟩;refine⟨.ref s.heap.objs.size,_,I5,rfl,⟨s.heap.objs.size,rfl,f0,λys y hy hyi=>?_⟩,⟨⟨v,by simpa using he4⟩,hst3.1.at λo q=>hs4.extBut it o (Ne.symm ž) q⟩,λb hb=>?_⟩
  .have ey:ys=xs:=I.tuple_inj hy hq;rw[ey,hx]at hyi;rw[ì hyi]
  .rw[eQ (nT b hb).symm];exact(hf b hb).1
 done:=by
  intro X hP hw hK hc i Á s σ H E I hf st hg;subst hP hw hK;obtain⟨xs,hq,hx⟩:=hg;obtain⟨ò,rv,pl,hz⟩:=I.tuple hq;have hl:=rv.length;obtain⟨⟨ϯ,h1⟩,h2⟩:=st;have hai:a≠it:=λz=>by obtain⟨o,ho,aD,_⟩:=h2;obtain⟨o',aC,hcl',_⟩:=pl;rw[z,ho]at aC;cases aC;rw[aD]at hcl';exact gp (ak hcl') (by decide)
  have hT:s.TypeIs (.ref e) "enumerate":=⟨_,h1,rfl⟩
  unfold ε;refine À<|aA<|ē (name:=gu "__next__") hT F.slot_enumerate_next<|Ĉ F.slot_enumerate_next hT F.entry_enumerate_next ?_<|F.args_enumerate_next_1 _;show wpAny _ _ (dN (.ref e) 2 >>= _) _ _ _;refine À<|Ĭ h1 rfl (x:=.ref it) rfl ?_;refine À (KA (A:=X.A.in1) (I.ok.hd hc) h2 pl (by simp;lia) λh' x he' hx'=>?_);obtain⟨o,ho,aD⟩:=hx';refine À<|Ϡ (T:="StopIteration") (b:=eN) ⟨o,ho,aD⟩ cz<|Ç ⟨rfl,?_⟩;exact I.turnedL (t':=s.toks) (ch:=[it]) (λb ob hb q=>he' b ob (λz=>hb<|by simp[z]) q) λb hb=>hf b<|Ú _ hb
 self:=λA i s Q E st h=>by obtain⟨⟨ϯ,h1⟩,_⟩:=st;exact wpAny_pyIter_enum h1 h
section
variable {X:Cx}
abbrev IS(K:Frag)(ta:TA):TI:=λσ H R=>ta σ H λvs H1=>∃a,vs=[.ref a]/\(∃xs,fY K H1 a xs)/\R (Ite K a) H1
def Bp{p ç:Pos}{e:Expr}{ta:TA}(hg:Gl X "enumerate")(hm:X.mg "enumerate" = eM)(ha:PA X [e] ta)(hs:Ð [e] X.env=[(eP,eval e X.env)]:=by rfl) :
  PI X (.Tuple es kk tp) (.Call (.Name "enumerate" p) [e] [] ç) (IS X.K ta):=by
 intro Á s σ H R I h;refine Call_ (YW (u:=.type "enumerate") I hg hm (by kernel_rfl)<|PyProof.Rows.callWith_type1 (T:="enumerate") (thn (ha ç Á s σ H _ I h) λus s1 ⟨vs,H1,I1,r1,q1⟩=>?_) hs rfl);obtain⟨a,e1,⟨xs,hq⟩,q⟩:=q1;subst e1;obtain⟨u,rfl,ru⟩:=YG r1;cases ru;obtain⟨ò,rv,pl,hz⟩:=I1.tuple hq;refine N0 pl λh2 he2 hi2 hk2=>?_;have I2:Inv X Á σ H1 {s1 with heap:=h2}:=I1.kept (t':=s1.toks) hk2;refine wpAny_pyIter_enum he2 ⟨s1.heap.objs.size+1,[s1.heap.objs.size+1,s1.heap.objs.size],_,_,H1,rfl,I2,N5 a s1.heap.objs.size (s1.heap.objs.size+1)<|Ŭ<|ı _,⟨⟨_,he2⟩,hi2⟩,λb hb=>?_,q⟩;have aU:s1.heap.objs.size<=b:=by
  rcases Æ.mp hb with z|z
  .rw[z];exact ŀ _
  .have z:b=s1.heap.objs.size:=by simpa using z
   rw[z];exact Ì _
 exact I1.fpOk aU<|I1.hok.fresh aU
end
end L2
namespace L2
open PySem PySem.Spec PyProof.Rows
open PySem.Builtin PySem.Builtin.Str
noncomputable abbrev TJ:=St->Hp->Str->(Str->Hp->Prop)->Prop
abbrev PJ(X:Cx)(vs:List Expr)(t:TJ):Prop :=
 ∀(Á:List<|È×Obj) (s:Ä) (σ:St) (H:Hp) (Ĵ:Str) (Q:Str->Hp->Prop),Inv X Á σ H s->t σ H Ĵ Q->
  Joins (Ù X.prog X.w) X.A X.xe (cA vs X.env) Ĵ (λout s1=>∃H1,Inv X Á σ H1 s1/\out.length<=Ø/\Q out H1) s
abbrev Q5:TJ:=λ_ H Ĵ Q=>Ĵ.length<=Ø/\Q Ĵ H
abbrev Pa(te:TE)(tr:TJ):TJ:=λσ H Ĵ Q=>te σ H λx H1=>∃y,x=.str y/\(Ĵ++y).length<=Ø/\tr σ H1 (Ĵ++y) Q
section
variable {X:Cx}{e:Expr}{es:List Expr}{te:TE}{tr:TJ}{ç:Pos}
def pj_nil:PJ X [] Q5:=λÁ s σ H Ĵ Q I h=>⟨H,I,h.1,h.2⟩
def FU(he:PE X e te)(hr:PJ X es tr)(hs:cA (e::es) X.env=eval e X.env::cA es X.env:=by rfl):PJ X (e::es)<|Pa te tr:=by intro Á s σ H Ĵ Q I h;rw[hs];show wpAny _ _ _ _ _ _;refine thn (he Á s σ H _ I h) λv s1 ⟨x,H1,I1,r1,y,e1,hz,q1⟩=>?_;subst e1;obtain⟨t,rfl⟩:=r1;exact⟨y,t,rfl,hz,hr Á s1 σ H1 (Ĵ++y) Q I1 q1⟩
def Joins.imp{M:Model}{A:ā}{E:Â->Ä->Prop}:∀{ps:List (Sem Â)}{Ĵ:Str}{Q Q':Str->Ä->Prop}{s:Ä},(∀o s,Q o s->Q' o s)->Joins M A E ps Ĵ Q s->Joins M A E ps Ĵ Q' s
 |[],_,_,_,_,f,h=>f _ _ h
 |_::_,_,_,_,_,f,h=>thn h λv s1 ⟨y,t,e,hz,hr⟩=>⟨y,t,e,hz,Joins.imp f hr⟩
end
abbrev Wt(x:Str):List Nat:=x.cps.toList
abbrev dg(n:Int):Str:=gu<|toString n
abbrev AH(m:Nat):List Nat:=(Nat.toDigits 10 m).map ŧ
def AT(m:Nat):Wt (dg (m:Int))=AH m:=PySem.W.KIN.signs_num m
abbrev Gb(m:Nat):Bool:=gq (1<=(AH m).length)&&gq ((AH m).length<=4)&&(AH m).all (λc=>gq (48<=c)&&gq (c<=57))&&(if m=0 then AH m==[48]else(AH m).head? != eL 48)
def D9:(List.range 1001).all Gb=eN:=by decide +kernel
structure FigOk(n:Int):Prop where
 one:1<=(Wt<|dg n).length
 four:(Wt<|dg n).length<=4
 fig:∀c∈Wt (dg n),48<=c/\c<=57
 nought:n=0->Wt (dg n)=[48]
 first:n≠0->(Wt<|dg n).head?≠eL 48
def GI{n:Int}(h0:0<=n)(h1:n<=1000):FigOk n:=by
 obtain⟨m,rfl⟩:∃m:Nat,n=(m:Int):=⟨n.toNat,by lia⟩
 have h:=Ć.mp D9 m (Ź.mpr<|by lia);unfold Gb at h;simp only[bAq,gm]at h;obtain⟨⟨⟨a,b⟩,c⟩,d⟩:=h;rw[<-AT]at a b c d;refine⟨a,b,λk hk=>?_,λe=>?_,λe=>?_⟩
 .have:=Ć.mp c k hk;simpa using this
 .have e:m=0:=by lia
  rw[gg e]at d;simpa using d
 .have e:¬ m=0:=by lia
  rw[gh e]at d;simpa using d
abbrev wT:Str:="tie"
abbrev nl:Str:="\n"
abbrev fl(ls:List Str):List Nat:=(ls.map λl=>Wt l++[10]).flatten
structure fk(bs:List Int)(ts:List Tie):Prop where
 br:BrOk bs
 ti:TsOk bs ts
 so:sortI bs=bs
 lo:ts.map loT=ts
variable {n:Int}
def BrOk.fig{bs:List Int}(h:BrOk bs)(hn:n∈bs):FigOk n:=GI (h.rng n hn).1 (by have:=(h.rng n hn).2;lia)
def FigOk.no(h:FigOk n){c:Nat}(hc:c<48):c∉Wt (dg n):=λm=>by have:=(h.fig c m).1;lia
end L2
namespace L2
open PySem PySem.Spec PyProof.Rows
variable {P:ß} {w:ñ} {H:Hp} {h:þ} {a:È}
def eZ.obj{o:HO}(x:eZ P w H h a o):∃u,h.get? a=eL u:=by
 cases o with
 |lst xs=>obtain⟨_,_,_,_,e⟩:=x;exact⟨_,e⟩
 |tup xs=>obtain⟨_,_,_,ob,e,_⟩:=x;exact⟨_,e⟩
 |dK kvs=>obtain⟨_,_,_,_,o,_,_,e,_⟩:=x;exact⟨_,e⟩
 |dT kvs=>obtain⟨_,_,_,_,o,_,_,e,_⟩:=x;exact⟨_,e⟩
 |set S n=>obtain⟨o,_,_,_,e,_⟩:=x;exact⟨_,e⟩
 |ins C dx fs=>obtain⟨_,_,_,e,_⟩:=x;exact⟨_,e⟩
 |own y=>exact x
 |xd fs=>obtain⟨_,⟨_,_,_,e,_⟩,_⟩:=x;exact⟨_,e⟩
 |rng lo hi=>obtain⟨_,_,_,e⟩:=x;exact⟨_,e⟩
 |frz ob u=>exact⟨_,x.1⟩
 |tbl ps=>exact⟨_,(show h.get? a=eL _ from x)⟩
 |met f y=>exact⟨_,(show h.get? a=eL _ from x)⟩
 |ext φ=>exact x.2.1
def HOk.none_of(x:HOk P w H h)(e:h.get? a=eM):H a=eM:=by
 cases q:H a with
 |none=>rfl
 |some u =>obtain⟨ob,z⟩:=(x a u q).obj;rw[e]at z;cases z
abbrev Nj(h:þ)(a:È)(cls:Â)(T:Option È):Prop :=
 ∃oe vs a0,h.get? a=eL oe/\oe.cls=cls/\oe.data=.fields vs/\vs[0]?=eL a0/\
  match T with
  |none=>vs[1]?=eL .none
  |some T=>vs[1]?=eL (.ref T)/\T≠a/\∃oT ts fl,h.get? T=eL oT/\oT.data=.fields ts/\ts[3]?=eL fl
structure Fl(P:ß)(w:ñ)(l:List Env)(H:Hp)(s:Ä)(H':Hp)(a:È)(cls:Â)(s':Ä):Prop where
 os:s'.os=s.os
 bare:ϐ s'.gens
 un:Un (frs l) [] H H' s.heap s'.heap
 hok:HOk P w H' s'.heap
 na:s.heap.get? a=eM
 ha:H' a=eM
 ex:∃T,Nj s'.heap a cls T/\∀t,T=eL t->s.heap.get? t=eM/\H' t=eM
abbrev CX1(P:ß)(w:ñ):CXT:=λl H s E e s'=>∃a cls H',e=.ref a/\Fl P w l H s H' a cls s'/\E cls eM H'
abbrev XW(X:Cx)(E:XK):Prop:=∀(Á:List<|È×Obj) (σ:St) (H:Hp) (s:Ä) (H':Hp) (a:È) (cls:Â) (s':Ä),
 Inv X Á σ H s->Fl X.prog X.w X.stack H s H' a cls s'->E cls eM H'->X.xe (.ref a) s'
def XW.passes{X:Cx}{E:XK}(h:XW X E):Y3 (CX1 X.prog X.w) X E:=λÁ σ H s e s' I ⟨a,cls,H',z,f,q⟩=>by subst z;exact h Á σ H s H' a cls s' I f q
section
variable {M:Model}{A:ā}{E:Â->Ä->Prop}{s:Ä}{B:þ}{env:Env}{outer:List Env}{L a:È}{cls:Â}{T:Option È}{Q:Unit->Ä->Prop}
abbrev YH(h:þ)(l:List Env)(a:È)(T:Option È):þ:=PySem.W.hideAll h<|a::(T.toList++frs l)
def Yg(h:þ)(l:List Env)(a:È)(T:Option È):(YH h l a T).StaysIn h:=λb o e=>PySem.W.of_hideAll _ e
def X9{l:List Env}(a:È)(T:Option È)(hl:h.FunFrames B l):h.FunFrames (YH h l a T) l :=
 PySem.W.funFrames_hide hl λe he b hb=>Ú _<|Ê _<|ϱ.mpr ⟨e,he,hb⟩
def OX(h:þ)(l:List Env)(a:È)(T:Option È):(YH h l a T).get? a=eM:=PySem.W.hideAll_none _ è
def Mc(h:þ)(l:List Env)(a t:È):(YH h l a<|eL t).get? t=eM:=PySem.W.hideAll_none _ (Ú _<|Þ _<|by simp)
def AF(bQ:A.frames=eL (env::outer))(hf:env.frame=eL L)(hl:s.heap.FunFrames B<|env::outer)(hx:Nj s.heap a cls T)
  (fin:∀h' a0,Heap.NotedW (YH s.heap (env::outer) a T) (env::outer) a cls a0 (ģ L) s.heap h'->Q () {s with heap:=h'}):wpAny M A (bB (.ref a) env) Q E s:=by
 obtain⟨oe,vs,a0,he,hc,hd,h0,ht⟩:=hx;have fin:=λh'=>fin h' a0;cases T with
 |none =>subst hc;unfold bB;simp only[hf];refine À<|Ĭ he hd ht ?_;rw[gh<|by decide];exact wpAny_entryW bQ (X9 a eM hl) hf he (Yg _ _ _ _) (OX _ _ _ _) hd (ł.mp ht).1 h0 fin
 |some t =>
  obtain⟨h1,ž,oT,ts,fl,e1,e2,e3⟩:=ht;by_cases c:fl=ģ L
  .subst c;have tr:s.heap.TracedAtW (YH s.heap (env::outer) a<|eL t) a cls a0<|ģ L:=⟨oe,vs,t,oT,ts,he,⟨hc,h0⟩,hd,h1,Mc _ _ _ _,ž,e1,e2,e3⟩
   exact wpAny_noteFrame_againW hf tr<|fin _ ⟨Yg _ _ _ _,X9 a (eL t) hl,tr,λb o e nf=>⟨o.slots,e⟩⟩
  .subst hc;unfold bB;simp only[hf];refine À<|Ĭ he hd h1 ?_;rw[gg<|by simp];refine À<|Ĭ e1 e2 e3 ?_;rw[gh<|by simpa using c];refine À<|Ĺ e1 e2 (ł.mp e3).1 ?_;have off:∀b,b≠t->(s.heap.update t (Ψ (·.setIfInBounds 3 Value.none))).get? b=s.heap.get? b:=λb hb=>í _ _ hb.symm;have nr:∀b o,s.heap.get? b=eL o->(∀vs,o.data≠.fields vs)->b≠t:=λb o hb nf z=>by
    rw[z,e1]at hb;cases hb;exact nf ts e2
   have bn:=Mc s.heap (env::outer) a t;exact wpAny_entryW bQ ((X9 a (eL t) hl).of_keeps λb o hb nf=>⟨o,(off b<|nr b o hb nf).trans hb,rfl⟩) hf ((off a ž.symm).trans he) (λb o hbo=>(off b λz=>by rw[z,bn]at hbo;cases hbo).trans<|Yg _ _ _ _ b o hbo) (OX _ _ _ _) hd (ł.mp h1).1 h0 λh' ⟨x1,x2,x3,x4⟩=>fin h' ⟨x1,x2,x3,λb o hb nf=>x4 b o ((off b<|nr b o hb nf).trans hb) nf⟩
def Wb(bQ:A.frames=eL (env::outer))(hf:env.frame=eL L)(hl:s.heap.FunFrames B<|env::outer)(hx:Nj s.heap a cls T)
  (h:∀h' a0,ϲ (YH s.heap (env::outer) a T) (env::outer) a cls a0 s.heap h'->Q () {s with heap:=h'}):wpAny M A (bB (.ref a) env) (λ_ s2=>wpAny M A (setFlight (.ref a) eM) Q E s2) E s :=
 AF bQ hf hl hx λh' a0 ⟨k1,k2,k3,k4⟩=>wpAny_setFlight_noneW k1 k2 k3 λh2 j1 j2 j3 j4=>h h2 a0 ⟨j1,j2,j3,λb o e nf=>by
   obtain⟨sl,e2⟩:=k4 b o e nf
   exact⟨sl,j4 b _ e2 nf⟩⟩
def OE(bQ:A.frames=eL (env::outer))(hf:env.frame=eL L)(hl:s.heap.FunFrames B<|env::outer)(hx:Nj s.heap a cls T)
  (h:∀h' a0,ϲ (YH s.heap (env::outer) a T) (env::outer) a cls a0 s.heap h'->Q () {s with heap:=h'}):wpAny M A (leaving env<|.ref a) Q E s:=À<|Wb bQ hf hl hx h
end
variable {l:List Env} {H':Hp} {s:Ä} {s':Ä} {cls:Â} {a0:Â} {h':þ} {B:þ} {T:Option È}
def Fl.noted{fl:Â}(f:Fl P w l H s H' a cls s')(hT:∀t,T=eL t->s.heap.get? t=eM/\H' t=eM)
  (hl:s'.heap.FunFrames B l) (bQ:∀b∈frs l,H' b=eM) (z:Heap.NotedW (YH s'.heap l a T) l a cls a0 fl s'.heap h'):Fl P w l H s H' a cls {s' with heap:=h'}:=by
 obtain⟨k1,k2,k3,k4⟩:=z;have inb:∀b o,s'.heap.get? b=eL o->b≠a->(∀t,T=eL t->b≠t)->b∉frs l->h'.get? b=eL o:=λb o e na nt nf=>k1 b o (PySem.W.hideAll_get _ e (by
   intro m
   rcases Æ.mp m with m|m
   . exact na m
   . rcases æ.mp m with m|m
     . cases T with
       |none=>cases m
       |some t=>exact nt t rfl (by simpa using m)
     . exact nf m))
 have slot:∀b o,s'.heap.get? b=eL o->b∈frs l->∃sl,h'.get? b=eL {o with slots:=sl}:=λb o e hb=>by obtain⟨_,o2,e2,nf⟩:=hl.mem hb;rw[e]at e2;cases e2;exact k4 b o e nf
 have ϯ:∀b o,s.heap.get? b=eL o->b≠a/\∀t,T=eL t->b≠t:=λb o e=>⟨(λz=>by rw[z,f.na]at e;cases e),(λt ht z=>by rw[z,(hT t ht).1]at e;cases e)⟩
 refine⟨f.os,f.bare,⟨λb o e n nf _=>?_,λb o e n hb _=>?_,f.un.free,λb o e _=>?_,f.un.tups,f.un.frzs,f.un.tbls⟩,?_,f.na,f.ha,?_⟩
 .exact inb b o (f.un.keep b o e n nf<|by simp) (ϯ b o e).1 (ϯ b o e).2 nf
 .obtain⟨sl,e1⟩:=f.un.slot b o e n hb (by simp);obtain⟨sl',e2⟩:=slot b _ e1 hb;exact⟨sl',e2⟩
 .obtain⟨o1,e1⟩:=f.un.there b o e (by simp);by_cases hb:b∈frs l
  .obtain⟨sl,e2⟩:=slot b _ e1 hb;exact⟨_,e2⟩
  .exact⟨o1,inb b o1 e1 (ϯ b o e).1 (ϯ b o e).2 hb⟩
 .intro b u e;have good:∀c v,H' c=eL v->∀ob,s'.heap.get? c=eL ob->h'.get? c=eL ob:=λc v ec ob eo =>
   inb c ob eo (λz=>by rw[z,f.ha]at ec;cases ec) (λt ht z=>by rw[z,(hT t ht).2]at ec;cases ec) λm=>by rw[bQ c m]at ec;cases ec
  refine(f.hok b u e).stay (λc v hc q=>?_) (λ_ q=>q) λ_ _ q=>q;rcases hc with z|z
  .rw[z]at q ⊢;exact good b u e v q
  .exact good c _ z v q
 .obtain⟨oe,vs,t',oT,ts,e1,⟨e2,e3⟩,e4,e5,e6,e7,e8,e9,e10⟩:=k3;refine⟨eL t',⟨oe,vs,a0,e1,e2,e4,e3,e5,e7,oT,ts,fl,e8,e9,e10⟩,λt ht=>?_⟩;cases ht;have hid:∀o,s'.heap.get? t'=eL o->T=eL t':=λo e=>by
   have nin:¬ (t'∉(a::(T.toList++frs l))):=λm=>by have q:(YH s'.heap l a T).get? t'=eL o:=PySem.W.hideAll_get _ e m;rw[e6]at q;cases q
   have m:=Classical.not_not.mp nin;rcases Æ.mp m with m|m
   .exact gp m e7
   .rcases æ.mp m with m|m
    .cases T with
     |none=>cases m
     |some t=>rw[show t'=t by simpa using m]
    .obtain⟨_,o2,q,nf⟩:=k2.mem m;rw[e8]at q;cases q;exact gp e9<|nf ts
  constructor
  .cases q:s.heap.get? t' with
   |none=>rfl
   |some o =>obtain⟨o1,q1⟩:=f.un.there t' o q (by simp);have:=(hT t'<|hid o1 q1).1;rw[q]at this;cases this
  .cases q:H' t' with
   |none=>rfl
   |some u =>obtain⟨o1,q1⟩:=(f.hok t' u q).obj;have:=(hT t'<|hid o1 q1).2;rw[q]at this;cases this
def Fl.left(f:Fl P w l H s H' a cls s')(hT:∀t,T=eL t->s.heap.get? t=eM/\H' t=eM)
  (hl:s'.heap.FunFrames B l) (bQ:∀b∈frs l,H' b=eM) (z:ϲ (YH s'.heap l a T) l a cls a0 s'.heap h'):Fl P w l H s H' a cls {s' with heap:=h'}:=f.noted (fl:=.none) hT hl bQ z
section
variable {P:ß}{w:ñ}{K:Frag}{mg:Str->Option Â}{base:þ}
variable {X:Cx} {H:Hp} {s:Ä}
def Inv.raised{Á:List (È×Obj)}{σ:St}{H':Hp}{s':Ä}{a:È}{cls:Â}(I:Inv X Á σ H s)(f:Fl X.prog X.w X.stack H s H' a cls s'):Inv X Á σ H' s' :=
 I.call' (ch:=[]) f.os f.un f.hok f.bare (λb z=>gp z<|by simp)
def Xv(ok:X.Ok)(h:X.stack=X.env::X.outer):X.env.frame=eL X.env.locals:=by
 rcases ok.stk with e|e
 .rw[h]at e;exact gp (congrArg List.length e) (by simp)
 .exact e.2
variable {N:List Str} {qual:Str} {f:È}
def Il{scope:ν}{cd:Â}{A:ā}{outer:List Env}{E:XK}:XW (JR (CX1 P w) P w K mg base N qual scope f cd A outer s H E) E:=by
 intro Á σ H2 s2 H' a cls s' I f q;have J:=I.raised f;obtain⟨T,hx,hT⟩:=f.ex;show wpAny _ _ (leaving _ _) _ _ _;refine OE (outer:=outer) J.ok.frames (Xv J.ok rfl) J.stack hx λh' a0 z=>?_;have f2:=f.left hT J.stack J.stkFree z;have J2:=I.raised f2;have Ϙ:∀b,s2.heap.get? b=eM->s.heap.get? b=eM:=λb e=>by
  cases z:s.heap.get? b with
  |none=>rfl
  |some o =>obtain⟨o',e'⟩:=I.base.there b o z (by intro m;cases m);rw[e]at e';cases e'
 obtain⟨T2,df,hT2⟩:=f2.ex;exact⟨a,cls,H',rfl,⟨J2.os,J2.bare,J2.base,J2.hok,Ϙ a f2.na,f2.ha,T2,df,λt ht=>⟨Ϙ t (hT2 t ht).1,(hT2 t ht).2⟩⟩,q⟩
def Fun.ok1{x:Str}{st:ħ}{fd:Ň}{ps:List Str}{k:Nat}{sp:Sp}(F:Fun K x qual st f fd)(S:FnScope N ps<|Zf st)(len:∀vs H Q E,sp vs H Q E->vs.length=ps.length)
  (bX:∀(ϕ:Â) (A:ā) (outer:List Env) (s:Ä) (H:Hp) (vs:List V) (Q:VK) (E:XK),fx k (A.deeper<|Ϻ qual (Zf st) s.heap.objs.size f ϕ)->sp vs H Q E->
    XW (JR (CX1 P w) P w K mg base N qual (Zf st) f ϕ A outer s H E) E->
    ∃t,PSs (JR (CX1 P w) P w K mg base N qual (Zf st) f ϕ A outer s H E) (ZD st) t/\t { nx:=λ_ H'=>Q .non H',rt:=Q } (start N vs) H):fy P w K mg base (CX1 P w) (k+1) f fd ps sp:=by
 obtain⟨oc,od,kV,doc,pm,an,ϕ,ct,osl,rfl,lk,bo⟩:=F.ex;exact Gn lk bo S len λA outer s H vs Q E hr dZ=>bX ϕ A outer s H vs Q E hr dZ Il
abbrev QU(P:ß)(w:ñ)(K:Frag)(mg:Str->Option Â)(base:þ)(k:Nat)(x:Str)(ps:List Str)(sp:Sp):Prop :=
 ∃f fd,fy P w K mg base (CX1 P w) k f fd ps sp/\mg x=eL (.ref f)/\PySem.W.keepIn K (.ref f)=eN/\Binds K fd ps []
end
section
variable {X:Cx}{x:Str}{p ç np Ŏ:Pos}{e:Expr}{es:List Expr}{t:TA}{E:XK}{C:È}{bm:List Â}
abbrev IU(C:È)(t:TA)(E:XK):TS:=λ_ σ H=>t σ H λvs H1=>vs.length<=Ø/\E (.ref C) eM H1
def C3(hw:XW X E)(hc:X.calm=eN)(O:OwnCls x C [.type "ValueError",.type "Exception",.type "BaseException",.type "object"] "ValueError.__new__" X.mg X.base)(hg:Gl X x)(ha:PA X (e::es) t)(ϫ:(x==("__debug__" : Str))=eP:=by decide)
  (he:Ð (e::es) X.env=(eP,eval e X.env)::Ð es X.env:=by rfl) (hpl:(ċ Ŏ<|Ð es X.env).any (·.1)=eP:=by rfl) :
  PS X (.Raise (eL<|.Call (.Name x np) (e::es) [] Ŏ) eM ç) (IU C t E):=by
 intro Á s σ H D I h;obtain⟨tl,N,nm,q,bs,hdct,sn,sub,ab,col,dd,k0,k1,k2,k3,k5,mN,hC,hN,hni,T⟩:=O.obj;refine wpAny_Raise_call_subU (C:=C) (nm:=nm) (q:=q) (N:=N) (bs:=bs) (bm:=tl) (hdct:=hdct) (sn:=sn) (sub:=sub) (ab:=ab) (col:=col) (dd:=dd) (k0:=k0) (k1:=k1) (k2:=k2) (k3:=k3) (k5:=k5) (mN:=mN)
  PySem.F.excBase_ValueError rfl PySem.F.excBase_ValueError (T.hasType PySem.F.excBase_ValueError.hasBase) (I.ok.hd hc) (by rw[he];show(eP||(ċ Ŏ<|Ð es X.env).any (·.1))=eP;rw[hpl];rfl) hni (Yj I hg O.bound ⟨rfl,?_⟩ ϫ)
 have hA:=ha Ŏ Á s σ H _ I h;rw[he]at hA ⊢;refine Calls.evalArgs_plain (thn hA λus s2 ⟨vs,H2,I2,r2,q2⟩=>⟨rfl,by rw[<-r2.length];exact q2.1,I2.bk _ _ hC,hN.keeps I2.bk,T.keeps I2.bk,λh' a hm=>?_⟩);obtain⟨tt,ht,_,_⟩:=hm.there;refine hw Á σ H2 s2 H2 a (.ref C) {s2 with heap:=h'} I2 ⟨rfl,I2.bare,Un.kept hm.keeps,I2.hok.kept hm.keeps,hm.new,I2.hok.none_of hm.new,eM,?_,λ_ z=>by cases z⟩ q2.2;exact⟨_,_,.ref tt,ht,rfl,rfl,rfl,rfl⟩
end
abbrev XP(X:Cx)(Á:List<|È×Obj)(σ:St)(E:XK)(v:Â)(s':Ä):Prop :=
 ∃a cls H1 H' s1,v=.ref a/\Inv X Á σ H1 s1/\Fl X.prog X.w X.stack H1 s1 H' a cls s'/\E cls eM H'
abbrev PCx(X:Cx)(e:Expr)(t:St->Hp->VK->XK->Prop):Prop :=
 ∀(Á:List<|È×Obj) (s:Ä) (σ:St) (H:Hp) (Q:VK) (E:XK),Inv X Á σ H s->t σ H Q E->wpAny (Ù X.prog X.w) X.A (eval e X.env) (EP X Á σ Q) (XP X Á σ E) s
abbrev PB(X:Cx)(body:List ħ)(t:Ends->XK->St->Hp->Prop):Prop :=
 ∀(Á:List<|È×Obj) (s:Ä) (σ:St) (H:Hp) (D:Ends) (E:XK),Inv X Á σ H s->t D E σ H->wpAny (Ù X.prog X.w) X.A (execs body X.env) (SP X Á D) (XP X Á σ E) s
section
variable {X:Cx}{x:Str}{p ç:Pos}{e c:Expr}{es:List Expr}{t:TA}
abbrev tC1(sp:Sp)(t:TA):St->Hp->VK->XK->Prop:=λσ H Q E=>t σ H λvs H1=>sp vs H1 Q E
variable {ps:List Str} {sp:Sp}
def EU{k k':Nat}(D:QU X.prog X.w X.K X.mg X.base k x ps sp)(hr:fx k' X.A)(hk:k<=k')(hg:Gl X x)(ha:PA X.nox (e::es) t)(ϫ:(x==("__debug__" : Str))=eP:=by decide)
  (he:Ð (e::es) X.env=(eP,eval e X.env)::Ð es X.env:=by rfl) (hpl:(ċ ç<|Ð es X.env).any (·.1)=eP:=by rfl):PCx X (.Call (.Name x p) (e::es) [] ç)<|tC1 sp t:=by
 obtain⟨f,fd,F,hm,hkp,hb⟩:=D;intro Á s σ H Q E I h;refine Ğ<|Yj I hg hm ?_ ϫ;refine PySem.W.callWith_K (h₀:=X.base) I.ok.mod.kin hkp (Ā (ha ç Á s σ H _ (I.wish _) h) (λus s1 ⟨vs,H1,I1,r,q⟩=>⟨I1.unwish.kIn,?_⟩) λ_ _ z=>ø z) he hpl;have I2:=I1.unwish;have hl:(us++[]).length=ps.length:=by rw[õ,<-r.length];exact F.len _ _ _ _ q
 have hbd:=hb s1 us I2.kIn hl;rw[õ]at hbd;refine aE<|š (F.run X.A X.stack s1 H1 ⟨us,[]⟩ us vs Q E (hr.mono hk) I2.env0 hbd r q) λr s' hq=>?_;cases r with
 |error e =>obtain⟨a,cls,H',z,f,q'⟩:=hq;exact⟨a,cls,H1,H',s1,z,I2,f,q'⟩
 |ok fl =>
  cases fl with
  |ret u=>exact I2.after hq
  |next=>exact ø hq
  |brk=>exact ø hq
  |cont=>exact ø hq
abbrev tCm(C:È)(m:Str)(sp:Sp)(ta:TE)(t:TA):St->Hp->VK->XK->Prop:=λσ H Q E=>ta σ H λx H1=>∃a dx fs,x=.ref a/\H1 a=eL (.ins C dx fs)/\fs.lookup m=eM/\t σ H1 λvs H2=>sp (x::vs) H2 Q E
def DN{k:Nat}{C f:È}{m:Str}{Ń:Pos}{o:Expr}{ta:TE}{fd:Ň}{pl:Sem Bool}(he:PE X.nox o ta)(c:Cls X.K C)(hm:Meth X.K C m f)(F:fy X.prog X.w X.K X.mg X.base (CX1 X.prog X.w) k f fd ps sp)(hr:fx k X.A)(hb:Binds X.K fd ps [])(ha:PA X.nox (e::es) t)
  (ů:Ð (e::es) X.env=(eP,eval e X.env)::Ð es X.env) (hpl:(ċ ç<|Ð es X.env).any (·.1)=eP)
  (ht:eval (.Call (.Attribute o m Ń) (e::es) [] ç) X.env=(do
    let ov<-eval o X.env
    χ Ń.atName
    let (f,first)<-ŋ [ov] (ρ ov m pl)
    Ϲ ç f first (ċ ç<|Ð (e::es) X.env) (Ů ç<|ĸ [] X.env))):PCx X (.Call (.Attribute o m Ń) (e::es) [] ç)<|tCm C m sp ta t:=by
 intro Á s σ H Q E I h;refine PySem.W.methodCall_KW (pl:=pl) (Ā (he Á s σ H _ (I.wish _) h) (λu s1 ⟨x,H1,I1,rx,a,dx,fs,ex,ea,l,q⟩=>?_) λ_ _ z=>ø z) ht;subst ex;obtain rfl:u=Value.ref a:=rx;refine Xy I1.unwish ea c hm l ?_;refine PySem.W.callWith_K (first:=[.ref a]) (h₀:=X.base) I.ok.mod.kin hm.kp (Ā (ha ç Á s1 σ H1 _ I1 q) (λus s2 ⟨vs,H2,I2,r,q2⟩=>⟨I2.unwish.kIn,?_⟩) λ_ _ z=>ø z) ů hpl;have I3:=I2.unwish;have rr:fZ (.ref a::vs)<|.ref a::us:=.cons rfl r;have hl:((Value.ref a::us)++[]).length=ps.length:=by rw[õ,<-rr.length];exact F.len _ _ _ _ q2
 have hbd:=hb s2 (.ref a::us) I3.kIn hl;rw[õ]at hbd;refine aE<|š (F.run X.A X.stack s2 H2 ⟨.ref a::us,[]⟩ (.ref a::us) (.ref a::vs) Q E hr I3.env0 hbd rr q2) λr s' hq=>?_;cases r with
 |error e =>obtain⟨a,cls,H',z,f,q'⟩:=hq;exact⟨a,cls,H2,H',s2,z,I3,f,q'⟩
 |ok fl =>
  cases fl with
  |ret u=>exact I3.after hq
  |next=>exact ø hq
  |brk=>exact ø hq
  |cont=>exact ø hq
variable {tc:St->Hp->VK->XK->Prop}
def Ut(hc:PCx X c tc)(hs:Ŧ c eM ç.line X.env=pure eP:=by rfl):PB X [.Expr c ç] λD E σ H=>tc σ H (λ_ H'=>D.nx σ H') E:=by intro Á s σ H D E I h;refine bw<|wpAny_Expr_any (thn (hc Á s σ H _ E I h) λv s1 ⟨x,H1,I1,r1,q1⟩=>?_) I.quiet hs;exact ź ⟨σ,H1,I1,q1⟩
def DP{i:Nat}{av:Pos}(hN:X.N.Nodup)(hi:X.N[i]?=eL x)(hx:Loc X.env.scope x)(hc:PCx X c tc)(hs:Ŧ c (eL<|.Name x av) ç.line X.env=pure eP:=by rfl)
  (hf:X.fn x=eN\/X.env.scope.names.lookup x=eL .local:=by first|exact .inl rfl|exact .inr rfl|assumption):PB X [.Assign [.Name x av] c ç] λD E σ H=>tc σ H (λv H'=>D.nx (σ.set i<|eL v) H') E:=by
 intro Á s σ H D E I h;refine bw<|wpAny_Assign_Name (thn (hc Á s σ H _ E I h) λv s1 ⟨y,H1,I1,r1,q1⟩=>?_) hs;exact W3 I1 hN hi hx r1 (λs2 I2=>ź ⟨_,H1,I2,q1⟩) hf
end
abbrev xcO(a:È)(cls:Â):HO:=.ext λh=>∃o vs,h.get? a=eL o/\o.cls=cls/\o.data=.fields vs
noncomputable abbrev Cx.caught(X:Cx)(a:È):Cx:={X with A:=X.A.mark<|eL<|.ref a,calm:=eP,xe:=λ_ _=>False}
section
variable {X:Cx}{Á:List (È×Obj)}{σ:St}{H H':Hp}{s s':Ä}{a:È}{cls:Â}
def Inv.caught(I:Inv X Á σ H s)(a:È):Inv (X.caught a) Á σ H s :=
 ⟨⟨I.ok.mod,I.ok.kind,I.ok.glob,I.ok.blt,I.ok.above,I.ok.inj,I.ok.has,I.ok.cab,λz=>Bool.noConfusion z,I.ok.frames,I.ok.stk,I.ok.exf,I.ok.bs,I.ok.bsz,I.ok.noex,I.ok.exfs,I.ok.funs,I.ok.frf⟩,I.os,I.bare,I.base,I.loc,I.cell,I.free,I.freeC,I.pin,I.hok,I.len⟩
def Inv.uncaught(I:Inv (X.caught a) Á σ H s)(ok:X.Ok):Inv X Á σ H s:=⟨ok,I.os,I.bare,I.base,I.loc,I.cell,I.free,I.freeC,I.pin,I.hok,I.len⟩
variable {l:List Env}
def Fl.hold{P:ß}{w:ñ}(f:Fl P w l H s H' a cls s')(h0:HOk P w H s.heap):s'.os=s.os/\Un (frs l) [] H (upd H' a<|xcO a cls) s.heap s'.heap/\HOk P w (upd H' a<|xcO a cls) s'.heap:=by
 have na:∀b o,s.heap.get? b=eL o->b≠a:=λb o e z=>by rw[z,f.na]at e;cases e
 have nH:∀b o,H b=eL o->b≠a:=λb o e z=>by rw[z,h0.none_of f.na]at e;cases e
 have nH':∀b o,H' b=eL o->b≠a:=λb o e z=>by rw[z,f.ha]at e;cases e
 refine⟨f.os,⟨f.un.keep,f.un.slot,λb o e n hx=>?_,f.un.there,λb xs e=>?_,λb o u e=>?_,λb ps e=>?_⟩,λb u e=>?_⟩
 .rw[eQ<|na b o e];exact f.un.free b o e n hx
 .rw[eQ<|nH b _ e];exact f.un.tups b xs e
 .rw[eQ<|nH b _ e];exact f.un.frzs b o u e
 .rw[eQ<|nH b _ e];exact f.un.tbls b ps e
 .by_cases hb:b=a
  .subst hb;rw[eR]at e;cases e;obtain⟨T,⟨oe,vs,a0,he,hc,hd,_⟩,_⟩:=f.ex;exact⟨⟨oe,vs,he,hc,hd⟩,⟨oe,he⟩,λh1 h2 ⟨o,vs,e1,e2,e3⟩ k=>⟨o,vs,k o e1,e2,e3⟩⟩
  .rw[eQ hb]at e;exact(f.hok b u e).stay (λ_ _ _ q=>q) (λc q=>by rw[eQ<|nH' c _ q];exact q) λc xs q=>by rw[eQ<|nH' c _ q];exact q
variable {B:þ}
def O8{a0:Â}{h h':þ}(z:ϲ B l a cls a0 h h'):∃t,Nj h' a cls (eL t):=by obtain⟨_,_,⟨oe,vs,t,oT,ts,e1,⟨e2,e3⟩,e4,e5,e6,e7,e8,e9,e10⟩,_⟩:=z;exact⟨t,oe,vs,a0,e1,e2,e4,e3,e5,e7,oT,ts,.none,e8,e9,e10⟩
def Wm{M:Model}{A:ā}{E:Â->Ä->Prop}{Q:Unit->Ä->Prop}{t:È}(hl:s.heap.FunFrames B l)(hx:Nj s.heap a cls<|eL t)
  (h:∀h' a0,ϲ (YH s.heap l a<|eL t) l a cls a0 s.heap h'->Q () {s with heap:=h'}):wpAny M A (setFlight (.ref a) eM) Q E s:=by
 obtain⟨oe,vs,a0,he,hc,hd,h0,h1,ž,oT,ts,fl,e1,e2,e3⟩:=hx;exact wpAny_setFlight_noneW (Yg _ _ _ _) (X9 a (eL t) hl) ⟨oe,vs,t,oT,ts,he,⟨hc,h0⟩,hd,h1,Mc _ _ _ _,ž,e1,e2,e3⟩ λh2 j1 j2 j3 j4 =>
  h h2 a0 ⟨j1,j2,j3,λb o e nf=>⟨o.slots,j4 b o e nf⟩⟩
end
section
variable {X:Cx}{Á:List (È×Obj)}{σ:St}{H H':Hp}{s s':Ä}{a:È}{cls:Â}
def Us{h:þ}{T:Option È}{t:È}(x:Nj h a cls T)(y:Nj h a cls<|eL t):T=eL t:=by
 obtain⟨oe,vs,a0,he,hc,hd,h0,ht⟩:=x;obtain⟨oe',vs',a0',he',hc',hd',h0',h1',_⟩:=y;rw[he]at he';cases he';rw[hd]at hd';cases hd';cases T with
 |none=>rw[show vs[1]?=eL Value.none from ht]at h1';cases h1'
 |some u =>rw[ht.1]at h1';cases h1';rfl
def Y5{M:Model}{A:ā}{E:Â->Ä->Prop}{Q:Unit->Ä->Prop}{i:Nat}{n:Str}{ç:Pos}(I:Inv X Á σ H s)(hN:X.N.Nodup)(hi:X.N[i]?=eL n)(hn:X.env.scope.names.lookup n=eL .local)
  (h:∀s',Inv X Á (σ.set i eM) H s'->Q () s'):wpAny M A (do bindName X.env n .none;unbindBehindTheSuite X.env n ç) Q E s:=by
 obtain⟨m,hm,hl⟩:=id I.loc;have cK:(X.env.scope.kind == .class||(X.env.scope.kind == .module&&X.env.locals != X.env.globals))=eP:=by rw[I.ok.kind];rfl
 refine wpAny_nameGoes_keeps hn hm cK λh' v hn' sb=>h _ ?_;have neL:∀b o,X.s₀.heap.get? b=eL o->b≠X.env.locals:=λb o e=>ä<|â (Õ e) I.ok.above;have same:∀b,b≠X.env.locals->h'.get? b=s.heap.get? b:=λb hb=>sb.2 b hb;refine⟨I.ok,I.os,I.bare,⟨λb o e n hb hx=>?_,λb o e n hb hx=>?_,I.base.free,λb o e hx=>?_,I.base.tups,I.base.frzs,I.base.tbls⟩,⟨_,hn',λj x u e1 e2 e3=>?_⟩,λx c e=>?_,I.free,I.freeC,λp hp=>?_,λb u e=>?_,by rw[ξ];exact I.len⟩
 .exact(same b<|neL b o e).trans<|I.base.keep b o e n hb hx
 .obtain⟨sl,e1⟩:=I.base.slot b o e n hb hx;exact⟨sl,(same b<|neL b o e).trans e1⟩
 .obtain⟨o',e1⟩:=I.base.there b o e hx;exact⟨o',(same b<|neL b o e).trans e1⟩
 .have hji:j≠i:=by
   intro z;subst z;rw[ύ ]at e2;cases q:σ[j]? with
   |none=>rw[q]at e2;cases e2
   |some _=>rw[q]at e2;cases e2
  rw[ĵ<|Ne.symm hji]at e2;obtain⟨w,r,l⟩:=hl j x u e1 e2 e3;refine⟨w,r,?_⟩;have xn:x≠n:=λz=>hji (JC hN (by rw[<-z];exact e1) hi);rcases l with⟨l1,l2⟩|⟨k,c,e,o,ho,hd⟩
  .exact .inl ⟨l1,by show(if x=n then v else m x)=eL w;rw[gh xn];exact l2⟩
  .exact .inr ⟨k,c,e,o,(same c<|I.cne x c e).trans ho,hd⟩
 .obtain⟨v,o,ho,hd⟩:=I.cell x c e;exact⟨v,o,(same c<|I.cne x c e).trans ho,hd⟩
 .obtain⟨e,n,ne,nf,d⟩:=I.pin p hp;exact⟨(same p.1 ne).trans e,n,ne,nf,d⟩
 .have nl:∀c v,H c=eL v->c≠X.env.locals:=λc v q z=>by rw[z,I.free]at q;cases q
  refine(I.hok b u e).stay (λc v hc q=>?_) (λ_ q=>q) λ_ _ q=>q;rcases hc with z|z
  .rw[z]at q ⊢;exact(same b<|nl b u e).trans q
  .exact(same c<|nl c _ z).trans q
end
abbrev Dr(i:Nat)(D:Ends):Ends:={nx:=λσ H=>D.nx (σ.set i eM) H,rt:=D.rt,bk:=λσ H=>D.bk (σ.set i eM) H,ct:=λσ H=>D.ct (σ.set i eM) H}
abbrev Ro(K:Frag)(C:Â)(i:Nat)(tb:Ends->XK->St->Hp->Prop)(ts:TS):TS:=λD σ H =>
 tb D (λcls _ H'=>PySem.W.exmOne K cls C=eL eN/\∀a,H' a=eM->ts (Dr i D) (σ.set i<|eL<|.ref a) (upd H' a<|xcO a cls)) σ H
section
variable {X:Cx}{body Ϥ:List ħ}{b₀:ħ}{T n:Str}{tp dC ç:Pos}{C:Â}{i:Nat}{tb:Ends->XK->St->Hp->Prop}{ts:TS}
def IX(ů:X.stack=X.env::X.outer)(hN:X.N.Nodup)(hi:X.N[i]?=eL n)(hn:X.env.scope.names.lookup n=eL .local)(hb:PB X body tb)(hg:Gl X T)(hm:X.mg T=eL C)(hs:∀a,PSs (X.caught a) (b₀::Ϥ) ts)(ϫ:(T==("__debug__" : Str))=eP:=by decide) :
  PS X (.Try body [.ExceptHandler (eL<|.Name T tp) (eL n) (b₀::Ϥ) dC] [] [] ç) (Ro X.K C i tb ts):=by
 intro Á s σ H D I h;refine wpAny_Try_except<|Ā (hb Á s σ H D _ I h) (λf s1 q=>?_) λv s' hx=>?_
 .cases f with
  |next=>exact ź q
  |brk=>exact q
  |cont=>exact q
  |ret u=>exact q
 obtain⟨a,cls,H1,H',s1,rfl,I1,f,cK,hk⟩:=hx;have J:=I1.raised f;obtain⟨T0,hx,hT⟩:=f.ex;have cR:=Xv I.ok ů;have jst:=J.stack;have jfr:=J.stkFree;have fr:=I.ok.frames;rw[ů]at jst jfr fr;have Ϙ:∀{s2:Ä},Fl X.prog X.w (X.env::X.outer) H1 s1 H' a cls s2->Fl X.prog X.w X.stack H1 s1 H' a cls s2:=λz=>by rw[ů];exact z
 have f':Fl X.prog X.w (X.env::X.outer) H1 s1 H' a cls s':=by rw[<-ů];exact f
 refine Wb fr cR jst hx λh' a0 z=>?_;have f2:=f'.left hT jst jfr z;obtain⟨T2,df,hT2⟩:=f2.ex;obtain⟨t,hx2'⟩:=O8 z;have et:=Us df hx2';subst et;have J2:=I1.raised<|Ϙ f2;have cS:=J2.stack;rw[ů]at cS;obtain⟨oe,vs,b0,he,hc,_⟩:=id df;have LT:PySem.W.Looks (Ù X.prog X.w) h' (typeOf<|.ref a) cls:=by subst hc;exact(PySem.W.Looks.ld he).andThen .now
 refine wpAny_handleBy_cons (codeAny_handlers_test<|Yj (X:=X.caught a) (J2.caught a) hg hm ((PySem.W.exm_one J2.kIn LT cK).here ?_) ϫ) (by intro q;cases q);refine codeAny_handlers_suite_as<|Wm cS df λh3 a1 z3=>?_;have f3:=f2.left hT2 cS jfr z3;obtain⟨os3,un3,hok3⟩:=(Ϙ f3).hold I1.hok;have J3:Inv X Á σ (upd H' a<|xcO a cls) {s' with heap:=h3}:=I1.call' (ch:=[]) os3 un3 hok3 f3.bare (λb z=>gp z<|by simp);refine W3 (X:=X.caught a) (J3.caught a) hN hi (.inl hn) (show RelV (.ref a) (.ref a) from rfl) (λs4 I4=>?_)<|.inr hn;refine Ā (hs a Á s4 _ _ (Dr i D) I4<|hk a f3.ha) (λfl s5 q5=>?_) λ_ _ z=>ø z;cases fl with
 |next =>obtain⟨σ5,H5,I5,q⟩:=q5;exact Y5 (I5.uncaught I.ok) hN hi hn λs6 I6=>⟨_,H5,I6,q⟩
 |brk =>obtain⟨σ5,H5,I5,q⟩:=q5;exact Y5 (I5.uncaught I.ok) hN hi hn λs6 I6=>⟨_,H5,I6,q⟩
 |cont =>obtain⟨σ5,H5,I5,q⟩:=q5;exact Y5 (I5.uncaught I.ok) hN hi hn λs6 I6=>⟨_,H5,I6,q⟩
 |ret u =>obtain⟨v,σ5,H5,I5,r,q⟩:=q5;exact Y5 (I5.uncaught I.ok) hN hi hn λs6 I6=>⟨v,_,H5,I6,r,q⟩
end
end L2
namespace L2
open PySem PySem.Spec PySem.W PySem.Calls PyProof.Rows PySem.Builtin PySem.Builtin.ObjectAttr PySem.Builtin.Getset_descriptor
section
variable {prog:ß}{w:ñ}{A:ā}{E:Â->Ä->Prop}{K:Θ}{h:þ}{g:Array ck}{d:Drawn}{t:Nat}{os:OsState}{a C:È}{o:Obj}
structure XCls(K:Θ)(C:È):Prop where
 ga:ac K (.ref C) "__getattribute__" = eL (eL<|.builtin "BaseException.__getattribute__")
 gr:ac K (.ref C) "__getattr__" = eL eM
 cl:ac K (.ref C) "__class__" = eL (eL<|.builtin "object.__class__")
 mo:mroIn K C (.type "object")=eL eN
 mb:mroIn K C (.type "BaseException")=eL eN
 ci:(clsIn K C).isSome=eN
end
end L2
namespace L2
open PySem PySem.Spec PyProof.Rows
abbrev P3(K:Frag)(C:Â)(tb:Ends->XK->St->Hp->Prop)(ts:TS):TS:=λD σ H =>
 tb D (λcls _ H'=>PySem.W.exmOne K cls C=eL eN/\∀a,H' a=eM->ts D σ (upd H' a<|xcO a cls)) σ H
section
variable {X:Cx}{body Ϥ:List ħ}{b₀:ħ}{T:Str}{tp dC ç:Pos}{C:Â}{tb:Ends->XK->St->Hp->Prop}{ts:TS}
def Fk(ů:X.stack=X.env::X.outer)(hb:PB X body tb)(hg:Gl X T)(hm:X.mg T=eL C)(hs:∀a,PSs (X.caught a) (b₀::Ϥ) ts)(ϫ:(T==("__debug__" : Str))=eP:=by decide) :
  PS X (.Try body [.ExceptHandler (eL<|.Name T tp) eM (b₀::Ϥ) dC] [] [] ç) (P3 X.K C tb ts):=by
 intro Á s σ H D I h;refine wpAny_Try_except<|Ā (hb Á s σ H D _ I h) (λf s1 q=>?_) λv s' hx=>?_
 .cases f with
  |next=>exact ź q
  |brk=>exact q
  |cont=>exact q
  |ret u=>exact q
 obtain⟨a,cls,H1,H',s1,rfl,I1,f,cK,hk⟩:=hx;have J:=I1.raised f;obtain⟨T0,hx,hT⟩:=f.ex;have cR:=Xv I.ok ů;have jst:=J.stack;have jfr:=J.stkFree;have fr:=I.ok.frames;rw[ů]at jst jfr fr;have Ϙ:∀{s2:Ä},Fl X.prog X.w (X.env::X.outer) H1 s1 H' a cls s2->Fl X.prog X.w X.stack H1 s1 H' a cls s2:=λz=>by rw[ů];exact z
 have f':Fl X.prog X.w (X.env::X.outer) H1 s1 H' a cls s':=by rw[<-ů];exact f
 refine Wb fr cR jst hx λh' a0 z=>?_;have f2:=f'.left hT jst jfr z;obtain⟨T2,df,hT2⟩:=f2.ex;obtain⟨t,hx2'⟩:=O8 z;have et:=Us df hx2';subst et;have J2:=I1.raised<|Ϙ f2;have cS:=J2.stack;rw[ů]at cS;obtain⟨oe,vs,b0,he,hc,_⟩:=id df;have LT:PySem.W.Looks (Ù X.prog X.w) h' (typeOf<|.ref a) cls:=by subst hc;exact(PySem.W.Looks.ld he).andThen .now
 refine wpAny_handleBy_cons (codeAny_handlers_test<|Yj (X:=X.caught a) (J2.caught a) hg hm ((PySem.W.exm_one J2.kIn LT cK).here ?_) ϫ) (by intro q;cases q);refine codeAny_handlers_suite<|Wm cS df λh3 a1 z3=>?_;have f3:=f2.left hT2 cS jfr z3;obtain⟨os3,un3,hok3⟩:=(Ϙ f3).hold I1.hok;have J3:Inv X Á σ (upd H' a<|xcO a cls) {s' with heap:=h3}:=I1.call' (ch:=[]) os3 un3 hok3 f3.bare (λb z=>gp z<|by simp);refine Ā (hs a Á _ _ _ D (J3.caught a)<|hk a f3.ha) (λfl s5 q5=>?_) λ_ _ z=>ø z;cases fl with
 |next =>obtain⟨σ5,H5,I5,q⟩:=q5;exact⟨_,H5,I5.uncaught I.ok,q⟩
 |brk =>obtain⟨σ5,H5,I5,q⟩:=q5;exact⟨_,H5,I5.uncaught I.ok,q⟩
 |cont =>obtain⟨σ5,H5,I5,q⟩:=q5;exact⟨_,H5,I5.uncaught I.ok,q⟩
 |ret u =>obtain⟨v,σ5,H5,I5,r,q⟩:=q5;exact⟨v,_,H5,I5.uncaught I.ok,r,q⟩
end
end L2
namespace L2
open PySem PySem.Spec PyProof.Rows
open PySem.Builtin PySem.Builtin.Str
abbrev Ah(z:Str)(lo hi:Option Int):Str:=if(Ι lo hi 1 z.length).length=z.length then z else⟨((Ι lo hi 1 z.length).filterMap (z.cps[·]?)).toArray⟩
def Cd(z:Str)(lo hi:Option Int):(Ah z lo hi).length<=z.length:=by
 unfold Ah;split
 .exact Ì _
 .show((Ι lo hi 1 z.length).filterMap (z.cps[·]?)).toArray.size<=_;rw[Î];exact Ô (List.length_filterMap_le _ _)<|indices_len_le lo hi z.length
section
variable {X:Cx}
abbrev Qx:V->Option Int->Option Int->Hp->VK->Prop:=λx lo hi H Q=>∃z,x=.str z/\z.length<=Ø/\Q (.str<|Ah z lo hi) H
def O5{v:Â}{lo:Option Int}(h:Ϧ v lo):∃l:Option<|Int×Tok,v=partValue l/\l.map (·.1)=lo:=by
 cases h with
 |none=>exact⟨eM,rfl,rfl⟩
 |int i t=>exact⟨eL (i,t),rfl,rfl⟩
def sl_str:SlR X Qx:=by
 intro Á s σ H x v vl vu lo hi sl Q I rx hs pl pu h;obtain⟨z,rfl,hz,q⟩:=h;obtain⟨t,rfl⟩:=rx;refine⟨"str",_,slot_str_getitem.lookup,typeIs_str s z t,?_⟩;obtain⟨l,rfl,el⟩:=O5 pl;obtain⟨u,rfl,eu⟩:=O5 pu;have hs':s.heap.IsSlice sl l u eM:=hs;refine wpAny_getItem_str_slice hs' rfl ?_;have e:sliceMade z t l u eM=if(Ι lo hi 1 z.length).length=z.length then .val (.str z t)else .str ⟨((Ι lo hi 1 z.length).filterMap (z.cps[·]?)).toArray⟩:=by unfold sliceMade slicePicked;rw[el,eu];simp
 rw[e];have cl:=Cd z lo hi;unfold Ah at q cl;split
 .rename_i hh;rw[gg hh]at q;exact⟨.str z,H,I,⟨t,rfl⟩,q⟩
 .rename_i hh;rw[gh hh]at q cl;exact⟨Ô cl hz,.str _,H,I.tok _,⟨_,rfl⟩,q⟩
end
section
variable {X:Cx}
def Ue(z:Str):∀(n:Nat) (a:Array Nat),((Ö n z.cps).foldl (· ++ ·) a).size=a.size+n*z.cps.size
 |0,a=>by simp
 |n+1,a=>by rw[Č,ű,Ue z n,Array.size_append,Nat.succ_mul];lia
def fZ.ins{xs:List V}{us:List Â}{y:V}{u:Â}(r:fZ xs us)(ry:RelV y u)(k:Nat):fZ (xs.take k++y::xs.drop k)<|us.take k++u::us.drop k:=(r.take k).append (.cons ry<|r.drop k)
end
end L2
namespace L2
open PySem PySem.Spec PyProof.Rows
section
variable {X:Cx}(K:Frag) (h:X.K=K)
include h
end
end L2
namespace HT
open PySem PyProof.Rows
open PySem.SeqAt
open PySem.AutoSeq1 (wpAny_loadPart')
open PySem.MeetsSeq PySem.MeetsSeq2 PySem.MeetsSeq3
section
variable {prog:ß}{w:ñ}{A:ā}{E:Â->Ä->Prop}{s:Ä}
def getItem_tuple_whole{t sl:È}{items:Array Â}{vl vu:Â}{lo hi:Option Int}{Q:Â->Ä->Prop}(ht:ay s.heap t items)(hs:s.heap.IsSliceOf sl vl vu .none)(pl:Ϧ vl lo)(pu:Ϧ vu hi)
  (hw:sIx items.size 0 lo=0/\sIx items.size items.size hi=items.size)
  (h:Q (.ref t) s):wpAny (Ù prog w) A (ϥ (.ref t)<|.ref sl) Q E s:=by
 obtain⟨os,hos,hcs,hds⟩:=id hs;have hTs:s.TypeIs (.ref sl) "slice":=⟨os,hos,hcs⟩
 unfold ϥ
 try with_reducible refine Ě ?_
 first|refine À (Ç ?_)|skip
 refine À (wpAny_sequenceKey ht.typeIs (by decide) ?_);refine À (ē (name:=gu "__getitem__") ht.typeIs PyProof.Rows.slot_tuple_getitem
   (Ĉ PyProof.Rows.slot_tuple_getitem ht.typeIs entry_tuple_getitem ?_<|args_tuple_getitem _ _))
 show wpAny _ _ (Builtin.Tuple.tupleItemsOf (.ref t) >>= _) _ _ s;refine À<|tupleItemsOf_ ht ?_;refine À<|ϧ hTs ?_;rw[gg<|by decide];refine À<|Yr hs pl pu ?_;have hyes:(((sIx items.size 0 lo:Nat):Int)==0&&(1:Int)==1&&(sIx items.size items.size hi - sIx items.size 0 lo)==items.size)=eN:=by rw[hw.1,hw.2];simp
 show wpAny _ _ (if(((sIx items.size 0 lo:Nat):Int)==0&&(1:Int)==1&&(sIx items.size items.size hi - sIx items.size 0 lo)==items.size)=eN then _ else _) _ _ s;rw[gg hyes];refine À ?_;unfold Builtin.Tuple.tupleIsExact;refine À<|ϧ ht.typeIs<|Ç ?_;rw[gg<|by decide]
 first
  |exact À<|Ç<|Ç ⟨_,rfl,Ç h⟩
  |exact À<|Χ<|Ç ⟨_,rfl,Ç h⟩
  |exact Ç ⟨_,rfl,Ç h⟩
end
end HT
namespace L2
open PySem PySem.Spec PyProof.Rows
section
variable {X:Cx}
abbrev L0(K:Frag):V->Option Int->Option Int->Hp->VK->Prop:=λx lo hi H Q=>∃a xs,x=.ref a/\fY K H a xs/\(HT.sIx xs.length 0 lo=0/\HT.sIx xs.length xs.length hi=xs.length)/\Q (.ref a) H
def F0:SlR X<|L0 X.K:=by
 intro Á s σ H x v vl vu lo hi sl Q I rx hs pl pu h;obtain⟨a,xs,rfl,hx,hw,q⟩:=h;cases rx;obtain⟨ò,r,ht,hz⟩:=I.tuple hx;have Ē:ò.toArray.size=xs.length:=by rw[Î];exact r.length.symm
 refine⟨"tuple",_,PyProof.Rows.slot_tuple_getitem.lookup,ht.typeIs,?_⟩;exact HT.getItem_tuple_whole ht hs pl pu (by rw[Ē];exact hw) ⟨.ref a,H,I,rfl,q⟩
end
end L2
namespace L2
open PySem PySem.Spec PyProof.Rows
open PySem.Builtin PySem.Builtin.Str
section
variable {X:Cx}
abbrev Iz(z:Str)(n:Nat):Str:=⟨(Ö n z.cps).foldl (· ++ ·) #[]⟩
def KH(z:Array Nat):∀(n:Nat) (a:Array Nat),((Ö n z).foldl (· ++ ·) a).toList=a.toList++(Ö n z.toList).flatten
 |0,a=>by simp
 |n+1,a=>by rw[Č,ű,KH z n,Č,Ō,Array.toList_append,Ķ]
abbrev F5:R2:=λx y H Q=>∃z k,x=.str z/\y=.int k/\2<=k/\k<=1000000/\1<=z.length/\z.length*k.toNat<=1000000/\Q (.str<|Iz z k.toNat) H
def Ek:OpR X (ŏ .Mult) F5:=by
 intro Á s σ H x y v u Q I rx ry h;obtain⟨z,k,rfl,rfl,h2,h6,h1,hz,q⟩:=h;obtain⟨t,rfl⟩:=rx;obtain⟨t',rfl⟩:=ry;have big:(1000000:Nat)<=Ø:=by decide
 have nb:(k==1||z.length==0)=eP:=by have e1:(k==1)=eP:=beq_false_of_ne (by lia);have e2:(z.length==0)=eP:=beq_false_of_ne (by lia);rw[e1,e2];rfl
 have zl:z.length<=1000000:=by have:z.length*1<=z.length*k.toNat:=dO _ (by lia);lia
 have hr:(gq (k < -(2 ^ 63:Int))||gq (k≥2 ^ 63))=eP:=by rw[gj (by lia),gj<|by lia];rfl
 have hb:¬ k<1->(k==1||z.length==0)=eP->¬ ((z.length:Int) > (2 ^ 63 - 1) / k):=λ_ _=>by have:(1000000:Int)<=(2 ^ 63 - 1) / k:=(Int.le_ediv_iff_mul_le<|by lia).mpr (by lia);lia
 have hl:¬ k<1->(k==1||z.length==0)=eP->tooLong (z.length*k.toNat)=eP:=λ_ _=>by unfold tooLong;exact gj (by lia)
 refine P.mul_str hr hb hl ?_;rw[gh (by lia),gh<|by rw[nb];exact ü];have el:(⟨(Ö k.toNat z.cps).foldl (· ++ ·) #[]⟩:Str).length=z.length*k.toNat:=by show((Ö k.toNat z.cps).foldl (· ++ ·) #[]).size=_;rw[Ue,Nat.mul_comm z.length];simp[Str.length]
 exact⟨by rw[el];lia,.str _,H,I.tok _,⟨_,rfl⟩,q⟩
variable {c y z a b:Str}{k1 k2 k3:Nat}{p1 p2 p3 p4 pa pb Ń Ŏ:Pos}
end
end L2
namespace L2
open PySem PySem.Spec PyProof.Rows
section
variable {X:Cx}
abbrev Gu(K:Frag):R2:=λx y H Q=>∃a b ys,x=.ref a/\y=.ref b/\fY K H a []/\fY K H b ys/\Q (.ref b) H
def op_cat0:OpR X (ŏ .Add)<|Gu X.K:=by
 intro Á s σ H x y v u Q I rx ry h;obtain⟨a,b,ys,rfl,rfl,ha,hb,q⟩:=h;cases rx;cases ry;obtain⟨ò,r1,p1,_⟩:=I.tuple ha;obtain⟨bE,r2,p2,_⟩:=I.tuple hb;cases r1;obtain⟨⟨cls,dd,data,sl⟩,ho,hc,n,hd⟩:=id p1;obtain⟨⟨cls2,cZ,data2,d0⟩,ho2,hc2,n2,cM⟩:=id p2;simp only at hc hd hc2 cM;subst hc hd hc2 cM;exact ee ⟨_,ho,rfl⟩ ⟨_,ho2,rfl⟩ bA dk PySem.F.slot_tuple_add PySem.F.entry_tuple_add (PySem.F.args_tuple_add_2 _ _)
  (tuple_addW0 a b _ _ n n2 dd cZ sl d0 rfl) ⟨ho,ho2,.ref b,H,I,rfl,q⟩
end
abbrev ZSt(z TI TO i1 i2 a b:È)(i:Nat)(h:þ):Prop:=IsZip h z TI TO .none/\IsPair h TI (.ref i1) (.ref i2)/\(∃u v,IsPair h TO u v)/\h.IsListIter i1 a i/\h.IsListIter i2 b i
variable {z:È} {i1:È} {i2:È} {a:È} {b:È} {i:Nat} {h:þ}
def ZSt.keep{TI TO:È}{h':þ}(st:ZSt z TI TO i1 i2 a b i h)(k:∀c∈[z,TI,TO,i1,i2],∀o,h.get? c=eL o->h'.get? c=eL o):ZSt z TI TO i1 i2 a b i h':=by obtain⟨h1,h2,⟨u,v,h3⟩,h4,h5⟩:=st;exact⟨k z (by simp) _ h1,k TI (by simp) _ h2,⟨u,v,k TO (by simp) _ h3⟩,h4.at λo q=>k i1 (by simp) o q,h5.at λo q=>k i2 (by simp) o q⟩
def ZSt.obj{TI TO:È}(st:ZSt z TI TO i1 i2 a b i h):∀c∈[z,TI,TO,i1,i2],∃o,h.get? c=eL o/\(∀v,o.data≠.cell v)/\o.cls≠.type "list":=by
 obtain⟨h1,h2,⟨u,v,h3⟩,⟨o4,e4,c4,d4⟩,⟨o5,e5,c5,d5⟩⟩:=st;intro c hc;simp only[Æ,Í,or_false]at hc;rcases hc with rfl|rfl|rfl|rfl|rfl
 .exact⟨_,h1,(λv z=>(by cases z)),(show Value.type "zip"≠.type "list" by decide)⟩
 .exact⟨_,h2,(λv z=>(by cases z)),(show Value.type "tuple"≠.type "list" by decide)⟩
 .exact⟨_,h3,(λv z=>(by cases z)),(show Value.type "tuple"≠.type "list" by decide)⟩
 .exact⟨_,e4,(λv z=>(by rw[d4]at z;cases z)),(by rw[c4];decide)⟩
 .exact⟨_,e5,(λv z=>(by rw[d5]at z;cases z)),(by rw[c5];decide)⟩
section
variable {X:Cx}
abbrev Pe(te:TE):TE:=λσ H Q=>te σ H λx H1=>(∃i,x=.int i/\i.natAbs.log2<1920/\Q (.str<|toString i) H1)\/∃z,x=.str z/\z.length<=Ø/\Q (.str z) H1
def FY{e:Expr}{te:TE}{ç:Pos}(he:PE X e te):PE X (.FormattedValue e (-1) eM ç)<|Pe te:=by
 intro Á s σ H Q I h;refine wpAny_FormattedValue_plain<|thn (he Á s σ H _ I h) λv s1 ⟨x,H1,I1,r1,q1⟩=>?_;rcases q1 with⟨i,e1,hd,q1⟩|⟨z,e1,hz,q1⟩
 .subst e1;obtain⟨t,rfl⟩:=r1;exact wpAny_formatField_int hd ⟨.str _,H1,I1.tok _,⟨_,rfl⟩,q1⟩
 .subst e1;obtain⟨t,rfl⟩:=r1;exact wpAny_formatField_str ⟨.str _,H1,I1,⟨_,rfl⟩,q1⟩ ⟨.str _,H1,I1.tok _,⟨_,rfl⟩,q1⟩ hz
abbrev EN(K:Frag)(neg:Bool):R2:=λx y H Q=>∃ds d,(IsD K H y (.tuple ds)\/IsD K H y (.list ds))/\IsD K H x d/\Ř ds=eN/\d.canLay0=eN/\d.depth<=64/\Q (.bl<|if neg then !ds.any (λe=>Ī e d)else ds.any λe=>Ī e d) H
def GY(hu:X.A.units+65<Ĩ):OpR X (ë .In)<|EN X.K eP:=by
 intro Á s σ H x y v u Q I rx ry h;obtain⟨ds,d,hd,he,sd,se,hdp,q⟩:=h;obtain⟨bs,rb⟩:=he.reads I rx;have hr:X.A.units+1+min (ņ ds) d.depth<Ĩ:=by have:min (ņ ds) d.depth<=d.depth:=aF _ _;lia
 rcases hd with hd|hd
 .obtain⟨as,ra⟩:=hd.reads I ry;exact SeqAt.in_tuple_reads ra rb sd se hr ⟨.bl _,H,I,rfl,q⟩
 .obtain⟨as,ra⟩:=hd.reads I ry;exact SeqAt.in_list_reads ra rb sd se hr ⟨.bl _,H,I,rfl,q⟩
def Au(hu:X.A.units+65<Ĩ):OpR X (ë .NotIn)<|EN X.K eN:=by
 intro Á s σ H x y v u Q I rx ry h;obtain⟨ds,d,hd,he,sd,se,hdp,q⟩:=h;obtain⟨bs,rb⟩:=he.reads I rx;have hr:X.A.units+1+min (ņ ds) d.depth<Ĩ:=by have:min (ņ ds) d.depth<=d.depth:=aF _ _;lia
 rcases hd with hd|hd
 .obtain⟨as,ra⟩:=hd.reads I ry;exact SeqAt.notIn_tuple_reads ra rb sd se hr ⟨.bl _,H,I,rfl,q⟩
 .obtain⟨as,ra⟩:=hd.reads I ry;exact SeqAt.notIn_list_reads ra rb sd se hr ⟨.bl _,H,I,rfl,q⟩
end
abbrev ZSy(z TI TO i1 i2 a b:È)(i:Nat)(h:þ):Prop:=IsZip h z TI TO .none/\IsPair h TI (.ref i1) (.ref i2)/\(∃u v,IsPair h TO u v)/\h.IsTupleIter i1 a i/\h.IsTupleIter i2 b i
variable {z:È} {i1:È} {i2:È} {a:È} {b:È} {i:Nat} {h:þ}
def ZSy.keep{TI TO:È}{h':þ}(st:ZSy z TI TO i1 i2 a b i h)(k:∀c∈[z,TI,TO,i1,i2],∀o,h.get? c=eL o->h'.get? c=eL o):ZSy z TI TO i1 i2 a b i h':=by obtain⟨h1,h2,⟨u,v,h3⟩,h4,h5⟩:=st;exact⟨k z (by simp) _ h1,k TI (by simp) _ h2,⟨u,v,k TO (by simp) _ h3⟩,h4.at λo q=>k i1 (by simp) o q,h5.at λo q=>k i2 (by simp) o q⟩
def ZSy.obj{TI TO:È}(st:ZSy z TI TO i1 i2 a b i h):∀c∈[z,TI,TO,i1,i2],∃o,h.get? c=eL o/\∀v,o.data≠.cell v:=by
 obtain⟨h1,h2,⟨u,v,h3⟩,⟨o4,e4,c4,d4⟩,⟨o5,e5,c5,d5⟩⟩:=st;intro c hc;simp only[Æ,Í,or_false]at hc;rcases hc with rfl|rfl|rfl|rfl|rfl
 .exact⟨_,h1,λv z=>by cases z⟩
 .exact⟨_,h2,λv z=>by cases z⟩
 .exact⟨_,h3,λv z=>by cases z⟩
 .exact⟨_,e4,λv z=>by rw[d4]at z;cases z⟩
 .exact⟨_,e5,λv z=>by rw[d5]at z;cases z⟩
section
variable {κ:Type} [DecidableEq κ]
abbrev Ym(kvs:List<|κ×V)(k:κ):Option V:=(kvs.find? λkv=>gq (kv.1=k)).map (·.2)
abbrev fu(kvs:List<|κ×V)(k:κ)(v:V):List (κ×V) :=
 if(kvs.any λkv=>gq (kv.1=k))=eN then kvs.map (λkv=>if kv.1=k then(kv.1,v)else kv)else kvs++[(k,v)]
abbrev fv(kvs:List<|κ×V)(k:κ):List<|κ×V:=kvs.filter λkv=>gq (kv.1≠k)
variable {p:κ×V} {r:List (κ×V)}
def YN{k:κ}(e:p.1=k):Ym (p::r) k=eL p.2:=by simp[Ym,ę,e]
def YT{k:κ}(e:¬ p.1=k):Ym (p::r) k=Ym r k:=by simp[Ym,ę,e]
def YM(k:κ):∀kvs:List<|κ×V,(kvs.any λkv=>gq (kv.1=k))=(Ym kvs k).isSome
 |[]=>rfl
 |p::r=>by
  rw[ĳ];by_cases e:p.1=k
  .simp only[YN e,gk e,Bool.true_or,cV]
  .rw[YT e,gj e,Bool.false_or];exact YM k r
def YY(kvs:List<|κ×V)(k:κ)(v:V):(fu kvs k v).length<=kvs.length+1:=by
 unfold fu;split
 .rw[Ã];lia
 .rw[î,Ë,Ę];lia
variable {o:Option V} {u:Option Â}
def fw.isSome_eq(r:fw o u):o.isSome=u.isSome:=by
 cases o with
 |none=>cases u with
  |none=>rfl
  |some _=>exact(show False from r).elim
 |some _=>cases u with
  |none=>exact(show False from r).elim
  |some _=>rfl
def fw.getD{d:V}{d':Â}(r:fw o u)(rd:RelV d d'):RelV (o.getD d)<|u.getD d':=by
 cases o with
 |none=>cases u with
  |none=>exact rd
  |some _=>exact(show False from r).elim
 |some _=>cases u with
  |none=>exact(show False from r).elim
  |some _=>exact r
variable {kvs:List (κ×V)} {vs:List (κ×Â)}
def KV.val(r:KV kvs vs)(k:κ):fw (Ym kvs k)<|Ϩ vs k:=by
 unfold KV at r;induction r with
 |nil=>exact True.intro
 |@cons p q ps qs h t ih =>
  obtain⟨h1,h2⟩:=h;by_cases e:p.1=k
  .have e':q.1=k:=h1.symm.trans e;have b:Ϩ (q::qs) k=eL q.2:=by simp[Ϩ,ę,e']
   rw[YN e,b];exact h2
  .have e':¬ q.1=k:=λz=>e<|h1.trans z;have b:Ϩ (q::qs) k=Ϩ qs k:=by simp[Ϩ,ę,e']
   rw[YT e,b];exact ih
def KV.any(r:KV kvs vs)(k:κ):(kvs.any λkv=>gq (kv.1=k))=vs.any λkv=>gq (kv.1=k):=by
 unfold KV at r;induction r with
 |nil=>rfl
 |cons h t ih=>rw[ĳ,ĳ,ih,h.1]
variable {y:V}
def KV.repl(r:KV kvs vs)(k:κ){u:Â}(ry:RelV y u) :
  KV (kvs.map λkv=>if kv.1=k then(kv.1,y)else kv) (vs.map λkv=>if kv.1=k then(kv.1,u)else kv):=by
 unfold KV at r ⊢;induction r with
 |nil=>exact .nil
 |@cons p q ps qs h t ih =>
  rw[Ï,Ï];refine .cons ?_ ih;obtain⟨h1,h2⟩:=h;by_cases e:p.1=k
  .rw[gg e,gg<|h1.symm.trans e];exact⟨h1,ry⟩
  .rw[gh e,gh λz=>e<|h1.trans z];exact⟨h1,h2⟩
def KV.put(r:KV kvs vs)(k:κ){u:Â}(ry:RelV y u):KV (fu kvs k y)<|stored vs k u:=by
 unfold fu stored;rw[r.any k];by_cases e:(vs.any λkv=>gq (kv.1=k))=eN
 .rw[gg e,gg e];exact r.repl k ry
 .rw[gh e,gh e];exact Paired.snoc r ⟨rfl,ry⟩
def KV.drop(r:KV kvs vs)(k:κ):KV (fv kvs k)<|without vs k:=by
 unfold KV at r ⊢;unfold fv without;induction r with
 |nil=>exact .nil
 |@cons p q ps qs h t ih =>
  obtain⟨h1,h2⟩:=h;rw[ě,ě];by_cases e:p.1=k
  .have a:¬ gq (p.1≠k)=eN:=by simp[e]
   have b:¬ gq (q.1≠k)=eN:=by simp[h1.symm.trans e]
   rw[gh a,gh b];exact ih
  .have e':¬ q.1=k:=λz=>e<|h1.trans z;have a:gq (p.1≠k)=eN:=by simp[e]
   have b:gq (q.1≠k)=eN:=by simp[e']
   rw[gg a,gg b];exact .cons ⟨h1,h2⟩ ih
def KV.keys(r:KV kvs vs):kvs.map (·.1)=vs.map (·.1):=by
 unfold KV at r;induction r with
 |nil=>rfl
 |cons h t ih=>rw[Ï,Ï,ih,h.1]
def KV.length(r:KV kvs vs):kvs.length=vs.length:=Paired.length r
def AV(kvs:List<|κ×V)(k:κ):(fv kvs k).length<=kvs.length:=ŝ _ _
end
variable {P:ß} {w:ñ} {u:Â}
def Xn{k:Key}(r:RelV (kV k) u):(Zd P w).is k u=eN:=by
 cases k with
 |inl i=>obtain⟨t,e⟩:=(show ∃t,u=Value.int i t from r);subst e;exact MI P w i t
 |inr x=>obtain⟨t,e⟩:=(show ∃t,u=Value.str x t from r);subst e;exact NM P w x t
def Ku{P:ß}{w:ñ}:∀{ks:List Key}{us:List Â},fZ (ks.map kV) us->ItemsAre (Zd P w) ks us
 |[],_,r=>by rw[ai]at r;cases r;exact .nil
 |k::ks,_,r=>by
  rw[Ï]at r;cases r with
  |cons h t=>exact .cons (Xn h)<|Ku t
@[reducible] noncomputable def KTd(H:Hp):List (List Key×V)->List (List Key×È×Â)->Prop:=Paired λp q=>p.1=q.1/\H q.2.1=eL (.tup<|p.1.map kV)/\RelV p.2 q.2.2
variable {H:Hp} {kvs:List (List Key×V)} {xs:List (List Key×È×Â)}
def KTd.val(r:KTd H kvs xs)(k:List Key):fw (Ym kvs k) ((cC xs k).map (·.2)):=by
 induction r with
 |nil=>exact True.intro
 |@cons p q ps qs h t ih =>
  obtain⟨h1,_,h2⟩:=h;by_cases e:p.1=k
  .have e':q.1=k:=h1.symm.trans e;have b:cC (q::qs) k=eL q.2:=by simp[cC,ę,e']
   rw[YN e,b];exact h2
  .have e':¬ q.1=k:=λz=>e<|h1.trans z;have b:cC (q::qs) k=cC qs k:=by simp[cC,ę,e']
   rw[YT e,b];exact ih
variable {y:V}
def KTd.repl(r:KTd H kvs xs)(k:List Key)(ry:RelV y u) :
  KTd H (kvs.map λkv=>if kv.1=k then(kv.1,y)else kv) (xs.map<|putAt k u):=by
 induction r with
 |nil=>exact .nil
 |@cons p q ps qs h t ih =>
  rw[Ï,Ï];refine .cons ?_ ih;obtain⟨h1,h2,h3⟩:=h;unfold putAt;by_cases e:p.1=k
  .rw[gg e,gg<|h1.symm.trans e];exact⟨h1,h2,ry⟩
  .rw[gh e,gh λz=>e<|h1.trans z];exact⟨h1,h2,h3⟩
variable {b:È}
def KTd.put(r:KTd H kvs xs)(k:List Key)(hb:H b=eL (.tup<|k.map kV))(ry:RelV y u) :
  KTd H (fu kvs k y) (storedH xs k b u):=by
 have e:(kvs.any λkv=>gq (kv.1=k))=(cC xs k).isSome:=by rw[YM,(r.val k).isSome_eq,ř]
 unfold fu storedH;rw[e];by_cases q:(cC xs k).isSome=eN
 .rw[gg q,gg q];exact r.repl k ry
 .rw[gh q,gh q];exact Paired.snoc r ⟨rfl,hb,ry⟩
variable {H':Hp}
def KTd.keeps(r:KTd H kvs xs)(ht:∀b ys,H b=eL (.tup ys)->H' b=eL (.tup ys)):KTd H' kvs xs :=
 Paired.mapP r λ_ _ z=>⟨z.1,ht _ _ z.2.1,z.2.2⟩
section
variable {P:ß}{w:ñ}{H:Hp}{h:þ}{a:È}
def F9{u:HO}(ok:HOk P w H h)(e:Rd H a u):eZ P w H h a u:=e.ok ok
def Xo{kvs:List (Key×V)}(ok:HOk P w H h)(e:Rd H a<|.dK kvs):kvs.length<=Ø/\(a==ş)=eP/\∃vs,KV kvs vs/\h.DictOf (Zd P w) a vs :=
 show eZ P w H h a (.dK kvs) from F9 ok e
def Ja{kvs:List (Key×V)}(ok:HOk P w H h)(e:H a=eL (.dK kvs)):kvs.length<=Ø/\(a==ş)=eP/\∃vs,KV kvs vs/\h.DictOf (Zd P w) a vs:=Xo ok (.inl e)
def fg{ks:List Key}(ok:HOk P w H h)(e:H a=eL (.tup<|ks.map kV)):(ϛ<|Zd P w).is h ks a:=by
 obtain⟨_,ò,r,o,h1,h2,n,h3⟩:=(show eZ P w H h a (.tup<|ks.map kV) from ok a _ e)
 exact⟨o,ò.toArray,n,h1,h2,h3,by simpa using Ku r⟩
def Wu(ok:HOk P w H h)(e:Rd H a<|.dT kvs):kvs.length<=Ø/\(a==ş)=eP/\
  ∃xs,KTd H kvs xs/\h.DictOfH (ϛ<|Zd P w) a xs:=by
 obtain⟨z,y,xs,r,o,es,ep,h1,h2,h3,h4,h5⟩:=(show eZ P w H h a (.dT kvs) from F9 ok e)
 refine⟨z,y,xs,r,o,es,ep,h1,h2,h3,h4,λx hx=>?_,h5⟩;have all:∀{l:List (List Key×V)}{m:List (List Key×È×Â)},KTd H l m->∀x∈m,(ϛ<|Zd P w).is h x.1 x.2.1:=by
  intro l m q;induction q with
  |nil=>intro x hx;exact nomatch hx
  |@cons p q ps qs hq t ih =>
   intro x hx;rcases Æ.mp hx with e|hx
   .subst e;exact fg ok (by rw[<-hq.1];exact hq.2.1)
   .exact ih x hx
 exact all r x hx
def PM(ok:HOk P w H h)(e:H a=eL (.dT kvs)):kvs.length<=Ø/\(a==ş)=eP/\
  ∃xs,KTd H kvs xs/\h.DictOfH (ϛ<|Zd P w) a xs:=Wu ok<|.inl e
end
abbrev DGet(H:Hp)(a:È)(y:V)(r:Option V):Prop :=
 (∃kvs k,Rd H a (.dK kvs)/\y=kV k/\r=Ym kvs k)\/∃kvs k b,Rd H a (.dT kvs)/\y=.ref b/\H b=eL (.tup<|k.map kV)/\r=Ym kvs k
abbrev DPut(H:Hp)(a:È)(y v:V)(H':Hp):Prop :=
 (∃kvs k,H a=eL (.dK kvs)/\y=kV k/\kvs.length<Ø/\H'=upd H a (.dK<|fu kvs k v))\/
 ∃kvs k b,H a=eL (.dT kvs)/\y=.ref b/\H b=eL (.tup<|k.map kV)/\kvs.length<Ø/\H'=upd H a (.dT<|fu kvs k v)
def DGet.k{H:Hp}{a:È}{kvs:List (Key×V)}{k:Key}(e:H a=eL (.dK kvs)):DGet H a (kV k)<|Ym kvs k:=.inl ⟨kvs,k,.inl e,rfl,rfl⟩
variable {a:È}
def DGet.t{k:List Key}(e:H a=eL (.dT kvs))(eb:H b=eL (.tup<|k.map kV)):DGet H a (.ref b)<|Ym kvs k:=.inr ⟨kvs,k,b,.inl e,rfl,eb,rfl⟩
def DPut.k{H:Hp}{a:È}{kvs:List (Key×V)}{k:Key}{v:V}(e:H a=eL (.dK kvs))(hl:kvs.length<Ø):DPut H a (kV k) v<|upd H a<|.dK<|fu kvs k v:=.inl ⟨kvs,k,e,rfl,hl,rfl⟩
def DPut.t{k:List Key}{v:V}(e:H a=eL (.dT kvs))(eb:H b=eL (.tup<|k.map kV))(hl:kvs.length<Ø) :
  DPut H a (.ref b) v (upd H a<|.dT<|fu kvs k v):=.inr ⟨kvs,k,b,e,rfl,eb,hl,rfl⟩
section
variable {X:Cx}{Á:List (È×Obj)}{σ:St}{H:Hp}{s:Ä}{a:È}{y v:V}{u r:Â}{o:Option V}{A:ā}{E:Â->Ä->Prop}
def Inv.big(I:Inv X Á σ H s):ş<s.heap.objs.size:=by have h:ć<s.heap.objs.size:=(I.mod.glob.keeps I.bk).lt;exact aq (by decide) h
variable {Q:Â->Ä->Prop}
def Kq(hu:A.units+1<Ĩ)(I:Inv X Á σ H s)(g:DGet H a y<|eL v)(ry:RelV y u)(h:∀w' s',Inv X Á σ H s'->RelV v w'->Q w' s') :
  wpAny (Ù X.prog X.w) A (ϥ (.ref a) u) Q E s:=by
 rcases g with⟨kvs,k,e,ey,l⟩|⟨kvs,k,b,e,ey,eb,l⟩
 .subst ey;obtain⟨z,hd,vs,Ŵ,dd⟩:=Xo I.hok e;obtain⟨w',hw,be⟩:=fw.some_of (v:=v) (o:=Ϩ vs k) (by rw[l];exact Ŵ.val k);exact wpAny_getItem_of (Xn ry) dd.mapOf hw<|h w' _ (I.tok _) be
 .subst ey;cases (show u=Value.ref b from ry);obtain⟨z,hd,xs,Ŵ,dd⟩:=Wu I.hok e;obtain⟨w',hw,be⟩:=fw.some_of (v:=v) (o:=(cC xs k).map (·.2)) (by rw[l];exact Ŵ.val k);obtain⟨p,hp,hp2⟩:=Ò.mp hw;refine wpAny_getItem_heap (Ţ hu) (fg I.hok eb) dd hp ?_;rw[hp2];exact h w' _ (I.tok _) be
def Rm(hu:A.units+1<Ĩ)(I:Inv X Á σ H s)(g:DGet H a y o)(ry:RelV y u)(h:∀s',Inv X Á σ H s'->Q (.bool o.isSome) s') :
  wpAny (Ù X.prog X.w) A (ë .In u<|.ref a) Q E s:=by
 rcases g with⟨kvs,k,e,ey,l⟩|⟨kvs,k,b,e,ey,eb,l⟩
 .subst ey;obtain⟨z,hd,vs,Ŵ,dd⟩:=Xo I.hok e;refine wpAny_in_of (Xn ry) hd dd.mapOf ?_;rw[<-(Ŵ.val k).isSome_eq,<-l];exact h _<|I.tok _
 .subst ey;cases (show u=Value.ref b from ry);obtain⟨z,hd,xs,Ŵ,dd⟩:=Wu I.hok e;refine wpAny_in_heap (Ţ hu) (fg I.hok eb) hd dd ?_;have q:=(Ŵ.val k).isSome_eq;rw[ř]at q;rw[<-q,<-l];exact h _<|I.tok _
def FA(hu:A.units+1<Ĩ)(I:Inv X Á σ H s)(g:DGet H a y o)(ry:RelV y u)(h:∀s',Inv X Á σ H s'->Q (.bool (!o.isSome)) s') :
  wpAny (Ù X.prog X.w) A (ë .NotIn u<|.ref a) Q E s:=by
 rcases g with⟨kvs,k,e,ey,l⟩|⟨kvs,k,b,e,ey,eb,l⟩
 .subst ey;obtain⟨z,hd,vs,Ŵ,dd⟩:=Xo I.hok e;refine wpAny_notIn_of (Xn ry) hd dd.mapOf ?_;rw[<-(Ŵ.val k).isSome_eq,<-l];exact h _<|I.tok _
 .subst ey;cases (show u=Value.ref b from ry);obtain⟨z,hd,xs,Ŵ,dd⟩:=Wu I.hok e;refine wpAny_notIn_heap (Ţ hu) (fg I.hok eb) hd dd ?_;have q:=(Ŵ.val k).isSome_eq;rw[ř]at q;rw[<-q,<-l];exact h _<|I.tok _
variable {h':þ}
def WD{t':Nat}{ob:HO}(I:Inv X Á σ H s)(mu:Mut<|H a)(hs:Œ a s.heap h')(he:∃q,h'.get? a=eL q)(new:eZ X.prog X.w (upd H a ob) h' a ob) :
  Inv X Á σ (upd H a ob) {s with heap:=h',toks:=t'} :=
 I.write (x:=a) (e:=a) mu (.inl rfl) (λb q hb z=>(hs.2 b hb).trans z) he new
def Ow{kvs:List (Key×V)}{vs:List (Key×Â)}(z:kvs.length<=Ø)(hd:(a==ş)=eP)(Ŵ:KV kvs vs)(dd:h'.DictOf (Zd P w) a vs) :
  eZ P w H' h' a (.dK kvs):=⟨z,hd,vs,Ŵ,dd⟩
def Ac{Q:Unit->Ä->Prop}(hu:A.units+1<Ĩ)(I:Inv X Á σ H s)(g:DPut H a y v H')(ry:RelV y u)(rv:RelV v r)(h:∀s',Inv X Á σ H' s'->Q () s') :
  wpAny (Ù X.prog X.w) A (aV (.ref a) u r) Q E s:=by
 rcases g with⟨kvs,k,e,ey,l,eH⟩|⟨kvs,k,b,e,ey,eb,l,eH⟩
 .subst ey eH;obtain⟨z,hd,vs,Ŵ,dd⟩:=Ja I.hok e;have hz:vs.length<=Ø:=by rw[<-Ŵ.length];exact z
  have hl:(fu kvs k v).length<=Ø:=by have:=YY kvs k v;lia
  refine wpAny_setItem_pairs (hsz:=hz) (Xn ry) dd λh' dd' hs=>h _ ?_;have he:∃q,h'.get? a=eL q:=let ⟨q,_,_,hq,_⟩:=dd';⟨q,hq⟩;exact WD I (by rw[e];exact True.intro) hs he<|Ow hl hd (Ŵ.put k rv) dd'
 .subst ey eH;cases (show u=Value.ref b from ry);obtain⟨z,hd,xs,Ŵ,dd⟩:=PM I.hok e;have hz:xs.length<=Ø:=by rw[<-Paired.length Ŵ];exact z
  have hl:(fu kvs k v).length<=Ø:=by have:=YY kvs k v;lia
  refine wpAny_setItem_heap (hsz:=hz) (Ţ hu) (fg I.hok eb) dd λh' dd' hs=>h _ ?_;obtain⟨q,es,ep,hq,h2,h3,h4,_,h5⟩:=dd';refine WD I (by rw[e];exact True.intro) hs ⟨q,hq⟩ ⟨hl,hd,_,(Ŵ.put k eb rv).keeps λc ys ec=>?_,q,es,ep,hq,h2,h3,h4,h5⟩;rw[eQ<|A7 ec e λz=>nomatch z];exact ec
end
section
variable {X:Cx}{Á:List (È×Obj)}{σ:St}{H:Hp}{s:Ä}{a:È}{kvs:List (Key×V)}{k:Key}{u:Â}{A:ā}{E:Â->Ä->Prop}
variable {Q:Â->Ä->Prop}
def Gy{v:V}{more:List Â}(I:Inv X Á σ H s)(e:H a=eL (.dK kvs))(ry:RelV (kV k) u)(l:Ym kvs k=eL v)(hm:more=[]\/∃x,more=[x])
  (h:∀w' s',Inv X Á σ (upd H a<|.dK<|fv kvs k) s'->RelV v w'->Q w' s'):wpAny (Ù X.prog X.w) A (call (.builtin "dict.pop")<|.ref a::u::more) Q E s:=by
 obtain⟨z,hd,vs,Ŵ,dd⟩:=Ja I.hok e;obtain⟨w',hw,be⟩:=fw.some_of (v:=v) (o:=Ϩ vs k) (by rw[<-l];exact Ŵ.val k);have hp:(keyPart u).isSome=eN:=by
  cases k with
  |inl i=>obtain⟨t,q⟩:=(show ∃t,u=Value.int i t from ry);subst q;rfl
  |inr x=>obtain⟨t,q⟩:=(show ∃t,u=Value.str x t from ry);subst q;rfl
 have ha:ϩ "dict.pop" ⟨.ref a::u::more,[]⟩:=by
  rcases hm with q|⟨x,q⟩
  .subst q;exact PySem.F.args_dict_pop_2 _ _
  .subst q;exact PySem.F.args_dict_pop_3 _ _ _
 refine η PySem.F.slot_dict_pop dd.typeIs PySem.F.entry_dict_pop ha (meets_dict_pop_there (Zd X.prog X.w) a (Xn ry) more hm hp)
  ⟨vs,w',dd,by rw[<-Ŵ.length];exact z,hw,λh' dd' hs=>h w' _ ?_ be⟩
 have he:∃q,h'.get? a=eL q:=let ⟨q,_,_,hq,_⟩:=dd';⟨q,hq⟩;exact WD I (by rw[e];exact True.intro) hs he<|Ow (Ô (AV kvs k) z) hd (Ŵ.drop k) dd'
def Id{r:Â}(I:Inv X Á σ H s)(e:H a=eL (.dK kvs))(ry:RelV (kV k) u)(l:Ym kvs k=eM)(h:∀s',Inv X Á σ H s'->Q r s') :
  wpAny (Ù X.prog X.w) A (call (.builtin "dict.pop") [.ref a,u,r]) Q E s:=by
 obtain⟨z,hd,vs,Ŵ,dd⟩:=Ja I.hok e;have hn:Ϩ vs k=eM:=fw.none_of (by rw[<-l];exact Ŵ.val k);have hp:(keyPart u).isSome=eN:=by
  cases k with
  |inl i=>obtain⟨t,q⟩:=(show ∃t,u=Value.int i t from ry);subst q;rfl
  |inr x=>obtain⟨t,q⟩:=(show ∃t,u=Value.str x t from ry);subst q;rfl
 exact η PySem.F.slot_dict_pop dd.typeIs PySem.F.entry_dict_pop (PySem.F.args_dict_pop_3 _ _ _) (meets_dict_pop_default (Zd X.prog X.w) a (Xn ry) hd hp r) ⟨vs,dd,hn,h _<|I.tok _⟩
def L6(I:Inv X Á σ H s)(e:Rd H a<|.dK kvs)(h:∀t s',Inv X Á σ H s'->Q (.int kvs.length t) s'):wpAny (Ù X.prog X.w) A (call (.builtin "len") [.ref a]) Q E s:=by obtain⟨z,hd,vs,Ŵ,dd⟩:=Xo I.hok e;refine call_len_dict hd dd (by rw[<-Ŵ.length];rw[ϸ]at z;lia) ?_;rw[<-Ŵ.length];exact h _ _ (I.tok _)
end
variable {X:Cx} {Á:List (È×Obj)} {σ:St} {s:Ä}
def MR{o:Option V}(I:Inv X Á σ H s)(g:DGet H a y o):s.TypeIs (.ref a) "dict":=by
 rcases g with⟨kvs,k,e,_,_⟩|⟨kvs,k,b,e,_,_,_⟩
 .obtain⟨_,_,vs,_,dd⟩:=Xo I.hok e;exact dd.typeIs
 .obtain⟨_,_,xs,_,dd⟩:=Wu I.hok e;exact dd.typeIs
def Na(h:þ)(hb:ş<h.objs.size):eZ P w H (h.push {cls:=.type "dict",data:=.dict #[]}) h.objs.size (.dK []) :=
 ⟨Ŀ _,beq_eq_false_iff_ne.mpr<|Ne.symm<|ä hb,[],.nil,Heap.DictOf.new h⟩
abbrev Iv:TE:=λ_ H Q=>∀p,H p=eM->Q (.ref p) (upd H p<|.dK [])
section
variable {X:Cx}{ç:Pos}
def pe_dnewK:PE X (.Dict [] [] ç) Iv:=λÁ s σ H Q I h =>
 wpAny_Dict_empty ⟨.ref s.heap.objs.size,_,I.laid (a:=s.heap.objs.size) (o:=.dK []) (t':=s.toks) (λ_ _ q=>Å _ q) (Ì _)<|Na s.heap I.big,rfl,h _<|I.hok.fresh<|Ì _⟩
end
abbrev Ml:List (TE×TE)->St->Hp->(List (V×V)->Hp->Prop)->Prop
 |[],_,H,Q=>Q [] H
 |(tk,tv)::r,σ,H,Q=>tk σ H λx H1=>tv σ H1 λy H2=>Ml r σ H2 λps H3=>Q ((x,y)::ps) H3
@[reducible] noncomputable def VV:List (V×V)->List (Â×Â)->Prop:=Paired λp q=>RelV p.1 q.1/\RelV p.2 q.2
abbrev PPs(X:Cx)(ç:Pos)(keys:List<|Option Expr)(ό:List Expr)(trs:List<|TE×TE):Prop :=
 ∀(Á:List<|È×Obj) (s:Ä) (σ:St) (H:Hp) (Q:List (V×V)->Hp->Prop),Inv X Á σ H s->Ml trs σ H Q->
  wpAny (Ù X.prog X.w) X.A (evalPairs<|pairTrees keys ό X.env ç) (λvs s'=>∃ps H',Inv X Á σ H' s'/\VV ps vs/\Q ps H') X.xe s
variable {ç:Pos}
def Ff:PPs X ç [] [] []:=λÁ s σ H Q I h=>pairTrees_nil_walk ⟨[],H,I,.nil,h⟩
variable {trs:List (TE×TE)}
def Ce{k v:Expr}{ks:List (Option Expr)}{vs:List Expr}{tk tv:TE}(hk:PE X k tk)(hv:PE X v tv)(hr:PPs X ç ks vs trs) :
  PPs X ç (eL k::ks) (v::vs) ((tk,tv)::trs):=λÁ s σ H Q I h =>
 pairTrees_cons_walk (thn (hk Á s σ H _ I h) λu s1 ⟨x,H1,I1,rx,q1⟩=>thn (hv Á s1 σ H1 _ I1 q1) λw2 s2 ⟨y,H2,I2,ry,q2⟩ =>
   thn (hr Á s2 σ H2 _ I2 q2) λws s3 ⟨ps,H3,I3,Ŵ,q3⟩=>⟨(x,y)::ps,H3,I3,.cons ⟨rx,ry⟩ Ŵ,q3⟩)
abbrev YU(kvs more:List<|Key×V):List<|Key×V:=more.foldl (λĴ kv=>fu Ĵ kv.1 kv.2) kvs
def KV.merge:∀{more:List (Key×V)}{rs:List (Key×Â)}{kvs:List (Key×V)}{vs:List (Key×Â)},KV more rs->KV kvs vs->KV (YU kvs more) (merged vs rs):=by
 intro more rs kvs vs r;unfold KV at r;induction r generalizing kvs vs with
 |nil=>intro q;exact q
 |@cons p q ps qs h t ih =>
  intro r0;have e:KV (fu kvs p.1 p.2)<|stored vs q.1 q.2:=by have:=r0.put p.1 h.2;rw[<-h.1];exact this
  exact ih e
def Xl:∀(more kvs:List<|Key×V),(YU kvs more).length<=kvs.length+more.length
 |[],kvs=>by show kvs.length<=kvs.length+0;lia
 |p::r,kvs=>by have h1:=Xl r<|fu kvs p.1 p.2;have h2:=YY kvs p.1 p.2;show(YU (fu kvs p.1 p.2) r).length<=_;rw[Ë];lia
def Jz{P:ß}{w:ñ}:∀{kvs:List (Key×V)}{ws:List (Â×Â)},VV (kvs.map λkv=>(kV kv.1,kv.2)) ws->∃rs,Carries (Zd P w) ws rs/\KV kvs rs
 |[],_,r=>by rw[ai]at r;cases r;exact⟨[],True.intro,.nil⟩
 |p::kvs,_,r=>by
  rw[Ï]at r;cases r with
  |@cons a b as bs h t =>obtain⟨rs,c,q⟩:=Jz (P:=P) (w:=w) t;obtain⟨b1,b2⟩:=b;exact⟨(p.1,b2)::rs,⟨Xn h.1,rfl,c⟩,.cons ⟨rfl,h.2⟩ q⟩
abbrev Pj(trs:List<|TE×TE):TE:=λσ H Q=>∀p,H p=eM->Ml trs σ (upd H p<|.dK []) λps H2=>H2 p=eL (.dK [])/\∃kvs:List<|Key×V,ps=kvs.map (λkv=>(kV kv.1,kv.2))/\kvs.length<=15/\Q (.ref p) (upd H2 p<|.dK<|YU [] kvs)
def FM{keys:List (Option Expr)}{ό:List Expr}(h:PPs X ç keys ό trs)(hall:keys.all (·.isSome)=eN)(hl:keys.length=ό.length)(h0:keys≠[])
  (h15:keys.length<=15):PE X (.Dict keys ό ç)<|Pj trs:=by
 intro Á s σ H Q I q;have hn:=I.hok.fresh<|Ì s.heap.objs.size;have I1:=I.laid (a:=s.heap.objs.size) (o:=.dK []) (h':=s.heap.push {cls:=.type "dict",data:=.dict #[]}) (t':=s.toks) (λ_ _ q=>Å _ q) (Ì _)<|Na s.heap I.big;refine wpAny_Dict_walk (knd:=Zd X.prog X.w) hall hl h0 h15<|thn (h Á _ σ _ _ I1<|q _ hn) λws s2 ⟨ps,H2,I2,Ŵ,e,kvs,ep,lk,q2⟩=>?_;subst ep;obtain⟨rs,c,rk⟩:=Jz (P:=X.prog) (w:=X.w) Ŵ;obtain⟨z,hd,vs0,r0,dd⟩:=Ja I2.hok e;cases r0;refine⟨rs,c,dd,λh' dd' hs=>⟨.ref s.heap.objs.size,_,?_,rfl,q2⟩⟩;have hz:(YU [] kvs).length<=Ø:=by have h1:=Xl kvs [];rw[Ę]at h1;rw[ϸ];lia
 have he:∃q,h'.get? s.heap.objs.size=eL q:=let ⟨q,_,_,hq,_⟩:=dd';⟨q,hq⟩;exact WD I2 (by rw[e];exact True.intro) hs he<|Ow hz hd (rk.merge .nil) dd'
abbrev QG(H:Hp)(a:È):Prop:=(∃kvs,Rd H a<|.dK kvs)\/∃kvs,Rd H a (.dT kvs)
def LD(I:Inv X Á σ H s)(d:QG H a) :
  s.TypeIs (.ref a) "dict"/\(∀b,Value.ref a=.ref b->∃ob,s.heap.get? b=eL ob/\ob.dict=eM)/\(a==ş)=eP:=by
 rcases d with⟨kvs,e⟩|⟨kvs,e⟩
 .obtain⟨_,hd,vs,_,dd⟩:=Xo I.hok e;refine⟨dd.typeIs,λb q=>?_,hd⟩;cases q;obtain⟨ob,_,_,h1,h2,_⟩:=dd;exact⟨ob,h1,h2.2.1⟩
 .obtain⟨_,hd,xs,_,dd⟩:=Wu I.hok e;refine⟨dd.typeIs,λb q=>?_,hd⟩;cases q;obtain⟨ob,_,_,h1,h2,_⟩:=dd;exact⟨ob,h1,h2.2.1⟩
section
variable {X:Cx}{Á:List (È×Obj)}{σ:St}{H:Hp}{s:Ä}{a:È}{y d:V}{u r:Â}{o:Option V}{A:ā}{E:Â->Ä->Prop}
variable {Q:Â->Ä->Prop}
def Hm(hu:A.units+1<Ĩ)(I:Inv X Á σ H s)(g:DGet H a y o)(ry:RelV y u)(h:∀w' s',Inv X Á σ H s'->RelV (o.getD .non) w'->Q w' s') :
  wpAny (Ù X.prog X.w) A (call (.builtin "dict.get") [.ref a,u]) Q E s:=by
 rcases g with⟨kvs,k,e,ey,l⟩|⟨kvs,k,b,e,ey,eb,l⟩
 .subst ey;obtain⟨z,hd,vs,Ŵ,dd⟩:=Xo I.hok e;refine η PySem.F.slot_dict_get dd.typeIs PySem.F.entry_dict_get (PySem.F.args_dict_get_2 _ _) (meets_dict_get (Zd X.prog X.w) a (Xn ry) hd) ⟨_,dd.mapOf,h _ _ (I.tok _) ?_⟩;rw[l];exact(Ŵ.val k).getD rfl
 .subst ey;cases (show u=Value.ref b from ry);obtain⟨z,hd,xs,Ŵ,dd⟩:=Wu I.hok e;refine η PySem.F.slot_dict_get dd.typeIs PySem.F.entry_dict_get (PySem.F.args_dict_get_2 _ _) (meetsH_dict_get (ϛ<|Zd X.prog X.w) a b hd) ⟨Ţ hu,k,xs,fg I.hok eb,dd,h _ _ (I.tok _) ?_⟩;rw[l];exact(Ŵ.val k).getD rfl
def GQ(hu:A.units+1<Ĩ)(I:Inv X Á σ H s)(g:DGet H a y o)(ry:RelV y u)(rd:RelV d r)(h:∀w' s',Inv X Á σ H s'->RelV (o.getD d) w'->Q w' s') :
  wpAny (Ù X.prog X.w) A (call (.builtin "dict.get") [.ref a,u,r]) Q E s:=by
 rcases g with⟨kvs,k,e,ey,l⟩|⟨kvs,k,b,e,ey,eb,l⟩
 .subst ey;obtain⟨z,hd,vs,Ŵ,dd⟩:=Xo I.hok e;refine η PySem.F.slot_dict_get dd.typeIs PySem.F.entry_dict_get (PySem.F.args_dict_get_3 _ _ _) (meets_dict_get_default (Zd X.prog X.w) a (Xn ry) hd r) ⟨_,dd.mapOf,h _ _ (I.tok _) ?_⟩;rw[l];exact(Ŵ.val k).getD rd
 .subst ey;cases (show u=Value.ref b from ry);obtain⟨z,hd,xs,Ŵ,dd⟩:=Wu I.hok e;refine η PySem.F.slot_dict_get dd.typeIs PySem.F.entry_dict_get (PySem.F.args_dict_get_3 _ _ _) (meetsH_dict_get_default (ϛ<|Zd X.prog X.w) a b hd r) ⟨Ţ hu,k,xs,fg I.hok eb,dd,h _ _ (I.tok _) ?_⟩;rw[l];exact(Ŵ.val k).getD rd
end
section
variable {X:Cx}
def UU:eY X (.builtin "len") λxs H Q=>∃a kvs,xs=[V.ref a]/\H a=eL (.dK kvs)/\Q (.int kvs.length) H:=by intro Á s σ H xs us Q I r h;obtain⟨a,kvs,rfl,ha,q⟩:=h;obtain⟨u,rfl,ru⟩:=YG r;cases ru;exact L6 I (.inl ha) λt s' I'=>⟨.int kvs.length,H,I',⟨t,rfl⟩,q⟩
end
end L2
namespace gf
noncomputable abbrev Ad:=Nat
inductive Val where
 |non|bl (b:Bool)|int (i:Int)|str (s:String)|tup (xs:List Val)|ref (a:Ad)|scr (ns:List Int)|key (i j:Int)
 deriving Inhabited
mutual
noncomputable def Val.eqb:Val->Val->Bool
 |.non,b=>match b with|.non=>eN|_=>eP
 |.bl a,b=>match b with|.bl c=>a==c|_=>eP
 |.int a,b=>match b with|.int c=>a==c|_=>eP
 |.str a,b=>match b with|.str c=>a==c|_=>eP
 |.tup a,b=>match b with|.tup c=>Val.eqs a c|_=>eP
 |.ref a,b=>match b with|.ref c=>a==c|_=>eP
 |.scr a,b=>match b with|.scr c=>a==c|_=>eP
 |.key a b,x=>match x with|.key c d=>a==c&&b==d|_=>eP
noncomputable def Val.eqs:List Val->List Val->Bool
 |[],b=>match b with|[]=>eN|_=>eP
 |x::xs,b=>match b with|y::ys=>Val.eqb x y&&Val.eqs xs ys|_=>eP
end
mutual
theorem Val.eqb_iff:∀{a b:Val},Val.eqb a b=eN↔a=b
 |.non,b=>by cases b<;>simp[Val.eqb]
 |.bl _,b=>by cases b<;>simp[Val.eqb]
 |.int _,b=>by cases b<;>simp[Val.eqb]
 |.str _,b=>by cases b<;>simp[Val.eqb]
 |.tup _,b=>by cases b<;>simp[Val.eqb,Val.eqs_iff]
 |.ref _,b=>by cases b<;>simp[Val.eqb]
 |.scr _,b=>by cases b<;>simp[Val.eqb]
 |.key _ _,b=>by cases b<;>simp[Val.eqb]
theorem Val.eqs_iff:∀{a b:List Val},Val.eqs a b=eN↔a=b
 |[],b=>by cases b<;>simp[Val.eqs]
 |_::_,b=>by cases b<;>simp[Val.eqs,Val.eqb_iff,Val.eqs_iff]
end
noncomputable instance:DecidableEq Val:=λa b=>if h:Val.eqb a b=eN then isTrue (Val.eqb_iff.mp h)else isFalse λe=>h<|Val.eqb_iff.mpr e
inductive Ob where
 |lst (xs:List Val)|dct (kvs:List<|Val×Val)|ins (C:String) (fs:List<|String×Val)|exc (C:String)|frz (kvs:List<|Val×Val)|dtp (kvs:List<|Val×Val)
 deriving Inhabited
abbrev L7:Val->Option String
 |.str s=>eL s
 |_=>eM
abbrev oneC(s:String):Option Char:=match s.toList with
 |[c]=>eL c
 |_=>eM
abbrev FS(i:Int):String:=toString i
abbrev fmtV:Val->Option String
 |.str s=>eL s
 |.int i=>if i.natAbs<10 ^ 200 then eL (FS i)else eM
 |_=>eM
noncomputable abbrev Hs:=Ad->Option Ob
@[irreducible] noncomputable def upd(h:Hs)(a:Ad)(o:Ob):Hs:=λb=>if b=a then eL o else h b
variable {h:Hs} {a:Ad} {o:Ob}
def eR:upd h a o a=eL o:=by simp[upd]
def eQ{b:Ad}(e:b≠a):upd h a o b=h b:=by simp[upd,e]
def eS{u:Ob}:upd (upd h a o) a u=upd h a u:=by funext b;simp only[upd];split<;>rfl
noncomputable abbrev Env:=List<|Option Val
noncomputable abbrev Q1:=Val->Hs->Prop
noncomputable abbrev XQ:=String->Hs->Prop
noncomputable abbrev Fs:=String->List Val->Hs->Q1->XQ->Prop
abbrev lim:Nat:=1000000
variable {α:Type}
@[irreducible] noncomputable def go(o:Option α)(k:α->Prop):Prop:=match o with|some a=>k a|none=>False
@[simp] theorem eU{a:α}{k:α->Prop}:go (eL a) k=k a:=by unfold go;rfl
@[simp] theorem QC{k:α->Prop}:go eM k=False:=by unfold go;rfl
def eV{o:Option α}{a:α}{k:α->Prop}(e:o=eL a)(h:k a):go o k:=by rw[e,eU];exact h
set_option genInjectivity false
inductive Bop where|add|sub|mul|fdiv|mod|pow
inductive Cop where|eq|ne|lt|le|gt|ge|isin|notin|is|isnot|eqE|neE|ntT
inductive Bi where
 |len|int|str|bool|abs|min2|max2|minL|maxL|minD|sum|all|any|sorted|sortedI|sortedSet|lenSet|list|tuple|dict|isi (Ts:List String)|isx (Ts:List String)|isc (C:String)|repr|listRev|listRange|tupRange|dictEnum|minP|maxP
inductive Bm where
 |append|extend|pop|popAt|insert|remove|clear|reverse|index|count|dget|dgetD|dpop|dpopD|setdefault|join|split|replace|upper|partition|sidx
inductive Pt where|one (i:Nat)|many (is:List Nat)|nest (i:Nat) (is:List Nat)
mutual
inductive E where
 |cst (v:Val)|var (i:Nat)|glob (x:String) (v:Val)
 |bin (op:Bop) (a b:E)|neg (a:E)|not (a:E)|and (a b:E)|or (a b:E)
 |cmp (op:Cop) (a b:E)|chain (o1 o2:Cop) (a b c:E)
 |call (f:String) (as:Es)|make (C:String) (as:Es)|meth (C m:String) (o:E) (as:Es)|fld (o:E) (f:String)
 |bi (f:Bi) (as:Es)|bm (m:Bm) (o:E) (as:Es)
 |idx (a i:E)|slc (a:E) (lo hi:Oe)|rev (a:E)
 |tup (es:Es)|lst (es:Es)|dct (es:Es)
 |ife (c:Tt) (a b:E)
 |comp (ô:List Nat) (n:Nat) (p:Pt) (it:It) (c:Tt) (e:E)
 |fstr (es:Es)
 |split (o a:E)
 |repl (o:E) (y z:String)
 |key (es:Es)|dctP
inductive Es where|nil|cons (e:E) (es:Es)
inductive Oe where|none|some (e:E)
inductive Tt where|yes|val (e:E)|not (t:Tt)|and (a b:Tt)|or (a b:Tt)
inductive It where
 |seq (e:E)|chars (e:E)|range (a:E)|range2 (a b:E)|enum (e:E)|zip (a b:E)|items (e:E)|rev (e:E)
end
mutual
inductive S where
 |set (p:Pt) (e:E)|setIdx (a i e:E)|setFld (o:E) (f:String) (e:E)
 |augVar (i:Nat) (op:Bop) (e:E)|augFld (o:E) (f:String) (op:Bop) (n:Int)|augIdx (a i:E) (op:Bop) (n:Int)
 |setPair (a i b j e:E)
 |expr (e:E)|ret (e:E)|retN|ite (c:Tt) (a b:Ss)|whl (c:Tt) (b:Ss)|for (p:Pt) (it:It) (b:Ss)|forI (k:Bool) (p:Pt) (e:E) (b:Ss)
 |never|brk|cnt|pass|raise (C:String) (as:Es)|try (t:Option Nat) (e:E) (hs:Hn)
inductive Ss where|nil|cons (s:S) (ss:Ss)
inductive Hn where|nil|cons (C:String) (n:Option Nat) (b:Ss) (r:Hn)
end
set_option genInjectivity true
abbrev ixN(n:Nat)(i:Int):Option Nat:=if 0<=i then(if i<n then eL i.toNat else eM)else if -(n:Int)<=i then eL (i+n).toNat else eM
abbrev atI(xs:List α)(i:Int):Option α:=(ixN xs.length i).bind λj=>xs[j]?
abbrev fB(n d:Nat):Option Int->Nat
 |none=>d
 |some i=>if 0<=i then min i.toNat n else(i+n).toNat
abbrev cut(xs:List α)(lo hi:Option Int):List α:=(xs.drop<|fB xs.length 0 lo).take<|fB xs.length xs.length hi - fB xs.length 0 lo
abbrev fe:Option Ob->Option (List Val)
 |some (.lst xs)=>eL xs
 |_=>eM
abbrev CS(h:Hs):Val->Option (List Val)
 |.ref a=>fe<|h a
 |.tup xs=>eL xs
 |.scr ns=>eL<|ns.map .int
 |_=>eM
abbrev f7:Option Ob->Option (List<|Val×Val)
 |some (.dct kvs)=>eL kvs
 |_=>eM
abbrev fo(kvs:List<|Val×Val)(k:Val):Option Val:=(kvs.find? λp=>p.1==k).map (·.2)
abbrev fq(kvs:List<|Val×Val)(k:Val):Bool:=kvs.any λp=>p.1==k
abbrev fu(kvs:List<|Val×Val)(k v:Val):List<|Val×Val:=if fq kvs k then kvs.map λp=>if p.1==k then(k,v)else p else kvs++[(k,v)]
abbrev fv(kvs:List<|Val×Val)(k:Val):List<|Val×Val:=kvs.filter λp=>!(p.1==k)
abbrev fj:Val->Bool
 |.int _=>eN
 |.str _=>eN
 |_=>eP
inductive D where
 |non|bl (b:Bool)|int (i:Int)|str (s:String)|tup (ds:List D)|lst (ds:List D)
 deriving Inhabited
mutual
noncomputable def D.eqv:D->D->Bool
 |.non,.non=>eN
 |.bl a,.bl b=>a==b
 |.bl a,.int i=>(if a then 1 else 0)==i
 |.int i,.bl a=>i==(if a then 1 else 0)
 |.int a,.int b=>a==b
 |.str a,.str b=>a==b
 |.tup a,.tup b=>D.eqvs a b
 |.lst a,.lst b=>D.eqvs a b
 |_,_=>eP
noncomputable def D.eqvs:List D->List D->Bool
 |[],[]=>eN
 |x::xs,y::ys=>D.eqv x y&&D.eqvs xs ys
 |_,_=>eP
end
abbrev dat(h:Hs):Nat->Val->Option D
 |_,.non=>eL .non
 |_,.bl b=>eL<|.bl b
 |_,.int i=>eL<|.int i
 |_,.str s=>eL<|.str s
 |0,_=>eM
 |n+1,.tup xs=>(xs.mapM<|dat h n).map .tup
 |n+1,.ref a=>(fe<|h a).bind λxs=>(xs.mapM<|dat h n).map .lst
 |n+1,.scr ns=>eL<|.lst<|ns.map .int
 |_+1,.key _ _=>eM
abbrev deep:Nat:=12
abbrev eqV(h:Hs)(v u:Val):Option Bool:=(dat h deep v).bind λd=>(dat h deep u).map λe=>D.eqv d e
abbrev eX:List Val->Option (List Int)
 |[]=>eL []
 |.int i::xs=>(eX xs).map (i :: ·)
 |_=>eM
abbrev fE:List Int->List Int->Bool
 |[],[]=>eP
 |[],_::_=>eN
 |_::_,[]=>eP
 |x::xs,y::ys=>if x=y then fE xs ys else gq (x<y)
abbrev fG:Val->Val->Option Bool
 |.int i,.int j=>eL<|gq (i<j)
 |.tup xs,.tup ys=>(eX xs).bind λns=>(eX ys).map λms=>fE ns ms
 |_,_=>eM
abbrev inL(h:Hs)(x:Val)(ys:List Val):Option Bool:=(dat h deep x).bind λd=>(ys.mapM<|dat h<|deep - 1).map λds=>ds.any λe=>D.eqv e d
abbrev leV:Val->Val->Option Bool
 |.int i,.int j=>eL<|gq (i<=j)
 |_,_=>eM
abbrev isKeyT:Val->Bool
 |.key _ _=>eN
 |_=>eP
abbrev inV(h:Hs)(v u:Val):Option Bool:=match u with
 |.tup xs=>inL h v xs
 |.ref a=>match h a with
  |some (.lst xs)=>inL h v xs
  |some (.dct kvs)=>if fj v then eL (fq kvs v)else eM
  |some (.frz kvs)=>if fj v then eL (fq kvs v)else eM
  |some (.dtp kvs)=>if isKeyT v then eL (fq kvs v)else eM
  |_=>eM
 |.str t=>(match v with|.str s=>(oneC s).map λc=>gq (c∈t.toList)|_=>eM)
 |_=>eM
abbrev isV(v u:Val):Option Bool:=match u with
 |.non=>eL<|gq (v=.non)
 |.bl b=>eL<|gq (v=.bl b)
 |_=>eM
abbrev asLst(h:Hs):Val->Option (List Val)
 |.ref a=>fe<|h a
 |_=>eM
abbrev fi(h:Hs)(op:Cop)(v u:Val):Option Bool:=match op with
 |.eq=>eqV h v u
 |.ne=>(eqV h v u).map (!·)
 |.lt=>fG v u
 |.gt=>fG u v
 |.le=>leV v u
 |.ge=>leV u v
 |.isin=>inV h v u
 |.notin=>(inV h v u).map (!·)
 |.is=>isV v u
 |.isnot=>(isV v u).map (!·)
 |_=>eM
abbrev Jr(h:Hs):Val->Option Bool
 |.bl b=>eL b
 |.int i=>eL<|gq (i≠0)
 |.non=>eL eP
 |.str s=>if s.length<=lim then eL (gq (s.length≠0))else eM
 |.tup xs=>eL (!xs.isEmpty)
 |.scr ns=>eL (!ns.isEmpty)
 |.ref a=>match h a with
  |some (.lst xs)=>eL (!xs.isEmpty)
  |some (.dct kvs)=>eL (!kvs.isEmpty)
  |_=>eM
 |.key _ _=>eM
abbrev mulOk(i j:Int):Prop:=(i.natAbs<2 ^ 64\/j.natAbs<2 ^ 64)\/(i.natAbs<=10 ^ 200/\j.natAbs<=10 ^ 200)
instance (i j:Int):Decidable<|mulOk i j:=inferInstanceAs<|Decidable<|_\/_
@[irreducible] noncomputable def new(h:Hs)(o:Ob)(Q:Q1):Prop:=∀p,h p=eM->Q (.ref p) (upd h p o)
variable {Q:Q1}
def YK(q:∀p,h p=eM->Q (.ref p) (upd h p o)):new h o Q:=by unfold new;exact q
inductive Rs where|val (v:Val)|new (o:Ob)|no
@[irreducible] noncomputable def Rs.wp(r:Rs)(h:Hs)(Q:Q1):Prop:=match r with|.val v=>Q v h|.new o=>gf.new h o Q|.no=>False
@[simp] theorem Rs.wp_val{v:Val}:(Rs.val v).wp h Q=Q v h:=by unfold Rs.wp;rfl
@[simp] theorem Rs.wp_new:(Rs.new o).wp h Q=gf.new h o Q:=by unfold Rs.wp;rfl
@[simp] theorem Rs.wp_no:Rs.no.wp h Q=False:=by unfold Rs.wp;rfl
abbrev Rs.ofO:Option Val->Rs
 |some v=>.val v
 |none=>.no
abbrev Rs.lst(xs:List Val):Rs:=if xs.length<=lim then .new (.lst xs)else .no
abbrev addV(h:Hs):Val->Val->Rs
 |.int i,.int j=>.val<|.int<|i+j
 |.str s,.str t=>if s.length+t.length<=lim then .val (.str<|s++t)else .no
 |.tup xs,.tup ys=>if xs.length+ys.length<=lim then .val (.tup<|xs++ys)else .no
 |.ref a,.ref b=>match h a,h b with
  |some (.lst xs),eL (.lst ys)=>Rs.lst<|xs++ys
  |_,_=>.no
 |_,_=>.no
abbrev repT(s:String)(n:Nat):String:=Μ (Ö n s.toList).flatten
abbrev mulV(h:Hs):Val->Val->Rs
 |.int i,.int j=>if mulOk i j then .val (.int<|i*j)else .no
 |.ref a,.int k=>match h a with
  |some (.lst xs)=>if -(2 ^ 62)<k/\k<2 ^ 62/\xs.length*k.toNat<=lim then Rs.lst (Ö k.toNat xs).flatten else .no
  |_=>.no
 |.str s,.int k=>if 2<=k/\k<=1000000/\1<=s.length/\s.length*k.toNat<=lim then .val (.str<|repT s k.toNat)else .no
 |_,_=>.no
abbrev intV(f:Int->Int->Rs):Val->Val->Rs
 |.int i,.int j=>f i j
 |_,_=>.no
abbrev binV(h:Hs)(op:Bop)(v u:Val):Rs:=match op with
 |.add=>addV h v u
 |.sub=>intV (λi j=>.val<|.int<|i - j) v u
 |.mul=>mulV h v u
 |.fdiv=>intV (λi j=>if 0<j/\j<1073741824 then .val (.int<|i / j)else .no) v u
 |.mod=>intV (λi j=>if 0<j then .val (.int<|i % j)else .no) v u
 |.pow=>intV (λi j=>if 0<=j/\j<=1000000/\i.natAbs<2 ^ 64 then .val (.int<|i ^ j.toNat)else .no) v u
abbrev f8:Val->Option Int
 |.int i=>eL i
 |_=>eM
abbrev fH(h:Hs):Val->Val->Option Val
 |.tup xs,.int k=>atI xs k
 |.str s,.int k=>if s.length<=lim then(atI s.toList k).map λc=>.str (al c)else eM
 |.ref a,k=>match h a with
  |some (.lst xs)=>(f8 k).bind<|atI xs
  |some (.dct kvs)=>if fj k then fo kvs k else eM
  |some (.frz kvs)=>if fj k then fo kvs k else eM
  |some (.dtp kvs)=>if isKeyT k then fo kvs k else eM
  |_=>eM
 |.scr ns,.int i=>atI (ns.map .int) i
 |_,_=>eM
abbrev fI(h:Hs)(v:Val)(lo hi:Option Int):Rs :=
 match v with
 |.tup xs=>if fB xs.length 0 lo=0/\fB xs.length xs.length hi=xs.length then .val (.tup xs)else .val (.tup<|cut xs lo hi)
 |.ref a=>match fe (h a)with
  |some xs=>.new<|.lst<|cut xs lo hi
  |none=>.no
 |.scr ns=>.new<|.lst<|cut (ns.map .int) lo hi
 |.str s=>if s.length<=lim then .val (.str<|Μ<|cut s.toList lo hi)else .no
 |_=>.no
abbrev sortI(ns:List Int):List Int:=ns.mergeSort λa b=>gq (a<=b)
abbrev blsOf:List Val->Option (List Bool)
 |[]=>eL []
 |.bl b::xs=>(blsOf xs).map (b :: ·)
 |_=>eM
abbrev minL:List Val->Option Val
 |[]=>eM
 |x::xs=>xs.foldl (λm y=>m.bind λb=>(fG y b).map λc=>if c then y else b)<|eL x
abbrev maxL:List Val->Option Val
 |[]=>eM
 |x::xs=>xs.foldl (λm y=>m.bind λb=>(fG b y).map λc=>if c then y else b)<|eL x
abbrev dedup:List Int->List Int
 |[]=>[]
 |x::xs=>x::(dedup xs).filter (· != x)
abbrev fW(c d:String):Bool:=c==d||d == "ShutError" || d == "ValueError" || d == "Exception"
abbrev gb(h:Hs):Val->Option String
 |.non=>eL "NoneType"
 |.bl _=>eL "bool"
 |.int _=>eL "int"
 |.str _=>eL "str"
 |.tup _=>eL "tuple"
 |.scr _=>eL "list"
 |.ref a=>match h a with
  |some (.lst _)=>eL "list"
  |some (.dct _)=>eL "dict"
  |_=>eM
 |.key _ _=>eM
abbrev gc(h:Hs)(v:Val)(T:String):Option Bool:=(gb h v).map λt=>t==T||(t == "bool" && T == "int")
abbrev isiAny(h:Hs)(v:Val):List String->Option Bool
 |[]=>eL eP
 |T::Ts=>(gc h v T).bind λb=>(isiAny h v Ts).map (b || ·)
abbrev pairUp:List Val->Option (List<|Val×Val)
 |[]=>eL []
 |k::v::r=>if fj k then(pairUp r).map ((k,v) :: ·)else eM
 |_=>eM
abbrev putAll(kvs:List<|Val×Val):List (Val×Val)->List (Val×Val)
 |[]=>kvs
 |(k,v)::r=>putAll (fu kvs k v) r
abbrev fM(h:Hs):Val->Rs
 |.ref a=>match h a with
  |some (.lst xs)=>.val<|.int xs.length
  |some (.dct kvs)=>.val<|.int kvs.length
  |_=>.no
 |.tup xs=>.val<|.int xs.length
 |.scr ns=>.val<|.int ns.length
 |.str s=>if s.length<=lim then .val (.int s.length)else .no
 |_=>.no
abbrev absV:Val->Rs
 |.int i=>.val (.int<|if i<0 then -i else i)
 |_=>.no
abbrev ff(f:Val->Rs):List Val->Rs
 |[v]=>f v
 |_=>.no
abbrev rowsOf:List Val->Option (List<|List Int)
 |[]=>eL []
 |.tup xs::r=>(eX xs).bind λns=>(rowsOf r).map (ns :: ·)
 |_=>eM
abbrev minR(b:List Int):List (List Int)->List Int
 |[]=>b
 |y::r=>minR (if fE y b then y else b) r
abbrev fN(h:Hs)(v:Val):Rs:=match v with
 |.ref a=>match (fe<|h a).bind rowsOf with
  |some []=>.val .non
  |some (x::r)=>.val<|.tup<|(minR x r).map .int
  |none=>.no
 |_=>.no
abbrev Q3(h:Hs):Val->Rs
 |.ref a=>.ofO<|(fe<|h a).bind λxs=>(blsOf xs).map λbs=>.bl<|bs.all id
 |_=>.no
abbrev sortOf(h:Hs):Val->Option (List Int)
 |.ref a=>(fe<|h a).bind eX
 |.scr ns=>eL ns
 |_=>eM
abbrev keysOf(kvs:List<|Val×Val):Option<|List Int:=eX (kvs.map (·.1))
abbrev sortAny(h:Hs)(v:Val):Option<|List Int:=match v with
 |.ref a=>match h a with
  |some (.lst xs)=>eX xs
  |some (.dct kvs)=>keysOf kvs
  |_=>eM
 |.scr ns=>eL ns
 |_=>eM
abbrev PQ(ľ:List<|List Int):List<|List Int:=ľ.mergeSort λa b=>!fE b a
abbrev Hf(h:Hs)(v:Val):Option<|List<|List Int:=match v with
 |.ref a=>(fe<|h a).bind rowsOf
 |_=>eM
abbrev Ab(h:Hs)(v:Val):Rs:=match Hf h v with
 |some ľ=>if ľ.length<64/\(ľ.all λr=>!r.isEmpty)=eN then .new (.lst<|(PQ ľ).map λr=>.tup<|r.map .int)else .no
 |none=>.no
abbrev Ju(h:Hs)(v:Val):Rs:=match sortAny h v with
 |some ns=>if ns.length<64 then .new (.lst<|(sortI ns).map .int)else .no
 |none=>Ab h v
abbrev biSortedI(h:Hs)(v:Val):Rs:=match sortAny h v with
 |some ns=>if ns.length<64 then .new (.lst<|(sortI ns).map .int)else .no
 |none=>.no
abbrev biSortedSet(h:Hs)(v:Val):Rs:=match sortOf h v with
 |some ns=>if ns.length<64 then .new (.lst<|(sortI<|dedup ns).map .int)else .no
 |none=>.no
abbrev toList(h:Hs):Val->Rs
 |.ref a=>match h a with
  |some (.lst xs)=>.new<|.lst xs
  |_=>.no
 |.tup xs=>.new<|.lst xs
 |_=>.no
abbrev K7(h:Hs):Val->Rs
 |.ref a=>match h a with
  |some (.lst xs)=>.val<|.tup xs
  |_=>.no
 |.tup xs=>.val<|.tup xs
 |_=>.no
abbrev biV(h:Hs)(b:Bi)(vs:List Val):Rs:=match b with
 |.len=>ff (fM h) vs
 |.minD=>ff (fN h) vs
 |.all=>ff (Q3 h) vs
 |.sorted=>ff (Ju h) vs
 |.sortedI=>ff (biSortedI h) vs
 |.sortedSet=>ff (biSortedSet h) vs
 |.list=>ff (toList h) vs
 |.tuple=>ff (K7 h) vs
 |.isi Ts=>ff (λv=>.ofO<|(isiAny h v Ts).map .bl) vs
 |_=>.no
abbrev bmL(h:Hs)(v:Val)(f:Ad->List Val->Option (Val×Hs)):Option<|Val×Hs:=match v with
 |.ref a=>(fe<|h a).bind<|f a
 |_=>eM
abbrev bmD(h:Hs)(v:Val)(f:Ad->List (Val×Val)->Option (Val×Hs)):Option<|Val×Hs:=match v with
 |.ref a=>(f7<|h a).bind<|f a
 |_=>eM
abbrev B6(h:Hs)(vs:List Val)(a:Ad)(xs:List Val):Option<|Val×Hs:=match vs with
 |[v]=>if xs.length<lim then eL (.non,upd h a<|.lst<|xs++[v])else eM
 |_=>eM
abbrev bmRemove(h:Hs)(vs:List Val)(a:Ad)(xs:List Val):Option<|Val×Hs:=match vs with
 |[.int i]=>(eX xs).bind λns=>if i∈ns then eL (.non,upd h a<|.lst<|(ns.erase i).map .int)else eM
 |_=>eM
abbrev L3(h:Hs)(vs:List Val)(a:Ad)(kvs:List<|Val×Val):Option<|Val×Hs:=match vs with
 |[k]=>if fj k then eL ((fo kvs k).getD .non,h)else eM
 |_=>eM
abbrev bmGetD(h:Hs)(vs:List Val)(a:Ad)(kvs:List<|Val×Val):Option<|Val×Hs:=match vs with
 |[k,d]=>if fj k then eL ((fo kvs k).getD d,h)else eM
 |_=>eM
abbrev dpAt(h:Hs):Val->Option (List<|Val×Val)
 |.ref a=>match h a with
  |some (.dtp kvs)=>eL kvs
  |_=>eM
 |_=>eM
abbrev bmGetT(h:Hs)(vs:List Val)(kvs:List<|Val×Val):Option<|Val×Hs:=match vs with
 |[k,d]=>if isKeyT k then eL ((fo kvs k).getD d,h)else eM
 |_=>eM
abbrev NS(h:Hs)(v:Val)(vs:List Val):Option<|Val×Hs:=match dpAt h v with
 |some kvs=>bmGetT h vs kvs
 |none=>bmD h v<|bmGetD h vs
abbrev GX(h:Hs)(vs:List Val)(a:Ad)(kvs:List<|Val×Val):Option<|Val×Hs:=match vs with
 |[k]=>if fj k then(fo kvs k).map λv=>(v,upd h a<|.dct<|fv kvs k)else eM
 |_=>eM
abbrev Fi(h:Hs)(vs:List Val)(a:Ad)(kvs:List<|Val×Val):Option<|Val×Hs:=match vs with
 |[k,d]=>if fj k then eL ((fo kvs k).getD d,upd h a<|.dct<|fv kvs k)else eM
 |_=>eM
abbrev bmV(h:Hs)(m:Bm)(v:Val)(vs:List Val):Option<|Val×Hs:=match m with
 |.append=>bmL h v<|B6 h vs
 |.remove=>bmL h v<|bmRemove h vs
 |.dget=>bmD h v<|L3 h vs
 |.dgetD=>NS h v vs
 |.dpop=>bmD h v<|GX h vs
 |.dpopD=>bmD h v<|Fi h vs
 |_=>eM
abbrev isLst:Option Ob->Bool
 |some (.lst _)=>eN
 |_=>eP
abbrev isDct:Option Ob->Bool
 |some (.dct _)=>eN
 |some (.dtp _)=>eN
 |_=>eP
inductive Ty where|l|d|s|t
abbrev Bm.ty:Bm->Ty
 |.dget=>.d
 |.dgetD=>.d
 |.dpop=>.d
 |.dpopD=>.d
 |.setdefault=>.d
 |.join=>.s
 |.split=>.s
 |.replace=>.s
 |.upper=>.s
 |.partition=>.s
 |.sidx=>.s
 |.index=>.t
 |_=>.l
abbrev Jh(p:Option Ob->Bool)(h:Hs):Val->Bool
 |.ref a=>p<|h a
 |_=>eP
abbrev Hr:Val->Bool
 |.str _=>eN
 |_=>eP
abbrev Lq:Val->Bool
 |.tup _=>eN
 |_=>eP
abbrev bmTy(h:Hs)(m:Bm)(v:Val):Bool:=match m.ty with
 |.l=>Jh isLst h v
 |.d=>Jh isDct h v
 |.s=>Hr v
 |.t=>Jh isLst h v||Lq v
abbrev fh:List (String×Val)->String->Val->List (String×Val)
 |[],f,v=>[(f,v)]
 |(g,x)::r,f,v=>if g=f then(g,v)::r else(g,x)::fh r f v
abbrev getV(env:Env)(i:Nat):Option Val:=match env[i]? with
 |some (eL v)=>eL v
 |_=>eM
abbrev f9:Val->Option Bool
 |.bl b=>eL b
 |_=>eM
abbrev fA:Val->Option Ad
 |.ref a=>eL a
 |_=>eM
abbrev insOf:Option Ob->Option (String×List (String×Val))
 |some (.ins C fs)=>eL (C,fs)
 |_=>eM
abbrev tupOf:Val->Option (List Val)
 |.tup xs=>eL xs
 |_=>eM
abbrev bindL:List Nat->List Val->Env->Option Env
 |[],[],env=>eL env
 |i::is,x::xs,env=>bindL is xs<|env.set i<|eL x
 |_,_,_=>eM
abbrev bind(p:Pt)(h:Hs)(v:Val)(env:Env):Option Env :=
 match p with
 |.one i=>eL<|env.set i<|eL v
 |.many is=>(tupOf v).bind λxs=>bindL is xs env
 |.nest i is=>(tupOf v).bind λxs=>match xs with
  |[x,y]=>(tupOf y).bind λys=>bindL is ys<|env.set i<|eL x
  |_=>eM
abbrev wComp(st:Hs->Prop)(step:Val->Hs->(Option Val->Hs->Prop)->XQ->Prop):List Val->List Val->Hs->(List Val->Hs->Prop)->XQ->Prop
 |[],Ĵ,h,Q,_=>st h/\Q Ĵ h
 |v::vs,Ĵ,h,Q,X=>st h/\step v h (λr h'=>wComp st step vs (Ĵ++r.toList) h' Q X) X
abbrev enumL:Nat->List Val->List Val
 |_,[]=>[]
 |k,x::xs=>.tup [.int k,x]::enumL (k+1) xs
abbrev itV(h:Hs):Val->Option ((Hs->Prop)×List Val)
 |.tup xs=>eL (λ_=>True,xs)
 |.scr ns=>eL (λ_=>True,ns.map .int)
 |.ref a=>(fe<|h a).map λxs=>(λg=>fe (g a)=eL xs,xs)
 |_=>eM
abbrev itemOf(k:Bool)(p:Val×Val):Val:=if k then p.1 else .tup [p.1,p.2]
abbrev fz(i j:Int):List Val:=(List.range (j - i).toNat).map λ(k:Nat)=>.int<|i+k
abbrev fJ(h:Hs)(o k v:Val):Option Hs :=
 match o with
 |.ref p=>match h p with
  |some (.lst xs)=>(f8 k).bind λn=>(ixN xs.length n).map λj=>upd h p<|.lst<|xs.set j v
  |some (.dct kvs)=>if fj k/\kvs.length<lim then eL (upd h p<|.dct<|fu kvs k v)else eM
  |some (.dtp kvs)=>if isKeyT k/\kvs.length<lim then eL (upd h p<|.dtp<|fu kvs k v)else eM
  |_=>eM
 |_=>eM
abbrev fL(h:Hs)(o:Val)(f:String)(v:Val):Option Hs :=
 match o with
 |.ref p=>match h p with
  |some (.ins C fs)=>if fs.length<900 then eL (upd h p<|.ins C<|fh fs f v)else eM
  |_=>eM
 |_=>eM
abbrev fK(h:Hs)(o:Val)(f:String):Option Val:=(fA o).bind λa=>(insOf<|h a).bind λp=>p.2.lookup f
abbrev clsV(h:Hs)(o:Val)(m:String):Option String:=(fA o).bind λa=>(insOf<|h a).bind λp=>if(p.2.lookup m).isNone then eL p.1 else eM
abbrev augV(op:Bop)(x y:Val):Option Val:=match op,x,y with
 |.add,.int i,.int j=>eL<|.int<|i+j
 |.sub,.int i,.int j=>eL<|.int<|i - j
 |_,_,_=>eM
@[irreducible] noncomputable def MS(F:Hs->(List Val->Hs->Prop)->XQ->Prop)(h:Hs)(Q:Q1)(X:XQ):Prop:=new h (.dct []) λr h1=>go (fA r) λp=>F h1 (λvs h2=>go (pairUp vs) λkvs=>h2 p=eL (.dct [])/\Q (.ref p) (upd h2 p<|.dct<|putAll [] kvs)) X
mutual
@[reducible] noncomputable def xE(Φ:Fs):E->Env->Hs->Q1->XQ->Prop
 |.cst v,_,h,Q,_=>Q v h
 |.glob _ v,_,h,Q,_=>Q v h
 |.var i,env,h,Q,_=>go (getV env i) λv=>Q v h
 |.bin op a b,env,h,Q,X=>xE Φ a env h (λv h1=>xE Φ b env h1 (λu h2=>(binV h2 op v u).wp h2 Q) X) X
 |.neg a,env,h,Q,X=>xE Φ a env h (λv h1=>go (f8 v) λi=>Q (.int (-i)) h1) X
 |.not a,env,h,Q,X=>xE Φ a env h (λv h1=>go (f9 v) λb=>Q (.bl (!b)) h1) X
 |.and a b,env,h,Q,X=>xE Φ a env h (λv h1=>go (f9 v) λc=>if c=eN then xE Φ b env h1 Q X else Q (.bl eP) h1) X
 |.or a b,env,h,Q,X=>xE Φ a env h (λv h1=>go (f9 v) λc=>if c=eN then Q (.bl eN) h1 else xE Φ b env h1 Q X) X
 |.cmp op a b,env,h,Q,X=>xE Φ a env h (λv h1=>xE Φ b env h1 (λu h2=>go (fi h2 op v u) λc=>Q (.bl c) h2) X) X
 | .chain o1 o2 a b c,env,h,Q,X=>xE Φ a env h (λv h1=>xE Φ b env h1 (λu h2=>go (fi h2 o1 v u) λk =>
     if k=eN then xE Φ c env h2 (λw h3=>go (fi h3 o2 u w) λk2=>Q (.bl k2) h3) X else Q (.bl eP) h2) X) X
 |.call f as,env,h,Q,X=>xA Φ as env h (λvs h1=>Φ f vs h1 Q X) X
 |.make C as,env,h,Q,X=>xA Φ as env h (λvs h1=>∀p,h1 p=eM->Φ (C ++ ".__init__") (.ref p::vs) (upd h1 p<|.ins C []) (λv h2=>v=.non/\Q (.ref p) h2) X) X
 |.meth C m o as,env,h,Q,X=>xE Φ o env h (λv h1=>clsV h1 v m=eL C/\xA Φ as env h1 (λvs h2=>Φ (C ++ "." ++ m) (v::vs) h2 Q X) X) X
 |.fld o f,env,h,Q,X=>xE Φ o env h (λv h1=>go (fK h1 v f) λu=>Q u h1) X
 |.bi f as,env,h,Q,X=>xA Φ as env h (λvs h1=>(biV h1 f vs).wp h1 Q) X
 |.bm m o as,env,h,Q,X=>xE Φ o env h (λv h1=>bmTy h1 m v=eN/\xA Φ as env h1 (λvs h2=>go (bmV h2 m v vs) λr=>Q r.1 r.2) X) X
 |.idx a i,env,h,Q,X=>xE Φ a env h (λv h1=>xE Φ i env h1 (λk h2=>go (fH h2 v k) λu=>Q u h2) X) X
 |.slc a lo hi,env,h,Q,X=>xE Φ a env h (λv h1=>xO Φ lo env h1 (λl h2=>xO Φ hi env h2 (λu h3=>(fI h3 v l u).wp h3 Q) X) X) X
 |.tup es,env,h,Q,X=>xA Φ es env h (λvs h1=>Q (.tup vs) h1) X
 |.lst es,env,h,Q,X=>xA Φ es env h (λvs h1=>new h1 (.lst vs) Q) X
 |.dct es,env,h,Q,X=>MS (xA Φ es env) h Q X
 |.ife c a b,env,h,Q,X=>xT Φ c env h (λk h1=>if k=eN then xE Φ a env h1 Q X else xE Φ b env h1 Q X) X
 | .comp ô n p it c e,env,h,Q,X=>xI Φ it env h (λst xs h1=>xs.length<lim/\
     wComp st (λv h2 K X2=>go (bind p h2 v<|Ö n eM++ô.map λj=>(env[j]?).getD eM) λś =>
       xT Φ c ś h2 (λk h3=>if k=eN then xE Φ e ś h3 (λu h4=>K (eL u) h4) X2 else K eM h3) X2) xs [] h1 (λys h5=>new h5 (.lst ys) Q) λ_ _=>False) X
 |_,_,_,_,_=>False
@[reducible] noncomputable def xA(Φ:Fs):Es->Env->Hs->(List Val->Hs->Prop)->XQ->Prop
 |.nil,_,h,Q,_=>Q [] h
 |.cons e es,env,h,Q,X=>xE Φ e env h (λv h1=>xA Φ es env h1 (λvs h2=>Q (v::vs) h2) X) X
@[reducible] noncomputable def xJ(Φ:Fs):Es->Env->Hs->String->(String->Hs->Prop)->XQ->Prop
 |.nil,_,h,Ĵ,Q,_=>Q Ĵ h
 |.cons e es,env,h,Ĵ,Q,X=>xE Φ e env h (λv h1=>go (fmtV v) λs=>Ĵ.length+s.length<=lim/\xJ Φ es env h1 (Ĵ++s) Q X) X
@[reducible] noncomputable def xO(Φ:Fs):Oe->Env->Hs->(Option Int->Hs->Prop)->XQ->Prop
 |.none,_,h,Q,_=>Q eM h
 |.some e,env,h,Q,X=>xE Φ e env h (λv h1=>go (f8 v) λi=>Q (eL i) h1) X
@[reducible] noncomputable def xT(Φ:Fs):Tt->Env->Hs->(Bool->Hs->Prop)->XQ->Prop
 |.yes,_,h,Q,_=>Q eN h
 |.val e,env,h,Q,X=>xE Φ e env h (λv h1=>go (Jr h1 v) λk=>Q k h1) X
 |.not a,env,h,Q,X=>xT Φ a env h (λk h1=>Q (!k) h1) X
 |.and a b,env,h,Q,X=>xT Φ a env h (λk h1=>if k=eN then xT Φ b env h1 Q X else Q eP h1) X
 |.or a b,env,h,Q,X=>xT Φ a env h (λk h1=>if k=eN then Q eN h1 else xT Φ b env h1 Q X) X
@[reducible] noncomputable def xI(Φ:Fs):It->Env->Hs->((Hs->Prop)->List Val->Hs->Prop)->XQ->Prop
 |.seq e,env,h,Q,X=>xE Φ e env h (λv h1=>go (itV h1 v) λp=>Q p.1 p.2 h1) X
 |.range a,env,h,Q,X=>xE Φ a env h (λv h1=>go (f8 v) λn=>(-(2 ^ 62)<=n/\n<2 ^ 62)/\Q (λ_=>True) (fz 0 n) h1) X
 |.enum e,env,h,Q,X=>xE Φ e env h (λv h1=>go (tupOf v) λxs=>Q (λ_=>True) (enumL 0 xs) h1) X
 |_,_,_,_,_=>False
end
@[reducible] noncomputable def wE:Fs->E->Env->Hs->Q1->XQ->Prop:=xE
@[reducible] noncomputable def wA:Fs->Es->Env->Hs->(List Val->Hs->Prop)->XQ->Prop:=xA
@[reducible] noncomputable def wJ:Fs->Es->Env->Hs->String->(String->Hs->Prop)->XQ->Prop:=xJ
@[reducible] noncomputable def wO:Fs->Oe->Env->Hs->(Option Int->Hs->Prop)->XQ->Prop:=xO
@[reducible] noncomputable def wT:Fs->Tt->Env->Hs->(Bool->Hs->Prop)->XQ->Prop:=xT
@[reducible] noncomputable def wI:Fs->It->Env->Hs->((Hs->Prop)->List Val->Hs->Prop)->XQ->Prop:=xI
noncomputable abbrev NQ:=Env->Hs->Prop
noncomputable abbrev EQ:=Env->String->Hs->Prop
abbrev wFor(st:Hs->Prop)(W:Val->Env->Hs->NQ->NQ->Prop)(N:NQ):List Val->Env->Hs->Prop
 |[],env,h=>st h/\N env h
 |v::vs,env,h=>st h/\W v env h (λe g=>wFor st W N vs e g) N
@[reducible] noncomputable def wC(Φ:Fs):E->Env->Hs->Q1->XQ->Prop
 |.call f as,env,h,Q,X=>wA Φ as env h (λvs h1=>Φ f vs h1 Q X) λ_ _=>False
 |.meth C m o as,env,h,Q,X=>wE Φ o env h (λv h1=>clsV h1 v m=eL C/\wA Φ as env h1 (λvs h2=>Φ (C ++ "." ++ m) (v::vs) h2 Q X) λ_ _=>False) λ_ _=>False
 |_,_,_,_,_=>False
abbrev tryEnv(env:Env):Option Nat->Val->Env
 |none,_=>env
 |some j,v=>env.set j<|eL v
mutual
@[reducible] noncomputable def xS(Φ:Fs):S->Env->Hs->NQ->Q1->NQ->NQ->EQ->Prop
 |.set p e,env,h,N,_,_,_,X=>wE Φ e env h (λv h1=>go (bind p h1 v env) λś=>N ś h1)<|X env
 |.setIdx a i e,env,h,N,_,_,_,X=>wE Φ e env h (λv h1=>wE Φ a env h1 (λo h2=>wE Φ i env h2 (λk h3=>go (fJ h3 o k v) λg=>N env g)<|X env)<|X env)<|X env
 |.setFld o f e,env,h,N,_,_,_,X=>wE Φ e env h (λv h1=>wE Φ o env h1 (λu h2=>go (fL h2 u f v) λg=>N env g)<|X env)<|X env
 |.augFld o f op n,env,h,N,_,_,_,X=>wE Φ o env h (λu h1=>go (fK h1 u f) λx=>go (augV op x<|.int n) λy=>go (fL h1 u f y) λg=>N env g)<|X env
 |.augIdx a i op n,env,h,N,_,_,_,X=>wE Φ a env h (λo h1=>wE Φ i env h1 (λk h2=>go (fH h2 o k) λx=>go (augV op x<|.int n) λy=>go (fJ h2 o k y) λg=>N env g)<|X env)<|X env
 |.expr e,env,h,N,_,_,_,X=>wE Φ e env h (λ_ h1=>N env h1)<|X env
 |.ret e,env,h,_,R,_,_,X=>wE Φ e env h R<|X env
 |.ite c a b,env,h,N,R,B,C,X=>wT Φ c env h (λk h1=>if k=eN then xSs Φ a env h1 N R B C X else xSs Φ b env h1 N R B C X)<|X env
 |.for p it b,env,h,N,R,_,_,X=>wI Φ it env h (λst xs h1=>wFor st (λv e g K M=>go (bind p g v e) λe2=>xSs Φ b e2 g K R M K X) N xs env h1)<|X env
 | .forI k p e b,env,h,N,R,_,_,X=>wE Φ e env h (λv h1=>go (fA v) λa=>go (f7<|h1 a) λkvs =>
     wFor (λg=>g a=eL (.frz kvs)) (λv e g K M=>go (bind p g v e) λe2=>xSs Φ b e2 g K (λu g2=>g2 a=eL (.frz kvs)/\R u (upd g2 a<|.dct kvs)) M K λ_ _ _=>False)
       (λe g=>g a=eL (.frz kvs)/\N e (upd g a<|.dct kvs)) (kvs.map<|itemOf k) env (upd h1 a<|.frz kvs))<|X env
 |.never,_,_,_,_,_,_,_=>False
 |.raise C as,env,h,_,_,_,_,X=>wA Φ as env h (λ_ h1=>X env C h1)<|X env
 |.try t e hs,env,h,N,R,B,C,X=>wC Φ e env h (λv h1=>N (tryEnv env t v) h1) λc g=>xH Φ hs c env g N R B C
 |_,_,_,_,_,_,_,_=>False
@[reducible] noncomputable def xSs(Φ:Fs):Ss->Env->Hs->NQ->Q1->NQ->NQ->EQ->Prop
 |.nil,env,h,N,_,_,_,_=>N env h
 |.cons s ss,env,h,N,R,B,C,X=>xS Φ s env h (λe g=>xSs Φ ss e g N R B C X) R B C X
@[reducible] noncomputable def xH(Φ:Fs):Hn->String->Env->Hs->NQ->Q1->NQ->NQ->Prop
 |.nil,_,_,_,_,_,_,_=>False
 |.cons K eM b r,c,env,h,N,R,B,C=>if fW c K=eN then xSs Φ b env h N R B C (λ_ _ _=>False)else xH Φ r c env h N R B C
 |.cons K (eL i) b r,c,env,h,N,R,B,C=>if fW c K=eN then(∀p,h p=eM->xSs Φ b (env.set i<|eL<|.ref p) (upd h p<|.exc c) (λe g=>N (e.set i eM) g) R (λe g=>B (e.set i eM) g) (λe g=>C (e.set i eM) g) λ_ _ _=>False)
  else xH Φ r c env h N R B C
end
@[reducible] noncomputable def wS:Fs->S->Env->Hs->NQ->Q1->NQ->NQ->EQ->Prop:=xS
@[reducible] noncomputable def wSs:Fs->Ss->Env->Hs->NQ->Q1->NQ->NQ->EQ->Prop:=xSs
@[reducible] noncomputable def wH:Fs->Hn->String->Env->Hs->NQ->Q1->NQ->NQ->Prop:=xH
def HG:wSs=xSs:=by unfold wSs;rfl
def Pz:wH=xH:=by unfold wH;rfl
structure Fn where
 ar:Nat
 sz:Nat
 body:Ss
noncomputable abbrev Pg:=String->Option Fn
class In(P:Pg)(f:String)(d:outParam Fn):Prop where
 eq:P f=eL d
abbrev Fn.env(d:Fn)(vs:List Val):Env:=vs.map eL++Ö (d.sz - d.ar) eM
abbrev wF0(P:Pg):Nat->Fs
 |0=>λ_ _ _ _ _=>False
 |n+1=>λf vs h Q X=>go (P f) λd=>vs.length=d.ar/\wSs (wF0 P n) d.body (d.env vs) h (λ_ g=>Q .non g) Q (λ_ _=>False) (λ_ _=>False) λ_ c g=>X c g
@[irreducible] noncomputable def wF(P:Pg)(n:Nat):Fs:=wF0 P n
variable {P:Pg} {n:Nat}
def wF_eq:wF P n=wF0 P n:=by unfold wF;rfl
def Zc{f:String}{d:Fn}{vs:List Val}{X:XQ}(e:P f=eL d)(hl:vs.length=d.ar)
  (q:wSs (wF P n) d.body (d.env vs) h (λ_ g=>Q .non g) Q (λ_ _=>False) (λ_ _=>False) λ_ c g=>X c g):wF P (n+1) f vs h Q X:=by
 rw[wF_eq]at q ⊢;exact eV e ⟨hl,q⟩
section
variable {Φ:Fs}{env:Env}{h:Hs}{Q:Q1}{X:XQ}{a b c e o:E}{as:Es}{v u:Val}
def LG{es:Es}(q:new h (.dct []) λr h1=>go (fA r) λp=>wA Φ es env h1 (λvs h2=>go (pairUp vs) λkvs=>h2 p=eL (.dct [])/\Q (.ref p) (upd h2 p<|.dct<|putAll [] kvs)) X):wE Φ (.dct es) env h Q X:=by show MS _ _ _ _;unfold MS;exact q
variable {QA:List Val->Hs->Prop}{QO:Option Int->Hs->Prop}{QT:Bool->Hs->Prop}{QI:(Hs->Prop)->List Val->Hs->Prop}
def Pn(q:QA [] h):wA Φ .nil env h QA X:=q
end
section
variable {Φ:Fs}{env:Env}{h:Hs}{N B C:NQ}{R:Q1}{X:EQ}{a b c e o i:E}{as:Es}{v u:Val}{t:Tt}{s1 s2:Ss}{s:S}{p:Pt}{it:It}{hs:Hn}
def N7(q:N env h):wSs Φ .nil env h N R B C X:=q
def LC{K c:String}{r:Hn}(hc:fW c K=eN)(q:wSs Φ s1 env h N R B C λ_ _ _=>False):wH Φ (.cons K eM s1 r) c env h N R B C:=by simp only[HG,Pz]at q ⊢;unfold xH;rw[gg hc];exact q
end
section
variable {h:Hs}{Q:Q1}{i j k:Int}{a b:Ad}{xs ys:List Val}{v u:Val}{K:Val->Prop}{KB:Bool->Prop}
def wp_val{r:Rs}(e:r=.val v)(q:Q v h):r.wp h Q:=by rw[e,Rs.wp_val];exact q
def wp_new{r:Rs}{o:Ob}(e:r=.new o)(q:new h o Q):r.wp h Q:=by rw[e,Rs.wp_new];exact q
def b_add(q:Q (.int<|i+j) h):(binV h .add (.int i)<|.int j).wp h Q:=wp_val rfl q
def b_sub(q:Q (.int<|i - j) h):(binV h .sub (.int i)<|.int j).wp h Q:=wp_val rfl q
def b_mul(m:mulOk i j)(q:Q (.int<|i*j) h):(binV h .mul (.int i)<|.int j).wp h Q:=wp_val (gg m) q
def b_fdiv(m:0<j/\j<1073741824)(q:Q (.int<|i / j) h):(binV h .fdiv (.int i)<|.int j).wp h Q:=wp_val (gg m) q
def b_mod(m:0<j)(q:Q (.int<|i % j) h):(binV h .mod (.int i)<|.int j).wp h Q:=wp_val (gg m) q
def b_pow(m:0<=j/\j<=1000000/\i.natAbs<2 ^ 64)(q:Q (.int<|i ^ j.toNat) h):(binV h .pow (.int i)<|.int j).wp h Q:=wp_val (gg m) q
def HC{z:Int}(m:0<=j/\j<=1000000/\i.natAbs<2 ^ 64)(e:i ^ j.toNat=z)(q:Q (.int z) h):(binV h .pow (.int i)<|.int j).wp h Q:=b_pow m (by rw[e];exact q)
def HF(m:xs.length+ys.length<=lim)(q:Q (.tup<|xs++ys) h):(binV h .add (.tup xs)<|.tup ys).wp h Q:=wp_val (gg m) q
def Cz(e1:h a=eL (.lst xs))(e2:h b=eL (.lst ys))(m:(xs++ys).length<=lim)(q:new h (.lst<|xs++ys) Q):(binV h .add (.ref a)<|.ref b).wp h Q:=by refine wp_new ?_ q;show(match h a,h b with|some (.lst xs),eL (.lst ys)=>Rs.lst (xs++ys)|_,_=>.no:Rs)=_;simp only[e1,e2,Rs.lst];rw[gg m]
def lsE(e1:h a=eL (.lst xs)):fe (h a)=eL xs:=by rw[e1];rfl
variable {kvs:List (Val×Val)}
def dcE(e1:h a=eL (.dct kvs)):f7 (h a)=eL kvs:=by rw[e1];rfl
def g_int{K:Int->Prop}(q:K i):go (f8<|.int i) K:=eV rfl q
def g_bl{b:Bool}(q:KB b):go (f9<|.bl b) KB:=eV rfl q
def g_ref{K:Ad->Prop}(q:K a):go (fA<|.ref a) K:=eV rfl q
def g_tbl{b:Bool}(q:KB b):go (Jr h<|.bl b) KB:=eV rfl q
def Re(q:KB<|gq (i≠0)):go (Jr h<|.int i) KB:=eV rfl q
def QE(e:h a=eL (.lst xs))(q:KB (!xs.isEmpty)):go (Jr h<|.ref a) KB:=eV (by unfold Jr;simp only[e]) q
def eW(e:atI xs i=eL v)(q:K v):go (fH h (.tup xs)<|.int i) K:=eV e q
def Zk(e1:h a=eL (.lst xs))(e:atI xs i=eL v)(q:K v):go (fH h (.ref a)<|.int i) K:=eV (by unfold fH;simp only[e1];exact e) q
def YS{k:Val}(e1:h a=eL (.dct kvs))(hk:fj k=eN)(e:fo kvs k=eL v)(q:K v):go (fH h (.ref a) k) K:=eV (by unfold fH;simp only[e1];rw[gg hk];exact e) q
variable {ns:List Int}
def GF(e:atI (ns.map Val.int) i=eL v)(q:K v):go (fH h (.scr ns)<|.int i) K:=eV e q
def c_lt(q:KB<|gq (i<j)):go (fi h .lt (.int i)<|.int j) KB:=eV rfl q
def c_gt(q:KB<|gq (j<i)):go (fi h .gt (.int i)<|.int j) KB:=eV rfl q
def c_le(q:KB<|gq (i<=j)):go (fi h .le (.int i)<|.int j) KB:=eV rfl q
def c_ge(q:KB<|gq (j<=i)):go (fi h .ge (.int i)<|.int j) KB:=eV rfl q
def A9:D.eqv (.int i) (.int j)=gq (i=j):=by rw[D.eqv];by_cases e:i=j<;>simp[e]
variable {s:String}
def F7{t:String}:D.eqv (.str s) (.str t)=gq (s=t):=by rw[D.eqv];by_cases e:s=t<;>simp[e]
def c_eqI(q:KB<|gq (i=j)):go (fi h .eq (.int i)<|.int j) KB:=eV (by show eL (D.eqv (.int i)<|.int j)=_;rw[A9]) q
def c_neI(q:KB (!gq (i=j))):go (fi h .ne (.int i)<|.int j) KB:=eV (by show eL (!D.eqv (.int i) (.int j))=_;rw[A9]) q
def c_eqS{t:String}(q:KB<|gq (s=t)):go (fi h .eq (.str s)<|.str t) KB:=eV (by show eL (D.eqv (.str s)<|.str t)=_;rw[F7]) q
def RB{t:String}(q:KB (!gq (s=t))):go (fi h .ne (.str s)<|.str t) KB:=eV (by show eL (!D.eqv (.str s) (.str t))=_;rw[F7]) q
variable {c:Bool}
def c_eqB{d:Bool}(q:KB<|c==d):go (fi h .eq (.bl c)<|.bl d) KB:=eV (by show eL (D.eqv (.bl c)<|.bl d)=_;rw[D.eqv]) q
def c_isN(q:KB<|gq (v=.non)):go (fi h .is v .non) KB:=eV (by unfold fi;rfl) q
def c_notN(q:KB (!gq (v=.non))):go (fi h .isnot v .non) KB:=eV (by unfold fi;rfl) q
variable {n:Nat} {Ŝ:Env}
def Ie{env:Env}{K:Env->Prop}(e:env.set n (eL v)=Ŝ)(q:K Ŝ):go (bind (.one n) h v env) K:=by subst e;exact eV rfl q
def Lm{is:List Nat}{env:Env}{K:Env->Prop}(e:bindL is xs env=eL Ŝ)(q:K Ŝ):go (bind (.many is) h (.tup xs) env) K:=eV e q
def Rz{K:Hs->Prop}(e1:h a=eL (.lst xs))(e:ixN xs.length i=eL n)(q:K<|upd h a<|.lst<|xs.set n v):go (fJ h (.ref a) (.int i) v) K:=eV (by unfold fJ;simp only[e1,f8,Ĕ,e,Ŕ]) q
def Yv{K:Hs->Prop}{k:Val}(e1:h a=eL (.dct kvs))(m:fj k=eN/\kvs.length<lim)(q:K<|upd h a<|.dct<|fu kvs k v):go (fJ h (.ref a) k v) K:=eV (by unfold fJ;simp only[e1];rw[gg m]) q
def JF(e1:h a=eL (.dct kvs))(hk:fj v=eN)(q:KB<|fq kvs v):go (fi h .isin v<|.ref a) KB:=eV (by show inV h v (.ref a)=_;unfold inV;simp only[e1];rw[gg hk]) q
def Ye(e1:h a=eL (.dct kvs))(hk:fj v=eN)(q:KB (!fq kvs v)):go (fi h .notin v<|.ref a) KB:=eV (by show(inV h v<|.ref a).map _=_;unfold inV;simp only[e1];rw[gg hk];rfl) q
variable {C:String} {f:String}
def Yu{fs:List (String×Val)}{K:Hs->Prop}(e1:h a=eL (.ins C fs))(m:fs.length<900)(q:K<|upd h a<|.ins C<|fh fs f v):go (fL h (.ref a) f v) K:=eV (by unfold fL;simp only[e1];rw[gg m]) q
def Lw{fs:List (String×Val)}(e1:h a=eL (.ins C fs))(e:fs.lookup f=eL v)(q:K v):go (fK h (.ref a) f) K:=eV (by unfold fK fA;simp only[e1,insOf,Ĕ];exact e) q
variable {P:Prop}
def II{m:String}{fs:List (String×Val)}(e1:h a=eL (.ins C fs))(e:fs.lookup m=eM)(q:P):clsV h (.ref a) m=eL C/\P:=⟨by unfold clsV fA;simp only[e1,insOf,Ĕ,e,Option.isNone_none,if_true],q⟩
def ag_add(q:K<|.int<|i+j):go (augV .add (.int i)<|.int j) K:=eV rfl q
def ln_lst(e1:h a=eL (.lst xs))(q:Q (.int xs.length) h):(biV h .len [.ref a]).wp h Q:=wp_val (by show fM h (.ref a)=_;unfold fM;dsimp only;rw[e1]) q
def ln_scr(q:Q (.int ns.length) h):(biV h .len [.scr ns]).wp h Q:=wp_val rfl q
def ln_tup(q:Q (.int xs.length) h):(biV h .len [.tup xs]).wp h Q:=wp_val rfl q
def LB{bs:List Bool}(e1:h a=eL (.lst xs))(e2:blsOf xs=eL bs)(q:Q (.bl<|bs.all id) h):(biV h .all [.ref a]).wp h Q:=wp_val (by show Rs.ofO ((fe<|h a).bind _)=_;rw[lsE e1,Ĕ,e2];rfl) q
def RA{K:String->Prop}(q:K s):go (L7<|.str s) K:=eV rfl q
variable {m:Bm}
def Rt(hm:m=.join)(q:P):bmTy h m (.str s)=eN/\P:=⟨by subst hm;rfl,q⟩
def tp_lst(e1:h a=eL (.lst xs))(q:Q (.tup xs) h):(biV h .tuple [.ref a]).wp h Q:=wp_val (by show K7 h (.ref a)=_;unfold K7;dsimp only;rw[e1]) q
def QM(q:Q (.tup xs) h):(biV h .tuple [.tup xs]).wp h Q:=wp_val rfl q
def BV{Ts:List String}(e:isiAny h v Ts=eL c)(q:Q (.bl c) h):(biV h (.isi Ts) [v]).wp h Q:=wp_val (by show Rs.ofO ((isiAny h v Ts).map .bl)=_;rw[e];rfl) q
def ls_lst(e1:h a=eL (.lst xs))(q:new h (.lst xs) Q):(biV h .list [.ref a]).wp h Q:=wp_new (by show toList h (.ref a)=_;unfold toList;dsimp only;rw[e1]) q
def Rl(q:new h (.lst xs) Q):(biV h .list [.tup xs]).wp h Q:=wp_new rfl q
variable {lo:Option Int} {hi:Option Int}
def fO(n:¬ (fB xs.length 0 lo=0/\fB xs.length xs.length hi=xs.length))(q:Q (.tup<|cut xs lo hi) h):(fI h (.tup xs) lo hi).wp h Q:=wp_val (by unfold fI;simp only;rw[gh n]) q
def HR(hm:m.ty=.l\/m.ty=.t)(e:h a=eL (.lst xs))(q:P):bmTy h m (.ref a)=eN/\P:=⟨by unfold bmTy;rcases hm with hm|hm<;>rw[hm]<;>simp[Jh,e,isLst],q⟩
def HZ(hm:m.ty=.d)(e:h a=eL (.dct kvs))(q:P):bmTy h m (.ref a)=eN/\P:=⟨by unfold bmTy;rw[hm];simp[Jh,e,isDct],q⟩
abbrev HU:Bi->Bool
 |.sorted=>eN
 |.sortedI=>eN
 |_=>eP
def C5{f:Bi}(hf:HU f=eN)(e:sortAny h v=eL ns)(m:ns.length<64)(q:new h (.lst<|(sortI ns).map Val.int) Q):(biV h f [v]).wp h Q:=by
 cases f with
 |sorted=>exact wp_new (by show Ju h v=_;unfold Ju;simp only[e];exact gg m) q
 |sortedI=>exact wp_new (by show biSortedI h v=_;unfold biSortedI;simp only[e];exact gg m) q
 |_=>cases hf
def Oy{f:Bi}(e1:h a=eL (.lst<|ns.map Val.int))(e2:eX (ns.map Val.int)=eL ns)(m:ns.length<64)(q:new h (.lst<|(sortI ns).map Val.int) Q)(hf:HU f=eN:=by rfl):(biV h f [.ref a]).wp h Q:=C5 hf (by unfold sortAny;simp only[e1,e2]) m q
def KP{f:Bi}(e1:h a=eL (.dct kvs))(e2:keysOf kvs=eL ns)(m:ns.length<64)(q:new h (.lst<|(sortI ns).map Val.int) Q)(hf:HU f=eN:=by rfl):(biV h f [.ref a]).wp h Q:=C5 hf (by unfold sortAny;simp only[e1,e2]) m q
def Le(e1:h a=eL (.lst []))(q:Q .non h):(biV h .minD [.ref a]).wp h Q:=wp_val (by show fN h (.ref a)=_;unfold fN;simp only[e1,fe,Ĕ,rowsOf]) q
def sl_str(n:s.length<=lim)(q:Q (.str<|Μ<|cut s.toList lo hi) h):(fI h (.str s) lo hi).wp h Q:=wp_val (by unfold fI;simp only;rw[gg n]) q
def sl_lst(e1:h a=eL (.lst xs))(q:new h (.lst<|cut xs lo hi) Q):(fI h (.ref a) lo hi).wp h Q:=wp_new (by unfold fI;simp only[e1,fe]) q
def sl_scr(q:new h (.lst<|cut (ns.map Val.int) lo hi) Q):(fI h (.scr ns) lo hi).wp h Q:=wp_new rfl q
def YR{K:Val×Hs->Prop}(e1:h a=eL (.lst xs))(m:xs.length<lim)(q:K (.non,upd h a<|.lst<|xs++[v])):go (bmV h .append (.ref a) [v]) K:=eV (by show(fe<|h a).bind _=_;rw[lsE e1];exact gg m) q
def B2{K:Val×Hs->Prop}(e1:h a=eL (.dct kvs))(hk:fj v=eN)(q:K ((fo kvs v).getD .non,h)):go (bmV h .dget (.ref a) [v]) K:=eV (by show(f7<|h a).bind _=_;rw[dcE e1];exact gg hk) q
def it_lst{K:(Hs->Prop)×List Val->Prop}(e1:h a=eL (.lst xs))(q:K (λg=>fe (g a)=eL xs,xs)):go (itV h<|.ref a) K:=eV (by unfold itV;simp only[e1,fe,Ŕ]) q
def it_scr{K:(Hs->Prop)×List Val->Prop}(q:K (λ_=>True,ns.map Val.int)):go (itV h<|.scr ns) K:=eV rfl q
def it_tup{K:(Hs->Prop)×List Val->Prop}(q:K (λ_=>True,xs)):go (itV h<|.tup xs) K:=eV rfl q
def Rf{K:List Val->Prop}(q:K xs):go (CS h<|.tup xs) K:=eV rfl q
def Q6{K:List Val->Prop}(e1:h a=eL (.lst xs))(q:K xs):go (CS h<|.ref a) K:=eV (by unfold CS;simp only[e1,fe]) q
variable {A:Prop} {B:Prop}
def fP(e:c=eN)(q:A):if c=eN then A else B:=by rw[gg e];exact q
def fQ(e:c=eP)(q:B):if c=eN then A else B:=by rw[gh<|by rw[e];decide];exact q
def ifD(q:c=eN->A)(r:c=eP->B):if c=eN then A else B:=by cases c;exact r rfl;exact q rfl
variable {p:Prop}
def fR[Decidable p](q:p->A)(r:¬p->B):if decide p=eN then A else B:=by
 by_cases e:p
 .rw[gg<|gk e];exact q e
 .rw[gh<|by simpa using e];exact r e
def Pf[Decidable p](q:¬p->A)(r:p->B):if(!decide p)=eN then A else B:=by
 by_cases e:p
 .rw[gh<|by simpa using e];exact r e
 .rw[gg<|by simpa using e];exact q e
end
structure Ext(h g:Hs):Prop where
 get:∀{a:Ad}{o:Ob},h a=eL o->g a=eL o
variable {h:Hs}
def Ext.refl:Ext h h:=⟨λe=>e⟩
variable {g:Hs}
def Ext.trans{k:Hs}(e:Ext h g)(f:Ext g k):Ext h k:=⟨λx=>f.get<|e.get x⟩
variable {p:Ad} {o:Ob}
def Ext.new(e:h p=eM):Ext h<|upd h p o:=⟨λ{a u} x=>by
  rw[eQ<|by intro z;rw[z,e]at x;cases x];exact x⟩
structure ExtB(w:Ad)(h g:Hs):Prop where
 get:∀{a:Ad}{o:Ob},a≠w->h a=eL o->g a=eL o
variable {w:Ad}
def ExtB.refl:ExtB w h h:=⟨λ_ e=>e⟩
def ExtB.trans{k:Hs}(e:ExtB w h g)(f:ExtB w g k):ExtB w h k:=⟨λn x=>f.get n<|e.get n x⟩
def ExtB.upd:ExtB w h<|upd h w o:=⟨λn x=>by rw[eQ n];exact x⟩
def ExtB.of(e:Ext h g):ExtB w h g:=⟨λ_ x=>e.get x⟩
variable {a:Ad}
def Zb(x:h a=eL o)(n:h p=eM):a≠p:=by intro z;rw[z,n]at x;cases x
def ne_none'(n:h p=eM)(x:h a=eL o):a≠p:=Zb x n
def upd_ne'{b:Ad}{r:Option Ob}(n:b≠a)(e:h b=r):upd h a o b=r:=by rw[eQ n];exact e
inductive Sm2 {α β:Type}(p:α->β->Prop):Prop|mk (a:α) (b:β) (h:p a b)
inductive Sm3 {α β γ:Type}(p:α->β->γ->Prop):Prop|mk (a:α) (b:β) (c:γ) (h:p a b c)
inductive Sm4 {α β γ δ:Type}(p:α->β->γ->δ->Prop):Prop|mk (a:α) (b:β) (c:γ) (d:δ) (h:p a b c d)
inductive Cj2 (a b:Prop):Prop|mk (h1:a) (h2:b)
inductive Cj3 (a b c:Prop):Prop|mk (h1:a) (h2:b) (h3:c)
inductive Cj4 (a b c d:Prop):Prop|mk (h1:a) (h2:b) (h3:c) (h4:d)
inductive Cj7 (a b c d e f g:Prop):Prop|mk (h1:a) (h2:b) (h3:c) (h4:d) (h5:e) (h6:f) (h7:g)
variable {st:Hs->Prop} {xs:List Val}
def Zx{W:Val->Env->Hs->NQ->NQ->Prop}{N:NQ}(I:Nat->Env->Hs->Prop){env:Env}(h0:I 0 env h)(ů:∀i e g,i<=xs.length->I i e g->st g)
  (step:∀i v e g,xs[i]?=eL v->I i e g->∀K:NQ,(∀e' g',I (i+1) e' g'->K e' g')->W v e g K N) (fin:∀e g,I xs.length e g->N e g):wFor st W N xs env h:=by
 have key:∀(ys:List Val) (i:Nat) e g,xs.drop i=ys->i<=xs.length->I i e g->wFor st W N ys e g:=by
  intro ys;induction ys with
  |nil =>
   intro i e g hd hi hI;have:i=xs.length:=by have:=congrArg List.length hd;simp at this;lia
   subst this;exact⟨ů _ e g (Ì _) hI,fin e g hI⟩
  |cons v vs ih =>
   intro i e g hd hi hI;have ϙ:i<xs.length:=by have:=congrArg List.length hd;simp at this;lia
   have hv:xs[i]?=eL v:=by have:=congrArg (λl=>l[0]?) hd;simpa using this
   refine⟨ů i e g hi hI,step i v e g hv hI _ λe' g' hI'=>ih (i+1) e' g' ?_ (by lia) hI'⟩;have:=congrArg List.tail hd;simpa using this
 exact key xs 0 env h (by simp) (by lia) h0
variable {Q:List Val->Hs->Prop} {X:XQ}
def X8{step:Val->Hs->(Option Val->Hs->Prop)->XQ->Prop}(I:Nat->List Val->Hs->Prop)(h0:I 0 [] h)(ů:∀i ys g,i<=xs.length->I i ys g->st g)
  (go:∀i v ys g,xs[i]?=eL v->I i ys g->∀K,(∀r g',I (i+1) (ys++r.toList) g'->K r g')->step v g K X) (fin:∀ys g,I xs.length ys g->Q ys g):wComp st step xs [] h Q X:=by
 have key:∀(zs:List Val) (i:Nat) ys g,xs.drop i=zs->i<=xs.length->I i ys g->wComp st step zs ys g Q X:=by
  intro zs;induction zs with
  |nil =>
   intro i ys g hd hi hI;have:i=xs.length:=by have:=congrArg List.length hd;simp at this;lia
   subst this;exact⟨ů _ ys g (Ì _) hI,fin ys g hI⟩
  |cons v vs ih =>
   intro i ys g hd hi hI;have ϙ:i<xs.length:=by have:=congrArg List.length hd;simp at this;lia
   have hv:xs[i]?=eL v:=by have:=congrArg (λl=>l[0]?) hd;simpa using this
   refine⟨ů i ys g hi hI,go i v ys g hv hI _ λr g' hI'=>ih (i+1) _ g' ?_ (by lia) hI'⟩;have:=congrArg List.tail hd;simpa using this
 exact key xs 0 [] h (by simp) (by lia) h0
def ZS{step:Val->Hs->(Option Val->Hs->Prop)->XQ->Prop}(f:Val->Option Val)(ů:st h)
  (go:∀v∈xs,∀K,K (f v) h->step v h K X) (fin:Q (xs.filterMap f) h):wComp st step xs [] h Q X:=by
 have key:∀(zs ys:List Val),(∀v∈zs,v∈xs)->Q (ys++zs.filterMap f) h->wComp st step zs ys h Q X:=by
  intro zs;induction zs with
  |nil=>intro ys _ q;exact⟨ů,by simpa using q⟩
  |cons v vs ih =>
   intro ys hm q;refine⟨ů,go v (hm v<|by simp) _<|ih _ (λw hw=>hm w<|by simp[hw]) ?_⟩;cases e:f v with
   |none=>simpa[ĺ,e]using q
   |some u=>simpa[ĺ,e]using q
 exact key xs [] (λ_ h=>h) (by simpa using fin)
section
variable {Φ:Fs}{env:Env}{h:Hs}{Q:Q1}{X:XQ}{a b c e o:E}{as:Es}{v u:Val}
def q_e_bi{f:Bi}:(wE Φ (.bi f as) env h Q X)=(wA Φ as env h (λvs h1=>(biV h1 f vs).wp h1 Q) X):=rfl
variable {es:Es}
def q_e_dct:(wE Φ (.dct es) env h Q X)=(new h (.dct []) λr h1=>go (fA r) λp=>wA Φ es env h1 (λvs h2=>go (pairUp vs) λkvs=>h2 p=eL (.dct [])/\Q (.ref p) (upd h2 p<|.dct<|putAll [] kvs)) X):=by show MS _ _ _ _=_;unfold MS;rfl
variable {QA:List Val->Hs->Prop}{QO:Option Int->Hs->Prop}{QT:Bool->Hs->Prop}{QI:(Hs->Prop)->List Val->Hs->Prop}
def q_a_nil:(wA Φ .nil env h QA X)=(QA [] h):=rfl
def q_a_cons:(wA Φ (.cons e es) env h QA X)=(wE Φ e env h (λv h1=>wA Φ es env h1 (λvs h2=>QA (v::vs) h2) X) X):=rfl
end
section
variable {Φ:Fs}{env:Env}{h:Hs}{N B C:NQ}{R:Q1}{X:EQ}{a b c e o i:E}{as:Es}{v u:Val}{t:Tt}{s1 s2:Ss}{s:S}{p:Pt}{it:It}{hs:Hn}
def q_s_raise{D:String}:(wS Φ (.raise D as) env h N R B C X)=(wA Φ as env h (λ_ h1=>X env D h1)<|X env):=rfl
def q_s_try{t:Option Nat}:(wS Φ (.try t e hs) env h N R B C X)=(wC Φ e env h (λv h1=>N (tryEnv env t v) h1) λc g=>wH Φ hs c env g N R B C):=rfl
def q_h_nil{c:String}:wH Φ .nil c env h N R B C=False:=rfl
variable {r:Hn}
def q_h_none{K c:String}:wH Φ (.cons K eM s1 r) c env h N R B C=if fW c K=eN then wSs Φ s1 env h N R B C (λ_ _ _=>False)else wH Φ r c env h N R B C:=rfl
def q_h_some{K c:String}{k:Nat}:wH Φ (.cons K (eL k) s1 r) c env h N R B C=if fW c K=eN then(∀p,h p=eM->wSs Φ s1 (env.set k<|eL<|.ref p) (upd h p<|.exc c) (λe g=>N (e.set k eM) g) R (λe g=>B (e.set k eM) g) (λe g=>C (e.set k eM) g) λ_ _ _=>False)else wH Φ r c env h N R B C:=rfl
end
section
variable {Φ:Fs}{env:Env}{h:Hs}{Q:Q1}{X:XQ}{a:Ad}{v:Val}{kvs:List (Val×Val)}
def HH(q:∀p,h p=eM->Q (.ref p) (upd h p<|.dct [])):wE Φ (.dct .nil) env h Q X:=by refine LG<|YK λp hp=>g_ref<|Pn<|eV rfl ⟨eR,?_⟩;rw[eS];exact q p hp
def dw0(q:∀p,h p=eM->Q (.ref p) (upd h p<|.dct [])):MS (xA Φ .nil env) h Q X:=HH q
def dw{F:Hs->(List Val->Hs->Prop)->XQ->Prop}(q:new h (.dct []) λr h1=>go (fA r) λp=>F h1 (λvs h2=>go (pairUp vs) λkvs=>h2 p=eL (.dct [])/\Q (.ref p) (upd h2 p<|.dct<|putAll [] kvs)) X):MS F h Q X:=by unfold MS;exact q
def P9{i:Nat}{K:Val->Prop}(g:getV env i=eL v)(q:K v):go (getV env i) K:=eV g q
def dc_of{K:List (Val×Val)->Prop}(e1:h a=eL (.dct kvs))(q:K kvs):go (f7<|h a) K:=eV (dcE e1) q
variable {u:Val}
def K1{K:Val×Hs->Prop}(e1:h a=eL (.dct kvs))(hk:fj v=eN)(q:K ((fo kvs v).getD u,h)):go (bmV h .dgetD (.ref a) [v,u]) K:=eV (by show NS h (.ref a) [v,u]=_;unfold NS dpAt;simp only[e1];show(f7<|h a).bind _=_;rw[dcE e1];exact gg hk) q
def B9{K:Val×Hs->Prop}(e1:h a=eL (.dct kvs))(hk:fj v=eN)(e2:fo kvs v=eL u)(q:K (u,upd h a<|.dct<|fv kvs v)):go (bmV h .dpop (.ref a) [v]) K:=eV (by show(f7<|h a).bind _=_;rw[dcE e1];show(if fj v then _ else _)=_;rw[gg hk,e2];rfl) q
def Uv{K:Val×Hs->Prop}(e1:h a=eL (.dct kvs))(hk:fj v=eN)(q:K ((fo kvs v).getD u,upd h a<|.dct<|fv kvs v)):go (bmV h .dpopD (.ref a) [v,u]) K:=eV (by show(f7<|h a).bind _=_;rw[dcE e1];exact gg hk) q
end
end gf
namespace Snd
open PySem L2
abbrev KT(K:Frag)(a:È)(xs:List V):Prop :=
 ∃(o:Obj) (ò:Array Â) (n:Nat),K.lookup a=eL o/\o.cls=.type "tuple"/\o.data=.seq ò n/\ò.size<=Ø/\fZ xs ò.toList
abbrev KL(K:Frag)(a:È)(xs:List V):Prop :=
 ∃(o:Obj) (ò:Array Â) (n:Nat),K.lookup a=eL o/\o.cls=.type "list"/\o.dict=eM/\o.data=.seq ò n/\ò.size<=Ø/\fZ xs ò.toList
mutual
inductive RV (K:Frag) (H:Hp):gf.Val->V->Prop
 |non:RV K H .non .non
 |bl (b:Bool):RV K H (.bl b)<|.bl b
 |int (i:Int):RV K H (.int i)<|.int i
 |str (s:String):RV K H (.str s)<|.str<|gu s
 |tup {xs:List gf.Val}{a:È}{vs:List V}:(H a=eL (.tup vs)\/KT K a vs)->RVs K H xs vs->RV K H (.tup xs) (.ref a)
 |ref (a:È):RV K H (.ref a)<|.ref a
 |scr {ns:List Int}{a:È}:((∃o,H a=eL (.frz o<|.lst<|ns.map V.int))\/KL K a (ns.map V.int))->RV K H (.scr ns) (.ref a)
 |key {i j:Int}{a:È}:H a=eL (.tup [.int i,.int j])->RV K H (.key i j) (.ref a)
inductive RVs (K:Frag) (H:Hp):List gf.Val->List V->Prop
 |nil:RVs K H [] []
 |cons {v:gf.Val}{x:V}{vs:List gf.Val}{xs:List V}:RV K H v x->RVs K H vs xs->RVs K H (v::vs) (x::xs)
end
structure fm(H H':Hp):Prop where
 t:∀a xs,H a=eL (.tup xs)->H' a=eL (.tup xs)
 f:∀a o u,H a=eL (.frz o u)->H' a=eL (.frz o u)
def fm.refl(H:Hp):fm H H:=⟨λ_ _ e=>e,λ_ _ _ e=>e⟩
variable {H:Hp}
def fm.trans{H1 H2:Hp}(a:fm H H1)(b:fm H1 H2):fm H H2:=⟨λc xs e=>b.t c xs<|a.t c xs e,λc o u e=>b.f c o u<|a.f c o u e⟩
variable {a:È} {o:HO}
def fm.put(h:∀xs,H a≠eL (.tup xs))(h2:∀p u,H a≠eL (.frz p u)):fm H<|upd H a o:=⟨λb xs e=>by
  rw[eQ<|by rintro rfl;exact h xs e];exact e,λb p u e=>by rw[eQ<|by rintro rfl;exact h2 p u e];exact e⟩
def fm.new(h:H a=eM):fm H<|upd H a o:=fm.put (λxs e=>by rw[h]at e;cases e) λp u e=>by rw[h]at e;cases e
variable {K:Frag}{H H':Hp}
mutual
theorem RV.keep(k:fm H H'):∀{v:gf.Val}{x:V},RV K H v x->RV K H' v x
 |_,_,.non=>.non
 |_,_,.bl b=>.bl b
 |_,_,.int i=>.int i
 |_,_,.str s=>.str s
 |_,_,.tup (.inl e) r=>.tup (.inl<|k.t _ _ e)<|RVs.keep k r
 |_,_,.tup (.inr e) r=>.tup (.inr e)<|RVs.keep k r
 |_,_,.ref a=>.ref a
 |_,_,.scr (.inl ⟨o,e⟩)=>.scr<|.inl ⟨o,k.f _ _ _ e⟩
 |_,_,.scr (.inr e)=>.scr<|.inr e
 |_,_,.key e=>.key<|k.t _ _ e
theorem RVs.keep(k:fm H H'):∀{vs:List gf.Val}{xs:List V},RVs K H vs xs->RVs K H' vs xs
 |_,_,.nil=>.nil
 |_,_,.cons r t=>.cons (RV.keep k r)<|RVs.keep k t
end
def RVs.length:∀{vs:List gf.Val}{xs:List V},RVs K H vs xs->vs.length=xs.length
 |_,_,.nil=>rfl
 |_,_,.cons _ t=>by rw[Ë,Ë,RVs.length t]
def RVs.get:∀{vs:List gf.Val}{xs:List V}{i:Nat}{v:gf.Val},RVs K H vs xs->vs[i]?=eL v->∃x,xs[i]?=eL x/\RV K H v x
 |_,_,_,_,.nil,e=>by simp at e
 |_,_,0,_,.cons r _,e=>by simp at e;subst e;exact⟨_,rfl,r⟩
 |_,_,i+1,v,.cons _ t,e=>by obtain⟨x,h1,h2⟩:=RVs.get (i:=i) (v:=v) t (by simpa using e);exact⟨x,by simpa using h1,h2⟩
def RVs.append:∀{vs us:List gf.Val}{xs ys:List V},RVs K H vs xs->RVs K H us ys->RVs K H (vs++us) (xs++ys)
 |_,_,_,_,.nil,h=>h
 |_,_,_,_,.cons r t,h=>.cons r<|RVs.append t h
def RVs.set{v:gf.Val}{x:V}(r:RV K H v x):∀{vs:List gf.Val}{xs:List V}(i:Nat),RVs K H vs xs->RVs K H (vs.set i v) (xs.set i x)
 |_,_,_,.nil=>.nil
 |_,_,0,.cons _ t=>.cons r t
 |_,_,i+1,.cons q t=>.cons q<|RVs.set r i t
def RVs.take:∀{vs:List gf.Val}{xs:List V}(n:Nat),RVs K H vs xs->RVs K H (vs.take n) (xs.take n)
 |_,_,0,_=>.nil
 |_,_,_+1,.nil=>.nil
 |_,_,n+1,.cons r t=>.cons r<|RVs.take n t
def RVs.drop:∀{vs:List gf.Val}{xs:List V}(n:Nat),RVs K H vs xs->RVs K H (vs.drop n) (xs.drop n)
 |_,_,0,r=>r
 |_,_,_+1,.nil=>.nil
 |_,_,n+1,.cons _ t=>RVs.drop n t
variable {vs:List gf.Val} {xs:List V}
def RVs.reverse(r:RVs K H vs xs):RVs K H vs.reverse xs.reverse:=by
 induction r using RVs.rec (motive_1:=λ_ _ _=>True)with
 |nil=>exact .nil
 |cons r t _ ih=>rw[Ρ,Ρ];exact ih.append<|.cons r .nil
 |_=>trivial
def RVs.eraseIdx:∀{vs:List gf.Val}{xs:List V}(i:Nat),RVs K H vs xs->RVs K H (vs.eraseIdx i) (xs.eraseIdx i)
 |_,_,_,.nil=>.nil
 |_,_,0,.cons _ t=>t
 |_,_,i+1,.cons q t=>.cons q<|RVs.eraseIdx i t
def RVs.dropLast(r:RVs K H vs xs):RVs K H vs.dropLast xs.dropLast:=by rw[cD,cD,r.length];exact r.take _
def Zj{vs:List V}(h:H a=eL (.tup vs)\/KT K a vs):fY K H a vs:=by
 rcases h with h|h
 .exact fY.of h
 .exact .inr h
structure Inf where
 K:Frag
 cl:String->È->Prop
 ins:String->Bool
 xc:String->È->Prop
abbrev Wv:gf.Val->Key->Prop
 |.int i,.inl j=>i=j
 |.str s,.inr t=>t=gu s
 |_,_=>False
inductive RKs (K:Frag) (H:Hp):List (gf.Val×gf.Val)->List (Key×V)->Prop
 |nil:RKs K H [] []
 |cons {k v:gf.Val}{c:Key}{x:V}{kvs:List (gf.Val×gf.Val)}{ps:List (Key×V)}:Wv k c->RV K H v x->RKs K H kvs ps->RKs K H ((k,v)::kvs) ((c,x)::ps)
inductive RFs (K:Frag) (H:Hp):List (String×gf.Val)->List (Str×V)->Prop
 |nil:RFs K H [] []
 |cons {f:String}{v:gf.Val}{x:V}{fs:List (String×gf.Val)}{ps:List (Str×V)}:RV K H v x->RFs K H fs ps->RFs K H ((f,v)::fs) ((gu f,x)::ps)
def RKs.keep(k:fm H H'):∀{kvs:List (gf.Val×gf.Val)}{ps:List (Key×V)},RKs K H kvs ps->RKs K H' kvs ps
 |_,_,.nil=>.nil
 |_,_,.cons a r t=>.cons a (r.keep k)<|RKs.keep k t
inductive RTs (K:Frag) (H:Hp):List (gf.Val×gf.Val)->List (List Key×V)->Prop
 |nil:RTs K H [] []
 |cons {i j:Int}{v:gf.Val}{x:V}{kvs:List (gf.Val×gf.Val)}{ps:List (List Key×V)}:RV K H v x->RTs K H kvs ps->RTs K H ((.key i j,v)::kvs) (([.inl i,.inl j],x)::ps)
def RTs.keep(k:fm H H'):∀{kvs:List (gf.Val×gf.Val)}{ps:List (List Key×V)},RTs K H kvs ps->RTs K H' kvs ps
 |_,_,.nil=>.nil
 |_,_,.cons r t=>.cons (r.keep k)<|RTs.keep k t
def RFs.keep(k:fm H H'):∀{fs:List (String×gf.Val)}{ps:List (Str×V)},RFs K H fs ps->RFs K H' fs ps
 |_,_,.nil=>.nil
 |_,_,.cons r t=>.cons (r.keep k)<|RFs.keep k t
abbrev RO(i:Inf)(H:Hp)(a:È):gf.Ob->Prop
 |.lst xs=>∃vs,H a=eL (.lst vs)/\RVs i.K H xs vs
 |.dct kvs=>∃ps,H a=eL (.dK ps)/\RKs i.K H kvs ps
 |.ins C fs=>∃c dx ps,i.ins C=eN/\i.cl C c/\H a=eL (.ins c dx ps)/\RFs i.K H fs ps
 |.exc C=>∃c,i.xc C c/\H a=eL (xcO a<|.ref c)
 |.frz kvs=>∃o ps,H a=eL (.frz o<|.dK ps)/\RKs i.K H kvs ps
 |.dtp kvs=>∃ps,H a=eL (.dT ps)/\RTs i.K H kvs ps
variable {i:Inf}
def RO.there{o:gf.Ob}(r:RO i H a o):∃u,H a=eL u:=by
 cases o with
 |lst xs=>obtain⟨_,e,_⟩:=r;exact⟨_,e⟩
 |dct kvs=>obtain⟨_,e,_⟩:=r;exact⟨_,e⟩
 |ins C fs=>obtain⟨_,_,_,_,_,e,_⟩:=r;exact⟨_,e⟩
 |exc C=>obtain⟨_,_,e⟩:=r;exact⟨_,e⟩
 |frz kvs=>obtain⟨_,_,e,_⟩:=r;exact⟨_,e⟩
 |dtp kvs=>obtain⟨_,e,_⟩:=r;exact⟨_,e⟩
def RO.move{o:gf.Ob}(r:RO i H a o)(k:fm H H')(e:H' a=H a):RO i H' a o:=by
 cases o with
 |lst xs=>obtain⟨vs,q,r⟩:=r;exact⟨vs,e.trans q,r.keep k⟩
 |dct kvs=>obtain⟨ps,q,r⟩:=r;exact⟨ps,e.trans q,r.keep k⟩
 |ins C fs=>obtain⟨c,dx,ps,h0,h,q,r⟩:=r;exact⟨c,dx,ps,h0,h,e.trans q,r.keep k⟩
 |exc C=>obtain⟨c,h,q⟩:=r;exact⟨c,h,e.trans q⟩
 |frz kvs=>obtain⟨o,ps,q,r⟩:=r;exact⟨o,ps,e.trans q,r.keep k⟩
 |dtp kvs=>obtain⟨ps,q,r⟩:=r;exact⟨ps,e.trans q,r.keep k⟩
abbrev RH(i:Inf)(G:gf.Hs)(H:Hp):Prop:=∀a o,G a=eL o->RO i H a o
variable {G:gf.Hs}
def RH.free(r:RH i G H)(e:H a=eM):G a=eM:=by
 cases q:G a with
 |none=>rfl
 |some o=>obtain⟨u,z⟩:=(r a o q).there;rw[e]at z;cases z
def RH.put{o:gf.Ob}{u:HO}(r:RH i G H)(k:fm H<|upd H a u)(n:RO i (upd H a u) a o):RH i (gf.upd G a o)<|upd H a u:=λb p e=>by
 by_cases hb:b=a
 .subst hb;rw[gf.eR]at e;cases e;exact n
 .rw[gf.eQ hb]at e;exact(r b p e).move k<|eQ hb
def RH.hid(r:RH i G H)(k:fm H H')(e:∀a o,G a=eL o->H' a=H a):RH i G H':=λb p q=>(r b p q).move k (e b p q)
structure REn(K:Frag)(H:Hp)(env:gf.Env)(σ:St):Prop where
 len:env.length=σ.length
 get:∀(i:Nat) (v:gf.Val),env[i]?=eL (eL v)->∃x,σ[i]?=eL (eL x)/\RV K H v x
variable {σ:St}
def REn.keep{env:gf.Env}(r:REn K H env σ)(k:fm H H'):REn K H' env σ:=⟨r.len,λi v e=>by
  obtain⟨x,h1,h2⟩:=r.get i v e
  exact⟨x,h1,h2.keep k⟩⟩
def REn.set{env:gf.Env}{v:gf.Val}{x:V}(r:REn K H env σ)(q:RV K H v x)(j:Nat):REn K H (env.set j<|eL v)<|σ.set j<|eL x:=⟨by simp[r.len],λi u e=>by
  by_cases hij:j=i
  . subst hij
    rw[ύ]at e
    cases z:env[j]? with
    |none=>rw[z]at e;cases e
    |some w =>
      rw[z]at e
      cases e
      have hj:j<σ.length:=by rw[<-r.len];exact(Ó.mp z).1
      exact⟨x,ϑ hj,q⟩
  . rw[ĵ hij]at e
    obtain⟨y,h1,h2⟩:=r.get i u e
    exact⟨y,by rw[ĵ hij];exact h1,h2⟩⟩
def REn.start{n:Nat}(r:RVs K H vs xs):REn K H (vs.map eL++Ö n eM)<|xs.map eL++Ö n eM:=⟨by simp[r.length],λi v e=>by
  by_cases hi:i<vs.length
  . rw[ĉ (by simpa using hi),Ý]at e
    cases z:vs[i]? with
    |none=>rw[z]at e;cases e
    |some w =>
      rw[z]at e
      cases e
      obtain⟨x,h1,h2⟩:=r.get z
      exact⟨x,by rw[ĉ (by rw[Ã,<-r.length];exact hi),Ý,h1];rfl,h2⟩
  . rw[đ (by simpa using hi),Ő]at e
    split at e<;>cases e⟩
def RVs.ints{K:Frag}{H:Hp}:∀ns:List Int,RVs K H (ns.map gf.Val.int) (ns.map V.int)
 |[]=>.nil
 |n::ns=>.cons (.int n)<|RVs.ints ns
def Z1{ns:List Int}(h:(∃o,H a=eL (.frz o<|.lst<|ns.map V.int))\/KL K a (ns.map V.int)):fX K H a<|ns.map V.int:=by
 rcases h with⟨o,h⟩|h
 .exact .inl<|.inr ⟨o,h⟩
 .exact .inr h
variable {i:Inf}{X:Cx}{Φ:gf.Fs}
abbrev XK1(i:Inf)(H:Hp)(Em:gf.XQ):XK:=λcls _ H'=>∃c G' ad,cls=.ref ad/\i.xc c ad/\fm H H'/\RH i G' H'/\Em c G'
abbrev XOk(X:Cx)(i:Inf)(H:Hp)(Em:gf.XQ):Prop:=XW X<|XK1 i H Em
variable {H:Hp} {H1:Hp} {Em:gf.XQ}
def XK1.go{H':Hp}{cls:Â}{d:Option È}(k:fm H H1)(h:XK1 i H1 Em cls d H'):XK1 i H Em cls d H':=by obtain⟨c,G',ad,e,q,k',r,m⟩:=h;exact⟨c,G',ad,e,q,k.trans k',r,m⟩
def XOk.go(x:XOk X i H Em)(k:fm H H1):XOk X i H1 Em:=λÁ σ H0 s H' a cls s' I f e=>x Á σ H0 s H' a cls s' I f (e.go k)
structure Pre(X:Cx)(i:Inf)(σ:St)(H:Hp)(env:gf.Env)(G:gf.Hs)(Em:gf.XQ):Prop where
 en:REn i.K H env σ
 hp:RH i G H
 xo:XOk X i H Em
variable {σ:St} {G:gf.Hs}
def Pre.go{env:gf.Env}{G1:gf.Hs}(p:Pre X i σ H env G Em)(k:fm H H1)(r:RH i G1 H1):Pre X i σ H1 env G1 Em:=⟨p.en.keep k,r,p.xo.go k⟩
abbrev Cn(i:Inf)(H:Hp)(Q:VK)(Qm:gf.Q1):Prop:=∀v G' H' x,fm H H'->RH i G' H'->RV i.K H' v x->Qm v G'->Q x H'
variable {Q:VK} {Qm:gf.Q1}
def Cn.go(c:Cn i H Q Qm)(k:fm H H1):Cn i H1 Q Qm:=λv G' H' x k'=>c v G' H' x (k.trans k')
inductive tEx (X:Cx) (i:Inf) (Φ:gf.Fs) (m:gf.E) (σ:St) (H:Hp) (Q:VK):Prop
 |mk (env:gf.Env) (G:gf.Hs) (Qm:gf.Q1) (Em:gf.XQ) (p:Pre X i σ H env G Em) (w:gf.wE Φ m env G Qm Em) (c:Cn i H Q Qm)
abbrev tE(X:Cx)(i:Inf)(Φ:gf.Fs)(m:gf.E):TE:=tEx X i Φ m
inductive tArx (X:Cx) (i:Inf) (Φ:gf.Fs) (ms:gf.Es) (n:Nat) (σ:St) (H:Hp) (Q:List V->Hp->Prop):Prop
 |mk (env:gf.Env) (G:gf.Hs) (Qm:List gf.Val->gf.Hs->Prop) (Em:gf.XQ) (p:Pre X i σ H env G Em) (w:gf.wA Φ ms env G Qm Em) (c:∀vs G' H' xs,fm H H'->RH i G' H'->RVs i.K H' vs xs->xs.length=n->Qm vs G'->Q xs H')
abbrev tAr(X:Cx)(i:Inf)(Φ:gf.Fs)(ms:gf.Es)(n:Nat):TA:=tArx X i Φ ms n
inductive tTtx (X:Cx) (i:Inf) (Φ:gf.Fs) (m:gf.Tt) (σ:St) (H:Hp) (Q:Bool->Hp->Prop):Prop
 |mk (env:gf.Env) (G:gf.Hs) (Qm:Bool->gf.Hs->Prop) (Em:gf.XQ) (p:Pre X i σ H env G Em) (w:gf.wT Φ m env G Qm Em) (c:∀b G' H',fm H H'->RH i G' H'->Qm b G'->Q b H')
abbrev tTt(X:Cx)(i:Inf)(Φ:gf.Fs)(m:gf.Tt):TT:=tTtx X i Φ m
variable {e:Expr}
def _root_.L2.PE.imp{t t':TE}(h:PE X e t)(f:∀σ H Q,t' σ H Q->t σ H Q):PE X e t':=λÁ s σ H Q I q=>h Á s σ H Q I (f σ H Q q)
variable {t':TT}
def _root_.L2.PT.imp{t:TT}(h:PT X e t)(f:∀σ H Q,t' σ H Q->t σ H Q):PT X e t':=λÁ s σ H Q I q=>h Á s σ H Q I (f σ H Q q)
def _root_.L2.PW.imp{t:TT}(h:PW X e t)(f:∀σ H Q,t' σ H Q->t σ H Q):PW X e t':=λwh Á s σ H Q I q=>h wh Á s σ H Q I (f σ H Q q)
variable {es:List Expr}
def _root_.L2.PA.imp{t t':TA}(h:PA X es t)(f:∀σ H Q,t' σ H Q->t σ H Q):PA X es t':=λç Á s σ H Q I q=>h ç Á s σ H Q I (f σ H Q q)
variable {j:Nat}
def Pw{env:gf.Env}{h:gf.Hs}{Q:gf.Q1}{E:gf.XQ}:(gf.wE Φ (.var j) env h Q E)=(gf.go (gf.getV env j) λv=>Q v h):=rfl
def eU{α:Type}{o:Option α}{k:α->Prop}(h:gf.go o k):∃a,o=eL a/\k a:=by
 cases o with
 |none=>simp at h
 |some a=>exact⟨a,rfl,by simpa using h⟩
def AL{env:gf.Env}{v:gf.Val}(h:gf.getV env j=eL v):env[j]?=eL (eL v):=by
 unfold gf.getV at h;split at h
 .rename_i u e;cases h;exact e
 .cases h
variable {ç:Pos}
def Pq{x:Str}(hN:X.N[j]?=eL x)(hv:Vis X.env.scope x)(hd:(x==("__debug__" : Str))=eP)(bo:(x==("__classdict__" : Str))=eP):PE X (.Name x ç) (tE X i Φ<|.var j) :=
 (Lj hN hv hd bo).imp λσ H Q ⟨env,G,Qm,Em,p,w,c⟩=>by rw[Pw]at w;obtain⟨v,e,q⟩:=eU w;obtain⟨y,h1,h2⟩:=p.en.get j v<|AL e;exact⟨y,h1,c v G H y (fm.refl H) p.hp h2 q⟩
variable {x:V}
def WB{v:gf.Val}(h:PE X e<|tC x)(r:∀H,RV i.K H v x):PE X e (tE X i Φ<|.cst v) :=
 h.imp λσ H Q ⟨env,G,Qm,Em,p,w,c⟩=>by exact c v G H x (fm.refl H) p.hp (r H) w
def GH{y:String}{v:gf.Val}(h:PE X e<|tC x)(r:∀H,RV i.K H v x):PE X e (tE X i Φ<|.glob y v) :=
 h.imp λσ H Q ⟨env,G,Qm,Em,p,w,c⟩=>by exact c v G H x (fm.refl H) p.hp (r H) w
variable {a:gf.E}
def two{b:gf.E}{env:gf.Env}{F:gf.Val->gf.Val->gf.Hs->Prop}{R:V->V->Hp->Prop}(p:Pre X i σ H env G Em)
  (w:gf.wE Φ a env G (λv G1=>gf.wE Φ b env G1 (λu G2=>F v u G2) Em) Em)
  (h:∀v u G2 H2 x y,fm H H2->Pre X i σ H2 env G2 Em->RV i.K H2 v x->RV i.K H2 u y->F v u G2->R x y H2):tE X i Φ a σ H λx H1=>tE X i Φ b σ H1 λy H2=>R x y H2 :=
 ⟨env,G,_,Em,p,w,λv G1 H1 x k1 g1 r1 w1=>⟨env,G1,_,Em,p.go k1 g1,w1,λu G2 H2 y k2 g2 r2 w2=>h v u G2 H2 x y (k1.trans k2) ((p.go k1 g1).go k2 g2) (r1.keep k2) r2 w2⟩⟩
def one{env:gf.Env}{F:gf.Val->gf.Hs->Prop}{R:V->Hp->Prop}(p:Pre X i σ H env G Em)
  (w:gf.wE Φ a env G (λv G1=>F v G1) Em) (h:∀v G1 H1 x,fm H H1->Pre X i σ H1 env G1 Em->RV i.K H1 v x->F v G1->R x H1):tE X i Φ a σ H λx H1=>R x H1 :=
 ⟨env,G,_,Em,p,w,λv G1 H1 x k1 g1 r1 w1=>h v G1 H1 x k1 (p.go k1 g1) r1 w1⟩
abbrev Je(i:Inf)(op:gf.Bop)(r:R2):Prop:=∀(v u:gf.Val) (G:gf.Hs) (H:Hp) (x y:V) (Q:VK) (Qm:gf.Q1),RH i G H->RV i.K H v x->RV i.K H u y->(gf.binV G op v u).wp G Qm->Cn i H Q Qm->r x y H Q
variable {b:Expr} {ma:gf.E} {mb:gf.E} {r:R2}
def Kr{a:Expr}{op:Ϝ}{bop:gf.Bop}(ho:OpR X (ŏ op) r)(hr:Je i bop r)(ha:PE X a<|tE X i Φ ma)(hb:PE X b<|tE X i Φ mb):PE X (.BinOp a op b ç) (tE X i Φ<|.bin bop ma mb) :=
 (Pp ho ha hb).imp λσ H Q ⟨env,G,Qm,Em,p,w,c⟩=>by exact two p w λv u G2 H2 x y k2 p2 rx ry q=>hr v u G2 H2 x y Q Qm p2.hp rx ry q<|c.go k2
abbrev Z5(i:Inf)(op:gf.Cop)(r:R2):Prop:=∀(v u:gf.Val) (G:gf.Hs) (H:Hp) (x y:V) (c:Bool) (Q:VK),RH i G H->RV i.K H v x->RV i.K H u y->gf.fi G op v u=eL c->Q (.bl c) H->r x y H Q
variable {op:cq} {cop:gf.Cop}
def Qv{a:Expr}(ho:OpR X (ë op) r)(hr:Z5 i cop r)(ha:PE X a<|tE X i Φ ma)(hb:PE X b<|tE X i Φ mb)(hm:Ņ op b=eP):PE X (.Compare a [op] [b] ç) (tE X i Φ<|.cmp cop ma mb) :=
 (Uj ho ha hb hm).imp λσ H Q ⟨env,G,Qm,Em,p,w,c⟩=>by
  exact two p w λv u G2 H2 x y k2 p2 rx ry q=>by obtain⟨d,e,q⟩:=eU q;exact hr v u G2 H2 x y d Q p2.hp rx ry e<|c (.bl d) G2 H2 (.bl d) k2 p2.hp (.bl d) q
def IK{a:Expr}(ho:OpR X (ë op) r)(hr:Z5 i cop r)(ha:PE X a<|tE X i Φ ma)(hb:PE X b<|tE X i Φ mb)(hm:Ņ op b=eP):PT X (.Compare a [op] [b] ç) (tTt X i Φ<|.val<|.cmp cop ma mb) :=
 (OS ho ha hb hm).imp λσ H Q ⟨env,G,Qm,Em,p,w,c⟩=>by
  exact two p w λv u G2 H2 x y k2 p2 rx ry q=>by obtain⟨d,e,q⟩:=eU q;obtain⟨d',e',q⟩:=eU q;cases e';exact hr v u G2 H2 x y d _ p2.hp rx ry e ⟨d,rfl,c d G2 H2 k2 p2.hp q⟩
def Wi{v:gf.Val}{b:Bool}(h:gf.f9 v=eL b):v=.bl b:=by cases v<;>simp_all [gf.f9]
def ZR{v:gf.Val}{b:Int}(h:gf.f8 v=eL b):v=.int b:=by cases v<;>simp_all [gf.f8]
def JL{v:gf.Val}{b:gf.Ad}(h:gf.fA v=eL b):v=.ref b:=by cases v<;>simp_all [gf.fA]
def RV.bl_inv{K:Frag}{b:Bool}(r:RV K H (.bl b) x):x=.bl b:=by cases r;rfl
def RV.int_inv{K:Frag}{b:Int}(r:RV K H (.int b) x):x=.int b:=by cases r;rfl
def RV.ref_inv{K:Frag}{b:È}(r:RV K H (.ref b) x):x=.ref b:=by cases r;rfl
def RV.str_inv{K:Frag}{b:String}(r:RV K H (.str b) x):x=.str (gu b):=by cases r;rfl
def RV.non_inv{K:Frag}(r:RV K H .non x):x=.non:=by cases r;rfl
def Qh{a:Expr}(ha:PE X a<|tE X i Φ ma):PE X (.UnaryOp .Not a ç) (tE X i Φ<|.not ma) :=
 (HL ha).imp λσ H Q ⟨env,G,Qm,Em,p,w,c⟩=>by
  exact one p w λv G1 H1 x k1 p1 r q=>by obtain⟨b,e,q2⟩:=eU q;clear q;cases Wi e;exact⟨b,r.bl_inv,c _ G1 H1 _ k1 p1.hp (.bl _) q2⟩
def LX{a:Expr}(ha:PE X a<|tE X i Φ ma):PE X (.UnaryOp .USub a ç) (tE X i Φ<|.neg ma) :=
 (P2 Ir ha).imp λσ H Q ⟨env,G,Qm,Em,p,w,c⟩=>by
  exact one p w λv G1 H1 x k1 p1 r q=>by obtain⟨b,e,q2⟩:=eU q;clear q;cases ZR e;exact⟨b,r.int_inv,c _ G1 H1 _ k1 p1.hp (.int _) q2⟩
def Pu{a:Expr}{rest:List Expr}(ha:PE X a<|tE X i Φ ma)(hb:PE X (.BoolOp .And (b::rest) ç)<|tE X i Φ mb):PE X (.BoolOp .And (a::b::rest) ç) (tE X i Φ<|.and ma mb) :=
 (GG ha hb).imp λσ H Q ⟨env,G,Qm,Em,p,w,c⟩=>by
  exact one p w λv G1 H1 x k1 p1 r q=>by
   obtain⟨d,e,q2⟩:=eU q;clear q;cases Wi e;refine⟨d,r.bl_inv,?_⟩;cases d with
   |true=>exact⟨env,G1,Qm,Em,p1,by simpa using q2,c.go k1⟩
   |false=>simp at q2 ⊢;exact c _ G1 H1 _ k1 p1.hp (.bl _) q2
def QQ{a:Expr}{rest:List Expr}(ha:PE X a<|tE X i Φ ma)(hb:PE X (.BoolOp .Or (b::rest) ç)<|tE X i Φ mb):PE X (.BoolOp .Or (a::b::rest) ç) (tE X i Φ<|.or ma mb) :=
 (L4 ha hb).imp λσ H Q ⟨env,G,Qm,Em,p,w,c⟩=>by
  exact one p w λv G1 H1 x k1 p1 r q=>by
   obtain⟨d,e,q2⟩:=eU q;clear q;cases Wi e;refine⟨d,r.bl_inv,?_⟩;cases d with
   |false=>exact⟨env,G1,Qm,Em,p1,by simpa using q2,c.go k1⟩
   |true=>simp at q2 ⊢;exact c _ G1 H1 _ k1 p1.hp (.bl _) q2
def Hi{a:Expr}{ma:gf.Tt}(ha:PT X a<|tTt X i Φ ma):PT X (.UnaryOp .Not a ç) (tTt X i Φ<|.not ma) :=
 (Hg ha).imp λσ H Q ⟨env,G,Qm,Em,p,w,c⟩=>by exact⟨env,G,_,Em,p,w,λb G1 H1 k1 g1 q=>c (!b) G1 H1 k1 g1 q⟩
def GK{a:Expr}{rest:List Expr}{ma mb:gf.Tt}(ha:PT X a<|tTt X i Φ ma)(hb:PW X (.BoolOp .And (b::rest) ç)<|tTt X i Φ mb):PW X (.BoolOp .And (a::b::rest) ç) (tTt X i Φ<|.and ma mb) :=
 (GO ha hb).imp λσ H Q ⟨env,G,Qm,Em,p,w,c⟩=>by
  refine⟨env,G,_,Em,p,w,λd G1 H1 k1 g1 q=>?_⟩;cases d with
  |true=>exact⟨env,G1,Qm,Em,p.go k1 g1,by simpa using q,λb G2 H2 k2=>c b G2 H2<|k1.trans k2⟩
  |false=>simp at q ⊢;exact c eP G1 H1 k1 g1 q
def Ql{a:Expr}{rest:List Expr}{ma mb:gf.Tt}(ha:PT X a<|tTt X i Φ ma)(hb:PW X (.BoolOp .Or (b::rest) ç)<|tTt X i Φ mb):PW X (.BoolOp .Or (a::b::rest) ç) (tTt X i Φ<|.or ma mb) :=
 (LL ha hb).imp λσ H Q ⟨env,G,Qm,Em,p,w,c⟩=>by
  refine⟨env,G,_,Em,p,w,λd G1 H1 k1 g1 q=>?_⟩;cases d with
  |false=>exact⟨env,G1,Qm,Em,p.go k1 g1,by simpa using q,λb G2 H2 k2=>c b G2 H2<|k1.trans k2⟩
  |true=>simp at q ⊢;exact c eN G1 H1 k1 g1 q
def DV{a:Expr}{ma:gf.Tt}(ha:PT X a<|tTt X i Φ ma):PW X (.BoolOp .And [a] ç)<|tTt X i Φ ma:=EH ha
def Lp{a:Expr}{ma:gf.Tt}(ha:PT X a<|tTt X i Φ ma):PW X (.BoolOp .Or [a] ç)<|tTt X i Φ ma:=Ld ha
def Qc{c a:Expr}{mc:gf.Tt}(hc:PT X c<|tTt X i Φ mc)(ha:PE X a<|tE X i Φ ma)(hb:PE X b<|tE X i Φ mb):PE X (.IfExp c a b ç) (tE X i Φ<|.ife mc ma mb) :=
 (CY hc ha hb).imp λσ H Q ⟨env,G,Qm,Em,p,w,c⟩=>by
  refine⟨env,G,_,Em,p,w,λd G1 H1 k1 g1 q=>?_⟩;cases d with
  |true=>exact⟨env,G1,Qm,Em,p.go k1 g1,by simpa using q,c.go k1⟩
  |false=>exact⟨env,G1,Qm,Em,p.go k1 g1,by simpa using q,c.go k1⟩
def GV:PA X []<|tAr X i Φ .nil 0:=fV.imp λσ H Q ⟨env,G,Qm,Em,p,w,c⟩=>by exact c [] G H [] (fm.refl H) p.hp .nil rfl w
def Fm{m:gf.E}{ms:gf.Es}{n:Nat}(he:PE X e<|tE X i Φ m)(hes:PA X es<|tAr X i Φ ms n)(hs:Ð (e::es) X.env=(eP,eval e X.env)::Ð es X.env):PA X (e::es) (tAr X i Φ (.cons m ms)<|n+1) :=
 (YD he hes hs).imp λσ H Q ⟨env,G,Qm,Em,p,w,c⟩=>by exact⟨env,G,_,Em,p,w,λv G1 H1 x k1 g1 r1 w1=>⟨env,G1,_,Em,p.go k1 g1,w1,λvs G2 H2 xs k2 g2 r2 hn w2=>c (v::vs) G2 H2 (x::xs) (k1.trans k2) g2 (.cons (r1.keep k2) r2) (by rw[Ë,hn]) w2⟩⟩
def ZM:gf.lim<=Ø:=by decide
def Yl{o:gf.Ob}{u:HO}(g:RH i G H)(w:gf.new G o Qm)(c:Cn i H Q Qm)(r:∀p,H p=eM->RO i (upd H p u) p o):∀p,H p=eM->Q (.ref p) (upd H p u):=λp hp=>by unfold gf.new at w;exact c (.ref p) _ _ (.ref p) (fm.new hp) (g.put (fm.new hp)<|r p hp) (.ref p) (w p<|g.free hp)
end Snd
namespace HT2
open PySem PySem.Spec PyProof.Rows L2
abbrev Z7:List Int->List Int->Bool
 |[],[]=>eP
 |[],_::_=>eP
 |_::_,[]=>eN
 |x::xs,y::ys=>if x=y then Z7 xs ys else gq (x > y)
def BA(A:ā)(s:Ä)(a:Int)(t:Tok)(c:Int)(u:Tok)(prog:ß)(w:ñ)(E:Â->Ä->Prop)(Q:Â->Ä->Prop)(h:Q (.bool<|gq (a > c)) s) :
  wpAny (Ù prog w) A (richCompare .Gt (.int a t)<|.int c u) Q E s :=
 (PyProof.Rows.gt_int h:wpAny (Ù prog w) A (ë .Gt (.int a t)<|.int c u) Q E s)
section
open PySem.SeqAt
open PySem.AutoSeq1 (wpAny_loadPart')
open PySem.MeetsSeq PySem.MeetsSeq2 PySem.MeetsSeq3
def JY(l b:È)(items ŉ:Array Â)(n n2:Nat)(dd cZ:Option È)(sl d0:Array<|Option Â)(ns ms:List Int)(hi:ù items.toList ns)(hj:ù ŉ.toList ms) :
  Meets (Builtin.«tuple.__gt__» ⟨[.ref l,.ref b],[]⟩)
   (λ_ R s=>s.heap.get? l=eL { cls:=.type "tuple",dict:=dd,data:=.seq items n,slots:=sl }/\s.heap.get? b=eL { cls:=.type "tuple",dict:=cZ,data:=.seq ŉ n2,slots:=d0 }/\
     R (.ok<|.ret<|.bool<|Z7 ns ms) s) :=
 .of_wp λprog w A R s h=>by
  obtain⟨hp,g,d,tk,os⟩:=s;obtain⟨hl,hb,h⟩:=h;have f2:=AutoSeq1.sub_tuple_tuple;have z1:items.size=ns.length:=by rw[<-hi.length];simp
  have z2:ŉ.size=ms.length:=by rw[<-hj.length];simp
  wp_walk using Ĝ hl,Ĝ hb,wpAny_forIn_list _ (λrest b s'=>b.1=eM/\s'=⟨hp,g,d,tk,os⟩/\∃(vs ws:List Â) (cg dA:List Int),rest=vs.zip ws/\
    ù vs cg/\ù ws dA/\cg.length+ŉ.size=dA.length+items.size/\R (.ok<|.ret<|.bool<|Z7 cg dA) ⟨hp,g,d,tk,os⟩) _
  case turn =>
   rintro⟨y,x⟩ rest b s' ⟨aU,rfl,vs,ws,cg,dA,hz,hvi,hwi,Ē,hR⟩;cases hvi with
   |nil=>rw[Ο]at hz;cases hz
   |cons a t hvi' =>
    cases hwi with
    |nil=>rw[Γ]at hz;cases hz
    |cons c u hwi' =>
     rw[œ]at hz;injection hz with hyx hrest;injection hyx with hy hx;subst hy hx;rw[Z7]at hR;simp only[Ë]at Ē;obtain⟨e,he,hiff⟩:=HT.eqAt_int A.in1 ⟨hp,g,d,tk,os⟩ a t c u;refine À<|he prog w _ _ ?_;cases e with
     |true =>
      rw[gg<|hiff.mp rfl]at hR
      wp_walk
      exact⟨rfl,rfl,_,_,_,_,hrest,hvi',hwi',by lia,hR⟩
     |false =>
      rw[gh λq=>gp (hiff.mpr q) ü]at hR;have hri:=BA A.in1 ⟨hp,g,d,tk,os⟩ a t c u prog w
      wp_walk using hri
      exact⟨_,rfl,by simpa using hR⟩
  case fin =>
   rintro⟨b1,b2⟩ s' ⟨aU,rfl,vs,ws,cg,dA,hz,hvi,hwi,Ē,hR⟩;simp only at aU;subst aU;have hv:Z7 cg dA=gq (items.size > ŉ.size):=by
    cases hvi with
    |nil =>
     cases hwi with
     |nil =>simp only[Ę]at Ē;rw[Z7];exact(gj<|by lia).symm
     |cons c u hw =>simp only[Ę,Ë]at Ē;rw[Z7];exact(gj<|by lia).symm
    |cons a t hv =>
     cases hwi with
     |nil =>simp only[Ę,Ë]at Ē;rw[Z7];exact(gk<|by lia).symm
     |cons c u hw =>rw[œ]at hz;cases hz
   rw[hv]at hR
   wp_walk
   exact⟨_,rfl,by simpa[Builtin.Tuple.tupleCompareSizes]using hR⟩
  case h =>exact⟨rfl,rfl,items.toList,ŉ.toList,ns,ms,rfl,hi,hj,by lia,h⟩
end
def Oa{prog:ß}{w:ñ}{A:ā}{E:Â->Ä->Prop}{s:Ä}{l b:È}{items ŉ:Array Â}{ns ms:List Int}{Q:Â->Ä->Prop}(hl:ay s.heap l items)(hb:ay s.heap b ŉ)(hi:ù items.toList ns)(hj:ù ŉ.toList ms)
  (hu:A.units<Ĩ) (h:Q (.bool<|Z7 ns ms) s):wpAny (Ù prog w) A (ë .Gt (.ref l)<|.ref b) Q E s:=by
 obtain⟨⟨cls,dd,data,sl⟩,ho,hc,n,hd⟩:=id hl;obtain⟨⟨cls2,cZ,data2,d0⟩,ho2,hc2,n2,cM⟩:=id hb;simp only at hc hd hc2 cM;subst hc hd hc2 cM;exact d9 (op:=.Gt) ⟨_,ho,rfl⟩ ⟨_,ho2,rfl⟩ PySem.F.slot_tuple_gt PySem.F.entry_tuple_gt (PySem.F.args_tuple_gt_2 _ _) (JY l b items ŉ n n2 dd cZ sl d0 ns ms hi hj)
  ⟨ho,ho2,show Value.bool (Z7 ns ms)≠cu/\Q (.bool<|Z7 ns ms) s from ⟨(λx=>nomatch x),h⟩⟩ hu
abbrev rGtT(K:Frag):R2:=λx y H Q=>∃a b ns ms,x=.ref a/\y=.ref b/\fY K H a (ns.map V.int)/\fY K H b (ms.map V.int)/\Q (.bl<|Z7 ns ms) H
def op_gtT{X:Cx}(hu:X.A.units<Ĩ):OpR X (ë .Gt)<|rGtT X.K:=by intro Á s σ H x y v u Q I rx ry h;obtain⟨a,b,ns,ms,rfl,rfl,ha,hb,q⟩:=h;cases rx;cases ry;obtain⟨ò,r1,p1,_⟩:=I.tuple ha;obtain⟨bE,r2,p2,_⟩:=I.tuple hb;have i1:ù ò.toArray.toList ns:=ZE r1;have i2:ù bE.toArray.toList ms:=ZE r2;exact Oa p1 p2 i1 i2 hu ⟨.bl<|Z7 ns ms,H,I,rfl,q⟩
def lexGt_lt:∀(ns ms:List Int),Z7 ns ms=HT.lexLt ms ns
 |[],[]=>rfl
 |[],_::_=>rfl
 |_::_,[]=>rfl
 |x::xs,y::ys=>by
  rw[Z7,HT.lexLt_cons,lexGt_lt xs ys];by_cases e:x=y
  .rw[gg e,gg e.symm]
  .rw[gh e,gh λz=>e z.symm]
end HT2
namespace Snd
open PySem L2
mutual
noncomputable def toD:gf.D->Ũ
 |.non=>.none
 |.bl b=>.bool b
 |.int i=>.int i
 |.str s=>.str<|gu s
 |.tup ds=>.tuple<|toDs ds
 |.lst ds=>.list<|toDs ds
noncomputable def toDs:List gf.D->List Ũ
 |[]=>[]
 |d::ds=>toD d::toDs ds
end
def ofS_inj{s t:String}:gu s=gu t↔s=t:=by
 constructor
 .intro h;rw[Str.ofString_eq_toList,Str.ofString_eq_toList]at h;injection h with h;have h2:s.toList.map ŧ=t.toList.map ŧ:=by simpa using congrArg bR h
  have inj:∀{a b:Char},a.toNat=b.toNat->a=b:=λ{a b} e=>Char.ext<|bK e;have:s.toList=t.toList:=by
   revert h2;generalize s.toList=a;generalize t.toList=b;intro h2;induction a generalizing b with
   |nil=>cases b with
    |nil=>rfl
    |cons _ _=>cases h2
   |cons x xs ih=>cases b with
    |nil=>cases h2
    |cons y ys =>simp only[Ï,List.cons.injEq]at h2;rw[inj h2.1,ih _ h2.2]
  exact String.toList_inj.mp this
 .rintro rfl;rfl
def EE(s t:String):(gu s==gu t)=(s==t):=by
 by_cases e:s=t
 .subst e;simp
 .have:gu s≠gu t:=λz=>e<|ofS_inj.mp z;rw[beq_eq_false_iff_ne.mpr this,beq_eq_false_iff_ne.mpr e]
def AK(s:String):PyData.strOk (gu s)=eN:=by
 rw[Str.ofString_eq_toList];unfold PyData.strOk;rw[Array.all_eq_true'];intro n hn;have:n∈s.toList.map ŧ:=by simpa using hn
 obtain⟨c,_,rfl⟩:=Û.mp this;have:=c.valid;have h2:c.toNat=c.val.toNat:=rfl;simp only[UInt32.isValidChar,Nat.isValidChar]at this;simp only[gm];lia
mutual
theorem K0:∀d e:gf.D,Ī (toD d) (toD e)=gf.D.eqv d e
 |.non,e=>by cases e<;>simp[toD,Ī,gf.D.eqv]
 |.bl _,e=>by cases e<;>simp[toD,Ī,gf.D.eqv]
 |.int _,e=>by cases e<;>simp[toD,Ī,gf.D.eqv]
 |.str s,e=>by cases e<;>simp only[toD,Ī,gf.D.eqv];exact EE _ _
 |.tup ds,e=>by cases e<;>simp only[toD,Ī,gf.D.eqv];exact toDs_eqv _ _
 |.lst ds,e=>by cases e<;>simp only[toD,Ī,gf.D.eqv];exact toDs_eqv _ _
theorem toDs_eqv:∀ds es:List gf.D,Ν (toDs ds) (toDs es)=gf.D.eqvs ds es
 |[],[]=>by simp[toDs,Ν,gf.D.eqvs]
 |[],_::_=>by simp[toDs,Ν,gf.D.eqvs]
 |_::_,[]=>by simp[toDs,Ν,gf.D.eqvs]
 |d::ds,e::es=>by simp only[toDs,Ν,gf.D.eqvs,K0 d e,toDs_eqv ds es]
end
mutual
theorem K5:∀d:gf.D,(toD d).canLay0=eN
 |.non=>by simp[toD,Ŷ]
 |.bl _=>by simp[toD,Ŷ]
 |.int _=>by simp[toD,Ŷ]
 |.str s=>by simp only[toD,Ŷ];exact AK s
 |.tup ds=>by simp only[toD,Ŷ];exact toDs_lay ds
 |.lst ds=>by simp only[toD,Ŷ];exact toDs_lay ds
theorem toDs_lay:∀ds:List gf.D,Ř (toDs ds)=eN
 |[]=>by simp[toDs,Ř]
 |d::ds=>by simp only[toDs,Ř,K5 d,toDs_lay ds,Bool.and_self]
end
section
variable {i:Inf}{G:gf.Hs}{H:Hp}
def Aa{α β:Type}{f:α->Option β}:∀{xs:List α}{ys:List β},xs.mapM f=eL ys->List.length xs=ys.length/\∀(n:Nat) (x:α),xs[n]?=eL x->∃y,ys[n]?=eL y/\f x=eL y:=by
 intro xs;induction xs with
 |nil=>intro ys h;simp at h;subst h;exact⟨rfl,λn x e=>by simp at e⟩
 |cons a as ih =>
  intro ys h;rw[bf]at h;cases e:f a with
  |none=>rw[e]at h;simp at h
  |some b =>
   rw[e]at h;cases e2:as.mapM f with
   |none=>rw[e2]at h;simp at h
   |some bs =>
    rw[e2]at h;simp at h;subst h;obtain⟨h1,h2⟩:=ih e2;refine⟨by simp[h1],λn x hn=>?_⟩;cases n with
    |zero=>simp at hn;subst hn;exact⟨b,rfl,e⟩
    |succ n=>simp at hn ⊢;exact h2 n x hn
def Ua{K:Frag}{f:gf.Val->Option gf.D}(hf:∀v d x,f v=eL d->RV K H v x->IsD K H x (toD d)):∀{vs:List gf.Val}{xs:List V}{ds:List gf.D},vs.mapM f=eL ds->RVs K H vs xs->IsDs K H xs (toDs ds):=by
 intro vs;induction vs with
 |nil=>intro xs ds h r;simp at h;subst h;cases r;exact .nil
 |cons a as ih =>
  intro xs ds h r;rw[bf]at h;cases e:f a with
  |none=>rw[e]at h;simp at h
  |some b =>
   rw[e]at h;cases e2:as.mapM f with
   |none=>rw[e2]at h;simp at h
   |some bs =>
    rw[e2]at h;simp at h;subst h;cases r with
    |cons r1 r2=>exact .cons (hf a b _ e r1)<|ih e2 r2
def ZX(g:RH i G H){a:È}{xs:List gf.Val}(e:gf.fe (G a)=eL xs):∃vs,fX i.K H a vs/\RVs i.K H xs vs:=by
 cases q:G a with
 |none=>rw[q]at e;cases e
 |some o =>
  rw[q]at e;cases o with
  |lst ys=>cases e;obtain⟨vs,h,r⟩:=g a _ q;exact⟨vs,fX.of h,r⟩
  |dct _=>cases e
  |ins _ _=>cases e
  |exc _=>cases e
  |frz _=>cases e
  |dtp _=>cases e
def Ks:∀ns:List Int,toDs (ns.map gf.D.int)=ns.map PyData.int
 |[]=>by simp[toDs]
 |n::ns=>by simp only[Ï,toDs,toD,Ks ns]
def X5(g:RH i G H):∀(n:Nat) (v:gf.Val) (d:gf.D) (x:V),gf.dat G n v=eL d->RV i.K H v x->IsD i.K H x (toD d):=by
 intro n;induction n with
 |zero =>
  intro v d x e r;cases v with
  |non=>cases r;simp[gf.dat]at e;subst e;rw[toD];exact .non
  |bl b=>cases r;simp[gf.dat]at e;subst e;rw[toD];exact .bl b
  |int b=>cases r;simp[gf.dat]at e;subst e;rw[toD];exact .int b
  |str s=>cases r;simp[gf.dat]at e;subst e;rw[toD];exact .str _
  |tup xs=>simp[gf.dat]at e
  |ref a=>simp[gf.dat]at e
  |scr ns=>simp[gf.dat]at e
  |key _ _=>simp[gf.dat]at e
 |succ n ih =>
  intro v d x e r;cases v with
  |non=>cases r;simp[gf.dat]at e;subst e;rw[toD];exact .non
  |bl b=>cases r;simp[gf.dat]at e;subst e;rw[toD];exact .bl b
  |int b=>cases r;simp[gf.dat]at e;subst e;rw[toD];exact .int b
  |str s=>cases r;simp[gf.dat]at e;subst e;rw[toD];exact .str _
  |tup xs =>
   rw[gf.dat]at e;cases z:xs.mapM (gf.dat G n)with
   |none=>rw[z]at e;cases e
   |some ds =>
    rw[z]at e;cases e;cases r with
    |tup hp hr=>rw[toD];exact .tup (Zj hp)<|Ua ih z hr
  |ref a =>
   rw[gf.dat]at e;cases q:gf.fe (G a)with
   |none=>rw[q]at e;cases e
   |some xs =>
    rw[q]at e;simp only[Ĕ]at e;cases z:xs.mapM (gf.dat G n)with
    |none=>rw[z]at e;cases e
    |some ds =>rw[z]at e;cases e;cases r.ref_inv;obtain⟨vs,h1,h2⟩:=ZX g q;rw[toD];exact .lst h1<|Ua ih z h2
  |scr ns =>
   simp[gf.dat]at e;subst e;cases r with
   |scr h =>rw[toD,Ks];exact .lst (Z1 h)<|IsDs.ints ns
  |key _ _=>simp[gf.dat]at e
def Xw{n:Nat}:∀{ds:List gf.D},(∀d∈ds,(toD d).depth<=n)->ņ (toDs ds)<=n
 |[],_=>by rw[toDs];simp[ņ]
 |d::ds,h=>by rw[toDs];simp only[ņ];exact Nat.max_le.mpr ⟨h d (by simp),Xw λe he=>h e<|by simp[he]⟩
def Kj:∀(n:Nat) (v:gf.Val) (d:gf.D),gf.dat G n v=eL d->(toD d).depth<=n:=by
 have sc:∀(n:Nat) (v:gf.Val) (d:gf.D),(∀xs,v≠.tup xs)->(∀a,v≠.ref a)->(∀ns,v≠.scr ns)->gf.dat G n v=eL d->(toD d).depth<=n:=by
  intro n v d h1 h2 h3 e;cases v with
  |tup xs=>exact gp rfl<|h1 xs
  |ref a=>exact gp rfl<|h2 a
  |scr ns=>exact gp rfl<|h3 ns
  |key _ _=>cases n<;>simp[gf.dat]at e
  |_=>simp[gf.dat]at e;subst e;simp[toD,PyData.depth]
 have ms:∀(n:Nat),(∀v d,gf.dat G n v=eL d->(toD d).depth<=n)->∀(xs:List gf.Val) (ds:List gf.D),xs.mapM (gf.dat G n)=eL ds->ņ (toDs ds)<=n:=by
  intro n ih xs ds z;refine Xw λd hd=>?_;obtain⟨k,hk⟩:=cE.mp hd;obtain⟨h1,h2⟩:=Aa z;have ϙ:k<xs.length:=by rw[h1];exact(Ó.mp hk).1
  obtain⟨y,hy,hf⟩:=h2 k xs[k]<|É ϙ;rw[hk]at hy;cases hy;exact ih _ _ hf
 intro n;induction n with
 |zero =>
  intro v d e;cases v with
  |tup xs=>simp[gf.dat]at e
  |ref a=>simp[gf.dat]at e
  |scr ns=>simp[gf.dat]at e
  |_=>exact sc 0 _ d (by simp) (by simp) (by simp) e
 |succ n ih =>
  intro v d e;cases v with
  |tup xs =>
   rw[gf.dat]at e;cases z:xs.mapM (gf.dat G n)with
   |none=>rw[z]at e;cases e
   |some ds =>rw[z]at e;cases e;rw[toD];exact ώ<|ms n ih xs ds z
  |ref a =>
   rw[gf.dat]at e;cases q:gf.fe (G a)with
   |none=>rw[q]at e;cases e
   |some xs =>
    rw[q]at e;simp only[Ĕ]at e;cases z:xs.mapM (gf.dat G n)with
    |none=>rw[z]at e;cases e
    |some ds =>rw[z]at e;cases e;rw[toD];exact ώ<|ms n ih xs ds z
  |scr ns =>simp[gf.dat]at e;subst e;rw[toD];refine ώ<|Ô ?_<|Ŀ n;refine Xw λd hd=>?_;obtain⟨m,_,rfl⟩:=Û.mp hd;simp[toD,PyData.depth]
  |_=>exact sc (n+1) _ d (by simp) (by simp) (by simp) e
def Jo{v:gf.Val}{d:gf.D}(e:gf.dat G gf.deep v=eL d):SeqAt.shaped (toD d)=eN:=by show((toD d).canLay0&&gq ((toD d).depth<=64))=eN;rw[K5,gk<|Ô (Kj _ _ _ e)<|by decide];rfl
def O0(g:RH i G H){v u:gf.Val}{x y:V}{c:Bool}(rx:RV i.K H v x)(ry:RV i.K H u y)(e:gf.eqV G v u=eL c):∃d d',IsD i.K H x d/\IsD i.K H y d'/\SeqAt.shaped d=eN/\SeqAt.shaped d'=eN/\Ī d d'=c:=by
 unfold gf.eqV at e;cases z:gf.dat G gf.deep v with
 |none=>rw[z]at e;cases e
 |some d =>
  cases z2:gf.dat G gf.deep u with
  |none=>rw[z,z2]at e;cases e
  |some d' =>rw[z,z2]at e;cases e;exact⟨_,_,X5 g _ _ _ _ z rx,X5 g _ _ _ _ z2 ry,Jo z,Jo z2,K0 d d'⟩
def Ra:Z5 i .eq<|P8 i.K:=by intro v u G H x y c Q g rx ry e q;obtain⟨d,d',h1,h2,h3,h4,h5⟩:=O0 g rx ry e;exact⟨d,d',h1,h2,h3,h4,by rw[h5];exact q⟩
def Rh:Z5 i .ne<|Qt i.K:=by
 intro v u G H x y c Q g rx ry e q;have e:(gf.eqV G v u).map (!·)=eL c:=e;cases z:gf.eqV G v u with
 |none=>rw[z]at e;cases e
 |some b =>rw[z]at e;cases e;obtain⟨d,d',h1,h2,h3,h4,h5⟩:=O0 g rx ry z;exact⟨d,d',h1,h2,h3,h4,by rw[h5];exact q⟩
end
variable {i:Inf}{X:Cx}{Φ:gf.Fs}
def Zw(s:String):(gu s).length=s.length:=by rw[Str.ofString_eq_toList];show(List.map ŧ s.toList).toArray.size=_;rw[Î,Ã];first|rfl|exact b7
def K4(s t:String):gu (s++t)=gu s++gu t:=by rw[Str.ofString_eq_toList,Str.ofString_eq_toList,Str.ofString_eq_toList];show _=Str.append _ _;unfold Str.append;simp
variable {xs:List gf.Val}
def UQ{o:Option gf.Ob}(h:gf.fe o=eL xs):o=eL (.lst xs):=by
 cases o with
 |none=>cases h
 |some o=>cases o with
  |lst ys=>cases h;rfl
  |_=>cases h
variable {p:Prop}
def Zi{α:Type}[Decidable p]{o:Option α}{a:α}(e:(if p then o else eM)=eL a):p/\o=eL a:=by
 by_cases q:p
 .rw[gg q]at e;exact⟨q,e⟩
 .rw[gh q]at e;cases e
variable {h:gf.Hs} {Q:gf.Q1}
def Zp(w:gf.Rs.no.wp h Q):False:=by rw[gf.Rs.wp_no]at w;exact w
def Zs{v:gf.Val}(w:(gf.Rs.val v).wp h Q):Q v h:=by rw[gf.Rs.wp_val]at w;exact w
def Ma{o:gf.Ob}(w:(gf.Rs.new o).wp h Q):gf.new h o Q:=by rw[gf.Rs.wp_new]at w;exact w
def Wr[Decidable p]{r:gf.Rs}(w:(if p then r else .no).wp h Q):p/\r.wp h Q:=by
 by_cases e:p
 .rw[gg e]at w;exact⟨e,w⟩
 .rw[gh e]at w;exact(Zp w).elim
variable {u:gf.Val}
def WK{f:Int->Int->gf.Rs}{v:gf.Val}(w:(gf.intV f v u).wp h Q):∃i j,v=.int i/\u=.int j/\(f i j).wp h Q:=by
 cases v with
 |int i=>cases u with
  |int j=>exact⟨i,j,rfl,rfl,w⟩
  |_=>exact(Zp w).elim
 |_=>exact(Zp w).elim
abbrev GE(K:Frag):R2:=λx y H Q=>(rI0 λi j=>.int<|i+j) x y H Q\/(((Gu K x y H Q\/Gf K x y H Q)\/P5 x y H Q)\/∃i j,x=.str i/\y=.str j/\i.length+j.length<=Ø/\Q (.str<|i++j) H)
def Qz:OpR X (ŏ .Add)<|GE X.K:=op_add.or (((op_cat0.or Fa).or Lz).or OD)
def b_add:Je i .add<|GE i.K:=by
 intro v u G H x y Q Qm g rx ry w c;cases v<;>cases u<;>first|exact(Zp w).elim|skip
 case int.int a b =>
  replace w:=Zs w
  exact .inl ⟨a,b,rx.int_inv,ry.int_inv,c _ G H _ (fm.refl H) g (.int _) w⟩
 case str.str a b =>
  obtain⟨h,w⟩:=Wr w
  replace w:=Zs w
  refine .inr<|.inr ⟨_,_,rx.str_inv,ry.str_inv,?_,?_⟩
  .rw[Zw,Zw];exact Ô h ZM
  .rw[<-K4];exact c _ G H _ (fm.refl H) g (.str _) w
 case tup.tup xs ys =>
  obtain⟨h,w⟩:=Wr w
  replace w:=Zs w
  .skip
   cases rx with
   |@tup _ p vs hp hr =>
   cases ry with
   |@tup _ q us hq hs =>
   by_cases h0:vs=[]
   .subst h0;have:xs=[]:=aH hr.length;subst this;exact .inr<|.inl<|.inl<|.inl ⟨p,q,us,rfl,rfl,Zj hp,Zj hq,c _ G H _ (fm.refl H) g (.tup hq hs) w⟩
   refine .inr<|.inl<|.inl<|.inr ⟨p,q,vs,us,rfl,rfl,Zj hp,Zj hq,h0,?_,λz=>?_,λz a ha=>?_⟩
   .rw[<-hr.length,<-hs.length];exact Ô h ZM
   .have:ys=[]:=aH (by rw[hs.length,z];rfl);subst this;rw[õ]at w;exact c _ G H _ (fm.refl H) g (.tup hp hr) w
   .have k:=fm.new (o:=.tup<|vs++us) ha;refine c _ G _ _ k (g.hid k λb o e=>eQ ?_) (.tup (.inl eR)<|(hr.keep k).append<|hs.keep k) w;rintro rfl;rw[g.free ha]at e;cases e
 case ref.ref a b =>
  dsimp only[gf.binV,gf.addV]at w;split at w
  .rename_i xs ys e1 e2;unfold gf.Rs.lst at w;split at w
   .rename_i hl;rw[gf.Rs.wp_new]at w;cases rx.ref_inv;cases ry.ref_inv;obtain⟨vs,h1,r1⟩:=g a _ e1;obtain⟨us,h2,r2⟩:=g b _ e2;refine .inr (.inl<|.inr ⟨a,b,vs,us,rfl,rfl,h1,h2,?_,Yl g w c λp hp=>?_⟩)
    .rw[<-r1.length,<-r2.length,<-î];exact Ô hl ZM
    .have k:=fm.new (o:=.lst<|vs++us) hp;exact⟨_,eR,(r1.keep k).append<|r2.keep k⟩
   .exact(Zp w).elim
  .exact(Zp w).elim
def b_sub:Je i .sub<|rI0 λi j=>.int<|i - j:=by intro v u G H x y Q Qm g rx ry w c;obtain⟨a,b,rfl,rfl,w⟩:=WK w;exact⟨a,b,rx.int_inv,ry.int_inv,c _ G H _ (fm.refl H) g (.int _)<|Zs w⟩
def RVs.rep{K:Frag}{H:Hp}{vs:List gf.Val}{xs:List V}(r:RVs K H vs xs):∀n,RVs K H (Ö n vs).flatten (Ö n xs).flatten
 |0=>.nil
 |n+1=>by rw[Č,Č,Ō,Ō];exact r.append<|RVs.rep r n
set_option exponentiation.threshold 2000 in
def GW{i j:Int}(h:gf.mulOk i j):IntMulOk i j:=by
 rcases h with(h|h)|⟨h1,h2⟩
 .exact .of_left (az (by lia)<|by lia)
 .exact .of_right (az (by lia)<|by lia)
 .have e:(10:Nat) ^ 200<2 ^ 1000:=by decide
  exact .of_bits (Ô (PyProof.Rows.intBits_le<|Ü h1 e)<|by decide) (Ô (PyProof.Rows.intBits_le<|Ü h2 e)<|by decide)
def DY(s:String)(n:Nat):Iz (gu s) n=gu (gf.repT s n):=by unfold Iz gf.repT;rw[Str.ofString_eq_toList,Str.ofString_eq_toList,b8];congr 1;apply ez.mp;rw[KH];simp[List.map_flatten,List.map_replicate]
abbrev Ge:R2:=λx y H Q=>rI gf.mulOk (λi j=>.int<|i*j) x y H Q\/(QB x y H Q\/F5 x y H Q)
def LI:OpR X (ŏ .Mult) Ge:=OpR.or (opI λ_ _ _ _ _ _ _ hc q=>PyProof.Rows.mul_int q<|GW hc) (op_rep.or Ek)
def b_mul:Je i .mul Ge:=by
 intro v u G H x y Q Qm g rx ry w c;cases v<;>cases u<;>first|exact(Zp w).elim|skip
 case int.int a b =>obtain⟨h,w⟩:=Wr w;exact .inl ⟨a,b,rx.int_inv,ry.int_inv,h,c _ G H _ (fm.refl H) g (.int _)<|Zs w⟩
 case ref.int a k =>
  dsimp only[gf.binV,gf.mulV]at w;split at w
  .rename_i xs e1;split at w
   .rename_i hk;unfold gf.Rs.lst at w;split at w
    .rw[gf.Rs.wp_new]at w;cases rx.ref_inv;cases ry.int_inv;obtain⟨vs,h1,r1⟩:=g a _ e1;refine .inr (.inl ⟨a,k,vs,rfl,rfl,h1,by lia,by lia,?_,Yl g w c λp hp=>?_⟩)
     .rw[<-r1.length];exact Ô hk.2.2 ZM
     .have kk:=fm.new (o:=.lst (Ö k.toNat vs).flatten) hp;exact⟨_,eR,(r1.keep kk).rep _⟩
    .exact(Zp w).elim
   .exact(Zp w).elim
  .exact(Zp w).elim
 case str.int a k =>
  obtain⟨hk,w⟩:=Wr w
  replace w:=Zs w
  refine .inr (.inr ⟨_,k,rx.str_inv,ry.int_inv,hk.1,hk.2.1,by rw[Zw];exact hk.2.2.1,by rw[Zw];exact hk.2.2.2,?_⟩);rw[DY];exact c _ G H _ (fm.refl H) g (.str _) w
def b_fdiv:Je i .fdiv<|rI Po λi j=>.int<|i / j:=by intro v u G H x y Q Qm g rx ry w c;obtain⟨a,b,rfl,rfl,w⟩:=WK w;obtain⟨h,w⟩:=Wr w;exact⟨a,b,rx.int_inv,ry.int_inv,h,c _ G H _ (fm.refl H) g (.int _)<|Zs w⟩
def b_mod:Je i .mod<|rI (λ_ j=>0<j) λi j=>.int<|i % j:=by intro v u G H x y Q Qm g rx ry w c;obtain⟨a,b,rfl,rfl,w⟩:=WK w;obtain⟨h,w⟩:=Wr w;exact⟨a,b,rx.int_inv,ry.int_inv,h,c _ G H _ (fm.refl H) g (.int _)<|Zs w⟩
def b_pow:Je i .pow<|rI PF λi j=>.int<|i ^ j.toNat:=by intro v u G H x y Q Qm g rx ry w c;obtain⟨a,b,rfl,rfl,w⟩:=WK w;obtain⟨h,w⟩:=Wr w;exact⟨a,b,rx.int_inv,ry.int_inv,h,c _ G H _ (fm.refl H) g (.int _)<|Zs w⟩
def ZG{K:Frag}{H:Hp}:∀{xs:List gf.Val}{ns:List Int}{vs:List V},gf.eX xs=eL ns->RVs K H xs vs->vs=ns.map V.int
 |[],_,_,e,r=>by cases r;cases e;rfl
 |v::xs,_,_,e,r=>by
  cases r with
  |cons r t=>cases v with
   |int k =>
    have e:(gf.eX xs).map (k :: ·)=eL _:=e;cases z:gf.eX xs with
    |none=>rw[z]at e;cases e
    |some ns=>rw[z]at e;cases e;cases r;rw[ZG z t];rfl
   |_=>cases e
def Mw:∀(ns ms:List Int),gf.fE ns ms=HT.lexLt ns ms
 |[],[]=>rfl
 |[],_::_=>rfl
 |_::_,[]=>rfl
 |x::xs,y::ys=>by rw[gf.fE,HT.lexLt_cons,Mw xs ys]
abbrev PL(K:Frag):R2:=λx y H Q=>rI0 (λi j=>.bl<|gq (i<j)) x y H Q\/PK K x y H Q
def QJ(hu:X.A.units<Ĩ):OpR X (ë .Lt)<|PL X.K:=op_lt.or (Iw hu)
abbrev LS(K:Frag):R2:=λx y H Q=>rI0 (λi j=>.bl<|gq (j<i)) x y H Q\/HT2.rGtT K x y H Q
def QY(hu:X.A.units<Ĩ):OpR X (ë .Gt)<|LS X.K:=op_gt.or (HT2.op_gtT hu)
variable {H:Hp} {x:V} {c:Bool}
def GB{K:Frag}{ys:List gf.Val}{y:V}(rx:RV K H (.tup xs) x)(ry:RV K H (.tup ys) y)(e:gf.fG (.tup xs) (.tup ys)=eL c):∃a b ns ms,x=.ref a/\y=.ref b/\fY K H a (ns.map V.int)/\fY K H b (ms.map V.int)/\HT.lexLt ns ms=c:=by
 simp only[gf.fG]at e;cases z1:gf.eX xs with
 |none=>rw[z1]at e;cases e
 |some ns =>
  cases z2:gf.eX ys with
  |none=>rw[z1,z2]at e;cases e
  |some ms =>
   rw[z1,z2]at e;cases e;cases rx with
   |@tup _ p vs hp hr =>
   cases ry with
   |@tup _ q us hq hs =>
   have h1:=ZG z1 hr;have h2:=ZG z2 hs;subst h1 h2;exact⟨p,q,ns,ms,rfl,rfl,Zj hp,Zj hq,(Mw _ _).symm⟩
def c_lt:Z5 i .lt<|PL i.K:=by
 intro v u G H x y c Q g rx ry e q
 replace e:gf.fG v u=eL c:=e
 cases v<;>cases u<;>first|(cases e;done)|skip
 case int.int a b=>cases e;exact .inl ⟨a,b,rx.int_inv,ry.int_inv,q⟩
 case tup.tup xs ys =>obtain⟨a,b,ns,ms,h1,h2,h3,h4,h5⟩:=GB rx ry e;exact .inr ⟨a,b,ns,ms,h1,h2,h3,h4,by rw[h5];exact q⟩
def c_gt:Z5 i .gt<|LS i.K:=by
 intro v u G H x y c Q g rx ry e q
 replace e:gf.fG u v=eL c:=e
 cases v<;>cases u<;>first|(cases e;done)|skip
 case int.int a b=>cases e;exact .inl ⟨a,b,rx.int_inv,ry.int_inv,q⟩
 case tup.tup xs ys =>obtain⟨a,b,ns,ms,h1,h2,h3,h4,h5⟩:=GB ry rx e;exact .inr ⟨b,a,ms,ns,h2,h1,h4,h3,by rw[HT2.lexGt_lt,h5];exact q⟩
def Gq{v:gf.Val}(e:gf.leV v u=eL c):∃i j,v=.int i/\u=.int j/\gq (i<=j)=c:=by
 cases v with
 |int i=>cases u with
  |int j=>cases e;exact⟨i,j,rfl,rfl,rfl⟩
  |_=>cases e
 |_=>cases e
def c_le:Z5 i .le<|rI0 λi j=>.bl<|gq (i<=j):=by intro v u G H x y c Q g rx ry e q;obtain⟨a,b,rfl,rfl,rfl⟩:=Gq e;exact⟨a,b,rx.int_inv,ry.int_inv,q⟩
def c_ge:Z5 i .ge<|rI0 λi j=>.bl<|gq (j<=i):=by intro v u G H x y c Q g rx ry e q;obtain⟨a,b,rfl,rfl,rfl⟩:=Gq e;exact⟨b,a,rx.int_inv,ry.int_inv,q⟩
def RV.isN{K:Frag}{v:gf.Val}(r:RV K H v x):gq (x=.non)=gq (v=.non):=by cases r<;>simp
variable {a:Expr} {ma:gf.E} {ç:Pos} {p2:Pos} {j:Nat}
def Qa(ha:PE X a<|tE X i Φ ma):PE X (.Compare a [.Is] [.Constant .none j p2] ç) (tE X i Φ<|.cmp .is ma<|.cst .non) :=
 (A8 (DL ha) rfl).imp λσ H Q ⟨env,G,Qm,Em,p,w,c⟩=>by refine one p w λv G1 H1 x k1 p1 r q=>?_;obtain⟨d,e,q2⟩:=eU q;have e:eL (gq (v=.non))=eL d:=e;cases e;rw[r.isN];exact c _ G1 H1 _ k1 p1.hp (.bl _) q2
def HJ(ha:PE X a<|tE X i Φ ma):PE X (.Compare a [.IsNot] [.Constant .none j p2] ç) (tE X i Φ<|.cmp .isnot ma<|.cst .non) :=
 (A8 (OR ha) rfl).imp λσ H Q ⟨env,G,Qm,Em,p,w,c⟩=>by refine one p w λv G1 H1 x k1 p1 r q=>?_;obtain⟨d,e,q2⟩:=eU q;have e:eL (!gq (v=.non))=eL d:=e;cases e;rw[r.isN];exact c _ G1 H1 _ k1 p1.hp (.bl _) q2
def IG(ha:PE X a<|tE X i Φ ma):PT X (.Compare a [.Is] [.Constant .none j p2] ç) (tTt X i Φ<|.val<|.cmp .is ma<|.cst .non) :=
 (Cv (DL ha) rfl).imp λσ H Q ⟨env,G,Qm,Em,p,w,c⟩=>by refine one p w λv G1 H1 x k1 p1 r q=>?_;obtain⟨d,e,q2⟩:=eU q;obtain⟨d',e',q3⟩:=eU q2;cases e';have e:eL (gq (v=.non))=eL d:=e;cases e;rw[r.isN];exact⟨_,rfl,c _ G1 H1 k1 p1.hp q3⟩
def Ej(ha:PE X a<|tE X i Φ ma):PT X (.Compare a [.IsNot] [.Constant .none j p2] ç) (tTt X i Φ<|.val<|.cmp .isnot ma<|.cst .non) :=
 (Cv (OR ha) rfl).imp λσ H Q ⟨env,G,Qm,Em,p,w,c⟩=>by refine one p w λv G1 H1 x k1 p1 r q=>?_;obtain⟨d,e,q2⟩:=eU q;obtain⟨d',e',q3⟩:=eU q2;cases e';have e:eL (!gq (v=.non))=eL d:=e;cases e;rw[r.isN];exact⟨_,rfl,c _ G1 H1 k1 p1.hp q3⟩
end Snd
namespace Snd
open PySem L2 PySem.Spec PyProof.Rows
variable {i:Inf}{X:Cx}{Φ:gf.Fs}
def RKs.length{K:Frag}{H:Hp}:∀{kvs:List (gf.Val×gf.Val)}{ps:List (Key×V)},RKs K H kvs ps->kvs.length=ps.length
 |_,_,.nil=>rfl
 |_,_,.cons _ _ t=>by rw[Ë,Ë,RKs.length t]
def WT{k j:gf.Val}{c d:Key}(a:Wv k c)(b:Wv j d):(k==j)=gq (c=d):=by
 have key:k=j↔c=d:=by
  cases k<;>cases c<;>first|(cases a;done)|skip
  .cases j<;>cases d<;>first|(cases b;done)|skip
   .cases a;cases b;simp
   .cases a;cases b;simp
  .cases j<;>cases d<;>first|(cases b;done)|skip
   .cases a;cases b;simp
   .cases a;cases b;simp[ofS_inj]
 by_cases e:k=j
 .rw[gk<|key.mp e,e];simp
 .rw[gj λz=>e<|key.mpr z];simpa using e
def fg{k:gf.Val}{x:V}{K:Frag}{H:Hp}(h:gf.fj k=eN)(r:RV K H k x):∃c,Wv k c/\x=kV c:=by
 cases k with
 |int n=>cases r.int_inv;exact⟨.inl n,rfl,rfl⟩
 |str s=>cases r.str_inv;exact⟨.inr<|gu s,rfl,rfl⟩
 |_=>cases h
def RKs.look{K:Frag}{H:Hp}{k:gf.Val}{c:Key}(a:Wv k c):∀{kvs:List (gf.Val×gf.Val)}{ps:List (Key×V)},RKs K H kvs ps->
  (∀v,gf.fo kvs k=eL v->∃x,Ym ps c=eL x/\RV K H v x)/\(gf.fo kvs k=eM->Ym ps c=eM)
 |_,_,.nil=>⟨λv e=>(by cases e),λ_=>rfl⟩
 |_,_,.cons (k:=j) (v:=u) (c:=d) (x:=y) (kvs:=kvs) (ps:=ps) b r t=>by
  have ih:=RKs.look a t;have q:=WT b a;by_cases e:d=c
  .rw[gk e]at q;have e1:gf.fo ((j,u)::kvs) k=eL u:=by simp[gf.fo,ę,q]
   rw[e1,YN e];exact⟨λv z=>(by cases z;exact⟨y,rfl,r⟩),λz=>(by cases z)⟩
  .rw[gj e]at q;have e1:gf.fo ((j,u)::kvs) k=gf.fo kvs k:=by simp[gf.fo,ę,q]
   rw[e1,YT e];exact ih
def RKs.has{K:Frag}{H:Hp}{k:gf.Val}{c:Key}(a:Wv k c):∀{kvs:List (gf.Val×gf.Val)}{ps:List (Key×V)},RKs K H kvs ps->gf.fq kvs k=ps.any λkv=>gq (kv.1=c)
 |_,_,.nil=>rfl
 |_,_,.cons b r t=>by have ih:=RKs.has a t;unfold gf.fq at ih ⊢;rw[ĳ,ĳ,ih,WT b a]
def RKs.app{K:Frag}{H:Hp}{k v:gf.Val}{c:Key}{x:V}(a:Wv k c)(q:RV K H v x):∀{kvs:List (gf.Val×gf.Val)}{ps:List (Key×V)},RKs K H kvs ps->RKs K H (kvs++[(k,v)]) (ps++[(c,x)])
 |_,_,.nil=>.cons a q .nil
 |_,_,.cons b r t=>.cons b r<|RKs.app a q t
def RKs.repl{K:Frag}{H:Hp}{k v:gf.Val}{c:Key}{x:V}(a:Wv k c)(q:RV K H v x):∀{kvs:List (gf.Val×gf.Val)}{ps:List (Key×V)},RKs K H kvs ps->
  RKs K H (kvs.map λp=>if p.1==k then(k,v)else p) (ps.map λkv=>if kv.1=c then(kv.1,x)else kv)
 |_,_,.nil=>.nil
 |_,_,.cons (k:=j) (v:=u) (c:=d) (x:=y) b r t=>by
  have ih:=RKs.repl a q t;have z:=WT b a;rw[Ï,Ï];by_cases e:d=c
  .rw[gk e]at z;rw[gg z,gg e];exact .cons (e▸a) q ih
  .rw[gj e]at z;rw[gh (by rw[z];decide),gh e];exact .cons b r ih
def RKs.put{K:Frag}{H:Hp}{k v:gf.Val}{c:Key}{x:V}(a:Wv k c)(q:RV K H v x){kvs:List (gf.Val×gf.Val)}{ps:List (Key×V)}(r:RKs K H kvs ps):RKs K H (gf.fu kvs k v)<|L2.fu ps c x:=by
 unfold gf.fu L2.fu;rw[r.has a];by_cases e:(ps.any λkv=>gq (kv.1=c))=eN
 .rw[gg e,gg e];exact r.repl a q
 .rw[gh e,gh e];exact r.app a q
def RKs.drop{K:Frag}{H:Hp}{k:gf.Val}{c:Key}(a:Wv k c):∀{kvs:List (gf.Val×gf.Val)}{ps:List (Key×V)},RKs K H kvs ps->RKs K H (gf.fv kvs k) (L2.fv ps c)
 |_,_,.nil=>.nil
 |_,_,.cons (k:=j) (v:=u) (c:=d) (x:=y) b r t=>by
  have ih:=RKs.drop a t;have z:=WT b a;unfold gf.fv L2.fv at ih ⊢;rw[ě,ě];by_cases e:d=c
  .rw[gk e]at z;rw[gh (by rw[z];decide),gh<|by simpa using e];exact ih
  .rw[gj e]at z;rw[gg (by rw[z];rfl),gg<|by simpa using e];exact .cons b r ih
variable {G:gf.Hs} {H:Hp} {a:È} {kvs':List (gf.Val×gf.Val)}
def KY{kvs:List (gf.Val×gf.Val)}{ps bZ:List (Key×V)}(g:RH i G H)(h:H a=eL (.dK ps))(r:RKs i.K H kvs' bZ):fm H (upd H a<|.dK bZ)/\RH i (gf.upd G a<|.dct kvs') (upd H a<|.dK bZ):=by
 have k:fm H<|upd H a<|.dK bZ:=fm.put (λxs e=>by rw[h]at e;cases e) λp u e=>by rw[h]at e;cases e
 exact⟨k,g.put k ⟨bZ,eR,r.keep k⟩⟩
def RTs.length{K:Frag}{H:Hp}:∀{kvs:List (gf.Val×gf.Val)}{ps:List (List Key×V)},RTs K H kvs ps->kvs.length=ps.length
 |_,_,.nil=>rfl
 |_,_,.cons _ t=>by rw[Ë,Ë,RTs.length t]
def Mf(a b i j:Int):(gf.Val.key a b == .key i j)=gq (([.inl a,.inl b]:List Key)=[.inl i,.inl j]):=by
 by_cases e:a=i/\b=j
 .obtain⟨rfl,rfl⟩:=e;rw[gk rfl];simp
 .rw[gj λz=>e<|by simpa using z];exact beq_eq_false_iff_ne.mpr λz=>e (by simpa using z)
def RTs.look{K:Frag}{H:Hp}{i j:Int}:∀{kvs:List (gf.Val×gf.Val)}{ps:List (List Key×V)},RTs K H kvs ps->
  (∀v,gf.fo kvs (.key i j)=eL v->∃x,Ym ps [.inl i,.inl j]=eL x/\RV K H v x)/\(gf.fo kvs (.key i j)=eM->Ym ps [.inl i,.inl j]=eM)
 |_,_,.nil=>⟨λv e=>(by cases e),λ_=>rfl⟩
 |_,_,.cons (i:=a) (j:=b) (v:=u) (x:=y) (kvs:=kvs) (ps:=ps) r t=>by
  have ih:=RTs.look (i:=i) (j:=j) t;have q:=Mf a b i j;by_cases e:([.inl a,.inl b]:List Key)=[.inl i,.inl j]
  .rw[gk e]at q;have e1:gf.fo ((.key a b,u)::kvs) (.key i j)=eL u:=by simp[gf.fo,ę,q]
   rw[e1,YN e];exact⟨λv z=>(by cases z;exact⟨y,rfl,r⟩),λz=>(by cases z)⟩
  .rw[gj e]at q;have e1:gf.fo ((.key a b,u)::kvs) (.key i j)=gf.fo kvs (.key i j):=by simp[gf.fo,ę,q]
   rw[e1,YT e];exact ih
def RTs.has{K:Frag}{H:Hp}{i j:Int}:∀{kvs:List (gf.Val×gf.Val)}{ps:List (List Key×V)},RTs K H kvs ps->gf.fq kvs (.key i j)=ps.any λkv=>gq (kv.1=[.inl i,.inl j])
 |_,_,.nil=>rfl
 |_,_,.cons (i:=a) (j:=b) r t=>by have ih:=RTs.has (i:=i) (j:=j) t;unfold gf.fq at ih ⊢;rw[ĳ,ĳ,ih,Mf a b i j]
def RTs.app{K:Frag}{H:Hp}{v:gf.Val}{i j:Int}{x:V}(q:RV K H v x):∀{kvs:List (gf.Val×gf.Val)}{ps:List (List Key×V)},RTs K H kvs ps->RTs K H (kvs++[(.key i j,v)]) (ps++[([.inl i,.inl j],x)])
 |_,_,.nil=>.cons q .nil
 |_,_,.cons r t=>.cons r<|RTs.app q t
def RTs.repl{K:Frag}{H:Hp}{v:gf.Val}{i j:Int}{x:V}(q:RV K H v x):∀{kvs:List (gf.Val×gf.Val)}{ps:List (List Key×V)},RTs K H kvs ps->
  RTs K H (kvs.map λp=>if p.1 == .key i j then(.key i j,v)else p) (ps.map λkv=>if kv.1=[.inl i,.inl j]then(kv.1,x)else kv)
 |_,_,.nil=>.nil
 |_,_,.cons (i:=a) (j:=b) (v:=u) (x:=y) r t=>by
  have ih:=RTs.repl (i:=i) (j:=j) q t;have z:=Mf a b i j;rw[Ï,Ï];by_cases e:([.inl a,.inl b]:List Key)=[.inl i,.inl j]
  .rw[gk e]at z;simp only[z,if_true,e];exact .cons q ih
  .rw[gj e]at z;simp only[z,e,if_false,ĭ];exact .cons r ih
def RTs.put{K:Frag}{H:Hp}{v:gf.Val}{i j:Int}{x:V}(q:RV K H v x){kvs:List (gf.Val×gf.Val)}{ps:List (List Key×V)}(r:RTs K H kvs ps):RTs K H (gf.fu kvs (.key i j) v)<|L2.fu ps [.inl i,.inl j] x:=by
 unfold gf.fu L2.fu;rw[r.has];by_cases e:(ps.any λkv=>gq (kv.1=[.inl i,.inl j]))=eN
 .rw[gg e,gg e];exact r.repl q
 .rw[gh e,gh e];exact r.app q
def ER{ps bZ:List (List Key×V)}(g:RH i G H)(h:H a=eL (.dT ps))(r:RTs i.K H kvs' bZ):fm H (upd H a<|.dT bZ)/\RH i (gf.upd G a<|.dtp kvs') (upd H a<|.dT bZ):=by
 have k:fm H<|upd H a<|.dT bZ:=fm.put (λxs e=>by rw[h]at e;cases e) λp u e=>by rw[h]at e;cases e
 exact⟨k,g.put k ⟨bZ,eR,r.keep k⟩⟩
def XM{k:gf.Val}{x:V}{K:Frag}{H:Hp}(h:gf.isKeyT k=eN)(r:RV K H k x):∃a b c,k=.key a b/\x=.ref c/\H c=eL (.tup<|([.inl a,.inl b]:List Key).map kV):=by
 cases k with
 |key a b=>cases r with|key e=>exact⟨a,b,_,rfl,rfl,e⟩
 |_=>cases h
abbrev AQ:R2:=λx y H Q=>∃a v,x=.ref a/\DGet H a y (eL v)/\Q v H
def Ft(hu:X.A.units+1<Ĩ):IxR X AQ:=by
 intro υ slice Á s σ H x y v u Q I rx ry h hs;obtain⟨a,z,rfl,g,q⟩:=h;cases rx;have hT:=MR I g;unfold dm;refine À ?_;rw[getitemInPython_of_ne hT.not_modules];refine À<|wpAny_specialOf hT PySem.F.slot_dict_getitem.lookup ?_;have fin:wpAny (Ù X.prog X.w) X.A (subscripted slice eP (.ref a) u) (λr aP=>wpAny (Ù X.prog X.w) X.A (letTemporaryGo υ (.ref a) r >>= λ_=>pure r) (EP X Á σ Q) X.xe aP) X.xe s:=by rw[hs];exact wpAny_operating<|Kq hu I g ry λw' s' I' be=>À<|wpAny_letTemporaryGo<|Ç ⟨_,_,I',be,q⟩
 first
  |exact Ç<|À fin
  |exact À<|Ç<|À fin
  |exact À fin
abbrev EY(b:Bool):R2:=λx y H Q=>∃a o,y=.ref a/\DGet H a x o/\Q (.bl<|b ^^ o.isSome) H
def GR(hu:X.A.units+1<Ĩ):OpR X (ë .In)<|EY eP:=by intro Á s σ H x y v u Q I rx ry h;obtain⟨a,o,rfl,g,q⟩:=h;cases ry;rw[Bool.false_xor]at q;exact Rm hu I g rx λs' I'=>⟨.bl o.isSome,_,I',rfl,q⟩
def HX(hu:X.A.units+1<Ĩ):OpR X (ë .NotIn)<|EY eN:=by intro Á s σ H x y v u Q I rx ry h;obtain⟨a,o,rfl,g,q⟩:=h;cases ry;rw[Bool.true_xor]at q;exact FA hu I g rx λs' I'=>⟨.bl (!o.isSome),_,I',rfl,q⟩
abbrev Gz:V->V->V->Hp->(Hp->Prop)->Prop:=λo y v H Q=>∃a H',o=.ref a/\DPut H a y v H'/\Q H'
def M2(hu:X.A.units+1<Ĩ):PSet X Gz:=by intro Á s σ H o y v ov iv u Q I ro ri rv h;obtain⟨a,H',rfl,g,q⟩:=h;cases ro;exact Ac hu I g ri rv λs' I'=>⟨H',I',q⟩
def PSet.or{r r':V->V->V->Hp->(Hp->Prop)->Prop}(h:PSet X r)(h':PSet X r'):PSet X λo y v H Q=>r o y v H Q\/r' o y v H Q:=by
 intro Á s σ H o y v ov iv u Q I ro ri rv q;rcases q with q|q
 .exact h Á s σ H o y v ov iv u Q I ro ri rv q
 .exact h' Á s σ H o y v ov iv u Q I ro ri rv q
end Snd
namespace Snd
open PySem L2
variable {i:Inf}{X:Cx}{Φ:gf.Fs}
def Oz(n:Nat)(k:Int):gf.ixN n k=L2.ixN n k:=rfl
variable {H:Hp} {xs:List gf.Val} {vs:List V}
def WL{K:Frag}{k:Int}{v:gf.Val}(r:RVs K H xs vs)(e:gf.atI xs k=eL v):∃x,L2.atI vs k=eL x/\RV K H v x:=by
 unfold gf.atI at e;unfold L2.atI;rw[Oz,r.length]at e;cases z:L2.ixN vs.length k with
 |none=>rw[z]at e;cases e
 |some j =>rw[z]at e;obtain⟨x,h1,h2⟩:=r.get (show xs[j]?=eL v from e);exact⟨x,h1,h2⟩
abbrev P6(i:Inf)(r:R2):Prop:=∀(v u:gf.Val) (G:gf.Hs) (H:Hp) (x y:V) (w:gf.Val) (Q:VK),RH i G H->RV i.K H v x->RV i.K H u y->gf.fH G v u=eL w->(∀z,RV i.K H w z->Q z H)->r x y H Q
variable {a:Expr} {ma:gf.E} {ç:Pos}
def Pc{b:Expr}{mb:gf.E}{r:R2}(hr:IxR X r)(ho:P6 i r)(ha:PE X a<|tE X i Φ ma)(hb:PE X b<|tE X i Φ mb)(hs:K8 b):PE X (.Subscript a b ç) (tE X i Φ<|.idx ma mb) :=
 (Qe hr ha hb hs).imp λσ H Q ⟨env,G,Qm,Em,p,w,c⟩=>by
  exact two p w λv u G2 H2 x y k2 p2 rx ry q=>by obtain⟨z,e,q⟩:=eU q;exact ho v u G2 H2 x y z Q p2.hp rx ry e λt rt=>c z G2 H2 t k2 p2.hp rt q
def FX{s:String}{k:Int}{c:Char}(e:gf.atI s.toList k=eL c):L2.atI (gu s).cps.toList k=eL c.toNat:=by
 rw[Str.ofString_eq_toList];show L2.atI (List.map ŧ s.toList).toArray.toList k=_;unfold gf.atI at e;unfold L2.atI;simp only[Ã];rw[Oz]at e;cases z:L2.ixN s.toList.length k with
 |none=>rw[z]at e;cases e
 |some j =>rw[z]at e;have e:s.toList[j]?=eL c:=e;show(List.map ŧ s.toList)[j]?=_;rw[Ý,e];rfl
def NT(c:Char):gu (al c)=⟨#[c.toNat]⟩:=by rw[Str.ofString_eq_toList];simp
abbrev Ri(K:Frag):R2:=λx y H Q=>rIx K x y H Q\/AQ x y H Q
def LJ:P6 i<|Ri i.K:=by
 intro v u G H x y w Q g rx ry e q;cases v with
 |tup xs =>
  cases u with
  |int k =>
   cases rx with
   |tup hp hr =>obtain⟨z,h1,h2⟩:=WL hr (show gf.atI xs k=eL w from e);exact .inl<|.inr<|.inl ⟨_,_,k,z,rfl,ry.int_inv,Zj hp,h1,q z h2⟩
  |_=>cases e
 |str s =>
  cases u with
  |int k =>
   simp only[gf.fH]at e;split at e
   .rename_i hl;cases z:gf.atI s.toList k with
    |none=>rw[z]at e;cases e
    |some c =>rw[z]at e;cases e;refine .inl (.inr<|.inr ⟨_,k,_,rx.str_inv,ry.int_inv,by rw[Zw];exact Ô hl ZM,FX z,?_⟩);have:=q _<|.str<|al c;rw[NT]at this;exact this
   .cases e
  |_=>cases e
 |ref a =>
  cases rx.ref_inv
  replace e:(match G a with|some (.lst xs)=>(gf.f8 u).bind (gf.atI xs)|some (.dct kvs)=>if gf.fj u then gf.fo kvs u else eM|some (.frz kvs)=>if gf.fj u then gf.fo kvs u else eM|some (.dtp kvs)=>if gf.isKeyT u then gf.fo kvs u else eM|_=>eM)=eL w:=e
  cases z:G a with
  |none=>rw[z]at e;cases e
  |some o =>
   rw[z]at e;cases o with
   |lst xs =>obtain⟨k,hk,e⟩:=ê.mp e;cases ZR hk;obtain⟨vs,h1,h2⟩:=g a _ z;obtain⟨t,h3,h4⟩:=WL h2 e;exact .inl<|.inl ⟨a,vs,k,t,rfl,ry.int_inv,fX.of h1,h3,q t h4⟩
   |dct kvs =>obtain⟨hk,e⟩:=Zi (show(if gf.fj u then gf.fo kvs u else eM)=eL w from e);obtain⟨ps,h1,h2⟩:=g a _ z;obtain⟨d,kr,rfl⟩:=fg hk ry;obtain⟨t,hx,rv⟩:=(h2.look kr).1 w e;exact .inr ⟨a,t,rfl,by rw[<-hx];exact DGet.k h1,q t rv⟩
   |frz kvs =>obtain⟨hk,e⟩:=Zi (show(if gf.fj u then gf.fo kvs u else eM)=eL w from e);obtain⟨ob,ps,h1,h2⟩:=g a _ z;obtain⟨d,kr,rfl⟩:=fg hk ry;obtain⟨t,hx,rv⟩:=(h2.look kr).1 w e;exact .inr ⟨a,t,rfl,.inl ⟨ps,d,.inr ⟨ob,h1⟩,rfl,hx.symm⟩,q t rv⟩
   |dtp kvs =>obtain⟨hk,e⟩:=Zi (show(if gf.isKeyT u then gf.fo kvs u else eM)=eL w from e);obtain⟨ps,h1,h2⟩:=g a _ z;obtain⟨k1,k2,b,rfl,rfl,hb⟩:=XM hk ry;obtain⟨t,hx,rv⟩:=(h2.look).1 w e;exact .inr ⟨a,t,rfl,by rw[<-hx];exact DGet.t h1 hb,q t rv⟩
   |_=>cases e
 |scr ns =>
  cases u with
  |int k =>
   cases rx with
   |scr h =>obtain⟨t,h3,h4⟩:=WL (RVs.ints ns) (show gf.atI (ns.map .int) k=eL w from e);exact .inl<|.inl ⟨_,_,k,t,rfl,ry.int_inv,Z1 h,h3,q t h4⟩
  |_=>cases e
 |_=>cases e
abbrev tOx(X:Cx)(i:Inf)(Φ:gf.Fs)(m:gf.Oe):TO:=λσ H Q=>∃env G Qm Em,Pre X i σ H env G Em/\gf.wO Φ m env G Qm Em/\∀k G' H',fm H H'->RH i G' H'->Qm k G'->Q k H'
def _root_.L2.PO.imp{e:Option Expr}{t t':TO}(h:PO X e t)(f:∀σ H Q,t' σ H Q->t σ H Q):PO X e t':=λÁ s σ H Q I q=>h Á s σ H Q I (f σ H Q q)
def E1:PO X eM<|tOx X i Φ .none:=po_none.imp λσ H Q ⟨env,G,Qm,Em,p,w,c⟩=>by exact c eM G H (fm.refl H) p.hp w
def Fq{e:Expr}{m:gf.E}(he:PE X e<|tE X i Φ m):PO X (eL e)<|tOx X i Φ<|.some m:=(Ew he).imp λσ H Q ⟨env,G,Qm,Em,p,w,c⟩=>by
 exact one p w λv G1 H1 x k1 p1 r q=>by obtain⟨b,e,q2⟩:=eU q;cases ZR e;exact⟨b,r.int_inv,c _ G1 H1 k1 p1.hp q2⟩
def OL{K:Frag}(r:RVs K H xs vs)(lo hi:Option Int):RVs K H (gf.cut xs lo hi)<|MB vs lo hi:=by
 have e:∀(n d:Nat) (o:Option Int),gf.fB n d o=HT.sIx n d o:=by
  intro n d o;cases o with
  |none=>rfl
  |some k =>
   show(if 0<=k then min k.toNat n else(k+n).toNat)=(if k<0 then(k+(n:Int)).toNat else min k.toNat n)
   by_cases h:k<0
   .rw[gg h,gh<|by lia]
   .rw[gh h,gg<|by lia]
 unfold gf.cut MB;rw[e,e,r.length];exact(r.drop _).take _
abbrev Qb(i:Inf)(r:V->Option Int->Option Int->Hp->VK->Prop):Prop:=∀(v:gf.Val) (lo hi:Option Int) (G:gf.Hs) (H:Hp) (x:V) (Q:VK) (Qm:gf.Q1),RH i G H->RV i.K H v x->(gf.fI G v lo hi).wp G Qm->Cn i H Q Qm->r x lo hi H Q
def Qs{lo hi:Option Expr}{ml mh:gf.Oe}{r:V->Option Int->Option Int->Hp->VK->Prop}{p2:Pos}(hr:SlR X r)(ho:Qb i r)(ha:PE X a<|tE X i Φ ma)(hl:PO X lo<|tOx X i Φ ml)(hh:PO X hi<|tOx X i Φ mh):PE X (.Subscript a (.Slice lo hi eM p2) ç) (tE X i Φ<|.slc ma ml mh) :=
 (Cy hr ha hl hh).imp λσ H Q ⟨env,G,Qm,Em,p,w,c⟩=>by
  exact⟨env,G,_,Em,p,w,λv G1 H1 x k1 g1 r1 w1=>⟨env,G1,_,Em,p.go k1 g1,w1,λl G2 H2 k2 g2 w2=>⟨env,G2,_,Em,(p.go k1 g1).go k2 g2,w2,λu G3 H3 k3 g3 w3 =>
    ho v l u G3 H3 x Q Qm g3 ((r1.keep k2).keep k3) w3 (((c.go k1).go k2).go k3)⟩⟩⟩
abbrev LO(K:Frag):V->Option Int->Option Int->Hp->VK->Prop:=λx lo hi H Q=>PP K x lo hi H Q\/Qk K x lo hi H Q\/Qx x lo hi H Q\/L0 K x lo hi H Q
def Rw:SlR X<|LO X.K:=sl_list.or (fO.or<|sl_str.or F0)
def XT(n d:Nat)(o:Option Int):gf.fB n d o=HT.sIx n d o:=by
 cases o with
 |none=>rfl
 |some k =>
  show(if 0<=k then min k.toNat n else(k+n).toNat)=(if k<0 then(k+(n:Int)).toNat else min k.toNat n)
  by_cases h:k<0
  .rw[gg h,gh<|by lia]
  .rw[gh h,gg<|by lia]
def NI(n d:Nat)(h:d<=n)(o:Option Int):gf.fB n d o<=n:=by
 cases o with
 |none=>exact h
 |some k =>show(if 0<=k then min k.toNat n else(k+n).toNat)<=n;split<;>lia
def clip_eq(n d:Nat)(h:d<=n)(o:Option Int):(match o with
    |none=>(d:Int)
    | some i=>max 0<|min (if i<0 then i+(n:Int)else i) (n:Int))=(gf.fB n d o:Int):=by
 cases o with
 |none=>rfl
 |some k =>
  show _=(((if 0<=k then min k.toNat n else(k+n).toNat):Nat):Int)
  by_cases hk:k<0
  .rw[gh<|show ¬ 0<=k by lia];simp only[hk,if_true];lia
  .rw[gg<|show 0<=k by lia];simp only[hk,if_false];lia
def Hu(n:Nat)(lo hi:Option Int):PySem.Builtin.Str.strSliceIndices lo hi 1 n=(List.range<|gf.fB n n hi - gf.fB n 0 lo).map λk=>gf.fB n 0 lo+k:=by
 have e1:=clip_eq n 0 (Ŀ _) lo;have e2:=clip_eq n n (Ì _) hi;have e3:PySem.Builtin.Str.strSliceIndices lo hi 1 n=sliceRange (gf.fB n 0 lo:Int) (gf.fB n n hi:Int) 1:=by unfold PySem.Builtin.Str.strSliceIndices;rw[<-e1,<-e2];cases lo<;>cases hi<;>rfl
 rw[e3];unfold sliceRange;have e4:(if(1:Int) > 0 then(if(gf.fB n 0 lo:Int)<(gf.fB n n hi:Int)then((gf.fB n n hi:Int) - (gf.fB n 0 lo:Int)+1 - 1) / 1 else 0)else(if(gf.fB n 0 lo:Int) > (gf.fB n n hi:Int)then((gf.fB n 0 lo:Int) - (gf.fB n n hi:Int) - 1 - 1) / (-1)else 0)).toNat=gf.fB n n hi - gf.fB n 0 lo:=by rw[gg (by decide),Int.ediv_one];split<;>lia
 show(List.range<|Int.toNat<|if(1:Int) > 0 then _ else _).map _=_;rw[e4];refine ą λk _=>?_;lia
def Fb(s:String)(lo hi:Option Int):Ah (gu s) lo hi=gu (Μ<|gf.cut s.toList lo hi):=by
 have hl:(gu s).length=s.toList.length:=by rw[Zw,b7]
 have ha:=NI s.toList.length 0 (Ŀ _) lo;have hb:=NI s.toList.length s.toList.length (Ì _) hi;have e:=Hu s.toList.length lo hi;rw[<-hl]at e;unfold Ah;rw[e];simp only[hl];have ec:(gu s).cps.toList=s.toList.map ŧ:=by rw[Str.ofString_eq_toList]
 split
 .rename_i z;rw[Ã,Τ]at z;have e0:gf.fB s.toList.length 0 lo=0\/s.toList.length=0:=by lia
  have e5:gf.cut s.toList lo hi=s.toList:=by
   unfold gf.cut;rw[z];rcases e0 with e0|e0
   .rw[e0,List.drop_zero,ĕ]
   .have:s.toList=[]:=bT.mp e0;rw[this];simp
  rw[e5,String.ofList_toList]
 .rw[Str.ofString_eq_toList<|Μ _,b8];congr 2;have e3:(λi:Nat=>(gu s).cps[i]?)=λi:Nat=>(s.toList.map ŧ)[i]?:=by
   funext i;rw[<-ec];simp
  rw[e3];by_cases hab:gf.fB s.toList.length 0 lo<=gf.fB s.toList.length s.toList.length hi
  .rw[PySem.StrLaws.picks _ _ _<|by rw[Ã];lia];unfold gf.cut;rw[List.map_take,List.map_drop]
  .have:gf.fB s.toList.length s.toList.length hi - gf.fB s.toList.length 0 lo=0:=by lia
   unfold gf.cut;rw[this];simp
def PD:Qb i<|LO i.K:=by
 intro v lo hi G H x Q Qm g r w c;cases v with
 |tup xs =>
  simp only[gf.fI]at w;split at w
  .rename_i hn;rw[gf.Rs.wp_val]at w;cases r with
   |@tup _ a vs hp hr=>exact .inr (.inr<|.inr ⟨a,vs,rfl,Zj hp,by rw[<-XT,<-XT,<-hr.length];exact hn,c _ G H _ (fm.refl H) g (.tup hp hr) w⟩)
  .rename_i hn;rw[gf.Rs.wp_val]at w;cases r with
   |@tup _ a vs hp hr =>refine .inr (.inl ⟨a,vs,rfl,Zj hp,by rw[<-XT,<-XT,<-hr.length];exact hn,λp hp'=>?_⟩);have k:=fm.new (o:=.tup<|MB vs lo hi) hp';refine c _ G _ _ k (g.hid k λb o e=>eQ ?_) (.tup (.inl eR)<|OL (hr.keep k) lo hi) w;rintro rfl;rw[g.free hp']at e;cases e
 |ref a =>
  cases r.ref_inv;simp only[gf.fI]at w;cases z:gf.fe (G a)with
  |none=>rw[z]at w;simp at w
  |some xs =>rw[z]at w;rw[gf.Rs.wp_new]at w;obtain⟨vs,h1,h2⟩:=ZX g z;exact .inl ⟨a,vs,rfl,h1,Yl g w c λp hp=>⟨_,eR,OL (h2.keep<|fm.new hp) lo hi⟩⟩
 |scr ns =>
  simp only[gf.fI,gf.Rs.wp_new]at w;cases r with
  |scr h=>exact .inl ⟨_,_,rfl,Z1 h,Yl g w c λp hp=>⟨_,eR,OL (RVs.ints ns) lo hi⟩⟩
 |str s =>
  cases r.str_inv;simp only[gf.fI]at w;split at w
  .rename_i hl;rw[gf.Rs.wp_val]at w;refine .inr (.inr <| .inl ⟨_,rfl,by rw[Zw];exact Ô hl (by decide),?_⟩);rw[Fb];exact c _ G H _ (fm.refl H) g (.str _) w
  .simp at w
 |_=>simp[gf.fI]at w
variable {H:Hp} {vs:List gf.Val} {xs:List V} {x:V}
def RVs.app1{K:Frag}{v:gf.Val}(r:RVs K H vs xs)(q:RV K H v x):RVs K H (vs++[v])<|xs++[x]:=r.append (.cons q .nil)
variable {es:List Expr} {ms:gf.Es} {n:Nat} {ç:Pos}
def PV{k:Nat}(hn:n<=1000)(h:PA X es<|tAr X i Φ ms n):PE X (.Tuple es k ç) (tE X i Φ<|.tup ms) :=
 (G8 h).imp λσ H Q ⟨env,G,Qm,Em,p,w,c⟩=>by refine⟨env,G,_,Em,p,w,λvs G1 H1 xs k1 g1 r1 hl w1=>⟨by rw[hl];exact Ô hn (by decide),λa ha=>?_⟩⟩;have k:=fm.new (o:=.tup xs) ha;refine c _ G1 _ _ (k1.trans k) (g1.hid k λb o e=>eQ ?_) (.tup (.inl eR)<|r1.keep k) w1;rintro rfl;rw[g1.free ha]at e;cases e
def L9(hn:n<=1000)(h:PA X es<|tAr X i Φ ms n):PE X (.List es ç) (tE X i Φ<|.lst ms) :=
 (Ig h).imp λσ H Q ⟨env,G,Qm,Em,p,w,c⟩=>by refine⟨env,G,_,Em,p,w,λvs G1 H1 xs k1 g1 r1 hl w1=>⟨by rw[hl];exact Ô hn (by decide),Yl g1 w1 (c.go k1) λa ha=>?_⟩⟩;exact⟨xs,eR,r1.keep<|fm.new ha⟩
abbrev fU(i:Inf)(f:gf.Bi)(r:List V->Hp->VK->Prop):Prop:=∀(vs:List gf.Val) (G:gf.Hs) (H:Hp) (xs:List V) (Q:VK) (Qm:gf.Q1),RH i G H->RVs i.K H vs xs->(gf.biV G f vs).wp G Qm->Cn i H Q Qm->r xs H Q
variable {f:gf.Bi} {r:List V->Hp->VK->Prop}
def MX(hr:fU i f r):∀σ H Q,tE X i Φ (.bi f ms) σ H Q->tCB r (tAr X i Φ ms n) σ H Q:=λσ H Q ⟨env,G,Qm,Em,p,w,c⟩=>by exact⟨env,G,_,Em,p,w,λvs G1 H1 xs k1 g1 r1 _ w1=>hr vs G1 H1 xs Q Qm g1 r1 w1<|c.go k1⟩
def RVs.inv1{K:Frag}{v:gf.Val}(r:RVs K H [v] xs):∃x,xs=[x]/\RV K H v x:=by cases r with|cons a t=>cases t;exact⟨_,rfl,a⟩
def RVs.inv2{K:Frag}{v u:gf.Val}(r:RVs K H [v,u] xs):∃x y,xs=[x,y]/\RV K H v x/\RV K H u y:=by cases r with|cons a t=>cases t with|cons b t=>cases t;exact⟨_,_,rfl,a,b⟩
def Av(s:String):(gu s).cps.toList=s.toList.map ŧ:=by rw[Str.ofString_eq_toList]
variable {h:gf.Hs} {Q:gf.Q1}
def Jx{f:gf.Val->gf.Rs}(w:(gf.ff f vs).wp h Q):∃v,vs=[v]/\(f v).wp h Q:=by
 cases vs with
 |nil=>exact(Zp w).elim
 |cons v vs=>cases vs with
  |nil=>exact⟨v,rfl,w⟩
  |cons _ _=>exact(Zp w).elim
def fU.imp{r':List V->Hp->VK->Prop}(h:fU i f r)(k:∀xs H Q,r xs H Q->r' xs H Q):fU i f r':=λvs G H xs Q Qm g rv w c=>k _ _ _ (h vs G H xs Q Qm g rv w c)
abbrev Ph(o:Option gf.Ob)(f:List gf.Val->gf.Rs):gf.Rs:=match o with
 |some (.lst xs)=>f xs
 |_=>.no
variable {o:Option gf.Ob}
def MY{f:List gf.Val->gf.Rs}(w:(Ph o f).wp h Q):∃xs,o=eL (.lst xs)/\(f xs).wp h Q:=by
 cases o with
 |none=>exact(Zp w).elim
 |some o=>cases o with
  |lst xs=>exact⟨xs,rfl,w⟩
  |_=>exact(Zp w).elim
variable {G:gf.Hs}
def EM{Q:VK}{Qm:gf.Q1}{ys:List gf.Val}{us:List V}(g:RH i G H)(r:RVs i.K H ys us)(w:Qm (.tup ys) G)(c:Cn i H Q Qm):∀l,H l=eM->Q (.ref l) (upd H l<|.tup us):=λl hl=>by have k:=fm.new (o:=.tup us) hl;refine c _ G _ _ k (g.hid k λb o e=>eQ ?_) (.tup (.inl eR)<|r.keep k) w;rintro rfl;rw[g.free hl]at e;cases e
def CO:fU i .tuple λxs H Q=>∃p ys,xs=[.ref p]/\((fX i.K H p ys/\∀l,H l=eM->Q (.ref l) (upd H l<|.tup ys))\/(fY i.K H p ys/\Q (.ref p) H)):=by
 intro vs G H xs Q Qm g r w c;obtain⟨v,rfl,w⟩:=Jx w;obtain⟨x,rfl,rx⟩:=r.inv1;cases v with
 |ref a =>cases rx.ref_inv;obtain⟨ys,e,w⟩:=MY (f:=λxs=>.val<|.tup xs) w;obtain⟨us,h1,h2⟩:=g a _ e;exact⟨a,us,rfl,.inl ⟨fX.of h1,EM g h2 (Zs w) c⟩⟩
 |tup ys =>
  cases rx with
  |tup hp hr=>exact⟨_,_,rfl,.inr ⟨Zj hp,c _ G H _ (fm.refl H) g (.tup hp hr)<|Zs w⟩⟩
 |_=>exact(Zp w).elim
abbrev kinds:List String:=["int","bool","str","list","tuple","dict"]
def E2(K:Frag):∀t∈["NoneType","bool","int","str","tuple","list","dict"],∀T∈kinds,PySem.W.kitOne K (.type t) (.type T)=eL (t==T||(t == "bool" && T == "int")):=by intro t ht T hT;simp only[kinds,Æ,Í,or_false]at ht hT;rcases ht with rfl|rfl|rfl|rfl|rfl|rfl|rfl<;>rcases hT with rfl|rfl|rfl|rfl|rfl|rfl<;>rfl
def UZ(g:RH i G H){v:gf.Val}{t:String}(r:RV i.K H v x)(e:gf.gb G v=eL t):TyV i.K H x (.type t)/\t∈["NoneType","bool","int","str","tuple","list","dict"]:=by
 cases v with
 |non=>cases r;cases e;exact⟨.of .non,by simp⟩
 |bl b=>cases r;cases e;exact⟨.of<|.bl b,by simp⟩
 |int b=>cases r;cases e;exact⟨.of<|.int b,by simp⟩
 |str b=>cases r;cases e;exact⟨.of<|.str _,by simp⟩
 |tup xs=>cases e;cases r with|tup hp hr=>exact⟨.tup<|Zj hp,by simp⟩
 |scr ns=>cases e;cases r with|scr h=>exact⟨.lst<|Z1 h,by simp⟩
 |ref a =>
  cases r.ref_inv;simp only[gf.gb]at e;cases q:G a with
  |none=>rw[q]at e;cases e
  |some o =>
   rw[q]at e;cases o with
   |lst xs=>cases e;obtain⟨vs,h1,_⟩:=g a _ q;exact⟨.lst<|fX.of h1,by simp⟩
   |dct kvs=>cases e;obtain⟨ps,h1,_⟩:=g a _ q;exact⟨.of<|.dK h1,by simp⟩
   |ins C fs=>cases e
   |exc C=>cases e
   |frz _=>cases e
   |dtp _=>cases e
 |key _ _=>cases e
def Qw{e:Expr}{m:gf.E}{T:String}{p p2:Pos}(hT:T∈kinds)(he:PE X e<|tE X i Φ m)(hk:X.K=i.K)(hg:Gl X "isinstance")(hm:X.mg "isinstance" = eM)(hg2:Gl X<|gu T)(hm2:X.mg (gu T)=eM)
  (hv2:Ű (gu T)=eL (.type T)) (hn2:gu T≠"__name__") (cM:(gu T==("__debug__" : Str))=eP) (ů:Ð [e,.Name (gu T) p2] X.env=(eP,eval e X.env)::Ð [.Name (gu T) p2] X.env) :
  PE X (.Call (.Name "isinstance" p) [e,.Name (gu T) p2] [] ç) (tE X i Φ<|.bi (.isi [T])<|.cons m .nil):=by
 refine(XG Bn hg hm (by kernel_rfl) (YD he (YD (PU (T:=T) hg2 hm2 hv2 hn2 cM) fV) ů) (he:=ů)).imp λσ H Q ⟨env,G,Qm,Em,p,w,c⟩=>?_;refine one p w λv G1 H1 x k1 p1 r q=>?_
 replace q:(gf.Rs.ofO (((gf.gc G1 v T).bind λb=>(gf.isiAny G1 v []).map (b || ·)).map .bl)).wp G1 Qm:=q
 simp only[gf.isiAny,gf.gc]at q;cases z:gf.gb G1 v with
 |none=>rw[z]at q;simp[gf.Rs.ofO]at q
 |some t =>rw[z]at q;simp only[Ŕ,Ĕ,gf.Rs.ofO,gf.Rs.wp_val,ϰ]at q;obtain⟨h1,h2⟩:=UZ p1.hp r z;refine⟨x,T,.type t,_,rfl,by rw[hk];exact h1,by rw[hk];exact E2 _ t h2 T hT,c _ G1 H1 _ k1 p1.hp (.bl _) q⟩
def OM(h:gf.isLst o=eN):∃xs,o=eL (.lst xs):=by
 cases o with
 |none=>cases h
 |some o=>cases o with
  |lst xs=>exact⟨xs,rfl⟩
  |_=>cases h
variable {a:È}
def DF{f:gf.Ad->List gf.Val->Option (gf.Val×gf.Hs)}{t:gf.Val×gf.Hs}(e:gf.bmL G (.ref a) f=eL t):∃xs,G a=eL (.lst xs)/\f a xs=eL t:=by obtain⟨xs,h1,h2⟩:=ê.mp (show(gf.fe<|G a).bind (f a)=eL t from e);exact⟨xs,UQ h1,h2⟩
def KS{xs:List gf.Val}{vs:List V}(g:RH i G H)(h:H a=eL (.lst vs))(ys:List gf.Val)(us:List V)(r:RVs i.K H ys us):fm H (upd H a<|.lst us)/\RH i (gf.upd G a<|.lst ys) (upd H a<|.lst us):=by
 have k:fm H<|upd H a<|.lst us:=fm.put (λxs e=>by rw[h]at e;cases e) λp u e=>by rw[h]at e;cases e
 exact⟨k,g.put k ⟨us,eR,r.keep k⟩⟩
abbrev spF(i:Inf)(P:gf.Pg)(n:Nat)(f:String):Sp:=λvs H Q E=>∃args G Qm Em,RVs i.K H args vs/\RH i G H/\gf.wF P n f args G Qm Em/\Cn i H Q Qm/\∀cls d H',XK1 i H Em cls d H'->E cls d H'
abbrev Dfo(pr:ß)(w:ñ)(mg:Str->Option Â)(base:þ)(i:Inf)(P:gf.Pg)(n:Nat)(f:String):Prop :=
 ∃fa fd ps,fy pr w i.K mg base (CX1 pr w) (2*n) fa fd ps (spF i P n f)/\mg (gu f)=eL (.ref fa)/\PySem.W.keepIn i.K (.ref fa)=eN/\Binds i.K fd ps []
variable {e:Expr} {es:List Expr} {ç:Pos}
def Hx{P:gf.Pg}{n k:Nat}{f:String}{ms:gf.Es}{p:Pos}(hK:X.K=i.K)(D:Dfo X.prog X.w X.mg X.base i P n f)(hr:fx (2*n) X.A)(hg:Gl X<|gu f)(ϫ:(gu f==("__debug__" : Str))=eP)
  (ha:PA X (e::es)<|tAr X i (gf.wF P n) ms k) (he:Ð (e::es) X.env=(eP,eval e X.env)::Ð es X.env) (hpl:(ċ ç<|Ð es X.env).any (·.1)=eP) :
  PE X (.Call (.Name (gu f) p) (e::es) [] ç) (tE X i (gf.wF P n)<|.call f ms):=by
 obtain⟨fa,fd,ps,F,hm,hk,hb⟩:=D;rw[<-hK]at F hk hb;intro Á s σ H Q I h;obtain⟨env,G,Qm,Em,pr,w,c⟩:=h;refine Eg (E:=XK1 i H Em) F hr hg hm hk hb .nil (XW.passes pr.xo) ha ϫ he hpl Á s σ H Q I ⟨env,G,_,Em,pr,w,λvs G1 H1 xs k1 g1 r1 hl w1=>?_⟩;exact⟨vs,G1,Qm,Em,by rw[õ];exact r1,g1,w1,c.go k1,λcls d H' h=>h.go k1⟩
abbrev XKS(i:Inf)(H:Hp)(Xe:gf.EQ):XK:=λcls _ H'=>∃e c G' ad,cls=.ref ad/\i.xc c ad/\fm H H'/\RH i G' H'/\Xe e c G'
structure PreS(X:Cx)(i:Inf)(σ:St)(H:Hp)(env:gf.Env)(G:gf.Hs)(Xe:gf.EQ):Prop where
 en:REn i.K H env σ
 hp:RH i G H
 xo:XW X<|XKS i H Xe
variable {σ:St} {H:Hp} {H1:Hp} {G:gf.Hs} {Xe:gf.EQ}
def PreS.go{σ1:St}{env env1:gf.Env}{G1:gf.Hs}(p:PreS X i σ H env G Xe)(k:fm H H1)(r:RH i G1 H1)(e:REn i.K H1 env1 σ1):PreS X i σ1 H1 env1 G1 Xe :=
 ⟨e,r,λÁ σ H0 s H' a cls s' I f ⟨e,c,G',ad,q1,q2,q3,q4⟩=>p.xo Á σ H0 s H' a cls s' I f ⟨e,c,G',ad,q1,q2,k.trans q3,q4⟩⟩
def PreS.pre{env:gf.Env}(p:PreS X i σ H env G Xe):Pre X i σ H env G (Xe env) :=
 ⟨p.en,p.hp,λÁ σ H0 s H' a cls s' I f ⟨c,G',ad,q1,q2,q3,q4⟩=>p.xo Á σ H0 s H' a cls s' I f ⟨env,c,G',ad,q1,q2,q3,q4⟩⟩
structure EOk(i:Inf)(H:Hp)(D:Ends)(N:gf.NQ)(R:gf.Q1)(B C:gf.NQ):Prop where
 nx:∀Ŝ Ś G' H',fm H H'->RH i G' H'->REn i.K H' Ŝ Ś->N Ŝ G'->D.nx Ś H'
 rt:∀v G' H' x,fm H H'->RH i G' H'->RV i.K H' v x->R v G'->D.rt x H'
 bk:∀Ŝ Ś G' H',fm H H'->RH i G' H'->REn i.K H' Ŝ Ś->B Ŝ G'->D.bk Ś H'
 ct:∀Ŝ Ś G' H',fm H H'->RH i G' H'->REn i.K H' Ŝ Ś->C Ŝ G'->D.ct Ś H'
def EOk.go{D:Ends}{N:gf.NQ}{R:gf.Q1}{B C:gf.NQ}(e:EOk i H D N R B C)(k:fm H H1):EOk i H1 D N R B C :=
 ⟨λa b c d k'=>e.nx a b c d<|k.trans k',λa b c d k'=>e.rt a b c d<|k.trans k',λa b c d k'=>e.bk a b c d<|k.trans k',λa b c d k'=>e.ct a b c d<|k.trans k'⟩
inductive tStx (X:Cx) (i:Inf) (Φ:gf.Fs) (m:gf.S) (D:Ends) (σ:St) (H:Hp):Prop
 |mk (env:gf.Env) (G:gf.Hs) (N:gf.NQ) (R:gf.Q1) (B C:gf.NQ) (Xe:gf.EQ) (p:PreS X i σ H env G Xe) (w:gf.wS Φ m env G N R B C Xe) (e:EOk i H D N R B C)
abbrev tSt(X:Cx)(i:Inf)(Φ:gf.Fs)(m:gf.S):TS:=tStx X i Φ m
inductive tBlx (X:Cx) (i:Inf) (Φ:gf.Fs) (m:gf.Ss) (D:Ends) (σ:St) (H:Hp):Prop
 |mk (env:gf.Env) (G:gf.Hs) (N:gf.NQ) (R:gf.Q1) (B C:gf.NQ) (Xe:gf.EQ) (p:PreS X i σ H env G Xe) (w:gf.wSs Φ m env G N R B C Xe) (e:EOk i H D N R B C)
abbrev tBl(X:Cx)(i:Inf)(Φ:gf.Fs)(m:gf.Ss):TS:=tBlx X i Φ m
variable {st:ħ} {t':TS}
def _root_.L2.PS.imp{t:TS}(h:PS X st t)(f:∀D σ H,t' D σ H->t D σ H):PS X st t':=λÁ s σ H D I q=>h Á s σ H D I (f D σ H q)
def _root_.L2.PSs.imp{st:List ħ}{t:TS}(h:PSs X st t)(f:∀D σ H,t' D σ H->t D σ H):PSs X st t':=λÁ s σ H D I q=>h Á s σ H D I (f D σ H q)
def G7:PSs X []<|tBl X i Φ .nil:=pss_nil.imp λD σ H ⟨env,G,N,R,B,C,Xe,p,w,c⟩=>by exact c.nx env σ G H (fm.refl H) p.hp p.en w
def Ed{sts:List ħ}{m:gf.S}{ms:gf.Ss}(h1:PS X st<|tSt X i Φ m)(h2:PSs X sts<|tBl X i Φ ms):PSs X (st::sts) (tBl X i Φ<|.cons m ms) :=
 (Cs h1 h2).imp λD σ H ⟨env,G,N,R,B,C,Xe,p,w,c⟩=>by exact⟨env,G,_,R,B,C,Xe,p,w,⟨λŜ Ś G' H' k g e w'=>⟨Ŝ,G',N,R,B,C,Xe,p.go k g e,w',c.go k⟩,c.rt,c.bk,c.ct⟩⟩
variable {m:gf.E}
def Ik(he:PE X e<|tE X i Φ m):PS X (.Return (eL e) ç) (tSt X i Φ<|.ret m) :=
 (Ih he).imp λD σ H ⟨env,G,N,R,B,C,Xe,p,w,c⟩=>by exact⟨env,G,R,Xe env,p.pre,w,c.rt⟩
def D4(he:PE X e<|tE X i Φ m)(hs:Ŧ e eM ç.line X.env=pure eP):PS X (.Expr e ç) (tSt X i Φ<|.expr m) :=
 (Fo he hs).imp λD σ H ⟨env,G,N,R,B,C,Xe,p,w,c⟩=>by exact⟨env,G,_,Xe env,p.pre,w,λv G1 H1 x k1 g1 r1 w1=>c.nx env σ G1 H1 k1 g1 (p.en.keep k1) w1⟩
def IT{t:Expr}{a b:List ħ}{mt:gf.Tt}{ma mb:gf.Ss}(ht:PT X t<|tTt X i Φ mt)(ha:PSs X a<|tBl X i Φ ma)(hb:PSs X b<|tBl X i Φ mb):PS X (.If t a b ç) (tSt X i Φ<|.ite mt ma mb) :=
 (Qu ht ha hb).imp λD σ H ⟨env,G,N,R,B,C,Xe,p,w,c⟩=>by
  refine⟨env,G,_,Xe env,p.pre,w,λd G1 H1 k1 g1 q=>?_⟩;cases d with
  |true=>exact⟨env,G1,N,R,B,C,Xe,p.go k1 g1<|p.en.keep k1,by simpa using q,c.go k1⟩
  |false=>exact⟨env,G1,N,R,B,C,Xe,p.go k1 g1<|p.en.keep k1,by simpa using q,c.go k1⟩
abbrev gPt(i:Inf)(p:gf.Pt):TG:=λx σ H Q=>∃v env G ś,RV i.K H v x/\RH i G H/\REn i.K H env σ/\gf.bind p G v env=eL ś/\∀σ2,REn i.K H ś σ2->Q σ2 H
variable {tg:Expr}
def _root_.L2.PG.imp{t t':TG}(h:PG X tg t)(f:∀v σ H Q,t' v σ H Q->t v σ H Q):PG X tg t':=λÁ s σ H v u Q I r q=>h Á s σ H v u Q I r (f v σ H Q q)
def _root_.L2.PGs.imp{tg:List Expr}{t t':TGs}(h:PGs X tg t)(f:∀v σ H Q,t' v σ H Q->t v σ H Q):PGs X tg t':=λÁ s σ H v u Q I r q=>h Á s σ H v u Q I r (f v σ H Q q)
variable {x:Str} {j:Nat}
def OB(hN:X.N.Nodup)(hi:X.N[j]?=eL x)(hx:Loc X.env.scope x)(hf:X.fn x=eN\/X.env.scope.names.lookup x=eL .local):PG X (.Name x ç) (gPt i<|.one j) :=
 (UD hN hi hx hf).imp λv σ H Q ⟨u,env,G,ś,r,g,e,b,h⟩=>by cases b;exact h _<|e.set r j
abbrev Bf(i:Inf)(js:List Nat):TGs:=λxs σ H Q=>∃vs env ś,RVs i.K H vs xs/\REn i.K H env σ/\gf.bindL js vs env=eL ś/\∀σ2,REn i.K H ś σ2->Q σ2 H
def Eh:PGs X []<|Bf i []:=pgs_nil.imp λxs σ H Q ⟨vs,env,ś,r,e,b,h⟩=>by
 cases vs with
 |nil=>cases r;cases b;exact⟨rfl,h _ e⟩
 |cons _ _=>cases b
variable {js:List Nat}
def Cp(hN:X.N.Nodup)(hi:X.N[j]?=eL x)(hx:Loc X.env.scope x)(hf:X.fn x=eN\/X.env.scope.names.lookup x=eL .local)(h2:PGs X es<|Bf i js)
  (hs:(ĝ (.Name x ç::es) X.env).map (·.2)=π (.Name x ç) X.env::(ĝ es X.env).map (·.2)):PGs X (.Name x ç::es) (Bf i<|j::js) :=
 (JJ (UD hN hi hx hf) h2 hs).imp λxs σ H Q ⟨vs,env,ś,r,e,b,h⟩=>by
  cases vs with
  |nil=>cases b
  |cons v vs =>
   cases r with
   |cons r t=>exact⟨_,_,rfl,vs,env.set j<|eL v,ś,t,e.set r j,b,h⟩
def Kp:∀{js:List Nat}{vs:List gf.Val}{env ś:gf.Env},gf.bindL js vs env=eL ś->vs.length=js.length
 |[],[],_,_,_=>rfl
 |j::js,v::vs,env,_,h=>by rw[Ë,Ë,Kp<|show gf.bindL js vs (env.set j<|eL v)=_ from h]
 |[],_::_,_,_,h=>by cases h
 |_::_,[],_,_,h=>by cases h
def UC{k:Nat}(hK:X.K=i.K)(hc:X.calm=eN)(h:PGs X es<|Bf i js)(hn:(ĝ es X.env).length=js.length)(ů:(ĝ es X.env).findIdx? (·.1)=eM):PG X (.Tuple es k ç) (gPt i<|.many js) :=
 (Dl (n:=js.length) hc h hn ů).imp λv σ H Q ⟨u,env,G,ś,r,g,e,b,h⟩=>by
  cases u with
  |tup vs =>
   have b:gf.bindL js vs env=eL ś:=b;cases r with
   |tup hp hr=>exact⟨_,_,rfl,by rw[hK];exact Zj hp,by rw[<-hr.length];exact Kp b,vs,env,ś,hr,e,b,h⟩
  |_=>cases b
def Fy{k k2:Nat}{p1 p2:Pos}(hK:X.K=i.K)(hc:X.calm=eN)(h1:PG X (.Name x p1)<|gPt i<|.one j)(h2:PG X (.Tuple es k2 p2)<|gPt i<|.many js):PG X (.Tuple [.Name x p1,.Tuple es k2 p2] k ç) (gPt i<|.nest j js) :=
 (Dl (n:=2) hc (JJ h1 (JJ h2 pgs_nil rfl) rfl) rfl rfl).imp λv σ H Q ⟨u,env,G,ś,r,g,e,b,h⟩=>by
  cases u with
  |tup vs =>
   cases vs with
   |nil=>cases b
   |cons x0 vs=>cases vs with
    |nil=>cases b
    |cons y vs=>cases vs with
     |cons _ _=>cases b
     |nil =>
      have b:(gf.tupOf y).bind (λys=>gf.bindL js ys<|env.set j<|eL x0)=eL ś:=b;cases r with
      |tup hp hr =>
       cases hr with
       |cons r0 t=>cases t with
        |cons r1 t =>cases t;exact⟨_,_,rfl,by rw[hK];exact Zj hp,rfl,_,_,rfl,x0,env,G,_,r0,g,e,rfl,λσ2 e2=>⟨_,_,rfl,y,_,G,ś,r1,g,e2,b,λσ3 e3=>⟨rfl,h σ3 e3⟩⟩⟩
  |_=>cases b
def Hy{q:gf.Pt}(he:PE X e<|tE X i Φ m)(hg:PG X tg<|gPt i q)(hs:ϖ [tg] e ç.line X.env=pure eP)(hw:ϗ [tg] e X.env=pure eM)
  (h1:(ĝ [tg] X.env).map (·.2)=[π tg X.env]):PS X (.Assign [tg] e ç) (tSt X i Φ<|.set q m) :=
 (DM he hg hs hw h1).imp λD σ H ⟨env,G,N,R,B,C,Xe,p,w,c⟩=>by refine⟨env,G,_,Xe env,p.pre,w,λv G1 H1 x k1 g1 r1 w1=>?_⟩;obtain⟨ś,e2,w1⟩:=eU w1;exact⟨v,env,G1,ś,r1,g1,p.en.keep k1,e2,λσ2 h2=>c.nx ś σ2 G1 H1 k1 g1 h2 w1⟩
abbrev C8:V->V->V->Hp->(Hp->Prop)->Prop:=λo y v H Q=>Gi o y v H Q\/Gz o y v H Q
def CP{G G3:gf.Hs}{H:Hp}{o k v:gf.Val}{y z x:V}{Q:Hp->Prop}(g:RH i G H)(ry:RV i.K H o y)(rz:RV i.K H k z)(rx:RV i.K H v x)(e:gf.fJ G o k v=eL G3)(c:∀H3,fm H H3->RH i G3 H3->Q H3):C8 y z x H Q:=by
 cases o with
 |ref b =>
  cases ry.ref_inv
  replace e:(match G b with|some (.lst xs)=>(gf.f8 k).bind λn=>(gf.ixN xs.length n).map λj=>gf.upd G b (.lst<|xs.set j v)|some (.dct kvs)=>if gf.fj k/\kvs.length<gf.lim then eL (gf.upd G b<|.dct<|gf.fu kvs k v)else eM|some (.dtp kvs)=>if gf.isKeyT k/\kvs.length<gf.lim then eL (gf.upd G b<|.dtp<|gf.fu kvs k v)else eM|_=>eM)=eL G3:=e
  cases z4:G b with
  |none=>rw[z4]at e;cases e
  |some o =>
   rw[z4]at e;cases o with
   |lst xs =>obtain⟨n,hn,e⟩:=ê.mp e;obtain⟨jj,hj,rfl⟩:=Ò.mp e;cases ZR hn;cases rz.int_inv;obtain⟨vs,h2,r2⟩:=g b _ z4;rw[Oz,r2.length]at hj;obtain⟨k3,g3⟩:=KS (xs:=xs) g h2 (xs.set jj v) (vs.set jj x)<|r2.set rx jj;exact .inl ⟨b,vs,n,jj,rfl,rfl,h2,hj,c _ k3 g3⟩
   |dct kvs =>obtain⟨hk,e⟩:=Zi (show(if gf.fj k/\kvs.length<gf.lim then eL (gf.upd G b<|.dct<|gf.fu kvs k v)else eM)=eL G3 from e);cases e;obtain⟨ps,h2,r2⟩:=g b _ z4;obtain⟨d,kr,rfl⟩:=fg hk.1 rz;obtain⟨k3,g3⟩:=KY (kvs:=kvs) g h2<|r2.put kr rx;exact .inr ⟨b,_,rfl,DPut.k h2 (by rw[<-RKs.length r2];exact â hk.2 ZM),c _ k3 g3⟩
   |dtp kvs =>obtain⟨hk,e⟩:=Zi (show(if gf.isKeyT k/\kvs.length<gf.lim then eL (gf.upd G b<|.dtp<|gf.fu kvs k v)else eM)=eL G3 from e);cases e;obtain⟨ps,h2,r2⟩:=g b _ z4;obtain⟨a1,a2,d,rfl,rfl,hd⟩:=XM hk.1 rz;obtain⟨k3,g3⟩:=ER g h2<|r2.put (i:=a1) (j:=a2) rx;exact .inr ⟨b,_,rfl,DPut.t h2 hd (by rw[<-RTs.length r2];exact â hk.2 ZM),c _ k3 g3⟩
   |_=>cases e
 |_=>cases e
def AD{a j:Expr}{ma mj:gf.E}{ϡ:Pos}(hK:X.K=i.K)(he:PE X e<|tE X i Φ m)(ha:PE X a<|tE X i Φ ma)(hj:PE X j<|tE X i Φ mj)(hgl:PG X (.Subscript a j ϡ)<|PY (tE X i Φ ma) (tE X i Φ mj) C8)(hs:ϖ [.Subscript a j ϡ] e ç.line X.env=pure eP)(hw:ϗ [.Subscript a j ϡ] e X.env=pure eM)
  (h1:(ĝ [.Subscript a j ϡ] X.env).map (·.2)=[π (.Subscript a j ϡ) X.env]):PS X (.Assign [.Subscript a j ϡ] e ç) (tSt X i Φ<|.setIdx ma mj m) :=
 (DM he hgl hs hw h1).imp λD σ H ⟨env,G,N,R,B,C,Xe,p,w,c⟩=>by refine⟨env,G,_,Xe env,p.pre,w,λv G1 H1 x k1 g1 r1 w1=>?_⟩;refine two (p.go k1 g1<|p.en.keep k1).pre w1 λo k G2 H2 y z k2 p2 ry rz q=>?_;obtain⟨G3,e3,q⟩:=eU q;exact CP p2.hp ry rz (r1.keep k2) e3 λH3 k3 g3=>c.nx env σ _ _ ((k1.trans k2).trans k3) g3 (p2.en.keep k3) q
structure ItOk(i:Inf)(H0:Hp)(J:It)(st:gf.Hs->Prop)(xs:List gf.Val):Prop where
 go:∀n G H v,fm H0 H->RH i G H->st G->xs[n]?=eL v->J.go n H/\∀x H',J.yld n H x H'->fm H H'/\RH i G H'/\RV i.K H' v x
 stop:∀n G H,fm H0 H->RH i G H->st G->xs.length<=n->J.stop n H
abbrev tIt(X:Cx)(i:Inf)(Φ:gf.Fs)(m:gf.It):TI:=λσ H R=>∃env G QI Em,Pre X i σ H env G Em/\gf.wI Φ m env G QI Em/\∀st xs G' H' J,fm H H'->RH i G' H'->ItOk i H' J st xs->QI st xs G'->R J H'
variable {tg:Expr} {e:Expr}
def _root_.L2.PI.imp{t t':TI}(h:PI X tg e t)(f:∀σ H Q,t' σ H Q->t σ H Q):PI X tg e t':=λÁ s σ H Q I q=>h Á s σ H Q I (f σ H Q q)
abbrev Rv(K:Frag)(tl:TE):TI:=λσ H R=>tl σ H λx H1=>∃a,x=.ref a/\(((∃xs,fX K H1 a xs)/\R (Itl K a) H1)\/((∃xs,fY K H1 a xs)/\R (Itt K a) H1))
def Io{l:Expr}{tl:TE}(hl:PE X l tl):PI X tg l<|Rv X.K tl:=by
 intro Á s σ H R I h;refine thn (hl Á s σ H _ I h) λv s1 ⟨x,H1,I1,r1,q1⟩=>?_;obtain⟨a,e,q1⟩:=q1;subst e;cases r1;rcases q1 with⟨⟨xs,hq⟩,q⟩|⟨⟨xs,hq⟩,q⟩
 .obtain⟨ò,rv,p,hz⟩:=I1.list hq;refine ϒ p.isList ?_;refine⟨s1.heap.objs.size,[s1.heap.objs.size],_,_,H1,rfl,I1.kept (t':=s1.toks) λb o e=>Å _ e,AN a _,⟨_,Ñ _ rfl,rfl,rfl⟩,λb hb=>?_,q⟩;have e:b=s1.heap.objs.size:=by simpa using hb
  subst e;exact I1.fpOk (Ì _)<|I1.hok.fresh<|Ì _
 .obtain⟨ò,rv,p,hz⟩:=I1.tuple hq;refine aG (show s1.heap.IsTuple a ò.toArray from p) ?_;refine⟨s1.heap.objs.size,[s1.heap.objs.size],_,_,H1,rfl,I1.kept (t':=s1.toks) λb o e=>Å _ e,NV a _,⟨_,Ñ _ rfl,rfl,rfl⟩,λb hb=>?_,q⟩;have e:b=s1.heap.objs.size:=by simpa using hb
  subst e;exact I1.fpOk (Ì _)<|I1.hok.fresh<|Ì _
variable {H0:Hp} {a:È} {xs:List gf.Val}
def it_lst:ItOk i H0 (Itl i.K a) (λg=>gf.fe (g a)=eL xs) xs where
 go:=λn G H v _ g e hv=>by obtain⟨vs,h1,h2⟩:=ZX g e;obtain⟨x,h3,h4⟩:=h2.get hv;refine⟨⟨vs,x,h1,h3⟩,λy H' ⟨e1,e2⟩=>?_⟩;subst e1;have:=e2 vs h1;rw[h3]at this;cases this;exact⟨fm.refl _,g,h4⟩
 stop:=λn G H _ g e hn=>by obtain⟨vs,h1,h2⟩:=ZX g e;exact⟨vs,h1,by rw[<-h2.length];exact hn⟩
def it_tup{vs:List V}(hp:H0 a=eL (.tup vs)\/KT i.K a vs)(hr:RVs i.K H0 xs vs):ItOk i H0 (Itt i.K a) (λ_=>True) xs where
 go:=λn G H v k g e hv=>by have hp':H a=eL (.tup vs)\/KT i.K a vs:=hp.imp (k.t _ _) id;obtain⟨x,h3,h4⟩:=(hr.keep k).get hv;refine⟨⟨vs,x,Zj hp',h3⟩,λy H' ⟨e1,e2⟩=>?_⟩;subst e1;have:=e2 vs<|Zj hp';rw[h3]at this;cases this;exact⟨fm.refl _,g,h4⟩
 stop:=λn G H k g e hn=>by have hp':H a=eL (.tup vs)\/KT i.K a vs:=hp.imp (k.t _ _) id;exact⟨vs,Zj hp',by rw[<-hr.length];exact hn⟩
def it_scr{ns:List Int}(h:(∃o,H0 a=eL (.frz o<|.lst<|ns.map V.int))\/KL i.K a (ns.map V.int)):ItOk i H0 (Itl i.K a) (λ_=>True) (ns.map .int) where
 go:=λn G H v k g e hv=>by have h':fX i.K H a<|ns.map V.int:=Z1<|h.imp (λ⟨o,e⟩=>⟨o,k.f _ _ _ e⟩) id;obtain⟨x,h3,h4⟩:=(RVs.ints (K:=i.K) (H:=H) ns).get hv;refine⟨⟨_,x,h',h3⟩,λy H' ⟨e1,e2⟩=>?_⟩;subst e1;have:=e2 _ h';rw[h3]at this;cases this;exact⟨fm.refl _,g,h4⟩
 stop:=λn G H k g e hn=>⟨_,Z1<|h.imp (λ⟨o,e⟩=>⟨o,k.f _ _ _ e⟩) id,by simpa using hn⟩
def Ib{lo hi:Int}{n:Nat}(hn:n=(hi - lo).toNat):ItOk i H0 (Itr lo n) (λ_=>True) (gf.fz lo hi) where
 go:=λk G H v _ g _ hv=>by
  unfold gf.fz at hv;rw[Ý]at hv;have hk:k<(hi - lo).toNat:=by
   by_cases h:k<(hi - lo).toNat
   .exact h
   .rw[Ş<|by simpa using h]at hv;cases hv
  rw[List.getElem?_range hk]at hv;cases hv;refine⟨by rw[hn];exact hk,λx H' ⟨e1,e2⟩=>?_⟩;subst e1 e2;exact⟨fm.refl _,g,.int _⟩
 stop:=λk G H _ g _ hk=>by unfold gf.fz at hk;show n<=k;simp at hk;lia
variable {m:gf.E}
def Ll(hK:X.K=i.K)(he:PE X e<|tE X i Φ m):PI X tg e (tIt X i Φ<|.seq m) :=
 (Io he).imp λσ H R ⟨env,G,QI,Em,p,w,c⟩=>by
  refine one p w λv G1 H1 x k1 p1 r q=>?_;obtain⟨⟨st,xs⟩,e1,q2⟩:=eU q;clear q;rw[hK];cases v with
  |tup ys =>
   cases e1;cases r with
   |tup hp hr=>exact⟨_,rfl,.inr ⟨⟨_,Zj hp⟩,c _ _ G1 H1 _ k1 p1.hp (it_tup hp hr) q2⟩⟩
  |scr ns =>
   cases e1;cases r with
   |scr h=>exact⟨_,rfl,.inl ⟨⟨_,Z1 h⟩,c _ _ G1 H1 _ k1 p1.hp (it_scr h) q2⟩⟩
  |ref a =>
   cases r.ref_inv;simp only[gf.itV]at e1;cases z:gf.fe (G1 a)with
   |none=>rw[z]at e1;cases e1
   |some ys =>rw[z]at e1;cases e1;obtain⟨vs,h1,h2⟩:=ZX p1.hp z;exact⟨a,rfl,.inl ⟨⟨vs,h1⟩,c _ _ G1 H1 _ k1 p1.hp it_lst q2⟩⟩
  |_=>cases e1
variable {ç:Pos}
def Bv{a:Expr}{p:Pos}(hg:Gl X "range")(hm:X.mg "range" = eM)(ha:PE X a<|tE X i Φ m)(hs:Ð [a] X.env=[(eP,eval a X.env)]):PI X tg (.Call (.Name "range" p) [a] [] ç) (tIt X i Φ<|.range m) :=
 (Ae hg hm (YD ha fV<|by rw[hs];rfl) hs).imp λσ H R ⟨env,G,QI,Em,p,w,c⟩=>by refine one p w λv G1 H1 x k1 p1 r q=>?_;obtain⟨n,e1,q2⟩:=eU q;clear q;cases ZR e1;cases r.int_inv;exact⟨n,rfl,q2.1.1,q2.1.2,c _ _ G1 H1 _ k1 p1.hp (Ib<|by rw[Int.sub_zero]) q2.2⟩
def IL{ŷ:Expr}{body:List ħ}{q:gf.Pt}{mi:gf.It}{mb:gf.Ss}(hp:ah (Ù X.prog X.w) X.A X.env X.xe)(hc:X.calm=eN)(hi:PI X tg ŷ<|tIt X i Φ mi)(hg:PG X tg<|gPt i q)(hb:PSs X body<|tBl X i Φ mb)
  (hs:∀x,ė ŷ X.env x=pure x):PS X (.For tg ŷ body [] ç) (tSt X i Φ<|.for q mi mb) :=
 (CC hp hc hi hg hb hs).imp λD σ H ⟨env,G,N,R,B,C,Xe,p,w,c⟩=>by
  refine⟨env,G,_,Xe env,p.pre,w,λst xs G1 H1 J k1 g1 it w1=>?_⟩;refine⟨λn m Ś H'=>n+m=xs.length/\∃Ŝ G',fm H1 H'/\RH i G' H'/\REn i.K H' Ŝ Ś/\gf.wFor st (λv e g K M=>gf.go (gf.bind q g v e) λe2=>gf.wSs Φ mb e2 g K R M K Xe) N (xs.drop n) Ŝ G',⟨xs.length,by lia,env,G1,fm.refl _,g1,p.en.keep k1,by simpa using w1⟩,?_⟩;rintro n m Ś H' ⟨hnm,Ŝ,G',k2,g2,e2,w2⟩;by_cases hn:n<xs.length
  .right;have hd:xs.drop n=xs[n]::xs.drop (n+1):=Ξ hn;rw[hd]at w2;obtain⟨s2,w2⟩:=w2;have hv:xs[n]?=eL xs[n]:=É hn;obtain⟨a1,a2⟩:=it.go n G' H' xs[n] k2 g2 s2 hv;refine⟨a1,λσ3 H3=>∃env3 G3,fm H1 H3/\RH i G3 H3/\REn i.K H3 env3 σ3/\gf.wFor st (λv e g K M=>gf.go (gf.bind q g v e) λe2=>gf.wSs Φ mb e2 g K R M K Xe) N (xs.drop<|n+1) env3 G3,λσ3 H3 h=>⟨m - 1,by lia,by lia,h⟩,λx H3 hy=>?_⟩;obtain⟨k3,g3,r3⟩:=a2 x H3 hy;obtain⟨cT,e4,w4⟩:=eU w2;refine⟨xs[n],Ŝ,G',cT,r3,g3,e2.keep k3,e4,λσ4 h4=>?_⟩;have kk:fm H H3:=(k1.trans k2).trans k3;refine⟨cT,G',_,R,N,_,Xe,p.go kk g3 h4,w4,⟨λdD σ5 G5 H5 k5 g5 e5 w5=>?_,(c.go kk).rt,(c.go kk).nx,λdD σ5 G5 H5 k5 g5 e5 w5=>?_⟩⟩
   .exact⟨dD,G5,(k2.trans k3).trans k5,g5,e5,w5⟩
   .exact⟨dD,G5,(k2.trans k3).trans k5,g5,e5,w5⟩
  .left;have hd:xs.drop n=[]:=ŕ (by lia);rw[hd]at w2;exact⟨it.stop n G' H' k2 g2 w2.1 (by lia),c.nx Ŝ Ś G' H' (k1.trans k2) g2 e2 w2.2⟩
def Hj:fU i .len λxs H Q=>((∃p ys,xs=[.ref p]/\(fX i.K H p ys\/fY i.K H p ys)/\Q (.int ys.length) H)\/∃z,xs=[.str z]/\z.length<=Ø/\Q (.int z.length) H)\/∃a kvs,xs=[V.ref a]/\H a=eL (.dK kvs)/\Q (.int kvs.length) H:=by
 intro vs G H xs Q Qm g r w c;obtain⟨v,rfl,w⟩:=Jx w;obtain⟨x,rfl,rx⟩:=r.inv1;cases v with
 |ref a =>
  cases rx.ref_inv
  replace w:(match G a with|some (.lst xs)=>.val (.int xs.length)|some (.dct kvs)=>.val (.int kvs.length)|_=>.no:gf.Rs).wp G Qm:=w
  cases z:G a with
  |none=>rw[z]at w;exact(Zp w).elim
  |some o =>
   rw[z]at w;cases o with
   |lst ys =>obtain⟨us,h1,h2⟩:=g a _ z;refine .inl<|.inl ⟨a,us,rfl,.inl<|fX.of h1,?_⟩;rw[<-h2.length];exact c _ G H _ (fm.refl H) g (.int _)<|Zs w
   |dct kvs =>obtain⟨ps,h1,h2⟩:=g a _ z;refine .inr ⟨a,ps,rfl,h1,?_⟩;rw[<-h2.length];exact c _ G H _ (fm.refl H) g (.int _)<|Zs w
   |_=>exact(Zp w).elim
 |tup ys =>
  cases rx with
  |tup hp hr =>refine .inl<|.inl ⟨_,_,rfl,.inr<|Zj hp,?_⟩;rw[<-hr.length];exact c _ G H _ (fm.refl H) g (.int _)<|Zs w
 |scr ns =>
  cases rx with
  |scr h =>refine .inl<|.inl ⟨_,_,rfl,.inl<|Z1 h,?_⟩;rw[Ã];exact c _ G H _ (fm.refl H) g (.int _)<|Zs w
 |str s =>cases rx.str_inv;obtain⟨hl,w⟩:=Wr w;refine .inl (.inr ⟨_,rfl,by rw[Zw];exact Ô hl ZM,?_⟩);rw[Zw];exact c _ G H _ (fm.refl H) g (.int _)<|Zs w
 |_=>exact(Zp w).elim
def FQ:fU i .list λxs H Q=>∃p ys,xs=[.ref p]/\(fX i.K H p ys\/fY i.K H p ys)/\∀l,H l=eM->Q (.ref l) (upd H l<|.lst ys):=by
 intro vs G H xs Q Qm g r w c;obtain⟨v,rfl,w⟩:=Jx w;obtain⟨x,rfl,rx⟩:=r.inv1;cases v with
 |ref a =>cases rx.ref_inv;obtain⟨ys,e,w⟩:=MY (f:=λxs=>.new<|.lst xs) w;obtain⟨us,h1,h2⟩:=g a _ e;exact⟨a,us,rfl,.inl<|fX.of h1,Yl g (Ma w) c λp hp=>⟨_,eR,h2.keep<|fm.new hp⟩⟩
 |tup ys =>
  cases rx with
  |tup hp hr=>exact⟨_,_,rfl,.inr<|Zj hp,Yl g (Ma w) c λp hp=>⟨_,eR,hr.keep<|fm.new hp⟩⟩
 |_=>exact(Zp w).elim
variable {H:Hp}
def AJ{K:Frag}:∀{xs:List gf.Val}{bs:List Bool}{vs:List V},gf.blsOf xs=eL bs->RVs K H xs vs->vs=bs.map V.bl:=by
 intro xs;induction xs with
 |nil=>intro bs vs e r;cases e;cases r;rfl
 |cons v xs ih =>
  intro bs vs e r;cases v<;>first|(cases e;done)|skip
  case bl b =>
  simp only[gf.blsOf]at e;cases z:gf.blsOf xs with
  |none=>rw[z]at e;cases e
  |some ns=>rw[z]at e;cases e;cases r with|cons a t=>cases a.bl_inv;rw[ih z t];rfl
def HD{o:Option gf.Val}{h:gf.Hs}{Q:gf.Q1}(w:(gf.Rs.ofO o).wp h Q):∃v,o=eL v/\Q v h:=by
 cases o with
 |none=>exact(Zp w).elim
 |some v=>exact⟨v,rfl,Zs w⟩
def Lr:fU i .all λxs H Q=>∃p,∃bs:List Bool,xs=[.ref p]/\fX i.K H p (bs.map V.bl)/\Q (.bl<|bs.all id) H:=by
 intro vs G H xs Q Qm g r w c;obtain⟨v,rfl,w⟩:=Jx w;obtain⟨x,rfl,rx⟩:=r.inv1;cases v with
 |ref a =>cases rx.ref_inv;obtain⟨v,e,w⟩:=HD w;obtain⟨ys,z,e⟩:=ê.mp e;obtain⟨bs,z2,rfl⟩:=Ò.mp e;obtain⟨us,h1,h2⟩:=ZX g z;have:=AJ z2 h2;subst this;exact⟨a,bs,rfl,h1,c _ G H _ (fm.refl H) g (.bl _) w⟩
 |_=>exact(Zp w).elim
set_option exponentiation.threshold 2000 in
def IE{k:Int}(h:k.natAbs<10 ^ 200):k.natAbs.log2<1920:=by
 have e:(10:Nat) ^ 200<2 ^ 1920:=by decide
 by_cases h0:k.natAbs=0
 .rw[h0];decide
 .exact(Nat.log2_lt h0).mpr<|aq h e
def Dw(ds:List gf.D)(d:gf.D):(toDs ds).any (λe=>Ī e<|toD d)=ds.any λe=>gf.D.eqv e d:=by
 induction ds with
 |nil=>rfl
 |cons e es ih=>simp only[toDs,ĳ,ih,K0]
variable {G:gf.Hs} {y:V} {ys:List gf.Val}
def Uh(g:RH i G H){v u:gf.Val}{x:V}{c:Bool}(rx:RV i.K H v x)(e:gf.inL G v ys=eL c)(hy:∀ds,ys.mapM (gf.dat G<|gf.deep - 1)=eL ds->IsD i.K H y (.tuple<|toDs ds)\/IsD i.K H y (.list<|toDs ds)) :
  ∃ds d,(IsD i.K H y (.tuple ds)\/IsD i.K H y (.list ds))/\IsD i.K H x d/\Ř ds=eN/\d.canLay0=eN/\d.depth<=64/\ds.any (λe=>Ī e d)=c:=by
 unfold gf.inL at e;cases z:gf.dat G gf.deep v with
 |none=>rw[z]at e;cases e
 |some d =>
  rw[z]at e;simp only[Ĕ]at e;cases z2:ys.mapM (gf.dat G<|gf.deep - 1)with
  |none=>rw[z2]at e;cases e
  |some ds =>rw[z2]at e;cases e;exact⟨_,_,hy ds z2,X5 g _ _ _ _ z rx,toDs_lay ds,K5 d,Ô (Kj _ _ _ z) (by decide),Dw ds d⟩
def Uz(g:RH i G H){u:gf.Val}(ry:RV i.K H u y)(hu:u=.tup ys\/∃a,u=.ref a/\gf.fe (G a)=eL ys):∀ds,ys.mapM (gf.dat G<|gf.deep - 1)=eL ds->IsD i.K H y (.tuple<|toDs ds)\/IsD i.K H y (.list<|toDs ds):=by
 intro ds hd;rcases hu with rfl|⟨a,rfl,hl⟩
 .left;have:=X5 g gf.deep (.tup ys) (.tup ds) y (by show Option.map _ (List.mapM (gf.dat G<|gf.deep - 1) ys)=_;rw[hd];rfl) ry;simpa[toD]using this
 .right;have:=X5 g gf.deep (.ref a) (.lst ds) y (by show(gf.fe<|G a).bind _=_;rw[hl];show Option.map _ (List.mapM (gf.dat G<|gf.deep - 1) ys)=_;rw[hd];rfl) ry;simpa[toD]using this
def Ij(s t:String)(c:Char)(h:gf.oneC s=eL c):(!(Builtin.Str.occurrences (gu t) (gu s) 0 (gu t).length 1).isEmpty)=gq (c∈t.toList):=by
 have e:gu s=⟨#[c.toNat]⟩:=by
  unfold gf.oneC at h;split at h
  .rename_i d hd;cases h;rw[Str.ofString_eq_toList,hd];rfl
  .cases h
 rw[e,StrLaws.found_one,Av];have inj:∀{a b:Char},a.toNat=b.toNat->a=b:=λ{a b} e=>Char.ext<|bK e;by_cases hc:c∈t.toList
 .rw[gk hc,gm];exact Ĥ hc
 .rw[gj hc,decide_eq_false_iff_not];intro m;obtain⟨d,hd,he⟩:=Û.mp m;exact hc<|inj he▸hd
abbrev LH(K:Frag):R2:=λx y H Q=>EY eP x y H Q\/EN K eP x y H Q\/∃i j,x=.str i/\y=.str j/\Q (.bl (!(Builtin.Str.occurrences j i 0 j.length 1).isEmpty)) H
abbrev LU(K:Frag):R2:=λx y H Q=>EY eN x y H Q\/EN K eN x y H Q\/∃i j,x=.str i/\y=.str j/\Q (.bl (!(!(Builtin.Str.occurrences j i 0 j.length 1).isEmpty))) H
def Rc(hu:X.A.units+65<Ĩ):OpR X (ë .In)<|LH X.K:=(GR<|by lia).or ((GY hu).or U9)
def Q8(hu:X.A.units+65<Ĩ):OpR X (ë .NotIn)<|LU X.K:=(HX<|by lia).or ((Au hu).or KW)
def GA{v u:gf.Val}{G:gf.Hs}{H:Hp}{x y:V}{b:Bool}(g:RH i G H)(rx:RV i.K H v x)(ry:RV i.K H u y)(e:gf.inV G v u=eL b) :
  (∃ds d,(IsD i.K H y (.tuple ds)\/IsD i.K H y (.list ds))/\IsD i.K H x d/\Ř ds=eN/\d.canLay0=eN/\d.depth<=64/\ds.any (λe=>Ī e d)=b)\/
  (∃j k,x=.str j/\y=.str k/\(!(Builtin.Str.occurrences k j 0 k.length 1).isEmpty)=b)\/∃a o,y=.ref a/\DGet H a x o/\o.isSome=b:=by
 cases u with
 |tup ys=>exact .inl<|Uh (u:=.tup ys) g rx e<|Uz g ry<|.inl rfl
 |ref a =>
  replace e:(match G a with|some (.lst xs)=>gf.inL G v xs|some (.dct kvs)=>if gf.fj v then eL (gf.fq kvs v)else eM|some (.frz kvs)=>if gf.fj v then eL (gf.fq kvs v)else eM|some (.dtp kvs)=>if gf.isKeyT v then eL (gf.fq kvs v)else eM|_=>eM)=eL b:=e
  cases z:G a with
  |none=>rw[z]at e;cases e
  |some o =>
   rw[z]at e;cases o with
   |lst ys=>exact .inl (Uh (u:=.ref a) g rx e<|Uz g ry<|.inr ⟨a,rfl,by rw[z];rfl⟩)
   |dct kvs =>obtain⟨hk,e⟩:=Zi (show(if gf.fj v then eL (gf.fq kvs v)else eM)=eL b from e);cases e;obtain⟨ps,h1,h2⟩:=g a _ z;obtain⟨d,kr,rfl⟩:=fg hk rx;exact .inr (.inr ⟨a,_,ry.ref_inv,DGet.k h1,by rw[h2.has kr,YM]⟩)
   |frz kvs =>obtain⟨hk,e⟩:=Zi (show(if gf.fj v then eL (gf.fq kvs v)else eM)=eL b from e);cases e;obtain⟨ob,ps,h1,h2⟩:=g a _ z;obtain⟨d,kr,rfl⟩:=fg hk rx;exact .inr (.inr ⟨a,_,ry.ref_inv,.inl ⟨ps,d,.inr ⟨ob,h1⟩,rfl,rfl⟩,by rw[h2.has kr,YM]⟩)
   |dtp kvs =>obtain⟨hk,e⟩:=Zi (show(if gf.isKeyT v then eL (gf.fq kvs v)else eM)=eL b from e);cases e;obtain⟨ps,h1,h2⟩:=g a _ z;obtain⟨k1,k2,d,rfl,rfl,hd⟩:=XM hk rx;exact .inr (.inr ⟨a,_,ry.ref_inv,DGet.t h1 hd,by rw[h2.has,YM]⟩)
   |_=>cases e
 |str t =>
  cases v with
  |str s =>obtain⟨c,z,rfl⟩:=Ò.mp e;exact .inr<|.inl ⟨_,_,rx.str_inv,ry.str_inv,Ij s t c z⟩
  |_=>cases e
 |_=>cases e
def E5{o:Option Bool}{b:Bool}(e:o.map (!·)=eL b):o=eL (!b):=by obtain⟨c,z,rfl⟩:=Ò.mp e;rw[z,am]
def Rp:Z5 i .isin<|LH i.K:=by
 intro v u G H x y c Q g rx ry e q;rcases GA g rx ry e with⟨ds,d,h1,h2,h3,h4,h5,h6⟩|⟨j,k,h1,h2,h3⟩|⟨a,o,h1,h2,h3⟩
 .exact .inr (.inl ⟨ds,d,h1,h2,h3,h4,h5,by show Q (.bl<|List.any _ _) H;rw[h6];exact q⟩)
 .exact .inr (.inr ⟨j,k,h1,h2,by rw[h3];exact q⟩)
 .exact .inl ⟨a,o,h1,h2,by rw[h3,Bool.false_xor];exact q⟩
def Rk:Z5 i .notin<|LU i.K:=by
 intro v u G H x y c Q g rx ry e q;rcases GA g rx ry (E5 e)with⟨ds,d,h1,h2,h3,h4,h5,h6⟩|⟨j,k,h1,h2,h3⟩|⟨a,o,h1,h2,h3⟩
 .exact .inr (.inl ⟨ds,d,h1,h2,h3,h4,h5,by show Q (.bl (!List.any _ _)) H;rw[h6,am];exact q⟩)
 .exact .inr (.inr ⟨j,k,h1,h2,by rw[h3,am];exact q⟩)
 .exact .inl ⟨a,o,h1,h2,by rw[h3,Bool.true_xor,am];exact q⟩
variable {a:Expr} {b:Expr} {d:Expr} {ma:gf.E} {mb:gf.E} {op:cq} {dz:cq} {cop:gf.Cop} {cop':gf.Cop} {r:R2} {r':R2} {ç:Pos}
def DU{md:gf.E}(ho:OpR X (ë op) r)(hr:Z5 i cop r)(aC:OpR X (ë dz) r')(hr':Z5 i cop' r')(ha:PE X a<|tE X i Φ ma)(hb:PE X b<|tE X i Φ mb)(hd:PE X d<|tE X i Φ md)(hm:bx [op,dz] [b,d]=eP) :
  PE X (.Compare a [op,dz] [b,d] ç) (tE X i Φ<|.chain cop cop' ma mb md) :=
 (Bl ho aC ha hb hd hm).imp λσ H Q ⟨env,G,Qm,Em,p,w,k⟩=>by
  exact two p w λv u G2 H2 x y k2 p2 rx ry q=>by
   obtain⟨c,e,q⟩:=eU q;refine hr v u G2 H2 x y c _ p2.hp rx ry e ⟨c,rfl,?_⟩;cases c with
   |true =>
    rw[gg rfl]at q ⊢;exact one p2 q λt G3 H3 z k3 p3 rz q=>by obtain⟨d2,e2,q⟩:=eU q;exact hr' u t G3 H3 y z d2 Q p3.hp (ry.keep k3) rz e2<|k (.bl d2) G3 H3 (.bl d2) (k2.trans k3) p3.hp (.bl d2) q
   |false =>rw[gh ü]at q ⊢;exact k _ G2 H2 _ k2 p2.hp (.bl _) q
def BX{md:gf.E}(ho:OpR X (ë op) r)(hr:Z5 i cop r)(aC:OpR X (ë dz) r')(hr':Z5 i cop' r')(ha:PE X a<|tE X i Φ ma)(hb:PE X b<|tE X i Φ mb)(hd:PE X d<|tE X i Φ md)(hm:bx [op,dz] [b,d]=eP) :
  PT X (.Compare a [op,dz] [b,d] ç) (tTt X i Φ<|.val<|.chain cop cop' ma mb md) :=
 (BL ho aC ha hb hd hm).imp λσ H Q ⟨env,G,Qm,Em,p,w,k⟩=>by
  exact two p w λv u G2 H2 x y k2 p2 rx ry q=>by
   obtain⟨c,e,q⟩:=eU q;refine hr v u G2 H2 x y c _ p2.hp rx ry e ⟨c,rfl,?_⟩;cases c with
   |true =>
    rw[gg rfl]at q ⊢;exact one p2 q λt G3 H3 z k3 p3 rz q=>by obtain⟨d2,e2,q⟩:=eU q;obtain⟨d3,e3,q⟩:=eU q;cases e3;exact hr' u t G3 H3 y z d2 _ p3.hp (ry.keep k3) rz e2 ⟨d2,rfl,k d2 G3 H3 (k2.trans k3) p3.hp q⟩
   |false =>rw[gh ü]at q ⊢;obtain⟨d3,e3,q⟩:=eU q;cases e3;exact⟨eP,rfl,k _ G2 H2 k2 p2.hp q⟩
def Ca{st:ħ}:PS X st<|tSt X i Φ .never:=λÁ s σ H D I ⟨env,G,N,R,B,C,Xe,p,w,c⟩=>by exact w.elim
def RVs.strs{K:Frag}{H:Hp}:∀ss:List String,RVs K H (ss.map gf.Val.str) ((ss.map gu).map V.str)
 |[]=>.nil
 |s::ss=>.cons (.str s)<|RVs.strs ss
abbrev tPt(X:Cx)(i:Inf)(Φ:gf.Fs)(m:gf.E):TE:=λσ H Q=>∃env G Qm Em,Pre X i σ H env G Em/\gf.wE Φ m env G Qm Em/\∀v G' H',fm H H'->RH i G' H'->Qm v G'->∃s,gf.fmtV v=eL s/\s.length<=gf.lim/\Q (.str<|gu s) H'
abbrev tJs(X:Cx)(i:Inf)(Φ:gf.Fs)(ms:gf.Es):TJ:=λσ H Ĵ Q=>∃env G a Qm Em,Ĵ=gu a/\a.length<=gf.lim/\Pre X i σ H env G Em/\gf.wJ Φ ms env G a Qm Em/\∀s G' H',fm H H'->RH i G' H'->Qm s G'->Q (gu s) H'
def _root_.L2.PJ.imp{vs:List Expr}{t t':TJ}(h:PJ X vs t)(f:∀σ H Ĵ Q,t' σ H Ĵ Q->t σ H Ĵ Q):PJ X vs t':=λÁ s σ H Ĵ Q I q=>h Á s σ H Ĵ Q I (f σ H Ĵ Q q)
variable {e:Expr} {m:gf.E} {ç:Pos}
def La(he:PE X e<|tE X i Φ m):PE X (.FormattedValue e (-1) eM ç) (tPt X i Φ m) :=
 (FY he).imp λσ H Q ⟨env,G,Qm,Em,p,w,c⟩=>by
  refine⟨env,G,Qm,Em,p,w,λv G1 H1 x k1 g1 r1 w1=>?_⟩;obtain⟨s,e1,hl,q⟩:=c v G1 H1 k1 g1 w1;cases v with
  |str t=>cases e1;cases r1.str_inv;exact .inr ⟨_,rfl,by rw[Zw];exact Ô hl ZM,q⟩
  |int n =>
   cases r1.int_inv;simp only[gf.fmtV]at e1;split at e1
   .rename_i hn;cases e1;exact .inl ⟨n,rfl,IE hn,q⟩
   .cases e1
  |_=>cases e1
def IY{s:String}{j:Nat}:PE X (.Constant (.str<|gu s) j ç) (tPt X i Φ<|.cst<|.str s) :=
 pe_str.imp λσ H Q ⟨env,G,Qm,Em,p,w,c⟩=>by obtain⟨t,e1,hl,q⟩:=c _ G H (fm.refl H) p.hp w;cases e1;exact q
def IZ:PJ X []<|tJs X i Φ .nil:=pj_nil.imp λσ H Ĵ Q ⟨env,G,a,Qm,Em,e,hl,p,w,c⟩=>by subst e;exact⟨by rw[Zw];exact Ô hl ZM,c a G H (fm.refl H) p.hp w⟩
def UG{es:List Expr}{ms:gf.Es}(he:PE X e<|tPt X i Φ m)(hr:PJ X es<|tJs X i Φ ms)(hs:cA (e::es) X.env=eval e X.env::cA es X.env):PJ X (e::es) (tJs X i Φ<|.cons m ms) :=
 (FU he hr hs).imp λσ H Ĵ Q ⟨env,G,a,Qm,Em,e,hl,p,w,c⟩=>by subst e;refine⟨env,G,_,Em,p,w,λv G1 H1 k1 g1 w1=>?_⟩;obtain⟨s,e1,hl1,w2⟩:=eU w1;clear w1;refine⟨s,e1,by lia,_,rfl,?_,env,G1,a++s,Qm,Em,(K4 a s).symm,by rw[b9];exact hl1,p.go k1 g1,w2,λt G2 H2 k2=>c t G2 H2<|k1.trans k2⟩;rw[<-K4,Zw,b9];exact Ô hl1 ZM
def WP{G:gf.Hs}{H:Hp}{p:È}{o:HO}(g:RH i G H)(hp:H p=eM):RH i G<|upd H p o:=g.hid (fm.new hp) λb u e=>eQ (by rintro rfl;rw[g.free hp]at e;cases e)
abbrev tE0(i:Inf)(Φ:gf.Fs)(m:gf.E):TE:=λσ H Q=>∃env G Qm,REn i.K H env σ/\RH i G H/\gf.wE Φ m env G Qm (λ_ _=>False)/\Cn i H Q Qm
abbrev tT0(i:Inf)(Φ:gf.Fs)(m:gf.Tt):TT:=λσ H Q=>∃env G Qm,REn i.K H env σ/\RH i G H/\gf.wT Φ m env G Qm (λ_ _=>False)/\∀b G' H',fm H H'->RH i G' H'->Qm b G'->Q b H'
variable {H:Hp}
def Ud:XOk X i H λ_ _=>False:=λÁ σ H0 s H' a cls s' I f ⟨_,_,_,_,_,_,_,z⟩=>z.elim
variable {e:Expr}
def pe0{m:gf.E}(h:PE X e<|tE X i Φ m):PE X e<|tE0 i Φ m:=h.imp λσ H Q ⟨env,G,Qm,r,g,w,c⟩=>⟨env,G,Qm,_,⟨r,g,Ud⟩,w,c⟩
def pt0{m:gf.Tt}(h:PT X e<|tTt X i Φ m):PT X e<|tT0 i Φ m:=h.imp λσ H Q ⟨env,G,Qm,r,g,w,c⟩=>⟨env,G,Qm,_,⟨r,g,Ud⟩,w,c⟩
def _root_.L2.PIfs.imp{es:List Expr}{t t':TT}(h:PIfs X es t)(f:∀σ H Q,t' σ H Q->t σ H Q):PIfs X es t':=λÁ s σ H Q I q=>h Á s σ H Q I (f σ H Q q)
def IR:PIfs X []<|tT0 i Φ .yes:=pifs_nil.imp λσ H Q ⟨env,G,Qm,r,g,w,c⟩=>by exact c eN G H (fm.refl H) g w
variable {ô:List Nat}
def EF{K:Frag}{H':Hp}{env:gf.Env}{σ:St}{k:Nat}(r:REn K H env σ)(kp:fm H H'):REn K H' (Ö k eM++ô.map λj=>(env[j]?).getD eM)<|Ö k eM++On σ ô:=by
 refine⟨by simp[On],λn u e=>?_⟩;by_cases hn:n<k
 .rw[ĉ (by rw[ð];exact hn),Ő,gg hn]at e;cases e
 .rw[đ (by rw[ð];lia),ð]at e ⊢;generalize n - k=n at e ⊢;simp only[Ý]at e;cases z:ô[n]? with
  |none=>rw[z]at e;cases e
  |some j =>
   rw[z]at e;simp only[Ŕ,Į]at e;cases z2:env[j]? with
   |none=>rw[z2]at e;cases e
   |some o =>rw[z2]at e;have e:o=eL u:=e;subst e;obtain⟨y,h1,h2⟩:=r.get j u z2;exact⟨y,by unfold On;rw[Ý,z];show eL ((σ[j]?).getD eM)=_;rw[h1];rfl,h2.keep kp⟩
abbrev Of(k:Nat):gf.Pt->Bool
 |.one j=>gq (j<k)
 |.many js=>js.all λj=>gq (j<k)
 |.nest _ _=>eP
def Kc{r:gf.Env}:∀{js:List Nat}{vs:List gf.Val}{l ś:gf.Env},(js.all λj=>gq (j<l.length))=eN->gf.bindL js vs (l++r)=eL ś->∃l',ś=l'++r/\l'.length=l.length
 |[],[],l,_,_,e=>by cases e;exact⟨l,rfl,rfl⟩
 |j::js,v::vs,l,_,h,e=>by rw[List.all_cons,bAq,gm]at h;have e:gf.bindL js vs ((l++r).set j<|eL v)=_:=e;rw[cW _ _ h.1]at e;obtain⟨l',h1,h2⟩:=Kc (l:=l.set j<|eL v) (by rw[ξ];exact h.2) e;exact⟨l',h1,by rw[h2,ξ]⟩
 |[],_::_,_,_,_,h=>by cases h
 |_::_,[],_,_,_,h=>by cases h
variable {l:gf.Env} {r:gf.Env}
def DO{p:gf.Pt}{G:gf.Hs}{v:gf.Val}{ś:gf.Env}(h:Of l.length p=eN)(e:gf.bind p G v (l++r)=eL ś):∃l',ś=l'++r/\l'.length=l.length:=by
 cases p with
 |one j =>have e:eL ((l++r).set j<|eL v)=eL ś:=e;cases e;exact⟨l.set j<|eL v,by rw[cW _ _<|of_decide_eq_true h],ξ⟩
 |many js =>
  cases v with
  |tup vs=>exact Kc h e
  |_=>cases e
 |nest j js=>cases h
def REn.pre{K:Frag}{τ:St}(q:REn K H (l++r) τ):REn K H (Ö l.length eM++r) τ:=by
 refine⟨by rw[<-q.len];simp,λn u e=>?_⟩;by_cases hn:n<l.length
 .rw[ĉ (by rw[ð];exact hn),Ő,gg hn]at e;cases e
 .rw[đ (by rw[ð];lia),ð]at e;exact q.get n u (by rw[đ<|by lia];exact e)
def O4{k:Nat}{pt:gf.Pt}(hk:Of k pt=eN){mi:gf.It}{mt:gf.Tt}{me:gf.E}:∀σ H Q,tE X i Φ (.comp ô k pt mi mt me) σ H Q->Bg (tIt X i Φ mi) k ô (gPt i pt) (tT0 i Φ mt) (tE0 i Φ me) σ H Q:=λσ H Q ⟨env,G,Qm,Em,p,w,c⟩=>by
 refine⟨env,G,_,Em,p,w,λst xs G1 H1 J k1 g1 it w1=>?_⟩;obtain⟨hl,w1⟩:=w1;generalize hstep:(λ(v:gf.Val) (h2:gf.Hs) (K:Option gf.Val->gf.Hs->Prop) (X2:gf.XQ)=>gf.go (gf.bind pt h2 v<|Ö k eM++ô.map λj=>(env[j]?).getD eM) λś =>
       gf.wT Φ mt ś h2 (λk h3=>if k=eN then gf.wE Φ me ś h3 (λu h4=>K (eL u) h4) X2 else K eM h3) X2)=step at w1
 refine⟨λn m ys τ H'=>n+m=xs.length/\ys.length<=n/\REn i.K H' (Ö k eM++ô.map λj=>(env[j]?).getD eM) τ/\∃Ĵ G',fm H1 H'/\RH i G' H'/\RVs i.K H' Ĵ ys/\gf.wComp st step (xs.drop n) Ĵ G' (λys h5=>gf.new h5 (.lst ys) Qm) (λ_ _=>False),⟨xs.length,by lia,by simp,EF p.en k1,[],G1,fm.refl _,g1,.nil,by simpa using w1⟩,?_⟩;rintro n m ys τ H' ⟨hnm,hly,en2,Ĵ,G',k2,g2,r2,w2⟩;refine⟨â (Ü (Ô hly<|by lia) hl) ZM,?_⟩;by_cases hn:n<xs.length
 .right;have hd:xs.drop n=xs[n]::xs.drop (n+1):=Ξ hn;rw[hd]at w2;obtain⟨s2,w2⟩:=w2;have hv:xs[n]?=eL xs[n]:=É hn;obtain⟨a1,a2⟩:=it.go n G' H' xs[n] k2 g2 s2 hv;refine⟨a1,λys3 τ3 H3=>ys3.length<=n+1/\REn i.K H3 (Ö k eM++ô.map λj=>(env[j]?).getD eM) τ3/\∃acc3 G3,fm H1 H3/\RH i G3 H3/\RVs i.K H3 acc3 ys3/\gf.wComp st step (xs.drop<|n+1) acc3 G3 (λys h5=>gf.new h5 (.lst ys) Qm) (λ_ _=>False),λys3 τ3 H3 h=>⟨m - 1,by lia,by lia,h.1,h.2⟩,λx H3 hy=>?_⟩;obtain⟨k3,g3,r3⟩:=a2 x H3 hy;rw[<-hstep]at w2;obtain⟨cT,e4,w4⟩:=eU w2;rw[hstep]at w4;obtain⟨l',e5,h5⟩:=DO (l:=Ö k eM) (by rw[ð];exact hk) e4;rw[ð]at h5;refine⟨xs[n],_,G',cT,r3,g3,en2.keep k3,e4,λτ4 en4=>?_⟩;have Ϙ:REn i.K H3 (Ö k eM++ô.map λj=>(env[j]?).getD eM) τ4:=by
   rw[e5]at en4;have:=en4.pre;rw[h5]at this;exact this
  refine⟨_,G',_,en4,g3,w4,λd G5 H5 k5 g5 q5=>?_⟩;have kk:=(k2.trans k3).trans k5;cases d with
  |true =>refine⟨_,G5,_,en4.keep k5,g5,by simpa using q5,λu G6 H6 y k6 g6 r6 q6=>?_⟩;exact⟨by simpa using hly,(Ϙ.keep k5).keep k6,_,G6,kk.trans k6,g6,((((r2.keep k3).keep k5).keep k6).append<|.cons r6 .nil),q6⟩
  |false =>rw[gh ü]at q5;change if eP=eN then _ else _;rw[gh ü];have q5:gf.wComp st step (xs.drop<|n+1) (Ĵ++[]) G5 (λys h5=>gf.new h5 (.lst ys) Qm) λ_ _=>False:=q5;rw[õ]at q5;exact⟨by lia,Ϙ.keep k5,Ĵ,G5,kk,g5,(r2.keep k3).keep k5,q5⟩
 .left;have hd:xs.drop n=[]:=ŕ (by lia);rw[hd]at w2;refine⟨it.stop n G' H' k2 g2 w2.1 (by lia),?_⟩;exact Yl g2 w2.2 ((c.go k1).go k2) λq hq=>⟨_,eR,r2.keep<|fm.new hq⟩
abbrev Op(i:Inf)(m:gf.Bm)(r:V->List V->Hp->VK->Prop):Prop:=∀(v:gf.Val) (vs:List gf.Val) (G:gf.Hs) (H:Hp) (x:V) (xs:List V) (t:gf.Val×gf.Hs) (Q:VK) (Qm:gf.Q1),
 RH i G H->RV i.K H v x->RVs i.K H vs xs->gf.bmV G m v vs=eL t->Qm t.1 t.2->Cn i H Q Qm->r x xs H Q
abbrev Ht(i:Inf)(m:gf.Bm)(T:String):Prop:=∀(v:gf.Val) (G:gf.Hs) (H:Hp) (x:V),RH i G H->RV i.K H v x->gf.bmTy G m v=eN->tyV i.K T x H
variable {m:gf.Bm}
def U5{o e:Expr}{es:List Expr}{name:Str}{Ń Ŏ:Pos}{T id:String}{r:V->List V->Hp->VK->Prop}{mo:gf.E}{ms:gf.Es}{n:Nat}(hK:X.K=i.K)(pa:PlainAttrs T)(slot:Slot T name id)(hty:typeOf (.builtin id)=pure (.type "method_descriptor"))(mt:MtR X id r)(hT:Ht i m T)(hr:Op i m r)
  (ho:PE X o<|tE X i Φ mo) (ha:PA X (e::es)<|tAr X i Φ ms n) (aM:ĥ o name X.env (eval o X.env)=eval o X.env)
  (aw:((ċ Ŏ<|Ð (e::es) X.env).all (λx=>!x.1)&&(Ů Ŏ<|ĸ [] X.env).all (λx=>x.1.isSome)&&gq ((e::es).length+([]:List aX).length+(if([]:List aX).isEmpty then 0 else 1)<30))=eN)
  (aN:(Ń.endLine==Ŏ.line)=eN) (hs:Ð (e::es) X.env=(eP,eval e X.env)::Ð es X.env) (cN:(ċ Ŏ<|Ð es X.env).any (·.1)=eP) :
  PE X (.Call (.Attribute o name Ń) (e::es) [] Ŏ) (tE X i Φ<|.bm m mo ms) :=
 (Qd pa slot hty mt ho ha aM aw aN hs cN).imp λσ H Q ⟨env,G,Qm,Em,p,w,c⟩=>by
  refine one p w λv G1 H1 x k1 p1 rv q=>⟨by rw[hK];exact hT v G1 H1 x p1.hp rv q.1,env,G1,_,Em,p1,q.2,λvs G2 H2 xs k2 g2 r2 _ w2=>?_⟩
  obtain⟨t,e,w3⟩:=eU w2;exact hr v vs G2 H2 x xs t Q Qm g2 (rv.keep k2) r2 e w3<|(c.go k1).go k2
def NP{o:Option gf.Ob}(h:gf.isDct o=eN):(∃xs,o=eL (.dct xs))\/∃xs,o=eL (.dtp xs):=by
 cases o with
 |none=>cases h
 |some o=>cases o with
  |dct xs=>exact .inl ⟨xs,rfl⟩
  |dtp xs=>exact .inr ⟨xs,rfl⟩
  |_=>cases h
def L5(hm:m.ty=.l):Ht i m "list":=λv G H x g r h=>by
 unfold gf.bmTy at h;rw[hm]at h;cases v with
 |ref a =>cases r.ref_inv;obtain⟨xs,e⟩:=OM (show gf.isLst (G a)=eN from h);obtain⟨vs,h1,_⟩:=g a _ e;exact .inl ⟨rfl,vs,fX.of h1⟩
 |_=>cases h
def D7(hm:m.ty=.d):Ht i m "dict":=λv G H x g r h=>by
 unfold gf.bmTy at h;rw[hm]at h;cases v with
 |ref a =>
  cases r.ref_inv;rcases NP (show gf.isDct (G a)=eN from h)with⟨xs,e⟩|⟨xs,e⟩
  .obtain⟨vs,h1,_⟩:=g a _ e;exact .inr<|.inr<|.inl ⟨rfl,.inl ⟨vs,h1⟩⟩
  .obtain⟨vs,h1,_⟩:=g a _ e;exact .inr<|.inr<|.inl ⟨rfl,.inr ⟨vs,h1⟩⟩
 |_=>cases h
variable {G:gf.Hs}
def Ux{v:gf.Val}{f:gf.Ad->List gf.Val->Option (gf.Val×gf.Hs)}{t:gf.Val×gf.Hs}(e:gf.bmL G v f=eL t):∃a xs,v=.ref a/\G a=eL (.lst xs)/\f a xs=eL t:=by
 cases v with
 |ref a=>obtain⟨xs,h1,h2⟩:=DF e;exact⟨a,xs,rfl,h1,h2⟩
 |_=>cases e
variable {vs:List gf.Val} {α:Type} {a:α}
def Lo{f:gf.Val->Option α}(e:(match vs with|[v]=>f v|_=>eM)=eL a):∃v,vs=[v]/\f v=eL a:=by
 cases vs with
 |nil=>cases e
 |cons v vs=>cases vs with
  |nil=>exact⟨v,rfl,e⟩
  |cons _ _=>cases e
def Lg:Op i .append Ui:=λv vs G H x xs t Q Qm g rx rs e q c=>by obtain⟨a,ys,rfl,e4,e3⟩:=Ux e;obtain⟨u,rfl,e3⟩:=Lo e3;obtain⟨hl,e3⟩:=Zi e3;cases e3;cases rx.ref_inv;obtain⟨y,rfl,ry⟩:=rs.inv1;obtain⟨us,h2,r2⟩:=g a _ e4;obtain⟨k3,g3⟩:=KS (xs:=ys) g h2 (ys++[u]) (us++[y])<|r2.app1 ry;exact⟨a,us,y,rfl,rfl,h2,by rw[<-r2.length];exact â hl ZM,c _ _ _ _ k3 g3 .non q⟩
def WI{v:gf.Val}{f:gf.Ad->List (gf.Val×gf.Val)->Option (gf.Val×gf.Hs)}{t:gf.Val×gf.Hs}(e:gf.bmD G v f=eL t):∃a kvs,v=.ref a/\G a=eL (.dct kvs)/\f a kvs=eL t:=by
 cases v with
 |ref a =>
  obtain⟨kvs,h1,h2⟩:=ê.mp (show(gf.f7<|G a).bind (f a)=eL t from e);refine⟨a,kvs,rfl,?_,h2⟩;cases z:G a with
  |none=>rw[z]at h1;cases h1
  |some o =>
   rw[z]at h1;cases o with
   |dct ys=>cases h1;rfl
   |_=>cases h1
 |_=>cases e
def HI{f:gf.Val->gf.Val->Option α}(e:(match vs with|[v,u]=>f v u|_=>eM)=eL a):∃v u,vs=[v,u]/\f v u=eL a:=by
 cases vs with
 |nil=>cases e
 |cons v vs=>cases vs with
  |nil=>cases e
  |cons u us=>cases us with
   |nil=>exact⟨v,u,rfl,e⟩
   |cons _ _=>cases e
abbrev CZ:V->List V->Hp->VK->Prop:=λx vs H Q=>∃a y o,x=.ref a/\vs=[y]/\DGet H a y o/\Q (o.getD .non) H
def AY(hu:X.A.units+1<Ĩ):MtR X "dict.get" CZ:=by intro Á s σ H x vs v us Q I rx rv h;obtain⟨a,y,o,rfl,rfl,d,q⟩:=h;cases rx;obtain⟨u,rfl,ru⟩:=rv.one;exact Hm hu I d ru λw' s' I' be=>⟨_,_,I',be,q⟩
abbrev Cb:V->List V->Hp->VK->Prop:=λx vs H Q=>∃a y z o,x=.ref a/\vs=[y,z]/\DGet H a y o/\Q (o.getD z) H
def Be(hu:X.A.units+1<Ĩ):MtR X "dict.get" Cb:=by intro Á s σ H x vs v us Q I rx rv h;obtain⟨a,y,z,o,rfl,rfl,d,q⟩:=h;cases rx;obtain⟨u,t,rfl,ru,rt⟩:=rv.two;exact GQ hu I d ru rt λw' s' I' be=>⟨_,_,I',be,q⟩
abbrev CF:V->List V->Hp->VK->Prop:=λx vs H Q=>∃a kvs k v more,x=.ref a/\vs=kV k::more/\(more=[]\/∃z,more=[z])/\H a=eL (.dK kvs)/\Ym kvs k=eL v/\Q v (upd H a<|.dK<|fv kvs k)
def mt_dpop:MtR X "dict.pop" CF:=by
 intro Á s σ H x vs v us Q I rx rv h;obtain⟨a,kvs,k,y,more,rfl,rfl,hm,hH,l,q⟩:=h;cases rx;rcases hm with rfl|⟨z,rfl⟩
 .obtain⟨u,rfl,ru⟩:=rv.one;exact Gy I hH ru l (.inl rfl) λw' s' I' be=>⟨_,_,I',be,q⟩
 .obtain⟨u,t,rfl,ru,rt⟩:=rv.two;exact Gy I hH ru l (.inr ⟨_,rfl⟩) λw' s' I' be=>⟨_,_,I',be,q⟩
abbrev B1:V->List V->Hp->VK->Prop:=λx vs H Q=>∃a kvs k z,x=.ref a/\vs=[kV k,z]/\H a=eL (.dK kvs)/\Ym kvs k=eM/\Q z H
def Cl:MtR X "dict.pop" B1:=by intro Á s σ H x vs v us Q I rx rv h;obtain⟨a,kvs,k,z,rfl,rfl,hH,l,q⟩:=h;cases rx;obtain⟨u,t,rfl,ru,rt⟩:=rv.two;exact Id I hH ru l λs' I'=>⟨_,_,I',rt,q⟩
def IN:Op i .dget CZ:=λv vs G H x xs t Q Qm g rx rs e q c=>by
 obtain⟨a,kvs,rfl,e4,e3⟩:=WI e;obtain⟨k,rfl,e3⟩:=Lo e3;obtain⟨hk,e3⟩:=Zi e3;cases e3;cases rx.ref_inv;obtain⟨y,rfl,ry⟩:=rs.inv1;obtain⟨ps,h2,r2⟩:=g a _ e4;obtain⟨d,kr,rfl⟩:=fg hk ry;refine⟨a,_,_,rfl,rfl,DGet.k (k:=d) h2,?_⟩;obtain⟨l1,l2⟩:=r2.look kr;cases z:gf.fo kvs k with
 |none=>rw[l2 z];rw[z]at q;exact c _ _ _ _ (fm.refl H) g .non q
 |some u=>obtain⟨x,hx,rv⟩:=l1 u z;rw[hx];rw[z]at q;exact c _ _ _ _ (fm.refl H) g rv q
variable {kvs:List (gf.Val×gf.Val)}
def UI{v:gf.Val}(e:gf.dpAt G v=eL kvs):∃a,v=.ref a/\G a=eL (.dtp kvs):=by
 cases v with
 |ref a =>
  refine⟨a,rfl,?_⟩
  replace e:(match G a with|some (.dtp kvs)=>eL kvs|_=>eM)=eL kvs:=e
  cases z:G a with
  |none=>rw[z]at e;cases e
  |some o=>rw[z]at e;cases o<;>first|(cases e;rfl)|cases e
 |_=>cases e
def DR:Op i .dgetD Cb:=λv vs G H x xs t Q Qm g rx rs e q c=>by
 replace e:(match gf.dpAt G v with|some kvs=>gf.bmGetT G vs kvs|none=>gf.bmD G v<|gf.bmGetD G vs)=eL t:=e
 cases zz:gf.dpAt G v with
 |some kvs =>
  rw[zz]at e;obtain⟨a,rfl,e4⟩:=UI zz;have e:gf.bmGetT G vs kvs=eL t:=e;obtain⟨k,dv,rfl,e3⟩:=HI e;obtain⟨hk,e3⟩:=Zi e3;cases e3;cases rx.ref_inv;obtain⟨y,z,rfl,ry,rz⟩:=rs.inv2;obtain⟨ps,h2,r2⟩:=g a _ e4;obtain⟨k1,k2,d,rfl,rfl,hd⟩:=XM hk ry;refine⟨a,_,_,_,rfl,rfl,DGet.t h2 hd,?_⟩;obtain⟨l1,l2⟩:=r2.look (i:=k1) (j:=k2);cases z:gf.fo kvs (.key k1 k2)with
  |none=>rw[l2 z];rw[z]at q;exact c _ _ _ _ (fm.refl H) g rz q
  |some u=>obtain⟨x,hx,rv⟩:=l1 u z;rw[hx];rw[z]at q;exact c _ _ _ _ (fm.refl H) g rv q
 |none =>
 rw[zz]at e;obtain⟨a,kvs,rfl,e4,e3⟩:=WI e;obtain⟨k,dv,rfl,e3⟩:=HI e3;obtain⟨hk,e3⟩:=Zi e3;cases e3;cases rx.ref_inv;obtain⟨y,z,rfl,ry,rz⟩:=rs.inv2;obtain⟨ps,h2,r2⟩:=g a _ e4;obtain⟨d,kr,rfl⟩:=fg hk ry;refine⟨a,_,_,_,rfl,rfl,DGet.k (k:=d) h2,?_⟩;obtain⟨l1,l2⟩:=r2.look kr;cases z:gf.fo kvs k with
 |none=>rw[l2 z];rw[z]at q;exact c _ _ _ _ (fm.refl H) g rz q
 |some u=>obtain⟨x,hx,rv⟩:=l1 u z;rw[hx];rw[z]at q;exact c _ _ _ _ (fm.refl H) g rv q
def Hb:Op i .dpop CF:=λv vs G H x xs t Q Qm g rx rs e q c=>by obtain⟨a,kvs,rfl,e4,e3⟩:=WI e;obtain⟨k,rfl,e3⟩:=Lo e3;obtain⟨hk,e3⟩:=Zi e3;obtain⟨u,z,rfl⟩:=Ò.mp e3;cases rx.ref_inv;obtain⟨y,rfl,ry⟩:=rs.inv1;obtain⟨ps,h2,r2⟩:=g a _ e4;obtain⟨d,kr,rfl⟩:=fg hk ry;obtain⟨x,hx,rv⟩:=(r2.look kr).1 u z;obtain⟨k3,g3⟩:=KY (kvs:=kvs) g h2<|r2.drop kr;exact⟨a,ps,d,x,[],rfl,rfl,.inl rfl,h2,hx,c _ _ _ _ k3 g3 (rv.keep k3) q⟩
def N9{k:gf.Val}(h:gf.fo kvs k=eM):gf.fv kvs k=kvs:=by
 unfold gf.fv;rw[List.filter_eq_self];intro p hp;have h2:kvs.find? (λp=>p.1==k)=eM:=by unfold gf.fo at h;exact Option.map_eq_none_iff.mp h
 simpa using List.find?_eq_none.mp h2 p hp
def Fw:Op i .dpopD λx vs H Q=>CF x vs H Q\/B1 x vs H Q:=λv vs G H x xs t Q Qm g rx rs e q c=>by
 obtain⟨a,kvs,rfl,e4,e3⟩:=WI e;obtain⟨k,dv,rfl,e3⟩:=HI e3;obtain⟨hk,e3⟩:=Zi e3;cases e3;cases rx.ref_inv;obtain⟨y,z,rfl,ry,rz⟩:=rs.inv2;obtain⟨ps,h2,r2⟩:=g a _ e4;obtain⟨d,kr,rfl⟩:=fg hk ry;obtain⟨l1,l2⟩:=r2.look kr;cases z:gf.fo kvs k with
 |none =>
  refine .inr ⟨a,ps,d,_,rfl,rfl,h2,l2 z,?_⟩;rw[z,N9 z]at q;have e:gf.upd G a (.dct kvs)=G:=by
   funext b;by_cases hb:b=a
   .subst hb;rw[gf.eR,e4]
   .rw[gf.eQ hb]
  rw[e]at q;exact c _ _ _ _ (fm.refl H) g rz q
 |some u =>obtain⟨x,hx,rv⟩:=l1 u z;obtain⟨k3,g3⟩:=KY (kvs:=kvs) g h2<|r2.drop kr;rw[z]at q;exact .inl ⟨a,ps,d,x,_,rfl,rfl,.inr ⟨_,rfl⟩,h2,hx,c _ _ _ _ k3 g3 (rv.keep k3) q⟩
end Snd
namespace L2
open PySem PySem.Spec PyProof.Rows
section
variable {X:Cx}
def O6:∀{ns:List Int}{us:List Â},fZ (ns.map V.int) us->PySem.W.kf_ints us=eN
 |[],_,.nil=>rfl
 |_::ns,_,.cons ⟨_,e⟩ r=>by subst e;unfold PySem.W.kf_ints;exact O6 (ns:=ns) r
def BM{i:Int}:∀{ns:List Int}{us:List Â},fZ (ns.map V.int) us->i∈ns->∃j,PySem.W.kf_at i us=eL j/\ns.erase i=ns.eraseIdx j
 |[],_,_,h=>nomatch h
 |n::ns,_,.cons ⟨t,e⟩ r,h=>by
  subst e;by_cases e:n=i
  .subst e;exact⟨0,by simp[PySem.W.kf_at,isInt],by simp⟩
  .obtain⟨j,h1,h2⟩:=BM r<|(Æ.mp h).resolve_left<|Ne.symm e;have e2:(n==i)=eP:=by simpa using e
   refine⟨j+1,?_,by simp[List.erase_cons,e,h2]⟩;simp[PySem.W.kf_at,isInt,e2,h1]
def BO:∀(ns:List Int) (j:Nat),(ns.eraseIdx j).map V.int=(ns.map V.int).eraseIdx j
 |[],_=>rfl
 |_::_,0=>rfl
 |_::ns,j+1=>congrArg (_ :: ·)<|BO ns j
abbrev OP:V->List V->Hp->VK->Prop:=λx vs H Q=>∃(l:È) (ns:List Int) (i:Int),x=.ref l/\vs=[.int i]/\H l=eL (.lst<|ns.map V.int)/\i∈ns/\Q .non (upd H l<|.lst<|(ns.erase i).map V.int)
def U6:MtM X "list.remove" OP:=by
 intro Á s σ H x vs v us Q I rx rv h;obtain⟨l,ns,i,rfl,rfl,hH,hm,q⟩:=h;cases rx;obtain⟨u,rfl,ru⟩:=rv.one;obtain⟨t,rfl⟩:=ru;obtain⟨z,ò,n,r,hl,e⟩:=I.lstM hH;obtain⟨j,hj,he⟩:=BM r hm;obtain⟨a,b,c⟩:=PySem.W.kf_at_spec hj;refine cx F.slot_list_remove ⟨_,e,rfl⟩ F.entry_list_remove (F.args_list_remove_2 _ _)
  (MeetsSeq.list_remove l ò.toArray n (.int i t) (isInt i) (λy hy=>PySem.W.kf_eq (O6 r) y<|by simpa using hy) j (by simpa using a) (by simpa using b) (λm hm h2=>by simpa using c m (by simpa using hm) h2)<|by rw[Î];lia) ⟨e,?_⟩
 rw[he]at q;refine⟨.non,_,I.lset (its':=ò.eraseIdx j) hH e ?_ (by rw[BO];exact r.eraseIdx j) ?_,rfl,q⟩
 .show ò.toArray.eraseIdxIfInBounds j=(ò.eraseIdx j).toArray;rw[List.eraseIdxIfInBounds_toArray]
 .have:=Kd ns j;rw[Ã]at z ⊢;lia
end
end L2
namespace Snd
open PySem L2 PyProof.Rows
variable {i:Inf}
def HK:Op i .remove OP:=λv vs G H x xs t Q Qm g rx rs e q c=>by
 obtain⟨a,ys,rfl,e4,e3⟩:=Ux e;unfold gf.bmRemove at e3;split at e3
 .rename_i n;obtain⟨ns,z,e3⟩:=ê.mp e3;obtain⟨hn,e3⟩:=Zi e3;cases e3;cases rx.ref_inv;obtain⟨y,rfl,ry⟩:=rs.inv1;cases ry.int_inv;obtain⟨us,h2,r2⟩:=g a _ e4;cases ZG z r2;obtain⟨k3,g3⟩:=KS (xs:=ys) g h2 ((ns.erase n).map .int) ((ns.erase n).map V.int)<|RVs.ints _;exact⟨a,ns,n,rfl,rfl,h2,hn,c _ _ _ _ k3 g3 .non q⟩
 .cases e3
end Snd
namespace Snd
open PySem L2
variable {i:Inf}{X:Cx}{Φ:gf.Fs}
def RFs.look{K:Frag}{H:Hp}{f:String}:∀{fs:List (String×gf.Val)}{ps:List (Str×V)},RFs K H fs ps->
  (∀v,fs.lookup f=eL v->∃x,ps.lookup (gu f)=eL x/\RV K H v x)/\(fs.lookup f=eM->ps.lookup (gu f)=eM)
 |_,_,.nil=>⟨λv e=>(by cases e),λ_=>rfl⟩
 |_,_,.cons (f:=g) (v:=u) (x:=y) r t=>by
  have ih:=RFs.look (f:=f) t;rw[à,à];by_cases e:f=g
  .subst e;rw[beq_self_eq_true,beq_self_eq_true];exact⟨λv z=>(by cases z;exact⟨y,rfl,r⟩),λz=>(by cases z)⟩
  .rw[show(f==g)=eP by simpa using e,show(gu f==gu g)=eP by rw[beq_eq_false_iff_ne];exact λz=>e<|ofS_inj.mp z];exact ih
def RFs.put{K:Frag}{H:Hp}{f:String}{v:gf.Val}{x:V}(q:RV K H v x):∀{fs:List (String×gf.Val)}{ps:List (Str×V)},RFs K H fs ps->RFs K H (gf.fh fs f v) (L2.fh (gu f) x ps)
 |_,_,.nil=>.cons q .nil
 |_,_,.cons (f:=g) (v:=u) (x:=y) r t=>by
  unfold gf.fh L2.fh;by_cases e:g=f
  .subst e;rw[gg rfl,gg rfl];exact .cons q t
  .rw[gh e,gh λz=>e<|ofS_inj.mp z];exact .cons r<|RFs.put q t
def RFs.length{K:Frag}{H:Hp}:∀{fs:List (String×gf.Val)}{ps:List (Str×V)},RFs K H fs ps->fs.length=ps.length
 |_,_,.nil=>rfl
 |_,_,.cons _ t=>by rw[Ë,Ë,RFs.length t]
structure FldOk(i:Inf)(f:String):Prop where
 no:∀C c,i.cl C c->NoAttr i.K c (gu f)
structure IC(K:Frag)(C:È):Prop where
 ha:PySem.W.findIn K (.ref C) "__class__" = eL (eL<|.builtin "object.__class__")
 hn:PySem.W.specialIn K (.builtin "object.__class__") "__get__" = eL (eL<|.builtin "getset_descriptor.__get__")
 htk:PySem.W.takesIn K (.builtin "object.__class__")=eL eN
 hm:PySem.W.mroIn K C (.type "object")=eL eN
structure ClsA(i:Inf):Prop where
 cls:∀C c,i.ins C=eN->i.cl C c->Cls i.K c
 ic:∀C c,i.cl C c->IC i.K c
 un:∀C a b,i.cl C a->i.cl C b->a=b
def JB{o:Option gf.Ob}{p:String×List (String×gf.Val)}(h:gf.insOf o=eL p):o=eL (.ins p.1 p.2):=by
 cases o with
 |none=>cases h
 |some o=>cases o with
  |ins C fs=>cases h;rfl
  |_=>cases h
variable {G:gf.Hs} {f:String}
def Ky{v u:gf.Val}(h:gf.fK G v f=eL u):∃a C fs,v=.ref a/\G a=eL (.ins C fs)/\fs.lookup f=eL u:=by obtain⟨a,h1,h⟩:=ê.mp h;obtain⟨p,h2,h3⟩:=ê.mp h;exact⟨a,p.1,p.2,JL h1,JB h2,h3⟩
variable {o:Expr} {mo:gf.E} {ç:Pos}
def LK(hK:X.K=i.K)(A:ClsA i)(F:FldOk i f)(ho:PE X o<|tE X i Φ mo)(hb:ĥ o (gu f) X.env (eval o X.env)=eval o X.env) :
  PE X (.Attribute o (gu f) ç) (tE X i Φ<|.fld mo f) :=
 (Li ho hb).imp λσ H Q ⟨env,G,Qm,Em,p,w,c⟩=>by
  exact one p w λv G1 H1 x k1 p1 r q=>by obtain⟨u,e,q2⟩:=eU q;clear q;obtain⟨a,C,fs,rfl,e2,e3⟩:=Ky e;cases r.ref_inv;obtain⟨c',dx,ps,hi,hc,h1,rf⟩:=p1.hp a _ e2;obtain⟨y,l,ry⟩:=rf.look.1 u e3;exact⟨a,c',dx,ps,y,rfl,h1,by rw[hK];exact A.cls _ _ hi hc,by rw[hK];exact F.no _ _ hc,l,c _ _ _ _ k1 p1.hp ry q2⟩
variable {C:String}
def OT{H:Hp}{a:È}{c' dx:È}{fs:List (String×gf.Val)}{ps ps2:List (Str×V)}(g:RH i G H)(hi:i.ins C=eN)(hc:i.cl C c')(h:H a=eL (.ins c' dx ps2))(r:RFs i.K H fs ps) :
  fm H (upd H a<|.ins c' dx ps)/\RH i (gf.upd G a<|.ins C fs) (upd H a<|.ins c' dx ps):=by
 have k:fm H<|upd H a<|.ins c' dx ps:=fm.put (λxs e=>by rw[h]at e;cases e) λp u e=>by rw[h]at e;cases e
 exact⟨k,g.put k ⟨c',dx,ps,hi,hc,eR,r.keep k⟩⟩
def Jf{G':gf.Hs}{o v:gf.Val}(h:gf.fL G o f v=eL G'):∃a C fs,o=.ref a/\G a=eL (.ins C fs)/\fs.length<900/\G'=gf.upd G a (.ins C<|gf.fh fs f v):=by
 cases o with
 |ref a =>
  unfold gf.fL at h;dsimp only at h;split at h
  .rename_i C fs e;obtain⟨hl,h⟩:=Zi h;cases h;exact⟨a,C,fs,rfl,e,hl,rfl⟩
  .cases h
 |_=>cases h
variable {e:Expr}
def UP{m:gf.E}{av:Pos}(hK:X.K=i.K)(A:ClsA i)(F:FldOk i f)(ho:PE X o<|tE X i Φ mo)(he:PE X e<|tE X i Φ m)(hs:Ŧ e (eL<|.Attribute o (gu f) av) ç.line X.env=pure eP) :
  PS X (.Assign [.Attribute o (gu f) av] e ç) (tSt X i Φ<|.setFld mo f m) :=
 (Lk ho he hs).imp λD σ H ⟨env,G,N,R,B,C,Xe,p,w,c⟩=>by refine one p.pre w λv G1 H1 x k1 p1 r q=>?_;refine one p1 q λu G2 H2 y k2 p2 ry q=>?_;obtain⟨G3,e3,q2⟩:=eU q;clear q;obtain⟨a,D',fs,rfl,e2,hl,rfl⟩:=Jf e3;cases ry.ref_inv;obtain⟨c',dx,ps,hi,hc,h1,rf⟩:=p2.hp a _ e2;obtain⟨k3,g3⟩:=OT p2.hp hi hc h1<|rf.put (f:=f)<|r.keep k2;refine⟨a,c',dx,ps,rfl,h1,by rw[hK];exact A.cls _ _ hi hc,by rw[hK];exact F.no _ _ hc,by rw[<-rf.length];lia,?_⟩;have k:=(k1.trans k2).trans k3;exact c.nx _ _ _ _ k g3 (p.en.keep k) q2
def MJ{op:gf.Bop}{x y z:gf.Val}(h:gf.augV op x y=eL z):∃a b,x=.int a/\y=.int b/\((op=.add/\z=.int (a+b))\/(op=.sub/\z=.int (a - b))):=by
 unfold gf.augV at h;split at h
 .cases h;exact⟨_,_,rfl,rfl,.inl ⟨rfl,rfl⟩⟩
 .cases h;exact⟨_,_,rfl,rfl,.inr ⟨rfl,rfl⟩⟩
 .cases h
abbrev rAS(op:gf.Bop):V->V->Hp->VK->Prop:=λx y H Q=>∃a b,x=.int a/\y=.int b/\((op=.add/\Q (.int<|a+b) H)\/(op=.sub/\Q (.int<|a - b) H))
def U8{op:Ϝ}{bop:gf.Bop}{n:Int}{k:Nat}{cL Ŏ:Pos}(hK:X.K=i.K)(A:ClsA i)(F:FldOk i f)(hop:Bx X op<|rAS bop)(ho:PE X o<|tE X i Φ mo) :
  PS X (.AugAssign (.Attribute o (gu f) cL) op (.Constant (.int n) k Ŏ) ç) (tSt X i Φ<|.augFld mo f bop n) :=
 (Ax ho OC hop).imp λD σ H ⟨env,G,N,R,B,C,Xe,p,w,c⟩=>by
  refine one p.pre w λv G1 H1 x k1 p1 r q=>?_;obtain⟨u,e1,q2⟩:=eU q;clear q;obtain⟨a,C',fs,rfl,e2,e3⟩:=Ky e1;cases r.ref_inv;obtain⟨c',dx,ps,hi,hc,h1,rf⟩:=p1.hp a _ e2;obtain⟨y,l,ry⟩:=rf.look.1 u e3;refine⟨a,c',dx,ps,y,rfl,h1,by rw[hK];exact A.cls _ _ hi hc,by rw[hK];exact F.no _ _ hc,l,?_⟩;obtain⟨z,e4,q3⟩:=eU q2;clear q2;obtain⟨G3,e5,q4⟩:=eU q3;clear q3;obtain⟨n1,n2,rfl,e0,hz⟩:=MJ e4;cases e0;cases ry.int_inv;obtain⟨a2,C2,fs2,e6,e7,hl,rfl⟩:=Jf e5;cases e6;rw[e2]at e7;cases e7;have fin:∀n:Int,z=.int n->∃dx' dX,H1 a=eL (.ins c' dx' dX)/\dX.length<1000/\D.nx σ (upd H1 a<|.ins c' dx'<|L2.fh (gu f) (.int n) dX):=λn hn=>by subst hn;obtain⟨k3,g3⟩:=OT p1.hp hi hc h1<|rf.put (f:=f) (x:=.int n)<|.int n;refine⟨dx,ps,h1,by rw[<-rf.length];lia,?_⟩;exact c.nx _ _ _ _ (k1.trans k3) g3 (p.en.keep<|k1.trans k3) q4
  rcases hz with⟨e,hz⟩|⟨e,hz⟩
  .exact⟨n1,n,rfl,rfl,.inl ⟨e,fin _ hz⟩⟩
  .exact⟨n1,n,rfl,rfl,.inr ⟨e,fin _ hz⟩⟩
abbrev Dfm(pr:ß)(w:ñ)(mg:Str->Option Â)(base:þ)(i:Inf)(P:gf.Pg)(n:Nat)(f:String)(fa:È):Prop :=
 ∃fd ps,fy pr w i.K mg base (CX1 pr w) (2*n) fa fd ps (spF i P n f)/\Binds i.K fd ps []
variable {P:gf.Pg} {n:Nat} {es:List Expr} {ms:gf.Es} {p:Pos}
def GJ{k:Nat}{Cn:String}{C f:È}(hK:X.K=i.K)(hi:i.ins Cn=eN)(hc:i.cl Cn C)(M:Mk i.K C f)(D:Dfm X.prog X.w X.mg X.base i P n (Cn ++ ".__init__") f)(hr:fx (2*n+1) X.A)
  (hg:Gl X<|gu Cn) (hm:X.mg (gu Cn)=eL (.ref C)) (ϫ:(gu Cn==("__debug__" : Str))=eP)
  (ha:PA X (e::es)<|tAr X i (gf.wF P n) ms k) (he:Ð (e::es) X.env=(eP,eval e X.env)::Ð es X.env) (hpl:(ċ ç<|Ð es X.env).any (·.1)=eP) :
  PE X (.Call (.Name (gu Cn) p) (e::es) [] ç) (tE X i (gf.wF P n)<|.make Cn ms):=by
 obtain⟨fd,ps,F,hb⟩:=D;rw[<-hK]at F hb M;intro Á s σ H Q I h;obtain⟨env,G,Qm,Em,pr,w,c⟩:=h;refine FL (E:=XK1 i H Em) M F hr hg hm hb .nil (XW.passes pr.xo) ha ϫ he hpl Á s σ H Q I ⟨env,G,_,Em,pr,w,λvs G1 H1 xs k1 g1 r1 hl w1 x dx hx hd ž=>?_⟩;have ka:fm H1<|upd H1 dx<|.own x:=fm.new hd;have df:upd H1 dx (.own x) x=eM:=by rw[eQ λz=>ž z.symm];exact hx
 have kb:fm (upd H1 dx<|.own x)<|upd (upd H1 dx<|.own x) x<|.ins C dx []:=fm.new df;have g2:RH i G1<|upd H1 dx<|.own x:=WP g1 hd;have g3:RH i (gf.upd G1 x<|.ins Cn [])<|upd (upd H1 dx<|.own x) x<|.ins C dx []:=g2.put kb ⟨C,dx,[],hi,hc,eR,.nil⟩;have k:=ka.trans kb;refine⟨.ref x::vs,_,_,Em,.cons (.ref x) (by rw[õ];exact r1.keep k),g3,w1 x<|g1.free hx,?_,λcls d H' h=>(h.go k).go k1⟩;intro v G' H' y k' g' rv ⟨hv,hq⟩;subst hv;exact⟨rv.non_inv,c _ G' H' _ ((k1.trans k).trans k') g' (.ref x) hq⟩
variable {m:String}
def Wj{v:gf.Val}(h:gf.clsV G v m=eL C):∃a fs,v=.ref a/\G a=eL (.ins C fs)/\fs.lookup m=eM:=by
 obtain⟨a,h1,h⟩:=ê.mp h;obtain⟨p,h2,h3⟩:=ê.mp h;have e:=JB h2;by_cases z:(p.2.lookup m).isNone=eN
 .rw[gg z]at h3;cases h3;exact⟨a,p.2,JL h1,e,aY.mp z⟩
 .rw[gh z]at h3;cases h3
variable {Ń:Pos} {pl:Sem Bool}
def Lb{k:Nat}{Cn:String}{C f:È}(hK:X.K=i.K)(hfn:∀c,i.cl Cn c->c=C)(A:Cls i.K C)(M:Meth i.K C (gu m) f)(D:Dfm X.prog X.w X.mg X.base i P n (Cn ++ "." ++ m) f)(hr:fx (2*n) X.A)
  (ho:PE X o<|tE X i (gf.wF P n) mo) (ha:PA X (e::es)<|tAr X i (gf.wF P n) ms k) (he:Ð (e::es) X.env=(eP,eval e X.env)::Ð es X.env) (hpl:(ċ ç<|Ð es X.env).any (·.1)=eP)
  (ht:eval (.Call (.Attribute o (gu m) Ń) (e::es) [] ç) X.env=(do
    let ov<-eval o X.env
    χ Ń.atName
    let (f,first)<-ŋ [ov] (ρ ov (gu m) pl)
    Ϲ ç f first (ċ ç<|Ð (e::es) X.env) (Ů ç<|ĸ [] X.env))) :
  PE X (.Call (.Attribute o (gu m) Ń) (e::es) [] ç) (tE X i (gf.wF P n)<|.meth Cn m mo ms):=by
 obtain⟨fd,ps,F,hb⟩:=D;rw[<-hK]at F hb M A;intro Á s σ H Q I h;obtain⟨env,G,Qm,Em,pr,w,c⟩:=h;refine D3 (E:=XK1 i H Em) ho A M F hr hb .nil (XW.passes pr.xo) ha he hpl ht Á s σ H Q I<|one pr w λv G1 H1 x k1 p1 rv q=>?_;obtain⟨hq,w1⟩:=q;obtain⟨a,fs,rfl,e2,e3⟩:=Wj hq;cases rv.ref_inv;obtain⟨c',dx,bZ,hi,hc,h1,rf⟩:=p1.hp a _ e2;cases hfn c' hc;refine⟨a,dx,bZ,rfl,h1,rf.look.2 e3,env,G1,_,Em,p1,w1,λvs G2 H2 xs k2 g2 r2 hl w2=>?_⟩;exact⟨.ref a::vs,G2,Qm,Em,.cons (.ref a) (by rw[õ];exact r2),g2,w2,(c.go k1).go k2,λcls d H' h=>(h.go k2).go k1⟩
def EA{Cn:String}{C f:È}(hK:X.K=i.K)(hfn:∀c,i.cl Cn c->c=C)(A:Cls i.K C)(M:Meth i.K C (gu m) f)(D:Dfm X.prog X.w X.mg X.base i P n (Cn ++ "." ++ m) f)(hr:fx (2*n) X.A)
  (ho:PE X o<|tE X i (gf.wF P n) mo)
  (ht:eval (.Call (.Attribute o (gu m) Ń) [] [] ç) X.env=(do
    let ov<-eval o X.env
    χ Ń.atName
    let (f,first)<-ŋ [ov] (ρ ov (gu m) pl)
    Ϲ ç f first (ċ ç<|Ð [] X.env) (Ů ç<|ĸ [] X.env))) :
  PE X (.Call (.Attribute o (gu m) Ń) [] [] ç) (tE X i (gf.wF P n)<|.meth Cn m mo .nil):=by
 obtain⟨fd,ps,F,hb⟩:=D;rw[<-hK]at F hb M A;intro Á s σ H Q I h;obtain⟨env,G,Qm,Em,pr,w,c⟩:=h;refine C9 (E:=XK1 i H Em) ho A M F hr hb .nil (XW.passes pr.xo) ht Á s σ H Q I<|one pr w λv G1 H1 x k1 p1 rv q=>?_;obtain⟨hq,w1⟩:=q;obtain⟨a,fs,rfl,e2,e3⟩:=Wj hq;cases rv.ref_inv;obtain⟨c',dx,bZ,hi,hc,h1,rf⟩:=p1.hp a _ e2;cases hfn c' hc;refine⟨a,dx,bZ,rfl,h1,rf.look.2 e3,?_⟩;exact⟨[.ref a],G1,Qm,Em,.cons (.ref a) .nil,p1.hp,w1,c.go k1,λcls d H' h=>h.go k1⟩
def EX(hK:X.K=i.K)(D:Dfo X.prog X.w X.mg X.base i P n f)(hr:fx (2*n) X.A)(hg:Gl X<|gu f)(ϫ:(gu f==("__debug__" : Str))=eP) :
  PE X (.Call (.Name (gu f) p) [] [] ç) (tE X i (gf.wF P n)<|.call f .nil):=by
 obtain⟨fa,fd,ps,F,hm,hk,hb⟩:=D;rw[<-hK]at F hk hb;intro Á s σ H Q I h;obtain⟨env,G,Qm,Em,pr,w,c⟩:=h;refine AU (E:=XK1 i H Em) F hr hg hm hk hb .nil (XW.passes pr.xo) ϫ Á s σ H Q I ?_;exact⟨[],G,Qm,Em,.nil,pr.hp,w,c,λcls d H' h=>h⟩
abbrev OU(X:Cx)(i:Inf)(Φ:gf.Fs):gf.Es->List (TE×TE)
 |.cons k (.cons v r)=>(tE X i Φ k,tE X i Φ v)::OU X i Φ r
 |_=>[]
abbrev Jm:gf.Es->Bool
 |.nil=>eN
 |.cons _ .nil=>eP
 |.cons _ (.cons _ r)=>Jm r
abbrev esL:gf.Es->Nat
 |.nil=>0
 |.cons _ es=>esL es+1
abbrev O1:List V->List (V×V)
 |x::y::r=>(x,y)::O1 r
 |_=>[]
def ND:∀(es:gf.Es),Jm es=eN->∀{σ:St}{H:Hp}{env:gf.Env}{G:gf.Hs}{Qm:List gf.Val->gf.Hs->Prop}{Em:gf.XQ}{Q:List (V×V)->Hp->Prop},Pre X i σ H env G Em->gf.wA Φ es env G Qm Em->
  (∀vs G' H' xs,fm H H'->RH i G' H'->RVs i.K H' vs xs->xs.length=esL es->Qm vs G'->Q (O1 xs) H')->Ml (OU X i Φ es) σ H Q
 |.nil,_,σ,H,env,G,Qm,Em,Q,p,w,c=>by rw[gf.q_a_nil]at w;exact c [] G H [] (fm.refl H) p.hp .nil rfl w
 |.cons k .nil,h,_,_,_,_,_,_,_,_,_,_=>by cases h
 |.cons k (.cons v r),h,σ,H,env,G,Qm,Em,Q,p,w,c=>by rw[gf.q_a_cons]at w;refine one p w λa G1 H1 x k1 p1 ra q=>?_;rw[gf.q_a_cons]at q;refine one p1 q λb G2 H2 y k2 p2 rb q2=>?_;refine ND r h p2 q2 λvs G' H' xs k3 g3 rv hl hq=>?_;exact c (a::b::vs) G' H' (x::y::xs) ((k1.trans k2).trans k3) g3 (.cons ((ra.keep k2).keep k3)<|.cons (rb.keep k3) rv) (by rw[Ë,Ë,hl];rfl) hq
def W4{K:Frag}{H:Hp}:∀{vs:List gf.Val}{xs:List V}{kvs:List (gf.Val×gf.Val)},RVs K H vs xs->gf.pairUp vs=eL kvs->∃ps:List<|Key×V,O1 xs=ps.map (λkv=>(kV kv.1,kv.2))/\RKs K H kvs ps/\2*ps.length=xs.length
 |[],_,_,r,e=>by cases r;cases e;exact⟨[],rfl,.nil,rfl⟩
 |[_],_,_,_,e=>by cases e
 |a::b::vs,_,kvs,r,e=>by
  cases r with
  |cons ra r=>cases r with
  |cons rb t =>
  rename_i y _;unfold gf.pairUp at e;split at e
  .rename_i hk;obtain⟨ks,e2,rfl⟩:=Ò.mp e;obtain⟨ps,h1,h2,h3⟩:=W4 t e2;obtain⟨c,hc,rfl⟩:=fg hk ra;refine⟨(c,y)::ps,?_,.cons hc rb h2,by rw[Ë,Ë,Ë];lia⟩;show(kV c,y)::O1 _=_;rw[h1];rfl
  .cases e
def RKs.merge{K:Frag}{H:Hp}:∀{kvs:List (gf.Val×gf.Val)}{ps:List (Key×V)}{Ĵ:List (gf.Val×gf.Val)}{bs:List (Key×V)},RKs K H Ĵ bs->RKs K H kvs ps->RKs K H (gf.putAll Ĵ kvs) (YU bs ps)
 |_,_,_,_,r,.nil=>r
 |_,_,Ĵ,bs,r,.cons (k:=k) (v:=v) (c:=c) (x:=x) (kvs:=kvs) (ps:=ps) a q t=>by show RKs K H (gf.putAll (gf.fu Ĵ k v) kvs) (YU (L2.fu bs c x) ps);exact RKs.merge (RKs.put a q r) t
variable {ç:Pos}
def IQ:PE X (.Dict [] [] ç) (tE X i Φ<|.dct .nil) :=
 pe_dnewK.imp λσ H Q ⟨env,G,Qm,Em,p,w,c⟩=>by rw[gf.q_e_dct]at w;unfold gf.new at w;intro a ha;have w1:=w a<|p.hp.free ha;obtain⟨a',e,w2⟩:=eU w1;cases e;rw[gf.q_a_nil]at w2;obtain⟨ks,e2,_,w3⟩:=eU w2;cases e2;rw[gf.eS]at w3;have k:=fm.new (o:=.dK []) ha;exact c _ _ _ _ k (p.hp.put (o:=.dct []) k ⟨[],eR,.nil⟩) (.ref a) w3
def P1{es:gf.Es}{keys:List (Option Expr)}{ό:List Expr}(he:Jm es=eN)(h30:esL es<=30)(h:PPs X ç keys ό<|OU X i Φ es)(hall:keys.all (·.isSome)=eN)(hl:keys.length=ό.length)(h0:keys≠[])(h15:keys.length<=15):PE X (.Dict keys ό ç) (tE X i Φ<|.dct es) :=
 (FM h hall hl h0 h15).imp λσ H Q ⟨env,G,Qm,Em,p,w,c⟩=>by
  rw[gf.q_e_dct]at w;unfold gf.new at w;intro a ha;have w1:=w a<|p.hp.free ha;obtain⟨a',e,w2⟩:=eU w1;cases e;have k:=fm.new (o:=.dK []) ha;have p2:Pre X i σ (upd H a<|.dK []) env (gf.upd G a<|.dct []) Em:=p.go k<|p.hp.put (o:=.dct []) k ⟨[],eR,.nil⟩;refine ND es he p2 w2 λvs G' H' xs k2 g2 rv hl w3=>?_;obtain⟨ks,e2,e3,w4⟩:=eU w3;obtain⟨ps,e4,r4⟩:=g2 a _ e3;cases r4;obtain⟨qs,h1,h2,h3⟩:=W4 rv e2;refine⟨e4,qs,h1,by lia,?_⟩;have k3:fm H'<|upd H' a<|.dK<|YU [] qs:=fm.put (λxs e=>by rw[e4]at e;cases e) λp u e=>by rw[e4]at e;cases e
  exact c _ _ _ _ ((k.trans k2).trans k3) (g2.put (o:=.dct<|gf.putAll [] ks) k3 ⟨_,eR,(RKs.merge .nil h2).keep k3⟩) (.ref a) w4
end Snd
namespace L2
open PySem PySem.Spec PyProof.Rows
section
variable {X:Cx}{Á:List (È×Obj)}{σ:St}{H:Hp}{s:Ä}{a:È}{o:Obj}{ps:List (Key×V)}
def Inv.freeze(I:Inv X Á σ H s)(e:H a=eL (.dK ps))(ho:s.heap.get? a=eL o):Inv X Á σ (upd H a<|.frz o<|.dK ps) s:=by have h:=I.hok a _ e;exact I.write (t':=s.toks) (x:=a) (e:=a) (h':=s.heap) (by rw[e];exact True.intro) (.inl rfl) (λ_ _ _ q=>q) ⟨o,ho⟩ ⟨ho,h⟩
def Inv.thaw(I:Inv X Á σ H s)(e:H a=eL (.frz o<|.dK ps))(h0:∀o u,X.H₀ a≠eL (.frz o u)):Inv X Á σ (upd H a<|.dK ps) s:=by
 have hn:∀b,H b=eM->upd H a (.dK ps) b=eM:=λb z=>by rw[eQ<|by rintro rfl;rw[e]at z;cases z];exact z
 have ho:=I.hok a _ e;refine⟨I.ok,I.os,I.bare,⟨I.base.keep,I.base.slot,λb ob q n hx=>hn b<|I.base.free b ob q n hx,I.base.there,λb xs q=>?_,λb ob u q=>?_,λb qs q=>?_⟩,I.loc,I.cell,hn _ I.free,λx c q=>hn _<|I.freeC x c q,λp hp=>?_,λb u q=>?_,I.len⟩
 .have z:=I.base.tups b xs q;rw[eQ<|by rintro rfl;rw[e]at z;cases z];exact z
 .have z:=I.base.frzs b ob u q;rw[eQ<|by rintro rfl;exact h0 _ _ q];exact z
 .obtain⟨m,z⟩:=I.base.tbls b qs q;exact⟨m,by rw[eQ<|by rintro rfl;rw[e]at z;cases z];exact z⟩
 .obtain⟨q1,q2,q3,q4,q5⟩:=I.pin p hp;exact⟨q1,hn _ q2,q3,q4,q5⟩
 .by_cases hb:b=a
  .subst hb;rw[eR]at q;cases q;exact ho.2
  .rw[eQ hb]at q;refine(I.hok b u q).stay (λ_ _ _ q=>q) (λc z=>?_) λc xs z=>?_
   .rw[eQ<|by rintro rfl;rw[e]at z;cases z];exact z
   .rw[eQ<|by rintro rfl;rw[e]at z;cases z];exact z
end
abbrev Ends.thaw(X:Cx)(D:Ends):Ends where
 nx:=λσ H=>∃a o ps,H a=eL (.frz o<|.dK ps)/\(∀o u,X.H₀ a≠eL (.frz o u))/\D.nx σ (upd H a<|.dK ps)
 rt:=λv H=>∃a o ps,H a=eL (.frz o<|.dK ps)/\(∀o u,X.H₀ a≠eL (.frz o u))/\D.rt v (upd H a<|.dK ps)
 bk:=D.bk
 ct:=D.ct
variable {X:Cx}
def E8{st:ħ}{t:TS}(h:PS X st t):PS X st λD σ H=>t (D.thaw X) σ H:=λÁ s σ H D I q =>
 thn (h Á s σ H _ I q) λf s' z=>by
  cases f with
  |next =>obtain⟨Ś,H',I',a,o,ps,e,h0,q⟩:=z;exact⟨Ś,_,I'.thaw e h0,q⟩
  |ret u =>obtain⟨v,Ś,H',I',r,a,o,ps,e,h0,q⟩:=z;exact⟨v,Ś,_,I'.thaw e h0,r,q⟩
  |brk=>exact z
  |cont=>exact z
abbrev Iti(a:È)(o:Obj)(ps:List<|Key×V):It :=
 ⟨λi H=>H a=eL (.frz o<|.dK ps)/\i<ps.length,λi H v H'=>∃p k x,v=.ref p/\H p=eM/\ps[i]?=eL (k,x)/\H'=upd H p (.tup [kV k,x]),λi H=>H a=eL (.frz o<|.dK ps)/\ps.length<=i⟩
def Dx{k:Key}{u:Â}(h:W2 k u=eN):RelV (kV k) u:=by
 rcases Zn h with⟨i,t,rfl,rfl⟩|⟨x,t,rfl,rfl⟩
 .exact⟨t,rfl⟩
 .exact⟨t,rfl⟩
def KV.at:∀{ps:List (Key×V)}{vs:List (Key×Â)}{i:Nat}{k:Key}{x:V},KV ps vs->ps[i]?=eL (k,x)->∃u,vs[i]?=eL (k,u)/\RelV x u:=by
 intro ps vs i k x r;unfold KV at r;induction r generalizing i with
 |nil=>intro h;simp at h
 |@cons p q ps qs h t ih =>
  intro e;cases i with
  |zero =>simp at e;subst e;obtain⟨q1,q2⟩:=q;obtain⟨h1,h2⟩:=h;have h1:k=q1:=h1;subst h1;exact⟨q2,rfl,h2⟩
  |succ i=>simpa using ih (by simpa using e)
section
variable {X:Cx}{Á:List (È×Obj)}{σ:St}{H:Hp}{s:Ä}{a:È}{o:Obj}{ps:List (Key×V)}{es:Array DictEntry}{ep:Nat}
def XF(I:Inv X Á σ H s)(e:H a=eL (.frz o<|.dK ps))(hd:o.data=.dict es ep):∃vs,KV ps vs/\s.heap.DictAt (Zd X.prog X.w) a vs ep:=by
 obtain⟨ho,_,_,vs,Ŵ,o2,es2,ep2,h1,h2,h3,h4⟩:=(show eZ X.prog X.w H s.heap a (.frz o<|.dK ps) from I.hok a _ e)
 rw[ho]at h1;cases h1;rw[hd]at h3;cases h3;exact⟨vs,Ŵ,o,es,ho,h2,hd,h4⟩
end
variable {P:ß} {w:ñ} {es:List Expr} {kk:Nat} {tp:Pos} {ds:Array DictEntry} {ep:Nat} {o:Obj} {ps:List (Key×V)}
def Om{K:Frag}(a it:È)(hd:o.data=.dict ds ep) :
  Turn P w K (.Tuple es kk tp) (Iti a o ps) [it] it (λi h=>∃ok ov,IsItemIter h it a i ps.length ep ok ov) where
 mem:=by simp
 obj:=λi h st b hb=>by
  obtain⟨ok,ov,h1⟩:=st;have q:b=it:=by simpa using hb
  subst q;exact⟨_,h1,λv z=>by cases z⟩
 keep:=λi h h' ⟨ok,ov,h1⟩ k=>⟨ok,ov,k it (by simp) _ h1⟩
 item:=by
  intro X hP hw hK hc i Á s σ H E I hf st hg;subst hP hw hK;obtain⟨e,hi⟩:=hg;obtain⟨ok,ov,h1⟩:=st;obtain⟨vs,Ŵ,da⟩:=XF I e hd;have hl:ps.length=vs.length:=Ŵ.length;have hx:ps[i]?=eL ps[i]:=É hi;obtain⟨u,hu,ru⟩:=Ŵ.at (k:=ps[i].1) (x:=ps[i].2) hx;rw[hl]at h1;refine wpAny_pyNext_items_item h1 da hu λkey h3 hk hout hT hsz hkeep=>?_;have hfi:=hf it (by simp);have bH:it<s.heap.objs.size:=Õ h1;have nT:s.heap.objs.size≠it:=Ŭ bH;have bQ:=I.fpOk (H':=H) (Ì s.heap.objs.size) I.fresh;refine⟨.ref s.heap.objs.size,rfl,wpAny_letOwnedTupleGo_items (s:={s with heap:=h3}) hout λh4 he4 hs4=>?_⟩;have I4:Inv X Á σ H {s with heap:=h4,toks:=s.toks}:=I.turnedL (t':=s.toks) (ch:=[it]) (λb ob hb q=>hs4.extBut b ob (λz=>hb<|by simp[z])<|hkeep b ob (λz=>hb<|by simp[z]) q) hf;have hT4:h4.get? s.heap.objs.size=eL {cls:=.type "tuple",data:=.seq #[key,u]}:=hs4.extBut _ _ nT hT;obtain⟨f0,f1,f2,f3,f4,f5⟩:=bQ;have I5:Inv X Á σ (upd H s.heap.objs.size<|.tup [kV ps[i].1,ps[i].2]) {s with heap:=h4,toks:=s.toks}:=I4.track f0 I.sz f1 f4 f5 ⟨by show 2<=Ø;decide,[key,u],.cons (Dx hk)<|.cons ru .nil,_,hT4,rfl,_,rfl⟩;refine⟨.ref s.heap.objs.size,_,I5,rfl,⟨s.heap.objs.size,_,_,rfl,f0,hx,rfl⟩,⟨key,u,by rw[hl];exact he4⟩,λb hb=>?_⟩;have q:b=it:=by simpa using hb
  subst q;rw[eQ nT.symm];exact hfi.1
 done:=by
  intro X hP hw hK hc i Á s σ H E I hf st hg;subst hP hw hK;obtain⟨e,hi⟩:=hg;obtain⟨ok,ov,h1⟩:=st;obtain⟨vs,Ŵ,da⟩:=XF I e hd;have hl:ps.length=vs.length:=Ŵ.length;rw[hl]at h1 hi;refine wpAny_pyNext_items_end (I.ok.hd hc) h1 da (Ş hi) λh' he'=>⟨rfl,?_⟩
  exact I.turnedL (t':=s.toks) (ch:=[it]) (λb ob hb q=>he' b ob (λz=>hb<|by simp[z]) q) hf
 self:=λA i s Q E st h=>by obtain⟨ok,ov,h1⟩:=st;exact PySem.W.kcp_self h1 h
abbrev Itk(a:È)(o:Obj)(ps:List<|Key×V):It :=
 ⟨λi H=>H a=eL (.frz o<|.dK ps)/\i<ps.length,λi H v H'=>H'=H/\∃k x,ps[i]?=eL (k,x)/\v=kV k,λi H=>H a=eL (.frz o<|.dK ps)/\ps.length<=i⟩
variable {tg:Expr}
def As{K:Frag}(a it:È)(hd:o.data=.dict ds ep) :
  Turn P w K tg (Itk a o ps) [it] it (λi h=>h.IsKeyIter it a i ps.length ep) where
 mem:=by simp
 obj:=λi h st b hb=>by
  obtain⟨ob,h1,_,h2⟩:=st;have q:b=it:=by simpa using hb
  subst q;exact⟨ob,h1,λv z=>by rw[h2]at z;cases z⟩
 keep:=λi h h' st k=>st.at λo e=>k it (by simp) o e
 item:=by intro X hP hw hK hc i Á s σ H E I hf st hg;subst hP hw hK;obtain⟨e,hi⟩:=hg;obtain⟨vs,Ŵ,da⟩:=XF I e hd;have hl:ps.length=vs.length:=Ŵ.length;have hx:ps[i]?=eL ps[i]:=É hi;obtain⟨u,hu,ru⟩:=Ŵ.at (k:=ps[i].1) (x:=ps[i].2) hx;rw[hl]at st;refine wpAny_pyNext_dict_item st da hu λkey h3 hk st3 hs=>?_;have I3:Inv X Á σ H {s with heap:=h3,toks:=s.toks}:=I.turnedL (t':=s.toks) (ch:=[it]) (λb ob hb q=>hs.extBut b ob (λz=>hb<|by simp[z]) q) hf;obtain⟨ob,ho,aD,hda⟩:=id st3;refine⟨key,rfl,eV (s:={s with heap:=h3,toks:=s.toks}) ho aD hda (by decide) ⟨kV ps[i].1,H,I3,Dx hk,⟨rfl,_,_,hx,rfl⟩,?_,λb hb=>(hf b hb).1⟩⟩;show h3.IsKeyIter it a (i+1) ps.length ep;rw[hl];exact st3
 done:=by
  intro X hP hw hK hc i Á s σ H E I hf st hg;subst hP hw hK;obtain⟨e,hi⟩:=hg;obtain⟨vs,Ŵ,da⟩:=XF I e hd;have hl:ps.length=vs.length:=Ŵ.length;rw[hl]at st hi;refine wpAny_pyNext_dict_end (I.ok.hd hc) st da (Ş hi) λh' he'=>⟨rfl,?_⟩
  exact I.turnedL (t':=s.toks) (ch:=[it]) (λb ob hb q=>he' b ob (λz=>hb<|by simp[z]) q) hf
 self:=λA i s Q E st h=>wpAny_pyIter_keyiter st h
abbrev HB(X:Cx)(J:È->Obj->List (Key×V)->It)(td:TE):TI:=λσ H R=>td σ H λx H1=>∃a ps,x=.ref a/\H1 a=eL (.dK ps)/\∀o,(∀o u,X.H₀ a≠eL (.frz o u))->R (J a o ps) (upd H1 a<|.frz o<|.dK ps)
variable {d:Expr} {td:TE}
def Db{Ń Ŏ:Pos}(hd:PE X d td)(aM:ĥ d "items" X.env (eval d X.env)=eval d X.env)(aN:(Ń.endLine==Ŏ.line)=eN) :
  PI X (.Tuple es kk tp) (.Call (.Attribute d "items" Ń) [] [] Ŏ) (HB X Iti td):=by
 intro Á s σ H R I h;refine wpAny_Call_method0_late aM aN<|thn (hd Á s σ H _ I h) λv s1 ⟨x,H1,I1,r1,a,ps,ex,ea,q1⟩=>?_;subst ex;obtain rfl:v=Value.ref a:=r1;obtain⟨t1,t2,t3⟩:=LD I1<|.inl ⟨ps,.inl ea⟩;refine⟨"dict","dict.items",PySem.F.plainAttrs_dict,PySem.F.slot_dict_items,PySem.F.type_dict_items,t1,t2,Calls.callWith_builtin rfl<|PySem.evalArgs_none ?_⟩;obtain⟨z,hsm,vs,Ŵ,dd⟩:=Ja I1.hok ea;refine η PySem.F.slot_dict_items dd.typeIs PySem.F.entry_dict_items (PySem.F.args_dict_items_1 _) (meets_dict_items (Zd X.prog X.w) a hsm) ⟨⟨vs,dd⟩,?_⟩;have I2:Inv X Á σ H1 {s1 with heap:=s1.heap.push {cls:=.type "dict_items",data:=.fields #[.ref a]}}:=I1.kept (t':=s1.toks) λb o e=>Å _ e;obtain⟨z2,hsm2,vs2,rel2,cZ⟩:=Ja I2.hok ea;obtain⟨ep,da⟩:=cZ.dictAt;refine wpAny_pyIter_items (s:={s1 with heap:=s1.heap.push {cls:=.type "dict_items",data:=.fields #[.ref a]}}) (d:=a) ⟨_,Ñ _ rfl,rfl,rfl⟩ da ?_;have I3:=I2.kept (t':=s1.toks) (h':=(s1.heap.push {cls:=.type "dict_items",data:=.fields #[.ref a]}).push {cls:=.type "dict_itemiterator",data:=.fields #[.none,.bool eP,.ref a,.int 0 0,.int vs2.length 0,.int ep 0,.none,.none]}) λb o e=>Å _ e;obtain⟨ob,ds,ho,_,hdat,_⟩:=da;have I4:=I3.freeze ea<|Å _ ho;refine⟨_,[_],_,_,_,rfl,I4,Om a _ hdat,⟨.none,.none,?_⟩,λb hb=>?_,q1 ob λo u z=>by have:=I1.base.frzs a o u z;rw[ea]at this;cases this⟩
 .rw[rel2.length];exact Ñ _ rfl
 .have e:b=(s1.heap.push {cls:=.type "dict_items",data:=.fields #[.ref a]}).objs.size:=by simpa using hb
  subst e;have hn:=I2.hok.fresh<|Ì (s1.heap.push {cls:=.type "dict_items",data:=.fields #[.ref a]}).objs.size;exact I2.fpOk (Ì _) (by rw[eQ<|by intro z;rw[z]at hn;rw[ea]at hn;cases hn];exact hn)
def ES(hd:PE X d td):PI X tg d<|HB X Itk td:=by
 intro Á s σ H R I h;refine thn (hd Á s σ H _ I h) λv s1 ⟨x,H1,I1,r1,a,ps,ex,ea,q1⟩=>?_;subst ex;obtain rfl:v=Value.ref a:=r1;obtain⟨z,hsm,vs,Ŵ,dd⟩:=Ja I1.hok ea;obtain⟨ep,da⟩:=dd.dictAt;refine wpAny_pyIter_dict hsm da ?_;have I2:=I1.kept (t':=s1.toks) (h':=s1.heap.push {cls:=.type "dict_keyiterator",data:=.fields #[.ref a,.int 0 0,.int vs.length 0,.int ep 0]}) λb o e=>Å _ e;obtain⟨ob,ds,ho,_,hdat,_⟩:=da;have I3:=I2.freeze ea<|Å _ ho;refine⟨_,[_],_,_,_,rfl,I3,As a _ hdat,⟨_,Ñ _ rfl,rfl,by rw[Ŵ.length];rfl⟩,λb hb=>?_,q1 ob λo u z=>by have:=I1.base.frzs a o u z;rw[ea]at this;cases this⟩;have e:b=s1.heap.objs.size:=by simpa using hb
 subst e;have hn:=I1.hok.fresh<|Ì s1.heap.objs.size;exact I1.fpOk (Ì _) (by rw[eQ<|by intro z;rw[z]at hn;rw[ea]at hn;cases hn];exact hn)
abbrev TupsH(I S:È)(items:Array Â)(val:Nat->List Int)(h:þ):Prop:=∀i v,items[i]?=eL v->∃a ò,v=.ref a/\a≠I/\a≠S/\ay h a ò/\ù ò.toList (val i)
def TupsH.keep{I S:È}{items:Array Â}{val:Nat->List Int}{h h':þ}(t:TupsH I S items val h)(k:∀b o,b≠I->b≠S->h.get? b=eL o->h'.get? b=eL o):TupsH I S items val h':=λi v e=>by obtain⟨a,ò,h1,h2,h3,⟨o,q1,q2⟩,h5⟩:=t i v e;exact⟨a,ò,h1,h2,h3,⟨o,k a o h2 h3 q1,q2⟩,h5⟩
abbrev btL(val:Nat->List Int)(i j:Nat):Bool:=HT.lexLt (val i)<|val j
section
variable {prog:ß}{w:ñ}{A:ā}{R:bz->Ä->Prop}{I l:È}{items:Array Â}{val:Nat->List Int}{kw:List (Str×Â)}{fp:List È}{St:Nat->þ->Prop}
def Ar(W:Walks prog w A.in1 I fp [I] items.size (λi v=>items[i]?=eL v) St)(hu:A.units+1<Ĩ)(S:È)(hSI:S≠I)(hSf:S∉fp) :
  ∀(k j:Nat) (s:Ä) (vb:Â) (c:Nat),items.size - (j+1)=k->j+1<=items.size->St (j+1) s.heap->TupsH I S items val s.heap->items[ļ (btL val) j]?=eL vb->
  s.heap.get? S=eL {cls:=.type "list",dict:=eM,data:=.seq #[vb,vb] c,slots:=#[]}->
  (∀v h' tk,items[ļ (btL val)<|items.size - 1]?=eL v->(∀b o,b≠I->b≠S->s.heap.get? b=eL o->h'.get? b=eL o)->R (.ok<|.ret v) {s with heap:=h',toks:=tk})->
  codeAny (Ù prog w) A (.builtin "min.loop" ⟨[.ref I,.none,.ref S],kw⟩) R s:=by
 have bq:(toString "min" ++ toString ".loop" : String) = "min.loop":=by decide
 have hSw:S∉[I]:=by simp[hSI]
 intro k;induction k with
 |zero =>
  intro j s vb c hk hj ů hT hPb hS hR;have hin:j+1=items.size:=by lia
  refine į PySem.F.entry_min_loop ?_;rw[ď PySem.F.plain_min_loop _];show wpAny _ A.in1 (Ϟ (.ref S) >>= _) _ _ s;refine À<|ň hS rfl ?_;show wpAny _ A.in1 (tryCatch (ε<|.ref I) _ >>= _) _ _ s;refine À<|Ω<|W.done s _ _ (hin▸ů) λh' tk bO=>?_;have hS':=bO S _ hSw hS;show wpAny _ A.in1 (dP S (λ_=>#[]) >>= _) _ _ _;refine À ?_;refine Κ hS' rfl<|À<|bL<|Ç ?_;refine hR vb _ tk (by rw[<-hin];exact hPb) λb o hbw d6 e=>(í _ _<|Ne.symm d6).trans (bO b o (by simpa using hbw) e)
 |succ k ih =>
  intro j s vb c hk hj ů hT hPb hS hR;have ϙ:j+1<items.size:=by lia
  refine į PySem.F.entry_min_loop ?_;rw[ď PySem.F.plain_min_loop _];show wpAny _ A.in1 (Ϟ (.ref S) >>= _) _ _ s;refine À<|ň hS rfl ?_;show wpAny _ A.in1 (tryCatch (ε<|.ref I) _ >>= _) _ _ s;refine À<|Ω<|W.item (j+1) s _ _ ϙ ů λv h' tk hP hst' bO=>?_;have hS':=bO S _ hSw hS;have d7:TupsH I S items val h':=hT.keep λb o h1 _ e=>bO b o (by simpa using h1) e;have hP:items[j+1]?=eL v:=hP;obtain⟨a,ò,rfl,_,_,pa,ia⟩:=d7 _ _ hP;obtain⟨b0,bE,rfl,_,_,pb,ib⟩:=d7 _ _ hPb;show wpAny _ A.in1 (tryCatch (ŋ [.ref a,.ref a]<|ë .Lt (.ref a) (.ref b0) >>= _) _ >>= _) _ _ _;refine À<|Ω<|Ě<|À<|HT.lt_tupInts pa pb ia ib hu ?_;refine À<|Ě<|Đ ?_;refine À<|bL<|Ç ?_;cases hb:HT.lexLt (val<|j+1) (val<|ļ (btL val) j)with
  |true =>
   have aU:btL val (j+1) (ļ (btL val) j)=eN:=hb;simp only[if_true];refine À ?_;refine Κ hS' rfl<|À<|bL ?_;rw[bq];refine Ç ⟨ő PySem.F.plain_min_loop _,ih (j+1) _ (.ref a) _ (by lia) ϙ (W.frame _ _ _ hst' λb hbf o e=>?_) (d7.keep λb o _ h2 e=>(í _ _<|Ne.symm h2).trans e) (by simp only[ļ,aU,if_true];exact hP) (Ď _ hS' rfl)
     λv' h'' tk'' hP' hk''=>?_⟩
   .exact(í _ _ λh:S=b=>hSf<|by rw[h];exact hbf).trans e
   .exact hR v' h'' tk'' hP' λb o hbw d6 e=>hk'' b o hbw d6 ((í _ _<|Ne.symm d6).trans<|bO b o (by simpa using hbw) e)
  |false =>have aU:btL val (j+1) (ļ (btL val) j)=eP:=hb;simp only[ĭ,if_false];refine À<|bL ?_;rw[bq];refine Ç ⟨ő PySem.F.plain_min_loop _,ih (j+1) _ (.ref b0) c (by lia) ϙ hst' d7 (by simp only[ļ,aU,ĭ,if_false];exact hPb) hS' λv' h'' tk'' hP' hk''=>?_⟩;exact hR v' h'' tk'' hP' λb o hbw d6 e=>hk'' b o hbw d6 (bO b o (by simpa using hbw) e)
variable {s:Ä} {c:Nat}
def NO(W:Walks prog w A.in1 I fp [I] items.size (λi v=>items[i]?=eL v) St)(hu:A.units+1<Ĩ)(S:È)(hSI:S≠I)(hSf:S∉fp)(hn:0<items.size)(ů:St 0 s.heap)(hT:TupsH I S items val s.heap)
  (hS:s.heap.get? S=eL {cls:=.type "list",dict:=eM,data:=.seq #[] c,slots:=#[]})
  (hR:∀v h' tk,items[ļ (btL val)<|items.size - 1]?=eL v->(∀b o,b≠I->b≠S->s.heap.get? b=eL o->h'.get? b=eL o)->R (.ok<|.ret v) {s with heap:=h',toks:=tk}) :
  codeAny (Ù prog w) A (.builtin "min.loop" ⟨[.ref I,.none,.ref S],kw⟩) R s:=by
 have bq:(toString "min" ++ toString ".loop" : String) = "min.loop":=by decide
 have hSw:S∉[I]:=by simp[hSI]
 refine į PySem.F.entry_min_loop ?_;rw[ď PySem.F.plain_min_loop _];show wpAny _ A.in1 (Ϟ (.ref S) >>= _) _ _ s;refine À<|ň hS rfl ?_;show wpAny _ A.in1 (tryCatch (ε<|.ref I) _ >>= _) _ _ s;refine À<|Ω<|W.item 0 s _ _ hn ů λv h' tk hP hst' bO=>?_;have hS':=bO S _ hSw hS;have d7:TupsH I S items val h':=hT.keep λb o h1 _ e=>bO b o (by simpa using h1) e;show wpAny _ A.in1 (dP S (λ_=>#[v,v]) >>= _) _ _ _;refine À ?_;refine Κ hS' rfl ?_;rw[bq];refine Ç ⟨ő PySem.F.plain_min_loop _,Ar W hu S hSI hSf _ 0 _ v _ rfl hn (W.frame _ _ _ hst' λb hbf o e=>?_) (d7.keep λb o _ h2 e=>(í _ _<|Ne.symm h2).trans e) hP (Ď _ hS' rfl) λv' h'' tk'' hP' hk''=>?_⟩
 .exact(í _ _ λh:S=b=>hSf<|by rw[h];exact hbf).trans e
 .exact hR v' h'' tk'' hP' λb o hbw d6 e=>hk'' b o hbw d6 ((í _ _<|Ne.symm d6).trans<|bO b o (by simpa using hbw) e)
def Az(hh:A.handled=eM)(hlI:l≠I)(S:È)(hSI:S≠I)(hn:items.size=0){nm:Str}{d:Â}(ů:s.heap.IsListIter I l 0/\s.heap.IsList l items)
  (hS:s.heap.get? S=eL {cls:=.type "list",dict:=eM,data:=.seq #[] c,slots:=#[]})
  (hR:∀h' tk,(∀b o,b≠I->s.heap.get? b=eL o->h'.get? b=eL o)->R (.ok<|.ret d) {s with heap:=h',toks:=tk}) :
  codeAny (Ù prog w) A (.builtin "min.loop" ⟨[.ref I,.none,.ref S],[(nm,d)]⟩) R s:=by
 have W:=Walks.list (prog:=prog) (w:=w) (A:=A.in1) hh I l hlI items;refine į PySem.F.entry_min_loop ?_;rw[ď PySem.F.plain_min_loop _];show wpAny _ A.in1 (Ϟ (.ref S) >>= _) _ _ s;refine À<|ň hS rfl ?_;show wpAny _ A.in1 (tryCatch (ε<|.ref I) _ >>= _) _ _ s;refine À (Ω<|W.done s _ _ (by rw[hn];exact ů) λh' tk bO=>?_);show wpAny _ A.in1 (rule _ >>= λ_=>ret d) _ _ _;exact À (Χ<|Ç<|hR h' tk λb o hb e=>bO b o (by simpa using hb) e)
end
def UL(a:Â):ϩ "min" ⟨[a],[(gu "default",.none)]⟩:=by unfold ϩ;kernel_rfl
def JO(bt:Nat->Nat->Bool):∀k,ļ bt k<=k
 |0=>Ì _
 |k+1=>by
  unfold ļ;split
  .exact Ì _
  .exact ť<|JO bt k
def K9:∀{xs:List V}{us:List Â}{i:Nat}{u:Â},fZ xs us->us[i]?=eL u->∃x,xs[i]?=eL x/\RelV x u
 |_,_,_,_,.nil,e=>by simp at e
 |_,_,0,_,.cons r _,e=>by simp at e;subst e;exact⟨_,rfl,r⟩
 |_,_,i+1,_,.cons _ t,e=>by obtain⟨x,h1,h2⟩:=K9 (i:=i) t (by simpa using e);exact⟨x,by simpa using h1,h2⟩
section
variable {X:Cx}
def UJ{Á:List (È×Obj)}{s:Ä}{σ:St}{H:Hp}{a:È}{xs:List V}{ľ:List (List Int)}{Q:VK}(hc:X.calm=eN)(hu:X.A.units+1<Ĩ)(I:Inv X Á σ H s)(hl:fX X.K H a xs)(hr:ľ.length=xs.length)
  (ht:∀i,i<ľ.length->∃p,xs[i]?=eL (.ref p)/\fY X.K H p ((ľ.getD i []).map V.int))
  (q0:xs=[]->Q .non H) (q1:xs≠[]->∀x,xs[ļ (btL λi=>ľ.getD i [])<|xs.length - 1]?=eL x->Q x H) :
  wpAny (Ù X.prog X.w) X.A (call (.builtin "min") [.ref a] [(gu "default",.none)]) (EP X Á σ Q) X.xe s:=by
 have bq:(toString "min" ++ toString ".loop" : String) = "min.loop":=by decide
 obtain⟨ò,rv,pl,hz⟩:=I.list hl;have Ē:=rv.length;have dF:=pl.isList;obtain⟨ol,hol,_⟩:=id dF;have hll:a<s.heap.objs.size:=Õ hol;refine PyProof.Rows.kmk_tree PySem.F.kind_min PySem.F.plain_min PySem.F.entry_min (UL _) ?_;show wpAny _ X.A.in1 (Builtin.Builtins.bindParams "min" ["key","default"] 0 ⟨[],[(gu "default",.none)]⟩ >>= _) _ _ s;refine À (aa (show Builtin.Builtins.bindParams "min" ["key","default"] 0 ⟨[],[(gu "default",.none)]⟩=pure [eM,eL .none] from rfl) ?_);refine À<|Ç ?_;refine À<|ϒ dF ?_;refine À<|du ?_<|Ŀ _;rw[bq];have hS:(s.heap.push {cls:=.type "list_iterator",data:=.fields #[.ref a,.int 0 0]}).objs.size=s.heap.objs.size+1:=size_push' ..;have hlI:a≠s.heap.objs.size:=ä hll;have hSI:(s.heap.push {cls:=.type "list_iterator",data:=.fields #[.ref a,.int 0 0]}).objs.size≠s.heap.objs.size:=by rw[hS];exact Ŭ<|ı _
 have hSl:(s.heap.push {cls:=.type "list_iterator",data:=.fields #[.ref a,.int 0 0]}).objs.size≠a:=by rw[hS];exact Ŭ<|ķ hll
 have kk:∀b o,s.heap.get? b=eL o->((s.heap.push {cls:=.type "list_iterator",data:=.fields #[.ref a,.int 0 0]}).push<|Υ "list" #[] 0).get? b=eL o:=λb o e=>Å _<|Å _ e;have gI:((s.heap.push {cls:=.type "list_iterator",data:=.fields #[.ref a,.int 0 0]}).push<|Υ "list" #[] 0).get? s.heap.objs.size=eL {cls:=.type "list_iterator",data:=.fields #[.ref a,.int 0 0]} :=
  Å _ (Ñ _ rfl)
 have gS:((s.heap.push {cls:=.type "list_iterator",data:=.fields #[.ref a,.int 0 0]}).push<|Υ "list" #[] 0).get? (s.heap.push {cls:=.type "list_iterator",data:=.fields #[.ref a,.int 0 0]}).objs.size=eL (Υ "list" #[] 0):=Ñ _ rfl;have ϯ:∀b o,s.heap.get? b=eL o->b≠s.heap.objs.size/\b≠(s.heap.push {cls:=.type "list_iterator",data:=.fields #[.ref a,.int 0 0]}).objs.size:=λb o e=>by have:=Õ e;rw[hS];exact⟨ä this,ä<|ķ this⟩
 have ů:Heap.IsListIter ((s.heap.push {cls:=.type "list_iterator",data:=.fields #[.ref a,.int 0 0]}).push<|Υ "list" #[] 0) s.heap.objs.size a 0/\Heap.IsList ((s.heap.push {cls:=.type "list_iterator",data:=.fields #[.ref a,.int 0 0]}).push<|Υ "list" #[] 0) a ò.toArray:=by refine⟨⟨_,gI,rfl,rfl⟩,?_⟩;obtain⟨o,e,r⟩:=dF;exact⟨o,kk _ _ e,r⟩
 refine Ç ⟨ő PySem.F.plain_min_loop _,?_⟩;by_cases h0:xs=[]
 .have hi:ò.toArray.size=0:=by rw[Î,<-Ē,h0];rfl
  refine Az (I:=s.heap.objs.size) (A:=X.A) (l:=a) (items:=ò.toArray) (I.ok.hd hc) hlI _ hSI hi ů gS λh' tk hk=>?_;exact⟨.non,H,I.kept (t':=tk) λb o e=>hk b o (ϯ b o e).1<|kk b o e,rfl,q0 h0⟩
 .have hi:0<ò.toArray.size:=by
   rw[Î,<-Ē];exact List.length_pos_iff.mpr h0
  refine NO (A:=X.A) (items:=ò.toArray) (val:=λi=>ľ.getD i []) (Walks.list (A:=X.A.in1) (I.ok.hd hc) s.heap.objs.size a hlI ò.toArray) hu _ hSI (λz=>(Æ.mp z).elim hSI λz=>hSl<|é.mp z) hi ů (λi v e=>?_) gS λv h' tk hv hk=>?_
  .have e:ò[i]?=eL v:=by simpa using e
   have hi':i<ľ.length:=by rw[hr,Ē];exact(Ó.mp e).1
   obtain⟨p,bY,hp2⟩:=ht i hi';obtain⟨x,hx,rx⟩:=K9 rv e;rw[bY]at hx;cases hx;obtain rfl:v=Value.ref p:=rx;obtain⟨tt,r2,⟨o2,e2,rest⟩,_⟩:=I.tuple hp2;exact⟨p,tt.toArray,rfl,(ϯ p o2 e2).1,(ϯ p o2 e2).2,⟨o2,kk _ _ e2,rest⟩,ZE r2⟩
  .have hv:ò[ļ (btL λi=>ľ.getD i [])<|xs.length - 1]?=eL v:=by rw[Ē];simpa using hv
   obtain⟨x,hx,rx⟩:=K9 rv hv;exact⟨x,H,I.kept (t':=tk) λb o e=>hk b o (ϯ b o e).1 (ϯ b o e).2<|kk b o e,rx,q1 h0 x hx⟩
abbrev Qn(K:Frag)(ta:TA):TE:=λσ H Q=>ta σ H λvs H1=>∃a xs,∃ľ:List<|List Int,vs=[.ref a]/\fX K H1 a xs/\ľ.length=xs.length/\
 (∀i,i<ľ.length->∃p,xs[i]?=eL (.ref p)/\fY K H1 p ((ľ.getD i []).map V.int))/\(xs=[]->Q .non H1)/\(xs≠[]->∀x,xs[ļ (btL λi=>ľ.getD i [])<|xs.length - 1]?=eL x->Q x H1)
def FK{e:Expr}{ta:TA}{p ç kp kpos:Pos}{kk:Nat}(hc:X.calm=eN)(hu:X.A.units+1<Ĩ)(hg:Gl X "min")(hm:X.mg "min" = eM)(ha:PA X [e] ta)(hs:Ð [e] X.env=[(eP,eval e X.env)]) :
  PE X (.Call (.Name "min" p) [e] [⟨eL "default",.Constant .none kk kp,kpos⟩] ç) (Qn X.K ta):=by
 intro Á s σ H Q I h;refine Ğ (YW (u:=.builtin "min") I hg hm (by kernel_rfl) ?_);refine PyProof.Rows.callWith_kw (e:=e) (rest:=[]) ?_ (by rw[hs];rfl) (by rw[hs];rfl) rfl rfl;refine thn (ha ç Á s σ H _ I h) λus s1 ⟨vs,H1,I1,r1,a,xs,ľ,ev,hl,hr,ht,q0,q1⟩=>?_;subst ev;obtain⟨u,rfl,ru⟩:=YG r1;cases ru;refine PyProof.Rows.kws_cons<|thn (CN Á s1 σ H1 (λv H2=>v=.non/\H2=H1) I1 ⟨rfl,rfl⟩) λv s2 ⟨x,H2,I2,r2,e1,e2⟩=>PyProof.Rows.kws_nil ?_;subst e1 e2;obtain rfl:v=Value.none:=r2;exact UJ hc hu I2 hl hr ht q0 q1
def XR{P:ß}{w:ñ}:∀{ns:List Int}{vs:List (Key×Â)}{Ĵ:List Â},vs.map (·.1)=ns.map Sum.inl->Ĵ.length=vs.length->(∀(j:Nat) (v:Â),Ĵ[j]?=eL v->∃(k:Key) (x:Â),vs[j]?=eL (k,x)/\(Zd P w).is k v=eN)->ù Ĵ ns
 |[],[],[],_,_,_=>.nil
 |[],_::_,_,h,_,_=>by cases h
 |_::_,[],_,h,_,_=>by cases h
 |[],[],_::_,_,h,_=>by cases h
 |_::_,_::_,[],_,h,_=>by cases h
 |n::ns,p::vs,u::Ĵ,h1,h2,h3=>by rw[Ï,Ï]at h1;injection h1 with h1 h1';obtain⟨k,x,e1,e2⟩:=h3 0 u rfl;simp at e1;subst e1;have h1:k=Sum.inl n:=h1;subst h1;obtain⟨t,rfl⟩:∃t,u=Value.int n t:=Dx (k:=Sum.inl n) (u:=u) e2;exact .cons n t (XR (P:=P) (w:=w) h1' (by simpa using h2) λj v e=>by simpa using h3 (j+1) v (by simpa using e))
def Mr(hc:X.calm=eN):eY X (.builtin "sorted") (λxs H Q=>∃p kvs,∃ns:List Int,xs=[.ref p]/\Rd H p (.dK kvs)/\kvs.map (·.1)=ns.map Sum.inl/\ns.length<64/\∀l,H l=eM->Q (.ref l) (upd H l<|.lst<|(sortI ns).map V.int)):=by
 intro Á s σ H xs us Q I r h;obtain⟨p,kvs,ns,rfl,hp,hk,h64,q⟩:=h;obtain⟨u,rfl,rx⟩:=YG r;cases rx;obtain⟨z,hsm,vs,Ŵ,dd⟩:=Xo I.hok hp;obtain⟨ep,da⟩:=dd.dictAt;have Ē:vs.length=ns.length:=by have:=congrArg List.length hk;simpa[Ŵ.length]using this
 refine Calls.call_function_entry kind_sorted plain_sorted entry_sorted (args_sorted1 _) ?_;unfold Builtin.«sorted»;refine À (m:=checkCount "sorted" 1 1 _)<|Ç ?_;refine À (PySem.W.kdu_collect (A:=X.A.in1) (PySem.W.kdl_dict (knd:=Zd X.prog X.w) (kvs:=vs) (ep:=ep) hsm) (I.ok.hd hc) da (by rw[<-Ŵ.length];exact z) λh' tk Ĵ hkeep hacc=>?_);have hl:Ĵ.toList.length=vs.length:=by rw[ï];exact hacc.1
 refine À (du ?_<|by rw[hl,<-Ŵ.length];exact z);have hI:ù Ĵ.toList ns:=XR (P:=X.prog) (w:=X.w) (by rw[<-Ŵ.keys];exact hk) hl λj v e=>hacc.2 j v (by rw[<-č];exact e);have hoL:(h'.push<|Υ "list" Ĵ.toList.toArray 0).get? h'.objs.size=eL (Υ "list" Ĵ.toList.toArray 0):=Ñ _ rfl;have I1:Inv X Á σ H {s with heap:=h',toks:=tk}:=I.kept hkeep;refine À (Ě<|Ĉ slot_list_sort ⟨_,hoL,rfl⟩ entry_list_sort (list_sort_tree hoL hI (by rw[hl,Ē];exact h64) λout cg a1 a2 a3=>⟨_,rfl,?_⟩)<|args_list_sort _);have e:=Yx a2 a3;subst e;obtain⟨n,he⟩:=sortedHeap_at (out:=out) hoL;refine Ç ⟨_,rfl,.ref h'.objs.size,_,I1.laid (a:=h'.objs.size) (o:=.lst<|(sortI ns).map V.int) (t':=tk) (λb o e=>?_) (Ì _) ?_,rfl,q _<|I1.hok.fresh<|Ì _⟩
 .have e:h'.get? b=eL o:=e;have hb:=Õ e;rw[sortedHeap_old (ä hb)<|by rw[size_push'];exact ķ hb];exact Å _ e
 .exact⟨by rw[Ã,YB];unfold Ø;lia,out.toList,n,Yt a1,by simpa[Υ]using he⟩
end
end L2
namespace Srt
open PySem.W PyProof.Rows
abbrev ok(n:Nat)(lt:Nat->Nat->Bool){α:Type}:KasT α->(α->Prop)->Prop
 |.ret a,Q=>Q a
 |.ask i j k,Q=>i<n/\j<n/\ok n lt (k<|lt i j) Q
section
variable {n:Nat}{lt:Nat->Nat->Bool}
abbrev K(p:Array Nat)(k:Nat):Nat:=p.getD k 0
structure Good(n:Nat)(p:Array Nat):Prop where
 sz:p.size=n
 pm:p.toList.Perm<|List.range n
variable {p:Array Nat}
def Good.at(g:Good n p)(h0:0<n)(k:Nat):K p k<n:=by
 unfold K;by_cases h:k<p.size
 .have e:p.getD k 0=p[k]:=by simp[Α,h]
  rw[e];have:p[k]∈List.range n:=g.pm.mem_iff.mp (by simp);exact Ź.mp this
 .have e:p.getD k 0=0:=by simp[Α,h]
  rw[e];exact h0
def Good.rev(g:Good n p)(i j:Nat):Good n<|kas_rev p i j:=⟨(mirror_size ..).trans g.sz,(Array.perm_iff_toList_perm.mp<|mirror_perm ..).trans g.pm⟩
end
end Srt
namespace L2
open PySem PySem.Spec PyProof.Rows PySem.W
section
variable {prog:ß}{w:ñ}{A:ā}{E:Â->Ä->Prop}{s:Ä}
abbrev RowsAt(h:þ)(vs:List Â)(ľ:List<|List Int):Prop:=ľ.length=vs.length/\∀i,i<vs.length->∃p o ò n,vs.getD i Value.none=.ref p/\h.get? p=eL o/\o.cls=.type "tuple"/\o.data=.seq ò n/\ù ò.toList (ľ.getD i [])/\ľ.getD i []≠[]
def RowsAt.keep{h h':þ}{vs:List Â}{ľ:List (List Int)}(r:RowsAt h vs ľ)(k:∀b o,h.get? b=eL o->o.cls=.type "tuple"->h'.get? b=eL o):RowsAt h' vs ľ:=⟨r.1,λi hi=>by
  obtain⟨p,o,ò,n,h1,h2,h3,h4,h5⟩:=r.2 i hi
  exact⟨p,o,ò,n,h1,k p o h2 h3,h3,h4,h5⟩⟩
end
end L2
namespace Snd
open PySem L2
variable {i:Inf}{X:Cx}{Φ:gf.Fs}
def NL{H:Hp}:∀{kvs:List (gf.Val×gf.Val)}{ps:List (Key×V)}{ns:List Int},RKs i.K H kvs ps->gf.keysOf kvs=eL ns->ps.map (·.1)=ns.map Sum.inl
 |_,_,ns,.nil,e=>by have e:eL []=eL ns:=e;cases e;rfl
 |(k,v)::kvs,_,ns,.cons (c:=c) hk _ t,e=>by
  have e:gf.eX (k::kvs.map (·.1))=eL ns:=e;cases k with
  |int j =>
   have e:(gf.eX (kvs.map (·.1))).map (j :: ·)=eL ns:=e;obtain⟨ms,z,rfl⟩:=Ò.mp e;have ih:=NL (ns:=ms) t z;cases c with
   |inl l =>have hk:j=l:=hk;subst hk;rw[Ï,Ï,ih]
   |inr _=>exact(show False from hk).elim
  |_=>cases e
def RVs.perm{H:Hp}{vs:List gf.Val}{xs:List V}(r:RVs i.K H vs xs):∀(ps:List Nat),(∀k∈ps,k<vs.length)->RVs i.K H (ps.map λk=>vs.getD k .non) (ps.map λk=>xs.getD k .non)
 |[],_=>.nil
 |k::ps,h=>by have hk:=h k è;obtain⟨x,h1,h2⟩:=r.get<|É hk;refine .cons ?_<|RVs.perm r ps λj hj=>h j<|Ú _ hj;show RV i.K H (vs.getD k .non) (xs.getD k .non);rw[ý,ý,É hk,h1];exact h2
def Kk:∀{ys:List gf.Val}{ns:List Int},gf.eX ys=eL ns->ys=ns.map .int
 |[],_,e=>by cases e;rfl
 |y::ys,ns,e=>by
  cases y with
  |int j =>obtain⟨ms,z,rfl⟩:=Ò.mp (show(gf.eX ys).map (j :: ·)=eL ns from e);rw[Ï,<-Kk z]
  |_=>cases e
def Nl{H:Hp}:∀{xs:List gf.Val}{us:List V}{ľ:List (List Int)},RVs i.K H xs us->gf.rowsOf xs=eL ľ->ľ.length=us.length/\(∀n,n<ľ.length->∃p,us[n]?=eL (.ref p)/\fY i.K H p ((ľ.getD n []).map V.int))/\xs=ľ.map λr=>.tup (r.map .int)
 |_,_,ľ,.nil,e=>by have e:eL []=eL ľ:=e;cases e;exact⟨rfl,λn h=>gp h<|Nat.not_lt_zero _,rfl⟩
 |v::xs,_,ľ,.cons r t,e=>by
  cases v with
  |tup ys =>
   obtain⟨ns,z1,e⟩:=ê.mp (show(gf.eX ys).bind (λns=>(gf.rowsOf xs).map (ns :: ·))=eL ľ from e);obtain⟨rs,z2,rfl⟩:=Ò.mp e;obtain⟨h1,h2,h3⟩:=Nl t z2;cases r with
   |tup hp hr =>
    have:=ZG z1 hr;subst this;refine⟨by rw[Ë,Ë,h1],λn hn=>?_,?_⟩
    .cases n with
     |zero=>exact⟨_,rfl,Zj hp⟩
     |succ n=>exact h2 n (by simpa using hn)
    .rw[Ï,<-h3];have:ys=ns.map .int:=Kk z1;rw[this]
  |_=>cases e
def Oc:fU i .sortedI (λxs H Q=>(∃p,∃ns:List Int,xs=[.ref p]/\fX i.K H p (ns.map V.int)/\ns.length<64/\∀l,H l=eM->Q (.ref l) (upd H l<|.lst<|(L2.sortI ns).map V.int))\/
    (∃p kvs,∃ns:List Int,xs=[.ref p]/\Rd H p (.dK kvs)/\kvs.map (·.1)=ns.map Sum.inl/\ns.length<64/\∀l,H l=eM->Q (.ref l) (upd H l<|.lst<|(L2.sortI ns).map V.int))):=by
 intro vs G H xs Q Qm g r w c;obtain⟨v,rfl,w⟩:=Jx w;obtain⟨x,rfl,rx⟩:=r.inv1;have key:∀(ns:List Int),(if ns.length<64 then gf.Rs.new (.lst<|(gf.sortI ns).map .int)else .no).wp G Qm->ns.length<64/\∀l,H l=eM->Q (.ref l) (upd H l<|.lst<|(L2.sortI ns).map V.int):=λns w=>by
  split at w
  .rename_i h64;exact⟨h64,Yl g (Ma w) c λp hp=>⟨_,eR,RVs.ints _⟩⟩
  .exact(Zp w).elim
 cases v with
 |ref a =>
  cases rx.ref_inv
  replace w:(gf.biSortedI G<|.ref a).wp G Qm:=w
  unfold gf.biSortedI gf.sortAny at w;dsimp only at w;cases z:G a with
  |none=>rw[z]at w;exact(Zp w).elim
  |some o =>
   rw[z]at w;cases o with
   |lst ys =>
    cases z2:gf.eX ys with
    |none=>simp only[z2]at w;exact(Zp w).elim
    |some ns =>simp only[z2]at w;obtain⟨us,h1,h2⟩:=g a _ z;have:=ZG z2 h2;subst this;exact .inl ⟨a,ns,rfl,fX.of h1,key ns w⟩
   |dct kvs =>
    cases z2:gf.keysOf kvs with
    |none=>simp only[z2]at w;exact(Zp w).elim
    |some ns =>simp only[z2]at w;obtain⟨ps,h1,h2⟩:=g a _ z;exact .inr ⟨a,ps,ns,rfl,.inl h1,NL h2 z2,key ns w⟩
   |_=>exact(Zp w).elim
 |scr ns =>
  cases rx with
  |scr h=>exact .inl ⟨_,ns,rfl,Z1 h,key ns w⟩
 |_=>exact(Zp w).elim
end Snd
namespace Snd
open PySem L2 PyProof.Rows
variable {i:Inf}{X:Cx}{Φ:gf.Fs}
def KD:∀(ns:List Int) (a:Int),a∈gf.dedup ns↔a∈ns
 |[],a=>Iff.rfl
 |x::xs,a=>by
  have ih:=KD xs a;unfold gf.dedup;simp only[Æ,Ċ,ih];constructor
  .rintro(h|h)
   .exact .inl h
   .exact .inr h.1
  .rintro(h|h)
   .exact .inl h
   .by_cases e:a=x
    .exact .inl e
    .exact .inr ⟨h,by simpa using e⟩
def Wp:∀ns:List Int,(gf.dedup ns).Nodup
 |[]=>ġ
 |x::xs=>by unfold gf.dedup;rw[Ă];refine⟨λh=>?_,List.Nodup.sublist Ļ<|Wp xs⟩;have:=(Ċ.mp h).2;simp at this
def Jk:∀(ns Ĵ:List Int),Ĵ.Nodup->(ns.foldl ţ Ĵ).Nodup/\∀a,a∈ns.foldl ţ Ĵ↔a∈Ĵ\/a∈ns
 |[],Ĵ,h=>⟨h,λa=>by simp⟩
 |x::xs,Ĵ,h=>by
  have h2:(ţ Ĵ x).Nodup/\∀a,a∈ţ Ĵ x↔a∈Ĵ\/a=x:=by
   unfold ţ;split
   .rename_i hc;have hm:x∈Ĵ:=by simpa using hc
    exact⟨h,λa=>⟨.inl,λz=>z.elim id λe=>e▸hm⟩⟩
   .rename_i hc;have hm:x∉Ĵ:=by simpa using hc
    refine⟨?_,λa=>by simp⟩;rw[å];refine⟨h,by simp,λa ha b hb=>?_⟩;rw[é.mp hb];exact λe=>hm<|e▸ha
  obtain⟨h3,h4⟩:=Jk xs (ţ Ĵ x) h2.1;refine⟨h3,λa=>?_⟩;rw[ű,h4,h2.2,Æ];constructor
  .rintro((z|z)|z)
   .exact .inl z
   .exact .inr<|.inl z
   .exact .inr<|.inr z
  .rintro(z|z|z)
   .exact .inl<|.inl z
   .exact .inl<|.inr z
   .exact .inr z
def BP(ns:List Int):(ϊ (λi=>ns.getD i 0) ns.length).Perm<|gf.dedup ns:=by
 have e:(List.range ns.length).map (λi=>ns.getD i 0)=ns:=by
  apply List.ext_getElem
  .simp
  .intro k h1 h2;simp at h1;simp[h1]
 unfold ϊ;rw[e];obtain⟨h1,h2⟩:=Jk ns [] ġ;refine(List.perm_ext_iff_of_nodup h1<|Wp ns).mpr λa=>?_;rw[h2,KD];simp
def Dq{G:gf.Hs}{H:Hp}{v:gf.Val}{x:V}{ns:List Int}(g:RH i G H)(r:RV i.K H v x)(e:gf.sortOf G v=eL ns):∃p,x=.ref p/\fX i.K H p (ns.map V.int):=by
 cases v with
 |ref a =>obtain⟨ys,z1,z2⟩:=ê.mp (show(gf.fe<|G a).bind gf.eX=eL ns from e);obtain⟨us,h1,h2⟩:=ZX g z1;have:=ZG z2 h2;subst this;exact⟨a,r.ref_inv,h1⟩
 |scr ms =>
  cases e;cases r with
  |scr h=>exact⟨_,rfl,Z1 h⟩
 |_=>cases e
def Ke:∀{xs:List gf.Val}{k n:Nat}{v:gf.Val},(gf.enumL k xs)[n]?=eL v->∃x,xs[n]?=eL x/\v=.tup [.int ((k+n:Nat):Int),x]
 |[],k,n,v,h=>by simp[gf.enumL]at h
 |x::xs,k,0,v,h=>by have h:eL (gf.Val.tup [.int k,x])=eL v:=h;cases h;exact⟨x,rfl,rfl⟩
 |x::xs,k,n+1,v,h=>by obtain⟨y,h1,h2⟩:=Ke (xs:=xs) (k:=k+1) (n:=n) (v:=v) (by simpa[gf.enumL]using h);refine⟨y,by simpa using h1,?_⟩;rw[h2,show k+1+n=k+(n+1) by lia]
def Kt:∀(xs:List gf.Val) (k:Nat),(gf.enumL k xs).length=xs.length
 |[],_=>rfl
 |x::xs,k=>by show(gf.enumL (k+1) xs).length+1=xs.length+1;rw[Kt xs]
variable {xs:List gf.Val}
def Dt{H0:Hp}{a:È}{us:List V}(ha:H0 a=eL (.tup us)\/KT i.K a us)(ra:RVs i.K H0 xs us):ItOk i H0 (Ite i.K a) (λ_=>True) (gf.enumL 0 xs) where
 go:=λn G H v k g e hv=>by obtain⟨x,hx,rfl⟩:=Ke hv;have h1:fY i.K H a us:=Zj<|ha.imp (k.t _ _) id;obtain⟨x',h5,h6⟩:=(ra.keep k).get hx;refine⟨⟨us,x',h1,h5⟩,λw H' ⟨p,e1,hp,e2⟩=>?_⟩;subst e1;have:=e2 us x' h1 h5;subst this;have k:=fm.new (o:=.tup [.int n,x']) hp;refine⟨k,WP g hp,.tup (.inl eR)<|.cons ?_<|.cons (h6.keep k) .nil⟩;rw[ŗ];exact .int _
 stop:=λn G H k g e hn=>by have h1:fY i.K H a us:=Zj<|ha.imp (k.t _ _) id;exact⟨us,h1,by rw[<-ra.length,<-Kt xs 0];exact hn⟩
def Os{v:gf.Val}(h:gf.tupOf v=eL xs):v=.tup xs:=by
 cases v with
 |tup ys=>cases h;rfl
 |_=>cases h
def EG{es:List Expr}{kk:Nat}{tp p ç:Pos}{e:Expr}{m:gf.E}(hK:X.K=i.K)(hg:Gl X "enumerate")(hm:X.mg "enumerate" = eM)(he:PE X e<|tE X i Φ m)(hs:Ð [e] X.env=[(eP,eval e X.env)]) :
  PI X (.Tuple es kk tp) (.Call (.Name "enumerate" p) [e] [] ç) (tIt X i Φ<|.enum m) :=
 (Bp hg hm (YD he fV hs) hs).imp λσ H R ⟨env,G,QI,Em,p,w,c⟩=>by
  change tE X i Φ m σ H _;refine one p w λv G1 H1 x k1 p1 rx q=>?_;obtain⟨xs,e1,q2⟩:=eU q;clear q;cases Os e1;rw[hK];cases rx with
  |tup hp hr=>exact⟨_,rfl,⟨_,Zj hp⟩,c _ _ G1 H1 _ k1 p1.hp (Dt hp hr) q2⟩
end Snd
namespace L2
open PySem PySem.Spec PyProof.Rows
open PySem.Builtin
section
variable {prog:ß}{w:ñ}{A:ā}{E:Â->Ä->Prop}
abbrev PairsH(I d:È)(items:Array Â)(aO:List<|Key×Â)(prog:ß)(w:ñ)(h:þ):Prop:=∀(i:Nat) (v:Â),items[i]?=eL v->∃(a:È) (key:Â) (p:Key×Â),v=.ref a/\a≠I/\a≠d/\aO[i]?=eL p/\ay h a #[key,p.2]/\(Zd prog w).is p.1 key=eN
def PairsH.keep{I d:È}{items:Array Â}{aO:List (Key×Â)}{h h':þ}(t:PairsH I d items aO prog w h)(k:∀b o,b≠I->b≠d->h.get? b=eL o->h'.get? b=eL o):PairsH I d items aO prog w h':=λi v e=>by obtain⟨a,key,p,h1,h2,h3,h4,⟨o,q1,q2⟩,h5⟩:=t i v e;exact⟨a,key,p,h1,h2,h3,h4,⟨o,k a o h2 h3 q1,q2⟩,h5⟩
end
def KV.all{kvs:List (Key×V)}{aO:List (Key×Â)}(r:KV kvs aO):∀{m:List (Key×V)}{n:List (Key×Â)},KV m n->KV (kvs.foldl (λm p=>fu m p.1 p.2) m) (aO.foldl (λm p=>stored m p.1 p.2) n):=by
 unfold KV at r;induction r with
 |nil=>exact λh=>h
 |cons q t ih =>intro m n h;rename_i a b l1 l2;obtain⟨k,x⟩:=a;obtain⟨k2,u⟩:=b;obtain⟨e,rx⟩:=q;cases (show k=k2 from e);exact ih<|h.put k rx
def MZ:cF table "list_reverseiterator.__next__" = eL Builtin.«list_reverseiterator.__next__»:=entryFor_of_tree (by kernel_rfl)
def Ng(a:Â):ϩ "list_reverseiterator.__next__" ⟨[a],[]⟩:=by unfold ϩ;kernel_rfl
def slot_rnext:Slot "list_reverseiterator" "__next__" "list_reverseiterator.__next__" :=
 .of (owner:="list_reverseiterator") (n:="__next__") (by rw[ϭ,ο];kernel_rfl) (by decide +kernel) (by decide +kernel) (by decide +kernel)
  (by first|exact .inl (by decide +kernel)|exact .inr<|by decide +kernel) (by rw[ϋ];kernel_rfl)
def WW:Slot "list_reverseiterator" "__iter__" "list_reverseiterator.__iter__" :=
 .of (owner:="list_reverseiterator") (n:="__iter__") (by rw[ϭ,ο];kernel_rfl) (by decide +kernel) (by decide +kernel) (by decide +kernel)
  (by first|exact .inl (by decide +kernel)|exact .inr<|by decide +kernel) (by rw[ϋ];kernel_rfl)
def Cf:cF table "list_reverseiterator.__iter__" = eL Builtin.«dict_keyiterator.__iter__» :=
 cG (id':="dict_keyiterator.__iter__") (by kernel_rfl) (by first|rfl|decide +kernel|(unfold String.splitOn;simp +decide [String.splitOnAux])) (by decide +kernel) (by kernel_rfl)
def Dy(a:Â):ϩ "list_reverseiterator.__iter__" ⟨[a],[]⟩:=by unfold ϩ;kernel_rfl
abbrev RevIt(h:þ)(it l:È)(k:Int):Prop:=∃o,h.get? it=eL o/\o.cls=.type "list_reverseiterator"/\o.data=.fields #[.ref l,.int k 0]
section
variable {prog:ß}{w:ñ}{A:ā}{E:Â->Ä->Prop}{s:Ä}
variable {it:È} {l:È}
def RevIt.typeIs{k:Int}(h:RevIt s.heap it l k):s.TypeIs (.ref it) "list_reverseiterator":=by obtain⟨o,h1,h2,_⟩:=h;exact⟨o,h1,h2⟩
variable {Q:Option Â->Ä->Prop}
def Dn{k:Nat}{items:Array Â}{x:Â}(bH:RevIt s.heap it l k)(hl:s.heap.IsList l items)(hx:items[k]?=eL x)
  (hQ:∀h',RevIt h' it l ((k:Int) - 1)->Œ it s.heap h'->Q (eL x) {s with heap:=h'}):wpAny (Ù prog w) A (ε<|.ref it) Q E s:=by
 have hT:=bH.typeIs;obtain⟨o,ho,hc,hd⟩:=id bH;obtain⟨ol,hol,_,nl,hdl⟩:=hl;unfold ε;refine À<|aA<|ē (name:=gu "__next__") hT slot_rnext<|Ĉ slot_rnext hT MZ ?_<|Ng _;show wpAny _ _ (dN (.ref it) 1 >>= _) _ _ s;refine À<|Ĭ ho hd (x:=.int k 0) rfl ?_;refine İ (λhab=>gp hab<|by lia) λ_=>?_;show wpAny _ _ (dN (.ref it) 0 >>= _) _ _ s;refine À<|Ĭ ho hd (x:=.ref l) rfl ?_;show wpAny _ _ (Ϟ (.ref l) >>= _) _ _ s;refine À<|ň hol hdl ?_;simp only[á,hx];refine À (Ĺ ho hd (by simp)<|Ç ⟨x,rfl,Ç<|hQ _ ?_<|û ..⟩);exact⟨_,Ď _ ho<|ϟ<|Ŗ hd _,(ap ..).trans hc,by
   rw[Ŗ hd];simp[ģ]⟩
def E4(hh:A.handled=eM)(bH:RevIt s.heap it l (-1))(hQ:∀h',Heap.ExtBut it s.heap h'->Q eM {s with heap:=h'}):wpAny (Ù prog w) A (ε<|.ref it) Q E s:=by have hT:=bH.typeIs;obtain⟨o,ho,hc,hd⟩:=id bH;unfold ε;refine À<|aA<|ē (name:=gu "__next__") hT slot_rnext<|Ĉ slot_rnext hT MZ ?_<|Ng _;show wpAny _ _ (dN (.ref it) 1 >>= _) _ _ s;refine À<|Ĭ ho hd (x:=.int (-1) 0) rfl ?_;refine İ (λ_=>?_) (λhab=>gp (by decide) hab);refine À<|Χ ?_;refine À ?_;show wpAny _ _ (cy (.type "StopIteration") [] >>= _) _ _ _;refine À ?_;simp only[cy,newTuple];refine À (ÿ ?_<|by size_fits);refine À (m:=ζ _ _) (aa (a:=Value.none) (by first|rfl|(simp only[ζ];rfl)) ?_);refine ÿ ?_ (by size_fits);simp only[raiseNew];refine À<|dr ?_;rw[show A.in1.handled=eM from hh];refine À<|Ç<|wpAny_throw ?_;refine À<|Ϡ (T:="StopIteration") (b:=eN) ⟨_,Ñ _ rfl,rfl⟩ cz ?_;exact Ç (hQ _ λb o _ e=>Å _<|Å _ e)
def Cc{k:Int}{Q:Â->Ä->Prop}(bH:RevIt s.heap it l k)(h:Q (.ref it) s):wpAny (Ù prog w) A (cr<|.ref it) Q E s:=by have hT:=bH.typeIs;refine aZ hT WW<|Ĉ WW hT Cf ?_<|Dy _;show wpAny _ _ (ret<|.ref it) _ _ s;exact Ç ⟨_,rfl,"list_reverseiterator",_,hT,slot_rnext.lookup,h⟩
end
def Walks.rev{prog:ß}{w:ñ}{A:ā}(hh:A.handled=eM)(I ax:È)(ž:ax≠I)(items:Array Â) :
  Walks prog w A I [I,ax] [I] items.size (λi v=>items[items.size - 1 - i]?=eL v) (λi h=>RevIt h I ax ((items.size:Int) - 1 - i)/\h.IsList ax items) where
 sub:=λb hb=>by simp at hb;simp[hb]
 frame:=λ_ _ _ st hk=>⟨by obtain⟨o,h1,h2⟩:=st.1;exact⟨o,hk I (by simp) o h1,h2⟩,st.2.at λo e=>hk ax (by simp) o e⟩
 item:=λi s Q E hi st hQ=>by
  have e:(items.size:Int) - 1 - i=((items.size - 1 - i:Nat):Int):=by lia
  rw[e]at st;have ϙ:items.size - 1 - i<items.size:=by lia
  refine Dn st.1 st.2 (x:=items[items.size - 1 - i]) (by simp[ϙ]) λh' hit' hs'=>?_;exact hQ _ h' s.toks (by simp[ϙ]) ⟨by rw[show(items.size:Int) - 1 - ((i+1:Nat):Int)=((items.size - 1 - i:Nat):Int) - 1 by lia];exact hit',st.2.extBut hs'.extBut ž⟩ λb o hb e=>hs'.extBut b o (λh=>hb<|by simp[h]) e
 done:=λs Q E st hQ=>by rw[show(items.size:Int) - 1 - (items.size:Nat)=-1 by lia]at st;exact E4 hh st.1 λh' he'=>hQ h' s.toks λb o hb e=>he' b o (λh=>hb<|by simp[h]) e
 self:=λ_ _ _ _ st hQ=>Cc st.1 hQ
end L2
namespace L2
open PySem
@[reducible] noncomputable def Ris(xs:Array Nat):Prop:=xs.toList.Pairwise (· < ·)
abbrev Ov(xs:Array Nat)(j lo:Nat):Prop:=lo<=xs.size/\(∀k x,k<lo->xs[k]?=eL x->x<j)/\∀k x,lo<=k->xs[k]?=eL x->j<=x
variable {xs:Array Nat} {a:Nat} {b:Nat} {x:Nat}
def XN(h:Ris xs){y:Nat}(hab:a<b)(ha:xs[a]?=eL x)(hb:xs[b]?=eL y):x<y:=by rw[<-č]at ha hb;obtain⟨h1,rfl⟩:=Ó.mp ha;obtain⟨h2,rfl⟩:=Ó.mp hb;exact List.pairwise_iff_getElem.mp h a b h1 h2 hab
def JE{xs:Array Nat}(h:Ris xs){j:Nat}:∀(f lo hi:Nat),hi - lo<=f->lo<=hi->hi<=xs.size->(∀k x,k<lo->xs[k]?=eL x->x<j)->(∀k x,hi<=k->xs[k]?=eL x->j<=x)->Ov xs j (a8 xs j f lo hi)
 |0,lo,hi,h1,h2,h3,h4,h5=>by
  have e:lo=hi:=by lia
  subst e;exact⟨h3,h4,h5⟩
 |f+1,lo,hi,h1,h2,h3,h4,h5=>by
  unfold a8;by_cases hl:lo<hi
  .rw[gg hl];dsimp only;have hm:(lo+hi) / 2<xs.size:=by lia
   have hx:xs[(lo+hi) / 2]?=eL xs[(lo+hi) / 2]:=ö hm;have hg:xs.getD ((lo+hi) / 2) j=xs[(lo+hi) / 2]:=by simp[Α,hm]
   rw[hg];by_cases hc:xs[(lo+hi) / 2]<j
   .rw[gg hc];refine JE h f _ _ (by lia) (by lia) h3 (λk x hk hkx=>?_) h5;by_cases hkm:k=(lo+hi) / 2
    .subst hkm;rw[hx]at hkx;cases hkx;exact hc
    .exact aq (XN h (by lia) hkx hx) hc
   .rw[gh hc];refine JE h f _ _ (by lia) (by lia) (by lia) h4 λk x hk hkx=>?_;by_cases hkm:k=(lo+hi) / 2
    .subst hkm;rw[hx]at hkx;cases hkx;lia
    .exact Ô (Nat.not_lt.mp hc) (ψ<|XN h (by lia) hx hkx)
  .rw[gh hl];have e:lo=hi:=by lia
   subst e;exact⟨h3,h4,h5⟩
def Nv(h:Ris xs)(j:Nat):Ov xs j<|Ľ xs j:=by unfold Ľ;refine JE h xs.size 0 xs.size (by lia) (by lia) (by lia) (λk x hk=>by lia) λk x hk hkx=>?_;rw[Ϗ hk]at hkx;cases hkx
variable {j:Nat}
def CJ(ha:Ov xs j a)(hb:Ov xs j b):a=b:=by
 obtain⟨a1,a2,a3⟩:=ha;obtain⟨b1,b2,b3⟩:=hb;rcases Nat.lt_trichotomy a b with h|h|h
 .have hx:=ö (xs:=xs) (i:=a) (by lia);have:=b2 a _ h hx;have:=a3 a _ (Ì _) hx;lia
 .exact h
 .have hx:=ö (xs:=xs) (i:=b) (by lia);have:=a2 b _ h hx;have:=b3 b _ (Ì _) hx;lia
def UH(h:Ris xs){i:Nat}(hx:xs[i]?=eL x):Ov xs (x+1)<|i+1:=by
 have hi:i<xs.size:=(ł.mp hx).1;refine⟨hi,λk y hk hky=>?_,λk y hk hky=>XN h (by lia) hx hky⟩;by_cases e:k=i
 .subst e;rw[hx]at hky;cases hky;lia
 .have:=XN h (show k<i by lia) hky hx;lia
def UW(xs:Array Nat):Ov xs 0 0:=⟨Ŀ _,λk x hk=>by lia,λ_ _ _ _=>Ŀ _⟩
def Ea(h:Ris xs)(hn:xs[Ľ xs j]?≠eL j):Ris<|SetTable.insertAt xs (Ľ xs j) j:=by
 obtain⟨c1,c2,c3⟩:=Nv h j;generalize Ľ xs j=p at c1 c2 c3 hn;unfold Ris;rw[SetTable.toList_insertAt];have hs:(xs.toList.take p++xs.toList.drop p).Pairwise (· < ·):=by rw[List.take_append_drop];exact h
 obtain⟨h1,h2,h3⟩:=cX.mp hs;have hlo:∀a∈xs.toList.take p,a<j:=λa ha=>by obtain⟨k,hk,rfl⟩:=List.mem_take_iff_getElem.mp ha;refine c2 k _ (by lia) ?_;rw[<-č];exact É _
 have hhi:∀a∈xs.toList.drop p,j<a:=λa ha=>by
  obtain⟨k,e⟩:=cE.mp ha;rw[List.getElem?_drop,č]at e;have:=c3 (p+k) _ (by lia) e;rcases Nat.lt_or_ge j a with q|q
  .exact q
  .exfalso;have e2:a=j:=by lia
   subst e2;by_cases k0:k=0
   .subst k0;exact hn e
   .have hp:xs[p]?=eL (xs[p]'(by have:=(ł.mp e).1;lia)):=ö _;have:=XN h (show p<p+k by lia) hp e;have:=c3 p _ (Ì _) hp;lia
 exact cX.mpr ⟨h1,ϳ.mpr ⟨hhi,h2⟩,λa ha b hb=>by
   rcases Æ.mp hb with rfl|hb
   . exact hlo a ha
   . exact aq (hlo a ha)<|hhi b hb⟩
structure Tb(b:Bool)(t:Ÿ):Prop where
 led:b=eP->t.led=eN
 ris:Ris t.place
 dum:t.dummies=#[]
def Nw{t:Ÿ}{f:Nat->Int}{h:Int}(hd:t.dummies=#[]):∀(n:Nat) (p:SetTable.Probe) (j:Nat) (d:Option Nat),p.dummy=eM->ϓ t f h n p=eL (.empty j d)->t.slot j=.empty/\d=eM
 |0,p,j,d,h0,e=>by unfold ϓ at e;cases e
 |n+1,p,j,d,h0,e=>by
  unfold ϓ at e;cases hs:t.slot p.j with
  |empty =>rw[hs]at e;dsimp only at e;injection e with e;injection e with e1 e2;subst e1;exact⟨hs,e2▸h0⟩
  |dummy =>
   exfalso;unfold eB at hs;dsimp only at hs;split at hs
   .cases hs
   .rw[hd]at hs;simp[bg]at hs
  |live i =>
   rw[hs]at e;dsimp only at e;split at e
   .cases e
   .refine Nw hd n _ j d ?_ e;unfold SetTable.advance;split
    .exact h0
    .exact h0
def FD{t:Ÿ}(hd:t.dummies=#[]){h:Int}{b:Bool}(e:t.freeSlot h=eL (j,b)):t.place[Ľ t.place j]?≠eL j:=by
 unfold SetTable.freeSlot at e;split at e
 .rename_i k d hp;obtain⟨h1,h2⟩:=Nw hd _ _ _ _ rfl hp;subst h2;injection e with e;injection e with e1 e2;have e1:k=j:=e1;subst e1;unfold eB at h1;dsimp only at h1;split at h1
  .cases h1
  .rename_i hq;exact λz=>hq (by rw[z];exact beq_self_eq_true _)
 .cases e
def XX{b:Bool}{t:Ÿ}(h:Tb b t)(n:Nat):Tb b (t.standIn n) :=
 ⟨h.led,by show(Array.range n).toList.Pairwise _;rw[Array.toList_range];exact ca,rfl⟩
def Ls{b:Bool}{t:Ÿ}(h:Tb b t)(es:Array<|Int×Â)(k:Int)(x:Â):Tb b (layNew t es k x).2.1:=by
 unfold layNew;split
 .rename_i slot wd hf;show Tb b (cb _ _);have hp:Tb b (t.put slot).1:=by
   refine⟨h.led,Ea h.ris<|FD h.dum hf,?_⟩;show(if bg t.dummies slot then _ else t.dummies)=#[];rw[h.dum];simp[bg]
  unfold cb;split
  .exact hp
  .exact XX hp _
 .exact XX h _
def DG{b:Bool}{t:Ÿ}(h:Tb b t)(es:Array<|Int×Â)(n:Nat):Tb b (relayAll t es n).2.1:=by
 unfold relayAll;split
 .rename_i t' order hr;dsimp only;split
  .unfold SetTable.relaid SetTable.laid at hr;cases hl:SetTable.layClean (SetTable.sizeAbove n - 1) (es.map (·.1))with
   |none=>rw[hl]at hr;cases hr
   |some owner =>rw[hl]at hr;cases hr;refine⟨h.led,?_,rfl⟩;show List.Pairwise _ (List.toArray _).toList;refine List.pairwise_map.mpr<|List.pairwise_filterMap.mpr ?_;refine ca.imp λ{a c} hac x hx y hy=>?_;obtain⟨_,_,rfl⟩:=Ò.mp hx;obtain⟨_,_,rfl⟩:=Ò.mp hy;exact hac
  .exact XX h _
 .exact XX h _
end L2
namespace L2
open PySem PySem.Spec PyProof.Rows
section
variable (prog:ß) (w:ñ)
noncomputable abbrev byT:Bool:=w.params.followText "set-order"
abbrev SetI(h:þ)(a:È)(l:List Int):Prop:=∃o es ep t es0,h.get? a=eL o/\o.ExactSet/\o.data=.set es ep t/\ElemsOf (Š prog w) es.toList/\es.size<ao/\t.fits es.size=eN/\
 Tb (byT w) t/\es.toList.Perm es0/\ù (es0.map (·.2)) l
end
def Xz:∀{vs:List Â}{ns:List Int},ù vs ns->vs.length=ns.length
 |_,_,.nil=>rfl
 |_,_,.cons _ _ r=>congrArg (· + 1)<|Xz r
def Uo:∀{vs:List Â}{ns:List Int}(n:Int) (t:Tok),ù vs ns->ù (vs++[.int n t]) (ns++[n])
 |_,_,n,t,.nil=>.cons n t .nil
 |_,_,n,t,.cons m u r=>.cons m u<|Uo n t r
def OH{P:ß}{w:ñ}{n:Int}:∀{vs:List Â}{ns:List Int},ù vs ns->(n∈ns↔∃v∈vs,(Š P w).is n v=eN)
 |_,_,.nil=>by simp
 |_,_,.cons m u r=>by
  have h:=OH (P:=P) (w:=w) (n:=n) r;have hk:(Š P w).is n (.int m u)=gq (n=m):=KeyKind.is_eq_decide (intKind_is P w m u) n;rw[Æ,h];constructor
  .rintro(rfl|⟨v,hv,e⟩)
   .exact⟨_,è,by rw[hk];simp⟩
   .exact⟨v,Ú _ hv,e⟩
  .rintro⟨v,hv,e⟩;rcases Æ.mp hv with rfl|hv
   .rw[hk]at e;exact .inl (by simpa using e)
   .exact .inr ⟨v,hv,e⟩
variable {h:þ} {a:È} {l:List Int}
def SetI.setOf{P:ß}{w:ñ}(x:SetI P w h a l):h.SetOf (Š P w) a (λk=>gq (k∈l)) l.length:=by
 obtain⟨o,es,ep,t,es0,h1,h2,h3,h4,h5,h6,h7,h8,h9⟩:=x;refine⟨o,es,ep,t,h1,h2,h3,h4,λk=>?_,h5,h6,?_⟩
 .rw[decide_eq_true_iff,OH (P:=P) (w:=w) h9];constructor
  .rintro⟨v,hv,e⟩;obtain⟨x,hx,rfl⟩:=Û.mp hv;exact⟨x,h8.mem_iff.mpr hx,e⟩
  .rintro⟨x,hx,e⟩;exact⟨_,Û.mpr ⟨x,h8.mem_iff.mp hx,rfl⟩,e⟩
 .rw[<-Xz h9,Ã,<-h8.length_eq,ï]
section
variable {prog:ß}{w:ñ}{A:ā}{E:Â->Ä->Prop}{s:Ä}
def O2{o:Obj}{es es':Array (Int×Â)}{ep:Nat}{t t':Ÿ}(ho:h.get? a=eL o)(hd:o.data=.set es ep t) :
  (h.update a<|eC es' t').get? a=eL {o with data:=.set es' (ep+1) t'}:=by
 have z:=Ď (eC es' t') ho (by rw[putSet_of es' t' hd];rfl)
 rwa [putSet_of es' t' hd]at z
def add_int{n:Int}{tk:Tok}{Q:Bool->Ä->Prop}(hS:SetI prog w s.heap a l)(hroom:l.length+1<ao)
  (k:∀h' b,Œ a s.heap h'->SetI prog w h' a (ţ l n)->Q b {s with heap:=h'}):wpAny (Ù prog w) A (setAddHashed a (.int n tk)<|(Š prog w).hash n) Q E s:=by
 have Ē:=hS.setOf;obtain⟨o,es,ep,t,es0,ho,hex,hd,hel,hb,hf,ht,hp,hi⟩:=id hS;have hsz:es.size=l.length:=by rw[<-Xz hi,Ã,<-hp.length_eq,ï]
 have hkey:(Š prog w).is n (.int n tk)=eN:=intKind_is _ _ _ _;unfold setAddHashed setAddHashedIn;refine Ě<|À<|Ū ho hd hf ?_;dsimp only;rw[byScan_of rfl hb hel];simp only[↓reduceIte];unfold setAddByScan;refine À<|À<|Χ<|À<|wpAny_setScan_of hkey ho hd hf hel ?_;have hm:n∈l↔∃e∈es.toList,(Š prog w).is n e.2=eN:=by
  rw[OH (P:=prog) (w:=w) hi];constructor
  .rintro⟨v,hv,e⟩;obtain⟨x,hx,rfl⟩:=Û.mp hv;exact⟨x,hp.mem_iff.mpr hx,e⟩
  .rintro⟨x,hx,e⟩;exact⟨_,Û.mpr ⟨x,hp.mem_iff.mp hx,rfl⟩,e⟩
 cases hr:List.findIdx? (λe=>(Š prog w).is n e.2) es.toList with
 |some j =>
  obtain⟨hj,hpj,_⟩:=List.findIdx?_eq_some_iff_getElem.mp hr;have hn:n∈l:=hm.mpr ⟨_,Ł hj,hpj⟩;have e1:ţ l n=l:=by unfold ţ;rw[gg<|ſ.mpr ⟨n,hn,by simp⟩]
  rw[e1]at k;exact Ç<|Ç<|k s.heap eP (Heap.SameBut.refl a s.heap) hS
 |none =>
  have hn:n∉l:=λz=>by obtain⟨e,he,q⟩:=hm.mp z;have:=List.findIdx?_eq_none_iff.mp hr e he;rw[q]at this;cases this
  have e1:ţ l n=l++[n]:=by
   unfold ţ;rw[gh];intro z;obtain⟨m,hm,q⟩:=ſ.mp z;have q:m=n:=by simpa using q
   exact hn<|q▸hm
  rw[e1]at k;have l1:=layNew_perm t es ((Š prog w).hash n)<|.int n tk;have l2:=layNew_fits t es ((Š prog w).hash n)<|.int n tk;have l3:=Ls ht es ((Š prog w).hash n)<|.int n tk;dsimp only;generalize hL:layNew t es ((Š prog w).hash n) (.int n tk)=L at l1 l2 l3 ⊢;obtain⟨cj,t1,wd,gv⟩:=L;dsimp only at l1 l2 l3 ⊢;rw[dQ]at l1;have i1:ù ((es0++[((Š prog w).hash n,Value.int n tk)]).map (·.2))<|l++[n]:=by rw[ã];exact Uo n tk hi
  have p1:cj.toList.Perm<|es0++[((Š prog w).hash n,Value.int n tk)]:=l1.trans<|hp.append_right _;have hel1:ElemsOf (Š prog w) cj.toList:=(hel.push hkey rfl).perm l1;have hs1:cj.size=l.length+1:=by rw[<-ï,l1.length_eq,î,ï,hsz];rfl
  have fin:∀(h':þ) (o':Obj) (ep':Nat) (es':Array<|Int×Â) (t':Ÿ),Œ a s.heap h'->h'.get? a=eL o'->o'.ExactSet->o'.data=.set es' ep' t'->es'.toList.Perm cj.toList->t'.fits es'.size=eN->Tb (byT w) t'->∀b,Q b {s with heap:=h'}:=λh' o' ep' es' t' sb g1 g2 g3 g4 g5 g6 b=>by refine k h' b sb ⟨o',es',ep',t',_,g1,g2,g3,hel1.perm g4,?_,g5,g6,g4.trans p1,i1⟩;rw[<-ï,g4.length_eq,ï,hs1];exact hroom
  have hz1:cj.size<=Ø:=a9 (by rw[hs1];exact hroom);have g0:∀(b:Bool){ğ:Ä}{Q':Unit->Ä->Prop},Q' () ğ->wpAny (Ù prog w) A (match b with|true=>rule "set.scan.the-table-gave-way" | false=>pure ()) Q' E ğ :=
   λb ğ Q' hq=>by cases b<;>first|exact Ç hq|exact Χ hq
  refine À<|g0 _ ?_;have bv:hashByValue 8 (.int n tk)=(pure eN:Sem Bool):=hashByValue_scannable 8 rfl;rw[bv,ite_self];refine À<|Ç ?_;simp only[↓reduceIte];refine À<|wpAny_storeSet_of ho hd ?_ hz1;have ho1:=O2 (es':=cj) (t':=t1) ho hd;have sb1:=û s.heap a<|eC cj t1;split
  .have r1:=relayAll_perm t1 cj<|ϔ cj.size;have r2:=relayAll_fits t1 cj<|ϔ cj.size;have r3:=DG l3 cj<|ϔ cj.size;generalize relayAll t1 cj (ϔ cj.size)=R at r1 r2 r3 ⊢;obtain⟨es2,t2,gv2⟩:=R;dsimp only at r1 r2 r3 ⊢;refine À<|g0 _ ?_;refine À (wpAny_storeSet_of ho1 rfl ?_<|by rw[<-ï,r1.length_eq,ï];exact hz1);exact Ç<|Ç<|fin _ _ _ es2 t2 (sb1.trans<|û _ a _) (O2 ho1 rfl) hex rfl r1 r2 r3 _
  .exact Ç<|Ç<|fin _ _ _ cj t1 sb1 ho1 hex rfl .rfl l2 l3 _
end
def SetI.at{P:ß}{w:ñ}{h h':þ}{a:È}{l:List Int}(x:SetI P w h a l)(k:∀o,h.get? a=eL o->h'.get? a=eL o):SetI P w h' a l:=by obtain⟨o,es,ep,t,es0,h1,h2⟩:=x;exact⟨o,es,ep,t,es0,k _ h1,h2⟩
section
variable {prog:ß}{w:ñ}{A:ā}{R:bz->Ä->Prop}{I:È}{fp wr:List È}{G:Array ck->Array ck->Prop}{n:Nat}{P:Nat->Â->Prop}{St:Nat->Ä->Prop}
def A5(W:WalksS prog w A.in1 I fp wr G n P St)(S:È)(hS:S∉fp)(val:Nat->Int)(hv:∀i v,P i v->∃t,v=.int (val i) t)(hb:n+1<ao) :
  ∀(k i:Nat) (s:Ä),n - i=k->i<=n->St i s->SetI prog w s.heap S (ϊ val i)->(∀s',Moved (S::wr) G s s'->SetI prog w s'.heap S (ϊ val n)->R (.ok<|.ret .none) s')->
   codeAny (Ù prog w) A (.builtin "set.update.loop" ⟨[.ref S,.ref I],[]⟩) R s:=by
 have nw:S∉wr:=λz=>hS<|W.sub _ z;intro k;induction k with
 |zero =>
  intro i s h1 h2 st x r;obtain rfl:i=n:=by lia
  refine į F.entry_set_update_loop ?_;rw[ď F.plain_set_update_loop _];show wpAny _ A.in1 (ε (.ref I) >>= _) _ _ s;refine À<|W.done s _ _ st λs' m=>?_;exact Ç<|r s' (m.mono λb hb=>Ú _ hb)<|x.at λo e=>m.heap S _ nw e
 |succ k ih =>
  intro i s h1 h2 st x r;have hi:i<n:=by lia
  refine į F.entry_set_update_loop ?_;rw[ď F.plain_set_update_loop _];show wpAny _ A.in1 (ε (.ref I) >>= _) _ _ s;refine À<|W.item i s _ _ hi st λv s' p dY m=>?_;obtain⟨t,rfl⟩:=hv i v p;show wpAny _ A.in1 (ŋ [Value.int (val i) t] (setAdd S<|.int (val i) t) >>= _) _ _ s';refine À<|Ě ?_;unfold setAdd;refine Ě<|À<|(Š prog w).pyHash (k:=val i) (intKind_is _ _ _ _) ?_;refine add_int (s:={s' with toks:=s'.toks+1}) (x.at λo e=>m.heap S _ nw e) (by have:=aI val i;lia) λh' b sb x'=>?_;rw[<-firstMet_succ]at x';refine Ç ⟨ő F.plain_set_update_loop _,ih (i+1) _ (by lia) hi (W.frame _ s' _ _ dY (ŀ _) λb hb o e=>?_) x' λs'' m'' x''=>r s'' ?_ x''⟩
  .rw[sb.2 b λz=>hS<|z▸hb];exact e
  .refine Moved.trans W.gtrans ((m.mono λb hb=>Ú _ hb).then_heap (ŀ _) λb o hb e=>?_) m'';rw[sb.2 b λz=>hb<|z▸è];exact e
end
section
variable {prog:ß}{w:ñ}{A:ā}{E:Â->Ä->Prop}{s:Ä}
noncomputable abbrev Jv(b:Bool):Obj:={cls:=.type "set",dict:=eM,data:=.set #[] 0 (.fresh 0 0 !b)}
variable {Q:Â->Ä->Prop}
def E0(a:Â)(h:Q (.ref s.heap.objs.size) {s with heap:=s.heap.push (Jv<|byT w)}) :
  codeAny (Ù prog w) A (.call (.builtin "set.__new__") ⟨[.type "set",a],[]⟩) (wants Q E) s:=by
 refine codeAny_of_tree ?_;show wpAny _ A.in1 (do checkBuiltinCall "set.__new__" ⟨[.type "set",a],[]⟩;again (.builtin "set.__new__" ⟨[.type "set",a],[]⟩)) _ _ s;refine À<|aa (F.newCall_set_1 a)<|Ç ⟨ő F.plain_set_new _,į F.entry_set_new ?_⟩;rw[ď F.plain_set_new _];unfold Builtin.«set.__new__» Builtin.Frozenset.newClass;have hsub:=sub_set_self;obtain⟨hp,g,d,tk,os⟩:=s;dsimp only
 wp_walk
 refine Ų<|Ç ?_;dsimp only;simp only[newObj];exact À<|wpAny_alloc<|Ç<|Ç h
def Du{l:È}{items:Array Â}{ns:List Int}(hh:A.handled=eM)(hl:s.heap.IsList l items)(hi:ù items.toList ns)(hb:items.size+1<ao)
  (h:∀(h':þ) (tk:Nat),SetI prog w h' s.heap.objs.size (ϊ (λi=>ns.getD i 0) items.size)->(∀b o,s.heap.get? b=eL o->h'.get? b=eL o)->Q (.ref s.heap.objs.size) {s with heap:=h',toks:=tk}) :
  wpAny (Ù prog w) A (call (.type "set") [.ref l]) Q E s:=by
 obtain⟨c,tl,hmro⟩:=F.called_set.mro;have hmade:=F.called_set.made;have hsub:=F.called_set.sub;have h1:=F.called_set.notType;have h2:=F.called_set.canCreate;have hct:=F.typeCall_set_1<|.ref l;refine aE<|codeAny_of_tree ?_;show wpAny _ _ (callAny (.type "set") _) _ _ _;refine Ç ⟨Code.quiet_builtin _ (by decide +kernel),į F.entry_type_call ?_⟩;rw[Around.under_plain (weight_type_call_type "set" [.ref l] []) rfl]
 repeat (any_goals (first|assumption|wp_step))
 refine š (E0 (.ref l) (E:=E) (Q:=λv s1=>v=.ref s.heap.objs.size/\s1={s with heap:=s.heap.push (Jv<|byT w)}) ⟨rfl,rfl⟩) λr s1 hr=>?_;cases r with
 |error e=>exact hr
 |ok fl =>
  cases fl with
  |ret obj =>
   obtain⟨rfl,rfl⟩:=hr;have hS:(s.heap.push<|Jv<|byT w).get? s.heap.objs.size=eL (Jv<|byT w):=Ñ _ rfl;have hT:Shared.TypeIs {s with heap:=s.heap.push (Jv<|byT w)} (.ref s.heap.objs.size) "set":=⟨_,hS,rfl⟩
   have hli:=F.called_set.init.lookup;have hbi:=F.called_set.init.bind<|.ref s.heap.objs.size
   repeat (any_goals (first|assumption|wp_step))
   refine š (codeAny_call_builtin (R:=wants (λr s2=>r=.none/\∃h' tk,s2={ s with heap:=h',toks:=tk }/\SetI prog w h' s.heap.objs.size (ϊ (λi=>ns.getD i 0) items.size)/\∀b o,s.heap.get? b=eL o->h'.get? b=eL o) E)
     F.called_set.init.plain F.entry_set_init (check_set_init_1 hT ?_)) λr s2 hr=>?_
   .have hlS:l<s.heap.objs.size:=by obtain⟨_,e,_⟩:=hl;exact Õ e
    have hl1:(s.heap.push<|Jv<|byT w).IsList l items:=hl.push _;obtain⟨ol,hol,aD,nl,hdl⟩:=id hl1;obtain⟨ocls,odict,odata,oslots⟩:=ol;simp only at aD hdl;subst aD hdl;have hsls:=F.sub_list_set;have hslf:=F.sub_list_frozenset;have ž:(Value.type "list" == Value.type "dict")=eP:=by decide
    unfold Builtin.«set.__init__» noKeywords Builtin.Frozenset.updateFrom;generalize hPI:cr=PI
    wp_walk
    subst hPI;refine ϒ hl1<|À<|wpAny_runValue ?_;have hh3:A.in1.in1.in1.handled=eM:=by simp[hh]
    have zs:(s.heap.push<|Jv<|byT w).objs.size=s.heap.objs.size+1:=Ż ..;refine A5 ((Walks.list hh3 _ l (by rw[zs];exact ä<|ķ hlS) items).toS) s.heap.objs.size (by rw[zs];simp only[Æ,Í,or_false,not_or];exact⟨ä<|ı _,Ŭ hlS⟩) (λi=>ns.getD i 0) (λi v hv=>IntsAre.int_at hi i v<|by rw[č];exact hv) hb (items.size - 0) 0 _ (by lia) (Ŀ _)
     ⟨⟨_,Ñ _ rfl,rfl,rfl⟩,hl1.push _⟩ ?_ ?_
    .refine⟨_,#[],0,_,[],Å _ hS,⟨rfl,rfl,rfl⟩,rfl,λe he=>by simp at he,by show 0<ao;unfold ao;lia,rfl,⟨λz=>by show(!byT w)=eN;rw[z];rfl,.nil,rfl⟩,.nil,.nil⟩
    .intro s' m x;obtain⟨h',g',d',tk',os'⟩:=s';have eg:g'=s.gens:=m.gens;have ed:d'=s.drawn:=m.drawn;have eo:os'=s.os:=m.os;subst eg ed eo;refine Ç ?_;show wpAny _ _ (ret Value.none) _ _ _;refine Ç ⟨rfl,h',tk',rfl,x,λb o e=>?_⟩;have hb:=Õ e;exact m.heap b o (by rw[zs];simp only[Æ,Í,or_false,not_or];exact⟨ä hb,ä<|ķ hb⟩)<|Å _<|Å _ e
   .cases r with
    |error e=>exact hr
    |ok fl =>
     cases fl with
     |ret r =>
      obtain⟨rfl,h',tk,rfl,x,hk⟩:=hr
      repeat (any_goals (first|assumption|wp_step))
      exact h _ _ x hk
     |_=>exact hr.elim
  |_=>exact hr.elim
end
end L2
namespace L2
open PySem PySem.Spec PyProof.Rows
open PySem.Builtin
def A4:cF table "set.__iter__" = eL Builtin.«frozenset.__iter__»:=cG (id':="frozenset.__iter__") (by kernel_rfl) rfl (by decide +kernel) (by kernel_rfl)
def Bo:cF table "set_iterator.__next__" = eL Builtin.«set_iterator.__next__»:=entryFor_of_tree (by kernel_rfl)
def CB(a:Â):ϩ "set_iterator.__next__" ⟨[a],[]⟩:=by unfold ϩ;kernel_rfl
def slot_snext:Slot "set_iterator" "__next__" "set_iterator.__next__" :=
 .of (owner:="set_iterator") (n:="__next__") (by rw[ϭ,ο];kernel_rfl) (by decide +kernel) (by decide +kernel) (by decide +kernel)
  (by first|exact .inl (by decide +kernel)|exact .inr<|by decide +kernel) (by rw[ϋ];kernel_rfl)
def Jn:Slot "set_iterator" "__iter__" "set_iterator.__iter__" :=
 .of (owner:="set_iterator") (n:="__iter__") (by rw[ϭ,ο];kernel_rfl) (by decide +kernel) (by decide +kernel) (by decide +kernel)
  (by first|exact .inl (by decide +kernel)|exact .inr<|by decide +kernel) (by rw[ϋ];kernel_rfl)
def DK:cF table "set_iterator.__iter__" = eL Builtin.«dict_keyiterator.__iter__»:=cG (id':="dict_keyiterator.__iter__") (by kernel_rfl) rfl (by decide +kernel) (by kernel_rfl)
def DD(a:Â):ϩ "set_iterator.__iter__" ⟨[a],[]⟩:=by unfold ϩ;kernel_rfl
def XC{α:Type}:∀{l:List α}{i:Nat}(h:i<l.length),(l[i]::l.eraseIdx i).Perm l
 |a::l,0,h=>.rfl
 |a::l,i+1,h=>(List.Perm.swap a _ _).trans<|(XC (l:=l)<|Nat.lt_of_succ_lt_succ h).cons a
def O3{α:Type}(f:Nat->Nat):∀(n k:Nat) (l:List α) (out:Array α),l.length=n->(bb f n k l out).toList.Perm (out.toList++l)
 |0,k,l,out,h=>by
  cases l with
  |nil=>unfold bb;simp
  |cons _ _=>cases h
 |n+1,k,l,out,h=>by unfold bb;have ϙ:f k % l.length<l.length:=Nat.mod_lt _ (by lia);rw[É ϙ];dsimp only;refine(O3 f n (k+1) _ _<|by rw[bh ϙ];lia).trans ?_;rw[dQ,Ķ];exact(XC ϙ).append_left _
def AE{α:Type}(f:Nat->Nat)(xs:Array α):(pickOrder f xs).toList.Perm xs.toList:=by unfold pickOrder;simpa using O3 f xs.size 0 xs.toList #[] (by simp)
section
variable {prog:ß}{w:ñ}{A:ā}{E:Â->Ä->Prop}{s:Ä}
variable {n:Nat}
def AC{src:Source}{Q:Nat->Ä->Prop}(hn:0<n)(h:∀k d,k<n->Q k {s with drawn:=d}):wpAny (Ù prog w) A (choose src n) Q E s :=
 λ_ _ _=>⟨Ŭ hn,h _ _<|Nat.mod_lt _ hn⟩
def NE{α:Type}:∀(n:Nat) (xs:List α){s:Ä}{Q:List α->Ä->Prop},xs.length=n->(∀ys d,ys.Perm xs->Q ys {s with drawn:=d})->wpAny (Ù prog w) A (dR n xs) Q E s
 |0,[],s,Q,_,h=>by unfold dR;exact Ç<|h [] s.drawn .nil
 |0,_::_,_,_,h,_=>by cases h
 |n+1,[],_,_,h,_=>by cases h
 |n+1,x::xs,s,Q,hl,h=>by unfold dR;refine À (AC (by simp) λk d hk=>?_);rw[É hk];dsimp only;refine À (NE n _ (by rw[bh hk];lia) λys d2 hp=>Ç<|h _ d2 ?_);exact(hp.cons _).trans<|XC hk
abbrev SetIt(h:þ)(it a:È)(f:Â)(i n ep:Nat):Prop:=∃o,h.get? it=eL o/\o.cls=.type "set_iterator"/\o.data=.fields #[f,.int i 0,.ref a,.int n 0,.int ep 0]
variable {it:È} {a:È} {f:Â} {i:Nat} {ep:Nat}
def SetIt.typeIs(h:SetIt s.heap it a f i n ep):s.TypeIs (.ref it) "set_iterator":=by obtain⟨o,h1,h2,_⟩:=h;exact⟨o,h1,h2⟩
structure SetO(h:þ)(a:È)(o:Obj)(es:Array<|Int×Â)(ep:Nat)(t:Ÿ):Prop where
 at_:h.get? a=eL o
 dat:o.data=.set es ep t
 fit:t.fits es.size=eN
def ML{Q:Â->Ä->Prop}(bH:SetIt s.heap it a f i n ep)(h:Q (.ref it) s):wpAny (Ù prog w) A (cr<|.ref it) Q E s:=by have hT:=bH.typeIs;refine aZ hT Jn<|Ĉ Jn hT DK ?_<|DD _;show wpAny _ _ (ret<|.ref it) _ _ s;exact Ç ⟨_,rfl,"set_iterator",_,hT,slot_snext.lookup,h⟩
variable {Q:Option Â->Ä->Prop}
def Ub(hh:A.handled=eM)(hQ:∀h',(∀b o,s.heap.get? b=eL o->h'.get? b=eL o)->Q eM {s with heap:=h'}) :
  wpAny (Ù prog w) A (do raiseNew (<-cy (.type "StopIteration") []):Sem Fin) (λ_ _=>False) (λe s'=>∃h',(∀b o,s.heap.get? b=eL o->h'.get? b=eL o)/\s'={s with heap:=h'}/\s'.TypeIs e "StopIteration") s:=by
 show wpAny _ _ (cy (.type "StopIteration") [] >>= _) _ _ _;refine À ?_;simp only[cy,newTuple];refine À (ÿ ?_<|by size_fits);refine À (m:=ζ _ _) (aa (a:=Value.none) (by first|rfl|(simp only[ζ];rfl)) ?_);refine ÿ ?_ (by size_fits);simp only[raiseNew];refine À<|dr ?_;rw[hh];refine À<|Ç<|wpAny_throw ?_;exact⟨_,λb o e=>Å _<|Å _ e,rfl,_,Ñ _ rfl,rfl⟩
def WM(hT:s.TypeIs (.ref it) "set_iterator")
  (h:wpAny (Ù prog w) A.in1 (Builtin.«set_iterator.__next__» ⟨[.ref it],[]⟩) (λfin s'=>∃v,fin=.done (.ret v)/\Q (eL v) s') (λe s'=>s'.TypeIs e "StopIteration"/\Q eM s') s):wpAny (Ù prog w) A (ε<|.ref it) Q E s:=by
 unfold ε;refine À<|aA<|ē (name:=gu "__next__") hT slot_snext<|Ĉ slot_snext hT Bo ?_<|CB _;refine Ā h (λfin s' ⟨v,e,q⟩=>⟨v,e,Ç q⟩) λe s' ⟨t,q⟩=>?_;refine À<|Ϡ (T:="StopIteration") (b:=eN) t cz ?_;exact Ç q
abbrev NX(prog:ß)(w:ñ)(a:È)(o:Obj)(ep:Nat)(f:Nat->Nat)(ord:List Â):Prop :=
 ∀(A:ā) (s:Ä) (Q:Option (Â×Nat)->Ä->Prop) (E:Â->Ä->Prop) (i:Nat),i<=ord.length->s.heap.get? a=eL o->Q (ord[i]?.map (·,f<|i+1)) s->wpAny (Ù prog w) A (setNext a (f i) i ep) Q E s
def KN{h:þ}{o:Obj}{vs:Array Â}{k:Nat}{x:Â}(ho:h.get? it=eL o)(hc:o.cls=.type "set_iterator")(hd:o.data=.fields vs) :
  ∃o',(h.update it (Ψ (·.setIfInBounds k x))).get? it=eL o'/\o'.cls=.type "set_iterator"/\o'.data=.fields (vs.setIfInBounds k x) :=
 ⟨_,Ď _ ho<|ϟ<|Ŗ hd _,(ap ..).trans hc,Ŗ hd _⟩
end
def Walks.setT{prog:ß}{w:ñ}{A:ā}(hh:A.handled=eM)(I a:È)(ž:a≠I){o:Obj}{es:Array (Int×Â)}{ep:Nat}{t:Ÿ}{f:Nat->Nat}{ord:List Â}(hl:ord.length=es.size)(nx:NX prog w a o ep f ord) :
  Walks prog w A I [I,a] [I] es.size (λi v=>ord[i]?=eL v) (λi h=>SetIt h I a (.int (f i) 0) i es.size ep/\SetO h a o es ep t) where
 sub:=λb hb=>by simp at hb;simp[hb]
 frame:=λ_ _ _ st hk=>⟨by obtain⟨o,h1,h2⟩:=st.1;exact⟨o,hk I (by simp) o h1,h2⟩,hk a (by simp) _ st.2.at_,st.2.dat,st.2.fit⟩
 item:=λi s Q E hi st hQ=>by obtain⟨st,so⟩:=st;refine WM st.typeIs ?_;obtain⟨oi,h1,h2,h3⟩:=st;show wpAny _ _ (fieldsOf (.ref I) >>= _) _ _ s;refine À<|ae h1 h3 ?_;dsimp only;refine À<|ŵ so.at_ so.dat so.fit ?_;refine İ (λz=>gp z<|by simp) λ_=>?_;rw[á,á,á];have hx:ord[i]?=eL ord[i]:=É (by lia);refine À (nx _ s _ _ i (by lia) so.at_ ?_);rw[hx];dsimp only[Option.map];refine À (Ĺ h1 h3 (by simp) ?_);obtain⟨o2,g1,g2,g3⟩:=KN (k:=0) (x:=ģ<|f<|i+1) h1 h2 h3;refine À (Ĺ g1 g3 (by simp) ?_);obtain⟨o4,g4,g5,g6⟩:=KN (k:=1) (x:=ģ<|(i:Int)+1) g1 g2 g3;have sb:=(û s.heap I (Ψ (·.setIfInBounds 0 (ģ<|f<|i+1)))).trans (û _ I (Ψ (·.setIfInBounds 1 (ģ<|(i:Int)+1))));refine Ç ⟨_,rfl,hQ _ _ s.toks hx ⟨⟨o4,g4,g5,by rw[g6];simp[ģ]⟩,?_,so.dat,so.fit⟩ λb ob hb e=>sb.extBut b ob (λz=>hb<|by simp[z]) e⟩;exact sb.extBut a _ ž so.at_
 done:=λs Q E st hQ=>by
  obtain⟨st,so⟩:=st;refine WM st.typeIs ?_;obtain⟨oi,h1,h2,h3⟩:=st;show wpAny _ _ (fieldsOf (.ref I) >>= _) _ _ s;refine À<|ae h1 h3 ?_;dsimp only;refine À<|ŵ so.at_ so.dat so.fit ?_;refine İ (λz=>gp z<|by simp) λ_=>?_;rw[á,á,á];refine À (nx _ s _ _ es.size (by lia) so.at_ ?_);rw[Ş<|by lia];dsimp only[Option.map];refine À (Ĺ h1 h3 (by simp) ?_);refine Ā (Ub (A:=A.in1) (Q:=Q) hh λh' hk=>?_) (λ_ _ z=>z.elim) λe s' ⟨h',hk,e2,tt⟩=>⟨tt,?_⟩
  .exact hQ h' s.toks λb ob hb e=>hk b ob ((û s.heap I _).extBut b ob (λz=>hb<|by simp[z]) e)
  .subst e2;exact hQ h' s.toks λb ob hb e=>hk b ob ((û s.heap I _).extBut b ob (λz=>hb<|by simp[z]) e)
 self:=λ_ _ _ _ st hQ=>ML st.1 hQ
def Walks.setD{prog:ß}{w:ñ}{A:ā}(hh:A.handled=eM)(I a T:È)(ž:a≠I)(hnT:T≠I){o oT:Obj}{es:Array (Int×Â)}{ep:Nat}{t:Ÿ}{ks:List Nat}(hl:ks.length=es.size)(hk:∀k∈ks,k<es.size)
  (hT:oT.data=.seq (ks.map λ(k:Nat)=>ģ k).toArray) :
  Walks prog w A I [I,a,T] [I] es.size (λi v=>(ks.map λk=>(es.getD k (0,.none)).2)[i]?=eL v) (λi h=>SetIt h I a (.ref T) i es.size ep/\SetO h a o es ep t/\h.get? T=eL oT) where
 sub:=λb hb=>by simp at hb;simp[hb]
 frame:=λ_ _ _ st hk=>⟨by obtain⟨o,h1,h2⟩:=st.1;exact⟨o,hk I (by simp) o h1,h2⟩,⟨hk a (by simp) _ st.2.1.at_,st.2.1.dat,st.2.1.fit⟩,hk T (by simp) _ st.2.2⟩
 item:=λi s Q E hi st hQ=>by
  obtain⟨st,so,sT⟩:=st;refine WM st.typeIs ?_;obtain⟨oi,h1,h2,h3⟩:=st;show wpAny _ _ (fieldsOf (.ref I) >>= _) _ _ s;refine À<|ae h1 h3 ?_;dsimp only;refine À<|ŵ so.at_ so.dat so.fit ?_;refine İ (λz=>gp z<|by simp) λ_=>?_;refine À<|ň sT hT ?_;have hi':i<ks.length:=by lia
  have hx:ks[i]?=eL ks[i]:=É hi';have hki:=hk ks[i]<|Ł hi';have hp:((ks.map λ(k:Nat)=>ģ k).toArray)[(i:Int).toNat]?=eL (.int (ks[i]:Nat) 0):=by rw[á];simp[hx,ģ]
  dsimp only;rw[hp];dsimp only;rw[á,á];unfold setNextDrawn;refine À<|À<|Ū so.at_ so.dat so.fit ?_;dsimp only;refine İ (λz=>gp z<|by simp) λ_=>?_;have he:es[ks[i]]?=eL es[ks[i]]:=ö hki;rw[he];dsimp only;refine Ç ?_;refine À (Ĺ h1 h3 (by simp) ?_);obtain⟨o4,g4,g5,g6⟩:=KN (k:=1) (x:=ģ<|(i:Int)+1) h1 h2 h3;have sb:=û s.heap I (Ψ (·.setIfInBounds 1 (ģ<|(i:Int)+1)));refine Ç ⟨_,rfl,hQ _ _ s.toks ?_ ⟨⟨o4,g4,g5,by rw[g6];simp[ģ]⟩,⟨sb.extBut a _ ž so.at_,so.dat,so.fit⟩,sb.extBut T _ hnT sT⟩ λb ob hb e=>sb.extBut b ob (λz=>hb<|by simp[z]) e⟩;rw[Ý,hx];simp[Α,hki]
 done:=λs Q E st hQ=>by
  obtain⟨st,so,sT⟩:=st;refine WM st.typeIs ?_;obtain⟨oi,h1,h2,h3⟩:=st;show wpAny _ _ (fieldsOf (.ref I) >>= _) _ _ s;refine À<|ae h1 h3 ?_;dsimp only;refine À<|ŵ so.at_ so.dat so.fit ?_;refine İ (λz=>gp z<|by simp) λ_=>?_;refine À<|ň sT hT ?_;have hp:((ks.map λ(k:Nat)=>ģ k).toArray)[(es.size:Int).toNat]?=eM:=by rw[á];simp[hl]
  dsimp only;rw[hp];dsimp only;refine À (Ĺ h1 h3 (by simp) ?_);obtain⟨o4,g4,g5,g6⟩:=KN (k:=0) (x:=ģ 0) h1 h2 h3;refine À (Ĺ g4 g6 (by simp) ?_);refine Ā (Ub (A:=A.in1) (Q:=λ_ _=>True) hh λ_ _=>trivial) (λ_ _ z=>z.elim) λe s' ⟨h',hk,e2,tt⟩=>⟨tt,?_⟩
  subst e2;exact hQ h' s.toks λb ob hb e=>hk b ob ((û _ I _).extBut b ob (λz=>hb<|by simp[z])<|(û s.heap I _).extBut b ob (λz=>hb<|by simp[z]) e)
 self:=λ_ _ _ _ st hQ=>ML st.1 hQ
section
variable {prog:ß}{w:ñ}{a:È}{o:Obj}{es:Array (Int×Â)}{ep:Nat}{t:Ÿ}
def EZ(hb:byT w=eN)(hd:o.data=.set es ep t)(hf:t.fits es.size=eN):NX prog w a o ep (λ_=>0) ((pickOrder (w.params.setOrder a ep) es).toList.map (·.2)):=λA s Q E i hil ho h=>by unfold setNext;refine À<|Ū ho hd hf ?_;dsimp only;unfold Ϫ;refine À<|À<|Ų<|Ç ?_;have aU:(Ù prog w).w.params.followText "set-order" = eN:=hb;dsimp only;rw[aU];simp only[↓reduceIte,bne_self_eq_false,ĭ];refine À ?_;unfold setWalk Ϫ;refine À<|Ū ho hd hf ?_;dsimp only;refine À<|À<|Ų<|Ç ?_;dsimp only;rw[aU];simp only[↓reduceIte];refine À<|Ų<|Ç<|Ç ?_;dsimp only;rw[Ý,č,Option.map_map]at h;exact h
def HM(hb:byT w=eP)(tb:Tb (byT w) t)(hpl:(!t.plain&&gq (es.size > 1))=eP)(hd:o.data=.set es ep t)(hf:t.fits es.size=eN) :
  NX prog w a o ep (λi=>match i with|0=>0|k+1=>t.place.getD k 0+1) (es.toList.map (·.2)):=λA s Q E i hil ho h=>by
 have e0:∀slot,setNext a slot i ep=(do
     let (es,epoch,t)<-setState a
     if<-Ϫ then
       if epoch != ep then af "set_iterator.__next__:elements-changed"
       return ((<-setWalk a)[i]?).map λe=>(e.2,slot)
     if(!t.plain&&gq (es.size > 1))then af "set_iterator.__next__:the-table-is-plain-no-more"
     (do if !t.led && !es.isEmpty then af "set:maker-not-led")
     let i:=Ľ t.place slot
     return match es[i]?,t.place[i]? with
       |some (_,x),eL j=>eL (x,j+1)
       | _,_=>eM):=λ_=>rfl
 rw[e0];refine À<|Ū ho hd hf ?_;dsimp only;unfold Ϫ;refine À<|À<|Ų<|Ç ?_;have aU:(Ù prog w).w.params.followText "set-order" = eP:=hb;have hled:=tb.led hb;dsimp only;rw[aU,hpl,hled];simp only[ĭ,↓reduceIte,Bool.not_true,Β];refine Ç ?_;have hsz:t.place.size=es.size:=by simp only[SetTable.fits,bAq,beq_iff_eq,gm]at hf;exact hf.1
 have fin:∀slot,i<=es.size->Ov t.place slot i->Q (match es[Ľ t.place slot]?,t.place[Ľ t.place slot]? with|some (_,x),eL j=>eL (x,j+1)|_,_=>eM) s:=λslot hi hc=>by
  rw[CJ (Nv tb.ris slot) hc];rw[Ý,č]at h;by_cases ϙ:i<es.size
  .have h1:es[i]?=eL es[i]:=ö ϙ;have h2:t.place[i]?=eL (t.place[i]'(by lia)):=ö _;rw[h1]at h ⊢;rw[h2];have h3:t.place.getD i 0=t.place[i]'(by lia):=by simp[Α,show i<t.place.size by lia]
   dsimp only[Option.map]at h ⊢;rw[h3]at h;exact h
  .have h1:es[i]?=eM:=Ϗ (by lia);rw[h1]at h ⊢;exact h
 cases i with
 |zero=>exact fin 0 (Ŀ _)<|UW _
 |succ k =>
  have hk:k<t.place.size:=by simp at hil;lia
  refine fin _ (by lia)<|UH tb.ris ?_;rw[ö hk];simp[Α,hk]
end
structure Near(s s':Ä):Prop where
 heap:∀b o,s.heap.get? b=eL o->s'.heap.get? b=eL o
 gens:s'.gens=s.gens
 os:s'.os=s.os
def EV:∀{vs us:List Â}{ns:List Int},vs.Perm us->ù us ns->∃ms,ms.Perm ns/\ù vs ms:=by
 intro vs us ns h;induction h generalizing ns with
 |nil=>exact λr=>by cases r;exact⟨[],.nil,.nil⟩
 |cons x _ ih =>
  intro r;cases r with
  |cons n t r=>obtain⟨ms,h1,h2⟩:=ih r;exact⟨n::ms,h1.cons n,.cons n t h2⟩
 |swap x y l =>
  intro r;cases r with
  |cons n t r=>cases r with
   |cons m u r=>exact⟨m::n::_,.swap _ _ _,.cons m u<|.cons n t r⟩
 |trans _ _ ih1 ih2 =>intro r;obtain⟨ms,h1,h2⟩:=ih2 r;obtain⟨ks,h3,h4⟩:=ih1 h2;exact⟨ks,h3.trans h1,h4⟩
section
variable {prog:ß}{w:ñ}{A:ā}{E:Â->Ä->Prop}{s:Ä}
def CA{r:È}{Q:Bool->Ä->Prop}(hT:s.TypeIs (.ref r) "set")(h:Q eP s):wpAny (Ù prog w) A (Builtin.List.listLengthHint<|.ref r) Q E s:=by
 unfold Builtin.List.listLengthHint;refine À<|wpAny_specialOf hT PySem.F.slot_set_len.lookup ?_;generalize hid:("set.__len__" : String)=id0
 wp_delta
 rw[show splitId id0=eL ("set","__len__") from by subst hid;decide +kernel];subst hid;refine À (Ϡ (T:="set") (b:=eN) hT (by rw[ϋ];kernel_rfl) ?_);refine İ (λhab=>gp hab<|by decide) λ_=>?_;refine İ (λ_=>?_) (λhab=>gp (by decide +kernel) hab);exact À<|ϧ hT<|Ç h
def BD{a:È}{l:List Int}{Q:Â->Ä->Prop}(hh:A.handled=eM)(hS:SetI prog w s.heap a l)
  (h:∀s' I fp St vs ms,Near s s'->s.heap.objs.size<=I->(∀b∈fp,b=a\/s.heap.objs.size<=b)->ms.Perm l->ù vs ms->Walks prog w A I fp [I] l.length (λi v=>vs[i]?=eL v) St->St 0 s'.heap->Q (.ref I) s') :
  wpAny (Ù prog w) A (cr<|.ref a) Q E s:=by
 obtain⟨o,es,ep,t,es0,ho,hex,hd,hel,hb,hf,ht,hp,hi⟩:=id hS;have hsz:es.size=l.length:=by rw[<-Xz hi,Ã,<-hp.length_eq,ï]
 rw[<-hsz]at h;have hT:s.TypeIs (.ref a) "set":=⟨o,ho,hex.1⟩
 have ϙ:=Õ ho;refine aZ hT F.slot_set_iter<|Ĉ F.slot_set_iter hT A4 ?_<|F.args_set_iter_1 _;have e0:Builtin.«frozenset.__iter__» ⟨[.ref a],[]⟩=(do
     let n<-cH a
     let d<-(do
       let (es,_,t)<-setState a
       let byText<-Ϫ
       return !byText&&(!t.plain&&gq (es.size > 1)))
     let first<-if d then newTuple ((<-dR n (List.range n)).map λ(i:Nat)=>ģ i)else pure (ģ 0)
     ret (<-newFields "set_iterator" [first,ģ 0,.ref a,ģ n,ģ (<-setEpoch a)])):=rfl
 rw[e0];unfold cH;refine À<|À<|ŵ ho hd hf<|Ç ?_;refine À<|À<|Ū ho hd hf ?_;dsimp only;unfold Ϫ;refine À<|À<|Ų<|Ç<|Ç ?_;have ebt:(Ù prog w).w.params.followText "set-order" = byT w:=rfl;dsimp only;rw[ebt];have mapP:∀es':List<|Int×Â,es'.Perm es.toList->∃ms,ms.Perm l/\ù (es'.map (·.2)) ms:=λes' q=>EV ((q.trans hp).map _) hi;by_cases hdr:(!byT w&&(!t.plain&&gq (es.size > 1)))=eN
 .rw[gg hdr];refine À (NE es.size (List.range es.size) (by simp) λks d hks=>À ?_);have hkl:ks.length=es.size:=by rw[hks.length_eq,Τ]
  refine wpAny_newTuple ?_ (by rw[Ã,hkl];exact a9 hb);refine À<|wpAny_setEpoch_of (Å _ ho) hd hf ?_;refine À<|ÿ<|Ç ⟨_,rfl,"set_iterator",_,⟨_,Ñ _ rfl,rfl⟩,slot_snext.lookup,?_⟩;have zs:(s.heap.push { cls:=.type "tuple",dict:=eM,data:=.seq (List.map (λ(i:Nat)=>ģ i) ks).toArray }).objs.size=s.heap.objs.size+1:=Ż ..;obtain⟨ms,m1,m2⟩:=mapP (ks.map λk=>es.getD k (0,.none)) (by
    refine(hks.map _).trans<|List.Perm.of_eq ?_
    refine List.ext_getElem (by simp) λi h1 h2=>?_
    have hi:i<es.size:=by simpa using h1
    simp[Α,hi])
  rw[ú]at m2;refine h _ _ [_,a,s.heap.objs.size] _ _ ms ⟨λb o e=>Å _<|Å _ e,rfl,rfl⟩ (by rw[zs];exact ŀ _) (λb hb=>?_) m1 m2
   (Walks.setD (o:=o) (oT:={cls:=.type "tuple",dict:=eM,data:=.seq (List.map (λ(i:Nat)=>ģ i) ks).toArray}) (es:=es) (ep:=ep) (t:=t) (ks:=ks) hh _ a s.heap.objs.size (by rw[zs];exact ä<|ķ ϙ) (by rw[zs];exact ä<|ı _) hkl (λk hk=>Ź.mp<|hks.mem_iff.mp hk) rfl)
   ⟨⟨_,Ñ _ rfl,rfl,rfl⟩,⟨Å _<|Å _ ho,hd,hf⟩,Å _<|Ñ _ rfl⟩
  simp only[Æ,Í,or_false]at hb;rcases hb with rfl|rfl|rfl
  .exact .inr (by rw[zs];exact ŀ _)
  .exact .inl rfl
  .exact .inr<|Ì _
 .rw[gh hdr];refine À<|Ç ?_;refine À<|wpAny_setEpoch_of ho hd hf ?_;refine À<|ÿ<|Ç ⟨_,rfl,"set_iterator",_,⟨_,Ñ _ rfl,rfl⟩,slot_snext.lookup,?_⟩;have go:∀(f:Nat->Nat) (es':List<|Int×Â),f 0=0->es'.Perm es.toList->NX prog w a o ep f (es'.map (·.2))->Q (.ref s.heap.objs.size) {s with heap:=s.heap.push {cls:=.type "set_iterator",dict:=eM,data:=.fields [ģ 0,ģ 0,.ref a,ģ es.size,ģ ep].toArray}}:=λf es' f0 hes nx=>by
   obtain⟨ms,m1,m2⟩:=mapP es' hes;have hl:(es'.map (·.2)).length=es.size:=by rw[Ã,hes.length_eq,ï]
   refine h _ _ [_,a] _ _ ms ⟨λb o e=>Å _ e,rfl,rfl⟩ (Ì _) (λb hb=>?_) m1 m2 (Walks.setT (t:=t) hh _ a (ä ϙ) hl nx) ⟨⟨_,Ñ _ rfl,rfl,by rw[f0];rfl⟩,Å _ ho,hd,hf⟩;simp only[Æ,Í,or_false]at hb;rcases hb with rfl|rfl
   .exact .inr<|Ì _
   .exact .inl rfl
  cases hbt:byT w with
  |true=>exact go _ _ rfl (AE _ es)<|EZ hbt hd hf
  |false =>rw[hbt]at hdr;exact go (λi=>match i with|0=>0|k+1=>t.place.getD k 0+1) _ rfl .rfl (HM hbt ht (by simpa using hdr) hd hf)
end
end L2
namespace L2
open PySem PySem.Spec PyProof.Rows
def Near.trans{a b c:Ä}(h:Near a b)(k:Near b c):Near a c:=⟨λx o e=>k.heap x o<|h.heap x o e,k.gens.trans h.gens,k.os.trans h.os⟩
def BK{vs:List Â}{Ĵ:Array Â}{n:Nat}(h:ItemsOf (λi v=>vs[i]?=eL v) Ĵ n)(hn:vs.length=n):Ĵ.toList=vs:=by
 refine List.ext_getElem? λi=>?_;rw[č];by_cases hi:i<Ĵ.size
 .rw[ö hi];exact(h.2 i _<|ö hi).symm
 .rw[Ϗ (by lia),Ş (by have:=h.1;lia)]
section
variable {prog:ß}{w:ñ}{A:ā}{E:Â->Ä->Prop}{s:Ä}
variable {a:È} {l:List Int}
def D5(hh:A.handled=eM)(hS:SetI prog w s.heap a l)(S:È)(hSa:S≠a)(hs:s.heap.get? S=eL {cls:=.type "list",data:=.seq #[] 0}){R:bz->Ä->Prop}
  (h:∀s' vs ms c,s'.gens=s.gens->s'.os=s.os->(∀b o,b≠S->s.heap.get? b=eL o->s'.heap.get? b=eL o)->ms.Perm l->ù vs ms->s'.heap.get? S=eL {cls:=.type "list",dict:=eM,data:=.seq vs.toArray c,slots:=#[]}->R (.ok<|.ret<|.ref S) s') :
  wpAny (Ù prog w) A.in1 (Builtin.List.listExtendWith (.ref S) (.ref a)<|.ref S) (λfin s'=>match fin with|.done f=>R (.ok f) s'|.again c'=>c'.quiet=eN/\codeAny (Ù prog w) A c' R s') (λe s'=>R (.error e) s') s:=by
 have hl:=hS.setOf;obtain⟨o,es,ep,t,es0,ho,hex,hd,hel,hb,hf,ht,hp,hi⟩:=id hS;have hsz:l.length<=Ø:=a9 (by rw[<-Xz hi,Ã,<-hp.length_eq,ï];exact hb);have hT:s.TypeIs (.ref a) "set":=⟨o,ho,hex.1⟩
 have hSs:S<s.heap.objs.size:=Õ hs;unfold Builtin.List.listExtendWith;refine À<|ϧ (T:="set") hT ?_;have h1:Builtin.List.listSameRef (.ref S) (.ref a)=eP:=by simp[Builtin.List.listSameRef,hSa]
 have h2:(Value.type "set" == Value.type "list")=eP:=by decide
 have h3:(Value.type "set" == Value.type "tuple")=eP:=by decide
 simp only[h1,h2,h3,ϰ,ĭ,if_false];refine À<|BD (A:=A.in1) hh hS λs1 I fp St vs ms ne hI hfp pm ia W st=>?_;have hsf:S∉fp:=λz=>by
  rcases hfp S z with q|q
  .exact hSa q
  .exact Ġ _<|â hSs q
 have hvl:vs.length=l.length:=(Xz ia).trans pm.length_eq;have key:∀(h':þ) (c tk:Nat),St 0 h'->(∀b o,b≠S->s1.heap.get? b=eL o->h'.get? b=eL o)->h'.get? S=eL {cls:=.type "list",data:=.seq #[] c}->codeAny (Ù prog w) A (.builtin "list.extend.loop" ⟨[.ref S,.ref I,.ref S],[]⟩) R {s1 with heap:=h',toks:=tk}:=by
  intro h' c tk dY hk hS1;refine codeAny_extend_loopS W.toS hsz S hsf (.ref S) l.length 0 _ #[] c rfl (Ŀ _) dY hS1 (ItemsOf.nil _) λs2 Ĵ c2 hm hS2 hacc=>?_;have ev:Ĵ.toList=vs:=BK hacc hvl;refine h s2 vs ms c2 (hm.gens.trans ne.gens) (hm.os.trans ne.os) (λb o hb e=>?_) pm ia (by rw[<-ev];simpa using hS2);refine hm.heap b o (λz=>?_)<|hk b o hb<|ne.heap b o e;rcases Æ.mp z with q|z
  .exact hb q
  .have z:b=I:=by simpa using z
   subst z;exact Ġ _<|â (Õ e) hI
 have hS1:=ne.heap S _ hs;refine À<|Ě<|CA ⟨o,ne.heap a o ho,hex.1⟩ ?_;refine İ (λ_=>?_) λ_=>Ç ⟨ő PySem.F.plain_extend_loop _,key _ 0 _ st (λb o _ e=>e) hS1⟩;refine À<|Χ ?_;refine À ?_;show wpAny _ _ (dP S (·.push .none) >>= λ_=>dP S (·.pop)) _ _ _;refine À<|Κ hS1 rfl ?_;have hS2:=Ď (Η (·.push Value.none)) hS1 rfl;refine Κ (hz:=by seq_fits) hS2 rfl ?_;have hS3:=Ď (Η (·.pop)) hS2 rfl;refine Ç ⟨ő PySem.F.plain_extend_loop _,key _ _ _ ?_ (λb o hb e=>?_) hS3⟩
 .refine W.frame 0 _ _ st λb hb o e=>?_;have d6:b≠S:=λz=>hsf<|z▸hb;exact(í _ _ d6.symm).trans<|(í _ _ d6.symm).trans e
 .exact(í _ _ hb.symm).trans<|(í _ _ hb.symm).trans e
def NB{Q:List Â->Ä->Prop}(hh:A.handled=eM)(hS:SetI prog w s.heap a l)(h:∀s' vs ms,Near s s'->ms.Perm l->ù vs ms->Q vs s'):wpAny (Ù prog w) A (collect<|.ref a) Q E s:=by
 have ϙ:a<s.heap.objs.size:=by obtain⟨_,_,_,_,_,e,_⟩:=hS;exact Õ e
 unfold collect;refine À<|wpAny_runValue<|į F.entry_proto_collect ?_;rw[ď F.plain_proto_collect _];show wpAny _ A.in1 (newList [] >>= λl=>again<|.builtin "list.__iadd__" ⟨[l,.ref a],[]⟩) _ _ s;refine À<|ÿ ?_;refine Ç ⟨ő F.plain_list_iadd _,į F.entry_list_iadd ?_⟩;rw[ď F.plain_list_iadd _];show wpAny _ A.in1 (Builtin.List.listExtendWith (.ref s.heap.objs.size) (.ref a)<|.ref s.heap.objs.size) _ _ _;have fin:∀(q:bz) (s':Ä),(∃vs ms c,q=.ok (.ret<|.ref s.heap.objs.size)/\Near s s'/\ms.Perm l/\ù vs ms/\s'.heap.get? s.heap.objs.size=eL {cls:=.type "list",dict:=eM,data:=.seq vs.toArray c,slots:=#[]})->
   wants (λ(a:Â) s'=>wpAny (Ù prog w) A (match a with
     |.ref a=>do
       match (<-load a).data with
       |.seq xs _=>pure xs.toList
       |_=>af "internal:collect"
     | _=>af "internal:collect") Q E s') E q s':=λq s' ⟨vs,ms,c,e,ne,pm,ia,hg⟩=>by
  subst e;show wpAny _ A (load s.heap.objs.size >>= _) _ _ _;refine À<|wpAny_load hg<|Ç ?_;exact h s' _ ms ne pm (by simpa using ia)
 refine Ā (D5 (A:=A) (s:={ s with heap:=s.heap.push { cls:=.type "list",data:=.seq ([]:List Â).toArray } }) (R:=λq s'=>∃vs ms c,q=.ok (.ret<|.ref s.heap.objs.size)/\Near s s'/\ms.Perm l/\ù vs ms/\s'.heap.get? s.heap.objs.size=eL { cls:=.type "list",dict:=eM,data:=.seq vs.toArray c,slots:=#[] })
   hh (hS.at λo e=>Å _ e) s.heap.objs.size (Ŭ ϙ) (Ñ _ rfl) λs' vs ms c g1 g2 g3 pm ia hg=>⟨vs,ms,c,rfl,⟨λb o e=>g3 b o (ä<|Õ e)<|Å _ e,g1,g2⟩,pm,ia,hg⟩) (λf s' z=>?_) λe s' z=>?_
 .cases f with
  |done f=>exact fin _ _ z
  |again c=>exact⟨z.1,š z.2 λq s2 y=>fin q s2 y⟩
 .exact fin _ _ z
end
variable {X:Cx}
def Inv.near{Á:List (È×Obj)}{σ:St}{H:Hp}{s s':Ä}(I:Inv X Á σ H s)(ne:Near s s'):Inv X Á σ H s':=by have J:Inv X Á σ H {s with heap:=s'.heap,toks:=s'.toks}:=I.kept ne.heap;exact⟨J.ok,ne.os.trans J.os,by rw[ne.gens];exact J.bare,J.base,J.loc,J.cell,J.free,J.freeC,J.pin,J.hok,J.len⟩
abbrev tSS(K:Frag)(te:TE):TE:=λσ H Q=>Gw te FN σ H λvs H1=>∃p,∃ns:List Int,vs=[.ref p]/\fX K H1 p (ns.map V.int)/\ns.length<64/\∀l,H1 l=eM->Q (.ref l) (upd H1 l<|.lst<|(sortI<|ϊ (λi=>ns.getD i 0) ns.length).map V.int)
def KO{e:Expr}{te:TE}{p p2 ç pos2:Pos}(hc:X.calm=eN)(hg:Gl X "sorted")(hm:X.mg "sorted" = eM)(hg2:Gl X "set")(hm2:X.mg "set" = eM)(he:PE X e te)(hs:Ð [e] X.env=[(eP,eval e X.env)]) :
  PE X (.Call (.Name "sorted" p) [.Call (.Name "set" p2) [e] [] pos2] [] ç) (tSS X.K te):=by
 intro Á s σ H Q I h;refine Ğ (YW (u:=.builtin "sorted") I hg hm (by kernel_rfl) ?_);refine PyProof.Rows.callWith_builtin1 ?_ rfl rfl;show wpAny _ _ (spliced<|(eP,eval (.Call (.Name "set" p2) [e] [] pos2) X.env)::[]) _ _ _;refine Calls.spliced_cons ?_;refine Ğ (YW (u:=.type "set") I hg2 hm2 (by kernel_rfl) ?_ (by decide)<|by decide);refine callWith_type1 (thn ((YD he fV hs) pos2 Á s σ H _ I h) λus s1 ⟨vs,H1,I1,r1,q1⟩=>?_) hs rfl;obtain⟨a,ns,e1,hq,h64,q⟩:=q1;subst e1;obtain⟨u,rfl,ru⟩:=YG r1;cases ru;obtain⟨ò,rv,pl,hz⟩:=I1.list hq;have Ē:=rv.length;rw[Ã]at Ē;refine Du (I1.ok.hd hc) pl.isList (by simpa using ZE rv) (by rw[Î];show ò.length+1<4096;lia) λh' tk x hk=>Calls.spliced_nil ?_
 replace x:SetI X.prog X.w h' s1.heap.objs.size<|ϊ (λi=>ns.getD i 0) ns.length:=by rw[Ē];rw[show ò.toArray.size=ò.length from Î]at x;exact x
 have I2:Inv X Á σ H1 {s1 with heap:=h',toks:=tk}:=I1.kept hk;refine Calls.call_function_entry kind_sorted plain_sorted entry_sorted (args_sorted1 _) ?_;unfold Builtin.«sorted»;refine À (m:=checkCount "sorted" 1 1 _)<|Ç ?_;refine À<|NB (A:=X.A.in1) (I1.ok.hd hc) x λs3 vs ms ne pm ia=>?_;have I3:=I2.near ne;have hvl:vs.length<64:=by rw[Xz ia,pm.length_eq];exact Ü (aI _ _) (by lia)
 refine À (du ?_<|by unfold Ø;lia);have hoL:(s3.heap.push<|Υ "list" vs.toArray 0).get? s3.heap.objs.size=eL (Υ "list" vs.toArray 0):=Ñ _ rfl;refine À<|Ě<|Ĉ slot_list_sort ⟨_,hoL,rfl⟩ entry_list_sort (list_sort_tree hoL ia hvl λout cg a1 a2 a3=>⟨_,rfl,?_⟩)<|args_list_sort _;have e:=Yx (a2.trans pm) a3;subst e;obtain⟨n,hat⟩:=sortedHeap_at (out:=out) hoL;refine Ç ⟨_,rfl,.ref s3.heap.objs.size,_,I3.laid (a:=s3.heap.objs.size) (o:=.lst<|(sortI<|ϊ (λi=>ns.getD i 0) ns.length).map V.int) (t':=s3.toks) (λb o e=>?_) (Ì _) ?_,rfl,q _<|I3.hok.fresh<|Ì _⟩
 .have hb:=Õ e;rw[sortedHeap_old (ä hb)<|by rw[size_push'];exact ķ hb];exact Å _ e
 .exact⟨by rw[Ã,YB];have:=aI (λi=>ns.getD i 0) ns.length;unfold Ø;lia,out.toList,n,Yt a1,by simpa[Υ]using hat⟩
end L2
namespace Snd
open PySem L2
variable {i:Inf}{X:Cx}{Φ:gf.Fs}
def Np{e:Expr}{m:gf.E}{p p2 ç pos2:Pos}(hc:X.calm=eN)(hK:X.K=i.K)(he:PE X e<|tE X i Φ m)(hg:Gl X "sorted")(hm:X.mg "sorted" = eM)(hg2:Gl X "set")(hm2:X.mg "set" = eM)(ů:Ð [e] X.env=[(eP,eval e X.env)]) :
  PE X (.Call (.Name "sorted" p) [.Call (.Name "set" p2) [e] [] pos2] [] ç) (tE X i Φ<|.bi .sortedSet<|.cons m .nil):=by
 refine(KO hc hg hm hg2 hm2 he ů).imp λσ H Q ⟨env,G,Qm,Em,p,w,c⟩=>?_;rw[gf.q_e_bi,gf.q_a_cons]at w;change tE X i Φ m σ H _;refine one p w λv G1 H1 x k1 p1 r q=>?_;rw[gf.q_a_nil]at q
 replace q:(gf.biSortedSet G1 v).wp G1 Qm:=q
 unfold gf.biSortedSet at q;cases z:gf.sortOf G1 v with
 |none=>rw[z]at q;exact(Zp q).elim
 |some ns =>
  rw[z]at q;dsimp only at q;split at q
  .rename_i h4;obtain⟨a,rfl,hs⟩:=Dq p1.hp r z;refine⟨a,ns,rfl,by rw[hK];exact hs,h4,?_⟩;rw[JX<|BP ns];exact Yl p1.hp (Ma q) (c.go k1) λp hp=>⟨_,eR,RVs.ints _⟩
  .exact(Zp q).elim
section
variable {K:Frag}{H H':Hp}
structure fT(H H':Hp):Prop where
 t:∀a xs,H a=eL (.tup xs)->H' a=eL (.tup xs)
 f:∀a o xs,H a=eL (.frz o<|.lst xs)->H' a=eL (.frz o<|.lst xs)
mutual
theorem RV.keepL(k:fT H H'):∀{v:gf.Val}{x:V},RV K H v x->RV K H' v x
 |_,_,.non=>.non
 |_,_,.bl b=>.bl b
 |_,_,.int i=>.int i
 |_,_,.str s=>.str s
 |_,_,.tup (.inl e) r=>.tup (.inl<|k.t _ _ e)<|RVs.keepL k r
 |_,_,.tup (.inr e) r=>.tup (.inr e)<|RVs.keepL k r
 |_,_,.ref a=>.ref a
 |_,_,.scr (.inl ⟨o,e⟩)=>.scr<|.inl ⟨o,k.f _ _ _ e⟩
 |_,_,.scr (.inr e)=>.scr<|.inr e
 |_,_,.key e=>.key<|k.t _ _ e
theorem RVs.keepL(k:fT H H'):∀{vs:List gf.Val}{xs:List V},RVs K H vs xs->RVs K H' vs xs
 |_,_,.nil=>.nil
 |_,_,.cons r t=>.cons (RV.keepL k r)<|RVs.keepL k t
end
def RKs.keepL(k:fT H H'):∀{kvs:List (gf.Val×gf.Val)}{ps:List (Key×V)},RKs K H kvs ps->RKs K H' kvs ps
 |_,_,.nil=>.nil
 |_,_,.cons a r t=>.cons a (r.keepL k)<|RKs.keepL k t
def RTs.keepL(k:fT H H'):∀{kvs:List (gf.Val×gf.Val)}{ps:List (List Key×V)},RTs K H kvs ps->RTs K H' kvs ps
 |_,_,.nil=>.nil
 |_,_,.cons r t=>.cons (r.keepL k)<|RTs.keepL k t
def RFs.keepL(k:fT H H'):∀{fs:List (String×gf.Val)}{ps:List (Str×V)},RFs K H fs ps->RFs K H' fs ps
 |_,_,.nil=>.nil
 |_,_,.cons r t=>.cons (r.keepL k)<|RFs.keepL k t
def REn.keepL{env:gf.Env}{σ:St}(r:REn K H env σ)(k:fT H H'):REn K H' env σ:=⟨r.len,λi v e=>by
  obtain⟨x,h1,h2⟩:=r.get i v e
  exact⟨x,h1,h2.keepL k⟩⟩
variable {a:È}
def RO.moveL{o:gf.Ob}(r:RO i H a o)(k:fT H H')(e:H' a=H a):RO i H' a o:=by
 cases o with
 |lst xs=>obtain⟨vs,q,r⟩:=r;exact⟨vs,e.trans q,r.keepL k⟩
 |dct kvs=>obtain⟨ps,q,r⟩:=r;exact⟨ps,e.trans q,r.keepL k⟩
 |ins C fs=>obtain⟨c,dx,ps,h0,h,q,r⟩:=r;exact⟨c,dx,ps,h0,h,e.trans q,r.keepL k⟩
 |exc C=>obtain⟨c,h,q⟩:=r;exact⟨c,h,e.trans q⟩
 |frz kvs=>obtain⟨o,ps,q,r⟩:=r;exact⟨o,ps,e.trans q,r.keepL k⟩
 |dtp kvs=>obtain⟨ps,q,r⟩:=r;exact⟨ps,e.trans q,r.keepL k⟩
variable {o:Obj} {ps:List (Key×V)}
def Xf(e:H a=eL (.frz o<|.dK ps)):fT H (upd H a<|.dK ps) :=
 ⟨λb xs q=>by rw[eQ<|by rintro rfl;rw[e]at q;cases q];exact q,λb p xs q=>by rw[eQ<|by rintro rfl;rw[e]at q;cases q];exact q⟩
def RH.thaw{G:gf.Hs}{kvs:List (gf.Val×gf.Val)}(g:RH i G H)(e:H a=eL (.frz o<|.dK ps))(r:RKs i.K H kvs ps):RH i (gf.upd G a<|.dct kvs)<|upd H a<|.dK ps:=λb p q=>by
 by_cases hb:b=a
 .subst hb;rw[gf.eR]at q;cases q;exact⟨ps,eR,r.keepL<|Xf e⟩
 .rw[gf.eQ hb]at q;exact(g b p q).moveL (Xf e)<|eQ hb
def RKs.len:∀{kvs:List (gf.Val×gf.Val)}{ps:List (Key×V)},RKs K H kvs ps->kvs.length=ps.length
 |_,_,.nil=>rfl
 |_,_,.cons _ _ t=>by rw[Ë,Ë,RKs.len t]
def RKs.at:∀{kvs:List (gf.Val×gf.Val)}{ps:List (Key×V)}{n:Nat}{c:Key}{x:V},RKs K H kvs ps->ps[n]?=eL (c,x)->∃k v,kvs[n]?=eL (k,v)/\Wv k c/\RV K H v x
 |_,_,n,_,_,.nil,e=>by simp at e
 |_,_,0,_,_,.cons hk r _,e=>by simp at e;obtain⟨rfl,rfl⟩:=e;exact⟨_,_,rfl,hk,r⟩
 |_,_,n+1,_,_,.cons _ _ t,e=>by obtain⟨k,v,h1,h2⟩:=RKs.at (n:=n) t (by simpa using e);exact⟨k,v,by simpa using h1,h2⟩
def B7{k:gf.Val}{c:Key}(h:Wv k c):RV K H k<|kV c:=by
 cases k with
 |int j=>cases c with
  |inl l=>have h:j=l:=h;subst h;exact .int _
  |inr _=>exact(show False from h).elim
 |str s=>cases c with
  |inl _=>exact(show False from h).elim
  |inr t=>have h:t=gu s:=h;subst h;exact .str _
 |_=>exact(show False from h).elim
end
variable {H0:Hp} {a:È} {o:Obj} {ps:List (Key×V)} {kvs:List (gf.Val×gf.Val)}
def Bz(e0:H0 a=eL (.frz o<|.dK ps))(r0:RKs i.K H0 kvs ps):ItOk i H0 (Iti a o ps) (λg=>g a=eL (.frz kvs)) (kvs.map<|gf.itemOf eP) where
 go:=λn G H v k g e hv=>by
  have e1:=k.f _ _ _ e0;rw[Ý]at hv;obtain⟨p,hp,rfl⟩:=Ò.mp hv;have hn:n<ps.length:=by rw[<-r0.len];exact(Ó.mp hp).1
  refine⟨⟨e1,hn⟩,λx H' ⟨q,c,y,ex,hq,hy,eH⟩=>?_⟩;subst ex eH;obtain⟨k2,v2,h1,h2,h3⟩:=(r0.keep k).at hy;rw[hp]at h1;cases h1;have kk:fm H<|upd H q<|.tup [kV c,y]:=fm.new hq;exact⟨kk,WP g hq,.tup (.inl eR)<|.cons (B7 h2)<|.cons (h3.keep kk) .nil⟩
 stop:=λn G H k g e hn=>⟨k.f _ _ _ e0,by rw[<-r0.len];simpa using hn⟩
def DW(e0:H0 a=eL (.frz o<|.dK ps))(r0:RKs i.K H0 kvs ps):ItOk i H0 (Itk a o ps) (λg=>g a=eL (.frz kvs)) (kvs.map<|gf.itemOf eN) where
 go:=λn G H v k g e hv=>by
  have e1:=k.f _ _ _ e0;rw[Ý]at hv;obtain⟨p,hp,rfl⟩:=Ò.mp hv;have hn:n<ps.length:=by rw[<-r0.len];exact(Ó.mp hp).1
  refine⟨⟨e1,hn⟩,λx H' ⟨eH,c,y,hy,ex⟩=>?_⟩;subst ex eH;obtain⟨k2,v2,h1,h2,h3⟩:=(r0.keep k).at hy;rw[hp]at h1;cases h1;exact⟨fm.refl _,g,B7 h2⟩
 stop:=λn G H k g e hn=>⟨k.f _ _ _ e0,by rw[<-r0.len];simpa using hn⟩
variable {tg:Expr} {ç:Pos} {body:List ħ} {q:gf.Pt} {m:gf.E} {mb:gf.Ss}
def Ur{ŷ:Expr}{kb:Bool}{J:È->Obj->List (Key×V)->It}(hp:ah (Ù X.prog X.w) X.A X.env X.xe)(hc:X.calm=eN)(hi:PI X tg ŷ<|HB X J<|tE X i Φ m)(hg:PG X tg<|gPt i q)(hb:PSs X body<|tBl X i Φ mb)
  (hs:∀x,ė ŷ X.env x=pure x) (hJ:∀(H0:Hp) (a:È) (o:Obj) (ps:List<|Key×V) (kvs:List<|gf.Val×gf.Val),H0 a=eL (.frz o<|.dK ps)->RKs i.K H0 kvs ps->ItOk i H0 (J a o ps) (λg=>g a=eL (.frz kvs)) (kvs.map<|gf.itemOf kb)) :
  PS X (.For tg ŷ body [] ç) (tSt X i Φ<|.forI kb q m mb):=by
 intro Á s σ H D I ⟨env,G,N,R,B,C,Xe,p,w,c⟩;refine E8 (CC hp hc hi hg hb hs) Á s σ H D I ?_;refine one p.pre w λv G1 H1 x k1 p1 rx w'=>?_;obtain⟨a,e1,w''⟩:=eU w';obtain⟨kvs,e2,w1⟩:=eU w'';clear w' w'';have ev:v=.ref a:=by
  cases v with
  |ref b=>cases e1;rfl
  |_=>cases e1
 subst ev;cases rx.ref_inv;have eG:G1 a=eL (.dct kvs):=by
  cases z:G1 a with
  |none=>rw[z]at e2;cases e2
  |some o=>rw[z]at e2;cases o<;>first|(cases e2;rfl)|cases e2
 obtain⟨ps,ha,hr⟩:=p1.hp a _ eG;refine⟨a,ps,rfl,ha,λo h0=>?_⟩;have k2:fm H1<|upd H1 a<|.frz o<|.dK ps:=fm.put (λxs z=>by rw[ha]at z;cases z) λp u z=>by rw[ha]at z;cases z
 have g2:RH i (gf.upd G1 a<|.frz kvs)<|upd H1 a<|.frz o<|.dK ps:=p1.hp.put k2 ⟨o,ps,eR,hr.keep k2⟩;have it:=hJ _ a o ps kvs eR<|hr.keep k2;have Ϙ:∀{H':Hp}{G':gf.Hs},fm (upd H1 a<|.frz o<|.dK ps) H'->RH i G' H'->H' a=eL (.frz o<|.dK ps)/\RKs i.K H' kvs ps/\fm H (upd H' a<|.dK ps):=λ{H' G'} k g=>by
  have e:=k.f a o _ eR;refine⟨e,(hr.keep k2).keep k,λb xs z=>?_,λb o' u z=>?_⟩
  .have z1:=k1.t b xs z;have hb:b≠a:=by rintro rfl;rw[ha]at z1;cases z1
   rw[eQ hb];exact k.t b xs (by rw[eQ hb];exact z1)
  .have z1:=k1.f b o' u z;have hb:b≠a:=by rintro rfl;rw[ha]at z1;cases z1
   rw[eQ hb];exact k.f b o' u (by rw[eQ hb];exact z1)
 have fin:∀Ŝ Ś G' H',fm (upd H1 a<|.frz o<|.dK ps) H'->RH i G' H'->REn i.K H' Ŝ Ś->(G' a=eL (.frz kvs)/\N Ŝ (gf.upd G' a<|.dct kvs))->(D.thaw X).nx Ś H':=λŜ Ś G' H' k g en ⟨_,n⟩=>by obtain⟨b1,b2,b3⟩:=Ϙ k g;exact⟨a,o,ps,b1,h0,c.nx Ŝ Ś _ _ b3 (g.thaw b1 b2) (en.keepL<|Xf b1) n⟩
 have ret:∀v G' H' x,fm (upd H1 a<|.frz o<|.dK ps) H'->RH i G' H'->RV i.K H' v x->(G' a=eL (.frz kvs)/\R v (gf.upd G' a<|.dct kvs))->(D.thaw X).rt x H':=λv G' H' x k g r ⟨_,n⟩=>by obtain⟨b1,b2,b3⟩:=Ϙ k g;exact⟨a,o,ps,b1,h0,c.rt v _ _ x b3 (g.thaw b1 b2) (r.keepL<|Xf b1) n⟩
 have xo:∀Hq,XW X (XKS i Hq λ_ _ _=>False):=λHq=>λ_ _ _ _ _ _ _ _ _ _ ⟨_,_,_,_,_,_,_,_,z⟩=>z.elim;generalize hxs:kvs.map (gf.itemOf kb)=xs at w1 it;generalize ů:(λg:gf.Hs=>g a=eL (.frz kvs))=st at w1 it;refine⟨λn m Ś H'=>n+m=xs.length/\∃Ŝ G',fm (upd H1 a<|.frz o<|.dK ps) H'/\RH i G' H'/\REn i.K H' Ŝ Ś/\gf.wFor st (λv e g K M=>gf.go (gf.bind q g v e) λe2=>gf.wSs Φ mb e2 g K (λu g2=>g2 a=eL (.frz kvs)/\R u (gf.upd g2 a<|.dct kvs)) M K λ_ _ _=>False) (λe g=>g a=eL (.frz kvs)/\N e (gf.upd g a<|.dct kvs)) (xs.drop n) Ŝ G',⟨xs.length,by lia,env,_,fm.refl _,g2,(p.en.keep k1).keep k2,by simpa using w1⟩,?_⟩;rintro n m Ś H' ⟨hnm,Ŝ,G',k3,g3,e3,w3⟩;by_cases hn:n<xs.length
 .right;have hd:xs.drop n=xs[n]::xs.drop (n+1):=Ξ hn;rw[hd]at w3;obtain⟨s2,w3⟩:=w3;have hv:xs[n]?=eL xs[n]:=É hn;obtain⟨a1,a2⟩:=it.go n G' H' xs[n] k3 g3 s2 hv;refine⟨a1,λσ4 H4=>∃cT G4,fm (upd H1 a<|.frz o<|.dK ps) H4/\RH i G4 H4/\REn i.K H4 cT σ4/\gf.wFor st (λv e g K M=>gf.go (gf.bind q g v e) λe2=>gf.wSs Φ mb e2 g K (λu g2=>g2 a=eL (.frz kvs)/\R u (gf.upd g2 a<|.dct kvs)) M K λ_ _ _=>False) (λe g=>g a=eL (.frz kvs)/\N e (gf.upd g a<|.dct kvs)) (xs.drop<|n+1) cT G4,λσ4 H4 h=>⟨m - 1,by lia,by lia,h⟩,λx H4 hy=>?_⟩;obtain⟨k4,g4,r4⟩:=a2 x H4 hy;obtain⟨dD,e5,w5⟩:=eU w3;refine⟨xs[n],Ŝ,G',dD,r4,g4,e3.keep k4,e5,λσ5 h5=>?_⟩;refine⟨dD,G',_,_,_,_,_,⟨h5,g4,xo _⟩,w5,⟨λenv6 σ6 G6 H6 k6 g6 e6 w6=>?_,λv6 G6 H6 x6 k6 g6 r6 w6=>?_,λenv6 σ6 G6 H6 k6 g6 e6 w6=>?_,λenv6 σ6 G6 H6 k6 g6 e6 w6=>?_⟩⟩
  .exact⟨env6,G6,(k3.trans k4).trans k6,g6,e6,w6⟩
  .exact ret v6 G6 H6 x6 ((k3.trans k4).trans k6) g6 r6 w6
  .exact fin env6 σ6 G6 H6 ((k3.trans k4).trans k6) g6 e6 w6
  .exact⟨env6,G6,(k3.trans k4).trans k6,g6,e6,w6⟩
 .left;have hd:xs.drop n=[]:=ŕ (by lia);rw[hd]at w3;exact⟨it.stop n G' H' k3 g3 w3.1 (by lia),fin Ŝ Ś G' H' k3 g3 e3 w3.2⟩
variable {kk:Nat} {d:Expr}
def FT{es:List Expr}{tp Ń Ŏ:Pos}(hp:ah (Ù X.prog X.w) X.A X.env X.xe)(hc:X.calm=eN)(hd:PE X d<|tE X i Φ m)(hg:PG X (.Tuple es kk tp)<|gPt i q)(hb:PSs X body<|tBl X i Φ mb)
  (aM:ĥ d "items" X.env (eval d X.env)=eval d X.env) (aN:(Ń.endLine==Ŏ.line)=eN) (hs:∀x,ė (.Call (.Attribute d "items" Ń) [] [] Ŏ) X.env x=pure x) :
  PS X (.For (.Tuple es kk tp) (.Call (.Attribute d "items" Ń) [] [] Ŏ) body [] ç) (tSt X i Φ<|.forI eP q m mb) :=
 Ur hp hc (Db hd aM aN) hg hb hs λ_ _ _ _ _ e r=>Bz e r
def EB(hp:ah (Ù X.prog X.w) X.A X.env X.xe)(hc:X.calm=eN)(hd:PE X d<|tE X i Φ m)(hg:PG X tg<|gPt i q)(hb:PSs X body<|tBl X i Φ mb)(hs:∀x,ė d X.env x=pure x) :
  PS X (.For tg d body [] ç) (tSt X i Φ<|.forI eN q m mb) :=
 Ur hp hc (ES hd) hg hb hs λ_ _ _ _ _ e r=>DW e r
def MN(ľ:List<|List Int):∀(k:Nat) (x:List Int) (r:List<|List Int),ľ.take (k+1)=x::r->k<ľ.length->gf.minR x r=ľ.getD (ļ (btL λn=>ľ.getD n []) k) []
 |0,x,r,h,hk=>by
  cases ľ with
  |nil=>cases h
  |cons y ys=>simp at h;obtain⟨rfl,rfl⟩:=h;rfl
 |k+1,x,r,h,hk=>by
  cases ľ with
  |nil=>cases h
  |cons y ys =>
   rw[Ϯ]at h;injection h with h1 h2;subst h1 h2;have bO:k<ys.length:=by simpa using hk
   have ih:=MN (y::ys) k y (ys.take k) (by rw[Ϯ]) (by simp;lia);have e:ys.take (k+1)=ys.take k++[ys[k]]:=by rw[ż];simp[bO]
   have app:∀(b:List Int) (l:List<|List Int) (z:List Int),gf.minR b (l++[z])=if gf.fE z (gf.minR b l)then z else gf.minR b l:=by
    intro b l z;induction l generalizing b with
    |nil=>rfl
    |cons w l ih=>exact ih _
   rw[e,app,ih];have e2:(y::ys).getD (k+1) []=ys[k]:=by simp[bO]
   show _=(y::ys).getD (if btL (λn=>(y::ys).getD n []) (k+1) (ļ (btL λn=>(y::ys).getD n []) k)=eN then k+1 else ļ (btL λn=>(y::ys).getD n []) k) [];have eb:btL (λn=>(y::ys).getD n []) (k+1) (ļ (btL λn=>(y::ys).getD n []) k)=gf.fE ys[k] ((y::ys).getD (ļ (btL λn=>(y::ys).getD n []) k) []):=by rw[Mw,<-e2];rfl
   rw[eb];cases gf.fE ys[k] ((y::ys).getD (ļ (btL λn=>(y::ys).getD n []) k) [])with
   |true=>rw[gg rfl,gg rfl,e2]
   |false=>rw[gh (by decide),gh<|by decide]
def FI{G:gf.Hs}{H:Hp}{xs:List gf.Val}{us:List V}{w:List Int}{r:List (List Int)}{y:V}(h2:RVs i.K H xs us)(h3:(w::r).length=us.length)(h5:xs=(w::r).map λn=>.tup<|n.map .int)(hy:us[ļ (btL λn=>(w::r).getD n [])<|us.length - 1]?=eL y):RV i.K H (.tup<|(gf.minR w r).map .int) y:=by
 rw[MN (w::r) ((w::r).length - 1) w r (by simp)<|by simp];rw[<-h3]at hy;have ϙ:ļ (btL λn=>(w::r).getD n []) ((w::r).length - 1)<(w::r).length:=by have:=JO (btL λn=>(w::r).getD n [])<|(w::r).length - 1;simp only[Ë]at this ⊢;lia
 generalize hj:ļ (btL λn=>(w::r).getD n []) ((w::r).length - 1)=j at hy ϙ ⊢;have hxj:xs[j]?=eL (.tup<|((w::r).getD j []).map .int):=by rw[h5,Ý,É ϙ];simp[ý,É ϙ]
 obtain⟨x2,df,rx2⟩:=h2.get hxj;rw[hy]at df;cases df;exact rx2
def HQ{e:Expr}{p kp kpos:Pos}(hc:X.calm=eN)(hu:X.A.units+1<Ĩ)(hK:X.K=i.K)(hg:Gl X "min")(hm:X.mg "min" = eM)(he:PE X e<|tE X i Φ m)(hs:Ð [e] X.env=[(eP,eval e X.env)]) :
  PE X (.Call (.Name "min" p) [e] [⟨eL "default",.Constant .none kk kp,kpos⟩] ç) (tE X i Φ<|.bi .minD<|.cons m .nil):=by
 refine(FK hc hu hg hm (YD he fV<|by rw[hs];rfl) hs).imp λσ H Q ⟨env,G,Qm,Em,p,w,c⟩=>?_;change tE X i Φ m σ H _;refine one p w λv G1 H1 x k1 p1 r q=>?_
 replace q:(gf.fN G1 v).wp G1 Qm:=q
 cases v with
 |ref a =>
  cases r.ref_inv;unfold gf.fN at q;dsimp only at q;cases z:(gf.fe<|G1 a).bind gf.rowsOf with
  |none=>rw[z]at q;exact(Zp q).elim
  |some ľ =>
   obtain⟨xs,z1,z2⟩:=ê.mp z;obtain⟨us,h1,h2⟩:=ZX p1.hp z1;obtain⟨h3,h4,h5⟩:=Nl h2 z2;rw[z]at q;refine⟨a,us,ľ,rfl,by rw[hK];exact h1,h3,by rw[hK];exact h4,λe0=>?_,λe0 y hy=>?_⟩
   .subst e0;cases ľ with
    |nil=>exact c _ G1 H1 _ k1 p1.hp .non<|Zs q
    |cons _ _=>cases h3
   .cases ľ with
    |nil=>exact gp (bT.mp h3.symm) e0
    |cons w r =>exact c _ G1 H1 _ k1 p1.hp (FI (G:=G1) h2 h3 h5 hy)<|Zs q
 |_=>exact(Zp q).elim
structure Md where
 N:List Str
 sc:ν
 cs:List<|String×gf.Val
 fs:List String
 cm:Bool
 cl:List String
 ms:List<|String×String
 fl:List String
 xs:List String
abbrev Md.nmOf(c:Md)(j:Nat):Str:=c.N.getD j Str.empty
abbrev Md.vis(c:Md)(x:Str):Bool:=match c.sc.names.lookup x with
 |some .local=>eN
 |some .cell=>eN
 |some .free=>eN
 |_=>eP
abbrev Md.loc(c:Md)(x:Str):Bool:=c.sc.names.lookup x==eL .local||c.sc.names.lookup x==eL .cell
abbrev Md.gl(c:Md)(x:Str):Bool:=c.sc.names.lookup x==eL .globalImplicit
abbrev nm(x:Str):Bool:=!(x==("__debug__" : Str)) && !(x==("__classdict__" : Str)) && !(x==("__name__" : Str))
abbrev dE:Expr:=.Name Str.empty ⟨0,0,0,0⟩
abbrev mix:List (Option Expr)->List Expr->List Expr
 |k::ks,v::vs=>k.getD dE::v::mix ks vs
 |_,_=>[]
abbrev sub:Expr->List Expr
 |.BoolOp _ xs _=>xs
 |.BinOp a _ b _=>[a,b]
 |.UnaryOp _ a _=>[a]
 |.IfExp a b c _=>[a,b,c]
 |.Compare a _ bs _=>a::bs
 |.Call f as ks _=>f::(as++ks.map (·.value))
 |.FormattedValue a _ _ _=>[a]
 |.JoinedStr vs _=>vs
 |.Attribute a _ _=>[a]
 |.Subscript a b _=>[a,b]
 |.List es _=>es
 |.Tuple es _ _=>es
 |.Slice a b c _=>[a.getD dE,b.getD dE,c.getD dE]
 |.ListComp e gs _ _=>e::gs.flatMap λg=>g.target::g.iter::g.ifs
 |.Dict ks vs _=>mix ks vs
 |_=>[]
abbrev kid(x:Expr)(j:Nat):Expr:=(sub x).getD j dE
abbrev num:Expr->Nat
 |.Constant _ k _=>k
 |.Tuple _ k _=>k
 |_=>0
abbrev scp:Expr->ν
 |.ListComp _ _ s _=>s
 |_=>default
abbrev kwp:Expr->Pos
 |.Call _ _ (k::_) _=>k.pos
 |_=>⟨0,0,0,0⟩
abbrev NU:gf.Bop->Ϝ
 |.add=>.Add
 |.sub=>.Sub
 |.mul=>.Mult
 |.fdiv=>.FloorDiv
 |.mod=>.Mod
 |.pow=>.Pow
abbrev Wy:gf.Cop->cq
 |.eq=>.Eq
 |.ne=>.NotEq
 |.lt=>.Lt
 |.le=>.LtE
 |.gt=>.Gt
 |.ge=>.GtE
 |.isin=>.In
 |.notin=>.NotIn
 |.is=>.Is
 |.isnot=>.IsNot
 |.eqE=>.Eq
 |.neE=>.NotEq
 |.ntT=>.IsNot
abbrev LR:gf.Val->Const
 |.non=>.none
 |.bl b=>.bool b
 |.int i=>.int i
 |.str s=>.str<|gu s
 |_=>.ellipsis
abbrev Gj:gf.Val->Bool
 |.non=>eN
 |.bl _=>eN
 |.int _=>eN
 |.str _=>eN
 |_=>eP
abbrev ZH:gf.E->Bool
 |.and _ _=>eN
 |_=>eP
abbrev Yn:gf.E->Bool
 |.or _ _=>eN
 |_=>eP
abbrev Zo:gf.Tt->Bool
 |.and _ _=>eN
 |_=>eP
abbrev ZA:gf.Tt->Bool
 |.or _ _=>eN
 |_=>eP
abbrev rest(b:Bool)(x:Expr):Expr:=match b,x with
 |true,.BoolOp op (_::xs) p=>.BoolOp op xs p
 |_,x=>kid x 1
abbrev Xq(b:Bool)(x:Expr):List Expr:=match b with
 |true=>sub x
 |false=>[x]
abbrev YO:gf.Bi->Str
 |.len=>"len"
 |.int=>"int"
 |.str=>"str"
 |.bool=>"bool"
 |.abs=>"abs"
 |.min2=>"min"
 |.max2=>"max"
 |.minL=>"min"
 |.maxL=>"max"
 |.minP=>"min"
 |.maxP=>"max"
 |.minD=>"min"
 |.sum=>"sum"
 |.all=>"all"
 |.any=>"any"
 |.sorted=>"sorted"
 |.sortedI=>"sorted"
 |.sortedSet=>"sorted"
 |.lenSet=>"len"
 |.list=>"list"
 |.tuple=>"tuple"
 |.dict=>"dict"
 |.isi _=>"isinstance"
 |.isx _=>"isinstance"
 |.isc _=>"isinstance"
 |.repr=>"repr"
 |.listRev=>"list"
 |.listRange=>"list"
 |.tupRange=>"tuple"
 |.dictEnum=>"dict"
abbrev LM:gf.Bi->Option Str
 |.sortedSet=>eL "set"
 |.lenSet=>eL "set"
 |.listRev=>eL "reversed"
 |.listRange=>eL "range"
 |.tupRange=>eL "range"
 |.dictEnum=>eL "enumerate"
 |_=>eM
abbrev G0(Ts:List String)(x:Expr):Expr:=match Ts with
 |[T]=>.Name (gu T) x.pos
 |Ts=>.Tuple (Ts.zipIdx.map λp=>.Name (gu p.1) (kid x p.2).pos) (num x) x.pos
abbrev HP(f:gf.Bi)(as:List Expr)(x:Expr):List Expr:=match LM f with
 |some y=>[.Call (.Name y (kid (kid x 1) 0).pos) as [] (kid x 1).pos]
 |none=>match f with
  |.isi Ts=>as++[G0 Ts<|kid x 2]
  |.isx Ts=>as++[G0 Ts<|kid x 2]
  |.isc T=>as++[G0 [T]<|kid x 2]
  |_=>as
abbrev Up(f:gf.Bi)(x:Expr):List Expr:=match LM f with
 |some _=>(sub<|kid x 1).tail
 |none=>(sub x).tail
abbrev Rg(f:gf.Bi)(x:Expr):List aX:=match f with
 |.minD=>[⟨eL "default",.Constant .none (num<|kid x 2) (kid x 2).pos,kwp x⟩]
 |_=>[]
abbrev LA:gf.Bm->Str
 |.append=>"append"
 |.extend=>"extend"
 |.pop=>"pop"
 |.popAt=>"pop"
 |.insert=>"insert"
 |.remove=>"remove"
 |.clear=>"clear"
 |.reverse=>"reverse"
 |.index=>"index"
 |.count=>"count"
 |.dget=>"get"
 |.dgetD=>"get"
 |.dpop=>"pop"
 |.dpopD=>"pop"
 |.setdefault=>"setdefault"
 |.join=>"join"
 |.split=>"split"
 |.replace=>"replace"
 |.upper=>"upper"
 |.partition=>"partition"
 |.sidx=>"index"
abbrev XH:List Expr->List (Option Expr)
 |k::_::r=>eL k::XH r
 |_=>[]
abbrev BW:List Expr->List Expr
 |_::v::r=>v::BW r
 |_=>[]
abbrev toP(p:gf.Pt)(c:Md)(x:Expr):Expr:=match p with
 |.one j=>.Name (c.nmOf j) x.pos
 |.many js=>.Tuple (js.zipIdx.map λp=>.Name (c.nmOf p.1) (kid x p.2).pos) (num x) x.pos
 |.nest j js=>.Tuple [.Name (c.nmOf j) (kid x 0).pos,.Tuple (js.zipIdx.map λp=>.Name (c.nmOf p.1) (kid (kid x 1) p.2).pos) (num<|kid x 1) (kid x 1).pos] (num x) x.pos
abbrev nmX:Expr->Str
 |.Name x _=>x
 |_=>Str.empty
abbrev YC:Expr->List Str
 |.Tuple es _ _=>es.map nmX
 |x=>[nmX x]
abbrev Md.blk(c:Md)(sc:ν)(x:List Str)(ô:List Nat):Md :=
 {N:=x++ô.map (λj=>c.N.getD j Str.empty),sc:={sc with names:=sc.names.map λ(n,k)=>if(k == .free&&c.sc.kind == .function&&c.sc.names.lookup n==eL .cell)then(n,.cell)else(n,k)},cs:=c.cs,fs:=c.fs,cm:=c.cm,cl:=c.cl,ms:=c.ms,fl:=c.fl,xs:=c.xs}
abbrev AI:gf.E->Bool
 |.cst (.str _)=>eN
 |_=>eP
mutual
noncomputable def toX:gf.E->Md->Expr->Expr
 |.cst v,_,x=>.Constant (LR v) (num x) x.pos
 |.var j,c,x=>.Name (c.nmOf j) x.pos
 |.glob y _,_,x=>.Name (gu y) x.pos
 |.bin o a b,c,x=>.BinOp (toX a c<|kid x 0) (NU o) (toX b c<|kid x 1) x.pos
 |.neg a,c,x=>.UnaryOp .USub (toX a c<|kid x 0) x.pos
 |.not a,c,x=>.UnaryOp .Not (toX a c<|kid x 0) x.pos
 |.and a b,c,x=>.BoolOp .And (toX a c (kid x 0)::Xq (ZH b) (toX b c<|rest (ZH b) x)) x.pos
 |.or a b,c,x=>.BoolOp .Or (toX a c (kid x 0)::Xq (Yn b) (toX b c<|rest (Yn b) x)) x.pos
 |.cmp o a b,c,x=>.Compare (toX a c<|kid x 0) [Wy o] [toX b c<|kid x 1] x.pos
 |.chain o1 o2 a b d,c,x=>.Compare (toX a c<|kid x 0) [Wy o1,Wy o2] [toX b c<|kid x 1,toX d c<|kid x 2] x.pos
 |.call f as,c,x=>.Call (.Name (gu f) (kid x 0).pos) (toA as c (sub x).tail) [] x.pos
 |.make C as,c,x=>.Call (.Name (gu C) (kid x 0).pos) (toA as c (sub x).tail) [] x.pos
 |.meth _ m o as,c,x=>.Call (.Attribute (toX o c<|kid (kid x 0) 0) (gu m) (kid x 0).pos) (toA as c (sub x).tail) [] x.pos
 |.fld o f,c,x=>.Attribute (toX o c<|kid x 0) (gu f) x.pos
 |.bi f as,c,x=>.Call (.Name (YO f) (kid x 0).pos) (HP f (toA as c<|Up f x) x) (Rg f x) x.pos
 |.bm m o as,c,x=>.Call (.Attribute (toX o c<|kid (kid x 0) 0) (LA m) (kid x 0).pos) (toA as c (sub x).tail) [] x.pos
 |.idx a b,c,x=>.Subscript (toX a c<|kid x 0) (toX b c<|kid x 1) x.pos
 |.slc a lo hi,c,x=>.Subscript (toX a c<|kid x 0) (.Slice (toO lo c<|kid (kid x 1) 0) (toO hi c<|kid (kid x 1) 1) eM (kid x 1).pos) x.pos
 |.rev a,c,x=>.Subscript (toX a c<|kid x 0) (.Slice eM eM (eL<|.UnaryOp .USub (.Constant (.int 1) (num<|kid (kid (kid x 1) 2) 0) (kid (kid (kid x 1) 2) 0).pos) (kid (kid x 1) 2).pos) (kid x 1).pos) x.pos
 |.tup es,c,x=>.Tuple (toA es c<|sub x) (num x) x.pos
 |.key es,c,x=>.Tuple (toA es c<|sub x) (num x) x.pos
 |.dctP,c,x=>.Dict [] [] x.pos
 |.lst es,c,x=>.List (toA es c<|sub x) x.pos
 |.dct es,c,x=>.Dict (XH<|toA es c<|sub x) (BW<|toA es c<|sub x) x.pos
 |.ife t a b,c,x=>.IfExp (toT t c<|kid x 0) (toX a c<|kid x 1) (toX b c<|kid x 2) x.pos
 |.comp ô _ p it t e,c,x=>.ListComp (toX e (c.blk (scp x) (YC<|kid x 1) ô)<|kid x 0) [⟨toP p (c.blk (scp x) (YC<|kid x 1) ô)<|kid x 1,toI it c<|kid x 2,toF t (c.blk (scp x) (YC<|kid x 1) ô)<|kid x 3,0⟩] (scp x) x.pos
 |.fstr es,c,x=>.JoinedStr (toJ es c<|sub x) x.pos
 |.split o a,c,x=>.Call (.Attribute (toX o c<|kid (kid x 0) 0) "split" (kid x 0).pos) [toX a c<|kid x 1] [] x.pos
 |.repl o y z,c,x=>.Call (.Attribute (toX o c<|kid (kid x 0) 0) "replace" (kid x 0).pos) [.Constant (.str<|gu y) (num<|kid x 1) (kid x 1).pos,.Constant (.str<|gu z) (num<|kid x 2) (kid x 2).pos] [] x.pos
noncomputable def toA:gf.Es->Md->List Expr->List Expr
 |.nil,_,_=>[]
 |.cons e es,c,xs=>toX e c (xs.headD dE)::toA es c xs.tail
noncomputable def toJ:gf.Es->Md->List Expr->List Expr
 |.nil,_,_=>[]
 |.cons e es,c,xs=>(if AI e then toX e c (xs.headD dE)else .FormattedValue (toX e c<|kid (xs.headD dE) 0) (-1) eM (xs.headD dE).pos)::toJ es c xs.tail
noncomputable def toO:gf.Oe->Md->Expr->Option Expr
 |.none,_,_=>eM
 |.some e,c,x=>eL<|toX e c x
noncomputable def toT:gf.Tt->Md->Expr->Expr
 |.yes,_,x=>x
 |.val e,c,x=>toX e c x
 |.not t,c,x=>.UnaryOp .Not (toT t c<|kid x 0) x.pos
 |.and a b,c,x=>.BoolOp .And (toT a c (kid x 0)::Xq (Zo b) (toT b c<|rest (Zo b) x)) x.pos
 |.or a b,c,x=>.BoolOp .Or (toT a c (kid x 0)::Xq (ZA b) (toT b c<|rest (ZA b) x)) x.pos
noncomputable def toF:gf.Tt->Md->Expr->List Expr
 |.yes,_,_=>[]
 |.val e,c,x=>[toX e c x]
 |.not t,c,x=>[.UnaryOp .Not (toT t c<|kid x 0) x.pos]
 |.and a b,c,x=>[.BoolOp .And (toT a c (kid x 0)::Xq (Zo b) (toT b c<|rest (Zo b) x)) x.pos]
 |.or a b,c,x=>[.BoolOp .Or (toT a c (kid x 0)::Xq (ZA b) (toT b c<|rest (ZA b) x)) x.pos]
noncomputable def toI:gf.It->Md->Expr->Expr
 |.seq e,c,x=>toX e c x
 |.chars e,c,x=>toX e c x
 |.range a,c,x=>.Call (.Name "range" (kid x 0).pos) [toX a c<|kid x 1] [] x.pos
 |.range2 a b,c,x=>.Call (.Name "range" (kid x 0).pos) [toX a c<|kid x 1,toX b c<|kid x 2] [] x.pos
 |.enum e,c,x=>.Call (.Name "enumerate" (kid x 0).pos) [toX e c<|kid x 1] [] x.pos
 |.zip a b,c,x=>.Call (.Name "zip" (kid x 0).pos) [toX a c<|kid x 1,toX b c<|kid x 2] [] x.pos
 |.items e,c,x=>toX e c x
 |.rev e,c,x=>.Call (.Name "reversed" (kid x 0).pos) [toX e c<|kid x 1] [] x.pos
end
abbrev blts:List Str:=["isinstance","int","bool","str","list","tuple","dict","max","min","range","len","sorted","set","all","any","sum","enumerate","zip","reversed","abs","repr","ValueError"]
structure Kls(X:Cx)(i:Inf)(P:gf.Pg)(n:Nat)(c:Md):Prop where
 A:ClsA i
 F:∀f,c.fl.contains f=eN->FldOk i f
 mkc:∀C,c.cl.contains C=eN->∃a f,i.ins C=eN/\i.cl C a/\Mk i.K a f/\X.mg (gu C)=eL (.ref a)/\Dfm X.prog X.w X.mg X.base i P n (C ++ ".__init__") f
 mth:∀C m,c.ms.contains (C,m)=eN->∃a f,(∀b,i.cl C b->b=a)/\Cls i.K a/\Meth i.K a (gu m) f/\Dfm X.prog X.w X.mg X.base i P n (C ++ "." ++ m) f
structure Xls(X:Cx)(i:Inf)(c:Md):Prop where
 xc:∀C a,i.xc C a->XCls i.K a/\PySem.W.kitOne i.K (.ref a) (.type "ValueError")=eL eN
 rs:∀C,c.xs.contains C=eN->∃a,i.xc C a/\PyProof.Rows.OwnCls (gu C) a [.type "ValueError",.type "Exception",.type "BaseException",.type "object"] "ValueError.__new__" X.mg X.base
 kn:∀T,(c.xs.contains T||T == "ShutError")=eN->∃D,X.mg (gu T)=eL (.ref D)/\∀C a,i.xc C a->PySem.W.kitOne i.K (.ref a) (.ref D)=eL (gf.fW C T)/\(gf.fW C T=eN->PySem.W.exmOne i.K (.ref a) (.ref D)=eL eN)
structure Gd(X:Cx)(i:Inf)(P:gf.Pg)(n:Nat)(c:Md):Prop where
 K:X.K=i.K
 N:X.N=c.N
 sc:X.env.scope=c.sc
 nd:c.N.Nodup
 un:X.A.units+200<Ĩ
 calm:c.cm=eN->X.calm=eN
 room:c.cm=eN->fx (2*n+1) X.A
 bl:∀x∈blts,X.mg x=eM
 dfs:∀f,c.fs.contains f=eN->Dfo X.prog X.w X.mg X.base i P n f
 cst:∀x v,c.cs.lookup x=eL v->∃u y,X.mg (gu x)=eL u/\RelV y u/\∀H,RV i.K H v y
 kl:Kls X i P n c
 xl:c.xs≠[]->Xls X i c
variable {X:Cx}{i:Inf}{P:gf.Pg}{n:Nat}{c:Md}
variable {x:Str}
def Gd.gl(g:Gd X i P n c)(h:c.gl x=eN):Gl X x:=by show X.env.scope.names.lookup x=_;rw[g.sc];exact eq_of_beq h
def Gd.vis(g:Gd X i P n c)(h:c.vis x=eN):Vis X.env.scope x:=by
 unfold Vis;rw[g.sc];unfold Md.vis at h;split at h
 .exact .inl (by assumption)
 .exact .inr (.inl<|by assumption)
 .exact .inr (.inr<|by assumption)
 .cases h
def Gd.loc(g:Gd X i P n c)(h:c.loc x=eN):L2.Loc X.env.scope x:=by
 unfold L2.Loc;rw[g.sc];rcases (Bool.or_eq_true ..).mp h with h|h
 .exact .inl<|eq_of_beq h
 .exact .inr<|eq_of_beq h
def Gd.rm(g:Gd X i P n c)(h:c.cm=eN):fx (2*n) X.A:=(g.room h).mono (ŀ _)
def Ws(h:nm x=eN):(x==("__debug__" : Str))=eP/\(x==("__classdict__" : Str))=eP/\x≠"__name__":=by simp only[nm,bAq,Ť]at h;exact⟨h.1.1,h.1.2,by simpa using h.2⟩
def Zr(e:gf.E)(c:Md)(x:Expr)(es:List Expr)(env:Env):Ð (toX e c x::es) env=(eP,eval (toX e c x) env)::Ð es env:=by cases e<;>rfl
def B4(e:gf.E)(c:Md)(x:Expr):K8<|toX e c x:=by intro o j;cases e<;>rfl
variable {op:cq}
def An(e:gf.E)(c:Md)(x:Expr):Ņ op (toX e c x)=eP:=by cases e<;>rfl
def Lf(e:gf.E)(c:Md)(x:Expr)(env:Env):∀y,ė (toX e c x) env y=pure y:=by intro y;cases e<;>rfl
abbrev Z2:Expr->Bool
 |.Call (.Name _ _) [] _ _=>eP
 |_=>eN
variable {e:Expr}
def Z0(h:Z2 e=eN)(f:Str)(env:Env):ĥ e f env (eval e env)=eval e env:=by
 cases e with
 |Call g as ks p =>
  cases as with
  |cons _ _=>cases g<;>rfl
  |nil=>cases g with
   |Name x q=>cases h
   |_=>rfl
 |_=>rfl
abbrev Za:gf.Es->Nat
 |.nil=>0
 |.cons _ es=>Za es+1
def Y4:∀(es:gf.Es) (c:Md) (xs:List Expr),(toA es c xs).length=Za es
 |.nil,_,_=>rfl
 |.cons _ es,c,xs=>by show(toA es c xs.tail).length+1=_;rw[Y4 es];rfl
def ZJ(env:Env)(ç:Pos):∀(es:gf.Es) (c:Md) (xs:List Expr),(ċ ç<|Ð (toA es c xs) env).any (·.1)=eP
 |.nil,_,_=>rfl
 |.cons e es,c,xs=>by show(ċ ç<|Ð (toX e c (xs.headD dE)::toA es c xs.tail) env).any (·.1)=eP;rw[Zr];show(eP||(ċ ç<|Ð (toA es c xs.tail) env).any (·.1))=eP;rw[ZJ env ç es];rfl
def Jb(env:Env)(ç:Pos):∀(es:gf.Es) (c:Md) (xs:List Expr),(ċ ç<|Ð (toA es c xs) env).all (λx=>!x.1)=eN
 |.nil,_,_=>rfl
 |.cons e es,c,xs=>by show(ċ ç<|Ð (toX e c (xs.headD dE)::toA es c xs.tail) env).all (λx=>!x.1)=eN;rw[Zr];show(eN&&(ċ ç<|Ð (toA es c xs.tail) env).all (λx=>!x.1))=eN;rw[Jb env ç es];rfl
abbrev Zv:gf.Pt->Bool
 |.one _=>eN
 |_=>eP
def Mp(p:gf.Pt)(x:Expr):((!Zv p)=eN->∃es k q,toP p c x=.Tuple es k q)/\((!Zv p)=eP->∃y q,toP p c x=.Name y q):=by
 cases p with
 |one j=>exact⟨λz=>(by cases z),λ_=>⟨_,_,rfl⟩⟩
 |many js=>exact⟨λ_=>⟨_,_,_,rfl⟩,λz=>(by cases z)⟩
 |nest j js=>exact⟨λ_=>⟨_,_,_,rfl⟩,λz=>(by cases z)⟩
abbrev CM(X:Cx)(c:Md)(j:Nat):Prop:=X.N[j]?=eL (c.nmOf j)/\L2.Loc X.env.scope (c.nmOf j)/\(X.fn (c.nmOf j)=eN\/X.env.scope.names.lookup (c.nmOf j)=eL .local)
abbrev Gc(q:Nat->Prop):gf.Pt->Prop
 |.one j=>q j
 |.many js=>∀j∈js,q j
 |.nest j js=>q j/\∀k∈js,q k
def Ms{X:Cx}{c:Md}(nd:X.N.Nodup)(f:Nat->Pos):∀(js:List Nat) (k:Nat),(∀j∈js,CM X c j)->
  PGs X ((js.zipIdx k).map λp=>.Name (c.nmOf p.1)<|f p.2) (Bf i js)/\(ĝ ((js.zipIdx k).map λp=>.Name (c.nmOf p.1)<|f p.2) X.env).length=js.length/\(ĝ ((js.zipIdx k).map λp=>.Name (c.nmOf p.1)<|f p.2) X.env).findIdx? (·.1)=eM
 |[],_,_=>⟨Eh,rfl,rfl⟩
 |j::js,k,h=>by
  obtain⟨h1,h2,h3⟩:=h j (by simp);obtain⟨a1,a2,a3⟩:=Ms nd f js (k+1) λl hl=>h l (by simp[hl]);rw[List.zipIdx_cons,Ï];refine⟨Cp nd h1 h2 h3 a1 rfl,?_,?_⟩
  .show(ĝ ((js.zipIdx<|k+1).map _) X.env).length+1=js.length+1;rw[a2]
  .show List.findIdx? (·.1) ((eP,π (.Name (c.nmOf j)<|f k) X.env)::ĝ _ X.env)=eM;rw[List.findIdx?_cons];simp[a3]
def GD(hK:X.K=i.K)(nd:X.N.Nodup)(hc:X.calm=eN){p:gf.Pt}{x:Expr}(h:Gc (CM X c) p):PG X (toP p c x)<|gPt i p:=by
 cases p with
 |one j=>exact OB nd h.1 h.2.1 h.2.2
 |many js =>obtain⟨a1,a2,a3⟩:=Ms nd (λk=>(kid x k).pos) js 0 h;exact UC hK hc a1 a2 a3
 |nest j js =>obtain⟨h0,h⟩:=h;obtain⟨a1,a2,a3⟩:=Ms nd (λk=>(kid (kid x 1) k).pos) js 0 h;exact Fy hK hc (OB nd h0.1 h0.2.1 h0.2.2)<|UC hK hc a1 a2 a3
variable {Φ:gf.Fs} {a:gf.E} {b:gf.E} {l:Expr} {ç:Pos}
def PX(g:Gd X i P n c){o:gf.Bop}{r:Expr}(ha:PE X l<|tE X i Φ a)(hb:PE X r<|tE X i Φ b):PE X (.BinOp l (NU o) r ç)<|tE X i Φ<|.bin o a b:=by
 cases o with
 |add=>exact Kr Qz (by rw[g.K];exact b_add) ha hb
 |sub=>exact Kr Hz b_sub ha hb
 |mul=>exact Kr LI b_mul ha hb
 |fdiv=>exact Kr Er b_fdiv ha hb
 |mod=>exact Kr HA b_mod ha hb
 |pow=>exact Kr Ip b_pow ha hb
abbrev XS:gf.Cop->Bool
 |.is=>eN
 |.isnot=>eN
 |.ntT=>eN
 |.neE=>eN
 |.eqE=>eN
 |_=>eP
variable {o:gf.Cop}
def Oq(g:Gd X i P n c)(h:XS o=eP):∃r,OpR X (ë<|Wy o) r/\Z5 i o r:=by
 have u65:X.A.units+65<Ĩ:=by have:=g.un;lia
 have u64:X.A.units+64<Ĩ:=by have:=g.un;lia
 have u0:X.A.units<Ĩ:=by have:=g.un;lia
 cases o with
 |eq=>exact⟨_,Lh u64,by rw[g.K];exact Ra⟩
 |ne=>exact⟨_,Iq u64,by rw[g.K];exact Rh⟩
 |lt=>exact⟨_,QJ u0,by rw[g.K];exact c_lt⟩
 |le=>exact⟨_,LW,c_le⟩
 |gt=>exact⟨_,QY u0,by rw[g.K];exact c_gt⟩
 |ge=>exact⟨_,Qp,c_ge⟩
 |isin=>exact⟨_,Rc u65,by rw[g.K];exact Rp⟩
 |notin=>exact⟨_,Q8 u65,by rw[g.K];exact Rk⟩
 |_=>cases h
def I0{v:gf.Val}{j:Nat}(h:Gj v=eN):PE X (.Constant (LR v) j ç)<|tE X i Φ<|.cst v:=by
 cases v with
 |non=>exact WB CN λ_=>.non
 |bl b=>exact WB Pm λ_=>.bl _
 |int k=>exact WB OC λ_=>.int _
 |str s=>exact WB pe_str λ_=>.str _
 |_=>cases h
abbrev Nc:gf.E->Bool
 |.cst .non=>eN
 |_=>eP
def Ei{e:gf.E}(h:Nc e=eN):e=.cst .non:=by
 cases e with
 |cst v=>cases v with
  |non=>rfl
  |_=>cases h
 |_=>cases h
variable {y:Expr}
def W1(hn:∀G v d,gf.fi G o v .non≠eL d)(ha:PE X l<|tE X i Φ a)(hb:PE X y<|tE X i Φ<|.cst .non)(hm:Ņ op y=eP) :
  PE X (.Compare l [op] [y] ç) (tE X i Φ<|.cmp o a<|.cst .non)/\PT X (.Compare l [op] [y] ç) (tTt X i Φ<|.val<|.cmp o a<|.cst .non):=by
 have ho:OpR X (ë op) λ_ _ _ _=>False:=λ_ _ _ _ _ _ _ _ _ _ _ _ h=>h.elim;refine⟨(Uj ho ha hb hm).imp λσ H Q ⟨env,G,Qm,Em,p,w,c⟩=>?_,(OS ho ha hb hm).imp λσ H Q ⟨env,G,Qm,Em,p,w,c⟩=>?_⟩
 .refine one p w λv G1 H1 x k1 p1 r q=>?_;obtain⟨d,e,_⟩:=eU q;exact gp e<|hn G1 v d
 .refine one p w λv G1 H1 x k1 p1 r q=>?_;obtain⟨d,e,_⟩:=eU q;exact gp e<|hn G1 v d
def NF(g:Gd X i P n c){x:Expr}(h:(!XS o||Nc b)=eN)(ha:PE X l<|tE X i Φ a)(hb:PE X (toX b c x)<|tE X i Φ b) :
  PE X (.Compare l [Wy o] [toX b c x] ç) (tE X i Φ<|.cmp o a b)/\PT X (.Compare l [Wy o] [toX b c x] ç) (tTt X i Φ<|.val<|.cmp o a b):=by
 cases z:XS o with
 |false =>obtain⟨r,h1,h2⟩:=Oq g z;exact⟨Qv h1 h2 ha hb<|An _ _ _,IK h1 h2 ha hb<|An _ _ _⟩
 |true =>
  rw[z]at h;cases Ei h;cases o with
  |is=>exact⟨Qa ha,IG ha⟩
  |isnot=>exact⟨HJ ha,Ej ha⟩
  |ntT=>exact W1 (λG v d e=>by cases v<;>simp[gf.fi,gf.asLst]at e) ha hb<|An _ _ _
  |neE=>exact W1 (λG v d e=>by cases v<;>simp[gf.fi,gf.asLst]at e) ha hb<|An _ _ _
  |eqE=>exact W1 (λG v d e=>by cases v<;>simp[gf.fi,gf.asLst]at e) ha hb<|An _ _ _
  |_=>cases z
def JA(g:Gd X i P n c){o1 o2:gf.Cop}{d:gf.E}{x:Expr}(h1:XS o1=eP)(h2:XS o2=eP)(ha:PE X l<|tE X i Φ a)(hb:PE X y<|tE X i Φ b)(hd:PE X (toX d c x)<|tE X i Φ d) :
  PE X (.Compare l [Wy o1,Wy o2] [y,toX d c x] ç) (tE X i Φ<|.chain o1 o2 a b d)/\PT X (.Compare l [Wy o1,Wy o2] [y,toX d c x] ç) (tTt X i Φ<|.val<|.chain o1 o2 a b d):=by
 obtain⟨r1,a1,a2⟩:=Oq g h1;obtain⟨r2,b1,b2⟩:=Oq g h2;have hm:bx [Wy o1,Wy o2] [y,toX d c x]=eP:=An _ _ _;exact⟨DU a1 a2 b1 b2 ha hb hd hm,BX a1 a2 b1 b2 ha hb hd hm⟩
def Ha{m:gf.E}(h:PE X e<|tE X i Φ m)(he:∀aK,cp e X.env aK=(do let v<-aK;χ e.pos;ŋ [v] (truthy v)))(hK:X.K=i.K):PT X e<|tTt X i Φ<|.val m:=by
 refine(BE h he).imp λσ H Q ⟨env,G,Qm,Em,p,w,c⟩=>?_;refine one p w λv G1 H1 x k1 p1 r q=>?_;obtain⟨d,e1,q2⟩:=eU q;clear q;refine⟨d,?_,c d G1 H1 k1 p1.hp q2⟩;cases v with
 |non=>cases r;cases e1;rfl
 |bl b=>cases r;cases e1;rfl
 |int b =>
  cases r;cases e1;show gq (b≠0)=(b != 0)
  by_cases e:b=0<;>simp[e]
 |key _ _=>cases e1
 |str b =>
  cases r;obtain⟨hl,e1⟩:=Zi e1;cases e1;refine⟨by rw[Zw];exact Ô hl ZM,?_⟩;rw[Zw];by_cases e:b.length=0
  .rw[e];rfl
  .rw[gk e];symm;simpa using (by lia:¬ ((b.length:Int)=0))
 |tup xs =>
  cases e1;cases r with
  |tup hp hr =>refine .inr (.inl ⟨_,by rw[hK];exact Zj hp,?_⟩);cases hr<;>rfl
 |scr ns =>
  cases e1;cases r with
  |scr h =>refine .inl ⟨_,by rw[hK];exact Z1 h,?_⟩;cases ns<;>rfl
 |ref a =>
  cases r.ref_inv
  replace e1:(match G1 a with|some (.lst xs)=>eL (!xs.isEmpty)|some (.dct kvs)=>eL (!kvs.isEmpty)|_=>eM)=eL d:=e1
  cases z:G1 a with
  |none=>rw[z]at e1;cases e1
  |some o =>
   rw[z]at e1;cases o with
   |lst xs =>cases e1;obtain⟨vs,h1,h2⟩:=p1.hp a _ z;refine .inl ⟨vs,fX.of h1,?_⟩;cases h2<;>rfl
   |dct kvs =>cases e1;obtain⟨ps,h1,h2⟩:=p1.hp a _ z;refine .inr<|.inr ⟨ps,h1,?_⟩;cases h2<;>rfl
   |_=>cases e1
abbrev Md.gn(c:Md)(y:String):Bool:=c.gl (gu y)&&nm (gu y)
abbrev X0:gf.Bi->Bool
 |.len=>eN
 |.all=>eN
 |.list=>eN
 |.tuple=>eN
 |.sortedI=>eN
 |_=>eP
abbrev EC:gf.Bi->Option String
 |.isi [T]=>eL T
 |_=>eM
abbrev Fv:gf.Bi->Option (List String)
 |_=>eM
abbrev XZ:gf.Bi->Bool
 |_=>eP
abbrev WJ:gf.Bi->Bool
 |.sortedSet=>eN
 |_=>eP
abbrev C7:gf.Bi->Str
 |.listRev=>"reversed"
 |.sortedSet=>"set"
 |_=>"range"
abbrev Uk:gf.Bi->Bool
 |_=>eP
abbrev OY:gf.Bi->Bool
 |_=>eP
abbrev MP:gf.Bi->String
 |.isc T=>T
 |_=>""
abbrev KQ:gf.Bi->Bool
 |.minD=>eN
 |_=>eP
abbrev Dv:gf.Bi->Option (List String)
 |_=>eM
abbrev Md.xn(c:Md)(T:String):Bool:=(c.xs.contains T||T == "ShutError")&&c.gn T
abbrev We:gf.Bi->Bool
 |.len=>eN
 |.list=>eN
 |.tuple=>eN
 |_=>eP
abbrev Ia(c:Md)(Ts:List String):Bool:=match Ts with
 |[T]=>c.xn T||(T == "ValueError" && c.gl (gu T))
 |Ts=>Ts.all c.xn&&gq (Ts.length<=20)
abbrev Cj:gf.Bm->Option Nat
 |.append=>eL 1
 |.remove=>eL 1
 |.dget=>eL 1
 |.dgetD=>eL 2
 |.dpop=>eL 1
 |.dpopD=>eL 2
 |_=>eM
abbrev O7:gf.Tt->Bool
 |.yes=>eN
 |_=>eP
abbrev OJ:gf.E->Bool
 |.var _=>eN
 |.call _ _=>eN
 |.meth _ _ _ _=>eN
 |.bi _ _=>eN
 |.bm _ _ _=>eN
 |.idx _ _=>eN
 |.fld _ _=>eN
 |.glob _ _=>eN
 |_=>eP
abbrev L8:gf.E->Bool
 |.cmp _ _ _=>eN
 |.chain _ _ _ _ _=>eN
 |_=>eP
mutual
noncomputable def okE:gf.E->Md->Expr->Bool
 |.cst v,_,_=>Gj v
 |.var j,c,_=>gq (j<c.N.length)&&c.vis (c.nmOf j)&&nm (c.nmOf j)
 |.glob y v,c,_=>c.gn y&&gq (c.cs.lookup y=eL v)
 |.bin _ a b,c,x=>okE a c (kid x 0)&&okE b c (kid x 1)
 |.neg a,c,x=>okE a c<|kid x 0
 |.not a,c,x=>okE a c<|kid x 0
 |.and a b,c,x=>okE a c (kid x 0)&&okE b c (rest (ZH b) x)&&(!ZH b||(rest (ZH b) x).pos==x.pos)
 |.or a b,c,x=>okE a c (kid x 0)&&okE b c (rest (Yn b) x)&&(!Yn b||(rest (Yn b) x).pos==x.pos)
 |.cmp o a b,c,x=>okE a c (kid x 0)&&okE b c (kid x 1)&&(!XS o||Nc b)
 |.chain o1 o2 a b d,c,x=>okE a c (kid x 0)&&okE b c (kid x 1)&&okE d c (kid x 2) && !XS o1 && !XS o2
 |.call f as,c,x=>c.gn f&&c.fs.contains f&&c.cm&&okA as c (sub x).tail
 |.make C as,c,x=>c.gn C&&c.cl.contains C&&c.cm&&gq (Za as≠0)&&okA as c (sub x).tail
 |.meth C m o as,c,x=>c.ms.contains (C,m)&&c.cm&&okE o c (kid (kid x 0) 0)&&Z2 (toX o c<|kid (kid x 0) 0)&&((kid x 0).pos.endLine==x.pos.line)&&gq (Za as<20)&&okA as c (sub x).tail
 |.fld o f,c,x=>c.fl.contains f&&okE o c (kid x 0)&&Z2 (toX o c<|kid x 0)
 | .bi f as,c,x=>(match EC f with
   |some T=>gq (Za as=1)&&kinds.contains T&&c.gl "isinstance" && c.gl (gu T)
   |none=>match Fv f with
     |some Ts=>gq (Za as=1)&&c.gl "isinstance" && !c.xs.isEmpty&&Ia c Ts
     |none=>match Dv f with
       |some Ts=>gq (Za as=1)&&c.gl "isinstance" && Ts.all (λT=>kinds.contains T&&c.gl (gu T))&&gq (Ts.length<=20)
       | none=>if XZ f then gq (Za as=1)&&c.gl "len" && c.gl "set" && c.cm else if WJ f then gq (Za as=1)&&c.gl (YO f)&&c.gl (C7 f)&&c.cm else if KQ f then gq (Za as=1)&&c.gl "min" && c.cm else if Uk f then gq (Za as=1)&&c.gl "dict" && c.gl "enumerate" && c.cm else if OY f then gq (Za as=1)&&c.gl "isinstance" && c.gn (MP f)&&c.cl.contains (MP f)else X0 f&&c.gl (YO f)&&gq (Za as≠0)&&(c.cm||We f))&&okA as c (Up f x)
 |.bm m o as,c,x=>gq (Cj m=eL (Za as))&&okE o c (kid (kid x 0) 0)&&Z2 (toX o c<|kid (kid x 0) 0)&&((kid x 0).pos.endLine==x.pos.line)&&okA as c (sub x).tail
 |.idx a b,c,x=>okE a c (kid x 0)&&okE b c (kid x 1)
 |.slc a lo hi,c,x=>okE a c (kid x 0)&&okO lo c (kid (kid x 1) 0)&&okO hi c (kid (kid x 1) 1)
 |.tup es,c,x=>okA es c (sub x)&&gq (Za es<=1000)
 |.lst es,c,x=>okA es c (sub x)&&gq (Za es<=1000)
 |.dct es,c,x=>okA es c (sub x)&&Jm es&&gq (esL es<=30)
 |.ife t a b,c,x=>okT t c (kid x 0)&&okE a c (kid x 1)&&okE b c (kid x 2)
 |.comp ô m p it t e,c,x=>(Of m p&&(YC<|kid x 1).length==m)&&c.cm&&Yh (scp x) c.sc c.N (YC<|kid x 1) ô&&(scp x).kind == .function&&okI it c (kid x 2) (!Zv p)&&okE e (c.blk (scp x) (YC<|kid x 1) ô) (kid x 0)&&(O7 t||okT t (c.blk (scp x) (YC<|kid x 1) ô) (kid x 3))
 |_,_,_=>eP
noncomputable def okA:gf.Es->Md->List Expr->Bool
 |.nil,_,_=>eN
 |.cons e es,c,xs=>okE e c (xs.headD dE)&&okA es c xs.tail
noncomputable def okJ:gf.Es->Md->List Expr->Bool
 |.nil,_,_=>eN
 |.cons e es,c,xs=>(AI e||okE e c (kid (xs.headD dE) 0))&&okJ es c xs.tail
noncomputable def okO:gf.Oe->Md->Expr->Bool
 |.none,_,_=>eN
 |.some e,c,x=>okE e c x
noncomputable def okT:gf.Tt->Md->Expr->Bool
 |.yes,_,_=>eP
 |.val e,c,x=>okE e c x&&(OJ e||L8 e)
 |.not t,c,x=>okT t c<|kid x 0
 |.and a b,c,x=>okT a c (kid x 0)&&okT b c (rest (Zo b) x)&&(!Zo b||(rest (Zo b) x).pos==x.pos)
 |.or a b,c,x=>okT a c (kid x 0)&&okT b c (rest (ZA b) x)&&(!ZA b||(rest (ZA b) x).pos==x.pos)
noncomputable def okI:gf.It->Md->Expr->Bool->Bool
 |.seq e,c,x,_=>okE e c x
 |.range a,c,x,_=>c.gl "range" && okE a c (kid x 1)
 |.enum e,c,x,t=>t&&c.gl "enumerate" && okE e c (kid x 1)
 |_,_,_,_=>eP
end
variable {X:Cx}{i:Inf}{P:gf.Pg}{n:Nat}{c:Md}
variable {f:gf.Bi} {e:Expr} {es:List Expr} {q:Pos} {p:Pos} {l:Nat}
def Fz(g:Gd X i P n c)(hp:X0 f=eN)(cU:(c.cm||We f)=eN){as:gf.Es}(hg:Gl X<|YO f)(ha:PA X (e::es)<|tAr X i (gf.wF P n) as l)
  (he:Ð (e::es) X.env=(eP,eval e X.env)::Ð es X.env) (hpl:(ċ p<|Ð es X.env).any (·.1)=eP):PE X (.Call (.Name (YO f) q) (e::es) [] p)<|tE X i (gf.wF P n)<|.bi f as:=by
 have hc:We f=eP->X.calm=eN:=λz=>g.calm (by rw[z,ϰ]at cU;exact cU);cases f with
 |len=>exact(XG ((call_len_seq.or Mg).or UU) hg (g.bl _<|by simp[blts,YO]) (by kernel_rfl) ha (he:=he) (hpl:=hpl)).imp (MX<|by rw[g.K];exact Hj)
 |all=>exact(XG (BJ<|hc rfl) hg (g.bl _<|by simp[blts,YO]) (by kernel_rfl) ha (he:=he) (hpl:=hpl)).imp (MX<|by rw[g.K];exact Lr)
 |list=>exact(KG Mj hg (g.bl _<|by simp[blts,YO]) (by kernel_rfl) ha (he:=he) (hpl:=hpl)).imp (MX<|by rw[g.K];exact FQ)
 |sortedI=>exact(XG (call_sorted.or<|Mr<|hc rfl) hg (g.bl _<|by simp[blts,YO]) (by kernel_rfl) ha (he:=he) (hpl:=hpl)).imp (MX<|by rw[g.K];exact Oc)
 |tuple=>exact(KG Ka hg (g.bl _<|by simp[blts,YO]) (by kernel_rfl) ha (he:=he) (hpl:=hpl)).imp (MX<|by rw[g.K];exact CO)
 |_=>cases hp
variable {T:String}
def Ly(h:EC f=eL T):f=.isi [T]:=by
 cases f with
 |isi Ts =>
  cases Ts with
  |nil=>cases h
  |cons a r=>cases r with
   |nil=>cases h;rfl
   |cons _ _=>cases h
 |_=>cases h
def CL(g:Gd X i P n c){m:gf.E}{p2 ç:Pos}(hT:T∈kinds)(h2:c.gl "isinstance" = eN)(h5:c.gl (gu T)=eN)(he:PE X e<|tE X i (gf.wF P n) m)(ů:Ð [e,.Name (gu T) p2] X.env=(eP,eval e X.env)::Ð [.Name (gu T) p2] X.env) :
  PE X (.Call (.Name "isinstance" p) [e,.Name (gu T) p2] [] ç) (tE X i (gf.wF P n)<|.bi (.isi [T])<|.cons m .nil):=by
 have d7:=hT;simp only[kinds,Æ,Í,or_false]at d7;refine Qw hT he g.K (g.gl h2) (g.bl _<|by simp[blts]) (g.gl h5) ?_ ?_ ?_ ?_ ů
 .rcases d7 with rfl|rfl|rfl|rfl|rfl|rfl<;>exact g.bl _ (by simp[blts])
 .rcases d7 with rfl|rfl|rfl|rfl|rfl|rfl<;>kernel_rfl
 .rcases d7 with rfl|rfl|rfl|rfl|rfl|rfl<;>decide
 .rcases d7 with rfl|rfl|rfl|rfl|rfl|rfl<;>decide
variable {m:gf.Bm} {o:Expr} {mo:gf.E} {Ń:Pos} {Ŏ:Pos}
def A1(g:Gd X i P n c)(h:Cj m=eL 0)(ho:PE X o<|tE X i (gf.wF P n) mo)(hb:∀f,ĥ o f X.env (eval o X.env)=eval o X.env)(hl:(Ń.endLine==Ŏ.line)=eN) :
  PE X (.Call (.Attribute o (LA m) Ń) [] [] Ŏ) (tE X i (gf.wF P n)<|.bm m mo .nil):=by
 cases m with
 |_=>cases h
def Fd(g:Gd X i P n c){k:Nat}(h:Cj m=eL (k+1)){ms:gf.Es}(ho:PE X o<|tE X i (gf.wF P n) mo)(ha:PA X (e::es)<|tAr X i (gf.wF P n) ms l)(hb:∀f,ĥ o f X.env (eval o X.env)=eval o X.env)(hl:(Ń.endLine==Ŏ.line)=eN)
  (aw:((ċ Ŏ<|Ð (e::es) X.env).all (λx=>!x.1)&&(Ů Ŏ<|ĸ [] X.env).all (λx=>x.1.isSome)&&gq ((e::es).length+([]:List aX).length+(if([]:List aX).isEmpty then 0 else 1)<30))=eN)
  (hs:Ð (e::es) X.env=(eP,eval e X.env)::Ð es X.env) (hpl:(ċ Ŏ<|Ð es X.env).any (·.1)=eP) :
  PE X (.Call (.Attribute o (LA m) Ń) (e::es) [] Ŏ) (tE X i (gf.wF P n)<|.bm m mo ms):=by
 have u1:X.A.units+1<Ĩ:=by have:=g.un;lia
 cases m with
 |append=>exact U5 g.K PySem.F.plainAttrs_list PySem.F.slot_list_append PySem.F.type_list_append Ak (L5 rfl) Lg ho ha (hb _) aw hl hs hpl
 |remove=>exact U5 g.K PySem.F.plainAttrs_list PySem.F.slot_list_remove PySem.F.type_list_remove U6 (L5 rfl) HK ho ha (hb _) aw hl hs hpl
 |dget=>exact U5 g.K PySem.F.plainAttrs_dict PySem.F.slot_dict_get PySem.F.type_dict_get (AY u1) (D7 rfl) IN ho ha (hb _) aw hl hs hpl
 |dgetD=>exact U5 g.K PySem.F.plainAttrs_dict PySem.F.slot_dict_get PySem.F.type_dict_get (Be u1) (D7 rfl) DR ho ha (hb _) aw hl hs hpl
 |dpop=>exact U5 g.K PySem.F.plainAttrs_dict PySem.F.slot_dict_pop PySem.F.type_dict_pop mt_dpop (D7 rfl) Hb ho ha (hb _) aw hl hs hpl
 |dpopD=>exact U5 g.K PySem.F.plainAttrs_dict PySem.F.slot_dict_pop PySem.F.type_dict_pop (mt_dpop.or Cl) (D7 rfl) Fw ho ha (hb _) aw hl hs hpl
 |_=>cases h
variable {sc:ν} {ô:List Nat}
def Gd.blk(g:Gd X i P n c){x:List Str}(hb:Yh sc c.sc c.N x ô=eN)(hk:sc.kind=.function)(cl:List<|Str×È)(C:È)(s:Ä)(H:Hp)(ex:List È) :
  Gd (Zq X sc (ZZ X x ô) cl C s H ex) i P n (c.blk sc x ô) where
 K:=g.K
 N:=by show ZZ X x ô=_;unfold ZZ;rw[g.N];rfl
 sc:=by show b6 sc X.env=_;unfold b6 Env.kindOf;rw[g.sc];rfl
 nd:=by have B:=N1 g.sc g.N hk hb;have:=B.nd;unfold ZZ at this;rw[g.N]at this;exact this
 un:=g.un
 calm:=g.calm
 room:=g.room
 bl:=g.bl
 dfs:=g.dfs
 cst:=g.cst
 kl:=⟨g.kl.A,g.kl.F,g.kl.mkc,g.kl.mth⟩
 xl:=λh=>⟨(g.xl h).xc,(g.xl h).rs,(g.xl h).kn⟩
def Gd.pt(g:Gd X i P n c)(cU:c.cm=eN){xs:List Str}(hb:Yh sc c.sc c.N xs ô=eN)(hk:sc.kind=.function){p:gf.Pt}(hp:Of xs.length p=eN)(x:Expr)(cl:List<|Str×È)(C:È)(s:Ä)(H:Hp)(ex:List È) :
  PG (Zq X sc (ZZ X xs ô) cl C s H ex) (toP p (c.blk sc xs ô) x) (gPt i p):=by
 have B:=N1 g.sc g.N hk hb;have G:=g.blk hb hk cl C s H ex;have key:∀j,j<xs.length->CM (Zq X sc (ZZ X xs ô) cl C s H ex) (c.blk sc xs ô) j:=λj hj=>by
  have e:(c.blk sc xs ô).nmOf j=xs[j]:=by unfold Md.nmOf Md.blk;show(xs++_).getD j _=_;rw[ý,ĉ hj,É hj];rfl
  have lo:=lookup_relabel_local (env:=X.env)<|B.own xs[j]<|Ł hj;unfold CM;rw[e];refine⟨?_,.inl lo,.inr lo⟩;show(xs++_)[j]?=_;rw[ĉ hj,É hj]
 refine GD G.K (by rw[G.N];exact G.nd) (g.calm cU) ?_;cases p with
 |one j=>exact key j<|of_decide_eq_true hp
 |many js=>exact λj hj=>key j<|of_decide_eq_true<|Ć.mp hp j hj
 |nest j js=>cases hp
variable {b:gf.E}
def UF(h:ZH b=eN):∃a d,b=.and a d:=by
 cases b with
 |and a d=>exact⟨a,d,rfl⟩
 |_=>cases h
def BZ(h:Yn b=eN):∃a d,b=.or a d:=by
 cases b with
 |or a d=>exact⟨a,d,rfl⟩
 |_=>cases h
def Dz{b:gf.Tt}(h:Zo b=eN):∃a d,b=.and a d:=by
 cases b with
 |and a d=>exact⟨a,d,rfl⟩
 |_=>cases h
def F2{b:gf.Tt}(h:ZA b=eN):∃a d,b=.or a d:=by
 cases b with
 |or a d=>exact⟨a,d,rfl⟩
 |_=>cases h
def MC{b:Bool}(h:(!b||p==q)=eN)(hb:b=eN):p=q:=by rw[hb]at h;exact eq_of_beq h
variable {Φ:gf.Fs} {x:Expr}
def Dj(hp:(!ZH b||(rest (ZH b) x).pos==x.pos)=eN)(h:PE X (toX b c<|rest (ZH b) x)<|tE X i Φ b):PE X (.BoolOp .And (Xq (ZH b)<|toX b c<|rest (ZH b) x) x.pos)<|tE X i Φ b:=by
 cases z:ZH b with
 |false=>rw[z]at h;exact Do h
 |true =>have e:=MC hp z;rw[z]at e h;obtain⟨a,d,rfl⟩:=UF z;show PE X (.BoolOp .And (sub<|.BoolOp .And _ (rest eN x).pos) x.pos) _;rw[<-e];exact h
def Ey(hp:(!Yn b||(rest (Yn b) x).pos==x.pos)=eN)(h:PE X (toX b c<|rest (Yn b) x)<|tE X i Φ b):PE X (.BoolOp .Or (Xq (Yn b)<|toX b c<|rest (Yn b) x) x.pos)<|tE X i Φ b:=by
 cases z:Yn b with
 |false=>rw[z]at h;exact Do h
 |true =>have e:=MC hp z;rw[z]at e h;obtain⟨a,d,rfl⟩:=BZ z;show PE X (.BoolOp .Or (sub<|.BoolOp .Or _ (rest eN x).pos) x.pos) _;rw[<-e];exact h
def Kw(b:Bool){e:gf.E}(h:b=ZH e\/b=Yn e):∃y ys,Xq b (toX e c x)=y::ys:=by
 cases b with
 |false=>exact⟨_,_,rfl⟩
 |true =>
  rcases h with h|h
  .obtain⟨a,d,rfl⟩:=UF h.symm;exact⟨_,_,rfl⟩
  .obtain⟨a,d,rfl⟩:=BZ h.symm;exact⟨_,_,rfl⟩
variable {i:Inf}{P:gf.Pg}{n:Nat}
variable {X:Cx} {c:Md} {Φ:gf.Fs} {b:gf.Tt} {x:Expr}
def AA(hp:(!Zo b||(rest (Zo b) x).pos==x.pos)=eN)(h:PT X (toT b c<|rest (Zo b) x)<|tTt X i Φ b)(h2:(Zo b||ZA b)=eN->PW X (toT b c<|rest (Zo b) x) (tTt X i Φ b)) :
  ∃y ys,Xq (Zo b) (toT b c<|rest (Zo b) x)=y::ys/\PW X (.BoolOp .And (y::ys) x.pos) (tTt X i Φ b):=by
 cases z:Zo b with
 |false=>rw[z]at h;exact⟨_,_,rfl,DV h⟩
 |true =>have e:=MC hp z;rw[z]at e h2;obtain⟨a,d,rfl⟩:=Dz z;refine⟨_,_,rfl,?_⟩;rw[<-e];exact h2 rfl
def Ba(hp:(!ZA b||(rest (ZA b) x).pos==x.pos)=eN)(h:PT X (toT b c<|rest (ZA b) x)<|tTt X i Φ b)(h2:(Zo b||ZA b)=eN->PW X (toT b c<|rest (ZA b) x) (tTt X i Φ b)) :
  ∃y ys,Xq (ZA b) (toT b c<|rest (ZA b) x)=y::ys/\PW X (.BoolOp .Or (y::ys) x.pos) (tTt X i Φ b):=by
 cases z:ZA b with
 |false=>rw[z]at h;exact⟨_,_,rfl,Lp h⟩
 |true =>have e:=MC hp z;rw[z]at e h2;obtain⟨a,d,rfl⟩:=F2 z;refine⟨_,_,rfl,?_⟩;rw[<-e];exact h2 rfl
variable {e:gf.E}
def Ru(h:AI e=eN):∃s,e=.cst (.str s):=by
 cases e with
 |cst v=>cases v with
  |str s=>exact⟨s,rfl⟩
  |_=>cases h
 |_=>cases h
variable {ô:List Nat} {p:gf.Pt} {it:gf.It} {ç:Pos}
def KF(g:Gd X i P n c){mt:gf.Tt}{me:gf.E}{bP ŷ bG:Expr}{x:List Str}{bp:List Expr}{sc:ν}(cU:c.cm=eN)(h1:Yh sc c.sc c.N x ô=eN)(hk:sc.kind=.function)(hp:Of x.length p=eN)
  (hi:PI X bG ŷ<|tIt X i (gf.wF P n) it) (hs:∀y,ė ŷ X.env y=pure y) (hG:∀cl C s H ex,PG (Zq X sc (ZZ X x ô) cl C s H ex) bG<|gPt i p)
  (hE:∀cl C s H ex,PE (Zq X sc (ZZ X x ô) cl C s H ex) bP<|tE0 i (gf.wF P n) me) (hI:∀cl C s H ex,PIfs (Zq X sc (ZZ X x ô) cl C s H ex) bp<|tT0 i (gf.wF P n) mt) :
  PE X (.ListComp bP [⟨bG,ŷ,bp,0⟩] sc ç) (tE X i (gf.wF P n)<|.comp ô x.length p it mt me)/\
   ∀(y:Str) (py ϡ:Pos) (j:Nat),X.N[j]?=eL y->L2.Loc X.env.scope y->(X.fn y=eN\/X.env.scope.names.lookup y=eL .local)->Ŧ (.ListComp bP [⟨bG,ŷ,bp,0⟩] sc ç) (eL<|.Name y py) ϡ.line X.env=pure eN->PS X (.Assign [.Name y py] (.ListComp bP [⟨bG,ŷ,bp,0⟩] sc ç) ϡ) (tSt X i (gf.wF P n)<|.set (.one j)<|.comp ô x.length p it mt me):=by
 have B:=N1 g.sc g.N hk h1;have hc:=g.calm cU;refine⟨(Bs hc B hi hG hI hE hs).imp<|O4 hp,λy py ϡ j hj hl hf hsw=>?_⟩;refine(Dp (by rw[g.N];exact g.nd) hj hl hc B hi hG hI hE hs hsw hf).imp λD σ H ⟨env,G,N,R,Bk,Ct,Xe,p,w,e⟩=>?_;refine O4 hp σ H _ ⟨env,G,_,Xe env,p.pre,w,λv G1 H1 x k1 g1 r1 w1=>?_⟩;obtain⟨ś,e2,w2⟩:=eU w1;clear w1;cases e2;exact e.nx _ _ G1 H1 k1 g1 ((p.en.keep k1).set r1 j) w2
def N3{j:Nat}(hN:X.N=c.N)(h:j<c.N.length):X.N[j]?=eL (c.nmOf j):=by rw[hN];unfold Md.nmOf;rw[ý,É h];rfl
def Uy{o:Expr}{m:Str}{Ń:Pos}{args:List Expr}{env:Env}(hb:ĥ o m env (eval o env)=eval o env)(aw:cI (args.length+0) (ċ ç<|Ð args env) (Ů ç<|ĸ [] env)=eN)(hl:(Ń.endLine==ç.line)=eN) :
  eval (.Call (.Attribute o m Ń) args [] ç) env=(do
    let ov<-eval o env
    χ Ń.atName
    let (f,first)<-ŋ [ov] (ρ ov m<|do return (<-importBound o env).getD eN)
    Ϲ ç f first (ċ ç<|Ð args env) (Ů ç<|ĸ [] env)):=by
 show(do
   let ov<-ĥ o m env (eval o env)
   χ Ń.atName
   methodCall o m Ń ç env ov (args.length+0) (ċ ç<|Ð args env) (Ů ç<|ĸ [] env))=_
 rw[hb];unfold methodCall methodCallPos;rw[aw,hl];rfl
def BI(env:Env)(ç:Pos){as:gf.Es}{xs:List Expr}(h:Za as<20):cI ((toA as c xs).length+0) (ċ ç<|Ð (toA as c xs) env) (Ů ç<|ĸ [] env)=eN:=by unfold cI;rw[bAq,bAq,gm,Y4];refine⟨⟨Jb env ç as c xs,rfl⟩,?_⟩;show Za as+0+0<30;lia
def Px{m:gf.Tt}(h:O7 m=eP->PT X (toT m c x) (tTt X i (gf.wF P n) m)):PIfs X (toF m c x)<|tT0 i (gf.wF P n) m:=by
 cases m with
 |yes=>exact IR
 |val e=>exact XJ<|pt0<|h rfl
 |not t=>exact XJ<|pt0<|h rfl
 |and a b=>exact XJ<|pt0<|h rfl
 |or a b=>exact XJ<|pt0<|h rfl
def NG(c:Md):∀(es:gf.Es) (xs:List Expr),Jm es=eN->(XH<|toA es c xs).all (·.isSome)=eN/\(XH<|toA es c xs).length=(BW<|toA es c xs).length/\2*(XH<|toA es c xs).length=esL es
 |.nil,_,_=>⟨rfl,rfl,rfl⟩
 |.cons _ .nil,_,h=>by cases h
 |.cons k (.cons v r),xs,h=>by
  obtain⟨h1,h2,h3⟩:=NG c r xs.tail.tail h;refine⟨?_,?_,?_⟩
  .show(eN&&(XH<|toA r c xs.tail.tail).all (·.isSome))=eN;rw[h1];rfl
  .show(XH<|toA r c xs.tail.tail).length+1=(BW<|toA r c xs.tail.tail).length+1;rw[h2]
  .show 2*((XH<|toA r c xs.tail.tail).length+1)=esL r+1+1;lia
mutual
theorem eE:∀(m:gf.E) (X:Cx) (c:Md) (x:Expr),Gd X i P n c->okE m c x=eN->PE X (toX m c x) (tE X i (gf.wF P n) m)
 |.cst v,X,c,x,g,h=>I0 h
 |.var j,X,c,x,g,h=>by have h:(gq (j<c.N.length)&&c.vis (c.nmOf j)&&nm (c.nmOf j))=eN:=h;rw[bAq,bAq,gm]at h;obtain⟨q1,q2,_⟩:=Ws h.2;exact Pq (N3 g.N h.1.1) (g.vis h.1.2) q1 q2
 |.glob y v,X,c,x,g,h=>by have h:((c.gl (gu y)&&nm (gu y))&&gq (c.cs.lookup y=eL v))=eN:=h;rw[bAq,bAq,gm]at h;obtain⟨q1,q2,_⟩:=Ws h.1.2;obtain⟨u,z,e1,e2,e3⟩:=g.cst _ _ h.2;exact GH (Fj (g.gl h.1.1) e1 e2 q1) e3
 |.bin o a b,X,c,x,g,h=>by have h:(okE a c (kid x 0)&&okE b c (kid x 1))=eN:=h;rw[bAq]at h;exact PX g (eE a X c _ g h.1)<|eE b X c _ g h.2
 |.neg a,X,c,x,g,h=>LX<|eE a X c _ g h
 |.not a,X,c,x,g,h=>Qh<|eE a X c _ g h
 |.and a b,X,c,x,g,h=>by have h:(okE a c (kid x 0)&&okE b c (rest (ZH b) x)&&(!ZH b||(rest (ZH b) x).pos==x.pos))=eN:=h;rw[bAq,bAq]at h;have h2:=Dj h.2<|eE b X c _ g h.1.2;obtain⟨y,ys,e⟩:=Kw (c:=c) (ZH b) (e:=b) (x:=rest (ZH b) x)<|.inl rfl;show PE X (.BoolOp .And (toX a c (kid x 0)::Xq (ZH b) (toX b c<|rest (ZH b) x)) x.pos) _;rw[e]at h2 ⊢;exact Pu (eE a X c _ g h.1.1) h2
 |.or a b,X,c,x,g,h=>by have h:(okE a c (kid x 0)&&okE b c (rest (Yn b) x)&&(!Yn b||(rest (Yn b) x).pos==x.pos))=eN:=h;rw[bAq,bAq]at h;have h2:=Ey h.2<|eE b X c _ g h.1.2;obtain⟨y,ys,e⟩:=Kw (c:=c) (Yn b) (e:=b) (x:=rest (Yn b) x)<|.inr rfl;show PE X (.BoolOp .Or (toX a c (kid x 0)::Xq (Yn b) (toX b c<|rest (Yn b) x)) x.pos) _;rw[e]at h2 ⊢;exact QQ (eE a X c _ g h.1.1) h2
 |.cmp o a b,X,c,x,g,h=>by have h:(okE a c (kid x 0)&&okE b c (kid x 1)&&(!XS o||Nc b))=eN:=h;rw[bAq,bAq]at h;exact(NF g h.2 (eE a X c _ g h.1.1)<|eE b X c _ g h.1.2).1
 |.chain o1 o2 a b d,X,c,x,g,h=>by have h:(okE a c (kid x 0)&&okE b c (kid x 1)&&okE d c (kid x 2) && !XS o1 && !XS o2)=eN:=h;rw[bAq,bAq,bAq,bAq,Ť,Ť]at h;obtain⟨⟨⟨⟨h1,h2⟩,h3⟩,h4⟩,h5⟩:=h;exact(JA g h4 h5 (eE a X c _ g h1) (eE b X c _ g h2)<|eE d X c _ g h3).1
 |.call f as,X,c,x,g,h=>by
  have h:((c.gl (gu f)&&nm (gu f))&&c.fs.contains f&&c.cm&&okA as c (sub x).tail)=eN:=h;rw[bAq,bAq,bAq,bAq]at h;obtain⟨⟨⟨⟨h1,h2⟩,h3⟩,h4⟩,h5⟩:=h;obtain⟨q1,_,_⟩:=Ws h2;have ha:=eA as X c _ g h5;cases as with
  |nil=>exact EX g.K (g.dfs _ h3) (g.rm h4) (g.gl h1) q1
  |cons a as=>exact Hx g.K (g.dfs _ h3) (g.rm h4) (g.gl h1) q1 ha (Zr ..)<|ZJ ..
 |.make C as,X,c,x,g,h=>by
  have h:((c.gl (gu C)&&nm (gu C))&&c.cl.contains C&&c.cm&&gq (Za as≠0)&&okA as c (sub x).tail)=eN:=h;rw[bAq,bAq,bAq,bAq,bAq,gm]at h;obtain⟨⟨⟨⟨⟨h1,h2⟩,h3⟩,h4⟩,h6⟩,h5⟩:=h;obtain⟨q1,_,_⟩:=Ws h2;have ha:=eA as X c _ g h5;obtain⟨a,f,i1,i2,M,hm,D⟩:=g.kl.mkc C h3;cases as with
  |nil=>exact gp rfl h6
  |cons b as=>exact GJ g.K i1 i2 M D (g.room h4) (g.gl h1) hm q1 ha (Zr ..)<|ZJ ..
 |.meth C m o as,X,c,x,g,h=>by
  have h:(c.ms.contains (C,m)&&c.cm&&okE o c (kid (kid x 0) 0)&&Z2 (toX o c<|kid (kid x 0) 0)&&((kid x 0).pos.endLine==x.pos.line)&&gq (Za as<20)&&okA as c (sub x).tail)=eN:=h;rw[bAq,bAq,bAq,bAq,bAq,bAq,gm]at h;obtain⟨⟨⟨⟨⟨⟨h1,h2⟩,h3⟩,h4⟩,h6⟩,h7⟩,h5⟩:=h;have ev:=Uy (m:=gu m) (Z0 h4 _ X.env) (BI X.env x.pos (c:=c) (xs:=(sub x).tail) h7) h6;have ha:=eA as X c _ g h5;have ho:=eE o X c _ g h3;obtain⟨a,f,i1,A,M,D⟩:=g.kl.mth C m h1;cases as with
  |nil=>exact EA g.K i1 A M D (g.rm h2) ho ev
  |cons b as=>exact Lb g.K i1 A M D (g.rm h2) ho ha (Zr ..) (ZJ ..) ev
 |.fld o f,X,c,x,g,h=>by have h:(c.fl.contains f&&okE o c (kid x 0)&&Z2 (toX o c<|kid x 0))=eN:=h;rw[bAq,bAq]at h;exact LK g.K g.kl.A (g.kl.F _ h.1.1) (eE o X c _ g h.1.2)<|Z0 h.2 _ _
 |.bi f as,X,c,x,g,h=>by
  have h:((match EC f with
    |some T=>gq (Za as=1)&&kinds.contains T&&c.gl "isinstance" && c.gl (gu T)
    |none=>match Fv f with
      |some Ts=>gq (Za as=1)&&c.gl "isinstance" && !c.xs.isEmpty&&Ia c Ts
      |none=>match Dv f with
        |some Ts=>gq (Za as=1)&&c.gl "isinstance" && Ts.all (λT=>kinds.contains T&&c.gl (gu T))&&gq (Ts.length<=20)
        | none=>if XZ f then gq (Za as=1)&&c.gl "len" && c.gl "set" && c.cm else if WJ f then gq (Za as=1)&&c.gl (YO f)&&c.gl (C7 f)&&c.cm else if KQ f then gq (Za as=1)&&c.gl "min" && c.cm else if Uk f then gq (Za as=1)&&c.gl "dict" && c.gl "enumerate" && c.cm else if OY f then gq (Za as=1)&&c.gl "isinstance" && c.gn (MP f)&&c.cl.contains (MP f)else X0 f&&c.gl (YO f)&&gq (Za as≠0)&&(c.cm||We f))&&okA as c (Up f x))=eN:=h
  rw[bAq]at h;cases z:EC f with
  |some T =>
   have h1:=h.1;rw[z]at h1;rw[bAq,bAq,bAq,gm]at h1;obtain⟨⟨⟨h1,h2⟩,h3⟩,h4⟩:=h1;cases Ly z;cases as with
   |nil=>cases h1
   |cons a as=>cases as with
    |nil =>have h5:(okE a c _&&eN)=eN:=h.2;rw[bAq]at h5;exact CL g (Ą.mp h2) h3 h4 (eE a X c _ g h5.1)<|Zr ..
    |cons b as=>exact gp h1 (by simp[Za])
  |none =>
   have h1:=h.1;rw[z]at h1
   replace h1:(match Fv f with
     |some Ts=>gq (Za as=1)&&c.gl "isinstance" && !c.xs.isEmpty&&Ia c Ts
     |none=>match Dv f with
       |some Ts=>gq (Za as=1)&&c.gl "isinstance" && Ts.all (λT=>kinds.contains T&&c.gl (gu T))&&gq (Ts.length<=20)
       | none=>if XZ f then gq (Za as=1)&&c.gl "len" && c.gl "set" && c.cm else if WJ f then gq (Za as=1)&&c.gl (YO f)&&c.gl (C7 f)&&c.cm else if KQ f then gq (Za as=1)&&c.gl "min" && c.cm else if Uk f then gq (Za as=1)&&c.gl "dict" && c.gl "enumerate" && c.cm else if OY f then gq (Za as=1)&&c.gl "isinstance" && c.gn (MP f)&&c.cl.contains (MP f)else X0 f&&c.gl (YO f)&&gq (Za as≠0)&&(c.cm||We f))=eN:=h1
   cases zx:Fv f with
   |some Ts=>cases zx
   |none =>
    rw[zx]at h1
    replace h1:(match Dv f with
      |some Ts=>gq (Za as=1)&&c.gl "isinstance" && Ts.all (λT=>kinds.contains T&&c.gl (gu T))&&gq (Ts.length<=20)
      | none=>if XZ f then gq (Za as=1)&&c.gl "len" && c.gl "set" && c.cm else if WJ f then gq (Za as=1)&&c.gl (YO f)&&c.gl (C7 f)&&c.cm else if KQ f then gq (Za as=1)&&c.gl "min" && c.cm else if Uk f then gq (Za as=1)&&c.gl "dict" && c.gl "enumerate" && c.cm else if OY f then gq (Za as=1)&&c.gl "isinstance" && c.gn (MP f)&&c.cl.contains (MP f)else X0 f&&c.gl (YO f)&&gq (Za as≠0)&&(c.cm||We f))=eN:=h1
    cases zl:Dv f with
    |some Ts=>cases zl
    |none =>
     rw[zl]at h1;dsimp only at h1;split at h1
     .rename_i dF;exact gp (show eP=eN from dF) (by decide)
     split at h1
     .rename_i _ dF;have hf:f=.sortedSet:=by cases f<;>first|rfl|cases dF
      rw[bAq,bAq,bAq,gm]at h1;obtain⟨⟨⟨h1,h2⟩,h3⟩,h4⟩:=h1;cases as with
      |nil=>cases h1
      |cons a as=>cases as with
       |nil =>
        rcases hf with rfl
        .have h6:(okE a c _&&eN)=eN:=h.2;rw[bAq]at h6;exact Np (g.calm h4) g.K (eE a X c _ g h6.1) (g.gl h2) (g.bl _<|by simp[blts]) (g.gl h3) (g.bl _<|by simp[blts,C7]) (by rw[Zr];rfl)
       |cons b as=>exact gp h1 (by simp[Za])
     split at h1
     .rename_i _ _ dF;have hf:f=.minD:=by cases f<;>first|rfl|cases dF
      subst hf;rw[bAq,bAq,gm]at h1;obtain⟨⟨h1,h2⟩,h4⟩:=h1;cases as with
      |nil=>cases h1
      |cons a as=>cases as with
       |nil =>have h6:(okE a c _&&eN)=eN:=h.2;rw[bAq]at h6;exact HQ (g.calm h4) (by have:=g.un;lia) g.K (g.gl h2) (g.bl _<|by simp[blts]) (eE a X c _ g h6.1) (by rw[Zr];rfl)
       |cons b as=>exact gp h1 (by simp[Za])
     split at h1
     .rename_i _ _ _ dF;exact gp (show eP=eN from dF) (by decide)
     split at h1
     .rename_i _ _ _ _ dF;exact gp (show eP=eN from dF) (by decide)
     rw[bAq,bAq,bAq,gm]at h1;obtain⟨⟨⟨h1,h2⟩,h3⟩,h4⟩:=h1;have ha:=eA as X c _ g h.2;cases as with
     |nil=>exact gp rfl h3
     |cons a as =>
      have e1:toX (.bi f<|.cons a as) c x=.Call (.Name (YO f) (kid x 0).pos) (toA (.cons a as) c<|Up f x) [] x.pos:=by cases f<;>first|(cases h1;done)|rfl
      rw[e1];exact Fz g h1 h4 (g.gl h2) ha (Zr ..)<|ZJ ..
 |.bm m o as,X,c,x,g,h=>by
  have h:(gq (Cj m=eL (Za as))&&okE o c (kid (kid x 0) 0)&&Z2 (toX o c<|kid (kid x 0) 0)&&((kid x 0).pos.endLine==x.pos.line)&&okA as c (sub x).tail)=eN:=h;rw[bAq,bAq,bAq,bAq,gm]at h;obtain⟨⟨⟨⟨h1,h2⟩,h3⟩,h4⟩,h5⟩:=h;have ha:=eA as X c _ g h5;have ho:=eE o X c _ g h2;cases as with
  |nil=>exact A1 g h1 ho (λf=>Z0 h3 f _) h4
  |cons a as =>
   refine Fd g h1 ho ha (λf=>Z0 h3 f _) h4 ?_ (Zr ..)<|ZJ ..;rw[bAq,bAq,gm];refine⟨⟨Jb X.env x.pos (.cons a as) c (sub x).tail,rfl⟩,?_⟩;have e2:(toA (.cons a as) c (sub x).tail).length=Za (.cons a as):=Y4 ..;have e3:Za (.cons a as)<=2:=by
    have:∀m:gf.Bm,∀k,Cj m=eL k->k<=2:=by intro m k;cases m<;>intro z<;>first|(cases z;done)|(cases z;decide)
    exact this m _ h1
   show(toA (.cons a as) c (sub x).tail).length+0+0<30;lia
 |.idx a b,X,c,x,g,h=>by have h:(okE a c (kid x 0)&&okE b c (kid x 1))=eN:=h;rw[bAq]at h;exact Pc (ix_seq.or<|Ft (by have:=g.un;lia)) (by rw[g.K];exact LJ) (eE a X c _ g h.1) (eE b X c _ g h.2)<|B4 _ _ _
 |.slc a lo hi,X,c,x,g,h=>by have h:(okE a c (kid x 0)&&okO lo c (kid (kid x 1) 0)&&okO hi c (kid (kid x 1) 1))=eN:=h;rw[bAq,bAq]at h;exact Qs Rw (by rw[g.K];exact PD) (eE a X c _ g h.1.1) (eO lo X c _ g h.1.2)<|eO hi X c _ g h.2
 |.tup es,X,c,x,g,h=>by have h:(okA es c (sub x)&&gq (Za es<=1000))=eN:=h;rw[bAq,gm]at h;exact PV (by rw[Y4];exact h.2)<|eA es X c _ g h.1
 |.key es,X,c,x,g,h=>nomatch h
 |.dctP,X,c,x,g,h=>nomatch h
 |.lst es,X,c,x,g,h=>by have h:(okA es c (sub x)&&gq (Za es<=1000))=eN:=h;rw[bAq,gm]at h;exact L9 (by rw[Y4];exact h.2)<|eA es X c _ g h.1
 |.dct es,X,c,x,g,h=>by
  have h:(okA es c (sub x)&&Jm es&&gq (esL es<=30))=eN:=h;rw[bAq,bAq,gm]at h;obtain⟨⟨h1,h2⟩,h3⟩:=h;have hp:=eD es X c (sub x) x.pos g h1 h2;cases es with
  |nil=>exact IQ
  |cons k r=>cases r with
   |nil=>cases h2
   |cons v r =>obtain⟨q1,q2,q3⟩:=NG c (.cons k<|.cons v r) (sub x) h2;refine P1 h2 h3 hp q1 q2 (by intro z;cases z) (by rw[<-q3]at h3;lia)
 |.ife t a b,X,c,x,g,h=>by have h:(okT t c (kid x 0)&&okE a c (kid x 1)&&okE b c (kid x 2))=eN:=h;rw[bAq,bAq]at h;exact Qc (eT t X c _ g h.1.1).1 (eE a X c _ g h.1.2)<|eE b X c _ g h.2
 |.comp ô m p it t e,X,c,x,g,h=>by
  have h:((Of m p&&(YC<|kid x 1).length == m)&&c.cm&&Yh (scp x) c.sc c.N (YC<|kid x 1) ô&&(scp x).kind == .function&&okI it c (kid x 2) (!Zv p)&&okE e (c.blk (scp x) (YC<|kid x 1) ô) (kid x 0)&&(O7 t||okT t (c.blk (scp x) (YC<|kid x 1) ô) (kid x 3)))=eN:=h;rw[bAq,bAq,bAq,bAq,bAq,bAq]at h;obtain⟨⟨⟨⟨⟨⟨h1,h2⟩,h3⟩,h4⟩,h5⟩,h6⟩,h7⟩:=h;rw[bAq,beq_iff_eq]at h1;obtain⟨h1,rfl⟩:=h1;have hk:=eq_of_beq h4;obtain⟨t1,t2⟩:=Mp (c:=c.blk (scp x) (YC<|kid x 1) ô) p<|kid x 1;obtain⟨a1,a2⟩:=eI it X c (kid x 2) (toP p (c.blk (scp x) (YC<|kid x 1) ô)<|kid x 1) g (!Zv p) t1 t2 h5;exact(KF g h2 h3 hk h1 a1 a2 (g.pt h2 h3 hk h1 _)
    (λcl C s H ex=>pe0<|eE e _ _ _ (g.blk h3 hk cl C s H ex) h6) (λcl C s H ex=>Px λz=>(eT t _ _ _ (g.blk h3 hk cl C s H ex)<|by rw[z]at h7;exact h7).1)).1
 |.fstr es,X,c,x,g,h=>nomatch h
 |.repl _ _ _,X,c,x,g,h=>nomatch h
 |.split o a,X,c,x,g,h=>nomatch h
 |.rev a,X,c,x,g,h=>nomatch h
theorem eD:∀(es:gf.Es) (X:Cx) (c:Md) (xs:List Expr) (ç:Pos),Gd X i P n c->okA es c xs=eN->Jm es=eN->PPs X ç (XH<|toA es c xs) (BW<|toA es c xs) (OU X i (gf.wF P n) es)
 |.nil,X,c,xs,ç,g,h,he=>Ff
 |.cons k .nil,X,c,xs,ç,g,h,he=>by cases he
 |.cons k (.cons v r),X,c,xs,ç,g,h,he=>by have h:(okE k c (xs.headD dE)&&(okE v c (xs.tail.headD dE)&&okA r c xs.tail.tail))=eN:=h;rw[bAq,bAq]at h;exact Ce (eE k X c _ g h.1) (eE v X c _ g h.2.1)<|eD r X c _ ç g h.2.2 he
theorem eA:∀(ms:gf.Es) (X:Cx) (c:Md) (xs:List Expr),Gd X i P n c->okA ms c xs=eN->PA X (toA ms c xs) (tAr X i (gf.wF P n) ms (toA ms c xs).length)
 |.nil,X,c,xs,g,h=>GV
 |.cons a as,X,c,xs,g,h=>by have h:(okE a c (xs.headD dE)&&okA as c xs.tail)=eN:=h;rw[bAq]at h;exact Fm (eE a X c _ g h.1) (eA as X c _ g h.2)<|Zr ..
theorem eJ:∀(ms:gf.Es) (X:Cx) (c:Md) (xs:List Expr),Gd X i P n c->okJ ms c xs=eN->PJ X (toJ ms c xs) (tJs X i (gf.wF P n) ms)
 |.nil,X,c,xs,g,h=>IZ
 |.cons a as,X,c,xs,g,h=>by
  have h:((AI a||okE a c (kid (xs.headD dE) 0))&&okJ as c xs.tail)=eN:=h;rw[bAq]at h;have hr:=eJ as X c _ g h.2;show PJ X ((if AI a then toX a c (xs.headD dE)else .FormattedValue (toX a c<|kid (xs.headD dE) 0) (-1) eM (xs.headD dE).pos)::toJ as c xs.tail) _;cases z:AI a with
  |true =>obtain⟨s,rfl⟩:=Ru z;exact UG IY hr rfl
  |false =>rw[z]at h;exact UG (La<|eE a X c _ g h.1) hr rfl
theorem eO:∀(m:gf.Oe) (X:Cx) (c:Md) (x:Expr),Gd X i P n c->okO m c x=eN->PO X (toO m c x) (tOx X i (gf.wF P n) m)
 |.none,X,c,x,g,h=>E1
 |.some e,X,c,x,g,h=>Fq<|eE e X c _ g h
theorem eT:∀(m:gf.Tt) (X:Cx) (c:Md) (x:Expr),Gd X i P n c->okT m c x=eN->PT X (toT m c x) (tTt X i (gf.wF P n) m)/\((Zo m||ZA m)=eN->PW X (toT m c x) (tTt X i (gf.wF P n) m))
 |.yes,X,c,x,g,h=>nomatch h
 |.val e,X,c,x,g,h=>by
  refine⟨?_,λz=>(by cases z)⟩;have h:(okE e c x&&(OJ e||L8 e))=eN:=h;rw[bAq]at h;have he:=eE e X c x g h.1;cases z:OJ e with
  |true=>exact Ha he (by cases e<;>first|(cases z;done)|exact λ_=>rfl) g.K
  |false =>
   have h2:=h.2;rw[z]at h2;cases e with
   |cmp o a b =>have h:(okE a c (kid x 0)&&okE b c (kid x 1)&&(!XS o||Nc b))=eN:=h.1;rw[bAq,bAq]at h;exact(NF g h.2 (eE a X c _ g h.1.1)<|eE b X c _ g h.1.2).2
   |chain o1 o2 a b d =>have h:(okE a c (kid x 0)&&okE b c (kid x 1)&&okE d c (kid x 2) && !XS o1 && !XS o2)=eN:=h.1;rw[bAq,bAq,bAq,bAq,Ť,Ť]at h;obtain⟨⟨⟨⟨h1,h2⟩,h3⟩,h4⟩,h5⟩:=h;exact(JA g h4 h5 (eE a X c _ g h1) (eE b X c _ g h2)<|eE d X c _ g h3).2
   |_=>cases h2
 |.not t,X,c,x,g,h=>⟨Hi (eT t X c _ g h).1,λz=>(by cases z)⟩
 |.and a b,X,c,x,g,h=>by
  have h:(okT a c (kid x 0)&&okT b c (rest (Zo b) x)&&(!Zo b||(rest (Zo b) x).pos==x.pos))=eN:=h;rw[bAq,bAq]at h;have h2:=eT b X c _ g h.1.2;obtain⟨y,ys,e,h3⟩:=AA h.2 h2.1 h2.2;have h4:PW X (toT (.and a b) c x)<|tTt X i (gf.wF P n)<|.and a b:=by show PW X (.BoolOp .And (toT a c (kid x 0)::Xq (Zo b) (toT b c<|rest (Zo b) x)) x.pos) _;rw[e];exact GK (eT a X c _ g h.1.1).1 h3
  exact⟨h4.pt,λ_=>h4⟩
 |.or a b,X,c,x,g,h=>by
  have h:(okT a c (kid x 0)&&okT b c (rest (ZA b) x)&&(!ZA b||(rest (ZA b) x).pos==x.pos))=eN:=h;rw[bAq,bAq]at h;have h2:=eT b X c _ g h.1.2;obtain⟨y,ys,e,h3⟩:=Ba h.2 h2.1 h2.2;have h4:PW X (toT (.or a b) c x)<|tTt X i (gf.wF P n)<|.or a b:=by show PW X (.BoolOp .Or (toT a c (kid x 0)::Xq (ZA b) (toT b c<|rest (ZA b) x)) x.pos) _;rw[e];exact Ql (eT a X c _ g h.1.1).1 h3
  exact⟨h4.pt,λ_=>h4⟩
theorem eI:∀(m:gf.It) (X:Cx) (c:Md) (x tg:Expr),Gd X i P n c->∀(b:Bool),(b=eN->∃es k p,tg=.Tuple es k p)->(b=eP->∃y p,tg=.Name y p)->okI m c x b=eN->PI X tg (toI m c x) (tIt X i (gf.wF P n) m)/\∀y,ė (toI m c x) X.env y=pure y
 |.seq e,X,c,x,tg,g,b,t1,t2,h=>⟨Ll g.K<|eE e X c _ g h,Lf _ _ _ _⟩
 |.chars e,X,c,x,tg,g,b,t1,t2,h=>nomatch h
 |.range a,X,c,x,tg,g,b,t1,t2,h=>by have h:(c.gl "range" && okE a c (kid x 1))=eN:=h;rw[bAq]at h;exact⟨Bv (g.gl h.1) (g.bl _<|by simp[blts]) (eE a X c _ g h.2)<|Zr ..,λ_=>rfl⟩
 |.range2 a d,X,c,x,tg,g,b,t1,t2,h=>nomatch h
 |.zip a d,X,c,x,tg,g,b,t1,t2,h=>nomatch h
 |.enum e,X,c,x,tg,g,b,t1,t2,h=>by have h:(b&&c.gl "enumerate" && okE e c (kid x 1))=eN:=h;rw[bAq,bAq]at h;obtain⟨es,k,p,rfl⟩:=t1 h.1.1;exact⟨EG g.K (g.gl h.1.2) (g.bl _<|by simp[blts]) (eE e X c _ g h.2) (by rw[Zr];rfl),λ_=>rfl⟩
 |.items e,X,c,x,tg,g,b,t1,t2,h=>nomatch h
 |.rev e,_,_,_,_,_,_,_,_,h=>nomatch h
end
def U2(g:Gd X i P n c){m:Nat}{t:gf.Tt}(h:okE (.comp ô m p it t e) c x=eN) :
  PE X (toX (.comp ô m p it t e) c x) (tE X i (gf.wF P n)<|.comp ô m p it t e)/\
   ∀(y:Str) (py ϡ:Pos) (j:Nat),X.N[j]?=eL y->L2.Loc X.env.scope y->(X.fn y=eN\/X.env.scope.names.lookup y=eL .local)->Ŧ (toX (.comp ô m p it t e) c x) (eL<|.Name y py) ϡ.line X.env=pure eN->PS X (.Assign [.Name y py] (toX (.comp ô m p it t e) c x) ϡ) (tSt X i (gf.wF P n)<|.set (.one j)<|.comp ô m p it t e):=by
 have h:((Of m p&&(YC<|kid x 1).length==m)&&c.cm&&Yh (scp x) c.sc c.N (YC<|kid x 1) ô&&(scp x).kind == .function&&okI it c (kid x 2) (!Zv p)&&okE e (c.blk (scp x) (YC<|kid x 1) ô) (kid x 0)&&(O7 t||okT t (c.blk (scp x) (YC<|kid x 1) ô) (kid x 3)))=eN:=h;rw[bAq,bAq,bAq,bAq,bAq,bAq]at h;obtain⟨⟨⟨⟨⟨⟨h1,h2⟩,h3⟩,h4⟩,h5⟩,h6⟩,h7⟩:=h;rw[bAq,beq_iff_eq]at h1;obtain⟨h1,rfl⟩:=h1;have hk:=eq_of_beq h4;obtain⟨t1,t2⟩:=Mp (c:=c.blk (scp x) (YC<|kid x 1) ô) p<|kid x 1;obtain⟨a1,a2⟩:=eI it X c (kid x 2) (toP p (c.blk (scp x) (YC<|kid x 1) ô)<|kid x 1) g (!Zv p) t1 t2 h5;exact KF g h2 h3 hk h1 a1 a2 (g.pt h2 h3 hk h1 _)
  (λcl C s H ex=>pe0<|eE e _ _ _ (g.blk h3 hk cl C s H ex) h6) (λcl C s H ex=>Px λz=>(eT t _ _ _ (g.blk h3 hk cl C s H ex)<|by rw[z]at h7;exact h7).1)
abbrev dS:ħ:=.Pass ⟨0,0,0,0⟩
abbrev stE:ħ->List Expr
 |.Assign ts v _=>v::ts
 |.AugAssign t _ v _=>[v,t]
 |.For t it _ _ _=>[t,it]
 |.While t _ _ _=>[t]
 |.If t _ _ _=>[t]
 |.Expr e _=>[e]
 |.Return (eL e) _=>[e]
 |.Raise (eL e) _ _=>[e]
 |_=>[]
abbrev ke(s:ħ)(j:Nat):Expr:=(stE s).getD j dE
abbrev stB:ħ->List ħ
 |.For _ _ b _ _=>b
 |.While _ b _ _=>b
 |.If _ b _ _=>b
 |.Try b _ _ _ _=>b
 |_=>[]
abbrev stO:ħ->List ħ
 |.If _ _ b _=>b
 |_=>[]
abbrev stH:ħ->List ExceptHandler
 |.Try _ hs _ _ _=>hs
 |_=>[]
abbrev dH:ExceptHandler:=.ExceptHandler eM eM [] ⟨0,0,0,0⟩
abbrev hT:ExceptHandler->Expr
 |.ExceptHandler (eL e) _ _ _=>e
 |_=>dE
abbrev hB:ExceptHandler->List ħ
 |.ExceptHandler _ _ b _=>b
abbrev hP:ExceptHandler->Pos
 |.ExceptHandler _ _ _ p=>p
abbrev Md.hot(c:Md):Md:={c with cm:=eP}
abbrev GT(t:Option Nat)(e:gf.E)(c:Md)(y:ħ):ħ:=match t with
 |none=>.Expr (toX e c<|ke y 0) y.pos
 |some j=>.Assign [.Name (c.nmOf j) (ke y 1).pos] (toX e c<|ke y 0) y.pos
mutual
noncomputable def toS:gf.S->Md->ħ->ħ
 |.set p a,c,s=>.Assign [toP p c<|ke s 1] (toX a c<|ke s 0) s.pos
 |.setIdx a j e,c,s=>.Assign [.Subscript (toX a c<|kid (ke s 1) 0) (toX j c<|kid (ke s 1) 1) (ke s 1).pos] (toX e c<|ke s 0) s.pos
 |.setPair a i b j e,c,s=>.Assign [.Tuple [.Subscript (toX a c<|kid (kid (ke s 1) 0) 0) (toX i c<|kid (kid (ke s 1) 0) 1) (kid (ke s 1) 0).pos,.Subscript (toX b c<|kid (kid (ke s 1) 1) 0) (toX j c<|kid (kid (ke s 1) 1) 1) (kid (ke s 1) 1).pos] (num<|ke s 1) (ke s 1).pos] (toX e c<|ke s 0) s.pos
 |.setFld o f e,c,s=>.Assign [.Attribute (toX o c<|kid (ke s 1) 0) (gu f) (ke s 1).pos] (toX e c<|ke s 0) s.pos
 |.augVar j op e,c,s=>.AugAssign (.Name (c.nmOf j) (ke s 1).pos) (NU op) (toX e c<|ke s 0) s.pos
 |.augFld o f op n,c,s=>.AugAssign (.Attribute (toX o c<|kid (ke s 1) 0) (gu f) (ke s 1).pos) (NU op) (.Constant (.int n) (num<|ke s 0) (ke s 0).pos) s.pos
 |.augIdx a j op n,c,s=>.AugAssign (.Subscript (toX a c<|kid (ke s 1) 0) (toX j c<|kid (ke s 1) 1) (ke s 1).pos) (NU op) (.Constant (.int n) (num<|ke s 0) (ke s 0).pos) s.pos
 |.expr e,c,s=>.Expr (toX e c<|ke s 0) s.pos
 |.ret e,c,s=>.Return (eL<|toX e c<|ke s 0) s.pos
 |.retN,_,s=>.Return eM s.pos
 |.ite t a b,c,s=>.If (toT t c<|ke s 0) (toSs a c<|stB s) (toSs b c<|stO s) s.pos
 |.whl t b,c,s=>.While (toT t c<|ke s 0) (toSs b c<|stB s) [] s.pos
 |.for p it b,c,s=>.For (toP p c<|ke s 0) (toI it c<|ke s 1) (toSs b c<|stB s) [] s.pos
 |.forI eN p e b,c,s=>.For (toP p c<|ke s 0) (toX e c<|ke s 1) (toSs b c<|stB s) [] s.pos
 |.forI eP p e b,c,s=>.For (toP p c<|ke s 0) (.Call (.Attribute (toX e c<|kid (kid (ke s 1) 0) 0) "items" (kid (ke s 1) 0).pos) [] [] (ke s 1).pos) (toSs b c<|stB s) [] s.pos
 |.brk,_,s=>.Break s.pos
 |.cnt,_,s=>.Continue s.pos
 |.pass,_,s=>.Pass s.pos
 |.raise C as,c,s=>.Raise (eL<|.Call (.Name (gu C) (kid (ke s 0) 0).pos) (toA as c (sub<|ke s 0).tail) [] (ke s 0).pos) eM s.pos
 |.try t e hs,c,s=>.Try [GT t e c<|(stB s).headD dS] (toH hs c<|stH s) [] [] s.pos
 |_,_,s=>s
noncomputable def toH:gf.Hn->Md->List ExceptHandler->List ExceptHandler
 |.nil,_,_=>[]
 |.cons K nm b r,c,xs=>.ExceptHandler (eL<|.Name (gu K) (hT<|xs.headD dH).pos) (nm.map c.nmOf) (toSs b c.hot<|hB<|xs.headD dH) (hP<|xs.headD dH)::toH r c xs.tail
noncomputable def toSs:gf.Ss->Md->List ħ->List ħ
 |.nil,_,_=>[]
 |.cons m ms,c,xs=>toS m c (xs.headD dS)::toSs ms c xs.tail
end
abbrev Gk:gf.E->Bool
 |.idx _ _=>eN
 |.var _=>eN
 |.fld _ _=>eN
 |_=>eP
abbrev K2(c:Md)(j:Nat):Bool:=gq (j<c.N.length)&&c.loc (c.nmOf j)
abbrev okP(p:gf.Pt)(c:Md):Bool:=match p with
 |.one j=>K2 c j
 |.many js=>js.all<|K2 c
 |.nest j js=>K2 c j&&js.all (K2 c)
abbrev De:gf.E->Bool
 |.tup _=>eN
 |.key _=>eN
 |_=>eP
abbrev Oj:gf.E->Bool
 |.comp _ _ _ _ _ _=>eN
 |_=>eP
abbrev swT(c:Md)(tg v:Expr):Bool:=match v,tg with
 |.ListComp _ _ s ç,.Name t p=>(if c.sc.kind.isAnnotationScope then ScopeKind.function else c.sc.kind) == .function&&c.sc.names.lookup t==eL .local&&p.line==ç.line && !(s.names.any λ(n,k)=>n==t&&(k == .local||k == .cell))
 |_,_=>eP
abbrev U7:gf.Bop->Bool
 |.add=>eN
 |.sub=>eN
 |_=>eP
abbrev DI:gf.E->Md->Expr->Bool
 |.call f as,c,x=>c.gn f&&c.fs.contains f&&gq (Za as≠0)&&okA as c (sub x).tail
 |.meth C m o as,c,x=>c.ms.contains (C,m)&&okE o c (kid (kid x 0) 0)&&Z2 (toX o c<|kid (kid x 0) 0)&&((kid x 0).pos.endLine==x.pos.line)&&gq (Za as<20)&&gq (Za as≠0)&&okA as c (sub x).tail
 |_,_,_=>eP
abbrev QK(c:Md)(j:Nat):Bool:=gq (j<c.N.length)&&c.sc.names.lookup (c.nmOf j)==eL .local
abbrev GP(c:Md):Option Nat->Bool
 |none=>eN
 |some j=>QK c j
abbrev BQ(c:Md):Option Nat->Bool
 |none=>eN
 |some j=>K2 c j
abbrev Uf:gf.Ss->Bool
 |.nil=>eP
 |_=>eN
abbrev Qj:gf.Hn->Bool
 |.nil=>eN
 |_=>eP
mutual
noncomputable def okS:gf.S->Md->ħ->Bool
 |.set p a,c,s=>okP p c&&okE a c (ke s 0)&&(Zv p || !De a)&&(Zv p||c.cm)
 |.setIdx a j e,c,s=>okE e c (ke s 0)&&okE a c (kid (ke s 1) 0)&&okE j c (kid (ke s 1) 1)
 |.setFld o f e,c,s=>c.fl.contains f&&okE o c (kid (ke s 1) 0)&&okE e c (ke s 0)
 |.augFld o f op _,c,s=>c.fl.contains f&&okE o c (kid (ke s 1) 0)&&U7 op
 |.augIdx a j op _,c,s=>okE a c (kid (ke s 1) 0)&&okE j c (kid (ke s 1) 1)&&U7 op
 |.expr e,c,s=>okE e c (ke s 0) && !Oj e
 |.ret e,c,s=>okE e c<|ke s 0
 |.ite t a b,c,s=>okT t c (ke s 0)&&okSs a c (stB s)&&okSs b c (stO s)
 |.for p it b,c,s=>okP p c&&okI it c (ke s 1) (!Zv p)&&okSs b c (stB s)&&c.cm
 |.forI eN p e b,c,s=>okP p c&&Gk e&&okE e c (ke s 1)&&okSs b c (stB s)&&c.cm
 |.forI eP p e b,c,s=>okP p c && !Zv p&&okE e c (kid (kid (ke s 1) 0) 0)&&Z2 (toX e c<|kid (kid (ke s 1) 0) 0)&&((kid (ke s 1) 0).pos.endLine==(ke s 1).pos.line)&&okSs b c (stB s)&&c.cm
 |.never,_,_=>eN
 |.raise C as,c,s=>c.gn C&&c.xs.contains C&&c.cm&&gq (Za as≠0)&&gq (Za as<=1000)&&okA as c (sub<|ke s 0).tail
 |.try t e hs,c,s=>DI e c (ke ((stB s).headD dS) 0)&&BQ c t&&okH hs c (stH s)&&c.cm
 |_,_,_=>eP
noncomputable def okH:gf.Hn->Md->List ExceptHandler->Bool
 |.nil,_,_=>eP
 |.cons K nm b r,c,xs=>(c.xs.contains K||K == "ShutError")&&c.gn K && !c.xs.isEmpty&&GP c nm&&Uf b&&okSs b c.hot (hB<|xs.headD dH)&&Qj r
noncomputable def okSs:gf.Ss->Md->List ħ->Bool
 |.nil,_,_=>eN
 |.cons m ms,c,xs=>okS m c (xs.headD dS)&&okSs ms c xs.tail
end
structure Gs(X:Cx)(i:Inf)(P:gf.Pg)(n:Nat)(c:Md):Prop extends Gd X i P n c where
 fn:∀x,c.loc x=eN->X.fn x=eN\/X.env.scope.names.lookup x=eL .local
 own:c.cm=eN->ah (Ù X.prog X.w) X.A X.env X.xe
 stk:c.cm=eN->X.stack=X.env::X.outer
variable {X:Cx}{i:Inf}{P:gf.Pg}{n:Nat}{c:Md}
def Gs.nm1(g:Gs X i P n c){j:Nat}(h:K2 c j=eN):X.N[j]?=eL (c.nmOf j)/\L2.Loc X.env.scope (c.nmOf j)/\(X.fn (c.nmOf j)=eN\/X.env.scope.names.lookup (c.nmOf j)=eL .local):=by unfold K2 at h;rw[bAq,gm]at h;exact⟨N3 g.N h.1,g.loc h.2,g.fn _ h.2⟩
variable {p:gf.Pt}
def Ps(g:Gs X i P n c)(h:okP p c=eN):Gc (CM X c) p:=by
 cases p with
 |one j=>exact g.nm1 h
 |many js=>exact λj hj=>g.nm1<|Ć.mp h j hj
 |nest j js =>have h:(K2 c j&&js.all (K2 c))=eN:=h;rw[bAq]at h;exact⟨g.nm1 h.1,λk hk=>g.nm1<|Ć.mp h.2 k hk⟩
variable {x:Expr}
def Ug(g:Gs X i P n c)(cU:c.cm=eN)(h:okP p c=eN):PG X (toP p c x)<|gPt i p:=GD g.K (by rw[g.N];exact g.nd) (g.calm cU) (Ps g h)
variable {tg:Expr}
def WF{l:Nat}{env:Env}(a:gf.E)(x:Expr)(hs:env.scope=c.sc):Ŧ (toX a c x) (eL tg) l env=pure (swT c tg<|toX a c x):=by
 cases a with
 |comp ô m p it t e =>
  cases tg with
  |Name t q =>unfold Ŧ swT Env.blockKind Env.kindOf;rw[hs];rfl
  |_=>rfl
 |_=>rfl
def Iy(p:gf.Pt)(a:gf.E)(x y:Expr)(env:Env)(h:(Zv p || !De a)=eN):ϗ [toP p c x] (toX a c y) env=pure eM:=by
 cases p with
 |one j=>cases a<;>rfl
 |many js=>cases a<;>first|rfl|cases h
 |nest j js=>cases a<;>first|rfl|cases h
def A2(p:gf.Pt)(x:Expr)(env:Env):(ĝ [toP p c x] env).map (·.2)=[π (toP p c x) env]:=by cases p<;>rfl
def GU{a:gf.E}(h:swT c tg (toX a c x)=eN):∃ô m p it t e,a=.comp ô m p it t e:=by
 cases a with
 |comp ô m p it t e=>exact⟨_,_,_,_,_,_,rfl⟩
 |_=>cases h
def F1(y:gf.E){b:Expr}{ç:Pos}{env:Env}:∀v,π (.Subscript b (toX y c x) ç) env v=(do
    let ov<-ŋ [v] (eval b env)
    let iv<-ŋ [v,ov] (eval (toX y c x) env)
    χ ç
    ŋ [v,ov,iv] (aV ov iv v)
    d8 [v,ov,iv] []):=by
 intro v;cases y<;>rfl
def Gh{op:gf.Bop}(h:U7 op=eN):Bx X (NU op)<|rAS op:=by
 cases op with
 |add =>
  intro Á s σ H x y u v Q I rx ry q;obtain⟨a,b,rfl,rfl,q⟩:=q;rcases q with⟨_,q⟩|⟨z,_⟩
  .exact Ii Á s σ H _ _ u v Q I rx ry ⟨a,b,rfl,rfl,q⟩
  .cases z
 |sub =>
  intro Á s σ H x y u v Q I rx ry q;obtain⟨a,b,rfl,rfl,q⟩:=q;rcases q with⟨z,_⟩|⟨_,q⟩
  .cases z
  .exact Ix Á s σ H _ _ u v Q I rx ry ⟨a,b,rfl,rfl,q⟩
 |_=>cases h
def Ck:PGet X<|Ci X.K:=λÁ s σ H x y v u Q I rx ry h=>by
 obtain⟨p,xs,i,z,rfl,rfl,hq,he,q⟩:=h;cases rx;obtain⟨t,rfl⟩:=ry;obtain⟨ò,r,pl,hz⟩:=I.list hq;obtain⟨j,h1,h2,h3,h4,h5⟩:=WS he;obtain⟨w,ew,be⟩:=r.get h2;have hl:=r.length;have hn:=YL;have fin:EP X Á σ Q w s:=⟨z,H,I,be,q⟩
 by_cases h0:0<=i
 .have hj:i.toNat=j:=by
   rw[bJ h0 h5]at h1;exact ì h1
  exact wpAny_getItem_list pl.isList h0 (by lia) (by rw[hj];simpa using ew) fin
 .have hj:(i+(ò.toArray.size:Int)).toNat=j:=by
   rw[aW (by lia) h4]at h1;rw[Î,<-hl];exact ì h1
  exact ei pl.isList (by lia) (by rw[Î]<;>lia) (by lia) (by rw[hj];simpa using ew) fin
def DB(hu:X.A.units+1<Ĩ):PGet X AQ:=λÁ s σ H x y v u Q I rx ry h=>by obtain⟨a,z,rfl,g,q⟩:=h;cases rx;exact Kq hu I g ry λw s' I' r=>⟨z,H,I',r,q⟩
def PGet.or{r r':R2}(h:PGet X r)(h':PGet X r'):PGet X λx y H Q=>r x y H Q\/r' x y H Q:=λÁ s σ H o j ov jv Q I ro rj q=>by
 rcases q with q|q
 .exact h Á s σ H o j ov jv Q I ro rj q
 .exact h' Á s σ H o j ov jv Q I ro rj q
def HY{G:gf.Hs}{H:Hp}{a:È}{u w:gf.Val}{y:V}{K:Frag}{Q:VK}(g:RH i G H)(ry:RV i.K H u y)(e:gf.fH G (.ref a) u=eL w)(q:∀z,RV i.K H w z->Q z H):Ci K (.ref a) y H Q\/AQ (.ref a) y H Q:=by
 replace e:(match G a with|some (.lst xs)=>(gf.f8 u).bind (gf.atI xs)|some (.dct kvs)=>if gf.fj u then gf.fo kvs u else eM|some (.frz kvs)=>if gf.fj u then gf.fo kvs u else eM|some (.dtp kvs)=>if gf.isKeyT u then gf.fo kvs u else eM|_=>eM)=eL w:=e
 cases z:G a with
 |none=>rw[z]at e;cases e
 |some o =>
  rw[z]at e;cases o with
  |lst xs =>obtain⟨k,hk,e⟩:=ê.mp e;cases ZR hk;obtain⟨vs,h1,h2⟩:=g a _ z;obtain⟨t,h3,h4⟩:=WL h2 e;exact .inl ⟨a,vs,k,t,rfl,ry.int_inv,fX.of h1,h3,q t h4⟩
  |dct kvs =>obtain⟨hk,e⟩:=Zi (show(if gf.fj u then gf.fo kvs u else eM)=eL w from e);obtain⟨ps,h1,h2⟩:=g a _ z;obtain⟨d,kr,rfl⟩:=fg hk ry;obtain⟨t,hx,rv⟩:=(h2.look kr).1 w e;exact .inr ⟨a,t,rfl,by rw[<-hx];exact DGet.k h1,q t rv⟩
  |frz kvs =>obtain⟨hk,e⟩:=Zi (show(if gf.fj u then gf.fo kvs u else eM)=eL w from e);obtain⟨ob,ps,h1,h2⟩:=g a _ z;obtain⟨d,kr,rfl⟩:=fg hk ry;obtain⟨t,hx,rv⟩:=(h2.look kr).1 w e;exact .inr ⟨a,t,rfl,.inl ⟨ps,d,.inr ⟨ob,h1⟩,rfl,hx.symm⟩,q t rv⟩
  |dtp kvs =>obtain⟨hk,e⟩:=Zi (show(if gf.isKeyT u then gf.fo kvs u else eM)=eL w from e);obtain⟨ps,h1,h2⟩:=g a _ z;obtain⟨k1,k2,b,rfl,rfl,hb⟩:=XM hk ry;obtain⟨t,hx,rv⟩:=(h2.look).1 w e;exact .inr ⟨a,t,rfl,by rw[<-hx];exact DGet.t h1 hb,q t rv⟩
  |_=>cases e
def Lv(e:gf.E)(x:Expr):∀ov iv new,augStore (toX e c x) ov iv new=(do ŋ [new,ov,iv] (aV ov iv new);d8 [new,ov,iv] [];pure .next):=by intro ov iv new;cases e<;>rfl
def U3{Φ:gf.Fs}{a j:Expr}{ma mj:gf.E}{op:gf.Bop}{k:Int}{kk:Nat}{ç cL Ŏ:Pos}(hK:X.K=i.K)(hu:X.A.units+1<Ĩ)(h:U7 op=eN)(ha:PE X a<|tE X i Φ ma)(hj:PE X j<|tE X i Φ mj)
  (hs:∀ov iv new,augStore j ov iv new=(do ŋ [new,ov,iv] (aV ov iv new);d8 [new,ov,iv] [];pure .next)) :
  PS X (.AugAssign (.Subscript a j cL) (NU op) (.Constant (.int k) kk Ŏ) ç) (tSt X i Φ<|.augIdx ma mj op k) :=
 (EK ha hj (PGet.or Ck<|DB hu) OC (Gh h) (PSet.or M8<|M2 hu) hs).imp λD σ H ⟨env,G,N,R,B,C,Xe,p,w,c⟩=>by
  refine one p.pre w λv G1 H1 x k1 p1 rx q=>?_;refine one p1 q λu G2 H2 y k2 p2 ry q=>?_;obtain⟨t,e1,q2⟩:=eU q;clear q;obtain⟨z,e2,q3⟩:=eU q2;clear q2;obtain⟨G3,e3,q4⟩:=eU q3;clear q3;have hr:∃b,v=.ref b:=by
   cases v with
   |ref b=>exact⟨b,rfl⟩
   |_=>cases e3
  obtain⟨b,rfl⟩:=hr;cases rx.ref_inv;have ix2:∀Q:VK,(∀t',RV i.K H2 t t'->Q t' H2)->Ci X.K (.ref b) y H2 Q\/AQ (.ref b) y H2 Q:=λQ hQ=>HY p2.hp ry e1 hQ;refine ix2 _ λt' rt=>?_;obtain⟨n1,n2,rfl,e0,hz⟩:=MJ e2;cases e0;cases rt.int_inv;have fin:∀m:Int,z=.int m->C8 (.ref b) y (.int m) H2 λH6=>D.nx σ H6:=λm hm=>by subst hm;exact CP p2.hp (.ref b) ry (.int m) e3 λH3 k3 g3=>c.nx env σ _ _ ((k1.trans k2).trans k3) g3 (p2.en.keep k3) q4
  rcases hz with⟨eo,hz⟩|⟨eo,hz⟩
  .exact⟨n1,k,rfl,rfl,.inl ⟨eo,fin _ hz⟩⟩
  .exact⟨n1,k,rfl,rfl,.inr ⟨eo,fin _ hz⟩⟩
def Ec(t v:Expr)(p:Pos)(env:Env)(h:(∃a b q,t=.Subscript a b q)\/(∃a b q,t=.Attribute a b q)):ϗ [t] v env=pure eM:=by rcases h with⟨a,b,q,rfl⟩|⟨a,b,q,rfl⟩<;>rfl
variable {a:gf.E} {x:Expr}
def Ep{t:Option Expr}{l:Nat}{env:Env}(h:(!Oj a)=eN):Ŧ (toX a c x) t l env=pure eP:=by
 cases a with
 |comp ô m p it tt e=>cases h
 |_=>rfl
def BS{tg:Expr}(h:∀y q,tg≠.Name y q):swT c tg (toX a c x)=eP:=by
 cases a with
 |comp ô m p it tt e =>
  cases tg with
  |Name y q=>exact gp rfl<|h y q
  |_=>rfl
 |_=>rfl
def IV(g:Gs X i P n c){p:gf.Pt}(hc:(Zv p||c.cm)=eN)(h:okP p c=eN):PG X (toP p c x)<|gPt i p:=by
 by_cases cU:c.cm=eN
 .exact Ug g cU h
 .cases p with
  |one j =>obtain⟨h1,h2,h3⟩:=g.nm1 h;exact OB (by rw[g.N];exact g.nd) h1 h2 h3
  |many js=>exact gp hc cU
  |nest j js=>exact gp hc cU
def F6(Y:Cx)(H:Hp):XW Y<|XK1 i H λ_ _=>False:=λ_ _ _ _ _ _ _ _ _ _ ⟨_,_,_,_,_,_,_,z⟩=>z.elim
def Ic(Y:Cx)(H:Hp):XW Y<|XKS i H λ_ _ _=>False:=λ_ _ _ _ _ _ _ _ _ _ ⟨_,_,_,_,_,_,_,_,z⟩=>z.elim
variable {Φ:gf.Fs} {e:Expr} {es:List Expr} {ms:gf.Es} {ç:Pos}
def DQ{C:String}{a:È}{k:Nat}{np Ŏ:Pos}(hc:X.calm=eN)(O:PyProof.Rows.OwnCls (gu C) a [.type "ValueError",.type "Exception",.type "BaseException",.type "object"] "ValueError.__new__" X.mg X.base)(hx:i.xc C a)(hg:Gl X<|gu C)
  (ha:PA X (e::es)<|tAr X i Φ ms k) (hk:k<=1000) (ϫ:(gu C==("__debug__" : Str))=eP) (he:Ð (e::es) X.env=(eP,eval e X.env)::Ð es X.env) (hpl:(ċ Ŏ<|Ð es X.env).any (·.1)=eP) :
  PS X (.Raise (eL<|.Call (.Name (gu C) np) (e::es) [] Ŏ) eM ç) (tSt X i Φ<|.raise C ms):=by
 intro Á s σ H D I ⟨env,G,N,R,B,Cq,Xe,p,w,_⟩;rw[gf.q_s_raise]at w;refine C3 (E:=XK1 i H<|Xe env) p.pre.xo hc O hg ha ϫ he hpl Á s σ H D I ⟨env,G,_,Xe env,p.pre,w,λvs G1 H1 xs k1 g1 r1 hl w1=>⟨?_,C,G1,a,rfl,hx,k1,g1,w1⟩⟩;rw[hl];unfold Ø;lia
abbrev tB0(i:Inf)(Φ:gf.Fs)(m:gf.Ss):TS:=λD σ H=>∃env G N R B C,REn i.K H env σ/\RH i G H/\gf.wSs Φ m env G N R B C (λ_ _ _=>False)/\EOk i H D N R B C
def Qq{Y:Cx}{sts:List ħ}{m:gf.Ss}(h:PSs Y sts<|tBl Y i Φ m):PSs Y sts (tB0 i Φ m) :=
 h.imp λD σ H ⟨env,G,N,R,B,C,e,g,w,q⟩=>⟨env,G,N,R,B,C,_,⟨e,g,Ic Y H⟩,w,q⟩
variable {H:Hp} {σ:St}
def REn.unset{K:Frag}{env:gf.Env}(r:REn K H env σ)(j:Nat):REn K H (env.set j eM)<|σ.set j eM:=⟨by simp[r.len],λi u e=>by
  by_cases hij:j=i
  . subst hij
    rw[ύ]at e
    cases z:env[j]? with
    |none=>rw[z]at e;cases e
    |some w=>rw[z]at e;cases e
  . rw[ĵ hij]at e
    obtain⟨y,h1,h2⟩:=r.get i u e
    exact⟨y,by rw[ĵ hij];exact h1,h2⟩⟩
abbrev tCx(i:Inf)(Φ:gf.Fs)(m:gf.E):St->Hp->VK->XK->Prop:=λσ H Q E=>∃env G Qm Em,REn i.K H env σ/\RH i G H/\gf.wC Φ m env G Qm Em/\Cn i H Q Qm/\∀cls d H',XK1 i H Em cls d H'->E cls d H'
def FC{f:String}{k:Nat}{p:Pos}(hK:X.K=i.K)(D:Dfo X.prog X.w X.mg X.base i P n f)(hr:fx (2*n) X.A)(hg:Gl X<|gu f)(ϫ:(gu f==("__debug__" : Str))=eP)
  (ha:PA X.nox (e::es)<|tAr X.nox i (gf.wF P n) ms k) (he:Ð (e::es) X.env=(eP,eval e X.env)::Ð es X.env) (hpl:(ċ ç<|Ð es X.env).any (·.1)=eP) :
  PCx X (.Call (.Name (gu f) p) (e::es) [] ç) (tCx i (gf.wF P n)<|.call f ms):=by
 obtain⟨fa,fd,ps,F,hm,hk,hb⟩:=D;rw[<-hK]at F hk hb;intro Á s σ H Q E I ⟨env,G,Qm,Em,en,g,w,cn,x⟩;refine EU ⟨fa,fd,F,hm,hk,hb⟩ hr (Ì _) hg ha ϫ he hpl Á s σ H Q E I ?_;exact⟨env,G,_,λ_ _=>False,⟨en,g,F6 X.nox H⟩,w,λvs G1 H1 xs k1 g1 r1 hl w1=>⟨vs,G1,Qm,Em,r1,g1,w1,cn.go k1,λcls d H' h=>x cls d H'<|h.go k1⟩⟩
def D0{k:Nat}{Cn m:String}{C f:È}{o:Expr}{mo:gf.E}{Ń:Pos}{pl:Sem Bool}(hK:X.K=i.K)(hfn:∀c,i.cl Cn c->c=C)(A:Cls i.K C)(M:Meth i.K C (gu m) f)(D:Dfm X.prog X.w X.mg X.base i P n (Cn ++ "." ++ m) f)(hr:fx (2*n) X.A)
  (ho:PE X.nox o<|tE X.nox i (gf.wF P n) mo) (ha:PA X.nox (e::es)<|tAr X.nox i (gf.wF P n) ms k) (he:Ð (e::es) X.env=(eP,eval e X.env)::Ð es X.env) (hpl:(ċ ç<|Ð es X.env).any (·.1)=eP)
  (ht:eval (.Call (.Attribute o (gu m) Ń) (e::es) [] ç) X.env=(do
    let ov<-eval o X.env
    χ Ń.atName
    let (f,first)<-ŋ [ov] (ρ ov (gu m) pl)
    Ϲ ç f first (ċ ç<|Ð (e::es) X.env) (Ů ç<|ĸ [] X.env))) :
  PCx X (.Call (.Attribute o (gu m) Ń) (e::es) [] ç) (tCx i (gf.wF P n)<|.meth Cn m mo ms):=by
 obtain⟨fd,ps,F,hb⟩:=D;rw[<-hK]at F hb M A;intro Á s σ H Q E I ⟨env,G,Qm,Em,en,g,w,cn,x⟩;refine DN ho A M F hr hb ha he hpl ht Á s σ H Q E I<|one ⟨en,g,F6 X.nox H⟩ w λv G1 H1 y k1 p1 rv q=>?_;obtain⟨hq,w1⟩:=q;obtain⟨a,fs,rfl,e2,e3⟩:=Wj hq;cases rv.ref_inv;obtain⟨c',dx,bZ,hi,hc,h1,rf⟩:=p1.hp a _ e2;cases hfn c' hc;refine⟨a,dx,bZ,rfl,h1,rf.look.2 e3,env,G1,_,λ_ _=>False,p1,w1,λvs G2 H2 xs k2 g2 r2 hl w2=>?_⟩;exact⟨.ref a::vs,G2,Qm,Em,.cons (.ref a) r2,g2,w2,(cn.go k1).go k2,λcls d H' h=>x cls d H'<|(h.go k2).go k1⟩
def Bh{m:gf.E}{t:Option Nat}{hs:gf.Hn}{D:Ends}{E:XK}{env:gf.Env}{G:gf.Hs}{N:gf.NQ}{R:gf.Q1}{B C:gf.NQ}{nx:V->St}(en:REn i.K H env σ)(g:RH i G H)
  (w:gf.wC Φ m env G (λv h1=>N (gf.tryEnv env t v) h1) λc g=>gf.wH Φ hs c env g N R B C) (q:EOk i H D N R B C)
  (hn:∀v x H',fm H H'->RV i.K H' v x->REn i.K H' (gf.tryEnv env t v) (nx x))
  (hx:∀Cn ad G' H',i.xc Cn ad->fm H H'->RH i G' H'->gf.wH Φ hs Cn env G' N R B C->E (.ref ad) eM H') (hd:∀cls d H',E cls eM H'->E cls d H') :
  tCx i Φ m σ H (λv H'=>D.nx (nx v) H') E:=by
 refine⟨env,G,_,_,en,g,w,λv G' H' x k g' r h=>q.nx _ _ G' H' k g' (hn v x H' k r) h,λcls d H' ⟨Cn,G',ad,e,hc,k,g',h⟩=>?_⟩;subst e;exact hd _ d H'<|hx Cn ad G' H' hc k g' h
variable {m:gf.E} {Da:È} {b:gf.Ss} {body:ħ} {b0:ħ} {Ϥ:List ħ} {tp:Pos} {dC:Pos} {nx:St->V->St}
def GZ{t:Option Nat}{K:String}(ů:X.stack=X.env::X.outer)(hK:X.K=i.K)(hb:PB X [body] λD E σ H=>tCx i Φ m σ H (λv H'=>D.nx (nx σ v) H') E)
  (hn:∀H env σ v x,REn i.K H env σ->RV i.K H v x->REn i.K H (gf.tryEnv env t v) (nx σ x)) (hg:Gl X<|gu K) (hm:X.mg (gu K)=eL (.ref Da)) (hx:∀C a,i.xc C a->gf.fW C K=eN->PySem.W.exmOne i.K (.ref a) (.ref Da)=eL eN)
  (hs:∀a,PSs (X.caught a) (b0::Ϥ)<|tB0 i Φ b) (ϫ:(gu K==("__debug__" : Str))=eP) :
  PS X (.Try [body] [.ExceptHandler (eL<|.Name (gu K) tp) eM (b0::Ϥ) dC] [] [] ç) (tSt X i Φ<|.try t m (.cons K eM b .nil)) :=
 (Fk ů hb hg hm hs ϫ).imp λD σ H ⟨env,G,N,R,B,C,Xe,p,w,q⟩=>by
  rw[gf.q_s_try]at w;refine Bh (nx:=nx σ) p.en p.hp w q (λv x H' k r=>hn H' env σ v x (p.en.keep k) r) (λCn ad G' H' hc k g' h=>?_) λcls d H' z=>z;rw[gf.q_h_none]at h;by_cases e:gf.fW Cn K=eN
  .rw[gg e]at h;rw[hK];refine⟨hx Cn ad hc e,λa ha=>⟨env,G',N,R,B,C,?_,WP g' ha,h,(q.go k).go<|fm.new ha⟩⟩;exact(p.en.keep k).keep<|fm.new ha
  .rw[gh e,gf.q_h_nil]at h;exact h.elim
def EO{t:Option Nat}{K:String}{j:Nat}{y:Str}(ů:X.stack=X.env::X.outer)(hN:X.N.Nodup)(hj:X.N[j]?=eL y)(hy:X.env.scope.names.lookup y=eL .local)(hK:X.K=i.K)(hb:PB X [body] λD E σ H=>tCx i Φ m σ H (λv H'=>D.nx (nx σ v) H') E)
  (hn:∀H env σ v x,REn i.K H env σ->RV i.K H v x->REn i.K H (gf.tryEnv env t v) (nx σ x)) (hg:Gl X<|gu K) (hm:X.mg (gu K)=eL (.ref Da)) (hx:∀C a,i.xc C a->gf.fW C K=eN->PySem.W.exmOne i.K (.ref a) (.ref Da)=eL eN)
  (hs:∀a,PSs (X.caught a) (b0::Ϥ)<|tB0 i Φ b) (ϫ:(gu K==("__debug__" : Str))=eP) :
  PS X (.Try [body] [.ExceptHandler (eL<|.Name (gu K) tp) (eL y) (b0::Ϥ) dC] [] [] ç) (tSt X i Φ<|.try t m (.cons K (eL j) b .nil)) :=
 (IX ů hN hj hy hb hg hm hs ϫ).imp λD σ H ⟨env,G,N,R,B,C,Xe,p,w,q⟩=>by
  rw[gf.q_s_try]at w;refine Bh (nx:=nx σ) p.en p.hp w q (λv x H' k r=>hn H' env σ v x (p.en.keep k) r) (λCn ad G' H' hc k g' h=>?_) λcls d H' z=>z;rw[gf.q_h_some]at h;by_cases e:gf.fW Cn K=eN
  .rw[gg e]at h;rw[hK];refine⟨hx Cn ad hc e,λa ha=>?_⟩;have k2:fm H'<|upd H' a<|xcO a<|.ref ad:=fm.new ha;refine⟨_,_,_,R,_,_,((p.en.keep k).keep k2).set (.ref a) j,g'.put (o:=.exc Cn) k2 ⟨ad,hc,eR⟩,h a<|g'.free ha,⟨?_,?_,?_,?_⟩⟩
   .exact λŜ Ś G2 H2 k3 g3 r3 n3=>q.nx _ _ G2 H2 ((k.trans k2).trans k3) g3 (r3.unset j) n3
   .exact λv G2 H2 x k3 g3 r3 n3=>q.rt v G2 H2 x ((k.trans k2).trans k3) g3 r3 n3
   .exact λŜ Ś G2 H2 k3 g3 r3 n3=>q.bk _ _ G2 H2 ((k.trans k2).trans k3) g3 (r3.unset j) n3
   .exact λŜ Ś G2 H2 k3 g3 r3 n3=>q.ct _ _ G2 H2 ((k.trans k2).trans k3) g3 (r3.unset j) n3
  .rw[gh e,gf.q_h_nil]at h;exact h.elim
def Gd.nox(g:Gd X i P n c):Gd X.nox i P n c :=
 ⟨g.K,g.N,g.sc,g.nd,g.un,g.calm,g.room,g.bl,g.dfs,g.cst,⟨g.kl.A,g.kl.F,g.kl.mkc,g.kl.mth⟩,λh=>⟨(g.xl h).xc,(g.xl h).rs,(g.xl h).kn⟩⟩
def Gs.hot(g:Gs X i P n c)(a:È):Gs (X.caught a) i P n c.hot :=
 {K:=g.K,N:=g.N,sc:=g.sc,nd:=g.nd,un:=g.un,calm:=λz=>(by cases z),room:=λz=>(by cases z),bl:=g.bl,dfs:=g.dfs,cst:=g.cst,kl:=⟨g.kl.A,g.kl.F,g.kl.mkc,g.kl.mth⟩,xl:=λh=>⟨(g.xl h).xc,(g.xl h).rs,(g.xl h).kn⟩,fn:=g.fn,own:=λz=>(by cases z),stk:=λz=>(by cases z)}
def Hv(g:Gs X i P n c){t:Option Nat}{y:ħ}(cU:c.cm=eN)(h:DI m c (ke y 0)=eN)(ht:BQ c t=eN) :
  ∃nx:St->V->St,PB X [GT t m c y] (λD E σ H=>tCx i (gf.wF P n) m σ H (λv H'=>D.nx (nx σ v) H') E)/\∀H env σ v x,REn i.K H env σ->RV i.K H v x->REn i.K H (gf.tryEnv env t v) (nx σ x):=by
 cases m with
 |call f as =>
  have h:((c.gl (gu f)&&nm (gu f))&&c.fs.contains f&&gq (Za as≠0)&&okA as c (sub<|ke y 0).tail)=eN:=h;rw[bAq,bAq,bAq,bAq,gm]at h;obtain⟨⟨⟨⟨h1,h2⟩,h3⟩,h4⟩,h5⟩:=h;cases as with
  |nil=>exact gp rfl h4
  |cons a as =>
   have hc:PCx X (toX (.call f<|.cons a as) c<|ke y 0)<|tCx i (gf.wF P n)<|.call f<|.cons a as:=FC g.K (g.dfs _ h3) (g.rm cU) (g.gl h1) (Ws h2).1 (eA (.cons a as) X.nox c _ g.toGd.nox h5) (Zr ..)<|ZJ ..;cases t with
   |none=>exact⟨λσ _=>σ,Ut hc rfl,λH env σ v x e _=>e⟩
   |some j =>obtain⟨q1,q2,q3⟩:=g.nm1 ht;exact⟨λσ v=>σ.set j<|eL v,DP (by rw[g.N];exact g.nd) q1 q2 hc rfl q3,λH env σ v x e r=>e.set r j⟩
 |meth C m o as =>
  have h:(c.ms.contains (C,m)&&okE o c (kid (kid (ke y 0) 0) 0)&&Z2 (toX o c<|kid (kid (ke y 0) 0) 0)&&((kid (ke y 0) 0).pos.endLine==(ke y 0).pos.line)&&gq (Za as<20)&&gq (Za as≠0)&&okA as c (sub<|ke y 0).tail)=eN:=h;rw[bAq,bAq,bAq,bAq,bAq,bAq,gm,gm]at h;obtain⟨⟨⟨⟨⟨⟨h1,h3⟩,h4⟩,h6⟩,h7⟩,h8⟩,h5⟩:=h;cases as with
  |nil=>exact gp rfl h8
  |cons b as =>
   have ev:=Uy (m:=gu m) (Z0 h4 _ X.env) (BI X.env (ke y 0).pos (c:=c) (xs:=(sub<|ke y 0).tail) h7) h6;obtain⟨a,f,i1,A,M,D⟩:=g.kl.mth C m h1;have hc:PCx X (toX (.meth C m o<|.cons b as) c<|ke y 0)<|tCx i (gf.wF P n)<|.meth C m o<|.cons b as:=D0 g.K i1 A M D (g.rm cU) (eE o X.nox c _ g.toGd.nox h3) (eA (.cons b as) X.nox c _ g.toGd.nox h5) (Zr ..) (ZJ ..) ev;cases t with
   |none=>exact⟨λσ _=>σ,Ut hc rfl,λH env σ v x e _=>e⟩
   |some j =>obtain⟨q1,q2,q3⟩:=g.nm1 ht;exact⟨λσ v=>σ.set j<|eL v,DP (by rw[g.N];exact g.nd) q1 q2 hc rfl q3,λH env σ v x e r=>e.set r j⟩
 |_=>cases h
def Eb(h:Uf b=eN)(c:Md)(xs:List ħ):∃y ys,toSs b c xs=y::ys:=by
 cases b with
 |nil=>cases h
 |cons s ss=>exact⟨_,_,rfl⟩
mutual
theorem sS:∀(m:gf.S) (X:Cx) (c:Md) (s:ħ),Gs X i P n c->okS m c s=eN->PS X (toS m c s) (tSt X i (gf.wF P n) m)
 |.set p a,X,c,s,g,h=>by
  have h:(okP p c&&okE a c (ke s 0)&&(Zv p || !De a)&&(Zv p||c.cm))=eN:=h;rw[bAq,bAq,bAq]at h;obtain⟨⟨⟨h1,h2⟩,h3⟩,h4⟩:=h;by_cases hsw:swT c (toP p c<|ke s 1) (toX a c<|ke s 0)=eN
  .obtain⟨ô,k,pt,it,tt,e,rfl⟩:=GU hsw;cases p with
   |one j =>obtain⟨q1,q2,q3⟩:=g.nm1 h1;exact(U2 g.toGd h2).2 _ _ _ j q1 q2 q3 (by rw[<-hsw];exact WF (c:=c) (.comp ô k pt it tt e) (ke s 0) g.sc)
   |many js=>cases hsw
   |nest j js=>cases hsw
  .have hp:PG X (toP p c<|ke s 1)<|gPt i p:=IV g h4 h1;exact Hy (eE a X c _ g.toGd h2) hp (by rw[ϖ,WF a _ g.sc,Bool.eq_false_iff.mpr hsw]) (Iy p a _ _ _ h3)<|A2 p _ _
 |.setIdx a j e,X,c,s,g,h=>by have h:(okE e c (ke s 0)&&okE a c (kid (ke s 1) 0)&&okE j c (kid (ke s 1) 1))=eN:=h;rw[bAq,bAq]at h;have ha:=eE a X c _ g.toGd h.1.2;have hj:=eE j X c _ g.toGd h.2;exact AD g.K (eE e X c _ g.toGd h.1.1) ha hj (IW ha hj (PSet.or M8<|M2 (by have:=g.un;lia))<|F1 j) (by rw[ϖ,WF e _ g.sc,BS λy q z=>(by cases z)]) (Ec _ _ (ke s 1).pos _<|.inl ⟨_,_,_,rfl⟩) rfl
 |.setPair a j b k e,X,c,s,g,h=>nomatch h
 |.setFld o f e,X,c,s,g,h=>by have h:(c.fl.contains f&&okE o c (kid (ke s 1) 0)&&okE e c (ke s 0))=eN:=h;rw[bAq,bAq]at h;exact UP g.K g.kl.A (g.kl.F _ h.1.1) (eE o X c _ g.toGd h.1.2) (eE e X c _ g.toGd h.2) (by rw[WF e _ g.sc,BS λy q z=>(by cases z)])
 |.augVar j op e,X,c,s,g,h=>nomatch h
 |.augFld o f op k,X,c,s,g,h=>by have h:(c.fl.contains f&&okE o c (kid (ke s 1) 0)&&U7 op)=eN:=h;rw[bAq,bAq]at h;exact U8 g.K g.kl.A (g.kl.F _ h.1.1) (Gh h.2)<|eE o X c _ g.toGd h.1.2
 |.expr e,X,c,s,g,h=>by have h:(okE e c (ke s 0) && !Oj e)=eN:=h;rw[bAq]at h;exact D4 (eE e X c _ g.toGd h.1)<|Ep h.2
 |.ret e,X,c,s,g,h=>Ik<|eE e X c _ g.toGd h
 |.retN,X,c,s,g,h=>nomatch h
 |.ite t a b,X,c,s,g,h=>by have h:(okT t c (ke s 0)&&okSs a c (stB s)&&okSs b c (stO s))=eN:=h;rw[bAq,bAq]at h;exact IT (eT t X c _ g.toGd h.1.1).1 (sSs a X c _ g h.1.2)<|sSs b X c _ g h.2
 |.whl t b,X,c,s,g,h=>nomatch h
 |.for p it b,X,c,s,g,h=>by have h:(okP p c&&okI it c (ke s 1) (!Zv p)&&okSs b c (stB s)&&c.cm)=eN:=h;rw[bAq,bAq,bAq]at h;obtain⟨⟨⟨h1,h2⟩,h3⟩,h4⟩:=h;obtain⟨t1,t2⟩:=Mp (c:=c) p<|ke s 0;obtain⟨a1,a2⟩:=eI it X c (ke s 1) (toP p c<|ke s 0) g.toGd (!Zv p) t1 t2 h2;exact IL (g.own h4) (g.calm h4) a1 (Ug g h4 h1) (sSs b X c _ g h3) a2
 |.forI eN p e b,X,c,s,g,h=>by have h:(okP p c&&Gk e&&okE e c (ke s 1)&&okSs b c (stB s)&&c.cm)=eN:=h;rw[bAq,bAq,bAq,bAq]at h;obtain⟨⟨⟨⟨h1,h2⟩,h3⟩,h6⟩,h7⟩:=h;refine EB (g.own h7) (g.calm h7) (eE e X c _ g.toGd h3) (Ug g h7 h1) (sSs b X c _ g h6) λ_=>?_;cases e<;>first|rfl|cases h2
 |.forI eP p e b,X,c,s,g,h=>by have h:(okP p c && !Zv p&&okE e c (kid (kid (ke s 1) 0) 0)&&Z2 (toX e c<|kid (kid (ke s 1) 0) 0)&&((kid (ke s 1) 0).pos.endLine==(ke s 1).pos.line)&&okSs b c (stB s)&&c.cm)=eN:=h;rw[bAq,bAq,bAq,bAq,bAq,bAq]at h;obtain⟨⟨⟨⟨⟨⟨h1,h2⟩,h3⟩,h4⟩,h5⟩,h6⟩,h7⟩:=h;obtain⟨es,k,q,et⟩:=(Mp (c:=c) p<|ke s 0).1 h2;have hg:=Ug (x:=ke s 0) g h7 h1;show PS X (.For (toP p c<|ke s 0) _ _ _ _) _;rw[et]at hg ⊢;exact FT (g.own h7) (g.calm h7) (eE e X c _ g.toGd h3) hg (sSs b X c _ g h6) (Z0 h4 _ _) h5 λ_=>rfl
 |.never,X,c,s,g,h=>Ca
 |.brk,X,c,s,g,h=>nomatch h
 |.cnt,X,c,s,g,h=>nomatch h
 |.pass,X,c,s,g,h=>nomatch h
 |.raise C as,X,c,s,g,h=>by
  have h:((c.gl (gu C)&&nm (gu C))&&c.xs.contains C&&c.cm&&gq (Za as≠0)&&gq (Za as<=1000)&&okA as c (sub<|ke s 0).tail)=eN:=h;rw[bAq,bAq,bAq,bAq,bAq,bAq,gm,gm]at h;obtain⟨⟨⟨⟨⟨⟨h1,h2⟩,h3⟩,h4⟩,h5⟩,h6⟩,h7⟩:=h;obtain⟨a,hx,O⟩:=(g.xl<|by intro z;rw[z]at h3;cases h3).rs C h3;have ha:=eA as X c _ g.toGd h7;cases as with
  |nil=>exact gp rfl h5
  |cons b as=>exact DQ (g.calm h4) O hx (g.gl h1) ha (by rw[Y4];exact h6) (Ws h2).1 (Zr ..)<|ZJ ..
 |.try t e (.cons K nm b .nil),X,c,s,g,h=>by
  have h:(DI e c (ke ((stB s).headD dS) 0)&&BQ c t&&((c.xs.contains K||K == "ShutError")&&(c.gl (gu K)&&Snd.nm (gu K)) && !c.xs.isEmpty&&GP c nm&&Uf b&&okSs b c.hot (hB<|(stH s).headD dH)&&eN)&&c.cm)=eN:=h;simp only[bAq]at h;obtain⟨⟨⟨h1,h2⟩,⟨⟨⟨⟨⟨h3,h4,h5⟩,h6⟩,h7⟩,h8⟩,h9⟩,_⟩,h10⟩:=h;obtain⟨nx,hb,hn⟩:=Hv g h10 h1 h2;obtain⟨Da,hm,hk⟩:=(g.xl<|by intro z;rw[z]at h6;cases h6).kn K h3;obtain⟨y0,ys,e0⟩:=Eb h8 c.hot<|hB<|(stH s).headD dH;have hs:∀a,PSs (X.caught a) (y0::ys) (tB0 i (gf.wF P n) b):=λa=>by rw[<-e0];exact Qq<|sSs b (X.caught a) c.hot _ (g.hot a) h9
  show PS X (.Try [GT t e c<|(stB s).headD dS] [.ExceptHandler (eL<|.Name (gu K) (hT<|(stH s).headD dH).pos) (nm.map c.nmOf) (toSs b c.hot<|hB<|(stH s).headD dH)<|hP<|(stH s).headD dH] [] [] s.pos) _;rw[e0];cases nm with
  |none=>exact GZ (g.stk h10) g.K hb hn (g.gl h4) hm (λC a z=>(hk C a z).2) hs (Ws h5).1
  |some j =>have h7:(gq (j<c.N.length)&&c.sc.names.lookup (c.nmOf j)==eL .local)=eN:=h7;rw[bAq,gm]at h7;exact EO (g.stk h10) (by rw[g.N];exact g.nd) (N3 g.N h7.1) (by rw[g.sc];exact eq_of_beq h7.2) g.K hb hn (g.gl h4) hm (λC a z=>(hk C a z).2) hs (Ws h5).1
 |.try t e (.cons K nm b<|.cons _ _ _ _),X,c,s,g,h=>by have h:(DI e c (ke ((stB s).headD dS) 0)&&BQ c t&&((c.xs.contains K||K == "ShutError")&&c.gn K && !c.xs.isEmpty&&GP c nm&&Uf b&&okSs b c.hot (hB<|(stH s).headD dH)&&eP)&&c.cm)=eN:=h;rw[bj,bj,Β]at h;cases h
 |.try t e .nil,X,c,s,g,h=>by have h:(DI e c (ke ((stB s).headD dS) 0)&&BQ c t&&eP&&c.cm)=eN:=h;rw[bj,Β]at h;cases h
 |.augIdx a j op k,X,c,s,g,h=>by have h:(okE a c (kid (ke s 1) 0)&&okE j c (kid (ke s 1) 1)&&U7 op)=eN:=h;rw[bAq,bAq]at h;exact U3 g.K (by have:=g.un;lia) h.2 (eE a X c _ g.toGd h.1.1) (eE j X c _ g.toGd h.1.2)<|Lv j _
theorem sSs:∀(ms:gf.Ss) (X:Cx) (c:Md) (xs:List ħ),Gs X i P n c->okSs ms c xs=eN->PSs X (toSs ms c xs) (tBl X i (gf.wF P n) ms)
 |.nil,X,c,xs,g,h=>G7
 |.cons m ms,X,c,xs,g,h=>by have h:(okS m c (xs.headD dS)&&okSs ms c xs.tail)=eN:=h;rw[bAq]at h;exact Ed (sS m X c _ g h.1)<|sSs ms X c _ g h.2
end
abbrev N2(N ps:List Str)(sc:ν):Bool :=
 sc.kind == .function && !sc.isCoroutine && !sc.isGenerator&&decide N.Nodup&&(N.take ps.length==ps)&&ps.all (λx=>sc.names.lookup x==eL .local||sc.names.lookup x==eL .cell)&&sc.names.all λy=>y.2 != .free
variable {ps:List Str}
def LQ{N:List Str}{sc:ν}(h:N2 N ps sc=eN):FnScope N ps sc:=by
 simp only[N2,bAq,Ť,gm,Ć]at h;obtain⟨⟨⟨⟨⟨⟨h1,h2⟩,h3⟩,h4⟩,h5⟩,h6⟩,h7⟩:=h;refine⟨eq_of_beq h1,h2,h3,h4,eq_of_beq h5,λx hx=>?_,λy hy=>?_⟩
 .simpa using h6 x hx
 .simpa using h7 y hy
structure Ds where
 st:ħ
 N:List Str
 ps:List Str
 d:gf.Fn
structure Mt where
 C:String
 m:String
 qual:String
 x:Ds
structure Tb where
 fs:List<|String×Ds
 ms:List Mt
 cs:List<|String×gf.Val
 cl:List String
 fl:List String
 xs:List String
abbrev Tb.md(T:Tb)(x:Ds):Md:={N:=x.N,sc:=Zf x.st,cs:=T.cs,fs:=T.fs.map (·.1),cm:=eN,cl:=T.cl,ms:=T.ms.map λy=>(y.C,y.m),fl:=T.fl,xs:=T.xs}
abbrev Ds.test(T:Tb)(x:Ds):Bool :=
 N2 x.N x.ps (Zf x.st)&&okSs x.d.body (T.md x) (ZD x.st)&&x.ps.length==x.d.ar&&x.N.length==x.d.sz&&gq (x.d.ar<=x.d.sz)
structure Ds.Ok(T:Tb)(x:Ds):Prop where
 ok:x.test T=eN
 eq:toSs x.d.body (T.md x) (ZD x.st)=ZD x.st
variable {pr:ß}{wd:ñ}{mg:Str->Option Â}{base:þ}{i:Inf}{P:gf.Pg}{T:Tb}
abbrev Dst(K:Frag)(mg:Str->Option Â)(f:String)(x:Ds):Prop:=∃fa fd qual,Fun K (gu f) qual x.st fa fd/\mg (gu f)=eL (.ref fa)/\Binds K fd x.ps []
structure Mst(i:Inf)(mg:Str->Option Â)(y:Mt)(a fa:È):Prop where
 cl:mg (gu y.C)=eL (.ref a)
 fn:∃fd,Fun i.K (gu y.m) (gu y.qual) y.x.st fa fd/\Binds i.K fd y.x.ps []
 at_:Meth i.K a (gu y.m) fa
variable {f:String} {fa:È} {fd:Ň}
def OQ:fy pr wd i.K mg base (CX1 pr wd) 0 fa fd ps<|spF i P 0 f:=by
 refine⟨λvs H Q E h=>?_,λA outer s H args us vs Q E hr he hb hv h=>?_⟩
 .obtain⟨_,_,_,_,_,_,w,_⟩:=h;rw[gf.wF_eq]at w;exact w.elim
 .obtain⟨_,_,_,_,_,_,w,_⟩:=h;rw[gf.wF_eq]at w;exact w.elim
variable {n:Nat}
def Bj{vs:List gf.Val}{h:gf.Hs}{Q:gf.Q1}{E:gf.XQ}(q:gf.wF P (n+1) f vs h Q E):∃d,P f=eL d/\vs.length=d.ar/\gf.wSs (gf.wF P n) d.body (d.env vs) h (λ_ g=>Q .non g) Q (λ_ _=>False) (λ_ _=>False) λ_ c g=>E c g:=by rw[gf.wF_eq]at q;obtain⟨d,e,q1,q2⟩:=eU q;exact⟨d,e,q1,by rw[gf.wF_eq];exact q2⟩
structure Modu(mg:Str->Option Â)(base:þ)(i:Inf)(T:Tb):Prop where
 bl:∀x∈blts,mg x=eM
 cst:∀x v,T.cs.lookup x=eL v->∃u y,mg (gu x)=eL u/\RelV y u/\∀H,RV i.K H v y
 A:ClsA i
 F:∀f,T.fl.contains f=eN->FldOk i f
 cl:∀C a,i.cl C a->mg (gu C)=eL (.ref a)
 mkc:∀C,T.cl.contains C=eN->∃a y f,i.ins C=eN/\i.cl C a/\Mk i.K a f/\y∈T.ms/\y.C=C/\y.m = "__init__"/\Mst i mg y a f
 fs:∀f x,(f,x)∈T.fs->Dst i.K mg f x
 ms:∀y,y∈T.ms->∃a f,Mst i mg y a f/\Cls i.K a
 xc:T.xs≠[]->∀C a,i.xc C a->XCls i.K a/\PySem.W.kitOne i.K (.ref a) (.type "ValueError")=eL eN
 rs:T.xs≠[]->∀C,T.xs.contains C=eN->∃a,i.xc C a/\PyProof.Rows.OwnCls (gu C) a [.type "ValueError",.type "Exception",.type "BaseException",.type "object"] "ValueError.__new__" mg base
 kn:T.xs≠[]->∀T',(T.xs.contains T'||T' == "ShutError")=eN->∃D,mg (gu T')=eL (.ref D)/\∀C a,i.xc C a->PySem.W.kitOne i.K (.ref a) (.ref D)=eL (gf.fW C T')/\(gf.fW C T'=eN->PySem.W.exmOne i.K (.ref a) (.ref D)=eL eN)
structure Held(pr:ß)(wd:ñ)(mg:Str->Option Â)(base:þ)(i:Inf)(P:gf.Pg)(T:Tb)(n:Nat):Prop where
 fs:∀f x,(f,x)∈T.fs->Dfo pr wd mg base i P n f
 ms:∀y a f,y∈T.ms->Mst i mg y a f->Dfm pr wd mg base i P n (y.C ++ "." ++ y.m) f
def fn_succ{x:Ds}{nm qual:Str}(M:Modu mg base i T)(hn:Held pr wd mg base i P T n)(F:Fun i.K nm qual x.st fa fd)(hP:P f=eL x.d)(ht:x.Ok T):fy pr wd i.K mg base (CX1 pr wd) (2*(n+1)) fa fd x.ps<|spF i P (n+1) f:=by
 obtain⟨ht,heq⟩:=ht;simp only[Ds.test,bAq,gm]at ht;obtain⟨⟨⟨⟨h1,h2⟩,h3⟩,h4⟩,h5⟩:=ht;have h3:=eq_of_beq h3;have h4:=eq_of_beq h4;have S:=LQ h1;refine F.ok1 (k:=2*n+1) S (λvs H Q E h=>?_) λϕ A outer s H vs Q E hr dZ hw=>?_
 .obtain⟨args,G,Qm,Em,r,g,w,_⟩:=h;obtain⟨d,e,q,_⟩:=Bj w;rw[hP]at e;cases e;rw[<-r.length,q,h3]
 .obtain⟨args,G,Qm,Em,r,g,w,cn,ex⟩:=dZ;obtain⟨d,e,q,w⟩:=Bj w;rw[hP]at e;cases e;have gd:Gs (JR (CX1 pr wd) pr wd i.K mg base x.N qual (Zf x.st) fa ϕ A outer s H E) i P n (T.md x) :=
   { K:=rfl,N:=rfl,sc:=rfl,nd:=S.nd,un:=(by have:=hr.un;show(A.deeper _).units+200<Ĩ;lia),calm:=λ_=>rfl,room:=λ_=>hr,bl:=M.bl
     dfs:=λg hg=>(by
       obtain⟨p,hy,e⟩:=Û.mp<|Ą.mp hg
       subst e
       exact hn.fs p.1 p.2 hy)
     cst:=M.cst
     kl:=⟨M.A,M.F,λC hC=>(by
       obtain⟨a,y,f,q1,q2,q3,q4,rfl,q6,q7⟩:=M.mkc C hC
       refine⟨a,f,q1,q2,q3,M.cl _ _ q2,?_⟩
       have:=hn.ms y a f q4 q7
       rw[q6]at this
       rwa [show y.C ++ ".__init__" = y.C ++ "." ++ "__init__" by rw[String.append_assoc];rfl]),λC m hC=>(by
       obtain⟨y,hy,e⟩:=Û.mp<|Ą.mp hC
       cases e
       obtain⟨a,f,q1,q2⟩:=M.ms y hy
       refine⟨a,f,λb hb=>?_,q2,q1.at_,hn.ms y a f hy q1⟩
       have e1:=M.cl _ _ hb
       rw[q1.cl]at e1
       cases e1
       rfl)⟩
     xl:=λh=>⟨M.xc h,M.rs h,M.kn h⟩
     fn:=λ_ _=>.inl rfl
     own:=λ_=>PassesOwn.leaving
     stk:=λ_=>rfl }
  have hb:=sSs x.d.body _ _ _ gd h2;rw[heq]at hb;refine⟨_,hb,?_⟩;refine⟨x.d.env args,G,(λ_ g=>Qm .non g),Qm,(λ_ _=>False),(λ_ _=>False),(λ_ c g=>Em c g),?_,w,?_⟩
  .refine⟨?_,g,?_⟩
   .have:=REn.start (n:=x.d.sz - x.d.ar) r;unfold L2.start;have e1:x.N.length - vs.length=x.d.sz - x.d.ar:=by rw[h4,<-r.length,q]
    rw[e1];exact this
   .intro Á σ H0 s0 H' a cls s' I fl hx;obtain⟨e,c,G',ad,q1,q2,q3,q4,q5⟩:=hx;exact hw Á σ H0 s0 H' a cls s' I fl<|ex _ _ _ ⟨c,G',ad,q1,q2,q3,q4,q5⟩
  .refine⟨?_,?_,?_,?_⟩
   .intro Ŝ Ś G' H' k g' e w';exact cn .non G' H' .non k g' .non w'
   .intro v G' H' y k g' rv w';exact cn v G' H' y k g' rv w'
   .intro _ _ _ _ _ _ _ z;exact z.elim
   .intro _ _ _ _ _ _ _ z;exact z.elim
def held_all(M:Modu mg base i T)(hP:∀f x,(f,x)∈T.fs->P f=eL x.d)(hPm:∀y,y∈T.ms->P (y.C ++ "." ++ y.m)=eL y.x.d)(ht:∀f x,(f,x)∈T.fs->x.Ok T)(htm:∀y,y∈T.ms->y.x.Ok T):∀n,Held pr wd mg base i P T n:=by
 intro n;induction n with
 |zero =>
  refine⟨λf x h=>?_,λy a f hy S=>?_⟩
  .obtain⟨fa,fd,qual,F,hm,hb⟩:=M.fs f x h;exact⟨fa,fd,x.ps,OQ,hm,F.kp,hb⟩
  .obtain⟨fd,F,hb⟩:=S.fn;exact⟨fd,y.x.ps,OQ,hb⟩
 |succ n ih =>
  refine⟨λf x h=>?_,λy a f hy S=>?_⟩
  .obtain⟨fa,fd,qual,F,hm,hb⟩:=M.fs f x h;exact⟨fa,fd,x.ps,fn_succ M ih F (hP f x h)<|ht f x h,hm,F.kp,hb⟩
  .obtain⟨fd,F,hb⟩:=S.fn;exact⟨fd,y.x.ps,fn_succ M ih F (hPm y hy)<|htm y hy,hb⟩
end Snd
namespace Hd
open PySem PySem.W PyProof.Rows
abbrev WO(st:SharedT->Thread->Option (SharedT×Thread))(ok th:Thread->Bool):Nat->SharedT->Thread->Option SharedT
 |0,_,_=>eM
 |n+1,s,t=>match th t with
  |true=>eL s
  |false=>match ok t with
   |false=>eM
   |true=>match st s t with
    |some (s',t')=>WO st ok th n s' t'
    |none=>eM
def JH{tb:String->Option Builtin}{p:Program}{w:World}{n₀:Nat}{ann:Option Value}:∀{n:Nat}{s s':SharedT}{t:Thread},WO (stepT (denote tb) p w) (stepOk n₀ ann) through n s t=eL s'->topRun tb p w n₀ ann n s.abs t=eL s'.abs
 |0,_,_,_,h=>by cases h
 |n+1,s,s',t,h=>by
  unfold WO at h;unfold topRun;cases ht:through t with
  |true=>rw[ht]at h;cases h;rfl
  |false =>
   rw[ht]at h;dsimp only at h ⊢;cases hk:stepOk n₀ ann t with
   |false=>rw[hk]at h;cases h
   |true =>
    rw[hk]at h;dsimp only at h ⊢;cases hs:stepT (denote tb) p w s t with
    |none=>rw[hs]at h;cases h
    |some r =>obtain⟨s2,t2⟩:=r;rw[hs]at h;rw[stepT_spec hs];exact JH h
abbrev JD(P:Params):BT :=
 .node (boot_o_0 P) (.node (boot_o_1 P) (.node (boot_o_3 P) (.node (boot_o_7 P) .nil .nil) .nil)<|.node (boot_o_5 P) (.node (boot_o_9 P) .nil .nil) .nil)
  (.node (boot_o_2 P) (.node (boot_o_4 P) (.node (boot_o_8 P) .nil .nil) .nil)<|.node (boot_o_6 P) (.node (boot_o_10 P) .nil .nil) .nil)
def AW(P:Params):absHeap (JD P) 11 {}=boot_heap P:=by kernel_rfl
def At(P:Params):((boot_heap P).isNs mainGlobals&&(Array.mk []:Array GenState).size==0,(boot_heap P).objs.size,(boot_heap P).nsMap mainGlobals "__annotations__")=(eN,11,eL<|.ref 6):=by
 rw[show @Heap.nsMap=_ from Fast.te8920871248978507458]
 kernel_rfl
abbrev Gr:=Fast.tw10156331382660048174
abbrev Ul:=Fast.tw11892475500146522536
abbrev Ch:=Fast.tw14364793385576792824
abbrev okY:=Fast.tw6613529449190102663
abbrev seenY:=Fast.tw4187177175401517315
abbrev modsY:=Fast.tw5923862056798008813
abbrev runY(p:Program)(N:Nat)(w:World)(os:OsState):Option SharedT:=WO (Gr (Ul Ch) p w) (okY 11<|eL<|.ref 6) through N ⟨JD w.params,11,{},Array.mk [],boot_drawn,boot_toks,os⟩<|topStub p
abbrev stY(p:Program)(w:World)(s:SharedT):Bool:=staticsOk (modsY p.main.body) (boot_heap w.params) s.abs.heap&&namesBound p s.abs.heap&&gensDone s.abs&&laidKept (boot_heap w.params) s.abs.heap
def left_of{p q:Program}{loose:List Str}{Xt:Shared->Bool}{α:Type}{Yf:Shared->α}{Ya:World->α}{N:Nat}(e:opening p=plainProg p.main.scope.names)(hN:Nat.ble 600 N=eN)(f:∀s,fenceModules? p s=eL s)
  (one:∀w os,(runY p N w os).map (stY p w)=eL eN) (two:∀w os,(runY p N w os).map (λs=>seenY q loose (modsY p.main.body) Xt eN s.abs)=eL (openGood q loose)) (three:∀w os,(runY p N w os).map (λs=>Yf s.abs)=eL (Ya w)) :
  LeftO p q loose Xt Yf Ya N:=by
 intro w;obtain⟨⟨h,gs,d,k,os⟩,e1,e2⟩:=Ò.mp<|boot_open e hN f w;obtain⟨rfl,rfl,rfl,rfl⟩:h=boot_heap w.params/\gs=Array.mk []/\d=boot_drawn/\k=boot_toks:=by simpa using e2
 obtain⟨s,r,l1⟩:=Ò.mp<|one w os;obtain⟨s',r',l2⟩:=Ò.mp<|two w os;cases r.symm.trans r';obtain⟨s',r',l3⟩:=Ò.mp<|three w os;cases r.symm.trans r';obtain⟨z1,z2,z3⟩:_/\_/\_:=by simpa only[Λ]using At w.params
 unfold stY at l1;unfold runY Gr Ul Ch okY at r;rw[<-Fast.te10156331382660048174,<-Fast.te11892475500146522536,<-Fast.te14364793385576792824,<-Fast.te6613529449190102663]at r;unfold modsY at l1 l2;unfold seenY at l2;rw[<-Fast.te5923862056798008813]at l1 l2;rw[<-Fast.te4187177175401517315]at l2;have r2:=JH r;have ea:(SharedT.mk (JD w.params) 11 {} (Array.mk []) boot_drawn boot_toks os).abs=⟨boot_heap w.params,Array.mk [],boot_drawn,boot_toks,os⟩:=by show Shared.mk (absHeap _ _ _) _ _ _ _=_;rw[AW]
 rw[ea]at r2;have t:topFrom treeTable p w N ⟨boot_heap w.params,Array.mk [],boot_drawn,boot_toks,os⟩=eL s.abs:=by unfold topFrom;dsimp only;rw[z1,z2,z3,r2];show(match staticsOk (importedModules p.main.body) (boot_heap w.params) s.abs.heap&&namesBound p s.abs.heap&&gensDone s.abs&&laidKept (boot_heap w.params) s.abs.heap with|true=>_|false=>_)=_;rw[l1]
 unfold openEnds;rw[e1];show(topFrom treeTable p w N _).map _=_;rw[t];exact congrArg eL<|Prod.ext l2 l3
end Hd
namespace Hd
open PySem PySem.W PyProof.Rows L2
abbrev KJ:Nat->List Obj->Frag
 |_,[]=>[]
 |i,o::r=>match o with
  |⟨_,_,.freed,_⟩=>KJ (i+1) r
  |o=>(i,o)::KJ (i+1) r
abbrev Zt(g:Heap):Frag:=KJ 0 g.objs.toList
def Nx:∀(l:List Obj) (i a:Nat) (o:Obj),(KJ i l).lookup a=eL o->i<=a/\l[a - i]?=eL o/\(match eL o with|some ⟨_,_,.freed,_⟩=>eM|o=>o)=eL o
 |[],_,_,_,h=>by cases h
 |x::r,i,a,o,h=>by
  have rec1:(KJ (i+1) r).lookup a=eL o->i<=a/\(x::r)[a - i]?=eL o/\(match eL o with|some ⟨_,_,.freed,_⟩=>eM|o=>o)=eL o:=λq=>by obtain⟨h1,h2,h3⟩:=Nx r (i+1) a o q;refine⟨by lia,?_,h3⟩;rw[show a - i=(a - (i+1))+1 by lia,bU];exact h2
  unfold KJ at h;split at h
  .exact rec1 h
  .rename_i c ž;rw[à]at h;split at h
   .rename_i e;cases h;have e:=eq_of_beq e;subst e;refine⟨Ì _,by rw[Nat.sub_self];rfl,?_⟩;split
    .rename_i d1 d2 d3 d4;cases d4;exact(ž _ _ _ rfl).elim
    .rfl
   .exact rec1 h
def N6{g:Heap}{a:Addr}{o:Obj}(h:(Zt g).lookup a=eL o):g.get? a=eL o:=by obtain⟨_,h2,h3⟩:=Nx _ _ _ _ h;unfold Heap.get?;rw[Nat.sub_zero,č]at h2;rw[h2];exact h3
abbrev Co(K:Frag)(nm:Str):Option<|FuncData×Bool×Bool:=match nsIn K mainGlobals nm with
 |some (eL<|.ref f)=>match K.lookup f with
  |some ⟨_,_,.func fd,_⟩=>eL ({fd with kwdefaults:=.none,doc:=.none,pyModule:=.none,annotations:=eM,code:=.none,closureTuple:=.none},codeIn K fd.code fd.qualname,keepIn K<|.ref f)
  |_=>eM
 |_=>eM
abbrev Bb(nm:Str)(st:Stmt):Option<|FuncData×Bool×Bool:=eL (fnOf nm nm (Yw st) (ZD st) (Zf st) .none .none .none .none eM .none .none,eN,eN)
def HW{K:Frag}{nm:Str}{st:Stmt}(e:Co K nm=Bb nm st):∃fa fd,Fun K nm nm st fa fd/\nsIn K mainGlobals nm=eL (eL<|.ref fa):=by
 unfold Co at e;split at e
 .rename_i f hf;split at e
  .rename_i oc od fd sl hl;simp only[Bb,Į,Λ]at e;obtain⟨e1,e2,e3⟩:=e;obtain⟨n1,n2,n3,n4,n5,n6,n7,n8,n9,n10,n11,n12,n13,n14,n15⟩:=fd;simp only[fnOf,FuncData.mk.injEq]at e1;obtain⟨rfl,rfl,rfl,rfl,rfl,rfl,rfl,rfl,-,-,-,-,-,-,rfl⟩:=e1;exact⟨f,_,AR hl e2 e3,hf⟩
  .cases e
 .cases e
abbrev F8(K:Frag)(y:Str):Bool:=match nsIn K mainGlobals y with
 |some eM=>eN
 |_=>eP
def Fh{l:OpenLaw}{n k:Nat}{q:Program}{loose:List Str}{XP:(Str->Option Value)->Heap->Prop}{YP:World->Heap->Prop}{d:DefRec}{CX:World->CXT}{x:Str}
  (hn:l.most=eL n) (hn2:n<=sizeLine) (hdf:d.params.defaults=[]) (hr:fx k callerA)
  (F:∀(w:World) (mg:Str->Option Value) (fa:Addr) (h:Heap),YP w h->h.Ns mainGlobals mg->mg d.name=eL (.ref fa)->∃(K:Frag) (sp:Sp),K.In h/\
    (∃fd:FuncData,(∀(s:Shared) (u:Value),BindsTo s fd ⟨[u],[]⟩ [(x,u)])/\∀base:Heap,K.In base->base.Ns mainGlobals mg->fy l.prog w K mg base (CX w) k fa fd [x] sp)/\
    ∀(H:Hp) (a:Addr) (ns:List Int),ns.length<=n->LE H->fX K H a (ns.map V.int)->sp [.ref a] H (λv _=>v=.bl eN) λ_ _ _=>False)
  (hCX:∀(w:World) (H:Hp) (s:Shared) (e:Value) (s':Shared),CX w [] H s (λ_ _ _=>False) e s'->False) :
  WalkO q loose XP YP l.row.toRowW d [] (λf vs=>PySem.call f vs):=by
 refine Att.attach_call hn hdf λw s₀ ğ mg mb fa o pm cd doc a vs ns G Y ho hd bo hmg dB hints Ē hg=>?_;obtain⟨K,sp,KX,⟨fd,hb,hF⟩,dZ⟩:=F w mg fa _ Y G.T.g hmg;exact Bu KX G.T.g G.T.b G.T.builtins G.T.nolimit hg dB hints (Ô Ē hn2) hr hF hb (λH hO hS=>dZ H a ns Ē hO hS) λH e s'=>hCX w H ğ e s'
abbrev Eo(f:Value->gf.Val->Bool):List Value->List gf.Val->Bool
 |[],[]=>eN
 |u::us,x::xs=>f u x&&Eo f us xs
 |_,_=>eP
abbrev Gm(K:Frag):Value->Option (List Value)
 |.ref a=>match K.lookup a with
  |some ⟨.type n,_,.seq us _,_⟩=>if n == "tuple" && gq (us.size<=sizeLine)then eL us.toList else eM
  |_=>eM
 |_=>eM
abbrev Eu(K:Frag):Nat->Value->gf.Val->Bool
 |0,_,_=>eP
 |n+1,u,v=>match v with
  |.non=>(match u with|.none=>eN|_=>eP)
  |.bl b=>(match u with|.bool a=>a==b|_=>eP)
  |.int j=>(match u with|.int i _=>i==j|_=>eP)
  |.str t=>(match u with|.str s _=>Fast.sEq s (gu t)|_=>eP)
  |.tup xs=>(match Gm K u with|some us=>Eo (Eu K n) us xs|none=>eP)
  |_=>eP
def Cg{K:Frag}{f:Value->gf.Val->Bool}(hf:∀u v,f u v=eN->∃z,RelV z u/\∀H,Snd.RV K H v z):∀(us:List Value) (xs:List gf.Val),Eo f us xs=eN->∃zs,fZ zs us/\∀H,Snd.RVs K H xs zs
 |[],[],_=>⟨[],.nil,λ_=>.nil⟩
 |u::us,x::xs,h=>by rw[Eo,bAq]at h;obtain⟨z,r,q⟩:=hf u x h.1;obtain⟨zs,rs,qs⟩:=Cg hf us xs h.2;exact⟨z::zs,.cons r rs,λH=>.cons (q H)<|qs H⟩
 |[],_::_,h=>by cases h
 |_::_,[],h=>by cases h
def AS{K:Frag}:∀(n:Nat) (u:Value) (v:gf.Val),Eu K n u v=eN->∃z,RelV z u/\∀H,Snd.RV K H v z
 |0,_,_,h=>by cases h
 |n+1,u,v,h=>by
  unfold Eu at h;cases v with
  |non =>
   dsimp only at h;split at h
   .exact⟨.non,rfl,λ_=>.non⟩
   .cases h
  |bl b =>
   dsimp only at h;split at h
   .cases eq_of_beq h;exact⟨.bl b,rfl,λ_=>.bl b⟩
   .cases h
  |int j =>
   dsimp only at h;split at h
   .cases eq_of_beq h;exact⟨.int j,⟨_,rfl⟩,λ_=>.int j⟩
   .cases h
  |str t =>
   dsimp only at h;split at h
   .cases Fast.sEq_iff.mp h;exact⟨.str<|gu t,⟨_,rfl⟩,λ_=>.str t⟩
   .cases h
  |tup xs =>
   dsimp only at h;split at h
   .rename_i us hu;obtain⟨zs,rs,qs⟩:=Cg (λu v=>AS n u v) us xs h;unfold Gm at hu;split at hu
    .rename_i a;split at hu
     .rename_i nm od ò k sl hl;split at hu
      .rename_i hc;rw[bAq,gm]at hc;cases eq_of_beq hc.1;cases hu;exact⟨.ref a,rfl,λH=>.tup (.inr ⟨_,ò,k,hl,rfl,rfl,hc.2,rs⟩)<|qs H⟩
      .cases hu
     .cases hu
    .cases hu
   .cases h
  |ref a=>cases h
  |scr ns=>cases h
  |key i j=>cases h
abbrev BF(K:Frag)(p:String×gf.Val):Bool:=match nsIn K mainGlobals (gu p.1)with
 |some (eL u)=>Eu K 4 u p.2
 |_=>eP
def W7{α β:Type}[BEq α][LawfulBEq α]{a:α}{b:β}:∀{l:List (α×β)},l.lookup a=eL b->(a,b)∈l
 |[],h=>by cases h
 |(x,y)::r,h=>by
  rw[à]at h;split at h
  .rename_i e;cases h;cases eq_of_beq e;exact .head _
  .exact .tail _<|W7 h
def IM{K:Frag}{mg:Str->Option Value}{h:Heap}{x:Str}{C:Addr}{bmB:List Value}{id:String}(X:K.In h)(hm:mg x=eL (.ref C))(q:excIn K C bmB id=eN):PyProof.Rows.OwnCls x C bmB id mg h:=by
 constructor
 .exact hm
 have z:=q;unfold excIn at z;split at z
 next dd cd sl ho =>
  split at z
  next C1 bm k0 k1 k2 k3 n k5 em es =>
   rw[bAq,bAq,bAq,bAq,bAq]at z;obtain⟨⟨⟨⟨⟨z1,z2⟩,z3⟩,z4⟩,z5⟩,z6⟩:=z;have z1:=eq_of_beq z1;have z2:=eq_of_beq z2;have z6:=eq_of_beq z6;subst z1 z2;have z3b:cd.hasDel=eP:=by
    cases e:cd.hasDel with
    |false=>rfl
    |true=>rw[e]at z3;cases z3
   have es':sl=#[k0,k1,k2,k3,eL<|.builtin n,k5]:=ez.mp es;have nN:=nsMap_none_of_in X z5 z6;have nI:=Heap.Ns.of_isNs<|isNs_of_in X z5;have tI:=tail_of_in X z4;cases cd;dsimp only at em z3b nN nI;subst em z3b es';exact⟨bm,_,_,_,_,_,_,_,_,_,dd,k0,k1,k2,k3,k5,_,X _ _ ho,nI,nN,tI⟩
  next=>cases z
 next=>cases z
abbrev Ln(K:Frag)(f:Addr):Option<|FuncData×Bool×Bool:=match K.lookup f with
 |some ⟨_,_,.func fd,_⟩=>eL ({fd with kwdefaults:=.none,doc:=.none,pyModule:=.none,annotations:=eM,code:=.none,closureTuple:=.none},codeIn K fd.code fd.qualname,keepIn K<|.ref f)
 |_=>eM
abbrev OF(nm qual:Str)(st:Stmt):Option<|FuncData×Bool×Bool:=eL (fnOf nm qual (Yw st) (ZD st) (Zf st) .none .none .none .none eM .none .none,eN,eN)
def Hk{K:Frag}{nm qual:Str}{st:Stmt}{f:Addr}(e:Ln K f=OF nm qual st):∃fd,Fun K nm qual st f fd:=by
 unfold Ln at e;split at e
 .rename_i oc od fd sl hl;simp only[OF,Į,Λ]at e;obtain⟨e1,e2,e3⟩:=e;obtain⟨n1,n2,n3,n4,n5,n6,n7,n8,n9,n10,n11,n12,n13,n14,n15⟩:=fd;simp only[fnOf,FuncData.mk.injEq]at e1;obtain⟨rfl,rfl,rfl,rfl,rfl,rfl,rfl,rfl,-,-,-,-,-,-,rfl⟩:=e1;exact⟨_,AR hl e2 e3⟩
 .cases e
abbrev Js(K:Frag)(C:String):Option Addr:=match nsIn K mainGlobals (gu C)with
 |some (eL<|.ref a)=>eL a
 |_=>eM
variable {C:String} {a:Addr}
def WC{K:Frag}(h:Js K C=eL a):nsIn K mainGlobals (gu C)=eL (eL<|.ref a):=by
 unfold Js at h;split at h
 .cases h;assumption
 .cases h
structure CV where
 pg:Bool
 hd:Bool
 po:Bool
 sa:Option<|Option Value
abbrev Fg(K:Frag)(a:Addr):CV:=⟨plainGet K a Str.empty,hasDictIn K a,plainOver K a,findIn K (.ref a) "__setattr__"⟩
abbrev Uu:CV:=⟨eN,eN,eN,eL<|eL<|.builtin "object.__setattr__"⟩
def CI{K:Frag}(h:Fg K a=Uu):Cls K a:=by simp only[Fg,Uu,CV.mk.injEq]at h;exact⟨h.1,h.2.1,h.2.2.1,h.2.2.2⟩
structure MV where
 fn:Option<|FuncData×Bool×Bool
 isf:Bool
 cv:CV
abbrev A0(K:Frag)(y:Snd.Mt):Option MV:=match Js K y.C with
 |some a=>match findIn K (.ref a) (gu y.m)with
  |some (eL<|.ref f)=>eL ⟨Ln K f,isFn K<|.ref f,Fg K a⟩
  |_=>eM
 |none=>eM
abbrev CU(y:Snd.Mt):Option MV:=eL ⟨OF (gu y.m) (gu y.qual) y.x.st,eN,Uu⟩
def LP{K:Frag}{y:Snd.Mt}(e:A0 K y=CU y):∃a f fd,nsIn K mainGlobals (gu y.C)=eL (eL<|.ref a)/\Fun K (gu y.m) (gu y.qual) y.x.st f fd/\Meth K a (gu y.m) f/\Cls K a:=by
 unfold A0 at e;split at e
 .rename_i a ha;split at e
  .rename_i f hf;simp only[CU,Į,MV.mk.injEq]at e;obtain⟨e1,e2,e3⟩:=e;obtain⟨fd,F⟩:=Hk e1;exact⟨a,f,fd,WC ha,F,⟨hf,e2,F.kp⟩,CI e3⟩
  .cases e
 .cases e
structure QV where
 mks:Bool
 kp:Bool
 cv:CV
 fl:List<|Option<|Option Value
 ic:Option (Option Value)×Option (Option Value)×Option Bool×Option Bool
abbrev B5(K:Frag)(fl:List String)(C:String):Option QV:=match Js K C with
 |some a=>eL ⟨makesIn K a,keepIn K<|.ref a,Fg K a,fl.map λf=>findIn K (.ref a)<|gu f,(findIn K (.ref a) "__class__",specialIn K (.builtin "object.__class__") "__get__",takesIn K<|.builtin "object.__class__",mroIn K a<|.type "object")⟩
 |none=>eM
abbrev Cw(fl:List String):Option QV:=eL ⟨eN,eN,Uu,fl.map λ_=>eL eM,(eL<|eL<|.builtin "object.__class__",eL<|eL<|.builtin "getset_descriptor.__get__",eL eN,eL eN)⟩
def Go{K:Frag}{fl:List String}(e:B5 K fl C=Cw fl):∃a,nsIn K mainGlobals (gu C)=eL (eL<|.ref a)/\makesIn K a=eN/\keepIn K (.ref a)=eN/\Cls K a/\(∀f∈fl,NoAttr K a<|gu f)/\Snd.IC K a:=by
 unfold B5 at e;split at e
 .rename_i a ha;simp only[Cw,Į,QV.mk.injEq,Λ]at e;obtain⟨e1,e2,e3,e4,e5,e6,e7,e8⟩:=e;exact⟨a,WC ha,e1,e2,CI e3,λf hf=>Ģ.mp e4 f hf,⟨e5,e6,e7,e8⟩⟩
 .cases e
structure XV where
 ex:Bool
 f1:Option<|Option Value
 f2:Option<|Option Value
 f3:Option<|Option Value
 m1:Option Bool
 m2:Option Bool
 ci:Bool
 ve:Option Bool
 ks:List<|Option<|Option Bool×Option Bool
abbrev B3(K:Frag)(xs:List String)(C:String):Option XV:=match Js K C with
 |some a=>eL ⟨excIn K a [.type "ValueError",.type "Exception",.type "BaseException",.type "object"] "ValueError.__new__",findIn K (.ref a) "__getattribute__",findIn K (.ref a) "__getattr__",findIn K (.ref a) "__class__",mroIn K a<|.type "object",mroIn K a<|.type "BaseException",(clsIn K a).isSome,kitOne K (.ref a)<|.type "ValueError",("ShutError" :: xs).map λT=>(Js K T).map λD=>(kitOne K (.ref a)<|.ref D,exmOne K (.ref a)<|.ref D)⟩
 |none=>eM
abbrev BB(xs:List String)(C:String):Option XV:=eL ⟨eN,eL<|eL<|.builtin "BaseException.__getattribute__",eL eM,eL<|eL<|.builtin "object.__class__",eL eN,eL eN,eN,eL eN,("ShutError" :: xs).map λT=>eL (eL<|gf.fW C T,eL<|gf.fW C T)⟩
def Cu{K:Frag}{xs:List String}(e:B3 K xs C=BB xs C):∃a,nsIn K mainGlobals (gu C)=eL (eL<|.ref a)/\excIn K a [.type "ValueError",.type "Exception",.type "BaseException",.type "object"] "ValueError.__new__" = eN/\XCls K a/\kitOne K (.ref a) (.type "ValueError")=eL eN/\
  ∀T∈"ShutError" :: xs,∃D,nsIn K mainGlobals (gu T)=eL (eL<|.ref D)/\kitOne K (.ref a) (.ref D)=eL (gf.fW C T)/\exmOne K (.ref a) (.ref D)=eL (gf.fW C T):=by
 unfold B3 at e;split at e
 .rename_i a ha;simp only[BB,Į,XV.mk.injEq]at e;obtain⟨e1,e2,e3,e4,e5,e6,e7,e8,e9⟩:=e;refine⟨a,WC ha,e1,⟨e2,e3,e4,e5,e6,e7⟩,e8,λT hT=>?_⟩;have:=Ģ.mp e9 T hT;cases z:Js K T with
  |none=>rw[z]at this;cases this
  |some D =>rw[z]at this;simp only[Ŕ,Į,Λ]at this;exact⟨D,WC z,this.1,this.2⟩
 .cases e
structure View where
 fs:List<|Option<|FuncData×Bool×Bool
 ms:List<|Option MV
 cl:List<|Option QV
 xs:List<|Option XV
 ok:Bool
abbrev view(T:Snd.Tb)(K:Frag):View:=⟨T.fs.map λp=>Co K<|gu p.1,T.ms.map<|A0 K,T.cl.map<|B5 K T.fl,T.xs.map<|B3 K T.xs,T.cs.all (BF K)&&Snd.blts.all (F8 K)⟩
abbrev due(T:Snd.Tb):View:=⟨T.fs.map λp=>Bb (gu p.1) p.2.st,T.ms.map CU,T.cl.map λ_=>Cw T.fl,T.xs.map<|BB T.xs,eN⟩
abbrev hook(T:Snd.Tb):Hook where
 α:=View
 obs:=λs=>view T<|Zt s.heap
 val:=λ_=>due T
 says:=λ_ h=>∃g:Heap,view T (Zt g)=due T/\∀b o,g.get? b=eL o->h.get? b=eL o
 of:=λ_ s e=>⟨s.heap,e,λ_ _ x=>x⟩
 keeps:=λ_ _ _ ⟨g,e,k⟩ k2=>⟨g,e,λb o x=>k2 b o<|k b o x⟩
abbrev Bd(nm qual:Str)(x:Snd.Ds):Prop:=∀(kV doc pm:Value) (an:Option Addr) (ϕ ct:Value) (us:List Value),us.length=x.ps.length->bindArgs (fnOf nm qual (Yw x.st) (ZD x.st) (Zf x.st) .none kV doc pm an ϕ ct) ⟨us,[]⟩=pure (x.ps.zip us)
abbrev FW(T:Snd.Tb):Bool:=T.cl.all λC=>T.ms.any λy=>y.C==C&&y.m == "__init__"
def law_walk{l:OpenLaw}{q:Program}{loose:List Str}{XP:(Str->Option Value)->Heap->Prop}{d:DefRec}{T:Snd.Tb}{pg:gf.Pg}{k:Nat}{xl:Snd.Ds}
  (hn:l.most=eL 63) (hdf:d.params.defaults=[]) (hdn:d.name=gu "law") (hr:fx (2*(k+1)) callerA) (hlaw:("law",xl)∈T.fs) (hps:xl.ps=[gu "script"]) (hin:FW T=eN)
  (tab_pg:∀f x,(f,x)∈T.fs->pg f=eL x.d) (tab_pm:∀y,y∈T.ms->pg (y.C ++ "." ++ y.m)=eL y.x.d) (tab_ok:∀f x,(f,x)∈T.fs->x.Ok T) (tab_om:∀y,y∈T.ms->y.x.Ok T)
  (tab_bd:∀f x,(f,x)∈T.fs->Bd (gu f) (gu f) x) (tab_bm:∀y,y∈T.ms->Bd (gu y.m) (gu y.qual) y.x)
  (ok:∀ns:List Int,ns.length<=63->gf.wF pg (k+1) "law" [.scr ns] (λ_=>eM) (λv _=>v=.bl eN) λ_ _=>False) :
  WalkO q loose XP (hook T).says l.row.toRowW d [] (λf vs=>PySem.call f vs):=by
 refine Fh (n:=63) (k:=2*(k+1)) (x:=gu "script") (CX:=λw=>CX1 l.prog w) hn (by decide) hdf hr (λw mg fa h Y G hmg=>?_) λ_ _ _ _ _ ⟨_,_,_,_,_,z⟩=>z;obtain⟨g,e,keep⟩:=Y;have X:(Zt g).In h:=λa o z=>keep a o<|N6 z;simp only[view,due,View.mk.injEq]at e;obtain⟨e1,e3,e4,e5,e2⟩:=e;rw[bAq,Ć,Ć]at e2
 let i:Snd.Inf:=⟨Zt g,λC a=>T.cl.contains C=eN/\mg (gu C)=eL (.ref a),λC=>T.cl.contains C,λC a=>T.xs.contains C=eN/\mg (gu C)=eL (.ref a)⟩
 have hF:∀f x,(f,x)∈T.fs->∃fa fd,Fun (Zt g) (gu f) (gu f) x.st fa fd/\mg (gu f)=eL (.ref fa):=λf x hx=>by obtain⟨fa,fd,F,z⟩:=HW<|Ģ.mp e1 (f,x) hx;exact⟨fa,fd,F,mg_of X G z⟩
 have aD:∀C a,i.cl C a->makesIn (Zt g) a=eN/\keepIn (Zt g) (.ref a)=eN/\Cls (Zt g) a/\(∀f∈T.fl,NoAttr (Zt g) a<|gu f)/\Snd.IC (Zt g) a:=λC a ⟨hc,hm⟩=>by obtain⟨b,z,q⟩:=Go<|Ģ.mp e4 C<|Ą.mp hc;have:=mg_of X G z;rw[hm]at this;cases this;exact q
 have hms:∀y,y∈T.ms->∃a f,Snd.Mst i mg y a f/\Cls i.K a:=λy hy=>by obtain⟨a,f,fd,z,F,M,A⟩:=LP<|Ģ.mp e3 y hy;exact⟨a,f,⟨mg_of X G z,⟨fd,F,F.binds<|tab_bm y hy⟩,M⟩,A⟩
 have hxc:∀C a,i.xc C a->excIn (Zt g) a [.type "ValueError",.type "Exception",.type "BaseException",.type "object"] "ValueError.__new__" = eN/\XCls (Zt g) a/\kitOne (Zt g) (.ref a) (.type "ValueError")=eL eN/\
   ∀T'∈"ShutError" :: T.xs,∃D,nsIn (Zt g) mainGlobals (gu T')=eL (eL<|.ref D)/\kitOne (Zt g) (.ref a) (.ref D)=eL (gf.fW C T')/\exmOne (Zt g) (.ref a) (.ref D)=eL (gf.fW C T'):=λC a ⟨hc,hm⟩=>by
  obtain⟨b,z,q⟩:=Cu<|Ģ.mp e5 C<|Ą.mp hc;have:=mg_of X G z;rw[hm]at this;cases this;exact q
 have mod:∀base:Heap,(Zt g).In base->Snd.Modu mg base i T:=λbase Xb =>
  { bl:=λy hy=>by
      have:=e2.2 y hy
      unfold F8 at this
      split at this
      . rename_i z;exact mg_none_of X G z
      . cases this
    cst:=λy v hv=>by
      have:=e2.1 _<|W7 hv
      unfold BF at this
      split at this
      . rename_i u z
        obtain⟨x,r,rv⟩:=AS 4 u v this
        exact⟨u,x,mg_of X G z,r,rv⟩
      . cases this
    A:=⟨λC a _ z=>(aD C a z).2.2.1,λC a z=>(aD C a z).2.2.2.2,λC a b z y=>by have:=z.2.symm.trans y.2;cases this;rfl⟩
    F:=λf hf=>⟨λC a z=>(aD C a z).2.2.2.1 f<|Ą.mp hf⟩
    cl:=λC a z=>z.2
    mkc:=λC hC=>by
      obtain⟨a,z,_⟩:=Go<|Ģ.mp e4 C<|Ą.mp hC
      have hi:i.cl C a:=⟨hC,mg_of X G z⟩
      obtain⟨y,hy,e⟩:=ſ.mp<|Ć.mp hin C<|Ą.mp hC
      rw[bAq]at e
      obtain⟨b,f,S,A⟩:=hms y hy
      have h1:=eq_of_beq e.1
      have h2:=eq_of_beq e.2
      have hb:=S.cl
      rw[h1,hi.2]at hb
      cases hb
      refine⟨a,y,f,hC,hi,⟨(aD C a hi).1,?_,S.at_.fn,(aD C a hi).2.1⟩,hy,h1,h2,S⟩
      have:=S.at_.at_
      rw[h2]at this
      exact this
    fs:=λf x hx=>by
      obtain⟨fa,fd,F,m⟩:=hF f x hx
      exact⟨fa,fd,_,F,m,F.binds<|tab_bd f x hx⟩
    ms:=hms
    xc:=λ_ C a z=>⟨(hxc C a z).2.1,(hxc C a z).2.2.1⟩
    rs:=λ_ C hC=>by
      obtain⟨a,z,q1,_⟩:=Cu<|Ģ.mp e5 C<|Ą.mp hC
      exact⟨a,⟨hC,mg_of X G z⟩,IM Xb (mg_of X G z) q1⟩
    kn:=λž T' hT=>by
      have hT2:T'∈"ShutError" :: T.xs:=by
        rcases (Bool.or_eq_true ..).mp hT with z|z
        . exact .tail _<|Ą.mp z
        . cases eq_of_beq z;exact .head _
      obtain⟨C0,hC0⟩:=List.exists_mem_of_ne_nil _ ž
      obtain⟨a0,z0,_,_,_,q0⟩:=Cu<|Ģ.mp e5 C0 hC0
      obtain⟨D,zD,_⟩:=q0 T' hT2
      refine⟨D,mg_of X G zD,λC a z=>?_⟩
      obtain⟨D2,z2,k1,k2⟩:=(hxc C a z).2.2.2 T' hT2
      rw[zD]at z2
      cases z2
      exact⟨k1,λe=>by rw[k2,e]⟩ }
 obtain⟨fl,fd,F,m⟩:=hF "law" xl hlaw;have ef:=hmg.symm.trans<|hdn▸m;cases ef;refine⟨Zt g,Snd.spF i pg (k+1) "law",X,⟨fd,λs u=>?_,λbase Xb _=>?_⟩,λH a ns hl hO hS=>?_⟩
 .have B:=F.ex;obtain⟨oc,od,kV,dc,pm,an,ϕ,ct,sl,rfl,lk,bo⟩:=B;have:=tab_bd "law" xl hlaw kV dc pm an ϕ ct [u] (by rw[hps];rfl);rw[hps]at this;exact .of_eq this
 .have M:=mod base Xb;have:=Snd.fn_succ (i:=i) (pr:=l.prog) (wd:=w) (base:=base) (mg:=mg) (P:=pg) (n:=k) M (Snd.held_all M tab_pg tab_pm tab_ok tab_om k) F (tab_pg "law" xl hlaw)<|tab_ok "law" xl hlaw;rw[hps]at this;exact this
 .refine⟨[.scr ns],λ_=>eM,λv _=>v=.bl eN,λ_ _=>False,.cons (.scr ?_) .nil,λ_ _ e=>(by cases e),ok ns hl,?_,?_⟩
  .rcases hS with(h|⟨o,h⟩)|h
   .rcases hO a with z|⟨o,xs,z⟩
    .rw[h]at z;cases z
    .rw[h]at z;cases z
   .exact .inl ⟨o,h⟩
   .exact .inr h
  .intro v G' H' x _ _ r e;subst e;exact r.bl_inv
  .rintro cls d H' ⟨_,_,_,_,_,_,_,z⟩;exact z
end Hd
set_option maxRecDepth 20000
set_option maxHeartbeats 2000000
namespace gf
local macro_rules|`(#[$x])=>`(.cons $x .nil)|`(#[$x,$y,*])=>`(.cons $x #[$y,*])
@[reducible] noncomputable def B0(P:Pg)(n:Nat)(d:Fn)(e:Env)(h:Hs)(Q:Q1)(X:XQ):Prop:=wSs (wF P n) d.body e h (λ_ g=>Q .non g) Q (λ_ _=>False) (λ_ _=>False) λ_ c g=>X c g
variable {P:Pg}{n:Nat}{a0 a1 a2 a3 a4 a5 a6 a7:Val}{h:Hs}{Q:Q1}{X:XQ}
local macro_rules|`(↑$n:num)=>`(.cst (.int $n))
local macro_rules|`(⇑$n:num)=>`(.var $n)
noncomputable abbrev SW:Fn:={ar:=1,sz:=1,body:=#[.ret<|.and (.bi (.isi ["int"]) #[⇑0])<|.not<|.bi (.isi ["bool"]) #[⇑0]]}
noncomputable abbrev SS:Fn:={ar:=2,sz:=5,body:=#[.set (.one 2)<|.lst .nil,.for (.many [3,4]) (.enum<|.idx ⇑0 ↑1) #[.ite (.val<|.cmp .isin ⇑1<|.slc ⇑4 .none<|.some ↑2) #[.expr<|.bm .append ⇑2 #[.tup #[⇑3,.call "far_end" #[⇑4,⇑1],.idx ⇑4 ↑2]]] .nil],.ret ⇑2]}
noncomputable abbrev SX:Fn:={ar:=2,sz:=2,body:=#[.ret<|.ife (.val<|.cmp .eq (.idx ⇑0 ↑0) ⇑1) (.idx ⇑0 ↑1)<|.idx ⇑0 ↑0]}
noncomputable abbrev SY:Fn:={ar:=2,sz:=3,body:=#[.set (.one 2)<|.comp [0] 1 (.one 0) (.seq ⇑1) (.val<|.cmp .lt (.idx ⇑0 ↑0) ⇑1) ⇑0,.ret<|.bi .minD #[⇑2]]}
noncomputable abbrev RW:Fn:={ar:=5,sz:=8,body:=#[.setFld ⇑0 "number" ⇑1,.setFld ⇑0 "life" ⇑2,.setFld ⇑0 "age_let_go" ⇑4,.setFld ⇑0 "ties_by_place"<|.dct .nil,.for (.many [5,6,7]) (.seq ⇑3) #[.setIdx (.fld ⇑0 "ties_by_place") ⇑5<|.tup #[⇑6,⇑7]],.setFld ⇑0 "held_by_place"<|.dct .nil,.setFld ⇑0 "label_now"<|.tup #[⇑1,↑0,.cst .non,.cst .non],.setFld ⇑0 "version" ↑0,.setFld ⇑0 "ticks_had" ↑0]}
noncomputable abbrev RK:Fn:={ar:=1,sz:=1,body:=#[.ret<|.fld ⇑0 "label_now"]}
noncomputable abbrev RC:Fn:={ar:=1,sz:=1,body:=#[.ret<|.tup #[.fld ⇑0 "life",.fld ⇑0 "version"]]}
noncomputable abbrev RX:Fn:={ar:=2,sz:=2,body:=#[.ret<|.bm .dget (.fld ⇑0 "held_by_place") #[⇑1]]}
noncomputable abbrev RF:Fn:={ar:=4,sz:=4,body:=#[.ite (.val<|.cmp .notin ⇑1<|.fld ⇑0 "ties_by_place") #[.setIdx (.fld ⇑0 "ties_by_place") ⇑1<|.tup #[⇑2,⇑3]] .nil]}
noncomputable abbrev RZ:Fn:={ar:=2,sz:=2,body:=#[.expr<|.bm .dpopD (.fld ⇑0 "ties_by_place") #[⇑1,.cst .non],.expr<|.bm .dpopD (.fld ⇑0 "held_by_place") #[⇑1,.cst .non]]}
noncomputable abbrev RE:Fn:={ar:=1,sz:=2,body:=#[.expr<|.meth "Bridge" "let_grow_older" ⇑0 .nil,.expr<|.meth "Bridge" "take_label" ⇑0 #[.meth "Bridge" "reckon_label" ⇑0 .nil],.set (.one 1)<|.comp [0] 1 (.one 0) (.seq<|.bi .sortedI #[.fld ⇑0 "ties_by_place"]) .yes<|.tup #[⇑0,.meth "Bridge" "letter_over" ⇑1 #[⇑0]],.augFld ⇑0 "ticks_had" .add 1,.ret ⇑1]}
noncomputable abbrev RM:Fn:={ar:=1,sz:=4,body:=#[.set (.one 1)<|.dct .nil,.forI eP (.many [2,3]) (.fld ⇑0 "held_by_place") #[.never],.setFld ⇑0 "held_by_place" ⇑1]}
noncomputable abbrev RU:Fn:={ar:=1,sz:=8,body:=#[.set (.one 1)<|.lst .nil,.forI eP (.many [2,3]) (.fld ⇑0 "held_by_place") #[.never,.never],.set (.one 6)<|.call "best_offer" #[.fld ⇑0 "number",⇑1],.ite (.val<|.cmp .is ⇑6<|.cst .non) #[.ret<|.tup #[.fld ⇑0 "number",↑0,.cst .non,.cst .non]] .nil,.never,.never]}
noncomputable abbrev RD:Fn:={ar:=2,sz:=2,body:=#[.ite (.val<|.cmp .ne ⇑1<|.fld ⇑0 "label_now") #[.never,.never] .nil]}
noncomputable abbrev RN:Fn:={ar:=2,sz:=8,body:=#[.set (.many [2,3,4,5])<|.fld ⇑0 "label_now",.set (.one 6)<|.ife (.val<|.cmp .is ⇑4<|.cst .non) ↑0<|.bin .add (.idx (.idx (.fld ⇑0 "held_by_place") ⇑4) ↑1) ↑1,.set (.one 7)<|.tup #[.tup #[.fld ⇑0 "life",.fld ⇑0 "ticks_had"],.meth "Bridge" "stamp" ⇑0 .nil,⇑2,⇑3,⇑6],.ite (.val<|.cmp .eq ⇑1 ⇑4) #[.never] .nil,.ite (.val<|.meth "Bridge" "is_rested_on" ⇑0 #[⇑1]) #[.never] .nil,.ret<|.bin .add ⇑7<|.tup #[.cst .non,.cst .non]]}
noncomputable abbrev RJ:Fn:={ar:=2,sz:=3,body:=#[.set (.one 2)<|.meth "Bridge" "held" ⇑0 #[⇑1],.ret<|.and (.cmp .isnot ⇑2<|.cst .non)<|.cmp .eq (.idx (.idx ⇑2 ↑0)<|.glob "RESTS"<|.int 5)<|.meth "Bridge" "stamp" ⇑0 .nil]}
noncomputable abbrev RY:Fn:={ar:=2,sz:=2,body:=#[.ite (.val<|.cmp .notin ⇑1<|.fld ⇑0 "ties_by_place") #[.ret<|.cst<|.str "down"] .nil,.ite (.val<|.cmp .eq ⇑1<|.idx (.fld ⇑0 "label_now") ↑2) #[.never] .nil,.ret<|.ife (.val<|.meth "Bridge" "is_rested_on" ⇑0 #[⇑1]) (.cst<|.str "parent")<|.cst<|.str "shut"]}
noncomputable abbrev R4:Fn:={ar:=3,sz:=4,body:=#[.setFld ⇑0 "net_made_of" ⇑1,.setFld ⇑0 "greatest_age" ⇑2,.setFld ⇑0 "lives"<|.dct .nil,.setFld ⇑0 "standing"<|.dct .nil,.setFld ⇑0 "ties_fallen"<|.dct .nil,.setFld ⇑0 "letters_on_road"<|.lst .nil,.for (.one 3) (.seq<|.idx ⇑1 ↑0) #[.setIdx (.fld ⇑0 "lives") ⇑3 ↑0,.setIdx (.fld ⇑0 "standing") ⇑3<|.make "Bridge" #[⇑3,↑0,.call "neighbours" #[⇑1,⇑3],⇑2]]]}
noncomputable abbrev R6:Fn:={ar:=1,sz:=1,body:=#[.ret<|.bi .list #[.fld ⇑0 "letters_on_road"]]}
noncomputable abbrev RQ:Fn:={ar:=1,sz:=2,body:=#[.set (.one 1)<|.comp [0] 1 (.one 0) (.seq<|.idx (.fld ⇑0 "net_made_of") ↑0) (.val<|.cmp .notin ⇑0<|.fld ⇑1 "standing") ⇑0,.ret<|.tup #[.bi .tuple #[⇑1],.bi .tuple #[.bi .sortedI #[.fld ⇑0 "ties_fallen"]]]]}
noncomputable abbrev R5:Fn:={ar:=1,sz:=1,body:=#[.ret<|.comp [0] 1 (.one 0) (.seq<|.bi .sortedI #[.fld ⇑0 "standing"]) .yes<|.tup #[⇑0,.meth "Bridge" "label" (.idx (.fld ⇑1 "standing") ⇑0) .nil]]}
noncomputable abbrev R9:Fn:={ar:=1,sz:=1,body:=#[.ret<|.comp [0] 1 (.one 0) (.seq<|.bi .sortedI #[.fld ⇑0 "standing"]) .yes<|.tup #[⇑0,.meth "Bridge" "stamp" (.idx (.fld ⇑1 "standing") ⇑0) .nil]]}
noncomputable abbrev RL:Fn:={ar:=2,sz:=2,body:=#[.ret<|.bm .dget (.fld ⇑0 "standing") #[⇑1]]}
noncomputable abbrev RT:Fn:={ar:=2,sz:=5,body:=#[.ite (.not<|.val<|.meth "Yard" "has_tie" ⇑0 #[⇑1]) #[.ret<|.tup #[.cst<|.str "down",.cst<|.str "down"]] .nil,.set (.many [2,3,4])<|.idx (.idx (.fld ⇑0 "net_made_of") ↑1) ⇑1,.ret<|.tup #[.meth "Yard" "end_at" ⇑0 #[⇑2,⇑1],.meth "Yard" "end_at" ⇑0 #[⇑3,⇑1]]]}
noncomputable abbrev RS:Fn:={ar:=3,sz:=3,body:=#[.ite (.val<|.cmp .notin ⇑1<|.fld ⇑0 "standing") #[.ret<|.cst<|.str "down"] .nil,.ret<|.meth "Bridge" "end" (.idx (.fld ⇑0 "standing") ⇑1) #[⇑2]]}
noncomputable abbrev R3:Fn:={ar:=2,sz:=2,body:=#[.ret<|.chain .le .lt ↑0 ⇑1<|.bi .len #[.idx (.fld ⇑0 "net_made_of") ↑1]]}
noncomputable abbrev RP:Fn:={ar:=2,sz:=4,body:=#[.set (.many [2,3])<|.call "read_deed" #[⇑1],.ite (.val<|.cmp .eq ⇑2<|.tup #[.cst<|.str "tick"]) #[.expr<|.meth "Yard" "tick_of" ⇑0 #[⇑3]] #[.ite (.val<|.cmp .eq ⇑2<|.tup #[.cst<|.str "come"]) #[.never] #[.ite (.val<|.cmp .eq ⇑2<|.tup #[.cst<|.str "lost"]) #[.never] #[.ite (.val<|.cmp .eq ⇑2<|.tup #[.cst<|.str "fall",.cst<|.str "bridge"]) #[.expr<|.meth "Yard" "fall_of_bridge" ⇑0 #[⇑3]] #[.ite (.val<|.cmp .eq ⇑2<|.tup #[.cst<|.str "fall",.cst<|.str "tie"]) #[.expr<|.meth "Yard" "fall_of_tie" ⇑0 #[⇑3]] #[.ite (.val<|.cmp .eq ⇑2<|.tup #[.cst<|.str "back",.cst<|.str "bridge"]) #[.expr<|.meth "Yard" "back_of_bridge" ⇑0 #[⇑3]] #[.expr<|.meth "Yard" "back_of_tie" ⇑0 #[⇑3]]]]]]]]}
noncomputable abbrev SZ:Fn:={ar:=2,sz:=5,body:=#[.ite (.val<|.cmp .notin ⇑1<|.fld ⇑0 "standing") #[.raise "NoDeed" #[.cst<|.str "no bridge of this number is up"]] .nil,.for (.many [2,3]) (.seq<|.meth "Bridge" "tick" (.idx (.fld ⇑0 "standing") ⇑1) .nil) #[.set (.one 4)<|.call "far_end" #[.idx (.idx (.fld ⇑0 "net_made_of") ↑1) ⇑2,⇑1],.expr<|.bm .append (.fld ⇑0 "letters_on_road") #[.tup #[⇑1,⇑4,⇑2,⇑3]]]]}
noncomputable abbrev R0:Fn:={ar:=2,sz:=2,body:=#[.ite (.val<|.cmp .notin ⇑1<|.fld ⇑0 "standing") #[.raise "NoDeed" #[.cst<|.str "no bridge of this number is up"]] .nil,.expr<|.bm .dpop (.fld ⇑0 "standing") #[⇑1],.expr<|.meth "Yard" "set_ties_of" ⇑0 #[⇑1]]}
noncomputable abbrev R1:Fn:={ar:=2,sz:=2,body:=#[.ite (.or (.not<|.val<|.meth "Yard" "has_tie" ⇑0 #[⇑1])<|.val<|.cmp .isin ⇑1<|.fld ⇑0 "ties_fallen") #[.raise "NoDeed" #[.cst<|.str "no tie of this place stands"]] .nil,.setIdx (.fld ⇑0 "ties_fallen") ⇑1<|.cst<|.bl eN,.expr<|.meth "Yard" "set_tie" ⇑0 #[⇑1]]}
noncomputable abbrev RG:Fn:={ar:=2,sz:=2,body:=#[.ite (.or (.val<|.cmp .notin ⇑1<|.fld ⇑0 "lives")<|.val<|.cmp .isin ⇑1<|.fld ⇑0 "standing") #[.raise "NoDeed" #[.cst<|.str "no bridge of this number has fallen"]] .nil,.augIdx (.fld ⇑0 "lives") ⇑1 .add 1,.setIdx (.fld ⇑0 "standing") ⇑1<|.make "Bridge" #[⇑1,.idx (.fld ⇑0 "lives") ⇑1,.lst .nil,.fld ⇑0 "greatest_age"],.expr<|.meth "Yard" "set_ties_of" ⇑0 #[⇑1]]}
noncomputable abbrev RI:Fn:={ar:=2,sz:=2,body:=#[.ite (.val<|.cmp .notin ⇑1<|.fld ⇑0 "ties_fallen") #[.raise "NoDeed" #[.cst<|.str "no tie of this place has fallen"]] .nil,.expr<|.bm .dpop (.fld ⇑0 "ties_fallen") #[⇑1],.expr<|.meth "Yard" "set_tie" ⇑0 #[⇑1]]}
noncomputable abbrev R8:Fn:={ar:=2,sz:=5,body:=#[.for (.many [2,3,4]) (.seq<|.call "neighbours" #[.fld ⇑0 "net_made_of",⇑1]) #[.expr<|.meth "Yard" "set_tie" ⇑0 #[⇑2]]]}
noncomputable abbrev R7:Fn:={ar:=2,sz:=8,body:=#[.set (.many [2,3,4])<|.idx (.idx (.fld ⇑0 "net_made_of") ↑1) ⇑1,.set (.one 5)<|.and (.cmp .notin ⇑1<|.fld ⇑0 "ties_fallen")<|.and (.cmp .isin ⇑2<|.fld ⇑0 "standing")<|.cmp .isin ⇑3<|.fld ⇑0 "standing",.for (.many [6,7]) (.seq<|.tup #[.tup #[⇑2,⇑3],.tup #[⇑3,⇑2]]) #[.ite (.val ⇑5) #[.expr<|.meth "Bridge" "up" (.idx (.fld ⇑0 "standing") ⇑6) #[⇑1,⇑7,⇑4]] #[.ite (.val<|.cmp .isin ⇑6<|.fld ⇑0 "standing") #[.expr<|.meth "Bridge" "down" (.idx (.fld ⇑0 "standing") ⇑6) #[⇑1]] .nil]]]}
noncomputable abbrev ST:Fn:={ar:=1,sz:=2,body:=#[.ite (.not<|.val<|.bi (.isi ["tuple"]) #[⇑0]) #[.raise "NoDeed" #[.cst<|.str "a deed is a tuple"]] .nil,.set (.one 1)<|.slc ⇑0 .none<|.some<|.neg ↑1,.ite (.or (.not<|.val<|.bi .all #[.comp [] 1 (.one 0) (.seq ⇑1) .yes<|.bi (.isi ["str"]) #[⇑0]])<|.val<|.cmp .notin ⇑1<|.glob "DEEDS"<|.tup [(.tup [(.str "tick")]),(.tup [(.str "come")]),(.tup [(.str "lost")]),(.tup [(.str "fall"),(.str "bridge")]),(.tup [(.str "fall"),(.str "tie")]),(.tup [(.str "back"),(.str "bridge")]),(.tup [(.str "back"),(.str "tie")])]) #[.raise "NoDeed" #[.cst<|.str "there is no deed of these words"]] .nil,.ite (.not<|.val<|.call "is_whole" #[.idx ⇑0<|.neg ↑1]) #[.raise "NoDeed" #[.cst<|.str "a deed's number is a whole number"]] .nil,.ret<|.tup #[⇑1,.idx ⇑0<|.neg ↑1]]}
noncomputable abbrev SO:Fn:={ar:=2,sz:=2,body:=#[.ite (.val<|.cmp .lt ⇑1<|.bi .len #[⇑0]) #[.ret<|.idx ⇑0 ⇑1] .nil,.ret ↑0]}
noncomputable abbrev SD:Fn:={ar:=2,sz:=3,body:=#[.set (.one 2)<|.bin .mod (.bin .mul (.bin .add (.bin .add (.bin .mod ⇑0 ↑2147483647)<|.bin .mul ↑7919 ⇑1) ↑1) ↑48271) ↑2147483647,.set (.one 2)<|.bin .mod (.bin .mul ⇑2 ⇑2) ↑2147483629,.ret<|.bin .fdiv (.bin .mod (.bin .mul (.bin .add ⇑2<|.bin .mul ↑40692<|.bin .add ⇑1 ↑3) ↑69621) ↑2147483579) ↑8]}
noncomputable abbrev SA:Fn:={ar:=2,sz:=6,body:=#[.set (.one 2)<|.bin .mod ⇑0<|.bin .mul (.bin .mul (.bin .pow ↑10 ↑60)<|.bin .pow ↑10 ↑60)<|.bin .pow ↑10 ↑30,.set (.one 3)<|.cmp .ge ⇑2<|.bin .pow ↑10 ↑18,.set (.one 4)<|.lst .nil,.for (.one 5) (.range ⇑1) #[.ite (.and (.val ⇑3)<|.val<|.cmp .gt ⇑2 ↑0) #[.expr<|.bm .append ⇑4 #[.bin .mod ⇑2 ↑1000],.set (.one 2)<|.bin .fdiv ⇑2 ↑1000] #[.expr<|.bm .append ⇑4 #[.call "_law_mixed" #[⇑0,⇑5]]]],.ret ⇑4]}
noncomputable abbrev SK:Fn:={ar:=1,sz:=3,body:=#[.set (.one 1)<|.bin .add ↑2<|.bin .mod (.idx ⇑0 ↑0) ↑4,.ite (.val<|.cmp .eq (.bin .mod (.bin .fdiv (.idx ⇑0 ↑0) ↑4) ↑8) ↑7) #[.set (.one 1)<|.bin .add ↑1<|.bin .mod (.bin .fdiv (.idx ⇑0 ↑0) ↑32) ↑10] .nil,.set (.one 2)<|.idx (.lst #[↑1000,↑12,↑1000,↑30])<|.bin .mod (.idx ⇑0 ↑1) ↑4,.ret<|.bi .sortedSet #[.comp [2] 1 (.one 0) (.seq<|.slc ⇑0 (.some ↑4)<|.some<|.bin .add ↑4 ⇑1) .yes<|.bin .mod ⇑0 ⇑1]]}
noncomputable abbrev SI:Fn:={ar:=3,sz:=8,body:=#[.set (.one 3)<|.bi .len #[⇑0],.set (.one 4)<|.bin .mod (.idx ⇑1 ↑0) ⇑3,.set (.one 5)<|.bin .mod (.bin .add (.bin .add ⇑4 ↑1)<|.bin .mod (.idx ⇑1 ↑1)<|.bin .sub ⇑3 ↑1) ⇑3,.ite (.and (.val<|.cmp .lt (.bin .add ⇑2 ↑1) ⇑3)<|.val<|.cmp .eq (.bin .mod (.bin .fdiv (.idx ⇑1 ↑0) ↑10) ↑2) ↑0) #[.set (.one 4)<|.bin .add ⇑2 ↑1,.set (.one 5)<|.bin .mod (.idx ⇑1 ↑1)<|.bin .add ⇑2 ↑1] .nil,.set (.one 6)<|.bin .add ↑1<|.bin .mod (.idx ⇑1 ↑2) ↑1000,.ite (.val<|.cmp .eq (.bin .mod (.bin .fdiv (.idx ⇑1 ↑0) ↑20) ↑2) ↑0) #[.set (.one 6)<|.bin .add ↑1<|.bin .mod (.idx ⇑1 ↑2) ↑3] .nil,.set (.one 7)<|.bi .sortedI #[.lst #[.idx ⇑0 ⇑4,.idx ⇑0 ⇑5]],.ret<|.tup #[.idx ⇑7 ↑0,.idx ⇑7 ↑1,⇑6]]}
noncomputable abbrev SE:Fn:={ar:=2,sz:=7,body:=#[.set (.one 2)<|.call "_law_draws" #[⇑0,↑14],.set (.one 3)<|.call "_law_bridges" #[⇑2],.set (.one 4)<|.bin .mod (.idx ⇑2 ↑2) ↑8,.ite (.val<|.cmp .eq (.bin .mod (.bin .fdiv (.idx ⇑2 ↑2) ↑8) ↑7) ↑6) #[.set (.one 4)<|.bin .mod (.bin .fdiv (.idx ⇑2 ↑2) ↑56) ↑17] .nil,.ite (.val<|.cmp .eq (.bi .len #[⇑3]) ↑1) #[.set (.one 4) ↑0] .nil,.set (.one 5)<|.call "_law_draws" #[⇑1,.bin .mul ↑3 ⇑4],.set (.one 6)<|.comp [3,5] 1 (.one 0) (.range ⇑4) .yes<|.call "_law_tie" #[⇑1,.slc ⇑2 (.some<|.bin .mul ↑3 ⇑0)<|.some<|.bin .add (.bin .mul ↑3 ⇑0) ↑3,⇑0],.ret<|.tup #[.bi .tuple #[⇑3],.bi .tuple #[⇑6]]]}
noncomputable abbrev SB:Fn:={ar:=1,sz:=2,body:=#[.set (.one 1)<|.call "_law_draws" #[⇑0,↑4],.ite (.val<|.cmp .eq (.bin .mod (.bin .fdiv (.idx ⇑1 ↑1) ↑4) ↑2) ↑0) #[.ret<|.bin .add ↑4<|.bin .mod (.idx ⇑1 ↑3) ↑8] .nil,.ret<|.bin .add ↑4<|.bin .mod (.idx ⇑1 ↑3) ↑197]}
noncomputable abbrev SF:Fn:={ar:=2,sz:=3,body:=#[.ite (.val<|.cmp .is ⇑1<|.cst .non) #[.ret<|.cmp .is ⇑0<|.cst .non] .nil,.ite (.val<|.bi (.isi ["str"]) #[⇑1]) #[.ret<|.and (.bi (.isi ["str"]) #[⇑0])<|.cmp .eq ⇑0 ⇑1] .nil,.ite (.val<|.bi (.isi ["int"]) #[⇑1]) #[.ret<|.and (.bi (.isi ["int"]) #[⇑0])<|.and (.not<|.bi (.isi ["bool"]) #[⇑0])<|.cmp .eq ⇑0 ⇑1] .nil,.ite (.val<|.bi (.isi ["tuple"]) #[⇑1]) #[.ite (.not<|.val<|.bi (.isi ["tuple"]) #[⇑0]) #[.ret<|.cst<|.bl eP] .nil] #[.ite (.not<|.val<|.bi (.isi ["list"]) #[⇑0]) #[.ret<|.cst<|.bl eP] .nil],.ite (.val<|.cmp .ne (.bi .len #[⇑0])<|.bi .len #[⇑1]) #[.ret<|.cst<|.bl eP] .nil,.for (.one 2) (.range<|.bi .len #[⇑1]) #[.ite (.not<|.val<|.call "_law_same" #[.idx ⇑0 ⇑2,.idx ⇑1 ⇑2]) #[.ret<|.cst<|.bl eP] .nil],.ret<|.cst<|.bl eN]}
noncomputable abbrev SL:Fn:={ar:=2,sz:=5,body:=#[.set (.one 2)<|.lst .nil,.for (.many [3,4]) (.enum<|.idx ⇑0 ↑1) #[.ite (.val<|.cmp .eq (.idx ⇑4 ↑0) ⇑1) #[.expr<|.bm .append ⇑2 #[.tup #[⇑3,.idx ⇑4 ↑1,.idx ⇑4 ↑2]]] .nil,.ite (.val<|.cmp .eq (.idx ⇑4 ↑1) ⇑1) #[.expr<|.bm .append ⇑2 #[.tup #[⇑3,.idx ⇑4 ↑0,.idx ⇑4 ↑2]]] .nil],.ret ⇑2]}
noncomputable abbrev SC:Fn:={ar:=4,sz:=5,body:=#[.set (.one 4)<|.idx (.idx ⇑0 ↑1) ⇑3,.ret<|.and (.cmp .notin ⇑3 ⇑2)<|.and (.cmp .notin (.idx ⇑4 ↑0) ⇑1)<|.cmp .notin (.idx ⇑4 ↑1) ⇑1]}
noncomputable abbrev SU:Fn:={ar:=2,sz:=5,body:=#[.set (.one 2)<|.bi .len #[.idx ⇑0 ↑0],.set (.one 3)<|.bin .mod (.bin .fdiv ⇑1 ↑4)<|.bin .add ⇑2<|.bi .len #[.idx ⇑0 ↑1],.ite (.val<|.cmp .eq (.bin .mod ⇑1 ↑4) ↑0) #[.ret<|.tup #[.cst<|.str "tick",.idx (.idx ⇑0 ↑0)<|.bin .mod (.bin .fdiv ⇑1 ↑4) ⇑2]] .nil,.set (.one 4)<|.idx (.lst #[.cst<|.str "fall",.cst<|.str "back",.cst<|.str "fall"])<|.bin .sub (.bin .mod ⇑1 ↑4) ↑1,.ite (.val<|.cmp .lt ⇑3 ⇑2) #[.ret<|.tup #[⇑4,.cst<|.str "bridge",.idx (.idx ⇑0 ↑0) ⇑3]] .nil,.ret<|.tup #[⇑4,.cst<|.str "tie",.bin .sub ⇑3 ⇑2]]}
noncomputable abbrev SN:Fn:={ar:=3,sz:=4,body:=#[.ite (.val<|.cmp .eq (.idx ⇑0 ↑0)<|.cst<|.str "tick") #[.ret<|.cmp .notin (.idx ⇑0 ↑1) ⇑1] .nil,.set (.one 3) ⇑1,.ite (.val<|.cmp .eq (.idx ⇑0 ↑1)<|.cst<|.str "tie") #[.set (.one 3) ⇑2] .nil,.ret<|.cmp .eq (.cmp .isin (.idx ⇑0 ↑2) ⇑3)<|.cmp .eq (.idx ⇑0 ↑0)<|.cst<|.str "back"]}
noncomputable abbrev SH:Fn:={ar:=6,sz:=11,body:=#[.set (.one 6)<|.lst .nil,.for (.many [7,8,9]) (.seq<|.call "_law_ties_of" #[⇑0,⇑3]) #[.ite (.val<|.call "_law_is_up" #[⇑0,⇑1,⇑2,⇑7]) #[.set (.one 10)<|.tup #[.tup #[⇑4,⇑5],.tup #[⇑4,↑0],⇑3,↑0,↑0,.cst .non,.cst .non],.expr<|.bm .append ⇑6 #[.tup #[⇑3,⇑8,⇑7,⇑10]]] .nil],.ret ⇑6]}
noncomputable abbrev SR:Fn:={ar:=3,sz:=3,body:=#[.ite (.val<|.cmp .isin ⇑1 ⇑0) #[.expr<|.bm .remove ⇑0 #[⇑1],.setIdx ⇑2 ⇑1<|.tup #[.bin .add (.idx (.bm .dgetD ⇑2 #[⇑1,.tup #[↑0,↑0]]) ↑0) ↑1,↑0]] #[.expr<|.bm .append ⇑0 #[⇑1]]]}
noncomputable abbrev SG:Fn:={ar:=4,sz:=6,body:=#[.ite (.not<|.val<|.call "_law_same" #[.meth "Yard" "down" ⇑0 .nil,.tup #[.bi .tuple #[.bi .sortedI #[⇑2]],.bi .tuple #[.bi .sortedI #[⇑3]]]]) #[.ret<|.cst<|.bl eP] .nil,.for (.one 4) (.range<|.bi .len #[.idx ⇑1 ↑1]) #[.set (.one 5)<|.cst<|.str "down",.ite (.val<|.call "_law_is_up" #[⇑1,⇑2,⇑3,⇑4]) #[.set (.one 5)<|.cst<|.str "shut"] .nil,.ite (.not<|.val<|.call "_law_same" #[.meth "Yard" "ends" ⇑0 #[⇑4],.tup #[⇑5,⇑5]]) #[.ret<|.cst<|.bl eP] .nil],.ret<|.cst<|.bl eN]}
noncomputable abbrev SQ:Fn:={ar:=2,sz:=3,body:=#[.set (.one 2)<|.cst<|.bl eP,.try eM (.meth "Yard" "deed" ⇑0 #[⇑1]) (.cons "NoDeed" eM #[.set (.one 2)<|.cst<|.bl eN] .nil),.ret<|.not ⇑2]}
noncomputable abbrev SM:Fn:={ar:=4,sz:=7,body:=#[.set (.one 5)<|.comp [2] 1 (.one 0) (.seq<|.idx ⇑1 ↑0) (.val<|.cmp .notin ⇑0 ⇑1) ⇑0,.ite (.not<|.val<|.call "_law_same" #[.meth "Yard" "labels" ⇑0 .nil,.comp [] 1 (.one 0) (.seq ⇑5) .yes<|.tup #[⇑0,.tup #[⇑0,↑0,.cst .non,.cst .non]]]) #[.ret<|.cst<|.bl eP] .nil,.ite (.not<|.val<|.call "_law_same" #[.meth "Yard" "stamps" ⇑0 .nil,.comp [3] 1 (.one 0) (.seq ⇑5) .yes<|.tup #[⇑0,.tup #[.idx (.bm .dgetD ⇑1 #[⇑0,.tup #[↑0,↑0]]) ↑0,↑0]]]) #[.ret<|.cst<|.bl eP] .nil,.for (.one 4) (.seq<|.idx ⇑1 ↑0) #[.set (.one 6)<|.meth "Yard" "bridge" ⇑0 #[⇑4],.ite (.val<|.cmp .ne (.cmp .is ⇑6<|.cst .non)<|.cmp .isin ⇑4 ⇑2) #[.ret<|.cst<|.bl eP] .nil,.ite (.and (.val<|.cmp .isnot ⇑6<|.cst .non)<|.not<|.val<|.call "_law_same" #[.meth "Bridge" "label" ⇑6 .nil,.tup #[⇑4,↑0,.cst .non,.cst .non]]) #[.ret<|.cst<|.bl eP] .nil],.ret<|.cst<|.bl eN]}
noncomputable abbrev SJ:Fn:={ar:=1,sz:=13,body:=#[.set (.one 1)<|.call "_law_net" #[.call "_law_cell_at" #[⇑0,↑0],.call "_law_cell_at" #[⇑0,↑1]],.set (.one 2)<|.make "Yard" #[⇑1,.call "_law_greatest" #[.call "_law_cell_at" #[⇑0,↑0]]],.set (.one 3)<|.lst .nil,.set (.one 4)<|.lst .nil,.set (.one 5)<|.dct .nil,.set (.one 6)<|.dct .nil,.set (.one 7)<|.lst .nil,.for (.one 8) (.seq<|.slc ⇑0 (.some ↑2)<|.some ↑102) #[.set (.one 9)<|.call "_law_deed" #[⇑1,⇑8],.set (.one 10)<|.call "_law_can" #[⇑9,⇑3,⇑4],.ite (.val<|.cmp .ne (.call "_law_tried" #[⇑2,⇑9]) ⇑10) #[.ret<|.cst<|.bl eP] .nil,.ite (.and (.val ⇑10)<|.val<|.cmp .eq (.idx ⇑9 ↑0)<|.cst<|.str "tick") #[.set (.many [11,12])<|.bm .dgetD ⇑5 #[.idx ⇑9 ↑1,.tup #[↑0,↑0]],.set (.one 7)<|.bin .add ⇑7<|.call "_law_sent" #[⇑1,⇑3,⇑4,.idx ⇑9 ↑1,⇑11,⇑12],.setIdx ⇑5 (.idx ⇑9 ↑1)<|.tup #[⇑11,.bin .add ⇑12 ↑1]] #[.ite (.and (.val ⇑10)<|.val<|.cmp .eq (.idx ⇑9 ↑1)<|.cst<|.str "bridge") #[.expr<|.call "_law_turn" #[⇑3,.idx ⇑9 ↑2,⇑5]] #[.ite (.val ⇑10) #[.expr<|.call "_law_turn" #[⇑4,.idx ⇑9 ↑2,⇑6]] .nil]],.ite (.not<|.val<|.call "_law_seen" #[⇑2,⇑1,⇑3,⇑4]) #[.ret<|.cst<|.bl eP] .nil],.ret<|.and (.call "_law_same" #[.meth "Yard" "road" ⇑2 .nil,⇑7])<|.call "_law_bridges_seen" #[⇑2,⇑1,⇑3,⇑5]]}
class Al(P:Pg):Prop where
 c0:P "is_whole" = eL SW
 c1:P "neighbours" = eL SS
 c2:P "far_end" = eL SX
 c3:P "best_offer" = eL SY
 c4:P "Bridge.__init__" = eL RW
 c5:P "Bridge.label" = eL RK
 c6:P "Bridge.stamp" = eL RC
 c7:P "Bridge.held" = eL RX
 c8:P "Bridge.up" = eL RF
 c9:P "Bridge.down" = eL RZ
 c10:P "Bridge.tick" = eL RE
 c11:P "Bridge.let_grow_older" = eL RM
 c12:P "Bridge.reckon_label" = eL RU
 c13:P "Bridge.take_label" = eL RD
 c14:P "Bridge.letter_over" = eL RN
 c15:P "Bridge.is_rested_on" = eL RJ
 c16:P "Bridge.end" = eL RY
 c17:P "Yard.__init__" = eL R4
 c18:P "Yard.road" = eL R6
 c19:P "Yard.down" = eL RQ
 c20:P "Yard.labels" = eL R5
 c21:P "Yard.stamps" = eL R9
 c22:P "Yard.bridge" = eL RL
 c23:P "Yard.ends" = eL RT
 c24:P "Yard.end_at" = eL RS
 c25:P "Yard.has_tie" = eL R3
 c26:P "Yard.deed" = eL RP
 c27:P "Yard.tick_of" = eL SZ
 c28:P "Yard.fall_of_bridge" = eL R0
 c29:P "Yard.fall_of_tie" = eL R1
 c30:P "Yard.back_of_bridge" = eL RG
 c31:P "Yard.back_of_tie" = eL RI
 c32:P "Yard.set_ties_of" = eL R8
 c33:P "Yard.set_tie" = eL R7
 c34:P "read_deed" = eL ST
 c35:P "_law_cell_at" = eL SO
 c36:P "_law_mixed" = eL SD
 c37:P "_law_draws" = eL SA
 c38:P "_law_bridges" = eL SK
 c39:P "_law_tie" = eL SI
 c40:P "_law_net" = eL SE
 c41:P "_law_greatest" = eL SB
 c42:P "_law_same" = eL SF
 c43:P "_law_ties_of" = eL SL
 c44:P "_law_is_up" = eL SC
 c45:P "_law_deed" = eL SU
 c46:P "_law_can" = eL SN
 c47:P "_law_sent" = eL SH
 c48:P "_law_turn" = eL SR
 c49:P "_law_seen" = eL SG
 c50:P "_law_tried" = eL SQ
 c51:P "_law_bridges_seen" = eL SM
 c52:P "law" = eL SJ
set_option hygiene false in
local macro_rules|`(#check $r:ident $c:ident $d:ident $s:str $a:num $z:num)=>do
 let v:=(Array.range a.getNat).map λi=>Lean.mkIdent (.mkSimple s!"a{i}")
 let e<-(Array.range z.getNat).mapM λi=>if i<a.getNat then `(eL $(v[i]!))else`(eM)
 `(theorem $r [Al P](q:B0 P n $d [$e,*] h Q X):wF P (n+1) $s [$v,*] h Q X:=Zc $c rfl q)
#check Oi Al.c0 SW "is_whole" 1 1
#check K6 Al.c1 SS "neighbours" 2 5
#check AG Al.c2 SX "far_end" 2 2
#check Mo Al.c3 SY "best_offer" 2 3
#check Kb Al.c4 RW "Bridge.__init__" 5 8
#check WZ Al.c5 RK "Bridge.label" 1 1
#check Jl Al.c6 RC "Bridge.stamp" 1 1
#check JS Al.c7 RX "Bridge.held" 2 2
#check Nt Al.c8 RF "Bridge.up" 4 4
#check JV Al.c9 RZ "Bridge.down" 2 2
#check JT Al.c10 RE "Bridge.tick" 1 2
#check Ys Al.c11 RM "Bridge.let_grow_older" 1 4
#check YI Al.c12 RU "Bridge.reckon_label" 1 8
#check Xi Al.c13 RD "Bridge.take_label" 2 2
#check YV Al.c14 RN "Bridge.letter_over" 2 8
#check YJ Al.c15 RJ "Bridge.is_rested_on" 2 3
#check Mu Al.c16 RY "Bridge.end" 2 2
#check Nh Al.c17 R4 "Yard.__init__" 3 4
#check Nq Al.c18 R6 "Yard.road" 1 1
#check Ni Al.c19 RQ "Yard.down" 1 2
#check J5 Al.c20 R5 "Yard.labels" 1 1
#check JW Al.c21 R9 "Yard.stamps" 1 1
#check J7 Al.c22 RL "Yard.bridge" 2 2
#check NH Al.c23 RT "Yard.ends" 2 5
#check J8 Al.c24 RS "Yard.end_at" 3 3
#check ZK Al.c25 R3 "Yard.has_tie" 2 2
#check MM Al.c26 RP "Yard.deed" 2 4
#check YZ Al.c27 SZ "Yard.tick_of" 2 5
#check ZP Al.c28 R0 "Yard.fall_of_bridge" 2 2
#check ZF Al.c29 R1 "Yard.fall_of_tie" 2 2
#check Zu Al.c30 RG "Yard.back_of_bridge" 2 2
#check Z8 Al.c31 RI "Yard.back_of_tie" 2 2
#check XA Al.c32 R8 "Yard.set_ties_of" 2 5
#check Jd Al.c33 R7 "Yard.set_tie" 2 8
#check MH Al.c34 ST "read_deed" 1 2
#check J6 Al.c35 SO "_law_cell_at" 2 2
#check Nb Al.c36 SD "_law_mixed" 2 3
#check M4 Al.c37 SA "_law_draws" 2 6
#check JZ Al.c38 SK "_law_bridges" 1 3
#check U0 Al.c39 SI "_law_tie" 3 8
#check Af Al.c40 SE "_law_net" 2 7
#check JI Al.c41 SB "_law_greatest" 1 2
#check Z3 Al.c42 SF "_law_same" 2 3
#check JU Al.c43 SL "_law_ties_of" 2 5
#check MK Al.c44 SC "_law_is_up" 4 5
#check OK Al.c45 SU "_law_deed" 2 5
#check Ap Al.c46 SN "_law_can" 3 4
#check Ox Al.c47 SH "_law_sent" 6 11
#check ON Al.c48 SR "_law_turn" 3 3
#check OA Al.c49 SG "_law_seen" 4 6
#check M5 Al.c50 SQ "_law_tried" 2 3
#check Xx Al.c51 SM "_law_bridges_seen" 4 7
#check Pk Al.c52 SJ "law" 1 13
local macro_rules|`(#[$x])=>`(.cons $x .nil)|`(#[$x,$y,*])=>`(.cons $x #[$y,*])
local macro_rules | `(tactic| walk_at "ne")=>`(tactic| first | assumption | (apply Ne.symm; assumption) | ((with_reducible apply ne_none'); (· assumption); (· walk_at "look")) | (apply Ne.symm; (with_reducible apply ne_none'); (· assumption); (· walk_at "look")))
local macro_rules | `(tactic| walk_at "look")=>`(tactic| first | assumption | with_reducible exact eR | ((with_reducible apply upd_ne'); (· walk_at "ne"); (· walk_at "look")) | ((with_reducible apply Ext.get); (· assumption); (· walk_at "look")) | ((with_reducible apply ExtB.get); (· assumption); (· walk_at "ne"); (· walk_at "look")))
local macro_rules | `(tactic| walk_at "ar")=>`(tactic| first | decide | lia | assumption | (simp only [Ë,Ę]; decide))
local macro_rules | `(tactic| walk_at "mul")=>`(tactic| first | exact .inl (.inr<|by lia) | exact .inl (.inl<|by lia) | exact .inr ⟨by decide,by decide⟩)
local macro_rules | `(tactic| walk_at "setl")=>`(tactic| first | (simp only [œ,Γ,Ο,ű,List.foldl_nil,ϴ,ϵ]; done) | (simp only [œ,Γ,Ο,ű,List.foldl_nil,ϴ,ϵ]; exact rfl) | exact rfl)
local macro_rules | `(tactic| walk_at "w")=>`(tactic| with_reducible conv=>whnf)
local macro_rules | `(tactic| walk_at "py1")=>do
 let a<-[`dw0,`b_add,`b_sub,`g_int,`g_bl,`g_ref,`g_tbl,`c_lt,`c_gt,`c_le,`c_ge,`c_eqI,`c_neI,`c_eqS,`c_eqB,`c_isN,`c_notN,`ag_add,`ln_scr,`ln_tup,`sl_scr,`it_tup].toArray.mapM λn=>`(tactic| refine $(Lean.mkIdent n) ?_)
 let c<-[`ln_lst,`tp_lst,`ls_lst,`sl_lst,`it_lst,`dc_of].toArray.mapM λn=>`(tactic| ((with_reducible apply $(Lean.mkIdent n)); (· walk_at "look")))
 `(tactic| first
 |(with_reducible first $[| $a:tactic]*)
 |((with_reducible apply P9);(· exact rfl))
 |((with_reducible apply Ie);(· walk_at "setl"))|((with_reducible apply Lm);(· (simp only[bindL,ϴ,ϵ];exact rfl)))|((with_reducible apply b_mul);(· walk_at "mul"))|((with_reducible apply b_fdiv);(· walk_at "ar"))|((with_reducible apply b_mod);(· walk_at "ar"))|((with_reducible apply HC);(· walk_at "ar");(· simp only[Int.reduceToNat,Int.reducePow];exact rfl))|((with_reducible apply Cz);(· walk_at "look");(· walk_at "look");(· first|(simp only[aB,List.nil_append,Ë,Ę];decide)|lia))|((with_reducible apply HF);(· walk_at "ar"))
 |((with_reducible apply eW);(· exact rfl))|((with_reducible apply Zk);(· walk_at "look");(· exact rfl))
 |((with_reducible apply Yu);(· walk_at "look");(· walk_at "ar"))|((with_reducible apply Lw);(· walk_at "look");(· exact rfl))|((with_reducible apply II);(· walk_at "look");(· exact rfl))
 |((with_reducible apply BV);(· exact rfl))|((with_reducible apply fO);(· decide))
 | ((with_reducible apply HR);(· first | exact .inl rfl | exact .inr (.inl rfl) | simp);(· walk_at "look")) | ((with_reducible apply HZ);(· first | exact rfl | simp);(· walk_at "look")) | ((with_reducible apply YR);(· walk_at "look");(· walk_at "ar")) | (first $[| $c:tactic]*))
local macro_rules | `(tactic| fail)=>`(tactic| ((repeat walk_at "py1"); walk_at "w"))
local macro_rules | `(tactic| walk_at "p")=>`(tactic| ((repeat first | walk_at "py1" | refine fP rfl ?_ | refine fQ rfl ?_); walk_at "w"))
local macro_rules | `(tactic| exists $e)=>`(tactic| (fail; refine $e ?_))
local macro_rules | `(tactic| refine' $e)=>`(tactic| (fail; refine $e))
section
variable {α:Type}(val:α->Val)
abbrev Zg(kvs:List<|Int×α):List<|Val×Val:=kvs.map λp=>(.int p.1,val p.2)
abbrev Zl(kvs:List<|Int×α)(k:Int)(v:α):List<|Int×α:=if(kvs.lookup k).isSome then kvs.map (λp=>if p.1=k then(k,v)else p)else kvs++[(k,v)]
abbrev Zh(kvs:List<|Int×α)(k:Int):List<|Int×α:=kvs.filter λp=>gq (p.1≠k)
variable {val}
def WE(a b:Int):(Val.int a==Val.int b)=gq (a=b):=by
 by_cases e:a=b
 .subst e;simp
 .rw[gj e];exact beq_eq_false_iff_ne.mpr λz=>e (by injection z)
def Z4(kvs:List<|Int×α)(k:Int):fo (Zg val kvs) (.int k)=(kvs.lookup k).map val:=by
 induction kvs with
 |nil=>rfl
 |cons p r ih =>
  unfold fo Zg at ih ⊢;rw[Ï,ę,à,WE];by_cases e:p.1=k
  .have:(k==p.1)=eN:=by simp[e]
   simp[e]
  .have h2:(k==p.1)=eP:=by simpa using λz=>e z.symm
   rw[gj e,h2];exact ih
def Yb(kvs:List<|Int×α)(k:Int):fq (Zg val kvs) (.int k)=(kvs.lookup k).isSome:=by
 induction kvs with
 |nil=>rfl
 |cons p r ih =>
  unfold fq Zg at ih ⊢;rw[Ï,ĳ,à,WE];by_cases e:p.1=k
  .simp[e]
  .have h2:(k==p.1)=eP:=by simpa using λz=>e z.symm
   rw[gj e,h2];exact ih
def ZY(kvs:List<|Int×α)(k:Int)(v:α):fu (Zg val kvs) (.int k) (val v)=Zg val (Zl kvs k v):=by
 unfold fu Zl;rw[Yb];split
 .unfold Zg;rw[ú,ú];refine ą λp _=>?_;simp only[bV,WE];by_cases e:p.1=k
  .simp[e]
  .simp[e]
 .unfold Zg;rw[ã];rfl
def X4(kvs:List<|Int×α)(k:Int):fv (Zg val kvs) (.int k)=Zg val (Zh kvs k):=by
 unfold fv Zh Zg;induction kvs with
 |nil=>rfl
 |cons p r ih =>rw[Ï,ě,ě,WE,ih];by_cases e:p.1=k<;>simp[e]
def CK(ns:List Int):eX (ns.map Val.int)=eL ns:=by
 induction ns with
 |nil=>rfl
 |cons n ns ih=>show(eX<|ns.map Val.int).map _=_;rw[ih];rfl
def UA(kvs:List<|Int×α):keysOf (Zg val kvs)=eL (kvs.map (·.1)):=by unfold keysOf Zg;rw[ú];exact(congrArg eX (ú (f:=λp:Int×α=>p.1) (g:=Val.int) (l:=kvs)).symm).trans (CK _)
def Mz(kvs:List<|Int×α):(Zg val kvs).length=kvs.length:=by unfold Zg;rw[Ã]
variable {kvs:List (Int×α)}
def ZC{k:Int}{v:α}(h:kvs.lookup k=eL v):(k,v)∈kvs:=by
 induction kvs with
 |nil=>cases h
 |cons p r ih =>
  rw[à]at h;by_cases e:k=p.1
  .have:(k==p.1)=eN:=by simp[e]
   rw[this]at h;cases h;rw[e];exact è
  .have:(k==p.1)=eP:=by simpa using e
   rw[this]at h;exact Ú _<|ih h
def KK{k:Int}(h:k∈kvs.map (·.1)):∃v,kvs.lookup k=eL v:=by
 induction kvs with
 |nil=>cases h
 |cons p r ih =>
  rw[à];by_cases e:k=p.1
  .have:(k==p.1)=eN:=by simp[e]
   rw[this];exact⟨_,rfl⟩
  .have:(k==p.1)=eP:=by simpa using e
   rw[this];rw[Ï,Æ]at h;exact ih<|h.resolve_left e
def Xa{k:Int}(h:kvs.lookup k=eM):k∉kvs.map (·.1):=λm=>by obtain⟨v,e⟩:=KK m;rw[h]at e;cases e
def Mx(nd:(kvs.map (·.1)).Nodup){k:Int}{v:α}(h:(k,v)∈kvs):kvs.lookup k=eL v:=by
 induction kvs with
 |nil=>cases h
 |cons p r ih =>
  rw[Ï,Ă]at nd;rw[à];rcases Æ.mp h with e|h
  .subst e;simp
  .have:k≠p.1:=λz=>nd.1 (z▸Ĥ (f:=(·.1)) h);have:(k==p.1)=eP:=by simpa using this
   rw[this];exact ih nd.2 h
def W5(kvs:List<|Int×α)(k:Int)(v:α):(Zl kvs k v).map (·.1)=if(kvs.lookup k).isSome then kvs.map (·.1)else kvs.map (·.1)++[k]:=by
 unfold Zl;split
 .rw[ú];refine ą λp _=>?_;simp only[bV];by_cases e:p.1=k<;>simp[e]
 .rw[ã];rfl
def WG{k:Int}(v:α)(h:k∉kvs.map (·.1)):Zl kvs k v=kvs++[(k,v)]:=by
 unfold Zl;have:kvs.lookup k=eM:=by
  cases e:kvs.lookup k with
  |none=>rfl
  |some w=>exact gp (Ĥ (f:=(·.1))<|ZC e) h
 rw[this];rfl
def Xc(nd:(kvs.map (·.1)).Nodup)(k:Int)(v:α):((Zl kvs k v).map (·.1)).Nodup:=by
 rw[W5];split
 .exact nd
 .rename_i h;have h:kvs.lookup k=eM:=au.mp h;rw[å];refine⟨nd,by simp,λa ha b hb=>?_⟩;rw[é.mp hb];exact λe=>Xa h<|e▸ha
def XI{k:Int}{v:α}{p:Int×α}(h:p∈Zl kvs k v):p=(k,v)\/p∈kvs:=by
 unfold Zl at h;split at h
 .obtain⟨q,hq,e⟩:=Û.mp h;split at e
  .exact .inl e.symm
  .exact .inr<|e▸hq
 .rcases æ.mp h with h|h
  .exact .inr h
  .exact .inl<|é.mp h
def M3(kvs:List<|Int×α)(k:Int):(Zh kvs k).Sublist kvs:=Ļ
def Xs(nd:(kvs.map (·.1)).Nodup)(k:Int):((Zh kvs k).map (·.1)).Nodup:=nd.sublist ((M3 kvs k).map _)
end
def Yq:∀{m:Nat}{ns:List Int},ns.Nodup->(∀x∈ns,0<=x/\x<m)->ns.length<=m
 |0,ns,nd,h=>by
  cases ns with
  |nil=>exact Ì _
  |cons x xs=>have:=h x è;lia
 |m+1,ns,nd,h=>by
  by_cases hm:(m:Int)∈ns
  .have:=Yq (m:=m) (nd.erase (m:Int)) λx hx=>by
    have h1:=(nd.mem_erase_iff).mp hx;have h2:=h x h1.2;have:=h1.1;lia
   rw[bN hm]at this;lia
  .have:=Yq (m:=m) nd λx hx=>by
    have h2:=h x hx;have:x≠(m:Int):=λe=>hm<|e▸hx;lia
   lia
noncomputable abbrev Pi:=Int×Int
noncomputable abbrev pV(p:Pi):Val:=.tup [.int p.1,.int p.2]
abbrev oV:Option Pi->Val
 |none=>.non
 |some p=>pV p
structure L where
 num:Pi
 st:Pi
 root:Int
 cost:Int
 age:Int
 rests:Option Pi
 agrees:Option Pi
noncomputable abbrev L.v(l:L):Val:=.tup [pV l.num,pV l.st,.int l.root,.int l.cost,.int l.age,oV l.rests,oV l.agrees]
noncomputable abbrev UV(t:Int×Int):Val:=.tup [.int t.1,.int t.2]
noncomputable abbrev hdV(t:L×Int):Val:=.tup [t.1.v,.int t.2]
structure Lab where
 root:Int
 cost:Int
 up:Option<|Int×Pi
 deriving DecidableEq
abbrev upV:Option (Int×Pi)->Val
 |none=>.non
 |some p=>.int p.1
abbrev rsV:Option (Int×Pi)->Val
 |none=>.non
 |some p=>pV p.2
noncomputable abbrev Lab.v(l:Lab):Val:=.tup [.int l.root,.int l.cost,upV l.up,rsV l.up]
structure Br where
 number:Int
 life:Int
 most:Int
 ties:List<|Int×(Int×Int)
 held:List<|Int×(L×Int)
 label:Lab
 version:Int
 count:Int
abbrev Br.fs(B:Br)(t d:Ad):List<|String×Val:=[("number",.int B.number),("life",.int B.life),("age_let_go",.int B.most),("ties_by_place",.ref t),("held_by_place",.ref d),("label_now",B.label.v),("version",.int B.version),("ticks_had",.int B.count)]
structure fb(h:Hs)(b t d:Ad)(B:Br):Prop where
 ins:h b=eL (.ins "Bridge" [("number",.int B.number),("life",.int B.life),("age_let_go",.int B.most),("ties_by_place",.ref t),("held_by_place",.ref d),("label_now",B.label.v),("version",.int B.version),("ticks_had",.int B.count)])
 ties:h t=eL (.dct<|Zg UV B.ties)
 held:h d=eL (.dct<|Zg hdV B.held)
 ne:t≠d
variable {h:Hs} {b:Ad} {o:Ob}
def CH{a:Ad}{u:Ob}(ha:h a=eL o)(hb:h b=eL u)(ne:o≠u):a≠b:=λe=>by subst e;rw[ha]at hb;exact ne (ì hb)
variable {d:Ad} {B:Br}
def fb.nbt{t:Ad}(x:fb h b t d B):b≠t:=CH x.ins x.ties nofun
def fb.nbd{t:Ad}(x:fb h b t d B):b≠d:=CH x.ins x.held nofun
structure Ex(S:List Ad)(h g:Hs):Prop where
 get:∀{a:Ad}{o:Ob},a∉S->h a=eL o->g a=eL o
def Ex.refl{S:List Ad}:Ex S h h:=⟨λ_ e=>e⟩
variable {g:Hs}
def Ex.trans{k:Hs}{S:List Ad}(e:Ex S h g)(f:Ex S g k):Ex S h k:=⟨λn x=>f.get n<|e.get n x⟩
def Ex.of{S:List Ad}(e:Ext h g):Ex S h g:=⟨λ_ x=>e.get x⟩
def Ex.upd{S:List Ad}{w:Ad}(m:w∈S):Ex S h<|upd h w o:=⟨λ{a _} n x=>by rw[eQ λe:a=w=>n<|by rw[e];exact m];exact x⟩
def Ex.sub{S T:List Ad}(e:Ex S h g)(m:∀a∈S,a∈T):Ex T h g:=⟨λn x=>e.get (λz=>n<|m _ z) x⟩
def Ex.ext(e:Ex [] h g):Ext h g:=⟨λx=>e.get (by simp) x⟩
variable {p:Ad}
def Ex.none(e:Ex [b] h g)(hb:g b≠eM)(hp:g p=eM):h p=eM:=by
 cases z:h p with
 |none=>rfl
 |some o =>
  by_cases hpb:p=b
  .subst hpb;exact gp hp hb
  .rw[e.get (by simpa using hpb) z]at hp;cases hp
def fb.keep{t:Ad}{S:List Ad}(x:fb h b t d B)(e:Ex S h g)(hb:b∉S)(ht:t∉S)(hd:d∉S):fb g b t d B:=⟨e.get hb x.ins,e.get ht x.ties,e.get hd x.held,x.ne⟩
def fb.ext{t:Ad}(x:fb h b t d B)(e:Ext h g):fb g b t d B:=⟨e.get x.ins,e.get x.ties,e.get x.held,x.ne⟩
def nw{Q:Q1}(q:∀p,h p=eM->Q (.ref p) (upd h p o)):new h o Q:=YK q
def XB{α β:Type}{f:α->β}:∀{xs:List α}{i:Nat}{q:α},(xs.map f).Nodup->xs[i]?=eL q->f q∉(xs.take i).map f
 |[],_,_,_,h=>by simp at h
 |x::xs,0,_,_,_=>by simp
 |x::xs,i+1,q,nd,h=>by
  rw[Ï,Ă]at nd;have h:xs[i]?=eL q:=by simpa using h
  rw[Ϯ,Ï,Æ,not_or];exact⟨λe=>nd.1<|e▸Ĥ (ó h),XB nd.2 h⟩
variable {α:Type} {xs:List α} {i:Nat} {x:α}
def ZB(h:xs[i]?=eL x):xs.take (i+1)=xs.take i++[x]:=by rw[ż,h];rfl
def Yk{f:α->Val}{v:Val}(h:(xs.map f)[i]?=eL v):∃x,xs[i]?=eL x/\v=f x:=by rw[Ý]at h;obtain⟨x,h1,h2⟩:=Ò.mp h;exact⟨x,h1,h2.symm⟩
variable {P:Pg} [Al P] {n:Nat}{h:Hs}{w b t d st a f tt hh:Ad}{S B:Br}{c:Int}{all:List (Int×Int)}{ps:List Int}{Q:Q1}{X:XQ}
def MQ(x:fb h b t d B)(k:Q B.label.v h):wF P (n+1) "Bridge.label" [.ref b] h Q X:=by obtain⟨hi,ht,hd,ž⟩:=x;refine WZ ?_;refine' k
def Nz(x:fb h b t d B)(k:Q (pV (B.life,B.version)) h):wF P (n+1) "Bridge.stamp" [.ref b] h Q X:=by obtain⟨hi,ht,hd,ž⟩:=x;refine Jl ?_;refine' k
abbrev hdO:Option (L×Int)->Val
 |none=>.non
 |some p=>hdV p
def Fx{p:Int}(x:fb h b t d B)(k:Q (hdO<|B.held.lookup p) h):wF P (n+1) "Bridge.held" [.ref b,.int p] h Q X:=by
 obtain⟨hi,ht,hd,ž⟩:=x;refine JS ?_
 exists B2 (v:=.int p) hd rfl
 rw[Z4];cases e:B.held.lookup p with
 |none=>rw[e]at k;exact k
 |some q=>rw[e]at k;exact k
def MG{st:Hs->Prop}{W:Val->Env->Hs->NQ->NQ->Prop}{N:NQ}{env:Env}(a:st h)(q:N env h):wFor st W N [] env h:=⟨a,q⟩
def FO(x:fb h b t d B)(hz:B.held=[])(k:∀d' g,h d'=eM->fb g b t d' B->Ex [b] h g->Q .non g):wF P (n+1) "Bridge.let_grow_older" [.ref b] h Q X:=by
 obtain⟨hi,ht,hd,ž⟩:=id x;rw[hz]at hd;change h d=eL (.dct [])at hd;refine Ys ?_;fail;intro p hp;have npd:=Zb hd hp;have npb:=Zb hi hp;have npt:=Zb ht hp;have nbd:=x.nbd;refine' MG eR ⟨eR,?_⟩;rw[eS];refine' k p _ hp ⟨eR,?_,?_,npt⟩ ?_
 .rw[eQ x.nbt.symm,eQ ž,eQ npt];exact ht
 .rw[eQ npb.symm,eQ npd.symm,eR,hz];rfl
 .refine⟨λ{c o} m e=>?_⟩;rw[eQ<|by simpa using m];by_cases bo:c=d
  .subst bo;rw[eR,<-e];exact hd.symm
  .rw[eQ bo,eQ<|Zb e hp];exact e
variable {l:Ad}
def Ee{number:Int}(hl:h l=eL (.lst []))(k:∀g,Ext h g->Q .non g):wF P (n+1) "best_offer" [.int number,.ref l] h Q X:=by refine Mo ?_;refine' ⟨show(0:Nat)<lim by decide,ZS (λ_=>eM) (lsE hl) (λv hv=>gp hv Í) ?_⟩;refine YK λp hp=>?_;refine' Le eR (k _<|Ext.new hp)
def Ay(x:fb h b t d B)(hz:B.held=[])(k:∀g,Ext h g->Q (.tup [.int B.number,.int 0,.non,.non]) g):wF P (n+2) "Bridge.reckon_label" [.ref b] h Q X:=by
 obtain⟨hi,ht,hd,ž⟩:=id x;rw[hz]at hd;change h d=eL (.dct [])at hd;refine YI ?_;refine' YK λp hp=>?_;have npd:=Zb hd hp;have npb:=Zb hi hp;have nbd:=x.nbd;refine' MG eR ⟨eR,?_⟩;rw[eS];have hi2:upd (upd h p<|.lst []) d (.dct []) b=_:=upd_ne' nbd<|upd_ne' npb hi;have h1:upd (upd h p<|.lst []) d (.dct []) p=_:=upd_ne' npd.symm eR;have hx:Ext h<|upd (upd h p<|.lst []) d<|.dct []:=⟨λ{c o} e=>by
   by_cases bo:c=d
   . subst bo;rw[eR,<-e];exact hd.symm
   . rw[eQ bo,eQ<|Zb e hp];exact e⟩
 generalize upd (upd h p<|.lst []) d (.dct [])=g2 at hi2 h1 hx ⊢;refine' Ee h1 λg3 h3=>?_;have hi3:=h3.get hi2;refine' fR (λhc=>?_) (λhc=>gp rfl hc);refine' k g3 (hx.trans h3)
variable {KB:Bool->Prop}
def MT{v u:Val}{c:Bool}(e:eqV h v u=eL c)(q:KB (!c)):go (fi h .ne v u) KB:=eV (by show(eqV h v u).map _=_;rw[e];rfl) q
def DT(x:fb h b t d B)(lz:B.label=⟨B.number,0,eM⟩)(k:Q .non h):wF P (n+1) "Bridge.take_label" [.ref b,.tup [.int B.number,.int 0,.non,.non]] h Q X:=by
 obtain⟨hi,ht,hd,ž⟩:=id x;rw[lz]at hi;refine Xi ?_;refine' MT (c:=eN) ?_ ?_
 .show eL (D.eqv (.tup [.int B.number,.int 0,.non,.non])<|.tup [.int B.number,.int 0,.non,.non])=_;simp[D.eqv,D.eqvs]
 walk_at "p";exact k
def Kx{p:Int}(x:fb h b t d B)(hz:B.held=[])(k:Q (.bl eP) h):wF P (n+2) "Bridge.is_rested_on" [.ref b,.int p] h Q X:=by
 obtain⟨hi,ht,hd,ž⟩:=id x;refine YJ ?_
 exists Fx x
 rw[hz];refine' Pf (λhc=>gp rfl hc) (λhc=>?_);exact k
abbrev Zz(B:Br)(p:Int):L:=⟨(B.life,B.count),(B.life,0),B.number,0,0,eM,eM⟩
structure Br.ok(B:Br):Prop where
 nt:(B.ties.map (·.1)).Nodup
 rg:∀q∈B.ties,0<=q.1/\q.1<16
 hz:B.held=[]
 lz:B.label=⟨B.number,0,eM⟩
 vz:B.version=0
def Fp{p:Int}(x:fb h b t d B)(o:B.ok)(k:Q (Zz B p).v h):wF P (n+3) "Bridge.letter_over" [.ref b,.int p] h Q X:=by
 obtain⟨hi,ht,hd,ž⟩:=id x;have lz:=o.lz;have vz:=o.vz;rw[lz,vz]at hi;refine YV ?_;refine' fR (λhc=>?_) (λhc=>gp rfl hc)
 exists Nz x
 rw[vz]
 exists eV (a:=eP) rfl
 walk_at "p";refine Kx x o.hz ?_;walk_at "p";exact k
def Br.ok.tlen(o:B.ok):B.ties.length<=16:=by
 have:=Yq (m:=16) o.nt λx hx=>by obtain⟨q,hq,rfl⟩:=Û.mp hx;exact o.rg q hq
 simpa using this
abbrev Br.told(B:Br):Br:=B
abbrev Br.ticked(B:Br):Br:={B with count:=B.count+1}
abbrev ZT(B:Br):List Val:=(sortI (B.ties.map (·.1))).map λp=>.tup [.int p,(Zz B p).v]
def Br.ok.told(o:B.ok):B.told.ok:=o
def Br.ok.ticked(o:B.ok):B.ticked.ok:=⟨o.nt,o.rg,o.hz,o.lz,o.vz⟩
def D1(x:fb h b t d B)(o:B.ok)(k:∀p d' g,h p=eM->h d'=eM->fb g b t d' B.ticked->g p=eL (.lst<|ZT B.told)->Ex [b] h g->p≠d'->Q (.ref p) g):wF P (n+4) "Bridge.tick" [.ref b] h Q X:=by
 obtain⟨hi,ht,hd,ž⟩:=id x;refine JT ?_;refine' FO x o.hz λd' g hd' x1 e1=>?_;obtain⟨hi1,ht1,hd1,hne1⟩:=id x1;refine' Ay x1 o.hz λg2 e2=>?_;have x2:=x1.ext e2
 exists DT x2 o.lz
 obtain⟨hi3,ht3,hd3,hne3⟩:=id x2;refine' KP ht3 (UA _) ?_ (YK λp1 bY=>?_)
 .rw[Ã];have:=o.tlen;lia
 refine' ⟨?_,?_⟩
 .rw[Ã,sortI,Ė,Ã];exact Ü o.tlen (by decide)
 have x4:=x2.ext (Ext.new (o:=.lst ((sortI (B.ties.map (·.1))).map Val.int)) bY);refine ZS (λv=>match v with|.int i=>eL (.tup [.int i,(Zz B i).v])|_=>eM) (lsE eR) ?_ ?_
 .intro v hv K hK;obtain⟨i,hi,rfl⟩:=Û.mp hv;obtain⟨hi4,ht4,hd4,hne4⟩:=id x4;fail;rw[gg rfl];change wE _ _ [eL<|.int i,eL<|.ref b] _ _ _
  exists Fp x4 o
  refine' hK
 .refine YK λp hp=>?_;have x5:=x4.ext<|Ext.new (o:=.lst<|ZT B) hp;have e0:((sortI (B.ties.map (·.1))).map Val.int).filterMap (λv=>match v with|.int i=>eL (.tup [.int i,(Zz B i).v])|_=>eM)=ZT B:=by
   rw[Δ];unfold ZT;exact congrFun (List.filterMap_eq_map (f:=λi:Int=>Val.tup [.int i,(Zz B i).v])) _
  rw[e0];obtain⟨hi5,ht5,hd5,hne5⟩:=id x5;fail;have eg:Ex [b] h (upd g2 p1 (.lst ((sortI (B.ties.map (·.1))).map Val.int))):=(e1.trans<|.of e2).trans<|.of<|Ext.new bY;have hpn:h p=eM:=eg.none (by rw[x4.ins];intro z;cases z) hp;have npb:b≠p:=Zb x4.ins hp;refine k p d' _ hpn hd' ⟨eR,?_,?_,x5.ne⟩ ?_ ?_ (Zb x4.held hp).symm
  .rw[eQ x5.nbt.symm];exact x5.ties
  .rw[eQ x5.nbd.symm];exact x5.held
  .rw[eQ npb.symm];exact eR
  .exact(eg.trans<|.of<|Ext.new hp).trans (Ex.upd<|by simp)
abbrev Nk(S:Br)(p:Int):Br:={S with ties:=Zh S.ties p,held:=Zh S.held p}
abbrev upB(S:Br)(p:Int)(c:Int×Int):Br:=if(S.ties.lookup p).isSome then S else {S with ties:=Zl S.ties p c}
variable {kvs:List (Int×α)}
def YX{k:Int}{q:Int×α}(h:q∈Zh kvs k):q∈kvs:=(M3 kvs k).subset h
def Br.ok.down(o:S.ok)(p:Int):(Nk S p).ok :=
 ⟨Xs o.nt _,λq hq=>o.rg q<|YX hq,by show Zh S.held p=[];rw[o.hz];rfl,o.lz,o.vz⟩
def Br.ok.up(o:S.ok){p:Int}{c:Int×Int}(h0:0<=p)(h1:p<16):(upB S p c).ok:=by
 unfold upB;split
 .exact o
 .refine⟨Xc o.nt _ _,λq hq=>?_,o.hz,o.lz,o.vz⟩;rcases XI hq with e|hq
  .rw[e];exact⟨h0,h1⟩
  .exact o.rg q hq
def FH{p:Int}(x:fb h b t d B)(k:∀g,fb g b t d (Nk B p)->Ex [t,d] h g->Q .non g):wF P (n+1) "Bridge.down" [.ref b,.int p] h Q X:=by
 obtain⟨hi,ht,hd,ž⟩:=id x;refine JV ?_
 exists Uv ht rfl
 dsimp only;rw[X4];have hi2:upd h t (.dct<|Zg UV<|Zh B.ties p) b=_:=upd_ne' x.nbt hi;have cM:upd h t (.dct<|Zg UV<|Zh B.ties p) d=_:=upd_ne' ž.symm hd
 exists Uv cM rfl
 dsimp only;rw[X4];refine' k _ ⟨by rw[eQ x.nbd];exact hi2,by rw[eQ ž];exact eR,eR,ž⟩ ((Ex.upd<|by simp).trans<|Ex.upd<|by simp)
def Qf{p nb:Int}(x:fb h b t d B)(o:B.ok)(k:∀g,fb g b t d (upB B p (nb,c))->Ex [t] h g->Q .non g):wF P (n+1) "Bridge.up" [.ref b,.int p,.int nb,.int c] h Q X:=by
 obtain⟨hi,ht,hd,ž⟩:=id x;have Ē:=o.tlen;refine Nt ?_
 exists Ye ht rfl
 rw[Yb];fail;unfold upB at k;cases e:(B.ties.lookup p).isSome with
 |true =>rw[e,gg rfl]at k;refine fQ rfl ?_;refine' k h x Ex.refl
 |false =>rw[e,gh<|by decide]at k;refine fP rfl ?_;refine' Yv ht ⟨rfl,by rw[Mz];exact Ü Ē<|by decide⟩ ?_;rw[show Val.tup [.int nb,.int c]=UV (nb,c) from rfl,ZY];refine' k _ ⟨by rw[eQ x.nbt];exact hi,eR,by rw[eQ ž.symm];exact hd,ž⟩ (Ex.upd<|by simp)
abbrev OO(B:Br)(p:Int):String:=if(B.ties.lookup p).isSome then "shut" else "down"
def Im{p:Int}(x:fb h b t d B)(o:B.ok)(k:Q (.str<|OO B p) h):wF P (n+3) "Bridge.end" [.ref b,.int p] h Q X:=by
 obtain⟨hi,ht,hd,ž⟩:=id x;rw[o.lz]at hi;refine Mu ?_
 exists Ye ht rfl
 rw[Yb];fail;unfold OO at k;cases e:(B.ties.lookup p).isSome with
 |false =>rw[e]at k;walk_at "p";exact k
 |true =>rw[e]at k;walk_at "p";refine eV (a:=eP) rfl ?_;walk_at "p";refine Kx x o.hz ?_;walk_at "p";exact k
def Zm(q:∀p g,h p=eM->Ext h g->g p=eL o->Q (.ref p) g):new h o Q:=YK λp hp=>q p _ hp (Ext.new hp) eR
variable {r:Int}
def Yz(r0:0<=r)(e:xs[r.toNat]?=eL x):atI xs r=eL x:=by have:=(Ó.mp e).1;unfold atI ixN;rw[gg r0,gg<|by lia];exact e
def DH(r0:0<=r)(r1:r<xs.length):∃x,xs[r.toNat]?=eL x/\x∈xs:=by
 have h:r.toNat<xs.length:=by lia
 exact⟨xs[r.toNat],É h,Ł h⟩
def Wf(r0:0<=r)(r1:r<xs.length):∃x,atI xs r=eL x/\x∈xs:=by obtain⟨x,h1,h2⟩:=DH r0 r1;exact⟨x,Yz r0 h1,h2⟩
def ZW:∀ns:List Int,eX (ns.map .int)=eL ns
 |[]=>rfl
 |n::ns=>by rw[Ï,eX,ZW ns];rfl
def Jp:∀bs:List Bool,blsOf (bs.map .bl)=eL bs
 |[]=>rfl
 |b::bs=>by rw[Ï,blsOf,Jp bs];rfl
def Kz{x:Int}:∀{ns:List Int},x∈dedup ns↔x∈ns
 |[]=>by simp[dedup]
 |n::ns=>by rw[dedup,Æ,Ċ,Kz,Æ];by_cases h:x=n<;>simp[h]
def Nr:∀(ns:List Int),(dedup ns).length<=ns.length
 |[]=>by simp[dedup]
 |n::ns=>by have:=Nr ns;have:=ŝ (λy=>y != n)<|dedup ns;rw[dedup,Ë,Ë];lia
variable {m:Int}
def X3{v:Val}(h:(fz 0 m)[i]?=eL v):v=.int i/\(i:Int)<m:=by unfold fz at h;rw[Ý]at h;obtain⟨k,hk,rfl⟩:=Ò.mp h;obtain⟨ϙ,rfl⟩:=Ó.mp hk;rw[Τ]at ϙ;rw[List.getElem_range];exact⟨by rw[Int.zero_add],by lia⟩
def ME:(fz 0 m).length=m.toNat:=by unfold fz;rw[Ã,Τ,Int.sub_zero]
abbrev Brs(ns:List Int):Prop:=∀i∈ns,0<=i/\i<1000
noncomputable abbrev Tie:=Int×Int×Int
abbrev trV(t:Tie):Val:=.tup [.int t.1,.int t.2.1,.int t.2.2]
abbrev LOk(ns:List Int)(t:Tie):Prop:=t.1∈ns/\t.2.1∈ns/\t.1<t.2.1/\1<=t.2.2/\t.2.2<=1000
structure fk(bs:List Int)(ts:List Tie):Prop where
 one:1<=bs.length
 ten:bs.length<=10
 rng:Brs bs
 up:bs.Pairwise (· < ·)
 sixteen:ts.length<=16
 tie:∀t∈ts,LOk bs t
abbrev ZV(bs:List Int)(ts:List Tie):Val:=.tup [.tup<|bs.map .int,.tup<|ts.map trV]
variable {ns:List Int}
def mem_sort{i:Int}:i∈sortI ns↔i∈ns:=(ŭ ns _).mem_iff
def Y6(nd:ns.Nodup):(sortI ns).Pairwise (· < ·):=by have p:=ŭ ns λa b=>gq (a<=b);have s:(sortI ns).Pairwise λa b=>gq (a<=b)=eN:=bS (λa b c h1 h2=>by simp at *;lia) (λa b=>by simp;lia) ns;have d:(sortI ns).Nodup:=p.nodup_iff.mpr nd;exact(s.and d).imp λ⟨h1,h2⟩=>by simp at h1;lia
def Q2(e:h a=eL (.lst<|ns.map .int))(m:ns.length<64)(q:new h (.lst<|(sortI<|dedup ns).map .int) Q):(biV h .sortedSet [.ref a]).wp h Q:=wp_new (by show biSortedSet h (.ref a)=_;unfold biSortedSet sortOf;simp only[e,fe,Ĕ,ZW];rw[gg m]) q
def Nu:∀ns:List Int,(dedup ns).Nodup
 |[]=>ġ
 |n::ns=>by rw[dedup,Ă];refine⟨λz=>?_,(Nu ns).sublist Ļ⟩;have:=(Ċ.mp z).2;simp at this
def LY(ns:List Int):(sortI<|dedup ns).Pairwise (· < ·):=Y6 (Nu ns)
def HN(ns:List Int):(sortI<|dedup ns).length<=ns.length:=by rw[sortI,Ė];exact Nr ns
def Hc(h:1<=ns.length):1<=(sortI<|dedup ns).length:=by
 rw[sortI,Ė];cases ns with
 |nil=>exact gp h (by decide)
 |cons n ns=>rw[dedup,Ë];lia
def sd_mem{i:Int}:i∈sortI (dedup ns)↔i∈ns:=by rw[mem_sort,Kz]
def WY(ns:List Int)(lo hi:Option Int):cut (ns.map Val.int) lo hi=(cut ns lo hi).map Val.int:=by unfold cut;rw[Ã,List.map_take,List.map_drop]
def Ol{a b:Int}(h0:0<=a)(h1:a<=b):cut xs (eL a) (eL b)=(xs.drop a.toNat).take (b.toNat - a.toNat):=by
 unfold cut fB;dsimp only;rw[gg h0,gg<|by lia];by_cases h:a.toNat<=xs.length
 .rw[Ϛ h];by_cases h2:b.toNat<=xs.length
  .rw[Ϛ h2]
  .rw[Nat.min_eq_right<|by lia];rw[ce (by rw[ũ];lia),ce<|by rw[ũ];lia]
 .rw[ŕ (by lia:xs.length<=min a.toNat xs.length),ŕ (by lia:xs.length<=a.toNat)];simp
def MW{h:Hs}{d:Nat}:∀ns:List Int,(ns.map Val.int).mapM (dat h d)=eL (ns.map D.int)
 |[]=>rfl
 |n::ns=>by rw[Ï,bf,MW ns,Ï];cases d<;>rfl
def UE{i:Int}:∀ns:List Int,((ns.map D.int).any λe=>D.eqv e<|.int i)=gq (i∈ns)
 |[]=>by simp
 |n::ns=>by
  rw[Ï,ĳ,UE ns,A9];by_cases h:n=i
  .simp[h]
  .simp[h,Ne.symm h]
def KZ{i:Int}:inL h (.int i) (ns.map .int)=eL (gq (i∈ns)):=by unfold inL;rw[MW];exact congrArg eL (UE ns)
def WR(x:Ext h g)(e:h p=eM):Ext h<|upd g p o:=⟨λ{a u} z=>by rw[eQ<|Zb z e];exact x.get z⟩
abbrev far(t:Tie)(b:Int):Int:=if t.1=b then t.2.1 else t.1
abbrev f6(b:Int):Nat->List Tie->List Tie
 |_,[]=>[]
 |k,t::r=>if b=t.1\/b=t.2.1 then((k:Int),far t b,t.2.2)::f6 b (k+1) r else f6 b (k+1) r
def Jg{b:Int}{t:Tie}:∀{l:List Tie}{k:Nat},f6 b k (l++[t])=f6 b k l++(if b=t.1\/b=t.2.1 then [(((k+l.length:Nat):Int),far t b,t.2.2)]else [])
 |[],k=>by show f6 b k [t]=_;unfold f6;split<;>rfl
 |u::l,k=>by
  rw[aB,f6,f6,Jg,Ë,show k+1+l.length=k+(l.length+1) by lia];by_cases h:b=u.1\/b=u.2.1
  .rw[gg h,gg h,aB]
  .rw[gh h,gh h]
def Mi:∀{xs:List Val}{k i:Nat}{v:Val},(enumL k xs)[i]?=eL v->∃x,xs[i]?=eL x/\v=.tup [.int ((k+i:Nat):Int),x]
 |[],_,_,_,e=>by simp[enumL]at e
 |x::xs,k,0,v,e=>by have e:eL (Val.tup [.int k,x])=eL v:=e;cases e;exact⟨x,rfl,rfl⟩
 |x::xs,k,i+1,v,e=>by obtain⟨y,h1,h2⟩:=Mi (xs:=xs) (k:=k+1) (i:=i) (v:=v) (by simpa[enumL]using e);exact⟨y,by simpa using h1,by rw[h2,show k+1+i=k+(i+1) by lia]⟩
def Jq:∀(xs:List Val) (k:Nat),(enumL k xs).length=xs.length
 |[],_=>rfl
 |_::xs,k=>by simp[enumL,Jq xs<|k+1]
def Lx{i:Int}(q:KB<|gq (i∈ns)):go (fi h .isin (.int i)<|.tup<|ns.map .int) KB:=eV (by show inV h (.int i) (.tup _)=_;unfold inV;exact KZ) q
section
variable {bs:List Int}{ts:List Tie}
def DA{t:Tie}{b:Int}(k:Q (.int<|far t b) h):wF P (n+1) "far_end" [trV t,.int b] h Q X:=by
 obtain⟨x,y,c⟩:=t;unfold trV;unfold far at k;dsimp only at k ⊢;refine AG ?_;fail;by_cases e:x=b
 .refine fP (gk e) ?_;rw[gg e]at k;refine' k
 .refine fQ (gj e) ?_;rw[gh e]at k;refine' k
def Xm{b:Int}(l:ts.length<=16)(k:∀p g,h p=eM->Ext h g->g p=eL (.lst<|(f6 b 0 ts).map trV)->Q (.ref p) g):wF P (n+2) "neighbours" [ZV bs ts,.int b] h Q X:=by
 unfold ZV;refine K6 ?_;refine' Zm λp g0 hp x0 e0=>?_
 exists eV rfl
 have nl:∀l:List Tie,∀k,(f6 b k l).length<=l.length:=by
  intro l;induction l with
  |nil=>intro k;exact Ì _
  |cons t l ih =>intro k;have:=ih<|k+1;unfold f6;split<;>simp only[Ë]<;>lia
 refine Zx (λi en g=>Sm2 λv3 v4=>Cj3 (en=[eL<|.tup [.tup<|bs.map .int,.tup<|ts.map trV],eL<|.int b,eL<|.ref p,v3,v4]) (Ext h g)<|g p=eL (.lst<|(f6 b 0<|ts.take i).map trV)) ⟨_,_,rfl,x0,e0⟩ (λ_ _ _ _ _=>trivial) ?_ ?_
 .rintro i v en g hv ⟨v3,v4,rfl,x,ep⟩ K hK;obtain⟨y,hy,rfl⟩:=Mi hv;rw[Ý]at hy;obtain⟨t,ht,rfl⟩:=Ò.mp hy;have hi:i<ts.length:=(Ó.mp ht).1;have hn:f6 b 0 (ts.take<|i+1)=f6 b 0 (ts.take i)++(if b=t.1\/b=t.2.1 then [((i:Int),far t b,t.2.2)]else []):=by
   rw[ż,ht];have:=Jg (b:=b) (t:=t) (l:=ts.take i) (k:=0);rw[ă,Ϛ (by lia),ŗ]at this;exact this
  rw[ŗ];have et:trV t=.tup [.int t.1,.int t.2.1,.int t.2.2]:=rfl;fail;rw[et];refine fO (by simp[fB]) ?_;refine Lx (ns:=[t.1,t.2.1]) ?_;refine' fR (λhc=>?_) (λhc=>?_)
  .exists DA (t:=t)
   fail;have hl:=nl (ts.take i) 0;rw[ă]at hl;refine YR ep (by rw[Ã,lim];lia) ?_;refine' hK _ _ ⟨_,_,rfl,?_,?_⟩
   .exact WR x hp
   .have hc:b=t.1\/b=t.2.1:=by simpa using hc
    rw[hn,gg hc,ã];exact eR
  .refine' hK _ _ ⟨_,_,rfl,x,?_⟩;have hc:¬ (b=t.1\/b=t.2.1):=by simpa using hc
   rw[hn,gh hc,õ];exact ep
 .rintro en g ⟨v3,v4,rfl,x,ep⟩;rw[Jq,Ã,ĕ]at ep;refine' k p g hp x ep
end
abbrev Xj(rs:List Tie):List<|Int×(Int×Int):=rs.map λr=>(r.1,r.2)
def KM(rs:List Tie):(Xj rs).map (·.1)=rs.map (·.1):=by unfold Xj;rw[ú];rfl
abbrev Zy(own life most:Int)(rs:List Tie):Br:=⟨own,life,most,Xj rs,[],⟨own,0,eM⟩,0,0⟩
variable {own:Int} {life:Int} {most:Int}
def Uc{rs:List Tie}(hb:h b=eL (.ins "Bridge" []))(hl:h l=eL (.lst<|rs.map trV))(nd:(rs.map (·.1)).Nodup)(h16:rs.length<=16)
  (k:∀t d g,h t=eM->h d=eM->fb g b t d (Zy own life most rs)->Ex [b] h g->Q .non g):wF P (n+1) "Bridge.__init__" [.ref b,.int own,.int life,.ref l,.int most] h Q X:=by
 have nlb:b≠l:=CH hb hl nofun;refine Kb ?_;refine' Yu eR (show(1:Nat)<900 by decide) ?_;refine' Yu eR (show(2:Nat)<900 by decide) ?_;fail;intro t ht;rw[eS,eS]at ht ⊢;have ntb:b≠t:=Zb eR ht;have nht:h t=eM:=by rw[eQ ntb.symm]at ht;exact ht
 have ntl:l≠t:=Zb hl nht;refine' Yu (upd_ne' ntb eR) (show(3:Nat)<900 by decide) ?_;fail;have hl1:∀{o1 o2 o3:Ob},upd (upd (upd h b o1) t o2) b o3 l=eL (.lst<|rs.map trV):=λ{_ _ _}=>by rw[eQ nlb.symm,eQ ntl,eQ nlb.symm];exact hl
 refine Zx (λi e g=>Sm3 λu v w=>Cj4 (e=[eL<|.ref b,eL<|.int own,eL<|.int life,eL<|.ref l,eL<|.int most,u,v,w]) (g b=eL (.ins "Bridge" [("number",.int own),("life",.int life),("age_let_go",.int most),("ties_by_place",.ref t)])) (g t=eL (.dct<|Zg UV<|Xj<|rs.take i))<|Ex [b] h g) ⟨eM,eM,eM,rfl,eR,by rw[eQ ntb.symm];exact eR,?_⟩ ?_ ?_ ?_
 .refine⟨λ{a o} na e=>?_⟩;have nab:a≠b:=by simpa using na
  rw[eQ nab,eQ<|Zb e nht,eQ nab];exact e
 .rintro i e g _ ⟨u,v,w,rfl,h1,h2,h3⟩;exact lsE (h3.get (by simpa using nlb.symm) hl)
 .rintro i v e g hv ⟨u,v,w,rfl,h1,h2,h3⟩ K hK;obtain⟨r,hp,rfl⟩:=Yk hv;have nk:=XB nd hp;obtain⟨p,nb,c⟩:=r;unfold trV;refine' Yv (k:=.int p) h2 ⟨rfl,?_⟩ ?_
  .rw[Mz];unfold Xj;rw[Ã];exact Ü (Ô (List.length_take_le' _ _) h16) (by decide)
  rw[show Val.tup [.int nb,.int c]=UV (nb,c) from rfl,ZY];refine' hK _ _ ⟨_,_,_,rfl,by rw[eQ ntb];exact h1,?_,?_⟩
  .rw[eR,WG,ZB hp]
   .unfold Xj;rw[ã];rfl
   .rw[KM];exact nk
  .exact⟨λna e=>by rw[eQ<|Zb e nht];exact h3.get na e⟩
 .rintro e g ⟨u,v,w,rfl,h1,h2,h3⟩;rw[Ã,ĕ]at h2;fail;intro d hd;have ndb:b≠d:=Zb h1 hd;have ndt:t≠d:=Zb h2 hd;have nhd:h d=eM:=h3.none (by rw[h1];intro z;cases z) hd;refine' Yu eR (show(5:Nat)<900 by decide) ?_;refine' Yu eR (show(6:Nat)<900 by decide) ?_;refine' Yu eR (show(7:Nat)<900 by decide) ?_;fail;rw[eS,eS,eS];refine k t d _ nht nhd ⟨eR,?_,?_,ndt⟩ ?_
  .rw[eQ ntb.symm,eQ ndt];exact h2
  .rw[eQ ndb.symm];exact eR
  .exact(h3.trans<|.of<|Ext.new hd).trans (Ex.upd<|by simp)
def Wl{b:Int}:∀{l:List Tie}{k:Nat},((f6 b k l).map (·.1)).Pairwise (· < ·)/\∀r∈f6 b k l,(k:Int)<=r.1/\r.1<(k+l.length:Nat)
 |[],k=>⟨by simp[f6],λr hr=>gp hr<|by simp[f6]⟩
 |t::l,k=>by
  obtain⟨h1,h2⟩:=Wl (b:=b) (l:=l) (k:=k+1);unfold f6;split
  .refine⟨?_,λr hr=>?_⟩
   .rw[Ï,ϳ];refine⟨λx hx=>?_,h1⟩;obtain⟨r,hr,rfl⟩:=Û.mp hx;have:=(h2 r hr).1;show(k:Int)<r.1;lia
   .rcases Æ.mp hr with rfl|hr
    .exact⟨Int.le_refl _,by show(k:Int)<((k+(t::l).length:Nat):Int);rw[Ë];lia⟩
    .have:=h2 r hr;rw[Ë];lia
  .refine⟨h1,λr hr=>?_⟩;have:=h2 r hr;rw[Ë];lia
def XY{b:Int}:∀{l:List Tie}{k:Nat},(f6 b k l).length<=l.length
 |[],k=>Ì _
 |t::l,k=>by have:=XY (b:=b) (l:=l) (k:=k+1);unfold f6;split<;>simp only[Ë]<;>lia
structure En where
 num:Int
 b:Ad
 t:Ad
 d:Ad
 B:Br
structure Yd where
 y:Ad
 lv:Ad
 st:Ad
 fl:Ad
 rd:Ad
 bs:List Int
 ts:List Tie
 most:Int
 lives:List<|Int×Int
 es:List En
 fallen:List<|Int×Bool
 road:List<|Int×Int×Int×L
abbrev enA(es:List En):List Ad:=es.flatMap λe=>[e.b,e.t,e.d]
abbrev Yd.adr(Y:Yd):List Ad:=[Y.y,Y.lv,Y.st,Y.fl,Y.rd]++enA Y.es
noncomputable abbrev rfV(a:Ad):Val:=.ref a
noncomputable abbrev rdV(r:Int×Int×Int×L):Val:=.tup [.int r.1,.int r.2.1,.int r.2.2.1,r.2.2.2.v]
abbrev stands(es:List En):List<|Int×Ad:=es.map λe=>(e.num,e.b)
def ZL(es:List En):(stands es).map (·.1)=es.map (·.num):=by unfold stands;rw[ú];rfl
structure fc(h:Hs)(Y:Yd):Prop where
 ins:h Y.y=eL (.ins "Yard" [("net_made_of",ZV Y.bs Y.ts),("greatest_age",.int Y.most),("lives",.ref Y.lv),("standing",.ref Y.st),("ties_fallen",.ref Y.fl),("letters_on_road",.ref Y.rd)])
 lives:h Y.lv=eL (.dct<|Zg Val.int Y.lives)
 stand:h Y.st=eL (.dct<|Zg rfV<|stands Y.es)
 fallen:h Y.fl=eL (.dct<|Zg Val.bl Y.fallen)
 road:h Y.rd=eL (.lst<|Y.road.map rdV)
 brs:∀e∈Y.es,fb h e.b e.t e.d e.B
 nd:Y.adr.Nodup
 key:(Y.es.map (·.num)).Nodup
variable {es:List En} {e:En}
def JG(h:e∈es):e.b∈enA es/\e.t∈enA es/\e.d∈enA es:=by refine⟨?_,?_,?_⟩<;>exact ū.mpr ⟨e,h,by simp⟩
def XU(es:List En)(e:En):enA (es++[e])=enA es++[e.b,e.t,e.d]:=by unfold enA;rw[dy];simp
variable {Y:Yd}
def fc.keep{S:List Ad}(x:fc h Y)(e:Ex S h g)(ds:∀a∈Y.adr,a∉S):fc g Y:=by have m:∀a∈[Y.y,Y.lv,Y.st,Y.fl,Y.rd],a∉S:=λa ha=>ds a<|Þ _ ha;refine⟨e.get (m _<|by simp) x.ins,e.get (m _<|by simp) x.lives,e.get (m _<|by simp) x.stand,e.get (m _<|by simp) x.fallen,e.get (m _<|by simp) x.road,λb hb=>?_,x.nd,x.key⟩;obtain⟨q1,q2,q3⟩:=JG hb;exact(x.brs b hb).keep e (ds _<|Ê _ q1) (ds _<|Ê _ q2) (ds _<|Ê _ q3)
def fc.ext(x:fc h Y)(e:Ext h g):fc g Y:=x.keep (S:=[]) (.of e) λ_ _=>by simp
def fc.taken(x:fc h Y)(ha:a∈Y.adr):h a≠eM:=by
 rcases æ.mp ha with ha|ha
 .simp only[Æ,Í,or_false]at ha;rcases ha with rfl|rfl|rfl|rfl|rfl
  .rw[x.ins];simp
  .rw[x.lives];simp
  .rw[x.stand];simp
  .rw[x.fallen];simp
  .rw[x.road];simp
 .obtain⟨e,he,ha⟩:=ū.mp ha;have:=x.brs e he;simp only[Æ,Í,or_false]at ha;rcases ha with rfl|rfl|rfl
  .rw[this.ins];simp
  .rw[this.ties];simp
  .rw[this.held];simp
def Yd.sep(nd:Y.adr.Nodup)(ha:a∈[Y.y,Y.lv,Y.st,Y.fl,Y.rd])(hb:b∈enA Y.es):b≠a:=λz=>(å.mp nd).2.2 a ha b hb z.symm
def Yd.five(nd:Y.adr.Nodup):(Y.y≠Y.lv/\Y.y≠Y.st/\Y.y≠Y.fl/\Y.y≠Y.rd)/\(Y.lv≠Y.st/\Y.lv≠Y.fl/\Y.lv≠Y.rd)/\(Y.st≠Y.fl/\Y.st≠Y.rd)/\Y.fl≠Y.rd:=by have:=(å.mp nd).1;simp only[Ă,Æ,Í,or_false,not_or,not_false_eq_true,ġ,and_true]at this;obtain⟨⟨a1,a2,a3,a4⟩,⟨b1,b2,b3⟩,⟨c1,c2⟩,d1⟩:=this;exact⟨⟨a1,a2,a3,a4⟩,⟨b1,b2,b3⟩,⟨c1,c2⟩,d1⟩
def fb.off(x:fb h e.b e.t e.d e.B)(he:e∈es)(n:∀b∈enA es,b≠a):fb (upd h a o) e.b e.t e.d e.B:=by obtain⟨q1,q2,q3⟩:=JG he;exact⟨(eQ<|n _ q1).trans x.ins,(eQ<|n _ q2).trans x.ties,(eQ<|n _ q3).trans x.held,x.ne⟩
def fc.setLives(x:fc h Y)(l:List<|Int×Int):fc (upd h Y.lv<|.dct<|Zg Val.int l) {Y with lives:=l}:=by obtain⟨⟨a1,a2,a3,a4⟩,⟨b1,b2,b3⟩,_,_⟩:=Yd.five x.nd;exact⟨(eQ a1).trans x.ins,eR,(eQ b1.symm).trans x.stand,(eQ b2.symm).trans x.fallen,(eQ b3.symm).trans x.road,λe he=>(x.brs e he).off he λb hb=>Yd.sep x.nd (by simp) hb,x.nd,x.key⟩
def fc.setRoad(x:fc h Y)(l:List<|Int×Int×Int×L):fc (upd h Y.rd<|.lst<|l.map rdV) {Y with road:=l}:=by obtain⟨⟨a1,a2,a3,a4⟩,⟨b1,b2,b3⟩,⟨c1,c2⟩,d1⟩:=Yd.five x.nd;exact⟨(eQ a4).trans x.ins,(eQ b3).trans x.lives,(eQ c2).trans x.stand,(eQ d1).trans x.fallen,eR,λe he=>(x.brs e he).off he λb hb=>Yd.sep x.nd (by simp) hb,x.nd,x.key⟩
def fc.stands(x:fc h Y)(hb:fb h e.b e.t e.d e.B)(hn:e.num∉Y.es.map (·.num))(fr:∀a∈[e.b,e.t,e.d],a∉Y.adr):fc (upd h Y.st<|.dct<|Zg rfV<|stands<|Y.es++[e]) {Y with es:=Y.es++[e]}:=by
 obtain⟨⟨a1,a2,a3,a4⟩,⟨b1,b2,b3⟩,⟨c1,c2⟩,d1⟩:=Yd.five x.nd;have ů:Y.st∈Y.adr:=Þ _ (by simp);have nb:∀a∈enA (Y.es++[e]),a≠Y.st:=λa ha=>by
  rw[XU]at ha;rcases æ.mp ha with ha|ha
  .exact Yd.sep x.nd (by simp) ha
  .exact λz=>fr a ha<|z▸ů
 refine⟨(eQ a2).trans x.ins,(eQ b1).trans x.lives,eR,(eQ c1.symm).trans x.fallen,(eQ c2.symm).trans x.road,λq hq=>?_,?_,?_⟩
 .refine fb.off ?_ hq nb;rcases æ.mp hq with hq|hq
  .exact x.brs q hq
  .rw[é.mp hq];exact hb
 .show([Y.y,Y.lv,Y.st,Y.fl,Y.rd]++enA (Y.es++[e])).Nodup;rw[XU,<-Ķ,å];refine⟨x.nd,?_,λa ha b hb z=>fr b hb<|z▸ha⟩;simp[hb.nbt,hb.nbd,hb.ne]
 .show((Y.es++[e]).map (·.num)).Nodup;rw[ã,å];refine⟨x.key,by simp,λa ha b hb=>?_⟩;have:b=e.num:=by simpa using hb
  rw[this];exact λz=>hn<|z▸ha
def WH{h0:Hs}{fs:List (String×Val)}{f:String}{K:Hs->Prop}(i:g p=eL (.ins "Yard" fs))(x:Ex [p] h0 g)(hp:h0 p=eM)(ha:g a=eM)(m:fs.length<900)(q:∀g',g' p=eL (.ins "Yard"<|fh fs f<|.ref a)->g' a=eL o->Ex [p] h0 g'->Ex [p] g g'->p≠a->h0 a=eM->K g'):go (fL (upd g a o) (.ref p) f<|.ref a) K:=by
 have n:=Zb i ha;have y:Ex [p] g<|upd (upd g a o) p<|.ins "Yard"<|fh fs f<|.ref a:=⟨λ{b u} nb e=>by rw[eQ λz=>nb<|by simp[z],eQ<|Zb e ha];exact e⟩
 refine Yu (upd_ne' n i) m<|q _ eR ((eQ n.symm).trans eR) (x.trans y) y n ?_;cases z:h0 a with
 |none=>rfl
 |some u=>rw[x.get (by simpa using n.symm) z]at ha;cases ha
structure YNew(bs:List Int)(ts:List Tie)(most:Int)(Y:Yd):Prop where
 hb:Y.bs=bs
 ht:Y.ts=ts
 hm:Y.most=most
 num:Y.es.map (·.num)=bs
 br:∀e∈Y.es,e.B=Zy e.num 0 most (f6 e.num 0 ts)
 fallen:Y.fallen=[]
 road:Y.road=[]
 lives:Y.lives=bs.map λb=>(b,0)
section
variable {bs:List Int}{ts:List Tie}
def AZ(no:fk bs ts)(hp:h p=eM)(k:∀Y g,Y.y=p->fc g Y->YNew bs ts most Y->(∀a∈Y.adr,h a=eM)->Ext h g->Q .non g):wF P (n+3) "Yard.__init__" [.ref p,ZV bs ts,.int most] (upd h p<|.ins "Yard" []) Q X:=by
 have h10:=no.ten;have h16:=no.sixteen;have hbl:(bs.map Val.int).length=bs.length:=Ã _;have ndb:bs.Nodup:=no.up.imp λh=>by lia
 refine Nh ?_;refine' Yu eR (show(1:Nat)<900 by decide) ?_;rw[eS,eS];have i1:=eR (h:=h) (a:=p) (o:=Ob.ins "Yard"<|fh (fh [] "net_made_of"<|ZV bs ts) "greatest_age"<|.int most);have x1:Ex [p] h<|upd h p<|Ob.ins "Yard"<|fh (fh [] "net_made_of"<|ZV bs ts) "greatest_age"<|.int most:=Ex.upd (by simp);generalize upd h p (Ob.ins "Yard"<|fh (fh [] "net_made_of"<|ZV bs ts) "greatest_age"<|.int most)=g1 at i1 x1 ⊢;fail;intro lv hlv;refine' WH i1 x1 hp hlv (show(2:Nat)<900 by decide) λg2 i2 lv2 x2 y2 nlv flv=>?_;fail;intro st ů;refine' WH i2 x2 hp ů (show(3:Nat)<900 by decide) λg3 i3 st3 x3 y3 nst fst=>?_;fail;intro fl hfl;refine' WH i3 x3 hp hfl (show(4:Nat)<900 by decide) λg4 i4 fl4 x4 y4 nfl ffl=>?_;refine' YK λrd hrd=>?_;refine' WH i4 x4 hp hrd (show(5:Nat)<900 by decide) λg5 i5 rd5 x5 y5 nrd frd=>?_;have q1:lv≠st:=Zb lv2 ů;have lv3:=y3.get (by simpa using nlv.symm) lv2;have q2:lv≠fl:=Zb lv3 hfl;have q3:st≠fl:=Zb st3 hfl;have lv4:=y4.get (by simpa using nlv.symm) lv3;have st4:=y4.get (by simpa using nst.symm) st3;have q4:lv≠rd:=Zb lv4 hrd;have q5:st≠rd:=Zb st4 hrd;have q6:fl≠rd:=Zb fl4 hrd;have lv5:=y5.get (by simpa using nlv.symm) lv4;have st5:=y5.get (by simpa using nst.symm) st4;have fl5:=y5.get (by simpa using nfl.symm) fl4;have xe:Ext h g5:=⟨λ{a o} e=>x5.get (by simpa using Zb e hp) e⟩
 have Y0:fc g5 ⟨p,lv,st,fl,rd,bs,ts,most,[],[],[],[]⟩:=⟨i5,lv5,st5,fl5,rd5,(λe he=>gp he Í),by
   show([p,lv,st,fl,rd]++[]).Nodup
   simp[nlv,nst,nfl,nrd,q1,q2,q3,q4,q5,q6],ġ⟩
 exists eW (xs:=[.tup<|bs.map .int,.tup<|ts.map trV]) (v:=.tup<|bs.map .int) rfl
 refine' Zx (λi en g=>Sm3 λv3 lvs es=>Cj7 (en=[eL<|.ref p,eL<|ZV bs ts,eL<|.int most,v3]) (fc g ⟨p,lv,st,fl,rd,bs,ts,most,lvs,es,[],[]⟩) (lvs=(bs.take i).map (λb=>(b,0))) (es.map (·.num)=bs.take i) ((∀e∈es,e.B=Zy e.num 0 most (f6 e.num 0 ts))) ((∀a∈[p,lv,st,fl,rd]++enA es,h a=eM))<|Ext h g) ⟨_,[],[],rfl,Y0,rfl,rfl,(λe he=>gp he Í),?_,xe⟩ (λ_ _ _ _ _=>trivial) ?_ ?_
 .intro a ha;simp only[enA,List.flatMap_nil,õ,Æ,Í,or_false]at ha;rcases ha with rfl|rfl|rfl|rfl|rfl<;>assumption
 .rintro i v en g hv ⟨v3,lvs,es,rfl,Y,hlv,hnum,hbr,bQ,x⟩ K hK;obtain⟨b,hb,rfl⟩:=Yk hv;have hi:i<bs.length:=(Ó.mp hb).1;have hnb:b∉es.map (·.num):=by
   rw[hnum];intro m;have:=XB (f:=id) (by rw[Ϣ];exact ndb) hb;rw[Ϣ]at this;exact this m
  have hll:lvs.length<=10:=by rw[hlv,Ã,ă];lia
  have hkl:b∉lvs.map (·.1):=by rw[hlv,ú,show((λq:Int×Int=>q.1) ∘ λb:Int=>(b,(0:Int)))=id from rfl,Ϣ,<-hnum];exact hnb
  have hesl:es.length<=10:=by rw[<-Ã (f:=(·.num)) (as:=es),hnum,ă];lia
  obtain⟨yi,yl,ys,yf,yr,yb,ynd,yk⟩:=id Y;dsimp only at yi yl ys yf yr yb;refine' Yv (k:=.int b) yl ⟨rfl,by rw[Mz];exact Ü hll<|by decide⟩ ?_;rw[ZY (val:=Val.int)];have Y1:=Y.setLives<|Zl lvs b 0;have x1:Ext h<|upd g lv<|.dct<|Zg Val.int<|Zl lvs b 0:=⟨λe=>by rw[eQ<|Zb e flv];exact x.get e⟩
  dsimp only at Y1;generalize upd g lv (.dct<|Zg Val.int<|Zl lvs b 0)=g6 at Y1 x1;obtain⟨zi,zl,zs,zf,zr,zb,znd,zk⟩:=id Y1;dsimp only at zi zl zs zf zr zb;refine' Xm h16 λpn g7 hpn x7 en=>?_;have Y7:=Y1.ext x7;fail;intro q hq;have nr:=Wl (b:=b) (l:=ts) (k:=0);have nl:=XY (b:=b) (l:=ts) (k:=0);have xq:Ext g7<|upd g7 q<|.ins "Bridge" []:=Ext.new hq;have eq:(upd g7 q<|.ins "Bridge" []) q=eL (.ins "Bridge" []):=eR;refine Uc (rs:=f6 b 0 ts) eq (xq.get en) (nr.1.imp λz=>by lia) (by lia) λt d g8 ht hd ba x8=>?_;have x78:Ext g7 g8:=⟨λ{a o} e=>x8.get (by simpa using Zb e hq)<|xq.get e⟩
  have Y8:=Y7.ext x78;have ht7:g7 t=eM:=by cases z:g7 t with|none=>rfl|some o=>rw[xq.get z]at ht;cases ht
  have hd7:g7 d=eM:=by cases z:g7 d with|none=>rfl|some o=>rw[xq.get z]at hd;cases hd
  refine⟨rfl,?_⟩;obtain⟨wi,wl,ws,wf,wr,wb,wnd,wk⟩:=id Y8;dsimp only at wi wl ws wf wr wb;refine' Yv (k:=.int b) ws ⟨rfl,by rw[Mz];unfold stands;rw[Ã];exact Ü hesl<|by decide⟩ ?_;rw[ZY (val:=rfV),WG _<|by rw[ZL];exact hnb];have ů:stands es++[(b,q)]=stands (es++[⟨b,q,t,d,Zy b 0 most<|f6 b 0 ts⟩]):=by unfold stands;rw[ã];rfl
  rw[ů];have fr:∀a∈[q,t,d],g7 a=eM:=λa ha=>by simp only[Æ,Í,or_false]at ha;rcases ha with rfl|rfl|rfl<;>assumption
  have Y9:=Y8.stands (e:=⟨b,q,t,d,Zy b 0 most<|f6 b 0 ts⟩) ba hnb λa ha z=>Y7.taken z<|fr a ha;fail;have x9:Ext h g8:=(x1.trans x7).trans x78;refine hK _ _ ⟨_,_,_,rfl,Y9,?_,?_,?_,?_,⟨λe=>by rw[eQ<|Zb e fst];exact x9.get e⟩⟩
  .show Zl lvs b 0=_;rw[WG _ hkl,hlv,ZB hb,ã];rfl
  .rw[ã,hnum,ż,hb];rfl
  .intro e he;rcases æ.mp he with he|he
   .exact hbr e he
   .rw[é.mp he]
  .intro a ha;rw[XU,<-Ķ]at ha;rcases æ.mp ha with ha|ha
   .exact bQ a ha
   .cases z:h a with
    |none=>rfl
    |some o=>have:=fr a ha;rw[(x1.trans x7).get z]at this;cases this
 .rintro en g ⟨v3,lvs,es,rfl,Y,hlv,hnum,hbr,bQ,x⟩;rw[hbl,ĕ]at hnum hlv;refine' k _ g rfl Y ⟨rfl,rfl,rfl,hnum,hbr,rfl,rfl,hlv⟩ bQ x
end
abbrev U4(ts:List Tie)(p num:Int):Int:=far (ts[p.toNat]?.getD (0,0,0)) num
abbrev ZN(ts:List Tie)(num:Int)(B:Br):List<|Int×Int×Int×L:=(sortI (B.ties.map (·.1))).map λp=>(num,U4 ts p num,p,Zz B p)
def XO{num:Int}(h:(stands es).lookup num=eL b):∃e pre Ŋ,es=pre++e::Ŋ/\e.num=num/\e.b=b:=by have:=ZC h;unfold stands at this;obtain⟨e,he,z⟩:=Û.mp this;obtain⟨pre,Ŋ,rfl⟩:=dU he;injection z with z1 z2;exact⟨e,pre,Ŋ,rfl,z1,z2⟩
def YE(pre Ŋ:List En)(e:En):enA (pre++e::Ŋ)=enA pre++([e.b,e.t,e.d]++enA Ŋ):=by unfold enA;rw[dy];rfl
variable {Ŋ:List En}
def fc.change{pre:List En}(x:fc h Y)(he:Y.es=pre++e::Ŋ)(ex:Ex [e.b] h g)(hb:fb g e.b t d B)(ft:t=e.t\/h t=eM)(fd:d=e.d\/h d=eM):fc g {Y with es:=pre++⟨e.num,e.b,t,d,B⟩::Ŋ}:=by
 obtain⟨y,lv,st,fl,rd,bs,ts,most,lives,es,fallen,road⟩:=Y;dsimp only at he;subst he;have hm:e∈pre++e::Ŋ:=by simp
 have heA:=JG hm;have nb:∀a∈[y,lv,st,fl,rd],a∉[e.b]:=λa ha z=>Yd.sep x.nd ha heA.1 (é.mp z).symm;have nd0:([y,lv,st,fl,rd]++(enA pre++([e.b,e.t,e.d]++enA Ŋ))).Nodup:=by rw[<-YE];exact x.nd
 have key:∀q∈pre++Ŋ,fb g q.b q.t q.d q.B:=λq hq=>by
  have hq':q∈pre++e::Ŋ:=by
   rcases æ.mp hq with z|z
   .exact Þ _ z
   .exact Ê _<|Ú _ z
  have nq:∀a∈[q.b,q.t,q.d],a≠e.b:=λa ha z=>by
   have n1:=(å.mp nd0).2.1;rcases æ.mp hq with hq|hq
   .have ha':a∈enA pre:=ū.mpr ⟨q,hq,ha⟩;exact(å.mp n1).2.2 a ha' e.b (by simp) z
   .have ha':a∈enA Ŋ:=ū.mpr ⟨q,hq,ha⟩;have n2:=(å.mp n1).2.1;exact(å.mp n2).2.2 e.b (by simp) a ha' z.symm
  exact(x.brs q hq').keep ex (by simpa using nq _ (by simp)) (by simpa using nq _ (by simp)) (by simpa using nq _ (by simp))
 have tk:∀a∈[y,lv,st,fl,rd]++(enA pre++([e.b,e.t,e.d]++enA Ŋ)),h a≠eM:=λa ha=>x.taken (by show a∈[y,lv,st,fl,rd]++enA (pre++e::Ŋ);rw[YE];exact ha);have fr:∀{a c:Ad},(a=c\/h a=eM)->∀z,z∈[y,lv,st,fl,rd]++(enA pre++([e.b,e.t,e.d]++enA Ŋ))->z≠c->z≠a:=λf z hz nc e=>by
  subst e;rcases f with f|f
  .exact nc f
  .exact tk z hz f
 refine⟨ex.get (nb _<|by simp) x.ins,ex.get (nb _<|by simp) x.lives,?_,ex.get (nb _<|by simp) x.fallen,ex.get (nb _<|by simp) x.road,λq hq=>?_,?_,?_⟩
 .have:=ex.get (nb st<|by simp) x.stand;dsimp only at this ⊢;rw[this];unfold gf.stands;simp
 .dsimp only at hq;rcases æ.mp hq with z|z
  .exact key q<|Þ _ z
  .rcases Æ.mp z with rfl|z
   .exact hb
   .exact key q<|Ê _ z
 .show([y,lv,st,fl,rd]++enA (pre++⟨e.num,e.b,t,d,B⟩::Ŋ)).Nodup;rw[YE];dsimp only;have n1:=å.mp nd0;have n2:=å.mp n1.2.1;have n3:=å.mp n2.2.1;have e3:e.b≠e.t/\e.b≠e.d/\e.t≠e.d:=by
   have:=n3.1;simp only[Ă,Æ,Í,or_false,not_or,ġ,and_true,not_false_eq_true]at this;exact⟨this.1.1,this.1.2,this.2⟩
  have out:∀z,z∈[y,lv,st,fl,rd]\/z∈enA pre\/z∈enA Ŋ->z∉[e.b,t,d]:=λz hz m=>by
   have hza:z∈[y,lv,st,fl,rd]++(enA pre++([e.b,e.t,e.d]++enA Ŋ)):=by
    rcases hz with q|q|q
    .exact Þ _ q
    .exact Ê _<|Þ _ q
    .exact Ê _<|Ê _<|Ê _ q
   have nz:∀c∈[e.b,e.t,e.d],z≠c:=λc hc w=>by
    rcases hz with q|q|q
    .exact n1.2.2 z q c (Ê _<|Þ _ hc) w
    .exact n2.2.2 z q c (Þ _ hc) w
    .exact n3.2.2 c hc z q w.symm
   simp only[Æ,Í,or_false]at m;rcases m with m|m|m
   .exact nz e.b (by simp) m
   .exact fr ft z hza (nz e.t<|by simp) m
   .exact fr fd z hza (nz e.d<|by simp) m
  refine å.mpr ⟨n1.1,å.mpr ⟨n2.1,å.mpr ⟨?_,n3.2.1,λa ha b hb z=>out b (.inr<|.inr hb)<|z▸ha⟩,λa ha b hb z=>?_⟩,λa ha b hb z=>?_⟩
  .simp[hb.nbt,hb.nbd,hb.ne]
  .rcases æ.mp hb with q|q
   .exact out a (.inr<|.inl ha)<|z▸q
   .exact n2.2.2 a ha b (Ê _ q) z
  .rcases æ.mp hb with q|q
   .exact n1.2.2 a ha b (Þ _ q) z
   .rcases æ.mp q with q|q
    .exact out a (.inl ha)<|z▸q
    .exact n1.2.2 a ha b (Ê _<|Ê _ q) z
 .have:=x.key;simpa using this
def fc.inner{pre:List En}(x:fc h Y)(he:Y.es=pre++e::Ŋ)(ex:Ex [e.b,e.t,e.d] h g)(hb:fb g e.b e.t e.d B):fc g {Y with es:=pre ++ {e with B:=B} :: Ŋ}:=by
 obtain⟨y,lv,st,fl,rd,bs,ts,most,lives,es,fallen,road⟩:=Y;dsimp only at he;subst he;have nd0:([y,lv,st,fl,rd]++(enA pre++([e.b,e.t,e.d]++enA Ŋ))).Nodup:=by rw[<-YE];exact x.nd
 have n1:=å.mp nd0;have n2:=å.mp n1.2.1;have n3:=å.mp n2.2.1;have nb:∀a∈[y,lv,st,fl,rd],a∉[e.b,e.t,e.d]:=λa ha z=>n1.2.2 a ha a (Ê _<|Þ _ z) rfl;have key:∀q,q∈pre\/q∈Ŋ->fb g q.b q.t q.d q.B:=λq hq=>by
  have hq':q∈pre++e::Ŋ:=by
   rcases hq with z|z
   .exact Þ _ z
   .exact Ê _<|Ú _ z
  have nq:∀a∈[q.b,q.t,q.d],a∉[e.b,e.t,e.d]:=λa ha z=>by
   rcases hq with hq|hq
   .exact n2.2.2 a (ū.mpr ⟨q,hq,ha⟩) a (Þ _ z) rfl
   .exact n3.2.2 a z a (ū.mpr ⟨q,hq,ha⟩) rfl
  exact(x.brs q hq').keep ex (nq _<|by simp) (nq _<|by simp) (nq _<|by simp)
 refine⟨ex.get (nb _<|by simp) x.ins,ex.get (nb _<|by simp) x.lives,?_,ex.get (nb _<|by simp) x.fallen,ex.get (nb _<|by simp) x.road,λq hq=>?_,?_,?_⟩
 .have:=ex.get (nb st<|by simp) x.stand;dsimp only at this ⊢;rw[this];unfold gf.stands;simp
 .dsimp only at hq;rcases æ.mp hq with z|z
  .exact key q<|.inl z
  .rcases Æ.mp z with rfl|z
   .exact hb
   .exact key q<|.inr z
 .show([y,lv,st,fl,rd]++enA (pre ++ {e with B:=B} :: Ŋ)).Nodup;rw[YE];exact nd0
 .have:=x.key;dsimp only at this ⊢;simpa using this
abbrev Z9(k:Int)(F:Br->Br)(es:List En):List En:=es.map λe=>if e.num=k then {e with B:=F e.B} else e
def WV{k:Int}{F:Br->Br}:∀{es:List En},k∉es.map (·.num)->Z9 k F es=es
 |[],_=>rfl
 |e::es,h=>by rw[Ï,Æ,not_or]at h;unfold Z9;rw[Ï,gh λz=>h.1 z.symm];exact congrArg (e :: ·)<|WV h.2
variable {F:Br->Br}
def M9{pre:List En}(nd:((pre++e::Ŋ).map (·.num)).Nodup):Z9 e.num F (pre++e::Ŋ)=pre ++ {e with B:=F e.B} :: Ŋ:=by rw[ã,Ï,å,Ă]at nd;have h1:Z9 e.num F pre=pre:=WV λz=>nd.2.2 _ z e.num (by simp) rfl;have h2:Z9 e.num F Ŋ=Ŋ:=WV nd.2.1.1;unfold Z9 at h1 h2 ⊢;rw[ã,Ï,h1,h2,gg rfl]
def NJ{k:Int}(es:List En):(Z9 k F es).map (·.num)=es.map (·.num):=by unfold Z9;rw[ú];refine ą λe _=>?_;show(if e.num=k then({e with B:=F e.B}:En)else e).num=e.num;split<;>rfl
def NA{k:Int}(es:List En):stands (Z9 k F es)=stands es:=by unfold Z9 stands;rw[ú];refine ą λe _=>?_;show((if e.num=k then({e with B:=F e.B}:En)else e).num,(if e.num=k then({e with B:=F e.B}:En)else e).b)=_;split<;>rfl
def XE{k:Int}{F:Br->Br}:∀es:List En,enA (Z9 k F es)=enA es
 |[]=>rfl
 |e::es=>by have:=XE (k:=k) (F:=F) es;unfold Z9 enA at this ⊢;rw[Ï,Ž,Ž,this];split<;>rfl
def NN{k:Int}{q:En}(h:q∈Z9 k F es):(q∈es/\q.num≠k)\/∃e∈es,e.num=k/\q={e with B:=F e.B}:=by
 obtain⟨e,he,rfl⟩:=Û.mp h;by_cases z:e.num=k
 .right;exact⟨e,he,z,by rw[gg z]⟩
 .left;rw[gh z];exact⟨he,z⟩
abbrev tieF(on:Bool)(p:Int)(far c:Int)(B:Br):Br:=if on then upB B p (far,c)else Nk B p
abbrev setT(on:Bool)(p:Int)(t:Tie)(es:List En):List En:=Z9 t.2.1 (tieF on p t.1 t.2.2)<|Z9 t.1 (tieF on p t.2.1 t.2.2) es
abbrev onT(Y:Yd)(p:Int)(t:Tie):Bool:=!(Y.fallen.lookup p).isSome&&(((stands Y.es).lookup t.1).isSome&&((stands Y.es).lookup t.2.1).isSome)
section
variable {Y:Yd}
def fc.one(x:fc h Y)(he:e∈Y.es)(ex:Ex [e.b,e.t,e.d] h g)(hb:fb g e.b e.t e.d<|F e.B):fc g {Y with es:=Z9 e.num F Y.es}:=by obtain⟨pre,Ŋ,hs⟩:=dU he;have k:=x.key;rw[hs]at k;rw[hs,M9 k];exact x.inner hs ex hb
end
noncomputable abbrev Et:Ss:=#[.ite (.val<|.var 5) #[.expr<|.meth "Bridge" "up" (.idx (.fld (.var 0) "standing")<|.var 6) #[.var 1,.var 7,.var 4]] #[.ite (.val<|.cmp .isin (.var 6)<|.fld (.var 0) "standing") #[.expr<|.meth "Bridge" "down" (.idx (.fld (.var 0) "standing")<|.var 6) #[.var 1]] .nil]]
section
variable {Y:Yd}
def Mh{p:Nat}{t1 t2:Int}{on:Bool}{v6 v7:Option Val}{R:NQ}(x:fc h Y)(hn:t1≠t2)(gd:∀e∈Y.es,e.B.ok)(hon:∀near far:Int,(near=t1/\far=t2\/near=t2/\far=t1)->on=eN->∃b,(stands Y.es).lookup near=eL b)
  (k:∀g e,fc g {Y with es:=setT on p (t1,t2,c) Y.es}->Ex Y.adr h g->R e g) :
  wFor (λ_=>True) (λv e g K M=>go (bind (.many [6,7]) g v e) λe2=>wSs (wF P<|n+1) Et e2 g K Q M K λ_ c g=>X c g) R [.tup [.int t1,.int t2],.tup [.int t2,.int t1]] [eL<|.ref Y.y,eL<|.int p,eL<|.int t1,eL<|.int t2,eL<|.int c,eL<|.bl on,v6,v7] h:=by
 refine Zx (λi e g=>∃v6 v7 es',e=[eL<|.ref Y.y,eL<|.int p,eL<|.int t1,eL<|.int t2,eL<|.int c,eL<|.bl on,v6,v7]/\fc g {Y with es:=es'}/\Ex Y.adr h g/\(i=0->es'=Y.es)/\(i=1->es'=Z9 t1 (tieF on p t2 c) Y.es)/\(i=2->es'=setT on p (t1,t2,c) Y.es)) ⟨_,_,Y.es,rfl,x,Ex.refl,λ_=>rfl,λz=>(by cases z),λz=>(by cases z)⟩ (λ_ _ _ _ _=>trivial) ?_ ?_
 .rintro i v e g hv ⟨u6,u7,es',rfl,y,xg,q0,q1,q2⟩ K hK;obtain⟨near,far,rfl,hnf,ů,heA,hgd,hnext⟩:∃near far,v=.tup [.int near,.int far]/\(near=t1/\far=t2\/near=t2/\far=t1)/\stands es'=stands Y.es/\enA es'=enA Y.es/\(∀e∈es',e.num=near->e.B.ok)/\∀dG,dG=Z9 near (tieF on p far c) es'->(i+1=0->dG=Y.es)/\(i+1=1->dG=Z9 t1 (tieF on p t2 c) Y.es)/\(i+1=2->dG=setT on p (t1,t2,c) Y.es):=by
   match i,hv with
   |0,hv =>cases hv;have:=q0 rfl;subst this;exact⟨t1,t2,rfl,.inl ⟨rfl,rfl⟩,rfl,rfl,λe he _=>gd e he,λdG z=>⟨λy=>(by cases y),λ_=>z,λy=>(by cases y)⟩⟩
   |1,hv =>
    cases hv;have:=q1 rfl;subst this;refine⟨t2,t1,rfl,.inr ⟨rfl,rfl⟩,NA _,XE _,λe he hz=>?_,λdG z=>⟨λy=>(by cases y),λy=>(by cases y),λ_=>z⟩⟩;rcases NN he with⟨hm,_⟩|⟨q,hq,hq1,hq2⟩
    .exact gd e hm
    .exact gp (by rw[hq2]at hz;exact hq1.symm.trans hz) hn
   |i+2,hv=>simp at hv
  have yi:=y.ins;have ys:=y.stand;dsimp only at yi ys;have step:∀{e:En}{g':Hs},e∈es'->e.num=near->Ex [e.b,e.t,e.d] g g'->fb g' e.b e.t e.d (tieF on p far c e.B)->∀w6 w7,K [eL<|.ref Y.y,eL<|.int p,eL<|.int t1,eL<|.int t2,eL<|.int c,eL<|.bl on,w6,w7] g':=λ{e g'} he ž ex hb w6 w7=>by
   have y':=y.one (F:=tieF on p far c) he ex hb;rw[ž]at y';have mA:=JG he;refine hK _ _ ⟨w6,w7,_,rfl,y',xg.trans<|ex.sub λa ha=>?_,hnext _ rfl⟩;refine Ê _ ?_;rw[<-heA];simp only[Æ,Í,or_false]at ha;rcases ha with rfl|rfl|rfl
   .exact mA.1
   .exact mA.2.1
   .exact mA.2.2
  fail;cases hob:on with
  |true =>
   obtain⟨b,lk⟩:=hon near far hnf hob;rw[<-ů]at lk;obtain⟨e,pre,Ŋ,hs,ž,hbb⟩:=XO lk;have hm:e∈es':=by rw[hs];simp
   have ba:=y.brs e hm;have bi:=ba.ins;subst hbb;refine fP rfl ?_;refine' YS ys rfl (by rw[Z4,lk];rfl) ?_;refine' Qf ba (hgd e hm ž) λg' b' x'=>?_;fail;rw[<-hob];exact step hm ž (x'.sub<|by simp) (by unfold tieF;rw[hob];exact b') _ _
  |false =>
   refine fQ rfl ?_
   exists JF ys rfl
   rw[Yb];cases hlk:(stands es').lookup near with
   |none =>
    walk_at "p";rw[<-hob];refine hK _ _ ⟨_,_,es',rfl,y,xg,hnext es' (WV ?_).symm⟩;have:=Xa hlk
    rwa [ZL]at this
   |some b =>
    obtain⟨e,pre,Ŋ,hs,ž,hbb⟩:=XO hlk;have hm:e∈es':=by rw[hs];simp
    have ba:=y.brs e hm;have bi:=ba.ins;subst hbb;walk_at "p";refine YS ys rfl (by rw[Z4,hlk];rfl) ?_;refine' FH ba λg' b' x'=>?_;fail;rw[<-hob];exact step hm ž (x'.sub<|by simp) (by unfold tieF;rw[hob];exact b') _ _
 .rintro e g ⟨u6,u7,es',rfl,y,xg,q0,q1,q2⟩;have:=q2 rfl;subst this;exact k _ _ y xg
def Wk{p:Nat}{t:Tie}(x:fc h Y)(et:Y.ts[p]?=eL t)(hn:t.1≠t.2.1)(gd:∀e∈Y.es,e.B.ok)(k:∀g,fc g {Y with es:=setT (onT Y p t) p t Y.es}->Ex Y.adr h g->Q .non g):wF P (n+2) "Yard.set_tie" [.ref Y.y,.int p] h Q X:=by
 have xi:=x.ins;have xs:=x.stand;have xf:=x.fallen;obtain⟨t1,t2,c⟩:=t;dsimp only at hn;have fin:onT Y p (t1,t2,c)=onT Y p (t1,t2,c)->∀near far:Int,(near=t1/\far=t2\/near=t2/\far=t1)->onT Y p (t1,t2,c)=eN->∃b,(stands Y.es).lookup near=eL b:=λ_ near far hv ho=>by
  simp only[onT,bAq]at ho;rcases hv with⟨rfl,_⟩|⟨rfl,_⟩
  .exact ī.mp ho.2.1
  .exact ī.mp ho.2.2
 refine Jd ?_
 exists eW (xs:=[.tup<|Y.bs.map .int,.tup<|Y.ts.map trV]) (v:=.tup<|Y.ts.map trV) rfl
 refine' eW (v:=.tup [.int t1,.int t2,.int c]) (Yz (by lia)<|by rw[Ý,á,et];rfl) ?_
 exists Ye xf rfl
 rw[Yb];obtain⟨on,hon⟩:∃on:Bool,on=onT Y p (t1,t2,c):=⟨_,rfl⟩
 rw[<-hon]at k fin;have fin:=fin rfl;cases e1:(Y.fallen.lookup (p:Int)).isSome with
 |true =>
  have z:eP=on:=by rw[hon];unfold onT;rw[e1];rfl
  walk_at "p";rw[z];exact Mh x hn gd fin λg e y xg=>by fail;exact k g y xg
 |false =>
  walk_at "p";refine JF xs rfl ?_;rw[Yb];cases e2:((stands Y.es).lookup t1).isSome with
  |false =>
   have z:eP=on:=by rw[hon];unfold onT;rw[e1,e2];rfl
   walk_at "p";rw[z];exact Mh x hn gd fin λg e y xg=>by fail;exact k g y xg
  |true =>
   walk_at "p";refine JF xs rfl ?_;rw[Yb];have z:((stands Y.es).lookup t2).isSome=on:=by rw[hon];unfold onT;rw[e1,e2];rfl
   rw[z];refine' Mh x hn gd fin λg e y xg=>by fail;exact k g y xg
end
def MD{on:Bool}{p far:Int}(o:B.ok)(h0:0<=p)(h1:p<16):(tieF on p far c B).ok:=by
 unfold tieF;split
 .exact o.up h0 h1
 .exact o.down p
def Uw{k:Int}(gd:∀e∈es,e.B.ok)(hF:∀B,B.ok->(F B).ok):∀e∈Z9 k F es,e.B.ok:=λq hq=>by
 rcases NN hq with⟨hm,_⟩|⟨e,he,_,rfl⟩
 .exact gd q hm
 .exact hF _<|gd e he
def E3{on:Bool}{p:Int}{t:Tie}(gd:∀e∈es,e.B.ok)(h0:0<=p)(h1:p<16):∀e∈setT on p t es,e.B.ok :=
 Uw (Uw gd λ_ o=>MD o h0 h1) λ_ o=>MD o h0 h1
def Dg{on:Bool}{p:Int}{t:Tie}(es:List En):(setT on p t es).map (·.num)=es.map (·.num):=by unfold setT;rw[NJ,NJ]
def Jt{on:Bool}{p:Int}{t:Tie}(es:List En):enA (setT on p t es)=enA es:=by unfold setT;rw[XE,XE]
abbrev ZO(Y:Yd)(l:List Tie):Yd:=l.foldl (λY r=>{Y with es:=setT (onT Y r.1<|Y.ts[r.1.toNat]?.getD (0,0,0)) r.1 (Y.ts[r.1.toNat]?.getD (0,0,0)) Y.es}) Y
def JM(Y:Yd)(l:List Tie)(r:Tie):ZO Y (l++[r])={ZO Y l with es:=setT (onT (ZO Y l) r.1<|(ZO Y l).ts[r.1.toNat]?.getD (0,0,0)) r.1 ((ZO Y l).ts[r.1.toNat]?.getD (0,0,0)) (ZO Y l).es}:=by unfold ZO;rw[List.foldl_append];rfl
structure Same(Y Z:Yd):Prop where
 y:Z.y=Y.y
 lv:Z.lv=Y.lv
 st:Z.st=Y.st
 fl:Z.fl=Y.fl
 rd:Z.rd=Y.rd
 bs:Z.bs=Y.bs
 ts:Z.ts=Y.ts
 most:Z.most=Y.most
 lives:Z.lives=Y.lives
 fallen:Z.fallen=Y.fallen
 road:Z.road=Y.road
 num:Z.es.map (·.num)=Y.es.map (·.num)
 enA:enA Z.es=enA Y.es
variable {Z:Yd}
def Same.adr(s:Same Y Z):Z.adr=Y.adr:=by unfold Yd.adr;rw[s.y,s.lv,s.st,s.fl,s.rd,s.enA]
def Same.refl:Same Y Y:=⟨rfl,rfl,rfl,rfl,rfl,rfl,rfl,rfl,rfl,rfl,rfl,rfl,rfl⟩
def Same.trans{W:Yd}(a:Same Y Z)(b:Same Z W):Same Y W:=⟨b.y.trans a.y,b.lv.trans a.lv,b.st.trans a.st,b.fl.trans a.fl,b.rd.trans a.rd,b.bs.trans a.bs,b.ts.trans a.ts,b.most.trans a.most,b.lives.trans a.lives,b.fallen.trans a.fallen,b.road.trans a.road,b.num.trans a.num,b.enA.trans a.enA⟩
def Same.setT{on:Bool}{p:Int}{t:Tie}:Same Y {Y with es:=setT on p t Y.es}:=⟨rfl,rfl,rfl,rfl,rfl,rfl,rfl,rfl,rfl,rfl,rfl,Dg _,Jt _⟩
def Yy:∀(l:List Tie) (Y:Yd),Same Y (ZO Y l)
 |[],_=>.refl
 |_::l,_=>Same.setT.trans<|Yy l _
section
variable {Y:Yd}
def W6{b:Int}(no:fk Y.bs Y.ts)(x:fc h Y)(gd:∀e∈Y.es,e.B.ok)(k:∀g,fc g (ZO Y<|f6 b 0 Y.ts)->(∀e∈(ZO Y<|f6 b 0 Y.ts).es,e.B.ok)->Ex Y.adr h g->Q .non g):wF P (n+3) "Yard.set_ties_of" [.ref Y.y,.int b] h Q X:=by
 have xi:=x.ins;have h16:=no.sixteen;refine XA ?_;refine' Xm no.sixteen λp g0 hp x0 e0=>?_;fail;have x':=x.ext x0;have npA:p∉Y.adr:=λz=>x.taken z hp;refine Zx (λi e g=>Sm3 λv2 v3 v4=>Cj4 (e=[eL<|.ref Y.y,eL<|.int b,v2,v3,v4]) (fc g<|ZO Y<|(f6 b 0 Y.ts).take i) ((∀e∈(ZO Y<|(f6 b 0 Y.ts).take i).es,e.B.ok))<|Ex Y.adr g0 g) ⟨_,_,_,rfl,x',gd,Ex.refl⟩ (λi e g _ ⟨_,_,_,_,_,_,z⟩=>lsE<|z.get npA e0) ?_ ?_
 .rintro i v e g hv ⟨v2,v3,v4,rfl,y,gi,xg⟩ K hK;obtain⟨r,hr,rfl⟩:=Yk hv;have sm:=Yy ((f6 b 0 Y.ts).take i) Y;have rg:=(Wl (b:=b) (l:=Y.ts) (k:=0)).2 r<|ó hr;obtain⟨q,hq⟩:∃q:Nat,r.1=q:=⟨r.1.toNat,by lia⟩
  have hql:q<Y.ts.length:=by lia
  have et:(ZO Y<|(f6 b 0 Y.ts).take i).ts[q]?=eL Y.ts[q]:=by rw[sm.ts];exact É hql
  have lo:=no.tie _<|Ł hql;have yi:=y.ins;rw[sm.y]at yi;obtain⟨r1,r2,r3⟩:=r;dsimp only at hq;subst hq;unfold trV;fail;rw[<-sm.y];refine Wk y et (by have:=lo.2.2.1;lia) gi λg1 y1 xg1=>?_;rw[sm.adr]at xg1;fail;rw[sm.y];refine hK _ _ ⟨_,_,_,rfl,?_,?_,xg.trans xg1⟩
  .rw[ZB hr,JM];dsimp only;rw[á,et];exact y1
  .rw[ZB hr,JM];dsimp only;rw[á,et];exact E3 gi (by lia) (by lia)
 .rintro e g ⟨v2,v3,v4,rfl,y,gi,xg⟩;rw[Ã,ĕ]at y gi;refine' k g y gi ((Ex.of x0).trans xg)
end
abbrev Yo(b:Int)(es:List En):List En:=es.filter λe=>gq (e.num≠b)
def KU(b:Int)(es:List En):Zh (stands es) b=stands (Yo b es):=by unfold Zh stands Yo;rw[List.filter_map];rfl
def Xd(b:Int)(es:List En):(Yo b es).Sublist es:=Ļ
def WN{fs:List En}(h:es.Sublist fs):(enA es).Sublist<|enA fs:=by
 induction h with
 |slnil=>exact .slnil
 |cons a _ ih=>unfold enA at ih ⊢;rw[Ž];exact ih.trans<|List.sublist_append_right _ _
 |cons_cons a _ ih=>unfold enA at ih ⊢;rw[Ž,Ž];exact(μ _).append ih
def fc.drop(x:fc h Y)(b:Int):fc (upd h Y.st<|.dct<|Zg rfV<|gf.stands<|Yo b Y.es) {Y with es:=Yo b Y.es}:=by
 obtain⟨⟨a1,a2,a3,a4⟩,⟨b1,b2,b3⟩,⟨c1,c2⟩,d1⟩:=Yd.five x.nd;have sb:=Xd b Y.es;have nb:∀a∈enA (Yo b Y.es),a≠Y.st:=λa ha=>Yd.sep x.nd (by simp)<|(WN sb).subset ha;refine⟨(eQ a2).trans x.ins,(eQ b1).trans x.lives,eR,(eQ c1.symm).trans x.fallen,(eQ c2.symm).trans x.road,λq hq=>(x.brs q<|sb.subset hq).off hq nb,?_,?_⟩
 .exact((μ _).append<|WN sb).nodup x.nd
 .exact(sb.map _).nodup x.key
def fc.setFallen(x:fc h Y)(l:List<|Int×Bool):fc (upd h Y.fl<|.dct<|Zg Val.bl l) {Y with fallen:=l}:=by obtain⟨⟨a1,a2,a3,a4⟩,⟨b1,b2,b3⟩,⟨c1,c2⟩,d1⟩:=Yd.five x.nd;exact⟨(eQ a3).trans x.ins,(eQ b2).trans x.lives,(eQ c1).trans x.stand,eR,(eQ d1.symm).trans x.road,λe he=>(x.brs e he).off he λb hb=>Yd.sep x.nd (by simp) hb,x.nd,x.key⟩
section
variable {Y:Yd}
def BG{b:Int}(no:fk Y.bs Y.ts)(x:fc h Y)(gd:∀e∈Y.es,e.B.ok)(hb:b∈Y.es.map (·.num))(k:∀g,fc g (ZO {Y with es:=Yo b Y.es}<|f6 b 0 Y.ts)->(∀e∈(ZO {Y with es:=Yo b Y.es}<|f6 b 0 Y.ts).es,e.B.ok)->Ex Y.adr h g->Q .non g):wF P (n+4) "Yard.fall_of_bridge" [.ref Y.y,.int b] h Q X:=by
 have xi:=x.ins;have xs:=x.stand;obtain⟨a,lk⟩:∃a,(stands Y.es).lookup b=eL a:=KK (by rw[ZL];exact hb);refine ZP ?_
 exists Ye xs rfl
 rw[Yb,lk];walk_at "p";refine B9 xs rfl (by rw[Z4,lk];rfl) ?_;rw[X4,KU];dsimp only;have y1:=x.drop b;have x1:Ex Y.adr h<|upd h Y.st<|.dct<|Zg rfV<|stands<|Yo b Y.es:=Ex.upd (Þ _<|by simp);generalize upd h Y.st (.dct<|Zg rfV<|stands<|Yo b Y.es)=g1 at y1 x1;have yi:=y1.ins;dsimp only at yi;refine' W6 (Y:={Y with es:=Yo b Y.es}) no y1 (λe he=>gd e<|(Xd b Y.es).subset he) λg2 y2 gd2 x2=>?_;refine' k g2 y2 gd2 (x1.trans<|x2.sub λa ha=>?_);exact((μ _).append<|WN<|Xd b Y.es).subset ha
end
section
variable {Y:Yd}
def A6{p:Nat}{t:Tie}(no:fk Y.bs Y.ts)(x:fc h Y)(gd:∀e∈Y.es,e.B.ok)(et:Y.ts[p]?=eL t)(hf:Y.fallen.lookup (p:Int)=eM)(hl:Y.fallen.length<=100)(k:∀g,fc g {Y with fallen:=Zl Y.fallen p eN,es:=setT (onT {Y with fallen:=Zl Y.fallen p eN} p t) p t Y.es}->Ex Y.adr h g->Q .non g):wF P (n+3) "Yard.fall_of_tie" [.ref Y.y,.int p] h Q X:=by
 have xi:=x.ins;have xf:=x.fallen;have hp:p<Y.ts.length:=(Ó.mp et).1;have dI:(Y.ts.map trV).length=Y.ts.length:=Ã _;have lo:=no.tie _<|ó et;refine ZF ?_
 exists ZK
 fail;refine fP (by simp) ?_
 exists eW (xs:=[.tup<|Y.bs.map .int,.tup<|Y.ts.map trV]) (v:=.tup<|Y.ts.map trV) rfl
 fail;refine fQ (by rw[dI];simpa using hp) ?_
 exists JF xf rfl
 rw[Yb,hf];walk_at "p";refine Yv (k:=.int p) xf ⟨rfl,by rw[Mz];exact Ü hl<|by decide⟩ ?_;rw[ZY (val:=Val.bl)];have y1:=x.setFallen<|Zl Y.fallen p eN;have x1:Ex Y.adr h<|upd h Y.fl<|.dct<|Zg Val.bl<|Zl Y.fallen p eN:=Ex.upd (Þ _<|by simp);generalize upd h Y.fl (.dct<|Zg Val.bl<|Zl Y.fallen p eN)=g1 at y1 x1;have yi:=y1.ins;dsimp only at yi;refine' Wk (Y:={Y with fallen:=Zl Y.fallen p eN}) y1 et (by have:=lo.2.2.1;lia) gd λg2 y2 x2=>?_;refine' k g2 y2 (x1.trans x2)
def BY{p:Nat}{t:Tie}(no:fk Y.bs Y.ts)(x:fc h Y)(gd:∀e∈Y.es,e.B.ok)(et:Y.ts[p]?=eL t){v:Bool}(hf:Y.fallen.lookup (p:Int)=eL v)(k:∀g,fc g {Y with fallen:=Zh Y.fallen p,es:=setT (onT {Y with fallen:=Zh Y.fallen p} p t) p t Y.es}->Ex Y.adr h g->Q .non g):wF P (n+3) "Yard.back_of_tie" [.ref Y.y,.int p] h Q X:=by
 have xi:=x.ins;have xf:=x.fallen;have lo:=no.tie _<|ó et;refine Z8 ?_
 exists Ye xf rfl
 rw[Yb,hf];walk_at "p";refine B9 xf rfl (by rw[Z4,hf];rfl) ?_;rw[X4];dsimp only;have y1:=x.setFallen<|Zh Y.fallen p;have x1:Ex Y.adr h<|upd h Y.fl<|.dct<|Zg Val.bl<|Zh Y.fallen p:=Ex.upd (Þ _<|by simp);generalize upd h Y.fl (.dct<|Zg Val.bl<|Zh Y.fallen p)=g1 at y1 x1;have yi:=y1.ins;dsimp only at yi;refine' Wk (Y:={Y with fallen:=Zh Y.fallen p}) y1 et (by have:=lo.2.2.1;lia) gd λg2 y2 x2=>?_;refine' k g2 y2 (x1.trans x2)
end
def Uq:(Zy own life most []).ok:=⟨ġ,(λ_ m=>nomatch m),rfl,rfl,rfl⟩
def Wc{k:Int}{v:α}:(Zl kvs k v).lookup k=eL v:=by
 unfold Zl;split
 .rename_i h;induction kvs with
  |nil=>cases h
  |cons p r ih =>
   rw[Ï,à];by_cases e:p.1=k
   .simp[e]
   .have e2:(k==p.1)=eP:=by simpa using λz=>e z.symm
    rw[à,e2]at h;simp only[e,if_false,e2];exact ih h
 .rename_i h;have h:kvs.lookup k=eM:=au.mp h;rw[Ϸ,h];simp
section
variable {Y:Yd}
def Dh{b:Int}(no:fk Y.bs Y.ts)(x:fc h Y)(gd:∀e∈Y.es,e.B.ok)(hlv:Y.lives.lookup b=eL life)(hb:b∉Y.es.map (·.num))(hl:Y.lives.length<=100)(hel:Y.es.length<=100)
  (k:∀q t d g,(∀a∈[q,t,d],h a=eM)->fc g (ZO {Y with lives:=Zl Y.lives b<|life+1,es:=Y.es++[⟨b,q,t,d,Zy b (life+1) Y.most []⟩]}<|f6 b 0 Y.ts)->(∀e∈(ZO {Y with lives:=Zl Y.lives b<|life+1,es:=Y.es++[⟨b,q,t,d,Zy b (life+1) Y.most []⟩]}<|f6 b 0 Y.ts).es,e.B.ok)->Ex Y.adr h g->Q .non g):wF P (n+4) "Yard.back_of_bridge" [.ref Y.y,.int b] h Q X:=by
 have xi:=x.ins;have xs:=x.stand;have xl:=x.lives;have lk:(stands Y.es).lookup b=eM:=by
  cases z:(stands Y.es).lookup b with
  |none=>rfl
  |some q =>have:=Ĥ (f:=(·.1))<|ZC z;rw[ZL]at this;exact gp this hb
 refine Zu ?_
 exists Ye xl rfl
 rw[Yb,hlv];walk_at "p";refine JF xs rfl ?_;rw[Yb,lk];walk_at "p";refine YS xl rfl (by rw[Z4,hlv];rfl) ?_;refine' Yv (k:=.int b) xl ⟨rfl,by rw[Mz];exact Ü hl<|by decide⟩ ?_;rw[ZY (val:=Val.int)];have Y1:=x.setLives<|Zl Y.lives b<|life+1;have x1:Ex Y.adr h<|upd h Y.lv<|.dct<|Zg Val.int<|Zl Y.lives b<|life+1:=Ex.upd (Þ _<|by simp);have keepN:∀{a:Ad},upd h Y.lv (.dct<|Zg Val.int<|Zl Y.lives b<|life+1) a=eM->h a=eM:=λ{a} z=>by
  by_cases e:a=Y.lv
  .rw[e,eR]at z;cases z
  .rwa [eQ e]at z
 generalize upd h Y.lv (.dct<|Zg Val.int<|Zl Y.lives b<|life+1)=g1 at Y1 x1 keepN;have zi:=Y1.ins;have zl:=Y1.lives;dsimp only at zi zl;refine' YS zl rfl (by rw[Z4,Wc];rfl) ?_;refine' Zm λpn g7 hpn x7 en=>?_;have Y7:=Y1.ext x7;have yi7:=Y7.ins;dsimp only at yi7;fail;intro q hq;have xq:Ext g7<|upd g7 q<|.ins "Bridge" []:=Ext.new hq;have eq:(upd g7 q<|.ins "Bridge" []) q=eL (.ins "Bridge" []):=eR;refine Uc (rs:=[]) eq (xq.get en) (by simp) (by simp) λt d g8 ht hd ba x8=>?_;have x78:Ext g7 g8:=⟨λ{a o} e=>x8.get (by simpa using Zb e hq)<|xq.get e⟩
 have Y8:=Y7.ext x78;have ht7:g7 t=eM:=by cases z:g7 t with|none=>rfl|some o=>rw[xq.get z]at ht;cases ht
 have hd7:g7 d=eM:=by cases z:g7 d with|none=>rfl|some o=>rw[xq.get z]at hd;cases hd
 refine⟨rfl,?_⟩;have wi:=Y8.ins;have ws:=Y8.stand;dsimp only at wi ws;refine' Yv (k:=.int b) ws ⟨rfl,by rw[Mz];unfold stands;rw[Ã];exact Ü hel<|by decide⟩ ?_;rw[ZY (val:=rfV),WG _<|by rw[ZL];exact hb];have ů:stands Y.es++[(b,q)]=stands (Y.es++[⟨b,q,t,d,Zy b (life+1) Y.most []⟩]):=by unfold stands;rw[ã];rfl
 rw[ů];have fr:∀a∈[q,t,d],g7 a=eM:=λa ha=>by simp only[Æ,Í,or_false]at ha;rcases ha with rfl|rfl|rfl<;>assumption
 have fr0:∀a∈[q,t,d],h a=eM:=λa ha=>keepN (by cases z:g1 a with|none=>rfl|some o=>have:=fr a ha;rw[x7.get z]at this;cases this);have Y9:=Y8.stands (e:=⟨b,q,t,d,Zy b (life+1) Y.most []⟩) ba hb λa ha z=>Y7.taken z<|fr a ha;have x9:Ex Y.adr h<|upd g8 Y.st<|.dct<|Zg rfV<|stands<|Y.es++[⟨b,q,t,d,Zy b (life+1) Y.most []⟩]:=(x1.trans<|.of<|x7.trans x78).trans (Ex.upd<|Þ _<|by simp);dsimp only at Y9;generalize upd g8 Y.st (.dct<|Zg rfV<|stands<|Y.es++[⟨b,q,t,d,Zy b (life+1) Y.most []⟩])=g9 at Y9 x9;have vi:=Y9.ins;dsimp only at vi;refine' W6 (Y:={Y with lives:=Zl Y.lives b<|life+1,es:=Y.es++[⟨b,q,t,d,Zy b (life+1) Y.most []⟩]}) no Y9 (λe he=>?_) λg2 y2 gd2 x2=>?_
 .rcases æ.mp he with he|he
  .exact gd e he
  .rw[é.mp he];exact Uq
 refine' k q t d g2 fr0 y2 gd2 ⟨λ{a o} na ha=>x2.get (λz=>?_)<|x9.get na ha⟩;have z:a∈[Y.y,Y.lv,Y.st,Y.fl,Y.rd]++enA (Y.es++[⟨b,q,t,d,Zy b (life+1) Y.most []⟩]):=z;rw[XU,<-Ķ]at z;rcases æ.mp z with z|z
 .exact na z
 .rw[fr0 a z]at ha;cases ha
end
abbrev wordsL:List<|List String:=[["tick"],["come"],["lost"],["fall","bridge"],["fall","tie"],["back","bridge"],["back","tie"]]
def FB{ws:List String}(hw:ws∈wordsL)(k:∀g,Ext h g->Q (.tup [.tup<|ws.map .str,.int c]) g):wF P (n+2) "read_deed" [.tup<|ws.map .str++[.int c]] h Q X:=by
 have hc:cut (ws.map Val.str++[.int c]) eM (eL (-1))=ws.map .str:=by simp only[wordsL,Æ,Í,or_false]at hw;rcases hw with rfl|rfl|rfl|rfl|rfl|rfl|rfl<;>rfl
 have hlast:atI (ws.map Val.str++[.int c]) (-1)=eL (.int c):=by simp only[wordsL,Æ,Í,or_false]at hw;rcases hw with rfl|rfl|rfl|rfl|rfl|rfl|rfl<;>rfl
 have Ē:ws.length<=2:=by simp only[wordsL,Æ,Í,or_false]at hw;rcases hw with rfl|rfl|rfl|rfl|rfl|rfl|rfl<;>decide
 refine MH ?_;walk_at "p";refine fO (xs:=ws.map Val.str++[.int c]) (lo:=eM) (hi:=eL (-1)) (by rw[î,Ã];intro z;have:=z.2;unfold fB at this;simp at this;lia) ?_;rw[hc];refine' ⟨Ü (by rw[Ã];exact Ē) (by decide),ZS (λ_=>eL<|.bl eN) trivial (λv hv K hK=>?_) ?_⟩
 .obtain⟨u,_,rfl⟩:=Û.mp hv;walk_at "p";exact hK
 rw[show(ws.map Val.str).filterMap (λ_=>eL<|Val.bl eN)=(ws.map λ_=>eN).map Val.bl by rw[Δ,ú];exact congrFun (cf (f:=λ_:String=>Val.bl eN)) ws];refine Zm λp1 g1 bY x1 e1=>?_
 exists LB (bs:=ws.map λ_=>eN) e1 (Jp _)
 have ha:(ws.map λ_=>eN).all id=eN:=by simp
 fail;refine fQ (by simp) ?_;fail;have hin:∀{h:Hs},fi h .notin (.tup<|ws.map .str) (.tup<|wordsL.map λl=>.tup<|l.map .str)=eL eP:=λ{h}=>by simp only[wordsL,Æ,Í,or_false]at hw;rcases hw with rfl|rfl|rfl|rfl|rfl|rfl|rfl<;>rfl
 refine eV (a:=eP) hin ?_;walk_at "p";refine eW hlast ?_
 exists Oi
 walk_at "p";refine eW hlast ?_;refine' k g1 x1
inductive Dd where
 |tick (b:Int)|fallB (b:Int)|fallT (b:Int)|backB (b:Int)|backT (b:Int)
abbrev Dd.ws:Dd->List String
 |.tick _=>["tick"]|.fallB _=>["fall","bridge"]|.fallT _=>["fall","tie"]|.backB _=>["back","bridge"]|.backT _=>["back","tie"]
abbrev Dd.num:Dd->Int
 |.tick c=>c|.fallB c=>c|.fallT c=>c|.backB c=>c|.backT c=>c
abbrev Dd.fn:Dd->String
 |.tick _=>"Yard.tick_of" | .fallB _=>"Yard.fall_of_bridge" | .fallT _=>"Yard.fall_of_tie" | .backB _=>"Yard.back_of_bridge" | .backT _=>"Yard.back_of_tie"
noncomputable abbrev Dd.v(d:Dd):Val:=.tup<|d.ws.map .str++[.int d.num]
def Dd.words(d:Dd):d.ws∈wordsL:=by cases d<;>simp[Dd.ws,wordsL]
def X7(x:Ext h g)(hp:g p=eM):h p=eM:=by
 cases z:h p with
 |none=>rfl
 |some o=>rw[x.get z]at hp;cases hp
variable {ts:List Tie}
def OW{i:Int}(h0:0<=i)(h1:i<ts.length):atI (ts.map trV) i=eL (trV<|ts[i.toNat]?.getD (0,0,0)):=by
 have h2:i.toNat<ts.length:=by lia
 refine Yz h0 ?_;rw[Ý,É h2];rfl
def UX{pre:List En}(x:fc h Y)(he:Y.es=pre++e::Ŋ)(o:e.B.ok)(hp:∀q∈e.B.ties,q.1<Y.ts.length)(hr:Y.road.length<=100000)
  (k:∀d g,fc g {Y with es:=pre++⟨e.num,e.b,e.t,d,e.B.ticked⟩::Ŋ,road:=Y.road++ZN Y.ts e.num e.B.told}->h d=eM->Ex Y.adr h g->Q .non g):wF P (n+5) "Yard.tick_of" [.ref Y.y,.int e.num] h Q X:=by
 have hm:e∈Y.es:=by rw[he];simp
 have lk:(stands Y.es).lookup e.num=eL e.b:=Mx (by rw[ZL];exact x.key)<|Û.mpr ⟨e,hm,rfl⟩;obtain⟨xi,xl,xs,xf,xr,xb,xnd,xk⟩:=id x;refine YZ ?_
 exists Ye xs rfl
 rw[Yb,lk];walk_at "p";refine YS xs rfl (by rw[Z4,lk];rfl) ?_;have ba:=xb e hm;have bi:=ba.ins;refine' D1 ba o λp d g1 bY hd1 ba1 ep x1 npd=>?_;have Y1:=x.change he x1 ba1 (.inl rfl)<|.inr hd1;obtain⟨yi,yl,ys,yf,yr,yb,ynd,yk⟩:=id Y1;dsimp only at yi yl ys yf yr yb;have npa:∀a∈Y.adr,a≠p:=λa ha z=>x.taken ha<|z▸bY;have npr:Y.rd≠p:=npa _ (Þ _<|by simp);have hbm:e.b∈Y.adr:=Ê _ (JG hm).1;have dI:(sortI (e.B.told.ties.map (·.1))).length<=16:=by rw[sortI,Ė,Ã];exact o.told.tlen
 have htie:∀i∈sortI (e.B.told.ties.map (·.1)),0<=i/\i<Y.ts.length:=λi hi=>by obtain⟨q,hq,rfl⟩:=Û.mp<|mem_sort.mp hi;exact⟨(o.rg q hq).1,hp q hq⟩
 refine' Zx (λi en g=>Sm3 λv2 v3 v4=>Cj4 (en=[eL<|.ref Y.y,eL<|.int e.num,v2,v3,v4]) (fc g {Y with es:=pre++⟨e.num,e.b,e.t,d,e.B.ticked⟩::Ŋ,road:=Y.road++(ZN Y.ts e.num e.B.told).take i}) (g p=eL (.lst<|ZT e.B.told))<|Ex Y.adr h g) ⟨_,_,_,rfl,by rw[List.take_zero,õ];exact Y1,ep,x1.sub λa ha=>by rw[é.mp ha];exact hbm⟩ (λi en g _ ⟨_,_,_,_,_,z,_⟩=>lsE z) ?_ ?_
 .rintro i v en g hv ⟨v2,v3,v4,rfl,Yi,ep,xi⟩ K hK;obtain⟨pl,hpl,rfl⟩:=Yk hv;have hplm:=ó hpl;obtain⟨r0,r1⟩:=htie pl hplm;have et:=OW (ts:=Y.ts) r0 r1;obtain⟨zi,zl,zs,zf,zr,zb,znd,zk⟩:=id Yi;dsimp only at zi zl zs zf zr zb;have hil:=(Ó.mp hpl).1
  exists eW (xs:=[.tup<|Y.bs.map .int,.tup<|Y.ts.map trV]) (v:=.tup<|Y.ts.map trV) rfl
  exists eW et
  exists DA
  refine' YR zr ?_ ?_
  .rw[Ã,î,ă];exact Ü (by lia:_<=100016) (by decide)
  dsimp only;have es:(ZN Y.ts e.num e.B.told)[i]?=eL (e.num,U4 Y.ts pl e.num,pl,Zz e.B.told pl):=by unfold ZN;rw[Ý,hpl];rfl
  have Y2:=Yi.setRoad<|Y.road++(ZN Y.ts e.num e.B.told).take (i+1);dsimp only at Y2;have er:(Y.road++(ZN Y.ts e.num e.B.told).take i).map rdV++[rdV (e.num,U4 Y.ts pl e.num,pl,Zz e.B.told pl)]=(Y.road++(ZN Y.ts e.num e.B.told).take (i+1)).map rdV:=by rw[ZB es,<-Ķ,ã (l₂:=[_])];rfl
  have er':(Y.road++(ZN Y.ts e.num e.B.told).take i).map rdV++[.tup [.int e.num,.int<|far (Y.ts[pl.toNat]?.getD (0,0,0)) e.num,.int pl,(Zz e.B.told pl).v]]=(Y.road++(ZN Y.ts e.num e.B.told).take (i+1)).map rdV:=er;rw[er'];refine' hK _ _ ⟨_,_,_,rfl,Y2,(eQ npr.symm).trans ep,xi.trans<|Ex.upd<|Þ _<|by simp⟩
 .rintro en g ⟨v2,v3,v4,rfl,Yi,ep,xi⟩;rw[show(ZT e.B.told).length=(ZN Y.ts e.num e.B.told).length by unfold ZT ZN;rw[Ã,Ã],ĕ]at Yi;refine' k d g Yi hd1 xi
def Fu{d:Dd}(x:fc h Y)(k:∀(g:Hs) (Q':Q1),Ext h g->fc g Y->(∀v g',Q .non g'->Q' v g')->wF P (n+5) d.fn [.ref Y.y,.int d.num] g Q' X):wF P (n+6) "Yard.deed" [.ref Y.y,d.v] h Q X:=by
 have xi0:=x.ins;refine MM ?_;refine' FB d.words λg1 x1=>?_;have x':=x.ext x1;have xi:=x'.ins;cases d<;>(
   fail
   repeat (first
     |(refine eV (a:=eP) rfl ?_;fail;refine fQ rfl ?_;fail)
     | (refine eV (a:=eN) rfl ?_;fail;refine fP rfl ?_;fail))
   refine k g1 _ x1 x' λv g' q=>?_
   refine' q)
structure Yc where
 bs:List Int
 ts:List Tie
 most:Int
 lives:List<|Int×Int
 br:List<|Int×Br
 fallen:List<|Int×Bool
 road:List<|Int×Int×Int×L
abbrev enC(es:List En):List<|Int×Br:=es.map λe=>(e.num,e.B)
abbrev Yd.cc(Y:Yd):Yc:=⟨Y.bs,Y.ts,Y.most,Y.lives,enC Y.es,Y.fallen,Y.road⟩
abbrev upC(k:Int)(F:Br->Br)(l:List<|Int×Br):List<|Int×Br:=l.map λq=>if q.1=k then(q.1,F q.2)else q
abbrev AO(on:Bool)(p:Int)(t:Tie)(l:List<|Int×Br):List<|Int×Br:=upC t.2.1 (tieF on p t.1 t.2.2)<|upC t.1 (tieF on p t.2.1 t.2.2) l
abbrev Yc.tie(C:Yc)(p:Int):Tie:=C.ts[p.toNat]?.getD (0,0,0)
abbrev onC(C:Yc)(p:Int):Bool:=!(C.fallen.lookup p).isSome&&((C.br.lookup (C.tie p).1).isSome&&(C.br.lookup (C.tie p).2.1).isSome)
abbrev Yc.set1(C:Yc)(p:Int):Yc:={C with br:=AO (onC C p) p (C.tie p) C.br}
abbrev Yc.sets(C:Yc)(l:List Tie):Yc:=l.foldl (λC r=>C.set1 r.1) C
def YQ(es:List En):(enC es).map (·.1)=es.map (·.num):=by unfold enC;rw[ú];rfl
def look_iff{k:Int}:(kvs.lookup k).isSome=gq (k∈kvs.map (·.1)):=by
 cases z:kvs.lookup k with
 |none=>exact(gj<|Xa z).symm
 |some v=>exact(gk (Ĥ (f:=(·.1))<|ZC z)).symm
def MA{k:Int}(es:List En):enC (Z9 k F es)=upC k F (enC es):=by
 unfold enC Z9 upC;rw[ú,ú];refine ą λe _=>?_;show((if e.num=k then({e with B:=F e.B}:En)else e).num,(if e.num=k then({e with B:=F e.B}:En)else e).B)=if e.num=k then(e.num,F e.B)else(e.num,e.B)
 split<;>rfl
def Dk{on:Bool}{p:Int}{t:Tie}(es:List En):enC (setT on p t es)=AO on p t (enC es):=by unfold setT AO;rw[MA,MA]
def GN{k:Int}:((enC es).lookup k).isSome=((stands es).lookup k).isSome:=look_iff.trans ((decide_eq_decide.mpr<|by rw[YQ,ZL]).trans look_iff.symm)
def Qo{p:Int}:onT Y p (Y.ts[p.toNat]?.getD (0,0,0))=onC Y.cc p:=by unfold onT onC;rw[<-GN,<-GN];rfl
def NZ{p:Int}:({Y with es:=setT (onT Y p<|Y.ts[p.toNat]?.getD (0,0,0)) p (Y.ts[p.toNat]?.getD (0,0,0)) Y.es}:Yd).cc=Y.cc.set1 p:=by rw[Qo];unfold Yd.cc Yc.set1;dsimp only;rw[Dk];rfl
def OG:∀(l:List Tie) (Y:Yd),(ZO Y l).cc=Y.cc.sets l
 |[],_=>rfl
 |r::l,Y=>(OG l _).trans (congrArg (Yc.sets · l)<|NZ (Y:=Y) (p:=r.1))
abbrev step(C:Yc):Dd->Option Yc
 |.tick b=>(C.br.lookup b).map λB=>{C with br:=upC b Br.ticked C.br,road:=C.road++ZN C.ts b B.told}
 |.fallB b=>if(C.br.lookup b).isSome then eL (Yc.sets {C with br:=Zh C.br b}<|f6 b 0 C.ts)else eM
 |.fallT p=>if(0<=p/\p<C.ts.length)/\(C.fallen.lookup p).isSome=eP then eL (Yc.set1 {C with fallen:=Zl C.fallen p eN} p)else eM
 |.backB b=>if(C.br.lookup b).isSome then eM else(C.lives.lookup b).map λl=>Yc.sets {C with lives:=Zl C.lives b<|l+1,br:=C.br++[(b,Zy b (l+1) C.most [])]}<|f6 b 0 C.ts
 |.backT p=>if(C.fallen.lookup p).isSome then eL (Yc.set1 {C with fallen:=Zh C.fallen p} p)else eM
structure Bok(m:Nat)(B:Br):Prop where
 ok:B.ok
 pl:∀t∈B.ties,t.1<m
def Bok.ticked{m:Nat}(o:Bok m B):Bok m B.ticked:=⟨o.ok.ticked,o.pl⟩
def Bok.tieF{m:Nat}(o:Bok m B){on:Bool}{p far:Int}(h0:0<=p)(h1:p<m)(hm:m<=16):Bok m<|gf.tieF on p far c B:=⟨MD o.ok h0 (by lia),λt ht=>by
  unfold gf.tieF at ht
  split at ht
  . unfold upB at ht
    split at ht
    . exact o.pl t ht
    . rcases XI ht with e|ht
      . rw[e];exact h1
      . exact o.pl t ht
  . exact o.pl t<|YX ht⟩
structure Yc.gd(C:Yc)(N:Nat):Prop where
 no:fk C.bs C.ts
 nd:(C.br.map (·.1)).Nodup
 sub:∀q∈C.br,q.1∈C.bs
 ok:∀q∈C.br,Bok C.ts.length q.2
 lv:C.lives.map (·.1)=C.bs
 fn:(C.fallen.map (·.1)).Nodup
 fr:∀q∈C.fallen,0<=q.1/\q.1<C.ts.length
 len:C.road.length<=16*N
def M0{k:Int}(l:List<|Int×Br):(upC k F l).map (·.1)=l.map (·.1):=by unfold upC;rw[ú];refine ą λe _=>?_;show(if e.1=k then(e.1,F e.2)else e).1=e.1;split<;>rfl
def F4{k:Int}{l:List (Int×Br)}{R:Br->Prop}(h:∀q∈l,R q.2)(hF:∀B,R B->R (F B)):∀q∈upC k F l,R q.2:=λq hq=>by
 obtain⟨e,he,rfl⟩:=Û.mp hq;split
 .exact hF _<|h e he
 .exact h e he
def keys_sub{l:List (Int×Br)}{bs:List Int}:(∀q∈l,q.1∈bs)↔∀x∈l.map (·.1),x∈bs:=⟨λh x hx=>by obtain⟨q,hq,rfl⟩:=Û.mp hx;exact h q hq,λh q hq=>h _<|Ĥ hq⟩
variable {C:Yc} {N:Nat} {M:Nat} {rd:List (Int×Int×Int×L)}
def Yc.gd.upC{k:Int}(g:C.gd N)(hF:∀B,Bok C.ts.length B->Bok C.ts.length (F B))(hr:rd.length<=16*M):({C with br:=gf.upC k F C.br,road:=rd}:Yc).gd M :=
 ⟨g.no,by show((gf.upC k F C.br).map (·.1)).Nodup;rw[M0];exact g.nd,keys_sub.mpr (by show ∀x∈(gf.upC k F C.br).map (·.1),_;rw[M0];exact keys_sub.mp g.sub),F4 g.ok hF,g.lv,g.fn,g.fr,hr⟩
def Yc.gd.set1{p:Int}(g:C.gd N)(h0:0<=p)(h1:p<C.ts.length):(C.set1 p).gd N :=
 (g.upC (M:=N) (k:=(C.tie p).1) (F:=tieF (onC C p) p (C.tie p).2.1 (C.tie p).2.2) (λ_ o=>o.tieF h0 h1 g.no.sixteen) g.len).upC (λ_ o=>o.tieF h0 h1 g.no.sixteen) g.len
def Yc.gd.sets{N:Nat}:∀{l:List Tie}{C:Yc},C.gd N->(∀r∈l,0<=r.1/\r.1<C.ts.length)->(C.sets l).gd N
 |[],_,g,_=>g
 |r::l,C,g,h=>Yc.gd.sets (l:=l) (C:=C.set1 r.1) (g.set1 (h r<|by simp).1 (h r<|by simp).2) λq hq=>h q (by simp[hq])
def Yc.gd.more(g:C.gd N)(h:N<=M):C.gd M:=⟨g.no,g.nd,g.sub,g.ok,g.lv,g.fn,g.fr,Ô g.len<|dO _ h⟩
def JK:∀(l:List Tie) (C:Yc),(C.sets l).bs=C.bs/\(C.sets l).ts=C.ts/\(C.sets l).most=C.most
 |[],_=>⟨rfl,rfl,rfl⟩
 |r::l,C=>JK l<|C.set1 r.1
def Mq{b:Int}:∀r∈f6 b 0 ts,0<=r.1/\r.1<ts.length:=λr hr=>by have:=(Wl (b:=b) (l:=ts) (k:=0)).2 r hr;lia
def keys_look{b:Int}:(C.br.lookup b).isSome=eN↔b∈C.br.map (·.1):=by rw[look_iff];simp
def Aj{b:Int}(o:B.ok):(ZN ts b B.told).length<=16:=by unfold ZN;rw[Ã,sortI,Ė,Ã];exact o.told.tlen
def EJ{D:Yc}{d:Dd}(g:C.gd N)(s:step C d=eL D):D.gd (N+1)/\D.bs=C.bs/\D.ts=C.ts/\D.most=C.most:=by
 have Ē:=g.len;cases d with
 |tick b =>obtain⟨B,hB,rfl⟩:=Ò.mp s;have ok:B.ok:=(g.ok _<|ZC hB).ok;have:=Aj (ts:=C.ts) (b:=b) ok;exact⟨g.upC (λ_ o=>o.ticked) (by rw[î];lia),rfl,rfl,rfl⟩
 |fallB b =>
  dsimp only[step]at s;split at s
  .cases s;refine⟨Yc.gd.more (Yc.gd.sets ⟨g.no,Xs g.nd b,λq hq=>g.sub q<|YX hq,λq hq=>g.ok q<|YX hq,g.lv,g.fn,g.fr,Ē⟩ Mq) (by lia),?_⟩;obtain⟨e1,e2,e3⟩:=JK (f6 b 0 C.ts) {C with br:=Zh C.br b};exact⟨e1,e2,e3⟩
  .cases s
 |fallT p =>
  dsimp only[step]at s;split at s
  .rename_i h;cases s;refine⟨Yc.gd.more (Yc.gd.set1 ⟨g.no,g.nd,g.sub,g.ok,g.lv,Xc g.fn p eN,λq hq=>?_,Ē⟩ h.1.1 h.1.2) (by lia),rfl,rfl,rfl⟩;rcases XI hq with e|hq
   .rw[e];exact h.1
   .exact g.fr q hq
  .cases s
 |backB b =>
  dsimp only[step]at s;split at s
  .cases s
  .rename_i h;obtain⟨l,hl,rfl⟩:=Ò.mp s;have hk:(C.lives.lookup b).isSome=eN:=by rw[hl];rfl
   have hb:b∈C.bs:=by rw[<-g.lv];rw[look_iff]at hk;exact of_decide_eq_true hk
   have hn:b∉C.br.map (·.1):=λz=>h<|keys_look.mpr z;refine⟨Yc.gd.more (Yc.gd.sets ⟨g.no,?_,λq hq=>?_,λq hq=>?_,?_,g.fn,g.fr,Ē⟩ Mq) (by lia),?_⟩
   .show((C.br++[(b,Zy b (l+1) C.most [])]).map (·.1)).Nodup;rw[ã,å];exact⟨g.nd,by simp,λa ha c hc=>by have hc:c=b:=é.mp hc;rw[hc];exact λz=>hn<|z▸ha⟩
   .rcases æ.mp hq with hq|hq
    .exact g.sub q hq
    .rw[é.mp hq];exact hb
   .rcases æ.mp hq with hq|hq
    .exact g.ok q hq
    .rw[é.mp hq];exact⟨Uq,λt ht=>nomatch ht⟩
   .show(Zl C.lives b<|l+1).map (·.1)=_;rw[W5,gg hk];exact g.lv
   .exact JK (f6 b 0 C.ts) {C with lives:=Zl C.lives b<|l+1,br:=C.br++[(b,Zy b (l+1) C.most [])]}
 |backT p =>
  dsimp only[step]at s;split at s
  .rename_i h;cases s;obtain⟨v,hv⟩:=ī.mp h;have hp:=g.fr _<|ZC hv;exact⟨Yc.gd.more (Yc.gd.set1 ⟨g.no,g.nd,g.sub,g.ok,g.lv,Xs g.fn p,λq hq=>g.fr q<|YX hq,Ē⟩ hp.1 hp.2) (by lia),rfl,rfl,rfl⟩
  .cases s
def Xp{b:Int}:(Y.cc.br.lookup b).isSome=((stands Y.es).lookup b).isSome:=GN
def FJ{pre:List En}(he:Y.es=pre++e::Ŋ)(nd:(Y.es.map (·.num)).Nodup):enC (pre++⟨e.num,e.b,t,d,F e.B⟩::Ŋ)=upC e.num F (enC Y.es):=by rw[he]at nd ⊢;rw[<-MA,M9 nd];unfold enC;rw[ã,ã];rfl
def E7{pre:List En}(he:Y.es=pre++e::Ŋ)(ht:t=e.t)(hd:d=e.d\/h d=eM):∀a∈({Y with es:=pre++⟨e.num,e.b,t,d,B⟩::Ŋ,road:=rd}:Yd).adr,a∈Y.adr\/h a=eM:=λa ha=>by
 subst ht;unfold Yd.adr at ha ⊢;rw[he,YE];dsimp only at ha;rw[YE]at ha;simp only[æ,Æ,Í,or_false]at ha ⊢;rcases hd with rfl|hd
 .exact .inl ha
 .rcases ha with ha|ha|(rfl|rfl|rfl)|ha
  .exact .inl<|.inl ha
  .exact .inl<|.inr<|.inl ha
  .exact .inl<|.inr<|.inr<|.inl<|.inl rfl
  .exact .inl<|.inr<|.inr<|.inl<|.inr<|.inl rfl
  .exact .inr hd
  .exact .inl<|.inr<|.inr<|.inr ha
def JN:∀{l bs:List Int},l.Nodup->(∀x∈l,x∈bs)->l.length<=bs.length
 |[],_,_,_=>Ŀ _
 |a::l,bs,nd,h=>by have ha:=h a (by simp);have:=JN (l:=l) (bs:=bs.erase a) (Ă.mp nd).2 λx hx=>(List.mem_erase_of_ne λz:x=a=>(Ă.mp nd).1<|z▸hx).mpr (h x<|by simp[hx]);rw[bN ha]at this;have:=List.length_pos_of_mem ha;rw[Ë];lia
structure Mv(h:Hs)(Y:Yd)(g:Hs)(Z:Yd):Prop where
 y:Z.y=Y.y
 at_:fc g Z
 nw:∀a∈Z.adr,a∈Y.adr\/h a=eM
 ex:Ex Y.adr h g
def Mv.refl(x:fc h Y):Mv h Y h Y:=⟨rfl,x,λ_=>.inl,Ex.refl⟩
def Mv.off(m:Mv h Y g Z)(na:a∉Y.adr)(e:h a=eL o):a∉Z.adr/\g a=eL o:=⟨λz=>(m.nw a z).elim na λy=>(by rw[e]at y;cases y),m.ex.get na e⟩
def Mv.trans{f:Hs}{W:Yd}(m:Mv h Y g Z)(l:Mv g Z f W):Mv h Y f W:=by
 refine⟨l.y.trans m.y,l.at_,λa ha=>?_,⟨λna e=>let ⟨h1,h2⟩:=m.off na e;l.ex.get h1 h2⟩⟩;rcases l.nw a ha with z|z
 .exact m.nw a z
 .by_cases na:a∈Y.adr
  .exact .inl na
  .cases e:h a with
   |none=>exact .inr rfl
   |some o=>rw[m.ex.get na e]at z;cases z
def Mv.ext{f:Hs}(m:Mv h Y g Z)(x:Ext g f):Mv h Y f Z:=⟨m.y,m.at_.ext x,m.nw,m.ex.trans<|.of x⟩
def Mv.put(m:Mv h Y g Z)(hp:h p=eM)(np:p∉Z.adr):Mv h Y (upd g p o) Z:=⟨m.y,m.at_.keep (S:=[p]) (Ex.upd<|by simp) λa ha z=>np<|é.mp z▸ha,m.nw,⟨λna e=>by rw[eQ<|Zb e hp];exact m.ex.get na e⟩⟩
def El{b:Int}(h:(stands es).lookup b=eM):b∉es.map (·.num):=by rw[<-ZL];exact Xa h
section
variable {Y:Yd}
def FE{d:Dd}(x:fc h Y)(gd:Y.cc.gd N)(hN:N<=6000)(k:∀(Y':Yd) g',step Y.cc d=eL Y'.cc->Mv h Y g' Y'->Q .non g')(kx:∀g',step Y.cc d=eM->fc g' Y->Ext h g'->X "NoDeed" g'):wF P (n+6) "Yard.deed" [.ref Y.y,d.v] h Q X:=by
 refine Fu x λg Q' x1 x' hq=>?_;have no:fk Y.bs Y.ts:=gd.no;have ok:∀e∈Y.es,Bok Y.ts.length e.B:=λe he=>gd.ok (e.num,e.B)<|Û.mpr ⟨e,he,rfl⟩;have oks:∀e∈Y.es,e.B.ok:=λe he=>(ok e he).ok;have hl:Y.road.length<=16*N:=gd.len;have key:=x.key;have xi:=x'.ins;have xs:=x'.stand;have xf:=x'.fallen;have xl:=x'.lives;have fin:∀{Y':Yd} {g'},fc g' Y'->step Y.cc d=eL Y'.cc->Y'.y=Y.y->(∀a∈Y'.adr,a∈Y.adr\/g a=eM)->Ex Y.adr g g'->∀v,Q' v g':=λ{Y' g'} y s e f ex v=>hq v g'<|k Y' g' s ⟨e,y,λa ha=>(f a ha).imp id λz=>X7 x1 z,(Ex.of x1).trans ex⟩;have bad:step Y.cc d=eM->X "NoDeed" g:=λs=>kx g s x' x1;have h10:Y.lives.length<=10:=by have e:=congrArg List.length gd.lv;rw[Ã]at e;have:=no.ten;have:Y.cc.bs.length=Y.bs.length:=rfl;have:Y.cc.lives.length=Y.lives.length:=rfl;lia
 have e10:Y.es.length<=10:=by
  have:=JN gd.nd<|keys_sub.mp gd.sub;have h2:(Y.cc.br.map (·.1)).length=Y.es.length:=by show((enC Y.es).map (·.1)).length=_;rw[YQ,Ã]
  have:=no.ten;have:Y.cc.bs.length=Y.bs.length:=rfl;lia
 have f16:Y.fallen.length<=16:=by
  have:=Yq (m:=16) gd.fn λx hx=>by obtain⟨q,hq,rfl⟩:=Û.mp hx;have:=gd.fr q hq;have:=no.sixteen;have:Y.cc.ts.length=Y.ts.length:=rfl;lia
  rw[Ã]at this;exact this
 cases d with
 |tick b =>
  show wF P (n+5) "Yard.tick_of" [.ref Y.y,.int b] g Q' X;cases lk:(stands Y.es).lookup b with
  |none =>
   refine YZ ?_
   exists Ye xs rfl
   rw[Yb,lk];walk_at "p";refine bad ?_;have:=Xp (Y:=Y) (b:=b);rw[lk]at this;show(Y.cc.br.lookup b).map _=eM;rw[Option.isSome_eq_false_iff.mp this |> aY.mp];rfl
  |some a =>
   obtain⟨e,pre,Ŋ,he,rfl,rfl⟩:=XO lk;have hm:e∈Y.es:=by rw[he];simp
   refine UX x' he (oks e hm) (ok e hm).pl (by lia) λd' g2 y2 hd x2=>?_;refine fin y2 ?_ rfl (E7 he rfl<|.inr hd) x2 .non;show(Y.cc.br.lookup e.num).map _=_;rw[show Y.cc.br.lookup e.num=eL e.B from Mx gd.nd<|Û.mpr ⟨e,hm,rfl⟩];unfold Yd.cc;dsimp only;rw[FJ (F:=Br.ticked) he key];rfl
 |fallB b =>
  show wF P (n+5) "Yard.fall_of_bridge" [.ref Y.y,.int b] g Q' X;have lc:=Xp (Y:=Y) (b:=b);cases lk:(stands Y.es).lookup b with
  |none =>
   rw[lk]at lc;refine ZP ?_
   exists Ye xs rfl
   rw[Yb,lk];walk_at "p";exact bad (gh<|by rw[lc];decide)
  |some a =>
   rw[lk]at lc;refine BG no x' oks (by rw[<-ZL];exact Ĥ (f:=(·.1))<|ZC lk) λg2 y2 gd2 x2=>?_;have sm:=Yy (f6 b 0 Y.ts) {Y with es:=Yo b Y.es};refine fin y2 ?_ sm.y (λa ha=>.inl ?_) x2 .non
   .rw[OG];refine(gg lc).trans ?_;congr 2;unfold Yd.cc;dsimp only;congr 1;unfold Zh enC Yo;rw[List.filter_map];rfl
   .rw[sm.adr]at ha;exact((μ _).append<|WN<|Xd b Y.es).subset ha
 |fallT p =>
  show wF P (n+5) "Yard.fall_of_tie" [.ref Y.y,.int p] g Q' X;have dI:(Y.ts.map trV).length=Y.ts.length:=Ã _;by_cases hp:0<=p/\p<Y.ts.length
  .obtain⟨q,rfl⟩:∃q:Nat,p=q:=⟨p.toNat,by lia⟩
   have et:=É (l:=Y.ts) (i:=q) (by lia);have eg:Y.ts[(q:Int).toNat]?.getD (0,0,0)=Y.ts[q]'(by lia):=by rw[á,et];rfl
   cases lk:Y.fallen.lookup (q:Int)with
   |none =>
    refine A6 no x' oks et lk (by lia) λg2 y2 x2=>fin y2 ?_ rfl (λa ha=>.inl ?_) x2 .non
    .refine(gg ⟨hp,by show(Y.fallen.lookup _).isSome=eP;rw[lk];rfl⟩).trans<|congrArg eL ?_;have:=NZ (Y:={Y with fallen:=Zl Y.fallen q eN}) (p:=q);dsimp only at this;rw[eg]at this;exact this.symm
    .unfold Yd.adr at ha ⊢;dsimp only at ha
     rwa [Jt]at ha
   |some v =>
    refine ZF ?_
    exists ZK
    fail;refine fP (by simp) ?_
    exists eW (xs:=[.tup<|Y.bs.map .int,.tup<|Y.ts.map trV]) (v:=.tup<|Y.ts.map trV) rfl
    fail;refine fQ (by rw[dI];simpa using hp.2) ?_
    exists JF xf rfl
    rw[Yb,lk];walk_at "p";exact bad (gh λz=>by have z:=z.2;have:(Y.fallen.lookup (q:Int)).isSome=eP:=z;rw[lk]at this;cases this)
  .refine ZF ?_
   exists ZK
   fail;have bd:=bad<|gh λz=>hp z.1;refine fR (λp0=>?_) λp0=>?_
   .exists eW (xs:=[.tup<|Y.bs.map .int,.tup<|Y.ts.map trV]) (v:=.tup<|Y.ts.map trV) rfl
    fail;refine fP (by rw[dI];simp;lia) ?_;walk_at "p";exact bd
   .walk_at "p";exact bd
 |backB b =>
  show wF P (n+5) "Yard.back_of_bridge" [.ref Y.y,.int b] g Q' X;have lc:=Xp (Y:=Y) (b:=b);cases ll:Y.lives.lookup b with
  |none =>
   refine Zu ?_
   exists Ye xl rfl
   rw[Yb,ll];fail;walk_at "p";refine bad ?_;dsimp only[step];split
   .rfl
   .show(Y.lives.lookup b).map _=eM;rw[ll];rfl
  |some life =>
   cases lk:(stands Y.es).lookup b with
   |some a =>
    rw[lk]at lc;refine Zu ?_
    exists Ye xl rfl
    rw[Yb,ll];walk_at "p";refine JF xs rfl ?_;rw[Yb,lk];walk_at "p";exact bad<|gg lc
   |none =>
    rw[lk]at lc;refine Dh no x' oks ll (El lk) (by lia) (by lia) λq t d' g2 fr y2 gd2 x2=>?_;have sm:=Yy (f6 b 0 Y.ts) {Y with lives:=Zl Y.lives b<|life+1,es:=Y.es++[⟨b,q,t,d',Zy b (life+1) Y.most []⟩]};refine fin y2 ?_ sm.y (λa ha=>?_) x2 .non
    .rw[OG];refine(gh<|by rw[lc];decide).trans ?_;show(Y.lives.lookup b).map _=_;rw[ll];congr 2;unfold Yd.cc;dsimp only;unfold enC;rw[ã];rfl
    .rw[sm.adr]at ha;have z:a∈[Y.y,Y.lv,Y.st,Y.fl,Y.rd]++enA (Y.es++[⟨b,q,t,d',Zy b (life+1) Y.most []⟩]):=ha;rw[XU,<-Ķ]at z;rcases æ.mp z with z|z
     .exact .inl z
     .exact .inr<|fr a z
 |backT p =>
  show wF P (n+5) "Yard.back_of_tie" [.ref Y.y,.int p] g Q' X;cases lk:Y.fallen.lookup p with
  |none =>
   refine Z8 ?_
   exists Ye xf rfl
   rw[Yb,lk];walk_at "p";exact bad (gh<|by show ¬(Y.fallen.lookup p).isSome=eN;rw[lk];decide)
  |some v =>
   have hp:=gd.fr _<|ZC lk;have hp2:p<Y.ts.length:=hp.2;obtain⟨q,rfl⟩:∃q:Nat,p=q:=⟨p.toNat,by have:0<=p:=hp.1;lia⟩
   have et:=É (l:=Y.ts) (i:=q) (by lia);have eg:Y.ts[(q:Int).toNat]?.getD (0,0,0)=Y.ts[q]'(by lia):=by rw[á,et];rfl
   refine BY no x' oks et lk λg2 y2 x2=>fin y2 ?_ rfl (λa ha=>.inl ?_) x2 .non
   .refine(gg<|by show(Y.fallen.lookup _).isSome=eN;rw[lk];rfl).trans<|congrArg eL ?_;have:=NZ (Y:={Y with fallen:=Zh Y.fallen q}) (p:=q);dsimp only at this;rw[eg]at this;exact this.symm
   .unfold Yd.adr at ha ⊢;dsimp only at ha
    rwa [Jt]at ha
end
abbrev Yc.at_(C:Yc)(b:Int):Br:=(C.br.lookup b).getD<|Zy 0 0 0 []
abbrev Yc.keys(C:Yc):List Int:=sortI (C.br.map (·.1))
abbrev IJ(C:Yc):List Val:=C.keys.map λb=>.tup [.int b,(C.at_ b).label.v]
abbrev UT(C:Yc)(b p:Int):String:=if(C.br.lookup b).isSome then OO (C.at_ b) p else "down"
abbrev Yc.ends(C:Yc)(p:Int):String×String:=(UT C (C.tie p).1 p,UT C (C.tie p).2.1 p)
abbrev Yc.downs(C:Yc):List Int:=C.bs.filter λb=>!(C.br.lookup b).isSome
abbrev Yc.cuts(C:Yc):List Int:=sortI (C.fallen.map (·.1))
def Yc.gd.ten(g:C.gd N):(C.br.map (·.1)).length<=10:=Ô (JN g.nd<|keys_sub.mp g.sub) g.no.ten
def Yc.gd.f16(g:C.gd N):(C.fallen.map (·.1)).length<=16:=Yq (m:=16) g.fn λx hx=>by obtain⟨q,hq,rfl⟩:=Û.mp hx;have:=g.fr q hq;have:=g.no.sixteen;lia
def Ny:C.keys.length=(C.br.map (·.1)).length:=(ŭ _ _).length_eq
def keys_mem{b:Int}:b∈C.keys↔(C.br.lookup b).isSome=eN:=by unfold Yc.keys;rw[mem_sort,keys_look]
def BN:C.cuts.length=(C.fallen.map (·.1)).length:=(ŭ _ _).length_eq
def fc.at_(x:fc h Y){b:Int}(hb:(Y.cc.br.lookup b).isSome=eN):∃e∈Y.es,e.num=b/\(gf.stands Y.es).lookup b=eL e.b/\Y.cc.at_ b=e.B/\fb h e.b e.t e.d e.B:=by
 rw[Xp]at hb;obtain⟨a,ha⟩:=ī.mp hb;obtain⟨e,pre,Ŋ,he,rfl,rfl⟩:=XO ha;have hm:e∈Y.es:=by rw[he];simp
 refine⟨e,hm,rfl,ha,?_,x.brs e hm⟩;have:(enC Y.es).lookup e.num=eL e.B:=Mx (by rw[YQ];exact x.key)<|Û.mpr ⟨e,hm,rfl⟩;show((enC Y.es).lookup e.num).getD _=_;rw[this];rfl
section
variable {Y:Yd}{N:Nat}
def FR(x:fc h Y)(k:∀p g,h p=eM->Ext h g->g p=eL (.lst<|Y.road.map rdV)->Q (.ref p) g):wF P (n+1) "Yard.road" [.ref Y.y] h Q X:=by have xi:=x.ins;have xr:=x.road;refine Nq ?_;refine' Zm k
def UN(x:fc h Y)(gd:Y.cc.gd N)(k:∀p g,h p=eM->Ext h g->g p=eL (.lst<|IJ Y.cc)->Q (.ref p) g):wF P (n+2) "Yard.labels" [.ref Y.y] h Q X:=by
 have xi:=x.ins;have xs:=x.stand;have ek:(stands Y.es).map (·.1)=Y.cc.br.map (·.1):=(ZL _).trans (YQ _).symm;have h10:=gd.ten;have kl:=Ny (C:=Y.cc);refine J5 ?_;refine' KP xs (UA _) (by rw[ek];lia) (Zm λp1 g1 bY x1 e1=>?_);rw[ek]at e1;have x':=x.ext x1;have xi:=x'.ins;have xs:=x'.stand;refine' ⟨Ü (by rw[Ã];show Y.cc.keys.length<=10;lia) (by decide),?_⟩;refine X8 (λi ys g=>g=g1/\ys=(Y.cc.keys.take i).map λb=>.tup [.int b,(Y.cc.at_ b).label.v]) ⟨rfl,rfl⟩ (λi ys g _ ⟨z,_⟩=>by rw[z];exact lsE e1) ?_ ?_
 .rintro i v ys g hv ⟨rfl,rfl⟩ K hK;obtain⟨nm,hnm,rfl⟩:=Yk hv;obtain⟨e,he,en,lk,ea,ba⟩:=x'.at_<|keys_mem.mp<|ó hnm;have bi:=ba.ins;walk_at "p";refine YS xs rfl (by rw[Z4,lk];rfl) ?_
  exists MQ ba
  refine' hK _ _ ⟨rfl,?_⟩;rw[ZB (xs:=Y.cc.keys) hnm,ã,<-ea];rfl
 .rintro ys g ⟨rfl,rfl⟩;rw[Ã,show(sortI (Y.cc.br.map (·.1))).length=Y.cc.keys.length from rfl,ĕ];exact Zm λp g2 hp x2 ep=>k p g2 (X7 x1 hp) (x1.trans x2) ep
def DC(x:fc h Y)(gd:Y.cc.gd N)(k:∀g,Ext h g->Q (.tup [.tup<|Y.cc.downs.map .int,.tup<|Y.cc.cuts.map .int]) g):wF P (n+1) "Yard.down" [.ref Y.y] h Q X:=by
 have xi:=x.ins;have xs:=x.stand;have hbl:(Y.bs.map Val.int).length<=10:=by rw[Ã];exact gd.no.ten
 refine Ni ?_
 exists eW (xs:=[.tup<|Y.bs.map .int,.tup<|Y.ts.map trV]) (v:=.tup<|Y.bs.map .int) rfl
 refine' ⟨Ü hbl (by decide),X8 (λi ys g=>g=h/\ys=((Y.bs.take i).filter λb=>!(Y.cc.br.lookup b).isSome).map .int) ⟨rfl,rfl⟩ (λ_ _ _ _ _=>trivial) ?_ ?_⟩
 .rintro i v ys g hv ⟨rfl,rfl⟩ K hK;obtain⟨b,hb,rfl⟩:=Yk hv;rw[ZB hb,dW,ě,List.filter_nil]at hK
  exists Ye xs rfl
  rw[Yb,<-Xp];refine' ifD (λhc=>?_) (λhc=>?_)
  .refine' hK _ _ ⟨rfl,by rw[hc,gg rfl,ã];rfl⟩
  .exact hK _ _ ⟨rfl,by rw[hc,gh (by decide),õ,Option.toList_none,õ]⟩
 rintro ys g ⟨rfl,rfl⟩;rw[Ã,ĕ];refine Zm λp1 g1 bY x1 e1=>?_;have x':=x.ext x1;have xi:=x'.ins;have xf:=x'.fallen;refine' KP xf (UA _) (by have:=gd.f16;show(Y.cc.fallen.map (·.1)).length<_;lia) (Zm λp2 g2 hp2 x2 e2=>?_);refine' k _ (x1.trans x2)
def MO{b p:Int}(x:fc h Y)(gd:Y.cc.gd N)(k:Q (.str<|UT Y.cc b p) h):wF P (n+4) "Yard.end_at" [.ref Y.y,.int b,.int p] h Q X:=by
 have xi:=x.ins;have xs:=x.stand;refine J8 ?_
 exists Ye xs rfl
 rw[Yb,<-Xp];fail;unfold UT at k;cases z:(Y.cc.br.lookup b).isSome with
 |false =>rw[z]at k;walk_at "p";exact k
 |true =>rw[z,gg rfl]at k;obtain⟨e,he,en,lk,ea,ba⟩:=x.at_ z;have bi:=ba.ins;walk_at "p";refine YS xs rfl (by rw[Z4,lk];rfl) ?_;fail;rw[ea]at k;exact Im ba (gd.ok (e.num,e.B)<|Û.mpr ⟨e,he,rfl⟩).ok k
def Um{p:Nat}(x:fc h Y)(gd:Y.cc.gd N)(hp:p<Y.ts.length)(k:Q (.tup [.str (Y.cc.ends p).1,.str (Y.cc.ends p).2]) h):wF P (n+5) "Yard.ends" [.ref Y.y,.int p] h Q X:=by
 have xi:=x.ins;have dI:(Y.ts.map trV).length=Y.ts.length:=Ã _;have eg:Y.cc.tie p=Y.ts[p]:=by show Y.ts[(p:Int).toNat]?.getD _=_;rw[á,É hp];rfl
 refine NH ?_
 exists ZK
 fail;refine fP (by simp) ?_
 exists eW (xs:=[.tup<|Y.bs.map .int,.tup<|Y.ts.map trV]) (v:=.tup<|Y.ts.map trV) rfl
 fail;refine fQ (by rw[dI];simpa using hp) ?_
 exists eW (xs:=[.tup<|Y.bs.map .int,.tup<|Y.ts.map trV]) (v:=.tup<|Y.ts.map trV) rfl
 refine' eW (v:=trV Y.ts[p]) (Yz (by lia)<|by rw[á,Ý,É hp];rfl) ?_;unfold Yc.ends at k;rw[eg]at k;unfold trV
 exists MO x gd
 exists MO x gd
 refine' k
end
def Me{k:Nat}(q:∀c,Q (.int c) h):wF P (n+1) "_law_cell_at" [.scr ns,.int k] h Q X:=by
 refine J6 ?_;refine' fR (λhc=>?_) (λhc=>?_)
 .fail;have hk:k<ns.length:=by lia
  refine GF (v:=.int ns[k]) ?_ ?_
  .refine Yz (by lia) ?_;rw[Ý];simp[hk]
  .exact q _
 .refine' q _
def Nm{k:Nat}(hk:k<=100)(q:∀r,0<=r->Q (.int r) h):wF P (n+1) "_law_mixed" [.int c,.int k] h Q X:=by
 refine Nb ?_
 exists q _
 exact Int.ediv_nonneg (Ħ _<|by decide) (by decide)
abbrev Nn(ns:List Int):Prop:=∀x∈ns,0<=x
def JQ{m:Nat}(hm:m<=100)(q:∀p (ns:List Int) g,h p=eM->Ext h g->g p=eL (.lst<|ns.map .int)->ns.length=m->Nn ns->Q (.ref p) g):wF P (n+2) "_law_draws" [.int c,.int m] h Q X:=by
 refine M4 ?_;refine' Zm λp g1 hp x1 e1=>?_;refine' ⟨⟨by lia,by lia⟩,?_⟩;refine Zx (λi en g=>Sm3 λr v5 b=>∃ns:List Int,en=[eL<|.int c,eL<|.int m,eL<|.int r,eL<|.bl b,eL<|.ref p,v5]/\g p=eL (.lst<|ns.map .int)/\ns.length=i/\Nn ns/\Ext h g) ⟨_,_,_,[],rfl,e1,rfl,(λx hx=>gp hx Í),x1⟩ (λ_ _ _ _ _=>trivial) ?_ ?_
 .rintro i v en g hv ⟨r,v5,b,ns,rfl,e,hl,hn,x⟩ K hK;obtain⟨rfl,hi⟩:=X3 hv;have put:∀{y:Int}{r':Int},0<=y->K [eL<|.int c,eL<|.int m,eL<|.int r',eL<|.bl b,eL<|.ref p,eL<|.int i] (upd g p<|.lst<|ns.map Val.int++[.int y]):=λ{y r'} hy=>by
   refine hK _ _ ⟨_,_,_,ns++[y],rfl,by rw[eR,ã];rfl,by rw[î,hl];rfl,λz hz=>?_,⟨λe=>by rw[eQ<|Zb e hp];exact x.get e⟩⟩;rcases æ.mp hz with hz|hz
   .exact hn z hz
   .rw[é.mp hz];exact hy
  have hlim:(ns.map Val.int).length<lim:=by rw[Ã];exact Ü (by lia:ns.length<=100) (by decide)
  refine' ifD (λhc=>?_) (λhc=>?_)
  .refine' fR (λhr=>?_) (λhr=>?_)
   .refine' put (Ħ _<|by decide)
   .refine' Nm (by lia) λy hy=>?_;refine' put hy
  .refine fQ rfl ?_;refine' Nm (by lia) λy hy=>?_;refine' put hy
 .rintro en g ⟨r,v5,b,ns,rfl,e,hl,hn,x⟩;rw[ME]at hl;refine' q p ns g hp x e (by lia) hn
def nth(hi:i<ns.length)(hn:Nn ns):∃x,0<=x/\atI (ns.map Val.int) i=eL (.int x):=by refine⟨ns[i],hn _<|Ł hi,Yz (by lia) ?_⟩;rw[Ý];simp[hi]
def N4(ea:h a=eL (.lst<|ns.map .int))(hl:ns.length=14)(hn:Nn ns)(q:∀p (bs:List Int) g,h p=eM->Ext h g->g p=eL (.lst<|bs.map .int)->1<=bs.length->bs.length<=10->Brs bs->bs.Pairwise (· < ·)->Q (.ref p) g):wF P (n+1) "_law_bridges" [.ref a] h Q X:=by
 obtain⟨s0,s00,a0⟩:=nth (i:=0) (by lia) hn;obtain⟨s1,s10,a1⟩:=nth (i:=1) (by lia) hn;have fin:∀m:Int,1<=m->m<=10->∀{v3:Option Val},wSs (wF P n) #[.set (.one 2)<|.idx (.lst #[.cst<|.int 1000,.cst<|.int 12,.cst<|.int 1000,.cst<|.int 30])<|.bin .mod (.idx (.var 0)<|.cst<|.int 1)<|.cst<|.int 4,.ret<|.bi .sortedSet #[.comp [2] 1 (.one 0) (.seq<|.slc (.var 0) (.some<|.cst<|.int 4)<|.some<|.bin .add (.cst<|.int 4)<|.var 1) .yes<|.bin .mod (.var 0)<|.var 1]] [eL<|.ref a,eL<|.int m,v3] h (λ_ g=>Q .non g) Q (λ_ _=>False) (λ_ _=>False) λ_ c g=>X c g:=by
  intro m m1 m2 v3;refine' Zm λp1 g1 bY x1 e1=>?_
  exists Zk (x1.get ea) a1
  fail;obtain⟨v,ev,hv⟩:=Wf (xs:=[Val.int 1000,.int 12,.int 1000,.int 30]) (r:=s1 % 4) (Ħ _<|by decide) (Ĳ _<|by decide);obtain⟨wd,rfl,w1,w2⟩:∃wd:Int,v=.int wd/\1<=wd/\wd<=1000:=by simp only[Æ,Í,or_false]at hv;rcases hv with rfl|rfl|rfl|rfl<;>exact⟨_,rfl,by decide,by decide⟩
  refine Zk e1 ev ?_;refine' Zm λp2 g2 hp2 x2 e2=>?_;rw[WY,Ol (by decide)<|by lia]at e2;have hc:((ns.drop (4:Int).toNat).take<|(4+m).toNat - (4:Int).toNat).length=m.toNat:=by rw[ă,ũ,hl];lia
  generalize (ns.drop (4:Int).toNat).take ((4+m).toNat - (4:Int).toNat)=ks at e2 hc;refine' ⟨Ü (by rw[Ã];lia:_<=10) (by decide),ZS (λv=>match v with|.int b=>eL (.int<|b % wd)|_=>eM) (lsE e2) (λv hv K hK=>?_) ?_⟩
  .obtain⟨b,_,rfl⟩:=Û.mp hv;walk_at "p";exact hK
  rw[show(ks.map Val.int).filterMap (λv=>match v with|.int b=>eL (.int<|b % wd)|_=>eM)=(ks.map (· % wd)).map Val.int by rw[Δ,ú];exact congrFun (cf (f:=λb:Int=>Val.int<|b % wd)) ks];refine Zm λp3 g3 hp3 x3 e3=>?_;fail;have hk:(ks.map (· % wd)).length=m.toNat:=by rw[Ã];exact hc
  refine Q2 e3 (by lia)<|Zm λp4 g4 hp4 x4 e4=>?_;have xx:=((x1.trans x2).trans x3).trans x4;have hp0:h p4=eM:=by
   cases z:h p4 with
   |none=>rfl
   |some o=>rw[x3.get<|x2.get<|x1.get z]at hp4;cases hp4
  refine q p4 _ g4 hp0 xx e4 (Hc<|by lia) (Ô (HN _)<|by lia) (λi hi=>?_)<|LY _;obtain⟨b,_,rfl⟩:=Û.mp<|sd_mem.mp hi;exact⟨Ħ _ (by lia),Int.lt_of_lt_of_le (Ĳ _<|by lia) w2⟩
 refine JZ ?_
 exists Zk ea a0
 exists Zk ea a0
 refine' fR (λhc=>?_) (λhc=>?_)
 .exists Zk ea a0
  repeat (first|exact fin _ (by lia) (by lia)|walk_at "py1")
 .exact fin _ (by lia) (by lia)
def P7(nd:ns.Nodup){i j:Int}{a b:Int}(i0:0<=i)(i1:i<ns.length)(j0:0<=j)(j1:j<ns.length)(hij:i≠j)(ea:atI (ns.map Val.int) i=eL (.int a))(eb:atI (ns.map Val.int) j=eL (.int b)):a≠b:=by
 have hi:i.toNat<ns.length:=by lia
 have hj:j.toNat<ns.length:=by lia
 have e1:=Yz (xs:=ns.map Val.int) i0 (x:=.int ns[i.toNat]) (by rw[Ý,É hi];rfl);have e2:=Yz (xs:=ns.map Val.int) j0 (x:=.int ns[j.toNat]) (by rw[Ý,É hj];rfl);rw[ea]at e1;rw[eb]at e2;simp only[Į,Val.int.injEq]at e1 e2;rw[e1,e2];intro z;have:=(List.getElem_inj nd).mp z;lia
def C6{a L:Int}(a0:0<=a)(a1:a<L)(r0:0<=r)(r1:r<L - 1):(a+1+r) % L≠a:=by
 by_cases hc:a+1+r<L
 .rw[Int.emod_eq_of_lt (by lia) hc];lia
 .rw[<-Int.sub_emod_right,Int.emod_eq_of_lt (by lia)<|by lia];lia
def P4(a b:Int):sortI [a,b]=if b<a then [b,a]else [a,b]:=by
 unfold sortI;by_cases h:b<a
 .rw[gg h,ϣ];simp[ς,ϣ,List.merge,Int.not_le.mpr h]
 .rw[gh h,ϣ];simp[ς,ϣ,List.merge,Int.not_lt.mp h]
def E6{pb pt:Ad}{bs th:List Int}{k:Nat}(eb:h pb=eL (.lst<|bs.map .int))(l2:2<=bs.length)(l10:bs.length<=10)(nd:bs.Nodup)(et:h pt=eL (.lst<|th.map .int))(hl:th.length=3)(hn:Nn th)(q:∀t g,LOk bs t->Ext h g->Q (trV t) g):wF P (n+1) "_law_tie" [.ref pb,.ref pt,.int k] h Q X:=by
 have hL:(bs.map Val.int).length=bs.length:=Ã _;obtain⟨t0,t00,a0⟩:=nth (i:=0) (by lia) hn;obtain⟨t1,t10,a1⟩:=nth (i:=1) (by lia) hn;obtain⟨t2,t20,a2⟩:=nth (i:=2) (by lia) hn;have fin:∀{one aR:Int},0<=one->one<bs.length->0<=aR->aR<bs.length->one≠aR->wSs (wF P n) #[.set (.one 6)<|.bin .add (.cst<|.int 1)<|.bin .mod (.idx (.var 1)<|.cst<|.int 2)<|.cst<|.int 1000,.ite (.val<|.cmp .eq (.bin .mod (.bin .fdiv (.idx (.var 1)<|.cst<|.int 0)<|.cst<|.int 20)<|.cst<|.int 2)<|.cst<|.int 0) #[.set (.one 6)<|.bin .add (.cst<|.int 1)<|.bin .mod (.idx (.var 1)<|.cst<|.int 2)<|.cst<|.int 3] .nil,.set (.one 7)<|.bi .sortedI #[.lst #[.idx (.var 0)<|.var 4,.idx (.var 0)<|.var 5]],.ret<|.tup #[.idx (.var 7)<|.cst<|.int 0,.idx (.var 7)<|.cst<|.int 1,.var 6]] [eL<|.ref pb,eL<|.ref pt,eL<|.int k,eL<|.int bs.length,eL<|.int one,eL<|.int aR,eM,eM] h (λ_ g=>Q .non g) Q (λ_ _=>False) (λ_ _=>False) λ_ c g=>X c g:=by
  intro one aR o0 o1 p0 p1 ž;obtain⟨u1,eu1,hu1⟩:=Wf (xs:=bs.map Val.int) (r:=one) o0 (by lia);obtain⟨i1,hi1,rfl⟩:=Û.mp hu1;obtain⟨u2,eu2,hu2⟩:=Wf (xs:=bs.map Val.int) (r:=aR) p0 (by lia);obtain⟨i2,hi2,rfl⟩:=Û.mp hu2;have hi:=P7 nd o0 o1 p0 p1 ž eu1 eu2;have last:∀c:Int,1<=c->c<=1000->wSs (wF P n) #[.set (.one 7)<|.bi .sortedI #[.lst #[.idx (.var 0)<|.var 4,.idx (.var 0)<|.var 5]],.ret<|.tup #[.idx (.var 7)<|.cst<|.int 0,.idx (.var 7)<|.cst<|.int 1,.var 6]] [eL<|.ref pb,eL<|.ref pt,eL<|.int k,eL<|.int bs.length,eL<|.int one,eL<|.int aR,eL<|.int c,eM] h (λ_ g=>Q .non g) Q (λ_ _=>False) (λ_ _=>False) λ_ c g=>X c g:=by
   intro c c0 c1
   exists Zk eb eu1
   exists Zk eb eu2
   refine' Zm λp3 g3 hp3 x3 e3=>?_;refine' Oy (ns:=[i1,i2]) e3 rfl (by simp) (Zm λp4 g4 hp4 x4 e4=>?_);rw[P4]at e4;have x34:=x3.trans x4;by_cases ϙ:i2<i1
   .rw[gg ϙ]at e4;refine' q (i2,i1,c) g4 ⟨hi2,hi1,ϙ,c0,c1⟩ x34
   .rw[gh ϙ]at e4;refine' q (i1,i2,c) g4 ⟨hi1,hi2,by show i1<i2;lia,c0,c1⟩ x34
  exists Zk et a2
  exists Zk et a0
  refine' fR (λhc=>?_) (λhc=>?_)
  .exists Zk et a2
   repeat (first|exact last _ (by lia) (by lia)|walk_at "py1")
  .refine N7 ?_;exact last _ (by lia) (by lia)
 refine U0 ?_
 exists Zk et a0
 rw[hL]
 exists Zk et a1
 fail;have o0:=Ħ t0 (show(bs.length:Int)≠0 by lia);have o1:=Ĳ t0 (show(0:Int)<bs.length by lia);have r0:=Ħ t1 (show(bs.length:Int) - 1≠0 by lia);have r1:=Ĳ t1 (show(0:Int)<(bs.length:Int) - 1 by lia);have p0:=Ħ (t0 % bs.length+1+t1 % ((bs.length:Int) - 1)) (show(bs.length:Int)≠0 by lia);have p1:=Ĳ (t0 % bs.length+1+t1 % ((bs.length:Int) - 1)) (show(0:Int)<bs.length by lia);refine fR (λhc=>?_) λhc=>?_
 .exists Zk et a0
  refine' fR (λhd=>?_) (λhd=>?_)
  .exists Zk et a1
   have q0:=Ħ t1 (show(k:Int)+1≠0 by lia);have q1:=Ĳ t1 (show(0:Int)<(k:Int)+1 by lia)
   repeat (first|exact fin (by lia) hc q0 (by lia) (by lia)|walk_at "py1")
  .exact fin o0 o1 p0 p1 (C6 o0 o1 r0 r1).symm
 .refine fQ rfl ?_;exact fin o0 o1 p0 p1 (C6 o0 o1 r0 r1).symm
def Ho{d:Int}(q:∀bs ts g,fk bs ts->Ext h g->Q (ZV bs ts) g):wF P (n+3) "_law_net" [.int c,.int d] h Q X:=by
 refine Af ?_;refine' JQ (m:=14) (by decide) λp ns g1 hp x1 e1 hl hn=>?_;obtain⟨s2,s20,a2⟩:=nth (i:=2) (by lia) hn;refine' N4 e1 hl hn λpb bs g2 hpb x2 eb l1 l10 hb up=>?_;have hL:(bs.map Val.int).length=bs.length:=Ã _;have nd:bs.Nodup:=up.imp λh=>by lia
 have e1':=x2.get e1;have x12:=x1.trans x2;have fin:∀m:Nat,m<=16->(0<m->2<=bs.length)->wSs (wF P<|n+2) #[.set (.one 5)<|.call "_law_draws" #[.var 1,.bin .mul (.cst<|.int 3)<|.var 4],.set (.one 6)<|.comp [3,5] 1 (.one 0) (.range<|.var 4) .yes<|.call "_law_tie" #[.var 1,.slc (.var 2) (.some<|.bin .mul (.cst<|.int 3)<|.var 0)<|.some<|.bin .add (.bin .mul (.cst<|.int 3)<|.var 0)<|.cst<|.int 3,.var 0],.ret<|.tup #[.bi .tuple #[.var 3],.bi .tuple #[.var 6]]] [eL<|.int c,eL<|.int d,eL<|.ref p,eL<|.ref pb,eL<|.int m,eM,eM] g2 (λ_ g=>Q .non g) Q (λ_ _=>False) (λ_ _=>False) λ_ c g=>X c g:=by
  intro m hm h2;fail;rw[show(3:Int)*(m:Int)=((3*m:Nat):Int) by lia];refine JQ (m:=3*m) (by lia) λpd ds g3 hpd x3 e3 hdl hdn=>?_;have eb3:=x3.get eb;refine' ⟨⟨by lia,by lia⟩,by rw[ME];exact Ü (by lia:_<=16) (by decide),?_⟩;refine X8 (λi zs g=>∃ts:List Tie,zs=ts.map trV/\ts.length=i/\(∀t∈ts,LOk bs t)/\Ext g3 g) ⟨[],rfl,rfl,(λt ht=>gp ht Í),.refl⟩ (λ_ _ _ _ _=>trivial) ?_ ?_
  .rintro i v zs g hv ⟨ts,rfl,dI,ht,x⟩ K hK;obtain⟨rfl,hi⟩:=X3 hv;walk_at "p";refine Zm λp4 g4 hp4 x4 e4=>?_;rw[WY,Ol (by lia)<|by lia]at e4;have hc:((ds.drop (3*(i:Int)).toNat).take<|(3*(i:Int)+3).toNat - (3*(i:Int)).toNat).length=3:=by
    rw[ă,ũ,hdl];lia
   have hcn:Nn<|(ds.drop (3*(i:Int)).toNat).take<|(3*(i:Int)+3).toNat - (3*(i:Int)).toNat:=λy hy=>hdn y<|List.mem_of_mem_drop<|List.mem_of_mem_take hy;refine' E6 (x4.get<|x.get eb3) (h2<|by lia) l10 nd e4 hc hcn λt g5 lo x5=>?_;refine hK _ _ ⟨ts++[t],by rw[ã];rfl,by rw[î,dI];rfl,λy hy=>?_,(x.trans x4).trans x5⟩;rcases æ.mp hy with hy|hy
   .exact ht y hy
   .rw[é.mp hy];exact lo
  .rintro zs g ⟨ts,rfl,dI,ht,x⟩;rw[ME]at dI;refine Zm λp6 g6 hp6 x6 e6=>?_;have eb6:=x6.get<|x.get eb3;refine' q bs ts g6 ⟨l1,l10,hb,up,by lia,ht⟩ (((x12.trans x3).trans x).trans x6)
 exists Zk e1' a2
 exists Zk e1' a2
 fail;have tail:∀m:Int,0<=m->m<=16->wSs (wF P<|n+2) #[.ite (.val<|.cmp .eq (.bi .len #[.var 3])<|.cst<|.int 1) #[.set (.one 4)<|.cst<|.int 0] .nil,.set (.one 5)<|.call "_law_draws" #[.var 1,.bin .mul (.cst<|.int 3)<|.var 4],.set (.one 6)<|.comp [3,5] 1 (.one 0) (.range<|.var 4) .yes<|.call "_law_tie" #[.var 1,.slc (.var 2) (.some<|.bin .mul (.cst<|.int 3)<|.var 0)<|.some<|.bin .add (.bin .mul (.cst<|.int 3)<|.var 0)<|.cst<|.int 3,.var 0],.ret<|.tup #[.bi .tuple #[.var 3],.bi .tuple #[.var 6]]] [eL<|.int c,eL<|.int d,eL<|.ref p,eL<|.ref pb,eL<|.int m,eM,eM] g2 (λ_ g=>Q .non g) Q (λ_ _=>False) (λ_ _=>False) λ_ c g=>X c g:=by
  intro m m0 m1;fail;rw[hL];refine fR (λhc=>?_) λhc=>?_
  .repeat (first|exact fin 0 (by lia) (λz=>gp z<|by decide)|walk_at "py1")
  .refine N7 ?_;have:=fin m.toNat (by lia) (λ_=>by lia)
   rwa [Int.toNat_of_nonneg m0]at this
 refine fR (λhc=>?_) λhc=>?_
 .exists Zk e1' a2
  repeat (first|exact tail _ (by lia) (by lia)|walk_at "py1")
 .refine N7 ?_;exact tail _ (by lia) (by lia)
def Nf(q:∀m g,4<=m->m<=200->Ext h g->Q (.int m) g):wF P (n+3) "_law_greatest" [.int c] h Q X:=by
 refine JI ?_;refine' JQ (m:=4) (by decide) λp ns g1 hp x1 e1 hl hn=>?_;obtain⟨s1,s10,a1⟩:=nth (i:=1) (by lia) hn;obtain⟨s3,s30,a3⟩:=nth (i:=3) (by lia) hn
 exists Zk e1 a1
 refine' fR (λhc=>?_) (λhc=>?_)
 .exists Zk e1 a3
  refine' q _ g1 (by lia) (by lia) x1
 .exists Zk e1 a3
  refine' q _ g1 (by lia) (by lia) x1
abbrev Pl:Nat->Val->Prop
 |_,.non=>True
 |_,.int _=>True
 |_,.str s=>True
 |d+1,.tup xs=>xs.length<=100/\∀x∈xs,Pl d x
 |_,_=>False
def WQ{xs:List Val}(e:h a=eL (.lst xs))(T:String):isiAny h (.ref a) [T]=eL (T == "list"):=by
 unfold isiAny gc gb;simp only[e,Ŕ,Ĕ,isiAny];by_cases z:T = "list"
 .subst z;rfl
 .have e1:("list" == T)=eP:=beq_eq_false_iff_ne.mpr λy=>z y.symm;have e2:(T == "list")=eP:=beq_eq_false_iff_ne.mpr z;rw[e1,e2];rfl
def NK(k:Q (.bl eN) h):wF P (n+1) "_law_same" [.non,.non] h Q X:=by refine Z3 ?_;fail;refine fP (by decide) ?_;refine' k
def M7{i:Int}(k:Q (.bl eN) h):wF P (n+1) "_law_same" [.int i,.int i] h Q X:=by refine Z3 ?_;fail;refine fQ (by simp) ?_;walk_at "p";rw[gk rfl];exact k
def MF{s:String}(k:Q (.bl eN) h):wF P (n+1) "_law_same" [.str s,.str s] h Q X:=by refine Z3 ?_;fail;refine fQ (by simp) ?_;walk_at "p";rw[gk rfl];exact k
def X6:∀(d:Nat){v:Val}{h:Hs}{Q:Q1},Pl d v->Q (.bl eN) h->wF P (n+d+1) "_law_same" [v,v] h Q X:=by
 intro d;induction d with
 |zero =>
  intro v h Q hv k;cases v with
  |non=>exact NK k
  |int i=>exact M7 k
  |str s=>exact MF k
  |_=>exact hv.elim
 |succ d ih =>
  intro v h Q hv k;cases v with
  |tup xs =>
   refine Z3 ?_;fail;refine fQ (by simp) ?_;walk_at "p";refine fQ (by simp) ?_;fail;obtain⟨hl,hv⟩:=hv;refine⟨⟨by lia,by lia⟩,?_⟩;refine Zx (λi e g=>g=h/\∃v,e=[eL<|.tup xs,eL<|.tup xs,v]) ⟨rfl,_,rfl⟩ (λ_ _ _ _ _=>trivial) ?_ ?_
   .rintro i v e g hvi ⟨rfl,v1,rfl⟩ K hK;obtain⟨rfl,hi⟩:=X3 hvi;obtain⟨x,ex,hx⟩:=Wf (xs:=xs) (r:=(i:Int)) (by lia) hi
    exists eW ex
    exists eW ex
    exists ih (hv x hx)
    walk_at "p";exact hK _ _ ⟨rfl,_,rfl⟩
   .rintro e g ⟨rfl,v1,rfl⟩;refine' k
  |non=>exact NK k
  |int i=>exact M7 k
  |str s=>exact MF k
  |_=>exact hv.elim
def W0{d:Nat}{xs:List Val}(ha:h a=eL (.lst xs))(hb:h b=eL (.lst xs))(hl:xs.length<=100000)(hx:∀x∈xs,Pl d x)(k:Q (.bl eN) h):wF P (n+d+2) "_law_same" [.ref a,.ref b] h Q X:=by
 refine Z3 ?_;fail;refine fQ (by simp) ?_
 exists BV (WQ hb _)
 walk_at "p";refine BV (WQ hb _) ?_;walk_at "p";refine BV (WQ hb _) ?_;walk_at "p";refine BV (WQ ha _) ?_;walk_at "p";refine fQ (by simp) ?_;refine' ⟨⟨by lia,by lia⟩,?_⟩;refine Zx (λi e g=>g=h/\∃v,e=[eL<|.ref a,eL<|.ref b,v]) ⟨rfl,_,rfl⟩ (λ_ _ _ _ _=>trivial) ?_ ?_
 .rintro i v e g hvi ⟨rfl,v1,rfl⟩ K hK;obtain⟨rfl,hi⟩:=X3 hvi;obtain⟨x,ex,hx'⟩:=Wf (xs:=xs) (r:=(i:Int)) (by lia) hi
  exists Zk ha ex
  exists Zk hb ex
  exists X6 d (hx x hx')
  walk_at "p";exact hK _ _ ⟨rfl,_,rfl⟩
 .rintro e g ⟨rfl,v1,rfl⟩;refine' k
def W9:∀{l m:List Int},l.Pairwise (· < ·)->m.Pairwise (· < ·)->(∀x,x∈l↔x∈m)->l=m
 |[],[],_,_,_=>rfl
 |[],y::m,_,_,h=>gp ((h y).mpr è) Í
 |x::l,[],_,_,h=>gp ((h x).mp è) Í
 |x::l,y::m,hl,hm,h=>by
  rw[ϳ]at hl hm;have e:x=y:=by
   rcases Æ.mp ((h x).mp è)with e|z
   .exact e
   .rcases Æ.mp ((h y).mpr è)with e|w
    .exact e.symm
    .have:=hm.1 x z;have:=hl.1 y w;lia
  subst e;refine congrArg (x :: ·)<|W9 hl.2 hm.2 λz=>⟨λhz=>?_,λhz=>?_⟩
  .rcases Æ.mp ((h z).mp<|Ú _ hz)with e|w
   .have:=hl.1 z hz;lia
   .exact w
  .rcases Æ.mp ((h z).mpr<|Ú _ hz)with e|w
   .have:=hm.1 z hz;lia
   .exact w
variable {q:Int}
def O9{k:Int}{v:α}:((Zl kvs k v).lookup q).isSome=(gq (q=k)||(kvs.lookup q).isSome):=by
 rw[look_iff,W5,look_iff (k:=k),look_iff];by_cases h:k∈kvs.map (·.1)
 .rw[gk h,gg rfl];by_cases e:q=k
  .subst e;simp[h]
  .simp[e]
 .rw[gj h,gh<|by decide];by_cases e:q=k<;>simp[e]
def Z6{α:Type}{k b:Int}:∀{kvs:List (Int×α)},(Zh kvs k).lookup b=if b=k then eM else kvs.lookup b
 |[]=>by split<;>rfl
 |p::r=>by
  have ih:=Z6 (k:=k) (b:=b) (kvs:=r);unfold Zh at ih ⊢;rw[ě,à];by_cases e:p.1=k
  .rw[gh (by simp[e]),ih];by_cases eb:b=k
   .rw[gg eb,gg eb]
   .rw[gh eb,gh eb,show(b==p.1)=eP by rw[e];simpa using eb]
  .rw[gg (by simp[e]),à,ih];by_cases eb:b=p.1
   .subst eb;simp[e]
   .have:(b==p.1)=eP:=by simpa using eb
    rw[this]
def Xh{k b:Int}{F:Br->Br}:∀{l:List (Int×Br)},(upC k F l).lookup b=(l.lookup b).map λB=>if b=k then F B else B
 |[]=>rfl
 |p::r=>by
  have ih:=Xh (k:=k) (b:=b) (F:=F) (l:=r);unfold upC at ih ⊢;rw[Ï,à,à];by_cases e:p.1=k
  .rw[gg e];dsimp only;by_cases eb:b=p.1
   .have:(b==p.1)=eN:=by simpa using eb
    rw[this];show eL (F p.2)=eL (if b=k then F p.2 else p.2);rw[gg<|eb.trans e]
   .have:(b==p.1)=eP:=by simpa using eb
    rw[this,ih]
  .rw[gh e];by_cases eb:b=p.1
   .have:(b==p.1)=eN:=by simpa using eb
    rw[this];show eL p.2=eL (if b=k then F p.2 else p.2);rw[gh λz=>e<|eb.symm.trans z]
   .have:(b==p.1)=eP:=by simpa using eb
    rw[this,ih]
noncomputable abbrev Cr:=Int×Int×Int
abbrev core(B:Br):Cr:=(B.number,B.life,B.count)
abbrev Yc.core(C:Yc)(b:Int):Option Cr:=(C.br.lookup b).map gf.core
abbrev Yc.tied(C:Yc)(b p:Int):Bool:=((C.br.lookup b).map λB=>(B.ties.lookup p).isSome).getD eP
abbrev Yc.std(C:Yc)(b:Int):Bool:=(C.br.lookup b).isSome
abbrev ZI(t:Tie)(b:Int):Bool:=gq (b=t.1)||gq (b=t.2.1)
abbrev inl(l:List Tie)(q:Int):Bool:=l.any λr=>gq (r.1=q)
abbrev inR(ts:List Tie)(q:Int):Bool:=gq (0<=q/\q<ts.length)
def AX{b:Int}:(C.core b).isSome=C.std b:=by unfold Yc.core Yc.std;rw[ř]
def Aw{on:Bool}{p f:Int}:core (tieF on p f c B)=core B:=by
 unfold tieF upB Nk;split
 .split<;>rfl
 .rfl
def Ko{on:Bool}{p f:Int}:((tieF on p f c B).ties.lookup q).isSome=if q=p then on else(B.ties.lookup q).isSome:=by
 unfold tieF upB Nk;cases on with
 |true =>
  rw[gg rfl];split
  .rename_i h;split
   .rename_i e;rw[e];exact h
   .rfl
  .show((Zl B.ties p (f,c)).lookup q).isSome=_;rw[O9];by_cases e:q=p<;>simp[e]
 |false =>rw[gh<|by decide];show((Zh B.ties p).lookup q).isSome=_;rw[Z6];by_cases e:q=p<;>simp[e]
def Yp{p b:Int}:((C.set1 p).core b=C.core b)/\((C.set1 p).std b=C.std b):=by
 unfold Yc.set1 AO Yc.core Yc.std;dsimp only;rw[Xh,Xh];cases C.br.lookup b with
 |none=>exact⟨rfl,rfl⟩
 |some B =>
  refine⟨?_,rfl⟩;have two:∀{q:Prop} [Decidable q] {a f c:Int}{A:Br},core (if q then tieF (onC C p) a f c A else A)=core A:=λ{q _ a f c A}=>by
   split
   .exact Aw
   .rfl
  show eL (core<|if b=(C.tie p).2.1 then tieF _ _ _ _ (if b=(C.tie p).1 then tieF _ _ _ _ B else B)else(if b=(C.tie p).1 then tieF _ _ _ _ B else B))=eL (core B);rw[two,two]
def US{p b:Int}(ž:(C.tie p).1≠(C.tie p).2.1):(C.set1 p).tied b q=if(gq (p=q)&&(ZI (C.tie p) b&&C.std b))=eN then onC C p else C.tied b q:=by
 unfold Yc.tied Yc.std Yc.set1 AO ZI;dsimp only;rw[Xh,Xh];cases C.br.lookup b with
 |none=>simp
 |some B =>
  simp only[Ŕ,Option.getD_some,cV,Bool.and_true];by_cases e1:b=(C.tie p).1
  .have e2:¬ b=(C.tie p).2.1:=λz=>ž<|e1.symm.trans z;rw[gh e2,gg e1,Ko];by_cases e:q=p
   .subst e;simp[e1]
   .have e':¬ p=q:=λz=>e z.symm;simp[e,e']
  .by_cases e2:b=(C.tie p).2.1
   .rw[gg e2,gh e1,Ko];by_cases e:q=p
    .subst e;simp[e2]
    .have e':¬ p=q:=λz=>e z.symm;simp[e,e']
   .rw[gh e2,gh e1];simp[e1,e2]
def Xg:∀(l:List Tie) (C:Yc),(∀b,(C.sets l).core b=C.core b)/\(∀b,(C.sets l).std b=C.std b)/\(C.sets l).fallen=C.fallen/\(C.sets l).lives=C.lives/\(C.sets l).road=C.road/\(C.sets l).bs=C.bs/\(C.sets l).ts=C.ts
 |[],_=>⟨λ_=>rfl,λ_=>rfl,rfl,rfl,rfl,rfl,rfl⟩
 |r::l,C=>by obtain⟨h1,h2,h3,h4,h5,h6,h7⟩:=Xg l<|C.set1 r.1;exact⟨λb=>(h1 b).trans Yp.1,λb=>(h2 b).trans Yp.2,h3,h4,h5,h6,h7⟩
def NY{D:Yc}(h1:∀b,D.std b=C.std b)(h2:D.fallen=C.fallen)(h3:D.ts=C.ts)(q:Int):onC D q=onC C q:=by
 have e:D.tie q=C.tie q:=by unfold Yc.tie;rw[h3]
 unfold onC;rw[h2,e];have a:=h1 (C.tie q).1;have b:=h1 (C.tie q).2.1;unfold Yc.std at a b;rw[a,b]
def Kn{b q:Int}:∀{l:List Tie}{C:Yc},(∀r∈l,(C.tie r.1).1≠(C.tie r.1).2.1)->(C.sets l).tied b q=if(inl l q&&(ZI (C.tie q) b&&C.std b))=eN then onC C q else C.tied b q
 |[],C,_=>rfl
 |r::l,C,h=>by
  have ih:=Kn (b:=b) (q:=q) (l:=l) (C:=C.set1 r.1) λs hs=>h s<|Ú _ hs;have e1:=US (C:=C) (p:=r.1) (b:=b) (q:=q)<|h r è;have eo:=NY (C:=C) (D:=C.set1 r.1) (λb=>Yp.2) rfl rfl q;have es:(C.set1 r.1).std b=C.std b:=Yp.2;have et:(C.set1 r.1).tie q=C.tie q:=rfl;rw[et,es,eo,e1]at ih;show((C.set1 r.1).sets l).tied b q=_;rw[ih];unfold inl;rw[ĳ];by_cases e:r.1=q
  .subst e;cases (ZI (C.tie r.1) b&&C.std b)<;>cases (l.any λs=>gq (s.1=r.1))<;>simp
  .cases (ZI (C.tie q) b&&C.std b)<;>cases (l.any λs=>gq (s.1=q))<;>simp[e]
abbrev TI(C:Yc):Prop:=∀b q,C.tied b q=(C.std b&&(inR C.ts q&&(ZI (C.tie q) b&&onC C q)))
def EW{l:List Tie}(ž:∀r∈l,(C.tie r.1).1≠(C.tie r.1).2.1)(hr:∀q,inl l q=eN->inR C.ts q=eN)(h0:∀b q,inl l q=eP->C.tied b q=(C.std b&&(inR C.ts q&&(ZI (C.tie q) b&&onC C q))))(h1:∀b q,inl l q=eN->C.tied b q=eN->(ZI (C.tie q) b&&C.std b)=eN):TI<|C.sets l:=by
 intro b q;obtain⟨s1,s2,s3,s4,s5,s6,s7⟩:=Xg l C;have et:(C.sets l).tie q=C.tie q:=by unfold Yc.tie;rw[s7]
 rw[Kn ž,s2,s7,et,NY s2 s3 s7];cases z:inl l q with
 |false=>rw[Β,gh<|by decide];exact h0 b q z
 |true =>
  rw[hr q z];cases w:(ZI (C.tie q) b&&C.std b)with
  |true =>obtain⟨w1,w2⟩:=ō.mp w;rw[w1,w2];rfl
  |false =>
   rw[gh<|by decide];have:C.tied b q=eP:=by
    cases y:C.tied b q with
    |false=>rfl
    |true=>rw[h1 b q z y]at w;cases w
   rw[this];cases w1:ZI (C.tie q) b with
   |false=>simp
   |true=>rw[w1,θ]at w;rw[w];rfl
def nbs_iff{b:Int}{r:Tie}:∀{l:List Tie}{k:Nat},r∈f6 b k l↔∃i t,l[i]?=eL t/\(b=t.1\/b=t.2.1)/\r=(((k+i:Nat):Int),far t b,t.2.2)
 |[],k=>⟨λh=>gp h (by simp[f6]),λ⟨i,t,h,_⟩=>by simp at h⟩
 |t::l,k=>by
  have later:r∈f6 b (k+1) l↔∃i t',(t::l)[i+1]?=eL t'/\(b=t'.1\/b=t'.2.1)/\r=(((k+(i+1):Nat):Int),far t' b,t'.2.2):=by rw[nbs_iff];simp only[bU,show ∀i,k+1+i=k+(i+1) from λi=>by lia]
  have now:(∃i t',(t::l)[i]?=eL t'/\(b=t'.1\/b=t'.2.1)/\r=(((k+i:Nat):Int),far t' b,t'.2.2))↔((b=t.1\/b=t.2.1)/\r=((k:Int),far t b,t.2.2))\/r∈f6 b (k+1) l:=by
   rw[later];constructor
   .rintro⟨i,t',h1,h2,h3⟩;cases i with
    |zero=>cases h1;exact .inl ⟨h2,h3⟩
    |succ i=>exact .inr ⟨i,t',h1,h2,h3⟩
   .rintro(⟨h2,h3⟩|⟨i,t',h1,h2,h3⟩)
    .exact⟨0,t,rfl,h2,h3⟩
    .exact⟨i+1,t',h1,h2,h3⟩
  rw[now];have un:f6 b k (t::l)=if b=t.1\/b=t.2.1 then((k:Int),far t b,t.2.2)::f6 b (k+1) l else f6 b (k+1) l:=rfl;rw[un];split
  .rename_i hc;rw[Æ];constructor
   .rintro(h|h)
    .exact .inl ⟨hc,h⟩
    .exact .inr h
   .rintro(h|h)
    .exact .inl h.2
    .exact .inr h
  .rename_i hc;constructor
   .exact .inr
   .rintro(h|h)
    .exact gp h.1 hc
    .exact h
def GS{b:Int}(h:(C.br.lookup b).isSome=eP):C.br.lookup b=eM:=by cases z:C.br.lookup b with|none=>rfl|some v=>rw[z]at h;cases h
def touch_iff{t:Tie}{b:Int}:ZI t b=eN↔b=t.1\/b=t.2.1:=by unfold ZI;simp
def XD{x:Int}:inl (f6 x 0 ts) q=(inR ts q&&ZI (ts[q.toNat]?.getD (0,0,0)) x):=by
 unfold inl inR;rw[aT,ſ,bAq,gm,touch_iff];constructor
 .rintro⟨r,hr,e⟩;obtain⟨i,t,h1,h2,rfl⟩:=nbs_iff.mp hr;have e:((0+i:Nat):Int)=q:=of_decide_eq_true e;subst e;have hi:=(Ó.mp h1).1;rw[ŗ,á,h1];exact⟨⟨by lia,by lia⟩,h2⟩
 .rintro⟨⟨h0,h1⟩,h2⟩;obtain⟨i,rfl⟩:∃i:Nat,q=i:=⟨q.toNat,by lia⟩
  have hi:i<ts.length:=by lia
  rw[á,É hi]at h2;exact⟨(((0+i:Nat):Int),far ts[i] x,ts[i].2.2),nbs_iff.mpr ⟨i,ts[i],É hi,h2,rfl⟩,by simp⟩
def Wz{bs:List Int}(no:fk bs ts)(h:inR ts q=eN):LOk bs<|ts[q.toNat]?.getD (0,0,0):=by
 have h:=of_decide_eq_true h;have hi:q.toNat<ts.length:=by lia
 rw[É hi];exact no.tie _<|Ł hi
def CG{b:Int}(h:onC C q=eN)(t:ZI (C.tie q) b=eN):C.std b=eN:=by
 unfold onC at h;obtain⟨_,h⟩:=ō.mp h;obtain⟨h1,h2⟩:=ō.mp h;rcases touch_iff.mp t with e|e<;>rw[e]
 .exact h1
 .exact h2
def DE{C1:Yc}{l:List Tie}(ti:TI C)(ets:C1.ts=C.ts)(ž:∀r∈l,(C1.tie r.1).1≠(C1.tie r.1).2.1)(hr:∀q,inl l q=eN->inR C1.ts q=eN)(hon:∀q,inl l q=eP->inR C.ts q=eN->onC C1 q=onC C q)(ht:∀b q,C1.tied b q=(C1.std b&&C.tied b q)):TI<|C1.sets l:=by
 have et:∀q,C1.tie q=C.tie q:=λq=>by unfold Yc.tie;rw[ets]
 refine EW ž hr (λb q z=>?_) λb q z y=>?_
 .rw[ht,ti,ets,et];cases w:inR C.ts q with
  |false=>simp
  |true =>
   rw[hon q z w];cases v:onC C q with
   |false=>simp
   |true =>
    cases u:ZI (C.tie q) b with
    |false=>simp
    |true=>rw[CG v u];simp
 .rw[ht,ti,bAq,bAq,bAq,bAq]at y;rw[et,y.2.2.2.1,y.1];rfl
def CD(b q:Int):C.tied b q=(C.std b&&C.tied b q):=by unfold Yc.tied Yc.std;cases C.br.lookup b<;>rfl
def Kh{l:List (Int×α)}{x b:Int}{v:α}(h:l.lookup x=eM):(l++[(x,v)]).lookup b=if b=x then eL v else l.lookup b:=by
 rw[Ϸ];by_cases e:b=x
 .subst e;rw[h,gg rfl];simp
 .have:(b==x)=eP:=by simpa using e
  rw[gh e,à,this];simp
def Kv{k:Int}{v:α}(n:q≠k):(Zl kvs k v).lookup q=kvs.lookup q:=by
 unfold Zl;split
 .rename_i h;clear h;induction kvs with
  |nil=>rfl
  |cons p r ih =>
   rw[Ï,à,à,ih];by_cases e:p.1=k
   .have e1:(q==k)=eP:=by simpa using n
    have e2:(q==p.1)=eP:=by rw[e];exact e1
    simp only[e,if_true,e1]
   .simp only[e,if_false]
 .have:(q==k)=eP:=by simpa using n
  rw[Ϸ,à,this];simp
def Bw{x:Int}(no:fk C.bs C.ts):∀r∈f6 x 0 C.ts,(C.tie r.1).1≠(C.tie r.1).2.1:=λr hr=>by have h:=Wz (q:=r.1) no<|gk<|Mq r hr;have:=h.2.2.1;unfold Yc.tie;lia
def By{x:Int}(no:fk C.bs C.ts)(ti:TI C):TI<|Yc.sets {C with br:=Zh C.br x}<|f6 x 0 C.ts:=by
 have st:∀b,(Zh C.br x).lookup b=if b=x then eM else C.br.lookup b:=λb=>Z6;refine DE ti rfl (Bw (C:={C with br:=Zh C.br x}) no) (λq z=>?_) (λq z w=>?_) λb q=>?_
 .rw[XD,bAq]at z;exact z.1
 .rw[XD,w,θ]at z;change ZI (C.tie q) x=eP at z;have n1:¬ (C.tie q).1=x:=λe=>by rw[touch_iff.mpr<|.inl e.symm]at z;cases z
  have n2:¬ (C.tie q).2.1=x:=λe=>by rw[touch_iff.mpr<|.inr e.symm]at z;cases z
  unfold onC;show(_&&(((Zh C.br x).lookup (C.tie q).1).isSome&&((Zh C.br x).lookup (C.tie q).2.1).isSome))=_;rw[st,st,gh n1,gh n2]
 .unfold Yc.tied Yc.std;dsimp only;rw[st];by_cases e:b=x
  .rw[gg e];rfl
  .rw[gh e];cases C.br.lookup b<;>rfl
def A3{x l:Int}(no:fk C.bs C.ts)(ti:TI C)(hx:C.br.lookup x=eM){lv:List (Int×Int)}:TI<|Yc.sets {C with lives:=lv,br:=C.br++[(x,Zy x l C.most [])]}<|f6 x 0 C.ts:=by
 have st:∀b,(C.br++[(x,Zy x l C.most [])]).lookup b=if b=x then eL (Zy x l C.most [])else C.br.lookup b:=λb=>Kh hx;refine DE ti rfl (Bw (C:={C with lives:=lv,br:=C.br++[(x,Zy x l C.most [])]}) no) (λq z=>?_) (λq z w=>?_) λb q=>?_
 .rw[XD,bAq]at z;exact z.1
 .rw[XD,w,θ]at z;change ZI (C.tie q) x=eP at z;have n1:¬ (C.tie q).1=x:=λe=>by rw[touch_iff.mpr<|.inl e.symm]at z;cases z
  have n2:¬ (C.tie q).2.1=x:=λe=>by rw[touch_iff.mpr<|.inr e.symm]at z;cases z
  unfold onC;show(_&&(((C.br++[(x,Zy x l C.most [])]).lookup (C.tie q).1).isSome&&((C.br++[(x,Zy x l C.most [])]).lookup (C.tie q).2.1).isSome))=_;rw[st,st,gh n1,gh n2]
 .unfold Yc.tied Yc.std;dsimp only;rw[st];by_cases e:b=x
  .rw[gg e,e,hx];rfl
  .rw[gh e];cases C.br.lookup b<;>rfl
def HS{p:Int}{fl:List (Int×Bool)}(no:fk C.bs C.ts)(ti:TI C)(hp:inR C.ts p=eN)(hf:∀q,q≠p->(fl.lookup q).isSome=(C.fallen.lookup q).isSome):TI<|Yc.set1 {C with fallen:=fl} p:=by
 have il:∀q,inl [(p,0,0)] q=gq (p=q):=λq=>by unfold inl;simp
 refine DE (C1:={C with fallen:=fl}) (l:=[(p,0,0)]) ti rfl (λr hr=>?_) (λq z=>?_) (λq z w=>?_) λb q=>CD b q
 .rw[é.mp hr];have:=(Wz no hp).2.2.1;show(C.tie p).1≠(C.tie p).2.1;unfold Yc.tie;lia
 .rw[il]at z;rw[<-of_decide_eq_true z];exact hp
 .rw[il]at z;unfold onC;show(!(fl.lookup q).isSome&&_)=_;rw[hf q λe=>of_decide_eq_false z e.symm];rfl
abbrev lv(LV:List<|Int×Pi)(b:Int):Pi:=(LV.lookup b).getD (0,0)
variable {LV:List (Int×Pi)}
def K3{k b:Int}{v:Pi}:lv (Zl LV k v) b=if b=k then v else lv LV b:=by
 unfold lv;by_cases e:b=k
 .rw[gg e,e,Wc];rfl
 .rw[gh e,Kv e]
structure W(C:Yc)(gone cut:List Int)(LV:List<|Int×Pi):Prop where
 ti:TI C
 core:∀b,C.core b=if b∈C.bs/\b∉gone then eL (b,lv LV b)else eM
 fal:∀p,(C.fallen.lookup p).isSome=gq (p∈cut)
 liv:∀b∈C.bs,C.lives.lookup b=eL (lv LV b).1
 gs:∀b∈gone,b∈C.bs
 gn:gone.Nodup
 cn:cut.Nodup
 ks:∀q∈LV,q.1∈C.bs
 kn:(LV.map (·.1)).Nodup
section
variable {C D:Yc}{gone cut:List Int}{LV:List (Int×Pi)}{N:Nat}{b p:Int}
def W.std(w:W C gone cut LV)(b:Int):C.std b=gq (b∈C.bs/\b∉gone):=by
 rw[<-AX,w.core];split
 .rename_i h;rw[gk h];rfl
 .rename_i h;rw[gj h];rfl
def W.on(w:W C gone cut LV)(no:fk C.bs C.ts)(hp:inR C.ts p=eN):onC C p=gq (p∉cut/\(C.tie p).1∉gone/\(C.tie p).2.1∉gone):=by obtain⟨h1,h2,_⟩:=Wz no hp;have a:=w.std (C.tie p).1;have c:=w.std (C.tie p).2.1;unfold Yc.std at a c;unfold onC;rw[w.fal,a,c];have h1:(C.tie p).1∈C.bs:=h1;have h2:(C.tie p).2.1∈C.bs:=h2;simp[h1,h2]
def W.step_tick(w:W C gone cut LV)(hb:b∈C.bs)(s:step C (.tick b)=eL D):b∉gone/\W D gone cut (Zl LV b ((lv LV b).1,(lv LV b).2+1)):=by
 obtain⟨B,hB,rfl⟩:=Ò.mp s;have hs:=w.std b;unfold Yc.std at hs;rw[hB]at hs;have hg:b∉gone:=(of_decide_eq_true hs.symm).2;have cB:gf.core B=(b,lv LV b):=by have:=w.core b;rw[gg ⟨hb,hg⟩]at this;unfold Yc.core at this;rw[hB]at this;exact ì this
 have lk:∀c,(upC b Br.ticked C.br).lookup c=(C.br.lookup c).map λB=>if c=b then B.ticked else B:=λc=>Xh;have sd:∀c,Yc.std {C with br:=upC b Br.ticked C.br,road:=C.road++ZN C.ts b B.told} c=C.std c:=λc=>by unfold Yc.std;dsimp only;rw[lk,ř]
 have td:∀c q,Yc.tied {C with br:=upC b Br.ticked C.br,road:=C.road++ZN C.ts b B.told} c q=C.tied c q:=λc q=>by
  unfold Yc.tied;dsimp only;rw[lk];cases C.br.lookup c with
  |none=>rfl
  |some A=>show((if c=b then A.ticked else A).ties.lookup q).isSome=_;split<;>rfl
 refine⟨hg,⟨λc q=>?_,λc=>?_,w.fal,λc hc=>?_,w.gs,w.gn,w.cn,λq hq=>?_,Xc w.kn _ _⟩⟩
 .rw[td,sd,NY (C:=C) sd rfl rfl];exact w.ti c q
 .show((upC b Br.ticked C.br).lookup c).map gf.core=_;rw[lk,K3];by_cases e:c=b
  .subst e;rw[hB,gg ⟨hb,hg⟩,gg rfl];show eL (gf.core<|if c=c then B.ticked else B)=_;rw[gg rfl];show eL (B.number,B.life,B.count+1)=_;have e1:B.number=c:=congrArg (·.1) cB;have e2:B.life=(lv LV c).1:=congrArg (·.2.1) cB;have e3:B.count=(lv LV c).2:=congrArg (·.2.2) cB;rw[e1,e2,e3]
  .rw[gh e];have:=w.core c;unfold Yc.core at this;rw[<-this];cases C.br.lookup c with
   |none=>rfl
   |some A=>show eL (gf.core<|if c=b then A.ticked else A)=_;rw[gh e];rfl
 .rw[K3];show C.lives.lookup c=_;rw[w.liv c hc];split
  .rename_i e;rw[e]
  .rfl
 .rcases XI hq with e|hq
  .rw[e];exact hb
  .exact w.ks q hq
def W.step_fallB(w:W C gone cut LV)(g:C.gd N)(hb:b∈C.bs)(s:step C (.fallB b)=eL D):b∉gone/\W D (gone++[b]) cut LV/\D.road=C.road:=by
 have s:(if C.std b=eN then eL (Yc.sets {C with br:=Zh C.br b}<|f6 b 0 C.ts)else eM)=eL D:=s;split at s
 .rename_i hs;cases s;rw[w.std]at hs;have hg:=(of_decide_eq_true hs).2;obtain⟨s1,s2,s3,s4,s5,s6,s7⟩:=Xg (f6 b 0 C.ts) {C with br:=Zh C.br b};refine⟨hg,⟨By g.no w.ti,λc=>?_,λp=>by rw[s3];exact w.fal p,λc hc=>?_,λc hc=>?_,?_,w.cn,λq hq=>?_,w.kn⟩,s5⟩
  .rw[s1,s6];show((Zh C.br b).lookup c).map gf.core=if c∈C.bs/\c∉gone++[b]then _ else _;rw[Z6];by_cases e:c=b
   .rw[gg e,gh λz=>z.2<|by simp[e]];rfl
   .rw[gh e];refine(w.core c).trans ?_;have:c∉gone++[b]↔c∉gone:=by simp[e]
    simp only[this]
  .rw[s4];rw[s6]at hc;exact w.liv c hc
  .rw[s6];rcases æ.mp hc with hc|hc
   .exact w.gs c hc
   .rw[é.mp hc];exact hb
  .rw[å];exact⟨w.gn,by simp,λa ha c hc e=>hg<|by rw[<-é.mp hc,<-e];exact ha⟩
  .rw[s6];exact w.ks q hq
 .cases s
def W.step_backB(w:W C gone cut LV)(g:C.gd N)(hb:b∈C.bs)(s:step C (.backB b)=eL D):b∈gone/\W D (gone.erase b) cut (Zl LV b ((lv LV b).1+1,0))/\D.road=C.road:=by
 have s:(if C.std b=eN then eM else(C.lives.lookup b).map λl=>Yc.sets {C with lives:=Zl C.lives b<|l+1,br:=C.br++[(b,Zy b (l+1) C.most [])]}<|f6 b 0 C.ts)=eL D:=s;split at s
 .cases s
 .rename_i hs;rw[w.liv b hb]at s;cases s;have hs:C.std b=eP:=by simpa using hs
  have hx:C.br.lookup b=eM:=GS hs;rw[w.std]at hs;have hg:b∈gone:=by
   have:=of_decide_eq_false hs;by_cases z:b∈gone
   .exact z
   .exact gp ⟨hb,z⟩ this
  obtain⟨s1,s2,s3,s4,s5,s6,s7⟩:=Xg (f6 b 0 C.ts) {C with lives:=Zl C.lives b<|(lv LV b).1+1,br:=C.br++[(b,Zy b ((lv LV b).1+1) C.most [])]};refine⟨hg,⟨A3 g.no w.ti hx,λc=>?_,λp=>by rw[s3];exact w.fal p,λc hc=>?_,λc hc=>?_,w.gn.erase _,w.cn,λq hq=>?_,Xc w.kn _ _⟩,s5⟩
  .rw[s1,s6];show((C.br++[(b,Zy b ((lv LV b).1+1) C.most [])]).lookup c).map gf.core=if c∈C.bs/\c∉gone.erase b then _ else _;rw[Kh hx,K3];have hm:c∉gone.erase b↔(c≠b->c∉gone):=by rw[w.gn.mem_erase_iff];simp
   by_cases e:c=b
   .rw[gg e,gg e,gg ⟨e▸hb,hm.mpr λn=>gp e n⟩,e];rfl
   .rw[gh e,gh e];refine(w.core c).trans ?_;have:(c∉gone.erase b)=(c∉gone):=propext<|hm.trans ⟨λf=>f e,λf _=>f⟩;simp only[this]
  .rw[s4];rw[s6]at hc;show(Zl C.lives b<|(lv LV b).1+1).lookup c=_;rw[K3];by_cases e:c=b
   .rw[gg e,e,Wc]
   .rw[gh e,Kv e];exact w.liv c hc
  .rw[s6];exact w.gs c<|List.mem_of_mem_erase hc
  .rw[s6];rcases XI hq with e|hq
   .rw[e];exact hb
   .exact w.ks q hq
def W.tie_(w:W C gone cut LV){fl:List (Int×Bool)}{b4:List Int}(g:C.gd N)(hp:inR C.ts p=eN)(hf:∀q,(fl.lookup q).isSome=gq (q∈b4))(hc:∀q,q≠p->(q∈b4↔q∈cut))(cn:b4.Nodup):W (Yc.set1 {C with fallen:=fl} p) gone b4 LV:=by refine⟨HS g.no w.ti hp λq n=>?_,λc=>Yp.1.trans<|w.core c,hf,w.liv,w.gs,w.gn,cn,w.ks,w.kn⟩;rw[hf,w.fal,decide_eq_decide];exact hc q n
def W.step_fallT(w:W C gone cut LV)(g:C.gd N)(hp:inR C.ts p=eN)(s:step C (.fallT p)=eL D):p∉cut/\W D gone (cut++[p]) LV/\D.road=C.road:=by
 dsimp only[step]at s;split at s
 .rename_i h;cases s;have hc:p∉cut:=by have:=h.2;rw[w.fal]at this;exact of_decide_eq_false this
  refine⟨hc,w.tie_ g hp (λq=>?_) (λq n=>by simp[n]) ?_,rfl⟩
  .rw[O9,w.fal];by_cases e:q=p<;>simp[e]
  .rw[å];exact⟨w.cn,by simp,λa ha c hc' e=>hc<|by rw[<-é.mp hc',<-e];exact ha⟩
 .cases s
def W.step_backT(w:W C gone cut LV)(g:C.gd N)(hp:inR C.ts p=eN)(s:step C (.backT p)=eL D):p∈cut/\W D gone (cut.erase p) LV/\D.road=C.road:=by
 dsimp only[step]at s;split at s
 .rename_i h;cases s;rw[w.fal]at h;refine⟨of_decide_eq_true h,w.tie_ g hp (λq=>?_) (λq n=>?_)<|w.cn.erase _,rfl⟩
  .rw[Z6];have:q∈cut.erase p↔q≠p/\q∈cut:=w.cn.mem_erase_iff;by_cases e:q=p
   .rw[gg e,gj λz=>(this.mp z).1 e];rfl
   .rw[gh e,w.fal,decide_eq_decide,this];exact⟨λz=>⟨e,z⟩,λz=>z.2⟩
  .rw[w.cn.mem_erase_iff];exact⟨λz=>z.2,λz=>⟨n,z⟩⟩
 .cases s
end
def M6{i:Int}(e:h a=eL (.lst<|ns.map .int))(q:KB (!gq (i∈ns))):go (fi h .notin (.int i)<|.ref a) KB:=eV (by show(inV h (.int i)<|.ref a).map _=_;unfold inV;simp only[e];rw[KZ];rfl) q
def Jy{i:Int}(e:h a=eL (.lst<|ns.map .int))(q:KB<|gq (i∈ns)):go (fi h .isin (.int i)<|.ref a) KB:=eV (by show inV h (.int i) (.ref a)=_;unfold inV;simp only[e];rw[KZ]) q
def DJ{i:Int}{K:Val×Hs->Prop}(e:h a=eL (.lst<|ns.map .int))(m:i∈ns)(q:K (.non,upd h a<|.lst<|(ns.erase i).map .int)):go (bmV h .remove (.ref a) [.int i]) K:=eV (by
  show(fe<|h a).bind _=_
  rw[lsE e]
  show(eX<|ns.map .int).bind _=_
  rw[ZW]
  exact gg m) q
def LZ(r0:0<=r)(r1:r<ns.length):∃b∈ns,atI (ns.map Val.int) r=eL (.int b):=by obtain⟨b,hb,hm⟩:=DH r0 r1;exact⟨b,hm,Yz r0<|by rw[Ý,hb];rfl⟩
abbrev CW(ts:List Tie)(p:Int):Tie:=ts[p.toNat]?.getD (0,0,0)
abbrev X1(ts:List Tie)(gone cut:List Int)(p:Int):Bool:=!gq (p∈cut)&&(!gq ((CW ts p).1∈gone) && !gq ((CW ts p).2.1∈gone))
abbrev lt0(b:Int)(l:Pi):L:=⟨l,(l.1,0),b,0,0,eM,eM⟩
abbrev YF(ts:List Tie)(gone cut:List Int)(b:Int)(l:Pi)(rs:List Tie):List<|Int×Int×Int×L:=(rs.filter λr=>X1 ts gone cut r.1).map λr=>(b,r.2.1,r.1,lt0 b l)
abbrev Dd.inN(bs:List Int)(ts:List Tie):Dd->Prop
 |.tick b=>b∈bs
 |.fallB b=>b∈bs
 |.backB b=>b∈bs
 |.fallT p=>inR ts p=eN
 |.backT p=>inR ts p=eN
abbrev PR(gone cut:List Int):Dd->Bool
 |.tick b=>!gq (b∈gone)
 |.fallB b=>gq (b∈gone)==eP
 |.backB b=>gq (b∈gone)==eN
 |.fallT p=>gq (p∈cut)==eP
 |.backT p=>gq (p∈cut)==eN
section
variable {pg pc:Ad}{bs gone cut:List Int}{ts:List Tie}
def UB{p:Int}(h0:0<=p)(h1:p<ts.length)(eg:h pg=eL (.lst<|gone.map .int))(ec:h pc=eL (.lst<|cut.map .int))(k:Q (.bl<|X1 ts gone cut p) h):wF P (n+1) "_law_is_up" [ZV bs ts,.ref pg,.ref pc,.int p] h Q X:=by
 unfold ZV;refine MK ?_
 exists eW (OW h0 h1)
 unfold X1 CW at k;generalize ts[p.toNat]?.getD (0,0,0)=t at k ⊢;obtain⟨a,b,c⟩:=t;unfold trV
 exists M6 ec
 refine' ifD (λhc=>?_) (λhc=>?_)
 .rw[hc,θ]at k
  exists M6 eg
  refine' ifD (λhd=>?_) (λhd=>?_)
  .rw[hd,θ]at k
   exists M6 eg
   exact k
  .rw[hd]at k;exact k
 .rw[hc]at k;exact k
def U1{b:Int}(no:fk bs ts)(k:∀p g,h p=eM->Ext h g->g p=eL (.lst<|(f6 b 0 ts).map trV)->Q (.ref p) g):wF P (n+1) "_law_ties_of" [ZV bs ts,.int b] h Q X:=by
 have l16:=no.sixteen;unfold ZV;refine JU ?_;refine' Zm λp g0 hp x0 e0=>?_
 exists eV rfl
 refine Zx (λi en g=>Sm2 λv3 v4=>Cj3 (en=[eL<|.tup [.tup<|bs.map .int,.tup<|ts.map trV],eL<|.int b,eL<|.ref p,v3,v4]) (Ext h g)<|g p=eL (.lst<|(f6 b 0<|ts.take i).map trV)) ⟨_,_,rfl,x0,e0⟩ (λ_ _ _ _ _=>trivial) ?_ ?_
 .rintro i v en g hv ⟨v3,v4,rfl,x,ep⟩ K hK;obtain⟨y,hy,rfl⟩:=Mi hv;rw[Ý]at hy;obtain⟨t,ht,rfl⟩:=Ò.mp hy;have hi:i<ts.length:=(Ó.mp ht).1;have ϙ:=(no.tie t<|ó ht).2.2.1;have hn:f6 b 0 (ts.take<|i+1)=f6 b 0 (ts.take i)++(if b=t.1\/b=t.2.1 then [((i:Int),far t b,t.2.2)]else []):=by
   rw[ż,ht];have:=Jg (b:=b) (t:=t) (l:=ts.take i) (k:=0);rw[ă,Ϛ (by lia),ŗ]at this;exact this
  have hl:=XY (b:=b) (l:=ts.take i) (k:=0);rw[ă]at hl;have hlim:((f6 b 0<|ts.take i).map trV).length<lim:=by rw[Ã];exact Ü (by lia:_<=16) (by decide)
  rw[ŗ];obtain⟨t1,t2,t3⟩:=t;dsimp only at ϙ hn;unfold trV;refine' fR (λhc=>?_) (λhc=>?_)
  .have e2:far (t1,t2,t3) b=t2:=gg hc;rw[gg<|.inl hc.symm,e2]at hn;fail;refine fQ (gj<|by lia) ?_;refine' hK _ _ ⟨_,_,rfl,WR x hp,?_⟩;rw[hn,ã];exact eR
  .refine' fR (λhd=>?_) (λhd=>?_)
   .have e2:far (t1,t2,t3) b=t1:=gh hc;rw[gg<|.inr hd.symm,e2]at hn;refine' hK _ _ ⟨_,_,rfl,WR x hp,?_⟩;rw[hn,ã];exact eR
   .rw[gh λz=>z.elim (λe=>hc e.symm) λe=>hd e.symm,õ]at hn;refine' hK _ _ ⟨_,_,rfl,x,?_⟩;rw[hn];exact ep
 .rintro en g ⟨v3,v4,rfl,x,ep⟩;rw[Jq,Ã,ĕ]at ep;refine' k p g hp x ep
def E9{b:Int}{l:Pi}(no:fk bs ts)(eg:h pg=eL (.lst<|gone.map .int))(ec:h pc=eL (.lst<|cut.map .int))(k:∀p g,h p=eM->Ext h g->g p=eL (.lst<|(YF ts gone cut b l<|f6 b 0 ts).map rdV)->Q (.ref p) g):wF P (n+2) "_law_sent" [ZV bs ts,.ref pg,.ref pc,.int b,.int l.1,.int l.2] h Q X:=by
 have l16:=no.sixteen;refine Ox ?_;refine' Zm λp g0 hp x0 e0=>?_;refine' U1 no λp1 g1 bY x1 e1=>?_;have np:p1≠p:=λz=>by rw[z,e0]at bY;cases bY
 refine' Zx (λi en g=>Sm4 λv7 v8 v9 v10=>Cj4 (en=[eL<|ZV bs ts,eL<|.ref pg,eL<|.ref pc,eL<|.int b,eL<|.int l.1,eL<|.int l.2,eL<|.ref p,v7,v8,v9,v10]) (Ext h g) (g p1=eL (.lst<|(f6 b 0 ts).map trV))<|g p=eL (.lst<|(YF ts gone cut b l<|(f6 b 0 ts).take i).map rdV)) ⟨_,_,_,_,rfl,x0.trans x1,e1,x1.get e0⟩ (λ_ _ _ _ ⟨_,_,_,_,_,_,e,_⟩=>lsE e) ?_ ?_
 .rintro i v en g hv ⟨v7,v8,v9,v10,rfl,x,e1,ep⟩ K hK;obtain⟨r,hr,rfl⟩:=Yk hv;obtain⟨r0,r1⟩:=Mq r<|ó hr;have hl:(YF ts gone cut b l<|(f6 b 0 ts).take i).length<=16:=by
   unfold YF;rw[Ã];refine Ô (ŝ _ _) ?_;rw[ă];have:=XY (b:=b) (l:=ts) (k:=0);lia
  have es:YF ts gone cut b l ((f6 b 0 ts).take<|i+1)=YF ts gone cut b l ((f6 b 0 ts).take i)++(if X1 ts gone cut r.1 then [(b,r.2.1,r.1,lt0 b l)]else []):=by unfold YF;rw[ZB hr,dW,ã,ě];split<;>rfl
  unfold trV
  exists UB r0 r1 (x.get eg) (x.get ec)
  refine' ifD (λhc=>?_) (λhc=>?_)
  .rw[hc,gg rfl]at es;refine' YR ep (by rw[Ã];exact Ü hl<|by decide) ?_;refine' hK _ _ ⟨_,_,_,_,rfl,WR x hp,(eQ np).trans e1,?_⟩;rw[es,ã];exact eR
  .rw[hc,gh (by decide),õ]at es;refine' hK _ _ ⟨_,_,_,_,rfl,x,e1,?_⟩;rw[es];exact ep
 .rintro en g ⟨v7,v8,v9,v10,rfl,x,e1,ep⟩;rw[Ã,ĕ]at ep;refine' k p g hp x ep
def He{d:Dd}(eg:h pg=eL (.lst<|gone.map .int))(ec:h pc=eL (.lst<|cut.map .int))(k:Q (.bl<|PR gone cut d) h):wF P (n+1) "_law_can" [d.v,.ref pg,.ref pc] h Q X:=by
 refine Ap ?_;cases d with
 |tick b =>walk_at "p";refine M6 eg ?_;exact k
 |fallB b =>walk_at "p";refine Jy eg ?_;refine' k
 |backB b =>walk_at "p";refine Jy eg ?_;refine' k
 |fallT b =>walk_at "p";refine Jy ec ?_;refine' k
 |backT b =>walk_at "p";refine Jy ec ?_;refine' k
def Df(no:fk bs ts)(k:∀d:Dd,d.inN bs ts->∀g,Ext h g->Q d.v g):wF P (n+1) "_law_deed" [ZV bs ts,.int c] h Q X:=by
 have e1:(bs.map Val.int).length=bs.length:=Ã _;have e2:(ts.map trV).length=ts.length:=Ã _;have h1:=no.one;unfold ZV;refine OK ?_;fail;rw[e1,e2];have a0:=Ħ (c / 4) (b:=(bs.length:Int)+ts.length) (by lia);have a1:=Ĳ (c / 4) (b:=(bs.length:Int)+ts.length) (by lia);have c0:=Ħ (c / 4) (b:=(bs.length:Int)) (by lia);have c1:=Ĳ (c / 4) (b:=(bs.length:Int)) (by lia);generalize c / 4 % ((bs.length:Int)+ts.length)=at_ at a0 a1 ⊢;refine fR (λhc=>?_) λhc=>?_
 .fail;obtain⟨b,hb,eb⟩:=LZ c0 c1;refine eW eb ?_;refine' k (.tick b) hb h .refl
 .refine' Zm λp g hp x e=>?_;fail;obtain⟨v,ev,hv⟩:=Wf (xs:=[Val.str "fall",.str "back",.str "fall"]) (r:=c % 4 - 1) (by lia) (by simp only[Ë,Ę];lia);refine Zk e ev ?_;refine' fR (λhs=>?_) (λhs=>?_)
  .fail;obtain⟨b,hb,eb⟩:=LZ a0 hs;refine eW eb ?_;fail;simp only[Æ,Í,or_false]at hv;rcases hv with rfl|rfl|rfl
   .exact k (.fallB b) hb g x
   .exact k (.backB b) hb g x
   .exact k (.fallB b) hb g x
  .fail;have hr:inR ts (at_ - bs.length)=eN:=gk ⟨by lia,by lia⟩;simp only[Æ,Í,or_false]at hv;rcases hv with rfl|rfl|rfl
   .exact k (.fallT _) hr g x
   .exact k (.backT _) hr g x
   .exact k (.fallT _) hr g x
def WU{xs:List Int}{x:Int}(e1:h a=eL (.lst<|xs.map .int))(e2:h l=eL (.dct<|Zg pV LV))(nal:a≠l)(hl:LV.length<=100)(hx:xs.length<=100)(k1:x∈xs->∀g,g a=eL (.lst<|(xs.erase x).map .int)->g l=eL (.dct<|Zg pV<|Zl LV x ((lv LV x).1+1,0))->Ex [a,l] h g->Q .non g)(k2:x∉xs->∀g,g a=eL (.lst<|(xs++[x]).map .int)->g l=eL (.dct<|Zg pV LV)->Ex [a,l] h g->Q .non g):wF P (n+1) "_law_turn" [.ref a,.int x,.ref l] h Q X:=by
 refine ON ?_
 exists Jy e1
 refine' fR (λhc=>?_) (λhc=>?_)
 .exists DJ e1 hc
  have e3:upd h a (.lst<|(xs.erase x).map .int) l=eL (.dct<|Zg pV LV):=(eQ nal.symm).trans e2
  exists K1 e3 rfl
  rw[Z4,show((LV.lookup x).map pV).getD (.tup [.int 0,.int 0])=pV (lv LV x) by unfold lv;cases LV.lookup x<;>rfl];refine' Yv (k:=.int x) e3 ⟨rfl,by rw[Mz];exact Ü hl<|by decide⟩ ?_;rw[show Val.tup [.int<|(lv LV x).1+1,.int 0]=pV ((lv LV x).1+1,0) from rfl,ZY];refine' k1 hc _ ((eQ nal).trans eR) eR ((Ex.upd<|by simp).trans<|Ex.upd<|by simp)
 .refine' YR e1 (by rw[Ã];exact Ü hx<|by decide) ?_;refine' k2 hc _ ?_ ((eQ nal.symm).trans e2) (Ex.upd<|by simp);rw[ã];exact eR
end
section
variable {C D:Yc}{gone cut:List Int}{LV:List (Int×Pi)}{N:Nat}{b p:Int}
def W.downs_eq(w:W C gone cut LV)(no:fk C.bs C.ts):C.downs=sortI gone:=by
 refine W9 (no.up.sublist Ļ) (Y6 w.gn) λb=>?_;have hs:=w.std b;unfold Yc.std at hs;unfold Yc.downs;rw[Ċ,mem_sort,hs];constructor
 .rintro⟨h1,h2⟩;by_cases z:b∈gone
  .exact z
  .simp[h1,z]at h2
 .exact λz=>⟨w.gs b z,by simp[z]⟩
def W.cuts_eq(w:W C gone cut LV)(g:C.gd N):C.cuts=sortI cut:=by refine W9 (Y6 g.fn) (Y6 w.cn) λp=>?_;have:=w.fal p;rw[look_iff,decide_eq_decide]at this;unfold Yc.cuts;rw[mem_sort,mem_sort];exact this
def W.glen(w:W C gone cut LV)(no:fk C.bs C.ts):gone.length<=10:=Ô (JN w.gn w.gs) no.ten
def W.clen(w:W C gone cut LV)(g:C.gd N):cut.length<=16:=by
 have h1:C.cuts.length=cut.length:=by rw[w.cuts_eq g,sortI,Ė]
 rw[BN]at h1;have:=g.f16;lia
def W.llen(w:W C gone cut LV)(no:fk C.bs C.ts):LV.length<=10:=by
 have:=JN w.kn (bs:=C.bs) λx hx=>by obtain⟨q,hq,rfl⟩:=Û.mp hx;exact w.ks q hq
 rw[Ã]at this;exact Ô this no.ten
def MU:UT C b p=if C.tied b p=eN then "shut" else "down":=by
 unfold UT OO Yc.at_ Yc.tied;cases C.br.lookup b with
 |none=>rfl
 |some B=>rfl
def W.ends_eq(w:W C gone cut LV)(g:C.gd N)(hp:inR C.ts p=eN):C.ends p=(if X1 C.ts gone cut p=eN then "shut" else "down",if X1 C.ts gone cut p=eN then "shut" else "down"):=by
 have on:onC C p=X1 C.ts gone cut p:=by
  rw[w.on g.no hp];unfold X1;show gq (p∉cut/\(C.tie p).1∉gone/\(C.tie p).2.1∉gone)=(!gq (p∈cut)&&(!gq ((C.tie p).1∈gone) && !gq ((C.tie p).2.1∈gone)))
  simp
 have td:∀b,ZI (C.tie p) b=eN->C.tied b p=X1 C.ts gone cut p:=λb hb=>by
  rw[w.ti,hp,hb,<-on];cases z:onC C p with
  |false=>simp
  |true=>rw[CG z hb];rfl
 unfold Yc.ends;rw[MU,MU,td _<|touch_iff.mpr<|.inl rfl,td _<|touch_iff.mpr<|.inr rfl]
def D8{d:Dd}(w:W C gone cut LV)(hd:d.inN C.bs C.ts):PR gone cut d=(step C d).isSome:=by
 cases d with
 |tick b =>have hs:=w.std b;unfold Yc.std at hs;show _=((C.br.lookup b).map _).isSome;rw[ř,hs];have hd:b∈C.bs:=hd;show(!gq (b∈gone))=_;simp[hd]
 |fallB b =>have hs:=w.std b;unfold Yc.std at hs;have hd:b∈C.bs:=hd;show(gq (b∈gone)==eP)=(if(C.br.lookup b).isSome=eN then eL _ else eM:Option Yc).isSome;rw[hs];by_cases z:b∈gone<;>simp[hd,z]
 |backB b =>have hs:=w.std b;unfold Yc.std at hs;have hd:b∈C.bs:=hd;show(gq (b∈gone)==eN)=(if(C.br.lookup b).isSome=eN then eM else(C.lives.lookup b).map _:Option Yc).isSome;rw[hs,w.liv b hd];by_cases z:b∈gone<;>simp[hd,z]
 |fallT p =>have hd:0<=p/\p<C.ts.length:=of_decide_eq_true hd;show(gq (p∈cut)==eP)=(if(0<=p/\p<C.ts.length)/\(C.fallen.lookup p).isSome=eP then eL _ else eM:Option Yc).isSome;rw[w.fal];by_cases z:p∈cut<;>simp[hd,z]
 |backT p =>show(gq (p∈cut)==eN)=(if(C.fallen.lookup p).isSome=eN then eL _ else eM:Option Yc).isSome;rw[w.fal];by_cases z:p∈cut<;>simp[z]
def W.sent(w:W C gone cut LV)(g:C.gd N)(hb:b∈C.bs)(s:step C (.tick b)=eL D):D.road=C.road++YF C.ts gone cut b (lv LV b) (f6 b 0 C.ts):=by
 obtain⟨hg,_⟩:=w.step_tick hb s;obtain⟨B,hB,rfl⟩:=Ò.mp s;have cB:gf.core B=(b,lv LV b):=by have:=w.core b;rw[gg ⟨hb,hg⟩]at this;unfold Yc.core at this;rw[hB]at this;exact ì this
 have e1:B.number=b:=congrArg (·.1) cB;have e2:(B.life,B.count)=lv LV b:=congrArg (·.2) cB;have ok:=(g.ok _<|ZC hB).ok;show C.road++ZN C.ts b B=_;congr 1;have hk:sortI (B.ties.map (·.1))=((f6 b 0 C.ts).filter λr=>X1 C.ts gone cut r.1).map (·.1):=by
  refine W9 (Y6 ok.nt) ?_ λp=>?_
  .have:=Wl (b:=b) (l:=C.ts) (k:=0);exact(this.1.sublist<|Ļ.map _)
  .rw[mem_sort];have tb:C.tied b p=gq (p∈B.ties.map (·.1)):=by
    unfold Yc.tied;rw[hB];exact look_iff
   have ti:=w.ti b p;rw[tb]at ti;constructor
   .intro hp;rw[gk hp]at ti;have ti:=ti.symm;rw[bAq,bAq,bAq]at ti;obtain⟨_,h1,h2,h3⟩:=ti;obtain⟨i,rfl⟩:∃i:Nat,p=i:=⟨p.toNat,by have:=(of_decide_eq_true h1).1;lia⟩
    have hi:i<C.ts.length:=by have:=(of_decide_eq_true h1).2;lia
    have et:C.tie (i:Int)=C.ts[i]:=by unfold Yc.tie;rw[á,É hi];rfl
    rw[et]at h2;refine Û.mpr ⟨(((0+i:Nat):Int),far C.ts[i] b,C.ts[i].2.2),Ċ.mpr ⟨nbs_iff.mpr ⟨i,C.ts[i],É hi,touch_iff.mp h2,rfl⟩,?_⟩,by simp⟩;rw[w.on g.no h1]at h3;have h3:=of_decide_eq_true h3;unfold X1;rw[ŗ,show CW C.ts (i:Int)=C.tie (i:Int) from rfl];simp[h3.1,h3.2.1,h3.2.2]
   .intro hp;obtain⟨r,hr,rfl⟩:=Û.mp hp;obtain⟨hr,hu⟩:=Ċ.mp hr;obtain⟨i,t,h1,h2,rfl⟩:=nbs_iff.mp hr;have hi:=(Ó.mp h1).1;dsimp only at hu ⊢;have hR:inR C.ts ((0+i:Nat):Int)=eN:=gk ⟨by lia,by lia⟩;have et:C.tie ((0+i:Nat):Int)=t:=by unfold Yc.tie;rw[ŗ,á,h1];rfl
    have ho:onC C ((0+i:Nat):Int)=eN:=by rw[w.on g.no hR];unfold X1 at hu;rw[show CW C.ts ((0+i:Nat):Int)=C.tie ((0+i:Nat):Int) from rfl]at hu;simpa using hu
    rw[hR,et,touch_iff.mpr h2,ho,show C.std b=eN by unfold Yc.std;rw[hB];rfl]at ti;exact of_decide_eq_true ti
 unfold ZN YF;rw[hk,ú];refine ą λr hr=>?_;obtain⟨hr,_⟩:=Ċ.mp hr;obtain⟨i,t,h1,_,rfl⟩:=nbs_iff.mp hr;show(b,U4 C.ts ((0+i:Nat):Int) b,_,Zz B _)=_;rw[show U4 C.ts ((0+i:Nat):Int) b=far t b by unfold U4;rw[ŗ,á,h1];rfl];unfold Zz lt0;rw[e1,<-e2]
def OZ{d:Nat}{xs:List Int}(h:xs.length<=100):Pl (d+1)<|.tup<|xs.map .int:=⟨by rw[Ã];exact h,λx hx=>by obtain⟨i,_,rfl⟩:=Û.mp hx;cases d<;>trivial⟩
end
section
variable {pg pc:Ad}{Y:Yd}{N:Nat}{gone cut:List Int}{LV:List (Int×Pi)}
def C4{d:Dd}(x:fc h Y)(gd:Y.cc.gd N)(hN:N<=6000)(k:∀Y' g,step Y.cc d=eL Y'.cc->Mv h Y g Y'->Q (.bl eN) g)(kx:∀g,step Y.cc d=eM->fc g Y->Ext h g->Q (.bl eP) g):wF P (n+7) "_law_tried" [.ref Y.y,d.v] h Q X:=by
 have xi:=x.ins;refine M5 ?_;refine' FE x gd hN (λY' g s m=>?_) (λg s y e=>?_)
 .walk_at "p";exact k Y' g s m
 .refine LC rfl ?_;walk_at "p";exact kx g s y e
def FZ(x:fc h Y)(gd:Y.cc.gd N)(w:W Y.cc gone cut LV)(eg:h pg=eL (.lst<|gone.map .int))(ec:h pc=eL (.lst<|cut.map .int))(k:∀g,Ext h g->Q (.bl eN) g):wF P (n+6) "_law_seen" [.ref Y.y,ZV Y.bs Y.ts,.ref pg,.ref pc] h Q X:=by
 have no:fk Y.bs Y.ts:=gd.no;have xi:=x.ins;have gl:=w.glen gd.no;have cl:=w.clen gd;have l16:=no.sixteen;have dI:(Y.ts.map trV).length=Y.ts.length:=Ã _;refine OA ?_;refine' DC x gd λg1 x1=>?_;refine' Oy (x1.get eg) (ZW _) (by lia) (Zm λp2 g2 hp2 x2 e2=>?_);refine' Oy ((x1.trans x2).get ec) (ZW _) (by lia) (Zm λp3 g3 hp3 x3 e3=>?_);fail;rw[w.downs_eq gd.no,w.cuts_eq gd];refine X6 2 ⟨by simp,λv hv=>?_⟩ ?_
 .simp only[Æ,Í,or_false]at hv;rcases hv with rfl|rfl
  .exact OZ (by rw[sortI,Ė];lia)
  .exact OZ (by rw[sortI,Ė];lia)
 have xx:=(x1.trans x2).trans x3;have x':=x.ext xx;walk_at "p";refine eW (xs:=[.tup<|Y.bs.map .int,.tup<|Y.ts.map trV]) (v:=.tup<|Y.ts.map trV) rfl ?_;fail;rw[dI];refine⟨⟨by lia,by lia⟩,?_⟩;refine Zx (λi en g=>Sm2 λv4 v5=>Cj2 (en=[eL<|.ref Y.y,eL<|ZV Y.bs Y.ts,eL<|.ref pg,eL<|.ref pc,v4,v5])<|g=g3) ⟨_,_,rfl,rfl⟩ (λ_ _ _ _ _=>trivial) ?_ ?_
 .rintro i v en g hv ⟨v4,v5,rfl,rfl⟩ K hK;obtain⟨rfl,hi⟩:=X3 hv;have xi:=x'.ins;have ends:=w.ends_eq gd (p:=(i:Int)) (gk ⟨by lia,hi⟩);refine' UB (by lia) hi (xx.get eg) (xx.get ec) ?_;fail;change Y.cc.ends i=(if X1 Y.ts gone cut i=eN then "shut" else "down",if X1 Y.ts gone cut i=eN then "shut" else "down")at ends;refine ifD (λhc=>?_) (λhc=>?_)
  .rw[hc,gg rfl]at ends;refine' Um x' gd (by lia) ?_;rw[ends];refine' X6 1 ⟨by simp,by simp[Pl]⟩ ?_;walk_at "p";exact hK _ _ ⟨_,_,rfl,rfl⟩
  .rw[hc,gh<|by decide]at ends;refine' Um x' gd (by lia) ?_;rw[ends];refine' X6 1 ⟨by simp,by simp[Pl]⟩ ?_;walk_at "p";exact hK _ _ ⟨_,_,rfl,rfl⟩
 .rintro en g ⟨v4,v5,rfl,rfl⟩;refine' k _ xx
end
abbrev ups(bs gone:List Int):List Int:=bs.filter λb=>!gq (b∈gone)
def Dm{gone:List Int}:∀bs:List Int,(bs.map Val.int).filterMap (λv=>match v with|.int b=>if b∈gone then eM else eL (.int b)|_=>eM)=(ups bs gone).map Val.int
 |[]=>rfl
 |b::bs=>by
  have ih:=Dm (gone:=gone) bs;unfold ups at ih ⊢;rw[Ï,ĺ,ě];by_cases z:b∈gone
  .simp only[z,if_true,decide_true,Bool.not_true,ĭ,if_false];exact ih
  .simp only[z,if_false,decide_false,Bool.not_false,if_true,Ï];rw[ih]
def N8{f:Int->Val}:∀bs:List Int,(bs.map Val.int).filterMap (λv=>match v with|.int b=>eL (f b)|_=>eM)=bs.map f
 |[]=>rfl
 |b::bs=>by rw[Ï,ĺ,Ï];exact congrArg (f b :: ·)<|N8 bs
section
variable {C:Yc}{gone cut:List Int}{LV:List (Int×Pi)}{N:Nat}{b:Int}
def W.keys_eq(w:W C gone cut LV)(g:C.gd N):C.keys=ups C.bs gone:=by refine W9 (Y6 g.nd) (g.no.up.sublist Ļ) λb=>?_;have hs:=w.std b;unfold Yc.std at hs;show b∈C.keys↔_;rw[keys_mem,hs];unfold ups;rw[Ċ];simp
def W.at_(w:W C gone cut LV)(g:C.gd N)(hb:b∈ups C.bs gone):(C.at_ b).number=b/\(C.at_ b).life=(lv LV b).1/\(C.at_ b).ok:=by
 unfold ups at hb;obtain⟨h1,h2⟩:=Ċ.mp hb;have h2:b∉gone:=by simpa using h2
 have:=w.core b;rw[gg ⟨h1,h2⟩]at this;unfold Yc.core at this;unfold Yc.at_;cases z:C.br.lookup b with
 |none=>rw[z]at this;cases this
 |some B =>rw[z]at this;have cB:gf.core B=(b,lv LV b):=ì this;exact⟨congrArg (·.1) cB,congrArg (·.2.1) cB,(g.ok _<|ZC z).ok⟩
def W.lab_eq(w:W C gone cut LV)(g:C.gd N):IJ C=(ups C.bs gone).map λb=>.tup [.int b,.tup [.int b,.int 0,.non,.non]]:=by unfold IJ;rw[w.keys_eq g];refine ą λb hb=>?_;obtain⟨h1,h2,ok⟩:=w.at_ g hb;rw[ok.lz,h1];rfl
abbrev G9(C:Yc):List Val:=C.keys.map λb=>.tup [.int b,pV ((C.at_ b).life,(C.at_ b).version)]
def W.stp_eq(w:W C gone cut LV)(g:C.gd N):G9 C=(ups C.bs gone).map λb=>.tup [.int b,.tup [.int (lv LV b).1,.int 0]]:=by unfold G9;rw[w.keys_eq g];refine ą λb hb=>?_;obtain⟨h1,h2,ok⟩:=w.at_ g hb;rw[ok.vz,h2]
end
section
variable {pg pl:Ad}{Y:Yd}{N:Nat}{gone cut:List Int}{LV:List (Int×Pi)}
def Aq(x:fc h Y)(gd:Y.cc.gd N)(k:∀p g,h p=eM->Ext h g->g p=eL (.lst<|G9 Y.cc)->Q (.ref p) g):wF P (n+2) "Yard.stamps" [.ref Y.y] h Q X:=by
 have xi:=x.ins;have xs:=x.stand;have ek:(stands Y.es).map (·.1)=Y.cc.br.map (·.1):=(ZL _).trans (YQ _).symm;have h10:=gd.ten;have kl:=Ny (C:=Y.cc);refine JW ?_;refine' KP xs (UA _) (by rw[ek];lia) (Zm λp1 g1 bY x1 e1=>?_);rw[ek]at e1;have x':=x.ext x1;have xi:=x'.ins;have xs:=x'.stand;refine' ⟨Ü (by rw[Ã];show Y.cc.keys.length<=10;lia) (by decide),?_⟩;refine X8 (λi ys g=>g=g1/\ys=(Y.cc.keys.take i).map λb=>.tup [.int b,pV ((Y.cc.at_ b).life,(Y.cc.at_ b).version)]) ⟨rfl,rfl⟩ (λi ys g _ ⟨z,_⟩=>by rw[z];exact lsE e1) ?_ ?_
 .rintro i v ys g hv ⟨rfl,rfl⟩ K hK;obtain⟨nm,hnm,rfl⟩:=Yk hv;obtain⟨e,he,en,lk,ea,ba⟩:=x'.at_<|keys_mem.mp<|ó hnm;have bi:=ba.ins;walk_at "p";refine YS xs rfl (by rw[Z4,lk];rfl) ?_
  exists Nz ba
  refine' hK _ _ ⟨rfl,?_⟩;rw[ZB (xs:=Y.cc.keys) hnm,ã,<-ea];rfl
 .rintro ys g ⟨rfl,rfl⟩;rw[Ã,show(sortI (Y.cc.br.map (·.1))).length=Y.cc.keys.length from rfl,ĕ];exact Zm λp g2 hp x2 ep=>k p g2 (X7 x1 hp) (x1.trans x2) ep
def Ag{b:Int}(x:fc h Y)(k1:Y.cc.std b=eN->∀a t d,fb h a t d (Y.cc.at_ b)->Q (.ref a) h)(k2:Y.cc.std b=eP->Q .non h):wF P (n+1) "Yard.bridge" [.ref Y.y,.int b] h Q X:=by
 have xi:=x.ins;have xs:=x.stand;refine J7 ?_
 exists B2 xs rfl
 rw[Z4];cases z:(Y.cc.br.lookup b).isSome with
 |false =>
  have:=z;rw[Xp]at this;cases y:(stands Y.es).lookup b with
  |none=>exact k2 z
  |some a=>rw[y]at this;cases this
 |true =>obtain⟨e,he,en,lk,ea,ba⟩:=x.at_ z;rw[lk];exact k1 z e.b e.t e.d<|ea▸ba
def BH(x:fc h Y)(gd:Y.cc.gd N)(w:W Y.cc gone cut LV)(eg:h pg=eL (.lst<|gone.map .int))(el:h pl=eL (.dct<|Zg pV LV))(k:∀g,Q (.bl eN) g):wF P (n+6) "_law_bridges_seen" [.ref Y.y,ZV Y.bs Y.ts,.ref pg,.ref pl] h Q X:=by
 have no:fk Y.bs Y.ts:=gd.no;have h10:=no.ten;have hbl:(Y.bs.map Val.int).length=Y.bs.length:=Ã _;have ul:(ups Y.bs gone).length<=10:=Ô (ŝ _ _) h10;have ull:((ups Y.bs gone).map Val.int).length<lim:=by rw[Ã];exact Ü ul (by decide)
 refine Xx ?_
 exists eW (xs:=[.tup<|Y.bs.map .int,.tup<|Y.ts.map trV]) (v:=.tup<|Y.bs.map .int) rfl
 refine' ⟨by rw[hbl];exact Ü h10 (by decide),ZS (λv=>match v with|.int b=>if b∈gone then eM else eL (.int b)|_=>eM) trivial (λv hv K hK=>?_) ?_⟩
 .obtain⟨b,_,rfl⟩:=Û.mp hv;have hK:K (if b∈gone then eM else eL (.int b)) h:=hK
  exists M6 eg
  refine' Pf (λhc=>?_) (λhc=>?_)
  .rw[show(if b∈gone then eM else eL (Val.int b))=eL (Val.int b) from gh hc]at hK;refine' hK
  .rw[show(if b∈gone then eM else eL (Val.int b))=eM from gg hc]at hK;refine' hK
 rw[Dm];refine Zm λp1 g1 bY x1 e1=>?_;have xa:=x.ext x1;have xi:=xa.ins;refine' UN xa gd λp2 g2 hp2 x2 e2=>?_;rw[w.lab_eq gd]at e2;have e12:=x2.get e1;refine' ⟨ull,ZS (λv=>match v with|.int b=>eL (.tup [.int b,.tup [.int b,.int 0,.non,.non]])|_=>eM) (lsE e12) (λv hv K hK=>?_) ?_⟩
 .obtain⟨b,_,rfl⟩:=Û.mp hv;walk_at "p";exact hK
 rw[N8];refine Zm λp3 g3 hp3 x3 e3=>?_;refine' W0 (d:=2) (x3.get e2) e3 (by rw[Ã];exact Ô ul<|by decide) (λv hv=>?_) ?_
 .obtain⟨b,_,rfl⟩:=Û.mp hv;exact⟨by simp,by simp[Pl]⟩
 have x13:=(x1.trans x2).trans x3;have xb:=x.ext x13;have xi:=xb.ins;have e13:=(x2.trans x3).get e1;walk_at "p";refine Aq xb gd λp4 g4 hp4 x4 e4=>?_;rw[w.stp_eq gd]at e4;have e14:=x4.get e13;refine' ⟨ull,ZS (λv=>match v with|.int b=>eL (.tup [.int b,.tup [.int (lv LV b).1,.int 0]])|_=>eM) (lsE e14) (λv hv K hK=>?_) ?_⟩
 .obtain⟨b,_,rfl⟩:=Û.mp hv;have el4:=(x13.trans x4).get el;walk_at "p";refine K1 el4 rfl ?_;rw[Z4,show((LV.lookup b).map pV).getD (.tup [.int 0,.int 0])=pV (lv LV b) by unfold lv;cases LV.lookup b<;>rfl];refine' hK
 rw[N8];refine Zm λp5 g5 hp5 x5 e5=>?_;refine' W0 (d:=2) (x5.get e4) e5 (by rw[Ã];exact Ô ul<|by decide) (λv hv=>?_) ?_
 .obtain⟨b,_,rfl⟩:=Û.mp hv;exact⟨by simp,by simp[Pl]⟩
 have x15:=(x13.trans x4).trans x5;have xc:=x.ext x15;have eg5:=x15.get eg;walk_at "p";refine eW (xs:=[.tup<|Y.bs.map .int,.tup<|Y.ts.map trV]) (v:=.tup<|Y.bs.map .int) rfl ?_;refine' Zx (λi en g=>Sm2 λv4 v6=>Cj2 (en=[eL<|.ref Y.y,eL<|ZV Y.bs Y.ts,eL<|.ref pg,eL<|.ref pl,v4,eL<|.ref p1,v6])<|g=g5) ⟨_,_,rfl,rfl⟩ (λ_ _ _ _ _=>trivial) ?_ ?_
 .rintro i v en g hv ⟨v4,v6,rfl,rfl⟩ K hK;obtain⟨b,hb,rfl⟩:=Yk hv;have hb:=ó hb;have xi:=xc.ins;have hs:=w.std b;have aU:b∈Y.cc.bs:=hb;refine' Ag xc (λz a t d ba=>?_) (λz=>?_)
  .have hg:b∉gone:=by rw[z]at hs;exact(of_decide_eq_true hs.symm).2
   obtain⟨h1,h2,ok⟩:=w.at_ gd (b:=b) (Ċ.mpr ⟨aU,by simpa using hg⟩);have bi:=ba.ins
   exists Jy eg5
   rw[gj hg]
   exists MT (c:=eN) rfl
   walk_at "p";refine MQ ba ?_;rw[ok.lz,h1];refine' X6 1 ⟨by simp[upV,rsV],by simp[Pl,upV,rsV]⟩ ?_;walk_at "p";exact hK _ _ ⟨_,_,rfl,rfl⟩
  .have hg:b∈gone:=by
    rw[z]at hs;have:=of_decide_eq_false hs.symm;by_cases y:b∈gone
    .exact y
    .exact gp ⟨aU,y⟩ this
   exists Jy eg5
   rw[gk hg]
   exists MT (c:=eN) rfl
   walk_at "p";exact hK _ _ ⟨_,_,rfl,rfl⟩
 .rintro en g ⟨v4,v6,rfl,rfl⟩;refine' k _
end
abbrev Ww(bs:List Int)(ts:List Tie)(most:Int):Yc:=⟨bs,ts,most,bs.map λb=>(b,0),bs.map λb=>(b,Zy b 0 most<|f6 b 0 ts),[],[]⟩
def PZ{bs:List Int}(nw:YNew bs ts most Y):Y.cc=Ww bs ts most:=by
 have e:enC Y.es=bs.map λb=>(b,Zy b 0 most<|f6 b 0 ts):=by rw[<-nw.num,ú];exact ą λe he=>by show(e.num,e.B)=(e.num,_);rw[nw.br e he]
 unfold Yd.cc Ww;rw[nw.hb,nw.ht,nw.hm,nw.lives,nw.fallen,nw.road,e]
def Ev{b:Int}(h:ts.length<=16):Bok ts.length<|Zy b life most<|f6 b 0 ts:=by
 have r:=Wl (b:=b) (l:=ts) (k:=0);have rg:∀q∈Xj (f6 b 0 ts),0<=q.1/\q.1<ts.length:=λq hq=>by obtain⟨x,hx,rfl⟩:=Û.mp hq;have:=r.2 x hx;dsimp only;lia
 refine⟨⟨?_,λq hq=>?_,rfl,rfl,rfl⟩,λq hq=>(rg q hq).2⟩
 .show((Xj _).map (·.1)).Nodup;rw[KM];exact r.1.imp λz=>by lia
 .have:=rg q hq;lia
def FP{bs:List Int}(no:fk bs ts):(Ww bs ts most).gd 0:=by
 have e1:(bs.map λb=>(b,Zy b 0 most<|f6 b 0 ts)).map (·.1)=bs:=by rw[ú];exact Ϣ _
 refine⟨no,?_,keys_sub.mpr ?_,λq hq=>?_,?_,ġ,(λ_ m=>nomatch m),Ì _⟩
 .show((bs.map λb=>(b,Zy b 0 most<|f6 b 0 ts)).map (·.1)).Nodup;rw[e1];exact no.up.imp λh=>by lia
 .show ∀x∈(bs.map λb=>(b,Zy b 0 most<|f6 b 0 ts)).map (·.1),_;rw[e1];exact λ_=>id
 .obtain⟨b,_,rfl⟩:=Û.mp hq;exact Ev no.sixteen
 .show(bs.map λb=>(b,(0:Int))).map (·.1)=bs;rw[ú];exact Ϣ _
def Bq{bs:List Int}(no:fk bs ts)(hp:h p=eM)(k:∀Y g,Y.y=p->fc g Y->Y.cc=Ww bs ts most->(∀a∈Y.adr,h a=eM)->Ext h g->Q .non g):wF P (n+3) "Yard.__init__" [.ref p,ZV bs ts,.int most] (upd h p<|.ins "Yard" []) Q X:=AZ no hp λY g e y nw f x=>k Y g e y (PZ nw) f x
def JP{α:Type}{f:Int->α}{b:Int}:∀{bs:List Int},(bs.map λb=>(b,f b)).lookup b=if b∈bs then eL (f b)else eM
 |[]=>rfl
 |x::bs=>by
  rw[Ï,à,JP (bs:=bs)];by_cases e:b=x
  .subst e;simp
  .have:(b==x)=eP:=by simpa using e
   rw[this];simp[e]
def Hh{bs:List Int}(no:fk bs ts):W (Ww bs ts most) [] [] []:=by
 have lk:∀b,(Ww bs ts most).br.lookup b=if b∈bs then eL (Zy b 0 most<|f6 b 0 ts)else eM:=λb=>JP;refine⟨λb q=>?_,λb=>?_,λp=>rfl,λb hb=>?_,(λ_ m=>nomatch m),ġ,ġ,(λ_ m=>nomatch m),ġ⟩
 .have st:∀b,(Ww bs ts most).std b=gq (b∈bs):=λb=>by
   unfold Yc.std;rw[lk];by_cases h:b∈bs<;>simp[h]
  have on:inR ts q=eN->onC (Ww bs ts most) q=eN:=λh=>by obtain⟨h1,h2,_⟩:=Wz no h;have a:=st ((Ww bs ts most).tie q).1;have c:=st ((Ww bs ts most).tie q).2.1;unfold Yc.std at a c;unfold onC;rw[a,c,gk (show((Ww bs ts most).tie q).1∈bs from h1),gk<|show((Ww bs ts most).tie q).2.1∈bs from h2];rfl
  rw[st];unfold Yc.tied;rw[lk];by_cases h:b∈bs
  .rw[gg h,gk h];show((Xj<|f6 b 0 ts).lookup q).isSome=(eN&&(inR ts q&&(ZI (ts[q.toNat]?.getD (0,0,0)) b&&_)))
   have e:((Xj<|f6 b 0 ts).lookup q).isSome=inl (f6 b 0 ts) q:=by rw[look_iff,KM,aT];unfold inl;rw[ſ,gm,Û];exact⟨λ⟨r,h1,h2⟩=>⟨r,h1,by simpa using h2⟩,λ⟨r,h1,h2⟩=>⟨r,h1,by simpa using h2⟩⟩
   rw[e,XD,θ];cases z:inR ts q with
   |false=>rfl
   |true=>rw[on z,Bool.and_true]
  .rw[gh h,gj h];rfl
 .unfold Yc.core;rw[lk];by_cases h:b∈bs
  .rw[gg h,gg ⟨h,Í⟩];rfl
  .rw[gh h,gh λz=>h z.1];rfl
 .show(bs.map λb=>(b,(0:Int))).lookup b=_;rw[JP (f:=λ_=>(0:Int)),gg<|show b∈bs from hb];rfl
def EI{k:Int}{v:α}:(Zl kvs k v).length<=kvs.length+1:=by
 unfold Zl;split
 .rw[Ã];lia
 .rw[î];exact Ì _
structure S26(y pg pc pl pt pz:Ad)(cs bs:List Int)(ts:List Tie)(i:Nat)(pr:Ad)(g:Hs)(Z:Yd)(gone cut:List Int)(LV TV:List<|Int×Pi):Prop where
 ya:fc g Z
 yy:Z.y=y
 hb:Z.bs=bs
 ht:Z.ts=ts
 gd:Z.cc.gd i
 w:W Z.cc gone cut LV
 eg:g pg=eL (.lst<|gone.map .int)
 ec:g pc=eL (.lst<|cut.map .int)
 el:g pl=eL (.dct<|Zg pV LV)
 et:g pt=eL (.dct<|Zg pV TV)
 er:g pr=eL (.lst<|Z.road.map rdV)
 es:g pz=eL (.lst<|cs.map .int)
 tn:TV.length<=i
 ad:∀a∈[pg,pc,pl,pt,pr,pz],a∉Z.adr
 nd:[pg,pc,pl,pt,pr,pz].Nodup
section
variable {g:Hs}{Z:Yd}{i:Nat}{y pg pc pl pt pz pr:Ad}{cs bs gone cut:List Int}{ts:List Tie}{LV TV:List (Int×Pi)}
def S26.ext(s:S26 y pg pc pl pt pz cs bs ts i pr g Z gone cut LV TV){f:Hs}(x:Ext g f):S26 y pg pc pl pt pz cs bs ts i pr f Z gone cut LV TV :=
 ⟨s.ya.ext x,s.yy,s.hb,s.ht,s.gd,s.w,x.get s.eg,x.get s.ec,x.get s.el,x.get s.et,x.get s.er,x.get s.es,s.tn,s.ad,s.nd⟩
def S26.more(s:S26 y pg pc pl pt pz cs bs ts i pr g Z gone cut LV TV):S26 y pg pc pl pt pz cs bs ts (i+1) pr g Z gone cut LV TV :=
 ⟨s.ya,s.yy,s.hb,s.ht,s.gd.more<|ŀ _,s.w,s.eg,s.ec,s.el,s.et,s.er,s.es,ť s.tn,s.ad,s.nd⟩
def S26.next(s:S26 y pg pc pl pt pz cs bs ts i pr g Z gone cut LV TV){d:Dd}{Z':Yd}{g2 g3:Hs}(st:step Z.cc d=eL Z'.cc)(m:Mv g Z g2 Z')(ex:Ex [pg,pc,pl,pt] g2 g3){gone' b4:List Int}{LV' TV':List (Int×Pi)}{pr':Ad}(w:W Z'.cc gone' b4 LV')
  (eg:g3 pg=eL (.lst<|gone'.map .int)) (ec:g3 pc=eL (.lst<|b4.map .int)) (el:g3 pl=eL (.dct<|Zg pV LV')) (et:g3 pt=eL (.dct<|Zg pV TV')) (er:g3 pr'=eL (.lst<|Z'.road.map rdV)) (tn:TV'.length<=i+1) (na:pr'∉Z'.adr) (nd:[pg,pc,pl,pt,pr',pz].Nodup):S26 y pg pc pl pt pz cs bs ts (i+1) pr' g3 Z' gone' b4 LV' TV':=by
 obtain⟨gd,b1,b2,b3⟩:=EJ s.gd st;have off:∀{a o},a∈[pg,pc,pl,pt,pr,pz]->g a=eL o->a∉Z'.adr/\g2 a=eL o:=λha e=>m.off (s.ad _ ha) e;have o1:=off (a:=pg) (by simp) s.eg;have o2:=off (a:=pc) (by simp) s.ec;have o3:=off (a:=pl) (by simp) s.el;have o4:=off (a:=pt) (by simp) s.et;have o6:=off (a:=pz) (by simp) s.es;have nps:pz∉[pg,pc,pl,pt]:=by have:=s.nd;simp only[Ă,Æ,Í,or_false,not_or]at this ⊢;obtain⟨⟨_,_,_,_,a⟩,⟨_,_,_,b⟩,⟨_,_,c⟩,⟨_,d⟩,_⟩:=this;exact⟨Ne.symm a,Ne.symm b,Ne.symm c,Ne.symm d⟩
 refine⟨m.at_.keep ex λa ha z=>?_,m.y.trans s.yy,(show Z'.bs=Z.bs from b1).trans s.hb,(show Z'.ts=Z.ts from b2).trans s.ht,gd,w,eg,ec,el,et,er,ex.get nps o6.2,tn,λa ha=>?_,nd⟩
 .simp only[Æ,Í,or_false]at z;rcases z with rfl|rfl|rfl|rfl
  .exact o1.1 ha
  .exact o2.1 ha
  .exact o3.1 ha
  .exact o4.1 ha
 .simp only[Æ,Í,or_false]at ha;rcases ha with rfl|rfl|rfl|rfl|rfl|rfl
  .exact o1.1
  .exact o2.1
  .exact o3.1
  .exact o4.1
  .exact na
  .exact o6.1
def Wg(s:S26 y pg pc pl pt pz cs bs ts i pr g Z gone cut LV TV)(k:∀f,Ext g f->Q (.bl eN) f):wF P (n+6) "_law_seen" [.ref y,ZV bs ts,.ref pg,.ref pc] g Q X:=by rw[<-s.yy,<-s.hb,<-s.ht];exact FZ s.ya s.gd s.w s.eg s.ec k
def ET{d:Dd}(s:S26 y pg pc pl pt pz cs bs ts i pr g Z gone cut LV TV)(hi:i<=6000)(k:∀Y' f,step Z.cc d=eL Y'.cc->Mv g Z f Y'->Q (.bl eN) f)(kx:∀f,step Z.cc d=eM->fc f Z->Ext g f->Q (.bl eP) f):wF P (n+7) "_law_tried" [.ref y,d.v] g Q X:=by rw[<-s.yy];exact C4 s.ya s.gd hi k kx
def ED(s:S26 y pg pc pl pt pz cs bs ts i pr g Z gone cut LV TV)(k:∀f,Q (.bl eN) f):wF P (n+6) "_law_bridges_seen" [.ref y,ZV bs ts,.ref pg,.ref pl] g Q X:=by rw[<-s.yy,<-s.hb,<-s.ht];exact BH s.ya s.gd s.w s.eg s.el k
def GM(s:S26 y pg pc pl pt pz cs bs ts i pr g Z gone cut LV TV)(k:∀p f,Ext g f->f p=eL (.lst<|Z.road.map rdV)->Q (.ref p) f):wF P (n+1) "Yard.road" [.ref y] g Q X:=by rw[<-s.yy];exact FR s.ya λp f _ x e=>k p f x e
end
def KR{d:Nat}(p:Pi):Pl (d+1)<|pV p:=⟨by simp,λv hv=>by simp only[Æ,Í,or_false]at hv;rcases hv with rfl|rfl<;>(cases d<;>trivial)⟩
def BU{d:Nat}:∀o:Option Pi,Pl (d+1) (oV o)
 |none=>trivial
 |some p=>KR p
def IF(r:Int×Int×Int×L):Pl 3<|rdV r:=by
 refine⟨by simp,λv hv=>?_⟩;simp only[Æ,Í,or_false]at hv;rcases hv with rfl|rfl|rfl|rfl
 .trivial
 .trivial
 .trivial
 .refine⟨by simp,λv hv=>?_⟩;simp only[Æ,Í,or_false]at hv;rcases hv with rfl|rfl|rfl|rfl|rfl|rfl|rfl
  .exact KR _
  .exact KR _
  .trivial
  .trivial
  .trivial
  .exact BU _
  .exact BU _
def law_ok(h63:ns.length<=63)(k:∀g,Q (.bl eN) g):wF P (n+8) "law" [.scr ns] h Q X:=by
 refine Pk ?_;refine' Me (k:=0) λc0=>?_;refine' Me (k:=1) λc1=>?_;refine' Ho λbs ts g1 no x1=>?_;refine' Me (k:=0) λc2=>?_;refine' Nf λmost g2 m1 m2 x2=>?_;fail;intro y hy;refine Bq no hy λY g3 ey y3 ec fr x3=>?_;refine⟨rfl,?_⟩;subst ey;refine' Zm λpg g4 hpg x4 eg=>?_;refine' Zm λpc g5 hpc x5 ec_=>?_;fail;intro pl hpl;have x6:Ext g5<|upd g5 pl<|.dct []:=Ext.new hpl;have el:upd g5 pl (.dct []) pl=eL (.dct<|Zg pV []):=eR;generalize upd g5 pl (.dct [])=g6 at x6 el;fail;intro pt hpt;have x7:Ext g6<|upd g6 pt<|.dct []:=Ext.new hpt;have et:upd g6 pt (.dct []) pt=eL (.dct<|Zg pV []):=eR;generalize upd g6 pt (.dct [])=g7 at x7 et;refine' Zm λpr g8 hpr x8 er=>?_;refine' Zm λpz g9 hps x9 es=>?_;rw[WY]at es;have aD:(cut ns (eL 2)<|eL 102).length<=100:=by rw[Ol (by decide) (by decide),ă];exact Nat.min_le_left _ _
 generalize cut ns (eL 2) (eL 102)=cs at es aD;have dn:∀{a b:Ad}{o:Ob}{q:Hs},q a=eL o->q b=eM->a≠b:=λe1 e2 z=>by rw[z,e2]at e1;cases e1
 have eg5:=x5.get eg;have eg6:=x6.get eg5;have eg7:=x7.get eg6;have eg8:=x8.get eg7;have ec6:=x6.get ec_;have ec7:=x7.get ec6;have ec8:=x8.get ec7;have el7:=x7.get el;have el8:=x8.get el7;have et8:=x8.get et;have xx:Ext g3 g9:=((((x4.trans x5).trans x6).trans x7).trans x8).trans x9;have f4:∀{q:Hs}{a:Ad},Ext g3 q->q a=eM->a∉Y.adr:=λx e z=>(y3.ext x).taken z e;have s0:S26 Y.y pg pc pl pt pz cs bs ts 0 pr g9 Y [] [] [] []:=by
  have hb:Y.bs=bs:=congrArg Yc.bs ec;have ht:Y.ts=ts:=congrArg Yc.ts ec;have hr:Y.road=[]:=congrArg Yc.road ec;refine⟨y3.ext xx,rfl,hb,ht,ec▸FP no,ec▸Hh no,x9.get eg8,x9.get ec8,x9.get el8,x9.get et8,by rw[hr];exact x9.get er,es,Ì _,λa ha=>?_,?_⟩
  .simp only[Æ,Í,or_false]at ha;rcases ha with rfl|rfl|rfl|rfl|rfl|rfl
   .exact f4 .refl hpg
   .exact f4 x4 hpc
   .exact f4 (x4.trans x5) hpl
   .exact f4 ((x4.trans x5).trans x6) hpt
   .exact f4 (((x4.trans x5).trans x6).trans x7) hpr
   .exact f4 ((((x4.trans x5).trans x6).trans x7).trans x8) hps
  .simp[dn eg hpc,dn eg5 hpl,dn eg6 hpt,dn eg7 hpr,dn eg8 hps,dn ec_ hpl,dn ec6 hpt,dn ec7 hpr,dn ec8 hps,dn el hpt,dn el7 hpr,dn el8 hps,dn et hpr,dn et8 hps,dn er hps]
 clear f4 eg5 eg6 eg7 eg8 ec6 ec7 ec8 el7 el8 et8;refine' Zx (λi en g=>∃pr v8 v9 v10 v11 v12 Z gone cut LV TV,en=[eL<|.scr ns,eL<|ZV bs ts,eL<|.ref Y.y,eL<|.ref pg,eL<|.ref pc,eL<|.ref pl,eL<|.ref pt,eL<|.ref pr,v8,v9,v10,v11,v12]/\S26 Y.y pg pc pl pt pz cs bs ts i pr g Z gone cut LV TV) ⟨_,_,_,_,_,_,Y,[],[],[],[],rfl,s0⟩ (λi en g _ z=>by obtain⟨_,_,_,_,_,_,_,_,_,_,_,_,s⟩:=z;exact lsE s.es) ?_ ?_
 .rintro i v en g hv ⟨pr,v8,v9,v10,v11,v12,Z,gone,cut,LV,TV,rfl,s⟩ K hK;obtain⟨c,hc,rfl⟩:=Yk hv;have hi:i<cs.length:=(Ó.mp hc).1;refine' Df no λd hd g1 x1=>?_;have s:=s.ext x1;have hd:d.inN Z.cc.bs Z.cc.ts:=by
   have e1:Z.cc.bs=bs:=s.hb;have e2:Z.cc.ts=ts:=s.ht;rw[e1,e2];exact hd
  have h16:Z.cc.ts.length<=16:=s.gd.no.sixteen
  exists He s.eg s.ec
  rw[D8 s.w hd];fail;have fin:∀{g3:Hs}{pr:Ad}{Z:Yd}{gone cut:List Int}{LV TV:List (Int×Pi)}{v8 v9 v10 v11 v12:Option Val},S26 Y.y pg pc pl pt pz cs bs ts (i+1) pr g3 Z gone cut LV TV->K [eL<|.scr ns,eL<|ZV bs ts,eL<|.ref Y.y,eL<|.ref pg,eL<|.ref pc,eL<|.ref pl,eL<|.ref pt,eL<|.ref pr,v8,v9,v10,v11,v12] g3:=λs=>hK _ _ ⟨_,_,_,_,_,_,_,_,_,_,_,rfl,s⟩;refine ET s (by lia) (λZ' g2 st m=>?_) λg2 st ya x2=>?_
  .rw[st]
   exists MT (c:=eN) rfl
   have off:∀{a o},a∈[pg,pc,pl,pt,pr,pz]->g1 a=eL o->a∉Z'.adr/\g2 a=eL o:=λha e=>m.off (s.ad _ ha) e;have o1:=off (a:=pg) (by simp) s.eg;have o2:=off (a:=pc) (by simp) s.ec;have o3:=off (a:=pl) (by simp) s.el;have o4:=off (a:=pt) (by simp) s.et;have o5:=off (a:=pr) (by simp) s.er;have nd:=s.nd;simp only[Ă,Æ,Í,or_false,not_or]at nd;obtain⟨⟨n12,n13,n14,n15,n16⟩,⟨n23,n24,n25,n26⟩,⟨n34,n35,n36⟩,⟨n45,n46⟩,n56,_⟩:=nd;have gl:=s.w.glen s.gd.no;have cl:=s.w.clen s.gd;have ll:=s.w.llen s.gd.no;have tl:=s.tn;cases d with
   |tick b =>
    have hb:b∈Z.cc.bs:=hd;obtain⟨_,w'⟩:=s.w.step_tick hb st;have rd:Z'.road=Z.road++YF Z.ts gone cut b (lv LV b) (f6 b 0 Z.ts):=s.w.sent s.gd hb st;rw[s.ht]at rd;have oe3:=o3.2;walk_at "p";refine K1 oe3 rfl ?_;rw[Z4,show(Dd.tick b).num=b from rfl,show((LV.lookup b).map pV).getD (.tup [.int 0,.int 0])=pV (lv LV b) by unfold lv;cases LV.lookup b<;>rfl];refine' E9 (b:=b) (l:=lv LV b) no o1.2 o2.2 λp5 g5 hp5 x5 e5=>?_;fail;have Ē:Z.road.length<=16*i:=s.gd.len;have hsl:(YF ts gone cut b (lv LV b)<|f6 b 0 ts).length<=16:=by unfold YF;rw[Ã];refine Ô (ŝ _ _)<|Ô XY no.sixteen
    refine Cz (x5.get o5.2) e5 (by rw[î,Ã,Ã];exact Ô (by lia:_<=2000)<|by decide)<|Zm λp6 g6 hp6 x6 e6=>?_;have x56:=x5.trans x6;have el6:=x56.get o3.2;refine' Yv (k:=.int b) el6 ⟨rfl,by rw[Mz];exact Ü ll<|by decide⟩ ?_;rw[show Val.tup [.int (lv LV b).1,.int<|(lv LV b).2+1]=pV ((lv LV b).1,(lv LV b).2+1) from rfl,ZY];have hp2:g2 p6=eM:=X7 x5 hp6;have n6:∀{a o},g2 a=eL o->a≠p6:=λe z=>by rw[z,hp2]at e;cases e
    have s':=s.next (pr':=p6) (TV':=TV) st m (g3:=upd g6 pl<|.dct<|Zg pV<|Zl LV b ((lv LV b).1,(lv LV b).2+1)) ((Ex.of x56).trans<|Ex.upd<|by simp) w' ((eQ n13).trans<|x56.get o1.2) ((eQ n23).trans<|x56.get o2.2) eR ((eQ<|Ne.symm n34).trans<|x56.get o4.2) ((eQ<|Ne.symm<|n6 o3.2).trans<|by rw[rd,ã];exact e6) (ť tl) (λz=>m.at_.taken z hp2) (by
      have o6:=off (a:=pz) (by simp) s.es
      simp[n12,n13,n14,n16,n23,n24,n26,n34,n36,n46,n6 o1.2,n6 o2.2,n6 o3.2,n6 o4.2,Ne.symm<|n6 o6.2])
    refine' Wg s' λf xf=>?_;walk_at "p";exact fin<|s'.ext xf
   |fallB b =>have hb:b∈Z.cc.bs:=hd;obtain⟨hg,w',rd⟩:=s.w.step_fallB s.gd hb st;walk_at "p";refine WU o1.2 o3.2 n13 (by lia) (by lia) (λz=>gp z hg) λ_ g3 e1 e3 ex=>?_;have ex4:Ex [pg,pc,pl,pt] g2 g3:=ex.sub (by simp);have s':=s.next (pr':=pr) (TV':=TV) st m ex4 w' e1 (ex.get (by simp[Ne.symm n12,n23]) o2.2) e3 (ex.get (by simp[Ne.symm n14,Ne.symm n34]) o4.2) (by rw[show Z'.road=Z.road from rd];exact ex.get (by simp[Ne.symm n15,Ne.symm n35]) o5.2) (ť tl) o5.1 s.nd;refine' Wg s' λf xf=>?_;walk_at "p";exact fin<|s'.ext xf
   |backB b =>have hb:b∈Z.cc.bs:=hd;obtain⟨hg,w',rd⟩:=s.w.step_backB s.gd hb st;walk_at "p";refine WU o1.2 o3.2 n13 (by lia) (by lia) (λ_ g3 e1 e3 ex=>?_) λz=>gp hg z;have ex4:Ex [pg,pc,pl,pt] g2 g3:=ex.sub (by simp);have s':=s.next (pr':=pr) (TV':=TV) st m ex4 w' e1 (ex.get (by simp[Ne.symm n12,n23]) o2.2) e3 (ex.get (by simp[Ne.symm n14,Ne.symm n34]) o4.2) (by rw[show Z'.road=Z.road from rd];exact ex.get (by simp[Ne.symm n15,Ne.symm n35]) o5.2) (ť tl) o5.1 s.nd;refine' Wg s' λf xf=>?_;walk_at "p";exact fin<|s'.ext xf
   |fallT p =>obtain⟨hg,w',rd⟩:=s.w.step_fallT s.gd hd st;walk_at "p";refine WU o2.2 o4.2 n24 (by lia) (by lia) (λz=>gp z hg) λ_ g3 e2 e4 ex=>?_;have ex4:Ex [pg,pc,pl,pt] g2 g3:=ex.sub (by simp);have s':=s.next (pr':=pr) (TV':=TV) st m ex4 w' (ex.get (by simp[n12,n14]) o1.2) e2 (ex.get (by simp[Ne.symm n23,n34]) o3.2) e4 (by rw[show Z'.road=Z.road from rd];exact ex.get (by simp[Ne.symm n25,Ne.symm n45]) o5.2) (ť tl) o5.1 s.nd;refine' Wg s' λf xf=>?_;walk_at "p";exact fin<|s'.ext xf
   |backT p =>obtain⟨hg,w',rd⟩:=s.w.step_backT s.gd hd st;walk_at "p";refine WU o2.2 o4.2 n24 (by lia) (by lia) (λ_ g3 e2 e4 ex=>?_) λz=>gp hg z;have ex4:Ex [pg,pc,pl,pt] g2 g3:=ex.sub (by simp);have s':=s.next (pr':=pr) st m ex4 w' (ex.get (by simp[n12,n14]) o1.2) e2 (ex.get (by simp[Ne.symm n23,n34]) o3.2) e4 (by rw[show Z'.road=Z.road from rd];exact ex.get (by simp[Ne.symm n25,Ne.symm n45]) o5.2) (Ô EI<|by lia) o5.1 s.nd;refine' Wg s' λf xf=>?_;walk_at "p";exact fin<|s'.ext xf
  .rw[st]
   exists MT (c:=eN) rfl
   have s':=(s.ext x2).more;walk_at "p";refine Wg s' λf xf=>?_;walk_at "p";exact fin<|s'.ext xf
 .rintro en g ⟨pr,v8,v9,v10,v11,v12,Z,gone,cut,LV,TV,rfl,s⟩;have xi:=s.ya.ins;rw[s.yy]at xi;refine' GM s λp f xf ef=>?_;have s':=s.ext xf;fail;have Ē:Z.road.length<=16*(cs.map Val.int).length:=s.gd.len;rw[Ã]at Ē;refine W0 (d:=3) ef s'.er (by rw[Ã];lia) (λv hv=>?_) ?_
  .obtain⟨r,hr,rfl⟩:=Û.mp hv;exact IF r
  walk_at "p";exact ED s' k
end gf
set_option maxRecDepth 1000000
set_option maxHeartbeats 0
namespace My
open PySem L2 Snd PySem.W
abbrev top(i:Nat):Stmt:=PySem.Challenge.pw_shutways_k26_what_is_down.main.body.getD i<|.Pass ⟨0,0,0,0⟩
abbrev inC:Stmt->Nat->Stmt
 |.ClassDef _ _ _ b _ _ _ _ _ _ _,j=>b.getD j<|.Pass ⟨0,0,0,0⟩
 |s,_=>s
abbrev x0:Ds:=⟨top 5,["thing"],["thing"],gf.SW⟩
abbrev x1:Ds:=⟨top 7,["net","bridge","found","place","tie"],["net","bridge"],gf.SS⟩
abbrev x2:Ds:=⟨top 8,["tie","bridge"],["tie","bridge"],gf.SX⟩
abbrev x3:Ds:=⟨top 19,["bridge","offers","better"],["bridge","offers"],gf.SY⟩
abbrev x4:Ds:=⟨top 25,["some","words"],["some"],gf.ST⟩
abbrev x5:Ds:=⟨top 27,["script","k"],["script","k"],gf.SO⟩
abbrev x6:Ds:=⟨top 28,["cell","k","number"],["cell","k"],gf.SD⟩
abbrev x7:Ds:=⟨top 29,["cell","many","rest","plain","found","k"],["cell","many"],gf.SA⟩
abbrev x8:Ds:=⟨top 30,["sizes","many","width"],["sizes"],gf.SK⟩
abbrev x9:Ds:=⟨top 31,["bridges","three","k","size","one","other","cost","pair"],["bridges","three","k"],gf.SI⟩
abbrev x10:Ds:=⟨top 32,["first","second","sizes","bridges","many","draws","ties"],["first","second"],gf.SE⟩
abbrev x11:Ds:=⟨top 33,["first","sizes"],["first"],gf.SB⟩
abbrev x12:Ds:=⟨top 34,["found","due","k"],["found","due"],gf.SF⟩
abbrev x13:Ds:=⟨top 35,["net","number","some","place","tie"],["net","number"],gf.SL⟩
abbrev x14:Ds:=⟨top 36,["net","gone","cut","place","tie"],["net","gone","cut","place"],gf.SC⟩
abbrev x15:Ds:=⟨top 37,["net","cell","size","at","word"],["net","cell"],gf.SU⟩
abbrev x16:Ds:=⟨top 38,["deed","gone","cut","there"],["deed","gone","cut"],gf.SN⟩
abbrev x17:Ds:=⟨top 39,["net","gone","cut","number","life","count","sent","place","other","cost","letter"],["net","gone","cut","number","life","count"],gf.SH⟩
abbrev x18:Ds:=⟨top 40,["some","thing","lives"],["some","thing","lives"],gf.SR⟩
abbrev x19:Ds:=⟨top 41,["yard","net","gone","cut","place","due"],["yard","net","gone","cut"],gf.SG⟩
abbrev x20:Ds:=⟨top 42,["yard","deed","refused"],["yard","deed"],gf.SQ⟩
abbrev x21:Ds:=⟨top 43,["yard","net","gone","lives","number","up","found"],["yard","net","gone","lives"],gf.SM⟩
abbrev x22:Ds:=⟨top 44,["script","net","yard","gone","cut","lives","ties","road","cell","deed","good","life","count"],["script"],gf.SJ⟩
abbrev z0:Ds:=⟨inC (top 21) 0,["self","number","life","ties","greatest","place","neighbour","cost"],["self","number","life","ties","greatest"],gf.RW⟩
abbrev z1:Ds:=⟨inC (top 21) 2,["self"],["self"],gf.RK⟩
abbrev z2:Ds:=⟨inC (top 21) 3,["self"],["self"],gf.RC⟩
abbrev z3:Ds:=⟨inC (top 21) 4,["self","place"],["self","place"],gf.RX⟩
abbrev z4:Ds:=⟨inC (top 21) 5,["self","place","neighbour","cost"],["self","place","neighbour","cost"],gf.RF⟩
abbrev z5:Ds:=⟨inC (top 21) 6,["self","place"],["self","place"],gf.RZ⟩
abbrev z6:Ds:=⟨inC (top 21) 8,["self","letters"],["self"],gf.RE⟩
abbrev z7:Ds:=⟨inC (top 21) 9,["self","older","place","held"],["self"],gf.RM⟩
abbrev z8:Ds:=⟨inC (top 21) 10,["self","offers","place","held","neighbour","cost","best","root"],["self"],gf.RU⟩
abbrev z9:Ds:=⟨inC (top 21) 11,["self","label"],["self","label"],gf.RD⟩
abbrev z10:Ds:=⟨inC (top 21) 12,["self","place","root","cost","over","rests","age","ahead"],["self","place"],gf.RN⟩
abbrev z11:Ds:=⟨inC (top 21) 13,["self","place","held"],["self","place"],gf.RJ⟩
abbrev z12:Ds:=⟨inC (top 21) 15,["self","place"],["self","place"],gf.RY⟩
abbrev z13:Ds:=⟨inC (top 24) 0,["self","net","greatest","number"],["self","net","greatest"],gf.R4⟩
abbrev z14:Ds:=⟨inC (top 24) 4,["self"],["self"],gf.R6⟩
abbrev z15:Ds:=⟨inC (top 24) 5,["self","fallen"],["self"],gf.RQ⟩
abbrev z16:Ds:=⟨inC (top 24) 6,["self"],["self"],gf.R5⟩
abbrev z17:Ds:=⟨inC (top 24) 7,["self"],["self"],gf.R9⟩
abbrev z18:Ds:=⟨inC (top 24) 8,["self","number"],["self","number"],gf.RL⟩
abbrev z19:Ds:=⟨inC (top 24) 9,["self","place","one","other","cost"],["self","place"],gf.RT⟩
abbrev z20:Ds:=⟨inC (top 24) 10,["self","number","place"],["self","number","place"],gf.RS⟩
abbrev z21:Ds:=⟨inC (top 24) 11,["self","place"],["self","place"],gf.R3⟩
abbrev z22:Ds:=⟨inC (top 24) 12,["self","some","words","number"],["self","some"],gf.RP⟩
abbrev z23:Ds:=⟨inC (top 24) 13,["self","number","place","letter","goal"],["self","number"],gf.SZ⟩
abbrev z24:Ds:=⟨inC (top 24) 16,["self","number"],["self","number"],gf.R0⟩
abbrev z25:Ds:=⟨inC (top 24) 17,["self","place"],["self","place"],gf.R1⟩
abbrev z26:Ds:=⟨inC (top 24) 18,["self","number"],["self","number"],gf.RG⟩
abbrev z27:Ds:=⟨inC (top 24) 19,["self","place"],["self","place"],gf.RI⟩
abbrev z28:Ds:=⟨inC (top 24) 20,["self","number","place","neighbour","cost"],["self","number"],gf.R8⟩
abbrev z29:Ds:=⟨inC (top 24) 21,["self","place","one","other","cost","stands","near","far"],["self","place"],gf.R7⟩
abbrev tb:Tb where
 fs:=[("is_whole",x0),("neighbours",x1),("far_end",x2),("best_offer",x3),("read_deed",x4),("_law_cell_at",x5),("_law_mixed",x6),("_law_draws",x7),("_law_bridges",x8),("_law_tie",x9),("_law_net",x10),("_law_greatest",x11),("_law_same",x12),("_law_ties_of",x13),("_law_is_up",x14),("_law_deed",x15),("_law_can",x16),("_law_sent",x17),("_law_turn",x18),("_law_seen",x19),("_law_tried",x20),("_law_bridges_seen",x21),("law",x22)]
 ms:=[⟨"Bridge","__init__","Bridge.__init__",z0⟩,⟨"Bridge","label","Bridge.label",z1⟩,⟨"Bridge","stamp","Bridge.stamp",z2⟩,⟨"Bridge","held","Bridge.held",z3⟩,⟨"Bridge","up","Bridge.up",z4⟩,⟨"Bridge","down","Bridge.down",z5⟩,⟨"Bridge","tick","Bridge.tick",z6⟩,⟨"Bridge","let_grow_older","Bridge.let_grow_older",z7⟩,⟨"Bridge","reckon_label","Bridge.reckon_label",z8⟩,⟨"Bridge","take_label","Bridge.take_label",z9⟩,⟨"Bridge","letter_over","Bridge.letter_over",z10⟩,⟨"Bridge","is_rested_on","Bridge.is_rested_on",z11⟩,⟨"Bridge","end","Bridge.end",z12⟩,⟨"Yard","__init__","Yard.__init__",z13⟩,⟨"Yard","road","Yard.road",z14⟩,⟨"Yard","down","Yard.down",z15⟩,⟨"Yard","labels","Yard.labels",z16⟩,⟨"Yard","stamps","Yard.stamps",z17⟩,⟨"Yard","bridge","Yard.bridge",z18⟩,⟨"Yard","ends","Yard.ends",z19⟩,⟨"Yard","end_at","Yard.end_at",z20⟩,⟨"Yard","has_tie","Yard.has_tie",z21⟩,⟨"Yard","deed","Yard.deed",z22⟩,⟨"Yard","tick_of","Yard.tick_of",z23⟩,⟨"Yard","fall_of_bridge","Yard.fall_of_bridge",z24⟩,⟨"Yard","fall_of_tie","Yard.fall_of_tie",z25⟩,⟨"Yard","back_of_bridge","Yard.back_of_bridge",z26⟩,⟨"Yard","back_of_tie","Yard.back_of_tie",z27⟩,⟨"Yard","set_ties_of","Yard.set_ties_of",z28⟩,⟨"Yard","set_tie","Yard.set_tie",z29⟩]
 cs:=[("STAMP",(.int 1)),("ROOT",(.int 2)),("COST",(.int 3)),("RESTS",(.int 5)),("DEEDS",(.tup [(.tup [(.str "tick")]),(.tup [(.str "come")]),(.tup [(.str "lost")]),(.tup [(.str "fall"),(.str "bridge")]),(.tup [(.str "fall"),(.str "tie")]),(.tup [(.str "back"),(.str "bridge")]),(.tup [(.str "back"),(.str "tie")])]))]
 cl:=["Bridge","Yard"]
 fl:=["age_let_go","greatest_age","held_by_place","label_now","letters_on_road","life","lives","net_made_of","number","standing","ticks_had","ties_by_place","ties_fallen","version"]
 xs:=["NoDeed"]
abbrev pg:gf.Pg:=λf=>(([("is_whole",gf.SW),("neighbours",gf.SS),("far_end",gf.SX),("best_offer",gf.SY),("read_deed",gf.ST),("_law_cell_at",gf.SO),("_law_mixed",gf.SD),("_law_draws",gf.SA),("_law_bridges",gf.SK),("_law_tie",gf.SI),("_law_net",gf.SE),("_law_greatest",gf.SB),("_law_same",gf.SF),("_law_ties_of",gf.SL),("_law_is_up",gf.SC),("_law_deed",gf.SU),("_law_can",gf.SN),("_law_sent",gf.SH),("_law_turn",gf.SR),("_law_seen",gf.SG),("_law_tried",gf.SQ),("_law_bridges_seen",gf.SM),("law",gf.SJ),("Bridge.__init__",gf.RW),("Bridge.label",gf.RK),("Bridge.stamp",gf.RC),("Bridge.held",gf.RX),("Bridge.up",gf.RF),("Bridge.down",gf.RZ),("Bridge.tick",gf.RE),("Bridge.let_grow_older",gf.RM),("Bridge.reckon_label",gf.RU),("Bridge.take_label",gf.RD),("Bridge.letter_over",gf.RN),("Bridge.is_rested_on",gf.RJ),("Bridge.end",gf.RY),("Yard.__init__",gf.R4),("Yard.road",gf.R6),("Yard.down",gf.RQ),("Yard.labels",gf.R5),("Yard.stamps",gf.R9),("Yard.bridge",gf.RL),("Yard.ends",gf.RT),("Yard.end_at",gf.RS),("Yard.has_tie",gf.R3),("Yard.deed",gf.RP),("Yard.tick_of",gf.SZ),("Yard.fall_of_bridge",gf.R0),("Yard.fall_of_tie",gf.R1),("Yard.back_of_bridge",gf.RG),("Yard.back_of_tie",gf.RI),("Yard.set_ties_of",gf.R8),("Yard.set_tie",gf.R7)]:List<|String×gf.Fn).lookup f)
instance:gf.Al pg:=by constructor<;>rfl
variable {α:Type} {p:List α->Prop}
def ar1(h:∀a0,p [a0])(us:List α)(e:us.length=1):p us:=match us,e with|[a0],_=>h a0
def ar2(h:∀a0 a1,p [a0,a1])(us:List α)(e:us.length=2):p us:=match us,e with|[a0,a1],_=>h a0 a1
def ar3(h:∀a0 a1 a2,p [a0,a1,a2])(us:List α)(e:us.length=3):p us:=match us,e with|[a0,a1,a2],_=>h a0 a1 a2
def ar4(h:∀a0 a1 a2 a3,p [a0,a1,a2,a3])(us:List α)(e:us.length=4):p us:=match us,e with|[a0,a1,a2,a3],_=>h a0 a1 a2 a3
def ar5(h:∀a0 a1 a2 a3 a4,p [a0,a1,a2,a3,a4])(us:List α)(e:us.length=5):p us:=match us,e with|[a0,a1,a2,a3,a4],_=>h a0 a1 a2 a3 a4
def ar6(h:∀a0 a1 a2 a3 a4 a5,p [a0,a1,a2,a3,a4,a5])(us:List α)(e:us.length=6):p us:=match us,e with|[a0,a1,a2,a3,a4,a5],_=>h a0 a1 a2 a3 a4 a5
variable {P:String->Ds->Prop}
def mc{f:String}{x:Ds}{l:List (String×Ds)}(h:P f x)(k:∀g y,(g,y)∈l->P g y):∀g y,(g,y)∈(f,x)::l->P g y:=λg y m=>by
 rcases Æ.mp m with e|m
 .cases e;exact h
 .exact k g y m
def mn:∀g y,(g,y)∈([]:List<|String×Ds)->P g y:=λ_ _ m=>nomatch m
def Ez:∀f x,(f,x)∈tb.fs.drop 12->x.Ok tb:=by
 iterate 11 refine mc ⟨by kernel_rfl,by kernel_rfl⟩ ?_
 exact mn
def tab_ok:∀f x,(f,x)∈tb.fs->x.Ok tb:=by
 iterate 12 refine mc ⟨by kernel_rfl,by kernel_rfl⟩ ?_
 exact Ez
def tab_pg:∀f x,(f,x)∈tb.fs->pg f=eL x.d:=by repeat first|exact mn|refine mc rfl ?_
def tab_bd:∀f x,(f,x)∈tb.fs->Hd.Bd (gu f) (gu f) x:=by repeat first|exact mn|refine mc (λ_ _ _ _ _ _=>(by first|exact ar1 λ_=>rfl|exact ar2 λ_ _=>rfl|exact ar3 λ_ _ _=>rfl|exact ar4 λ_ _ _ _=>rfl|exact ar5 λ_ _ _ _ _=>rfl|exact ar6 λ_ _ _ _ _ _=>rfl)) ?_
def md{P:α->Prop}{x:α}{l:List α}(h:P x)(k:∀y,y∈l->P y):∀y,y∈x::l->P y:=λy m=>by
 rcases Æ.mp m with e|m
 .cases e;exact h
 .exact k y m
def me{P:α->Prop}:∀y,y∈([]:List α)->P y:=λ_ m=>nomatch m
def F3:∀y,y∈tb.ms.drop 24->y.x.Ok tb:=by
 iterate 6 refine md ⟨by kernel_rfl,by kernel_rfl⟩ ?_
 exact me
def FG:∀y,y∈tb.ms.drop 12->y.x.Ok tb:=by
 iterate 12 refine md ⟨by kernel_rfl,by kernel_rfl⟩ ?_
 exact F3
def tab_om:∀y,y∈tb.ms->y.x.Ok tb:=by
 iterate 12 refine md ⟨by kernel_rfl,by kernel_rfl⟩ ?_
 exact FG
def tab_pm:∀y,y∈tb.ms->pg (y.C ++ "." ++ y.m)=eL y.x.d:=by repeat first|exact me|refine md rfl ?_
def tab_bm:∀y,y∈tb.ms->Hd.Bd (gu y.m) (gu y.qual) y.x:=by repeat first|exact me|refine md (λ_ _ _ _ _ _=>(by first|exact ar1 λ_=>rfl|exact ar2 λ_ _=>rfl|exact ar3 λ_ _ _=>rfl|exact ar4 λ_ _ _ _=>rfl|exact ar5 λ_ _ _ _ _=>rfl|exact ar6 λ_ _ _ _ _ _=>rfl)) ?_
def law_in:("law",x22)∈tb.fs:=ó (i:=22) rfl
noncomputable abbrev pr:Program:=PySem.Challenge.rw_shutways_k26_what_is_down.row.prog
noncomputable abbrev vw:Program:=PySem.W.view pr [0,2,3,5,7,8,10,11,12,13,14,15,16,17,19,21,23,24,25,27,28,29,30,31,32,33,34,35,36,37,38,39,40,41,42,43,44]
noncomputable abbrev xt(s:Shared):Bool:=xlAt vw [] s&&recOk (RowW.records PySem.Challenge.rw_shutways_k26_what_is_down.row.toRowW) s
def said:PySem.Challenge.rw_shutways_k26_what_is_down.wellSaid=eN:=by rw[Fast.te9446332074065402090];kernel_rfl
def l1:∀w os,(Hd.runY pr 12000 w os).map (Hd.stY pr w)=eL eN:=λw os=>by kernel_rfl
def l2:∀w os,(Hd.runY pr 12000 w os).map (λs=>Hd.seenY vw [] (Hd.modsY pr.main.body) xt eN s.abs)=eL (openGood vw []):=λw os=>by kernel_rfl
def l3:∀w os,(Hd.runY pr 12000 w os).map (λs=>(Hd.hook tb).obs s.abs)=eL ((Hd.hook tb).val w):=λw os=>by kernel_rfl
def left:LeftO pr vw [] xt (Hd.hook tb).obs (Hd.hook tb).val 12000:=Hd.left_of (by kernel_rfl) rfl (λs=>by kernel_rfl) l1 l2 l3
end My
open PySem PySem.W PyProof.Rows
theorem PySem.Challenge.cw_shutways_k26_what_is_down_holds : PySem.Challenge.rw_shutways_k26_what_is_down.Holds := by
 refine holds_law My.said λsaid=>?_;refine holds_open (q:=My.vw) (loose:=[]) (Xt:=My.xt) (XP:=XL My.vw []) (YP:=(Hd.hook My.tb).says) My.left (Hook.of _) (Hook.keeps _) (λs e=>xl_of s (ō.mp e).1) XL.keeps (by rfl) (by rfl) (by rfl) (λs e=>recFacts_of (ō.mp e).2) (by rfl) said (by decide +kernel) ⟨rfl,rfl,rfl,rfl,rfl,by decide +kernel⟩ ?hw ?hc
 case hw=>w_on;w_witness2
 case hc=>exact Hd.law_walk (k:=7) rfl rfl rfl ⟨rfl,by decide,by decide⟩ My.law_in rfl rfl My.tab_pg My.tab_pm My.tab_ok My.tab_om My.tab_bd My.tab_bm λns hl=>gf.law_ok (n:=0) hl λ_=>rfl
