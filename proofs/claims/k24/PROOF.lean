import PyProof.Rows.All
import Wide.All
import OpenK.AllK
import Wide.FinOn
import PyProof.EqAt
import PyProof.EqKinds
import PyProof.TupleCall
import Lean
import PySem.Challenge.RW_shutways_k24_letters_come_or_are_lost
set_option Elab.async false
set_option bootstrap.genMatcherCode false
set_option compiler.extract_closed false
set_option genSizeOf false
set_option linter.all false
set_option maxRecDepth 100000
open PySem.W (Frag)
open Array renaming length_toList->ç, getElem?_eq_getElem->ù, getElem?_toList->Ą, getD->μ, getElem?_eq_none->Ο, getElem?_eq_some_iff->aM, toList->bu, append_assoc->cM, toList_push->dm, toList_inj->dN
open Bool renaming false_ne_true->ý, false_eq_true->ċ, not_eq_true'->ř, or_eq_true->ϐ, and_eq_true_iff->ϙ, or_false->Ϥ, and_true->ϥ, not_not->ϵ, and_self->bg
open Char renaming toNat->Ő
open False renaming elim->ī
open ForInStep renaming yield->ķ
open Function renaming comp_apply->bA
open Int renaming toNat_natCast->í, emod_nonneg->Ĩ, emod_lt_of_pos->İ, lt_of_lt_of_le->dU, natCast_nonneg->dW
open List renaming length_map->Â, mem_cons->Ç, size_toArray->É, mem_append_right->Ê, getElem?_eq_getElem->Ë, length_cons->Ì, getElem?_eq_some_iff->Í, map_cons->Ð, mem_map->Ò, mem_cons_of_mem->Ô, replicate->Ö, getElem?_map->Ù, map_append->Ü, not_mem_nil->Ý, mem_singleton->á, mem_append_left->â, lookup_cons->ä, mem_cons_self->å, mem_append->é, nodup_append->ê, length_append->ë, mem_of_getElem?->ì, all_eq_true->ñ, length_replicate->ò, take_length->ó, getD_eq_getElem?_getD->ô, length_take->ø, map_map->ÿ, map_congr_left->Ā, contains_iff_mem->ą, filterMap_cons->Ć, find?_cons->ć, getElem?_append_left->Ċ, replicate_succ->č, getElem?_append_right->Ē, mem_filter->ē, append_nil->Ĕ, mem_map_of_mem->ė, nodup_cons->ě, any_cons->Ġ, drop_eq_nil_of_le->ģ, map_inj_left->Ĥ, length_nil->Ħ, foldl_cons->Ĵ, getElem_mem->Ķ, flatten_cons->Ł, getElem?_replicate->ň, length_drop->ŉ, nodup_nil->Ŋ, map_id->Ō, zip_cons_cons->ŏ, getElem?_eq_none->Ŕ, length_mergeSort->ŕ, append_assoc->ŗ, filter_cons->Ş, mem_flatMap->Š, mem_range->ŭ, length_range->Ů, take_add_one->ů, getElem?_set_ne->Ż, lookup->ż, mergeSort_perm->γ, length_pos_iff->δ, mem_filterMap->ν, zip_nil_right->ξ, filterMap_map->ο, mapM_cons->π, drop_eq_getElem_cons->Β, zip_nil_left->Δ, reverse_cons->Ε, getElem?_set_self->Τ, map_nil->Χ, take_of_length_le->ϋ, length_set->Ϗ, length_take_le'->Ϛ, mergeSort->ϛ, filter_sublist->ϡ, take_succ_cons->ϣ, set_cons_succ->Ϩ, set_cons_zero->ϩ, any_eq_true->ai, cons_append->aj, eq_nil_of_length_eq_zero->am, of_mem_zip->aD, length_eraseIdx_of_lt->aQ, getElem?_eq_none_iff->aS, length_filterMap_le->bf, pairwise_mergeSort->bw, length_eq_zero_iff->bx, getElem?_cons_succ->bz, length_eraseIdx_le->bB, pairwise_lt_range->bK, filterMap_eq_map'->bN, dropLast_eq_take->ca, mem_iff_getElem?->cb, take_append_drop->cj, length_filter_le->cr, set_append_left->cE, pairwise_append->cF, flatMap_append->cU, foldl->dh, pairwise_cons->dk, getElem_range->dq, take_sublist->dD
open List.MergeSort.Internal renaming splitInTwo->ζ
open Nat renaming le_refl->Î, le_trans->Ó, ne_of_lt->Þ, lt_of_le_of_lt->ß, lt_of_lt_of_le->ã, lt_succ_of_lt->ď, lt_succ_self->Ė, lt_irrefl->Ę, zero_le->Ĳ, ne_of_gt->ł, le_succ->Ń, lt_trans->š, zero_add->ű, min_eq_left->ε, le_of_lt->θ, succ_le_succ->Ξ, min_le_right->al, mul_comm->bZ
open Option renaming map_eq_some_iff->Ú, bind_eq_some_iff->æ, bind_some->ð, isSome_iff_exists->Č, map_some->Ľ, isSome_map->ũ, not_isSome_iff_eq_none->Ϻ, getD_none->df
open Option.some renaming inj->ú, injEq->Ĭ
open Prod.mk renaming injEq->Ŵ
open PyProof.Rows renaming IntsAre->û, step_dedup->Ř, seqObj->ţ, kindOf->υ, firstMet->Κ, AllBare->Ρ, envOfC->ϫ, IsTup->aa, subscriptTail->ae, firstMet_length_le->ao, size_push'->ce, Constant_none->cN, subscriptTail_builtinR->dJ
open PySem renaming wpAny_bind->À, Value->Ã, Shared->Å, wpAny_pure->Æ, Addr->È, starEach->Õ, sizeLine->Ø, model->Û, Program->à, compareOp->è, World->õ, wpAny_newObj_type->þ, Heap->ā, Around->Ă, mainGlobals->Ĉ, wpAny_call_entry->ĉ, wpAny_truthy_bool->đ, wpAny_callSpecial?_slot->ĕ, wpAny_mono->ę, foldedSetIterable->Ě, wpAny_holding->Ĝ, wpAny_loadPart'->ĝ, cLine->Ğ, assignEach->ğ, argBest->Ģ, backTo->ĥ, attributeBase->ħ, codeAny_builtin->ĭ, wpAny_ite_split->Į, rawInt->ı, wpAny_Call_Name_kw->ĳ, behindInMarks->Ĺ, plainId_quiet->ĺ, Stmt->Ļ, wpAny_seqItems->ľ, wpAny_setField->Ŀ, binaryOp->ń, FuncData->Ņ, keywordEach->ņ, wpAny_field->Ň, sysModules->ŋ, intKind->Ŗ, PyData->Ŝ, wpAny_setState_of->ş, bootBuiltins->ť, holding->Ŧ, wpAny_askSetting->ŧ, wpAny_setEntries_of->Ũ, SetTable->Ŭ, tupleKind_room_in1->Ű, swapsWith->Ų, pyNext->Ŷ, codeAny_mono->ŷ, backToKw->Ÿ, wpAny_pyIter_list->Ź, firstArgMember->ź, Scope->Ž, builtinLookup_eq_fast->ž, assign->ſ, sliceBounds->ι, wpAny_passesOwn->ς, wpAny_updateSeq->ω, wpAny_rule->Η, wpAny_pyIter_tuple->Θ, wpAny_tryCatch->Ι, isSubtype_type->Λ, standAt->Υ, wpAny_of_eq->Ψ, swapsWithSole->ύ, swappedStores->ώ, getMethod->ϑ, NameKind->ϒ, seqItems?->ϓ, wpAny_isInstance->ϕ, getItem->Ϝ, IsPart->ϝ, wpAny_typeOf->Ϟ, setsByText->ϟ, letOwnedTupleGo->Ϡ, typeLookup_type->Ϣ, sizeLine_eq->Ϫ, argsOk->ϭ, wpAny_fieldsOf->Ϯ, unsupported->ϯ, tupleKind->ϱ, PassesOwn->ϲ, callerA->ϳ, scanBound->Ϸ, intBits_le_64->ac, wpAny_attempt->af, wpAny_newList->ah, Operator->aG, slot_list_getitem->aH, Keyword->aI, valueAt->aJ, wpAny_pyIter_slot->aK, fits_of_scanBound->aN, lastMarks->aT, Result->aU, noFill_tuple_add->aV, wpAny_letGo->bj, relabel->bG, GenState->bS, isTrue->bT, CmpOp->bU, pyIter->bV, callWith->bW, call_meets->bY, newExc->b5, isSubtype_stop->b7, evalEach->b8, atKey->b9, entryFor->cf, entryFor_alias->cg, methodCallForm->cp, wpAny_standAt->cO, seq_tuple_add->cP, evalPart_none->cQ, wpAny_getItem_list_slice->cR, wpAny_comprehension_free->cS, wpAny_handled->cT, bindC->de, field->di, updateSeq->dj, drawOrder->dn, richCompare_meets_room->dF, concat_meets->dG, seqIndex_neg->dI, call_meetsIn->dM
open PySem.Around renaming under_plainId->Đ, under->be
open PySem.Builtin renaming iter->ū
open PySem.Builtin.Frozenset renaming sizeOf->ck
open PySem.Builtin.Str renaming strSliceIndices->ψ
open PySem.Code renaming isFrame->bF
open PySem.FuncData.mk renaming injEq->bn
open PySem.Heap renaming get?_push_of_some->Ä, get?_push_size->Ï, lt_size->Ñ, get?_update_other->ï, get?_update_self->Ď, SameBut->Ŏ, size_push->ś
open PySem.Heap.SameBut renaming update->ü
open PySem.NameKind renaming free->ĩ, cell->dL
open PySem.Obj renaming data_mapFields->ő, mapSeq->χ, isFreed_of_fields->ϔ, mapFields->ϧ, cls_mapFields->Ϲ, putSet->dP
open PySem.PyData renaming eqv->Ī, depthAll->ļ, canLayAll0->Œ, canLay0->Ū, eqvAll->Α
open PySem.SetTable renaming below->ĵ, grown->ϊ, has->aP, orStandIn->bL, slot->dO
open PySem.SetTable.below renaming go->aL
open PySem.SetTable.probe renaming go->Ω
open PySem.Value renaming notImplemented->bX
open PySem.Value.type renaming inj->ϴ
open PySem.W renaming boot_heap->ų, findIn->Ϭ, boot_drawn->ap, boot_toks->aW, SharedT->bM, mg_of->cq, nsIn->dQ, kitOne->dR
open PySem.pickOrder renaming go->aO
open String renaming ofList->Ţ, singleton->Ζ, length_toList->bH, toList_ofList->bI, length_append->bJ
open UInt32.toNat renaming inj->bh
theorem bAq(a b:Bool):((a&&b)=true)=(a=true/\b=true):=Bool.and_eq_true a b
namespace L2
open PySem PySem.Spec PyProof.Rows
noncomputable abbrev Key:=Sum Int Str
noncomputable def Jh:Key->Ã->Bool
 |.inl k,v=>Value.isInt k v
 |.inr x,v=>Value.isStrOf x v
noncomputable def QY(w:õ):Key->Int
 |.inl k=>hashInt k
 |.inr x=>hashStr w x
theorem Zm:∀{k:Key}{v:Ã},Jh k v=true->(∃i t,k=Sum.inl i/\v=Value.int i t)\/(∃x t,k=Sum.inr x/\v=Value.str x t)
 |.inl i,v,h=>by obtain⟨t,e⟩:=Value.isInt_shape (k:=i) (v:=v) h;exact .inl ⟨i,t,rfl,e⟩
 |.inr x,v,h=>by obtain⟨t,e⟩:=Value.isStrOf_shape (x:=x) (v:=v) h;exact .inr ⟨x,t,rfl,e⟩
theorem Ax(i:Int)(t:Tok):Jh (.inl i) (.int i t)=true:=by simp[Jh,Value.isInt]
theorem UM(x:Str)(t:Tok):Jh (.inr x) (.str x t)=true:=by simp[Jh,Value.isStrOf]
theorem GW(a b:Int):decide ((Sum.inl a:Key)=Sum.inl b)=(a==b):=by
 by_cases e:a=b
 .subst e;simp
 .have h:¬ (Sum.inl a:Key)=Sum.inl b:=fun q=>e<|Sum.inl.inj q;rw[decide_eq_false h];exact(beq_eq_false_iff_ne.mpr e).symm
theorem GY(a b:Str):decide ((Sum.inr a:Key)=Sum.inr b)=decide (a=b):=by
 by_cases e:a=b
 .subst e;simp
 .have h:¬ (Sum.inr a:Key)=Sum.inr b:=fun q=>e<|Sum.inr.inj q;rw[decide_eq_false h,decide_eq_false e]
theorem IN(a:Int)(b:Str):decide ((Sum.inl a:Key)=Sum.inr b)=false:=decide_eq_false (fun q=>nomatch q)
theorem IJ(a:Str)(b:Int):decide ((Sum.inr a:Key)=Sum.inl b)=false:=decide_eq_false (fun q=>nomatch q)
noncomputable def Ze(prog:à)(w:õ):PySem.KeyKind prog w Key where
 is:=Jh
 hash:=QY w
 inj:=fun v a b ha hb=>by
  rcases Zm ha with⟨i,t,rfl,rfl⟩|⟨x,t,rfl,rfl⟩
  .rcases Zm hb with⟨j,u,rfl,e⟩|⟨y,u,rfl,e⟩
   .injection e with e1 _;rw[e1]
   .exact nomatch e
  .rcases Zm hb with⟨j,u,rfl,e⟩|⟨y,u,rfl,e⟩
   .exact nomatch e
   .injection e with e1 _;rw[e1]
 byValue:=fun k v h=>by rcases Zm h with⟨i,t,rfl,rfl⟩|⟨x,t,rfl,rfl⟩<;>rfl
 pyHash:=fun hv h=>by
  rcases Zm hv with⟨i,t,rfl,rfl⟩|⟨x,t,rfl,rfl⟩
  .exact wpAny_pyHash_int h
  .exact wpAny_pyHash_str h
 eqBool:=fun hu hv h=>by
  rcases Zm hu with⟨i,t,rfl,rfl⟩|⟨x,t,rfl,rfl⟩
  .rcases Zm hv with⟨j,u,rfl,rfl⟩|⟨y,u,rfl,rfl⟩
   .rw[GW]at h;exact wpAny_eqBool_int h
   .rw[IN]at h;exact SeqAt.EqAt.int_str i t y u _ _ _ _ h
  .rcases Zm hv with⟨j,u,rfl,rfl⟩|⟨y,u,rfl,rfl⟩
   .rw[IJ]at h;exact SeqAt.EqAt.str_int x t j u _ _ _ _ h
   .rw[GY]at h;exact wpAny_eqBool_str h
 «strs»:=fun k x t v h=>by
  rcases Zm h with⟨i,u,rfl,e⟩|⟨y,u,rfl,e⟩
  .exact nomatch e
  .injection e with e1 _;subst e1;cases v<;>rfl
theorem NG(prog:à)(w:õ)(i:Int)(t:Tok):(Ze prog w).is (.inl i) (.int i t)=true:=Ax i t
theorem ML(prog:à)(w:õ)(x:Str)(t:Tok):(Ze prog w).is (.inr x) (.str x t)=true:=UM x t
inductive V where
 |non|bl (b:Bool)|int (i:Int)|str (x:Str)|byt (b:Array UInt8)|flt (b:UInt64)|ref (a:È)|ty (n:String)
 deriving DecidableEq
def RelV:V->Ã->Prop
 |.non,u=>u=Value.none
 |.bl b,u=>u=Value.bool b
 |.int i,u=>∃t,u=Value.int i t
 |.str x,u=>∃t,u=Value.str x t
 |.byt b,u=>∃t,u=Value.bytes b t
 |.flt b,u=>∃t,u=Value.float b t
 |.ref a,u=>u=Value.ref a
 |.ty n,u=>u=Value.type n
abbrev Vals:List V->List Ã->Prop:=Paired RelV
theorem Vals.length{xs:List V}{us:List Ã}(r:Vals xs us):xs.length=us.length:=Paired.length r
theorem Vals.get:∀{xs:List V}{us:List Ã}{i:Nat}{x:V},Vals xs us->xs[i]?=some x->∃u,us[i]?=some u/\RelV x u
 |_,_,_,_,.nil,e=>by simp at e
 |_,_,0,_,.cons r _,e=>by simp at e;subst e;exact⟨_,rfl,r⟩
 |_,_,i+1,x,.cons _ t,e=>by obtain⟨u,h1,h2⟩:=Vals.get (i:=i) (x:=x) t (by simpa using e);exact⟨u,by simpa using h1,h2⟩
theorem Vals.set{x:V}{u:Ã}(r:RelV x u):∀{xs:List V}{us:List Ã}(i:Nat),Vals xs us->Vals (xs.set i x) (us.set i u)
 |_,_,_,.nil=>.nil
 |_,_,0,.cons _ t=>.cons r t
 |_,_,i+1,.cons q t=>.cons q<|Vals.set r i t
theorem Vals.append:∀{xs ys:List V}{us ws:List Ã},Vals xs us->Vals ys ws->Vals (xs++ys) (us++ws)
 |_,_,_,_,.nil,s=>s
 |_,_,_,_,.cons r t,s=>.cons r<|Vals.append t s
theorem Vals.take:∀{xs:List V}{us:List Ã}(n:Nat),Vals xs us->Vals (xs.take n) (us.take n)
 |_,_,0,_=>.nil
 |_,_,_+1,.nil=>.nil
 |_,_,n+1,.cons r t=>.cons r<|Vals.take n t
theorem Vals.drop:∀{xs:List V}{us:List Ã}(n:Nat),Vals xs us->Vals (xs.drop n) (us.drop n)
 |_,_,0,r=>r
 |_,_,_+1,.nil=>.nil
 |_,_,n+1,.cons _ t=>Vals.drop n t
theorem Vals.none_of:∀{xs:List V}{us:List Ã}{i:Nat},Vals xs us->xs[i]?=none->us[i]?=none:=fun{xs us i} r e=>by have h1:=r.length;have h2:xs.length<=i:=aS.mp e;exact aS.mpr (by omega)
def RelO:Option V->Option Ã->Prop
 |some v,some u=>RelV v u
 |none,none=>True
 |_,_=>False
def KV{κ:Type}:List (κ×V)->List (κ×Ã)->Prop:=Paired fun(p:κ×V) (q:κ×Ã)=>p.1=q.1/\RelV p.2 q.2
noncomputable def kV:Key->V
 |.inl i=>.int i
 |.inr x=>.str x
inductive HO where
 |lst (xs:List V)
 |tup (xs:List V)
 |dK (kvs:List<|Key×V)|dT (kvs:List<|List Key×V)
 |set (S:Int->Bool) (n:Nat)
 |ins (C dx:È) (fs:List<|Str×V)
 |own (x:È)
 |xd (fs:List<|Str×V)
 |met (f x:È)
 |rng (lo hi:Int)
 |frz (o:Obj) (u:HO)
 |tbl (ps:Array Ã)
 |ext (φ:ā->Prop)
noncomputable abbrev Hp:=È->Option HO
noncomputable def upd(H:Hp)(a:È)(o:HO):Hp:=fun b=>if b=a then some o else H b
variable {H:Hp} {a:È} {o:HO}
theorem upd_same:upd H a o a=some o:=by unfold upd;rw[if_pos rfl]
variable {b:È}
theorem upd_ne(h:b≠a):upd H a o b=H b:=by unfold upd;rw[if_neg h]
variable {u:HO}
theorem upd_upd:upd (upd H a o) a u=upd H a u:=by funext b;unfold upd;split<;>rfl
theorem CO(h:H a=some o)(h':H b=some u)(d:o≠u):a≠b:=by intro e;subst e;rw[h]at h';exact d (ú h')
theorem Zd(h:H a=some o)(h':H b=none):a≠b:=by intro e;subst e;rw[h]at h';cases h'
section
variable (P:à) (w:õ)
def ObjOk(H:Hp)(h:ā)(a:È):HO->Prop
 |.lst xs=>xs.length<=Ø/\∃(î:List Ã) (n:Nat),Vals xs î/\h.get? a=some {cls:=.type "list",data:=.seq î.toArray n}
 |.tup xs=>xs.length<=Ø/\∃î:List Ã,Vals xs î/\aa h a î.toArray
 |.dK kvs=>kvs.length<=Ø/\(a==ŋ)=false/\∃vs,KV kvs vs/\h.DictOf (Ze P w) a vs
 |.dT kvs=>kvs.length<=Ø/\(a==ŋ)=false/\∃xs:List<|List Key×È×Ã,
   Paired (fun(p:List Key×V) (q:List Key×È×Ã)=>p.1=q.1/\H q.2.1=some (.tup<|p.1.map kV)/\RelV p.2 q.2.2) kvs xs/\
   ∃o es ep,h.get? a=some o/\o.ExactDict/\o.data=.dict es ep/\es.toList=xs.map (entryOfKey<|ϱ<|Ze P w)/\(xs.map (·.1)).Nodup
 |.set S n=>h.SetOf (Ŗ P w) a S n
 |.ins C dx fs=>H dx=some (.own a)/\fs.length<=1000/\dx≠a/\h.get? a=some (PySem.W.instObj C dx)/\
   ∃mA,h.Ns1 dx mA/\(∀f,RelO (fs.lookup f)<|mA f)/\PySem.Within mA (fs.map (·.1))
 |.own _=>∃o,h.get? a=some o
 |.xd fs=>∃mA,h.Ns1 a mA/\∀f,RelO (fs.lookup f) (mA f)
 |.rng lo hi=>∃t u v,h.get? a=some {cls:=.type "range",data:=.fields #[.int lo t,.int hi u,.int 1 v]}
 |.frz o u=>h.get? a=some o/\ObjOk H h a u
 |.tbl ps=>h.get? a=some {cls:=.none,data:=.fields ps}
 |.met f x=>h.get? a=some (PySem.W.methodObj (.ref f)<|.ref x)
 |.ext φ=>φ h/\(∃o,h.get? a=some o)/\∀h1 h2:ā,φ h1->(∀o,h1.get? a=some o->h2.get? a=some o)->φ h2
def HOk(H:Hp)(h:ā):Prop:=∀a o,H a=some o->ObjOk P w H h a o
end
section
variable {P:à}{w:õ}{H H':Hp}{h h':ā}{a:È}{o:HO}
theorem ObjOk.lt(x:ObjOk P w H h a o):a<h.objs.size:=by
 cases o with
 |lst xs=>obtain⟨_,_,_,_,e⟩:=x;exact Ñ e
 |tup xs=>obtain⟨_,_,_,p⟩:=x;exact p.lt
 |dK kvs=>obtain⟨_,_,_,_,o,_,_,e,_⟩:=x;exact Ñ e
 |dT kvs=>obtain⟨_,_,_,_,o,_,_,e,_⟩:=x;exact Ñ e
 |set S n=>obtain⟨o,_,_,_,e,_⟩:=x;exact Ñ e
 |ins C dx fs=>obtain⟨_,_,_,e,_⟩:=x;exact Ñ e
 |own y=>obtain⟨_,e⟩:=x;exact Ñ e
 |xd fs=>obtain⟨_,⟨_,_,_,e,_⟩,_⟩:=x;exact Ñ e
 |rng lo hi=>obtain⟨_,_,_,e⟩:=x;exact Ñ e
 |frz ob u=>obtain⟨e,_⟩:=x;exact Ñ e
 |tbl ps=>exact Ñ (show h.get? a=some _ from x)
 |met f y=>exact Ñ (show h.get? a=some _ from x)
 |ext φ=>obtain⟨_,⟨_,e⟩,_⟩:=x;exact Ñ e
theorem Paired.mapP{α β:Type}{F G:α->β->Prop}:∀{l₁:List α}{l₂:List β},Paired F l₁ l₂->(∀a b,F a b->G a b)->Paired G l₁ l₂
 |_,_,.nil,_=>.nil
 |_,_,.cons r t,f=>.cons (f _ _ r)<|Paired.mapP t f
theorem ObjOk.stay(x:ObjOk P w H h a o)(k:∀b u,(b=a\/H b=some (.own a))->h.get? b=some u->h'.get? b=some u)
  (ho:∀b,H b=some (.own a)->H' b=some (.own a)) (ht:∀b xs,H b=some (.tup xs)->H' b=some (.tup xs)):ObjOk P w H' h' a o:=by
 induction o with
 |lst xs=>obtain⟨z,î,n,r,e⟩:=x;exact⟨z,î,n,r,k _ _ (.inl rfl) e⟩
 |tup xs=>obtain⟨z,î,r,ob,e,c⟩:=x;exact⟨z,î,r,ob,k _ _ (.inl rfl) e,c⟩
 |dK kvs=>obtain⟨z,y,vs,r,ob,es,ep,e,c⟩:=x;exact⟨z,y,vs,r,ob,es,ep,k _ _ (.inl rfl) e,c⟩
 |dT kvs =>obtain⟨z,y,xs,r,ob,es,ep,e,c⟩:=x;exact⟨z,y,xs,Paired.mapP r fun p q z=>⟨z.1,ht _ _ z.2.1,z.2.2⟩,ob,es,ep,k _ _ (.inl rfl) e,c⟩
 |set S n=>obtain⟨ob,es,ep,t,e,c⟩:=x;exact⟨ob,es,ep,t,k _ _ (.inl rfl) e,c⟩
 |ins C dx fs =>obtain⟨d,z,ne,e,mA,⟨od,es,ep,e2,c⟩,r⟩:=x;exact⟨ho _ d,z,ne,k _ _ (.inl rfl) e,mA,⟨od,es,ep,k _ _ (.inr d) e2,c⟩,r⟩
 |own y=>obtain⟨ob,e⟩:=x;exact⟨ob,k _ _ (.inl rfl) e⟩
 |xd fs=>obtain⟨mA,⟨od,es,ep,e,c⟩,r⟩:=x;exact⟨mA,⟨od,es,ep,k _ _ (.inl rfl) e,c⟩,r⟩
 |rng lo hi=>obtain⟨t,u,v,e⟩:=x;exact⟨t,u,v,k _ _ (.inl rfl) e⟩
 |frz ob u ih=>obtain⟨e,q⟩:=x;exact⟨k _ _ (.inl rfl) e,ih q⟩
 |tbl ps =>have e:h.get? a=some {cls:=.none,data:=.fields ps}:=x;show h'.get? a=some {cls:=.none,data:=.fields ps};exact k a _ (.inl rfl) e
 |met f y =>have e:h.get? a=some (PySem.W.methodObj (.ref f)<|.ref y):=x;show h'.get? a=some (PySem.W.methodObj (.ref f)<|.ref y);exact k a _ (.inl rfl) e
 |ext φ=>obtain⟨p,⟨o,e⟩,st⟩:=x;exact⟨st _ _ p fun o q=>k _ _ (.inl rfl) q,⟨o,k _ _ (.inl rfl) e⟩,st⟩
theorem HOk.lt(x:HOk P w H h)(e:H a=some o):a<h.objs.size:=(x a o e).lt
theorem HOk.fresh(x:HOk P w H h)(e:h.objs.size<=a):H a=none:=by
 cases q:H a with
 |none=>rfl
 |some u=>exact absurd (ã (x.lt q) e)<|Ę _
theorem HOk.kept(x:HOk P w H h)(k:∀b u,h.get? b=some u->h'.get? b=some u):HOk P w H h':=fun a o e =>
 (x a o e).stay (fun b u _ q=>k b u q) (fun _ q=>q) fun _ _ q=>q
theorem HOk.laid(x:HOk P w H h)(k:∀b u,h.get? b=some u->h'.get? b=some u)(hp:h.objs.size<=a)(new:ObjOk P w (upd H a o) h' a o):HOk P w (upd H a o) h':=fun b u e=>by
 have hn:=x.fresh hp;by_cases hb:b=a
 .subst hb;rw[upd_same]at e;cases e;exact new
 .rw[upd_ne hb]at e;exact(x b u e).stay (fun c v _ q=>k c v q) (fun c q=>by rw[upd_ne<|Zd q hn];exact q) fun c xs q=>by rw[upd_ne<|Zd q hn];exact q
end
def Rd(H:Hp)(a:È)(u:HO):Prop:=H a=some u\/∃o,H a=some (.frz o u)
theorem Rd.of(h:H a=some u):Rd H a u:=.inl h
variable {h:ā}
theorem Rd.ok{P:à}{w:õ}(r:Rd H a u)(x:HOk P w H h):ObjOk P w H h a u:=by
 rcases r with r|⟨o,r⟩
 .exact x a u r
 .obtain⟨_,q⟩:=x a _ r;exact q
def Mut:Option HO->Prop
 |some (.lst _)=>True
 |some (.dK _)=>True
 |some (.dT _)=>True
 |some (.set _ _)=>True
 |some (.ins _ _ _)=>True
 |some (.ext _)=>True
 |_=>False
section
variable {P:à}{w:õ}{H:Hp}{h h':ā}{x e:È}{o':HO}
theorem HOk.write(ok:HOk P w H h)(mu:Mut<|H x)(he:e=x\/H e=some (.own x))(k:∀b u,b≠e->h.get? b=some u->h'.get? b=some u)(heo:∃u,h'.get? e=some u)
  (new:ObjOk P w (upd H x o') h' x o'):HOk P w (upd H x o') h':=fun b u q=>by
 have nown:∀c y,H c=some (.own y)->c≠x:=fun c y r z=>by subst z;rw[r]at mu;exact mu
 have ntup:∀c xs,H c=some (.tup xs)->c≠x:=fun c xs r z=>by subst z;rw[r]at mu;exact mu
 by_cases hb:b=x
 .subst hb;rw[upd_same]at q;cases q;exact new
 .rw[upd_ne hb]at q;by_cases hbe:b=e
  .have q':H b=some (.own x):=by
    rcases he with z|z
    .exact absurd (hbe.trans z) hb
    .rw[hbe];exact z
   rw[q]at q';cases q';obtain⟨v,hv⟩:=heo;exact⟨v,by rw[hbe];exact hv⟩
  .refine(ok b u q).stay (fun c v hc r=>k c v ?_ r) (fun c r=>by rw[upd_ne<|nown c b r];exact r) fun c xs r=>by rw[upd_ne<|ntup c xs r];exact r
   rcases hc with rfl|hc
   .exact hbe
   .rintro rfl;rcases he with z|z
    .exact nown c b hc z
    .rw[hc]at z;cases z;exact hb rfl
end
structure Un(fs ex:List È)(H H':Hp)(h h':ā):Prop where
 keep:∀b o,h.get? b=some o->H b=none->b∉fs->b∉ex->h'.get? b=some o
 slot:∀b o,h.get? b=some o->H b=none->b∈fs->b∉ex->∃sl,h'.get? b=some {o with slots:=sl}
 free:∀b o,h.get? b=some o->H b=none->b∉ex->H' b=none
 there:∀b o,h.get? b=some o->b∉ex->∃o',h'.get? b=some o'
 tups:∀b xs,H b=some (.tup xs)->H' b=some (.tup xs)
 frzs:∀b o u,H b=some (.frz o u)->H' b=some (.frz o u)
 tbls:∀b ps,H b=some (.tbl ps)->∃Ϧ,H' b=some (.tbl<|ps++Ϧ)
section
variable {fs dr ex ex':List È}{H H1 H2:Hp}{h h1 h2 h':ā}{a x e:È}{o:HO}
theorem Un.any(u:Un fs ex H H1 h h1){ob:Obj}(q:h.get? b=some ob)(n:H b=none)(hx:b∉ex):∃sl,h1.get? b=some {ob with slots:=sl}:=by
 by_cases hb:b∈fs
 .exact u.slot b ob q n hb hx
 .exact⟨ob.slots,u.keep b ob q n hb hx⟩
theorem Un.trans(a:Un fs ex H H1 h h1)(b:Un fs ex H1 H2 h1 h2):Un fs ex H H2 h h2 where
 keep:=fun c ob q n hc hx=>b.keep c ob (a.keep c ob q n hc hx) (a.free c ob q n hx) hc hx
 slot:=fun c ob q n hc hx=>by obtain⟨sl,e1⟩:=a.slot c ob q n hc hx;obtain⟨sl',e2⟩:=b.slot c _ e1 (a.free c ob q n hx) hc hx;exact⟨sl',e2⟩
 free:=fun c ob q n hx=>by obtain⟨o',e1⟩:=a.there c ob q hx;exact b.free c o' e1 (a.free c ob q n hx) hx
 there:=fun c ob q hx=>by obtain⟨o',e1⟩:=a.there c ob q hx;exact b.there c o' e1 hx
 tups:=fun c xs q=>b.tups c xs<|a.tups c xs q
 frzs:=fun c ob xs q=>b.frzs c ob xs<|a.frzs c ob xs q
 tbls:=fun c ps q=>by obtain⟨m1,e1⟩:=a.tbls c ps q;obtain⟨m2,e2⟩:=b.tbls c _ e1;exact⟨m1++m2,by rw[e2,cM]⟩
theorem Un.kept(k:∀b u,h.get? b=some u->h'.get? b=some u):Un fs ex H H h h' :=
 ⟨fun b ob q _ _ _=>k b ob q,fun b ob q _ _ _=>⟨ob.slots,k b ob q⟩,fun _ _ _ n _=>n,fun b ob q _=>⟨ob,k b ob q⟩,fun _ _ q=>q,fun _ _ _ q=>q,fun _ ps q=>⟨#[],by rw[q];simp⟩⟩
theorem Un.refl:Un fs ex H H h h:=Un.kept fun _ _ q=>q
theorem Un.laid(k:∀b u,h.get? b=some u->h'.get? b=some u)(hp:h.objs.size<=a)(hn:H a=none):Un fs ex H (upd H a o) h h' where
 keep:=fun b u q _ _ _=>k b u q
 slot:=fun b u q _ _ _=>⟨u.slots,k b u q⟩
 free:=fun b u q n _=>by rw[upd_ne<|Þ<|ã (Ñ q) hp];exact n
 there:=fun b u q _=>⟨u,k b u q⟩
 tups:=fun b xs q=>by rw[upd_ne<|Zd q hn];exact q
 frzs:=fun b u xs q=>by rw[upd_ne<|Zd q hn];exact q
 tbls:=fun b ps q=>⟨#[],by rw[upd_ne<|Zd q hn,q];simp⟩
theorem Un.write(mu:Mut<|H x)(he:e=x\/H e=some (.own x))(k:∀b u,b≠e->h.get? b=some u->h'.get? b=some u)(heo:∃u,h'.get? e=some u):Un fs ex H (upd H x o) h h':=by
 have hx:∀b,H b=none->b≠x:=fun b n z=>by subst z;rw[n]at mu;exact mu
 have hb:∀b,H b=none->b≠e:=fun b n z=>by
  subst z;rcases he with r|r
  .exact hx b n r
  .rw[n]at r;cases r
 have hm:∀b u,H b=some u->¬ Mut (some u)->b≠x:=fun b u q nm z=>by subst z;rw[q]at mu;exact nm mu
 refine⟨fun b u q n _ _=>k b u (hb b n) q,fun b u q n _ _=>⟨u.slots,k b u (hb b n) q⟩,fun b u q n _=>by rw[upd_ne<|hx b n];exact n,fun b u q _=>?_,
   fun b xs q=>by rw[upd_ne<|hm b _ q fun z=>z];exact q,fun b u xs q=>by rw[upd_ne<|hm b _ q fun z=>z];exact q,fun b ps q=>⟨#[],by rw[upd_ne<|hm b _ q fun z=>z,q];simp⟩⟩
 by_cases hbe:b=e
 .subst hbe;exact heo
 .exact⟨u,k b u hbe q⟩
theorem Un.mono(u:Un fs ex H H1 h h1)(hs:∀b∈fs,b∈dr)(hx:∀b∈ex,b∈ex'):Un dr ex' H H1 h h1 :=
 ⟨fun b ob q n hb he=>u.keep b ob q n (fun z=>hb<|hs b z) fun z=>he<|hx b z,fun _ _ q n _ he=>u.any q n fun z=>he<|hx _ z,fun b ob q n he=>u.free b ob q n fun z=>he<|hx b z,fun b ob q he=>u.there b ob q fun z=>he<|hx b z,u.tups,u.frzs,u.tbls⟩
end
noncomputable def trk(h:ā)(H:Hp):List È:=(List.range h.objs.size).filter fun a=>(H a).isSome
noncomputable def Mc(h:ā)(H:Hp):ā:=PySem.W.hideAll h<|trk h H
theorem AH(h:ā)(H:Hp):(Mc h H).objs.size=h.objs.size:=PySem.W.hideAll_size _ _
theorem Bg{o:Obj}(e:h.get? b=some o)(n:H b=none):(Mc h H).get? b=some o :=
 PySem.W.hideAll_get _ e fun hm=>by have q:(H b).isSome=true:=(ē.mp hm).2;rw[n]at q;simp at q
theorem EM{o:Obj}(e:(Mc h H).get? b=some o):h.get? b=some o/\H b=none:=by
 have e':h.get? b=some o:=PySem.W.of_hideAll (trk h H) e;refine⟨e',?_⟩;cases q:H b with
 |none=>rfl
 |some x =>have hm:b∈trk h H:=ē.mpr ⟨ŭ.mpr<|Ñ e',by simp[q]⟩;have z:(Mc h H).get? b=none:=PySem.W.hideAll_none (trk h H) hm;rw[z]at e;cases e
noncomputable def FM(g h:ā)(L:È):List<|È×Obj:=(List.range h.objs.size).filterMap fun a=>if a=L\/(g.get? a).isSome=true then none else(h.get? a).map fun o=>(a,o)
noncomputable def rest(g h:ā)(L d:È):List<|È×Obj:=(FM g h L).filter fun p=>decide (p.1≠d)
structure Mod(K:Frag)(mg:Str->Option Ã)(base:ā):Prop where
 kin:K.In base
 glob:base.Ns Ĉ mg
 blt:∃mb,base.Ns builtinsNs mb/\∀x:Str,x≠"__name__"->mb x=ť x
 nolimit:base.NoLimit
structure Cx where
 prog:à
 w:õ
 K:Frag
 mg:Str->Option Ã
 base:ā
 A:Ă
 N:List Str
 s₀:Å
 H₀:Hp
 env:Env
 outer:List Env
 stack:List Env
 ex:List È
 fn:Str->Bool
 calm:Bool
 pn:List<|È×Obj
 xe:Ã->Å->Prop
noncomputable def frs(l:List Env):List È:=l.filterMap (·.frame)
noncomputable abbrev Cx.fs(X:Cx):List È:=frs X.outer
def Vis(sc:Ž)(x:Str):Prop:=sc.names.lookup x=some .local\/sc.names.lookup x=some .cell\/sc.names.lookup x=some .free
def Loc(sc:Ž)(x:Str):Prop:=sc.names.lookup x=some .local\/sc.names.lookup x=some .cell
def RN(env:Env)(h:ā)(m:Str->Option Ã)(x:Str)(u:Ã):Prop :=
 (env.kindOf x=some .local/\m x=some u)\/((env.kindOf x=some .cell\/env.kindOf x=some .free)/\∃c,env.cells.lookup x=some c/\h.IsCell c (some u))
structure Cx.Ok(X:Cx):Prop where
 mod:Mod X.K X.mg X.base
 kind:X.env.scope.kind=.function
 glob:X.env.globals=Ĉ
 blt:X.env.builtins=builtinsNs
 above:X.s₀.heap.objs.size<=X.env.locals
 inj:∀x y c,X.env.cells.lookup x=some c->X.env.cells.lookup y=some c->x=y
 has:∀x,(X.env.kindOf x=some .cell\/X.env.kindOf x=some .free)->∃c,X.env.cells.lookup x=some c
 cab:∀x c,X.fn x=true->X.env.cells.lookup x=some c->X.s₀.heap.objs.size<=c
 hd:X.calm=true->X.A.handled=none
 frames:X.A.frames=some X.stack
 stk:X.stack=X.outer\/(X.stack=X.env::X.outer/\X.env.frame=some X.env.locals)
 exf:∀b∈X.ex,b≠X.env.locals/\∀x c,X.env.cells.lookup x=some c->c≠b
 bs:∀b o,X.base.get? b=some o->X.s₀.heap.get? b=some o/\X.H₀ b=none
 bsz:X.base.objs.size<=X.s₀.heap.objs.size
 noex:∀b o,X.base.get? b=some o->b∉X.ex
 exfs:∀b∈X.ex,b∉X.fs
 funs:X.s₀.heap.FunFrames X.base X.outer
 frf:∀b∈X.fs,X.H₀ b=none
structure Inv(X:Cx)(Á:List<|È×Obj)(σ:List<|Option V)(H:Hp)(s:Å):Prop where
 ok:X.Ok
 os:s.os=X.s₀.os
 bare:Ρ s.gens
 base:Un X.fs X.ex X.H₀ H X.s₀.heap s.heap
 loc:∃m,s.heap.Ns X.env.locals m/\∀(i:Nat) (x:Str) (v:V),X.N[i]?=some x->σ[i]?=some (some v)->Vis X.env.scope x->∃u,RelV v u/\RN X.env s.heap m x u
 cell:∀x c,X.env.cells.lookup x=some c->∃v,s.heap.IsCell c v
 free:H X.env.locals=none
 freeC:∀x c,X.env.cells.lookup x=some c->H c=none
 pin:∀p∈X.pn++Á,s.heap.get? p.1=some p.2/\H p.1=none/\p.1≠X.env.locals/\p.1∉X.fs/\∀v,p.2.data≠.cell v
 hok:HOk X.prog X.w H s.heap
 len:σ.length=X.N.length
section
variable {X:Cx}{Á:List (È×Obj)}{σ:List (Option V)}{H H':Hp}{s:Å}{h':ā}
theorem Cx.Ok.nofr(ok:X.Ok){b:È}{o:Obj}(e:X.base.get? b=some o):b∉X.fs:=fun hb=>by have:=(ok.funs.mem hb).1;rw[e]at this;cases this
theorem Inv.bs(I:Inv X Á σ H s):∀b o,X.base.get? b=some o->s.heap.get? b=some o/\H b=none:=fun b o e =>
 ⟨I.base.keep b o (I.ok.bs b o e).1 (I.ok.bs b o e).2 (I.ok.nofr e)<|I.ok.noex b o e,I.base.free b o (I.ok.bs b o e).1 (I.ok.bs b o e).2<|I.ok.noex b o e⟩
theorem Inv.bk(I:Inv X Á σ H s):∀b o,X.base.get? b=some o->s.heap.get? b=some o:=fun b o e=>(I.bs b o e).1
theorem Inv.mod(I:Inv X Á σ H s):Mod X.K X.mg X.base:=I.ok.mod
theorem Inv.kIn(I:Inv X Á σ H s):X.K.In s.heap:=I.ok.mod.kin.keeps I.bk
theorem Inv.nolimit(I:Inv X Á σ H s):s.heap.NoLimit:=I.ok.mod.nolimit.keeps I.bk
theorem Inv.fr(I:Inv X Á σ H s):∃m,Fr X.base X.env.locals s.heap m :=
 let ⟨m,hn,_⟩:=I.loc
 ⟨m,hn,I.bk,Ó I.ok.bsz I.ok.above⟩
theorem Inv.lt(I:Inv X Á σ H s):X.env.locals<s.heap.objs.size:=let ⟨_,hn,_⟩:=I.loc;hn.lt
theorem Inv.sz(I:Inv X Á σ H s):X.s₀.heap.objs.size<=s.heap.objs.size:=Ó I.ok.above (θ I.lt)
variable {a:È}
theorem Inv.nofs(I:Inv X Á σ H s)(h:s.heap.objs.size<=a):a∉X.fs:=fun hb=>by obtain⟨_,o,ho,_⟩:=I.ok.funs.mem hb;exact absurd (ã (Ñ ho)<|Ó I.sz h) (Ę _)
theorem Inv.cne(I:Inv X Á σ H s):∀x c,X.env.cells.lookup x=some c->c≠X.env.locals:=fun x c e z=>by obtain⟨v,o,ho,hd⟩:=I.cell x c e;obtain⟨m,⟨o',es,ep,ak,hd',_⟩,_⟩:=I.loc;rw[z,ak]at ho;cases ho;rw[hd']at hd;cases hd
theorem Inv.funs(I:Inv X Á σ H s):s.heap.FunFrames X.base X.outer:=by
 have all:∀(l:List Env),(∀b∈frs l,b∈X.fs)->X.s₀.heap.FunFrames X.base l->s.heap.FunFrames X.base l:=by
  intro l;induction l with
  |nil=>intro _ _;trivial
  |cons env r ih =>intro hs hl;obtain⟨hk,⟨L,o,hf,hn,ho,hd⟩,hr⟩:=hl;have hL:L∈X.fs:=hs L (by unfold frs;rw[Ć,hf];exact å);obtain⟨sl,e⟩:=I.base.slot L o ho (I.ok.frf L hL) hL fun z=>I.ok.exfs L z hL;exact⟨hk,⟨L,_,hf,hn,e,hd⟩,ih (fun b hb=>hs b<|by unfold frs;rw[Ć,hf];exact Ô _ hb) hr⟩
 exact all X.outer (fun _ hb=>hb) I.ok.funs
theorem Inv.stack(I:Inv X Á σ H s):s.heap.FunFrames X.base X.stack:=by
 rcases I.ok.stk with e|⟨e,hf⟩
 .rw[e];exact I.funs
 .rw[e];obtain⟨m,hn,_⟩:=I.loc;refine .cons (by rw[I.ok.kind];decide) hf hn ?_ I.funs;exact Heap.get?_none_of_le<|Ó I.ok.bsz I.ok.above
theorem Inv.stkSub(I:Inv X Á σ H s):∀b∈frs X.stack,b∈X.env.locals::X.fs:=fun b hb=>by
 rcases I.ok.stk with e|⟨e,hf⟩
 .rw[e]at hb;exact Ô _ hb
 .rw[e]at hb;unfold frs at hb;rw[Ć,hf]at hb;exact hb
theorem Inv.stkFree(I:Inv X Á σ H s):∀b∈frs X.stack,H b=none:=fun b hb=>by
 rcases Ç.mp (I.stkSub b hb)with e|hb
 .rw[e];exact I.free
 .obtain⟨_,o,ho,_⟩:=I.ok.funs.mem hb;exact I.base.free b o ho (I.ok.frf b hb) fun z=>I.ok.exfs b z hb
variable {g':Array bS} {t':Nat} {d':Drawn} {ch:List È}
theorem Inv.step(I:Inv X Á σ H s)
  (hch:∀b∈ch,(b∈X.ex\/X.s₀.heap.objs.size<=b)/\b≠X.env.locals/\(∀x c,X.env.cells.lookup x=some c->c≠b)/\∀p∈X.pn++Á,p.1≠b)
  (keep:∀b o,b≠X.env.locals->b∉X.fs->b∉ch->s.heap.get? b=some o->H b=none->h'.get? b=some o)
  (slot:∀b o,b≠X.env.locals->b∈X.fs->b∉ch->s.heap.get? b=some o->H b=none->∃sl,h'.get? b=some {o with slots:=sl}) (free:∀b o,b∉ch->s.heap.get? b=some o->H b=none->H' b=none)
  (there:∀b o,b∉ch->s.heap.get? b=some o->∃o',h'.get? b=some o')
  (tups:∀b xs,H b=some (.tup xs)->H' b=some (.tup xs)) (frzs:∀b o u,H b=some (.frz o u)->H' b=some (.frz o u)) (tbls:∀b ps,H b=some (.tbl ps)->∃Ϧ,H' b=some (.tbl<|ps++Ϧ))
  (ns:∀m,s.heap.Ns X.env.locals m->h'.Ns X.env.locals m) (hok:HOk X.prog X.w H' h') (hg:Ρ g') :
  Inv X Á σ H' {s with heap:=h',gens:=g',drawn:=d',toks:=t'}:=by
 have neL:∀b o,X.s₀.heap.get? b=some o->b≠X.env.locals:=fun b o e=>Þ<|ã (Ñ e) I.ok.above;have neC:∀b o,X.s₀.heap.get? b=some o->b∉X.ex->b∉ch:=fun b o e hx hb=>by
  rcases (hch b hb).1 with z|z
  .exact hx z
  .exact absurd (ã (Ñ e) z)<|Ę _
 have cellK:∀x c,X.env.cells.lookup x=some c->∀v,s.heap.IsCell c v->h'.IsCell c v:=fun x c e v ⟨o,ho,hd⟩=>by
  have nch:c∉ch:=fun z=>(hch c z).2.2.1 x c e rfl;by_cases hc:c∈X.fs
  .obtain⟨sl,q⟩:=slot c o (I.cne x c e) hc nch ho<|I.freeC x c e;exact⟨_,q,hd⟩
  .exact⟨o,keep c o (I.cne x c e) hc nch ho<|I.freeC x c e,hd⟩
 refine⟨I.ok,I.os,hg,⟨fun b o e n hb hx=>?_,fun b o e n hb hx=>?_,fun b o e n hx=>?_,fun b o e hx=>?_,fun b xs e=>tups b xs<|I.base.tups b xs e,fun b o xs e=>frzs b o xs<|I.base.frzs b o xs e,fun b ps e=>?_⟩,?_,fun x c e=>?_,?_,fun x c e=>?_,fun p hp=>?_,hok,I.len⟩
 .exact keep b o (neL b o e) hb (neC b o e hx) (I.base.keep b o e n hb hx)<|I.base.free b o e n hx
 .obtain⟨sl,e1⟩:=I.base.slot b o e n hb hx;obtain⟨sl',e2⟩:=slot b _ (neL b o e) hb (neC b o e hx) e1<|I.base.free b o e n hx;exact⟨sl',e2⟩
 .obtain⟨o',e1⟩:=I.base.there b o e hx;exact free b o' (neC b o e hx) e1<|I.base.free b o e n hx
 .obtain⟨o',e1⟩:=I.base.there b o e hx;exact there b o' (neC b o e hx) e1
 .obtain⟨m1,e1⟩:=I.base.tbls b ps e;obtain⟨m2,e2⟩:=tbls b _ e1;exact⟨m1++m2,by rw[e2,cM]⟩
 .obtain⟨m,hn,hl⟩:=I.loc;refine⟨m,ns m hn,fun i x v e1 e2 e3=>?_⟩;obtain⟨u,r,l⟩:=hl i x v e1 e2 e3;refine⟨u,r,?_⟩;rcases l with l|⟨k,c,e,z⟩
  .exact .inl l
  .exact .inr ⟨k,c,e,cellK x c e _ z⟩
 .obtain⟨v,z⟩:=I.cell x c e;exact⟨v,cellK x c e v z⟩
 .obtain⟨m,⟨o,_,_,ho,_⟩,_⟩:=I.loc;exact free _ o (fun z=>(hch _ z).2.1 rfl) ho I.free
 .obtain⟨v,o,ho,hd⟩:=I.cell x c e;exact free c o (fun z=>(hch c z).2.2.1 x c e rfl) ho<|I.freeC x c e
 .obtain⟨e,n,ne,nf,d⟩:=I.pin p hp;have nch:p.1∉ch:=fun z=>(hch p.1 z).2.2.2 p hp rfl;exact⟨keep p.1 p.2 ne nf nch e n,free p.1 p.2 nch e n,ne,nf,d⟩
theorem Inv.un(I:Inv X Á σ H s)(u:Un X.fs [] H H' s.heap h')(hok:HOk X.prog X.w H' h'):Inv X Á σ H' {s with heap:=h',toks:=t'}:=by
 obtain⟨m,⟨o,es,ep,ho,r⟩,_⟩:=id I.loc;obtain⟨sl,hL⟩:=u.any ho I.free (by simp);exact I.step (g':=s.gens) (d':=s.drawn) (ch:=[]) (fun _ z=>nomatch z) (fun b o _ hb _ e n=>u.keep b o e n hb<|by simp) (fun b o _ hb _ e n=>u.slot b o e n hb<|by simp) (fun b o _ e n=>u.free b o e n<|by simp) (fun b o _ e=>u.there b o e<|by simp) u.tups u.frzs u.tbls (fun m' hm=>by
   obtain⟨o',es',cV,ak,r'⟩:=hm
   rw[ho]at ak;cases ak
   exact⟨_,es',cV,hL,r'⟩) hok I.bare
theorem Inv.call(I:Inv X Á σ H s)(u:Un (frs X.stack) ch H H' s.heap h')(hok:HOk X.prog X.w H' h')(hg:Ρ g')
  (hch:∀b∈ch,(b∈X.ex\/X.s₀.heap.objs.size<=b)/\b≠X.env.locals/\(∀x c,X.env.cells.lookup x=some c->c≠b)/\∀p∈X.pn++Á,p.1≠b) :
  Inv X Á σ H' {s with heap:=h',gens:=g',drawn:=d',toks:=t'}:=by
 obtain⟨m,⟨o,es,ep,ho,r⟩,_⟩:=id I.loc;obtain⟨sl,hL⟩:=u.any ho I.free fun z=>(hch _ z).2.1 rfl;exact I.step (ch:=ch) hch (fun b o hL hb hc e n=>u.keep b o e n (fun z=>(Ç.mp<|I.stkSub b z).elim hL hb) hc) (fun b o _ _ hc e n=>u.any e n hc) (fun b o hc e n=>u.free b o e n hc) (fun b o hc e=>u.there b o e hc) u.tups u.frzs u.tbls (fun m' hm=>by
   obtain⟨o',es',cV,ak,r'⟩:=hm
   rw[ho]at ak;cases ak
   exact⟨_,es',cV,hL,r'⟩) hok hg
theorem Inv.turned{it:È}(I:Inv X Á σ H s)(k:∀b o,b≠it->s.heap.get? b=some o->h'.get? b=some o)(hn:H it=none)(hL:it≠X.env.locals)
  (h1:it∈X.ex\/X.s₀.heap.objs.size<=it) (h2:∀x c,X.env.cells.lookup x=some c->c≠it) (h3:∀p∈X.pn++Á,p.1≠it):Inv X Á σ H {s with heap:=h',toks:=t'}:=by
 have nit:∀b u,H b=some u->b≠it:=fun b u e z=>by rw[z,hn]at e;cases e
 refine I.step (g':=s.gens) (d':=s.drawn) (ch:=[it]) (fun b hb=>?_) (fun b o _ _ hc e _=>k b o (fun z=>hc<|by simp[z]) e) (fun b o _ _ hc e _=>⟨o.slots,k b o (fun z=>hc<|by simp[z]) e⟩) (fun _ _ _ _ n=>n)
  (fun b o hc e=>⟨o,k b o (fun z=>hc<|by simp[z]) e⟩) (fun _ _ e=>e) (fun _ _ _ e=>e) (fun b ps e=>⟨#[],by rw[e];simp⟩) (fun m hm=>?_) (fun b u e=>?_) I.bare
 .have e:b=it:=by simpa using hb
  subst e;exact⟨h1,hL,h2,h3⟩
 .obtain⟨o,es,ep,ho,r⟩:=hm;exact⟨o,es,ep,k _ o (Ne.symm hL) ho,r⟩
 .refine(I.hok b u e).stay (fun c v hc q=>k c v ?_ q) (fun _ q=>q) fun _ _ q=>q;rcases hc with z|z
  .rw[z];exact nit b u e
  .exact nit c _ z
theorem Inv.tok(I:Inv X Á σ H s)(t:Nat):Inv X Á σ H {s with toks:=t}:=I.un (h':=s.heap) (t':=t) Un.refl I.hok
theorem Inv.kept(I:Inv X Á σ H s)(k:∀b u,s.heap.get? b=some u->h'.get? b=some u):Inv X Á σ H {s with heap:=h',toks:=t'}:=I.un (Un.kept k) (I.hok.kept k)
variable {o:HO}
theorem Inv.laid(I:Inv X Á σ H s)(k:∀b u,s.heap.get? b=some u->h'.get? b=some u)(hp:s.heap.objs.size<=a)(new:ObjOk X.prog X.w (upd H a o) h' a o) :
  Inv X Á σ (upd H a o) {s with heap:=h',toks:=t'}:=I.un (Un.laid k hp<|I.hok.fresh hp)<|I.hok.laid k hp new
theorem Inv.write{x e:È}(I:Inv X Á σ H s)(mu:Mut<|H x)(he:e=x\/H e=some (.own x))(k:∀b u,b≠e->s.heap.get? b=some u->h'.get? b=some u)(heo:∃u,h'.get? e=some u)
  (new:ObjOk X.prog X.w (upd H x o) h' x o):Inv X Á σ (upd H x o) {s with heap:=h',toks:=t'}:=I.un (Un.write mu he k heo)<|I.hok.write mu he k heo new
theorem Inv.pins_of{pins':List (È×Obj)}(I:Inv X Á σ H s)(h:∀p∈pins',s.heap.get? p.1=some p.2/\H p.1=none/\p.1≠X.env.locals/\p.1∉X.fs/\∀v,p.2.data≠.cell v):Inv X pins' σ H s :=
 ⟨I.ok,I.os,I.bare,I.base,I.loc,I.cell,I.free,I.freeC,fun p hp=>(é.mp hp).elim (fun z=>I.pin p<|â _ z)<|h p,I.hok,I.len⟩
variable {i:Nat} {x:Str}
theorem NH{N:List Str}(hN:N.Nodup){j:Nat}(a:N[i]?=some x)(b:N[j]?=some x):i=j:=by obtain⟨h1,e1⟩:=Í.mp a;obtain⟨h2,e2⟩:=Í.mp b;exact(List.getElem_inj hN).mp (e1.trans e2.symm)
variable {M:Model} {A:Ă} {u:Ã} {Q:Unit->Å->Prop}
theorem Kq{E:Ã->Å->Prop}{v:V}(I:Inv X Á σ H s)(hN:X.N.Nodup)(hi:X.N[i]?=some x)(hx:Loc X.env.scope x)(r:RelV v u)
  (h:∀s',Inv X Á (σ.set i<|some v) H s'->(∃a,Ŏ a s.heap s'.heap/\(a=X.env.locals\/X.env.cells.lookup x=some a))->Q () s') (hf:X.fn x=true\/X.env.scope.names.lookup x=some .local:=by first|exact .inl rfl|exact .inr rfl|assumption):wpAny M A (storeName X.env x u) Q E s:=by
 obtain⟨m,hn,hl⟩:=id I.loc;have hcls:(X.env.scope.kind == .class||(X.env.scope.kind == .module&&X.env.locals != X.env.globals))=false:=by rw[I.ok.kind];rfl
 have hiσ:i<σ.length:=by rw[I.len];exact(Í.mp hi).1
 have cne:=I.cne;have cG:∀{a:È}{h':ā},(∃o,s.heap.get? a=some o/\H a=none)->Ŏ a s.heap h'->HOk X.prog X.w H h':=fun{a h'} ha hs b ob e=>by
  obtain⟨_,_,hfree⟩:=ha;refine(I.hok b ob e).stay (fun c w' hc q=>(hs.2 c ?_).trans q) (fun _ q=>q) fun _ _ q=>q;rintro rfl;rcases hc with rfl|hc
  .rw[hfree]at e;cases e
  .rw[hfree]at hc;cases hc
 rcases hx with hk|hk
 .refine wpAny_storeName_local hk hn (fun h' hn' hs=>?_) hcls;obtain⟨oL,_,_,hoL,_⟩:=id hn;refine h _ ⟨I.ok,I.os,I.bare,⟨fun b o e n hb hx=>?_,fun b o e n hb hx=>?_,I.base.free,fun b o e hx=>?_,I.base.tups,I.base.frzs,I.base.tbls⟩,⟨_,hn',fun j y v' e1 e2 e3=>?_⟩,fun y c e=>?_,I.free,I.freeC,fun p hp=>?_,cG ⟨oL,hoL,I.free⟩ hs,by simpa using I.len⟩ ⟨_,hs,.inl rfl⟩
  .exact(hs.2 b<|Þ<|ã (Ñ e) I.ok.above).trans<|I.base.keep b o e n hb hx
  .obtain⟨sl,e1⟩:=I.base.slot b o e n hb hx;exact⟨sl,(hs.2 b<|Þ<|ã (Ñ e) I.ok.above).trans e1⟩
  .obtain⟨o',e1⟩:=I.base.there b o e hx;exact⟨o',(hs.2 b<|Þ<|ã (Ñ e) I.ok.above).trans e1⟩
  .by_cases hj:j=i
   .subst hj;rw[hi]at e1;cases e1;rw[Τ hiσ]at e2;cases e2;exact⟨u,r,.inl ⟨hk,by simp⟩⟩
   .rw[Ż<|Ne.symm hj]at e2;obtain⟨u',r',q⟩:=hl j y v' e1 e2 e3;refine⟨u',r',?_⟩;rcases q with⟨k,e⟩|⟨k,c,e,z⟩
    .refine .inl ⟨k,?_⟩;have:y≠x:=fun e=>hj<|NH hN e1<|e▸hi;simp[this,e]
    .exact .inr ⟨k,c,e,z.sameBut hs<|cne y c e⟩
  .obtain⟨w',z⟩:=I.cell y c e;exact⟨w',z.sameBut hs<|cne y c e⟩
  .obtain⟨e,n,ne,nf,d⟩:=I.pin p hp;exact⟨(hs.2 p.1 ne).trans e,n,ne,nf,d⟩
 .have hfn:X.fn x=true:=by
   rcases hf with z|z
   .exact z
   .rw[z]at hk;cases hk
  obtain⟨c,hc⟩:=I.ok.has x<|.inl hk;obtain⟨w',z⟩:=I.cell x c hc;refine wpAny_storeName_cell I.ok.kind hk hc z fun h' hc' hs=>?_;obtain⟨oc,hoc,hocd⟩:=id z;refine h {s with heap:=h'} ⟨I.ok,I.os,I.bare,⟨fun b o e n hb hx=>?_,fun b o e n hb hx=>?_,I.base.free,fun b o e hx=>?_,I.base.tups,I.base.frzs,I.base.tbls⟩,⟨m,hn.sameBut hs<|Ne.symm<|cne x c hc,fun j y v' e1 e2 e3=>?_⟩,fun y c' e=>?_,I.free,I.freeC,fun p hp=>?_,cG ⟨oc,hoc,I.freeC x c hc⟩ hs,by simpa using I.len⟩ ⟨c,hs,.inr hc⟩
  .exact(hs.2 b<|Þ<|ã (Ñ e)<|I.ok.cab x c hfn hc).trans<|I.base.keep b o e n hb hx
  .obtain⟨sl,e1⟩:=I.base.slot b o e n hb hx;exact⟨sl,(hs.2 b<|Þ<|ã (Ñ e)<|I.ok.cab x c hfn hc).trans e1⟩
  .obtain⟨o',e1⟩:=I.base.there b o e hx;exact⟨o',(hs.2 b<|Þ<|ã (Ñ e)<|I.ok.cab x c hfn hc).trans e1⟩
  .by_cases hj:j=i
   .subst hj;rw[hi]at e1;cases e1;rw[Τ hiσ]at e2;cases e2;exact⟨u,r,.inr ⟨.inl hk,c,hc,hc'⟩⟩
   .rw[Ż<|Ne.symm hj]at e2;obtain⟨u',r',q⟩:=hl j y v' e1 e2 e3;refine⟨u',r',?_⟩;rcases q with q|⟨k,c',e,z'⟩
    .exact .inl q
    .refine .inr ⟨k,c',e,z'.sameBut hs ?_⟩;rintro rfl;exact hj<|NH hN e1<|I.ok.inj _ _ _ e hc▸hi
  .by_cases hcc:c'=c
   .subst hcc;exact⟨_,hc'⟩
   .obtain⟨w2,z2⟩:=I.cell y c' e;exact⟨w2,z2.sameBut hs hcc⟩
  .obtain⟨e,n,ne,nf,d⟩:=I.pin p hp;refine⟨(hs.2 p.1 ?_).trans e,n,ne,nf,d⟩;intro q;rw[q,hoc]at e;have q':oc=p.2:=ú e;exact d w' (by rw[<-q'];exact hocd)
theorem CP{E:Ã->Å->Prop}{v:V}(I:Inv X Á σ H s)(hN:X.N.Nodup)(hi:X.N[i]?=some x)(hx:Loc X.env.scope x)(r:RelV v u)
  (h:∀s',Inv X Á (σ.set i<|some v) H s'->Q () s') (hf:X.fn x=true\/X.env.scope.names.lookup x=some .local:=by first|exact .inl rfl|exact .inr rfl|assumption):wpAny M A (storeName X.env x u) Q E s :=
 Kq I hN hi hx r (fun s' I' _=>h s' I') hf
theorem Inv.call'{s':Å}(I:Inv X Á σ H s)(ho:s'.os=s.os)(u:Un (frs X.stack) ch H H' s.heap s'.heap)(hok:HOk X.prog X.w H' s'.heap)(hg:Ρ s'.gens)
  (hch:∀b∈ch,(b∈X.ex\/X.s₀.heap.objs.size<=b)/\b≠X.env.locals/\(∀x c,X.env.cells.lookup x=some c->c≠b)/\∀p∈X.pn++Á,p.1≠b):Inv X Á σ H' s':=by
 obtain⟨h',g',d',t',o'⟩:=s';have e:o'=s.os:=ho;subst e;exact I.call (g':=g') (t':=t') (d':=d') u hok hg hch
end
noncomputable abbrev XK:=Ã->Option È->Hp->Prop
noncomputable abbrev St:=List<|Option V
noncomputable abbrev VK:=V->Hp->Prop
noncomputable abbrev TE:=St->Hp->VK->Prop
noncomputable abbrev TT:=St->Hp->(Bool->Hp->Prop)->Prop
noncomputable abbrev TA:=St->Hp->(List V->Hp->Prop)->Prop
structure Ends where
 nx:St->Hp->Prop
 rt:VK
 bk:St->Hp->Prop:=fun _ _=>False
 ct:St->Hp->Prop:=fun _ _=>False
noncomputable abbrev TS:=Ends->St->Hp->Prop
def EP(X:Cx)(Á:List<|È×Obj)(σ:St)(Q:VK)(u:Ã)(s':Å):Prop:=∃v H',Inv X Á σ H' s'/\RelV v u/\Q v H'
def TP(X:Cx)(Á:List<|È×Obj)(σ:St)(Q:Bool->Hp->Prop)(b:Bool)(s':Å):Prop:=∃H',Inv X Á σ H' s'/\Q b H'
def AP(X:Cx)(Á:List<|È×Obj)(σ:St)(Q:List V->Hp->Prop)(us:List Ã)(s':Å):Prop:=∃vs H',Inv X Á σ H' s'/\Vals vs us/\Q vs H'
def SP(X:Cx)(Á:List<|È×Obj)(D:Ends)(f:Flow)(s':Å):Prop :=
 match f with
 |.next=>∃Ś H',Inv X Á Ś H' s'/\D.nx Ś H'
 |.brk=>∃Ś H',Inv X Á Ś H' s'/\D.bk Ś H'
 |.cont=>∃Ś H',Inv X Á Ś H' s'/\D.ct Ś H'
 |.ret u=>∃v Ś H',Inv X Á Ś H' s'/\RelV v u/\D.rt v H'
def PE(X:Cx)(e:Expr)(t:TE):Prop :=
 ∀(Á:List<|È×Obj) (s:Å) (σ:St) (H:Hp) (Q:VK),Inv X Á σ H s->t σ H Q->wpAny (Û X.prog X.w) X.A (eval e X.env) (EP X Á σ Q) X.xe s
def PT(X:Cx)(e:Expr)(t:TT):Prop :=
 ∀(Á:List<|È×Obj) (s:Å) (σ:St) (H:Hp) (Q:Bool->Hp->Prop),Inv X Á σ H s->t σ H Q->wpAny (Û X.prog X.w) X.A (bT e X.env<|eval e X.env) (TP X Á σ Q) X.xe s
def PW(X:Cx)(e:Expr)(t:TT):Prop :=
 ∀(aq:Sem Ã) (Á:List<|È×Obj) (s:Å) (σ:St) (H:Hp) (Q:Bool->Hp->Prop),Inv X Á σ H s->t σ H Q->wpAny (Û X.prog X.w) X.A (bT e X.env aq) (TP X Á σ Q) X.xe s
theorem PW.pt{X:Cx}{e:Expr}{t:TT}(h:PW X e t):PT X e t:=h _
def PA(X:Cx)(es:List Expr)(t:TA):Prop :=
 ∀(pos:Pos) (Á:List<|È×Obj) (s:Å) (σ:St) (H:Hp) (Q:List V->Hp->Prop),Inv X Á σ H s->t σ H Q->wpAny (Û X.prog X.w) X.A (spliced<|ĥ pos<|Õ es X.env) (AP X Á σ Q) X.xe s
def PS(X:Cx)(st:Ļ)(t:TS):Prop :=
 ∀(Á:List<|È×Obj) (s:Å) (σ:St) (H:Hp) (D:Ends),Inv X Á σ H s->t D σ H->wpAny (Û X.prog X.w) X.A (exec st X.env) (SP X Á D) X.xe s
def PSs(X:Cx)(st:List Ļ)(t:TS):Prop :=
 ∀(Á:List<|È×Obj) (s:Å) (σ:St) (H:Hp) (D:Ends),Inv X Á σ H s->t D σ H->wpAny (Û X.prog X.w) X.A (execs st X.env) (SP X Á D) X.xe s
theorem thn{α:Type}{t:Sem α}{Q Q':α->Å->Prop}{M:Model}{A:Ă}{E:Ã->Å->Prop}{s:Å}(h:wpAny M A t Q E s)(hQ:∀a s,Q a s->Q' a s):wpAny M A t Q' E s:=ę h hQ fun _ _ x=>x
section
variable {X:Cx}
variable {Á:List (È×Obj)} {s:Å} {σ:St} {H:Hp}
theorem bin{a b:Expr}{ta tb:TE}(ha:PE X a ta)(hb:PE X b tb){R:V->V->Hp->Prop}(I:Inv X Á σ H s)(h:ta σ H fun x H1=>tb σ H1 fun y H2=>R x y H2)
  {α:Type}{Q:α->Å->Prop}{f:Ã->Ã->Sem α}
  (hf:∀v u s2 x y H2,Inv X Á σ H2 s2->RelV x v->RelV y u->R x y H2->wpAny (Û X.prog X.w) X.A (f v u) Q X.xe s2) :
  wpAny (Û X.prog X.w) X.A (eval a X.env) (fun v ġ=>wpAny (Û X.prog X.w) X.A (eval b X.env) (fun u bC=>wpAny (Û X.prog X.w) X.A (f v u) Q X.xe bC) X.xe ġ) X.xe s:=by
 refine thn (ha Á s σ H _ I h) fun v s1 ⟨x,H1,I1,r1,q1⟩=>?_;refine thn (hb Á s1 σ H1 _ I1 q1) fun u s2 ⟨y,H2,I2,r2,q2⟩=>?_;exact hf v u s2 x y H2 I2 r1 r2 q2
noncomputable def Rm(i:Nat):TE:=fun σ H Q=>∃v,σ[i]?=some (some v)/\Q v H
noncomputable def tC(v:V):TE:=fun _ H Q=>Q v H
variable {x:Str} {pos:Pos}
theorem LA{i:Nat}(hN:X.N[i]?=some x)(hv:Vis X.env.scope x)(hd:(x==("__debug__" : Str))=false:=by decide)(aE:(x==("__classdict__" : Str))=false:=by decide):PE X (.Name x pos)<|Rm i:=by
 intro Á s σ H Q I h;obtain⟨v,e,h⟩:=h;obtain⟨m,hn,hl⟩:=I.loc;obtain⟨u,r,l⟩:=hl i x v hN e hv;have fin:EP X Á σ Q u s:=⟨v,H,I,r,h⟩
 rcases l with⟨hk,hm⟩|⟨hk,c,hc,hcell⟩
 .exact wpAny_Name (wpAny_loadName_local I.ok.kind hk hn hm fin) hd
 .rcases hk with hk|hk
  .exact wpAny_Name (wpAny_loadName_cell I.ok.kind hk hc hcell fin) hd
  .exact wpAny_Name (wpAny_loadName_free I.ok.kind hk hc hcell fin aE) hd
theorem OL{i j pos}:PE X (.Constant (.int i) j pos)<|tC<|.int i:=fun _ _ _ H _ I h=>wpAny_Constant_int ⟨.int i,H,I.tok _,⟨_,rfl⟩,h⟩
theorem Qd{b j pos}:PE X (.Constant (.bool b) j pos)<|tC<|.bl b:=fun _ _ _ H _ I h=>Constant_bool ⟨.bl b,H,I,rfl,h⟩
theorem CF{j pos}:PE X (.Constant .none j pos)<|tC .non:=fun _ _ _ H _ I h=>cN ⟨.non,H,I,rfl,h⟩
theorem pe_str{x j pos}:PE X (.Constant (.str x) j pos)<|tC<|.str x:=fun _ _ _ H _ I h=>Calls.Constant_str ⟨.str x,H,I.tok _,⟨_,rfl⟩,h⟩
def Gl(X:Cx)(x:Str):Prop:=X.env.kindOf x=some .globalImplicit
variable {u:Ã} {Q:Ã->Å->Prop}
theorem Wy{E:Ã->Å->Prop}(I:Inv X Á σ H s)(hg:Gl X x)(hm:X.mg x=some u)(h:Q u s)
  (hd:(x==("__debug__" : Str))=false:=by decide):wpAny (Û X.prog X.w) X.A (eval (.Name x pos) X.env) Q E s :=
 Calls.Name_function_global I.ok.kind hg (Calls.loadGlobal_global (by rw[I.ok.glob];exact I.mod.glob.keeps I.bk) hm h) hd
theorem Yt{E:Ã->Å->Prop}(I:Inv X Á σ H s)(hg:Gl X x)(hm:X.mg x=none)(hv:ť x=some u)(h:Q u s)
  (hn:x≠"__name__":=by decide) (hd:(x==("__debug__" : Str))=false:=by decide):wpAny (Û X.prog X.w) X.A (eval (.Name x pos) X.env) Q E s:=by
 obtain⟨mb,h1,h2⟩:=I.mod.blt;exact Calls.Name_function_global I.ok.kind hg (Calls.loadGlobal_builtin (by rw[I.ok.glob];exact I.mod.glob.keeps I.bk) hm (by rw[I.ok.blt];exact h1.keeps I.bk) ((h2 x hn).trans hv) h) hd
theorem FA{v:V}(hg:Gl X x)(hm:X.mg x=some u)(r:RelV v u)(hd:(x==("__debug__" : Str))=false:=by decide):PE X (.Name x pos) (tC v) :=
 fun _ _ _ H _ I h=>Wy I hg hm ⟨v,H,I,r,h⟩ hd
theorem FU{v:V}(hg:Gl X x)(hm:X.mg x=none)(hv:ť x=some u)(r:RelV v u)(hn:x≠"__name__":=by decide)(hd:(x==("__debug__" : Str))=false:=by decide):PE X (.Name x pos) (tC v) :=
 fun _ _ _ H _ I h=>Yt I hg hm hv ⟨v,H,I,r,h⟩ hn hd
variable {a b:Expr}{ta tb:TE}{pos:Pos}
def PC(X:Cx)(op:bU)(a b:Expr)(t:TE):Prop :=
 ∀(Á:List<|È×Obj) (s:Å) (σ:St) (H:Hp) (Q:VK),Inv X Á σ H s->t σ H Q->
  wpAny (Û X.prog X.w) X.A (eval a X.env) (fun v ġ=>wpAny (Û X.prog X.w) X.A (eval b X.env) (fun u bC=>wpAny (Û X.prog X.w) X.A (è op v u) (EP X Á σ Q) X.xe bC) X.xe ġ) X.xe s
variable {op:bU}
theorem NL(b:Expr)(h:op≠.In)(h2:op≠.NotIn):Ĺ op b=false:=by
 have e1:(op==CmpOp.In)=false:=by cases op<;>first|rfl|exact absurd rfl h
 have e2:(op==CmpOp.NotIn)=false:=by cases op<;>first|rfl|exact absurd rfl h2
 cases b<;>simp[Ĺ,e1,e2]
noncomputable def RM(ta:TE):TE:=fun σ H Q=>ta σ H fun x H1=>Q (.bl<|decide (x=.non)) H1
noncomputable def Pu(ta:TE):TE:=fun σ H Q=>ta σ H fun x H1=>Q (.bl (!decide (x=.non))) H1
theorem RelV.none_iff{x:V}{v:Ã}(r:RelV x v):(v==Value.none)=decide (x=.non):=by
 cases x with
 |non=>cases r;rfl
 |bl _=>cases r;rfl
 |int _=>obtain⟨t,rfl⟩:=r;rfl
 |str _=>obtain⟨t,rfl⟩:=r;rfl
 |byt _=>obtain⟨t,rfl⟩:=r;rfl
 |flt _=>obtain⟨t,rfl⟩:=r;rfl
 |ref _=>cases r;rfl
 |ty _=>cases r;rfl
theorem CH{j aX}(ha:PE X a ta):PC X .Is a (.Constant .none j aX)<|RM ta:=by intro Á s σ H Q I h;refine thn (ha Á s σ H _ I h) fun v s1 ⟨x,H1,I1,r1,q1⟩=>?_;exact cN (is_none_gen ⟨.bl _,H1,I1,by rw[r1.none_iff];rfl,q1⟩)
theorem O5{j aX}(ha:PE X a ta):PC X .IsNot a (.Constant .none j aX)<|Pu ta:=by intro Á s σ H Q I h;refine thn (ha Á s σ H _ I h) fun v s1 ⟨x,H1,I1,r1,q1⟩=>?_;exact cN (isnot_none_gen ⟨.bl _,H1,I1,by rw[r1.none_iff];rfl,q1⟩)
noncomputable def tB(t:TE):TT:=fun σ H Q=>t σ H fun x H1=>∃c,x=.bl c/\Q c H1
theorem Df{t:TE}(h:PC X op a b t)(h1:Ĺ op b=false:=by first|exact NL _ (by decide) (by decide)|rfl):PE X (.Compare a [op] [b] pos) t:=fun Á s σ H Q I hw=>wpAny_Compare1 (h Á s σ H Q I hw) h1
theorem Bt{t:TE}(h:PC X op a b t)(h1:Ĺ op b=false:=by first|exact NL _ (by decide) (by decide)|rfl):PT X (.Compare a [op] [b] pos)<|tB t:=by intro Á s σ H Q I hw;refine wpAny_isTrue_Compare1 (thn (h Á s σ H _ I hw) fun v s1 h1=>thn h1 fun u s2 h2=>thn h2 fun c s3 ⟨x,H1,I1,r1,q1⟩=>?_) h1;obtain⟨d,rfl,q⟩:=q1;cases r1;exact đ ⟨H1,I1,q⟩
variable {tA tB':TT}{rest:List Expr}
noncomputable def Rv(t u:TT):TT:=fun σ H Q=>t σ H fun c H1=>if c=true then u σ H1 Q else Q false H1
noncomputable def tOr(t u:TT):TT:=fun σ H Q=>t σ H fun c H1=>if c=true then Q true H1 else u σ H1 Q
noncomputable def Ri(t:TT):TT:=fun σ H Q=>t σ H fun c H1=>Q (!c) H1
theorem EU(ha:PT X a tA):PW X (.BoolOp .And [a] pos) tA:=by
 intro wh Á s σ H Q I h;refine isTrue_and<|thn (ha Á s σ H Q I h) fun c s1 e=>?_;cases c with
 |true=>exact isTrue_and_nil e
 |false=>exact e
theorem Le(ha:PT X a tA):PW X (.BoolOp .Or [a] pos) tA:=by
 intro wh Á s σ H Q I h;refine isTrue_or<|thn (ha Á s σ H Q I h) fun c s1 e=>?_;cases c with
 |false=>exact isTrue_or_nil e
 |true=>exact e
theorem IT(ha:PT X a tA)(hb:PW X (.BoolOp .And (b::rest) pos) tB'):PW X (.BoolOp .And (a::b::rest) pos)<|Rv tA tB':=by
 intro wh Á s σ H Q I h;refine isTrue_and<|thn (ha Á s σ H _ I h) fun c s1 ⟨H1,I1,q1⟩=>?_;cases c with
 |true=>exact hb wh Á s1 σ H1 Q I1 q1
 |false=>exact⟨H1,I1,q1⟩
theorem Ps(ha:PT X a tA)(hb:PW X (.BoolOp .Or (b::rest) pos) tB'):PW X (.BoolOp .Or (a::b::rest) pos)<|tOr tA tB':=by
 intro wh Á s σ H Q I h;refine isTrue_or<|thn (ha Á s σ H _ I h) fun c s1 ⟨H1,I1,q1⟩=>?_;cases c with
 |true=>exact⟨H1,I1,q1⟩
 |false=>exact hb wh Á s1 σ H1 Q I1 q1
theorem IM(ha:PT X a tA):PT X (.UnaryOp .Not a pos)<|Ri tA:=by intro Á s σ H Q I h;exact isTrue_not (ha Á s σ H (fun c H1=>Q (!c) H1) I h)
noncomputable def Pe(ta tb:TE):TE:=fun σ H Q=>ta σ H fun x H1=>∃c,x=.bl c/\if c=true then tb σ H1 Q else Q (.bl false) H1
noncomputable def R3(ta tb:TE):TE:=fun σ H Q=>ta σ H fun x H1=>∃c,x=.bl c/\if c=true then Q (.bl true) H1 else tb σ H1 Q
noncomputable def Ph(ta:TE):TE:=fun σ H Q=>ta σ H fun x H1=>∃c,x=.bl c/\Q (.bl (!c)) H1
theorem CD{op}{t:TE}(h:PE X a t):PE X (.BoolOp op [a] pos) t:=fun Á s σ H Q I hw=>BoolOp_one (h Á s σ H Q I hw)
theorem LI(ha:PE X a ta)(hb:PE X (.BoolOp .And (b::rest) pos) tb):PE X (.BoolOp .And (a::b::rest) pos)<|Pe ta tb:=by
 intro Á s σ H Q I h;refine BoolOp_and<|thn (ha Á s σ H _ I h) fun v s1 ⟨x,H1,I1,r1,q1⟩=>?_;obtain⟨c,rfl,q1⟩:=q1;cases r1;refine đ ?_;cases c with
 |true=>exact hb Á s1 σ H1 Q I1 q1
 |false=>exact⟨.bl false,H1,I1,rfl,q1⟩
theorem Qk(ha:PE X a ta)(hb:PE X (.BoolOp .Or (b::rest) pos) tb):PE X (.BoolOp .Or (a::b::rest) pos)<|R3 ta tb:=by
 intro Á s σ H Q I h;refine BoolOp_or<|thn (ha Á s σ H _ I h) fun v s1 ⟨x,H1,I1,r1,q1⟩=>?_;obtain⟨c,rfl,q1⟩:=q1;cases r1;refine đ ?_;cases c with
 |false=>exact hb Á s1 σ H1 Q I1 q1
 |true=>exact⟨.bl true,H1,I1,rfl,q1⟩
theorem Hw(ha:PE X a ta):PE X (.UnaryOp .Not a pos)<|Ph ta:=by intro Á s σ H Q I h;refine UnaryOp_<|thn (ha Á s σ H _ I h) fun v s1 ⟨x,H1,I1,r1,q1⟩=>?_;obtain⟨c,rfl,q1⟩:=q1;cases r1;exact not_of (đ ⟨.bl (!c),H1,I1,rfl,q1⟩)
noncomputable def tIf(t:TT)(ta tb:TE):TE:=fun σ H Q=>t σ H fun c H1=>if c=true then ta σ H1 Q else tb σ H1 Q
theorem Db{c:Expr}(hc:PT X c tA)(ha:PE X a ta)(hb:PE X b tb):PE X (.IfExp c a b pos)<|tIf tA ta tb:=by
 intro Á s σ H Q I h;refine wpAny_IfExp<|thn (hc Á s σ H _ I h) fun d s1 ⟨H1,I1,q1⟩=>?_;cases d with
 |true=>exact ha Á s1 σ H1 Q I1 q1
 |false=>exact hb Á s1 σ H1 Q I1 q1
end
def SqL(K:Frag)(H:Hp)(a:È)(xs:List V):Prop :=
 Rd H a (.lst xs)\/
  ∃(o:Obj) (î:Array Ã) (n:Nat),K.lookup a=some o/\o.cls=.type "list"/\o.dict=none/\o.data=.seq î n/\î.size<=Ø/\Vals xs î.toList
def SqT(K:Frag)(H:Hp)(a:È)(xs:List V):Prop :=
 Rd H a (.tup xs)\/
  ∃(o:Obj) (î:Array Ã) (n:Nat),K.lookup a=some o/\o.cls=.type "tuple"/\o.data=.seq î n/\î.size<=Ø/\Vals xs î.toList
noncomputable def absV:Ã->Option V
 |.none=>some .non
 |.bool b=>some<|.bl b
 |.int i _=>some<|.int i
 |.str x _=>some<|.str x
 |.bytes b _=>some<|.byt b
 |.float b _=>some<|.flt b
 |.ref a=>some<|.ref a
 |.type n=>some<|.ty n
 |_=>none
variable {x:V} {u:Ã}
theorem RelV.abs(r:RelV x u):absV u=some x:=by
 cases x with
 |non=>cases r;rfl
 |bl _=>cases r;rfl
 |int _=>obtain⟨t,rfl⟩:=r;rfl
 |str _=>obtain⟨t,rfl⟩:=r;rfl
 |byt _=>obtain⟨t,rfl⟩:=r;rfl
 |flt _=>obtain⟨t,rfl⟩:=r;rfl
 |ref _=>cases r;rfl
 |ty _=>cases r;rfl
theorem RelV.inj{y:V}(r:RelV x u)(q:RelV y u):x=y:=ú (r.abs.symm.trans q.abs)
theorem Vals.inj:∀{xs ys:List V}{us:List Ã},Vals xs us->Vals ys us->xs=ys
 |_,_,_,.nil,.nil=>rfl
 |_,_,_,.cons r t,.cons r' t'=>by rw[r.inj r',Vals.inj t t']
section
variable {X:Cx}{Á:List (È×Obj)}{σ:St}{H:Hp}{s:Å}{a:È}{xs ys:List V}
theorem SqL.of{K:Frag}(h:H a=some (.lst xs)):SqL K H a xs:=.inl (.inl h)
theorem SqT.of{K:Frag}(h:H a=some (.tup xs)):SqT K H a xs:=.inl (.inl h)
theorem Inv.list(I:Inv X Á σ H s)(h:SqL X.K H a xs):∃î:List Ã,Vals xs î/\PlainL s.heap a î.toArray/\xs.length<=Ø:=by
 rcases h with h|⟨o,î,n,hk,hc,hd,hs,hz,r⟩
 .obtain⟨z,î,n,r,e⟩:=h.ok I.hok;exact⟨î,r,⟨_,n,e,rfl,rfl,rfl⟩,z⟩
 .refine⟨î.toList,r,⟨o,n,I.kIn a o hk,hc,hd,by simpa using hs⟩,?_⟩;have e:=r.length;simp only[ç]at e;omega
theorem Inv.tuple(I:Inv X Á σ H s)(h:SqT X.K H a xs):∃î:List Ã,Vals xs î/\aa s.heap a î.toArray/\xs.length<=Ø:=by
 rcases h with h|⟨o,î,n,hk,hc,hs,hz,r⟩
 .obtain⟨z,î,r,p⟩:=h.ok I.hok;exact⟨î,r,p,z⟩
 .refine⟨î.toList,r,⟨o,I.kIn a o hk,hc,n,by simpa using hs⟩,?_⟩;have e:=r.length;simp only[ç]at e;omega
theorem Inv.list_inj(I:Inv X Á σ H s)(h:SqL X.K H a xs)(h':SqL X.K H a ys):xs=ys:=by
 obtain⟨î,r,⟨o,n,e,_,_,d⟩,_⟩:=I.list h;obtain⟨its',r',⟨o',n',e',_,_,d'⟩,_⟩:=I.list h';rw[e]at e';cases e';rw[d]at d';injection d' with d1 _;have:î=its':=by simpa using congrArg bu d1
 subst this;exact r.inj r'
theorem Inv.tuple_inj(I:Inv X Á σ H s)(h:SqT X.K H a xs)(h':SqT X.K H a ys):xs=ys:=by
 obtain⟨î,r,⟨o,e,_,n,d⟩,_⟩:=I.tuple h;obtain⟨its',r',⟨o',e',_,n',d'⟩,_⟩:=I.tuple h';rw[e]at e';cases e';rw[d]at d';injection d' with d1 _;have:î=its':=by simpa using congrArg bu d1
 subst this;exact r.inj r'
end
noncomputable abbrev Cx.wish(X:Cx)(E:Ã->Å->Prop):Cx:={X with xe:=E}
noncomputable abbrev Cx.nox(X:Cx):Cx:=X.wish fun _ _=>False
variable {X:Cx}
theorem Cx.Ok.wish(ok:X.Ok)(E:Ã->Å->Prop):(X.wish E).Ok :=
 ⟨ok.mod,ok.kind,ok.glob,ok.blt,ok.above,ok.inj,ok.has,ok.cab,ok.hd,ok.frames,ok.stk,ok.exf,ok.bs,ok.bsz,ok.noex,ok.exfs,ok.funs,ok.frf⟩
theorem Cx.Ok.unwish{E:Ã->Å->Prop}(ok:(X.wish E).Ok):X.Ok :=
 ⟨ok.mod,ok.kind,ok.glob,ok.blt,ok.above,ok.inj,ok.has,ok.cab,ok.hd,ok.frames,ok.stk,ok.exf,ok.bs,ok.bsz,ok.noex,ok.exfs,ok.funs,ok.frf⟩
section
variable {X:Cx}{Á:List (È×Obj)}{σ:St}{H:Hp}{s:Å}{E:Ã->Å->Prop}
theorem Inv.wish(I:Inv X Á σ H s)(E:Ã->Å->Prop):Inv (X.wish E) Á σ H s:=⟨I.ok.wish E,I.os,I.bare,I.base,I.loc,I.cell,I.free,I.freeC,I.pin,I.hok,I.len⟩
theorem Inv.unwish(I:Inv (X.wish E) Á σ H s):Inv X Á σ H s:=⟨I.ok.unwish,I.os,I.bare,I.base,I.loc,I.cell,I.free,I.freeC,I.pin,I.hok,I.len⟩
theorem SP.unwish{D:Ends}{f:Flow}{s':Å}(h:SP (X.wish E) Á D f s'):SP X Á D f s':=by
 cases f with
 |next=>obtain⟨Ś,H',I,q⟩:=h;exact⟨Ś,H',I.unwish,q⟩
 |brk=>obtain⟨Ś,H',I,q⟩:=h;exact⟨Ś,H',I.unwish,q⟩
 |cont=>obtain⟨Ś,H',I,q⟩:=h;exact⟨Ś,H',I.unwish,q⟩
 |ret u=>obtain⟨v,Ś,H',I,r,q⟩:=h;exact⟨v,Ś,H',I.unwish,r,q⟩
variable {e:Expr}
theorem PE.nox{t:TE}(h:PE X.nox e t):PE X e t:=fun Á s σ H Q I hw =>
 ę (h Á s σ H Q (I.wish _) hw) (fun _ _ ⟨v,H',I',r,q⟩=>⟨v,H',I'.unwish,r,q⟩) fun _ _ z=>ī z
theorem PT.nox{t:TT}(h:PT X.nox e t):PT X e t:=fun Á s σ H Q I hw =>
 ę (h Á s σ H Q (I.wish _) hw) (fun _ _ ⟨H',I',q⟩=>⟨H',I'.unwish,q⟩) fun _ _ z=>ī z
theorem PSs.nox{st:List Ļ}{t:TS}(h:PSs X.nox st t):PSs X st t:=fun Á s σ H D I hw =>
 ę (h Á s σ H D (I.wish _) hw) (fun _ _ q=>q.unwish) fun _ _ z=>ī z
end
section
variable {X:Cx}{st:Ļ}{rest:List Ļ}{t u:TS}{e:Expr}{te:TE}{pos:Pos}
noncomputable def LQ:TS:=fun D σ H=>D.nx σ H
noncomputable def R7(t u:TS):TS:=fun D σ H=>t {D with nx:=u D} σ H
theorem pss_nil:PSs X [] LQ:=fun _ _ σ H _ I h=>wpAny_execs_nil ⟨σ,H,I,h⟩
theorem A6(h1:PS X st t)(h2:PSs X rest u):PSs X (st::rest)<|R7 t u:=by
 intro Á s σ H D I h;refine wpAny_execs_cons<|thn (h1 Á s σ H {D with nx:=u D} I h) fun f s1 q=>?_;cases f with
 |next =>obtain⟨Ś,H',I',q⟩:=q;exact h2 Á s1 Ś H' D I' q
 |ret v=>exact q
 |brk=>exact q
 |cont=>exact q
theorem Inv.quiet{Á:List (È×Obj)}{σ:St}{H:Hp}{s:Å}(I:Inv X Á σ H s):interactive X.env=false:=by simp[interactive,I.ok.kind]
noncomputable def L3(te:TE):TS:=fun D σ H=>te σ H fun _ H1=>D.nx σ H1
theorem DX(he:PE X e te)(hs:Ų e none pos.line X.env=pure false:=by rfl):PS X (.Expr e pos)<|L3 te:=by intro Á s σ H D I h;exact wpAny_Expr_any (thn (he Á s σ H _ I h) fun v s1 ⟨x,H1,I1,r1,q1⟩=>⟨σ,H1,I1,q1⟩) I.quiet hs
noncomputable def Rg(te:TE):TS:=fun D σ H=>te σ H D.rt
theorem GM(he:PE X e te):PS X (.Return (some e) pos)<|Rg te:=by intro Á s σ H D I h;exact wpAny_Return_some (thn (he Á s σ H _ I h) fun v s1 ⟨x,H1,I1,r1,q1⟩=>⟨x,σ,H1,I1,r1,q1⟩)
noncomputable def Pd:TS:=fun D _ H=>D.rt .non H
theorem ps_retN:PS X (.Return none pos) Pd:=fun _ _ σ H _ I h=>wpAny_Return_none ⟨.non,σ,H,I,rfl,h⟩
noncomputable def Re(c:TT)(t u:TS):TS:=fun D σ H=>c σ H fun b H1=>if b=true then t D σ H1 else u D σ H1
theorem P2{c:Expr}{a b:List Ļ}{tc:TT}(hc:PT X c tc)(ha:PSs X a t)(hb:PSs X b u):PS X (.If c a b pos)<|Re tc t u:=by
 intro Á s σ H D I h;refine wpAny_If<|thn (hc Á s σ H _ I h) fun d s1 ⟨H1,I1,q1⟩=>?_;cases d with
 |true=>exact ha Á s1 σ H1 D I1 q1
 |false=>exact hb Á s1 σ H1 D I1 q1
end
noncomputable abbrev TG:=V->St->Hp->(St->Hp->Prop)->Prop
noncomputable abbrev TGs:=List V->St->Hp->(St->Hp->Prop)->Prop
def PG(X:Cx)(ϰ:Expr)(t:TG):Prop :=
 ∀(Á:List<|È×Obj) (s:Å) (σ:St) (H:Hp) (v:V) (u:Ã) (Q:St->Hp->Prop),Inv X Á σ H s->RelV v u->t v σ H Q->
  wpAny (Û X.prog X.w) X.A (ſ ϰ X.env u) (fun _ s'=>∃Ś H',Inv X Á Ś H' s'/\Q Ś H') X.xe s
def PGs(X:Cx)(ts:List Expr)(t:TGs):Prop :=
 ∀(Á:List<|È×Obj) (s:Å) (σ:St) (H:Hp) (vs:List V) (us:List Ã) (Q:St->Hp->Prop),Inv X Á σ H s->Vals vs us->t vs σ H Q->
  wpAny (Û X.prog X.w) X.A (assignInOrder ((ğ ts X.env).map (·.2)) us) (fun _ s'=>∃Ś H',Inv X Á Ś H' s'/\Q Ś H') X.xe s
noncomputable abbrev Hb:=V->V->V->Hp->(Hp->Prop)->Prop
def PSet(X:Cx)(t:Hb):Prop :=
 ∀(Á:List<|È×Obj) (s:Å) (σ:St) (H:Hp) (o i v:V) (ov iv u:Ã) (Q:Hp->Prop),Inv X Á σ H s->RelV o ov->RelV i iv->RelV v u->t o i v H Q->
  wpAny (Û X.prog X.w) X.A (setItem ov iv u) (fun _ s'=>∃H',Inv X Á σ H' s'/\Q H') X.xe s
section
variable {X:Cx}{pos:Pos}
noncomputable def Ga(i:Nat):TG:=fun v σ H Q=>Q (σ.set i<|some v) H
theorem OZ{i:Nat}{x:Str}(hN:X.N.Nodup)(hi:X.N[i]?=some x)(hx:Loc X.env.scope x)(hf:X.fn x=true\/X.env.scope.names.lookup x=some .local:=by first|exact .inl rfl|exact .inr rfl|assumption):PG X (.Name x pos)<|Ga i:=by intro Á s σ H v u Q I r h;exact wpAny_assign_Name (CP I hN hi hx r (fun s' I'=>⟨_,H,I',h⟩) hf)
noncomputable def RK:TGs:=fun vs σ H Q=>vs=[]/\Q σ H
noncomputable def Qv(t:TG)(u:TGs):TGs:=fun vs σ H Q=>∃v r,vs=v::r/\t v σ H fun Ś H'=>u r Ś H' Q
theorem pgs_nil:PGs X [] RK:=by intro Á s σ H vs us Q I r h;obtain⟨e,h⟩:=h;subst e;cases r;exact assignInOrder_nil ⟨σ,H,I,h⟩
variable {e:Expr} {es:List Expr}
theorem W9{t:TG}{u:TGs}(h1:PG X e t)(h2:PGs X es u)
  (hs:(ğ (e::es) X.env).map (·.2)=ſ e X.env::(ğ es X.env).map (·.2):=by rfl):PGs X (e::es)<|Qv t u:=by
 intro Á s σ H vs us Q I r h;obtain⟨v,vr,e1,h⟩:=h;subst e1;cases r with
 |cons r rr =>rw[hs];refine assignInOrder_cons<|thn (h1 Á s σ H _ _ _ I r h) fun _ s1 ⟨σ1,H1,I1,q1⟩=>?_;exact h2 Á s1 σ1 H1 _ _ Q I1 rr q1
noncomputable def Rn(K:Frag)(n:Nat)(t:TGs):TG:=fun v σ H Q=>∃a xs,v=.ref a/\SqT K H a xs/\xs.length=n/\t xs σ H Q
theorem Cj{k:Nat}{t:TGs}{n:Nat}(hc:X.calm=true)(h:PGs X es t)
  (hn:(ğ es X.env).length=n:=by rfl) (Γ:(ğ es X.env).findIdx? (·.1)=none:=by rfl):PG X (.Tuple es k pos)<|Rn X.K n t:=by
 intro Á s σ H v u Q I r hw;obtain⟨a,xs,e1,hq,hl,hw⟩:=hw;subst e1;cases r;obtain⟨î,rv,ht,hz⟩:=I.tuple hq;refine assign_Tuple_tuple (I.ok.hd hc) ht (by simp[hn,<-hl,rv.length]) Γ fun h' hx=>?_;have I1:Inv X Á σ H {s with heap:=h'}:=I.kept (t':=s.toks) fun b o e=>hx b o (Þ<|Ñ e) e;exact h Á _ σ H xs _ Q I1 (by simpa using rv) hw
noncomputable def Pv(to ti:TE)(t:Hb):TG:=fun v σ H Q=>to σ H fun o H1=>ti σ H1 fun i H2=>t o i v H2 fun H3=>Q σ H3
theorem Hy{o i:Expr}{to ti:TE}{t:Hb}(ho:PE X o to)(hi:PE X i ti)(hs:PSet X t)
  (ha:∀v,ſ (.Subscript o i pos) X.env v=(do
    let ov<-Ŧ [v] (eval o X.env)
    let iv<-Ŧ [v,ov] (eval i X.env)
    Υ pos
    Ŧ [v,ov,iv] (setItem ov iv v)
    release [v,ov,iv] []):=by intro _;rfl):PG X (.Subscript o i pos)<|Pv to ti t:=by
 intro Á s σ H v u Q I r h;rw[ha];refine À<|Ĝ<|thn (ho Á s σ H _ I h) fun ov s1 ⟨x,H1,I1,r1,q1⟩=>?_;refine À<|Ĝ<|thn (hi Á s1 σ H1 _ I1 q1) fun iv s2 ⟨y,H2,I2,r2,q2⟩=>?_;refine À<|cO<|À<|Ĝ<|thn (hs Á s2 σ H2 x y v ov iv u _ I2 r1 r2 r q2) fun _ s3 ⟨H3,I3,q3⟩=>?_;exact wpAny_release ⟨σ,H3,I3,q3⟩
noncomputable def Qy(te:TE)(g:TG):TS:=fun D σ H=>te σ H fun x H1=>g x σ H1 D.nx
theorem Dm{tg:Expr}{te:TE}{g:TG}(he:PE X e te)(hg:PG X tg g)(hs:ύ [tg] e pos.line X.env=pure false:=by rfl)(hw:ώ [tg] e X.env=pure none:=by rfl)
  (h1:(ğ [tg] X.env).map (·.2)=[ſ tg X.env]:=by rfl):PS X (.Assign [tg] e pos)<|Qy te g:=by
 intro Á s σ H D I h;refine wpAny_Assign_stores (thn (he Á s σ H _ I h) fun v s1 ⟨x,H1,I1,r1,q1⟩=>?_) hs hw;rw[h1];exact thn (hg Á s1 σ H1 x v _ I1 r1 q1) fun _ s2 q=>q
def PGet(X:Cx)(t:V->V->Hp->VK->Prop):Prop :=
 ∀(Á:List<|È×Obj) (s:Å) (σ:St) (H:Hp) (o i:V) (ov iv:Ã) (Q:VK),Inv X Á σ H s->RelV o ov->RelV i iv->t o i H Q->
  wpAny (Û X.prog X.w) X.A (Ϝ ov iv) (EP X Á σ Q) X.xe s
end
structure It where
 go:Nat->Hp->Prop
 yld:Nat->Hp->V->Hp->Prop
 stop:Nat->Hp->Prop
def Wa(X:Cx)(Á:List<|È×Obj)(H:Hp)(b:È):Prop :=
 H b=none/\b≠X.env.locals/\b∉X.fs/\(b∈X.ex\/X.s₀.heap.objs.size<=b)/\(∀x c,X.env.cells.lookup x=some c->c≠b)/\∀p∈X.pn++Á,p.1≠b
variable {s:Å}
theorem Inv.fpOk{Á:List (È×Obj)}{σ:St}{H H':Hp}{b:È}(I:Inv X Á σ H s)(hb:s.heap.objs.size<=b)(hn:H' b=none):Wa X Á H' b:=by
 refine⟨hn,ł<|ã I.lt hb,I.nofs hb,.inr<|Ó I.sz hb,fun x c e z=>?_,fun p hp z=>?_⟩
 .obtain⟨v,q⟩:=I.cell x c e;exact absurd (ã q.lt<|by rw[z];exact hb)<|Ę _
 .exact absurd (ã (Ñ (I.pin p hp).1)<|by rw[z];exact hb)<|Ę _
structure Turn(P:à)(w:õ)(K:Frag)(tg:Expr)(J:It)(fp:List È)(it:È)(tn:Nat->ā->Prop):Prop where
 mem:it∈fp
 obj:∀i h,tn i h->∀b∈fp,∃o,h.get? b=some o/\∀v,o.data≠.cell v
 keep:∀i h h',tn i h->(∀b∈fp,∀o,h.get? b=some o->h'.get? b=some o)->tn i h'
 item:∀(X:Cx),X.prog=P->X.w=w->X.K=K->X.calm=true->∀(i:Nat) (Á:List<|È×Obj) (s:Å) (σ:St) (H:Hp) (E:Ã->Å->Prop),Inv X Á σ H s->(∀b∈fp,Wa X Á H b)->tn i s.heap->J.go i H->
  wpAny (Û P w) X.A (Ŷ<|.ref it) (fun r s1=>∃u,r=some u/\
    wpAny (Û P w) X.A (Ϡ tg (.ref it) u) (fun _ s2=>∃x H',Inv X Á σ H' s2/\RelV x u/\J.yld i H x H'/\tn (i+1) s2.heap/\∀b∈fp,H' b=none) E s1) E s
 done:∀(X:Cx),X.prog=P->X.w=w->X.K=K->X.calm=true->∀(i:Nat) (Á:List<|È×Obj) (s:Å) (σ:St) (H:Hp) (E:Ã->Å->Prop),Inv X Á σ H s->(∀b∈fp,Wa X Á H b)->tn i s.heap->J.stop i H->
  wpAny (Û P w) X.A (Ŷ<|.ref it) (fun r s1=>r=none/\Inv X Á σ H s1) E s
 self:∀(A:Ă) (i:Nat) (s:Å) (Q:Ã->Å->Prop) (E:Ã->Å->Prop),tn i s.heap->Q (.ref it) s->wpAny (Û P w) A (bV<|.ref it) Q E s
noncomputable abbrev TI:=St->Hp->(It->Hp->Prop)->Prop
def PIE(X:Cx)(Á:List<|È×Obj)(σ:St)(tg:Expr)(R:It->Hp->Prop)(itv:Ã)(s2:Å):Prop :=
 ∃(it:È) (fp:List È) (tn:Nat->ā->Prop) (J:It) (H':Hp),itv=.ref it/\Inv X Á σ H' s2/\Turn X.prog X.w X.K tg J fp it tn/\tn 0 s2.heap/\(∀b∈fp,Wa X Á H' b)/\R J H'
def PI(X:Cx)(tg ū:Expr)(wi:TI):Prop :=
 ∀(Á:List<|È×Obj) (s:Å) (σ:St) (H:Hp) (R:It->Hp->Prop),Inv X Á σ H s->wi σ H R->
  wpAny (Û X.prog X.w) X.A (eval ū X.env) (fun v s1=>wpAny (Û X.prog X.w) X.A (bV v) (PIE X Á σ tg R) X.xe s1) X.xe s
variable {tg:Expr}
theorem go_of{M:Model}{A:Ă}{E:Ã->Å->Prop}{it:È}{o:Obj}{n:String}{vs:Array Ã}{Q:Unit->Å->Prop}(ho:s.heap.get? it=some o)(hc:o.cls=.type n)(hd:o.data=.fields vs)
  (hn:["enumerate","zip","dict_itemiterator","dict_reverseitemiterator","odict_iterator","itertools.zip_longest","itertools.pairwise"].contains n=false) (hQ:Q () s):wpAny M A (Ϡ tg (.ref it) u) Q E s:=by
 unfold Ϡ;cases tg<;>first
  |exact Æ hQ
  | (cases u<;>first
      |exact Æ hQ
      | (refine À (wpAny_load ho ?_)
         rw[hc,hd]
         show wpAny M A (if(["enumerate","zip","dict_itemiterator","dict_reverseitemiterator","odict_iterator","itertools.zip_longest","itertools.pairwise"].contains n&&vs[0]? == some (ı _))=true then _ else _) Q E s
         rw[if_neg<|by intro h;rw[hn,Bool.false_and]at h;cases h]
         exact Æ hQ))
noncomputable def Itl(K:Frag)(a:È):It :=
 ⟨fun i H=>∃xs x,SqL K H a xs/\xs[i]?=some x,fun i H x H'=>H'=H/\∀xs,SqL K H a xs->xs[i]?=some x,fun i H=>∃xs,SqL K H a xs/\xs.length<=i⟩
noncomputable def Itt(K:Frag)(a:È):It :=
 ⟨fun i H=>∃xs x,SqT K H a xs/\xs[i]?=some x,fun i H x H'=>H'=H/\∀xs,SqT K H a xs->xs[i]?=some x,fun i H=>∃xs,SqT K H a xs/\xs.length<=i⟩
noncomputable def Itr(lo:Int)(n:Nat):It:=⟨fun i _=>i<n,fun i H x H'=>H'=H/\x=.int (lo+i),fun i _=>n<=i⟩
variable {P:à} {w:õ}
theorem AC{K:Frag}(a it:È):Turn P w K tg (Itl K a) [it] it (fun i h=>h.IsListIter it a i) where
 mem:=by simp
 obj:=fun i h st b hb=>by
  have e:b=it:=by simpa using hb
  subst e;obtain⟨o,e,c,d⟩:=st;exact⟨o,e,fun v z=>by rw[d]at z;cases z⟩
 keep:=fun i h h' st k=>st.at fun o e=>k it (by simp) o e
 item:=by intro X hP hw hK hc i Á s σ H E I hf st hg;subst hP hw hK;obtain⟨xs,x,hq,hx⟩:=hg;obtain⟨î,rv,p,hz⟩:=I.list hq;obtain⟨u,hu,ru⟩:=rv.get hx;obtain⟨f0,f1,f2,f3,f4,f5⟩:=hf it (by simp);refine wpAny_pyNext_list_item st p.isList (x:=u) (by simpa using hu) fun h' du sb=>?_;have I1:Inv X Á σ H {s with heap:=h'}:=I.turned (t':=s.toks) (fun b o hb e=>(sb.2 b hb).trans e) f0 f1 f3 f4 f5;obtain⟨o,e,c,d⟩:=id du;exact⟨u,rfl,go_of (s:={s with heap:=h'}) e c d (by decide) ⟨x,H,I1,ru,⟨rfl,fun ys hy=>by rw[I.list_inj hy hq];exact hx⟩,du,fun b hb=>(hf b hb).1⟩⟩
 done:=by intro X hP hw hK hc i Á s σ H E I hf st hg;subst hP hw hK;obtain⟨xs,hq,hx⟩:=hg;obtain⟨î,rv,p,hz⟩:=I.list hq;obtain⟨f0,f1,f2,f3,f4,f5⟩:=hf it (by simp);have hl:=rv.length;exact wpAny_pyNext_list_end (I.ok.hd hc) st p.isList (by simp;omega) fun h' eb=>⟨rfl,I.turned (t':=s.toks) (fun b o hb e=>eb b o hb e) f0 f1 f3 f4 f5⟩
 self:=fun _ _ _ _ _ st h=>wpAny_pyIter_listiter st h
theorem NR{K:Frag}(a it:È):Turn P w K tg (Itt K a) [it] it (fun i h=>h.IsTupleIter it a i) where
 mem:=by simp
 obj:=fun i h st b hb=>by
  have e:b=it:=by simpa using hb
  subst e;obtain⟨o,e,c,d⟩:=st;exact⟨o,e,fun v z=>by rw[d]at z;cases z⟩
 keep:=fun i h h' st k=>st.at fun o e=>k it (by simp) o e
 item:=by intro X hP hw hK hc i Á s σ H E I hf st hg;subst hP hw hK;obtain⟨xs,x,hq,hx⟩:=hg;obtain⟨î,rv,p,hz⟩:=I.tuple hq;obtain⟨u,hu,ru⟩:=rv.get hx;obtain⟨f0,f1,f2,f3,f4,f5⟩:=hf it (by simp);refine wpAny_pyNext_tuple_item st (show s.heap.IsTuple a î.toArray from p) (x:=u) (by simpa using hu) fun h' du sb=>?_;have I1:Inv X Á σ H {s with heap:=h'}:=I.turned (t':=s.toks) (fun b o hb e=>(sb.2 b hb).trans e) f0 f1 f3 f4 f5;obtain⟨o,e,c,d⟩:=id du;exact⟨u,rfl,go_of (s:={s with heap:=h'}) e c d (by decide) ⟨x,H,I1,ru,⟨rfl,fun ys hy=>by rw[I.tuple_inj hy hq];exact hx⟩,du,fun b hb=>(hf b hb).1⟩⟩
 done:=by intro X hP hw hK hc i Á s σ H E I hf st hg;subst hP hw hK;obtain⟨xs,hq,hx⟩:=hg;obtain⟨î,rv,p,hz⟩:=I.tuple hq;obtain⟨f0,f1,f2,f3,f4,f5⟩:=hf it (by simp);have hl:=rv.length;exact wpAny_pyNext_tuple_end (I.ok.hd hc) st (show s.heap.IsTuple a î.toArray from p) (by simp;omega) fun h' eb=>⟨rfl,I.turned (t':=s.toks) (fun b o hb e=>eb b o hb e) f0 f1 f3 f4 f5⟩
 self:=fun _ _ _ _ _ st h=>wpAny_pyIter_tupleiter st h
theorem Op{K:Frag}(it:È)(lo:Int)(n:Nat):Turn P w K tg (Itr lo n) [it] it (fun i h=>IsRangeIter h it (lo+(i:Nat)*1) ((n:Int) - (i:Nat)) 1) where
 mem:=by simp
 obj:=fun i h st b hb=>by
  have e:b=it:=by simpa using hb
  subst e;exact⟨_,st,fun v z=>by
    have z':Data.fields _=Data.cell v:=z
    cases z'⟩
 keep:=fun i h h' st k=>k it (by simp) _ st
 item:=by intro X hP hw hK hc i Á s σ H E I hf st hg;subst hP hw hK;obtain⟨f0,f1,f2,f3,f4,f5⟩:=hf it (by simp);have W:=Walks.range (prog:=X.prog) (w:=X.w) (I.ok.hd hc) it lo 1 n;refine W.item i s _ _ hg st fun v h' tk hv du kk=>?_;obtain⟨t,rfl⟩:=hv;have I1:Inv X Á σ H {s with heap:=h',toks:=tk}:=I.turned (fun b o hb e=>kk b o (by simpa using hb) e) f0 f1 f3 f4 f5;refine⟨_,rfl,go_of (s:={s with heap:=h',toks:=tk}) (n:="range_iterator") du rfl rfl (by decide) ⟨.int<|lo+i,H,I1,⟨t,?_⟩,⟨rfl,rfl⟩,du,fun b hb=>(hf b hb).1⟩⟩;rw[Int.mul_one]
 done:=by intro X hP hw hK hc i Á s σ H E I hf st hg;subst hP hw hK;obtain⟨f0,f1,f2,f3,f4,f5⟩:=hf it (by simp);exact wpAny_pyNext_range_end (I.ok.hd hc) st (by have:n<=i:=hg;omega) fun h' eb=>⟨rfl,I.turned (t':=s.toks) (fun b o hb e=>eb b o hb e) f0 f1 f3 f4 f5⟩
 self:=fun _ _ _ _ _ st h=>wpAny_pyIter_rangeiter st h
section
variable {X:Cx}{tg:Expr}
variable {Á:List (È×Obj)} {σ:St} {H:Hp} {s:Å}
theorem NA{R:It->Hp->Prop}{E:Ã->Å->Prop}{lo hi:Int}{t u v:Tok}{tk:Nat}(I:Inv X Á σ H s)(h1:-(2 ^ 62)<=lo)(h2:lo<2 ^ 62)(h3:-(2 ^ 62)<=hi)(h4:hi<2 ^ 62)
  (q:R (Itr lo (hi - lo).toNat) H):wpAny (Û X.prog X.w) X.A (bV<|.ref s.heap.objs.size) (PIE X Á σ tg R) E {s with heap:=s.heap.push {cls:=.type "range",data:=.fields #[.int lo t,.int hi u,.int 1 v]},toks:=tk}:=by
 refine wpAny_pyIter_range (IsRange.new ..) (small_one h1 h2 h3 h4) ?_;have I1:Inv X Á σ H { s with heap:=s.heap.push { cls:=.type "range",data:=.fields #[.int lo t,.int hi u,.int 1 v] },toks:=tk }:=I.kept fun b o e=>Ä _ e;refine⟨(s.heap.push { cls:=.type "range",data:=.fields #[.int lo t,.int hi u,.int 1 v] }).objs.size,[(s.heap.push { cls:=.type "range",data:=.fields #[.int lo t,.int hi u,.int 1 v] }).objs.size],_,_,H,rfl,
   I1.kept (t':=tk) fun b o e=>Ä _ e,Op _ lo (hi - lo).toNat,?_,fun b hb=>?_,q⟩
 .have e1:lo+((0:Nat):Int)*1=lo:=by simp
  have e2:(((hi - lo).toNat:Nat):Int) - ((0:Nat):Int)=Builtin.Range.rangeSize lo hi 1:=by rw[rangeSize_one];split<;>omega
  show IsRangeIter _ _ (lo+((0:Nat):Int)*1) ((((hi - lo).toNat:Nat):Int) - ((0:Nat):Int)) 1;rw[e1,e2];exact Ï _ rfl
 .have e:b=(s.heap.push {cls:=.type "range",data:=.fields #[.int lo t,.int hi u,.int 1 v]}).objs.size:=by simpa using hb
  subst e;exact I1.fpOk (Î _)<|I1.hok.fresh<|Î _
noncomputable def PR(ta:TA):TI:=fun σ H R=>ta σ H fun vs H1=>∃j:Int,vs=[.int j]/\-(2 ^ 62)<=j/\j<2 ^ 62/\R (Itr 0 j.toNat) H1
noncomputable def Pa(ta:TA):TI:=fun σ H R=>ta σ H fun vs H1=>∃i j:Int,vs=[.int i,.int j]/\(-(2 ^ 62)<=i/\i<2 ^ 62/\-(2 ^ 62)<=j/\j<2 ^ 62)/\R (Itr i (j - i).toNat) H1
variable {a:Expr} {ta:TA} {p:Pos} {pos:Pos}
theorem UU(hg:Gl X "range")(hm:X.mg "range" = none)(ha:PA X [a] ta)(hs:Õ [a] X.env=[(false,eval a X.env)]:=by rfl):PI X tg (.Call (.Name "range" p) [a] [] pos)<|PR ta:=by
 intro Á s σ H R I h;refine Call_<|Yt I hg hm boot_range<|PyProof.Rows.callWith_type1 (thn (ha pos Á s σ H _ I h) fun us s1 ⟨vs,H1,I1,r1,q1⟩=>?_) hs rfl;obtain⟨j,e,q1,q2,q⟩:=q1;subst e;cases r1 with
 |cons r rr =>cases rr;obtain⟨t,rfl⟩:=r;exact call_range_1 (NA I1 (by omega) (by omega) q1 q2<|by simpa using q)
theorem AL{b:Expr}(hg:Gl X "range")(hm:X.mg "range" = none)(ha:PA X [a,b] ta)(hs:Õ [a,b] X.env=[(false,eval a X.env),(false,eval b X.env)]:=by rfl)(hs2:Õ [b] X.env=[(false,eval b X.env)]:=by rfl) :
  PI X tg (.Call (.Name "range" p) [a,b] [] pos) (Pa ta):=by
 intro Á s σ H R I h;refine Call_ (Yt I hg hm boot_range<|PyProof.Rows.callWith_type1 (thn (ha pos Á s σ H _ I h) fun us s1 ⟨vs,H1,I1,r1,q1⟩=>?_) (by rw[hs,hs2])<|by rw[hs2];rfl);obtain⟨i,j,e,⟨q1,q2,q3,q4⟩,q⟩:=q1;subst e;cases r1 with
 |cons r rr =>
  cases rr with
  |cons r' rr =>cases rr;obtain⟨t,rfl⟩:=r;obtain⟨t',rfl⟩:=r';exact call_range_2<|NA I1 q1 q2 q3 q4 q
noncomputable def R6(wi:TI)(g:TG)(tb:TS):TS:=fun D σ H=>wi σ H fun J H1=>∃W:Nat->Nat->St->Hp->Prop,(∃m,W 0 m σ H1)/\∀i m σ H,W i m σ H->
 (J.stop i H/\D.nx σ H)\/(J.go i H/\∃N:St->Hp->Prop,(∀Ś H',N Ś H'->∃m',m'<m/\W (i+1) m' Ś H')/\∀x H',J.yld i H x H'->g x σ H' fun σ2 H2=>tb {D with nx:=N,ct:=N,bk:=D.nx} σ2 H2)
noncomputable def Xn(fp:List È)(h:ā):List<|È×Obj:=fp.filterMap fun b=>(h.get? b).map fun o=>(b,o)
variable {fp:List È} {h:ā}
theorem ZR{b:È}{o:Obj}(hb:b∈fp)(e:h.get? b=some o):(b,o)∈Xn fp h:=ν.mpr ⟨b,hb,by rw[e];rfl⟩
theorem Ks{p:È×Obj}(hp:p∈Xn fp h):p.1∈fp/\h.get? p.1=some p.2:=by
 obtain⟨b,hb,e⟩:=ν.mp hp;cases q:h.get? b with
 |none=>rw[q]at e;cases e
 |some o =>rw[q]at e;have e':(b,o)=p:=ú e;subst e';exact⟨hb,q⟩
theorem Inv.pinned(I:Inv X Á σ H s)(hf:∀b∈fp,Wa X Á H b)(ho:∀b∈fp,∃o,s.heap.get? b=some o/\∀v,o.data≠.cell v):Inv X (Á++Xn fp s.heap) σ H s :=
 I.pins_of fun p hp=>(é.mp hp).elim (fun z=>I.pin p<|Ê _ z) fun z=>by obtain⟨hb,e⟩:=Ks z;obtain⟨f0,f1,f2,_⟩:=hf p.1 hb;obtain⟨o,e',d⟩:=ho p.1 hb;rw[e]at e';cases e';exact⟨e,f0,f1,f2,d⟩
theorem Inv.unpinned{pl:List (È×Obj)}(I:Inv X (Á++pl) σ H s):Inv X Á σ H s:=I.pins_of fun p hp=>I.pin p (Ê _<|â _ hp)
theorem Bw{ū:Expr}{body:List Ļ}{wi:TI}{g:TG}{tb:TS}(hp:ϲ (Û X.prog X.w) X.A X.env X.xe)(hc:X.calm=true)(hi:PI X tg ū wi)(hg:PG X tg g)(hb:PSs X body tb)
  (hs:∀x,Ě ū X.env x=pure x:=by intro _;rfl):PS X (.For tg ū body [] pos)<|R6 wi g tb:=by
 intro Á s σ H D I h;refine wpAny_For (thn (hi Á s σ H _ I h) fun v s1 h1=>thn h1 fun itv s2 h2=>?_) hs;obtain⟨it,fp,tn,J,H2,e,I2,T,st2,f2,W,⟨m0,w0⟩,turn⟩:=h2;subst e;have stat:∀{H':Hp},(∀b∈fp,H' b=none)->∀b∈fp,Wa X Á H' b:=fun hn b hb=>⟨hn b hb,(f2 b hb).2⟩
 refine codeAny_forLoop_any (fun n s'=>∃i Ś H',Inv X Á Ś H' s'/\tn i s'.heap/\(∀b∈fp,H' b=none)/\W i n Ś H') ?_ m0 ⟨0,σ,H2,I2,st2,fun b hb=>(f2 b hb).1,w0⟩;rintro n s3 ⟨i,σ3,H3,I3,st3,fr3,w3⟩;rcases turn i n σ3 H3 w3 with⟨stop,qn⟩|⟨go,N,hN,step⟩
 .refine ς hp<|thn (T.done X rfl rfl rfl hc i Á s3 σ3 H3 X.xe I3 (stat fr3) st3 stop) fun r s4 ⟨hr,I4⟩=>?_;subst hr;exact wpAny_execs_nil ⟨σ3,H3,I4,qn⟩
 .refine ς hp<|thn (T.item X rfl rfl rfl hc i Á s3 σ3 H3 X.xe I3 (stat fr3) st3 go) fun r s4 ⟨u,hr,h4⟩=>?_;subst hr;refine ς hp<|thn h4 fun _ s5 ⟨x,H5,I5,r5,y5,st5,fr5⟩=>?_;have I5':=I5.pinned (stat fr5)<|T.obj _ _ st5;refine ς hp<|thn (hg _ s5 σ3 H5 x u _ I5' r5<|step x H5 y5) fun _ s6 ⟨σ6,H6,I6,q6⟩=>?_;refine ς hp<|thn (hb _ s6 σ6 H6 _ I6 q6) fun f s7 q7=>?_;have again:∀{aY:St}{H7:Hp},Inv X (Á++Xn fp s5.heap) aY H7 s7->N aY H7->∃m,m<n/\∃i Ś H',Inv X Á Ś H' s7/\tn i s7.heap/\(∀b∈fp,H' b=none)/\W i m Ś H':=fun{aY H7} I7 n7=>by
   obtain⟨m',hm,w7⟩:=hN aY H7 n7;refine⟨m',hm,i+1,aY,H7,I7.unpinned,T.keep _ _ _ st5 fun b hb o e=>(I7.pin (b,o)<|Ê _<|Ê _<|ZR hb e).1,fun b hb=>?_,w7⟩;obtain⟨o,e,d⟩:=T.obj _ _ st5 b hb;exact(I7.pin (b,o)<|Ê _<|Ê _<|ZR hb e).2.1
  cases f with
  |next=>obtain⟨aY,H7,I7,n7⟩:=q7;exact again I7 n7
  |cont=>obtain⟨aY,H7,I7,n7⟩:=q7;exact again I7 n7
  |brk=>obtain⟨aY,H7,I7,q7⟩:=q7;exact⟨aY,H7,I7.unpinned,q7⟩
  |ret v=>obtain⟨x7,aY,H7,I7,r7,q7⟩:=q7;exact⟨x7,aY,H7,I7.unpinned,r7,q7⟩
end
noncomputable abbrev R2:=V->V->Hp->VK->Prop
def OpR(X:Cx)(f:Ã->Ã->Sem Ã)(r:R2):Prop :=
 ∀(Á:List<|È×Obj) (s:Å) (σ:St) (H:Hp) (x y:V) (v u:Ã) (Q:VK),Inv X Á σ H s->RelV x v->RelV y u->r x y H Q->
  wpAny (Û X.prog X.w) X.A (f v u) (EP X Á σ Q) X.xe s
def UnR(X:Cx)(f:Ã->Sem Ã)(r:V->Hp->VK->Prop):Prop :=
 ∀(Á:List<|È×Obj) (s:Å) (σ:St) (H:Hp) (x:V) (v:Ã) (Q:VK),Inv X Á σ H s->RelV x v->r x H Q->
  wpAny (Û X.prog X.w) X.A (f v) (EP X Á σ Q) X.xe s
def CallR(X:Cx)(f:Ã)(r:List V->Hp->VK->Prop):Prop :=
 ∀(Á:List<|È×Obj) (s:Å) (σ:St) (H:Hp) (xs:List V) (us:List Ã) (Q:VK),Inv X Á σ H s->Vals xs us->r xs H Q->
  wpAny (Û X.prog X.w) X.A (call f us) (EP X Á σ Q) X.xe s
def RC(X:Cx)(r:V->Hp->(Bool->Hp->Prop)->Prop):Prop :=
 ∀(Á:List<|È×Obj) (s:Å) (σ:St) (H:Hp) (x:V) (v:Ã) (Q:Bool->Hp->Prop),Inv X Á σ H s->RelV x v->r x H Q->
  wpAny (Û X.prog X.w) X.A (truthy v) (TP X Á σ Q) X.xe s
noncomputable def tOp(r:R2)(ta tb:TE):TE:=fun σ H Q=>ta σ H fun x H1=>tb σ H1 fun y H2=>r x y H2 Q
noncomputable def tUn(r:V->Hp->VK->Prop)(ta:TE):TE:=fun σ H Q=>ta σ H fun x H1=>r x H1 Q
noncomputable def rI(C:Int->Int->Prop)(g:Int->Int->V):R2:=fun x y H Q=>∃i j,x=.int i/\y=.int j/\C i j/\Q (g i j) H
noncomputable def rI0(g:Int->Int->V):R2:=fun x y H Q=>∃i j,x=.int i/\y=.int j/\Q (g i j) H
def rU(g:Int->V):V->Hp->VK->Prop:=fun x H Q=>∃i,x=.int i/\Q (g i) H
section
variable {X:Cx}{a b c:Expr}{ta tb tc:TE}{pos:Pos}
variable {f:Ã->Ã->Sem Ã}
theorem Lm(ha:PE X a ta)(hb:PE X b tb){Á:List (È×Obj)}{s:Å}{σ:St}{H:Hp}{R:V->V->Hp->Prop}(I:Inv X Á σ H s)
  (h:ta σ H fun x H1=>tb σ H1 fun y H2=>R x y H2){Q:Ã->Å->Prop} 
  (hf:∀v u s2 x y H2,Inv X Á σ H2 s2->RelV x v->RelV y u->R x y H2->wpAny (Û X.prog X.w) X.A (f v u) Q X.xe s2) :
  wpAny (Û X.prog X.w) X.A (eval a X.env) (fun v ġ=>wpAny (Û X.prog X.w) X.A (eval b X.env) (fun u bC=>wpAny (Û X.prog X.w) X.A (f v u) Q X.xe bC) X.xe ġ) X.xe s:=by
 refine thn (ha Á s σ H _ I h) fun v s1 ⟨x,H1,I1,r1,q1⟩=>?_;refine thn (hb Á s1 σ H1 _ I1 q1) fun u s2 ⟨y,H2,I2,r2,q2⟩=>?_;exact hf v u s2 x y H2 I2 r1 r2 q2
theorem Qp{op:aG}{r:R2}(ho:OpR X (ń op) r)(ha:PE X a ta)(hb:PE X b tb):PE X (.BinOp a op b pos)<|tOp r ta tb:=by intro Á s σ H Q I h;exact wpAny_BinOp (Lm ha hb I h fun v u s2 x y H2 I2 rx ry q=>ho Á s2 σ H2 x y v u Q I2 rx ry q)
theorem Gc{op:UnaryOp}{r:V->Hp->VK->Prop}(ho:UnR X (unaryOp op) r)(ha:PE X a ta):PE X (.UnaryOp op a pos)<|tUn r ta:=by intro Á s σ H Q I h;exact UnaryOp_ (thn (ha Á s σ H _ I h) fun v s1 ⟨x,H1,I1,r1,q1⟩=>ho Á s1 σ H1 x v Q I1 r1 q1)
variable {g:Int->Int->Int}
theorem opI{C:Int->Int->Prop} 
  (rule:∀(i j:Int) (t u:Tok) (s:Å) (Q:Ã->Å->Prop) (E:Ã->Å->Prop),C i j->Q (.int (g i j) s.toks) {s with toks:=s.toks+1}->wpAny (Û X.prog X.w) X.A (f (.int i t)<|.int j u) Q E s) :
  OpR X f (rI C fun i j=>.int<|g i j):=by
 intro Á s σ H x y v u Q I rx ry h;obtain⟨i,j,rfl,rfl,hc,q⟩:=h;obtain⟨t,rfl⟩:=rx;obtain⟨t',rfl⟩:=ry;exact rule i j t t' s _ _ hc ⟨.int<|g i j,H,I.tok _,⟨_,rfl⟩,q⟩
theorem QS  
  (rule:∀(i j:Int) (t u:Tok) (s:Å) (Q:Ã->Å->Prop) (E:Ã->Å->Prop),Q (.int (g i j) s.toks) {s with toks:=s.toks+1}->wpAny (Û X.prog X.w) X.A (f (.int i t)<|.int j u) Q E s) :
  OpR X f (rI0 fun i j=>.int<|g i j):=by
 intro Á s σ H x y v u Q I rx ry h;obtain⟨i,j,rfl,rfl,q⟩:=h;obtain⟨t,rfl⟩:=rx;obtain⟨t',rfl⟩:=ry;exact rule i j t t' s _ _ ⟨.int<|g i j,H,I.tok _,⟨_,rfl⟩,q⟩
theorem Fa{g:Int->Int->Bool}
  (rule:∀(i j:Int) (t u:Tok) (s:Å) (Q:Ã->Å->Prop) (E:Ã->Å->Prop),Q (.bool<|g i j) s->wpAny (Û X.prog X.w) X.A (f (.int i t)<|.int j u) Q E s) :
  OpR X f (rI0 fun i j=>.bl<|g i j):=by
 intro Á s σ H x y v u Q I rx ry h;obtain⟨i,j,rfl,rfl,q⟩:=h;obtain⟨t,rfl⟩:=rx;obtain⟨t',rfl⟩:=ry;exact rule i j t t' s _ _ ⟨.bl<|g i j,H,I,rfl,q⟩
def QK(i j:Int):Prop:=0<j/\j<1073741824
def QG(i j:Int):Prop:=0<=j/\j<=1000000/\i.natAbs<2 ^ 64
def CMul(i j:Int):Prop:=(-(2 ^ 64)<i/\i<2 ^ 64)\/(-(2 ^ 64)<j/\j<2 ^ 64)
theorem CMul.ok{i j:Int}(h:CMul i j):IntMulOk i j:=by
 rcases h with⟨h1,h2⟩|⟨h1,h2⟩
 .exact .of_left<|ac h1 h2
 .exact .of_right<|ac h1 h2
theorem op_add:OpR X (ń .Add)<|rI0 fun i j=>.int<|i+j:=QS fun _ _ _ _ _ _ _ q=>add_int q
theorem LK:OpR X (ń .Sub)<|rI0 fun i j=>.int<|i - j:=QS fun _ _ _ _ _ _ _ q=>sub_int q
theorem El:OpR X (ń .FloorDiv)<|rI QK fun i j=>.int<|i / j:=opI fun i j _ _ _ _ _ hc q=>by have h1:(0:Int)<j:=hc.1;have h2:j<1073741824:=hc.2;exact floordiv_int (by omega) (by rw[Int.fdiv_eq_ediv_of_nonneg i<|by omega];exact q) (.inl<|PyProof.noPylong_small<|by omega)
theorem IE:OpR X (ń .Mod)<|rI (fun _ j=>0<j) fun i j=>.int<|i % j:=opI fun i j _ _ _ _ _ hc q=>by have h1:(0:Int)<j:=hc;exact mod_int' (by omega) (by rw[Int.fmod_eq_emod_of_nonneg i<|by omega];exact q)
theorem Ls:OpR X (ń .Pow)<|rI QG fun i j=>.int<|i ^ j.toNat:=opI fun _ _ _ _ _ _ _ hc q=>pow_int_small hc.1 hc.2.1 hc.2.2 q
theorem unI{f:Ã->Sem Ã}{g:Int->Int}
  (rule:∀(i:Int) (t:Tok) (s:Å) (Q:Ã->Å->Prop) (E:Ã->Å->Prop),Q (.int (g i) s.toks) {s with toks:=s.toks+1}->wpAny (Û X.prog X.w) X.A (f<|.int i t) Q E s) :
  UnR X f (rU fun i=>.int<|g i):=by
 intro Á s σ H x v Q I rx h;obtain⟨i,rfl,q⟩:=h;obtain⟨t,rfl⟩:=rx;exact rule i t s _ _ ⟨.int<|g i,H,I.tok _,⟨_,rfl⟩,q⟩
theorem DA:UnR X (unaryOp .USub)<|rU fun i=>.int (-i):=unI fun _ _ _ _ _ q=>neg_int q
end
section
variable {X:Cx}{a b c:Expr}{ta tb tc:TE}{pos:Pos}
theorem HD{Á:List (È×Obj)}{σ:St}{H:Hp}{s:Å}{Q:VK}{k k':Bool}(I:Inv X Á σ H s)(q:Q (.bl k) H)(e:k=k'):EP X Á σ Q (.bool k') s:=by subst e;exact⟨.bl k,H,I,rfl,q⟩
theorem op_lt:OpR X (è .Lt)<|rI0 fun i j=>.bl<|decide (i<j):=Fa fun _ _ _ _ _ _ _ q=>lt_int q
theorem Qb:OpR X (è .LtE)<|rI0 fun i j=>.bl<|decide (i<=j):=Fa fun _ _ _ _ _ _ _ q=>le_int q
theorem op_gt:OpR X (è .Gt)<|rI0 fun i j=>.bl<|decide (j<i):=Fa fun _ _ _ _ _ _ _ q=>gt_int q
theorem QN:OpR X (è .GtE)<|rI0 fun i j=>.bl<|decide (j<=i):=Fa fun _ _ _ _ _ _ _ q=>ge_int q
theorem AO:OpR X (è .In) fun x y H Q=>∃i j,x=.str i/\y=.str j/\Q (.bl (!(Builtin.Str.occurrences j i 0 j.length 1).isEmpty)) H:=by intro Á s σ H x y v u Q I rx ry h;obtain⟨i,j,rfl,rfl,q⟩:=h;obtain⟨t,rfl⟩:=rx;obtain⟨t',rfl⟩:=ry;exact in_str (HD I q rfl)
variable {r:R2} {r':R2}
theorem OpR.or{f:Ã->Ã->Sem Ã}(h:OpR X f r)(h':OpR X f r'):OpR X f fun x y H Q=>r x y H Q\/r' x y H Q:=by
 intro Á s σ H x y v u Q I rx ry q;rcases q with q|q
 .exact h Á s σ H x y v u Q I rx ry q
 .exact h' Á s σ H x y v u Q I rx ry q
variable {op:bU}
theorem Up(ho:OpR X (è op) r)(ha:PE X a ta)(hb:PE X b tb)(hm:Ĺ op b=false):PE X (.Compare a [op] [b] pos)<|tOp r ta tb:=by intro Á s σ H Q I h;exact wpAny_Compare1 (Lm ha hb I h fun v u s2 x y H2 I2 rx ry q=>ho Á s2 σ H2 x y v u Q I2 rx ry q) hm
noncomputable def F0(t:TE):TT:=fun σ H Q=>t σ H fun x H'=>∃k,x=.bl k/\Q k H'
theorem Ug(ho:OpR X (è op) r)(ha:PE X a ta)(hb:PE X b tb)(hm:Ĺ op b=false):PT X (.Compare a [op] [b] pos)<|F0<|tOp r ta tb:=by
 intro Á s σ H Q I h;refine wpAny_isTrue_Compare1 (thn (ha Á s σ H _ I h) fun v s1 ⟨x,H1,I1,r1,q1⟩=>thn (hb Á s1 σ H1 _ I1 q1) fun u s2 ⟨y,H2,I2,r2,q2⟩ =>
   thn (ho Á s2 σ H2 x y v u _ I2 r1 r2 q2) fun c s3 ⟨z,H3,I3,r3,k,e,q3⟩=>?_) hm
 subst e;cases r3;exact đ ⟨H3,I3,q3⟩
noncomputable def DJ(r r':R2)(ta tb tc:TE):TE:=fun σ H Q=>ta σ H fun x H1=>tb σ H1 fun y H2=>r x y H2 fun z H3=>∃k,z=.bl k/\
 (if k=true then tc σ H3 fun w' H4=>r' y w' H4 Q else Q (.bl false) H3)
variable {cW:bU}
theorem CU(ho:OpR X (è op) r)(ak:OpR X (è cW) r')(ha:PE X a ta)(hb:PE X b tb)(hc:PE X c tc)
  (hm:aT [op,cW] [b,c]=false:=by with_unfolding_all rfl):PE X (.Compare a [op,cW] [b,c] pos)<|DJ r r' ta tb tc:=by
 intro Á s σ H Q I h;refine Compare_chain (thn (ha Á s σ H _ I h) fun v s1 ⟨x,H1,I1,r1,q1⟩=>chain_link (thn (hb Á s1 σ H1 _ I1 q1) fun u s2 ⟨y,H2,I2,r2,q2⟩ =>
   thn (ho Á s2 σ H2 x y v u _ I2 r1 r2 q2) fun d s3 ⟨z,H3,I3,r3,k,e,q3⟩=>?_)) hm
 subst e;cases r3;refine đ ?_;cases k with
 |false=>exact ite_ff ⟨.bl false,H3,I3,rfl,q3⟩
 |true=>exact ite_tt<|chain_last<|thn (hc Á s3 σ H3 _ I3 q3) fun w' s4 ⟨z',H4,I4,r4,q4⟩=>ak Á s4 σ H4 y z' u w' Q I4 r2 r4 q4
theorem BC(ho:OpR X (è op) r)(ak:OpR X (è cW) r')(ha:PE X a ta)(hb:PE X b tb)(hc:PE X c tc)
  (hm:aT [op,cW] [b,c]=false:=by with_unfolding_all rfl):PT X (.Compare a [op,cW] [b,c] pos)<|F0<|DJ r r' ta tb tc:=by
 intro Á s σ H Q I h;refine isTrue_chain (thn (ha Á s σ H _ I h) fun v s1 ⟨x,H1,I1,r1,q1⟩=>test_link (thn (hb Á s1 σ H1 _ I1 q1) fun u s2 ⟨y,H2,I2,r2,q2⟩ =>
   thn (ho Á s2 σ H2 x y v u _ I2 r1 r2 q2) fun d s3 ⟨z,H3,I3,r3,k,e,q3⟩=>?_)) hm
 subst e;cases r3;refine đ ?_;cases k with
 |false =>obtain⟨k',e',q'⟩:=q3;cases e';exact ite_ff ⟨H3,I3,q'⟩
 |true =>refine ite_tt<|test_last<|thn (hc Á s3 σ H3 _ I3 q3) fun w' s4 ⟨z',H4,I4,r4,q4⟩=>thn (ak Á s4 σ H4 y z' u w' _ I4 r2 r4 q4) fun d' s5 ⟨z2,H5,I5,r5,k2,e2,q5⟩=>?_;subst e2;cases r5;exact đ ⟨H5,I5,q5⟩
def QX(K:Frag)(x:V)(H:Hp)(k:Bool):Prop :=
 match x with
 |.non=>k=false
 |.bl b=>k=b
 |.int i=>k=(i != 0)
 |.str y=>y.length<=Ø/\k=((y.length:Int) != 0)
 |.byt y=>y.size<=Ø/\k=((y.size:Int) != 0)
 |.ref p=>(∃xs,SqL K H p xs/\k=!xs.isEmpty)\/(∃xs,SqT K H p xs/\k=!xs.isEmpty)\/∃kvs,H p=some (.dK kvs)/\k=!kvs.isEmpty
 |_=>False
theorem Ov{κ:Type}{kvs:List (κ×V)}{vs:List (κ×Ã)}(r:KV kvs vs):(!vs.isEmpty)=!kvs.isEmpty:=by cases r<;>rfl
theorem W7{xs:List V}{î:List Ã}(r:Vals xs î):(!î.toArray.isEmpty)=!xs.isEmpty:=by cases r<;>simp
theorem Xo:(Ø:Nat)<2 ^ 63:=by rw[Ϫ];decide
theorem HZ:RC X fun x H Q=>∃k,QX X.K x H k/\Q k H:=by
 intro Á s σ H x v Q I rx h;obtain⟨k,e,q⟩:=h;have hl:=Xo;have hs:Ø=16777216:=Ϫ;cases x with
 |non =>cases rx;have e':k=false:=e;subst e';exact truthy_none ⟨H,I,q⟩
 |bl b =>cases rx;have e':k=b:=e;subst e';exact đ ⟨H,I,q⟩
 |int i =>obtain⟨t,rfl⟩:=rx;have e':k=(i != 0):=e;subst e';exact PySem.P.truthy_int ⟨H,I,q⟩
 |str y =>obtain⟨t,rfl⟩:=rx;obtain⟨hy,e'⟩:y.length<=Ø/\k=((y.length:Int) != 0):=e;subst e';exact PySem.P.truthy_str (by omega) ⟨H,I.tok _,q⟩
 |byt y =>obtain⟨t,rfl⟩:=rx;obtain⟨hy,e'⟩:y.size<=Ø/\k=((y.size:Int) != 0):=e;subst e';exact PySem.W.truthy_bytes (by omega) ⟨H,I.tok _,q⟩
 |ref p =>
  cases rx;have e':(∃xs,SqL X.K H p xs/\k=!xs.isEmpty)\/(∃xs,SqT X.K H p xs/\k=!xs.isEmpty)\/∃kvs,H p=some (.dK kvs)/\k=!kvs.isEmpty:=e;rcases e' with⟨xs,hx,e'⟩|⟨xs,hx,e'⟩|⟨kvs,hx,e'⟩
  .subst e';obtain⟨î,r,pl,hz⟩:=I.list hx;have hlen:=r.length;exact wpAny_truthy_list pl.isList (by simp only[É];omega) ⟨H,I.tok _,by rw[W7 r];exact q⟩
  .subst e';obtain⟨î,r,pl,hz⟩:=I.tuple hx;have hlen:=r.length;exact truthy_tuple pl (by simp only[É];omega) ⟨H,I.tok _,by rw[W7 r];exact q⟩
  .subst e';obtain⟨hz,hS,vs,r,m⟩:kvs.length<=Ø/\(p==ŋ)=false/\∃vs,KV kvs vs/\s.heap.DictOf (Ze X.prog X.w) p vs:=I.hok p _ hx;have hlen:kvs.length=vs.length:=Paired.length r;exact wpAny_truthy_dict hS m (by omega) ⟨H,I.tok _,by rw[Ov r];exact q⟩
 |_=>exact(show False from e).elim
theorem BQ(ha:PE X a ta)(he:∀aq,bT a X.env aq=(do let v<-aq;Υ a.pos;Ŧ [v] (truthy v))) :
  PT X a (fun σ H Q=>ta σ H fun x H'=>∃k,QX X.K x H' k/\Q k H'):=by
 intro Á s σ H Q I h;exact isTrue_plain (thn (ha Á s σ H _ I h) fun v s1 ⟨x,H1,I1,r1,q1⟩=>HZ Á s1 σ H1 x v Q I1 r1 q1)<|he _
theorem N3:OpR X (ń .Add) fun x y H Q=>∃i j,x=.str i/\y=.str j/\i.length+j.length<=Ø/\Q (.str<|i++j) H:=by intro Á s σ H x y v u Q I rx ry h;obtain⟨i,j,rfl,rfl,hz,q⟩:=h;obtain⟨t,rfl⟩:=rx;obtain⟨t',rfl⟩:=ry;exact add_str (fun t' tk=>⟨.str<|i++j,H,I.tok _,⟨_,rfl⟩,q⟩) hz
variable {x:V} {us:List Ã}
theorem ZK(r:Vals [x] us):∃u,us=[u]/\RelV x u:=by
 cases r with
 |cons r1 r2=>cases r2;exact⟨_,rfl,r1⟩
theorem P9{y:V}(r:Vals [x,y] us):∃u w',us=[u,w']/\RelV x u/\RelV y w':=by
 cases r with
 |cons r1 r2 =>
  cases r2 with
  |cons r3 r4=>cases r4;exact⟨_,_,rfl,r1,r3⟩
theorem call_int1:CallR X (.type "int") fun xs H Q=>(∃i,xs=[.int i]/\Q (.int i) H)\/∃k,xs=[.bl k]/\Q (.int<|if k then 1 else 0) H:=by
 intro Á s σ H xs us Q I r h;rcases h with⟨i,rfl,q⟩|⟨k,rfl,q⟩
 .obtain⟨u,rfl,t,rfl⟩:=ZK r;exact call_int_int ⟨.int i,H,I,⟨_,rfl⟩,q⟩
 .obtain⟨u,rfl,r1⟩:=ZK r;cases r1;exact call_int_bool ⟨.int (if k then 1 else 0),H,I.tok _,⟨_,rfl⟩,q⟩
theorem call_str_int:CallR X (.type "str") fun xs H Q=>∃i,xs=[.int i]/\i.natAbs.log2<1920/\Q (.str<|toString i) H:=by intro Á s σ H xs us Q I r h;obtain⟨i,rfl,hz,q⟩:=h;obtain⟨u,rfl,t,rfl⟩:=ZK r;exact PySem.P.str_of_int hz ⟨.str _,H,I.tok _,⟨_,rfl⟩,q⟩
end
structure ObjM(h:ā)(x dx C:È)(mA:Str->Option Ã):Prop where
 obj:h.get? x=some (PySem.W.instObj C dx)
 ns:h.Ns1 dx mA
 ne:dx≠x
variable {h:ā} {dx:È} {mA:Str->Option Ã}
theorem Aj(n:h.Ns1 dx mA):∃od,h.get? dx=some od/\∀name,PySem.W.lookIn name od=some (mA name):=by
 obtain⟨o,es,ep,ho,hd,hk,_,hm⟩:=n;refine⟨o,ho,fun name=>?_⟩;have e:=hm name;unfold nsFind findBy at e;rw[<-Array.find?_toList]at e;unfold PySem.W.lookIn;rw[hd];dsimp only;split
 .rename_i y q;rw[q]at e;exact congrArg some e
 .rename_i q;rw[q]at e;have a:es.toList.any (·.refKey)=false:=by
   rw[List.any_eq_false];intro y hy;obtain⟨z,t,hkey⟩:=hk y<|Array.mem_toList_iff.mp hy;simp[DictEntry.refKey,hkey]
  have a':¬ es.toList.any (·.refKey)=true:=by rw[a];exact ý
  rw[if_neg a'];exact congrArg some e
variable {C:È}
theorem ObjM.look{x:È}(I:ObjM h x dx C mA):∃od,PySem.W.InstAt h x (PySem.W.instObj C dx) C (some od)/\∀name,PySem.W.lookIn name od=some (mA name) :=
 let ⟨od,ho,hl⟩:=Aj I.ns
 ⟨od,⟨I.obj,rfl,rfl,ho⟩,hl⟩
section
variable {prog:à}{w:õ}{A:Ă}{E:Ã->Å->Prop}{s:Å}{K:Frag}{x dx C f:È}{mA:Str->Option Ã}{name:Str}{v:Ã}
theorem D6{expr:Bool}{Q:Ã->Å->Prop}(X:K.In s.heap)(I:ObjM s.heap x dx C mA)(hg:PySem.W.plainGet K C name=true)(hh:PySem.W.hasDictIn K C=true)
  (ha:PySem.W.findIn K (.ref C) name=some none) (hv:mA name=some v) (hv':PySem.W.handedIn v=true) (h:Q v {s with toks:=s.toks+1}) :
  wpAny (Û prog w) A (getAttr (.ref x) name expr) Q E s:=by
 obtain⟨od,J,hl⟩:=I.look;exact PySem.W.get_value X J (PySem.W.plainGet_of hg).1 (PySem.W.findObj_own hh ha rfl<|by rw[hl,hv]) hv' h
theorem BD{pl:Sem Bool}{Q:Ã×List Ã->Å->Prop}(X:K.In s.heap)(I:ObjM s.heap x dx C mA)(hg:PySem.W.plainGet K C name=true)
  (hf:PySem.W.findIn K (.ref C) name=some (some<|.ref f)) (ht:PySem.W.isFn K (.ref f)=true) (hv:mA name=none) (h:Q (.ref f,[.ref x]) s) :
  wpAny (Û prog w) A (ϑ (.ref x) name pl) Q E s:=by
 obtain⟨od,J,hl⟩:=I.look;exact PySem.W.method_fn X J (PySem.W.plainGet_of hg).1 (PySem.W.plainGet_of hg).2 hf (beq_iff_eq.mp ht) (by show(PySem.W.lookIn name od).map (·.isSome)=some false;rw[hl,hv];rfl) h
theorem FL{ns:List Str}{Q:Unit->Å->Prop}(X:K.In s.heap)(I:ObjM s.heap x dx C mA)
  (hs:PySem.W.findIn K (.ref C) "__setattr__" = some (some<|.builtin "object.__setattr__")) (hp:PySem.W.plainOver K C=true) (ht:PySem.W.takerIn K C name=some none) (hh:PySem.W.hasDictIn K C=true)
  (hw:PySem.Within mA ns) (hsz:ns.length<=Ø)
  (h:∀h',ObjM h' x dx C (fun y=>if y=name then some v else mA y)->Ŏ dx s.heap h'->Q () {s with heap:=h',toks:=s.toks+2}) :
  wpAny (Û prog w) A (setAttr (.ref x) name v) Q E s:=by
 obtain⟨od,J,hl⟩:=I.look;refine PySem.W.set_plain X J hs<|PySem.W.osa_open (s:={s with toks:=s.toks+1}) (r:=none) X J hp ht fun b=>?_;obtain⟨cd,hc,hd'⟩:=PySem.W.any_some hh;have hx:s.heap.get? x=some ⟨.ref C,some dx,.plain,#[]⟩:=I.obj;refine À<|Æ<|À<|À<|wpAny_loadPart hx<|À<|PySem.W.Looks.here (s:={s with toks:=s.toks+1}) (PySem.W.looks_clsIn X hc) ?_;rw[hd'];refine Æ (a:=some dx)<|À<|Æ<|À ?_;refine wpAny_nsSet1 (s:={s with toks:=s.toks+1}) I.ns fun h' hn2 hs2=>?_;obtain⟨oD,esD,epD,hoD,hdD,hcD⟩:=hn2.count<|PySem.Within.cons name v hw;refine À (wpAny_lookBehind hoD (by rw[hdD];exact pastItsLine_dict<|Ó hcD<|by rw[Ì];omega) ?_);exact Æ<|h _ ⟨(hs2.2 _<|Ne.symm I.ne).trans I.obj,hn2,I.ne⟩ hs2
theorem A4{R:aU->Å->Prop}{vs:List Ã}{kw:List (Str×Ã)}(X:K.In s.heap)(hm:PySem.W.makesIn K C=true)
  (hi:PySem.W.findIn K (.ref C) "__init__" = some (some<|.ref f)) (hf:PySem.W.typeIn K (.ref f)=some (.type "function"))
  (h:codeAny (Û prog w) (A.under<|.builtin "type.__call__" ⟨.ref C::vs,kw⟩) (.call (.ref f) ⟨.ref (s.heap.objs.size+1)::vs,kw⟩) (PySem.W.InitBack (s.heap.objs.size+1) R)
    { s with heap:=(s.heap.push PySem.W.emptyDict).push (PySem.W.instObj C s.heap.objs.size) }) :
  codeAny (Û prog w) A (.call (.ref C) ⟨vs,kw⟩) R s:=by
 obtain⟨hh,g,d,t,os⟩:=s;exact PySem.W.make_core (PySem.W.makes_of X hm) (PySem.W.looks_findIn X hi) (fun self=>PySem.W.bind_fn X self hf) (.inl rfl) h
end
noncomputable def putF(f:Str)(v:V):List (Str×V)->List (Str×V)
 |[]=>[(f,v)]
 |(g,x)::r=>if g=f then(g,v)::r else(g,x)::putF f v r
theorem Wn(f g:Str)(v:V):∀fs:List<|Str×V,(putF f v fs).lookup g=if g=f then some v else fs.lookup g
 |[]=>by
  show ż g [(f,v)]=_;by_cases h:g=f
  .have hb:(g==f)=true:=beq_iff_eq.mpr h;simp only[ż,hb,if_pos h]
  .have hb:(g==f)=false:=beq_eq_false_iff_ne.mpr h;simp only[ż,hb,if_neg h]
 |(k,x)::r=>by
  have ih:=Wn f g v r;rw[show putF f v ((k,x)::r)=(if k=f then(k,v)::r else(k,x)::putF f v r) from rfl];by_cases hk:k=f
  .rw[if_pos hk];by_cases h:g=k
   .have hb:(g==k)=true:=beq_iff_eq.mpr h;simp only[ż,hb,if_pos<|h.trans hk]
   .have hb:(g==k)=false:=beq_eq_false_iff_ne.mpr h;simp only[ż,hb,if_neg fun e:g=f=>h<|e.trans hk.symm]
  .rw[if_neg hk];by_cases h:g=k
   .have hb:(g==k)=true:=beq_iff_eq.mpr h;simp only[ż,hb,if_neg fun e:g=f=>hk<|h.symm.trans e]
   .have hb:(g==k)=false:=beq_eq_false_iff_ne.mpr h;simp only[ż,hb];exact ih
theorem X7(f:Str)(v:V):∀fs:List<|Str×V,f∈(putF f v fs).map (·.1)/\∀g,g∈fs.map (·.1)->g∈(putF f v fs).map (·.1)
 |[]=>⟨by simp[putF],fun g h=>by simp at h⟩
 |(k,x)::r=>by
  obtain⟨i1,i2⟩:=X7 f v r;rw[show putF f v ((k,x)::r)=(if k=f then(k,v)::r else(k,x)::putF f v r) from rfl];by_cases hk:k=f
  .rw[if_pos hk];subst hk;exact⟨by simp,fun g h=>by simpa using h⟩
  .rw[if_neg hk];refine⟨?_,fun g h=>?_⟩
   .rw[Ð];exact Ô _ i1
   .rw[Ð]at h ⊢;rcases Ç.mp h with e|e
    .exact Ç.mpr<|.inl e
    .exact Ô _<|i2 g e
theorem Wp(f:Str)(v:V):∀fs:List<|Str×V,(putF f v fs).length<=fs.length+1
 |[]=>by simp[putF]
 |(k,x)::r=>by
  have ih:=Wp f v r;rw[show putF f v ((k,x)::r)=(if k=f then(k,v)::r else(k,x)::putF f v r) from rfl];by_cases hk:k=f
  .rw[if_pos hk,Ì,Ì];omega
  .rw[if_neg hk,Ì,Ì];omega
variable {o:Option Ã}
theorem RelO.some_of{v:V}(r:RelO (some v) o):∃u,o=some u/\RelV v u:=by
 cases o with
 |none=>exact(show False from r).elim
 |some u=>exact⟨u,rfl,r⟩
theorem RelO.none_of(r:RelO none o):o=none:=by
 cases o with
 |none=>rfl
 |some u=>exact(show False from r).elim
variable {u:Ã}
theorem At{v:V}(r:RelV v u):PySem.W.handedIn u=true:=by
 cases v with
 |non=>cases (show u=Value.none from r);rfl
 |bl b=>cases (show u=Value.bool b from r);rfl
 |int i=>obtain⟨t,e⟩:=(show ∃t,u=Value.int i t from r);cases e;rfl
 |str x=>obtain⟨t,e⟩:=(show ∃t,u=Value.str x t from r);cases e;rfl
 |byt b=>obtain⟨t,e⟩:=(show ∃t,u=Value.bytes b t from r);cases e;rfl
 |flt b=>obtain⟨t,e⟩:=(show ∃t,u=Value.float b t from r);cases e;rfl
 |ref a=>cases (show u=Value.ref a from r);rfl
 |ty n=>cases (show u=Value.type n from r);rfl
section
variable {P:à}{w:õ}{H H':Hp}{h h':ā}{a C dx:È}{fs dr:List (Str×V)}
theorem WE(hok:HOk P w H h)(e:H a=some (.ins C dx fs)):∃mA,ObjM h a dx C mA/\(∀f,RelO (fs.lookup f)<|mA f)/\PySem.Within mA (fs.map (·.1))/\fs.length<=1000/\H dx=some (.own a):=by
 obtain⟨d,z,ne,ob,mA,n,r,q⟩:=(show ObjOk P w H h a (.ins C dx fs) from hok a _ e)
 exact⟨mA,⟨ob,n,ne⟩,r,q,z,d⟩
end
structure Cls(K:Frag)(C:È):Prop where
 pg:PySem.W.plainGet K C Str.empty=true
 hd:PySem.W.hasDictIn K C=true
 po:PySem.W.plainOver K C=true
 sa:PySem.W.findIn K (.ref C) "__setattr__" = some (some<|.builtin "object.__setattr__")
theorem Cls.get{K:Frag}(c:Cls K C)(f:Str):PySem.W.plainGet K C f=true:=c.pg
def NoAttr(K:Frag)(C:È)(f:Str):Prop:=PySem.W.findIn K (.ref C) f=some none
theorem NoAttr.taker{K:Frag}{f:Str}(n:NoAttr K C f):PySem.W.takerIn K C f=some none:=by unfold PySem.W.takerIn;rw[show PySem.W.findIn K (.ref C) f=some none from n];rfl
structure Meth(K:Frag)(C:È)(m:Str)(f:È):Prop where
 at_:PySem.W.findIn K (.ref C) m=some (some<|.ref f)
 fn:PySem.W.isFn K (.ref f)=true
 kp:PySem.W.keepIn K (.ref f)=true
section
variable {X:Cx}{Á:List (È×Obj)}{σ:St}{H:Hp}{s:Å}{a C dx:È}{fs:List (Str×V)}{f:Str}{v:V}{A:Ă}{E:Ã->Å->Prop}
variable {Q:Ã->Å->Prop}
theorem Js{b:Bool}(I:Inv X Á σ H s)(e:H a=some (.ins C dx fs))(c:Cls X.K C)(n:NoAttr X.K C f)(l:fs.lookup f=some v)
  (h:∀u s',Inv X Á σ H s'->RelV v u->Q u s'):wpAny (Û X.prog X.w) A (getAttr (.ref a) f b) Q E s:=by
 obtain⟨mA,O,r,_,_,_⟩:=WE I.hok e;obtain⟨u,hu,ru⟩:=RelO.some_of (v:=v) (o:=mA f) (by rw[<-l];exact r f);exact D6 I.kIn O (c.get f) c.hd n hu (At ru)<|h u _ (I.tok _) ru
theorem Jt{m:Str}{g:È}{pl:Sem Bool}{Q:Ã×List Ã->Å->Prop}(I:Inv X Á σ H s)(e:H a=some (.ins C dx fs))(c:Cls X.K C)(k:Meth X.K C m g)(l:fs.lookup m=none)
  (h:Q (.ref g,[.ref a]) s):wpAny (Û X.prog X.w) A (ϑ (.ref a) m pl) Q E s:=by
 obtain⟨mA,O,r,_,_,_⟩:=WE I.hok e;have hn:mA m=none:=RelO.none_of (by rw[<-l];exact r m);exact BD I.kIn O (c.get m) k.at_ k.fn hn h
theorem W8{y:V}{Q:Unit->Å->Prop}(I:Inv X Á σ H s)(e:H a=some (.ins C dx fs))(c:Cls X.K C)(n:NoAttr X.K C f)(hl:fs.length<1000)(ry:RelV y u)
  (h:∀s',Inv X Á σ (upd H a<|.ins C dx<|putF f y fs) s'->Q () s'):wpAny (Û X.prog X.w) A (setAttr (.ref a) f u) Q E s:=by
 obtain⟨mA,O,r,wi,_,ho⟩:=WE I.hok e;have hz:(fs.map (·.1)).length<=Ø:=by rw[Â,Ϫ];omega
 refine FL I.kIn O c.sa c.po n.taker c.hd wi hz fun h' O' sb=>h _ ?_;have hd:∃o,h'.get? dx=some o:=let ⟨o,_,_,e',_⟩:=O'.ns;⟨o,e'⟩;refine I.write (x:=a) (e:=dx) (by rw[e];exact True.intro) (.inr ho) (fun b q hb z=>(sb.2 b hb).trans z) hd ?_;refine⟨by rw[upd_ne O.ne];exact ho,?_,O.ne,O'.obj,_,O'.ns,fun g=>?_,fun g hg=>?_⟩
 .have:=Wp f y fs;omega
 .show RelO ((putF f y fs).lookup g) (if g=f then some u else mA g);rw[Wn];by_cases q:g=f
  .rw[if_pos q,if_pos q];exact ry
  .rw[if_neg q,if_neg q];exact r g
 .by_cases q:g=f
  .rw[q];exact(X7 f y fs).1
  .refine(X7 f y fs).2 g<|wi g fun z=>hg ?_;show(if g=f then some u else mA g)=none;rw[if_neg q];exact z
theorem Inv.made(I:Inv X Á σ H s):Inv X Á σ (upd (upd H s.heap.objs.size<|.own<|s.heap.objs.size+1) (s.heap.objs.size+1)<|.ins C s.heap.objs.size [])
  {s with heap:=(s.heap.push PySem.W.emptyDict).push (PySem.W.instObj C s.heap.objs.size)}:=by
 have e1:(s.heap.push PySem.W.emptyDict).get? s.heap.objs.size=some PySem.W.emptyDict:=Ï s.heap rfl;have e2:((s.heap.push PySem.W.emptyDict).push<|PySem.W.instObj C s.heap.objs.size).get? (s.heap.objs.size+1)=some (PySem.W.instObj C s.heap.objs.size):=by
  have:=Ï (s.heap.push PySem.W.emptyDict) (o:=PySem.W.instObj C s.heap.objs.size) rfl
  rwa [ś]at this
 have e3:(s.heap.push PySem.W.emptyDict).Ns s.heap.objs.size fun _=>none:=⟨PySem.W.emptyDict,#[],_,e1,rfl,(fun e he=>absurd he<|by simp),fun _=>rfl⟩
 have I1:=I.laid (a:=s.heap.objs.size) (o:=.own<|s.heap.objs.size+1) (h':=s.heap.push PySem.W.emptyDict) (t':=s.toks) (fun b u q=>Ä _ q) (Î _) ⟨_,e1⟩;refine I1.laid (a:=s.heap.objs.size+1) (o:=.ins C s.heap.objs.size []) (t':=s.toks) (fun b u q=>Ä _ q) (Nat.le_of_eq<|ś _ _) ?_;have ne:s.heap.objs.size≠s.heap.objs.size+1:=Þ<|Ė _;refine⟨by rw[upd_ne ne,upd_same],Ĳ _,ne,e2,fun _=>none,(Heap.Ns1.of_empty e3).at fun o q=>Ä _ q,fun _=>True.intro,fun y hy=>absurd rfl hy⟩
theorem D8{prog:à}{w:õ}{env:Env}{e:Expr}{pos:Pos}(hb:ħ e f env (eval e env)=eval e env)
  (h:wpAny (Û prog w) A (eval e env) (fun o ġ=>wpAny (Û prog w) A (getAttr o f true) Q E ġ) E s):wpAny (Û prog w) A (eval (.Attribute e f pos) env) Q E s :=
 Attribute_any_ h (by rw[arm_eval_Attribute,hb])
end
noncomputable def R5(K:Frag)(ta:TE)(f:Str):TE:=fun σ H Q=>ta σ H fun x H1=>∃a C dx fs v,x=.ref a/\H1 a=some (.ins C dx fs)/\Cls K C/\NoAttr K C f/\fs.lookup f=some v/\Q v H1
noncomputable def Q3(K:Frag)(ta tv:TE)(f:Str):TS:=fun D σ H=>tv σ H fun y H1=>ta σ H1 fun x H2=>∃a C dx fs,x=.ref a/\H2 a=some (.ins C dx fs)/\Cls K C/\NoAttr K C f/\fs.length<1000/\
 D.nx σ (upd H2 a<|.ins C dx<|putF f y fs)
def Dn(X:Cx)(op:aG)(rd:V->V->Hp->VK->Prop):Prop :=
 ∀(Á:List<|È×Obj) (s:Å) (σ:St) (H:Hp) (x y:V) (u v:Ã) (Q:VK),Inv X Á σ H s->RelV x u->RelV y v->rd x y H Q->wpAny (Û X.prog X.w) X.A (inplaceOp op u v) (EP X Á σ Q) X.xe s
noncomputable def FO(K:Frag)(ta tv:TE)(rd:V->V->Hp->VK->Prop)(f:Str):TS:=fun D σ H=>ta σ H fun x H1=>∃a C dx fs v,x=.ref a/\H1 a=some (.ins C dx fs)/\Cls K C/\NoAttr K C f/\fs.lookup f=some v/\
 tv σ H1 fun y H2=>rd v y H2 fun z H3=>∃dx' dr,H3 a=some (.ins C dx' dr)/\dr.length<1000/\D.nx σ (upd H3 a<|.ins C dx'<|putF f z dr)
section
variable {X:Cx}{o e η:Expr}{f:Str}{pos aX tpos:Pos}{ta tv:TE}
theorem HH(he:PE X e ta)(hb:ħ e f X.env (eval e X.env)=eval e X.env):PE X (.Attribute e f pos)<|R5 X.K ta f:=by intro Á s σ H Q I h;refine D8 hb<|thn (he Á s σ H _ I h) fun u s1 ⟨x,H1,I1,rx,a,C,dx,fs,v,ex,ea,c,n,l,q⟩=>?_;subst ex;obtain rfl:u=Value.ref a:=rx;exact Js I1 ea c n l fun u' s2 I2 ru=>⟨v,H1,I2,ru,q⟩
theorem Ia(ha:PE X o ta)(hv:PE X η tv)(hs:Ų η (some<|.Attribute o f aX) pos.line X.env=pure false):PS X (.Assign [.Attribute o f aX] η pos)<|Q3 X.K ta tv f:=by intro Á s σ H D I h;refine plainObj_wpAny_Assign_Attribute (thn (hv Á s σ H _ I h) fun u s1 ⟨y,H1,I1,ry,q⟩=>thn (ha Á s1 σ H1 _ I1 q) fun ov s2 ⟨x,H2,I2,rx,a,C,dx,fs,ex,ea,c,n,l,q2⟩=>?_) hs;subst ex;obtain rfl:ov=Value.ref a:=rx;exact W8 I2 ea c n l ry fun s3 I3=>⟨σ,_,I3,q2⟩
theorem AT{op:aG}{rd:V->V->Hp->VK->Prop}(ha:PE X o ta)(hv:PE X η tv)(hop:Dn X op rd):PS X (.AugAssign (.Attribute o f tpos) op η pos)<|FO X.K ta tv rd f:=by intro Á s σ H D I h;refine wpAny_AugAssign_AttributeAny<|thn (ha Á s σ H _ I h) fun ov s1 ⟨x,H1,I1,rx,a,C,dx,fs,v,ex,ea,c,n,l,q⟩=>?_;subst ex;obtain rfl:ov=Value.ref a:=rx;refine Js I1 ea c n l fun u s2 I2 ru=>thn (hv Á s2 σ H1 _ I2 q) fun w3 s3 ⟨y,H2,I3,ry,q3⟩=>thn (hop Á s3 σ H2 v y u w3 _ I3 ru ry q3) fun w4 s4 ⟨z,H3,I4,rz,dx',dr,ea',l',q4⟩=>?_;exact W8 I4 ea' c n l' rz fun s5 I5=>⟨σ,_,I5,q4⟩
def R1:V->V->Hp->VK->Prop:=fun x y H Q=>∃i j,x=.int i/\y=.int j/\Q (.int<|i+j) H
def RT:V->V->Hp->VK->Prop:=fun x y H Q=>∃i j,x=.int i/\y=.int j/\Q (.int<|i - j) H
theorem Lq:Dn X .Add R1:=by
 rintro Á s σ H x y u v Q I rx ry ⟨i,j,rfl,rfl,q⟩;obtain⟨t,rfl⟩:=(show ∃t,u=Value.int i t from rx)
 obtain⟨t',rfl⟩:=(show ∃t',v=Value.int j t' from ry)
 exact PyProof.Rows.iadd_int ⟨.int<|i+j,H,I.tok _,⟨_,rfl⟩,q⟩
theorem II:Dn X .Sub RT:=by
 rintro Á s σ H x y u v Q I rx ry ⟨i,j,rfl,rfl,q⟩;obtain⟨t,rfl⟩:=(show ∃t,u=Value.int i t from rx)
 obtain⟨t',rfl⟩:=(show ∃t',v=Value.int j t' from ry)
 exact PyProof.Rows.isub_int ⟨.int<|i - j,H,I.tok _,⟨_,rfl⟩,q⟩
end
section
variable {X:Cx}{Á:List (È×Obj)}{σ:St}{H:Hp}{s:Å}{A:Ă}{E:Ã->Å->Prop}{Q:Ã->Å->Prop}{c:Ã}{b:Bool}
inductive TyOf (K:Frag) (H:Hp):V->Ã->Prop where
 |non:TyOf K H .non<|.type "NoneType"
 |bl (x:Bool):TyOf K H (.bl x)<|.type "bool"
 |int (i:Int):TyOf K H (.int i)<|.type "int"
 |str (x:Str):TyOf K H (.str x)<|.type "str"
 |flt (x:UInt64):TyOf K H (.flt x)<|.type "float"
 |lst {a:È}{xs:List V}(e:H a=some (.lst xs)):TyOf K H (.ref a)<|.type "list"
 |frz {a:È}{o:Obj}{xs:List V}(e:H a=some (.frz o<|.lst xs)):TyOf K H (.ref a)<|.type "list"
 |tup {a:È}{xs:List V}(e:H a=some (.tup xs)):TyOf K H (.ref a)<|.type "tuple"
 |dK {a:È}{kvs:List (Key×V)}(e:H a=some (.dK kvs)):TyOf K H (.ref a)<|.type "dict"
 |dT {a:È}{kvs:List (List Key×V)}(e:H a=some (.dT kvs)):TyOf K H (.ref a)<|.type "dict"
 |ins {a C dx:È}{fs:List (Str×V)}(e:H a=some (.ins C dx fs)) (cl:Cls K C) (ha:PySem.W.findIn K (.ref C) "__class__" = some (some<|.builtin "object.__class__"))
   (hn:PySem.W.specialIn K (.builtin "object.__class__") "__get__" = some (some<|.builtin "getset_descriptor.__get__")) (htk:PySem.W.takesIn K (.builtin "object.__class__")=some true)
   (hm:PySem.W.mroIn K C (.type "object")=some true):TyOf K H (.ref a)<|.ref C
theorem Au{x:V}{t:Ã}(I:Inv X Á σ H s)(rx:RelV x u)(ty:TyOf X.K H x t)(e:PySem.W.kitOne X.K t c=some b)(h:∀tk,Q (.bool b) {s with toks:=tk}) :
  wpAny (Û X.prog X.w) A (call (.builtin "isinstance") [u,c]) Q E s:=by
 cases ty with
 |non=>cases (show u=Value.none from rx);exact PySem.W.kia_one PySem.W.kitx_none I.kIn True.intro e (fun z=>nomatch z) h
 |bl y=>cases (show u=Value.bool y from rx);exact PySem.W.kia_one PySem.W.kitx_bool I.kIn True.intro e (fun z=>nomatch z) h
 |int i=>obtain⟨t,q⟩:=(show ∃t,u=Value.int i t from rx);cases q;exact PySem.W.kia_one PySem.W.kitx_int I.kIn True.intro e (fun z=>nomatch z) h
 |str y=>obtain⟨t,q⟩:=(show ∃t,u=Value.str y t from rx);cases q;exact PySem.W.kia_one PySem.W.kitx_str I.kIn True.intro e (fun z=>nomatch z) h
 |flt y=>obtain⟨t,q⟩:=(show ∃t,u=Value.float y t from rx);cases q;exact PySem.W.kia_one PySem.W.kitx_float I.kIn True.intro e (fun z=>nomatch z) h
 |@lst a xs ea =>
  cases (show u=Value.ref a from rx);obtain⟨_,_,n,_,h1⟩:=(show ObjOk X.prog X.w H s.heap a (.lst xs) from I.hok a _ ea)
  exact PySem.W.kia_one PySem.W.kitx_list I.kIn ⟨_,h1,rfl⟩ e (fun z=>nomatch z) h
 |@frz a ob xs ea =>
  cases (show u=Value.ref a from rx);obtain⟨_,_,_,n,_,h1⟩:=(show ObjOk X.prog X.w H s.heap a (.frz ob<|.lst xs) from I.hok a _ ea)
  exact PySem.W.kia_one PySem.W.kitx_list I.kIn ⟨_,h1,rfl⟩ e (fun z=>nomatch z) h
 |@tup a xs ea =>
  cases (show u=Value.ref a from rx);obtain⟨_,_,_,p⟩:=(show ObjOk X.prog X.w H s.heap a (.tup xs) from I.hok a _ ea)
  obtain⟨o,h1,h2,_⟩:=p;exact PySem.W.kia_one PySem.W.kitx_tuple I.kIn ⟨o,h1,h2⟩ e (fun z=>nomatch z) h
 |@dK a kvs ea =>
  cases (show u=Value.ref a from rx);obtain⟨_,_,vs,_,p⟩:=(show ObjOk X.prog X.w H s.heap a (.dK kvs) from I.hok a _ ea)
  obtain⟨o,es,ep,h1,h2,_⟩:=p;exact PySem.W.kia_one PySem.W.kitx_dict I.kIn ⟨o,h1,h2.1⟩ e (fun z=>nomatch z) h
 |@dT a kvs ea =>
  cases (show u=Value.ref a from rx);obtain⟨_,_,xs,_,o,es,ep,h1,h2,_⟩:=(show ObjOk X.prog X.w H s.heap a (.dT kvs) from I.hok a _ ea)
  exact PySem.W.kia_one PySem.W.kitx_dict I.kIn ⟨o,h1,h2.1⟩ e (fun z=>nomatch z) h
 |@ins a C dx fs ea cl ha hn htk hm =>cases (show u=Value.ref a from rx);obtain⟨mA,O,_⟩:=WE I.hok ea;obtain⟨od,J,_⟩:=O.look;exact PySem.W.kia_one (PySem.W.kitx_own (cl.get _) cl.hd ha hn htk hm) I.kIn J e (fun z=>nomatch z) h
end
structure Room(k:Nat)(A:Ă):Prop where
 hd:A.handled=none
 dp:A.depth+3*k+5<recursionLimit
 un:A.units+16*k+200<Ğ
variable {j:Nat} {A:Ă}
theorem Room.mono{k:Nat}(r:Room k A)(h:j<=k):Room j A:=⟨r.hd,by have:=r.dp;omega,by have:=r.un;omega⟩
theorem Room.deeper{k:Nat}(r:Room (k+1) A)(env:Env):Room k (A.deeper env) :=
 ⟨r.hd,by have:=r.dp;show A.depth+1+3*k+5<_;omega,by have:=r.un;show A.units+3+16*k+200<_;omega⟩
theorem Room.in1{k:Nat}(r:Room (k+1) A):Room k A.in1 :=
 ⟨r.hd,by have:=r.dp;show A.depth+3*k+5<_;omega,by have:=r.un;show A.units+1+16*k+200<_;omega⟩
variable {C:È} {us:List Ã} {kw:List (Str×Ã)}
theorem NU:(A.under<|.builtin "type.__call__" ⟨.ref C::us,kw⟩).depth=A.depth+1:=by
 first|rfl|simp[be,Code.weight,Code.isCreation,Code.isGuard,Code.isCaller,Code.frames,bF,guardIds]
theorem N7:(A.under<|.builtin "type.__call__" ⟨.ref C::us,kw⟩).units=A.units+1:=by
 first|rfl|simp[be,Code.cUnits,Code.frames,bF]
theorem Room.make{k:Nat}(r:Room (k+1) A)(C:È)(us:List Ã)(kw:List<|Str×Ã):Room k (A.under<|.builtin "type.__call__" ⟨.ref C::us,kw⟩) :=
 ⟨r.hd,by have:=r.dp;rw[NU];omega,by have:=r.un;rw[N7];omega⟩
theorem Room.depth{k:Nat}(r:Room k A):A.depth<recursionLimit:=by have:=r.dp;omega
theorem Room.units{k:Nat}(r:Room k A):A.units+64<Ğ:=by have:=r.un;omega
noncomputable def EI:TA:=fun _ H Q=>Q [] H
noncomputable def Gj(ta:TE)(tr:TA):TA:=fun σ H Q=>ta σ H fun x H1=>tr σ H1 fun xs H2=>Q (x::xs) H2
section
variable {X:Cx}{e:Expr}{es:List Expr}{te:TE}{t:TA}{pos:Pos}
theorem pa_nil:PA X [] EI:=fun _ _ _ _ H Q I h=>Calls.spliced_nil ⟨[],H,I,.nil,h⟩
theorem ZW(ha:PE X e te)(hr:PA X es t)(hs:Õ (e::es) X.env=(false,eval e X.env)::Õ es X.env:=by rfl):PA X (e::es)<|Gj te t:=by intro pos Á s σ H Q I h;rw[hs];show wpAny _ _ (spliced<|(false,eval e X.env)::ĥ pos (Õ es X.env)) _ _ s;refine Calls.spliced_cons<|thn (ha Á s σ H _ I h) fun u s1 ⟨x,H1,I1,r1,q1⟩=>?_;exact thn (hr pos Á s1 σ H1 _ I1 q1) fun us s2 ⟨xs,H2,I2,r2,q2⟩=>⟨x::xs,H2,I2,.cons r1 r2,q2⟩
noncomputable def RW(t:TA):TE:=fun σ H Q=>t σ H fun xs H1=>xs.length<=Ø/\∀p,H1 p=none->Q (.ref p) (upd H1 p<|.tup xs)
noncomputable def RX(t:TA):TE:=fun σ H Q=>t σ H fun xs H1=>xs.length<=Ø/\∀p,H1 p=none->Q (.ref p) (upd H1 p<|.lst xs)
theorem Cw{x1}(h:PA X es t):PE X (.Tuple es x1 pos)<|RW t:=by intro Á s σ H Q I hq;refine wpAny_Tuple_spliced (thn (h pos Á s σ H _ I hq) fun us s1 ⟨xs,H1,I1,r,z,q⟩=>⟨by rw[<-r.length];exact z,?_⟩);have hf:H1 s1.heap.objs.size=none:=I1.hok.fresh<|Î _;refine⟨.ref s1.heap.objs.size,upd H1 s1.heap.objs.size<|.tup xs,I1.laid (t':=s1.toks) (fun b u e=>Ä _ e) (Î _) ?_,rfl,q _ hf⟩;exact⟨z,us,r,⟨_,Ï _ rfl,rfl,_,rfl⟩⟩
theorem Iz(h:PA X es t):PE X (.List es pos)<|RX t:=by intro Á s σ H Q I hq;refine wpAny_List_spliced (thn (h pos Á s σ H _ I hq) fun us s1 ⟨xs,H1,I1,r,z,q⟩=>⟨by rw[<-r.length];exact z,?_⟩);have hf:H1 s1.heap.objs.size=none:=I1.hok.fresh<|Î _;refine⟨.ref s1.heap.objs.size,upd H1 s1.heap.objs.size<|.lst xs,I1.laid (t':=s1.toks) (fun b u e=>Ä _ e) (Î _) ?_,rfl,q _ hf⟩;exact⟨z,us,0,r,Ï _ rfl⟩
end
noncomputable abbrev Sp:=List V->Hp->VK->XK->Prop
noncomputable abbrev CXT:=List Env->Hp->Å->XK->Ã->Å->Prop
structure Env0(P:à)(w:õ)(K:Frag)(mg:Str->Option Ã)(base:ā)(A:Ă)(outer:List Env)(s:Å)(H:Hp):Prop where
 frames:A.frames=some outer
 mod:Mod K mg base
 bs:∀b o,base.get? b=some o->s.heap.get? b=some o/\H b=none
 bsz:base.objs.size<=s.heap.objs.size
 funs:s.heap.FunFrames base outer
 frf:∀b∈frs outer,H b=none
 hok:HOk P w H s.heap
 bare:Ρ s.gens
def CE(outer:List Env)(P:à)(w:õ)(H:Hp)(s:Å)(Q:VK)(u:Ã)(s':Å):Prop :=
 ∃v H',s'.os=s.os/\Ρ s'.gens/\Un (frs outer) [] H H' s.heap s'.heap/\HOk P w H' s'.heap/\RelV v u/\Q v H'
def CR(CX:CXT)(outer:List Env)(P:à)(w:õ)(H:Hp)(s:Å)(Q:VK)(E:XK)(r:aU)(s':Å):Prop :=
 match r with
 |.ok (.ret u)=>CE outer P w H s Q u s'
 |.ok _=>False
 |.error e=>CX outer H s E e s'
structure FnOk(P:à)(w:õ)(K:Frag)(mg:Str->Option Ã)(base:ā)(CX:CXT)(k:Nat)(f:È)(fd:Ņ)(ps:List Str)(sp:Sp):Prop where
 len:∀vs H Q E,sp vs H Q E->vs.length=ps.length
 run:∀(A:Ă) (outer:List Env) (s:Å) (H:Hp) (args:Args) (us:List Ã) (vs:List V) (Q:VK) (E:XK),Room k A->Env0 P w K mg base A outer s H->BindsTo s fd args (ps.zip us)->Vals vs us->sp vs H Q E->
  codeAny (Û P w) A (.call (.ref f) args) (CR CX outer P w H s Q E) s
variable {P:à} {w:õ} {mg:Str->Option Ã} {base:ā} {CX:CXT} {f:È} {fd:Ņ} {ps:List Str} {sp:Sp}
theorem FnOk.mono{K:Frag}{k:Nat}(F:FnOk P w K mg base CX j f fd ps sp)(h:j<=k) :
  FnOk P w K mg base CX k f fd ps sp:=⟨F.len,fun A outer s H args us vs Q E hr=>F.run A outer s H args us vs Q E<|hr.mono h⟩
theorem FnOk.imp{K:Frag}{k:Nat}{sp':Sp}(F:FnOk P w K mg base CX k f fd ps sp)
  (h:∀vs H Q E,sp' vs H Q E->sp vs H Q E):FnOk P w K mg base CX k f fd ps sp' :=
 ⟨fun vs H Q E q=>F.len vs H Q E<|h _ _ _ _ q,fun A outer s H args us vs Q E hr he hb hv hs=>F.run A outer s H args us vs Q E hr he hb hv<|h _ _ _ _ hs⟩
variable {outer:List Env} {s:Å} {H:Hp}
theorem Env0.make{K:Frag}(e:Env0 P w K mg base A outer s H)(C:È)(us:List Ã)(kw:List<|Str×Ã) :
  Env0 P w K mg base (A.under<|.builtin "type.__call__" ⟨.ref C::us,kw⟩) outer s H:=⟨by first|exact e.frames|(simpa[be,Code.envs,bF,pushEnvs]using e.frames),e.mod,e.bs,e.bsz,e.funs,e.frf,e.hok,e.bare⟩
theorem Env0.in1{K:Frag}(e:Env0 P w K mg base A outer s H) :
  Env0 P w K mg base A.in1 outer s H:=⟨e.frames,e.mod,e.bs,e.bsz,e.funs,e.frf,e.hok,e.bare⟩
section
variable {X:Cx}{Á:List (È×Obj)}{σ:St}{H:Hp}{s s':Å}
theorem Inv.env0(I:Inv X Á σ H s):Env0 X.prog X.w X.K X.mg X.base X.A X.stack s H :=
 ⟨I.ok.frames,I.ok.mod,I.bs,Ó I.ok.bsz I.sz,I.stack,I.stkFree,I.hok,I.bare⟩
theorem Inv.after{Q:VK}{u:Ã}(I:Inv X Á σ H s)(h:CE X.stack X.prog X.w H s Q u s'):EP X Á σ Q u s':=by obtain⟨v,H',os,bare,un,hok,r,q⟩:=h;obtain⟨hh,g,d,t,os'⟩:=s';obtain rfl:os'=s.os:=os;exact⟨v,H',I.call (h':=hh) (g':=g) (d':=d) (t':=t) (ch:=[]) un hok bare fun b z=>absurd z<|by simp,r,q⟩
end
noncomputable def Gf(sp:Sp)(au:List V)(E:XK)(t:TA):TE:=fun σ H Q=>t σ H fun vs H1=>sp (vs++au) H1 Q E
noncomputable def Gm(C:È)(m:Str)(sp:Sp)(au:List V)(E:XK)(ta:TE)(t:TA):TE:=fun σ H Q=>ta σ H fun x H1=>∃a dx fs,x=.ref a/\H1 a=some (.ins C dx fs)/\fs.lookup m=none/\
 t σ H1 fun vs H2=>sp (x::(vs++au)) H2 Q E
noncomputable def LV(C:È)(sp:Sp)(au:List V)(E:XK)(t:TA):TE:=fun σ H Q=>t σ H fun vs H1=>∀x dx,H1 x=none->H1 dx=none->dx≠x->
 sp (.ref x::(vs++au)) (upd (upd H1 dx<|.own x) x<|.ins C dx []) (fun v H2=>v=.non/\Q (.ref x) H2) E
def Binds(K:Frag)(fd:Ņ)(ps:List Str)(ds:List Ã):Prop :=
 ∀(s:Å) (us:List Ã),K.In s.heap->(us++ds).length=ps.length->BindsTo s fd ⟨us,[]⟩ (ps.zip<|us++ds)
theorem Binds.all{K:Frag}(h:∀us:List Ã,us.length=ps.length->bindArgs fd ⟨us,[]⟩=pure (ps.zip us)):Binds K fd ps []:=fun s us _ hl=>by rw[Ĕ]at hl ⊢;exact .of_eq (h us hl)
def YF(CX:CXT)(X:Cx)(E:XK):Prop:=∀(Á:List<|È×Obj) (σ:St) (H:Hp) (s:Å) (e:Ã) (s':Å),Inv X Á σ H s->CX X.stack H s E e s'->X.xe e s'
section
variable {X:Cx}{CX:CXT}{k:Nat}{f C:È}{fd:Ņ}{ps:List Str}{sp:Sp}{au:List V}{ds:List Ã}{E:XK}{x m:Str}{p pos ō:Pos}{e o:Expr}{es:List Expr}{ta:TE}{t:TA}
variable {Á:List (È×Obj)} {σ:St} {Q:VK} {vs:List V}
theorem Ml(F:FnOk X.prog X.w X.K X.mg X.base CX k f fd ps sp)(hr:Room k X.A)(hb:Binds X.K fd ps ds)(hd:Vals au ds)(hx:YF CX X E)
  (I:Inv X Á σ H s) (r:Vals vs us) (h:sp (vs++au) H Q E):wpAny (Û X.prog X.w) X.A (call (.ref f) us) (EP X Á σ Q) X.xe s:=by
 have r2:Vals (vs++au)<|us++ds:=r.append hd;have hl:(us++ds).length=ps.length:=by rw[<-r2.length];exact F.len _ _ _ _ h
 refine wpAny_call<|ŷ (F.run X.A X.stack s H ⟨us,[]⟩ (us++ds) (vs++au) Q E hr I.env0 (hb s us I.kIn hl) r2 h) fun r s' hq=>?_;cases r with
 |error e=>exact hx Á σ H s e s' I hq
 |ok fl =>
  cases fl with
  |ret u=>exact I.after hq
  |next=>exact ī hq
  |brk=>exact ī hq
  |cont=>exact ī hq
theorem Fq(F:FnOk X.prog X.w X.K X.mg X.base CX k f fd ps sp)(hr:Room k X.A)(hg:Gl X x)(hm:X.mg x=some (.ref f))(hk:PySem.W.keepIn X.K (.ref f)=true)(hb:Binds X.K fd ps ds)(hd:Vals au ds)(hx:YF CX X E)
  (ha:PA X (e::es) t) (cu:(x==("__debug__" : Str))=false:=by decide) (he:Õ (e::es) X.env=(false,eval e X.env)::Õ es X.env:=by rfl) (hpl:(ĥ pos<|Õ es X.env).any (·.1)=false:=by rfl) :
  PE X (.Call (.Name x p) (e::es) [] pos) (Gf sp au E t):=by
 intro Á s σ H Q I h;refine ĳ<|Wy I hg hm ?_ cu;refine PySem.W.callWith_K (h₀:=X.base) I.ok.mod.kin hk (thn (ha pos Á s σ H _ I h) fun us s1 ⟨vs,H1,I1,r,q⟩=>⟨I1.kIn,?_⟩) he hpl;exact Ml F hr hb hd hx I1 r q
theorem Cu(F:FnOk X.prog X.w X.K X.mg X.base CX k f fd ps sp)(hr:Room k X.A)(hg:Gl X x)(hm:X.mg x=some (.ref f))(hk:PySem.W.keepIn X.K (.ref f)=true)(hb:Binds X.K fd ps ds)(hd:Vals au ds)(hx:YF CX X E)
  (cu:(x==("__debug__" : Str))=false:=by decide):PE X (.Call (.Name x p) [] [] pos)<|Gf sp au E EI:=by
 intro Á s σ H Q I h;refine ĳ<|Wy I hg hm ?_ cu;exact PySem.W.callWith_K0 I.kIn hk<|Ml (us:=[]) F hr hb hd hx I .nil h
variable {pl:Sem Bool}
theorem Ff(he:PE X o ta)(c:Cls X.K C)(hm:Meth X.K C m f)(F:FnOk X.prog X.w X.K X.mg X.base CX k f fd ps sp)(hr:Room k X.A)(hb:Binds X.K fd ps ds)(hd:Vals au ds)(hx:YF CX X E)(ha:PA X (e::es) t)
  (Γ:Õ (e::es) X.env=(false,eval e X.env)::Õ es X.env:=by rfl) (hpl:(ĥ pos<|Õ es X.env).any (·.1)=false:=by rfl)
  (ht:eval (.Call (.Attribute o m ō) (e::es) [] pos) X.env=(do
    let ov<-eval o X.env
    Υ ō.atName
    let (f,first)<-Ŧ [ov] (ϑ ov m pl)
    bW pos f first (ĥ pos<|Õ (e::es) X.env) (Ÿ pos<|ņ [] X.env)):=by rfl) :
  PE X (.Call (.Attribute o m ō) (e::es) [] pos) (Gm C m sp au E ta t):=by
 intro Á s σ H Q I h;refine PySem.W.methodCall_KW (pl:=pl) (thn (he Á s σ H _ I h) fun u s1 ⟨x,H1,I1,rx,a,dx,fs,ex,ea,l,q⟩=>?_) ht;subst ex;obtain rfl:u=Value.ref a:=rx;refine Jt I1 ea c hm l ?_;refine PySem.W.callWith_K (first:=[.ref a]) (h₀:=X.base) I.ok.mod.kin hm.kp (thn (ha pos Á s1 σ H1 _ I1 q) fun us s2 ⟨vs,H2,I2,r,q2⟩=>⟨I2.kIn,?_⟩) Γ hpl;exact Ml (us:=.ref a::us) (vs:=.ref a::vs) F hr hb hd hx I2 (.cons rfl r) q2
theorem B6(he:PE X o ta)(c:Cls X.K C)(hm:Meth X.K C m f)(F:FnOk X.prog X.w X.K X.mg X.base CX k f fd ps sp)(hr:Room k X.A)(hb:Binds X.K fd ps ds)(hd:Vals au ds)(hx:YF CX X E)
  (ht:eval (.Call (.Attribute o m ō) [] [] pos) X.env=(do
    let ov<-eval o X.env
    Υ ō.atName
    let (f,first)<-Ŧ [ov] (ϑ ov m pl)
    bW pos f first (ĥ pos<|Õ [] X.env) (Ÿ pos<|ņ [] X.env)):=by rfl) :
  PE X (.Call (.Attribute o m ō) [] [] pos) (Gm C m sp au E ta EI):=by
 intro Á s σ H Q I h;refine PySem.W.methodCall_KW (pl:=pl) (thn (he Á s σ H _ I h) fun u s1 ⟨x,H1,I1,rx,a,dx,fs,ex,ea,l,q⟩=>?_) ht;subst ex;obtain rfl:u=Value.ref a:=rx;refine Jt I1 ea c hm l ?_;exact PySem.W.callWith_K0 (first:=[.ref a]) I1.kIn hm.kp<|Ml (us:=[.ref a]) (vs:=[.ref a]) F hr hb hd hx I1 (.cons rfl .nil) q
structure Mk(K:Frag)(C f:È):Prop where
 makes:PySem.W.makesIn K C=true
 init:PySem.W.findIn K (.ref C) "__init__" = some (some<|.ref f)
 fn:PySem.W.isFn K (.ref f)=true
 kp:PySem.W.keepIn K (.ref C)=true
theorem Bb(M:Mk X.K C f)(F:FnOk X.prog X.w X.K X.mg X.base CX k f fd ps sp)(hr:Room (k+1) X.A)(hb:Binds X.K fd ps ds)(hd:Vals au ds)
  (hx:YF CX X E) (I:Inv X Á σ H s) (r:Vals vs us)
  (h:∀x dx,H x=none->H dx=none->dx≠x->sp (.ref x::(vs++au)) (upd (upd H dx<|.own x) x<|.ins C dx []) (fun v H2=>v=.non/\Q (.ref x) H2) E) :
  wpAny (Û X.prog X.w) X.A (call (.ref C) us) (EP X Á σ Q) X.xe s:=by
 have hq:=h (s.heap.objs.size+1) s.heap.objs.size (I.hok.fresh<|Ń _) (I.hok.fresh<|Î _)<|Þ<|Ė _;have I2:=Inv.made (C:=C) I;have r2:Vals (V.ref (s.heap.objs.size+1)::(vs++au))<|Value.ref (s.heap.objs.size+1)::(us++ds):=.cons rfl<|r.append hd;have hl:(Value.ref (s.heap.objs.size+1)::us++ds).length=ps.length:=by have e:=r2.length;rw[F.len _ _ _ _ hq]at e;exact e.symm
 refine wpAny_call (A4 (f:=f) I.kIn M.makes M.init (beq_iff_eq.mp M.fn) (ŷ (F.run _ X.stack _ _ ⟨Value.ref (s.heap.objs.size+1)::us,[]⟩ (Value.ref (s.heap.objs.size+1)::(us++ds)) _ _ E (hr.make C us [])
   (I2.env0.make C us []) (hb _ (Value.ref (s.heap.objs.size+1)::us) I2.kIn hl) r2 hq) fun r s' hq'=>?_))
 cases r with
 |error e=>exact hx Á σ _ _ e s' I2 hq'
 |ok fl =>
  cases fl with
  |ret u =>obtain⟨v,H',I3,rv,ev,q3⟩:=I2.after hq';subst ev;exact⟨rv,⟨V.ref<|s.heap.objs.size+1,H',I3,rfl,q3⟩⟩
  |next=>exact ī hq'
  |brk=>exact ī hq'
  |cont=>exact ī hq'
theorem E6(M:Mk X.K C f)(F:FnOk X.prog X.w X.K X.mg X.base CX k f fd ps sp)(hr:Room (k+1) X.A)(hg:Gl X x)(hm:X.mg x=some (.ref C))(hb:Binds X.K fd ps ds)(hd:Vals au ds)(hx:YF CX X E)
  (ha:PA X (e::es) t) (cu:(x==("__debug__" : Str))=false:=by decide) (he:Õ (e::es) X.env=(false,eval e X.env)::Õ es X.env:=by rfl) (hpl:(ĥ pos<|Õ es X.env).any (·.1)=false:=by rfl) :
  PE X (.Call (.Name x p) (e::es) [] pos) (LV C sp au E t):=by
 intro Á s σ H Q I h;refine ĳ<|Wy I hg hm ?_ cu;refine PySem.W.callWith_K (h₀:=X.base) I.ok.mod.kin M.kp (thn (ha pos Á s σ H _ I h) fun us s1 ⟨vs,H1,I1,r,q⟩=>⟨I1.kIn,?_⟩) he hpl;exact Bb M F hr hb hd hx I1 r q
end
structure FnScope(N P:List Str)(sc:Ž):Prop where
 kind:sc.kind=.function
 co:sc.isCoroutine=false
 gen:sc.isGenerator=false
 nd:N.Nodup
 pre:N.take P.length=P
 par:∀x∈P,sc.names.lookup x=some .local\/sc.names.lookup x=some .cell
 nofree:∀y∈sc.names,y.2≠.free
theorem Kp{υ:Str->Option ϒ}{x:Str}:∀{binds:List (Str×Ã)}{m:Str->Option Ã},(∀v,(x,v)∉binds)->bindL υ binds m x=m x
 |[],_,_=>rfl
 |(n,v)::r,m,h=>by
  unfold bindL;rw[Kp fun w hw=>h w<|Ô _ hw];split
  .have:x≠n:=by rintro rfl;exact h v å
   simp[this]
  .rfl
theorem Kb{υ:Str->Option ϒ}{x:Str}:∀{binds:List (Str×Ã)}{m:Str->Option Ã},(∀v,(x,v)∉binds)->de υ binds m x=m x
 |[],_,_=>rfl
 |(n,v)::r,m,h=>by
  unfold de;rw[Kb fun w hw=>h w<|Ô _ hw];split
  .rfl
  .have:x≠n:=by rintro rfl;exact h v å
   simp[this]
theorem KE{υ:Str->Option ϒ}{x:Str}{v:Ã}:∀{P:List Str}{vs:List Ã}{i:Nat}{m:Str->Option Ã},P.Nodup->P[i]?=some x->vs[i]?=some v->υ x=some .local->
  bindL υ (P.zip vs) m x=some v
 |[],_,_,_,_,h,_,_=>by simp at h
 |_::_,[],_,_,_,_,h,_=>by simp at h
 |p::P,w::vs,0,m,nd,h1,h2,hk=>by simp at h1 h2;subst h1;subst h2;show bindL υ ((p,w)::P.zip vs) m p=_;unfold bindL;rw[Kp fun v hv=>(ě.mp nd).1 (aD hv).1,if_pos hk];simp
 |p::P,w::vs,i+1,m,nd,h1,h2,hk=>by show bindL υ ((p,w)::P.zip vs) m x=_;unfold bindL;exact KE (i:=i) (ě.mp nd).2 (by simpa using h1) (by simpa using h2) hk
theorem KJ{υ:Str->Option ϒ}{x:Str}{v:Ã}:∀{P:List Str}{vs:List Ã}{i:Nat}{m:Str->Option Ã},P.Nodup->P[i]?=some x->vs[i]?=some v->υ x≠some .local->
  de υ (P.zip vs) m x=some v
 |[],_,_,_,_,h,_,_=>by simp at h
 |_::_,[],_,_,_,_,h,_=>by simp at h
 |p::P,w::vs,0,m,nd,h1,h2,hk=>by simp at h1 h2;subst h1;subst h2;show de υ ((p,w)::P.zip vs) m p=_;unfold de;rw[Kb fun v hv=>(ě.mp nd).1 (aD hv).1,if_neg hk];simp
 |p::P,w::vs,i+1,m,nd,h1,h2,hk=>by show de υ ((p,w)::P.zip vs) m x=_;unfold de;exact KJ (i:=i) (ě.mp nd).2 (by simpa using h1) (by simpa using h2) hk
noncomputable def start(N:List Str)(vs:List V):St:=vs.map some++Ö (N.length - vs.length) none
noncomputable def JU(CX:CXT)(P:à)(w:õ)(K:Frag)(mg:Str->Option Ã)(base:ā)(N:List Str)(qual:Str)(scope:Ž)(f:È)(cd:Ã)(A:Ă)(outer:List Env)(s:Å)(H:Hp)(E:XK):Cx where
 prog:=P
 w:=w
 K:=K
 mg:=mg
 base:=base
 A:=A.deeper<|ϫ qual scope s.heap.objs.size f cd
 N:=N
 s₀:=s
 H₀:=H
 env:=ϫ qual scope s.heap.objs.size f cd
 outer:=outer
 stack:=ϫ qual scope s.heap.objs.size f cd::outer
 ex:=[]
 calm:=true
 fn:=fun _=>true
 pn:=[]
 xe:=fun e s'=>wpAny (Û P w) (A.deeper<|ϫ qual scope s.heap.objs.size f cd) (leaving (ϫ qual scope s.heap.objs.size f cd) e) (fun _ s''=>CX outer H s E e s'') (fun e' s''=>CX outer H s E e' s'') s'
theorem MN{sc:Ž}{n:Nat}{x:Str}(h:sc.names.lookup x=some .cell):∃c,(cellsFrom n sc.names []).lookup x=some c:=by have q:=PySem.W.cellsFrom_some sc.names n []<|.inl h;exact Č.mp q
variable {N:List Str} {qual:Str} {scope:Ž}
theorem Af{K:Frag}{cd:Ã}{s1:Å}{E:XK}{vs:List V}
  (S:FnScope N ps scope) (hd:A.handled=none) (e0:Env0 P w K mg base A outer s H) (hl:vs.length=ps.length) (r:Vals vs us)
  (x:InCallC s s.heap.objs.size (bindL (ϫ qual scope s.heap.objs.size f cd).kindOf (ps.zip us) fun _=>none) (cellsFrom (s.heap.objs.size+1) scope.names []) (de (ϫ qual scope s.heap.objs.size f cd).kindOf (ps.zip us) fun _=>none) s1) :
  Inv (JU CX P w K mg base N qual scope f cd A outer s H E) [] (start N vs) H s1:=by
 have hpl:ps.length<=N.length:=by have:=congrArg List.length S.pre;rw[ø]at this;omega
 obtain⟨h1,tk,rfl,hk⟩:=x.done;have noA:∀b:È,b∉(JU CX P w K mg base N qual scope f cd A outer s H E).ex:=fun b z=>absurd (show b∈([]:List È) from z) (by simp);refine⟨⟨e0.mod,S.kind,rfl,rfl,Î _,fun y z c h1 h2=>?_,fun y hy=>?_,fun y c _ h=>?_,fun _=>hd,Around.frames_deeper e0.frames,.inr ⟨rfl,rfl⟩,fun b z=>absurd z<|noA b,e0.bs,e0.bsz,fun b _ _=>noA b,fun b z=>absurd z<|noA b,e0.funs,e0.frf⟩,
   rfl,e0.bare,Un.kept hk,⟨_,x.toInCall.ns,fun i y v h1 h2 h3=>?_⟩,fun y c h=>⟨_,x.cell y c h⟩,e0.hok.fresh<|Î _,fun y c h=>?_,fun p hp=>absurd (show p∈([]:List<|È×Obj) from hp) (by simp),e0.hok.kept hk,?_⟩
 .exact name_of_addr x.apart (PySem.mem_of_lookup h1)<|PySem.mem_of_lookup h2
 .have hy:scope.names.lookup y=some .cell\/scope.names.lookup y=some .free:=hy;rcases hy with hy|hy
  .exact MN hy
  .exact absurd rfl<|S.nofree _<|PySem.mem_of_lookup hy
 .exact θ<|x.above y c<|PySem.mem_of_lookup h
 .have hi:i<vs.length:=by
   unfold start at h2;by_cases hi:i<vs.length
   .exact hi
   .rw[Ē<|by simpa using hi]at h2;rw[ň]at h2;split at h2<;>cases h2
  have ha:vs[i]?=some v:=by
   unfold start at h2;rw[Ċ (by simpa using hi),Ù]at h2;cases e:vs[i]? with
   |none=>rw[e]at h2;cases h2
   |some a=>rw[e]at h2;cases h2;rfl
  obtain⟨u,hu,rv⟩:=r.get ha;have hp:ps[i]?=some y:=by rw[<-S.pre,List.getElem?_take_of_lt<|by omega];exact h1
  have ndP:ps.Nodup:=by rw[<-S.pre];exact S.nd.sublist<|dD _ _
  refine⟨u,rv,?_⟩;rcases S.par y (ì hp)with k|k
  .exact .inl ⟨k,KE ndP hp hu k⟩
  .obtain⟨c,e⟩:=MN (n:=s.heap.objs.size+1) k;refine .inr ⟨.inl k,c,e,?_⟩;have q:=x.cell y c e;rw[KJ ndP hp hu<|by show scope.names.lookup y≠_;rw[k];decide]at q;exact q
 .exact e0.hok.fresh<|θ<|x.above y c<|PySem.mem_of_lookup h
 .unfold start;show _=N.length;rw[ë,Â,ò];omega
theorem F2{K:Frag}{k:Nat}{name:Str}{params:Arguments}{body:List Ļ}{dV kV doc pm ό ct oc:Ã}{an od:Option È}
  {osl:Array (Option Ã)}   (lk:K.lookup f=some ⟨oc,od,.func<|PySem.W.fnOf name qual params body scope dV kV doc pm an ό ct,osl⟩) (aE:PySem.W.codeIn K ό qual=true) (S:FnScope N ps scope)
  (len:∀vs H Q E,sp vs H Q E->vs.length=ps.length)
  (bD:∀(A:Ă) (outer:List Env) (s:Å) (H:Hp) (vs:List V) (Q:VK) (E:XK),Room k (A.deeper<|ϫ qual scope s.heap.objs.size f ό)->sp vs H Q E->
    ∃t,PSs (JU CX P w K mg base N qual scope f ό A outer s H E) body t/\t { nx:=fun _ H'=>Q .non H',rt:=Q } (start N vs) H) :
  FnOk P w K mg base CX (k+1) f (PySem.W.fnOf name qual params body scope dV kV doc pm an ό ct) ps sp:=by
 refine⟨len,fun A outer s H args us vs Q E hr e0 hb r dv=>?_⟩;have hl:=len _ _ _ _ dv;have KX:K.In s.heap:=e0.mod.kin.keeps fun b o e=>(e0.bs b o e).1;have lim:s.heap.NoLimit:=e0.mod.nolimit.keeps fun b o e=>(e0.bs b o e).1;have hkind:∀y∈ps.zip us,scope.names.lookup y.1=some .local\/(scope.names.lookup y.1=some .cell/\((cellsFrom (s.heap.objs.size+1) scope.names []).lookup y.1).isSome=true):=fun⟨n,v⟩ hy=>by
  rcases S.par n (aD hy).1 with q|q
  .exact .inl q
  .exact .inr ⟨q,PySem.W.cellsFrom_some _ _ _<|.inl q⟩
 refine codeAny_call_function hr.depth (KX _ _ lk) rfl S.co S.gen rfl (PySem.W.codeRec_of KX aE)<|hb _ _ _ _ ?_;refine wpAny_newFunctionEnv_cells S.kind hkind fun env he s1 x=>?_;subst he;refine⟨lim.keeps x.toInCall.keep,codeAny_func ?_⟩;obtain⟨t,ht,hq⟩:=bD A outer s H vs Q E (hr.deeper _) dv;have I:Inv (JU CX P w K mg base N qual scope f ό A outer s H E) [] (start N vs) H s1:=Af S hr.hd e0 hl r x;refine ę (ht [] s1 (start N vs) H _ I hq) (fun fl s' hs=>?_) fun e s' hs=>hs;have fin:∀{Ś:St}{H':Hp}{v:V}{u:Ã},Inv (JU CX P w K mg base N qual scope f ό A outer s H E) [] Ś H' s'->RelV v u->Q v H'->CE outer P w H s Q u s' :=
  fun{Ś H' v u} J rv q=>⟨v,H',J.os,J.bare,J.base,J.hok,rv,q⟩
 cases fl with
 |ret u =>obtain⟨v,Ś,H',J,rv,q⟩:=hs;exact fin J rv q
 |next =>obtain⟨Ś,H',J,q⟩:=hs;exact fin (v:=V.non) (u:=Value.none) J rfl q
 |brk =>obtain⟨_,_,_,q⟩:=hs;exact ī q
 |cont =>obtain⟨_,_,_,q⟩:=hs;exact ī q
section
variable {X:Cx}{x:Str}{p pos:Pos}{e:Expr}{es:List Expr}{t:TA}{id T:String}{r:List V->Hp->VK->Prop}
noncomputable def tCB(r:List V->Hp->VK->Prop)(t:TA):TE:=fun σ H Q=>t σ H fun vs H1=>r vs H1 Q
theorem YN(hc:CallR X (.builtin id) r)(hg:Gl X x)(hm:X.mg x=none)(hv:ť x=some (.builtin id))(ha:PA X (e::es) t)(hn:x≠"__name__":=by decide)(cu:(x==("__debug__" : Str))=false:=by decide)
  (he:Õ (e::es) X.env=(false,eval e X.env)::Õ es X.env:=by rfl) (hpl:(ĥ pos<|Õ es X.env).any (·.1)=false:=by rfl):PE X (.Call (.Name x p) (e::es) [] pos)<|tCB r t:=by
 intro Á s σ H Q I h;refine ĳ<|Yt I hg hm hv ?_ hn cu;exact PyProof.Rows.callWith_builtin1 (thn (ha pos Á s σ H _ I h) fun us s1 ⟨vs,H1,I1,r1,q1⟩=>hc Á s1 σ H1 vs us Q I1 r1 q1) he hpl
theorem YU(hc:CallR X (.type T) r)(hg:Gl X x)(hm:X.mg x=none)(hv:ť x=some (.type T))(ha:PA X (e::es) t)(hn:x≠"__name__":=by decide)(cu:(x==("__debug__" : Str))=false:=by decide)
  (he:Õ (e::es) X.env=(false,eval e X.env)::Õ es X.env:=by rfl) (hpl:(ĥ pos<|Õ es X.env).any (·.1)=false:=by rfl):PE X (.Call (.Name x p) (e::es) [] pos)<|tCB r t:=by
 intro Á s σ H Q I h;refine ĳ<|Yt I hg hm hv ?_ hn cu;exact PyProof.Rows.callWith_type1 (thn (ha pos Á s σ H _ I h) fun us s1 ⟨vs,H1,I1,r1,q1⟩=>hc Á s1 σ H1 vs us Q I1 r1 q1) he hpl
end
end L2
namespace HT
open PySem PyProof.Rows
noncomputable def lexLt:List Int->List Int->Bool
 |[],[]=>false
 |[],_::_=>true
 |_::_,[]=>false
 |x::xs,y::ys=>if x=y then lexLt xs ys else decide (x<y)
theorem lexLt_cons(x y:Int)(xs ys:List Int):lexLt (x::xs) (y::ys)=if x=y then lexLt xs ys else decide (x<y):=rfl
theorem JM:lexLt [] []=false:=rfl
theorem Jm(y:Int)(ys:List Int):lexLt [] (y::ys)=true:=rfl
theorem WS(x:Int)(xs:List Int):lexLt (x::xs) []=false:=rfl
theorem eqAt_int(A:Ă)(s:Å)(a:Int)(t:Tok)(c:Int)(u:Tok):∃e,SeqAt.EqAt A s (.int a t) (.int c u) e/\(e=true↔a=c) :=
 ⟨(a==c),SeqAt.EqAt.int_int a t c u,by simp⟩
theorem Cs(A:Ă)(s:Å)(a:Int)(t:Tok)(c:Int)(u:Tok)(prog:à)(w:õ)(E:Ã->Å->Prop)(Q:Ã->Å->Prop)(h:Q (.bool<|decide (a<c)) s) :
  wpAny (Û prog w) A (richCompare .Lt (.int a t)<|.int c u) Q E s :=
 (PyProof.Rows.lt_int h:wpAny (Û prog w) A (è .Lt (.int a t)<|.int c u) Q E s)
section
open PySem.SeqAt
open PySem.AutoSeq1 (wpAny_loadPart')
open PySem.MeetsSeq PySem.MeetsSeq2 PySem.MeetsSeq3
theorem JP(l b:È)(items ŀ:Array Ã)(n n2:Nat)(dd cH:Option È)(sl dy:Array<|Option Ã)(ns ms:List Int)(hi:û items.toList ns)(hj:û ŀ.toList ms) :
  Meets (Builtin.«tuple.__lt__» ⟨[.ref l,.ref b],[]⟩)
   (fun _ R s=>s.heap.get? l=some { cls:=.type "tuple",dict:=dd,data:=.seq items n,slots:=sl }/\s.heap.get? b=some { cls:=.type "tuple",dict:=cH,data:=.seq ŀ n2,slots:=dy }/\
     R (.ok<|.ret<|.bool<|lexLt ns ms) s) :=
 .of_wp fun prog w A R s h=>by
  obtain⟨hp,g,d,tk,os⟩:=s;obtain⟨hl,hb,h⟩:=h;have f2:=AutoSeq1.sub_tuple_tuple;have z1:items.size=ns.length:=by rw[<-hi.length];simp
  have z2:ŀ.size=ms.length:=by rw[<-hj.length];simp
  wp_walk using ĝ hl,ĝ hb,wpAny_forIn_list _ (fun rest b s'=>b.1=none/\s'=⟨hp,g,d,tk,os⟩/\∃(vs ws:List Ã) (bO cX:List Int),rest=vs.zip ws/\
    û vs bO/\û ws cX/\bO.length+ŀ.size=cX.length+items.size/\R (.ok<|.ret<|.bool<|lexLt bO cX) ⟨hp,g,d,tk,os⟩) _
  case turn =>
   rintro⟨y,x⟩ rest b s' ⟨aZ,rfl,vs,ws,bO,cX,hz,hvi,hwi,hlen,hR⟩;cases hvi with
   |nil=>rw[Δ]at hz;cases hz
   |cons a t hvi' =>
    cases hwi with
    |nil=>rw[ξ]at hz;cases hz
    |cons c u hwi' =>
     rw[ŏ]at hz;injection hz with hyx hrest;injection hyx with hy hx;subst hy hx;rw[lexLt_cons]at hR;simp only[Ì]at hlen;obtain⟨e,he,hiff⟩:=eqAt_int A.in1 ⟨hp,g,d,tk,os⟩ a t c u;refine À<|he prog w _ _ ?_;cases e with
     |true =>
      rw[if_pos<|hiff.mp rfl]at hR
      wp_walk
      exact⟨rfl,rfl,_,_,_,_,hrest,hvi',hwi',by omega,hR⟩
     |false =>
      rw[if_neg fun q=>absurd (hiff.mpr q) ý]at hR;have hri:=Cs A.in1 ⟨hp,g,d,tk,os⟩ a t c u prog w
      wp_walk using hri
      exact⟨_,rfl,by simpa using hR⟩
  case fin =>
   rintro⟨b1,b2⟩ s' ⟨aZ,rfl,vs,ws,bO,cX,hz,hvi,hwi,hlen,hR⟩;simp only at aZ;subst aZ;have hv:lexLt bO cX=decide (items.size<ŀ.size):=by
    cases hvi with
    |nil =>
     cases hwi with
     |nil =>simp only[Ħ]at hlen;rw[JM];exact(decide_eq_false<|by omega).symm
     |cons c u hw =>simp only[Ħ,Ì]at hlen;rw[Jm];exact(decide_eq_true<|by omega).symm
    |cons a t hv =>
     cases hwi with
     |nil =>simp only[Ħ,Ì]at hlen;rw[WS];exact(decide_eq_false<|by omega).symm
     |cons c u hw =>rw[ŏ]at hz;cases hz
   rw[hv]at hR
   wp_walk
   exact⟨_,rfl,by simpa[Builtin.Tuple.tupleCompareSizes]using hR⟩
  case h =>exact⟨rfl,rfl,items.toList,ŀ.toList,ns,ms,rfl,hi,hj,by omega,h⟩
end
section
variable {prog:à}{w:õ}{A:Ă}{E:Ã->Å->Prop}{s:Å}
variable {b:È} {items:Array Ã} {Q:Ã->Å->Prop}
theorem lt_tupInts{l:È}{ŀ:Array Ã}{ns ms:List Int}(hl:aa s.heap l items)(hb:aa s.heap b ŀ)(hi:û items.toList ns)(hj:û ŀ.toList ms)
  (hu:A.units<Ğ) (h:Q (.bool<|lexLt ns ms) s):wpAny (Û prog w) A (è .Lt (.ref l)<|.ref b) Q E s:=by
 obtain⟨⟨cls,dd,data,sl⟩,ho,hc,n,hd⟩:=id hl;obtain⟨⟨cls2,cH,data2,dy⟩,ho2,hc2,n2,bP⟩:=id hb;simp only at hc hd hc2 bP;subst hc hd hc2 bP;exact dF (op:=.Lt) ⟨_,ho,rfl⟩ ⟨_,ho2,rfl⟩ PySem.F.slot_tuple_lt PySem.F.entry_tuple_lt (PySem.F.args_tuple_lt_2 _ _) (JP l b items ŀ n n2 dd cH sl dy ns ms hi hj)
  ⟨ho,ho2,show Value.bool (lexLt ns ms)≠bX/\Q (.bool<|lexLt ns ms) s from ⟨(fun x=>nomatch x),h⟩⟩ hu
theorem cat_tup{t:È}{vs ws:List Ã}(ht:aa s.heap t vs.toArray)(hb:aa s.heap b ws.toArray)(hv:vs≠[])
  (h1:ws=[]->Q (.ref t) s) (h2:ws≠[]->Q (.ref s.heap.objs.size) {s with heap:=s.heap.push {cls:=.type "tuple",data:=.seq (vs++ws).toArray}})
  (hsz:vs.length+ws.length<=Ø):wpAny (Û prog w) A (ń .Add (.ref t)<|.ref b) Q E s:=by
 obtain⟨⟨cls,dd,data,sl⟩,ho,hc,n,hd⟩:=id ht;obtain⟨⟨cls2,cH,data2,dy⟩,ho2,hc2,n2,bP⟩:=id hb;simp only at hc hd hc2 bP;subst hc hd hc2 bP;have e:vs.toArray++ws.toArray=(vs++ws).toArray:=by simp
 by_cases hw:ws=[]
 .exact dG ⟨_,ho,rfl⟩ ⟨_,ho2,rfl⟩ aV cP PySem.F.slot_tuple_add PySem.F.entry_tuple_add (PySem.F.args_tuple_add_2 _ _)
   (tuple_addW1 t b vs.toArray ws.toArray n n2 dd cH sl dy (by simpa using hv)<|by simp[hw]) ⟨ho,ho2,h1 hw⟩
 .refine dG ⟨_,ho,rfl⟩ ⟨_,ho2,rfl⟩ aV cP PySem.F.slot_tuple_add PySem.F.entry_tuple_add (PySem.F.args_tuple_add_2 _ _)
   (tuple_addW2 t b vs.toArray ws.toArray n n2 dd cH sl dy (by simpa using hv) (by simpa using hw)<|by rw[É,É];exact hsz) ⟨ho,ho2,?_⟩
  rw[e];exact h2 hw
noncomputable def sIx(n d:Nat):Option Int->Nat
 |none=>d
 |some v=>if v<0 then(v+(n:Int)).toNat else min v.toNat n
theorem Lu(n d:Nat)(hd:d<=n)(o:Option Int):sIx n d o<=n:=by
 cases o with
 |none=>exact hd
 |some v =>
  show(if v<0 then(v+(n:Int)).toNat else min v.toNat n)<=n;by_cases hv:v<0
  .rw[if_pos hv];omega
  .rw[if_neg hv];exact al _ _
theorem clip_eq(v:Int)(n d:Nat):(if v<0 then max (v+(n:Int)) 0 else min v (n:Int))=((sIx n d (some v):Nat):Int):=by
 show(if v<0 then max (v+(n:Int)) 0 else min v (n:Int))=(((if v<0 then(v+(n:Int)).toNat else min v.toNat n):Nat):Int)
 by_cases hv:v<0
 .simp only[if_pos hv];omega
 .simp only[if_neg hv];omega
theorem OK(lo hi:Option Int)(n:Nat):Builtin.Slice.sliceAdjust lo hi 1 (n:Int)=(((sIx n 0 lo:Nat):Int),((sIx n n hi:Nat):Int)):=by
 have h1:¬ ((1:Int)<0):=by omega
 unfold Builtin.Slice.sliceAdjust;simp only[h1,if_false];refine Prod.ext ?_ ?_
 .cases lo with
  |none=>rfl
  |some v=>exact clip_eq v n 0
 .cases hi with
  |none=>rfl
  |some v=>exact clip_eq v n n
theorem OB(i j:Nat):Builtin.Slice.slicePlaces (i:Int) (j:Int) 1=j - i:=by
 unfold Builtin.Slice.slicePlaces;have h1:(1:Int) > 0:=by omega
 simp only[h1,if_true,Int.ediv_one];split<;>omega
theorem Jg{v:Ã}{o:Option Int}{Q:Option Int->Å->Prop}(p:ϝ v o)(h:Q o s):wpAny (Û prog w) A (Builtin.Slice.slicePartIndex v) Q E s:=by
 cases p with
 |none=>exact slicePart_none h
 |int i t=>exact slicePart_int h
variable {sl:È} {vl:Ã} {vu:Ã} {lo:Option Int} {hi:Option Int}
theorem Yn{n:Nat}{Q:Int×Int×Nat->Å->Prop}(hs:s.heap.IsSliceOf sl vl vu .none)(pl:ϝ vl lo)(pu:ϝ vu hi)
  (h:Q (((sIx n 0 lo:Nat):Int),1,sIx n n hi - sIx n 0 lo) s):wpAny (Û prog w) A (Builtin.Slice.sliceApplied (.ref sl)<|pure (n:Int)) Q E s:=by
 obtain⟨os,hos,hcs,hds⟩:=id hs;unfold Builtin.Slice.sliceApplied Builtin.Slice.sliceFields;refine À<|À<|Ň hos hds (x:=vl) rfl<|À<|Ň hos hds (x:=vu) rfl<|À<|Ň hos hds (x:=.none) rfl<|Æ ?_;refine À<|slicePart_none ?_;show wpAny _ _ (if((1:Int)==0)=true then _ else _) _ _ s;rw[if_neg<|by decide];refine À<|Jg pl<|À<|Jg pu<|À<|Æ ?_;show wpAny _ _ (match Builtin.Slice.sliceAdjust lo hi 1 (n:Int)with|(lo,hi)=>pure (lo,(1:Int),Builtin.Slice.slicePlaces lo hi 1)) _ _ s;rw[OK lo hi n];show wpAny _ _ (pure (((sIx n 0 lo:Nat):Int),(1:Int),Builtin.Slice.slicePlaces ((sIx n 0 lo:Nat):Int) ((sIx n n hi:Nat):Int) 1)) _ _ s;rw[OB];exact Æ h
theorem Dx(xs:Array Ã)(i k:Nat):((List.range k).filterMap fun(m:Nat)=>xs[((i:Int)+(m:Int)*1).toNat]?).toArray=((xs.toList.drop i).take k).toArray:=by
 have e:(fun(m:Nat)=>xs[((i:Int)+(m:Int)*1).toNat]?)=fun m=>xs[i+m]?:=by
  funext m;have:((i:Int)+(m:Int)*1).toNat=i+m:=by omega
  rw[this]
 rw[e];have:=pick_run xs i k;rw[ο]at this;have e2:((fun x=>xs[x]?) ∘ fun x=>i+x)=fun m=>xs[i+m]?:=rfl;rw[e2]at this;rw[this]
theorem getItem_tuple_cut{t:È}(ht:aa s.heap t items)(hs:s.heap.IsSliceOf sl vl vu .none)(pl:ϝ vl lo)(pu:ϝ vu hi)
  (hw:¬ (sIx items.size 0 lo=0/\sIx items.size items.size hi=items.size))
  (h:Q (.ref s.heap.objs.size) {s with heap:=s.heap.push {cls:=.type "tuple",data:=.seq ((items.toList.drop<|sIx items.size 0 lo).take<|sIx items.size items.size hi - sIx items.size 0 lo).toArray}})
  (hsz:items.size<=Ø):wpAny (Û prog w) A (Ϝ (.ref t)<|.ref sl) Q E s:=by
 have cI:sizeOk<|.seq ((items.toList.drop<|sIx items.size 0 lo).take<|sIx items.size items.size hi - sIx items.size 0 lo).toArray:=by show((items.toList.drop<|sIx items.size 0 lo).take<|sIx items.size items.size hi - sIx items.size 0 lo).toArray.size<=Ø;rw[É,ø,ŉ,ç];omega
 have hj:sIx items.size items.size hi<=items.size:=Lu _ _ (Î _) hi;obtain⟨os,hos,hcs,hds⟩:=id hs;have hTs:s.TypeIs (.ref sl) "slice":=⟨os,hos,hcs⟩
 unfold Ϝ
 try with_reducible refine Ĝ ?_
 first|refine À (Æ ?_)|skip
 refine À (wpAny_sequenceKey ht.typeIs (by decide) ?_);refine À (ĕ (name:=Str.ofString "__getitem__") ht.typeIs PyProof.Rows.slot_tuple_getitem
   (ĉ PyProof.Rows.slot_tuple_getitem ht.typeIs entry_tuple_getitem ?_<|args_tuple_getitem _ _))
 show wpAny _ _ (Builtin.Tuple.tupleItemsOf (.ref t) >>= _) _ _ s;refine À<|tupleItemsOf_ ht ?_;refine À<|Ϟ hTs ?_;rw[if_pos<|by decide];refine À<|Yn hs pl pu ?_;have hno:¬ ((((sIx items.size 0 lo:Nat):Int)==0&&(1:Int)==1&&(sIx items.size items.size hi - sIx items.size 0 lo)==items.size)=true):=by intro q;rw[bAq,bAq]at q;have q1:((sIx items.size 0 lo:Nat):Int)=0:=eq_of_beq q.1.1;have q2:sIx items.size items.size hi - sIx items.size 0 lo=items.size:=eq_of_beq q.2;exact hw ⟨by omega,by omega⟩
 show wpAny _ _ (if(((sIx items.size 0 lo:Nat):Int)==0&&(1:Int)==1&&(sIx items.size items.size hi - sIx items.size 0 lo)==items.size)=true then _ else _) _ _ s;rw[if_neg hno,Dx]
 first
  |exact À (m:=Builtin.Tuple.tupleExact _)<|þ (Æ ⟨_,rfl,Æ h⟩) cI
  |exact À (m:=Builtin.Tuple.tupleExact _)<|þ (À<|Æ<|Æ ⟨_,rfl,Æ h⟩) cI
  |exact À<|À (m:=Builtin.Tuple.tupleExact _)<|þ (Æ<|Æ ⟨_,rfl,Æ h⟩) cI
  |exact À<|À (m:=Builtin.Tuple.tupleExact _)<|þ (Æ ⟨_,rfl,Æ h⟩) cI
end
end HT
namespace L2
open PySem PySem.Spec PyProof.Rows
noncomputable abbrev TO:=St->Hp->(Option Int->Hp->Prop)->Prop
def PO(X:Cx)(e:Option Expr)(t:TO):Prop :=
 ∀(Á:List<|È×Obj) (s:Å) (σ:St) (H:Hp) (Q:Option Int->Hp->Prop),Inv X Á σ H s->t σ H Q->
  wpAny (Û X.prog X.w) X.A (evalPart e X.env) (fun u s'=>∃o H',Inv X Á σ H' s'/\ϝ u o/\Q o H') X.xe s
noncomputable def EL:TO:=fun _ H Q=>Q none H
noncomputable def Pq(t:TE):TO:=fun σ H Q=>t σ H fun x H1=>∃i,x=.int i/\Q (some i) H1
theorem Zv{ns:List Int}:∀{us:List Ã},Vals (ns.map V.int) us->û us ns:=by
 induction ns with
 |nil=>intro us r;rw[Χ]at r;cases r;exact .nil
 |cons n ns ih =>
  intro us r;rw[Ð]at r;cases r with
  |cons r1 r2 =>obtain⟨t,e⟩:=r1;subst e;exact .cons n t<|ih r2
section
variable {X:Cx}{e:Expr}{te:TE}{lo hi:Option Expr}{tl th:TO}{pos p2:Pos}
theorem po_none:PO X none EL:=by intro Á s σ H Q I h;rw[cQ];exact Æ ⟨none,H,I,.none,h⟩
theorem Fh(h:PE X e te):PO X (some e)<|Pq te:=by intro Á s σ H Q I hw;rw[evalPart_some];refine thn (h Á s σ H _ I hw) fun u s1 ⟨x,H1,I1,r1,q1⟩=>?_;obtain⟨i,rfl,q⟩:=q1;obtain⟨t,rfl⟩:=r1;exact⟨some i,H1,I1,.int i t,q⟩
def SlR(X:Cx)(r:V->Option Int->Option Int->Hp->VK->Prop):Prop :=
 ∀(Á:List<|È×Obj) (s:Å) (σ:St) (H:Hp) (x:V) (v vl vu:Ã) (lo hi:Option Int) (sl:È) (Q:VK),Inv X Á σ H s->RelV x v->s.heap.IsSliceOf sl vl vu .none->ϝ vl lo->ϝ vu hi->r x lo hi H Q->
  ∃T id,typeLookup (.type T) "__getitem__" = pure (some<|.builtin id)/\s.TypeIs v T/\wpAny (Û X.prog X.w) X.A (Ϝ v<|.ref sl) (EP X Á σ Q) X.xe s
variable {r:V->Option Int->Option Int->Hp->VK->Prop}
theorem SlR.or{r':V->Option Int->Option Int->Hp->VK->Prop}(h:SlR X r)(h':SlR X r'):SlR X fun x lo hi H Q=>r x lo hi H Q\/r' x lo hi H Q:=by
 intro Á s σ H x v vl vu lo hi sl Q I rx hs pl pu q;rcases q with q|q
 .exact h Á s σ H x v vl vu lo hi sl Q I rx hs pl pu q
 .exact h' Á s σ H x v vl vu lo hi sl Q I rx hs pl pu q
noncomputable def tSl(r:V->Option Int->Option Int->Hp->VK->Prop)(te:TE)(tl th:TO):TE:=fun σ H Q=>te σ H fun x H1=>tl σ H1 fun l H2=>th σ H2 fun u H3=>r x l u H3 Q
theorem A5(hr:SlR X r)(he:PE X e te)(hl:PO X lo tl)(hu:PO X hi th):PE X (.Subscript e (.Slice lo hi none p2) pos)<|tSl r te tl th:=by intro Á s σ H Q I h;refine Subscript_<|thn (he Á s σ H _ I h) fun v s1 ⟨x,H1,I1,r1,q1⟩=>?_;refine wpAny_Slice<|thn (hl Á s1 σ H1 _ I1 q1) fun vl s2 ⟨l,H2,I2,pl,q2⟩=>thn (hu Á s2 σ H2 _ I2 q2) fun vu s3 ⟨u,H3,I3,pu,q3⟩=>?_;rw[cQ];refine Æ ?_;have I4:Inv X Á σ H3 {s3 with heap:=s3.heap.push {cls:=.type "slice",data:=.fields #[vl,vu,.none]}}:=I3.kept (t':=s3.toks) fun b ob q=>Ä _ q;obtain⟨T,id,hT,ht,hg⟩:=hr Á {s3 with heap:=s3.heap.push {cls:=.type "slice",data:=.fields #[vl,vu,.none]}} σ H3 x v vl vu l u s3.heap.objs.size Q I4 r1 (Heap.IsSliceOf.new ..) pl pu q3;show wpAny (Û X.prog X.w) X.A (ae e (.Slice lo hi none p2) v<|.ref s3.heap.objs.size) (EP X Á σ Q) X.xe {s3 with heap:=s3.heap.push {cls:=.type "slice",data:=.fields #[vl,vu,.none]}};exact tail_any (ops:=[.ref s3.heap.objs.size,v]) ht hT hg (by with_unfolding_all rfl)
noncomputable def K3(xs:List V)(lo hi:Option Int):List V:=(xs.drop<|HT.sIx xs.length 0 lo).take<|HT.sIx xs.length xs.length hi - HT.sIx xs.length 0 lo
theorem Wr(xs:List V)(lo hi:Option Int):(K3 xs lo hi).length<=xs.length:=by unfold K3;rw[ø,ŉ];omega
def PQ(K:Frag):V->Option Int->Option Int->Hp->VK->Prop:=fun x lo hi H Q=>∃a xs,x=.ref a/\SqT K H a xs/\
 ¬ (HT.sIx xs.length 0 lo=0/\HT.sIx xs.length xs.length hi=xs.length)/\∀p,H p=none->Q (.ref p) (upd H p<|.tup<|K3 xs lo hi)
theorem sl_tup:SlR X<|PQ X.K:=by
 intro Á s σ H x v vl vu lo hi sl Q I rx hs pl pu h;obtain⟨a,xs,rfl,hx,hw,q⟩:=h;cases rx;obtain⟨î,r,ht,hz⟩:=I.tuple hx;have hlen:î.toArray.size=xs.length:=by rw[É];exact r.length.symm
 refine⟨"tuple",_,PyProof.Rows.slot_tuple_getitem.lookup,ht.typeIs,?_⟩;refine HT.getItem_tuple_cut ht hs pl pu (by rw[hlen];exact hw) ?_ (by rw[hlen];exact hz);rw[hlen];refine⟨.ref s.heap.objs.size,_,I.laid (t':=s.toks) (o:=.tup<|K3 xs lo hi) (fun b ob q=>Ä _ q) (Î _) ?_,rfl,q _<|I.hok.fresh<|Î _⟩;exact⟨Ó (Wr xs lo hi) hz,_,(r.drop<|HT.sIx xs.length 0 lo).take<|HT.sIx xs.length xs.length hi - HT.sIx xs.length 0 lo,IsTup.new _ _⟩
noncomputable def Pn(K:Frag):R2:=fun x y H Q=>∃a b ns ms,x=.ref a/\y=.ref b/\SqT K H a (ns.map V.int)/\SqT K H b (ms.map V.int)/\Q (.bl<|HT.lexLt ns ms) H
theorem GF(hu:X.A.units<Ğ):OpR X (è .Lt)<|Pn X.K:=by intro Á s σ H x y v u Q I rx ry h;obtain⟨a,b,ns,ms,rfl,rfl,ha,hb,q⟩:=h;cases rx;cases ry;obtain⟨î,r1,p1,_⟩:=I.tuple ha;obtain⟨ϖ,r2,p2,_⟩:=I.tuple hb;have i1:û î.toArray.toList ns:=Zv r1;have i2:û ϖ.toArray.toList ms:=Zv r2;exact HT.lt_tupInts p1 p2 i1 i2 hu ⟨.bl<|HT.lexLt ns ms,H,I,rfl,q⟩
noncomputable def F4(K:Frag):R2:=fun x y H Q=>∃a b xs ys,x=.ref a/\y=.ref b/\SqT K H a xs/\SqT K H b ys/\xs≠[]/\xs.length+ys.length<=Ø/\
 (ys=[]->Q (.ref a) H)/\(ys≠[]->∀p,H p=none->Q (.ref p) (upd H p<|.tup<|xs++ys))
theorem Vals.nil_iff{xs:List V}{us:List Ã}(r:Vals xs us):us=[]↔xs=[]:=by
 cases r with
 |nil=>simp
 |cons _ _=>simp
theorem EO:OpR X (ń .Add)<|F4 X.K:=by intro Á s σ H x y v u Q I rx ry h;obtain⟨a,b,xs,ys,rfl,rfl,ha,hb,hx,hz,q1,q2⟩:=h;cases rx;cases ry;obtain⟨î,r1,p1,_⟩:=I.tuple ha;obtain⟨ϖ,r2,p2,_⟩:=I.tuple hb;refine HT.cat_tup p1 p2 (fun z=>hx<|r1.nil_iff.mp z) (fun z=>⟨.ref a,H,I,rfl,q1<|r2.nil_iff.mp z⟩) (fun z=>?_) (by rw[<-r1.length,<-r2.length];exact hz);refine⟨.ref s.heap.objs.size,_,I.laid (t':=s.toks) (o:=.tup<|xs++ys) (fun b ob q=>Ä _ q) (Î _) ?_,rfl,q2 (fun w=>z<|r2.nil_iff.mpr w) _<|I.hok.fresh<|Î _⟩;exact⟨by rw[ë];exact hz,_,r1.append r2,IsTup.new _ _⟩
end
noncomputable def ixN(n:Nat)(i:Int):Option Nat:=if 0<=i then(if i<n then some i.toNat else none)else if -(n:Int)<=i then some (i+n).toNat else none
variable {α:Type}
noncomputable def atI(xs:List α)(i:Int):Option α:=(ixN xs.length i).bind fun j=>xs[j]?
variable {n:Nat} {i:Int}
theorem Mf{j:Nat}(h:ixN n i=some j):seqIndex? i n=some j/\j<n/\-(n:Int)<=i/\i<n:=by
 unfold ixN at h;by_cases h0:0<=i
 .rw[if_pos h0]at h;by_cases h1:i<n
  .rw[if_pos h1]at h;have e:i.toNat=j:=ú h;exact⟨by rw[seqIndex_of h0 h1,e],by omega,by omega,h1⟩
  .rw[if_neg h1]at h;cases h
 .rw[if_neg h0]at h;by_cases h1:-(n:Int)<=i
  .rw[if_pos h1]at h;have e:(i+n).toNat=j:=ú h;exact⟨by rw[dI (by omega) h1,e],by omega,h1,by omega⟩
  .rw[if_neg h1]at h;cases h
theorem Ma{xs:List α}{v:α}(h:atI xs i=some v):∃j,seqIndex? i xs.length=some j/\xs[j]?=some v/\j<xs.length/\-(xs.length:Int)<=i/\i<xs.length:=by
 unfold atI at h;cases e:ixN xs.length i with
 |none=>rw[e]at h;cases h
 |some j =>rw[e]at h;obtain⟨h1,h2,h3,h4⟩:=Mf e;exact⟨j,h1,h,h2,h3,h4⟩
def MD(b:Expr):Prop:=∀o i,subscripted b false o i=operate [o,i] (Ϝ o i)
def IxR(X:Cx)(r:R2):Prop :=
 ∀(η slice:Expr) (Á:List<|È×Obj) (s:Å) (σ:St) (H:Hp) (x y:V) (v u:Ã) (Q:VK),Inv X Á σ H s->RelV x v->RelV y u->r x y H Q->
  subscripted slice false v u=operate [v,u] (Ϝ v u)->wpAny (Û X.prog X.w) X.A (ae η slice v u) (EP X Á σ Q) X.xe s
def MtR(X:Cx)(id:String)(r:V->List V->Hp->VK->Prop):Prop :=
 ∀(Á:List<|È×Obj) (s:Å) (σ:St) (H:Hp) (x:V) (xs:List V) (v:Ã) (us:List Ã) (Q:VK),Inv X Á σ H s->RelV x v->Vals xs us->r x xs H Q->
  wpAny (Û X.prog X.w) X.A (call (.builtin id)<|v::us) (EP X Á σ Q) X.xe s
section
variable {X:Cx}{a b:Expr}{ta tb:TE}{pos:Pos}
variable {r:R2}
theorem IxR.or{r':R2}(h:IxR X r)(h':IxR X r'):IxR X fun x y H Q=>r x y H Q\/r' x y H Q:=by
 intro η slice Á s σ H x y v u Q I rx ry q hs;rcases q with q|q
 .exact h η slice Á s σ H x y v u Q I rx ry q hs
 .exact h' η slice Á s σ H x y v u Q I rx ry q hs
theorem MtR.or{id:String}{r r':V->List V->Hp->VK->Prop}(h:MtR X id r)(h':MtR X id r'):MtR X id fun x xs H Q=>r x xs H Q\/r' x xs H Q:=by
 intro Á s σ H x xs v us Q I rx rs q;rcases q with q|q
 .exact h Á s σ H x xs v us Q I rx rs q
 .exact h' Á s σ H x xs v us Q I rx rs q
theorem L7(hr:IxR X r)(ha:PE X a ta)(hb:PE X b tb)(hs:MD b):PE X (.Subscript a b pos)<|tOp r ta tb:=by intro Á s σ H Q I h;exact Subscript_ (Lm ha hb I h fun v u s2 x y H2 I2 rx ry q=>hr a b Á s2 σ H2 x y v u Q I2 rx ry q<|hs _ _)
noncomputable def Qz(K:Frag):R2:=fun x y H Q=>∃p xs i v,x=.ref p/\y=.int i/\SqL K H p xs/\atI xs i=some v/\Q v H
noncomputable def Qt(K:Frag):R2:=fun x y H Q=>∃p xs i v,x=.ref p/\y=.int i/\SqT K H p xs/\atI xs i=some v/\Q v H
noncomputable def LP:R2:=fun x y H Q=>∃z i c,x=.str z/\y=.int i/\z.length<=Ø/\atI z.cps.toList i=some c/\Q (.str ⟨#[c]⟩) H
theorem ix_list:IxR X<|Qz X.K:=by
 intro η slice Á s σ H x y v u Q I rx ry h hs;obtain⟨p,xs,i,z,rfl,rfl,hq,he,q⟩:=h;cases rx;obtain⟨t,rfl⟩:=ry;obtain⟨î,r,pl,hz⟩:=I.list hq;obtain⟨j,h1,h2,h3,h4,h5⟩:=Ma he;obtain⟨w,ew,cY⟩:=r.get h2;have hl:=r.length;have hn:=Xo;have fin:EP X Á σ Q w s:=⟨z,H,I,cY,q⟩
 by_cases h0:0<=i
 .have hj:i.toNat=j:=by
   rw[seqIndex_of h0 h5]at h1;exact ú h1
  exact item_listR pl.isList h0 (by omega) (by rw[hj];simpa using ew) fin hs
 .have hj:(i+(î.toArray.size:Int)).toNat=j:=by
   rw[dI (by omega) h4]at h1;rw[É,<-hl];exact ú h1
  exact dJ (x:=w) pl.isList.typeIs aH.lookup
   (wpAny_getItem_list_neg (Q:=fun r s'=>r=w/\EP X Á σ Q r s') pl.isList (by omega) (by rw[É]<;>omega) (by omega) (by rw[hj];simpa using ew) ⟨rfl,fin⟩) hs
theorem ix_tup:IxR X<|Qt X.K:=by
 intro η slice Á s σ H x y v u Q I rx ry h hs;obtain⟨p,xs,i,z,rfl,rfl,hq,he,q⟩:=h;cases rx;obtain⟨t,rfl⟩:=ry;obtain⟨î,r,pl,hz⟩:=I.tuple hq;obtain⟨j,h1,h2,h3,h4,h5⟩:=Ma he;obtain⟨w,ew,cY⟩:=r.get h2;have hl:=r.length;have hn:=Xo;have fin:EP X Á σ Q w s:=⟨z,H,I,cY,q⟩
 exact dJ (x:=w) pl.typeIs slot_tuple_getitem.lookup
  (getItem_tuple (j:=j) (Q:=fun r s'=>r=w/\EP X Á σ Q r s') pl (by omega) (by omega) (by rw[É,<-hl];exact h1) (by simpa using ew) ⟨rfl,fin⟩) hs
theorem GO:IxR X LP:=by
 intro η slice Á s σ H x y v u Q I rx ry h hs;obtain⟨z,i,c,rfl,rfl,hz,he,q⟩:=h;obtain⟨t,rfl⟩:=rx;obtain⟨t',rfl⟩:=ry;obtain⟨j,h1,h2,h3,h4,h5⟩:=Ma he;have hl:z.cps.toList.length=z.length:=by simp[Str.length]
 rw[hl]at h1 h4 h5;have hn:=Xo;exact tail_any (typeIs_str s z t) slot_str_getitem.lookup (getItem_str (c:=c) (by
   have e1:decide (i < -(2 ^ 63:Int))=false:=decide_eq_false (by omega)
   have e2:decide (i≥2 ^ 63)=false:=decide_eq_false (by omega)
   rw[e1,e2,Ϥ]) (by rw[h1];simpa using h2) ⟨.str ⟨#[c]⟩,H,I.tok _,⟨_,rfl⟩,q⟩) hs
noncomputable def rIx(K:Frag):R2:=fun x y H Q=>Qz K x y H Q\/Qt K x y H Q\/LP x y H Q
theorem ix_seq:IxR X<|rIx X.K:=ix_list.or (ix_tup.or GO)
theorem Ou(î:List Ã)(n j:Nat)(u:Ã):χ (·.setIfInBounds j u) {cls:=.type "list",data:=.seq î.toArray n}={cls:=.type "list",data:=.seq (î.set j u).toArray n}:=by simp[χ]
theorem Inv.lst{Á:List (È×Obj)}{σ:St}{H:Hp}{s:Å}{p:È}{xs:List V}(I:Inv X Á σ H s)(h:H p=some (.lst xs)) :
  ∃(î:List Ã) (n:Nat),Vals xs î/\s.heap.get? p=some {cls:=.type "list",data:=.seq î.toArray n}/\xs.length<=Ø:=by
 obtain⟨z,î,n,r,e⟩:=I.hok p _ h;exact⟨î,n,r,e,z⟩
variable {Á:List (È×Obj)} {σ:St} {H:Hp} {s:Å}
theorem Inv.lstUpd{p:È}{xs ys:List V}{î its':List Ã}{n':Nat}{f:Obj->Obj}(I:Inv X Á σ H s)(h:H p=some (.lst xs))
  (ho:s.heap.get? p=some {cls:=.type "list",data:=.seq î.toArray n}) (hf:f {cls:=.type "list",data:=.seq î.toArray n}={cls:=.type "list",data:=.seq its'.toArray n'}) (r:Vals ys its') (hz:ys.length<=Ø) (t:Nat) :
  Inv X Á σ (upd H p<|.lst ys) {s with heap:=s.heap.update p f,toks:=t}:=by
 have e:(s.heap.update p f).get? p=some {cls:=.type "list",data:=.seq its'.toArray n'}:=by rw[Ď f ho (by rw[hf]<;>rfl),hf]
 refine I.write (x:=p) (e:=p) (by rw[h];trivial) (.inl rfl) (fun b u hb q=>(ï _ _<|Ne.symm hb).trans q) ⟨_,e⟩ ?_;exact⟨hz,its',n',r,e⟩
def Gy:V->V->V->Hp->(Hp->Prop)->Prop:=fun o i v H Q=>∃p xs k j,o=.ref p/\i=.int k/\H p=some (.lst xs)/\ixN xs.length k=some j/\Q (upd H p<|.lst<|xs.set j v)
theorem A7:PSet X Gy:=by
 intro Á s σ H o i v ov iv u Q I ro ri rv h;obtain⟨p,xs,k,j,rfl,rfl,hp,hj,q⟩:=h;cases ro;obtain⟨t,rfl⟩:=ri;obtain⟨î,n,r,ho,hz⟩:=I.lst hp;obtain⟨h1,h2,h3,h4⟩:=Mf hj;have hl:=r.length;have hn:=Xo;have I':Inv X Á σ (upd H p<|.lst<|xs.set j v) {s with heap:=s.heap.update p (χ (·.setIfInBounds j u))} :=
  I.lstUpd hp ho (Ou î n j u) (r.set rv j) (by rw[Ϗ];exact hz) s.toks
 by_cases h0:0<=k
 .have hk:k.toNat=j:=by
   rw[seqIndex_of h0 h4]at h1;exact ú h1
  exact PySem.W.ki_setAt ho h0 (by omega) (by rw[É,<-hl];exact h4) (by rw[hk];exact⟨_,I',q⟩)
 .have hk:(k+(î.toArray.size:Int)).toNat=j:=by
   rw[dI (by omega) h3]at h1;rw[É,<-hl];exact ú h1
  exact PySem.W.ki_setBack ho (by omega) (by rw[É,<-hl];exact h3) (by omega) (by rw[hk];exact⟨_,I',q⟩)
theorem K5(lo hi:Option Int)(n:Nat):(ι lo hi none n).1=((HT.sIx n 0 lo:Nat):Int)/\(ι lo hi none n).2.1=((HT.sIx n n hi:Nat):Int)/\(ι lo hi none n).2.2=1:=by
 refine⟨?_,?_,rfl⟩
 .cases lo with
  |none=>simp[ι,HT.sIx]
  |some i =>
   simp only[ι,HT.sIx,df,show(1:Int) > 0 by decide,if_true];by_cases h:i<0
   .simp only[h,if_true]<;>omega
   .simp only[h,if_false]<;>omega
 .cases hi with
  |none=>simp[ι,HT.sIx]
  |some i =>
   simp only[ι,HT.sIx,df,show(1:Int) > 0 by decide,if_true];by_cases h:i<0
   .simp only[h,if_true]<;>omega
   .simp only[h,if_false]<;>omega
theorem J6(î:List Ã)(lo hi:Option Int):slicePick î.toArray lo hi none=((î.drop<|HT.sIx î.length 0 lo).take<|HT.sIx î.length î.length hi - HT.sIx î.length 0 lo).toArray:=by obtain⟨h1,h2,h3⟩:=K5 lo hi î.toArray.size;unfold slicePick;rw[h1,h2,h3];simp only[sliceRange_one,pick_run,É]<;>rfl
def Pm(K:Frag):V->Option Int->Option Int->Hp->VK->Prop:=fun x lo hi H Q=>∃a xs,x=.ref a/\SqL K H a xs/\∀p,H p=none->Q (.ref p) (upd H p<|.lst<|K3 xs lo hi)
theorem sl_list:SlR X<|Pm X.K:=by intro Á s σ H x v vl vu lo hi sl Q I rx hs pl pu h;obtain⟨a,xs,rfl,hx,q⟩:=h;cases rx;obtain⟨î,r,ht,hz⟩:=I.list hx;have hlen:=r.length;refine⟨"list",_,aH.lookup,ht.isList.typeIs,?_⟩;refine cR ht.isList hs pl pu .none (by simp) ?_ (by rw[É]<;>omega);rw[J6,<-hlen];refine⟨.ref s.heap.objs.size,_,I.laid (t':=s.toks) (o:=.lst<|K3 xs lo hi) (fun b ob q=>Ä _ q) (Î _) ?_,rfl,q _<|I.hok.fresh<|Î _⟩;exact⟨Ó (Wr xs lo hi) hz,_,0,(r.drop<|HT.sIx xs.length 0 lo).take<|HT.sIx xs.length xs.length hi - HT.sIx xs.length 0 lo,Ï _ rfl⟩
noncomputable def eqV:V->V->Bool
 |.non,.non=>true
 |.bl a,.bl b=>a==b
 |.bl a,.int b=>(if a then 1 else 0)==b
 |.int a,.bl b=>a==(if b then 1 else 0)
 |.int a,.int b=>a==b
 |.str a,.str b=>a==b
 |_,_=>false
noncomputable def inV(x:V)(xs:List V):Bool:=xs.any fun y=>eqV y x
theorem Mi:OpR X (è .NotIn) fun x y H Q=>∃i j,x=.str i/\y=.str j/\Q (.bl (!(!(Builtin.Str.occurrences j i 0 j.length 1).isEmpty))) H:=by intro Á s σ H x y v u Q I rx ry h;obtain⟨i,j,rfl,rfl,q⟩:=h;obtain⟨t,rfl⟩:=rx;obtain⟨t',rfl⟩:=ry;exact notIn_str ⟨.bl _,H,I,rfl,q⟩
theorem call_len_seq:CallR X (.builtin "len") fun xs H Q=>∃p ys,xs=[.ref p]/\(SqL X.K H p ys\/SqT X.K H p ys)/\Q (.int ys.length) H:=by
 intro Á s σ H xs us Q I r h;obtain⟨p,ys,rfl,hq,q⟩:=h;obtain⟨u,rfl,rx⟩:=ZK r;cases rx;have hn:=Xo;rcases hq with hq|hq
 .obtain⟨î,r',pl,hz⟩:=I.list hq;have hlen:=r'.length;exact Calls.call_len_list pl.isList (by simp only[É]<;>omega) ⟨.int ys.length,H,I.tok _,⟨s.toks+1,by rw[É,hlen]⟩,q⟩
 .obtain⟨î,r',pl,hz⟩:=I.tuple hq;have hlen:=r'.length;exact len_tuple pl (by simp only[É]<;>omega) ⟨.int ys.length,H,I.tok _,⟨s.toks+1,by rw[É,hlen]⟩,q⟩
theorem MH:CallR X (.builtin "len") fun xs H Q=>∃z,xs=[.str z]/\z.length<=Ø/\Q (.int z.length) H:=by intro Á s σ H xs us Q I r h;obtain⟨z,rfl,hz,q⟩:=h;obtain⟨u,rfl,t,rfl⟩:=ZK r;have hn:=Xo;exact len_str (by omega) ⟨.int z.length,H,I.tok _,⟨_,rfl⟩,q⟩
theorem CallR.or{f:Ã}{r r':List V->Hp->VK->Prop}(h:CallR X f r)(h':CallR X f r'):CallR X f fun xs H Q=>r xs H Q\/r' xs H Q:=by
 intro Á s σ H xs us Q I rs q;rcases q with q|q
 .exact h Á s σ H xs us Q I rs q
 .exact h' Á s σ H xs us Q I rs q
theorem K2:CallR X (.type "list") fun xs H Q=>∃p ys,xs=[.ref p]/\(SqL X.K H p ys\/SqT X.K H p ys)/\∀l,H l=none->Q (.ref l) (upd H l<|.lst ys):=by
 intro Á s σ H xs us Q I r h;obtain⟨p,ys,rfl,hq,q⟩:=h;obtain⟨u,rfl,rx⟩:=ZK r;cases rx;have fin:∀(î:List Ã),Vals ys î->ys.length<=Ø->∀(h':ā) (c':Nat),(∀b o',s.heap.get? b=some o'->h'.get? b=some o')->
   h'.get? s.heap.objs.size=some {cls:=.type "list",dict:=none,data:=.seq î.toArray c',slots:=#[]}->EP X Á σ Q (.ref s.heap.objs.size) {s with heap:=h'}:=fun î r' hz h' c' kp e =>
  ⟨.ref s.heap.objs.size,_,I.laid (t':=s.toks) kp (Î _) (show ObjOk X.prog X.w _ h' _ (.lst ys) from ⟨hz,î,c',r',e⟩),rfl,q _<|I.hok.fresh<|Î _⟩
 rcases hq with hq|hq
 .obtain⟨î,r',pl,hz⟩:=I.list hq;have hlen:=r'.length;obtain⟨o,ho,hc,n,hd⟩:=pl.isList;exact call_list_seq p (.inl rfl) ho hc hd (fun h' c' kp e=>fin î r' hz h' c' kp e) (by simp only[É]<;>omega)
 .obtain⟨î,r',pl,hz⟩:=I.tuple hq;have hlen:=r'.length;obtain⟨o,ho,hc,n,hd⟩:=pl;exact call_list_seq p (.inr rfl) ho hc hd (fun h' c' kp e=>fin î r' hz h' c' kp e) (by simp only[É]<;>omega)
theorem JV:CallR X (.type "tuple") fun xs H Q=>∃p ys,xs=[.ref p]/\((SqL X.K H p ys/\∀l,H l=none->Q (.ref l) (upd H l<|.tup ys))\/(SqT X.K H p ys/\Q (.ref p) H)):=by
 intro Á s σ H xs us Q I r h;obtain⟨p,ys,rfl,h⟩:=h;obtain⟨u,rfl,rx⟩:=ZK r;cases rx;rcases h with⟨hq,q⟩|⟨hq,q⟩
 .obtain⟨î,r',pl,hz⟩:=I.list hq;have hlen:=r'.length;refine call_tuple_list pl.isList (fun h' kp=>?_) (by simp only[É]<;>omega);have I1:Inv X Á σ H {s with heap:=h'}:=I.kept (t':=s.toks) kp;have I2:Inv X Á σ (upd H h'.objs.size<|.tup ys) {s with heap:=h'.push {cls:=.type "tuple",data:=.seq î.toArray}} :=
   I1.laid (t':=s.toks) (fun b o e=>Ä _ e) (Î _) (show ObjOk X.prog X.w _ _ _ (.tup ys) from ⟨hz,î,r',IsTup.new _ _⟩)
  exact⟨.ref h'.objs.size,_,I2,rfl,q _<|I1.hok.fresh<|Î _⟩
 .obtain⟨î,r',pl,hz⟩:=I.tuple hq;exact call_tuple_same pl ⟨.ref p,H,I,rfl,q⟩
def tyV(K:Frag)(T:String)(x:V)(H:Hp):Prop:=match x with
 |.str _=>T = "str"
 |.int _=>T = "int"
 |.ref p=>(T = "list"/\∃xs,SqL K H p xs)\/(T = "tuple"/\∃o,K.lookup p=some o/\o.cls=.type "tuple"/\o.dict=none)\/
   (T = "dict"/\((∃kvs,H p=some (.dK kvs))\/∃kvs,H p=some (.dT kvs)))\/(T = "set"/\∃S n,H p=some (.set S n))
 |_=>False
theorem Lx{T:String}{x:V}{v:Ã}(I:Inv X Á σ H s)(r:RelV x v)(ty:tyV X.K T x H) :
  s.TypeIs v T/\∀a,v=.ref a->∃ob,s.heap.get? a=some ob/\ob.dict=none:=by
 cases x with
 |str z =>obtain⟨t,rfl⟩:=r;cases (show T = "str" from ty);exact⟨typeIs_str s z t,fun _ e=>nomatch e⟩
 |int i =>obtain⟨t,rfl⟩:=r;cases (show T = "int" from ty);exact⟨typeIs_int s i t,fun _ e=>nomatch e⟩
 |ref p =>
  cases r;rcases ty with⟨rfl,xs,hq⟩|⟨rfl,o,hk,hc,hd⟩|⟨rfl,hk⟩|⟨rfl,S,n,hk⟩
  .obtain⟨î,_,pl,_⟩:=I.list hq;refine⟨pl.isList.typeIs,fun a e=>?_⟩;cases e;obtain⟨o,n,e,c,hd,_⟩:=pl;exact⟨o,e,hd⟩
  .refine⟨⟨o,I.kIn p o hk,hc⟩,fun a e=>?_⟩;cases e;exact⟨o,I.kIn _ o hk,hd⟩
  .have z:∃o,s.heap.get? p=some o/\o.ExactDict:=by
    rcases hk with⟨kvs,hk⟩|⟨kvs,hk⟩
    .obtain⟨_,_,_,_,o,_,_,e,ex,_⟩:=I.hok p _ hk;exact⟨o,e,ex⟩
    .obtain⟨_,_,_,_,o,_,_,e,ex,_⟩:=I.hok p _ hk;exact⟨o,e,ex⟩
   obtain⟨o,e,ex⟩:=z;refine⟨⟨o,e,ex.1⟩,fun a e2=>?_⟩;cases e2;exact⟨o,e,ex.2.1⟩
  .obtain⟨o,_,_,_,e,ex,_⟩:=I.hok p _ hk;refine⟨⟨o,e,ex.1⟩,fun a e2=>?_⟩;cases e2;exact⟨o,e,ex.2.1⟩
 |_=>exact ī ty
noncomputable def tBM(K:Frag)(T:String)(r:V->List V->Hp->VK->Prop)(to:TE)(t:TA):TE:=fun σ H Q=>to σ H fun x H1=>tyV K T x H1/\t σ H1 fun xs H2=>r x xs H2 Q
variable {o e:Expr}{es:List Expr}{to:TE}{t:TA}{name:Str}{ō Ť:Pos}{T id:String}{r:V->List V->Hp->VK->Prop}
theorem Qq(pa:PlainAttrs T)(slot:Slot T name id)(hty:typeOf (.builtin id)=pure (.type "method_descriptor"))(hm:MtR X id r)(ho:PE X o to)(ha:PA X (e::es) t)
  (av:ħ o name X.env (eval o X.env)=eval o X.env:=by rfl)
  (a8:((ĥ Ť<|Õ (e::es) X.env).all (fun x=>!x.1)&&(Ÿ Ť<|ņ [] X.env).all (fun x=>x.1.isSome)
    && decide ((e::es).length+([]:List aI).length+(if([]:List aI).isEmpty then 0 else 1)<30))=true:=by rfl)
  (aw:(ō.endLine==Ť.line)=true:=by rfl) (hs:Õ (e::es) X.env=(false,eval e X.env)::Õ es X.env:=by rfl) (cx:(ĥ Ť<|Õ es X.env).any (·.1)=false:=by rfl) :
  PE X (.Call (.Attribute o name ō) (e::es) [] Ť) (tBM X.K T r to t):=by
 intro Á s σ H Q I h;refine wpAny_Call_method_late av a8 aw rfl<|thn (ho Á s σ H _ I h) fun v s1 ⟨x,H1,I1,r1,ty,q1⟩=>?_;obtain⟨h1,h2⟩:=Lx I1 r1 ty;refine⟨T,id,pa,slot,hty,h1,h2,?_⟩;have hA:=ha Ť Á s1 σ H1 _ I1 q1;rw[hs]at hA ⊢;refine Calls.callWith_builtin (by show(false||(ĥ Ť<|Õ es X.env).any (·.1))=false;rw[cx]<;>rfl)<|Calls.evalArgs_plain ?_;exact thn hA fun us s2 ⟨vs,H2,I2,r2,q2⟩=>hm Á s2 σ H2 x vs v us Q I2 r1 r2 q2
/- xs.append(e),list.index on a module's tuple .. are MtR facts of 06m -/
end
def MtM(X:Cx)(id:String)(r:V->List V->Hp->VK->Prop):Prop :=
 ∀(Á:List<|È×Obj) (s:Å) (σ:St) (H:Hp) (x:V) (xs:List V) (v:Ã) (us:List Ã) (Q:VK),Inv X Á σ H s->RelV x v->Vals xs us->r x xs H Q->
  wpAny (Û X.prog X.w) X.A (call (.builtin id)<|v::us) (EP X Á σ Q) X.xe s
theorem Vals.one:∀{x:V}{us:List Ã},Vals [x] us->∃u,us=[u]/\RelV x u
 |_,_,.cons r .nil=>⟨_,rfl,r⟩
theorem Vals.two:∀{x y:V}{us:List Ã},Vals [x,y] us->∃u v,us=[u,v]/\RelV x u/\RelV y v
 |_,_,_,.cons r (.cons q .nil)=>⟨_,_,rfl,r,q⟩
theorem Vals.zero:∀{us:List Ã},Vals [] us->us=[]
 |_,.nil=>rfl
variable {xs:List V} {us:List Ã}
theorem Vals.dropLast(h:Vals xs us):Vals xs.dropLast us.dropLast:=by
 induction h with
 |nil=>exact .nil
 |cons r t ih =>
  cases t with
  |nil=>exact .nil
  |cons q t'=>exact .cons r ih
theorem Vals.eraseIdx:∀{xs:List V}{us:List Ã}(i:Nat),Vals xs us->Vals (xs.eraseIdx i) (us.eraseIdx i)
 |_,_,_,.nil=>.nil
 |_,_,0,.cons _ t=>t
 |_,_,i+1,.cons r t=>.cons r<|Vals.eraseIdx i t
theorem Vals.reverse(h:Vals xs us):Vals xs.reverse us.reverse:=by
 induction h with
 |nil=>exact .nil
 |cons r t ih=>rw[Ε,Ε];exact Vals.append ih<|.cons r .nil
theorem Vals.rep{xs:List V}{us:List Ã}(h:Vals xs us):∀k:Nat,Vals (Ö k xs).flatten (Ö k us).flatten
 |0=>.nil
 |k+1=>by rw[č,č,Ł,Ł];exact Vals.append h<|Vals.rep h k
theorem Ke{α:Type}:∀(l:List α) (i:Nat),(l.eraseIdx i).length<=l.length
 |[],_=>Î _
 |_::_,0=>Ń _
 |_::r,i+1=>Ξ<|Ke r i
theorem Kl(î:List Ã):∀(k:Nat) (į:List Ã),
  dh (fun x1 x2=>x1++x2) į.toArray (Ö k î.toArray)=(į++(Ö k î).flatten).toArray
 |0,į=>by simp
 |k+1,į=>by
  have e:į.toArray++î.toArray=(į++î).toArray:=by simp
  have e2:(į++î)++(Ö k î).flatten=į++(Ö (k+1) î).flatten:=by rw[č,Ł,ŗ]
  rw[<-e2,<-Kl î k (į++î),<-e,č,Ĵ]
section
variable {X:Cx}{Á:List (È×Obj)}{σ:St}{H:Hp}{s:Å}{l b:È}{xs ys zs:List V}
variable {î:List Ã} {n:Nat} {t':Nat}
theorem Inv.lset{its':List Ã}{f:Array Ã->Array Ã}(I:Inv X Á σ H s)(hH:H l=some (.lst xs))
  (e:s.heap.get? l=some {cls:=.type "list",data:=.seq î.toArray n}) (hf:f î.toArray=its'.toArray) (hv:Vals ys its') (hz:ys.length<=Ø) :
  Inv X Á σ (upd H l<|.lst ys) {s with heap:=s.heap.update l<|χ f,toks:=t'}:=by
 have q:=PySem.IsL.update e f;rw[hf]at q;refine I.write (x:=l) (e:=l) (by rw[hH];exact trivial) (.inl rfl) (fun b' u hb hu=>(ï s.heap (χ f)<|Ne.symm hb).trans hu) ⟨_,q⟩ ?_;exact⟨hz,its',_,hv,q⟩
theorem Inv.lnew(I:Inv X Á σ H s)(hv:Vals ys î)(hz:ys.length<=Ø) :
  Inv X Á σ (upd H s.heap.objs.size<|.lst ys) {s with heap:=s.heap.push {cls:=.type "list",data:=.seq î.toArray},toks:=t'} :=
 I.laid (fun _ _ q=>Ä _ q) (Î _) ⟨hz,î,0,hv,Ï _ rfl⟩
theorem Inv.fresh(I:Inv X Á σ H s):H s.heap.objs.size=none:=I.hok.fresh (Î _)
theorem Inv.lstM(I:Inv X Á σ H s)(hH:H l=some (.lst xs)):xs.length<=Ø/\∃(î:List Ã) (n:Nat),Vals xs î/\xs.length=î.length/\s.heap.get? l=some {cls:=.type "list",data:=.seq î.toArray n}:=by obtain⟨z,î,n,r,e⟩:=I.hok l _ hH;exact⟨z,î,n,r,r.length,e⟩
theorem BX(h:n<=Ø):Builtin.List.listTooLong n=false:=by unfold Builtin.List.listTooLong;exact decide_eq_false (by omega)
end
section
variable {X:Cx}
def OQ:V->List V->Hp->VK->Prop:=fun x vs H Q=>∃l xs y,x=.ref l/\vs=[y]/\H l=some (.lst xs)/\xs.length<Ø/\Q .non (upd H l<|.lst<|xs++[y])
theorem Ac:MtM X "list.append" OQ:=by intro Á s σ H x vs v us Q I rx rv h;obtain⟨l,xs,y,rfl,rfl,hH,hz,q⟩:=h;cases rx;obtain⟨u,rfl,ru⟩:=rv.one;obtain⟨z,î,n,r,hl,e⟩:=I.lstM hH;refine bY F.slot_list_append ⟨_,e,rfl⟩ F.entry_list_append (F.args_list_append_2 _ _) (PySem.list_append l î.toArray n u<|by rw[É];omega) ⟨e,?_⟩;refine⟨.non,_,I.lset (its':=î++[u]) hH e (by simp) (r.append<|.cons ru .nil) ?_,rfl,q⟩;rw[ë,List.length_singleton];omega
def Bs:V->List V->Hp->VK->Prop:=fun x vs H Q=>∃l xs i k y,x=.ref l/\vs=[.int i]/\H l=some (.lst xs)/\-(2 ^ 63)<=i/\i<2 ^ 63/\seqIndex? i xs.length=some k/\xs[k]?=some y/\Q y (upd H l<|.lst<|xs.eraseIdx k)
theorem A3:MtM X "list.pop" Bs:=by
 intro Á s σ H x vs v us Q I rx rv h;obtain⟨l,xs,i,k,y,rfl,rfl,hH,h1,h2,hk,hy,q⟩:=h;cases rx;obtain⟨u,rfl,ru⟩:=rv.one;obtain⟨t,rfl⟩:=ru;obtain⟨z,î,n,r,hl,e⟩:=I.lstM hH;obtain⟨w,hw,cY⟩:=r.get hy;refine bY F.slot_list_pop ⟨_,e,rfl⟩ F.entry_list_pop (F.args_list_pop_2 _ _)
  (MeetsSeq.list_pop_at l î.toArray n i t k w (fitsIndex_both h1 h2) (by rw[É,<-hl];exact hk) (by rw[<-Ą];exact hw)<|by rw[É];omega) ⟨e,?_⟩
 refine⟨y,_,I.lset (its':=î.eraseIdx k) hH e ?_ (r.eraseIdx k) ?_,cY,q⟩
 .show î.toArray.eraseIdxIfInBounds k=(î.eraseIdx k).toArray;rw[List.eraseIdxIfInBounds_toArray]
 .have:=Ke xs k;omega
noncomputable def Pj:R2:=fun x y H Q=>∃l b xs zs,x=.ref l/\y=.ref b/\H l=some (.lst xs)/\H b=some (.lst zs)/\xs.length+zs.length<=Ø/\∀p,H p=none->Q (.ref p) (upd H p<|.lst<|xs++zs)
theorem Lj:OpR X (ń .Add) Pj:=by
 intro Á s σ H x y v u Q I rx ry h;obtain⟨l,b,xs,zs,rfl,rfl,hH,hB,hz,q⟩:=h;cases rx;cases ry;obtain⟨z,î,n,r,hl,e⟩:=I.lstM hH;obtain⟨z2,ϖ,n2,r2,hl2,e2⟩:=I.lstM hB;refine PySem.P.add_list e e2 ?_ (by rw[É,É];omega);have ea:î.toArray++ϖ.toArray=(î++ϖ).toArray:=by simp
 rw[ea];exact⟨.ref _,_,I.lnew (t':=s.toks) (r.append r2) (by rw[ë];omega),rfl,q _ I.fresh⟩
noncomputable def QW:R2:=fun x y H Q=>∃l k xs,x=.ref l/\y=.int k/\H l=some (.lst xs)/\-(2 ^ 63)<=k/\k<2 ^ 63/\xs.length*k.toNat<=Ø/\
 ∀p,H p=none->Q (.ref p) (upd H p<|.lst (Ö k.toNat xs).flatten)
theorem DO{α:Type}(xs:List α)(k:Nat):(Ö k xs).flatten.length=k*xs.length:=by
 induction k with
 |zero=>simp
 |succ k ih=>rw[č,Ł,ë,ih,Nat.succ_mul,Nat.add_comm]
theorem op_rep:OpR X (ń .Mult) QW:=by
 intro Á s σ H x y v u Q I rx ry h;obtain⟨l,k,xs,rfl,rfl,hH,h1,h2,hz,q⟩:=h;cases rx;obtain⟨t,rfl⟩:=ry;obtain⟨z,î,n,r,hl,e⟩:=I.lstM hH;have hlen:î.toArray.size*k.toNat<=Ø:=by rw[É,<-hl];exact hz
 have hcap:¬ î.toArray.size*k.toNat > (2 ^ 63 - 1) / 8:=by
  have:(Ø:Nat)<=(2 ^ 63 - 1) / 8:=by decide
  omega
 have hfit:¬ (!Builtin.List.listFitsIndex k)=true:=by rw[fitsIndex_both h1 h2];exact ý
 have hlong:¬ Builtin.List.listTooLong (î.toArray.size*k.toNat)=true:=by rw[BX hlen];exact ý
 have hnew:dh (fun x1 x2=>x1++x2) #[] (Ö (if î.toArray.isEmpty=true then 0 else k.toNat) î.toArray)=(Ö k.toNat î).flatten.toArray:=by
  have f0:∀m:Nat,dh (fun x1 x2=>x1++x2) #[] (Ö m î.toArray)=(Ö m î).flatten.toArray:=fun m=>by have:=Kl î m [];rw[List.nil_append]at this;exact this
  rw[f0];cases î with
  |nil=>simp
  |cons a r'=>rw[if_neg<|by simp]
 refine wpAny_binaryOp_repeat_ref (T:="list") (U:="int") (by decide) ⟨_,e,rfl⟩ (fun s'=>typeIs_int s' k t) noFill_list_mul F.fills_int_mul F.slot_int_rmul repeat_list F.slot_int_index.lookup
  (bY F.slot_int_rmul (typeIs_int s k t) F.entry_int_rmul (F.args_int_rmul_2 _ _) (int___rmul___int_list k t l î.toArray n)
    ⟨e,rfl,⟨_,e,rfl⟩,bY F.slot_list_mul ⟨_,e,rfl⟩ F.entry_list_mul (F.args_list_mul_2 _ _) (AutoListH.list___mul___list_int_3 l î.toArray n k t hfit hcap hlong) ⟨e,?_⟩⟩)
 rw[hnew];exact⟨.ref _,_,I.lnew (t':=s.toks) (r.rep k.toNat) (by rw[DO,bZ];exact hz),rfl,q _ I.fresh⟩
end
end L2
namespace Att
open PySem PySem.W PySem.Calls PyProof.Rows
variable {P:Params} {h:ā}
theorem Wu:∀(ns:List Int) (vs:List Ã),WellAll P h vs (ns.map WData.int)->û vs ns:=by
 intro ns;induction ns with
 |nil =>intro vs w;rw[Χ]at w;cases w;exact .nil
 |cons n ns ih =>
  intro vs w;rw[Ð]at w;cases w with
  |cons a b =>cases a;exact .cons _ _<|ih _ b
variable {l:OpenLaw} {n:Nat}
theorem AG(hn:l.most=some n){args:List WData}{ay:List Ã}
  (hpre:l.row.toRowW.claim.pre args=true) (hwl:WellAll P h ay args) :
  ∃a vs ns,ay=[Value.ref a]/\args=[WData.list<|ns.map WData.int]/\h.get? a=some {cls:=.type "list",data:=.seq vs.toArray}/\û vs ns/\ns.length<=n:=by
 have hsh:WShape.hasAll [] args [.list .int]=true:=(pre_splitW hpre).1;have hc:l.pre.holds [] {args:=args}=true:=(pre_splitW hpre).2;obtain⟨d,r,rfl,h1,h2⟩:=hasAllW_cons hsh;obtain rfl:=hasAllW_nil h2;obtain⟨xs,rfl,h3⟩:=hasW_list h1;obtain⟨ns,rfl⟩:=items_int h3;have hlen:ns.length<=n:=by
  unfold OpenLaw.pre at hc;have h4:(WTm.not<|.lt (.lit<|.int (n:Int))<|.len<|.arg 0).holds [] {args:=[.list<|ns.map .int]}=true:=by have h4:=(holds_andW hc).1;rw[hn]at h4;exact h4
  have h5:=condW_of h4<|w_not<|w_lt w_lit<|w_len_list<|w_arg rfl;rw[Â]at h5;refine Nat.le_of_not_lt fun q=>?_;have q':(n:Int)<((ns.length:Nat):Int):=by omega
  first
   |(rw[decide_eq_true q']at h5;exact absurd h5<|by decide)
   |(simp at h5;omega)
 cases hwl with
 |cons w1 w2 =>
  cases w2;cases w1 with
  |list ho hall=>exact⟨_,_,ns,rfl,rfl,ho,Wu ns _ hall,hlen⟩
theorem Ay(l:OpenLaw)(args:List WData):l.row.toRowW.claim.post args (.bool true) args=true :=
 postW_of (r:=l.row.toRowW) (X:=(true==true))
  (show WShape.has [] (.bool true) .bool=true by first|rfl|decide|simp[WShape.has,WShape.arms,WShape.armsAll])
  (show(WTm.eq .res<|.lit<|.bool true).value [] {args:=args,res:=some<|.bool true,after:=args}=some (.bool<|true==true) from w_eq_bool (w_res rfl) w_lit) rfl
theorem attach_call{q:à}{loose:List Str}{XP:(Str->Option Ã)->ā->Prop}{YP:õ->ā->Prop}{d:DefRec}
  (hn:l.most=some n) (hdf:d.params.defaults=[])
  (call:∀(w:õ) (s₀ ġ:Å) (mg mb:Str->Option Ã) (fa:È) (o:Obj) (pm cd doc:Ã) (a:È) (vs:List Ã) (ns:List Int),
    Ground q loose [] XP w s₀ mg mb ġ.heap->YP w ġ.heap->
    ġ.heap.get? fa=some o->o.data=.func (docDef d.name d.params d.body d.scope pm cd doc)->ġ.heap.CodeRec cd d.name->mg d.name=some (.ref fa)->
    ġ.heap.get? a=some {cls:=.type "list",data:=.seq vs.toArray}->û vs ns->ns.length<=n->ġ.gens=#[]->
    codeAny (Û l.prog w) ϳ (.call (.ref fa) ⟨[.ref a],[]⟩) (fun r s'=>r=.ok (.ret<|.bool true)/\OldK ġ.heap s'.heap/\s'.os=ġ.os/\Ρ s'.gens) ġ) :
  WalkO q loose XP YP l.row.toRowW d [] (fun f vs=>PySem.call f vs):=by
 intro w s₀ ġ mg mb G Y fa o pm cd doc dV kV ho hd aE hD hmg hg args ay as hpre hlay hrd hwl hlo;obtain rfl:dV=.none:=Dflts.none hD hdf;obtain rfl:kV=.none:=Dflts.noKw hD;obtain⟨a,vs,ns,rfl,rfl,cZ,hints,hlen⟩:=AG hn hpre hwl;refine enter_call<|ŷ (call w s₀ ġ mg mb fa o pm cd doc a vs ns G Y ho (fd_plain hd) aE hmg cZ hints hlen hg) fun r s' hq=>?_;obtain⟨rfl,h2,h3,h4⟩:=hq;exact⟨.inl ⟨.bool true,.bool true,[],rfl,fun _=>rfl,.bool true,Ay l _,fun _=>⟨List.Pairwise.nil,fun _ hm=>(nomatch hm)⟩⟩,h2,h3,h4⟩
end Att
namespace L2
open PySem PySem.Spec PyProof.Rows
theorem Wb:∀{vs:List Ã}{ns:List Int},û vs ns->Vals (ns.map V.int) vs
 |_,_,.nil=>.nil
 |_,_,.cons n t h=>.cons ⟨t,rfl⟩<|Wb h
def Iy(H:Hp):Prop:=∀b,H b=none\/∃o xs,H b=some (.frz o<|.lst xs)
theorem Dt{P:à}{w:õ}{K:Frag}{mg mb:Str->Option Ã}{CX:CXT}{k:Nat}{fa a:È}{fd:Ņ}{x:Str}{sp:Sp}{ġ:Å}{vs:List Ã}{ns:List Int}
  (KX:K.In ġ.heap) (hns:ġ.heap.Ns Ĉ mg) (hb:ġ.heap.Ns builtinsNs mb) (hbb:∀x:Str,x≠"__name__"->mb x=ť x) (hlim:ġ.heap.NoLimit) (hg:ġ.gens=#[])
  (ha:ġ.heap.get? a=some {cls:=.type "list",data:=.seq vs.toArray}) (hi:û vs ns) (hl:ns.length<=Ø) (hr:Room k ϳ)
  (F:∀base:ā,K.In base->base.Ns Ĉ mg->FnOk P w K mg base CX k fa fd [x] sp) (hbind:∀(s:Å) (u:Ã),BindsTo s fd ⟨[u],[]⟩ [(x,u)])
  (dv:∀H:Hp,Iy H->SqL K H a (ns.map V.int)->sp [.ref a] H (fun v _=>v=.bl true) fun _ _ _=>False)
  (hCX:∀H e s',CX [] H ġ (fun _ _ _=>False) e s'->False) :
  codeAny (Û P w) ϳ (.call (.ref fa) ⟨[.ref a],[]⟩) (fun r s'=>r=.ok (.ret<|.bool true)/\OldK ġ.heap s'.heap/\s'.os=ġ.os/\Ρ s'.gens) ġ:=by
 have rv:=Wb hi;have lenV:=hi.length;have core:∀H:Hp,Iy H->SqL K H a (ns.map V.int)->HOk P w H ġ.heap->(∀b,H b≠none->b=a)->(H a≠none->K.lookup a=none)->
   codeAny (Û P w) ϳ (.call (.ref fa) ⟨[.ref a],[]⟩) (fun r s'=>r=.ok (.ret<|.bool true)/\OldK ġ.heap s'.heap/\s'.os=ġ.os/\Ρ s'.gens) ġ:=by
  intro H hO hS hok hA hK;have cJ:∀{b:È}{o:Obj},ġ.heap.get? b=some o->H b=none->(Mc ġ.heap H).get? b=some o:=fun e n=>Bg e n;have noA:∀{b:È}{o:Obj}{es:Array DictEntry}{ep:Nat},ġ.heap.get? b=some o->o.data=.dict es ep->H b=none:=fun{b o es ep} e d=>by
   cases q:H b with
   |none=>rfl
   |some u =>have e':b=a:=hA b (by rw[q];simp);subst e';rw[ha]at e;cases e;have d':Data.seq vs.toArray _=Data.dict es ep:=d;cases d'
  have nsK:∀{b:È}{m:Str->Option Ã},ġ.heap.Ns b m->(Mc ġ.heap H).Ns b m:=fun{b m} ⟨o,es,ep,e,d,r⟩=>⟨o,es,ep,cJ e<|noA e d,d,r⟩
  have hKb:K.In<|Mc ġ.heap H:=fun b o e=>cJ (KX b o e) (by
    cases q:H b with
    |none=>rfl
    |some u =>
      have e':b=a:=hA b (by rw[q];simp)
      subst e'
      rw[hK<|by rw[q];simp]at e;cases e)
  have hM:Mod K mg<|Mc ġ.heap H:=⟨hKb,nsK hns,⟨mb,nsK hb,hbb⟩,let ⟨mc,h1,h2⟩:=hlim;⟨mc,nsK h1,h2⟩⟩
  have e0:Env0 P w K mg (Mc ġ.heap H) ϳ [] ġ H:=⟨rfl,hM,fun b o e=>EM e,Nat.le_of_eq<|AH _ _,trivial,fun b hb=>absurd (show b∈([]:List È) from hb) (by simp),hok,.of_eq hg⟩
  refine ŷ ((F _ hKb<|nsK hns).run ϳ [] ġ H ⟨[.ref a],[]⟩ [.ref a] [.ref a] _ _ hr e0 (hbind ġ<|.ref a) (.cons rfl .nil)<|dv H hO hS) fun r s' h=>?_;cases r with
  |error e=>exact(hCX H e s' h).elim
  |ok fl =>
   cases fl with
   |next=>exact ī h
   |brk=>exact ī h
   |cont=>exact ī h
   |ret u =>
    obtain⟨v,H',os,bare,un,hok',r',q⟩:=h;have q':v=.bl true:=q;subst q';obtain rfl:u=Value.bool true:=r';refine⟨rfl,OldK.of_keep fun b o e=>?_,os,bare⟩;cases q:H b with
    |none=>exact un.keep b o e q (by intro z;exact absurd (show b∈([]:List È) from z)<|by simp) (by simp)
    |some u =>
     rcases hO b with z|⟨ob,xs,z⟩
     .rw[q]at z;cases z
     .have z2:=un.frzs b ob _ z;obtain⟨e1,_⟩:=hok b _ z;obtain⟨e2,_⟩:=hok' b _ z2;rw[e]at e1;cases e1;exact e2
 cases hk:K.lookup a with
 |some o =>have e:=KX a o hk;rw[ha]at e;cases e;refine core (fun _=>none) (fun _=>.inl rfl) (.inr ⟨_,vs.toArray,_,hk,rfl,rfl,rfl,by rw[É,lenV];exact hl,by simpa using rv⟩) (fun b u z=>by have z':(none:Option HO)=some u:=z;cases z') (fun b z=>absurd rfl z) fun z=>absurd rfl z
 |none =>
  refine core (fun b=>if b=a then some (.frz {cls:=.type "list",data:=.seq vs.toArray}<|.lst<|ns.map V.int)else none) (fun b=>?_) (.inl<|.inr ⟨{cls:=.type "list",data:=.seq vs.toArray},if_pos rfl⟩) (fun b u z=>?_) (fun b z=>?_) fun _=>hk
  .by_cases hb:b=a
   .exact .inr ⟨_,_,if_pos hb⟩
   .exact .inl<|if_neg hb
  .by_cases hb:b=a
   .have z':=(if_pos hb).symm.trans z;cases z';subst hb;exact⟨ha,by rw[Â];exact hl,vs,_,rv,ha⟩
   .have z':=(if_neg hb).symm.trans z;cases z'
  .by_cases hb:b=a
   .exact hb
   .exact absurd (if_neg hb) z
noncomputable def Yv(s:Ļ):Arguments:=match s with
 |.FunctionDef _ a _ _ _ _ _ _ _ _=>a
 |_=>{posonlyargs:=[],args:=[],vararg:=none,kwonlyargs:=[],kw_defaults:=[],kwarg:=none,defaults:=[]}
noncomputable def ZG(s:Ļ):List Ļ:=match s with
 |.FunctionDef _ _ b _ _ _ _ _ _ _=>b
 |_=>[]
noncomputable def Zi(s:Ļ):Ž:=match s with
 |.FunctionDef _ _ _ _ _ _ sc _ _ _=>sc
 |_=>{kind:=.function,names:=[],isGenerator:=false,isCoroutine:=false}
noncomputable abbrev CX0:CXT:=fun _ _ _ _ _ _=>False
structure Fun(K:Frag)(x qual:Str)(st:Ļ)(f:È)(fd:Ņ):Prop where
 ex:∃(oc:Ã) (od:Option È) (kV doc pm:Ã) (an:Option È) (ό ct:Ã) (osl:Array<|Option Ã),
  fd=PySem.W.fnOf x qual (Yv st) (ZG st) (Zi st) .none kV doc pm an ό ct/\K.lookup f=some ⟨oc,od,.func fd,osl⟩/\PySem.W.codeIn K ό qual=true
 kp:PySem.W.keepIn K (.ref f)=true
section
variable {P:à}{w:õ}{K:Frag}{mg:Str->Option Ã}{base:ā}
variable {x:Str} {qual:Str} {st:Ļ} {f:È} {fd:Ņ} {ps:List Str}
theorem Fun.ok{N:List Str}{k:Nat}{sp:Sp}(F:Fun K x qual st f fd)(S:FnScope N ps<|Zi st)(len:∀vs H Q E,sp vs H Q E->vs.length=ps.length)
  (bD:∀(ό:Ã) (A:Ă) (outer:List Env) (s:Å) (H:Hp) (vs:List V) (Q:VK) (E:XK),Room k (A.deeper<|ϫ qual (Zi st) s.heap.objs.size f ό)->sp vs H Q E->
    ∃t,PSs (JU CX0 P w K mg base N qual (Zi st) f ό A outer s H E).nox (ZG st) t/\t { nx:=fun _ H'=>Q .non H',rt:=Q } (start N vs) H):FnOk P w K mg base CX0 (k+1) f fd ps sp:=by
 obtain⟨oc,od,kV,doc,pm,an,ό,ct,osl,rfl,lk,aE⟩:=F.ex;refine F2 lk aE S len fun A outer s H vs Q E hr dv=>?_;obtain⟨t,h,q⟩:=bD ό A outer s H vs Q E hr dv;exact⟨t,h.nox,q⟩
theorem Fun.binds(F:Fun K x qual st f fd)
  (h:∀(kV doc pm:Ã) (an:Option È) (ό ct:Ã) (us:List Ã),us.length=ps.length->bindArgs (PySem.W.fnOf x qual (Yv st) (ZG st) (Zi st) .none kV doc pm an ό ct) ⟨us,[]⟩=pure (ps.zip us)):Binds K fd ps []:=by
 obtain⟨oc,od,kV,doc,pm,an,ό,ct,osl,rfl,lk,aE⟩:=F.ex;exact .all<|h kV doc pm an ό ct
theorem Do{oc:Ã}{od an:Option È}{osl:Array (Option Ã)}{kV doc pm ό ct:Ã}(l:K.lookup f=some ⟨oc,od,.func<|PySem.W.fnOf x qual (Yv st) (ZG st) (Zi st) .none kV doc pm an ό ct,osl⟩)
  (c:PySem.W.codeIn K ό qual=true) (k:PySem.W.keepIn K (.ref f)=true):Fun K x qual st f<|PySem.W.fnOf x qual (Yv st) (ZG st) (Zi st) .none kV doc pm an ό ct:=⟨⟨oc,od,kV,doc,pm,an,ό,ct,osl,rfl,l,c⟩,k⟩
end
def Same(H H':Hp):Prop:=∀b o,H b=some o->H' b=some o
theorem Same.refl(H:Hp):Same H H:=fun _ _ h=>h
variable {H:Hp}
theorem Same.trans{H1 H2:Hp}(a:Same H H1)(b:Same H1 H2):Same H H2:=fun c o h=>b c o (a c o h)
variable {H':Hp}
theorem Same.free(e:Same H H'){l:È}(h:H' l=Option.none):H l=Option.none:=by
 cases q:H l with
 |none=>rfl
 |some o =>rw[e l o q]at h;cases h
theorem Same.seq{K:Frag}{a:È}{xs:List V}(e:Same H H')(h:SqL K H a xs):SqL K H' a xs:=by
 rcases h with(h|⟨o,h⟩)|h
 .exact .inl<|.inl<|e _ _ h
 .exact .inl<|.inr ⟨o,e _ _ h⟩
 .exact .inr h
end L2
set_option maxHeartbeats 4000000
namespace L2
open PySem PySem.Spec PyProof.Rows
variable {P:à} {w:õ} {H:Hp} {h:ā}
theorem HOk.track{a:È}{o:HO}(x:HOk P w H h)(hn:H a=none)(new:ObjOk P w (upd H a o) h a o):HOk P w (upd H a o) h:=fun b u e=>by
 by_cases hb:b=a
 .subst hb;rw[upd_same]at e;cases e;exact new
 .rw[upd_ne hb]at e;exact(x b u e).stay (fun c v _ q=>q) (fun c q=>by rw[upd_ne<|Zd q hn];exact q) fun c xs q=>by rw[upd_ne<|Zd q hn];exact q
theorem HOk.same{h':ā}{C:È}(x:HOk P w H h)(hn:H C=none)(hs:Ŏ C h h'):HOk P w H h':=fun b u e=>by
 refine(x b u e).stay (fun c v hc q=>hs.extBut c v ?_ q) (fun _ q=>q) fun _ _ q=>q;rcases hc with z|z
 .rw[z];exact Zd e hn
 .exact Zd z hn
noncomputable def Zp(X:Cx)(scope:Ž)(N':List Str)(cl:List<|Str×È)(C:È)(s:Å)(H:Hp)(ex:List È):Cx where
 prog:=X.prog
 w:=X.w
 K:=X.K
 mg:=X.mg
 base:=X.base
 A:=X.A
 N:=N'
 s₀:=s
 H₀:=H
 env:=compEnvC scope cl C X.env
 outer:=X.stack
 stack:=X.stack
 ex:=ex
 fn:=fun _=>false
 calm:=X.calm
 pn:=[]
 xe:=fun _ _=>False
noncomputable def ZY(X:Cx)(x:List Str)(ö:List Nat):List Str:=x++ö.map fun j=>X.N.getD j Str.empty
noncomputable def Oz(σ:St)(ö:List Nat):St:=ö.map fun j=>(σ[j]?).getD none
structure BlkOk(X:Cx)(scope:Ž)(x:List Str)(ö:List Nat):Prop where
 kind:scope.kind=.function
 nocell:∀y∈scope.names,y.2≠.cell
 locs:∀y∈scope.names,y.2=.local->scope.names.lookup y.1=some .local
 own:∀y∈x,scope.names.lookup y=some .local
 frees:∀y∈scope.names,y.2=.free->X.env.kindOf y.1=some .cell
 cap:∀j∈ö,(X.N[j]?).isSome=true/\X.env.kindOf (X.N.getD j Str.empty)=some .cell/\scope.names.lookup (X.N.getD j Str.empty)=some .free
 nd:(ZY X x ö).Nodup
theorem Yr{env:Env}:∀(names:List<|Str×ϒ) (į:List<|Str×È),(∀y∈names,y.2=.free->∃c,env.cells.lookup y.1=some c)->(∀x c,į.lookup x=some c->env.cells.lookup x=some c)->
  ∃cl,(forIn names į fun(p:Str×ϒ) (r:List<|Str×È)=>(do
    if(p.2 == ĩ)=true then do let a<-cellOf env p.1;pure (ķ<|(p.1,a)::r)else pure (ķ r):Sem _))=pure cl/\
   (∀x c,cl.lookup x=some c->env.cells.lookup x=some c)/\(∀x c,į.lookup x=some c->∃c',cl.lookup x=some c')/\∀x,(x,ĩ)∈names->∃c,cl.lookup x=some c
 |[],į,_,ha=>⟨į,rfl,ha,fun x c h=>⟨c,h⟩,fun x h=>nomatch h⟩
 |(n,k)::r,į,hn,ha=>by
  by_cases hk:k=.free
  .subst hk;obtain⟨c,hc⟩:=hn (n,.free) å rfl;have ha':∀x d,(((n,c)::į:List<|Str×È)).lookup x=some d->env.cells.lookup x=some d:=fun x d h=>by
    rw[ä]at h;cases e:x==n with
    |true =>
     rw[e]at h;have:x=n:=by simpa using e
     subst this;cases h;exact hc
    |false=>rw[e]at h;exact ha x d h
   obtain⟨cl,h1,h2,h3,h4⟩:=Yr r ((n,c)::į) (fun y hy=>hn y<|Ô _ hy) ha';refine⟨cl,?_,h2,fun x d h=>?_,fun x hx=>?_⟩
   .rw[List.forIn_cons];have e:cellOf env n=pure c:=by unfold cellOf;rw[hc]
    simp only[beq_self_eq_true,if_true,e];exact h1
   .by_cases hx:x=n
    .subst hx;exact h3 x c (by rw[ä];simp)
    .exact h3 x d (by rw[ä,beq_false_of_ne hx];exact h)
   .rcases Ç.mp hx with e|hx
    .cases e;exact h3 _ c (by rw[ä];simp)
    .exact h4 x hx
  .have hb:(k==ĩ)=false:=by simpa using hk
   obtain⟨cl,h1,h2,h3,h4⟩:=Yr r į (fun y hy=>hn y<|Ô _ hy) ha;refine⟨cl,?_,h2,h3,fun x hx=>?_⟩
   .rw[List.forIn_cons];simp only[hb,ċ,if_false];exact h1
   .rcases Ç.mp hx with e|hx
    .cases e;exact absurd rfl hk
    .exact h4 x hx
theorem ZS{env:Env}:∀{names:List (Str×ϒ)}{x:Str}{k:ϒ},(names.map fun(n,k)=>if(k==ĩ&&env.scope.kind == .function&&env.kindOf n==some .cell)then(n,dL)else(n,k)).lookup x=some k->
  (∃k0,(x,k0)∈names/\names.lookup x=some k0/\(k0=k\/(k0=.free/\k=.cell)))
 |[],_,_,h=>by simp at h
 |(n,k0)::r,x,k,h=>by
  rw[Ð,ä]at h;cases hx:x==n with
  |true =>
   have e:x=n:=by simpa using hx
   subst e;refine⟨k0,å,by rw[ä];simp,?_⟩;by_cases hc:(k0==ĩ&&env.scope.kind == .function&&env.kindOf x==some .cell)=true
   .rw[if_pos hc]at h;simp at h;have:k0=.free:=by
     simp only[bAq]at hc;simpa using hc.1.1
    exact .inr ⟨this,h.symm⟩
   .rw[if_neg hc]at h;simp at h;exact .inl h
  |false =>
   have h':(r.map fun(n,k)=>if(k==ĩ&&env.scope.kind == .function&&env.kindOf n==some .cell)then(n,dL)else(n,k)).lookup x=some k:=by
    by_cases hc:(k0==ĩ&&env.scope.kind == .function&&env.kindOf n==some .cell)=true
    .rw[if_pos hc]at h;simpa[hx]using h
    .rw[if_neg hc]at h;simpa[hx]using h
   obtain⟨k1,a,b,c⟩:=ZS h';exact⟨k1,Ô _ a,by rw[ä,hx];exact b,c⟩
def PIfs(X:Cx)(aR:List Expr)(t:TT):Prop :=
 ∀(Á:List<|È×Obj) (s:Å) (σ:St) (H:Hp) (Q:Bool->Hp->Prop),Inv X Á σ H s->t σ H Q->
  wpAny (Û X.prog X.w) X.A (forIn aR true fun c r=>if r=true then do let ok<-bT c X.env (eval c X.env);pure (ķ ok)else pure (ķ r)) (TP X Á σ Q) X.xe s
noncomputable def Rj:TT:=fun _ H Q=>Q true H
variable {X:Cx}
theorem pifs_nil:PIfs X [] Rj:=fun _ _ _ H _ I h=>wpAny_tests_nil ⟨H,I,h⟩
theorem X4{c:Expr}{t:TT}(h:PT X c t):PIfs X [c] t:=fun Á s σ H Q I hq=>wpAny_tests_one (h Á s σ H Q I hq)
def F3(J:It)(tg:TG)(tc:TT)(te:TE)(Fin:List V->Hp->Prop)(W:Nat->Nat->List V->St->Hp->Prop):Prop :=
 ∀i m ys τ H,W i m ys τ H->ys.length<Ø/\((J.stop i H/\Fin ys H)\/(J.go i H/\∃N:List V->St->Hp->Prop,(∀ys' τ' H',N ys' τ' H'->∃m',m'<m/\W (i+1) m' ys' τ' H')/\∀x H',J.yld i H x H'->
   tg x τ H' fun τ' H1=>tc τ' H1 fun b H2=>if b=true then te τ' H2 fun y H3=>N (ys++[y]) τ' H3 else N ys τ' H2))
noncomputable def Cl(wi:TI)(k:Nat)(ö:List Nat)(tg:TG)(tc:TT)(te:TE):TE:=fun σ H Q=>wi σ H fun J H1=>∃W:Nat->Nat->List V->St->Hp->Prop,(∃m,W 0 m [] (Ö k none++Oz σ ö) H1)/\
 F3 J tg tc te (fun ys H=>∀p,H p=none->Q (.ref p) (upd H p<|.lst ys)) W
section
variable {X:Cx}{Á:List (È×Obj)}{σ:St}{H2:Hp}{s2:Å}
variable {scope:Ž} {x:List Str} {ö:List Nat} {cl:List (Str×È)} {fp:List È}
theorem UW{s3:Å}{D:È}{h1:ā}{tk:Nat}{m:Str->Option Ã}(B:BlkOk X scope x ö)(I2:Inv X Á σ H2 s2)(f2:∀b∈fp,Wa X Á H2 b)
  (c1:∀x c,cl.lookup x=some c->X.env.cells.lookup x=some c) (c2:∀x,(x,ĩ)∈scope.names->∃c,cl.lookup x=some c)
  (I3:Inv X Á σ H2 s3) (hD:D=s2.heap.objs.size) (h3:s3.heap.objs.size=D+1) (ϗ:∀b o,s3.heap.get? b=some o->h1.get? b=some o) (hfp:∀b∈fp,b<s2.heap.objs.size)
  (hn:h1.Ns s3.heap.objs.size m) :
  Inv (Zp X scope (ZY X x ö) cl s3.heap.objs.size s3 H2<|D::fp) [] (Ö x.length none++Oz σ ö) H2 {s3 with heap:=h1,toks:=tk}:=by
 have neD:∀b o,s2.heap.get? b=some o->b≠D:=fun b o e=>by rw[hD];exact Þ<|Ñ e
 have exlt:∀b∈D::fp,b<s3.heap.objs.size:=fun b hb=>by
  rw[h3];rcases Ç.mp hb with e|hb
  .rw[e];exact Ė _
  .exact ď (by rw[hD];exact hfp b hb)
 have keeps:=I3.hok.kept (h':=h1) ϗ;refine⟨⟨I2.mod,B.kind,I2.ok.glob,I2.ok.blt,Î _,fun y z c e1 e2=>?_,fun y hy=>?_,fun y c e _=>(by cases e),fun hc=>I2.ok.hd hc,I2.ok.frames,.inl rfl,fun b hb=>?_,fun b o e=>?_,?_,fun b o e hb=>?_,fun b hb hf=>?_,I3.stack,fun b hb=>I2.stkFree b hb⟩,
   rfl,I3.bare,Un.kept ϗ,⟨m,hn,fun i y v e1 e2 e3=>?_⟩,fun y c e=>?_,I3.hok.fresh<|Î _,fun y c e=>I3.freeC y c<|c1 y c e,fun p hp=>(nomatch hp),keeps,?_⟩
 .exact I2.ok.inj y z c (c1 y c e1)<|c1 z c e2
 .have hy:(bG scope X.env).names.lookup y=some .cell\/(bG scope X.env).names.lookup y=some .free:=hy;rcases hy with hy|hy
  .obtain⟨k0,a,b,c⟩:=ZS hy;rcases c with c|⟨c,_⟩
   .subst c;exact absurd rfl<|B.nocell _ a
   .subst c;exact c2 y a
  .obtain⟨k0,a,b,c⟩:=ZS hy;rcases c with c|⟨_,c⟩
   .subst c;exact c2 y a
   .cases c
 .refine⟨Þ<|exlt b hb,fun y c e z=>?_⟩;have e':=c1 y c e;rcases Ç.mp hb with q|q
  .obtain⟨v,o,ho,_⟩:=I2.cell y c e';exact neD c o ho<|z.trans q
  .exact(f2 b q).2.2.2.2.1 y c e' z
 .exact I3.bs b o e
 .exact Ó I2.ok.bsz (Ó I2.sz<|show s2.heap.objs.size<=s3.heap.objs.size by rw[h3,hD];exact Ń _)
 .rcases Ç.mp hb with q|q
  .exact neD b o (I2.bk b o e) q
  .rcases (f2 b q).2.2.2.1 with z|z
   .exact I2.ok.noex b o e z
   .exact absurd (ã (Ñ (I2.ok.bs b o e).1) z)<|Ę _
 .have hf:b∈frs X.stack:=hf;rcases Ç.mp (I2.stkSub b hf)with z|z
  .rcases Ç.mp hb with q|q
   .exact absurd I2.lt (by rw[<-z,q,hD];exact Ę _)
   .exact(f2 b q).2.1 z
  .rcases Ç.mp hb with q|q
   .exact I2.nofs (a:=b) (by rw[q,hD];exact Î _) z
   .exact(f2 b q).2.2.1 z
 .by_cases hik:i<x.length
  .rw[Ċ (by rw[ò];exact hik),ň,if_pos hik]at e2;cases e2
  .have e1:(x++ö.map fun j=>X.N.getD j Str.empty)[i]?=some y:=e1;rw[Ē<|by omega]at e1;rw[Ē (by rw[ò];omega),ò]at e2;generalize i - x.length=j at e1 e2;have e2:(ö.map fun j=>(σ[j]?).getD none)[j]?=some (some v):=e2;rw[Ù]at e1 e2;cases hj:ö[j]? with
   |none=>rw[hj]at e1;cases e1
   |some q =>
    rw[hj]at e1 e2;have e1':X.N.getD q Str.empty=y:=ú e1;have e2':(σ[q]?).getD none=some v:=ú e2;obtain⟨hs,hk,hsc⟩:=B.cap q<|ì hj;obtain⟨y',hy'⟩:=Č.mp hs;have ey:y'=y:=by rw[<-e1',ô,hy'];rfl
    subst ey;have es:σ[q]?=some (some v):=by
     cases hq:σ[q]? with
     |none=>rw[hq]at e2';cases e2'
     |some o=>rw[hq]at e2';exact congrArg some e2'
    rw[e1']at hk hsc;obtain⟨m2,_,hl⟩:=I3.loc;have bp:X.env.scope.names.lookup y'=some .cell:=hk;obtain⟨u,r,l⟩:=hl q y' v hy' es<|.inr<|.inl bp;refine⟨u,r,.inr ⟨?_,?_⟩⟩
    .rcases e3 with e3|e3|e3
     .obtain⟨k0,a,b,c⟩:=ZS (show(bG scope X.env).names.lookup y'=some .local from e3);rw[hsc]at b;cases b;rcases c with c|⟨_,c⟩<;>cases c
     .exact .inl e3
     .exact .inr e3
    .rcases l with⟨l,_⟩|⟨_,c,hc,z⟩
     .rw[hk]at l;cases l
     .obtain⟨c',hc'⟩:=c2 y'<|PySem.mem_of_lookup hsc;have ec:c'=c:=ú<|(c1 y' c' hc').symm.trans hc;subst ec;obtain⟨o,ho,hd⟩:=z;exact⟨c',hc',o,ϗ c' o ho,hd⟩
 .obtain⟨v,o,ho,hd⟩:=I3.cell y c<|c1 y c e;exact⟨v,o,ϗ c o ho,hd⟩
 .show _=(ZY X x ö).length;unfold ZY Oz;rw[ë,ë,Â,Â,ò]
theorem Xk{env:Env}(h:∀y∈scope.names,y.2=.free->∃c,env.cells.lookup y.1=some c) :
  ∃cl,closureFor scope env=pure cl/\(∀x c,cl.lookup x=some c->env.cells.lookup x=some c)/\∀x,(x,ĩ)∈scope.names->∃c,cl.lookup x=some c:=by
 obtain⟨cl,h1,h2,_,h4⟩:=Yr (env:=env) scope.names [] h fun x c e=>nomatch e;refine⟨cl,?_,h2,h4⟩;simp only[closureFor];have e:(forIn scope.names ([]:List<|Str×È) fun x r =>
     (match x with
     | (name,kind)=>if(kind == ĩ)=true then do let a<-cellOf env name;pure (ķ<|(name,a)::r)else pure (ķ r):Sem<|ForInStep<|List<|Str×È))=pure cl:=h1
 first
  |(rw[e];rfl)
  |(refine Eq.trans (congrArg (· >>= pure) ?_) (rfl:(pure cl >>= pure:Sem _)=pure cl);exact e)
variable {bq:Expr} {ū:Expr} {aR:List Expr} {pos:Pos}
theorem M0{prog:à}{A:Ă}{R:aU->Å->Prop}{s:Å}{ϰ:Expr}{it į:Ã}{env:Env}(I:Nat->Å->Prop)
  (turn:∀n s,I n s->wpAny (Û prog w) A (Ŷ it) (fun r ġ=>match r with
    |none=>R (.ok .next) ġ
    | some v=>wpAny (Û prog w) A (Ϡ ϰ it v) (fun _ ġ=>wpAny (Û prog w) A (ſ ϰ env v) (fun _ bC =>
        wpAny (Û prog w) A (forIn aR true fun c r=>if r=true then do let ok<-bT c env (eval c env);pure (ķ ok)else pure (ķ r)) (fun ok az =>
          if ok=true then wpAny (Û prog w) A (eval bq env) (fun x s₄ =>
            wpAny (Û prog w) A (call (.builtin "list.append") [į,x]) (fun _ s₅=>∃m,m<n/\I m s₅) (fun _ _=>False) s₄) (fun _ _=>False) az
          else ∃m,m<n/\I m az) (fun _ _=>False) bC) (fun _ _=>False) ġ) (fun _ _=>False) ġ) (fun _ _=>False) s)
  (n:Nat) (h:I n s) :
  codeAny (Û prog w) A (.compLoop (.ListComp bq [⟨ϰ,ū,aR,0⟩] scope pos) 0 it į env) R s:=by
 refine codeAny_loop rfl I (fun n s hI=>?_) n h;show wpAny _ A ((compTurn (.ListComp bq [⟨ϰ,ū,aR,0⟩] scope pos) 0 it į env).onRaise fun x=>do noteFrame x env;theTreesLotGoes x) _ _ s;refine wpAny_noted ?_;rw[compTurn_list];refine À<|cO<|À<|ę (turn n s hI) (fun r ġ a9=>?_) fun _ _ h'=>h'.elim;cases r with
 |none=>exact Æ a9
 |some v =>
  refine À<|ę a9 (fun _ ġ a9=>?_) fun _ _ h'=>h'.elim;refine À<|ę a9 (fun _ bC h₂=>À<|ę h₂ (fun ok az h₃=>?_) fun _ _ h'=>h'.elim) fun _ _ h'=>h'.elim;cases ok with
  |false=>exact Æ ⟨rfl,h₃⟩
  |true =>exact À<|À<|ę h₃ (fun x s₄ h₄=>À<|ę h₄ (fun _ s₅ h₅=>Æ<|Æ ⟨rfl,h₅⟩) fun _ _ h'=>h'.elim) fun _ _ h'=>h'.elim
variable {bb:Expr} {tg:TG} {tc:TT} {te:TE}
theorem KI{it:È}{tn:Nat->ā->Prop}{J:It}{Fin:List V->Hp->Prop}{W:Nat->Nat->List V->St->Hp->Prop}{E:Ã->Å->Prop}
  {RR:Ã->È->aU->Å->Prop}{m0:Nat}(hc:X.calm=true) (B:BlkOk X scope x ö) (I2:Inv X Á σ H2 s2) (T:Turn X.prog X.w X.K bb J fp it tn) (st2:tn 0 s2.heap) (f2:∀b∈fp,Wa X Á H2 b)
  (c1:∀x c,cl.lookup x=some c->X.env.cells.lookup x=some c) (c2:∀x,(x,ĩ)∈scope.names->∃c,cl.lookup x=some c)
  (hI:∀cl C s H ex,PIfs (Zp X scope (ZY X x ö) cl C s H ex) aR tc) (hE:∀cl C s H ex,PE (Zp X scope (ZY X x ö) cl C s H ex) bq te)
  (hG:∀cl C s H ex,PG (Zp X scope (ZY X x ö) cl C s H ex) bb tg) (w0:W 0 m0 [] (Ö x.length none++Oz σ ö) H2) (cw:F3 J tg tc te Fin W)
  (hRR:∀D C s' H' ys m,H' D=none->s'.heap.Ns C m->Wa X Á (upd H' D<|.lst ys) C->Inv X Á σ (upd H' D<|.lst ys) s'->Fin ys H'->RR (.ref D) C (.ok .next) s') :
  wpAny (Û X.prog X.w) X.A (newList []) (fun į az=>wpAny (Û X.prog X.w) X.A (newFunctionEnv scope X.env.globals cl [] X.env.qual none .none<|some X.env) (fun cenv s₄ =>
    codeAny (Û X.prog X.w) X.A (.compStart (.ListComp bq [⟨bb,ū,aR,0⟩] scope pos) 0 (.ref it) į { cenv with scope:=bG scope X.env }) (RR į cenv.locals) s₄) E az) E s2:=by
 refine þ (wpAny_newFunctionEnv B.nocell (by intro y hy;simp at hy) (fun a9 cy cz=>?_) B.kind);dsimp only at cy cz ⊢;have hfp:∀b∈fp,b<s2.heap.objs.size:=fun b hb=>by obtain⟨o,e,_⟩:=T.obj _ _ st2 b hb;exact Ñ e
 have I3:Inv X Á σ H2 {s2 with heap:=s2.heap.push {cls:=.type "list",dict:=none,data:=.seq ([]:List Ã).toArray}}:=I2.kept (t':=s2.toks) fun b o e=>Ä _ e;have h3:(s2.heap.push {cls:=.type "list",dict:=none,data:=.seq ([]:List Ã).toArray}).objs.size=s2.heap.objs.size+1:=ś ..;have cZ:(s2.heap.push {cls:=.type "list",dict:=none,data:=.seq ([]:List Ã).toArray}).get? s2.heap.objs.size=some {cls:=.type "list",dict:=none,data:=.seq ([]:List Ã).toArray}:=Ï _ rfl;have cA:∀b o,s2.heap.get? b=some o->(s2.heap.push {cls:=.type "list",dict:=none,data:=.seq ([]:List Ã).toArray}).get? b=some o:=fun b o e=>Ä _ e;generalize hH3:s2.heap.push {cls:=.type "list",dict:=none,data:=.seq ([]:List Ã).toArray}=h3' at cy cz I3 h3 cZ cA ⊢;have ϗ:∀b o,h3'.get? b=some o->a9.get? b=some o:=fun b o e=>cz.extBut b o (Þ<|Ñ e)<|Ä _ e;have hDC:s2.heap.objs.size≠h3'.objs.size:=by rw[h3];exact Þ<|Ė _
 have IB:=UW (cl:=cl) (fp:=fp) (s3:={s2 with heap:=h3'}) (D:=s2.heap.objs.size) (h1:=a9) (tk:=s2.toks+([]:List<|Str×Ã).length) B I2 f2 c1 c2 I3 rfl h3 ϗ hfp cy;generalize hY:Zp X scope (ZY X x ö) cl h3'.objs.size {s2 with heap:=h3'} H2 (s2.heap.objs.size::fp)=Y at IB;have yP:Y.prog=X.prog:=by rw[<-hY];rfl
 have yw:Y.w=X.w:=by rw[<-hY];rfl
 have yK:Y.K=X.K:=by rw[<-hY];rfl
 have yA:Y.A=X.A:=by rw[<-hY];rfl
 have yc:Y.calm=true:=by rw[<-hY];exact hc
 have yenv:Y.env=compEnvC scope cl h3'.objs.size X.env:=by rw[<-hY];rfl
 have hIY:PIfs Y aR tc:=by rw[<-hY];exact hI _ _ _ _ _
 have hEY:PE Y bq te:=by rw[<-hY];exact hE _ _ _ _ _
 have yxe:Y.xe=fun _ _=>False:=by rw[<-hY];rfl
 have ypn:Y.pn=[]:=by rw[<-hY];rfl
 have hgN:PG Y bb tg:=by rw[<-hY];exact hG _ _ _ _ _
 have fD:∀{H':Hp},H' s2.heap.objs.size=none->Wa Y [] H' s2.heap.objs.size:=fun{H'} hn=>by
  refine⟨hn,?_,?_,?_,?_,fun p hp=>?_⟩
  .rw[yenv];exact hDC
  .exact IB.ok.exfs _ (by rw[<-hY];exact å)
  .exact .inl (by rw[<-hY];exact å)
  .exact fun y c e=>(IB.ok.exf _<|by rw[<-hY];exact å).2 y c e
  .rw[ypn]at hp;exact nomatch hp
 have fF:∀{H':Hp},(∀b∈fp,H' b=none)->∀b∈fp,Wa Y [] H' b:=fun{H'} hn b hb=>by
  have hm:b∈Y.ex:=by rw[<-hY];exact Ô _ hb
  refine⟨hn b hb,?_,IB.ok.exfs b hm,.inl hm,fun y c e=>(IB.ok.exf b hm).2 y c e,fun p hp=>?_⟩
  .exact(IB.ok.exf b hm).1
  .rw[ypn]at hp;exact nomatch hp
 have acc0:a9.PlainList s2.heap.objs.size ([]:List Ã).toArray:=⟨0,by exact ϗ _ _ cZ⟩
 have loop:∀az:Å,az={s2 with heap:=a9,toks:=s2.toks+([]:List<|Str×Ã).length}->
   codeAny (Û X.prog X.w) X.A (.compLoop (.ListComp bq [⟨bb,ū,aR,0⟩] scope pos) 0 (.ref it) (.ref s2.heap.objs.size)<|compEnvC scope cl h3'.objs.size X.env) (RR (.ref s2.heap.objs.size) h3'.objs.size) az:=by
  rintro az rfl;refine M0 (fun n s'=>∃i ys î τ H',Inv Y [] τ H' s'/\tn i s'.heap/\(∀b∈fp,H' b=none)/\H' s2.heap.objs.size=none/\Vals ys î/\s'.heap.PlainList s2.heap.objs.size î.toArray/\W i n ys τ H') ?_ m0
   ⟨0,[],[],_,H2,IB,T.keep _ _ _ st2 fun b hb o e=>ϗ _ _<|cA _ _ e,fun b hb=>(f2 b hb).1,I2.fresh,.nil,acc0,w0⟩
  rintro n s3 ⟨i,ys,î,τ,H3,I3',st3,fr3,frD,rv,pl,w3⟩;have cv:∀{α:Type}{f:Sem α}{Q Q':α->Å->Prop}{s:Å},wpAny (Û Y.prog Y.w) Y.A f Q Y.xe s->(∀a s',Q a s'->Q' a s')->wpAny (Û X.prog X.w) X.A f Q' (fun _ _=>False) s:=fun{α f Q Q' s} h hq=>by rw[yP,yw,yA,yxe]at h;exact ę h hq fun _ _ e=>e
  have cvX:∀{α:Type}{f:Sem α}{Q Q':α->Å->Prop}{s:Å},wpAny (Û X.prog X.w) Y.A f Q (fun _ _=>False) s->(∀a s',Q a s'->Q' a s')->wpAny (Û X.prog X.w) X.A f Q' (fun _ _=>False) s:=fun{α f Q Q' s} h hq=>by rw[yA]at h;exact ę h hq fun _ _ e=>e
  obtain⟨nD,hD3⟩:=id pl;have plD:∀b∈[s2.heap.objs.size],∃o,s3.heap.get? b=some o/\∀v,o.data≠.cell v:=fun b hb=>by
   have e:b=s2.heap.objs.size:=by simpa using hb
   subst e;exact⟨_,hD3,fun v z=>by cases z⟩
  have IP:=I3'.pinned (fp:=[s2.heap.objs.size]) (fun b hb=>by
    have e:b=s2.heap.objs.size:=by simpa using hb
    subst e
    exact fD frD) plD
  have memD:=ZR (fp:=[s2.heap.objs.size]) (á.mpr rfl) hD3;have fF':∀b∈fp,Wa Y ([]++Xn [s2.heap.objs.size] s3.heap) H3 b:=fun b hb=>by
   obtain⟨q1,q2,q3,q4,q5,q6⟩:=fF fr3 b hb;refine⟨q1,q2,q3,q4,q5,fun p hp=>?_⟩;rw[ypn]at hp;obtain⟨bE,_⟩:=Ks (show p∈Xn [s2.heap.objs.size] s3.heap by simpa using hp);have e:p.1=s2.heap.objs.size:=by simpa using bE
   rw[e];exact(Þ<|hfp b hb).symm
  obtain⟨hys,h|⟨go,N,hN,step⟩⟩:=cw i n ys τ H3 w3
  .obtain⟨stop,fin⟩:=h;refine cvX (T.done Y yP yw yK yc i _ s3 _ H3 _ IP fF' st3 stop) fun r s4 ⟨hr,I4⟩=>?_;subst hr;obtain⟨m4,hm4,_⟩:=I4.loc;rw[yenv]at hm4;have aA:Un (frs X.stack) (s2.heap.objs.size::fp) H2 H3 h3' s4.heap:=by
    have:=I4.base;rw[<-hY]at this;exact this
   have hok4:HOk X.prog X.w H3 s4.heap:=by have:=I4.hok;rw[yP,yw]at this;exact this
   have pl4:=(I4.pin _<|Ê _<|Ê _ memD).1;have nC:H3 h3'.objs.size=none:=by have:=I4.free;rw[yenv]at this;exact this
   have hlen:ys.length<=Ø:=θ hys;have osEq:s4.os=s2.os:=by have:=I4.os;rw[<-hY]at this;exact this
   have neD:∀b o,s2.heap.get? b=some o->b≠s2.heap.objs.size:=fun b o e=>Þ<|Ñ e;have nin:∀b o,s2.heap.get? b=some o->b∉fp->b∉s2.heap.objs.size::fp:=fun b o e hb z=>(Ç.mp z).elim (neD b o e) hb;have hokN:HOk X.prog X.w (upd H3 s2.heap.objs.size<|.lst ys) s4.heap:=hok4.track frD ⟨hlen,î,nD,rv,pl4⟩;have U:Un (frs X.stack) fp H2 (upd H3 s2.heap.objs.size<|.lst ys) s2.heap s4.heap:=by
    refine⟨fun b o e hn hf hx=>aA.keep b o (cA b o e) hn hf<|nin b o e hx,fun b o e hn hf hx=>aA.slot b o (cA b o e) hn hf<|nin b o e hx,fun b o e hn hx=>?_,fun b o e hx=>aA.there b o (cA b o e)<|nin b o e hx,fun b xs e=>?_,fun b o xs e=>?_,fun b ps e=>?_⟩
    .rw[upd_ne<|neD b o e];exact aA.free b o (cA b o e) hn<|nin b o e hx
    .have q:=aA.tups b xs e;rw[upd_ne<|Zd q frD];exact q
    .have q:=aA.frzs b o xs e;rw[upd_ne<|Zd q frD];exact q
    .obtain⟨Ϧ,q⟩:=aA.tbls b ps e;exact⟨Ϧ,by rw[upd_ne<|Zd q frD];exact q⟩
   have I5:Inv X Á σ (upd H3 s2.heap.objs.size<|.lst ys) s4:=I2.call' (ch:=fp) osEq U hokN I4.bare fun b hb=>by obtain⟨_,q2,_,q4,q5,q6⟩:=f2 b hb;exact⟨q4,q2,q5,q6⟩
   exact hRR _ _ _ _ _ m4 frD hm4 (I2.fpOk (θ<|by rw[h3];exact Ė _)<|by rw[upd_ne hDC.symm];exact nC) I5 fin
  .refine cvX (T.item Y yP yw yK yc i _ s3 _ H3 _ IP fF' st3 go) fun r s4 ⟨u,hr,h4⟩=>?_;subst hr;refine cvX h4 fun _ s5 ⟨y,H5,I5,r5,y5,st5,fr5⟩=>?_;have frD5:H5 s2.heap.objs.size=none:=(I5.pin _<|Ê _<|Ê _ memD).2.1;have hD5:=(I5.pin _<|Ê _<|Ê _ memD).1;have I5p:=I5.unpinned.pinned (fp:=s2.heap.objs.size::fp) (fun b hb=>by
     rcases Ç.mp hb with e|hb
     . subst e;exact fD frD5
     . exact fF fr5 b hb) (fun b hb=>by
     rcases Ç.mp hb with e|hb
     . subst e;exact⟨_,hD5,fun v z=>by cases z⟩
     . exact T.obj _ _ st5 b hb)
   have memD5:=ZR (fp:=s2.heap.objs.size::fp) å hD5;rw[<-yenv];refine cv (hgN _ s5 _ H5 y u _ I5p r5<|step y H5 y5) fun _ s6 ⟨σ6,H6,I6,q6⟩=>?_;have aB:∀{m':Nat}{aY:St}{H7:Hp}{s7:Å}{ys':List V}{its':List Ã},Inv Y [] aY H7 s7->tn (i+1) s7.heap->(∀b∈fp,H7 b=none)->H7 s2.heap.objs.size=none->Vals ys' its'->s7.heap.PlainList s2.heap.objs.size its'.toArray->m'<n/\W (i+1) m' ys' aY H7->
     ∃m,m<n/\∃i ys î τ H',Inv Y [] τ H' s7/\tn i s7.heap/\(∀b∈fp,H' b=none)/\H' s2.heap.objs.size=none/\Vals ys î/\s7.heap.PlainList s2.heap.objs.size î.toArray/\W i m ys τ H' :=
    fun{m' aY H7 s7 ys' its'} J1 st7 fr7 fd7 rv7 pl7 wm=>⟨m',wm.1,i+1,ys',its',aY,H7,J1,st7,fr7,fd7,rv7,pl7,wm.2⟩
   have stay:∀{aY:St}{H7:Hp}{s7:Å},Inv Y ([]++Xn (s2.heap.objs.size::fp) s5.heap) aY H7 s7->tn (i+1) s7.heap/\(∀b∈fp,H7 b=none)/\H7 s2.heap.objs.size=none/\s7.heap.get? s2.heap.objs.size=some {cls:=.type "list",data:=.seq î.toArray nD}:=by intro aY H7 s7 J1;refine⟨T.keep _ _ _ st5 fun b hb o e=>(J1.pin (b,o)<|Ê _<|Ê _<|ZR (Ô _ hb) e).1,fun b hb=>?_,(J1.pin _<|Ê _<|Ê _ memD5).2.1,(J1.pin _<|Ê _<|Ê _ memD5).1⟩;obtain⟨o,e,d⟩:=T.obj _ _ st5 b hb;exact(J1.pin (b,o)<|Ê _<|Ê _<|ZR (Ô _ hb) e).2.1
   refine cv (hIY _ s6 _ H6 _ I6 q6) fun ok s7 ⟨H7,I7,q7⟩=>?_;cases ok with
   |false =>rw[if_neg<|by decide]at q7;rw[if_neg<|by decide];obtain⟨m',wm⟩:=hN _ _ _ q7;obtain⟨a1,a2,a3,a4⟩:=stay I7;exact aB I7.unpinned a1 a2 a3 rv ⟨nD,a4⟩ wm
   |true =>
    rw[if_pos rfl]at q7;rw[if_pos rfl];refine cv (hEY _ s7 _ H7 _ I7 q7) fun z s8 ⟨vz,H8,I8,rz,wm⟩=>?_;obtain⟨m',wm⟩:=hN _ _ _ wm;obtain⟨a1,a2,a3,a4⟩:=stay I8;have hlen:=rv.length;refine wpAny_list_append_plain (hsz:=by rw[É];omega) (⟨nD,a4⟩:s8.heap.PlainList _ î.toArray) fun h9 hl9 hs9=>?_;obtain⟨q1,q2,q3,q4,q5,q6⟩:=fD a3;have I9:Inv Y [] _ H8 {s8 with heap:=h9}:=I8.unpinned.turned (t':=s8.toks) (fun b o hb e=>hs9.extBut b o hb e) q1 q2 q4 q5 q6;refine aB I9 (T.keep _ _ _ a1 fun b hb o e=>hs9.extBut b o (Þ<|hfp b hb) e) a2 a3 (its':=î++[z]) (rv.append<|.cons rz .nil) ?_ wm;have e:î.toArray.push z=(î++[z]).toArray:=by simp
    rw[e]at hl9;exact hl9
 exact codeAny_compStart_list (loop _ rfl)<|T.self _ 0 _ _ _ (T.keep _ _ _ st2 fun b hb o e=>ϗ _ _<|cA _ _ e)<|loop _ rfl
variable {wi:TI}
theorem A2(hc:X.calm=true)(B:BlkOk X scope x ö)(hi:PI X bb ū wi)(hG:∀cl C s H ex,PG (Zp X scope (ZY X x ö) cl C s H ex) bb tg)
  (hI:∀cl C s H ex,PIfs (Zp X scope (ZY X x ö) cl C s H ex) aR tc) (hE:∀cl C s H ex,PE (Zp X scope (ZY X x ö) cl C s H ex) bq te)
  (hs:∀x,Ě ū X.env x=pure x:=by intro _;rfl):PE X (.ListComp bq [⟨bb,ū,aR,0⟩] scope pos)<|Cl wi x.length ö tg tc te:=by
 intro Á s σ H Q I h;obtain⟨cl,aF,c1,c2⟩:=Xk (scope:=scope) (env:=X.env) fun y hy e=>I.ok.has y.1<|.inl<|B.frees y hy e;rw[eval_ListComp];refine cS (use:=none) rfl hs aF B.kind B.locs<|thn (hi Á s σ H _ I h) fun v s1 h1=>thn h1 fun itv s2 h2=>?_;obtain⟨it,fp,tn,J,H2,e,I2,T,st2,f2,W,⟨m0,w0⟩,cw⟩:=h2;subst e;refine KI (RR:=fun į C=>compPost (Û X.prog X.w) X.A X.xe none (EP X Á σ Q) į C) hc B I2 T st2 f2 c1 c2 hI hE hG w0 cw ?_;intro D C s' H' ys m hD hn fC I' fin;obtain⟨q1,q2,q3,q4,q5,q6⟩:=fC;exact⟨m,hn,fun h' hs'=>⟨.ref D,_,I'.turned (t':=s'.toks) (fun b o hb e=>hs'.extBut b o hb e) q1 q2 q4 q5 q6,rfl,fin D hD⟩⟩
theorem Cz{y:Str}{py:Pos}{i:Nat}{Ϙ:Pos}(hN:X.N.Nodup)(hi':X.N[i]?=some y)(hy:Loc X.env.scope y)(hc:X.calm=true)(B:BlkOk X scope x ö)(hi:PI X bb ū wi)(hG:∀cl C s H ex,PG (Zp X scope (ZY X x ö) cl C s H ex) bb tg)
  (hI:∀cl C s H ex,PIfs (Zp X scope (ZY X x ö) cl C s H ex) aR tc) (hE:∀cl C s H ex,PE (Zp X scope (ZY X x ö) cl C s H ex) bq te)
  (hs:∀x,Ě ū X.env x=pure x:=by intro _;rfl)
  (hsw:Ų (.ListComp bq [⟨bb,ū,aR,0⟩] scope pos) (some<|.Name y py) Ϙ.line X.env=pure true:=by rfl)
  (hf:X.fn y=true\/X.env.scope.names.lookup y=some .local:=by first|exact .inl rfl|exact .inr rfl|assumption) :
  PS X (.Assign [.Name y py] (.ListComp bq [⟨bb,ū,aR,0⟩] scope pos) Ϙ) (Qy (Cl wi x.length ö tg tc te)<|Ga i):=by
 intro Á s σ H D I h;obtain⟨cl,aF,c1,c2⟩:=Xk (scope:=scope) (env:=X.env) fun y hy e=>I.ok.has y.1<|.inl<|B.frees y hy e;rw[exec_Assign_Name_used _ _ _ _ hsw];refine À<|cO<|À ?_;show wpAny _ X.A (do let _<-comprehension (.ListComp bq [⟨bb,ū,aR,0⟩] scope pos) scope X.env _ (newList []) false (eval ū X.env) (some<|ſ (.Name y py) X.env)) _ _ s;refine À (ę (cS (use:=some<|ſ (.Name y py) X.env) (Q:=fun _ s'=>SP X Á D .next s') rfl hs aF B.kind B.locs
   (thn (hi Á s σ H _ I h) fun v s1 h1=>thn h1 fun itv s2 h2=>?_)) (fun _ s' hq=>Æ<|Æ hq) fun _ _ e=>e)
 obtain⟨it,fp,tn,J,H2,e,I2,T,st2,f2,W,⟨m0,w0⟩,cw⟩:=h2;subst e;refine KI (RR:=fun į C=>compPost (Û X.prog X.w) X.A X.xe (some<|ſ (.Name y py) X.env) (fun _ s'=>SP X Á D .next s') į C) hc B I2 T st2 f2 c1 c2 hI hE hG w0 cw ?_;intro Dd C s' H' ys m hD hn fC I' fin;obtain⟨q1,q2,q3,q4,q5,q6⟩:=fC;show wpAny _ _ (ſ (.Name y py) X.env<|.ref Dd) _ _ _;refine wpAny_assign_Name<|Kq I' hN hi' hy (v:=.ref Dd) rfl (fun s2 I2 ⟨a,hs2,ha⟩=>?_) hf;have ne:C≠a:=by
  rcases ha with z|z
  .rw[z];exact q2
  .exact(q5 y a z).symm
 refine⟨m,hn.sameBut hs2 ne,fun h' hs'=>?_⟩;exact⟨_,_,I2.turned (t':=s2.toks) (fun b o hb e=>hs'.extBut b o hb e) q1 q2 q4 q5 q6,fin Dd hD⟩
end
mutual
inductive IsD (K:Frag) (H:Hp):V->Ŝ->Prop
 |non:IsD K H .non .none
 |bl (b:Bool):IsD K H (.bl b)<|.bool b
 |int (i:Int):IsD K H (.int i)<|.int i
 |str (x:Str):IsD K H (.str x)<|.str x
 |lst {a:È}{xs:List V}{ds:List Ŝ}:SqL K H a xs->IsDs K H xs ds->IsD K H (.ref a) (.list ds)
 |tup {a:È}{xs:List V}{ds:List Ŝ}:SqT K H a xs->IsDs K H xs ds->IsD K H (.ref a) (.tuple ds)
inductive IsDs (K:Frag) (H:Hp):List V->List Ŝ->Prop
 |nil:IsDs K H [] []
 |cons {x:V}{xs:List V}{d:Ŝ}{ds:List Ŝ}:IsD K H x d->IsDs K H xs ds->IsDs K H (x::xs) (d::ds)
end
section
variable {X:Cx}{Á:List (È×Obj)}{σ:St}{H:Hp}{s:Å}
mutual
theorem IsD.reads(I:Inv X Á σ H s):∀{v:V}{d:Ŝ}{u:Ã},IsD X.K H v d->RelV v u->∃as,Reads s.heap u d as
 |_,_,_,.non,r=>by cases r;exact⟨_,.none⟩
 |_,_,_,.bl b,r=>by cases r;exact⟨_,.bool b⟩
 |_,_,_,.int i,r=>by obtain⟨t,rfl⟩:=r;exact⟨_,.int i t⟩
 |_,_,_,.str x,r=>by obtain⟨t,rfl⟩:=r;exact⟨_,.str x t⟩
 |_,_,_,.lst q qs,r=>by cases r;obtain⟨î,rv,⟨o,n,e,c,_,d⟩,_⟩:=I.list q;obtain⟨as,ra⟩:=IsDs.reads I qs rv;exact⟨_,.list e c d<|by simpa using ra⟩
 |_,_,_,.tup q qs,r=>by cases r;obtain⟨î,rv,⟨o,e,c,n,d⟩,_⟩:=I.tuple q;obtain⟨as,ra⟩:=IsDs.reads I qs rv;exact⟨_,.tuple e c d<|by simpa using ra⟩
theorem IsDs.reads(I:Inv X Á σ H s):∀{vs:List V}{ds:List Ŝ}{us:List Ã},IsDs X.K H vs ds->Vals vs us->∃as,ReadsAll s.heap us ds as
 |_,_,_,.nil,.nil=>⟨_,.nil⟩
 |_,_,_,.cons q qs,.cons r rs=>by obtain⟨as,ra⟩:=IsD.reads I q r;obtain⟨bs,rb⟩:=IsDs.reads I qs rs;exact⟨_,.cons ra rb⟩
end
end
variable {H:Hp}
theorem Same.sqT{K:Frag}{H':Hp}{a:È}{xs:List V}(e:Same H H')(h:SqT K H a xs):SqT K H' a xs:=by
 rcases h with(h|⟨o,h⟩)|h
 .exact .inl<|.inl<|e _ _ h
 .exact .inl<|.inr ⟨o,e _ _ h⟩
 .exact .inr h
mutual
theorem IsD.same{K:Frag}{H H':Hp}(e:Same H H'):∀{v:V}{d:Ŝ},IsD K H v d->IsD K H' v d
 |_,_,.non=>.non
 |_,_,.bl b=>.bl b
 |_,_,.int i=>.int i
 |_,_,.str x=>.str x
 |_,_,.lst q qs=>.lst (e.seq q)<|IsDs.same e qs
 |_,_,.tup q qs=>.tup (e.sqT q)<|IsDs.same e qs
theorem IsDs.same{K:Frag}{H H':Hp}(e:Same H H'):∀{vs:List V}{ds:List Ŝ},IsDs K H vs ds->IsDs K H' vs ds
 |_,_,.nil=>.nil
 |_,_,.cons q qs=>.cons (IsD.same e q)<|IsDs.same e qs
end
theorem IsDs.ints{K:Frag}{H:Hp}:∀ns:List Int,IsDs K H (ns.map V.int) (ns.map PyData.int)
 |[]=>.nil
 |n::ns=>.cons (.int n)<|IsDs.ints ns
theorem IsDs.length{K:Frag}{H:Hp}:∀{vs:List V}{ds:List Ŝ},IsDs K H vs ds->vs.length=ds.length
 |_,_,.nil=>rfl
 |_,_,.cons _ t=>by rw[Ì,Ì,IsDs.length t]
theorem IsDs.get{K:Frag}{H:Hp}:∀{vs:List V}{ds:List Ŝ}{i:Nat}{v:V},IsDs K H vs ds->vs[i]?=some v->∃d,ds[i]?=some d/\IsD K H v d
 |_,_,_,_,.nil,e=>by simp at e
 |_,_,0,_,.cons q _,e=>by simp at e;subst e;exact⟨_,rfl,q⟩
 |_,_,i+1,v,.cons _ t,e=>by obtain⟨d,h1,h2⟩:=IsDs.get (i:=i) (v:=v) t (by simpa using e);exact⟨d,by simpa using h1,h2⟩
theorem IsDs.append{K:Frag}{H:Hp}:∀{xs ys:List V}{ds es:List Ŝ},IsDs K H xs ds->IsDs K H ys es->IsDs K H (xs++ys) (ds++es)
 |_,_,_,_,.nil,h=>h
 |_,_,_,_,.cons q t,h=>.cons q<|IsDs.append t h
section
variable {X:Cx}
noncomputable def L1(K:Frag):R2:=fun x y H Q=>∃d e,IsD K H x d/\IsD K H y e/\SeqAt.shaped d=true/\SeqAt.shaped e=true/\Q (.bl<|Ī d e) H
noncomputable def Hc(K:Frag):R2:=fun x y H Q=>∃d e,IsD K H x d/\IsD K H y e/\SeqAt.shaped d=true/\SeqAt.shaped e=true/\Q (.bl (!Ī d e)) H
theorem GK(hu:X.A.units+64<Ğ):OpR X (è .Eq)<|L1 X.K:=by intro Á s σ H x y v u Q I rx ry h;obtain⟨d,e,hd,he,sd,se,q⟩:=h;obtain⟨as,ra⟩:=hd.reads I rx;obtain⟨bs,rb⟩:=he.reads I ry;exact SeqAt.compareEq_shaped ra rb sd se hu ⟨.bl _,H,I,rfl,q⟩
theorem Cq(hu:X.A.units+64<Ğ):OpR X (è .NotEq)<|Hc X.K:=by intro Á s σ H x y v u Q I rx ry h;obtain⟨d,e,hd,he,sd,se,q⟩:=h;obtain⟨as,ra⟩:=hd.reads I rx;obtain⟨bs,rb⟩:=he.reads I ry;exact SeqAt.compareNe_shaped ra rb sd se hu ⟨.bl _,H,I,rfl,q⟩
inductive TyV (K:Frag) (H:Hp):V->Ã->Prop
 |of {x:V}{t:Ã}:TyOf K H x t->TyV K H x t
 |tup {a:È}{xs:List V}:SqT K H a xs->TyV K H (.ref a) (.type "tuple")
 |lst {a:È}{xs:List V}:SqL K H a xs->TyV K H (.ref a) (.type "list")
theorem TyV.int{K:Frag}(i:Int):TyV K H (.int i)<|.type "int":=.of (.int i)
theorem CJ:CallR X (.builtin "isinstance") fun xs H Q=>∃x T t b,xs=[x,.ty T]/\TyV X.K H x t/\PySem.W.kitOne X.K t (.type T)=some b/\Q (.bl b) H:=by
 intro Á s σ H xs us Q I r h;obtain⟨x,T,t,b,rfl,ty,e,q⟩:=h;obtain⟨u,v,rfl,ru,rv⟩:=P9 r;cases rv;cases ty with
 |of ty=>exact Au I ru ty e fun tk=>⟨.bl b,H,I.tok tk,rfl,q⟩
 |tup hq =>cases ru;obtain⟨î,_,⟨o,h1,h2,_⟩,_⟩:=I.tuple hq;exact PySem.W.kia_one PySem.W.kitx_tuple I.kIn ⟨o,h1,h2⟩ e (fun z=>nomatch z) fun tk=>⟨.bl b,H,I.tok tk,rfl,q⟩
 |lst hq =>cases ru;obtain⟨î,_,⟨o,n,h1,h2,_⟩,_⟩:=I.list hq;exact PySem.W.kia_one PySem.W.kitx_list I.kIn ⟨o,h1,h2⟩ e (fun z=>nomatch z) fun tk=>⟨.bl b,H,I.tok tk,rfl,q⟩
theorem Dw(hc:X.calm=true):CallR X (.builtin "all") fun xs H Q=>∃p,∃bs:List Bool,xs=[.ref p]/\SqL X.K H p (bs.map V.bl)/\Q (.bl<|bs.all id) H:=by
 intro Á s σ H xs us Q I r h;obtain⟨p,bs,rfl,hq,q⟩:=h;obtain⟨u,rfl,rx⟩:=ZK r;cases rx;obtain⟨î,rv,pl,hz⟩:=I.list hq;have hlen:=rv.length;rw[Â]at hlen;have Ν:p<s.heap.objs.size:=by obtain⟨o,n,e,_⟩:=pl;exact Ñ e
 refine call_all_walk<|Ź pl.isList ?_;refine⟨s.heap.objs.size,_,_,î.toArray.size,_,_,fun i=>bs.getD i true,rfl,Walks.list (A:=X.A.in1) (I.ok.hd hc) s.heap.objs.size p (Þ Ν) î.toArray,⟨⟨_,Ï _ rfl,rfl,rfl⟩,pl.isList.push _⟩,?_,fun h' tk hk=>?_⟩
 .intro i v s' Q' E' hP hQ;have hP:î[i]?=some v:=by simpa using hP
  have hb:(bs.map V.bl)[i]?=some (.bl<|bs.getD i true):=by
   have hi:i<bs.length:=by have:=(Í.mp hP).1;omega
   rw[Ù,ô];simp[hi]
  obtain⟨u,hu,ru⟩:=rv.get hb;rw[hP]at hu;cases hu;cases ru;exact đ hQ
 .have e:(List.range î.toArray.size).all (fun i=>bs.getD i true)=bs.all id:=by
   rw[É,<-hlen,Bool.eq_iff_iff,ñ,ñ];constructor
   .intro h b hb;obtain⟨i,hi,rfl⟩:=List.mem_iff_getElem.mp hb;have:=h i<|ŭ.mpr hi;rw[ô,Ë hi]at this;exact this
   .intro h i hi;have hi:=ŭ.mp hi;rw[ô,Ë hi];exact h _<|Ķ hi
  rw[e];refine⟨.bl _,H,I.kept (t':=tk) fun b o e=>hk b o (fun hm=>?_)<|Ä _ e,rfl,q⟩;have:b=s.heap.objs.size:=by simpa using hm
  exact absurd (this▸Ñ e)<|Ę _
noncomputable def sortI(ns:List Int):List Int:=ns.mergeSort fun a b=>decide (a<=b)
theorem Xz(ns:List Int):(sortI ns).Perm ns:=γ ns _
theorem MZ(ns:List Int):(sortI ns).Pairwise (·<=·):=by have h:=bw (le:=fun a b:Int=>decide (a<=b)) (fun a b c h1 h2=>by simp at *;omega) (fun a b=>by simp;omega) ns;exact h.imp fun h=>by simpa using h
variable {ns:List Int} {ms:List Int}
theorem Yq(hp:ms.Perm ns)(hs:ms.Pairwise (·<=·)):ms=sortI ns:=PySem.W.ksm_same (hp.trans (Xz ns).symm) hs (MZ ns)
theorem JN(hp:ms.Perm ns):sortI ms=sortI ns:=Yq ((Xz ms).trans hp) (MZ ms)
theorem Ys(ns:List Int):(sortI ns).length=ns.length:=(Xz ns).length_eq
theorem Yy:∀{vs:List Ã}{ns:List Int},û vs ns->Vals (ns.map V.int) vs:=Wb
theorem call_sorted:CallR X (.builtin "sorted") fun xs H Q=>∃p,∃ns:List Int,xs=[.ref p]/\SqL X.K H p (ns.map V.int)/\ns.length<64/\∀l,H l=none->Q (.ref l) (upd H l<|.lst<|(sortI ns).map V.int):=by intro Á s σ H xs us Q I r h;obtain⟨p,ns,rfl,hq,h64,q⟩:=h;obtain⟨u,rfl,rx⟩:=ZK r;cases rx;obtain⟨î,rv,pl,hz⟩:=I.list hq;have hlen:=rv.length;rw[Â]at hlen;refine sorted_ints pl.isList (Zv rv) (by omega) fun out bO a1 a2 a3=>?_;have e:=Yq a2 a3;subst e;obtain⟨n,he⟩:=sortedAll_at s.heap î out;refine⟨.ref<|s.heap.objs.size+1,_,I.laid (a:=s.heap.objs.size+1) (o:=.lst<|(sortI ns).map V.int) (t':=s.toks) (fun b o e=>sortedAll_old e) (Ń _) ?_,rfl,q _<|I.hok.fresh<|Ń _⟩;exact⟨by rw[Â,Ys];rw[Â]at hz;exact hz,out.toList,n,Yy a1,by simpa[ţ]using he⟩
noncomputable def Rr(K:Frag)(te:TE):TE:=fun σ H Q=>te σ H fun x H1=>∃a xs,x=.ref a/\SqL K H1 a xs/\∀p,H1 p=none->Q (.ref p) (upd H1 p<|.lst xs.reverse)
theorem Hm{e:Expr}{te:TE}{k:Nat}{p0 p1 p2 pos:Pos}(he:PE X e te):PE X (.Subscript e (.Slice none none (some<|.UnaryOp .USub (.Constant (.int 1) k p0) p1) p2) pos)<|Rr X.K te:=by intro Á s σ H Q I h;refine Subscript_<|thn (he Á s σ H _ I h) fun v s1 ⟨x,H1,I1,r1,q1⟩=>?_;obtain⟨a,xs,rfl,hx,q⟩:=q1;cases r1;refine wpAny_Slice ?_;rw[cQ];refine Æ<|Æ ?_;rw[evalPart_some];refine thn ((Gc (X:=X) (pos:=p1) DA<|OL (i:=1) (j:=k) (pos:=p0)) Á s1 σ H1 (fun y H2=>y=.int (-1)/\H2=H1) I1 ⟨1,rfl,rfl,rfl⟩) fun vk s3 ⟨y,H3,I3,r3,e3,e3'⟩=>?_;subst e3 e3';obtain⟨tk,rfl⟩:=r3;have I4:Inv X Á σ H3 {s3 with heap:=s3.heap.push {cls:=.type "slice",data:=.fields #[.none,.none,.int (-1) tk]}}:=I3.kept (t':=s3.toks) fun b ob q=>Ä _ q;obtain⟨î,r,ht,hz⟩:=I4.list hx;have hlen:=r.length;show wpAny (Û X.prog X.w) X.A (ae e (.Slice none none (some<|.UnaryOp .USub (.Constant (.int 1) k p0) p1) p2) (.ref a)<|.ref s3.heap.objs.size) (EP X Á σ Q) X.xe {s3 with heap:=s3.heap.push {cls:=.type "slice",data:=.fields #[.none,.none,.int (-1) tk]}};refine tail_any (ops:=[.ref a,.ref s3.heap.objs.size]) ht.isList.typeIs aH.lookup ?_ (by with_unfolding_all rfl);refine cR ht.isList (Heap.IsSliceOf.new ..) .none .none (.int (-1) tk) (by decide) ?_ (by rw[É]<;>omega);rw[PySem.W.krv_pick];refine⟨.ref _,_,I4.laid (a:=_) (t':=s3.toks) (o:=.lst xs.reverse) (fun b ob q=>Ä _ q) (Î _) ?_,rfl,q _<|I4.hok.fresh<|Î _⟩;exact⟨by rw[List.length_reverse];exact hz,î.reverse,0,r.reverse,Ï _ rfl⟩
end
section
variable {X:Cx}{x:Str}{p pos:Pos}{e:Expr}{es:List Expr}{t:TA}
theorem QJ{T:String}(hg:Gl X x)(hm:X.mg x=none)(hv:ť x=some (.type T))(hn:x≠"__name__":=by decide)(hd:(x==("__debug__" : Str))=false:=by decide):PE X (.Name x pos)<|tC<|.ty T:=FU hg hm hv rfl hn hd
end
noncomputable def Z6(scope sc:Ž)(N:List Str)(x:List Str)(ö:List Nat):Bool :=
 scope.names.all (fun y=>y.2 != .cell)&&scope.names.all (fun y=>y.2 != .local||scope.names.lookup y.1==some .local)&&x.all (fun y=>scope.names.lookup y==some .local) &&
 scope.names.all (fun y=>y.2 != .free||sc.names.lookup y.1==some .cell) &&
 ö.all (fun j=>decide (j<N.length)&&sc.names.lookup (N.getD j Str.empty)==some .cell&&scope.names.lookup (N.getD j Str.empty)==some .free)&&decide (x++ö.map fun j=>N.getD j Str.empty).Nodup
theorem N5{X:Cx}{scope sc:Ž}{x:List Str}{ö:List Nat}{N:List Str}(hsc:X.env.scope=sc)(hN:X.N=N)(hk:scope.kind=.function)(h:Z6 scope sc N x ö=true):BlkOk X scope x ö:=by
 unfold Z6 at h;simp only[bAq]at h;obtain⟨⟨⟨⟨⟨h1,h2⟩,h3⟩,h4⟩,h5⟩,h6⟩:=h;rw[ñ]at h1 h2 h4 h5;refine⟨hk,fun y hy=>by simpa using h1 y hy,fun y hy e=>?_,fun y hy=>by simpa using ñ.mp h3 y hy,fun y hy e=>?_,fun j hj=>?_,?_⟩
 .have:=h2 y hy;rw[e]at this;simpa using this
 .have:=h4 y hy;rw[e]at this;show X.env.scope.names.lookup y.1=_;rw[hsc];simpa using this
 .have:=h5 j hj;simp only[bAq,decide_eq_true_eq,beq_iff_eq]at this;obtain⟨⟨a,b⟩,c⟩:=this;refine⟨?_,?_,?_⟩
  .rw[hN,Ë a];rfl
  .show X.env.scope.names.lookup _=_;rw[hsc,hN];exact b
  .rw[hN];exact c
 .unfold ZY;rw[hN];exact of_decide_eq_true h6
def Keep(r:È)(H H':Hp):Prop:=∀b o,H b=some o->b≠r->H' b=some o
variable {H:Hp} {H':Hp}
theorem Same.keep(e:Same H H')(r:È):Keep r H H':=fun b o h _=>e b o h
theorem Keep.refl(r:È)(H:Hp):Keep r H H:=fun _ _ h _=>h
variable {r:È}
theorem Keep.trans{H1 H2:Hp}(a:Keep r H H1)(b:Keep r H1 H2):Keep r H H2:=fun c o h n=>b c o (a c o h n) n
theorem Keep.upd{o:HO}:Keep r H<|L2.upd H r o:=fun b u h n=>by rw[upd_ne n];exact h
theorem Keep.free(e:Keep r H H'){l:È}(hr:∃o,H' r=some o)(h:H' l=Option.none):H l=Option.none:=by
 cases q:H l with
 |none=>rfl
 |some o =>
  by_cases hl:l=r
  .subst hl;obtain⟨o',z⟩:=hr;rw[h]at z;cases z
  .rw[e l o q hl]at h;cases h
mutual
noncomputable def Ox:Ŝ->Bool
 |.list _=>false
 |.tuple xs=>noLists xs
 |.dict _=>false
 |_=>true
noncomputable def noLists:List Ŝ->Bool
 |[]=>true
 |x::xs=>Ox x&&noLists xs
end
variable {a:È} {xs:List V}
theorem SqT.keep{K:Frag}{zs:List V}(k:Keep r H H')(hr:H r=some (.lst zs))(h:SqT K H a xs):SqT K H' a xs:=by
 rcases h with(h|⟨o,h⟩)|h
 .exact .inl (.inl<|k _ _ h<|CO h hr<|by intro z;cases z)
 .exact .inl (.inr ⟨o,k _ _ h<|CO h hr<|by intro z;cases z⟩)
 .exact .inr h
theorem SqL.keep{K:Frag}(k:Keep r H H')(hr:a≠r)(h:SqL K H a xs):SqL K H' a xs:=by
 rcases h with(h|⟨o,h⟩)|h
 .exact .inl<|.inl<|k _ _ h hr
 .exact .inl<|.inr ⟨o,k _ _ h hr⟩
 .exact .inr h
mutual
theorem IsD.keep{K:Frag}{r:È}{H H':Hp}{zs:List V}(k:Keep r H H')(hr:H r=some (.lst zs)):∀{v:V}{d:Ŝ},IsD K H v d->Ox d=true->IsD K H' v d
 |_,_,.non,_=>.non
 |_,_,.bl b,_=>.bl b
 |_,_,.int i,_=>.int i
 |_,_,.str x,_=>.str x
 |_,_,.lst q qs,h=>by cases h
 |_,_,.tup q qs,h=>.tup (q.keep k hr)<|IsDs.keep k hr qs h
theorem IsDs.keep{K:Frag}{r:È}{H H':Hp}{zs:List V}(k:Keep r H H')(hr:H r=some (.lst zs)):∀{vs:List V}{ds:List Ŝ},IsDs K H vs ds->noLists ds=true->IsDs K H' vs ds
 |_,_,.nil,_=>.nil
 |_,_,.cons q qs,h=>by have h':=ϙ.mp (show(Ox _&&noLists _)=true from h);exact .cons (IsD.keep k hr q h'.1)<|IsDs.keep k hr qs h'.2
end
noncomputable abbrev Tie:=Int×Int×Int
noncomputable def Rh(t:Tie):Ŝ:=.tuple [.int t.1,.int t.2.1,.int t.2.2]
theorem IsD.tie{K:Frag}{x y c:Int}(h:SqT K H a [.int x,.int y,.int c]):IsD K H (.ref a)<|Rh (x,y,c):=.tup h (.cons (.int x)<|.cons (.int y)<|.cons (.int c) .nil)
variable {c:Bool} {A:Prop} {B:Prop}
theorem ifT(e:c=true)(h:A):if c=true then A else B:=by rw[if_pos e];exact h
theorem ifF(e:c=false)(h:B):if c=true then A else B:=by rw[e,if_neg ý];exact h
structure BrOk(ns:List Int):Prop where
 one:1<=ns.length
 ten:ns.length<=10
 rng:∀n∈ns,0<=n/\n<=999
 nd:ns.Nodup
structure TieOk(ns:List Int)(t:Tie):Prop where
 a:t.1∈ns
 b:t.2.1∈ns
 ne:t.1≠t.2.1
 lo:1<=t.2.2
 hi:t.2.2<=1000
structure TsOk(ns:List Int)(ts:List Tie):Prop where
 few:ts.length<=16
 each:∀t∈ts,TieOk ns t
noncomputable def mn(x y:Int):Int:=if y<x then y else x
noncomputable def mx(x y:Int):Int:=if y > x then y else x
noncomputable def loT(t:Tie):Tie:=(mn t.1 t.2.1,mx t.1 t.2.1,t.2.2)
variable {ns:List Int} {ms:List Int}
theorem BrOk.perm(h:BrOk ns)(p:ms.Perm ns):BrOk ms:=⟨by rw[p.length_eq];exact h.one,by rw[p.length_eq];exact h.ten,fun n hn=>h.rng n<|p.mem_iff.mp hn,p.nodup_iff.mpr h.nd⟩
theorem TsOk.perm{ts:List Tie}(h:TsOk ns ts)(p:ms.Perm ns):TsOk ms ts:=⟨h.few,fun t ht=>let ⟨a,b,c,d,e⟩:=h.each t ht;⟨p.mem_iff.mpr a,p.mem_iff.mpr b,c,d,e⟩⟩
section
variable {X:Cx}(K:Frag) (h:X.K=K)
include h
end
section
variable {prog:à}{w:õ}{A:Ă}{E:Ã->Å->Prop}{s:Å}
variable {it:È} {i:Nat} {items:Array Ã} {Q:Ã->Å->Prop}
theorem OC{t:È}{x:Ã}(bc:s.heap.IsTupleIter it t i)(ht:s.heap.IsTuple t items)(hx:items[i]?=some x)
  (hQ:∀h',h'.IsTupleIter it t (i+1)->Ŏ it s.heap h'->Q x {s with heap:=h'}):wpAny (Û prog w) A (Builtin.SmallTypes.nextOf<|.ref it) Q E s:=by
 obtain⟨o,ho,hc,hd⟩:=id bc;obtain⟨ot,hot,_,nt,hdt⟩:=ht;unfold Builtin.SmallTypes.nextOf;refine À<|ĕ (name:=Str.ofString "__next__") bc.typeIs F.slot_tuple_iterator_next<|ĉ F.slot_tuple_iterator_next bc.typeIs F.entry_tuple_iterator_next ?_<|F.args_tuple_iterator_next_1 _;show wpAny _ _ (di (.ref it) 0 >>= _) _ _ s;refine À<|Ň ho hd (x:=.ref t) rfl ?_;show wpAny _ _ (if(Value.ref t==Value.none)=true then _ else _) _ _ s;rw[if_neg<|show ¬ ((Value.ref t==Value.none)=true) from ý];show wpAny _ _ (di (.ref it) 1 >>= _) _ _ s;refine À<|Ň ho hd (x:=.int i 0) rfl ?_;show wpAny _ _ (ϓ (.ref t) >>= _) _ _ s;refine À<|ľ hot hdt ?_;simp only[í,hx];refine À (Ŀ ho hd (by simp)<|Æ ⟨x,rfl,Æ<|hQ _ ⟨_,Ď _ ho<|ϔ<|ő hd _,(Ϲ ..).trans hc,?_⟩<|ü ..⟩);rw[ő hd];simp[ı]
theorem Kh{t:È}(hh:A.handled=none)(bc:s.heap.IsTupleIter it t i)(ht:s.heap.IsTuple t items)(hx:items[i]?=none)
  (hE:∀h' e,Heap.ExtBut it s.heap h'->(∃o,h'.get? e=some o/\o.cls=.type "StopIteration")->E (.ref e) {s with heap:=h'}):wpAny (Û prog w) A (Builtin.SmallTypes.nextOf<|.ref it) Q E s:=by
 obtain⟨o,ho,hc,hd⟩:=id bc;obtain⟨ot,hot,_,nt,hdt⟩:=ht;unfold Builtin.SmallTypes.nextOf;refine À<|ĕ (name:=Str.ofString "__next__") bc.typeIs F.slot_tuple_iterator_next<|ĉ F.slot_tuple_iterator_next bc.typeIs F.entry_tuple_iterator_next ?_<|F.args_tuple_iterator_next_1 _;show wpAny _ _ (di (.ref it) 0 >>= _) _ _ s;refine À<|Ň ho hd (x:=.ref t) rfl ?_;show wpAny _ _ (if(Value.ref t==Value.none)=true then _ else _) _ _ s;rw[if_neg<|show ¬ ((Value.ref t==Value.none)=true) from ý];show wpAny _ _ (di (.ref it) 1 >>= _) _ _ s;refine À<|Ň ho hd (x:=.int i 0) rfl ?_;show wpAny _ _ (ϓ (.ref t) >>= _) _ _ s;refine À<|ľ hot hdt ?_;simp only[í,hx];refine À (Η<|À<|Ŀ ho hd (by simp) ?_);show wpAny _ _ (b5 (.type "StopIteration") [] >>= _) _ _ _;refine À ?_;simp only[b5,newTuple];refine À (þ (À (m:=ź _ _)<|Ψ (a:=Value.none) (by first|rfl|(simp only[ź];rfl))<|þ ?_<|by size_fits)<|by size_fits);simp only[raiseNew];refine À<|cT ?_
 first
 |rw[show A.in1.handled=none from hh]
 |rw[hh]
 exact À<|Æ<|wpAny_throw<|hE _ _ (((ü ..).extBut.push _).push _) ⟨_,Ï _ rfl,rfl⟩
end
variable {prog:à} {w:õ} {A:Ă}
theorem Iu(hh:A.handled=none)(it t:È)(ρ:t≠it)(items:Array Ã) :
  Draws prog w A it [it,t] items.size (fun i v=>items[i]?=some v) (fun i h=>h.IsTupleIter it t i/\h.IsTuple t items) where
 live:=fun _ _ st=>let ⟨o,ho,_⟩:=st.1;⟨o,ho⟩
 frame:=fun _ _ _ st hk=>⟨st.1.at fun o e=>hk it (by simp) o e,st.2.at fun o e=>hk t (by simp) o e⟩
 item:=fun i s Q E hi st hQ=>OC st.1 st.2 (x:=items[i]) (by simp[hi]) fun h' hit' hs'=>hQ _ h' s.toks (by simp[hi]) ⟨hit',st.2.extBut hs'.extBut ρ⟩ hs'
 done:=fun s Q E st hE=>Kh hh st.1 st.2 (by simp) hE
open AutoSeq1 (wpAny_loadPart') in
theorem G8(l:È)(items:Array Ã)(n:Nat)(dct:Option È)(sl:Array<|Option Ã) :
  Meets (Builtin.«enumerate.__new__» ⟨[.type "enumerate",.ref l],[]⟩) (fun _ R s=>s.heap.get? l=some { cls:=.type "tuple",dict:=dct,data:=.seq items n,slots:=sl }/\
    R (.ok<|.ret<|.ref (s.heap.push {cls:=.type "tuple_iterator",data:=.fields #[.ref l,.int 0 0]}).objs.size)
      { s with heap:=(s.heap.push { cls:=.type "tuple_iterator",data:=.fields #[.ref l,.int 0 0] }).push { cls:=.type "enumerate",data:=.fields #[.none,.bool false,.ref s.heap.objs.size,ı 0,.none,.none] } }) :=
 .of_wp fun prog w A R s h=>by
  obtain⟨hp,g,d,tk,os⟩:=s;obtain⟨hl,h⟩:=h;have hsub:=sub_enumerate;have hL:Heap.IsTuple (Shared.heap ⟨hp,g,d,tk,os⟩) l items:=⟨_,hl,rfl,n,rfl⟩
  wp_walk using ĝ hl
  refine wpAny_stack_any fun st=>Æ ?_;split
  .rename_i c _ _ _ _ _;cases (c==Value.type "enumerate")<;>(wp_walk using ĝ hl,Θ hL;exact⟨_,rfl,h⟩)
  .wp_walk using ĝ hl,Θ hL;exact⟨_,rfl,h⟩
theorem Oh{E:Ã->Å->Prop}{s:Å}{l:È}{items:Array Ã}{Q:Ã->Å->Prop}(hL:s.heap.IsTuple l items)
  (h:∀h',IsEnum h' (s.heap.objs.size+1) s.heap.objs.size 0 .none->h'.IsTupleIter s.heap.objs.size l 0->(∀b o,s.heap.get? b=some o->h'.get? b=some o)->Q (.ref<|s.heap.objs.size+1) {s with heap:=h'}) :
  wpAny (Û prog w) A (call (.type "enumerate") [.ref l]) Q E s:=by
 obtain⟨⟨c,dct,dt,sl⟩,hl,hc,n,hd⟩:=hL;simp only at hc hd;subst hc hd;refine callType_new F.called_enumerate (by decide) (F.typeCall_enumerate_1 _) (F.newCall_enumerate_1 _) (fun obj=>F.args_object_init_2 obj _) F.entry_enumerate_new (G8 l items n dct sl) ⟨hl,?_⟩;have hz:(s.heap.push {cls:=.type "tuple_iterator",data:=.fields #[.ref l,.int 0 0]}).objs.size=s.heap.objs.size+1:=ś ..;have hg:=Ï (s.heap.push {cls:=.type "tuple_iterator",data:=.fields #[.ref l,.int 0 0]}) (o:={cls:=.type "enumerate",data:=.fields #[.none,.bool false,.ref s.heap.objs.size,ı 0,.none,.none]}) rfl;rw[hz]at hg;show _/\_;rw[hz];exact⟨⟨_,hg,rfl⟩,h _ hg ⟨_,Ä _<|Ï _ rfl,rfl,rfl⟩ fun b o x=>Ä _<|Ä _ x⟩
section
variable {X:Cx}{Á:List (È×Obj)}{σ:St}{H:Hp}{s:Å}{h':ā}
theorem Inv.turnedL{t':Nat}{ch:List È}(I:Inv X Á σ H s)(k:∀b o,b∉ch->s.heap.get? b=some o->h'.get? b=some o)(hc:∀b∈ch,Wa X Á H b):Inv X Á σ H {s with heap:=h',toks:=t'}:=by
 have nit:∀b u,H b=some u->b∉ch:=fun b u e z=>by rw[(hc b z).1]at e;cases e
 refine I.step (g':=s.gens) (d':=s.drawn) (ch:=ch) (fun b hb=>?_) (fun b o _ _ hcb e _=>k b o hcb e) (fun b o _ _ hcb e _=>⟨o.slots,k b o hcb e⟩) (fun _ _ _ _ n=>n)
  (fun b o hcb e=>⟨o,k b o hcb e⟩) (fun _ _ e=>e) (fun _ _ _ e=>e) (fun b ps e=>⟨#[],by rw[e];simp⟩) (fun m hm=>?_) (fun b u e=>?_) I.bare
 .obtain⟨_,q2,_,q4,q5,q6⟩:=hc b hb;exact⟨q4,q2,q5,q6⟩
 .obtain⟨o,es,ep,ho,r⟩:=hm;exact⟨o,es,ep,k _ o (fun z=>(hc _ z).2.1 rfl) ho,r⟩
 .refine(I.hok b u e).stay (fun c v hcc q=>k c v ?_ q) (fun _ q=>q) fun _ _ q=>q;rcases hcc with z|z
  .rw[z];exact nit b u e
  .exact nit c _ z
theorem Inv.track{T:È}{o:HO}(I:Inv X Á σ H s)(hT:H T=none)(h0:X.s₀.heap.objs.size<=T)(hL:T≠X.env.locals)(aF:∀x c,X.env.cells.lookup x=some c->c≠T)(hp:∀p∈X.pn++Á,p.1≠T)
  (new:ObjOk X.prog X.w (upd H T o) s.heap T o):Inv X Á σ (upd H T o) s:=by
 have neT:∀b ob,X.s₀.heap.get? b=some ob->b≠T:=fun b ob e=>Þ<|ã (Ñ e) h0;refine⟨I.ok,I.os,I.bare,⟨I.base.keep,I.base.slot,fun b ob e n hx=>?_,I.base.there,fun b xs e=>?_,fun b ob xs e=>?_,fun b ps e=>?_⟩,I.loc,I.cell,?_,fun x c e=>?_,fun p hpp=>?_,I.hok.track hT new,I.len⟩
 .rw[upd_ne<|neT b ob e];exact I.base.free b ob e n hx
 .have q:=I.base.tups b xs e;rw[upd_ne<|Zd q hT];exact q
 .have q:=I.base.frzs b ob xs e;rw[upd_ne<|Zd q hT];exact q
 .obtain⟨m,q⟩:=I.base.tbls b ps e;exact⟨m,by rw[upd_ne<|Zd q hT];exact q⟩
 .rw[upd_ne hL.symm];exact I.free
 .rw[upd_ne<|aF x c e];exact I.freeC x c e
 .obtain⟨a,b,c,d,e⟩:=I.pin p hpp;exact⟨a,by rw[upd_ne<|hp p hpp];exact b,c,d,e⟩
end
noncomputable def Ite(K:Frag)(a:È):It :=
 ⟨fun i H=>∃xs x,SqT K H a xs/\xs[i]?=some x,fun i H v H'=>∃p,v=.ref p/\H p=none/\∀xs x,SqT K H a xs->xs[i]?=some x->H'=upd H p (.tup [.int i,x]),fun i H=>∃xs,SqT K H a xs/\xs.length<=i⟩
variable {es:List Expr} {kk:Nat} {tp:Pos}
theorem Ol{P:à}{K:Frag}(a it e:È)(ρ:e≠it) :
  Turn P w K (.Tuple es kk tp) (Ite K a) [e,it] e (fun i h=>(∃ϗ,IsEnum h e it i ϗ)/\h.IsTupleIter it a i) where
 mem:=by simp
 obj:=fun i h st b hb=>by
  obtain⟨⟨ϗ,h1⟩,o2,e2,_,d2⟩:=st;rcases Ç.mp hb with q|q
  .subst q;exact⟨_,h1,fun v z=>by cases z⟩
  .have q:b=it:=by simpa using q
   subst q;exact⟨o2,e2,fun v z=>by rw[d2]at z;cases z⟩
 keep:=fun i h h' st k=>⟨let ⟨ϗ,h1⟩:=st.1;⟨ϗ,k e (by simp) _ h1⟩,st.2.at fun o q=>k it (by simp) o q⟩
 item:=by
  intro X hP hw hK hc i Á s σ H E I hf st hg;subst hP hw hK;obtain⟨xs,x,hq,hx⟩:=hg;obtain⟨î,rv,pl,hz⟩:=I.tuple hq;obtain⟨u,hu,ru⟩:=rv.get hx;have hsz:=rv.length;have hi:i<î.toArray.size:=by rw[É];exact(Í.mp hu).1
  obtain⟨⟨ϗ,h1⟩,h2⟩:=st;have hfi:=hf it (by simp);have hai:a≠it:=fun z=>by obtain⟨o,ho,aF,_⟩:=h2;obtain⟨o',ak,hcl',_⟩:=pl;rw[z,ho]at ak;cases ak;rw[aF]at hcl';exact absurd (ϴ hcl') (by decide)
  have hae:e∉[it,a]:=fun z=>by
   rcases Ç.mp z with z|z
   .exact ρ z
   .have z:e=a:=by simpa using z
    obtain⟨o',ak,hcl',_⟩:=pl;rw[<-z,h1]at ak;cases ak;exact absurd (ϴ hcl') (by decide)
  refine wpAny_pyNext_enum_itemD (Iu (A:=X.A.in1) (I.ok.hd hc) it a hai î.toArray) h1 ⟨h2,pl⟩ hi ρ hae fun v h3 tk hv hout hst3 hT _ hk=>?_;have ev:v=u:=by
   have hv:î[i]?=some v:=by simpa using hv
   rw[hu]at hv;exact(ú hv).symm
  subst ev;have nT:∀b∈[e,it],s.heap.objs.size≠b:=fun b hb z=>by
   rcases Ç.mp hb with q|q
   .exact absurd (Ñ h1) (by rw[<-q,<-z];exact Ę _)
   .have q:b=it:=by simpa using q
    obtain⟨o,ho,_⟩:=h2;exact absurd (Ñ ho) (by rw[<-q,<-z];exact Ę _)
  have dz:=I.fpOk (H':=H) (Î s.heap.objs.size) I.fresh;refine⟨.ref s.heap.objs.size,rfl,wpAny_letOwnedTupleGo_enum hout fun h4 he4 hs4=>?_⟩;have I4:Inv X Á σ H {s with heap:=h4,toks:=tk+1}:=I.turnedL (t':=tk+1) (ch:=[e,it]) (fun b o hb q=>hs4.extBut b o (fun z=>hb<|by simp[z])<|hk b o (fun z=>hb<|by simp[z]) (fun z=>hb<|by simp[z]) q) hf;have hT4:h4.get? s.heap.objs.size=some {cls:=.type "tuple",data:=.seq #[.int i tk,v]}:=hs4.extBut _ _ (nT e<|by simp) hT;obtain⟨f0,f1,f2,f3,f4,f5⟩:=dz;have I5:Inv X Á σ (upd H s.heap.objs.size<|.tup [.int i,x]) {s with heap:=h4,toks:=tk+1}:=I4.track f0 I.sz f1 f4 f5 ⟨by show 2<=Ø;decide,[.int i tk,v],.cons ⟨tk,rfl⟩<|.cons ru .nil,_,hT4,rfl,_,rfl⟩;refine⟨.ref s.heap.objs.size,_,I5,rfl,⟨s.heap.objs.size,rfl,f0,fun ys y hy hyi=>?_⟩,⟨⟨v,by simpa using he4⟩,hst3.1.at fun o q=>hs4.extBut it o (Ne.symm ρ) q⟩,fun b hb=>?_⟩
  .have ey:ys=xs:=I.tuple_inj hy hq;rw[ey,hx]at hyi;rw[ú hyi]
  .rw[upd_ne (nT b hb).symm];exact(hf b hb).1
 done:=by
  intro X hP hw hK hc i Á s σ H E I hf st hg;subst hP hw hK;obtain⟨xs,hq,hx⟩:=hg;obtain⟨î,rv,pl,hz⟩:=I.tuple hq;have hl:=rv.length;obtain⟨⟨ϗ,h1⟩,h2⟩:=st;have hai:a≠it:=fun z=>by obtain⟨o,ho,aF,_⟩:=h2;obtain⟨o',ak,hcl',_⟩:=pl;rw[z,ho]at ak;cases ak;rw[aF]at hcl';exact absurd (ϴ hcl') (by decide)
  have hT:s.TypeIs (.ref e) "enumerate":=⟨_,h1,rfl⟩
  unfold Ŷ;refine À<|af<|ĕ (name:=Str.ofString "__next__") hT F.slot_enumerate_next<|ĉ F.slot_enumerate_next hT F.entry_enumerate_next ?_<|F.args_enumerate_next_1 _;show wpAny _ _ (di (.ref e) 2 >>= _) _ _ _;refine À<|Ň h1 rfl (x:=.ref it) rfl ?_;refine À (Kh (A:=X.A.in1) (I.ok.hd hc) h2 pl (by simp;omega) fun h' x he' hx'=>?_);obtain⟨o,ho,aF⟩:=hx';refine À<|ϕ (T:="StopIteration") (b:=true) ⟨o,ho,aF⟩ b7<|Æ ⟨rfl,?_⟩;exact I.turnedL (t':=s.toks) (ch:=[it]) (fun b ob hb q=>he' b ob (fun z=>hb<|by simp[z]) q) fun b hb=>hf b<|Ô _ hb
 self:=fun A i s Q E st h=>by obtain⟨⟨ϗ,h1⟩,_⟩:=st;exact wpAny_pyIter_enum h1 h
section
variable {X:Cx}
noncomputable def Lw(K:Frag)(ta:TA):TI:=fun σ H R=>ta σ H fun vs H1=>∃a,vs=[.ref a]/\(∃xs,SqT K H1 a xs)/\R (Ite K a) H1
theorem CC{p pos:Pos}{e:Expr}{ta:TA}(hg:Gl X "enumerate")(hm:X.mg "enumerate" = none)(ha:PA X [e] ta)(hs:Õ [e] X.env=[(false,eval e X.env)]:=by rfl) :
  PI X (.Tuple es kk tp) (.Call (.Name "enumerate" p) [e] [] pos) (Lw X.K ta):=by
 intro Á s σ H R I h;refine Call_ (Yt (u:=.type "enumerate") I hg hm (by kernel_rfl)<|PyProof.Rows.callWith_type1 (T:="enumerate") (thn (ha pos Á s σ H _ I h) fun us s1 ⟨vs,H1,I1,r1,q1⟩=>?_) hs rfl);obtain⟨a,e1,⟨xs,hq⟩,q⟩:=q1;subst e1;obtain⟨u,rfl,ru⟩:=ZK r1;cases ru;obtain⟨î,rv,pl,hz⟩:=I1.tuple hq;refine Oh pl fun h2 he2 hi2 hk2=>?_;have I2:Inv X Á σ H1 {s1 with heap:=h2}:=I1.kept (t':=s1.toks) hk2;refine wpAny_pyIter_enum he2 ⟨s1.heap.objs.size+1,[s1.heap.objs.size+1,s1.heap.objs.size],_,_,H1,rfl,I2,Ol a s1.heap.objs.size (s1.heap.objs.size+1)<|ł<|Ė _,⟨⟨_,he2⟩,hi2⟩,fun b hb=>?_,q⟩;have aZ:s1.heap.objs.size<=b:=by
  rcases Ç.mp hb with z|z
  .rw[z];exact Ń _
  .have z:b=s1.heap.objs.size:=by simpa using z
   rw[z];exact Î _
 exact I1.fpOk aZ<|I1.hok.fresh aZ
end
end L2
namespace L2
open PySem PySem.Spec PyProof.Rows
open PySem.Builtin PySem.Builtin.Str
noncomputable abbrev TJ:=St->Hp->Str->(Str->Hp->Prop)->Prop
def PJ(X:Cx)(vs:List Expr)(t:TJ):Prop :=
 ∀(Á:List<|È×Obj) (s:Å) (σ:St) (H:Hp) (į:Str) (Q:Str->Hp->Prop),Inv X Á σ H s->t σ H į Q->
  Joins (Û X.prog X.w) X.A X.xe (b8 vs X.env) į (fun out s1=>∃H1,Inv X Á σ H1 s1/\out.length<=Ø/\Q out H1) s
noncomputable def Q0:TJ:=fun _ H į Q=>į.length<=Ø/\Q į H
noncomputable def PU(te:TE)(tr:TJ):TJ:=fun σ H į Q=>te σ H fun x H1=>∃y,x=.str y/\(į++y).length<=Ø/\tr σ H1 (į++y) Q
section
variable {X:Cx}{e:Expr}{es:List Expr}{te:TE}{tr:TJ}{pos:Pos}
theorem pj_nil:PJ X [] Q0:=fun Á s σ H į Q I h=>⟨H,I,h.1,h.2⟩
theorem ER(he:PE X e te)(hr:PJ X es tr)(hs:b8 (e::es) X.env=eval e X.env::b8 es X.env:=by rfl):PJ X (e::es)<|PU te tr:=by intro Á s σ H į Q I h;rw[hs];show wpAny _ _ _ _ _ _;refine thn (he Á s σ H _ I h) fun v s1 ⟨x,H1,I1,r1,y,e1,hz,q1⟩=>?_;subst e1;obtain⟨t,rfl⟩:=r1;exact⟨y,t,rfl,hz,hr Á s1 σ H1 (į++y) Q I1 q1⟩
theorem Joins.imp{M:Model}{A:Ă}{E:Ã->Å->Prop}:∀{ps:List (Sem Ã)}{į:Str}{Q Q':Str->Å->Prop}{s:Å},(∀o s,Q o s->Q' o s)->Joins M A E ps į Q s->Joins M A E ps į Q' s
 |[],_,_,_,_,f,h=>f _ _ h
 |_::_,_,_,_,_,f,h=>thn h fun v s1 ⟨y,t,e,hz,hr⟩=>⟨y,t,e,hz,Joins.imp f hr⟩
end
noncomputable def Wl(x:Str):List Nat:=x.cps.toList
noncomputable def dg(n:Int):Str:=Str.ofString<|toString n
noncomputable def US(m:Nat):List Nat:=(Nat.toDigits 10 m).map Ő
theorem BM(m:Nat):Wl (dg (m:Int))=US m:=PySem.W.KIN.signs_num m
noncomputable def F6(m:Nat):Bool:=decide (1<=(US m).length)&&decide ((US m).length<=4)&&(US m).all (fun c=>decide (48<=c)&&decide (c<=57))&&(if m=0 then US m==[48]else(US m).head? != some 48)
theorem Eh:(List.range 1001).all F6=true:=by decide +kernel
structure FigOk(n:Int):Prop where
 one:1<=(Wl<|dg n).length
 four:(Wl<|dg n).length<=4
 fig:∀c∈Wl (dg n),48<=c/\c<=57
 nought:n=0->Wl (dg n)=[48]
 first:n≠0->(Wl<|dg n).head?≠some 48
theorem GX{n:Int}(h0:0<=n)(h1:n<=1000):FigOk n:=by
 obtain⟨m,rfl⟩:∃m:Nat,n=(m:Int):=⟨n.toNat,by omega⟩
 have h:=ñ.mp Eh m (ŭ.mpr<|by omega);unfold F6 at h;simp only[bAq,decide_eq_true_eq]at h;obtain⟨⟨⟨a,b⟩,c⟩,d⟩:=h;rw[<-BM]at a b c d;refine⟨a,b,fun k hk=>?_,fun e=>?_,fun e=>?_⟩
 .have:=ñ.mp c k hk;simpa using this
 .have e:m=0:=by omega
  rw[if_pos e]at d;simpa using d
 .have e:¬ m=0:=by omega
  rw[if_neg e]at d;simpa using d
noncomputable def wT:Str:="tie"
noncomputable def nl:Str:="\n"
noncomputable def fl(ls:List Str):List Nat:=(ls.map fun l=>Wl l++[10]).flatten
structure NetOk(bs:List Int)(ts:List Tie):Prop where
 br:BrOk bs
 ti:TsOk bs ts
 so:sortI bs=bs
 lo:ts.map loT=ts
variable {n:Int}
theorem BrOk.fig{bs:List Int}(h:BrOk bs)(hn:n∈bs):FigOk n:=GX (h.rng n hn).1 (by have:=(h.rng n hn).2;omega)
theorem FigOk.no(h:FigOk n){c:Nat}(hc:c<48):c∉Wl (dg n):=fun m=>by have:=(h.fig c m).1;omega
end L2
namespace L2
open PySem PySem.Spec PyProof.Rows
variable {P:à} {w:õ} {H:Hp} {h:ā} {a:È}
theorem ObjOk.obj{o:HO}(x:ObjOk P w H h a o):∃u,h.get? a=some u:=by
 cases o with
 |lst xs=>obtain⟨_,_,_,_,e⟩:=x;exact⟨_,e⟩
 |tup xs=>obtain⟨_,_,_,ob,e,_⟩:=x;exact⟨_,e⟩
 |dK kvs=>obtain⟨_,_,_,_,o,_,_,e,_⟩:=x;exact⟨_,e⟩
 |dT kvs=>obtain⟨_,_,_,_,o,_,_,e,_⟩:=x;exact⟨_,e⟩
 |set S n=>obtain⟨o,_,_,_,e,_⟩:=x;exact⟨_,e⟩
 |ins C dx fs=>obtain⟨_,_,_,e,_⟩:=x;exact⟨_,e⟩
 |own y=>exact x
 |xd fs=>obtain⟨_,⟨_,_,_,e,_⟩,_⟩:=x;exact⟨_,e⟩
 |rng lo hi=>obtain⟨_,_,_,e⟩:=x;exact⟨_,e⟩
 |frz ob u=>exact⟨_,x.1⟩
 |tbl ps=>exact⟨_,(show h.get? a=some _ from x)⟩
 |met f y=>exact⟨_,(show h.get? a=some _ from x)⟩
 |ext φ=>exact x.2.1
theorem HOk.none_of(x:HOk P w H h)(e:h.get? a=none):H a=none:=by
 cases q:H a with
 |none=>rfl
 |some u =>obtain⟨ob,z⟩:=(x a u q).obj;rw[e]at z;cases z
def Qx(h:ā)(a:È)(cls:Ã)(T:Option È):Prop :=
 ∃oe vs a0,h.get? a=some oe/\oe.cls=cls/\oe.data=.fields vs/\vs[0]?=some a0/\
  match T with
  |none=>vs[1]?=some .none
  |some T=>vs[1]?=some (.ref T)/\T≠a/\∃oT ts,h.get? T=some oT/\oT.data=.fields ts/\ts[3]?=some .none
structure Fl(P:à)(w:õ)(l:List Env)(H:Hp)(s:Å)(H':Hp)(a:È)(cls:Ã)(s':Å):Prop where
 os:s'.os=s.os
 bare:Ρ s'.gens
 un:Un (frs l) [] H H' s.heap s'.heap
 hok:HOk P w H' s'.heap
 na:s.heap.get? a=none
 ha:H' a=none
 ex:∃T,Qx s'.heap a cls T/\∀t,T=some t->s.heap.get? t=none/\H' t=none
noncomputable def CX1(P:à)(w:õ):CXT:=fun l H s E e s'=>∃a cls H',e=.ref a/\Fl P w l H s H' a cls s'/\E cls none H'
def XW(X:Cx)(E:XK):Prop:=∀(Á:List<|È×Obj) (σ:St) (H:Hp) (s:Å) (H':Hp) (a:È) (cls:Ã) (s':Å),
 Inv X Á σ H s->Fl X.prog X.w X.stack H s H' a cls s'->E cls none H'->X.xe (.ref a) s'
theorem XW.passes{X:Cx}{E:XK}(h:XW X E):YF (CX1 X.prog X.w) X E:=fun Á σ H s e s' I ⟨a,cls,H',z,f,q⟩=>by subst z;exact h Á σ H s H' a cls s' I f q
section
variable {M:Model}{A:Ă}{E:Ã->Å->Prop}{s:Å}{B:ā}{env:Env}{outer:List Env}{L a:È}{cls:Ã}{T:Option È}{Q:Unit->Å->Prop}
noncomputable def Jc(h:ā)(l:List Env)(a:È)(T:Option È):ā:=PySem.W.hideAll h<|a::(T.toList++frs l)
theorem Wi(h:ā)(l:List Env)(a:È)(T:Option È):(Jc h l a T).StaysIn h:=fun b o e=>PySem.W.of_hideAll _ e
theorem MU{l:List Env}(a:È)(T:Option È)(hl:h.FunFrames B l):h.FunFrames (Jc h l a T) l :=
 PySem.W.funFrames_hide hl fun e he b hb=>Ô _<|Ê _<|ν.mpr ⟨e,he,hb⟩
theorem Ul(h:ā)(l:List Env)(a:È)(T:Option È):(Jc h l a T).get? a=none:=PySem.W.hideAll_none _ å
theorem FJ(h:ā)(l:List Env)(a t:È):(Jc h l a<|some t).get? t=none:=PySem.W.hideAll_none _ (Ô _<|â _<|by simp)
theorem Oy(dz:A.frames=some (env::outer))(hf:env.frame=some L)(hl:s.heap.FunFrames B<|env::outer)(hx:Qx s.heap a cls T)
  (h:∀h' a0,Heap.LeftW (Jc s.heap (env::outer) a T) (env::outer) a cls a0 s.heap h'->Q () {s with heap:=h'}):wpAny M A (leaving env<|.ref a) Q E s:=by
 obtain⟨oe,vs,a0,he,hc,hd,h0,ht⟩:=hx;cases T with
 |none =>subst hc;exact wpAny_leaving_firstW dz (MU a none hl) hf he (Wi _ _ _ _) (Ul _ _ _ _) hd ht h0 fun h' z=>h h' a0 z
 |some t =>obtain⟨h1,ρ,oT,ts,e1,e2,e3⟩:=ht;exact wpAny_leaving_nextW dz (MU a (some t) hl) hf ⟨oe,vs,t,oT,ts,he,⟨hc,h0⟩,hd,h1,FJ _ _ _ _,ρ,e1,e2,e3⟩ (Wi _ _ _ _) (Ul _ _ _ _) fun h' z=>h h' a0 z
end
theorem Fl.left{l:List Env}{H':Hp}{s s':Å}{cls a0:Ã}{h' B:ā}(f:Fl P w l H s H' a cls s'){T:Option È}(hT:∀t,T=some t->s.heap.get? t=none/\H' t=none)
  (hl:s'.heap.FunFrames B l) (dz:∀b∈frs l,H' b=none) (z:Heap.LeftW (Jc s'.heap l a T) l a cls a0 s'.heap h'):Fl P w l H s H' a cls {s' with heap:=h'}:=by
 obtain⟨k1,k2,k3,k4⟩:=z;have inb:∀b o,s'.heap.get? b=some o->b≠a->(∀t,T=some t->b≠t)->b∉frs l->h'.get? b=some o:=fun b o e na nt nf=>k1 b o (PySem.W.hideAll_get _ e (by
   intro m
   rcases Ç.mp m with m|m
   . exact na m
   . rcases é.mp m with m|m
     . cases T with
       |none=>cases m
       |some t=>exact nt t rfl (by simpa using m)
     . exact nf m))
 have slot:∀b o,s'.heap.get? b=some o->b∈frs l->∃sl,h'.get? b=some {o with slots:=sl}:=fun b o e hb=>by obtain⟨_,o2,e2,nf⟩:=hl.mem hb;rw[e]at e2;cases e2;exact k4 b o e nf
 have ϗ:∀b o,s.heap.get? b=some o->b≠a/\∀t,T=some t->b≠t:=fun b o e=>⟨(fun z=>by rw[z,f.na]at e;cases e),(fun t ht z=>by rw[z,(hT t ht).1]at e;cases e)⟩
 refine⟨f.os,f.bare,⟨fun b o e n nf _=>?_,fun b o e n hb _=>?_,f.un.free,fun b o e _=>?_,f.un.tups,f.un.frzs,f.un.tbls⟩,?_,f.na,f.ha,?_⟩
 .exact inb b o (f.un.keep b o e n nf<|by simp) (ϗ b o e).1 (ϗ b o e).2 nf
 .obtain⟨sl,e1⟩:=f.un.slot b o e n hb (by simp);obtain⟨sl',e2⟩:=slot b _ e1 hb;exact⟨sl',e2⟩
 .obtain⟨o1,e1⟩:=f.un.there b o e (by simp);by_cases hb:b∈frs l
  .obtain⟨sl,e2⟩:=slot b _ e1 hb;exact⟨_,e2⟩
  .exact⟨o1,inb b o1 e1 (ϗ b o e).1 (ϗ b o e).2 hb⟩
 .intro b u e;have good:∀c v,H' c=some v->∀ob,s'.heap.get? c=some ob->h'.get? c=some ob:=fun c v ec ob eo =>
   inb c ob eo (fun z=>by rw[z,f.ha]at ec;cases ec) (fun t ht z=>by rw[z,(hT t ht).2]at ec;cases ec) fun m=>by rw[dz c m]at ec;cases ec
  refine(f.hok b u e).stay (fun c v hc q=>?_) (fun _ q=>q) fun _ _ q=>q;rcases hc with z|z
  .rw[z]at q ⊢;exact good b u e v q
  .exact good c _ z v q
 .obtain⟨oe,vs,t',oT,ts,e1,⟨e2,e3⟩,e4,e5,e6,e7,e8,e9,e10⟩:=k3;refine⟨some t',⟨oe,vs,a0,e1,e2,e4,e3,e5,e7,oT,ts,e8,e9,e10⟩,fun t ht=>?_⟩;cases ht;have hid:∀o,s'.heap.get? t'=some o->T=some t':=fun o e=>by
   have nin:¬ (t'∉(a::(T.toList++frs l))):=fun m=>by have q:(Jc s'.heap l a T).get? t'=some o:=PySem.W.hideAll_get _ e m;rw[e6]at q;cases q
   have m:=Classical.not_not.mp nin;rcases Ç.mp m with m|m
   .exact absurd m e7
   .rcases é.mp m with m|m
    .cases T with
     |none=>cases m
     |some t=>rw[show t'=t by simpa using m]
    .obtain⟨_,o2,q,nf⟩:=k2.mem m;rw[e8]at q;cases q;exact absurd e9<|nf ts
  constructor
  .cases q:s.heap.get? t' with
   |none=>rfl
   |some o =>obtain⟨o1,q1⟩:=f.un.there t' o q (by simp);have:=(hT t'<|hid o1 q1).1;rw[q]at this;cases this
  .cases q:H' t' with
   |none=>rfl
   |some u =>obtain⟨o1,q1⟩:=(f.hok t' u q).obj;have:=(hT t'<|hid o1 q1).2;rw[q]at this;cases this
section
variable {P:à}{w:õ}{K:Frag}{mg:Str->Option Ã}{base:ā}
variable {X:Cx} {H:Hp} {s:Å}
theorem Inv.raised{Á:List (È×Obj)}{σ:St}{H':Hp}{s':Å}{a:È}{cls:Ã}(I:Inv X Á σ H s)(f:Fl X.prog X.w X.stack H s H' a cls s'):Inv X Á σ H' s' :=
 I.call' (ch:=[]) f.os f.un f.hok f.bare (fun b z=>absurd z<|by simp)
theorem OF(ok:X.Ok)(h:X.stack=X.env::X.outer):X.env.frame=some X.env.locals:=by
 rcases ok.stk with e|e
 .rw[h]at e;exact absurd (congrArg List.length e) (by simp)
 .exact e.2
variable {N:List Str} {qual:Str} {f:È}
theorem Ih{scope:Ž}{cd:Ã}{A:Ă}{outer:List Env}{E:XK}:XW (JU (CX1 P w) P w K mg base N qual scope f cd A outer s H E) E:=by
 intro Á σ H2 s2 H' a cls s' I f q;have J:=I.raised f;obtain⟨T,hx,hT⟩:=f.ex;show wpAny _ _ (leaving _ _) _ _ _;refine Oy (outer:=outer) J.ok.frames (OF J.ok rfl) J.stack hx fun h' a0 z=>?_;have f2:=f.left hT J.stack J.stkFree z;have J2:=I.raised f2;have aB:∀b,s2.heap.get? b=none->s.heap.get? b=none:=fun b e=>by
  cases z:s.heap.get? b with
  |none=>rfl
  |some o =>obtain⟨o',e'⟩:=I.base.there b o z (by intro m;cases m);rw[e]at e';cases e'
 obtain⟨T2,hx2,hT2⟩:=f2.ex;exact⟨a,cls,H',rfl,⟨J2.os,J2.bare,J2.base,J2.hok,aB a f2.na,f2.ha,T2,hx2,fun t ht=>⟨aB t (hT2 t ht).1,(hT2 t ht).2⟩⟩,q⟩
theorem Fun.ok1{x:Str}{st:Ļ}{fd:Ņ}{ps:List Str}{k:Nat}{sp:Sp}(F:Fun K x qual st f fd)(S:FnScope N ps<|Zi st)(len:∀vs H Q E,sp vs H Q E->vs.length=ps.length)
  (bD:∀(ό:Ã) (A:Ă) (outer:List Env) (s:Å) (H:Hp) (vs:List V) (Q:VK) (E:XK),Room k (A.deeper<|ϫ qual (Zi st) s.heap.objs.size f ό)->sp vs H Q E->
    XW (JU (CX1 P w) P w K mg base N qual (Zi st) f ό A outer s H E) E->
    ∃t,PSs (JU (CX1 P w) P w K mg base N qual (Zi st) f ό A outer s H E) (ZG st) t/\t { nx:=fun _ H'=>Q .non H',rt:=Q } (start N vs) H):FnOk P w K mg base (CX1 P w) (k+1) f fd ps sp:=by
 obtain⟨oc,od,kV,doc,pm,an,ό,ct,osl,rfl,lk,aE⟩:=F.ex;exact F2 lk aE S len fun A outer s H vs Q E hr dv=>bD ό A outer s H vs Q E hr dv Ih
end
def XP(X:Cx)(Á:List<|È×Obj)(σ:St)(E:XK)(v:Ã)(s':Å):Prop :=
 ∃a cls H1 H' s1,v=.ref a/\Inv X Á σ H1 s1/\Fl X.prog X.w X.stack H1 s1 H' a cls s'/\E cls none H'
noncomputable def xcO(a:È)(cls:Ã):HO:=.ext fun h=>∃o vs,h.get? a=some o/\o.cls=cls/\o.data=.fields vs
noncomputable abbrev Cx.caught(X:Cx)(a:È):Cx:={X with A:=X.A.mark<|some<|.ref a,calm:=false,xe:=fun _ _=>False}
section
variable {X:Cx}{Á:List (È×Obj)}{σ:St}{H H':Hp}{s s':Å}{a:È}{cls:Ã}
theorem Inv.caught(I:Inv X Á σ H s)(a:È):Inv (X.caught a) Á σ H s :=
 ⟨⟨I.ok.mod,I.ok.kind,I.ok.glob,I.ok.blt,I.ok.above,I.ok.inj,I.ok.has,I.ok.cab,fun z=>Bool.noConfusion z,I.ok.frames,I.ok.stk,I.ok.exf,I.ok.bs,I.ok.bsz,I.ok.noex,I.ok.exfs,I.ok.funs,I.ok.frf⟩,I.os,I.bare,I.base,I.loc,I.cell,I.free,I.freeC,I.pin,I.hok,I.len⟩
end
end L2
namespace L2
open PySem PySem.Spec PySem.W PySem.Calls PyProof.Rows PySem.Builtin PySem.Builtin.ObjectAttr PySem.Builtin.Getset_descriptor
section
variable {prog:à}{w:õ}{A:Ă}{E:Ã->Å->Prop}{K:Frag}{h:ā}{g:Array bS}{d:Drawn}{t:Nat}{os:OsState}{a C:È}{o:Obj}
structure XCls(K:Frag)(C:È):Prop where
 ga:Ϭ K (.ref C) "__getattribute__" = some (some<|.builtin "BaseException.__getattribute__")
 gr:Ϭ K (.ref C) "__getattr__" = some none
 cl:Ϭ K (.ref C) "__class__" = some (some<|.builtin "object.__class__")
 mo:mroIn K C (.type "object")=some true
 mb:mroIn K C (.type "BaseException")=some true
 ci:(clsIn K C).isSome=true
end
end L2
namespace L2
open PySem PySem.Spec PyProof.Rows
section
variable {X:Cx}
theorem JX:CallR X (.type "int") fun xs H Q=>∃z n,xs=[.str z]/\PySem.intText? z=some n/\z.length<=640/\Q (.int n) H:=by intro Á s σ H xs us Q I r h;obtain⟨z,n,rfl,e,hl,q⟩:=h;obtain⟨u,rfl,t,rfl⟩:=ZK r;exact PySem.W.KIN.call_text e hl ⟨.int n,H,I.tok _,⟨_,rfl⟩,q⟩
end
end L2
namespace L2
open PySem PySem.Spec PyProof.Rows
open PySem.Builtin PySem.Builtin.Str
noncomputable def Ak(z:Str)(lo hi:Option Int):Str:=if(ψ lo hi 1 z.length).length=z.length then z else⟨((ψ lo hi 1 z.length).filterMap (z.cps[·]?)).toArray⟩
theorem Cf(z:Str)(lo hi:Option Int):(Ak z lo hi).length<=z.length:=by
 unfold Ak;split
 .exact Î _
 .show((ψ lo hi 1 z.length).filterMap (z.cps[·]?)).toArray.size<=_;rw[É];exact Ó (bf _ _)<|indices_len_le lo hi z.length
section
variable {X:Cx}
def L4:V->Option Int->Option Int->Hp->VK->Prop:=fun x lo hi H Q=>∃z,x=.str z/\z.length<=Ø/\Q (.str<|Ak z lo hi) H
theorem OV{v:Ã}{lo:Option Int}(h:ϝ v lo):∃l:Option<|Int×Tok,v=partValue l/\l.map (·.1)=lo:=by
 cases h with
 |none=>exact⟨none,rfl,rfl⟩
 |int i t=>exact⟨some (i,t),rfl,rfl⟩
theorem sl_str:SlR X L4:=by
 intro Á s σ H x v vl vu lo hi sl Q I rx hs pl pu h;obtain⟨z,rfl,hz,q⟩:=h;obtain⟨t,rfl⟩:=rx;refine⟨"str",_,slot_str_getitem.lookup,typeIs_str s z t,?_⟩;obtain⟨l,rfl,el⟩:=OV pl;obtain⟨u,rfl,eu⟩:=OV pu;have hs':s.heap.IsSlice sl l u none:=hs;refine wpAny_getItem_str_slice hs' rfl ?_;have e:sliceMade z t l u none=if(ψ lo hi 1 z.length).length=z.length then .val (.str z t)else .str ⟨((ψ lo hi 1 z.length).filterMap (z.cps[·]?)).toArray⟩:=by unfold sliceMade slicePicked;rw[el,eu];simp
 rw[e];have cl:=Cf z lo hi;unfold Ak at q cl;split
 .rename_i hh;rw[if_pos hh]at q;exact⟨.str z,H,I,⟨t,rfl⟩,q⟩
 .rename_i hh;rw[if_neg hh]at q cl;exact⟨Ó cl hz,.str _,H,I.tok _,⟨_,rfl⟩,q⟩
end
section
variable {X:Cx}
theorem Uh(z:Str):∀(n:Nat) (a:Array Nat),((Ö n z.cps).foldl (· ++ ·) a).size=a.size+n*z.cps.size
 |0,a=>by simp
 |n+1,a=>by rw[č,Ĵ,Uh z n,Array.size_append,Nat.succ_mul];omega
theorem Vals.ins{xs:List V}{us:List Ã}{y:V}{u:Ã}(r:Vals xs us)(ry:RelV y u)(k:Nat):Vals (xs.take k++y::xs.drop k)<|us.take k++u::us.drop k:=(r.take k).append (.cons ry<|r.drop k)
end
end L2
namespace L2
open PySem PySem.Spec PyProof.Rows
section
variable {X:Cx}(K:Frag) (h:X.K=K)
include h
end
end L2
namespace HT
open PySem PyProof.Rows
open PySem.SeqAt
open PySem.AutoSeq1 (wpAny_loadPart')
open PySem.MeetsSeq PySem.MeetsSeq2 PySem.MeetsSeq3
section
variable {prog:à}{w:õ}{A:Ă}{E:Ã->Å->Prop}{s:Å}
theorem getItem_tuple_whole{t sl:È}{items:Array Ã}{vl vu:Ã}{lo hi:Option Int}{Q:Ã->Å->Prop}(ht:aa s.heap t items)(hs:s.heap.IsSliceOf sl vl vu .none)(pl:ϝ vl lo)(pu:ϝ vu hi)
  (hw:sIx items.size 0 lo=0/\sIx items.size items.size hi=items.size)
  (h:Q (.ref t) s):wpAny (Û prog w) A (Ϝ (.ref t)<|.ref sl) Q E s:=by
 obtain⟨os,hos,hcs,hds⟩:=id hs;have hTs:s.TypeIs (.ref sl) "slice":=⟨os,hos,hcs⟩
 unfold Ϝ
 try with_reducible refine Ĝ ?_
 first|refine À (Æ ?_)|skip
 refine À (wpAny_sequenceKey ht.typeIs (by decide) ?_);refine À (ĕ (name:=Str.ofString "__getitem__") ht.typeIs PyProof.Rows.slot_tuple_getitem
   (ĉ PyProof.Rows.slot_tuple_getitem ht.typeIs entry_tuple_getitem ?_<|args_tuple_getitem _ _))
 show wpAny _ _ (Builtin.Tuple.tupleItemsOf (.ref t) >>= _) _ _ s;refine À<|tupleItemsOf_ ht ?_;refine À<|Ϟ hTs ?_;rw[if_pos<|by decide];refine À<|Yn hs pl pu ?_;have hyes:(((sIx items.size 0 lo:Nat):Int)==0&&(1:Int)==1&&(sIx items.size items.size hi - sIx items.size 0 lo)==items.size)=true:=by rw[hw.1,hw.2];simp
 show wpAny _ _ (if(((sIx items.size 0 lo:Nat):Int)==0&&(1:Int)==1&&(sIx items.size items.size hi - sIx items.size 0 lo)==items.size)=true then _ else _) _ _ s;rw[if_pos hyes];refine À ?_;unfold Builtin.Tuple.tupleIsExact;refine À<|Ϟ ht.typeIs<|Æ ?_;rw[if_pos<|by decide]
 first
  |exact À<|Æ<|Æ ⟨_,rfl,Æ h⟩
  |exact À<|Η<|Æ ⟨_,rfl,Æ h⟩
  |exact Æ ⟨_,rfl,Æ h⟩
end
end HT
namespace L2
open PySem PySem.Spec PyProof.Rows
section
variable {X:Cx}
def LN(K:Frag):V->Option Int->Option Int->Hp->VK->Prop:=fun x lo hi H Q=>∃a xs,x=.ref a/\SqT K H a xs/\(HT.sIx xs.length 0 lo=0/\HT.sIx xs.length xs.length hi=xs.length)/\Q (.ref a) H
theorem Fb:SlR X<|LN X.K:=by
 intro Á s σ H x v vl vu lo hi sl Q I rx hs pl pu h;obtain⟨a,xs,rfl,hx,hw,q⟩:=h;cases rx;obtain⟨î,r,ht,hz⟩:=I.tuple hx;have hlen:î.toArray.size=xs.length:=by rw[É];exact r.length.symm
 refine⟨"tuple",_,PyProof.Rows.slot_tuple_getitem.lookup,ht.typeIs,?_⟩;exact HT.getItem_tuple_whole ht hs pl pu (by rw[hlen];exact hw) ⟨.ref a,H,I,rfl,q⟩
end
end L2
namespace L2
open PySem PySem.Spec PyProof.Rows
open PySem.Builtin PySem.Builtin.Str
section
variable {X:Cx}
noncomputable def IS(z:Str)(n:Nat):Str:=⟨(Ö n z.cps).foldl (· ++ ·) #[]⟩
theorem KM(z:Array Nat):∀(n:Nat) (a:Array Nat),((Ö n z).foldl (· ++ ·) a).toList=a.toList++(Ö n z.toList).flatten
 |0,a=>by simp
 |n+1,a=>by rw[č,Ĵ,KM z n,č,Ł,Array.toList_append,ŗ]
noncomputable def F9:R2:=fun x y H Q=>∃z k,x=.str z/\y=.int k/\2<=k/\k<=1000000/\1<=z.length/\z.length*k.toNat<=1000000/\Q (.str<|IS z k.toNat) H
theorem DQ:OpR X (ń .Mult) F9:=by
 intro Á s σ H x y v u Q I rx ry h;obtain⟨z,k,rfl,rfl,h2,h6,h1,hz,q⟩:=h;obtain⟨t,rfl⟩:=rx;obtain⟨t',rfl⟩:=ry;have big:(1000000:Nat)<=Ø:=by decide
 have nb:(k==1||z.length==0)=false:=by have e1:(k==1)=false:=beq_false_of_ne (by omega);have e2:(z.length==0)=false:=beq_false_of_ne (by omega);rw[e1,e2];rfl
 have zl:z.length<=1000000:=by have:z.length*1<=z.length*k.toNat:=Nat.mul_le_mul_left _ (by omega);omega
 have hr:(decide (k < -(2 ^ 63:Int))||decide (k≥2 ^ 63))=false:=by rw[decide_eq_false (by omega),decide_eq_false<|by omega];rfl
 have hb:¬ k<1->(k==1||z.length==0)=false->¬ ((z.length:Int) > (2 ^ 63 - 1) / k):=fun _ _=>by have:(1000000:Int)<=(2 ^ 63 - 1) / k:=(Int.le_ediv_iff_mul_le<|by omega).mpr (by omega);omega
 have hl:¬ k<1->(k==1||z.length==0)=false->tooLong (z.length*k.toNat)=false:=fun _ _=>by unfold tooLong;exact decide_eq_false (by omega)
 refine P.mul_str hr hb hl ?_;rw[if_neg (by omega),if_neg<|by rw[nb];exact ý];have el:(⟨(Ö k.toNat z.cps).foldl (· ++ ·) #[]⟩:Str).length=z.length*k.toNat:=by show((Ö k.toNat z.cps).foldl (· ++ ·) #[]).size=_;rw[Uh,bZ z.length];simp[Str.length]
 exact⟨by rw[el];omega,.str _,H,I.tok _,⟨_,rfl⟩,q⟩
variable {c y z a b:Str}{k1 k2 k3:Nat}{p1 p2 p3 p4 pa pb ō Ť:Pos}
end
end L2
namespace L2
open PySem PySem.Spec PyProof.Rows
section
variable {X:Cx}
noncomputable def FX(K:Frag):R2:=fun x y H Q=>∃a b ys,x=.ref a/\y=.ref b/\SqT K H a []/\SqT K H b ys/\Q (.ref b) H
theorem op_cat0:OpR X (ń .Add)<|FX X.K:=by
 intro Á s σ H x y v u Q I rx ry h;obtain⟨a,b,ys,rfl,rfl,ha,hb,q⟩:=h;cases rx;cases ry;obtain⟨î,r1,p1,_⟩:=I.tuple ha;obtain⟨ϖ,r2,p2,_⟩:=I.tuple hb;cases r1;obtain⟨⟨cls,dd,data,sl⟩,ho,hc,n,hd⟩:=id p1;obtain⟨⟨cls2,cH,data2,dy⟩,ho2,hc2,n2,bP⟩:=id p2;simp only at hc hd hc2 bP;subst hc hd hc2 bP;exact dG ⟨_,ho,rfl⟩ ⟨_,ho2,rfl⟩ aV cP PySem.F.slot_tuple_add PySem.F.entry_tuple_add (PySem.F.args_tuple_add_2 _ _)
  (tuple_addW0 a b _ _ n n2 dd cH sl dy rfl) ⟨ho,ho2,.ref b,H,I,rfl,q⟩
theorem Fd{xs:Array (Int×Tok)}{k:Nat}(h:k<xs.size):numAt xs k∈xs.toList.map (·.1):=by rw[numAt_eq];exact PySem.getD_mem (by rw[Â,ç];exact h)
theorem U3(hc:X.calm=true):CallR X (.builtin "min") fun xs H Q=>∃p,∃ns:List Int,xs=[.ref p]/\SqL X.K H p (ns.map V.int)/\ns≠[]/\∀M,M∈ns->(∀a∈ns,M<=a)->Q (.int M) H:=by
 intro Á s σ H xs us Q I r h;obtain⟨p,ns,rfl,hq,ρ,q⟩:=h;obtain⟨u,rfl,rx⟩:=ZK r;cases rx;obtain⟨î,rv,pl,hz⟩:=I.list hq;have hi:=Zv rv;obtain⟨xs,e⟩:=hi.allInts.items;have hns:ns=xs.toList.map (·.1):=by rw[<-hi.numsOf,<-nums_intItems,<-e]
 have hsz:0<xs.size:=by have h3:=δ.mpr ρ;rw[hns,Â,ç]at h3;exact h3
 have hl:=pl.isList;rw[e]at hl;refine min_intList (I.ok.hd hc) hl hsz fun v h' tk hv hk=>?_;obtain⟨t,rfl⟩:=intItems_at hv;obtain⟨h1,h2⟩:=argBest_lt (numAt xs)<|xs.size - 1;refine⟨.int _,H,I.kept (t':=tk) hk,⟨t,rfl⟩,q _ ?_ fun a ha=>?_⟩
 .rw[hns];exact Fd (by omega)
 .rw[hns]at ha;obtain⟨j,hj,rfl⟩:=mem_getD ha;rw[Â,ç]at hj;rw[<-numAt_eq];exact h2 j (by omega)
theorem Ot(hc:X.calm=true):CallR X (.builtin "min") fun xs H Q=>∃p,∃ns:List Int,xs=[.ref p]/\SqT X.K H p (ns.map V.int)/\ns≠[]/\∀M,M∈ns->(∀a∈ns,M<=a)->Q (.int M) H:=by
 intro Á s σ H xs us Q I r h;obtain⟨p,ns,rfl,hq,ρ,q⟩:=h;obtain⟨u,rfl,rx⟩:=ZK r;cases rx;obtain⟨î,rv,pl,hz⟩:=I.tuple hq;have Ν:p<s.heap.objs.size:=by obtain⟨o,e,_⟩:=pl;exact Ñ e
 have hl:î.length=ns.length:=by rw[<-rv.length,Â]
 have hn:=δ.mpr ρ;have hv:∀k v,î[k]?=some v->∃t,v=Value.int (ns.getD k 0) t:=fun k v hv=>by
  have hk:=(Í.mp hv).1;rw[hl]at hk;have hb:(ns.map V.int)[k]?=some (.int<|ns.getD k 0):=by rw[Ù,Ë hk,ô,Ë hk];rfl
  obtain⟨u,hu,ru⟩:=rv.get hb;rw[hv]at hu;cases hu;exact ru
 refine call_min_walk (Θ (show s.heap.IsTuple p î.toArray from pl) ?_);refine⟨s.heap.objs.size,_,_,î.toArray.size,_,_,fun a b=>decide (ns.getD a 0<ns.getD b 0),rfl,Walks.tuple (A:=X.A.in1) (I.ok.hd hc) s.heap.objs.size p (Þ Ν) î.toArray,⟨⟨_,Ï _ rfl,rfl,rfl⟩,?_⟩,?_,?_,?_,fun v h' tk hP hk=>?_⟩
 .obtain⟨o,e,r⟩:=pl;exact⟨o,Ä _ e,r⟩
 .intro b hb;show b<(s.heap.push _).objs.size;rw[ś];rcases Ç.mp hb with e|hb
  .rw[e];exact Ė _
  .have:b=p:=by simpa using hb
   rw[this];exact ď Ν
 .rw[É,hl];exact hn
 .exact CmpOf.ints_lt (fun k=>ns.getD k 0) fun k v hP=>hv k v (by simpa using hP)
 .rw[É,hl]at hP;have hP:î[Ģ (fun a b=>decide (ns.getD a 0<ns.getD b 0))<|ns.length - 1]?=some v:=by simpa using hP
  obtain⟨t,rfl⟩:=hv _ _ hP;obtain⟨h1,h2⟩:=argBest_lt (fun k=>ns.getD k 0)<|ns.length - 1;refine⟨.int _,H,I.kept (t':=tk) fun b o e=>hk b o (fun hm=>?_)<|Ä _ e,⟨_,rfl⟩,q _ (PySem.getD_mem<|by omega) fun a ha=>?_⟩
  .have:b=s.heap.objs.size:=by simpa using hm
   exact absurd (this▸Ñ e)<|Ę _
  .obtain⟨j,hj,rfl⟩:=mem_getD ha;exact h2 j (by omega)
end
mutual
inductive SamV (K:Frag) (H:Hp):Nat->V->V->Prop
 |non {n:Nat}:SamV K H n .non .non
 |bl {n:Nat}(b:Bool):SamV K H n (.bl b)<|.bl b
 |int {n:Nat}(i:Int):SamV K H n (.int i)<|.int i
 |str {n:Nat}(x:Str):SamV K H n (.str x)<|.str x
 |ref {n:Nat}(a:È):SamV K H n (.ref a)<|.ref a
 |lst {n:Nat}{a b:È}{xs ys:List V}:SqL K H a xs->SqL K H b ys->SamVs K H n xs ys->SamV K H (n+1) (.ref a) (.ref b)
 |tup {n:Nat}{a b:È}{xs ys:List V}:SqT K H a xs->SqT K H b ys->SamVs K H n xs ys->SamV K H (n+1) (.ref a) (.ref b)
inductive SamVs (K:Frag) (H:Hp):Nat->List V->List V->Prop
 |nil {n:Nat}:SamVs K H n [] []
 |cons {n:Nat}{x y:V}{xs ys:List V}:SamV K H n x y->SamVs K H n xs ys->SamVs K H n (x::xs) (y::ys)
end
theorem Mu(n:Nat):(List.range n).all (fun _=>true)=true:=by simp
theorem SamVs.length{K:Frag}{H:Hp}:∀{n:Nat}{xs ys:List V},SamVs K H n xs ys->xs.length=ys.length
 |_,_,_,.nil=>rfl
 |_,_,_,.cons _ t=>by rw[Ì,Ì,SamVs.length t]
section
variable {X:Cx}{Á:List (È×Obj)}{σ:St}{H:Hp}{s:Å}
mutual
theorem SamV.eqAt(I:Inv X Á σ H s):∀{n:Nat}{x y:V}{u v:Ã}{A:Ă},SamV X.K H n x y->RelV x u->RelV y v->A.units+n<Ğ->SeqAt.EqAt A s u v true
 |_,_,_,_,_,A,.non,r,q,_=>by cases r;cases q;exact SeqAt.EqAt.same _
 |_,_,_,_,_,A,.bl b,r,q,_=>by cases r;cases q;exact SeqAt.EqAt.same _
 |_,_,_,_,_,A,.int i,r,q,_=>by
  obtain⟨t,rfl⟩:=r;obtain⟨t',rfl⟩:=q;have:=SeqAt.EqAt.int_int (A:=A) (s:=s) i t i t'
  rwa [beq_self_eq_true]at this
 |_,_,_,_,_,A,.str x,r,q,_=>by
  obtain⟨t,rfl⟩:=r;obtain⟨t',rfl⟩:=q;have:=SeqAt.EqAt.str_str (A:=A) (s:=s) x t x t'
  rwa [beq_self_eq_true]at this
 |_,_,_,_,_,A,.ref a,r,q,_=>by cases r;cases q;exact SeqAt.EqAt.same _
 |n+1,_,_,_,_,A,.lst (a:=a) (b:=b) ha hb hs,r,q,hu=>by
  cases r;cases q;by_cases bQ:a=b
  .subst bQ;exact SeqAt.EqAt.same _
  .obtain⟨î,rv,pl,_⟩:=I.list ha;obtain⟨ϖ,rv2,pl2,_⟩:=I.list hb;have hl:=hs.length;have h1:=rv.length;have h2:=rv2.length;have hz:î.toArray.size=ϖ.toArray.size:=by rw[É,É,<-h1,<-h2,hl]
   have:=SeqAt.RcAt.lists (A:=A) (e:=fun _=>true) pl.isList pl2.isList hz (by omega) fun j j1 j2=>SamVs.eqAt I hs rv rv2 (A:=A.in1) (by have:A.in1.units=A.units+1:=rfl;omega) j j1 j2;rw[Mu]at this;exact SeqAt.EqAt.of_refs bQ this
 |n+1,_,_,_,_,A,.tup (a:=a) (b:=b) ha hb hs,r,q,hu=>by
  cases r;cases q;by_cases bQ:a=b
  .subst bQ;exact SeqAt.EqAt.same _
  .obtain⟨î,rv,pl,_⟩:=I.tuple ha;obtain⟨ϖ,rv2,pl2,_⟩:=I.tuple hb;have hl:=hs.length;have h1:=rv.length;have h2:=rv2.length;have hz:î.toArray.size=ϖ.toArray.size:=by rw[É,É,<-h1,<-h2,hl]
   have:=SeqAt.RcAt.tuples (A:=A) (e:=fun _=>true) (show s.heap.IsTuple a î.toArray from pl) (show s.heap.IsTuple b ϖ.toArray from pl2) (by omega) fun j j1 j2=>SamVs.eqAt I hs rv rv2 (A:=A.in1) (by have:A.in1.units=A.units+1:=rfl;omega) j j1 j2;rw[Mu,hz,beq_self_eq_true,bg]at this;exact SeqAt.EqAt.of_refs bQ this
theorem SamVs.eqAt(I:Inv X Á σ H s):∀{n:Nat}{xs ys:List V}{us vs:List Ã}{A:Ă},SamVs X.K H n xs ys->Vals xs us->Vals ys vs->A.units+n<Ğ->∀(j:Nat) (j1:j<us.toArray.size) (j2:j<vs.toArray.size),SeqAt.EqAt A s us.toArray[j] vs.toArray[j] true
 |_,_,_,_,_,_,.nil,.nil,_,_,j,j1,_=>by simp at j1
 |_,_,_,_,_,_,.cons h t,.cons r rs,.cons q qs,hu,0,_,_=>by simpa using SamV.eqAt I h r q hu
 |_,_,_,_,_,_,.cons h t,.cons r rs,.cons q qs,hu,j+1,j1,j2=>by have:=SamVs.eqAt I t rs qs hu j (by simpa using j1) (by simpa using j2);simpa using this
end
end
section
variable {X:Cx}
noncomputable def Il(K:Frag):R2:=fun x y H Q=>∃a b xs ys,x=.ref a/\y=.ref b/\SqL K H a xs/\SqL K H b ys/\SamVs K H 8 xs ys/\Q (.bl false) H
theorem HP(hu:X.A.units+64<Ğ):OpR X (è .NotEq)<|Il X.K:=by
 intro Á s σ H x y v u Q I rx ry h;obtain⟨a,b,xs,ys,rfl,rfl,ha,hb,hs,q⟩:=h;cases rx;cases ry;obtain⟨î,rv,pl,_⟩:=I.list ha;obtain⟨ϖ,rv2,pl2,_⟩:=I.list hb;have hz:î.toArray.size=ϖ.toArray.size:=by rw[É,É,<-rv.length,<-rv2.length,hs.length]
 have:=SeqAt.RcNeAt.lists (A:=X.A) (e:=fun _=>true) pl.isList pl2.isList hz (by omega) fun j j1 j2=>hs.eqAt I rv rv2 (A:=X.A.in1) (by have:X.A.in1.units=X.A.units+1:=rfl;omega) j j1 j2;rw[Mu]at this;exact this X.prog X.w X.xe _ ⟨.bl false,H,I,rfl,q⟩
end
def ZSt(z TI TO i1 i2 a b:È)(i:Nat)(h:ā):Prop:=IsZip h z TI TO .none/\IsPair h TI (.ref i1) (.ref i2)/\(∃u v,IsPair h TO u v)/\h.IsListIter i1 a i/\h.IsListIter i2 b i
variable {z:È} {i1:È} {i2:È} {a:È} {b:È} {i:Nat} {h:ā}
theorem ZSt.keep{TI TO:È}{h':ā}(st:ZSt z TI TO i1 i2 a b i h)(k:∀c∈[z,TI,TO,i1,i2],∀o,h.get? c=some o->h'.get? c=some o):ZSt z TI TO i1 i2 a b i h':=by obtain⟨h1,h2,⟨u,v,h3⟩,h4,h5⟩:=st;exact⟨k z (by simp) _ h1,k TI (by simp) _ h2,⟨u,v,k TO (by simp) _ h3⟩,h4.at fun o q=>k i1 (by simp) o q,h5.at fun o q=>k i2 (by simp) o q⟩
theorem ZSt.obj{TI TO:È}(st:ZSt z TI TO i1 i2 a b i h):∀c∈[z,TI,TO,i1,i2],∃o,h.get? c=some o/\(∀v,o.data≠.cell v)/\o.cls≠.type "list":=by
 obtain⟨h1,h2,⟨u,v,h3⟩,⟨o4,e4,c4,d4⟩,⟨o5,e5,c5,d5⟩⟩:=st;intro c hc;simp only[Ç,Ý,or_false]at hc;rcases hc with rfl|rfl|rfl|rfl|rfl
 .exact⟨_,h1,(fun v z=>(by cases z)),(show Value.type "zip"≠.type "list" by decide)⟩
 .exact⟨_,h2,(fun v z=>(by cases z)),(show Value.type "tuple"≠.type "list" by decide)⟩
 .exact⟨_,h3,(fun v z=>(by cases z)),(show Value.type "tuple"≠.type "list" by decide)⟩
 .exact⟨_,e4,(fun v z=>(by rw[d4]at z;cases z)),(by rw[c4];decide)⟩
 .exact⟨_,e5,(fun v z=>(by rw[d5]at z;cases z)),(by rw[c5];decide)⟩
section
variable {X:Cx}
theorem Mq:CallR X (.type "str") fun xs H Q=>∃z,xs=[.str z]/\Q (.str z) H:=by intro Á s σ H xs us Q I r h;obtain⟨z,rfl,q⟩:=h;obtain⟨u,rfl,t,rfl⟩:=ZK r;exact PySem.P.str_of_str ⟨.str _,H,I,⟨_,rfl⟩,q⟩
noncomputable def P8(te:TE):TE:=fun σ H Q=>te σ H fun x H1=>(∃i,x=.int i/\i.natAbs.log2<1920/\Q (.str<|toString i) H1)\/∃z,x=.str z/\z.length<=Ø/\Q (.str z) H1
theorem FE{e:Expr}{te:TE}{pos:Pos}(he:PE X e te):PE X (.FormattedValue e (-1) none pos)<|P8 te:=by
 intro Á s σ H Q I h;refine wpAny_FormattedValue_plain<|thn (he Á s σ H _ I h) fun v s1 ⟨x,H1,I1,r1,q1⟩=>?_;rcases q1 with⟨i,e1,hd,q1⟩|⟨z,e1,hz,q1⟩
 .subst e1;obtain⟨t,rfl⟩:=r1;exact wpAny_formatField_int hd ⟨.str _,H1,I1.tok _,⟨_,rfl⟩,q1⟩
 .subst e1;obtain⟨t,rfl⟩:=r1;exact wpAny_formatField_str ⟨.str _,H1,I1,⟨_,rfl⟩,q1⟩ ⟨.str _,H1,I1.tok _,⟨_,rfl⟩,q1⟩ hz
noncomputable def Fm(K:Frag)(neg:Bool):R2:=fun x y H Q=>∃ds d,(IsD K H y (.tuple ds)\/IsD K H y (.list ds))/\IsD K H x d/\Œ ds=true/\d.canLay0=true/\d.depth<=64/\Q (.bl<|if neg then !ds.any (fun e=>Ī e d)else ds.any fun e=>Ī e d) H
theorem Lb(hu:X.A.units+65<Ğ):OpR X (è .In)<|Fm X.K false:=by
 intro Á s σ H x y v u Q I rx ry h;obtain⟨ds,d,hd,he,sd,se,hdp,q⟩:=h;obtain⟨bs,rb⟩:=he.reads I rx;have hr:X.A.units+1+min (ļ ds) d.depth<Ğ:=by have:min (ļ ds) d.depth<=d.depth:=al _ _;omega
 rcases hd with hd|hd
 .obtain⟨as,ra⟩:=hd.reads I ry;exact SeqAt.in_tuple_reads ra rb sd se hr ⟨.bl _,H,I,rfl,q⟩
 .obtain⟨as,ra⟩:=hd.reads I ry;exact SeqAt.in_list_reads ra rb sd se hr ⟨.bl _,H,I,rfl,q⟩
theorem U7(hu:X.A.units+65<Ğ):OpR X (è .NotIn)<|Fm X.K true:=by
 intro Á s σ H x y v u Q I rx ry h;obtain⟨ds,d,hd,he,sd,se,hdp,q⟩:=h;obtain⟨bs,rb⟩:=he.reads I rx;have hr:X.A.units+1+min (ļ ds) d.depth<Ğ:=by have:min (ļ ds) d.depth<=d.depth:=al _ _;omega
 rcases hd with hd|hd
 .obtain⟨as,ra⟩:=hd.reads I ry;exact SeqAt.notIn_tuple_reads ra rb sd se hr ⟨.bl _,H,I,rfl,q⟩
 .obtain⟨as,ra⟩:=hd.reads I ry;exact SeqAt.notIn_list_reads ra rb sd se hr ⟨.bl _,H,I,rfl,q⟩
end
def ZSy(z TI TO i1 i2 a b:È)(i:Nat)(h:ā):Prop:=IsZip h z TI TO .none/\IsPair h TI (.ref i1) (.ref i2)/\(∃u v,IsPair h TO u v)/\h.IsTupleIter i1 a i/\h.IsTupleIter i2 b i
variable {z:È} {i1:È} {i2:È} {a:È} {b:È} {i:Nat} {h:ā}
theorem ZSy.keep{TI TO:È}{h':ā}(st:ZSy z TI TO i1 i2 a b i h)(k:∀c∈[z,TI,TO,i1,i2],∀o,h.get? c=some o->h'.get? c=some o):ZSy z TI TO i1 i2 a b i h':=by obtain⟨h1,h2,⟨u,v,h3⟩,h4,h5⟩:=st;exact⟨k z (by simp) _ h1,k TI (by simp) _ h2,⟨u,v,k TO (by simp) _ h3⟩,h4.at fun o q=>k i1 (by simp) o q,h5.at fun o q=>k i2 (by simp) o q⟩
theorem ZSy.obj{TI TO:È}(st:ZSy z TI TO i1 i2 a b i h):∀c∈[z,TI,TO,i1,i2],∃o,h.get? c=some o/\∀v,o.data≠.cell v:=by
 obtain⟨h1,h2,⟨u,v,h3⟩,⟨o4,e4,c4,d4⟩,⟨o5,e5,c5,d5⟩⟩:=st;intro c hc;simp only[Ç,Ý,or_false]at hc;rcases hc with rfl|rfl|rfl|rfl|rfl
 .exact⟨_,h1,fun v z=>by cases z⟩
 .exact⟨_,h2,fun v z=>by cases z⟩
 .exact⟨_,h3,fun v z=>by cases z⟩
 .exact⟨_,e4,fun v z=>by rw[d4]at z;cases z⟩
 .exact⟨_,e5,fun v z=>by rw[d5]at z;cases z⟩
section
variable {κ:Type} [DecidableEq κ]
noncomputable def Xh(kvs:List<|κ×V)(k:κ):Option V:=(kvs.find? fun kv=>decide (kv.1=k)).map (·.2)
noncomputable def putK(kvs:List<|κ×V)(k:κ)(v:V):List (κ×V) :=
 if(kvs.any fun kv=>decide (kv.1=k))=true then kvs.map (fun kv=>if kv.1=k then(kv.1,v)else kv)else kvs++[(k,v)]
noncomputable def dropK(kvs:List<|κ×V)(k:κ):List<|κ×V:=kvs.filter fun kv=>decide (kv.1≠k)
variable {p:κ×V} {r:List (κ×V)}
theorem YJ{k:κ}(e:p.1=k):Xh (p::r) k=some p.2:=by simp[Xh,ć,e]
theorem YL{k:κ}(e:¬ p.1=k):Xh (p::r) k=Xh r k:=by simp[Xh,ć,e]
theorem YQ(k:κ):∀kvs:List<|κ×V,(kvs.any fun kv=>decide (kv.1=k))=(Xh kvs k).isSome
 |[]=>rfl
 |p::r=>by
  rw[Ġ];by_cases e:p.1=k
  .simp only[YJ e,decide_eq_true e,Bool.true_or,Option.isSome_some]
  .rw[YL e,decide_eq_false e,Bool.false_or];exact YQ k r
theorem YS(kvs:List<|κ×V)(k:κ)(v:V):(putK kvs k v).length<=kvs.length+1:=by
 unfold putK;split
 .rw[Â];omega
 .rw[ë,Ì,Ħ];omega
variable {o:Option V} {u:Option Ã}
theorem RelO.isSome_eq(r:RelO o u):o.isSome=u.isSome:=by
 cases o with
 |none=>cases u with
  |none=>rfl
  |some _=>exact(show False from r).elim
 |some _=>cases u with
  |none=>exact(show False from r).elim
  |some _=>rfl
theorem RelO.getD{d:V}{d':Ã}(r:RelO o u)(rd:RelV d d'):RelV (o.getD d)<|u.getD d':=by
 cases o with
 |none=>cases u with
  |none=>exact rd
  |some _=>exact(show False from r).elim
 |some _=>cases u with
  |none=>exact(show False from r).elim
  |some _=>exact r
variable {kvs:List (κ×V)} {vs:List (κ×Ã)}
theorem KV.val(r:KV kvs vs)(k:κ):RelO (Xh kvs k)<|aJ vs k:=by
 unfold KV at r;induction r with
 |nil=>exact True.intro
 |@cons p q ps qs h t ih =>
  obtain⟨h1,h2⟩:=h;by_cases e:p.1=k
  .have e':q.1=k:=h1.symm.trans e;have b:aJ (q::qs) k=some q.2:=by simp[aJ,ć,e']
   rw[YJ e,b];exact h2
  .have e':¬ q.1=k:=fun z=>e<|h1.trans z;have b:aJ (q::qs) k=aJ qs k:=by simp[aJ,ć,e']
   rw[YL e,b];exact ih
theorem KV.any(r:KV kvs vs)(k:κ):(kvs.any fun kv=>decide (kv.1=k))=vs.any fun kv=>decide (kv.1=k):=by
 unfold KV at r;induction r with
 |nil=>rfl
 |cons h t ih=>rw[Ġ,Ġ,ih,h.1]
variable {y:V}
theorem KV.repl(r:KV kvs vs)(k:κ){u:Ã}(ry:RelV y u) :
  KV (kvs.map fun kv=>if kv.1=k then(kv.1,y)else kv) (vs.map fun kv=>if kv.1=k then(kv.1,u)else kv):=by
 unfold KV at r ⊢;induction r with
 |nil=>exact .nil
 |@cons p q ps qs h t ih =>
  rw[Ð,Ð];refine .cons ?_ ih;obtain⟨h1,h2⟩:=h;by_cases e:p.1=k
  .rw[if_pos e,if_pos<|h1.symm.trans e];exact⟨h1,ry⟩
  .rw[if_neg e,if_neg fun z=>e<|h1.trans z];exact⟨h1,h2⟩
theorem KV.put(r:KV kvs vs)(k:κ){u:Ã}(ry:RelV y u):KV (putK kvs k y)<|stored vs k u:=by
 unfold putK stored;rw[r.any k];by_cases e:(vs.any fun kv=>decide (kv.1=k))=true
 .rw[if_pos e,if_pos e];exact r.repl k ry
 .rw[if_neg e,if_neg e];exact Paired.snoc r ⟨rfl,ry⟩
theorem KV.drop(r:KV kvs vs)(k:κ):KV (dropK kvs k)<|without vs k:=by
 unfold KV at r ⊢;unfold dropK without;induction r with
 |nil=>exact .nil
 |@cons p q ps qs h t ih =>
  obtain⟨h1,h2⟩:=h;rw[Ş,Ş];by_cases e:p.1=k
  .have a:¬ decide (p.1≠k)=true:=by simp[e]
   have b:¬ decide (q.1≠k)=true:=by simp[h1.symm.trans e]
   rw[if_neg a,if_neg b];exact ih
  .have e':¬ q.1=k:=fun z=>e<|h1.trans z;have a:decide (p.1≠k)=true:=by simp[e]
   have b:decide (q.1≠k)=true:=by simp[e']
   rw[if_pos a,if_pos b];exact .cons ⟨h1,h2⟩ ih
theorem KV.keys(r:KV kvs vs):kvs.map (·.1)=vs.map (·.1):=by
 unfold KV at r;induction r with
 |nil=>rfl
 |cons h t ih=>rw[Ð,Ð,ih,h.1]
theorem KV.length(r:KV kvs vs):kvs.length=vs.length:=Paired.length r
end
variable {P:à} {w:õ} {u:Ã}
theorem WV{k:Key}(r:RelV (kV k) u):(Ze P w).is k u=true:=by
 cases k with
 |inl i=>obtain⟨t,e⟩:=(show ∃t,u=Value.int i t from r);subst e;exact NG P w i t
 |inr x=>obtain⟨t,e⟩:=(show ∃t,u=Value.str x t from r);subst e;exact ML P w x t
theorem KG{P:à}{w:õ}:∀{ks:List Key}{us:List Ã},Vals (ks.map kV) us->ItemsAre (Ze P w) ks us
 |[],_,r=>by rw[Χ]at r;cases r;exact .nil
 |k::ks,_,r=>by
  rw[Ð]at r;cases r with
  |cons h t=>exact .cons (WV h)<|KG t
abbrev KTd(H:Hp):List (List Key×V)->List (List Key×È×Ã)->Prop:=Paired fun p q=>p.1=q.1/\H q.2.1=some (.tup<|p.1.map kV)/\RelV p.2 q.2.2
variable {H:Hp} {kvs:List (List Key×V)} {xs:List (List Key×È×Ã)}
theorem KTd.val(r:KTd H kvs xs)(k:List Key):RelO (Xh kvs k) ((b9 xs k).map (·.2)):=by
 induction r with
 |nil=>exact True.intro
 |@cons p q ps qs h t ih =>
  obtain⟨h1,_,h2⟩:=h;by_cases e:p.1=k
  .have e':q.1=k:=h1.symm.trans e;have b:b9 (q::qs) k=some q.2:=by simp[b9,ć,e']
   rw[YJ e,b];exact h2
  .have e':¬ q.1=k:=fun z=>e<|h1.trans z;have b:b9 (q::qs) k=b9 qs k:=by simp[b9,ć,e']
   rw[YL e,b];exact ih
variable {y:V}
theorem KTd.repl(r:KTd H kvs xs)(k:List Key)(ry:RelV y u) :
  KTd H (kvs.map fun kv=>if kv.1=k then(kv.1,y)else kv) (xs.map<|putAt k u):=by
 induction r with
 |nil=>exact .nil
 |@cons p q ps qs h t ih =>
  rw[Ð,Ð];refine .cons ?_ ih;obtain⟨h1,h2,h3⟩:=h;unfold putAt;by_cases e:p.1=k
  .rw[if_pos e,if_pos<|h1.symm.trans e];exact⟨h1,h2,ry⟩
  .rw[if_neg e,if_neg fun z=>e<|h1.trans z];exact⟨h1,h2,h3⟩
variable {b:È}
theorem KTd.put(r:KTd H kvs xs)(k:List Key)(hb:H b=some (.tup<|k.map kV))(ry:RelV y u) :
  KTd H (putK kvs k y) (storedH xs k b u):=by
 have e:(kvs.any fun kv=>decide (kv.1=k))=(b9 xs k).isSome:=by rw[YQ,(r.val k).isSome_eq,ũ]
 unfold putK storedH;rw[e];by_cases q:(b9 xs k).isSome=true
 .rw[if_pos q,if_pos q];exact r.repl k ry
 .rw[if_neg q,if_neg q];exact Paired.snoc r ⟨rfl,hb,ry⟩
variable {H':Hp}
theorem KTd.keeps(r:KTd H kvs xs)(ht:∀b ys,H b=some (.tup ys)->H' b=some (.tup ys)):KTd H' kvs xs :=
 Paired.mapP r fun _ _ z=>⟨z.1,ht _ _ z.2.1,z.2.2⟩
section
variable {P:à}{w:õ}{H:Hp}{h:ā}{a:È}
theorem F5{u:HO}(ok:HOk P w H h)(e:Rd H a u):ObjOk P w H h a u:=e.ok ok
theorem XR{kvs:List (Key×V)}(ok:HOk P w H h)(e:Rd H a<|.dK kvs):kvs.length<=Ø/\(a==ŋ)=false/\∃vs,KV kvs vs/\h.DictOf (Ze P w) a vs :=
 show ObjOk P w H h a (.dK kvs) from F5 ok e
theorem Kt{kvs:List (Key×V)}(ok:HOk P w H h)(e:H a=some (.dK kvs)):kvs.length<=Ø/\(a==ŋ)=false/\∃vs,KV kvs vs/\h.DictOf (Ze P w) a vs:=XR ok (.inl e)
theorem key_of{ks:List Key}(ok:HOk P w H h)(e:H a=some (.tup<|ks.map kV)):(ϱ<|Ze P w).is h ks a:=by
 obtain⟨_,î,r,o,h1,h2,n,h3⟩:=(show ObjOk P w H h a (.tup<|ks.map kV) from ok a _ e)
 exact⟨o,î.toArray,n,h1,h2,h3,by simpa using KG r⟩
theorem Jw(ok:HOk P w H h)(e:Rd H a<|.dT kvs):kvs.length<=Ø/\(a==ŋ)=false/\
  ∃xs,KTd H kvs xs/\h.DictOfH (ϱ<|Ze P w) a xs:=by
 obtain⟨z,y,xs,r,o,es,ep,h1,h2,h3,h4,h5⟩:=(show ObjOk P w H h a (.dT kvs) from F5 ok e)
 refine⟨z,y,xs,r,o,es,ep,h1,h2,h3,h4,fun x hx=>?_,h5⟩;have all:∀{l:List (List Key×V)}{m:List (List Key×È×Ã)},KTd H l m->∀x∈m,(ϱ<|Ze P w).is h x.1 x.2.1:=by
  intro l m q;induction q with
  |nil=>intro x hx;exact nomatch hx
  |@cons p q ps qs hq t ih =>
   intro x hx;rcases Ç.mp hx with e|hx
   .subst e;exact key_of ok (by rw[<-hq.1];exact hq.2.1)
   .exact ih x hx
 exact all r x hx
theorem LS(ok:HOk P w H h)(e:H a=some (.dT kvs)):kvs.length<=Ø/\(a==ŋ)=false/\
  ∃xs,KTd H kvs xs/\h.DictOfH (ϱ<|Ze P w) a xs:=Jw ok<|.inl e
end
def DGet(H:Hp)(a:È)(y:V)(r:Option V):Prop :=
 (∃kvs k,Rd H a (.dK kvs)/\y=kV k/\r=Xh kvs k)\/∃kvs k b,Rd H a (.dT kvs)/\y=.ref b/\H b=some (.tup<|k.map kV)/\r=Xh kvs k
def DPut(H:Hp)(a:È)(y v:V)(H':Hp):Prop :=
 (∃kvs k,H a=some (.dK kvs)/\y=kV k/\kvs.length<Ø/\H'=upd H a (.dK<|putK kvs k v))\/
 ∃kvs k b,H a=some (.dT kvs)/\y=.ref b/\H b=some (.tup<|k.map kV)/\kvs.length<Ø/\H'=upd H a (.dT<|putK kvs k v)
theorem DGet.k{H:Hp}{a:È}{kvs:List (Key×V)}{k:Key}(e:H a=some (.dK kvs)):DGet H a (kV k)<|Xh kvs k:=.inl ⟨kvs,k,.inl e,rfl,rfl⟩
variable {a:È}
theorem DGet.t{k:List Key}(e:H a=some (.dT kvs))(eb:H b=some (.tup<|k.map kV)):DGet H a (.ref b)<|Xh kvs k:=.inr ⟨kvs,k,b,.inl e,rfl,eb,rfl⟩
theorem DPut.k{H:Hp}{a:È}{kvs:List (Key×V)}{k:Key}{v:V}(e:H a=some (.dK kvs))(hl:kvs.length<Ø):DPut H a (kV k) v<|upd H a<|.dK<|putK kvs k v:=.inl ⟨kvs,k,e,rfl,hl,rfl⟩
theorem DPut.t{k:List Key}{v:V}(e:H a=some (.dT kvs))(eb:H b=some (.tup<|k.map kV))(hl:kvs.length<Ø) :
  DPut H a (.ref b) v (upd H a<|.dT<|putK kvs k v):=.inr ⟨kvs,k,b,e,rfl,eb,hl,rfl⟩
section
variable {X:Cx}{Á:List (È×Obj)}{σ:St}{H:Hp}{s:Å}{a:È}{y v:V}{u r:Ã}{o:Option V}{A:Ă}{E:Ã->Å->Prop}
theorem Inv.big(I:Inv X Á σ H s):ŋ<s.heap.objs.size:=by have h:Ĉ<s.heap.objs.size:=(I.mod.glob.keeps I.bk).lt;exact š (by decide) h
variable {Q:Ã->Å->Prop}
theorem U8(hu:A.units+1<Ğ)(I:Inv X Á σ H s)(g:DGet H a y<|some v)(ry:RelV y u)(h:∀w' s',Inv X Á σ H s'->RelV v w'->Q w' s') :
  wpAny (Û X.prog X.w) A (Ϝ (.ref a) u) Q E s:=by
 rcases g with⟨kvs,k,e,ey,l⟩|⟨kvs,k,b,e,ey,eb,l⟩
 .subst ey;obtain⟨z,hd,vs,ŵ,dd⟩:=XR I.hok e;obtain⟨w',hw,cY⟩:=RelO.some_of (v:=v) (o:=aJ vs k) (by rw[l];exact ŵ.val k);exact wpAny_getItem_of (WV ry) dd.mapOf hw<|h w' _ (I.tok _) cY
 .subst ey;cases (show u=Value.ref b from ry);obtain⟨z,hd,xs,ŵ,dd⟩:=Jw I.hok e;obtain⟨w',hw,cY⟩:=RelO.some_of (v:=v) (o:=(b9 xs k).map (·.2)) (by rw[l];exact ŵ.val k);obtain⟨p,hp,cB⟩:=Ú.mp hw;refine wpAny_getItem_heap (Ű hu) (key_of I.hok eb) dd hp ?_;rw[cB];exact h w' _ (I.tok _) cY
theorem RI(hu:A.units+1<Ğ)(I:Inv X Á σ H s)(g:DGet H a y o)(ry:RelV y u)(h:∀s',Inv X Á σ H s'->Q (.bool o.isSome) s') :
  wpAny (Û X.prog X.w) A (è .In u<|.ref a) Q E s:=by
 rcases g with⟨kvs,k,e,ey,l⟩|⟨kvs,k,b,e,ey,eb,l⟩
 .subst ey;obtain⟨z,hd,vs,ŵ,dd⟩:=XR I.hok e;refine wpAny_in_of (WV ry) hd dd.mapOf ?_;rw[<-(ŵ.val k).isSome_eq,<-l];exact h _<|I.tok _
 .subst ey;cases (show u=Value.ref b from ry);obtain⟨z,hd,xs,ŵ,dd⟩:=Jw I.hok e;refine wpAny_in_heap (Ű hu) (key_of I.hok eb) hd dd ?_;have q:=(ŵ.val k).isSome_eq;rw[ũ]at q;rw[<-q,<-l];exact h _<|I.tok _
theorem Ek(hu:A.units+1<Ğ)(I:Inv X Á σ H s)(g:DGet H a y o)(ry:RelV y u)(h:∀s',Inv X Á σ H s'->Q (.bool (!o.isSome)) s') :
  wpAny (Û X.prog X.w) A (è .NotIn u<|.ref a) Q E s:=by
 rcases g with⟨kvs,k,e,ey,l⟩|⟨kvs,k,b,e,ey,eb,l⟩
 .subst ey;obtain⟨z,hd,vs,ŵ,dd⟩:=XR I.hok e;refine wpAny_notIn_of (WV ry) hd dd.mapOf ?_;rw[<-(ŵ.val k).isSome_eq,<-l];exact h _<|I.tok _
 .subst ey;cases (show u=Value.ref b from ry);obtain⟨z,hd,xs,ŵ,dd⟩:=Jw I.hok e;refine wpAny_notIn_heap (Ű hu) (key_of I.hok eb) hd dd ?_;have q:=(ŵ.val k).isSome_eq;rw[ũ]at q;rw[<-q,<-l];exact h _<|I.tok _
variable {h':ā}
theorem K4{t':Nat}{ob:HO}(I:Inv X Á σ H s)(mu:Mut<|H a)(hs:Ŏ a s.heap h')(he:∃q,h'.get? a=some q)(new:ObjOk X.prog X.w (upd H a ob) h' a ob) :
  Inv X Á σ (upd H a ob) {s with heap:=h',toks:=t'} :=
 I.write (x:=a) (e:=a) mu (.inl rfl) (fun b q hb z=>(hs.2 b hb).trans z) he new
theorem AZ{kvs:List (Key×V)}{vs:List (Key×Ã)}(z:kvs.length<=Ø)(hd:(a==ŋ)=false)(ŵ:KV kvs vs)(dd:h'.DictOf (Ze P w) a vs) :
  ObjOk P w H' h' a (.dK kvs):=⟨z,hd,vs,ŵ,dd⟩
theorem Av{Q:Unit->Å->Prop}(hu:A.units+1<Ğ)(I:Inv X Á σ H s)(g:DPut H a y v H')(ry:RelV y u)(rv:RelV v r)(h:∀s',Inv X Á σ H' s'->Q () s') :
  wpAny (Û X.prog X.w) A (setItem (.ref a) u r) Q E s:=by
 rcases g with⟨kvs,k,e,ey,l,eH⟩|⟨kvs,k,b,e,ey,eb,l,eH⟩
 .subst ey eH;obtain⟨z,hd,vs,ŵ,dd⟩:=Kt I.hok e;have hz:vs.length<=Ø:=by rw[<-ŵ.length];exact z
  have hl:(putK kvs k v).length<=Ø:=by have:=YS kvs k v;omega
  refine wpAny_setItem_pairs (hsz:=hz) (WV ry) dd fun h' dd' hs=>h _ ?_;have he:∃q,h'.get? a=some q:=let ⟨q,_,_,hq,_⟩:=dd';⟨q,hq⟩;exact K4 I (by rw[e];exact True.intro) hs he<|AZ hl hd (ŵ.put k rv) dd'
 .subst ey eH;cases (show u=Value.ref b from ry);obtain⟨z,hd,xs,ŵ,dd⟩:=LS I.hok e;have hz:xs.length<=Ø:=by rw[<-Paired.length ŵ];exact z
  have hl:(putK kvs k v).length<=Ø:=by have:=YS kvs k v;omega
  refine wpAny_setItem_heap (hsz:=hz) (Ű hu) (key_of I.hok eb) dd fun h' dd' hs=>h _ ?_;obtain⟨q,es,ep,hq,h2,h3,h4,_,h5⟩:=dd';refine K4 I (by rw[e];exact True.intro) hs ⟨q,hq⟩ ⟨hl,hd,_,(ŵ.put k eb rv).keeps fun c ys ec=>?_,q,es,ep,hq,h2,h3,h4,h5⟩;rw[upd_ne<|CO ec e fun z=>nomatch z];exact ec
end
section
variable {X:Cx}{Á:List (È×Obj)}{σ:St}{H:Hp}{s:Å}{a:È}{kvs:List (Key×V)}{k:Key}{u:Ã}{A:Ă}{E:Ã->Å->Prop}
theorem LM{Q:Ã->Å->Prop}(I:Inv X Á σ H s)(e:Rd H a<|.dK kvs)(h:∀t s',Inv X Á σ H s'->Q (.int kvs.length t) s'):wpAny (Û X.prog X.w) A (call (.builtin "len") [.ref a]) Q E s:=by obtain⟨z,hd,vs,ŵ,dd⟩:=XR I.hok e;refine call_len_dict hd dd (by rw[<-ŵ.length];rw[Ϫ]at z;omega) ?_;rw[<-ŵ.length];exact h _ _ (I.tok _)
end
variable {X:Cx} {Á:List (È×Obj)} {σ:St} {s:Å}
theorem NI{o:Option V}(I:Inv X Á σ H s)(g:DGet H a y o):s.TypeIs (.ref a) "dict":=by
 rcases g with⟨kvs,k,e,_,_⟩|⟨kvs,k,b,e,_,_,_⟩
 .obtain⟨_,_,vs,_,dd⟩:=XR I.hok e;exact dd.typeIs
 .obtain⟨_,_,xs,_,dd⟩:=Jw I.hok e;exact dd.typeIs
theorem MJ(h:ā)(hb:ŋ<h.objs.size):ObjOk P w H (h.push {cls:=.type "dict",data:=.dict #[]}) h.objs.size (.dK []) :=
 ⟨Ĳ _,beq_eq_false_iff_ne.mpr<|Ne.symm<|Þ hb,[],.nil,Heap.DictOf.new h⟩
theorem Cv(h:ā)(hb:ŋ<h.objs.size):ObjOk P w H (h.push {cls:=.type "dict",data:=.dict #[]}) h.objs.size (.dT []) :=
 ⟨Ĳ _,beq_eq_false_iff_ne.mpr<|Ne.symm<|Þ hb,[],.nil,_,#[],0,Ï _ rfl,⟨rfl,rfl,rfl⟩,rfl,rfl,Ŋ⟩
noncomputable def Lk:TE:=fun _ H Q=>∀p,H p=none->Q (.ref p) (upd H p<|.dK [])
noncomputable def GL:TE:=fun _ H Q=>∀p,H p=none->Q (.ref p) (upd H p<|.dT [])
section
variable {X:Cx}{pos:Pos}
theorem pe_dnewK:PE X (.Dict [] [] pos) Lk:=fun Á s σ H Q I h =>
 wpAny_Dict_empty ⟨.ref s.heap.objs.size,_,I.laid (a:=s.heap.objs.size) (o:=.dK []) (t':=s.toks) (fun _ _ q=>Ä _ q) (Î _)<|MJ s.heap I.big,rfl,h _<|I.hok.fresh<|Î _⟩
theorem pe_dnewT:PE X (.Dict [] [] pos) GL:=fun Á s σ H Q I h =>
 wpAny_Dict_empty ⟨.ref s.heap.objs.size,_,I.laid (a:=s.heap.objs.size) (o:=.dT []) (t':=s.toks) (fun _ _ q=>Ä _ q) (Î _)<|Cv s.heap I.big,rfl,h _<|I.hok.fresh<|Î _⟩
end
def KO:List (TE×TE)->St->Hp->(List (V×V)->Hp->Prop)->Prop
 |[],_,H,Q=>Q [] H
 |(tk,tv)::r,σ,H,Q=>tk σ H fun x H1=>tv σ H1 fun y H2=>KO r σ H2 fun ps H3=>Q ((x,y)::ps) H3
abbrev VV:List (V×V)->List (Ã×Ã)->Prop:=Paired fun p q=>RelV p.1 q.1/\RelV p.2 q.2
def PPs(X:Cx)(pos:Pos)(keys:List<|Option Expr)(Μ:List Expr)(trs:List<|TE×TE):Prop :=
 ∀(Á:List<|È×Obj) (s:Å) (σ:St) (H:Hp) (Q:List (V×V)->Hp->Prop),Inv X Á σ H s->KO trs σ H Q->
  wpAny (Û X.prog X.w) X.A (evalPairs<|pairTrees keys Μ X.env pos) (fun vs s'=>∃ps H',Inv X Á σ H' s'/\VV ps vs/\Q ps H') X.xe s
variable {pos:Pos}
theorem DS:PPs X pos [] [] []:=fun Á s σ H Q I h=>pairTrees_nil_walk ⟨[],H,I,.nil,h⟩
variable {trs:List (TE×TE)}
theorem B4{k v:Expr}{ks:List (Option Expr)}{vs:List Expr}{tk tv:TE}(hk:PE X k tk)(hv:PE X v tv)(hr:PPs X pos ks vs trs) :
  PPs X pos (some k::ks) (v::vs) ((tk,tv)::trs):=fun Á s σ H Q I h =>
 pairTrees_cons_walk (thn (hk Á s σ H _ I h) fun u s1 ⟨x,H1,I1,rx,q1⟩=>thn (hv Á s1 σ H1 _ I1 q1) fun w2 s2 ⟨y,H2,I2,ry,q2⟩ =>
   thn (hr Á s2 σ H2 _ I2 q2) fun ws s3 ⟨ps,H3,I3,ŵ,q3⟩=>⟨(x,y)::ps,H3,I3,.cons ⟨rx,ry⟩ ŵ,q3⟩)
noncomputable def YH(kvs Ϧ:List<|Key×V):List<|Key×V:=Ϧ.foldl (fun į kv=>putK į kv.1 kv.2) kvs
theorem KV.merge:∀{Ϧ:List (Key×V)}{rs:List (Key×Ã)}{kvs:List (Key×V)}{vs:List (Key×Ã)},KV Ϧ rs->KV kvs vs->KV (YH kvs Ϧ) (merged vs rs):=by
 intro Ϧ rs kvs vs r;unfold KV at r;induction r generalizing kvs vs with
 |nil=>intro q;exact q
 |@cons p q ps qs h t ih =>
  intro r0;have e:KV (putK kvs p.1 p.2)<|stored vs q.1 q.2:=by have:=r0.put p.1 h.2;rw[<-h.1];exact this
  exact ih e
theorem Xm:∀(Ϧ kvs:List<|Key×V),(YH kvs Ϧ).length<=kvs.length+Ϧ.length
 |[],kvs=>by show kvs.length<=kvs.length+0;omega
 |p::r,kvs=>by have h1:=Xm r<|putK kvs p.1 p.2;have h2:=YS kvs p.1 p.2;show(YH (putK kvs p.1 p.2) r).length<=_;rw[Ì];omega
theorem WY{P:à}{w:õ}:∀{kvs:List (Key×V)}{ws:List (Ã×Ã)},VV (kvs.map fun kv=>(kV kv.1,kv.2)) ws->∃rs,Carries (Ze P w) ws rs/\KV kvs rs
 |[],_,r=>by rw[Χ]at r;cases r;exact⟨[],True.intro,.nil⟩
 |p::kvs,_,r=>by
  rw[Ð]at r;cases r with
  |@cons a b as bs h t =>obtain⟨rs,c,q⟩:=WY (P:=P) (w:=w) t;obtain⟨b1,b2⟩:=b;exact⟨(p.1,b2)::rs,⟨WV h.1,rfl,c⟩,.cons ⟨rfl,h.2⟩ q⟩
noncomputable def Qs(trs:List<|TE×TE):TE:=fun σ H Q=>∀p,H p=none->KO trs σ (upd H p<|.dK []) fun ps H2=>H2 p=some (.dK [])/\∃kvs:List<|Key×V,ps=kvs.map (fun kv=>(kV kv.1,kv.2))/\kvs.length<=15/\Q (.ref p) (upd H2 p<|.dK<|YH [] kvs)
theorem E4{keys:List (Option Expr)}{Μ:List Expr}(h:PPs X pos keys Μ trs)(hall:keys.all (·.isSome)=true)(hl:keys.length=Μ.length)(h0:keys≠[])
  (h15:keys.length<=15):PE X (.Dict keys Μ pos)<|Qs trs:=by
 intro Á s σ H Q I q;have hn:=I.hok.fresh<|Î s.heap.objs.size;have I1:=I.laid (a:=s.heap.objs.size) (o:=.dK []) (h':=s.heap.push {cls:=.type "dict",data:=.dict #[]}) (t':=s.toks) (fun _ _ q=>Ä _ q) (Î _)<|MJ s.heap I.big;refine wpAny_Dict_walk (knd:=Ze X.prog X.w) hall hl h0 h15<|thn (h Á _ σ _ _ I1<|q _ hn) fun ws s2 ⟨ps,H2,I2,ŵ,e,kvs,ep,lk,q2⟩=>?_;subst ep;obtain⟨rs,c,rk⟩:=WY (P:=X.prog) (w:=X.w) ŵ;obtain⟨z,hd,vs0,r0,dd⟩:=Kt I2.hok e;cases r0;refine⟨rs,c,dd,fun h' dd' hs=>⟨.ref s.heap.objs.size,_,?_,rfl,q2⟩⟩;have hz:(YH [] kvs).length<=Ø:=by have h1:=Xm kvs [];rw[Ħ]at h1;rw[Ϫ];omega
 have he:∃q,h'.get? s.heap.objs.size=some q:=let ⟨q,_,_,hq,_⟩:=dd';⟨q,hq⟩;exact K4 I2 (by rw[e];exact True.intro) hs he<|AZ hz hd (rk.merge .nil) dd'
def Rf(H:Hp)(a:È):Prop:=(∃kvs,Rd H a<|.dK kvs)\/∃kvs,Rd H a (.dT kvs)
theorem IA(I:Inv X Á σ H s)(d:Rf H a) :
  s.TypeIs (.ref a) "dict"/\(∀b,Value.ref a=.ref b->∃ob,s.heap.get? b=some ob/\ob.dict=none)/\(a==ŋ)=false:=by
 rcases d with⟨kvs,e⟩|⟨kvs,e⟩
 .obtain⟨_,hd,vs,_,dd⟩:=XR I.hok e;refine⟨dd.typeIs,fun b q=>?_,hd⟩;cases q;obtain⟨ob,_,_,h1,h2,_⟩:=dd;exact⟨ob,h1,h2.2.1⟩
 .obtain⟨_,hd,xs,_,dd⟩:=Jw I.hok e;refine⟨dd.typeIs,fun b q=>?_,hd⟩;cases q;obtain⟨ob,_,_,h1,h2,_⟩:=dd;exact⟨ob,h1,h2.2.1⟩
section
variable {X:Cx}{Á:List (È×Obj)}{σ:St}{H:Hp}{s:Å}{a:È}{y d:V}{u r:Ã}{o:Option V}{A:Ă}{E:Ã->Å->Prop}
theorem IU{Q:Ã->Å->Prop}(hu:A.units+1<Ğ)(I:Inv X Á σ H s)(g:DGet H a y o)(ry:RelV y u)(h:∀w' s',Inv X Á σ H s'->RelV (o.getD .non) w'->Q w' s') :
  wpAny (Û X.prog X.w) A (call (.builtin "dict.get") [.ref a,u]) Q E s:=by
 rcases g with⟨kvs,k,e,ey,l⟩|⟨kvs,k,b,e,ey,eb,l⟩
 .subst ey;obtain⟨z,hd,vs,ŵ,dd⟩:=XR I.hok e;refine dM PySem.F.slot_dict_get dd.typeIs PySem.F.entry_dict_get (PySem.F.args_dict_get_2 _ _) (meets_dict_get (Ze X.prog X.w) a (WV ry) hd) ⟨_,dd.mapOf,h _ _ (I.tok _) ?_⟩;rw[l];exact(ŵ.val k).getD rfl
 .subst ey;cases (show u=Value.ref b from ry);obtain⟨z,hd,xs,ŵ,dd⟩:=Jw I.hok e;refine dM PySem.F.slot_dict_get dd.typeIs PySem.F.entry_dict_get (PySem.F.args_dict_get_2 _ _) (meetsH_dict_get (ϱ<|Ze X.prog X.w) a b hd) ⟨Ű hu,k,xs,key_of I.hok eb,dd,h _ _ (I.tok _) ?_⟩;rw[l];exact(ŵ.val k).getD rfl
end
section
variable {X:Cx}
theorem As:CallR X (.builtin "len") fun xs H Q=>∃a kvs,xs=[V.ref a]/\H a=some (.dK kvs)/\Q (.int kvs.length) H:=by intro Á s σ H xs us Q I r h;obtain⟨a,kvs,rfl,ha,q⟩:=h;obtain⟨u,rfl,ru⟩:=ZK r;cases ru;exact LM I (.inl ha) fun t s' I'=>⟨.int kvs.length,H,I',⟨t,rfl⟩,q⟩
end
end L2
namespace O
noncomputable abbrev Ad:=Nat
inductive Val where
 |non|bl (b:Bool)|int (i:Int)|str (s:String)|tup (xs:List Val)|ref (a:Ad)|scr (ns:List Int)|key (i j:Int)
 deriving Inhabited
mutual
noncomputable def Val.eqb:Val->Val->Bool
 |.non,.non=>true
 |.bl a,.bl b=>a==b
 |.int a,.int b=>a==b
 |.str a,.str b=>a==b
 |.tup a,.tup b=>Val.eqs a b
 |.ref a,.ref b=>a==b
 |.scr a,.scr b=>a==b
 |.key a b,.key c d=>a==c&&b==d
 |_,_=>false
noncomputable def Val.eqs:List Val->List Val->Bool
 |[],[]=>true
 |x::xs,y::ys=>Val.eqb x y&&Val.eqs xs ys
 |_,_=>false
end
mutual
theorem Val.eqb_iff:∀{a b:Val},Val.eqb a b=true↔a=b
 |.non,b=>by cases b<;>simp[Val.eqb]
 |.bl _,b=>by cases b<;>simp[Val.eqb]
 |.int _,b=>by cases b<;>simp[Val.eqb]
 |.str _,b=>by cases b<;>simp[Val.eqb]
 |.tup _,b=>by cases b<;>simp[Val.eqb,Val.eqs_iff]
 |.ref _,b=>by cases b<;>simp[Val.eqb]
 |.scr _,b=>by cases b<;>simp[Val.eqb]
 |.key _ _,b=>by cases b<;>simp[Val.eqb]
theorem Val.eqs_iff:∀{a b:List Val},Val.eqs a b=true↔a=b
 |[],b=>by cases b<;>simp[Val.eqs]
 |_::_,b=>by cases b<;>simp[Val.eqs,Val.eqb_iff,Val.eqs_iff]
end
noncomputable instance:DecidableEq Val:=fun a b=>if h:Val.eqb a b=true then isTrue (Val.eqb_iff.mp h)else isFalse fun e=>h<|Val.eqb_iff.mpr e
inductive Ob where
 |lst (xs:List Val)|dct (kvs:List<|Val×Val)|ins (C:String) (fs:List<|String×Val)|exc (C:String)|frz (kvs:List<|Val×Val)|dtp (kvs:List<|Val×Val)
 deriving Inhabited
noncomputable def FY(sep:List Char):List (List Char)->List Char
 |[]=>[]
 |[x]=>x
 |x::y::r=>x++(sep++FY sep (y::r))
noncomputable def Gr(sep:String)(xs:List String):String:=Ţ<|FY sep.toList<|xs.map String.toList
noncomputable def NZ(c:Char):List Char->List (List Char)
 |[]=>[[]]
 |x::xs=>if x=c then []::NZ c xs else match NZ c xs with
  |[]=>[[x]]
  |y::ys=>(x::y)::ys
noncomputable def Bj(c:Char)(s:String):List String:=(NZ c s.toList).map Ţ
noncomputable def figB(c:Char):Bool:=decide (48<=c.toNat)&&decide (c.toNat<=57)
noncomputable def decN(l:List Char):Nat:=l.foldl (fun a c=>10*a+(c.toNat - 48)) 0
noncomputable def BK:List Val->Option (List String)
 |[]=>some []
 |.str s::xs=>(BK xs).map (s :: ·)
 |_=>none
noncomputable def NO:Val->Option String
 |.str s=>some s
 |_=>none
noncomputable def oneC(s:String):Option Char:=match s.toList with
 |[c]=>some c
 |_=>none
noncomputable def Ub(i:Int):String:=toString i
noncomputable def fmtV:Val->Option String
 |.str s=>some s
 |.int i=>if i.natAbs<10 ^ 200 then some (Ub i)else none
 |_=>none
noncomputable abbrev Hs:=Ad->Option Ob
@[irreducible] noncomputable def upd(h:Hs)(a:Ad)(o:Ob):Hs:=fun b=>if b=a then some o else h b
variable {h:Hs} {a:Ad} {o:Ob}
theorem upd_same:upd h a o a=some o:=by simp[upd]
theorem upd_ne{b:Ad}(e:b≠a):upd h a o b=h b:=by simp[upd,e]
theorem upd_upd{u:Ob}:upd (upd h a o) a u=upd h a u:=by funext b;simp only[upd];split<;>rfl
noncomputable abbrev Env:=List<|Option Val
noncomputable abbrev Q1:=Val->Hs->Prop
noncomputable abbrev XQ:=String->Hs->Prop
noncomputable abbrev Fs:=String->List Val->Hs->Q1->XQ->Prop
noncomputable def lim:Nat:=1000000
variable {α:Type}
@[irreducible] noncomputable def go(o:Option α)(k:α->Prop):Prop:=match o with|some a=>k a|none=>False
@[simp] theorem go_some{a:α}{k:α->Prop}:go (some a) k=k a:=by unfold go;rfl
@[simp] theorem DL{k:α->Prop}:go none k=False:=by unfold go;rfl
theorem go_of{o:Option α}{a:α}{k:α->Prop}(e:o=some a)(h:k a):go o k:=by rw[e,go_some];exact h
set_option genInjectivity false
inductive Bop where|add|sub|mul|fdiv|mod|pow
inductive Cop where|eq|ne|lt|le|gt|ge|isin|notin|is|isnot|nes|eqE|neE|ntT|neX
inductive Bi where
 |len|int|str|bool|abs|min2|max2|minL|maxL|minD|sum|all|any|sorted|sortedI|sortedSet|lenSet|list|tuple|dict|isi (Ts:List String)|isx (Ts:List String)|isc (C:String)|repr|listRev|listRange|tupRange|dictEnum
inductive Bm where
 |append|extend|pop|popAt|insert|remove|clear|reverse|index|count|dget|dgetD|dpop|dpopD|setdefault|join|split|replace|upper|partition|sidx
inductive Pt where|one (i:Nat)|many (is:List Nat)|nest (i:Nat) (is:List Nat)
mutual
inductive E where
 |cst (v:Val)|var (i:Nat)|glob (x:String) (v:Val)
 |bin (op:Bop) (a b:E)|neg (a:E)|not (a:E)|and (a b:E)|or (a b:E)
 |cmp (op:Cop) (a b:E)|chain (o1 o2:Cop) (a b c:E)
 |call (f:String) (as:Es)|make (C:String) (as:Es)|meth (C m:String) (o:E) (as:Es)|fld (o:E) (f:String)
 |bi (f:Bi) (as:Es)|bm (m:Bm) (o:E) (as:Es)
 |idx (a i:E)|slc (a:E) (lo hi:Oe)|rev (a:E)
 |tup (es:Es)|lst (es:Es)|dct (es:Es)
 |ife (c:Tt) (a b:E)
 |comp (ö:List Nat) (n:Nat) (p:Pt) (it:It) (c:Tt) (e:E)
 |fstr (es:Es)
 |split (o a:E)
 |repl (o:E) (y z:String)
 |key (es:Es)|dctP
inductive Es where|nil|cons (e:E) (es:Es)
inductive Oe where|none|some (e:E)
inductive Tt where|yes|val (e:E)|not (t:Tt)|and (a b:Tt)|or (a b:Tt)
inductive It where
 |seq (e:E)|chars (e:E)|range (a:E)|range2 (a b:E)|enum (e:E)|zip (a b:E)|items (e:E)|rev (e:E)
end
mutual
inductive S where
 |set (p:Pt) (e:E)|setIdx (a i e:E)|setFld (o:E) (f:String) (e:E)
 |augVar (i:Nat) (op:Bop) (e:E)|augFld (o:E) (f:String) (op:Bop) (n:Int)|augIdx (a i:E) (op:Bop) (n:Int)
 |setPair (a i b j e:E)
 |expr (e:E)|ret (e:E)|retN|ite (c:Tt) (a b:Ss)|whl (c:Tt) (b:Ss)|for (p:Pt) (it:It) (b:Ss)|forI (k:Bool) (p:Pt) (e:E) (b:Ss)
 |never|brk|cnt|pass|raise (C:String) (as:Es)|try (t:Option Nat) (e:E) (hs:Hn)
inductive Ss where|nil|cons (s:S) (ss:Ss)
inductive Hn where|nil|cons (C:String) (n:Option Nat) (b:Ss) (r:Hn)
end
set_option genInjectivity true
noncomputable def ixN(n:Nat)(i:Int):Option Nat:=if 0<=i then(if i<n then some i.toNat else none)else if -(n:Int)<=i then some (i+n).toNat else none
noncomputable def atI(xs:List α)(i:Int):Option α:=(ixN xs.length i).bind fun j=>xs[j]?
noncomputable def cutAt(n d:Nat):Option Int->Nat
 |none=>d
 |some i=>if 0<=i then min i.toNat n else(i+n).toNat
noncomputable def cut(xs:List α)(lo hi:Option Int):List α:=(xs.drop<|cutAt xs.length 0 lo).take<|cutAt xs.length xs.length hi - cutAt xs.length 0 lo
noncomputable def lsOf:Option Ob->Option (List Val)
 |some (.lst xs)=>some xs
 |_=>none
@[simp] theorem YR{xs:List Val}:lsOf (some<|.lst xs)=some xs:=rfl
noncomputable def JC(h:Hs):Val->Option (List Val)
 |.ref a=>lsOf<|h a
 |.tup xs=>some xs
 |.scr ns=>some<|ns.map .int
 |_=>none
noncomputable def dcOf:Option Ob->Option (List<|Val×Val)
 |some (.dct kvs)=>some kvs
 |_=>none
noncomputable def lookK(kvs:List<|Val×Val)(k:Val):Option Val:=(kvs.find? fun p=>p.1==k).map (·.2)
noncomputable def hasK(kvs:List<|Val×Val)(k:Val):Bool:=kvs.any fun p=>p.1==k
noncomputable def putK(kvs:List<|Val×Val)(k v:Val):List<|Val×Val:=if hasK kvs k then kvs.map fun p=>if p.1==k then(k,v)else p else kvs++[(k,v)]
noncomputable def dropK(kvs:List<|Val×Val)(k:Val):List<|Val×Val:=kvs.filter fun p=>!(p.1==k)
noncomputable def isKey:Val->Bool
 |.int _=>true
 |.str _=>true
 |_=>false
inductive D where
 |non|bl (b:Bool)|int (i:Int)|str (s:String)|tup (ds:List D)|lst (ds:List D)
 deriving Inhabited
mutual
noncomputable def D.eqv:D->D->Bool
 |.non,.non=>true
 |.bl a,.bl b=>a==b
 |.bl a,.int i=>(if a then 1 else 0)==i
 |.int i,.bl a=>i==(if a then 1 else 0)
 |.int a,.int b=>a==b
 |.str a,.str b=>a==b
 |.tup a,.tup b=>D.eqvs a b
 |.lst a,.lst b=>D.eqvs a b
 |_,_=>false
noncomputable def D.eqvs:List D->List D->Bool
 |[],[]=>true
 |x::xs,y::ys=>D.eqv x y&&D.eqvs xs ys
 |_,_=>false
end
noncomputable def dat(h:Hs):Nat->Val->Option D
 |_,.non=>some .non
 |_,.bl b=>some<|.bl b
 |_,.int i=>some<|.int i
 |_,.str s=>some<|.str s
 |0,_=>none
 |n+1,.tup xs=>(xs.mapM<|dat h n).map .tup
 |n+1,.ref a=>(lsOf<|h a).bind fun xs=>(xs.mapM<|dat h n).map .lst
 |n+1,.scr ns=>some<|.lst<|ns.map .int
 |_+1,.key _ _=>none
noncomputable def deep:Nat:=12
noncomputable def eqV(h:Hs)(v u:Val):Option Bool:=(dat h deep v).bind fun d=>(dat h deep u).map fun e=>D.eqv d e
noncomputable def intsOf:List Val->Option (List Int)
 |[]=>some []
 |.int i::xs=>(intsOf xs).map (i :: ·)
 |_=>none
noncomputable def lexI:List Int->List Int->Bool
 |[],[]=>false
 |[],_::_=>true
 |_::_,[]=>false
 |x::xs,y::ys=>if x=y then lexI xs ys else decide (x<y)
noncomputable def ltV:Val->Val->Option Bool
 |.int i,.int j=>some<|decide (i<j)
 |.tup xs,.tup ys=>(intsOf xs).bind fun ns=>(intsOf ys).map fun ms=>lexI ns ms
 |_,_=>none
noncomputable def inL(h:Hs)(x:Val)(ys:List Val):Option Bool:=(dat h deep x).bind fun d=>(ys.mapM<|dat h<|deep - 1).map fun ds=>ds.any fun e=>D.eqv e d
noncomputable def leV:Val->Val->Option Bool
 |.int i,.int j=>some<|decide (i<=j)
 |_,_=>none
noncomputable def isKeyT:Val->Bool
 |.key _ _=>true
 |_=>false
noncomputable def inV(h:Hs)(v u:Val):Option Bool:=match u with
 |.tup xs=>inL h v xs
 |.ref a=>match h a with
  |some (.lst xs)=>inL h v xs
  |some (.dct kvs)=>if isKey v then some (hasK kvs v)else none
  |some (.frz kvs)=>if isKey v then some (hasK kvs v)else none
  |some (.dtp kvs)=>if isKeyT v then some (hasK kvs v)else none
  |_=>none
 |.str t=>(match v with|.str s=>(oneC s).map fun c=>decide (c∈t.toList)|_=>none)
 |_=>none
noncomputable def isV(v u:Val):Option Bool:=match u with
 |.non=>some<|decide (v=.non)
 |.bl b=>some<|decide (v=.bl b)
 |_=>none
noncomputable def samL(f:Val->Val->Bool):List Val->List Val->Bool
 |[],[]=>true
 |x::xs,y::ys=>f x y&&samL f xs ys
 |_,_=>false
noncomputable def sam(h:Hs):Nat->Val->Val->Bool
 |_,.non,.non=>true
 |_,.bl a,.bl b=>a==b
 |_,.int a,.int b=>a==b
 |_,.str a,.str b=>a==b
 |0,.ref a,.ref b=>a==b
 |n+1,.tup xs,.tup ys=>samL (sam h n) xs ys
 | n+1,.ref a,.ref b=>a == b||(match lsOf (h a),lsOf (h b)with
   |some xs,some ys=>samL (sam h n) xs ys
   | _,_=>false)
 |_,_,_=>false
noncomputable def asLst(h:Hs):Val->Option (List Val)
 |.ref a=>lsOf<|h a
 |_=>none
noncomputable def noPairs:Option Ob->Bool
 |some (.dct [])=>true
 |_=>false
noncomputable def sam0(h:Hs)(v u:Val):Bool:=(match asLst h v,asLst h u with
    |some xs,some ys=>samL (sam h 8) xs ys
    |_,_=>false)||(match v,u with
    |.ref a,.ref b=>a==b&&noPairs (h a)
    | _,_=>false)
noncomputable def cmpV(h:Hs)(op:Cop)(v u:Val):Option Bool:=match op with
 |.eq=>eqV h v u
 |.ne=>(eqV h v u).map (!·)
 |.lt=>ltV v u
 |.gt=>ltV u v
 |.le=>leV v u
 |.ge=>leV u v
 |.isin=>inV h v u
 |.notin=>(inV h v u).map (!·)
 |.is=>isV v u
 |.isnot=>(isV v u).map (!·)
 |.nes=>(asLst h v).bind fun xs=>(asLst h u).bind fun ys=>if samL (sam h 8) xs ys then some false else none
 |.eqE=>(asLst h v).bind fun xs=>(asLst h u).bind fun ys=>if ys.isEmpty then some xs.isEmpty else none
 |.neE=>(asLst h v).bind fun xs=>(asLst h u).bind fun ys=>if ys.isEmpty then some (!xs.isEmpty)else none
 |.neX=>if sam0 h v u=true then some false else(eqV h v u).map (!·)
 |.ntT=>match v,u with
  |.bl a,.bl b=>some<|a != b
  |_,_=>none
noncomputable def Jn(h:Hs):Val->Option Bool
 |.bl b=>some b
 |.int i=>some<|decide (i≠0)
 |.non=>some false
 |.str s=>if s.length<=lim then some (decide (s.length≠0))else none
 |.tup xs=>some (!xs.isEmpty)
 |.scr ns=>some (!ns.isEmpty)
 |.ref a=>match h a with
  |some (.lst xs)=>some (!xs.isEmpty)
  |some (.dct kvs)=>some (!kvs.isEmpty)
  |_=>none
 |.key _ _=>none
def mulOk(i j:Int):Prop:=(i.natAbs<2 ^ 64\/j.natAbs<2 ^ 64)\/(i.natAbs<=10 ^ 200/\j.natAbs<=10 ^ 200)
instance (i j:Int):Decidable<|mulOk i j:=inferInstanceAs<|Decidable<|_\/_
@[irreducible] noncomputable def new(h:Hs)(o:Ob)(Q:Q1):Prop:=∀p,h p=none->Q (.ref p) (upd h p o)
variable {Q:Q1}
theorem YO(q:∀p,h p=none->Q (.ref p) (upd h p o)):new h o Q:=by unfold new;exact q
inductive Rs where|val (v:Val)|new (o:Ob)|no
@[irreducible] noncomputable def Rs.wp(r:Rs)(h:Hs)(Q:Q1):Prop:=match r with|.val v=>Q v h|.new o=>O.new h o Q|.no=>False
@[simp] theorem Rs.wp_val{v:Val}:(Rs.val v).wp h Q=Q v h:=by unfold Rs.wp;rfl
@[simp] theorem Rs.wp_new:(Rs.new o).wp h Q=O.new h o Q:=by unfold Rs.wp;rfl
@[simp] theorem Rs.wp_no:Rs.no.wp h Q=False:=by unfold Rs.wp;rfl
noncomputable def Rs.ofO:Option Val->Rs
 |some v=>.val v
 |none=>.no
noncomputable def Rs.lst(xs:List Val):Rs:=if xs.length<=lim then .new (.lst xs)else .no
noncomputable def addV(h:Hs):Val->Val->Rs
 |.int i,.int j=>.val<|.int<|i+j
 |.str s,.str t=>if s.length+t.length<=lim then .val (.str<|s++t)else .no
 |.tup xs,.tup ys=>if xs.length+ys.length<=lim then .val (.tup<|xs++ys)else .no
 |.ref a,.ref b=>match h a,h b with
  |some (.lst xs),some (.lst ys)=>Rs.lst<|xs++ys
  |_,_=>.no
 |_,_=>.no
noncomputable def repT(s:String)(n:Nat):String:=Ţ (Ö n s.toList).flatten
noncomputable def mulV(h:Hs):Val->Val->Rs
 |.int i,.int j=>if mulOk i j then .val (.int<|i*j)else .no
 |.ref a,.int k=>match h a with
  |some (.lst xs)=>if -(2 ^ 62)<k/\k<2 ^ 62/\xs.length*k.toNat<=lim then Rs.lst (Ö k.toNat xs).flatten else .no
  |_=>.no
 |.str s,.int k=>if 2<=k/\k<=1000000/\1<=s.length/\s.length*k.toNat<=lim then .val (.str<|repT s k.toNat)else .no
 |_,_=>.no
noncomputable def intV(f:Int->Int->Rs):Val->Val->Rs
 |.int i,.int j=>f i j
 |_,_=>.no
noncomputable def binV(h:Hs)(op:Bop)(v u:Val):Rs:=match op with
 |.add=>addV h v u
 |.sub=>intV (fun i j=>.val<|.int<|i - j) v u
 |.mul=>mulV h v u
 |.fdiv=>intV (fun i j=>if 0<j/\j<1073741824 then .val (.int<|i / j)else .no) v u
 |.mod=>intV (fun i j=>if 0<j then .val (.int<|i % j)else .no) v u
 |.pow=>intV (fun i j=>if 0<=j/\j<=1000000/\i.natAbs<2 ^ 64 then .val (.int<|i ^ j.toNat)else .no) v u
noncomputable def asInt:Val->Option Int
 |.int i=>some i
 |_=>none
noncomputable def idxV(h:Hs):Val->Val->Option Val
 |.tup xs,.int k=>atI xs k
 |.str s,.int k=>if s.length<=lim then(atI s.toList k).map fun c=>.str (Ζ c)else none
 |.ref a,k=>match h a with
  |some (.lst xs)=>(asInt k).bind<|atI xs
  |some (.dct kvs)=>if isKey k then lookK kvs k else none
  |some (.frz kvs)=>if isKey k then lookK kvs k else none
  |some (.dtp kvs)=>if isKeyT k then lookK kvs k else none
  |_=>none
 |.scr ns,.int i=>atI (ns.map .int) i
 |_,_=>none
noncomputable def slcV(h:Hs)(v:Val)(lo hi:Option Int):Rs :=
 match v with
 |.tup xs=>if cutAt xs.length 0 lo=0/\cutAt xs.length xs.length hi=xs.length then .val (.tup xs)else .val (.tup<|cut xs lo hi)
 |.ref a=>match lsOf (h a)with
  |some xs=>.new<|.lst<|cut xs lo hi
  |none=>.no
 |.scr ns=>.new<|.lst<|cut (ns.map .int) lo hi
 |.str s=>if s.length<=lim then .val (.str<|Ţ<|cut s.toList lo hi)else .no
 |_=>.no
noncomputable def sortI(ns:List Int):List Int:=ns.mergeSort fun a b=>decide (a<=b)
noncomputable def blsOf:List Val->Option (List Bool)
 |[]=>some []
 |.bl b::xs=>(blsOf xs).map (b :: ·)
 |_=>none
noncomputable def minL:List Val->Option Val
 |[]=>none
 |x::xs=>xs.foldl (fun m y=>m.bind fun b=>(ltV y b).map fun c=>if c then y else b)<|some x
noncomputable def maxL:List Val->Option Val
 |[]=>none
 |x::xs=>xs.foldl (fun m y=>m.bind fun b=>(ltV b y).map fun c=>if c then y else b)<|some x
noncomputable def dedup:List Int->List Int
 |[]=>[]
 |x::xs=>x::(dedup xs).filter (· != x)
noncomputable def excSub(c d:String):Bool:=c==d||d == "ShutError" || d == "ValueError" || d == "Exception"
noncomputable def kindV(h:Hs):Val->Option String
 |.non=>some "NoneType"
 |.bl _=>some "bool"
 |.int _=>some "int"
 |.str _=>some "str"
 |.tup _=>some "tuple"
 |.scr _=>some "list"
 |.ref a=>match h a with
  |some (.lst _)=>some "list"
  |some (.dct _)=>some "dict"
  |_=>none
 |.key _ _=>none
noncomputable def isiV(h:Hs)(v:Val)(T:String):Option Bool:=(kindV h v).map fun t=>t==T||(t == "bool" && T == "int")
noncomputable def P5:Option Ob->Option String
 |some (.exc c)=>some c
 |_=>none
noncomputable def Ra(h:Hs):Val->Option String
 |.ref a=>P5<|h a
 |_=>none
noncomputable def RY(h:Hs)(C:String):Val->Option Val
 |.ref a=>match h a with
  |some (.ins D _)=>if D=C then some (.bl true)else none
  |_=>none
 |_=>none
noncomputable def isiAny(h:Hs)(v:Val):List String->Option Bool
 |[]=>some false
 |T::Ts=>(isiV h v T).bind fun b=>(isiAny h v Ts).map (b || ·)
noncomputable def UJ(h:Hs):List Val->Option (List<|Val×Val)
 |[]=>some []
 |v::vs=>match v with
  |.tup [k,x]=>if isKey k then(UJ h vs).map ((k,x) :: ·)else none
  |_=>none
noncomputable def pairUp:List Val->Option (List<|Val×Val)
 |[]=>some []
 |k::v::r=>if isKey k then(pairUp r).map ((k,v) :: ·)else none
 |_=>none
noncomputable def putAll(kvs:List<|Val×Val):List (Val×Val)->List (Val×Val)
 |[]=>kvs
 |(k,v)::r=>putAll (putK kvs k v) r
noncomputable def lenV(h:Hs):Val->Rs
 |.ref a=>match h a with
  |some (.lst xs)=>.val<|.int xs.length
  |some (.dct kvs)=>.val<|.int kvs.length
  |_=>.no
 |.tup xs=>.val<|.int xs.length
 |.scr ns=>.val<|.int ns.length
 |.str s=>if s.length<=lim then .val (.int s.length)else .no
 |_=>.no
noncomputable def QE:Val->Rs
 |.int i=>.val<|.int i
 |.bl b=>.val (.int<|if b then 1 else 0)
 |.str s=>if s.length<=640/\s.toList≠[]/\s.toList.all figB=true then .val (.int<|decN s.toList)else .no
 |_=>.no
noncomputable def Ix:Val->Rs
 |.bl b=>.val<|.bl b
 |_=>.no
noncomputable def PK:Val->Rs
 |.str s=>.val<|.str s
 |.int i=>if i.natAbs<10 ^ 200 then .val (.str<|Ub i)else .no
 |_=>.no
noncomputable def absV:Val->Rs
 |.int i=>.val (.int<|if i<0 then -i else i)
 |_=>.no
noncomputable def biOf1(f:Val->Rs):List Val->Rs
 |[v]=>f v
 |_=>.no
noncomputable def GB(f:Val->Val->Rs):List Val->Rs
 |[v,u]=>f v u
 |_=>.no
noncomputable def rowsOf:List Val->Option (List<|List Int)
 |[]=>some []
 |.tup xs::r=>(intsOf xs).bind fun ns=>(rowsOf r).map (ns :: ·)
 |_=>none
noncomputable def minR(b:List Int):List (List Int)->List Int
 |[]=>b
 |y::r=>minR (if lexI y b then y else b) r
noncomputable def biMinD(h:Hs)(v:Val):Rs:=match v with
 |.ref a=>match (lsOf<|h a).bind rowsOf with
  |some []=>.val .non
  |some (x::r)=>.val<|.tup<|(minR x r).map .int
  |none=>.no
 |_=>.no
noncomputable def P6:Val->Val->Rs
 |.int i,.int j=>.val (.int<|if j<i then j else i)
 |.tup xs,.tup ys=>match intsOf xs,intsOf ys with
  |some ns,some ms=>.val (if lexI ms ns=true then .tup ys else .tup xs)
  |_,_=>.no
 |_,_=>.no
noncomputable def Rk(h:Hs):Val->Rs
 |.ref a=>.ofO<|(lsOf<|h a).bind fun xs=>(blsOf xs).map fun bs=>.bl<|bs.any id
 |_=>.no
noncomputable def Rt(h:Hs):Val->Rs
 |.ref a=>.ofO<|(lsOf<|h a).bind fun xs=>(blsOf xs).map fun bs=>.bl<|bs.all id
 |_=>.no
noncomputable def sortOf(h:Hs):Val->Option (List Int)
 |.ref a=>(lsOf<|h a).bind intsOf
 |.scr ns=>some ns
 |_=>none
noncomputable def keysOf(kvs:List<|Val×Val):Option<|List Int:=intsOf (kvs.map (·.1))
noncomputable def sortAny(h:Hs)(v:Val):Option<|List Int:=match v with
 |.ref a=>match h a with
  |some (.lst xs)=>intsOf xs
  |some (.dct kvs)=>keysOf kvs
  |_=>none
 |.scr ns=>some ns
 |_=>none
noncomputable def LU(ă:List<|List Int):List<|List Int:=ă.mergeSort fun a b=>!lexI b a
noncomputable def Li(h:Hs)(v:Val):Option<|List<|List Int:=match v with
 |.ref a=>(lsOf<|h a).bind rowsOf
 |_=>none
noncomputable def UQ(h:Hs)(v:Val):Rs:=match Li h v with
 |some ă=>if ă.length<64/\(ă.all fun r=>!r.isEmpty)=true then .new (.lst<|(LU ă).map fun r=>.tup<|r.map .int)else .no
 |none=>.no
noncomputable def JD(h:Hs)(v:Val):Rs:=match sortAny h v with
 |some ns=>if ns.length<64 then .new (.lst<|(sortI ns).map .int)else .no
 |none=>UQ h v
noncomputable def biSortedI(h:Hs)(v:Val):Rs:=match sortAny h v with
 |some ns=>if ns.length<64 then .new (.lst<|(sortI ns).map .int)else .no
 |none=>.no
noncomputable def biSortedSet(h:Hs)(v:Val):Rs:=match sortOf h v with
 |some ns=>if ns.length<64 then .new (.lst<|(sortI<|dedup ns).map .int)else .no
 |none=>.no
noncomputable def Bu(h:Hs)(v:Val):Rs:=match sortOf h v with
 |some ns=>if ns.length<4000 then .val (.int (dedup ns).length)else .no
 |none=>.no
noncomputable def toList(h:Hs):Val->Rs
 |.ref a=>match h a with
  |some (.lst xs)=>.new<|.lst xs
  |_=>.no
 |.tup xs=>.new<|.lst xs
 |_=>.no
noncomputable def MG(h:Hs):Val->Rs
 |.ref a=>match h a with
  |some (.lst xs)=>.val<|.tup xs
  |_=>.no
 |.tup xs=>.val<|.tup xs
 |_=>.no
noncomputable def Iq(h:Hs):Val->Rs
 |.ref a=>match h a with
  |some (.dct kvs)=>.new<|.dct kvs
  |some (.lst xs)=>match UJ h xs with
   |some kvs=>.new<|.dct<|putAll [] kvs
   |none=>.no
  |_=>.no
 |_=>.no
noncomputable def FW:Nat->List Val->List (Val×Val)
 |_,[]=>[]
 |k,x::xs=>(.int (k:Nat),x)::FW (k+1) xs
noncomputable def EY:Val->Rs
 |.tup xs=>.new<|.dct<|FW 0 xs
 |_=>.no
noncomputable def minI:List Int->Int
 |[]=>0
 |x::r=>r.foldl (fun a b=>if b<a then b else a) x
noncomputable def RG:List Int->Int
 |[]=>0
 |x::r=>r.foldl (fun a b=>if b > a then b else a) x
noncomputable def intsAt(h:Hs):Val->Option (List Int)
 |.ref a=>(lsOf<|h a).bind intsOf
 |_=>none
noncomputable def pairI:Val->Option (Int×Int)
 |.tup [.int i,.int j]=>some (i,j)
 |_=>none
noncomputable def UK(h:Hs)(v:Val):Rs:=match asLst h v with
 |some xs=>.new<|.lst xs.reverse
 |none=>.no
noncomputable def LJ:Val->Rs
 |.int k=>if 0<=k/\k<=1000 then .new (.lst<|(List.range k.toNat).map fun n=>.int (n:Nat))else .no
 |_=>.no
noncomputable def GU:Val->Rs
 |.int k=>if 0<=k/\k<=1000 then .val (.tup<|(List.range k.toNat).map fun n=>.int (n:Nat))else .no
 |_=>.no
noncomputable def tupI:Val->Option (List Int)
 |.tup xs=>intsOf xs
 |_=>none
noncomputable def biMinL(h:Hs)(v:Val):Rs:=match pairI v with
 |some p=>.val (.int<|if p.2<p.1 then p.2 else p.1)
 |none=>match (tupI v).or (intsAt h v)with
  |some (x::r)=>.val<|.int<|minI<|x::r
  |_=>match (asLst h v).bind rowsOf with
   |some (x::r)=>.val<|.tup<|(minR x r).map .int
   |_=>.no
noncomputable def GI(h:Hs)(v:Val):Rs:=match pairI v with
 |some p=>.val (.int<|if p.2 > p.1 then p.2 else p.1)
 |none=>match intsAt h v with
  |some (x::r)=>.val<|.int<|RG<|x::r
  |_=>.no
noncomputable def biV(h:Hs)(b:Bi)(vs:List Val):Rs:=match b with
 |.len=>biOf1 (lenV h) vs
 |.int=>biOf1 QE vs
 |.str=>biOf1 PK vs
 |.bool=>biOf1 Ix vs
 |.abs=>biOf1 absV vs
 |.min2=>GB P6 vs
 |.max2=>GB (intV fun i j=>.val<|.int<|if j > i then j else i) vs
 |.minL=>biOf1 (biMinL h) vs
 |.maxL=>biOf1 (GI h) vs
 |.minD=>biOf1 (biMinD h) vs
 |.sum=>biOf1 (fun v=>.ofO<|(JC h v).bind fun xs=>(intsOf xs).map fun ns=>.int ns.sum) vs
 |.all=>biOf1 (Rt h) vs
 |.any=>biOf1 (Rk h) vs
 |.sorted=>biOf1 (JD h) vs
 |.sortedI=>biOf1 (biSortedI h) vs
 |.sortedSet=>biOf1 (biSortedSet h) vs
 |.lenSet=>biOf1 (Bu h) vs
 |.list=>biOf1 (toList h) vs
 |.tuple=>biOf1 (MG h) vs
 |.dict=>biOf1 (Iq h) vs
 |.isi Ts=>biOf1 (fun v=>.ofO<|(isiAny h v Ts).map .bl) vs
 |.isx Ts=>biOf1 (fun v=>.ofO<|(Ra h v).map fun c=>.bl<|Ts.any<|excSub c) vs
 |.isc C=>biOf1 (fun v=>.ofO<|RY h C v) vs
 |.repr=>.no
 |.listRev=>biOf1 (UK h) vs
 |.listRange=>biOf1 LJ vs
 |.tupRange=>biOf1 GU vs
 |.dictEnum=>biOf1 EY vs
noncomputable def bmL(h:Hs)(v:Val)(f:Ad->List Val->Option (Val×Hs)):Option<|Val×Hs:=match v with
 |.ref a=>(lsOf<|h a).bind<|f a
 |_=>none
noncomputable def bmD(h:Hs)(v:Val)(f:Ad->List (Val×Val)->Option (Val×Hs)):Option<|Val×Hs:=match v with
 |.ref a=>(dcOf<|h a).bind<|f a
 |_=>none
noncomputable def C4(h:Hs)(vs:List Val)(a:Ad)(xs:List Val):Option<|Val×Hs:=match vs with
 |[v]=>if xs.length<lim then some (.non,upd h a<|.lst<|xs++[v])else none
 |_=>none
noncomputable def Ck(h:Hs)(vs:List Val)(a:Ad)(xs:List Val):Option<|Val×Hs:=match vs with
 |[.ref b]=>(lsOf<|h b).bind fun ys=>if xs.length+ys.length<=lim then some (.non,upd h a<|.lst<|xs++ys)else none
 |_=>none
noncomputable def PH(h:Hs)(vs:List Val)(a:Ad)(xs:List Val):Option<|Val×Hs:=match vs with
 |[]=>(xs[xs.length - 1]?).map fun v=>(v,upd h a<|.lst xs.dropLast)
 |_=>none
noncomputable def bmPopAt(h:Hs)(vs:List Val)(a:Ad)(xs:List Val):Option<|Val×Hs:=match vs with
 |[.int i]=>if -(2 ^ 62)<i/\i<2 ^ 62 then(ixN xs.length i).bind fun k=>(xs[k]?).map fun v=>(v,upd h a<|.lst<|xs.eraseIdx k)else none
 |_=>none
noncomputable def Dy(h:Hs)(vs:List Val)(a:Ad)(xs:List Val):Option<|Val×Hs:=match vs with
 |[.int i,v]=>if 0<=i/\i<=xs.length/\xs.length<lim then some (.non,upd h a<|.lst<|xs.take i.toNat++v::xs.drop i.toNat)else none
 |_=>none
noncomputable def Bo(h:Hs)(vs:List Val)(a:Ad)(xs:List Val):Option<|Val×Hs:=match vs with
 |[.int i]=>(intsOf xs).bind fun ns=>if i∈ns then some (.non,upd h a<|.lst<|(ns.erase i).map .int)else none
 |_=>none
noncomputable def EH(h:Hs)(vs:List Val)(a:Ad)(xs:List Val):Option<|Val×Hs:=match vs with
 |[]=>some (.non,upd h a<|.lst [])
 |_=>none
noncomputable def AR(h:Hs)(vs:List Val)(a:Ad)(xs:List Val):Option<|Val×Hs:=match vs with
 |[]=>some (.non,upd h a<|.lst xs.reverse)
 |_=>none
noncomputable def Hl(h:Hs)(v:Val)(vs:List Val):Option<|Val×Hs:=match v,vs with
 |.str sep,[.ref a]=>(lsOf<|h a).bind fun xs=>(BK xs).bind fun ss=>if(ss.map String.length).sum+ss.length*sep.length<=lim then some (.str<|Gr sep ss,h)else none
 |_,_=>none
noncomputable def EG(h:Hs)(v:Val)(vs:List Val):Option<|Val×Hs:=match vs with
 |[.int i]=>((JC h v).bind intsOf).bind fun ns=>if i∈ns then some (.int<|ns.idxOf i,h)else none
 |_=>none
noncomputable def PN(h:Hs)(vs:List Val)(a:Ad)(kvs:List<|Val×Val):Option<|Val×Hs:=match vs with
 |[k]=>if isKey k then some ((lookK kvs k).getD .non,h)else none
 |_=>none
noncomputable def Hi(h:Hs)(vs:List Val)(a:Ad)(kvs:List<|Val×Val):Option<|Val×Hs:=match vs with
 |[k,d]=>if isKey k then some ((lookK kvs k).getD d,h)else none
 |_=>none
noncomputable def Rb(h:Hs):Val->Option (List<|Val×Val)
 |.ref a=>match h a with
  |some (.dtp kvs)=>some kvs
  |_=>none
 |_=>none
noncomputable def HY(h:Hs)(vs:List Val)(kvs:List<|Val×Val):Option<|Val×Hs:=match vs with
 |[k,d]=>if isKeyT k then some ((lookK kvs k).getD d,h)else none
 |_=>none
noncomputable def Ip(h:Hs)(v:Val)(vs:List Val):Option<|Val×Hs:=match Rb h v with
 |some kvs=>HY h vs kvs
 |none=>bmD h v<|Hi h vs
noncomputable def HW(h:Hs)(vs:List Val)(a:Ad)(kvs:List<|Val×Val):Option<|Val×Hs:=match vs with
 |[k]=>if isKey k then(lookK kvs k).map fun v=>(v,upd h a<|.dct<|dropK kvs k)else none
 |_=>none
noncomputable def Fg(h:Hs)(vs:List Val)(a:Ad)(kvs:List<|Val×Val):Option<|Val×Hs:=match vs with
 |[k,d]=>if isKey k then some ((lookK kvs k).getD d,upd h a<|.dct<|dropK kvs k)else none
 |_=>none
noncomputable def Hg(h:Hs)(v:Val)(vs:List Val):Option<|Val×Hs:=match v,vs with
 |.str t,[.str s]=>if t = "0123456789" then(oneC s).bind fun c=>if figB c=true then some (.int ((c.toNat - 48:Nat):Int),h)else none else none
 |_,_=>none
noncomputable def bmV(h:Hs)(m:Bm)(v:Val)(vs:List Val):Option<|Val×Hs:=match m with
 |.append=>bmL h v<|C4 h vs
 |.extend=>bmL h v<|Ck h vs
 |.pop=>bmL h v<|PH h vs
 |.popAt=>bmL h v<|bmPopAt h vs
 |.insert=>bmL h v<|Dy h vs
 |.remove=>bmL h v<|Bo h vs
 |.clear=>bmL h v<|EH h vs
 |.reverse=>bmL h v<|AR h vs
 |.index=>EG h v vs
 |.join=>Hl h v vs
 |.sidx=>Hg h v vs
 |.dget=>bmD h v<|PN h vs
 |.dgetD=>Ip h v vs
 |.dpop=>bmD h v<|HW h vs
 |.dpopD=>bmD h v<|Fg h vs
 |.count=>none
 |.setdefault=>none
 |.split=>none
 |.replace=>none
 |.upper=>none
 |.partition=>none
noncomputable def isLst:Option Ob->Bool
 |some (.lst _)=>true
 |_=>false
noncomputable def isDct:Option Ob->Bool
 |some (.dct _)=>true
 |some (.dtp _)=>true
 |_=>false
inductive Ty where|l|d|s|t
noncomputable def Bm.ty:Bm->Ty
 |.dget=>.d
 |.dgetD=>.d
 |.dpop=>.d
 |.dpopD=>.d
 |.setdefault=>.d
 |.join=>.s
 |.split=>.s
 |.replace=>.s
 |.upper=>.s
 |.partition=>.s
 |.sidx=>.s
 |.index=>.t
 |_=>.l
noncomputable def JL(p:Option Ob->Bool)(h:Hs):Val->Bool
 |.ref a=>p<|h a
 |_=>false
noncomputable def Ig:Val->Bool
 |.str _=>true
 |_=>false
noncomputable def Lz:Val->Bool
 |.tup _=>true
 |_=>false
noncomputable def bmTy(h:Hs)(m:Bm)(v:Val):Bool:=match m.ty with
 |.l=>JL isLst h v
 |.d=>JL isDct h v
 |.s=>Ig v
 |.t=>JL isLst h v||Lz v
noncomputable def putF:List (String×Val)->String->Val->List (String×Val)
 |[],f,v=>[(f,v)]
 |(g,x)::r,f,v=>if g=f then(g,v)::r else(g,x)::putF r f v
noncomputable def getV(env:Env)(i:Nat):Option Val:=match env[i]? with
 |some (some v)=>some v
 |_=>none
noncomputable def asBl:Val->Option Bool
 |.bl b=>some b
 |_=>none
noncomputable def asRef:Val->Option Ad
 |.ref a=>some a
 |_=>none
noncomputable def insOf:Option Ob->Option (String×List (String×Val))
 |some (.ins C fs)=>some (C,fs)
 |_=>none
noncomputable def QU:Val->Option (Val×Val)
 |.tup [x,y]=>some (x,y)
 |_=>none
noncomputable def tupOf:Val->Option (List Val)
 |.tup xs=>some xs
 |_=>none
noncomputable def bindL:List Nat->List Val->Env->Option Env
 |[],[],env=>some env
 |i::is,x::xs,env=>bindL is xs<|env.set i<|some x
 |_,_,_=>none
noncomputable def bind(p:Pt)(h:Hs)(v:Val)(env:Env):Option Env :=
 match p with
 |.one i=>some<|env.set i<|some v
 |.many is=>(tupOf v).bind fun xs=>bindL is xs env
 |.nest i is=>(tupOf v).bind fun xs=>match xs with
  |[x,y]=>(tupOf y).bind fun ys=>bindL is ys<|env.set i<|some x
  |_=>none
def wComp(st:Hs->Prop)(step:Val->Hs->(Option Val->Hs->Prop)->XQ->Prop):List Val->List Val->Hs->(List Val->Hs->Prop)->XQ->Prop
 |[],į,h,Q,_=>st h/\Q į h
 |v::vs,į,h,Q,X=>st h/\step v h (fun r h'=>wComp st step vs (į++r.toList) h' Q X) X
noncomputable def enumL:Nat->List Val->List Val
 |_,[]=>[]
 |k,x::xs=>.tup [.int k,x]::enumL (k+1) xs
noncomputable def GN:List Val->List Val->List Val
 |x::xs,y::ys=>.tup [x,y]::GN xs ys
 |_,_=>[]
noncomputable def Rq(s:String):List Val:=s.toList.map fun c=>.str<|Ζ c
noncomputable def itV(h:Hs):Val->Option ((Hs->Prop)×List Val)
 |.tup xs=>some (fun _=>True,xs)
 |.scr ns=>some (fun _=>True,ns.map .int)
 |.ref a=>(lsOf<|h a).map fun xs=>(fun g=>lsOf (g a)=some xs,xs)
 |_=>none
noncomputable def R4(h:Hs):Val->Val->Option ((Hs->Prop)×List Val)
 |.tup xs,.tup ys=>some (fun _=>True,GN xs ys)
 |.ref p,.ref q=>(lsOf<|h p).bind fun xs=>(lsOf<|h q).map fun ys=>(fun g=>lsOf (g p)=some xs/\lsOf (g q)=some ys,GN xs ys)
 |_,_=>none
noncomputable def itemOf(k:Bool)(p:Val×Val):Val:=if k then p.1 else .tup [p.1,p.2]
noncomputable def rangeV(i j:Int):List Val:=(List.range (j - i).toNat).map fun(k:Nat)=>.int<|i+k
noncomputable def putV(h:Hs)(o k v:Val):Option Hs :=
 match o with
 |.ref p=>match h p with
  |some (.lst xs)=>(asInt k).bind fun n=>(ixN xs.length n).map fun j=>upd h p<|.lst<|xs.set j v
  |some (.dct kvs)=>if isKey k/\kvs.length<lim then some (upd h p<|.dct<|putK kvs k v)else none
  |some (.dtp kvs)=>if isKeyT k/\kvs.length<lim then some (upd h p<|.dtp<|putK kvs k v)else none
  |_=>none
 |_=>none
noncomputable def putFV(h:Hs)(o:Val)(f:String)(v:Val):Option Hs :=
 match o with
 |.ref p=>match h p with
  |some (.ins C fs)=>if fs.length<900 then some (upd h p<|.ins C<|putF fs f v)else none
  |_=>none
 |_=>none
noncomputable def fldV(h:Hs)(o:Val)(f:String):Option Val:=(asRef o).bind fun a=>(insOf<|h a).bind fun p=>p.2.lookup f
noncomputable def clsV(h:Hs)(o:Val)(m:String):Option String:=(asRef o).bind fun a=>(insOf<|h a).bind fun p=>if(p.2.lookup m).isNone then some p.1 else none
noncomputable def augV(op:Bop)(x y:Val):Option Val:=match op,x,y with
 |.add,.int i,.int j=>some<|.int<|i+j
 |.sub,.int i,.int j=>some<|.int<|i - j
 |_,_,_=>none
@[irreducible] noncomputable def NF(F:Hs->(List Val->Hs->Prop)->XQ->Prop)(h:Hs)(Q:Q1)(X:XQ):Prop:=new h (.dct []) fun r h1=>go (asRef r) fun p=>F h1 (fun vs h2=>go (pairUp vs) fun kvs=>h2 p=some (.dct [])/\Q (.ref p) (upd h2 p<|.dct<|putAll [] kvs)) X
mutual
@[reducible] noncomputable def xE(Φ:Fs):E->Env->Hs->Q1->XQ->Prop
 |.cst v,_,h,Q,_=>Q v h
 |.glob _ v,_,h,Q,_=>Q v h
 |.var i,env,h,Q,_=>go (getV env i) fun v=>Q v h
 |.bin op a b,env,h,Q,X=>xE Φ a env h (fun v h1=>xE Φ b env h1 (fun u h2=>(binV h2 op v u).wp h2 Q) X) X
 |.neg a,env,h,Q,X=>xE Φ a env h (fun v h1=>go (asInt v) fun i=>Q (.int (-i)) h1) X
 |.not a,env,h,Q,X=>xE Φ a env h (fun v h1=>go (asBl v) fun b=>Q (.bl (!b)) h1) X
 |.and a b,env,h,Q,X=>xE Φ a env h (fun v h1=>go (asBl v) fun c=>if c=true then xE Φ b env h1 Q X else Q (.bl false) h1) X
 |.or a b,env,h,Q,X=>xE Φ a env h (fun v h1=>go (asBl v) fun c=>if c=true then Q (.bl true) h1 else xE Φ b env h1 Q X) X
 |.cmp op a b,env,h,Q,X=>xE Φ a env h (fun v h1=>xE Φ b env h1 (fun u h2=>go (cmpV h2 op v u) fun c=>Q (.bl c) h2) X) X
 | .chain o1 o2 a b c,env,h,Q,X=>xE Φ a env h (fun v h1=>xE Φ b env h1 (fun u h2=>go (cmpV h2 o1 v u) fun k =>
     if k=true then xE Φ c env h2 (fun w h3=>go (cmpV h3 o2 u w) fun k2=>Q (.bl k2) h3) X else Q (.bl false) h2) X) X
 |.call f as,env,h,Q,X=>xA Φ as env h (fun vs h1=>Φ f vs h1 Q X) X
 |.make C as,env,h,Q,X=>xA Φ as env h (fun vs h1=>∀p,h1 p=none->Φ (C ++ ".__init__") (.ref p::vs) (upd h1 p<|.ins C []) (fun v h2=>v=.non/\Q (.ref p) h2) X) X
 |.meth C m o as,env,h,Q,X=>xE Φ o env h (fun v h1=>clsV h1 v m=some C/\xA Φ as env h1 (fun vs h2=>Φ (C ++ "." ++ m) (v::vs) h2 Q X) X) X
 |.fld o f,env,h,Q,X=>xE Φ o env h (fun v h1=>go (fldV h1 v f) fun u=>Q u h1) X
 |.bi f as,env,h,Q,X=>xA Φ as env h (fun vs h1=>(biV h1 f vs).wp h1 Q) X
 |.bm m o as,env,h,Q,X=>xE Φ o env h (fun v h1=>bmTy h1 m v=true/\xA Φ as env h1 (fun vs h2=>go (bmV h2 m v vs) fun r=>Q r.1 r.2) X) X
 |.idx a i,env,h,Q,X=>xE Φ a env h (fun v h1=>xE Φ i env h1 (fun k h2=>go (idxV h2 v k) fun u=>Q u h2) X) X
 |.slc a lo hi,env,h,Q,X=>xE Φ a env h (fun v h1=>xO Φ lo env h1 (fun l h2=>xO Φ hi env h2 (fun u h3=>(slcV h3 v l u).wp h3 Q) X) X) X
 |.rev a,env,h,Q,X=>xE Φ a env h (fun v h1=>go (asRef v) fun p=>go (lsOf<|h1 p) fun xs=>new h1 (.lst xs.reverse) Q) X
 |.tup es,env,h,Q,X=>xA Φ es env h (fun vs h1=>Q (.tup vs) h1) X
 |.key es,env,h,Q,X=>xA Φ es env h (fun vs h1=>go (pairI<|.tup vs) fun p=>Q (.key p.1 p.2) h1) X
 |.dctP,env,h,Q,X=>new h (.dtp []) Q
 |.lst es,env,h,Q,X=>xA Φ es env h (fun vs h1=>new h1 (.lst vs) Q) X
 |.dct es,env,h,Q,X=>NF (xA Φ es env) h Q X
 |.ife c a b,env,h,Q,X=>xT Φ c env h (fun k h1=>if k=true then xE Φ a env h1 Q X else xE Φ b env h1 Q X) X
 | .comp ö n p it c e,env,h,Q,X=>xI Φ it env h (fun st xs h1=>xs.length<lim/\
     wComp st (fun v h2 K X2=>go (bind p h2 v<|Ö n none++ö.map fun j=>(env[j]?).getD none) fun œ =>
       xT Φ c œ h2 (fun k h3=>if k=true then xE Φ e œ h3 (fun u h4=>K (some u) h4) X2 else K none h3) X2) xs [] h1 (fun ys h5=>new h5 (.lst ys) Q) fun _ _=>False) X
 |.fstr es,env,h,Q,X=>xJ Φ es env h "" (fun s h1=>Q (.str s) h1) X
 |.split o a,env,h,Q,X=>xE Φ o env h (fun v h1=>go (NO v) fun s=>xE Φ a env h1 (fun u h2=>go ((NO u).bind oneC) fun c=>s.length+2<=lim/\new h2 (.lst<|(Bj c s).map .str) Q) X) X
 |.repl o y z,env,h,Q,X=>xE Φ o env h (fun v h1=>go (NO v) fun s=>go (oneC y) fun c=>(s.length<=lim/\z.length<=8/\y≠z)/\Q (.str<|Gr z<|Bj c s) h1) X
@[reducible] noncomputable def xA(Φ:Fs):Es->Env->Hs->(List Val->Hs->Prop)->XQ->Prop
 |.nil,_,h,Q,_=>Q [] h
 |.cons e es,env,h,Q,X=>xE Φ e env h (fun v h1=>xA Φ es env h1 (fun vs h2=>Q (v::vs) h2) X) X
@[reducible] noncomputable def xJ(Φ:Fs):Es->Env->Hs->String->(String->Hs->Prop)->XQ->Prop
 |.nil,_,h,į,Q,_=>Q į h
 |.cons e es,env,h,į,Q,X=>xE Φ e env h (fun v h1=>go (fmtV v) fun s=>į.length+s.length<=lim/\xJ Φ es env h1 (į++s) Q X) X
@[reducible] noncomputable def xO(Φ:Fs):Oe->Env->Hs->(Option Int->Hs->Prop)->XQ->Prop
 |.none,_,h,Q,_=>Q none h
 |.some e,env,h,Q,X=>xE Φ e env h (fun v h1=>go (asInt v) fun i=>Q (some i) h1) X
@[reducible] noncomputable def xT(Φ:Fs):Tt->Env->Hs->(Bool->Hs->Prop)->XQ->Prop
 |.yes,_,h,Q,_=>Q true h
 |.val e,env,h,Q,X=>xE Φ e env h (fun v h1=>go (Jn h1 v) fun k=>Q k h1) X
 |.not a,env,h,Q,X=>xT Φ a env h (fun k h1=>Q (!k) h1) X
 |.and a b,env,h,Q,X=>xT Φ a env h (fun k h1=>if k=true then xT Φ b env h1 Q X else Q false h1) X
 |.or a b,env,h,Q,X=>xT Φ a env h (fun k h1=>if k=true then Q true h1 else xT Φ b env h1 Q X) X
@[reducible] noncomputable def xI(Φ:Fs):It->Env->Hs->((Hs->Prop)->List Val->Hs->Prop)->XQ->Prop
 |.seq e,env,h,Q,X=>xE Φ e env h (fun v h1=>go (itV h1 v) fun p=>Q p.1 p.2 h1) X
 |.chars e,env,h,Q,X=>xE Φ e env h (fun v h1=>go (NO v) fun s=>Q (fun _=>True) (Rq s) h1) X
 |.range a,env,h,Q,X=>xE Φ a env h (fun v h1=>go (asInt v) fun n=>(-(2 ^ 62)<=n/\n<2 ^ 62)/\Q (fun _=>True) (rangeV 0 n) h1) X
 | .range2 a b,env,h,Q,X=>xE Φ a env h (fun v h1=>xE Φ b env h1 (fun u h2=>go (asInt v) fun i=>go (asInt u) fun j =>
     (-(2 ^ 62)<=i/\i<2 ^ 62/\-(2 ^ 62)<=j/\j<2 ^ 62)/\Q (fun _=>True) (rangeV i j) h2) X) X
 |.enum e,env,h,Q,X=>xE Φ e env h (fun v h1=>go (tupOf v) fun xs=>Q (fun _=>True) (enumL 0 xs) h1) X
 |.zip a b,env,h,Q,X=>xE Φ a env h (fun v h1=>xE Φ b env h1 (fun u h2=>go (R4 h2 v u) fun p=>Q p.1 p.2 h2) X) X
 |.items e,env,h,Q,X=>xE Φ e env h (fun v h1=>go (asRef v) fun a=>go (dcOf<|h1 a) fun kvs=>Q (fun g=>g a=some (.frz kvs)) (kvs.map<|itemOf true)<|upd h1 a<|.frz kvs) X
 |.rev e,env,h,Q,X=>xE Φ e env h (fun v h1=>go (JC h1 v) fun xs=>Q (fun g=>JC g v=some xs) xs.reverse h1) X
end
@[reducible] noncomputable def wE:Fs->E->Env->Hs->Q1->XQ->Prop:=xE
@[reducible] noncomputable def wA:Fs->Es->Env->Hs->(List Val->Hs->Prop)->XQ->Prop:=xA
@[reducible] noncomputable def wJ:Fs->Es->Env->Hs->String->(String->Hs->Prop)->XQ->Prop:=xJ
@[reducible] noncomputable def wO:Fs->Oe->Env->Hs->(Option Int->Hs->Prop)->XQ->Prop:=xO
@[reducible] noncomputable def wT:Fs->Tt->Env->Hs->(Bool->Hs->Prop)->XQ->Prop:=xT
@[reducible] noncomputable def wI:Fs->It->Env->Hs->((Hs->Prop)->List Val->Hs->Prop)->XQ->Prop:=xI
noncomputable abbrev NQ:=Env->Hs->Prop
noncomputable abbrev EQ:=Env->String->Hs->Prop
def wFor(st:Hs->Prop)(W:Val->Env->Hs->NQ->NQ->Prop)(N:NQ):List Val->Env->Hs->Prop
 |[],env,h=>st h/\N env h
 |v::vs,env,h=>st h/\W v env h (fun e g=>wFor st W N vs e g) N
def Dc(T:Env->Hs->(Bool->Hs->Prop)->Prop)(W:Env->Hs->NQ->NQ->Prop)(N:NQ):Nat->Env->Hs->Prop
 |0,_,_=>False
 |n+1,env,h=>T env h fun k h1=>if k=true then W env h1 (fun e g=>Dc T W N n e g) N else N env h1
@[reducible] noncomputable def wC(Φ:Fs):E->Env->Hs->Q1->XQ->Prop
 |.call f as,env,h,Q,X=>wA Φ as env h (fun vs h1=>Φ f vs h1 Q X) fun _ _=>False
 |.meth C m o as,env,h,Q,X=>wE Φ o env h (fun v h1=>clsV h1 v m=some C/\wA Φ as env h1 (fun vs h2=>Φ (C ++ "." ++ m) (v::vs) h2 Q X) fun _ _=>False) fun _ _=>False
 |_,_,_,_,_=>False
noncomputable def Ir(env:Env):Option Nat->Val->Env
 |none,_=>env
 |some j,v=>env.set j<|some v
mutual
@[reducible] noncomputable def xS(Φ:Fs):S->Env->Hs->NQ->Q1->NQ->NQ->EQ->Prop
 |.set p e,env,h,N,_,_,_,X=>wE Φ e env h (fun v h1=>go (bind p h1 v env) fun œ=>N œ h1)<|X env
 |.setIdx a i e,env,h,N,_,_,_,X=>wE Φ e env h (fun v h1=>wE Φ a env h1 (fun o h2=>wE Φ i env h2 (fun k h3=>go (putV h3 o k v) fun g=>N env g)<|X env)<|X env)<|X env
 |.setFld o f e,env,h,N,_,_,_,X=>wE Φ e env h (fun v h1=>wE Φ o env h1 (fun u h2=>go (putFV h2 u f v) fun g=>N env g)<|X env)<|X env
 |.augVar i op e,env,h,N,_,_,_,X=>go (getV env i) fun x=>wE Φ e env h (fun v h1=>go (augV op x v) fun y=>N (env.set i<|some y) h1)<|X env
 |.augFld o f op n,env,h,N,_,_,_,X=>wE Φ o env h (fun u h1=>go (fldV h1 u f) fun x=>go (augV op x<|.int n) fun y=>go (putFV h1 u f y) fun g=>N env g)<|X env
 |.augIdx a i op n,env,h,N,_,_,_,X=>wE Φ a env h (fun o h1=>wE Φ i env h1 (fun k h2=>go (idxV h2 o k) fun x=>go (augV op x<|.int n) fun y=>go (putV h2 o k y) fun g=>N env g)<|X env)<|X env
 | .setPair a i b j e,env,h,N,_,_,_,X=>wE Φ e env h (fun v h1=>go (QU v) fun p=>wE Φ a env h1 (fun o h2=>wE Φ i env h2 (fun k h3=>go (putV h3 o k p.1) fun g =>
     wE Φ b env g (fun o2 h4=>wE Φ j env h4 (fun k2 h5=>go (putV h5 o2 k2 p.2) fun g2=>N env g2)<|X env) (X env))<|X env)<|X env)<|X env
 |.expr e,env,h,N,_,_,_,X=>wE Φ e env h (fun _ h1=>N env h1)<|X env
 |.ret e,env,h,_,R,_,_,X=>wE Φ e env h R<|X env
 |.retN,_,h,_,R,_,_,_=>R .non h
 |.ite c a b,env,h,N,R,B,C,X=>wT Φ c env h (fun k h1=>if k=true then xSs Φ a env h1 N R B C X else xSs Φ b env h1 N R B C X)<|X env
 |.whl c b,env,h,N,R,_,_,X=>∃n,Dc (fun e g K=>wT Φ c e g K<|X e) (fun e g K M=>xSs Φ b e g K R M K X) N n env h
 |.for p it b,env,h,N,R,_,_,X=>wI Φ it env h (fun st xs h1=>wFor st (fun v e g K M=>go (bind p g v e) fun e2=>xSs Φ b e2 g K R M K X) N xs env h1)<|X env
 | .forI k p e b,env,h,N,R,_,_,X=>wE Φ e env h (fun v h1=>go (asRef v) fun a=>go (dcOf<|h1 a) fun kvs =>
     wFor (fun g=>g a=some (.frz kvs)) (fun v e g K M=>go (bind p g v e) fun e2=>xSs Φ b e2 g K (fun u g2=>g2 a=some (.frz kvs)/\R u (upd g2 a<|.dct kvs)) M K fun _ _ _=>False)
       (fun e g=>g a=some (.frz kvs)/\N e (upd g a<|.dct kvs)) (kvs.map<|itemOf k) env (upd h1 a<|.frz kvs))<|X env
 |.never,_,_,_,_,_,_,_=>False
 |.brk,env,h,_,_,B,_,_=>B env h
 |.cnt,env,h,_,_,_,C,_=>C env h
 |.pass,env,h,N,_,_,_,_=>N env h
 |.raise C as,env,h,_,_,_,_,X=>wA Φ as env h (fun _ h1=>X env C h1)<|X env
 |.try t e hs,env,h,N,R,B,C,X=>wC Φ e env h (fun v h1=>N (Ir env t v) h1) fun c g=>xH Φ hs c env g N R B C
@[reducible] noncomputable def xSs(Φ:Fs):Ss->Env->Hs->NQ->Q1->NQ->NQ->EQ->Prop
 |.nil,env,h,N,_,_,_,_=>N env h
 |.cons s ss,env,h,N,R,B,C,X=>xS Φ s env h (fun e g=>xSs Φ ss e g N R B C X) R B C X
@[reducible] noncomputable def xH(Φ:Fs):Hn->String->Env->Hs->NQ->Q1->NQ->NQ->Prop
 |.nil,_,_,_,_,_,_,_=>False
 |.cons K none b r,c,env,h,N,R,B,C=>if excSub c K=true then xSs Φ b env h N R B C (fun _ _ _=>False)else xH Φ r c env h N R B C
 |.cons K (some i) b r,c,env,h,N,R,B,C=>if excSub c K=true then(∀p,h p=none->xSs Φ b (env.set i<|some<|.ref p) (upd h p<|.exc c) (fun e g=>N (e.set i none) g) R (fun e g=>B (e.set i none) g) (fun e g=>C (e.set i none) g) fun _ _ _=>False)
  else xH Φ r c env h N R B C
end
@[reducible] noncomputable def wS:Fs->S->Env->Hs->NQ->Q1->NQ->NQ->EQ->Prop:=xS
@[reducible] noncomputable def wSs:Fs->Ss->Env->Hs->NQ->Q1->NQ->NQ->EQ->Prop:=xSs
structure Fn where
 ar:Nat
 sz:Nat
 body:Ss
noncomputable abbrev Pg:=String->Option Fn
class In(P:Pg)(f:String)(d:outParam Fn):Prop where
 eq:P f=some d
noncomputable def Fn.env(d:Fn)(vs:List Val):Env:=vs.map some++Ö (d.sz - d.ar) none
noncomputable def wF0(P:Pg):Nat->Fs
 |0=>fun _ _ _ _ _=>False
 |n+1=>fun f vs h Q X=>go (P f) fun d=>vs.length=d.ar/\wSs (wF0 P n) d.body (d.env vs) h (fun _ g=>Q .non g) Q (fun _ _=>False) (fun _ _=>False) fun _ c g=>X c g
@[irreducible] noncomputable def wF(P:Pg)(n:Nat):Fs:=wF0 P n
variable {P:Pg} {n:Nat}
theorem wF_eq:wF P n=wF0 P n:=by unfold wF;rfl
theorem Zc{f:String}{d:Fn}{vs:List Val}{X:XQ}(e:P f=some d)(hl:vs.length=d.ar)
  (q:wSs (wF P n) d.body (d.env vs) h (fun _ g=>Q .non g) Q (fun _ _=>False) (fun _ _=>False) fun _ c g=>X c g):wF P (n+1) f vs h Q X:=by
 rw[wF_eq]at q ⊢;exact go_of e ⟨hl,q⟩
section
variable {Φ:Fs}{env:Env}{h:Hs}{Q:Q1}{X:XQ}{a b c e o:E}{as:Es}{v u:Val}
theorem P0{es:Es}(q:new h (.dct []) fun r h1=>go (asRef r) fun p=>wA Φ es env h1 (fun vs h2=>go (pairUp vs) fun kvs=>h2 p=some (.dct [])/\Q (.ref p) (upd h2 p<|.dct<|putAll [] kvs)) X):wE Φ (.dct es) env h Q X:=by show NF _ _ _ _;unfold NF;exact q
variable {QA:List Val->Hs->Prop}{QO:Option Int->Hs->Prop}{QT:Bool->Hs->Prop}{QI:(Hs->Prop)->List Val->Hs->Prop}
theorem Pc(q:QA [] h):wA Φ .nil env h QA X:=q
end
section
variable {Φ:Fs}{env:Env}{h:Hs}{N B C:NQ}{R:Q1}{X:EQ}{a b c e o i:E}{as:Es}{v u:Val}{t:Tt}{s1 s2:Ss}{s:S}{p:Pt}{it:It}{hs:Hn}
theorem OM(q:N env h):wSs Φ .nil env h N R B C X:=q
end
section
variable {h:Hs}{Q:Q1}{i j k:Int}{a b:Ad}{xs ys:List Val}{v u:Val}{K:Val->Prop}{KB:Bool->Prop}
theorem wp_val{r:Rs}(e:r=.val v)(q:Q v h):r.wp h Q:=by rw[e,Rs.wp_val];exact q
theorem wp_new{r:Rs}{o:Ob}(e:r=.new o)(q:new h o Q):r.wp h Q:=by rw[e,Rs.wp_new];exact q
theorem b_add(q:Q (.int<|i+j) h):(binV h .add (.int i)<|.int j).wp h Q:=wp_val rfl q
theorem b_sub(q:Q (.int<|i - j) h):(binV h .sub (.int i)<|.int j).wp h Q:=wp_val rfl q
theorem b_mul(m:mulOk i j)(q:Q (.int<|i*j) h):(binV h .mul (.int i)<|.int j).wp h Q:=wp_val (if_pos m) q
theorem b_fdiv(m:0<j/\j<1073741824)(q:Q (.int<|i / j) h):(binV h .fdiv (.int i)<|.int j).wp h Q:=wp_val (if_pos m) q
theorem b_mod(m:0<j)(q:Q (.int<|i % j) h):(binV h .mod (.int i)<|.int j).wp h Q:=wp_val (if_pos m) q
theorem b_pow(m:0<=j/\j<=1000000/\i.natAbs<2 ^ 64)(q:Q (.int<|i ^ j.toNat) h):(binV h .pow (.int i)<|.int j).wp h Q:=wp_val (if_pos m) q
theorem LE{z:Int}(m:0<=j/\j<=1000000/\i.natAbs<2 ^ 64)(e:i ^ j.toNat=z)(q:Q (.int z) h):(binV h .pow (.int i)<|.int j).wp h Q:=b_pow m (by rw[e];exact q)
theorem IX(m:xs.length+ys.length<=lim)(q:Q (.tup<|xs++ys) h):(binV h .add (.tup xs)<|.tup ys).wp h Q:=wp_val (if_pos m) q
theorem Mo(e1:h a=some (.lst xs))(e2:h b=some (.lst ys))(m:(xs++ys).length<=lim)(q:new h (.lst<|xs++ys) Q):(binV h .add (.ref a)<|.ref b).wp h Q:=by refine wp_new ?_ q;show(match h a,h b with|some (.lst xs),some (.lst ys)=>Rs.lst (xs++ys)|_,_=>.no:Rs)=_;simp only[e1,e2,Rs.lst];rw[if_pos m]
theorem lsE(e1:h a=some (.lst xs)):lsOf (h a)=some xs:=by rw[e1];rfl
variable {kvs:List (Val×Val)}
theorem dcE(e1:h a=some (.dct kvs)):dcOf (h a)=some kvs:=by rw[e1];rfl
theorem g_int{K:Int->Prop}(q:K i):go (asInt<|.int i) K:=go_of rfl q
theorem g_bl{b:Bool}(q:KB b):go (asBl<|.bl b) KB:=go_of rfl q
theorem g_ref{K:Ad->Prop}(q:K a):go (asRef<|.ref a) K:=go_of rfl q
theorem g_tbl{b:Bool}(q:KB b):go (Jn h<|.bl b) KB:=go_of rfl q
theorem RS(q:KB<|decide (i≠0)):go (Jn h<|.int i) KB:=go_of rfl q
theorem Q5(e:h a=some (.lst xs))(q:KB (!xs.isEmpty)):go (Jn h<|.ref a) KB:=go_of (by unfold Jn;simp only[e]) q
theorem ix_tup(e:atI xs i=some v)(q:K v):go (idxV h (.tup xs)<|.int i) K:=go_of e q
theorem Zn(e1:h a=some (.lst xs))(e:atI xs i=some v)(q:K v):go (idxV h (.ref a)<|.int i) K:=go_of (by unfold idxV;simp only[e1];exact e) q
theorem BF(e1:h a=some (.dtp kvs))(e:lookK kvs (.key i j)=some v)(q:K v):go (idxV h (.ref a)<|.key i j) K:=go_of (by unfold idxV;simp only[e1];exact e) q
theorem ZV{k:Val}(e1:h a=some (.dct kvs))(hk:isKey k=true)(e:lookK kvs k=some v)(q:K v):go (idxV h (.ref a) k) K:=go_of (by unfold idxV;simp only[e1];rw[if_pos hk];exact e) q
variable {ns:List Int}
theorem HB(e:atI (ns.map Val.int) i=some v)(q:K v):go (idxV h (.scr ns)<|.int i) K:=go_of e q
theorem c_lt(q:KB<|decide (i<j)):go (cmpV h .lt (.int i)<|.int j) KB:=go_of rfl q
theorem c_gt(q:KB<|decide (j<i)):go (cmpV h .gt (.int i)<|.int j) KB:=go_of rfl q
theorem c_le(q:KB<|decide (i<=j)):go (cmpV h .le (.int i)<|.int j) KB:=go_of rfl q
theorem c_ge(q:KB<|decide (j<=i)):go (cmpV h .ge (.int i)<|.int j) KB:=go_of rfl q
theorem UB:D.eqv (.int i) (.int j)=decide (i=j):=by rw[D.eqv];by_cases e:i=j<;>simp[e]
variable {s:String}
theorem F7{t:String}:D.eqv (.str s) (.str t)=decide (s=t):=by rw[D.eqv];by_cases e:s=t<;>simp[e]
theorem c_eqI(q:KB<|decide (i=j)):go (cmpV h .eq (.int i)<|.int j) KB:=go_of (by show some (D.eqv (.int i)<|.int j)=_;rw[UB]) q
theorem c_neI(q:KB (!decide (i=j))):go (cmpV h .ne (.int i)<|.int j) KB:=go_of (by show some (!D.eqv (.int i) (.int j))=_;rw[UB]) q
theorem c_eqS{t:String}(q:KB<|decide (s=t)):go (cmpV h .eq (.str s)<|.str t) KB:=go_of (by show some (D.eqv (.str s)<|.str t)=_;rw[F7]) q
theorem Sa{t:String}(q:KB (!decide (s=t))):go (cmpV h .ne (.str s)<|.str t) KB:=go_of (by show some (!D.eqv (.str s) (.str t))=_;rw[F7]) q
variable {c:Bool}
theorem R8{d:Bool}(q:KB<|c==d):go (cmpV h .eq (.bl c)<|.bl d) KB:=go_of (by show some (D.eqv (.bl c)<|.bl d)=_;rw[D.eqv]) q
theorem c_isN(q:KB<|decide (v=.non)):go (cmpV h .is v .non) KB:=go_of (by unfold cmpV;rfl) q
theorem c_notN(q:KB (!decide (v=.non))):go (cmpV h .isnot v .non) KB:=go_of (by unfold cmpV;rfl) q
theorem c_neX(n:sam0 h v u=false)(e:eqV h v u=some c)(q:KB (!c)):go (cmpV h .neX v u) KB:=go_of (by show(if sam0 h v u=true then some false else(eqV h v u).map (!·))=_;rw[n,e];rfl) q
theorem c_nes(e1:h a=some (.lst xs))(e2:h b=some (.lst ys))(e:samL (sam h 8) xs ys=true)(q:KB false):go (cmpV h .nes (.ref a)<|.ref b) KB:=go_of (by show(lsOf<|h a).bind _=_;rw[e1,YR];show(lsOf<|h b).bind _=_;rw[e2,YR];show(if _ then _ else _)=_;rw[if_pos e]) q
variable {ms:List Int}
theorem HN(e1:intsOf xs=some ns)(e2:intsOf ys=some ms)(q:KB<|lexI ns ms):go (cmpV h .lt (.tup xs)<|.tup ys) KB:=go_of (by show(intsOf xs).bind _=_;rw[e1,e2];rfl) q
theorem He(e1:intsOf xs=some ns)(e2:intsOf ys=some ms)(q:KB<|lexI ms ns):go (cmpV h .gt (.tup xs)<|.tup ys) KB:=go_of (by show(intsOf ys).bind _=_;rw[e1,e2];rfl) q
variable {n:Nat} {ŝ:Env}
theorem Ie{env:Env}{K:Env->Prop}(e:env.set n (some v)=ŝ)(q:K ŝ):go (bind (.one n) h v env) K:=by subst e;exact go_of rfl q
theorem Lg{is:List Nat}{env:Env}{K:Env->Prop}(e:bindL is xs env=some ŝ)(q:K ŝ):go (bind (.many is) h (.tup xs) env) K:=go_of e q
theorem Ro{K:Hs->Prop}(e1:h a=some (.lst xs))(e:ixN xs.length i=some n)(q:K<|upd h a<|.lst<|xs.set n v):go (putV h (.ref a) (.int i) v) K:=go_of (by unfold putV;simp only[e1,asInt,ð,e,Ľ]) q
theorem LH{K:Hs->Prop}(e1:h a=some (.dtp kvs))(m:kvs.length<lim)(q:K<|upd h a<|.dtp<|putK kvs (.key i j) v):go (putV h (.ref a) (.key i j) v) K:=go_of (by unfold putV;simp only[e1];exact if_pos ⟨rfl,m⟩) q
theorem Wc{K:Hs->Prop}{k:Val}(e1:h a=some (.dct kvs))(m:isKey k=true/\kvs.length<lim)(q:K<|upd h a<|.dct<|putK kvs k v):go (putV h (.ref a) k v) K:=go_of (by unfold putV;simp only[e1];rw[if_pos m]) q
theorem Gh(e1:h a=some (.dtp kvs))(q:KB<|hasK kvs<|.key i j):go (cmpV h .isin (.key i j)<|.ref a) KB:=go_of (by show inV h (.key i j) (.ref a)=_;unfold inV;simp only[e1];rfl) q
theorem LL(e1:h a=some (.dct kvs))(hk:isKey v=true)(q:KB<|hasK kvs v):go (cmpV h .isin v<|.ref a) KB:=go_of (by show inV h v (.ref a)=_;unfold inV;simp only[e1];rw[if_pos hk]) q
theorem UC(e1:h a=some (.dct kvs))(hk:isKey v=true)(q:KB (!hasK kvs v)):go (cmpV h .notin v<|.ref a) KB:=go_of (by show(inV h v<|.ref a).map _=_;unfold inV;simp only[e1];rw[if_pos hk];rfl) q
variable {C:String} {f:String}
theorem Z7{fs:List (String×Val)}{K:Hs->Prop}(e1:h a=some (.ins C fs))(m:fs.length<900)(q:K<|upd h a<|.ins C<|putF fs f v):go (putFV h (.ref a) f v) K:=go_of (by unfold putFV;simp only[e1];rw[if_pos m]) q
theorem G9{fs:List (String×Val)}(e1:h a=some (.ins C fs))(e:fs.lookup f=some v)(q:K v):go (fldV h (.ref a) f) K:=go_of (by unfold fldV asRef;simp only[e1,insOf,ð];exact e) q
variable {P:Prop}
theorem HS{m:String}{fs:List (String×Val)}(e1:h a=some (.ins C fs))(e:fs.lookup m=none)(q:P):clsV h (.ref a) m=some C/\P:=⟨by unfold clsV asRef;simp only[e1,insOf,ð,e,Option.isNone_none,if_true],q⟩
theorem ag_add(q:K<|.int<|i+j):go (augV .add (.int i)<|.int j) K:=go_of rfl q
theorem ln_lst(e1:h a=some (.lst xs))(q:Q (.int xs.length) h):(biV h .len [.ref a]).wp h Q:=wp_val (by show lenV h (.ref a)=_;unfold lenV;dsimp only;rw[e1]) q
theorem ln_scr(q:Q (.int ns.length) h):(biV h .len [.scr ns]).wp h Q:=wp_val rfl q
theorem ln_tup(q:Q (.int xs.length) h):(biV h .len [.tup xs]).wp h Q:=wp_val rfl q
theorem RU(q:Q (.str s) h):(biV h .str [.str s]).wp h Q:=wp_val rfl q
theorem in_str(m:s.length<=640/\s.toList≠[]/\s.toList.all figB=true)(q:Q (.int<|decN s.toList) h):(biV h .int [.str s]).wp h Q:=wp_val (if_pos m) q
theorem Rw(q:Q (.int<|if i<0 then -i else i) h):(biV h .abs [.int i]).wp h Q:=wp_val rfl q
theorem GV{bs:List Bool}(e1:h a=some (.lst xs))(e2:blsOf xs=some bs)(q:Q (.bl<|bs.all id) h):(biV h .all [.ref a]).wp h Q:=wp_val (by show Rs.ofO ((lsOf<|h a).bind _)=_;rw[lsE e1,ð,e2];rfl) q
theorem R9{K:String->Prop}(q:K s):go (NO<|.str s) K:=go_of rfl q
variable {m:Bm}
theorem RL(hm:m=.join)(q:P):bmTy h m (.str s)=true/\P:=⟨by subst hm;rfl,q⟩
theorem Qh{K:List Val->Prop}(e1:h a=some (.lst xs))(q:K xs):go (lsOf<|h a) K:=go_of (by rw[e1];rfl) q
variable {x:List Int} {r:List (List Int)}
theorem mnR(e1:h a=some (.lst xs))(e0:intsOf xs=none)(e2:rowsOf xs=some (x::r))(q:Q (.tup<|(minR x r).map Val.int) h):(biV h .minL [.ref a]).wp h Q:=wp_val (by show biMinL h (.ref a)=_;unfold biMinL pairI intsAt asLst;simp only[e1,lsOf,ð];rw[e0,e2];rfl) q
theorem Q8(q:Q (.int i) h):(biV h .int [.int i]).wp h Q:=wp_val rfl q
theorem in_bl(q:Q (.int<|if c then 1 else 0) h):(biV h .int [.bl c]).wp h Q:=wp_val rfl q
theorem mn2(q:Q (.int<|if j<i then j else i) h):(biV h .min2 [.int i,.int j]).wp h Q:=wp_val rfl q
theorem mx2(q:Q (.int<|if j > i then j else i) h):(biV h .max2 [.int i,.int j]).wp h Q:=wp_val rfl q
theorem tp_lst(e1:h a=some (.lst xs))(q:Q (.tup xs) h):(biV h .tuple [.ref a]).wp h Q:=wp_val (by show MG h (.ref a)=_;unfold MG;dsimp only;rw[e1]) q
theorem Rp(q:Q (.tup xs) h):(biV h .tuple [.tup xs]).wp h Q:=wp_val rfl q
theorem CW{Ts:List String}(e:isiAny h v Ts=some c)(q:Q (.bl c) h):(biV h (.isi Ts) [v]).wp h Q:=wp_val (by show Rs.ofO ((isiAny h v Ts).map .bl)=_;rw[e];rfl) q
theorem ls_lst(e1:h a=some (.lst xs))(q:new h (.lst xs) Q):(biV h .list [.ref a]).wp h Q:=wp_new (by show toList h (.ref a)=_;unfold toList;dsimp only;rw[e1]) q
theorem ls_tup(q:new h (.lst xs) Q):(biV h .list [.tup xs]).wp h Q:=wp_new rfl q
variable {lo:Option Int} {hi:Option Int}
theorem Aa{α:Type}{xs:List α}(n:cutAt xs.length 0 lo=0/\cutAt xs.length xs.length hi=xs.length):cut xs lo hi=xs:=by unfold cut;rw[n.1,n.2,List.drop_zero,Nat.sub_zero,ó]
theorem O8(q:Q (.tup<|cut xs lo hi) h):(slcV h (.tup xs) lo hi).wp h Q:=by
 unfold slcV;dsimp only;split
 .rename_i n;rw[Aa n]at q;exact wp_val rfl q
 .exact wp_val rfl q
theorem sl_tup(n:¬ (cutAt xs.length 0 lo=0/\cutAt xs.length xs.length hi=xs.length))(q:Q (.tup<|cut xs lo hi) h):(slcV h (.tup xs) lo hi).wp h Q:=wp_val (by unfold slcV;simp only;rw[if_neg n]) q
theorem I0(hm:m.ty=.l\/m.ty=.t)(e:h a=some (.lst xs))(q:P):bmTy h m (.ref a)=true/\P:=⟨by unfold bmTy;rcases hm with hm|hm<;>rw[hm]<;>simp[JL,e,isLst],q⟩
theorem Hv(hm:m.ty=.d)(e:h a=some (.dct kvs))(q:P):bmTy h m (.ref a)=true/\P:=⟨by unfold bmTy;rw[hm];simp[JL,e,isDct],q⟩
noncomputable def HX:Bi->Bool
 |.sorted=>true
 |.sortedI=>true
 |_=>false
theorem BO{f:Bi}(hf:HX f=true)(e:sortAny h v=some ns)(m:ns.length<64)(q:new h (.lst<|(sortI ns).map Val.int) Q):(biV h f [v]).wp h Q:=by
 cases f with
 |sorted=>exact wp_new (by show JD h v=_;unfold JD;simp only[e];exact if_pos m) q
 |sortedI=>exact wp_new (by show biSortedI h v=_;unfold biSortedI;simp only[e];exact if_pos m) q
 |_=>cases hf
theorem IV{f:Bi}(e1:h a=some (.lst<|ns.map Val.int))(e2:intsOf (ns.map Val.int)=some ns)(m:ns.length<64)(q:new h (.lst<|(sortI ns).map Val.int) Q)(hf:HX f=true:=by rfl):(biV h f [.ref a]).wp h Q:=BO hf (by unfold sortAny;simp only[e1,e2]) m q
theorem N8{f:Bi}(e1:h a=some (.dct kvs))(e2:keysOf kvs=some ns)(m:ns.length<64)(q:new h (.lst<|(sortI ns).map Val.int) Q)(hf:HX f=true:=by rfl):(biV h f [.ref a]).wp h Q:=BO hf (by unfold sortAny;simp only[e1,e2]) m q
theorem LD(e1:h a=some (.lst []))(q:Q .non h):(biV h .minD [.ref a]).wp h Q:=wp_val (by show biMinD h (.ref a)=_;unfold biMinD;simp only[e1,lsOf,ð,rowsOf]) q
theorem FS(e1:h a=some (.lst xs))(e2:rowsOf xs=some (x::r))(q:Q (.tup<|(minR x r).map Val.int) h):(biV h .minD [.ref a]).wp h Q:=wp_val (by show biMinD h (.ref a)=_;unfold biMinD;simp only[e1,lsOf,ð,e2]) q
theorem sl_str(n:s.length<=lim)(q:Q (.str<|Ţ<|cut s.toList lo hi) h):(slcV h (.str s) lo hi).wp h Q:=wp_val (by unfold slcV;simp only;rw[if_pos n]) q
theorem sl_lst(e1:h a=some (.lst xs))(q:new h (.lst<|cut xs lo hi) Q):(slcV h (.ref a) lo hi).wp h Q:=wp_new (by unfold slcV;simp only[e1,lsOf]) q
theorem sl_scr(q:new h (.lst<|cut (ns.map Val.int) lo hi) Q):(slcV h (.scr ns) lo hi).wp h Q:=wp_new rfl q
theorem XN{K:Val×Hs->Prop}(e1:h a=some (.lst xs))(m:xs.length<lim)(q:K (.non,upd h a<|.lst<|xs++[v])):go (bmV h .append (.ref a) [v]) K:=go_of (by show(lsOf<|h a).bind _=_;rw[lsE e1];exact if_pos m) q
theorem A0{K:Val×Hs->Prop}(e1:h a=some (.dct kvs))(hk:isKey v=true)(q:K ((lookK kvs v).getD .non,h)):go (bmV h .dget (.ref a) [v]) K:=go_of (by show(dcOf<|h a).bind _=_;rw[dcE e1];exact if_pos hk) q
theorem it_lst{K:(Hs->Prop)×List Val->Prop}(e1:h a=some (.lst xs))(q:K (fun g=>lsOf (g a)=some xs,xs)):go (itV h<|.ref a) K:=go_of (by unfold itV;simp only[e1,lsOf,Ľ]) q
theorem it_scr{K:(Hs->Prop)×List Val->Prop}(q:K (fun _=>True,ns.map Val.int)):go (itV h<|.scr ns) K:=go_of rfl q
theorem it_tup{K:(Hs->Prop)×List Val->Prop}(q:K (fun _=>True,xs)):go (itV h<|.tup xs) K:=go_of rfl q
theorem Rz{K:List Val->Prop}(q:K xs):go (JC h<|.tup xs) K:=go_of rfl q
theorem RE{K:List Val->Prop}(e1:h a=some (.lst xs))(q:K xs):go (JC h<|.ref a) K:=go_of (by unfold JC;simp only[e1,lsOf]) q
variable {A:Prop} {B:Prop}
theorem ifT(e:c=true)(q:A):if c=true then A else B:=by rw[if_pos e];exact q
theorem ifF(e:c=false)(q:B):if c=true then A else B:=by rw[if_neg<|by rw[e];decide];exact q
theorem ifD(q:c=true->A)(r:c=false->B):if c=true then A else B:=by cases c;exact r rfl;exact q rfl
variable {p:Prop}
theorem ifP[Decidable p](q:p->A)(r:¬p->B):if decide p=true then A else B:=by
 by_cases e:p
 .rw[if_pos<|decide_eq_true e];exact q e
 .rw[if_neg<|by simpa using e];exact r e
theorem DM[Decidable p](q:¬p->A)(r:p->B):if(!decide p)=true then A else B:=by
 by_cases e:p
 .rw[if_neg<|by simpa using e];exact r e
 .rw[if_pos<|by simpa using e];exact q e
end
structure Ext(h g:Hs):Prop where
 get:∀{a:Ad}{o:Ob},h a=some o->g a=some o
variable {h:Hs}
theorem Ext.refl:Ext h h:=⟨fun e=>e⟩
variable {g:Hs}
theorem Ext.trans{k:Hs}(e:Ext h g)(f:Ext g k):Ext h k:=⟨fun x=>f.get<|e.get x⟩
variable {p:Ad} {o:Ob}
theorem Ext.new(e:h p=none):Ext h<|upd h p o:=⟨fun{a u} x=>by
  rw[upd_ne<|by intro z;rw[z,e]at x;cases x];exact x⟩
structure ExtB(w:Ad)(h g:Hs):Prop where
 get:∀{a:Ad}{o:Ob},a≠w->h a=some o->g a=some o
variable {w:Ad}
theorem ExtB.refl:ExtB w h h:=⟨fun _ e=>e⟩
theorem ExtB.trans{k:Hs}(e:ExtB w h g)(f:ExtB w g k):ExtB w h k:=⟨fun n x=>f.get n<|e.get n x⟩
theorem ExtB.upd:ExtB w h<|upd h w o:=⟨fun n x=>by rw[upd_ne n];exact x⟩
theorem ExtB.of(e:Ext h g):ExtB w h g:=⟨fun _ x=>e.get x⟩
variable {a:Ad}
theorem Za(x:h a=some o)(n:h p=none):a≠p:=by intro z;rw[z,n]at x;cases x
theorem ne_none'(n:h p=none)(x:h a=some o):a≠p:=Za x n
theorem upd_ne'{b:Ad}{r:Option Ob}(n:b≠a)(e:h b=r):upd h a o b=r:=by rw[upd_ne n];exact e
variable {st:Hs->Prop} {xs:List Val}
theorem Zl{W:Val->Env->Hs->NQ->NQ->Prop}{N:NQ}(I:Nat->Env->Hs->Prop){env:Env}(h0:I 0 env h)(Γ:∀i e g,i<=xs.length->I i e g->st g)
  (step:∀i v e g,xs[i]?=some v->I i e g->∀K:NQ,(∀e' g',I (i+1) e' g'->K e' g')->W v e g K N) (fin:∀e g,I xs.length e g->N e g):wFor st W N xs env h:=by
 have key:∀(ys:List Val) (i:Nat) e g,xs.drop i=ys->i<=xs.length->I i e g->wFor st W N ys e g:=by
  intro ys;induction ys with
  |nil =>
   intro i e g hd hi hI;have:i=xs.length:=by have:=congrArg List.length hd;simp at this;omega
   subst this;exact⟨Γ _ e g (Î _) hI,fin e g hI⟩
  |cons v vs ih =>
   intro i e g hd hi hI;have Ν:i<xs.length:=by have:=congrArg List.length hd;simp at this;omega
   have hv:xs[i]?=some v:=by have:=congrArg (fun l=>l[0]?) hd;simpa using this
   refine⟨Γ i e g hi hI,step i v e g hv hI _ fun e' g' hI'=>ih (i+1) e' g' ?_ (by omega) hI'⟩;have:=congrArg List.tail hd;simpa using this
 exact key xs 0 env h (by simp) (by omega) h0
variable {Q:List Val->Hs->Prop} {X:XQ}
theorem YK{step:Val->Hs->(Option Val->Hs->Prop)->XQ->Prop}(I:Nat->List Val->Hs->Prop)(h0:I 0 [] h)(Γ:∀i ys g,i<=xs.length->I i ys g->st g)
  (go:∀i v ys g,xs[i]?=some v->I i ys g->∀K,(∀r g',I (i+1) (ys++r.toList) g'->K r g')->step v g K X) (fin:∀ys g,I xs.length ys g->Q ys g):wComp st step xs [] h Q X:=by
 have key:∀(zs:List Val) (i:Nat) ys g,xs.drop i=zs->i<=xs.length->I i ys g->wComp st step zs ys g Q X:=by
  intro zs;induction zs with
  |nil =>
   intro i ys g hd hi hI;have:i=xs.length:=by have:=congrArg List.length hd;simp at this;omega
   subst this;exact⟨Γ _ ys g (Î _) hI,fin ys g hI⟩
  |cons v vs ih =>
   intro i ys g hd hi hI;have Ν:i<xs.length:=by have:=congrArg List.length hd;simp at this;omega
   have hv:xs[i]?=some v:=by have:=congrArg (fun l=>l[0]?) hd;simpa using this
   refine⟨Γ i ys g hi hI,go i v ys g hv hI _ fun r g' hI'=>ih (i+1) _ g' ?_ (by omega) hI'⟩;have:=congrArg List.tail hd;simpa using this
 exact key xs 0 [] h (by simp) (by omega) h0
theorem Xf{step:Val->Hs->(Option Val->Hs->Prop)->XQ->Prop}(f:Val->Option Val)(Γ:st h)
  (go:∀v∈xs,∀K,K (f v) h->step v h K X) (fin:Q (xs.filterMap f) h):wComp st step xs [] h Q X:=by
 have key:∀(zs ys:List Val),(∀v∈zs,v∈xs)->Q (ys++zs.filterMap f) h->wComp st step zs ys h Q X:=by
  intro zs;induction zs with
  |nil=>intro ys _ q;exact⟨Γ,by simpa using q⟩
  |cons v vs ih =>
   intro ys hm q;refine⟨Γ,go v (hm v<|by simp) _<|ih _ (fun w hw=>hm w<|by simp[hw]) ?_⟩;cases e:f v with
   |none=>simpa[Ć,e]using q
   |some u=>simpa[Ć,e]using q
 exact key xs [] (fun _ h=>h) (by simpa using fin)
section
variable {Φ:Fs}{env:Env}{h:Hs}{Q:Q1}{X:XQ}{a b c e o:E}{as:Es}{v u:Val}
theorem q_e_bi{f:Bi}:(wE Φ (.bi f as) env h Q X)=(wA Φ as env h (fun vs h1=>(biV h1 f vs).wp h1 Q) X):=rfl
variable {es:Es}
theorem q_e_dct:(wE Φ (.dct es) env h Q X)=(new h (.dct []) fun r h1=>go (asRef r) fun p=>wA Φ es env h1 (fun vs h2=>go (pairUp vs) fun kvs=>h2 p=some (.dct [])/\Q (.ref p) (upd h2 p<|.dct<|putAll [] kvs)) X):=by show NF _ _ _ _=_;unfold NF;rfl
variable {QA:List Val->Hs->Prop}{QO:Option Int->Hs->Prop}{QT:Bool->Hs->Prop}{QI:(Hs->Prop)->List Val->Hs->Prop}
theorem q_a_nil:(wA Φ .nil env h QA X)=(QA [] h):=rfl
theorem q_a_cons:(wA Φ (.cons e es) env h QA X)=(wE Φ e env h (fun v h1=>wA Φ es env h1 (fun vs h2=>QA (v::vs) h2) X) X):=rfl
end
mutual
theorem D.eqv_refl:∀d:D,D.eqv d d=true
 |.non=>by simp[D.eqv]
 |.bl _=>by simp[D.eqv]
 |.int _=>by simp[D.eqv]
 |.str _=>by simp[D.eqv]
 |.tup ds=>by simp only[D.eqv];exact D.eqvs_refl ds
 |.lst ds=>by simp only[D.eqv];exact D.eqvs_refl ds
theorem D.eqvs_refl:∀ds:List D,D.eqvs ds ds=true
 |[]=>by simp[D.eqvs]
 |d::ds=>by simp only[D.eqvs,D.eqv_refl d,D.eqvs_refl ds,bg]
end
theorem WB{α:Type}{o:Option α}{k k':α->Prop}(h:go o k)(f:∀a,k a->k' a):go o k':=by
 cases o with
 |none=>rw[DL]at h;exact h.elim
 |some a=>rw[go_some]at h ⊢;exact f a h
section
variable {Φ:Fs}{env:Env}{h:Hs}{Q:Q1}{X:XQ}{a:Ad}{v:Val}{kvs:List (Val×Val)}
theorem G7(q:∀p,h p=none->Q (.ref p) (upd h p<|.dct [])):wE Φ (.dct .nil) env h Q X:=by refine P0<|YO fun p hp=>g_ref<|Pc<|go_of rfl ⟨upd_same,?_⟩;rw[upd_upd];exact q p hp
theorem dw0(q:∀p,h p=none->Q (.ref p) (upd h p<|.dct [])):NF (xA Φ .nil env) h Q X:=G7 q
theorem dw{F:Hs->(List Val->Hs->Prop)->XQ->Prop}(q:new h (.dct []) fun r h1=>go (asRef r) fun p=>F h1 (fun vs h2=>go (pairUp vs) fun kvs=>h2 p=some (.dct [])/\Q (.ref p) (upd h2 p<|.dct<|putAll [] kvs)) X):NF F h Q X:=by unfold NF;exact q
theorem Qe{i:Nat}{K:Val->Prop}(g:getV env i=some v)(q:K v):go (getV env i) K:=go_of g q
theorem dc_of{K:List (Val×Val)->Prop}(e1:h a=some (.dct kvs))(q:K kvs):go (dcOf<|h a) K:=go_of (dcE e1) q
end
end O
namespace Snd
open PySem L2
def KT(K:Frag)(a:È)(xs:List V):Prop :=
 ∃(o:Obj) (î:Array Ã) (n:Nat),K.lookup a=some o/\o.cls=.type "tuple"/\o.data=.seq î n/\î.size<=Ø/\Vals xs î.toList
def KL(K:Frag)(a:È)(xs:List V):Prop :=
 ∃(o:Obj) (î:Array Ã) (n:Nat),K.lookup a=some o/\o.cls=.type "list"/\o.dict=none/\o.data=.seq î n/\î.size<=Ø/\Vals xs î.toList
mutual
inductive RV (K:Frag) (H:Hp):O.Val->V->Prop
 |non:RV K H .non .non
 |bl (b:Bool):RV K H (.bl b)<|.bl b
 |int (i:Int):RV K H (.int i)<|.int i
 |str (s:String):RV K H (.str s)<|.str<|Str.ofString s
 |tup {xs:List O.Val}{a:È}{vs:List V}:(H a=some (.tup vs)\/KT K a vs)->RVs K H xs vs->RV K H (.tup xs) (.ref a)
 |ref (a:È):RV K H (.ref a)<|.ref a
 |scr {ns:List Int}{a:È}:((∃o,H a=some (.frz o<|.lst<|ns.map V.int))\/KL K a (ns.map V.int))->RV K H (.scr ns) (.ref a)
 |key {i j:Int}{a:È}:H a=some (.tup [.int i,.int j])->RV K H (.key i j) (.ref a)
inductive RVs (K:Frag) (H:Hp):List O.Val->List V->Prop
 |nil:RVs K H [] []
 |cons {v:O.Val}{x:V}{vs:List O.Val}{xs:List V}:RV K H v x->RVs K H vs xs->RVs K H (v::vs) (x::xs)
end
structure Keep(H H':Hp):Prop where
 t:∀a xs,H a=some (.tup xs)->H' a=some (.tup xs)
 f:∀a o u,H a=some (.frz o u)->H' a=some (.frz o u)
theorem Keep.refl(H:Hp):Keep H H:=⟨fun _ _ e=>e,fun _ _ _ e=>e⟩
variable {H:Hp}
theorem Keep.trans{H1 H2:Hp}(a:Keep H H1)(b:Keep H1 H2):Keep H H2:=⟨fun c xs e=>b.t c xs<|a.t c xs e,fun c o u e=>b.f c o u<|a.f c o u e⟩
variable {a:È} {o:HO}
theorem Keep.put(h:∀xs,H a≠some (.tup xs))(h2:∀p u,H a≠some (.frz p u)):Keep H<|upd H a o:=⟨fun b xs e=>by
  rw[upd_ne<|by rintro rfl;exact h xs e];exact e,fun b p u e=>by rw[upd_ne<|by rintro rfl;exact h2 p u e];exact e⟩
theorem Keep.new(h:H a=none):Keep H<|upd H a o:=Keep.put (fun xs e=>by rw[h]at e;cases e) fun p u e=>by rw[h]at e;cases e
variable {K:Frag}{H H':Hp}
mutual
theorem RV.keep(k:Keep H H'):∀{v:O.Val}{x:V},RV K H v x->RV K H' v x
 |_,_,.non=>.non
 |_,_,.bl b=>.bl b
 |_,_,.int i=>.int i
 |_,_,.str s=>.str s
 |_,_,.tup (.inl e) r=>.tup (.inl<|k.t _ _ e)<|RVs.keep k r
 |_,_,.tup (.inr e) r=>.tup (.inr e)<|RVs.keep k r
 |_,_,.ref a=>.ref a
 |_,_,.scr (.inl ⟨o,e⟩)=>.scr<|.inl ⟨o,k.f _ _ _ e⟩
 |_,_,.scr (.inr e)=>.scr<|.inr e
 |_,_,.key e=>.key<|k.t _ _ e
theorem RVs.keep(k:Keep H H'):∀{vs:List O.Val}{xs:List V},RVs K H vs xs->RVs K H' vs xs
 |_,_,.nil=>.nil
 |_,_,.cons r t=>.cons (RV.keep k r)<|RVs.keep k t
end
theorem RVs.length:∀{vs:List O.Val}{xs:List V},RVs K H vs xs->vs.length=xs.length
 |_,_,.nil=>rfl
 |_,_,.cons _ t=>by rw[Ì,Ì,RVs.length t]
theorem RVs.get:∀{vs:List O.Val}{xs:List V}{i:Nat}{v:O.Val},RVs K H vs xs->vs[i]?=some v->∃x,xs[i]?=some x/\RV K H v x
 |_,_,_,_,.nil,e=>by simp at e
 |_,_,0,_,.cons r _,e=>by simp at e;subst e;exact⟨_,rfl,r⟩
 |_,_,i+1,v,.cons _ t,e=>by obtain⟨x,h1,h2⟩:=RVs.get (i:=i) (v:=v) t (by simpa using e);exact⟨x,by simpa using h1,h2⟩
theorem RVs.append:∀{vs us:List O.Val}{xs ys:List V},RVs K H vs xs->RVs K H us ys->RVs K H (vs++us) (xs++ys)
 |_,_,_,_,.nil,h=>h
 |_,_,_,_,.cons r t,h=>.cons r<|RVs.append t h
theorem RVs.set{v:O.Val}{x:V}(r:RV K H v x):∀{vs:List O.Val}{xs:List V}(i:Nat),RVs K H vs xs->RVs K H (vs.set i v) (xs.set i x)
 |_,_,_,.nil=>.nil
 |_,_,0,.cons _ t=>.cons r t
 |_,_,i+1,.cons q t=>.cons q<|RVs.set r i t
theorem RVs.take:∀{vs:List O.Val}{xs:List V}(n:Nat),RVs K H vs xs->RVs K H (vs.take n) (xs.take n)
 |_,_,0,_=>.nil
 |_,_,_+1,.nil=>.nil
 |_,_,n+1,.cons r t=>.cons r<|RVs.take n t
theorem RVs.drop:∀{vs:List O.Val}{xs:List V}(n:Nat),RVs K H vs xs->RVs K H (vs.drop n) (xs.drop n)
 |_,_,0,r=>r
 |_,_,_+1,.nil=>.nil
 |_,_,n+1,.cons _ t=>RVs.drop n t
variable {vs:List O.Val} {xs:List V}
theorem RVs.reverse(r:RVs K H vs xs):RVs K H vs.reverse xs.reverse:=by
 induction r using RVs.rec (motive_1:=fun _ _ _=>True)with
 |nil=>exact .nil
 |cons r t _ ih=>rw[Ε,Ε];exact ih.append<|.cons r .nil
 |_=>trivial
theorem RVs.eraseIdx:∀{vs:List O.Val}{xs:List V}(i:Nat),RVs K H vs xs->RVs K H (vs.eraseIdx i) (xs.eraseIdx i)
 |_,_,_,.nil=>.nil
 |_,_,0,.cons _ t=>t
 |_,_,i+1,.cons q t=>.cons q<|RVs.eraseIdx i t
theorem RVs.dropLast(r:RVs K H vs xs):RVs K H vs.dropLast xs.dropLast:=by rw[ca,ca,r.length];exact r.take _
theorem Zf{vs:List V}(h:H a=some (.tup vs)\/KT K a vs):SqT K H a vs:=by
 rcases h with h|h
 .exact SqT.of h
 .exact .inr h
structure Inf where
 K:Frag
 cl:String->È->Prop
 ins:String->Bool
 xc:String->È->Prop
def Wt:O.Val->Key->Prop
 |.int i,.inl j=>i=j
 |.str s,.inr t=>t=Str.ofString s
 |_,_=>False
inductive RKs (K:Frag) (H:Hp):List (O.Val×O.Val)->List (Key×V)->Prop
 |nil:RKs K H [] []
 |cons {k v:O.Val}{c:Key}{x:V}{kvs:List (O.Val×O.Val)}{ps:List (Key×V)}:Wt k c->RV K H v x->RKs K H kvs ps->RKs K H ((k,v)::kvs) ((c,x)::ps)
inductive RFs (K:Frag) (H:Hp):List (String×O.Val)->List (Str×V)->Prop
 |nil:RFs K H [] []
 |cons {f:String}{v:O.Val}{x:V}{fs:List (String×O.Val)}{ps:List (Str×V)}:RV K H v x->RFs K H fs ps->RFs K H ((f,v)::fs) ((Str.ofString f,x)::ps)
theorem RKs.keep(k:Keep H H'):∀{kvs:List (O.Val×O.Val)}{ps:List (Key×V)},RKs K H kvs ps->RKs K H' kvs ps
 |_,_,.nil=>.nil
 |_,_,.cons a r t=>.cons a (r.keep k)<|RKs.keep k t
inductive RTs (K:Frag) (H:Hp):List (O.Val×O.Val)->List (List Key×V)->Prop
 |nil:RTs K H [] []
 |cons {i j:Int}{v:O.Val}{x:V}{kvs:List (O.Val×O.Val)}{ps:List (List Key×V)}:RV K H v x->RTs K H kvs ps->RTs K H ((.key i j,v)::kvs) (([.inl i,.inl j],x)::ps)
theorem RTs.keep(k:Keep H H'):∀{kvs:List (O.Val×O.Val)}{ps:List (List Key×V)},RTs K H kvs ps->RTs K H' kvs ps
 |_,_,.nil=>.nil
 |_,_,.cons r t=>.cons (r.keep k)<|RTs.keep k t
theorem RFs.keep(k:Keep H H'):∀{fs:List (String×O.Val)}{ps:List (Str×V)},RFs K H fs ps->RFs K H' fs ps
 |_,_,.nil=>.nil
 |_,_,.cons r t=>.cons (r.keep k)<|RFs.keep k t
def RO(i:Inf)(H:Hp)(a:È):O.Ob->Prop
 |.lst xs=>∃vs,H a=some (.lst vs)/\RVs i.K H xs vs
 |.dct kvs=>∃ps,H a=some (.dK ps)/\RKs i.K H kvs ps
 |.ins C fs=>∃c dx ps,i.ins C=true/\i.cl C c/\H a=some (.ins c dx ps)/\RFs i.K H fs ps
 |.exc C=>∃c,i.xc C c/\H a=some (xcO a<|.ref c)
 |.frz kvs=>∃o ps,H a=some (.frz o<|.dK ps)/\RKs i.K H kvs ps
 |.dtp kvs=>∃ps,H a=some (.dT ps)/\RTs i.K H kvs ps
variable {i:Inf}
theorem RO.there{o:O.Ob}(r:RO i H a o):∃u,H a=some u:=by
 cases o with
 |lst xs=>obtain⟨_,e,_⟩:=r;exact⟨_,e⟩
 |dct kvs=>obtain⟨_,e,_⟩:=r;exact⟨_,e⟩
 |ins C fs=>obtain⟨_,_,_,_,_,e,_⟩:=r;exact⟨_,e⟩
 |exc C=>obtain⟨_,_,e⟩:=r;exact⟨_,e⟩
 |frz kvs=>obtain⟨_,_,e,_⟩:=r;exact⟨_,e⟩
 |dtp kvs=>obtain⟨_,e,_⟩:=r;exact⟨_,e⟩
theorem RO.move{o:O.Ob}(r:RO i H a o)(k:Keep H H')(e:H' a=H a):RO i H' a o:=by
 cases o with
 |lst xs=>obtain⟨vs,q,r⟩:=r;exact⟨vs,e.trans q,r.keep k⟩
 |dct kvs=>obtain⟨ps,q,r⟩:=r;exact⟨ps,e.trans q,r.keep k⟩
 |ins C fs=>obtain⟨c,dx,ps,h0,h,q,r⟩:=r;exact⟨c,dx,ps,h0,h,e.trans q,r.keep k⟩
 |exc C=>obtain⟨c,h,q⟩:=r;exact⟨c,h,e.trans q⟩
 |frz kvs=>obtain⟨o,ps,q,r⟩:=r;exact⟨o,ps,e.trans q,r.keep k⟩
 |dtp kvs=>obtain⟨ps,q,r⟩:=r;exact⟨ps,e.trans q,r.keep k⟩
def RH(i:Inf)(G:O.Hs)(H:Hp):Prop:=∀a o,G a=some o->RO i H a o
variable {G:O.Hs}
theorem RH.free(r:RH i G H)(e:H a=none):G a=none:=by
 cases q:G a with
 |none=>rfl
 |some o=>obtain⟨u,z⟩:=(r a o q).there;rw[e]at z;cases z
theorem RH.put{o:O.Ob}{u:HO}(r:RH i G H)(k:Keep H<|upd H a u)(n:RO i (upd H a u) a o):RH i (O.upd G a o)<|upd H a u:=fun b p e=>by
 by_cases hb:b=a
 .subst hb;rw[O.upd_same]at e;cases e;exact n
 .rw[O.upd_ne hb]at e;exact(r b p e).move k<|upd_ne hb
theorem RH.hid(r:RH i G H)(k:Keep H H')(e:∀a o,G a=some o->H' a=H a):RH i G H':=fun b p q=>(r b p q).move k (e b p q)
structure REn(K:Frag)(H:Hp)(env:O.Env)(σ:St):Prop where
 len:env.length=σ.length
 get:∀(i:Nat) (v:O.Val),env[i]?=some (some v)->∃x,σ[i]?=some (some x)/\RV K H v x
variable {σ:St}
theorem REn.keep{env:O.Env}(r:REn K H env σ)(k:Keep H H'):REn K H' env σ:=⟨r.len,fun i v e=>by
  obtain⟨x,h1,h2⟩:=r.get i v e
  exact⟨x,h1,h2.keep k⟩⟩
theorem REn.set{env:O.Env}{v:O.Val}{x:V}(r:REn K H env σ)(q:RV K H v x)(j:Nat):REn K H (env.set j<|some v)<|σ.set j<|some x:=⟨by simp[r.len],fun i u e=>by
  by_cases hij:j=i
  . subst hij
    rw[List.getElem?_set_self']at e
    cases z:env[j]? with
    |none=>rw[z]at e;cases e
    |some w =>
      rw[z]at e
      cases e
      have hj:j<σ.length:=by rw[<-r.len];exact(Í.mp z).1
      exact⟨x,Τ hj,q⟩
  . rw[Ż hij]at e
    obtain⟨y,h1,h2⟩:=r.get i u e
    exact⟨y,by rw[Ż hij];exact h1,h2⟩⟩
theorem REn.start{n:Nat}(r:RVs K H vs xs):REn K H (vs.map some++Ö n none)<|xs.map some++Ö n none:=⟨by simp[r.length],fun i v e=>by
  by_cases hi:i<vs.length
  . rw[Ċ (by simpa using hi),Ù]at e
    cases z:vs[i]? with
    |none=>rw[z]at e;cases e
    |some w =>
      rw[z]at e
      cases e
      obtain⟨x,h1,h2⟩:=r.get z
      exact⟨x,by rw[Ċ (by rw[Â,<-r.length];exact hi),Ù,h1];rfl,h2⟩
  . rw[Ē (by simpa using hi),ň]at e
    split at e<;>cases e⟩
theorem RVs.ints{K:Frag}{H:Hp}:∀ns:List Int,RVs K H (ns.map O.Val.int) (ns.map V.int)
 |[]=>.nil
 |n::ns=>.cons (.int n)<|RVs.ints ns
theorem Z5{ns:List Int}(h:(∃o,H a=some (.frz o<|.lst<|ns.map V.int))\/KL K a (ns.map V.int)):SqL K H a<|ns.map V.int:=by
 rcases h with⟨o,h⟩|h
 .exact .inl<|.inr ⟨o,h⟩
 .exact .inr h
variable {i:Inf}{X:Cx}{Φ:O.Fs}
noncomputable def XK1(i:Inf)(H:Hp)(Em:O.XQ):XK:=fun cls _ H'=>∃c G' ad,cls=.ref ad/\i.xc c ad/\Keep H H'/\RH i G' H'/\Em c G'
def XOk(X:Cx)(i:Inf)(H:Hp)(Em:O.XQ):Prop:=XW X<|XK1 i H Em
variable {H:Hp} {H1:Hp} {Em:O.XQ}
theorem XK1.go{H':Hp}{cls:Ã}{d:Option È}(k:Keep H H1)(h:XK1 i H1 Em cls d H'):XK1 i H Em cls d H':=by obtain⟨c,G',ad,e,q,k',r,m⟩:=h;exact⟨c,G',ad,e,q,k.trans k',r,m⟩
theorem XOk.go(x:XOk X i H Em)(k:Keep H H1):XOk X i H1 Em:=fun Á σ H0 s H' a cls s' I f e=>x Á σ H0 s H' a cls s' I f (e.go k)
structure Pre(X:Cx)(i:Inf)(σ:St)(H:Hp)(env:O.Env)(G:O.Hs)(Em:O.XQ):Prop where
 en:REn i.K H env σ
 hp:RH i G H
 xo:XOk X i H Em
variable {σ:St} {G:O.Hs}
theorem Pre.go{env:O.Env}{G1:O.Hs}(p:Pre X i σ H env G Em)(k:Keep H H1)(r:RH i G1 H1):Pre X i σ H1 env G1 Em:=⟨p.en.keep k,r,p.xo.go k⟩
def Cn(i:Inf)(H:Hp)(Q:VK)(Qm:O.Q1):Prop:=∀v G' H' x,Keep H H'->RH i G' H'->RV i.K H' v x->Qm v G'->Q x H'
variable {Q:VK} {Qm:O.Q1}
theorem Cn.go(c:Cn i H Q Qm)(k:Keep H H1):Cn i H1 Q Qm:=fun v G' H' x k'=>c v G' H' x (k.trans k')
inductive tEx (X:Cx) (i:Inf) (Φ:O.Fs) (m:O.E) (σ:St) (H:Hp) (Q:VK):Prop
 |mk (env:O.Env) (G:O.Hs) (Qm:O.Q1) (Em:O.XQ) (p:Pre X i σ H env G Em) (w:O.wE Φ m env G Qm Em) (c:Cn i H Q Qm)
noncomputable def tE(X:Cx)(i:Inf)(Φ:O.Fs)(m:O.E):TE:=tEx X i Φ m
inductive tArx (X:Cx) (i:Inf) (Φ:O.Fs) (ms:O.Es) (n:Nat) (σ:St) (H:Hp) (Q:List V->Hp->Prop):Prop
 |mk (env:O.Env) (G:O.Hs) (Qm:List O.Val->O.Hs->Prop) (Em:O.XQ) (p:Pre X i σ H env G Em) (w:O.wA Φ ms env G Qm Em) (c:∀vs G' H' xs,Keep H H'->RH i G' H'->RVs i.K H' vs xs->xs.length=n->Qm vs G'->Q xs H')
noncomputable def tAr(X:Cx)(i:Inf)(Φ:O.Fs)(ms:O.Es)(n:Nat):TA:=tArx X i Φ ms n
inductive tTtx (X:Cx) (i:Inf) (Φ:O.Fs) (m:O.Tt) (σ:St) (H:Hp) (Q:Bool->Hp->Prop):Prop
 |mk (env:O.Env) (G:O.Hs) (Qm:Bool->O.Hs->Prop) (Em:O.XQ) (p:Pre X i σ H env G Em) (w:O.wT Φ m env G Qm Em) (c:∀b G' H',Keep H H'->RH i G' H'->Qm b G'->Q b H')
noncomputable def tTt(X:Cx)(i:Inf)(Φ:O.Fs)(m:O.Tt):TT:=tTtx X i Φ m
variable {e:Expr}
theorem _root_.L2.PE.imp{t t':TE}(h:PE X e t)(f:∀σ H Q,t' σ H Q->t σ H Q):PE X e t':=fun Á s σ H Q I q=>h Á s σ H Q I (f σ H Q q)
variable {t':TT}
theorem _root_.L2.PT.imp{t:TT}(h:PT X e t)(f:∀σ H Q,t' σ H Q->t σ H Q):PT X e t':=fun Á s σ H Q I q=>h Á s σ H Q I (f σ H Q q)
theorem _root_.L2.PW.imp{t:TT}(h:PW X e t)(f:∀σ H Q,t' σ H Q->t σ H Q):PW X e t':=fun wh Á s σ H Q I q=>h wh Á s σ H Q I (f σ H Q q)
variable {es:List Expr}
theorem _root_.L2.PA.imp{t t':TA}(h:PA X es t)(f:∀σ H Q,t' σ H Q->t σ H Q):PA X es t':=fun pos Á s σ H Q I q=>h pos Á s σ H Q I (f σ H Q q)
variable {j:Nat}
theorem LX{env:O.Env}{h:O.Hs}{Q:O.Q1}{E:O.XQ}:(O.wE Φ (.var j) env h Q E)=(O.go (O.getV env j) fun v=>Q v h):=rfl
theorem go_some{α:Type}{o:Option α}{k:α->Prop}(h:O.go o k):∃a,o=some a/\k a:=by
 cases o with
 |none=>simp at h
 |some a=>exact⟨a,rfl,by simpa using h⟩
theorem UN{env:O.Env}{v:O.Val}(h:O.getV env j=some v):env[j]?=some (some v):=by
 unfold O.getV at h;split at h
 .rename_i u e;cases h;exact e
 .cases h
variable {pos:Pos}
theorem P1{x:Str}(hN:X.N[j]?=some x)(hv:Vis X.env.scope x)(hd:(x==("__debug__" : Str))=false)(aE:(x==("__classdict__" : Str))=false):PE X (.Name x pos) (tE X i Φ<|.var j) :=
 (LA hN hv hd aE).imp fun σ H Q ⟨env,G,Qm,Em,p,w,c⟩=>by rw[LX]at w;obtain⟨v,e,q⟩:=go_some w;obtain⟨y,h1,h2⟩:=p.en.get j v<|UN e;exact⟨y,h1,c v G H y (Keep.refl H) p.hp h2 q⟩
variable {x:V}
theorem WI{v:O.Val}(h:PE X e<|tC x)(r:∀H,RV i.K H v x):PE X e (tE X i Φ<|.cst v) :=
 h.imp fun σ H Q ⟨env,G,Qm,Em,p,w,c⟩=>by exact c v G H x (Keep.refl H) p.hp (r H) w
theorem GR{y:String}{v:O.Val}(h:PE X e<|tC x)(r:∀H,RV i.K H v x):PE X e (tE X i Φ<|.glob y v) :=
 h.imp fun σ H Q ⟨env,G,Qm,Em,p,w,c⟩=>by exact c v G H x (Keep.refl H) p.hp (r H) w
variable {a:O.E}
theorem two{b:O.E}{env:O.Env}{F:O.Val->O.Val->O.Hs->Prop}{R:V->V->Hp->Prop}(p:Pre X i σ H env G Em)
  (w:O.wE Φ a env G (fun v G1=>O.wE Φ b env G1 (fun u G2=>F v u G2) Em) Em)
  (h:∀v u G2 H2 x y,Keep H H2->Pre X i σ H2 env G2 Em->RV i.K H2 v x->RV i.K H2 u y->F v u G2->R x y H2):tE X i Φ a σ H fun x H1=>tE X i Φ b σ H1 fun y H2=>R x y H2 :=
 ⟨env,G,_,Em,p,w,fun v G1 H1 x k1 g1 r1 w1=>⟨env,G1,_,Em,p.go k1 g1,w1,fun u G2 H2 y k2 g2 r2 w2=>h v u G2 H2 x y (k1.trans k2) ((p.go k1 g1).go k2 g2) (r1.keep k2) r2 w2⟩⟩
theorem one{env:O.Env}{F:O.Val->O.Hs->Prop}{R:V->Hp->Prop}(p:Pre X i σ H env G Em)
  (w:O.wE Φ a env G (fun v G1=>F v G1) Em) (h:∀v G1 H1 x,Keep H H1->Pre X i σ H1 env G1 Em->RV i.K H1 v x->F v G1->R x H1):tE X i Φ a σ H fun x H1=>R x H1 :=
 ⟨env,G,_,Em,p,w,fun v G1 H1 x k1 g1 r1 w1=>h v G1 H1 x k1 (p.go k1 g1) r1 w1⟩
def JF(i:Inf)(op:O.Bop)(r:R2):Prop:=∀(v u:O.Val) (G:O.Hs) (H:Hp) (x y:V) (Q:VK) (Qm:O.Q1),RH i G H->RV i.K H v x->RV i.K H u y->(O.binV G op v u).wp G Qm->Cn i H Q Qm->r x y H Q
variable {b:Expr} {ma:O.E} {mb:O.E} {r:R2}
theorem KN{a:Expr}{op:aG}{bop:O.Bop}(ho:OpR X (ń op) r)(hr:JF i bop r)(ha:PE X a<|tE X i Φ ma)(hb:PE X b<|tE X i Φ mb):PE X (.BinOp a op b pos) (tE X i Φ<|.bin bop ma mb) :=
 (Qp ho ha hb).imp fun σ H Q ⟨env,G,Qm,Em,p,w,c⟩=>by exact two p w fun v u G2 H2 x y k2 p2 rx ry q=>hr v u G2 H2 x y Q Qm p2.hp rx ry q<|c.go k2
def ZT(i:Inf)(op:O.Cop)(r:R2):Prop:=∀(v u:O.Val) (G:O.Hs) (H:Hp) (x y:V) (c:Bool) (Q:VK),RH i G H->RV i.K H v x->RV i.K H u y->O.cmpV G op v u=some c->Q (.bl c) H->r x y H Q
variable {op:bU} {cop:O.Cop}
theorem Px{a:Expr}(ho:OpR X (è op) r)(hr:ZT i cop r)(ha:PE X a<|tE X i Φ ma)(hb:PE X b<|tE X i Φ mb)(hm:Ĺ op b=false):PE X (.Compare a [op] [b] pos) (tE X i Φ<|.cmp cop ma mb) :=
 (Up ho ha hb hm).imp fun σ H Q ⟨env,G,Qm,Em,p,w,c⟩=>by
  exact two p w fun v u G2 H2 x y k2 p2 rx ry q=>by obtain⟨d,e,q⟩:=go_some q;exact hr v u G2 H2 x y d Q p2.hp rx ry e<|c (.bl d) G2 H2 (.bl d) k2 p2.hp (.bl d) q
theorem Ic{a:Expr}(ho:OpR X (è op) r)(hr:ZT i cop r)(ha:PE X a<|tE X i Φ ma)(hb:PE X b<|tE X i Φ mb)(hm:Ĺ op b=false):PT X (.Compare a [op] [b] pos) (tTt X i Φ<|.val<|.cmp cop ma mb) :=
 (Ug ho ha hb hm).imp fun σ H Q ⟨env,G,Qm,Em,p,w,c⟩=>by
  exact two p w fun v u G2 H2 x y k2 p2 rx ry q=>by obtain⟨d,e,q⟩:=go_some q;obtain⟨d',e',q⟩:=go_some q;cases e';exact hr v u G2 H2 x y d _ p2.hp rx ry e ⟨d,rfl,c d G2 H2 k2 p2.hp q⟩
theorem We{v:O.Val}{b:Bool}(h:O.asBl v=some b):v=.bl b:=by cases v<;>simp_all [O.asBl]
theorem ZH{v:O.Val}{b:Int}(h:O.asInt v=some b):v=.int b:=by cases v<;>simp_all [O.asInt]
theorem Xp{v:O.Val}{b:O.Ad}(h:O.asRef v=some b):v=.ref b:=by cases v<;>simp_all [O.asRef]
theorem RV.bl_inv{K:Frag}{b:Bool}(r:RV K H (.bl b) x):x=.bl b:=by cases r;rfl
theorem RV.int_inv{K:Frag}{b:Int}(r:RV K H (.int b) x):x=.int b:=by cases r;rfl
theorem RV.ref_inv{K:Frag}{b:È}(r:RV K H (.ref b) x):x=.ref b:=by cases r;rfl
theorem RV.str_inv{K:Frag}{b:String}(r:RV K H (.str b) x):x=.str (Str.ofString b):=by cases r;rfl
theorem RV.non_inv{K:Frag}(r:RV K H .non x):x=.non:=by cases r;rfl
theorem Qu{a:Expr}(ha:PE X a<|tE X i Φ ma):PE X (.UnaryOp .Not a pos) (tE X i Φ<|.not ma) :=
 (Hw ha).imp fun σ H Q ⟨env,G,Qm,Em,p,w,c⟩=>by
  exact one p w fun v G1 H1 x k1 p1 r q=>by obtain⟨b,e,q2⟩:=go_some q;clear q;cases We e;exact⟨b,r.bl_inv,c _ G1 H1 _ k1 p1.hp (.bl _) q2⟩
theorem Pf{a:Expr}(ha:PE X a<|tE X i Φ ma):PE X (.UnaryOp .USub a pos) (tE X i Φ<|.neg ma) :=
 (Gc DA ha).imp fun σ H Q ⟨env,G,Qm,Em,p,w,c⟩=>by
  exact one p w fun v G1 H1 x k1 p1 r q=>by obtain⟨b,e,q2⟩:=go_some q;clear q;cases ZH e;exact⟨b,r.int_inv,c _ G1 H1 _ k1 p1.hp (.int _) q2⟩
theorem QD{a:Expr}{rest:List Expr}(ha:PE X a<|tE X i Φ ma)(hb:PE X (.BoolOp .And (b::rest) pos)<|tE X i Φ mb):PE X (.BoolOp .And (a::b::rest) pos) (tE X i Φ<|.and ma mb) :=
 (LI ha hb).imp fun σ H Q ⟨env,G,Qm,Em,p,w,c⟩=>by
  exact one p w fun v G1 H1 x k1 p1 r q=>by
   obtain⟨d,e,q2⟩:=go_some q;clear q;cases We e;refine⟨d,r.bl_inv,?_⟩;cases d with
   |true=>exact⟨env,G1,Qm,Em,p1,by simpa using q2,c.go k1⟩
   |false=>simp at q2 ⊢;exact c _ G1 H1 _ k1 p1.hp (.bl _) q2
theorem Q7{a:Expr}{rest:List Expr}(ha:PE X a<|tE X i Φ ma)(hb:PE X (.BoolOp .Or (b::rest) pos)<|tE X i Φ mb):PE X (.BoolOp .Or (a::b::rest) pos) (tE X i Φ<|.or ma mb) :=
 (Qk ha hb).imp fun σ H Q ⟨env,G,Qm,Em,p,w,c⟩=>by
  exact one p w fun v G1 H1 x k1 p1 r q=>by
   obtain⟨d,e,q2⟩:=go_some q;clear q;cases We e;refine⟨d,r.bl_inv,?_⟩;cases d with
   |false=>exact⟨env,G1,Qm,Em,p1,by simpa using q2,c.go k1⟩
   |true=>simp at q2 ⊢;exact c _ G1 H1 _ k1 p1.hp (.bl _) q2
theorem Ht{a:Expr}{ma:O.Tt}(ha:PT X a<|tTt X i Φ ma):PT X (.UnaryOp .Not a pos) (tTt X i Φ<|.not ma) :=
 (IM ha).imp fun σ H Q ⟨env,G,Qm,Em,p,w,c⟩=>by exact⟨env,G,_,Em,p,w,fun b G1 H1 k1 g1 q=>c (!b) G1 H1 k1 g1 q⟩
theorem Id{a:Expr}{rest:List Expr}{ma mb:O.Tt}(ha:PT X a<|tTt X i Φ ma)(hb:PW X (.BoolOp .And (b::rest) pos)<|tTt X i Φ mb):PW X (.BoolOp .And (a::b::rest) pos) (tTt X i Φ<|.and ma mb) :=
 (IT ha hb).imp fun σ H Q ⟨env,G,Qm,Em,p,w,c⟩=>by
  refine⟨env,G,_,Em,p,w,fun d G1 H1 k1 g1 q=>?_⟩;cases d with
  |true=>exact⟨env,G1,Qm,Em,p.go k1 g1,by simpa using q,fun b G2 H2 k2=>c b G2 H2<|k1.trans k2⟩
  |false=>simp at q ⊢;exact c false G1 H1 k1 g1 q
theorem Qf{a:Expr}{rest:List Expr}{ma mb:O.Tt}(ha:PT X a<|tTt X i Φ ma)(hb:PW X (.BoolOp .Or (b::rest) pos)<|tTt X i Φ mb):PW X (.BoolOp .Or (a::b::rest) pos) (tTt X i Φ<|.or ma mb) :=
 (Ps ha hb).imp fun σ H Q ⟨env,G,Qm,Em,p,w,c⟩=>by
  refine⟨env,G,_,Em,p,w,fun d G1 H1 k1 g1 q=>?_⟩;cases d with
  |false=>exact⟨env,G1,Qm,Em,p.go k1 g1,by simpa using q,fun b G2 H2 k2=>c b G2 H2<|k1.trans k2⟩
  |true=>simp at q ⊢;exact c true G1 H1 k1 g1 q
theorem Eu{a:Expr}{ma:O.Tt}(ha:PT X a<|tTt X i Φ ma):PW X (.BoolOp .And [a] pos)<|tTt X i Φ ma:=EU ha
theorem LG{a:Expr}{ma:O.Tt}(ha:PT X a<|tTt X i Φ ma):PW X (.BoolOp .Or [a] pos)<|tTt X i Φ ma:=Le ha
theorem PY{c a:Expr}{mc:O.Tt}(hc:PT X c<|tTt X i Φ mc)(ha:PE X a<|tE X i Φ ma)(hb:PE X b<|tE X i Φ mb):PE X (.IfExp c a b pos) (tE X i Φ<|.ife mc ma mb) :=
 (Db hc ha hb).imp fun σ H Q ⟨env,G,Qm,Em,p,w,c⟩=>by
  refine⟨env,G,_,Em,p,w,fun d G1 H1 k1 g1 q=>?_⟩;cases d with
  |true=>exact⟨env,G1,Qm,Em,p.go k1 g1,by simpa using q,c.go k1⟩
  |false=>exact⟨env,G1,Qm,Em,p.go k1 g1,by simpa using q,c.go k1⟩
theorem IF:PA X []<|tAr X i Φ .nil 0:=pa_nil.imp fun σ H Q ⟨env,G,Qm,Em,p,w,c⟩=>by exact c [] G H [] (Keep.refl H) p.hp .nil rfl w
theorem Fu{m:O.E}{ms:O.Es}{n:Nat}(he:PE X e<|tE X i Φ m)(hes:PA X es<|tAr X i Φ ms n)(hs:Õ (e::es) X.env=(false,eval e X.env)::Õ es X.env):PA X (e::es) (tAr X i Φ (.cons m ms)<|n+1) :=
 (ZW he hes hs).imp fun σ H Q ⟨env,G,Qm,Em,p,w,c⟩=>by exact⟨env,G,_,Em,p,w,fun v G1 H1 x k1 g1 r1 w1=>⟨env,G1,_,Em,p.go k1 g1,w1,fun vs G2 H2 xs k2 g2 r2 hn w2=>c (v::vs) G2 H2 (x::xs) (k1.trans k2) g2 (.cons (r1.keep k2) r2) (by rw[Ì,hn]) w2⟩⟩
theorem ZL:O.lim<=Ø:=by decide
theorem ZU{o:O.Ob}{u:HO}(g:RH i G H)(w:O.new G o Qm)(c:Cn i H Q Qm)(r:∀p,H p=none->RO i (upd H p u) p o):∀p,H p=none->Q (.ref p) (upd H p u):=fun p hp=>by unfold O.new at w;exact c (.ref p) _ _ (.ref p) (Keep.new hp) (g.put (Keep.new hp)<|r p hp) (.ref p) (w p<|g.free hp)
end Snd
namespace HT2
open PySem PySem.Spec PyProof.Rows L2
noncomputable def Z0:List Int->List Int->Bool
 |[],[]=>false
 |[],_::_=>false
 |_::_,[]=>true
 |x::xs,y::ys=>if x=y then Z0 xs ys else decide (x > y)
theorem Bl(A:Ă)(s:Å)(a:Int)(t:Tok)(c:Int)(u:Tok)(prog:à)(w:õ)(E:Ã->Å->Prop)(Q:Ã->Å->Prop)(h:Q (.bool<|decide (a > c)) s) :
  wpAny (Û prog w) A (richCompare .Gt (.int a t)<|.int c u) Q E s :=
 (PyProof.Rows.gt_int h:wpAny (Û prog w) A (è .Gt (.int a t)<|.int c u) Q E s)
section
open PySem.SeqAt
open PySem.AutoSeq1 (wpAny_loadPart')
open PySem.MeetsSeq PySem.MeetsSeq2 PySem.MeetsSeq3
theorem J7(l b:È)(items ŀ:Array Ã)(n n2:Nat)(dd cH:Option È)(sl dy:Array<|Option Ã)(ns ms:List Int)(hi:û items.toList ns)(hj:û ŀ.toList ms) :
  Meets (Builtin.«tuple.__gt__» ⟨[.ref l,.ref b],[]⟩)
   (fun _ R s=>s.heap.get? l=some { cls:=.type "tuple",dict:=dd,data:=.seq items n,slots:=sl }/\s.heap.get? b=some { cls:=.type "tuple",dict:=cH,data:=.seq ŀ n2,slots:=dy }/\
     R (.ok<|.ret<|.bool<|Z0 ns ms) s) :=
 .of_wp fun prog w A R s h=>by
  obtain⟨hp,g,d,tk,os⟩:=s;obtain⟨hl,hb,h⟩:=h;have f2:=AutoSeq1.sub_tuple_tuple;have z1:items.size=ns.length:=by rw[<-hi.length];simp
  have z2:ŀ.size=ms.length:=by rw[<-hj.length];simp
  wp_walk using ĝ hl,ĝ hb,wpAny_forIn_list _ (fun rest b s'=>b.1=none/\s'=⟨hp,g,d,tk,os⟩/\∃(vs ws:List Ã) (bO cX:List Int),rest=vs.zip ws/\
    û vs bO/\û ws cX/\bO.length+ŀ.size=cX.length+items.size/\R (.ok<|.ret<|.bool<|Z0 bO cX) ⟨hp,g,d,tk,os⟩) _
  case turn =>
   rintro⟨y,x⟩ rest b s' ⟨aZ,rfl,vs,ws,bO,cX,hz,hvi,hwi,hlen,hR⟩;cases hvi with
   |nil=>rw[Δ]at hz;cases hz
   |cons a t hvi' =>
    cases hwi with
    |nil=>rw[ξ]at hz;cases hz
    |cons c u hwi' =>
     rw[ŏ]at hz;injection hz with hyx hrest;injection hyx with hy hx;subst hy hx;rw[Z0]at hR;simp only[Ì]at hlen;obtain⟨e,he,hiff⟩:=HT.eqAt_int A.in1 ⟨hp,g,d,tk,os⟩ a t c u;refine À<|he prog w _ _ ?_;cases e with
     |true =>
      rw[if_pos<|hiff.mp rfl]at hR
      wp_walk
      exact⟨rfl,rfl,_,_,_,_,hrest,hvi',hwi',by omega,hR⟩
     |false =>
      rw[if_neg fun q=>absurd (hiff.mpr q) ý]at hR;have hri:=Bl A.in1 ⟨hp,g,d,tk,os⟩ a t c u prog w
      wp_walk using hri
      exact⟨_,rfl,by simpa using hR⟩
  case fin =>
   rintro⟨b1,b2⟩ s' ⟨aZ,rfl,vs,ws,bO,cX,hz,hvi,hwi,hlen,hR⟩;simp only at aZ;subst aZ;have hv:Z0 bO cX=decide (items.size > ŀ.size):=by
    cases hvi with
    |nil =>
     cases hwi with
     |nil =>simp only[Ħ]at hlen;rw[Z0];exact(decide_eq_false<|by omega).symm
     |cons c u hw =>simp only[Ħ,Ì]at hlen;rw[Z0];exact(decide_eq_false<|by omega).symm
    |cons a t hv =>
     cases hwi with
     |nil =>simp only[Ħ,Ì]at hlen;rw[Z0];exact(decide_eq_true<|by omega).symm
     |cons c u hw =>rw[ŏ]at hz;cases hz
   rw[hv]at hR
   wp_walk
   exact⟨_,rfl,by simpa[Builtin.Tuple.tupleCompareSizes]using hR⟩
  case h =>exact⟨rfl,rfl,items.toList,ŀ.toList,ns,ms,rfl,hi,hj,by omega,h⟩
end
theorem OJ{prog:à}{w:õ}{A:Ă}{E:Ã->Å->Prop}{s:Å}{l b:È}{items ŀ:Array Ã}{ns ms:List Int}{Q:Ã->Å->Prop}(hl:aa s.heap l items)(hb:aa s.heap b ŀ)(hi:û items.toList ns)(hj:û ŀ.toList ms)
  (hu:A.units<Ğ) (h:Q (.bool<|Z0 ns ms) s):wpAny (Û prog w) A (è .Gt (.ref l)<|.ref b) Q E s:=by
 obtain⟨⟨cls,dd,data,sl⟩,ho,hc,n,hd⟩:=id hl;obtain⟨⟨cls2,cH,data2,dy⟩,ho2,hc2,n2,bP⟩:=id hb;simp only at hc hd hc2 bP;subst hc hd hc2 bP;exact dF (op:=.Gt) ⟨_,ho,rfl⟩ ⟨_,ho2,rfl⟩ PySem.F.slot_tuple_gt PySem.F.entry_tuple_gt (PySem.F.args_tuple_gt_2 _ _) (J7 l b items ŀ n n2 dd cH sl dy ns ms hi hj)
  ⟨ho,ho2,show Value.bool (Z0 ns ms)≠bX/\Q (.bool<|Z0 ns ms) s from ⟨(fun x=>nomatch x),h⟩⟩ hu
noncomputable def rGtT(K:Frag):R2:=fun x y H Q=>∃a b ns ms,x=.ref a/\y=.ref b/\SqT K H a (ns.map V.int)/\SqT K H b (ms.map V.int)/\Q (.bl<|Z0 ns ms) H
theorem op_gtT{X:Cx}(hu:X.A.units<Ğ):OpR X (è .Gt)<|rGtT X.K:=by intro Á s σ H x y v u Q I rx ry h;obtain⟨a,b,ns,ms,rfl,rfl,ha,hb,q⟩:=h;cases rx;cases ry;obtain⟨î,r1,p1,_⟩:=I.tuple ha;obtain⟨ϖ,r2,p2,_⟩:=I.tuple hb;have i1:û î.toArray.toList ns:=Zv r1;have i2:û ϖ.toArray.toList ms:=Zv r2;exact OJ p1 p2 i1 i2 hu ⟨.bl<|Z0 ns ms,H,I,rfl,q⟩
theorem lexGt_lt:∀(ns ms:List Int),Z0 ns ms=HT.lexLt ms ns
 |[],[]=>rfl
 |[],_::_=>rfl
 |_::_,[]=>rfl
 |x::xs,y::ys=>by
  rw[Z0,HT.lexLt_cons,lexGt_lt xs ys];by_cases e:x=y
  .rw[if_pos e,if_pos e.symm]
  .rw[if_neg e,if_neg fun z=>e z.symm]
end HT2
namespace Snd
open PySem L2
mutual
noncomputable def toD:O.D->Ŝ
 |.non=>.none
 |.bl b=>.bool b
 |.int i=>.int i
 |.str s=>.str<|Str.ofString s
 |.tup ds=>.tuple<|toDs ds
 |.lst ds=>.list<|toDs ds
noncomputable def toDs:List O.D->List Ŝ
 |[]=>[]
 |d::ds=>toD d::toDs ds
end
theorem ofS_inj{s t:String}:Str.ofString s=Str.ofString t↔s=t:=by
 constructor
 .intro h;rw[Str.ofString_eq_toList,Str.ofString_eq_toList]at h;injection h with h;have h2:s.toList.map Ő=t.toList.map Ő:=by simpa using congrArg bu h
  have inj:∀{a b:Char},a.toNat=b.toNat->a=b:=fun{a b} e=>Char.ext<|bh e;have:s.toList=t.toList:=by
   revert h2;generalize s.toList=a;generalize t.toList=b;intro h2;induction a generalizing b with
   |nil=>cases b with
    |nil=>rfl
    |cons _ _=>cases h2
   |cons x xs ih=>cases b with
    |nil=>cases h2
    |cons y ys =>simp only[Ð,List.cons.injEq]at h2;rw[inj h2.1,ih _ h2.2]
  exact String.toList_inj.mp this
 .rintro rfl;rfl
theorem Ei(s t:String):(Str.ofString s==Str.ofString t)=(s==t):=by
 by_cases e:s=t
 .subst e;simp
 .have:Str.ofString s≠Str.ofString t:=fun z=>e<|ofS_inj.mp z;rw[beq_eq_false_iff_ne.mpr this,beq_eq_false_iff_ne.mpr e]
theorem UV(s:String):PyData.strOk (Str.ofString s)=true:=by
 rw[Str.ofString_eq_toList];unfold PyData.strOk;rw[Array.all_eq_true'];intro n hn;have:n∈s.toList.map Ő:=by simpa using hn
 obtain⟨c,_,rfl⟩:=Ò.mp this;have:=c.valid;have h2:c.toNat=c.val.toNat:=rfl;simp only[UInt32.isValidChar,Nat.isValidChar]at this;simp only[decide_eq_true_eq];omega
mutual
theorem KZ:∀d e:O.D,Ī (toD d) (toD e)=O.D.eqv d e
 |.non,e=>by cases e<;>simp[toD,Ī,O.D.eqv]
 |.bl _,e=>by cases e<;>simp[toD,Ī,O.D.eqv]
 |.int _,e=>by cases e<;>simp[toD,Ī,O.D.eqv]
 |.str s,e=>by cases e<;>simp only[toD,Ī,O.D.eqv];exact Ei _ _
 |.tup ds,e=>by cases e<;>simp only[toD,Ī,O.D.eqv];exact toDs_eqv _ _
 |.lst ds,e=>by cases e<;>simp only[toD,Ī,O.D.eqv];exact toDs_eqv _ _
theorem toDs_eqv:∀ds es:List O.D,Α (toDs ds) (toDs es)=O.D.eqvs ds es
 |[],[]=>by simp[toDs,Α,O.D.eqvs]
 |[],_::_=>by simp[toDs,Α,O.D.eqvs]
 |_::_,[]=>by simp[toDs,Α,O.D.eqvs]
 |d::ds,e::es=>by simp only[toDs,Α,O.D.eqvs,KZ d e,toDs_eqv ds es]
end
mutual
theorem Mg:∀d:O.D,(toD d).canLay0=true
 |.non=>by simp[toD,Ū]
 |.bl _=>by simp[toD,Ū]
 |.int _=>by simp[toD,Ū]
 |.str s=>by simp only[toD,Ū];exact UV s
 |.tup ds=>by simp only[toD,Ū];exact toDs_lay ds
 |.lst ds=>by simp only[toD,Ū];exact toDs_lay ds
theorem toDs_lay:∀ds:List O.D,Œ (toDs ds)=true
 |[]=>by simp[toDs,Œ]
 |d::ds=>by simp only[toDs,Œ,Mg d,toDs_lay ds,bg]
end
section
variable {i:Inf}{G:O.Hs}{H:Hp}
theorem AK{α β:Type}{f:α->Option β}:∀{xs:List α}{ys:List β},xs.mapM f=some ys->List.length xs=ys.length/\∀(n:Nat) (x:α),xs[n]?=some x->∃y,ys[n]?=some y/\f x=some y:=by
 intro xs;induction xs with
 |nil=>intro ys h;simp at h;subst h;exact⟨rfl,fun n x e=>by simp at e⟩
 |cons a as ih =>
  intro ys h;rw[π]at h;cases e:f a with
  |none=>rw[e]at h;simp at h
  |some b =>
   rw[e]at h;cases e2:as.mapM f with
   |none=>rw[e2]at h;simp at h
   |some bs =>
    rw[e2]at h;simp at h;subst h;obtain⟨h1,h2⟩:=ih e2;refine⟨by simp[h1],fun n x hn=>?_⟩;cases n with
    |zero=>simp at hn;subst hn;exact⟨b,rfl,e⟩
    |succ n=>simp at hn ⊢;exact h2 n x hn
theorem O1{K:Frag}{f:O.Val->Option O.D}(hf:∀v d x,f v=some d->RV K H v x->IsD K H x (toD d)):∀{vs:List O.Val}{xs:List V}{ds:List O.D},vs.mapM f=some ds->RVs K H vs xs->IsDs K H xs (toDs ds):=by
 intro vs;induction vs with
 |nil=>intro xs ds h r;simp at h;subst h;cases r;exact .nil
 |cons a as ih =>
  intro xs ds h r;rw[π]at h;cases e:f a with
  |none=>rw[e]at h;simp at h
  |some b =>
   rw[e]at h;cases e2:as.mapM f with
   |none=>rw[e2]at h;simp at h
   |some bs =>
    rw[e2]at h;simp at h;subst h;cases r with
    |cons r1 r2=>exact .cons (hf a b _ e r1)<|ih e2 r2
theorem Zt(g:RH i G H){a:È}{xs:List O.Val}(e:O.lsOf (G a)=some xs):∃vs,SqL i.K H a vs/\RVs i.K H xs vs:=by
 cases q:G a with
 |none=>rw[q]at e;cases e
 |some o =>
  rw[q]at e;cases o with
  |lst ys=>cases e;obtain⟨vs,h,r⟩:=g a _ q;exact⟨vs,SqL.of h,r⟩
  |dct _=>cases e
  |ins _ _=>cases e
  |exc _=>cases e
  |frz _=>cases e
  |dtp _=>cases e
theorem Kr:∀ns:List Int,toDs (ns.map O.D.int)=ns.map PyData.int
 |[]=>by simp[toDs]
 |n::ns=>by simp only[Ð,toDs,toD,Kr ns]
theorem XH(g:RH i G H):∀(n:Nat) (v:O.Val) (d:O.D) (x:V),O.dat G n v=some d->RV i.K H v x->IsD i.K H x (toD d):=by
 intro n;induction n with
 |zero =>
  intro v d x e r;cases v with
  |non=>cases r;simp[O.dat]at e;subst e;rw[toD];exact .non
  |bl b=>cases r;simp[O.dat]at e;subst e;rw[toD];exact .bl b
  |int b=>cases r;simp[O.dat]at e;subst e;rw[toD];exact .int b
  |str s=>cases r;simp[O.dat]at e;subst e;rw[toD];exact .str _
  |tup xs=>simp[O.dat]at e
  |ref a=>simp[O.dat]at e
  |scr ns=>simp[O.dat]at e
  |key _ _=>simp[O.dat]at e
 |succ n ih =>
  intro v d x e r;cases v with
  |non=>cases r;simp[O.dat]at e;subst e;rw[toD];exact .non
  |bl b=>cases r;simp[O.dat]at e;subst e;rw[toD];exact .bl b
  |int b=>cases r;simp[O.dat]at e;subst e;rw[toD];exact .int b
  |str s=>cases r;simp[O.dat]at e;subst e;rw[toD];exact .str _
  |tup xs =>
   rw[O.dat]at e;cases z:xs.mapM (O.dat G n)with
   |none=>rw[z]at e;cases e
   |some ds =>
    rw[z]at e;cases e;cases r with
    |tup hp hr=>rw[toD];exact .tup (Zf hp)<|O1 ih z hr
  |ref a =>
   rw[O.dat]at e;cases q:O.lsOf (G a)with
   |none=>rw[q]at e;cases e
   |some xs =>
    rw[q]at e;simp only[ð]at e;cases z:xs.mapM (O.dat G n)with
    |none=>rw[z]at e;cases e
    |some ds =>rw[z]at e;cases e;cases r.ref_inv;obtain⟨vs,h1,h2⟩:=Zt g q;rw[toD];exact .lst h1<|O1 ih z h2
  |scr ns =>
   simp[O.dat]at e;subst e;cases r with
   |scr h =>rw[toD,Kr];exact .lst (Z5 h)<|IsDs.ints ns
  |key _ _=>simp[O.dat]at e
theorem Xx{n:Nat}:∀{ds:List O.D},(∀d∈ds,(toD d).depth<=n)->ļ (toDs ds)<=n
 |[],_=>by rw[toDs];simp[ļ]
 |d::ds,h=>by rw[toDs];simp only[ļ];exact Nat.max_le.mpr ⟨h d (by simp),Xx fun e he=>h e<|by simp[he]⟩
theorem Kn:∀(n:Nat) (v:O.Val) (d:O.D),O.dat G n v=some d->(toD d).depth<=n:=by
 have sc:∀(n:Nat) (v:O.Val) (d:O.D),(∀xs,v≠.tup xs)->(∀a,v≠.ref a)->(∀ns,v≠.scr ns)->O.dat G n v=some d->(toD d).depth<=n:=by
  intro n v d h1 h2 h3 e;cases v with
  |tup xs=>exact absurd rfl<|h1 xs
  |ref a=>exact absurd rfl<|h2 a
  |scr ns=>exact absurd rfl<|h3 ns
  |key _ _=>cases n<;>simp[O.dat]at e
  |_=>simp[O.dat]at e;subst e;simp[toD,PyData.depth]
 have ms:∀(n:Nat),(∀v d,O.dat G n v=some d->(toD d).depth<=n)->∀(xs:List O.Val) (ds:List O.D),xs.mapM (O.dat G n)=some ds->ļ (toDs ds)<=n:=by
  intro n ih xs ds z;refine Xx fun d hd=>?_;obtain⟨k,hk⟩:=cb.mp hd;obtain⟨h1,h2⟩:=AK z;have Ν:k<xs.length:=by rw[h1];exact(Í.mp hk).1
  obtain⟨y,hy,hf⟩:=h2 k xs[k]<|Ë Ν;rw[hk]at hy;cases hy;exact ih _ _ hf
 intro n;induction n with
 |zero =>
  intro v d e;cases v with
  |tup xs=>simp[O.dat]at e
  |ref a=>simp[O.dat]at e
  |scr ns=>simp[O.dat]at e
  |_=>exact sc 0 _ d (by simp) (by simp) (by simp) e
 |succ n ih =>
  intro v d e;cases v with
  |tup xs =>
   rw[O.dat]at e;cases z:xs.mapM (O.dat G n)with
   |none=>rw[z]at e;cases e
   |some ds =>rw[z]at e;cases e;rw[toD];exact Ξ<|ms n ih xs ds z
  |ref a =>
   rw[O.dat]at e;cases q:O.lsOf (G a)with
   |none=>rw[q]at e;cases e
   |some xs =>
    rw[q]at e;simp only[ð]at e;cases z:xs.mapM (O.dat G n)with
    |none=>rw[z]at e;cases e
    |some ds =>rw[z]at e;cases e;rw[toD];exact Ξ<|ms n ih xs ds z
  |scr ns =>simp[O.dat]at e;subst e;rw[toD];refine Ξ<|Ó ?_<|Ĳ n;refine Xx fun d hd=>?_;obtain⟨m,_,rfl⟩:=Ò.mp hd;simp[toD,PyData.depth]
  |_=>exact sc (n+1) _ d (by simp) (by simp) (by simp) e
theorem WR{v:O.Val}{d:O.D}(e:O.dat G O.deep v=some d):SeqAt.shaped (toD d)=true:=by show((toD d).canLay0&&decide ((toD d).depth<=64))=true;rw[Mg,decide_eq_true<|Ó (Kn _ _ _ e)<|by decide];rfl
theorem Ud(g:RH i G H){v u:O.Val}{x y:V}{c:Bool}(rx:RV i.K H v x)(ry:RV i.K H u y)(e:O.eqV G v u=some c):∃d d',IsD i.K H x d/\IsD i.K H y d'/\SeqAt.shaped d=true/\SeqAt.shaped d'=true/\Ī d d'=c:=by
 unfold O.eqV at e;cases z:O.dat G O.deep v with
 |none=>rw[z]at e;cases e
 |some d =>
  cases z2:O.dat G O.deep u with
  |none=>rw[z,z2]at e;cases e
  |some d' =>rw[z,z2]at e;cases e;exact⟨_,_,XH g _ _ _ _ z rx,XH g _ _ _ _ z2 ry,WR z,WR z2,KZ d d'⟩
theorem R0:ZT i .eq<|L1 i.K:=by intro v u G H x y c Q g rx ry e q;obtain⟨d,d',h1,h2,h3,h4,h5⟩:=Ud g rx ry e;exact⟨d,d',h1,h2,h3,h4,by rw[h5];exact q⟩
theorem LO:ZT i .ne<|Hc i.K:=by
 intro v u G H x y c Q g rx ry e q;have e:(O.eqV G v u).map (!·)=some c:=e;cases z:O.eqV G v u with
 |none=>rw[z]at e;cases e
 |some b =>rw[z]at e;cases e;obtain⟨d,d',h1,h2,h3,h4,h5⟩:=Ud g rx ry z;exact⟨d,d',h1,h2,h3,h4,by rw[h5];exact q⟩
end
variable {i:Inf}{X:Cx}{Φ:O.Fs}
theorem Zs(s:String):(Str.ofString s).length=s.length:=by rw[Str.ofString_eq_toList];show(List.map Ő s.toList).toArray.size=_;rw[É,Â];first|rfl|exact bH
theorem K7(s t:String):Str.ofString (s++t)=Str.ofString s++Str.ofString t:=by rw[Str.ofString_eq_toList,Str.ofString_eq_toList,Str.ofString_eq_toList];show _=Str.append _ _;unfold Str.append;simp
variable {xs:List O.Val}
theorem Az{o:Option O.Ob}(h:O.lsOf o=some xs):o=some (.lst xs):=by
 cases o with
 |none=>cases h
 |some o=>cases o with
  |lst ys=>cases h;rfl
  |_=>cases h
variable {p:Prop}
theorem ZC{α:Type}[Decidable p]{o:Option α}{a:α}(e:(if p then o else none)=some a):p/\o=some a:=by
 by_cases q:p
 .rw[if_pos q]at e;exact⟨q,e⟩
 .rw[if_neg q]at e;cases e
variable {h:O.Hs} {Q:O.Q1}
theorem Zj(w:O.Rs.no.wp h Q):False:=by rw[O.Rs.wp_no]at w;exact w
theorem Zg{v:O.Val}(w:(O.Rs.val v).wp h Q):Q v h:=by rw[O.Rs.wp_val]at w;exact w
theorem KS{o:O.Ob}(w:(O.Rs.new o).wp h Q):O.new h o Q:=by rw[O.Rs.wp_new]at w;exact w
theorem Xj[Decidable p]{r:O.Rs}(w:(if p then r else .no).wp h Q):p/\r.wp h Q:=by
 by_cases e:p
 .rw[if_pos e]at w;exact⟨e,w⟩
 .rw[if_neg e]at w;exact(Zj w).elim
variable {u:O.Val}
theorem Ww{f:Int->Int->O.Rs}{v:O.Val}(w:(O.intV f v u).wp h Q):∃i j,v=.int i/\u=.int j/\(f i j).wp h Q:=by
 cases v with
 |int i=>cases u with
  |int j=>exact⟨i,j,rfl,rfl,w⟩
  |_=>exact(Zj w).elim
 |_=>exact(Zj w).elim
noncomputable def Gg(K:Frag):R2:=fun x y H Q=>(rI0 fun i j=>.int<|i+j) x y H Q\/(((FX K x y H Q\/F4 K x y H Q)\/Pj x y H Q)\/∃i j,x=.str i/\y=.str j/\i.length+j.length<=Ø/\Q (.str<|i++j) H)
theorem QB:OpR X (ń .Add)<|Gg X.K:=op_add.or (((op_cat0.or EO).or Lj).or N3)
theorem b_add:JF i .add<|Gg i.K:=by
 intro v u G H x y Q Qm g rx ry w c;cases v<;>cases u<;>first|exact(Zj w).elim|skip
 case int.int a b =>
  replace w:=Zg w
  exact .inl ⟨a,b,rx.int_inv,ry.int_inv,c _ G H _ (Keep.refl H) g (.int _) w⟩
 case str.str a b =>
  obtain⟨h,w⟩:=Xj w
  replace w:=Zg w
  refine .inr<|.inr ⟨_,_,rx.str_inv,ry.str_inv,?_,?_⟩
  .rw[Zs,Zs];exact Ó h ZL
  .rw[<-K7];exact c _ G H _ (Keep.refl H) g (.str _) w
 case tup.tup xs ys =>
  obtain⟨h,w⟩:=Xj w
  replace w:=Zg w
  .skip
   cases rx with
   |@tup _ p vs hp hr =>
   cases ry with
   |@tup _ q us hq hs =>
   by_cases h0:vs=[]
   .subst h0;have:xs=[]:=am hr.length;subst this;exact .inr<|.inl<|.inl<|.inl ⟨p,q,us,rfl,rfl,Zf hp,Zf hq,c _ G H _ (Keep.refl H) g (.tup hq hs) w⟩
   refine .inr<|.inl<|.inl<|.inr ⟨p,q,vs,us,rfl,rfl,Zf hp,Zf hq,h0,?_,fun z=>?_,fun z a ha=>?_⟩
   .rw[<-hr.length,<-hs.length];exact Ó h ZL
   .have:ys=[]:=am (by rw[hs.length,z];rfl);subst this;rw[Ĕ]at w;exact c _ G H _ (Keep.refl H) g (.tup hp hr) w
   .have k:=Keep.new (o:=.tup<|vs++us) ha;refine c _ G _ _ k (g.hid k fun b o e=>upd_ne ?_) (.tup (.inl upd_same)<|(hr.keep k).append<|hs.keep k) w;rintro rfl;rw[g.free ha]at e;cases e
 case ref.ref a b =>
  dsimp only[O.binV,O.addV]at w;split at w
  .rename_i xs ys e1 e2;unfold O.Rs.lst at w;split at w
   .rename_i hl;rw[O.Rs.wp_new]at w;cases rx.ref_inv;cases ry.ref_inv;obtain⟨vs,h1,r1⟩:=g a _ e1;obtain⟨us,h2,r2⟩:=g b _ e2;refine .inr (.inl<|.inr ⟨a,b,vs,us,rfl,rfl,h1,h2,?_,ZU g w c fun p hp=>?_⟩)
    .rw[<-r1.length,<-r2.length,<-ë];exact Ó hl ZL
    .have k:=Keep.new (o:=.lst<|vs++us) hp;exact⟨_,upd_same,(r1.keep k).append<|r2.keep k⟩
   .exact(Zj w).elim
  .exact(Zj w).elim
theorem b_sub:JF i .sub<|rI0 fun i j=>.int<|i - j:=by intro v u G H x y Q Qm g rx ry w c;obtain⟨a,b,rfl,rfl,w⟩:=Ww w;exact⟨a,b,rx.int_inv,ry.int_inv,c _ G H _ (Keep.refl H) g (.int _)<|Zg w⟩
theorem RVs.rep{K:Frag}{H:Hp}{vs:List O.Val}{xs:List V}(r:RVs K H vs xs):∀n,RVs K H (Ö n vs).flatten (Ö n xs).flatten
 |0=>.nil
 |n+1=>by rw[č,č,Ł,Ł];exact r.append<|RVs.rep r n
set_option exponentiation.threshold 2000 in
theorem HI{i j:Int}(h:O.mulOk i j):IntMulOk i j:=by
 rcases h with(h|h)|⟨h1,h2⟩
 .exact .of_left (ac (by omega)<|by omega)
 .exact .of_right (ac (by omega)<|by omega)
 .have e:(10:Nat) ^ 200<2 ^ 1000:=by decide
  exact .of_bits (Ó (PyProof.Rows.intBits_le<|ß h1 e)<|by decide) (Ó (PyProof.Rows.intBits_le<|ß h2 e)<|by decide)
theorem Fj(s:String)(n:Nat):IS (Str.ofString s) n=Str.ofString (O.repT s n):=by unfold IS O.repT;rw[Str.ofString_eq_toList,Str.ofString_eq_toList,bI];congr 1;apply dN.mp;rw[KM];simp[List.map_flatten,List.map_replicate]
noncomputable def Gp:R2:=fun x y H Q=>rI O.mulOk (fun i j=>.int<|i*j) x y H Q\/(QW x y H Q\/F9 x y H Q)
theorem PP:OpR X (ń .Mult) Gp:=OpR.or (opI fun _ _ _ _ _ _ _ hc q=>PyProof.Rows.mul_int q<|HI hc) (op_rep.or DQ)
theorem b_mul:JF i .mul Gp:=by
 intro v u G H x y Q Qm g rx ry w c;cases v<;>cases u<;>first|exact(Zj w).elim|skip
 case int.int a b =>obtain⟨h,w⟩:=Xj w;exact .inl ⟨a,b,rx.int_inv,ry.int_inv,h,c _ G H _ (Keep.refl H) g (.int _)<|Zg w⟩
 case ref.int a k =>
  dsimp only[O.binV,O.mulV]at w;split at w
  .rename_i xs e1;split at w
   .rename_i hk;unfold O.Rs.lst at w;split at w
    .rw[O.Rs.wp_new]at w;cases rx.ref_inv;cases ry.int_inv;obtain⟨vs,h1,r1⟩:=g a _ e1;refine .inr (.inl ⟨a,k,vs,rfl,rfl,h1,by omega,by omega,?_,ZU g w c fun p hp=>?_⟩)
     .rw[<-r1.length];exact Ó hk.2.2 ZL
     .have kk:=Keep.new (o:=.lst (Ö k.toNat vs).flatten) hp;exact⟨_,upd_same,(r1.keep kk).rep _⟩
    .exact(Zj w).elim
   .exact(Zj w).elim
  .exact(Zj w).elim
 case str.int a k =>
  obtain⟨hk,w⟩:=Xj w
  replace w:=Zg w
  refine .inr (.inr ⟨_,k,rx.str_inv,ry.int_inv,hk.1,hk.2.1,by rw[Zs];exact hk.2.2.1,by rw[Zs];exact hk.2.2.2,?_⟩);rw[Fj];exact c _ G H _ (Keep.refl H) g (.str _) w
theorem b_fdiv:JF i .fdiv<|rI QK fun i j=>.int<|i / j:=by intro v u G H x y Q Qm g rx ry w c;obtain⟨a,b,rfl,rfl,w⟩:=Ww w;obtain⟨h,w⟩:=Xj w;exact⟨a,b,rx.int_inv,ry.int_inv,h,c _ G H _ (Keep.refl H) g (.int _)<|Zg w⟩
theorem b_mod:JF i .mod<|rI (fun _ j=>0<j) fun i j=>.int<|i % j:=by intro v u G H x y Q Qm g rx ry w c;obtain⟨a,b,rfl,rfl,w⟩:=Ww w;obtain⟨h,w⟩:=Xj w;exact⟨a,b,rx.int_inv,ry.int_inv,h,c _ G H _ (Keep.refl H) g (.int _)<|Zg w⟩
theorem b_pow:JF i .pow<|rI QG fun i j=>.int<|i ^ j.toNat:=by intro v u G H x y Q Qm g rx ry w c;obtain⟨a,b,rfl,rfl,w⟩:=Ww w;obtain⟨h,w⟩:=Xj w;exact⟨a,b,rx.int_inv,ry.int_inv,h,c _ G H _ (Keep.refl H) g (.int _)<|Zg w⟩
theorem ZB{K:Frag}{H:Hp}:∀{xs:List O.Val}{ns:List Int}{vs:List V},O.intsOf xs=some ns->RVs K H xs vs->vs=ns.map V.int
 |[],_,_,e,.nil=>by cases e;rfl
 |.int k::xs,_,_,e,.cons r t=>by
  simp only[O.intsOf]at e;cases z:O.intsOf xs with
  |none=>rw[z]at e;cases e
  |some ns=>rw[z]at e;cases e;cases r;rw[ZB z t];rfl
 |.non::_,_,_,e,_=>by cases e
 |.bl _::_,_,_,e,_=>by cases e
 |.str _::_,_,_,e,_=>by cases e
 |.tup _::_,_,_,e,_=>by cases e
 |.ref _::_,_,_,e,_=>by cases e
 |.scr _::_,_,_,e,_=>by cases e
theorem ME:∀(ns ms:List Int),O.lexI ns ms=HT.lexLt ns ms
 |[],[]=>rfl
 |[],_::_=>rfl
 |_::_,[]=>rfl
 |x::xs,y::ys=>by rw[O.lexI,HT.lexLt_cons,ME xs ys]
noncomputable def L9(K:Frag):R2:=fun x y H Q=>rI0 (fun i j=>.bl<|decide (i<j)) x y H Q\/Pn K x y H Q
theorem Q4(hu:X.A.units<Ğ):OpR X (è .Lt)<|L9 X.K:=op_lt.or (GF hu)
noncomputable def Pz(K:Frag):R2:=fun x y H Q=>rI0 (fun i j=>.bl<|decide (j<i)) x y H Q\/HT2.rGtT K x y H Q
theorem Q2(hu:X.A.units<Ğ):OpR X (è .Gt)<|Pz X.K:=op_gt.or (HT2.op_gtT hu)
variable {H:Hp} {x:V} {c:Bool}
theorem Gb{K:Frag}{ys:List O.Val}{y:V}(rx:RV K H (.tup xs) x)(ry:RV K H (.tup ys) y)(e:O.ltV (.tup xs) (.tup ys)=some c):∃a b ns ms,x=.ref a/\y=.ref b/\SqT K H a (ns.map V.int)/\SqT K H b (ms.map V.int)/\HT.lexLt ns ms=c:=by
 simp only[O.ltV]at e;cases z1:O.intsOf xs with
 |none=>rw[z1]at e;cases e
 |some ns =>
  cases z2:O.intsOf ys with
  |none=>rw[z1,z2]at e;cases e
  |some ms =>
   rw[z1,z2]at e;cases e;cases rx with
   |@tup _ p vs hp hr =>
   cases ry with
   |@tup _ q us hq hs =>
   have h1:=ZB z1 hr;have h2:=ZB z2 hs;subst h1 h2;exact⟨p,q,ns,ms,rfl,rfl,Zf hp,Zf hq,(ME _ _).symm⟩
theorem c_lt:ZT i .lt<|L9 i.K:=by
 intro v u G H x y c Q g rx ry e q
 replace e:O.ltV v u=some c:=e
 cases v<;>cases u<;>first|(cases e;done)|skip
 case int.int a b=>cases e;exact .inl ⟨a,b,rx.int_inv,ry.int_inv,q⟩
 case tup.tup xs ys =>obtain⟨a,b,ns,ms,h1,h2,h3,h4,h5⟩:=Gb rx ry e;exact .inr ⟨a,b,ns,ms,h1,h2,h3,h4,by rw[h5];exact q⟩
theorem c_gt:ZT i .gt<|Pz i.K:=by
 intro v u G H x y c Q g rx ry e q
 replace e:O.ltV u v=some c:=e
 cases v<;>cases u<;>first|(cases e;done)|skip
 case int.int a b=>cases e;exact .inl ⟨a,b,rx.int_inv,ry.int_inv,q⟩
 case tup.tup xs ys =>obtain⟨a,b,ns,ms,h1,h2,h3,h4,h5⟩:=Gb ry rx e;exact .inr ⟨b,a,ms,ns,h2,h1,h4,h3,by rw[HT2.lexGt_lt,h5];exact q⟩
theorem Gu{v:O.Val}(e:O.leV v u=some c):∃i j,v=.int i/\u=.int j/\decide (i<=j)=c:=by
 cases v with
 |int i=>cases u with
  |int j=>cases e;exact⟨i,j,rfl,rfl,rfl⟩
  |_=>cases e
 |_=>cases e
theorem c_le:ZT i .le<|rI0 fun i j=>.bl<|decide (i<=j):=by intro v u G H x y c Q g rx ry e q;obtain⟨a,b,rfl,rfl,rfl⟩:=Gu e;exact⟨a,b,rx.int_inv,ry.int_inv,q⟩
theorem c_ge:ZT i .ge<|rI0 fun i j=>.bl<|decide (j<=i):=by intro v u G H x y c Q g rx ry e q;obtain⟨a,b,rfl,rfl,rfl⟩:=Gu e;exact⟨b,a,rx.int_inv,ry.int_inv,q⟩
theorem RV.isN{K:Frag}{v:O.Val}(r:RV K H v x):decide (x=.non)=decide (v=.non):=by cases r<;>simp
variable {a:Expr} {ma:O.E} {pos:Pos} {p2:Pos} {j:Nat}
theorem Pr(ha:PE X a<|tE X i Φ ma):PE X (.Compare a [.Is] [.Constant .none j p2] pos) (tE X i Φ<|.cmp .is ma<|.cst .non) :=
 (Df (CH ha) rfl).imp fun σ H Q ⟨env,G,Qm,Em,p,w,c⟩=>by refine one p w fun v G1 H1 x k1 p1 r q=>?_;obtain⟨d,e,q2⟩:=go_some q;have e:some (decide (v=.non))=some d:=e;cases e;rw[r.isN];exact c _ G1 H1 _ k1 p1.hp (.bl _) q2
theorem LC(ha:PE X a<|tE X i Φ ma):PE X (.Compare a [.IsNot] [.Constant .none j p2] pos) (tE X i Φ<|.cmp .isnot ma<|.cst .non) :=
 (Df (O5 ha) rfl).imp fun σ H Q ⟨env,G,Qm,Em,p,w,c⟩=>by refine one p w fun v G1 H1 x k1 p1 r q=>?_;obtain⟨d,e,q2⟩:=go_some q;have e:some (!decide (v=.non))=some d:=e;cases e;rw[r.isN];exact c _ G1 H1 _ k1 p1.hp (.bl _) q2
theorem IQ(ha:PE X a<|tE X i Φ ma):PT X (.Compare a [.Is] [.Constant .none j p2] pos) (tTt X i Φ<|.val<|.cmp .is ma<|.cst .non) :=
 (Bt (CH ha) rfl).imp fun σ H Q ⟨env,G,Qm,Em,p,w,c⟩=>by refine one p w fun v G1 H1 x k1 p1 r q=>?_;obtain⟨d,e,q2⟩:=go_some q;obtain⟨d',e',q3⟩:=go_some q2;cases e';have e:some (decide (v=.non))=some d:=e;cases e;rw[r.isN];exact⟨_,rfl,c _ G1 H1 k1 p1.hp q3⟩
theorem DV(ha:PE X a<|tE X i Φ ma):PT X (.Compare a [.IsNot] [.Constant .none j p2] pos) (tTt X i Φ<|.val<|.cmp .isnot ma<|.cst .non) :=
 (Bt (O5 ha) rfl).imp fun σ H Q ⟨env,G,Qm,Em,p,w,c⟩=>by refine one p w fun v G1 H1 x k1 p1 r q=>?_;obtain⟨d,e,q2⟩:=go_some q;obtain⟨d',e',q3⟩:=go_some q2;cases e';have e:some (!decide (v=.non))=some d:=e;cases e;rw[r.isN];exact⟨_,rfl,c _ G1 H1 k1 p1.hp q3⟩
end Snd
namespace Snd
open PySem L2 PySem.Spec PyProof.Rows
variable {i:Inf}{X:Cx}{Φ:O.Fs}
theorem RKs.length{K:Frag}{H:Hp}:∀{kvs:List (O.Val×O.Val)}{ps:List (Key×V)},RKs K H kvs ps->kvs.length=ps.length
 |_,_,.nil=>rfl
 |_,_,.cons _ _ t=>by rw[Ì,Ì,RKs.length t]
theorem WC{k j:O.Val}{c d:Key}(a:Wt k c)(b:Wt j d):(k==j)=decide (c=d):=by
 have key:k=j↔c=d:=by
  cases k<;>cases c<;>first|(cases a;done)|skip
  .cases j<;>cases d<;>first|(cases b;done)|skip
   .cases a;cases b;simp
   .cases a;cases b;simp
  .cases j<;>cases d<;>first|(cases b;done)|skip
   .cases a;cases b;simp
   .cases a;cases b;simp[ofS_inj]
 by_cases e:k=j
 .rw[decide_eq_true<|key.mp e,e];simp
 .rw[decide_eq_false fun z=>e<|key.mpr z];simpa using e
theorem key_of{k:O.Val}{x:V}{K:Frag}{H:Hp}(h:O.isKey k=true)(r:RV K H k x):∃c,Wt k c/\x=kV c:=by
 cases k with
 |int n=>cases r.int_inv;exact⟨.inl n,rfl,rfl⟩
 |str s=>cases r.str_inv;exact⟨.inr<|Str.ofString s,rfl,rfl⟩
 |_=>cases h
theorem RKs.look{K:Frag}{H:Hp}{k:O.Val}{c:Key}(a:Wt k c):∀{kvs:List (O.Val×O.Val)}{ps:List (Key×V)},RKs K H kvs ps->
  (∀v,O.lookK kvs k=some v->∃x,Xh ps c=some x/\RV K H v x)/\(O.lookK kvs k=none->Xh ps c=none)
 |_,_,.nil=>⟨fun v e=>(by cases e),fun _=>rfl⟩
 |_,_,.cons (k:=j) (v:=u) (c:=d) (x:=y) (kvs:=kvs) (ps:=ps) b r t=>by
  have ih:=RKs.look a t;have q:=WC b a;by_cases e:d=c
  .rw[decide_eq_true e]at q;have e1:O.lookK ((j,u)::kvs) k=some u:=by simp[O.lookK,ć,q]
   rw[e1,YJ e];exact⟨fun v z=>(by cases z;exact⟨y,rfl,r⟩),fun z=>(by cases z)⟩
  .rw[decide_eq_false e]at q;have e1:O.lookK ((j,u)::kvs) k=O.lookK kvs k:=by simp[O.lookK,ć,q]
   rw[e1,YL e];exact ih
theorem RKs.has{K:Frag}{H:Hp}{k:O.Val}{c:Key}(a:Wt k c):∀{kvs:List (O.Val×O.Val)}{ps:List (Key×V)},RKs K H kvs ps->O.hasK kvs k=ps.any fun kv=>decide (kv.1=c)
 |_,_,.nil=>rfl
 |_,_,.cons b r t=>by have ih:=RKs.has a t;unfold O.hasK at ih ⊢;rw[Ġ,Ġ,ih,WC b a]
theorem RKs.app{K:Frag}{H:Hp}{k v:O.Val}{c:Key}{x:V}(a:Wt k c)(q:RV K H v x):∀{kvs:List (O.Val×O.Val)}{ps:List (Key×V)},RKs K H kvs ps->RKs K H (kvs++[(k,v)]) (ps++[(c,x)])
 |_,_,.nil=>.cons a q .nil
 |_,_,.cons b r t=>.cons b r<|RKs.app a q t
theorem RKs.repl{K:Frag}{H:Hp}{k v:O.Val}{c:Key}{x:V}(a:Wt k c)(q:RV K H v x):∀{kvs:List (O.Val×O.Val)}{ps:List (Key×V)},RKs K H kvs ps->
  RKs K H (kvs.map fun p=>if p.1==k then(k,v)else p) (ps.map fun kv=>if kv.1=c then(kv.1,x)else kv)
 |_,_,.nil=>.nil
 |_,_,.cons (k:=j) (v:=u) (c:=d) (x:=y) b r t=>by
  have ih:=RKs.repl a q t;have z:=WC b a;rw[Ð,Ð];by_cases e:d=c
  .rw[decide_eq_true e]at z;rw[if_pos z,if_pos e];exact .cons (e▸a) q ih
  .rw[decide_eq_false e]at z;rw[if_neg (by rw[z];decide),if_neg e];exact .cons b r ih
theorem RKs.put{K:Frag}{H:Hp}{k v:O.Val}{c:Key}{x:V}(a:Wt k c)(q:RV K H v x){kvs:List (O.Val×O.Val)}{ps:List (Key×V)}(r:RKs K H kvs ps):RKs K H (O.putK kvs k v)<|L2.putK ps c x:=by
 unfold O.putK L2.putK;rw[r.has a];by_cases e:(ps.any fun kv=>decide (kv.1=c))=true
 .rw[if_pos e,if_pos e];exact r.repl a q
 .rw[if_neg e,if_neg e];exact r.app a q
theorem RKs.drop{K:Frag}{H:Hp}{k:O.Val}{c:Key}(a:Wt k c):∀{kvs:List (O.Val×O.Val)}{ps:List (Key×V)},RKs K H kvs ps->RKs K H (O.dropK kvs k) (L2.dropK ps c)
 |_,_,.nil=>.nil
 |_,_,.cons (k:=j) (v:=u) (c:=d) (x:=y) b r t=>by
  have ih:=RKs.drop a t;have z:=WC b a;unfold O.dropK L2.dropK at ih ⊢;rw[Ş,Ş];by_cases e:d=c
  .rw[decide_eq_true e]at z;rw[if_neg (by rw[z];decide),if_neg<|by simpa using e];exact ih
  .rw[decide_eq_false e]at z;rw[if_pos (by rw[z];rfl),if_pos<|by simpa using e];exact .cons b r ih
variable {G:O.Hs} {H:Hp} {a:È} {kvs':List (O.Val×O.Val)}
theorem EZ{kvs:List (O.Val×O.Val)}{ps cC:List (Key×V)}(g:RH i G H)(h:H a=some (.dK ps))(r:RKs i.K H kvs' cC):Keep H (upd H a<|.dK cC)/\RH i (O.upd G a<|.dct kvs') (upd H a<|.dK cC):=by
 have k:Keep H<|upd H a<|.dK cC:=Keep.put (fun xs e=>by rw[h]at e;cases e) fun p u e=>by rw[h]at e;cases e
 exact⟨k,g.put k ⟨cC,upd_same,r.keep k⟩⟩
theorem RTs.length{K:Frag}{H:Hp}:∀{kvs:List (O.Val×O.Val)}{ps:List (List Key×V)},RTs K H kvs ps->kvs.length=ps.length
 |_,_,.nil=>rfl
 |_,_,.cons _ t=>by rw[Ì,Ì,RTs.length t]
theorem Mj(a b i j:Int):(O.Val.key a b == .key i j)=decide (([.inl a,.inl b]:List Key)=[.inl i,.inl j]):=by
 by_cases e:a=i/\b=j
 .obtain⟨rfl,rfl⟩:=e;rw[decide_eq_true rfl];simp
 .rw[decide_eq_false fun z=>e<|by simpa using z];exact beq_eq_false_iff_ne.mpr fun z=>e (by simpa using z)
theorem RTs.look{K:Frag}{H:Hp}{i j:Int}:∀{kvs:List (O.Val×O.Val)}{ps:List (List Key×V)},RTs K H kvs ps->
  (∀v,O.lookK kvs (.key i j)=some v->∃x,Xh ps [.inl i,.inl j]=some x/\RV K H v x)/\(O.lookK kvs (.key i j)=none->Xh ps [.inl i,.inl j]=none)
 |_,_,.nil=>⟨fun v e=>(by cases e),fun _=>rfl⟩
 |_,_,.cons (i:=a) (j:=b) (v:=u) (x:=y) (kvs:=kvs) (ps:=ps) r t=>by
  have ih:=RTs.look (i:=i) (j:=j) t;have q:=Mj a b i j;by_cases e:([.inl a,.inl b]:List Key)=[.inl i,.inl j]
  .rw[decide_eq_true e]at q;have e1:O.lookK ((.key a b,u)::kvs) (.key i j)=some u:=by simp[O.lookK,ć,q]
   rw[e1,YJ e];exact⟨fun v z=>(by cases z;exact⟨y,rfl,r⟩),fun z=>(by cases z)⟩
  .rw[decide_eq_false e]at q;have e1:O.lookK ((.key a b,u)::kvs) (.key i j)=O.lookK kvs (.key i j):=by simp[O.lookK,ć,q]
   rw[e1,YL e];exact ih
theorem RTs.has{K:Frag}{H:Hp}{i j:Int}:∀{kvs:List (O.Val×O.Val)}{ps:List (List Key×V)},RTs K H kvs ps->O.hasK kvs (.key i j)=ps.any fun kv=>decide (kv.1=[.inl i,.inl j])
 |_,_,.nil=>rfl
 |_,_,.cons (i:=a) (j:=b) r t=>by have ih:=RTs.has (i:=i) (j:=j) t;unfold O.hasK at ih ⊢;rw[Ġ,Ġ,ih,Mj a b i j]
theorem RTs.app{K:Frag}{H:Hp}{v:O.Val}{i j:Int}{x:V}(q:RV K H v x):∀{kvs:List (O.Val×O.Val)}{ps:List (List Key×V)},RTs K H kvs ps->RTs K H (kvs++[(.key i j,v)]) (ps++[([.inl i,.inl j],x)])
 |_,_,.nil=>.cons q .nil
 |_,_,.cons r t=>.cons r<|RTs.app q t
theorem RTs.repl{K:Frag}{H:Hp}{v:O.Val}{i j:Int}{x:V}(q:RV K H v x):∀{kvs:List (O.Val×O.Val)}{ps:List (List Key×V)},RTs K H kvs ps->
  RTs K H (kvs.map fun p=>if p.1 == .key i j then(.key i j,v)else p) (ps.map fun kv=>if kv.1=[.inl i,.inl j]then(kv.1,x)else kv)
 |_,_,.nil=>.nil
 |_,_,.cons (i:=a) (j:=b) (v:=u) (x:=y) r t=>by
  have ih:=RTs.repl (i:=i) (j:=j) q t;have z:=Mj a b i j;rw[Ð,Ð];by_cases e:([.inl a,.inl b]:List Key)=[.inl i,.inl j]
  .rw[decide_eq_true e]at z;simp only[z,if_true,e];exact .cons q ih
  .rw[decide_eq_false e]at z;simp only[z,e,if_false,ċ];exact .cons r ih
theorem RTs.put{K:Frag}{H:Hp}{v:O.Val}{i j:Int}{x:V}(q:RV K H v x){kvs:List (O.Val×O.Val)}{ps:List (List Key×V)}(r:RTs K H kvs ps):RTs K H (O.putK kvs (.key i j) v)<|L2.putK ps [.inl i,.inl j] x:=by
 unfold O.putK L2.putK;rw[r.has];by_cases e:(ps.any fun kv=>decide (kv.1=[.inl i,.inl j]))=true
 .rw[if_pos e,if_pos e];exact r.repl q
 .rw[if_neg e,if_neg e];exact r.app q
theorem E2{ps cC:List (List Key×V)}(g:RH i G H)(h:H a=some (.dT ps))(r:RTs i.K H kvs' cC):Keep H (upd H a<|.dT cC)/\RH i (O.upd G a<|.dtp kvs') (upd H a<|.dT cC):=by
 have k:Keep H<|upd H a<|.dT cC:=Keep.put (fun xs e=>by rw[h]at e;cases e) fun p u e=>by rw[h]at e;cases e
 exact⟨k,g.put k ⟨cC,upd_same,r.keep k⟩⟩
theorem KR{k:O.Val}{x:V}{K:Frag}{H:Hp}(h:O.isKeyT k=true)(r:RV K H k x):∃a b c,k=.key a b/\x=.ref c/\H c=some (.tup<|([.inl a,.inl b]:List Key).map kV):=by
 cases k with
 |key a b=>cases r with|key e=>exact⟨a,b,_,rfl,rfl,e⟩
 |_=>cases h
noncomputable def Pk:R2:=fun x y H Q=>∃a v,x=.ref a/\DGet H a y (some v)/\Q v H
theorem EF(hu:X.A.units+1<Ğ):IxR X Pk:=by
 intro η slice Á s σ H x y v u Q I rx ry h hs;obtain⟨a,z,rfl,g,q⟩:=h;cases rx;have hT:=NI I g;unfold ae;refine À ?_;rw[getitemInPython_of_ne hT.not_modules];refine À<|wpAny_specialOf hT PySem.F.slot_dict_getitem.lookup ?_;have fin:wpAny (Û X.prog X.w) X.A (subscripted slice false (.ref a) u) (fun r az=>wpAny (Û X.prog X.w) X.A (letTemporaryGo η (.ref a) r >>= fun _=>pure r) (EP X Á σ Q) X.xe az) X.xe s:=by rw[hs];exact wpAny_operating<|U8 hu I g ry fun w' s' I' cY=>À<|wpAny_letTemporaryGo<|Æ ⟨_,_,I',cY,q⟩
 first
  |exact Æ<|À fin
  |exact À<|Æ<|À fin
  |exact À fin
noncomputable def FF(b:Bool):R2:=fun x y H Q=>∃a o,y=.ref a/\DGet H a x o/\Q (.bl<|b ^^ o.isSome) H
theorem GT(hu:X.A.units+1<Ğ):OpR X (è .In)<|FF false:=by intro Á s σ H x y v u Q I rx ry h;obtain⟨a,o,rfl,g,q⟩:=h;cases ry;rw[Bool.false_xor]at q;exact RI hu I g rx fun s' I'=>⟨.bl o.isSome,_,I',rfl,q⟩
theorem Lf(hu:X.A.units+1<Ğ):OpR X (è .NotIn)<|FF true:=by intro Á s σ H x y v u Q I rx ry h;obtain⟨a,o,rfl,g,q⟩:=h;cases ry;rw[Bool.true_xor]at q;exact Ek hu I g rx fun s' I'=>⟨.bl (!o.isSome),_,I',rfl,q⟩
def Gx:V->V->V->Hp->(Hp->Prop)->Prop:=fun o y v H Q=>∃a H',o=.ref a/\DPut H a y v H'/\Q H'
theorem De(hu:X.A.units+1<Ğ):PSet X Gx:=by intro Á s σ H o y v ov iv u Q I ro ri rv h;obtain⟨a,H',rfl,g,q⟩:=h;cases ro;exact Av hu I g ri rv fun s' I'=>⟨H',I',q⟩
theorem PSet.or{r r':V->V->V->Hp->(Hp->Prop)->Prop}(h:PSet X r)(h':PSet X r'):PSet X fun o y v H Q=>r o y v H Q\/r' o y v H Q:=by
 intro Á s σ H o y v ov iv u Q I ro ri rv q;rcases q with q|q
 .exact h Á s σ H o y v ov iv u Q I ro ri rv q
 .exact h' Á s σ H o y v ov iv u Q I ro ri rv q
end Snd
namespace Snd
open PySem L2
variable {i:Inf}{X:Cx}{Φ:O.Fs}
theorem KP(n:Nat)(k:Int):O.ixN n k=L2.ixN n k:=rfl
variable {H:Hp} {xs:List O.Val} {vs:List V}
theorem Mw{K:Frag}{k:Int}{v:O.Val}(r:RVs K H xs vs)(e:O.atI xs k=some v):∃x,L2.atI vs k=some x/\RV K H v x:=by
 unfold O.atI at e;unfold L2.atI;rw[KP,r.length]at e;cases z:L2.ixN vs.length k with
 |none=>rw[z]at e;cases e
 |some j =>rw[z]at e;obtain⟨x,h1,h2⟩:=r.get (show xs[j]?=some v from e);exact⟨x,h1,h2⟩
def PX(i:Inf)(r:R2):Prop:=∀(v u:O.Val) (G:O.Hs) (H:Hp) (x y:V) (w:O.Val) (Q:VK),RH i G H->RV i.K H v x->RV i.K H u y->O.idxV G v u=some w->(∀z,RV i.K H w z->Q z H)->r x y H Q
variable {a:Expr} {ma:O.E} {pos:Pos}
theorem Qc{b:Expr}{mb:O.E}{r:R2}(hr:IxR X r)(ho:PX i r)(ha:PE X a<|tE X i Φ ma)(hb:PE X b<|tE X i Φ mb)(hs:MD b):PE X (.Subscript a b pos) (tE X i Φ<|.idx ma mb) :=
 (L7 hr ha hb hs).imp fun σ H Q ⟨env,G,Qm,Em,p,w,c⟩=>by
  exact two p w fun v u G2 H2 x y k2 p2 rx ry q=>by obtain⟨z,e,q⟩:=go_some q;exact ho v u G2 H2 x y z Q p2.hp rx ry e fun t rt=>c z G2 H2 t k2 p2.hp rt q
theorem ET{s:String}{k:Int}{c:Char}(e:O.atI s.toList k=some c):L2.atI (Str.ofString s).cps.toList k=some c.toNat:=by
 rw[Str.ofString_eq_toList];show L2.atI (List.map Ő s.toList).toArray.toList k=_;unfold O.atI at e;unfold L2.atI;simp only[Â];rw[KP]at e;cases z:L2.ixN s.toList.length k with
 |none=>rw[z]at e;cases e
 |some j =>rw[z]at e;have e:s.toList[j]?=some c:=e;show(List.map Ő s.toList)[j]?=_;rw[Ù,e];rfl
theorem OD(c:Char):Str.ofString (Ζ c)=⟨#[c.toNat]⟩:=by rw[Str.ofString_eq_toList];simp
noncomputable def Ru(K:Frag):R2:=fun x y H Q=>rIx K x y H Q\/Pk x y H Q
theorem QH:PX i<|Ru i.K:=by
 intro v u G H x y w Q g rx ry e q;cases v with
 |tup xs =>
  cases u with
  |int k =>
   cases rx with
   |tup hp hr =>obtain⟨z,h1,h2⟩:=Mw hr (show O.atI xs k=some w from e);exact .inl<|.inr<|.inl ⟨_,_,k,z,rfl,ry.int_inv,Zf hp,h1,q z h2⟩
  |_=>cases e
 |str s =>
  cases u with
  |int k =>
   simp only[O.idxV]at e;split at e
   .rename_i hl;cases z:O.atI s.toList k with
    |none=>rw[z]at e;cases e
    |some c =>rw[z]at e;cases e;refine .inl (.inr<|.inr ⟨_,k,_,rx.str_inv,ry.int_inv,by rw[Zs];exact Ó hl ZL,ET z,?_⟩);have:=q _<|.str<|Ζ c;rw[OD]at this;exact this
   .cases e
  |_=>cases e
 |ref a =>
  cases rx.ref_inv
  replace e:(match G a with|some (.lst xs)=>(O.asInt u).bind (O.atI xs)|some (.dct kvs)=>if O.isKey u then O.lookK kvs u else none|some (.frz kvs)=>if O.isKey u then O.lookK kvs u else none|some (.dtp kvs)=>if O.isKeyT u then O.lookK kvs u else none|_=>none)=some w:=e
  cases z:G a with
  |none=>rw[z]at e;cases e
  |some o =>
   rw[z]at e;cases o with
   |lst xs =>obtain⟨k,hk,e⟩:=æ.mp e;cases ZH hk;obtain⟨vs,h1,h2⟩:=g a _ z;obtain⟨t,h3,h4⟩:=Mw h2 e;exact .inl<|.inl ⟨a,vs,k,t,rfl,ry.int_inv,SqL.of h1,h3,q t h4⟩
   |dct kvs =>obtain⟨hk,e⟩:=ZC (show(if O.isKey u then O.lookK kvs u else none)=some w from e);obtain⟨ps,h1,h2⟩:=g a _ z;obtain⟨d,kr,rfl⟩:=key_of hk ry;obtain⟨t,hx,rv⟩:=(h2.look kr).1 w e;exact .inr ⟨a,t,rfl,by rw[<-hx];exact DGet.k h1,q t rv⟩
   |frz kvs =>obtain⟨hk,e⟩:=ZC (show(if O.isKey u then O.lookK kvs u else none)=some w from e);obtain⟨ob,ps,h1,h2⟩:=g a _ z;obtain⟨d,kr,rfl⟩:=key_of hk ry;obtain⟨t,hx,rv⟩:=(h2.look kr).1 w e;exact .inr ⟨a,t,rfl,.inl ⟨ps,d,.inr ⟨ob,h1⟩,rfl,hx.symm⟩,q t rv⟩
   |dtp kvs =>obtain⟨hk,e⟩:=ZC (show(if O.isKeyT u then O.lookK kvs u else none)=some w from e);obtain⟨ps,h1,h2⟩:=g a _ z;obtain⟨k1,k2,b,rfl,rfl,hb⟩:=KR hk ry;obtain⟨t,hx,rv⟩:=(h2.look).1 w e;exact .inr ⟨a,t,rfl,by rw[<-hx];exact DGet.t h1 hb,q t rv⟩
   |_=>cases e
 |scr ns =>
  cases u with
  |int k =>
   cases rx with
   |scr h =>obtain⟨t,h3,h4⟩:=Mw (RVs.ints ns) (show O.atI (ns.map .int) k=some w from e);exact .inl<|.inl ⟨_,_,k,t,rfl,ry.int_inv,Z5 h,h3,q t h4⟩
  |_=>cases e
 |_=>cases e
noncomputable def tOx(X:Cx)(i:Inf)(Φ:O.Fs)(m:O.Oe):TO:=fun σ H Q=>∃env G Qm Em,Pre X i σ H env G Em/\O.wO Φ m env G Qm Em/\∀k G' H',Keep H H'->RH i G' H'->Qm k G'->Q k H'
theorem _root_.L2.PO.imp{e:Option Expr}{t t':TO}(h:PO X e t)(f:∀σ H Q,t' σ H Q->t σ H Q):PO X e t':=fun Á s σ H Q I q=>h Á s σ H Q I (f σ H Q q)
theorem FG:PO X none<|tOx X i Φ .none:=po_none.imp fun σ H Q ⟨env,G,Qm,Em,p,w,c⟩=>by exact c none G H (Keep.refl H) p.hp w
theorem DU{e:Expr}{m:O.E}(he:PE X e<|tE X i Φ m):PO X (some e)<|tOx X i Φ<|.some m:=(Fh he).imp fun σ H Q ⟨env,G,Qm,Em,p,w,c⟩=>by
 exact one p w fun v G1 H1 x k1 p1 r q=>by obtain⟨b,e,q2⟩:=go_some q;cases ZH e;exact⟨b,r.int_inv,c _ G1 H1 k1 p1.hp q2⟩
theorem Og{K:Frag}(r:RVs K H xs vs)(lo hi:Option Int):RVs K H (O.cut xs lo hi)<|K3 vs lo hi:=by
 have e:∀(n d:Nat) (o:Option Int),O.cutAt n d o=HT.sIx n d o:=by
  intro n d o;cases o with
  |none=>rfl
  |some k =>
   show(if 0<=k then min k.toNat n else(k+n).toNat)=(if k<0 then(k+(n:Int)).toNat else min k.toNat n)
   by_cases h:k<0
   .rw[if_pos h,if_neg<|by omega]
   .rw[if_neg h,if_pos<|by omega]
 unfold O.cut K3;rw[e,e,r.length];exact(r.drop _).take _
def QP(i:Inf)(r:V->Option Int->Option Int->Hp->VK->Prop):Prop:=∀(v:O.Val) (lo hi:Option Int) (G:O.Hs) (H:Hp) (x:V) (Q:VK) (Qm:O.Q1),RH i G H->RV i.K H v x->(O.slcV G v lo hi).wp G Qm->Cn i H Q Qm->r x lo hi H Q
theorem QF{lo hi:Option Expr}{ml mh:O.Oe}{r:V->Option Int->Option Int->Hp->VK->Prop}{p2:Pos}(hr:SlR X r)(ho:QP i r)(ha:PE X a<|tE X i Φ ma)(hl:PO X lo<|tOx X i Φ ml)(hh:PO X hi<|tOx X i Φ mh):PE X (.Subscript a (.Slice lo hi none p2) pos) (tE X i Φ<|.slc ma ml mh) :=
 (A5 hr ha hl hh).imp fun σ H Q ⟨env,G,Qm,Em,p,w,c⟩=>by
  exact⟨env,G,_,Em,p,w,fun v G1 H1 x k1 g1 r1 w1=>⟨env,G1,_,Em,p.go k1 g1,w1,fun l G2 H2 k2 g2 w2=>⟨env,G2,_,Em,(p.go k1 g1).go k2 g2,w2,fun u G3 H3 k3 g3 w3 =>
    ho v l u G3 H3 x Q Qm g3 ((r1.keep k2).keep k3) w3 (((c.go k1).go k2).go k3)⟩⟩⟩
def PV(K:Frag):V->Option Int->Option Int->Hp->VK->Prop:=fun x lo hi H Q=>Pm K x lo hi H Q\/PQ K x lo hi H Q\/L4 x lo hi H Q\/LN K x lo hi H Q
theorem RP:SlR X<|PV X.K:=sl_list.or (sl_tup.or<|sl_str.or Fb)
theorem XE(n d:Nat)(o:Option Int):O.cutAt n d o=HT.sIx n d o:=by
 cases o with
 |none=>rfl
 |some k =>
  show(if 0<=k then min k.toNat n else(k+n).toNat)=(if k<0 then(k+(n:Int)).toNat else min k.toNat n)
  by_cases h:k<0
  .rw[if_pos h,if_neg<|by omega]
  .rw[if_neg h,if_pos<|by omega]
theorem M1(n d:Nat)(h:d<=n)(o:Option Int):O.cutAt n d o<=n:=by
 cases o with
 |none=>exact h
 |some k =>show(if 0<=k then min k.toNat n else(k+n).toNat)<=n;split<;>omega
theorem clip_eq(n d:Nat)(h:d<=n)(o:Option Int):(match o with
    |none=>(d:Int)
    | some i=>max 0<|min (if i<0 then i+(n:Int)else i) (n:Int))=(O.cutAt n d o:Int):=by
 cases o with
 |none=>rfl
 |some k =>
  show _=(((if 0<=k then min k.toNat n else(k+n).toNat):Nat):Int)
  by_cases hk:k<0
  .rw[if_neg<|show ¬ 0<=k by omega];simp only[hk,if_true];omega
  .rw[if_pos<|show 0<=k by omega];simp only[hk,if_false];omega
theorem Ld(n:Nat)(lo hi:Option Int):PySem.Builtin.Str.strSliceIndices lo hi 1 n=(List.range<|O.cutAt n n hi - O.cutAt n 0 lo).map fun k=>O.cutAt n 0 lo+k:=by
 have e1:=clip_eq n 0 (Ĳ _) lo;have e2:=clip_eq n n (Î _) hi;have e3:PySem.Builtin.Str.strSliceIndices lo hi 1 n=sliceRange (O.cutAt n 0 lo:Int) (O.cutAt n n hi:Int) 1:=by unfold PySem.Builtin.Str.strSliceIndices;rw[<-e1,<-e2];cases lo<;>cases hi<;>rfl
 rw[e3];unfold sliceRange;have e4:(if(1:Int) > 0 then(if(O.cutAt n 0 lo:Int)<(O.cutAt n n hi:Int)then((O.cutAt n n hi:Int) - (O.cutAt n 0 lo:Int)+1 - 1) / 1 else 0)else(if(O.cutAt n 0 lo:Int) > (O.cutAt n n hi:Int)then((O.cutAt n 0 lo:Int) - (O.cutAt n n hi:Int) - 1 - 1) / (-1)else 0)).toNat=O.cutAt n n hi - O.cutAt n 0 lo:=by rw[if_pos (by decide),Int.ediv_one];split<;>omega
 show(List.range<|Int.toNat<|if(1:Int) > 0 then _ else _).map _=_;rw[e4];refine Ā fun k _=>?_;omega
theorem EJ(s:String)(lo hi:Option Int):Ak (Str.ofString s) lo hi=Str.ofString (Ţ<|O.cut s.toList lo hi):=by
 have hl:(Str.ofString s).length=s.toList.length:=by rw[Zs,bH]
 have ha:=M1 s.toList.length 0 (Ĳ _) lo;have hb:=M1 s.toList.length s.toList.length (Î _) hi;have e:=Ld s.toList.length lo hi;rw[<-hl]at e;unfold Ak;rw[e];simp only[hl];have ec:(Str.ofString s).cps.toList=s.toList.map Ő:=by rw[Str.ofString_eq_toList]
 split
 .rename_i z;rw[Â,Ů]at z;have e0:O.cutAt s.toList.length 0 lo=0\/s.toList.length=0:=by omega
  have e5:O.cut s.toList lo hi=s.toList:=by
   unfold O.cut;rw[z];rcases e0 with e0|e0
   .rw[e0,List.drop_zero,ó]
   .have:s.toList=[]:=bx.mp e0;rw[this];simp
  rw[e5,String.ofList_toList]
 .rw[Str.ofString_eq_toList<|Ţ _,bI];congr 2;have e3:(fun i:Nat=>(Str.ofString s).cps[i]?)=fun i:Nat=>(s.toList.map Ő)[i]?:=by
   funext i;rw[<-ec];simp
  rw[e3];by_cases bQ:O.cutAt s.toList.length 0 lo<=O.cutAt s.toList.length s.toList.length hi
  .rw[PySem.StrLaws.picks _ _ _<|by rw[Â];omega];unfold O.cut;rw[List.map_take,List.map_drop]
  .have:O.cutAt s.toList.length s.toList.length hi - O.cutAt s.toList.length 0 lo=0:=by omega
   unfold O.cut;rw[this];simp
theorem PF:QP i<|PV i.K:=by
 intro v lo hi G H x Q Qm g r w c;cases v with
 |tup xs =>
  simp only[O.slcV]at w;split at w
  .rename_i hn;rw[O.Rs.wp_val]at w;cases r with
   |@tup _ a vs hp hr=>exact .inr (.inr<|.inr ⟨a,vs,rfl,Zf hp,by rw[<-XE,<-XE,<-hr.length];exact hn,c _ G H _ (Keep.refl H) g (.tup hp hr) w⟩)
  .rename_i hn;rw[O.Rs.wp_val]at w;cases r with
   |@tup _ a vs hp hr =>refine .inr (.inl ⟨a,vs,rfl,Zf hp,by rw[<-XE,<-XE,<-hr.length];exact hn,fun p hp'=>?_⟩);have k:=Keep.new (o:=.tup<|K3 vs lo hi) hp';refine c _ G _ _ k (g.hid k fun b o e=>upd_ne ?_) (.tup (.inl upd_same)<|Og (hr.keep k) lo hi) w;rintro rfl;rw[g.free hp']at e;cases e
 |ref a =>
  cases r.ref_inv;simp only[O.slcV]at w;cases z:O.lsOf (G a)with
  |none=>rw[z]at w;simp at w
  |some xs =>rw[z]at w;rw[O.Rs.wp_new]at w;obtain⟨vs,h1,h2⟩:=Zt g z;exact .inl ⟨a,vs,rfl,h1,ZU g w c fun p hp=>⟨_,upd_same,Og (h2.keep<|Keep.new hp) lo hi⟩⟩
 |scr ns =>
  simp only[O.slcV,O.Rs.wp_new]at w;cases r with
  |scr h=>exact .inl ⟨_,_,rfl,Z5 h,ZU g w c fun p hp=>⟨_,upd_same,Og (RVs.ints ns) lo hi⟩⟩
 |str s =>
  cases r.str_inv;simp only[O.slcV]at w;split at w
  .rename_i hl;rw[O.Rs.wp_val]at w;refine .inr (.inr <| .inl ⟨_,rfl,by rw[Zs];exact Ó hl (by decide),?_⟩);rw[EJ];exact c _ G H _ (Keep.refl H) g (.str _) w
  .simp at w
 |_=>simp[O.slcV]at w
variable {H:Hp} {vs:List O.Val} {xs:List V} {x:V}
theorem RVs.app1{K:Frag}{v:O.Val}(r:RVs K H vs xs)(q:RV K H v x):RVs K H (vs++[v])<|xs++[x]:=r.append (.cons q .nil)
variable {es:List Expr} {ms:O.Es} {n:Nat} {pos:Pos}
theorem Qg{k:Nat}(hn:n<=1000)(h:PA X es<|tAr X i Φ ms n):PE X (.Tuple es k pos) (tE X i Φ<|.tup ms) :=
 (Cw h).imp fun σ H Q ⟨env,G,Qm,Em,p,w,c⟩=>by refine⟨env,G,_,Em,p,w,fun vs G1 H1 xs k1 g1 r1 hl w1=>⟨by rw[hl];exact Ó hn (by decide),fun a ha=>?_⟩⟩;have k:=Keep.new (o:=.tup xs) ha;refine c _ G1 _ _ (k1.trans k) (g1.hid k fun b o e=>upd_ne ?_) (.tup (.inl upd_same)<|r1.keep k) w1;rintro rfl;rw[g1.free ha]at e;cases e
theorem QQ{k:Nat}(hn:n<=1000)(h:PA X es<|tAr X i Φ ms n):PE X (.Tuple es k pos) (tE X i Φ<|.key ms) :=
 (Cw h).imp fun σ H Q ⟨env,G,Qm,Em,p,w,c⟩=>by
  refine⟨env,G,_,Em,p,w,fun vs G1 H1 xs k1 g1 r1 hl w1=>⟨by rw[hl];exact Ó hn (by decide),fun a ha=>?_⟩⟩;have kp:=Keep.new (o:=.tup xs) ha;obtain⟨⟨m1,m2⟩,e,w2⟩:=go_some w1;have ev:vs=[.int m1,.int m2]:=by
   match vs,e with
   |[.int a,.int b],e=>cases e;rfl
  subst ev;have ex:xs=[.int m1,.int m2]:=by
   cases r1 with
   |cons r1 t=>cases t with
    |cons r2 t=>cases t;rw[r1.int_inv,r2.int_inv]
  subst ex;refine c _ G1 _ _ (k1.trans kp) (g1.hid kp fun b o e=>upd_ne ?_) (.key upd_same) w2;rintro rfl;rw[g1.free ha]at e;cases e
theorem Qi(hn:n<=1000)(h:PA X es<|tAr X i Φ ms n):PE X (.List es pos) (tE X i Φ<|.lst ms) :=
 (Iz h).imp fun σ H Q ⟨env,G,Qm,Em,p,w,c⟩=>by refine⟨env,G,_,Em,p,w,fun vs G1 H1 xs k1 g1 r1 hl w1=>⟨by rw[hl];exact Ó hn (by decide),ZU g1 w1 (c.go k1) fun a ha=>?_⟩⟩;exact⟨xs,upd_same,r1.keep<|Keep.new ha⟩
def BiOk(i:Inf)(f:O.Bi)(r:List V->Hp->VK->Prop):Prop:=∀(vs:List O.Val) (G:O.Hs) (H:Hp) (xs:List V) (Q:VK) (Qm:O.Q1),RH i G H->RVs i.K H vs xs->(O.biV G f vs).wp G Qm->Cn i H Q Qm->r xs H Q
variable {f:O.Bi} {r:List V->Hp->VK->Prop}
theorem Wm(hr:BiOk i f r):∀σ H Q,tE X i Φ (.bi f ms) σ H Q->tCB r (tAr X i Φ ms n) σ H Q:=fun σ H Q ⟨env,G,Qm,Em,p,w,c⟩=>by exact⟨env,G,_,Em,p,w,fun vs G1 H1 xs k1 g1 r1 _ w1=>hr vs G1 H1 xs Q Qm g1 r1 w1<|c.go k1⟩
theorem RVs.inv1{K:Frag}{v:O.Val}(r:RVs K H [v] xs):∃x,xs=[x]/\RV K H v x:=by cases r with|cons a t=>cases t;exact⟨_,rfl,a⟩
theorem Kj(s:String):(Str.ofString s).cps.toList=s.toList.map Ő:=by rw[Str.ofString_eq_toList]
theorem OT:∀(l:List Char) (a:Nat),(l.map Ő).foldl (fun į c=>į*10+(c - 48)) a=l.foldl (fun a c=>10*a+(c.toNat - 48)) a
 |[],_=>rfl
 |c::l,a=>by rw[Ð,Ĵ,Ĵ,OT l,bZ a 10]
theorem FC{s:String}(h1:s.toList≠[])(h2:s.toList.all O.figB=true)(h3:s.length<=640):PySem.intText? (Str.ofString s)=some ((O.decN s.toList:Nat):Int):=by
 have hc:=Kj s;rw[intText_digits (x:=Str.ofString s)]
 .rw[hc];unfold NumText.digitsVal O.decN;rw[OT]
 .rw[hc];intro c hm;obtain⟨d,hd,rfl⟩:=Ò.mp hm;have:=ñ.mp h2 d hd;unfold O.figB at this;simpa using this
 .rw[hc];simpa using h1
 .rw[Zs];omega
variable {h:O.Hs} {Q:O.Q1}
theorem YI{f:O.Val->O.Rs}(w:(O.biOf1 f vs).wp h Q):∃v,vs=[v]/\(f v).wp h Q:=by
 cases vs with
 |nil=>exact(Zj w).elim
 |cons v vs=>cases vs with
  |nil=>exact⟨v,rfl,w⟩
  |cons _ _=>exact(Zj w).elim
theorem BiOk.imp{r':List V->Hp->VK->Prop}(h:BiOk i f r)(k:∀xs H Q,r xs H Q->r' xs H Q):BiOk i f r':=fun vs G H xs Q Qm g rv w c=>k _ _ _ (h vs G H xs Q Qm g rv w c)
theorem Ik:BiOk i .int fun xs H Q=>((∃i,xs=[.int i]/\Q (.int i) H)\/∃k,xs=[.bl k]/\Q (.int<|if k then 1 else 0) H)\/∃z n,xs=[.str z]/\PySem.intText? z=some n/\z.length<=640/\Q (.int n) H:=by
 intro vs G H xs Q Qm g r w c;obtain⟨v,rfl,w⟩:=YI w;obtain⟨x,rfl,rx⟩:=r.inv1;cases v with
 |int k=>cases rx.int_inv;exact .inl<|.inl ⟨k,rfl,c _ G H _ (Keep.refl H) g (.int _)<|Zg w⟩
 |bl k=>cases rx.bl_inv;exact .inl<|.inr ⟨k,rfl,c _ G H _ (Keep.refl H) g (.int _)<|Zg w⟩
 |str s =>cases rx.str_inv;obtain⟨hl,w⟩:=Xj w;exact .inr ⟨_,_,rfl,FC hl.2.1 hl.2.2 hl.1,by rw[Zs];exact hl.1,c _ G H _ (Keep.refl H) g (.int _)<|Zg w⟩
 |_=>exact(Zj w).elim
noncomputable def LZ(o:Option O.Ob)(f:List O.Val->O.Rs):O.Rs:=match o with
 |some (.lst xs)=>f xs
 |_=>.no
variable {o:Option O.Ob}
theorem MK{f:List O.Val->O.Rs}(w:(LZ o f).wp h Q):∃xs,o=some (.lst xs)/\(f xs).wp h Q:=by
 cases o with
 |none=>exact(Zj w).elim
 |some o=>cases o with
  |lst xs=>exact⟨xs,rfl,w⟩
  |_=>exact(Zj w).elim
variable {G:O.Hs}
theorem FN{Q:VK}{Qm:O.Q1}{ys:List O.Val}{us:List V}(g:RH i G H)(r:RVs i.K H ys us)(w:Qm (.tup ys) G)(c:Cn i H Q Qm):∀l,H l=none->Q (.ref l) (upd H l<|.tup us):=fun l hl=>by have k:=Keep.new (o:=.tup us) hl;refine c _ G _ _ k (g.hid k fun b o e=>upd_ne ?_) (.tup (.inl upd_same)<|r.keep k) w;rintro rfl;rw[g.free hl]at e;cases e
theorem By:BiOk i .tuple fun xs H Q=>∃p ys,xs=[.ref p]/\((SqL i.K H p ys/\∀l,H l=none->Q (.ref l) (upd H l<|.tup ys))\/(SqT i.K H p ys/\Q (.ref p) H)):=by
 intro vs G H xs Q Qm g r w c;obtain⟨v,rfl,w⟩:=YI w;obtain⟨x,rfl,rx⟩:=r.inv1;cases v with
 |ref a =>cases rx.ref_inv;obtain⟨ys,e,w⟩:=MK (f:=fun xs=>.val<|.tup xs) w;obtain⟨us,h1,h2⟩:=g a _ e;exact⟨a,us,rfl,.inl ⟨SqL.of h1,FN g h2 (Zg w) c⟩⟩
 |tup ys =>
  cases rx with
  |tup hp hr=>exact⟨_,_,rfl,.inr ⟨Zf hp,c _ G H _ (Keep.refl H) g (.tup hp hr)<|Zg w⟩⟩
 |_=>exact(Zj w).elim
noncomputable def kinds:List String:=["int","bool","str","list","tuple","dict"]
theorem FQ(K:Frag):∀t∈["NoneType","bool","int","str","tuple","list","dict"],∀T∈kinds,PySem.W.kitOne K (.type t) (.type T)=some (t==T||(t == "bool" && T == "int")):=by intro t ht T hT;simp only[kinds,Ç,Ý,or_false]at ht hT;rcases ht with rfl|rfl|rfl|rfl|rfl|rfl|rfl<;>rcases hT with rfl|rfl|rfl|rfl|rfl|rfl<;>rfl
theorem AV(g:RH i G H){v:O.Val}{t:String}(r:RV i.K H v x)(e:O.kindV G v=some t):TyV i.K H x (.type t)/\t∈["NoneType","bool","int","str","tuple","list","dict"]:=by
 cases v with
 |non=>cases r;cases e;exact⟨.of .non,by simp⟩
 |bl b=>cases r;cases e;exact⟨.of<|.bl b,by simp⟩
 |int b=>cases r;cases e;exact⟨.of<|.int b,by simp⟩
 |str b=>cases r;cases e;exact⟨.of<|.str _,by simp⟩
 |tup xs=>cases e;cases r with|tup hp hr=>exact⟨.tup<|Zf hp,by simp⟩
 |scr ns=>cases e;cases r with|scr h=>exact⟨.lst<|Z5 h,by simp⟩
 |ref a =>
  cases r.ref_inv;simp only[O.kindV]at e;cases q:G a with
  |none=>rw[q]at e;cases e
  |some o =>
   rw[q]at e;cases o with
   |lst xs=>cases e;obtain⟨vs,h1,_⟩:=g a _ q;exact⟨.lst<|SqL.of h1,by simp⟩
   |dct kvs=>cases e;obtain⟨ps,h1,_⟩:=g a _ q;exact⟨.of<|.dK h1,by simp⟩
   |ins C fs=>cases e
   |exc C=>cases e
   |frz _=>cases e
   |dtp _=>cases e
 |key _ _=>cases e
theorem L8{e:Expr}{m:O.E}{T:String}{p p2:Pos}(hT:T∈kinds)(he:PE X e<|tE X i Φ m)(hk:X.K=i.K)(hg:Gl X "isinstance")(hm:X.mg "isinstance" = none)(hg2:Gl X<|Str.ofString T)(hm2:X.mg (Str.ofString T)=none)
  (hv2:ť (Str.ofString T)=some (.type T)) (hn2:Str.ofString T≠"__name__") (bP:(Str.ofString T==("__debug__" : Str))=false) (Γ:Õ [e,.Name (Str.ofString T) p2] X.env=(false,eval e X.env)::Õ [.Name (Str.ofString T) p2] X.env) :
  PE X (.Call (.Name "isinstance" p) [e,.Name (Str.ofString T) p2] [] pos) (tE X i Φ<|.bi (.isi [T])<|.cons m .nil):=by
 refine(YN CJ hg hm (by kernel_rfl) (ZW he (ZW (QJ (T:=T) hg2 hm2 hv2 hn2 bP) pa_nil) Γ) (he:=Γ)).imp fun σ H Q ⟨env,G,Qm,Em,p,w,c⟩=>?_;refine one p w fun v G1 H1 x k1 p1 r q=>?_
 replace q:(O.Rs.ofO (((O.isiV G1 v T).bind fun b=>(O.isiAny G1 v []).map (b || ·)).map .bl)).wp G1 Qm:=q
 simp only[O.isiAny,O.isiV]at q;cases z:O.kindV G1 v with
 |none=>rw[z]at q;simp[O.Rs.ofO]at q
 |some t =>rw[z]at q;simp only[Ľ,ð,O.Rs.ofO,O.Rs.wp_val,Ϥ]at q;obtain⟨h1,h2⟩:=AV p1.hp r z;refine⟨x,T,.type t,_,rfl,by rw[hk];exact h1,by rw[hk];exact FQ _ t h2 T hT,c _ G1 H1 _ k1 p1.hp (.bl _) q⟩
theorem N4(h:O.isLst o=true):∃xs,o=some (.lst xs):=by
 cases o with
 |none=>cases h
 |some o=>cases o with
  |lst xs=>exact⟨xs,rfl⟩
  |_=>cases h
variable {a:È}
theorem CN{f:O.Ad->List O.Val->Option (O.Val×O.Hs)}{t:O.Val×O.Hs}(e:O.bmL G (.ref a) f=some t):∃xs,G a=some (.lst xs)/\f a xs=some t:=by obtain⟨xs,h1,h2⟩:=æ.mp (show(O.lsOf<|G a).bind (f a)=some t from e);exact⟨xs,Az h1,h2⟩
theorem Mz{xs:List O.Val}{vs:List V}(g:RH i G H)(h:H a=some (.lst vs))(ys:List O.Val)(us:List V)(r:RVs i.K H ys us):Keep H (upd H a<|.lst us)/\RH i (O.upd G a<|.lst ys) (upd H a<|.lst us):=by
 have k:Keep H<|upd H a<|.lst us:=Keep.put (fun xs e=>by rw[h]at e;cases e) fun p u e=>by rw[h]at e;cases e
 exact⟨k,g.put k ⟨us,upd_same,r.keep k⟩⟩
noncomputable def spF(i:Inf)(P:O.Pg)(n:Nat)(f:String):Sp:=fun vs H Q E=>∃args G Qm Em,RVs i.K H args vs/\RH i G H/\O.wF P n f args G Qm Em/\Cn i H Q Qm/\∀cls d H',XK1 i H Em cls d H'->E cls d H'
def Dfo(pr:à)(w:õ)(mg:Str->Option Ã)(base:ā)(i:Inf)(P:O.Pg)(n:Nat)(f:String):Prop :=
 ∃fa fd ps,FnOk pr w i.K mg base (CX1 pr w) (2*n) fa fd ps (spF i P n f)/\mg (Str.ofString f)=some (.ref fa)/\PySem.W.keepIn i.K (.ref fa)=true/\Binds i.K fd ps []
variable {e:Expr} {es:List Expr} {pos:Pos}
theorem GP{P:O.Pg}{n k:Nat}{f:String}{ms:O.Es}{p:Pos}(hK:X.K=i.K)(D:Dfo X.prog X.w X.mg X.base i P n f)(hr:Room (2*n) X.A)(hg:Gl X<|Str.ofString f)(cu:(Str.ofString f==("__debug__" : Str))=false)
  (ha:PA X (e::es)<|tAr X i (O.wF P n) ms k) (he:Õ (e::es) X.env=(false,eval e X.env)::Õ es X.env) (hpl:(ĥ pos<|Õ es X.env).any (·.1)=false) :
  PE X (.Call (.Name (Str.ofString f) p) (e::es) [] pos) (tE X i (O.wF P n)<|.call f ms):=by
 obtain⟨fa,fd,ps,F,hm,hk,hb⟩:=D;rw[<-hK]at F hk hb;intro Á s σ H Q I h;obtain⟨env,G,Qm,Em,pr,w,c⟩:=h;refine Fq (E:=XK1 i H Em) F hr hg hm hk hb .nil (XW.passes pr.xo) ha cu he hpl Á s σ H Q I ⟨env,G,_,Em,pr,w,fun vs G1 H1 xs k1 g1 r1 hl w1=>?_⟩;exact⟨vs,G1,Qm,Em,by rw[Ĕ];exact r1,g1,w1,c.go k1,fun cls d H' h=>h.go k1⟩
noncomputable def XKS(i:Inf)(H:Hp)(Xe:O.EQ):XK:=fun cls _ H'=>∃e c G' ad,cls=.ref ad/\i.xc c ad/\Keep H H'/\RH i G' H'/\Xe e c G'
structure PreS(X:Cx)(i:Inf)(σ:St)(H:Hp)(env:O.Env)(G:O.Hs)(Xe:O.EQ):Prop where
 en:REn i.K H env σ
 hp:RH i G H
 xo:XW X<|XKS i H Xe
variable {σ:St} {H:Hp} {H1:Hp} {G:O.Hs} {Xe:O.EQ}
theorem PreS.go{σ1:St}{env env1:O.Env}{G1:O.Hs}(p:PreS X i σ H env G Xe)(k:Keep H H1)(r:RH i G1 H1)(e:REn i.K H1 env1 σ1):PreS X i σ1 H1 env1 G1 Xe :=
 ⟨e,r,fun Á σ H0 s H' a cls s' I f ⟨e,c,G',ad,q1,q2,q3,q4⟩=>p.xo Á σ H0 s H' a cls s' I f ⟨e,c,G',ad,q1,q2,k.trans q3,q4⟩⟩
theorem PreS.pre{env:O.Env}(p:PreS X i σ H env G Xe):Pre X i σ H env G (Xe env) :=
 ⟨p.en,p.hp,fun Á σ H0 s H' a cls s' I f ⟨c,G',ad,q1,q2,q3,q4⟩=>p.xo Á σ H0 s H' a cls s' I f ⟨env,c,G',ad,q1,q2,q3,q4⟩⟩
structure EOk(i:Inf)(H:Hp)(D:Ends)(N:O.NQ)(R:O.Q1)(B C:O.NQ):Prop where
 nx:∀ŝ Ś G' H',Keep H H'->RH i G' H'->REn i.K H' ŝ Ś->N ŝ G'->D.nx Ś H'
 rt:∀v G' H' x,Keep H H'->RH i G' H'->RV i.K H' v x->R v G'->D.rt x H'
 bk:∀ŝ Ś G' H',Keep H H'->RH i G' H'->REn i.K H' ŝ Ś->B ŝ G'->D.bk Ś H'
 ct:∀ŝ Ś G' H',Keep H H'->RH i G' H'->REn i.K H' ŝ Ś->C ŝ G'->D.ct Ś H'
theorem EOk.go{D:Ends}{N:O.NQ}{R:O.Q1}{B C:O.NQ}(e:EOk i H D N R B C)(k:Keep H H1):EOk i H1 D N R B C :=
 ⟨fun a b c d k'=>e.nx a b c d<|k.trans k',fun a b c d k'=>e.rt a b c d<|k.trans k',fun a b c d k'=>e.bk a b c d<|k.trans k',fun a b c d k'=>e.ct a b c d<|k.trans k'⟩
inductive tStx (X:Cx) (i:Inf) (Φ:O.Fs) (m:O.S) (D:Ends) (σ:St) (H:Hp):Prop
 |mk (env:O.Env) (G:O.Hs) (N:O.NQ) (R:O.Q1) (B C:O.NQ) (Xe:O.EQ) (p:PreS X i σ H env G Xe) (w:O.wS Φ m env G N R B C Xe) (e:EOk i H D N R B C)
noncomputable def tSt(X:Cx)(i:Inf)(Φ:O.Fs)(m:O.S):TS:=tStx X i Φ m
inductive tBlx (X:Cx) (i:Inf) (Φ:O.Fs) (m:O.Ss) (D:Ends) (σ:St) (H:Hp):Prop
 |mk (env:O.Env) (G:O.Hs) (N:O.NQ) (R:O.Q1) (B C:O.NQ) (Xe:O.EQ) (p:PreS X i σ H env G Xe) (w:O.wSs Φ m env G N R B C Xe) (e:EOk i H D N R B C)
noncomputable def tBl(X:Cx)(i:Inf)(Φ:O.Fs)(m:O.Ss):TS:=tBlx X i Φ m
variable {st:Ļ} {t':TS}
theorem _root_.L2.PS.imp{t:TS}(h:PS X st t)(f:∀D σ H,t' D σ H->t D σ H):PS X st t':=fun Á s σ H D I q=>h Á s σ H D I (f D σ H q)
theorem _root_.L2.PSs.imp{st:List Ļ}{t:TS}(h:PSs X st t)(f:∀D σ H,t' D σ H->t D σ H):PSs X st t':=fun Á s σ H D I q=>h Á s σ H D I (f D σ H q)
theorem Ib:PSs X []<|tBl X i Φ .nil:=pss_nil.imp fun D σ H ⟨env,G,N,R,B,C,Xe,p,w,c⟩=>by exact c.nx env σ G H (Keep.refl H) p.hp p.en w
theorem EB{sts:List Ļ}{m:O.S}{ms:O.Ss}(h1:PS X st<|tSt X i Φ m)(h2:PSs X sts<|tBl X i Φ ms):PSs X (st::sts) (tBl X i Φ<|.cons m ms) :=
 (A6 h1 h2).imp fun D σ H ⟨env,G,N,R,B,C,Xe,p,w,c⟩=>by exact⟨env,G,_,R,B,C,Xe,p,w,⟨fun ŝ Ś G' H' k g e w'=>⟨ŝ,G',N,R,B,C,Xe,p.go k g e,w',c.go k⟩,c.rt,c.bk,c.ct⟩⟩
variable {m:O.E}
theorem GJ(he:PE X e<|tE X i Φ m):PS X (.Return (some e) pos) (tSt X i Φ<|.ret m) :=
 (GM he).imp fun D σ H ⟨env,G,N,R,B,C,Xe,p,w,c⟩=>by exact⟨env,G,R,Xe env,p.pre,w,c.rt⟩
theorem D4:PS X (.Return none pos) (tSt X i Φ .retN) :=
 ps_retN.imp fun D σ H ⟨env,G,N,R,B,C,Xe,p,w,c⟩=>by exact c.rt _ G H _ (Keep.refl H) p.hp .non w
theorem Fc(he:PE X e<|tE X i Φ m)(hs:Ų e none pos.line X.env=pure false):PS X (.Expr e pos) (tSt X i Φ<|.expr m) :=
 (DX he hs).imp fun D σ H ⟨env,G,N,R,B,C,Xe,p,w,c⟩=>by exact⟨env,G,_,Xe env,p.pre,w,fun v G1 H1 x k1 g1 r1 w1=>c.nx env σ G1 H1 k1 g1 (p.en.keep k1) w1⟩
theorem Iv{t:Expr}{a b:List Ļ}{mt:O.Tt}{ma mb:O.Ss}(ht:PT X t<|tTt X i Φ mt)(ha:PSs X a<|tBl X i Φ ma)(hb:PSs X b<|tBl X i Φ mb):PS X (.If t a b pos) (tSt X i Φ<|.ite mt ma mb) :=
 (P2 ht ha hb).imp fun D σ H ⟨env,G,N,R,B,C,Xe,p,w,c⟩=>by
  refine⟨env,G,_,Xe env,p.pre,w,fun d G1 H1 k1 g1 q=>?_⟩;cases d with
  |true=>exact⟨env,G1,N,R,B,C,Xe,p.go k1 g1<|p.en.keep k1,by simpa using q,c.go k1⟩
  |false=>exact⟨env,G1,N,R,B,C,Xe,p.go k1 g1<|p.en.keep k1,by simpa using q,c.go k1⟩
noncomputable def gPt(i:Inf)(p:O.Pt):TG:=fun x σ H Q=>∃v env G œ,RV i.K H v x/\RH i G H/\REn i.K H env σ/\O.bind p G v env=some œ/\∀σ2,REn i.K H œ σ2->Q σ2 H
variable {tg:Expr}
theorem _root_.L2.PG.imp{t t':TG}(h:PG X tg t)(f:∀v σ H Q,t' v σ H Q->t v σ H Q):PG X tg t':=fun Á s σ H v u Q I r q=>h Á s σ H v u Q I r (f v σ H Q q)
theorem _root_.L2.PGs.imp{tg:List Expr}{t t':TGs}(h:PGs X tg t)(f:∀v σ H Q,t' v σ H Q->t v σ H Q):PGs X tg t':=fun Á s σ H v u Q I r q=>h Á s σ H v u Q I r (f v σ H Q q)
variable {x:Str} {j:Nat}
theorem Om(hN:X.N.Nodup)(hi:X.N[j]?=some x)(hx:Loc X.env.scope x)(hf:X.fn x=true\/X.env.scope.names.lookup x=some .local):PG X (.Name x pos) (gPt i<|.one j) :=
 (OZ hN hi hx hf).imp fun v σ H Q ⟨u,env,G,œ,r,g,e,b,h⟩=>by cases b;exact h _<|e.set r j
noncomputable def DE(i:Inf)(js:List Nat):TGs:=fun xs σ H Q=>∃vs env œ,RVs i.K H vs xs/\REn i.K H env σ/\O.bindL js vs env=some œ/\∀σ2,REn i.K H œ σ2->Q σ2 H
theorem D9:PGs X []<|DE i []:=pgs_nil.imp fun xs σ H Q ⟨vs,env,œ,r,e,b,h⟩=>by
 cases vs with
 |nil=>cases r;cases b;exact⟨rfl,h _ e⟩
 |cons _ _=>cases b
variable {js:List Nat}
theorem Bv(hN:X.N.Nodup)(hi:X.N[j]?=some x)(hx:Loc X.env.scope x)(hf:X.fn x=true\/X.env.scope.names.lookup x=some .local)(h2:PGs X es<|DE i js)
  (hs:(ğ (.Name x pos::es) X.env).map (·.2)=ſ (.Name x pos) X.env::(ğ es X.env).map (·.2)):PGs X (.Name x pos::es) (DE i<|j::js) :=
 (W9 (OZ hN hi hx hf) h2 hs).imp fun xs σ H Q ⟨vs,env,œ,r,e,b,h⟩=>by
  cases vs with
  |nil=>cases b
  |cons v vs =>
   cases r with
   |cons r t=>exact⟨_,_,rfl,vs,env.set j<|some v,œ,t,e.set r j,b,h⟩
theorem Ki:∀{js:List Nat}{vs:List O.Val}{env œ:O.Env},O.bindL js vs env=some œ->vs.length=js.length
 |[],[],_,_,_=>rfl
 |j::js,v::vs,env,_,h=>by rw[Ì,Ì,Ki<|show O.bindL js vs (env.set j<|some v)=_ from h]
 |[],_::_,_,_,h=>by cases h
 |_::_,[],_,_,h=>by cases h
theorem UE{k:Nat}(hK:X.K=i.K)(hc:X.calm=true)(h:PGs X es<|DE i js)(hn:(ğ es X.env).length=js.length)(Γ:(ğ es X.env).findIdx? (·.1)=none):PG X (.Tuple es k pos) (gPt i<|.many js) :=
 (Cj (n:=js.length) hc h hn Γ).imp fun v σ H Q ⟨u,env,G,œ,r,g,e,b,h⟩=>by
  cases u with
  |tup vs =>
   have b:O.bindL js vs env=some œ:=b;cases r with
   |tup hp hr=>exact⟨_,_,rfl,by rw[hK];exact Zf hp,by rw[<-hr.length];exact Ki b,vs,env,œ,hr,e,b,h⟩
  |_=>cases b
theorem E1{k k2:Nat}{p1 p2:Pos}(hK:X.K=i.K)(hc:X.calm=true)(h1:PG X (.Name x p1)<|gPt i<|.one j)(h2:PG X (.Tuple es k2 p2)<|gPt i<|.many js):PG X (.Tuple [.Name x p1,.Tuple es k2 p2] k pos) (gPt i<|.nest j js) :=
 (Cj (n:=2) hc (W9 h1 (W9 h2 pgs_nil rfl) rfl) rfl rfl).imp fun v σ H Q ⟨u,env,G,œ,r,g,e,b,h⟩=>by
  cases u with
  |tup vs =>
   cases vs with
   |nil=>cases b
   |cons x0 vs=>cases vs with
    |nil=>cases b
    |cons y vs=>cases vs with
     |cons _ _=>cases b
     |nil =>
      have b:(O.tupOf y).bind (fun ys=>O.bindL js ys<|env.set j<|some x0)=some œ:=b;cases r with
      |tup hp hr =>
       cases hr with
       |cons r0 t=>cases t with
        |cons r1 t =>cases t;exact⟨_,_,rfl,by rw[hK];exact Zf hp,rfl,_,_,rfl,x0,env,G,_,r0,g,e,rfl,fun σ2 e2=>⟨_,_,rfl,y,_,G,œ,r1,g,e2,b,fun σ3 e3=>⟨rfl,h σ3 e3⟩⟩⟩
  |_=>cases b
theorem Ly{q:O.Pt}(he:PE X e<|tE X i Φ m)(hg:PG X tg<|gPt i q)(hs:ύ [tg] e pos.line X.env=pure false)(hw:ώ [tg] e X.env=pure none)
  (h1:(ğ [tg] X.env).map (·.2)=[ſ tg X.env]):PS X (.Assign [tg] e pos) (tSt X i Φ<|.set q m) :=
 (Dm he hg hs hw h1).imp fun D σ H ⟨env,G,N,R,B,C,Xe,p,w,c⟩=>by refine⟨env,G,_,Xe env,p.pre,w,fun v G1 H1 x k1 g1 r1 w1=>?_⟩;obtain⟨œ,e2,w1⟩:=go_some w1;exact⟨v,env,G1,œ,r1,g1,p.en.keep k1,e2,fun σ2 h2=>c.nx œ σ2 G1 H1 k1 g1 h2 w1⟩
def Gz:V->V->V->Hp->(Hp->Prop)->Prop:=fun o y v H Q=>Gy o y v H Q\/Gx o y v H Q
theorem GH{G G3:O.Hs}{H:Hp}{o k v:O.Val}{y z x:V}{Q:Hp->Prop}(g:RH i G H)(ry:RV i.K H o y)(rz:RV i.K H k z)(rx:RV i.K H v x)(e:O.putV G o k v=some G3)(c:∀H3,Keep H H3->RH i G3 H3->Q H3):Gz y z x H Q:=by
 cases o with
 |ref b =>
  cases ry.ref_inv
  replace e:(match G b with|some (.lst xs)=>(O.asInt k).bind fun n=>(O.ixN xs.length n).map fun j=>O.upd G b (.lst<|xs.set j v)|some (.dct kvs)=>if O.isKey k/\kvs.length<O.lim then some (O.upd G b<|.dct<|O.putK kvs k v)else none|some (.dtp kvs)=>if O.isKeyT k/\kvs.length<O.lim then some (O.upd G b<|.dtp<|O.putK kvs k v)else none|_=>none)=some G3:=e
  cases z4:G b with
  |none=>rw[z4]at e;cases e
  |some o =>
   rw[z4]at e;cases o with
   |lst xs =>obtain⟨n,hn,e⟩:=æ.mp e;obtain⟨jj,hj,rfl⟩:=Ú.mp e;cases ZH hn;cases rz.int_inv;obtain⟨vs,h2,r2⟩:=g b _ z4;rw[KP,r2.length]at hj;obtain⟨k3,g3⟩:=Mz (xs:=xs) g h2 (xs.set jj v) (vs.set jj x)<|r2.set rx jj;exact .inl ⟨b,vs,n,jj,rfl,rfl,h2,hj,c _ k3 g3⟩
   |dct kvs =>obtain⟨hk,e⟩:=ZC (show(if O.isKey k/\kvs.length<O.lim then some (O.upd G b<|.dct<|O.putK kvs k v)else none)=some G3 from e);cases e;obtain⟨ps,h2,r2⟩:=g b _ z4;obtain⟨d,kr,rfl⟩:=key_of hk.1 rz;obtain⟨k3,g3⟩:=EZ (kvs:=kvs) g h2<|r2.put kr rx;exact .inr ⟨b,_,rfl,DPut.k h2 (by rw[<-RKs.length r2];exact ã hk.2 ZL),c _ k3 g3⟩
   |dtp kvs =>obtain⟨hk,e⟩:=ZC (show(if O.isKeyT k/\kvs.length<O.lim then some (O.upd G b<|.dtp<|O.putK kvs k v)else none)=some G3 from e);cases e;obtain⟨ps,h2,r2⟩:=g b _ z4;obtain⟨a1,a2,d,rfl,rfl,hd⟩:=KR hk.1 rz;obtain⟨k3,g3⟩:=E2 g h2<|r2.put (i:=a1) (j:=a2) rx;exact .inr ⟨b,_,rfl,DPut.t h2 hd (by rw[<-RTs.length r2];exact ã hk.2 ZL),c _ k3 g3⟩
   |_=>cases e
 |_=>cases e
theorem UT{a j:Expr}{ma mj:O.E}{Ϙ:Pos}(hK:X.K=i.K)(he:PE X e<|tE X i Φ m)(ha:PE X a<|tE X i Φ ma)(hj:PE X j<|tE X i Φ mj)(hgl:PG X (.Subscript a j Ϙ)<|Pv (tE X i Φ ma) (tE X i Φ mj) Gz)(hs:ύ [.Subscript a j Ϙ] e pos.line X.env=pure false)(hw:ώ [.Subscript a j Ϙ] e X.env=pure none)
  (h1:(ğ [.Subscript a j Ϙ] X.env).map (·.2)=[ſ (.Subscript a j Ϙ) X.env]):PS X (.Assign [.Subscript a j Ϙ] e pos) (tSt X i Φ<|.setIdx ma mj m) :=
 (Dm he hgl hs hw h1).imp fun D σ H ⟨env,G,N,R,B,C,Xe,p,w,c⟩=>by refine⟨env,G,_,Xe env,p.pre,w,fun v G1 H1 x k1 g1 r1 w1=>?_⟩;refine two (p.go k1 g1<|p.en.keep k1).pre w1 fun o k G2 H2 y z k2 p2 ry rz q=>?_;obtain⟨G3,e3,q⟩:=go_some q;exact GH p2.hp ry rz (r1.keep k2) e3 fun H3 k3 g3=>c.nx env σ _ _ ((k1.trans k2).trans k3) g3 (p2.en.keep k3) q
structure ItOk(i:Inf)(H0:Hp)(J:It)(st:O.Hs->Prop)(xs:List O.Val):Prop where
 go:∀n G H v,Keep H0 H->RH i G H->st G->xs[n]?=some v->J.go n H/\∀x H',J.yld n H x H'->Keep H H'/\RH i G H'/\RV i.K H' v x
 stop:∀n G H,Keep H0 H->RH i G H->st G->xs.length<=n->J.stop n H
noncomputable def tIt(X:Cx)(i:Inf)(Φ:O.Fs)(m:O.It):TI:=fun σ H R=>∃env G QI Em,Pre X i σ H env G Em/\O.wI Φ m env G QI Em/\∀st xs G' H' J,Keep H H'->RH i G' H'->ItOk i H' J st xs->QI st xs G'->R J H'
variable {tg:Expr} {e:Expr}
theorem _root_.L2.PI.imp{t t':TI}(h:PI X tg e t)(f:∀σ H Q,t' σ H Q->t σ H Q):PI X tg e t':=fun Á s σ H Q I q=>h Á s σ H Q I (f σ H Q q)
noncomputable def Rx(K:Frag)(tl:TE):TI:=fun σ H R=>tl σ H fun x H1=>∃a,x=.ref a/\(((∃xs,SqL K H1 a xs)/\R (Itl K a) H1)\/((∃xs,SqT K H1 a xs)/\R (Itt K a) H1))
theorem Lr{l:Expr}{tl:TE}(hl:PE X l tl):PI X tg l<|Rx X.K tl:=by
 intro Á s σ H R I h;refine thn (hl Á s σ H _ I h) fun v s1 ⟨x,H1,I1,r1,q1⟩=>?_;obtain⟨a,e,q1⟩:=q1;subst e;cases r1;rcases q1 with⟨⟨xs,hq⟩,q⟩|⟨⟨xs,hq⟩,q⟩
 .obtain⟨î,rv,p,hz⟩:=I1.list hq;refine Ź p.isList ?_;refine⟨s1.heap.objs.size,[s1.heap.objs.size],_,_,H1,rfl,I1.kept (t':=s1.toks) fun b o e=>Ä _ e,AC a _,⟨_,Ï _ rfl,rfl,rfl⟩,fun b hb=>?_,q⟩;have e:b=s1.heap.objs.size:=by simpa using hb
  subst e;exact I1.fpOk (Î _)<|I1.hok.fresh<|Î _
 .obtain⟨î,rv,p,hz⟩:=I1.tuple hq;refine Θ (show s1.heap.IsTuple a î.toArray from p) ?_;refine⟨s1.heap.objs.size,[s1.heap.objs.size],_,_,H1,rfl,I1.kept (t':=s1.toks) fun b o e=>Ä _ e,NR a _,⟨_,Ï _ rfl,rfl,rfl⟩,fun b hb=>?_,q⟩;have e:b=s1.heap.objs.size:=by simpa using hb
  subst e;exact I1.fpOk (Î _)<|I1.hok.fresh<|Î _
variable {H0:Hp} {a:È} {xs:List O.Val}
theorem it_lst:ItOk i H0 (Itl i.K a) (fun g=>O.lsOf (g a)=some xs) xs where
 go:=fun n G H v _ g e hv=>by obtain⟨vs,h1,h2⟩:=Zt g e;obtain⟨x,h3,h4⟩:=h2.get hv;refine⟨⟨vs,x,h1,h3⟩,fun y H' ⟨e1,e2⟩=>?_⟩;subst e1;have:=e2 vs h1;rw[h3]at this;cases this;exact⟨Keep.refl _,g,h4⟩
 stop:=fun n G H _ g e hn=>by obtain⟨vs,h1,h2⟩:=Zt g e;exact⟨vs,h1,by rw[<-h2.length];exact hn⟩
theorem it_tup{vs:List V}(hp:H0 a=some (.tup vs)\/KT i.K a vs)(hr:RVs i.K H0 xs vs):ItOk i H0 (Itt i.K a) (fun _=>True) xs where
 go:=fun n G H v k g e hv=>by have hp':H a=some (.tup vs)\/KT i.K a vs:=hp.imp (k.t _ _) id;obtain⟨x,h3,h4⟩:=(hr.keep k).get hv;refine⟨⟨vs,x,Zf hp',h3⟩,fun y H' ⟨e1,e2⟩=>?_⟩;subst e1;have:=e2 vs<|Zf hp';rw[h3]at this;cases this;exact⟨Keep.refl _,g,h4⟩
 stop:=fun n G H k g e hn=>by have hp':H a=some (.tup vs)\/KT i.K a vs:=hp.imp (k.t _ _) id;exact⟨vs,Zf hp',by rw[<-hr.length];exact hn⟩
theorem it_scr{ns:List Int}(h:(∃o,H0 a=some (.frz o<|.lst<|ns.map V.int))\/KL i.K a (ns.map V.int)):ItOk i H0 (Itl i.K a) (fun _=>True) (ns.map .int) where
 go:=fun n G H v k g e hv=>by have h':SqL i.K H a<|ns.map V.int:=Z5<|h.imp (fun⟨o,e⟩=>⟨o,k.f _ _ _ e⟩) id;obtain⟨x,h3,h4⟩:=(RVs.ints (K:=i.K) (H:=H) ns).get hv;refine⟨⟨_,x,h',h3⟩,fun y H' ⟨e1,e2⟩=>?_⟩;subst e1;have:=e2 _ h';rw[h3]at this;cases this;exact⟨Keep.refl _,g,h4⟩
 stop:=fun n G H k g e hn=>⟨_,Z5<|h.imp (fun⟨o,e⟩=>⟨o,k.f _ _ _ e⟩) id,by simpa using hn⟩
theorem Bc{lo hi:Int}{n:Nat}(hn:n=(hi - lo).toNat):ItOk i H0 (Itr lo n) (fun _=>True) (O.rangeV lo hi) where
 go:=fun k G H v _ g _ hv=>by
  unfold O.rangeV at hv;rw[Ù]at hv;have hk:k<(hi - lo).toNat:=by
   by_cases h:k<(hi - lo).toNat
   .exact h
   .rw[Ŕ<|by simpa using h]at hv;cases hv
  rw[List.getElem?_range hk]at hv;cases hv;refine⟨by rw[hn];exact hk,fun x H' ⟨e1,e2⟩=>?_⟩;subst e1 e2;exact⟨Keep.refl _,g,.int _⟩
 stop:=fun k G H _ g _ hk=>by unfold O.rangeV at hk;show n<=k;simp at hk;omega
variable {m:O.E}
theorem Hr(hK:X.K=i.K)(he:PE X e<|tE X i Φ m):PI X tg e (tIt X i Φ<|.seq m) :=
 (Lr he).imp fun σ H R ⟨env,G,QI,Em,p,w,c⟩=>by
  refine one p w fun v G1 H1 x k1 p1 r q=>?_;obtain⟨⟨st,xs⟩,e1,q2⟩:=go_some q;clear q;rw[hK];cases v with
  |tup ys =>
   cases e1;cases r with
   |tup hp hr=>exact⟨_,rfl,.inr ⟨⟨_,Zf hp⟩,c _ _ G1 H1 _ k1 p1.hp (it_tup hp hr) q2⟩⟩
  |scr ns =>
   cases e1;cases r with
   |scr h=>exact⟨_,rfl,.inl ⟨⟨_,Z5 h⟩,c _ _ G1 H1 _ k1 p1.hp (it_scr h) q2⟩⟩
  |ref a =>
   cases r.ref_inv;simp only[O.itV]at e1;cases z:O.lsOf (G1 a)with
   |none=>rw[z]at e1;cases e1
   |some ys =>rw[z]at e1;cases e1;obtain⟨vs,h1,h2⟩:=Zt p1.hp z;exact⟨a,rfl,.inl ⟨⟨vs,h1⟩,c _ _ G1 H1 _ k1 p1.hp it_lst q2⟩⟩
  |_=>cases e1
variable {p:Pos} {pos:Pos}
theorem CK{a:Expr}(hg:Gl X "range")(hm:X.mg "range" = none)(ha:PE X a<|tE X i Φ m)(hs:Õ [a] X.env=[(false,eval a X.env)]):PI X tg (.Call (.Name "range" p) [a] [] pos) (tIt X i Φ<|.range m) :=
 (UU hg hm (ZW ha pa_nil<|by rw[hs];rfl) hs).imp fun σ H R ⟨env,G,QI,Em,p,w,c⟩=>by refine one p w fun v G1 H1 x k1 p1 r q=>?_;obtain⟨n,e1,q2⟩:=go_some q;clear q;cases ZH e1;cases r.int_inv;exact⟨n,rfl,q2.1.1,q2.1.2,c _ _ G1 H1 _ k1 p1.hp (Bc<|by rw[Int.sub_zero]) q2.2⟩
theorem UP{a b:Expr}{ma mb:O.E}(hg:Gl X "range")(hm:X.mg "range" = none)(ha:PE X a<|tE X i Φ ma)(hb:PE X b<|tE X i Φ mb)(hs:Õ [a,b] X.env=[(false,eval a X.env),(false,eval b X.env)])(hs1:Õ [b] X.env=[(false,eval b X.env)]) :
  PI X tg (.Call (.Name "range" p) [a,b] [] pos) (tIt X i Φ<|.range2 ma mb) :=
 (AL hg hm (ZW ha (ZW hb pa_nil<|by rw[hs1];rfl)<|by rw[hs,hs1]) hs hs1).imp fun σ H R ⟨env,G,QI,Em,p,w,c⟩=>by refine two p w fun v u G1 H1 x y k1 p1 rx ry q=>?_;obtain⟨n,e1,q1⟩:=go_some q;obtain⟨m,e2,q2⟩:=go_some q1;clear q q1;cases ZH e1;cases ZH e2;cases rx.int_inv;cases ry.int_inv;exact⟨n,m,rfl,q2.1,c _ _ G1 H1 _ k1 p1.hp (Bc rfl) q2.2⟩
theorem HL{ū:Expr}{body:List Ļ}{q:O.Pt}{mi:O.It}{mb:O.Ss}(hp:ϲ (Û X.prog X.w) X.A X.env X.xe)(hc:X.calm=true)(hi:PI X tg ū<|tIt X i Φ mi)(hg:PG X tg<|gPt i q)(hb:PSs X body<|tBl X i Φ mb)
  (hs:∀x,Ě ū X.env x=pure x):PS X (.For tg ū body [] pos) (tSt X i Φ<|.for q mi mb) :=
 (Bw hp hc hi hg hb hs).imp fun D σ H ⟨env,G,N,R,B,C,Xe,p,w,c⟩=>by
  refine⟨env,G,_,Xe env,p.pre,w,fun st xs G1 H1 J k1 g1 it w1=>?_⟩;refine⟨fun n m Ś H'=>n+m=xs.length/\∃ŝ G',Keep H1 H'/\RH i G' H'/\REn i.K H' ŝ Ś/\O.wFor st (fun v e g K M=>O.go (O.bind q g v e) fun e2=>O.wSs Φ mb e2 g K R M K Xe) N (xs.drop n) ŝ G',⟨xs.length,by omega,env,G1,Keep.refl _,g1,p.en.keep k1,by simpa using w1⟩,?_⟩;rintro n m Ś H' ⟨hnm,ŝ,G',k2,g2,e2,w2⟩;by_cases hn:n<xs.length
  .right;have hd:xs.drop n=xs[n]::xs.drop (n+1):=Β hn;rw[hd]at w2;obtain⟨s2,w2⟩:=w2;have hv:xs[n]?=some xs[n]:=Ë hn;obtain⟨a1,a2⟩:=it.go n G' H' xs[n] k2 g2 s2 hv;refine⟨a1,fun σ3 H3=>∃env3 G3,Keep H1 H3/\RH i G3 H3/\REn i.K H3 env3 σ3/\O.wFor st (fun v e g K M=>O.go (O.bind q g v e) fun e2=>O.wSs Φ mb e2 g K R M K Xe) N (xs.drop<|n+1) env3 G3,fun σ3 H3 h=>⟨m - 1,by omega,by omega,h⟩,fun x H3 hy=>?_⟩;obtain⟨k3,g3,r3⟩:=a2 x H3 hy;obtain⟨cD,e4,w4⟩:=go_some w2;refine⟨xs[n],ŝ,G',cD,r3,g3,e2.keep k3,e4,fun σ4 h4=>?_⟩;have kk:Keep H H3:=(k1.trans k2).trans k3;refine⟨cD,G',_,R,N,_,Xe,p.go kk g3 h4,w4,⟨fun db σ5 G5 H5 k5 g5 e5 w5=>?_,(c.go kk).rt,(c.go kk).nx,fun db σ5 G5 H5 k5 g5 e5 w5=>?_⟩⟩
   .exact⟨db,G5,(k2.trans k3).trans k5,g5,e5,w5⟩
   .exact⟨db,G5,(k2.trans k3).trans k5,g5,e5,w5⟩
  .left;have hd:xs.drop n=[]:=ģ (by omega);rw[hd]at w2;exact⟨it.stop n G' H' k2 g2 w2.1 (by omega),c.nx ŝ Ś G' H' (k1.trans k2) g2 e2 w2.2⟩
theorem HV:BiOk i .len fun xs H Q=>((∃p ys,xs=[.ref p]/\(SqL i.K H p ys\/SqT i.K H p ys)/\Q (.int ys.length) H)\/∃z,xs=[.str z]/\z.length<=Ø/\Q (.int z.length) H)\/∃a kvs,xs=[V.ref a]/\H a=some (.dK kvs)/\Q (.int kvs.length) H:=by
 intro vs G H xs Q Qm g r w c;obtain⟨v,rfl,w⟩:=YI w;obtain⟨x,rfl,rx⟩:=r.inv1;cases v with
 |ref a =>
  cases rx.ref_inv
  replace w:(match G a with|some (.lst xs)=>.val (.int xs.length)|some (.dct kvs)=>.val (.int kvs.length)|_=>.no:O.Rs).wp G Qm:=w
  cases z:G a with
  |none=>rw[z]at w;exact(Zj w).elim
  |some o =>
   rw[z]at w;cases o with
   |lst ys =>obtain⟨us,h1,h2⟩:=g a _ z;refine .inl<|.inl ⟨a,us,rfl,.inl<|SqL.of h1,?_⟩;rw[<-h2.length];exact c _ G H _ (Keep.refl H) g (.int _)<|Zg w
   |dct kvs =>obtain⟨ps,h1,h2⟩:=g a _ z;refine .inr ⟨a,ps,rfl,h1,?_⟩;rw[<-h2.length];exact c _ G H _ (Keep.refl H) g (.int _)<|Zg w
   |_=>exact(Zj w).elim
 |tup ys =>
  cases rx with
  |tup hp hr =>refine .inl<|.inl ⟨_,_,rfl,.inr<|Zf hp,?_⟩;rw[<-hr.length];exact c _ G H _ (Keep.refl H) g (.int _)<|Zg w
 |scr ns =>
  cases rx with
  |scr h =>refine .inl<|.inl ⟨_,_,rfl,.inl<|Z5 h,?_⟩;rw[Â];exact c _ G H _ (Keep.refl H) g (.int _)<|Zg w
 |str s =>cases rx.str_inv;obtain⟨hl,w⟩:=Xj w;refine .inl (.inr ⟨_,rfl,by rw[Zs];exact Ó hl ZL,?_⟩);rw[Zs];exact c _ G H _ (Keep.refl H) g (.int _)<|Zg w
 |_=>exact(Zj w).elim
theorem Fz:BiOk i .list fun xs H Q=>∃p ys,xs=[.ref p]/\(SqL i.K H p ys\/SqT i.K H p ys)/\∀l,H l=none->Q (.ref l) (upd H l<|.lst ys):=by
 intro vs G H xs Q Qm g r w c;obtain⟨v,rfl,w⟩:=YI w;obtain⟨x,rfl,rx⟩:=r.inv1;cases v with
 |ref a =>cases rx.ref_inv;obtain⟨ys,e,w⟩:=MK (f:=fun xs=>.new<|.lst xs) w;obtain⟨us,h1,h2⟩:=g a _ e;exact⟨a,us,rfl,.inl<|SqL.of h1,ZU g (KS w) c fun p hp=>⟨_,upd_same,h2.keep<|Keep.new hp⟩⟩
 |tup ys =>
  cases rx with
  |tup hp hr=>exact⟨_,_,rfl,.inr<|Zf hp,ZU g (KS w) c fun p hp=>⟨_,upd_same,hr.keep<|Keep.new hp⟩⟩
 |_=>exact(Zj w).elim
variable {H:Hp}
theorem UY{K:Frag}:∀{xs:List O.Val}{bs:List Bool}{vs:List V},O.blsOf xs=some bs->RVs K H xs vs->vs=bs.map V.bl:=by
 intro xs;induction xs with
 |nil=>intro bs vs e r;cases e;cases r;rfl
 |cons v xs ih =>
  intro bs vs e r;cases v<;>first|(cases e;done)|skip
  case bl b =>
  simp only[O.blsOf]at e;cases z:O.blsOf xs with
  |none=>rw[z]at e;cases e
  |some ns=>rw[z]at e;cases e;cases r with|cons a t=>cases a.bl_inv;rw[ih z t];rfl
theorem HE{o:Option O.Val}{h:O.Hs}{Q:O.Q1}(w:(O.Rs.ofO o).wp h Q):∃v,o=some v/\Q v h:=by
 cases o with
 |none=>exact(Zj w).elim
 |some v=>exact⟨v,rfl,Zg w⟩
theorem ID:BiOk i .all fun xs H Q=>∃p,∃bs:List Bool,xs=[.ref p]/\SqL i.K H p (bs.map V.bl)/\Q (.bl<|bs.all id) H:=by
 intro vs G H xs Q Qm g r w c;obtain⟨v,rfl,w⟩:=YI w;obtain⟨x,rfl,rx⟩:=r.inv1;cases v with
 |ref a =>cases rx.ref_inv;obtain⟨v,e,w⟩:=HE w;obtain⟨ys,z,e⟩:=æ.mp e;obtain⟨bs,z2,rfl⟩:=Ú.mp e;obtain⟨us,h1,h2⟩:=Zt g z;have:=UY z2 h2;subst this;exact⟨a,bs,rfl,h1,c _ G H _ (Keep.refl H) g (.bl _) w⟩
 |_=>exact(Zj w).elim
set_option exponentiation.threshold 2000 in
theorem B5{k:Int}(h:k.natAbs<10 ^ 200):k.natAbs.log2<1920:=by
 have e:(10:Nat) ^ 200<2 ^ 1920:=by decide
 by_cases h0:k.natAbs=0
 .rw[h0];decide
 .exact(Nat.log2_lt h0).mpr<|š h e
theorem Hk:BiOk i .str fun xs H Q=>(∃i,xs=[.int i]/\i.natAbs.log2<1920/\Q (.str<|toString i) H)\/∃z,xs=[.str z]/\Q (.str z) H:=by
 intro vs G H xs Q Qm g r w c;obtain⟨v,rfl,w⟩:=YI w;obtain⟨x,rfl,rx⟩:=r.inv1;cases v with
 |int a =>cases rx.int_inv;obtain⟨hl,w⟩:=Xj w;exact .inl ⟨a,rfl,B5 hl,c _ G H _ (Keep.refl H) g (.str _)<|Zg w⟩
 |str s=>cases rx.str_inv;exact .inr ⟨_,rfl,c _ G H _ (Keep.refl H) g (.str _)<|Zg w⟩
 |_=>exact(Zj w).elim
theorem Dr(ds:List O.D)(d:O.D):(toDs ds).any (fun e=>Ī e<|toD d)=ds.any fun e=>O.D.eqv e d:=by
 induction ds with
 |nil=>rfl
 |cons e es ih=>simp only[toDs,Ġ,ih,KZ]
variable {G:O.Hs} {y:V} {ys:List O.Val}
theorem Uw(g:RH i G H){v u:O.Val}{x:V}{c:Bool}(rx:RV i.K H v x)(e:O.inL G v ys=some c)(hy:∀ds,ys.mapM (O.dat G<|O.deep - 1)=some ds->IsD i.K H y (.tuple<|toDs ds)\/IsD i.K H y (.list<|toDs ds)) :
  ∃ds d,(IsD i.K H y (.tuple ds)\/IsD i.K H y (.list ds))/\IsD i.K H x d/\Œ ds=true/\d.canLay0=true/\d.depth<=64/\ds.any (fun e=>Ī e d)=c:=by
 unfold O.inL at e;cases z:O.dat G O.deep v with
 |none=>rw[z]at e;cases e
 |some d =>
  rw[z]at e;simp only[ð]at e;cases z2:ys.mapM (O.dat G<|O.deep - 1)with
  |none=>rw[z2]at e;cases e
  |some ds =>rw[z2]at e;cases e;exact⟨_,_,hy ds z2,XH g _ _ _ _ z rx,toDs_lay ds,Mg d,Ó (Kn _ _ _ z) (by decide),Dr ds d⟩
theorem Uc(g:RH i G H){u:O.Val}(ry:RV i.K H u y)(hu:u=.tup ys\/∃a,u=.ref a/\O.lsOf (G a)=some ys):∀ds,ys.mapM (O.dat G<|O.deep - 1)=some ds->IsD i.K H y (.tuple<|toDs ds)\/IsD i.K H y (.list<|toDs ds):=by
 intro ds hd;rcases hu with rfl|⟨a,rfl,hl⟩
 .left;have:=XH g O.deep (.tup ys) (.tup ds) y (by show Option.map _ (List.mapM (O.dat G<|O.deep - 1) ys)=_;rw[hd];rfl) ry;simpa[toD]using this
 .right;have:=XH g O.deep (.ref a) (.lst ds) y (by show(O.lsOf<|G a).bind _=_;rw[hl];show Option.map _ (List.mapM (O.dat G<|O.deep - 1) ys)=_;rw[hd];rfl) ry;simpa[toD]using this
theorem IZ(s t:String)(c:Char)(h:O.oneC s=some c):(!(Builtin.Str.occurrences (Str.ofString t) (Str.ofString s) 0 (Str.ofString t).length 1).isEmpty)=decide (c∈t.toList):=by
 have e:Str.ofString s=⟨#[c.toNat]⟩:=by
  unfold O.oneC at h;split at h
  .rename_i d hd;cases h;rw[Str.ofString_eq_toList,hd];rfl
  .cases h
 rw[e,StrLaws.found_one,Kj];have inj:∀{a b:Char},a.toNat=b.toNat->a=b:=fun{a b} e=>Char.ext<|bh e;by_cases hc:c∈t.toList
 .rw[decide_eq_true hc,decide_eq_true_eq];exact ė hc
 .rw[decide_eq_false hc,decide_eq_false_iff_not];intro m;obtain⟨d,hd,he⟩:=Ò.mp m;exact hc<|inj he▸hd
noncomputable def P3(K:Frag):R2:=fun x y H Q=>FF false x y H Q\/Fm K false x y H Q\/∃i j,x=.str i/\y=.str j/\Q (.bl (!(Builtin.Str.occurrences j i 0 j.length 1).isEmpty)) H
noncomputable def LT(K:Frag):R2:=fun x y H Q=>FF true x y H Q\/Fm K true x y H Q\/∃i j,x=.str i/\y=.str j/\Q (.bl (!(!(Builtin.Str.occurrences j i 0 j.length 1).isEmpty))) H
theorem RF(hu:X.A.units+65<Ğ):OpR X (è .In)<|P3 X.K:=(GT<|by omega).or ((Lb hu).or AO)
theorem Q6(hu:X.A.units+65<Ğ):OpR X (è .NotIn)<|LT X.K:=(Lf<|by omega).or ((U7 hu).or Mi)
theorem Gv{v u:O.Val}{G:O.Hs}{H:Hp}{x y:V}{b:Bool}(g:RH i G H)(rx:RV i.K H v x)(ry:RV i.K H u y)(e:O.inV G v u=some b) :
  (∃ds d,(IsD i.K H y (.tuple ds)\/IsD i.K H y (.list ds))/\IsD i.K H x d/\Œ ds=true/\d.canLay0=true/\d.depth<=64/\ds.any (fun e=>Ī e d)=b)\/
  (∃j k,x=.str j/\y=.str k/\(!(Builtin.Str.occurrences k j 0 k.length 1).isEmpty)=b)\/∃a o,y=.ref a/\DGet H a x o/\o.isSome=b:=by
 cases u with
 |tup ys=>exact .inl<|Uw (u:=.tup ys) g rx e<|Uc g ry<|.inl rfl
 |ref a =>
  replace e:(match G a with|some (.lst xs)=>O.inL G v xs|some (.dct kvs)=>if O.isKey v then some (O.hasK kvs v)else none|some (.frz kvs)=>if O.isKey v then some (O.hasK kvs v)else none|some (.dtp kvs)=>if O.isKeyT v then some (O.hasK kvs v)else none|_=>none)=some b:=e
  cases z:G a with
  |none=>rw[z]at e;cases e
  |some o =>
   rw[z]at e;cases o with
   |lst ys=>exact .inl (Uw (u:=.ref a) g rx e<|Uc g ry<|.inr ⟨a,rfl,by rw[z];rfl⟩)
   |dct kvs =>obtain⟨hk,e⟩:=ZC (show(if O.isKey v then some (O.hasK kvs v)else none)=some b from e);cases e;obtain⟨ps,h1,h2⟩:=g a _ z;obtain⟨d,kr,rfl⟩:=key_of hk rx;exact .inr (.inr ⟨a,_,ry.ref_inv,DGet.k h1,by rw[h2.has kr,YQ]⟩)
   |frz kvs =>obtain⟨hk,e⟩:=ZC (show(if O.isKey v then some (O.hasK kvs v)else none)=some b from e);cases e;obtain⟨ob,ps,h1,h2⟩:=g a _ z;obtain⟨d,kr,rfl⟩:=key_of hk rx;exact .inr (.inr ⟨a,_,ry.ref_inv,.inl ⟨ps,d,.inr ⟨ob,h1⟩,rfl,rfl⟩,by rw[h2.has kr,YQ]⟩)
   |dtp kvs =>obtain⟨hk,e⟩:=ZC (show(if O.isKeyT v then some (O.hasK kvs v)else none)=some b from e);cases e;obtain⟨ps,h1,h2⟩:=g a _ z;obtain⟨k1,k2,d,rfl,rfl,hd⟩:=KR hk rx;exact .inr (.inr ⟨a,_,ry.ref_inv,DGet.t h1 hd,by rw[h2.has,YQ]⟩)
   |_=>cases e
 |str t =>
  cases v with
  |str s =>obtain⟨c,z,rfl⟩:=Ú.mp e;exact .inr<|.inl ⟨_,_,rx.str_inv,ry.str_inv,IZ s t c z⟩
  |_=>cases e
 |_=>cases e
theorem Ee{o:Option Bool}{b:Bool}(e:o.map (!·)=some b):o=some (!b):=by obtain⟨c,z,rfl⟩:=Ú.mp e;rw[z,ϵ]
theorem RQ:ZT i .isin<|P3 i.K:=by
 intro v u G H x y c Q g rx ry e q;rcases Gv g rx ry e with⟨ds,d,h1,h2,h3,h4,h5,h6⟩|⟨j,k,h1,h2,h3⟩|⟨a,o,h1,h2,h3⟩
 .exact .inr (.inl ⟨ds,d,h1,h2,h3,h4,h5,by show Q (.bl<|List.any _ _) H;rw[h6];exact q⟩)
 .exact .inr (.inr ⟨j,k,h1,h2,by rw[h3];exact q⟩)
 .exact .inl ⟨a,o,h1,h2,by rw[h3,Bool.false_xor];exact q⟩
theorem RD:ZT i .notin<|LT i.K:=by
 intro v u G H x y c Q g rx ry e q;rcases Gv g rx ry (Ee e)with⟨ds,d,h1,h2,h3,h4,h5,h6⟩|⟨j,k,h1,h2,h3⟩|⟨a,o,h1,h2,h3⟩
 .exact .inr (.inl ⟨ds,d,h1,h2,h3,h4,h5,by show Q (.bl (!List.any _ _)) H;rw[h6,ϵ];exact q⟩)
 .exact .inr (.inr ⟨j,k,h1,h2,by rw[h3,ϵ];exact q⟩)
 .exact .inl ⟨a,o,h1,h2,by rw[h3,Bool.true_xor,ϵ];exact q⟩
variable {a:Expr} {b:Expr} {d:Expr} {ma:O.E} {mb:O.E} {op:bU} {cW:bU} {cop:O.Cop} {cop':O.Cop} {r:R2} {r':R2} {pos:Pos}
theorem Fx{md:O.E}(ho:OpR X (è op) r)(hr:ZT i cop r)(ak:OpR X (è cW) r')(hr':ZT i cop' r')(ha:PE X a<|tE X i Φ ma)(hb:PE X b<|tE X i Φ mb)(hd:PE X d<|tE X i Φ md)(hm:aT [op,cW] [b,d]=false) :
  PE X (.Compare a [op,cW] [b,d] pos) (tE X i Φ<|.chain cop cop' ma mb md) :=
 (CU ho ak ha hb hd hm).imp fun σ H Q ⟨env,G,Qm,Em,p,w,k⟩=>by
  exact two p w fun v u G2 H2 x y k2 p2 rx ry q=>by
   obtain⟨c,e,q⟩:=go_some q;refine hr v u G2 H2 x y c _ p2.hp rx ry e ⟨c,rfl,?_⟩;cases c with
   |true =>
    rw[if_pos rfl]at q ⊢;exact one p2 q fun t G3 H3 z k3 p3 rz q=>by obtain⟨d2,e2,q⟩:=go_some q;exact hr' u t G3 H3 y z d2 Q p3.hp (ry.keep k3) rz e2<|k (.bl d2) G3 H3 (.bl d2) (k2.trans k3) p3.hp (.bl d2) q
   |false =>rw[if_neg ý]at q ⊢;exact k _ G2 H2 _ k2 p2.hp (.bl _) q
theorem Ch{md:O.E}(ho:OpR X (è op) r)(hr:ZT i cop r)(ak:OpR X (è cW) r')(hr':ZT i cop' r')(ha:PE X a<|tE X i Φ ma)(hb:PE X b<|tE X i Φ mb)(hd:PE X d<|tE X i Φ md)(hm:aT [op,cW] [b,d]=false) :
  PT X (.Compare a [op,cW] [b,d] pos) (tTt X i Φ<|.val<|.chain cop cop' ma mb md) :=
 (BC ho ak ha hb hd hm).imp fun σ H Q ⟨env,G,Qm,Em,p,w,k⟩=>by
  exact two p w fun v u G2 H2 x y k2 p2 rx ry q=>by
   obtain⟨c,e,q⟩:=go_some q;refine hr v u G2 H2 x y c _ p2.hp rx ry e ⟨c,rfl,?_⟩;cases c with
   |true =>
    rw[if_pos rfl]at q ⊢;exact one p2 q fun t G3 H3 z k3 p3 rz q=>by obtain⟨d2,e2,q⟩:=go_some q;obtain⟨d3,e3,q⟩:=go_some q;cases e3;exact hr' u t G3 H3 y z d2 _ p3.hp (ry.keep k3) rz e2 ⟨d2,rfl,k d2 G3 H3 (k2.trans k3) p3.hp q⟩
   |false =>rw[if_neg ý]at q ⊢;obtain⟨d3,e3,q⟩:=go_some q;cases e3;exact⟨false,rfl,k _ G2 H2 k2 p2.hp q⟩
theorem C5{st:Ļ}:PS X st<|tSt X i Φ .never:=fun Á s σ H D I ⟨env,G,N,R,B,C,Xe,p,w,c⟩=>by exact w.elim
variable {i:Inf}{G:O.Hs}{H:Hp}
theorem XA{n:Nat}(ih:∀(v u:O.Val) (x y:V),O.sam G n v u=true->RV i.K H v x->RV i.K H u y->SamV i.K H n x y):∀{vs us:List O.Val}{xs ys:List V},O.samL (O.sam G n) vs us=true->RVs i.K H vs xs->RVs i.K H us ys->SamVs i.K H n xs ys
 |[],[],_,_,_,.nil,.nil=>.nil
 |v::vs,u::us,_,_,e,.cons r rs,.cons q qs=>by rw[O.samL,bAq]at e;exact .cons (ih _ _ _ _ e.1 r q)<|XA ih e.2 rs qs
 |[],_::_,_,_,e,_,_=>by cases e
 |_::_,[],_,_,e,_,_=>by cases e
theorem D3(g:RH i G H):∀(n:Nat) (v u:O.Val) (x y:V),O.sam G n v u=true->RV i.K H v x->RV i.K H u y->SamV i.K H n x y:=by
 intro n;induction n with
 |zero =>
  intro v u x y e r q;cases v with
  |non=>cases u with
   |non=>cases r;cases q;exact .non
   |_=>cases e
  |bl b=>cases u with
   |bl c=>cases r;cases q;have:=eq_of_beq e;subst this;exact .bl _
   |_=>cases e
  |int b=>cases u with
   |int c=>cases r;cases q;have:=eq_of_beq e;subst this;exact .int _
   |_=>cases e
  |str b=>cases u with
   |str c=>cases r;cases q;have:=eq_of_beq e;subst this;exact .str _
   |_=>cases e
  |ref b=>cases u with
   |ref c=>cases r;cases q;have:=eq_of_beq e;subst this;exact .ref _
   |_=>cases e
  |_=>cases e
 |succ n ih =>
  intro v u x y e r q;cases v with
  |non=>cases u with
   |non=>cases r;cases q;exact .non
   |_=>cases e
  |bl b=>cases u with
   |bl c=>cases r;cases q;have:=eq_of_beq e;subst this;exact .bl _
   |_=>cases e
  |int b=>cases u with
   |int c=>cases r;cases q;have:=eq_of_beq e;subst this;exact .int _
   |_=>cases e
  |str b=>cases u with
   |str c=>cases r;cases q;have:=eq_of_beq e;subst this;exact .str _
   |_=>cases e
  |tup xs=>cases u with
   |tup ys =>
    cases r with
    |tup hp hr=>cases q with
     |tup cB hr2=>exact .tup (Zf hp) (Zf cB)<|XA ih e hr hr2
   |_=>cases e
  |ref b=>cases u with
   |ref c =>
    cases r;cases q;rw[O.sam,ϐ]at e;rcases e with e|e
    .have:=eq_of_beq e;subst this;exact .ref _
    .cases z:O.lsOf (G b)with
     |none=>rw[z]at e;cases e
     |some xs =>
      cases z2:O.lsOf (G c)with
      |none=>rw[z,z2]at e;cases e
      |some ys =>rw[z,z2]at e;obtain⟨vs,h1,h2⟩:=Zt g z;obtain⟨us,h3,h4⟩:=Zt g z2;exact .lst h1 h3<|XA ih e h2 h4
   |_=>cases e
  |scr ns=>cases u<;>cases e
  |key _ _=>cases u<;>cases e
variable {x:V}
theorem X9(g:RH i G H){v:O.Val}{xs:List O.Val}(r:RV i.K H v x)(e:O.asLst G v=some xs):∃a vs,x=.ref a/\SqL i.K H a vs/\RVs i.K H xs vs:=by
 cases v with
 |ref a =>cases r;obtain⟨vs,h1,h2⟩:=Zt g e;exact⟨a,vs,rfl,h1,h2⟩
 |_=>cases e
theorem DD(g:RH i G H){v u:O.Val}{y:V}(rx:RV i.K H v x)(ry:RV i.K H u y){c:Bool}{f:List O.Val->List O.Val->Option Bool}(e:((O.asLst G v).bind fun xs=>(O.asLst G u).bind fun ys=>f xs ys)=some c):∃xs ys a b vs us,f xs ys=some c/\x=.ref a/\y=.ref b/\SqL i.K H a vs/\SqL i.K H b us/\RVs i.K H xs vs/\RVs i.K H ys us:=by
 cases z:O.asLst G v with
 |none=>rw[z]at e;cases e
 |some xs =>
  cases z2:O.asLst G u with
  |none=>rw[z,z2]at e;cases e
  |some ys =>rw[z,z2]at e;obtain⟨a,vs,h1,h2,h3⟩:=X9 g rx z;obtain⟨b,us,k1,k2,k3⟩:=X9 g ry z2;exact⟨xs,ys,a,b,vs,us,e,h1,k1,h2,k2,h3,k3⟩
theorem c_nes:ZT i .nes<|Il i.K:=by
 intro v u G H x y c Q g rx ry e q;obtain⟨xs,ys,a,b,vs,us,e,h1,h2,h3,h4,h5,h6⟩:=DD g rx ry e;split at e
 .rename_i z;cases e;exact⟨a,b,vs,us,h1,h2,h3,h4,XA (D3 g 8) z h5 h6,q⟩
 .cases e
end Snd
namespace L2
open PySem PySem.Spec PyProof.Rows
variable {X:Cx}
noncomputable def rD0:R2:=fun x y H Q=>∃a,x=.ref a/\y=.ref a/\H a=some (.dK [])/\Q (.bl false) H
theorem DY(hu:X.A.units<Ğ):OpR X (è .NotEq) rD0:=by intro Á s σ H x y v u Q I rx ry h;obtain⟨a,rfl,rfl,ha,q⟩:=h;cases rx;cases ry;obtain⟨z,hd,vs,ŵ,dd⟩:=Kt I.hok ha;cases ŵ;exact PySem.W.keq_ne (r:=true) hd hd dd dd hu (fun _=>.nil) ⟨.bl false,H,I,rfl,q⟩
noncomputable def LY(K:Frag):R2:=fun x y H Q=>Il K x y H Q\/Hc K x y H Q\/rD0 x y H Q
theorem Hj(hu:X.A.units+64<Ğ):OpR X (è .NotEq)<|LY X.K:=by
 intro Á s σ H x y v u Q I rx ry h;rcases h with h|h|h
 .exact HP hu Á s σ H x y v u Q I rx ry h
 .exact Cq hu Á s σ H x y v u Q I rx ry h
 .exact DY (by omega) Á s σ H x y v u Q I rx ry h
end L2
namespace Snd
open PySem L2
variable {i:Inf}
theorem c_neX:ZT i .neX<|LY i.K:=by
 intro v u G H x y c Q g rx ry e q;change(if O.sam0 G v u=true then some false else(O.eqV G v u).map (!·))=some c at e;split at e
 .rename_i z;cases e;unfold O.sam0 at z;rw[ϐ]at z;rcases z with z|z
  .cases z1:O.asLst G v with
   |none=>rw[z1]at z;cases z
   |some xs =>
    cases z2:O.asLst G u with
    |none=>rw[z1,z2]at z;cases z
    |some ys =>rw[z1,z2]at z;exact .inl (c_nes v u G H x y false Q g rx ry (by show(O.asLst G v).bind _=_;rw[z1,z2];exact if_pos z) q)
  .refine .inr<|.inr ?_;cases v with
   |ref a=>cases u with
    |ref b =>
     cases rx.ref_inv;cases ry.ref_inv;change(a==b&&O.noPairs (G a))=true at z;rw[bAq]at z;cases eq_of_beq z.1;have z:=z.2;cases w:G a with
     |none=>rw[w]at z;cases z
     |some o =>
      rw[w]at z;cases o with
      |dct kvs=>cases kvs with
       |nil =>obtain⟨us,h1,h2⟩:=g a _ w;cases h2;exact⟨a,rfl,rfl,h1,q⟩
       |cons _ _=>cases z
      |_=>cases z
    |_=>cases z
   |_=>cases u<;>cases z
 .exact .inr<|.inl<|LO v u G H x y c Q g rx ry e q
variable {i:Inf}{X:Cx}{Φ:O.Fs}
theorem RVs.strs{K:Frag}{H:Hp}:∀ss:List String,RVs K H (ss.map O.Val.str) ((ss.map Str.ofString).map V.str)
 |[]=>.nil
 |s::ss=>.cons (.str s)<|RVs.strs ss
noncomputable def tPt(X:Cx)(i:Inf)(Φ:O.Fs)(m:O.E):TE:=fun σ H Q=>∃env G Qm Em,Pre X i σ H env G Em/\O.wE Φ m env G Qm Em/\∀v G' H',Keep H H'->RH i G' H'->Qm v G'->∃s,O.fmtV v=some s/\s.length<=O.lim/\Q (.str<|Str.ofString s) H'
noncomputable def tJs(X:Cx)(i:Inf)(Φ:O.Fs)(ms:O.Es):TJ:=fun σ H į Q=>∃env G a Qm Em,į=Str.ofString a/\a.length<=O.lim/\Pre X i σ H env G Em/\O.wJ Φ ms env G a Qm Em/\∀s G' H',Keep H H'->RH i G' H'->Qm s G'->Q (Str.ofString s) H'
theorem _root_.L2.PJ.imp{vs:List Expr}{t t':TJ}(h:PJ X vs t)(f:∀σ H į Q,t' σ H į Q->t σ H į Q):PJ X vs t':=fun Á s σ H į Q I q=>h Á s σ H į Q I (f σ H į Q q)
variable {e:Expr} {m:O.E} {pos:Pos}
theorem H9(he:PE X e<|tE X i Φ m):PE X (.FormattedValue e (-1) none pos) (tPt X i Φ m) :=
 (FE he).imp fun σ H Q ⟨env,G,Qm,Em,p,w,c⟩=>by
  refine⟨env,G,Qm,Em,p,w,fun v G1 H1 x k1 g1 r1 w1=>?_⟩;obtain⟨s,e1,hl,q⟩:=c v G1 H1 k1 g1 w1;cases v with
  |str t=>cases e1;cases r1.str_inv;exact .inr ⟨_,rfl,by rw[Zs];exact Ó hl ZL,q⟩
  |int n =>
   cases r1.int_inv;simp only[O.fmtV]at e1;split at e1
   .rename_i hn;cases e1;exact .inl ⟨n,rfl,B5 hn,q⟩
   .cases e1
  |_=>cases e1
theorem Lo{s:String}{j:Nat}:PE X (.Constant (.str<|Str.ofString s) j pos) (tPt X i Φ<|.cst<|.str s) :=
 pe_str.imp fun σ H Q ⟨env,G,Qm,Em,p,w,c⟩=>by obtain⟨t,e1,hl,q⟩:=c _ G H (Keep.refl H) p.hp w;cases e1;exact q
theorem Lv:PJ X []<|tJs X i Φ .nil:=pj_nil.imp fun σ H į Q ⟨env,G,a,Qm,Em,e,hl,p,w,c⟩=>by subst e;exact⟨by rw[Zs];exact Ó hl ZL,c a G H (Keep.refl H) p.hp w⟩
theorem O7{es:List Expr}{ms:O.Es}(he:PE X e<|tPt X i Φ m)(hr:PJ X es<|tJs X i Φ ms)(hs:b8 (e::es) X.env=eval e X.env::b8 es X.env):PJ X (e::es) (tJs X i Φ<|.cons m ms) :=
 (ER he hr hs).imp fun σ H į Q ⟨env,G,a,Qm,Em,e,hl,p,w,c⟩=>by subst e;refine⟨env,G,_,Em,p,w,fun v G1 H1 k1 g1 w1=>?_⟩;obtain⟨s,e1,hl1,w2⟩:=go_some w1;clear w1;refine⟨s,e1,by omega,_,rfl,?_,env,G1,a++s,Qm,Em,(K7 a s).symm,by rw[bJ];exact hl1,p.go k1 g1,w2,fun t G2 H2 k2=>c t G2 H2<|k1.trans k2⟩;rw[<-K7,Zs,bJ];exact Ó hl1 ZL
theorem K0{G:O.Hs}{H:Hp}{p:È}{o:HO}(g:RH i G H)(hp:H p=none):RH i G<|upd H p o:=g.hid (Keep.new hp) fun b u e=>upd_ne (by rintro rfl;rw[g.free hp]at e;cases e)
noncomputable def tE0(i:Inf)(Φ:O.Fs)(m:O.E):TE:=fun σ H Q=>∃env G Qm,REn i.K H env σ/\RH i G H/\O.wE Φ m env G Qm (fun _ _=>False)/\Cn i H Q Qm
noncomputable def tT0(i:Inf)(Φ:O.Fs)(m:O.Tt):TT:=fun σ H Q=>∃env G Qm,REn i.K H env σ/\RH i G H/\O.wT Φ m env G Qm (fun _ _=>False)/\∀b G' H',Keep H H'->RH i G' H'->Qm b G'->Q b H'
variable {H:Hp}
theorem Ux:XOk X i H fun _ _=>False:=fun Á σ H0 s H' a cls s' I f ⟨_,_,_,_,_,_,_,z⟩=>z.elim
variable {e:Expr}
theorem pe0{m:O.E}(h:PE X e<|tE X i Φ m):PE X e<|tE0 i Φ m:=h.imp fun σ H Q ⟨env,G,Qm,r,g,w,c⟩=>⟨env,G,Qm,_,⟨r,g,Ux⟩,w,c⟩
theorem pt0{m:O.Tt}(h:PT X e<|tTt X i Φ m):PT X e<|tT0 i Φ m:=h.imp fun σ H Q ⟨env,G,Qm,r,g,w,c⟩=>⟨env,G,Qm,_,⟨r,g,Ux⟩,w,c⟩
theorem _root_.L2.PIfs.imp{es:List Expr}{t t':TT}(h:PIfs X es t)(f:∀σ H Q,t' σ H Q->t σ H Q):PIfs X es t':=fun Á s σ H Q I q=>h Á s σ H Q I (f σ H Q q)
theorem G0:PIfs X []<|tT0 i Φ .yes:=pifs_nil.imp fun σ H Q ⟨env,G,Qm,r,g,w,c⟩=>by exact c true G H (Keep.refl H) g w
variable {ö:List Nat}
theorem Ep{K:Frag}{H':Hp}{env:O.Env}{σ:St}{k:Nat}(r:REn K H env σ)(kp:Keep H H'):REn K H' (Ö k none++ö.map fun j=>(env[j]?).getD none)<|Ö k none++Oz σ ö:=by
 refine⟨by simp[Oz],fun n u e=>?_⟩;by_cases hn:n<k
 .rw[Ċ (by rw[ò];exact hn),ň,if_pos hn]at e;cases e
 .rw[Ē (by rw[ò];omega),ò]at e ⊢;generalize n - k=n at e ⊢;simp only[Ù]at e;cases z:ö[n]? with
  |none=>rw[z]at e;cases e
  |some j =>
   rw[z]at e;simp only[Ľ,Ĭ]at e;cases z2:env[j]? with
   |none=>rw[z2]at e;cases e
   |some o =>rw[z2]at e;have e:o=some u:=e;subst e;obtain⟨y,h1,h2⟩:=r.get j u z2;exact⟨y,by unfold Oz;rw[Ù,z];show some ((σ[j]?).getD none)=_;rw[h1];rfl,h2.keep kp⟩
noncomputable def OI(k:Nat):O.Pt->Bool
 |.one j=>decide (j<k)
 |.many js=>js.all fun j=>decide (j<k)
 |.nest _ _=>false
theorem Ko{r:O.Env}:∀{js:List Nat}{vs:List O.Val}{l œ:O.Env},(js.all fun j=>decide (j<l.length))=true->O.bindL js vs (l++r)=some œ->∃l',œ=l'++r/\l'.length=l.length
 |[],[],l,_,_,e=>by cases e;exact⟨l,rfl,rfl⟩
 |j::js,v::vs,l,_,h,e=>by rw[List.all_cons,bAq,decide_eq_true_eq]at h;have e:O.bindL js vs ((l++r).set j<|some v)=_:=e;rw[cE _ _ h.1]at e;obtain⟨l',h1,h2⟩:=Ko (l:=l.set j<|some v) (by rw[Ϗ];exact h.2) e;exact⟨l',h1,by rw[h2,Ϗ]⟩
 |[],_::_,_,_,_,h=>by cases h
 |_::_,[],_,_,_,h=>by cases h
variable {l:O.Env} {r:O.Env}
theorem Dj{p:O.Pt}{G:O.Hs}{v:O.Val}{œ:O.Env}(h:OI l.length p=true)(e:O.bind p G v (l++r)=some œ):∃l',œ=l'++r/\l'.length=l.length:=by
 cases p with
 |one j =>have e:some ((l++r).set j<|some v)=some œ:=e;cases e;exact⟨l.set j<|some v,by rw[cE _ _<|of_decide_eq_true h],Ϗ⟩
 |many js =>
  cases v with
  |tup vs=>exact Ko h e
  |_=>cases e
 |nest j js=>cases h
theorem REn.pre{K:Frag}{τ:St}(q:REn K H (l++r) τ):REn K H (Ö l.length none++r) τ:=by
 refine⟨by rw[<-q.len];simp,fun n u e=>?_⟩;by_cases hn:n<l.length
 .rw[Ċ (by rw[ò];exact hn),ň,if_pos hn]at e;cases e
 .rw[Ē (by rw[ò];omega),ò]at e;exact q.get n u (by rw[Ē<|by omega];exact e)
theorem O0{k:Nat}{pt:O.Pt}(hk:OI k pt=true){mi:O.It}{mt:O.Tt}{me:O.E}:∀σ H Q,tE X i Φ (.comp ö k pt mi mt me) σ H Q->Cl (tIt X i Φ mi) k ö (gPt i pt) (tT0 i Φ mt) (tE0 i Φ me) σ H Q:=fun σ H Q ⟨env,G,Qm,Em,p,w,c⟩=>by
 refine⟨env,G,_,Em,p,w,fun st xs G1 H1 J k1 g1 it w1=>?_⟩;obtain⟨hl,w1⟩:=w1;generalize hstep:(fun(v:O.Val) (h2:O.Hs) (K:Option O.Val->O.Hs->Prop) (X2:O.XQ)=>O.go (O.bind pt h2 v<|Ö k none++ö.map fun j=>(env[j]?).getD none) fun œ =>
       O.wT Φ mt œ h2 (fun k h3=>if k=true then O.wE Φ me œ h3 (fun u h4=>K (some u) h4) X2 else K none h3) X2)=step at w1
 refine⟨fun n m ys τ H'=>n+m=xs.length/\ys.length<=n/\REn i.K H' (Ö k none++ö.map fun j=>(env[j]?).getD none) τ/\∃į G',Keep H1 H'/\RH i G' H'/\RVs i.K H' į ys/\O.wComp st step (xs.drop n) į G' (fun ys h5=>O.new h5 (.lst ys) Qm) (fun _ _=>False),⟨xs.length,by omega,by simp,Ep p.en k1,[],G1,Keep.refl _,g1,.nil,by simpa using w1⟩,?_⟩;rintro n m ys τ H' ⟨hnm,hly,en2,į,G',k2,g2,r2,w2⟩;refine⟨ã (ß (Ó hly<|by omega) hl) ZL,?_⟩;by_cases hn:n<xs.length
 .right;have hd:xs.drop n=xs[n]::xs.drop (n+1):=Β hn;rw[hd]at w2;obtain⟨s2,w2⟩:=w2;have hv:xs[n]?=some xs[n]:=Ë hn;obtain⟨a1,a2⟩:=it.go n G' H' xs[n] k2 g2 s2 hv;refine⟨a1,fun ys3 τ3 H3=>ys3.length<=n+1/\REn i.K H3 (Ö k none++ö.map fun j=>(env[j]?).getD none) τ3/\∃acc3 G3,Keep H1 H3/\RH i G3 H3/\RVs i.K H3 acc3 ys3/\O.wComp st step (xs.drop<|n+1) acc3 G3 (fun ys h5=>O.new h5 (.lst ys) Qm) (fun _ _=>False),fun ys3 τ3 H3 h=>⟨m - 1,by omega,by omega,h.1,h.2⟩,fun x H3 hy=>?_⟩;obtain⟨k3,g3,r3⟩:=a2 x H3 hy;rw[<-hstep]at w2;obtain⟨cD,e4,w4⟩:=go_some w2;rw[hstep]at w4;obtain⟨l',e5,h5⟩:=Dj (l:=Ö k none) (by rw[ò];exact hk) e4;rw[ò]at h5;refine⟨xs[n],_,G',cD,r3,g3,en2.keep k3,e4,fun τ4 en4=>?_⟩;have aB:REn i.K H3 (Ö k none++ö.map fun j=>(env[j]?).getD none) τ4:=by
   rw[e5]at en4;have:=en4.pre;rw[h5]at this;exact this
  refine⟨_,G',_,en4,g3,w4,fun d G5 H5 k5 g5 q5=>?_⟩;have kk:=(k2.trans k3).trans k5;cases d with
  |true =>refine⟨_,G5,_,en4.keep k5,g5,by simpa using q5,fun u G6 H6 y k6 g6 r6 q6=>?_⟩;exact⟨by simpa using hly,(aB.keep k5).keep k6,_,G6,kk.trans k6,g6,((((r2.keep k3).keep k5).keep k6).append<|.cons r6 .nil),q6⟩
  |false =>rw[if_neg ý]at q5;change if false=true then _ else _;rw[if_neg ý];have q5:O.wComp st step (xs.drop<|n+1) (į++[]) G5 (fun ys h5=>O.new h5 (.lst ys) Qm) fun _ _=>False:=q5;rw[Ĕ]at q5;exact⟨by omega,aB.keep k5,į,G5,kk,g5,(r2.keep k3).keep k5,q5⟩
 .left;have hd:xs.drop n=[]:=ģ (by omega);rw[hd]at w2;refine⟨it.stop n G' H' k2 g2 w2.1 (by omega),?_⟩;exact ZU g2 w2.2 ((c.go k1).go k2) fun q hq=>⟨_,upd_same,r2.keep<|Keep.new hq⟩
def Ed(i:Inf)(m:O.Bm)(r:V->List V->Hp->VK->Prop):Prop:=∀(v:O.Val) (vs:List O.Val) (G:O.Hs) (H:Hp) (x:V) (xs:List V) (t:O.Val×O.Hs) (Q:VK) (Qm:O.Q1),
 RH i G H->RV i.K H v x->RVs i.K H vs xs->O.bmV G m v vs=some t->Qm t.1 t.2->Cn i H Q Qm->r x xs H Q
def Ll(i:Inf)(m:O.Bm)(T:String):Prop:=∀(v:O.Val) (G:O.Hs) (H:Hp) (x:V),RH i G H->RV i.K H v x->O.bmTy G m v=true->tyV i.K T x H
variable {m:O.Bm}
theorem Hf{o e:Expr}{es:List Expr}{name:Str}{ō Ť:Pos}{T id:String}{r:V->List V->Hp->VK->Prop}{mo:O.E}{ms:O.Es}{n:Nat}(hK:X.K=i.K)(pa:PlainAttrs T)(slot:Slot T name id)(hty:typeOf (.builtin id)=pure (.type "method_descriptor"))(mt:MtR X id r)(hT:Ll i m T)(hr:Ed i m r)
  (ho:PE X o<|tE X i Φ mo) (ha:PA X (e::es)<|tAr X i Φ ms n) (av:ħ o name X.env (eval o X.env)=eval o X.env)
  (a8:((ĥ Ť<|Õ (e::es) X.env).all (fun x=>!x.1)&&(Ÿ Ť<|ņ [] X.env).all (fun x=>x.1.isSome)&&decide ((e::es).length+([]:List aI).length+(if([]:List aI).isEmpty then 0 else 1)<30))=true)
  (aw:(ō.endLine==Ť.line)=true) (hs:Õ (e::es) X.env=(false,eval e X.env)::Õ es X.env) (cx:(ĥ Ť<|Õ es X.env).any (·.1)=false) :
  PE X (.Call (.Attribute o name ō) (e::es) [] Ť) (tE X i Φ<|.bm m mo ms) :=
 (Qq pa slot hty mt ho ha av a8 aw hs cx).imp fun σ H Q ⟨env,G,Qm,Em,p,w,c⟩=>by
  refine one p w fun v G1 H1 x k1 p1 rv q=>⟨by rw[hK];exact hT v G1 H1 x p1.hp rv q.1,env,G1,_,Em,p1,q.2,fun vs G2 H2 xs k2 g2 r2 _ w2=>?_⟩
  obtain⟨t,e,w3⟩:=go_some w2;exact hr v vs G2 H2 x xs t Q Qm g2 (rv.keep k2) r2 e w3<|(c.go k1).go k2
theorem OE{o:Option O.Ob}(h:O.isDct o=true):(∃xs,o=some (.dct xs))\/∃xs,o=some (.dtp xs):=by
 cases o with
 |none=>cases h
 |some o=>cases o with
  |dct xs=>exact .inl ⟨xs,rfl⟩
  |dtp xs=>exact .inr ⟨xs,rfl⟩
  |_=>cases h
theorem Pp(hm:m.ty=.l):Ll i m "list":=fun v G H x g r h=>by
 unfold O.bmTy at h;rw[hm]at h;cases v with
 |ref a =>cases r.ref_inv;obtain⟨xs,e⟩:=N4 (show O.isLst (G a)=true from h);obtain⟨vs,h1,_⟩:=g a _ e;exact .inl ⟨rfl,vs,SqL.of h1⟩
 |_=>cases h
theorem RB(hm:m.ty=.d):Ll i m "dict":=fun v G H x g r h=>by
 unfold O.bmTy at h;rw[hm]at h;cases v with
 |ref a =>
  cases r.ref_inv;rcases OE (show O.isDct (G a)=true from h)with⟨xs,e⟩|⟨xs,e⟩
  .obtain⟨vs,h1,_⟩:=g a _ e;exact .inr<|.inr<|.inl ⟨rfl,.inl ⟨vs,h1⟩⟩
  .obtain⟨vs,h1,_⟩:=g a _ e;exact .inr<|.inr<|.inl ⟨rfl,.inr ⟨vs,h1⟩⟩
 |_=>cases h
variable {G:O.Hs}
theorem Ut{v:O.Val}{f:O.Ad->List O.Val->Option (O.Val×O.Hs)}{t:O.Val×O.Hs}(e:O.bmL G v f=some t):∃a xs,v=.ref a/\G a=some (.lst xs)/\f a xs=some t:=by
 cases v with
 |ref a=>obtain⟨xs,h1,h2⟩:=CN e;exact⟨a,xs,rfl,h1,h2⟩
 |_=>cases e
theorem QC{vs:List O.Val}{α:Type}{f:O.Val->Option α}{a:α}(e:(match vs with|[v]=>f v|_=>none)=some a):∃v,vs=[v]/\f v=some a:=by
 cases vs with
 |nil=>cases e
 |cons v vs=>cases vs with
  |nil=>exact⟨v,rfl,e⟩
  |cons _ _=>cases e
theorem HC:Ed i .append OQ:=fun v vs G H x xs t Q Qm g rx rs e q c=>by obtain⟨a,ys,rfl,e4,e3⟩:=Ut e;obtain⟨u,rfl,e3⟩:=QC e3;obtain⟨hl,e3⟩:=ZC e3;cases e3;cases rx.ref_inv;obtain⟨y,rfl,ry⟩:=rs.inv1;obtain⟨us,h2,r2⟩:=g a _ e4;obtain⟨k3,g3⟩:=Mz (xs:=ys) g h2 (ys++[u]) (us++[y])<|r2.app1 ry;exact⟨a,us,y,rfl,rfl,h2,by rw[<-r2.length];exact ã hl ZL,c _ _ _ _ k3 g3 .non q⟩
theorem Fv:Ed i .popAt Bs:=fun v vs G H x xs t Q Qm g rx rs e q c=>by
 obtain⟨a,ys,rfl,e4,e3⟩:=Ut e;unfold O.bmPopAt at e3;split at e3
 .rename_i n;obtain⟨hn,e3⟩:=ZC e3;obtain⟨k,z,e3⟩:=æ.mp e3;obtain⟨yv,z2,rfl⟩:=Ú.mp e3;cases rx.ref_inv;obtain⟨y,rfl,ry⟩:=rs.inv1;cases ry.int_inv;obtain⟨us,h2,r2⟩:=g a _ e4;obtain⟨xv,hx,rv⟩:=r2.get z2;rw[KP,r2.length]at z;obtain⟨s1,s2,s3,s4⟩:=Mf z;obtain⟨k3,g3⟩:=Mz (xs:=ys) g h2 (ys.eraseIdx k) (us.eraseIdx k)<|r2.eraseIdx k;exact⟨a,us,n,k,xv,rfl,rfl,h2,by omega,by omega,s1,hx,c _ _ _ _ k3 g3 (rv.keep k3) q⟩
 .cases e3
theorem Er{v:O.Val}{f:O.Ad->List (O.Val×O.Val)->Option (O.Val×O.Hs)}{t:O.Val×O.Hs}(e:O.bmD G v f=some t):∃a kvs,v=.ref a/\G a=some (.dct kvs)/\f a kvs=some t:=by
 cases v with
 |ref a =>
  obtain⟨kvs,h1,h2⟩:=æ.mp (show(O.dcOf<|G a).bind (f a)=some t from e);refine⟨a,kvs,rfl,?_,h2⟩;cases z:G a with
  |none=>rw[z]at h1;cases h1
  |some o =>
   rw[z]at h1;cases o with
   |dct ys=>cases h1;rfl
   |_=>cases h1
 |_=>cases e
def CS:V->List V->Hp->VK->Prop:=fun x vs H Q=>∃a y o,x=.ref a/\vs=[y]/\DGet H a y o/\Q (o.getD .non) H
theorem BG(hu:X.A.units+1<Ğ):MtR X "dict.get" CS:=by intro Á s σ H x vs v us Q I rx rv h;obtain⟨a,y,o,rfl,rfl,d,q⟩:=h;cases rx;obtain⟨u,rfl,ru⟩:=rv.one;exact IU hu I d ru fun w' s' I' cY=>⟨_,_,I',cY,q⟩
theorem Iw:Ed i .dget CS:=fun v vs G H x xs t Q Qm g rx rs e q c=>by
 obtain⟨a,kvs,rfl,e4,e3⟩:=Er e;obtain⟨k,rfl,e3⟩:=QC e3;obtain⟨hk,e3⟩:=ZC e3;cases e3;cases rx.ref_inv;obtain⟨y,rfl,ry⟩:=rs.inv1;obtain⟨ps,h2,r2⟩:=g a _ e4;obtain⟨d,kr,rfl⟩:=key_of hk ry;refine⟨a,_,_,rfl,rfl,DGet.k (k:=d) h2,?_⟩;obtain⟨l1,l2⟩:=r2.look kr;cases z:O.lookK kvs k with
 |none=>rw[l2 z];rw[z]at q;exact c _ _ _ _ (Keep.refl H) g .non q
 |some u=>obtain⟨x,hx,rv⟩:=l1 u z;rw[hx];rw[z]at q;exact c _ _ _ _ (Keep.refl H) g rv q
theorem Ha{pos:Pos}:PE X (.Dict [] [] pos) (tE X i Φ .dctP) :=
 pe_dnewT.imp fun σ H Q ⟨env,G,Qm,Em,p,w,c⟩=>by exact ZU p.hp w c fun a ha=>⟨[],upd_same,.nil⟩
theorem RFs.look{K:Frag}{H:Hp}{f:String}:∀{fs:List (String×O.Val)}{ps:List (Str×V)},RFs K H fs ps->
  (∀v,fs.lookup f=some v->∃x,ps.lookup (Str.ofString f)=some x/\RV K H v x)/\(fs.lookup f=none->ps.lookup (Str.ofString f)=none)
 |_,_,.nil=>⟨fun v e=>(by cases e),fun _=>rfl⟩
 |_,_,.cons (f:=g) (v:=u) (x:=y) r t=>by
  have ih:=RFs.look (f:=f) t;rw[ä,ä];by_cases e:f=g
  .subst e;rw[beq_self_eq_true,beq_self_eq_true];exact⟨fun v z=>(by cases z;exact⟨y,rfl,r⟩),fun z=>(by cases z)⟩
  .rw[show(f==g)=false by simpa using e,show(Str.ofString f==Str.ofString g)=false by rw[beq_eq_false_iff_ne];exact fun z=>e<|ofS_inj.mp z];exact ih
theorem RFs.put{K:Frag}{H:Hp}{f:String}{v:O.Val}{x:V}(q:RV K H v x):∀{fs:List (String×O.Val)}{ps:List (Str×V)},RFs K H fs ps->RFs K H (O.putF fs f v) (L2.putF (Str.ofString f) x ps)
 |_,_,.nil=>.cons q .nil
 |_,_,.cons (f:=g) (v:=u) (x:=y) r t=>by
  unfold O.putF L2.putF;by_cases e:g=f
  .subst e;rw[if_pos rfl,if_pos rfl];exact .cons q t
  .rw[if_neg e,if_neg fun z=>e<|ofS_inj.mp z];exact .cons r<|RFs.put q t
theorem RFs.length{K:Frag}{H:Hp}:∀{fs:List (String×O.Val)}{ps:List (Str×V)},RFs K H fs ps->fs.length=ps.length
 |_,_,.nil=>rfl
 |_,_,.cons _ t=>by rw[Ì,Ì,RFs.length t]
structure FldOk(i:Inf)(f:String):Prop where
 no:∀C c,i.cl C c->NoAttr i.K c (Str.ofString f)
structure IC(K:Frag)(C:È):Prop where
 ha:PySem.W.findIn K (.ref C) "__class__" = some (some<|.builtin "object.__class__")
 hn:PySem.W.specialIn K (.builtin "object.__class__") "__get__" = some (some<|.builtin "getset_descriptor.__get__")
 htk:PySem.W.takesIn K (.builtin "object.__class__")=some true
 hm:PySem.W.mroIn K C (.type "object")=some true
structure ClsA(i:Inf):Prop where
 cls:∀C c,i.ins C=true->i.cl C c->Cls i.K c
 ic:∀C c,i.cl C c->IC i.K c
 un:∀C a b,i.cl C a->i.cl C b->a=b
theorem W2{o:Option O.Ob}{p:String×List (String×O.Val)}(h:O.insOf o=some p):o=some (.ins p.1 p.2):=by
 cases o with
 |none=>cases h
 |some o=>cases o with
  |ins C fs=>cases h;rfl
  |_=>cases h
variable {G:O.Hs} {f:String}
theorem Ku{v u:O.Val}(h:O.fldV G v f=some u):∃a C fs,v=.ref a/\G a=some (.ins C fs)/\fs.lookup f=some u:=by obtain⟨a,h1,h⟩:=æ.mp h;obtain⟨p,h2,h3⟩:=æ.mp h;exact⟨a,p.1,p.2,Xp h1,W2 h2,h3⟩
variable {o:Expr} {mo:O.E} {pos:Pos}
theorem Qr(hK:X.K=i.K)(A:ClsA i)(F:FldOk i f)(ho:PE X o<|tE X i Φ mo)(hb:ħ o (Str.ofString f) X.env (eval o X.env)=eval o X.env) :
  PE X (.Attribute o (Str.ofString f) pos) (tE X i Φ<|.fld mo f) :=
 (HH ho hb).imp fun σ H Q ⟨env,G,Qm,Em,p,w,c⟩=>by
  exact one p w fun v G1 H1 x k1 p1 r q=>by obtain⟨u,e,q2⟩:=go_some q;clear q;obtain⟨a,C,fs,rfl,e2,e3⟩:=Ku e;cases r.ref_inv;obtain⟨c',dx,ps,hi,hc,h1,rf⟩:=p1.hp a _ e2;obtain⟨y,l,ry⟩:=rf.look.1 u e3;exact⟨a,c',dx,ps,y,rfl,h1,by rw[hK];exact A.cls _ _ hi hc,by rw[hK];exact F.no _ _ hc,l,c _ _ _ _ k1 p1.hp ry q2⟩
variable {C:String}
theorem Us{H:Hp}{a:È}{c' dx:È}{fs:List (String×O.Val)}{ps ps2:List (Str×V)}(g:RH i G H)(hi:i.ins C=true)(hc:i.cl C c')(h:H a=some (.ins c' dx ps2))(r:RFs i.K H fs ps) :
  Keep H (upd H a<|.ins c' dx ps)/\RH i (O.upd G a<|.ins C fs) (upd H a<|.ins c' dx ps):=by
 have k:Keep H<|upd H a<|.ins c' dx ps:=Keep.put (fun xs e=>by rw[h]at e;cases e) fun p u e=>by rw[h]at e;cases e
 exact⟨k,g.put k ⟨c',dx,ps,hi,hc,upd_same,r.keep k⟩⟩
theorem Ju{G':O.Hs}{o v:O.Val}(h:O.putFV G o f v=some G'):∃a C fs,o=.ref a/\G a=some (.ins C fs)/\fs.length<900/\G'=O.upd G a (.ins C<|O.putF fs f v):=by
 cases o with
 |ref a =>
  unfold O.putFV at h;dsimp only at h;split at h
  .rename_i C fs e;obtain⟨hl,h⟩:=ZC h;cases h;exact⟨a,C,fs,rfl,e,hl,rfl⟩
  .cases h
 |_=>cases h
variable {e:Expr}
theorem UR{m:O.E}{aX:Pos}(hK:X.K=i.K)(A:ClsA i)(F:FldOk i f)(ho:PE X o<|tE X i Φ mo)(he:PE X e<|tE X i Φ m)(hs:Ų e (some<|.Attribute o (Str.ofString f) aX) pos.line X.env=pure false) :
  PS X (.Assign [.Attribute o (Str.ofString f) aX] e pos) (tSt X i Φ<|.setFld mo f m) :=
 (Ia ho he hs).imp fun D σ H ⟨env,G,N,R,B,C,Xe,p,w,c⟩=>by refine one p.pre w fun v G1 H1 x k1 p1 r q=>?_;refine one p1 q fun u G2 H2 y k2 p2 ry q=>?_;obtain⟨G3,e3,q2⟩:=go_some q;clear q;obtain⟨a,D',fs,rfl,e2,hl,rfl⟩:=Ju e3;cases ry.ref_inv;obtain⟨c',dx,ps,hi,hc,h1,rf⟩:=p2.hp a _ e2;obtain⟨k3,g3⟩:=Us p2.hp hi hc h1<|rf.put (f:=f)<|r.keep k2;refine⟨a,c',dx,ps,rfl,h1,by rw[hK];exact A.cls _ _ hi hc,by rw[hK];exact F.no _ _ hc,by rw[<-rf.length];omega,?_⟩;have k:=(k1.trans k2).trans k3;exact c.nx _ _ _ _ k g3 (p.en.keep k) q2
theorem BE{op:O.Bop}{x y z:O.Val}(h:O.augV op x y=some z):∃a b,x=.int a/\y=.int b/\((op=.add/\z=.int (a+b))\/(op=.sub/\z=.int (a - b))):=by
 unfold O.augV at h;split at h
 .cases h;exact⟨_,_,rfl,rfl,.inl ⟨rfl,rfl⟩⟩
 .cases h;exact⟨_,_,rfl,rfl,.inr ⟨rfl,rfl⟩⟩
 .cases h
def rAS(op:O.Bop):V->V->Hp->VK->Prop:=fun x y H Q=>∃a b,x=.int a/\y=.int b/\((op=.add/\Q (.int<|a+b) H)\/(op=.sub/\Q (.int<|a - b) H))
theorem AU{op:aG}{bop:O.Bop}{n:Int}{k:Nat}{tpos Ť:Pos}(hK:X.K=i.K)(A:ClsA i)(F:FldOk i f)(hop:Dn X op<|rAS bop)(ho:PE X o<|tE X i Φ mo) :
  PS X (.AugAssign (.Attribute o (Str.ofString f) tpos) op (.Constant (.int n) k Ť) pos) (tSt X i Φ<|.augFld mo f bop n) :=
 (AT ho OL hop).imp fun D σ H ⟨env,G,N,R,B,C,Xe,p,w,c⟩=>by
  refine one p.pre w fun v G1 H1 x k1 p1 r q=>?_;obtain⟨u,e1,q2⟩:=go_some q;clear q;obtain⟨a,C',fs,rfl,e2,e3⟩:=Ku e1;cases r.ref_inv;obtain⟨c',dx,ps,hi,hc,h1,rf⟩:=p1.hp a _ e2;obtain⟨y,l,ry⟩:=rf.look.1 u e3;refine⟨a,c',dx,ps,y,rfl,h1,by rw[hK];exact A.cls _ _ hi hc,by rw[hK];exact F.no _ _ hc,l,?_⟩;obtain⟨z,e4,q3⟩:=go_some q2;clear q2;obtain⟨G3,e5,q4⟩:=go_some q3;clear q3;obtain⟨n1,n2,rfl,e0,hz⟩:=BE e4;cases e0;cases ry.int_inv;obtain⟨a2,C2,fs2,e6,e7,hl,rfl⟩:=Ju e5;cases e6;rw[e2]at e7;cases e7;have fin:∀n:Int,z=.int n->∃dx' dr,H1 a=some (.ins c' dx' dr)/\dr.length<1000/\D.nx σ (upd H1 a<|.ins c' dx'<|L2.putF (Str.ofString f) (.int n) dr):=fun n hn=>by subst hn;obtain⟨k3,g3⟩:=Us p1.hp hi hc h1<|rf.put (f:=f) (x:=.int n)<|.int n;refine⟨dx,ps,h1,by rw[<-rf.length];omega,?_⟩;exact c.nx _ _ _ _ (k1.trans k3) g3 (p.en.keep<|k1.trans k3) q4
  rcases hz with⟨e,hz⟩|⟨e,hz⟩
  .exact⟨n1,n,rfl,rfl,.inl ⟨e,fin _ hz⟩⟩
  .exact⟨n1,n,rfl,rfl,.inr ⟨e,fin _ hz⟩⟩
def Dfm(pr:à)(w:õ)(mg:Str->Option Ã)(base:ā)(i:Inf)(P:O.Pg)(n:Nat)(f:String)(fa:È):Prop :=
 ∃fd ps,FnOk pr w i.K mg base (CX1 pr w) (2*n) fa fd ps (spF i P n f)/\Binds i.K fd ps []
variable {P:O.Pg} {n:Nat} {es:List Expr} {ms:O.Es} {p:Pos}
theorem IH{k:Nat}{Cn:String}{C f:È}(hK:X.K=i.K)(hi:i.ins Cn=true)(hc:i.cl Cn C)(M:Mk i.K C f)(D:Dfm X.prog X.w X.mg X.base i P n (Cn ++ ".__init__") f)(hr:Room (2*n+1) X.A)
  (hg:Gl X<|Str.ofString Cn) (hm:X.mg (Str.ofString Cn)=some (.ref C)) (cu:(Str.ofString Cn==("__debug__" : Str))=false)
  (ha:PA X (e::es)<|tAr X i (O.wF P n) ms k) (he:Õ (e::es) X.env=(false,eval e X.env)::Õ es X.env) (hpl:(ĥ pos<|Õ es X.env).any (·.1)=false) :
  PE X (.Call (.Name (Str.ofString Cn) p) (e::es) [] pos) (tE X i (O.wF P n)<|.make Cn ms):=by
 obtain⟨fd,ps,F,hb⟩:=D;rw[<-hK]at F hb M;intro Á s σ H Q I h;obtain⟨env,G,Qm,Em,pr,w,c⟩:=h;refine E6 (E:=XK1 i H Em) M F hr hg hm hb .nil (XW.passes pr.xo) ha cu he hpl Á s σ H Q I ⟨env,G,_,Em,pr,w,fun vs G1 H1 xs k1 g1 r1 hl w1 x dx hx hd ρ=>?_⟩;have ka:Keep H1<|upd H1 dx<|.own x:=Keep.new hd;have hx2:upd H1 dx (.own x) x=none:=by rw[upd_ne fun z=>ρ z.symm];exact hx
 have kb:Keep (upd H1 dx<|.own x)<|upd (upd H1 dx<|.own x) x<|.ins C dx []:=Keep.new hx2;have g2:RH i G1<|upd H1 dx<|.own x:=K0 g1 hd;have g3:RH i (O.upd G1 x<|.ins Cn [])<|upd (upd H1 dx<|.own x) x<|.ins C dx []:=g2.put kb ⟨C,dx,[],hi,hc,upd_same,.nil⟩;have k:=ka.trans kb;refine⟨.ref x::vs,_,_,Em,.cons (.ref x) (by rw[Ĕ];exact r1.keep k),g3,w1 x<|g1.free hx,?_,fun cls d H' h=>(h.go k).go k1⟩;intro v G' H' y k' g' rv ⟨hv,hq⟩;subst hv;exact⟨rv.non_inv,c _ G' H' _ ((k1.trans k).trans k') g' (.ref x) hq⟩
variable {m:String}
theorem Ky{v:O.Val}(h:O.clsV G v m=some C):∃a fs,v=.ref a/\G a=some (.ins C fs)/\fs.lookup m=none:=by
 obtain⟨a,h1,h⟩:=æ.mp h;obtain⟨p,h2,h3⟩:=æ.mp h;have e:=W2 h2;by_cases z:(p.2.lookup m).isNone=true
 .rw[if_pos z]at h3;cases h3;exact⟨a,p.2,Xp h1,e,Option.isNone_iff_eq_none.mp z⟩
 .rw[if_neg z]at h3;cases h3
variable {ō:Pos} {pl:Sem Bool}
theorem Im{k:Nat}{Cn:String}{C f:È}(hK:X.K=i.K)(hfn:∀c,i.cl Cn c->c=C)(A:Cls i.K C)(M:Meth i.K C (Str.ofString m) f)(D:Dfm X.prog X.w X.mg X.base i P n (Cn ++ "." ++ m) f)(hr:Room (2*n) X.A)
  (ho:PE X o<|tE X i (O.wF P n) mo) (ha:PA X (e::es)<|tAr X i (O.wF P n) ms k) (he:Õ (e::es) X.env=(false,eval e X.env)::Õ es X.env) (hpl:(ĥ pos<|Õ es X.env).any (·.1)=false)
  (ht:eval (.Call (.Attribute o (Str.ofString m) ō) (e::es) [] pos) X.env=(do
    let ov<-eval o X.env
    Υ ō.atName
    let (f,first)<-Ŧ [ov] (ϑ ov (Str.ofString m) pl)
    bW pos f first (ĥ pos<|Õ (e::es) X.env) (Ÿ pos<|ņ [] X.env))) :
  PE X (.Call (.Attribute o (Str.ofString m) ō) (e::es) [] pos) (tE X i (O.wF P n)<|.meth Cn m mo ms):=by
 obtain⟨fd,ps,F,hb⟩:=D;rw[<-hK]at F hb M A;intro Á s σ H Q I h;obtain⟨env,G,Qm,Em,pr,w,c⟩:=h;refine Ff (E:=XK1 i H Em) ho A M F hr hb .nil (XW.passes pr.xo) ha he hpl ht Á s σ H Q I<|one pr w fun v G1 H1 x k1 p1 rv q=>?_;obtain⟨hq,w1⟩:=q;obtain⟨a,fs,rfl,e2,e3⟩:=Ky hq;cases rv.ref_inv;obtain⟨c',dx,cC,hi,hc,h1,rf⟩:=p1.hp a _ e2;cases hfn c' hc;refine⟨a,dx,cC,rfl,h1,rf.look.2 e3,env,G1,_,Em,p1,w1,fun vs G2 H2 xs k2 g2 r2 hl w2=>?_⟩;exact⟨.ref a::vs,G2,Qm,Em,.cons (.ref a) (by rw[Ĕ];exact r2),g2,w2,(c.go k1).go k2,fun cls d H' h=>(h.go k2).go k1⟩
theorem E5{Cn:String}{C f:È}(hK:X.K=i.K)(hfn:∀c,i.cl Cn c->c=C)(A:Cls i.K C)(M:Meth i.K C (Str.ofString m) f)(D:Dfm X.prog X.w X.mg X.base i P n (Cn ++ "." ++ m) f)(hr:Room (2*n) X.A)
  (ho:PE X o<|tE X i (O.wF P n) mo)
  (ht:eval (.Call (.Attribute o (Str.ofString m) ō) [] [] pos) X.env=(do
    let ov<-eval o X.env
    Υ ō.atName
    let (f,first)<-Ŧ [ov] (ϑ ov (Str.ofString m) pl)
    bW pos f first (ĥ pos<|Õ [] X.env) (Ÿ pos<|ņ [] X.env))) :
  PE X (.Call (.Attribute o (Str.ofString m) ō) [] [] pos) (tE X i (O.wF P n)<|.meth Cn m mo .nil):=by
 obtain⟨fd,ps,F,hb⟩:=D;rw[<-hK]at F hb M A;intro Á s σ H Q I h;obtain⟨env,G,Qm,Em,pr,w,c⟩:=h;refine B6 (E:=XK1 i H Em) ho A M F hr hb .nil (XW.passes pr.xo) ht Á s σ H Q I<|one pr w fun v G1 H1 x k1 p1 rv q=>?_;obtain⟨hq,w1⟩:=q;obtain⟨a,fs,rfl,e2,e3⟩:=Ky hq;cases rv.ref_inv;obtain⟨c',dx,cC,hi,hc,h1,rf⟩:=p1.hp a _ e2;cases hfn c' hc;refine⟨a,dx,cC,rfl,h1,rf.look.2 e3,?_⟩;exact⟨[.ref a],G1,Qm,Em,.cons (.ref a) .nil,p1.hp,w1,c.go k1,fun cls d H' h=>h.go k1⟩
theorem Ez(hK:X.K=i.K)(D:Dfo X.prog X.w X.mg X.base i P n f)(hr:Room (2*n) X.A)(hg:Gl X<|Str.ofString f)(cu:(Str.ofString f==("__debug__" : Str))=false) :
  PE X (.Call (.Name (Str.ofString f) p) [] [] pos) (tE X i (O.wF P n)<|.call f .nil):=by
 obtain⟨fa,fd,ps,F,hm,hk,hb⟩:=D;rw[<-hK]at F hk hb;intro Á s σ H Q I h;obtain⟨env,G,Qm,Em,pr,w,c⟩:=h;refine Cu (E:=XK1 i H Em) F hr hg hm hk hb .nil (XW.passes pr.xo) cu Á s σ H Q I ?_;exact⟨[],G,Qm,Em,.nil,pr.hp,w,c,fun cls d H' h=>h⟩
noncomputable def Uf(X:Cx)(i:Inf)(Φ:O.Fs):O.Es->List (TE×TE)
 |.cons k (.cons v r)=>(tE X i Φ k,tE X i Φ v)::Uf X i Φ r
 |_=>[]
noncomputable def JJ:O.Es->Bool
 |.nil=>true
 |.cons _ .nil=>false
 |.cons _ (.cons _ r)=>JJ r
noncomputable def esL:O.Es->Nat
 |.nil=>0
 |.cons _ es=>esL es+1
noncomputable def Uy:List V->List (V×V)
 |x::y::r=>(x,y)::Uy r
 |_=>[]
theorem Nh:∀(es:O.Es),JJ es=true->∀{σ:St}{H:Hp}{env:O.Env}{G:O.Hs}{Qm:List O.Val->O.Hs->Prop}{Em:O.XQ}{Q:List (V×V)->Hp->Prop},Pre X i σ H env G Em->O.wA Φ es env G Qm Em->
  (∀vs G' H' xs,Keep H H'->RH i G' H'->RVs i.K H' vs xs->xs.length=esL es->Qm vs G'->Q (Uy xs) H')->KO (Uf X i Φ es) σ H Q
 |.nil,_,σ,H,env,G,Qm,Em,Q,p,w,c=>by rw[O.q_a_nil]at w;exact c [] G H [] (Keep.refl H) p.hp .nil rfl w
 |.cons k .nil,h,_,_,_,_,_,_,_,_,_,_=>by cases h
 |.cons k (.cons v r),h,σ,H,env,G,Qm,Em,Q,p,w,c=>by rw[O.q_a_cons]at w;refine one p w fun a G1 H1 x k1 p1 ra q=>?_;rw[O.q_a_cons]at q;refine one p1 q fun b G2 H2 y k2 p2 rb q2=>?_;refine Nh r h p2 q2 fun vs G' H' xs k3 g3 rv hl hq=>?_;exact c (a::b::vs) G' H' (x::y::xs) ((k1.trans k2).trans k3) g3 (.cons ((ra.keep k2).keep k3)<|.cons (rb.keep k3) rv) (by rw[Ì,Ì,hl];rfl) hq
theorem Jr{K:Frag}{H:Hp}:∀{vs:List O.Val}{xs:List V}{kvs:List (O.Val×O.Val)},RVs K H vs xs->O.pairUp vs=some kvs->∃ps:List<|Key×V,Uy xs=ps.map (fun kv=>(kV kv.1,kv.2))/\RKs K H kvs ps/\2*ps.length=xs.length
 |_,_,_,.nil,e=>by cases e;exact⟨[],rfl,.nil,rfl⟩
 |_,_,_,.cons _ .nil,e=>by cases e
 |_,_,kvs,.cons (v:=a) (x:=x) ra (.cons (v:=b) (x:=y) rb t),e=>by
  unfold O.pairUp at e;split at e
  .rename_i hk;obtain⟨ks,e2,rfl⟩:=Ú.mp e;obtain⟨ps,h1,h2,h3⟩:=Jr t e2;obtain⟨c,hc,rfl⟩:=key_of hk ra;refine⟨(c,y)::ps,?_,.cons hc rb h2,by rw[Ì,Ì,Ì];omega⟩;show(kV c,y)::Uy _=_;rw[h1];rfl
  .cases e
theorem RKs.merge{K:Frag}{H:Hp}:∀{kvs:List (O.Val×O.Val)}{ps:List (Key×V)}{į:List (O.Val×O.Val)}{bs:List (Key×V)},RKs K H į bs->RKs K H kvs ps->RKs K H (O.putAll į kvs) (YH bs ps)
 |_,_,_,_,r,.nil=>r
 |_,_,į,bs,r,.cons (k:=k) (v:=v) (c:=c) (x:=x) (kvs:=kvs) (ps:=ps) a q t=>by show RKs K H (O.putAll (O.putK į k v) kvs) (YH (L2.putK bs c x) ps);exact RKs.merge (RKs.put a q r) t
variable {pos:Pos}
theorem IY:PE X (.Dict [] [] pos) (tE X i Φ<|.dct .nil) :=
 pe_dnewK.imp fun σ H Q ⟨env,G,Qm,Em,p,w,c⟩=>by rw[O.q_e_dct]at w;unfold O.new at w;intro a ha;have w1:=w a<|p.hp.free ha;obtain⟨a',e,w2⟩:=go_some w1;cases e;rw[O.q_a_nil]at w2;obtain⟨ks,e2,_,w3⟩:=go_some w2;cases e2;rw[O.upd_upd]at w3;have k:=Keep.new (o:=.dK []) ha;exact c _ _ _ _ k (p.hp.put (o:=.dct []) k ⟨[],upd_same,.nil⟩) (.ref a) w3
theorem L5{es:O.Es}{keys:List (Option Expr)}{Μ:List Expr}(he:JJ es=true)(h30:esL es<=30)(h:PPs X pos keys Μ<|Uf X i Φ es)(hall:keys.all (·.isSome)=true)(hl:keys.length=Μ.length)(h0:keys≠[])(h15:keys.length<=15):PE X (.Dict keys Μ pos) (tE X i Φ<|.dct es) :=
 (E4 h hall hl h0 h15).imp fun σ H Q ⟨env,G,Qm,Em,p,w,c⟩=>by
  rw[O.q_e_dct]at w;unfold O.new at w;intro a ha;have w1:=w a<|p.hp.free ha;obtain⟨a',e,w2⟩:=go_some w1;cases e;have k:=Keep.new (o:=.dK []) ha;have p2:Pre X i σ (upd H a<|.dK []) env (O.upd G a<|.dct []) Em:=p.go k<|p.hp.put (o:=.dct []) k ⟨[],upd_same,.nil⟩;refine Nh es he p2 w2 fun vs G' H' xs k2 g2 rv hl w3=>?_;obtain⟨ks,e2,e3,w4⟩:=go_some w3;obtain⟨ps,e4,r4⟩:=g2 a _ e3;cases r4;obtain⟨qs,h1,h2,h3⟩:=Jr rv e2;refine⟨e4,qs,h1,by omega,?_⟩;have k3:Keep H'<|upd H' a<|.dK<|YH [] qs:=Keep.put (fun xs e=>by rw[e4]at e;cases e) fun p u e=>by rw[e4]at e;cases e
  exact c _ _ _ _ ((k.trans k2).trans k3) (g2.put (o:=.dct<|O.putAll [] ks) k3 ⟨_,upd_same,(RKs.merge .nil h2).keep k3⟩) (.ref a) w4
end Snd
namespace L2
open PySem PySem.Spec PyProof.Rows
section
variable {X:Cx}{Á:List (È×Obj)}{σ:St}{H:Hp}{s:Å}{a:È}{o:Obj}{ps:List (Key×V)}
theorem Inv.freeze(I:Inv X Á σ H s)(e:H a=some (.dK ps))(ho:s.heap.get? a=some o):Inv X Á σ (upd H a<|.frz o<|.dK ps) s:=by have h:=I.hok a _ e;exact I.write (t':=s.toks) (x:=a) (e:=a) (h':=s.heap) (by rw[e];exact True.intro) (.inl rfl) (fun _ _ _ q=>q) ⟨o,ho⟩ ⟨ho,h⟩
theorem Inv.thaw(I:Inv X Á σ H s)(e:H a=some (.frz o<|.dK ps))(h0:∀o u,X.H₀ a≠some (.frz o u)):Inv X Á σ (upd H a<|.dK ps) s:=by
 have hn:∀b,H b=none->upd H a (.dK ps) b=none:=fun b z=>by rw[upd_ne<|by rintro rfl;rw[e]at z;cases z];exact z
 have ho:=I.hok a _ e;refine⟨I.ok,I.os,I.bare,⟨I.base.keep,I.base.slot,fun b ob q n hx=>hn b<|I.base.free b ob q n hx,I.base.there,fun b xs q=>?_,fun b ob u q=>?_,fun b qs q=>?_⟩,I.loc,I.cell,hn _ I.free,fun x c q=>hn _<|I.freeC x c q,fun p hp=>?_,fun b u q=>?_,I.len⟩
 .have z:=I.base.tups b xs q;rw[upd_ne<|by rintro rfl;rw[e]at z;cases z];exact z
 .have z:=I.base.frzs b ob u q;rw[upd_ne<|by rintro rfl;exact h0 _ _ q];exact z
 .obtain⟨m,z⟩:=I.base.tbls b qs q;exact⟨m,by rw[upd_ne<|by rintro rfl;rw[e]at z;cases z];exact z⟩
 .obtain⟨q1,q2,q3,q4,q5⟩:=I.pin p hp;exact⟨q1,hn _ q2,q3,q4,q5⟩
 .by_cases hb:b=a
  .subst hb;rw[upd_same]at q;cases q;exact ho.2
  .rw[upd_ne hb]at q;refine(I.hok b u q).stay (fun _ _ _ q=>q) (fun c z=>?_) fun c xs z=>?_
   .rw[upd_ne<|by rintro rfl;rw[e]at z;cases z];exact z
   .rw[upd_ne<|by rintro rfl;rw[e]at z;cases z];exact z
end
noncomputable def Ends.thaw(X:Cx)(D:Ends):Ends where
 nx:=fun σ H=>∃a o ps,H a=some (.frz o<|.dK ps)/\(∀o u,X.H₀ a≠some (.frz o u))/\D.nx σ (upd H a<|.dK ps)
 rt:=fun v H=>∃a o ps,H a=some (.frz o<|.dK ps)/\(∀o u,X.H₀ a≠some (.frz o u))/\D.rt v (upd H a<|.dK ps)
 bk:=D.bk
 ct:=D.ct
variable {X:Cx}
theorem ES{st:Ļ}{t:TS}(h:PS X st t):PS X st fun D σ H=>t (D.thaw X) σ H:=fun Á s σ H D I q =>
 thn (h Á s σ H _ I q) fun f s' z=>by
  cases f with
  |next =>obtain⟨Ś,H',I',a,o,ps,e,h0,q⟩:=z;exact⟨Ś,_,I'.thaw e h0,q⟩
  |ret u =>obtain⟨v,Ś,H',I',r,a,o,ps,e,h0,q⟩:=z;exact⟨v,Ś,_,I'.thaw e h0,r,q⟩
  |brk=>exact z
  |cont=>exact z
noncomputable def Iti(a:È)(o:Obj)(ps:List<|Key×V):It :=
 ⟨fun i H=>H a=some (.frz o<|.dK ps)/\i<ps.length,fun i H v H'=>∃p k x,v=.ref p/\H p=none/\ps[i]?=some (k,x)/\H'=upd H p (.tup [kV k,x]),fun i H=>H a=some (.frz o<|.dK ps)/\ps.length<=i⟩
theorem BN{k:Key}{u:Ã}(h:Jh k u=true):RelV (kV k) u:=by
 rcases Zm h with⟨i,t,rfl,rfl⟩|⟨x,t,rfl,rfl⟩
 .exact⟨t,rfl⟩
 .exact⟨t,rfl⟩
theorem KV.at:∀{ps:List (Key×V)}{vs:List (Key×Ã)}{i:Nat}{k:Key}{x:V},KV ps vs->ps[i]?=some (k,x)->∃u,vs[i]?=some (k,u)/\RelV x u:=by
 intro ps vs i k x r;unfold KV at r;induction r generalizing i with
 |nil=>intro h;simp at h
 |@cons p q ps qs h t ih =>
  intro e;cases i with
  |zero =>simp at e;subst e;obtain⟨q1,q2⟩:=q;obtain⟨h1,h2⟩:=h;have h1:k=q1:=h1;subst h1;exact⟨q2,rfl,h2⟩
  |succ i=>simpa using ih (by simpa using e)
section
variable {X:Cx}{Á:List (È×Obj)}{σ:St}{H:Hp}{s:Å}{a:È}{o:Obj}{ps:List (Key×V)}{es:Array DictEntry}{ep:Nat}
theorem XU(I:Inv X Á σ H s)(e:H a=some (.frz o<|.dK ps))(hd:o.data=.dict es ep):∃vs,KV ps vs/\s.heap.DictAt (Ze X.prog X.w) a vs ep:=by
 obtain⟨ho,_,_,vs,ŵ,o2,es2,ep2,h1,h2,h3,h4⟩:=(show ObjOk X.prog X.w H s.heap a (.frz o<|.dK ps) from I.hok a _ e)
 rw[ho]at h1;cases h1;rw[hd]at h3;cases h3;exact⟨vs,ŵ,o,es,ho,h2,hd,h4⟩
end
variable {P:à} {w:õ} {es:List Expr} {kk:Nat} {tp:Pos} {ds:Array DictEntry} {o:Obj} {ps:List (Key×V)}
theorem N1{K:Frag}{ep:Nat}(a it:È)(hd:o.data=.dict ds ep) :
  Turn P w K (.Tuple es kk tp) (Iti a o ps) [it] it (fun i h=>∃ok ov,IsItemIter h it a i ps.length ep ok ov) where
 mem:=by simp
 obj:=fun i h st b hb=>by
  obtain⟨ok,ov,h1⟩:=st;have q:b=it:=by simpa using hb
  subst q;exact⟨_,h1,fun v z=>by cases z⟩
 keep:=fun i h h' ⟨ok,ov,h1⟩ k=>⟨ok,ov,k it (by simp) _ h1⟩
 item:=by
  intro X hP hw hK hc i Á s σ H E I hf st hg;subst hP hw hK;obtain⟨e,hi⟩:=hg;obtain⟨ok,ov,h1⟩:=st;obtain⟨vs,ŵ,da⟩:=XU I e hd;have hl:ps.length=vs.length:=ŵ.length;have hx:ps[i]?=some ps[i]:=Ë hi;obtain⟨u,hu,ru⟩:=ŵ.at (k:=ps[i].1) (x:=ps[i].2) hx;rw[hl]at h1;refine wpAny_pyNext_items_item h1 da hu fun key h3 hk hout hT hsz hkeep=>?_;have hfi:=hf it (by simp);have bc:it<s.heap.objs.size:=Ñ h1;have nT:s.heap.objs.size≠it:=ł bc;have dz:=I.fpOk (H':=H) (Î s.heap.objs.size) I.fresh;refine⟨.ref s.heap.objs.size,rfl,wpAny_letOwnedTupleGo_items (s:={s with heap:=h3}) hout fun h4 he4 hs4=>?_⟩;have I4:Inv X Á σ H {s with heap:=h4,toks:=s.toks}:=I.turnedL (t':=s.toks) (ch:=[it]) (fun b ob hb q=>hs4.extBut b ob (fun z=>hb<|by simp[z])<|hkeep b ob (fun z=>hb<|by simp[z]) q) hf;have hT4:h4.get? s.heap.objs.size=some {cls:=.type "tuple",data:=.seq #[key,u]}:=hs4.extBut _ _ nT hT;obtain⟨f0,f1,f2,f3,f4,f5⟩:=dz;have I5:Inv X Á σ (upd H s.heap.objs.size<|.tup [kV ps[i].1,ps[i].2]) {s with heap:=h4,toks:=s.toks}:=I4.track f0 I.sz f1 f4 f5 ⟨by show 2<=Ø;decide,[key,u],.cons (BN hk)<|.cons ru .nil,_,hT4,rfl,_,rfl⟩;refine⟨.ref s.heap.objs.size,_,I5,rfl,⟨s.heap.objs.size,_,_,rfl,f0,hx,rfl⟩,⟨key,u,by rw[hl];exact he4⟩,fun b hb=>?_⟩;have q:b=it:=by simpa using hb
  subst q;rw[upd_ne nT.symm];exact hfi.1
 done:=by
  intro X hP hw hK hc i Á s σ H E I hf st hg;subst hP hw hK;obtain⟨e,hi⟩:=hg;obtain⟨ok,ov,h1⟩:=st;obtain⟨vs,ŵ,da⟩:=XU I e hd;have hl:ps.length=vs.length:=ŵ.length;rw[hl]at h1 hi;refine wpAny_pyNext_items_end (I.ok.hd hc) h1 da (Ŕ hi) fun h' he'=>⟨rfl,?_⟩
  exact I.turnedL (t':=s.toks) (ch:=[it]) (fun b ob hb q=>he' b ob (fun z=>hb<|by simp[z]) q) hf
 self:=fun A i s Q E st h=>by obtain⟨ok,ov,h1⟩:=st;exact PySem.W.kcp_self h1 h
noncomputable def Itk(a:È)(o:Obj)(ps:List<|Key×V):It :=
 ⟨fun i H=>H a=some (.frz o<|.dK ps)/\i<ps.length,fun i H v H'=>H'=H/\∃k x,ps[i]?=some (k,x)/\v=kV k,fun i H=>H a=some (.frz o<|.dK ps)/\ps.length<=i⟩
variable {tg:Expr}
theorem Ar{K:Frag}{ep:Nat}(a it:È)(hd:o.data=.dict ds ep) :
  Turn P w K tg (Itk a o ps) [it] it (fun i h=>h.IsKeyIter it a i ps.length ep) where
 mem:=by simp
 obj:=fun i h st b hb=>by
  obtain⟨ob,h1,_,h2⟩:=st;have q:b=it:=by simpa using hb
  subst q;exact⟨ob,h1,fun v z=>by rw[h2]at z;cases z⟩
 keep:=fun i h h' st k=>st.at fun o e=>k it (by simp) o e
 item:=by intro X hP hw hK hc i Á s σ H E I hf st hg;subst hP hw hK;obtain⟨e,hi⟩:=hg;obtain⟨vs,ŵ,da⟩:=XU I e hd;have hl:ps.length=vs.length:=ŵ.length;have hx:ps[i]?=some ps[i]:=Ë hi;obtain⟨u,hu,ru⟩:=ŵ.at (k:=ps[i].1) (x:=ps[i].2) hx;rw[hl]at st;refine wpAny_pyNext_dict_item st da hu fun key h3 hk st3 hs=>?_;have I3:Inv X Á σ H {s with heap:=h3,toks:=s.toks}:=I.turnedL (t':=s.toks) (ch:=[it]) (fun b ob hb q=>hs.extBut b ob (fun z=>hb<|by simp[z]) q) hf;obtain⟨ob,ho,aF,hda⟩:=id st3;refine⟨key,rfl,go_of (s:={s with heap:=h3,toks:=s.toks}) ho aF hda (by decide) ⟨kV ps[i].1,H,I3,BN hk,⟨rfl,_,_,hx,rfl⟩,?_,fun b hb=>(hf b hb).1⟩⟩;show h3.IsKeyIter it a (i+1) ps.length ep;rw[hl];exact st3
 done:=by
  intro X hP hw hK hc i Á s σ H E I hf st hg;subst hP hw hK;obtain⟨e,hi⟩:=hg;obtain⟨vs,ŵ,da⟩:=XU I e hd;have hl:ps.length=vs.length:=ŵ.length;rw[hl]at st hi;refine wpAny_pyNext_dict_end (I.ok.hd hc) st da (Ŕ hi) fun h' he'=>⟨rfl,?_⟩
  exact I.turnedL (t':=s.toks) (ch:=[it]) (fun b ob hb q=>he' b ob (fun z=>hb<|by simp[z]) q) hf
 self:=fun A i s Q E st h=>wpAny_pyIter_keyiter st h
noncomputable def Ii(X:Cx)(J:È->Obj->List (Key×V)->It)(td:TE):TI:=fun σ H R=>td σ H fun x H1=>∃a ps,x=.ref a/\H1 a=some (.dK ps)/\∀o,(∀o u,X.H₀ a≠some (.frz o u))->R (J a o ps) (upd H1 a<|.frz o<|.dK ps)
variable {d:Expr} {td:TE}
theorem B9{ō Ť:Pos}(hd:PE X d td)(av:ħ d "items" X.env (eval d X.env)=eval d X.env)(aw:(ō.endLine==Ť.line)=true) :
  PI X (.Tuple es kk tp) (.Call (.Attribute d "items" ō) [] [] Ť) (Ii X Iti td):=by
 intro Á s σ H R I h;refine wpAny_Call_method0_late av aw<|thn (hd Á s σ H _ I h) fun v s1 ⟨x,H1,I1,r1,a,ps,ex,ea,q1⟩=>?_;subst ex;obtain rfl:v=Value.ref a:=r1;obtain⟨t1,t2,t3⟩:=IA I1<|.inl ⟨ps,.inl ea⟩;refine⟨"dict","dict.items",PySem.F.plainAttrs_dict,PySem.F.slot_dict_items,PySem.F.type_dict_items,t1,t2,Calls.callWith_builtin rfl<|PySem.evalArgs_none ?_⟩;obtain⟨z,hsm,vs,ŵ,dd⟩:=Kt I1.hok ea;refine dM PySem.F.slot_dict_items dd.typeIs PySem.F.entry_dict_items (PySem.F.args_dict_items_1 _) (meets_dict_items (Ze X.prog X.w) a hsm) ⟨⟨vs,dd⟩,?_⟩;have I2:Inv X Á σ H1 {s1 with heap:=s1.heap.push {cls:=.type "dict_items",data:=.fields #[.ref a]}}:=I1.kept (t':=s1.toks) fun b o e=>Ä _ e;obtain⟨z2,hsm2,vs2,rel2,cH⟩:=Kt I2.hok ea;obtain⟨ep,da⟩:=cH.dictAt;refine wpAny_pyIter_items (s:={s1 with heap:=s1.heap.push {cls:=.type "dict_items",data:=.fields #[.ref a]}}) (d:=a) ⟨_,Ï _ rfl,rfl,rfl⟩ da ?_;have I3:=I2.kept (t':=s1.toks) (h':=(s1.heap.push {cls:=.type "dict_items",data:=.fields #[.ref a]}).push {cls:=.type "dict_itemiterator",data:=.fields #[.none,.bool false,.ref a,.int 0 0,.int vs2.length 0,.int ep 0,.none,.none]}) fun b o e=>Ä _ e;obtain⟨ob,ds,ho,_,hdat,_⟩:=da;have I4:=I3.freeze ea<|Ä _ ho;refine⟨_,[_],_,_,_,rfl,I4,N1 a _ hdat,⟨.none,.none,?_⟩,fun b hb=>?_,q1 ob fun o u z=>by have:=I1.base.frzs a o u z;rw[ea]at this;cases this⟩
 .rw[rel2.length];exact Ï _ rfl
 .have e:b=(s1.heap.push {cls:=.type "dict_items",data:=.fields #[.ref a]}).objs.size:=by simpa using hb
  subst e;have hn:=I2.hok.fresh<|Î (s1.heap.push {cls:=.type "dict_items",data:=.fields #[.ref a]}).objs.size;exact I2.fpOk (Î _) (by rw[upd_ne<|by intro z;rw[z]at hn;rw[ea]at hn;cases hn];exact hn)
theorem Ey(hd:PE X d td):PI X tg d<|Ii X Itk td:=by
 intro Á s σ H R I h;refine thn (hd Á s σ H _ I h) fun v s1 ⟨x,H1,I1,r1,a,ps,ex,ea,q1⟩=>?_;subst ex;obtain rfl:v=Value.ref a:=r1;obtain⟨z,hsm,vs,ŵ,dd⟩:=Kt I1.hok ea;obtain⟨ep,da⟩:=dd.dictAt;refine wpAny_pyIter_dict hsm da ?_;have I2:=I1.kept (t':=s1.toks) (h':=s1.heap.push {cls:=.type "dict_keyiterator",data:=.fields #[.ref a,.int 0 0,.int vs.length 0,.int ep 0]}) fun b o e=>Ä _ e;obtain⟨ob,ds,ho,_,hdat,_⟩:=da;have I3:=I2.freeze ea<|Ä _ ho;refine⟨_,[_],_,_,_,rfl,I3,Ar a _ hdat,⟨_,Ï _ rfl,rfl,by rw[ŵ.length];rfl⟩,fun b hb=>?_,q1 ob fun o u z=>by have:=I1.base.frzs a o u z;rw[ea]at this;cases this⟩;have e:b=s1.heap.objs.size:=by simpa using hb
 subst e;have hn:=I1.hok.fresh<|Î s1.heap.objs.size;exact I1.fpOk (Î _) (by rw[upd_ne<|by intro z;rw[z]at hn;rw[ea]at hn;cases hn];exact hn)
def TupsH(I S:È)(items:Array Ã)(val:Nat->List Int)(h:ā):Prop:=∀i v,items[i]?=some v->∃a î,v=.ref a/\a≠I/\a≠S/\aa h a î/\û î.toList (val i)
theorem TupsH.keep{I S:È}{items:Array Ã}{val:Nat->List Int}{h h':ā}(t:TupsH I S items val h)(k:∀b o,b≠I->b≠S->h.get? b=some o->h'.get? b=some o):TupsH I S items val h':=fun i v e=>by obtain⟨a,î,h1,h2,h3,⟨o,q1,q2⟩,h5⟩:=t i v e;exact⟨a,î,h1,h2,h3,⟨o,k a o h2 h3 q1,q2⟩,h5⟩
noncomputable def btL(val:Nat->List Int)(i j:Nat):Bool:=HT.lexLt (val i)<|val j
section
variable {prog:à}{w:õ}{A:Ă}{R:aU->Å->Prop}{I l:È}{items:Array Ã}{val:Nat->List Int}{kw:List (Str×Ã)}{fp:List È}{St:Nat->ā->Prop}
theorem AE(W:Walks prog w A.in1 I fp [I] items.size (fun i v=>items[i]?=some v) St)(hu:A.units+1<Ğ)(S:È)(dA:S≠I)(hSf:S∉fp) :
  ∀(k j:Nat) (s:Å) (vb:Ã) (c:Nat),items.size - (j+1)=k->j+1<=items.size->St (j+1) s.heap->TupsH I S items val s.heap->items[Ģ (btL val) j]?=some vb->
  s.heap.get? S=some {cls:=.type "list",dict:=none,data:=.seq #[vb,vb] c,slots:=#[]}->
  (∀v h' tk,items[Ģ (btL val)<|items.size - 1]?=some v->(∀b o,b≠I->b≠S->s.heap.get? b=some o->h'.get? b=some o)->R (.ok<|.ret v) {s with heap:=h',toks:=tk})->
  codeAny (Û prog w) A (.builtin "min.loop" ⟨[.ref I,.none,.ref S],kw⟩) R s:=by
 have ϸ:(toString "min" ++ toString ".loop" : String) = "min.loop":=by decide
 have hSw:S∉[I]:=by simp[dA]
 intro k;induction k with
 |zero =>
  intro j s vb c hk hj Γ hT hPb hS hR;have hin:j+1=items.size:=by omega
  refine ĭ PySem.F.entry_min_loop ?_;rw[Đ PySem.F.plain_min_loop _];show wpAny _ A.in1 (ϓ (.ref S) >>= _) _ _ s;refine À<|ľ hS rfl ?_;show wpAny _ A.in1 (tryCatch (Ŷ<|.ref I) _ >>= _) _ _ s;refine À<|Ι<|W.done s _ _ (hin▸Γ) fun h' tk bp=>?_;have hS':=bp S _ hSw hS;show wpAny _ A.in1 (dj S (fun _=>#[]) >>= _) _ _ _;refine À ?_;refine ω hS' rfl<|À<|bj<|Æ ?_;refine hR vb _ tk (by rw[<-hin];exact hPb) fun b o hbw dB e=>(ï _ _<|Ne.symm dB).trans (bp b o (by simpa using hbw) e)
 |succ k ih =>
  intro j s vb c hk hj Γ hT hPb hS hR;have Ν:j+1<items.size:=by omega
  refine ĭ PySem.F.entry_min_loop ?_;rw[Đ PySem.F.plain_min_loop _];show wpAny _ A.in1 (ϓ (.ref S) >>= _) _ _ s;refine À<|ľ hS rfl ?_;show wpAny _ A.in1 (tryCatch (Ŷ<|.ref I) _ >>= _) _ _ s;refine À<|Ι<|W.item (j+1) s _ _ Ν Γ fun v h' tk hP hst' bp=>?_;have hS':=bp S _ hSw hS;have dC:TupsH I S items val h':=hT.keep fun b o h1 _ e=>bp b o (by simpa using h1) e;have hP:items[j+1]?=some v:=hP;obtain⟨a,î,rfl,_,_,pa,ia⟩:=dC _ _ hP;obtain⟨b0,ϖ,rfl,_,_,pb,ib⟩:=dC _ _ hPb;show wpAny _ A.in1 (tryCatch (Ŧ [.ref a,.ref a]<|è .Lt (.ref a) (.ref b0) >>= _) _ >>= _) _ _ _;refine À<|Ι<|Ĝ<|À<|HT.lt_tupInts pa pb ia ib hu ?_;refine À<|Ĝ<|đ ?_;refine À<|bj<|Æ ?_;cases hb:HT.lexLt (val<|j+1) (val<|Ģ (btL val) j)with
  |true =>
   have aZ:btL val (j+1) (Ģ (btL val) j)=true:=hb;simp only[if_true];refine À ?_;refine ω hS' rfl<|À<|bj ?_;rw[ϸ];refine Æ ⟨ĺ PySem.F.plain_min_loop _,ih (j+1) _ (.ref a) _ (by omega) Ν (W.frame _ _ _ hst' fun b hbf o e=>?_) (dC.keep fun b o _ h2 e=>(ï _ _<|Ne.symm h2).trans e) (by simp only[Ģ,aZ,if_true];exact hP) (Ď _ hS' rfl)
     fun v' h'' tk'' hP' hk''=>?_⟩
   .exact(ï _ _ fun h:S=b=>hSf<|by rw[h];exact hbf).trans e
   .exact hR v' h'' tk'' hP' fun b o hbw dB e=>hk'' b o hbw dB ((ï _ _<|Ne.symm dB).trans<|bp b o (by simpa using hbw) e)
  |false =>have aZ:btL val (j+1) (Ģ (btL val) j)=false:=hb;simp only[ċ,if_false];refine À<|bj ?_;rw[ϸ];refine Æ ⟨ĺ PySem.F.plain_min_loop _,ih (j+1) _ (.ref b0) c (by omega) Ν hst' dC (by simp only[Ģ,aZ,ċ,if_false];exact hPb) hS' fun v' h'' tk'' hP' hk''=>?_⟩;exact hR v' h'' tk'' hP' fun b o hbw dB e=>hk'' b o hbw dB (bp b o (by simpa using hbw) e)
variable {s:Å} {c:Nat}
theorem JK(W:Walks prog w A.in1 I fp [I] items.size (fun i v=>items[i]?=some v) St)(hu:A.units+1<Ğ)(S:È)(dA:S≠I)(hSf:S∉fp)(hn:0<items.size)(Γ:St 0 s.heap)(hT:TupsH I S items val s.heap)
  (hS:s.heap.get? S=some {cls:=.type "list",dict:=none,data:=.seq #[] c,slots:=#[]})
  (hR:∀v h' tk,items[Ģ (btL val)<|items.size - 1]?=some v->(∀b o,b≠I->b≠S->s.heap.get? b=some o->h'.get? b=some o)->R (.ok<|.ret v) {s with heap:=h',toks:=tk}) :
  codeAny (Û prog w) A (.builtin "min.loop" ⟨[.ref I,.none,.ref S],kw⟩) R s:=by
 have ϸ:(toString "min" ++ toString ".loop" : String) = "min.loop":=by decide
 have hSw:S∉[I]:=by simp[dA]
 refine ĭ PySem.F.entry_min_loop ?_;rw[Đ PySem.F.plain_min_loop _];show wpAny _ A.in1 (ϓ (.ref S) >>= _) _ _ s;refine À<|ľ hS rfl ?_;show wpAny _ A.in1 (tryCatch (Ŷ<|.ref I) _ >>= _) _ _ s;refine À<|Ι<|W.item 0 s _ _ hn Γ fun v h' tk hP hst' bp=>?_;have hS':=bp S _ hSw hS;have dC:TupsH I S items val h':=hT.keep fun b o h1 _ e=>bp b o (by simpa using h1) e;show wpAny _ A.in1 (dj S (fun _=>#[v,v]) >>= _) _ _ _;refine À ?_;refine ω hS' rfl ?_;rw[ϸ];refine Æ ⟨ĺ PySem.F.plain_min_loop _,AE W hu S dA hSf _ 0 _ v _ rfl hn (W.frame _ _ _ hst' fun b hbf o e=>?_) (dC.keep fun b o _ h2 e=>(ï _ _<|Ne.symm h2).trans e) hP (Ď _ hS' rfl) fun v' h'' tk'' hP' hk''=>?_⟩
 .exact(ï _ _ fun h:S=b=>hSf<|by rw[h];exact hbf).trans e
 .exact hR v' h'' tk'' hP' fun b o hbw dB e=>hk'' b o hbw dB ((ï _ _<|Ne.symm dB).trans<|bp b o (by simpa using hbw) e)
theorem U4(hh:A.handled=none)(hlI:l≠I)(S:È)(dA:S≠I)(hn:items.size=0){nm:Str}{d:Ã}(Γ:s.heap.IsListIter I l 0/\s.heap.IsList l items)
  (hS:s.heap.get? S=some {cls:=.type "list",dict:=none,data:=.seq #[] c,slots:=#[]})
  (hR:∀h' tk,(∀b o,b≠I->s.heap.get? b=some o->h'.get? b=some o)->R (.ok<|.ret d) {s with heap:=h',toks:=tk}) :
  codeAny (Û prog w) A (.builtin "min.loop" ⟨[.ref I,.none,.ref S],[(nm,d)]⟩) R s:=by
 have W:=Walks.list (prog:=prog) (w:=w) (A:=A.in1) hh I l hlI items;refine ĭ PySem.F.entry_min_loop ?_;rw[Đ PySem.F.plain_min_loop _];show wpAny _ A.in1 (ϓ (.ref S) >>= _) _ _ s;refine À<|ľ hS rfl ?_;show wpAny _ A.in1 (tryCatch (Ŷ<|.ref I) _ >>= _) _ _ s;refine À (Ι<|W.done s _ _ (by rw[hn];exact Γ) fun h' tk bp=>?_);show wpAny _ A.in1 (rule _ >>= fun _=>ret d) _ _ _;exact À (Η<|Æ<|hR h' tk fun b o hb e=>bp b o (by simpa using hb) e)
end
theorem U2(a:Ã):ϭ "min" ⟨[a],[(Str.ofString "default",.none)]⟩:=by unfold ϭ;kernel_rfl
theorem Jo(bt:Nat->Nat->Bool):∀k,Ģ bt k<=k
 |0=>Î _
 |k+1=>by
  unfold Ģ;split
  .exact Î _
  .exact Nat.le_succ_of_le<|Jo bt k
theorem XF:∀{xs:List V}{us:List Ã}{i:Nat}{u:Ã},Vals xs us->us[i]?=some u->∃x,xs[i]?=some x/\RelV x u
 |_,_,_,_,.nil,e=>by simp at e
 |_,_,0,_,.cons r _,e=>by simp at e;subst e;exact⟨_,rfl,r⟩
 |_,_,i+1,_,.cons _ t,e=>by obtain⟨x,h1,h2⟩:=XF (i:=i) t (by simpa using e);exact⟨x,by simpa using h1,h2⟩
section
variable {X:Cx}
variable {Á:List (È×Obj)} {s:Å} {σ:St} {H:Hp} {a:È} {xs:List V} {ă:List (List Int)} {Q:VK}
theorem Ao(hc:X.calm=true)(hu:X.A.units+1<Ğ)(I:Inv X Á σ H s)(hl:SqL X.K H a xs)(hr:ă.length=xs.length)
  (ht:∀i,i<ă.length->∃p,xs[i]?=some (.ref p)/\SqT X.K H p ((ă.getD i []).map V.int))
  (q0:xs=[]->Q .non H) (q1:xs≠[]->∀x,xs[Ģ (btL fun i=>ă.getD i [])<|xs.length - 1]?=some x->Q x H) :
  wpAny (Û X.prog X.w) X.A (call (.builtin "min") [.ref a] [(Str.ofString "default",.none)]) (EP X Á σ Q) X.xe s:=by
 have ϸ:(toString "min" ++ toString ".loop" : String) = "min.loop":=by decide
 obtain⟨î,rv,pl,hz⟩:=I.list hl;have hlen:=rv.length;have bd:=pl.isList;obtain⟨ol,hol,_⟩:=id bd;have hll:a<s.heap.objs.size:=Ñ hol;refine PyProof.Rows.kmk_tree PySem.F.kind_min PySem.F.plain_min PySem.F.entry_min (U2 _) ?_;show wpAny _ X.A.in1 (Builtin.Builtins.bindParams "min" ["key","default"] 0 ⟨[],[(Str.ofString "default",.none)]⟩ >>= _) _ _ s;refine À (Ψ (show Builtin.Builtins.bindParams "min" ["key","default"] 0 ⟨[],[(Str.ofString "default",.none)]⟩=pure [none,some .none] from rfl) ?_);refine À<|Æ ?_;refine À<|Ź bd ?_;refine À<|ah ?_<|Ĳ _;rw[ϸ];have hS:(s.heap.push {cls:=.type "list_iterator",data:=.fields #[.ref a,.int 0 0]}).objs.size=s.heap.objs.size+1:=ce ..;have hlI:a≠s.heap.objs.size:=Þ hll;have dA:(s.heap.push {cls:=.type "list_iterator",data:=.fields #[.ref a,.int 0 0]}).objs.size≠s.heap.objs.size:=by rw[hS];exact ł<|Ė _
 have hSl:(s.heap.push {cls:=.type "list_iterator",data:=.fields #[.ref a,.int 0 0]}).objs.size≠a:=by rw[hS];exact ł<|ď hll
 have kk:∀b o,s.heap.get? b=some o->((s.heap.push {cls:=.type "list_iterator",data:=.fields #[.ref a,.int 0 0]}).push<|ţ "list" #[] 0).get? b=some o:=fun b o e=>Ä _<|Ä _ e;have gI:((s.heap.push {cls:=.type "list_iterator",data:=.fields #[.ref a,.int 0 0]}).push<|ţ "list" #[] 0).get? s.heap.objs.size=some {cls:=.type "list_iterator",data:=.fields #[.ref a,.int 0 0]} :=
  Ä _ (Ï _ rfl)
 have gS:((s.heap.push {cls:=.type "list_iterator",data:=.fields #[.ref a,.int 0 0]}).push<|ţ "list" #[] 0).get? (s.heap.push {cls:=.type "list_iterator",data:=.fields #[.ref a,.int 0 0]}).objs.size=some (ţ "list" #[] 0):=Ï _ rfl;have ϗ:∀b o,s.heap.get? b=some o->b≠s.heap.objs.size/\b≠(s.heap.push {cls:=.type "list_iterator",data:=.fields #[.ref a,.int 0 0]}).objs.size:=fun b o e=>by have:=Ñ e;rw[hS];exact⟨Þ this,Þ<|ď this⟩
 have Γ:Heap.IsListIter ((s.heap.push {cls:=.type "list_iterator",data:=.fields #[.ref a,.int 0 0]}).push<|ţ "list" #[] 0) s.heap.objs.size a 0/\Heap.IsList ((s.heap.push {cls:=.type "list_iterator",data:=.fields #[.ref a,.int 0 0]}).push<|ţ "list" #[] 0) a î.toArray:=by refine⟨⟨_,gI,rfl,rfl⟩,?_⟩;obtain⟨o,e,r⟩:=bd;exact⟨o,kk _ _ e,r⟩
 refine Æ ⟨ĺ PySem.F.plain_min_loop _,?_⟩;by_cases h0:xs=[]
 .have hi:î.toArray.size=0:=by rw[É,<-hlen,h0];rfl
  refine U4 (I:=s.heap.objs.size) (A:=X.A) (l:=a) (items:=î.toArray) (I.ok.hd hc) hlI _ dA hi Γ gS fun h' tk hk=>?_;exact⟨.non,H,I.kept (t':=tk) fun b o e=>hk b o (ϗ b o e).1<|kk b o e,rfl,q0 h0⟩
 .have hi:0<î.toArray.size:=by
   rw[É,<-hlen];exact δ.mpr h0
  refine JK (A:=X.A) (items:=î.toArray) (val:=fun i=>ă.getD i []) (Walks.list (A:=X.A.in1) (I.ok.hd hc) s.heap.objs.size a hlI î.toArray) hu _ dA (fun z=>(Ç.mp z).elim dA fun z=>hSl<|á.mp z) hi Γ (fun i v e=>?_) gS fun v h' tk hv hk=>?_
  .have e:î[i]?=some v:=by simpa using e
   have hi':i<ă.length:=by rw[hr,hlen];exact(Í.mp e).1
   obtain⟨p,bE,cB⟩:=ht i hi';obtain⟨x,hx,rx⟩:=XF rv e;rw[bE]at hx;cases hx;obtain rfl:v=Value.ref p:=rx;obtain⟨tt,r2,⟨o2,e2,rest⟩,_⟩:=I.tuple cB;exact⟨p,tt.toArray,rfl,(ϗ p o2 e2).1,(ϗ p o2 e2).2,⟨o2,kk _ _ e2,rest⟩,Zv r2⟩
  .have hv:î[Ģ (btL fun i=>ă.getD i [])<|xs.length - 1]?=some v:=by rw[hlen];simpa using hv
   obtain⟨x,hx,rx⟩:=XF rv hv;exact⟨x,H,I.kept (t':=tk) fun b o e=>hk b o (ϗ b o e).1 (ϗ b o e).2<|kk b o e,rx,q1 h0 x hx⟩
theorem OA(hc:X.calm=true)(hu:X.A.units+1<Ğ)(I:Inv X Á σ H s)(hl:SqL X.K H a xs)(hr:ă.length=xs.length)
  (ht:∀i,i<ă.length->∃p,xs[i]?=some (.ref p)/\SqT X.K H p ((ă.getD i []).map V.int))
  (h0:xs≠[]) (q1:∀x,xs[Ģ (btL fun i=>ă.getD i [])<|xs.length - 1]?=some x->Q x H) :
  wpAny (Û X.prog X.w) X.A (call (.builtin "min") [.ref a]) (EP X Á σ Q) X.xe s:=by
 have ϸ:(toString "min" ++ toString ".loop" : String) = "min.loop":=by decide
 obtain⟨î,rv,pl,hz⟩:=I.list hl;have hlen:=rv.length;have bd:=pl.isList;obtain⟨ol,hol,_⟩:=id bd;have hll:a<s.heap.objs.size:=Ñ hol;refine call_function_tree PySem.F.kind_min PySem.F.plain_min PySem.F.entry_min (PySem.F.args_min1 _) ?_;show wpAny _ X.A.in1 (Builtin.Builtins.bindParams "min" ["key","default"] 0 ⟨[],[]⟩ >>= _) _ _ s;refine À (Ψ (show Builtin.Builtins.bindParams "min" ["key","default"] 0 ⟨[],[]⟩=pure [none,none] from rfl) ?_);refine À<|Æ ?_;refine À<|Ź bd ?_;refine À<|ah ?_<|Ĳ _;rw[ϸ];have hS:(s.heap.push {cls:=.type "list_iterator",data:=.fields #[.ref a,.int 0 0]}).objs.size=s.heap.objs.size+1:=ce ..;have hlI:a≠s.heap.objs.size:=Þ hll;have dA:(s.heap.push {cls:=.type "list_iterator",data:=.fields #[.ref a,.int 0 0]}).objs.size≠s.heap.objs.size:=by rw[hS];exact ł<|Ė _
 have hSl:(s.heap.push {cls:=.type "list_iterator",data:=.fields #[.ref a,.int 0 0]}).objs.size≠a:=by rw[hS];exact ł<|ď hll
 have kk:∀b o,s.heap.get? b=some o->((s.heap.push {cls:=.type "list_iterator",data:=.fields #[.ref a,.int 0 0]}).push<|ţ "list" #[] 0).get? b=some o:=fun b o e=>Ä _<|Ä _ e;have gI:((s.heap.push {cls:=.type "list_iterator",data:=.fields #[.ref a,.int 0 0]}).push<|ţ "list" #[] 0).get? s.heap.objs.size=some {cls:=.type "list_iterator",data:=.fields #[.ref a,.int 0 0]} :=
  Ä _ (Ï _ rfl)
 have gS:((s.heap.push {cls:=.type "list_iterator",data:=.fields #[.ref a,.int 0 0]}).push<|ţ "list" #[] 0).get? (s.heap.push {cls:=.type "list_iterator",data:=.fields #[.ref a,.int 0 0]}).objs.size=some (ţ "list" #[] 0):=Ï _ rfl;have ϗ:∀b o,s.heap.get? b=some o->b≠s.heap.objs.size/\b≠(s.heap.push {cls:=.type "list_iterator",data:=.fields #[.ref a,.int 0 0]}).objs.size:=fun b o e=>by have:=Ñ e;rw[hS];exact⟨Þ this,Þ<|ď this⟩
 have Γ:Heap.IsListIter ((s.heap.push {cls:=.type "list_iterator",data:=.fields #[.ref a,.int 0 0]}).push<|ţ "list" #[] 0) s.heap.objs.size a 0/\Heap.IsList ((s.heap.push {cls:=.type "list_iterator",data:=.fields #[.ref a,.int 0 0]}).push<|ţ "list" #[] 0) a î.toArray:=by refine⟨⟨_,gI,rfl,rfl⟩,?_⟩;obtain⟨o,e,r⟩:=bd;exact⟨o,kk _ _ e,r⟩
 refine Æ ⟨ĺ PySem.F.plain_min_loop _,?_⟩;have hi:0<î.toArray.size:=by rw[É,<-hlen];exact δ.mpr h0
 refine JK (A:=X.A) (items:=î.toArray) (val:=fun i=>ă.getD i []) (Walks.list (A:=X.A.in1) (I.ok.hd hc) s.heap.objs.size a hlI î.toArray) hu _ dA (fun z=>(Ç.mp z).elim dA fun z=>hSl<|á.mp z) hi Γ (fun i v e=>?_) gS fun v h' tk hv hk=>?_
 .have e:î[i]?=some v:=by simpa using e
  have hi':i<ă.length:=by rw[hr,hlen];exact(Í.mp e).1
  obtain⟨p,bE,cB⟩:=ht i hi';obtain⟨x,hx,rx⟩:=XF rv e;rw[bE]at hx;cases hx;obtain rfl:v=Value.ref p:=rx;obtain⟨tt,r2,⟨o2,e2,rest⟩,_⟩:=I.tuple cB;exact⟨p,tt.toArray,rfl,(ϗ p o2 e2).1,(ϗ p o2 e2).2,⟨o2,kk _ _ e2,rest⟩,Zv r2⟩
 .have hv:î[Ģ (btL fun i=>ă.getD i [])<|xs.length - 1]?=some v:=by rw[hlen];simpa using hv
  obtain⟨x,hx,rx⟩:=XF rv hv;exact⟨x,H,I.kept (t':=tk) fun b o e=>hk b o (ϗ b o e).1 (ϗ b o e).2<|kk b o e,rx,q1 x hx⟩
noncomputable def Qw(K:Frag)(ta:TA):TE:=fun σ H Q=>ta σ H fun vs H1=>∃a xs,∃ă:List<|List Int,vs=[.ref a]/\SqL K H1 a xs/\ă.length=xs.length/\
 (∀i,i<ă.length->∃p,xs[i]?=some (.ref p)/\SqT K H1 p ((ă.getD i []).map V.int))/\(xs=[]->Q .non H1)/\(xs≠[]->∀x,xs[Ģ (btL fun i=>ă.getD i [])<|xs.length - 1]?=some x->Q x H1)
theorem E0{e:Expr}{ta:TA}{p pos kp kpos:Pos}{kk:Nat}(hc:X.calm=true)(hu:X.A.units+1<Ğ)(hg:Gl X "min")(hm:X.mg "min" = none)(ha:PA X [e] ta)(hs:Õ [e] X.env=[(false,eval e X.env)]) :
  PE X (.Call (.Name "min" p) [e] [⟨some "default",.Constant .none kk kp,kpos⟩] pos) (Qw X.K ta):=by
 intro Á s σ H Q I h;refine ĳ (Yt (u:=.builtin "min") I hg hm (by kernel_rfl) ?_);refine PyProof.Rows.callWith_kw (e:=e) (rest:=[]) ?_ (by rw[hs];rfl) (by rw[hs];rfl) rfl rfl;refine thn (ha pos Á s σ H _ I h) fun us s1 ⟨vs,H1,I1,r1,a,xs,ă,ev,hl,hr,ht,q0,q1⟩=>?_;subst ev;obtain⟨u,rfl,ru⟩:=ZK r1;cases ru;refine PyProof.Rows.kws_cons<|thn (CF Á s1 σ H1 (fun v H2=>v=.non/\H2=H1) I1 ⟨rfl,rfl⟩) fun v s2 ⟨x,H2,I2,r2,e1,e2⟩=>PyProof.Rows.kws_nil ?_;subst e1 e2;obtain rfl:v=Value.none:=r2;exact Ao hc hu I2 hl hr ht q0 q1
theorem XI{P:à}{w:õ}:∀{ns:List Int}{vs:List (Key×Ã)}{į:List Ã},vs.map (·.1)=ns.map Sum.inl->į.length=vs.length->(∀(j:Nat) (v:Ã),į[j]?=some v->∃(k:Key) (x:Ã),vs[j]?=some (k,x)/\(Ze P w).is k v=true)->û į ns
 |[],[],[],_,_,_=>.nil
 |[],_::_,_,h,_,_=>by cases h
 |_::_,[],_,h,_,_=>by cases h
 |[],[],_::_,_,h,_=>by cases h
 |_::_,_::_,[],_,h,_=>by cases h
 |n::ns,p::vs,u::į,h1,h2,h3=>by rw[Ð,Ð]at h1;injection h1 with h1 h1';obtain⟨k,x,e1,e2⟩:=h3 0 u rfl;simp at e1;subst e1;have h1:k=Sum.inl n:=h1;subst h1;obtain⟨t,rfl⟩:∃t,u=Value.int n t:=BN (k:=Sum.inl n) (u:=u) e2;exact .cons n t (XI (P:=P) (w:=w) h1' (by simpa using h2) fun j v e=>by simpa using h3 (j+1) v (by simpa using e))
theorem MC(hc:X.calm=true):CallR X (.builtin "sorted") (fun xs H Q=>∃p kvs,∃ns:List Int,xs=[.ref p]/\Rd H p (.dK kvs)/\kvs.map (·.1)=ns.map Sum.inl/\ns.length<64/\∀l,H l=none->Q (.ref l) (upd H l<|.lst<|(sortI ns).map V.int)):=by
 intro Á s σ H xs us Q I r h;obtain⟨p,kvs,ns,rfl,hp,hk,h64,q⟩:=h;obtain⟨u,rfl,rx⟩:=ZK r;cases rx;obtain⟨z,hsm,vs,ŵ,dd⟩:=XR I.hok hp;obtain⟨ep,da⟩:=dd.dictAt;have hlen:vs.length=ns.length:=by have:=congrArg List.length hk;simpa[ŵ.length]using this
 refine Calls.call_function_entry kind_sorted plain_sorted entry_sorted (args_sorted1 _) ?_;unfold Builtin.«sorted»;refine À (m:=checkCount "sorted" 1 1 _)<|Æ ?_;refine À (PySem.W.kdu_collect (A:=X.A.in1) (PySem.W.kdl_dict (knd:=Ze X.prog X.w) (kvs:=vs) (ep:=ep) hsm) (I.ok.hd hc) da (by rw[<-ŵ.length];exact z) fun h' tk į hkeep hacc=>?_);have hl:į.toList.length=vs.length:=by rw[ç];exact hacc.1
 refine À (ah ?_<|by rw[hl,<-ŵ.length];exact z);have hI:û į.toList ns:=XI (P:=X.prog) (w:=X.w) (by rw[<-ŵ.keys];exact hk) hl fun j v e=>hacc.2 j v (by rw[<-Ą];exact e);have hoL:(h'.push<|ţ "list" į.toList.toArray 0).get? h'.objs.size=some (ţ "list" į.toList.toArray 0):=Ï _ rfl;have I1:Inv X Á σ H {s with heap:=h',toks:=tk}:=I.kept hkeep;refine À (Ĝ<|ĉ slot_list_sort ⟨_,hoL,rfl⟩ entry_list_sort (list_sort_tree hoL hI (by rw[hl,hlen];exact h64) fun out bO a1 a2 a3=>⟨_,rfl,?_⟩)<|args_list_sort _);have e:=Yq a2 a3;subst e;obtain⟨n,he⟩:=sortedHeap_at (out:=out) hoL;refine Æ ⟨_,rfl,.ref h'.objs.size,_,I1.laid (a:=h'.objs.size) (o:=.lst<|(sortI ns).map V.int) (t':=tk) (fun b o e=>?_) (Î _) ?_,rfl,q _<|I1.hok.fresh<|Î _⟩
 .have e:h'.get? b=some o:=e;have hb:=Ñ e;rw[sortedHeap_old (Þ hb)<|by rw[ce];exact ď hb];exact Ä _ e
 .exact⟨by rw[Â,Ys];unfold Ø;omega,out.toList,n,Yy a1,by simpa[ţ]using he⟩
end
end L2
namespace Srt
open PySem.W PyProof.Rows
def ok(n:Nat)(lt:Nat->Nat->Bool){α:Type}:KasT α->(α->Prop)->Prop
 |.ret a,Q=>Q a
 |.ask i j k,Q=>i<n/\j<n/\ok n lt (k<|lt i j) Q
section
variable {n:Nat}{lt:Nat->Nat->Bool}
def K(p:Array Nat)(k:Nat):Nat:=p.getD k 0
structure Good(n:Nat)(p:Array Nat):Prop where
 sz:p.size=n
 pm:p.toList.Perm<|List.range n
variable {p:Array Nat}
theorem Good.at(g:Good n p)(h0:0<n)(k:Nat):K p k<n:=by
 unfold K;by_cases h:k<p.size
 .have e:p.getD k 0=p[k]:=by simp[μ,h]
  rw[e];have:p[k]∈List.range n:=g.pm.mem_iff.mp (by simp);exact ŭ.mp this
 .have e:p.getD k 0=0:=by simp[μ,h]
  rw[e];exact h0
theorem Good.rev(g:Good n p)(i j:Nat):Good n<|kas_rev p i j:=⟨(mirror_size ..).trans g.sz,(Array.perm_iff_toList_perm.mp<|mirror_perm ..).trans g.pm⟩
end
end Srt
namespace L2
open PySem PySem.Spec PyProof.Rows PySem.W
theorem lex_eq:∀{a b:List Int},HT.lexLt a b=false->HT.lexLt b a=false->a=b
 |[],[],_,_=>rfl
 |[],_::_,h,_=>by cases h
 |_::_,[],_,h=>by cases h
 |x::xs,y::ys,h1,h2=>by
  rw[HT.lexLt_cons]at h1 h2;by_cases e:x=y
  .subst e;rw[if_pos rfl]at h1 h2;rw[lex_eq h1 h2]
  .rw[if_neg e]at h1;rw[if_neg<|Ne.symm e]at h2;have h1:¬ x<y:=by simpa using h1
   have h2:¬ y<x:=by simpa using h2
   omega
section
variable {prog:à}{w:õ}{A:Ă}{E:Ã->Å->Prop}{s:Å}
def RowsAt(h:ā)(vs:List Ã)(ă:List<|List Int):Prop:=ă.length=vs.length/\∀i,i<vs.length->∃p o î n,vs.getD i Value.none=.ref p/\h.get? p=some o/\o.cls=.type "tuple"/\o.data=.seq î n/\û î.toList (ă.getD i [])/\ă.getD i []≠[]
theorem RowsAt.keep{h h':ā}{vs:List Ã}{ă:List (List Int)}(r:RowsAt h vs ă)(k:∀b o,h.get? b=some o->o.cls=.type "tuple"->h'.get? b=some o):RowsAt h' vs ă:=⟨r.1,fun i hi=>by
  obtain⟨p,o,î,n,h1,h2,h3,h4,h5⟩:=r.2 i hi
  exact⟨p,o,î,n,h1,k p o h2 h3,h3,h4,h5⟩⟩
end
end L2
namespace Snd
open PySem L2
variable {i:Inf}{X:Cx}{Φ:O.Fs}
theorem Nj{H:Hp}:∀{kvs:List (O.Val×O.Val)}{ps:List (Key×V)}{ns:List Int},RKs i.K H kvs ps->O.keysOf kvs=some ns->ps.map (·.1)=ns.map Sum.inl
 |_,_,ns,.nil,e=>by have e:some []=some ns:=e;cases e;rfl
 |(k,v)::kvs,_,ns,.cons (c:=c) hk _ t,e=>by
  have e:O.intsOf (k::kvs.map (·.1))=some ns:=e;cases k with
  |int j =>
   have e:(O.intsOf (kvs.map (·.1))).map (j :: ·)=some ns:=e;obtain⟨ms,z,rfl⟩:=Ú.mp e;have ih:=Nj (ns:=ms) t z;cases c with
   |inl l =>have hk:j=l:=hk;subst hk;rw[Ð,Ð,ih]
   |inr _=>exact(show False from hk).elim
  |_=>cases e
theorem RVs.perm{H:Hp}{vs:List O.Val}{xs:List V}(r:RVs i.K H vs xs):∀(ps:List Nat),(∀k∈ps,k<vs.length)->RVs i.K H (ps.map fun k=>vs.getD k .non) (ps.map fun k=>xs.getD k .non)
 |[],_=>.nil
 |k::ps,h=>by have hk:=h k å;obtain⟨x,h1,h2⟩:=r.get<|Ë hk;refine .cons ?_<|RVs.perm r ps fun j hj=>h j<|Ô _ hj;show RV i.K H (vs.getD k .non) (xs.getD k .non);rw[ô,ô,Ë hk,h1];exact h2
theorem KF:∀{ys:List O.Val}{ns:List Int},O.intsOf ys=some ns->ys=ns.map .int
 |[],_,e=>by cases e;rfl
 |y::ys,ns,e=>by
  cases y with
  |int j =>obtain⟨ms,z,rfl⟩:=Ú.mp (show(O.intsOf ys).map (j :: ·)=some ns from e);rw[Ð,<-KF z]
  |_=>cases e
theorem Jf{H:Hp}:∀{xs:List O.Val}{us:List V}{ă:List (List Int)},RVs i.K H xs us->O.rowsOf xs=some ă->ă.length=us.length/\(∀n,n<ă.length->∃p,us[n]?=some (.ref p)/\SqT i.K H p ((ă.getD n []).map V.int))/\xs=ă.map fun r=>.tup (r.map .int)
 |_,_,ă,.nil,e=>by have e:some []=some ă:=e;cases e;exact⟨rfl,fun n h=>absurd h<|Nat.not_lt_zero _,rfl⟩
 |v::xs,_,ă,.cons r t,e=>by
  cases v with
  |tup ys =>
   obtain⟨ns,z1,e⟩:=æ.mp (show(O.intsOf ys).bind (fun ns=>(O.rowsOf xs).map (ns :: ·))=some ă from e);obtain⟨rs,z2,rfl⟩:=Ú.mp e;obtain⟨h1,h2,h3⟩:=Jf t z2;cases r with
   |tup hp hr =>
    have:=ZB z1 hr;subst this;refine⟨by rw[Ì,Ì,h1],fun n hn=>?_,?_⟩
    .cases n with
     |zero=>exact⟨_,rfl,Zf hp⟩
     |succ n=>exact h2 n (by simpa using hn)
    .rw[Ð,<-h3];have:ys=ns.map .int:=KF z1;rw[this]
  |_=>cases e
theorem Ow:BiOk i .sortedI (fun xs H Q=>(∃p,∃ns:List Int,xs=[.ref p]/\SqL i.K H p (ns.map V.int)/\ns.length<64/\∀l,H l=none->Q (.ref l) (upd H l<|.lst<|(L2.sortI ns).map V.int))\/
    (∃p kvs,∃ns:List Int,xs=[.ref p]/\Rd H p (.dK kvs)/\kvs.map (·.1)=ns.map Sum.inl/\ns.length<64/\∀l,H l=none->Q (.ref l) (upd H l<|.lst<|(L2.sortI ns).map V.int))):=by
 intro vs G H xs Q Qm g r w c;obtain⟨v,rfl,w⟩:=YI w;obtain⟨x,rfl,rx⟩:=r.inv1;have key:∀(ns:List Int),(if ns.length<64 then O.Rs.new (.lst<|(O.sortI ns).map .int)else .no).wp G Qm->ns.length<64/\∀l,H l=none->Q (.ref l) (upd H l<|.lst<|(L2.sortI ns).map V.int):=fun ns w=>by
  split at w
  .rename_i h64;exact⟨h64,ZU g (KS w) c fun p hp=>⟨_,upd_same,RVs.ints _⟩⟩
  .exact(Zj w).elim
 cases v with
 |ref a =>
  cases rx.ref_inv
  replace w:(O.biSortedI G<|.ref a).wp G Qm:=w
  unfold O.biSortedI O.sortAny at w;dsimp only at w;cases z:G a with
  |none=>rw[z]at w;exact(Zj w).elim
  |some o =>
   rw[z]at w;cases o with
   |lst ys =>
    cases z2:O.intsOf ys with
    |none=>simp only[z2]at w;exact(Zj w).elim
    |some ns =>simp only[z2]at w;obtain⟨us,h1,h2⟩:=g a _ z;have:=ZB z2 h2;subst this;exact .inl ⟨a,ns,rfl,SqL.of h1,key ns w⟩
   |dct kvs =>
    cases z2:O.keysOf kvs with
    |none=>simp only[z2]at w;exact(Zj w).elim
    |some ns =>simp only[z2]at w;obtain⟨ps,h1,h2⟩:=g a _ z;exact .inr ⟨a,ps,ns,rfl,.inl h1,Nj h2 z2,key ns w⟩
   |_=>exact(Zj w).elim
 |scr ns =>
  cases rx with
  |scr h=>exact .inl ⟨_,ns,rfl,Z5 h,key ns w⟩
 |_=>exact(Zj w).elim
theorem Po{e:Expr}{m:O.E}{k:Nat}{p0 p1 p2 pos:Pos}(hK:X.K=i.K)(he:PE X e<|tE X i Φ m):PE X (.Subscript e (.Slice none none (some<|.UnaryOp .USub (.Constant (.int 1) k p0) p1) p2) pos) (tE X i Φ<|.rev m) :=
 (Hm he).imp fun σ H Q ⟨env,G,Qm,Em,p,w,c⟩=>by
  exact one p w fun v G1 H1 x k1 p1 r q=>by obtain⟨a,e1,q1⟩:=go_some q;clear q;obtain⟨xs,e2,q2⟩:=go_some q1;clear q1;cases Xp e1;cases r.ref_inv;obtain⟨us,h1,h2⟩:=Zt p1.hp e2;exact⟨a,us,rfl,by rw[hK];exact h1,ZU p1.hp q2 (c.go k1) fun p hp=>⟨_,upd_same,(h2.reverse).keep<|Keep.new hp⟩⟩
end Snd
namespace Snd
open PySem L2 PyProof.Rows
variable {i:Inf}{X:Cx}{Φ:O.Fs}
theorem Kv:∀(ns:List Int) (a:Int),a∈O.dedup ns↔a∈ns
 |[],a=>Iff.rfl
 |x::xs,a=>by
  have ih:=Kv xs a;unfold O.dedup;simp only[Ç,ē,ih];constructor
  .rintro(h|h)
   .exact .inl h
   .exact .inr h.1
  .rintro(h|h)
   .exact .inl h
   .by_cases e:a=x
    .exact .inl e
    .exact .inr ⟨h,by simpa using e⟩
theorem Wh:∀ns:List Int,(O.dedup ns).Nodup
 |[]=>Ŋ
 |x::xs=>by unfold O.dedup;rw[ě];refine⟨fun h=>?_,List.Nodup.sublist ϡ<|Wh xs⟩;have:=(ē.mp h).2;simp at this
theorem JG:∀(ns į:List Int),į.Nodup->(ns.foldl Ř į).Nodup/\∀a,a∈ns.foldl Ř į↔a∈į\/a∈ns
 |[],į,h=>⟨h,fun a=>by simp⟩
 |x::xs,į,h=>by
  have h2:(Ř į x).Nodup/\∀a,a∈Ř į x↔a∈į\/a=x:=by
   unfold Ř;split
   .rename_i hc;have hm:x∈į:=by simpa using hc
    exact⟨h,fun a=>⟨.inl,fun z=>z.elim id fun e=>e▸hm⟩⟩
   .rename_i hc;have hm:x∉į:=by simpa using hc
    refine⟨?_,fun a=>by simp⟩;rw[ê];refine⟨h,by simp,fun a ha b hb=>?_⟩;rw[á.mp hb];exact fun e=>hm<|e▸ha
  obtain⟨h3,h4⟩:=JG xs (Ř į x) h2.1;refine⟨h3,fun a=>?_⟩;rw[Ĵ,h4,h2.2,Ç];constructor
  .rintro((z|z)|z)
   .exact .inl z
   .exact .inr<|.inl z
   .exact .inr<|.inr z
  .rintro(z|z|z)
   .exact .inl<|.inl z
   .exact .inl<|.inr z
   .exact .inr z
theorem CL(ns:List Int):(Κ (fun i=>ns.getD i 0) ns.length).Perm<|O.dedup ns:=by
 have e:(List.range ns.length).map (fun i=>ns.getD i 0)=ns:=by
  apply List.ext_getElem
  .simp
  .intro k h1 h2;simp at h1;simp[h1]
 unfold Κ;rw[e];obtain⟨h1,h2⟩:=JG ns [] Ŋ;refine(List.perm_ext_iff_of_nodup h1<|Wh ns).mpr fun a=>?_;rw[h2,Kv];simp
theorem Dl{G:O.Hs}{H:Hp}{v:O.Val}{x:V}{ns:List Int}(g:RH i G H)(r:RV i.K H v x)(e:O.sortOf G v=some ns):∃p,x=.ref p/\SqL i.K H p (ns.map V.int):=by
 cases v with
 |ref a =>obtain⟨ys,z1,z2⟩:=æ.mp (show(O.lsOf<|G a).bind O.intsOf=some ns from e);obtain⟨us,h1,h2⟩:=Zt g z1;have:=ZB z2 h2;subst this;exact⟨a,r.ref_inv,h1⟩
 |scr ms =>
  cases e;cases r with
  |scr h=>exact⟨_,rfl,Z5 h⟩
 |_=>cases e
theorem Kw:∀{xs:List O.Val}{k n:Nat}{v:O.Val},(O.enumL k xs)[n]?=some v->∃x,xs[n]?=some x/\v=.tup [.int ((k+n:Nat):Int),x]
 |[],k,n,v,h=>by simp[O.enumL]at h
 |x::xs,k,0,v,h=>by have h:some (O.Val.tup [.int k,x])=some v:=h;cases h;exact⟨x,rfl,rfl⟩
 |x::xs,k,n+1,v,h=>by obtain⟨y,h1,h2⟩:=Kw (xs:=xs) (k:=k+1) (n:=n) (v:=v) (by simpa[O.enumL]using h);refine⟨y,by simpa using h1,?_⟩;rw[h2,show k+1+n=k+(n+1) by omega]
theorem KC:∀(xs:List O.Val) (k:Nat),(O.enumL k xs).length=xs.length
 |[],_=>rfl
 |x::xs,k=>by show(O.enumL (k+1) xs).length+1=xs.length+1;rw[KC xs]
variable {xs:List O.Val}
theorem C8{H0:Hp}{a:È}{us:List V}(ha:H0 a=some (.tup us)\/KT i.K a us)(ra:RVs i.K H0 xs us):ItOk i H0 (Ite i.K a) (fun _=>True) (O.enumL 0 xs) where
 go:=fun n G H v k g e hv=>by obtain⟨x,hx,rfl⟩:=Kw hv;have h1:SqT i.K H a us:=Zf<|ha.imp (k.t _ _) id;obtain⟨x',h5,h6⟩:=(ra.keep k).get hx;refine⟨⟨us,x',h1,h5⟩,fun w H' ⟨p,e1,hp,e2⟩=>?_⟩;subst e1;have:=e2 us x' h1 h5;subst this;have k:=Keep.new (o:=.tup [.int n,x']) hp;refine⟨k,K0 g hp,.tup (.inl upd_same)<|.cons ?_<|.cons (h6.keep k) .nil⟩;rw[ű];exact .int _
 stop:=fun n G H k g e hn=>by have h1:SqT i.K H a us:=Zf<|ha.imp (k.t _ _) id;exact⟨us,h1,by rw[<-ra.length,<-KC xs 0];exact hn⟩
theorem On{v:O.Val}(h:O.tupOf v=some xs):v=.tup xs:=by
 cases v with
 |tup ys=>cases h;rfl
 |_=>cases h
theorem DR{es:List Expr}{kk:Nat}{tp p pos:Pos}{e:Expr}{m:O.E}(hK:X.K=i.K)(hg:Gl X "enumerate")(hm:X.mg "enumerate" = none)(he:PE X e<|tE X i Φ m)(hs:Õ [e] X.env=[(false,eval e X.env)]) :
  PI X (.Tuple es kk tp) (.Call (.Name "enumerate" p) [e] [] pos) (tIt X i Φ<|.enum m) :=
 (CC hg hm (ZW he pa_nil hs) hs).imp fun σ H R ⟨env,G,QI,Em,p,w,c⟩=>by
  change tE X i Φ m σ H _;refine one p w fun v G1 H1 x k1 p1 rx q=>?_;obtain⟨xs,e1,q2⟩:=go_some q;clear q;cases On e1;rw[hK];cases rx with
  |tup hp hr=>exact⟨_,rfl,⟨_,Zf hp⟩,c _ _ G1 H1 _ k1 p1.hp (C8 hp hr) q2⟩
end Snd
namespace L2
open PySem PySem.Spec PyProof.Rows
open PySem.Builtin
section
variable {prog:à}{w:õ}{A:Ă}{E:Ã->Å->Prop}
def PairsH(I d:È)(items:Array Ã)(ay:List<|Key×Ã)(prog:à)(w:õ)(h:ā):Prop:=∀(i:Nat) (v:Ã),items[i]?=some v->∃(a:È) (key:Ã) (p:Key×Ã),v=.ref a/\a≠I/\a≠d/\ay[i]?=some p/\aa h a #[key,p.2]/\(Ze prog w).is p.1 key=true
theorem PairsH.keep{I d:È}{items:Array Ã}{ay:List (Key×Ã)}{h h':ā}(t:PairsH I d items ay prog w h)(k:∀b o,b≠I->b≠d->h.get? b=some o->h'.get? b=some o):PairsH I d items ay prog w h':=fun i v e=>by obtain⟨a,key,p,h1,h2,h3,h4,⟨o,q1,q2⟩,h5⟩:=t i v e;exact⟨a,key,p,h1,h2,h3,h4,⟨o,k a o h2 h3 q1,q2⟩,h5⟩
end
theorem KV.all{kvs:List (Key×V)}{ay:List (Key×Ã)}(r:KV kvs ay):∀{m:List (Key×V)}{n:List (Key×Ã)},KV m n->KV (kvs.foldl (fun m p=>putK m p.1 p.2) m) (ay.foldl (fun m p=>stored m p.1 p.2) n):=by
 unfold KV at r;induction r with
 |nil=>exact fun h=>h
 |cons q t ih =>intro m n h;rename_i a b l1 l2;obtain⟨k,x⟩:=a;obtain⟨k2,u⟩:=b;obtain⟨e,rx⟩:=q;cases (show k=k2 from e);exact ih<|h.put k rx
theorem ND:cf table "list_reverseiterator.__next__" = some Builtin.«list_reverseiterator.__next__»:=entryFor_of_tree (by kernel_rfl)
theorem Nz(a:Ã):ϭ "list_reverseiterator.__next__" ⟨[a],[]⟩:=by unfold ϭ;kernel_rfl
theorem slot_rnext:Slot "list_reverseiterator" "__next__" "list_reverseiterator.__next__" :=
 .of (owner:="list_reverseiterator") (n:="__next__") (by rw[Ϣ,ž];kernel_rfl) (by decide +kernel) (by decide +kernel) (by decide +kernel)
  (by first|exact .inl (by decide +kernel)|exact .inr<|by decide +kernel) (by rw[Λ];kernel_rfl)
theorem Jb:Slot "list_reverseiterator" "__iter__" "list_reverseiterator.__iter__" :=
 .of (owner:="list_reverseiterator") (n:="__iter__") (by rw[Ϣ,ž];kernel_rfl) (by decide +kernel) (by decide +kernel) (by decide +kernel)
  (by first|exact .inl (by decide +kernel)|exact .inr<|by decide +kernel) (by rw[Λ];kernel_rfl)
theorem Bn:cf table "list_reverseiterator.__iter__" = some Builtin.«dict_keyiterator.__iter__» :=
 cg (id':="dict_keyiterator.__iter__") (by kernel_rfl) (by first|rfl|decide +kernel|(unfold String.splitOn;simp +decide [String.splitOnAux])) (by decide +kernel) (by kernel_rfl)
theorem Dz(a:Ã):ϭ "list_reverseiterator.__iter__" ⟨[a],[]⟩:=by unfold ϭ;kernel_rfl
def RevIt(h:ā)(it l:È)(k:Int):Prop:=∃o,h.get? it=some o/\o.cls=.type "list_reverseiterator"/\o.data=.fields #[.ref l,.int k 0]
section
variable {prog:à}{w:õ}{A:Ă}{E:Ã->Å->Prop}{s:Å}
variable {it:È} {l:È}
theorem RevIt.typeIs{k:Int}(h:RevIt s.heap it l k):s.TypeIs (.ref it) "list_reverseiterator":=by obtain⟨o,h1,h2,_⟩:=h;exact⟨o,h1,h2⟩
variable {Q:Option Ã->Å->Prop}
theorem BZ{k:Nat}{items:Array Ã}{x:Ã}(bc:RevIt s.heap it l k)(hl:s.heap.IsList l items)(hx:items[k]?=some x)
  (hQ:∀h',RevIt h' it l ((k:Int) - 1)->Ŏ it s.heap h'->Q (some x) {s with heap:=h'}):wpAny (Û prog w) A (Ŷ<|.ref it) Q E s:=by
 have hT:=bc.typeIs;obtain⟨o,ho,hc,hd⟩:=id bc;obtain⟨ol,hol,_,nl,hdl⟩:=hl;unfold Ŷ;refine À<|af<|ĕ (name:=Str.ofString "__next__") hT slot_rnext<|ĉ slot_rnext hT ND ?_<|Nz _;show wpAny _ _ (di (.ref it) 1 >>= _) _ _ s;refine À<|Ň ho hd (x:=.int k 0) rfl ?_;refine Į (fun bQ=>absurd bQ<|by omega) fun _=>?_;show wpAny _ _ (di (.ref it) 0 >>= _) _ _ s;refine À<|Ň ho hd (x:=.ref l) rfl ?_;show wpAny _ _ (ϓ (.ref l) >>= _) _ _ s;refine À<|ľ hol hdl ?_;simp only[í,hx];refine À (Ŀ ho hd (by simp)<|Æ ⟨x,rfl,Æ<|hQ _ ?_<|ü ..⟩);exact⟨_,Ď _ ho<|ϔ<|ő hd _,(Ϲ ..).trans hc,by
   rw[ő hd];simp[ı]⟩
theorem Fk(hh:A.handled=none)(bc:RevIt s.heap it l (-1))(hQ:∀h',Heap.ExtBut it s.heap h'->Q none {s with heap:=h'}):wpAny (Û prog w) A (Ŷ<|.ref it) Q E s:=by have hT:=bc.typeIs;obtain⟨o,ho,hc,hd⟩:=id bc;unfold Ŷ;refine À<|af<|ĕ (name:=Str.ofString "__next__") hT slot_rnext<|ĉ slot_rnext hT ND ?_<|Nz _;show wpAny _ _ (di (.ref it) 1 >>= _) _ _ s;refine À<|Ň ho hd (x:=.int (-1) 0) rfl ?_;refine Į (fun _=>?_) (fun bQ=>absurd (by decide) bQ);refine À<|Η ?_;refine À ?_;show wpAny _ _ (b5 (.type "StopIteration") [] >>= _) _ _ _;refine À ?_;simp only[b5,newTuple];refine À (þ ?_<|by size_fits);refine À (m:=ź _ _) (Ψ (a:=Value.none) (by first|rfl|(simp only[ź];rfl)) ?_);refine þ ?_ (by size_fits);simp only[raiseNew];refine À<|cT ?_;rw[show A.in1.handled=none from hh];refine À<|Æ<|wpAny_throw ?_;refine À<|ϕ (T:="StopIteration") (b:=true) ⟨_,Ï _ rfl,rfl⟩ b7 ?_;exact Æ (hQ _ fun b o _ e=>Ä _<|Ä _ e)
theorem CQ{k:Int}{Q:Ã->Å->Prop}(bc:RevIt s.heap it l k)(h:Q (.ref it) s):wpAny (Û prog w) A (bV<|.ref it) Q E s:=by have hT:=bc.typeIs;refine aK hT Jb<|ĉ Jb hT Bn ?_<|Dz _;show wpAny _ _ (ret<|.ref it) _ _ s;exact Æ ⟨_,rfl,"list_reverseiterator",_,hT,slot_rnext.lookup,h⟩
end
theorem Walks.rev{prog:à}{w:õ}{A:Ă}(hh:A.handled=none)(I ax:È)(ρ:ax≠I)(items:Array Ã) :
  Walks prog w A I [I,ax] [I] items.size (fun i v=>items[items.size - 1 - i]?=some v) (fun i h=>RevIt h I ax ((items.size:Int) - 1 - i)/\h.IsList ax items) where
 sub:=fun b hb=>by simp at hb;simp[hb]
 frame:=fun _ _ _ st hk=>⟨by obtain⟨o,h1,h2⟩:=st.1;exact⟨o,hk I (by simp) o h1,h2⟩,st.2.at fun o e=>hk ax (by simp) o e⟩
 item:=fun i s Q E hi st hQ=>by
  have e:(items.size:Int) - 1 - i=((items.size - 1 - i:Nat):Int):=by omega
  rw[e]at st;have Ν:items.size - 1 - i<items.size:=by omega
  refine BZ st.1 st.2 (x:=items[items.size - 1 - i]) (by simp[Ν]) fun h' hit' hs'=>?_;exact hQ _ h' s.toks (by simp[Ν]) ⟨by rw[show(items.size:Int) - 1 - ((i+1:Nat):Int)=((items.size - 1 - i:Nat):Int) - 1 by omega];exact hit',st.2.extBut hs'.extBut ρ⟩ fun b o hb e=>hs'.extBut b o (fun h=>hb<|by simp[h]) e
 done:=fun s Q E st hQ=>by rw[show(items.size:Int) - 1 - (items.size:Nat)=-1 by omega]at st;exact Fk hh st.1 fun h' he'=>hQ h' s.toks fun b o hb e=>he' b o (fun h=>hb<|by simp[h]) e
 self:=fun _ _ _ _ st hQ=>CQ st.1 hQ
end L2
namespace Snd
open PySem L2
variable {i:Inf}{X:Cx}
variable {p:Int×Int}
theorem Oa{v:O.Val}(h:O.pairI v=some p):v=.tup [.int p.1,.int p.2]:=by
 unfold O.pairI at h;split at h
 .cases h;rfl
 .cases h
variable {H:Hp} {x:V}
theorem BR{v:O.Val}(r:RV i.K H v x)(h:O.pairI v=some p):∃a,x=.ref a/\SqT i.K H a [.int p.1,.int p.2]:=by
 cases Oa h;cases r with
 |tup hp hr =>
  cases hr with
  |cons r1 t=>cases t with
   |cons r2 t =>cases t;cases r1.int_inv;cases r2.int_inv;exact⟨_,rfl,Zf hp⟩
theorem Ap:∀{ns:List Int},ns≠[]->O.minI ns∈ns/\∀a∈ns,O.minI ns<=a
 |[],h=>absurd rfl h
 |x::r,_=>by
  show r.foldl (fun a b=>if b<a then b else a) x∈x::r/\∀a∈x::r,r.foldl (fun a b=>if b<a then b else a) x<=a;induction r generalizing x with
  |nil=>simp
  |cons y r ih =>
   rw[Ĵ];obtain⟨h1,h2⟩:=ih (if y<x then y else x) (by simp);refine⟨?_,fun a ha=>?_⟩
   .rcases Ç.mp h1 with h1|h1
    .rw[h1];split<;>simp
    .exact Ô _<|Ô _ h1
   .have h3:=h2 _ å;have h4:(if y<x then y else x)<=x/\(if y<x then y else x)<=y:=by split<;>omega
    rcases Ç.mp ha with rfl|ha
    .exact Int.le_trans h3 h4.1
    .rcases Ç.mp ha with rfl|ha
     .exact Int.le_trans h3 h4.2
     .exact h2 a<|Ô _ ha
theorem BH{G:O.Hs}{v:O.Val}{ns:List Int}(g:RH i G H)(r:RV i.K H v x)(e:O.intsAt G v=some ns):∃a,x=.ref a/\SqL i.K H a (ns.map V.int):=by
 cases v with
 |ref a =>obtain⟨ys,e1,e2⟩:=æ.mp (show(O.lsOf<|G a).bind O.intsOf=some ns from e);cases r.ref_inv;obtain⟨us,h1,h2⟩:=Zt g e1;cases ZB e2 h2;exact⟨a,rfl,h1⟩
 |_=>cases e
end Snd
namespace L2
open PySem
abbrev Ris(xs:Array Nat):Prop:=xs.toList.Pairwise (· < ·)
def Oo(xs:Array Nat)(j lo:Nat):Prop:=lo<=xs.size/\(∀k x,k<lo->xs[k]?=some x->x<j)/\∀k x,lo<=k->xs[k]?=some x->j<=x
variable {xs:Array Nat} {a:Nat} {b:Nat} {x:Nat}
theorem XZ(h:Ris xs){y:Nat}(bQ:a<b)(ha:xs[a]?=some x)(hb:xs[b]?=some y):x<y:=by rw[<-Ą]at ha hb;obtain⟨h1,rfl⟩:=Í.mp ha;obtain⟨h2,rfl⟩:=Í.mp hb;exact List.pairwise_iff_getElem.mp h a b h1 h2 bQ
theorem W1{xs:Array Nat}(h:Ris xs){j:Nat}:∀(f lo hi:Nat),hi - lo<=f->lo<=hi->hi<=xs.size->(∀k x,k<lo->xs[k]?=some x->x<j)->(∀k x,hi<=k->xs[k]?=some x->j<=x)->Oo xs j (aL xs j f lo hi)
 |0,lo,hi,h1,h2,h3,h4,h5=>by
  have e:lo=hi:=by omega
  subst e;exact⟨h3,h4,h5⟩
 |f+1,lo,hi,h1,h2,h3,h4,h5=>by
  unfold aL;by_cases hl:lo<hi
  .rw[if_pos hl];dsimp only;have hm:(lo+hi) / 2<xs.size:=by omega
   have hx:xs[(lo+hi) / 2]?=some xs[(lo+hi) / 2]:=ù hm;have hg:xs.getD ((lo+hi) / 2) j=xs[(lo+hi) / 2]:=by simp[μ,hm]
   rw[hg];by_cases hc:xs[(lo+hi) / 2]<j
   .rw[if_pos hc];refine W1 h f _ _ (by omega) (by omega) h3 (fun k x hk hkx=>?_) h5;by_cases hkm:k=(lo+hi) / 2
    .subst hkm;rw[hx]at hkx;cases hkx;exact hc
    .exact š (XZ h (by omega) hkx hx) hc
   .rw[if_neg hc];refine W1 h f _ _ (by omega) (by omega) (by omega) h4 fun k x hk hkx=>?_;by_cases hkm:k=(lo+hi) / 2
    .subst hkm;rw[hx]at hkx;cases hkx;omega
    .exact Ó (Nat.not_lt.mp hc) (θ<|XZ h (by omega) hx hkx)
  .rw[if_neg hl];have e:lo=hi:=by omega
   subst e;exact⟨h3,h4,h5⟩
theorem Na(h:Ris xs)(j:Nat):Oo xs j<|ĵ xs j:=by unfold ĵ;refine W1 h xs.size 0 xs.size (by omega) (by omega) (by omega) (fun k x hk=>by omega) fun k x hk hkx=>?_;rw[Ο hk]at hkx;cases hkx
variable {j:Nat}
theorem A8(ha:Oo xs j a)(hb:Oo xs j b):a=b:=by
 obtain⟨a1,a2,a3⟩:=ha;obtain⟨b1,b2,b3⟩:=hb;rcases Nat.lt_trichotomy a b with h|h|h
 .have hx:=ù (xs:=xs) (i:=a) (by omega);have:=b2 a _ h hx;have:=a3 a _ (Î _) hx;omega
 .exact h
 .have hx:=ù (xs:=xs) (i:=b) (by omega);have:=a2 b _ h hx;have:=b3 b _ (Î _) hx;omega
theorem U1(h:Ris xs){i:Nat}(hx:xs[i]?=some x):Oo xs (x+1)<|i+1:=by
 have hi:i<xs.size:=(aM.mp hx).1;refine⟨hi,fun k y hk hky=>?_,fun k y hk hky=>XZ h (by omega) hx hky⟩;by_cases e:k=i
 .subst e;rw[hx]at hky;cases hky;omega
 .have:=XZ h (show k<i by omega) hky hx;omega
theorem AF(xs:Array Nat):Oo xs 0 0:=⟨Ĳ _,fun k x hk=>by omega,fun _ _ _ _=>Ĳ _⟩
theorem FP(h:Ris xs)(hn:xs[ĵ xs j]?≠some j):Ris<|SetTable.insertAt xs (ĵ xs j) j:=by
 obtain⟨c1,c2,c3⟩:=Na h j;generalize ĵ xs j=p at c1 c2 c3 hn;unfold Ris;rw[SetTable.toList_insertAt];have hs:(xs.toList.take p++xs.toList.drop p).Pairwise (· < ·):=by rw[cj];exact h
 obtain⟨h1,h2,h3⟩:=cF.mp hs;have hlo:∀a∈xs.toList.take p,a<j:=fun a ha=>by obtain⟨k,hk,rfl⟩:=List.mem_take_iff_getElem.mp ha;refine c2 k _ (by omega) ?_;rw[<-Ą];exact Ë _
 have hhi:∀a∈xs.toList.drop p,j<a:=fun a ha=>by
  obtain⟨k,e⟩:=cb.mp ha;rw[List.getElem?_drop,Ą]at e;have:=c3 (p+k) _ (by omega) e;rcases Nat.lt_or_ge j a with q|q
  .exact q
  .exfalso;have e2:a=j:=by omega
   subst e2;by_cases k0:k=0
   .subst k0;exact hn e
   .have hp:xs[p]?=some (xs[p]'(by have:=(aM.mp e).1;omega)):=ù _;have:=XZ h (show p<p+k by omega) hp e;have:=c3 p _ (Î _) hp;omega
 exact cF.mpr ⟨h1,dk.mpr ⟨hhi,h2⟩,fun a ha b hb=>by
   rcases Ç.mp hb with rfl|hb
   . exact hlo a ha
   . exact š (hlo a ha)<|hhi b hb⟩
structure Tb(b:Bool)(t:Ŭ):Prop where
 led:b=false->t.led=true
 ris:Ris t.place
 dum:t.dummies=#[]
theorem NE{t:Ŭ}{f:Nat->Int}{h:Int}(hd:t.dummies=#[]):∀(n:Nat) (p:SetTable.Probe) (j:Nat) (d:Option Nat),p.dummy=none->Ω t f h n p=some (.empty j d)->t.slot j=.empty/\d=none
 |0,p,j,d,h0,e=>by unfold Ω at e;cases e
 |n+1,p,j,d,h0,e=>by
  unfold Ω at e;cases hs:t.slot p.j with
  |empty =>rw[hs]at e;dsimp only at e;injection e with e;injection e with e1 e2;subst e1;exact⟨hs,e2▸h0⟩
  |dummy =>
   exfalso;unfold dO at hs;dsimp only at hs;split at hs
   .cases hs
   .rw[hd]at hs;simp[aP]at hs
  |live i =>
   rw[hs]at e;dsimp only at e;split at e
   .cases e
   .refine NE hd n _ j d ?_ e;unfold SetTable.advance;split
    .exact h0
    .exact h0
theorem Ea{t:Ŭ}(hd:t.dummies=#[]){h:Int}{b:Bool}(e:t.freeSlot h=some (j,b)):t.place[ĵ t.place j]?≠some j:=by
 unfold SetTable.freeSlot at e;split at e
 .rename_i k d hp;obtain⟨h1,h2⟩:=NE hd _ _ _ _ rfl hp;subst h2;injection e with e;injection e with e1 e2;have e1:k=j:=e1;subst e1;unfold dO at h1;dsimp only at h1;split at h1
  .cases h1
  .rename_i hq;exact fun z=>hq (by rw[z];exact beq_self_eq_true _)
 .cases e
theorem XD{b:Bool}{t:Ŭ}(h:Tb b t)(n:Nat):Tb b (t.standIn n) :=
 ⟨h.led,by show(Array.range n).toList.Pairwise _;rw[Array.toList_range];exact bK,rfl⟩
theorem GE{b:Bool}{t:Ŭ}(h:Tb b t)(es:Array<|Int×Ã)(k:Int)(x:Ã):Tb b (layNew t es k x).2.1:=by
 unfold layNew;split
 .rename_i slot wd hf;show Tb b (bL _ _);have hp:Tb b (t.put slot).1:=by
   refine⟨h.led,FP h.ris<|Ea h.dum hf,?_⟩;show(if aP t.dummies slot then _ else t.dummies)=#[];rw[h.dum];simp[aP]
  unfold bL;split
  .exact hp
  .exact XD hp _
 .exact XD h _
theorem BI{b:Bool}{t:Ŭ}(h:Tb b t)(es:Array<|Int×Ã)(n:Nat):Tb b (relayAll t es n).2.1:=by
 unfold relayAll;split
 .rename_i t' order hr;dsimp only;split
  .unfold SetTable.relaid SetTable.laid at hr;cases hl:SetTable.layClean (SetTable.sizeAbove n - 1) (es.map (·.1))with
   |none=>rw[hl]at hr;cases hr
   |some owner =>rw[hl]at hr;cases hr;refine⟨h.led,?_,rfl⟩;show List.Pairwise _ (List.toArray _).toList;refine List.pairwise_map.mpr<|List.pairwise_filterMap.mpr ?_;refine bK.imp fun{a c} hac x hx y hy=>?_;obtain⟨_,_,rfl⟩:=Ú.mp hx;obtain⟨_,_,rfl⟩:=Ú.mp hy;exact hac
  .exact XD h _
 .exact XD h _
end L2
namespace L2
open PySem PySem.Spec PyProof.Rows
section
variable (prog:à) (w:õ)
noncomputable abbrev byT:Bool:=w.params.followText "set-order"
def SetI(h:ā)(a:È)(l:List Int):Prop:=∃o es ep t es0,h.get? a=some o/\o.ExactSet/\o.data=.set es ep t/\ElemsOf (Ŗ prog w) es.toList/\es.size<Ϸ/\t.fits es.size=true/\
 Tb (byT w) t/\es.toList.Perm es0/\û (es0.map (·.2)) l
end
theorem Xr:∀{vs:List Ã}{ns:List Int},û vs ns->vs.length=ns.length
 |_,_,.nil=>rfl
 |_,_,.cons _ _ r=>congrArg (· + 1)<|Xr r
theorem Uv:∀{vs:List Ã}{ns:List Int}(n:Int) (t:Tok),û vs ns->û (vs++[.int n t]) (ns++[n])
 |_,_,n,t,.nil=>.cons n t .nil
 |_,_,n,t,.cons m u r=>.cons m u<|Uv n t r
theorem N6{P:à}{w:õ}{n:Int}:∀{vs:List Ã}{ns:List Int},û vs ns->(n∈ns↔∃v∈vs,(Ŗ P w).is n v=true)
 |_,_,.nil=>by simp
 |_,_,.cons m u r=>by
  have h:=N6 (P:=P) (w:=w) (n:=n) r;have hk:(Ŗ P w).is n (.int m u)=decide (n=m):=KeyKind.is_eq_decide (intKind_is P w m u) n;rw[Ç,h];constructor
  .rintro(rfl|⟨v,hv,e⟩)
   .exact⟨_,å,by rw[hk];simp⟩
   .exact⟨v,Ô _ hv,e⟩
  .rintro⟨v,hv,e⟩;rcases Ç.mp hv with rfl|hv
   .rw[hk]at e;exact .inl (by simpa using e)
   .exact .inr ⟨v,hv,e⟩
variable {h:ā} {a:È} {l:List Int}
theorem SetI.setOf{P:à}{w:õ}(x:SetI P w h a l):h.SetOf (Ŗ P w) a (fun k=>decide (k∈l)) l.length:=by
 obtain⟨o,es,ep,t,es0,h1,h2,h3,h4,h5,h6,h7,h8,h9⟩:=x;refine⟨o,es,ep,t,h1,h2,h3,h4,fun k=>?_,h5,h6,?_⟩
 .rw[decide_eq_true_iff,N6 (P:=P) (w:=w) h9];constructor
  .rintro⟨v,hv,e⟩;obtain⟨x,hx,rfl⟩:=Ò.mp hv;exact⟨x,h8.mem_iff.mpr hx,e⟩
  .rintro⟨x,hx,e⟩;exact⟨_,Ò.mpr ⟨x,h8.mem_iff.mp hx,rfl⟩,e⟩
 .rw[<-Xr h9,Â,<-h8.length_eq,ç]
section
variable {prog:à}{w:õ}{A:Ă}{E:Ã->Å->Prop}{s:Å}
theorem O2{o:Obj}{es es':Array (Int×Ã)}{ep:Nat}{t t':Ŭ}(ho:h.get? a=some o)(hd:o.data=.set es ep t) :
  (h.update a<|dP es' t').get? a=some {o with data:=.set es' (ep+1) t'}:=by
 have z:=Ď (dP es' t') ho (by rw[putSet_of es' t' hd];rfl)
 rwa [putSet_of es' t' hd]at z
theorem add_int{n:Int}{tk:Tok}{Q:Bool->Å->Prop}(hS:SetI prog w s.heap a l)(hroom:l.length+1<Ϸ)
  (k:∀h' b,Ŏ a s.heap h'->SetI prog w h' a (Ř l n)->Q b {s with heap:=h'}):wpAny (Û prog w) A (setAddHashed a (.int n tk)<|(Ŗ prog w).hash n) Q E s:=by
 have hlen:=hS.setOf;obtain⟨o,es,ep,t,es0,ho,hex,hd,hel,hb,hf,ht,hp,hi⟩:=id hS;have hsz:es.size=l.length:=by rw[<-Xr hi,Â,<-hp.length_eq,ç]
 have hkey:(Ŗ prog w).is n (.int n tk)=true:=intKind_is _ _ _ _;unfold setAddHashed setAddHashedIn;refine Ĝ<|À<|ş ho hd hf ?_;dsimp only;rw[byScan_of rfl hb hel];simp only[↓reduceIte];unfold setAddByScan;refine À<|À<|Η<|À<|wpAny_setScan_of hkey ho hd hf hel ?_;have hm:n∈l↔∃e∈es.toList,(Ŗ prog w).is n e.2=true:=by
  rw[N6 (P:=prog) (w:=w) hi];constructor
  .rintro⟨v,hv,e⟩;obtain⟨x,hx,rfl⟩:=Ò.mp hv;exact⟨x,hp.mem_iff.mpr hx,e⟩
  .rintro⟨x,hx,e⟩;exact⟨_,Ò.mpr ⟨x,hp.mem_iff.mp hx,rfl⟩,e⟩
 cases hr:List.findIdx? (fun e=>(Ŗ prog w).is n e.2) es.toList with
 |some j =>
  obtain⟨hj,hpj,_⟩:=List.findIdx?_eq_some_iff_getElem.mp hr;have hn:n∈l:=hm.mpr ⟨_,Ķ hj,hpj⟩;have e1:Ř l n=l:=by unfold Ř;rw[if_pos<|ai.mpr ⟨n,hn,by simp⟩]
  rw[e1]at k;exact Æ<|Æ<|k s.heap false (Heap.SameBut.refl a s.heap) hS
 |none =>
  have hn:n∉l:=fun z=>by obtain⟨e,he,q⟩:=hm.mp z;have:=List.findIdx?_eq_none_iff.mp hr e he;rw[q]at this;cases this
  have e1:Ř l n=l++[n]:=by
   unfold Ř;rw[if_neg];intro z;obtain⟨m,hm,q⟩:=ai.mp z;have q:m=n:=by simpa using q
   exact hn<|q▸hm
  rw[e1]at k;have l1:=layNew_perm t es ((Ŗ prog w).hash n)<|.int n tk;have l2:=layNew_fits t es ((Ŗ prog w).hash n)<|.int n tk;have l3:=GE ht es ((Ŗ prog w).hash n)<|.int n tk;dsimp only;generalize hL:layNew t es ((Ŗ prog w).hash n) (.int n tk)=L at l1 l2 l3 ⊢;obtain⟨bR,t1,wd,gv⟩:=L;dsimp only at l1 l2 l3 ⊢;rw[dm]at l1;have i1:û ((es0++[((Ŗ prog w).hash n,Value.int n tk)]).map (·.2))<|l++[n]:=by rw[Ü];exact Uv n tk hi
  have p1:bR.toList.Perm<|es0++[((Ŗ prog w).hash n,Value.int n tk)]:=l1.trans<|hp.append_right _;have hel1:ElemsOf (Ŗ prog w) bR.toList:=(hel.push hkey rfl).perm l1;have hs1:bR.size=l.length+1:=by rw[<-ç,l1.length_eq,ë,ç,hsz];rfl
  have fin:∀(h':ā) (o':Obj) (cV:Nat) (es':Array<|Int×Ã) (t':Ŭ),Ŏ a s.heap h'->h'.get? a=some o'->o'.ExactSet->o'.data=.set es' cV t'->es'.toList.Perm bR.toList->t'.fits es'.size=true->Tb (byT w) t'->∀b,Q b {s with heap:=h'}:=fun h' o' cV es' t' sb g1 g2 g3 g4 g5 g6 b=>by refine k h' b sb ⟨o',es',cV,t',_,g1,g2,g3,hel1.perm g4,?_,g5,g6,g4.trans p1,i1⟩;rw[<-ç,g4.length_eq,ç,hs1];exact hroom
  have hz1:bR.size<=Ø:=aN (by rw[hs1];exact hroom);have g0:∀(b:Bool){ġ:Å}{Q':Unit->Å->Prop},Q' () ġ->wpAny (Û prog w) A (match b with|true=>rule "set.scan.the-table-gave-way" | false=>pure ()) Q' E ġ :=
   fun b ġ Q' hq=>by cases b<;>first|exact Æ hq|exact Η hq
  refine À<|g0 _ ?_;have bv:hashByValue 8 (.int n tk)=(pure true:Sem Bool):=hashByValue_scannable 8 rfl;rw[bv,ite_self];refine À<|Æ ?_;simp only[↓reduceIte];refine À<|wpAny_storeSet_of ho hd ?_ hz1;have ho1:=O2 (es':=bR) (t':=t1) ho hd;have sb1:=ü s.heap a<|dP bR t1;split
  .have r1:=relayAll_perm t1 bR<|ϊ bR.size;have r2:=relayAll_fits t1 bR<|ϊ bR.size;have r3:=BI l3 bR<|ϊ bR.size;generalize relayAll t1 bR (ϊ bR.size)=R at r1 r2 r3 ⊢;obtain⟨es2,t2,gv2⟩:=R;dsimp only at r1 r2 r3 ⊢;refine À<|g0 _ ?_;refine À (wpAny_storeSet_of ho1 rfl ?_<|by rw[<-ç,r1.length_eq,ç];exact hz1);exact Æ<|Æ<|fin _ _ _ es2 t2 (sb1.trans<|ü _ a _) (O2 ho1 rfl) hex rfl r1 r2 r3 _
  .exact Æ<|Æ<|fin _ _ _ bR t1 sb1 ho1 hex rfl .rfl l2 l3 _
end
theorem SetI.at{P:à}{w:õ}{h h':ā}{a:È}{l:List Int}(x:SetI P w h a l)(k:∀o,h.get? a=some o->h'.get? a=some o):SetI P w h' a l:=by obtain⟨o,es,ep,t,es0,h1,h2⟩:=x;exact⟨o,es,ep,t,es0,k _ h1,h2⟩
section
variable {prog:à}{w:õ}{A:Ă}{R:aU->Å->Prop}{I:È}{fp wr:List È}{G:Array bS->Array bS->Prop}{n:Nat}{P:Nat->Ã->Prop}{St:Nat->Å->Prop}
theorem Ca(W:WalksS prog w A.in1 I fp wr G n P St)(S:È)(hS:S∉fp)(val:Nat->Int)(hv:∀i v,P i v->∃t,v=.int (val i) t)(hb:n+1<Ϸ) :
  ∀(k i:Nat) (s:Å),n - i=k->i<=n->St i s->SetI prog w s.heap S (Κ val i)->(∀s',Moved (S::wr) G s s'->SetI prog w s'.heap S (Κ val n)->R (.ok<|.ret .none) s')->
   codeAny (Û prog w) A (.builtin "set.update.loop" ⟨[.ref S,.ref I],[]⟩) R s:=by
 have nw:S∉wr:=fun z=>hS<|W.sub _ z;intro k;induction k with
 |zero =>
  intro i s h1 h2 st x r;obtain rfl:i=n:=by omega
  refine ĭ F.entry_set_update_loop ?_;rw[Đ F.plain_set_update_loop _];show wpAny _ A.in1 (Ŷ (.ref I) >>= _) _ _ s;refine À<|W.done s _ _ st fun s' m=>?_;exact Æ<|r s' (m.mono fun b hb=>Ô _ hb)<|x.at fun o e=>m.heap S _ nw e
 |succ k ih =>
  intro i s h1 h2 st x r;have hi:i<n:=by omega
  refine ĭ F.entry_set_update_loop ?_;rw[Đ F.plain_set_update_loop _];show wpAny _ A.in1 (Ŷ (.ref I) >>= _) _ _ s;refine À<|W.item i s _ _ hi st fun v s' p du m=>?_;obtain⟨t,rfl⟩:=hv i v p;show wpAny _ A.in1 (Ŧ [Value.int (val i) t] (setAdd S<|.int (val i) t) >>= _) _ _ s';refine À<|Ĝ ?_;unfold setAdd;refine Ĝ<|À<|(Ŗ prog w).pyHash (k:=val i) (intKind_is _ _ _ _) ?_;refine add_int (s:={s' with toks:=s'.toks+1}) (x.at fun o e=>m.heap S _ nw e) (by have:=ao val i;omega) fun h' b sb x'=>?_;rw[<-firstMet_succ]at x';refine Æ ⟨ĺ F.plain_set_update_loop _,ih (i+1) _ (by omega) hi (W.frame _ s' _ _ du (Ń _) fun b hb o e=>?_) x' fun s'' m'' x''=>r s'' ?_ x''⟩
  .rw[sb.2 b fun z=>hS<|z▸hb];exact e
  .refine Moved.trans W.gtrans ((m.mono fun b hb=>Ô _ hb).then_heap (Ń _) fun b o hb e=>?_) m'';rw[sb.2 b fun z=>hb<|z▸å];exact e
end
section
variable {prog:à}{w:õ}{A:Ă}{E:Ã->Å->Prop}{s:Å}
noncomputable abbrev W6(b:Bool):Obj:={cls:=.type "set",dict:=none,data:=.set #[] 0 (.fresh 0 0 !b)}
variable {Q:Ã->Å->Prop}
theorem EC(a:Ã)(h:Q (.ref s.heap.objs.size) {s with heap:=s.heap.push (W6<|byT w)}) :
  codeAny (Û prog w) A (.call (.builtin "set.__new__") ⟨[.type "set",a],[]⟩) (wants Q E) s:=by
 refine codeAny_of_tree ?_;show wpAny _ A.in1 (do checkBuiltinCall "set.__new__" ⟨[.type "set",a],[]⟩;again (.builtin "set.__new__" ⟨[.type "set",a],[]⟩)) _ _ s;refine À<|Ψ (F.newCall_set_1 a)<|Æ ⟨ĺ F.plain_set_new _,ĭ F.entry_set_new ?_⟩;rw[Đ F.plain_set_new _];unfold Builtin.«set.__new__» Builtin.Frozenset.newClass;have hsub:=sub_set_self;obtain⟨hp,g,d,tk,os⟩:=s;dsimp only
 wp_walk
 refine ŧ<|Æ ?_;dsimp only;simp only[newObj];exact À<|wpAny_alloc<|Æ<|Æ h
theorem Cp{l:È}{items:Array Ã}{ns:List Int}(hh:A.handled=none)(hl:s.heap.IsList l items)(hi:û items.toList ns)(hb:items.size+1<Ϸ)
  (h:∀(h':ā) (tk:Nat),SetI prog w h' s.heap.objs.size (Κ (fun i=>ns.getD i 0) items.size)->(∀b o,s.heap.get? b=some o->h'.get? b=some o)->Q (.ref s.heap.objs.size) {s with heap:=h',toks:=tk}) :
  wpAny (Û prog w) A (call (.type "set") [.ref l]) Q E s:=by
 obtain⟨c,tl,hmro⟩:=F.called_set.mro;have hmade:=F.called_set.made;have hsub:=F.called_set.sub;have h1:=F.called_set.notType;have h2:=F.called_set.canCreate;have hct:=F.typeCall_set_1<|.ref l;refine wpAny_call<|codeAny_of_tree ?_;show wpAny _ _ (callAny (.type "set") _) _ _ _;refine Æ ⟨Code.quiet_builtin _ (by decide +kernel),ĭ F.entry_type_call ?_⟩;rw[Around.under_plain (weight_type_call_type "set" [.ref l] []) rfl]
 repeat (any_goals (first|assumption|wp_step))
 refine ŷ (EC (.ref l) (E:=E) (Q:=fun v s1=>v=.ref s.heap.objs.size/\s1={s with heap:=s.heap.push (W6<|byT w)}) ⟨rfl,rfl⟩) fun r s1 hr=>?_;cases r with
 |error e=>exact hr
 |ok fl =>
  cases fl with
  |ret obj =>
   obtain⟨rfl,rfl⟩:=hr;have hS:(s.heap.push<|W6<|byT w).get? s.heap.objs.size=some (W6<|byT w):=Ï _ rfl;have hT:Shared.TypeIs {s with heap:=s.heap.push (W6<|byT w)} (.ref s.heap.objs.size) "set":=⟨_,hS,rfl⟩
   have hli:=F.called_set.init.lookup;have hbi:=F.called_set.init.bind<|.ref s.heap.objs.size
   repeat (any_goals (first|assumption|wp_step))
   refine ŷ (codeAny_call_builtin (R:=wants (fun r s2=>r=.none/\∃h' tk,s2={ s with heap:=h',toks:=tk }/\SetI prog w h' s.heap.objs.size (Κ (fun i=>ns.getD i 0) items.size)/\∀b o,s.heap.get? b=some o->h'.get? b=some o) E)
     F.called_set.init.plain F.entry_set_init (check_set_init_1 hT ?_)) fun r s2 hr=>?_
   .have hlS:l<s.heap.objs.size:=by obtain⟨_,e,_⟩:=hl;exact Ñ e
    have hl1:(s.heap.push<|W6<|byT w).IsList l items:=hl.push _;obtain⟨ol,hol,aF,nl,hdl⟩:=id hl1;obtain⟨ocls,odict,odata,oslots⟩:=ol;simp only at aF hdl;subst aF hdl;have hsls:=F.sub_list_set;have hslf:=F.sub_list_frozenset;have ρ:(Value.type "list" == Value.type "dict")=false:=by decide
    unfold Builtin.«set.__init__» noKeywords Builtin.Frozenset.updateFrom;generalize hPI:bV=PI
    wp_walk
    subst hPI;refine Ź hl1<|À<|wpAny_runValue ?_;have hh3:A.in1.in1.in1.handled=none:=by simp[hh]
    have zs:(s.heap.push<|W6<|byT w).objs.size=s.heap.objs.size+1:=ś ..;refine Ca ((Walks.list hh3 _ l (by rw[zs];exact Þ<|ď hlS) items).toS) s.heap.objs.size (by rw[zs];simp only[Ç,Ý,or_false,not_or];exact⟨Þ<|Ė _,ł hlS⟩) (fun i=>ns.getD i 0) (fun i v hv=>IntsAre.int_at hi i v<|by rw[Ą];exact hv) hb (items.size - 0) 0 _ (by omega) (Ĳ _)
     ⟨⟨_,Ï _ rfl,rfl,rfl⟩,hl1.push _⟩ ?_ ?_
    .refine⟨_,#[],0,_,[],Ä _ hS,⟨rfl,rfl,rfl⟩,rfl,fun e he=>by simp at he,by show 0<Ϸ;unfold Ϸ;omega,rfl,⟨fun z=>by show(!byT w)=true;rw[z];rfl,.nil,rfl⟩,.nil,.nil⟩
    .intro s' m x;obtain⟨h',g',d',tk',os'⟩:=s';have eg:g'=s.gens:=m.gens;have ed:d'=s.drawn:=m.drawn;have eo:os'=s.os:=m.os;subst eg ed eo;refine Æ ?_;show wpAny _ _ (ret Value.none) _ _ _;refine Æ ⟨rfl,h',tk',rfl,x,fun b o e=>?_⟩;have hb:=Ñ e;exact m.heap b o (by rw[zs];simp only[Ç,Ý,or_false,not_or];exact⟨Þ hb,Þ<|ď hb⟩)<|Ä _<|Ä _ e
   .cases r with
    |error e=>exact hr
    |ok fl =>
     cases fl with
     |ret r =>
      obtain⟨rfl,h',tk,rfl,x,hk⟩:=hr
      repeat (any_goals (first|assumption|wp_step))
      exact h _ _ x hk
     |_=>exact hr.elim
  |_=>exact hr.elim
end
end L2
namespace L2
open PySem PySem.Spec PyProof.Rows
open PySem.Builtin
theorem BW:cf table "set.__iter__" = some Builtin.«frozenset.__iter__»:=cg (id':="frozenset.__iter__") (by kernel_rfl) rfl (by decide +kernel) (by kernel_rfl)
theorem B1:cf table "set_iterator.__next__" = some Builtin.«set_iterator.__next__»:=entryFor_of_tree (by kernel_rfl)
theorem Cg(a:Ã):ϭ "set_iterator.__next__" ⟨[a],[]⟩:=by unfold ϭ;kernel_rfl
theorem slot_snext:Slot "set_iterator" "__next__" "set_iterator.__next__" :=
 .of (owner:="set_iterator") (n:="__next__") (by rw[Ϣ,ž];kernel_rfl) (by decide +kernel) (by decide +kernel) (by decide +kernel)
  (by first|exact .inl (by decide +kernel)|exact .inr<|by decide +kernel) (by rw[Λ];kernel_rfl)
theorem JH:Slot "set_iterator" "__iter__" "set_iterator.__iter__" :=
 .of (owner:="set_iterator") (n:="__iter__") (by rw[Ϣ,ž];kernel_rfl) (by decide +kernel) (by decide +kernel) (by decide +kernel)
  (by first|exact .inl (by decide +kernel)|exact .inr<|by decide +kernel) (by rw[Λ];kernel_rfl)
theorem CA:cf table "set_iterator.__iter__" = some Builtin.«dict_keyiterator.__iter__»:=cg (id':="dict_keyiterator.__iter__") (by kernel_rfl) rfl (by decide +kernel) (by kernel_rfl)
theorem BA(a:Ã):ϭ "set_iterator.__iter__" ⟨[a],[]⟩:=by unfold ϭ;kernel_rfl
theorem Xy{α:Type}:∀{l:List α}{i:Nat}(h:i<l.length),(l[i]::l.eraseIdx i).Perm l
 |a::l,0,h=>.rfl
 |a::l,i+1,h=>(List.Perm.swap a _ _).trans<|(Xy (l:=l)<|Nat.lt_of_succ_lt_succ h).cons a
theorem UA{α:Type}(f:Nat->Nat):∀(n k:Nat) (l:List α) (out:Array α),l.length=n->(aO f n k l out).toList.Perm (out.toList++l)
 |0,k,l,out,h=>by
  cases l with
  |nil=>unfold aO;simp
  |cons _ _=>cases h
 |n+1,k,l,out,h=>by unfold aO;have Ν:f k % l.length<l.length:=Nat.mod_lt _ (by omega);rw[Ë Ν];dsimp only;refine(UA f n (k+1) _ _<|by rw[aQ Ν];omega).trans ?_;rw[dm,ŗ];exact(Xy Ν).append_left _
theorem AM{α:Type}(f:Nat->Nat)(xs:Array α):(pickOrder f xs).toList.Perm xs.toList:=by unfold pickOrder;simpa using UA f xs.size 0 xs.toList #[] (by simp)
section
variable {prog:à}{w:õ}{A:Ă}{E:Ã->Å->Prop}{s:Å}
variable {n:Nat}
theorem AQ{src:Source}{Q:Nat->Å->Prop}(hn:0<n)(h:∀k d,k<n->Q k {s with drawn:=d}):wpAny (Û prog w) A (choose src n) Q E s :=
 fun _ _ _=>⟨ł hn,h _ _<|Nat.mod_lt _ hn⟩
theorem NK{α:Type}:∀(n:Nat) (xs:List α){s:Å}{Q:List α->Å->Prop},xs.length=n->(∀ys d,ys.Perm xs->Q ys {s with drawn:=d})->wpAny (Û prog w) A (dn n xs) Q E s
 |0,[],s,Q,_,h=>by unfold dn;exact Æ<|h [] s.drawn .nil
 |0,_::_,_,_,h,_=>by cases h
 |n+1,[],_,_,h,_=>by cases h
 |n+1,x::xs,s,Q,hl,h=>by unfold dn;refine À (AQ (by simp) fun k d hk=>?_);rw[Ë hk];dsimp only;refine À (NK n _ (by rw[aQ hk];omega) fun ys d2 hp=>Æ<|h _ d2 ?_);exact(hp.cons _).trans<|Xy hk
def SetIt(h:ā)(it a:È)(f:Ã)(i n ep:Nat):Prop:=∃o,h.get? it=some o/\o.cls=.type "set_iterator"/\o.data=.fields #[f,.int i 0,.ref a,.int n 0,.int ep 0]
variable {it:È} {a:È} {f:Ã} {i:Nat}
theorem SetIt.typeIs{ep:Nat}(h:SetIt s.heap it a f i n ep):s.TypeIs (.ref it) "set_iterator":=by obtain⟨o,h1,h2,_⟩:=h;exact⟨o,h1,h2⟩
structure SetO(h:ā)(a:È)(o:Obj)(es:Array<|Int×Ã)(ep:Nat)(t:Ŭ):Prop where
 at_:h.get? a=some o
 dat:o.data=.set es ep t
 fit:t.fits es.size=true
theorem M3{ep:Nat}{Q:Ã->Å->Prop}(bc:SetIt s.heap it a f i n ep)(h:Q (.ref it) s):wpAny (Û prog w) A (bV<|.ref it) Q E s:=by have hT:=bc.typeIs;refine aK hT JH<|ĉ JH hT CA ?_<|BA _;show wpAny _ _ (ret<|.ref it) _ _ s;exact Æ ⟨_,rfl,"set_iterator",_,hT,slot_snext.lookup,h⟩
variable {Q:Option Ã->Å->Prop}
theorem UH(hh:A.handled=none)(hQ:∀h',(∀b o,s.heap.get? b=some o->h'.get? b=some o)->Q none {s with heap:=h'}) :
  wpAny (Û prog w) A (do raiseNew (<-b5 (.type "StopIteration") []):Sem Fin) (fun _ _=>False) (fun e s'=>∃h',(∀b o,s.heap.get? b=some o->h'.get? b=some o)/\s'={s with heap:=h'}/\s'.TypeIs e "StopIteration") s:=by
 show wpAny _ _ (b5 (.type "StopIteration") [] >>= _) _ _ _;refine À ?_;simp only[b5,newTuple];refine À (þ ?_<|by size_fits);refine À (m:=ź _ _) (Ψ (a:=Value.none) (by first|rfl|(simp only[ź];rfl)) ?_);refine þ ?_ (by size_fits);simp only[raiseNew];refine À<|cT ?_;rw[hh];refine À<|Æ<|wpAny_throw ?_;exact⟨_,fun b o e=>Ä _<|Ä _ e,rfl,_,Ï _ rfl,rfl⟩
theorem WL(hT:s.TypeIs (.ref it) "set_iterator")
  (h:wpAny (Û prog w) A.in1 (Builtin.«set_iterator.__next__» ⟨[.ref it],[]⟩) (fun fin s'=>∃v,fin=.done (.ret v)/\Q (some v) s') (fun e s'=>s'.TypeIs e "StopIteration"/\Q none s') s):wpAny (Û prog w) A (Ŷ<|.ref it) Q E s:=by
 unfold Ŷ;refine À<|af<|ĕ (name:=Str.ofString "__next__") hT slot_snext<|ĉ slot_snext hT B1 ?_<|Cg _;refine ę h (fun fin s' ⟨v,e,q⟩=>⟨v,e,Æ q⟩) fun e s' ⟨t,q⟩=>?_;refine À<|ϕ (T:="StopIteration") (b:=true) t b7 ?_;exact Æ q
def NX(prog:à)(w:õ)(a:È)(o:Obj)(ep:Nat)(f:Nat->Nat)(ord:List Ã):Prop :=
 ∀(A:Ă) (s:Å) (Q:Option (Ã×Nat)->Å->Prop) (E:Ã->Å->Prop) (i:Nat),i<=ord.length->s.heap.get? a=some o->Q (ord[i]?.map (·,f<|i+1)) s->wpAny (Û prog w) A (setNext a (f i) i ep) Q E s
theorem Mm{h:ā}{o:Obj}{vs:Array Ã}{k:Nat}{x:Ã}(ho:h.get? it=some o)(hc:o.cls=.type "set_iterator")(hd:o.data=.fields vs) :
  ∃o',(h.update it (ϧ (·.setIfInBounds k x))).get? it=some o'/\o'.cls=.type "set_iterator"/\o'.data=.fields (vs.setIfInBounds k x) :=
 ⟨_,Ď _ ho<|ϔ<|ő hd _,(Ϲ ..).trans hc,ő hd _⟩
end
theorem Walks.setT{prog:à}{w:õ}{A:Ă}(hh:A.handled=none)(I a:È)(ρ:a≠I){o:Obj}{es:Array (Int×Ã)}{ep:Nat}{t:Ŭ}{f:Nat->Nat}{ord:List Ã}(hl:ord.length=es.size)(nx:NX prog w a o ep f ord) :
  Walks prog w A I [I,a] [I] es.size (fun i v=>ord[i]?=some v) (fun i h=>SetIt h I a (.int (f i) 0) i es.size ep/\SetO h a o es ep t) where
 sub:=fun b hb=>by simp at hb;simp[hb]
 frame:=fun _ _ _ st hk=>⟨by obtain⟨o,h1,h2⟩:=st.1;exact⟨o,hk I (by simp) o h1,h2⟩,hk a (by simp) _ st.2.at_,st.2.dat,st.2.fit⟩
 item:=fun i s Q E hi st hQ=>by obtain⟨st,so⟩:=st;refine WL st.typeIs ?_;obtain⟨oi,h1,h2,h3⟩:=st;show wpAny _ _ (fieldsOf (.ref I) >>= _) _ _ s;refine À<|Ϯ h1 h3 ?_;dsimp only;refine À<|Ũ so.at_ so.dat so.fit ?_;refine Į (fun z=>absurd z<|by simp) fun _=>?_;rw[í,í,í];have hx:ord[i]?=some ord[i]:=Ë (by omega);refine À (nx _ s _ _ i (by omega) so.at_ ?_);rw[hx];dsimp only[Option.map];refine À (Ŀ h1 h3 (by simp) ?_);obtain⟨o2,g1,g2,g3⟩:=Mm (k:=0) (x:=ı<|f<|i+1) h1 h2 h3;refine À (Ŀ g1 g3 (by simp) ?_);obtain⟨o4,g4,g5,g6⟩:=Mm (k:=1) (x:=ı<|(i:Int)+1) g1 g2 g3;have sb:=(ü s.heap I (ϧ (·.setIfInBounds 0 (ı<|f<|i+1)))).trans (ü _ I (ϧ (·.setIfInBounds 1 (ı<|(i:Int)+1))));refine Æ ⟨_,rfl,hQ _ _ s.toks hx ⟨⟨o4,g4,g5,by rw[g6];simp[ı]⟩,?_,so.dat,so.fit⟩ fun b ob hb e=>sb.extBut b ob (fun z=>hb<|by simp[z]) e⟩;exact sb.extBut a _ ρ so.at_
 done:=fun s Q E st hQ=>by
  obtain⟨st,so⟩:=st;refine WL st.typeIs ?_;obtain⟨oi,h1,h2,h3⟩:=st;show wpAny _ _ (fieldsOf (.ref I) >>= _) _ _ s;refine À<|Ϯ h1 h3 ?_;dsimp only;refine À<|Ũ so.at_ so.dat so.fit ?_;refine Į (fun z=>absurd z<|by simp) fun _=>?_;rw[í,í,í];refine À (nx _ s _ _ es.size (by omega) so.at_ ?_);rw[Ŕ<|by omega];dsimp only[Option.map];refine À (Ŀ h1 h3 (by simp) ?_);refine ę (UH (A:=A.in1) (Q:=Q) hh fun h' hk=>?_) (fun _ _ z=>z.elim) fun e s' ⟨h',hk,e2,tt⟩=>⟨tt,?_⟩
  .exact hQ h' s.toks fun b ob hb e=>hk b ob ((ü s.heap I _).extBut b ob (fun z=>hb<|by simp[z]) e)
  .subst e2;exact hQ h' s.toks fun b ob hb e=>hk b ob ((ü s.heap I _).extBut b ob (fun z=>hb<|by simp[z]) e)
 self:=fun _ _ _ _ st hQ=>M3 st.1 hQ
theorem Walks.setD{prog:à}{w:õ}{A:Ă}(hh:A.handled=none)(I a T:È)(ρ:a≠I)(hnT:T≠I){o oT:Obj}{es:Array (Int×Ã)}{ep:Nat}{t:Ŭ}{ks:List Nat}(hl:ks.length=es.size)(hk:∀k∈ks,k<es.size)
  (hT:oT.data=.seq (ks.map fun(k:Nat)=>ı k).toArray) :
  Walks prog w A I [I,a,T] [I] es.size (fun i v=>(ks.map fun k=>(es.getD k (0,.none)).2)[i]?=some v) (fun i h=>SetIt h I a (.ref T) i es.size ep/\SetO h a o es ep t/\h.get? T=some oT) where
 sub:=fun b hb=>by simp at hb;simp[hb]
 frame:=fun _ _ _ st hk=>⟨by obtain⟨o,h1,h2⟩:=st.1;exact⟨o,hk I (by simp) o h1,h2⟩,⟨hk a (by simp) _ st.2.1.at_,st.2.1.dat,st.2.1.fit⟩,hk T (by simp) _ st.2.2⟩
 item:=fun i s Q E hi st hQ=>by
  obtain⟨st,so,sT⟩:=st;refine WL st.typeIs ?_;obtain⟨oi,h1,h2,h3⟩:=st;show wpAny _ _ (fieldsOf (.ref I) >>= _) _ _ s;refine À<|Ϯ h1 h3 ?_;dsimp only;refine À<|Ũ so.at_ so.dat so.fit ?_;refine Į (fun z=>absurd z<|by simp) fun _=>?_;refine À<|ľ sT hT ?_;have hi':i<ks.length:=by omega
  have hx:ks[i]?=some ks[i]:=Ë hi';have hki:=hk ks[i]<|Ķ hi';have hp:((ks.map fun(k:Nat)=>ı k).toArray)[(i:Int).toNat]?=some (.int (ks[i]:Nat) 0):=by rw[í];simp[hx,ı]
  dsimp only;rw[hp];dsimp only;rw[í,í];unfold setNextDrawn;refine À<|À<|ş so.at_ so.dat so.fit ?_;dsimp only;refine Į (fun z=>absurd z<|by simp) fun _=>?_;have he:es[ks[i]]?=some es[ks[i]]:=ù hki;rw[he];dsimp only;refine Æ ?_;refine À (Ŀ h1 h3 (by simp) ?_);obtain⟨o4,g4,g5,g6⟩:=Mm (k:=1) (x:=ı<|(i:Int)+1) h1 h2 h3;have sb:=ü s.heap I (ϧ (·.setIfInBounds 1 (ı<|(i:Int)+1)));refine Æ ⟨_,rfl,hQ _ _ s.toks ?_ ⟨⟨o4,g4,g5,by rw[g6];simp[ı]⟩,⟨sb.extBut a _ ρ so.at_,so.dat,so.fit⟩,sb.extBut T _ hnT sT⟩ fun b ob hb e=>sb.extBut b ob (fun z=>hb<|by simp[z]) e⟩;rw[Ù,hx];simp[μ,hki]
 done:=fun s Q E st hQ=>by
  obtain⟨st,so,sT⟩:=st;refine WL st.typeIs ?_;obtain⟨oi,h1,h2,h3⟩:=st;show wpAny _ _ (fieldsOf (.ref I) >>= _) _ _ s;refine À<|Ϯ h1 h3 ?_;dsimp only;refine À<|Ũ so.at_ so.dat so.fit ?_;refine Į (fun z=>absurd z<|by simp) fun _=>?_;refine À<|ľ sT hT ?_;have hp:((ks.map fun(k:Nat)=>ı k).toArray)[(es.size:Int).toNat]?=none:=by rw[í];simp[hl]
  dsimp only;rw[hp];dsimp only;refine À (Ŀ h1 h3 (by simp) ?_);obtain⟨o4,g4,g5,g6⟩:=Mm (k:=0) (x:=ı 0) h1 h2 h3;refine À (Ŀ g4 g6 (by simp) ?_);refine ę (UH (A:=A.in1) (Q:=fun _ _=>True) hh fun _ _=>trivial) (fun _ _ z=>z.elim) fun e s' ⟨h',hk,e2,tt⟩=>⟨tt,?_⟩
  subst e2;exact hQ h' s.toks fun b ob hb e=>hk b ob ((ü _ I _).extBut b ob (fun z=>hb<|by simp[z])<|(ü s.heap I _).extBut b ob (fun z=>hb<|by simp[z]) e)
 self:=fun _ _ _ _ st hQ=>M3 st.1 hQ
section
variable {prog:à}{w:õ}{a:È}{o:Obj}{es:Array (Int×Ã)}{ep:Nat}{t:Ŭ}
theorem Ew(hb:byT w=true)(hd:o.data=.set es ep t)(hf:t.fits es.size=true):NX prog w a o ep (fun _=>0) ((pickOrder (w.params.setOrder a ep) es).toList.map (·.2)):=fun A s Q E i hil ho h=>by unfold setNext;refine À<|ş ho hd hf ?_;dsimp only;unfold ϟ;refine À<|À<|ŧ<|Æ ?_;have aZ:(Û prog w).w.params.followText "set-order" = true:=hb;dsimp only;rw[aZ];simp only[↓reduceIte,bne_self_eq_false,ċ];refine À ?_;unfold setWalk ϟ;refine À<|ş ho hd hf ?_;dsimp only;refine À<|À<|ŧ<|Æ ?_;dsimp only;rw[aZ];simp only[↓reduceIte];refine À<|ŧ<|Æ<|Æ ?_;dsimp only;rw[Ù,Ą,Option.map_map]at h;exact h
theorem HG(hb:byT w=false)(tb:Tb (byT w) t)(hpl:(!t.plain&&decide (es.size > 1))=false)(hd:o.data=.set es ep t)(hf:t.fits es.size=true) :
  NX prog w a o ep (fun i=>match i with|0=>0|k+1=>t.place.getD k 0+1) (es.toList.map (·.2)):=fun A s Q E i hil ho h=>by
 have e0:∀slot,setNext a slot i ep=(do
     let (es,epoch,t)<-setState a
     if<-ϟ then
       if epoch != ep then ϯ "set_iterator.__next__:elements-changed"
       return ((<-setWalk a)[i]?).map fun e=>(e.2,slot)
     if(!t.plain&&decide (es.size > 1))then ϯ "set_iterator.__next__:the-table-is-plain-no-more"
     (do if !t.led && !es.isEmpty then ϯ "set:maker-not-led")
     let i:=ĵ t.place slot
     return match es[i]?,t.place[i]? with
       |some (_,x),some j=>some (x,j+1)
       | _,_=>none):=fun _=>rfl
 rw[e0];refine À<|ş ho hd hf ?_;dsimp only;unfold ϟ;refine À<|À<|ŧ<|Æ ?_;have aZ:(Û prog w).w.params.followText "set-order" = false:=hb;have hled:=tb.led hb;dsimp only;rw[aZ,hpl,hled];simp only[ċ,↓reduceIte,Bool.not_true,Bool.false_and];refine Æ ?_;have hsz:t.place.size=es.size:=by simp only[SetTable.fits,bAq,beq_iff_eq,decide_eq_true_eq]at hf;exact hf.1
 have fin:∀slot,i<=es.size->Oo t.place slot i->Q (match es[ĵ t.place slot]?,t.place[ĵ t.place slot]? with|some (_,x),some j=>some (x,j+1)|_,_=>none) s:=fun slot hi hc=>by
  rw[A8 (Na tb.ris slot) hc];rw[Ù,Ą]at h;by_cases Ν:i<es.size
  .have h1:es[i]?=some es[i]:=ù Ν;have h2:t.place[i]?=some (t.place[i]'(by omega)):=ù _;rw[h1]at h ⊢;rw[h2];have h3:t.place.getD i 0=t.place[i]'(by omega):=by simp[μ,show i<t.place.size by omega]
   dsimp only[Option.map]at h ⊢;rw[h3]at h;exact h
  .have h1:es[i]?=none:=Ο (by omega);rw[h1]at h ⊢;exact h
 cases i with
 |zero=>exact fin 0 (Ĳ _)<|AF _
 |succ k =>
  have hk:k<t.place.size:=by simp at hil;omega
  refine fin _ (by omega)<|U1 tb.ris ?_;rw[ù hk];simp[μ,hk]
end
structure Near(s s':Å):Prop where
 heap:∀b o,s.heap.get? b=some o->s'.heap.get? b=some o
 gens:s'.gens=s.gens
 os:s'.os=s.os
theorem Fy:∀{vs us:List Ã}{ns:List Int},vs.Perm us->û us ns->∃ms,ms.Perm ns/\û vs ms:=by
 intro vs us ns h;induction h generalizing ns with
 |nil=>exact fun r=>by cases r;exact⟨[],.nil,.nil⟩
 |cons x _ ih =>
  intro r;cases r with
  |cons n t r=>obtain⟨ms,h1,h2⟩:=ih r;exact⟨n::ms,h1.cons n,.cons n t h2⟩
 |swap x y l =>
  intro r;cases r with
  |cons n t r=>cases r with
   |cons m u r=>exact⟨m::n::_,.swap _ _ _,.cons m u<|.cons n t r⟩
 |trans _ _ ih1 ih2 =>intro r;obtain⟨ms,h1,h2⟩:=ih2 r;obtain⟨ks,h3,h4⟩:=ih1 h2;exact⟨ks,h3.trans h1,h4⟩
section
variable {prog:à}{w:õ}{A:Ă}{E:Ã->Å->Prop}{s:Å}
theorem BL{r:È}{Q:Bool->Å->Prop}(hT:s.TypeIs (.ref r) "set")(h:Q false s):wpAny (Û prog w) A (Builtin.List.listLengthHint<|.ref r) Q E s:=by
 unfold Builtin.List.listLengthHint;refine À<|wpAny_specialOf hT PySem.F.slot_set_len.lookup ?_;generalize hid:("set.__len__" : String)=id0
 wp_delta
 rw[show splitId id0=some ("set","__len__") from by subst hid;decide +kernel];subst hid;refine À (ϕ (T:="set") (b:=true) hT (by rw[Λ];kernel_rfl) ?_);refine Į (fun bQ=>absurd bQ<|by decide) fun _=>?_;refine Į (fun _=>?_) (fun bQ=>absurd (by decide +kernel) bQ);exact À<|Ϟ hT<|Æ h
theorem Cc{a:È}{l:List Int}{Q:Ã->Å->Prop}(hh:A.handled=none)(hS:SetI prog w s.heap a l)
  (h:∀s' I fp St vs ms,Near s s'->s.heap.objs.size<=I->(∀b∈fp,b=a\/s.heap.objs.size<=b)->ms.Perm l->û vs ms->Walks prog w A I fp [I] l.length (fun i v=>vs[i]?=some v) St->St 0 s'.heap->Q (.ref I) s') :
  wpAny (Û prog w) A (bV<|.ref a) Q E s:=by
 obtain⟨o,es,ep,t,es0,ho,hex,hd,hel,hb,hf,ht,hp,hi⟩:=id hS;have hsz:es.size=l.length:=by rw[<-Xr hi,Â,<-hp.length_eq,ç]
 rw[<-hsz]at h;have hT:s.TypeIs (.ref a) "set":=⟨o,ho,hex.1⟩
 have Ν:=Ñ ho;refine aK hT F.slot_set_iter<|ĉ F.slot_set_iter hT BW ?_<|F.args_set_iter_1 _;have e0:Builtin.«frozenset.__iter__» ⟨[.ref a],[]⟩=(do
     let n<-ck a
     let d<-(do
       let (es,_,t)<-setState a
       let byText<-ϟ
       return !byText&&(!t.plain&&decide (es.size > 1)))
     let first<-if d then newTuple ((<-dn n (List.range n)).map fun(i:Nat)=>ı i)else pure (ı 0)
     ret (<-newFields "set_iterator" [first,ı 0,.ref a,ı n,ı (<-setEpoch a)])):=rfl
 rw[e0];unfold ck;refine À<|À<|Ũ ho hd hf<|Æ ?_;refine À<|À<|ş ho hd hf ?_;dsimp only;unfold ϟ;refine À<|À<|ŧ<|Æ<|Æ ?_;have ebt:(Û prog w).w.params.followText "set-order" = byT w:=rfl;dsimp only;rw[ebt];have mapP:∀es':List<|Int×Ã,es'.Perm es.toList->∃ms,ms.Perm l/\û (es'.map (·.2)) ms:=fun es' q=>Fy ((q.trans hp).map _) hi;by_cases hdr:(!byT w&&(!t.plain&&decide (es.size > 1)))=true
 .rw[if_pos hdr];refine À (NK es.size (List.range es.size) (by simp) fun ks d hks=>À ?_);have hkl:ks.length=es.size:=by rw[hks.length_eq,Ů]
  refine wpAny_newTuple ?_ (by rw[Â,hkl];exact aN hb);refine À<|wpAny_setEpoch_of (Ä _ ho) hd hf ?_;refine À<|þ<|Æ ⟨_,rfl,"set_iterator",_,⟨_,Ï _ rfl,rfl⟩,slot_snext.lookup,?_⟩;have zs:(s.heap.push { cls:=.type "tuple",dict:=none,data:=.seq (List.map (fun(i:Nat)=>ı i) ks).toArray }).objs.size=s.heap.objs.size+1:=ś ..;obtain⟨ms,m1,m2⟩:=mapP (ks.map fun k=>es.getD k (0,.none)) (by
    refine(hks.map _).trans<|List.Perm.of_eq ?_
    refine List.ext_getElem (by simp) fun i h1 h2=>?_
    have hi:i<es.size:=by simpa using h1
    simp[μ,hi])
  rw[ÿ]at m2;refine h _ _ [_,a,s.heap.objs.size] _ _ ms ⟨fun b o e=>Ä _<|Ä _ e,rfl,rfl⟩ (by rw[zs];exact Ń _) (fun b hb=>?_) m1 m2
   (Walks.setD (o:=o) (oT:={cls:=.type "tuple",dict:=none,data:=.seq (List.map (fun(i:Nat)=>ı i) ks).toArray}) (es:=es) (ep:=ep) (t:=t) (ks:=ks) hh _ a s.heap.objs.size (by rw[zs];exact Þ<|ď Ν) (by rw[zs];exact Þ<|Ė _) hkl (fun k hk=>ŭ.mp<|hks.mem_iff.mp hk) rfl)
   ⟨⟨_,Ï _ rfl,rfl,rfl⟩,⟨Ä _<|Ä _ ho,hd,hf⟩,Ä _<|Ï _ rfl⟩
  simp only[Ç,Ý,or_false]at hb;rcases hb with rfl|rfl|rfl
  .exact .inr (by rw[zs];exact Ń _)
  .exact .inl rfl
  .exact .inr<|Î _
 .rw[if_neg hdr];refine À<|Æ ?_;refine À<|wpAny_setEpoch_of ho hd hf ?_;refine À<|þ<|Æ ⟨_,rfl,"set_iterator",_,⟨_,Ï _ rfl,rfl⟩,slot_snext.lookup,?_⟩;have go:∀(f:Nat->Nat) (es':List<|Int×Ã),f 0=0->es'.Perm es.toList->NX prog w a o ep f (es'.map (·.2))->Q (.ref s.heap.objs.size) {s with heap:=s.heap.push {cls:=.type "set_iterator",dict:=none,data:=.fields [ı 0,ı 0,.ref a,ı es.size,ı ep].toArray}}:=fun f es' f0 hes nx=>by
   obtain⟨ms,m1,m2⟩:=mapP es' hes;have hl:(es'.map (·.2)).length=es.size:=by rw[Â,hes.length_eq,ç]
   refine h _ _ [_,a] _ _ ms ⟨fun b o e=>Ä _ e,rfl,rfl⟩ (Î _) (fun b hb=>?_) m1 m2 (Walks.setT (t:=t) hh _ a (Þ Ν) hl nx) ⟨⟨_,Ï _ rfl,rfl,by rw[f0];rfl⟩,Ä _ ho,hd,hf⟩;simp only[Ç,Ý,or_false]at hb;rcases hb with rfl|rfl
   .exact .inr<|Î _
   .exact .inl rfl
  cases hbt:byT w with
  |true=>exact go _ _ rfl (AM _ es)<|Ew hbt hd hf
  |false =>rw[hbt]at hdr;exact go (fun i=>match i with|0=>0|k+1=>t.place.getD k 0+1) _ rfl .rfl (HG hbt ht (by simpa using hdr) hd hf)
end
end L2
namespace L2
open PySem PySem.Spec PyProof.Rows
theorem Near.trans{a b c:Å}(h:Near a b)(k:Near b c):Near a c:=⟨fun x o e=>k.heap x o<|h.heap x o e,k.gens.trans h.gens,k.os.trans h.os⟩
theorem BS{vs:List Ã}{į:Array Ã}{n:Nat}(h:ItemsOf (fun i v=>vs[i]?=some v) į n)(hn:vs.length=n):į.toList=vs:=by
 refine List.ext_getElem? fun i=>?_;rw[Ą];by_cases hi:i<į.size
 .rw[ù hi];exact(h.2 i _<|ù hi).symm
 .rw[Ο (by omega),Ŕ (by have:=h.1;omega)]
section
variable {prog:à}{w:õ}{A:Ă}{E:Ã->Å->Prop}{s:Å}
variable {a:È} {l:List Int}
theorem Ev(hh:A.handled=none)(hS:SetI prog w s.heap a l)(S:È)(hSa:S≠a)(hs:s.heap.get? S=some {cls:=.type "list",data:=.seq #[] 0}){R:aU->Å->Prop}
  (h:∀s' vs ms c,s'.gens=s.gens->s'.os=s.os->(∀b o,b≠S->s.heap.get? b=some o->s'.heap.get? b=some o)->ms.Perm l->û vs ms->s'.heap.get? S=some {cls:=.type "list",dict:=none,data:=.seq vs.toArray c,slots:=#[]}->R (.ok<|.ret<|.ref S) s') :
  wpAny (Û prog w) A.in1 (Builtin.List.listExtendWith (.ref S) (.ref a)<|.ref S) (fun fin s'=>match fin with|.done f=>R (.ok f) s'|.again c'=>c'.quiet=true/\codeAny (Û prog w) A c' R s') (fun e s'=>R (.error e) s') s:=by
 have hl:=hS.setOf;obtain⟨o,es,ep,t,es0,ho,hex,hd,hel,hb,hf,ht,hp,hi⟩:=id hS;have hsz:l.length<=Ø:=aN (by rw[<-Xr hi,Â,<-hp.length_eq,ç];exact hb);have hT:s.TypeIs (.ref a) "set":=⟨o,ho,hex.1⟩
 have hSs:S<s.heap.objs.size:=Ñ hs;unfold Builtin.List.listExtendWith;refine À<|Ϟ (T:="set") hT ?_;have h1:Builtin.List.listSameRef (.ref S) (.ref a)=false:=by simp[Builtin.List.listSameRef,hSa]
 have h2:(Value.type "set" == Value.type "list")=false:=by decide
 have h3:(Value.type "set" == Value.type "tuple")=false:=by decide
 simp only[h1,h2,h3,Ϥ,ċ,if_false];refine À<|Cc (A:=A.in1) hh hS fun s1 I fp St vs ms ne hI hfp pm ia W st=>?_;have hsf:S∉fp:=fun z=>by
  rcases hfp S z with q|q
  .exact hSa q
  .exact Ę _<|ã hSs q
 have hvl:vs.length=l.length:=(Xr ia).trans pm.length_eq;have key:∀(h':ā) (c tk:Nat),St 0 h'->(∀b o,b≠S->s1.heap.get? b=some o->h'.get? b=some o)->h'.get? S=some {cls:=.type "list",data:=.seq #[] c}->codeAny (Û prog w) A (.builtin "list.extend.loop" ⟨[.ref S,.ref I,.ref S],[]⟩) R {s1 with heap:=h',toks:=tk}:=by
  intro h' c tk du hk hS1;refine codeAny_extend_loopS W.toS hsz S hsf (.ref S) l.length 0 _ #[] c rfl (Ĳ _) du hS1 (ItemsOf.nil _) fun s2 į c2 hm hS2 hacc=>?_;have ev:į.toList=vs:=BS hacc hvl;refine h s2 vs ms c2 (hm.gens.trans ne.gens) (hm.os.trans ne.os) (fun b o hb e=>?_) pm ia (by rw[<-ev];simpa using hS2);refine hm.heap b o (fun z=>?_)<|hk b o hb<|ne.heap b o e;rcases Ç.mp z with q|z
  .exact hb q
  .have z:b=I:=by simpa using z
   subst z;exact Ę _<|ã (Ñ e) hI
 have hS1:=ne.heap S _ hs;refine À<|Ĝ<|BL ⟨o,ne.heap a o ho,hex.1⟩ ?_;refine Į (fun _=>?_) fun _=>Æ ⟨ĺ PySem.F.plain_extend_loop _,key _ 0 _ st (fun b o _ e=>e) hS1⟩;refine À<|Η ?_;refine À ?_;show wpAny _ _ (dj S (·.push .none) >>= fun _=>dj S (·.pop)) _ _ _;refine À<|ω hS1 rfl ?_;have hS2:=Ď (χ (·.push Value.none)) hS1 rfl;refine ω (hz:=by seq_fits) hS2 rfl ?_;have hS3:=Ď (χ (·.pop)) hS2 rfl;refine Æ ⟨ĺ PySem.F.plain_extend_loop _,key _ _ _ ?_ (fun b o hb e=>?_) hS3⟩
 .refine W.frame 0 _ _ st fun b hb o e=>?_;have dB:b≠S:=fun z=>hsf<|z▸hb;exact(ï _ _ dB.symm).trans<|(ï _ _ dB.symm).trans e
 .exact(ï _ _ hb.symm).trans<|(ï _ _ hb.symm).trans e
theorem MY{Q:List Ã->Å->Prop}(hh:A.handled=none)(hS:SetI prog w s.heap a l)(h:∀s' vs ms,Near s s'->ms.Perm l->û vs ms->Q vs s'):wpAny (Û prog w) A (collect<|.ref a) Q E s:=by
 have Ν:a<s.heap.objs.size:=by obtain⟨_,_,_,_,_,e,_⟩:=hS;exact Ñ e
 unfold collect;refine À<|wpAny_runValue<|ĭ F.entry_proto_collect ?_;rw[Đ F.plain_proto_collect _];show wpAny _ A.in1 (newList [] >>= fun l=>again<|.builtin "list.__iadd__" ⟨[l,.ref a],[]⟩) _ _ s;refine À<|þ ?_;refine Æ ⟨ĺ F.plain_list_iadd _,ĭ F.entry_list_iadd ?_⟩;rw[Đ F.plain_list_iadd _];show wpAny _ A.in1 (Builtin.List.listExtendWith (.ref s.heap.objs.size) (.ref a)<|.ref s.heap.objs.size) _ _ _;have fin:∀(q:aU) (s':Å),(∃vs ms c,q=.ok (.ret<|.ref s.heap.objs.size)/\Near s s'/\ms.Perm l/\û vs ms/\s'.heap.get? s.heap.objs.size=some {cls:=.type "list",dict:=none,data:=.seq vs.toArray c,slots:=#[]})->
   wants (fun(a:Ã) s'=>wpAny (Û prog w) A (match a with
     |.ref a=>do
       match (<-load a).data with
       |.seq xs _=>pure xs.toList
       |_=>ϯ "internal:collect"
     | _=>ϯ "internal:collect") Q E s') E q s':=fun q s' ⟨vs,ms,c,e,ne,pm,ia,hg⟩=>by
  subst e;show wpAny _ A (load s.heap.objs.size >>= _) _ _ _;refine À<|wpAny_load hg<|Æ ?_;exact h s' _ ms ne pm (by simpa using ia)
 refine ę (Ev (A:=A) (s:={ s with heap:=s.heap.push { cls:=.type "list",data:=.seq ([]:List Ã).toArray } }) (R:=fun q s'=>∃vs ms c,q=.ok (.ret<|.ref s.heap.objs.size)/\Near s s'/\ms.Perm l/\û vs ms/\s'.heap.get? s.heap.objs.size=some { cls:=.type "list",dict:=none,data:=.seq vs.toArray c,slots:=#[] })
   hh (hS.at fun o e=>Ä _ e) s.heap.objs.size (ł Ν) (Ï _ rfl) fun s' vs ms c g1 g2 g3 pm ia hg=>⟨vs,ms,c,rfl,⟨fun b o e=>g3 b o (Þ<|Ñ e)<|Ä _ e,g1,g2⟩,pm,ia,hg⟩) (fun f s' z=>?_) fun e s' z=>?_
 .cases f with
  |done f=>exact fin _ _ z
  |again c=>exact⟨z.1,ŷ z.2 fun q s2 y=>fin q s2 y⟩
 .exact fin _ _ z
end
variable {X:Cx}
theorem Inv.near{Á:List (È×Obj)}{σ:St}{H:Hp}{s s':Å}(I:Inv X Á σ H s)(ne:Near s s'):Inv X Á σ H s':=by have J:Inv X Á σ H {s with heap:=s'.heap,toks:=s'.toks}:=I.kept ne.heap;exact⟨J.ok,ne.os.trans J.os,by rw[ne.gens];exact J.bare,J.base,J.loc,J.cell,J.free,J.freeC,J.pin,J.hok,J.len⟩
noncomputable def tSS(K:Frag)(te:TE):TE:=fun σ H Q=>Gj te EI σ H fun vs H1=>∃p,∃ns:List Int,vs=[.ref p]/\SqL K H1 p (ns.map V.int)/\ns.length<64/\∀l,H1 l=none->Q (.ref l) (upd H1 l<|.lst<|(sortI<|Κ (fun i=>ns.getD i 0) ns.length).map V.int)
theorem KQ{e:Expr}{te:TE}{p p2 pos pos2:Pos}(hc:X.calm=true)(hg:Gl X "sorted")(hm:X.mg "sorted" = none)(hg2:Gl X "set")(hm2:X.mg "set" = none)(he:PE X e te)(hs:Õ [e] X.env=[(false,eval e X.env)]) :
  PE X (.Call (.Name "sorted" p) [.Call (.Name "set" p2) [e] [] pos2] [] pos) (tSS X.K te):=by
 intro Á s σ H Q I h;refine ĳ (Yt (u:=.builtin "sorted") I hg hm (by kernel_rfl) ?_);refine PyProof.Rows.callWith_builtin1 ?_ rfl rfl;show wpAny _ _ (spliced<|(false,eval (.Call (.Name "set" p2) [e] [] pos2) X.env)::[]) _ _ _;refine Calls.spliced_cons ?_;refine ĳ (Yt (u:=.type "set") I hg2 hm2 (by kernel_rfl) ?_ (by decide)<|by decide);refine callWith_type1 (thn ((ZW he pa_nil hs) pos2 Á s σ H _ I h) fun us s1 ⟨vs,H1,I1,r1,q1⟩=>?_) hs rfl;obtain⟨a,ns,e1,hq,h64,q⟩:=q1;subst e1;obtain⟨u,rfl,ru⟩:=ZK r1;cases ru;obtain⟨î,rv,pl,hz⟩:=I1.list hq;have hlen:=rv.length;rw[Â]at hlen;refine Cp (I1.ok.hd hc) pl.isList (by simpa using Zv rv) (by rw[É];show î.length+1<4096;omega) fun h' tk x hk=>Calls.spliced_nil ?_
 replace x:SetI X.prog X.w h' s1.heap.objs.size<|Κ (fun i=>ns.getD i 0) ns.length:=by rw[hlen];rw[show î.toArray.size=î.length from É]at x;exact x
 have I2:Inv X Á σ H1 {s1 with heap:=h',toks:=tk}:=I1.kept hk;refine Calls.call_function_entry kind_sorted plain_sorted entry_sorted (args_sorted1 _) ?_;unfold Builtin.«sorted»;refine À (m:=checkCount "sorted" 1 1 _)<|Æ ?_;refine À<|MY (A:=X.A.in1) (I1.ok.hd hc) x fun s3 vs ms ne pm ia=>?_;have I3:=I2.near ne;have hvl:vs.length<64:=by rw[Xr ia,pm.length_eq];exact ß (ao _ _) (by omega)
 refine À (ah ?_<|by unfold Ø;omega);have hoL:(s3.heap.push<|ţ "list" vs.toArray 0).get? s3.heap.objs.size=some (ţ "list" vs.toArray 0):=Ï _ rfl;refine À<|Ĝ<|ĉ slot_list_sort ⟨_,hoL,rfl⟩ entry_list_sort (list_sort_tree hoL ia hvl fun out bO a1 a2 a3=>⟨_,rfl,?_⟩)<|args_list_sort _;have e:=Yq (a2.trans pm) a3;subst e;obtain⟨n,hat⟩:=sortedHeap_at (out:=out) hoL;refine Æ ⟨_,rfl,.ref s3.heap.objs.size,_,I3.laid (a:=s3.heap.objs.size) (o:=.lst<|(sortI<|Κ (fun i=>ns.getD i 0) ns.length).map V.int) (t':=s3.toks) (fun b o e=>?_) (Î _) ?_,rfl,q _<|I3.hok.fresh<|Î _⟩
 .have hb:=Ñ e;rw[sortedHeap_old (Þ hb)<|by rw[ce];exact ď hb];exact Ä _ e
 .exact⟨by rw[Â,Ys];have:=ao (fun i=>ns.getD i 0) ns.length;unfold Ø;omega,out.toList,n,Yy a1,by simpa[ţ]using hat⟩
end L2
namespace Snd
open PySem L2
variable {i:Inf}{X:Cx}{Φ:O.Fs}
theorem Nw{e:Expr}{m:O.E}{p p2 pos pos2:Pos}(hc:X.calm=true)(hK:X.K=i.K)(he:PE X e<|tE X i Φ m)(hg:Gl X "sorted")(hm:X.mg "sorted" = none)(hg2:Gl X "set")(hm2:X.mg "set" = none)(Γ:Õ [e] X.env=[(false,eval e X.env)]) :
  PE X (.Call (.Name "sorted" p) [.Call (.Name "set" p2) [e] [] pos2] [] pos) (tE X i Φ<|.bi .sortedSet<|.cons m .nil):=by
 refine(KQ hc hg hm hg2 hm2 he Γ).imp fun σ H Q ⟨env,G,Qm,Em,p,w,c⟩=>?_;rw[O.q_e_bi,O.q_a_cons]at w;change tE X i Φ m σ H _;refine one p w fun v G1 H1 x k1 p1 r q=>?_;rw[O.q_a_nil]at q
 replace q:(O.biSortedSet G1 v).wp G1 Qm:=q
 unfold O.biSortedSet at q;cases z:O.sortOf G1 v with
 |none=>rw[z]at q;exact(Zj q).elim
 |some ns =>
  rw[z]at q;dsimp only at q;split at q
  .rename_i h4;obtain⟨a,rfl,hs⟩:=Dl p1.hp r z;refine⟨a,ns,rfl,by rw[hK];exact hs,h4,?_⟩;rw[JN<|CL ns];exact ZU p1.hp (KS q) (c.go k1) fun p hp=>⟨_,upd_same,RVs.ints _⟩
  .exact(Zj q).elim
section
variable {K:Frag}{H H':Hp}
structure KeepL(H H':Hp):Prop where
 t:∀a xs,H a=some (.tup xs)->H' a=some (.tup xs)
 f:∀a o xs,H a=some (.frz o<|.lst xs)->H' a=some (.frz o<|.lst xs)
mutual
theorem RV.keepL(k:KeepL H H'):∀{v:O.Val}{x:V},RV K H v x->RV K H' v x
 |_,_,.non=>.non
 |_,_,.bl b=>.bl b
 |_,_,.int i=>.int i
 |_,_,.str s=>.str s
 |_,_,.tup (.inl e) r=>.tup (.inl<|k.t _ _ e)<|RVs.keepL k r
 |_,_,.tup (.inr e) r=>.tup (.inr e)<|RVs.keepL k r
 |_,_,.ref a=>.ref a
 |_,_,.scr (.inl ⟨o,e⟩)=>.scr<|.inl ⟨o,k.f _ _ _ e⟩
 |_,_,.scr (.inr e)=>.scr<|.inr e
 |_,_,.key e=>.key<|k.t _ _ e
theorem RVs.keepL(k:KeepL H H'):∀{vs:List O.Val}{xs:List V},RVs K H vs xs->RVs K H' vs xs
 |_,_,.nil=>.nil
 |_,_,.cons r t=>.cons (RV.keepL k r)<|RVs.keepL k t
end
theorem RKs.keepL(k:KeepL H H'):∀{kvs:List (O.Val×O.Val)}{ps:List (Key×V)},RKs K H kvs ps->RKs K H' kvs ps
 |_,_,.nil=>.nil
 |_,_,.cons a r t=>.cons a (r.keepL k)<|RKs.keepL k t
theorem RTs.keepL(k:KeepL H H'):∀{kvs:List (O.Val×O.Val)}{ps:List (List Key×V)},RTs K H kvs ps->RTs K H' kvs ps
 |_,_,.nil=>.nil
 |_,_,.cons r t=>.cons (r.keepL k)<|RTs.keepL k t
theorem RFs.keepL(k:KeepL H H'):∀{fs:List (String×O.Val)}{ps:List (Str×V)},RFs K H fs ps->RFs K H' fs ps
 |_,_,.nil=>.nil
 |_,_,.cons r t=>.cons (r.keepL k)<|RFs.keepL k t
theorem REn.keepL{env:O.Env}{σ:St}(r:REn K H env σ)(k:KeepL H H'):REn K H' env σ:=⟨r.len,fun i v e=>by
  obtain⟨x,h1,h2⟩:=r.get i v e
  exact⟨x,h1,h2.keepL k⟩⟩
variable {a:È}
theorem RO.moveL{o:O.Ob}(r:RO i H a o)(k:KeepL H H')(e:H' a=H a):RO i H' a o:=by
 cases o with
 |lst xs=>obtain⟨vs,q,r⟩:=r;exact⟨vs,e.trans q,r.keepL k⟩
 |dct kvs=>obtain⟨ps,q,r⟩:=r;exact⟨ps,e.trans q,r.keepL k⟩
 |ins C fs=>obtain⟨c,dx,ps,h0,h,q,r⟩:=r;exact⟨c,dx,ps,h0,h,e.trans q,r.keepL k⟩
 |exc C=>obtain⟨c,h,q⟩:=r;exact⟨c,h,e.trans q⟩
 |frz kvs=>obtain⟨o,ps,q,r⟩:=r;exact⟨o,ps,e.trans q,r.keepL k⟩
 |dtp kvs=>obtain⟨ps,q,r⟩:=r;exact⟨ps,e.trans q,r.keepL k⟩
variable {o:Obj} {ps:List (Key×V)}
theorem Xd(e:H a=some (.frz o<|.dK ps)):KeepL H (upd H a<|.dK ps) :=
 ⟨fun b xs q=>by rw[upd_ne<|by rintro rfl;rw[e]at q;cases q];exact q,fun b p xs q=>by rw[upd_ne<|by rintro rfl;rw[e]at q;cases q];exact q⟩
theorem RH.thaw{G:O.Hs}{kvs:List (O.Val×O.Val)}(g:RH i G H)(e:H a=some (.frz o<|.dK ps))(r:RKs i.K H kvs ps):RH i (O.upd G a<|.dct kvs)<|upd H a<|.dK ps:=fun b p q=>by
 by_cases hb:b=a
 .subst hb;rw[O.upd_same]at q;cases q;exact⟨ps,upd_same,r.keepL<|Xd e⟩
 .rw[O.upd_ne hb]at q;exact(g b p q).moveL (Xd e)<|upd_ne hb
theorem RKs.len:∀{kvs:List (O.Val×O.Val)}{ps:List (Key×V)},RKs K H kvs ps->kvs.length=ps.length
 |_,_,.nil=>rfl
 |_,_,.cons _ _ t=>by rw[Ì,Ì,RKs.len t]
theorem RKs.at:∀{kvs:List (O.Val×O.Val)}{ps:List (Key×V)}{n:Nat}{c:Key}{x:V},RKs K H kvs ps->ps[n]?=some (c,x)->∃k v,kvs[n]?=some (k,v)/\Wt k c/\RV K H v x
 |_,_,n,_,_,.nil,e=>by simp at e
 |_,_,0,_,_,.cons hk r _,e=>by simp at e;obtain⟨rfl,rfl⟩:=e;exact⟨_,_,rfl,hk,r⟩
 |_,_,n+1,_,_,.cons _ _ t,e=>by obtain⟨k,v,h1,h2⟩:=RKs.at (n:=n) t (by simpa using e);exact⟨k,v,by simpa using h1,h2⟩
theorem DC{k:O.Val}{c:Key}(h:Wt k c):RV K H k<|kV c:=by
 cases k with
 |int j=>cases c with
  |inl l=>have h:j=l:=h;subst h;exact .int _
  |inr _=>exact(show False from h).elim
 |str s=>cases c with
  |inl _=>exact(show False from h).elim
  |inr t=>have h:t=Str.ofString s:=h;subst h;exact .str _
 |_=>exact(show False from h).elim
end
variable {H0:Hp} {a:È} {o:Obj} {ps:List (Key×V)} {kvs:List (O.Val×O.Val)}
theorem Co(e0:H0 a=some (.frz o<|.dK ps))(r0:RKs i.K H0 kvs ps):ItOk i H0 (Iti a o ps) (fun g=>g a=some (.frz kvs)) (kvs.map<|O.itemOf false) where
 go:=fun n G H v k g e hv=>by
  have e1:=k.f _ _ _ e0;rw[Ù]at hv;obtain⟨p,hp,rfl⟩:=Ú.mp hv;have hn:n<ps.length:=by rw[<-r0.len];exact(Í.mp hp).1
  refine⟨⟨e1,hn⟩,fun x H' ⟨q,c,y,ex,hq,hy,eH⟩=>?_⟩;subst ex eH;obtain⟨k2,v2,h1,h2,h3⟩:=(r0.keep k).at hy;rw[hp]at h1;cases h1;have kk:Keep H<|upd H q<|.tup [kV c,y]:=Keep.new hq;exact⟨kk,K0 g hq,.tup (.inl upd_same)<|.cons (DC h2)<|.cons (h3.keep kk) .nil⟩
 stop:=fun n G H k g e hn=>⟨k.f _ _ _ e0,by rw[<-r0.len];simpa using hn⟩
theorem EW(e0:H0 a=some (.frz o<|.dK ps))(r0:RKs i.K H0 kvs ps):ItOk i H0 (Itk a o ps) (fun g=>g a=some (.frz kvs)) (kvs.map<|O.itemOf true) where
 go:=fun n G H v k g e hv=>by
  have e1:=k.f _ _ _ e0;rw[Ù]at hv;obtain⟨p,hp,rfl⟩:=Ú.mp hv;have hn:n<ps.length:=by rw[<-r0.len];exact(Í.mp hp).1
  refine⟨⟨e1,hn⟩,fun x H' ⟨eH,c,y,hy,ex⟩=>?_⟩;subst ex eH;obtain⟨k2,v2,h1,h2,h3⟩:=(r0.keep k).at hy;rw[hp]at h1;cases h1;exact⟨Keep.refl _,g,DC h2⟩
 stop:=fun n G H k g e hn=>⟨k.f _ _ _ e0,by rw[<-r0.len];simpa using hn⟩
variable {tg:Expr} {pos:Pos} {body:List Ļ} {q:O.Pt} {m:O.E} {mb:O.Ss}
theorem Um{ū:Expr}{kb:Bool}{J:È->Obj->List (Key×V)->It}(hp:ϲ (Û X.prog X.w) X.A X.env X.xe)(hc:X.calm=true)(hi:PI X tg ū<|Ii X J<|tE X i Φ m)(hg:PG X tg<|gPt i q)(hb:PSs X body<|tBl X i Φ mb)
  (hs:∀x,Ě ū X.env x=pure x) (hJ:∀(H0:Hp) (a:È) (o:Obj) (ps:List<|Key×V) (kvs:List<|O.Val×O.Val),H0 a=some (.frz o<|.dK ps)->RKs i.K H0 kvs ps->ItOk i H0 (J a o ps) (fun g=>g a=some (.frz kvs)) (kvs.map<|O.itemOf kb)) :
  PS X (.For tg ū body [] pos) (tSt X i Φ<|.forI kb q m mb):=by
 intro Á s σ H D I ⟨env,G,N,R,B,C,Xe,p,w,c⟩;refine ES (Bw hp hc hi hg hb hs) Á s σ H D I ?_;refine one p.pre w fun v G1 H1 x k1 p1 rx w'=>?_;obtain⟨a,e1,w''⟩:=go_some w';obtain⟨kvs,e2,w1⟩:=go_some w'';clear w' w'';have ev:v=.ref a:=by
  cases v with
  |ref b=>cases e1;rfl
  |_=>cases e1
 subst ev;cases rx.ref_inv;have eG:G1 a=some (.dct kvs):=by
  cases z:G1 a with
  |none=>rw[z]at e2;cases e2
  |some o=>rw[z]at e2;cases o<;>first|(cases e2;rfl)|cases e2
 obtain⟨ps,ha,hr⟩:=p1.hp a _ eG;refine⟨a,ps,rfl,ha,fun o h0=>?_⟩;have k2:Keep H1<|upd H1 a<|.frz o<|.dK ps:=Keep.put (fun xs z=>by rw[ha]at z;cases z) fun p u z=>by rw[ha]at z;cases z
 have g2:RH i (O.upd G1 a<|.frz kvs)<|upd H1 a<|.frz o<|.dK ps:=p1.hp.put k2 ⟨o,ps,upd_same,hr.keep k2⟩;have it:=hJ _ a o ps kvs upd_same<|hr.keep k2;have aB:∀{H':Hp}{G':O.Hs},Keep (upd H1 a<|.frz o<|.dK ps) H'->RH i G' H'->H' a=some (.frz o<|.dK ps)/\RKs i.K H' kvs ps/\Keep H (upd H' a<|.dK ps):=fun{H' G'} k g=>by
  have e:=k.f a o _ upd_same;refine⟨e,(hr.keep k2).keep k,fun b xs z=>?_,fun b o' u z=>?_⟩
  .have z1:=k1.t b xs z;have hb:b≠a:=by rintro rfl;rw[ha]at z1;cases z1
   rw[upd_ne hb];exact k.t b xs (by rw[upd_ne hb];exact z1)
  .have z1:=k1.f b o' u z;have hb:b≠a:=by rintro rfl;rw[ha]at z1;cases z1
   rw[upd_ne hb];exact k.f b o' u (by rw[upd_ne hb];exact z1)
 have fin:∀ŝ Ś G' H',Keep (upd H1 a<|.frz o<|.dK ps) H'->RH i G' H'->REn i.K H' ŝ Ś->(G' a=some (.frz kvs)/\N ŝ (O.upd G' a<|.dct kvs))->(D.thaw X).nx Ś H':=fun ŝ Ś G' H' k g en ⟨_,n⟩=>by obtain⟨b1,b2,b3⟩:=aB k g;exact⟨a,o,ps,b1,h0,c.nx ŝ Ś _ _ b3 (g.thaw b1 b2) (en.keepL<|Xd b1) n⟩
 have ret:∀v G' H' x,Keep (upd H1 a<|.frz o<|.dK ps) H'->RH i G' H'->RV i.K H' v x->(G' a=some (.frz kvs)/\R v (O.upd G' a<|.dct kvs))->(D.thaw X).rt x H':=fun v G' H' x k g r ⟨_,n⟩=>by obtain⟨b1,b2,b3⟩:=aB k g;exact⟨a,o,ps,b1,h0,c.rt v _ _ x b3 (g.thaw b1 b2) (r.keepL<|Xd b1) n⟩
 have xo:∀Hq,XW X (XKS i Hq fun _ _ _=>False):=fun Hq=>fun _ _ _ _ _ _ _ _ _ _ ⟨_,_,_,_,_,_,_,_,z⟩=>z.elim;generalize hxs:kvs.map (O.itemOf kb)=xs at w1 it;generalize Γ:(fun g:O.Hs=>g a=some (.frz kvs))=st at w1 it;refine⟨fun n m Ś H'=>n+m=xs.length/\∃ŝ G',Keep (upd H1 a<|.frz o<|.dK ps) H'/\RH i G' H'/\REn i.K H' ŝ Ś/\O.wFor st (fun v e g K M=>O.go (O.bind q g v e) fun e2=>O.wSs Φ mb e2 g K (fun u g2=>g2 a=some (.frz kvs)/\R u (O.upd g2 a<|.dct kvs)) M K fun _ _ _=>False) (fun e g=>g a=some (.frz kvs)/\N e (O.upd g a<|.dct kvs)) (xs.drop n) ŝ G',⟨xs.length,by omega,env,_,Keep.refl _,g2,(p.en.keep k1).keep k2,by simpa using w1⟩,?_⟩;rintro n m Ś H' ⟨hnm,ŝ,G',k3,g3,e3,w3⟩;by_cases hn:n<xs.length
 .right;have hd:xs.drop n=xs[n]::xs.drop (n+1):=Β hn;rw[hd]at w3;obtain⟨s2,w3⟩:=w3;have hv:xs[n]?=some xs[n]:=Ë hn;obtain⟨a1,a2⟩:=it.go n G' H' xs[n] k3 g3 s2 hv;refine⟨a1,fun σ4 H4=>∃cD G4,Keep (upd H1 a<|.frz o<|.dK ps) H4/\RH i G4 H4/\REn i.K H4 cD σ4/\O.wFor st (fun v e g K M=>O.go (O.bind q g v e) fun e2=>O.wSs Φ mb e2 g K (fun u g2=>g2 a=some (.frz kvs)/\R u (O.upd g2 a<|.dct kvs)) M K fun _ _ _=>False) (fun e g=>g a=some (.frz kvs)/\N e (O.upd g a<|.dct kvs)) (xs.drop<|n+1) cD G4,fun σ4 H4 h=>⟨m - 1,by omega,by omega,h⟩,fun x H4 hy=>?_⟩;obtain⟨k4,g4,r4⟩:=a2 x H4 hy;obtain⟨db,e5,w5⟩:=go_some w3;refine⟨xs[n],ŝ,G',db,r4,g4,e3.keep k4,e5,fun σ5 h5=>?_⟩;refine⟨db,G',_,_,_,_,_,⟨h5,g4,xo _⟩,w5,⟨fun env6 σ6 G6 H6 k6 g6 e6 w6=>?_,fun v6 G6 H6 x6 k6 g6 r6 w6=>?_,fun env6 σ6 G6 H6 k6 g6 e6 w6=>?_,fun env6 σ6 G6 H6 k6 g6 e6 w6=>?_⟩⟩
  .exact⟨env6,G6,(k3.trans k4).trans k6,g6,e6,w6⟩
  .exact ret v6 G6 H6 x6 ((k3.trans k4).trans k6) g6 r6 w6
  .exact fin env6 σ6 G6 H6 ((k3.trans k4).trans k6) g6 e6 w6
  .exact⟨env6,G6,(k3.trans k4).trans k6,g6,e6,w6⟩
 .left;have hd:xs.drop n=[]:=ģ (by omega);rw[hd]at w3;exact⟨it.stop n G' H' k3 g3 w3.1 (by omega),fin ŝ Ś G' H' k3 g3 e3 w3.2⟩
variable {kk:Nat} {d:Expr}
theorem FK{es:List Expr}{tp ō Ť:Pos}(hp:ϲ (Û X.prog X.w) X.A X.env X.xe)(hc:X.calm=true)(hd:PE X d<|tE X i Φ m)(hg:PG X (.Tuple es kk tp)<|gPt i q)(hb:PSs X body<|tBl X i Φ mb)
  (av:ħ d "items" X.env (eval d X.env)=eval d X.env) (aw:(ō.endLine==Ť.line)=true) (hs:∀x,Ě (.Call (.Attribute d "items" ō) [] [] Ť) X.env x=pure x) :
  PS X (.For (.Tuple es kk tp) (.Call (.Attribute d "items" ō) [] [] Ť) body [] pos) (tSt X i Φ<|.forI false q m mb) :=
 Um hp hc (B9 hd av aw) hg hb hs fun _ _ _ _ _ e r=>Co e r
theorem E8(hp:ϲ (Û X.prog X.w) X.A X.env X.xe)(hc:X.calm=true)(hd:PE X d<|tE X i Φ m)(hg:PG X tg<|gPt i q)(hb:PSs X body<|tBl X i Φ mb)(hs:∀x,Ě d X.env x=pure x) :
  PS X (.For tg d body [] pos) (tSt X i Φ<|.forI true q m mb) :=
 Um hp hc (Ey hd) hg hb hs fun _ _ _ _ _ e r=>EW e r
theorem MQ(ă:List<|List Int):∀(k:Nat) (x:List Int) (r:List<|List Int),ă.take (k+1)=x::r->k<ă.length->O.minR x r=ă.getD (Ģ (btL fun n=>ă.getD n []) k) []
 |0,x,r,h,hk=>by
  cases ă with
  |nil=>cases h
  |cons y ys=>simp at h;obtain⟨rfl,rfl⟩:=h;rfl
 |k+1,x,r,h,hk=>by
  cases ă with
  |nil=>cases h
  |cons y ys =>
   rw[ϣ]at h;injection h with h1 h2;subst h1 h2;have bp:k<ys.length:=by simpa using hk
   have ih:=MQ (y::ys) k y (ys.take k) (by rw[ϣ]) (by simp;omega);have e:ys.take (k+1)=ys.take k++[ys[k]]:=by rw[ů];simp[bp]
   have app:∀(b:List Int) (l:List<|List Int) (z:List Int),O.minR b (l++[z])=if O.lexI z (O.minR b l)then z else O.minR b l:=by
    intro b l z;induction l generalizing b with
    |nil=>rfl
    |cons w l ih=>exact ih _
   rw[e,app,ih];have e2:(y::ys).getD (k+1) []=ys[k]:=by simp[bp]
   show _=(y::ys).getD (if btL (fun n=>(y::ys).getD n []) (k+1) (Ģ (btL fun n=>(y::ys).getD n []) k)=true then k+1 else Ģ (btL fun n=>(y::ys).getD n []) k) [];have eb:btL (fun n=>(y::ys).getD n []) (k+1) (Ģ (btL fun n=>(y::ys).getD n []) k)=O.lexI ys[k] ((y::ys).getD (Ģ (btL fun n=>(y::ys).getD n []) k) []):=by rw[ME,<-e2];rfl
   rw[eb];cases O.lexI ys[k] ((y::ys).getD (Ģ (btL fun n=>(y::ys).getD n []) k) [])with
   |true=>rw[if_pos rfl,if_pos rfl,e2]
   |false=>rw[if_neg (by decide),if_neg<|by decide]
theorem Uq{G:O.Hs}{H:Hp}{xs:List O.Val}{us:List V}{w:List Int}{r:List (List Int)}{y:V}(h2:RVs i.K H xs us)(h3:(w::r).length=us.length)(h5:xs=(w::r).map fun n=>.tup<|n.map .int)(hy:us[Ģ (btL fun n=>(w::r).getD n [])<|us.length - 1]?=some y):RV i.K H (.tup<|(O.minR w r).map .int) y:=by
 rw[MQ (w::r) ((w::r).length - 1) w r (by simp)<|by simp];rw[<-h3]at hy;have Ν:Ģ (btL fun n=>(w::r).getD n []) ((w::r).length - 1)<(w::r).length:=by have:=Jo (btL fun n=>(w::r).getD n [])<|(w::r).length - 1;simp only[Ì]at this ⊢;omega
 generalize hj:Ģ (btL fun n=>(w::r).getD n []) ((w::r).length - 1)=j at hy Ν ⊢;have hxj:xs[j]?=some (.tup<|((w::r).getD j []).map .int):=by rw[h5,Ù,Ë Ν];simp[ô,Ë Ν]
 obtain⟨x2,hx2,rx2⟩:=h2.get hxj;rw[hy]at hx2;cases hx2;exact rx2
def C3(K:Frag):List V->Hp->VK->Prop:=fun xs H Q=>∃a us,∃ă:List<|List Int,xs=[.ref a]/\SqL K H a us/\ă.length=us.length/\(∀i,i<ă.length->∃p,us[i]?=some (.ref p)/\SqT K H p ((ă.getD i []).map V.int))/\us≠[]/\∀x,us[Ģ (btL fun i=>ă.getD i [])<|us.length - 1]?=some x->Q x H
theorem Ai(hc:X.calm=true)(hu:X.A.units+1<Ğ):CallR X (.builtin "min")<|C3 X.K:=by intro Á s σ H xs us Q I r h;obtain⟨a,us,ă,rfl,hl,hr,ht,h0,q1⟩:=h;obtain⟨u,rfl,ru⟩:=ZK r;cases ru;exact OA hc hu I hl hr ht h0 q1
theorem FV:BiOk i .minL fun xs H Q=>((∃p,∃ns:List Int,xs=[.ref p]/\SqT i.K H p (ns.map V.int)/\ns≠[]/\∀M,M∈ns->(∀a∈ns,M<=a)->Q (.int M) H)\/∃p,∃ns:List Int,xs=[.ref p]/\SqL i.K H p (ns.map V.int)/\ns≠[]/\∀M,M∈ns->(∀a∈ns,M<=a)->Q (.int M) H)\/C3 i.K xs H Q:=by
 intro vs G H xs Q Qm g r w c;obtain⟨v,rfl,w2⟩:=YI w;clear w;have w:=w2;clear w2;obtain⟨x,rfl,rx⟩:=r.inv1;unfold O.biMinL at w;cases z:O.pairI v with
 |some p =>
  rw[z]at w;obtain⟨a,rfl,hs⟩:=BR rx z;refine .inl (.inl ⟨a,[p.1,p.2],rfl,hs,by simp,fun M h1 h2=>?_⟩);have e:M=if p.2<p.1 then p.2 else p.1:=by have a1:=h2 p.1 (by simp);have a2:=h2 p.2 (by simp);simp only[Ç,Ý,or_false]at h1;split<;>omega
  rw[e];exact c _ G H _ (Keep.refl H) g (.int _)<|Zg w
 |none =>
  rw[z]at w;dsimp only at w;have rws:((match (O.asLst G v).bind O.rowsOf with|some (x::r)=>.val (.tup<|(O.minR x r).map .int)|_=>.no:O.Rs)).wp G Qm->C3 i.K [x] H Q:=fun w=>by
   cases z3:(O.asLst G v).bind O.rowsOf with
   |none=>rw[z3]at w;exact(Zj w).elim
   |some ă =>
    rw[z3]at w;cases ă with
    |nil=>exact(Zj w).elim
    |cons y ys =>obtain⟨zs,z1,z2⟩:=æ.mp z3;obtain⟨a,us,rfl,h1,h2⟩:=X9 g rx z1;obtain⟨h3,h4,h5⟩:=Jf h2 z2;refine⟨a,us,_,rfl,h1,h3,h4,(fun e=>by rw[e]at h3;cases h3),fun x hx=>?_⟩;exact c _ G H _ (Keep.refl H) g (Uq (G:=G) h2 h3 h5 hx)<|Zg w
  cases z2:(O.tupI v).or (O.intsAt G v)with
  |none=>rw[z2]at w;exact .inr<|rws w
  |some ns =>
   rw[z2]at w;cases ns with
   |nil=>exact .inr<|rws w
   |cons n ns =>
    have fin:∀M,M∈n::ns->(∀a∈n::ns,M<=a)->Q (.int M) H:=fun M h1 h2=>by have h3:=Ap (ns:=n::ns) (by simp);obtain rfl:M=O.minI (n::ns):=Int.le_antisymm (h2 _ h3.1)<|h3.2 _ h1;exact c _ G H _ (Keep.refl H) g (.int _)<|Zg w
    cases v with
    |tup ys =>
     have z3:O.intsOf ys=some (n::ns):=by
      have z4:(O.intsOf ys).or none=some (n::ns):=z2
      rwa [Option.or_none]at z4
     cases rx with
     |tup hp hr =>cases ZB z3 hr;exact .inl (.inl ⟨_,_,rfl,Zf hp,by simp,fin⟩)
    |ref b =>obtain⟨a,rfl,hs⟩:=BH g rx z2;exact .inl (.inr ⟨a,n::ns,rfl,hs,by simp,fin⟩)
    |_=>cases z2
theorem HA{e:Expr}{p kp kpos:Pos}(hc:X.calm=true)(hu:X.A.units+1<Ğ)(hK:X.K=i.K)(hg:Gl X "min")(hm:X.mg "min" = none)(he:PE X e<|tE X i Φ m)(hs:Õ [e] X.env=[(false,eval e X.env)]) :
  PE X (.Call (.Name "min" p) [e] [⟨some "default",.Constant .none kk kp,kpos⟩] pos) (tE X i Φ<|.bi .minD<|.cons m .nil):=by
 refine(E0 hc hu hg hm (ZW he pa_nil<|by rw[hs];rfl) hs).imp fun σ H Q ⟨env,G,Qm,Em,p,w,c⟩=>?_;change tE X i Φ m σ H _;refine one p w fun v G1 H1 x k1 p1 r q=>?_
 replace q:(O.biMinD G1 v).wp G1 Qm:=q
 cases v with
 |ref a =>
  cases r.ref_inv;unfold O.biMinD at q;dsimp only at q;cases z:(O.lsOf<|G1 a).bind O.rowsOf with
  |none=>rw[z]at q;exact(Zj q).elim
  |some ă =>
   obtain⟨xs,z1,z2⟩:=æ.mp z;obtain⟨us,h1,h2⟩:=Zt p1.hp z1;obtain⟨h3,h4,h5⟩:=Jf h2 z2;rw[z]at q;refine⟨a,us,ă,rfl,by rw[hK];exact h1,h3,by rw[hK];exact h4,fun e0=>?_,fun e0 y hy=>?_⟩
   .subst e0;cases ă with
    |nil=>exact c _ G1 H1 _ k1 p1.hp .non<|Zg q
    |cons _ _=>cases h3
   .cases ă with
    |nil=>exact absurd (bx.mp h3.symm) e0
    |cons w r =>exact c _ G1 H1 _ k1 p1.hp (Uq (G:=G1) h2 h3 h5 hy)<|Zg q
 |_=>exact(Zj q).elim
structure Md where
 N:List Str
 sc:Ž
 cs:List<|String×O.Val
 fs:List String
 cm:Bool
 cl:List String
 ms:List<|String×String
 fl:List String
 xs:List String
noncomputable def Md.nmOf(c:Md)(j:Nat):Str:=c.N.getD j Str.empty
noncomputable def Md.vis(c:Md)(x:Str):Bool:=match c.sc.names.lookup x with
 |some .local=>true
 |some .cell=>true
 |some .free=>true
 |_=>false
noncomputable def Md.loc(c:Md)(x:Str):Bool:=c.sc.names.lookup x==some .local||c.sc.names.lookup x==some .cell
noncomputable def Md.gl(c:Md)(x:Str):Bool:=c.sc.names.lookup x==some .globalImplicit
noncomputable def nm(x:Str):Bool:=!(x==("__debug__" : Str)) && !(x==("__classdict__" : Str)) && !(x==("__name__" : Str))
noncomputable def dE:Expr:=.Name Str.empty ⟨0,0,0,0⟩
noncomputable def mix:List (Option Expr)->List Expr->List Expr
 |k::ks,v::vs=>k.getD dE::v::mix ks vs
 |_,_=>[]
noncomputable def sub:Expr->List Expr
 |.BoolOp _ xs _=>xs
 |.BinOp a _ b _=>[a,b]
 |.UnaryOp _ a _=>[a]
 |.IfExp a b c _=>[a,b,c]
 |.Compare a _ bs _=>a::bs
 |.Call f as ks _=>f::(as++ks.map (·.value))
 |.FormattedValue a _ _ _=>[a]
 |.JoinedStr vs _=>vs
 |.Attribute a _ _=>[a]
 |.Subscript a b _=>[a,b]
 |.List es _=>es
 |.Tuple es _ _=>es
 |.Slice a b c _=>[a.getD dE,b.getD dE,c.getD dE]
 |.ListComp e gs _ _=>e::gs.flatMap fun g=>g.target::g.iter::g.ifs
 |.Dict ks vs _=>mix ks vs
 |_=>[]
noncomputable def kid(x:Expr)(j:Nat):Expr:=(sub x).getD j dE
noncomputable def num:Expr->Nat
 |.Constant _ k _=>k
 |.Tuple _ k _=>k
 |_=>0
noncomputable def scp:Expr->Ž
 |.ListComp _ _ s _=>s
 |_=>default
noncomputable def kwp:Expr->Pos
 |.Call _ _ (k::_) _=>k.pos
 |_=>⟨0,0,0,0⟩
noncomputable def AW:O.Bop->aG
 |.add=>.Add
 |.sub=>.Sub
 |.mul=>.Mult
 |.fdiv=>.FloorDiv
 |.mod=>.Mod
 |.pow=>.Pow
noncomputable def Wv:O.Cop->bU
 |.eq=>.Eq
 |.ne=>.NotEq
 |.lt=>.Lt
 |.le=>.LtE
 |.gt=>.Gt
 |.ge=>.GtE
 |.isin=>.In
 |.notin=>.NotIn
 |.is=>.Is
 |.isnot=>.IsNot
 |.nes=>.NotEq
 |.neX=>.NotEq
 |.eqE=>.Eq
 |.neE=>.NotEq
 |.ntT=>.IsNot
noncomputable def QR:O.Val->Const
 |.non=>.none
 |.bl b=>.bool b
 |.int i=>.int i
 |.str s=>.str<|Str.ofString s
 |_=>.ellipsis
noncomputable def Ge:O.Val->Bool
 |.non=>true
 |.bl _=>true
 |.int _=>true
 |.str _=>true
 |_=>false
noncomputable def ZI:O.E->Bool
 |.and _ _=>true
 |_=>false
noncomputable def Yb:O.E->Bool
 |.or _ _=>true
 |_=>false
noncomputable def Zo:O.Tt->Bool
 |.and _ _=>true
 |_=>false
noncomputable def ZA:O.Tt->Bool
 |.or _ _=>true
 |_=>false
noncomputable def rest(b:Bool)(x:Expr):Expr:=match b,x with
 |true,.BoolOp op (_::xs) p=>.BoolOp op xs p
 |_,x=>kid x 1
noncomputable def flat(b:Bool)(x:Expr):List Expr:=match b with
 |true=>sub x
 |false=>[x]
noncomputable def Yk:O.Bi->Str
 |.len=>"len"
 |.int=>"int"
 |.str=>"str"
 |.bool=>"bool"
 |.abs=>"abs"
 |.min2=>"min"
 |.max2=>"max"
 |.minL=>"min"
 |.maxL=>"max"
 |.minD=>"min"
 |.sum=>"sum"
 |.all=>"all"
 |.any=>"any"
 |.sorted=>"sorted"
 |.sortedI=>"sorted"
 |.sortedSet=>"sorted"
 |.lenSet=>"len"
 |.list=>"list"
 |.tuple=>"tuple"
 |.dict=>"dict"
 |.isi _=>"isinstance"
 |.isx _=>"isinstance"
 |.isc _=>"isinstance"
 |.repr=>"repr"
 |.listRev=>"list"
 |.listRange=>"list"
 |.tupRange=>"tuple"
 |.dictEnum=>"dict"
noncomputable def PZ:O.Bi->Option Str
 |.sortedSet=>some "set"
 |.lenSet=>some "set"
 |.listRev=>some "reversed"
 |.listRange=>some "range"
 |.tupRange=>some "range"
 |.dictEnum=>some "enumerate"
 |_=>none
noncomputable def HU(Ts:List String)(x:Expr):Expr:=match Ts with
 |[T]=>.Name (Str.ofString T) x.pos
 |Ts=>.Tuple (Ts.zipIdx.map fun p=>.Name (Str.ofString p.1) (kid x p.2).pos) (num x) x.pos
noncomputable def HM(f:O.Bi)(as:List Expr)(x:Expr):List Expr:=match PZ f with
 |some y=>[.Call (.Name y (kid (kid x 1) 0).pos) as [] (kid x 1).pos]
 |none=>match f with
  |.isi Ts=>as++[HU Ts<|kid x 2]
  |.isx Ts=>as++[HU Ts<|kid x 2]
  |.isc T=>as++[HU [T]<|kid x 2]
  |_=>as
noncomputable def OS(f:O.Bi)(x:Expr):List Expr:=match PZ f with
 |some _=>(sub<|kid x 1).tail
 |none=>(sub x).tail
noncomputable def RJ(f:O.Bi)(x:Expr):List aI:=match f with
 |.minD=>[⟨some "default",.Constant .none (num<|kid x 2) (kid x 2).pos,kwp x⟩]
 |_=>[]
noncomputable def Hz:O.Bm->Str
 |.append=>"append"
 |.extend=>"extend"
 |.pop=>"pop"
 |.popAt=>"pop"
 |.insert=>"insert"
 |.remove=>"remove"
 |.clear=>"clear"
 |.reverse=>"reverse"
 |.index=>"index"
 |.count=>"count"
 |.dget=>"get"
 |.dgetD=>"get"
 |.dpop=>"pop"
 |.dpopD=>"pop"
 |.setdefault=>"setdefault"
 |.join=>"join"
 |.split=>"split"
 |.replace=>"replace"
 |.upper=>"upper"
 |.partition=>"partition"
 |.sidx=>"index"
noncomputable def XJ:List Expr->List (Option Expr)
 |k::_::r=>some k::XJ r
 |_=>[]
noncomputable def Dg:List Expr->List Expr
 |_::v::r=>v::Dg r
 |_=>[]
noncomputable def toP(p:O.Pt)(c:Md)(x:Expr):Expr:=match p with
 |.one j=>.Name (c.nmOf j) x.pos
 |.many js=>.Tuple (js.zipIdx.map fun p=>.Name (c.nmOf p.1) (kid x p.2).pos) (num x) x.pos
 |.nest j js=>.Tuple [.Name (c.nmOf j) (kid x 0).pos,.Tuple (js.zipIdx.map fun p=>.Name (c.nmOf p.1) (kid (kid x 1) p.2).pos) (num<|kid x 1) (kid x 1).pos] (num x) x.pos
noncomputable def nmX:Expr->Str
 |.Name x _=>x
 |_=>Str.empty
noncomputable def Yu:Expr->List Str
 |.Tuple es _ _=>es.map nmX
 |x=>[nmX x]
noncomputable def Md.blk(c:Md)(sc:Ž)(x:List Str)(ö:List Nat):Md :=
 {N:=x++ö.map (fun j=>c.N.getD j Str.empty),sc:={sc with names:=sc.names.map fun(n,k)=>if(k == .free&&c.sc.kind == .function&&c.sc.names.lookup n==some .cell)then(n,.cell)else(n,k)},cs:=c.cs,fs:=c.fs,cm:=c.cm,cl:=c.cl,ms:=c.ms,fl:=c.fl,xs:=c.xs}
noncomputable def UX:O.E->Bool
 |.cst (.str _)=>true
 |_=>false
mutual
noncomputable def toX:O.E->Md->Expr->Expr
 |.cst v,_,x=>.Constant (QR v) (num x) x.pos
 |.var j,c,x=>.Name (c.nmOf j) x.pos
 |.glob y _,_,x=>.Name (Str.ofString y) x.pos
 |.bin o a b,c,x=>.BinOp (toX a c<|kid x 0) (AW o) (toX b c<|kid x 1) x.pos
 |.neg a,c,x=>.UnaryOp .USub (toX a c<|kid x 0) x.pos
 |.not a,c,x=>.UnaryOp .Not (toX a c<|kid x 0) x.pos
 |.and a b,c,x=>.BoolOp .And (toX a c (kid x 0)::flat (ZI b) (toX b c<|rest (ZI b) x)) x.pos
 |.or a b,c,x=>.BoolOp .Or (toX a c (kid x 0)::flat (Yb b) (toX b c<|rest (Yb b) x)) x.pos
 |.cmp o a b,c,x=>.Compare (toX a c<|kid x 0) [Wv o] [toX b c<|kid x 1] x.pos
 |.chain o1 o2 a b d,c,x=>.Compare (toX a c<|kid x 0) [Wv o1,Wv o2] [toX b c<|kid x 1,toX d c<|kid x 2] x.pos
 |.call f as,c,x=>.Call (.Name (Str.ofString f) (kid x 0).pos) (toA as c (sub x).tail) [] x.pos
 |.make C as,c,x=>.Call (.Name (Str.ofString C) (kid x 0).pos) (toA as c (sub x).tail) [] x.pos
 |.meth _ m o as,c,x=>.Call (.Attribute (toX o c<|kid (kid x 0) 0) (Str.ofString m) (kid x 0).pos) (toA as c (sub x).tail) [] x.pos
 |.fld o f,c,x=>.Attribute (toX o c<|kid x 0) (Str.ofString f) x.pos
 |.bi f as,c,x=>.Call (.Name (Yk f) (kid x 0).pos) (HM f (toA as c<|OS f x) x) (RJ f x) x.pos
 |.bm m o as,c,x=>.Call (.Attribute (toX o c<|kid (kid x 0) 0) (Hz m) (kid x 0).pos) (toA as c (sub x).tail) [] x.pos
 |.idx a b,c,x=>.Subscript (toX a c<|kid x 0) (toX b c<|kid x 1) x.pos
 |.slc a lo hi,c,x=>.Subscript (toX a c<|kid x 0) (.Slice (toO lo c<|kid (kid x 1) 0) (toO hi c<|kid (kid x 1) 1) none (kid x 1).pos) x.pos
 |.rev a,c,x=>.Subscript (toX a c<|kid x 0) (.Slice none none (some<|.UnaryOp .USub (.Constant (.int 1) (num<|kid (kid (kid x 1) 2) 0) (kid (kid (kid x 1) 2) 0).pos) (kid (kid x 1) 2).pos) (kid x 1).pos) x.pos
 |.tup es,c,x=>.Tuple (toA es c<|sub x) (num x) x.pos
 |.key es,c,x=>.Tuple (toA es c<|sub x) (num x) x.pos
 |.dctP,c,x=>.Dict [] [] x.pos
 |.lst es,c,x=>.List (toA es c<|sub x) x.pos
 |.dct es,c,x=>.Dict (XJ<|toA es c<|sub x) (Dg<|toA es c<|sub x) x.pos
 |.ife t a b,c,x=>.IfExp (toT t c<|kid x 0) (toX a c<|kid x 1) (toX b c<|kid x 2) x.pos
 |.comp ö _ p it t e,c,x=>.ListComp (toX e (c.blk (scp x) (Yu<|kid x 1) ö)<|kid x 0) [⟨toP p (c.blk (scp x) (Yu<|kid x 1) ö)<|kid x 1,toI it c<|kid x 2,toF t (c.blk (scp x) (Yu<|kid x 1) ö)<|kid x 3,0⟩] (scp x) x.pos
 |.fstr es,c,x=>.JoinedStr (toJ es c<|sub x) x.pos
 |.split o a,c,x=>.Call (.Attribute (toX o c<|kid (kid x 0) 0) "split" (kid x 0).pos) [toX a c<|kid x 1] [] x.pos
 |.repl o y z,c,x=>.Call (.Attribute (toX o c<|kid (kid x 0) 0) "replace" (kid x 0).pos) [.Constant (.str<|Str.ofString y) (num<|kid x 1) (kid x 1).pos,.Constant (.str<|Str.ofString z) (num<|kid x 2) (kid x 2).pos] [] x.pos
noncomputable def toA:O.Es->Md->List Expr->List Expr
 |.nil,_,_=>[]
 |.cons e es,c,xs=>toX e c (xs.headD dE)::toA es c xs.tail
noncomputable def toJ:O.Es->Md->List Expr->List Expr
 |.nil,_,_=>[]
 |.cons e es,c,xs=>(if UX e then toX e c (xs.headD dE)else .FormattedValue (toX e c<|kid (xs.headD dE) 0) (-1) none (xs.headD dE).pos)::toJ es c xs.tail
noncomputable def toO:O.Oe->Md->Expr->Option Expr
 |.none,_,_=>none
 |.some e,c,x=>some<|toX e c x
noncomputable def toT:O.Tt->Md->Expr->Expr
 |.yes,_,x=>x
 |.val e,c,x=>toX e c x
 |.not t,c,x=>.UnaryOp .Not (toT t c<|kid x 0) x.pos
 |.and a b,c,x=>.BoolOp .And (toT a c (kid x 0)::flat (Zo b) (toT b c<|rest (Zo b) x)) x.pos
 |.or a b,c,x=>.BoolOp .Or (toT a c (kid x 0)::flat (ZA b) (toT b c<|rest (ZA b) x)) x.pos
noncomputable def toF:O.Tt->Md->Expr->List Expr
 |.yes,_,_=>[]
 |.val e,c,x=>[toX e c x]
 |.not t,c,x=>[.UnaryOp .Not (toT t c<|kid x 0) x.pos]
 |.and a b,c,x=>[.BoolOp .And (toT a c (kid x 0)::flat (Zo b) (toT b c<|rest (Zo b) x)) x.pos]
 |.or a b,c,x=>[.BoolOp .Or (toT a c (kid x 0)::flat (ZA b) (toT b c<|rest (ZA b) x)) x.pos]
noncomputable def toI:O.It->Md->Expr->Expr
 |.seq e,c,x=>toX e c x
 |.chars e,c,x=>toX e c x
 |.range a,c,x=>.Call (.Name "range" (kid x 0).pos) [toX a c<|kid x 1] [] x.pos
 |.range2 a b,c,x=>.Call (.Name "range" (kid x 0).pos) [toX a c<|kid x 1,toX b c<|kid x 2] [] x.pos
 |.enum e,c,x=>.Call (.Name "enumerate" (kid x 0).pos) [toX e c<|kid x 1] [] x.pos
 |.zip a b,c,x=>.Call (.Name "zip" (kid x 0).pos) [toX a c<|kid x 1,toX b c<|kid x 2] [] x.pos
 |.items e,c,x=>toX e c x
 |.rev e,c,x=>.Call (.Name "reversed" (kid x 0).pos) [toX e c<|kid x 1] [] x.pos
end
noncomputable def blts:List Str:=["isinstance","int","bool","str","list","tuple","dict","max","min","range","len","sorted","set","all","any","sum","enumerate","zip","reversed","abs","repr","ValueError"]
structure Kls(X:Cx)(i:Inf)(P:O.Pg)(n:Nat)(c:Md):Prop where
 A:ClsA i
 F:∀f,c.fl.contains f=true->FldOk i f
 mkc:∀C,c.cl.contains C=true->∃a f,i.ins C=true/\i.cl C a/\Mk i.K a f/\X.mg (Str.ofString C)=some (.ref a)/\Dfm X.prog X.w X.mg X.base i P n (C ++ ".__init__") f
 mth:∀C m,c.ms.contains (C,m)=true->∃a f,(∀b,i.cl C b->b=a)/\Cls i.K a/\Meth i.K a (Str.ofString m) f/\Dfm X.prog X.w X.mg X.base i P n (C ++ "." ++ m) f
structure Xls(X:Cx)(i:Inf)(c:Md):Prop where
 xc:∀C a,i.xc C a->XCls i.K a/\PySem.W.kitOne i.K (.ref a) (.type "ValueError")=some true
 rs:∀C,c.xs.contains C=true->∃a,i.xc C a/\PyProof.Rows.OwnCls (Str.ofString C) a [.type "ValueError",.type "Exception",.type "BaseException",.type "object"] "ValueError.__new__" X.mg X.base
 kn:∀T,(c.xs.contains T||T == "ShutError")=true->∃D,X.mg (Str.ofString T)=some (.ref D)/\∀C a,i.xc C a->PySem.W.kitOne i.K (.ref a) (.ref D)=some (O.excSub C T)/\(O.excSub C T=true->PySem.W.exmOne i.K (.ref a) (.ref D)=some true)
structure Gd(X:Cx)(i:Inf)(P:O.Pg)(n:Nat)(c:Md):Prop where
 K:X.K=i.K
 N:X.N=c.N
 sc:X.env.scope=c.sc
 nd:c.N.Nodup
 un:X.A.units+200<Ğ
 calm:c.cm=true->X.calm=true
 room:c.cm=true->Room (2*n+1) X.A
 bl:∀x∈blts,X.mg x=none
 dfs:∀f,c.fs.contains f=true->Dfo X.prog X.w X.mg X.base i P n f
 cst:∀x v,c.cs.lookup x=some v->∃u y,X.mg (Str.ofString x)=some u/\RelV y u/\∀H,RV i.K H v y
 kl:Kls X i P n c
 xl:c.xs≠[]->Xls X i c
variable {X:Cx}{i:Inf}{P:O.Pg}{n:Nat}{c:Md}
variable {x:Str}
theorem Gd.gl(g:Gd X i P n c)(h:c.gl x=true):Gl X x:=by show X.env.scope.names.lookup x=_;rw[g.sc];exact eq_of_beq h
theorem Gd.vis(g:Gd X i P n c)(h:c.vis x=true):Vis X.env.scope x:=by
 unfold Vis;rw[g.sc];unfold Md.vis at h;split at h
 .exact .inl (by assumption)
 .exact .inr (.inl<|by assumption)
 .exact .inr (.inr<|by assumption)
 .cases h
theorem Gd.loc(g:Gd X i P n c)(h:c.loc x=true):L2.Loc X.env.scope x:=by
 unfold L2.Loc;rw[g.sc];rcases (ϐ ..).mp h with h|h
 .exact .inl<|eq_of_beq h
 .exact .inr<|eq_of_beq h
theorem Gd.rm(g:Gd X i P n c)(h:c.cm=true):Room (2*n) X.A:=(g.room h).mono (Ń _)
theorem O9(h:nm x=true):(x==("__debug__" : Str))=false/\(x==("__classdict__" : Str))=false/\x≠"__name__":=by simp only[nm,bAq,ř]at h;exact⟨h.1.1,h.1.2,by simpa using h.2⟩
theorem Zr(e:O.E)(c:Md)(x:Expr)(es:List Expr)(env:Env):Õ (toX e c x::es) env=(false,eval (toX e c x) env)::Õ es env:=by cases e<;>rfl
theorem DK(e:O.E)(c:Md)(x:Expr):MD<|toX e c x:=by intro o j;cases e<;>rfl
variable {op:bU}
theorem N9(e:O.E)(c:Md)(x:Expr):Ĺ op (toX e c x)=false:=by cases e<;>rfl
theorem Hu(e:O.E)(c:Md)(x:Expr)(env:Env):∀y,Ě (toX e c x) env y=pure y:=by intro y;cases e<;>rfl
noncomputable def Yz:Expr->Bool
 |.Call (.Name _ _) [] _ _=>false
 |_=>true
variable {e:Expr}
theorem Yo(h:Yz e=true)(f:Str)(env:Env):ħ e f env (eval e env)=eval e env:=by
 cases e with
 |Call g as ks p =>
  cases as with
  |cons _ _=>cases g<;>rfl
  |nil=>cases g with
   |Name x q=>cases h
   |_=>rfl
 |_=>rfl
noncomputable def Zb:O.Es->Nat
 |.nil=>0
 |.cons _ es=>Zb es+1
theorem YW:∀(es:O.Es) (c:Md) (xs:List Expr),(toA es c xs).length=Zb es
 |.nil,_,_=>rfl
 |.cons _ es,c,xs=>by show(toA es c xs.tail).length+1=_;rw[YW es];rfl
theorem Yh(env:Env)(pos:Pos):∀(es:O.Es) (c:Md) (xs:List Expr),(ĥ pos<|Õ (toA es c xs) env).any (·.1)=false
 |.nil,_,_=>rfl
 |.cons e es,c,xs=>by show(ĥ pos<|Õ (toX e c (xs.headD dE)::toA es c xs.tail) env).any (·.1)=false;rw[Zr];show(false||(ĥ pos<|Õ (toA es c xs.tail) env).any (·.1))=false;rw[Yh env pos es];rfl
theorem Jq(env:Env)(pos:Pos):∀(es:O.Es) (c:Md) (xs:List Expr),(ĥ pos<|Õ (toA es c xs) env).all (fun x=>!x.1)=true
 |.nil,_,_=>rfl
 |.cons e es,c,xs=>by show(ĥ pos<|Õ (toX e c (xs.headD dE)::toA es c xs.tail) env).all (fun x=>!x.1)=true;rw[Zr];show(true&&(ĥ pos<|Õ (toA es c xs.tail) env).all (fun x=>!x.1))=true;rw[Jq env pos es];rfl
noncomputable def Zz:O.Pt->Bool
 |.one _=>true
 |_=>false
theorem KY(p:O.Pt)(x:Expr):((!Zz p)=true->∃es k q,toP p c x=.Tuple es k q)/\((!Zz p)=false->∃y q,toP p c x=.Name y q):=by
 cases p with
 |one j=>exact⟨fun z=>(by cases z),fun _=>⟨_,_,rfl⟩⟩
 |many js=>exact⟨fun _=>⟨_,_,_,rfl⟩,fun z=>(by cases z)⟩
 |nest j js=>exact⟨fun _=>⟨_,_,_,rfl⟩,fun z=>(by cases z)⟩
def DG(X:Cx)(c:Md)(j:Nat):Prop:=X.N[j]?=some (c.nmOf j)/\L2.Loc X.env.scope (c.nmOf j)/\(X.fn (c.nmOf j)=true\/X.env.scope.names.lookup (c.nmOf j)=some .local)
def Gi(q:Nat->Prop):O.Pt->Prop
 |.one j=>q j
 |.many js=>∀j∈js,q j
 |.nest j js=>q j/\∀k∈js,q k
theorem Mr{X:Cx}{c:Md}(nd:X.N.Nodup)(f:Nat->Pos):∀(js:List Nat) (k:Nat),(∀j∈js,DG X c j)->
  PGs X ((js.zipIdx k).map fun p=>.Name (c.nmOf p.1)<|f p.2) (DE i js)/\(ğ ((js.zipIdx k).map fun p=>.Name (c.nmOf p.1)<|f p.2) X.env).length=js.length/\(ğ ((js.zipIdx k).map fun p=>.Name (c.nmOf p.1)<|f p.2) X.env).findIdx? (·.1)=none
 |[],_,_=>⟨D9,rfl,rfl⟩
 |j::js,k,h=>by
  obtain⟨h1,h2,h3⟩:=h j (by simp);obtain⟨a1,a2,a3⟩:=Mr nd f js (k+1) fun l hl=>h l (by simp[hl]);rw[List.zipIdx_cons,Ð];refine⟨Bv nd h1 h2 h3 a1 rfl,?_,?_⟩
  .show(ğ ((js.zipIdx<|k+1).map _) X.env).length+1=js.length+1;rw[a2]
  .show List.findIdx? (·.1) ((false,ſ (.Name (c.nmOf j)<|f k) X.env)::ğ _ X.env)=none;rw[List.findIdx?_cons];simp[a3]
theorem F1(hK:X.K=i.K)(nd:X.N.Nodup)(hc:X.calm=true){p:O.Pt}{x:Expr}(h:Gi (DG X c) p):PG X (toP p c x)<|gPt i p:=by
 cases p with
 |one j=>exact Om nd h.1 h.2.1 h.2.2
 |many js =>obtain⟨a1,a2,a3⟩:=Mr nd (fun k=>(kid x k).pos) js 0 h;exact UE hK hc a1 a2 a3
 |nest j js =>obtain⟨h0,h⟩:=h;obtain⟨a1,a2,a3⟩:=Mr nd (fun k=>(kid (kid x 1) k).pos) js 0 h;exact E1 hK hc (Om nd h0.1 h0.2.1 h0.2.2)<|UE hK hc a1 a2 a3
variable {Φ:O.Fs} {a:O.E} {b:O.E} {l:Expr} {pos:Pos}
theorem P7(g:Gd X i P n c){o:O.Bop}{r:Expr}(ha:PE X l<|tE X i Φ a)(hb:PE X r<|tE X i Φ b):PE X (.BinOp l (AW o) r pos)<|tE X i Φ<|.bin o a b:=by
 cases o with
 |add=>exact KN QB (by rw[g.K];exact b_add) ha hb
 |sub=>exact KN LK b_sub ha hb
 |mul=>exact KN PP b_mul ha hb
 |fdiv=>exact KN El b_fdiv ha hb
 |mod=>exact KN IE b_mod ha hb
 |pow=>exact KN Ls b_pow ha hb
noncomputable def XM:O.Cop->Bool
 |.is=>true
 |.isnot=>true
 |.ntT=>true
 |.neE=>true
 |.eqE=>true
 |.nes=>true
 |_=>false
variable {o:O.Cop}
theorem Oc(g:Gd X i P n c)(h:XM o=false):∃r,OpR X (è<|Wv o) r/\ZT i o r:=by
 have u65:X.A.units+65<Ğ:=by have:=g.un;omega
 have u64:X.A.units+64<Ğ:=by have:=g.un;omega
 have u0:X.A.units<Ğ:=by have:=g.un;omega
 cases o with
 |eq=>exact⟨_,GK u64,by rw[g.K];exact R0⟩
 |ne=>exact⟨_,Cq u64,by rw[g.K];exact LO⟩
 |lt=>exact⟨_,Q4 u0,by rw[g.K];exact c_lt⟩
 |le=>exact⟨_,Qb,c_le⟩
 |gt=>exact⟨_,Q2 u0,by rw[g.K];exact c_gt⟩
 |ge=>exact⟨_,QN,c_ge⟩
 |isin=>exact⟨_,RF u65,by rw[g.K];exact RQ⟩
 |notin=>exact⟨_,Q6 u65,by rw[g.K];exact RD⟩
 |neX=>exact⟨_,Hj u64,by rw[g.K];exact c_neX⟩
 |_=>cases h
theorem Io{v:O.Val}{j:Nat}(h:Ge v=true):PE X (.Constant (QR v) j pos)<|tE X i Φ<|.cst v:=by
 cases v with
 |non=>exact WI CF fun _=>.non
 |bl b=>exact WI Qd fun _=>.bl _
 |int k=>exact WI OL fun _=>.int _
 |str s=>exact WI pe_str fun _=>.str _
 |_=>cases h
noncomputable def M9:O.E->Bool
 |.cst .non=>true
 |_=>false
theorem Ft{e:O.E}(h:M9 e=true):e=.cst .non:=by
 cases e with
 |cst v=>cases v with
  |non=>rfl
  |_=>cases h
 |_=>cases h
variable {y:Expr}
theorem XC(hn:∀G v d,O.cmpV G o v .non≠some d)(ha:PE X l<|tE X i Φ a)(hb:PE X y<|tE X i Φ<|.cst .non)(hm:Ĺ op y=false) :
  PE X (.Compare l [op] [y] pos) (tE X i Φ<|.cmp o a<|.cst .non)/\PT X (.Compare l [op] [y] pos) (tTt X i Φ<|.val<|.cmp o a<|.cst .non):=by
 have ho:OpR X (è op) fun _ _ _ _=>False:=fun _ _ _ _ _ _ _ _ _ _ _ _ h=>h.elim;refine⟨(Up ho ha hb hm).imp fun σ H Q ⟨env,G,Qm,Em,p,w,c⟩=>?_,(Ug ho ha hb hm).imp fun σ H Q ⟨env,G,Qm,Em,p,w,c⟩=>?_⟩
 .refine one p w fun v G1 H1 x k1 p1 r q=>?_;obtain⟨d,e,_⟩:=go_some q;exact absurd e<|hn G1 v d
 .refine one p w fun v G1 H1 x k1 p1 r q=>?_;obtain⟨d,e,_⟩:=go_some q;exact absurd e<|hn G1 v d
theorem Nq(g:Gd X i P n c){x:Expr}(h:(!XM o||M9 b)=true)(ha:PE X l<|tE X i Φ a)(hb:PE X (toX b c x)<|tE X i Φ b) :
  PE X (.Compare l [Wv o] [toX b c x] pos) (tE X i Φ<|.cmp o a b)/\PT X (.Compare l [Wv o] [toX b c x] pos) (tTt X i Φ<|.val<|.cmp o a b):=by
 cases z:XM o with
 |false =>obtain⟨r,h1,h2⟩:=Oc g z;exact⟨Px h1 h2 ha hb<|N9 _ _ _,Ic h1 h2 ha hb<|N9 _ _ _⟩
 |true =>
  rw[z]at h;cases Ft h;cases o with
  |is=>exact⟨Pr ha,IQ ha⟩
  |isnot=>exact⟨LC ha,DV ha⟩
  |ntT=>exact XC (fun G v d e=>by cases v<;>simp[O.cmpV,O.asLst]at e) ha hb<|N9 _ _ _
  |neE=>exact XC (fun G v d e=>by cases v<;>simp[O.cmpV,O.asLst]at e) ha hb<|N9 _ _ _
  |eqE=>exact XC (fun G v d e=>by cases v<;>simp[O.cmpV,O.asLst]at e) ha hb<|N9 _ _ _
  |nes=>exact XC (fun G v d e=>by cases v<;>simp[O.cmpV,O.asLst]at e) ha hb<|N9 _ _ _
  |_=>cases z
theorem Jy(g:Gd X i P n c){o1 o2:O.Cop}{d:O.E}{x:Expr}(h1:XM o1=false)(h2:XM o2=false)(ha:PE X l<|tE X i Φ a)(hb:PE X y<|tE X i Φ b)(hd:PE X (toX d c x)<|tE X i Φ d) :
  PE X (.Compare l [Wv o1,Wv o2] [y,toX d c x] pos) (tE X i Φ<|.chain o1 o2 a b d)/\PT X (.Compare l [Wv o1,Wv o2] [y,toX d c x] pos) (tTt X i Φ<|.val<|.chain o1 o2 a b d):=by
 obtain⟨r1,a1,a2⟩:=Oc g h1;obtain⟨r2,b1,b2⟩:=Oc g h2;have hm:aT [Wv o1,Wv o2] [y,toX d c x]=false:=N9 _ _ _;exact⟨Fx a1 a2 b1 b2 ha hb hd hm,Ch a1 a2 b1 b2 ha hb hd hm⟩
theorem IL{m:O.E}(h:PE X e<|tE X i Φ m)(he:∀aq,bT e X.env aq=(do let v<-aq;Υ e.pos;Ŧ [v] (truthy v)))(hK:X.K=i.K):PT X e<|tTt X i Φ<|.val m:=by
 refine(BQ h he).imp fun σ H Q ⟨env,G,Qm,Em,p,w,c⟩=>?_;refine one p w fun v G1 H1 x k1 p1 r q=>?_;obtain⟨d,e1,q2⟩:=go_some q;clear q;refine⟨d,?_,c d G1 H1 k1 p1.hp q2⟩;cases v with
 |non=>cases r;cases e1;rfl
 |bl b=>cases r;cases e1;rfl
 |int b =>
  cases r;cases e1;show decide (b≠0)=(b != 0)
  by_cases e:b=0<;>simp[e]
 |key _ _=>cases e1
 |str b =>
  cases r;obtain⟨hl,e1⟩:=ZC e1;cases e1;refine⟨by rw[Zs];exact Ó hl ZL,?_⟩;rw[Zs];by_cases e:b.length=0
  .rw[e];rfl
  .rw[decide_eq_true e];symm;simpa using (by omega:¬ ((b.length:Int)=0))
 |tup xs =>
  cases e1;cases r with
  |tup hp hr =>refine .inr (.inl ⟨_,by rw[hK];exact Zf hp,?_⟩);cases hr<;>rfl
 |scr ns =>
  cases e1;cases r with
  |scr h =>refine .inl ⟨_,by rw[hK];exact Z5 h,?_⟩;cases ns<;>rfl
 |ref a =>
  cases r.ref_inv
  replace e1:(match G1 a with|some (.lst xs)=>some (!xs.isEmpty)|some (.dct kvs)=>some (!kvs.isEmpty)|_=>none)=some d:=e1
  cases z:G1 a with
  |none=>rw[z]at e1;cases e1
  |some o =>
   rw[z]at e1;cases o with
   |lst xs =>cases e1;obtain⟨vs,h1,h2⟩:=p1.hp a _ z;refine .inl ⟨vs,SqL.of h1,?_⟩;cases h2<;>rfl
   |dct kvs =>cases e1;obtain⟨ps,h1,h2⟩:=p1.hp a _ z;refine .inr<|.inr ⟨ps,h1,?_⟩;cases h2<;>rfl
   |_=>cases e1
noncomputable def Md.gn(c:Md)(y:String):Bool:=c.gl (Str.ofString y)&&nm (Str.ofString y)
noncomputable def XX:O.Bi->Bool
 |.len=>true
 |.int=>true
 |.str=>true
 |.all=>true
 |.list=>true
 |.tuple=>true
 |.minL=>true
 |.sortedI=>true
 |_=>false
noncomputable def D0:O.Bi->Option String
 |.isi [T]=>some T
 |_=>none
noncomputable def FB:O.Bi->Option (List String)
 |_=>none
noncomputable def XG:O.Bi->Bool
 |_=>false
noncomputable def WN:O.Bi->Bool
 |.sortedSet=>true
 |_=>false
noncomputable def CY:O.Bi->Str
 |.listRev=>"reversed"
 |.sortedSet=>"set"
 |_=>"range"
noncomputable def O4:O.Bi->Bool
 |_=>false
noncomputable def OU:O.Bi->Bool
 |_=>false
noncomputable def M6:O.Bi->String
 |.isc T=>T
 |_=>""
noncomputable def Mp:O.Bi->Bool
 |.minD=>true
 |_=>false
noncomputable def Da:O.Bi->Option (List String)
 |_=>none
noncomputable def Md.xn(c:Md)(T:String):Bool:=(c.xs.contains T||T == "ShutError")&&c.gn T
noncomputable def X8:O.Bi->Bool
 |.len=>true
 |.int=>true
 |.str=>true
 |.list=>true
 |.tuple=>true
 |_=>false
noncomputable def La(c:Md)(Ts:List String):Bool:=match Ts with
 |[T]=>c.xn T||(T == "ValueError" && c.gl (Str.ofString T))
 |Ts=>Ts.all c.xn&&decide (Ts.length<=20)
noncomputable def C9:O.Bm->Option Nat
 |.append=>some 1
 |.popAt=>some 1
 |.dget=>some 1
 |_=>none
noncomputable def OO:O.Tt->Bool
 |.yes=>true
 |_=>false
noncomputable def NT:O.E->Bool
 |.var _=>true
 |.call _ _=>true
 |.meth _ _ _ _=>true
 |.bi _ _=>true
 |.bm _ _ _=>true
 |.idx _ _=>true
 |.fld _ _=>true
 |.glob _ _=>true
 |_=>false
noncomputable def Qa:O.E->Bool
 |.cmp _ _ _=>true
 |.chain _ _ _ _ _=>true
 |_=>false
mutual
noncomputable def okE:O.E->Md->Expr->Bool
 |.cst v,_,_=>Ge v
 |.var j,c,_=>decide (j<c.N.length)&&c.vis (c.nmOf j)&&nm (c.nmOf j)
 |.glob y v,c,_=>c.gn y&&decide (c.cs.lookup y=some v)
 |.bin _ a b,c,x=>okE a c (kid x 0)&&okE b c (kid x 1)
 |.neg a,c,x=>okE a c<|kid x 0
 |.not a,c,x=>okE a c<|kid x 0
 |.and a b,c,x=>okE a c (kid x 0)&&okE b c (rest (ZI b) x)&&(!ZI b||(rest (ZI b) x).pos==x.pos)
 |.or a b,c,x=>okE a c (kid x 0)&&okE b c (rest (Yb b) x)&&(!Yb b||(rest (Yb b) x).pos==x.pos)
 |.cmp o a b,c,x=>okE a c (kid x 0)&&okE b c (kid x 1)&&(!XM o||M9 b)
 |.chain o1 o2 a b d,c,x=>okE a c (kid x 0)&&okE b c (kid x 1)&&okE d c (kid x 2) && !XM o1 && !XM o2
 |.call f as,c,x=>c.gn f&&c.fs.contains f&&c.cm&&okA as c (sub x).tail
 |.make C as,c,x=>c.gn C&&c.cl.contains C&&c.cm&&decide (Zb as≠0)&&okA as c (sub x).tail
 |.meth C m o as,c,x=>c.ms.contains (C,m)&&c.cm&&okE o c (kid (kid x 0) 0)&&Yz (toX o c<|kid (kid x 0) 0)&&((kid x 0).pos.endLine==x.pos.line)&&decide (Zb as<20)&&okA as c (sub x).tail
 |.fld o f,c,x=>c.fl.contains f&&okE o c (kid x 0)&&Yz (toX o c<|kid x 0)
 | .bi f as,c,x=>(match D0 f with
   |some T=>decide (Zb as=1)&&kinds.contains T&&c.gl "isinstance" && c.gl (Str.ofString T)
   |none=>match FB f with
     |some Ts=>decide (Zb as=1)&&c.gl "isinstance" && !c.xs.isEmpty&&La c Ts
     |none=>match Da f with
       |some Ts=>decide (Zb as=1)&&c.gl "isinstance" && Ts.all (fun T=>kinds.contains T&&c.gl (Str.ofString T))&&decide (Ts.length<=20)
       | none=>if XG f then decide (Zb as=1)&&c.gl "len" && c.gl "set" && c.cm else if WN f then decide (Zb as=1)&&c.gl (Yk f)&&c.gl (CY f)&&c.cm else if Mp f then decide (Zb as=1)&&c.gl "min" && c.cm else if O4 f then decide (Zb as=1)&&c.gl "dict" && c.gl "enumerate" && c.cm else if OU f then decide (Zb as=1)&&c.gl "isinstance" && c.gn (M6 f)&&c.cl.contains (M6 f)else XX f&&c.gl (Yk f)&&decide (Zb as≠0)&&(c.cm||X8 f))&&okA as c (OS f x)
 |.bm m o as,c,x=>decide (C9 m=some (Zb as))&&okE o c (kid (kid x 0) 0)&&Yz (toX o c<|kid (kid x 0) 0)&&((kid x 0).pos.endLine==x.pos.line)&&okA as c (sub x).tail
 |.idx a b,c,x=>okE a c (kid x 0)&&okE b c (kid x 1)
 |.slc a lo hi,c,x=>okE a c (kid x 0)&&okO lo c (kid (kid x 1) 0)&&okO hi c (kid (kid x 1) 1)
 |.tup es,c,x=>okA es c (sub x)&&decide (Zb es<=1000)
 |.key es,c,x=>okA es c (sub x)&&decide (Zb es<=1000)
 |.dctP,_,_=>true
 |.lst es,c,x=>okA es c (sub x)&&decide (Zb es<=1000)
 |.rev a,c,x=>okE a c<|kid x 0
 |.dct es,c,x=>okA es c (sub x)&&JJ es&&decide (esL es<=30)
 |.ife t a b,c,x=>okT t c (kid x 0)&&okE a c (kid x 1)&&okE b c (kid x 2)
 |.comp ö m p it t e,c,x=>(OI m p&&(Yu<|kid x 1).length==m)&&c.cm&&Z6 (scp x) c.sc c.N (Yu<|kid x 1) ö&&(scp x).kind == .function&&okI it c (kid x 2) (!Zz p)&&okE e (c.blk (scp x) (Yu<|kid x 1) ö) (kid x 0)&&(OO t||okT t (c.blk (scp x) (Yu<|kid x 1) ö) (kid x 3))
 |_,_,_=>false
noncomputable def okA:O.Es->Md->List Expr->Bool
 |.nil,_,_=>true
 |.cons e es,c,xs=>okE e c (xs.headD dE)&&okA es c xs.tail
noncomputable def okJ:O.Es->Md->List Expr->Bool
 |.nil,_,_=>true
 |.cons e es,c,xs=>(UX e||okE e c (kid (xs.headD dE) 0))&&okJ es c xs.tail
noncomputable def okO:O.Oe->Md->Expr->Bool
 |.none,_,_=>true
 |.some e,c,x=>okE e c x
noncomputable def okT:O.Tt->Md->Expr->Bool
 |.yes,_,_=>false
 |.val e,c,x=>okE e c x&&(NT e||Qa e)
 |.not t,c,x=>okT t c<|kid x 0
 |.and a b,c,x=>okT a c (kid x 0)&&okT b c (rest (Zo b) x)&&(!Zo b||(rest (Zo b) x).pos==x.pos)
 |.or a b,c,x=>okT a c (kid x 0)&&okT b c (rest (ZA b) x)&&(!ZA b||(rest (ZA b) x).pos==x.pos)
noncomputable def okI:O.It->Md->Expr->Bool->Bool
 |.seq e,c,x,_=>okE e c x
 |.range a,c,x,_=>c.gl "range" && okE a c (kid x 1)
 |.range2 a b,c,x,_=>c.gl "range" && okE a c (kid x 1)&&okE b c (kid x 2)
 |.enum e,c,x,t=>t&&c.gl "enumerate" && okE e c (kid x 1)
 |_,_,_,_=>false
end
variable {X:Cx}{i:Inf}{P:O.Pg}{n:Nat}{c:Md}
variable {f:O.Bi} {e:Expr} {es:List Expr} {q:Pos} {p:Pos} {l:Nat}
theorem Ec(g:Gd X i P n c)(hp:XX f=true)(cK:(c.cm||X8 f)=true){as:O.Es}(hg:Gl X<|Yk f)(ha:PA X (e::es)<|tAr X i (O.wF P n) as l)
  (he:Õ (e::es) X.env=(false,eval e X.env)::Õ es X.env) (hpl:(ĥ p<|Õ es X.env).any (·.1)=false):PE X (.Call (.Name (Yk f) q) (e::es) [] p)<|tE X i (O.wF P n)<|.bi f as:=by
 have hc:X8 f=false->X.calm=true:=fun z=>g.calm (by rw[z,Ϥ]at cK;exact cK);cases f with
 |len=>exact(YN ((call_len_seq.or MH).or As) hg (g.bl _<|by simp[blts,Yk]) (by kernel_rfl) ha (he:=he) (hpl:=hpl)).imp (Wm<|by rw[g.K];exact HV)
 |int=>exact(YU (call_int1.or JX) hg (g.bl _<|by simp[blts,Yk]) (by kernel_rfl) ha (he:=he) (hpl:=hpl)).imp<|Wm Ik
 |str=>exact(YU (call_str_int.or Mq) hg (g.bl _<|by simp[blts,Yk]) (by kernel_rfl) ha (he:=he) (hpl:=hpl)).imp<|Wm Hk
 |all=>exact(YN (Dw<|hc rfl) hg (g.bl _<|by simp[blts,Yk]) (by kernel_rfl) ha (he:=he) (hpl:=hpl)).imp (Wm<|by rw[g.K];exact ID)
 |list=>exact(YU K2 hg (g.bl _<|by simp[blts,Yk]) (by kernel_rfl) ha (he:=he) (hpl:=hpl)).imp (Wm<|by rw[g.K];exact Fz)
 |minL=>exact(YN (((Ot<|hc rfl).or<|U3<|hc rfl).or<|Ai (hc rfl) (by have:=g.un;omega)) hg (g.bl _<|by simp[blts,Yk]) (by kernel_rfl) ha (he:=he) (hpl:=hpl)).imp (Wm<|by rw[g.K];exact FV)
 |sortedI=>exact(YN (call_sorted.or<|MC<|hc rfl) hg (g.bl _<|by simp[blts,Yk]) (by kernel_rfl) ha (he:=he) (hpl:=hpl)).imp (Wm<|by rw[g.K];exact Ow)
 |tuple=>exact(YU JV hg (g.bl _<|by simp[blts,Yk]) (by kernel_rfl) ha (he:=he) (hpl:=hpl)).imp (Wm<|by rw[g.K];exact By)
 |_=>cases hp
variable {T:String}
theorem LB(h:D0 f=some T):f=.isi [T]:=by
 cases f with
 |isi Ts =>
  cases Ts with
  |nil=>cases h
  |cons a r=>cases r with
   |nil=>cases h;rfl
   |cons _ _=>cases h
 |_=>cases h
theorem CZ(g:Gd X i P n c){m:O.E}{p2 pos:Pos}(hT:T∈kinds)(h2:c.gl "isinstance" = true)(h5:c.gl (Str.ofString T)=true)(he:PE X e<|tE X i (O.wF P n) m)(Γ:Õ [e,.Name (Str.ofString T) p2] X.env=(false,eval e X.env)::Õ [.Name (Str.ofString T) p2] X.env) :
  PE X (.Call (.Name "isinstance" p) [e,.Name (Str.ofString T) p2] [] pos) (tE X i (O.wF P n)<|.bi (.isi [T])<|.cons m .nil):=by
 have dC:=hT;simp only[kinds,Ç,Ý,or_false]at dC;refine L8 hT he g.K (g.gl h2) (g.bl _<|by simp[blts]) (g.gl h5) ?_ ?_ ?_ ?_ Γ
 .rcases dC with rfl|rfl|rfl|rfl|rfl|rfl<;>exact g.bl _ (by simp[blts])
 .rcases dC with rfl|rfl|rfl|rfl|rfl|rfl<;>kernel_rfl
 .rcases dC with rfl|rfl|rfl|rfl|rfl|rfl<;>decide
 .rcases dC with rfl|rfl|rfl|rfl|rfl|rfl<;>decide
variable {m:O.Bm} {o:Expr} {mo:O.E} {ō:Pos} {Ť:Pos}
theorem Be(g:Gd X i P n c)(h:C9 m=some 0)(ho:PE X o<|tE X i (O.wF P n) mo)(hb:∀f,ħ o f X.env (eval o X.env)=eval o X.env)(hl:(ō.endLine==Ť.line)=true) :
  PE X (.Call (.Attribute o (Hz m) ō) [] [] Ť) (tE X i (O.wF P n)<|.bm m mo .nil):=by
 cases m with
 |_=>cases h
theorem E3(g:Gd X i P n c){k:Nat}(h:C9 m=some (k+1)){ms:O.Es}(ho:PE X o<|tE X i (O.wF P n) mo)(ha:PA X (e::es)<|tAr X i (O.wF P n) ms l)(hb:∀f,ħ o f X.env (eval o X.env)=eval o X.env)(hl:(ō.endLine==Ť.line)=true)
  (a8:((ĥ Ť<|Õ (e::es) X.env).all (fun x=>!x.1)&&(Ÿ Ť<|ņ [] X.env).all (fun x=>x.1.isSome)&&decide ((e::es).length+([]:List aI).length+(if([]:List aI).isEmpty then 0 else 1)<30))=true)
  (hs:Õ (e::es) X.env=(false,eval e X.env)::Õ es X.env) (hpl:(ĥ Ť<|Õ es X.env).any (·.1)=false) :
  PE X (.Call (.Attribute o (Hz m) ō) (e::es) [] Ť) (tE X i (O.wF P n)<|.bm m mo ms):=by
 have u1:X.A.units+1<Ğ:=by have:=g.un;omega
 cases m with
 |append=>exact Hf g.K PySem.F.plainAttrs_list PySem.F.slot_list_append PySem.F.type_list_append Ac (Pp rfl) HC ho ha (hb _) a8 hl hs hpl
 |popAt=>exact Hf g.K PySem.F.plainAttrs_list PySem.F.slot_list_pop PySem.F.type_list_pop A3 (Pp rfl) Fv ho ha (hb _) a8 hl hs hpl
 |dget=>exact Hf g.K PySem.F.plainAttrs_dict PySem.F.slot_dict_get PySem.F.type_dict_get (BG u1) (RB rfl) Iw ho ha (hb _) a8 hl hs hpl
 |_=>cases h
variable {sc:Ž} {ö:List Nat}
theorem Gd.blk(g:Gd X i P n c){x:List Str}(hb:Z6 sc c.sc c.N x ö=true)(hk:sc.kind=.function)(cl:List<|Str×È)(C:È)(s:Å)(H:Hp)(ex:List È) :
  Gd (Zp X sc (ZY X x ö) cl C s H ex) i P n (c.blk sc x ö) where
 K:=g.K
 N:=by show ZY X x ö=_;unfold ZY;rw[g.N];rfl
 sc:=by show bG sc X.env=_;unfold bG Env.kindOf;rw[g.sc];rfl
 nd:=by have B:=N5 g.sc g.N hk hb;have:=B.nd;unfold ZY at this;rw[g.N]at this;exact this
 un:=g.un
 calm:=g.calm
 room:=g.room
 bl:=g.bl
 dfs:=g.dfs
 cst:=g.cst
 kl:=⟨g.kl.A,g.kl.F,g.kl.mkc,g.kl.mth⟩
 xl:=fun h=>⟨(g.xl h).xc,(g.xl h).rs,(g.xl h).kn⟩
theorem Gd.pt(g:Gd X i P n c)(cK:c.cm=true){xs:List Str}(hb:Z6 sc c.sc c.N xs ö=true)(hk:sc.kind=.function){p:O.Pt}(hp:OI xs.length p=true)(x:Expr)(cl:List<|Str×È)(C:È)(s:Å)(H:Hp)(ex:List È) :
  PG (Zp X sc (ZY X xs ö) cl C s H ex) (toP p (c.blk sc xs ö) x) (gPt i p):=by
 have B:=N5 g.sc g.N hk hb;have G:=g.blk hb hk cl C s H ex;have key:∀j,j<xs.length->DG (Zp X sc (ZY X xs ö) cl C s H ex) (c.blk sc xs ö) j:=fun j hj=>by
  have e:(c.blk sc xs ö).nmOf j=xs[j]:=by unfold Md.nmOf Md.blk;show(xs++_).getD j _=_;rw[ô,Ċ hj,Ë hj];rfl
  have lo:=lookup_relabel_local (env:=X.env)<|B.own xs[j]<|Ķ hj;unfold DG;rw[e];refine⟨?_,.inl lo,.inr lo⟩;show(xs++_)[j]?=_;rw[Ċ hj,Ë hj]
 refine F1 G.K (by rw[G.N];exact G.nd) (g.calm cK) ?_;cases p with
 |one j=>exact key j<|of_decide_eq_true hp
 |many js=>exact fun j hj=>key j<|of_decide_eq_true<|ñ.mp hp j hj
 |nest j js=>cases hp
variable {b:O.E}
theorem Ur(h:ZI b=true):∃a d,b=.and a d:=by
 cases b with
 |and a d=>exact⟨a,d,rfl⟩
 |_=>cases h
theorem BV(h:Yb b=true):∃a d,b=.or a d:=by
 cases b with
 |or a d=>exact⟨a,d,rfl⟩
 |_=>cases h
theorem C7{b:O.Tt}(h:Zo b=true):∃a d,b=.and a d:=by
 cases b with
 |and a d=>exact⟨a,d,rfl⟩
 |_=>cases h
theorem E7{b:O.Tt}(h:ZA b=true):∃a d,b=.or a d:=by
 cases b with
 |or a d=>exact⟨a,d,rfl⟩
 |_=>cases h
theorem MF{b:Bool}(h:(!b||p==q)=true)(hb:b=true):p=q:=by rw[hb]at h;exact eq_of_beq h
variable {Φ:O.Fs} {x:Expr}
theorem Cy(hp:(!ZI b||(rest (ZI b) x).pos==x.pos)=true)(h:PE X (toX b c<|rest (ZI b) x)<|tE X i Φ b):PE X (.BoolOp .And (flat (ZI b)<|toX b c<|rest (ZI b) x) x.pos)<|tE X i Φ b:=by
 cases z:ZI b with
 |false=>rw[z]at h;exact CD h
 |true =>have e:=MF hp z;rw[z]at e h;obtain⟨a,d,rfl⟩:=Ur z;show PE X (.BoolOp .And (sub<|.BoolOp .And _ (rest true x).pos) x.pos) _;rw[<-e];exact h
theorem Et(hp:(!Yb b||(rest (Yb b) x).pos==x.pos)=true)(h:PE X (toX b c<|rest (Yb b) x)<|tE X i Φ b):PE X (.BoolOp .Or (flat (Yb b)<|toX b c<|rest (Yb b) x) x.pos)<|tE X i Φ b:=by
 cases z:Yb b with
 |false=>rw[z]at h;exact CD h
 |true =>have e:=MF hp z;rw[z]at e h;obtain⟨a,d,rfl⟩:=BV z;show PE X (.BoolOp .Or (sub<|.BoolOp .Or _ (rest true x).pos) x.pos) _;rw[<-e];exact h
theorem KH(b:Bool){e:O.E}(h:b=ZI e\/b=Yb e):∃y ys,flat b (toX e c x)=y::ys:=by
 cases b with
 |false=>exact⟨_,_,rfl⟩
 |true =>
  rcases h with h|h
  .obtain⟨a,d,rfl⟩:=Ur h.symm;exact⟨_,_,rfl⟩
  .obtain⟨a,d,rfl⟩:=BV h.symm;exact⟨_,_,rfl⟩
variable {i:Inf}{P:O.Pg}{n:Nat}
variable {X:Cx} {c:Md} {Φ:O.Fs} {b:O.Tt} {x:Expr}
theorem UO(hp:(!Zo b||(rest (Zo b) x).pos==x.pos)=true)(h:PT X (toT b c<|rest (Zo b) x)<|tTt X i Φ b)(h2:(Zo b||ZA b)=true->PW X (toT b c<|rest (Zo b) x) (tTt X i Φ b)) :
  ∃y ys,flat (Zo b) (toT b c<|rest (Zo b) x)=y::ys/\PW X (.BoolOp .And (y::ys) x.pos) (tTt X i Φ b):=by
 cases z:Zo b with
 |false=>rw[z]at h;exact⟨_,_,rfl,Eu h⟩
 |true =>have e:=MF hp z;rw[z]at e h2;obtain⟨a,d,rfl⟩:=C7 z;refine⟨_,_,rfl,?_⟩;rw[<-e];exact h2 rfl
theorem Ci(hp:(!ZA b||(rest (ZA b) x).pos==x.pos)=true)(h:PT X (toT b c<|rest (ZA b) x)<|tTt X i Φ b)(h2:(Zo b||ZA b)=true->PW X (toT b c<|rest (ZA b) x) (tTt X i Φ b)) :
  ∃y ys,flat (ZA b) (toT b c<|rest (ZA b) x)=y::ys/\PW X (.BoolOp .Or (y::ys) x.pos) (tTt X i Φ b):=by
 cases z:ZA b with
 |false=>rw[z]at h;exact⟨_,_,rfl,LG h⟩
 |true =>have e:=MF hp z;rw[z]at e h2;obtain⟨a,d,rfl⟩:=E7 z;refine⟨_,_,rfl,?_⟩;rw[<-e];exact h2 rfl
variable {e:O.E}
theorem Rc(h:UX e=true):∃s,e=.cst (.str s):=by
 cases e with
 |cst v=>cases v with
  |str s=>exact⟨s,rfl⟩
  |_=>cases h
 |_=>cases h
variable {ö:List Nat} {p:O.Pt} {it:O.It} {pos:Pos}
theorem Kz(g:Gd X i P n c){mt:O.Tt}{me:O.E}{bq ū bb:Expr}{x:List Str}{aR:List Expr}{sc:Ž}(cK:c.cm=true)(h1:Z6 sc c.sc c.N x ö=true)(hk:sc.kind=.function)(hp:OI x.length p=true)
  (hi:PI X bb ū<|tIt X i (O.wF P n) it) (hs:∀y,Ě ū X.env y=pure y) (hG:∀cl C s H ex,PG (Zp X sc (ZY X x ö) cl C s H ex) bb<|gPt i p)
  (hE:∀cl C s H ex,PE (Zp X sc (ZY X x ö) cl C s H ex) bq<|tE0 i (O.wF P n) me) (hI:∀cl C s H ex,PIfs (Zp X sc (ZY X x ö) cl C s H ex) aR<|tT0 i (O.wF P n) mt) :
  PE X (.ListComp bq [⟨bb,ū,aR,0⟩] sc pos) (tE X i (O.wF P n)<|.comp ö x.length p it mt me)/\
   ∀(y:Str) (py Ϙ:Pos) (j:Nat),X.N[j]?=some y->L2.Loc X.env.scope y->(X.fn y=true\/X.env.scope.names.lookup y=some .local)->Ų (.ListComp bq [⟨bb,ū,aR,0⟩] sc pos) (some<|.Name y py) Ϙ.line X.env=pure true->PS X (.Assign [.Name y py] (.ListComp bq [⟨bb,ū,aR,0⟩] sc pos) Ϙ) (tSt X i (O.wF P n)<|.set (.one j)<|.comp ö x.length p it mt me):=by
 have B:=N5 g.sc g.N hk h1;have hc:=g.calm cK;refine⟨(A2 hc B hi hG hI hE hs).imp<|O0 hp,fun y py Ϙ j hj hl hf hsw=>?_⟩;refine(Cz (by rw[g.N];exact g.nd) hj hl hc B hi hG hI hE hs hsw hf).imp fun D σ H ⟨env,G,N,R,Bk,Ct,Xe,p,w,e⟩=>?_;refine O0 hp σ H _ ⟨env,G,_,Xe env,p.pre,w,fun v G1 H1 x k1 g1 r1 w1=>?_⟩;obtain⟨œ,e2,w2⟩:=go_some w1;clear w1;cases e2;exact e.nx _ _ G1 H1 k1 g1 ((p.en.keep k1).set r1 j) w2
theorem Ba{j:Nat}(hN:X.N=c.N)(h:j<c.N.length):X.N[j]?=some (c.nmOf j):=by rw[hN];unfold Md.nmOf;rw[ô,Ë h];rfl
theorem EK{o:Expr}{m:Str}{ō:Pos}{args:List Expr}{env:Env}(hb:ħ o m env (eval o env)=eval o env)(a8:cp (args.length+0) (ĥ pos<|Õ args env) (Ÿ pos<|ņ [] env)=true)(hl:(ō.endLine==pos.line)=true) :
  eval (.Call (.Attribute o m ō) args [] pos) env=(do
    let ov<-eval o env
    Υ ō.atName
    let (f,first)<-Ŧ [ov] (ϑ ov m<|do return (<-importBound o env).getD true)
    bW pos f first (ĥ pos<|Õ args env) (Ÿ pos<|ņ [] env)):=by
 show(do
   let ov<-ħ o m env (eval o env)
   Υ ō.atName
   methodCall o m ō pos env ov (args.length+0) (ĥ pos<|Õ args env) (Ÿ pos<|ņ [] env))=_
 rw[hb];unfold methodCall methodCallPos;rw[a8,hl];rfl
theorem HJ(env:Env)(pos:Pos){as:O.Es}{xs:List Expr}(h:Zb as<20):cp ((toA as c xs).length+0) (ĥ pos<|Õ (toA as c xs) env) (Ÿ pos<|ņ [] env)=true:=by unfold cp;rw[bAq,bAq,decide_eq_true_eq,YW];refine⟨⟨Jq env pos as c xs,rfl⟩,?_⟩;show Zb as+0+0<30;omega
theorem Py{m:O.Tt}(h:OO m=false->PT X (toT m c x) (tTt X i (O.wF P n) m)):PIfs X (toF m c x)<|tT0 i (O.wF P n) m:=by
 cases m with
 |yes=>exact G0
 |val e=>exact X4<|pt0<|h rfl
 |not t=>exact X4<|pt0<|h rfl
 |and a b=>exact X4<|pt0<|h rfl
 |or a b=>exact X4<|pt0<|h rfl
theorem M5(c:Md):∀(es:O.Es) (xs:List Expr),JJ es=true->(XJ<|toA es c xs).all (·.isSome)=true/\(XJ<|toA es c xs).length=(Dg<|toA es c xs).length/\2*(XJ<|toA es c xs).length=esL es
 |.nil,_,_=>⟨rfl,rfl,rfl⟩
 |.cons _ .nil,_,h=>by cases h
 |.cons k (.cons v r),xs,h=>by
  obtain⟨h1,h2,h3⟩:=M5 c r xs.tail.tail h;refine⟨?_,?_,?_⟩
  .show(true&&(XJ<|toA r c xs.tail.tail).all (·.isSome))=true;rw[h1];rfl
  .show(XJ<|toA r c xs.tail.tail).length+1=(Dg<|toA r c xs.tail.tail).length+1;rw[h2]
  .show 2*((XJ<|toA r c xs.tail.tail).length+1)=esL r+1+1;omega
mutual
theorem eE:∀(m:O.E) (X:Cx) (c:Md) (x:Expr),Gd X i P n c->okE m c x=true->PE X (toX m c x) (tE X i (O.wF P n) m)
 |.cst v,X,c,x,g,h=>Io h
 |.var j,X,c,x,g,h=>by have h:(decide (j<c.N.length)&&c.vis (c.nmOf j)&&nm (c.nmOf j))=true:=h;rw[bAq,bAq,decide_eq_true_eq]at h;obtain⟨q1,q2,_⟩:=O9 h.2;exact P1 (Ba g.N h.1.1) (g.vis h.1.2) q1 q2
 |.glob y v,X,c,x,g,h=>by have h:((c.gl (Str.ofString y)&&nm (Str.ofString y))&&decide (c.cs.lookup y=some v))=true:=h;rw[bAq,bAq,decide_eq_true_eq]at h;obtain⟨q1,q2,_⟩:=O9 h.1.2;obtain⟨u,z,e1,e2,e3⟩:=g.cst _ _ h.2;exact GR (FA (g.gl h.1.1) e1 e2 q1) e3
 |.bin o a b,X,c,x,g,h=>by have h:(okE a c (kid x 0)&&okE b c (kid x 1))=true:=h;rw[bAq]at h;exact P7 g (eE a X c _ g h.1)<|eE b X c _ g h.2
 |.neg a,X,c,x,g,h=>Pf<|eE a X c _ g h
 |.not a,X,c,x,g,h=>Qu<|eE a X c _ g h
 |.and a b,X,c,x,g,h=>by have h:(okE a c (kid x 0)&&okE b c (rest (ZI b) x)&&(!ZI b||(rest (ZI b) x).pos==x.pos))=true:=h;rw[bAq,bAq]at h;have h2:=Cy h.2<|eE b X c _ g h.1.2;obtain⟨y,ys,e⟩:=KH (c:=c) (ZI b) (e:=b) (x:=rest (ZI b) x)<|.inl rfl;show PE X (.BoolOp .And (toX a c (kid x 0)::flat (ZI b) (toX b c<|rest (ZI b) x)) x.pos) _;rw[e]at h2 ⊢;exact QD (eE a X c _ g h.1.1) h2
 |.or a b,X,c,x,g,h=>by have h:(okE a c (kid x 0)&&okE b c (rest (Yb b) x)&&(!Yb b||(rest (Yb b) x).pos==x.pos))=true:=h;rw[bAq,bAq]at h;have h2:=Et h.2<|eE b X c _ g h.1.2;obtain⟨y,ys,e⟩:=KH (c:=c) (Yb b) (e:=b) (x:=rest (Yb b) x)<|.inr rfl;show PE X (.BoolOp .Or (toX a c (kid x 0)::flat (Yb b) (toX b c<|rest (Yb b) x)) x.pos) _;rw[e]at h2 ⊢;exact Q7 (eE a X c _ g h.1.1) h2
 |.cmp o a b,X,c,x,g,h=>by have h:(okE a c (kid x 0)&&okE b c (kid x 1)&&(!XM o||M9 b))=true:=h;rw[bAq,bAq]at h;exact(Nq g h.2 (eE a X c _ g h.1.1)<|eE b X c _ g h.1.2).1
 |.chain o1 o2 a b d,X,c,x,g,h=>by have h:(okE a c (kid x 0)&&okE b c (kid x 1)&&okE d c (kid x 2) && !XM o1 && !XM o2)=true:=h;rw[bAq,bAq,bAq,bAq,ř,ř]at h;obtain⟨⟨⟨⟨h1,h2⟩,h3⟩,h4⟩,h5⟩:=h;exact(Jy g h4 h5 (eE a X c _ g h1) (eE b X c _ g h2)<|eE d X c _ g h3).1
 |.call f as,X,c,x,g,h=>by
  have h:((c.gl (Str.ofString f)&&nm (Str.ofString f))&&c.fs.contains f&&c.cm&&okA as c (sub x).tail)=true:=h;rw[bAq,bAq,bAq,bAq]at h;obtain⟨⟨⟨⟨h1,h2⟩,h3⟩,h4⟩,h5⟩:=h;obtain⟨q1,_,_⟩:=O9 h2;have ha:=eA as X c _ g h5;cases as with
  |nil=>exact Ez g.K (g.dfs _ h3) (g.rm h4) (g.gl h1) q1
  |cons a as=>exact GP g.K (g.dfs _ h3) (g.rm h4) (g.gl h1) q1 ha (Zr ..)<|Yh ..
 |.make C as,X,c,x,g,h=>by
  have h:((c.gl (Str.ofString C)&&nm (Str.ofString C))&&c.cl.contains C&&c.cm&&decide (Zb as≠0)&&okA as c (sub x).tail)=true:=h;rw[bAq,bAq,bAq,bAq,bAq,decide_eq_true_eq]at h;obtain⟨⟨⟨⟨⟨h1,h2⟩,h3⟩,h4⟩,h6⟩,h5⟩:=h;obtain⟨q1,_,_⟩:=O9 h2;have ha:=eA as X c _ g h5;obtain⟨a,f,i1,i2,M,hm,D⟩:=g.kl.mkc C h3;cases as with
  |nil=>exact absurd rfl h6
  |cons b as=>exact IH g.K i1 i2 M D (g.room h4) (g.gl h1) hm q1 ha (Zr ..)<|Yh ..
 |.meth C m o as,X,c,x,g,h=>by
  have h:(c.ms.contains (C,m)&&c.cm&&okE o c (kid (kid x 0) 0)&&Yz (toX o c<|kid (kid x 0) 0)&&((kid x 0).pos.endLine==x.pos.line)&&decide (Zb as<20)&&okA as c (sub x).tail)=true:=h;rw[bAq,bAq,bAq,bAq,bAq,bAq,decide_eq_true_eq]at h;obtain⟨⟨⟨⟨⟨⟨h1,h2⟩,h3⟩,h4⟩,h6⟩,h7⟩,h5⟩:=h;have ev:=EK (m:=Str.ofString m) (Yo h4 _ X.env) (HJ X.env x.pos (c:=c) (xs:=(sub x).tail) h7) h6;have ha:=eA as X c _ g h5;have ho:=eE o X c _ g h3;obtain⟨a,f,i1,A,M,D⟩:=g.kl.mth C m h1;cases as with
  |nil=>exact E5 g.K i1 A M D (g.rm h2) ho ev
  |cons b as=>exact Im g.K i1 A M D (g.rm h2) ho ha (Zr ..) (Yh ..) ev
 |.fld o f,X,c,x,g,h=>by have h:(c.fl.contains f&&okE o c (kid x 0)&&Yz (toX o c<|kid x 0))=true:=h;rw[bAq,bAq]at h;exact Qr g.K g.kl.A (g.kl.F _ h.1.1) (eE o X c _ g h.1.2)<|Yo h.2 _ _
 |.bi f as,X,c,x,g,h=>by
  have h:((match D0 f with
    |some T=>decide (Zb as=1)&&kinds.contains T&&c.gl "isinstance" && c.gl (Str.ofString T)
    |none=>match FB f with
      |some Ts=>decide (Zb as=1)&&c.gl "isinstance" && !c.xs.isEmpty&&La c Ts
      |none=>match Da f with
        |some Ts=>decide (Zb as=1)&&c.gl "isinstance" && Ts.all (fun T=>kinds.contains T&&c.gl (Str.ofString T))&&decide (Ts.length<=20)
        | none=>if XG f then decide (Zb as=1)&&c.gl "len" && c.gl "set" && c.cm else if WN f then decide (Zb as=1)&&c.gl (Yk f)&&c.gl (CY f)&&c.cm else if Mp f then decide (Zb as=1)&&c.gl "min" && c.cm else if O4 f then decide (Zb as=1)&&c.gl "dict" && c.gl "enumerate" && c.cm else if OU f then decide (Zb as=1)&&c.gl "isinstance" && c.gn (M6 f)&&c.cl.contains (M6 f)else XX f&&c.gl (Yk f)&&decide (Zb as≠0)&&(c.cm||X8 f))&&okA as c (OS f x))=true:=h
  rw[bAq]at h;cases z:D0 f with
  |some T =>
   have h1:=h.1;rw[z]at h1;rw[bAq,bAq,bAq,decide_eq_true_eq]at h1;obtain⟨⟨⟨h1,h2⟩,h3⟩,h4⟩:=h1;cases LB z;cases as with
   |nil=>cases h1
   |cons a as=>cases as with
    |nil =>have h5:(okE a c _&&true)=true:=h.2;rw[bAq]at h5;exact CZ g (ą.mp h2) h3 h4 (eE a X c _ g h5.1)<|Zr ..
    |cons b as=>exact absurd h1 (by simp[Zb])
  |none =>
   have h1:=h.1;rw[z]at h1
   replace h1:(match FB f with
     |some Ts=>decide (Zb as=1)&&c.gl "isinstance" && !c.xs.isEmpty&&La c Ts
     |none=>match Da f with
       |some Ts=>decide (Zb as=1)&&c.gl "isinstance" && Ts.all (fun T=>kinds.contains T&&c.gl (Str.ofString T))&&decide (Ts.length<=20)
       | none=>if XG f then decide (Zb as=1)&&c.gl "len" && c.gl "set" && c.cm else if WN f then decide (Zb as=1)&&c.gl (Yk f)&&c.gl (CY f)&&c.cm else if Mp f then decide (Zb as=1)&&c.gl "min" && c.cm else if O4 f then decide (Zb as=1)&&c.gl "dict" && c.gl "enumerate" && c.cm else if OU f then decide (Zb as=1)&&c.gl "isinstance" && c.gn (M6 f)&&c.cl.contains (M6 f)else XX f&&c.gl (Yk f)&&decide (Zb as≠0)&&(c.cm||X8 f))=true:=h1
   cases zx:FB f with
   |some Ts=>cases zx
   |none =>
    rw[zx]at h1
    replace h1:(match Da f with
      |some Ts=>decide (Zb as=1)&&c.gl "isinstance" && Ts.all (fun T=>kinds.contains T&&c.gl (Str.ofString T))&&decide (Ts.length<=20)
      | none=>if XG f then decide (Zb as=1)&&c.gl "len" && c.gl "set" && c.cm else if WN f then decide (Zb as=1)&&c.gl (Yk f)&&c.gl (CY f)&&c.cm else if Mp f then decide (Zb as=1)&&c.gl "min" && c.cm else if O4 f then decide (Zb as=1)&&c.gl "dict" && c.gl "enumerate" && c.cm else if OU f then decide (Zb as=1)&&c.gl "isinstance" && c.gn (M6 f)&&c.cl.contains (M6 f)else XX f&&c.gl (Yk f)&&decide (Zb as≠0)&&(c.cm||X8 f))=true:=h1
    cases zl:Da f with
    |some Ts=>cases zl
    |none =>
     rw[zl]at h1;dsimp only at h1;split at h1
     .rename_i bd;exact absurd (show false=true from bd) (by decide)
     split at h1
     .rename_i _ bd;have hf:f=.sortedSet:=by cases f<;>first|rfl|cases bd
      rw[bAq,bAq,bAq,decide_eq_true_eq]at h1;obtain⟨⟨⟨h1,h2⟩,h3⟩,h4⟩:=h1;cases as with
      |nil=>cases h1
      |cons a as=>cases as with
       |nil =>
        rcases hf with rfl
        .have h6:(okE a c _&&true)=true:=h.2;rw[bAq]at h6;exact Nw (g.calm h4) g.K (eE a X c _ g h6.1) (g.gl h2) (g.bl _<|by simp[blts]) (g.gl h3) (g.bl _<|by simp[blts,CY]) (by rw[Zr];rfl)
       |cons b as=>exact absurd h1 (by simp[Zb])
     split at h1
     .rename_i _ _ bd;have hf:f=.minD:=by cases f<;>first|rfl|cases bd
      subst hf;rw[bAq,bAq,decide_eq_true_eq]at h1;obtain⟨⟨h1,h2⟩,h4⟩:=h1;cases as with
      |nil=>cases h1
      |cons a as=>cases as with
       |nil =>have h6:(okE a c _&&true)=true:=h.2;rw[bAq]at h6;exact HA (g.calm h4) (by have:=g.un;omega) g.K (g.gl h2) (g.bl _<|by simp[blts]) (eE a X c _ g h6.1) (by rw[Zr];rfl)
       |cons b as=>exact absurd h1 (by simp[Zb])
     split at h1
     .rename_i _ _ _ bd;exact absurd (show false=true from bd) (by decide)
     split at h1
     .rename_i _ _ _ _ bd;exact absurd (show false=true from bd) (by decide)
     rw[bAq,bAq,bAq,decide_eq_true_eq]at h1;obtain⟨⟨⟨h1,h2⟩,h3⟩,h4⟩:=h1;have ha:=eA as X c _ g h.2;cases as with
     |nil=>exact absurd rfl h3
     |cons a as =>
      have e1:toX (.bi f<|.cons a as) c x=.Call (.Name (Yk f) (kid x 0).pos) (toA (.cons a as) c<|OS f x) [] x.pos:=by cases f<;>first|(cases h1;done)|rfl
      rw[e1];exact Ec g h1 h4 (g.gl h2) ha (Zr ..)<|Yh ..
 |.bm m o as,X,c,x,g,h=>by
  have h:(decide (C9 m=some (Zb as))&&okE o c (kid (kid x 0) 0)&&Yz (toX o c<|kid (kid x 0) 0)&&((kid x 0).pos.endLine==x.pos.line)&&okA as c (sub x).tail)=true:=h;rw[bAq,bAq,bAq,bAq,decide_eq_true_eq]at h;obtain⟨⟨⟨⟨h1,h2⟩,h3⟩,h4⟩,h5⟩:=h;have ha:=eA as X c _ g h5;have ho:=eE o X c _ g h2;cases as with
  |nil=>exact Be g h1 ho (fun f=>Yo h3 f _) h4
  |cons a as =>
   refine E3 g h1 ho ha (fun f=>Yo h3 f _) h4 ?_ (Zr ..)<|Yh ..;rw[bAq,bAq,decide_eq_true_eq];refine⟨⟨Jq X.env x.pos (.cons a as) c (sub x).tail,rfl⟩,?_⟩;have e2:(toA (.cons a as) c (sub x).tail).length=Zb (.cons a as):=YW ..;have e3:Zb (.cons a as)<=2:=by
    have:∀m:O.Bm,∀k,C9 m=some k->k<=2:=by intro m k;cases m<;>intro z<;>first|(cases z;done)|(cases z;decide)
    exact this m _ h1
   show(toA (.cons a as) c (sub x).tail).length+0+0<30;omega
 |.idx a b,X,c,x,g,h=>by have h:(okE a c (kid x 0)&&okE b c (kid x 1))=true:=h;rw[bAq]at h;exact Qc (ix_seq.or<|EF (by have:=g.un;omega)) (by rw[g.K];exact QH) (eE a X c _ g h.1) (eE b X c _ g h.2)<|DK _ _ _
 |.slc a lo hi,X,c,x,g,h=>by have h:(okE a c (kid x 0)&&okO lo c (kid (kid x 1) 0)&&okO hi c (kid (kid x 1) 1))=true:=h;rw[bAq,bAq]at h;exact QF RP (by rw[g.K];exact PF) (eE a X c _ g h.1.1) (eO lo X c _ g h.1.2)<|eO hi X c _ g h.2
 |.tup es,X,c,x,g,h=>by have h:(okA es c (sub x)&&decide (Zb es<=1000))=true:=h;rw[bAq,decide_eq_true_eq]at h;exact Qg (by rw[YW];exact h.2)<|eA es X c _ g h.1
 |.key es,X,c,x,g,h=>by have h:(okA es c (sub x)&&decide (Zb es<=1000))=true:=h;rw[bAq,decide_eq_true_eq]at h;exact QQ (by rw[YW];exact h.2)<|eA es X c _ g h.1
 |.dctP,X,c,x,g,h=>Ha
 |.lst es,X,c,x,g,h=>by have h:(okA es c (sub x)&&decide (Zb es<=1000))=true:=h;rw[bAq,decide_eq_true_eq]at h;exact Qi (by rw[YW];exact h.2)<|eA es X c _ g h.1
 |.dct es,X,c,x,g,h=>by
  have h:(okA es c (sub x)&&JJ es&&decide (esL es<=30))=true:=h;rw[bAq,bAq,decide_eq_true_eq]at h;obtain⟨⟨h1,h2⟩,h3⟩:=h;have hp:=eD es X c (sub x) x.pos g h1 h2;cases es with
  |nil=>exact IY
  |cons k r=>cases r with
   |nil=>cases h2
   |cons v r =>obtain⟨q1,q2,q3⟩:=M5 c (.cons k<|.cons v r) (sub x) h2;refine L5 h2 h3 hp q1 q2 (by intro z;cases z) (by rw[<-q3]at h3;omega)
 |.ife t a b,X,c,x,g,h=>by have h:(okT t c (kid x 0)&&okE a c (kid x 1)&&okE b c (kid x 2))=true:=h;rw[bAq,bAq]at h;exact PY (eT t X c _ g h.1.1).1 (eE a X c _ g h.1.2)<|eE b X c _ g h.2
 |.comp ö m p it t e,X,c,x,g,h=>by
  have h:((OI m p&&(Yu<|kid x 1).length == m)&&c.cm&&Z6 (scp x) c.sc c.N (Yu<|kid x 1) ö&&(scp x).kind == .function&&okI it c (kid x 2) (!Zz p)&&okE e (c.blk (scp x) (Yu<|kid x 1) ö) (kid x 0)&&(OO t||okT t (c.blk (scp x) (Yu<|kid x 1) ö) (kid x 3)))=true:=h;rw[bAq,bAq,bAq,bAq,bAq,bAq]at h;obtain⟨⟨⟨⟨⟨⟨h1,h2⟩,h3⟩,h4⟩,h5⟩,h6⟩,h7⟩:=h;rw[bAq,beq_iff_eq]at h1;obtain⟨h1,rfl⟩:=h1;have hk:=eq_of_beq h4;obtain⟨t1,t2⟩:=KY (c:=c.blk (scp x) (Yu<|kid x 1) ö) p<|kid x 1;obtain⟨a1,a2⟩:=eI it X c (kid x 2) (toP p (c.blk (scp x) (Yu<|kid x 1) ö)<|kid x 1) g (!Zz p) t1 t2 h5;exact(Kz g h2 h3 hk h1 a1 a2 (g.pt h2 h3 hk h1 _)
    (fun cl C s H ex=>pe0<|eE e _ _ _ (g.blk h3 hk cl C s H ex) h6) (fun cl C s H ex=>Py fun z=>(eT t _ _ _ (g.blk h3 hk cl C s H ex)<|by rw[z]at h7;exact h7).1)).1
 |.fstr es,X,c,x,g,h=>nomatch h
 |.repl _ _ _,X,c,x,g,h=>nomatch h
 |.split o a,X,c,x,g,h=>nomatch h
 |.rev a,X,c,x,g,h=>Po g.K<|eE a X c _ g h
theorem eD:∀(es:O.Es) (X:Cx) (c:Md) (xs:List Expr) (pos:Pos),Gd X i P n c->okA es c xs=true->JJ es=true->PPs X pos (XJ<|toA es c xs) (Dg<|toA es c xs) (Uf X i (O.wF P n) es)
 |.nil,X,c,xs,pos,g,h,he=>DS
 |.cons k .nil,X,c,xs,pos,g,h,he=>by cases he
 |.cons k (.cons v r),X,c,xs,pos,g,h,he=>by have h:(okE k c (xs.headD dE)&&(okE v c (xs.tail.headD dE)&&okA r c xs.tail.tail))=true:=h;rw[bAq,bAq]at h;exact B4 (eE k X c _ g h.1) (eE v X c _ g h.2.1)<|eD r X c _ pos g h.2.2 he
theorem eA:∀(ms:O.Es) (X:Cx) (c:Md) (xs:List Expr),Gd X i P n c->okA ms c xs=true->PA X (toA ms c xs) (tAr X i (O.wF P n) ms (toA ms c xs).length)
 |.nil,X,c,xs,g,h=>IF
 |.cons a as,X,c,xs,g,h=>by have h:(okE a c (xs.headD dE)&&okA as c xs.tail)=true:=h;rw[bAq]at h;exact Fu (eE a X c _ g h.1) (eA as X c _ g h.2)<|Zr ..
theorem eJ:∀(ms:O.Es) (X:Cx) (c:Md) (xs:List Expr),Gd X i P n c->okJ ms c xs=true->PJ X (toJ ms c xs) (tJs X i (O.wF P n) ms)
 |.nil,X,c,xs,g,h=>Lv
 |.cons a as,X,c,xs,g,h=>by
  have h:((UX a||okE a c (kid (xs.headD dE) 0))&&okJ as c xs.tail)=true:=h;rw[bAq]at h;have hr:=eJ as X c _ g h.2;show PJ X ((if UX a then toX a c (xs.headD dE)else .FormattedValue (toX a c<|kid (xs.headD dE) 0) (-1) none (xs.headD dE).pos)::toJ as c xs.tail) _;cases z:UX a with
  |true =>obtain⟨s,rfl⟩:=Rc z;exact O7 Lo hr rfl
  |false =>rw[z]at h;exact O7 (H9<|eE a X c _ g h.1) hr rfl
theorem eO:∀(m:O.Oe) (X:Cx) (c:Md) (x:Expr),Gd X i P n c->okO m c x=true->PO X (toO m c x) (tOx X i (O.wF P n) m)
 |.none,X,c,x,g,h=>FG
 |.some e,X,c,x,g,h=>DU<|eE e X c _ g h
theorem eT:∀(m:O.Tt) (X:Cx) (c:Md) (x:Expr),Gd X i P n c->okT m c x=true->PT X (toT m c x) (tTt X i (O.wF P n) m)/\((Zo m||ZA m)=true->PW X (toT m c x) (tTt X i (O.wF P n) m))
 |.yes,X,c,x,g,h=>nomatch h
 |.val e,X,c,x,g,h=>by
  refine⟨?_,fun z=>(by cases z)⟩;have h:(okE e c x&&(NT e||Qa e))=true:=h;rw[bAq]at h;have he:=eE e X c x g h.1;cases z:NT e with
  |true=>exact IL he (by cases e<;>first|(cases z;done)|exact fun _=>rfl) g.K
  |false =>
   have h2:=h.2;rw[z]at h2;cases e with
   |cmp o a b =>have h:(okE a c (kid x 0)&&okE b c (kid x 1)&&(!XM o||M9 b))=true:=h.1;rw[bAq,bAq]at h;exact(Nq g h.2 (eE a X c _ g h.1.1)<|eE b X c _ g h.1.2).2
   |chain o1 o2 a b d =>have h:(okE a c (kid x 0)&&okE b c (kid x 1)&&okE d c (kid x 2) && !XM o1 && !XM o2)=true:=h.1;rw[bAq,bAq,bAq,bAq,ř,ř]at h;obtain⟨⟨⟨⟨h1,h2⟩,h3⟩,h4⟩,h5⟩:=h;exact(Jy g h4 h5 (eE a X c _ g h1) (eE b X c _ g h2)<|eE d X c _ g h3).2
   |_=>cases h2
 |.not t,X,c,x,g,h=>⟨Ht (eT t X c _ g h).1,fun z=>(by cases z)⟩
 |.and a b,X,c,x,g,h=>by
  have h:(okT a c (kid x 0)&&okT b c (rest (Zo b) x)&&(!Zo b||(rest (Zo b) x).pos==x.pos))=true:=h;rw[bAq,bAq]at h;have h2:=eT b X c _ g h.1.2;obtain⟨y,ys,e,h3⟩:=UO h.2 h2.1 h2.2;have h4:PW X (toT (.and a b) c x)<|tTt X i (O.wF P n)<|.and a b:=by show PW X (.BoolOp .And (toT a c (kid x 0)::flat (Zo b) (toT b c<|rest (Zo b) x)) x.pos) _;rw[e];exact Id (eT a X c _ g h.1.1).1 h3
  exact⟨h4.pt,fun _=>h4⟩
 |.or a b,X,c,x,g,h=>by
  have h:(okT a c (kid x 0)&&okT b c (rest (ZA b) x)&&(!ZA b||(rest (ZA b) x).pos==x.pos))=true:=h;rw[bAq,bAq]at h;have h2:=eT b X c _ g h.1.2;obtain⟨y,ys,e,h3⟩:=Ci h.2 h2.1 h2.2;have h4:PW X (toT (.or a b) c x)<|tTt X i (O.wF P n)<|.or a b:=by show PW X (.BoolOp .Or (toT a c (kid x 0)::flat (ZA b) (toT b c<|rest (ZA b) x)) x.pos) _;rw[e];exact Qf (eT a X c _ g h.1.1).1 h3
  exact⟨h4.pt,fun _=>h4⟩
theorem eI:∀(m:O.It) (X:Cx) (c:Md) (x tg:Expr),Gd X i P n c->∀(b:Bool),(b=true->∃es k p,tg=.Tuple es k p)->(b=false->∃y p,tg=.Name y p)->okI m c x b=true->PI X tg (toI m c x) (tIt X i (O.wF P n) m)/\∀y,Ě (toI m c x) X.env y=pure y
 |.seq e,X,c,x,tg,g,b,t1,t2,h=>⟨Hr g.K<|eE e X c _ g h,Hu _ _ _ _⟩
 |.chars e,X,c,x,tg,g,b,t1,t2,h=>nomatch h
 |.range a,X,c,x,tg,g,b,t1,t2,h=>by have h:(c.gl "range" && okE a c (kid x 1))=true:=h;rw[bAq]at h;exact⟨CK (g.gl h.1) (g.bl _<|by simp[blts]) (eE a X c _ g h.2)<|Zr ..,fun _=>rfl⟩
 |.range2 a d,X,c,x,tg,g,b,t1,t2,h=>by have h:(c.gl "range" && okE a c (kid x 1)&&okE d c (kid x 2))=true:=h;rw[bAq,bAq]at h;exact⟨UP (g.gl h.1.1) (g.bl _<|by simp[blts]) (eE a X c _ g h.1.2) (eE d X c _ g h.2) (by rw[Zr,Zr];rfl)<|Zr ..,fun _=>rfl⟩
 |.zip a d,X,c,x,tg,g,b,t1,t2,h=>nomatch h
 |.enum e,X,c,x,tg,g,b,t1,t2,h=>by have h:(b&&c.gl "enumerate" && okE e c (kid x 1))=true:=h;rw[bAq,bAq]at h;obtain⟨es,k,p,rfl⟩:=t1 h.1.1;exact⟨DR g.K (g.gl h.1.2) (g.bl _<|by simp[blts]) (eE e X c _ g h.2) (by rw[Zr];rfl),fun _=>rfl⟩
 |.items e,X,c,x,tg,g,b,t1,t2,h=>nomatch h
 |.rev e,_,_,_,_,_,_,_,_,h=>nomatch h
end
theorem Ag(g:Gd X i P n c){m:Nat}{t:O.Tt}(h:okE (.comp ö m p it t e) c x=true) :
  PE X (toX (.comp ö m p it t e) c x) (tE X i (O.wF P n)<|.comp ö m p it t e)/\
   ∀(y:Str) (py Ϙ:Pos) (j:Nat),X.N[j]?=some y->L2.Loc X.env.scope y->(X.fn y=true\/X.env.scope.names.lookup y=some .local)->Ų (toX (.comp ö m p it t e) c x) (some<|.Name y py) Ϙ.line X.env=pure true->PS X (.Assign [.Name y py] (toX (.comp ö m p it t e) c x) Ϙ) (tSt X i (O.wF P n)<|.set (.one j)<|.comp ö m p it t e):=by
 have h:((OI m p&&(Yu<|kid x 1).length==m)&&c.cm&&Z6 (scp x) c.sc c.N (Yu<|kid x 1) ö&&(scp x).kind == .function&&okI it c (kid x 2) (!Zz p)&&okE e (c.blk (scp x) (Yu<|kid x 1) ö) (kid x 0)&&(OO t||okT t (c.blk (scp x) (Yu<|kid x 1) ö) (kid x 3)))=true:=h;rw[bAq,bAq,bAq,bAq,bAq,bAq]at h;obtain⟨⟨⟨⟨⟨⟨h1,h2⟩,h3⟩,h4⟩,h5⟩,h6⟩,h7⟩:=h;rw[bAq,beq_iff_eq]at h1;obtain⟨h1,rfl⟩:=h1;have hk:=eq_of_beq h4;obtain⟨t1,t2⟩:=KY (c:=c.blk (scp x) (Yu<|kid x 1) ö) p<|kid x 1;obtain⟨a1,a2⟩:=eI it X c (kid x 2) (toP p (c.blk (scp x) (Yu<|kid x 1) ö)<|kid x 1) g (!Zz p) t1 t2 h5;exact Kz g h2 h3 hk h1 a1 a2 (g.pt h2 h3 hk h1 _)
  (fun cl C s H ex=>pe0<|eE e _ _ _ (g.blk h3 hk cl C s H ex) h6) (fun cl C s H ex=>Py fun z=>(eT t _ _ _ (g.blk h3 hk cl C s H ex)<|by rw[z]at h7;exact h7).1)
noncomputable def dS:Ļ:=.Pass ⟨0,0,0,0⟩
noncomputable def stE:Ļ->List Expr
 |.Assign ts v _=>v::ts
 |.AugAssign t _ v _=>[v,t]
 |.For t it _ _ _=>[t,it]
 |.While t _ _ _=>[t]
 |.If t _ _ _=>[t]
 |.Expr e _=>[e]
 |.Return (some e) _=>[e]
 |.Raise (some e) _ _=>[e]
 |_=>[]
noncomputable def ke(s:Ļ)(j:Nat):Expr:=(stE s).getD j dE
noncomputable def stB:Ļ->List Ļ
 |.For _ _ b _ _=>b
 |.While _ b _ _=>b
 |.If _ b _ _=>b
 |.Try b _ _ _ _=>b
 |_=>[]
noncomputable def stO:Ļ->List Ļ
 |.If _ _ b _=>b
 |_=>[]
noncomputable def stH:Ļ->List ExceptHandler
 |.Try _ hs _ _ _=>hs
 |_=>[]
noncomputable def dH:ExceptHandler:=.ExceptHandler none none [] ⟨0,0,0,0⟩
noncomputable def hT:ExceptHandler->Expr
 |.ExceptHandler (some e) _ _ _=>e
 |_=>dE
noncomputable def hB:ExceptHandler->List Ļ
 |.ExceptHandler _ _ b _=>b
noncomputable def hP:ExceptHandler->Pos
 |.ExceptHandler _ _ _ p=>p
noncomputable def Md.hot(c:Md):Md:={c with cm:=false}
noncomputable def Rl(t:Option Nat)(e:O.E)(c:Md)(y:Ļ):Ļ:=match t with
 |none=>.Expr (toX e c<|ke y 0) y.pos
 |some j=>.Assign [.Name (c.nmOf j) (ke y 1).pos] (toX e c<|ke y 0) y.pos
mutual
noncomputable def toS:O.S->Md->Ļ->Ļ
 |.set p a,c,s=>.Assign [toP p c<|ke s 1] (toX a c<|ke s 0) s.pos
 |.setIdx a j e,c,s=>.Assign [.Subscript (toX a c<|kid (ke s 1) 0) (toX j c<|kid (ke s 1) 1) (ke s 1).pos] (toX e c<|ke s 0) s.pos
 |.setPair a i b j e,c,s=>.Assign [.Tuple [.Subscript (toX a c<|kid (kid (ke s 1) 0) 0) (toX i c<|kid (kid (ke s 1) 0) 1) (kid (ke s 1) 0).pos,.Subscript (toX b c<|kid (kid (ke s 1) 1) 0) (toX j c<|kid (kid (ke s 1) 1) 1) (kid (ke s 1) 1).pos] (num<|ke s 1) (ke s 1).pos] (toX e c<|ke s 0) s.pos
 |.setFld o f e,c,s=>.Assign [.Attribute (toX o c<|kid (ke s 1) 0) (Str.ofString f) (ke s 1).pos] (toX e c<|ke s 0) s.pos
 |.augVar j op e,c,s=>.AugAssign (.Name (c.nmOf j) (ke s 1).pos) (AW op) (toX e c<|ke s 0) s.pos
 |.augFld o f op n,c,s=>.AugAssign (.Attribute (toX o c<|kid (ke s 1) 0) (Str.ofString f) (ke s 1).pos) (AW op) (.Constant (.int n) (num<|ke s 0) (ke s 0).pos) s.pos
 |.augIdx a j op n,c,s=>.AugAssign (.Subscript (toX a c<|kid (ke s 1) 0) (toX j c<|kid (ke s 1) 1) (ke s 1).pos) (AW op) (.Constant (.int n) (num<|ke s 0) (ke s 0).pos) s.pos
 |.expr e,c,s=>.Expr (toX e c<|ke s 0) s.pos
 |.ret e,c,s=>.Return (some<|toX e c<|ke s 0) s.pos
 |.retN,_,s=>.Return none s.pos
 |.ite t a b,c,s=>.If (toT t c<|ke s 0) (toSs a c<|stB s) (toSs b c<|stO s) s.pos
 |.whl t b,c,s=>.While (toT t c<|ke s 0) (toSs b c<|stB s) [] s.pos
 |.for p it b,c,s=>.For (toP p c<|ke s 0) (toI it c<|ke s 1) (toSs b c<|stB s) [] s.pos
 |.forI true p e b,c,s=>.For (toP p c<|ke s 0) (toX e c<|ke s 1) (toSs b c<|stB s) [] s.pos
 |.forI false p e b,c,s=>.For (toP p c<|ke s 0) (.Call (.Attribute (toX e c<|kid (kid (ke s 1) 0) 0) "items" (kid (ke s 1) 0).pos) [] [] (ke s 1).pos) (toSs b c<|stB s) [] s.pos
 |.brk,_,s=>.Break s.pos
 |.cnt,_,s=>.Continue s.pos
 |.pass,_,s=>.Pass s.pos
 |.raise C as,c,s=>.Raise (some<|.Call (.Name (Str.ofString C) (kid (ke s 0) 0).pos) (toA as c (sub<|ke s 0).tail) [] (ke s 0).pos) none s.pos
 |.try t e hs,c,s=>.Try [Rl t e c<|(stB s).headD dS] (toH hs c<|stH s) [] [] s.pos
 |_,_,s=>s
noncomputable def toH:O.Hn->Md->List ExceptHandler->List ExceptHandler
 |.nil,_,_=>[]
 |.cons K nm b r,c,xs=>.ExceptHandler (some<|.Name (Str.ofString K) (hT<|xs.headD dH).pos) (nm.map c.nmOf) (toSs b c.hot<|hB<|xs.headD dH) (hP<|xs.headD dH)::toH r c xs.tail
noncomputable def toSs:O.Ss->Md->List Ļ->List Ļ
 |.nil,_,_=>[]
 |.cons m ms,c,xs=>toS m c (xs.headD dS)::toSs ms c xs.tail
end
noncomputable def FZ:O.E->Bool
 |.idx _ _=>true
 |.var _=>true
 |.fld _ _=>true
 |_=>false
noncomputable def Nl(c:Md)(j:Nat):Bool:=decide (j<c.N.length)&&c.loc (c.nmOf j)
noncomputable def okP(p:O.Pt)(c:Md):Bool:=match p with
 |.one j=>Nl c j
 |.many js=>js.all<|Nl c
 |.nest j js=>Nl c j&&js.all (Nl c)
noncomputable def Cm:O.E->Bool
 |.tup _=>true
 |.key _=>true
 |_=>false
noncomputable def N2:O.E->Bool
 |.comp _ _ _ _ _ _=>true
 |_=>false
noncomputable def swT(c:Md)(tg v:Expr):Bool:=match v,tg with
 |.ListComp _ _ s pos,.Name t p=>(if c.sc.kind.isAnnotationScope then ScopeKind.function else c.sc.kind) == .function&&c.sc.names.lookup t==some .local&&p.line==pos.line && !(s.names.any fun(n,k)=>n==t&&(k == .local||k == .cell))
 |_,_=>false
noncomputable def Ij:O.Bop->Bool
 |.add=>true
 |.sub=>true
 |_=>false
noncomputable def QZ(c:Md)(j:Nat):Bool:=decide (j<c.N.length)&&c.sc.names.lookup (c.nmOf j)==some .local
noncomputable def Ry(c:Md):Option Nat->Bool
 |none=>true
 |some j=>QZ c j
noncomputable def QL:O.Ss->Bool
 |.nil=>false
 |_=>true
noncomputable def PB:O.Hn->Bool
 |.nil=>true
 |_=>false
mutual
noncomputable def okS:O.S->Md->Ļ->Bool
 |.set p a,c,s=>okP p c&&okE a c (ke s 0)&&(Zz p || !Cm a)&&(Zz p||c.cm)
 |.setIdx a j e,c,s=>okE e c (ke s 0)&&okE a c (kid (ke s 1) 0)&&okE j c (kid (ke s 1) 1)
 |.setFld o f e,c,s=>c.fl.contains f&&okE o c (kid (ke s 1) 0)&&okE e c (ke s 0)
 |.augFld o f op _,c,s=>c.fl.contains f&&okE o c (kid (ke s 1) 0)&&Ij op
 |.expr e,c,s=>okE e c (ke s 0) && !N2 e
 |.ret e,c,s=>okE e c<|ke s 0
 |.retN,_,_=>true
 |.ite t a b,c,s=>okT t c (ke s 0)&&okSs a c (stB s)&&okSs b c (stO s)
 |.for p it b,c,s=>okP p c&&okI it c (ke s 1) (!Zz p)&&okSs b c (stB s)&&c.cm
 |.forI true p e b,c,s=>okP p c&&FZ e&&okE e c (ke s 1)&&okSs b c (stB s)&&c.cm
 |.forI false p e b,c,s=>okP p c && !Zz p&&okE e c (kid (kid (ke s 1) 0) 0)&&Yz (toX e c<|kid (kid (ke s 1) 0) 0)&&((kid (ke s 1) 0).pos.endLine==(ke s 1).pos.line)&&okSs b c (stB s)&&c.cm
 |.never,_,_=>true
 |_,_,_=>false
noncomputable def okH:O.Hn->Md->List ExceptHandler->Bool
 |.nil,_,_=>false
 |.cons K nm b r,c,xs=>(c.xs.contains K||K == "ShutError")&&c.gn K && !c.xs.isEmpty&&Ry c nm&&QL b&&okSs b c.hot (hB<|xs.headD dH)&&PB r
noncomputable def okSs:O.Ss->Md->List Ļ->Bool
 |.nil,_,_=>true
 |.cons m ms,c,xs=>okS m c (xs.headD dS)&&okSs ms c xs.tail
end
structure Gs(X:Cx)(i:Inf)(P:O.Pg)(n:Nat)(c:Md):Prop extends Gd X i P n c where
 fn:∀x,c.loc x=true->X.fn x=true\/X.env.scope.names.lookup x=some .local
 own:c.cm=true->ϲ (Û X.prog X.w) X.A X.env X.xe
 stk:c.cm=true->X.stack=X.env::X.outer
variable {X:Cx}{i:Inf}{P:O.Pg}{n:Nat}{c:Md}
theorem Gs.nm1(g:Gs X i P n c){j:Nat}(h:Nl c j=true):X.N[j]?=some (c.nmOf j)/\L2.Loc X.env.scope (c.nmOf j)/\(X.fn (c.nmOf j)=true\/X.env.scope.names.lookup (c.nmOf j)=some .local):=by unfold Nl at h;rw[bAq,decide_eq_true_eq]at h;exact⟨Ba g.N h.1,g.loc h.2,g.fn _ h.2⟩
variable {p:O.Pt}
theorem Pw(g:Gs X i P n c)(h:okP p c=true):Gi (DG X c) p:=by
 cases p with
 |one j=>exact g.nm1 h
 |many js=>exact fun j hj=>g.nm1<|ñ.mp h j hj
 |nest j js =>have h:(Nl c j&&js.all (Nl c))=true:=h;rw[bAq]at h;exact⟨g.nm1 h.1,fun k hk=>g.nm1<|ñ.mp h.2 k hk⟩
variable {x:Expr}
theorem Uo(g:Gs X i P n c)(cK:c.cm=true)(h:okP p c=true):PG X (toP p c x)<|gPt i p:=F1 g.K (by rw[g.N];exact g.nd) (g.calm cK) (Pw g h)
variable {tg:Expr}
theorem Wx{l:Nat}{env:Env}(a:O.E)(x:Expr)(hs:env.scope=c.sc):Ų (toX a c x) (some tg) l env=pure (swT c tg<|toX a c x):=by
 cases a with
 |comp ö m p it t e =>
  cases tg with
  |Name t q =>unfold Ų swT Env.blockKind Env.kindOf;rw[hs];rfl
  |_=>rfl
 |_=>rfl
theorem IW(p:O.Pt)(a:O.E)(x y:Expr)(env:Env)(h:(Zz p || !Cm a)=true):ώ [toP p c x] (toX a c y) env=pure none:=by
 cases p with
 |one j=>cases a<;>rfl
 |many js=>cases a<;>first|rfl|cases h
 |nest j js=>cases a<;>first|rfl|cases h
theorem Dq(p:O.Pt)(x:Expr)(env:Env):(ğ [toP p c x] env).map (·.2)=[ſ (toP p c x) env]:=by cases p<;>rfl
theorem HF{a:O.E}(h:swT c tg (toX a c x)=true):∃ö m p it t e,a=.comp ö m p it t e:=by
 cases a with
 |comp ö m p it t e=>exact⟨_,_,_,_,_,_,rfl⟩
 |_=>cases h
theorem EV(y:O.E){b:Expr}{pos:Pos}{env:Env}:∀v,ſ (.Subscript b (toX y c x) pos) env v=(do
    let ov<-Ŧ [v] (eval b env)
    let iv<-Ŧ [v,ov] (eval (toX y c x) env)
    Υ pos
    Ŧ [v,ov,iv] (setItem ov iv v)
    release [v,ov,iv] []):=by
 intro v;cases y<;>rfl
theorem PM{op:O.Bop}(h:Ij op=true):Dn X (AW op)<|rAS op:=by
 cases op with
 |add =>
  intro Á s σ H x y u v Q I rx ry q;obtain⟨a,b,rfl,rfl,q⟩:=q;rcases q with⟨_,q⟩|⟨z,_⟩
  .exact Lq Á s σ H _ _ u v Q I rx ry ⟨a,b,rfl,rfl,q⟩
  .cases z
 |sub =>
  intro Á s σ H x y u v Q I rx ry q;obtain⟨a,b,rfl,rfl,q⟩:=q;rcases q with⟨z,_⟩|⟨_,q⟩
  .cases z
  .exact II Á s σ H _ _ u v Q I rx ry ⟨a,b,rfl,rfl,q⟩
 |_=>cases h
theorem PGet.or{r r':R2}(h:PGet X r)(h':PGet X r'):PGet X fun x y H Q=>r x y H Q\/r' x y H Q:=fun Á s σ H o j ov jv Q I ro rj q=>by
 rcases q with q|q
 .exact h Á s σ H o j ov jv Q I ro rj q
 .exact h' Á s σ H o j ov jv Q I ro rj q
theorem Eo(t v:Expr)(p:Pos)(env:Env)(h:(∃a b q,t=.Subscript a b q)\/(∃a b q,t=.Attribute a b q)):ώ [t] v env=pure none:=by rcases h with⟨a,b,q,rfl⟩|⟨a,b,q,rfl⟩<;>rfl
variable {a:O.E} {x:Expr}
theorem DN{t:Option Expr}{l:Nat}{env:Env}(h:(!N2 a)=true):Ų (toX a c x) t l env=pure false:=by
 cases a with
 |comp ö m p it tt e=>cases h
 |_=>rfl
theorem BJ{tg:Expr}(h:∀y q,tg≠.Name y q):swT c tg (toX a c x)=false:=by
 cases a with
 |comp ö m p it tt e =>
  cases tg with
  |Name y q=>exact absurd rfl<|h y q
  |_=>rfl
 |_=>rfl
theorem Hh(g:Gs X i P n c){p:O.Pt}(hc:(Zz p||c.cm)=true)(h:okP p c=true):PG X (toP p c x)<|gPt i p:=by
 by_cases cK:c.cm=true
 .exact Uo g cK h
 .cases p with
  |one j =>obtain⟨h1,h2,h3⟩:=g.nm1 h;exact Om (by rw[g.N];exact g.nd) h1 h2 h3
  |many js=>exact absurd hc cK
  |nest j js=>exact absurd hc cK
theorem Gd.nox(g:Gd X i P n c):Gd X.nox i P n c :=
 ⟨g.K,g.N,g.sc,g.nd,g.un,g.calm,g.room,g.bl,g.dfs,g.cst,⟨g.kl.A,g.kl.F,g.kl.mkc,g.kl.mth⟩,fun h=>⟨(g.xl h).xc,(g.xl h).rs,(g.xl h).kn⟩⟩
theorem Gs.hot(g:Gs X i P n c)(a:È):Gs (X.caught a) i P n c.hot :=
 {K:=g.K,N:=g.N,sc:=g.sc,nd:=g.nd,un:=g.un,calm:=fun z=>(by cases z),room:=fun z=>(by cases z),bl:=g.bl,dfs:=g.dfs,cst:=g.cst,kl:=⟨g.kl.A,g.kl.F,g.kl.mkc,g.kl.mth⟩,xl:=fun h=>⟨(g.xl h).xc,(g.xl h).rs,(g.xl h).kn⟩,fn:=g.fn,own:=fun z=>(by cases z),stk:=fun z=>(by cases z)}
mutual
theorem sS:∀(m:O.S) (X:Cx) (c:Md) (s:Ļ),Gs X i P n c->okS m c s=true->PS X (toS m c s) (tSt X i (O.wF P n) m)
 |.set p a,X,c,s,g,h=>by
  have h:(okP p c&&okE a c (ke s 0)&&(Zz p || !Cm a)&&(Zz p||c.cm))=true:=h;rw[bAq,bAq,bAq]at h;obtain⟨⟨⟨h1,h2⟩,h3⟩,h4⟩:=h;by_cases hsw:swT c (toP p c<|ke s 1) (toX a c<|ke s 0)=true
  .obtain⟨ö,k,pt,it,tt,e,rfl⟩:=HF hsw;cases p with
   |one j =>obtain⟨q1,q2,q3⟩:=g.nm1 h1;exact(Ag g.toGd h2).2 _ _ _ j q1 q2 q3 (by rw[<-hsw];exact Wx (c:=c) (.comp ö k pt it tt e) (ke s 0) g.sc)
   |many js=>cases hsw
   |nest j js=>cases hsw
  .have hp:PG X (toP p c<|ke s 1)<|gPt i p:=Hh g h4 h1;exact Ly (eE a X c _ g.toGd h2) hp (by rw[ύ,Wx a _ g.sc,Bool.eq_false_iff.mpr hsw]) (IW p a _ _ _ h3)<|Dq p _ _
 |.setIdx a j e,X,c,s,g,h=>by have h:(okE e c (ke s 0)&&okE a c (kid (ke s 1) 0)&&okE j c (kid (ke s 1) 1))=true:=h;rw[bAq,bAq]at h;have ha:=eE a X c _ g.toGd h.1.2;have hj:=eE j X c _ g.toGd h.2;exact UT g.K (eE e X c _ g.toGd h.1.1) ha hj (Hy ha hj (PSet.or A7<|De (by have:=g.un;omega))<|EV j) (by rw[ύ,Wx e _ g.sc,BJ fun y q z=>(by cases z)]) (Eo _ _ (ke s 1).pos _<|.inl ⟨_,_,_,rfl⟩) rfl
 |.setPair a j b k e,X,c,s,g,h=>nomatch h
 |.setFld o f e,X,c,s,g,h=>by have h:(c.fl.contains f&&okE o c (kid (ke s 1) 0)&&okE e c (ke s 0))=true:=h;rw[bAq,bAq]at h;exact UR g.K g.kl.A (g.kl.F _ h.1.1) (eE o X c _ g.toGd h.1.2) (eE e X c _ g.toGd h.2) (by rw[Wx e _ g.sc,BJ fun y q z=>(by cases z)])
 |.augVar j op e,X,c,s,g,h=>nomatch h
 |.augFld o f op k,X,c,s,g,h=>by have h:(c.fl.contains f&&okE o c (kid (ke s 1) 0)&&Ij op)=true:=h;rw[bAq,bAq]at h;exact AU g.K g.kl.A (g.kl.F _ h.1.1) (PM h.2)<|eE o X c _ g.toGd h.1.2
 |.expr e,X,c,s,g,h=>by have h:(okE e c (ke s 0) && !N2 e)=true:=h;rw[bAq]at h;exact Fc (eE e X c _ g.toGd h.1)<|DN h.2
 |.ret e,X,c,s,g,h=>GJ<|eE e X c _ g.toGd h
 |.retN,X,c,s,g,h=>D4
 |.ite t a b,X,c,s,g,h=>by have h:(okT t c (ke s 0)&&okSs a c (stB s)&&okSs b c (stO s))=true:=h;rw[bAq,bAq]at h;exact Iv (eT t X c _ g.toGd h.1.1).1 (sSs a X c _ g h.1.2)<|sSs b X c _ g h.2
 |.whl t b,X,c,s,g,h=>nomatch h
 |.for p it b,X,c,s,g,h=>by have h:(okP p c&&okI it c (ke s 1) (!Zz p)&&okSs b c (stB s)&&c.cm)=true:=h;rw[bAq,bAq,bAq]at h;obtain⟨⟨⟨h1,h2⟩,h3⟩,h4⟩:=h;obtain⟨t1,t2⟩:=KY (c:=c) p<|ke s 0;obtain⟨a1,a2⟩:=eI it X c (ke s 1) (toP p c<|ke s 0) g.toGd (!Zz p) t1 t2 h2;exact HL (g.own h4) (g.calm h4) a1 (Uo g h4 h1) (sSs b X c _ g h3) a2
 |.forI true p e b,X,c,s,g,h=>by have h:(okP p c&&FZ e&&okE e c (ke s 1)&&okSs b c (stB s)&&c.cm)=true:=h;rw[bAq,bAq,bAq,bAq]at h;obtain⟨⟨⟨⟨h1,h2⟩,h3⟩,h6⟩,h7⟩:=h;refine E8 (g.own h7) (g.calm h7) (eE e X c _ g.toGd h3) (Uo g h7 h1) (sSs b X c _ g h6) fun _=>?_;cases e<;>first|rfl|cases h2
 |.forI false p e b,X,c,s,g,h=>by have h:(okP p c && !Zz p&&okE e c (kid (kid (ke s 1) 0) 0)&&Yz (toX e c<|kid (kid (ke s 1) 0) 0)&&((kid (ke s 1) 0).pos.endLine==(ke s 1).pos.line)&&okSs b c (stB s)&&c.cm)=true:=h;rw[bAq,bAq,bAq,bAq,bAq,bAq]at h;obtain⟨⟨⟨⟨⟨⟨h1,h2⟩,h3⟩,h4⟩,h5⟩,h6⟩,h7⟩:=h;obtain⟨es,k,q,et⟩:=(KY (c:=c) p<|ke s 0).1 h2;have hg:=Uo (x:=ke s 0) g h7 h1;show PS X (.For (toP p c<|ke s 0) _ _ _ _) _;rw[et]at hg ⊢;exact FK (g.own h7) (g.calm h7) (eE e X c _ g.toGd h3) hg (sSs b X c _ g h6) (Yo h4 _ _) h5 fun _=>rfl
 |.never,X,c,s,g,h=>C5
 |.brk,X,c,s,g,h=>nomatch h
 |.cnt,X,c,s,g,h=>nomatch h
 |.pass,X,c,s,g,h=>nomatch h
 |.raise C as,X,c,s,g,h=>nomatch h
 |.try t e (.cons K nm b .nil),X,c,s,g,h=>nomatch h
 |.try t e (.cons K nm b<|.cons _ _ _ _),X,c,s,g,h=>nomatch h
 |.try t e .nil,X,c,s,g,h=>nomatch h
 |.augIdx a j op k,X,c,s,g,h=>nomatch h
theorem sSs:∀(ms:O.Ss) (X:Cx) (c:Md) (xs:List Ļ),Gs X i P n c->okSs ms c xs=true->PSs X (toSs ms c xs) (tBl X i (O.wF P n) ms)
 |.nil,X,c,xs,g,h=>Ib
 |.cons m ms,X,c,xs,g,h=>by have h:(okS m c (xs.headD dS)&&okSs ms c xs.tail)=true:=h;rw[bAq]at h;exact EB (sS m X c _ g h.1)<|sSs ms X c _ g h.2
end
noncomputable def Of(N ps:List Str)(sc:Ž):Bool :=
 sc.kind == .function && !sc.isCoroutine && !sc.isGenerator&&decide N.Nodup&&(N.take ps.length==ps)&&ps.all (fun x=>sc.names.lookup x==some .local||sc.names.lookup x==some .cell)&&sc.names.all fun y=>y.2 != .free
variable {ps:List Str}
theorem Qn{N:List Str}{sc:Ž}(h:Of N ps sc=true):FnScope N ps sc:=by
 simp only[Of,bAq,ř,decide_eq_true_eq,ñ]at h;obtain⟨⟨⟨⟨⟨⟨h1,h2⟩,h3⟩,h4⟩,h5⟩,h6⟩,h7⟩:=h;refine⟨eq_of_beq h1,h2,h3,h4,eq_of_beq h5,fun x hx=>?_,fun y hy=>?_⟩
 .simpa using h6 x hx
 .simpa using h7 y hy
structure Ds where
 st:Ļ
 N:List Str
 ps:List Str
 d:O.Fn
structure Mt where
 C:String
 m:String
 qual:String
 x:Ds
structure Tb where
 fs:List<|String×Ds
 ms:List Mt
 cs:List<|String×O.Val
 cl:List String
 fl:List String
 xs:List String
noncomputable def Tb.md(T:Tb)(x:Ds):Md:={N:=x.N,sc:=Zi x.st,cs:=T.cs,fs:=T.fs.map (·.1),cm:=true,cl:=T.cl,ms:=T.ms.map fun y=>(y.C,y.m),fl:=T.fl,xs:=T.xs}
noncomputable def Ds.test(T:Tb)(x:Ds):Bool :=
 Of x.N x.ps (Zi x.st)&&okSs x.d.body (T.md x) (ZG x.st)&&x.ps.length==x.d.ar&&x.N.length==x.d.sz&&decide (x.d.ar<=x.d.sz)
structure Ds.Ok(T:Tb)(x:Ds):Prop where
 ok:x.test T=true
 eq:toSs x.d.body (T.md x) (ZG x.st)=ZG x.st
variable {pr:à}{wd:õ}{mg:Str->Option Ã}{base:ā}{i:Inf}{P:O.Pg}{T:Tb}
def Dst(K:Frag)(mg:Str->Option Ã)(f:String)(x:Ds):Prop:=∃fa fd qual,Fun K (Str.ofString f) qual x.st fa fd/\mg (Str.ofString f)=some (.ref fa)/\Binds K fd x.ps []
structure Mst(i:Inf)(mg:Str->Option Ã)(y:Mt)(a fa:È):Prop where
 cl:mg (Str.ofString y.C)=some (.ref a)
 fn:∃fd,Fun i.K (Str.ofString y.m) (Str.ofString y.qual) y.x.st fa fd/\Binds i.K fd y.x.ps []
 at_:Meth i.K a (Str.ofString y.m) fa
variable {f:String} {fa:È} {fd:Ņ}
theorem Uu:FnOk pr wd i.K mg base (CX1 pr wd) 0 fa fd ps<|spF i P 0 f:=by
 refine⟨fun vs H Q E h=>?_,fun A outer s H args us vs Q E hr he hb hv h=>?_⟩
 .obtain⟨_,_,_,_,_,_,w,_⟩:=h;rw[O.wF_eq]at w;exact w.elim
 .obtain⟨_,_,_,_,_,_,w,_⟩:=h;rw[O.wF_eq]at w;exact w.elim
variable {n:Nat}
theorem Di{vs:List O.Val}{h:O.Hs}{Q:O.Q1}{E:O.XQ}(q:O.wF P (n+1) f vs h Q E):∃d,P f=some d/\vs.length=d.ar/\O.wSs (O.wF P n) d.body (d.env vs) h (fun _ g=>Q .non g) Q (fun _ _=>False) (fun _ _=>False) fun _ c g=>E c g:=by rw[O.wF_eq]at q;obtain⟨d,e,q1,q2⟩:=go_some q;exact⟨d,e,q1,by rw[O.wF_eq];exact q2⟩
structure Modu(mg:Str->Option Ã)(base:ā)(i:Inf)(T:Tb):Prop where
 bl:∀x∈blts,mg x=none
 cst:∀x v,T.cs.lookup x=some v->∃u y,mg (Str.ofString x)=some u/\RelV y u/\∀H,RV i.K H v y
 A:ClsA i
 F:∀f,T.fl.contains f=true->FldOk i f
 cl:∀C a,i.cl C a->mg (Str.ofString C)=some (.ref a)
 mkc:∀C,T.cl.contains C=true->∃a y f,i.ins C=true/\i.cl C a/\Mk i.K a f/\y∈T.ms/\y.C=C/\y.m = "__init__"/\Mst i mg y a f
 fs:∀f x,(f,x)∈T.fs->Dst i.K mg f x
 ms:∀y,y∈T.ms->∃a f,Mst i mg y a f/\Cls i.K a
 xc:T.xs≠[]->∀C a,i.xc C a->XCls i.K a/\PySem.W.kitOne i.K (.ref a) (.type "ValueError")=some true
 rs:T.xs≠[]->∀C,T.xs.contains C=true->∃a,i.xc C a/\PyProof.Rows.OwnCls (Str.ofString C) a [.type "ValueError",.type "Exception",.type "BaseException",.type "object"] "ValueError.__new__" mg base
 kn:T.xs≠[]->∀T',(T.xs.contains T'||T' == "ShutError")=true->∃D,mg (Str.ofString T')=some (.ref D)/\∀C a,i.xc C a->PySem.W.kitOne i.K (.ref a) (.ref D)=some (O.excSub C T')/\(O.excSub C T'=true->PySem.W.exmOne i.K (.ref a) (.ref D)=some true)
structure Held(pr:à)(wd:õ)(mg:Str->Option Ã)(base:ā)(i:Inf)(P:O.Pg)(T:Tb)(n:Nat):Prop where
 fs:∀f x,(f,x)∈T.fs->Dfo pr wd mg base i P n f
 ms:∀y a f,y∈T.ms->Mst i mg y a f->Dfm pr wd mg base i P n (y.C ++ "." ++ y.m) f
theorem fn_succ{x:Ds}{nm qual:Str}(M:Modu mg base i T)(hn:Held pr wd mg base i P T n)(F:Fun i.K nm qual x.st fa fd)(hP:P f=some x.d)(ht:x.Ok T):FnOk pr wd i.K mg base (CX1 pr wd) (2*(n+1)) fa fd x.ps<|spF i P (n+1) f:=by
 obtain⟨ht,heq⟩:=ht;simp only[Ds.test,bAq,decide_eq_true_eq]at ht;obtain⟨⟨⟨⟨h1,h2⟩,h3⟩,h4⟩,h5⟩:=ht;have h3:=eq_of_beq h3;have h4:=eq_of_beq h4;have S:=Qn h1;refine F.ok1 (k:=2*n+1) S (fun vs H Q E h=>?_) fun ό A outer s H vs Q E hr dv hw=>?_
 .obtain⟨args,G,Qm,Em,r,g,w,_⟩:=h;obtain⟨d,e,q,_⟩:=Di w;rw[hP]at e;cases e;rw[<-r.length,q,h3]
 .obtain⟨args,G,Qm,Em,r,g,w,cn,ex⟩:=dv;obtain⟨d,e,q,w⟩:=Di w;rw[hP]at e;cases e;have gd:Gs (JU (CX1 pr wd) pr wd i.K mg base x.N qual (Zi x.st) fa ό A outer s H E) i P n (T.md x) :=
   { K:=rfl,N:=rfl,sc:=rfl,nd:=S.nd,un:=(by have:=hr.un;show(A.deeper _).units+200<Ğ;omega),calm:=fun _=>rfl,room:=fun _=>hr,bl:=M.bl
     dfs:=fun g hg=>(by
       obtain⟨p,hy,e⟩:=Ò.mp<|ą.mp hg
       subst e
       exact hn.fs p.1 p.2 hy)
     cst:=M.cst
     kl:=⟨M.A,M.F,fun C hC=>(by
       obtain⟨a,y,f,q1,q2,q3,q4,rfl,q6,q7⟩:=M.mkc C hC
       refine⟨a,f,q1,q2,q3,M.cl _ _ q2,?_⟩
       have:=hn.ms y a f q4 q7
       rw[q6]at this
       rwa [show y.C ++ ".__init__" = y.C ++ "." ++ "__init__" by rw[String.append_assoc];rfl]),fun C m hC=>(by
       obtain⟨y,hy,e⟩:=Ò.mp<|ą.mp hC
       cases e
       obtain⟨a,f,q1,q2⟩:=M.ms y hy
       refine⟨a,f,fun b hb=>?_,q2,q1.at_,hn.ms y a f hy q1⟩
       have e1:=M.cl _ _ hb
       rw[q1.cl]at e1
       cases e1
       rfl)⟩
     xl:=fun h=>⟨M.xc h,M.rs h,M.kn h⟩
     fn:=fun _ _=>.inl rfl
     own:=fun _=>PassesOwn.leaving
     stk:=fun _=>rfl }
  have hb:=sSs x.d.body _ _ _ gd h2;rw[heq]at hb;refine⟨_,hb,?_⟩;refine⟨x.d.env args,G,(fun _ g=>Qm .non g),Qm,(fun _ _=>False),(fun _ _=>False),(fun _ c g=>Em c g),?_,w,?_⟩
  .refine⟨?_,g,?_⟩
   .have:=REn.start (n:=x.d.sz - x.d.ar) r;unfold L2.start;have e1:x.N.length - vs.length=x.d.sz - x.d.ar:=by rw[h4,<-r.length,q]
    rw[e1];exact this
   .intro Á σ H0 s0 H' a cls s' I fl hx;obtain⟨e,c,G',ad,q1,q2,q3,q4,q5⟩:=hx;exact hw Á σ H0 s0 H' a cls s' I fl<|ex _ _ _ ⟨c,G',ad,q1,q2,q3,q4,q5⟩
  .refine⟨?_,?_,?_,?_⟩
   .intro ŝ Ś G' H' k g' e w';exact cn .non G' H' .non k g' .non w'
   .intro v G' H' y k g' rv w';exact cn v G' H' y k g' rv w'
   .intro _ _ _ _ _ _ _ z;exact z.elim
   .intro _ _ _ _ _ _ _ z;exact z.elim
theorem held_all(M:Modu mg base i T)(hP:∀f x,(f,x)∈T.fs->P f=some x.d)(hPm:∀y,y∈T.ms->P (y.C ++ "." ++ y.m)=some y.x.d)(ht:∀f x,(f,x)∈T.fs->x.Ok T)(htm:∀y,y∈T.ms->y.x.Ok T):∀n,Held pr wd mg base i P T n:=by
 intro n;induction n with
 |zero =>
  refine⟨fun f x h=>?_,fun y a f hy S=>?_⟩
  .obtain⟨fa,fd,qual,F,hm,hb⟩:=M.fs f x h;exact⟨fa,fd,x.ps,Uu,hm,F.kp,hb⟩
  .obtain⟨fd,F,hb⟩:=S.fn;exact⟨fd,y.x.ps,Uu,hb⟩
 |succ n ih =>
  refine⟨fun f x h=>?_,fun y a f hy S=>?_⟩
  .obtain⟨fa,fd,qual,F,hm,hb⟩:=M.fs f x h;exact⟨fa,fd,x.ps,fn_succ M ih F (hP f x h)<|ht f x h,hm,F.kp,hb⟩
  .obtain⟨fd,F,hb⟩:=S.fn;exact⟨fd,y.x.ps,fn_succ M ih F (hPm y hy)<|htm y hy,hb⟩
end Snd
namespace Hd
open PySem PySem.W PyProof.Rows
noncomputable def WP(st:SharedT->Thread->Option (SharedT×Thread))(ok th:Thread->Bool):Nat->SharedT->Thread->Option SharedT
 |0,_,_=>none
 |n+1,s,t=>match th t with
  |true=>some s
  |false=>match ok t with
   |false=>none
   |true=>match st s t with
    |some (s',t')=>WP st ok th n s' t'
    |none=>none
theorem WQ{tb:String->Option Builtin}{p:Program}{w:World}{n₀:Nat}{ann:Option Value}:∀{n:Nat}{s s':SharedT}{t:Thread},WP (stepT (denote tb) p w) (stepOk n₀ ann) through n s t=some s'->topRun tb p w n₀ ann n s.abs t=some s'.abs
 |0,_,_,_,h=>by cases h
 |n+1,s,s',t,h=>by
  unfold WP at h;unfold topRun;cases ht:through t with
  |true=>rw[ht]at h;cases h;rfl
  |false =>
   rw[ht]at h;dsimp only at h ⊢;cases hk:stepOk n₀ ann t with
   |false=>rw[hk]at h;cases h
   |true =>
    rw[hk]at h;dsimp only at h ⊢;cases hs:stepT (denote tb) p w s t with
    |none=>rw[hs]at h;cases h
    |some r =>obtain⟨s2,t2⟩:=r;rw[hs]at h;rw[stepT_spec hs];exact WQ h
noncomputable def W0(P:Params):BT :=
 .node (boot_o_0 P) (.node (boot_o_1 P) (.node (boot_o_3 P) (.node (boot_o_7 P) .nil .nil) .nil)<|.node (boot_o_5 P) (.node (boot_o_9 P) .nil .nil) .nil)
  (.node (boot_o_2 P) (.node (boot_o_4 P) (.node (boot_o_8 P) .nil .nil) .nil)<|.node (boot_o_6 P) (.node (boot_o_10 P) .nil .nil) .nil)
theorem Dp(P:Params):absHeap (W0 P) 11 {}=boot_heap P:=by kernel_rfl
theorem AD(P:Params):((boot_heap P).isNs mainGlobals&&(Array.mk []:Array GenState).size==0,(boot_heap P).objs.size,(boot_heap P).nsMap mainGlobals "__annotations__")=(true,11,some<|.ref 6):=by
 rw[show @Heap.nsMap=_ from Fast.te8920871248978507458]
 kernel_rfl
noncomputable def Gk:=Fast.tw10156331382660048174
noncomputable def UF:=Fast.tw11892475500146522536
noncomputable def CB:=Fast.tw14364793385576792824
noncomputable def okY:=Fast.tw6613529449190102663
noncomputable def Gw:=Fast.tw4187177175401517315
noncomputable def DF:=Fast.tw5923862056798008813
variable {α:Type}
noncomputable def UG(p q:Program)(loose:List Str)(Xt:Shared->Bool)(Yf:Shared->α)(h0:Heap)(s:SharedT) :=
 ((staticsOk (DF p.main.body) h0 s.abs.heap&&namesBound p s.abs.heap&&gensDone s.abs&&laidKept h0 s.abs.heap),Gw q loose (DF p.main.body) Xt true s.abs,Yf s.abs)
theorem left_of{p q:Program}{loose:List Str}{Xt:Shared->Bool}{Yf:Shared->α}{Ya:World->α}{N:Nat}(e:opening p=plainProg p.main.scope.names)(hN:Nat.ble 600 N=true)(f:∀s,fenceModules? p s=some s)
  (one:∀(w:World) (os:OsState),(WP (Gk (UF CB) p w) (okY 11<|some<|.ref 6) through N ⟨W0 w.params,11,{},Array.mk [],boot_drawn,boot_toks,os⟩<|topStub p).map (UG p q loose Xt Yf<|boot_heap w.params)=some (true,openGood q loose,Ya w)) :
  LeftO p q loose Xt Yf Ya N:=by
 intro w;obtain⟨⟨h,gs,d,k,os⟩,e1,e2⟩:=Ú.mp<|boot_open e hN f w;obtain⟨rfl,rfl,rfl,rfl⟩:h=boot_heap w.params/\gs=Array.mk []/\d=boot_drawn/\k=boot_toks:=by simpa using e2
 obtain⟨s,r,z⟩:=Ú.mp<|one w os;obtain⟨z1,z2,z3⟩:_/\_/\_:=by simpa only[Ŵ]using AD w.params
 obtain⟨l1,l2,l3⟩:_/\_/\_:=by simpa only[UG,Ŵ]using z
 unfold Gk UF CB okY at r;rw[<-Fast.te10156331382660048174,<-Fast.te11892475500146522536,<-Fast.te14364793385576792824,<-Fast.te6613529449190102663]at r;unfold DF at l1 l2;unfold Gw at l2;rw[<-Fast.te5923862056798008813]at l1 l2;rw[<-Fast.te4187177175401517315]at l2;have r2:=WQ r;have ea:(SharedT.mk (W0 w.params) 11 {} (Array.mk []) boot_drawn boot_toks os).abs=⟨boot_heap w.params,Array.mk [],boot_drawn,boot_toks,os⟩:=by show Shared.mk (absHeap _ _ _) _ _ _ _=_;rw[Dp]
 rw[ea]at r2;have t:topFrom treeTable p w N ⟨boot_heap w.params,Array.mk [],boot_drawn,boot_toks,os⟩=some s.abs:=by unfold topFrom;dsimp only;rw[z1,z2,z3,r2];show(match staticsOk (importedModules p.main.body) (boot_heap w.params) s.abs.heap&&namesBound p s.abs.heap&&gensDone s.abs&&laidKept (boot_heap w.params) s.abs.heap with|true=>_|false=>_)=_;rw[l1]
 unfold openEnds;rw[e1];show(topFrom treeTable p w N _).map _=_;rw[t];exact congrArg some<|Prod.ext l2 l3
end Hd
namespace Hd
open PySem PySem.W PyProof.Rows L2
noncomputable def Kd:Nat->List Obj->Frag
 |_,[]=>[]
 |i,o::r=>match o with
  |⟨_,_,.freed,_⟩=>Kd (i+1) r
  |o=>(i,o)::Kd (i+1) r
noncomputable def Zx(g:Heap):Frag:=Kd 0 g.objs.toList
theorem Ng:∀(l:List Obj) (i a:Nat) (o:Obj),(Kd i l).lookup a=some o->i<=a/\l[a - i]?=some o/\(match some o with|some ⟨_,_,.freed,_⟩=>none|o=>o)=some o
 |[],_,_,_,h=>by cases h
 |x::r,i,a,o,h=>by
  have rec1:(Kd (i+1) r).lookup a=some o->i<=a/\(x::r)[a - i]?=some o/\(match some o with|some ⟨_,_,.freed,_⟩=>none|o=>o)=some o:=fun q=>by obtain⟨h1,h2,h3⟩:=Ng r (i+1) a o q;refine⟨by omega,?_,h3⟩;rw[show a - i=(a - (i+1))+1 by omega,bz];exact h2
  unfold Kd at h;split at h
  .exact rec1 h
  .rename_i c ρ;rw[ä]at h;split at h
   .rename_i e;cases h;have e:=eq_of_beq e;subst e;refine⟨Î _,by rw[Nat.sub_self];rfl,?_⟩;split
    .rename_i d1 d2 d3 d4;cases d4;exact(ρ _ _ _ rfl).elim
    .rfl
   .exact rec1 h
theorem Os{g:Heap}{a:Addr}{o:Obj}(h:(Zx g).lookup a=some o):g.get? a=some o:=by obtain⟨_,h2,h3⟩:=Ng _ _ _ _ h;unfold Heap.get?;rw[Nat.sub_zero,Ą]at h2;rw[h2];exact h3
noncomputable def Dv(K:Frag)(nm:Str):Option<|FuncData×Bool×Bool:=match nsIn K mainGlobals nm with
 |some (some<|.ref f)=>match K.lookup f with
  |some ⟨_,_,.func fd,_⟩=>some ({fd with kwdefaults:=.none,doc:=.none,pyModule:=.none,annotations:=none,code:=.none,closureTuple:=.none},codeIn K fd.code fd.qualname,keepIn K<|.ref f)
  |_=>none
 |_=>none
noncomputable def Cd(nm:Str)(st:Stmt):Option<|FuncData×Bool×Bool:=some (fnOf nm nm (Yv st) (ZG st) (Zi st) .none .none .none .none none .none .none,true,true)
theorem Hx{K:Frag}{nm:Str}{st:Stmt}(e:Dv K nm=Cd nm st):∃fa fd,Fun K nm nm st fa fd/\nsIn K mainGlobals nm=some (some<|.ref fa):=by
 unfold Dv at e;split at e
 .rename_i f hf;split at e
  .rename_i oc od fd sl hl;simp only[Cd,Ĭ,Ŵ]at e;obtain⟨e1,e2,e3⟩:=e;obtain⟨n1,n2,n3,n4,n5,n6,n7,n8,n9,n10,n11,n12,n13,n14,n15⟩:=fd;simp only[fnOf,FuncData.mk.injEq]at e1;obtain⟨rfl,rfl,rfl,rfl,rfl,rfl,rfl,rfl,-,-,-,-,-,-,rfl⟩:=e1;exact⟨f,_,Do hl e2 e3,hf⟩
  .cases e
 .cases e
noncomputable def F8(K:Frag)(y:Str):Bool:=match nsIn K mainGlobals y with
 |some none=>true
 |_=>false
theorem EX{l:OpenLaw}{n k:Nat}{q:Program}{loose:List Str}{XP:(Str->Option Value)->Heap->Prop}{YP:World->Heap->Prop}{d:DefRec}{CX:World->CXT}{x:Str}
  (hn:l.most=some n) (hn2:n<=sizeLine) (hdf:d.params.defaults=[]) (hr:Room k callerA)
  (F:∀(w:World) (mg:Str->Option Value) (fa:Addr) (h:Heap),YP w h->h.Ns mainGlobals mg->mg d.name=some (.ref fa)->∃(K:Frag) (sp:Sp),K.In h/\
    (∃fd:FuncData,(∀(s:Shared) (u:Value),BindsTo s fd ⟨[u],[]⟩ [(x,u)])/\∀base:Heap,K.In base->base.Ns mainGlobals mg->FnOk l.prog w K mg base (CX w) k fa fd [x] sp)/\
    ∀(H:Hp) (a:Addr) (ns:List Int),ns.length<=n->Iy H->SqL K H a (ns.map V.int)->sp [.ref a] H (fun v _=>v=.bl true) fun _ _ _=>False)
  (hCX:∀(w:World) (H:Hp) (s:Shared) (e:Value) (s':Shared),CX w [] H s (fun _ _ _=>False) e s'->False) :
  WalkO q loose XP YP l.row.toRowW d [] (fun f vs=>PySem.call f vs):=by
 refine Att.attach_call hn hdf fun w s₀ ġ mg mb fa o pm cd doc a vs ns G Y ho hd aE hmg cZ hints hlen hg=>?_;obtain⟨K,sp,KX,⟨fd,hb,hF⟩,dv⟩:=F w mg fa _ Y G.T.g hmg;exact Dt KX G.T.g G.T.b G.T.builtins G.T.nolimit hg cZ hints (Ó hlen hn2) hr hF hb (fun H hO hS=>dv H a ns hlen hO hS) fun H e s'=>hCX w H ġ e s'
noncomputable def Eg(f:Value->O.Val->Bool):List Value->List O.Val->Bool
 |[],[]=>true
 |u::us,x::xs=>f u x&&Eg f us xs
 |_,_=>false
noncomputable def Gq(K:Frag):Value->Option (List Value)
 |.ref a=>match K.lookup a with
  |some ⟨.type n,_,.seq us _,_⟩=>if n == "tuple" && decide (us.size<=sizeLine)then some us.toList else none
  |_=>none
 |_=>none
noncomputable def FT(K:Frag):Nat->Value->O.Val->Bool
 |0,_,_=>false
 |n+1,u,v=>match v with
  |.non=>(match u with|.none=>true|_=>false)
  |.bl b=>(match u with|.bool a=>a==b|_=>false)
  |.int j=>(match u with|.int i _=>i==j|_=>false)
  |.str t=>(match u with|.str s _=>Fast.sEq s (Str.ofString t)|_=>false)
  |.tup xs=>(match Gq K u with|some us=>Eg (FT K n) us xs|none=>false)
  |_=>false
theorem AX{K:Frag}{f:Value->O.Val->Bool}(hf:∀u v,f u v=true->∃z,RelV z u/\∀H,Snd.RV K H v z):∀(us:List Value) (xs:List O.Val),Eg f us xs=true->∃zs,Vals zs us/\∀H,Snd.RVs K H xs zs
 |[],[],_=>⟨[],.nil,fun _=>.nil⟩
 |u::us,x::xs,h=>by rw[Eg,bAq]at h;obtain⟨z,r,q⟩:=hf u x h.1;obtain⟨zs,rs,qs⟩:=AX hf us xs h.2;exact⟨z::zs,.cons r rs,fun H=>.cons (q H)<|qs H⟩
 |[],_::_,h=>by cases h
 |_::_,[],h=>by cases h
theorem Bf{K:Frag}:∀(n:Nat) (u:Value) (v:O.Val),FT K n u v=true->∃z,RelV z u/\∀H,Snd.RV K H v z
 |0,_,_,h=>by cases h
 |n+1,u,v,h=>by
  unfold FT at h;cases v with
  |non =>
   dsimp only at h;split at h
   .exact⟨.non,rfl,fun _=>.non⟩
   .cases h
  |bl b =>
   dsimp only at h;split at h
   .cases eq_of_beq h;exact⟨.bl b,rfl,fun _=>.bl b⟩
   .cases h
  |int j =>
   dsimp only at h;split at h
   .cases eq_of_beq h;exact⟨.int j,⟨_,rfl⟩,fun _=>.int j⟩
   .cases h
  |str t =>
   dsimp only at h;split at h
   .cases Fast.sEq_iff.mp h;exact⟨.str<|Str.ofString t,⟨_,rfl⟩,fun _=>.str t⟩
   .cases h
  |tup xs =>
   dsimp only at h;split at h
   .rename_i us hu;obtain⟨zs,rs,qs⟩:=AX (fun u v=>Bf n u v) us xs h;unfold Gq at hu;split at hu
    .rename_i a;split at hu
     .rename_i nm od î k sl hl;split at hu
      .rename_i hc;rw[bAq,decide_eq_true_eq]at hc;cases eq_of_beq hc.1;cases hu;exact⟨.ref a,rfl,fun H=>.tup (.inr ⟨_,î,k,hl,rfl,rfl,hc.2,rs⟩)<|qs H⟩
      .cases hu
     .cases hu
    .cases hu
   .cases h
  |ref a=>cases h
  |scr ns=>cases h
  |key i j=>cases h
noncomputable def Dh(K:Frag)(p:String×O.Val):Bool:=match nsIn K mainGlobals (Str.ofString p.1)with
 |some (some u)=>FT K 4 u p.2
 |_=>false
theorem W5{α β:Type}[BEq α][LawfulBEq α]{a:α}{b:β}:∀{l:List (α×β)},l.lookup a=some b->(a,b)∈l
 |[],h=>by cases h
 |(x,y)::r,h=>by
  rw[ä]at h;split at h
  .rename_i e;cases h;cases eq_of_beq e;exact .head _
  .exact .tail _<|W5 h
theorem Lc{K:Frag}{mg:Str->Option Value}{h:Heap}{x:Str}{C:Addr}{bmB:List Value}{id:String}(X:K.In h)(hm:mg x=some (.ref C))(q:excIn K C bmB id=true):PyProof.Rows.OwnCls x C bmB id mg h:=by
 constructor
 .exact hm
 have z:=q;unfold excIn at z;split at z
 next dd cd sl ho =>
  split at z
  next C1 bm k0 k1 k2 k3 n k5 em es =>
   rw[bAq,bAq,bAq,bAq,bAq]at z;obtain⟨⟨⟨⟨⟨z1,z2⟩,z3⟩,z4⟩,z5⟩,z6⟩:=z;have z1:=eq_of_beq z1;have z2:=eq_of_beq z2;have z6:=eq_of_beq z6;subst z1 z2;have z3b:cd.hasDel=false:=by
    cases e:cd.hasDel with
    |false=>rfl
    |true=>rw[e]at z3;cases z3
   have es':sl=#[k0,k1,k2,k3,some<|.builtin n,k5]:=dN.mp es;have nN:=nsMap_none_of_in X z5 z6;have nI:=Heap.Ns.of_isNs<|isNs_of_in X z5;have tI:=tail_of_in X z4;cases cd;dsimp only at em z3b nN nI;subst em z3b es';exact⟨bm,_,_,_,_,_,_,_,_,_,dd,k0,k1,k2,k3,k5,_,X _ _ ho,nI,nN,tI⟩
  next=>cases z
 next=>cases z
noncomputable def GD(K:Frag)(f:Addr):Option<|FuncData×Bool×Bool:=match K.lookup f with
 |some ⟨_,_,.func fd,_⟩=>some ({fd with kwdefaults:=.none,doc:=.none,pyModule:=.none,annotations:=none,code:=.none,closureTuple:=.none},codeIn K fd.code fd.qualname,keepIn K<|.ref f)
 |_=>none
noncomputable def N0(nm qual:Str)(st:Stmt):Option<|FuncData×Bool×Bool:=some (fnOf nm qual (Yv st) (ZG st) (Zi st) .none .none .none .none none .none .none,true,true)
theorem Lp{K:Frag}{nm qual:Str}{st:Stmt}{f:Addr}(e:GD K f=N0 nm qual st):∃fd,Fun K nm qual st f fd:=by
 unfold GD at e;split at e
 .rename_i oc od fd sl hl;simp only[N0,Ĭ,Ŵ]at e;obtain⟨e1,e2,e3⟩:=e;obtain⟨n1,n2,n3,n4,n5,n6,n7,n8,n9,n10,n11,n12,n13,n14,n15⟩:=fd;simp only[fnOf,FuncData.mk.injEq]at e1;obtain⟨rfl,rfl,rfl,rfl,rfl,rfl,rfl,rfl,-,-,-,-,-,-,rfl⟩:=e1;exact⟨_,Do hl e2 e3⟩
 .cases e
noncomputable def WW(K:Frag)(C:String):Option Addr:=match nsIn K mainGlobals (Str.ofString C)with
 |some (some<|.ref a)=>some a
 |_=>none
variable {C:String} {a:Addr}
theorem WK{K:Frag}(h:WW K C=some a):nsIn K mainGlobals (Str.ofString C)=some (some<|.ref a):=by
 unfold WW at h;split at h
 .cases h;assumption
 .cases h
structure CV where
 pg:Bool
 hd:Bool
 po:Bool
 sa:Option<|Option Value
noncomputable def D5(K:Frag)(a:Addr):CV:=⟨plainGet K a Str.empty,hasDictIn K a,plainOver K a,findIn K (.ref a) "__setattr__"⟩
noncomputable def OP:CV:=⟨true,true,true,some<|some<|.builtin "object.__setattr__"⟩
theorem Bx{K:Frag}(h:D5 K a=OP):Cls K a:=by simp only[D5,OP,CV.mk.injEq]at h;exact⟨h.1,h.2.1,h.2.2.1,h.2.2.2⟩
structure MV where
 fn:Option<|FuncData×Bool×Bool
 isf:Bool
 cv:CV
noncomputable def Bh(K:Frag)(y:Snd.Mt):Option MV:=match WW K y.C with
 |some a=>match findIn K (.ref a) (Str.ofString y.m)with
  |some (some<|.ref f)=>some ⟨GD K f,isFn K<|.ref f,D5 K a⟩
  |_=>none
 |none=>none
noncomputable def B2(y:Snd.Mt):Option MV:=some ⟨N0 (Str.ofString y.m) (Str.ofString y.qual) y.x.st,true,OP⟩
theorem PL{K:Frag}{y:Snd.Mt}(e:Bh K y=B2 y):∃a f fd,nsIn K mainGlobals (Str.ofString y.C)=some (some<|.ref a)/\Fun K (Str.ofString y.m) (Str.ofString y.qual) y.x.st f fd/\Meth K a (Str.ofString y.m) f/\Cls K a:=by
 unfold Bh at e;split at e
 .rename_i a ha;split at e
  .rename_i f hf;simp only[B2,Ĭ,MV.mk.injEq]at e;obtain⟨e1,e2,e3⟩:=e;obtain⟨fd,F⟩:=Lp e1;exact⟨a,f,fd,WK ha,F,⟨hf,e2,F.kp⟩,Bx e3⟩
  .cases e
 .cases e
structure QV where
 mks:Bool
 kp:Bool
 cv:CV
 fl:List<|Option<|Option Value
 ic:Option (Option Value)×Option (Option Value)×Option Bool×Option Bool
noncomputable def B3(K:Frag)(fl:List String)(C:String):Option QV:=match WW K C with
 |some a=>some ⟨makesIn K a,keepIn K<|.ref a,D5 K a,fl.map fun f=>findIn K (.ref a)<|Str.ofString f,(findIn K (.ref a) "__class__",specialIn K (.builtin "object.__class__") "__get__",takesIn K<|.builtin "object.__class__",mroIn K a<|.type "object")⟩
 |none=>none
noncomputable def BY(fl:List String):Option QV:=some ⟨true,true,OP,fl.map fun _=>some none,(some<|some<|.builtin "object.__class__",some<|some<|.builtin "getset_descriptor.__get__",some true,some true)⟩
theorem Gn{K:Frag}{fl:List String}(e:B3 K fl C=BY fl):∃a,nsIn K mainGlobals (Str.ofString C)=some (some<|.ref a)/\makesIn K a=true/\keepIn K (.ref a)=true/\Cls K a/\(∀f∈fl,NoAttr K a<|Str.ofString f)/\Snd.IC K a:=by
 unfold B3 at e;split at e
 .rename_i a ha;simp only[BY,Ĭ,QV.mk.injEq,Ŵ]at e;obtain⟨e1,e2,e3,e4,e5,e6,e7,e8⟩:=e;exact⟨a,WK ha,e1,e2,Bx e3,fun f hf=>Ĥ.mp e4 f hf,⟨e5,e6,e7,e8⟩⟩
 .cases e
structure XV where
 ex:Bool
 f1:Option<|Option Value
 f2:Option<|Option Value
 f3:Option<|Option Value
 m1:Option Bool
 m2:Option Bool
 ci:Bool
 ve:Option Bool
 ks:List<|Option<|Option Bool×Option Bool
noncomputable def BB(K:Frag)(xs:List String)(C:String):Option XV:=match WW K C with
 |some a=>some ⟨excIn K a [.type "ValueError",.type "Exception",.type "BaseException",.type "object"] "ValueError.__new__",findIn K (.ref a) "__getattribute__",findIn K (.ref a) "__getattr__",findIn K (.ref a) "__class__",mroIn K a<|.type "object",mroIn K a<|.type "BaseException",(clsIn K a).isSome,kitOne K (.ref a)<|.type "ValueError",("ShutError" :: xs).map fun T=>(WW K T).map fun D=>(kitOne K (.ref a)<|.ref D,exmOne K (.ref a)<|.ref D)⟩
 |none=>none
noncomputable def BP(xs:List String)(C:String):Option XV:=some ⟨true,some<|some<|.builtin "BaseException.__getattribute__",some none,some<|some<|.builtin "object.__class__",some true,some true,true,some true,("ShutError" :: xs).map fun T=>some (some<|O.excSub C T,some<|O.excSub C T)⟩
theorem Ce{K:Frag}{xs:List String}(e:BB K xs C=BP xs C):∃a,nsIn K mainGlobals (Str.ofString C)=some (some<|.ref a)/\excIn K a [.type "ValueError",.type "Exception",.type "BaseException",.type "object"] "ValueError.__new__" = true/\XCls K a/\kitOne K (.ref a) (.type "ValueError")=some true/\
  ∀T∈"ShutError" :: xs,∃D,nsIn K mainGlobals (Str.ofString T)=some (some<|.ref D)/\kitOne K (.ref a) (.ref D)=some (O.excSub C T)/\exmOne K (.ref a) (.ref D)=some (O.excSub C T):=by
 unfold BB at e;split at e
 .rename_i a ha;simp only[BP,Ĭ,XV.mk.injEq]at e;obtain⟨e1,e2,e3,e4,e5,e6,e7,e8,e9⟩:=e;refine⟨a,WK ha,e1,⟨e2,e3,e4,e5,e6,e7⟩,e8,fun T hT=>?_⟩;have:=Ĥ.mp e9 T hT;cases z:WW K T with
  |none=>rw[z]at this;cases this
  |some D =>rw[z]at this;simp only[Ľ,Ĭ,Ŵ]at this;exact⟨D,WK z,this.1,this.2⟩
 .cases e
structure View where
 fs:List<|Option<|FuncData×Bool×Bool
 ms:List<|Option MV
 cl:List<|Option QV
 xs:List<|Option XV
 ok:Bool
noncomputable def view(T:Snd.Tb)(K:Frag):View:=⟨T.fs.map fun p=>Dv K<|Str.ofString p.1,T.ms.map<|Bh K,T.cl.map<|B3 K T.fl,T.xs.map<|BB K T.xs,T.cs.all (Dh K)&&Snd.blts.all (F8 K)⟩
noncomputable def due(T:Snd.Tb):View:=⟨T.fs.map fun p=>Cd (Str.ofString p.1) p.2.st,T.ms.map B2,T.cl.map fun _=>BY T.fl,T.xs.map<|BP T.xs,true⟩
noncomputable def hook(T:Snd.Tb):Hook where
 α:=View
 obs:=fun s=>view T<|Zx s.heap
 val:=fun _=>due T
 says:=fun _ h=>∃g:Heap,view T (Zx g)=due T/\∀b o,g.get? b=some o->h.get? b=some o
 of:=fun _ s e=>⟨s.heap,e,fun _ _ x=>x⟩
 keeps:=fun _ _ _ ⟨g,e,k⟩ k2=>⟨g,e,fun b o x=>k2 b o<|k b o x⟩
def Bd(nm qual:Str)(x:Snd.Ds):Prop:=∀(kV doc pm:Value) (an:Option Addr) (ό ct:Value) (us:List Value),us.length=x.ps.length->bindArgs (fnOf nm qual (Yv x.st) (ZG x.st) (Zi x.st) .none kV doc pm an ό ct) ⟨us,[]⟩=pure (x.ps.zip us)
noncomputable def D1(T:Snd.Tb):Bool:=T.cl.all fun C=>T.ms.any fun y=>y.C==C&&y.m == "__init__"
theorem law_walk{l:OpenLaw}{q:Program}{loose:List Str}{XP:(Str->Option Value)->Heap->Prop}{d:DefRec}{T:Snd.Tb}{pg:O.Pg}{k:Nat}{xl:Snd.Ds}
  (hn:l.most=some 63) (hdf:d.params.defaults=[]) (hdn:d.name=Str.ofString "law") (hr:Room (2*(k+1)) callerA) (hlaw:("law",xl)∈T.fs) (hps:xl.ps=[Str.ofString "script"]) (hin:D1 T=true)
  (tab_pg:∀f x,(f,x)∈T.fs->pg f=some x.d) (tab_pm:∀y,y∈T.ms->pg (y.C ++ "." ++ y.m)=some y.x.d) (tab_ok:∀f x,(f,x)∈T.fs->x.Ok T) (tab_om:∀y,y∈T.ms->y.x.Ok T)
  (tab_bd:∀f x,(f,x)∈T.fs->Bd (Str.ofString f) (Str.ofString f) x) (tab_bm:∀y,y∈T.ms->Bd (Str.ofString y.m) (Str.ofString y.qual) y.x)
  (ok:∀ns:List Int,ns.length<=63->O.wF pg (k+1) "law" [.scr ns] (fun _=>none) (fun v _=>v=.bl true) fun _ _=>False) :
  WalkO q loose XP (hook T).says l.row.toRowW d [] (fun f vs=>PySem.call f vs):=by
 refine EX (n:=63) (k:=2*(k+1)) (x:=Str.ofString "script") (CX:=fun w=>CX1 l.prog w) hn (by decide) hdf hr (fun w mg fa h Y G hmg=>?_) fun _ _ _ _ _ ⟨_,_,_,_,_,z⟩=>z;obtain⟨g,e,keep⟩:=Y;have X:(Zx g).In h:=fun a o z=>keep a o<|Os z;simp only[view,due,View.mk.injEq]at e;obtain⟨e1,e3,e4,e5,e2⟩:=e;rw[bAq,ñ,ñ]at e2
 let i:Snd.Inf:=⟨Zx g,fun C a=>T.cl.contains C=true/\mg (Str.ofString C)=some (.ref a),fun C=>T.cl.contains C,fun C a=>T.xs.contains C=true/\mg (Str.ofString C)=some (.ref a)⟩
 have hF:∀f x,(f,x)∈T.fs->∃fa fd,Fun (Zx g) (Str.ofString f) (Str.ofString f) x.st fa fd/\mg (Str.ofString f)=some (.ref fa):=fun f x hx=>by obtain⟨fa,fd,F,z⟩:=Hx<|Ĥ.mp e1 (f,x) hx;exact⟨fa,fd,F,mg_of X G z⟩
 have aF:∀C a,i.cl C a->makesIn (Zx g) a=true/\keepIn (Zx g) (.ref a)=true/\Cls (Zx g) a/\(∀f∈T.fl,NoAttr (Zx g) a<|Str.ofString f)/\Snd.IC (Zx g) a:=fun C a ⟨hc,hm⟩=>by obtain⟨b,z,q⟩:=Gn<|Ĥ.mp e4 C<|ą.mp hc;have:=mg_of X G z;rw[hm]at this;cases this;exact q
 have hms:∀y,y∈T.ms->∃a f,Snd.Mst i mg y a f/\Cls i.K a:=fun y hy=>by obtain⟨a,f,fd,z,F,M,A⟩:=PL<|Ĥ.mp e3 y hy;exact⟨a,f,⟨mg_of X G z,⟨fd,F,F.binds<|tab_bm y hy⟩,M⟩,A⟩
 have hxc:∀C a,i.xc C a->excIn (Zx g) a [.type "ValueError",.type "Exception",.type "BaseException",.type "object"] "ValueError.__new__" = true/\XCls (Zx g) a/\kitOne (Zx g) (.ref a) (.type "ValueError")=some true/\
   ∀T'∈"ShutError" :: T.xs,∃D,nsIn (Zx g) mainGlobals (Str.ofString T')=some (some<|.ref D)/\kitOne (Zx g) (.ref a) (.ref D)=some (O.excSub C T')/\exmOne (Zx g) (.ref a) (.ref D)=some (O.excSub C T'):=fun C a ⟨hc,hm⟩=>by
  obtain⟨b,z,q⟩:=Ce<|Ĥ.mp e5 C<|ą.mp hc;have:=mg_of X G z;rw[hm]at this;cases this;exact q
 have mod:∀base:Heap,(Zx g).In base->Snd.Modu mg base i T:=fun base Xb =>
  { bl:=fun y hy=>by
      have:=e2.2 y hy
      unfold F8 at this
      split at this
      . rename_i z;exact mg_none_of X G z
      . cases this
    cst:=fun y v hv=>by
      have:=e2.1 _<|W5 hv
      unfold Dh at this
      split at this
      . rename_i u z
        obtain⟨x,r,rv⟩:=Bf 4 u v this
        exact⟨u,x,mg_of X G z,r,rv⟩
      . cases this
    A:=⟨fun C a _ z=>(aF C a z).2.2.1,fun C a z=>(aF C a z).2.2.2.2,fun C a b z y=>by have:=z.2.symm.trans y.2;cases this;rfl⟩
    F:=fun f hf=>⟨fun C a z=>(aF C a z).2.2.2.1 f<|ą.mp hf⟩
    cl:=fun C a z=>z.2
    mkc:=fun C hC=>by
      obtain⟨a,z,_⟩:=Gn<|Ĥ.mp e4 C<|ą.mp hC
      have hi:i.cl C a:=⟨hC,mg_of X G z⟩
      obtain⟨y,hy,e⟩:=ai.mp<|ñ.mp hin C<|ą.mp hC
      rw[bAq]at e
      obtain⟨b,f,S,A⟩:=hms y hy
      have h1:=eq_of_beq e.1
      have h2:=eq_of_beq e.2
      have hb:=S.cl
      rw[h1,hi.2]at hb
      cases hb
      refine⟨a,y,f,hC,hi,⟨(aF C a hi).1,?_,S.at_.fn,(aF C a hi).2.1⟩,hy,h1,h2,S⟩
      have:=S.at_.at_
      rw[h2]at this
      exact this
    fs:=fun f x hx=>by
      obtain⟨fa,fd,F,m⟩:=hF f x hx
      exact⟨fa,fd,_,F,m,F.binds<|tab_bd f x hx⟩
    ms:=hms
    xc:=fun _ C a z=>⟨(hxc C a z).2.1,(hxc C a z).2.2.1⟩
    rs:=fun _ C hC=>by
      obtain⟨a,z,q1,_⟩:=Ce<|Ĥ.mp e5 C<|ą.mp hC
      exact⟨a,⟨hC,mg_of X G z⟩,Lc Xb (mg_of X G z) q1⟩
    kn:=fun ρ T' hT=>by
      have hT2:T'∈"ShutError" :: T.xs:=by
        rcases (ϐ ..).mp hT with z|z
        . exact .tail _<|ą.mp z
        . cases eq_of_beq z;exact .head _
      obtain⟨C0,hC0⟩:=List.exists_mem_of_ne_nil _ ρ
      obtain⟨a0,z0,_,_,_,q0⟩:=Ce<|Ĥ.mp e5 C0 hC0
      obtain⟨D,zD,_⟩:=q0 T' hT2
      refine⟨D,mg_of X G zD,fun C a z=>?_⟩
      obtain⟨D2,z2,k1,k2⟩:=(hxc C a z).2.2.2 T' hT2
      rw[zD]at z2
      cases z2
      exact⟨k1,fun e=>by rw[k2,e]⟩ }
 obtain⟨fl,fd,F,m⟩:=hF "law" xl hlaw;have ef:=hmg.symm.trans<|hdn▸m;cases ef;refine⟨Zx g,Snd.spF i pg (k+1) "law",X,⟨fd,fun s u=>?_,fun base Xb _=>?_⟩,fun H a ns hl hO hS=>?_⟩
 .have B:=F.ex;obtain⟨oc,od,kV,dc,pm,an,ό,ct,sl,rfl,lk,aE⟩:=B;have:=tab_bd "law" xl hlaw kV dc pm an ό ct [u] (by rw[hps];rfl);rw[hps]at this;exact .of_eq this
 .have M:=mod base Xb;have:=Snd.fn_succ (i:=i) (pr:=l.prog) (wd:=w) (base:=base) (mg:=mg) (P:=pg) (n:=k) M (Snd.held_all M tab_pg tab_pm tab_ok tab_om k) F (tab_pg "law" xl hlaw)<|tab_ok "law" xl hlaw;rw[hps]at this;exact this
 .refine⟨[.scr ns],fun _=>none,fun v _=>v=.bl true,fun _ _=>False,.cons (.scr ?_) .nil,fun _ _ e=>(by cases e),ok ns hl,?_,?_⟩
  .rcases hS with(h|⟨o,h⟩)|h
   .rcases hO a with z|⟨o,xs,z⟩
    .rw[h]at z;cases z
    .rw[h]at z;cases z
   .exact .inl ⟨o,h⟩
   .exact .inr h
  .intro v G' H' x _ _ r e;subst e;exact r.bl_inv
  .rintro cls d H' ⟨_,_,_,_,_,_,_,z⟩;exact z
end Hd
set_option maxRecDepth 20000
set_option maxHeartbeats 2000000
namespace O
local macro_rules|`(#[$x])=>`(.cons $x .nil)|`(#[$x,$y,*])=>`(.cons $x #[$y,*])
abbrev B0(P:Pg)(n:Nat)(d:Fn)(e:Env)(h:Hs)(Q:Q1)(X:XQ):Prop:=wSs (wF P n) d.body e h (fun _ g=>Q .non g) Q (fun _ _=>False) (fun _ _=>False) fun _ c g=>X c g
variable {P:Pg}{n:Nat}{a0 a1 a2 a3 a4 a5 a6 a7:Val}{h:Hs}{Q:Q1}{X:XQ}
noncomputable abbrev Sx:Fn:={ar:=1,sz:=1,body:=#[.ret<|.and (.bi (.isi ["int"]) #[.var 0])<|.not<|.bi (.isi ["bool"]) #[.var 0]]}
noncomputable abbrev Sr:Fn:={ar:=2,sz:=5,body:=#[.set (.one 2)<|.lst .nil,.for (.many [3,4]) (.enum<|.idx (.var 0)<|.cst<|.int 1) #[.ite (.val<|.cmp .isin (.var 1)<|.slc (.var 4) .none<|.some<|.cst<|.int 2) #[.expr<|.bm .append (.var 2) #[.tup #[.var 3,.call "far_end" #[.var 4,.var 1],.idx (.var 4)<|.cst<|.int 2]]] .nil],.ret<|.var 2]}
noncomputable abbrev Sy:Fn:={ar:=2,sz:=2,body:=#[.ret<|.ife (.val<|.cmp .eq (.idx (.var 0)<|.cst<|.int 0)<|.var 1) (.idx (.var 0)<|.cst<|.int 1)<|.idx (.var 0)<|.cst<|.int 0]}
noncomputable abbrev Sv:Fn:={ar:=2,sz:=2,body:=#[.ret<|.cmp .gt (.idx (.var 0)<|.glob "NUMBER"<|.int 0)<|.idx (.var 1)<|.glob "NUMBER"<|.int 0]}
noncomputable abbrev Sz:Fn:={ar:=2,sz:=3,body:=#[.set (.one 2)<|.comp [0] 1 (.one 0) (.seq<|.var 1) (.val<|.cmp .lt (.idx (.var 0)<|.cst<|.int 0)<|.var 1)<|.var 0,.ret<|.bi .minD #[.var 2]]}
noncomputable abbrev SW:Fn:={ar:=5,sz:=8,body:=#[.setFld (.var 0) "number"<|.var 1,.setFld (.var 0) "life"<|.var 2,.setFld (.var 0) "age_let_go"<|.var 4,.setFld (.var 0) "ties_by_place"<|.dct .nil,.for (.many [5,6,7]) (.seq<|.var 3) #[.setIdx (.fld (.var 0) "ties_by_place") (.var 5)<|.tup #[.var 6,.var 7]],.setFld (.var 0) "held_by_place"<|.dct .nil,.setFld (.var 0) "label_now"<|.tup #[.var 1,.cst<|.int 0,.cst .non,.cst .non],.setFld (.var 0) "version"<|.cst<|.int 0,.setFld (.var 0) "ticks_had"<|.cst<|.int 0]}
noncomputable abbrev SM:Fn:={ar:=1,sz:=1,body:=#[.ret<|.fld (.var 0) "label_now"]}
noncomputable abbrev SA:Fn:={ar:=1,sz:=1,body:=#[.ret<|.tup #[.fld (.var 0) "life",.fld (.var 0) "version"]]}
noncomputable abbrev SX:Fn:={ar:=2,sz:=2,body:=#[.ret<|.bm .dget (.fld (.var 0) "held_by_place") #[.var 1]]}
noncomputable abbrev SY:Fn:={ar:=3,sz:=4,body:=#[.ite (.val<|.cmp .notin (.var 1)<|.fld (.var 0) "ties_by_place") #[.retN] .nil,.set (.one 3)<|.meth "Bridge" "held" (.var 0) #[.var 1],.ite (.or (.val<|.cmp .is (.var 3)<|.cst .non)<|.val<|.call "newer" #[.var 2,.idx (.var 3)<|.cst<|.int 0]) #[.setIdx (.fld (.var 0) "held_by_place") (.var 1)<|.tup #[.var 2,.idx (.var 2)<|.glob "AGE"<|.int 4]] .nil]}
noncomputable abbrev SC:Fn:={ar:=1,sz:=2,body:=#[.expr<|.meth "Bridge" "let_grow_older" (.var 0) .nil,.expr<|.meth "Bridge" "take_label" (.var 0) #[.meth "Bridge" "reckon_label" (.var 0) .nil],.set (.one 1)<|.comp [0] 1 (.one 0) (.seq<|.bi .sortedI #[.fld (.var 0) "ties_by_place"]) .yes<|.tup #[.var 0,.meth "Bridge" "letter_over" (.var 1) #[.var 0]],.augFld (.var 0) "ticks_had" .add 1,.ret<|.var 1]}
noncomputable abbrev SN:Fn:={ar:=1,sz:=4,body:=#[.set (.one 1)<|.dct .nil,.forI false (.many [2,3]) (.fld (.var 0) "held_by_place") #[.ite (.val<|.cmp .lt (.bin .add (.idx (.var 3)<|.cst<|.int 1)<|.cst<|.int 1)<|.fld (.var 0) "age_let_go") #[.setIdx (.var 1) (.var 2)<|.tup #[.idx (.var 3)<|.cst<|.int 0,.bin .add (.idx (.var 3)<|.cst<|.int 1)<|.cst<|.int 1]] .nil],.setFld (.var 0) "held_by_place"<|.var 1]}
noncomputable abbrev SU:Fn:={ar:=1,sz:=8,body:=#[.set (.one 1)<|.lst .nil,.forI false (.many [2,3]) (.fld (.var 0) "held_by_place") #[.set (.many [4,5])<|.idx (.fld (.var 0) "ties_by_place")<|.var 2,.expr<|.bm .append (.var 1) #[.tup #[.idx (.idx (.var 3)<|.cst<|.int 0)<|.glob "ROOT"<|.int 2,.bin .add (.idx (.idx (.var 3)<|.cst<|.int 0)<|.glob "COST"<|.int 3)<|.var 5,.var 4,.var 2]]],.set (.one 6)<|.call "best_offer" #[.fld (.var 0) "number",.var 1],.ite (.val<|.cmp .is (.var 6)<|.cst .non) #[.ret<|.tup #[.fld (.var 0) "number",.cst<|.int 0,.cst .non,.cst .non]] .nil,.set (.many [7,5,4,2])<|.var 6,.ret<|.tup #[.var 7,.var 5,.var 2,.idx (.idx (.idx (.fld (.var 0) "held_by_place")<|.var 2)<|.cst<|.int 0)<|.glob "STAMP"<|.int 1]]}
noncomputable abbrev SB:Fn:={ar:=2,sz:=2,body:=#[.ite (.val<|.cmp .ne (.var 1)<|.fld (.var 0) "label_now") #[.setFld (.var 0) "label_now"<|.var 1,.augFld (.var 0) "version" .add 1] .nil]}
noncomputable abbrev SO:Fn:={ar:=2,sz:=8,body:=#[.set (.many [2,3,4,5])<|.fld (.var 0) "label_now",.set (.one 6)<|.ife (.val<|.cmp .is (.var 4)<|.cst .non) (.cst<|.int 0)<|.bin .add (.idx (.idx (.fld (.var 0) "held_by_place")<|.var 4)<|.cst<|.int 1)<|.cst<|.int 1,.set (.one 7)<|.tup #[.tup #[.fld (.var 0) "life",.fld (.var 0) "ticks_had"],.meth "Bridge" "stamp" (.var 0) .nil,.var 2,.var 3,.var 6],.ite (.val<|.cmp .eq (.var 1)<|.var 4) #[.ret<|.bin .add (.var 7)<|.tup #[.var 5,.cst .non]] .nil,.ite (.val<|.meth "Bridge" "is_rested_on" (.var 0) #[.var 1]) #[.ret<|.bin .add (.var 7)<|.tup #[.cst .non,.idx (.idx (.idx (.fld (.var 0) "held_by_place")<|.var 1)<|.cst<|.int 0)<|.glob "STAMP"<|.int 1]] .nil,.ret<|.bin .add (.var 7)<|.tup #[.cst .non,.cst .non]]}
noncomputable abbrev SK:Fn:={ar:=2,sz:=3,body:=#[.set (.one 2)<|.meth "Bridge" "held" (.var 0) #[.var 1],.ret<|.and (.cmp .isnot (.var 2)<|.cst .non)<|.cmp .eq (.idx (.idx (.var 2)<|.cst<|.int 0)<|.glob "RESTS"<|.int 5)<|.meth "Bridge" "stamp" (.var 0) .nil]}
noncomputable abbrev SJ:Fn:={ar:=2,sz:=3,body:=#[.set (.one 2)<|.meth "Bridge" "held" (.var 0) #[.var 1],.ite (.or (.val<|.cmp .is (.var 2)<|.cst .non)<|.val<|.cmp .ne (.idx (.idx (.var 2)<|.cst<|.int 0)<|.glob "AGREES"<|.int 6)<|.meth "Bridge" "stamp" (.var 0) .nil) #[.ret<|.cst<|.bl false] .nil,.ret<|.cmp .eq (.idx (.idx (.var 2)<|.cst<|.int 0)<|.glob "STAMP"<|.int 1)<|.idx (.fld (.var 0) "label_now")<|.cst<|.int 3]}
noncomputable abbrev SZ:Fn:={ar:=2,sz:=2,body:=#[.ite (.val<|.cmp .notin (.var 1)<|.fld (.var 0) "ties_by_place") #[.ret<|.cst<|.str "down"] .nil,.ite (.val<|.cmp .eq (.var 1)<|.idx (.fld (.var 0) "label_now")<|.cst<|.int 2) #[.ret<|.ife (.val<|.meth "Bridge" "is_agreed_to" (.var 0) #[.var 1]) (.cst<|.str "child")<|.cst<|.str "shut"] .nil,.ret<|.ife (.val<|.meth "Bridge" "is_rested_on" (.var 0) #[.var 1]) (.cst<|.str "parent")<|.cst<|.str "shut"]}
noncomputable abbrev SL:Fn:={ar:=3,sz:=4,body:=#[.setFld (.var 0) "net_made_of"<|.var 1,.setFld (.var 0) "greatest_age"<|.var 2,.setFld (.var 0) "lives"<|.dct .nil,.setFld (.var 0) "standing"<|.dct .nil,.setFld (.var 0) "ties_fallen"<|.dct .nil,.setFld (.var 0) "letters_on_road"<|.lst .nil,.for (.one 3) (.seq<|.idx (.var 1)<|.cst<|.int 0) #[.setIdx (.fld (.var 0) "lives") (.var 3)<|.cst<|.int 0,.setIdx (.fld (.var 0) "standing") (.var 3)<|.make "Bridge" #[.var 3,.cst<|.int 0,.call "neighbours" #[.var 1,.var 3],.var 2]]]}
noncomputable abbrev SR:Fn:={ar:=1,sz:=1,body:=#[.ret<|.bi .list #[.fld (.var 0) "letters_on_road"]]}
noncomputable abbrev SQ:Fn:={ar:=1,sz:=1,body:=#[.ret<|.comp [0] 1 (.one 0) (.seq<|.bi .sortedI #[.fld (.var 0) "standing"]) .yes<|.tup #[.var 0,.meth "Bridge" "label" (.idx (.fld (.var 1) "standing")<|.var 0) .nil]]}
noncomputable abbrev SS:Fn:={ar:=1,sz:=1,body:=#[.ret<|.comp [0] 1 (.one 0) (.seq<|.bi .sortedI #[.fld (.var 0) "standing"]) .yes<|.tup #[.var 0,.meth "Bridge" "stamp" (.idx (.fld (.var 1) "standing")<|.var 0) .nil]]}
noncomputable abbrev SD:Fn:={ar:=2,sz:=2,body:=#[.ret<|.bm .dget (.fld (.var 0) "standing") #[.var 1]]}
noncomputable abbrev SH:Fn:={ar:=2,sz:=5,body:=#[.ite (.not<|.val<|.meth "Yard" "has_tie" (.var 0) #[.var 1]) #[.ret<|.tup #[.cst<|.str "down",.cst<|.str "down"]] .nil,.set (.many [2,3,4])<|.idx (.idx (.fld (.var 0) "net_made_of")<|.cst<|.int 1)<|.var 1,.ret<|.tup #[.meth "Yard" "end_at" (.var 0) #[.var 2,.var 1],.meth "Yard" "end_at" (.var 0) #[.var 3,.var 1]]]}
noncomputable abbrev SG:Fn:={ar:=3,sz:=3,body:=#[.ite (.val<|.cmp .notin (.var 1)<|.fld (.var 0) "standing") #[.ret<|.cst<|.str "down"] .nil,.ret<|.meth "Bridge" "end" (.idx (.fld (.var 0) "standing")<|.var 1) #[.var 2]]}
noncomputable abbrev SI:Fn:={ar:=2,sz:=2,body:=#[.ret<|.chain .le .lt (.cst<|.int 0) (.var 1)<|.bi .len #[.idx (.fld (.var 0) "net_made_of")<|.cst<|.int 1]]}
noncomputable abbrev SF:Fn:={ar:=2,sz:=4,body:=#[.set (.many [2,3])<|.call "read_deed" #[.var 1],.ite (.val<|.cmp .eq (.var 2)<|.tup #[.cst<|.str "tick"]) #[.expr<|.meth "Yard" "tick_of" (.var 0) #[.var 3]] #[.ite (.val<|.cmp .eq (.var 2)<|.tup #[.cst<|.str "come"]) #[.expr<|.meth "Yard" "come" (.var 0) #[.var 3]] #[.ite (.val<|.cmp .eq (.var 2)<|.tup #[.cst<|.str "lost"]) #[.expr<|.meth "Yard" "take_off" (.var 0) #[.var 3]] #[.ite (.val<|.cmp .eq (.var 2)<|.tup #[.cst<|.str "fall",.cst<|.str "bridge"]) #[.never] #[.ite (.val<|.cmp .eq (.var 2)<|.tup #[.cst<|.str "fall",.cst<|.str "tie"]) #[.never] #[.ite (.val<|.cmp .eq (.var 2)<|.tup #[.cst<|.str "back",.cst<|.str "bridge"]) #[.never] #[.never]]]]]]]}
noncomputable abbrev SV:Fn:={ar:=2,sz:=5,body:=#[.ite (.val<|.cmp .notin (.var 1)<|.fld (.var 0) "standing") #[.never] .nil,.for (.many [2,3]) (.seq<|.meth "Bridge" "tick" (.idx (.fld (.var 0) "standing")<|.var 1) .nil) #[.set (.one 4)<|.call "far_end" #[.idx (.idx (.fld (.var 0) "net_made_of")<|.cst<|.int 1)<|.var 2,.var 1],.expr<|.bm .append (.fld (.var 0) "letters_on_road") #[.tup #[.var 1,.var 4,.var 2,.var 3]]]]}
noncomputable abbrev SE:Fn:={ar:=2,sz:=6,body:=#[.set (.many [2,3,4,5])<|.meth "Yard" "take_off" (.var 0) #[.var 1],.ite (.val<|.cmp .isin (.var 3)<|.fld (.var 0) "standing") #[.expr<|.meth "Bridge" "hear" (.idx (.fld (.var 0) "standing")<|.var 3) #[.var 4,.var 5]] .nil]}
noncomputable abbrev ST:Fn:={ar:=2,sz:=2,body:=#[.ite (.not<|.val<|.chain .le .lt (.cst<|.int 0) (.var 1)<|.bi .len #[.fld (.var 0) "letters_on_road"]) #[.never] .nil,.ret<|.bm .popAt (.fld (.var 0) "letters_on_road") #[.var 1]]}
noncomputable abbrev S0:Fn:={ar:=1,sz:=2,body:=#[.ite (.not<|.val<|.bi (.isi ["tuple"]) #[.var 0]) #[.never] .nil,.set (.one 1)<|.slc (.var 0) .none<|.some<|.neg<|.cst<|.int 1,.ite (.or (.not<|.val<|.bi .all #[.comp [] 1 (.one 0) (.seq<|.var 1) .yes<|.bi (.isi ["str"]) #[.var 0]])<|.val<|.cmp .notin (.var 1)<|.glob "DEEDS"<|.tup [(.tup [(.str "tick")]),(.tup [(.str "come")]),(.tup [(.str "lost")]),(.tup [(.str "fall"),(.str "bridge")]),(.tup [(.str "fall"),(.str "tie")]),(.tup [(.str "back"),(.str "bridge")]),(.tup [(.str "back"),(.str "tie")])]) #[.never] .nil,.ite (.not<|.val<|.call "is_whole" #[.idx (.var 0)<|.neg<|.cst<|.int 1]) #[.never] .nil,.ret<|.tup #[.var 1,.idx (.var 0)<|.neg<|.cst<|.int 1]]}
noncomputable abbrev Sn:Fn:={ar:=2,sz:=2,body:=#[.ite (.val<|.cmp .lt (.var 1)<|.bi .len #[.var 0]) #[.ret<|.idx (.var 0)<|.var 1] .nil,.ret<|.cst<|.int 0]}
noncomputable abbrev Sd:Fn:={ar:=2,sz:=3,body:=#[.set (.one 2)<|.bin .mod (.bin .mul (.bin .add (.bin .add (.bin .mod (.var 0)<|.cst<|.int 2147483647)<|.bin .mul (.cst<|.int 7919)<|.var 1)<|.cst<|.int 1)<|.cst<|.int 48271)<|.cst<|.int 2147483647,.set (.one 2)<|.bin .mod (.bin .mul (.var 2)<|.var 2)<|.cst<|.int 2147483629,.ret<|.bin .fdiv (.bin .mod (.bin .mul (.bin .add (.var 2)<|.bin .mul (.cst<|.int 40692)<|.bin .add (.var 1)<|.cst<|.int 3)<|.cst<|.int 69621)<|.cst<|.int 2147483579)<|.cst<|.int 8]}
noncomputable abbrev So:Fn:={ar:=2,sz:=6,body:=#[.set (.one 2)<|.bin .mod (.var 0)<|.bin .mul (.bin .mul (.bin .pow (.cst<|.int 10)<|.cst<|.int 60)<|.bin .pow (.cst<|.int 10)<|.cst<|.int 60)<|.bin .pow (.cst<|.int 10)<|.cst<|.int 30,.set (.one 3)<|.cmp .ge (.var 2)<|.bin .pow (.cst<|.int 10)<|.cst<|.int 18,.set (.one 4)<|.lst .nil,.for (.one 5) (.range<|.var 1) #[.ite (.and (.val<|.var 3)<|.val<|.cmp .gt (.var 2)<|.cst<|.int 0) #[.expr<|.bm .append (.var 4) #[.bin .mod (.var 2)<|.cst<|.int 1000],.set (.one 2)<|.bin .fdiv (.var 2)<|.cst<|.int 1000] #[.expr<|.bm .append (.var 4) #[.call "_law_mixed" #[.var 0,.var 5]]]],.ret<|.var 4]}
noncomputable abbrev Sm:Fn:={ar:=1,sz:=3,body:=#[.set (.one 1)<|.bin .add (.cst<|.int 2)<|.bin .mod (.idx (.var 0)<|.cst<|.int 0)<|.cst<|.int 4,.ite (.val<|.cmp .eq (.bin .mod (.bin .fdiv (.idx (.var 0)<|.cst<|.int 0)<|.cst<|.int 4)<|.cst<|.int 8)<|.cst<|.int 7) #[.set (.one 1)<|.bin .add (.cst<|.int 1)<|.bin .mod (.bin .fdiv (.idx (.var 0)<|.cst<|.int 0)<|.cst<|.int 32)<|.cst<|.int 10] .nil,.set (.one 2)<|.idx (.lst #[.cst<|.int 1000,.cst<|.int 12,.cst<|.int 1000,.cst<|.int 30])<|.bin .mod (.idx (.var 0)<|.cst<|.int 1)<|.cst<|.int 4,.ret<|.bi .sortedSet #[.comp [2] 1 (.one 0) (.seq<|.slc (.var 0) (.some<|.cst<|.int 4)<|.some<|.bin .add (.cst<|.int 4)<|.var 1) .yes<|.bin .mod (.var 0)<|.var 1]]}
noncomputable abbrev Si:Fn:={ar:=3,sz:=8,body:=#[.set (.one 3)<|.bi .len #[.var 0],.set (.one 4)<|.bin .mod (.idx (.var 1)<|.cst<|.int 0)<|.var 3,.set (.one 5)<|.bin .mod (.bin .add (.bin .add (.var 4)<|.cst<|.int 1)<|.bin .mod (.idx (.var 1)<|.cst<|.int 1)<|.bin .sub (.var 3)<|.cst<|.int 1)<|.var 3,.ite (.and (.val<|.cmp .lt (.bin .add (.var 2)<|.cst<|.int 1)<|.var 3)<|.val<|.cmp .eq (.bin .mod (.bin .fdiv (.idx (.var 1)<|.cst<|.int 0)<|.cst<|.int 10)<|.cst<|.int 2)<|.cst<|.int 0) #[.set (.one 4)<|.bin .add (.var 2)<|.cst<|.int 1,.set (.one 5)<|.bin .mod (.idx (.var 1)<|.cst<|.int 1)<|.bin .add (.var 2)<|.cst<|.int 1] .nil,.set (.one 6)<|.bin .add (.cst<|.int 1)<|.bin .mod (.idx (.var 1)<|.cst<|.int 2)<|.cst<|.int 1000,.ite (.val<|.cmp .eq (.bin .mod (.bin .fdiv (.idx (.var 1)<|.cst<|.int 0)<|.cst<|.int 20)<|.cst<|.int 2)<|.cst<|.int 0) #[.set (.one 6)<|.bin .add (.cst<|.int 1)<|.bin .mod (.idx (.var 1)<|.cst<|.int 2)<|.cst<|.int 3] .nil,.set (.one 7)<|.bi .sortedI #[.lst #[.idx (.var 0)<|.var 4,.idx (.var 0)<|.var 5]],.ret<|.tup #[.idx (.var 7)<|.cst<|.int 0,.idx (.var 7)<|.cst<|.int 1,.var 6]]}
noncomputable abbrev Se:Fn:={ar:=2,sz:=7,body:=#[.set (.one 2)<|.call "_law_draws" #[.var 0,.cst<|.int 14],.set (.one 3)<|.call "_law_bridges" #[.var 2],.set (.one 4)<|.bin .mod (.idx (.var 2)<|.cst<|.int 2)<|.cst<|.int 8,.ite (.val<|.cmp .eq (.bin .mod (.bin .fdiv (.idx (.var 2)<|.cst<|.int 2)<|.cst<|.int 8)<|.cst<|.int 7)<|.cst<|.int 6) #[.set (.one 4)<|.bin .mod (.bin .fdiv (.idx (.var 2)<|.cst<|.int 2)<|.cst<|.int 56)<|.cst<|.int 17] .nil,.ite (.val<|.cmp .eq (.bi .len #[.var 3])<|.cst<|.int 1) #[.set (.one 4)<|.cst<|.int 0] .nil,.set (.one 5)<|.call "_law_draws" #[.var 1,.bin .mul (.cst<|.int 3)<|.var 4],.set (.one 6)<|.comp [3,5] 1 (.one 0) (.range<|.var 4) .yes<|.call "_law_tie" #[.var 1,.slc (.var 2) (.some<|.bin .mul (.cst<|.int 3)<|.var 0)<|.some<|.bin .add (.bin .mul (.cst<|.int 3)<|.var 0)<|.cst<|.int 3,.var 0],.ret<|.tup #[.bi .tuple #[.var 3],.bi .tuple #[.var 6]]]}
noncomputable abbrev Su:Fn:={ar:=1,sz:=2,body:=#[.set (.one 1)<|.call "_law_draws" #[.var 0,.cst<|.int 4],.ite (.val<|.cmp .eq (.bin .mod (.bin .fdiv (.idx (.var 1)<|.cst<|.int 1)<|.cst<|.int 4)<|.cst<|.int 2)<|.cst<|.int 0) #[.ret<|.bin .add (.cst<|.int 4)<|.bin .mod (.idx (.var 1)<|.cst<|.int 3)<|.cst<|.int 8] .nil,.ret<|.bin .add (.cst<|.int 4)<|.bin .mod (.idx (.var 1)<|.cst<|.int 3)<|.cst<|.int 197]}
noncomputable abbrev Sf:Fn:={ar:=2,sz:=3,body:=#[.ite (.val<|.cmp .is (.var 1)<|.cst .non) #[.ret<|.cmp .is (.var 0)<|.cst .non] .nil,.ite (.val<|.bi (.isi ["str"]) #[.var 1]) #[.ret<|.and (.bi (.isi ["str"]) #[.var 0])<|.cmp .eq (.var 0)<|.var 1] .nil,.ite (.val<|.bi (.isi ["int"]) #[.var 1]) #[.ret<|.and (.bi (.isi ["int"]) #[.var 0])<|.and (.not<|.bi (.isi ["bool"]) #[.var 0])<|.cmp .eq (.var 0)<|.var 1] .nil,.ite (.val<|.bi (.isi ["tuple"]) #[.var 1]) #[.ite (.not<|.val<|.bi (.isi ["tuple"]) #[.var 0]) #[.ret<|.cst<|.bl false] .nil] #[.ite (.not<|.val<|.bi (.isi ["list"]) #[.var 0]) #[.ret<|.cst<|.bl false] .nil],.ite (.val<|.cmp .ne (.bi .len #[.var 0])<|.bi .len #[.var 1]) #[.ret<|.cst<|.bl false] .nil,.for (.one 2) (.range<|.bi .len #[.var 1]) #[.ite (.not<|.val<|.call "_law_same" #[.idx (.var 0)<|.var 2,.idx (.var 1)<|.var 2]) #[.ret<|.cst<|.bl false] .nil],.ret<|.cst<|.bl true]}
noncomputable abbrev Sl:Fn:={ar:=2,sz:=5,body:=#[.set (.one 2)<|.lst .nil,.for (.many [3,4]) (.enum<|.idx (.var 0)<|.cst<|.int 1) #[.ite (.val<|.cmp .eq (.idx (.var 4)<|.cst<|.int 0)<|.var 1) #[.expr<|.bm .append (.var 2) #[.tup #[.var 3,.idx (.var 4)<|.cst<|.int 1,.idx (.var 4)<|.cst<|.int 2]]] .nil,.ite (.val<|.cmp .eq (.idx (.var 4)<|.cst<|.int 1)<|.var 1) #[.expr<|.bm .append (.var 2) #[.tup #[.var 3,.idx (.var 4)<|.cst<|.int 0,.idx (.var 4)<|.cst<|.int 2]]] .nil],.ret<|.var 2]}
noncomputable abbrev Sq:Fn:={ar:=2,sz:=4,body:=#[.set (.one 2)<|.bin .mod (.var 1)<|.bi .len #[.var 0],.set (.one 3)<|.bin .add (.bi .list #[.slc (.var 0) (.some<|.var 2) .none])<|.bi .list #[.slc (.var 0) .none<|.some<|.var 2],.ite (.val<|.cmp .eq (.bin .mod (.bin .fdiv (.var 1)<|.cst<|.int 10)<|.cst<|.int 2)<|.cst<|.int 1) #[.ret<|.rev<|.var 3] .nil,.ret<|.var 3]}
noncomputable abbrev Sk:Fn:={ar:=3,sz:=8,body:=#[.set (.one 3)<|.lst .nil,.for (.many [4,5,6]) (.seq<|.call "_law_ties_of" #[.var 0,.var 1]) #[.ite (.and (.val<|.cmp .isin (.key #[.var 1,.var 4])<|.var 2)<|.val<|.cmp .lt (.var 5)<|.var 1) #[.expr<|.bm .append (.var 3) #[.tup #[.var 5,.var 6,.var 5,.var 4]]] .nil],.ite (.val<|.cmp .eq (.var 3)<|.lst .nil) #[.ret<|.tup #[.var 1,.cst<|.int 0,.cst .non,.cst .non]] .nil,.set (.one 7)<|.bi .minL #[.var 3],.ret<|.tup #[.idx (.var 7)<|.cst<|.int 0,.idx (.var 7)<|.cst<|.int 1,.idx (.var 7)<|.cst<|.int 3,.tup #[.cst<|.int 0,.cst<|.int 0]]]}
noncomputable abbrev Sg:Fn:={ar:=4,sz:=11,body:=#[.set (.one 4)<|.bi .int #[.cmp .isnot (.idx (.var 3)<|.cst<|.int 2)<|.cst .non],.set (.one 5)<|.lst .nil,.for (.many [6,7,8]) (.seq<|.call "_law_ties_of" #[.var 0,.var 1]) #[.set (.one 9)<|.cst .non,.ite (.val<|.cmp .eq (.var 6)<|.idx (.var 3)<|.cst<|.int 2) #[.set (.one 9)<|.tup #[.cst<|.int 0,.cst<|.int 0]] .nil,.set (.one 10)<|.tup #[.tup #[.cst<|.int 0,.var 2],.tup #[.cst<|.int 0,.var 4],.idx (.var 3)<|.cst<|.int 0,.idx (.var 3)<|.cst<|.int 1,.bin .mul (.cst<|.int 2)<|.var 4,.var 9,.cst .non],.expr<|.bm .append (.var 5) #[.tup #[.var 1,.var 7,.var 6,.var 10]]],.ret<|.var 5]}
noncomputable abbrev Sc:Fn:={ar:=3,sz:=8,body:=#[.for (.one 3) (.seq<|.idx (.var 1)<|.cst<|.int 0) #[.for (.many [4,5,6]) (.seq<|.call "_law_ties_of" #[.var 1,.var 3]) #[.set (.one 7)<|.cst .non,.ite (.val<|.cmp .isin (.key #[.var 3,.var 4])<|.var 2) #[.set (.one 7)<|.tup #[.idx (.var 2)<|.key #[.var 3,.var 4],.cst<|.int 0]] .nil,.ite (.not<|.val<|.call "_law_same" #[.meth "Bridge" "held" (.meth "Yard" "bridge" (.var 0) #[.var 3]) #[.var 4],.var 7]) #[.ret<|.cst<|.bl false] .nil]],.ret<|.cst<|.bl true]}
noncomputable abbrev Sb:Fn:={ar:=2,sz:=3,body:=#[.set (.one 2)<|.key #[.idx (.var 1)<|.cst<|.int 1,.idx (.var 1)<|.cst<|.int 2],.ite (.or (.val<|.cmp .notin (.var 2)<|.var 0)<|.val<|.cmp .lt (.idx (.idx (.var 0)<|.var 2)<|.cst<|.int 0)<|.idx (.idx (.var 1)<|.cst<|.int 3)<|.cst<|.int 0) #[.setIdx (.var 0) (.var 2)<|.idx (.var 1)<|.cst<|.int 3] .nil]}
noncomputable abbrev Sh:Fn:={ar:=4,sz:=7,body:=#[.for (.one 4) (.seq<|.var 3) #[.ite (.val<|.cmp .ne (.var 1)<|.lst .nil) #[.set (.one 5)<|.bin .mod (.bin .fdiv (.var 4)<|.cst<|.int 3)<|.bi .len #[.var 1],.set (.one 6)<|.bm .popAt (.var 1) #[.var 5],.ite (.val<|.cmp .eq (.bin .mod (.var 4)<|.cst<|.int 3)<|.cst<|.int 0) #[.expr<|.meth "Yard" "deed" (.var 0) #[.tup #[.cst<|.str "lost",.var 5]]] #[.expr<|.meth "Yard" "deed" (.var 0) #[.tup #[.cst<|.str "come",.var 5]],.expr<|.call "_law_hears" #[.var 2,.var 6]],.ite (.val<|.cmp .ne (.meth "Yard" "road" (.var 0) .nil)<|.var 1) #[.ret<|.cst<|.bl false] .nil] .nil],.ret<|.cst<|.bl true]}
noncomputable abbrev Sj:Fn:={ar:=1,sz:=6,body:=#[.set (.one 1)<|.make "Yard" #[.tup #[.tup #[.cst<|.int 3,.cst<|.int 8],.tup #[.tup #[.cst<|.int 3,.cst<|.int 8,.cst<|.int 5]]],.var 0],.for (.one 2) (.seq<|.lst #[.tup #[.cst<|.str "tick",.cst<|.int 3],.tup #[.cst<|.str "tick",.cst<|.int 8],.tup #[.cst<|.str "come",.cst<|.int 0],.tup #[.cst<|.str "come",.cst<|.int 0]]) #[.expr<|.meth "Yard" "deed" (.var 1) #[.var 2]],.set (.one 3)<|.tup #[.tup #[.cst<|.int 0,.cst<|.int 0],.tup #[.cst<|.int 0,.cst<|.int 0],.cst<|.int 3,.cst<|.int 0,.cst<|.int 0,.cst .non,.cst .non],.for (.one 4) (.range2 (.cst<|.int 1)<|.bin .add (.var 0)<|.cst<|.int 2) #[.expr<|.meth "Yard" "deed" (.var 1) #[.tup #[.cst<|.str "tick",.cst<|.int 8]],.expr<|.meth "Yard" "deed" (.var 1) #[.tup #[.cst<|.str "lost",.cst<|.int 0]],.set (.one 5)<|.lst #[.tup #[.var 3,.var 4],.tup #[.cst<|.int 3,.cst<|.int 5,.cst<|.int 0,.tup #[.cst<|.int 0,.cst<|.int 0]]],.ite (.val<|.cmp .ge (.var 4)<|.var 0) #[.set (.one 5)<|.lst #[.cst .non,.tup #[.cst<|.int 8,.cst<|.int 0,.cst .non,.cst .non]]] .nil,.ite (.and (.val<|.cmp .gt (.var 4)<|.bin .sub (.var 0)<|.cst<|.int 3)<|.not<|.val<|.call "_law_same" #[.lst #[.meth "Bridge" "held" (.meth "Yard" "bridge" (.var 1) #[.cst<|.int 8]) #[.cst<|.int 0],.meth "Bridge" "label" (.meth "Yard" "bridge" (.var 1) #[.cst<|.int 8]) .nil],.var 5]) #[.ret<|.cst<|.bl false] .nil],.ret<|.cst<|.bl true]}
noncomputable abbrev Sw:Fn:={ar:=1,sz:=13,body:=#[.set (.one 1)<|.call "_law_greatest" #[.call "_law_cell_at" #[.var 0,.cst<|.int 0]],.ite (.not<|.val<|.call "_law_ages" #[.var 1]) #[.ret<|.cst<|.bl false] .nil,.set (.one 2)<|.call "_law_net" #[.call "_law_cell_at" #[.var 0,.cst<|.int 0],.call "_law_cell_at" #[.var 0,.cst<|.int 1]],.set (.one 3)<|.make "Yard" #[.var 2,.var 1],.set (.one 4)<|.call "_law_cell_at" #[.var 0,.cst<|.int 2],.set (.one 5)<|.bin .add (.cst<|.int 1)<|.bin .mod (.bin .fdiv (.var 4)<|.cst<|.int 20)<|.cst<|.int 2,.set (.one 6)<|.lst .nil,.for (.one 7) (.range<|.var 5) #[.for (.one 8) (.seq<|.call "_law_turned" #[.idx (.var 2)<|.cst<|.int 0,.var 4]) #[.expr<|.meth "Yard" "deed" (.var 3) #[.tup #[.cst<|.str "tick",.var 8]],.set (.one 6)<|.bin .add (.var 6)<|.call "_law_sent" #[.var 2,.var 8,.var 7,.tup #[.var 8,.cst<|.int 0,.cst .non,.cst .non]]]],.set (.one 9) .dctP,.ite (.or (.not<|.val<|.call "_law_taken" #[.var 3,.var 6,.var 9,.slc (.var 0) (.some<|.cst<|.int 3)<|.some<|.cst<|.int 63])<|.not<|.val<|.call "_law_kept" #[.var 3,.var 2,.var 9]) #[.ret<|.cst<|.bl false] .nil,.set (.one 10)<|.dct .nil,.for (.one 8) (.seq<|.call "_law_turned" #[.idx (.var 2)<|.cst<|.int 0,.bin .fdiv (.var 4)<|.cst<|.int 40]) #[.expr<|.meth "Yard" "deed" (.var 3) #[.tup #[.cst<|.str "tick",.var 8]],.setIdx (.var 10) (.var 8)<|.call "_law_best" #[.var 2,.var 8,.var 9],.set (.one 6)<|.bin .add (.var 6)<|.call "_law_sent" #[.var 2,.var 8,.var 5,.idx (.var 10)<|.var 8]],.ite (.not<|.val<|.call "_law_same" #[.meth "Yard" "road" (.var 3) .nil,.var 6]) #[.ret<|.cst<|.bl false] .nil,.ite (.not<|.val<|.call "_law_same" #[.meth "Yard" "labels" (.var 3) .nil,.comp [10] 1 (.one 0) (.seq<|.idx (.var 2)<|.cst<|.int 0) .yes<|.tup #[.var 0,.idx (.var 1)<|.var 0]]) #[.ret<|.cst<|.bl false] .nil,.set (.one 11)<|.comp [10] 1 (.one 0) (.seq<|.idx (.var 2)<|.cst<|.int 0) .yes<|.tup #[.var 0,.tup #[.cst<|.int 0,.bi .int #[.cmp .isnot (.idx (.idx (.var 1)<|.var 0)<|.cst<|.int 2)<|.cst .non]]],.ite (.not<|.val<|.call "_law_same" #[.meth "Yard" "stamps" (.var 3) .nil,.var 11]) #[.ret<|.cst<|.bl false] .nil,.for (.one 12) (.range<|.bi .len #[.idx (.var 2)<|.cst<|.int 1]) #[.ite (.not<|.val<|.call "_law_same" #[.meth "Yard" "ends" (.var 3) #[.var 12],.tup #[.cst<|.str "shut",.cst<|.str "shut"]]) #[.ret<|.cst<|.bl false] .nil],.ret<|.cst<|.bl true]}
class Al(P:Pg):Prop where
 c0:P "is_whole" = some Sx
 c1:P "neighbours" = some Sr
 c2:P "far_end" = some Sy
 c3:P "newer" = some Sv
 c4:P "best_offer" = some Sz
 c5:P "Bridge.__init__" = some SW
 c6:P "Bridge.label" = some SM
 c7:P "Bridge.stamp" = some SA
 c8:P "Bridge.held" = some SX
 c9:P "Bridge.hear" = some SY
 c10:P "Bridge.tick" = some SC
 c11:P "Bridge.let_grow_older" = some SN
 c12:P "Bridge.reckon_label" = some SU
 c13:P "Bridge.take_label" = some SB
 c14:P "Bridge.letter_over" = some SO
 c15:P "Bridge.is_rested_on" = some SK
 c16:P "Bridge.is_agreed_to" = some SJ
 c17:P "Bridge.end" = some SZ
 c18:P "Yard.__init__" = some SL
 c19:P "Yard.road" = some SR
 c20:P "Yard.labels" = some SQ
 c21:P "Yard.stamps" = some SS
 c22:P "Yard.bridge" = some SD
 c23:P "Yard.ends" = some SH
 c24:P "Yard.end_at" = some SG
 c25:P "Yard.has_tie" = some SI
 c26:P "Yard.deed" = some SF
 c27:P "Yard.tick_of" = some SV
 c28:P "Yard.come" = some SE
 c29:P "Yard.take_off" = some ST
 c30:P "read_deed" = some S0
 c31:P "_law_cell_at" = some Sn
 c32:P "_law_mixed" = some Sd
 c33:P "_law_draws" = some So
 c34:P "_law_bridges" = some Sm
 c35:P "_law_tie" = some Si
 c36:P "_law_net" = some Se
 c37:P "_law_greatest" = some Su
 c38:P "_law_same" = some Sf
 c39:P "_law_ties_of" = some Sl
 c40:P "_law_turned" = some Sq
 c41:P "_law_best" = some Sk
 c42:P "_law_sent" = some Sg
 c43:P "_law_kept" = some Sc
 c44:P "_law_hears" = some Sb
 c45:P "_law_taken" = some Sh
 c46:P "_law_ages" = some Sj
 c47:P "law" = some Sw
theorem NW[I:Al P](q:B0 P n Sx [some a0] h Q X):wF P (n+1) "is_whole" [a0] h Q X:=Zc I.c0 rfl q
theorem Me[I:Al P](q:B0 P n Sr [some a0,some a1,none,none,none] h Q X):wF P (n+1) "neighbours" [a0,a1] h Q X:=Zc I.c1 rfl q
theorem Ab[I:Al P](q:B0 P n Sy [some a0,some a1] h Q X):wF P (n+1) "far_end" [a0,a1] h Q X:=Zc I.c2 rfl q
theorem Fp[I:Al P](q:B0 P n Sv [some a0,some a1] h Q X):wF P (n+1) "newer" [a0,a1] h Q X:=Zc I.c3 rfl q
theorem KU[I:Al P](q:B0 P n Sz [some a0,some a1,none] h Q X):wF P (n+1) "best_offer" [a0,a1] h Q X:=Zc I.c4 rfl q
theorem JY[I:Al P](q:B0 P n SW [some a0,some a1,some a2,some a3,some a4,none,none,none] h Q X):wF P (n+1) "Bridge.__init__" [a0,a1,a2,a3,a4] h Q X:=Zc I.c5 rfl q
theorem WX[I:Al P](q:B0 P n SM [some a0] h Q X):wF P (n+1) "Bridge.label" [a0] h Q X:=Zc I.c6 rfl q
theorem Ji[I:Al P](q:B0 P n SA [some a0] h Q X):wF P (n+1) "Bridge.stamp" [a0] h Q X:=Zc I.c7 rfl q
theorem J0[I:Al P](q:B0 P n SX [some a0,some a1] h Q X):wF P (n+1) "Bridge.held" [a0,a1] h Q X:=Zc I.c8 rfl q
theorem JQ[I:Al P](q:B0 P n SY [some a0,some a1,some a2,none] h Q X):wF P (n+1) "Bridge.hear" [a0,a1,a2] h Q X:=Zc I.c9 rfl q
theorem JR[I:Al P](q:B0 P n SC [some a0,none] h Q X):wF P (n+1) "Bridge.tick" [a0] h Q X:=Zc I.c10 rfl q
theorem Ym[I:Al P](q:B0 P n SN [some a0,none,none,none] h Q X):wF P (n+1) "Bridge.let_grow_older" [a0] h Q X:=Zc I.c11 rfl q
theorem YA[I:Al P](q:B0 P n SU [some a0,none,none,none,none,none,none,none] h Q X):wF P (n+1) "Bridge.reckon_label" [a0] h Q X:=Zc I.c12 rfl q
theorem Xg[I:Al P](q:B0 P n SB [some a0,some a1] h Q X):wF P (n+1) "Bridge.take_label" [a0,a1] h Q X:=Zc I.c13 rfl q
theorem YG[I:Al P](q:B0 P n SO [some a0,some a1,none,none,none,none,none,none] h Q X):wF P (n+1) "Bridge.letter_over" [a0,a1] h Q X:=Zc I.c14 rfl q
theorem YC[I:Al P](q:B0 P n SK [some a0,some a1,none] h Q X):wF P (n+1) "Bridge.is_rested_on" [a0,a1] h Q X:=Zc I.c15 rfl q
theorem YB[I:Al P](q:B0 P n SJ [some a0,some a1,none] h Q X):wF P (n+1) "Bridge.is_agreed_to" [a0,a1] h Q X:=Zc I.c16 rfl q
theorem Mh[I:Al P](q:B0 P n SZ [some a0,some a1] h Q X):wF P (n+1) "Bridge.end" [a0,a1] h Q X:=Zc I.c17 rfl q
theorem Nc[I:Al P](q:B0 P n SL [some a0,some a1,some a2,none] h Q X):wF P (n+1) "Yard.__init__" [a0,a1,a2] h Q X:=Zc I.c18 rfl q
theorem No[I:Al P](q:B0 P n SR [some a0] h Q X):wF P (n+1) "Yard.road" [a0] h Q X:=Zc I.c19 rfl q
theorem Ka[I:Al P](q:B0 P n SQ [some a0] h Q X):wF P (n+1) "Yard.labels" [a0] h Q X:=Zc I.c20 rfl q
theorem JW[I:Al P](q:B0 P n SS [some a0] h Q X):wF P (n+1) "Yard.stamps" [a0] h Q X:=Zc I.c21 rfl q
theorem JZ[I:Al P](q:B0 P n SD [some a0,some a1] h Q X):wF P (n+1) "Yard.bridge" [a0,a1] h Q X:=Zc I.c22 rfl q
theorem NM[I:Al P](q:B0 P n SH [some a0,some a1,none,none,none] h Q X):wF P (n+1) "Yard.ends" [a0,a1] h Q X:=Zc I.c23 rfl q
theorem J5[I:Al P](q:B0 P n SG [some a0,some a1,some a2] h Q X):wF P (n+1) "Yard.end_at" [a0,a1,a2] h Q X:=Zc I.c24 rfl q
theorem WU[I:Al P](q:B0 P n SI [some a0,some a1] h Q X):wF P (n+1) "Yard.has_tie" [a0,a1] h Q X:=Zc I.c25 rfl q
theorem NJ[I:Al P](q:B0 P n SF [some a0,some a1,none,none] h Q X):wF P (n+1) "Yard.deed" [a0,a1] h Q X:=Zc I.c26 rfl q
theorem Jd[I:Al P](q:B0 P n SV [some a0,some a1,none,none,none] h Q X):wF P (n+1) "Yard.tick_of" [a0,a1] h Q X:=Zc I.c27 rfl q
theorem MP[I:Al P](q:B0 P n SE [some a0,some a1,none,none,none,none] h Q X):wF P (n+1) "Yard.come" [a0,a1] h Q X:=Zc I.c28 rfl q
theorem Ws[I:Al P](q:B0 P n ST [some a0,some a1] h Q X):wF P (n+1) "Yard.take_off" [a0,a1] h Q X:=Zc I.c29 rfl q
theorem Np[I:Al P](q:B0 P n S0 [some a0,none] h Q X):wF P (n+1) "read_deed" [a0] h Q X:=Zc I.c30 rfl q
theorem J9[I:Al P](q:B0 P n Sn [some a0,some a1] h Q X):wF P (n+1) "_law_cell_at" [a0,a1] h Q X:=Zc I.c31 rfl q
theorem Nx[I:Al P](q:B0 P n Sd [some a0,some a1,none] h Q X):wF P (n+1) "_law_mixed" [a0,a1] h Q X:=Zc I.c32 rfl q
theorem Nf[I:Al P](q:B0 P n So [some a0,some a1,none,none,none,none] h Q X):wF P (n+1) "_law_draws" [a0,a1] h Q X:=Zc I.c33 rfl q
theorem JO[I:Al P](q:B0 P n Sm [some a0,none,none] h Q X):wF P (n+1) "_law_bridges" [a0] h Q X:=Zc I.c34 rfl q
theorem U6[I:Al P](q:B0 P n Si [some a0,some a1,some a2,none,none,none,none,none] h Q X):wF P (n+1) "_law_tie" [a0,a1,a2] h Q X:=Zc I.c35 rfl q
theorem Aw[I:Al P](q:B0 P n Se [some a0,some a1,none,none,none,none,none] h Q X):wF P (n+1) "_law_net" [a0,a1] h Q X:=Zc I.c36 rfl q
theorem JI[I:Al P](q:B0 P n Su [some a0,none] h Q X):wF P (n+1) "_law_greatest" [a0] h Q X:=Zc I.c37 rfl q
theorem Z4[I:Al P](q:B0 P n Sf [some a0,some a1,none] h Q X):wF P (n+1) "_law_same" [a0,a1] h Q X:=Zc I.c38 rfl q
theorem J8[I:Al P](q:B0 P n Sl [some a0,some a1,none,none,none] h Q X):wF P (n+1) "_law_ties_of" [a0,a1] h Q X:=Zc I.c39 rfl q
theorem KW[I:Al P](q:B0 P n Sq [some a0,some a1,none,none] h Q X):wF P (n+1) "_law_turned" [a0,a1] h Q X:=Zc I.c40 rfl q
theorem Oj[I:Al P](q:B0 P n Sk [some a0,some a1,some a2,none,none,none,none,none] h Q X):wF P (n+1) "_law_best" [a0,a1,a2] h Q X:=Zc I.c41 rfl q
theorem NY[I:Al P](q:B0 P n Sg [some a0,some a1,some a2,some a3,none,none,none,none,none,none,none] h Q X):wF P (n+1) "_law_sent" [a0,a1,a2,a3] h Q X:=Zc I.c42 rfl q
theorem NP[I:Al P](q:B0 P n Sc [some a0,some a1,some a2,none,none,none,none,none] h Q X):wF P (n+1) "_law_kept" [a0,a1,a2] h Q X:=Zc I.c43 rfl q
theorem Nm[I:Al P](q:B0 P n Sb [some a0,some a1,none] h Q X):wF P (n+1) "_law_hears" [a0,a1] h Q X:=Zc I.c44 rfl q
theorem MW[I:Al P](q:B0 P n Sh [some a0,some a1,some a2,some a3,none,none,none] h Q X):wF P (n+1) "_law_taken" [a0,a1,a2,a3] h Q X:=Zc I.c45 rfl q
theorem OH[I:Al P](q:B0 P n Sj [some a0,none,none,none,none,none] h Q X):wF P (n+1) "_law_ages" [a0] h Q X:=Zc I.c46 rfl q
theorem QM[I:Al P](q:B0 P n Sw [some a0,none,none,none,none,none,none,none,none,none,none,none,none] h Q X):wF P (n+1) "law" [a0] h Q X:=Zc I.c47 rfl q
local macro_rules|`(#[$x])=>`(.cons $x .nil)|`(#[$x,$y,*])=>`(.cons $x #[$y,*])
local macro_rules | `(tactic| walk_at "ne")=>`(tactic| first | assumption | (apply Ne.symm; assumption) | ((with_reducible apply ne_none'); (· assumption); (· walk_at "look")) | (apply Ne.symm; (with_reducible apply ne_none'); (· assumption); (· walk_at "look")))
local macro_rules | `(tactic| walk_at "look")=>`(tactic| first | assumption | with_reducible exact upd_same | ((with_reducible apply upd_ne'); (· walk_at "ne"); (· walk_at "look")) | ((with_reducible apply Ext.get); (· assumption); (· walk_at "look")) | ((with_reducible apply ExtB.get); (· assumption); (· walk_at "ne"); (· walk_at "look")))
local macro_rules | `(tactic| walk_at "ar")=>`(tactic| first | decide | omega | assumption | (simp only [Ì,Ħ]; decide))
local macro_rules | `(tactic| walk_at "mul")=>`(tactic| first | exact .inl (.inr<|by omega) | exact .inl (.inl<|by omega) | exact .inr ⟨by decide,by decide⟩)
local macro_rules | `(tactic| walk_at "setl")=>`(tactic| first | (simp only [ŏ,ξ,Δ,Ĵ,List.foldl_nil,Ϩ,ϩ]; done) | (simp only [ŏ,ξ,Δ,Ĵ,List.foldl_nil,Ϩ,ϩ]; exact rfl) | exact rfl)
local macro_rules | `(tactic| walk_at "w")=>`(tactic| with_reducible conv=>whnf)
local macro_rules | `(tactic| walk_at "py1")=>do
 let a<-[`dw0,`b_add,`b_sub,`g_int,`g_bl,`g_ref,`g_tbl,`c_lt,`c_gt,`c_le,`c_ge,`c_eqI,`c_neI,`c_eqS,`c_isN,`c_notN,`ag_add,`ln_scr,`ln_tup,`in_bl,`ls_tup,`sl_scr,`it_tup].toArray.mapM fun n=>`(tactic| refine $(Lean.mkIdent n) ?_)
 let c<-[`ln_lst,`tp_lst,`ls_lst,`sl_lst,`it_lst,`dc_of].toArray.mapM fun n=>`(tactic| ((with_reducible apply $(Lean.mkIdent n)); (· walk_at "look")))
 `(tactic| first
 |(with_reducible first $[| $a:tactic]*)
 |((with_reducible apply Qe);(· exact rfl))
 |((with_reducible apply Ie);(· walk_at "setl"))|((with_reducible apply Lg);(· (simp only[bindL,Ϩ,ϩ];exact rfl)))|((with_reducible apply b_mul);(· walk_at "mul"))|((with_reducible apply b_fdiv);(· walk_at "ar"))|((with_reducible apply b_mod);(· walk_at "ar"))|((with_reducible apply LE);(· walk_at "ar");(· simp only[Int.reduceToNat,Int.reducePow];exact rfl))|((with_reducible apply Mo);(· walk_at "look");(· walk_at "look");(· first|(simp only[aj,List.nil_append,Ì,Ħ];decide)|omega))|((with_reducible apply IX);(· walk_at "ar"))
 |((with_reducible apply ix_tup);(· exact rfl))|((with_reducible apply Zn);(· walk_at "look");(· exact rfl))
 |((with_reducible apply Z7);(· walk_at "look");(· walk_at "ar"))|((with_reducible apply G9);(· walk_at "look");(· exact rfl))|((with_reducible apply HS);(· walk_at "look");(· exact rfl))
 |((with_reducible apply CW);(· exact rfl))|((with_reducible apply sl_tup);(· decide))
 | ((with_reducible apply I0);(· first | exact .inl rfl | exact .inr (.inl rfl) | simp);(· walk_at "look")) | ((with_reducible apply Hv);(· first | exact rfl | simp);(· walk_at "look")) | ((with_reducible apply XN);(· walk_at "look");(· walk_at "ar")) | (first $[| $c:tactic]*))
local macro_rules | `(tactic| walk_at "py")=>`(tactic| ((repeat walk_at "py1"); walk_at "w"))
local macro_rules | `(tactic| walk_at "p")=>`(tactic| ((repeat first | walk_at "py1" | refine ifT rfl ?_ | refine ifF rfl ?_); walk_at "w"))
local macro_rules | `(tactic| exists $e)=>`(tactic| (walk_at "py"; refine $e ?_))
local macro_rules | `(tactic| refine' $e)=>`(tactic| (walk_at "py"; refine $e))
section
variable {α:Type}(val:α->Val)
noncomputable def Zy(kvs:List<|Int×α):List<|Val×Val:=kvs.map fun p=>(.int p.1,val p.2)
noncomputable def Z8(kvs:List<|Int×α)(k:Int)(v:α):List<|Int×α:=if(kvs.lookup k).isSome then kvs.map (fun p=>if p.1=k then(k,v)else p)else kvs++[(k,v)]
noncomputable def Xl(kvs:List<|Int×α)(k:Int):List<|Int×α:=kvs.filter fun p=>decide (p.1≠k)
variable {val}
theorem MB(a b:Int):(Val.int a==Val.int b)=decide (a=b):=by
 by_cases e:a=b
 .subst e;simp
 .rw[decide_eq_false e];exact beq_eq_false_iff_ne.mpr fun z=>e (by injection z)
theorem Yg(kvs:List<|Int×α)(k:Int):lookK (Zy val kvs) (.int k)=(kvs.lookup k).map val:=by
 induction kvs with
 |nil=>rfl
 |cons p r ih =>
  unfold lookK Zy at ih ⊢;rw[Ð,ć,ä,MB];by_cases e:p.1=k
  .have:(k==p.1)=true:=by simp[e]
   simp[e]
  .have h2:(k==p.1)=false:=by simpa using fun z=>e z.symm
   rw[decide_eq_false e,h2];exact ih
theorem AJ(kvs:List<|Int×α)(k:Int):hasK (Zy val kvs) (.int k)=(kvs.lookup k).isSome:=by
 induction kvs with
 |nil=>rfl
 |cons p r ih =>
  unfold hasK Zy at ih ⊢;rw[Ð,Ġ,ä,MB];by_cases e:p.1=k
  .simp[e]
  .have h2:(k==p.1)=false:=by simpa using fun z=>e z.symm
   rw[decide_eq_false e,h2];exact ih
theorem YZ(kvs:List<|Int×α)(k:Int)(v:α):putK (Zy val kvs) (.int k) (val v)=Zy val (Z8 kvs k v):=by
 unfold putK Z8;rw[AJ];split
 .unfold Zy;rw[ÿ,ÿ];refine Ā fun p _=>?_;simp only[bA,MB];by_cases e:p.1=k
  .simp[e]
  .simp[e]
 .unfold Zy;rw[Ü];rfl
theorem Ye(ns:List Int):intsOf (ns.map Val.int)=some ns:=by
 induction ns with
 |nil=>rfl
 |cons n ns ih=>show(intsOf<|ns.map Val.int).map _=_;rw[ih];rfl
theorem DH(kvs:List<|Int×α):keysOf (Zy val kvs)=some (kvs.map (·.1)):=by unfold keysOf Zy;rw[ÿ];exact(congrArg intsOf (ÿ (f:=fun p:Int×α=>p.1) (g:=Val.int) (l:=kvs)).symm).trans (Ye _)
theorem Oi(kvs:List<|Int×α):(Zy val kvs).length=kvs.length:=by unfold Zy;rw[Â]
variable {kvs:List (Int×α)}
theorem Yj{k:Int}{v:α}(h:kvs.lookup k=some v):(k,v)∈kvs:=by
 induction kvs with
 |nil=>cases h
 |cons p r ih =>
  rw[ä]at h;by_cases e:k=p.1
  .have:(k==p.1)=true:=by simp[e]
   rw[this]at h;cases h;rw[e];exact å
  .have:(k==p.1)=false:=by simpa using e
   rw[this]at h;exact Ô _<|ih h
theorem ZZ{k:Int}(h:k∈kvs.map (·.1)):∃v,kvs.lookup k=some v:=by
 induction kvs with
 |nil=>cases h
 |cons p r ih =>
  rw[ä];by_cases e:k=p.1
  .have:(k==p.1)=true:=by simp[e]
   rw[this];exact⟨_,rfl⟩
  .have:(k==p.1)=false:=by simpa using e
   rw[this];rw[Ð,Ç]at h;exact ih<|h.resolve_left e
theorem Aq{k:Int}(h:kvs.lookup k=none):k∉kvs.map (·.1):=fun m=>by obtain⟨v,e⟩:=ZZ m;rw[h]at e;cases e
theorem Yw(nd:(kvs.map (·.1)).Nodup){k:Int}{v:α}(h:(k,v)∈kvs):kvs.lookup k=some v:=by
 induction kvs with
 |nil=>cases h
 |cons p r ih =>
  rw[Ð,ě]at nd;rw[ä];rcases Ç.mp h with e|h
  .subst e;simp
  .have:k≠p.1:=fun z=>nd.1 (z▸ė (f:=(·.1)) h);have:(k==p.1)=false:=by simpa using this
   rw[this];exact ih nd.2 h
theorem NB(kvs:List<|Int×α)(k:Int)(v:α):(Z8 kvs k v).map (·.1)=if(kvs.lookup k).isSome then kvs.map (·.1)else kvs.map (·.1)++[k]:=by
 unfold Z8;split
 .rw[ÿ];refine Ā fun p _=>?_;simp only[bA];by_cases e:p.1=k<;>simp[e]
 .rw[Ü];rfl
theorem XS{k:Int}(v:α)(h:k∉kvs.map (·.1)):Z8 kvs k v=kvs++[(k,v)]:=by
 unfold Z8;have:kvs.lookup k=none:=by
  cases e:kvs.lookup k with
  |none=>rfl
  |some w=>exact absurd (ė (f:=(·.1))<|Yj e) h
 rw[this];rfl
theorem KA(nd:(kvs.map (·.1)).Nodup)(k:Int)(v:α):((Z8 kvs k v).map (·.1)).Nodup:=by
 rw[NB];split
 .exact nd
 .rename_i h;have h:kvs.lookup k=none:=Ϻ.mp h;rw[ê];refine⟨nd,by simp,fun a ha b hb=>?_⟩;rw[á.mp hb];exact fun e=>Aq h<|e▸ha
variable {p:Int×α}
theorem Mn{k:Int}{v:α}(h:p∈Z8 kvs k v):p=(k,v)\/p∈kvs:=by
 unfold Z8 at h;split at h
 .obtain⟨q,hq,e⟩:=Ò.mp h;split at e
  .exact .inl e.symm
  .exact .inr<|e▸hq
 .rcases é.mp h with h|h
  .exact .inr h
  .exact .inl<|á.mp h
theorem NN(kvs:List<|Int×α)(k:Int):(Xl kvs k).Sublist kvs:=ϡ
theorem Jv(nd:(kvs.map (·.1)).Nodup)(k:Int):((Xl kvs k).map (·.1)).Nodup:=nd.sublist ((NN kvs k).map _)
theorem FR{k:Int}(h:p∈Xl kvs k):p.1≠k:=by unfold Xl at h;have:=(ē.mp h).2;simpa using this
end
theorem YY:∀{m:Nat}{ns:List Int},ns.Nodup->(∀x∈ns,0<=x/\x<m)->ns.length<=m
 |0,ns,nd,h=>by
  cases ns with
  |nil=>exact Î _
  |cons x xs=>have:=h x å;omega
 |m+1,ns,nd,h=>by
  by_cases hm:(m:Int)∈ns
  .have:=YY (m:=m) (nd.erase (m:Int)) fun x hx=>by
    have h1:=(nd.mem_erase_iff).mp hx;have h2:=h x h1.2;have:=h1.1;omega
   rw[List.length_erase_of_mem hm]at this;omega
  .have:=YY (m:=m) nd fun x hx=>by
    have h2:=h x hx;have:x≠(m:Int):=fun e=>hm<|e▸hx;omega
   omega
noncomputable abbrev Pi:=Int×Int
noncomputable abbrev pV(p:Pi):Val:=.tup [.int p.1,.int p.2]
noncomputable def oV:Option Pi->Val
 |none=>.non
 |some p=>pV p
structure L where
 num:Pi
 st:Pi
 root:Int
 cost:Int
 age:Int
 rests:Option Pi
 agrees:Option Pi
noncomputable abbrev L.v(l:L):Val:=.tup [pV l.num,pV l.st,.int l.root,.int l.cost,.int l.age,oV l.rests,oV l.agrees]
noncomputable abbrev HQ(t:Int×Int):Val:=.tup [.int t.1,.int t.2]
noncomputable abbrev hdV(t:L×Int):Val:=.tup [t.1.v,.int t.2]
structure Lab where
 root:Int
 cost:Int
 up:Option<|Int×Pi
 deriving DecidableEq
noncomputable def upV:Option (Int×Pi)->Val
 |none=>.non
 |some p=>.int p.1
noncomputable def rsV:Option (Int×Pi)->Val
 |none=>.non
 |some p=>pV p.2
noncomputable abbrev Lab.v(l:Lab):Val:=.tup [.int l.root,.int l.cost,upV l.up,rsV l.up]
structure Br where
 number:Int
 life:Int
 most:Int
 ties:List<|Int×(Int×Int)
 held:List<|Int×(L×Int)
 label:Lab
 version:Int
 count:Int
noncomputable def Br.fs(B:Br)(t d:Ad):List<|String×Val:=[("number",.int B.number),("life",.int B.life),("age_let_go",.int B.most),("ties_by_place",.ref t),("held_by_place",.ref d),("label_now",B.label.v),("version",.int B.version),("ticks_had",.int B.count)]
structure BrAt(h:Hs)(b t d:Ad)(B:Br):Prop where
 ins:h b=some (.ins "Bridge" [("number",.int B.number),("life",.int B.life),("age_let_go",.int B.most),("ties_by_place",.ref t),("held_by_place",.ref d),("label_now",B.label.v),("version",.int B.version),("ticks_had",.int B.count)])
 ties:h t=some (.dct<|Zy HQ B.ties)
 held:h d=some (.dct<|Zy hdV B.held)
 ne:t≠d
variable {h:Hs} {b:Ad} {o:Ob}
theorem Wo{a:Ad}{u:Ob}(ha:h a=some o)(hb:h b=some u)(ne:o≠u):a≠b:=fun e=>by subst e;rw[ha]at hb;exact ne (ú hb)
variable {d:Ad} {B:Br}
theorem BrAt.nbt{t:Ad}(x:BrAt h b t d B):b≠t:=Wo x.ins x.ties nofun
theorem BrAt.nbd{t:Ad}(x:BrAt h b t d B):b≠d:=Wo x.ins x.held nofun
structure Ex(S:List Ad)(h g:Hs):Prop where
 get:∀{a:Ad}{o:Ob},a∉S->h a=some o->g a=some o
theorem Ex.refl{S:List Ad}:Ex S h h:=⟨fun _ e=>e⟩
variable {g:Hs}
theorem Ex.trans{k:Hs}{S:List Ad}(e:Ex S h g)(f:Ex S g k):Ex S h k:=⟨fun n x=>f.get n<|e.get n x⟩
theorem Ex.of{S:List Ad}(e:Ext h g):Ex S h g:=⟨fun _ x=>e.get x⟩
theorem Ex.upd{S:List Ad}{w:Ad}(m:w∈S):Ex S h<|upd h w o:=⟨fun{a _} n x=>by rw[upd_ne fun e:a=w=>n<|by rw[e];exact m];exact x⟩
theorem Ex.sub{S T:List Ad}(e:Ex S h g)(m:∀a∈S,a∈T):Ex T h g:=⟨fun n x=>e.get (fun z=>n<|m _ z) x⟩
theorem Ex.ext(e:Ex [] h g):Ext h g:=⟨fun x=>e.get (by simp) x⟩
variable {p:Ad}
theorem Ex.none(e:Ex [b] h g)(hb:g b≠none)(hp:g p=none):h p=none:=by
 cases z:h p with
 |none=>rfl
 |some o =>
  by_cases hpb:p=b
  .subst hpb;exact absurd hp hb
  .rw[e.get (by simpa using hpb) z]at hp;cases hp
theorem BrAt.keep{t:Ad}{S:List Ad}(x:BrAt h b t d B)(e:Ex S h g)(hb:b∉S)(ht:t∉S)(hd:d∉S):BrAt g b t d B:=⟨e.get hb x.ins,e.get ht x.ties,e.get hd x.held,x.ne⟩
theorem BrAt.ext{t:Ad}(x:BrAt h b t d B)(e:Ext h g):BrAt g b t d B:=⟨e.get x.ins,e.get x.ties,e.get x.held,x.ne⟩
theorem nw{Q:Q1}(q:∀p,h p=none->Q (.ref p) (upd h p o)):new h o Q:=YO q
noncomputable def ZF(most:Int)(held:List<|Int×(L×Int)):List<|Int×(L×Int):=held.filterMap fun p=>if p.2.2+1<most then some (p.1,(p.2.1,p.2.2+1))else none
variable {most:Int}
theorem Am{held:List (Int×(L×Int))}{p:Int×(L×Int)}(h:p∈ZF most held):∃a,(p.1,(p.2.1,a))∈held:=by
 obtain⟨q,hq,e⟩:=ν.mp h;split at e
 .cases e;exact⟨_,hq⟩
 .cases e
theorem W4(most:Int)(held:List<|Int×(L×Int)):((ZF most held).map (·.1)).Sublist (held.map (·.1)):=by
 unfold ZF;induction held with
 |nil=>exact List.Sublist.refl _
 |cons p r ih =>
  rw[Ć];split
  .exact ih.cons _
  .rename_i q e;split at e
   .cases e;exact ih.cons₂ _
   .cases e
theorem U9(most:Int)(held:List<|Int×(L×Int)):(ZF most held).length<=held.length:=bf _ _
theorem ZN{α β:Type}{f:α->β}:∀{xs:List α}{i:Nat}{q:α},(xs.map f).Nodup->xs[i]?=some q->f q∉(xs.take i).map f
 |[],_,_,_,h=>by simp at h
 |x::xs,0,_,_,_=>by simp
 |x::xs,i+1,q,nd,h=>by
  rw[Ð,ě]at nd;have h:xs[i]?=some q:=by simpa using h
  rw[ϣ,Ð,Ç,not_or];exact⟨fun e=>nd.1<|e▸ė (ì h),ZN nd.2 h⟩
variable {α:Type} {xs:List α} {i:Nat} {x:α}
theorem Zk(h:xs[i]?=some x):xs.take (i+1)=xs.take i++[x]:=by rw[ů,h];rfl
theorem ZE{f:α->Val}{v:Val}(h:(xs.map f)[i]?=some v):∃x,xs[i]?=some x/\v=f x:=by rw[Ù]at h;obtain⟨x,h1,h2⟩:=Ú.mp h;exact⟨x,h1,h2.symm⟩
variable {kvs:List (Int×α)}
theorem M7{val:α->Val}{v:Val}(h:((Zy val kvs).map<|itemOf false)[i]?=some v):∃p,kvs[i]?=some p/\v=.tup [.int p.1,val p.2]:=by obtain⟨q,h1,rfl⟩:=ZE h;unfold Zy at h1;rw[Ù]at h1;obtain⟨x,h2,rfl⟩:=Ú.mp h1;exact⟨x,h2,rfl⟩
theorem Go{val:α->Val}(kvs:List<|Int×α):((Zy val kvs).map<|itemOf false).length=kvs.length:=by rw[Â,Oi]
variable {P:Pg} [Al P] {n:Nat}{h:Hs}{w b t d st a f tt hh:Ad}{S B:Br}{c:Int}{all:List (Int×Int)}{ps:List Int}{Q:Q1}{X:XQ}
theorem Nv(x:BrAt h b t d B)(k:Q B.label.v h):wF P (n+1) "Bridge.label" [.ref b] h Q X:=by obtain⟨hi,ht,hd,ρ⟩:=x;refine WX ?_;refine' k
theorem YD(x:BrAt h b t d B)(k:Q (pV (B.life,B.version)) h):wF P (n+1) "Bridge.stamp" [.ref b] h Q X:=by obtain⟨hi,ht,hd,ρ⟩:=x;refine Ji ?_;refine' k
noncomputable def hdO:Option (L×Int)->Val
 |none=>.non
 |some p=>hdV p
theorem Xa{p:Int}(x:BrAt h b t d B)(k:Q (hdO<|B.held.lookup p) h):wF P (n+1) "Bridge.held" [.ref b,.int p] h Q X:=by
 obtain⟨hi,ht,hd,ρ⟩:=x;refine J0 ?_
 exists A0 (v:=.int p) hd rfl
 rw[Yg];cases e:B.held.lookup p with
 |none=>rw[e]at k;exact k
 |some q=>rw[e]at k;exact k
theorem Fi(x:BrAt h b t d B)(nd:(B.held.map (·.1)).Nodup)(hl:B.held.length<1000)(k:∀d' g,h d'=none->BrAt g b t d' {B with held:=ZF B.most B.held}->Ex [b] h g->Q .non g):wF P (n+1) "Bridge.let_grow_older" [.ref b] h Q X:=by
 obtain⟨hi,ht,hd,ρ⟩:=id x;refine Ym ?_;walk_at "py";intro p hp;have npd:=Za hd hp;have npb:=Za hi hp;have npt:=Za ht hp;have nbd:=x.nbd;refine' Zl (fun i e g=>∃u v,e=[some<|.ref b,some<|.ref p,u,v]/\g p=some (.dct<|Zy hdV<|ZF B.most<|B.held.take i)/\g d=some (.frz<|Zy hdV B.held)/\Ex [d] h g) ⟨none,none,rfl,by rw[upd_ne npd.symm];exact upd_same,upd_same,?_⟩ ?_ ?_ ?_
 .exact⟨fun m e=>by rw[upd_ne fun z=>m<|by simp[z],upd_ne<|Za e hp];exact e⟩
 .rintro i e g hi2 ⟨u,v,rfl,h1,h2,h3⟩;exact h2
 .rintro i v e g hv ⟨u,w,rfl,h1,h2,h3⟩ K hK;obtain⟨q,hq,rfl⟩:=M7 hv;have hi1:=h3.get (by simpa using nbd) hi;obtain⟨pl,l,a⟩:=q;have e1:ZF B.most (B.held.take<|i+1)=ZF B.most (B.held.take i)++ZF B.most [(pl,(l,a))]:=by
   unfold ZF;rw[Zk hq,List.filterMap_append]
  refine' ifP (fun hc=>?_) (fun hc=>?_)
  .refine' Wc (k:=.int pl) h1 ⟨rfl,?_⟩ ?_
   .rw[Oi];have h5:=U9 B.most<|B.held.take i;have h6:(B.held.take i).length<=B.held.length:=Ϛ _ _;exact ß (Ó h5 h6) (š hl<|by decide)
   walk_at "py";rw[show Val.tup [l.v,.int<|a+1]=hdV (l,a+1) from rfl,YZ];refine hK _ _ ⟨_,_,rfl,?_,?_,?_⟩
   .rw[upd_same,e1,XS]
    .unfold ZF;rw[Ć,if_pos hc];rfl
    .exact fun m=>ZN nd hq<|(W4 _ _).subset m
   .rw[upd_ne npd];exact h2
   .exact⟨fun m e=>by rw[upd_ne<|Za e hp];exact h3.get m e⟩
  .refine' hK _ _ ⟨_,_,rfl,?_,h2,h3⟩;rw[h1,e1];unfold ZF;rw[Ć,if_neg hc];simp
 .rintro e g ⟨u,v,rfl,h1,h2,h3⟩;have hi1:=h3.get (by simpa using nbd) hi;rw[Go,ó]at h1;refine⟨h2,?_⟩;refine' k p _ hp ⟨upd_same,?_,?_,npt⟩ ?_
  .rw[upd_ne x.nbt.symm,upd_ne ρ];exact h3.get (by simpa using ρ) ht
  .rw[upd_ne npb.symm,upd_ne npd.symm];exact h1
  .refine⟨fun{c o} m e=>?_⟩;rw[upd_ne<|by simpa using m];by_cases aE:c=d
   .subst aE;rw[upd_same,<-e];exact hd.symm
   .rw[upd_ne aE];exact h3.get (by simpa using aE) e
theorem Fw(x:α)(xs:List α):atI (x::xs) 0=some x:=by unfold atI ixN;rw[if_pos (by decide),if_pos<|by simp];rfl
noncomputable def Xi(r:List Int):Val:=.tup<|r.map .int
theorem Nr(ă:List<|List Int):rowsOf (ă.map Xi)=some ă:=by
 induction ă with
 |nil=>rfl
 |cons r rs ih =>show(intsOf<|r.map .int).bind (fun ns=>(rowsOf<|rs.map Xi).map (ns :: ·))=_;rw[Ye,ih];rfl
noncomputable def Yx(number:Int)(ă:List<|List Int):Option<|List Int:=match ă.filter (fun r=>decide (r.headD 0<number))with
 |[]=>none
 |x::r=>some<|minR x r
noncomputable def DZ:Option (List Int)->Val
 |none=>.non
 |some r=>Xi r
theorem XB:∀(r:List<|List Int) (x:List Int),minR x r∈x::r
 |[],x=>å
 |y::r,x=>by
  show minR (if lexI y x then y else x) r∈x::y::r;have h:=XB r (if lexI y x then y else x);rcases Ç.mp h with e|h
  .rw[e];split
   .simp
   .simp
  .simp[h]
variable {number:Int} {ă:List (List Int)}
theorem MO{m:List Int}(h:Yx number ă=some m):m∈ă:=by
 unfold Yx at h;split at h
 .cases h
 .rename_i x r e;cases h;have:minR x r∈ă.filter (fun r=>decide (r.headD 0<number)):=by rw[e];exact XB r x
  exact(ē.mp this).1
variable {l:Ad}
theorem FH(hl:h l=some (.lst<|ă.map Xi))(h0:∀r∈ă,r≠[])(hn:ă.length<1000)(k:∀g,Ext h g->Q (DZ<|Yx number ă) g):wF P (n+1) "best_offer" [.int number,.ref l] h Q X:=by
 refine KU ?_;refine' ⟨by rw[Â];exact š hn (by decide),?_⟩;refine Xf (fun v=>match v with|.tup (.int i::xs)=>if i<number then some v else none|_=>none) (lsE hl) ?_ ?_
 .intro v hv K hK;obtain⟨r,hr,rfl⟩:=Ò.mp hv;cases r with
  |nil=>exact absurd rfl<|h0 _ hr
  |cons i xs =>
   have hK:K (if i<number then some (Xi<|i::xs)else none) h:=hK;rw[show Xi (i::xs)=.tup (.int i::xs.map .int) from rfl]at hK ⊢
   exists ix_tup (Fw _ _)
   refine' ifP (fun hc=>?_) (fun hc=>?_)
   .rw[if_pos hc]at hK;refine' hK
   .rw[if_neg hc]at hK;exact hK
 .refine YO fun p hp=>?_;walk_at "py";have e1:(ă.map Xi).filterMap (fun v=>match v with|.tup (.int i::xs)=>if i<number then some v else none|_=>none)=(ă.filter fun r=>decide (r.headD 0<number)).map Xi:=by
   clear hl k hn;induction ă with
   |nil=>rfl
   |cons r rs ih =>
    have ih:=ih fun r hr=>h0 r<|Ô _ hr;cases r with
    |nil=>exact absurd rfl<|h0 _ å
    |cons i xs =>
     rw[Ð,Ć,Ş];by_cases hc:i<number
     .simp only[Xi,Ð,if_pos hc,List.headD_cons,hc,decide_true,if_true]at ih ⊢;rw[ih]
     .simp only[Xi,Ð,if_neg hc,List.headD_cons,hc,decide_false,ċ,if_false]at ih ⊢;rw[ih]
  rw[e1];have hx:Ext h<|upd h p<|.lst<|(ă.filter fun r=>decide (r.headD 0<number)).map Xi:=Ext.new hp;cases e2:ă.filter fun r=>decide (r.headD 0<number)with
  |nil =>rw[e2]at hx;refine LD upd_same ?_;have:=k _ hx;unfold Yx at this;rw[e2]at this;exact this
  |cons x r =>rw[e2]at hx;refine FS upd_same (Nr<|x::r) ?_;have:=k _ hx;unfold Yx at this;rw[e2]at this;exact this
noncomputable def YE(ties:List<|Int×(Int×Int))(p:Int):Int×Int:=(ties.lookup p).getD (0,0)
noncomputable def JE(ties:List<|Int×(Int×Int))(q:Int×(L×Int)):List Int:=[q.2.1.root,q.2.1.cost+(YE ties q.1).2,(YE ties q.1).1,q.1]
noncomputable def X6(ties:List<|Int×(Int×Int))(held:List<|Int×(L×Int)):List<|List Int:=held.map<|JE ties
noncomputable def OG(held:List<|Int×(L×Int))(p:Int):Pi:=((held.lookup p).map (·.1.st)).getD (0,0)
noncomputable def Z2(B:Br):Lab:=match Yx B.number (X6 B.ties B.held)with
 |none=>⟨B.number,0,none⟩
 |some m=>⟨m.getD 0 0,m.getD 1 0,some (m.getD 3 0,OG B.held<|m.getD 3 0)⟩
theorem GG{ties:List (Int×(Int×Int))}{p:Int}(h:(ties.lookup p).isSome=true):ties.lookup p=some (YE ties p):=by
 unfold YE;cases e:ties.lookup p with
 |none=>rw[e]at h;cases h
 |some v=>rfl
theorem UZ(x:BrAt h b t d B)(sub:∀q∈B.held,(B.ties.lookup q.1).isSome=true)(hn:B.held.length<1000)(k:∀g,Ext h g->Q (Z2 B).v g):wF P (n+2) "Bridge.reckon_label" [.ref b] h Q X:=by
 obtain⟨hi,ht,hd,ρ⟩:=id x;refine YA ?_;refine' YO fun p hp=>?_;have npd:=Za hd hp;have npb:=Za hi hp;have npt:=Za ht hp;have nbd:=x.nbd;refine' Zl (fun i e g=>∃u v w z,e=[some<|.ref b,some<|.ref p,u,v,w,z,none,none]/\g p=some (.lst<|(X6 B.ties<|B.held.take i).map Xi)/\g d=some (.frz<|Zy hdV B.held)/\Ex [d] h g) ⟨none,none,none,none,rfl,by rw[upd_ne npd.symm];exact upd_same,upd_same,?_⟩ ?_ ?_ ?_
 .exact⟨fun m e=>by rw[upd_ne fun z=>m<|by simp[z],upd_ne<|Za e hp];exact e⟩
 .rintro i e g hi2 ⟨u,v,w,z,rfl,h1,h2,h3⟩;exact h2
 .rintro i v e g hv ⟨u,v,w,z,rfl,h1,h2,h3⟩ K hK;obtain⟨q,hq,rfl⟩:=M7 hv;have hi1:=h3.get (by simpa using nbd) hi;have ht1:=h3.get (by simpa using ρ) ht;have hs:=GG<|sub q<|ì hq;obtain⟨pl,l,a⟩:=q;generalize htt:YE B.ties pl=tt at hs;obtain⟨nb,c⟩:=tt;refine' ZV ht1 rfl (by rw[Yg,hs];rfl) ?_;refine' XN h1 ?_ ?_
  .rw[Â];unfold X6;rw[Â];exact ß (Ϛ _ _) (š hn<|by decide)
  dsimp only;refine' hK _ _ ⟨_,_,_,_,rfl,?_,?_,?_⟩
  .rw[upd_same,Zk hq];unfold X6 JE;rw[Ü,Ü,Ð,htt];rfl
  .rw[upd_ne npd];exact h2
  .exact⟨fun m e=>by rw[upd_ne<|Za e hp];exact h3.get m e⟩
 .rintro e g ⟨u,v,w,z,rfl,h1,h2,h3⟩;have hi1:=h3.get (by simpa using nbd) hi;have hi2:upd g d (.dct<|Zy hdV B.held) b=_:=upd_ne' nbd hi1;rw[Go,ó]at h1;have h1':upd g d (.dct<|Zy hdV B.held) p=_:=upd_ne' npd.symm h1;have hx:Ext h<|upd g d<|.dct<|Zy hdV B.held:=⟨fun{c o} e=>by
    by_cases aE:c=d
    . subst aE;rw[upd_same,<-e];exact hd.symm
    . rw[upd_ne aE];exact h3.get (by simpa using aE) e⟩
  have bP:upd g d (.dct<|Zy hdV B.held) d=_:=upd_same;refine⟨h2,?_⟩;generalize upd g d (.dct<|Zy hdV B.held)=g2 at hi2 h1' hx bP ⊢;refine' FH h1' ?_ ?_ fun g3 h3=>?_
  .intro r hr;unfold X6 at hr;obtain⟨q,_,rfl⟩:=Ò.mp hr;unfold JE;simp
  .unfold X6;rw[Â];exact hn
  have hi3:=h3.get hi2;have hd3:=h3.get bP;have kk:=k g3<|hx.trans h3;unfold Z2 at kk;walk_at "py";cases e:Yx B.number (X6 B.ties B.held)with
  |none =>rw[e]at kk;simp only[DZ];refine ifP (fun hc=>?_) fun hc=>absurd trivial hc;refine' kk
  |some m =>rw[e]at kk;have hm:=MO e;unfold X6 at hm;obtain⟨q,hq,rfl⟩:=Ò.mp hm;refine ifP (fun hc=>(by simp[DZ,Xi]at hc)) fun hc=>?_;have hlk:∃y,B.held.lookup q.1=some y:=ZZ (ė (f:=(·.1)) hq);obtain⟨y,hy⟩:=hlk;unfold JE at kk ⊢;simp only[DZ,Xi,Ð,Χ];refine' ZV hd3 rfl (by rw[Yg,hy];rfl) ?_;walk_at "py";unfold OG at kk;simp only[List.getD_cons_succ,List.getD_cons_zero]at kk;rw[hy]at kk;exact kk
noncomputable def EE(l:Lab):D:=.tup [.int l.root,.int l.cost,(match l.up with|none=>.non|some p=>.int p.1),(match l.up with|none=>.non|some p=>.tup [.int p.2.1,.int p.2.2])]
theorem O3(h:Hs)(l:Lab):dat h deep l.v=some (EE l):=by obtain⟨r,c,u⟩:=l;cases u<;>rfl
theorem GS(h:Hs)(l m:Lab):eqV h l.v m.v=some (decide (l=m)):=by
 unfold eqV;rw[O3,O3];show some (D.eqv (EE l)<|EE m)=_;congr 1;obtain⟨r,c,u⟩:=l;obtain⟨r',c',u'⟩:=m;unfold EE;cases u with
 |none=>cases u' with
  |none=>simp only[D.eqv,D.eqvs,ϥ];by_cases h1:r=r'<;>by_cases h2:c=c'<;>simp[h1,h2]
  |some q=>simp[D.eqv,D.eqvs]
 |some p=>cases u' with
  |none=>simp[D.eqv,D.eqvs]
  |some q =>obtain⟨p1,p2,p3⟩:=p;obtain⟨q1,q2,q3⟩:=q;simp only[D.eqv,D.eqvs,ϥ];by_cases h1:r=r'<;>by_cases h2:c=c'<;>by_cases h3:p1=q1<;>by_cases h4:p2=q2<;>by_cases h5:p3=q3<;>simp[h1,h2,h3,h4,h5]
noncomputable def taken(B:Br)(l:Lab):Br:=if l=B.label then B else {B with label:=l,version:=B.version+1}
variable {u:Val} {KB:Bool->Prop}
theorem Uz{v:Val}{c:Bool}(e:eqV h v u=some c)(q:KB (!c)):go (cmpV h .ne v u) KB:=go_of (by show(eqV h v u).map _=_;rw[e];rfl) q
theorem Kf{v:Val}{c:Bool}(e:eqV h v u=some c)(q:KB c):go (cmpV h .eq v u) KB:=go_of e q
theorem Eb{l:Lab}(x:BrAt h b t d B)(k:∀g,BrAt g b t d (taken B l)->Ex [b] h g->Q .non g):wF P (n+1) "Bridge.take_label" [.ref b,l.v] h Q X:=by
 obtain⟨hi,ht,hd,ρ⟩:=id x;refine Xg ?_
 exists Uz (GS h l B.label)
 walk_at "py";unfold taken at k;refine DM (fun hc=>?_) fun hc=>?_
 .rw[if_neg hc]at k;refine' Z7 upd_same (show(8:Nat)<900 by decide) ?_;refine' k _ ⟨?_,?_,?_,ρ⟩ ?_
  .rw[upd_upd,upd_same];rfl
  .rw[upd_ne x.nbt.symm,upd_ne x.nbt.symm];exact ht
  .rw[upd_ne x.nbd.symm,upd_ne x.nbd.symm];exact hd
  .exact(Ex.upd<|by simp).trans (Ex.upd<|by simp)
 .rw[if_pos hc]at k;refine' k h x Ex.refl
theorem Ql(h:Hs)(r:Option Pi)(s:Pi):eqV h (oV r) (pV s)=some (decide (r=some s)):=by
 obtain⟨s1,s2⟩:=s;cases r with
 |none =>show some (D.eqv .non<|.tup [.int s1,.int s2])=_;simp[D.eqv]
 |some p =>obtain⟨p1,p2⟩:=p;show some (D.eqv (.tup [.int p1,.int p2])<|.tup [.int s1,.int s2])=_;congr 1;simp only[D.eqv,D.eqvs,ϥ];by_cases h1:p1=s1<;>by_cases h2:p2=s2<;>simp[h1,h2]
noncomputable def Xq(B:Br)(p:Int):Bool:=match B.held.lookup p with
 |none=>false
 |some q=>decide (q.1.rests=some (B.life,B.version))
theorem Kg{p:Int}(x:BrAt h b t d B)(k:Q (.bl<|Xq B p) h):wF P (n+2) "Bridge.is_rested_on" [.ref b,.int p] h Q X:=by
 obtain⟨hi,ht,hd,ρ⟩:=id x;refine YC ?_
 exists Xa x
 unfold Xq at k;walk_at "py";cases e:B.held.lookup p with
 |none =>rw[e]at k;refine DM (fun hc=>absurd rfl hc) fun hc=>?_;exact k
 |some q =>
  rw[e]at k;obtain⟨l,a⟩:=q;refine DM (fun hc=>?_) (fun hc=>by simp[hdO]at hc);simp only[hdO]
  exists YD x
  refine Kf (Ql h _ _) ?_;exact k
noncomputable def Cb(u:Option<|Int×Pi)(p:Int):Bool:=match u with
 |none=>false
 |some q=>decide (p=q.1)
noncomputable def Wq(B:Br):Int:=match B.label.up with
 |none=>0
 |some q=>((B.held.lookup q.1).map (·.2)).getD 0+1
noncomputable def Zq(B:Br)(p:Int):L where
 num:=(B.life,B.count)
 st:=(B.life,B.version)
 root:=B.label.root
 cost:=B.label.cost
 age:=Wq B
 rests:=if Cb B.label.up p then B.label.up.map (·.2)else none
 agrees:=if Cb B.label.up p then none else if Xq B p then some (OG B.held p)else none
theorem CT(h:Hs)(p:Int)(u:Option<|Int×Pi):eqV h (.int p) (upV u)=some (Cb u p):=by
 cases u with
 |none=>rfl
 |some q =>show some (D.eqv (.int p)<|.int q.1)=_;rw[UB];rfl
theorem DW{p:Int}(x:BrAt h b t d B)(hu:∀q,B.label.up=some q->(B.held.lookup q.1).isSome=true)(k:Q (Zq B p).v h):wF P (n+3) "Bridge.letter_over" [.ref b,.int p] h Q X:=by
 obtain⟨hi,ht,hd,ρ⟩:=id x;refine YG ?_;walk_at "py";have main:wSs (wF P<|n+2) #[.ite (.val<|.cmp .eq (.var 1)<|.var 4) #[.ret<|.bin .add (.var 7)<|.tup #[.var 5,.cst .non]] .nil,.ite (.val<|.meth "Bridge" "is_rested_on" (.var 0) #[.var 1]) #[.ret<|.bin .add (.var 7)<|.tup #[.cst .non,.idx (.idx (.idx (.fld (.var 0) "held_by_place")<|.var 1)<|.cst<|.int 0)<|.glob "STAMP"<|.int 1]] .nil,.ret<|.bin .add (.var 7)<|.tup #[.cst .non,.cst .non]]
   [some<|.ref b,some<|.int p,some<|.int B.label.root,some<|.int B.label.cost,some<|upV B.label.up,some<|rsV B.label.up,some<|.int<|Wq B,some<|.tup [pV (B.life,B.count),pV (B.life,B.version),.int B.label.root,.int B.label.cost,.int<|Wq B]] h (fun _ g=>Q .non g) Q (fun _ _=>False) (fun _ _=>False) fun _ c g=>X c g:=by
  exists Kf (CT h p B.label.up)
  refine' ifD (fun hc=>?_) (fun hc=>?_)
  .walk_at "py";unfold Zq at k;rw[hc]at k;cases e:B.label.up with
   |none=>rw[e]at hc;cases hc
   |some q=>rw[e]at k;exact k
  .exists Kg x
   walk_at "py";unfold Zq at k;rw[hc]at k;refine ifD (fun hr=>?_) fun hr=>?_
   .rw[hr]at k;unfold Xq at hr;cases e:B.held.lookup p with
    |none=>rw[e]at hr;cases hr
    |some q =>obtain⟨l,a⟩:=q;refine' ZV hd rfl (by rw[Yg,e];rfl) ?_;walk_at "py";unfold OG at k;rw[e]at k;exact k
   .rw[hr]at k;refine' k
 cases e:B.label.up with
 |none =>
  have ea:Wq B=0:=by unfold Wq;rw[e]
  rw[e,ea]at main;refine ifP (fun hc=>?_) fun hc=>absurd rfl hc
  exists YD x
  walk_at "w"
  repeat (first|exact main|(walk_at "py1";walk_at "w"))
 |some q =>
  obtain⟨y,hy⟩:=Č.mp<|hu q e;have ea:Wq B=y.2+1:=by unfold Wq;rw[e];dsimp only;rw[hy];rfl
  rw[e,ea]at main;refine ifP (fun hc=>by cases hc) fun hc=>?_;simp only[upV];refine' ZV hd rfl (by rw[Yg,hy];rfl) ?_
  exists YD x
  walk_at "w"
  repeat (first|exact main|(walk_at "py1";walk_at "w"))
variable {q:Int×Pi}
theorem Uk(hq:(Z2 B).up=some q):(B.held.lookup q.1).isSome=true:=by
 unfold Z2 at hq;split at hq
 .cases hq
 .rename_i m e;have hm:=MO e;unfold X6 at hm;obtain⟨y,hy,rfl⟩:=Ò.mp hm;cases hq;obtain⟨v,hv⟩:=ZZ (ė (f:=(·.1)) hy);show(B.held.lookup y.1).isSome=true;rw[hv];rfl
noncomputable def Br.grown(B:Br):Br:={B with held:=ZF B.most B.held}
noncomputable def Br.told(B:Br):Br:=taken B.grown<|Z2 B.grown
noncomputable def Br.ticked(B:Br):Br:={B.told with count:=B.count+1}
noncomputable def ZQ(B:Br):List Val:=(sortI (B.ties.map (·.1))).map fun p=>.tup [.int p,(Zq B p).v]
theorem ZO(B:Br)(l:Lab):(taken B l).held=B.held/\(taken B l).ties=B.ties/\(taken B l).count=B.count/\(taken B l).label=l/\(taken B l).number=B.number/\(taken B l).life=B.life/\(taken B l).most=B.most:=by
 unfold taken;split
 .rename_i e;exact⟨rfl,rfl,rfl,e.symm,rfl,rfl,rfl⟩
 .exact⟨rfl,rfl,rfl,rfl,rfl,rfl,rfl⟩
structure Br.ok(B:Br):Prop where
 nd:(B.held.map (·.1)).Nodup
 sub:∀q∈B.held,(B.ties.lookup q.1).isSome=true
 nt:(B.ties.map (·.1)).Nodup
 rg:∀q∈B.ties,0<=q.1/\q.1<16
theorem Br.ok.tlen(o:B.ok):B.ties.length<=16:=by
 have:=YY (m:=16) o.nt fun x hx=>by obtain⟨q,hq,rfl⟩:=Ò.mp hx;exact o.rg q hq
 simpa using this
theorem Br.ok.hlen(o:B.ok):B.held.length<=16:=by
 have:=YY (m:=16) o.nd fun x hx=>by obtain⟨q,hq,rfl⟩:=Ò.mp hx;obtain⟨v,hv⟩:=Č.mp<|o.sub q hq;exact o.rg _<|Yj hv
 simpa using this
theorem Br.ok.grown(o:B.ok):B.grown.ok where
 nd:=o.nd.sublist<|W4 _ _
 sub:=fun q hq=>by obtain⟨a,ha⟩:=Am hq;exact o.sub (q.1,(q.2.1,a)) ha
 nt:=o.nt
 rg:=o.rg
theorem Br.ok.told(o:B.ok):B.told.ok:=by
 obtain⟨h1,h2,_⟩:=ZO B.grown<|Z2 B.grown;have g:=o.grown;refine⟨?_,?_,?_,?_⟩
 .show((taken B.grown<|Z2 B.grown).held.map (·.1)).Nodup;rw[h1];exact g.nd
 .show ∀q∈(taken B.grown<|Z2 B.grown).held,((taken B.grown<|Z2 B.grown).ties.lookup q.1).isSome=true;rw[h1,h2];exact g.sub
 .show((taken B.grown<|Z2 B.grown).ties.map (·.1)).Nodup;rw[h2];exact g.nt
 .show ∀q∈(taken B.grown<|Z2 B.grown).ties,_;rw[h2];exact g.rg
theorem Br.ok.ticked(o:B.ok):B.ticked.ok:=⟨o.told.nd,o.told.sub,o.told.nt,o.told.rg⟩
theorem DT(x:BrAt h b t d B)(o:B.ok)(k:∀p d' g,h p=none->h d'=none->BrAt g b t d' B.ticked->g p=some (.lst<|ZQ B.told)->Ex [b] h g->p≠d'->Q (.ref p) g):wF P (n+4) "Bridge.tick" [.ref b] h Q X:=by
 obtain⟨hi,ht,hd,ρ⟩:=id x;have hlen:=o.hlen;refine JR ?_;refine' Fi x o.nd (by omega) fun d' g hd' x1 e1=>?_;obtain⟨hi1,ht1,hd1,hne1⟩:=id x1;have og:=o.grown;have x1':BrAt g b t d' B.grown:=x1;refine' UZ x1' og.sub (by have:=og.hlen;omega) fun g2 e2=>?_;have x2:=x1'.ext e2;refine' Eb x2 fun g3 x3 e3=>?_;obtain⟨hi3,ht3,hd3,hne3⟩:=id x3;obtain⟨c1,c2,c3,c4,c5,c6,c7⟩:=ZO B.grown<|Z2 B.grown;have hties:B.told.ties=B.ties:=c2;refine' N8 ht3 (DH _) ?_ (YO fun p1 bE=>?_)
 .rw[Â];have:=o.tlen;show B.told.ties.length<64;rw[hties];omega
 refine' ⟨?_,?_⟩
 .rw[Â,sortI,ŕ,Â];have:=o.tlen;show B.told.ties.length<lim;rw[hties];exact ß this (by decide)
 have x4:=x3.ext (Ext.new (o:=.lst ((sortI ((taken B.grown<|Z2 B.grown).ties.map (·.1))).map Val.int)) bE);have up:∀q,(taken B.grown<|Z2 B.grown).label.up=some q->((taken B.grown<|Z2 B.grown).held.lookup q.1).isSome=true:=fun q hq=>by rw[c4]at hq;rw[c1];exact Uk hq
 refine Xf (fun v=>match v with|.int i=>some (.tup [.int i,(Zq B.told i).v])|_=>none) (lsE upd_same) ?_ ?_
 .intro v hv K hK;obtain⟨i,hi,rfl⟩:=Ò.mp hv;obtain⟨hi4,ht4,hd4,hne4⟩:=id x4;walk_at "py";rw[if_pos rfl];change wE _ _ [some<|.int i,some<|.ref b] _ _ _
  exists DW x4 up
  refine' hK
 .refine YO fun p hp=>?_;have x5:=x4.ext<|Ext.new (o:=.lst<|ZQ B.told) hp;have e0:((sortI ((taken B.grown<|Z2 B.grown).ties.map (·.1))).map Val.int).filterMap (fun v=>match v with|.int i=>some (.tup [.int i,(Zq B.told i).v])|_=>none)=ZQ B.told:=by
   rw[ο];unfold ZQ;exact congrFun (List.filterMap_eq_map (f:=fun i:Int=>Val.tup [.int i,(Zq B.told i).v])) _
  rw[e0];obtain⟨hi5,ht5,hd5,hne5⟩:=id x5;walk_at "py";have c3':(taken B.grown<|Z2 B.grown).count=B.count:=c3;rw[c3'];have eg:Ex [b] h (upd g3 p1 (.lst ((sortI ((taken B.grown<|Z2 B.grown).ties.map (·.1))).map Val.int))):=((e1.trans<|.of e2).trans e3).trans<|.of<|Ext.new bE;have hpn:h p=none:=eg.none (by rw[x4.ins];intro z;cases z) hp;have npb:b≠p:=Za x4.ins hp;refine k p d' _ hpn hd' ⟨upd_same,?_,?_,x5.ne⟩ ?_ ?_ (Za x4.held hp).symm
  .rw[upd_ne x5.nbt.symm];exact x5.ties
  .rw[upd_ne x5.nbd.symm];exact x5.held
  .rw[upd_ne npb.symm];exact upd_same
  .exact(eg.trans<|.of<|Ext.new hp).trans (Ex.upd<|by simp)
noncomputable def ZJ(S:Br)(p:Int)(l:L):Bool:=match S.held.lookup p with
 |none=>true
 |some q=>lexI [q.1.num.1,q.1.num.2] [l.num.1,l.num.2]
noncomputable def Zw(S:Br)(p:Int)(l:L):Br:=if(S.ties.lookup p).isSome then(if ZJ S p l then {S with held:=Z8 S.held p (l,l.age)} else S)else S
noncomputable def Qj(S:Br)(p:Int):Br:={S with ties:=Xl S.ties p,held:=Xl S.held p}
noncomputable def upB(S:Br)(p:Int)(c:Int×Int):Br:=if(S.ties.lookup p).isSome then S else {S with ties:=Z8 S.ties p c}
theorem B7{k:Int}{v:α}{q:Int}:(kvs.lookup q).isSome=true->((Z8 kvs k v).lookup q).isSome=true:=fun h=>by
 obtain⟨x,hx⟩:=Č.mp h;have hm:q∈kvs.map (·.1):=ė (f:=(·.1))<|Yj hx;have:q∈(Z8 kvs k v).map (·.1):=by
  rw[NB];split
  .exact hm
  .exact â _ hm
 obtain⟨y,hy⟩:=ZZ this;rw[hy];rfl
theorem Br.ok.heard(o:S.ok){p:Int}{l:L}:(Zw S p l).ok:=by
 unfold Zw;split
 .rename_i h1;split
  .refine⟨KA o.nd _ _,fun q hq=>?_,o.nt,o.rg⟩;rcases Mn hq with e|hq
   .rw[e];exact h1
   .exact o.sub q hq
  .exact o
 .exact o
theorem MR{k:Int}{q:Int×α}(h:q∈Xl kvs k):q∈kvs:=(NN kvs k).subset h
theorem U5{k q:Int}(h:(kvs.lookup q).isSome=true)(n:q≠k):((Xl kvs k).lookup q).isSome=true:=by
 obtain⟨x,hx⟩:=Č.mp h;have:q∈(Xl kvs k).map (·.1):=by refine Ò.mpr ⟨(q,x),?_,rfl⟩;unfold Xl;exact ē.mpr ⟨Yj hx,by simpa using n⟩
 obtain⟨y,hy⟩:=ZZ this;rw[hy];rfl
theorem Br.ok.down(o:S.ok)(p:Int):(Qj S p).ok :=
 ⟨Jv o.nd _,fun q hq=>U5 (o.sub q<|MR hq)<|FR hq,Jv o.nt _,fun q hq=>o.rg q<|MR hq⟩
theorem Br.ok.up(o:S.ok){p:Int}{c:Int×Int}(h0:0<=p)(h1:p<16):(upB S p c).ok:=by
 unfold upB;split
 .exact o
 .refine⟨o.nd,fun q hq=>B7<|o.sub q hq,KA o.nt _ _,fun q hq=>?_⟩;rcases Mn hq with e|hq
  .rw[e];exact⟨h0,h1⟩
  .exact o.rg q hq
theorem ED{p:Int}{l:L}(x:BrAt h b t d B)(o:B.ok)(k:∀g,BrAt g b t d (Zw B p l)->Ex [d] h g->Q .non g):wF P (n+2) "Bridge.hear" [.ref b,.int p,l.v] h Q X:=by
 obtain⟨hi,ht,hd,ρ⟩:=id x;have hlen:=o.hlen;refine JQ ?_
 exists UC ht rfl
 rw[AJ];walk_at "py";unfold Zw at k;cases e:(B.ties.lookup p).isSome with
 |false =>rw[e]at k;refine ifT rfl ?_;refine' k h x Ex.refl
 |true =>
  rw[e,if_pos rfl]at k;refine ifF rfl ?_
  exists Xa x
  have put:(∀g,BrAt g b t d {B with held:=Z8 B.held p (l,l.age)}->Ex [d] h g->Q .non g)->go (putV h (.ref d) (.int p)<|.tup [l.v,.int l.age]) fun g=>Q .non g:=fun k=>by refine Wc hd ⟨rfl,by rw[Oi];exact ß hlen<|by decide⟩ ?_;rw[show Val.tup [l.v,.int l.age]=hdV (l,l.age) from rfl,YZ];exact k _ ⟨by rw[upd_ne x.nbd];exact hi,by rw[upd_ne ρ];exact ht,upd_same,ρ⟩ (Ex.upd<|by simp)
  walk_at "py";cases e2:B.held.lookup p with
  |none =>
   have et:ZJ B p l=true:=by unfold ZJ;rw[e2]
   rw[et,if_pos rfl]at k;refine ifP (fun hc=>?_) fun hc=>absurd rfl hc;refine ifT rfl ?_;refine' WB (put k) fun g q=>by walk_at "py";exact q
  |some q =>
   obtain⟨m,ag⟩:=q;have et:ZJ B p l=lexI [m.num.1,m.num.2] [l.num.1,l.num.2]:=by unfold ZJ;rw[e2]
   rw[et]at k;refine ifP (fun hc=>by simp[hdO]at hc) fun hc=>?_;simp only[hdO]
   exists Fp
   exists He (Ye [l.num.1,l.num.2]) (Ye [m.num.1,m.num.2])
   refine' ifD (fun hc=>?_) (fun hc=>?_)
   .rw[if_pos hc]at k;refine' WB (put k) fun g q=>by walk_at "py";exact q
   .rw[if_neg<|by rw[hc];decide]at k;refine' k h x Ex.refl
theorem RZ(h:Hs)(s:Pi)(u:Option<|Int×Pi):eqV h (pV s) (rsV u)=some (decide (u.map (·.2)=some s)):=by
 obtain⟨s1,s2⟩:=s;cases u with
 |none =>show some (D.eqv (.tup [.int s1,.int s2]) .non)=_;simp[D.eqv]
 |some p =>
  obtain⟨p0,p1,p2⟩:=p;show some (D.eqv (.tup [.int s1,.int s2])<|.tup [.int p1,.int p2])=_;congr 1;simp only[D.eqv,D.eqvs,ϥ,Ľ];by_cases h1:s1=p1
  .subst h1;by_cases h2:s2=p2
   .subst h2;simp
   .have h3:¬ p2=s2:=fun z=>h2 z.symm;simp[h2,h3]
  .have h3:¬ p1=s1:=fun z=>h1 z.symm;simp[h1,h3]
noncomputable def Jj(B:Br)(p:Int):Bool:=match B.held.lookup p with
 |none=>false
 |some q=>if q.1.agrees=some (B.life,B.version)then decide (B.label.up.map (·.2)=some q.1.st)else false
theorem AI{p:Int}(x:BrAt h b t d B)(k:Q (.bl<|Jj B p) h):wF P (n+2) "Bridge.is_agreed_to" [.ref b,.int p] h Q X:=by
 obtain⟨hi,ht,hd,ρ⟩:=id x;refine YB ?_
 exists Xa x
 unfold Jj at k;walk_at "py";cases e:B.held.lookup p with
 |none =>rw[e]at k;refine ifP (fun hc=>?_) fun hc=>absurd rfl hc;refine ifT rfl ?_;refine' k
 |some q =>
  rw[e]at k;obtain⟨l,a⟩:=q;refine ifP (fun hc=>by simp[hdO]at hc) fun hc=>?_;simp only[hdO]
  exists YD x
  refine Uz (Ql h _ _) ?_;refine' DM (fun hc=>?_) (fun hc=>?_)
  .walk_at "py";rw[show(match some (l,a)with|none=>false|some q=>if q.1.agrees=some (B.life,B.version)then decide (B.label.up.map (·.2)=some q.1.st)else false)=false from if_neg hc]at k;exact k
  .walk_at "py";rw[show(match some (l,a)with|none=>false|some q=>if q.1.agrees=some (B.life,B.version)then decide (B.label.up.map (·.2)=some q.1.st)else false)=decide (B.label.up.map (·.2)=some l.st) from if_pos hc]at k;refine Kf (RZ h _ _) ?_;exact k
noncomputable def Wk(B:Br)(p:Int):String:=if(B.ties.lookup p).isSome then(if Cb B.label.up p then(if Jj B p then "child" else "shut")else if Xq B p then "parent" else "shut")else "down"
theorem GC{p:Int}(x:BrAt h b t d B)(k:Q (.str<|Wk B p) h):wF P (n+3) "Bridge.end" [.ref b,.int p] h Q X:=by
 obtain⟨hi,ht,hd,ρ⟩:=id x;refine Mh ?_
 exists UC ht rfl
 rw[AJ];walk_at "py";unfold Wk at k;cases e:(B.ties.lookup p).isSome with
 |false =>rw[e]at k;refine ifT rfl ?_;refine' k
 |true =>
  rw[e,if_pos rfl]at k;refine ifF rfl ?_
  exists Kf (CT h p B.label.up)
  refine' ifD (fun hc=>?_) (fun hc=>?_)
  .rw[hc,if_pos rfl]at k
   exists AI x
   refine' ifD (fun hc=>?_) (fun hc=>?_)
   .rw[hc]at k;refine' k
   .rw[hc]at k;refine' k
  .rw[hc,if_neg<|by decide]at k
   exists Kg x
   refine' ifD (fun hc=>?_) (fun hc=>?_)
   .rw[hc]at k;refine' k
   .rw[hc]at k;refine' k
theorem Zh(q:∀p g,h p=none->Ext h g->g p=some o->Q (.ref p) g):new h o Q:=YO fun p hp=>q p _ hp (Ext.new hp) upd_same
variable {r:Int}
theorem Xv(r0:0<=r)(e:xs[r.toNat]?=some x):atI xs r=some x:=by have:=(Í.mp e).1;unfold atI ixN;rw[if_pos r0,if_pos<|by omega];exact e
theorem HK(r0:0<=r)(r1:r<xs.length):∃x,xs[r.toNat]?=some x/\x∈xs:=by
 have h:r.toNat<xs.length:=by omega
 exact⟨xs[r.toNat],Ë h,Ķ h⟩
theorem Jk(r0:0<=r)(r1:r<xs.length):∃x,atI xs r=some x/\x∈xs:=by obtain⟨x,h1,h2⟩:=HK r0 r1;exact⟨x,Xv r0 h1,h2⟩
theorem Wj:∀ns:List Int,intsOf (ns.map .int)=some ns
 |[]=>rfl
 |n::ns=>by rw[Ð,intsOf,Wj ns];rfl
theorem Jl:∀bs:List Bool,blsOf (bs.map .bl)=some bs
 |[]=>rfl
 |b::bs=>by rw[Ð,blsOf,Jl bs];rfl
theorem KD{x:Int}:∀{ns:List Int},x∈dedup ns↔x∈ns
 |[]=>by simp[dedup]
 |n::ns=>by rw[dedup,Ç,ē,KD,Ç];by_cases h:x=n<;>simp[h]
theorem Nu:∀(ns:List Int),(dedup ns).length<=ns.length
 |[]=>by simp[dedup]
 |n::ns=>by have:=Nu ns;have:=cr (fun y=>y != n)<|dedup ns;rw[dedup,Ì,Ì];omega
variable {m:Int}
theorem YT{v:Val}(h:(rangeV 0 m)[i]?=some v):v=.int i/\(i:Int)<m:=by unfold rangeV at h;rw[Ù]at h;obtain⟨k,hk,rfl⟩:=Ú.mp h;obtain⟨Ν,rfl⟩:=Í.mp hk;rw[Ů]at Ν;rw[dq];exact⟨by rw[Int.zero_add],by omega⟩
theorem WA:(rangeV 0 m).length=m.toNat:=by unfold rangeV;rw[Â,Ů,Int.sub_zero]
def Brs(ns:List Int):Prop:=∀i∈ns,0<=i/\i<1000
noncomputable abbrev Tie:=Int×Int×Int
noncomputable def trV(t:Tie):Val:=.tup [.int t.1,.int t.2.1,.int t.2.2]
def LOk(ns:List Int)(t:Tie):Prop:=t.1∈ns/\t.2.1∈ns/\t.1<t.2.1/\1<=t.2.2/\t.2.2<=1000
structure NetOk(bs:List Int)(ts:List Tie):Prop where
 one:1<=bs.length
 ten:bs.length<=10
 rng:Brs bs
 up:bs.Pairwise (· < ·)
 sixteen:ts.length<=16
 tie:∀t∈ts,LOk bs t
noncomputable def ZX(bs:List Int)(ts:List Tie):Val:=.tup [.tup<|bs.map .int,.tup<|ts.map trV]
variable {ns:List Int}
theorem mem_sort{i:Int}:i∈sortI ns↔i∈ns:=(γ ns _).mem_iff
theorem Ua(nd:ns.Nodup):(sortI ns).Pairwise (· < ·):=by have p:=γ ns fun a b=>decide (a<=b);have s:(sortI ns).Pairwise fun a b=>decide (a<=b)=true:=bw (fun a b c h1 h2=>by simp at *;omega) (fun a b=>by simp;omega) ns;have d:(sortI ns).Nodup:=p.nodup_iff.mpr nd;exact(s.and d).imp fun⟨h1,h2⟩=>by simp at h1;omega
theorem RA(e:h a=some (.lst<|ns.map .int))(m:ns.length<64)(q:new h (.lst<|(sortI<|dedup ns).map .int) Q):(biV h .sortedSet [.ref a]).wp h Q:=wp_new (by show biSortedSet h (.ref a)=_;unfold biSortedSet sortOf;simp only[e,lsOf,ð,Wj];rw[if_pos m]) q
theorem Nb:∀ns:List Int,(dedup ns).Nodup
 |[]=>Ŋ
 |n::ns=>by rw[dedup,ě];refine⟨fun z=>?_,(Nb ns).sublist ϡ⟩;have:=(ē.mp z).2;simp at this
theorem Pb(ns:List Int):(sortI<|dedup ns).Pairwise (· < ·):=Ua (Nb ns)
theorem GQ(ns:List Int):(sortI<|dedup ns).length<=ns.length:=by rw[sortI,ŕ];exact Nu ns
theorem Ln(h:1<=ns.length):1<=(sortI<|dedup ns).length:=by
 rw[sortI,ŕ];cases ns with
 |nil=>exact absurd h (by decide)
 |cons n ns=>rw[dedup,Ì];omega
theorem sd_mem{i:Int}:i∈sortI (dedup ns)↔i∈ns:=by rw[mem_sort,KD]
theorem XT(ns:List Int)(lo hi:Option Int):cut (ns.map Val.int) lo hi=(cut ns lo hi).map Val.int:=by unfold cut;rw[Â,List.map_take,List.map_drop]
theorem ON{a b:Int}(h0:0<=a)(h1:a<=b):cut xs (some a) (some b)=(xs.drop a.toNat).take (b.toNat - a.toNat):=by
 unfold cut cutAt;dsimp only;rw[if_pos h0,if_pos<|by omega];by_cases h:a.toNat<=xs.length
 .rw[ε h];by_cases h2:b.toNat<=xs.length
  .rw[ε h2]
  .rw[Nat.min_eq_right<|by omega];rw[ϋ (by rw[ŉ];omega),ϋ<|by rw[ŉ];omega]
 .rw[ģ (by omega:xs.length<=min a.toNat xs.length),ģ (by omega:xs.length<=a.toNat)];simp
theorem WF{k:Nat}(q:∀c,Q (.int c) h):wF P (n+1) "_law_cell_at" [.scr ns,.int k] h Q X:=by
 refine J9 ?_;refine' ifP (fun hc=>?_) (fun hc=>?_)
 .walk_at "py";have hk:k<ns.length:=by omega
  refine HB (v:=.int ns[k]) ?_ ?_
  .refine Xv (by omega) ?_;rw[Ù];simp[hk]
  .exact q _
 .refine' q _
theorem MI{k:Nat}(hk:k<=100)(q:∀r,0<=r->Q (.int r) h):wF P (n+1) "_law_mixed" [.int c,.int k] h Q X:=by
 refine Nx ?_
 exists q _
 exact Int.ediv_nonneg (Ĩ _<|by decide) (by decide)
def Nn(ns:List Int):Prop:=∀x∈ns,0<=x
theorem Jx{m:Nat}(hm:m<=100)(q:∀p (ns:List Int) g,h p=none->Ext h g->g p=some (.lst<|ns.map .int)->ns.length=m->Nn ns->Q (.ref p) g):wF P (n+2) "_law_draws" [.int c,.int m] h Q X:=by
 refine Nf ?_;refine' Zh fun p g1 hp x1 e1=>?_;refine' ⟨⟨by omega,by omega⟩,?_⟩;refine Zl (fun i en g=>∃r v5 b,∃ns:List Int,en=[some<|.int c,some<|.int m,some<|.int r,some<|.bl b,some<|.ref p,v5]/\g p=some (.lst<|ns.map .int)/\ns.length=i/\Nn ns/\Ext h g) ⟨_,_,_,[],rfl,e1,rfl,(fun x hx=>absurd hx Ý),x1⟩ (fun _ _ _ _ _=>trivial) ?_ ?_
 .rintro i v en g hv ⟨r,v5,b,ns,rfl,e,hl,hn,x⟩ K hK;obtain⟨rfl,hi⟩:=YT hv;have put:∀{y:Int}{r':Int},0<=y->K [some<|.int c,some<|.int m,some<|.int r',some<|.bl b,some<|.ref p,some<|.int i] (upd g p<|.lst<|ns.map Val.int++[.int y]):=fun{y r'} hy=>by
   refine hK _ _ ⟨_,_,_,ns++[y],rfl,by rw[upd_same,Ü];rfl,by rw[ë,hl];rfl,fun z hz=>?_,⟨fun e=>by rw[upd_ne<|Za e hp];exact x.get e⟩⟩;rcases é.mp hz with hz|hz
   .exact hn z hz
   .rw[á.mp hz];exact hy
  have hlim:(ns.map Val.int).length<lim:=by rw[Â];exact ß (by omega:ns.length<=100) (by decide)
  refine' ifD (fun hc=>?_) (fun hc=>?_)
  .refine' ifP (fun hr=>?_) (fun hr=>?_)
   .refine' put (Ĩ _<|by decide)
   .refine' MI (by omega) fun y hy=>?_;refine' put hy
  .refine ifF rfl ?_;refine' MI (by omega) fun y hy=>?_;refine' put hy
 .rintro en g ⟨r,v5,b,ns,rfl,e,hl,hn,x⟩;rw[WA]at hl;refine' q p ns g hp x e (by omega) hn
theorem nth(hi:i<ns.length)(hn:Nn ns):∃x,0<=x/\atI (ns.map Val.int) i=some (.int x):=by refine⟨ns[i],hn _<|Ķ hi,Xv (by omega) ?_⟩;rw[Ù];simp[hi]
theorem NS(ea:h a=some (.lst<|ns.map .int))(hl:ns.length=14)(hn:Nn ns)(q:∀p (bs:List Int) g,h p=none->Ext h g->g p=some (.lst<|bs.map .int)->1<=bs.length->bs.length<=10->Brs bs->bs.Pairwise (· < ·)->Q (.ref p) g):wF P (n+1) "_law_bridges" [.ref a] h Q X:=by
 obtain⟨s0,s00,a0⟩:=nth (i:=0) (by omega) hn;obtain⟨s1,s10,a1⟩:=nth (i:=1) (by omega) hn;have fin:∀m:Int,1<=m->m<=10->∀{v3:Option Val},wSs (wF P n) #[.set (.one 2)<|.idx (.lst #[.cst<|.int 1000,.cst<|.int 12,.cst<|.int 1000,.cst<|.int 30])<|.bin .mod (.idx (.var 0)<|.cst<|.int 1)<|.cst<|.int 4,.ret<|.bi .sortedSet #[.comp [2] 1 (.one 0) (.seq<|.slc (.var 0) (.some<|.cst<|.int 4)<|.some<|.bin .add (.cst<|.int 4)<|.var 1) .yes<|.bin .mod (.var 0)<|.var 1]] [some<|.ref a,some<|.int m,v3] h (fun _ g=>Q .non g) Q (fun _ _=>False) (fun _ _=>False) fun _ c g=>X c g:=by
  intro m m1 m2 v3;refine' Zh fun p1 g1 bE x1 e1=>?_
  exists Zn (x1.get ea) a1
  walk_at "py";obtain⟨v,ev,hv⟩:=Jk (xs:=[Val.int 1000,.int 12,.int 1000,.int 30]) (r:=s1 % 4) (Ĩ _<|by decide) (İ _<|by decide);obtain⟨wd,rfl,w1,w2⟩:∃wd:Int,v=.int wd/\1<=wd/\wd<=1000:=by simp only[Ç,Ý,or_false]at hv;rcases hv with rfl|rfl|rfl|rfl<;>exact⟨_,rfl,by decide,by decide⟩
  refine Zn e1 ev ?_;refine' Zh fun p2 g2 cB x2 e2=>?_;rw[XT,ON (by decide)<|by omega]at e2;have hc:((ns.drop (4:Int).toNat).take<|(4+m).toNat - (4:Int).toNat).length=m.toNat:=by rw[ø,ŉ,hl];omega
  generalize (ns.drop (4:Int).toNat).take ((4+m).toNat - (4:Int).toNat)=ks at e2 hc;refine' ⟨ß (by rw[Â];omega:_<=10) (by decide),Xf (fun v=>match v with|.int b=>some (.int<|b % wd)|_=>none) (lsE e2) (fun v hv K hK=>?_) ?_⟩
  .obtain⟨b,_,rfl⟩:=Ò.mp hv;walk_at "p";exact hK
  rw[show(ks.map Val.int).filterMap (fun v=>match v with|.int b=>some (.int<|b % wd)|_=>none)=(ks.map (· % wd)).map Val.int by rw[ο,ÿ];exact congrFun (bN (f:=fun b:Int=>Val.int<|b % wd)) ks];refine Zh fun p3 g3 hp3 x3 e3=>?_;walk_at "py";have hk:(ks.map (· % wd)).length=m.toNat:=by rw[Â];exact hc
  refine RA e3 (by omega)<|Zh fun p4 g4 hp4 x4 e4=>?_;have xx:=((x1.trans x2).trans x3).trans x4;have hp0:h p4=none:=by
   cases z:h p4 with
   |none=>rfl
   |some o=>rw[x3.get<|x2.get<|x1.get z]at hp4;cases hp4
  refine q p4 _ g4 hp0 xx e4 (Ln<|by omega) (Ó (GQ _)<|by omega) (fun i hi=>?_)<|Pb _;obtain⟨b,_,rfl⟩:=Ò.mp<|sd_mem.mp hi;exact⟨Ĩ _ (by omega),dU (İ _<|by omega) w2⟩
 refine JO ?_
 exists Zn ea a0
 exists Zn ea a0
 refine' ifP (fun hc=>?_) (fun hc=>?_)
 .exists Zn ea a0
  repeat (first|exact fin _ (by omega) (by omega)|walk_at "py1")
 .exact fin _ (by omega) (by omega)
variable {j:Int}
theorem L6(nd:ns.Nodup){i:Int}{a b:Int}(i0:0<=i)(i1:i<ns.length)(j0:0<=j)(j1:j<ns.length)(hij:i≠j)(ea:atI (ns.map Val.int) i=some (.int a))(eb:atI (ns.map Val.int) j=some (.int b)):a≠b:=by
 have hi:i.toNat<ns.length:=by omega
 have hj:j.toNat<ns.length:=by omega
 have e1:=Xv (xs:=ns.map Val.int) i0 (x:=.int ns[i.toNat]) (by rw[Ù,Ë hi];rfl);have e2:=Xv (xs:=ns.map Val.int) j0 (x:=.int ns[j.toNat]) (by rw[Ù,Ë hj];rfl);rw[ea]at e1;rw[eb]at e2;simp only[Ĭ,Val.int.injEq]at e1 e2;rw[e1,e2];intro z;have:=(List.getElem_inj nd).mp z;omega
theorem AY{a L:Int}(a0:0<=a)(a1:a<L)(r0:0<=r)(r1:r<L - 1):(a+1+r) % L≠a:=by
 by_cases hc:a+1+r<L
 .rw[Int.emod_eq_of_lt (by omega) hc];omega
 .rw[<-Int.sub_emod_right,Int.emod_eq_of_lt (by omega)<|by omega];omega
theorem Qo(a b:Int):sortI [a,b]=if b<a then [b,a]else [a,b]:=by
 unfold sortI;by_cases h:b<a
 .rw[if_pos h,ϛ];simp[ζ,ϛ,List.merge,Int.not_le.mpr h]
 .rw[if_neg h,ϛ];simp[ζ,ϛ,List.merge,Int.not_lt.mp h]
theorem Ef{pb pt:Ad}{bs th:List Int}{k:Nat}(eb:h pb=some (.lst<|bs.map .int))(l2:2<=bs.length)(l10:bs.length<=10)(nd:bs.Nodup)(et:h pt=some (.lst<|th.map .int))(hl:th.length=3)(hn:Nn th)(q:∀t g,LOk bs t->Ext h g->Q (trV t) g):wF P (n+1) "_law_tie" [.ref pb,.ref pt,.int k] h Q X:=by
 have hL:(bs.map Val.int).length=bs.length:=Â _;obtain⟨t0,t00,a0⟩:=nth (i:=0) (by omega) hn;obtain⟨t1,t10,a1⟩:=nth (i:=1) (by omega) hn;obtain⟨t2,t20,a2⟩:=nth (i:=2) (by omega) hn;have fin:∀{one aC:Int},0<=one->one<bs.length->0<=aC->aC<bs.length->one≠aC->wSs (wF P n) #[.set (.one 6)<|.bin .add (.cst<|.int 1)<|.bin .mod (.idx (.var 1)<|.cst<|.int 2)<|.cst<|.int 1000,.ite (.val<|.cmp .eq (.bin .mod (.bin .fdiv (.idx (.var 1)<|.cst<|.int 0)<|.cst<|.int 20)<|.cst<|.int 2)<|.cst<|.int 0) #[.set (.one 6)<|.bin .add (.cst<|.int 1)<|.bin .mod (.idx (.var 1)<|.cst<|.int 2)<|.cst<|.int 3] .nil,.set (.one 7)<|.bi .sortedI #[.lst #[.idx (.var 0)<|.var 4,.idx (.var 0)<|.var 5]],.ret<|.tup #[.idx (.var 7)<|.cst<|.int 0,.idx (.var 7)<|.cst<|.int 1,.var 6]] [some<|.ref pb,some<|.ref pt,some<|.int k,some<|.int bs.length,some<|.int one,some<|.int aC,none,none] h (fun _ g=>Q .non g) Q (fun _ _=>False) (fun _ _=>False) fun _ c g=>X c g:=by
  intro one aC o0 o1 p0 p1 ρ;obtain⟨u1,eu1,hu1⟩:=Jk (xs:=bs.map Val.int) (r:=one) o0 (by omega);obtain⟨i1,hi1,rfl⟩:=Ò.mp hu1;obtain⟨u2,eu2,hu2⟩:=Jk (xs:=bs.map Val.int) (r:=aC) p0 (by omega);obtain⟨i2,hi2,rfl⟩:=Ò.mp hu2;have hi:=L6 nd o0 o1 p0 p1 ρ eu1 eu2;have last:∀c:Int,1<=c->c<=1000->wSs (wF P n) #[.set (.one 7)<|.bi .sortedI #[.lst #[.idx (.var 0)<|.var 4,.idx (.var 0)<|.var 5]],.ret<|.tup #[.idx (.var 7)<|.cst<|.int 0,.idx (.var 7)<|.cst<|.int 1,.var 6]] [some<|.ref pb,some<|.ref pt,some<|.int k,some<|.int bs.length,some<|.int one,some<|.int aC,some<|.int c,none] h (fun _ g=>Q .non g) Q (fun _ _=>False) (fun _ _=>False) fun _ c g=>X c g:=by
   intro c c0 c1
   exists Zn eb eu1
   exists Zn eb eu2
   refine' Zh fun p3 g3 hp3 x3 e3=>?_;refine' IV (ns:=[i1,i2]) e3 rfl (by simp) (Zh fun p4 g4 hp4 x4 e4=>?_);rw[Qo]at e4;have x34:=x3.trans x4;by_cases Ν:i2<i1
   .rw[if_pos Ν]at e4;refine' q (i2,i1,c) g4 ⟨hi2,hi1,Ν,c0,c1⟩ x34
   .rw[if_neg Ν]at e4;refine' q (i1,i2,c) g4 ⟨hi1,hi2,by show i1<i2;omega,c0,c1⟩ x34
  exists Zn et a2
  exists Zn et a0
  refine' ifP (fun hc=>?_) (fun hc=>?_)
  .exists Zn et a2
   repeat (first|exact last _ (by omega) (by omega)|walk_at "py1")
  .refine OM ?_;exact last _ (by omega) (by omega)
 refine U6 ?_
 exists Zn et a0
 rw[hL]
 exists Zn et a1
 walk_at "py";have o0:=Ĩ t0 (show(bs.length:Int)≠0 by omega);have o1:=İ t0 (show(0:Int)<bs.length by omega);have r0:=Ĩ t1 (show(bs.length:Int) - 1≠0 by omega);have r1:=İ t1 (show(0:Int)<(bs.length:Int) - 1 by omega);have p0:=Ĩ (t0 % bs.length+1+t1 % ((bs.length:Int) - 1)) (show(bs.length:Int)≠0 by omega);have p1:=İ (t0 % bs.length+1+t1 % ((bs.length:Int) - 1)) (show(0:Int)<bs.length by omega);refine ifP (fun hc=>?_) fun hc=>?_
 .exists Zn et a0
  refine' ifP (fun hd=>?_) (fun hd=>?_)
  .exists Zn et a1
   have q0:=Ĩ t1 (show(k:Int)+1≠0 by omega);have q1:=İ t1 (show(0:Int)<(k:Int)+1 by omega)
   repeat (first|exact fin (by omega) hc q0 (by omega) (by omega)|walk_at "py1")
  .exact fin o0 o1 p0 p1 (AY o0 o1 r0 r1).symm
 .refine ifF rfl ?_;exact fin o0 o1 p0 p1 (AY o0 o1 r0 r1).symm
theorem IK{d:Int}(q:∀bs ts g,NetOk bs ts->Ext h g->Q (ZX bs ts) g):wF P (n+3) "_law_net" [.int c,.int d] h Q X:=by
 refine Aw ?_;refine' Jx (m:=14) (by decide) fun p ns g1 hp x1 e1 hl hn=>?_;obtain⟨s2,s20,a2⟩:=nth (i:=2) (by omega) hn;refine' NS e1 hl hn fun pb bs g2 hpb x2 eb l1 l10 hb up=>?_;have hL:(bs.map Val.int).length=bs.length:=Â _;have nd:bs.Nodup:=up.imp fun h=>by omega
 have e1':=x2.get e1;have x12:=x1.trans x2;have fin:∀m:Nat,m<=16->(0<m->2<=bs.length)->wSs (wF P<|n+2) #[.set (.one 5)<|.call "_law_draws" #[.var 1,.bin .mul (.cst<|.int 3)<|.var 4],.set (.one 6)<|.comp [3,5] 1 (.one 0) (.range<|.var 4) .yes<|.call "_law_tie" #[.var 1,.slc (.var 2) (.some<|.bin .mul (.cst<|.int 3)<|.var 0)<|.some<|.bin .add (.bin .mul (.cst<|.int 3)<|.var 0)<|.cst<|.int 3,.var 0],.ret<|.tup #[.bi .tuple #[.var 3],.bi .tuple #[.var 6]]] [some<|.int c,some<|.int d,some<|.ref p,some<|.ref pb,some<|.int m,none,none] g2 (fun _ g=>Q .non g) Q (fun _ _=>False) (fun _ _=>False) fun _ c g=>X c g:=by
  intro m hm h2;walk_at "py";rw[show(3:Int)*(m:Int)=((3*m:Nat):Int) by omega];refine Jx (m:=3*m) (by omega) fun pd ds g3 hpd x3 e3 hdl hdn=>?_;have eb3:=x3.get eb;refine' ⟨⟨by omega,by omega⟩,by rw[WA];exact ß (by omega:_<=16) (by decide),?_⟩;refine YK (fun i zs g=>∃ts:List Tie,zs=ts.map trV/\ts.length=i/\(∀t∈ts,LOk bs t)/\Ext g3 g) ⟨[],rfl,rfl,(fun t ht=>absurd ht Ý),.refl⟩ (fun _ _ _ _ _=>trivial) ?_ ?_
  .rintro i v zs g hv ⟨ts,rfl,htl,ht,x⟩ K hK;obtain⟨rfl,hi⟩:=YT hv;walk_at "p";refine Zh fun p4 g4 hp4 x4 e4=>?_;rw[XT,ON (by omega)<|by omega]at e4;have hc:((ds.drop (3*(i:Int)).toNat).take<|(3*(i:Int)+3).toNat - (3*(i:Int)).toNat).length=3:=by
    rw[ø,ŉ,hdl];omega
   have hcn:Nn<|(ds.drop (3*(i:Int)).toNat).take<|(3*(i:Int)+3).toNat - (3*(i:Int)).toNat:=fun y hy=>hdn y<|List.mem_of_mem_drop<|List.mem_of_mem_take hy;refine' Ef (x4.get<|x.get eb3) (h2<|by omega) l10 nd e4 hc hcn fun t g5 lo x5=>?_;refine hK _ _ ⟨ts++[t],by rw[Ü];rfl,by rw[ë,htl];rfl,fun y hy=>?_,(x.trans x4).trans x5⟩;rcases é.mp hy with hy|hy
   .exact ht y hy
   .rw[á.mp hy];exact lo
  .rintro zs g ⟨ts,rfl,htl,ht,x⟩;rw[WA]at htl;refine Zh fun p6 g6 hp6 x6 e6=>?_;have eb6:=x6.get<|x.get eb3;refine' q bs ts g6 ⟨l1,l10,hb,up,by omega,ht⟩ (((x12.trans x3).trans x).trans x6)
 exists Zn e1' a2
 exists Zn e1' a2
 walk_at "py";have tail:∀m:Int,0<=m->m<=16->wSs (wF P<|n+2) #[.ite (.val<|.cmp .eq (.bi .len #[.var 3])<|.cst<|.int 1) #[.set (.one 4)<|.cst<|.int 0] .nil,.set (.one 5)<|.call "_law_draws" #[.var 1,.bin .mul (.cst<|.int 3)<|.var 4],.set (.one 6)<|.comp [3,5] 1 (.one 0) (.range<|.var 4) .yes<|.call "_law_tie" #[.var 1,.slc (.var 2) (.some<|.bin .mul (.cst<|.int 3)<|.var 0)<|.some<|.bin .add (.bin .mul (.cst<|.int 3)<|.var 0)<|.cst<|.int 3,.var 0],.ret<|.tup #[.bi .tuple #[.var 3],.bi .tuple #[.var 6]]] [some<|.int c,some<|.int d,some<|.ref p,some<|.ref pb,some<|.int m,none,none] g2 (fun _ g=>Q .non g) Q (fun _ _=>False) (fun _ _=>False) fun _ c g=>X c g:=by
  intro m m0 m1;walk_at "py";rw[hL];refine ifP (fun hc=>?_) fun hc=>?_
  .repeat (first|exact fin 0 (by omega) (fun z=>absurd z<|by decide)|walk_at "py1")
  .refine OM ?_;have:=fin m.toNat (by omega) (fun _=>by omega)
   rwa [Int.toNat_of_nonneg m0]at this
 refine ifP (fun hc=>?_) fun hc=>?_
 .exists Zn e1' a2
  repeat (first|exact tail _ (by omega) (by omega)|walk_at "py1")
 .refine OM ?_;exact tail _ (by omega) (by omega)
theorem Ny(q:∀m g,4<=m->m<=200->Ext h g->Q (.int m) g):wF P (n+3) "_law_greatest" [.int c] h Q X:=by
 refine JI ?_;refine' Jx (m:=4) (by decide) fun p ns g1 hp x1 e1 hl hn=>?_;obtain⟨s1,s10,a1⟩:=nth (i:=1) (by omega) hn;obtain⟨s3,s30,a3⟩:=nth (i:=3) (by omega) hn
 exists Zn e1 a1
 refine' ifP (fun hc=>?_) (fun hc=>?_)
 .exists Zn e1 a3
  refine' q _ g1 (by omega) (by omega) x1
 .exists Zn e1 a3
  refine' q _ g1 (by omega) (by omega) x1
theorem Nk{h:Hs}{d:Nat}:∀ns:List Int,(ns.map Val.int).mapM (dat h d)=some (ns.map D.int)
 |[]=>rfl
 |n::ns=>by rw[Ð,π,Nk ns,Ð];cases d<;>rfl
theorem UD{i:Int}:∀ns:List Int,((ns.map D.int).any fun e=>D.eqv e<|.int i)=decide (i∈ns)
 |[]=>by simp
 |n::ns=>by
  rw[Ð,Ġ,UD ns,UB];by_cases h:n=i
  .simp[h]
  .simp[h,Ne.symm h]
theorem Fo{i:Int}:inL h (.int i) (ns.map .int)=some (decide (i∈ns)):=by unfold inL;rw[Nk];exact congrArg some (UD ns)
theorem X3(x:Ext h g)(e:h p=none):Ext h<|upd g p o:=⟨fun{a u} z=>by rw[upd_ne<|Za z e];exact x.get z⟩
noncomputable def far(t:Tie)(b:Int):Int:=if t.1=b then t.2.1 else t.1
noncomputable def nbs(b:Int):Nat->List Tie->List Tie
 |_,[]=>[]
 |k,t::r=>if b=t.1\/b=t.2.1 then((k:Int),far t b,t.2.2)::nbs b (k+1) r else nbs b (k+1) r
theorem WZ{b:Int}{t:Tie}:∀{l:List Tie}{k:Nat},nbs b k (l++[t])=nbs b k l++(if b=t.1\/b=t.2.1 then [(((k+l.length:Nat):Int),far t b,t.2.2)]else [])
 |[],k=>by show nbs b k [t]=_;unfold nbs;split<;>rfl
 |u::l,k=>by
  rw[aj,nbs,nbs,WZ,Ì,show k+1+l.length=k+(l.length+1) by omega];by_cases h:b=u.1\/b=u.2.1
  .rw[if_pos h,if_pos h,aj]
  .rw[if_neg h,if_neg h]
theorem K6:∀{xs:List Val}{k i:Nat}{v:Val},(enumL k xs)[i]?=some v->∃x,xs[i]?=some x/\v=.tup [.int ((k+i:Nat):Int),x]
 |[],_,_,_,e=>by simp[enumL]at e
 |x::xs,k,0,v,e=>by have e:some (Val.tup [.int k,x])=some v:=e;cases e;exact⟨x,rfl,rfl⟩
 |x::xs,k,i+1,v,e=>by obtain⟨y,h1,h2⟩:=K6 (xs:=xs) (k:=k+1) (i:=i) (v:=v) (by simpa[enumL]using e);exact⟨y,by simpa using h1,by rw[h2,show k+1+i=k+(i+1) by omega]⟩
theorem WT:∀(xs:List Val) (k:Nat),(enumL k xs).length=xs.length
 |[],_=>rfl
 |_::xs,k=>by simp[enumL,WT xs<|k+1]
theorem IG{i:Int}(q:KB<|decide (i∈ns)):go (cmpV h .isin (.int i)<|.tup<|ns.map .int) KB:=go_of (by show inV h (.int i) (.tup _)=_;unfold inV;exact Fo) q
section
variable {bs:List Int}{ts:List Tie}
theorem Du{t:Tie}{b:Int}(k:Q (.int<|far t b) h):wF P (n+1) "far_end" [trV t,.int b] h Q X:=by
 obtain⟨x,y,c⟩:=t;unfold trV;unfold far at k;dsimp only at k ⊢;refine Ab ?_;walk_at "py";by_cases e:x=b
 .refine ifT (decide_eq_true e) ?_;rw[if_pos e]at k;refine' k
 .refine ifF (decide_eq_false e) ?_;rw[if_neg e]at k;refine' k
theorem J4{b:Int}(l:ts.length<=16)(k:∀p g,h p=none->Ext h g->g p=some (.lst<|(nbs b 0 ts).map trV)->Q (.ref p) g):wF P (n+2) "neighbours" [ZX bs ts,.int b] h Q X:=by
 unfold ZX;refine Me ?_;refine' Zh fun p g0 hp x0 e0=>?_
 exists go_of rfl
 have nl:∀l:List Tie,∀k,(nbs b k l).length<=l.length:=by
  intro l;induction l with
  |nil=>intro k;exact Î _
  |cons t l ih =>intro k;have:=ih<|k+1;unfold nbs;split<;>simp only[Ì]<;>omega
 refine Zl (fun i en g=>∃v3 v4,en=[some<|.tup [.tup<|bs.map .int,.tup<|ts.map trV],some<|.int b,some<|.ref p,v3,v4]/\Ext h g/\g p=some (.lst<|(nbs b 0<|ts.take i).map trV)) ⟨_,_,rfl,x0,e0⟩ (fun _ _ _ _ _=>trivial) ?_ ?_
 .rintro i v en g hv ⟨v3,v4,rfl,x,ep⟩ K hK;obtain⟨y,hy,rfl⟩:=K6 hv;rw[Ù]at hy;obtain⟨t,ht,rfl⟩:=Ú.mp hy;have hi:i<ts.length:=(Í.mp ht).1;have hn:nbs b 0 (ts.take<|i+1)=nbs b 0 (ts.take i)++(if b=t.1\/b=t.2.1 then [((i:Int),far t b,t.2.2)]else []):=by
   rw[ů,ht];have:=WZ (b:=b) (t:=t) (l:=ts.take i) (k:=0);rw[ø,ε (by omega),ű]at this;exact this
  rw[ű];have et:trV t=.tup [.int t.1,.int t.2.1,.int t.2.2]:=rfl;walk_at "py";rw[et];refine sl_tup (by simp[cutAt]) ?_;refine IG (ns:=[t.1,t.2.1]) ?_;refine' ifP (fun hc=>?_) (fun hc=>?_)
  .exists Du (t:=t)
   walk_at "py";have hl:=nl (ts.take i) 0;rw[ø]at hl;refine XN ep (by rw[Â,lim];omega) ?_;refine' hK _ _ ⟨_,_,rfl,?_,?_⟩
   .exact X3 x hp
   .have hc:b=t.1\/b=t.2.1:=by simpa using hc
    rw[hn,if_pos hc,Ü];exact upd_same
  .refine' hK _ _ ⟨_,_,rfl,x,?_⟩;have hc:¬ (b=t.1\/b=t.2.1):=by simpa using hc
   rw[hn,if_neg hc,Ĕ];exact ep
 .rintro en g ⟨v3,v4,rfl,x,ep⟩;rw[WT,Â,ó]at ep;refine' k p g hp x ep
end
noncomputable def ZM(rs:List Tie):List<|Int×(Int×Int):=rs.map fun r=>(r.1,r.2)
theorem K1(rs:List Tie):(ZM rs).map (·.1)=rs.map (·.1):=by unfold ZM;rw[ÿ];rfl
noncomputable def MM(own life most:Int)(rs:List Tie):Br:=⟨own,life,most,ZM rs,[],⟨own,0,none⟩,0,0⟩
theorem E9{own life:Int}{rs:List Tie}(hb:h b=some (.ins "Bridge" []))(hl:h l=some (.lst<|rs.map trV))(nd:(rs.map (·.1)).Nodup)(h16:rs.length<=16)
  (k:∀t d g,h t=none->h d=none->BrAt g b t d (MM own life most rs)->Ex [b] h g->Q .non g):wF P (n+1) "Bridge.__init__" [.ref b,.int own,.int life,.ref l,.int most] h Q X:=by
 have nlb:b≠l:=Wo hb hl nofun;refine JY ?_;refine' Z7 upd_same (show(1:Nat)<900 by decide) ?_;refine' Z7 upd_same (show(2:Nat)<900 by decide) ?_;walk_at "py";intro t ht;rw[upd_upd,upd_upd]at ht ⊢;have ntb:b≠t:=Za upd_same ht;have nht:h t=none:=by rw[upd_ne ntb.symm]at ht;exact ht
 have ntl:l≠t:=Za hl nht;refine' Z7 (upd_ne' ntb upd_same) (show(3:Nat)<900 by decide) ?_;walk_at "py";have hl1:∀{o1 o2 o3:Ob},upd (upd (upd h b o1) t o2) b o3 l=some (.lst<|rs.map trV):=fun{_ _ _}=>by rw[upd_ne nlb.symm,upd_ne ntl,upd_ne nlb.symm];exact hl
 refine Zl (fun i e g=>∃u v w,e=[some<|.ref b,some<|.int own,some<|.int life,some<|.ref l,some<|.int most,u,v,w]/\g b=some (.ins "Bridge" [("number",.int own),("life",.int life),("age_let_go",.int most),("ties_by_place",.ref t)])/\g t=some (.dct<|Zy HQ<|ZM<|rs.take i)/\Ex [b] h g) ⟨none,none,none,rfl,upd_same,by rw[upd_ne ntb.symm];exact upd_same,?_⟩ ?_ ?_ ?_
 .refine⟨fun{a o} na e=>?_⟩;have nab:a≠b:=by simpa using na
  rw[upd_ne nab,upd_ne<|Za e nht,upd_ne nab];exact e
 .rintro i e g _ ⟨u,v,w,rfl,h1,h2,h3⟩;exact lsE (h3.get (by simpa using nlb.symm) hl)
 .rintro i v e g hv ⟨u,v,w,rfl,h1,h2,h3⟩ K hK;obtain⟨r,hp,rfl⟩:=ZE hv;have nk:=ZN nd hp;obtain⟨p,nb,c⟩:=r;unfold trV;refine' Wc (k:=.int p) h2 ⟨rfl,?_⟩ ?_
  .rw[Oi];unfold ZM;rw[Â];exact ß (Ó (Ϛ _ _) h16) (by decide)
  rw[show Val.tup [.int nb,.int c]=HQ (nb,c) from rfl,YZ];refine' hK _ _ ⟨_,_,_,rfl,by rw[upd_ne ntb];exact h1,?_,?_⟩
  .rw[upd_same,XS,Zk hp]
   .unfold ZM;rw[Ü];rfl
   .rw[K1];exact nk
  .exact⟨fun na e=>by rw[upd_ne<|Za e nht];exact h3.get na e⟩
 .rintro e g ⟨u,v,w,rfl,h1,h2,h3⟩;rw[Â,ó]at h2;walk_at "py";intro d hd;have ndb:b≠d:=Za h1 hd;have ndt:t≠d:=Za h2 hd;have nhd:h d=none:=h3.none (by rw[h1];intro z;cases z) hd;refine' Z7 upd_same (show(5:Nat)<900 by decide) ?_;refine' Z7 upd_same (show(6:Nat)<900 by decide) ?_;refine' Z7 upd_same (show(7:Nat)<900 by decide) ?_;walk_at "py";rw[upd_upd,upd_upd,upd_upd];refine k t d _ nht nhd ⟨upd_same,?_,?_,ndt⟩ ?_
  .rw[upd_ne ntb.symm,upd_ne ndt];exact h2
  .rw[upd_ne ndb.symm];exact upd_same
  .exact(h3.trans<|.of<|Ext.new hd).trans (Ex.upd<|by simp)
theorem Wf{b:Int}:∀{l:List Tie}{k:Nat},((nbs b k l).map (·.1)).Pairwise (· < ·)/\∀r∈nbs b k l,(k:Int)<=r.1/\r.1<(k+l.length:Nat)
 |[],k=>⟨by simp[nbs],fun r hr=>absurd hr<|by simp[nbs]⟩
 |t::l,k=>by
  obtain⟨h1,h2⟩:=Wf (b:=b) (l:=l) (k:=k+1);unfold nbs;split
  .refine⟨?_,fun r hr=>?_⟩
   .rw[Ð,dk];refine⟨fun x hx=>?_,h1⟩;obtain⟨r,hr,rfl⟩:=Ò.mp hx;have:=(h2 r hr).1;show(k:Int)<r.1;omega
   .rcases Ç.mp hr with rfl|hr
    .exact⟨Int.le_refl _,by show(k:Int)<((k+(t::l).length:Nat):Int);rw[Ì];omega⟩
    .have:=h2 r hr;rw[Ì];omega
  .refine⟨h1,fun r hr=>?_⟩;have:=h2 r hr;rw[Ì];omega
theorem Xc{b:Int}:∀{l:List Tie}{k:Nat},(nbs b k l).length<=l.length
 |[],k=>Î _
 |t::l,k=>by have:=Xc (b:=b) (l:=l) (k:=k+1);unfold nbs;split<;>simp only[Ì]<;>omega
structure En where
 num:Int
 b:Ad
 t:Ad
 d:Ad
 B:Br
structure Yd where
 y:Ad
 lv:Ad
 st:Ad
 fl:Ad
 rd:Ad
 bs:List Int
 ts:List Tie
 most:Int
 lives:List<|Int×Int
 es:List En
 fallen:List<|Int×Bool
 road:List<|Int×Int×Int×L
noncomputable def enA(es:List En):List Ad:=es.flatMap fun e=>[e.b,e.t,e.d]
noncomputable def Yd.adr(Y:Yd):List Ad:=[Y.y,Y.lv,Y.st,Y.fl,Y.rd]++enA Y.es
noncomputable abbrev rfV(a:Ad):Val:=.ref a
noncomputable abbrev rdV(r:Int×Int×Int×L):Val:=.tup [.int r.1,.int r.2.1,.int r.2.2.1,r.2.2.2.v]
noncomputable def stands(es:List En):List<|Int×Ad:=es.map fun e=>(e.num,e.b)
theorem YV(es:List En):(stands es).map (·.1)=es.map (·.num):=by unfold stands;rw[ÿ];rfl
structure YAt(h:Hs)(Y:Yd):Prop where
 ins:h Y.y=some (.ins "Yard" [("net_made_of",ZX Y.bs Y.ts),("greatest_age",.int Y.most),("lives",.ref Y.lv),("standing",.ref Y.st),("ties_fallen",.ref Y.fl),("letters_on_road",.ref Y.rd)])
 lives:h Y.lv=some (.dct<|Zy Val.int Y.lives)
 stand:h Y.st=some (.dct<|Zy rfV<|stands Y.es)
 fallen:h Y.fl=some (.dct<|Zy Val.bl Y.fallen)
 road:h Y.rd=some (.lst<|Y.road.map rdV)
 brs:∀e∈Y.es,BrAt h e.b e.t e.d e.B
 nd:Y.adr.Nodup
 key:(Y.es.map (·.num)).Nodup
variable {es:List En} {e:En}
theorem Jz(h:e∈es):e.b∈enA es/\e.t∈enA es/\e.d∈enA es:=by refine⟨?_,?_,?_⟩<;>exact Š.mpr ⟨e,h,by simp⟩
theorem K9(es:List En)(e:En):enA (es++[e])=enA es++[e.b,e.t,e.d]:=by unfold enA;rw[cU];simp
variable {Y:Yd}
theorem YAt.keep{S:List Ad}(x:YAt h Y)(e:Ex S h g)(ds:∀a∈Y.adr,a∉S):YAt g Y:=by have m:∀a∈[Y.y,Y.lv,Y.st,Y.fl,Y.rd],a∉S:=fun a ha=>ds a<|â _ ha;refine⟨e.get (m _<|by simp) x.ins,e.get (m _<|by simp) x.lives,e.get (m _<|by simp) x.stand,e.get (m _<|by simp) x.fallen,e.get (m _<|by simp) x.road,fun b hb=>?_,x.nd,x.key⟩;obtain⟨q1,q2,q3⟩:=Jz hb;exact(x.brs b hb).keep e (ds _<|Ê _ q1) (ds _<|Ê _ q2) (ds _<|Ê _ q3)
theorem YAt.ext(x:YAt h Y)(e:Ext h g):YAt g Y:=x.keep (S:=[]) (.of e) fun _ _=>by simp
theorem YAt.taken(x:YAt h Y)(ha:a∈Y.adr):h a≠none:=by
 rcases é.mp ha with ha|ha
 .simp only[Ç,Ý,or_false]at ha;rcases ha with rfl|rfl|rfl|rfl|rfl
  .rw[x.ins];simp
  .rw[x.lives];simp
  .rw[x.stand];simp
  .rw[x.fallen];simp
  .rw[x.road];simp
 .obtain⟨e,he,ha⟩:=Š.mp ha;have:=x.brs e he;simp only[Ç,Ý,or_false]at ha;rcases ha with rfl|rfl|rfl
  .rw[this.ins];simp
  .rw[this.ties];simp
  .rw[this.held];simp
theorem Yd.sep(nd:Y.adr.Nodup)(ha:a∈[Y.y,Y.lv,Y.st,Y.fl,Y.rd])(hb:b∈enA Y.es):b≠a:=fun z=>(ê.mp nd).2.2 a ha b hb z.symm
theorem Yd.five(nd:Y.adr.Nodup):(Y.y≠Y.lv/\Y.y≠Y.st/\Y.y≠Y.fl/\Y.y≠Y.rd)/\(Y.lv≠Y.st/\Y.lv≠Y.fl/\Y.lv≠Y.rd)/\(Y.st≠Y.fl/\Y.st≠Y.rd)/\Y.fl≠Y.rd:=by have:=(ê.mp nd).1;simp only[ě,Ç,Ý,or_false,not_or,not_false_eq_true,Ŋ,and_true]at this;obtain⟨⟨a1,a2,a3,a4⟩,⟨b1,b2,b3⟩,⟨c1,c2⟩,d1⟩:=this;exact⟨⟨a1,a2,a3,a4⟩,⟨b1,b2,b3⟩,⟨c1,c2⟩,d1⟩
theorem BrAt.off(x:BrAt h e.b e.t e.d e.B)(he:e∈es)(n:∀b∈enA es,b≠a):BrAt (upd h a o) e.b e.t e.d e.B:=by obtain⟨q1,q2,q3⟩:=Jz he;exact⟨(upd_ne<|n _ q1).trans x.ins,(upd_ne<|n _ q2).trans x.ties,(upd_ne<|n _ q3).trans x.held,x.ne⟩
theorem YAt.setLives(x:YAt h Y)(l:List<|Int×Int):YAt (upd h Y.lv<|.dct<|Zy Val.int l) {Y with lives:=l}:=by obtain⟨⟨a1,a2,a3,a4⟩,⟨b1,b2,b3⟩,_,_⟩:=Yd.five x.nd;exact⟨(upd_ne a1).trans x.ins,upd_same,(upd_ne b1.symm).trans x.stand,(upd_ne b2.symm).trans x.fallen,(upd_ne b3.symm).trans x.road,fun e he=>(x.brs e he).off he fun b hb=>Yd.sep x.nd (by simp) hb,x.nd,x.key⟩
theorem YAt.setRoad(x:YAt h Y)(l:List<|Int×Int×Int×L):YAt (upd h Y.rd<|.lst<|l.map rdV) {Y with road:=l}:=by obtain⟨⟨a1,a2,a3,a4⟩,⟨b1,b2,b3⟩,⟨c1,c2⟩,d1⟩:=Yd.five x.nd;exact⟨(upd_ne a4).trans x.ins,(upd_ne b3).trans x.lives,(upd_ne c2).trans x.stand,(upd_ne d1).trans x.fallen,upd_same,fun e he=>(x.brs e he).off he fun b hb=>Yd.sep x.nd (by simp) hb,x.nd,x.key⟩
theorem YAt.stands(x:YAt h Y)(hb:BrAt h e.b e.t e.d e.B)(hn:e.num∉Y.es.map (·.num))(fr:∀a∈[e.b,e.t,e.d],a∉Y.adr):YAt (upd h Y.st<|.dct<|Zy rfV<|stands<|Y.es++[e]) {Y with es:=Y.es++[e]}:=by
 obtain⟨⟨a1,a2,a3,a4⟩,⟨b1,b2,b3⟩,⟨c1,c2⟩,d1⟩:=Yd.five x.nd;have Γ:Y.st∈Y.adr:=â _ (by simp);have nb:∀a∈enA (Y.es++[e]),a≠Y.st:=fun a ha=>by
  rw[K9]at ha;rcases é.mp ha with ha|ha
  .exact Yd.sep x.nd (by simp) ha
  .exact fun z=>fr a ha<|z▸Γ
 refine⟨(upd_ne a2).trans x.ins,(upd_ne b1).trans x.lives,upd_same,(upd_ne c1.symm).trans x.fallen,(upd_ne c2.symm).trans x.road,fun q hq=>?_,?_,?_⟩
 .refine BrAt.off ?_ hq nb;rcases é.mp hq with hq|hq
  .exact x.brs q hq
  .rw[á.mp hq];exact hb
 .show([Y.y,Y.lv,Y.st,Y.fl,Y.rd]++enA (Y.es++[e])).Nodup;rw[K9,<-ŗ,ê];refine⟨x.nd,?_,fun a ha b hb z=>fr b hb<|z▸ha⟩;simp[hb.nbt,hb.nbd,hb.ne]
 .show((Y.es++[e]).map (·.num)).Nodup;rw[Ü,ê];refine⟨x.key,by simp,fun a ha b hb=>?_⟩;have:b=e.num:=by simpa using hb
  rw[this];exact fun z=>hn<|z▸ha
theorem WJ{h0:Hs}{fs:List (String×Val)}{f:String}{K:Hs->Prop}(i:g p=some (.ins "Yard" fs))(x:Ex [p] h0 g)(hp:h0 p=none)(ha:g a=none)(m:fs.length<900)(q:∀g',g' p=some (.ins "Yard"<|putF fs f<|.ref a)->g' a=some o->Ex [p] h0 g'->Ex [p] g g'->p≠a->h0 a=none->K g'):go (putFV (upd g a o) (.ref p) f<|.ref a) K:=by
 have n:=Za i ha;have y:Ex [p] g<|upd (upd g a o) p<|.ins "Yard"<|putF fs f<|.ref a:=⟨fun{b u} nb e=>by rw[upd_ne fun z=>nb<|by simp[z],upd_ne<|Za e ha];exact e⟩
 refine Z7 (upd_ne' n i) m<|q _ upd_same ((upd_ne n.symm).trans upd_same) (x.trans y) y n ?_;cases z:h0 a with
 |none=>rfl
 |some u=>rw[x.get (by simpa using n.symm) z]at ha;cases ha
structure YNew(bs:List Int)(ts:List Tie)(most:Int)(Y:Yd):Prop where
 hb:Y.bs=bs
 ht:Y.ts=ts
 hm:Y.most=most
 num:Y.es.map (·.num)=bs
 br:∀e∈Y.es,e.B=MM e.num 0 most (nbs e.num 0 ts)
 fallen:Y.fallen=[]
 road:Y.road=[]
 lives:Y.lives=bs.map fun b=>(b,0)
section
variable {bs:List Int}{ts:List Tie}
theorem NC(no:NetOk bs ts)(hp:h p=none)(k:∀Y g,Y.y=p->YAt g Y->YNew bs ts most Y->(∀a∈Y.adr,h a=none)->Ext h g->Q .non g):wF P (n+3) "Yard.__init__" [.ref p,ZX bs ts,.int most] (upd h p<|.ins "Yard" []) Q X:=by
 have h10:=no.ten;have h16:=no.sixteen;have hbl:(bs.map Val.int).length=bs.length:=Â _;have ndb:bs.Nodup:=no.up.imp fun h=>by omega
 refine Nc ?_;refine' Z7 upd_same (show(1:Nat)<900 by decide) ?_;rw[upd_upd,upd_upd];have i1:=upd_same (h:=h) (a:=p) (o:=Ob.ins "Yard"<|putF (putF [] "net_made_of"<|ZX bs ts) "greatest_age"<|.int most);have x1:Ex [p] h<|upd h p<|Ob.ins "Yard"<|putF (putF [] "net_made_of"<|ZX bs ts) "greatest_age"<|.int most:=Ex.upd (by simp);generalize upd h p (Ob.ins "Yard"<|putF (putF [] "net_made_of"<|ZX bs ts) "greatest_age"<|.int most)=g1 at i1 x1 ⊢;walk_at "py";intro lv hlv;refine' WJ i1 x1 hp hlv (show(2:Nat)<900 by decide) fun g2 i2 lv2 x2 y2 nlv flv=>?_;walk_at "py";intro st Γ;refine' WJ i2 x2 hp Γ (show(3:Nat)<900 by decide) fun g3 i3 st3 x3 y3 nst fst=>?_;walk_at "py";intro fl hfl;refine' WJ i3 x3 hp hfl (show(4:Nat)<900 by decide) fun g4 i4 fl4 x4 y4 nfl ffl=>?_;refine' YO fun rd hrd=>?_;refine' WJ i4 x4 hp hrd (show(5:Nat)<900 by decide) fun g5 i5 rd5 x5 y5 nrd frd=>?_;have q1:lv≠st:=Za lv2 Γ;have lv3:=y3.get (by simpa using nlv.symm) lv2;have q2:lv≠fl:=Za lv3 hfl;have q3:st≠fl:=Za st3 hfl;have lv4:=y4.get (by simpa using nlv.symm) lv3;have st4:=y4.get (by simpa using nst.symm) st3;have q4:lv≠rd:=Za lv4 hrd;have q5:st≠rd:=Za st4 hrd;have q6:fl≠rd:=Za fl4 hrd;have lv5:=y5.get (by simpa using nlv.symm) lv4;have st5:=y5.get (by simpa using nst.symm) st4;have fl5:=y5.get (by simpa using nfl.symm) fl4;have xe:Ext h g5:=⟨fun{a o} e=>x5.get (by simpa using Za e hp) e⟩
 have Y0:YAt g5 ⟨p,lv,st,fl,rd,bs,ts,most,[],[],[],[]⟩:=⟨i5,lv5,st5,fl5,rd5,(fun e he=>absurd he Ý),by
   show([p,lv,st,fl,rd]++[]).Nodup
   simp[nlv,nst,nfl,nrd,q1,q2,q3,q4,q5,q6],Ŋ⟩
 exists ix_tup (xs:=[.tup<|bs.map .int,.tup<|ts.map trV]) (v:=.tup<|bs.map .int) rfl
 refine' Zl (fun i en g=>∃v3 lvs es,en=[some<|.ref p,some<|ZX bs ts,some<|.int most,v3]/\YAt g ⟨p,lv,st,fl,rd,bs,ts,most,lvs,es,[],[]⟩/\lvs=(bs.take i).map (fun b=>(b,0))/\es.map (·.num)=bs.take i/\(∀e∈es,e.B=MM e.num 0 most (nbs e.num 0 ts))/\(∀a∈[p,lv,st,fl,rd]++enA es,h a=none)/\Ext h g) ⟨_,[],[],rfl,Y0,rfl,rfl,(fun e he=>absurd he Ý),?_,xe⟩ (fun _ _ _ _ _=>trivial) ?_ ?_
 .intro a ha;simp only[enA,List.flatMap_nil,Ĕ,Ç,Ý,or_false]at ha;rcases ha with rfl|rfl|rfl|rfl|rfl<;>assumption
 .rintro i v en g hv ⟨v3,lvs,es,rfl,Y,hlv,hnum,hbr,dz,x⟩ K hK;obtain⟨b,hb,rfl⟩:=ZE hv;have hi:i<bs.length:=(Í.mp hb).1;have hnb:b∉es.map (·.num):=by
   rw[hnum];intro m;have:=ZN (f:=id) (by rw[Ō];exact ndb) hb;rw[Ō]at this;exact this m
  have hll:lvs.length<=10:=by rw[hlv,Â,ø];omega
  have hkl:b∉lvs.map (·.1):=by rw[hlv,ÿ,show((fun q:Int×Int=>q.1) ∘ fun b:Int=>(b,(0:Int)))=id from rfl,Ō,<-hnum];exact hnb
  have hesl:es.length<=10:=by rw[<-Â (f:=(·.num)) (as:=es),hnum,ø];omega
  obtain⟨yi,yl,ys,yf,yr,yb,ynd,yk⟩:=id Y;dsimp only at yi yl ys yf yr yb;refine' Wc (k:=.int b) yl ⟨rfl,by rw[Oi];exact ß hll<|by decide⟩ ?_;rw[YZ (val:=Val.int)];have Y1:=Y.setLives<|Z8 lvs b 0;have x1:Ext h<|upd g lv<|.dct<|Zy Val.int<|Z8 lvs b 0:=⟨fun e=>by rw[upd_ne<|Za e flv];exact x.get e⟩
  dsimp only at Y1;generalize upd g lv (.dct<|Zy Val.int<|Z8 lvs b 0)=g6 at Y1 x1;obtain⟨zi,zl,zs,zf,zr,zb,znd,zk⟩:=id Y1;dsimp only at zi zl zs zf zr zb;refine' J4 h16 fun pn g7 hpn x7 en=>?_;have Y7:=Y1.ext x7;walk_at "py";intro q hq;have nr:=Wf (b:=b) (l:=ts) (k:=0);have nl:=Xc (b:=b) (l:=ts) (k:=0);have xq:Ext g7<|upd g7 q<|.ins "Bridge" []:=Ext.new hq;have eq:(upd g7 q<|.ins "Bridge" []) q=some (.ins "Bridge" []):=upd_same;refine E9 (rs:=nbs b 0 ts) eq (xq.get en) (nr.1.imp fun z=>by omega) (by omega) fun t d g8 ht hd ba x8=>?_;have x78:Ext g7 g8:=⟨fun{a o} e=>x8.get (by simpa using Za e hq)<|xq.get e⟩
  have Y8:=Y7.ext x78;have ht7:g7 t=none:=by cases z:g7 t with|none=>rfl|some o=>rw[xq.get z]at ht;cases ht
  have hd7:g7 d=none:=by cases z:g7 d with|none=>rfl|some o=>rw[xq.get z]at hd;cases hd
  refine⟨rfl,?_⟩;obtain⟨wi,wl,ws,wf,wr,wb,wnd,wk⟩:=id Y8;dsimp only at wi wl ws wf wr wb;refine' Wc (k:=.int b) ws ⟨rfl,by rw[Oi];unfold stands;rw[Â];exact ß hesl<|by decide⟩ ?_;rw[YZ (val:=rfV),XS _<|by rw[YV];exact hnb];have Γ:stands es++[(b,q)]=stands (es++[⟨b,q,t,d,MM b 0 most<|nbs b 0 ts⟩]):=by unfold stands;rw[Ü];rfl
  rw[Γ];have fr:∀a∈[q,t,d],g7 a=none:=fun a ha=>by simp only[Ç,Ý,or_false]at ha;rcases ha with rfl|rfl|rfl<;>assumption
  have Y9:=Y8.stands (e:=⟨b,q,t,d,MM b 0 most<|nbs b 0 ts⟩) ba hnb fun a ha z=>Y7.taken z<|fr a ha;walk_at "py";have x9:Ext h g8:=(x1.trans x7).trans x78;refine hK _ _ ⟨_,_,_,rfl,Y9,?_,?_,?_,?_,⟨fun e=>by rw[upd_ne<|Za e fst];exact x9.get e⟩⟩
  .show Z8 lvs b 0=_;rw[XS _ hkl,hlv,Zk hb,Ü];rfl
  .rw[Ü,hnum,ů,hb];rfl
  .intro e he;rcases é.mp he with he|he
   .exact hbr e he
   .rw[á.mp he]
  .intro a ha;rw[K9,<-ŗ]at ha;rcases é.mp ha with ha|ha
   .exact dz a ha
   .cases z:h a with
    |none=>rfl
    |some o=>have:=fr a ha;rw[(x1.trans x7).get z]at this;cases this
 .rintro en g ⟨v3,lvs,es,rfl,Y,hlv,hnum,hbr,dz,x⟩;rw[hbl,ó]at hnum hlv;refine' k _ g rfl Y ⟨rfl,rfl,rfl,hnum,hbr,rfl,rfl,hlv⟩ dz x
end
noncomputable def AA(ts:List Tie)(p num:Int):Int:=far (ts[p.toNat]?.getD (0,0,0)) num
noncomputable def ZD(ts:List Tie)(num:Int)(B:Br):List<|Int×Int×Int×L:=(sortI (B.ties.map (·.1))).map fun p=>(num,AA ts p num,p,Zq B p)
theorem Yp(pre ĸ:List En)(e:En):enA (pre++e::ĸ)=enA pre++([e.b,e.t,e.d]++enA ĸ):=by unfold enA;rw[cU];rfl
variable {ĸ:List En}
theorem YAt.change{pre:List En}(x:YAt h Y)(he:Y.es=pre++e::ĸ)(ex:Ex [e.b] h g)(hb:BrAt g e.b t d B)(ft:t=e.t\/h t=none)(fd:d=e.d\/h d=none):YAt g {Y with es:=pre++⟨e.num,e.b,t,d,B⟩::ĸ}:=by
 obtain⟨y,lv,st,fl,rd,bs,ts,most,lives,es,fallen,road⟩:=Y;dsimp only at he;subst he;have hm:e∈pre++e::ĸ:=by simp
 have heA:=Jz hm;have nb:∀a∈[y,lv,st,fl,rd],a∉[e.b]:=fun a ha z=>Yd.sep x.nd ha heA.1 (á.mp z).symm;have nd0:([y,lv,st,fl,rd]++(enA pre++([e.b,e.t,e.d]++enA ĸ))).Nodup:=by rw[<-Yp];exact x.nd
 have key:∀q∈pre++ĸ,BrAt g q.b q.t q.d q.B:=fun q hq=>by
  have hq':q∈pre++e::ĸ:=by
   rcases é.mp hq with z|z
   .exact â _ z
   .exact Ê _<|Ô _ z
  have nq:∀a∈[q.b,q.t,q.d],a≠e.b:=fun a ha z=>by
   have n1:=(ê.mp nd0).2.1;rcases é.mp hq with hq|hq
   .have ha':a∈enA pre:=Š.mpr ⟨q,hq,ha⟩;exact(ê.mp n1).2.2 a ha' e.b (by simp) z
   .have ha':a∈enA ĸ:=Š.mpr ⟨q,hq,ha⟩;have n2:=(ê.mp n1).2.1;exact(ê.mp n2).2.2 e.b (by simp) a ha' z.symm
  exact(x.brs q hq').keep ex (by simpa using nq _ (by simp)) (by simpa using nq _ (by simp)) (by simpa using nq _ (by simp))
 have tk:∀a∈[y,lv,st,fl,rd]++(enA pre++([e.b,e.t,e.d]++enA ĸ)),h a≠none:=fun a ha=>x.taken (by show a∈[y,lv,st,fl,rd]++enA (pre++e::ĸ);rw[Yp];exact ha);have fr:∀{a c:Ad},(a=c\/h a=none)->∀z,z∈[y,lv,st,fl,rd]++(enA pre++([e.b,e.t,e.d]++enA ĸ))->z≠c->z≠a:=fun f z hz nc e=>by
  subst e;rcases f with f|f
  .exact nc f
  .exact tk z hz f
 refine⟨ex.get (nb _<|by simp) x.ins,ex.get (nb _<|by simp) x.lives,?_,ex.get (nb _<|by simp) x.fallen,ex.get (nb _<|by simp) x.road,fun q hq=>?_,?_,?_⟩
 .have:=ex.get (nb st<|by simp) x.stand;dsimp only at this ⊢;rw[this];unfold O.stands;simp
 .dsimp only at hq;rcases é.mp hq with z|z
  .exact key q<|â _ z
  .rcases Ç.mp z with rfl|z
   .exact hb
   .exact key q<|Ê _ z
 .show([y,lv,st,fl,rd]++enA (pre++⟨e.num,e.b,t,d,B⟩::ĸ)).Nodup;rw[Yp];dsimp only;have n1:=ê.mp nd0;have n2:=ê.mp n1.2.1;have n3:=ê.mp n2.2.1;have e3:e.b≠e.t/\e.b≠e.d/\e.t≠e.d:=by
   have:=n3.1;simp only[ě,Ç,Ý,or_false,not_or,Ŋ,and_true,not_false_eq_true]at this;exact⟨this.1.1,this.1.2,this.2⟩
  have out:∀z,z∈[y,lv,st,fl,rd]\/z∈enA pre\/z∈enA ĸ->z∉[e.b,t,d]:=fun z hz m=>by
   have hza:z∈[y,lv,st,fl,rd]++(enA pre++([e.b,e.t,e.d]++enA ĸ)):=by
    rcases hz with q|q|q
    .exact â _ q
    .exact Ê _<|â _ q
    .exact Ê _<|Ê _<|Ê _ q
   have nz:∀c∈[e.b,e.t,e.d],z≠c:=fun c hc w=>by
    rcases hz with q|q|q
    .exact n1.2.2 z q c (Ê _<|â _ hc) w
    .exact n2.2.2 z q c (â _ hc) w
    .exact n3.2.2 c hc z q w.symm
   simp only[Ç,Ý,or_false]at m;rcases m with m|m|m
   .exact nz e.b (by simp) m
   .exact fr ft z hza (nz e.t<|by simp) m
   .exact fr fd z hza (nz e.d<|by simp) m
  refine ê.mpr ⟨n1.1,ê.mpr ⟨n2.1,ê.mpr ⟨?_,n3.2.1,fun a ha b hb z=>out b (.inr<|.inr hb)<|z▸ha⟩,fun a ha b hb z=>?_⟩,fun a ha b hb z=>?_⟩
  .simp[hb.nbt,hb.nbd,hb.ne]
  .rcases é.mp hb with q|q
   .exact out a (.inr<|.inl ha)<|z▸q
   .exact n2.2.2 a ha b (Ê _ q) z
  .rcases é.mp hb with q|q
   .exact n1.2.2 a ha b (â _ q) z
   .rcases é.mp q with q|q
    .exact out a (.inl ha)<|z▸q
    .exact n1.2.2 a ha b (Ê _<|Ê _ q) z
 .have:=x.key;simpa using this
theorem YAt.inner{pre:List En}(x:YAt h Y)(he:Y.es=pre++e::ĸ)(ex:Ex [e.b,e.t,e.d] h g)(hb:BrAt g e.b e.t e.d B):YAt g {Y with es:=pre ++ {e with B:=B} :: ĸ}:=by
 obtain⟨y,lv,st,fl,rd,bs,ts,most,lives,es,fallen,road⟩:=Y;dsimp only at he;subst he;have nd0:([y,lv,st,fl,rd]++(enA pre++([e.b,e.t,e.d]++enA ĸ))).Nodup:=by rw[<-Yp];exact x.nd
 have n1:=ê.mp nd0;have n2:=ê.mp n1.2.1;have n3:=ê.mp n2.2.1;have nb:∀a∈[y,lv,st,fl,rd],a∉[e.b,e.t,e.d]:=fun a ha z=>n1.2.2 a ha a (Ê _<|â _ z) rfl;have key:∀q,q∈pre\/q∈ĸ->BrAt g q.b q.t q.d q.B:=fun q hq=>by
  have hq':q∈pre++e::ĸ:=by
   rcases hq with z|z
   .exact â _ z
   .exact Ê _<|Ô _ z
  have nq:∀a∈[q.b,q.t,q.d],a∉[e.b,e.t,e.d]:=fun a ha z=>by
   rcases hq with hq|hq
   .exact n2.2.2 a (Š.mpr ⟨q,hq,ha⟩) a (â _ z) rfl
   .exact n3.2.2 a z a (Š.mpr ⟨q,hq,ha⟩) rfl
  exact(x.brs q hq').keep ex (nq _<|by simp) (nq _<|by simp) (nq _<|by simp)
 refine⟨ex.get (nb _<|by simp) x.ins,ex.get (nb _<|by simp) x.lives,?_,ex.get (nb _<|by simp) x.fallen,ex.get (nb _<|by simp) x.road,fun q hq=>?_,?_,?_⟩
 .have:=ex.get (nb st<|by simp) x.stand;dsimp only at this ⊢;rw[this];unfold O.stands;simp
 .dsimp only at hq;rcases é.mp hq with z|z
  .exact key q<|.inl z
  .rcases Ç.mp z with rfl|z
   .exact hb
   .exact key q<|.inr z
 .show([y,lv,st,fl,rd]++enA (pre ++ {e with B:=B} :: ĸ)).Nodup;rw[Yp];exact nd0
 .have:=x.key;dsimp only at this ⊢;simpa using this
theorem BU{xs:List Val}{v:Val}{p:Nat}{K:Val×Hs->Prop}(e1:h a=some (.lst xs))(e:xs[p]?=some v)(m:xs.length<=500000)(q:K (v,upd h a<|.lst<|xs.eraseIdx p)):go (bmV h .popAt (.ref a) [.int p]) K:=by
 have hp:p<xs.length:=(Í.mp e).1;have h1:-(2 ^ 62)<(p:Int)/\(p:Int)<2 ^ 62:=by
  have:(p:Int)<500000:=by omega
  exact⟨dU (by decide:(-(2 ^ 62):Int)<0)<|dW p,Int.lt_trans this<|by decide⟩
 have h2:ixN xs.length (p:Int)=some p:=by unfold ixN;rw[if_pos<|dW p,if_pos (by omega),í]
 have h3:bmPopAt h [.int p] a xs=some (v,upd h a<|.lst<|xs.eraseIdx p):=by unfold bmPopAt;dsimp only;rw[if_pos h1,h2];simp only[ð,e,Ľ]
 exact go_of (by show(lsOf<|h a).bind (bmPopAt h [.int p] a)=_;rw[lsE e1,ð];exact h3) q
theorem X5{α β:Type}(f:α->β):∀(l:List α) (i:Nat),(l.map f).eraseIdx i=(l.eraseIdx i).map f
 |[],_=>by simp
 |_::_,0=>by simp
 |x::l,i+1=>by simp[X5 f l i]
section
variable {Y:Yd}{p:Nat}
theorem Je{r:Int×Int×Int×L}(x:YAt h Y)(hr:Y.road[p]?=some r)(hl:Y.road.length<=500000)(k:∀g,YAt g {Y with road:=Y.road.eraseIdx p}->Ex [Y.rd] h g->Q (rdV r) g):wF P (n+1) "Yard.take_off" [.ref Y.y,.int p] h Q X:=by have xi:=x.ins;have xr:=x.road;have hp:p<Y.road.length:=(Í.mp hr).1;have hrl:(Y.road.map rdV).length=Y.road.length:=Â _;refine Ws ?_;walk_at "py";refine ifT (by simp) ?_;walk_at "py";refine ifF (by rw[hrl];simpa using hp) ?_;refine' BU xr (by rw[Ù,hr];rfl) (by omega) ?_;rw[X5];exact k _ (x.setRoad _) (Ex.upd<|by simp)
theorem FD{r:Int×Int×Int×L}{pre:List En}(x:YAt h Y)(hr:Y.road[p]?=some r)(hl:Y.road.length<=500000)(he:Y.es=pre++e::ĸ)(hg:r.2.1=e.num)(o:e.B.ok)
  (k:∀g,YAt g {Y with es:=pre ++ {e with B:=Zw e.B r.2.2.1 r.2.2.2} :: ĸ,road:=Y.road.eraseIdx p}->Ex Y.adr h g->Q .non g):wF P (n+3) "Yard.come" [.ref Y.y,.int p] h Q X:=by
 have xi:=x.ins;have hm:e∈Y.es:=by rw[he];simp
 have lk:(stands Y.es).lookup r.2.1=some e.b:=by rw[hg];exact Yw (by rw[YV];exact x.key)<|Ò.mpr ⟨e,hm,rfl⟩
 refine MP ?_;refine' Je x hr hl fun g1 y1 x1=>?_;have yi:=y1.ins;have ys:=y1.stand;have ba:=y1.brs e hm;have bi:=ba.ins;dsimp only at yi ys;obtain⟨rs,rg,rt,rl⟩:=r;dsimp only at lk hg k
 exists LL ys rfl
 rw[AJ,lk];walk_at "p";refine ZV ys rfl (by rw[Yg,lk];rfl) ?_;refine' ED ba o fun g2 b2 x2=>?_;have y2:=y1.inner (e:=e) he (x2.sub<|by simp) b2;have mA:=Jz hm;refine' k g2 y2 ((x1.sub fun a ha=>?_).trans<|x2.sub fun a ha=>?_)
 .rw[á.mp ha];exact â _ (by simp)
 .rw[á.mp ha];exact Ê _ mA.2.2
end
noncomputable def Xu:List<|List String:=[["tick"],["come"],["lost"]]
noncomputable def wordsL:List<|List String:=[["tick"],["come"],["lost"],["fall","bridge"],["fall","tie"],["back","bridge"],["back","tie"]]
theorem EN{ws:List String}(hw:ws∈Xu)(k:∀g,Ext h g->Q (.tup [.tup<|ws.map .str,.int c]) g):wF P (n+2) "read_deed" [.tup<|ws.map .str++[.int c]] h Q X:=by
 have hc:cut (ws.map Val.str++[.int c]) none (some (-1))=ws.map .str:=by simp only[Xu,Ç,Ý,or_false]at hw;rcases hw with rfl|rfl|rfl<;>rfl
 have hlast:atI (ws.map Val.str++[.int c]) (-1)=some (.int c):=by simp only[Xu,Ç,Ý,or_false]at hw;rcases hw with rfl|rfl|rfl<;>rfl
 have hlen:ws.length<=2:=by simp only[Xu,Ç,Ý,or_false]at hw;rcases hw with rfl|rfl|rfl<;>decide
 refine Np ?_;walk_at "p";refine sl_tup (xs:=ws.map Val.str++[.int c]) (lo:=none) (hi:=some (-1)) (by rw[ë,Â];intro z;have:=z.2;unfold cutAt at this;simp at this;omega) ?_;rw[hc];refine' ⟨ß (by rw[Â];exact hlen) (by decide),Xf (fun _=>some<|.bl true) trivial (fun v hv K hK=>?_) ?_⟩
 .obtain⟨u,_,rfl⟩:=Ò.mp hv;walk_at "p";exact hK
 rw[show(ws.map Val.str).filterMap (fun _=>some<|Val.bl true)=(ws.map fun _=>true).map Val.bl by rw[ο,ÿ];exact congrFun (bN (f:=fun _:String=>Val.bl true)) ws];refine Zh fun p1 g1 bE x1 e1=>?_
 exists GV (bs:=ws.map fun _=>true) e1 (Jl _)
 have ha:(ws.map fun _=>true).all id=true:=by simp
 walk_at "py";refine ifF (by simp) ?_;walk_at "py";have hin:∀{h:Hs},cmpV h .notin (.tup<|ws.map .str) (.tup<|wordsL.map fun l=>.tup<|l.map .str)=some false:=fun{h}=>by simp only[Xu,Ç,Ý,or_false]at hw;rcases hw with rfl|rfl|rfl<;>rfl
 refine go_of (a:=false) hin ?_;walk_at "p";refine ix_tup hlast ?_
 exists NW
 walk_at "p";refine ix_tup hlast ?_;refine' k g1 x1
inductive Dd where
 |tick (b:Int)|come (b:Int)|lost (b:Int)
noncomputable def Dd.ws:Dd->List String
 |.tick _=>["tick"]|.come _=>["come"]|.lost _=>["lost"]
noncomputable def Dd.num:Dd->Int
 |.tick c=>c|.come c=>c|.lost c=>c
noncomputable def Dd.fn:Dd->String
 |.tick _=>"Yard.tick_of" | .come _=>"Yard.come" | .lost _=>"Yard.take_off"
noncomputable abbrev Dd.v(d:Dd):Val:=.tup<|d.ws.map .str++[.int d.num]
theorem Dd.words(d:Dd):d.ws∈Xu:=by cases d<;>simp[Dd.ws,Xu]
theorem Yl(x:Ext h g)(hp:g p=none):h p=none:=by
 cases z:h p with
 |none=>rfl
 |some o=>rw[x.get z]at hp;cases hp
variable {ts:List Tie}
theorem Ej{i:Int}(h0:0<=i)(h1:i<ts.length):atI (ts.map trV) i=some (trV<|ts[i.toNat]?.getD (0,0,0)):=by
 have h2:i.toNat<ts.length:=by omega
 refine Xv h0 ?_;rw[Ù,Ë h2];rfl
theorem AS{pre:List En}(x:YAt h Y)(he:Y.es=pre++e::ĸ)(o:e.B.ok)(hp:∀q∈e.B.ties,q.1<Y.ts.length)(hr:Y.road.length<=100000)
  (k:∀d g,YAt g {Y with es:=pre++⟨e.num,e.b,e.t,d,e.B.ticked⟩::ĸ,road:=Y.road++ZD Y.ts e.num e.B.told}->h d=none->Ex Y.adr h g->Q .non g):wF P (n+5) "Yard.tick_of" [.ref Y.y,.int e.num] h Q X:=by
 have hm:e∈Y.es:=by rw[he];simp
 have lk:(stands Y.es).lookup e.num=some e.b:=Yw (by rw[YV];exact x.key)<|Ò.mpr ⟨e,hm,rfl⟩;obtain⟨xi,xl,xs,xf,xr,xb,xnd,xk⟩:=id x;refine Jd ?_
 exists UC xs rfl
 rw[AJ,lk];walk_at "p";refine ZV xs rfl (by rw[Yg,lk];rfl) ?_;have ba:=xb e hm;have bi:=ba.ins;refine' DT ba o fun p d g1 bE hd1 ba1 ep x1 npd=>?_;have Y1:=x.change he x1 ba1 (.inl rfl)<|.inr hd1;obtain⟨yi,yl,ys,yf,yr,yb,ynd,yk⟩:=id Y1;dsimp only at yi yl ys yf yr yb;have npa:∀a∈Y.adr,a≠p:=fun a ha z=>x.taken ha<|z▸bE;have npr:Y.rd≠p:=npa _ (â _<|by simp);have hbm:e.b∈Y.adr:=Ê _ (Jz hm).1;have htl:(sortI (e.B.told.ties.map (·.1))).length<=16:=by rw[sortI,ŕ,Â];exact o.told.tlen
 have htie:∀i∈sortI (e.B.told.ties.map (·.1)),0<=i/\i<Y.ts.length:=fun i hi=>by obtain⟨q,hq,rfl⟩:=Ò.mp<|mem_sort.mp hi;rw[show e.B.told.ties=e.B.ties from (ZO e.B.grown<|Z2 e.B.grown).2.1]at hq;exact⟨(o.rg q hq).1,hp q hq⟩
 refine' Zl (fun i en g=>∃v2 v3 v4,en=[some<|.ref Y.y,some<|.int e.num,v2,v3,v4]/\YAt g {Y with es:=pre++⟨e.num,e.b,e.t,d,e.B.ticked⟩::ĸ,road:=Y.road++(ZD Y.ts e.num e.B.told).take i}/\g p=some (.lst<|ZQ e.B.told)/\Ex Y.adr h g) ⟨_,_,_,rfl,by rw[List.take_zero,Ĕ];exact Y1,ep,x1.sub fun a ha=>by rw[á.mp ha];exact hbm⟩ (fun i en g _ ⟨_,_,_,_,_,z,_⟩=>lsE z) ?_ ?_
 .rintro i v en g hv ⟨v2,v3,v4,rfl,Yi,ep,xi⟩ K hK;obtain⟨pl,hpl,rfl⟩:=ZE hv;have hplm:=ì hpl;obtain⟨r0,r1⟩:=htie pl hplm;have et:=Ej (ts:=Y.ts) r0 r1;obtain⟨zi,zl,zs,zf,zr,zb,znd,zk⟩:=id Yi;dsimp only at zi zl zs zf zr zb;have hil:=(Í.mp hpl).1
  exists ix_tup (xs:=[.tup<|Y.bs.map .int,.tup<|Y.ts.map trV]) (v:=.tup<|Y.ts.map trV) rfl
  exists ix_tup et
  exists Du
  refine' XN zr ?_ ?_
  .rw[Â,ë,ø];exact ß (by omega:_<=100016) (by decide)
  dsimp only;have es:(ZD Y.ts e.num e.B.told)[i]?=some (e.num,AA Y.ts pl e.num,pl,Zq e.B.told pl):=by unfold ZD;rw[Ù,hpl];rfl
  have Y2:=Yi.setRoad<|Y.road++(ZD Y.ts e.num e.B.told).take (i+1);dsimp only at Y2;have er:(Y.road++(ZD Y.ts e.num e.B.told).take i).map rdV++[rdV (e.num,AA Y.ts pl e.num,pl,Zq e.B.told pl)]=(Y.road++(ZD Y.ts e.num e.B.told).take (i+1)).map rdV:=by rw[Zk es,<-ŗ,Ü (l₂:=[_])];rfl
  have er':(Y.road++(ZD Y.ts e.num e.B.told).take i).map rdV++[.tup [.int e.num,.int<|far (Y.ts[pl.toNat]?.getD (0,0,0)) e.num,.int pl,(Zq e.B.told pl).v]]=(Y.road++(ZD Y.ts e.num e.B.told).take (i+1)).map rdV:=er;rw[er'];refine' hK _ _ ⟨_,_,_,rfl,Y2,(upd_ne npr.symm).trans ep,xi.trans<|Ex.upd<|â _<|by simp⟩
 .rintro en g ⟨v2,v3,v4,rfl,Yi,ep,xi⟩;rw[show(ZQ e.B.told).length=(ZD Y.ts e.num e.B.told).length by unfold ZQ ZD;rw[Â,Â],ó]at Yi;refine' k d g Yi hd1 xi
theorem Ms{d:Dd}(x:YAt h Y)(k:∀(g:Hs) (Q':Q1),Ext h g->YAt g Y->(∀v g',Q .non g'->Q' v g')->wF P (n+5) d.fn [.ref Y.y,.int d.num] g Q' X):wF P (n+6) "Yard.deed" [.ref Y.y,d.v] h Q X:=by
 have xi0:=x.ins;refine NJ ?_;refine' EN d.words fun g1 x1=>?_;have x':=x.ext x1;have xi:=x'.ins;cases d<;>(
   walk_at "py"
   repeat (first
     |(refine go_of (a:=false) rfl ?_;walk_at "py";refine ifF rfl ?_;walk_at "py")
     | (refine go_of (a:=true) rfl ?_;walk_at "py";refine ifT rfl ?_;walk_at "py"))
   refine k g1 _ x1 x' fun v g' q=>?_
   refine' q)
structure Yc where
 bs:List Int
 ts:List Tie
 most:Int
 br:List<|Int×Br
 road:List<|Int×Int×Int×L
noncomputable def enC(es:List En):List<|Int×Br:=es.map fun e=>(e.num,e.B)
noncomputable def Yd.cc(Y:Yd):Yc:=⟨Y.bs,Y.ts,Y.most,enC Y.es,Y.road⟩
noncomputable def upC(k:Int)(F:Br->Br)(l:List<|Int×Br):List<|Int×Br:=l.map fun q=>if q.1=k then(q.1,F q.2)else q
theorem YM(es:List En):(enC es).map (·.1)=es.map (·.num):=by unfold enC;rw[ÿ];rfl
variable {F:Br->Br}
theorem WH{pre:List En}(he:es=pre++e::ĸ)(nd:(es.map (·.num)).Nodup):enC (pre++⟨e.num,e.b,t,d,F e.B⟩::ĸ)=upC e.num F (enC es):=by
 subst he;rw[Ü,Ð,ê,ě]at nd;have no:∀l:List En,(∀q∈l,q.num≠e.num)->upC e.num F (enC l)=enC l:=fun l hl=>by unfold upC enC;rw[ÿ];refine Ā fun q hq=>?_;exact if_neg<|hl q hq
 have h1:=no pre fun q hq z=>nd.2.2 q.num (ė hq) e.num (by simp) z;have h2:=no ĸ fun q hq z=>nd.2.1.1<|z▸ė hq;unfold enC upC at h1 h2 ⊢;rw[Ü,Ü,Ð,Ü,Ð,h1,Ð,h2,if_pos rfl]
theorem UI{pre:List En}{rd:List (Int×Int×Int×L)}(he:Y.es=pre++e::ĸ)(ht:t=e.t)(hd:d=e.d\/h d=none):∀a∈({Y with es:=pre++⟨e.num,e.b,t,d,B⟩::ĸ,road:=rd}:Yd).adr,a∈Y.adr\/h a=none:=fun a ha=>by
 subst ht;unfold Yd.adr at ha ⊢;rw[he,Yp];dsimp only at ha;rw[Yp]at ha;simp only[é,Ç,Ý,or_false]at ha ⊢;rcases hd with rfl|hd
 .exact .inl ha
 .rcases ha with ha|ha|(rfl|rfl|rfl)|ha
  .exact .inl<|.inl ha
  .exact .inl<|.inr<|.inl ha
  .exact .inl<|.inr<|.inr<|.inl<|.inl rfl
  .exact .inl<|.inr<|.inr<|.inl<|.inr<|.inl rfl
  .exact .inr hd
  .exact .inl<|.inr<|.inr<|.inr ha
structure Bok(m:Nat)(B:Br):Prop where
 ok:B.ok
 pl:∀t∈B.ties,t.1<m
theorem Bok.ticked{m:Nat}(o:Bok m B):Bok m B.ticked:=⟨o.ok.ticked,fun t ht=>o.pl t<|by rwa [show B.ticked.ties=B.ties from (ZO B.grown<|Z2 B.grown).2.1]at ht⟩
theorem Bok.heard{m:Nat}(o:Bok m B){p:Int}{l:L}:Bok m<|Zw B p l:=⟨o.ok.heard,fun t ht=>o.pl t<|by revert ht;unfold Zw;split<;>(try split)<;>exact id⟩
structure Yc.gd(C:Yc)(N:Nat):Prop where
 no:NetOk C.bs C.ts
 ks:C.br.map (·.1)=C.bs
 ok:∀q∈C.br,Bok C.ts.length q.2
 len:C.road.length<=N
theorem M8{k:Int}(l:List<|Int×Br):(upC k F l).map (·.1)=l.map (·.1):=by unfold upC;rw[ÿ];refine Ā fun e _=>?_;show(if e.1=k then(e.1,F e.2)else e).1=e.1;split<;>rfl
theorem OY{k:Int}{l:List (Int×Br)}{R:Br->Prop}(h:∀q∈l,R q.2)(hF:∀B,R B->R (F B)):∀q∈upC k F l,R q.2:=fun q hq=>by
 obtain⟨e,he,rfl⟩:=Ò.mp hq;split
 .exact hF _<|h e he
 .exact h e he
theorem An{b:Int}(o:B.ok):(ZD ts b B.told).length<=16:=by unfold ZD;rw[Â,sortI,ŕ,Â];exact o.told.tlen
structure Mv(h:Hs)(Y:Yd)(g:Hs)(Z:Yd):Prop where
 y:Z.y=Y.y
 at_:YAt g Z
 nw:∀a∈Z.adr,a∈Y.adr\/h a=none
 ex:Ex Y.adr h g
theorem Mv.refl(x:YAt h Y):Mv h Y h Y:=⟨rfl,x,fun _=>.inl,Ex.refl⟩
variable {Z:Yd}
theorem Mv.off(m:Mv h Y g Z)(na:a∉Y.adr)(e:h a=some o):a∉Z.adr/\g a=some o:=⟨fun z=>(m.nw a z).elim na fun y=>(by rw[e]at y;cases y),m.ex.get na e⟩
theorem Mv.trans{f:Hs}{W:Yd}(m:Mv h Y g Z)(l:Mv g Z f W):Mv h Y f W:=by
 refine⟨l.y.trans m.y,l.at_,fun a ha=>?_,⟨fun na e=>let ⟨h1,h2⟩:=m.off na e;l.ex.get h1 h2⟩⟩;rcases l.nw a ha with z|z
 .exact m.nw a z
 .by_cases na:a∈Y.adr
  .exact .inl na
  .cases e:h a with
   |none=>exact .inr rfl
   |some o=>rw[m.ex.get na e]at z;cases z
theorem Mv.ext{f:Hs}(m:Mv h Y g Z)(x:Ext g f):Mv h Y f Z:=⟨m.y,m.at_.ext x,m.nw,m.ex.trans<|.of x⟩
theorem Mv.put(m:Mv h Y g Z)(hp:h p=none)(np:p∉Z.adr):Mv h Y (upd g p o) Z:=⟨m.y,m.at_.keep (S:=[p]) (Ex.upd<|by simp) fun a ha z=>np<|á.mp z▸ha,m.nw,⟨fun na e=>by rw[upd_ne<|Za e hp];exact m.ex.get na e⟩⟩
section
variable {N:Nat}{Y:Yd}
theorem Od{b:Int}(gd:Y.cc.gd N)(hb:b∈Y.bs):∃e pre ĸ,Y.es=pre++e::ĸ/\e.num=b/\Bok Y.ts.length e.B:=by
 have h1:b∈(enC Y.es).map (·.1):=by rw[show(enC Y.es).map (·.1)=Y.bs from gd.ks];exact hb
 rw[YM]at h1;obtain⟨e,he,rfl⟩:=Ò.mp h1;obtain⟨pre,ĸ,hp⟩:=List.append_of_mem he;exact⟨e,pre,ĸ,hp,rfl,gd.ok (e.num,e.B)<|Ò.mpr ⟨e,he,rfl⟩⟩
theorem OR{b:Int}(x:YAt h Y)(gd:Y.cc.gd N)(hN:N<=10000)(hb:b∈Y.bs)(k:∀Y' g' B,(b,B)∈Y.cc.br->Y'.cc={Y.cc with br:=upC b Br.ticked Y.cc.br,road:=Y.road++ZD Y.ts b B.told}->Y'.cc.gd (N+16)->Mv h Y g' Y'->Q .non g'):wF P (n+6) "Yard.deed" [.ref Y.y,.tup [.str "tick",.int b]] h Q X:=by
 refine Ms (d:=.tick b) x fun g Q' x1 x' hq=>?_;obtain⟨e,pre,ĸ,he,rfl,bo⟩:=Od gd hb;have hl:Y.road.length<=N:=gd.len;have hm:e∈Y.es:=by rw[he];simp
 refine AS x' he bo.ok bo.pl (by omega) fun d' g2 y2 hd x2=>hq _ _<|k {Y with es:=pre++⟨e.num,e.b,e.t,d',e.B.ticked⟩::ĸ,road:=Y.road++ZD Y.ts e.num e.B.told} g2 e.B (Ò.mpr ⟨e,hm,rfl⟩) ?_ ⟨gd.no,?_,?_,?_⟩ ⟨rfl,y2,fun a ha=>(UI he rfl (.inr hd) a ha).imp id<|Yl x1,(Ex.of x1).trans x2⟩
 .unfold Yd.cc;dsimp only;rw[WH (F:=Br.ticked) he x.key]
 .show(enC<|pre++⟨e.num,e.b,e.t,d',e.B.ticked⟩::ĸ).map (·.1)=Y.bs;rw[WH (F:=Br.ticked) he x.key,M8];exact gd.ks
 .show ∀q∈enC (pre++⟨e.num,e.b,e.t,d',e.B.ticked⟩::ĸ),Bok Y.ts.length q.2;rw[WH (F:=Br.ticked) he x.key];exact OY gd.ok fun _ o=>o.ticked
 .have:=An (ts:=Y.ts) (b:=e.num) bo.ok;show(Y.road++ZD Y.ts e.num e.B.told).length<=_;rw[ë];omega
theorem Mx{p:Nat}{r:Int×Int×Int×L}(x:YAt h Y)(gd:Y.cc.gd N)(hN:N<=10000)(hr:Y.road[p]?=some r)(hb:r.2.1∈Y.bs)(k:∀Y' g',Y'.cc={Y.cc with br:=upC r.2.1 (Zw · r.2.2.1 r.2.2.2) Y.cc.br,road:=Y.road.eraseIdx p}->Y'.cc.gd N->Mv h Y g' Y'->Q .non g'):wF P (n+6) "Yard.deed" [.ref Y.y,.tup [.str "come",.int p]] h Q X:=by
 refine Ms (d:=.come p) x fun g Q' x1 x' hq=>?_;obtain⟨e,pre,ĸ,he,hn,bo⟩:=Od gd hb;have hl:Y.road.length<=N:=gd.len;have ec:=WH (F:=(Zw · r.2.2.1 r.2.2.2)) (t:=e.t) (d:=e.d) he x.key;refine FD x' hr (by omega) he hn.symm bo.ok fun g2 y2 x2=>hq _ _<|k {Y with es:=pre ++ {e with B:=Zw e.B r.2.2.1 r.2.2.2} :: ĸ,road:=Y.road.eraseIdx p} g2 ?_ ⟨gd.no,?_,?_,?_⟩ ⟨rfl,y2,fun a ha=>(UI he rfl (.inl rfl) a ha).imp id<|Yl x1,(Ex.of x1).trans x2⟩
 .unfold Yd.cc;dsimp only;rw[ec,hn]
 .show(enC<|pre++_::ĸ).map (·.1)=Y.bs;rw[ec,M8];exact gd.ks
 .show ∀q∈enC (pre++_::ĸ),Bok Y.ts.length q.2;rw[ec];exact OY gd.ok fun _ o=>o.heard
 .exact Ó (bB _ _) hl
theorem Ue{p:Nat}{r:Int×Int×Int×L}(x:YAt h Y)(gd:Y.cc.gd N)(hN:N<=10000)(hr:Y.road[p]?=some r)(k:∀Y' g',Y'.cc={Y.cc with road:=Y.road.eraseIdx p}->Y'.cc.gd N->Mv h Y g' Y'->Q .non g'):wF P (n+6) "Yard.deed" [.ref Y.y,.tup [.str "lost",.int p]] h Q X:=by refine Ms (d:=.lost p) x fun g Q' x1 x' hq=>?_;have hl:Y.road.length<=N:=gd.len;exact Je x' hr (by omega) fun g2 y2 x2=>hq _ _ (k {Y with road:=Y.road.eraseIdx p} g2 rfl ⟨gd.no,gd.ks,gd.ok,Ó (bB _ _) hl⟩ ⟨rfl,y2,fun a ha=>.inl ha,(Ex.of x1).trans<|x2.sub fun a ha=>by rw[á.mp ha];exact â _<|by simp⟩)
end
noncomputable def Yc.at_(C:Yc)(b:Int):Br:=(C.br.lookup b).getD<|MM 0 0 0 []
noncomputable def Yc.ends(C:Yc)(p:Int):String×String:=(Wk (C.at_ (C.ts[p.toNat]?.getD (0,0,0)).1) p,Wk (C.at_ (C.ts[p.toNat]?.getD (0,0,0)).2.1) p)
variable {N:Nat}
theorem YAt.at_(x:YAt h Y)(gd:Y.cc.gd N){b:Int}(hb:b∈Y.bs):∃e∈Y.es,e.num=b/\(O.stands Y.es).lookup b=some e.b/\Y.cc.at_ b=e.B/\BrAt h e.b e.t e.d e.B:=by
 obtain⟨e,pre,ĸ,he,rfl,bo⟩:=Od gd hb;have hm:e∈Y.es:=by rw[he];simp
 refine⟨e,hm,rfl,Yw (by rw[YV];exact x.key)<|Ò.mpr ⟨e,hm,rfl⟩,?_,x.brs e hm⟩;have:(enC Y.es).lookup e.num=some e.B:=Yw (by rw[YM];exact x.key)<|Ò.mpr ⟨e,hm,rfl⟩;show((enC Y.es).lookup e.num).getD _=_;rw[this];rfl
def Pl:Nat->Val->Prop
 |_,.non=>True
 |_,.int _=>True
 |_,.str s=>True
 |d+1,.tup xs=>xs.length<=100/\∀x∈xs,Pl d x
 |_,_=>False
theorem WM{xs:List Val}(e:h a=some (.lst xs))(T:String):isiAny h (.ref a) [T]=some (T == "list"):=by
 unfold isiAny isiV kindV;simp only[e,Ľ,ð,isiAny];by_cases z:T = "list"
 .subst z;rfl
 .have e1:("list" == T)=false:=beq_eq_false_iff_ne.mpr fun y=>z y.symm;have e2:(T == "list")=false:=beq_eq_false_iff_ne.mpr z;rw[e1,e2];rfl
theorem Ni(k:Q (.bl true) h):wF P (n+1) "_law_same" [.non,.non] h Q X:=by refine Z4 ?_;walk_at "py";refine ifT (by decide) ?_;refine' k
theorem M4{i:Int}(k:Q (.bl true) h):wF P (n+1) "_law_same" [.int i,.int i] h Q X:=by refine Z4 ?_;walk_at "py";refine ifF (by simp) ?_;walk_at "p";rw[decide_eq_true rfl];exact k
theorem Nd{s:String}(k:Q (.bl true) h):wF P (n+1) "_law_same" [.str s,.str s] h Q X:=by refine Z4 ?_;walk_at "py";refine ifF (by simp) ?_;walk_at "p";rw[decide_eq_true rfl];exact k
theorem Mb:∀(d:Nat){v:Val}{h:Hs}{Q:Q1},Pl d v->Q (.bl true) h->wF P (n+d+1) "_law_same" [v,v] h Q X:=by
 intro d;induction d with
 |zero =>
  intro v h Q hv k;cases v with
  |non=>exact Ni k
  |int i=>exact M4 k
  |str s=>exact Nd k
  |_=>exact hv.elim
 |succ d ih =>
  intro v h Q hv k;cases v with
  |tup xs =>
   refine Z4 ?_;walk_at "py";refine ifF (by simp) ?_;walk_at "p";refine ifF (by simp) ?_;walk_at "py";obtain⟨hl,hv⟩:=hv;refine⟨⟨by omega,by omega⟩,?_⟩;refine Zl (fun i e g=>g=h/\∃v,e=[some<|.tup xs,some<|.tup xs,v]) ⟨rfl,_,rfl⟩ (fun _ _ _ _ _=>trivial) ?_ ?_
   .rintro i v e g hvi ⟨rfl,v1,rfl⟩ K hK;obtain⟨rfl,hi⟩:=YT hvi;obtain⟨x,ex,hx⟩:=Jk (xs:=xs) (r:=(i:Int)) (by omega) hi
    exists ix_tup ex
    exists ix_tup ex
    exists ih (hv x hx)
    walk_at "p";exact hK _ _ ⟨rfl,_,rfl⟩
   .rintro e g ⟨rfl,v1,rfl⟩;refine' k
  |non=>exact Ni k
  |int i=>exact M4 k
  |str s=>exact Nd k
  |_=>exact hv.elim
theorem X0{d:Nat}{xs:List Val}(ha:h a=some (.lst xs))(hb:h b=some (.lst xs))(hl:xs.length<=100000)(hx:∀x∈xs,Pl d x)(k:Q (.bl true) h):wF P (n+d+2) "_law_same" [.ref a,.ref b] h Q X:=by
 refine Z4 ?_;walk_at "py";refine ifF (by simp) ?_
 exists CW (WM hb _)
 walk_at "p";refine CW (WM hb _) ?_;walk_at "p";refine CW (WM hb _) ?_;walk_at "p";refine CW (WM ha _) ?_;walk_at "p";refine ifF (by simp) ?_;refine' ⟨⟨by omega,by omega⟩,?_⟩;refine Zl (fun i e g=>g=h/\∃v,e=[some<|.ref a,some<|.ref b,v]) ⟨rfl,_,rfl⟩ (fun _ _ _ _ _=>trivial) ?_ ?_
 .rintro i v e g hvi ⟨rfl,v1,rfl⟩ K hK;obtain⟨rfl,hi⟩:=YT hvi;obtain⟨x,ex,hx'⟩:=Jk (xs:=xs) (r:=(i:Int)) (by omega) hi
  exists Zn ha ex
  exists Zn hb ex
  exists Mb d (hx x hx')
  walk_at "p";exact hK _ _ ⟨rfl,_,rfl⟩
 .rintro e g ⟨rfl,v1,rfl⟩;refine' k
theorem YX{l:List Int}(h:l.Pairwise (· < ·)):sortI l=l:=by have h1:=Ua (h.imp fun z=>by omega:l.Nodup);have p:=γ l fun a b=>decide (a<=b);exact p.eq_of_pairwise (fun a b _ _ z1 z2=>by omega) h1 h
section
variable {Y:Yd}{N:Nat}
theorem OW(x:YAt h Y)(k:∀p g,h p=none->Ext h g->g p=some (.lst<|Y.road.map rdV)->Q (.ref p) g):wF P (n+1) "Yard.road" [.ref Y.y] h Q X:=by have xi:=x.ins;have xr:=x.road;refine No ?_;refine' Zh k
theorem UL(x:YAt h Y)(gd:Y.cc.gd N)(k:∀p g,h p=none->Ext h g->g p=some (.lst<|Y.bs.map fun b=>.tup [.int b,(Y.cc.at_ b).label.v])->Q (.ref p) g):wF P (n+2) "Yard.labels" [.ref Y.y] h Q X:=by
 have xi:=x.ins;have xs:=x.stand;have ek:(stands Y.es).map (·.1)=Y.bs:=(YV _).trans<|(YM _).symm.trans gd.ks;have h10:Y.bs.length<=10:=gd.no.ten;refine Ka ?_;refine' N8 xs (DH _) (by rw[ek];omega) (Zh fun p1 g1 bE x1 e1=>?_);rw[ek,YX (l:=Y.bs) gd.no.up]at e1;have x':=x.ext x1;have xi:=x'.ins;have xs:=x'.stand;refine' ⟨ß (by rw[Â];exact h10) (by decide),?_⟩;refine YK (fun i ys g=>g=g1/\ys=(Y.bs.take i).map fun b=>.tup [.int b,(Y.cc.at_ b).label.v]) ⟨rfl,rfl⟩ (fun i ys g _ ⟨z,_⟩=>by rw[z];exact lsE e1) ?_ ?_
 .rintro i v ys g hv ⟨rfl,rfl⟩ K hK;obtain⟨nm,hnm,rfl⟩:=ZE hv;obtain⟨e,he,en,lk,ea,ba⟩:=x'.at_ gd<|ì hnm;have bi:=ba.ins;walk_at "p";refine ZV xs rfl (by rw[Yg,lk];rfl) ?_
  exists Nv ba
  refine' hK _ _ ⟨rfl,?_⟩;rw[Zk (xs:=Y.bs) hnm,Ü,<-ea];rfl
 .rintro ys g ⟨rfl,rfl⟩;rw[Â,ó];exact Zh fun p g2 hp x2 ep=>k p g2 (Yl x1 hp) (x1.trans x2) ep
theorem Ae(x:YAt h Y)(gd:Y.cc.gd N)(k:∀p g,h p=none->Ext h g->g p=some (.lst<|Y.bs.map fun b=>.tup [.int b,pV ((Y.cc.at_ b).life,(Y.cc.at_ b).version)])->Q (.ref p) g):wF P (n+2) "Yard.stamps" [.ref Y.y] h Q X:=by
 have xi:=x.ins;have xs:=x.stand;have ek:(stands Y.es).map (·.1)=Y.bs:=(YV _).trans<|(YM _).symm.trans gd.ks;have h10:Y.bs.length<=10:=gd.no.ten;refine JW ?_;refine' N8 xs (DH _) (by rw[ek];omega) (Zh fun p1 g1 bE x1 e1=>?_);rw[ek,YX (l:=Y.bs) gd.no.up]at e1;have x':=x.ext x1;have xi:=x'.ins;have xs:=x'.stand;refine' ⟨ß (by rw[Â];exact h10) (by decide),?_⟩;refine YK (fun i ys g=>g=g1/\ys=(Y.bs.take i).map fun b=>.tup [.int b,pV ((Y.cc.at_ b).life,(Y.cc.at_ b).version)]) ⟨rfl,rfl⟩ (fun i ys g _ ⟨z,_⟩=>by rw[z];exact lsE e1) ?_ ?_
 .rintro i v ys g hv ⟨rfl,rfl⟩ K hK;obtain⟨nm,hnm,rfl⟩:=ZE hv;obtain⟨e,he,en,lk,ea,ba⟩:=x'.at_ gd<|ì hnm;have bi:=ba.ins;walk_at "p";refine ZV xs rfl (by rw[Yg,lk];rfl) ?_
  exists YD ba
  refine' hK _ _ ⟨rfl,?_⟩;rw[Zk (xs:=Y.bs) hnm,Ü,<-ea];rfl
 .rintro ys g ⟨rfl,rfl⟩;rw[Â,ó];exact Zh fun p g2 hp x2 ep=>k p g2 (Yl x1 hp) (x1.trans x2) ep
theorem MS{b p:Int}(x:YAt h Y)(gd:Y.cc.gd N)(hb:b∈Y.bs)(k:Q (.str<|Wk (Y.cc.at_ b) p) h):wF P (n+4) "Yard.end_at" [.ref Y.y,.int b,.int p] h Q X:=by
 have xi:=x.ins;have xs:=x.stand;obtain⟨e,he,en,lk,ea,ba⟩:=x.at_ gd hb;have bi:=ba.ins;refine J5 ?_
 exists UC xs rfl
 rw[AJ,lk];walk_at "p";refine ZV xs rfl (by rw[Yg,lk];rfl) ?_;walk_at "py";rw[ea]at k;exact GC ba k
theorem Fe{p:Nat}(x:YAt h Y)(gd:Y.cc.gd N)(hp:p<Y.ts.length)(k:Q (.tup [.str (Y.cc.ends p).1,.str (Y.cc.ends p).2]) h):wF P (n+5) "Yard.ends" [.ref Y.y,.int p] h Q X:=by
 have xi:=x.ins;have htl:(Y.ts.map trV).length=Y.ts.length:=Â _;have tk:=gd.no.tie Y.ts[p]<|Ķ hp;have eg:Y.cc.ts[(p:Int).toNat]?.getD (0,0,0)=Y.ts[p]:=by show Y.ts[(p:Int).toNat]?.getD _=_;rw[í,Ë hp];rfl
 refine NM ?_
 exists WU
 walk_at "py";refine ifT (by simp) ?_
 exists ix_tup (xs:=[.tup<|Y.bs.map .int,.tup<|Y.ts.map trV]) (v:=.tup<|Y.ts.map trV) rfl
 walk_at "py";refine ifF (by rw[htl];simpa using hp) ?_
 exists ix_tup (xs:=[.tup<|Y.bs.map .int,.tup<|Y.ts.map trV]) (v:=.tup<|Y.ts.map trV) rfl
 refine' ix_tup (v:=trV Y.ts[p]) (Xv (by omega)<|by rw[í,Ù,Ë hp];rfl) ?_;unfold Yc.ends at k;rw[eg]at k;unfold trV
 exists MS x gd tk.1
 exists MS x gd tk.2.1
 refine' k
end
theorem XO:∀{a b:List Int},lexI a b=true->lexI b a=false
 |[],[],h=>by cases h
 |[],_::_,_=>rfl
 |_::_,[],h=>by cases h
 |x::xs,y::ys,h=>by
  rw[lexI]at h ⊢;by_cases e:x=y
  .subst e;rw[if_pos rfl]at h ⊢;exact XO h
  .rw[if_neg e]at h;have h:x<y:=by simpa using h
   rw[if_neg<|Ne.symm e];simp;omega
theorem K8:∀{a b c:List Int},lexI b a=false->lexI c b=false->lexI c a=false
 |[],[],[],_,_=>rfl
 |[],_,_::_,_,_=>rfl
 |[],_::_,[],_,h=>by cases h
 |_::_,[],_,h,_=>by cases h
 |_::_,_::_,[],_,h=>by cases h
 |x::xs,y::ys,z::zs,h1,h2=>by
  rw[lexI]at h1 h2 ⊢;by_cases e1:y=x
  .subst e1;rw[if_pos rfl]at h1;by_cases e2:z=y
   .subst e2;rw[if_pos rfl]at h2 ⊢;exact K8 h1 h2
   .rw[if_neg e2]at h2 ⊢;exact h2
  .rw[if_neg e1]at h1;have h1:¬ y<x:=by simpa using h1
   by_cases e2:z=y
   .subst e2;rw[if_neg e1];simpa using h1
   .rw[if_neg e2]at h2;have h2:¬ z<y:=by simpa using h2
    rw[if_neg<|by omega];simp;omega
def P4(m:List Int)(ă:List<|List Int):Prop:=m∈ă/\∀y∈ă,lexI y m=false
theorem Xs:∀(r:List<|List Int) (x:List Int),P4 (minR x r) (x::r)
 | [],x=>⟨å,fun y hy=>by
   rw[á.mp hy]
   cases q:lexI x x with
   |false=>exact q
   | true=>have:=XO q;rw[q]at this;cases this⟩
 |z::r,x=>by
  obtain⟨h1,h2⟩:=Xs r (if lexI z x then z else x);refine⟨XB (z::r) x,fun y hy=>?_⟩;show lexI y (minR (if lexI z x then z else x) r)=false;have hb:=h2 _ å;have hx:lexI x (if lexI z x then z else x)=false:=by
   cases q:lexI z x with
   |false =>
    simp only[ċ,if_false];cases q2:lexI x x with
    |false=>rfl
    |true=>have:=XO q2;rw[q2]at this;cases this
   |true=>simp only[if_true];exact XO q
  have hz:lexI z (if lexI z x then z else x)=false:=by
   cases q:lexI z x with
   |false=>simp only[ċ,if_false];exact q
   |true =>
    simp only[if_true];cases q2:lexI z z with
    |false=>rfl
    |true=>have:=XO q2;rw[q2]at this;cases this
  rcases Ç.mp hy with e|hy
  .rw[e];exact K8 hb hx
  .rcases Ç.mp hy with e|hy
   .rw[e];exact K8 hb hz
   .exact h2 y<|Ô _ hy
theorem lex_eq:∀{a b:List Int},lexI a b=false->lexI b a=false->a=b
 |[],[],_,_=>rfl
 |[],_::_,h,_=>by cases h
 |_::_,[],_,h=>by cases h
 |x::xs,y::ys,h1,h2=>by
  unfold lexI at h1 h2;by_cases e:x=y
  .subst e;rw[if_pos rfl]at h1 h2;rw[lex_eq h1 h2]
  .rw[if_neg e]at h1;rw[if_neg<|Ne.symm e]at h2;have:=of_decide_eq_false h1;have:=of_decide_eq_false h2;omega
theorem A9{x y:List Int}{r s:List (List Int)}(h:∀m,m∈x::r↔m∈y::s):minR x r=minR y s :=
 have a:=Xs r x;have b:=Xs s y
 lex_eq (b.2 _<|(h _).mp a.1) (a.2 _<|(h _).mpr b.1)
noncomputable def brs(bs:List Int)(F:Int->Br):List<|Int×Br:=bs.map fun b=>(b,F b)
theorem X1{k:Int}{G:Br->Br}{bs:List Int}{F:Int->Br}:upC k G (brs bs F)=brs bs fun b=>if b=k then G (F b)else F b:=by
 unfold upC brs;rw[ÿ];refine Ā fun b _=>?_;show(if b=k then(b,G<|F b)else(b,F b))=(b,if b=k then G (F b)else F b)
 split<;>rfl
theorem CG{bs:List Int}{F:Int->Br}{b:Int}:b∈bs->(brs bs F).lookup b=some (F b):=by
 unfold brs;induction bs with
 |nil=>intro h;cases h
 |cons a r ih =>
  intro h;rw[Ð,ä];by_cases e:b=a
  .subst e;simp
  .rw[show(b==a)=false by simpa using e];exact ih<|(Ç.mp h).resolve_left e
theorem Ui{bs:List Int}{F:Int->Br}{b:Int}(h:(b,B)∈brs bs F):B=F b:=by obtain⟨a,_,e⟩:=Ò.mp h;injection e with e1 e2;rw[<-e2,e1]
theorem ZP{bs:List Int}{F G:Int->Br}(h:∀b∈bs,F b=G b):brs bs F=brs bs G:=Ā fun b hb=>by rw[h b hb]
theorem nbs_iff{b:Int}{r:Tie}:∀{l:List Tie}{k:Nat},r∈nbs b k l↔∃i t,l[i]?=some t/\(b=t.1\/b=t.2.1)/\r=(((k+i:Nat):Int),far t b,t.2.2)
 |[],k=>⟨fun h=>absurd h (by simp[nbs]),fun⟨i,t,h,_⟩=>by simp at h⟩
 |t::l,k=>by
  have later:r∈nbs b (k+1) l↔∃i t',(t::l)[i+1]?=some t'/\(b=t'.1\/b=t'.2.1)/\r=(((k+(i+1):Nat):Int),far t' b,t'.2.2):=by rw[nbs_iff];simp only[bz,show ∀i,k+1+i=k+(i+1) from fun i=>by omega]
  have now:(∃i t',(t::l)[i]?=some t'/\(b=t'.1\/b=t'.2.1)/\r=(((k+i:Nat):Int),far t' b,t'.2.2))↔((b=t.1\/b=t.2.1)/\r=((k:Int),far t b,t.2.2))\/r∈nbs b (k+1) l:=by
   rw[later];constructor
   .rintro⟨i,t',h1,h2,h3⟩;cases i with
    |zero=>cases h1;exact .inl ⟨h2,h3⟩
    |succ i=>exact .inr ⟨i,t',h1,h2,h3⟩
   .rintro(⟨h2,h3⟩|⟨i,t',h1,h2,h3⟩)
    .exact⟨0,t,rfl,h2,h3⟩
    .exact⟨i+1,t',h1,h2,h3⟩
  rw[now];have un:nbs b k (t::l)=if b=t.1\/b=t.2.1 then((k:Int),far t b,t.2.2)::nbs b (k+1) l else nbs b (k+1) l:=rfl;rw[un];split
  .rename_i hc;rw[Ç];constructor
   .rintro(h|h)
    .exact .inl ⟨hc,h⟩
    .exact .inr h
   .rintro(h|h)
    .exact .inl h.2
    .exact .inr h
  .rename_i hc;constructor
   .exact .inr
   .rintro(h|h)
    .exact absurd h.1 hc
    .exact h
theorem B8{bs:List Int}{b p o:Int}(no:NetOk bs ts)(h:(p,o,c)∈nbs b 0 ts):(p,b,c)∈nbs o 0 ts/\o∈bs:=by
 obtain⟨i,t,h1,h2,h3⟩:=nbs_iff.mp h;obtain⟨l1,l2,l3,_⟩:=no.tie t<|ì h1;injection h3 with e1 e2;injection e2 with e2 e3;unfold far at e2;rw[nbs_iff];split at e2
 .rename_i e;subst e2;exact⟨⟨i,t,h1,.inr rfl,by rw[e1,e3];unfold far;rw[if_neg (by omega),e]⟩,l2⟩
 .rename_i e;subst e2;have e4:b=t.2.1:=h2.resolve_left fun z=>e z.symm;exact⟨⟨i,t,h1,.inl rfl,by rw[e1,e3];unfold far;rw[if_pos rfl,e4]⟩,l1⟩
theorem CM{b:Int}:((ZM<|nbs b 0 ts).map (·.1)).Nodup:=by rw[K1];exact Wf.1.imp fun z=>by omega
theorem Z9{b p o:Int}(h:(p,o,c)∈nbs b 0 ts):(ZM<|nbs b 0 ts).lookup p=some (o,c):=Yw CM (Ò.mpr ⟨(p,o,c),h,rfl⟩)
noncomputable def L0(num c:Int):L:=⟨(0,c),(0,0),num,0,0,none,none⟩
noncomputable abbrev Hd0:=List<|Int×(L×Int)
noncomputable def brH(b most r:Int)(ts:List Tie)(H:Hd0):Br:={MM b 0 most (nbs b 0 ts)with count:=r,held:=H}
def HOk(ts:List Tie)(b:Int)(H:Hd0):Prop:=∀q∈H,∃o c k,(q.1,o,c)∈nbs b 0 ts/\q.2=(L0 o k,0)
noncomputable def Z1(a:Int)(H:Hd0):Hd0:=H.map fun q=>(q.1,(q.2.1,a))
theorem Kx{a p:Int}:∀{H:Hd0},(Z1 a H).lookup p=(H.lookup p).map fun x=>(x.1,a)
 |[]=>rfl
 |q::H=>by show((q.1,(q.2.1,a))::Z1 a H).lookup p=_;rw[ä,ä,Kx (H:=H)];cases p==q.1<;>rfl
theorem WG{most:Int}(hm:2<=most):∀{H:Hd0},(∀q∈H,q.2.2=0)->ZF most H=Z1 1 H
 |[],_=>rfl
 |q::H,h=>by have e:=h q (by simp);have ih:=WG hm (H:=H) fun x hx=>h x (by simp[hx]);unfold ZF Z1 at ih ⊢;rw[Ć,Ð,<-ih,e,if_pos<|by omega];rfl
noncomputable def Z3(b:Int)(H:Hd0)(l:List Tie):List<|List Int:=(l.filter fun t=>(H.lookup t.1).isSome&&decide (t.2.1<b)).map fun t=>[t.2.1,t.2.2,t.2.1,t.1]
noncomputable def MT(b:Int):List (List Int)->Lab
 |[]=>⟨b,0,none⟩
 |x::r=>⟨(minR x r).getD 0 0,(minR x r).getD 1 0,some ((minR x r).getD 3 0,(0,0))⟩
noncomputable def Zu(b:Int)(H:Hd0)(ts:List Tie):Lab:=MT b<|Z3 b H<|nbs b 0 ts
variable {H:Hd0}
theorem HOk.zero{b:Int}(ho:HOk ts b H):∀q∈H,q.2.2=0:=fun q hq=>by obtain⟨o,c,k,_,e⟩:=ho q hq;rw[e]
theorem HOk.look{b p:Int}{x:L×Int}(ho:HOk ts b H)(h:H.lookup p=some x):∃o c k,(p,o,c)∈nbs b 0 ts/\x=(L0 o k,0):=ho _ (Yj h)
theorem HOk.alook{b p a:Int}{x:L×Int}(ho:HOk ts b H)(h:(Z1 a H).lookup p=some x):∃o k,x=(L0 o k,a):=by rw[Kx]at h;obtain⟨y,hy,rfl⟩:=Ú.mp h;obtain⟨o,c,k,_,rfl⟩:=ho.look hy;exact⟨o,k,rfl⟩
theorem U0{b:Int}(ho:HOk ts b H)(m:List Int):m∈(X6 (ZM<|nbs b 0 ts)<|Z1 1 H).filter (fun r=>decide (r.headD 0<b))↔m∈Z3 b H (nbs b 0 ts):=by
 unfold Z3 X6 Z1;rw[ē,ÿ,Ò,Ò];constructor
 .rintro⟨⟨q,hq,rfl⟩,h2⟩;obtain⟨o,c,k,h3,e⟩:=ho q hq;obtain⟨p,l⟩:=q;dsimp only at e h3;subst e;refine⟨(p,o,c),ē.mpr ⟨h3,?_⟩,?_⟩
  .have h4:o<b:=by simpa[JE,L0]using h2
   obtain⟨y,hy⟩:=ZZ (kvs:=H) (k:=p)<|Ò.mpr ⟨_,hq,rfl⟩;simp[hy,h4]
  .show _=[(L0 o k).root,(L0 o k).cost+(YE (ZM<|nbs b 0 ts) p).2,(YE (ZM<|nbs b 0 ts) p).1,p]
   unfold YE;rw[Z9 h3];simp[L0]
 .rintro⟨⟨p,o,c⟩,ht,rfl⟩;obtain⟨h1,h2⟩:=ē.mp ht;simp only[bAq,decide_eq_true_eq]at h2;obtain⟨y,hy⟩:=Č.mp h2.1;obtain⟨o',c',k,h3,rfl⟩:=ho.look hy;have e:=(Z9 h3).symm.trans<|Z9 h1;injection e with e;injection e with e1 e2;subst e1 e2;refine⟨⟨_,Yj hy,?_⟩,by simpa using h2.2⟩;show [(L0 o' k).root,(L0 o' k).cost+(YE (ZM<|nbs b 0 ts) p).2,(YE (ZM<|nbs b 0 ts) p).1,p]=_;unfold YE;rw[Z9 h3];simp[L0]
theorem Q9{b a p:Int}(ho:HOk ts b H):OG (Z1 a H) p=(0,0):=by
 unfold OG;cases z:(Z1 a H).lookup p with
 |none=>rfl
 |some x=>obtain⟨o,k,rfl⟩:=ho.alook z;rfl
theorem OX{b:Int}(ho:HOk ts b H)(hm:2<=most):Z2 (brH b most r ts H).grown=Zu b H ts:=by
 have h1:=U0 ho;unfold Zu;show(match (match (X6 (ZM<|nbs b 0 ts)<|ZF most H).filter (fun r=>decide (r.headD 0<b))with|[]=>none|x::r=>some<|minR x r)with|none=>(⟨b,0,none⟩:Lab)|some m=>⟨m.getD 0 0,m.getD 1 0,some (m.getD 3 0,OG (ZF most H)<|m.getD 3 0)⟩)=_;rw[WG hm ho.zero];revert h1;generalize (X6 (ZM<|nbs b 0 ts)<|Z1 1 H).filter (fun r=>decide (r.headD 0<b))=A;generalize Z3 b H (nbs b 0 ts)=B;intro h1;cases A with
 |nil=>cases B with
  |nil=>rfl
  |cons y s=>exact absurd ((h1 y).mpr<|by simp) (by simp)
 |cons x r=>cases B with
  |nil=>exact absurd ((h1 x).mp<|by simp) (by simp)
  |cons y s =>dsimp only;rw[A9 h1,Q9 ho];rfl
noncomputable def ver(l:Lab):Int:=if l.up.isSome then 1 else 0
theorem Bp{b:Int}:∀{rs:List (List Int)},(MT b rs).up=none->MT b rs=⟨b,0,none⟩
 |[],_=>rfl
 |_::_,h=>by cases h
theorem CI{b:Int}:∀{rs:List (List Int)},(MT b rs).up=some q->q.2=(0,0)
 |[],h=>by cases h
 |_::_,h=>by cases h;rfl
theorem WO{b:Int}(ho:HOk ts b H)(hm:2<=most):(brH b most r ts H).told={brH b most r ts (Z1 1 H)with label:=Zu b H ts,version:=ver (Zu b H ts)}:=by
 unfold Br.told;rw[OX ho hm,show(brH b most r ts H).grown=brH b most r ts (ZF most H) from rfl,WG hm ho.zero];unfold taken ver;have h2:=Bp (b:=b) (rs:=Z3 b H<|nbs b 0 ts);change(Zu b H ts).up=none->Zu b H ts=_ at h2;generalize Zu b H ts=l at h2;split
 .rename_i e;rw[e];rfl
 .rename_i e;cases z:l.up with
  |none=>exact absurd (h2 z) e
  |some q=>rfl
noncomputable def lw(r:Int)(l:Lab)(p:Int):L:=⟨(0,r),(0,ver l),l.root,l.cost,2*ver l,if Cb l.up p then some (0,0)else none,none⟩
noncomputable def Wg(ts:List Tie)(b r:Int)(l:Lab):List<|Int×Int×Int×L:=(nbs b 0 ts).map fun t=>(b,t.2.1,t.1,lw r l t.1)
theorem Km{b p a:Int}(ho:HOk ts b H)(e:B.held=Z1 a H):Xq B p=false:=by
 unfold Xq;rw[e];cases z:(Z1 a H).lookup p with
 |none=>rfl
 |some x=>obtain⟨o,k,rfl⟩:=ho.alook z;rfl
theorem AB{b p a:Int}(ho:HOk ts b H)(e:B.held=Z1 a H):Jj B p=false:=by
 unfold Jj;rw[e];cases z:(Z1 a H).lookup p with
 |none=>rfl
 |some x=>obtain⟨o,k,rfl⟩:=ho.alook z;rfl
theorem GZ{b p a:Int}(ho:HOk ts b H)(e:B.held=Z1 a H)(ht:(B.ties.lookup p).isSome=true):Wk B p = "shut":=by unfold Wk;rw[if_pos ht,AB ho e,Km ho e];split<;>rfl
theorem Ah{b p:Int}(ho:HOk ts b H)(hm:2<=most):Zq (brH b most r ts H).told p=lw r (Zu b H ts) p:=by
 have hu:∀q,(Zu b H ts).up=some q->((Z1 1 H).lookup q.1).isSome=true/\q.2=(0,0):=fun q hq=>by
  refine⟨?_,CI hq⟩;rw[<-OX (r:=r) ho hm]at hq;have:=Uk hq
  rwa [show(brH b most r ts H).grown.held=ZF most H from rfl,WG hm ho.zero]at this
 rw[WO ho hm];have hr:=Km (p:=p) (B:={brH b most r ts (Z1 1 H)with label:=Zu b H ts,version:=ver (Zu b H ts)}) ho rfl;unfold Zq;rw[hr];unfold lw Wq ver;dsimp only[brH,MM];generalize Zu b H ts=l at hu;obtain⟨lr,lc,u⟩:=l;cases u with
 |none=>rfl
 |some q =>obtain⟨h1,h2⟩:=hu q rfl;obtain⟨x,hx⟩:=Č.mp h1;obtain⟨o,k,rfl⟩:=ho.alook hx;simp[hx,h2]
theorem DP{b:Int}(ho:HOk ts b H)(hm:2<=most):ZD ts b (brH b most r ts H).told=Wg ts b r (Zu b H ts):=by unfold ZD Wg;rw[show(brH b most r ts H).told.ties=ZM (nbs b 0 ts) by rw[WO ho hm];rfl,K1,YX Wf.1,ÿ];refine Ā fun t ht=>?_;obtain⟨i,u,h1,_,rfl⟩:=nbs_iff.mp ht;show(b,AA ts ((0+i:Nat):Int) b,_,Zq (brH b most r ts H).told _)=_;rw[Ah ho hm,show AA ts ((0+i:Nat):Int) b=far u b by unfold AA;rw[ű,í,h1];rfl]
theorem HOk.nil{b:Int}:HOk ts b []:=fun q hq=>nomatch hq
theorem WD{b:Int}:Zu b [] ts=⟨b,0,none⟩:=by unfold Zu Z3;rw[List.filter_eq_nil_iff.mpr fun t _=>by simp];rfl
theorem Jp{b:Int}(hm:2<=most):(brH b most r ts []).ticked=brH b most (r+1) ts []:=by unfold Br.ticked;rw[WO HOk.nil hm,WD];rfl
theorem XY(kvs:List<|Val×Val)(k:Val):hasK kvs k=(lookK kvs k).isSome:=by
 unfold hasK lookK;rw[ũ];induction kvs with
 |nil=>rfl
 |cons p l ih =>rw[Ġ,ć,ih];cases p.1==k<;>rfl
theorem Kk(kvs:List<|Val×Val)(k v q:Val):lookK (putK kvs k v) q=if q=k then some v else lookK kvs q:=by
 have rep:∀l:List<|Val×Val,lookK (l.map fun p=>if p.1==k then(k,v)else p) q=if q=k then(if hasK l k then some v else none)else lookK l q:=by
  intro l;induction l with
  |nil=>unfold lookK hasK;simp
  |cons p l ih =>
   unfold lookK hasK at ih ⊢;rw[Ð,ć,ć,Ġ];by_cases e:p.1=k
   .by_cases e2:q=k
    .subst e2;simp[e]
    .simp only[e,beq_self_eq_true,if_true,show(k==q)=false from beq_eq_false_iff_ne.mpr<|Ne.symm e2]at ih ⊢;rw[ih,if_neg e2,if_neg e2]
   .have e1:(p.1==k)=false:=beq_eq_false_iff_ne.mpr e;simp only[e1,ċ,if_false,Bool.false_or];by_cases e2:q=k
    .subst e2;simp only[e1];rw[ih];simp
    .cases z:p.1==q with
     |true=>rw[if_neg e2]
     |false =>rw[if_neg e2]at ih ⊢;exact ih
 unfold putK;by_cases c:hasK kvs k=true
 .rw[if_pos c,rep,c,if_pos rfl]
 .rw[if_neg c];have c:hasK kvs k=false:=by simpa using c
  rw[XY]at c;unfold lookK at c ⊢;rw[List.find?_append];by_cases e2:q=k
  .subst e2;have:kvs.find? (fun p=>p.1==q)=none:=by
    cases z:kvs.find? (fun p=>p.1==q)with
    |none=>rfl
    |some x=>rw[z]at c;cases c
   rw[this];simp
  .rw[if_neg e2];have:[(k,v)].find? (fun p=>p.1==q)=none:=by simp[Ne.symm e2]
   rw[this,Option.or_none]
theorem DB(kvs:List<|Val×Val)(k v:Val):(putK kvs k v).length<=kvs.length+1:=by
 unfold putK;split
 .rw[Â];omega
 .rw[ë];simp
theorem AN(kvs:List<|Int×α)(k q:Int)(v:α):(Z8 kvs k v).lookup q=if q=k then some v else kvs.lookup q:=by
 have rep:∀l:List<|Int×α,(l.map fun p=>if p.1=k then(k,v)else p).lookup q=if q=k then(if(l.lookup k).isSome then some v else none)else l.lookup q:=by
  intro l;induction l with
  |nil=>simp
  |cons p l ih =>
   rw[Ð,ä,ä,ä,ih];by_cases e:p.1=k
   .by_cases e2:q=k
    .subst e2;simp[e]
    .rw[if_pos e,e,show(q==k)=false by simpa using e2,if_neg e2,if_neg e2]
   .rw[if_neg e];by_cases e2:q=k
    .subst e2;rw[if_pos rfl,if_pos rfl,show(q==p.1)=false by simpa using Ne.symm e]
    .rw[if_neg e2,if_neg e2]
 unfold Z8;by_cases c:(kvs.lookup k).isSome=true
 .rw[if_pos c,rep,c,if_pos rfl]
 .rw[if_neg c,List.lookup_append];have c:kvs.lookup k=none:=Ϻ.mp c;by_cases e2:q=k
  .subst e2;rw[c];simp
  .rw[if_neg e2,ä,show(q==k)=false by simpa using e2];simp
inductive JS (bs:List Int) (ts:List Tie) (b r:Int) (l:Lab) (p p2:Ad) (h:Hs) (i:Nat) (en:Env) (g:Hs):Prop where
 |mk (v6 v7 v8 v9 v10:Option Val) (e:en=[some<|ZX bs ts,some<|.int b,some<|.int r,some l.v,some<|.int<|ver l,some<|.ref p,v6,v7,v8,v9,v10]) (e1:g p=some (.lst<|(((nbs b 0 ts).take i).map fun t=>(b,t.2.1,t.1,lw r l t.1)).map rdV)) (e2:g p2=some (.lst<|(nbs b 0 ts).map trV)) (x:Ext h g)
variable {p2:Ad} {en:Env}
theorem JS.e2{bs:List Int}{b:Int}{l:Lab}:JS bs ts b r l p p2 h i en g->g p2=some (.lst<|(nbs b 0 ts).map trV)
 |.mk _ _ _ _ _ _ _ e _=>e
section
variable {bs:List Int}{ts:List Tie}
theorem Wd{b:Int}(no:NetOk bs ts)(k:∀p g,h p=none->Ext h g->g p=some (.lst<|(nbs b 0 ts).map trV)->Q (.ref p) g):wF P (n+1) "_law_ties_of" [ZX bs ts,.int b] h Q X:=by
 have h16:=no.sixteen;refine J8 ?_;refine' Zh fun p g1 hp x1 e1=>?_
 exists ix_tup (xs:=[.tup<|bs.map .int,.tup<|ts.map trV]) (v:=.tup<|ts.map trV) rfl
 exists go_of (a:=ts.map trV) rfl
 refine Zl (fun i en g=>∃v3 v4,en=[some<|ZX bs ts,some<|.int b,some<|.ref p,v3,v4]/\g p=some (.lst<|(nbs b 0<|ts.take i).map trV)/\Ext h g) ⟨_,_,rfl,e1,x1⟩ (fun _ _ _ _ _=>trivial) ?_ ?_
 .rintro i v en g hv ⟨v3,v4,rfl,e,x⟩ K hK;obtain⟨u,hu,rfl⟩:=K6 hv;obtain⟨t,ht,rfl⟩:=ZE hu;have hi:i<ts.length:=(Í.mp ht).1;obtain⟨_,_,tlt,_⟩:=no.tie t<|ì ht;have hn:nbs b 0 (ts.take<|i+1)=nbs b 0 (ts.take i)++(if b=t.1\/b=t.2.1 then [((i:Int),far t b,t.2.2)]else []):=by
   rw[ů,ht];have:=WZ (b:=b) (t:=t) (l:=ts.take i) (k:=0);rw[ø,ε (by omega),ű]at this;exact this
  have hl:((nbs b 0<|ts.take i).map trV).length<lim:=by have:=Xc (b:=b) (l:=ts.take i) (k:=0);rw[ø]at this;rw[Â];exact ß (by omega:_<=16) (by decide)
  rw[ű];have et:trV t=.tup [.int t.1,.int t.2.1,.int t.2.2]:=rfl;rw[et];refine' ifP (fun hc=>?_) (fun hc=>?_)
  .walk_at "py";refine ifF (by simp;omega) ?_;refine' hK _ _ ⟨_,_,rfl,?_,X3 x hp⟩;dsimp only;rw[upd_same,hn,if_pos<|.inl hc.symm];unfold far;rw[Ü,if_pos hc];rfl
  .refine' ifP (fun hd=>?_) (fun hd=>?_)
   .refine' hK _ _ ⟨_,_,rfl,?_,X3 x hp⟩;dsimp only;rw[upd_same,hn,if_pos<|.inr hd.symm];unfold far;rw[Ü,if_neg hc];rfl
   .refine' hK _ _ ⟨_,_,rfl,?_,x⟩;rw[hn,if_neg (by intro z;rcases z with z|z;exact hc z.symm;exact hd z.symm),Ĕ];exact e
 .rintro en g ⟨v3,v4,rfl,e,x⟩;rw[WT,Â,ó]at e;refine' k p g hp x e
theorem Kc(l1:1<=bs.length)(l10:bs.length<=10)(k:∀(o:List Int) p g,o.Perm bs->h p=none->Ext h g->g p=some (.lst<|o.map .int)->Q (.ref p) g):wF P (n+1) "_law_turned" [.tup<|bs.map .int,.int c] h Q X:=by
 have hL:(bs.map Val.int).length=bs.length:=Â _;have a0:=Ĩ c (show((bs.map Val.int).length:Int)≠0 by omega);have a1:=İ c (show(0:Int)<(bs.map Val.int).length by omega);refine KW ?_;walk_at "py";generalize c % ((bs.map Val.int).length:Int)=m at a0 a1;have pm:∀a:List Int,(cut a (some m) none++cut a none (some m)).Perm a:=fun a=>by
  have e1:cut a (some m) none=a.drop m.toNat:=by
   unfold cut cutAt;simp only[Option.getD];rw[if_pos a0];by_cases z:m.toNat<=a.length
   .rw[ε z];exact ϋ (by rw[ŉ];omega)
   .rw[ģ (by omega:a.length<=min m.toNat a.length),ģ (by omega:a.length<=m.toNat)];simp
  have e2:cut a none (some m)=a.take m.toNat:=by unfold cut cutAt;simp only[Option.getD];rw[if_pos a0];simp
  rw[e1,e2];exact List.perm_append_comm.trans (by rw[cj])
 refine O8 ?_;refine' Zh fun p1 g1 bE x1 e1=>?_
 exists O8
 refine' Zh fun p2 g2 cB x2 e2=>?_;rw[XT]at e1 e2;have pb:=pm bs;refine Mo (x2.get e1) e2 ?_<|Zh fun p3 g3 hp3 x3 e3=>?_
 .rw[<-Ü,Â,pb.length_eq];exact Ó l10 (by decide)
 rw[<-Ü]at e3;have hp:h p3=none:=Yl (x1.trans x2) hp3;refine' ifP (fun hc=>?_) (fun hc=>?_)
 .refine' Qh e3 (Zh fun p4 g4 hp4 x4 e4=>?_);rw[<-List.map_reverse]at e4;exact k _ p4 g4 ((List.reverse_perm _).trans pb) (Yl ((x1.trans x2).trans x3) hp4) (((x1.trans x2).trans x3).trans x4) e4
 .refine' k _ p3 g3 pb hp ((x1.trans x2).trans x3) e3
theorem O6{b:Int}{l:Lab}(no:NetOk bs ts)(k:∀p g,h p=none->Ext h g->g p=some (.lst<|(Wg ts b r l).map rdV)->Q (.ref p) g):wF P (n+2) "_law_sent" [ZX bs ts,.int b,.int r,l.v] h Q X:=by
 have h16:=no.sixteen;have hnl:=Xc (b:=b) (l:=ts) (k:=0);have vr:(if(upV l.up=.non:Prop)then(0:Int)else 1)=ver l:=by unfold ver;cases l.up<;>simp[upV]
 have v0:0<=ver l/\ver l<=1:=by unfold ver;split<;>omega
 refine NY ?_;walk_at "py";rw[show(if(!decide (upV l.up=Val.non))=true then(1:Int)else 0)=ver l by rw[<-vr];by_cases z:upV l.up=Val.non<;>simp[z]];refine Zh fun p g1 hp x1 e1=>?_;refine' Wd no fun p2 g2 cB x2 e2=>?_;have np:p≠p2:=Za e1 cB;refine' Zl (JS bs ts b r l p p2 h) ⟨_,_,_,_,_,rfl,x2.get e1,e2,x1.trans x2⟩ (fun i en g _ z=>lsE z.e2) ?_ ?_
 .rintro i v en g hv ⟨v6,v7,v8,v9,v10,rfl,e,e2,x⟩ K hK;obtain⟨t,ht,rfl⟩:=ZE hv;have hi:i<(nbs b 0 ts).length:=(Í.mp ht).1;have et:trV t=.tup [.int t.1,.int t.2.1,.int t.2.2]:=rfl;rw[et];have hl:((((nbs b 0 ts).take i).map fun t=>(b,t.2.1,t.1,lw r l t.1)).map rdV).length<lim:=by
   rw[Â,Â,ø];exact ß (by omega:_<=16) (by decide)
  have hs:∀y,rdV (b,t.2.1,t.1,lw r l t.1)=y->(((nbs b 0 ts).take i).map fun t=>(b,t.2.1,t.1,lw r l t.1)).map rdV++[y]=(((nbs b 0 ts).take<|i+1).map fun t=>(b,t.2.1,t.1,lw r l t.1)).map rdV:=fun y hy=>by rw[Zk ht,Ü,Ü,<-hy];rfl
  exists Kf (CT _ _ _)
  refine' ifD (fun hc=>?_) (fun hc=>?_)<;>(
    refine' hK _ _ ⟨_,_,_,_,_,rfl,?_,upd_ne' np.symm e2,X3 x hp⟩
    refine upd_same.trans<|congrArg (fun z=>some<|Ob.lst z)<|hs _ ?_
    unfold lw
    rw[hc]
    rfl)
 .rintro en g ⟨v6,v7,v8,v9,v10,rfl,e,e2,x⟩;rw[Â,ó]at e;refine' k p g hp x e
end
noncomputable def flat:Nat->Val->Bool
 |_,.non=>true
 |_,.bl _=>true
 |_,.int _=>true
 |_,.str _=>true
 |n+1,.tup xs=>xs.all<|flat n
 |_,_=>false
theorem Wz{α β:Type}{f:α->Option β}:∀{xs:List α},(∀x∈xs,∃d,f x=some d)->∃ds,xs.mapM f=some ds
 |[],_=>⟨[],rfl⟩
 |x::xs,h=>by obtain⟨d,hd⟩:=h x (by simp);obtain⟨ds,hds⟩:=Wz (xs:=xs) fun y hy=>h y (by simp[hy]);exact⟨d::ds,by rw[π,hd,hds];rfl⟩
theorem W3{h:Hs}:∀{n:Nat}{v:Val},flat n v=true->∃d,dat h n v=some d
 |0,.non,_=>⟨_,rfl⟩
 |0,.bl _,_=>⟨_,rfl⟩
 |0,.int _,_=>⟨_,rfl⟩
 |0,.str _,_=>⟨_,rfl⟩
 |n+1,.non,_=>⟨_,rfl⟩
 |n+1,.bl _,_=>⟨_,rfl⟩
 |n+1,.int _,_=>⟨_,rfl⟩
 |n+1,.str _,_=>⟨_,rfl⟩
 |n+1,.tup xs,e=>by obtain⟨ds,hds⟩:=Wz (f:=dat h n) (xs:=xs) fun x hx=>W3<|ñ.mp e x hx;exact⟨_,by show(xs.mapM<|dat h n).map D.tup=_;rw[hds];rfl⟩
theorem Bz{xs:List Val}(ea:h a=some (.lst xs))(eb:h b=some (.lst xs))(e:xs.all (flat 11)=true):eqV h (.ref a) (.ref b)=some true:=by
 obtain⟨ds,hds⟩:=Wz (f:=dat h 11) (xs:=xs) fun x hx=>W3<|ñ.mp e x hx;have h1:∀{c:Ad},h c=some (.lst xs)->dat h deep (.ref c)=some (.lst ds):=fun{c} ec=>by show(lsOf<|h c).bind (fun xs=>(xs.mapM<|dat h 11).map D.lst)=_;rw[ec,YR,ð,hds];rfl
 unfold eqV;rw[h1 ea,h1 eb];show some (D.eqv _ _)=_;rw[D.eqv_refl]
theorem all_map{α:Type}{f:α->Val}{n:Nat}{xs:List α}(h:∀x∈xs,flat n (f x)=true):(xs.map f).all (flat n)=true:=by rw[List.all_map];exact ñ.mpr h
theorem MX(r:Int×Int×Int×L):flat 11 (rdV r)=true:=by obtain⟨a,b,c,nu,st,ro,co,ag,re,agr⟩:=r;cases re<;>cases agr<;>rfl
theorem Cr{xs:List Val}(ea:h a=some (.lst xs))(eb:h b=some (.lst []))(e:xs.all (flat 11)=true):eqV h (.ref a) (.ref b)=some xs.isEmpty:=by
 cases xs with
 |nil=>exact Bz ea eb e
 |cons x xs =>
  obtain⟨ds,hds⟩:=Wz (f:=dat h 11) (xs:=x::xs) fun y hy=>W3<|ñ.mp e y hy;have h1:dat h deep (.ref a)=some (.lst ds):=by show(lsOf<|h a).bind (fun xs=>(xs.mapM<|dat h 11).map D.lst)=_;rw[ea,YR,ð,hds];rfl
  have h2:dat h deep (.ref b)=some (.lst []):=by show(lsOf<|h b).bind (fun xs=>(xs.mapM<|dat h 11).map D.lst)=_;rw[eb,YR,ð];rfl
  cases ds with
  |nil =>
   rw[π]at hds;cases z:dat h 11 x with
   |none=>rw[z]at hds;cases hds
   |some d =>
    rw[z]at hds;cases z2:xs.mapM (dat h 11)with
    |none=>rw[z2]at hds;cases hds
    |some ys=>rw[z2]at hds;cases hds
  |cons d ds =>unfold eqV;rw[h1,h2];show some (D.eqv _ _)=_;simp[D.eqv,D.eqvs]
def Rel(bs:List Int)(H:Int->Hd0)(kvs:List<|Val×Val):Prop:=∀b∈bs,∀p:Int,lookK kvs (.key b p)=((H b).lookup p).map fun x=>x.1.v
theorem Uj{i:Int}{K:Int×Int->Prop}(q:K (i,j)):go (pairI<|.tup [.int i,.int j]) K:=go_of rfl q
theorem LW{kvs:List (Val×Val)}{i:Int}(e1:h a=some (.dtp kvs))(q:KB (!hasK kvs (.key i j))):go (cmpV h .notin (.key i j)<|.ref a) KB:=go_of (by show(inV h (.key i j)<|.ref a).map _=_;unfold inV;simp only[e1];rfl) q
theorem Oq{C:Yc}{F:Int->Br}{b:Int}(e:C.br=brs C.bs F)(hb:b∈C.bs):C.at_ b=F b:=by unfold Yc.at_;rw[e,CG hb];rfl
theorem NV{b:Int}{l:List Tie}{t:Tie}:Z3 b H (l++[t])=Z3 b H l++(if(H.lookup t.1).isSome=true/\t.2.1<b then [[t.2.1,t.2.2,t.2.1,t.1]]else []):=by
 unfold Z3;rw[List.filter_append,Ü,Ş];congr 1;by_cases c:(H.lookup t.1).isSome=true/\t.2.1<b
 .rw[if_pos c,if_pos<|by simp[c.1,c.2]];rfl
 .rw[if_neg c,if_neg<|by simpa using c];rfl
theorem KK{b:Int}{l:List Tie}:(Z3 b H l).length<=l.length:=by unfold Z3;rw[Â];exact cr _ _
inductive JB (bs:List Int) (ts:List Tie) (b:Int) (ph p p2:Ad) (H:Hd0) (h:Hs) (i:Nat) (en:Env) (g:Hs):Prop where
 |mk (v4 v5 v6 v7:Option Val) (e:en=[some<|ZX bs ts,some<|.int b,some<|.ref ph,some<|.ref p,v4,v5,v6,v7]) (e1:g p=some (.lst<|(Z3 b H<|(nbs b 0 ts).take i).map Xi)) (e2:g p2=some (.lst<|(nbs b 0 ts).map trV)) (x:Ext h g)
variable {ph:Ad}
theorem JB.e2{bs:List Int}{b:Int}:JB bs ts b ph p p2 H h i en g->g p2=some (.lst<|(nbs b 0 ts).map trV)
 |.mk _ _ _ _ _ _ e _=>e
section
variable {ph:Ad}{bs:List Int}{ts:List Tie}{kvs:List (Val×Val)}{H:Int->Hd0}
variable {b:Int}
theorem Dk(no:NetOk bs ts)(hb:b∈bs)(e:h ph=some (.dtp kvs))(rl:Rel bs H kvs)(k:∀g,Ext h g->Q (Zu b (H b) ts).v g):wF P (n+2) "_law_best" [ZX bs ts,.int b,.ref ph] h Q X:=by
 have h16:=no.sixteen;have hnl:=Xc (b:=b) (l:=ts) (k:=0);refine Oj ?_;refine' Zh fun p g1 hp x1 e1=>?_;refine' Wd no fun p2 g2 cB x2 e2=>?_;have np:p≠p2:=Za e1 cB;have nh:ph≠p:=Za e hp;refine' Zl (JB bs ts b ph p p2 (H b) h) ⟨_,_,_,_,rfl,x2.get e1,e2,x1.trans x2⟩ (fun i en g _ z=>lsE z.e2) ?_ ?_
 .rintro i v en g hv ⟨v4,v5,v6,v7,rfl,e,e2,x⟩ K hK;obtain⟨t,ht,rfl⟩:=ZE hv;have hi:i<(nbs b 0 ts).length:=(Í.mp ht).1;have et:trV t=.tup [.int t.1,.int t.2.1,.int t.2.2]:=rfl;rw[et];have hl:((Z3 b (H b)<|(nbs b 0 ts).take i).map Xi).length<lim:=by
   have:=KK (b:=b) (H:=H b) (l:=(nbs b 0 ts).take i);rw[ø]at this;rw[Â];exact ß (by omega:_<=16) (by decide)
  have hs:=NV (b:=b) (H:=H b) (l:=(nbs b 0 ts).take i) (t:=t);rw[<-Zk ht]at hs;have eh:=x.get ‹h ph=some (.dtp kvs)›;have hk:hasK kvs (.key b t.1)=((H b).lookup t.1).isSome:=by rw[XY,rl b hb,ũ]
  exists Uj
  exists Gh eh
  rw[hk];refine' ifD (fun hc=>?_) (fun hc=>?_)
  .refine' ifP (fun hd=>?_) (fun hd=>?_)
   .refine' hK _ _ ⟨_,_,_,_,rfl,?_,upd_ne' np.symm e2,X3 x hp⟩;refine upd_same.trans<|congrArg (fun z=>some<|Ob.lst z) ?_;rw[hs,if_pos ⟨hc,hd⟩,Ü];rfl
   .refine' hK _ _ ⟨_,_,_,_,rfl,?_,e2,x⟩;rw[hs,if_neg fun z=>hd z.2,Ĕ];exact e
  .walk_at "p";refine hK _ _ ⟨_,_,_,_,rfl,?_,e2,x⟩;rw[hs,if_neg (fun z=>by rw[hc]at z;exact absurd z.1<|by decide),Ĕ];exact e
 .rintro en g ⟨v4,v5,v6,v7,rfl,e,e2,x⟩;rw[Â,ó]at e;unfold Zu at k;have four:∀m∈Z3 b (H b) (nbs b 0 ts),∃a c p,m=[a,c,a,p]:=fun m hm=>by
   obtain⟨t,_,rfl⟩:=Ò.mp hm;exact⟨_,_,_,rfl⟩
  have hl:=KK (b:=b) (H:=H b) (l:=nbs b 0 ts);generalize Z3 b (H b) (nbs b 0 ts)=R at e k four hl;refine' Zh fun p3 g3 hp3 x3 e3=>?_;refine Kf (Cr (x3.get e) e3<|all_map fun m hm=>?_) ?_
  .obtain⟨a,c,p,rfl⟩:=four m hm;rfl
  walk_at "py";have e':=x3.get e;cases R with
  |nil =>refine ifT rfl ?_;refine' k _ (x.trans x3)
  |cons y s =>
   refine ifF rfl ?_;walk_at "py";obtain⟨a,c,p,hm⟩:=four _<|XB s y;refine mnR e' rfl (Nr<|y::s) ?_;rw[hm];walk_at "py";have hb:MT b (y::s)=⟨a,c,some (p,(0,0))⟩:=by show(⟨(minR y s).getD 0 0,(minR y s).getD 1 0,some ((minR y s).getD 3 0,(0,0))⟩:Lab)=_;rw[hm];rfl
   rw[hb]at k;exact k _<|x.trans x3
theorem C6{r:Int×Int×Int×L}(e:h ph=some (.dtp kvs))(hl:kvs.length<1000)(lk:lookK kvs (.key r.2.1 r.2.2.1)=(B.held.lookup r.2.2.1).map fun x=>x.1.v)(k:∀g,g ph=some (.dtp<|if ZJ B r.2.2.1 r.2.2.2 then putK kvs (.key r.2.1 r.2.2.1) r.2.2.2.v else kvs)->Ex [ph] h g->Q .non g):wF P (n+1) "_law_hears" [.ref ph,rdV r] h Q X:=by
 obtain⟨ra,rb,rc,l⟩:=r;dsimp only at lk k;have hl:kvs.length<lim:=š hl (by decide);have put:ZJ B rc l=true->go (putV h (.ref ph) (.key rb rc) l.v) fun g=>Q .non g:=fun z=>by rw[z,if_pos rfl]at k;exact LH e hl (k _ upd_same<|Ex.upd<|by simp)
 refine Nm ?_
 exists Uj
 exists LW e
 rw[XY,lk];walk_at "py";cases z:B.held.lookup rc with
 |none =>
  have et:ZJ B rc l=true:=by unfold ZJ;rw[z]
  refine ifT rfl ?_;walk_at "py";walk_at "p";refine' WB (put et) fun g q=>by walk_at "py";exact q
 |some x =>
  rw[z]at lk;have et:ZJ B rc l=lexI [x.1.num.1,x.1.num.2] [l.num.1,l.num.2]:=by unfold ZJ;rw[z]
  refine ifF rfl ?_
  exists BF e lk
  exists HN (Ye [x.1.num.1,x.1.num.2]) (Ye [l.num.1,l.num.2])
  refine' ifD (fun hc=>?_) (fun hc=>?_)
  .walk_at "py";refine' WB (put<|et.trans hc) fun g q=>by walk_at "py";exact q
  .walk_at "py";rw[et,hc]at k;exact k h e Ex.refl
theorem MA(x:YAt h Y)(gd:Y.cc.gd N)(hb:b∈Y.bs)(k:∀a t d,BrAt h a t d (Y.cc.at_ b)->Q (.ref a) h):wF P (n+1) "Yard.bridge" [.ref Y.y,.int b] h Q X:=by
 have xi:=x.ins;have xs:=x.stand;obtain⟨e,he,en,lk,ea,ba⟩:=x.at_ gd hb;refine JZ ?_
 exists A0 xs rfl
 rw[Yg,lk];exact k e.b e.t e.d<|ea▸ba
theorem LR{p a:Int}{H:Hd0}(ho:HOk ts b H):Pl 3<|hdO<|(Z1 a H).lookup p:=by
 cases z:(Z1 a H).lookup p with
 |none=>trivial
 |some x =>obtain⟨o,k,rfl⟩:=ho.alook z;exact⟨by simp,by simp[Pl,L0,pV,oV]⟩
theorem EA(x:YAt h Y)(gd:Y.cc.gd N)(ec:Y.cc.br=brs Y.bs fun b=>brH b most r Y.ts<|H b)(ho:∀b,HOk Y.ts b<|H b)(e:h ph=some (.dtp kvs))(rl:Rel Y.bs H kvs)(k:∀g,Ext h g->Q (.bl true) g):wF P (n+5) "_law_kept" [.ref Y.y,ZX Y.bs Y.ts,.ref ph] h Q X:=by
 have no:NetOk Y.bs Y.ts:=gd.no;refine NP ?_
 exists ix_tup (xs:=[.tup<|Y.bs.map .int,.tup<|Y.ts.map trV]) (v:=.tup<|Y.bs.map .int) rfl
 refine' Zl (fun i en g=>∃v3 v4 v5 v6 v7,en=[some<|.ref Y.y,some<|ZX Y.bs Y.ts,some<|.ref ph,v3,v4,v5,v6,v7]/\Ext h g) ⟨_,_,_,_,_,rfl,.refl⟩ (fun _ _ _ _ _=>trivial) ?_ ?_
 .rintro i v en g hv ⟨v3,v4,v5,v6,v7,rfl,xg⟩ K hK;obtain⟨b,hb,rfl⟩:=ZE hv;have hb:=ì hb;refine' Wd no fun p2 g2 cB x2 e2=>?_;refine' Zl (fun i en g=>∃v4 v5 v6 v7,en=[some<|.ref Y.y,some<|ZX Y.bs Y.ts,some<|.ref ph,some<|.int b,v4,v5,v6,v7]/\g=g2) ⟨_,_,_,_,rfl,rfl⟩ (fun i en g _ ⟨_,_,_,_,_,z⟩=>z▸lsE e2) ?_ ?_
  .rintro j v en g hv ⟨v4,v5,v6,v7,rfl,rfl⟩ K hK;obtain⟨t,ht,rfl⟩:=ZE hv;have et:trV t=.tup [.int t.1,.int t.2.1,.int t.2.2]:=rfl;rw[et];have xx:=xg.trans x2;have x':=x.ext xx;have xi:=x'.ins;have eh:=xx.get e;have hk:=rl b hb t.1;have fin:∀{v7}{Q:Q1},hdO ((H b).lookup t.1)=v7->Q (.bl true) g->wF P (n+4) "_law_same" [hdO<|((Y.cc.at_ b).held).lookup t.1,v7] g Q X:=fun{v7 Q} hv hq=>by
    have ea:=Oq ec hb;rw[ea,show(brH b most r Y.ts<|H b).held=H b from rfl,hv];have pl:=LR (p:=t.1) (a:=0)<|ho b;have ez:Z1 0 (H b)=H b:=by unfold Z1;refine(Ā fun q hq=>?_).trans<|Ō _;have:=(ho b).zero q hq;obtain⟨q1,q2,q3⟩:=q;dsimp only at this;rw[this];rfl
    rw[ez,hv]at pl;exact Mb 3 pl hq
   exists Uj
   exists Gh eh
   rw[XY,hk];walk_at "py";cases z:(H b).lookup t.1 with
   |none =>
    refine ifF rfl ?_;refine' MA x' gd hb fun a t' d ba=>?_;have bi:=ba.ins
    exists Xa ba
    refine' fin (by rw[z];rfl) ?_;walk_at "p";exact hK _ _ ⟨_,_,_,_,rfl,rfl⟩
   |some y =>
    rw[z]at hk;refine ifT rfl ?_
    exists Uj
    exists BF eh hk
    refine' MA x' gd hb fun a t' d ba=>?_;have bi:=ba.ins
    exists Xa ba
    refine' fin ?_ ?_
    .rw[z];obtain⟨o,c,k,_,rfl⟩:=(ho b).look z;rfl
    walk_at "p";exact hK _ _ ⟨_,_,_,_,rfl,rfl⟩
  .rintro en g ⟨v4,v5,v6,v7,rfl,rfl⟩;refine' hK _ _ ⟨_,_,_,_,_,rfl,xg.trans x2⟩
 .rintro en g ⟨v3,v4,v5,v6,v7,rfl,xg⟩;refine' k _ xg
end
def M2(bs:List Int)(ts:List Tie)(q:Int×Int×Int×L):Prop:=q.2.1∈bs/\(∃c,(q.2.2.1,q.1,c)∈nbs q.2.1 0 ts)/\∃k,q.2.2.2=L0 q.1 k
structure TAt(bs:List Int)(ts:List Tie)(most r:Int)(y pr ph:Ad)(N m:Nat)(g:Hs)(Y:Yd)(H:Int->Hd0)(kvs:List<|Val×Val):Prop where
 ya:YAt g Y
 yy:Y.y=y
 hb:Y.bs=bs
 ht:Y.ts=ts
 gd:Y.cc.gd N
 br:Y.cc.br=brs bs fun b=>brH b most r ts<|H b
 ho:∀b,HOk ts b (H b)
 er:g pr=some (.lst<|Y.road.map rdV)
 eh:g ph=some (.dtp kvs)
 rl:Rel bs H kvs
 kl:kvs.length<=m
 rw:∀q∈Y.road,M2 bs ts q
 nr:pr∉Y.adr
 nh:ph∉Y.adr
inductive JT (bs:List Int) (ts:List Tie) (most r:Int) (y pr ph pc:Ad) (N:Nat) (cs:List Int) (i:Nat) (en:Env) (g:Hs):Prop where
 |mk (v4 v5 v6:Option Val) (Y:Yd) (H:Int->Hd0) (kvs:List<|Val×Val) (e:en=[some<|.ref y,some<|.ref pr,some<|.ref ph,some<|.ref pc,v4,v5,v6]) (t:TAt bs ts most r y pr ph N i g Y H kvs) (ep:g pc=some (.lst<|cs.map .int)) (np:pc∉Y.adr)
variable {pc:Ad} {cs:List Int}
theorem JT.ep{bs:List Int}{y pr:Ad}:JT bs ts most r y pr ph pc N cs i en g->g pc=some (.lst<|cs.map .int)
 |.mk _ _ _ _ _ _ _ _ e _=>e
noncomputable def Xw(B:Br)(p:Int)(l:L):Hd0:=if ZJ B p l then Z8 B.held p (l,l.age)else B.held
theorem Bq{b p o:Int}{l:L}(h:(p,o,c)∈nbs b 0 ts):Zw (brH b most r ts H) p l=brH b most r ts (Xw (brH b most r ts H) p l):=by unfold Zw Xw;rw[if_pos<|by show((ZM<|nbs b 0 ts).lookup p).isSome=true;rw[Z9 h];rfl];split<;>rfl
theorem HOk.heard{b p o k:Int}(ho:HOk ts b H)(h:(p,o,c)∈nbs b 0 ts):HOk ts b<|Xw (brH b most r ts H) p<|L0 o k:=fun q hq=>by
 unfold Xw at hq;split at hq
 .rcases Mn hq with e|hq
  .subst e;exact⟨o,c,k,h,rfl⟩
  .exact ho q hq
 .exact ho q hq
theorem Rel.heard{bs:List Int}{rb rc:Int}{H:Int->Hd0}{kvs:List (Val×Val)}{l:L}(rl:Rel bs H kvs):Rel bs (fun b=>if b=rb then Xw (brH b most r ts<|H b) rc l else H b) (if ZJ (brH rb most r ts<|H rb) rc l then putK kvs (.key rb rc) l.v else kvs):=fun b hb p=>by
 dsimp only;by_cases e:b=rb
 .subst e;rw[if_pos rfl];unfold Xw;cases ZJ (brH b most r ts<|H b) rc l with
  |false=>exact rl b hb p
  |true =>
   rw[if_pos rfl,if_pos rfl,Kk,AN];by_cases e2:p=rc
   .subst e2;rw[if_pos rfl,if_pos rfl];rfl
   .rw[if_neg fun z=>e2<|by injection z,if_neg e2];exact rl b hb p
 .rw[if_neg e];split
  .rw[Kk,if_neg fun z=>e<|by injection z];exact rl b hb p
  .exact rl b hb p
section
variable {N:Nat}{y pr ph:Ad}{bs:List Int}{ts:List Tie}{kvs:List (Val×Val)}{H:Int->Hd0}{most r:Int}
theorem A1(hc:cs.length<=60)(hN:N<=10000)(ep:h pc=some (.lst<|cs.map .int))(np:pc∉Y.adr)(npr:pc≠pr)(t:TAt bs ts most r y pr ph N 0 h Y H kvs)(k:∀Y' H' kvs' g,TAt bs ts most r y pr ph N 60 g Y' H' kvs'->Q (.bl true) g):wF P (n+7) "_law_taken" [.ref y,.ref pr,.ref ph,.ref pc] h Q X:=by
 refine MW ?_;refine' Zl (JT bs ts most r y pr ph pc N cs) ⟨_,_,_,Y,H,kvs,rfl,t,ep,np⟩ (fun i e g _ z=>lsE z.ep) ?_ ?_
 .rintro i v en g hv ⟨v4,v5,v6,Y,H,kvs,rfl,t,ep,np⟩ K hK;obtain⟨c,cK,rfl⟩:=ZE hv;have hi:=(Í.mp cK).1;obtain⟨ty,rfl,rfl,rfl,gd,br,ho,er,eh,rl,kl,rw_,nr,nh⟩:=t;have nph:pc≠ph:=Wo ep eh nofun;have nrh:pr≠ph:=Wo er eh nofun;have hrl:(Y.road.map rdV).length=Y.road.length:=Â _;have hlen:Y.road.length<=N:=gd.len;have yi:=ty.ins;refine' Zh fun p1 g1 bE x1 e1=>?_;refine Uz (Cr (x1.get er) e1<|all_map fun q _=>MX q) ?_;have ty1:=ty.ext x1;have er1:=x1.get er;have eh1:=x1.get eh;have ep1:=x1.get ep;refine' ifD (fun hc=>?_) (fun hc=>?_)
  .have hpos:0<Y.road.length:=by
    cases z:Y.road with
    |nil=>rw[z]at hc;cases hc
    |cons _ _=>simp
   have m0:=Ĩ (c / 3) (show((Y.road.map rdV).length:Int)≠0 by omega);have m1:=İ (c / 3) (show(0:Int)<(Y.road.map rdV).length by omega);walk_at "py";walk_at "py";generalize c / 3 % ((Y.road.map rdV).length:Int)=m at m0 m1;obtain⟨q,rfl⟩:∃q:Nat,m=q:=⟨m.toNat,by omega⟩
   have hr:=Ë (l:=Y.road) (i:=q) (by omega);have hrm:=ì hr;generalize Y.road[q]'(by omega)=cL at hr hrm;obtain⟨k1,⟨k2,k3⟩,k4,k5⟩:=rw_ cL hrm;refine BU er1 (by rw[Ù,hr];rfl) (by omega) ?_;rw[X5];have ty2:=ty1.keep (S:=[pr]) (Ex.upd (w:=pr) (o:=.lst<|(Y.road.eraseIdx q).map rdV)<|by simp) fun a ha z=>nr<|á.mp z▸ha;have er2:(upd g1 pr<|.lst<|(Y.road.eraseIdx q).map rdV) pr=_:=upd_same;have eh2:(upd g1 pr<|.lst<|(Y.road.eraseIdx q).map rdV) ph=_:=upd_ne' nrh.symm eh1;have ep2:(upd g1 pr<|.lst<|(Y.road.eraseIdx q).map rdV) pc=_:=upd_ne' npr ep1;dsimp only;generalize upd g1 pr (.lst<|(Y.road.eraseIdx q).map rdV)=g2 at ty2 er2 eh2 ep2;have yi2:=ty2.ins;have fin:∀{Y':Yd}{H':Int->Hd0}{kvs':List (Val×Val)}{g':Hs}{v6:Option Val},TAt Y.bs Y.ts most r Y.y pr ph N (i+1) g' Y' H' kvs'->g' pc=some (.lst<|cs.map .int)->pc∉Y'.adr->wSs (wF P<|n+6) #[.ite (.val<|.cmp .ne (.meth "Yard" "road" (.var 0) .nil)<|.var 1) #[.ret<|.cst<|.bl false] .nil] [some<|.ref Y.y,some<|.ref pr,some<|.ref ph,some<|.ref pc,some<|.int c,some<|.int q,v6] g' K Q K K fun _ c g=>X c g:=fun{Y' H' kvs' g' v6} t' cV np'=>by
    have yi3:=t'.ya.ins;rw[t'.yy]at yi3;walk_at "py";have:=t'.yy;rw[<-this];refine OW t'.ya fun p5 g5 hp5 x5 e5=>?_
    exists Uz (Bz e5 (x5.get t'.er)<|all_map fun q _=>MX q)
    walk_at "p";refine hK _ _ ⟨_,_,_,Y',H',kvs',by rw[this],?_,x5.get cV,np'⟩;obtain⟨ty,q1,q2,q3,gd,br,ho,er,eh,rl,kl,rw_,nr,nh⟩:=t';exact⟨ty.ext x5,q1,q2,q3,gd,br,ho,x5.get er,x5.get eh,rl,kl,rw_,nr,nh⟩
   have sub:∀a∈Y.road.eraseIdx q,M2 Y.bs Y.ts a:=fun a ha=>rw_ a<|List.mem_of_mem_eraseIdx ha;refine' ifP (fun hd=>?_) (fun hd=>?_)
   .refine' Ue ty2 gd hN hr fun Y' g3 ec gd' mv=>?_;obtain⟨nr',er'⟩:=mv.off nr er2;obtain⟨nh',eh'⟩:=mv.off nh eh2;obtain⟨np',cV⟩:=mv.off np ep2;have e1:Y'.bs=Y.bs:=congrArg Yc.bs ec;have e2:Y'.ts=Y.ts:=congrArg Yc.ts ec;have e3:Y'.road=Y.road.eraseIdx q:=congrArg Yc.road ec;walk_at "w";refine fin (Y':=Y') (H':=H) (kvs':=kvs) ⟨mv.at_,mv.y,e1,e2,gd',(congrArg Yc.br ec).trans br,ho,by rw[e3];exact er',eh',rl,by omega,by rw[e3];exact sub,nr',nh'⟩ cV np'
   .refine' Mx ty2 gd hN hr k1 fun Y' g3 ec gd' mv=>?_;obtain⟨nr',er'⟩:=mv.off nr er2;obtain⟨nh',eh'⟩:=mv.off nh eh2;obtain⟨np',cV⟩:=mv.off np ep2;have e1:Y'.bs=Y.bs:=congrArg Yc.bs ec;have e2:Y'.ts=Y.ts:=congrArg Yc.ts ec;have e3:Y'.road=Y.road.eraseIdx q:=congrArg Yc.road ec;refine' C6 (B:=brH cL.2.1 most r Y.ts<|H cL.2.1) eh' (by omega) (rl _ k1 _) fun g4 e4 x4=>?_;have nra:∀a∈Y'.adr,a∉[ph]:=fun a ha z=>nh'<|á.mp z▸ha;walk_at "w";refine fin (Y':=Y') (H':=fun b=>if b=cL.2.1 then Xw (brH b most r Y.ts<|H b) cL.2.2.1 cL.2.2.2 else H b) ⟨mv.at_.keep x4 nra,mv.y,e1,e2,gd',?_,fun b=>?_,by rw[e3];exact x4.get (by simpa using nrh) er',e4,rl.heard,?_,by rw[e3];exact sub,nr',nh'⟩ (x4.get (by simpa using nph) cV) np'
    .refine(congrArg Yc.br ec).trans ?_;show upC cL.2.1 (fun x=>Zw x cL.2.2.1 cL.2.2.2) Y.cc.br=_;rw[br,X1];refine ZP fun b _=>?_;split
     .rename_i e;subst e;exact Bq k3
     .rfl
    .split
     .rename_i e;subst e;rw[k5];exact(ho _).heard k3
     .exact ho b
    .split
     .have:=DB kvs (.key cL.2.1 cL.2.2.1) cL.2.2.2.v;omega
     .omega
  .walk_at "p";exact hK _ _ ⟨_,_,_,Y,H,kvs,rfl,⟨ty1,rfl,rfl,rfl,gd,br,ho,er1,eh1,rl,by omega,rw_,nr,nh⟩,ep1,np⟩
 .rintro en g ⟨v4,v5,v6,Y,H,kvs,rfl,t,ep,np⟩;rw[Â]at t;walk_at "py";obtain⟨ty,q1,q2,q3,gd,br,ho,er,eh,rl,kl,rw_,nr,nh⟩:=t;exact k Y H kvs g ⟨ty,q1,q2,q3,gd,br,ho,er,eh,rl,by omega,rw_,nr,nh⟩
end
theorem HR{v:Val}{a:Int}(h:(rangeV a m)[i]?=some v):v=.int (a+i)/\a+i<m:=by unfold rangeV at h;rw[Ù]at h;obtain⟨k,hk,rfl⟩:=Ú.mp h;obtain⟨Ν,rfl⟩:=Í.mp hk;rw[Ů]at Ν;rw[dq];exact⟨rfl,by omega⟩
noncomputable def tl:Nat->Ss->Ss
 |0,s=>s
 |n+1,.cons _ s=>tl n s
 |_+1,s=>s
noncomputable abbrev tsA:List Tie:=[(3,8,5)]
theorem noA:NetOk [3,8] tsA:=⟨by decide,by decide,fun i hi=>by simp at hi;omega,by decide,by decide,fun t ht=>by rw[á.mp ht];exact⟨by decide,by decide,by decide,by decide,by decide⟩⟩
structure Aged(m a:Int)(B:Br):Prop where
 held:B.held=if a<m then [(0,(L0 3 0,a))]else []
 ties:B.ties=[(0,(3,5))]
 num:B.number=8
 most:B.most=m
inductive JA (m:Int) (y:Ad) (i:Nat) (en:Env) (g:Hs):Prop where
 |mk (v2 v4 v5:Option Val) (Y:Yd) (F:Int->Br) (e:en=[some<|.int m,some<|.ref y,v2,some (L0 3 0).v,v4,v5]) (ya:YAt g Y) (yy:Y.y=y) (hb:Y.bs=[3,8]) (ht:Y.ts=tsA) (gd:Y.cc.gd 100) (ec:Y.cc.br=brs [3,8] F) (hr:Y.road=[]) (ag:Aged m i<|F 8)
noncomputable def FI(m a:Int):Lab:=if a<m then⟨3,5,some (0,(0,0))⟩else⟨8,0,none⟩
theorem Aged.tick{a:Int}(x:Aged m a B):Aged m (a+1) B.ticked/\B.ticked.label=FI m (a+1):=by
 obtain⟨h1,h2,h3,h4⟩:=x;obtain⟨t1,t2,t3,t4,t5,t6,t7⟩:=ZO B.grown<|Z2 B.grown;have hh:B.grown.held=if a+1<m then [(0,(L0 3 0,a+1))]else []:=by
  show ZF B.most B.held=_;rw[h1,h4];by_cases c:a<m
  .rw[if_pos c];unfold ZF;rw[Ć,List.filterMap_nil];by_cases d:a+1<m
   .rw[if_pos d,if_pos d]
   .rw[if_neg d,if_neg d]
  .rw[if_neg c,if_neg<|by omega];rfl
 refine⟨⟨t1.trans hh,t2.trans h2,t5.trans h3,t7.trans h4⟩,t4.trans ?_⟩;unfold Z2 FI;rw[hh,show B.grown.ties=[(0,(3,5))] from h2,show B.grown.number=8 from h3];by_cases c:a+1<m
 .rw[if_pos c,if_pos c];rfl
 .rw[if_neg c,if_neg c];rfl
theorem LF{num:Int}(h16:ts.length<=16):Bok ts.length (brH num most c ts []) where
 ok:={
   nd:=Ŋ
   sub:=fun q hq=>absurd hq Ý
   nt:=CM
   rg:=fun q hq=>by
     obtain⟨r,hr,rfl⟩:=Ò.mp hq
     have:=Wf.2 r hr
     exact⟨by show 0<=r.1;omega,by show r.1<16;omega⟩ }
 pl:=fun q hq=>by obtain⟨r,hr,rfl⟩:=Ò.mp hq;have:=Wf.2 r hr;show r.1<ts.length;omega
theorem YNew.gd{bs:List Int}(no:NetOk bs ts)(y:YNew bs ts most Y):Y.cc.br=brs bs (fun b=>brH b most 0 ts [])/\Y.cc.gd 0:=by
 have e:Y.cc.br=brs bs (fun b=>brH b most 0 ts []):=by unfold brs;rw[<-y.num,ÿ];refine Ā fun e he=>?_;rw[y.br e he];rfl
 refine⟨e,by show NetOk Y.bs Y.ts;rw[y.hb,y.ht];exact no,?_,?_,by show Y.road.length<=0;rw[y.road];exact Î _⟩
 .show(enC Y.es).map (·.1)=Y.bs;rw[YM,y.num,y.hb]
 .show ∀q∈Y.cc.br,Bok Y.ts.length q.2;rw[e,y.ht];intro q hq;obtain⟨b,_,rfl⟩:=Ò.mp hq;exact LF no.sixteen
section
variable {N:Nat}
theorem Ja{b:Int}{F:Int->Br}(x:YAt h Y)(gd:Y.cc.gd N)(hN:N<=10000)(hb:b∈Y.bs)(hm:2<=most)(ec:Y.cc.br=brs Y.bs F)(eF:F b=brH b most r Y.ts H)(ho:HOk Y.ts b H)(k:∀Y' g',Y'.bs=Y.bs->Y'.ts=Y.ts->Y'.cc.br=brs Y.bs (fun x=>if x=b then(brH b most r Y.ts H).ticked else F x)->Y'.road=Y.road++Wg Y.ts b r (Zu b H Y.ts)->Y'.cc.gd (N+16)->Mv h Y g' Y'->Q .non g'):wF P (n+6) "Yard.deed" [.ref Y.y,.tup [.str "tick",.int b]] h Q X:=by
 refine OR x gd hN hb fun Y' g' B hB e gd' mv=>k Y' g' (congrArg Yc.bs e) (congrArg Yc.ts e) ((congrArg Yc.br e).trans ?_) ((congrArg Yc.road e).trans ?_) gd' mv
 .show upC b Br.ticked Y.cc.br=_;rw[ec,X1];refine ZP fun a _=>?_;split
  .rename_i z;rw[z,eF]
  .rfl
 .rw[ec]at hB;show Y.road++ZD Y.ts b B.told=_;rw[Ui hB,eF,DP ho hm]
theorem D7(m0:4<=m)(m1:m<=200)(k:∀g,Q (.bl true) g):wF P (n+7) "_law_ages" [.int m] h Q X:=by
 refine OH ?_;walk_at "py";walk_at "py";intro p hp;refine NC (bs:=[3,8]) (ts:=tsA) noA hp fun Y g ey ya yn _ _=>?_;refine⟨rfl,?_⟩;subst ey;obtain⟨ec,gd⟩:=yn.gd noA;walk_at "py";refine' Zh fun pl g1 hpl x1 el=>?_;have npl:pl∉Y.adr:=fun z=>ya.taken z hpl;have hts:Y.ts=tsA:=yn.ht;have hbs:Y.bs=[3,8]:=yn.hb;have hrd:Y.road=[]:=yn.road
 exists And.intro (lsE el)
 have yi:=(ya.ext x1).ins;refine' Ja (b:=3) (H:=[]) (most:=m) (r:=0) (ya.ext x1) gd (by decide) (by rw[hbs];decide) (by omega) (by rw[hbs];exact ec) (by rw[hts]) HOk.nil fun Y1 g2 b1 t1 c1 r1 gd1 mv1=>?_;obtain⟨np1,el1⟩:=mv1.off npl el;rw[hbs]at b1 c1;rw[hts]at t1 c1 r1;rw[hrd,WD]at r1;refine And.intro (lsE el1) ?_;have yi:=mv1.at_.ins;rw[mv1.y]at yi;walk_at "py";rw[<-mv1.y];refine Ja (b:=8) (H:=[]) (most:=m) (r:=0) mv1.at_ gd1 (by decide) (by rw[b1];decide) (by omega) (by rw[b1];exact c1) (by rw[t1];rfl) HOk.nil fun Y2 g3 b2 t2 c2 r2 gd2 mv2=>?_;obtain⟨np2,el2⟩:=mv2.off np1 el1;rw[b1]at b2 c2;rw[t1]at t2 c2 r2;rw[r1,WD]at r2;refine And.intro (lsE el2) ?_;have yi:=mv2.at_.ins;rw[mv2.y]at yi;walk_at "py";rw[<-mv2.y];refine Mx (p:=0) (r:=(3,8,0,L0 3 0)) mv2.at_ gd2 (by decide) (by rw[r2];rfl) (by rw[b2];decide) fun Y3 g4 e3 gd3 mv3=>?_;obtain⟨np3,el3⟩:=mv3.off np2 el2;have b3:Y3.bs=[3,8]:=(congrArg Yc.bs e3).trans b2;have t3:Y3.ts=tsA:=(congrArg Yc.ts e3).trans t2;have r3:Y3.road=[(8,3,0,L0 8 0)]:=(congrArg Yc.road e3).trans (by show Y2.road.eraseIdx 0=_;rw[r2];rfl);have c3:=(congrArg Yc.br e3).trans (by show upC 8 (fun x=>Zw x 0<|L0 3 0) Y2.cc.br=_;rw[c2,X1]);refine And.intro (lsE el3) ?_;have yi:=mv3.at_.ins;rw[mv3.y]at yi;walk_at "py";rw[<-mv3.y];refine Mx (p:=0) (r:=(8,3,0,L0 8 0)) mv3.at_ gd3 (by decide) (by rw[r3];rfl) (by rw[b3];decide) fun Y4 g5 e4 gd4 mv4=>?_;obtain⟨np4,el4⟩:=mv4.off np3 el3;have b4:Y4.bs=[3,8]:=(congrArg Yc.bs e4).trans b3;have t4:Y4.ts=tsA:=(congrArg Yc.ts e4).trans t3;have r4:Y4.road=[]:=(congrArg Yc.road e4).trans (by show Y3.road.eraseIdx 0=_;rw[r3];rfl);have c4:=(congrArg Yc.br e4).trans (by show upC 3 (fun x=>Zw x 0<|L0 8 0) Y3.cc.br=_;rw[c3,X1]);refine And.intro (lsE el4) ?_;walk_at "py";have a0:Aged m 0<|(fun b=>if b=3 then Zw (if b=8 then Zw (if b=8 then(brH 8 m 0 tsA []).ticked else if b=3 then(brH 3 m 0 tsA []).ticked else brH b m 0 tsA []) 0 (L0 3 0)else if b=8 then(brH 8 m 0 tsA []).ticked else if b=3 then(brH 3 m 0 tsA []).ticked else brH b m 0 tsA []) 0 (L0 8 0)else if b=8 then Zw (if b=8 then(brH 8 m 0 tsA []).ticked else if b=3 then(brH 3 m 0 tsA []).ticked else brH b m 0 tsA []) 0 (L0 3 0)else if b=8 then(brH 8 m 0 tsA []).ticked else if b=3 then(brH 3 m 0 tsA []).ticked else brH b m 0 tsA []) 8:=by show Aged m 0 (Zw (brH 8 m 0 tsA []).ticked 0<|L0 3 0);rw[Jp<|by omega];exact⟨by rw[if_pos<|by omega];rfl,rfl,rfl,rfl⟩
 refine⟨by omega,?_⟩;refine Zl (JA m Y3.y) ⟨_,_,_,Y4,_,rfl,mv4.at_,mv4.y,b4,t4,⟨gd4.no,gd4.ks,gd4.ok,Ó gd4.len<|by decide⟩,c4,r4,a0⟩ (fun _ _ _ _ _=>trivial) ?_ ?_
 .rintro i v en g hv ⟨v2,v4,v5,Y,F,rfl,ya,yy,hb,ht,gd,ec,hr,ag⟩ K hK;obtain⟨rfl,hi⟩:=HR hv;have yi:=ya.ins;rw[yy]at yi;walk_at "py";rw[<-yy];refine OR (b:=8) ya gd (by decide) (by rw[hb];decide) fun Y5 g6 B hB e5 gd5 mv5=>?_;rw[ec]at hB;have eB:=Ui hB;subst eB;obtain⟨cL,hrow⟩:∃r,ZD Y.ts 8 (F 8).told=[r]:=by
   unfold ZD;rw[show(F 8).told.ties=(F 8).ties from (ZO _ _).2.1,ag.ties];exact⟨_,by rw[YX<|by simp];rfl⟩
  have r5:Y5.road=[cL]:=(congrArg Yc.road e5).trans (by show Y.road++ZD Y.ts 8 (F 8).told=_;rw[hr,hrow];rfl);have yi:=mv5.at_.ins;rw[mv5.y]at yi;walk_at "py";rw[<-mv5.y];refine Ue (p:=0) mv5.at_ gd5 (by decide) (by rw[r5];rfl) fun Y6 g7 e6 gd6 mv6=>?_;have r6:Y6.road=[]:=(congrArg Yc.road e6).trans (by show Y5.road.eraseIdx 0=_;rw[r5];rfl);have b6:Y6.bs=[3,8]:=(congrArg Yc.bs e6).trans<|(congrArg Yc.bs e5).trans hb;have t6:Y6.ts=tsA:=(congrArg Yc.ts e6).trans<|(congrArg Yc.ts e5).trans ht;have c6:Y6.cc.br=brs [3,8] fun b=>if b=8 then(F b).ticked else F b:=(congrArg Yc.br e6).trans ((congrArg Yc.br e5).trans<|by show upC 8 Br.ticked Y.cc.br=_;rw[ec,X1]);obtain⟨a6,l6⟩:=ag.tick;rw[show(i:Int)+1=1+i by omega]at a6 l6;have gd6':Y6.cc.gd 100:=⟨gd6.no,gd6.ks,gd6.ok,by show Y6.road.length<=_;rw[r6];decide⟩
  have y6:Y6.y=Y5.y:=mv6.y;have at6:Y6.cc.at_ 8=(F 8).ticked:=Oq (F:=fun b=>if b=8 then(F b).ticked else F b) (by rw[show Y6.cc.bs=[3,8] from b6];exact c6) (by rw[show Y6.cc.bs=[3,8] from b6];decide);have fin:∀{d:Ad}{g8:Hs}{xs:List Val}{A B:NQ},Ext g7 g8->g8 d=some (.lst xs)->xs=[hdO<|(F 8).ticked.held.lookup 0,(F 8).ticked.label.v]->(∀x∈xs,Pl 3 x)->wSs (wF P<|n+6) #[.ite (.and (.val<|.cmp .gt (.var 4)<|.bin .sub (.var 0)<|.cst<|.int 3)<|.not<|.val<|.call "_law_same" #[.lst #[.meth "Bridge" "held" (.meth "Yard" "bridge" (.var 1) #[.cst<|.int 8]) #[.cst<|.int 0],.meth "Bridge" "label" (.meth "Yard" "bridge" (.var 1) #[.cst<|.int 8]) .nil],.var 5]) #[.ret<|.cst<|.bl false] .nil] [some<|.int m,some<|.ref Y5.y,v2,some (L0 3 0).v,some<|.int<|1+i,some<|.ref d] g8 K Q A B fun _ c g=>X c g:=fun{d g8 xs A B} x8 ed hxs hpl=>by
   have y8:=mv6.at_.ext x8;have hK':∀{v4 v5:Option Val} {g},Ext g8 g->K [some<|.int m,some<|.ref Y5.y,v2,some (L0 3 0).v,v4,v5] g:=fun{v4 v5 g} x=>hK _ g ⟨v2,v4,v5,Y6,_,by rw[mv5.y,yy],y8.ext x,by rw[y6,mv5.y,yy],b6,t6,gd6',c6,r6,by rw[show((i+1:Nat):Int)=1+i by omega];exact a6⟩;have yi:=y8.ins;rw[y6]at yi;refine' ifP (fun hc=>?_) (fun hc=>?_)
   .walk_at "py";rw[<-y6];refine MA y8 gd6' (by rw[b6];decide) fun a t' d' ba=>?_;have bi:=ba.ins;rw[at6]at ba
    exists Xa ba
    have yi:=y8.ins;refine' MA y8 gd6' (by rw[b6];decide) fun a t' d' ba=>?_;have bi:=ba.ins;rw[at6]at ba
    exists Nv ba
    refine' Zh fun p9 g9 hp9 x9 e9=>?_;rw[<-hxs]at e9;refine' X0 (d:=3) e9 (x9.get ed) (by rw[hxs];show 2<=100000;decide) hpl ?_;walk_at "p";rw[y6];exact hK' x9
   .walk_at "p";exact hK' .refl
  walk_at "py";refine' Zh fun p8 g8 hp8 x8 e8=>?_;refine' ifP (fun hc=>?_) (fun hc=>?_)
  .refine' Zh fun p9 g9 hp9 x9 e9=>?_;have f9:∀{A B:NQ},_:=fun{A B}=>fin (A:=A) (B:=B) (x8.trans x9) e9 (by rw[a6.held,l6,FI,if_neg (by omega),if_neg<|by omega];rfl) (fun x hx=>by
     simp only[Ç,Ý,or_false]at hx
     rcases hx with rfl|rfl
     . trivial
     . exact⟨by simp,by simp[Pl]⟩)
   repeat (first|exact f9|walk_at "py1")
  .walk_at "w";refine fin x8 e8 ?_ ?_
   .rw[a6.held,l6,FI,if_pos (by omega),if_pos<|by omega];rfl
   .intro x hx;simp only[Ç,Ý,or_false]at hx;rcases hx with rfl|rfl
    .exact⟨by simp,by simp[Pl,L0,pV,oV]⟩
    .exact⟨by simp,by simp[Pl]⟩
 .rintro en g ⟨v2,v4,v5,Y,F,rfl,ya,yy,hb,ht,gd,ec,hr,ag⟩;refine' k g
end
theorem IR(l:Lab):(if(!decide (upV l.up=Val.non))=true then(1:Int)else 0)=ver l:=by unfold ver;cases l.up<;>simp[upV]
theorem Lh(q:Int×Int×Int×L):Pl 3<|rdV q:=by obtain⟨a,b,c,nu,st,ro,co,ag,re,agr⟩:=q;cases re<;>cases agr<;>exact⟨by simp,by simp[Pl,oV,pV]⟩
theorem DI{bs:List Int}{b:Int}(no:NetOk bs ts):∀q∈Wg ts b c ⟨b,0,none⟩,M2 bs ts q:=fun q hq=>by obtain⟨t,ht,rfl⟩:=Ò.mp hq;obtain⟨h1,h2⟩:=B8 (p:=t.1) (o:=t.2.1) (c:=t.2.2) no ht;exact⟨h2,⟨_,h1⟩,c,rfl⟩
theorem Nt{b:Int}{l:Lab}:(Wg ts b c l).length<=ts.length:=by unfold Wg;rw[Â];exact Xc
structure PAt(bs:List Int)(ts:List Tie)(y pr:Ad)(N:Nat)(F:Int->Br)(g:Hs)(Y:Yd):Prop where
 ya:YAt g Y
 yy:Y.y=y
 hb:Y.bs=bs
 ht:Y.ts=ts
 gd:Y.cc.gd N
 br:Y.cc.br=brs bs F
 er:g pr=some (.lst<|Y.road.map rdV)
 nr:pr∉Y.adr
section
variable {N:Nat}{y pr:Ad}{bs:List Int}{ts:List Tie}{most:Int}{F:Int->Br}{Y:Yd}
theorem GA{b:Int}(no:NetOk bs ts)(hm:2<=most)(hN:N<=1000)(p:PAt bs ts y pr N F h Y)(hb:b∈bs)(eF:F b=brH b most c ts H)(ho:HOk ts b H)(k:∀Y' g,YAt g Y'->Y'.y=y->Y'.bs=bs->Y'.ts=ts->Y'.cc.gd (N+16)->Y'.cc.br=brs bs (fun x=>if x=b then(brH b most c ts H).ticked else F x)->Y'.road=Y.road++Wg ts b c (Zu b H ts)->Mv h Y g Y'->Q .non g):wF P (n+6) "Yard.deed" [.ref y,.tup [.str "tick",.int b]] h Q X:=by obtain⟨ya,rfl,rfl,rfl,gd,br,er,nr⟩:=p;exact Ja ya gd (by omega) hb hm br eF ho fun Y' g' b1 t1 c1 r1 gd1 mv=>k Y' g' mv.at_ mv.y b1 t1 gd1 c1 r1 mv
end
theorem Ho(b:Int)(l:Lab):Pl 3<|.tup [.int b,l.v]:=by obtain⟨r,c,u⟩:=l;cases u<;>exact⟨by simp,by simp[Pl,upV,rsV,pV]⟩
inductive J1 (l:Env) (bs:List Int) (ts:List Tie) (p0:Ad) (most:Int) (i:Nat) (en:Env) (g:Hs):Prop where
 |mk (v7 v8:Option Val) (Y:Yd) (pr:Ad) (e:en=l++[some<|.ref pr,v7,v8,none,none,none,none]) (pa:PAt bs ts p0 pr (160*i) (fun b=>brH b most i ts []) g Y) (rok:∀q∈Y.road,M2 bs ts q)
inductive J2 (l:Env) (bs:List Int) (ts:List Tie) (p0:Ad) (most:Int) (o:List Int) (po:Ad) (i j:Nat) (en:Env) (g:Hs):Prop where
 |mk (v8:Option Val) (Y:Yd) (pr:Ad) (e:en=l++[some<|.ref pr,some<|.int i,v8,none,none,none,none]) (pa:PAt bs ts p0 pr (160*i+16*j) (fun b=>brH b most (if b∈o.take j then(i:Int)+1 else i) ts []) g Y) (rok:∀q∈Y.road,M2 bs ts q) (eo:g po=some (.lst<|o.map .int)) (npo:po∉Y.adr)
variable {p0:Ad} {po:Ad}
theorem J2.eo{l:Env}{bs:List Int}{o:List Int}{j:Nat}:J2 l bs ts p0 most o po i j en g->g po=some (.lst<|o.map .int)
 |.mk _ _ _ _ _ _ e _=>e
inductive J3 (l:Env) (bs:List Int) (ts:List Tie) (p0:Ad) (most:Int) (o:List Int) (po:Ad) (r:Nat) (v7:Option Val) (ph pl:Ad) (kvs:List<|Val×Val) (H:Int->Hd0) (j:Nat) (en:Env) (g:Hs):Prop where
 |mk (v8:Option Val) (Y:Yd) (pr:Ad) (e:en=l++[some<|.ref pr,v7,v8,some<|.ref ph,some<|.ref pl,none,none]) (pa:PAt bs ts p0 pr (160*r+16*j) (fun b=>if b∈o.take j then(brH b most r ts<|H b).ticked else brH b most r ts (H b)) g Y) (eh:g ph=some (.dtp kvs)) (nh:ph∉Y.adr) (el:g pl=some (.dct<|Zy Lab.v<|(o.take j).map fun b=>(b,Zu b (H b) ts))) (nl:pl∉Y.adr) (eo:g po=some (.lst<|o.map .int)) (npo:po∉Y.adr)
theorem J3.eo{l:Env}{bs:List Int}{o:List Int}{r:Nat}{v7:Option Val}{pl:Ad}{kvs:List (Val×Val)}{H:Int->Hd0}{j:Nat}:J3 l bs ts p0 most o po r v7 ph pl kvs H j en g->g po=some (.lst<|o.map .int)
 |.mk _ _ _ _ _ _ _ _ _ e _=>e
theorem PD{f:String}{vs us:List Val}(e:vs=us)(w:wF P n f us h Q X):wF P n f vs h Q X:=by rw[e];exact w
theorem law_ok(h63:ns.length<=63)(k:∀g,Q (.bl true) g):wF P (n+8) "law" [.scr ns] h Q X:=by
 refine QM ?_;refine' WF (k:=0) fun c0=>?_;refine' Ny fun most g1 m0 m1 _=>?_;refine' D7 m0 m1 fun g2=>?_;walk_at "p";refine WF (k:=0) fun c1=>?_;refine' WF (k:=1) fun c2=>?_;refine' IK fun bs ts g3 no _=>?_;have hbl:(bs.map Val.int).length=bs.length:=Â _;have l10:=no.ten;have l16:=no.sixteen;have nd:bs.Nodup:=no.up.imp fun h=>by omega
 walk_at "py";intro p0 hp0;refine NC no hp0 fun Y g4 ey ya yn _ _=>?_;refine⟨rfl,?_⟩;obtain⟨ec,gd⟩:=yn.gd no;refine' WF (k:=2) fun cell=>?_;walk_at "py";have r0:0<=cell / 20 % 2/\cell / 20 % 2<2:=by omega
 walk_at "py";generalize cell / 20 % 2=rr at r0;obtain⟨r,hr⟩:∃r:Nat,1+rr=r:=⟨(1+rr).toNat,by omega⟩
 rw[hr];have hr2:r<=2:=by omega
 refine Zh fun pr0 g5 hpr0 x5 er0=>?_;refine' ⟨by omega,?_⟩;refine Zl (J1 [some<|.scr ns,some<|.int most,some<|ZX bs ts,some<|.ref p0,some<|.int cell,some<|.int r] bs ts p0 most) ⟨_,_,Y,pr0,rfl,⟨ya.ext x5,ey,yn.hb,yn.ht,gd,ec,by rw[er0,yn.road];rfl,fun z=>ya.taken z hpr0⟩,by rw[yn.road];intro q hq;cases hq⟩ (fun _ _ _ _ _=>trivial) ?_ ?_
 .rintro i v en g hv ⟨v7,v8,Y,pr,rfl,pa,rok⟩ K hK;obtain⟨rfl,hi⟩:=YT hv
  exists ix_tup (xs:=[.tup<|bs.map .int,.tup<|ts.map trV]) (v:=.tup<|bs.map .int) rfl
  refine' Kc no.one l10 fun o po g6 pm hpo x6 eo=>?_;have ol:=pm.length_eq;have ond:o.Nodup:=pm.nodup_iff.mpr nd;refine' Zl (J2 [some<|.scr ns,some<|.int most,some<|ZX bs ts,some<|.ref p0,some<|.int cell,some<|.int r] bs ts p0 most o po i) ⟨_,Y,pr,rfl,?_,rok,eo,fun z=>pa.ya.taken z hpo⟩ (fun j e g _ z=>lsE z.eo) ?_ ?_
  .obtain⟨ya,yy,hb,ht,gd,br,er,nr⟩:=pa;exact⟨ya.ext x6,yy,hb,ht,gd,br.trans (ZP fun b _=>by simp),x6.get er,nr⟩
  .rintro j v en g hv ⟨v8,Y,pr,rfl,pa,rok,eo,npo⟩ K hK;obtain⟨b,hb,rfl⟩:=ZE hv;have hj:=(Í.mp hb).1;have hbm:b∈bs:=pm.mem_iff.mp<|ì hb;have hbn:b∉o.take j:=by
    have:=ZN (f:=id) (by rw[Ō];exact ond) hb
    rwa [Ō]at this
   have yi:=pa.ya.ins;rw[pa.yy]at yi;refine' GA (most:=most) (b:=b) (c:=i) (H:=[]) no (by omega) (by omega) pa hbm (by rw[if_neg hbn]) HOk.nil fun Y' g7 y7 yy7 hb7 ht7 gd7 br7 rd7 mv7=>?_;obtain⟨npr,er7⟩:=mv7.off pa.nr pa.er;obtain⟨npo7,eo7⟩:=mv7.off npo eo;rw[WD]at rd7;refine' O6 (l:=⟨b,0,none⟩) no fun p8 g8 hp8 x8 e8=>?_;have hlr:Y.road.length<=160*i+16*j:=pa.gd.len;have bd:=Nt (ts:=ts) (b:=b) (c:=i) (l:=⟨b,0,none⟩);refine Mo (x8.get er7) e8 ?_<|Zh fun p9 g9 hp9 x9 e9=>?_
   .rw[ë,Â,Â];exact Ó (by omega:_<=1000) (by decide)
   rw[<-Ü,<-rd7]at e9;walk_at "py";have x89:=x8.trans x9;refine hK _ _ ⟨_,Y',p9,rfl,⟨y7.ext x89,yy7,hb7,ht7,⟨gd7.no,gd7.ks,gd7.ok,Ó gd7.len<|by omega⟩,br7.trans<|ZP fun x _=>?_,e9,fun z=>(y7.ext x8).taken z hp9⟩,?_,x89.get eo7,npo7⟩
   .have e:(x∈o.take (j+1))↔x∈o.take j\/x=b:=by rw[Zk hb,é,á]
    by_cases z:x=b
    .subst z;rw[if_pos rfl,if_pos<|e.mpr<|.inr rfl,Jp<|by omega]
    .rw[if_neg z];by_cases z2:x∈o.take j
     .rw[if_pos z2,if_pos<|e.mpr<|.inl z2]
     .rw[if_neg z2,if_neg fun y=>(e.mp y).elim z2 z]
   .rw[rd7];intro q hq;rcases é.mp hq with hq|hq
    .exact rok q hq
    .exact DI no q hq
  .rintro en g ⟨v8,Y,pr,rfl,⟨ya,yy,hb,ht,gd,br,er,nr⟩,rok,eo,npo⟩;rw[Â]at gd br;refine' hK _ _ ⟨_,_,Y,pr,rfl,⟨ya,yy,hb,ht,⟨gd.no,gd.ks,gd.ok,Ó gd.len<|by omega⟩,br.trans<|ZP fun x hx=>?_,er,nr⟩,rok⟩;rw[ó,if_pos<|pm.mem_iff.mpr hx];rfl
 rintro en g ⟨v7,v8,Y,pr,rfl,⟨ya,yy,hb,ht,gd,br,er,nr⟩,rok⟩;rw[WA,í]at gd br;refine' Zh fun ph g6 hph x6 eh=>?_;refine' Zh fun pc g7 hpc x7 ep=>?_;rw[XT]at ep;have x67:=x6.trans x7;have cl:(cut ns (some 3)<|some 63).length<=60:=by rw[ON (by decide) (by decide),ø];exact Nat.min_le_left _ _
 refine' A1 (most:=most) (r:=r) (H:=fun _=>[]) (kvs:=[]) cl (by omega) ep (fun z=>(ya.ext x6).taken z hpc) (Za (x6.get er) hpc).symm ⟨ya.ext x67,yy,hb,ht,gd,br,fun b=>HOk.nil,x67.get er,x7.get eh,fun b _ p=>rfl,Î _,rok,nr,fun z=>ya.taken z hph⟩ fun Y H kvs g8 t=>?_;obtain⟨ya,yy,hb,ht,gd,br,ho,er,eh,rl,kl,_,nr,nh⟩:=t;walk_at "p";refine PD (show [Val.ref p0,ZX bs ts,Val.ref ph]=[.ref Y.y,ZX Y.bs Y.ts,.ref ph] by rw[yy,hb,ht]) (EA (most:=most) (r:=r) ya gd (by rw[hb,ht];exact br) (by rw[ht];exact ho) eh (by rw[hb];exact rl) fun g9 x9=>?_);walk_at "p";intro pl hpl;have x10:Ext g9<|upd g9 pl<|.dct []:=Ext.new hpl;have el:(upd g9 pl<|.dct []) pl=some (.dct<|Zy Lab.v []):=upd_same;generalize upd g9 pl (.dct [])=g10 at x10 el;walk_at "py"
 exists ix_tup (xs:=[.tup<|bs.map .int,.tup<|ts.map trV]) (v:=.tup<|bs.map .int) rfl
 refine' Kc no.one l10 fun o po g11 pm hpo x11 eo=>?_;have ol:=pm.length_eq;have ond:o.Nodup:=pm.nodup_iff.mpr nd;have xx:=(x9.trans x10).trans x11;refine' Zl (J3 [some<|.scr ns,some<|.int most,some<|ZX bs ts,some<|.ref p0,some<|.int cell,some<|.int r] bs ts p0 most o po r v7 ph pl kvs H) ⟨_,Y,pr,rfl,⟨ya.ext xx,yy,hb,ht,gd,br.trans (ZP fun b _=>by simp),xx.get er,nr⟩,xx.get eh,nh,x11.get el,fun z=>(ya.ext x9).taken z hpl,eo,fun z=>(ya.ext<|x9.trans x10).taken z hpo⟩ (fun j e g _ z=>lsE z.eo) ?_ ?_
 .rintro j v en g hv ⟨v8,Y,pr,rfl,pa,eh,nh,el,nl,eo,npo⟩ K hK;obtain⟨b,hb,rfl⟩:=ZE hv;have hj:=(Í.mp hb).1;have hbm:b∈bs:=pm.mem_iff.mp<|ì hb;have hbn:b∉o.take j:=by
   have:=ZN (f:=id) (by rw[Ō];exact ond) hb
   rwa [Ō]at this
  have yi:=pa.ya.ins;rw[pa.yy]at yi;have ek:∀j,((o.take j).map fun b=>(b,Zu b (H b) ts)).map (·.1)=o.take j:=fun j=>by rw[ÿ];exact Ō _
  refine' GA (most:=most) (b:=b) (c:=r) (H:=H b) no (by omega) (by omega) pa hbm (by rw[if_neg hbn]) (ho b) fun Y' g7 y7 yy7 hb7 ht7 gd7 br7 rd7 mv7=>?_;obtain⟨npr,er7⟩:=mv7.off pa.nr pa.er;obtain⟨npo7,eo7⟩:=mv7.off npo eo;obtain⟨nh7,eh7⟩:=mv7.off nh eh;obtain⟨nl7,el7⟩:=mv7.off nl el;walk_at "py";refine' Dk no hbm eh7 rl fun g8 x8=>?_;have el8:=x8.get el7;refine' Wc (k:=.int b) el8 ⟨rfl,by rw[Oi,Â,ø];exact ß (by omega:_<=10)<|by decide⟩ ?_;rw[YZ (val:=Lab.v),XS _<|by rw[ek];exact hbn];have es:((o.take j).map fun b=>(b,Zu b (H b) ts))++[(b,Zu b (H b) ts)]=(o.take<|j+1).map fun b=>(b,Zu b (H b) ts):=by rw[Zk hb,Ü];rfl
  rw[es];have er8:=x8.get er7;have eo8:=x8.get eo7;have eh8:=x8.get eh7;have xl:Ex [pl] g8<|upd g8 pl<|.dct<|Zy Lab.v<|(o.take<|j+1).map fun b=>(b,Zu b (H b) ts):=Ex.upd (by simp);have el9:(upd g8 pl<|.dct<|Zy Lab.v<|(o.take<|j+1).map fun b=>(b,Zu b (H b) ts)) pl=_:=upd_same;generalize upd g8 pl (.dct<|Zy Lab.v<|(o.take<|j+1).map fun b=>(b,Zu b (H b) ts))=g9 at xl el9;have y9:=(y7.ext x8).keep xl fun a ha z=>nl7<|á.mp z▸ha;have er9:=xl.get (by simpa using Wo er8 el8 nofun) er8;have eo9:=xl.get (by simpa using Wo eo8 el8 nofun) eo8;have eh9:=xl.get (by simpa using Wo eh8 el8 nofun) eh8;walk_at "py";refine' ZV el9 rfl (by rw[Yg,Yw (v:=Zu b (H b) ts) (by rw[ek];exact ond.sublist<|dD _ _)<|by rw[<-es];simp];rfl) ?_;refine' O6 (l:=Zu b (H b) ts) no fun p10 g10 hp10 x10 e10=>?_;have hlr:Y.road.length<=160*r+16*j:=pa.gd.len;have bd:=Nt (ts:=ts) (b:=b) (c:=r) (l:=Zu b (H b) ts);refine Mo (x10.get er9) e10 ?_<|Zh fun p11 g11 hp11 x11 e11=>?_
  .rw[ë,Â,Â];exact Ó (by omega:_<=1000) (by decide)
  rw[<-Ü,<-rd7]at e11;walk_at "py";have xy:=x10.trans x11;refine hK _ _ ⟨_,Y',p11,rfl,⟨y9.ext xy,yy7,hb7,ht7,⟨gd7.no,gd7.ks,gd7.ok,Ó gd7.len<|by omega⟩,br7.trans<|ZP fun x _=>?_,e11,fun z=>(y9.ext x10).taken z hp11⟩,xy.get eh9,nh7,xy.get el9,nl7,xy.get eo9,npo7⟩;have e:(x∈o.take (j+1))↔x∈o.take j\/x=b:=by rw[Zk hb,é,á]
  by_cases z:x=b
  .subst z;rw[if_pos rfl,if_pos<|e.mpr<|.inr rfl]
  .rw[if_neg z];by_cases z2:x∈o.take j
   .rw[if_pos z2,if_pos<|e.mpr<|.inl z2]
   .rw[if_neg z2,if_neg fun y=>(e.mp y).elim z2 z]
 rintro en g ⟨v8,Y,pr,rfl,⟨ya,yy,hb,ht,gd,br,er,nr⟩,_,_,el,nl,_,_⟩;rw[Â,ó]at br el;rw[Â]at gd;subst yy hb ht;have lk:∀b∈Y.bs,lookK (Zy Lab.v<|o.map fun b=>(b,Zu b (H b) Y.ts)) (.int b)=some (Zu b (H b) Y.ts).v:=fun b hb=>by rw[Yg,Yw (v:=Zu b (H b) Y.ts) (by rw[ÿ];rw[show((fun x:Int×Lab=>x.1) ∘ fun b=>(b,Zu b (H b) Y.ts))=id from rfl,Ō];exact ond)<|Ò.mpr ⟨b,pm.mem_iff.mpr hb,rfl⟩];rfl
 have ab:∀b∈Y.bs,Y.cc.at_ b=(brH b most r Y.ts<|H b).ticked:=fun b hb=>(Oq br hb).trans<|if_pos<|pm.mem_iff.mpr hb;have tk:∀b,(brH b most r Y.ts<|H b).ticked={brH b most (r+1) Y.ts (Z1 1<|H b)with label:=Zu b (H b) Y.ts,version:=ver (Zu b (H b) Y.ts)}:=fun b=>by unfold Br.ticked;rw[WO (ho b)<|by omega];rfl
 have hlr:Y.road.length<=1000:=Ó gd.len (by omega);have yi:=ya.ins;walk_at "py";refine' OW ya fun p1 g1 bE x1 e1=>?_;refine' X0 (d:=3) e1 (x1.get er) (by rw[Â];omega) (fun x hx=>by obtain⟨q,_,rfl⟩:=Ò.mp hx;exact Lh q) ?_;have y1:=ya.ext x1;have yi:=y1.ins;walk_at "p";refine UL y1 gd fun p2 g2 cB x2 e2=>?_;rw[show(Y.bs.map fun b=>Val.tup [.int b,(Y.cc.at_ b).label.v])=Y.bs.map fun b=>.tup [.int b,(Zu b (H b) Y.ts).v] from Ā fun b hb=>by rw[ab b hb,tk]]at e2;have el2:=x2.get<|x1.get el
 exists ix_tup (xs:=[.tup<|Y.bs.map .int,.tup<|Y.ts.map trV]) (v:=.tup<|Y.bs.map .int) rfl
 refine' ⟨ß (by rw[hbl];exact l10) (by decide),YK (fun i ys g=>g=g2/\ys=(Y.bs.take i).map fun b=>.tup [.int b,(Zu b (H b) Y.ts).v]) ⟨rfl,rfl⟩ (fun _ _ _ _ _=>trivial) ?_ ?_⟩
 .rintro i v ys g hv ⟨rfl,rfl⟩ K hK;obtain⟨b,hb,rfl⟩:=ZE hv;walk_at "p";refine ZV el2 rfl (lk b<|ì hb) ?_;refine' hK _ _ ⟨rfl,?_⟩;rw[Zk hb,Ü];rfl
 rintro ys g ⟨rfl,rfl⟩;rw[Â,ó];refine Zh fun p3 g3 hp3 x3 e3=>?_;refine' X0 (d:=3) (x3.get e2) e3 (by rw[Â];omega) (fun x hx=>by obtain⟨q,_,rfl⟩:=Ò.mp hx;exact Ho q _) ?_;have el3:=x3.get el2;have y3:=y1.ext<|x2.trans x3;walk_at "p";refine ix_tup (xs:=[.tup<|Y.bs.map .int,.tup<|Y.ts.map trV]) (v:=.tup<|Y.bs.map .int) rfl ?_;refine' ⟨ß (by rw[hbl];exact l10) (by decide),YK (fun i ys g=>g=g3/\ys=(Y.bs.take i).map fun b=>.tup [.int b,pV (0,ver<|Zu b (H b) Y.ts)]) ⟨rfl,rfl⟩ (fun _ _ _ _ _=>trivial) ?_ ?_⟩
 .rintro i v ys g hv ⟨rfl,rfl⟩ K hK;obtain⟨b,hb,rfl⟩:=ZE hv;walk_at "p";refine ZV el3 rfl (lk b<|ì hb) ?_;walk_at "py";rw[IR];refine hK _ _ ⟨rfl,?_⟩;rw[Zk hb,Ü];rfl
 rintro ys g ⟨rfl,rfl⟩;rw[Â,ó];refine Zh fun p4 g4 hp4 x4 e4=>?_;have y4:=y3.ext x4;have yi:=y4.ins;walk_at "py";refine' Ae y4 gd fun p5 g5 hp5 x5 e5=>?_;rw[show(Y.bs.map fun b=>Val.tup [.int b,pV ((Y.cc.at_ b).life,(Y.cc.at_ b).version)])=Y.bs.map fun b=>.tup [.int b,pV (0,ver<|Zu b (H b) Y.ts)] from Ā fun b hb=>by rw[ab b hb,tk];rfl]at e5;refine' X0 (d:=2) e5 (x5.get e4) (by rw[Â];omega) (fun x hx=>by obtain⟨q,_,rfl⟩:=Ò.mp hx;exact⟨by simp,by simp[Pl]⟩) ?_;have y5:=y4.ext x5;have yi:=y5.ins;have htl:(Y.ts.map trV).length=Y.ts.length:=Â _;walk_at "p";refine ix_tup (xs:=[.tup<|Y.bs.map .int,.tup<|Y.ts.map trV]) (v:=.tup<|Y.ts.map trV) rfl ?_;walk_at "py";rw[htl];refine⟨by omega,?_⟩;refine Zl (fun i en g=>g=g5/\∃v,en=[some<|.scr ns,some<|.int most,some<|ZX Y.bs Y.ts,some<|.ref Y.y,some<|.int cell,some<|.int r,some<|.ref pr,v7,v8,some<|.ref ph,some<|.ref pl,some<|.ref p4,v]) ⟨rfl,_,rfl⟩ (fun _ _ _ _ _=>trivial) ?_ ?_
 .rintro i v en g hv ⟨rfl,v1,rfl⟩ K hK;obtain⟨rfl,hi⟩:=YT hv;have hi:i<Y.ts.length:=by omega
  have eg:Y.cc.ts[(i:Int).toNat]?.getD (0,0,0)=Y.ts[i]:=by show Y.ts[(i:Int).toNat]?.getD _=_;rw[í,Ë hi];rfl
  obtain⟨q1,q2,q3,_⟩:=no.tie Y.ts[i]<|Ķ hi;have shut:∀b∈Y.bs,(b=Y.ts[i].1\/b=Y.ts[i].2.1)->Wk (Y.cc.at_ b) i = "shut":=fun b hb hc=>by rw[ab b hb];refine GZ (a:=1) (ho b) (by rw[tk];rfl) ?_;rw[tk];show((ZM<|nbs b 0 Y.ts).lookup (i:Int)).isSome=true;rw[Z9 (p:=i) (o:=far Y.ts[i] b) (c:=Y.ts[i].2.2)<|nbs_iff.mpr ⟨i,Y.ts[i],Ë hi,hc,by rw[ű]⟩];rfl
  exists Fe y5 gd hi
  unfold Yc.ends;rw[eg];dsimp only;rw[shut _ q1<|.inl rfl,shut _ q2<|.inr rfl];refine' Mb 1 (v:=.tup [.str "shut",.str "shut"]) ⟨by simp,by simp[Pl]⟩ ?_;walk_at "p";exact hK _ _ ⟨rfl,_,rfl⟩
 .rintro en g ⟨rfl,v1,rfl⟩;refine' k _
end O
set_option maxRecDepth 1000000
set_option maxHeartbeats 0
namespace My
open PySem L2 Snd PySem.W
noncomputable def top(i:Nat):Stmt:=PySem.Challenge.pw_shutways_k24_letters_come_or_are_lost.main.body.getD i<|.Pass ⟨0,0,0,0⟩
noncomputable def inC:Stmt->Nat->Stmt
 |.ClassDef _ _ _ b _ _ _ _ _ _ _,j=>b.getD j<|.Pass ⟨0,0,0,0⟩
 |s,_=>s
noncomputable def x0:Ds:=⟨top 5,["thing"],["thing"],O.Sx⟩
noncomputable def x1:Ds:=⟨top 7,["net","bridge","found","place","tie"],["net","bridge"],O.Sr⟩
noncomputable def x2:Ds:=⟨top 8,["tie","bridge"],["tie","bridge"],O.Sy⟩
noncomputable def x3:Ds:=⟨top 17,["one","other"],["one","other"],O.Sv⟩
noncomputable def x4:Ds:=⟨top 19,["bridge","offers","better"],["bridge","offers"],O.Sz⟩
noncomputable def x5:Ds:=⟨top 25,["some","words"],["some"],O.S0⟩
noncomputable def x6:Ds:=⟨top 27,["script","k"],["script","k"],O.Sn⟩
noncomputable def x7:Ds:=⟨top 28,["cell","k","number"],["cell","k"],O.Sd⟩
noncomputable def x8:Ds:=⟨top 29,["cell","many","rest","plain","found","k"],["cell","many"],O.So⟩
noncomputable def x9:Ds:=⟨top 30,["sizes","many","width"],["sizes"],O.Sm⟩
noncomputable def x10:Ds:=⟨top 31,["bridges","three","k","size","one","other","cost","pair"],["bridges","three","k"],O.Si⟩
noncomputable def x11:Ds:=⟨top 32,["first","second","sizes","bridges","many","draws","ties"],["first","second"],O.Se⟩
noncomputable def x12:Ds:=⟨top 33,["first","sizes"],["first"],O.Su⟩
noncomputable def x13:Ds:=⟨top 34,["found","due","k"],["found","due"],O.Sf⟩
noncomputable def x14:Ds:=⟨top 35,["net","number","some","place","tie"],["net","number"],O.Sl⟩
noncomputable def x15:Ds:=⟨top 36,["numbers","cell","at","order"],["numbers","cell"],O.Sq⟩
noncomputable def x16:Ds:=⟨top 37,["net","number","held","some","place","other","cost","best"],["net","number","held"],O.Sk⟩
noncomputable def x17:Ds:=⟨top 38,["net","number","count","label","version","sent","place","other","cost","rests","letter"],["net","number","count","label"],O.Sg⟩
noncomputable def x18:Ds:=⟨top 39,["yard","net","held","number","place","other","cost","due"],["yard","net","held"],O.Sc⟩
noncomputable def x19:Ds:=⟨top 40,["held","told","spot"],["held","told"],O.Sb⟩
noncomputable def x20:Ds:=⟨top 41,["yard","road","held","cells","cell","at","told"],["yard","road","held","cells"],O.Sh⟩
noncomputable def x21:Ds:=⟨top 42,["greatest","yard","deed","letter","age","due"],["greatest"],O.Sj⟩
noncomputable def x22:Ds:=⟨top 43,["script","greatest","net","yard","cell","rounds","road","count","number","held","labels","stamps","place"],["script"],O.Sw⟩
noncomputable def z0:Ds:=⟨inC (top 21) 0,["self","number","life","ties","greatest","place","neighbour","cost"],["self","number","life","ties","greatest"],O.SW⟩
noncomputable def z1:Ds:=⟨inC (top 21) 2,["self"],["self"],O.SM⟩
noncomputable def z2:Ds:=⟨inC (top 21) 3,["self"],["self"],O.SA⟩
noncomputable def z3:Ds:=⟨inC (top 21) 4,["self","place"],["self","place"],O.SX⟩
noncomputable def z4:Ds:=⟨inC (top 21) 7,["self","place","letter","held"],["self","place","letter"],O.SY⟩
noncomputable def z5:Ds:=⟨inC (top 21) 8,["self","letters"],["self"],O.SC⟩
noncomputable def z6:Ds:=⟨inC (top 21) 9,["self","older","place","held"],["self"],O.SN⟩
noncomputable def z7:Ds:=⟨inC (top 21) 10,["self","offers","place","held","neighbour","cost","best","root"],["self"],O.SU⟩
noncomputable def z8:Ds:=⟨inC (top 21) 11,["self","label"],["self","label"],O.SB⟩
noncomputable def z9:Ds:=⟨inC (top 21) 12,["self","place","root","cost","over","rests","age","ahead"],["self","place"],O.SO⟩
noncomputable def z10:Ds:=⟨inC (top 21) 13,["self","place","held"],["self","place"],O.SK⟩
noncomputable def z11:Ds:=⟨inC (top 21) 14,["self","place","held"],["self","place"],O.SJ⟩
noncomputable def z12:Ds:=⟨inC (top 21) 15,["self","place"],["self","place"],O.SZ⟩
noncomputable def z13:Ds:=⟨inC (top 24) 0,["self","net","greatest","number"],["self","net","greatest"],O.SL⟩
noncomputable def z14:Ds:=⟨inC (top 24) 4,["self"],["self"],O.SR⟩
noncomputable def z15:Ds:=⟨inC (top 24) 6,["self"],["self"],O.SQ⟩
noncomputable def z16:Ds:=⟨inC (top 24) 7,["self"],["self"],O.SS⟩
noncomputable def z17:Ds:=⟨inC (top 24) 8,["self","number"],["self","number"],O.SD⟩
noncomputable def z18:Ds:=⟨inC (top 24) 9,["self","place","one","other","cost"],["self","place"],O.SH⟩
noncomputable def z19:Ds:=⟨inC (top 24) 10,["self","number","place"],["self","number","place"],O.SG⟩
noncomputable def z20:Ds:=⟨inC (top 24) 11,["self","place"],["self","place"],O.SI⟩
noncomputable def z21:Ds:=⟨inC (top 24) 12,["self","some","words","number"],["self","some"],O.SF⟩
noncomputable def z22:Ds:=⟨inC (top 24) 13,["self","number","place","letter","goal"],["self","number"],O.SV⟩
noncomputable def z23:Ds:=⟨inC (top 24) 14,["self","place","start","goal","tie","letter"],["self","place"],O.SE⟩
noncomputable def z24:Ds:=⟨inC (top 24) 15,["self","place"],["self","place"],O.ST⟩
noncomputable def tb:Tb where
 fs:=[("is_whole",x0),("neighbours",x1),("far_end",x2),("newer",x3),("best_offer",x4),("read_deed",x5),("_law_cell_at",x6),("_law_mixed",x7),("_law_draws",x8),("_law_bridges",x9),("_law_tie",x10),("_law_net",x11),("_law_greatest",x12),("_law_same",x13),("_law_ties_of",x14),("_law_turned",x15),("_law_best",x16),("_law_sent",x17),("_law_kept",x18),("_law_hears",x19),("_law_taken",x20),("_law_ages",x21),("law",x22)]
 ms:=[⟨"Bridge","__init__","Bridge.__init__",z0⟩,⟨"Bridge","label","Bridge.label",z1⟩,⟨"Bridge","stamp","Bridge.stamp",z2⟩,⟨"Bridge","held","Bridge.held",z3⟩,⟨"Bridge","hear","Bridge.hear",z4⟩,⟨"Bridge","tick","Bridge.tick",z5⟩,⟨"Bridge","let_grow_older","Bridge.let_grow_older",z6⟩,⟨"Bridge","reckon_label","Bridge.reckon_label",z7⟩,⟨"Bridge","take_label","Bridge.take_label",z8⟩,⟨"Bridge","letter_over","Bridge.letter_over",z9⟩,⟨"Bridge","is_rested_on","Bridge.is_rested_on",z10⟩,⟨"Bridge","is_agreed_to","Bridge.is_agreed_to",z11⟩,⟨"Bridge","end","Bridge.end",z12⟩,⟨"Yard","__init__","Yard.__init__",z13⟩,⟨"Yard","road","Yard.road",z14⟩,⟨"Yard","labels","Yard.labels",z15⟩,⟨"Yard","stamps","Yard.stamps",z16⟩,⟨"Yard","bridge","Yard.bridge",z17⟩,⟨"Yard","ends","Yard.ends",z18⟩,⟨"Yard","end_at","Yard.end_at",z19⟩,⟨"Yard","has_tie","Yard.has_tie",z20⟩,⟨"Yard","deed","Yard.deed",z21⟩,⟨"Yard","tick_of","Yard.tick_of",z22⟩,⟨"Yard","come","Yard.come",z23⟩,⟨"Yard","take_off","Yard.take_off",z24⟩]
 cs:=[("NUMBER",(.int 0)),("STAMP",(.int 1)),("ROOT",(.int 2)),("COST",(.int 3)),("AGE",(.int 4)),("RESTS",(.int 5)),("AGREES",(.int 6)),("DEEDS",(.tup [(.tup [(.str "tick")]),(.tup [(.str "come")]),(.tup [(.str "lost")]),(.tup [(.str "fall"),(.str "bridge")]),(.tup [(.str "fall"),(.str "tie")]),(.tup [(.str "back"),(.str "bridge")]),(.tup [(.str "back"),(.str "tie")])]))]
 cl:=["Bridge","Yard"]
 fl:=["age_let_go","greatest_age","held_by_place","label_now","letters_on_road","life","lives","net_made_of","number","standing","ticks_had","ties_by_place","ties_fallen","version"]
 xs:=[]
noncomputable def pg:O.Pg:=fun f=>(([("is_whole",O.Sx),("neighbours",O.Sr),("far_end",O.Sy),("newer",O.Sv),("best_offer",O.Sz),("read_deed",O.S0),("_law_cell_at",O.Sn),("_law_mixed",O.Sd),("_law_draws",O.So),("_law_bridges",O.Sm),("_law_tie",O.Si),("_law_net",O.Se),("_law_greatest",O.Su),("_law_same",O.Sf),("_law_ties_of",O.Sl),("_law_turned",O.Sq),("_law_best",O.Sk),("_law_sent",O.Sg),("_law_kept",O.Sc),("_law_hears",O.Sb),("_law_taken",O.Sh),("_law_ages",O.Sj),("law",O.Sw),("Bridge.__init__",O.SW),("Bridge.label",O.SM),("Bridge.stamp",O.SA),("Bridge.held",O.SX),("Bridge.hear",O.SY),("Bridge.tick",O.SC),("Bridge.let_grow_older",O.SN),("Bridge.reckon_label",O.SU),("Bridge.take_label",O.SB),("Bridge.letter_over",O.SO),("Bridge.is_rested_on",O.SK),("Bridge.is_agreed_to",O.SJ),("Bridge.end",O.SZ),("Yard.__init__",O.SL),("Yard.road",O.SR),("Yard.labels",O.SQ),("Yard.stamps",O.SS),("Yard.bridge",O.SD),("Yard.ends",O.SH),("Yard.end_at",O.SG),("Yard.has_tie",O.SI),("Yard.deed",O.SF),("Yard.tick_of",O.SV),("Yard.come",O.SE),("Yard.take_off",O.ST)]:List<|String×O.Fn).lookup f)
instance:O.Al pg:=⟨rfl,rfl,rfl,rfl,rfl,rfl,rfl,rfl,rfl,rfl,rfl,rfl,rfl,rfl,rfl,rfl,rfl,rfl,rfl,rfl,rfl,rfl,rfl,rfl,rfl,rfl,rfl,rfl,rfl,rfl,rfl,rfl,rfl,rfl,rfl,rfl,rfl,rfl,rfl,rfl,rfl,rfl,rfl,rfl,rfl,rfl,rfl,rfl⟩
variable {α:Type} {p:List α->Prop}
theorem ar1(h:∀a0,p [a0])(us:List α)(e:us.length=1):p us:=match us,e with|[a0],_=>h a0
theorem ar2(h:∀a0 a1,p [a0,a1])(us:List α)(e:us.length=2):p us:=match us,e with|[a0,a1],_=>h a0 a1
theorem ar3(h:∀a0 a1 a2,p [a0,a1,a2])(us:List α)(e:us.length=3):p us:=match us,e with|[a0,a1,a2],_=>h a0 a1 a2
theorem ar4(h:∀a0 a1 a2 a3,p [a0,a1,a2,a3])(us:List α)(e:us.length=4):p us:=match us,e with|[a0,a1,a2,a3],_=>h a0 a1 a2 a3
theorem ar5(h:∀a0 a1 a2 a3 a4,p [a0,a1,a2,a3,a4])(us:List α)(e:us.length=5):p us:=match us,e with|[a0,a1,a2,a3,a4],_=>h a0 a1 a2 a3 a4
variable {P:String->Ds->Prop}
theorem mc{f:String}{x:Ds}{l:List (String×Ds)}(h:P f x)(k:∀g y,(g,y)∈l->P g y):∀g y,(g,y)∈(f,x)::l->P g y:=fun g y m=>by
 rcases Ç.mp m with e|m
 .cases e;exact h
 .exact k g y m
theorem mn:∀g y,(g,y)∈([]:List<|String×Ds)->P g y:=fun _ _ m=>nomatch m
theorem tab_ok:∀f x,(f,x)∈tb.fs->x.Ok tb:=mc ⟨by kernel_rfl,by kernel_rfl⟩ (mc ⟨by kernel_rfl,by kernel_rfl⟩<|mc ⟨by kernel_rfl,by kernel_rfl⟩<|mc ⟨by kernel_rfl,by kernel_rfl⟩<|mc ⟨by kernel_rfl,by kernel_rfl⟩<|mc ⟨by kernel_rfl,by kernel_rfl⟩<|mc ⟨by kernel_rfl,by kernel_rfl⟩<|mc ⟨by kernel_rfl,by kernel_rfl⟩<|mc ⟨by kernel_rfl,by kernel_rfl⟩<|mc ⟨by kernel_rfl,by kernel_rfl⟩<|mc ⟨by kernel_rfl,by kernel_rfl⟩<|mc ⟨by kernel_rfl,by kernel_rfl⟩<|mc ⟨by kernel_rfl,by kernel_rfl⟩<|mc ⟨by kernel_rfl,by kernel_rfl⟩<|mc ⟨by kernel_rfl,by kernel_rfl⟩<|mc ⟨by kernel_rfl,by kernel_rfl⟩<|mc ⟨by kernel_rfl,by kernel_rfl⟩<|mc ⟨by kernel_rfl,by kernel_rfl⟩<|mc ⟨by kernel_rfl,by kernel_rfl⟩<|mc ⟨by kernel_rfl,by kernel_rfl⟩<|mc ⟨by kernel_rfl,by kernel_rfl⟩<|mc ⟨by kernel_rfl,by kernel_rfl⟩<|mc ⟨by kernel_rfl,by kernel_rfl⟩<|mn)
theorem tab_pg:∀f x,(f,x)∈tb.fs->pg f=some x.d:=mc rfl (mc rfl<|mc rfl<|mc rfl<|mc rfl<|mc rfl<|mc rfl<|mc rfl<|mc rfl<|mc rfl<|mc rfl<|mc rfl<|mc rfl<|mc rfl<|mc rfl<|mc rfl<|mc rfl<|mc rfl<|mc rfl<|mc rfl<|mc rfl<|mc rfl<|mc rfl<|mn)
theorem tab_bd:∀f x,(f,x)∈tb.fs->Hd.Bd (Str.ofString f) (Str.ofString f) x:=mc (fun _ _ _ _ _ _=>ar1 fun _=>rfl) (mc (fun _ _ _ _ _ _=>ar2 fun _ _=>rfl)<|mc (fun _ _ _ _ _ _=>ar2 fun _ _=>rfl)<|mc (fun _ _ _ _ _ _=>ar2 fun _ _=>rfl)<|mc (fun _ _ _ _ _ _=>ar2 fun _ _=>rfl)<|mc (fun _ _ _ _ _ _=>ar1 fun _=>rfl)<|mc (fun _ _ _ _ _ _=>ar2 fun _ _=>rfl)<|mc (fun _ _ _ _ _ _=>ar2 fun _ _=>rfl)<|mc (fun _ _ _ _ _ _=>ar2 fun _ _=>rfl)<|mc (fun _ _ _ _ _ _=>ar1 fun _=>rfl)<|mc (fun _ _ _ _ _ _=>ar3 fun _ _ _=>rfl)<|mc (fun _ _ _ _ _ _=>ar2 fun _ _=>rfl)<|mc (fun _ _ _ _ _ _=>ar1 fun _=>rfl)<|mc (fun _ _ _ _ _ _=>ar2 fun _ _=>rfl)<|mc (fun _ _ _ _ _ _=>ar2 fun _ _=>rfl)<|mc (fun _ _ _ _ _ _=>ar2 fun _ _=>rfl)<|mc (fun _ _ _ _ _ _=>ar3 fun _ _ _=>rfl)<|mc (fun _ _ _ _ _ _=>ar4 fun _ _ _ _=>rfl)<|mc (fun _ _ _ _ _ _=>ar3 fun _ _ _=>rfl)<|mc (fun _ _ _ _ _ _=>ar2 fun _ _=>rfl)<|mc (fun _ _ _ _ _ _=>ar4 fun _ _ _ _=>rfl)<|mc (fun _ _ _ _ _ _=>ar1 fun _=>rfl)<|mc (fun _ _ _ _ _ _=>ar1 fun _=>rfl)<|mn)
theorem md{P:α->Prop}{x:α}{l:List α}(h:P x)(k:∀y,y∈l->P y):∀y,y∈x::l->P y:=fun y m=>by
 rcases Ç.mp m with e|m
 .cases e;exact h
 .exact k y m
theorem me{P:α->Prop}:∀y,y∈([]:List α)->P y:=fun _ m=>nomatch m
theorem tab_om:∀y,y∈tb.ms->y.x.Ok tb:=md ⟨by kernel_rfl,by kernel_rfl⟩ (md ⟨by kernel_rfl,by kernel_rfl⟩<|md ⟨by kernel_rfl,by kernel_rfl⟩<|md ⟨by kernel_rfl,by kernel_rfl⟩<|md ⟨by kernel_rfl,by kernel_rfl⟩<|md ⟨by kernel_rfl,by kernel_rfl⟩<|md ⟨by kernel_rfl,by kernel_rfl⟩<|md ⟨by kernel_rfl,by kernel_rfl⟩<|md ⟨by kernel_rfl,by kernel_rfl⟩<|md ⟨by kernel_rfl,by kernel_rfl⟩<|md ⟨by kernel_rfl,by kernel_rfl⟩<|md ⟨by kernel_rfl,by kernel_rfl⟩<|md ⟨by kernel_rfl,by kernel_rfl⟩<|md ⟨by kernel_rfl,by kernel_rfl⟩<|md ⟨by kernel_rfl,by kernel_rfl⟩<|md ⟨by kernel_rfl,by kernel_rfl⟩<|md ⟨by kernel_rfl,by kernel_rfl⟩<|md ⟨by kernel_rfl,by kernel_rfl⟩<|md ⟨by kernel_rfl,by kernel_rfl⟩<|md ⟨by kernel_rfl,by kernel_rfl⟩<|md ⟨by kernel_rfl,by kernel_rfl⟩<|md ⟨by kernel_rfl,by kernel_rfl⟩<|md ⟨by kernel_rfl,by kernel_rfl⟩<|md ⟨by kernel_rfl,by kernel_rfl⟩<|md ⟨by kernel_rfl,by kernel_rfl⟩<|me)
theorem tab_pm:∀y,y∈tb.ms->pg (y.C ++ "." ++ y.m)=some y.x.d:=md rfl (md rfl<|md rfl<|md rfl<|md rfl<|md rfl<|md rfl<|md rfl<|md rfl<|md rfl<|md rfl<|md rfl<|md rfl<|md rfl<|md rfl<|md rfl<|md rfl<|md rfl<|md rfl<|md rfl<|md rfl<|md rfl<|md rfl<|md rfl<|md rfl<|me)
theorem tab_bm:∀y,y∈tb.ms->Hd.Bd (Str.ofString y.m) (Str.ofString y.qual) y.x:=md (fun _ _ _ _ _ _=>ar5 fun _ _ _ _ _=>rfl) (md (fun _ _ _ _ _ _=>ar1 fun _=>rfl)<|md (fun _ _ _ _ _ _=>ar1 fun _=>rfl)<|md (fun _ _ _ _ _ _=>ar2 fun _ _=>rfl)<|md (fun _ _ _ _ _ _=>ar3 fun _ _ _=>rfl)<|md (fun _ _ _ _ _ _=>ar1 fun _=>rfl)<|md (fun _ _ _ _ _ _=>ar1 fun _=>rfl)<|md (fun _ _ _ _ _ _=>ar1 fun _=>rfl)<|md (fun _ _ _ _ _ _=>ar2 fun _ _=>rfl)<|md (fun _ _ _ _ _ _=>ar2 fun _ _=>rfl)<|md (fun _ _ _ _ _ _=>ar2 fun _ _=>rfl)<|md (fun _ _ _ _ _ _=>ar2 fun _ _=>rfl)<|md (fun _ _ _ _ _ _=>ar2 fun _ _=>rfl)<|md (fun _ _ _ _ _ _=>ar3 fun _ _ _=>rfl)<|md (fun _ _ _ _ _ _=>ar1 fun _=>rfl)<|md (fun _ _ _ _ _ _=>ar1 fun _=>rfl)<|md (fun _ _ _ _ _ _=>ar1 fun _=>rfl)<|md (fun _ _ _ _ _ _=>ar2 fun _ _=>rfl)<|md (fun _ _ _ _ _ _=>ar2 fun _ _=>rfl)<|md (fun _ _ _ _ _ _=>ar3 fun _ _ _=>rfl)<|md (fun _ _ _ _ _ _=>ar2 fun _ _=>rfl)<|md (fun _ _ _ _ _ _=>ar2 fun _ _=>rfl)<|md (fun _ _ _ _ _ _=>ar2 fun _ _=>rfl)<|md (fun _ _ _ _ _ _=>ar2 fun _ _=>rfl)<|md (fun _ _ _ _ _ _=>ar2 fun _ _=>rfl)<|me)
theorem law_in:("law",x22)∈tb.fs:=ì (i:=22) rfl
noncomputable abbrev pr:Program:=PySem.Challenge.rw_shutways_k24_letters_come_or_are_lost.row.prog
noncomputable abbrev vw:Program:=PySem.W.view pr [0,2,3,5,7,8,10,11,12,13,14,15,16,17,19,21,23,24,25,27,28,29,30,31,32,33,34,35,36,37,38,39,40,41,42,43]
noncomputable abbrev xt(s:Shared):Bool:=xlAt vw [] s&&recOk (RowW.records PySem.Challenge.rw_shutways_k24_letters_come_or_are_lost.row.toRowW) s
theorem said:PySem.Challenge.rw_shutways_k24_letters_come_or_are_lost.wellSaid=true:=by rw[Fast.te9446332074065402090];kernel_rfl
theorem left:LeftO pr vw [] xt (Hd.hook tb).obs (Hd.hook tb).val 12000:=Hd.left_of (by kernel_rfl) rfl (fun s=>by kernel_rfl) fun w os=>by kernel_rfl
end My
open PySem PySem.W PyProof.Rows
theorem PySem.Challenge.cw_shutways_k24_letters_come_or_are_lost_holds : PySem.Challenge.rw_shutways_k24_letters_come_or_are_lost.Holds := by
 refine holds_law My.said fun said=>?_;refine holds_open (q:=My.vw) (loose:=[]) (Xt:=My.xt) (XP:=XL My.vw []) (YP:=(Hd.hook My.tb).says) My.left (Hook.of _) (Hook.keeps _) (fun s e=>xl_of s (ϙ.mp e).1) XL.keeps (by rfl) (by rfl) (by rfl) (fun s e=>recFacts_of (ϙ.mp e).2) (by rfl) said (by decide +kernel) ⟨rfl,rfl,rfl,rfl,rfl,by decide +kernel⟩ ?hw ?hc
 case hw=>w_on;w_witness2
 case hc=>exact Hd.law_walk (k:=7) rfl rfl rfl ⟨rfl,by decide,by decide⟩ My.law_in rfl rfl My.tab_pg My.tab_pm My.tab_ok My.tab_om My.tab_bd My.tab_bm fun ns hl=>O.law_ok (n:=0) hl fun _=>rfl
