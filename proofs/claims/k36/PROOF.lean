import PyProof.Rows.All
import Wide.All
import OpenK.AllK
import Wide.FinOn
import PyProof.EqAt
import PyProof.EqKinds
import PyProof.TupleCall
import Lean
import PySem.Challenge.RW_shutways_k36_quiet_rounds
set_option Elab.async false
set_option bootstrap.genMatcherCode false
set_option compiler.extract_closed false
set_option genSizeOf false
local macro_rules|`(command|def $x:declId $b:bracketedBinder*:$t $v:declVal)=>`(command|theorem $x:declId $b:bracketedBinder*:$t $v:declVal)
local macro_rules|`(command|abbrev $x:declId $s:optDeclSig $v:declVal)=>`(command|noncomputable def $x:declId $s:optDeclSig $v:declVal)
set_option linter.all false
set_option maxRecDepth 100000
open PySem.Str renaming ofString->gL
open Decidable renaming decide->gK
open Option renaming some->eY, none->eZ
open Bool renaming true->fb, false->fc
open PySem.W (Frag)
open Array renaming length_toList->ï, getElem?_eq_getElem->ú, getElem?_toList->ą, getElem?_eq_some_iff->Ľ, getD->υ, getElem?_eq_none->Υ, toList->bT, append_assoc->dk, toList_push->dU, toList_inj->eR
open Bool renaming false_ne_true->ù, false_eq_true->Į, not_eq_true'->Ş, and_eq_true_iff->ϝ, or_false->Ϫ, and_true->ϫ, not_not->ac, false_xor->bc, true_xor->bL
open Char renaming toNat->Œ
open False renaming elim->Ĭ
open ForInStep renaming yield->Ŀ
open Function renaming comp_apply->bW
open Int renaming toNat_natCast->ä, emod_lt_of_pos->Ζ, emod_nonneg->ϕ, natCast_nonneg->eX
open List renaming length_map->Ã, mem_cons->Ç, getElem?_eq_getElem->É, mem_append_right->Ê, length_cons->Ë, size_toArray->Í, map_cons->Ï, getElem?_eq_some_iff->Ò, replicate->Ó, mem_append_left->Ö, not_mem_nil->Ø, getElem?_map->Ú, mem_map->Ü, mem_cons_of_mem->Þ, mem_singleton->à, map_append->ã, mem_append->å, nodup_append->ç, length_append->ê, mem_cons_self->î, lookup_cons->ñ, length_replicate->ò, all_eq_true->ó, mem_of_getElem?->õ, take_length->ø, map_map->ý, getD_eq_getElem?_getD->ÿ, mem_map_of_mem->ā, contains_iff_mem->Ć, nodup_cons->ć, getElem?_append_left->Ċ, append_nil->ċ, length_take->Č, replicate_succ->č, getElem?_append_right->đ, mapM_cons->Ē, length_nil->ē, filterMap_cons->ė, mem_filter->ę, find?_cons->ě, map_inj_left->ĥ, map_congr_left->ħ, filter_cons->į, nodup_nil->ı, append_assoc->ĳ, foldl_cons->ĵ, drop_eq_nil_of_le->Ĺ, any_cons->ļ, getElem?_eq_none->Ł, flatten_cons->Ň, mergeSort_perm->Ō, getElem?_replicate->ō, length_eq_zero_iff->Ŏ, zip_cons_cons->ő, length_mergeSort->ř, length_range->Ŝ, getElem_mem->ţ, mem_flatMap->ť, drop_eq_getElem_cons->Ŧ, filter_sublist->ŧ, mem_range->Ŵ, take_add_one->Ŷ, flatMap_cons->ŷ, length_filter_le->Ż, getElem?_set_ne->μ, lookup->ν, mem_filterMap->χ, zip_nil_right->ψ, zip_nil_left->Ι, reverse_cons->Κ, length_drop->Ρ, getElem?_set_self->Ω, map_nil->ϋ, take_of_length_le->ώ, length_set->ϒ, length_singleton->ϓ, length_take_le'->Ϟ, map_id->ϟ, length_pos_iff->ϧ, take_succ_cons->Ϩ, filterMap_map->Ϭ, set_cons_succ->Ϯ, set_cons_zero->ϯ, length_filter_eq_length_iff->af, any_eq_true->am, cons_append->ao, eq_nil_of_length_eq_zero->ay, of_mem_zip->aK, drop_zero->bd, perm_ext_iff_of_nodup->be, length_eraseIdx_of_lt->bg, getElem?_eq_none_iff->bo, length_filterMap_le->bJ, map_take->bM, length_erase_of_mem->bP, pairwise_mergeSort->bV, length_eraseIdx_le->bX, pairwise_lt_range->cj, filterMap_eq_map'->cp, dropLast_eq_take->cI, mem_iff_getElem?->cJ, set_append_left->cX, pairwise_append->cY, flatMap_append->dA, foldl->dM, pairwise_cons->dR, getElem_range->dX, append_of_mem->dY, filter_append->dZ
open List.Sublist renaming refl->Ũ
open Nat renaming le_refl->Ì, lt_of_le_of_lt->Û, ne_of_lt->Ý, le_trans->ß, lt_of_lt_of_le->á, lt_succ_self->Ğ, zero_le->ğ, lt_irrefl->Ĥ, lt_succ_of_lt->Ķ, le_succ->ň, ne_of_gt->Ŕ, lt_trans->Ŗ, le_of_lt->Ÿ, succ_le_succ->Τ, min_eq_left->ϔ, min_le_right->au, mul_comm->cD, zero_add->cK, mul_le_mul_left->dP
open Option renaming map_eq_some_iff->Î, bind_some->è, bind_eq_some_iff->ì, isSome_iff_exists->û, map_some->œ, isSome_map->ϭ, not_isSome_iff_eq_none->ai, isNone_iff_eq_none->aQ, toList_none->cZ, getD_none->dL
open Option.some renaming inj->æ, injEq->Ĝ
open Prod.mk renaming injEq->Ε
open PyProof.Rows renaming IntsAre->ü, step_dedup->ŝ, firstMet->ζ, kindOf->ω, seqObj->Μ, AllBare->Ψ, IsTup->ϰ, envOfC->ϲ, firstMet_length_le->az, Constant_none->dm, subscriptTail->dr, subscriptTail_builtinR->eM
open PySem renaming wpAny_bind->À, Value->Â, Shared->Å, wpAny_pure->Æ, Addr->È, starEach->Ô, sizeLine->Õ, model->Ù, Program->â, compareOp->ë, World->ô, wpAny_newObj_type->Ā, Heap->ă, Around->Ą, mainGlobals->Ĉ, wpAny_call_entry->ĉ, wpAny_holding->ď, wpAny_truthy_bool->Đ, wpAny_callSpecial?_slot->Ĕ, codeAny_builtin->ĕ, wpAny_mono->Ę, foldedSetIterable->Ě, wpAny_loadPart'->Ġ, assignEach->ġ, rawInt->Ģ, backTo->Ħ, attributeBase->Ĩ, cLine->ĩ, wpAny_field->ĭ, wpAny_ite_split->İ, wpAny_Call_Name_kw->Ĳ, plainId_quiet->Ĵ, wpAny_seqItems->ķ, wpAny_setField->ĸ, argBest->ĺ, Stmt->ŀ, behindInMarks->ł, holding->ņ, binaryOp->ŉ, FuncData->Ŋ, keywordEach->ŋ, sysModules->Ś, intKind->ś, wpAny_passesOwn->ş, builtinLookup_eq_fast->Š, wpAny_setState_of->Ť, bootBuiltins->ũ, wpAny_askSetting->Ū, pyNext->Ŭ, PyData->ŭ, wpAny_setEntries_of->Ů, SetTable->ų, tupleKind_room_in1->Ź, swapsWith->ź, codeAny_mono->ż, backToKw->Ž, wpAny_typeOf->ž, wpAny_pyIter_list->ſ, firstArgMember->η, wpAny_tryCatch->θ, Scope->ξ, assign->ο, wpAny_rule->π, sliceBounds->ς, wpAny_updateSeq->Γ, typeLookup_type->Δ, PassesOwn->Λ, isSubtype_type->Ξ, standAt->ϊ, swapsWithSole->ϐ, swappedStores->ϑ, Operator->ϖ, getMethod->ϗ, NameKind->Ϙ, seqItems?->ϙ, wpAny_isInstance->ϛ, getItem->Ϡ, IsPart->ϡ, valueAt->Ϣ, argsOk->ϣ, call_meetsIn->Ϥ, setsByText->ϥ, letOwnedTupleGo->Ϧ, sizeLine_eq->ϱ, wpAny_of_eq->ϳ, wpAny_fieldsOf->ϵ, unsupported->Ϸ, tupleKind->Ϲ, callerA->Ϻ, scanBound->ae, intBits_le_64->ak, wpAny_attempt->al, Result->aq, call_meets->av, wpAny_pyIter_tuple->aw, setItem->aN, seqIndex_neg->aO, Keyword->aP, entryFor->aR, wpAny_pyIter_slot->aS, fits_of_scanBound->aU, lastMarks->bp, noFill_tuple_add->bq, noteFrame->bu, entryFor_of_tree->bw, seqIndex_of->bI, wpAny_letGo->bN, wpAny_execs_nil->bU, relabel->b7, GenState->cx, isTrue->cy, CmpOp->cz, pyIter->cA, callWith->cB, newExc->cE, isSubtype_stop->cF, evalEach->cG, atKey->cH, entryFor_alias->cL, methodCallForm->cN, wpAny_standAt->dn, seq_tuple_add->dq, wpAny_comprehension_free->du, wpAny_handled->dy, wpAny_newList->dz, bindC->dJ, field->dN, updateSeq->dQ, drawOrder->dW, release->eF, richCompare_meets_room->eK, concat_meets->eL, wpAny_getItem_list_neg->eN, stored->eQ
open PySem.Around renaming under_plainId->Ă, under->bH
open PySem.Builtin renaming iter->Ų
open PySem.Builtin.Frozenset renaming sizeOf->cM
open PySem.Builtin.Str renaming strSliceIndices->Β
open PySem.Code renaming isFrame->b6
open PySem.FuncData.mk renaming injEq->bO
open PySem.Heap renaming get?_push_of_some->Ä, get?_push_size->Ð, lt_size->Ñ, get?_update_other->í, get?_update_self->Ď, SameBut->Ţ, size_push->ŵ, LeftW->dO
open PySem.Heap.SameBut renaming update->þ
open PySem.NameKind renaming free->Ī, cell->eP
open PySem.Obj renaming data_mapFields->ŕ, mapSeq->Α, mapFields->Ν, isFreed_of_fields->Ϛ, cls_mapFields->ah, putSet->eU
open PySem.PyData renaming eqv->ī, depthAll->Ń, canLayAll0->ŗ, canLay0->Ű, eqvAll->Θ
open PySem.SetTable renaming below->Ļ, grown->ύ, has->bf, orStandIn->ck, slot->eS
open PySem.SetTable.below renaming go->aT
open PySem.SetTable.probe renaming go->ό
open PySem.Value renaming notImplemented->cC
open PySem.Value.type renaming inj->aa
open PySem.W renaming boot_heap->ū, findIn->ϴ, boot_drawn->aA, SharedT->aW, boot_toks->bx, mg_of->cO, nsIn->eV, kitOne->eW
open PySem.pickOrder renaming go->aV
open String renaming ofList->Η, singleton->ab, length_toList->ce, toList_ofList->cf, length_append->cg
open UInt32.toNat renaming inj->bK
def bAq(a b:Bool):((a&&b)=fb)=(a=fb/\b=fb):=Bool.and_eq_true a b
abbrev gD:=@if_pos
abbrev gE:=@if_neg
abbrev gF:=@decide_eq_false
abbrev gG:=@decide_eq_true
abbrev gH:=@decide_eq_true_eq
@[reducible] noncomputable def gJ:=@absurd
namespace L2
open PySem PySem.Spec PyProof.Rows
noncomputable abbrev Key:=Sum Int Str
abbrev Jc:Key->Â->Bool
 |.inl k,v=>Value.isInt k v
 |.inr x,v=>Value.isStrOf x v
abbrev RA(w:ô):Key->Int
 |.inl k=>hashInt k
 |.inr x=>hashStr w x
def Zo:∀{k:Key}{v:Â},Jc k v=fb->(∃i t,k=Sum.inl i/\v=Value.int i t)\/(∃x t,k=Sum.inr x/\v=Value.str x t)
 |.inl i,v,h=>by obtain⟨t,e⟩:=Value.isInt_shape (k:=i) (v:=v) h;exact .inl ⟨i,t,rfl,e⟩
 |.inr x,v,h=>by obtain⟨t,e⟩:=Value.isStrOf_shape (x:=x) (v:=v) h;exact .inr ⟨x,t,rfl,e⟩
def Ai(i:Int)(t:Tok):Jc (.inl i) (.int i t)=fb:=by simp[Jc,Value.isInt]
def A8(x:Str)(t:Tok):Jc (.inr x) (.str x t)=fb:=by simp[Jc,Value.isStrOf]
def IG(a b:Int):gK ((Sum.inl a:Key)=Sum.inl b)=(a==b):=by
 by_cases e:a=b
 .subst e;simp
 .have h:¬ (Sum.inl a:Key)=Sum.inl b:=λq=>e<|Sum.inl.inj q;rw[gF h];exact(beq_eq_false_iff_ne.mpr e).symm
def I0(a b:Str):gK ((Sum.inr a:Key)=Sum.inr b)=gK (a=b):=by
 by_cases e:a=b
 .subst e;simp
 .have h:¬ (Sum.inr a:Key)=Sum.inr b:=λq=>e<|Sum.inr.inj q;rw[gF h,gF e]
def HD(a:Int)(b:Str):gK ((Sum.inl a:Key)=Sum.inr b)=fc:=gF (λq=>nomatch q)
def IJ(a:Str)(b:Int):gK ((Sum.inr a:Key)=Sum.inl b)=fc:=gF (λq=>nomatch q)
abbrev Zc(prog:â)(w:ô):PySem.KeyKind prog w Key where
 is:=Jc
 hash:=RA w
 inj:=λv a b ha hb=>by
  rcases Zo ha with⟨i,t,rfl,rfl⟩|⟨x,t,rfl,rfl⟩
  .rcases Zo hb with⟨j,u,rfl,e⟩|⟨y,u,rfl,e⟩
   .injection e with e1 _;rw[e1]
   .exact nomatch e
  .rcases Zo hb with⟨j,u,rfl,e⟩|⟨y,u,rfl,e⟩
   .exact nomatch e
   .injection e with e1 _;rw[e1]
 byValue:=λk v h=>by rcases Zo h with⟨i,t,rfl,rfl⟩|⟨x,t,rfl,rfl⟩<;>rfl
 pyHash:=λhv h=>by
  rcases Zo hv with⟨i,t,rfl,rfl⟩|⟨x,t,rfl,rfl⟩
  .exact wpAny_pyHash_int h
  .exact wpAny_pyHash_str h
 eqBool:=λhu hv h=>by
  rcases Zo hu with⟨i,t,rfl,rfl⟩|⟨x,t,rfl,rfl⟩
  .rcases Zo hv with⟨j,u,rfl,rfl⟩|⟨y,u,rfl,rfl⟩
   .rw[IG]at h;exact wpAny_eqBool_int h
   .rw[HD]at h;exact SeqAt.EqAt.int_str i t y u _ _ _ _ h
  .rcases Zo hv with⟨j,u,rfl,rfl⟩|⟨y,u,rfl,rfl⟩
   .rw[IJ]at h;exact SeqAt.EqAt.str_int x t j u _ _ _ _ h
   .rw[I0]at h;exact wpAny_eqBool_str h
 «strs»:=λk x t v h=>by
  rcases Zo h with⟨i,u,rfl,e⟩|⟨y,u,rfl,e⟩
  .exact nomatch e
  .injection e with e1 _;subst e1;cases v<;>rfl
def MX(prog:â)(w:ô)(i:Int)(t:Tok):(Zc prog w).is (.inl i) (.int i t)=fb:=Ai i t
def NI(prog:â)(w:ô)(x:Str)(t:Tok):(Zc prog w).is (.inr x) (.str x t)=fb:=A8 x t
inductive V where
 |non|bl (b:Bool)|int (i:Int)|str (x:Str)|byt (b:Array UInt8)|flt (b:UInt64)|ref (a:È)|ty (n:String)
 deriving DecidableEq
abbrev RelV:V->Â->Prop
 |.non,u=>u=Value.none
 |.bl b,u=>u=Value.bool b
 |.int i,u=>∃t,u=Value.int i t
 |.str x,u=>∃t,u=Value.str x t
 |.byt b,u=>∃t,u=Value.bytes b t
 |.flt b,u=>∃t,u=Value.float b t
 |.ref a,u=>u=Value.ref a
 |.ty n,u=>u=Value.type n
@[reducible] noncomputable def gq:List V->List Â->Prop:=Paired RelV
def gq.length{xs:List V}{us:List Â}(r:gq xs us):xs.length=us.length:=Paired.length r
def gq.get:∀{xs:List V}{us:List Â}{i:Nat}{x:V},gq xs us->xs[i]?=eY x->∃u,us[i]?=eY u/\RelV x u
 |_,_,_,_,.nil,e=>by simp at e
 |_,_,0,_,.cons r _,e=>by simp at e;subst e;exact⟨_,rfl,r⟩
 |_,_,i+1,x,.cons _ t,e=>by obtain⟨u,h1,h2⟩:=gq.get (i:=i) (x:=x) t (by simpa using e);exact⟨u,by simpa using h1,h2⟩
def gq.set{x:V}{u:Â}(r:RelV x u):∀{xs:List V}{us:List Â}(i:Nat),gq xs us->gq (xs.set i x) (us.set i u)
 |_,_,_,.nil=>.nil
 |_,_,0,.cons _ t=>.cons r t
 |_,_,i+1,.cons q t=>.cons q<|gq.set r i t
def gq.append:∀{xs ys:List V}{us ws:List Â},gq xs us->gq ys ws->gq (xs++ys) (us++ws)
 |_,_,_,_,.nil,s=>s
 |_,_,_,_,.cons r t,s=>.cons r<|gq.append t s
def gq.take:∀{xs:List V}{us:List Â}(n:Nat),gq xs us->gq (xs.take n) (us.take n)
 |_,_,0,_=>.nil
 |_,_,_+1,.nil=>.nil
 |_,_,n+1,.cons r t=>.cons r<|gq.take n t
def gq.drop:∀{xs:List V}{us:List Â}(n:Nat),gq xs us->gq (xs.drop n) (us.drop n)
 |_,_,0,r=>r
 |_,_,_+1,.nil=>.nil
 |_,_,n+1,.cons _ t=>gq.drop n t
def gq.none_of:∀{xs:List V}{us:List Â}{i:Nat},gq xs us->xs[i]?=eZ->us[i]?=eZ:=λ{xs us i} r e=>by have h1:=r.length;have h2:xs.length<=i:=bo.mp e;exact bo.mpr (by lia)
abbrev fK:Option V->Option Â->Prop
 |some v,eY u=>RelV v u
 |none,eZ=>True
 |_,_=>False
abbrev KV{κ:Type}:List (κ×V)->List (κ×Â)->Prop:=Paired λ(p:κ×V) (q:κ×Â)=>p.1=q.1/\RelV p.2 q.2
abbrev kV:Key->V
 |.inl i=>.int i
 |.inr x=>.str x
inductive HO where
 |lst (xs:List V)
 |tup (xs:List V)
 |dK (kvs:List<|Key×V)|dT (kvs:List<|List Key×V)
 |set (S:Int->Bool) (n:Nat)
 |ins (C dx:È) (fs:List<|Str×V)
 |own (x:È)
 |xd (fs:List<|Str×V)
 |met (f x:È)
 |rng (lo hi:Int)
 |frz (o:Obj) (u:HO)
 |tbl (ps:Array Â)
 |ext (φ:ă->Prop)
noncomputable abbrev Hp:=È->Option HO
abbrev upd(H:Hp)(a:È)(o:HO):Hp:=λb=>if b=a then eY o else H b
variable {H:Hp} {a:È} {o:HO}
def ff:upd H a o a=eY o:=by unfold upd;rw[gD rfl]
variable {b:È}
def fe(h:b≠a):upd H a o b=H b:=by unfold upd;rw[gE h]
variable {u:HO}
def fg:upd (upd H a o) a u=upd H a u:=by funext b;unfold upd;split<;>rfl
def Bt(h:H a=eY o)(h':H b=eY u)(d:o≠u):a≠b:=by intro e;subst e;rw[h]at h';exact d (æ h')
def Zh(h:H a=eY o)(h':H b=eZ):a≠b:=by intro e;subst e;rw[h]at h';cases h'
section
variable (P:â) (w:ô)
abbrev fo(H:Hp)(h:ă)(a:È):HO->Prop
 |.lst xs=>xs.length<=Õ/\∃(ð:List Â) (n:Nat),gq xs ð/\h.get? a=eY {cls:=.type "list",data:=.seq ð.toArray n}
 |.tup xs=>xs.length<=Õ/\∃ð:List Â,gq xs ð/\ϰ h a ð.toArray
 |.dK kvs=>kvs.length<=Õ/\(a==Ś)=fc/\∃vs,KV kvs vs/\h.DictOf (Zc P w) a vs
 |.dT kvs=>kvs.length<=Õ/\(a==Ś)=fc/\∃xs:List<|List Key×È×Â,
   Paired (λ(p:List Key×V) (q:List Key×È×Â)=>p.1=q.1/\H q.2.1=eY (.tup<|p.1.map kV)/\RelV p.2 q.2.2) kvs xs/\
   ∃o es ep,h.get? a=eY o/\o.ExactDict/\o.data=.dict es ep/\es.toList=xs.map (entryOfKey<|Ϲ<|Zc P w)/\(xs.map (·.1)).Nodup
 |.set S n=>h.SetOf (ś P w) a S n
 |.ins C dx fs=>H dx=eY (.own a)/\fs.length<=1000/\dx≠a/\h.get? a=eY (PySem.W.instObj C dx)/\
   ∃mA,h.Ns1 dx mA/\(∀f,fK (fs.lookup f)<|mA f)/\PySem.Within mA (fs.map (·.1))
 |.own _=>∃o,h.get? a=eY o
 |.xd fs=>∃mA,h.Ns1 a mA/\∀f,fK (fs.lookup f) (mA f)
 |.rng lo hi=>∃t u v,h.get? a=eY {cls:=.type "range",data:=.fields #[.int lo t,.int hi u,.int 1 v]}
 |.frz o u=>h.get? a=eY o/\fo H h a u
 |.tbl ps=>h.get? a=eY {cls:=.none,data:=.fields ps}
 |.met f x=>h.get? a=eY (PySem.W.methodObj (.ref f)<|.ref x)
 |.ext φ=>φ h/\(∃o,h.get? a=eY o)/\∀h1 h2:ă,φ h1->(∀o,h1.get? a=eY o->h2.get? a=eY o)->φ h2
abbrev HOk(H:Hp)(h:ă):Prop:=∀a o,H a=eY o->fo P w H h a o
end
section
variable {P:â}{w:ô}{H H':Hp}{h h':ă}{a:È}{o:HO}
def fo.lt(x:fo P w H h a o):a<h.objs.size:=by
 cases o with
 |lst xs=>obtain⟨_,_,_,_,e⟩:=x;exact Ñ e
 |tup xs=>obtain⟨_,_,_,p⟩:=x;exact p.lt
 |dK kvs=>obtain⟨_,_,_,_,o,_,_,e,_⟩:=x;exact Ñ e
 |dT kvs=>obtain⟨_,_,_,_,o,_,_,e,_⟩:=x;exact Ñ e
 |set S n=>obtain⟨o,_,_,_,e,_⟩:=x;exact Ñ e
 |ins C dx fs=>obtain⟨_,_,_,e,_⟩:=x;exact Ñ e
 |own y=>obtain⟨_,e⟩:=x;exact Ñ e
 |xd fs=>obtain⟨_,⟨_,_,_,e,_⟩,_⟩:=x;exact Ñ e
 |rng lo hi=>obtain⟨_,_,_,e⟩:=x;exact Ñ e
 |frz ob u=>obtain⟨e,_⟩:=x;exact Ñ e
 |tbl ps=>exact Ñ (show h.get? a=eY _ from x)
 |met f y=>exact Ñ (show h.get? a=eY _ from x)
 |ext φ=>obtain⟨_,⟨_,e⟩,_⟩:=x;exact Ñ e
def Paired.mapP{α β:Type}{F G:α->β->Prop}:∀{l₁:List α}{l₂:List β},Paired F l₁ l₂->(∀a b,F a b->G a b)->Paired G l₁ l₂
 |_,_,.nil,_=>.nil
 |_,_,.cons r t,f=>.cons (f _ _ r)<|Paired.mapP t f
def fo.stay(x:fo P w H h a o)(k:∀b u,(b=a\/H b=eY (.own a))->h.get? b=eY u->h'.get? b=eY u)
  (ho:∀b,H b=eY (.own a)->H' b=eY (.own a)) (ht:∀b xs,H b=eY (.tup xs)->H' b=eY (.tup xs)):fo P w H' h' a o:=by
 induction o with
 |lst xs=>obtain⟨z,ð,n,r,e⟩:=x;exact⟨z,ð,n,r,k _ _ (.inl rfl) e⟩
 |tup xs=>obtain⟨z,ð,r,ob,e,c⟩:=x;exact⟨z,ð,r,ob,k _ _ (.inl rfl) e,c⟩
 |dK kvs=>obtain⟨z,y,vs,r,ob,es,ep,e,c⟩:=x;exact⟨z,y,vs,r,ob,es,ep,k _ _ (.inl rfl) e,c⟩
 |dT kvs =>obtain⟨z,y,xs,r,ob,es,ep,e,c⟩:=x;exact⟨z,y,xs,Paired.mapP r λp q z=>⟨z.1,ht _ _ z.2.1,z.2.2⟩,ob,es,ep,k _ _ (.inl rfl) e,c⟩
 |set S n=>obtain⟨ob,es,ep,t,e,c⟩:=x;exact⟨ob,es,ep,t,k _ _ (.inl rfl) e,c⟩
 |ins C dx fs =>obtain⟨d,z,ne,e,mA,⟨od,es,ep,e2,c⟩,r⟩:=x;exact⟨ho _ d,z,ne,k _ _ (.inl rfl) e,mA,⟨od,es,ep,k _ _ (.inr d) e2,c⟩,r⟩
 |own y=>obtain⟨ob,e⟩:=x;exact⟨ob,k _ _ (.inl rfl) e⟩
 |xd fs=>obtain⟨mA,⟨od,es,ep,e,c⟩,r⟩:=x;exact⟨mA,⟨od,es,ep,k _ _ (.inl rfl) e,c⟩,r⟩
 |rng lo hi=>obtain⟨t,u,v,e⟩:=x;exact⟨t,u,v,k _ _ (.inl rfl) e⟩
 |frz ob u ih=>obtain⟨e,q⟩:=x;exact⟨k _ _ (.inl rfl) e,ih q⟩
 |tbl ps =>have e:h.get? a=eY {cls:=.none,data:=.fields ps}:=x;show h'.get? a=eY {cls:=.none,data:=.fields ps};exact k a _ (.inl rfl) e
 |met f y =>have e:h.get? a=eY (PySem.W.methodObj (.ref f)<|.ref y):=x;show h'.get? a=eY (PySem.W.methodObj (.ref f)<|.ref y);exact k a _ (.inl rfl) e
 |ext φ=>obtain⟨p,⟨o,e⟩,st⟩:=x;exact⟨st _ _ p λo q=>k _ _ (.inl rfl) q,⟨o,k _ _ (.inl rfl) e⟩,st⟩
def HOk.lt(x:HOk P w H h)(e:H a=eY o):a<h.objs.size:=(x a o e).lt
def HOk.fresh(x:HOk P w H h)(e:h.objs.size<=a):H a=eZ:=by
 cases q:H a with
 |none=>rfl
 |some u=>exact gJ (á (x.lt q) e)<|Ĥ _
def HOk.kept(x:HOk P w H h)(k:∀b u,h.get? b=eY u->h'.get? b=eY u):HOk P w H h':=λa o e =>
 (x a o e).stay (λb u _ q=>k b u q) (λ_ q=>q) λ_ _ q=>q
def HOk.laid(x:HOk P w H h)(k:∀b u,h.get? b=eY u->h'.get? b=eY u)(hp:h.objs.size<=a)(new:fo P w (upd H a o) h' a o):HOk P w (upd H a o) h':=λb u e=>by
 have hn:=x.fresh hp;by_cases hb:b=a
 .subst hb;rw[ff]at e;cases e;exact new
 .rw[fe hb]at e;exact(x b u e).stay (λc v _ q=>k c v q) (λc q=>by rw[fe<|Zh q hn];exact q) λc xs q=>by rw[fe<|Zh q hn];exact q
end
abbrev Rd(H:Hp)(a:È)(u:HO):Prop:=H a=eY u\/∃o,H a=eY (.frz o u)
def Rd.of(h:H a=eY u):Rd H a u:=.inl h
variable {h:ă}
def Rd.ok{P:â}{w:ô}(r:Rd H a u)(x:HOk P w H h):fo P w H h a u:=by
 rcases r with r|⟨o,r⟩
 .exact x a u r
 .obtain⟨_,q⟩:=x a _ r;exact q
abbrev Mut:Option HO->Prop
 |some (.lst _)=>True
 |some (.dK _)=>True
 |some (.dT _)=>True
 |some (.set _ _)=>True
 |some (.ins _ _ _)=>True
 |some (.ext _)=>True
 |_=>False
section
variable {P:â}{w:ô}{H:Hp}{h h':ă}{x e:È}{o':HO}
def HOk.write(ok:HOk P w H h)(mu:Mut<|H x)(he:e=x\/H e=eY (.own x))(k:∀b u,b≠e->h.get? b=eY u->h'.get? b=eY u)(heo:∃u,h'.get? e=eY u)
  (new:fo P w (upd H x o') h' x o'):HOk P w (upd H x o') h':=λb u q=>by
 have nown:∀c y,H c=eY (.own y)->c≠x:=λc y r z=>by subst z;rw[r]at mu;exact mu
 have ntup:∀c xs,H c=eY (.tup xs)->c≠x:=λc xs r z=>by subst z;rw[r]at mu;exact mu
 by_cases hb:b=x
 .subst hb;rw[ff]at q;cases q;exact new
 .rw[fe hb]at q;by_cases hbe:b=e
  .have q':H b=eY (.own x):=by
    rcases he with z|z
    .exact gJ (hbe.trans z) hb
    .rw[hbe];exact z
   rw[q]at q';cases q';obtain⟨v,hv⟩:=heo;exact⟨v,by rw[hbe];exact hv⟩
  .refine(ok b u q).stay (λc v hc r=>k c v ?_ r) (λc r=>by rw[fe<|nown c b r];exact r) λc xs r=>by rw[fe<|ntup c xs r];exact r
   rcases hc with rfl|hc
   .exact hbe
   .rintro rfl;rcases he with z|z
    .exact nown c b hc z
    .rw[hc]at z;cases z;exact hb rfl
end
structure Un(fs ex:List È)(H H':Hp)(h h':ă):Prop where
 keep:∀b o,h.get? b=eY o->H b=eZ->b∉fs->b∉ex->h'.get? b=eY o
 slot:∀b o,h.get? b=eY o->H b=eZ->b∈fs->b∉ex->∃sl,h'.get? b=eY {o with slots:=sl}
 free:∀b o,h.get? b=eY o->H b=eZ->b∉ex->H' b=eZ
 there:∀b o,h.get? b=eY o->b∉ex->∃o',h'.get? b=eY o'
 tups:∀b xs,H b=eY (.tup xs)->H' b=eY (.tup xs)
 frzs:∀b o u,H b=eY (.frz o u)->H' b=eY (.frz o u)
 tbls:∀b ps,H b=eY (.tbl ps)->∃more,H' b=eY (.tbl<|ps++more)
section
variable {fs d6 ex ex':List È}{H H1 H2:Hp}{h h1 h2 h':ă}{a x e:È}{o:HO}
def Un.any(u:Un fs ex H H1 h h1){ob:Obj}(q:h.get? b=eY ob)(n:H b=eZ)(hx:b∉ex):∃sl,h1.get? b=eY {ob with slots:=sl}:=by
 by_cases hb:b∈fs
 .exact u.slot b ob q n hb hx
 .exact⟨ob.slots,u.keep b ob q n hb hx⟩
def Un.trans(a:Un fs ex H H1 h h1)(b:Un fs ex H1 H2 h1 h2):Un fs ex H H2 h h2 where
 keep:=λc ob q n hc hx=>b.keep c ob (a.keep c ob q n hc hx) (a.free c ob q n hx) hc hx
 slot:=λc ob q n hc hx=>by obtain⟨sl,e1⟩:=a.slot c ob q n hc hx;obtain⟨sl',e2⟩:=b.slot c _ e1 (a.free c ob q n hx) hc hx;exact⟨sl',e2⟩
 free:=λc ob q n hx=>by obtain⟨o',e1⟩:=a.there c ob q hx;exact b.free c o' e1 (a.free c ob q n hx) hx
 there:=λc ob q hx=>by obtain⟨o',e1⟩:=a.there c ob q hx;exact b.there c o' e1 hx
 tups:=λc xs q=>b.tups c xs<|a.tups c xs q
 frzs:=λc ob xs q=>b.frzs c ob xs<|a.frzs c ob xs q
 tbls:=λc ps q=>by obtain⟨m1,e1⟩:=a.tbls c ps q;obtain⟨m2,e2⟩:=b.tbls c _ e1;exact⟨m1++m2,by rw[e2,dk]⟩
def Un.kept(k:∀b u,h.get? b=eY u->h'.get? b=eY u):Un fs ex H H h h' :=
 ⟨λb ob q _ _ _=>k b ob q,λb ob q _ _ _=>⟨ob.slots,k b ob q⟩,λ_ _ _ n _=>n,λb ob q _=>⟨ob,k b ob q⟩,λ_ _ q=>q,λ_ _ _ q=>q,λ_ ps q=>⟨#[],by rw[q];simp⟩⟩
def Un.refl:Un fs ex H H h h:=Un.kept λ_ _ q=>q
def Un.laid(k:∀b u,h.get? b=eY u->h'.get? b=eY u)(hp:h.objs.size<=a)(hn:H a=eZ):Un fs ex H (upd H a o) h h' where
 keep:=λb u q _ _ _=>k b u q
 slot:=λb u q _ _ _=>⟨u.slots,k b u q⟩
 free:=λb u q n _=>by rw[fe<|Ý<|á (Ñ q) hp];exact n
 there:=λb u q _=>⟨u,k b u q⟩
 tups:=λb xs q=>by rw[fe<|Zh q hn];exact q
 frzs:=λb u xs q=>by rw[fe<|Zh q hn];exact q
 tbls:=λb ps q=>⟨#[],by rw[fe<|Zh q hn,q];simp⟩
def Un.write(mu:Mut<|H x)(he:e=x\/H e=eY (.own x))(k:∀b u,b≠e->h.get? b=eY u->h'.get? b=eY u)(heo:∃u,h'.get? e=eY u):Un fs ex H (upd H x o) h h':=by
 have hx:∀b,H b=eZ->b≠x:=λb n z=>by subst z;rw[n]at mu;exact mu
 have hb:∀b,H b=eZ->b≠e:=λb n z=>by
  subst z;rcases he with r|r
  .exact hx b n r
  .rw[n]at r;cases r
 have hm:∀b u,H b=eY u->¬ Mut (eY u)->b≠x:=λb u q nm z=>by subst z;rw[q]at mu;exact nm mu
 refine⟨λb u q n _ _=>k b u (hb b n) q,λb u q n _ _=>⟨u.slots,k b u (hb b n) q⟩,λb u q n _=>by rw[fe<|hx b n];exact n,λb u q _=>?_,
   λb xs q=>by rw[fe<|hm b _ q λz=>z];exact q,λb u xs q=>by rw[fe<|hm b _ q λz=>z];exact q,λb ps q=>⟨#[],by rw[fe<|hm b _ q λz=>z,q];simp⟩⟩
 by_cases hbe:b=e
 .subst hbe;exact heo
 .exact⟨u,k b u hbe q⟩
def Un.mono(u:Un fs ex H H1 h h1)(hs:∀b∈fs,b∈d6)(hx:∀b∈ex,b∈ex'):Un d6 ex' H H1 h h1 :=
 ⟨λb ob q n hb he=>u.keep b ob q n (λz=>hb<|hs b z) λz=>he<|hx b z,λ_ _ q n _ he=>u.any q n λz=>he<|hx _ z,λb ob q n he=>u.free b ob q n λz=>he<|hx b z,λb ob q he=>u.there b ob q λz=>he<|hx b z,u.tups,u.frzs,u.tbls⟩
end
abbrev trk(h:ă)(H:Hp):List È:=(List.range h.objs.size).filter λa=>(H a).isSome
abbrev MF(h:ă)(H:Hp):ă:=PySem.W.hideAll h<|trk h H
def A5(h:ă)(H:Hp):(MF h H).objs.size=h.objs.size:=PySem.W.hideAll_size _ _
def Ck{o:Obj}(e:h.get? b=eY o)(n:H b=eZ):(MF h H).get? b=eY o :=
 PySem.W.hideAll_get _ e λhm=>by have q:(H b).isSome=fb:=(ę.mp hm).2;rw[n]at q;simp at q
def F9{o:Obj}(e:(MF h H).get? b=eY o):h.get? b=eY o/\H b=eZ:=by
 have e':h.get? b=eY o:=PySem.W.of_hideAll (trk h H) e;refine⟨e',?_⟩;cases q:H b with
 |none=>rfl
 |some x =>have hm:b∈trk h H:=ę.mpr ⟨Ŵ.mpr<|Ñ e',by simp[q]⟩;have z:(MF h H).get? b=eZ:=PySem.W.hideAll_none (trk h H) hm;rw[z]at e;cases e
abbrev EM(g h:ă)(L:È):List<|È×Obj:=(List.range h.objs.size).filterMap λa=>if a=L\/(g.get? a).isSome=fb then eZ else(h.get? a).map λo=>(a,o)
abbrev rest(g h:ă)(L d:È):List<|È×Obj:=(EM g h L).filter λp=>gK (p.1≠d)
structure Mod(K:Frag)(mg:Str->Option Â)(base:ă):Prop where
 kin:K.In base
 glob:base.Ns Ĉ mg
 blt:∃mb,base.Ns builtinsNs mb/\∀x:Str,x≠"__name__"->mb x=ũ x
 nolimit:base.NoLimit
structure Cx where
 prog:â
 w:ô
 K:Frag
 mg:Str->Option Â
 base:ă
 A:Ą
 N:List Str
 s₀:Å
 H₀:Hp
 env:Env
 outer:List Env
 stack:List Env
 ex:List È
 fn:Str->Bool
 calm:Bool
 pn:List<|È×Obj
 xe:Â->Å->Prop
abbrev frs(l:List Env):List È:=l.filterMap (·.frame)
noncomputable abbrev Cx.fs(X:Cx):List È:=frs X.outer
abbrev Vis(sc:ξ)(x:Str):Prop:=sc.names.lookup x=eY .local\/sc.names.lookup x=eY .cell\/sc.names.lookup x=eY .free
abbrev Loc(sc:ξ)(x:Str):Prop:=sc.names.lookup x=eY .local\/sc.names.lookup x=eY .cell
abbrev Rz(env:Env)(h:ă)(m:Str->Option Â)(x:Str)(u:Â):Prop :=
 (env.kindOf x=eY .local/\m x=eY u)\/((env.kindOf x=eY .cell\/env.kindOf x=eY .free)/\∃c,env.cells.lookup x=eY c/\h.IsCell c (eY u))
structure Cx.Ok(X:Cx):Prop where
 mod:Mod X.K X.mg X.base
 kind:X.env.scope.kind=.function
 glob:X.env.globals=Ĉ
 blt:X.env.builtins=builtinsNs
 above:X.s₀.heap.objs.size<=X.env.locals
 inj:∀x y c,X.env.cells.lookup x=eY c->X.env.cells.lookup y=eY c->x=y
 has:∀x,(X.env.kindOf x=eY .cell\/X.env.kindOf x=eY .free)->∃c,X.env.cells.lookup x=eY c
 cab:∀x c,X.fn x=fb->X.env.cells.lookup x=eY c->X.s₀.heap.objs.size<=c
 hd:X.calm=fb->X.A.handled=eZ
 frames:X.A.frames=eY X.stack
 stk:X.stack=X.outer\/(X.stack=X.env::X.outer/\X.env.frame=eY X.env.locals)
 exf:∀b∈X.ex,b≠X.env.locals/\∀x c,X.env.cells.lookup x=eY c->c≠b
 bs:∀b o,X.base.get? b=eY o->X.s₀.heap.get? b=eY o/\X.H₀ b=eZ
 bsz:X.base.objs.size<=X.s₀.heap.objs.size
 noex:∀b o,X.base.get? b=eY o->b∉X.ex
 exfs:∀b∈X.ex,b∉X.fs
 funs:X.s₀.heap.FunFrames X.base X.outer
 frf:∀b∈X.fs,X.H₀ b=eZ
structure Inv(X:Cx)(Á:List<|È×Obj)(σ:List<|Option V)(H:Hp)(s:Å):Prop where
 ok:X.Ok
 os:s.os=X.s₀.os
 bare:Ψ s.gens
 base:Un X.fs X.ex X.H₀ H X.s₀.heap s.heap
 loc:∃m,s.heap.Ns X.env.locals m/\∀(i:Nat) (x:Str) (v:V),X.N[i]?=eY x->σ[i]?=eY (eY v)->Vis X.env.scope x->∃u,RelV v u/\Rz X.env s.heap m x u
 cell:∀x c,X.env.cells.lookup x=eY c->∃v,s.heap.IsCell c v
 free:H X.env.locals=eZ
 freeC:∀x c,X.env.cells.lookup x=eY c->H c=eZ
 pin:∀p∈X.pn++Á,s.heap.get? p.1=eY p.2/\H p.1=eZ/\p.1≠X.env.locals/\p.1∉X.fs/\∀v,p.2.data≠.cell v
 hok:HOk X.prog X.w H s.heap
 len:σ.length=X.N.length
section
variable {X:Cx}{Á:List (È×Obj)}{σ:List (Option V)}{H H':Hp}{s:Å}{h':ă}
def Cx.Ok.nofr(ok:X.Ok){b:È}{o:Obj}(e:X.base.get? b=eY o):b∉X.fs:=λhb=>by have:=(ok.funs.mem hb).1;rw[e]at this;cases this
def Inv.bs(I:Inv X Á σ H s):∀b o,X.base.get? b=eY o->s.heap.get? b=eY o/\H b=eZ:=λb o e =>
 ⟨I.base.keep b o (I.ok.bs b o e).1 (I.ok.bs b o e).2 (I.ok.nofr e)<|I.ok.noex b o e,I.base.free b o (I.ok.bs b o e).1 (I.ok.bs b o e).2<|I.ok.noex b o e⟩
def Inv.bk(I:Inv X Á σ H s):∀b o,X.base.get? b=eY o->s.heap.get? b=eY o:=λb o e=>(I.bs b o e).1
def Inv.mod(I:Inv X Á σ H s):Mod X.K X.mg X.base:=I.ok.mod
def Inv.kIn(I:Inv X Á σ H s):X.K.In s.heap:=I.ok.mod.kin.keeps I.bk
def Inv.nolimit(I:Inv X Á σ H s):s.heap.NoLimit:=I.ok.mod.nolimit.keeps I.bk
def Inv.fr(I:Inv X Á σ H s):∃m,Fr X.base X.env.locals s.heap m :=
 let ⟨m,hn,_⟩:=I.loc
 ⟨m,hn,I.bk,ß I.ok.bsz I.ok.above⟩
def Inv.lt(I:Inv X Á σ H s):X.env.locals<s.heap.objs.size:=let ⟨_,hn,_⟩:=I.loc;hn.lt
def Inv.sz(I:Inv X Á σ H s):X.s₀.heap.objs.size<=s.heap.objs.size:=ß I.ok.above (Ÿ I.lt)
variable {a:È}
def Inv.nofs(I:Inv X Á σ H s)(h:s.heap.objs.size<=a):a∉X.fs:=λhb=>by obtain⟨_,o,ho,_⟩:=I.ok.funs.mem hb;exact gJ (á (Ñ ho)<|ß I.sz h) (Ĥ _)
def Inv.cne(I:Inv X Á σ H s):∀x c,X.env.cells.lookup x=eY c->c≠X.env.locals:=λx c e z=>by obtain⟨v,o,ho,hd⟩:=I.cell x c e;obtain⟨m,⟨o',es,ep,ap,hd',_⟩,_⟩:=I.loc;rw[z,ap]at ho;cases ho;rw[hd']at hd;cases hd
def Inv.funs(I:Inv X Á σ H s):s.heap.FunFrames X.base X.outer:=by
 have all:∀(l:List Env),(∀b∈frs l,b∈X.fs)->X.s₀.heap.FunFrames X.base l->s.heap.FunFrames X.base l:=by
  intro l;induction l with
  |nil=>intro _ _;trivial
  |cons env r ih =>intro hs hl;obtain⟨hk,⟨L,o,hf,hn,ho,hd⟩,hr⟩:=hl;have hL:L∈X.fs:=hs L (by unfold frs;rw[ė,hf];exact î);obtain⟨sl,e⟩:=I.base.slot L o ho (I.ok.frf L hL) hL λz=>I.ok.exfs L z hL;exact⟨hk,⟨L,_,hf,hn,e,hd⟩,ih (λb hb=>hs b<|by unfold frs;rw[ė,hf];exact Þ _ hb) hr⟩
 exact all X.outer (λ_ hb=>hb) I.ok.funs
def Inv.stack(I:Inv X Á σ H s):s.heap.FunFrames X.base X.stack:=by
 rcases I.ok.stk with e|⟨e,hf⟩
 .rw[e];exact I.funs
 .rw[e];obtain⟨m,hn,_⟩:=I.loc;refine .cons (by rw[I.ok.kind];decide) hf hn ?_ I.funs;exact Heap.get?_none_of_le<|ß I.ok.bsz I.ok.above
def Inv.stkSub(I:Inv X Á σ H s):∀b∈frs X.stack,b∈X.env.locals::X.fs:=λb hb=>by
 rcases I.ok.stk with e|⟨e,hf⟩
 .rw[e]at hb;exact Þ _ hb
 .rw[e]at hb;unfold frs at hb;rw[ė,hf]at hb;exact hb
def Inv.stkFree(I:Inv X Á σ H s):∀b∈frs X.stack,H b=eZ:=λb hb=>by
 rcases Ç.mp (I.stkSub b hb)with e|hb
 .rw[e];exact I.free
 .obtain⟨_,o,ho,_⟩:=I.ok.funs.mem hb;exact I.base.free b o ho (I.ok.frf b hb) λz=>I.ok.exfs b z hb
variable {g':Array cx} {t':Nat} {d':Drawn} {ch:List È}
def Inv.step(I:Inv X Á σ H s)
  (hch:∀b∈ch,(b∈X.ex\/X.s₀.heap.objs.size<=b)/\b≠X.env.locals/\(∀x c,X.env.cells.lookup x=eY c->c≠b)/\∀p∈X.pn++Á,p.1≠b)
  (keep:∀b o,b≠X.env.locals->b∉X.fs->b∉ch->s.heap.get? b=eY o->H b=eZ->h'.get? b=eY o)
  (slot:∀b o,b≠X.env.locals->b∈X.fs->b∉ch->s.heap.get? b=eY o->H b=eZ->∃sl,h'.get? b=eY {o with slots:=sl}) (free:∀b o,b∉ch->s.heap.get? b=eY o->H b=eZ->H' b=eZ)
  (there:∀b o,b∉ch->s.heap.get? b=eY o->∃o',h'.get? b=eY o')
  (tups:∀b xs,H b=eY (.tup xs)->H' b=eY (.tup xs)) (frzs:∀b o u,H b=eY (.frz o u)->H' b=eY (.frz o u)) (tbls:∀b ps,H b=eY (.tbl ps)->∃more,H' b=eY (.tbl<|ps++more))
  (ns:∀m,s.heap.Ns X.env.locals m->h'.Ns X.env.locals m) (hok:HOk X.prog X.w H' h') (hg:Ψ g') :
  Inv X Á σ H' {s with heap:=h',gens:=g',drawn:=d',toks:=t'}:=by
 have neL:∀b o,X.s₀.heap.get? b=eY o->b≠X.env.locals:=λb o e=>Ý<|á (Ñ e) I.ok.above;have neC:∀b o,X.s₀.heap.get? b=eY o->b∉X.ex->b∉ch:=λb o e hx hb=>by
  rcases (hch b hb).1 with z|z
  .exact hx z
  .exact gJ (á (Ñ e) z)<|Ĥ _
 have cellK:∀x c,X.env.cells.lookup x=eY c->∀v,s.heap.IsCell c v->h'.IsCell c v:=λx c e v ⟨o,ho,hd⟩=>by
  have nch:c∉ch:=λz=>(hch c z).2.2.1 x c e rfl;by_cases hc:c∈X.fs
  .obtain⟨sl,q⟩:=slot c o (I.cne x c e) hc nch ho<|I.freeC x c e;exact⟨_,q,hd⟩
  .exact⟨o,keep c o (I.cne x c e) hc nch ho<|I.freeC x c e,hd⟩
 refine⟨I.ok,I.os,hg,⟨λb o e n hb hx=>?_,λb o e n hb hx=>?_,λb o e n hx=>?_,λb o e hx=>?_,λb xs e=>tups b xs<|I.base.tups b xs e,λb o xs e=>frzs b o xs<|I.base.frzs b o xs e,λb ps e=>?_⟩,?_,λx c e=>?_,?_,λx c e=>?_,λp hp=>?_,hok,I.len⟩
 .exact keep b o (neL b o e) hb (neC b o e hx) (I.base.keep b o e n hb hx)<|I.base.free b o e n hx
 .obtain⟨sl,e1⟩:=I.base.slot b o e n hb hx;obtain⟨sl',e2⟩:=slot b _ (neL b o e) hb (neC b o e hx) e1<|I.base.free b o e n hx;exact⟨sl',e2⟩
 .obtain⟨o',e1⟩:=I.base.there b o e hx;exact free b o' (neC b o e hx) e1<|I.base.free b o e n hx
 .obtain⟨o',e1⟩:=I.base.there b o e hx;exact there b o' (neC b o e hx) e1
 .obtain⟨m1,e1⟩:=I.base.tbls b ps e;obtain⟨m2,e2⟩:=tbls b _ e1;exact⟨m1++m2,by rw[e2,dk]⟩
 .obtain⟨m,hn,hl⟩:=I.loc;refine⟨m,ns m hn,λi x v e1 e2 e3=>?_⟩;obtain⟨u,r,l⟩:=hl i x v e1 e2 e3;refine⟨u,r,?_⟩;rcases l with l|⟨k,c,e,z⟩
  .exact .inl l
  .exact .inr ⟨k,c,e,cellK x c e _ z⟩
 .obtain⟨v,z⟩:=I.cell x c e;exact⟨v,cellK x c e v z⟩
 .obtain⟨m,⟨o,_,_,ho,_⟩,_⟩:=I.loc;exact free _ o (λz=>(hch _ z).2.1 rfl) ho I.free
 .obtain⟨v,o,ho,hd⟩:=I.cell x c e;exact free c o (λz=>(hch c z).2.2.1 x c e rfl) ho<|I.freeC x c e
 .obtain⟨e,n,ne,nf,d⟩:=I.pin p hp;have nch:p.1∉ch:=λz=>(hch p.1 z).2.2.2 p hp rfl;exact⟨keep p.1 p.2 ne nf nch e n,free p.1 p.2 nch e n,ne,nf,d⟩
def Inv.un(I:Inv X Á σ H s)(u:Un X.fs [] H H' s.heap h')(hok:HOk X.prog X.w H' h'):Inv X Á σ H' {s with heap:=h',toks:=t'}:=by
 obtain⟨m,⟨o,es,ep,ho,r⟩,_⟩:=id I.loc;obtain⟨sl,hL⟩:=u.any ho I.free (by simp);exact I.step (g':=s.gens) (d':=s.drawn) (ch:=[]) (λ_ z=>nomatch z) (λb o _ hb _ e n=>u.keep b o e n hb<|by simp) (λb o _ hb _ e n=>u.slot b o e n hb<|by simp) (λb o _ e n=>u.free b o e n<|by simp) (λb o _ e=>u.there b o e<|by simp) u.tups u.frzs u.tbls (λm' hm=>by
   obtain⟨o',es',ep',ap,r'⟩:=hm
   rw[ho]at ap;cases ap
   exact⟨_,es',ep',hL,r'⟩) hok I.bare
def Inv.call(I:Inv X Á σ H s)(u:Un (frs X.stack) ch H H' s.heap h')(hok:HOk X.prog X.w H' h')(hg:Ψ g')
  (hch:∀b∈ch,(b∈X.ex\/X.s₀.heap.objs.size<=b)/\b≠X.env.locals/\(∀x c,X.env.cells.lookup x=eY c->c≠b)/\∀p∈X.pn++Á,p.1≠b) :
  Inv X Á σ H' {s with heap:=h',gens:=g',drawn:=d',toks:=t'}:=by
 obtain⟨m,⟨o,es,ep,ho,r⟩,_⟩:=id I.loc;obtain⟨sl,hL⟩:=u.any ho I.free λz=>(hch _ z).2.1 rfl;exact I.step (ch:=ch) hch (λb o hL hb hc e n=>u.keep b o e n (λz=>(Ç.mp<|I.stkSub b z).elim hL hb) hc) (λb o _ _ hc e n=>u.any e n hc) (λb o hc e n=>u.free b o e n hc) (λb o hc e=>u.there b o e hc) u.tups u.frzs u.tbls (λm' hm=>by
   obtain⟨o',es',ep',ap,r'⟩:=hm
   rw[ho]at ap;cases ap
   exact⟨_,es',ep',hL,r'⟩) hok hg
def Inv.turned{it:È}(I:Inv X Á σ H s)(k:∀b o,b≠it->s.heap.get? b=eY o->h'.get? b=eY o)(hn:H it=eZ)(hL:it≠X.env.locals)
  (h1:it∈X.ex\/X.s₀.heap.objs.size<=it) (h2:∀x c,X.env.cells.lookup x=eY c->c≠it) (h3:∀p∈X.pn++Á,p.1≠it):Inv X Á σ H {s with heap:=h',toks:=t'}:=by
 have nit:∀b u,H b=eY u->b≠it:=λb u e z=>by rw[z,hn]at e;cases e
 refine I.step (g':=s.gens) (d':=s.drawn) (ch:=[it]) (λb hb=>?_) (λb o _ _ hc e _=>k b o (λz=>hc<|by simp[z]) e) (λb o _ _ hc e _=>⟨o.slots,k b o (λz=>hc<|by simp[z]) e⟩) (λ_ _ _ _ n=>n)
  (λb o hc e=>⟨o,k b o (λz=>hc<|by simp[z]) e⟩) (λ_ _ e=>e) (λ_ _ _ e=>e) (λb ps e=>⟨#[],by rw[e];simp⟩) (λm hm=>?_) (λb u e=>?_) I.bare
 .have e:b=it:=by simpa using hb
  subst e;exact⟨h1,hL,h2,h3⟩
 .obtain⟨o,es,ep,ho,r⟩:=hm;exact⟨o,es,ep,k _ o (Ne.symm hL) ho,r⟩
 .refine(I.hok b u e).stay (λc v hc q=>k c v ?_ q) (λ_ q=>q) λ_ _ q=>q;rcases hc with z|z
  .rw[z];exact nit b u e
  .exact nit c _ z
def Inv.tok(I:Inv X Á σ H s)(t:Nat):Inv X Á σ H {s with toks:=t}:=I.un (h':=s.heap) (t':=t) Un.refl I.hok
def Inv.kept(I:Inv X Á σ H s)(k:∀b u,s.heap.get? b=eY u->h'.get? b=eY u):Inv X Á σ H {s with heap:=h',toks:=t'}:=I.un (Un.kept k) (I.hok.kept k)
variable {o:HO}
def Inv.laid(I:Inv X Á σ H s)(k:∀b u,s.heap.get? b=eY u->h'.get? b=eY u)(hp:s.heap.objs.size<=a)(new:fo X.prog X.w (upd H a o) h' a o) :
  Inv X Á σ (upd H a o) {s with heap:=h',toks:=t'}:=I.un (Un.laid k hp<|I.hok.fresh hp)<|I.hok.laid k hp new
def Inv.write{x e:È}(I:Inv X Á σ H s)(mu:Mut<|H x)(he:e=x\/H e=eY (.own x))(k:∀b u,b≠e->s.heap.get? b=eY u->h'.get? b=eY u)(heo:∃u,h'.get? e=eY u)
  (new:fo X.prog X.w (upd H x o) h' x o):Inv X Á σ (upd H x o) {s with heap:=h',toks:=t'}:=I.un (Un.write mu he k heo)<|I.hok.write mu he k heo new
def Inv.pins_of{pins':List (È×Obj)}(I:Inv X Á σ H s)(h:∀p∈pins',s.heap.get? p.1=eY p.2/\H p.1=eZ/\p.1≠X.env.locals/\p.1∉X.fs/\∀v,p.2.data≠.cell v):Inv X pins' σ H s :=
 ⟨I.ok,I.os,I.bare,I.base,I.loc,I.cell,I.free,I.freeC,λp hp=>(å.mp hp).elim (λz=>I.pin p<|Ö _ z)<|h p,I.hok,I.len⟩
variable {i:Nat} {x:Str}
def M8{N:List Str}(hN:N.Nodup){j:Nat}(a:N[i]?=eY x)(b:N[j]?=eY x):i=j:=by obtain⟨h1,e1⟩:=Ò.mp a;obtain⟨h2,e2⟩:=Ò.mp b;exact(List.getElem_inj hN).mp (e1.trans e2.symm)
variable {M:Model} {A:Ą} {u:Â} {Q:Unit->Å->Prop}
def KC{E:Â->Å->Prop}{v:V}(I:Inv X Á σ H s)(hN:X.N.Nodup)(hi:X.N[i]?=eY x)(hx:Loc X.env.scope x)(r:RelV v u)
  (h:∀s',Inv X Á (σ.set i<|eY v) H s'->(∃a,Ţ a s.heap s'.heap/\(a=X.env.locals\/X.env.cells.lookup x=eY a))->Q () s') (hf:X.fn x=fb\/X.env.scope.names.lookup x=eY .local:=by first|exact .inl rfl|exact .inr rfl|assumption):wpAny M A (storeName X.env x u) Q E s:=by
 obtain⟨m,hn,hl⟩:=id I.loc;have hcls:(X.env.scope.kind == .class||(X.env.scope.kind == .module&&X.env.locals != X.env.globals))=fc:=by rw[I.ok.kind];rfl
 have hiσ:i<σ.length:=by rw[I.len];exact(Ò.mp hi).1
 have cne:=I.cne;have db:∀{a:È}{h':ă},(∃o,s.heap.get? a=eY o/\H a=eZ)->Ţ a s.heap h'->HOk X.prog X.w H h':=λ{a h'} ha hs b ob e=>by
  obtain⟨_,_,hfree⟩:=ha;refine(I.hok b ob e).stay (λc w' hc q=>(hs.2 c ?_).trans q) (λ_ q=>q) λ_ _ q=>q;rintro rfl;rcases hc with rfl|hc
  .rw[hfree]at e;cases e
  .rw[hfree]at hc;cases hc
 rcases hx with hk|hk
 .refine wpAny_storeName_local hk hn (λh' hn' hs=>?_) hcls;obtain⟨oL,_,_,hoL,_⟩:=id hn;refine h _ ⟨I.ok,I.os,I.bare,⟨λb o e n hb hx=>?_,λb o e n hb hx=>?_,I.base.free,λb o e hx=>?_,I.base.tups,I.base.frzs,I.base.tbls⟩,⟨_,hn',λj y v' e1 e2 e3=>?_⟩,λy c e=>?_,I.free,I.freeC,λp hp=>?_,db ⟨oL,hoL,I.free⟩ hs,by simpa using I.len⟩ ⟨_,hs,.inl rfl⟩
  .exact(hs.2 b<|Ý<|á (Ñ e) I.ok.above).trans<|I.base.keep b o e n hb hx
  .obtain⟨sl,e1⟩:=I.base.slot b o e n hb hx;exact⟨sl,(hs.2 b<|Ý<|á (Ñ e) I.ok.above).trans e1⟩
  .obtain⟨o',e1⟩:=I.base.there b o e hx;exact⟨o',(hs.2 b<|Ý<|á (Ñ e) I.ok.above).trans e1⟩
  .by_cases hj:j=i
   .subst hj;rw[hi]at e1;cases e1;rw[Ω hiσ]at e2;cases e2;exact⟨u,r,.inl ⟨hk,by simp⟩⟩
   .rw[μ<|Ne.symm hj]at e2;obtain⟨u',r',q⟩:=hl j y v' e1 e2 e3;refine⟨u',r',?_⟩;rcases q with⟨k,e⟩|⟨k,c,e,z⟩
    .refine .inl ⟨k,?_⟩;have:y≠x:=λe=>hj<|M8 hN e1<|e▸hi;simp[this,e]
    .exact .inr ⟨k,c,e,z.sameBut hs<|cne y c e⟩
  .obtain⟨w',z⟩:=I.cell y c e;exact⟨w',z.sameBut hs<|cne y c e⟩
  .obtain⟨e,n,ne,nf,d⟩:=I.pin p hp;exact⟨(hs.2 p.1 ne).trans e,n,ne,nf,d⟩
 .have hfn:X.fn x=fb:=by
   rcases hf with z|z
   .exact z
   .rw[z]at hk;cases hk
  obtain⟨c,hc⟩:=I.ok.has x<|.inl hk;obtain⟨w',z⟩:=I.cell x c hc;refine wpAny_storeName_cell I.ok.kind hk hc z λh' hc' hs=>?_;obtain⟨oc,hoc,hocd⟩:=id z;refine h {s with heap:=h'} ⟨I.ok,I.os,I.bare,⟨λb o e n hb hx=>?_,λb o e n hb hx=>?_,I.base.free,λb o e hx=>?_,I.base.tups,I.base.frzs,I.base.tbls⟩,⟨m,hn.sameBut hs<|Ne.symm<|cne x c hc,λj y v' e1 e2 e3=>?_⟩,λy c' e=>?_,I.free,I.freeC,λp hp=>?_,db ⟨oc,hoc,I.freeC x c hc⟩ hs,by simpa using I.len⟩ ⟨c,hs,.inr hc⟩
  .exact(hs.2 b<|Ý<|á (Ñ e)<|I.ok.cab x c hfn hc).trans<|I.base.keep b o e n hb hx
  .obtain⟨sl,e1⟩:=I.base.slot b o e n hb hx;exact⟨sl,(hs.2 b<|Ý<|á (Ñ e)<|I.ok.cab x c hfn hc).trans e1⟩
  .obtain⟨o',e1⟩:=I.base.there b o e hx;exact⟨o',(hs.2 b<|Ý<|á (Ñ e)<|I.ok.cab x c hfn hc).trans e1⟩
  .by_cases hj:j=i
   .subst hj;rw[hi]at e1;cases e1;rw[Ω hiσ]at e2;cases e2;exact⟨u,r,.inr ⟨.inl hk,c,hc,hc'⟩⟩
   .rw[μ<|Ne.symm hj]at e2;obtain⟨u',r',q⟩:=hl j y v' e1 e2 e3;refine⟨u',r',?_⟩;rcases q with q|⟨k,c',e,z'⟩
    .exact .inl q
    .refine .inr ⟨k,c',e,z'.sameBut hs ?_⟩;rintro rfl;exact hj<|M8 hN e1<|I.ok.inj _ _ _ e hc▸hi
  .by_cases hcc:c'=c
   .subst hcc;exact⟨_,hc'⟩
   .obtain⟨w2,z2⟩:=I.cell y c' e;exact⟨w2,z2.sameBut hs hcc⟩
  .obtain⟨e,n,ne,nf,d⟩:=I.pin p hp;refine⟨(hs.2 p.1 ?_).trans e,n,ne,nf,d⟩;intro q;rw[q,hoc]at e;have q':oc=p.2:=æ e;exact d w' (by rw[<-q'];exact hocd)
def B5{E:Â->Å->Prop}{v:V}(I:Inv X Á σ H s)(hN:X.N.Nodup)(hi:X.N[i]?=eY x)(hx:Loc X.env.scope x)(r:RelV v u)
  (h:∀s',Inv X Á (σ.set i<|eY v) H s'->Q () s') (hf:X.fn x=fb\/X.env.scope.names.lookup x=eY .local:=by first|exact .inl rfl|exact .inr rfl|assumption):wpAny M A (storeName X.env x u) Q E s :=
 KC I hN hi hx r (λs' I' _=>h s' I') hf
def Inv.call'{s':Å}(I:Inv X Á σ H s)(ho:s'.os=s.os)(u:Un (frs X.stack) ch H H' s.heap s'.heap)(hok:HOk X.prog X.w H' s'.heap)(hg:Ψ s'.gens)
  (hch:∀b∈ch,(b∈X.ex\/X.s₀.heap.objs.size<=b)/\b≠X.env.locals/\(∀x c,X.env.cells.lookup x=eY c->c≠b)/\∀p∈X.pn++Á,p.1≠b):Inv X Á σ H' s':=by
 obtain⟨h',g',d',t',o'⟩:=s';have e:o'=s.os:=ho;subst e;exact I.call (g':=g') (t':=t') (d':=d') u hok hg hch
end
noncomputable abbrev XK:=Â->Option È->Hp->Prop
noncomputable abbrev St:=List<|Option V
noncomputable abbrev VK:=V->Hp->Prop
noncomputable abbrev TE:=St->Hp->VK->Prop
noncomputable abbrev TT:=St->Hp->(Bool->Hp->Prop)->Prop
noncomputable abbrev TA:=St->Hp->(List V->Hp->Prop)->Prop
structure Ends where
 nx:St->Hp->Prop
 rt:VK
 bk:St->Hp->Prop:=λ_ _=>False
 ct:St->Hp->Prop:=λ_ _=>False
noncomputable abbrev TS:=Ends->St->Hp->Prop
inductive EP (X:Cx) (Á:List<|È×Obj) (σ:St) (Q:VK) (u:Â) (s':Å):Prop
 |mk (v:V) (H':Hp) (i:Inv X Á σ H' s') (r:RelV v u) (q:Q v H')
abbrev TP(X:Cx)(Á:List<|È×Obj)(σ:St)(Q:Bool->Hp->Prop)(b:Bool)(s':Å):Prop:=∃H',Inv X Á σ H' s'/\Q b H'
inductive AP (X:Cx) (Á:List<|È×Obj) (σ:St) (Q:List V->Hp->Prop) (us:List Â) (s':Å):Prop
 |mk (vs:List V) (H':Hp) (i:Inv X Á σ H' s') (r:gq vs us) (q:Q vs H')
abbrev SP(X:Cx)(Á:List<|È×Obj)(D:Ends)(f:Flow)(s':Å):Prop :=
 match f with
 |.next=>∃ŏ H',Inv X Á ŏ H' s'/\D.nx ŏ H'
 |.brk=>∃ŏ H',Inv X Á ŏ H' s'/\D.bk ŏ H'
 |.cont=>∃ŏ H',Inv X Á ŏ H' s'/\D.ct ŏ H'
 |.ret u=>∃v ŏ H',Inv X Á ŏ H' s'/\RelV v u/\D.rt v H'
abbrev PE(X:Cx)(e:Expr)(t:TE):Prop :=
 ∀(Á:List<|È×Obj) (s:Å) (σ:St) (H:Hp) (Q:VK),Inv X Á σ H s->t σ H Q->wpAny (Ù X.prog X.w) X.A (eval e X.env) (EP X Á σ Q) X.xe s
abbrev PT(X:Cx)(e:Expr)(t:TT):Prop :=
 ∀(Á:List<|È×Obj) (s:Å) (σ:St) (H:Hp) (Q:Bool->Hp->Prop),Inv X Á σ H s->t σ H Q->wpAny (Ù X.prog X.w) X.A (cy e X.env<|eval e X.env) (TP X Á σ Q) X.xe s
abbrev PW(X:Cx)(e:Expr)(t:TT):Prop :=
 ∀(aB:Sem Â) (Á:List<|È×Obj) (s:Å) (σ:St) (H:Hp) (Q:Bool->Hp->Prop),Inv X Á σ H s->t σ H Q->wpAny (Ù X.prog X.w) X.A (cy e X.env aB) (TP X Á σ Q) X.xe s
def PW.pt{X:Cx}{e:Expr}{t:TT}(h:PW X e t):PT X e t:=h _
abbrev PA(X:Cx)(es:List Expr)(t:TA):Prop :=
 ∀(é:Pos) (Á:List<|È×Obj) (s:Å) (σ:St) (H:Hp) (Q:List V->Hp->Prop),Inv X Á σ H s->t σ H Q->wpAny (Ù X.prog X.w) X.A (spliced<|Ħ é<|Ô es X.env) (AP X Á σ Q) X.xe s
abbrev PS(X:Cx)(st:ŀ)(t:TS):Prop :=
 ∀(Á:List<|È×Obj) (s:Å) (σ:St) (H:Hp) (D:Ends),Inv X Á σ H s->t D σ H->wpAny (Ù X.prog X.w) X.A (exec st X.env) (SP X Á D) X.xe s
abbrev PSs(X:Cx)(st:List ŀ)(t:TS):Prop :=
 ∀(Á:List<|È×Obj) (s:Å) (σ:St) (H:Hp) (D:Ends),Inv X Á σ H s->t D σ H->wpAny (Ù X.prog X.w) X.A (execs st X.env) (SP X Á D) X.xe s
def thn{α:Type}{t:Sem α}{Q Q':α->Å->Prop}{M:Model}{A:Ą}{E:Â->Å->Prop}{s:Å}(h:wpAny M A t Q E s)(hQ:∀a s,Q a s->Q' a s):wpAny M A t Q' E s:=Ę h hQ λ_ _ x=>x
section
variable {X:Cx}
variable {Á:List (È×Obj)} {s:Å} {σ:St} {H:Hp}
def bin{a b:Expr}{ta tb:TE}(ha:PE X a ta)(hb:PE X b tb){R:V->V->Hp->Prop}(I:Inv X Á σ H s)(h:ta σ H λx H1=>tb σ H1 λy H2=>R x y H2)
  {α:Type}{Q:α->Å->Prop}{f:Â->Â->Sem α}
  (hf:∀v u s2 x y H2,Inv X Á σ H2 s2->RelV x v->RelV y u->R x y H2->wpAny (Ù X.prog X.w) X.A (f v u) Q X.xe s2) :
  wpAny (Ù X.prog X.w) X.A (eval a X.env) (λv ĝ=>wpAny (Ù X.prog X.w) X.A (eval b X.env) (λu bY=>wpAny (Ù X.prog X.w) X.A (f v u) Q X.xe bY) X.xe ĝ) X.xe s:=by
 refine thn (ha Á s σ H _ I h) λv s1 ⟨x,H1,I1,r1,q1⟩=>?_;refine thn (hb Á s1 σ H1 _ I1 q1) λu s2 ⟨y,H2,I2,r2,q2⟩=>?_;exact hf v u s2 x y H2 I2 r1 r2 q2
abbrev Rw(i:Nat):TE:=λσ H Q=>∃v,σ[i]?=eY (eY v)/\Q v H
abbrev tC(v:V):TE:=λ_ H Q=>Q v H
variable {x:Str} {é:Pos}
def LW{i:Nat}(hN:X.N[i]?=eY x)(hv:Vis X.env.scope x)(hd:(x==("__debug__" : Str))=fc:=by decide)(aL:(x==("__classdict__" : Str))=fc:=by decide):PE X (.Name x é)<|Rw i:=by
 intro Á s σ H Q I h;obtain⟨v,e,h⟩:=h;obtain⟨m,hn,hl⟩:=I.loc;obtain⟨u,r,l⟩:=hl i x v hN e hv;have fin:EP X Á σ Q u s:=⟨v,H,I,r,h⟩
 rcases l with⟨hk,hm⟩|⟨hk,c,hc,hcell⟩
 .exact wpAny_Name (wpAny_loadName_local I.ok.kind hk hn hm fin) hd
 .rcases hk with hk|hk
  .exact wpAny_Name (wpAny_loadName_cell I.ok.kind hk hc hcell fin) hd
  .exact wpAny_Name (wpAny_loadName_free I.ok.kind hk hc hcell fin aL) hd
def Oa{i j é}:PE X (.Constant (.int i) j é)<|tC<|.int i:=λ_ _ _ H _ I h=>wpAny_Constant_int ⟨.int i,H,I.tok _,⟨_,rfl⟩,h⟩
def QL{b j é}:PE X (.Constant (.bool b) j é)<|tC<|.bl b:=λ_ _ _ H _ I h=>Constant_bool ⟨.bl b,H,I,rfl,h⟩
def D1{j é}:PE X (.Constant .none j é)<|tC .non:=λ_ _ _ H _ I h=>dm ⟨.non,H,I,rfl,h⟩
def pe_str{x j é}:PE X (.Constant (.str x) j é)<|tC<|.str x:=λ_ _ _ H _ I h=>Calls.Constant_str ⟨.str x,H,I.tok _,⟨_,rfl⟩,h⟩
abbrev Gl(X:Cx)(x:Str):Prop:=X.env.kindOf x=eY .globalImplicit
variable {u:Â} {Q:Â->Å->Prop}
def WV{E:Â->Å->Prop}(I:Inv X Á σ H s)(hg:Gl X x)(hm:X.mg x=eY u)(h:Q u s)
  (hd:(x==("__debug__" : Str))=fc:=by decide):wpAny (Ù X.prog X.w) X.A (eval (.Name x é) X.env) Q E s :=
 Calls.Name_function_global I.ok.kind hg (Calls.loadGlobal_global (by rw[I.ok.glob];exact I.mod.glob.keeps I.bk) hm h) hd
def YN{E:Â->Å->Prop}(I:Inv X Á σ H s)(hg:Gl X x)(hm:X.mg x=eZ)(hv:ũ x=eY u)(h:Q u s)
  (hn:x≠"__name__":=by decide) (hd:(x==("__debug__" : Str))=fc:=by decide):wpAny (Ù X.prog X.w) X.A (eval (.Name x é) X.env) Q E s:=by
 obtain⟨mb,h1,h2⟩:=I.mod.blt;exact Calls.Name_function_global I.ok.kind hg (Calls.loadGlobal_builtin (by rw[I.ok.glob];exact I.mod.glob.keeps I.bk) hm (by rw[I.ok.blt];exact h1.keeps I.bk) ((h2 x hn).trans hv) h) hd
def Gb{v:V}(hg:Gl X x)(hm:X.mg x=eY u)(r:RelV v u)(hd:(x==("__debug__" : Str))=fc:=by decide):PE X (.Name x é) (tC v) :=
 λ_ _ _ H _ I h=>WV I hg hm ⟨v,H,I,r,h⟩ hd
def E4{v:V}(hg:Gl X x)(hm:X.mg x=eZ)(hv:ũ x=eY u)(r:RelV v u)(hn:x≠"__name__":=by decide)(hd:(x==("__debug__" : Str))=fc:=by decide):PE X (.Name x é) (tC v) :=
 λ_ _ _ H _ I h=>YN I hg hm hv ⟨v,H,I,r,h⟩ hn hd
variable {a b:Expr}{ta tb:TE}{é:Pos}
abbrev PC(X:Cx)(op:cz)(a b:Expr)(t:TE):Prop :=
 ∀(Á:List<|È×Obj) (s:Å) (σ:St) (H:Hp) (Q:VK),Inv X Á σ H s->t σ H Q->
  wpAny (Ù X.prog X.w) X.A (eval a X.env) (λv ĝ=>wpAny (Ù X.prog X.w) X.A (eval b X.env) (λu bY=>wpAny (Ù X.prog X.w) X.A (ë op v u) (EP X Á σ Q) X.xe bY) X.xe ĝ) X.xe s
variable {op:cz}
def Ny(b:Expr)(h:op≠.In)(h2:op≠.NotIn):ł op b=fc:=by
 have e1:(op==CmpOp.In)=fc:=by cases op<;>first|rfl|exact gJ rfl h
 have e2:(op==CmpOp.NotIn)=fc:=by cases op<;>first|rfl|exact gJ rfl h2
 cases b<;>simp[ł,e1,e2]
abbrev Rv(ta:TE):TE:=λσ H Q=>ta σ H λx H1=>Q (.bl<|gK (x=.non)) H1
abbrev Pv(ta:TE):TE:=λσ H Q=>ta σ H λx H1=>Q (.bl (!gK (x=.non))) H1
def RelV.none_iff{x:V}{v:Â}(r:RelV x v):(v==Value.none)=gK (x=.non):=by
 cases x with
 |non=>cases r;rfl
 |bl _=>cases r;rfl
 |int _=>obtain⟨t,rfl⟩:=r;rfl
 |str _=>obtain⟨t,rfl⟩:=r;rfl
 |byt _=>obtain⟨t,rfl⟩:=r;rfl
 |flt _=>obtain⟨t,rfl⟩:=r;rfl
 |ref _=>cases r;rfl
 |ty _=>cases r;rfl
def CN{j bz}(ha:PE X a ta):PC X .Is a (.Constant .none j bz)<|Rv ta:=by intro Á s σ H Q I h;refine thn (ha Á s σ H _ I h) λv s1 ⟨x,H1,I1,r1,q1⟩=>?_;exact dm (is_none_gen ⟨.bl _,H1,I1,by rw[r1.none_iff];rfl,q1⟩)
def UD{j bz}(ha:PE X a ta):PC X .IsNot a (.Constant .none j bz)<|Pv ta:=by intro Á s σ H Q I h;refine thn (ha Á s σ H _ I h) λv s1 ⟨x,H1,I1,r1,q1⟩=>?_;exact dm (isnot_none_gen ⟨.bl _,H1,I1,by rw[r1.none_iff];rfl,q1⟩)
abbrev tB(t:TE):TT:=λσ H Q=>t σ H λx H1=>∃c,x=.bl c/\Q c H1
def BD{t:TE}(h:PC X op a b t)(h1:ł op b=fc:=by first|exact Ny _ (by decide) (by decide)|rfl):PE X (.Compare a [op] [b] é) t:=λÁ s σ H Q I hw=>wpAny_Compare1 (h Á s σ H Q I hw) h1
def BO{t:TE}(h:PC X op a b t)(h1:ł op b=fc:=by first|exact Ny _ (by decide) (by decide)|rfl):PT X (.Compare a [op] [b] é)<|tB t:=by intro Á s σ H Q I hw;refine wpAny_isTrue_Compare1 (thn (h Á s σ H _ I hw) λv s1 h1=>thn h1 λu s2 h2=>thn h2 λc s3 ⟨x,H1,I1,r1,q1⟩=>?_) h1;obtain⟨d,rfl,q⟩:=q1;cases r1;exact Đ ⟨H1,I1,q⟩
variable {tA tB':TT}{rest:List Expr}
abbrev RE(t u:TT):TT:=λσ H Q=>t σ H λc H1=>if c=fb then u σ H1 Q else Q fc H1
abbrev tOr(t u:TT):TT:=λσ H Q=>t σ H λc H1=>if c=fb then Q fb H1 else u σ H1 Q
abbrev R1(t:TT):TT:=λσ H Q=>t σ H λc H1=>Q (!c) H1
def Et(ha:PT X a tA):PW X (.BoolOp .And [a] é) tA:=by
 intro wh Á s σ H Q I h;refine isTrue_and<|thn (ha Á s σ H Q I h) λc s1 e=>?_;cases c with
 |true=>exact isTrue_and_nil e
 |false=>exact e
def IV(ha:PT X a tA):PW X (.BoolOp .Or [a] é) tA:=by
 intro wh Á s σ H Q I h;refine isTrue_or<|thn (ha Á s σ H Q I h) λc s1 e=>?_;cases c with
 |false=>exact isTrue_or_nil e
 |true=>exact e
def Pd(ha:PT X a tA)(hb:PW X (.BoolOp .And (b::rest) é) tB'):PW X (.BoolOp .And (a::b::rest) é)<|RE tA tB':=by
 intro wh Á s σ H Q I h;refine isTrue_and<|thn (ha Á s σ H _ I h) λc s1 ⟨H1,I1,q1⟩=>?_;cases c with
 |true=>exact hb wh Á s1 σ H1 Q I1 q1
 |false=>exact⟨H1,I1,q1⟩
def QC(ha:PT X a tA)(hb:PW X (.BoolOp .Or (b::rest) é) tB'):PW X (.BoolOp .Or (a::b::rest) é)<|tOr tA tB':=by
 intro wh Á s σ H Q I h;refine isTrue_or<|thn (ha Á s σ H _ I h) λc s1 ⟨H1,I1,q1⟩=>?_;cases c with
 |true=>exact⟨H1,I1,q1⟩
 |false=>exact hb wh Á s1 σ H1 Q I1 q1
def Il(ha:PT X a tA):PT X (.UnaryOp .Not a é)<|R1 tA:=by intro Á s σ H Q I h;exact isTrue_not (ha Á s σ H (λc H1=>Q (!c) H1) I h)
abbrev Rg(ta tb:TE):TE:=λσ H Q=>ta σ H λx H1=>∃c,x=.bl c/\if c=fb then tb σ H1 Q else Q (.bl fc) H1
abbrev RT(ta tb:TE):TE:=λσ H Q=>ta σ H λx H1=>∃c,x=.bl c/\if c=fb then Q (.bl fb) H1 else tb σ H1 Q
abbrev QX(ta:TE):TE:=λσ H Q=>ta σ H λx H1=>∃c,x=.bl c/\Q (.bl (!c)) H1
def Dh{op}{t:TE}(h:PE X a t):PE X (.BoolOp op [a] é) t:=λÁ s σ H Q I hw=>BoolOp_one (h Á s σ H Q I hw)
def Ln(ha:PE X a ta)(hb:PE X (.BoolOp .And (b::rest) é) tb):PE X (.BoolOp .And (a::b::rest) é)<|Rg ta tb:=by
 intro Á s σ H Q I h;refine BoolOp_and<|thn (ha Á s σ H _ I h) λv s1 ⟨x,H1,I1,r1,q1⟩=>?_;obtain⟨c,rfl,q1⟩:=q1;cases r1;refine Đ ?_;cases c with
 |true=>exact hb Á s1 σ H1 Q I1 q1
 |false=>exact⟨.bl fc,H1,I1,rfl,q1⟩
def P1(ha:PE X a ta)(hb:PE X (.BoolOp .Or (b::rest) é) tb):PE X (.BoolOp .Or (a::b::rest) é)<|RT ta tb:=by
 intro Á s σ H Q I h;refine BoolOp_or<|thn (ha Á s σ H _ I h) λv s1 ⟨x,H1,I1,r1,q1⟩=>?_;obtain⟨c,rfl,q1⟩:=q1;cases r1;refine Đ ?_;cases c with
 |false=>exact hb Á s1 σ H1 Q I1 q1
 |true=>exact⟨.bl fb,H1,I1,rfl,q1⟩
def Ly(ha:PE X a ta):PE X (.UnaryOp .Not a é)<|QX ta:=by intro Á s σ H Q I h;refine UnaryOp_<|thn (ha Á s σ H _ I h) λv s1 ⟨x,H1,I1,r1,q1⟩=>?_;obtain⟨c,rfl,q1⟩:=q1;cases r1;exact not_of (Đ ⟨.bl (!c),H1,I1,rfl,q1⟩)
abbrev tIf(t:TT)(ta tb:TE):TE:=λσ H Q=>t σ H λc H1=>if c=fb then ta σ H1 Q else tb σ H1 Q
def Bp{c:Expr}(hc:PT X c tA)(ha:PE X a ta)(hb:PE X b tb):PE X (.IfExp c a b é)<|tIf tA ta tb:=by
 intro Á s σ H Q I h;refine wpAny_IfExp<|thn (hc Á s σ H _ I h) λd s1 ⟨H1,I1,q1⟩=>?_;cases d with
 |true=>exact ha Á s1 σ H1 Q I1 q1
 |false=>exact hb Á s1 σ H1 Q I1 q1
end
abbrev gm(K:Frag)(H:Hp)(a:È)(xs:List V):Prop :=
 Rd H a (.lst xs)\/
  ∃(o:Obj) (ð:Array Â) (n:Nat),K.lookup a=eY o/\o.cls=.type "list"/\o.dict=eZ/\o.data=.seq ð n/\ð.size<=Õ/\gq xs ð.toList
abbrev gp(K:Frag)(H:Hp)(a:È)(xs:List V):Prop :=
 Rd H a (.tup xs)\/
  ∃(o:Obj) (ð:Array Â) (n:Nat),K.lookup a=eY o/\o.cls=.type "tuple"/\o.data=.seq ð n/\ð.size<=Õ/\gq xs ð.toList
abbrev absV:Â->Option V
 |.none=>eY .non
 |.bool b=>eY<|.bl b
 |.int i _=>eY<|.int i
 |.str x _=>eY<|.str x
 |.bytes b _=>eY<|.byt b
 |.float b _=>eY<|.flt b
 |.ref a=>eY<|.ref a
 |.type n=>eY<|.ty n
 |_=>eZ
variable {x:V} {u:Â}
def RelV.abs(r:RelV x u):absV u=eY x:=by
 cases x with
 |non=>cases r;rfl
 |bl _=>cases r;rfl
 |int _=>obtain⟨t,rfl⟩:=r;rfl
 |str _=>obtain⟨t,rfl⟩:=r;rfl
 |byt _=>obtain⟨t,rfl⟩:=r;rfl
 |flt _=>obtain⟨t,rfl⟩:=r;rfl
 |ref _=>cases r;rfl
 |ty _=>cases r;rfl
def RelV.inj{y:V}(r:RelV x u)(q:RelV y u):x=y:=æ (r.abs.symm.trans q.abs)
def gq.inj:∀{xs ys:List V}{us:List Â},gq xs us->gq ys us->xs=ys
 |_,_,_,.nil,.nil=>rfl
 |_,_,_,.cons r t,.cons r' t'=>by rw[r.inj r',gq.inj t t']
section
variable {X:Cx}{Á:List (È×Obj)}{σ:St}{H:Hp}{s:Å}{a:È}{xs ys:List V}
def gm.of{K:Frag}(h:H a=eY (.lst xs)):gm K H a xs:=.inl (.inl h)
def gp.of{K:Frag}(h:H a=eY (.tup xs)):gp K H a xs:=.inl (.inl h)
def Inv.list(I:Inv X Á σ H s)(h:gm X.K H a xs):∃ð:List Â,gq xs ð/\PlainL s.heap a ð.toArray/\xs.length<=Õ:=by
 rcases h with h|⟨o,ð,n,hk,hc,hd,hs,hz,r⟩
 .obtain⟨z,ð,n,r,e⟩:=h.ok I.hok;exact⟨ð,r,⟨_,n,e,rfl,rfl,rfl⟩,z⟩
 .refine⟨ð.toList,r,⟨o,n,I.kIn a o hk,hc,hd,by simpa using hs⟩,?_⟩;have e:=r.length;simp only[ï]at e;lia
def Inv.tuple(I:Inv X Á σ H s)(h:gp X.K H a xs):∃ð:List Â,gq xs ð/\ϰ s.heap a ð.toArray/\xs.length<=Õ:=by
 rcases h with h|⟨o,ð,n,hk,hc,hs,hz,r⟩
 .obtain⟨z,ð,r,p⟩:=h.ok I.hok;exact⟨ð,r,p,z⟩
 .refine⟨ð.toList,r,⟨o,I.kIn a o hk,hc,n,by simpa using hs⟩,?_⟩;have e:=r.length;simp only[ï]at e;lia
def Inv.list_inj(I:Inv X Á σ H s)(h:gm X.K H a xs)(h':gm X.K H a ys):xs=ys:=by
 obtain⟨ð,r,⟨o,n,e,_,_,d⟩,_⟩:=I.list h;obtain⟨its',r',⟨o',n',e',_,_,d'⟩,_⟩:=I.list h';rw[e]at e';cases e';rw[d]at d';injection d' with d1 _;have:ð=its':=by simpa using congrArg bT d1
 subst this;exact r.inj r'
def Inv.tuple_inj(I:Inv X Á σ H s)(h:gp X.K H a xs)(h':gp X.K H a ys):xs=ys:=by
 obtain⟨ð,r,⟨o,e,_,n,d⟩,_⟩:=I.tuple h;obtain⟨its',r',⟨o',e',_,n',d'⟩,_⟩:=I.tuple h';rw[e]at e';cases e';rw[d]at d';injection d' with d1 _;have:ð=its':=by simpa using congrArg bT d1
 subst this;exact r.inj r'
end
noncomputable abbrev Cx.wish(X:Cx)(E:Â->Å->Prop):Cx:={X with xe:=E}
noncomputable abbrev Cx.nox(X:Cx):Cx:=X.wish λ_ _=>False
variable {X:Cx}
def Cx.Ok.wish(ok:X.Ok)(E:Â->Å->Prop):(X.wish E).Ok :=
 ⟨ok.mod,ok.kind,ok.glob,ok.blt,ok.above,ok.inj,ok.has,ok.cab,ok.hd,ok.frames,ok.stk,ok.exf,ok.bs,ok.bsz,ok.noex,ok.exfs,ok.funs,ok.frf⟩
def Cx.Ok.unwish{E:Â->Å->Prop}(ok:(X.wish E).Ok):X.Ok :=
 ⟨ok.mod,ok.kind,ok.glob,ok.blt,ok.above,ok.inj,ok.has,ok.cab,ok.hd,ok.frames,ok.stk,ok.exf,ok.bs,ok.bsz,ok.noex,ok.exfs,ok.funs,ok.frf⟩
section
variable {X:Cx}{Á:List (È×Obj)}{σ:St}{H:Hp}{s:Å}{E:Â->Å->Prop}
def Inv.wish(I:Inv X Á σ H s)(E:Â->Å->Prop):Inv (X.wish E) Á σ H s:=⟨I.ok.wish E,I.os,I.bare,I.base,I.loc,I.cell,I.free,I.freeC,I.pin,I.hok,I.len⟩
def Inv.unwish(I:Inv (X.wish E) Á σ H s):Inv X Á σ H s:=⟨I.ok.unwish,I.os,I.bare,I.base,I.loc,I.cell,I.free,I.freeC,I.pin,I.hok,I.len⟩
def SP.unwish{D:Ends}{f:Flow}{s':Å}(h:SP (X.wish E) Á D f s'):SP X Á D f s':=by
 cases f with
 |next=>obtain⟨ŏ,H',I,q⟩:=h;exact⟨ŏ,H',I.unwish,q⟩
 |brk=>obtain⟨ŏ,H',I,q⟩:=h;exact⟨ŏ,H',I.unwish,q⟩
 |cont=>obtain⟨ŏ,H',I,q⟩:=h;exact⟨ŏ,H',I.unwish,q⟩
 |ret u=>obtain⟨v,ŏ,H',I,r,q⟩:=h;exact⟨v,ŏ,H',I.unwish,r,q⟩
variable {e:Expr}
def PE.nox{t:TE}(h:PE X.nox e t):PE X e t:=λÁ s σ H Q I hw =>
 Ę (h Á s σ H Q (I.wish _) hw) (λ_ _ ⟨v,H',I',r,q⟩=>⟨v,H',I'.unwish,r,q⟩) λ_ _ z=>Ĭ z
def PT.nox{t:TT}(h:PT X.nox e t):PT X e t:=λÁ s σ H Q I hw =>
 Ę (h Á s σ H Q (I.wish _) hw) (λ_ _ ⟨H',I',q⟩=>⟨H',I'.unwish,q⟩) λ_ _ z=>Ĭ z
def PSs.nox{st:List ŀ}{t:TS}(h:PSs X.nox st t):PSs X st t:=λÁ s σ H D I hw =>
 Ę (h Á s σ H D (I.wish _) hw) (λ_ _ q=>q.unwish) λ_ _ z=>Ĭ z
end
section
variable {X:Cx}{st:ŀ}{rest:List ŀ}{t u:TS}{e:Expr}{te:TE}{é:Pos}
abbrev Qg:TS:=λD σ H=>D.nx σ H
abbrev RM(t u:TS):TS:=λD σ H=>t {D with nx:=u D} σ H
def pss_nil:PSs X [] Qg:=λ_ _ σ H _ I h=>bU ⟨σ,H,I,h⟩
def B7(h1:PS X st t)(h2:PSs X rest u):PSs X (st::rest)<|RM t u:=by
 intro Á s σ H D I h;refine wpAny_execs_cons<|thn (h1 Á s σ H {D with nx:=u D} I h) λf s1 q=>?_;cases f with
 |next =>obtain⟨ŏ,H',I',q⟩:=q;exact h2 Á s1 ŏ H' D I' q
 |ret v=>exact q
 |brk=>exact q
 |cont=>exact q
def Inv.quiet{Á:List (È×Obj)}{σ:St}{H:Hp}{s:Å}(I:Inv X Á σ H s):interactive X.env=fc:=by simp[interactive,I.ok.kind]
abbrev Pp(te:TE):TS:=λD σ H=>te σ H λ_ H1=>D.nx σ H1
def Gn(he:PE X e te)(hs:ź e eZ é.line X.env=pure fc:=by rfl):PS X (.Expr e é)<|Pp te:=by intro Á s σ H D I h;exact wpAny_Expr_any (thn (he Á s σ H _ I h) λv s1 ⟨x,H1,I1,r1,q1⟩=>⟨σ,H1,I1,q1⟩) I.quiet hs
abbrev R7(te:TE):TS:=λD σ H=>te σ H D.rt
def Pa(he:PE X e te):PS X (.Return (eY e) é)<|R7 te:=by intro Á s σ H D I h;exact wpAny_Return_some (thn (he Á s σ H _ I h) λv s1 ⟨x,H1,I1,r1,q1⟩=>⟨x,σ,H1,I1,r1,q1⟩)
abbrev P8:TS:=λD _ H=>D.rt .non H
def ps_retN:PS X (.Return eZ é) P8:=λ_ _ σ H _ I h=>wpAny_Return_none ⟨.non,σ,H,I,rfl,h⟩
abbrev RW(c:TT)(t u:TS):TS:=λD σ H=>c σ H λb H1=>if b=fb then t D σ H1 else u D σ H1
def Rh{c:Expr}{a b:List ŀ}{tc:TT}(hc:PT X c tc)(ha:PSs X a t)(hb:PSs X b u):PS X (.If c a b é)<|RW tc t u:=by
 intro Á s σ H D I h;refine wpAny_If<|thn (hc Á s σ H _ I h) λd s1 ⟨H1,I1,q1⟩=>?_;cases d with
 |true=>exact ha Á s1 σ H1 D I1 q1
 |false=>exact hb Á s1 σ H1 D I1 q1
end
noncomputable abbrev TG:=V->St->Hp->(St->Hp->Prop)->Prop
noncomputable abbrev TGs:=List V->St->Hp->(St->Hp->Prop)->Prop
abbrev PG(X:Cx)(ϸ:Expr)(t:TG):Prop :=
 ∀(Á:List<|È×Obj) (s:Å) (σ:St) (H:Hp) (v:V) (u:Â) (Q:St->Hp->Prop),Inv X Á σ H s->RelV v u->t v σ H Q->
  wpAny (Ù X.prog X.w) X.A (ο ϸ X.env u) (λ_ s'=>∃ŏ H',Inv X Á ŏ H' s'/\Q ŏ H') X.xe s
abbrev PGs(X:Cx)(ts:List Expr)(t:TGs):Prop :=
 ∀(Á:List<|È×Obj) (s:Å) (σ:St) (H:Hp) (vs:List V) (us:List Â) (Q:St->Hp->Prop),Inv X Á σ H s->gq vs us->t vs σ H Q->
  wpAny (Ù X.prog X.w) X.A (assignInOrder ((ġ ts X.env).map (·.2)) us) (λ_ s'=>∃ŏ H',Inv X Á ŏ H' s'/\Q ŏ H') X.xe s
noncomputable abbrev By:=V->V->V->Hp->(Hp->Prop)->Prop
abbrev PSet(X:Cx)(t:By):Prop :=
 ∀(Á:List<|È×Obj) (s:Å) (σ:St) (H:Hp) (o i v:V) (ov iv u:Â) (Q:Hp->Prop),Inv X Á σ H s->RelV o ov->RelV i iv->RelV v u->t o i v H Q->
  wpAny (Ù X.prog X.w) X.A (aN ov iv u) (λ_ s'=>∃H',Inv X Á σ H' s'/\Q H') X.xe s
noncomputable abbrev TIp:=V->V->Hp->VK->Prop
abbrev PIp(X:Cx)(op:ϖ)(t:TIp):Prop :=
 ∀(Á:List<|È×Obj) (s:Å) (σ:St) (H:Hp) (x y:V) (v u:Â) (Q:VK),Inv X Á σ H s->RelV x v->RelV y u->t x y H Q->
  wpAny (Ù X.prog X.w) X.A (inplaceOp op v u) (EP X Á σ Q) X.xe s
section
variable {X:Cx}{é:Pos}
abbrev Hj(i:Nat):TG:=λv σ H Q=>Q (σ.set i<|eY v) H
def US{i:Nat}{x:Str}(hN:X.N.Nodup)(hi:X.N[i]?=eY x)(hx:Loc X.env.scope x)(hf:X.fn x=fb\/X.env.scope.names.lookup x=eY .local:=by first|exact .inl rfl|exact .inr rfl|assumption):PG X (.Name x é)<|Hj i:=by intro Á s σ H v u Q I r h;exact wpAny_assign_Name (B5 I hN hi hx r (λs' I'=>⟨_,H,I',h⟩) hf)
abbrev RC:TGs:=λvs σ H Q=>vs=[]/\Q σ H
abbrev Qv(t:TG)(u:TGs):TGs:=λvs σ H Q=>∃v r,vs=v::r/\t v σ H λŏ H'=>u r ŏ H' Q
def pgs_nil:PGs X [] RC:=by intro Á s σ H vs us Q I r h;obtain⟨e,h⟩:=h;subst e;cases r;exact assignInOrder_nil ⟨σ,H,I,h⟩
variable {e:Expr} {es:List Expr}
def JU{t:TG}{u:TGs}(h1:PG X e t)(h2:PGs X es u)
  (hs:(ġ (e::es) X.env).map (·.2)=ο e X.env::(ġ es X.env).map (·.2):=by rfl):PGs X (e::es)<|Qv t u:=by
 intro Á s σ H vs us Q I r h;obtain⟨v,vr,e1,h⟩:=h;subst e1;cases r with
 |cons r rr =>rw[hs];refine assignInOrder_cons<|thn (h1 Á s σ H _ _ _ I r h) λ_ s1 ⟨σ1,H1,I1,q1⟩=>?_;exact h2 Á s1 σ1 H1 _ _ Q I1 rr q1
abbrev RK(K:Frag)(n:Nat)(t:TGs):TG:=λv σ H Q=>∃a xs,v=.ref a/\gp K H a xs/\xs.length=n/\t xs σ H Q
def BJ{k:Nat}{t:TGs}{n:Nat}(hc:X.calm=fb)(h:PGs X es t)
  (hn:(ġ es X.env).length=n:=by rfl) (ι:(ġ es X.env).findIdx? (·.1)=eZ:=by rfl):PG X (.Tuple es k é)<|RK X.K n t:=by
 intro Á s σ H v u Q I r hw;obtain⟨a,xs,e1,hq,hl,hw⟩:=hw;subst e1;cases r;obtain⟨ð,rv,ht,hz⟩:=I.tuple hq;refine assign_Tuple_tuple (I.ok.hd hc) ht (by simp[hn,<-hl,rv.length]) ι λh' hx=>?_;have I1:Inv X Á σ H {s with heap:=h'}:=I.kept (t':=s.toks) λb o e=>hx b o (Ý<|Ñ e) e;exact h Á _ σ H xs _ Q I1 (by simpa using rv) hw
abbrev QU(to ti:TE)(t:By):TG:=λv σ H Q=>to σ H λo H1=>ti σ H1 λi H2=>t o i v H2 λH3=>Q σ H3
variable {o:Expr} {i:Expr} {to:TE} {ti:TE}
def Iv{t:By}(ho:PE X o to)(hi:PE X i ti)(hs:PSet X t)
  (ha:∀v,ο (.Subscript o i é) X.env v=(do
    let ov<-ņ [v] (eval o X.env)
    let iv<-ņ [v,ov] (eval i X.env)
    ϊ é
    ņ [v,ov,iv] (aN ov iv v)
    eF [v,ov,iv] []):=by intro _;rfl):PG X (.Subscript o i é)<|QU to ti t:=by
 intro Á s σ H v u Q I r h;rw[ha];refine À<|ď<|thn (ho Á s σ H _ I h) λov s1 ⟨x,H1,I1,r1,q1⟩=>?_;refine À<|ď<|thn (hi Á s1 σ H1 _ I1 q1) λiv s2 ⟨y,H2,I2,r2,q2⟩=>?_;refine À<|dn<|À<|ď<|thn (hs Á s2 σ H2 x y v ov iv u _ I2 r1 r2 r q2) λ_ s3 ⟨H3,I3,q3⟩=>?_;exact wpAny_release ⟨σ,H3,I3,q3⟩
abbrev QN(te:TE)(g:TG):TS:=λD σ H=>te σ H λx H1=>g x σ H1 D.nx
variable {te:TE}
def CD{tg:Expr}{g:TG}(he:PE X e te)(hg:PG X tg g)(hs:ϐ [tg] e é.line X.env=pure fc:=by rfl)(hw:ϑ [tg] e X.env=pure eZ:=by rfl)
  (h1:(ġ [tg] X.env).map (·.2)=[ο tg X.env]:=by rfl):PS X (.Assign [tg] e é)<|QN te g:=by
 intro Á s σ H D I h;refine wpAny_Assign_stores (thn (he Á s σ H _ I h) λv s1 ⟨x,H1,I1,r1,q1⟩=>?_) hs hw;rw[h1];exact thn (hg Á s1 σ H1 x v _ I1 r1 q1) λ_ s2 q=>q
abbrev Qc(to ti te:TE)(tget:V->V->Hp->VK->Prop)(tip:TIp)(tset:By):TS:=λD σ H=>to σ H λo H1=>ti σ H1 λi H2=>tget o i H2 λx H3=>te σ H3 λy H4=>tip x y H4 λz H5=>tset o i z H5 λH6=>D.nx σ H6
abbrev PGet(X:Cx)(t:V->V->Hp->VK->Prop):Prop :=
 ∀(Á:List<|È×Obj) (s:Å) (σ:St) (H:Hp) (o i:V) (ov iv:Â) (Q:VK),Inv X Á σ H s->RelV o ov->RelV i iv->t o i H Q->
  wpAny (Ù X.prog X.w) X.A (Ϡ ov iv) (EP X Á σ Q) X.xe s
def Fk{tget:V->V->Hp->VK->Prop}{tip:TIp}{tset:By}{op:ϖ}{cP:Pos}(ho:PE X o to)(hi:PE X i ti)(hg:PGet X tget)(he:PE X e te)(hp:PIp X op tip)(hs:PSet X tset)
  (ha:∀ov iv new,augStore i ov iv new=(do ņ [new,ov,iv] (aN ov iv new);eF [new,ov,iv] [];pure .next):=by intros;rfl):PS X (.AugAssign (.Subscript o i cP) op e é)<|Qc to ti te tget tip tset:=by
 intro Á s σ H D I h;refine wpAny_AugAssign_SubscriptAny (thn (ho Á s σ H _ I h) λov s1 ⟨x1,H1,I1,r1,q1⟩=>?_) ha;refine thn (hi Á s1 σ H1 _ I1 q1) λiv s2 ⟨x2,H2,I2,r2,q2⟩=>?_;refine thn (hg Á s2 σ H2 x1 x2 ov iv _ I2 r1 r2 q2) λϩ s3 ⟨x3,H3,I3,r3,q3⟩=>?_;refine thn (he Á s3 σ H3 _ I3 q3) λv s4 ⟨x4,H4,I4,r4,q4⟩=>?_;refine thn (hp Á s4 σ H4 x3 x4 ϩ v _ I4 r3 r4 q4) λnew s5 ⟨x5,H5,I5,r5,q5⟩=>?_;exact thn (hs Á s5 σ H5 x1 x2 x5 ov iv new _ I5 r1 r2 r5 q5) λ_ s6 ⟨H6,I6,q6⟩=>⟨σ,H6,I6,q6⟩
end
section
variable {X:Cx}{é:Pos}
abbrev LT(c:TT)(tb:TS):TS:=λD σ H=>∃W:Nat->St->Hp->Prop,(∃m,W m σ H)/\∀m σ H,W m σ H->
 c σ H λb H1=>if b=fb then ∃N:St->Hp->Prop,(∀ŏ H',N ŏ H'->∃m',m'<m/\W m' ŏ H')/\tb {D with nx:=N,ct:=N,bk:=D.nx} σ H1 else D.nx σ H1
def BK{c:Expr}{body:List ŀ}{tc:TT}{tb:TS}(hp:Λ (Ù X.prog X.w) X.A X.env X.xe)(hc:PT X c tc)(hb:PSs X body tb):PS X (.While c body [] é)<|LT tc tb:=by
 intro Á s σ H D I h;obtain⟨W,⟨m0,w0⟩,turn⟩:=h;refine wpAny_While<|codeAny_whileLoop (λn s'=>∃ŏ H',Inv X Á ŏ H' s'/\W n ŏ H') ?_ m0 ⟨σ,H,I,w0⟩;rintro n s1 ⟨σ1,H1,I1,w1⟩;refine ş hp<|thn (hc Á s1 σ1 H1 _ I1<|turn n σ1 H1 w1) λb s2 ⟨H2,I2,q2⟩=>?_;cases b with
 |true =>
  obtain⟨N,hN,q2⟩:=q2;rw[gD rfl];refine ş hp<|thn (hb Á s2 σ1 H2 _ I2 q2) λf s3 q3=>?_;cases f with
  |next =>obtain⟨bA,H3,I3,n3⟩:=q3;obtain⟨m',hm,w3⟩:=hN bA H3 n3;exact⟨m',hm,bA,H3,I3,w3⟩
  |cont =>obtain⟨bA,H3,I3,n3⟩:=q3;obtain⟨m',hm,w3⟩:=hN bA H3 n3;exact⟨m',hm,bA,H3,I3,w3⟩
  |brk=>exact q3
  |ret v=>exact q3
 |false =>rw[gE ù];exact bU ⟨σ1,H2,I2,q2⟩
end
structure It where
 go:Nat->Hp->Prop
 yld:Nat->Hp->V->Hp->Prop
 stop:Nat->Hp->Prop
abbrev Wi(X:Cx)(Á:List<|È×Obj)(H:Hp)(b:È):Prop :=
 H b=eZ/\b≠X.env.locals/\b∉X.fs/\(b∈X.ex\/X.s₀.heap.objs.size<=b)/\(∀x c,X.env.cells.lookup x=eY c->c≠b)/\∀p∈X.pn++Á,p.1≠b
variable {s:Å}
def Inv.fpOk{Á:List (È×Obj)}{σ:St}{H H':Hp}{b:È}(I:Inv X Á σ H s)(hb:s.heap.objs.size<=b)(hn:H' b=eZ):Wi X Á H' b:=by
 refine⟨hn,Ŕ<|á I.lt hb,I.nofs hb,.inr<|ß I.sz hb,λx c e z=>?_,λp hp z=>?_⟩
 .obtain⟨v,q⟩:=I.cell x c e;exact gJ (á q.lt<|by rw[z];exact hb)<|Ĥ _
 .exact gJ (á (Ñ (I.pin p hp).1)<|by rw[z];exact hb)<|Ĥ _
structure Turn(P:â)(w:ô)(K:Frag)(tg:Expr)(J:It)(fp:List È)(it:È)(tn:Nat->ă->Prop):Prop where
 mem:it∈fp
 obj:∀i h,tn i h->∀b∈fp,∃o,h.get? b=eY o/\∀v,o.data≠.cell v
 keep:∀i h h',tn i h->(∀b∈fp,∀o,h.get? b=eY o->h'.get? b=eY o)->tn i h'
 item:∀(X:Cx),X.prog=P->X.w=w->X.K=K->X.calm=fb->∀(i:Nat) (Á:List<|È×Obj) (s:Å) (σ:St) (H:Hp) (E:Â->Å->Prop),Inv X Á σ H s->(∀b∈fp,Wi X Á H b)->tn i s.heap->J.go i H->
  wpAny (Ù P w) X.A (Ŭ<|.ref it) (λr s1=>∃u,r=eY u/\
    wpAny (Ù P w) X.A (Ϧ tg (.ref it) u) (λ_ s2=>∃x H',Inv X Á σ H' s2/\RelV x u/\J.yld i H x H'/\tn (i+1) s2.heap/\∀b∈fp,H' b=eZ) E s1) E s
 done:∀(X:Cx),X.prog=P->X.w=w->X.K=K->X.calm=fb->∀(i:Nat) (Á:List<|È×Obj) (s:Å) (σ:St) (H:Hp) (E:Â->Å->Prop),Inv X Á σ H s->(∀b∈fp,Wi X Á H b)->tn i s.heap->J.stop i H->
  wpAny (Ù P w) X.A (Ŭ<|.ref it) (λr s1=>r=eZ/\Inv X Á σ H s1) E s
 self:∀(A:Ą) (i:Nat) (s:Å) (Q:Â->Å->Prop) (E:Â->Å->Prop),tn i s.heap->Q (.ref it) s->wpAny (Ù P w) A (cA<|.ref it) Q E s
noncomputable abbrev TI:=St->Hp->(It->Hp->Prop)->Prop
abbrev PIE(X:Cx)(Á:List<|È×Obj)(σ:St)(tg:Expr)(R:It->Hp->Prop)(itv:Â)(s2:Å):Prop :=
 ∃(it:È) (fp:List È) (tn:Nat->ă->Prop) (J:It) (H':Hp),itv=.ref it/\Inv X Á σ H' s2/\Turn X.prog X.w X.K tg J fp it tn/\tn 0 s2.heap/\(∀b∈fp,Wi X Á H' b)/\R J H'
abbrev PI(X:Cx)(tg Ų:Expr)(wi:TI):Prop :=
 ∀(Á:List<|È×Obj) (s:Å) (σ:St) (H:Hp) (R:It->Hp->Prop),Inv X Á σ H s->wi σ H R->
  wpAny (Ù X.prog X.w) X.A (eval Ų X.env) (λv s1=>wpAny (Ù X.prog X.w) X.A (cA v) (PIE X Á σ tg R) X.xe s1) X.xe s
variable {tg:Expr}
def fi{M:Model}{A:Ą}{E:Â->Å->Prop}{it:È}{o:Obj}{n:String}{vs:Array Â}{Q:Unit->Å->Prop}(ho:s.heap.get? it=eY o)(hc:o.cls=.type n)(hd:o.data=.fields vs)
  (hn:["enumerate","zip","dict_itemiterator","dict_reverseitemiterator","odict_iterator","itertools.zip_longest","itertools.pairwise"].contains n=fc) (hQ:Q () s):wpAny M A (Ϧ tg (.ref it) u) Q E s:=by
 unfold Ϧ;cases tg<;>first
  |exact Æ hQ
  | (cases u<;>first
      |exact Æ hQ
      | (refine À (wpAny_load ho ?_)
         rw[hc,hd]
         show wpAny M A (if(["enumerate","zip","dict_itemiterator","dict_reverseitemiterator","odict_iterator","itertools.zip_longest","itertools.pairwise"].contains n&&vs[0]? == eY (Ģ _))=fb then _ else _) Q E s
         rw[gE<|by intro h;rw[hn,Bool.false_and]at h;cases h]
         exact Æ hQ))
abbrev Itl(K:Frag)(a:È):It :=
 ⟨λi H=>∃xs x,gm K H a xs/\xs[i]?=eY x,λi H x H'=>H'=H/\∀xs,gm K H a xs->xs[i]?=eY x,λi H=>∃xs,gm K H a xs/\xs.length<=i⟩
abbrev Itt(K:Frag)(a:È):It :=
 ⟨λi H=>∃xs x,gp K H a xs/\xs[i]?=eY x,λi H x H'=>H'=H/\∀xs,gp K H a xs->xs[i]?=eY x,λi H=>∃xs,gp K H a xs/\xs.length<=i⟩
abbrev Itr(lo:Int)(n:Nat):It:=⟨λi _=>i<n,λi H x H'=>H'=H/\x=.int (lo+i),λi _=>n<=i⟩
variable {P:â} {w:ô}
def AE{K:Frag}(a it:È):Turn P w K tg (Itl K a) [it] it (λi h=>h.IsListIter it a i) where
 mem:=by simp
 obj:=λi h st b hb=>by
  have e:b=it:=by simpa using hb
  subst e;obtain⟨o,e,c,d⟩:=st;exact⟨o,e,λv z=>by rw[d]at z;cases z⟩
 keep:=λi h h' st k=>st.at λo e=>k it (by simp) o e
 item:=by intro X hP hw hK hc i Á s σ H E I hf st hg;subst hP hw hK;obtain⟨xs,x,hq,hx⟩:=hg;obtain⟨ð,rv,p,hz⟩:=I.list hq;obtain⟨u,hu,ru⟩:=rv.get hx;obtain⟨f0,f1,f2,f3,f4,f5⟩:=hf it (by simp);refine wpAny_pyNext_list_item st p.isList (x:=u) (by simpa using hu) λh' d7 sb=>?_;have I1:Inv X Á σ H {s with heap:=h'}:=I.turned (t':=s.toks) (λb o hb e=>(sb.2 b hb).trans e) f0 f1 f3 f4 f5;obtain⟨o,e,c,d⟩:=id d7;exact⟨u,rfl,fi (s:={s with heap:=h'}) e c d (by decide) ⟨x,H,I1,ru,⟨rfl,λys hy=>by rw[I.list_inj hy hq];exact hx⟩,d7,λb hb=>(hf b hb).1⟩⟩
 done:=by intro X hP hw hK hc i Á s σ H E I hf st hg;subst hP hw hK;obtain⟨xs,hq,hx⟩:=hg;obtain⟨ð,rv,p,hz⟩:=I.list hq;obtain⟨f0,f1,f2,f3,f4,f5⟩:=hf it (by simp);have hl:=rv.length;exact wpAny_pyNext_list_end (I.ok.hd hc) st p.isList (by simp;lia) λh' eb=>⟨rfl,I.turned (t':=s.toks) (λb o hb e=>eb b o hb e) f0 f1 f3 f4 f5⟩
 self:=λ_ _ _ _ _ st h=>wpAny_pyIter_listiter st h
def N9{K:Frag}(a it:È):Turn P w K tg (Itt K a) [it] it (λi h=>h.IsTupleIter it a i) where
 mem:=by simp
 obj:=λi h st b hb=>by
  have e:b=it:=by simpa using hb
  subst e;obtain⟨o,e,c,d⟩:=st;exact⟨o,e,λv z=>by rw[d]at z;cases z⟩
 keep:=λi h h' st k=>st.at λo e=>k it (by simp) o e
 item:=by intro X hP hw hK hc i Á s σ H E I hf st hg;subst hP hw hK;obtain⟨xs,x,hq,hx⟩:=hg;obtain⟨ð,rv,p,hz⟩:=I.tuple hq;obtain⟨u,hu,ru⟩:=rv.get hx;obtain⟨f0,f1,f2,f3,f4,f5⟩:=hf it (by simp);refine wpAny_pyNext_tuple_item st (show s.heap.IsTuple a ð.toArray from p) (x:=u) (by simpa using hu) λh' d7 sb=>?_;have I1:Inv X Á σ H {s with heap:=h'}:=I.turned (t':=s.toks) (λb o hb e=>(sb.2 b hb).trans e) f0 f1 f3 f4 f5;obtain⟨o,e,c,d⟩:=id d7;exact⟨u,rfl,fi (s:={s with heap:=h'}) e c d (by decide) ⟨x,H,I1,ru,⟨rfl,λys hy=>by rw[I.tuple_inj hy hq];exact hx⟩,d7,λb hb=>(hf b hb).1⟩⟩
 done:=by intro X hP hw hK hc i Á s σ H E I hf st hg;subst hP hw hK;obtain⟨xs,hq,hx⟩:=hg;obtain⟨ð,rv,p,hz⟩:=I.tuple hq;obtain⟨f0,f1,f2,f3,f4,f5⟩:=hf it (by simp);have hl:=rv.length;exact wpAny_pyNext_tuple_end (I.ok.hd hc) st (show s.heap.IsTuple a ð.toArray from p) (by simp;lia) λh' eb=>⟨rfl,I.turned (t':=s.toks) (λb o hb e=>eb b o hb e) f0 f1 f3 f4 f5⟩
 self:=λ_ _ _ _ _ st h=>wpAny_pyIter_tupleiter st h
def Oc{K:Frag}(it:È)(lo:Int)(n:Nat):Turn P w K tg (Itr lo n) [it] it (λi h=>IsRangeIter h it (lo+(i:Nat)*1) ((n:Int) - (i:Nat)) 1) where
 mem:=by simp
 obj:=λi h st b hb=>by
  have e:b=it:=by simpa using hb
  subst e;exact⟨_,st,λv z=>by
    have z':Data.fields _=Data.cell v:=z
    cases z'⟩
 keep:=λi h h' st k=>k it (by simp) _ st
 item:=by intro X hP hw hK hc i Á s σ H E I hf st hg;subst hP hw hK;obtain⟨f0,f1,f2,f3,f4,f5⟩:=hf it (by simp);have W:=Walks.range (prog:=X.prog) (w:=X.w) (I.ok.hd hc) it lo 1 n;refine W.item i s _ _ hg st λv h' tk hv d7 kk=>?_;obtain⟨t,rfl⟩:=hv;have I1:Inv X Á σ H {s with heap:=h',toks:=tk}:=I.turned (λb o hb e=>kk b o (by simpa using hb) e) f0 f1 f3 f4 f5;refine⟨_,rfl,fi (s:={s with heap:=h',toks:=tk}) (n:="range_iterator") d7 rfl rfl (by decide) ⟨.int<|lo+i,H,I1,⟨t,?_⟩,⟨rfl,rfl⟩,d7,λb hb=>(hf b hb).1⟩⟩;rw[Int.mul_one]
 done:=by intro X hP hw hK hc i Á s σ H E I hf st hg;subst hP hw hK;obtain⟨f0,f1,f2,f3,f4,f5⟩:=hf it (by simp);exact wpAny_pyNext_range_end (I.ok.hd hc) st (by have:n<=i:=hg;lia) λh' eb=>⟨rfl,I.turned (t':=s.toks) (λb o hb e=>eb b o hb e) f0 f1 f3 f4 f5⟩
 self:=λ_ _ _ _ _ st h=>wpAny_pyIter_rangeiter st h
section
variable {X:Cx}{tg:Expr}
variable {Á:List (È×Obj)} {σ:St} {H:Hp} {s:Å}
def MO{R:It->Hp->Prop}{E:Â->Å->Prop}{lo hi:Int}{t u v:Tok}{tk:Nat}(I:Inv X Á σ H s)(h1:-(2 ^ 62)<=lo)(h2:lo<2 ^ 62)(h3:-(2 ^ 62)<=hi)(h4:hi<2 ^ 62)
  (q:R (Itr lo (hi - lo).toNat) H):wpAny (Ù X.prog X.w) X.A (cA<|.ref s.heap.objs.size) (PIE X Á σ tg R) E {s with heap:=s.heap.push {cls:=.type "range",data:=.fields #[.int lo t,.int hi u,.int 1 v]},toks:=tk}:=by
 refine wpAny_pyIter_range (IsRange.new ..) (small_one h1 h2 h3 h4) ?_;have I1:Inv X Á σ H { s with heap:=s.heap.push { cls:=.type "range",data:=.fields #[.int lo t,.int hi u,.int 1 v] },toks:=tk }:=I.kept λb o e=>Ä _ e;refine⟨(s.heap.push { cls:=.type "range",data:=.fields #[.int lo t,.int hi u,.int 1 v] }).objs.size,[(s.heap.push { cls:=.type "range",data:=.fields #[.int lo t,.int hi u,.int 1 v] }).objs.size],_,_,H,rfl,
   I1.kept (t':=tk) λb o e=>Ä _ e,Oc _ lo (hi - lo).toNat,?_,λb hb=>?_,q⟩
 .have e1:lo+((0:Nat):Int)*1=lo:=by simp
  have e2:(((hi - lo).toNat:Nat):Int) - ((0:Nat):Int)=Builtin.Range.rangeSize lo hi 1:=by rw[rangeSize_one];split<;>lia
  show IsRangeIter _ _ (lo+((0:Nat):Int)*1) ((((hi - lo).toNat:Nat):Int) - ((0:Nat):Int)) 1;rw[e1,e2];exact Ð _ rfl
 .have e:b=(s.heap.push {cls:=.type "range",data:=.fields #[.int lo t,.int hi u,.int 1 v]}).objs.size:=by simpa using hb
  subst e;exact I1.fpOk (Ì _)<|I1.hok.fresh<|Ì _
abbrev QM(ta:TA):TI:=λσ H R=>ta σ H λvs H1=>∃j:Int,vs=[.int j]/\-(2 ^ 62)<=j/\j<2 ^ 62/\R (Itr 0 j.toNat) H1
abbrev Po(ta:TA):TI:=λσ H R=>ta σ H λvs H1=>∃i j:Int,vs=[.int i,.int j]/\(-(2 ^ 62)<=i/\i<2 ^ 62/\-(2 ^ 62)<=j/\j<2 ^ 62)/\R (Itr i (j - i).toNat) H1
variable {a:Expr} {ta:TA} {p:Pos} {é:Pos}
def At(hg:Gl X "range")(hm:X.mg "range" = eZ)(ha:PA X [a] ta)(hs:Ô [a] X.env=[(fc,eval a X.env)]:=by rfl):PI X tg (.Call (.Name "range" p) [a] [] é)<|QM ta:=by
 intro Á s σ H R I h;refine Call_<|YN I hg hm boot_range<|PyProof.Rows.callWith_type1 (thn (ha é Á s σ H _ I h) λus s1 ⟨vs,H1,I1,r1,q1⟩=>?_) hs rfl;obtain⟨j,e,q1,q2,q⟩:=q1;subst e;cases r1 with
 |cons r rr =>cases rr;obtain⟨t,rfl⟩:=r;exact call_range_1 (MO I1 (by lia) (by lia) q1 q2<|by simpa using q)
def AZ{b:Expr}(hg:Gl X "range")(hm:X.mg "range" = eZ)(ha:PA X [a,b] ta)(hs:Ô [a,b] X.env=[(fc,eval a X.env),(fc,eval b X.env)]:=by rfl)(hs2:Ô [b] X.env=[(fc,eval b X.env)]:=by rfl) :
  PI X tg (.Call (.Name "range" p) [a,b] [] é) (Po ta):=by
 intro Á s σ H R I h;refine Call_ (YN I hg hm boot_range<|PyProof.Rows.callWith_type1 (thn (ha é Á s σ H _ I h) λus s1 ⟨vs,H1,I1,r1,q1⟩=>?_) (by rw[hs,hs2])<|by rw[hs2];rfl);obtain⟨i,j,e,⟨q1,q2,q3,q4⟩,q⟩:=q1;subst e;cases r1 with
 |cons r rr =>
  cases rr with
  |cons r' rr =>cases rr;obtain⟨t,rfl⟩:=r;obtain⟨t',rfl⟩:=r';exact call_range_2<|MO I1 q1 q2 q3 q4 q
abbrev RU(wi:TI)(g:TG)(tb:TS):TS:=λD σ H=>wi σ H λJ H1=>∃W:Nat->Nat->St->Hp->Prop,(∃m,W 0 m σ H1)/\∀i m σ H,W i m σ H->
 (J.stop i H/\D.nx σ H)\/(J.go i H/\∃N:St->Hp->Prop,(∀ŏ H',N ŏ H'->∃m',m'<m/\W (i+1) m' ŏ H')/\∀x H',J.yld i H x H'->g x σ H' λσ2 H2=>tb {D with nx:=N,ct:=N,bk:=D.nx} σ2 H2)
abbrev XH(fp:List È)(h:ă):List<|È×Obj:=fp.filterMap λb=>(h.get? b).map λo=>(b,o)
variable {fp:List È} {h:ă}
def ZS{b:È}{o:Obj}(hb:b∈fp)(e:h.get? b=eY o):(b,o)∈XH fp h:=χ.mpr ⟨b,hb,by rw[e];rfl⟩
def Kz{p:È×Obj}(hp:p∈XH fp h):p.1∈fp/\h.get? p.1=eY p.2:=by
 obtain⟨b,hb,e⟩:=χ.mp hp;cases q:h.get? b with
 |none=>rw[q]at e;cases e
 |some o =>rw[q]at e;have e':(b,o)=p:=æ e;subst e';exact⟨hb,q⟩
def Inv.pinned(I:Inv X Á σ H s)(hf:∀b∈fp,Wi X Á H b)(ho:∀b∈fp,∃o,s.heap.get? b=eY o/\∀v,o.data≠.cell v):Inv X (Á++XH fp s.heap) σ H s :=
 I.pins_of λp hp=>(å.mp hp).elim (λz=>I.pin p<|Ê _ z) λz=>by obtain⟨hb,e⟩:=Kz z;obtain⟨f0,f1,f2,_⟩:=hf p.1 hb;obtain⟨o,e',d⟩:=ho p.1 hb;rw[e]at e';cases e';exact⟨e,f0,f1,f2,d⟩
def Inv.unpinned{pl:List (È×Obj)}(I:Inv X (Á++pl) σ H s):Inv X Á σ H s:=I.pins_of λp hp=>I.pin p (Ê _<|Ö _ hp)
def Ci{Ų:Expr}{body:List ŀ}{wi:TI}{g:TG}{tb:TS}(hp:Λ (Ù X.prog X.w) X.A X.env X.xe)(hc:X.calm=fb)(hi:PI X tg Ų wi)(hg:PG X tg g)(hb:PSs X body tb)
  (hs:∀x,Ě Ų X.env x=pure x:=by intro _;rfl):PS X (.For tg Ų body [] é)<|RU wi g tb:=by
 intro Á s σ H D I h;refine wpAny_For (thn (hi Á s σ H _ I h) λv s1 h1=>thn h1 λitv s2 h2=>?_) hs;obtain⟨it,fp,tn,J,H2,e,I2,T,st2,f2,W,⟨m0,w0⟩,turn⟩:=h2;subst e;have stat:∀{H':Hp},(∀b∈fp,H' b=eZ)->∀b∈fp,Wi X Á H' b:=λhn b hb=>⟨hn b hb,(f2 b hb).2⟩
 refine codeAny_forLoop_any (λn s'=>∃i ŏ H',Inv X Á ŏ H' s'/\tn i s'.heap/\(∀b∈fp,H' b=eZ)/\W i n ŏ H') ?_ m0 ⟨0,σ,H2,I2,st2,λb hb=>(f2 b hb).1,w0⟩;rintro n s3 ⟨i,bA,H3,I3,st3,fr3,w3⟩;rcases turn i n bA H3 w3 with⟨stop,qn⟩|⟨go,N,hN,step⟩
 .refine ş hp<|thn (T.done X rfl rfl rfl hc i Á s3 bA H3 X.xe I3 (stat fr3) st3 stop) λr s4 ⟨hr,I4⟩=>?_;subst hr;exact bU ⟨bA,H3,I4,qn⟩
 .refine ş hp<|thn (T.item X rfl rfl rfl hc i Á s3 bA H3 X.xe I3 (stat fr3) st3 go) λr s4 ⟨u,hr,h4⟩=>?_;subst hr;refine ş hp<|thn h4 λ_ s5 ⟨x,H5,I5,r5,y5,st5,fr5⟩=>?_;have I5':=I5.pinned (stat fr5)<|T.obj _ _ st5;refine ş hp<|thn (hg _ s5 bA H5 x u _ I5' r5<|step x H5 y5) λ_ s6 ⟨σ6,H6,I6,q6⟩=>?_;refine ş hp<|thn (hb _ s6 σ6 H6 _ I6 q6) λf s7 q7=>?_;have again:∀{bB:St}{H7:Hp},Inv X (Á++XH fp s5.heap) bB H7 s7->N bB H7->∃m,m<n/\∃i ŏ H',Inv X Á ŏ H' s7/\tn i s7.heap/\(∀b∈fp,H' b=eZ)/\W i m ŏ H':=λ{bB H7} I7 n7=>by
   obtain⟨m',hm,w7⟩:=hN bB H7 n7;refine⟨m',hm,i+1,bB,H7,I7.unpinned,T.keep _ _ _ st5 λb hb o e=>(I7.pin (b,o)<|Ê _<|Ê _<|ZS hb e).1,λb hb=>?_,w7⟩;obtain⟨o,e,d⟩:=T.obj _ _ st5 b hb;exact(I7.pin (b,o)<|Ê _<|Ê _<|ZS hb e).2.1
  cases f with
  |next=>obtain⟨bB,H7,I7,n7⟩:=q7;exact again I7 n7
  |cont=>obtain⟨bB,H7,I7,n7⟩:=q7;exact again I7 n7
  |brk=>obtain⟨bB,H7,I7,q7⟩:=q7;exact⟨bB,H7,I7.unpinned,q7⟩
  |ret v=>obtain⟨x7,bB,H7,I7,r7,q7⟩:=q7;exact⟨x7,bB,H7,I7.unpinned,r7,q7⟩
end
noncomputable abbrev R2:=V->V->Hp->VK->Prop
abbrev OpR(X:Cx)(f:Â->Â->Sem Â)(r:R2):Prop :=
 ∀(Á:List<|È×Obj) (s:Å) (σ:St) (H:Hp) (x y:V) (v u:Â) (Q:VK),Inv X Á σ H s->RelV x v->RelV y u->r x y H Q->
  wpAny (Ù X.prog X.w) X.A (f v u) (EP X Á σ Q) X.xe s
abbrev UnR(X:Cx)(f:Â->Sem Â)(r:V->Hp->VK->Prop):Prop :=
 ∀(Á:List<|È×Obj) (s:Å) (σ:St) (H:Hp) (x:V) (v:Â) (Q:VK),Inv X Á σ H s->RelV x v->r x H Q->
  wpAny (Ù X.prog X.w) X.A (f v) (EP X Á σ Q) X.xe s
abbrev fm(X:Cx)(f:Â)(r:List V->Hp->VK->Prop):Prop :=
 ∀(Á:List<|È×Obj) (s:Å) (σ:St) (H:Hp) (xs:List V) (us:List Â) (Q:VK),Inv X Á σ H s->gq xs us->r xs H Q->
  wpAny (Ù X.prog X.w) X.A (call f us) (EP X Á σ Q) X.xe s
abbrev Sk(X:Cx)(r:V->Hp->(Bool->Hp->Prop)->Prop):Prop :=
 ∀(Á:List<|È×Obj) (s:Å) (σ:St) (H:Hp) (x:V) (v:Â) (Q:Bool->Hp->Prop),Inv X Á σ H s->RelV x v->r x H Q->
  wpAny (Ù X.prog X.w) X.A (truthy v) (TP X Á σ Q) X.xe s
abbrev tOp(r:R2)(ta tb:TE):TE:=λσ H Q=>ta σ H λx H1=>tb σ H1 λy H2=>r x y H2 Q
abbrev tUn(r:V->Hp->VK->Prop)(ta:TE):TE:=λσ H Q=>ta σ H λx H1=>r x H1 Q
abbrev rI(C:Int->Int->Prop)(g:Int->Int->V):R2:=λx y H Q=>∃i j,x=.int i/\y=.int j/\C i j/\Q (g i j) H
abbrev rI0(g:Int->Int->V):R2:=λx y H Q=>∃i j,x=.int i/\y=.int j/\Q (g i j) H
abbrev rU(g:Int->V):V->Hp->VK->Prop:=λx H Q=>∃i,x=.int i/\Q (g i) H
section
variable {X:Cx}{a b c:Expr}{ta tb tc:TE}{é:Pos}
variable {f:Â->Â->Sem Â}
def Pl(ha:PE X a ta)(hb:PE X b tb){Á:List (È×Obj)}{s:Å}{σ:St}{H:Hp}{R:V->V->Hp->Prop}(I:Inv X Á σ H s)
  (h:ta σ H λx H1=>tb σ H1 λy H2=>R x y H2){Q:Â->Å->Prop} 
  (hf:∀v u s2 x y H2,Inv X Á σ H2 s2->RelV x v->RelV y u->R x y H2->wpAny (Ù X.prog X.w) X.A (f v u) Q X.xe s2) :
  wpAny (Ù X.prog X.w) X.A (eval a X.env) (λv ĝ=>wpAny (Ù X.prog X.w) X.A (eval b X.env) (λu bY=>wpAny (Ù X.prog X.w) X.A (f v u) Q X.xe bY) X.xe ĝ) X.xe s:=by
 refine thn (ha Á s σ H _ I h) λv s1 ⟨x,H1,I1,r1,q1⟩=>?_;refine thn (hb Á s1 σ H1 _ I1 q1) λu s2 ⟨y,H2,I2,r2,q2⟩=>?_;exact hf v u s2 x y H2 I2 r1 r2 q2
def Q0{op:ϖ}{r:R2}(ho:OpR X (ŉ op) r)(ha:PE X a ta)(hb:PE X b tb):PE X (.BinOp a op b é)<|tOp r ta tb:=by intro Á s σ H Q I h;exact wpAny_BinOp (Pl ha hb I h λv u s2 x y H2 I2 rx ry q=>ho Á s2 σ H2 x y v u Q I2 rx ry q)
def QH{op:UnaryOp}{r:V->Hp->VK->Prop}(ho:UnR X (unaryOp op) r)(ha:PE X a ta):PE X (.UnaryOp op a é)<|tUn r ta:=by intro Á s σ H Q I h;exact UnaryOp_ (thn (ha Á s σ H _ I h) λv s1 ⟨x,H1,I1,r1,q1⟩=>ho Á s1 σ H1 x v Q I1 r1 q1)
variable {g:Int->Int->Int}
def opI{C:Int->Int->Prop} 
  (rule:∀(i j:Int) (t u:Tok) (s:Å) (Q:Â->Å->Prop) (E:Â->Å->Prop),C i j->Q (.int (g i j) s.toks) {s with toks:=s.toks+1}->wpAny (Ù X.prog X.w) X.A (f (.int i t)<|.int j u) Q E s) :
  OpR X f (rI C λi j=>.int<|g i j):=by
 intro Á s σ H x y v u Q I rx ry h;obtain⟨i,j,rfl,rfl,hc,q⟩:=h;obtain⟨t,rfl⟩:=rx;obtain⟨t',rfl⟩:=ry;exact rule i j t t' s _ _ hc ⟨.int<|g i j,H,I.tok _,⟨_,rfl⟩,q⟩
def PV  
  (rule:∀(i j:Int) (t u:Tok) (s:Å) (Q:Â->Å->Prop) (E:Â->Å->Prop),Q (.int (g i j) s.toks) {s with toks:=s.toks+1}->wpAny (Ù X.prog X.w) X.A (f (.int i t)<|.int j u) Q E s) :
  OpR X f (rI0 λi j=>.int<|g i j):=by
 intro Á s σ H x y v u Q I rx ry h;obtain⟨i,j,rfl,rfl,q⟩:=h;obtain⟨t,rfl⟩:=rx;obtain⟨t',rfl⟩:=ry;exact rule i j t t' s _ _ ⟨.int<|g i j,H,I.tok _,⟨_,rfl⟩,q⟩
def GA{g:Int->Int->Bool}
  (rule:∀(i j:Int) (t u:Tok) (s:Å) (Q:Â->Å->Prop) (E:Â->Å->Prop),Q (.bool<|g i j) s->wpAny (Ù X.prog X.w) X.A (f (.int i t)<|.int j u) Q E s) :
  OpR X f (rI0 λi j=>.bl<|g i j):=by
 intro Á s σ H x y v u Q I rx ry h;obtain⟨i,j,rfl,rfl,q⟩:=h;obtain⟨t,rfl⟩:=rx;obtain⟨t',rfl⟩:=ry;exact rule i j t t' s _ _ ⟨.bl<|g i j,H,I,rfl,q⟩
abbrev Q2(i j:Int):Prop:=0<j/\j<1073741824
abbrev Qj(i j:Int):Prop:=0<=j/\j<=1000000/\i.natAbs<2 ^ 64
abbrev CMul(i j:Int):Prop:=(-(2 ^ 64)<i/\i<2 ^ 64)\/(-(2 ^ 64)<j/\j<2 ^ 64)
def CMul.ok{i j:Int}(h:CMul i j):IntMulOk i j:=by
 rcases h with⟨h1,h2⟩|⟨h1,h2⟩
 .exact .of_left<|ak h1 h2
 .exact .of_right<|ak h1 h2
def op_add:OpR X (ŉ .Add)<|rI0 λi j=>.int<|i+j:=PV λ_ _ _ _ _ _ _ q=>add_int q
def IK:OpR X (ŉ .Sub)<|rI0 λi j=>.int<|i - j:=PV λ_ _ _ _ _ _ _ q=>sub_int q
def ER:OpR X (ŉ .FloorDiv)<|rI Q2 λi j=>.int<|i / j:=opI λi j _ _ _ _ _ hc q=>by have h1:(0:Int)<j:=hc.1;have h2:j<1073741824:=hc.2;exact floordiv_int (by lia) (by rw[Int.fdiv_eq_ediv_of_nonneg i<|by lia];exact q) (.inl<|PyProof.noPylong_small<|by lia)
def Iq:OpR X (ŉ .Mod)<|rI (λ_ j=>0<j) λi j=>.int<|i % j:=opI λi j _ _ _ _ _ hc q=>by have h1:(0:Int)<j:=hc;exact mod_int' (by lia) (by rw[Int.fmod_eq_emod_of_nonneg i<|by lia];exact q)
def Ii:OpR X (ŉ .Pow)<|rI Qj λi j=>.int<|i ^ j.toNat:=opI λ_ _ _ _ _ _ _ hc q=>pow_int_small hc.1 hc.2.1 hc.2.2 q
def unI{f:Â->Sem Â}{g:Int->Int}
  (rule:∀(i:Int) (t:Tok) (s:Å) (Q:Â->Å->Prop) (E:Â->Å->Prop),Q (.int (g i) s.toks) {s with toks:=s.toks+1}->wpAny (Ù X.prog X.w) X.A (f<|.int i t) Q E s) :
  UnR X f (rU λi=>.int<|g i):=by
 intro Á s σ H x v Q I rx h;obtain⟨i,rfl,q⟩:=h;obtain⟨t,rfl⟩:=rx;exact rule i t s _ _ ⟨.int<|g i,H,I.tok _,⟨_,rfl⟩,q⟩
def Lx:UnR X (unaryOp .USub)<|rU λi=>.int (-i):=unI λ_ _ _ _ _ q=>neg_int q
end
section
variable {X:Cx}{a b c:Expr}{ta tb tc:TE}{é:Pos}
def IM{Á:List (È×Obj)}{σ:St}{H:Hp}{s:Å}{Q:VK}{k k':Bool}(I:Inv X Á σ H s)(q:Q (.bl k) H)(e:k=k'):EP X Á σ Q (.bool k') s:=by subst e;exact⟨.bl k,H,I,rfl,q⟩
def op_lt:OpR X (ë .Lt)<|rI0 λi j=>.bl<|gK (i<j):=GA λ_ _ _ _ _ _ _ q=>lt_int q
def Q7:OpR X (ë .LtE)<|rI0 λi j=>.bl<|gK (i<=j):=GA λ_ _ _ _ _ _ _ q=>le_int q
def op_gt:OpR X (ë .Gt)<|rI0 λi j=>.bl<|gK (j<i):=GA λ_ _ _ _ _ _ _ q=>gt_int q
def P7:OpR X (ë .GtE)<|rI0 λi j=>.bl<|gK (j<=i):=GA λ_ _ _ _ _ _ _ q=>ge_int q
def A1:OpR X (ë .In) λx y H Q=>∃i j,x=.str i/\y=.str j/\Q (.bl (!(Builtin.Str.occurrences j i 0 j.length 1).isEmpty)) H:=by intro Á s σ H x y v u Q I rx ry h;obtain⟨i,j,rfl,rfl,q⟩:=h;obtain⟨t,rfl⟩:=rx;obtain⟨t',rfl⟩:=ry;exact in_str (IM I q rfl)
variable {r:R2} {r':R2}
def OpR.or{f:Â->Â->Sem Â}(h:OpR X f r)(h':OpR X f r'):OpR X f λx y H Q=>r x y H Q\/r' x y H Q:=by
 intro Á s σ H x y v u Q I rx ry q;rcases q with q|q
 .exact h Á s σ H x y v u Q I rx ry q
 .exact h' Á s σ H x y v u Q I rx ry q
variable {op:cz}
def UR(ho:OpR X (ë op) r)(ha:PE X a ta)(hb:PE X b tb)(hm:ł op b=fc):PE X (.Compare a [op] [b] é)<|tOp r ta tb:=by intro Á s σ H Q I h;exact wpAny_Compare1 (Pl ha hb I h λv u s2 x y H2 I2 rx ry q=>ho Á s2 σ H2 x y v u Q I2 rx ry q) hm
abbrev Hu(t:TE):TT:=λσ H Q=>t σ H λx H'=>∃k,x=.bl k/\Q k H'
def UZ(ho:OpR X (ë op) r)(ha:PE X a ta)(hb:PE X b tb)(hm:ł op b=fc):PT X (.Compare a [op] [b] é)<|Hu<|tOp r ta tb:=by
 intro Á s σ H Q I h;refine wpAny_isTrue_Compare1 (thn (ha Á s σ H _ I h) λv s1 ⟨x,H1,I1,r1,q1⟩=>thn (hb Á s1 σ H1 _ I1 q1) λu s2 ⟨y,H2,I2,r2,q2⟩ =>
   thn (ho Á s2 σ H2 x y v u _ I2 r1 r2 q2) λc s3 ⟨z,H3,I3,r3,k,e,q3⟩=>?_) hm
 subst e;cases r3;exact Đ ⟨H3,I3,q3⟩
abbrev D3(r r':R2)(ta tb tc:TE):TE:=λσ H Q=>ta σ H λx H1=>tb σ H1 λy H2=>r x y H2 λz H3=>∃k,z=.bl k/\
 (if k=fb then tc σ H3 λw' H4=>r' y w' H4 Q else Q (.bl fc) H3)
variable {dB:cz}
def Cj(ho:OpR X (ë op) r)(ap:OpR X (ë dB) r')(ha:PE X a ta)(hb:PE X b tb)(hc:PE X c tc)
  (hm:bp [op,dB] [b,c]=fc:=by with_unfolding_all rfl):PE X (.Compare a [op,dB] [b,c] é)<|D3 r r' ta tb tc:=by
 intro Á s σ H Q I h;refine Compare_chain (thn (ha Á s σ H _ I h) λv s1 ⟨x,H1,I1,r1,q1⟩=>chain_link (thn (hb Á s1 σ H1 _ I1 q1) λu s2 ⟨y,H2,I2,r2,q2⟩ =>
   thn (ho Á s2 σ H2 x y v u _ I2 r1 r2 q2) λd s3 ⟨z,H3,I3,r3,k,e,q3⟩=>?_)) hm
 subst e;cases r3;refine Đ ?_;cases k with
 |false=>exact ite_ff ⟨.bl fc,H3,I3,rfl,q3⟩
 |true=>exact ite_tt<|chain_last<|thn (hc Á s3 σ H3 _ I3 q3) λw' s4 ⟨z',H4,I4,r4,q4⟩=>ap Á s4 σ H4 y z' u w' Q I4 r2 r4 q4
def DH(ho:OpR X (ë op) r)(ap:OpR X (ë dB) r')(ha:PE X a ta)(hb:PE X b tb)(hc:PE X c tc)
  (hm:bp [op,dB] [b,c]=fc:=by with_unfolding_all rfl):PT X (.Compare a [op,dB] [b,c] é)<|Hu<|D3 r r' ta tb tc:=by
 intro Á s σ H Q I h;refine isTrue_chain (thn (ha Á s σ H _ I h) λv s1 ⟨x,H1,I1,r1,q1⟩=>test_link (thn (hb Á s1 σ H1 _ I1 q1) λu s2 ⟨y,H2,I2,r2,q2⟩ =>
   thn (ho Á s2 σ H2 x y v u _ I2 r1 r2 q2) λd s3 ⟨z,H3,I3,r3,k,e,q3⟩=>?_)) hm
 subst e;cases r3;refine Đ ?_;cases k with
 |false =>obtain⟨k',e',q'⟩:=q3;cases e';exact ite_ff ⟨H3,I3,q'⟩
 |true =>refine ite_tt<|test_last<|thn (hc Á s3 σ H3 _ I3 q3) λw' s4 ⟨z',H4,I4,r4,q4⟩=>thn (ap Á s4 σ H4 y z' u w' _ I4 r2 r4 q4) λd' s5 ⟨z2,H5,I5,r5,k2,e2,q5⟩=>?_;subst e2;cases r5;exact Đ ⟨H5,I5,q5⟩
abbrev Pw(K:Frag)(x:V)(H:Hp)(k:Bool):Prop :=
 match x with
 |.non=>k=fc
 |.bl b=>k=b
 |.int i=>k=(i != 0)
 |.str y=>y.length<=Õ/\k=((y.length:Int) != 0)
 |.byt y=>y.size<=Õ/\k=((y.size:Int) != 0)
 |.ref p=>(∃xs,gm K H p xs/\k=!xs.isEmpty)\/(∃xs,gp K H p xs/\k=!xs.isEmpty)\/∃kvs,H p=eY (.dK kvs)/\k=!kvs.isEmpty
 |_=>False
def OJ{κ:Type}{kvs:List (κ×V)}{vs:List (κ×Â)}(r:KV kvs vs):(!vs.isEmpty)=!kvs.isEmpty:=by cases r<;>rfl
def Jt{xs:List V}{ð:List Â}(r:gq xs ð):(!ð.toArray.isEmpty)=!xs.isEmpty:=by cases r<;>simp
def Xc:(Õ:Nat)<2 ^ 63:=by rw[ϱ];decide
def HN:Sk X λx H Q=>∃k,Pw X.K x H k/\Q k H:=by
 intro Á s σ H x v Q I rx h;obtain⟨k,e,q⟩:=h;have hl:=Xc;have hs:Õ=16777216:=ϱ;cases x with
 |non =>cases rx;have e':k=fc:=e;subst e';exact truthy_none ⟨H,I,q⟩
 |bl b =>cases rx;have e':k=b:=e;subst e';exact Đ ⟨H,I,q⟩
 |int i =>obtain⟨t,rfl⟩:=rx;have e':k=(i != 0):=e;subst e';exact PySem.P.truthy_int ⟨H,I,q⟩
 |str y =>obtain⟨t,rfl⟩:=rx;obtain⟨hy,e'⟩:y.length<=Õ/\k=((y.length:Int) != 0):=e;subst e';exact PySem.P.truthy_str (by lia) ⟨H,I.tok _,q⟩
 |byt y =>obtain⟨t,rfl⟩:=rx;obtain⟨hy,e'⟩:y.size<=Õ/\k=((y.size:Int) != 0):=e;subst e';exact PySem.W.truthy_bytes (by lia) ⟨H,I.tok _,q⟩
 |ref p =>
  cases rx;have e':(∃xs,gm X.K H p xs/\k=!xs.isEmpty)\/(∃xs,gp X.K H p xs/\k=!xs.isEmpty)\/∃kvs,H p=eY (.dK kvs)/\k=!kvs.isEmpty:=e;rcases e' with⟨xs,hx,e'⟩|⟨xs,hx,e'⟩|⟨kvs,hx,e'⟩
  .subst e';obtain⟨ð,r,pl,hz⟩:=I.list hx;have hlen:=r.length;exact wpAny_truthy_list pl.isList (by simp only[Í];lia) ⟨H,I.tok _,by rw[Jt r];exact q⟩
  .subst e';obtain⟨ð,r,pl,hz⟩:=I.tuple hx;have hlen:=r.length;exact truthy_tuple pl (by simp only[Í];lia) ⟨H,I.tok _,by rw[Jt r];exact q⟩
  .subst e';obtain⟨hz,hS,vs,r,m⟩:kvs.length<=Õ/\(p==Ś)=fc/\∃vs,KV kvs vs/\s.heap.DictOf (Zc X.prog X.w) p vs:=I.hok p _ hx;have hlen:kvs.length=vs.length:=Paired.length r;exact wpAny_truthy_dict hS m (by lia) ⟨H,I.tok _,by rw[OJ r];exact q⟩
 |_=>exact(show False from e).elim
def BL(ha:PE X a ta)(he:∀aB,cy a X.env aB=(do let v<-aB;ϊ a.pos;ņ [v] (truthy v))) :
  PT X a (λσ H Q=>ta σ H λx H'=>∃k,Pw X.K x H' k/\Q k H'):=by
 intro Á s σ H Q I h;exact isTrue_plain (thn (ha Á s σ H _ I h) λv s1 ⟨x,H1,I1,r1,q1⟩=>HN Á s1 σ H1 x v Q I1 r1 q1)<|he _
def Od:OpR X (ŉ .Add) λx y H Q=>∃i j,x=.str i/\y=.str j/\i.length+j.length<=Õ/\Q (.str<|i++j) H:=by intro Á s σ H x y v u Q I rx ry h;obtain⟨i,j,rfl,rfl,hz,q⟩:=h;obtain⟨t,rfl⟩:=rx;obtain⟨t',rfl⟩:=ry;exact add_str (λt' tk=>⟨.str<|i++j,H,I.tok _,⟨_,rfl⟩,q⟩) hz
variable {x:V} {us:List Â}
def ZL(r:gq [x] us):∃u,us=[u]/\RelV x u:=by
 cases r with
 |cons r1 r2=>cases r2;exact⟨_,rfl,r1⟩
def Ua{y:V}(r:gq [x,y] us):∃u w',us=[u,w']/\RelV x u/\RelV y w':=by
 cases r with
 |cons r1 r2 =>
  cases r2 with
  |cons r3 r4=>cases r4;exact⟨_,_,rfl,r1,r3⟩
def AI(hc:X.calm=fb):fm X (.builtin "max") λxs H Q=>∃i j,xs=[.int i,.int j]/\Q (.int<|if j > i then j else i) H:=by
 intro Á s σ H xs us Q I r h;obtain⟨i,j,rfl,q⟩:=h;obtain⟨u,w',rfl,⟨t,rfl⟩,⟨t',rfl⟩⟩:=Ua r;refine max_two_ints (I.ok.hd hc) λh' tk k=>⟨_,H,I.kept k,?_,q⟩
 by_cases hj:j > i
 .rw[gD hj,gD hj];exact⟨_,rfl⟩
 .rw[gE hj,gE hj];exact⟨_,rfl⟩
def AX(hc:X.calm=fb):fm X (.builtin "min") λxs H Q=>∃i j,xs=[.int i,.int j]/\Q (.int<|if j<i then j else i) H:=by
 intro Á s σ H xs us Q I r h;obtain⟨i,j,rfl,q⟩:=h;obtain⟨u,w',rfl,⟨t,rfl⟩,⟨t',rfl⟩⟩:=Ua r;refine min_two_ints (I.ok.hd hc) λh' tk k=>⟨_,H,I.kept k,?_,q⟩
 by_cases hj:j<i
 .rw[gD hj,gD hj];exact⟨_,rfl⟩
 .rw[gE hj,gE hj];exact⟨_,rfl⟩
def call_int1:fm X (.type "int") λxs H Q=>(∃i,xs=[.int i]/\Q (.int i) H)\/∃k,xs=[.bl k]/\Q (.int<|if k then 1 else 0) H:=by
 intro Á s σ H xs us Q I r h;rcases h with⟨i,rfl,q⟩|⟨k,rfl,q⟩
 .obtain⟨u,rfl,t,rfl⟩:=ZL r;exact call_int_int ⟨.int i,H,I,⟨_,rfl⟩,q⟩
 .obtain⟨u,rfl,r1⟩:=ZL r;cases r1;exact call_int_bool ⟨.int (if k then 1 else 0),H,I.tok _,⟨_,rfl⟩,q⟩
end
structure ObjM(h:ă)(x dx C:È)(mA:Str->Option Â):Prop where
 obj:h.get? x=eY (PySem.W.instObj C dx)
 ns:h.Ns1 dx mA
 ne:dx≠x
variable {h:ă} {dx:È} {mA:Str->Option Â}
def AC(n:h.Ns1 dx mA):∃od,h.get? dx=eY od/\∀name,PySem.W.lookIn name od=eY (mA name):=by
 obtain⟨o,es,ep,ho,hd,hk,_,hm⟩:=n;refine⟨o,ho,λname=>?_⟩;have e:=hm name;unfold nsFind findBy at e;rw[<-Array.find?_toList]at e;unfold PySem.W.lookIn;rw[hd];dsimp only;split
 .rename_i y q;rw[q]at e;exact congrArg eY e
 .rename_i q;rw[q]at e;have a:es.toList.any (·.refKey)=fc:=by
   rw[List.any_eq_false];intro y hy;obtain⟨z,t,dC⟩:=hk y<|Array.mem_toList_iff.mp hy;simp[DictEntry.refKey,dC]
  have a':¬ es.toList.any (·.refKey)=fb:=by rw[a];exact ù
  rw[gE a'];exact congrArg eY e
variable {C:È}
def ObjM.look{x:È}(I:ObjM h x dx C mA):∃od,PySem.W.InstAt h x (PySem.W.instObj C dx) C (eY od)/\∀name,PySem.W.lookIn name od=eY (mA name) :=
 let ⟨od,ho,hl⟩:=AC I.ns
 ⟨od,⟨I.obj,rfl,rfl,ho⟩,hl⟩
section
variable {prog:â}{w:ô}{A:Ą}{E:Â->Å->Prop}{s:Å}{K:Frag}{x dx C f:È}{mA:Str->Option Â}{name:Str}{v:Â}
def GK{expr:Bool}{Q:Â->Å->Prop}(X:K.In s.heap)(I:ObjM s.heap x dx C mA)(hg:PySem.W.plainGet K C name=fb)(hh:PySem.W.hasDictIn K C=fb)
  (ha:PySem.W.findIn K (.ref C) name=eY eZ) (hv:mA name=eY v) (hv':PySem.W.handedIn v=fb) (h:Q v {s with toks:=s.toks+1}) :
  wpAny (Ù prog w) A (getAttr (.ref x) name expr) Q E s:=by
 obtain⟨od,J,hl⟩:=I.look;exact PySem.W.get_value X J (PySem.W.plainGet_of hg).1 (PySem.W.findObj_own hh ha rfl<|by rw[hl,hv]) hv' h
def Cl{pl:Sem Bool}{Q:Â×List Â->Å->Prop}(X:K.In s.heap)(I:ObjM s.heap x dx C mA)(hg:PySem.W.plainGet K C name=fb)
  (hf:PySem.W.findIn K (.ref C) name=eY (eY<|.ref f)) (ht:PySem.W.isFn K (.ref f)=fb) (hv:mA name=eZ) (h:Q (.ref f,[.ref x]) s) :
  wpAny (Ù prog w) A (ϗ (.ref x) name pl) Q E s:=by
 obtain⟨od,J,hl⟩:=I.look;exact PySem.W.method_fn X J (PySem.W.plainGet_of hg).1 (PySem.W.plainGet_of hg).2 hf (beq_iff_eq.mp ht) (by show(PySem.W.lookIn name od).map (·.isSome)=eY fc;rw[hl,hv];rfl) h
def EU{ns:List Str}{Q:Unit->Å->Prop}(X:K.In s.heap)(I:ObjM s.heap x dx C mA)
  (hs:PySem.W.findIn K (.ref C) "__setattr__" = eY (eY<|.builtin "object.__setattr__")) (hp:PySem.W.plainOver K C=fb) (ht:PySem.W.takerIn K C name=eY eZ) (hh:PySem.W.hasDictIn K C=fb)
  (hw:PySem.Within mA ns) (hsz:ns.length<=Õ)
  (h:∀h',ObjM h' x dx C (λy=>if y=name then eY v else mA y)->Ţ dx s.heap h'->Q () {s with heap:=h',toks:=s.toks+2}) :
  wpAny (Ù prog w) A (setAttr (.ref x) name v) Q E s:=by
 obtain⟨od,J,hl⟩:=I.look;refine PySem.W.set_plain X J hs<|PySem.W.osa_open (s:={s with toks:=s.toks+1}) (r:=eZ) X J hp ht λb=>?_;obtain⟨cd,hc,hd'⟩:=PySem.W.any_some hh;have hx:s.heap.get? x=eY ⟨.ref C,eY dx,.plain,#[]⟩:=I.obj;refine À<|Æ<|À<|À<|wpAny_loadPart hx<|À<|PySem.W.Looks.here (s:={s with toks:=s.toks+1}) (PySem.W.looks_clsIn X hc) ?_;rw[hd'];refine Æ (a:=eY dx)<|À<|Æ<|À ?_;refine wpAny_nsSet1 (s:={s with toks:=s.toks+1}) I.ns λh' hn2 hs2=>?_;obtain⟨oD,esD,epD,hoD,hdD,hcD⟩:=hn2.count<|PySem.Within.cons name v hw;refine À (wpAny_lookBehind hoD (by rw[hdD];exact pastItsLine_dict<|ß hcD<|by rw[Ë];lia) ?_);exact Æ<|h _ ⟨(hs2.2 _<|Ne.symm I.ne).trans I.obj,hn2,I.ne⟩ hs2
def Ce{R:aq->Å->Prop}{vs:List Â}{kw:List (Str×Â)}(X:K.In s.heap)(hm:PySem.W.makesIn K C=fb)
  (hi:PySem.W.findIn K (.ref C) "__init__" = eY (eY<|.ref f)) (hf:PySem.W.typeIn K (.ref f)=eY (.type "function"))
  (h:codeAny (Ù prog w) (A.under<|.builtin "type.__call__" ⟨.ref C::vs,kw⟩) (.call (.ref f) ⟨.ref (s.heap.objs.size+1)::vs,kw⟩) (PySem.W.InitBack (s.heap.objs.size+1) R)
    { s with heap:=(s.heap.push PySem.W.emptyDict).push (PySem.W.instObj C s.heap.objs.size) }) :
  codeAny (Ù prog w) A (.call (.ref C) ⟨vs,kw⟩) R s:=by
 obtain⟨hh,g,d,t,os⟩:=s;exact PySem.W.make_core (PySem.W.makes_of X hm) (PySem.W.looks_findIn X hi) (λself=>PySem.W.bind_fn X self hf) (.inl rfl) h
end
abbrev fy(f:Str)(v:V):List (Str×V)->List (Str×V)
 |[]=>[(f,v)]
 |(g,x)::r=>if g=f then(g,v)::r else(g,x)::fy f v r
def Ws(f g:Str)(v:V):∀fs:List<|Str×V,(fy f v fs).lookup g=if g=f then eY v else fs.lookup g
 |[]=>by
  show ν g [(f,v)]=_;by_cases h:g=f
  .have hb:(g==f)=fb:=beq_iff_eq.mpr h;simp only[ν,hb,gD h]
  .have hb:(g==f)=fc:=beq_eq_false_iff_ne.mpr h;simp only[ν,hb,gE h]
 |(k,x)::r=>by
  have ih:=Ws f g v r;rw[show fy f v ((k,x)::r)=(if k=f then(k,v)::r else(k,x)::fy f v r) from rfl];by_cases hk:k=f
  .rw[gD hk];by_cases h:g=k
   .have hb:(g==k)=fb:=beq_iff_eq.mpr h;simp only[ν,hb,gD<|h.trans hk]
   .have hb:(g==k)=fc:=beq_eq_false_iff_ne.mpr h;simp only[ν,hb,gE λe:g=f=>h<|e.trans hk.symm]
  .rw[gE hk];by_cases h:g=k
   .have hb:(g==k)=fb:=beq_iff_eq.mpr h;simp only[ν,hb,gE λe:g=f=>hk<|h.symm.trans e]
   .have hb:(g==k)=fc:=beq_eq_false_iff_ne.mpr h;simp only[ν,hb];exact ih
def Wp(f:Str)(v:V):∀fs:List<|Str×V,f∈(fy f v fs).map (·.1)/\∀g,g∈fs.map (·.1)->g∈(fy f v fs).map (·.1)
 |[]=>⟨by simp[fy],λg h=>by simp at h⟩
 |(k,x)::r=>by
  obtain⟨i1,i2⟩:=Wp f v r;rw[show fy f v ((k,x)::r)=(if k=f then(k,v)::r else(k,x)::fy f v r) from rfl];by_cases hk:k=f
  .rw[gD hk];subst hk;exact⟨by simp,λg h=>by simpa using h⟩
  .rw[gE hk];refine⟨?_,λg h=>?_⟩
   .rw[Ï];exact Þ _ i1
   .rw[Ï]at h ⊢;rcases Ç.mp h with e|e
    .exact Ç.mpr<|.inl e
    .exact Þ _<|i2 g e
def Wv(f:Str)(v:V):∀fs:List<|Str×V,(fy f v fs).length<=fs.length+1
 |[]=>by simp[fy]
 |(k,x)::r=>by
  have ih:=Wv f v r;rw[show fy f v ((k,x)::r)=(if k=f then(k,v)::r else(k,x)::fy f v r) from rfl];by_cases hk:k=f
  .rw[gD hk,Ë,Ë];lia
  .rw[gE hk,Ë,Ë];lia
variable {o:Option Â}
def fK.some_of{v:V}(r:fK (eY v) o):∃u,o=eY u/\RelV v u:=by
 cases o with
 |none=>exact(show False from r).elim
 |some u=>exact⟨u,rfl,r⟩
def fK.none_of(r:fK eZ o):o=eZ:=by
 cases o with
 |none=>rfl
 |some u=>exact(show False from r).elim
variable {u:Â}
def A3{v:V}(r:RelV v u):PySem.W.handedIn u=fb:=by
 cases v with
 |non=>cases (show u=Value.none from r);rfl
 |bl b=>cases (show u=Value.bool b from r);rfl
 |int i=>obtain⟨t,e⟩:=(show ∃t,u=Value.int i t from r);cases e;rfl
 |str x=>obtain⟨t,e⟩:=(show ∃t,u=Value.str x t from r);cases e;rfl
 |byt b=>obtain⟨t,e⟩:=(show ∃t,u=Value.bytes b t from r);cases e;rfl
 |flt b=>obtain⟨t,e⟩:=(show ∃t,u=Value.float b t from r);cases e;rfl
 |ref a=>cases (show u=Value.ref a from r);rfl
 |ty n=>cases (show u=Value.type n from r);rfl
section
variable {P:â}{w:ô}{H H':Hp}{h h':ă}{a C dx:È}{fs d6:List (Str×V)}
def WG(hok:HOk P w H h)(e:H a=eY (.ins C dx fs)):∃mA,ObjM h a dx C mA/\(∀f,fK (fs.lookup f)<|mA f)/\PySem.Within mA (fs.map (·.1))/\fs.length<=1000/\H dx=eY (.own a):=by
 obtain⟨d,z,ne,ob,mA,n,r,q⟩:=(show fo P w H h a (.ins C dx fs) from hok a _ e)
 exact⟨mA,⟨ob,n,ne⟩,r,q,z,d⟩
end
structure Cls(K:Frag)(C:È):Prop where
 pg:PySem.W.plainGet K C Str.empty=fb
 hd:PySem.W.hasDictIn K C=fb
 po:PySem.W.plainOver K C=fb
 sa:PySem.W.findIn K (.ref C) "__setattr__" = eY (eY<|.builtin "object.__setattr__")
def Cls.get{K:Frag}(c:Cls K C)(f:Str):PySem.W.plainGet K C f=fb:=c.pg
abbrev NoAttr(K:Frag)(C:È)(f:Str):Prop:=PySem.W.findIn K (.ref C) f=eY eZ
def NoAttr.taker{K:Frag}{f:Str}(n:NoAttr K C f):PySem.W.takerIn K C f=eY eZ:=by unfold PySem.W.takerIn;rw[show PySem.W.findIn K (.ref C) f=eY eZ from n];rfl
structure Meth(K:Frag)(C:È)(m:Str)(f:È):Prop where
 at_:PySem.W.findIn K (.ref C) m=eY (eY<|.ref f)
 fn:PySem.W.isFn K (.ref f)=fb
 kp:PySem.W.keepIn K (.ref f)=fb
section
variable {X:Cx}{Á:List (È×Obj)}{σ:St}{H:Hp}{s:Å}{a C dx:È}{fs:List (Str×V)}{f:Str}{v:V}{A:Ą}{E:Â->Å->Prop}
variable {Q:Â->Å->Prop}
def Js{b:Bool}(I:Inv X Á σ H s)(e:H a=eY (.ins C dx fs))(c:Cls X.K C)(n:NoAttr X.K C f)(l:fs.lookup f=eY v)
  (h:∀u s',Inv X Á σ H s'->RelV v u->Q u s'):wpAny (Ù X.prog X.w) A (getAttr (.ref a) f b) Q E s:=by
 obtain⟨mA,O,r,_,_,_⟩:=WG I.hok e;obtain⟨u,hu,ru⟩:=fK.some_of (v:=v) (o:=mA f) (by rw[<-l];exact r f);exact GK I.kIn O (c.get f) c.hd n hu (A3 ru)<|h u _ (I.tok _) ru
def Jh{m:Str}{g:È}{pl:Sem Bool}{Q:Â×List Â->Å->Prop}(I:Inv X Á σ H s)(e:H a=eY (.ins C dx fs))(c:Cls X.K C)(k:Meth X.K C m g)(l:fs.lookup m=eZ)
  (h:Q (.ref g,[.ref a]) s):wpAny (Ù X.prog X.w) A (ϗ (.ref a) m pl) Q E s:=by
 obtain⟨mA,O,r,_,_,_⟩:=WG I.hok e;have hn:mA m=eZ:=fK.none_of (by rw[<-l];exact r m);exact Cl I.kIn O (c.get m) k.at_ k.fn hn h
def Jd{y:V}{Q:Unit->Å->Prop}(I:Inv X Á σ H s)(e:H a=eY (.ins C dx fs))(c:Cls X.K C)(n:NoAttr X.K C f)(hl:fs.length<1000)(ry:RelV y u)
  (h:∀s',Inv X Á σ (upd H a<|.ins C dx<|fy f y fs) s'->Q () s'):wpAny (Ù X.prog X.w) A (setAttr (.ref a) f u) Q E s:=by
 obtain⟨mA,O,r,wi,_,ho⟩:=WG I.hok e;have hz:(fs.map (·.1)).length<=Õ:=by rw[Ã,ϱ];lia
 refine EU I.kIn O c.sa c.po n.taker c.hd wi hz λh' O' sb=>h _ ?_;have hd:∃o,h'.get? dx=eY o:=let ⟨o,_,_,e',_⟩:=O'.ns;⟨o,e'⟩;refine I.write (x:=a) (e:=dx) (by rw[e];exact True.intro) (.inr ho) (λb q hb z=>(sb.2 b hb).trans z) hd ?_;refine⟨by rw[fe O.ne];exact ho,?_,O.ne,O'.obj,_,O'.ns,λg=>?_,λg hg=>?_⟩
 .have:=Wv f y fs;lia
 .show fK ((fy f y fs).lookup g) (if g=f then eY u else mA g);rw[Ws];by_cases q:g=f
  .rw[gD q,gD q];exact ry
  .rw[gE q,gE q];exact r g
 .by_cases q:g=f
  .rw[q];exact(Wp f y fs).1
  .refine(Wp f y fs).2 g<|wi g λz=>hg ?_;show(if g=f then eY u else mA g)=eZ;rw[gE q];exact z
def Inv.made(I:Inv X Á σ H s):Inv X Á σ (upd (upd H s.heap.objs.size<|.own<|s.heap.objs.size+1) (s.heap.objs.size+1)<|.ins C s.heap.objs.size [])
  {s with heap:=(s.heap.push PySem.W.emptyDict).push (PySem.W.instObj C s.heap.objs.size)}:=by
 have e1:(s.heap.push PySem.W.emptyDict).get? s.heap.objs.size=eY PySem.W.emptyDict:=Ð s.heap rfl;have e2:((s.heap.push PySem.W.emptyDict).push<|PySem.W.instObj C s.heap.objs.size).get? (s.heap.objs.size+1)=eY (PySem.W.instObj C s.heap.objs.size):=by
  have:=Ð (s.heap.push PySem.W.emptyDict) (o:=PySem.W.instObj C s.heap.objs.size) rfl
  rwa [ŵ]at this
 have e3:(s.heap.push PySem.W.emptyDict).Ns s.heap.objs.size λ_=>eZ:=⟨PySem.W.emptyDict,#[],_,e1,rfl,(λe he=>gJ he<|by simp),λ_=>rfl⟩
 have I1:=I.laid (a:=s.heap.objs.size) (o:=.own<|s.heap.objs.size+1) (h':=s.heap.push PySem.W.emptyDict) (t':=s.toks) (λb u q=>Ä _ q) (Ì _) ⟨_,e1⟩;refine I1.laid (a:=s.heap.objs.size+1) (o:=.ins C s.heap.objs.size []) (t':=s.toks) (λb u q=>Ä _ q) (Nat.le_of_eq<|ŵ _ _) ?_;have ne:s.heap.objs.size≠s.heap.objs.size+1:=Ý<|Ğ _;refine⟨by rw[fe ne,ff],ğ _,ne,e2,λ_=>eZ,(Heap.Ns1.of_empty e3).at λo q=>Ä _ q,λ_=>True.intro,λy hy=>gJ rfl hy⟩
def EK{prog:â}{w:ô}{env:Env}{e:Expr}{é:Pos}(hb:Ĩ e f env (eval e env)=eval e env)
  (h:wpAny (Ù prog w) A (eval e env) (λo ĝ=>wpAny (Ù prog w) A (getAttr o f fb) Q E ĝ) E s):wpAny (Ù prog w) A (eval (.Attribute e f é) env) Q E s :=
 Attribute_any_ h (by rw[arm_eval_Attribute,hb])
end
abbrev Sf(K:Frag)(ta:TE)(f:Str):TE:=λσ H Q=>ta σ H λx H1=>∃a C dx fs v,x=.ref a/\H1 a=eY (.ins C dx fs)/\Cls K C/\NoAttr K C f/\fs.lookup f=eY v/\Q v H1
abbrev Ry(K:Frag)(ta tv:TE)(f:Str):TS:=λD σ H=>tv σ H λy H1=>ta σ H1 λx H2=>∃a C dx fs,x=.ref a/\H2 a=eY (.ins C dx fs)/\Cls K C/\NoAttr K C f/\fs.length<1000/\
 D.nx σ (upd H2 a<|.ins C dx<|fy f y fs)
abbrev DY(X:Cx)(op:ϖ)(rd:V->V->Hp->VK->Prop):Prop :=
 ∀(Á:List<|È×Obj) (s:Å) (σ:St) (H:Hp) (x y:V) (u v:Â) (Q:VK),Inv X Á σ H s->RelV x u->RelV y v->rd x y H Q->wpAny (Ù X.prog X.w) X.A (inplaceOp op u v) (EP X Á σ Q) X.xe s
abbrev Fo(K:Frag)(ta tv:TE)(rd:V->V->Hp->VK->Prop)(f:Str):TS:=λD σ H=>ta σ H λx H1=>∃a C dx fs v,x=.ref a/\H1 a=eY (.ins C dx fs)/\Cls K C/\NoAttr K C f/\fs.lookup f=eY v/\
 tv σ H1 λy H2=>rd v y H2 λz H3=>∃dx' d6,H3 a=eY (.ins C dx' d6)/\d6.length<1000/\D.nx σ (upd H3 a<|.ins C dx'<|fy f z d6)
section
variable {X:Cx}{o e ρ:Expr}{f:Str}{é bz cP:Pos}{ta tv:TE}
def IE(he:PE X e ta)(hb:Ĩ e f X.env (eval e X.env)=eval e X.env):PE X (.Attribute e f é)<|Sf X.K ta f:=by intro Á s σ H Q I h;refine EK hb<|thn (he Á s σ H _ I h) λu s1 ⟨x,H1,I1,rx,a,C,dx,fs,v,ex,ea,c,n,l,q⟩=>?_;subst ex;obtain rfl:u=Value.ref a:=rx;exact Js I1 ea c n l λu' s2 I2 ru=>⟨v,H1,I2,ru,q⟩
def Ia(ha:PE X o ta)(hv:PE X ρ tv)(hs:ź ρ (eY<|.Attribute o f bz) é.line X.env=pure fc):PS X (.Assign [.Attribute o f bz] ρ é)<|Ry X.K ta tv f:=by intro Á s σ H D I h;refine plainObj_wpAny_Assign_Attribute (thn (hv Á s σ H _ I h) λu s1 ⟨y,H1,I1,ry,q⟩=>thn (ha Á s1 σ H1 _ I1 q) λov s2 ⟨x,H2,I2,rx,a,C,dx,fs,ex,ea,c,n,l,q2⟩=>?_) hs;subst ex;obtain rfl:ov=Value.ref a:=rx;exact Jd I2 ea c n l ry λs3 I3=>⟨σ,_,I3,q2⟩
def Av{op:ϖ}{rd:V->V->Hp->VK->Prop}(ha:PE X o ta)(hv:PE X ρ tv)(hop:DY X op rd):PS X (.AugAssign (.Attribute o f cP) op ρ é)<|Fo X.K ta tv rd f:=by intro Á s σ H D I h;refine wpAny_AugAssign_AttributeAny<|thn (ha Á s σ H _ I h) λov s1 ⟨x,H1,I1,rx,a,C,dx,fs,v,ex,ea,c,n,l,q⟩=>?_;subst ex;obtain rfl:ov=Value.ref a:=rx;refine Js I1 ea c n l λu s2 I2 ru=>thn (hv Á s2 σ H1 _ I2 q) λw3 s3 ⟨y,H2,I3,ry,q3⟩=>thn (hop Á s3 σ H2 v y u w3 _ I3 ru ry q3) λw4 s4 ⟨z,H3,I4,rz,dx',d6,ea',l',q4⟩=>?_;exact Jd I4 ea' c n l' rz λs5 I5=>⟨σ,_,I5,q4⟩
abbrev R4:V->V->Hp->VK->Prop:=λx y H Q=>∃i j,x=.int i/\y=.int j/\Q (.int<|i+j) H
abbrev R5:V->V->Hp->VK->Prop:=λx y H Q=>∃i j,x=.int i/\y=.int j/\Q (.int<|i - j) H
def LM:DY X .Add R4:=by
 rintro Á s σ H x y u v Q I rx ry ⟨i,j,rfl,rfl,q⟩;obtain⟨t,rfl⟩:=(show ∃t,u=Value.int i t from rx)
 obtain⟨t',rfl⟩:=(show ∃t',v=Value.int j t' from ry)
 exact PyProof.Rows.iadd_int ⟨.int<|i+j,H,I.tok _,⟨_,rfl⟩,q⟩
def Ls:DY X .Sub R5:=by
 rintro Á s σ H x y u v Q I rx ry ⟨i,j,rfl,rfl,q⟩;obtain⟨t,rfl⟩:=(show ∃t,u=Value.int i t from rx)
 obtain⟨t',rfl⟩:=(show ∃t',v=Value.int j t' from ry)
 exact PyProof.Rows.isub_int ⟨.int<|i - j,H,I.tok _,⟨_,rfl⟩,q⟩
end
section
variable {X:Cx}{Á:List (È×Obj)}{σ:St}{H:Hp}{s:Å}{A:Ą}{E:Â->Å->Prop}{Q:Â->Å->Prop}{c:Â}{b:Bool}
inductive gf (K:Frag) (H:Hp):V->Â->Prop where
 |non:gf K H .non<|.type "NoneType"
 |bl (x:Bool):gf K H (.bl x)<|.type "bool"
 |int (i:Int):gf K H (.int i)<|.type "int"
 |str (x:Str):gf K H (.str x)<|.type "str"
 |flt (x:UInt64):gf K H (.flt x)<|.type "float"
 |lst {a:È}{xs:List V}(e:H a=eY (.lst xs)):gf K H (.ref a)<|.type "list"
 |frz {a:È}{o:Obj}{xs:List V}(e:H a=eY (.frz o<|.lst xs)):gf K H (.ref a)<|.type "list"
 |tup {a:È}{xs:List V}(e:H a=eY (.tup xs)):gf K H (.ref a)<|.type "tuple"
 |dK {a:È}{kvs:List (Key×V)}(e:H a=eY (.dK kvs)):gf K H (.ref a)<|.type "dict"
 |dT {a:È}{kvs:List (List Key×V)}(e:H a=eY (.dT kvs)):gf K H (.ref a)<|.type "dict"
 |ins {a C dx:È}{fs:List (Str×V)}(e:H a=eY (.ins C dx fs)) (cl:Cls K C) (ha:PySem.W.findIn K (.ref C) "__class__" = eY (eY<|.builtin "object.__class__"))
   (hn:PySem.W.specialIn K (.builtin "object.__class__") "__get__" = eY (eY<|.builtin "getset_descriptor.__get__")) (htk:PySem.W.takesIn K (.builtin "object.__class__")=eY fb)
   (hm:PySem.W.mroIn K C (.type "object")=eY fb):gf K H (.ref a)<|.ref C
def Ag{x:V}{t:Â}(I:Inv X Á σ H s)(rx:RelV x u)(ty:gf X.K H x t)(e:PySem.W.kitOne X.K t c=eY b)(h:∀tk,Q (.bool b) {s with toks:=tk}) :
  wpAny (Ù X.prog X.w) A (call (.builtin "isinstance") [u,c]) Q E s:=by
 cases ty with
 |non=>cases (show u=Value.none from rx);exact PySem.W.kia_one PySem.W.kitx_none I.kIn True.intro e (λz=>nomatch z) h
 |bl y=>cases (show u=Value.bool y from rx);exact PySem.W.kia_one PySem.W.kitx_bool I.kIn True.intro e (λz=>nomatch z) h
 |int i=>obtain⟨t,q⟩:=(show ∃t,u=Value.int i t from rx);cases q;exact PySem.W.kia_one PySem.W.kitx_int I.kIn True.intro e (λz=>nomatch z) h
 |str y=>obtain⟨t,q⟩:=(show ∃t,u=Value.str y t from rx);cases q;exact PySem.W.kia_one PySem.W.kitx_str I.kIn True.intro e (λz=>nomatch z) h
 |flt y=>obtain⟨t,q⟩:=(show ∃t,u=Value.float y t from rx);cases q;exact PySem.W.kia_one PySem.W.kitx_float I.kIn True.intro e (λz=>nomatch z) h
 |@lst a xs ea =>
  cases (show u=Value.ref a from rx);obtain⟨_,_,n,_,h1⟩:=(show fo X.prog X.w H s.heap a (.lst xs) from I.hok a _ ea)
  exact PySem.W.kia_one PySem.W.kitx_list I.kIn ⟨_,h1,rfl⟩ e (λz=>nomatch z) h
 |@frz a ob xs ea =>
  cases (show u=Value.ref a from rx);obtain⟨_,_,_,n,_,h1⟩:=(show fo X.prog X.w H s.heap a (.frz ob<|.lst xs) from I.hok a _ ea)
  exact PySem.W.kia_one PySem.W.kitx_list I.kIn ⟨_,h1,rfl⟩ e (λz=>nomatch z) h
 |@tup a xs ea =>
  cases (show u=Value.ref a from rx);obtain⟨_,_,_,p⟩:=(show fo X.prog X.w H s.heap a (.tup xs) from I.hok a _ ea)
  obtain⟨o,h1,h2,_⟩:=p;exact PySem.W.kia_one PySem.W.kitx_tuple I.kIn ⟨o,h1,h2⟩ e (λz=>nomatch z) h
 |@dK a kvs ea =>
  cases (show u=Value.ref a from rx);obtain⟨_,_,vs,_,p⟩:=(show fo X.prog X.w H s.heap a (.dK kvs) from I.hok a _ ea)
  obtain⟨o,es,ep,h1,h2,_⟩:=p;exact PySem.W.kia_one PySem.W.kitx_dict I.kIn ⟨o,h1,h2.1⟩ e (λz=>nomatch z) h
 |@dT a kvs ea =>
  cases (show u=Value.ref a from rx);obtain⟨_,_,xs,_,o,es,ep,h1,h2,_⟩:=(show fo X.prog X.w H s.heap a (.dT kvs) from I.hok a _ ea)
  exact PySem.W.kia_one PySem.W.kitx_dict I.kIn ⟨o,h1,h2.1⟩ e (λz=>nomatch z) h
 |@ins a C dx fs ea cl ha hn htk hm =>cases (show u=Value.ref a from rx);obtain⟨mA,O,_⟩:=WG I.hok ea;obtain⟨od,J,_⟩:=O.look;exact PySem.W.kia_one (PySem.W.kitx_own (cl.get _) cl.hd ha hn htk hm) I.kIn J e (λz=>nomatch z) h
end
structure fL(k:Nat)(A:Ą):Prop where
 hd:A.handled=eZ
 dp:A.depth+3*k+5<recursionLimit
 un:A.units+16*k+200<ĩ
variable {j:Nat} {A:Ą}
def fL.mono{k:Nat}(r:fL k A)(h:j<=k):fL j A:=⟨r.hd,by have:=r.dp;lia,by have:=r.un;lia⟩
def fL.deeper{k:Nat}(r:fL (k+1) A)(env:Env):fL k (A.deeper env) :=
 ⟨r.hd,by have:=r.dp;show A.depth+1+3*k+5<_;lia,by have:=r.un;show A.units+3+16*k+200<_;lia⟩
def fL.in1{k:Nat}(r:fL (k+1) A):fL k A.in1 :=
 ⟨r.hd,by have:=r.dp;show A.depth+3*k+5<_;lia,by have:=r.un;show A.units+1+16*k+200<_;lia⟩
variable {C:È} {us:List Â} {kw:List (Str×Â)}
def Op:(A.under<|.builtin "type.__call__" ⟨.ref C::us,kw⟩).depth=A.depth+1:=by
 first|rfl|simp[bH,Code.weight,Code.isCreation,Code.isGuard,Code.isCaller,Code.frames,b6,guardIds]
def Oz:(A.under<|.builtin "type.__call__" ⟨.ref C::us,kw⟩).units=A.units+1:=by
 first|rfl|simp[bH,Code.cUnits,Code.frames,b6]
def fL.make{k:Nat}(r:fL (k+1) A)(C:È)(us:List Â)(kw:List<|Str×Â):fL k (A.under<|.builtin "type.__call__" ⟨.ref C::us,kw⟩) :=
 ⟨r.hd,by have:=r.dp;rw[Op];lia,by have:=r.un;rw[Oz];lia⟩
def fL.depth{k:Nat}(r:fL k A):A.depth<recursionLimit:=by have:=r.dp;lia
def fL.units{k:Nat}(r:fL k A):A.units+64<ĩ:=by have:=r.un;lia
abbrev Fd:TA:=λ_ H Q=>Q [] H
abbrev GR(ta:TE)(tr:TA):TA:=λσ H Q=>ta σ H λx H1=>tr σ H1 λxs H2=>Q (x::xs) H2
section
variable {X:Cx}{e:Expr}{es:List Expr}{te:TE}{t:TA}{é:Pos}
def gj:PA X [] Fd:=λ_ _ _ _ H Q I h=>Calls.spliced_nil ⟨[],H,I,.nil,h⟩
def ZJ(ha:PE X e te)(hr:PA X es t)(hs:Ô (e::es) X.env=(fc,eval e X.env)::Ô es X.env:=by rfl):PA X (e::es)<|GR te t:=by intro é Á s σ H Q I h;rw[hs];show wpAny _ _ (spliced<|(fc,eval e X.env)::Ħ é (Ô es X.env)) _ _ s;refine Calls.spliced_cons<|thn (ha Á s σ H _ I h) λu s1 ⟨x,H1,I1,r1,q1⟩=>?_;exact thn (hr é Á s1 σ H1 _ I1 q1) λus s2 ⟨xs,H2,I2,r2,q2⟩=>⟨x::xs,H2,I2,.cons r1 r2,q2⟩
abbrev RF(t:TA):TE:=λσ H Q=>t σ H λxs H1=>xs.length<=Õ/\∀p,H1 p=eZ->Q (.ref p) (upd H1 p<|.tup xs)
abbrev RL(t:TA):TE:=λσ H Q=>t σ H λxs H1=>xs.length<=Õ/\∀p,H1 p=eZ->Q (.ref p) (upd H1 p<|.lst xs)
def Le{x1}(h:PA X es t):PE X (.Tuple es x1 é)<|RF t:=by intro Á s σ H Q I hq;refine wpAny_Tuple_spliced (thn (h é Á s σ H _ I hq) λus s1 ⟨xs,H1,I1,r,z,q⟩=>⟨by rw[<-r.length];exact z,?_⟩);have hf:H1 s1.heap.objs.size=eZ:=I1.hok.fresh<|Ì _;refine⟨.ref s1.heap.objs.size,upd H1 s1.heap.objs.size<|.tup xs,I1.laid (t':=s1.toks) (λb u e=>Ä _ e) (Ì _) ?_,rfl,q _ hf⟩;exact⟨z,us,r,⟨_,Ð _ rfl,rfl,_,rfl⟩⟩
def HC(h:PA X es t):PE X (.List es é)<|RL t:=by intro Á s σ H Q I hq;refine wpAny_List_spliced (thn (h é Á s σ H _ I hq) λus s1 ⟨xs,H1,I1,r,z,q⟩=>⟨by rw[<-r.length];exact z,?_⟩);have hf:H1 s1.heap.objs.size=eZ:=I1.hok.fresh<|Ì _;refine⟨.ref s1.heap.objs.size,upd H1 s1.heap.objs.size<|.lst xs,I1.laid (t':=s1.toks) (λb u e=>Ä _ e) (Ì _) ?_,rfl,q _ hf⟩;exact⟨z,us,0,r,Ð _ rfl⟩
end
noncomputable abbrev Sp:=List V->Hp->VK->XK->Prop
noncomputable abbrev CXT:=List Env->Hp->Å->XK->Â->Å->Prop
structure Env0(P:â)(w:ô)(K:Frag)(mg:Str->Option Â)(base:ă)(A:Ą)(outer:List Env)(s:Å)(H:Hp):Prop where
 frames:A.frames=eY outer
 mod:Mod K mg base
 bs:∀b o,base.get? b=eY o->s.heap.get? b=eY o/\H b=eZ
 bsz:base.objs.size<=s.heap.objs.size
 funs:s.heap.FunFrames base outer
 frf:∀b∈frs outer,H b=eZ
 hok:HOk P w H s.heap
 bare:Ψ s.gens
abbrev CE(outer:List Env)(P:â)(w:ô)(H:Hp)(s:Å)(Q:VK)(u:Â)(s':Å):Prop :=
 ∃v H',s'.os=s.os/\Ψ s'.gens/\Un (frs outer) [] H H' s.heap s'.heap/\HOk P w H' s'.heap/\RelV v u/\Q v H'
abbrev CR(CX:CXT)(outer:List Env)(P:â)(w:ô)(H:Hp)(s:Å)(Q:VK)(E:XK)(r:aq)(s':Å):Prop :=
 match r with
 |.ok (.ret u)=>CE outer P w H s Q u s'
 |.ok _=>False
 |.error e=>CX outer H s E e s'
structure fM(P:â)(w:ô)(K:Frag)(mg:Str->Option Â)(base:ă)(CX:CXT)(k:Nat)(f:È)(fd:Ŋ)(ps:List Str)(sp:Sp):Prop where
 len:∀vs H Q E,sp vs H Q E->vs.length=ps.length
 run:∀(A:Ą) (outer:List Env) (s:Å) (H:Hp) (args:Args) (us:List Â) (vs:List V) (Q:VK) (E:XK),fL k A->Env0 P w K mg base A outer s H->BindsTo s fd args (ps.zip us)->gq vs us->sp vs H Q E->
  codeAny (Ù P w) A (.call (.ref f) args) (CR CX outer P w H s Q E) s
variable {P:â} {w:ô} {mg:Str->Option Â} {base:ă} {CX:CXT} {f:È} {fd:Ŋ} {ps:List Str} {sp:Sp}
def fM.mono{K:Frag}{k:Nat}(F:fM P w K mg base CX j f fd ps sp)(h:j<=k) :
  fM P w K mg base CX k f fd ps sp:=⟨F.len,λA outer s H args us vs Q E hr=>F.run A outer s H args us vs Q E<|hr.mono h⟩
def fM.imp{K:Frag}{k:Nat}{sp':Sp}(F:fM P w K mg base CX k f fd ps sp)
  (h:∀vs H Q E,sp' vs H Q E->sp vs H Q E):fM P w K mg base CX k f fd ps sp' :=
 ⟨λvs H Q E q=>F.len vs H Q E<|h _ _ _ _ q,λA outer s H args us vs Q E hr he hb hv hs=>F.run A outer s H args us vs Q E hr he hb hv<|h _ _ _ _ hs⟩
variable {outer:List Env} {s:Å} {H:Hp}
def Env0.make{K:Frag}(e:Env0 P w K mg base A outer s H)(C:È)(us:List Â)(kw:List<|Str×Â) :
  Env0 P w K mg base (A.under<|.builtin "type.__call__" ⟨.ref C::us,kw⟩) outer s H:=⟨by first|exact e.frames|(simpa[bH,Code.envs,b6,pushEnvs]using e.frames),e.mod,e.bs,e.bsz,e.funs,e.frf,e.hok,e.bare⟩
def Env0.in1{K:Frag}(e:Env0 P w K mg base A outer s H) :
  Env0 P w K mg base A.in1 outer s H:=⟨e.frames,e.mod,e.bs,e.bsz,e.funs,e.frf,e.hok,e.bare⟩
section
variable {X:Cx}{Á:List (È×Obj)}{σ:St}{H:Hp}{s s':Å}
def Inv.env0(I:Inv X Á σ H s):Env0 X.prog X.w X.K X.mg X.base X.A X.stack s H :=
 ⟨I.ok.frames,I.ok.mod,I.bs,ß I.ok.bsz I.sz,I.stack,I.stkFree,I.hok,I.bare⟩
def Inv.after{Q:VK}{u:Â}(I:Inv X Á σ H s)(h:CE X.stack X.prog X.w H s Q u s'):EP X Á σ Q u s':=by obtain⟨v,H',os,bare,un,hok,r,q⟩:=h;obtain⟨hh,g,d,t,os'⟩:=s';obtain rfl:os'=s.os:=os;exact⟨v,H',I.call (h':=hh) (g':=g) (d':=d) (t':=t) (ch:=[]) un hok bare λb z=>gJ z<|by simp,r,q⟩
end
abbrev Hv(sp:Sp)(aC:List V)(E:XK)(t:TA):TE:=λσ H Q=>t σ H λvs H1=>sp (vs++aC) H1 Q E
abbrev Hm(C:È)(m:Str)(sp:Sp)(aC:List V)(E:XK)(ta:TE)(t:TA):TE:=λσ H Q=>ta σ H λx H1=>∃a dx fs,x=.ref a/\H1 a=eY (.ins C dx fs)/\fs.lookup m=eZ/\
 t σ H1 λvs H2=>sp (x::(vs++aC)) H2 Q E
abbrev PH(C:È)(sp:Sp)(aC:List V)(E:XK)(t:TA):TE:=λσ H Q=>t σ H λvs H1=>∀x dx,H1 x=eZ->H1 dx=eZ->dx≠x->
 sp (.ref x::(vs++aC)) (upd (upd H1 dx<|.own x) x<|.ins C dx []) (λv H2=>v=.non/\Q (.ref x) H2) E
abbrev Binds(K:Frag)(fd:Ŋ)(ps:List Str)(ds:List Â):Prop :=
 ∀(s:Å) (us:List Â),K.In s.heap->(us++ds).length=ps.length->BindsTo s fd ⟨us,[]⟩ (ps.zip<|us++ds)
def Binds.all{K:Frag}(h:∀us:List Â,us.length=ps.length->bindArgs fd ⟨us,[]⟩=pure (ps.zip us)):Binds K fd ps []:=λs us _ hl=>by rw[ċ]at hl ⊢;exact .of_eq (h us hl)
abbrev YY(CX:CXT)(X:Cx)(E:XK):Prop:=∀(Á:List<|È×Obj) (σ:St) (H:Hp) (s:Å) (e:Â) (s':Å),Inv X Á σ H s->CX X.stack H s E e s'->X.xe e s'
section
variable {X:Cx}{CX:CXT}{k:Nat}{f C:È}{fd:Ŋ}{ps:List Str}{sp:Sp}{aC:List V}{ds:List Â}{E:XK}{x m:Str}{p é Ő:Pos}{e o:Expr}{es:List Expr}{ta:TE}{t:TA}
variable {Á:List (È×Obj)} {σ:St} {Q:VK} {vs:List V}
def Mp(F:fM X.prog X.w X.K X.mg X.base CX k f fd ps sp)(hr:fL k X.A)(hb:Binds X.K fd ps ds)(hd:gq aC ds)(hx:YY CX X E)
  (I:Inv X Á σ H s) (r:gq vs us) (h:sp (vs++aC) H Q E):wpAny (Ù X.prog X.w) X.A (call (.ref f) us) (EP X Á σ Q) X.xe s:=by
 have r2:gq (vs++aC)<|us++ds:=r.append hd;have hl:(us++ds).length=ps.length:=by rw[<-r2.length];exact F.len _ _ _ _ h
 refine wpAny_call<|ż (F.run X.A X.stack s H ⟨us,[]⟩ (us++ds) (vs++aC) Q E hr I.env0 (hb s us I.kIn hl) r2 h) λr s' hq=>?_;cases r with
 |error e=>exact hx Á σ H s e s' I hq
 |ok fl =>
  cases fl with
  |ret u=>exact I.after hq
  |next=>exact Ĭ hq
  |brk=>exact Ĭ hq
  |cont=>exact Ĭ hq
def E9(F:fM X.prog X.w X.K X.mg X.base CX k f fd ps sp)(hr:fL k X.A)(hg:Gl X x)(hm:X.mg x=eY (.ref f))(hk:PySem.W.keepIn X.K (.ref f)=fb)(hb:Binds X.K fd ps ds)(hd:gq aC ds)(hx:YY CX X E)
  (ha:PA X (e::es) t) (cQ:(x==("__debug__" : Str))=fc:=by decide) (he:Ô (e::es) X.env=(fc,eval e X.env)::Ô es X.env:=by rfl) (hpl:(Ħ é<|Ô es X.env).any (·.1)=fc:=by rfl) :
  PE X (.Call (.Name x p) (e::es) [] é) (Hv sp aC E t):=by
 intro Á s σ H Q I h;refine Ĳ<|WV I hg hm ?_ cQ;refine PySem.W.callWith_K (h₀:=X.base) I.ok.mod.kin hk (thn (ha é Á s σ H _ I h) λus s1 ⟨vs,H1,I1,r,q⟩=>⟨I1.kIn,?_⟩) he hpl;exact Mp F hr hb hd hx I1 r q
def Ch(F:fM X.prog X.w X.K X.mg X.base CX k f fd ps sp)(hr:fL k X.A)(hg:Gl X x)(hm:X.mg x=eY (.ref f))(hk:PySem.W.keepIn X.K (.ref f)=fb)(hb:Binds X.K fd ps ds)(hd:gq aC ds)(hx:YY CX X E)
  (cQ:(x==("__debug__" : Str))=fc:=by decide):PE X (.Call (.Name x p) [] [] é)<|Hv sp aC E Fd:=by
 intro Á s σ H Q I h;refine Ĳ<|WV I hg hm ?_ cQ;exact PySem.W.callWith_K0 I.kIn hk<|Mp (us:=[]) F hr hb hd hx I .nil h
variable {pl:Sem Bool}
def FH(he:PE X o ta)(c:Cls X.K C)(hm:Meth X.K C m f)(F:fM X.prog X.w X.K X.mg X.base CX k f fd ps sp)(hr:fL k X.A)(hb:Binds X.K fd ps ds)(hd:gq aC ds)(hx:YY CX X E)(ha:PA X (e::es) t)
  (ι:Ô (e::es) X.env=(fc,eval e X.env)::Ô es X.env:=by rfl) (hpl:(Ħ é<|Ô es X.env).any (·.1)=fc:=by rfl)
  (ht:eval (.Call (.Attribute o m Ő) (e::es) [] é) X.env=(do
    let ov<-eval o X.env
    ϊ Ő.atName
    let (f,first)<-ņ [ov] (ϗ ov m pl)
    cB é f first (Ħ é<|Ô (e::es) X.env) (Ž é<|ŋ [] X.env)):=by rfl) :
  PE X (.Call (.Attribute o m Ő) (e::es) [] é) (Hm C m sp aC E ta t):=by
 intro Á s σ H Q I h;refine PySem.W.methodCall_KW (pl:=pl) (thn (he Á s σ H _ I h) λu s1 ⟨x,H1,I1,rx,a,dx,fs,ex,ea,l,q⟩=>?_) ht;subst ex;obtain rfl:u=Value.ref a:=rx;refine Jh I1 ea c hm l ?_;refine PySem.W.callWith_K (first:=[.ref a]) (h₀:=X.base) I.ok.mod.kin hm.kp (thn (ha é Á s1 σ H1 _ I1 q) λus s2 ⟨vs,H2,I2,r,q2⟩=>⟨I2.kIn,?_⟩) ι hpl;exact Mp (us:=.ref a::us) (vs:=.ref a::vs) F hr hb hd hx I2 (.cons rfl r) q2
def BX(he:PE X o ta)(c:Cls X.K C)(hm:Meth X.K C m f)(F:fM X.prog X.w X.K X.mg X.base CX k f fd ps sp)(hr:fL k X.A)(hb:Binds X.K fd ps ds)(hd:gq aC ds)(hx:YY CX X E)
  (ht:eval (.Call (.Attribute o m Ő) [] [] é) X.env=(do
    let ov<-eval o X.env
    ϊ Ő.atName
    let (f,first)<-ņ [ov] (ϗ ov m pl)
    cB é f first (Ħ é<|Ô [] X.env) (Ž é<|ŋ [] X.env)):=by rfl) :
  PE X (.Call (.Attribute o m Ő) [] [] é) (Hm C m sp aC E ta Fd):=by
 intro Á s σ H Q I h;refine PySem.W.methodCall_KW (pl:=pl) (thn (he Á s σ H _ I h) λu s1 ⟨x,H1,I1,rx,a,dx,fs,ex,ea,l,q⟩=>?_) ht;subst ex;obtain rfl:u=Value.ref a:=rx;refine Jh I1 ea c hm l ?_;exact PySem.W.callWith_K0 (first:=[.ref a]) I1.kIn hm.kp<|Mp (us:=[.ref a]) (vs:=[.ref a]) F hr hb hd hx I1 (.cons rfl .nil) q
structure Mk(K:Frag)(C f:È):Prop where
 makes:PySem.W.makesIn K C=fb
 init:PySem.W.findIn K (.ref C) "__init__" = eY (eY<|.ref f)
 fn:PySem.W.isFn K (.ref f)=fb
 kp:PySem.W.keepIn K (.ref C)=fb
def BU(M:Mk X.K C f)(F:fM X.prog X.w X.K X.mg X.base CX k f fd ps sp)(hr:fL (k+1) X.A)(hb:Binds X.K fd ps ds)(hd:gq aC ds)
  (hx:YY CX X E) (I:Inv X Á σ H s) (r:gq vs us)
  (h:∀x dx,H x=eZ->H dx=eZ->dx≠x->sp (.ref x::(vs++aC)) (upd (upd H dx<|.own x) x<|.ins C dx []) (λv H2=>v=.non/\Q (.ref x) H2) E) :
  wpAny (Ù X.prog X.w) X.A (call (.ref C) us) (EP X Á σ Q) X.xe s:=by
 have hq:=h (s.heap.objs.size+1) s.heap.objs.size (I.hok.fresh<|ň _) (I.hok.fresh<|Ì _)<|Ý<|Ğ _;have I2:=Inv.made (C:=C) I;have r2:gq (V.ref (s.heap.objs.size+1)::(vs++aC))<|Value.ref (s.heap.objs.size+1)::(us++ds):=.cons rfl<|r.append hd;have hl:(Value.ref (s.heap.objs.size+1)::us++ds).length=ps.length:=by have e:=r2.length;rw[F.len _ _ _ _ hq]at e;exact e.symm
 refine wpAny_call (Ce (f:=f) I.kIn M.makes M.init (beq_iff_eq.mp M.fn) (ż (F.run _ X.stack _ _ ⟨Value.ref (s.heap.objs.size+1)::us,[]⟩ (Value.ref (s.heap.objs.size+1)::(us++ds)) _ _ E (hr.make C us [])
   (I2.env0.make C us []) (hb _ (Value.ref (s.heap.objs.size+1)::us) I2.kIn hl) r2 hq) λr s' hq'=>?_))
 cases r with
 |error e=>exact hx Á σ _ _ e s' I2 hq'
 |ok fl =>
  cases fl with
  |ret u =>obtain⟨v,H',I3,rv,ev,q3⟩:=I2.after hq';subst ev;exact⟨rv,⟨V.ref<|s.heap.objs.size+1,H',I3,rfl,q3⟩⟩
  |next=>exact Ĭ hq'
  |brk=>exact Ĭ hq'
  |cont=>exact Ĭ hq'
def Gh(M:Mk X.K C f)(F:fM X.prog X.w X.K X.mg X.base CX k f fd ps sp)(hr:fL (k+1) X.A)(hg:Gl X x)(hm:X.mg x=eY (.ref C))(hb:Binds X.K fd ps ds)(hd:gq aC ds)(hx:YY CX X E)
  (ha:PA X (e::es) t) (cQ:(x==("__debug__" : Str))=fc:=by decide) (he:Ô (e::es) X.env=(fc,eval e X.env)::Ô es X.env:=by rfl) (hpl:(Ħ é<|Ô es X.env).any (·.1)=fc:=by rfl) :
  PE X (.Call (.Name x p) (e::es) [] é) (PH C sp aC E t):=by
 intro Á s σ H Q I h;refine Ĳ<|WV I hg hm ?_ cQ;refine PySem.W.callWith_K (h₀:=X.base) I.ok.mod.kin M.kp (thn (ha é Á s σ H _ I h) λus s1 ⟨vs,H1,I1,r,q⟩=>⟨I1.kIn,?_⟩) he hpl;exact BU M F hr hb hd hx I1 r q
end
structure FnScope(N P:List Str)(sc:ξ):Prop where
 kind:sc.kind=.function
 co:sc.isCoroutine=fc
 gen:sc.isGenerator=fc
 nd:N.Nodup
 pre:N.take P.length=P
 par:∀x∈P,sc.names.lookup x=eY .local\/sc.names.lookup x=eY .cell
 nofree:∀y∈sc.names,y.2≠.free
def Ks{ω:Str->Option Ϙ}{x:Str}:∀{binds:List (Str×Â)}{m:Str->Option Â},(∀v,(x,v)∉binds)->bindL ω binds m x=m x
 |[],_,_=>rfl
 |(n,v)::r,m,h=>by
  unfold bindL;rw[Ks λw hw=>h w<|Þ _ hw];split
  .have:x≠n:=by rintro rfl;exact h v î
   simp[this]
  .rfl
def KU{ω:Str->Option Ϙ}{x:Str}:∀{binds:List (Str×Â)}{m:Str->Option Â},(∀v,(x,v)∉binds)->dJ ω binds m x=m x
 |[],_,_=>rfl
 |(n,v)::r,m,h=>by
  unfold dJ;rw[KU λw hw=>h w<|Þ _ hw];split
  .rfl
  .have:x≠n:=by rintro rfl;exact h v î
   simp[this]
def Kl{ω:Str->Option Ϙ}{x:Str}{v:Â}:∀{P:List Str}{vs:List Â}{i:Nat}{m:Str->Option Â},P.Nodup->P[i]?=eY x->vs[i]?=eY v->ω x=eY .local->
  bindL ω (P.zip vs) m x=eY v
 |[],_,_,_,_,h,_,_=>by simp at h
 |_::_,[],_,_,_,_,h,_=>by simp at h
 |p::P,w::vs,0,m,nd,h1,h2,hk=>by simp at h1 h2;subst h1;subst h2;show bindL ω ((p,w)::P.zip vs) m p=_;unfold bindL;rw[Ks λv hv=>(ć.mp nd).1 (aK hv).1,gD hk];simp
 |p::P,w::vs,i+1,m,nd,h1,h2,hk=>by show bindL ω ((p,w)::P.zip vs) m x=_;unfold bindL;exact Kl (i:=i) (ć.mp nd).2 (by simpa using h1) (by simpa using h2) hk
def Kt{ω:Str->Option Ϙ}{x:Str}{v:Â}:∀{P:List Str}{vs:List Â}{i:Nat}{m:Str->Option Â},P.Nodup->P[i]?=eY x->vs[i]?=eY v->ω x≠eY .local->
  dJ ω (P.zip vs) m x=eY v
 |[],_,_,_,_,h,_,_=>by simp at h
 |_::_,[],_,_,_,_,h,_=>by simp at h
 |p::P,w::vs,0,m,nd,h1,h2,hk=>by simp at h1 h2;subst h1;subst h2;show dJ ω ((p,w)::P.zip vs) m p=_;unfold dJ;rw[KU λv hv=>(ć.mp nd).1 (aK hv).1,gE hk];simp
 |p::P,w::vs,i+1,m,nd,h1,h2,hk=>by show dJ ω ((p,w)::P.zip vs) m x=_;unfold dJ;exact Kt (i:=i) (ć.mp nd).2 (by simpa using h1) (by simpa using h2) hk
abbrev start(N:List Str)(vs:List V):St:=vs.map eY++Ó (N.length - vs.length) eZ
abbrev JY(CX:CXT)(P:â)(w:ô)(K:Frag)(mg:Str->Option Â)(base:ă)(N:List Str)(qual:Str)(scope:ξ)(f:È)(cd:Â)(A:Ą)(outer:List Env)(s:Å)(H:Hp)(E:XK):Cx where
 prog:=P
 w:=w
 K:=K
 mg:=mg
 base:=base
 A:=A.deeper<|ϲ qual scope s.heap.objs.size f cd
 N:=N
 s₀:=s
 H₀:=H
 env:=ϲ qual scope s.heap.objs.size f cd
 outer:=outer
 stack:=ϲ qual scope s.heap.objs.size f cd::outer
 ex:=[]
 calm:=fb
 fn:=λ_=>fb
 pn:=[]
 xe:=λe s'=>wpAny (Ù P w) (A.deeper<|ϲ qual scope s.heap.objs.size f cd) (leaving (ϲ qual scope s.heap.objs.size f cd) e) (λ_ s''=>CX outer H s E e s'') (λe' s''=>CX outer H s E e' s'') s'
def Na{sc:ξ}{n:Nat}{x:Str}(h:sc.names.lookup x=eY .cell):∃c,(cellsFrom n sc.names []).lookup x=eY c:=by have q:=PySem.W.cellsFrom_some sc.names n []<|.inl h;exact û.mp q
variable {N:List Str} {qual:Str} {scope:ξ}
def AO{K:Frag}{cd:Â}{s1:Å}{E:XK}{vs:List V}
  (S:FnScope N ps scope) (hd:A.handled=eZ) (e0:Env0 P w K mg base A outer s H) (hl:vs.length=ps.length) (r:gq vs us)
  (x:InCallC s s.heap.objs.size (bindL (ϲ qual scope s.heap.objs.size f cd).kindOf (ps.zip us) λ_=>eZ) (cellsFrom (s.heap.objs.size+1) scope.names []) (dJ (ϲ qual scope s.heap.objs.size f cd).kindOf (ps.zip us) λ_=>eZ) s1) :
  Inv (JY CX P w K mg base N qual scope f cd A outer s H E) [] (start N vs) H s1:=by
 have hpl:ps.length<=N.length:=by have:=congrArg List.length S.pre;rw[Č]at this;lia
 obtain⟨h1,tk,rfl,hk⟩:=x.done;have noA:∀b:È,b∉(JY CX P w K mg base N qual scope f cd A outer s H E).ex:=λb z=>gJ (show b∈([]:List È) from z) (by simp);refine⟨⟨e0.mod,S.kind,rfl,rfl,Ì _,λy z c h1 h2=>?_,λy hy=>?_,λy c _ h=>?_,λ_=>hd,Around.frames_deeper e0.frames,.inr ⟨rfl,rfl⟩,λb z=>gJ z<|noA b,e0.bs,e0.bsz,λb _ _=>noA b,λb z=>gJ z<|noA b,e0.funs,e0.frf⟩,
   rfl,e0.bare,Un.kept hk,⟨_,x.toInCall.ns,λi y v h1 h2 h3=>?_⟩,λy c h=>⟨_,x.cell y c h⟩,e0.hok.fresh<|Ì _,λy c h=>?_,λp hp=>gJ (show p∈([]:List<|È×Obj) from hp) (by simp),e0.hok.kept hk,?_⟩
 .exact name_of_addr x.apart (PySem.mem_of_lookup h1)<|PySem.mem_of_lookup h2
 .have hy:scope.names.lookup y=eY .cell\/scope.names.lookup y=eY .free:=hy;rcases hy with hy|hy
  .exact Na hy
  .exact gJ rfl<|S.nofree _<|PySem.mem_of_lookup hy
 .exact Ÿ<|x.above y c<|PySem.mem_of_lookup h
 .have hi:i<vs.length:=by
   unfold start at h2;by_cases hi:i<vs.length
   .exact hi
   .rw[đ<|by simpa using hi]at h2;rw[ō]at h2;split at h2<;>cases h2
  have ha:vs[i]?=eY v:=by
   unfold start at h2;rw[Ċ (by simpa using hi),Ú]at h2;cases e:vs[i]? with
   |none=>rw[e]at h2;cases h2
   |some a=>rw[e]at h2;cases h2;rfl
  obtain⟨u,hu,rv⟩:=r.get ha;have hp:ps[i]?=eY y:=by rw[<-S.pre,List.getElem?_take_of_lt<|by lia];exact h1
  have ndP:ps.Nodup:=by rw[<-S.pre];exact S.nd.sublist<|List.take_sublist _ _
  refine⟨u,rv,?_⟩;rcases S.par y (õ hp)with k|k
  .exact .inl ⟨k,Kl ndP hp hu k⟩
  .obtain⟨c,e⟩:=Na (n:=s.heap.objs.size+1) k;refine .inr ⟨.inl k,c,e,?_⟩;have q:=x.cell y c e;rw[Kt ndP hp hu<|by show scope.names.lookup y≠_;rw[k];decide]at q;exact q
 .exact e0.hok.fresh<|Ÿ<|x.above y c<|PySem.mem_of_lookup h
 .unfold start;show _=N.length;rw[ê,Ã,ò];lia
def Hb{K:Frag}{k:Nat}{name:Str}{params:Arguments}{body:List ŀ}{dV kV doc pm Ϗ ct oc:Â}{an od:Option È}
  {osl:Array (Option Â)}   (lk:K.lookup f=eY ⟨oc,od,.func<|PySem.W.fnOf name qual params body scope dV kV doc pm an Ϗ ct,osl⟩) (aL:PySem.W.codeIn K Ϗ qual=fb) (S:FnScope N ps scope)
  (len:∀vs H Q E,sp vs H Q E->vs.length=ps.length)
  (bZ:∀(A:Ą) (outer:List Env) (s:Å) (H:Hp) (vs:List V) (Q:VK) (E:XK),fL k (A.deeper<|ϲ qual scope s.heap.objs.size f Ϗ)->sp vs H Q E->
    ∃t,PSs (JY CX P w K mg base N qual scope f Ϗ A outer s H E) body t/\t { nx:=λ_ H'=>Q .non H',rt:=Q } (start N vs) H) :
  fM P w K mg base CX (k+1) f (PySem.W.fnOf name qual params body scope dV kV doc pm an Ϗ ct) ps sp:=by
 refine⟨len,λA outer s H args us vs Q E hr e0 hb r d8=>?_⟩;have hl:=len _ _ _ _ d8;have KX:K.In s.heap:=e0.mod.kin.keeps λb o e=>(e0.bs b o e).1;have lim:s.heap.NoLimit:=e0.mod.nolimit.keeps λb o e=>(e0.bs b o e).1;have hkind:∀y∈ps.zip us,scope.names.lookup y.1=eY .local\/(scope.names.lookup y.1=eY .cell/\((cellsFrom (s.heap.objs.size+1) scope.names []).lookup y.1).isSome=fb):=λ⟨n,v⟩ hy=>by
  rcases S.par n (aK hy).1 with q|q
  .exact .inl q
  .exact .inr ⟨q,PySem.W.cellsFrom_some _ _ _<|.inl q⟩
 refine codeAny_call_function hr.depth (KX _ _ lk) rfl S.co S.gen rfl (PySem.W.codeRec_of KX aL)<|hb _ _ _ _ ?_;refine wpAny_newFunctionEnv_cells S.kind hkind λenv he s1 x=>?_;subst he;refine⟨lim.keeps x.toInCall.keep,codeAny_func ?_⟩;obtain⟨t,ht,hq⟩:=bZ A outer s H vs Q E (hr.deeper _) d8;have I:Inv (JY CX P w K mg base N qual scope f Ϗ A outer s H E) [] (start N vs) H s1:=AO S hr.hd e0 hl r x;refine Ę (ht [] s1 (start N vs) H _ I hq) (λfl s' hs=>?_) λe s' hs=>hs;have fin:∀{ŏ:St}{H':Hp}{v:V}{u:Â},Inv (JY CX P w K mg base N qual scope f Ϗ A outer s H E) [] ŏ H' s'->RelV v u->Q v H'->CE outer P w H s Q u s' :=
  λ{ŏ H' v u} J rv q=>⟨v,H',J.os,J.bare,J.base,J.hok,rv,q⟩
 cases fl with
 |ret u =>obtain⟨v,ŏ,H',J,rv,q⟩:=hs;exact fin J rv q
 |next =>obtain⟨ŏ,H',J,q⟩:=hs;exact fin (v:=V.non) (u:=Value.none) J rfl q
 |brk =>obtain⟨_,_,_,q⟩:=hs;exact Ĭ q
 |cont =>obtain⟨_,_,_,q⟩:=hs;exact Ĭ q
section
variable {X:Cx}{x:Str}{p é:Pos}{e:Expr}{es:List Expr}{t:TA}{id T:String}{r:List V->Hp->VK->Prop}
abbrev tCB(r:List V->Hp->VK->Prop)(t:TA):TE:=λσ H Q=>t σ H λvs H1=>r vs H1 Q
def Z4(hc:fm X (.builtin id) r)(hg:Gl X x)(hm:X.mg x=eZ)(hv:ũ x=eY (.builtin id))(ha:PA X (e::es) t)(hn:x≠"__name__":=by decide)(cQ:(x==("__debug__" : Str))=fc:=by decide)
  (he:Ô (e::es) X.env=(fc,eval e X.env)::Ô es X.env:=by rfl) (hpl:(Ħ é<|Ô es X.env).any (·.1)=fc:=by rfl):PE X (.Call (.Name x p) (e::es) [] é)<|tCB r t:=by
 intro Á s σ H Q I h;refine Ĳ<|YN I hg hm hv ?_ hn cQ;exact PyProof.Rows.callWith_builtin1 (thn (ha é Á s σ H _ I h) λus s1 ⟨vs,H1,I1,r1,q1⟩=>hc Á s1 σ H1 vs us Q I1 r1 q1) he hpl
def Yw(hc:fm X (.type T) r)(hg:Gl X x)(hm:X.mg x=eZ)(hv:ũ x=eY (.type T))(ha:PA X (e::es) t)(hn:x≠"__name__":=by decide)(cQ:(x==("__debug__" : Str))=fc:=by decide)
  (he:Ô (e::es) X.env=(fc,eval e X.env)::Ô es X.env:=by rfl) (hpl:(Ħ é<|Ô es X.env).any (·.1)=fc:=by rfl):PE X (.Call (.Name x p) (e::es) [] é)<|tCB r t:=by
 intro Á s σ H Q I h;refine Ĳ<|YN I hg hm hv ?_ hn cQ;exact PyProof.Rows.callWith_type1 (thn (ha é Á s σ H _ I h) λus s1 ⟨vs,H1,I1,r1,q1⟩=>hc Á s1 σ H1 vs us Q I1 r1 q1) he hpl
end
end L2
namespace HT
open PySem PyProof.Rows
abbrev lexLt:List Int->List Int->Bool
 |[],[]=>fc
 |[],_::_=>fb
 |_::_,[]=>fc
 |x::xs,y::ys=>if x=y then lexLt xs ys else gK (x<y)
def lexLt_cons(x y:Int)(xs ys:List Int):lexLt (x::xs) (y::ys)=if x=y then lexLt xs ys else gK (x<y):=rfl
def J9:lexLt [] []=fc:=rfl
def JB(y:Int)(ys:List Int):lexLt [] (y::ys)=fb:=rfl
def Ji(x:Int)(xs:List Int):lexLt (x::xs) []=fc:=rfl
def eqAt_int(A:Ą)(s:Å)(a:Int)(t:Tok)(c:Int)(u:Tok):∃e,SeqAt.EqAt A s (.int a t) (.int c u) e/\(e=fb↔a=c) :=
 ⟨(a==c),SeqAt.EqAt.int_int a t c u,by simp⟩
def Ef(A:Ą)(s:Å)(a:Int)(t:Tok)(c:Int)(u:Tok)(prog:â)(w:ô)(E:Â->Å->Prop)(Q:Â->Å->Prop)(h:Q (.bool<|gK (a<c)) s) :
  wpAny (Ù prog w) A (richCompare .Lt (.int a t)<|.int c u) Q E s :=
 (PyProof.Rows.lt_int h:wpAny (Ù prog w) A (ë .Lt (.int a t)<|.int c u) Q E s)
section
open PySem.SeqAt
open PySem.AutoSeq1 (wpAny_loadPart')
open PySem.MeetsSeq PySem.MeetsSeq2 PySem.MeetsSeq3
def J4(l b:È)(items ń:Array Â)(n n2:Nat)(dd de:Option È)(sl d9:Array<|Option Â)(ns ms:List Int)(hi:ü items.toList ns)(hj:ü ń.toList ms) :
  Meets (Builtin.«tuple.__lt__» ⟨[.ref l,.ref b],[]⟩)
   (λ_ R s=>s.heap.get? l=eY { cls:=.type "tuple",dict:=dd,data:=.seq items n,slots:=sl }/\s.heap.get? b=eY { cls:=.type "tuple",dict:=de,data:=.seq ń n2,slots:=d9 }/\
     R (.ok<|.ret<|.bool<|lexLt ns ms) s) :=
 .of_wp λprog w A R s h=>by
  obtain⟨hp,g,d,tk,os⟩:=s;obtain⟨hl,hb,h⟩:=h;have f2:=AutoSeq1.sub_tuple_tuple;have z1:items.size=ns.length:=by rw[<-hi.length];simp
  have z2:ń.size=ms.length:=by rw[<-hj.length];simp
  wp_walk using Ġ hl,Ġ hb,wpAny_forIn_list _ (λrest b s'=>b.1=eZ/\s'=⟨hp,g,d,tk,os⟩/\∃(vs ws:List Â) (cq dD:List Int),rest=vs.zip ws/\
    ü vs cq/\ü ws dD/\cq.length+ń.size=dD.length+items.size/\R (.ok<|.ret<|.bool<|lexLt cq dD) ⟨hp,g,d,tk,os⟩) _
  case turn =>
   rintro⟨y,x⟩ rest b s' ⟨bC,rfl,vs,ws,cq,dD,hz,hvi,hwi,hlen,hR⟩;cases hvi with
   |nil=>rw[Ι]at hz;cases hz
   |cons a t hvi' =>
    cases hwi with
    |nil=>rw[ψ]at hz;cases hz
    |cons c u hwi' =>
     rw[ő]at hz;injection hz with hyx hrest;injection hyx with hy hx;subst hy hx;rw[lexLt_cons]at hR;simp only[Ë]at hlen;obtain⟨e,he,hiff⟩:=eqAt_int A.in1 ⟨hp,g,d,tk,os⟩ a t c u;refine À<|he prog w _ _ ?_;cases e with
     |true =>
      rw[gD<|hiff.mp rfl]at hR
      wp_walk
      exact⟨rfl,rfl,_,_,_,_,hrest,hvi',hwi',by lia,hR⟩
     |false =>
      rw[gE λq=>gJ (hiff.mpr q) ù]at hR;have hri:=Ef A.in1 ⟨hp,g,d,tk,os⟩ a t c u prog w
      wp_walk using hri
      exact⟨_,rfl,by simpa using hR⟩
  case fin =>
   rintro⟨b1,b2⟩ s' ⟨bC,rfl,vs,ws,cq,dD,hz,hvi,hwi,hlen,hR⟩;simp only at bC;subst bC;have hv:lexLt cq dD=gK (items.size<ń.size):=by
    cases hvi with
    |nil =>
     cases hwi with
     |nil =>simp only[ē]at hlen;rw[J9];exact(gF<|by lia).symm
     |cons c u hw =>simp only[ē,Ë]at hlen;rw[JB];exact(gG<|by lia).symm
    |cons a t hv =>
     cases hwi with
     |nil =>simp only[ē,Ë]at hlen;rw[Ji];exact(gF<|by lia).symm
     |cons c u hw =>rw[ő]at hz;cases hz
   rw[hv]at hR
   wp_walk
   exact⟨_,rfl,by simpa[Builtin.Tuple.tupleCompareSizes]using hR⟩
  case h =>exact⟨rfl,rfl,items.toList,ń.toList,ns,ms,rfl,hi,hj,by lia,h⟩
end
section
variable {prog:â}{w:ô}{A:Ą}{E:Â->Å->Prop}{s:Å}
variable {b:È} {items:Array Â} {Q:Â->Å->Prop}
def lt_tupInts{l:È}{ń:Array Â}{ns ms:List Int}(hl:ϰ s.heap l items)(hb:ϰ s.heap b ń)(hi:ü items.toList ns)(hj:ü ń.toList ms)
  (hu:A.units<ĩ) (h:Q (.bool<|lexLt ns ms) s):wpAny (Ù prog w) A (ë .Lt (.ref l)<|.ref b) Q E s:=by
 obtain⟨⟨cls,dd,data,sl⟩,ho,hc,n,hd⟩:=id hl;obtain⟨⟨cls2,de,data2,d9⟩,ho2,hc2,n2,bQ⟩:=id hb;simp only at hc hd hc2 bQ;subst hc hd hc2 bQ;exact eK (op:=.Lt) ⟨_,ho,rfl⟩ ⟨_,ho2,rfl⟩ PySem.F.slot_tuple_lt PySem.F.entry_tuple_lt (PySem.F.args_tuple_lt_2 _ _) (J4 l b items ń n n2 dd de sl d9 ns ms hi hj)
  ⟨ho,ho2,show Value.bool (lexLt ns ms)≠cC/\Q (.bool<|lexLt ns ms) s from ⟨(λx=>nomatch x),h⟩⟩ hu
def cat_tup{t:È}{vs ws:List Â}(ht:ϰ s.heap t vs.toArray)(hb:ϰ s.heap b ws.toArray)(hv:vs≠[])
  (h1:ws=[]->Q (.ref t) s) (h2:ws≠[]->Q (.ref s.heap.objs.size) {s with heap:=s.heap.push {cls:=.type "tuple",data:=.seq (vs++ws).toArray}})
  (hsz:vs.length+ws.length<=Õ):wpAny (Ù prog w) A (ŉ .Add (.ref t)<|.ref b) Q E s:=by
 obtain⟨⟨cls,dd,data,sl⟩,ho,hc,n,hd⟩:=id ht;obtain⟨⟨cls2,de,data2,d9⟩,ho2,hc2,n2,bQ⟩:=id hb;simp only at hc hd hc2 bQ;subst hc hd hc2 bQ;have e:vs.toArray++ws.toArray=(vs++ws).toArray:=by simp
 by_cases hw:ws=[]
 .exact eL ⟨_,ho,rfl⟩ ⟨_,ho2,rfl⟩ bq dq PySem.F.slot_tuple_add PySem.F.entry_tuple_add (PySem.F.args_tuple_add_2 _ _)
   (tuple_addW1 t b vs.toArray ws.toArray n n2 dd de sl d9 (by simpa using hv)<|by simp[hw]) ⟨ho,ho2,h1 hw⟩
 .refine eL ⟨_,ho,rfl⟩ ⟨_,ho2,rfl⟩ bq dq PySem.F.slot_tuple_add PySem.F.entry_tuple_add (PySem.F.args_tuple_add_2 _ _)
   (tuple_addW2 t b vs.toArray ws.toArray n n2 dd de sl d9 (by simpa using hv) (by simpa using hw)<|by rw[Í,Í];exact hsz) ⟨ho,ho2,?_⟩
  rw[e];exact h2 hw
abbrev sIx(n d:Nat):Option Int->Nat
 |none=>d
 |some v=>if v<0 then(v+(n:Int)).toNat else min v.toNat n
def IL(n d:Nat)(hd:d<=n)(o:Option Int):sIx n d o<=n:=by
 cases o with
 |none=>exact hd
 |some v =>
  show(if v<0 then(v+(n:Int)).toNat else min v.toNat n)<=n;by_cases hv:v<0
  .rw[gD hv];lia
  .rw[gE hv];exact au _ _
def clip_eq(v:Int)(n d:Nat):(if v<0 then max (v+(n:Int)) 0 else min v (n:Int))=((sIx n d (eY v):Nat):Int):=by
 show(if v<0 then max (v+(n:Int)) 0 else min v (n:Int))=(((if v<0 then(v+(n:Int)).toNat else min v.toNat n):Nat):Int)
 by_cases hv:v<0
 .simp only[gD hv];lia
 .simp only[gE hv];lia
def ON(lo hi:Option Int)(n:Nat):Builtin.Slice.sliceAdjust lo hi 1 (n:Int)=(((sIx n 0 lo:Nat):Int),((sIx n n hi:Nat):Int)):=by
 have h1:¬ ((1:Int)<0):=by lia
 unfold Builtin.Slice.sliceAdjust;simp only[h1,if_false];refine Prod.ext ?_ ?_
 .cases lo with
  |none=>rfl
  |some v=>exact clip_eq v n 0
 .cases hi with
  |none=>rfl
  |some v=>exact clip_eq v n n
def N7(i j:Nat):Builtin.Slice.slicePlaces (i:Int) (j:Int) 1=j - i:=by
 unfold Builtin.Slice.slicePlaces;have h1:(1:Int) > 0:=by lia
 simp only[h1,if_true,Int.ediv_one];split<;>lia
def Jz{v:Â}{o:Option Int}{Q:Option Int->Å->Prop}(p:ϡ v o)(h:Q o s):wpAny (Ù prog w) A (Builtin.Slice.slicePartIndex v) Q E s:=by
 cases p with
 |none=>exact slicePart_none h
 |int i t=>exact slicePart_int h
variable {sl:È} {vl:Â} {vu:Â} {lo:Option Int} {hi:Option Int}
def Yt{n:Nat}{Q:Int×Int×Nat->Å->Prop}(hs:s.heap.IsSliceOf sl vl vu .none)(pl:ϡ vl lo)(pu:ϡ vu hi)
  (h:Q (((sIx n 0 lo:Nat):Int),1,sIx n n hi - sIx n 0 lo) s):wpAny (Ù prog w) A (Builtin.Slice.sliceApplied (.ref sl)<|pure (n:Int)) Q E s:=by
 obtain⟨os,hos,hcs,hds⟩:=id hs;unfold Builtin.Slice.sliceApplied Builtin.Slice.sliceFields;refine À<|À<|ĭ hos hds (x:=vl) rfl<|À<|ĭ hos hds (x:=vu) rfl<|À<|ĭ hos hds (x:=.none) rfl<|Æ ?_;refine À<|slicePart_none ?_;show wpAny _ _ (if((1:Int)==0)=fb then _ else _) _ _ s;rw[gE<|by decide];refine À<|Jz pl<|À<|Jz pu<|À<|Æ ?_;show wpAny _ _ (match Builtin.Slice.sliceAdjust lo hi 1 (n:Int)with|(lo,hi)=>pure (lo,(1:Int),Builtin.Slice.slicePlaces lo hi 1)) _ _ s;rw[ON lo hi n];show wpAny _ _ (pure (((sIx n 0 lo:Nat):Int),(1:Int),Builtin.Slice.slicePlaces ((sIx n 0 lo:Nat):Int) ((sIx n n hi:Nat):Int) 1)) _ _ s;rw[N7];exact Æ h
def Du(xs:Array Â)(i k:Nat):((List.range k).filterMap λ(m:Nat)=>xs[((i:Int)+(m:Int)*1).toNat]?).toArray=((xs.toList.drop i).take k).toArray:=by
 have e:(λ(m:Nat)=>xs[((i:Int)+(m:Int)*1).toNat]?)=λm=>xs[i+m]?:=by
  funext m;have:((i:Int)+(m:Int)*1).toNat=i+m:=by lia
  rw[this]
 rw[e];have:=pick_run xs i k;rw[Ϭ]at this;have e2:((λx=>xs[x]?) ∘ λx=>i+x)=λm=>xs[i+m]?:=rfl;rw[e2]at this;rw[this]
def getItem_tuple_cut{t:È}(ht:ϰ s.heap t items)(hs:s.heap.IsSliceOf sl vl vu .none)(pl:ϡ vl lo)(pu:ϡ vu hi)
  (hw:¬ (sIx items.size 0 lo=0/\sIx items.size items.size hi=items.size))
  (h:Q (.ref s.heap.objs.size) {s with heap:=s.heap.push {cls:=.type "tuple",data:=.seq ((items.toList.drop<|sIx items.size 0 lo).take<|sIx items.size items.size hi - sIx items.size 0 lo).toArray}})
  (hsz:items.size<=Õ):wpAny (Ù prog w) A (Ϡ (.ref t)<|.ref sl) Q E s:=by
 have df:sizeOk<|.seq ((items.toList.drop<|sIx items.size 0 lo).take<|sIx items.size items.size hi - sIx items.size 0 lo).toArray:=by show((items.toList.drop<|sIx items.size 0 lo).take<|sIx items.size items.size hi - sIx items.size 0 lo).toArray.size<=Õ;rw[Í,Č,Ρ,ï];lia
 have hj:sIx items.size items.size hi<=items.size:=IL _ _ (Ì _) hi;obtain⟨os,hos,hcs,hds⟩:=id hs;have hTs:s.TypeIs (.ref sl) "slice":=⟨os,hos,hcs⟩
 unfold Ϡ
 try with_reducible refine ď ?_
 first|refine À (Æ ?_)|skip
 refine À (wpAny_sequenceKey ht.typeIs (by decide) ?_);refine À (Ĕ (name:=gL "__getitem__") ht.typeIs PyProof.Rows.slot_tuple_getitem
   (ĉ PyProof.Rows.slot_tuple_getitem ht.typeIs entry_tuple_getitem ?_<|args_tuple_getitem _ _))
 show wpAny _ _ (Builtin.Tuple.tupleItemsOf (.ref t) >>= _) _ _ s;refine À<|tupleItemsOf_ ht ?_;refine À<|ž hTs ?_;rw[gD<|by decide];refine À<|Yt hs pl pu ?_;have hno:¬ ((((sIx items.size 0 lo:Nat):Int)==0&&(1:Int)==1&&(sIx items.size items.size hi - sIx items.size 0 lo)==items.size)=fb):=by intro q;rw[bAq,bAq]at q;have q1:((sIx items.size 0 lo:Nat):Int)=0:=eq_of_beq q.1.1;have q2:sIx items.size items.size hi - sIx items.size 0 lo=items.size:=eq_of_beq q.2;exact hw ⟨by lia,by lia⟩
 show wpAny _ _ (if(((sIx items.size 0 lo:Nat):Int)==0&&(1:Int)==1&&(sIx items.size items.size hi - sIx items.size 0 lo)==items.size)=fb then _ else _) _ _ s;rw[gE hno,Du]
 first
  |exact À (m:=Builtin.Tuple.tupleExact _)<|Ā (Æ ⟨_,rfl,Æ h⟩) df
  |exact À (m:=Builtin.Tuple.tupleExact _)<|Ā (À<|Æ<|Æ ⟨_,rfl,Æ h⟩) df
  |exact À<|À (m:=Builtin.Tuple.tupleExact _)<|Ā (Æ<|Æ ⟨_,rfl,Æ h⟩) df
  |exact À<|À (m:=Builtin.Tuple.tupleExact _)<|Ā (Æ ⟨_,rfl,Æ h⟩) df
end
end HT
namespace L2
open PySem PySem.Spec PyProof.Rows
noncomputable abbrev TO:=St->Hp->(Option Int->Hp->Prop)->Prop
abbrev PO(X:Cx)(e:Option Expr)(t:TO):Prop :=
 ∀(Á:List<|È×Obj) (s:Å) (σ:St) (H:Hp) (Q:Option Int->Hp->Prop),Inv X Á σ H s->t σ H Q->
  wpAny (Ù X.prog X.w) X.A (evalPart e X.env) (λu s'=>∃o H',Inv X Á σ H' s'/\ϡ u o/\Q o H') X.xe s
abbrev EO:TO:=λ_ H Q=>Q eZ H
abbrev Ri(t:TE):TO:=λσ H Q=>t σ H λx H1=>∃i,x=.int i/\Q (eY i) H1
def ZB{ns:List Int}:∀{us:List Â},gq (ns.map V.int) us->ü us ns:=by
 induction ns with
 |nil=>intro us r;rw[ϋ]at r;cases r;exact .nil
 |cons n ns ih =>
  intro us r;rw[Ï]at r;cases r with
  |cons r1 r2 =>obtain⟨t,e⟩:=r1;subst e;exact .cons n t<|ih r2
section
variable {X:Cx}{e:Expr}{te:TE}{lo hi:Option Expr}{tl th:TO}{é p2:Pos}
def po_none:PO X eZ EO:=by intro Á s σ H Q I h;rw[evalPart_none];exact Æ ⟨eZ,H,I,.none,h⟩
def FM(h:PE X e te):PO X (eY e)<|Ri te:=by intro Á s σ H Q I hw;rw[evalPart_some];refine thn (h Á s σ H _ I hw) λu s1 ⟨x,H1,I1,r1,q1⟩=>?_;obtain⟨i,rfl,q⟩:=q1;obtain⟨t,rfl⟩:=r1;exact⟨eY i,H1,I1,.int i t,q⟩
abbrev SlR(X:Cx)(r:V->Option Int->Option Int->Hp->VK->Prop):Prop :=
 ∀(Á:List<|È×Obj) (s:Å) (σ:St) (H:Hp) (x:V) (v vl vu:Â) (lo hi:Option Int) (sl:È) (Q:VK),Inv X Á σ H s->RelV x v->s.heap.IsSliceOf sl vl vu .none->ϡ vl lo->ϡ vu hi->r x lo hi H Q->
  ∃T id,typeLookup (.type T) "__getitem__" = pure (eY<|.builtin id)/\s.TypeIs v T/\wpAny (Ù X.prog X.w) X.A (Ϡ v<|.ref sl) (EP X Á σ Q) X.xe s
variable {r:V->Option Int->Option Int->Hp->VK->Prop}
def SlR.or{r':V->Option Int->Option Int->Hp->VK->Prop}(h:SlR X r)(h':SlR X r'):SlR X λx lo hi H Q=>r x lo hi H Q\/r' x lo hi H Q:=by
 intro Á s σ H x v vl vu lo hi sl Q I rx hs pl pu q;rcases q with q|q
 .exact h Á s σ H x v vl vu lo hi sl Q I rx hs pl pu q
 .exact h' Á s σ H x v vl vu lo hi sl Q I rx hs pl pu q
abbrev tSl(r:V->Option Int->Option Int->Hp->VK->Prop)(te:TE)(tl th:TO):TE:=λσ H Q=>te σ H λx H1=>tl σ H1 λl H2=>th σ H2 λu H3=>r x l u H3 Q
def DT(hr:SlR X r)(he:PE X e te)(hl:PO X lo tl)(hu:PO X hi th):PE X (.Subscript e (.Slice lo hi eZ p2) é)<|tSl r te tl th:=by intro Á s σ H Q I h;refine Subscript_<|thn (he Á s σ H _ I h) λv s1 ⟨x,H1,I1,r1,q1⟩=>?_;refine wpAny_Slice<|thn (hl Á s1 σ H1 _ I1 q1) λvl s2 ⟨l,H2,I2,pl,q2⟩=>thn (hu Á s2 σ H2 _ I2 q2) λvu s3 ⟨u,H3,I3,pu,q3⟩=>?_;rw[evalPart_none];refine Æ ?_;have I4:Inv X Á σ H3 {s3 with heap:=s3.heap.push {cls:=.type "slice",data:=.fields #[vl,vu,.none]}}:=I3.kept (t':=s3.toks) λb ob q=>Ä _ q;obtain⟨T,id,hT,ht,hg⟩:=hr Á {s3 with heap:=s3.heap.push {cls:=.type "slice",data:=.fields #[vl,vu,.none]}} σ H3 x v vl vu l u s3.heap.objs.size Q I4 r1 (Heap.IsSliceOf.new ..) pl pu q3;show wpAny (Ù X.prog X.w) X.A (dr e (.Slice lo hi eZ p2) v<|.ref s3.heap.objs.size) (EP X Á σ Q) X.xe {s3 with heap:=s3.heap.push {cls:=.type "slice",data:=.fields #[vl,vu,.none]}};exact tail_any (ops:=[.ref s3.heap.objs.size,v]) ht hT hg (by with_unfolding_all rfl)
abbrev KZ(xs:List V)(lo hi:Option Int):List V:=(xs.drop<|HT.sIx xs.length 0 lo).take<|HT.sIx xs.length xs.length hi - HT.sIx xs.length 0 lo
def Ww(xs:List V)(lo hi:Option Int):(KZ xs lo hi).length<=xs.length:=by unfold KZ;rw[Č,Ρ];lia
abbrev Ra(K:Frag):V->Option Int->Option Int->Hp->VK->Prop:=λx lo hi H Q=>∃a xs,x=.ref a/\gp K H a xs/\
 ¬ (HT.sIx xs.length 0 lo=0/\HT.sIx xs.length xs.length hi=xs.length)/\∀p,H p=eZ->Q (.ref p) (upd H p<|.tup<|KZ xs lo hi)
def fZ:SlR X<|Ra X.K:=by
 intro Á s σ H x v vl vu lo hi sl Q I rx hs pl pu h;obtain⟨a,xs,rfl,hx,hw,q⟩:=h;cases rx;obtain⟨ð,r,ht,hz⟩:=I.tuple hx;have hlen:ð.toArray.size=xs.length:=by rw[Í];exact r.length.symm
 refine⟨"tuple",_,PyProof.Rows.slot_tuple_getitem.lookup,ht.typeIs,?_⟩;refine HT.getItem_tuple_cut ht hs pl pu (by rw[hlen];exact hw) ?_ (by rw[hlen];exact hz);rw[hlen];refine⟨.ref s.heap.objs.size,_,I.laid (t':=s.toks) (o:=.tup<|KZ xs lo hi) (λb ob q=>Ä _ q) (Ì _) ?_,rfl,q _<|I.hok.fresh<|Ì _⟩;exact⟨ß (Ww xs lo hi) hz,_,(r.drop<|HT.sIx xs.length 0 lo).take<|HT.sIx xs.length xs.length hi - HT.sIx xs.length 0 lo,IsTup.new _ _⟩
abbrev Qn(K:Frag):R2:=λx y H Q=>∃a b ns ms,x=.ref a/\y=.ref b/\gp K H a (ns.map V.int)/\gp K H b (ms.map V.int)/\Q (.bl<|HT.lexLt ns ms) H
def Lk(hu:X.A.units<ĩ):OpR X (ë .Lt)<|Qn X.K:=by intro Á s σ H x y v u Q I rx ry h;obtain⟨a,b,ns,ms,rfl,rfl,ha,hb,q⟩:=h;cases rx;cases ry;obtain⟨ð,r1,p1,_⟩:=I.tuple ha;obtain⟨aD,r2,p2,_⟩:=I.tuple hb;have i1:ü ð.toArray.toList ns:=ZB r1;have i2:ü aD.toArray.toList ms:=ZB r2;exact HT.lt_tupInts p1 p2 i1 i2 hu ⟨.bl<|HT.lexLt ns ms,H,I,rfl,q⟩
abbrev Hk(K:Frag):R2:=λx y H Q=>∃a b xs ys,x=.ref a/\y=.ref b/\gp K H a xs/\gp K H b ys/\xs≠[]/\xs.length+ys.length<=Õ/\
 (ys=[]->Q (.ref a) H)/\(ys≠[]->∀p,H p=eZ->Q (.ref p) (upd H p<|.tup<|xs++ys))
def gq.nil_iff{xs:List V}{us:List Â}(r:gq xs us):us=[]↔xs=[]:=by
 cases r with
 |nil=>simp
 |cons _ _=>simp
def Fc:OpR X (ŉ .Add)<|Hk X.K:=by intro Á s σ H x y v u Q I rx ry h;obtain⟨a,b,xs,ys,rfl,rfl,ha,hb,hx,hz,q1,q2⟩:=h;cases rx;cases ry;obtain⟨ð,r1,p1,_⟩:=I.tuple ha;obtain⟨aD,r2,p2,_⟩:=I.tuple hb;refine HT.cat_tup p1 p2 (λz=>hx<|r1.nil_iff.mp z) (λz=>⟨.ref a,H,I,rfl,q1<|r2.nil_iff.mp z⟩) (λz=>?_) (by rw[<-r1.length,<-r2.length];exact hz);refine⟨.ref s.heap.objs.size,_,I.laid (t':=s.toks) (o:=.tup<|xs++ys) (λb ob q=>Ä _ q) (Ì _) ?_,rfl,q2 (λw=>z<|r2.nil_iff.mpr w) _<|I.hok.fresh<|Ì _⟩;exact⟨by rw[ê];exact hz,_,r1.append r2,IsTup.new _ _⟩
end
abbrev ixN(n:Nat)(i:Int):Option Nat:=if 0<=i then(if i<n then eY i.toNat else eZ)else if -(n:Int)<=i then eY (i+n).toNat else eZ
variable {α:Type}
abbrev atI(xs:List α)(i:Int):Option α:=(ixN xs.length i).bind λj=>xs[j]?
variable {n:Nat} {i:Int}
def K1{j:Nat}(h:ixN n i=eY j):seqIndex? i n=eY j/\j<n/\-(n:Int)<=i/\i<n:=by
 unfold ixN at h;by_cases h0:0<=i
 .rw[gD h0]at h;by_cases h1:i<n
  .rw[gD h1]at h;have e:i.toNat=j:=æ h;exact⟨by rw[bI h0 h1,e],by lia,by lia,h1⟩
  .rw[gE h1]at h;cases h
 .rw[gE h0]at h;by_cases h1:-(n:Int)<=i
  .rw[gD h1]at h;have e:(i+n).toNat=j:=æ h;exact⟨by rw[aO (by lia) h1,e],by lia,h1,by lia⟩
  .rw[gE h1]at h;cases h
def WK{xs:List α}{v:α}(h:atI xs i=eY v):∃j,seqIndex? i xs.length=eY j/\xs[j]?=eY v/\j<xs.length/\-(xs.length:Int)<=i/\i<xs.length:=by
 unfold atI at h;cases e:ixN xs.length i with
 |none=>rw[e]at h;cases h
 |some j =>rw[e]at h;obtain⟨h1,h2,h3,h4⟩:=K1 e;exact⟨j,h1,h,h2,h3,h4⟩
abbrev Mh(b:Expr):Prop:=∀o i,subscripted b fc o i=operate [o,i] (Ϡ o i)
abbrev IxR(X:Cx)(r:R2):Prop :=
 ∀(ρ slice:Expr) (Á:List<|È×Obj) (s:Å) (σ:St) (H:Hp) (x y:V) (v u:Â) (Q:VK),Inv X Á σ H s->RelV x v->RelV y u->r x y H Q->
  subscripted slice fc v u=operate [v,u] (Ϡ v u)->wpAny (Ù X.prog X.w) X.A (dr ρ slice v u) (EP X Á σ Q) X.xe s
abbrev MtR(X:Cx)(id:String)(r:V->List V->Hp->VK->Prop):Prop :=
 ∀(Á:List<|È×Obj) (s:Å) (σ:St) (H:Hp) (x:V) (xs:List V) (v:Â) (us:List Â) (Q:VK),Inv X Á σ H s->RelV x v->gq xs us->r x xs H Q->
  wpAny (Ù X.prog X.w) X.A (call (.builtin id)<|v::us) (EP X Á σ Q) X.xe s
section
variable {X:Cx}{a b:Expr}{ta tb:TE}{é:Pos}
variable {r:R2}
def IxR.or{r':R2}(h:IxR X r)(h':IxR X r'):IxR X λx y H Q=>r x y H Q\/r' x y H Q:=by
 intro ρ slice Á s σ H x y v u Q I rx ry q hs;rcases q with q|q
 .exact h ρ slice Á s σ H x y v u Q I rx ry q hs
 .exact h' ρ slice Á s σ H x y v u Q I rx ry q hs
def MtR.or{id:String}{r r':V->List V->Hp->VK->Prop}(h:MtR X id r)(h':MtR X id r'):MtR X id λx xs H Q=>r x xs H Q\/r' x xs H Q:=by
 intro Á s σ H x xs v us Q I rx rs q;rcases q with q|q
 .exact h Á s σ H x xs v us Q I rx rs q
 .exact h' Á s σ H x xs v us Q I rx rs q
def PX(hr:IxR X r)(ha:PE X a ta)(hb:PE X b tb)(hs:Mh b):PE X (.Subscript a b é)<|tOp r ta tb:=by intro Á s σ H Q I h;exact Subscript_ (Pl ha hb I h λv u s2 x y H2 I2 rx ry q=>hr a b Á s2 σ H2 x y v u Q I2 rx ry q<|hs _ _)
abbrev B4(K:Frag):R2:=λx y H Q=>∃p xs i v,x=.ref p/\y=.int i/\gm K H p xs/\atI xs i=eY v/\Q v H
abbrev Q8(K:Frag):R2:=λx y H Q=>∃p xs i v,x=.ref p/\y=.int i/\gp K H p xs/\atI xs i=eY v/\Q v H
abbrev P3:R2:=λx y H Q=>∃z i c,x=.str z/\y=.int i/\z.length<=Õ/\atI z.cps.toList i=eY c/\Q (.str ⟨#[c]⟩) H
def ix_list:IxR X<|B4 X.K:=by
 intro ρ slice Á s σ H x y v u Q I rx ry h hs;obtain⟨p,xs,i,z,rfl,rfl,hq,he,q⟩:=h;cases rx;obtain⟨t,rfl⟩:=ry;obtain⟨ð,r,pl,hz⟩:=I.list hq;obtain⟨j,h1,h2,h3,h4,h5⟩:=WK he;obtain⟨w,ew,aX⟩:=r.get h2;have hl:=r.length;have hn:=Xc;have fin:EP X Á σ Q w s:=⟨z,H,I,aX,q⟩
 by_cases h0:0<=i
 .have hj:i.toNat=j:=by
   rw[bI h0 h5]at h1;exact æ h1
  exact item_listR pl.isList h0 (by lia) (by rw[hj];simpa using ew) fin hs
 .have hj:(i+(ð.toArray.size:Int)).toNat=j:=by
   rw[aO (by lia) h4]at h1;rw[Í,<-hl];exact æ h1
  exact eM (x:=w) pl.isList.typeIs slot_list_getitem.lookup
   (eN (Q:=λr s'=>r=w/\EP X Á σ Q r s') pl.isList (by lia) (by rw[Í]<;>lia) (by lia) (by rw[hj];simpa using ew) ⟨rfl,fin⟩) hs
def fj:IxR X<|Q8 X.K:=by
 intro ρ slice Á s σ H x y v u Q I rx ry h hs;obtain⟨p,xs,i,z,rfl,rfl,hq,he,q⟩:=h;cases rx;obtain⟨t,rfl⟩:=ry;obtain⟨ð,r,pl,hz⟩:=I.tuple hq;obtain⟨j,h1,h2,h3,h4,h5⟩:=WK he;obtain⟨w,ew,aX⟩:=r.get h2;have hl:=r.length;have hn:=Xc;have fin:EP X Á σ Q w s:=⟨z,H,I,aX,q⟩
 exact eM (x:=w) pl.typeIs slot_tuple_getitem.lookup
  (getItem_tuple (j:=j) (Q:=λr s'=>r=w/\EP X Á σ Q r s') pl (by lia) (by lia) (by rw[Í,<-hl];exact h1) (by simpa using ew) ⟨rfl,fin⟩) hs
def HB:IxR X P3:=by
 intro ρ slice Á s σ H x y v u Q I rx ry h hs;obtain⟨z,i,c,rfl,rfl,hz,he,q⟩:=h;obtain⟨t,rfl⟩:=rx;obtain⟨t',rfl⟩:=ry;obtain⟨j,h1,h2,h3,h4,h5⟩:=WK he;have hl:z.cps.toList.length=z.length:=by simp[Str.length]
 rw[hl]at h1 h4 h5;have hn:=Xc;exact tail_any (typeIs_str s z t) slot_str_getitem.lookup (getItem_str (c:=c) (by
   have e1:gK (i < -(2 ^ 63:Int))=fc:=gF (by lia)
   have e2:gK (i≥2 ^ 63)=fc:=gF (by lia)
   rw[e1,e2,Ϫ]) (by rw[h1];simpa using h2) ⟨.str ⟨#[c]⟩,H,I.tok _,⟨_,rfl⟩,q⟩) hs
abbrev rIx(K:Frag):R2:=λx y H Q=>B4 K x y H Q\/Q8 K x y H Q\/P3 x y H Q
def ix_seq:IxR X<|rIx X.K:=ix_list.or (fj.or HB)
def OO(ð:List Â)(n j:Nat)(u:Â):Α (·.setIfInBounds j u) {cls:=.type "list",data:=.seq ð.toArray n}={cls:=.type "list",data:=.seq (ð.set j u).toArray n}:=by simp[Α]
def Inv.lst{Á:List (È×Obj)}{σ:St}{H:Hp}{s:Å}{p:È}{xs:List V}(I:Inv X Á σ H s)(h:H p=eY (.lst xs)) :
  ∃(ð:List Â) (n:Nat),gq xs ð/\s.heap.get? p=eY {cls:=.type "list",data:=.seq ð.toArray n}/\xs.length<=Õ:=by
 obtain⟨z,ð,n,r,e⟩:=I.hok p _ h;exact⟨ð,n,r,e,z⟩
variable {Á:List (È×Obj)} {σ:St} {H:Hp} {s:Å}
def Inv.lstUpd{p:È}{xs ys:List V}{ð its':List Â}{n':Nat}{f:Obj->Obj}(I:Inv X Á σ H s)(h:H p=eY (.lst xs))
  (ho:s.heap.get? p=eY {cls:=.type "list",data:=.seq ð.toArray n}) (hf:f {cls:=.type "list",data:=.seq ð.toArray n}={cls:=.type "list",data:=.seq its'.toArray n'}) (r:gq ys its') (hz:ys.length<=Õ) (t:Nat) :
  Inv X Á σ (upd H p<|.lst ys) {s with heap:=s.heap.update p f,toks:=t}:=by
 have e:(s.heap.update p f).get? p=eY {cls:=.type "list",data:=.seq its'.toArray n'}:=by rw[Ď f ho (by rw[hf]<;>rfl),hf]
 refine I.write (x:=p) (e:=p) (by rw[h];trivial) (.inl rfl) (λb u hb q=>(í _ _<|Ne.symm hb).trans q) ⟨_,e⟩ ?_;exact⟨hz,its',n',r,e⟩
abbrev GY:V->V->V->Hp->(Hp->Prop)->Prop:=λo i v H Q=>∃p xs k j,o=.ref p/\i=.int k/\H p=eY (.lst xs)/\ixN xs.length k=eY j/\Q (upd H p<|.lst<|xs.set j v)
def Nw:PSet X GY:=by
 intro Á s σ H o i v ov iv u Q I ro ri rv h;obtain⟨p,xs,k,j,rfl,rfl,hp,hj,q⟩:=h;cases ro;obtain⟨t,rfl⟩:=ri;obtain⟨ð,n,r,ho,hz⟩:=I.lst hp;obtain⟨h1,h2,h3,h4⟩:=K1 hj;have hl:=r.length;have hn:=Xc;have I':Inv X Á σ (upd H p<|.lst<|xs.set j v) {s with heap:=s.heap.update p (Α (·.setIfInBounds j u))} :=
  I.lstUpd hp ho (OO ð n j u) (r.set rv j) (by rw[ϒ];exact hz) s.toks
 by_cases h0:0<=k
 .have hk:k.toNat=j:=by
   rw[bI h0 h4]at h1;exact æ h1
  exact PySem.W.ki_setAt ho h0 (by lia) (by rw[Í,<-hl];exact h4) (by rw[hk];exact⟨_,I',q⟩)
 .have hk:(k+(ð.toArray.size:Int)).toNat=j:=by
   rw[aO (by lia) h3]at h1;rw[Í,<-hl];exact æ h1
  exact PySem.W.ki_setBack ho (by lia) (by rw[Í,<-hl];exact h3) (by lia) (by rw[hk];exact⟨_,I',q⟩)
def Mo(lo hi:Option Int)(n:Nat):(ς lo hi eZ n).1=((HT.sIx n 0 lo:Nat):Int)/\(ς lo hi eZ n).2.1=((HT.sIx n n hi:Nat):Int)/\(ς lo hi eZ n).2.2=1:=by
 refine⟨?_,?_,rfl⟩
 .cases lo with
  |none=>simp[ς,HT.sIx]
  |some i =>
   simp only[ς,HT.sIx,dL,show(1:Int) > 0 by decide,if_true];by_cases h:i<0
   .simp only[h,if_true]<;>lia
   .simp only[h,if_false]<;>lia
 .cases hi with
  |none=>simp[ς,HT.sIx]
  |some i =>
   simp only[ς,HT.sIx,dL,show(1:Int) > 0 by decide,if_true];by_cases h:i<0
   .simp only[h,if_true]<;>lia
   .simp only[h,if_false]<;>lia
def Ki(ð:List Â)(lo hi:Option Int):slicePick ð.toArray lo hi eZ=((ð.drop<|HT.sIx ð.length 0 lo).take<|HT.sIx ð.length ð.length hi - HT.sIx ð.length 0 lo).toArray:=by obtain⟨h1,h2,h3⟩:=Mo lo hi ð.toArray.size;unfold slicePick;rw[h1,h2,h3];simp only[sliceRange_one,pick_run,Í]<;>rfl
abbrev QK(K:Frag):V->Option Int->Option Int->Hp->VK->Prop:=λx lo hi H Q=>∃a xs,x=.ref a/\gm K H a xs/\∀p,H p=eZ->Q (.ref p) (upd H p<|.lst<|KZ xs lo hi)
def sl_list:SlR X<|QK X.K:=by intro Á s σ H x v vl vu lo hi sl Q I rx hs pl pu h;obtain⟨a,xs,rfl,hx,q⟩:=h;cases rx;obtain⟨ð,r,ht,hz⟩:=I.list hx;have hlen:=r.length;refine⟨"list",_,slot_list_getitem.lookup,ht.isList.typeIs,?_⟩;refine wpAny_getItem_list_slice ht.isList hs pl pu .none (by simp) ?_ (by rw[Í]<;>lia);rw[Ki,<-hlen];refine⟨.ref s.heap.objs.size,_,I.laid (t':=s.toks) (o:=.lst<|KZ xs lo hi) (λb ob q=>Ä _ q) (Ì _) ?_,rfl,q _<|I.hok.fresh<|Ì _⟩;exact⟨ß (Ww xs lo hi) hz,_,0,(r.drop<|HT.sIx xs.length 0 lo).take<|HT.sIx xs.length xs.length hi - HT.sIx xs.length 0 lo,Ð _ rfl⟩
abbrev eqV:V->V->Bool
 |.non,.non=>fb
 |.bl a,.bl b=>a==b
 |.bl a,.int b=>(if a then 1 else 0)==b
 |.int a,.bl b=>a==(if b then 1 else 0)
 |.int a,.int b=>a==b
 |.str a,.str b=>a==b
 |_,_=>fc
abbrev inV(x:V)(xs:List V):Bool:=xs.any λy=>eqV y x
def Ml:OpR X (ë .NotIn) λx y H Q=>∃i j,x=.str i/\y=.str j/\Q (.bl (!(!(Builtin.Str.occurrences j i 0 j.length 1).isEmpty))) H:=by intro Á s σ H x y v u Q I rx ry h;obtain⟨i,j,rfl,rfl,q⟩:=h;obtain⟨t,rfl⟩:=rx;obtain⟨t',rfl⟩:=ry;exact notIn_str ⟨.bl _,H,I,rfl,q⟩
def call_len_seq:fm X (.builtin "len") λxs H Q=>∃p ys,xs=[.ref p]/\(gm X.K H p ys\/gp X.K H p ys)/\Q (.int ys.length) H:=by
 intro Á s σ H xs us Q I r h;obtain⟨p,ys,rfl,hq,q⟩:=h;obtain⟨u,rfl,rx⟩:=ZL r;cases rx;have hn:=Xc;rcases hq with hq|hq
 .obtain⟨ð,r',pl,hz⟩:=I.list hq;have hlen:=r'.length;exact Calls.call_len_list pl.isList (by simp only[Í]<;>lia) ⟨.int ys.length,H,I.tok _,⟨s.toks+1,by rw[Í,hlen]⟩,q⟩
 .obtain⟨ð,r',pl,hz⟩:=I.tuple hq;have hlen:=r'.length;exact len_tuple pl (by simp only[Í]<;>lia) ⟨.int ys.length,H,I.tok _,⟨s.toks+1,by rw[Í,hlen]⟩,q⟩
def Mg:fm X (.builtin "len") λxs H Q=>∃z,xs=[.str z]/\z.length<=Õ/\Q (.int z.length) H:=by intro Á s σ H xs us Q I r h;obtain⟨z,rfl,hz,q⟩:=h;obtain⟨u,rfl,t,rfl⟩:=ZL r;have hn:=Xc;exact len_str (by lia) ⟨.int z.length,H,I.tok _,⟨_,rfl⟩,q⟩
def fm.or{f:Â}{r r':List V->Hp->VK->Prop}(h:fm X f r)(h':fm X f r'):fm X f λxs H Q=>r xs H Q\/r' xs H Q:=by
 intro Á s σ H xs us Q I rs q;rcases q with q|q
 .exact h Á s σ H xs us Q I rs q
 .exact h' Á s σ H xs us Q I rs q
def MH:fm X (.type "list") λxs H Q=>∃p ys,xs=[.ref p]/\(gm X.K H p ys\/gp X.K H p ys)/\∀l,H l=eZ->Q (.ref l) (upd H l<|.lst ys):=by
 intro Á s σ H xs us Q I r h;obtain⟨p,ys,rfl,hq,q⟩:=h;obtain⟨u,rfl,rx⟩:=ZL r;cases rx;have fin:∀(ð:List Â),gq ys ð->ys.length<=Õ->∀(h':ă) (c':Nat),(∀b o',s.heap.get? b=eY o'->h'.get? b=eY o')->
   h'.get? s.heap.objs.size=eY {cls:=.type "list",dict:=eZ,data:=.seq ð.toArray c',slots:=#[]}->EP X Á σ Q (.ref s.heap.objs.size) {s with heap:=h'}:=λð r' hz h' c' kp e =>
  ⟨.ref s.heap.objs.size,_,I.laid (t':=s.toks) kp (Ì _) (show fo X.prog X.w _ h' _ (.lst ys) from ⟨hz,ð,c',r',e⟩),rfl,q _<|I.hok.fresh<|Ì _⟩
 rcases hq with hq|hq
 .obtain⟨ð,r',pl,hz⟩:=I.list hq;have hlen:=r'.length;obtain⟨o,ho,hc,n,hd⟩:=pl.isList;exact call_list_seq p (.inl rfl) ho hc hd (λh' c' kp e=>fin ð r' hz h' c' kp e) (by simp only[Í]<;>lia)
 .obtain⟨ð,r',pl,hz⟩:=I.tuple hq;have hlen:=r'.length;obtain⟨o,ho,hc,n,hd⟩:=pl;exact call_list_seq p (.inr rfl) ho hc hd (λh' c' kp e=>fin ð r' hz h' c' kp e) (by simp only[Í]<;>lia)
def Kd:fm X (.type "tuple") λxs H Q=>∃p ys,xs=[.ref p]/\((gm X.K H p ys/\∀l,H l=eZ->Q (.ref l) (upd H l<|.tup ys))\/(gp X.K H p ys/\Q (.ref p) H)):=by
 intro Á s σ H xs us Q I r h;obtain⟨p,ys,rfl,h⟩:=h;obtain⟨u,rfl,rx⟩:=ZL r;cases rx;rcases h with⟨hq,q⟩|⟨hq,q⟩
 .obtain⟨ð,r',pl,hz⟩:=I.list hq;have hlen:=r'.length;refine call_tuple_list pl.isList (λh' kp=>?_) (by simp only[Í]<;>lia);have I1:Inv X Á σ H {s with heap:=h'}:=I.kept (t':=s.toks) kp;have I2:Inv X Á σ (upd H h'.objs.size<|.tup ys) {s with heap:=h'.push {cls:=.type "tuple",data:=.seq ð.toArray}} :=
   I1.laid (t':=s.toks) (λb o e=>Ä _ e) (Ì _) (show fo X.prog X.w _ _ _ (.tup ys) from ⟨hz,ð,r',IsTup.new _ _⟩)
  exact⟨.ref h'.objs.size,_,I2,rfl,q _<|I1.hok.fresh<|Ì _⟩
 .obtain⟨ð,r',pl,hz⟩:=I.tuple hq;exact call_tuple_same pl ⟨.ref p,H,I,rfl,q⟩
abbrev tyV(K:Frag)(T:String)(x:V)(H:Hp):Prop:=match x with
 |.str _=>T = "str"
 |.int _=>T = "int"
 |.ref p=>(T = "list"/\∃xs,gm K H p xs)\/(T = "tuple"/\∃o,K.lookup p=eY o/\o.cls=.type "tuple"/\o.dict=eZ)\/
   (T = "dict"/\((∃kvs,H p=eY (.dK kvs))\/∃kvs,H p=eY (.dT kvs)))\/(T = "set"/\∃S n,H p=eY (.set S n))
 |_=>False
def HR{T:String}{x:V}{v:Â}(I:Inv X Á σ H s)(r:RelV x v)(ty:tyV X.K T x H) :
  s.TypeIs v T/\∀a,v=.ref a->∃ob,s.heap.get? a=eY ob/\ob.dict=eZ:=by
 cases x with
 |str z =>obtain⟨t,rfl⟩:=r;cases (show T = "str" from ty);exact⟨typeIs_str s z t,λ_ e=>nomatch e⟩
 |int i =>obtain⟨t,rfl⟩:=r;cases (show T = "int" from ty);exact⟨typeIs_int s i t,λ_ e=>nomatch e⟩
 |ref p =>
  cases r;rcases ty with⟨rfl,xs,hq⟩|⟨rfl,o,hk,hc,hd⟩|⟨rfl,hk⟩|⟨rfl,S,n,hk⟩
  .obtain⟨ð,_,pl,_⟩:=I.list hq;refine⟨pl.isList.typeIs,λa e=>?_⟩;cases e;obtain⟨o,n,e,c,hd,_⟩:=pl;exact⟨o,e,hd⟩
  .refine⟨⟨o,I.kIn p o hk,hc⟩,λa e=>?_⟩;cases e;exact⟨o,I.kIn _ o hk,hd⟩
  .have z:∃o,s.heap.get? p=eY o/\o.ExactDict:=by
    rcases hk with⟨kvs,hk⟩|⟨kvs,hk⟩
    .obtain⟨_,_,_,_,o,_,_,e,ex,_⟩:=I.hok p _ hk;exact⟨o,e,ex⟩
    .obtain⟨_,_,_,_,o,_,_,e,ex,_⟩:=I.hok p _ hk;exact⟨o,e,ex⟩
   obtain⟨o,e,ex⟩:=z;refine⟨⟨o,e,ex.1⟩,λa e2=>?_⟩;cases e2;exact⟨o,e,ex.2.1⟩
  .obtain⟨o,_,_,_,e,ex,_⟩:=I.hok p _ hk;refine⟨⟨o,e,ex.1⟩,λa e2=>?_⟩;cases e2;exact⟨o,e,ex.2.1⟩
 |_=>exact Ĭ ty
abbrev tBM(K:Frag)(T:String)(r:V->List V->Hp->VK->Prop)(to:TE)(t:TA):TE:=λσ H Q=>to σ H λx H1=>tyV K T x H1/\t σ H1 λxs H2=>r x xs H2 Q
variable {o e:Expr}{es:List Expr}{to:TE}{t:TA}{name:Str}{Ő š:Pos}{T id:String}{r:V->List V->Hp->VK->Prop}
def Qk(pa:PlainAttrs T)(slot:Slot T name id)(hty:typeOf (.builtin id)=pure (.type "method_descriptor"))(hm:MtR X id r)(ho:PE X o to)(ha:PA X (e::es) t)
  (aE:Ĩ o name X.env (eval o X.env)=eval o X.env:=by rfl)
  (aF:((Ħ š<|Ô (e::es) X.env).all (λx=>!x.1)&&(Ž š<|ŋ [] X.env).all (λx=>x.1.isSome)
    && gK ((e::es).length+([]:List aP).length+(if([]:List aP).isEmpty then 0 else 1)<30))=fb:=by rfl)
  (aG:(Ő.endLine==š.line)=fb:=by rfl) (hs:Ô (e::es) X.env=(fc,eval e X.env)::Ô es X.env:=by rfl) (cR:(Ħ š<|Ô es X.env).any (·.1)=fc:=by rfl) :
  PE X (.Call (.Attribute o name Ő) (e::es) [] š) (tBM X.K T r to t):=by
 intro Á s σ H Q I h;refine wpAny_Call_method_late aE aF aG rfl<|thn (ho Á s σ H _ I h) λv s1 ⟨x,H1,I1,r1,ty,q1⟩=>?_;obtain⟨h1,h2⟩:=HR I1 r1 ty;refine⟨T,id,pa,slot,hty,h1,h2,?_⟩;have hA:=ha š Á s1 σ H1 _ I1 q1;rw[hs]at hA ⊢;refine Calls.callWith_builtin (by show(fc||(Ħ š<|Ô es X.env).any (·.1))=fc;rw[cR]<;>rfl)<|Calls.evalArgs_plain ?_;exact thn hA λus s2 ⟨vs,H2,I2,r2,q2⟩=>hm Á s2 σ H2 x vs v us Q I2 r1 r2 q2
/- xs.append(e),list.index on a module's tuple .. are MtR facts of 06m -/
end
abbrev MtM(X:Cx)(id:String)(r:V->List V->Hp->VK->Prop):Prop :=
 ∀(Á:List<|È×Obj) (s:Å) (σ:St) (H:Hp) (x:V) (xs:List V) (v:Â) (us:List Â) (Q:VK),Inv X Á σ H s->RelV x v->gq xs us->r x xs H Q->
  wpAny (Ù X.prog X.w) X.A (call (.builtin id)<|v::us) (EP X Á σ Q) X.xe s
variable {x:V} {us:List Â}
def gq.one(r:gq [x] us):∃u,us=[u]/\RelV x u:=ZL r
def gq.two{y:V}(r:gq [x,y] us):∃u v,us=[u,v]/\RelV x u/\RelV y v:=Ua r
def gq.zero(r:gq [] us):us=[]:=by cases r;rfl
variable {xs:List V}
def gq.dropLast(h:gq xs us):gq xs.dropLast us.dropLast:=by
 induction h with
 |nil=>exact .nil
 |cons r t ih =>
  cases t with
  |nil=>exact .nil
  |cons q t'=>exact .cons r ih
def gq.eraseIdx:∀{xs:List V}{us:List Â}(i:Nat),gq xs us->gq (xs.eraseIdx i) (us.eraseIdx i)
 |_,_,_,.nil=>.nil
 |_,_,0,.cons _ t=>t
 |_,_,i+1,.cons r t=>.cons r<|gq.eraseIdx i t
def gq.reverse(h:gq xs us):gq xs.reverse us.reverse:=by
 induction h with
 |nil=>exact .nil
 |cons r t ih=>rw[Κ,Κ];exact gq.append ih<|.cons r .nil
def gq.rep{xs:List V}{us:List Â}(h:gq xs us):∀k:Nat,gq (Ó k xs).flatten (Ó k us).flatten
 |0=>.nil
 |k+1=>by rw[č,č,Ň,Ň];exact gq.append h<|gq.rep h k
def KK{α:Type}:∀(l:List α) (i:Nat),(l.eraseIdx i).length<=l.length
 |[],_=>Ì _
 |_::_,0=>ň _
 |_::r,i+1=>Τ<|KK r i
def KJ(ð:List Â):∀(k:Nat) (ģ:List Â),
  dM (λx1 x2=>x1++x2) ģ.toArray (Ó k ð.toArray)=(ģ++(Ó k ð).flatten).toArray
 |0,ģ=>by simp
 |k+1,ģ=>by
  have e:ģ.toArray++ð.toArray=(ģ++ð).toArray:=by simp
  have e2:(ģ++ð)++(Ó k ð).flatten=ģ++(Ó (k+1) ð).flatten:=by rw[č,Ň,ĳ]
  rw[<-e2,<-KJ ð k (ģ++ð),<-e,č,ĵ]
section
variable {X:Cx}{Á:List (È×Obj)}{σ:St}{H:Hp}{s:Å}{l b:È}{xs ys zs:List V}
variable {ð:List Â} {n:Nat} {t':Nat}
def Inv.lset{its':List Â}{f:Array Â->Array Â}(I:Inv X Á σ H s)(hH:H l=eY (.lst xs))
  (e:s.heap.get? l=eY {cls:=.type "list",data:=.seq ð.toArray n}) (hf:f ð.toArray=its'.toArray) (hv:gq ys its') (hz:ys.length<=Õ) :
  Inv X Á σ (upd H l<|.lst ys) {s with heap:=s.heap.update l<|Α f,toks:=t'}:=by
 have q:=PySem.IsL.update e f;rw[hf]at q;refine I.write (x:=l) (e:=l) (by rw[hH];exact trivial) (.inl rfl) (λb' u hb hu=>(í s.heap (Α f)<|Ne.symm hb).trans hu) ⟨_,q⟩ ?_;exact⟨hz,its',_,hv,q⟩
def Inv.lnew(I:Inv X Á σ H s)(hv:gq ys ð)(hz:ys.length<=Õ) :
  Inv X Á σ (upd H s.heap.objs.size<|.lst ys) {s with heap:=s.heap.push {cls:=.type "list",data:=.seq ð.toArray},toks:=t'} :=
 I.laid (λ_ _ q=>Ä _ q) (Ì _) ⟨hz,ð,0,hv,Ð _ rfl⟩
def Inv.fresh(I:Inv X Á σ H s):H s.heap.objs.size=eZ:=I.hok.fresh (Ì _)
def Inv.lstM(I:Inv X Á σ H s)(hH:H l=eY (.lst xs)):xs.length<=Õ/\∃(ð:List Â) (n:Nat),gq xs ð/\xs.length=ð.length/\s.heap.get? l=eY {cls:=.type "list",data:=.seq ð.toArray n}:=by obtain⟨z,ð,n,r,e⟩:=I.hok l _ hH;exact⟨z,ð,n,r,r.length,e⟩
def CS(h:n<=Õ):Builtin.List.listTooLong n=fc:=by unfold Builtin.List.listTooLong;exact gF (by lia)
end
section
variable {X:Cx}
abbrev O4:V->List V->Hp->VK->Prop:=λx vs H Q=>∃l xs y,x=.ref l/\vs=[y]/\H l=eY (.lst xs)/\xs.length<Õ/\Q .non (upd H l<|.lst<|xs++[y])
def AY:MtM X "list.append" O4:=by intro Á s σ H x vs v us Q I rx rv h;obtain⟨l,xs,y,rfl,rfl,hH,hz,q⟩:=h;cases rx;obtain⟨u,rfl,ru⟩:=rv.one;obtain⟨z,ð,n,r,hl,e⟩:=I.lstM hH;refine av F.slot_list_append ⟨_,e,rfl⟩ F.entry_list_append (F.args_list_append_2 _ _) (PySem.list_append l ð.toArray n u<|by rw[Í];lia) ⟨e,?_⟩;refine⟨.non,_,I.lset (its':=ð++[u]) hH e (by simp) (r.append<|.cons ru .nil) ?_,rfl,q⟩;rw[ê,ϓ];lia
abbrev DD:V->List V->Hp->VK->Prop:=λx vs H Q=>∃l xs i k y,x=.ref l/\vs=[.int i]/\H l=eY (.lst xs)/\-(2 ^ 63)<=i/\i<2 ^ 63/\seqIndex? i xs.length=eY k/\xs[k]?=eY y/\Q y (upd H l<|.lst<|xs.eraseIdx k)
def Cz:MtM X "list.pop" DD:=by
 intro Á s σ H x vs v us Q I rx rv h;obtain⟨l,xs,i,k,y,rfl,rfl,hH,h1,h2,hk,hy,q⟩:=h;cases rx;obtain⟨u,rfl,ru⟩:=rv.one;obtain⟨t,rfl⟩:=ru;obtain⟨z,ð,n,r,hl,e⟩:=I.lstM hH;obtain⟨w,hw,aX⟩:=r.get hy;refine av F.slot_list_pop ⟨_,e,rfl⟩ F.entry_list_pop (F.args_list_pop_2 _ _)
  (MeetsSeq.list_pop_at l ð.toArray n i t k w (fitsIndex_both h1 h2) (by rw[Í,<-hl];exact hk) (by rw[<-ą];exact hw)<|by rw[Í];lia) ⟨e,?_⟩
 refine⟨y,_,I.lset (its':=ð.eraseIdx k) hH e ?_ (r.eraseIdx k) ?_,aX,q⟩
 .show ð.toArray.eraseIdxIfInBounds k=(ð.eraseIdx k).toArray;rw[List.eraseIdxIfInBounds_toArray]
 .have:=KK xs k;lia
abbrev Px:R2:=λx y H Q=>∃l b xs zs,x=.ref l/\y=.ref b/\H l=eY (.lst xs)/\H b=eY (.lst zs)/\xs.length+zs.length<=Õ/\∀p,H p=eZ->Q (.ref p) (upd H p<|.lst<|xs++zs)
def Ih:OpR X (ŉ .Add) Px:=by
 intro Á s σ H x y v u Q I rx ry h;obtain⟨l,b,xs,zs,rfl,rfl,hH,hB,hz,q⟩:=h;cases rx;cases ry;obtain⟨z,ð,n,r,hl,e⟩:=I.lstM hH;obtain⟨z2,aD,n2,r2,hl2,e2⟩:=I.lstM hB;refine PySem.P.add_list e e2 ?_ (by rw[Í,Í];lia);have ea:ð.toArray++aD.toArray=(ð++aD).toArray:=by simp
 rw[ea];exact⟨.ref _,_,I.lnew (t':=s.toks) (r.append r2) (by rw[ê];lia),rfl,q _ I.fresh⟩
abbrev Rb:R2:=λx y H Q=>∃l k xs,x=.ref l/\y=.int k/\H l=eY (.lst xs)/\-(2 ^ 63)<=k/\k<2 ^ 63/\xs.length*k.toNat<=Õ/\
 ∀p,H p=eZ->Q (.ref p) (upd H p<|.lst (Ó k.toNat xs).flatten)
def Ft{α:Type}(xs:List α)(k:Nat):(Ó k xs).flatten.length=k*xs.length:=by
 induction k with
 |zero=>simp
 |succ k ih=>rw[č,Ň,ê,ih,Nat.succ_mul,Nat.add_comm]
def op_rep:OpR X (ŉ .Mult) Rb:=by
 intro Á s σ H x y v u Q I rx ry h;obtain⟨l,k,xs,rfl,rfl,hH,h1,h2,hz,q⟩:=h;cases rx;obtain⟨t,rfl⟩:=ry;obtain⟨z,ð,n,r,hl,e⟩:=I.lstM hH;have hlen:ð.toArray.size*k.toNat<=Õ:=by rw[Í,<-hl];exact hz
 have hcap:¬ ð.toArray.size*k.toNat > (2 ^ 63 - 1) / 8:=by
  have:(Õ:Nat)<=(2 ^ 63 - 1) / 8:=by decide
  lia
 have hfit:¬ (!Builtin.List.listFitsIndex k)=fb:=by rw[fitsIndex_both h1 h2];exact ù
 have hlong:¬ Builtin.List.listTooLong (ð.toArray.size*k.toNat)=fb:=by rw[CS hlen];exact ù
 have hnew:dM (λx1 x2=>x1++x2) #[] (Ó (if ð.toArray.isEmpty=fb then 0 else k.toNat) ð.toArray)=(Ó k.toNat ð).flatten.toArray:=by
  have f0:∀m:Nat,dM (λx1 x2=>x1++x2) #[] (Ó m ð.toArray)=(Ó m ð).flatten.toArray:=λm=>by have:=KJ ð m [];rw[List.nil_append]at this;exact this
  rw[f0];cases ð with
  |nil=>simp
  |cons a r'=>rw[gE<|by simp]
 refine wpAny_binaryOp_repeat_ref (T:="list") (U:="int") (by decide) ⟨_,e,rfl⟩ (λs'=>typeIs_int s' k t) noFill_list_mul F.fills_int_mul F.slot_int_rmul repeat_list F.slot_int_index.lookup
  (av F.slot_int_rmul (typeIs_int s k t) F.entry_int_rmul (F.args_int_rmul_2 _ _) (int___rmul___int_list k t l ð.toArray n)
    ⟨e,rfl,⟨_,e,rfl⟩,av F.slot_list_mul ⟨_,e,rfl⟩ F.entry_list_mul (F.args_list_mul_2 _ _) (AutoListH.list___mul___list_int_3 l ð.toArray n k t hfit hcap hlong) ⟨e,?_⟩⟩)
 rw[hnew];exact⟨.ref _,_,I.lnew (t':=s.toks) (r.rep k.toNat) (by rw[Ft,cD];exact hz),rfl,q _ I.fresh⟩
end
end L2
namespace Att
open PySem PySem.W PySem.Calls PyProof.Rows
variable {P:Params} {h:ă}
def WA:∀(ns:List Int) (vs:List Â),WellAll P h vs (ns.map WData.int)->ü vs ns:=by
 intro ns;induction ns with
 |nil =>intro vs w;rw[ϋ]at w;cases w;exact .nil
 |cons n ns ih =>
  intro vs w;rw[Ï]at w;cases w with
  |cons a b =>cases a;exact .cons _ _<|ih _ b
variable {l:OpenLaw} {n:Nat}
def AF(hn:l.most=eY n){args:List WData}{vals:List Â}
  (hpre:l.row.toRowW.claim.pre args=fb) (hwl:WellAll P h vals args) :
  ∃a vs ns,vals=[Value.ref a]/\args=[WData.list<|ns.map WData.int]/\h.get? a=eY {cls:=.type "list",data:=.seq vs.toArray}/\ü vs ns/\ns.length<=n:=by
 have hsh:WShape.hasAll [] args [.list .int]=fb:=(pre_splitW hpre).1;have hc:l.pre.holds [] {args:=args}=fb:=(pre_splitW hpre).2;obtain⟨d,r,rfl,h1,h2⟩:=hasAllW_cons hsh;obtain rfl:=hasAllW_nil h2;obtain⟨xs,rfl,h3⟩:=hasW_list h1;obtain⟨ns,rfl⟩:=items_int h3;have hlen:ns.length<=n:=by
  unfold OpenLaw.pre at hc;have h4:(WTm.not<|.lt (.lit<|.int (n:Int))<|.len<|.arg 0).holds [] {args:=[.list<|ns.map .int]}=fb:=by have h4:=(holds_andW hc).1;rw[hn]at h4;exact h4
  have h5:=condW_of h4<|w_not<|w_lt w_lit<|w_len_list<|w_arg rfl;rw[Ã]at h5;refine Nat.le_of_not_lt λq=>?_;have q':(n:Int)<((ns.length:Nat):Int):=by lia
  first
   |(rw[gG q']at h5;exact gJ h5<|by decide)
   |(simp at h5;lia)
 cases hwl with
 |cons w1 w2 =>
  cases w2;cases w1 with
  |list ho hall=>exact⟨_,_,ns,rfl,rfl,ho,WA ns _ hall,hlen⟩
def A6(l:OpenLaw)(args:List WData):l.row.toRowW.claim.post args (.bool fb) args=fb :=
 postW_of (r:=l.row.toRowW) (X:=(fb==fb))
  (show WShape.has [] (.bool fb) .bool=fb by first|rfl|decide|simp[WShape.has,WShape.arms,WShape.armsAll])
  (show(WTm.eq .res<|.lit<|.bool fb).value [] {args:=args,res:=eY<|.bool fb,after:=args}=eY (.bool<|fb==fb) from w_eq_bool (w_res rfl) w_lit) rfl
def attach_call{q:â}{loose:List Str}{XP:(Str->Option Â)->ă->Prop}{YP:ô->ă->Prop}{d:DefRec}
  (hn:l.most=eY n) (hdf:d.params.defaults=[])
  (call:∀(w:ô) (s₀ ĝ:Å) (mg mb:Str->Option Â) (fa:È) (o:Obj) (pm cd doc:Â) (a:È) (vs:List Â) (ns:List Int),
    Ground q loose [] XP w s₀ mg mb ĝ.heap->YP w ĝ.heap->
    ĝ.heap.get? fa=eY o->o.data=.func (docDef d.name d.params d.body d.scope pm cd doc)->ĝ.heap.CodeRec cd d.name->mg d.name=eY (.ref fa)->
    ĝ.heap.get? a=eY {cls:=.type "list",data:=.seq vs.toArray}->ü vs ns->ns.length<=n->ĝ.gens=#[]->
    codeAny (Ù l.prog w) Ϻ (.call (.ref fa) ⟨[.ref a],[]⟩) (λr s'=>r=.ok (.ret<|.bool fb)/\OldK ĝ.heap s'.heap/\s'.os=ĝ.os/\Ψ s'.gens) ĝ) :
  WalkO q loose XP YP l.row.toRowW d [] (λf vs=>PySem.call f vs):=by
 intro w s₀ ĝ mg mb G Y fa o pm cd doc dV kV ho hd aL hD hmg hg args vals as hpre hlay hrd hwl hlo;obtain rfl:dV=.none:=Dflts.none hD hdf;obtain rfl:kV=.none:=Dflts.noKw hD;obtain⟨a,vs,ns,rfl,rfl,bD,hints,hlen⟩:=AF hn hpre hwl;refine enter_call<|ż (call w s₀ ĝ mg mb fa o pm cd doc a vs ns G Y ho (fd_plain hd) aL hmg bD hints hlen hg) λr s' hq=>?_;obtain⟨rfl,h2,h3,h4⟩:=hq;exact⟨.inl ⟨.bool fb,.bool fb,[],rfl,λ_=>rfl,.bool fb,A6 l _,λ_=>⟨List.Pairwise.nil,λ_ hm=>(nomatch hm)⟩⟩,h2,h3,h4⟩
end Att
namespace L2
open PySem PySem.Spec PyProof.Rows
def Wl:∀{vs:List Â}{ns:List Int},ü vs ns->gq (ns.map V.int) vs
 |_,_,.nil=>.nil
 |_,_,.cons n t h=>.cons ⟨t,rfl⟩<|Wl h
abbrev LN(H:Hp):Prop:=∀b,H b=eZ\/∃o xs,H b=eY (.frz o<|.lst xs)
def Dj{P:â}{w:ô}{K:Frag}{mg mb:Str->Option Â}{CX:CXT}{k:Nat}{fa a:È}{fd:Ŋ}{x:Str}{sp:Sp}{ĝ:Å}{vs:List Â}{ns:List Int}
  (KX:K.In ĝ.heap) (hns:ĝ.heap.Ns Ĉ mg) (hb:ĝ.heap.Ns builtinsNs mb) (hbb:∀x:Str,x≠"__name__"->mb x=ũ x) (hlim:ĝ.heap.NoLimit) (hg:ĝ.gens=#[])
  (ha:ĝ.heap.get? a=eY {cls:=.type "list",data:=.seq vs.toArray}) (hi:ü vs ns) (hl:ns.length<=Õ) (hr:fL k Ϻ)
  (F:∀base:ă,K.In base->base.Ns Ĉ mg->fM P w K mg base CX k fa fd [x] sp) (hbind:∀(s:Å) (u:Â),BindsTo s fd ⟨[u],[]⟩ [(x,u)])
  (d8:∀H:Hp,LN H->gm K H a (ns.map V.int)->sp [.ref a] H (λv _=>v=.bl fb) λ_ _ _=>False)
  (hCX:∀H e s',CX [] H ĝ (λ_ _ _=>False) e s'->False) :
  codeAny (Ù P w) Ϻ (.call (.ref fa) ⟨[.ref a],[]⟩) (λr s'=>r=.ok (.ret<|.bool fb)/\OldK ĝ.heap s'.heap/\s'.os=ĝ.os/\Ψ s'.gens) ĝ:=by
 have rv:=Wl hi;have fX:=hi.length;have core:∀H:Hp,LN H->gm K H a (ns.map V.int)->HOk P w H ĝ.heap->(∀b,H b≠eZ->b=a)->(H a≠eZ->K.lookup a=eZ)->
   codeAny (Ù P w) Ϻ (.call (.ref fa) ⟨[.ref a],[]⟩) (λr s'=>r=.ok (.ret<|.bool fb)/\OldK ĝ.heap s'.heap/\s'.os=ĝ.os/\Ψ s'.gens) ĝ:=by
  intro H hO hS hok hA hK;have dh:∀{b:È}{o:Obj},ĝ.heap.get? b=eY o->H b=eZ->(MF ĝ.heap H).get? b=eY o:=λe n=>Ck e n;have noA:∀{b:È}{o:Obj}{es:Array DictEntry}{ep:Nat},ĝ.heap.get? b=eY o->o.data=.dict es ep->H b=eZ:=λ{b o es ep} e d=>by
   cases q:H b with
   |none=>rfl
   |some u =>have e':b=a:=hA b (by rw[q];simp);subst e';rw[ha]at e;cases e;have d':Data.seq vs.toArray _=Data.dict es ep:=d;cases d'
  have nsK:∀{b:È}{m:Str->Option Â},ĝ.heap.Ns b m->(MF ĝ.heap H).Ns b m:=λ{b m} ⟨o,es,ep,e,d,r⟩=>⟨o,es,ep,dh e<|noA e d,d,r⟩
  have hKb:K.In<|MF ĝ.heap H:=λb o e=>dh (KX b o e) (by
    cases q:H b with
    |none=>rfl
    |some u =>
      have e':b=a:=hA b (by rw[q];simp)
      subst e'
      rw[hK<|by rw[q];simp]at e;cases e)
  have hM:Mod K mg<|MF ĝ.heap H:=⟨hKb,nsK hns,⟨mb,nsK hb,hbb⟩,let ⟨mc,h1,h2⟩:=hlim;⟨mc,nsK h1,h2⟩⟩
  have e0:Env0 P w K mg (MF ĝ.heap H) Ϻ [] ĝ H:=⟨rfl,hM,λb o e=>F9 e,Nat.le_of_eq<|A5 _ _,trivial,λb hb=>gJ (show b∈([]:List È) from hb) (by simp),hok,.of_eq hg⟩
  refine ż ((F _ hKb<|nsK hns).run Ϻ [] ĝ H ⟨[.ref a],[]⟩ [.ref a] [.ref a] _ _ hr e0 (hbind ĝ<|.ref a) (.cons rfl .nil)<|d8 H hO hS) λr s' h=>?_;cases r with
  |error e=>exact(hCX H e s' h).elim
  |ok fl =>
   cases fl with
   |next=>exact Ĭ h
   |brk=>exact Ĭ h
   |cont=>exact Ĭ h
   |ret u =>
    obtain⟨v,H',os,bare,un,hok',r',q⟩:=h;have q':v=.bl fb:=q;subst q';obtain rfl:u=Value.bool fb:=r';refine⟨rfl,OldK.of_keep λb o e=>?_,os,bare⟩;cases q:H b with
    |none=>exact un.keep b o e q (by intro z;exact gJ (show b∈([]:List È) from z)<|by simp) (by simp)
    |some u =>
     rcases hO b with z|⟨ob,xs,z⟩
     .rw[q]at z;cases z
     .have z2:=un.frzs b ob _ z;obtain⟨e1,_⟩:=hok b _ z;obtain⟨e2,_⟩:=hok' b _ z2;rw[e]at e1;cases e1;exact e2
 cases hk:K.lookup a with
 |some o =>have e:=KX a o hk;rw[ha]at e;cases e;refine core (λ_=>eZ) (λ_=>.inl rfl) (.inr ⟨_,vs.toArray,_,hk,rfl,rfl,rfl,by rw[Í,fX];exact hl,by simpa using rv⟩) (λb u z=>by have z':(eZ:Option HO)=eY u:=z;cases z') (λb z=>gJ rfl z) λz=>gJ rfl z
 |none =>
  refine core (λb=>if b=a then eY (.frz {cls:=.type "list",data:=.seq vs.toArray}<|.lst<|ns.map V.int)else eZ) (λb=>?_) (.inl<|.inr ⟨{cls:=.type "list",data:=.seq vs.toArray},gD rfl⟩) (λb u z=>?_) (λb z=>?_) λ_=>hk
  .by_cases hb:b=a
   .exact .inr ⟨_,_,gD hb⟩
   .exact .inl<|gE hb
  .by_cases hb:b=a
   .have z':=(gD hb).symm.trans z;cases z';subst hb;exact⟨ha,by rw[Ã];exact hl,vs,_,rv,ha⟩
   .have z':=(gE hb).symm.trans z;cases z'
  .by_cases hb:b=a
   .exact hb
   .exact gJ (gE hb) z
abbrev YM(s:ŀ):Arguments:=match s with
 |.FunctionDef _ a _ _ _ _ _ _ _ _=>a
 |_=>{posonlyargs:=[],args:=[],vararg:=eZ,kwonlyargs:=[],kw_defaults:=[],kwarg:=eZ,defaults:=[]}
abbrev ZD(s:ŀ):List ŀ:=match s with
 |.FunctionDef _ _ b _ _ _ _ _ _ _=>b
 |_=>[]
abbrev Zk(s:ŀ):ξ:=match s with
 |.FunctionDef _ _ _ _ _ _ sc _ _ _=>sc
 |_=>{kind:=.function,names:=[],isGenerator:=fc,isCoroutine:=fc}
noncomputable abbrev CX0:CXT:=λ_ _ _ _ _ _=>False
structure Fun(K:Frag)(x qual:Str)(st:ŀ)(f:È)(fd:Ŋ):Prop where
 ex:∃(oc:Â) (od:Option È) (kV doc pm:Â) (an:Option È) (Ϗ ct:Â) (osl:Array<|Option Â),
  fd=PySem.W.fnOf x qual (YM st) (ZD st) (Zk st) .none kV doc pm an Ϗ ct/\K.lookup f=eY ⟨oc,od,.func fd,osl⟩/\PySem.W.codeIn K Ϗ qual=fb
 kp:PySem.W.keepIn K (.ref f)=fb
section
variable {P:â}{w:ô}{K:Frag}{mg:Str->Option Â}{base:ă}
variable {x:Str} {qual:Str} {st:ŀ} {f:È} {fd:Ŋ} {ps:List Str}
def Fun.ok{N:List Str}{k:Nat}{sp:Sp}(F:Fun K x qual st f fd)(S:FnScope N ps<|Zk st)(len:∀vs H Q E,sp vs H Q E->vs.length=ps.length)
  (bZ:∀(Ϗ:Â) (A:Ą) (outer:List Env) (s:Å) (H:Hp) (vs:List V) (Q:VK) (E:XK),fL k (A.deeper<|ϲ qual (Zk st) s.heap.objs.size f Ϗ)->sp vs H Q E->
    ∃t,PSs (JY CX0 P w K mg base N qual (Zk st) f Ϗ A outer s H E).nox (ZD st) t/\t { nx:=λ_ H'=>Q .non H',rt:=Q } (start N vs) H):fM P w K mg base CX0 (k+1) f fd ps sp:=by
 obtain⟨oc,od,kV,doc,pm,an,Ϗ,ct,osl,rfl,lk,aL⟩:=F.ex;refine Hb lk aL S len λA outer s H vs Q E hr d8=>?_;obtain⟨t,h,q⟩:=bZ Ϗ A outer s H vs Q E hr d8;exact⟨t,h.nox,q⟩
def Fun.binds(F:Fun K x qual st f fd)
  (h:∀(kV doc pm:Â) (an:Option È) (Ϗ ct:Â) (us:List Â),us.length=ps.length->bindArgs (PySem.W.fnOf x qual (YM st) (ZD st) (Zk st) .none kV doc pm an Ϗ ct) ⟨us,[]⟩=pure (ps.zip us)):Binds K fd ps []:=by
 obtain⟨oc,od,kV,doc,pm,an,Ϗ,ct,osl,rfl,lk,aL⟩:=F.ex;exact .all<|h kV doc pm an Ϗ ct
def B6{oc:Â}{od an:Option È}{osl:Array (Option Â)}{kV doc pm Ϗ ct:Â}(l:K.lookup f=eY ⟨oc,od,.func<|PySem.W.fnOf x qual (YM st) (ZD st) (Zk st) .none kV doc pm an Ϗ ct,osl⟩)
  (c:PySem.W.codeIn K Ϗ qual=fb) (k:PySem.W.keepIn K (.ref f)=fb):Fun K x qual st f<|PySem.W.fnOf x qual (YM st) (ZD st) (Zk st) .none kV doc pm an Ϗ ct:=⟨⟨oc,od,kV,doc,pm,an,Ϗ,ct,osl,rfl,l,c⟩,k⟩
end
abbrev Same(H H':Hp):Prop:=∀b o,H b=eY o->H' b=eY o
def Same.refl(H:Hp):Same H H:=λ_ _ h=>h
variable {H:Hp}
def Same.trans{H1 H2:Hp}(a:Same H H1)(b:Same H1 H2):Same H H2:=λc o h=>b c o (a c o h)
variable {H':Hp}
def Same.free(e:Same H H'){l:È}(h:H' l=Option.none):H l=Option.none:=by
 cases q:H l with
 |none=>rfl
 |some o =>rw[e l o q]at h;cases h
def Same.seq{K:Frag}{a:È}{xs:List V}(e:Same H H')(h:gm K H a xs):gm K H' a xs:=by
 rcases h with(h|⟨o,h⟩)|h
 .exact .inl<|.inl<|e _ _ h
 .exact .inl<|.inr ⟨o,e _ _ h⟩
 .exact .inr h
end L2
set_option maxHeartbeats 4000000
namespace L2
open PySem PySem.Spec PyProof.Rows
variable {w:ô}
def HOk.track{P:â}{H:Hp}{h:ă}{a:È}{o:HO}(x:HOk P w H h)(hn:H a=eZ)(new:fo P w (upd H a o) h a o):HOk P w (upd H a o) h:=λb u e=>by
 by_cases hb:b=a
 .subst hb;rw[ff]at e;cases e;exact new
 .rw[fe hb]at e;exact(x b u e).stay (λc v _ q=>q) (λc q=>by rw[fe<|Zh q hn];exact q) λc xs q=>by rw[fe<|Zh q hn];exact q
abbrev Zt(X:Cx)(scope:ξ)(N':List Str)(cl:List<|Str×È)(C:È)(s:Å)(H:Hp)(ex:List È):Cx where
 prog:=X.prog
 w:=X.w
 K:=X.K
 mg:=X.mg
 base:=X.base
 A:=X.A
 N:=N'
 s₀:=s
 H₀:=H
 env:=compEnvC scope cl C X.env
 outer:=X.stack
 stack:=X.stack
 ex:=ex
 fn:=λ_=>fc
 calm:=X.calm
 pn:=[]
 xe:=λ_ _=>False
abbrev Z1(X:Cx)(x:List Str)(ö:List Nat):List Str:=x++ö.map λj=>X.N.getD j Str.empty
abbrev N1(σ:St)(ö:List Nat):St:=ö.map λj=>(σ[j]?).getD eZ
structure BlkOk(X:Cx)(scope:ξ)(x:List Str)(ö:List Nat):Prop where
 kind:scope.kind=.function
 nocell:∀y∈scope.names,y.2≠.cell
 locs:∀y∈scope.names,y.2=.local->scope.names.lookup y.1=eY .local
 own:∀y∈x,scope.names.lookup y=eY .local
 frees:∀y∈scope.names,y.2=.free->X.env.kindOf y.1=eY .cell
 cap:∀j∈ö,(X.N[j]?).isSome=fb/\X.env.kindOf (X.N.getD j Str.empty)=eY .cell/\scope.names.lookup (X.N.getD j Str.empty)=eY .free
 nd:(Z1 X x ö).Nodup
def YC{env:Env}:∀(names:List<|Str×Ϙ) (ģ:List<|Str×È),(∀y∈names,y.2=.free->∃c,env.cells.lookup y.1=eY c)->(∀x c,ģ.lookup x=eY c->env.cells.lookup x=eY c)->
  ∃cl,(forIn names ģ λ(p:Str×Ϙ) (r:List<|Str×È)=>(do
    if(p.2 == Ī)=fb then do let a<-cellOf env p.1;pure (Ŀ<|(p.1,a)::r)else pure (Ŀ r):Sem _))=pure cl/\
   (∀x c,cl.lookup x=eY c->env.cells.lookup x=eY c)/\(∀x c,ģ.lookup x=eY c->∃c',cl.lookup x=eY c')/\∀x,(x,Ī)∈names->∃c,cl.lookup x=eY c
 |[],ģ,_,ha=>⟨ģ,rfl,ha,λx c h=>⟨c,h⟩,λx h=>nomatch h⟩
 |(n,k)::r,ģ,hn,ha=>by
  by_cases hk:k=.free
  .subst hk;obtain⟨c,hc⟩:=hn (n,.free) î rfl;have ha':∀x d,(((n,c)::ģ:List<|Str×È)).lookup x=eY d->env.cells.lookup x=eY d:=λx d h=>by
    rw[ñ]at h;cases e:x==n with
    |true =>
     rw[e]at h;have:x=n:=by simpa using e
     subst this;cases h;exact hc
    |false=>rw[e]at h;exact ha x d h
   obtain⟨cl,h1,h2,h3,h4⟩:=YC r ((n,c)::ģ) (λy hy=>hn y<|Þ _ hy) ha';refine⟨cl,?_,h2,λx d h=>?_,λx hx=>?_⟩
   .rw[List.forIn_cons];have e:cellOf env n=pure c:=by unfold cellOf;rw[hc]
    simp only[beq_self_eq_true,if_true,e];exact h1
   .by_cases hx:x=n
    .subst hx;exact h3 x c (by rw[ñ];simp)
    .exact h3 x d (by rw[ñ,beq_false_of_ne hx];exact h)
   .rcases Ç.mp hx with e|hx
    .cases e;exact h3 _ c (by rw[ñ];simp)
    .exact h4 x hx
  .have hb:(k==Ī)=fc:=by simpa using hk
   obtain⟨cl,h1,h2,h3,h4⟩:=YC r ģ (λy hy=>hn y<|Þ _ hy) ha;refine⟨cl,?_,h2,h3,λx hx=>?_⟩
   .rw[List.forIn_cons];simp only[hb,Į,if_false];exact h1
   .rcases Ç.mp hx with e|hx
    .cases e;exact gJ rfl hk
    .exact h4 x hx
def ZU{env:Env}:∀{names:List (Str×Ϙ)}{x:Str}{k:Ϙ},(names.map λ(n,k)=>if(k==Ī&&env.scope.kind == .function&&env.kindOf n==eY .cell)then(n,eP)else(n,k)).lookup x=eY k->
  (∃k0,(x,k0)∈names/\names.lookup x=eY k0/\(k0=k\/(k0=.free/\k=.cell)))
 |[],_,_,h=>by simp at h
 |(n,k0)::r,x,k,h=>by
  rw[Ï,ñ]at h;cases hx:x==n with
  |true =>
   have e:x=n:=by simpa using hx
   subst e;refine⟨k0,î,by rw[ñ];simp,?_⟩;by_cases hc:(k0==Ī&&env.scope.kind == .function&&env.kindOf x==eY .cell)=fb
   .rw[gD hc]at h;simp at h;have:k0=.free:=by
     simp only[bAq]at hc;simpa using hc.1.1
    exact .inr ⟨this,h.symm⟩
   .rw[gE hc]at h;simp at h;exact .inl h
  |false =>
   have h':(r.map λ(n,k)=>if(k==Ī&&env.scope.kind == .function&&env.kindOf n==eY .cell)then(n,eP)else(n,k)).lookup x=eY k:=by
    by_cases hc:(k0==Ī&&env.scope.kind == .function&&env.kindOf n==eY .cell)=fb
    .rw[gD hc]at h;simpa[hx]using h
    .rw[gE hc]at h;simpa[hx]using h
   obtain⟨k1,a,b,c⟩:=ZU h';exact⟨k1,Þ _ a,by rw[ñ,hx];exact b,c⟩
abbrev PIfs(X:Cx)(bh:List Expr)(t:TT):Prop :=
 ∀(Á:List<|È×Obj) (s:Å) (σ:St) (H:Hp) (Q:Bool->Hp->Prop),Inv X Á σ H s->t σ H Q->
  wpAny (Ù X.prog X.w) X.A (forIn bh fb λc r=>if r=fb then do let ok<-cy c X.env (eval c X.env);pure (Ŀ ok)else pure (Ŀ r)) (TP X Á σ Q) X.xe s
abbrev R8:TT:=λ_ H Q=>Q fb H
variable {X:Cx}
def pifs_nil:PIfs X [] R8:=λ_ _ _ H _ I h=>wpAny_tests_nil ⟨H,I,h⟩
def Wf{c:Expr}{t:TT}(h:PT X c t):PIfs X [c] t:=λÁ s σ H Q I hq=>wpAny_tests_one (h Á s σ H Q I hq)
abbrev Hf(J:It)(tg:TG)(tc:TT)(te:TE)(Fin:List V->Hp->Prop)(W:Nat->Nat->List V->St->Hp->Prop):Prop :=
 ∀i m ys τ H,W i m ys τ H->ys.length<Õ/\((J.stop i H/\Fin ys H)\/(J.go i H/\∃N:List V->St->Hp->Prop,(∀ys' τ' H',N ys' τ' H'->∃m',m'<m/\W (i+1) m' ys' τ' H')/\∀x H',J.yld i H x H'->
   tg x τ H' λτ' H1=>tc τ' H1 λb H2=>if b=fb then te τ' H2 λy H3=>N (ys++[y]) τ' H3 else N ys τ' H2))
abbrev D7(wi:TI)(k:Nat)(ö:List Nat)(tg:TG)(tc:TT)(te:TE):TE:=λσ H Q=>wi σ H λJ H1=>∃W:Nat->Nat->List V->St->Hp->Prop,(∃m,W 0 m [] (Ó k eZ++N1 σ ö) H1)/\
 Hf J tg tc te (λys H=>∀p,H p=eZ->Q (.ref p) (upd H p<|.lst ys)) W
section
variable {X:Cx}{Á:List (È×Obj)}{σ:St}{H2:Hp}{s2:Å}
variable {scope:ξ} {x:List Str} {ö:List Nat} {cl:List (Str×È)} {fp:List È}
def Ao{s3:Å}{D:È}{h1:ă}{tk:Nat}{m:Str->Option Â}(B:BlkOk X scope x ö)(I2:Inv X Á σ H2 s2)(f2:∀b∈fp,Wi X Á H2 b)
  (c1:∀x c,cl.lookup x=eY c->X.env.cells.lookup x=eY c) (c2:∀x,(x,Ī)∈scope.names->∃c,cl.lookup x=eY c)
  (I3:Inv X Á σ H2 s3) (hD:D=s2.heap.objs.size) (h3:s3.heap.objs.size=D+1) (ϩ:∀b o,s3.heap.get? b=eY o->h1.get? b=eY o) (hfp:∀b∈fp,b<s2.heap.objs.size)
  (hn:h1.Ns s3.heap.objs.size m) :
  Inv (Zt X scope (Z1 X x ö) cl s3.heap.objs.size s3 H2<|D::fp) [] (Ó x.length eZ++N1 σ ö) H2 {s3 with heap:=h1,toks:=tk}:=by
 have neD:∀b o,s2.heap.get? b=eY o->b≠D:=λb o e=>by rw[hD];exact Ý<|Ñ e
 have exlt:∀b∈D::fp,b<s3.heap.objs.size:=λb hb=>by
  rw[h3];rcases Ç.mp hb with e|hb
  .rw[e];exact Ğ _
  .exact Ķ (by rw[hD];exact hfp b hb)
 have keeps:=I3.hok.kept (h':=h1) ϩ;refine⟨⟨I2.mod,B.kind,I2.ok.glob,I2.ok.blt,Ì _,λy z c e1 e2=>?_,λy hy=>?_,λy c e _=>(by cases e),λhc=>I2.ok.hd hc,I2.ok.frames,.inl rfl,λb hb=>?_,λb o e=>?_,?_,λb o e hb=>?_,λb hb hf=>?_,I3.stack,λb hb=>I2.stkFree b hb⟩,
   rfl,I3.bare,Un.kept ϩ,⟨m,hn,λi y v e1 e2 e3=>?_⟩,λy c e=>?_,I3.hok.fresh<|Ì _,λy c e=>I3.freeC y c<|c1 y c e,λp hp=>(nomatch hp),keeps,?_⟩
 .exact I2.ok.inj y z c (c1 y c e1)<|c1 z c e2
 .have hy:(b7 scope X.env).names.lookup y=eY .cell\/(b7 scope X.env).names.lookup y=eY .free:=hy;rcases hy with hy|hy
  .obtain⟨k0,a,b,c⟩:=ZU hy;rcases c with c|⟨c,_⟩
   .subst c;exact gJ rfl<|B.nocell _ a
   .subst c;exact c2 y a
  .obtain⟨k0,a,b,c⟩:=ZU hy;rcases c with c|⟨_,c⟩
   .subst c;exact c2 y a
   .cases c
 .refine⟨Ý<|exlt b hb,λy c e z=>?_⟩;have e':=c1 y c e;rcases Ç.mp hb with q|q
  .obtain⟨v,o,ho,_⟩:=I2.cell y c e';exact neD c o ho<|z.trans q
  .exact(f2 b q).2.2.2.2.1 y c e' z
 .exact I3.bs b o e
 .exact ß I2.ok.bsz (ß I2.sz<|show s2.heap.objs.size<=s3.heap.objs.size by rw[h3,hD];exact ň _)
 .rcases Ç.mp hb with q|q
  .exact neD b o (I2.bk b o e) q
  .rcases (f2 b q).2.2.2.1 with z|z
   .exact I2.ok.noex b o e z
   .exact gJ (á (Ñ (I2.ok.bs b o e).1) z)<|Ĥ _
 .have hf:b∈frs X.stack:=hf;rcases Ç.mp (I2.stkSub b hf)with z|z
  .rcases Ç.mp hb with q|q
   .exact gJ I2.lt (by rw[<-z,q,hD];exact Ĥ _)
   .exact(f2 b q).2.1 z
  .rcases Ç.mp hb with q|q
   .exact I2.nofs (a:=b) (by rw[q,hD];exact Ì _) z
   .exact(f2 b q).2.2.1 z
 .by_cases hik:i<x.length
  .rw[Ċ (by rw[ò];exact hik),ō,gD hik]at e2;cases e2
  .have e1:(x++ö.map λj=>X.N.getD j Str.empty)[i]?=eY y:=e1;rw[đ<|by lia]at e1;rw[đ (by rw[ò];lia),ò]at e2;generalize i - x.length=j at e1 e2;have e2:(ö.map λj=>(σ[j]?).getD eZ)[j]?=eY (eY v):=e2;rw[Ú]at e1 e2;cases hj:ö[j]? with
   |none=>rw[hj]at e1;cases e1
   |some q =>
    rw[hj]at e1 e2;have e1':X.N.getD q Str.empty=y:=æ e1;have e2':(σ[q]?).getD eZ=eY v:=æ e2;obtain⟨hs,hk,hsc⟩:=B.cap q<|õ hj;obtain⟨y',hy'⟩:=û.mp hs;have ey:y'=y:=by rw[<-e1',ÿ,hy'];rfl
    subst ey;have es:σ[q]?=eY (eY v):=by
     cases hq:σ[q]? with
     |none=>rw[hq]at e2';cases e2'
     |some o=>rw[hq]at e2';exact congrArg eY e2'
    rw[e1']at hk hsc;obtain⟨m2,_,hl⟩:=I3.loc;have aj:X.env.scope.names.lookup y'=eY .cell:=hk;obtain⟨u,r,l⟩:=hl q y' v hy' es<|.inr<|.inl aj;refine⟨u,r,.inr ⟨?_,?_⟩⟩
    .rcases e3 with e3|e3|e3
     .obtain⟨k0,a,b,c⟩:=ZU (show(b7 scope X.env).names.lookup y'=eY .local from e3);rw[hsc]at b;cases b;rcases c with c|⟨_,c⟩<;>cases c
     .exact .inl e3
     .exact .inr e3
    .rcases l with⟨l,_⟩|⟨_,c,hc,z⟩
     .rw[hk]at l;cases l
     .obtain⟨c',hc'⟩:=c2 y'<|PySem.mem_of_lookup hsc;have ec:c'=c:=æ<|(c1 y' c' hc').symm.trans hc;subst ec;obtain⟨o,ho,hd⟩:=z;exact⟨c',hc',o,ϩ c' o ho,hd⟩
 .obtain⟨v,o,ho,hd⟩:=I3.cell y c<|c1 y c e;exact⟨v,o,ϩ c o ho,hd⟩
 .show _=(Z1 X x ö).length;unfold Z1 N1;rw[ê,ê,Ã,Ã,ò]
def Xr{env:Env}(h:∀y∈scope.names,y.2=.free->∃c,env.cells.lookup y.1=eY c) :
  ∃cl,closureFor scope env=pure cl/\(∀x c,cl.lookup x=eY c->env.cells.lookup x=eY c)/\∀x,(x,Ī)∈scope.names->∃c,cl.lookup x=eY c:=by
 obtain⟨cl,h1,h2,_,h4⟩:=YC (env:=env) scope.names [] h λx c e=>nomatch e;refine⟨cl,?_,h2,h4⟩;simp only[closureFor];have e:(forIn scope.names ([]:List<|Str×È) λx r =>
     (match x with
     | (name,kind)=>if(kind == Ī)=fb then do let a<-cellOf env name;pure (Ŀ<|(name,a)::r)else pure (Ŀ r):Sem<|ForInStep<|List<|Str×È))=pure cl:=h1
 first
  |(rw[e];rfl)
  |(refine Eq.trans (congrArg (· >>= pure) ?_) (rfl:(pure cl >>= pure:Sem _)=pure cl);exact e)
variable {bR:Expr} {Ų:Expr} {bh:List Expr} {é:Pos}
def Nz{prog:â}{A:Ą}{R:aq->Å->Prop}{s:Å}{ϸ:Expr}{it ģ:Â}{env:Env}(I:Nat->Å->Prop)
  (turn:∀n s,I n s->wpAny (Ù prog w) A (Ŭ it) (λr ĝ=>match r with
    |none=>R (.ok .next) ĝ
    | some v=>wpAny (Ù prog w) A (Ϧ ϸ it v) (λ_ ĝ=>wpAny (Ù prog w) A (ο ϸ env v) (λ_ bY =>
        wpAny (Ù prog w) A (forIn bh fb λc r=>if r=fb then do let ok<-cy c env (eval c env);pure (Ŀ ok)else pure (Ŀ r)) (λok aH =>
          if ok=fb then wpAny (Ù prog w) A (eval bR env) (λx s₄ =>
            wpAny (Ù prog w) A (call (.builtin "list.append") [ģ,x]) (λ_ s₅=>∃m,m<n/\I m s₅) (λ_ _=>False) s₄) (λ_ _=>False) aH
          else ∃m,m<n/\I m aH) (λ_ _=>False) bY) (λ_ _=>False) ĝ) (λ_ _=>False) ĝ) (λ_ _=>False) s)
  (n:Nat) (h:I n s) :
  codeAny (Ù prog w) A (.compLoop (.ListComp bR [⟨ϸ,Ų,bh,0⟩] scope é) 0 it ģ env) R s:=by
 refine codeAny_loop rfl I (λn s hI=>?_) n h;show wpAny _ A ((compTurn (.ListComp bR [⟨ϸ,Ų,bh,0⟩] scope é) 0 it ģ env).onRaise λx=>do bu x env;theTreesLotGoes x) _ _ s;refine wpAny_noted ?_;rw[compTurn_list];refine À<|dn<|À<|Ę (turn n s hI) (λr ĝ bE=>?_) λ_ _ h'=>h'.elim;cases r with
 |none=>exact Æ bE
 |some v =>
  refine À<|Ę bE (λ_ ĝ bE=>?_) λ_ _ h'=>h'.elim;refine À<|Ę bE (λ_ bY h₂=>À<|Ę h₂ (λok aH h₃=>?_) λ_ _ h'=>h'.elim) λ_ _ h'=>h'.elim;cases ok with
  |false=>exact Æ ⟨rfl,h₃⟩
  |true =>exact À<|À<|Ę h₃ (λx s₄ h₄=>À<|Ę h₄ (λ_ s₅ h₅=>Æ<|Æ ⟨rfl,h₅⟩) λ_ _ h'=>h'.elim) λ_ _ h'=>h'.elim
variable {bF:Expr} {tg:TG} {tc:TT} {te:TE}
def KP{it:È}{tn:Nat->ă->Prop}{J:It}{Fin:List V->Hp->Prop}{W:Nat->Nat->List V->St->Hp->Prop}{E:Â->Å->Prop}
  {RR:Â->È->aq->Å->Prop}{m0:Nat}(hc:X.calm=fb) (B:BlkOk X scope x ö) (I2:Inv X Á σ H2 s2) (T:Turn X.prog X.w X.K bF J fp it tn) (st2:tn 0 s2.heap) (f2:∀b∈fp,Wi X Á H2 b)
  (c1:∀x c,cl.lookup x=eY c->X.env.cells.lookup x=eY c) (c2:∀x,(x,Ī)∈scope.names->∃c,cl.lookup x=eY c)
  (hI:∀cl C s H ex,PIfs (Zt X scope (Z1 X x ö) cl C s H ex) bh tc) (hE:∀cl C s H ex,PE (Zt X scope (Z1 X x ö) cl C s H ex) bR te)
  (hG:∀cl C s H ex,PG (Zt X scope (Z1 X x ö) cl C s H ex) bF tg) (w0:W 0 m0 [] (Ó x.length eZ++N1 σ ö) H2) (cw:Hf J tg tc te Fin W)
  (hRR:∀D C s' H' ys m,H' D=eZ->s'.heap.Ns C m->Wi X Á (upd H' D<|.lst ys) C->Inv X Á σ (upd H' D<|.lst ys) s'->Fin ys H'->RR (.ref D) C (.ok .next) s') :
  wpAny (Ù X.prog X.w) X.A (newList []) (λģ aH=>wpAny (Ù X.prog X.w) X.A (newFunctionEnv scope X.env.globals cl [] X.env.qual eZ .none<|eY X.env) (λcenv s₄ =>
    codeAny (Ù X.prog X.w) X.A (.compStart (.ListComp bR [⟨bF,Ų,bh,0⟩] scope é) 0 (.ref it) ģ { cenv with scope:=b7 scope X.env }) (RR ģ cenv.locals) s₄) E aH) E s2:=by
 refine Ā (wpAny_newFunctionEnv B.nocell (by intro y hy;simp at hy) (λbE cS cT=>?_) B.kind);dsimp only at cS cT ⊢;have hfp:∀b∈fp,b<s2.heap.objs.size:=λb hb=>by obtain⟨o,e,_⟩:=T.obj _ _ st2 b hb;exact Ñ e
 have I3:Inv X Á σ H2 {s2 with heap:=s2.heap.push {cls:=.type "list",dict:=eZ,data:=.seq ([]:List Â).toArray}}:=I2.kept (t':=s2.toks) λb o e=>Ä _ e;have h3:(s2.heap.push {cls:=.type "list",dict:=eZ,data:=.seq ([]:List Â).toArray}).objs.size=s2.heap.objs.size+1:=ŵ ..;have bD:(s2.heap.push {cls:=.type "list",dict:=eZ,data:=.seq ([]:List Â).toArray}).get? s2.heap.objs.size=eY {cls:=.type "list",dict:=eZ,data:=.seq ([]:List Â).toArray}:=Ð _ rfl;have aY:∀b o,s2.heap.get? b=eY o->(s2.heap.push {cls:=.type "list",dict:=eZ,data:=.seq ([]:List Â).toArray}).get? b=eY o:=λb o e=>Ä _ e;generalize hH3:s2.heap.push {cls:=.type "list",dict:=eZ,data:=.seq ([]:List Â).toArray}=h3' at cS cT I3 h3 bD aY ⊢;have ϩ:∀b o,h3'.get? b=eY o->bE.get? b=eY o:=λb o e=>cT.extBut b o (Ý<|Ñ e)<|Ä _ e;have hDC:s2.heap.objs.size≠h3'.objs.size:=by rw[h3];exact Ý<|Ğ _
 have IB:=Ao (cl:=cl) (fp:=fp) (s3:={s2 with heap:=h3'}) (D:=s2.heap.objs.size) (h1:=bE) (tk:=s2.toks+([]:List<|Str×Â).length) B I2 f2 c1 c2 I3 rfl h3 ϩ hfp cS;generalize hY:Zt X scope (Z1 X x ö) cl h3'.objs.size {s2 with heap:=h3'} H2 (s2.heap.objs.size::fp)=Y at IB;have yP:Y.prog=X.prog:=by rw[<-hY];rfl
 have yw:Y.w=X.w:=by rw[<-hY];rfl
 have yK:Y.K=X.K:=by rw[<-hY];rfl
 have yA:Y.A=X.A:=by rw[<-hY];rfl
 have yc:Y.calm=fb:=by rw[<-hY];exact hc
 have yenv:Y.env=compEnvC scope cl h3'.objs.size X.env:=by rw[<-hY];rfl
 have hIY:PIfs Y bh tc:=by rw[<-hY];exact hI _ _ _ _ _
 have hEY:PE Y bR te:=by rw[<-hY];exact hE _ _ _ _ _
 have yxe:Y.xe=λ_ _=>False:=by rw[<-hY];rfl
 have ypn:Y.pn=[]:=by rw[<-hY];rfl
 have hgN:PG Y bF tg:=by rw[<-hY];exact hG _ _ _ _ _
 have fD:∀{H':Hp},H' s2.heap.objs.size=eZ->Wi Y [] H' s2.heap.objs.size:=λ{H'} hn=>by
  refine⟨hn,?_,?_,?_,?_,λp hp=>?_⟩
  .rw[yenv];exact hDC
  .exact IB.ok.exfs _ (by rw[<-hY];exact î)
  .exact .inl (by rw[<-hY];exact î)
  .exact λy c e=>(IB.ok.exf _<|by rw[<-hY];exact î).2 y c e
  .rw[ypn]at hp;exact nomatch hp
 have fF:∀{H':Hp},(∀b∈fp,H' b=eZ)->∀b∈fp,Wi Y [] H' b:=λ{H'} hn b hb=>by
  have hm:b∈Y.ex:=by rw[<-hY];exact Þ _ hb
  refine⟨hn b hb,?_,IB.ok.exfs b hm,.inl hm,λy c e=>(IB.ok.exf b hm).2 y c e,λp hp=>?_⟩
  .exact(IB.ok.exf b hm).1
  .rw[ypn]at hp;exact nomatch hp
 have acc0:bE.PlainList s2.heap.objs.size ([]:List Â).toArray:=⟨0,by exact ϩ _ _ bD⟩
 have loop:∀aH:Å,aH={s2 with heap:=bE,toks:=s2.toks+([]:List<|Str×Â).length}->
   codeAny (Ù X.prog X.w) X.A (.compLoop (.ListComp bR [⟨bF,Ų,bh,0⟩] scope é) 0 (.ref it) (.ref s2.heap.objs.size)<|compEnvC scope cl h3'.objs.size X.env) (RR (.ref s2.heap.objs.size) h3'.objs.size) aH:=by
  rintro aH rfl;refine Nz (λn s'=>∃i ys ð τ H',Inv Y [] τ H' s'/\tn i s'.heap/\(∀b∈fp,H' b=eZ)/\H' s2.heap.objs.size=eZ/\gq ys ð/\s'.heap.PlainList s2.heap.objs.size ð.toArray/\W i n ys τ H') ?_ m0
   ⟨0,[],[],_,H2,IB,T.keep _ _ _ st2 λb hb o e=>ϩ _ _<|aY _ _ e,λb hb=>(f2 b hb).1,I2.fresh,.nil,acc0,w0⟩
  rintro n s3 ⟨i,ys,ð,τ,H3,I3',st3,fr3,frD,rv,pl,w3⟩;have cv:∀{α:Type}{f:Sem α}{Q Q':α->Å->Prop}{s:Å},wpAny (Ù Y.prog Y.w) Y.A f Q Y.xe s->(∀a s',Q a s'->Q' a s')->wpAny (Ù X.prog X.w) X.A f Q' (λ_ _=>False) s:=λ{α f Q Q' s} h hq=>by rw[yP,yw,yA,yxe]at h;exact Ę h hq λ_ _ e=>e
  have cvX:∀{α:Type}{f:Sem α}{Q Q':α->Å->Prop}{s:Å},wpAny (Ù X.prog X.w) Y.A f Q (λ_ _=>False) s->(∀a s',Q a s'->Q' a s')->wpAny (Ù X.prog X.w) X.A f Q' (λ_ _=>False) s:=λ{α f Q Q' s} h hq=>by rw[yA]at h;exact Ę h hq λ_ _ e=>e
  obtain⟨nD,hD3⟩:=id pl;have plD:∀b∈[s2.heap.objs.size],∃o,s3.heap.get? b=eY o/\∀v,o.data≠.cell v:=λb hb=>by
   have e:b=s2.heap.objs.size:=by simpa using hb
   subst e;exact⟨_,hD3,λv z=>by cases z⟩
  have IP:=I3'.pinned (fp:=[s2.heap.objs.size]) (λb hb=>by
    have e:b=s2.heap.objs.size:=by simpa using hb
    subst e
    exact fD frD) plD
  have memD:=ZS (fp:=[s2.heap.objs.size]) (à.mpr rfl) hD3;have fF':∀b∈fp,Wi Y ([]++XH [s2.heap.objs.size] s3.heap) H3 b:=λb hb=>by
   obtain⟨q1,q2,q3,q4,q5,q6⟩:=fF fr3 b hb;refine⟨q1,q2,q3,q4,q5,λp hp=>?_⟩;rw[ypn]at hp;obtain⟨cr,_⟩:=Kz (show p∈XH [s2.heap.objs.size] s3.heap by simpa using hp);have e:p.1=s2.heap.objs.size:=by simpa using cr
   rw[e];exact(Ý<|hfp b hb).symm
  obtain⟨hys,h|⟨go,N,hN,step⟩⟩:=cw i n ys τ H3 w3
  .obtain⟨stop,fin⟩:=h;refine cvX (T.done Y yP yw yK yc i _ s3 _ H3 _ IP fF' st3 stop) λr s4 ⟨hr,I4⟩=>?_;subst hr;obtain⟨m4,hm4,_⟩:=I4.loc;rw[yenv]at hm4;have aI:Un (frs X.stack) (s2.heap.objs.size::fp) H2 H3 h3' s4.heap:=by
    have:=I4.base;rw[<-hY]at this;exact this
   have hok4:HOk X.prog X.w H3 s4.heap:=by have:=I4.hok;rw[yP,yw]at this;exact this
   have pl4:=(I4.pin _<|Ê _<|Ê _ memD).1;have nC:H3 h3'.objs.size=eZ:=by have:=I4.free;rw[yenv]at this;exact this
   have hlen:ys.length<=Õ:=Ÿ hys;have osEq:s4.os=s2.os:=by have:=I4.os;rw[<-hY]at this;exact this
   have neD:∀b o,s2.heap.get? b=eY o->b≠s2.heap.objs.size:=λb o e=>Ý<|Ñ e;have nin:∀b o,s2.heap.get? b=eY o->b∉fp->b∉s2.heap.objs.size::fp:=λb o e hb z=>(Ç.mp z).elim (neD b o e) hb;have hokN:HOk X.prog X.w (upd H3 s2.heap.objs.size<|.lst ys) s4.heap:=hok4.track frD ⟨hlen,ð,nD,rv,pl4⟩;have U:Un (frs X.stack) fp H2 (upd H3 s2.heap.objs.size<|.lst ys) s2.heap s4.heap:=by
    refine⟨λb o e hn hf hx=>aI.keep b o (aY b o e) hn hf<|nin b o e hx,λb o e hn hf hx=>aI.slot b o (aY b o e) hn hf<|nin b o e hx,λb o e hn hx=>?_,λb o e hx=>aI.there b o (aY b o e)<|nin b o e hx,λb xs e=>?_,λb o xs e=>?_,λb ps e=>?_⟩
    .rw[fe<|neD b o e];exact aI.free b o (aY b o e) hn<|nin b o e hx
    .have q:=aI.tups b xs e;rw[fe<|Zh q frD];exact q
    .have q:=aI.frzs b o xs e;rw[fe<|Zh q frD];exact q
    .obtain⟨more,q⟩:=aI.tbls b ps e;exact⟨more,by rw[fe<|Zh q frD];exact q⟩
   have I5:Inv X Á σ (upd H3 s2.heap.objs.size<|.lst ys) s4:=I2.call' (ch:=fp) osEq U hokN I4.bare λb hb=>by obtain⟨_,q2,_,q4,q5,q6⟩:=f2 b hb;exact⟨q4,q2,q5,q6⟩
   exact hRR _ _ _ _ _ m4 frD hm4 (I2.fpOk (Ÿ<|by rw[h3];exact Ğ _)<|by rw[fe hDC.symm];exact nC) I5 fin
  .refine cvX (T.item Y yP yw yK yc i _ s3 _ H3 _ IP fF' st3 go) λr s4 ⟨u,hr,h4⟩=>?_;subst hr;refine cvX h4 λ_ s5 ⟨y,H5,I5,r5,y5,st5,fr5⟩=>?_;have frD5:H5 s2.heap.objs.size=eZ:=(I5.pin _<|Ê _<|Ê _ memD).2.1;have hD5:=(I5.pin _<|Ê _<|Ê _ memD).1;have I5p:=I5.unpinned.pinned (fp:=s2.heap.objs.size::fp) (λb hb=>by
     rcases Ç.mp hb with e|hb
     . subst e;exact fD frD5
     . exact fF fr5 b hb) (λb hb=>by
     rcases Ç.mp hb with e|hb
     . subst e;exact⟨_,hD5,λv z=>by cases z⟩
     . exact T.obj _ _ st5 b hb)
   have memD5:=ZS (fp:=s2.heap.objs.size::fp) î hD5;rw[<-yenv];refine cv (hgN _ s5 _ H5 y u _ I5p r5<|step y H5 y5) λ_ s6 ⟨σ6,H6,I6,q6⟩=>?_;have aJ:∀{m':Nat}{bB:St}{H7:Hp}{s7:Å}{ys':List V}{its':List Â},Inv Y [] bB H7 s7->tn (i+1) s7.heap->(∀b∈fp,H7 b=eZ)->H7 s2.heap.objs.size=eZ->gq ys' its'->s7.heap.PlainList s2.heap.objs.size its'.toArray->m'<n/\W (i+1) m' ys' bB H7->
     ∃m,m<n/\∃i ys ð τ H',Inv Y [] τ H' s7/\tn i s7.heap/\(∀b∈fp,H' b=eZ)/\H' s2.heap.objs.size=eZ/\gq ys ð/\s7.heap.PlainList s2.heap.objs.size ð.toArray/\W i m ys τ H' :=
    λ{m' bB H7 s7 ys' its'} J1 st7 fr7 fd7 rv7 pl7 wm=>⟨m',wm.1,i+1,ys',its',bB,H7,J1,st7,fr7,fd7,rv7,pl7,wm.2⟩
   have stay:∀{bB:St}{H7:Hp}{s7:Å},Inv Y ([]++XH (s2.heap.objs.size::fp) s5.heap) bB H7 s7->tn (i+1) s7.heap/\(∀b∈fp,H7 b=eZ)/\H7 s2.heap.objs.size=eZ/\s7.heap.get? s2.heap.objs.size=eY {cls:=.type "list",data:=.seq ð.toArray nD}:=by intro bB H7 s7 J1;refine⟨T.keep _ _ _ st5 λb hb o e=>(J1.pin (b,o)<|Ê _<|Ê _<|ZS (Þ _ hb) e).1,λb hb=>?_,(J1.pin _<|Ê _<|Ê _ memD5).2.1,(J1.pin _<|Ê _<|Ê _ memD5).1⟩;obtain⟨o,e,d⟩:=T.obj _ _ st5 b hb;exact(J1.pin (b,o)<|Ê _<|Ê _<|ZS (Þ _ hb) e).2.1
   refine cv (hIY _ s6 _ H6 _ I6 q6) λok s7 ⟨H7,I7,q7⟩=>?_;cases ok with
   |false =>rw[gE<|by decide]at q7;rw[gE<|by decide];obtain⟨m',wm⟩:=hN _ _ _ q7;obtain⟨a1,a2,a3,a4⟩:=stay I7;exact aJ I7.unpinned a1 a2 a3 rv ⟨nD,a4⟩ wm
   |true =>
    rw[gD rfl]at q7;rw[gD rfl];refine cv (hEY _ s7 _ H7 _ I7 q7) λz s8 ⟨vz,H8,I8,rz,wm⟩=>?_;obtain⟨m',wm⟩:=hN _ _ _ wm;obtain⟨a1,a2,a3,a4⟩:=stay I8;have hlen:=rv.length;refine wpAny_list_append_plain (hsz:=by rw[Í];lia) (⟨nD,a4⟩:s8.heap.PlainList _ ð.toArray) λh9 hl9 hs9=>?_;obtain⟨q1,q2,q3,q4,q5,q6⟩:=fD a3;have I9:Inv Y [] _ H8 {s8 with heap:=h9}:=I8.unpinned.turned (t':=s8.toks) (λb o hb e=>hs9.extBut b o hb e) q1 q2 q4 q5 q6;refine aJ I9 (T.keep _ _ _ a1 λb hb o e=>hs9.extBut b o (Ý<|hfp b hb) e) a2 a3 (its':=ð++[z]) (rv.append<|.cons rz .nil) ?_ wm;have e:ð.toArray.push z=(ð++[z]).toArray:=by simp
    rw[e]at hl9;exact hl9
 exact codeAny_compStart_list (loop _ rfl)<|T.self _ 0 _ _ _ (T.keep _ _ _ st2 λb hb o e=>ϩ _ _<|aY _ _ e)<|loop _ rfl
variable {wi:TI}
def Dk(hc:X.calm=fb)(B:BlkOk X scope x ö)(hi:PI X bF Ų wi)(hG:∀cl C s H ex,PG (Zt X scope (Z1 X x ö) cl C s H ex) bF tg)
  (hI:∀cl C s H ex,PIfs (Zt X scope (Z1 X x ö) cl C s H ex) bh tc) (hE:∀cl C s H ex,PE (Zt X scope (Z1 X x ö) cl C s H ex) bR te)
  (hs:∀x,Ě Ų X.env x=pure x:=by intro _;rfl):PE X (.ListComp bR [⟨bF,Ų,bh,0⟩] scope é)<|D7 wi x.length ö tg tc te:=by
 intro Á s σ H Q I h;obtain⟨cl,aM,c1,c2⟩:=Xr (scope:=scope) (env:=X.env) λy hy e=>I.ok.has y.1<|.inl<|B.frees y hy e;rw[eval_ListComp];refine du (use:=eZ) rfl hs aM B.kind B.locs<|thn (hi Á s σ H _ I h) λv s1 h1=>thn h1 λitv s2 h2=>?_;obtain⟨it,fp,tn,J,H2,e,I2,T,st2,f2,W,⟨m0,w0⟩,cw⟩:=h2;subst e;refine KP (RR:=λģ C=>compPost (Ù X.prog X.w) X.A X.xe eZ (EP X Á σ Q) ģ C) hc B I2 T st2 f2 c1 c2 hI hE hG w0 cw ?_;intro D C s' H' ys m hD hn fC I' fin;obtain⟨q1,q2,q3,q4,q5,q6⟩:=fC;exact⟨m,hn,λh' hs'=>⟨.ref D,_,I'.turned (t':=s'.toks) (λb o hb e=>hs'.extBut b o hb e) q1 q2 q4 q5 q6,rfl,fin D hD⟩⟩
def Bu{y:Str}{py:Pos}{i:Nat}{Ϝ:Pos}(hN:X.N.Nodup)(hi':X.N[i]?=eY y)(hy:Loc X.env.scope y)(hc:X.calm=fb)(B:BlkOk X scope x ö)(hi:PI X bF Ų wi)(hG:∀cl C s H ex,PG (Zt X scope (Z1 X x ö) cl C s H ex) bF tg)
  (hI:∀cl C s H ex,PIfs (Zt X scope (Z1 X x ö) cl C s H ex) bh tc) (hE:∀cl C s H ex,PE (Zt X scope (Z1 X x ö) cl C s H ex) bR te)
  (hs:∀x,Ě Ų X.env x=pure x:=by intro _;rfl)
  (hsw:ź (.ListComp bR [⟨bF,Ų,bh,0⟩] scope é) (eY<|.Name y py) Ϝ.line X.env=pure fb:=by rfl)
  (hf:X.fn y=fb\/X.env.scope.names.lookup y=eY .local:=by first|exact .inl rfl|exact .inr rfl|assumption) :
  PS X (.Assign [.Name y py] (.ListComp bR [⟨bF,Ų,bh,0⟩] scope é) Ϝ) (QN (D7 wi x.length ö tg tc te)<|Hj i):=by
 intro Á s σ H D I h;obtain⟨cl,aM,c1,c2⟩:=Xr (scope:=scope) (env:=X.env) λy hy e=>I.ok.has y.1<|.inl<|B.frees y hy e;rw[exec_Assign_Name_used _ _ _ _ hsw];refine À<|dn<|À ?_;show wpAny _ X.A (do let _<-comprehension (.ListComp bR [⟨bF,Ų,bh,0⟩] scope é) scope X.env _ (newList []) fc (eval Ų X.env) (eY<|ο (.Name y py) X.env)) _ _ s;refine À (Ę (du (use:=eY<|ο (.Name y py) X.env) (Q:=λ_ s'=>SP X Á D .next s') rfl hs aM B.kind B.locs
   (thn (hi Á s σ H _ I h) λv s1 h1=>thn h1 λitv s2 h2=>?_)) (λ_ s' hq=>Æ<|Æ hq) λ_ _ e=>e)
 obtain⟨it,fp,tn,J,H2,e,I2,T,st2,f2,W,⟨m0,w0⟩,cw⟩:=h2;subst e;refine KP (RR:=λģ C=>compPost (Ù X.prog X.w) X.A X.xe (eY<|ο (.Name y py) X.env) (λ_ s'=>SP X Á D .next s') ģ C) hc B I2 T st2 f2 c1 c2 hI hE hG w0 cw ?_;intro Dd C s' H' ys m hD hn fC I' fin;obtain⟨q1,q2,q3,q4,q5,q6⟩:=fC;show wpAny _ _ (ο (.Name y py) X.env<|.ref Dd) _ _ _;refine wpAny_assign_Name<|KC I' hN hi' hy (v:=.ref Dd) rfl (λs2 I2 ⟨a,hs2,ha⟩=>?_) hf;have ne:C≠a:=by
  rcases ha with z|z
  .rw[z];exact q2
  .exact(q5 y a z).symm
 refine⟨m,hn.sameBut hs2 ne,λh' hs'=>?_⟩;exact⟨_,_,I2.turned (t':=s2.toks) (λb o hb e=>hs'.extBut b o hb e) q1 q2 q4 q5 q6,fin Dd hD⟩
end
mutual
inductive IsD (K:Frag) (H:Hp):V->ŭ->Prop
 |non:IsD K H .non .none
 |bl (b:Bool):IsD K H (.bl b)<|.bool b
 |int (i:Int):IsD K H (.int i)<|.int i
 |str (x:Str):IsD K H (.str x)<|.str x
 |lst {a:È}{xs:List V}{ds:List ŭ}:gm K H a xs->IsDs K H xs ds->IsD K H (.ref a) (.list ds)
 |tup {a:È}{xs:List V}{ds:List ŭ}:gp K H a xs->IsDs K H xs ds->IsD K H (.ref a) (.tuple ds)
inductive IsDs (K:Frag) (H:Hp):List V->List ŭ->Prop
 |nil:IsDs K H [] []
 |cons {x:V}{xs:List V}{d:ŭ}{ds:List ŭ}:IsD K H x d->IsDs K H xs ds->IsDs K H (x::xs) (d::ds)
end
section
variable {X:Cx}{Á:List (È×Obj)}{σ:St}{H:Hp}{s:Å}
mutual
theorem IsD.reads(I:Inv X Á σ H s):∀{v:V}{d:ŭ}{u:Â},IsD X.K H v d->RelV v u->∃as,Reads s.heap u d as
 |_,_,_,.non,r=>by cases r;exact⟨_,.none⟩
 |_,_,_,.bl b,r=>by cases r;exact⟨_,.bool b⟩
 |_,_,_,.int i,r=>by obtain⟨t,rfl⟩:=r;exact⟨_,.int i t⟩
 |_,_,_,.str x,r=>by obtain⟨t,rfl⟩:=r;exact⟨_,.str x t⟩
 |_,_,_,.lst q qs,r=>by cases r;obtain⟨ð,rv,⟨o,n,e,c,_,d⟩,_⟩:=I.list q;obtain⟨as,ra⟩:=IsDs.reads I qs rv;exact⟨_,.list e c d<|by simpa using ra⟩
 |_,_,_,.tup q qs,r=>by cases r;obtain⟨ð,rv,⟨o,e,c,n,d⟩,_⟩:=I.tuple q;obtain⟨as,ra⟩:=IsDs.reads I qs rv;exact⟨_,.tuple e c d<|by simpa using ra⟩
theorem IsDs.reads(I:Inv X Á σ H s):∀{vs:List V}{ds:List ŭ}{us:List Â},IsDs X.K H vs ds->gq vs us->∃as,ReadsAll s.heap us ds as
 |_,_,_,.nil,.nil=>⟨_,.nil⟩
 |_,_,_,.cons q qs,.cons r rs=>by obtain⟨as,ra⟩:=IsD.reads I q r;obtain⟨bs,rb⟩:=IsDs.reads I qs rs;exact⟨_,.cons ra rb⟩
end
end
def IsDs.ints{K:Frag}{H:Hp}:∀ns:List Int,IsDs K H (ns.map V.int) (ns.map PyData.int)
 |[]=>.nil
 |n::ns=>.cons (.int n)<|IsDs.ints ns
def IsDs.length{K:Frag}{H:Hp}:∀{vs:List V}{ds:List ŭ},IsDs K H vs ds->vs.length=ds.length
 |_,_,.nil=>rfl
 |_,_,.cons _ t=>by rw[Ë,Ë,IsDs.length t]
def IsDs.get{K:Frag}{H:Hp}:∀{vs:List V}{ds:List ŭ}{i:Nat}{v:V},IsDs K H vs ds->vs[i]?=eY v->∃d,ds[i]?=eY d/\IsD K H v d
 |_,_,_,_,.nil,e=>by simp at e
 |_,_,0,_,.cons q _,e=>by simp at e;subst e;exact⟨_,rfl,q⟩
 |_,_,i+1,v,.cons _ t,e=>by obtain⟨d,h1,h2⟩:=IsDs.get (i:=i) (v:=v) t (by simpa using e);exact⟨d,by simpa using h1,h2⟩
def IsDs.append{K:Frag}{H:Hp}:∀{xs ys:List V}{ds es:List ŭ},IsDs K H xs ds->IsDs K H ys es->IsDs K H (xs++ys) (ds++es)
 |_,_,_,_,.nil,h=>h
 |_,_,_,_,.cons q t,h=>.cons q<|IsDs.append t h
section
variable {X:Cx}
abbrev QP(K:Frag):R2:=λx y H Q=>∃d e,IsD K H x d/\IsD K H y e/\SeqAt.shaped d=fb/\SeqAt.shaped e=fb/\Q (.bl<|ī d e) H
abbrev Rk(K:Frag):R2:=λx y H Q=>∃d e,IsD K H x d/\IsD K H y e/\SeqAt.shaped d=fb/\SeqAt.shaped e=fb/\Q (.bl (!ī d e)) H
def L4(hu:X.A.units+64<ĩ):OpR X (ë .Eq)<|QP X.K:=by intro Á s σ H x y v u Q I rx ry h;obtain⟨d,e,hd,he,sd,se,q⟩:=h;obtain⟨as,ra⟩:=hd.reads I rx;obtain⟨bs,rb⟩:=he.reads I ry;exact SeqAt.compareEq_shaped ra rb sd se hu ⟨.bl _,H,I,rfl,q⟩
def Lr(hu:X.A.units+64<ĩ):OpR X (ë .NotEq)<|Rk X.K:=by intro Á s σ H x y v u Q I rx ry h;obtain⟨d,e,hd,he,sd,se,q⟩:=h;obtain⟨as,ra⟩:=hd.reads I rx;obtain⟨bs,rb⟩:=he.reads I ry;exact SeqAt.compareNe_shaped ra rb sd se hu ⟨.bl _,H,I,rfl,q⟩
inductive TyV (K:Frag) (H:Hp):V->Â->Prop
 |of {x:V}{t:Â}:gf K H x t->TyV K H x t
 |tup {a:È}{xs:List V}:gp K H a xs->TyV K H (.ref a) (.type "tuple")
 |lst {a:È}{xs:List V}:gm K H a xs->TyV K H (.ref a) (.type "list")
def TyV.int{K:Frag}{H:Hp}(i:Int):TyV K H (.int i)<|.type "int":=.of (.int i)
def BZ:fm X (.builtin "isinstance") λxs H Q=>∃x T t b,xs=[x,.ty T]/\TyV X.K H x t/\PySem.W.kitOne X.K t (.type T)=eY b/\Q (.bl b) H:=by
 intro Á s σ H xs us Q I r h;obtain⟨x,T,t,b,rfl,ty,e,q⟩:=h;obtain⟨u,v,rfl,ru,rv⟩:=Ua r;cases rv;cases ty with
 |of ty=>exact Ag I ru ty e λtk=>⟨.bl b,H,I.tok tk,rfl,q⟩
 |tup hq =>cases ru;obtain⟨ð,_,⟨o,h1,h2,_⟩,_⟩:=I.tuple hq;exact PySem.W.kia_one PySem.W.kitx_tuple I.kIn ⟨o,h1,h2⟩ e (λz=>nomatch z) λtk=>⟨.bl b,H,I.tok tk,rfl,q⟩
 |lst hq =>cases ru;obtain⟨ð,_,⟨o,n,h1,h2,_⟩,_⟩:=I.list hq;exact PySem.W.kia_one PySem.W.kitx_list I.kIn ⟨o,h1,h2⟩ e (λz=>nomatch z) λtk=>⟨.bl b,H,I.tok tk,rfl,q⟩
def Bw(hc:X.calm=fb):fm X (.builtin "all") λxs H Q=>∃p,∃bs:List Bool,xs=[.ref p]/\gm X.K H p (bs.map V.bl)/\Q (.bl<|bs.all id) H:=by
 intro Á s σ H xs us Q I r h;obtain⟨p,bs,rfl,hq,q⟩:=h;obtain⟨u,rfl,rx⟩:=ZL r;cases rx;obtain⟨ð,rv,pl,hz⟩:=I.list hq;have hlen:=rv.length;rw[Ã]at hlen;have Χ:p<s.heap.objs.size:=by obtain⟨o,n,e,_⟩:=pl;exact Ñ e
 refine call_all_walk<|ſ pl.isList ?_;refine⟨s.heap.objs.size,_,_,ð.toArray.size,_,_,λi=>bs.getD i fb,rfl,Walks.list (A:=X.A.in1) (I.ok.hd hc) s.heap.objs.size p (Ý Χ) ð.toArray,⟨⟨_,Ð _ rfl,rfl,rfl⟩,pl.isList.push _⟩,?_,λh' tk hk=>?_⟩
 .intro i v s' Q' E' hP hQ;have hP:ð[i]?=eY v:=by simpa using hP
  have hb:(bs.map V.bl)[i]?=eY (.bl<|bs.getD i fb):=by
   have hi:i<bs.length:=by have:=(Ò.mp hP).1;lia
   rw[Ú,ÿ];simp[hi]
  obtain⟨u,hu,ru⟩:=rv.get hb;rw[hP]at hu;cases hu;cases ru;exact Đ hQ
 .have e:(List.range ð.toArray.size).all (λi=>bs.getD i fb)=bs.all id:=by
   rw[Í,<-hlen,Bool.eq_iff_iff,ó,ó];constructor
   .intro h b hb;obtain⟨i,hi,rfl⟩:=List.mem_iff_getElem.mp hb;have:=h i<|Ŵ.mpr hi;rw[ÿ,É hi]at this;exact this
   .intro h i hi;have hi:=Ŵ.mp hi;rw[ÿ,É hi];exact h _<|ţ hi
  rw[e];refine⟨.bl _,H,I.kept (t':=tk) λb o e=>hk b o (λhm=>?_)<|Ä _ e,rfl,q⟩;have:b=s.heap.objs.size:=by simpa using hm
  exact gJ (this▸Ñ e)<|Ĥ _
abbrev sortI(ns:List Int):List Int:=ns.mergeSort λa b=>gK (a<=b)
def XB(ns:List Int):(sortI ns).Perm ns:=Ō ns _
def M3(ns:List Int):(sortI ns).Pairwise (·<=·):=by have h:=bV (le:=λa b:Int=>gK (a<=b)) (λa b c h1 h2=>by simp at *;lia) (λa b=>by simp;lia) ns;exact h.imp λh=>by simpa using h
variable {ns:List Int} {ms:List Int}
def YL(hp:ms.Perm ns)(hs:ms.Pairwise (·<=·)):ms=sortI ns:=PySem.W.ksm_same (hp.trans (XB ns).symm) hs (M3 ns)
def Ka(hp:ms.Perm ns):sortI ms=sortI ns:=YL ((XB ms).trans hp) (M3 ms)
def YD(ns:List Int):(sortI ns).length=ns.length:=(XB ns).length_eq
def YA:∀{vs:List Â}{ns:List Int},ü vs ns->gq (ns.map V.int) vs:=Wl
def call_sorted:fm X (.builtin "sorted") λxs H Q=>∃p,∃ns:List Int,xs=[.ref p]/\gm X.K H p (ns.map V.int)/\ns.length<64/\∀l,H l=eZ->Q (.ref l) (upd H l<|.lst<|(sortI ns).map V.int):=by intro Á s σ H xs us Q I r h;obtain⟨p,ns,rfl,hq,h64,q⟩:=h;obtain⟨u,rfl,rx⟩:=ZL r;cases rx;obtain⟨ð,rv,pl,hz⟩:=I.list hq;have hlen:=rv.length;rw[Ã]at hlen;refine sorted_ints pl.isList (ZB rv) (by lia) λout cq a1 a2 a3=>?_;have e:=YL a2 a3;subst e;obtain⟨n,he⟩:=sortedAll_at s.heap ð out;refine⟨.ref<|s.heap.objs.size+1,_,I.laid (a:=s.heap.objs.size+1) (o:=.lst<|(sortI ns).map V.int) (t':=s.toks) (λb o e=>sortedAll_old e) (ň _) ?_,rfl,q _<|I.hok.fresh<|ň _⟩;exact⟨by rw[Ã,YD];rw[Ã]at hz;exact hz,out.toList,n,YA a1,by simpa[Μ]using he⟩
def Ec:fm X (.type "set") (λxs H Q=>∃p,∃ns:List Int,xs=[.ref p]/\gm X.K H p (ns.map V.int)/\ns.length<4000/\X.calm=fb/\
    ∀l S n,H l=eZ->n=(ζ (λi=>ns.getD i 0) ns.length).length->Q (.ref l) (upd H l<|.set S n)):=by
 intro Á s σ H xs us Q I r h;obtain⟨p,ns,rfl,hq,h4,hc,q⟩:=h;obtain⟨u,rfl,rx⟩:=ZL r;cases rx;obtain⟨ð,rv,pl,hz⟩:=I.list hq;have hlen:=rv.length;rw[Ã]at hlen;refine call_set_list (I.ok.hd hc) pl.isList (by simpa using ZB rv) (by rw[Í];show ð.length+1<4096;lia) λh' tk hS hk=>?_;refine⟨.ref s.heap.objs.size,_,I.laid (a:=s.heap.objs.size) (o:=.set _ _) (t':=tk) (λb o e=>hk b o (Ñ e) e) (Ì _) hS,rfl,q _ _ _ (I.hok.fresh<|Ì _) ?_⟩;rw[Í,hlen]
def Bc:fm X (.builtin "len") λxs H Q=>∃p S n,xs=[.ref p]/\H p=eY (.set S n)/\Q (.int n) H:=by
 intro Á s σ H xs us Q I r h;obtain⟨p,S,n,rfl,hq,q⟩:=h;obtain⟨u,rfl,rx⟩:=ZL r;cases rx;obtain⟨o,es,ep,t,e,hex,hd,_,_,hb,hf,hn⟩:=(show fo X.prog X.w H s.heap p (.set S n) from I.hok p _ hq)
 subst hn;exact call_len_set e hex hd hf (by have:es.size<4096:=hb;lia) ⟨.int _,H,I.tok _,⟨_,rfl⟩,q⟩
end
section
variable {X:Cx}{x:Str}{p é:Pos}{e:Expr}{es:List Expr}{t:TA}
def PM{T:String}(hg:Gl X x)(hm:X.mg x=eZ)(hv:ũ x=eY (.type T))(hn:x≠"__name__":=by decide)(hd:(x==("__debug__" : Str))=fc:=by decide):PE X (.Name x é)<|tC<|.ty T:=E4 hg hm hv rfl hn hd
end
abbrev Yj(scope sc:ξ)(N:List Str)(x:List Str)(ö:List Nat):Bool :=
 scope.names.all (λy=>y.2 != .cell)&&scope.names.all (λy=>y.2 != .local||scope.names.lookup y.1==eY .local)&&x.all (λy=>scope.names.lookup y==eY .local) &&
 scope.names.all (λy=>y.2 != .free||sc.names.lookup y.1==eY .cell) &&
 ö.all (λj=>gK (j<N.length)&&sc.names.lookup (N.getD j Str.empty)==eY .cell&&scope.names.lookup (N.getD j Str.empty)==eY .free)&&gK (x++ö.map λj=>N.getD j Str.empty).Nodup
def OV{X:Cx}{scope sc:ξ}{x:List Str}{ö:List Nat}{N:List Str}(hsc:X.env.scope=sc)(hN:X.N=N)(hk:scope.kind=.function)(h:Yj scope sc N x ö=fb):BlkOk X scope x ö:=by
 unfold Yj at h;simp only[bAq]at h;obtain⟨⟨⟨⟨⟨h1,h2⟩,h3⟩,h4⟩,h5⟩,h6⟩:=h;rw[ó]at h1 h2 h4 h5;refine⟨hk,λy hy=>by simpa using h1 y hy,λy hy e=>?_,λy hy=>by simpa using ó.mp h3 y hy,λy hy e=>?_,λj hj=>?_,?_⟩
 .have:=h2 y hy;rw[e]at this;simpa using this
 .have:=h4 y hy;rw[e]at this;show X.env.scope.names.lookup y.1=_;rw[hsc];simpa using this
 .have:=h5 j hj;simp only[bAq,gH,beq_iff_eq]at this;obtain⟨⟨a,b⟩,c⟩:=this;refine⟨?_,?_,?_⟩
  .rw[hN,É a];rfl
  .show X.env.scope.names.lookup _=_;rw[hsc,hN];exact b
  .rw[hN];exact c
 .unfold Z1;rw[hN];exact of_decide_eq_true h6
abbrev fE(r:È)(H H':Hp):Prop:=∀b o,H b=eY o->b≠r->H' b=eY o
variable {H:Hp} {H':Hp}
def Same.keep(e:Same H H')(r:È):fE r H H':=λb o h _=>e b o h
def fE.refl(r:È)(H:Hp):fE r H H:=λ_ _ h _=>h
variable {r:È}
def fE.trans{H1 H2:Hp}(a:fE r H H1)(b:fE r H1 H2):fE r H H2:=λc o h n=>b c o (a c o h n) n
def fE.upd{o:HO}:fE r H<|L2.upd H r o:=λb u h n=>by rw[fe n];exact h
def fE.free(e:fE r H H'){l:È}(hr:∃o,H' r=eY o)(h:H' l=Option.none):H l=Option.none:=by
 cases q:H l with
 |none=>rfl
 |some o =>
  by_cases hl:l=r
  .subst hl;obtain⟨o',z⟩:=hr;rw[h]at z;cases z
  .rw[e l o q hl]at h;cases h
mutual
noncomputable def N2:ŭ->Bool
 |.list _=>fc
 |.tuple xs=>noLists xs
 |.dict _=>fc
 |_=>fb
noncomputable def noLists:List ŭ->Bool
 |[]=>fb
 |x::xs=>N2 x&&noLists xs
end
variable {a:È} {xs:List V}
def gp.keep{K:Frag}{zs:List V}(k:fE r H H')(hr:H r=eY (.lst zs))(h:gp K H a xs):gp K H' a xs:=by
 rcases h with(h|⟨o,h⟩)|h
 .exact .inl (.inl<|k _ _ h<|Bt h hr<|by intro z;cases z)
 .exact .inl (.inr ⟨o,k _ _ h<|Bt h hr<|by intro z;cases z⟩)
 .exact .inr h
def gm.keep{K:Frag}(k:fE r H H')(hr:a≠r)(h:gm K H a xs):gm K H' a xs:=by
 rcases h with(h|⟨o,h⟩)|h
 .exact .inl<|.inl<|k _ _ h hr
 .exact .inl<|.inr ⟨o,k _ _ h hr⟩
 .exact .inr h
mutual
theorem IsD.keep{K:Frag}{r:È}{H H':Hp}{zs:List V}(k:fE r H H')(hr:H r=eY (.lst zs)):∀{v:V}{d:ŭ},IsD K H v d->N2 d=fb->IsD K H' v d
 |_,_,.non,_=>.non
 |_,_,.bl b,_=>.bl b
 |_,_,.int i,_=>.int i
 |_,_,.str x,_=>.str x
 |_,_,.lst q qs,h=>by cases h
 |_,_,.tup q qs,h=>.tup (q.keep k hr)<|IsDs.keep k hr qs h
theorem IsDs.keep{K:Frag}{r:È}{H H':Hp}{zs:List V}(k:fE r H H')(hr:H r=eY (.lst zs)):∀{vs:List V}{ds:List ŭ},IsDs K H vs ds->noLists ds=fb->IsDs K H' vs ds
 |_,_,.nil,_=>.nil
 |_,_,.cons q qs,h=>by have h':=ϝ.mp (show(N2 _&&noLists _)=fb from h);exact .cons (IsD.keep k hr q h'.1)<|IsDs.keep k hr qs h'.2
end
noncomputable abbrev Tie:=Int×Int×Int
abbrev Rm(t:Tie):ŭ:=.tuple [.int t.1,.int t.2.1,.int t.2.2]
def IsD.tie{K:Frag}{x y c:Int}(h:gp K H a [.int x,.int y,.int c]):IsD K H (.ref a)<|Rm (x,y,c):=.tup h (.cons (.int x)<|.cons (.int y)<|.cons (.int c) .nil)
variable {c:Bool} {A:Prop} {B:Prop}
def f6(e:c=fb)(h:A):if c=fb then A else B:=by rw[gD e];exact h
def f7(e:c=fc)(h:B):if c=fb then A else B:=by rw[e,gE ù];exact h
structure BrOk(ns:List Int):Prop where
 one:1<=ns.length
 ten:ns.length<=10
 rng:∀n∈ns,0<=n/\n<=999
 nd:ns.Nodup
structure TieOk(ns:List Int)(t:Tie):Prop where
 a:t.1∈ns
 b:t.2.1∈ns
 ne:t.1≠t.2.1
 lo:1<=t.2.2
 hi:t.2.2<=1000
structure TsOk(ns:List Int)(ts:List Tie):Prop where
 few:ts.length<=16
 each:∀t∈ts,TieOk ns t
abbrev mn(x y:Int):Int:=if y<x then y else x
abbrev mx(x y:Int):Int:=if y > x then y else x
abbrev loT(t:Tie):Tie:=(mn t.1 t.2.1,mx t.1 t.2.1,t.2.2)
variable {ns:List Int} {ms:List Int}
def BrOk.perm(h:BrOk ns)(p:ms.Perm ns):BrOk ms:=⟨by rw[p.length_eq];exact h.one,by rw[p.length_eq];exact h.ten,λn hn=>h.rng n<|p.mem_iff.mp hn,p.nodup_iff.mpr h.nd⟩
def TsOk.perm{ts:List Tie}(h:TsOk ns ts)(p:ms.Perm ns):TsOk ms ts:=⟨h.few,λt ht=>let ⟨a,b,c,d,e⟩:=h.each t ht;⟨p.mem_iff.mpr a,p.mem_iff.mpr b,c,d,e⟩⟩
section
variable {X:Cx}(K:Frag) (h:X.K=K)
include h
end
section
variable {prog:â}{w:ô}{A:Ą}{E:Â->Å->Prop}{s:Å}
variable {it:È} {i:Nat} {items:Array Â} {Q:Â->Å->Prop}
def NZ{t:È}{x:Â}(bG:s.heap.IsTupleIter it t i)(ht:s.heap.IsTuple t items)(hx:items[i]?=eY x)
  (hQ:∀h',h'.IsTupleIter it t (i+1)->Ţ it s.heap h'->Q x {s with heap:=h'}):wpAny (Ù prog w) A (Builtin.SmallTypes.nextOf<|.ref it) Q E s:=by
 obtain⟨o,ho,hc,hd⟩:=id bG;obtain⟨ot,hot,_,nt,hdt⟩:=ht;unfold Builtin.SmallTypes.nextOf;refine À<|Ĕ (name:=gL "__next__") bG.typeIs F.slot_tuple_iterator_next<|ĉ F.slot_tuple_iterator_next bG.typeIs F.entry_tuple_iterator_next ?_<|F.args_tuple_iterator_next_1 _;show wpAny _ _ (dN (.ref it) 0 >>= _) _ _ s;refine À<|ĭ ho hd (x:=.ref t) rfl ?_;show wpAny _ _ (if(Value.ref t==Value.none)=fb then _ else _) _ _ s;rw[gE<|show ¬ ((Value.ref t==Value.none)=fb) from ù];show wpAny _ _ (dN (.ref it) 1 >>= _) _ _ s;refine À<|ĭ ho hd (x:=.int i 0) rfl ?_;show wpAny _ _ (ϙ (.ref t) >>= _) _ _ s;refine À<|ķ hot hdt ?_;simp only[ä,hx];refine À (ĸ ho hd (by simp)<|Æ ⟨x,rfl,Æ<|hQ _ ⟨_,Ď _ ho<|Ϛ<|ŕ hd _,(ah ..).trans hc,?_⟩<|þ ..⟩);rw[ŕ hd];simp[Ģ]
def KN{t:È}(hh:A.handled=eZ)(bG:s.heap.IsTupleIter it t i)(ht:s.heap.IsTuple t items)(hx:items[i]?=eZ)
  (hE:∀h' e,Heap.ExtBut it s.heap h'->(∃o,h'.get? e=eY o/\o.cls=.type "StopIteration")->E (.ref e) {s with heap:=h'}):wpAny (Ù prog w) A (Builtin.SmallTypes.nextOf<|.ref it) Q E s:=by
 obtain⟨o,ho,hc,hd⟩:=id bG;obtain⟨ot,hot,_,nt,hdt⟩:=ht;unfold Builtin.SmallTypes.nextOf;refine À<|Ĕ (name:=gL "__next__") bG.typeIs F.slot_tuple_iterator_next<|ĉ F.slot_tuple_iterator_next bG.typeIs F.entry_tuple_iterator_next ?_<|F.args_tuple_iterator_next_1 _;show wpAny _ _ (dN (.ref it) 0 >>= _) _ _ s;refine À<|ĭ ho hd (x:=.ref t) rfl ?_;show wpAny _ _ (if(Value.ref t==Value.none)=fb then _ else _) _ _ s;rw[gE<|show ¬ ((Value.ref t==Value.none)=fb) from ù];show wpAny _ _ (dN (.ref it) 1 >>= _) _ _ s;refine À<|ĭ ho hd (x:=.int i 0) rfl ?_;show wpAny _ _ (ϙ (.ref t) >>= _) _ _ s;refine À<|ķ hot hdt ?_;simp only[ä,hx];refine À (π<|À<|ĸ ho hd (by simp) ?_);show wpAny _ _ (cE (.type "StopIteration") [] >>= _) _ _ _;refine À ?_;simp only[cE,newTuple];refine À (Ā (À (m:=η _ _)<|ϳ (a:=Value.none) (by first|rfl|(simp only[η];rfl))<|Ā ?_<|by size_fits)<|by size_fits);simp only[raiseNew];refine À<|dy ?_
 first
 |rw[show A.in1.handled=eZ from hh]
 |rw[hh]
 exact À<|Æ<|wpAny_throw<|hE _ _ (((þ ..).extBut.push _).push _) ⟨_,Ð _ rfl,rfl⟩
end
variable {prog:â} {w:ô} {A:Ą}
def IA(hh:A.handled=eZ)(it t:È)(ű:t≠it)(items:Array Â) :
  Draws prog w A it [it,t] items.size (λi v=>items[i]?=eY v) (λi h=>h.IsTupleIter it t i/\h.IsTuple t items) where
 live:=λ_ _ st=>let ⟨o,ho,_⟩:=st.1;⟨o,ho⟩
 frame:=λ_ _ _ st hk=>⟨st.1.at λo e=>hk it (by simp) o e,st.2.at λo e=>hk t (by simp) o e⟩
 item:=λi s Q E hi st hQ=>NZ st.1 st.2 (x:=items[i]) (by simp[hi]) λh' hit' hs'=>hQ _ h' s.toks (by simp[hi]) ⟨hit',st.2.extBut hs'.extBut ű⟩ hs'
 done:=λs Q E st hE=>KN hh st.1 st.2 (by simp) hE
open AutoSeq1 (wpAny_loadPart') in
def HV(l:È)(items:Array Â)(n:Nat)(dct:Option È)(sl:Array<|Option Â) :
  Meets (Builtin.«enumerate.__new__» ⟨[.type "enumerate",.ref l],[]⟩) (λ_ R s=>s.heap.get? l=eY { cls:=.type "tuple",dict:=dct,data:=.seq items n,slots:=sl }/\
    R (.ok<|.ret<|.ref (s.heap.push {cls:=.type "tuple_iterator",data:=.fields #[.ref l,.int 0 0]}).objs.size)
      { s with heap:=(s.heap.push { cls:=.type "tuple_iterator",data:=.fields #[.ref l,.int 0 0] }).push { cls:=.type "enumerate",data:=.fields #[.none,.bool fc,.ref s.heap.objs.size,Ģ 0,.none,.none] } }) :=
 .of_wp λprog w A R s h=>by
  obtain⟨hp,g,d,tk,os⟩:=s;obtain⟨hl,h⟩:=h;have hsub:=sub_enumerate;have hL:Heap.IsTuple (Shared.heap ⟨hp,g,d,tk,os⟩) l items:=⟨_,hl,rfl,n,rfl⟩
  wp_walk using Ġ hl
  refine wpAny_stack_any λst=>Æ ?_;split
  .rename_i c _ _ _ _ _;cases (c==Value.type "enumerate")<;>(wp_walk using Ġ hl,aw hL;exact⟨_,rfl,h⟩)
  .wp_walk using Ġ hl,aw hL;exact⟨_,rfl,h⟩
def Ow{E:Â->Å->Prop}{s:Å}{l:È}{items:Array Â}{Q:Â->Å->Prop}(hL:s.heap.IsTuple l items)
  (h:∀h',IsEnum h' (s.heap.objs.size+1) s.heap.objs.size 0 .none->h'.IsTupleIter s.heap.objs.size l 0->(∀b o,s.heap.get? b=eY o->h'.get? b=eY o)->Q (.ref<|s.heap.objs.size+1) {s with heap:=h'}) :
  wpAny (Ù prog w) A (call (.type "enumerate") [.ref l]) Q E s:=by
 obtain⟨⟨c,dct,dt,sl⟩,hl,hc,n,hd⟩:=hL;simp only at hc hd;subst hc hd;refine callType_new F.called_enumerate (by decide) (F.typeCall_enumerate_1 _) (F.newCall_enumerate_1 _) (λobj=>F.args_object_init_2 obj _) F.entry_enumerate_new (HV l items n dct sl) ⟨hl,?_⟩;have hz:(s.heap.push {cls:=.type "tuple_iterator",data:=.fields #[.ref l,.int 0 0]}).objs.size=s.heap.objs.size+1:=ŵ ..;have hg:=Ð (s.heap.push {cls:=.type "tuple_iterator",data:=.fields #[.ref l,.int 0 0]}) (o:={cls:=.type "enumerate",data:=.fields #[.none,.bool fc,.ref s.heap.objs.size,Ģ 0,.none,.none]}) rfl;rw[hz]at hg;show _/\_;rw[hz];exact⟨⟨_,hg,rfl⟩,h _ hg ⟨_,Ä _<|Ð _ rfl,rfl,rfl⟩ λb o x=>Ä _<|Ä _ x⟩
section
variable {X:Cx}{Á:List (È×Obj)}{σ:St}{H:Hp}{s:Å}{h':ă}
def Inv.turnedL{t':Nat}{ch:List È}(I:Inv X Á σ H s)(k:∀b o,b∉ch->s.heap.get? b=eY o->h'.get? b=eY o)(hc:∀b∈ch,Wi X Á H b):Inv X Á σ H {s with heap:=h',toks:=t'}:=by
 have nit:∀b u,H b=eY u->b∉ch:=λb u e z=>by rw[(hc b z).1]at e;cases e
 refine I.step (g':=s.gens) (d':=s.drawn) (ch:=ch) (λb hb=>?_) (λb o _ _ hcb e _=>k b o hcb e) (λb o _ _ hcb e _=>⟨o.slots,k b o hcb e⟩) (λ_ _ _ _ n=>n)
  (λb o hcb e=>⟨o,k b o hcb e⟩) (λ_ _ e=>e) (λ_ _ _ e=>e) (λb ps e=>⟨#[],by rw[e];simp⟩) (λm hm=>?_) (λb u e=>?_) I.bare
 .obtain⟨_,q2,_,q4,q5,q6⟩:=hc b hb;exact⟨q4,q2,q5,q6⟩
 .obtain⟨o,es,ep,ho,r⟩:=hm;exact⟨o,es,ep,k _ o (λz=>(hc _ z).2.1 rfl) ho,r⟩
 .refine(I.hok b u e).stay (λc v hcc q=>k c v ?_ q) (λ_ q=>q) λ_ _ q=>q;rcases hcc with z|z
  .rw[z];exact nit b u e
  .exact nit c _ z
def Inv.track{T:È}{o:HO}(I:Inv X Á σ H s)(hT:H T=eZ)(h0:X.s₀.heap.objs.size<=T)(hL:T≠X.env.locals)(aM:∀x c,X.env.cells.lookup x=eY c->c≠T)(hp:∀p∈X.pn++Á,p.1≠T)
  (new:fo X.prog X.w (upd H T o) s.heap T o):Inv X Á σ (upd H T o) s:=by
 have neT:∀b ob,X.s₀.heap.get? b=eY ob->b≠T:=λb ob e=>Ý<|á (Ñ e) h0;refine⟨I.ok,I.os,I.bare,⟨I.base.keep,I.base.slot,λb ob e n hx=>?_,I.base.there,λb xs e=>?_,λb ob xs e=>?_,λb ps e=>?_⟩,I.loc,I.cell,?_,λx c e=>?_,λp hpp=>?_,I.hok.track hT new,I.len⟩
 .rw[fe<|neT b ob e];exact I.base.free b ob e n hx
 .have q:=I.base.tups b xs e;rw[fe<|Zh q hT];exact q
 .have q:=I.base.frzs b ob xs e;rw[fe<|Zh q hT];exact q
 .obtain⟨m,q⟩:=I.base.tbls b ps e;exact⟨m,by rw[fe<|Zh q hT];exact q⟩
 .rw[fe hL.symm];exact I.free
 .rw[fe<|aM x c e];exact I.freeC x c e
 .obtain⟨a,b,c,d,e⟩:=I.pin p hpp;exact⟨a,by rw[fe<|hp p hpp];exact b,c,d,e⟩
end
abbrev Ite(K:Frag)(a:È):It :=
 ⟨λi H=>∃xs x,gp K H a xs/\xs[i]?=eY x,λi H v H'=>∃p,v=.ref p/\H p=eZ/\∀xs x,gp K H a xs->xs[i]?=eY x->H'=upd H p (.tup [.int i,x]),λi H=>∃xs,gp K H a xs/\xs.length<=i⟩
variable {es:List Expr} {kk:Nat} {tp:Pos}
def Ou{P:â}{K:Frag}(a it e:È)(ű:e≠it) :
  Turn P w K (.Tuple es kk tp) (Ite K a) [e,it] e (λi h=>(∃ϩ,IsEnum h e it i ϩ)/\h.IsTupleIter it a i) where
 mem:=by simp
 obj:=λi h st b hb=>by
  obtain⟨⟨ϩ,h1⟩,o2,e2,_,d2⟩:=st;rcases Ç.mp hb with q|q
  .subst q;exact⟨_,h1,λv z=>by cases z⟩
  .have q:b=it:=by simpa using q
   subst q;exact⟨o2,e2,λv z=>by rw[d2]at z;cases z⟩
 keep:=λi h h' st k=>⟨let ⟨ϩ,h1⟩:=st.1;⟨ϩ,k e (by simp) _ h1⟩,st.2.at λo q=>k it (by simp) o q⟩
 item:=by
  intro X hP hw hK hc i Á s σ H E I hf st hg;subst hP hw hK;obtain⟨xs,x,hq,hx⟩:=hg;obtain⟨ð,rv,pl,hz⟩:=I.tuple hq;obtain⟨u,hu,ru⟩:=rv.get hx;have hsz:=rv.length;have hi:i<ð.toArray.size:=by rw[Í];exact(Ò.mp hu).1
  obtain⟨⟨ϩ,h1⟩,h2⟩:=st;have hfi:=hf it (by simp);have hai:a≠it:=λz=>by obtain⟨o,ho,aM,_⟩:=h2;obtain⟨o',ap,hcl',_⟩:=pl;rw[z,ho]at ap;cases ap;rw[aM]at hcl';exact gJ (aa hcl') (by decide)
  have hae:e∉[it,a]:=λz=>by
   rcases Ç.mp z with z|z
   .exact ű z
   .have z:e=a:=by simpa using z
    obtain⟨o',ap,hcl',_⟩:=pl;rw[<-z,h1]at ap;cases ap;exact gJ (aa hcl') (by decide)
  refine wpAny_pyNext_enum_itemD (IA (A:=X.A.in1) (I.ok.hd hc) it a hai ð.toArray) h1 ⟨h2,pl⟩ hi ű hae λv h3 tk hv hout hst3 hT _ hk=>?_;have ev:v=u:=by
   have hv:ð[i]?=eY v:=by simpa using hv
   rw[hu]at hv;exact(æ hv).symm
  subst ev;have nT:∀b∈[e,it],s.heap.objs.size≠b:=λb hb z=>by
   rcases Ç.mp hb with q|q
   .exact gJ (Ñ h1) (by rw[<-q,<-z];exact Ĥ _)
   .have q:b=it:=by simpa using q
    obtain⟨o,ho,_⟩:=h2;exact gJ (Ñ ho) (by rw[<-q,<-z];exact Ĥ _)
  have bS:=I.fpOk (H':=H) (Ì s.heap.objs.size) I.fresh;refine⟨.ref s.heap.objs.size,rfl,wpAny_letOwnedTupleGo_enum hout λh4 he4 hs4=>?_⟩;have I4:Inv X Á σ H {s with heap:=h4,toks:=tk+1}:=I.turnedL (t':=tk+1) (ch:=[e,it]) (λb o hb q=>hs4.extBut b o (λz=>hb<|by simp[z])<|hk b o (λz=>hb<|by simp[z]) (λz=>hb<|by simp[z]) q) hf;have hT4:h4.get? s.heap.objs.size=eY {cls:=.type "tuple",data:=.seq #[.int i tk,v]}:=hs4.extBut _ _ (nT e<|by simp) hT;obtain⟨f0,f1,f2,f3,f4,f5⟩:=bS;have I5:Inv X Á σ (upd H s.heap.objs.size<|.tup [.int i,x]) {s with heap:=h4,toks:=tk+1}:=I4.track f0 I.sz f1 f4 f5 ⟨by show 2<=Õ;decide,[.int i tk,v],.cons ⟨tk,rfl⟩<|.cons ru .nil,_,hT4,rfl,_,rfl⟩;refine⟨.ref s.heap.objs.size,_,I5,rfl,⟨s.heap.objs.size,rfl,f0,λys y hy hyi=>?_⟩,⟨⟨v,by simpa using he4⟩,hst3.1.at λo q=>hs4.extBut it o (Ne.symm ű) q⟩,λb hb=>?_⟩
  .have ey:ys=xs:=I.tuple_inj hy hq;rw[ey,hx]at hyi;rw[æ hyi]
  .rw[fe (nT b hb).symm];exact(hf b hb).1
 done:=by
  intro X hP hw hK hc i Á s σ H E I hf st hg;subst hP hw hK;obtain⟨xs,hq,hx⟩:=hg;obtain⟨ð,rv,pl,hz⟩:=I.tuple hq;have hl:=rv.length;obtain⟨⟨ϩ,h1⟩,h2⟩:=st;have hai:a≠it:=λz=>by obtain⟨o,ho,aM,_⟩:=h2;obtain⟨o',ap,hcl',_⟩:=pl;rw[z,ho]at ap;cases ap;rw[aM]at hcl';exact gJ (aa hcl') (by decide)
  have hT:s.TypeIs (.ref e) "enumerate":=⟨_,h1,rfl⟩
  unfold Ŭ;refine À<|al<|Ĕ (name:=gL "__next__") hT F.slot_enumerate_next<|ĉ F.slot_enumerate_next hT F.entry_enumerate_next ?_<|F.args_enumerate_next_1 _;show wpAny _ _ (dN (.ref e) 2 >>= _) _ _ _;refine À<|ĭ h1 rfl (x:=.ref it) rfl ?_;refine À (KN (A:=X.A.in1) (I.ok.hd hc) h2 pl (by simp;lia) λh' x he' hx'=>?_);obtain⟨o,ho,aM⟩:=hx';refine À<|ϛ (T:="StopIteration") (b:=fb) ⟨o,ho,aM⟩ cF<|Æ ⟨rfl,?_⟩;exact I.turnedL (t':=s.toks) (ch:=[it]) (λb ob hb q=>he' b ob (λz=>hb<|by simp[z]) q) λb hb=>hf b<|Þ _ hb
 self:=λA i s Q E st h=>by obtain⟨⟨ϩ,h1⟩,_⟩:=st;exact wpAny_pyIter_enum h1 h
section
variable {X:Cx}
abbrev LK(K:Frag)(ta:TA):TI:=λσ H R=>ta σ H λvs H1=>∃a,vs=[.ref a]/\(∃xs,gp K H1 a xs)/\R (Ite K a) H1
def Dv{p é:Pos}{e:Expr}{ta:TA}(hg:Gl X "enumerate")(hm:X.mg "enumerate" = eZ)(ha:PA X [e] ta)(hs:Ô [e] X.env=[(fc,eval e X.env)]:=by rfl) :
  PI X (.Tuple es kk tp) (.Call (.Name "enumerate" p) [e] [] é) (LK X.K ta):=by
 intro Á s σ H R I h;refine Call_ (YN (u:=.type "enumerate") I hg hm (by kernel_rfl)<|PyProof.Rows.callWith_type1 (T:="enumerate") (thn (ha é Á s σ H _ I h) λus s1 ⟨vs,H1,I1,r1,q1⟩=>?_) hs rfl);obtain⟨a,e1,⟨xs,hq⟩,q⟩:=q1;subst e1;obtain⟨u,rfl,ru⟩:=ZL r1;cases ru;obtain⟨ð,rv,pl,hz⟩:=I1.tuple hq;refine Ow pl λh2 he2 ee hk2=>?_;have I2:Inv X Á σ H1 {s1 with heap:=h2}:=I1.kept (t':=s1.toks) hk2;refine wpAny_pyIter_enum he2 ⟨s1.heap.objs.size+1,[s1.heap.objs.size+1,s1.heap.objs.size],_,_,H1,rfl,I2,Ou a s1.heap.objs.size (s1.heap.objs.size+1)<|Ŕ<|Ğ _,⟨⟨_,he2⟩,ee⟩,λb hb=>?_,q⟩;have bC:s1.heap.objs.size<=b:=by
  rcases Ç.mp hb with z|z
  .rw[z];exact ň _
  .have z:b=s1.heap.objs.size:=by simpa using z
   rw[z];exact Ì _
 exact I1.fpOk bC<|I1.hok.fresh bC
end
end L2
namespace L2
open PySem PySem.Spec PyProof.Rows
open PySem.Builtin PySem.Builtin.Str
noncomputable abbrev TJ:=St->Hp->Str->(Str->Hp->Prop)->Prop
abbrev PJ(X:Cx)(vs:List Expr)(t:TJ):Prop :=
 ∀(Á:List<|È×Obj) (s:Å) (σ:St) (H:Hp) (ģ:Str) (Q:Str->Hp->Prop),Inv X Á σ H s->t σ H ģ Q->
  Joins (Ù X.prog X.w) X.A X.xe (cG vs X.env) ģ (λout s1=>∃H1,Inv X Á σ H1 s1/\out.length<=Õ/\Q out H1) s
abbrev RJ:TJ:=λ_ H ģ Q=>ģ.length<=Õ/\Q ģ H
abbrev Q3(te:TE)(tr:TJ):TJ:=λσ H ģ Q=>te σ H λx H1=>∃y,x=.str y/\(ģ++y).length<=Õ/\tr σ H1 (ģ++y) Q
section
variable {X:Cx}{e:Expr}{es:List Expr}{te:TE}{tr:TJ}{é:Pos}
def pj_nil:PJ X [] RJ:=λÁ s σ H ģ Q I h=>⟨H,I,h.1,h.2⟩
def GF(he:PE X e te)(hr:PJ X es tr)(hs:cG (e::es) X.env=eval e X.env::cG es X.env:=by rfl):PJ X (e::es)<|Q3 te tr:=by intro Á s σ H ģ Q I h;rw[hs];show wpAny _ _ _ _ _ _;refine thn (he Á s σ H _ I h) λv s1 ⟨x,H1,I1,r1,y,e1,hz,q1⟩=>?_;subst e1;obtain⟨t,rfl⟩:=r1;exact⟨y,t,rfl,hz,hr Á s1 σ H1 (ģ++y) Q I1 q1⟩
def Joins.imp{M:Model}{A:Ą}{E:Â->Å->Prop}:∀{ps:List (Sem Â)}{ģ:Str}{Q Q':Str->Å->Prop}{s:Å},(∀o s,Q o s->Q' o s)->Joins M A E ps ģ Q s->Joins M A E ps ģ Q' s
 |[],_,_,_,_,f,h=>f _ _ h
 |_::_,_,_,_,_,f,h=>thn h λv s1 ⟨y,t,e,hz,hr⟩=>⟨y,t,e,hz,Joins.imp f hr⟩
end
abbrev Wt(x:Str):List Nat:=x.cps.toList
abbrev dg(n:Int):Str:=gL<|toString n
abbrev U3(m:Nat):List Nat:=(Nat.toDigits 10 m).map Œ
def Dq(m:Nat):Wt (dg (m:Int))=U3 m:=PySem.W.KIN.signs_num m
abbrev GZ(m:Nat):Bool:=gK (1<=(U3 m).length)&&gK ((U3 m).length<=4)&&(U3 m).all (λc=>gK (48<=c)&&gK (c<=57))&&(if m=0 then U3 m==[48]else(U3 m).head? != eY 48)
def FF:(List.range 1001).all GZ=fb:=by decide +kernel
structure FigOk(n:Int):Prop where
 one:1<=(Wt<|dg n).length
 four:(Wt<|dg n).length<=4
 fig:∀c∈Wt (dg n),48<=c/\c<=57
 nought:n=0->Wt (dg n)=[48]
 first:n≠0->(Wt<|dg n).head?≠eY 48
def IQ{n:Int}(h0:0<=n)(h1:n<=1000):FigOk n:=by
 obtain⟨m,rfl⟩:∃m:Nat,n=(m:Int):=⟨n.toNat,by lia⟩
 have h:=ó.mp FF m (Ŵ.mpr<|by lia);unfold GZ at h;simp only[bAq,gH]at h;obtain⟨⟨⟨a,b⟩,c⟩,d⟩:=h;rw[<-Dq]at a b c d;refine⟨a,b,λk hk=>?_,λe=>?_,λe=>?_⟩
 .have:=ó.mp c k hk;simpa using this
 .have e:m=0:=by lia
  rw[gD e]at d;simpa using d
 .have e:¬ m=0:=by lia
  rw[gE e]at d;simpa using d
abbrev wT:Str:="tie"
abbrev nl:Str:="\n"
abbrev fl(ls:List Str):List Nat:=(ls.map λl=>Wt l++[10]).flatten
structure fB(bs:List Int)(ts:List Tie):Prop where
 br:BrOk bs
 ti:TsOk bs ts
 so:sortI bs=bs
 lo:ts.map loT=ts
variable {n:Int}
def BrOk.fig{bs:List Int}(h:BrOk bs)(hn:n∈bs):FigOk n:=IQ (h.rng n hn).1 (by have:=(h.rng n hn).2;lia)
def FigOk.no(h:FigOk n){c:Nat}(hc:c<48):c∉Wt (dg n):=λm=>by have:=(h.fig c m).1;lia
end L2
namespace L2
open PySem PySem.Spec PyProof.Rows
variable {P:â} {w:ô} {H:Hp} {h:ă} {a:È}
def fo.obj{o:HO}(x:fo P w H h a o):∃u,h.get? a=eY u:=by
 cases o with
 |lst xs=>obtain⟨_,_,_,_,e⟩:=x;exact⟨_,e⟩
 |tup xs=>obtain⟨_,_,_,ob,e,_⟩:=x;exact⟨_,e⟩
 |dK kvs=>obtain⟨_,_,_,_,o,_,_,e,_⟩:=x;exact⟨_,e⟩
 |dT kvs=>obtain⟨_,_,_,_,o,_,_,e,_⟩:=x;exact⟨_,e⟩
 |set S n=>obtain⟨o,_,_,_,e,_⟩:=x;exact⟨_,e⟩
 |ins C dx fs=>obtain⟨_,_,_,e,_⟩:=x;exact⟨_,e⟩
 |own y=>exact x
 |xd fs=>obtain⟨_,⟨_,_,_,e,_⟩,_⟩:=x;exact⟨_,e⟩
 |rng lo hi=>obtain⟨_,_,_,e⟩:=x;exact⟨_,e⟩
 |frz ob u=>exact⟨_,x.1⟩
 |tbl ps=>exact⟨_,(show h.get? a=eY _ from x)⟩
 |met f y=>exact⟨_,(show h.get? a=eY _ from x)⟩
 |ext φ=>exact x.2.1
def HOk.none_of(x:HOk P w H h)(e:h.get? a=eZ):H a=eZ:=by
 cases q:H a with
 |none=>rfl
 |some u =>obtain⟨ob,z⟩:=(x a u q).obj;rw[e]at z;cases z
abbrev FD(h:ă)(a:È)(cls:Â)(T:Option È):Prop :=
 ∃oe vs a0,h.get? a=eY oe/\oe.cls=cls/\oe.data=.fields vs/\vs[0]?=eY a0/\
  match T with
  |none=>vs[1]?=eY .none
  |some T=>vs[1]?=eY (.ref T)/\T≠a/\∃oT ts fl,h.get? T=eY oT/\oT.data=.fields ts/\ts[3]?=eY fl
structure Fl(P:â)(w:ô)(l:List Env)(H:Hp)(s:Å)(H':Hp)(a:È)(cls:Â)(s':Å):Prop where
 os:s'.os=s.os
 bare:Ψ s'.gens
 un:Un (frs l) [] H H' s.heap s'.heap
 hok:HOk P w H' s'.heap
 na:s.heap.get? a=eZ
 ha:H' a=eZ
 ex:∃T,FD s'.heap a cls T/\∀t,T=eY t->s.heap.get? t=eZ/\H' t=eZ
abbrev CX1(P:â)(w:ô):CXT:=λl H s E e s'=>∃a cls H',e=.ref a/\Fl P w l H s H' a cls s'/\E cls eZ H'
abbrev XW(X:Cx)(E:XK):Prop:=∀(Á:List<|È×Obj) (σ:St) (H:Hp) (s:Å) (H':Hp) (a:È) (cls:Â) (s':Å),
 Inv X Á σ H s->Fl X.prog X.w X.stack H s H' a cls s'->E cls eZ H'->X.xe (.ref a) s'
def XW.passes{X:Cx}{E:XK}(h:XW X E):YY (CX1 X.prog X.w) X E:=λÁ σ H s e s' I ⟨a,cls,H',z,f,q⟩=>by subst z;exact h Á σ H s H' a cls s' I f q
section
variable {M:Model}{A:Ą}{E:Â->Å->Prop}{s:Å}{B:ă}{env:Env}{outer:List Env}{L a:È}{cls:Â}{T:Option È}{Q:Unit->Å->Prop}
abbrev Y6(h:ă)(l:List Env)(a:È)(T:Option È):ă:=PySem.W.hideAll h<|a::(T.toList++frs l)
def Xg(h:ă)(l:List Env)(a:È)(T:Option È):(Y6 h l a T).StaysIn h:=λb o e=>PySem.W.of_hideAll _ e
def JH{l:List Env}(a:È)(T:Option È)(hl:h.FunFrames B l):h.FunFrames (Y6 h l a T) l :=
 PySem.W.funFrames_hide hl λe he b hb=>Þ _<|Ê _<|χ.mpr ⟨e,he,hb⟩
def OX(h:ă)(l:List Env)(a:È)(T:Option È):(Y6 h l a T).get? a=eZ:=PySem.W.hideAll_none _ î
def UE(h:ă)(l:List Env)(a t:È):(Y6 h l a<|eY t).get? t=eZ:=PySem.W.hideAll_none _ (Þ _<|Ö _<|by simp)
def AA(bS:A.frames=eY (env::outer))(hf:env.frame=eY L)(hl:s.heap.FunFrames B<|env::outer)(hx:FD s.heap a cls T)
  (fin:∀h' a0,Heap.NotedW (Y6 s.heap (env::outer) a T) (env::outer) a cls a0 (Ģ L) s.heap h'->Q () {s with heap:=h'}):wpAny M A (bu (.ref a) env) Q E s:=by
 obtain⟨oe,vs,a0,he,hc,hd,h0,ht⟩:=hx;have fin:=λh'=>fin h' a0;cases T with
 |none =>subst hc;unfold bu;simp only[hf];refine À<|ĭ he hd ht ?_;rw[gE<|by decide];exact wpAny_entryW bS (JH a eZ hl) hf he (Xg _ _ _ _) (OX _ _ _ _) hd (Ľ.mp ht).1 h0 fin
 |some t =>
  obtain⟨h1,ű,oT,ts,fl,e1,e2,e3⟩:=ht;by_cases c:fl=Ģ L
  .subst c;have tr:s.heap.TracedAtW (Y6 s.heap (env::outer) a<|eY t) a cls a0<|Ģ L:=⟨oe,vs,t,oT,ts,he,⟨hc,h0⟩,hd,h1,UE _ _ _ _,ű,e1,e2,e3⟩
   exact wpAny_noteFrame_againW hf tr<|fin _ ⟨Xg _ _ _ _,JH a (eY t) hl,tr,λb o e nf=>⟨o.slots,e⟩⟩
  .subst hc;unfold bu;simp only[hf];refine À<|ĭ he hd h1 ?_;rw[gD<|by simp];refine À<|ĭ e1 e2 e3 ?_;rw[gE<|by simpa using c];refine À<|ĸ e1 e2 (Ľ.mp e3).1 ?_;have off:∀b,b≠t->(s.heap.update t (Ν (·.setIfInBounds 3 Value.none))).get? b=s.heap.get? b:=λb hb=>í _ _ hb.symm;have nr:∀b o,s.heap.get? b=eY o->(∀vs,o.data≠.fields vs)->b≠t:=λb o hb nf z=>by
    rw[z,e1]at hb;cases hb;exact nf ts e2
   have bn:=UE s.heap (env::outer) a t;exact wpAny_entryW bS ((JH a (eY t) hl).of_keeps λb o hb nf=>⟨o,(off b<|nr b o hb nf).trans hb,rfl⟩) hf ((off a ű.symm).trans he) (λb o hbo=>(off b λz=>by rw[z,bn]at hbo;cases hbo).trans<|Xg _ _ _ _ b o hbo) (OX _ _ _ _) hd (Ľ.mp h1).1 h0 λh' ⟨x1,x2,x3,x4⟩=>fin h' ⟨x1,x2,x3,λb o hb nf=>x4 b o ((off b<|nr b o hb nf).trans hb) nf⟩
def Ah(bS:A.frames=eY (env::outer))(hf:env.frame=eY L)(hl:s.heap.FunFrames B<|env::outer)(hx:FD s.heap a cls T)
  (h:∀h' a0,dO (Y6 s.heap (env::outer) a T) (env::outer) a cls a0 s.heap h'->Q () {s with heap:=h'}):wpAny M A (bu (.ref a) env) (λ_ s2=>wpAny M A (setFlight (.ref a) eZ) Q E s2) E s :=
 AA bS hf hl hx λh' a0 ⟨k1,k2,k3,k4⟩=>wpAny_setFlight_noneW k1 k2 k3 λh2 j1 j2 j3 j4=>h h2 a0 ⟨j1,j2,j3,λb o e nf=>by
   obtain⟨sl,e2⟩:=k4 b o e nf
   exact⟨sl,j4 b _ e2 nf⟩⟩
def OB(bS:A.frames=eY (env::outer))(hf:env.frame=eY L)(hl:s.heap.FunFrames B<|env::outer)(hx:FD s.heap a cls T)
  (h:∀h' a0,dO (Y6 s.heap (env::outer) a T) (env::outer) a cls a0 s.heap h'->Q () {s with heap:=h'}):wpAny M A (leaving env<|.ref a) Q E s:=À<|Ah bS hf hl hx h
end
variable {l:List Env} {H':Hp} {s:Å} {s':Å} {cls:Â} {a0:Â} {h':ă} {B:ă} {T:Option È}
def Fl.noted{fl:Â}(f:Fl P w l H s H' a cls s')(hT:∀t,T=eY t->s.heap.get? t=eZ/\H' t=eZ)
  (hl:s'.heap.FunFrames B l) (bS:∀b∈frs l,H' b=eZ) (z:Heap.NotedW (Y6 s'.heap l a T) l a cls a0 fl s'.heap h'):Fl P w l H s H' a cls {s' with heap:=h'}:=by
 obtain⟨k1,k2,k3,k4⟩:=z;have inb:∀b o,s'.heap.get? b=eY o->b≠a->(∀t,T=eY t->b≠t)->b∉frs l->h'.get? b=eY o:=λb o e na nt nf=>k1 b o (PySem.W.hideAll_get _ e (by
   intro m
   rcases Ç.mp m with m|m
   . exact na m
   . rcases å.mp m with m|m
     . cases T with
       |none=>cases m
       |some t=>exact nt t rfl (by simpa using m)
     . exact nf m))
 have slot:∀b o,s'.heap.get? b=eY o->b∈frs l->∃sl,h'.get? b=eY {o with slots:=sl}:=λb o e hb=>by obtain⟨_,o2,e2,nf⟩:=hl.mem hb;rw[e]at e2;cases e2;exact k4 b o e nf
 have ϩ:∀b o,s.heap.get? b=eY o->b≠a/\∀t,T=eY t->b≠t:=λb o e=>⟨(λz=>by rw[z,f.na]at e;cases e),(λt ht z=>by rw[z,(hT t ht).1]at e;cases e)⟩
 refine⟨f.os,f.bare,⟨λb o e n nf _=>?_,λb o e n hb _=>?_,f.un.free,λb o e _=>?_,f.un.tups,f.un.frzs,f.un.tbls⟩,?_,f.na,f.ha,?_⟩
 .exact inb b o (f.un.keep b o e n nf<|by simp) (ϩ b o e).1 (ϩ b o e).2 nf
 .obtain⟨sl,e1⟩:=f.un.slot b o e n hb (by simp);obtain⟨sl',e2⟩:=slot b _ e1 hb;exact⟨sl',e2⟩
 .obtain⟨o1,e1⟩:=f.un.there b o e (by simp);by_cases hb:b∈frs l
  .obtain⟨sl,e2⟩:=slot b _ e1 hb;exact⟨_,e2⟩
  .exact⟨o1,inb b o1 e1 (ϩ b o e).1 (ϩ b o e).2 hb⟩
 .intro b u e;have good:∀c v,H' c=eY v->∀ob,s'.heap.get? c=eY ob->h'.get? c=eY ob:=λc v ec ob eo =>
   inb c ob eo (λz=>by rw[z,f.ha]at ec;cases ec) (λt ht z=>by rw[z,(hT t ht).2]at ec;cases ec) λm=>by rw[bS c m]at ec;cases ec
  refine(f.hok b u e).stay (λc v hc q=>?_) (λ_ q=>q) λ_ _ q=>q;rcases hc with z|z
  .rw[z]at q ⊢;exact good b u e v q
  .exact good c _ z v q
 .obtain⟨oe,vs,t',oT,ts,e1,⟨e2,e3⟩,e4,e5,e6,e7,e8,e9,e10⟩:=k3;refine⟨eY t',⟨oe,vs,a0,e1,e2,e4,e3,e5,e7,oT,ts,fl,e8,e9,e10⟩,λt ht=>?_⟩;cases ht;have hid:∀o,s'.heap.get? t'=eY o->T=eY t':=λo e=>by
   have nin:¬ (t'∉(a::(T.toList++frs l))):=λm=>by have q:(Y6 s'.heap l a T).get? t'=eY o:=PySem.W.hideAll_get _ e m;rw[e6]at q;cases q
   have m:=Classical.not_not.mp nin;rcases Ç.mp m with m|m
   .exact gJ m e7
   .rcases å.mp m with m|m
    .cases T with
     |none=>cases m
     |some t=>rw[show t'=t by simpa using m]
    .obtain⟨_,o2,q,nf⟩:=k2.mem m;rw[e8]at q;cases q;exact gJ e9<|nf ts
  constructor
  .cases q:s.heap.get? t' with
   |none=>rfl
   |some o =>obtain⟨o1,q1⟩:=f.un.there t' o q (by simp);have:=(hT t'<|hid o1 q1).1;rw[q]at this;cases this
  .cases q:H' t' with
   |none=>rfl
   |some u =>obtain⟨o1,q1⟩:=(f.hok t' u q).obj;have:=(hT t'<|hid o1 q1).2;rw[q]at this;cases this
def Fl.left(f:Fl P w l H s H' a cls s')(hT:∀t,T=eY t->s.heap.get? t=eZ/\H' t=eZ)
  (hl:s'.heap.FunFrames B l) (bS:∀b∈frs l,H' b=eZ) (z:dO (Y6 s'.heap l a T) l a cls a0 s'.heap h'):Fl P w l H s H' a cls {s' with heap:=h'}:=f.noted (fl:=.none) hT hl bS z
section
variable {P:â}{w:ô}{K:Frag}{mg:Str->Option Â}{base:ă}
variable {X:Cx} {H:Hp} {s:Å}
def Inv.raised{Á:List (È×Obj)}{σ:St}{H':Hp}{s':Å}{a:È}{cls:Â}(I:Inv X Á σ H s)(f:Fl X.prog X.w X.stack H s H' a cls s'):Inv X Á σ H' s' :=
 I.call' (ch:=[]) f.os f.un f.hok f.bare (λb z=>gJ z<|by simp)
def OS(ok:X.Ok)(h:X.stack=X.env::X.outer):X.env.frame=eY X.env.locals:=by
 rcases ok.stk with e|e
 .rw[h]at e;exact gJ (congrArg List.length e) (by simp)
 .exact e.2
variable {N:List Str} {qual:Str} {f:È}
def Ld{scope:ξ}{cd:Â}{A:Ą}{outer:List Env}{E:XK}:XW (JY (CX1 P w) P w K mg base N qual scope f cd A outer s H E) E:=by
 intro Á σ H2 s2 H' a cls s' I f q;have J:=I.raised f;obtain⟨T,hx,hT⟩:=f.ex;show wpAny _ _ (leaving _ _) _ _ _;refine OB (outer:=outer) J.ok.frames (OS J.ok rfl) J.stack hx λh' a0 z=>?_;have f2:=f.left hT J.stack J.stkFree z;have J2:=I.raised f2;have aJ:∀b,s2.heap.get? b=eZ->s.heap.get? b=eZ:=λb e=>by
  cases z:s.heap.get? b with
  |none=>rfl
  |some o =>obtain⟨o',e'⟩:=I.base.there b o z (by intro m;cases m);rw[e]at e';cases e'
 obtain⟨T2,hx2,hT2⟩:=f2.ex;exact⟨a,cls,H',rfl,⟨J2.os,J2.bare,J2.base,J2.hok,aJ a f2.na,f2.ha,T2,hx2,λt ht=>⟨aJ t (hT2 t ht).1,(hT2 t ht).2⟩⟩,q⟩
def Fun.ok1{x:Str}{st:ŀ}{fd:Ŋ}{ps:List Str}{k:Nat}{sp:Sp}(F:Fun K x qual st f fd)(S:FnScope N ps<|Zk st)(len:∀vs H Q E,sp vs H Q E->vs.length=ps.length)
  (bZ:∀(Ϗ:Â) (A:Ą) (outer:List Env) (s:Å) (H:Hp) (vs:List V) (Q:VK) (E:XK),fL k (A.deeper<|ϲ qual (Zk st) s.heap.objs.size f Ϗ)->sp vs H Q E->
    XW (JY (CX1 P w) P w K mg base N qual (Zk st) f Ϗ A outer s H E) E->
    ∃t,PSs (JY (CX1 P w) P w K mg base N qual (Zk st) f Ϗ A outer s H E) (ZD st) t/\t { nx:=λ_ H'=>Q .non H',rt:=Q } (start N vs) H):fM P w K mg base (CX1 P w) (k+1) f fd ps sp:=by
 obtain⟨oc,od,kV,doc,pm,an,Ϗ,ct,osl,rfl,lk,aL⟩:=F.ex;exact Hb lk aL S len λA outer s H vs Q E hr d8=>bZ Ϗ A outer s H vs Q E hr d8 Ld
end
abbrev XP(X:Cx)(Á:List<|È×Obj)(σ:St)(E:XK)(v:Â)(s':Å):Prop :=
 ∃a cls H1 H' s1,v=.ref a/\Inv X Á σ H1 s1/\Fl X.prog X.w X.stack H1 s1 H' a cls s'/\E cls eZ H'
abbrev xcO(a:È)(cls:Â):HO:=.ext λh=>∃o vs,h.get? a=eY o/\o.cls=cls/\o.data=.fields vs
noncomputable abbrev Cx.caught(X:Cx)(a:È):Cx:={X with A:=X.A.mark<|eY<|.ref a,calm:=fc,xe:=λ_ _=>False}
section
variable {X:Cx}{Á:List (È×Obj)}{σ:St}{H H':Hp}{s s':Å}{a:È}{cls:Â}
def Inv.caught(I:Inv X Á σ H s)(a:È):Inv (X.caught a) Á σ H s :=
 ⟨⟨I.ok.mod,I.ok.kind,I.ok.glob,I.ok.blt,I.ok.above,I.ok.inj,I.ok.has,I.ok.cab,λz=>Bool.noConfusion z,I.ok.frames,I.ok.stk,I.ok.exf,I.ok.bs,I.ok.bsz,I.ok.noex,I.ok.exfs,I.ok.funs,I.ok.frf⟩,I.os,I.bare,I.base,I.loc,I.cell,I.free,I.freeC,I.pin,I.hok,I.len⟩
end
end L2
namespace L2
open PySem PySem.Spec PySem.W PySem.Calls PyProof.Rows PySem.Builtin PySem.Builtin.ObjectAttr PySem.Builtin.Getset_descriptor
section
variable {prog:â}{w:ô}{A:Ą}{E:Â->Å->Prop}{K:Frag}{h:ă}{g:Array cx}{d:Drawn}{t:Nat}{os:OsState}{a C:È}{o:Obj}
structure XCls(K:Frag)(C:È):Prop where
 ga:ϴ K (.ref C) "__getattribute__" = eY (eY<|.builtin "BaseException.__getattribute__")
 gr:ϴ K (.ref C) "__getattr__" = eY eZ
 cl:ϴ K (.ref C) "__class__" = eY (eY<|.builtin "object.__class__")
 mo:mroIn K C (.type "object")=eY fb
 mb:mroIn K C (.type "BaseException")=eY fb
 ci:(clsIn K C).isSome=fb
end
end L2
namespace L2
open PySem PySem.Spec PyProof.Rows
section
variable {X:Cx}
def Kb:fm X (.type "int") λxs H Q=>∃z n,xs=[.str z]/\PySem.intText? z=eY n/\z.length<=640/\Q (.int n) H:=by intro Á s σ H xs us Q I r h;obtain⟨z,n,rfl,e,hl,q⟩:=h;obtain⟨u,rfl,t,rfl⟩:=ZL r;exact PySem.W.KIN.call_text e hl ⟨.int n,H,I.tok _,⟨_,rfl⟩,q⟩
end
end L2
namespace L2
open PySem PySem.Spec PyProof.Rows
open PySem.Builtin PySem.Builtin.Str
abbrev Ay(z:Str)(lo hi:Option Int):Str:=if(Β lo hi 1 z.length).length=z.length then z else⟨((Β lo hi 1 z.length).filterMap (z.cps[·]?)).toArray⟩
def CA(z:Str)(lo hi:Option Int):(Ay z lo hi).length<=z.length:=by
 unfold Ay;split
 .exact Ì _
 .show((Β lo hi 1 z.length).filterMap (z.cps[·]?)).toArray.size<=_;rw[Í];exact ß (bJ _ _)<|indices_len_le lo hi z.length
section
variable {X:Cx}
abbrev P6:V->Option Int->Option Int->Hp->VK->Prop:=λx lo hi H Q=>∃z,x=.str z/\z.length<=Õ/\Q (.str<|Ay z lo hi) H
def UG{v:Â}{lo:Option Int}(h:ϡ v lo):∃l:Option<|Int×Tok,v=partValue l/\l.map (·.1)=lo:=by
 cases h with
 |none=>exact⟨eZ,rfl,rfl⟩
 |int i t=>exact⟨eY (i,t),rfl,rfl⟩
def sl_str:SlR X P6:=by
 intro Á s σ H x v vl vu lo hi sl Q I rx hs pl pu h;obtain⟨z,rfl,hz,q⟩:=h;obtain⟨t,rfl⟩:=rx;refine⟨"str",_,slot_str_getitem.lookup,typeIs_str s z t,?_⟩;obtain⟨l,rfl,el⟩:=UG pl;obtain⟨u,rfl,eu⟩:=UG pu;have hs':s.heap.IsSlice sl l u eZ:=hs;refine wpAny_getItem_str_slice hs' rfl ?_;have e:sliceMade z t l u eZ=if(Β lo hi 1 z.length).length=z.length then .val (.str z t)else .str ⟨((Β lo hi 1 z.length).filterMap (z.cps[·]?)).toArray⟩:=by unfold sliceMade slicePicked;rw[el,eu];simp
 rw[e];have cl:=CA z lo hi;unfold Ay at q cl;split
 .rename_i hh;rw[gD hh]at q;exact⟨.str z,H,I,⟨t,rfl⟩,q⟩
 .rename_i hh;rw[gE hh]at q cl;exact⟨ß cl hz,.str _,H,I.tok _,⟨_,rfl⟩,q⟩
end
section
variable {X:Cx}
def OY(z:Str):∀(n:Nat) (a:Array Nat),((Ó n z.cps).foldl (· ++ ·) a).size=a.size+n*z.cps.size
 |0,a=>by simp
 |n+1,a=>by rw[č,ĵ,OY z n,Array.size_append,Nat.succ_mul];lia
def gq.ins{xs:List V}{us:List Â}{y:V}{u:Â}(r:gq xs us)(ry:RelV y u)(k:Nat):gq (xs.take k++y::xs.drop k)<|us.take k++u::us.drop k:=(r.take k).append (.cons ry<|r.drop k)
end
end L2
namespace L2
open PySem PySem.Spec PyProof.Rows
section
variable {X:Cx}(K:Frag) (h:X.K=K)
include h
end
end L2
namespace HT
open PySem PyProof.Rows
open PySem.SeqAt
open PySem.AutoSeq1 (wpAny_loadPart')
open PySem.MeetsSeq PySem.MeetsSeq2 PySem.MeetsSeq3
section
variable {prog:â}{w:ô}{A:Ą}{E:Â->Å->Prop}{s:Å}
def getItem_tuple_whole{t sl:È}{items:Array Â}{vl vu:Â}{lo hi:Option Int}{Q:Â->Å->Prop}(ht:ϰ s.heap t items)(hs:s.heap.IsSliceOf sl vl vu .none)(pl:ϡ vl lo)(pu:ϡ vu hi)
  (hw:sIx items.size 0 lo=0/\sIx items.size items.size hi=items.size)
  (h:Q (.ref t) s):wpAny (Ù prog w) A (Ϡ (.ref t)<|.ref sl) Q E s:=by
 obtain⟨os,hos,hcs,hds⟩:=id hs;have hTs:s.TypeIs (.ref sl) "slice":=⟨os,hos,hcs⟩
 unfold Ϡ
 try with_reducible refine ď ?_
 first|refine À (Æ ?_)|skip
 refine À (wpAny_sequenceKey ht.typeIs (by decide) ?_);refine À (Ĕ (name:=gL "__getitem__") ht.typeIs PyProof.Rows.slot_tuple_getitem
   (ĉ PyProof.Rows.slot_tuple_getitem ht.typeIs entry_tuple_getitem ?_<|args_tuple_getitem _ _))
 show wpAny _ _ (Builtin.Tuple.tupleItemsOf (.ref t) >>= _) _ _ s;refine À<|tupleItemsOf_ ht ?_;refine À<|ž hTs ?_;rw[gD<|by decide];refine À<|Yt hs pl pu ?_;have hyes:(((sIx items.size 0 lo:Nat):Int)==0&&(1:Int)==1&&(sIx items.size items.size hi - sIx items.size 0 lo)==items.size)=fb:=by rw[hw.1,hw.2];simp
 show wpAny _ _ (if(((sIx items.size 0 lo:Nat):Int)==0&&(1:Int)==1&&(sIx items.size items.size hi - sIx items.size 0 lo)==items.size)=fb then _ else _) _ _ s;rw[gD hyes];refine À ?_;unfold Builtin.Tuple.tupleIsExact;refine À<|ž ht.typeIs<|Æ ?_;rw[gD<|by decide]
 first
  |exact À<|Æ<|Æ ⟨_,rfl,Æ h⟩
  |exact À<|π<|Æ ⟨_,rfl,Æ h⟩
  |exact Æ ⟨_,rfl,Æ h⟩
end
end HT
namespace L2
open PySem PySem.Spec PyProof.Rows
section
variable {X:Cx}
abbrev PQ(K:Frag):V->Option Int->Option Int->Hp->VK->Prop:=λx lo hi H Q=>∃a xs,x=.ref a/\gp K H a xs/\(HT.sIx xs.length 0 lo=0/\HT.sIx xs.length xs.length hi=xs.length)/\Q (.ref a) H
def EL:SlR X<|PQ X.K:=by
 intro Á s σ H x v vl vu lo hi sl Q I rx hs pl pu h;obtain⟨a,xs,rfl,hx,hw,q⟩:=h;cases rx;obtain⟨ð,r,ht,hz⟩:=I.tuple hx;have hlen:ð.toArray.size=xs.length:=by rw[Í];exact r.length.symm
 refine⟨"tuple",_,PyProof.Rows.slot_tuple_getitem.lookup,ht.typeIs,?_⟩;exact HT.getItem_tuple_whole ht hs pl pu (by rw[hlen];exact hw) ⟨.ref a,H,I,rfl,q⟩
end
end L2
namespace L2
open PySem PySem.Spec PyProof.Rows
open PySem.Builtin PySem.Builtin.Str
section
variable {X:Cx}
abbrev Li(z:Str)(n:Nat):Str:=⟨(Ó n z.cps).foldl (· ++ ·) #[]⟩
def Kw(z:Array Nat):∀(n:Nat) (a:Array Nat),((Ó n z).foldl (· ++ ·) a).toList=a.toList++(Ó n z.toList).flatten
 |0,a=>by simp
 |n+1,a=>by rw[č,ĵ,Kw z n,č,Ň,Array.toList_append,ĳ]
abbrev G0:R2:=λx y H Q=>∃z k,x=.str z/\y=.int k/\2<=k/\k<=1000000/\1<=z.length/\z.length*k.toNat<=1000000/\Q (.str<|Li z k.toNat) H
def FU:OpR X (ŉ .Mult) G0:=by
 intro Á s σ H x y v u Q I rx ry h;obtain⟨z,k,rfl,rfl,h2,h6,h1,hz,q⟩:=h;obtain⟨t,rfl⟩:=rx;obtain⟨t',rfl⟩:=ry;have big:(1000000:Nat)<=Õ:=by decide
 have nb:(k==1||z.length==0)=fc:=by have e1:(k==1)=fc:=beq_false_of_ne (by lia);have e2:(z.length==0)=fc:=beq_false_of_ne (by lia);rw[e1,e2];rfl
 have zl:z.length<=1000000:=by have:z.length*1<=z.length*k.toNat:=dP _ (by lia);lia
 have hr:(gK (k < -(2 ^ 63:Int))||gK (k≥2 ^ 63))=fc:=by rw[gF (by lia),gF<|by lia];rfl
 have hb:¬ k<1->(k==1||z.length==0)=fc->¬ ((z.length:Int) > (2 ^ 63 - 1) / k):=λ_ _=>by have:(1000000:Int)<=(2 ^ 63 - 1) / k:=(Int.le_ediv_iff_mul_le<|by lia).mpr (by lia);lia
 have hl:¬ k<1->(k==1||z.length==0)=fc->tooLong (z.length*k.toNat)=fc:=λ_ _=>by unfold tooLong;exact gF (by lia)
 refine P.mul_str hr hb hl ?_;rw[gE (by lia),gE<|by rw[nb];exact ù];have el:(⟨(Ó k.toNat z.cps).foldl (· ++ ·) #[]⟩:Str).length=z.length*k.toNat:=by show((Ó k.toNat z.cps).foldl (· ++ ·) #[]).size=_;rw[OY,cD z.length];simp[Str.length]
 exact⟨by rw[el];lia,.str _,H,I.tok _,⟨_,rfl⟩,q⟩
variable {c y z a b:Str}{k1 k2 k3:Nat}{p1 p2 p3 p4 pa pb Ő š:Pos}
end
end L2
namespace L2
open PySem PySem.Spec PyProof.Rows
section
variable {X:Cx}
abbrev Hx(K:Frag):R2:=λx y H Q=>∃a b ys,x=.ref a/\y=.ref b/\gp K H a []/\gp K H b ys/\Q (.ref b) H
def op_cat0:OpR X (ŉ .Add)<|Hx X.K:=by
 intro Á s σ H x y v u Q I rx ry h;obtain⟨a,b,ys,rfl,rfl,ha,hb,q⟩:=h;cases rx;cases ry;obtain⟨ð,r1,p1,_⟩:=I.tuple ha;obtain⟨aD,r2,p2,_⟩:=I.tuple hb;cases r1;obtain⟨⟨cls,dd,data,sl⟩,ho,hc,n,hd⟩:=id p1;obtain⟨⟨cls2,de,data2,d9⟩,ho2,hc2,n2,bQ⟩:=id p2;simp only at hc hd hc2 bQ;subst hc hd hc2 bQ;exact eL ⟨_,ho,rfl⟩ ⟨_,ho2,rfl⟩ bq dq PySem.F.slot_tuple_add PySem.F.entry_tuple_add (PySem.F.args_tuple_add_2 _ _)
  (tuple_addW0 a b _ _ n n2 dd de sl d9 rfl) ⟨ho,ho2,.ref b,H,I,rfl,q⟩
end
abbrev ZSt(z TI TO i1 i2 a b:È)(i:Nat)(h:ă):Prop:=IsZip h z TI TO .none/\IsPair h TI (.ref i1) (.ref i2)/\(∃u v,IsPair h TO u v)/\h.IsListIter i1 a i/\h.IsListIter i2 b i
variable {z:È} {i1:È} {i2:È} {a:È} {b:È} {i:Nat} {h:ă}
def ZSt.keep{TI TO:È}{h':ă}(st:ZSt z TI TO i1 i2 a b i h)(k:∀c∈[z,TI,TO,i1,i2],∀o,h.get? c=eY o->h'.get? c=eY o):ZSt z TI TO i1 i2 a b i h':=by obtain⟨h1,h2,⟨u,v,h3⟩,h4,h5⟩:=st;exact⟨k z (by simp) _ h1,k TI (by simp) _ h2,⟨u,v,k TO (by simp) _ h3⟩,h4.at λo q=>k i1 (by simp) o q,h5.at λo q=>k i2 (by simp) o q⟩
def ZSt.obj{TI TO:È}(st:ZSt z TI TO i1 i2 a b i h):∀c∈[z,TI,TO,i1,i2],∃o,h.get? c=eY o/\(∀v,o.data≠.cell v)/\o.cls≠.type "list":=by
 obtain⟨h1,h2,⟨u,v,h3⟩,⟨o4,e4,c4,d4⟩,⟨o5,e5,c5,d5⟩⟩:=st;intro c hc;simp only[Ç,Ø,or_false]at hc;rcases hc with rfl|rfl|rfl|rfl|rfl
 .exact⟨_,h1,(λv z=>(by cases z)),(show Value.type "zip"≠.type "list" by decide)⟩
 .exact⟨_,h2,(λv z=>(by cases z)),(show Value.type "tuple"≠.type "list" by decide)⟩
 .exact⟨_,h3,(λv z=>(by cases z)),(show Value.type "tuple"≠.type "list" by decide)⟩
 .exact⟨_,e4,(λv z=>(by rw[d4]at z;cases z)),(by rw[c4];decide)⟩
 .exact⟨_,e5,(λv z=>(by rw[d5]at z;cases z)),(by rw[c5];decide)⟩
section
variable {X:Cx}
abbrev PP(te:TE):TE:=λσ H Q=>te σ H λx H1=>(∃i,x=.int i/\i.natAbs.log2<1920/\Q (.str<|toString i) H1)\/∃z,x=.str z/\z.length<=Õ/\Q (.str z) H1
def EB{e:Expr}{te:TE}{é:Pos}(he:PE X e te):PE X (.FormattedValue e (-1) eZ é)<|PP te:=by
 intro Á s σ H Q I h;refine wpAny_FormattedValue_plain<|thn (he Á s σ H _ I h) λv s1 ⟨x,H1,I1,r1,q1⟩=>?_;rcases q1 with⟨i,e1,hd,q1⟩|⟨z,e1,hz,q1⟩
 .subst e1;obtain⟨t,rfl⟩:=r1;exact wpAny_formatField_int hd ⟨.str _,H1,I1.tok _,⟨_,rfl⟩,q1⟩
 .subst e1;obtain⟨t,rfl⟩:=r1;exact wpAny_formatField_str ⟨.str _,H1,I1,⟨_,rfl⟩,q1⟩ ⟨.str _,H1,I1.tok _,⟨_,rfl⟩,q1⟩ hz
abbrev FR(K:Frag)(neg:Bool):R2:=λx y H Q=>∃ds d,(IsD K H y (.tuple ds)\/IsD K H y (.list ds))/\IsD K H x d/\ŗ ds=fb/\d.canLay0=fb/\d.depth<=64/\Q (.bl<|if neg then !ds.any (λe=>ī e d)else ds.any λe=>ī e d) H
def Lm(hu:X.A.units+65<ĩ):OpR X (ë .In)<|FR X.K fc:=by
 intro Á s σ H x y v u Q I rx ry h;obtain⟨ds,d,hd,he,sd,se,hdp,q⟩:=h;obtain⟨bs,rb⟩:=he.reads I rx;have hr:X.A.units+1+min (Ń ds) d.depth<ĩ:=by have:min (Ń ds) d.depth<=d.depth:=au _ _;lia
 rcases hd with hd|hd
 .obtain⟨as,ra⟩:=hd.reads I ry;exact SeqAt.in_tuple_reads ra rb sd se hr ⟨.bl _,H,I,rfl,q⟩
 .obtain⟨as,ra⟩:=hd.reads I ry;exact SeqAt.in_list_reads ra rb sd se hr ⟨.bl _,H,I,rfl,q⟩
def AT(hu:X.A.units+65<ĩ):OpR X (ë .NotIn)<|FR X.K fb:=by
 intro Á s σ H x y v u Q I rx ry h;obtain⟨ds,d,hd,he,sd,se,hdp,q⟩:=h;obtain⟨bs,rb⟩:=he.reads I rx;have hr:X.A.units+1+min (Ń ds) d.depth<ĩ:=by have:min (Ń ds) d.depth<=d.depth:=au _ _;lia
 rcases hd with hd|hd
 .obtain⟨as,ra⟩:=hd.reads I ry;exact SeqAt.notIn_tuple_reads ra rb sd se hr ⟨.bl _,H,I,rfl,q⟩
 .obtain⟨as,ra⟩:=hd.reads I ry;exact SeqAt.notIn_list_reads ra rb sd se hr ⟨.bl _,H,I,rfl,q⟩
end
abbrev ZSy(z TI TO i1 i2 a b:È)(i:Nat)(h:ă):Prop:=IsZip h z TI TO .none/\IsPair h TI (.ref i1) (.ref i2)/\(∃u v,IsPair h TO u v)/\h.IsTupleIter i1 a i/\h.IsTupleIter i2 b i
variable {z:È} {i1:È} {i2:È} {a:È} {b:È} {i:Nat} {h:ă}
def ZSy.keep{TI TO:È}{h':ă}(st:ZSy z TI TO i1 i2 a b i h)(k:∀c∈[z,TI,TO,i1,i2],∀o,h.get? c=eY o->h'.get? c=eY o):ZSy z TI TO i1 i2 a b i h':=by obtain⟨h1,h2,⟨u,v,h3⟩,h4,h5⟩:=st;exact⟨k z (by simp) _ h1,k TI (by simp) _ h2,⟨u,v,k TO (by simp) _ h3⟩,h4.at λo q=>k i1 (by simp) o q,h5.at λo q=>k i2 (by simp) o q⟩
def ZSy.obj{TI TO:È}(st:ZSy z TI TO i1 i2 a b i h):∀c∈[z,TI,TO,i1,i2],∃o,h.get? c=eY o/\∀v,o.data≠.cell v:=by
 obtain⟨h1,h2,⟨u,v,h3⟩,⟨o4,e4,c4,d4⟩,⟨o5,e5,c5,d5⟩⟩:=st;intro c hc;simp only[Ç,Ø,or_false]at hc;rcases hc with rfl|rfl|rfl|rfl|rfl
 .exact⟨_,h1,λv z=>by cases z⟩
 .exact⟨_,h2,λv z=>by cases z⟩
 .exact⟨_,h3,λv z=>by cases z⟩
 .exact⟨_,e4,λv z=>by rw[d4]at z;cases z⟩
 .exact⟨_,e5,λv z=>by rw[d5]at z;cases z⟩
section
variable {κ:Type} [DecidableEq κ]
abbrev Yx(kvs:List<|κ×V)(k:κ):Option V:=(kvs.find? λkv=>gK (kv.1=k)).map (·.2)
abbrev fI(kvs:List<|κ×V)(k:κ)(v:V):List (κ×V) :=
 if(kvs.any λkv=>gK (kv.1=k))=fb then kvs.map (λkv=>if kv.1=k then(kv.1,v)else kv)else kvs++[(k,v)]
abbrev fJ(kvs:List<|κ×V)(k:κ):List<|κ×V:=kvs.filter λkv=>gK (kv.1≠k)
variable {p:κ×V} {r:List (κ×V)}
def Xh{k:κ}(e:p.1=k):Yx (p::r) k=eY p.2:=by simp[Yx,ě,e]
def Y5{k:κ}(e:¬ p.1=k):Yx (p::r) k=Yx r k:=by simp[Yx,ě,e]
def Xa(k:κ):∀kvs:List<|κ×V,(kvs.any λkv=>gK (kv.1=k))=(Yx kvs k).isSome
 |[]=>rfl
 |p::r=>by
  rw[ļ];by_cases e:p.1=k
  .simp only[Xh e,gG e,Bool.true_or,Option.isSome_some]
  .rw[Y5 e,gF e,Bool.false_or];exact Xa k r
def Yg(kvs:List<|κ×V)(k:κ)(v:V):(fI kvs k v).length<=kvs.length+1:=by
 unfold fI;split
 .rw[Ã];lia
 .rw[ê,Ë,ē];lia
variable {o:Option V} {u:Option Â}
def fK.isSome_eq(r:fK o u):o.isSome=u.isSome:=by
 cases o with
 |none=>cases u with
  |none=>rfl
  |some _=>exact(show False from r).elim
 |some _=>cases u with
  |none=>exact(show False from r).elim
  |some _=>rfl
def fK.getD{d:V}{d':Â}(r:fK o u)(rd:RelV d d'):RelV (o.getD d)<|u.getD d':=by
 cases o with
 |none=>cases u with
  |none=>exact rd
  |some _=>exact(show False from r).elim
 |some _=>cases u with
  |none=>exact(show False from r).elim
  |some _=>exact r
variable {kvs:List (κ×V)} {vs:List (κ×Â)}
def KV.val(r:KV kvs vs)(k:κ):fK (Yx kvs k)<|Ϣ vs k:=by
 unfold KV at r;induction r with
 |nil=>exact True.intro
 |@cons p q ps qs h t ih =>
  obtain⟨h1,h2⟩:=h;by_cases e:p.1=k
  .have e':q.1=k:=h1.symm.trans e;have b:Ϣ (q::qs) k=eY q.2:=by simp[Ϣ,ě,e']
   rw[Xh e,b];exact h2
  .have e':¬ q.1=k:=λz=>e<|h1.trans z;have b:Ϣ (q::qs) k=Ϣ qs k:=by simp[Ϣ,ě,e']
   rw[Y5 e,b];exact ih
def KV.any(r:KV kvs vs)(k:κ):(kvs.any λkv=>gK (kv.1=k))=vs.any λkv=>gK (kv.1=k):=by
 unfold KV at r;induction r with
 |nil=>rfl
 |cons h t ih=>rw[ļ,ļ,ih,h.1]
variable {y:V}
def KV.repl(r:KV kvs vs)(k:κ){u:Â}(ry:RelV y u) :
  KV (kvs.map λkv=>if kv.1=k then(kv.1,y)else kv) (vs.map λkv=>if kv.1=k then(kv.1,u)else kv):=by
 unfold KV at r ⊢;induction r with
 |nil=>exact .nil
 |@cons p q ps qs h t ih =>
  rw[Ï,Ï];refine .cons ?_ ih;obtain⟨h1,h2⟩:=h;by_cases e:p.1=k
  .rw[gD e,gD<|h1.symm.trans e];exact⟨h1,ry⟩
  .rw[gE e,gE λz=>e<|h1.trans z];exact⟨h1,h2⟩
def KV.put(r:KV kvs vs)(k:κ){u:Â}(ry:RelV y u):KV (fI kvs k y)<|eQ vs k u:=by
 unfold fI eQ;rw[r.any k];by_cases e:(vs.any λkv=>gK (kv.1=k))=fb
 .rw[gD e,gD e];exact r.repl k ry
 .rw[gE e,gE e];exact Paired.snoc r ⟨rfl,ry⟩
def KV.drop(r:KV kvs vs)(k:κ):KV (fJ kvs k)<|without vs k:=by
 unfold KV at r ⊢;unfold fJ without;induction r with
 |nil=>exact .nil
 |@cons p q ps qs h t ih =>
  obtain⟨h1,h2⟩:=h;rw[į,į];by_cases e:p.1=k
  .have a:¬ gK (p.1≠k)=fb:=by simp[e]
   have b:¬ gK (q.1≠k)=fb:=by simp[h1.symm.trans e]
   rw[gE a,gE b];exact ih
  .have e':¬ q.1=k:=λz=>e<|h1.trans z;have a:gK (p.1≠k)=fb:=by simp[e]
   have b:gK (q.1≠k)=fb:=by simp[e']
   rw[gD a,gD b];exact .cons ⟨h1,h2⟩ ih
def KV.keys(r:KV kvs vs):kvs.map (·.1)=vs.map (·.1):=by
 unfold KV at r;induction r with
 |nil=>rfl
 |cons h t ih=>rw[Ï,Ï,ih,h.1]
def KV.length(r:KV kvs vs):kvs.length=vs.length:=Paired.length r
def Do(kvs:List<|κ×V)(k:κ):(fJ kvs k).length<=kvs.length:=Ż _ _
end
variable {P:â} {w:ô} {u:Â}
def Xu{k:Key}(r:RelV (kV k) u):(Zc P w).is k u=fb:=by
 cases k with
 |inl i=>obtain⟨t,e⟩:=(show ∃t,u=Value.int i t from r);subst e;exact MX P w i t
 |inr x=>obtain⟨t,e⟩:=(show ∃t,u=Value.str x t from r);subst e;exact NI P w x t
def KG{P:â}{w:ô}:∀{ks:List Key}{us:List Â},gq (ks.map kV) us->ItemsAre (Zc P w) ks us
 |[],_,r=>by rw[ϋ]at r;cases r;exact .nil
 |k::ks,_,r=>by
  rw[Ï]at r;cases r with
  |cons h t=>exact .cons (Xu h)<|KG t
@[reducible] noncomputable def KTd(H:Hp):List (List Key×V)->List (List Key×È×Â)->Prop:=Paired λp q=>p.1=q.1/\H q.2.1=eY (.tup<|p.1.map kV)/\RelV p.2 q.2.2
variable {H:Hp} {kvs:List (List Key×V)} {xs:List (List Key×È×Â)}
def KTd.val(r:KTd H kvs xs)(k:List Key):fK (Yx kvs k) ((cH xs k).map (·.2)):=by
 induction r with
 |nil=>exact True.intro
 |@cons p q ps qs h t ih =>
  obtain⟨h1,_,h2⟩:=h;by_cases e:p.1=k
  .have e':q.1=k:=h1.symm.trans e;have b:cH (q::qs) k=eY q.2:=by simp[cH,ě,e']
   rw[Xh e,b];exact h2
  .have e':¬ q.1=k:=λz=>e<|h1.trans z;have b:cH (q::qs) k=cH qs k:=by simp[cH,ě,e']
   rw[Y5 e,b];exact ih
variable {y:V}
def KTd.repl(r:KTd H kvs xs)(k:List Key)(ry:RelV y u) :
  KTd H (kvs.map λkv=>if kv.1=k then(kv.1,y)else kv) (xs.map<|putAt k u):=by
 induction r with
 |nil=>exact .nil
 |@cons p q ps qs h t ih =>
  rw[Ï,Ï];refine .cons ?_ ih;obtain⟨h1,h2,h3⟩:=h;unfold putAt;by_cases e:p.1=k
  .rw[gD e,gD<|h1.symm.trans e];exact⟨h1,h2,ry⟩
  .rw[gE e,gE λz=>e<|h1.trans z];exact⟨h1,h2,h3⟩
variable {b:È}
def KTd.put(r:KTd H kvs xs)(k:List Key)(hb:H b=eY (.tup<|k.map kV))(ry:RelV y u) :
  KTd H (fI kvs k y) (storedH xs k b u):=by
 have e:(kvs.any λkv=>gK (kv.1=k))=(cH xs k).isSome:=by rw[Xa,(r.val k).isSome_eq,ϭ]
 unfold fI storedH;rw[e];by_cases q:(cH xs k).isSome=fb
 .rw[gD q,gD q];exact r.repl k ry
 .rw[gE q,gE q];exact Paired.snoc r ⟨rfl,hb,ry⟩
variable {H':Hp}
def KTd.keeps(r:KTd H kvs xs)(ht:∀b ys,H b=eY (.tup ys)->H' b=eY (.tup ys)):KTd H' kvs xs :=
 Paired.mapP r λ_ _ z=>⟨z.1,ht _ _ z.2.1,z.2.2⟩
section
variable {P:â}{w:ô}{H:Hp}{h:ă}{a:È}
def Ha{u:HO}(ok:HOk P w H h)(e:Rd H a u):fo P w H h a u:=e.ok ok
def Wa{kvs:List (Key×V)}(ok:HOk P w H h)(e:Rd H a<|.dK kvs):kvs.length<=Õ/\(a==Ś)=fc/\∃vs,KV kvs vs/\h.DictOf (Zc P w) a vs :=
 show fo P w H h a (.dK kvs) from Ha ok e
def Wu{kvs:List (Key×V)}(ok:HOk P w H h)(e:H a=eY (.dK kvs)):kvs.length<=Õ/\(a==Ś)=fc/\∃vs,KV kvs vs/\h.DictOf (Zc P w) a vs:=Wa ok (.inl e)
def fx{ks:List Key}(ok:HOk P w H h)(e:H a=eY (.tup<|ks.map kV)):(Ϲ<|Zc P w).is h ks a:=by
 obtain⟨_,ð,r,o,h1,h2,n,h3⟩:=(show fo P w H h a (.tup<|ks.map kV) from ok a _ e)
 exact⟨o,ð.toArray,n,h1,h2,h3,by simpa using KG r⟩
def W5(ok:HOk P w H h)(e:Rd H a<|.dT kvs):kvs.length<=Õ/\(a==Ś)=fc/\
  ∃xs,KTd H kvs xs/\h.DictOfH (Ϲ<|Zc P w) a xs:=by
 obtain⟨z,y,xs,r,o,es,ep,h1,h2,h3,h4,h5⟩:=(show fo P w H h a (.dT kvs) from Ha ok e)
 refine⟨z,y,xs,r,o,es,ep,h1,h2,h3,h4,λx hx=>?_,h5⟩;have all:∀{l:List (List Key×V)}{m:List (List Key×È×Â)},KTd H l m->∀x∈m,(Ϲ<|Zc P w).is h x.1 x.2.1:=by
  intro l m q;induction q with
  |nil=>intro x hx;exact nomatch hx
  |@cons p q ps qs hq t ih =>
   intro x hx;rcases Ç.mp hx with e|hx
   .subst e;exact fx ok (by rw[<-hq.1];exact hq.2.1)
   .exact ih x hx
 exact all r x hx
def Ql(ok:HOk P w H h)(e:H a=eY (.dT kvs)):kvs.length<=Õ/\(a==Ś)=fc/\
  ∃xs,KTd H kvs xs/\h.DictOfH (Ϲ<|Zc P w) a xs:=W5 ok<|.inl e
end
abbrev DGet(H:Hp)(a:È)(y:V)(r:Option V):Prop :=
 (∃kvs k,Rd H a (.dK kvs)/\y=kV k/\r=Yx kvs k)\/∃kvs k b,Rd H a (.dT kvs)/\y=.ref b/\H b=eY (.tup<|k.map kV)/\r=Yx kvs k
abbrev DPut(H:Hp)(a:È)(y v:V)(H':Hp):Prop :=
 (∃kvs k,H a=eY (.dK kvs)/\y=kV k/\kvs.length<Õ/\H'=upd H a (.dK<|fI kvs k v))\/
 ∃kvs k b,H a=eY (.dT kvs)/\y=.ref b/\H b=eY (.tup<|k.map kV)/\kvs.length<Õ/\H'=upd H a (.dT<|fI kvs k v)
def DGet.k{H:Hp}{a:È}{kvs:List (Key×V)}{k:Key}(e:H a=eY (.dK kvs)):DGet H a (kV k)<|Yx kvs k:=.inl ⟨kvs,k,.inl e,rfl,rfl⟩
variable {a:È}
def DGet.t{k:List Key}(e:H a=eY (.dT kvs))(eb:H b=eY (.tup<|k.map kV)):DGet H a (.ref b)<|Yx kvs k:=.inr ⟨kvs,k,b,.inl e,rfl,eb,rfl⟩
def DPut.k{H:Hp}{a:È}{kvs:List (Key×V)}{k:Key}{v:V}(e:H a=eY (.dK kvs))(hl:kvs.length<Õ):DPut H a (kV k) v<|upd H a<|.dK<|fI kvs k v:=.inl ⟨kvs,k,e,rfl,hl,rfl⟩
def DPut.t{k:List Key}{v:V}(e:H a=eY (.dT kvs))(eb:H b=eY (.tup<|k.map kV))(hl:kvs.length<Õ) :
  DPut H a (.ref b) v (upd H a<|.dT<|fI kvs k v):=.inr ⟨kvs,k,b,e,rfl,eb,hl,rfl⟩
section
variable {X:Cx}{Á:List (È×Obj)}{σ:St}{H:Hp}{s:Å}{a:È}{y v:V}{u r:Â}{o:Option V}{A:Ą}{E:Â->Å->Prop}
def Inv.big(I:Inv X Á σ H s):Ś<s.heap.objs.size:=by have h:Ĉ<s.heap.objs.size:=(I.mod.glob.keeps I.bk).lt;exact Ŗ (by decide) h
variable {Q:Â->Å->Prop}
def Ky(hu:A.units+1<ĩ)(I:Inv X Á σ H s)(g:DGet H a y<|eY v)(ry:RelV y u)(h:∀w' s',Inv X Á σ H s'->RelV v w'->Q w' s') :
  wpAny (Ù X.prog X.w) A (Ϡ (.ref a) u) Q E s:=by
 rcases g with⟨kvs,k,e,ey,l⟩|⟨kvs,k,b,e,ey,eb,l⟩
 .subst ey;obtain⟨z,hd,vs,ů,dd⟩:=Wa I.hok e;obtain⟨w',hw,aX⟩:=fK.some_of (v:=v) (o:=Ϣ vs k) (by rw[l];exact ů.val k);exact wpAny_getItem_of (Xu ry) dd.mapOf hw<|h w' _ (I.tok _) aX
 .subst ey;cases (show u=Value.ref b from ry);obtain⟨z,hd,xs,ů,dd⟩:=W5 I.hok e;obtain⟨w',hw,aX⟩:=fK.some_of (v:=v) (o:=(cH xs k).map (·.2)) (by rw[l];exact ů.val k);obtain⟨p,hp,hp2⟩:=Î.mp hw;refine wpAny_getItem_heap (Ź hu) (fx I.hok eb) dd hp ?_;rw[hp2];exact h w' _ (I.tok _) aX
def R0(hu:A.units+1<ĩ)(I:Inv X Á σ H s)(g:DGet H a y o)(ry:RelV y u)(h:∀s',Inv X Á σ H s'->Q (.bool o.isSome) s') :
  wpAny (Ù X.prog X.w) A (ë .In u<|.ref a) Q E s:=by
 rcases g with⟨kvs,k,e,ey,l⟩|⟨kvs,k,b,e,ey,eb,l⟩
 .subst ey;obtain⟨z,hd,vs,ů,dd⟩:=Wa I.hok e;refine wpAny_in_of (Xu ry) hd dd.mapOf ?_;rw[<-(ů.val k).isSome_eq,<-l];exact h _<|I.tok _
 .subst ey;cases (show u=Value.ref b from ry);obtain⟨z,hd,xs,ů,dd⟩:=W5 I.hok e;refine wpAny_in_heap (Ź hu) (fx I.hok eb) hd dd ?_;have q:=(ů.val k).isSome_eq;rw[ϭ]at q;rw[<-q,<-l];exact h _<|I.tok _
def Fp(hu:A.units+1<ĩ)(I:Inv X Á σ H s)(g:DGet H a y o)(ry:RelV y u)(h:∀s',Inv X Á σ H s'->Q (.bool (!o.isSome)) s') :
  wpAny (Ù X.prog X.w) A (ë .NotIn u<|.ref a) Q E s:=by
 rcases g with⟨kvs,k,e,ey,l⟩|⟨kvs,k,b,e,ey,eb,l⟩
 .subst ey;obtain⟨z,hd,vs,ů,dd⟩:=Wa I.hok e;refine wpAny_notIn_of (Xu ry) hd dd.mapOf ?_;rw[<-(ů.val k).isSome_eq,<-l];exact h _<|I.tok _
 .subst ey;cases (show u=Value.ref b from ry);obtain⟨z,hd,xs,ů,dd⟩:=W5 I.hok e;refine wpAny_notIn_heap (Ź hu) (fx I.hok eb) hd dd ?_;have q:=(ů.val k).isSome_eq;rw[ϭ]at q;rw[<-q,<-l];exact h _<|I.tok _
variable {h':ă}
def WF{t':Nat}{ob:HO}(I:Inv X Á σ H s)(mu:Mut<|H a)(hs:Ţ a s.heap h')(he:∃q,h'.get? a=eY q)(new:fo X.prog X.w (upd H a ob) h' a ob) :
  Inv X Á σ (upd H a ob) {s with heap:=h',toks:=t'} :=
 I.write (x:=a) (e:=a) mu (.inl rfl) (λb q hb z=>(hs.2 b hb).trans z) he new
def W8{kvs:List (Key×V)}{vs:List (Key×Â)}(z:kvs.length<=Õ)(hd:(a==Ś)=fc)(ů:KV kvs vs)(dd:h'.DictOf (Zc P w) a vs) :
  fo P w H' h' a (.dK kvs):=⟨z,hd,vs,ů,dd⟩
def U0{Q:Unit->Å->Prop}(hu:A.units+1<ĩ)(I:Inv X Á σ H s)(g:DPut H a y v H')(ry:RelV y u)(rv:RelV v r)(h:∀s',Inv X Á σ H' s'->Q () s') :
  wpAny (Ù X.prog X.w) A (aN (.ref a) u r) Q E s:=by
 rcases g with⟨kvs,k,e,ey,l,eH⟩|⟨kvs,k,b,e,ey,eb,l,eH⟩
 .subst ey eH;obtain⟨z,hd,vs,ů,dd⟩:=Wu I.hok e;have hz:vs.length<=Õ:=by rw[<-ů.length];exact z
  have hl:(fI kvs k v).length<=Õ:=by have:=Yg kvs k v;lia
  refine wpAny_setItem_pairs (hsz:=hz) (Xu ry) dd λh' eh hs=>h _ ?_;have he:∃q,h'.get? a=eY q:=let ⟨q,_,_,hq,_⟩:=eh;⟨q,hq⟩;exact WF I (by rw[e];exact True.intro) hs he<|W8 hl hd (ů.put k rv) eh
 .subst ey eH;cases (show u=Value.ref b from ry);obtain⟨z,hd,xs,ů,dd⟩:=Ql I.hok e;have hz:xs.length<=Õ:=by rw[<-Paired.length ů];exact z
  have hl:(fI kvs k v).length<=Õ:=by have:=Yg kvs k v;lia
  refine wpAny_setItem_heap (hsz:=hz) (Ź hu) (fx I.hok eb) dd λh' eh hs=>h _ ?_;obtain⟨q,es,ep,hq,h2,h3,h4,_,h5⟩:=eh;refine WF I (by rw[e];exact True.intro) hs ⟨q,hq⟩ ⟨hl,hd,_,(ů.put k eb rv).keeps λc ys ec=>?_,q,es,ep,hq,h2,h3,h4,h5⟩;rw[fe<|Bt ec e λz=>nomatch z];exact ec
end
section
variable {X:Cx}{Á:List (È×Obj)}{σ:St}{H:Hp}{s:Å}{a:È}{kvs:List (Key×V)}{k:Key}{u:Â}{A:Ą}{E:Â->Å->Prop}
variable {Q:Â->Å->Prop}
def Hi{v:V}{more:List Â}(I:Inv X Á σ H s)(e:H a=eY (.dK kvs))(ry:RelV (kV k) u)(l:Yx kvs k=eY v)(hm:more=[]\/∃x,more=[x])
  (h:∀w' s',Inv X Á σ (upd H a<|.dK<|fJ kvs k) s'->RelV v w'->Q w' s'):wpAny (Ù X.prog X.w) A (call (.builtin "dict.pop")<|.ref a::u::more) Q E s:=by
 obtain⟨z,hd,vs,ů,dd⟩:=Wu I.hok e;obtain⟨w',hw,aX⟩:=fK.some_of (v:=v) (o:=Ϣ vs k) (by rw[<-l];exact ů.val k);have hp:(keyPart u).isSome=fb:=by
  cases k with
  |inl i=>obtain⟨t,q⟩:=(show ∃t,u=Value.int i t from ry);subst q;rfl
  |inr x=>obtain⟨t,q⟩:=(show ∃t,u=Value.str x t from ry);subst q;rfl
 have ha:ϣ "dict.pop" ⟨.ref a::u::more,[]⟩:=by
  rcases hm with q|⟨x,q⟩
  .subst q;exact PySem.F.args_dict_pop_2 _ _
  .subst q;exact PySem.F.args_dict_pop_3 _ _ _
 refine Ϥ PySem.F.slot_dict_pop dd.typeIs PySem.F.entry_dict_pop ha (meets_dict_pop_there (Zc X.prog X.w) a (Xu ry) more hm hp)
  ⟨vs,w',dd,by rw[<-ů.length];exact z,hw,λh' eh hs=>h w' _ ?_ aX⟩
 have he:∃q,h'.get? a=eY q:=let ⟨q,_,_,hq,_⟩:=eh;⟨q,hq⟩;exact WF I (by rw[e];exact True.intro) hs he<|W8 (ß (Do kvs k) z) hd (ů.drop k) eh
def Lj{r:Â}(I:Inv X Á σ H s)(e:H a=eY (.dK kvs))(ry:RelV (kV k) u)(l:Yx kvs k=eZ)(h:∀s',Inv X Á σ H s'->Q r s') :
  wpAny (Ù X.prog X.w) A (call (.builtin "dict.pop") [.ref a,u,r]) Q E s:=by
 obtain⟨z,hd,vs,ů,dd⟩:=Wu I.hok e;have hn:Ϣ vs k=eZ:=fK.none_of (by rw[<-l];exact ů.val k);have hp:(keyPart u).isSome=fb:=by
  cases k with
  |inl i=>obtain⟨t,q⟩:=(show ∃t,u=Value.int i t from ry);subst q;rfl
  |inr x=>obtain⟨t,q⟩:=(show ∃t,u=Value.str x t from ry);subst q;rfl
 exact Ϥ PySem.F.slot_dict_pop dd.typeIs PySem.F.entry_dict_pop (PySem.F.args_dict_pop_3 _ _ _) (meets_dict_pop_default (Zc X.prog X.w) a (Xu ry) hd hp r) ⟨vs,dd,hn,h _<|I.tok _⟩
def Qu(I:Inv X Á σ H s)(e:Rd H a<|.dK kvs)(h:∀t s',Inv X Á σ H s'->Q (.int kvs.length t) s'):wpAny (Ù X.prog X.w) A (call (.builtin "len") [.ref a]) Q E s:=by obtain⟨z,hd,vs,ů,dd⟩:=Wa I.hok e;refine call_len_dict hd dd (by rw[<-ů.length];rw[ϱ]at z;lia) ?_;rw[<-ů.length];exact h _ _ (I.tok _)
end
variable {X:Cx} {Á:List (È×Obj)} {σ:St} {s:Å}
def NB{o:Option V}(I:Inv X Á σ H s)(g:DGet H a y o):s.TypeIs (.ref a) "dict":=by
 rcases g with⟨kvs,k,e,_,_⟩|⟨kvs,k,b,e,_,_,_⟩
 .obtain⟨_,_,vs,_,dd⟩:=Wa I.hok e;exact dd.typeIs
 .obtain⟨_,_,xs,_,dd⟩:=W5 I.hok e;exact dd.typeIs
def NV(h:ă)(hb:Ś<h.objs.size):fo P w H (h.push {cls:=.type "dict",data:=.dict #[]}) h.objs.size (.dK []) :=
 ⟨ğ _,beq_eq_false_iff_ne.mpr<|Ne.symm<|Ý hb,[],.nil,Heap.DictOf.new h⟩
abbrev L1:TE:=λ_ H Q=>∀p,H p=eZ->Q (.ref p) (upd H p<|.dK [])
section
variable {X:Cx}{é:Pos}
def pe_dnewK:PE X (.Dict [] [] é) L1:=λÁ s σ H Q I h =>
 wpAny_Dict_empty ⟨.ref s.heap.objs.size,_,I.laid (a:=s.heap.objs.size) (o:=.dK []) (t':=s.toks) (λ_ _ q=>Ä _ q) (Ì _)<|NV s.heap I.big,rfl,h _<|I.hok.fresh<|Ì _⟩
end
abbrev Mf:List (TE×TE)->St->Hp->(List (V×V)->Hp->Prop)->Prop
 |[],_,H,Q=>Q [] H
 |(tk,tv)::r,σ,H,Q=>tk σ H λx H1=>tv σ H1 λy H2=>Mf r σ H2 λps H3=>Q ((x,y)::ps) H3
@[reducible] noncomputable def VV:List (V×V)->List (Â×Â)->Prop:=Paired λp q=>RelV p.1 q.1/\RelV p.2 q.2
abbrev PPs(X:Cx)(é:Pos)(keys:List<|Option Expr)(Ο:List Expr)(trs:List<|TE×TE):Prop :=
 ∀(Á:List<|È×Obj) (s:Å) (σ:St) (H:Hp) (Q:List (V×V)->Hp->Prop),Inv X Á σ H s->Mf trs σ H Q->
  wpAny (Ù X.prog X.w) X.A (evalPairs<|pairTrees keys Ο X.env é) (λvs s'=>∃ps H',Inv X Á σ H' s'/\VV ps vs/\Q ps H') X.xe s
variable {é:Pos}
def F8:PPs X é [] [] []:=λÁ s σ H Q I h=>pairTrees_nil_walk ⟨[],H,I,.nil,h⟩
variable {trs:List (TE×TE)}
def B8{k v:Expr}{ks:List (Option Expr)}{vs:List Expr}{tk tv:TE}(hk:PE X k tk)(hv:PE X v tv)(hr:PPs X é ks vs trs) :
  PPs X é (eY k::ks) (v::vs) ((tk,tv)::trs):=λÁ s σ H Q I h =>
 pairTrees_cons_walk (thn (hk Á s σ H _ I h) λu s1 ⟨x,H1,I1,rx,q1⟩=>thn (hv Á s1 σ H1 _ I1 q1) λw2 s2 ⟨y,H2,I2,ry,q2⟩ =>
   thn (hr Á s2 σ H2 _ I2 q2) λws s3 ⟨ps,H3,I3,ů,q3⟩=>⟨(x,y)::ps,H3,I3,.cons ⟨rx,ry⟩ ů,q3⟩)
abbrev Y3(kvs more:List<|Key×V):List<|Key×V:=more.foldl (λģ kv=>fI ģ kv.1 kv.2) kvs
def KV.merge:∀{more:List (Key×V)}{rs:List (Key×Â)}{kvs:List (Key×V)}{vs:List (Key×Â)},KV more rs->KV kvs vs->KV (Y3 kvs more) (merged vs rs):=by
 intro more rs kvs vs r;unfold KV at r;induction r generalizing kvs vs with
 |nil=>intro q;exact q
 |@cons p q ps qs h t ih =>
  intro r0;have e:KV (fI kvs p.1 p.2)<|eQ vs q.1 q.2:=by have:=r0.put p.1 h.2;rw[<-h.1];exact this
  exact ih e
def Xv:∀(more kvs:List<|Key×V),(Y3 kvs more).length<=kvs.length+more.length
 |[],kvs=>by show kvs.length<=kvs.length+0;lia
 |p::r,kvs=>by have h1:=Xv r<|fI kvs p.1 p.2;have h2:=Yg kvs p.1 p.2;show(Y3 (fI kvs p.1 p.2) r).length<=_;rw[Ë];lia
def Ja{P:â}{w:ô}:∀{kvs:List (Key×V)}{ws:List (Â×Â)},VV (kvs.map λkv=>(kV kv.1,kv.2)) ws->∃rs,Carries (Zc P w) ws rs/\KV kvs rs
 |[],_,r=>by rw[ϋ]at r;cases r;exact⟨[],True.intro,.nil⟩
 |p::kvs,_,r=>by
  rw[Ï]at r;cases r with
  |@cons a b as bs h t =>obtain⟨rs,c,q⟩:=Ja (P:=P) (w:=w) t;obtain⟨b1,b2⟩:=b;exact⟨(p.1,b2)::rs,⟨Xu h.1,rfl,c⟩,.cons ⟨rfl,h.2⟩ q⟩
abbrev Q6(trs:List<|TE×TE):TE:=λσ H Q=>∀p,H p=eZ->Mf trs σ (upd H p<|.dK []) λps H2=>H2 p=eY (.dK [])/\∃kvs:List<|Key×V,ps=kvs.map (λkv=>(kV kv.1,kv.2))/\kvs.length<=15/\Q (.ref p) (upd H2 p<|.dK<|Y3 [] kvs)
def EI{keys:List (Option Expr)}{Ο:List Expr}(h:PPs X é keys Ο trs)(hall:keys.all (·.isSome)=fb)(hl:keys.length=Ο.length)(h0:keys≠[])
  (h15:keys.length<=15):PE X (.Dict keys Ο é)<|Q6 trs:=by
 intro Á s σ H Q I q;have hn:=I.hok.fresh<|Ì s.heap.objs.size;have I1:=I.laid (a:=s.heap.objs.size) (o:=.dK []) (h':=s.heap.push {cls:=.type "dict",data:=.dict #[]}) (t':=s.toks) (λ_ _ q=>Ä _ q) (Ì _)<|NV s.heap I.big;refine wpAny_Dict_walk (knd:=Zc X.prog X.w) hall hl h0 h15<|thn (h Á _ σ _ _ I1<|q _ hn) λws s2 ⟨ps,H2,I2,ů,e,kvs,ep,lk,q2⟩=>?_;subst ep;obtain⟨rs,c,rk⟩:=Ja (P:=X.prog) (w:=X.w) ů;obtain⟨z,hd,vs0,r0,dd⟩:=Wu I2.hok e;cases r0;refine⟨rs,c,dd,λh' eh hs=>⟨.ref s.heap.objs.size,_,?_,rfl,q2⟩⟩;have hz:(Y3 [] kvs).length<=Õ:=by have h1:=Xv kvs [];rw[ē]at h1;rw[ϱ];lia
 have he:∃q,h'.get? s.heap.objs.size=eY q:=let ⟨q,_,_,hq,_⟩:=eh;⟨q,hq⟩;exact WF I2 (by rw[e];exact True.intro) hs he<|W8 hz hd (rk.merge .nil) eh
abbrev RI(H:Hp)(a:È):Prop:=(∃kvs,Rd H a<|.dK kvs)\/∃kvs,Rd H a (.dT kvs)
def LJ(I:Inv X Á σ H s)(d:RI H a) :
  s.TypeIs (.ref a) "dict"/\(∀b,Value.ref a=.ref b->∃ob,s.heap.get? b=eY ob/\ob.dict=eZ)/\(a==Ś)=fc:=by
 rcases d with⟨kvs,e⟩|⟨kvs,e⟩
 .obtain⟨_,hd,vs,_,dd⟩:=Wa I.hok e;refine⟨dd.typeIs,λb q=>?_,hd⟩;cases q;obtain⟨ob,_,_,h1,h2,_⟩:=dd;exact⟨ob,h1,h2.2.1⟩
 .obtain⟨_,hd,xs,_,dd⟩:=W5 I.hok e;refine⟨dd.typeIs,λb q=>?_,hd⟩;cases q;obtain⟨ob,_,_,h1,h2,_⟩:=dd;exact⟨ob,h1,h2.2.1⟩
section
variable {X:Cx}{Á:List (È×Obj)}{σ:St}{H:Hp}{s:Å}{a:È}{y d:V}{u r:Â}{o:Option V}{A:Ą}{E:Â->Å->Prop}
def Lo{Q:Â->Å->Prop}(hu:A.units+1<ĩ)(I:Inv X Á σ H s)(g:DGet H a y o)(ry:RelV y u)(h:∀w' s',Inv X Á σ H s'->RelV (o.getD .non) w'->Q w' s') :
  wpAny (Ù X.prog X.w) A (call (.builtin "dict.get") [.ref a,u]) Q E s:=by
 rcases g with⟨kvs,k,e,ey,l⟩|⟨kvs,k,b,e,ey,eb,l⟩
 .subst ey;obtain⟨z,hd,vs,ů,dd⟩:=Wa I.hok e;refine Ϥ PySem.F.slot_dict_get dd.typeIs PySem.F.entry_dict_get (PySem.F.args_dict_get_2 _ _) (meets_dict_get (Zc X.prog X.w) a (Xu ry) hd) ⟨_,dd.mapOf,h _ _ (I.tok _) ?_⟩;rw[l];exact(ů.val k).getD rfl
 .subst ey;cases (show u=Value.ref b from ry);obtain⟨z,hd,xs,ů,dd⟩:=W5 I.hok e;refine Ϥ PySem.F.slot_dict_get dd.typeIs PySem.F.entry_dict_get (PySem.F.args_dict_get_2 _ _) (meetsH_dict_get (Ϲ<|Zc X.prog X.w) a b hd) ⟨Ź hu,k,xs,fx I.hok eb,dd,h _ _ (I.tok _) ?_⟩;rw[l];exact(ů.val k).getD rfl
end
section
variable {X:Cx}
def AR:fm X (.builtin "len") λxs H Q=>∃a kvs,xs=[V.ref a]/\H a=eY (.dK kvs)/\Q (.int kvs.length) H:=by intro Á s σ H xs us Q I r h;obtain⟨a,kvs,rfl,ha,q⟩:=h;obtain⟨u,rfl,ru⟩:=ZL r;cases ru;exact Qu I (.inl ha) λt s' I'=>⟨.int kvs.length,H,I',⟨t,rfl⟩,q⟩
end
end L2
namespace O
noncomputable abbrev Ad:=Nat
inductive Val where
 |non|bl (b:Bool)|int (i:Int)|str (s:String)|tup (xs:List Val)|ref (a:Ad)|scr (ns:List Int)|key (i j:Int)
 deriving Inhabited
mutual
noncomputable def Val.eqb:Val->Val->Bool
 |.non,b=>match b with|.non=>fb|_=>fc
 |.bl a,b=>match b with|.bl c=>a==c|_=>fc
 |.int a,b=>match b with|.int c=>a==c|_=>fc
 |.str a,b=>match b with|.str c=>a==c|_=>fc
 |.tup a,b=>match b with|.tup c=>Val.eqs a c|_=>fc
 |.ref a,b=>match b with|.ref c=>a==c|_=>fc
 |.scr a,b=>match b with|.scr c=>a==c|_=>fc
 |.key a b,x=>match x with|.key c d=>a==c&&b==d|_=>fc
noncomputable def Val.eqs:List Val->List Val->Bool
 |[],b=>match b with|[]=>fb|_=>fc
 |x::xs,b=>match b with|y::ys=>Val.eqb x y&&Val.eqs xs ys|_=>fc
end
mutual
theorem Val.eqb_iff:∀{a b:Val},Val.eqb a b=fb↔a=b
 |.non,b=>by cases b<;>simp[Val.eqb]
 |.bl _,b=>by cases b<;>simp[Val.eqb]
 |.int _,b=>by cases b<;>simp[Val.eqb]
 |.str _,b=>by cases b<;>simp[Val.eqb]
 |.tup _,b=>by cases b<;>simp[Val.eqb,Val.eqs_iff]
 |.ref _,b=>by cases b<;>simp[Val.eqb]
 |.scr _,b=>by cases b<;>simp[Val.eqb]
 |.key _ _,b=>by cases b<;>simp[Val.eqb]
theorem Val.eqs_iff:∀{a b:List Val},Val.eqs a b=fb↔a=b
 |[],b=>by cases b<;>simp[Val.eqs]
 |_::_,b=>by cases b<;>simp[Val.eqs,Val.eqb_iff,Val.eqs_iff]
end
noncomputable instance:DecidableEq Val:=λa b=>if h:Val.eqb a b=fb then isTrue (Val.eqb_iff.mp h)else isFalse λe=>h<|Val.eqb_iff.mpr e
inductive Ob where
 |lst (xs:List Val)|dct (kvs:List<|Val×Val)|ins (C:String) (fs:List<|String×Val)|exc (C:String)|frz (kvs:List<|Val×Val)|dtp (kvs:List<|Val×Val)
 deriving Inhabited
abbrev figB(c:Char):Bool:=gK (48<=c.toNat)&&gK (c.toNat<=57)
abbrev decN(l:List Char):Nat:=l.foldl (λa c=>10*a+(c.toNat - 48)) 0
abbrev Qf:Val->Option String
 |.str s=>eY s
 |_=>eZ
abbrev oneC(s:String):Option Char:=match s.toList with
 |[c]=>eY c
 |_=>eZ
abbrev GC(i:Int):String:=toString i
abbrev fmtV:Val->Option String
 |.str s=>eY s
 |.int i=>if i.natAbs<10 ^ 200 then eY (GC i)else eZ
 |_=>eZ
noncomputable abbrev Hs:=Ad->Option Ob
@[irreducible] noncomputable def upd(h:Hs)(a:Ad)(o:Ob):Hs:=λb=>if b=a then eY o else h b
variable {h:Hs} {a:Ad} {o:Ob}
def ff:upd h a o a=eY o:=by simp[upd]
def fe{b:Ad}(e:b≠a):upd h a o b=h b:=by simp[upd,e]
def fg{u:Ob}:upd (upd h a o) a u=upd h a u:=by funext b;simp only[upd];split<;>rfl
noncomputable abbrev Env:=List<|Option Val
noncomputable abbrev Q1:=Val->Hs->Prop
noncomputable abbrev XQ:=String->Hs->Prop
noncomputable abbrev Fs:=String->List Val->Hs->Q1->XQ->Prop
abbrev lim:Nat:=1000000
variable {α:Type}
@[irreducible] noncomputable def go(o:Option α)(k:α->Prop):Prop:=match o with|some a=>k a|none=>False
@[simp] theorem fh{a:α}{k:α->Prop}:go (eY a) k=k a:=by unfold go;rfl
@[simp] theorem E3{k:α->Prop}:go eZ k=False:=by unfold go;rfl
def fi{o:Option α}{a:α}{k:α->Prop}(e:o=eY a)(h:k a):go o k:=by rw[e,fh];exact h
set_option genInjectivity false
inductive Bop where|add|sub|mul|fdiv|mod|pow
inductive Cop where|eq|ne|lt|le|gt|ge|isin|notin|is|isnot|eqE|neE|ntT
inductive Bi where
 |len|int|str|bool|abs|min2|max2|minL|maxL|minD|sum|all|any|sorted|sortedI|sortedSet|lenSet|list|tuple|dict|isi (Ts:List String)|isx (Ts:List String)|isc (C:String)|repr|listRev|listRange|tupRange|dictEnum|minP|maxP
inductive Bm where
 |append|extend|pop|popAt|insert|remove|clear|reverse|index|count|dget|dgetD|dpop|dpopD|setdefault|join|split|replace|upper|partition|sidx
inductive Pt where|one (i:Nat)|many (is:List Nat)|nest (i:Nat) (is:List Nat)
mutual
inductive E where
 |cst (v:Val)|var (i:Nat)|glob (x:String) (v:Val)
 |bin (op:Bop) (a b:E)|neg (a:E)|not (a:E)|and (a b:E)|or (a b:E)
 |cmp (op:Cop) (a b:E)|chain (o1 o2:Cop) (a b c:E)
 |call (f:String) (as:Es)|make (C:String) (as:Es)|meth (C m:String) (o:E) (as:Es)|fld (o:E) (f:String)
 |bi (f:Bi) (as:Es)|bm (m:Bm) (o:E) (as:Es)
 |idx (a i:E)|slc (a:E) (lo hi:Oe)|rev (a:E)
 |tup (es:Es)|lst (es:Es)|dct (es:Es)
 |ife (c:Tt) (a b:E)
 |comp (ö:List Nat) (n:Nat) (p:Pt) (it:It) (c:Tt) (e:E)
 |fstr (es:Es)
 |split (o a:E)
 |repl (o:E) (y z:String)
 |key (es:Es)|dctP
inductive Es where|nil|cons (e:E) (es:Es)
inductive Oe where|none|some (e:E)
inductive Tt where|yes|val (e:E)|not (t:Tt)|and (a b:Tt)|or (a b:Tt)
inductive It where
 |seq (e:E)|chars (e:E)|range (a:E)|range2 (a b:E)|enum (e:E)|zip (a b:E)|items (e:E)|rev (e:E)
end
mutual
inductive S where
 |set (p:Pt) (e:E)|setIdx (a i e:E)|setFld (o:E) (f:String) (e:E)
 |augVar (i:Nat) (op:Bop) (e:E)|augFld (o:E) (f:String) (op:Bop) (n:Int)|augIdx (a i:E) (op:Bop) (n:Int)
 |setPair (a i b j e:E)
 |expr (e:E)|ret (e:E)|retN|ite (c:Tt) (a b:Ss)|whl (c:Tt) (b:Ss)|for (p:Pt) (it:It) (b:Ss)|forI (k:Bool) (p:Pt) (e:E) (b:Ss)
 |never|brk|cnt|pass|raise (C:String) (as:Es)|try (t:Option Nat) (e:E) (hs:Hn)
inductive Ss where|nil|cons (s:S) (ss:Ss)
inductive Hn where|nil|cons (C:String) (n:Option Nat) (b:Ss) (r:Hn)
end
set_option genInjectivity true
abbrev ixN(n:Nat)(i:Int):Option Nat:=if 0<=i then(if i<n then eY i.toNat else eZ)else if -(n:Int)<=i then eY (i+n).toNat else eZ
abbrev atI(xs:List α)(i:Int):Option α:=(ixN xs.length i).bind λj=>xs[j]?
abbrev fP(n d:Nat):Option Int->Nat
 |none=>d
 |some i=>if 0<=i then min i.toNat n else(i+n).toNat
abbrev cut(xs:List α)(lo hi:Option Int):List α:=(xs.drop<|fP xs.length 0 lo).take<|fP xs.length xs.length hi - fP xs.length 0 lo
abbrev fv:Option Ob->Option (List Val)
 |some (.lst xs)=>eY xs
 |_=>eZ
@[simp] theorem Z9{xs:List Val}:fv (eY<|.lst xs)=eY xs:=rfl
abbrev C4(h:Hs):Val->Option (List Val)
 |.ref a=>fv<|h a
 |.tup xs=>eY xs
 |.scr ns=>eY<|ns.map .int
 |_=>eZ
abbrev gw:Option Ob->Option (List<|Val×Val)
 |some (.dct kvs)=>eY kvs
 |_=>eZ
abbrev fG(kvs:List<|Val×Val)(k:Val):Option Val:=(kvs.find? λp=>p.1==k).map (·.2)
abbrev fH(kvs:List<|Val×Val)(k:Val):Bool:=kvs.any λp=>p.1==k
abbrev fI(kvs:List<|Val×Val)(k v:Val):List<|Val×Val:=if fH kvs k then kvs.map λp=>if p.1==k then(k,v)else p else kvs++[(k,v)]
abbrev fJ(kvs:List<|Val×Val)(k:Val):List<|Val×Val:=kvs.filter λp=>!(p.1==k)
abbrev fA:Val->Bool
 |.int _=>fb
 |.str _=>fb
 |_=>fc
inductive D where
 |non|bl (b:Bool)|int (i:Int)|str (s:String)|tup (ds:List D)|lst (ds:List D)
 deriving Inhabited
mutual
noncomputable def D.eqv:D->D->Bool
 |.non,.non=>fb
 |.bl a,.bl b=>a==b
 |.bl a,.int i=>(if a then 1 else 0)==i
 |.int i,.bl a=>i==(if a then 1 else 0)
 |.int a,.int b=>a==b
 |.str a,.str b=>a==b
 |.tup a,.tup b=>D.eqvs a b
 |.lst a,.lst b=>D.eqvs a b
 |_,_=>fc
noncomputable def D.eqvs:List D->List D->Bool
 |[],[]=>fb
 |x::xs,y::ys=>D.eqv x y&&D.eqvs xs ys
 |_,_=>fc
end
abbrev dat(h:Hs):Nat->Val->Option D
 |_,.non=>eY .non
 |_,.bl b=>eY<|.bl b
 |_,.int i=>eY<|.int i
 |_,.str s=>eY<|.str s
 |0,_=>eZ
 |n+1,.tup xs=>(xs.mapM<|dat h n).map .tup
 |n+1,.ref a=>(fv<|h a).bind λxs=>(xs.mapM<|dat h n).map .lst
 |n+1,.scr ns=>eY<|.lst<|ns.map .int
 |_+1,.key _ _=>eZ
abbrev deep:Nat:=12
abbrev eqV(h:Hs)(v u:Val):Option Bool:=(dat h deep v).bind λd=>(dat h deep u).map λe=>D.eqv d e
abbrev fk:List Val->Option (List Int)
 |[]=>eY []
 |.int i::xs=>(fk xs).map (i :: ·)
 |_=>eZ
abbrev fQ:List Int->List Int->Bool
 |[],[]=>fc
 |[],_::_=>fb
 |_::_,[]=>fc
 |x::xs,y::ys=>if x=y then fQ xs ys else gK (x<y)
abbrev fR:Val->Val->Option Bool
 |.int i,.int j=>eY<|gK (i<j)
 |.tup xs,.tup ys=>(fk xs).bind λns=>(fk ys).map λms=>fQ ns ms
 |_,_=>eZ
abbrev inL(h:Hs)(x:Val)(ys:List Val):Option Bool:=(dat h deep x).bind λd=>(ys.mapM<|dat h<|deep - 1).map λds=>ds.any λe=>D.eqv e d
abbrev leV:Val->Val->Option Bool
 |.int i,.int j=>eY<|gK (i<=j)
 |_,_=>eZ
abbrev isKeyT:Val->Bool
 |.key _ _=>fb
 |_=>fc
abbrev inV(h:Hs)(v u:Val):Option Bool:=match u with
 |.tup xs=>inL h v xs
 |.ref a=>match h a with
  |some (.lst xs)=>inL h v xs
  |some (.dct kvs)=>if fA v then eY (fH kvs v)else eZ
  |some (.frz kvs)=>if fA v then eY (fH kvs v)else eZ
  |some (.dtp kvs)=>if isKeyT v then eY (fH kvs v)else eZ
  |_=>eZ
 |.str t=>(match v with|.str s=>(oneC s).map λc=>gK (c∈t.toList)|_=>eZ)
 |_=>eZ
abbrev isV(v u:Val):Option Bool:=match u with
 |.non=>eY<|gK (v=.non)
 |.bl b=>eY<|gK (v=.bl b)
 |_=>eZ
abbrev asLst(h:Hs):Val->Option (List Val)
 |.ref a=>fv<|h a
 |_=>eZ
abbrev fz(h:Hs)(op:Cop)(v u:Val):Option Bool:=match op with
 |.eq=>eqV h v u
 |.ne=>(eqV h v u).map (!·)
 |.lt=>fR v u
 |.gt=>fR u v
 |.le=>leV v u
 |.ge=>leV u v
 |.isin=>inV h v u
 |.notin=>(inV h v u).map (!·)
 |.is=>isV v u
 |.isnot=>(isV v u).map (!·)
 |.eqE=>(asLst h v).bind λxs=>(asLst h u).bind λys=>if ys.isEmpty then eY xs.isEmpty else eZ
 |.neE=>(asLst h v).bind λxs=>(asLst h u).bind λys=>if ys.isEmpty then eY (!xs.isEmpty)else eZ
 |_=>eZ
abbrev Wn(h:Hs):Val->Option Bool
 |.bl b=>eY b
 |.int i=>eY<|gK (i≠0)
 |.non=>eY fc
 |.str s=>if s.length<=lim then eY (gK (s.length≠0))else eZ
 |.tup xs=>eY (!xs.isEmpty)
 |.scr ns=>eY (!ns.isEmpty)
 |.ref a=>match h a with
  |some (.lst xs)=>eY (!xs.isEmpty)
  |some (.dct kvs)=>eY (!kvs.isEmpty)
  |_=>eZ
 |.key _ _=>eZ
abbrev mulOk(i j:Int):Prop:=(i.natAbs<2 ^ 64\/j.natAbs<2 ^ 64)\/(i.natAbs<=10 ^ 200/\j.natAbs<=10 ^ 200)
instance (i j:Int):Decidable<|mulOk i j:=inferInstanceAs<|Decidable<|_\/_
@[irreducible] noncomputable def new(h:Hs)(o:Ob)(Q:Q1):Prop:=∀p,h p=eZ->Q (.ref p) (upd h p o)
variable {Q:Q1}
def Xf(q:∀p,h p=eZ->Q (.ref p) (upd h p o)):new h o Q:=by unfold new;exact q
inductive Rs where|val (v:Val)|new (o:Ob)|no
@[irreducible] noncomputable def Rs.wp(r:Rs)(h:Hs)(Q:Q1):Prop:=match r with|.val v=>Q v h|.new o=>O.new h o Q|.no=>False
@[simp] theorem Rs.wp_val{v:Val}:(Rs.val v).wp h Q=Q v h:=by unfold Rs.wp;rfl
@[simp] theorem Rs.wp_new:(Rs.new o).wp h Q=O.new h o Q:=by unfold Rs.wp;rfl
@[simp] theorem Rs.wp_no:Rs.no.wp h Q=False:=by unfold Rs.wp;rfl
abbrev Rs.ofO:Option Val->Rs
 |some v=>.val v
 |none=>.no
abbrev Rs.lst(xs:List Val):Rs:=if xs.length<=lim then .new (.lst xs)else .no
abbrev addV(h:Hs):Val->Val->Rs
 |.int i,.int j=>.val<|.int<|i+j
 |.str s,.str t=>if s.length+t.length<=lim then .val (.str<|s++t)else .no
 |.tup xs,.tup ys=>if xs.length+ys.length<=lim then .val (.tup<|xs++ys)else .no
 |.ref a,.ref b=>match h a,h b with
  |some (.lst xs),eY (.lst ys)=>Rs.lst<|xs++ys
  |_,_=>.no
 |_,_=>.no
abbrev repT(s:String)(n:Nat):String:=Η (Ó n s.toList).flatten
abbrev mulV(h:Hs):Val->Val->Rs
 |.int i,.int j=>if mulOk i j then .val (.int<|i*j)else .no
 |.ref a,.int k=>match h a with
  |some (.lst xs)=>if -(2 ^ 62)<k/\k<2 ^ 62/\xs.length*k.toNat<=lim then Rs.lst (Ó k.toNat xs).flatten else .no
  |_=>.no
 |.str s,.int k=>if 2<=k/\k<=1000000/\1<=s.length/\s.length*k.toNat<=lim then .val (.str<|repT s k.toNat)else .no
 |_,_=>.no
abbrev intV(f:Int->Int->Rs):Val->Val->Rs
 |.int i,.int j=>f i j
 |_,_=>.no
abbrev binV(h:Hs)(op:Bop)(v u:Val):Rs:=match op with
 |.add=>addV h v u
 |.sub=>intV (λi j=>.val<|.int<|i - j) v u
 |.mul=>mulV h v u
 |.fdiv=>intV (λi j=>if 0<j/\j<1073741824 then .val (.int<|i / j)else .no) v u
 |.mod=>intV (λi j=>if 0<j then .val (.int<|i % j)else .no) v u
 |.pow=>intV (λi j=>if 0<=j/\j<=1000000/\i.natAbs<2 ^ 64 then .val (.int<|i ^ j.toNat)else .no) v u
abbrev gx:Val->Option Int
 |.int i=>eY i
 |_=>eZ
abbrev fS(h:Hs):Val->Val->Option Val
 |.tup xs,.int k=>atI xs k
 |.str s,.int k=>if s.length<=lim then(atI s.toList k).map λc=>.str (ab c)else eZ
 |.ref a,k=>match h a with
  |some (.lst xs)=>(gx k).bind<|atI xs
  |some (.dct kvs)=>if fA k then fG kvs k else eZ
  |some (.frz kvs)=>if fA k then fG kvs k else eZ
  |some (.dtp kvs)=>if isKeyT k then fG kvs k else eZ
  |_=>eZ
 |.scr ns,.int i=>atI (ns.map .int) i
 |_,_=>eZ
abbrev fT(h:Hs)(v:Val)(lo hi:Option Int):Rs :=
 match v with
 |.tup xs=>if fP xs.length 0 lo=0/\fP xs.length xs.length hi=xs.length then .val (.tup xs)else .val (.tup<|cut xs lo hi)
 |.ref a=>match fv (h a)with
  |some xs=>.new<|.lst<|cut xs lo hi
  |none=>.no
 |.scr ns=>.new<|.lst<|cut (ns.map .int) lo hi
 |.str s=>if s.length<=lim then .val (.str<|Η<|cut s.toList lo hi)else .no
 |_=>.no
abbrev sortI(ns:List Int):List Int:=ns.mergeSort λa b=>gK (a<=b)
abbrev blsOf:List Val->Option (List Bool)
 |[]=>eY []
 |.bl b::xs=>(blsOf xs).map (b :: ·)
 |_=>eZ
abbrev minL:List Val->Option Val
 |[]=>eZ
 |x::xs=>xs.foldl (λm y=>m.bind λb=>(fR y b).map λc=>if c then y else b)<|eY x
abbrev maxL:List Val->Option Val
 |[]=>eZ
 |x::xs=>xs.foldl (λm y=>m.bind λb=>(fR b y).map λc=>if c then y else b)<|eY x
abbrev dedup:List Int->List Int
 |[]=>[]
 |x::xs=>x::(dedup xs).filter (· != x)
abbrev gk(c d:String):Bool:=c==d||d == "ShutError" || d == "ValueError" || d == "Exception"
abbrev gA(h:Hs):Val->Option String
 |.non=>eY "NoneType"
 |.bl _=>eY "bool"
 |.int _=>eY "int"
 |.str _=>eY "str"
 |.tup _=>eY "tuple"
 |.scr _=>eY "list"
 |.ref a=>match h a with
  |some (.lst _)=>eY "list"
  |some (.dct _)=>eY "dict"
  |_=>eZ
 |.key _ _=>eZ
abbrev gB(h:Hs)(v:Val)(T:String):Option Bool:=(gA h v).map λt=>t==T||(t == "bool" && T == "int")
abbrev isiAny(h:Hs)(v:Val):List String->Option Bool
 |[]=>eY fc
 |T::Ts=>(gB h v T).bind λb=>(isiAny h v Ts).map (b || ·)
abbrev pairsOf(h:Hs):List Val->Option (List<|Val×Val)
 |[]=>eY []
 |v::vs=>match v with
  |.tup [k,x]=>if fA k then(pairsOf h vs).map ((k,x) :: ·)else eZ
  |_=>eZ
abbrev pairUp:List Val->Option (List<|Val×Val)
 |[]=>eY []
 |k::v::r=>if fA k then(pairUp r).map ((k,v) :: ·)else eZ
 |_=>eZ
abbrev putAll(kvs:List<|Val×Val):List (Val×Val)->List (Val×Val)
 |[]=>kvs
 |(k,v)::r=>putAll (fI kvs k v) r
abbrev fX(h:Hs):Val->Rs
 |.ref a=>match h a with
  |some (.lst xs)=>.val<|.int xs.length
  |some (.dct kvs)=>.val<|.int kvs.length
  |_=>.no
 |.tup xs=>.val<|.int xs.length
 |.scr ns=>.val<|.int ns.length
 |.str s=>if s.length<=lim then .val (.int s.length)else .no
 |_=>.no
abbrev QJ:Val->Rs
 |.int i=>.val<|.int i
 |.bl b=>.val (.int<|if b then 1 else 0)
 |.str s=>if s.length<=640/\s.toList≠[]/\s.toList.all figB=fb then .val (.int<|decN s.toList)else .no
 |_=>.no
abbrev absV:Val->Rs
 |.int i=>.val (.int<|if i<0 then -i else i)
 |_=>.no
abbrev fw(f:Val->Rs):List Val->Rs
 |[v]=>f v
 |_=>.no
abbrev biOf2(f:Val->Val->Rs):List Val->Rs
 |[v,u]=>f v u
 |_=>.no
abbrev rowsOf:List Val->Option (List<|List Int)
 |[]=>eY []
 |.tup xs::r=>(fk xs).bind λns=>(rowsOf r).map (ns :: ·)
 |_=>eZ
abbrev minR(b:List Int):List (List Int)->List Int
 |[]=>b
 |y::r=>minR (if fQ y b then y else b) r
abbrev fY(h:Hs)(v:Val):Rs:=match v with
 |.ref a=>match (fv<|h a).bind rowsOf with
  |some []=>.val .non
  |some (x::r)=>.val<|.tup<|(minR x r).map .int
  |none=>.no
 |_=>.no
abbrev Sc(h:Hs):Val->Rs
 |.ref a=>.ofO<|(fv<|h a).bind λxs=>(blsOf xs).map λbs=>.bl<|bs.all id
 |_=>.no
abbrev sortOf(h:Hs):Val->Option (List Int)
 |.ref a=>(fv<|h a).bind fk
 |.scr ns=>eY ns
 |_=>eZ
abbrev keysOf(kvs:List<|Val×Val):Option<|List Int:=fk (kvs.map (·.1))
abbrev sortAny(h:Hs)(v:Val):Option<|List Int:=match v with
 |.ref a=>match h a with
  |some (.lst xs)=>fk xs
  |some (.dct kvs)=>keysOf kvs
  |_=>eZ
 |.scr ns=>eY ns
 |_=>eZ
abbrev PB(Ė:List<|List Int):List<|List Int:=Ė.mergeSort λa b=>!fQ b a
abbrev Ig(h:Hs)(v:Val):Option<|List<|List Int:=match v with
 |.ref a=>(fv<|h a).bind rowsOf
 |_=>eZ
abbrev Aw(h:Hs)(v:Val):Rs:=match Ig h v with
 |some Ė=>if Ė.length<64/\(Ė.all λr=>!r.isEmpty)=fb then .new (.lst<|(PB Ė).map λr=>.tup<|r.map .int)else .no
 |none=>.no
abbrev Ju(h:Hs)(v:Val):Rs:=match sortAny h v with
 |some ns=>if ns.length<64 then .new (.lst<|(sortI ns).map .int)else .no
 |none=>Aw h v
abbrev biSortedI(h:Hs)(v:Val):Rs:=match sortAny h v with
 |some ns=>if ns.length<64 then .new (.lst<|(sortI ns).map .int)else .no
 |none=>.no
abbrev biSortedSet(h:Hs)(v:Val):Rs:=match sortOf h v with
 |some ns=>if ns.length<64 then .new (.lst<|(sortI<|dedup ns).map .int)else .no
 |none=>.no
abbrev biLenSet(h:Hs)(v:Val):Rs:=match sortOf h v with
 |some ns=>if ns.length<4000 then .val (.int (dedup ns).length)else .no
 |none=>.no
abbrev toList(h:Hs):Val->Rs
 |.ref a=>match h a with
  |some (.lst xs)=>.new<|.lst xs
  |_=>.no
 |.tup xs=>.new<|.lst xs
 |_=>.no
abbrev Mn(h:Hs):Val->Rs
 |.ref a=>match h a with
  |some (.lst xs)=>.val<|.tup xs
  |_=>.no
 |.tup xs=>.val<|.tup xs
 |_=>.no
abbrev OL(h:Hs):Val->Rs
 |.ref a=>match h a with
  |some (.dct kvs)=>.new<|.dct kvs
  |some (.lst xs)=>match pairsOf h xs with
   |some kvs=>.new<|.dct<|putAll [] kvs
   |none=>.no
  |_=>.no
 |_=>.no
abbrev biV(h:Hs)(b:Bi)(vs:List Val):Rs:=match b with
 |.len=>fw (fX h) vs
 |.int=>fw QJ vs
 |.min2=>biOf2 (intV λi j=>.val<|.int<|if j<i then j else i) vs
 |.max2=>biOf2 (intV λi j=>.val<|.int<|if j > i then j else i) vs
 |.minD=>fw (fY h) vs
 |.all=>fw (Sc h) vs
 |.sorted=>fw (Ju h) vs
 |.sortedI=>fw (biSortedI h) vs
 |.sortedSet=>fw (biSortedSet h) vs
 |.lenSet=>fw (biLenSet h) vs
 |.list=>fw (toList h) vs
 |.tuple=>fw (Mn h) vs
 |.dict=>fw (OL h) vs
 |.isi Ts=>fw (λv=>.ofO<|(isiAny h v Ts).map .bl) vs
 |_=>.no
abbrev bmL(h:Hs)(v:Val)(f:Ad->List Val->Option (Val×Hs)):Option<|Val×Hs:=match v with
 |.ref a=>(fv<|h a).bind<|f a
 |_=>eZ
abbrev bmD(h:Hs)(v:Val)(f:Ad->List (Val×Val)->Option (Val×Hs)):Option<|Val×Hs:=match v with
 |.ref a=>(gw<|h a).bind<|f a
 |_=>eZ
abbrev CH(h:Hs)(vs:List Val)(a:Ad)(xs:List Val):Option<|Val×Hs:=match vs with
 |[v]=>if xs.length<lim then eY (.non,upd h a<|.lst<|xs++[v])else eZ
 |_=>eZ
abbrev bmPopAt(h:Hs)(vs:List Val)(a:Ad)(xs:List Val):Option<|Val×Hs:=match vs with
 |[.int i]=>if -(2 ^ 62)<i/\i<2 ^ 62 then(ixN xs.length i).bind λk=>(xs[k]?).map λv=>(v,upd h a<|.lst<|xs.eraseIdx k)else eZ
 |_=>eZ
abbrev Qh(h:Hs)(vs:List Val)(a:Ad)(kvs:List<|Val×Val):Option<|Val×Hs:=match vs with
 |[k]=>if fA k then eY ((fG kvs k).getD .non,h)else eZ
 |_=>eZ
abbrev LQ(h:Hs)(vs:List Val)(a:Ad)(kvs:List<|Val×Val):Option<|Val×Hs:=match vs with
 |[k]=>if fA k then(fG kvs k).map λv=>(v,upd h a<|.dct<|fJ kvs k)else eZ
 |_=>eZ
abbrev E8(h:Hs)(vs:List Val)(a:Ad)(kvs:List<|Val×Val):Option<|Val×Hs:=match vs with
 |[k,d]=>if fA k then eY ((fG kvs k).getD d,upd h a<|.dct<|fJ kvs k)else eZ
 |_=>eZ
abbrev bmV(h:Hs)(m:Bm)(v:Val)(vs:List Val):Option<|Val×Hs:=match m with
 |.append=>bmL h v<|CH h vs
 |.popAt=>bmL h v<|bmPopAt h vs
 |.dget=>bmD h v<|Qh h vs
 |.dpop=>bmD h v<|LQ h vs
 |.dpopD=>bmD h v<|E8 h vs
 |_=>eZ
abbrev isLst:Option Ob->Bool
 |some (.lst _)=>fb
 |_=>fc
abbrev isDct:Option Ob->Bool
 |some (.dct _)=>fb
 |some (.dtp _)=>fb
 |_=>fc
inductive Ty where|l|d|s|t
abbrev Bm.ty:Bm->Ty
 |.dget=>.d
 |.dgetD=>.d
 |.dpop=>.d
 |.dpopD=>.d
 |.setdefault=>.d
 |.join=>.s
 |.split=>.s
 |.replace=>.s
 |.upper=>.s
 |.partition=>.s
 |.sidx=>.s
 |.index=>.t
 |_=>.l
abbrev JP(p:Option Ob->Bool)(h:Hs):Val->Bool
 |.ref a=>p<|h a
 |_=>fc
abbrev Lf:Val->Bool
 |.str _=>fb
 |_=>fc
abbrev HZ:Val->Bool
 |.tup _=>fb
 |_=>fc
abbrev bmTy(h:Hs)(m:Bm)(v:Val):Bool:=match m.ty with
 |.l=>JP isLst h v
 |.d=>JP isDct h v
 |.s=>Lf v
 |.t=>JP isLst h v||HZ v
abbrev fy:List (String×Val)->String->Val->List (String×Val)
 |[],f,v=>[(f,v)]
 |(g,x)::r,f,v=>if g=f then(g,v)::r else(g,x)::fy r f v
abbrev getV(env:Env)(i:Nat):Option Val:=match env[i]? with
 |some (eY v)=>eY v
 |_=>eZ
abbrev gy:Val->Option Bool
 |.bl b=>eY b
 |_=>eZ
abbrev fO:Val->Option Ad
 |.ref a=>eY a
 |_=>eZ
abbrev insOf:Option Ob->Option (String×List (String×Val))
 |some (.ins C fs)=>eY (C,fs)
 |_=>eZ
abbrev tupOf:Val->Option (List Val)
 |.tup xs=>eY xs
 |_=>eZ
abbrev bindL:List Nat->List Val->Env->Option Env
 |[],[],env=>eY env
 |i::is,x::xs,env=>bindL is xs<|env.set i<|eY x
 |_,_,_=>eZ
abbrev bind(p:Pt)(h:Hs)(v:Val)(env:Env):Option Env :=
 match p with
 |.one i=>eY<|env.set i<|eY v
 |.many is=>(tupOf v).bind λxs=>bindL is xs env
 |.nest i is=>(tupOf v).bind λxs=>match xs with
  |[x,y]=>(tupOf y).bind λys=>bindL is ys<|env.set i<|eY x
  |_=>eZ
abbrev wComp(st:Hs->Prop)(step:Val->Hs->(Option Val->Hs->Prop)->XQ->Prop):List Val->List Val->Hs->(List Val->Hs->Prop)->XQ->Prop
 |[],ģ,h,Q,_=>st h/\Q ģ h
 |v::vs,ģ,h,Q,X=>st h/\step v h (λr h'=>wComp st step vs (ģ++r.toList) h' Q X) X
abbrev enumL:Nat->List Val->List Val
 |_,[]=>[]
 |k,x::xs=>.tup [.int k,x]::enumL (k+1) xs
abbrev itV(h:Hs):Val->Option ((Hs->Prop)×List Val)
 |.tup xs=>eY (λ_=>True,xs)
 |.scr ns=>eY (λ_=>True,ns.map .int)
 |.ref a=>(fv<|h a).map λxs=>(λg=>fv (g a)=eY xs,xs)
 |_=>eZ
abbrev itemOf(k:Bool)(p:Val×Val):Val:=if k then p.1 else .tup [p.1,p.2]
abbrev fN(i j:Int):List Val:=(List.range (j - i).toNat).map λ(k:Nat)=>.int<|i+k
abbrev fU(h:Hs)(o k v:Val):Option Hs :=
 match o with
 |.ref p=>match h p with
  |some (.lst xs)=>(gx k).bind λn=>(ixN xs.length n).map λj=>upd h p<|.lst<|xs.set j v
  |some (.dct kvs)=>if fA k/\kvs.length<lim then eY (upd h p<|.dct<|fI kvs k v)else eZ
  |some (.dtp kvs)=>if isKeyT k/\kvs.length<lim then eY (upd h p<|.dtp<|fI kvs k v)else eZ
  |_=>eZ
 |_=>eZ
abbrev fW(h:Hs)(o:Val)(f:String)(v:Val):Option Hs :=
 match o with
 |.ref p=>match h p with
  |some (.ins C fs)=>if fs.length<900 then eY (upd h p<|.ins C<|fy fs f v)else eZ
  |_=>eZ
 |_=>eZ
abbrev fV(h:Hs)(o:Val)(f:String):Option Val:=(fO o).bind λa=>(insOf<|h a).bind λp=>p.2.lookup f
abbrev clsV(h:Hs)(o:Val)(m:String):Option String:=(fO o).bind λa=>(insOf<|h a).bind λp=>if(p.2.lookup m).isNone then eY p.1 else eZ
abbrev augV(op:Bop)(x y:Val):Option Val:=match op,x,y with
 |.add,.int i,.int j=>eY<|.int<|i+j
 |.sub,.int i,.int j=>eY<|.int<|i - j
 |_,_,_=>eZ
@[irreducible] noncomputable def NJ(F:Hs->(List Val->Hs->Prop)->XQ->Prop)(h:Hs)(Q:Q1)(X:XQ):Prop:=new h (.dct []) λr h1=>go (fO r) λp=>F h1 (λvs h2=>go (pairUp vs) λkvs=>h2 p=eY (.dct [])/\Q (.ref p) (upd h2 p<|.dct<|putAll [] kvs)) X
mutual
@[reducible] noncomputable def xE(Φ:Fs):E->Env->Hs->Q1->XQ->Prop
 |.cst v,_,h,Q,_=>Q v h
 |.glob _ v,_,h,Q,_=>Q v h
 |.var i,env,h,Q,_=>go (getV env i) λv=>Q v h
 |.bin op a b,env,h,Q,X=>xE Φ a env h (λv h1=>xE Φ b env h1 (λu h2=>(binV h2 op v u).wp h2 Q) X) X
 |.neg a,env,h,Q,X=>xE Φ a env h (λv h1=>go (gx v) λi=>Q (.int (-i)) h1) X
 |.not a,env,h,Q,X=>xE Φ a env h (λv h1=>go (gy v) λb=>Q (.bl (!b)) h1) X
 |.and a b,env,h,Q,X=>xE Φ a env h (λv h1=>go (gy v) λc=>if c=fb then xE Φ b env h1 Q X else Q (.bl fc) h1) X
 |.or a b,env,h,Q,X=>xE Φ a env h (λv h1=>go (gy v) λc=>if c=fb then Q (.bl fb) h1 else xE Φ b env h1 Q X) X
 |.cmp op a b,env,h,Q,X=>xE Φ a env h (λv h1=>xE Φ b env h1 (λu h2=>go (fz h2 op v u) λc=>Q (.bl c) h2) X) X
 | .chain o1 o2 a b c,env,h,Q,X=>xE Φ a env h (λv h1=>xE Φ b env h1 (λu h2=>go (fz h2 o1 v u) λk =>
     if k=fb then xE Φ c env h2 (λw h3=>go (fz h3 o2 u w) λk2=>Q (.bl k2) h3) X else Q (.bl fc) h2) X) X
 |.call f as,env,h,Q,X=>xA Φ as env h (λvs h1=>Φ f vs h1 Q X) X
 |.make C as,env,h,Q,X=>xA Φ as env h (λvs h1=>∀p,h1 p=eZ->Φ (C ++ ".__init__") (.ref p::vs) (upd h1 p<|.ins C []) (λv h2=>v=.non/\Q (.ref p) h2) X) X
 |.meth C m o as,env,h,Q,X=>xE Φ o env h (λv h1=>clsV h1 v m=eY C/\xA Φ as env h1 (λvs h2=>Φ (C ++ "." ++ m) (v::vs) h2 Q X) X) X
 |.fld o f,env,h,Q,X=>xE Φ o env h (λv h1=>go (fV h1 v f) λu=>Q u h1) X
 |.bi f as,env,h,Q,X=>xA Φ as env h (λvs h1=>(biV h1 f vs).wp h1 Q) X
 |.bm m o as,env,h,Q,X=>xE Φ o env h (λv h1=>bmTy h1 m v=fb/\xA Φ as env h1 (λvs h2=>go (bmV h2 m v vs) λr=>Q r.1 r.2) X) X
 |.idx a i,env,h,Q,X=>xE Φ a env h (λv h1=>xE Φ i env h1 (λk h2=>go (fS h2 v k) λu=>Q u h2) X) X
 |.slc a lo hi,env,h,Q,X=>xE Φ a env h (λv h1=>xO Φ lo env h1 (λl h2=>xO Φ hi env h2 (λu h3=>(fT h3 v l u).wp h3 Q) X) X) X
 |.tup es,env,h,Q,X=>xA Φ es env h (λvs h1=>Q (.tup vs) h1) X
 |.lst es,env,h,Q,X=>xA Φ es env h (λvs h1=>new h1 (.lst vs) Q) X
 |.dct es,env,h,Q,X=>NJ (xA Φ es env) h Q X
 |.ife c a b,env,h,Q,X=>xT Φ c env h (λk h1=>if k=fb then xE Φ a env h1 Q X else xE Φ b env h1 Q X) X
 | .comp ö n p it c e,env,h,Q,X=>xI Φ it env h (λst xs h1=>xs.length<lim/\
     wComp st (λv h2 K X2=>go (bind p h2 v<|Ó n eZ++ö.map λj=>(env[j]?).getD eZ) λŘ =>
       xT Φ c Ř h2 (λk h3=>if k=fb then xE Φ e Ř h3 (λu h4=>K (eY u) h4) X2 else K eZ h3) X2) xs [] h1 (λys h5=>new h5 (.lst ys) Q) λ_ _=>False) X
 |_,_,_,_,_=>False
@[reducible] noncomputable def xA(Φ:Fs):Es->Env->Hs->(List Val->Hs->Prop)->XQ->Prop
 |.nil,_,h,Q,_=>Q [] h
 |.cons e es,env,h,Q,X=>xE Φ e env h (λv h1=>xA Φ es env h1 (λvs h2=>Q (v::vs) h2) X) X
@[reducible] noncomputable def xJ(Φ:Fs):Es->Env->Hs->String->(String->Hs->Prop)->XQ->Prop
 |.nil,_,h,ģ,Q,_=>Q ģ h
 |.cons e es,env,h,ģ,Q,X=>xE Φ e env h (λv h1=>go (fmtV v) λs=>ģ.length+s.length<=lim/\xJ Φ es env h1 (ģ++s) Q X) X
@[reducible] noncomputable def xO(Φ:Fs):Oe->Env->Hs->(Option Int->Hs->Prop)->XQ->Prop
 |.none,_,h,Q,_=>Q eZ h
 |.some e,env,h,Q,X=>xE Φ e env h (λv h1=>go (gx v) λi=>Q (eY i) h1) X
@[reducible] noncomputable def xT(Φ:Fs):Tt->Env->Hs->(Bool->Hs->Prop)->XQ->Prop
 |.yes,_,h,Q,_=>Q fb h
 |.val e,env,h,Q,X=>xE Φ e env h (λv h1=>go (Wn h1 v) λk=>Q k h1) X
 |.not a,env,h,Q,X=>xT Φ a env h (λk h1=>Q (!k) h1) X
 |.and a b,env,h,Q,X=>xT Φ a env h (λk h1=>if k=fb then xT Φ b env h1 Q X else Q fc h1) X
 |.or a b,env,h,Q,X=>xT Φ a env h (λk h1=>if k=fb then Q fb h1 else xT Φ b env h1 Q X) X
@[reducible] noncomputable def xI(Φ:Fs):It->Env->Hs->((Hs->Prop)->List Val->Hs->Prop)->XQ->Prop
 |.seq e,env,h,Q,X=>xE Φ e env h (λv h1=>go (itV h1 v) λp=>Q p.1 p.2 h1) X
 |.range a,env,h,Q,X=>xE Φ a env h (λv h1=>go (gx v) λn=>(-(2 ^ 62)<=n/\n<2 ^ 62)/\Q (λ_=>True) (fN 0 n) h1) X
 | .range2 a b,env,h,Q,X=>xE Φ a env h (λv h1=>xE Φ b env h1 (λu h2=>go (gx v) λi=>go (gx u) λj =>
     (-(2 ^ 62)<=i/\i<2 ^ 62/\-(2 ^ 62)<=j/\j<2 ^ 62)/\Q (λ_=>True) (fN i j) h2) X) X
 |.enum e,env,h,Q,X=>xE Φ e env h (λv h1=>go (tupOf v) λxs=>Q (λ_=>True) (enumL 0 xs) h1) X
 |_,_,_,_,_=>False
end
@[reducible] noncomputable def wE:Fs->E->Env->Hs->Q1->XQ->Prop:=xE
@[reducible] noncomputable def wA:Fs->Es->Env->Hs->(List Val->Hs->Prop)->XQ->Prop:=xA
@[reducible] noncomputable def wJ:Fs->Es->Env->Hs->String->(String->Hs->Prop)->XQ->Prop:=xJ
@[reducible] noncomputable def wO:Fs->Oe->Env->Hs->(Option Int->Hs->Prop)->XQ->Prop:=xO
@[reducible] noncomputable def wT:Fs->Tt->Env->Hs->(Bool->Hs->Prop)->XQ->Prop:=xT
@[reducible] noncomputable def wI:Fs->It->Env->Hs->((Hs->Prop)->List Val->Hs->Prop)->XQ->Prop:=xI
def Qr:wE=xE:=by unfold wE;rfl
noncomputable abbrev NQ:=Env->Hs->Prop
noncomputable abbrev EQ:=Env->String->Hs->Prop
abbrev wFor(st:Hs->Prop)(W:Val->Env->Hs->NQ->NQ->Prop)(N:NQ):List Val->Env->Hs->Prop
 |[],env,h=>st h/\N env h
 |v::vs,env,h=>st h/\W v env h (λe g=>wFor st W N vs e g) N
abbrev wWhile(T:Env->Hs->(Bool->Hs->Prop)->Prop)(W:Env->Hs->NQ->NQ->Prop)(N:NQ):Nat->Env->Hs->Prop
 |0,_,_=>False
 |n+1,env,h=>T env h λk h1=>if k=fb then W env h1 (λe g=>wWhile T W N n e g) N else N env h1
mutual
@[reducible] noncomputable def xS(Φ:Fs):S->Env->Hs->NQ->Q1->NQ->NQ->EQ->Prop
 |.set p e,env,h,N,_,_,_,X=>wE Φ e env h (λv h1=>go (bind p h1 v env) λŘ=>N Ř h1)<|X env
 |.setIdx a i e,env,h,N,_,_,_,X=>wE Φ e env h (λv h1=>wE Φ a env h1 (λo h2=>wE Φ i env h2 (λk h3=>go (fU h3 o k v) λg=>N env g)<|X env)<|X env)<|X env
 |.setFld o f e,env,h,N,_,_,_,X=>wE Φ e env h (λv h1=>wE Φ o env h1 (λu h2=>go (fW h2 u f v) λg=>N env g)<|X env)<|X env
 |.augFld o f op n,env,h,N,_,_,_,X=>wE Φ o env h (λu h1=>go (fV h1 u f) λx=>go (augV op x<|.int n) λy=>go (fW h1 u f y) λg=>N env g)<|X env
 |.augIdx a i op n,env,h,N,_,_,_,X=>wE Φ a env h (λo h1=>wE Φ i env h1 (λk h2=>go (fS h2 o k) λx=>go (augV op x<|.int n) λy=>go (fU h2 o k y) λg=>N env g)<|X env)<|X env
 |.expr e,env,h,N,_,_,_,X=>wE Φ e env h (λ_ h1=>N env h1)<|X env
 |.ret e,env,h,_,R,_,_,X=>wE Φ e env h R<|X env
 |.retN,_,h,_,R,_,_,_=>R .non h
 |.ite c a b,env,h,N,R,B,C,X=>wT Φ c env h (λk h1=>if k=fb then xSs Φ a env h1 N R B C X else xSs Φ b env h1 N R B C X)<|X env
 |.whl c b,env,h,N,R,_,_,X=>∃n,wWhile (λe g K=>wT Φ c e g K<|X e) (λe g K M=>xSs Φ b e g K R M K X) N n env h
 |.for p it b,env,h,N,R,_,_,X=>wI Φ it env h (λst xs h1=>wFor st (λv e g K M=>go (bind p g v e) λe2=>xSs Φ b e2 g K R M K X) N xs env h1)<|X env
 | .forI k p e b,env,h,N,R,_,_,X=>wE Φ e env h (λv h1=>go (fO v) λa=>go (gw<|h1 a) λkvs =>
     wFor (λg=>g a=eY (.frz kvs)) (λv e g K M=>go (bind p g v e) λe2=>xSs Φ b e2 g K (λu g2=>g2 a=eY (.frz kvs)/\R u (upd g2 a<|.dct kvs)) M K λ_ _ _=>False)
       (λe g=>g a=eY (.frz kvs)/\N e (upd g a<|.dct kvs)) (kvs.map<|itemOf k) env (upd h1 a<|.frz kvs))<|X env
 |.never,_,_,_,_,_,_,_=>False
 |_,_,_,_,_,_,_,_=>False
@[reducible] noncomputable def xSs(Φ:Fs):Ss->Env->Hs->NQ->Q1->NQ->NQ->EQ->Prop
 |.nil,env,h,N,_,_,_,_=>N env h
 |.cons s ss,env,h,N,R,B,C,X=>xS Φ s env h (λe g=>xSs Φ ss e g N R B C X) R B C X
@[reducible] noncomputable def xH(Φ:Fs):Hn->String->Env->Hs->NQ->Q1->NQ->NQ->Prop
 |.nil,_,_,_,_,_,_,_=>False
 |.cons K eZ b r,c,env,h,N,R,B,C=>if gk c K=fb then xSs Φ b env h N R B C (λ_ _ _=>False)else xH Φ r c env h N R B C
 |.cons K (eY i) b r,c,env,h,N,R,B,C=>if gk c K=fb then(∀p,h p=eZ->xSs Φ b (env.set i<|eY<|.ref p) (upd h p<|.exc c) (λe g=>N (e.set i eZ) g) R (λe g=>B (e.set i eZ) g) (λe g=>C (e.set i eZ) g) λ_ _ _=>False)
  else xH Φ r c env h N R B C
end
@[reducible] noncomputable def wS:Fs->S->Env->Hs->NQ->Q1->NQ->NQ->EQ->Prop:=xS
@[reducible] noncomputable def wSs:Fs->Ss->Env->Hs->NQ->Q1->NQ->NQ->EQ->Prop:=xSs
structure Fn where
 ar:Nat
 sz:Nat
 body:Ss
noncomputable abbrev Pg:=String->Option Fn
class In(P:Pg)(f:String)(d:outParam Fn):Prop where
 eq:P f=eY d
abbrev Fn.env(d:Fn)(vs:List Val):Env:=vs.map eY++Ó (d.sz - d.ar) eZ
abbrev wF0(P:Pg):Nat->Fs
 |0=>λ_ _ _ _ _=>False
 |n+1=>λf vs h Q X=>go (P f) λd=>vs.length=d.ar/\wSs (wF0 P n) d.body (d.env vs) h (λ_ g=>Q .non g) Q (λ_ _=>False) (λ_ _=>False) λ_ c g=>X c g
@[irreducible] noncomputable def wF(P:Pg)(n:Nat):Fs:=wF0 P n
variable {P:Pg} {n:Nat}
def wF_eq:wF P n=wF0 P n:=by unfold wF;rfl
def Zb{f:String}{d:Fn}{vs:List Val}{X:XQ}(e:P f=eY d)(hl:vs.length=d.ar)
  (q:wSs (wF P n) d.body (d.env vs) h (λ_ g=>Q .non g) Q (λ_ _=>False) (λ_ _=>False) λ_ c g=>X c g):wF P (n+1) f vs h Q X:=by
 rw[wF_eq]at q ⊢;exact fi e ⟨hl,q⟩
section
variable {Φ:Fs}{env:Env}{h:Hs}{Q:Q1}{X:XQ}{a b c e o:E}{as:Es}{v u:Val}
def GL{i:Nat}(g:getV env i=eY v)(q:Q v h):wE Φ (.var i) env h Q X:=by rw[Qr];exact fi g q
def Ps{f:Bi}(q:wA Φ as env h (λvs h1=>(biV h1 f vs).wp h1 Q) X):wE Φ (.bi f as) env h Q X:=q
variable {es:Es}
def PU(q:new h (.dct []) λr h1=>go (fO r) λp=>wA Φ es env h1 (λvs h2=>go (pairUp vs) λkvs=>h2 p=eY (.dct [])/\Q (.ref p) (upd h2 p<|.dct<|putAll [] kvs)) X):wE Φ (.dct es) env h Q X:=by show NJ _ _ _ _;unfold NJ;exact q
variable {QA:List Val->Hs->Prop}{QO:Option Int->Hs->Prop}{QT:Bool->Hs->Prop}{QI:(Hs->Prop)->List Val->Hs->Prop}
def BS(q:QA [] h):wA Φ .nil env h QA X:=q
def DU(q:wE Φ e env h (λv h1=>wA Φ es env h1 (λvs h2=>QA (v::vs) h2) X) X):wA Φ (.cons e es) env h QA X:=q
def Hl(q:wE Φ e env h (λv h1=>go (Wn h1 v) λk=>QT k h1) X):wT Φ (.val e) env h QT X:=q
def Hw{t:Tt}(q:wT Φ t env h (λk h1=>QT (!k) h1) X):wT Φ (.not t) env h QT X:=q
def Rn{s t:Tt}(q:wT Φ s env h (λk h1=>if k=fb then QT fb h1 else wT Φ t env h1 QT X) X):wT Φ (.or s t) env h QT X:=q
end
section
variable {Φ:Fs}{env:Env}{h:Hs}{N B C:NQ}{R:Q1}{X:EQ}{a b c e o i:E}{as:Es}{v u:Val}{t:Tt}{s1 s2:Ss}{s:S}{p:Pt}{it:It}{hs:Hn}
def Qp(q:wT Φ t env h (λk h1=>if k=fb then wSs Φ s1 env h1 N R B C X else wSs Φ s2 env h1 N R B C X)<|X env):wS Φ (.ite t s1 s2) env h N R B C X:=q
def CY(q:N env h):wSs Φ .nil env h N R B C X:=q
def E1{ss:Ss}(q:wS Φ s env h (λe g=>wSs Φ ss e g N R B C X) R B C X):wSs Φ (.cons s ss) env h N R B C X:=q
end
section
variable {h:Hs}{Q:Q1}{i j k:Int}{a b:Ad}{xs ys:List Val}{v u:Val}{K:Val->Prop}{KB:Bool->Prop}
def wp_val{r:Rs}(e:r=.val v)(q:Q v h):r.wp h Q:=by rw[e,Rs.wp_val];exact q
def wp_new{r:Rs}{o:Ob}(e:r=.new o)(q:new h o Q):r.wp h Q:=by rw[e,Rs.wp_new];exact q
def b_add(q:Q (.int<|i+j) h):(binV h .add (.int i)<|.int j).wp h Q:=wp_val rfl q
def b_sub(q:Q (.int<|i - j) h):(binV h .sub (.int i)<|.int j).wp h Q:=wp_val rfl q
def b_mul(m:mulOk i j)(q:Q (.int<|i*j) h):(binV h .mul (.int i)<|.int j).wp h Q:=wp_val (gD m) q
def b_fdiv(m:0<j/\j<1073741824)(q:Q (.int<|i / j) h):(binV h .fdiv (.int i)<|.int j).wp h Q:=wp_val (gD m) q
def b_mod(m:0<j)(q:Q (.int<|i % j) h):(binV h .mod (.int i)<|.int j).wp h Q:=wp_val (gD m) q
def b_pow(m:0<=j/\j<=1000000/\i.natAbs<2 ^ 64)(q:Q (.int<|i ^ j.toNat) h):(binV h .pow (.int i)<|.int j).wp h Q:=wp_val (gD m) q
def LH{z:Int}(m:0<=j/\j<=1000000/\i.natAbs<2 ^ 64)(e:i ^ j.toNat=z)(q:Q (.int z) h):(binV h .pow (.int i)<|.int j).wp h Q:=b_pow m (by rw[e];exact q)
def LG(m:xs.length+ys.length<=lim)(q:Q (.tup<|xs++ys) h):(binV h .add (.tup xs)<|.tup ys).wp h Q:=wp_val (gD m) q
def BM(e1:h a=eY (.lst xs))(e2:h b=eY (.lst ys))(m:(xs++ys).length<=lim)(q:new h (.lst<|xs++ys) Q):(binV h .add (.ref a)<|.ref b).wp h Q:=by refine wp_new ?_ q;show(match h a,h b with|some (.lst xs),eY (.lst ys)=>Rs.lst (xs++ys)|_,_=>.no:Rs)=_;simp only[e1,e2,Rs.lst];rw[gD m]
def lsE(e1:h a=eY (.lst xs)):fv (h a)=eY xs:=by rw[e1];rfl
variable {kvs:List (Val×Val)}
def dcE(e1:h a=eY (.dct kvs)):gw (h a)=eY kvs:=by rw[e1];rfl
def g_int{K:Int->Prop}(q:K i):go (gx<|.int i) K:=fi rfl q
def g_bl{b:Bool}(q:KB b):go (gy<|.bl b) KB:=fi rfl q
def g_ref{K:Ad->Prop}(q:K a):go (fO<|.ref a) K:=fi rfl q
def g_tbl{b:Bool}(q:KB b):go (Wn h<|.bl b) KB:=fi rfl q
def RX(q:KB<|gK (i≠0)):go (Wn h<|.int i) KB:=fi rfl q
def Sj(e:h a=eY (.lst xs))(q:KB (!xs.isEmpty)):go (Wn h<|.ref a) KB:=fi (by unfold Wn;simp only[e]) q
def fj(e:atI xs i=eY v)(q:K v):go (fS h (.tup xs)<|.int i) K:=fi e q
def ZZ(e1:h a=eY (.lst xs))(e:atI xs i=eY v)(q:K v):go (fS h (.ref a)<|.int i) K:=fi (by unfold fS;simp only[e1];exact e) q
def ZN{k:Val}(e1:h a=eY (.dct kvs))(hk:fA k=fb)(e:fG kvs k=eY v)(q:K v):go (fS h (.ref a) k) K:=fi (by unfold fS;simp only[e1];rw[gD hk];exact e) q
variable {ns:List Int}
def Pf(e:atI (ns.map Val.int) i=eY v)(q:K v):go (fS h (.scr ns)<|.int i) K:=fi e q
def c_lt(q:KB<|gK (i<j)):go (fz h .lt (.int i)<|.int j) KB:=fi rfl q
def c_gt(q:KB<|gK (j<i)):go (fz h .gt (.int i)<|.int j) KB:=fi rfl q
def c_le(q:KB<|gK (i<=j)):go (fz h .le (.int i)<|.int j) KB:=fi rfl q
def c_ge(q:KB<|gK (j<=i)):go (fz h .ge (.int i)<|.int j) KB:=fi rfl q
def Uk:D.eqv (.int i) (.int j)=gK (i=j):=by rw[D.eqv];by_cases e:i=j<;>simp[e]
variable {s:String}
def GQ{t:String}:D.eqv (.str s) (.str t)=gK (s=t):=by rw[D.eqv];by_cases e:s=t<;>simp[e]
def c_eqI(q:KB<|gK (i=j)):go (fz h .eq (.int i)<|.int j) KB:=fi (by show eY (D.eqv (.int i)<|.int j)=_;rw[Uk]) q
def c_neI(q:KB (!gK (i=j))):go (fz h .ne (.int i)<|.int j) KB:=fi (by show eY (!D.eqv (.int i) (.int j))=_;rw[Uk]) q
def So{t:String}(q:KB<|gK (s=t)):go (fz h .eq (.str s)<|.str t) KB:=fi (by show eY (D.eqv (.str s)<|.str t)=_;rw[GQ]) q
def Sl{t:String}(q:KB (!gK (s=t))):go (fz h .ne (.str s)<|.str t) KB:=fi (by show eY (!D.eqv (.str s) (.str t))=_;rw[GQ]) q
variable {c:Bool}
def Sn{d:Bool}(q:KB<|c==d):go (fz h .eq (.bl c)<|.bl d) KB:=fi (by show eY (D.eqv (.bl c)<|.bl d)=_;rw[D.eqv]) q
def c_isN(q:KB<|gK (v=.non)):go (fz h .is v .non) KB:=fi (by unfold fz;rfl) q
def c_notN(q:KB (!gK (v=.non))):go (fz h .isnot v .non) KB:=fi (by unfold fz;rfl) q
def c_eqE(e1:h a=eY (.lst xs))(e2:h b=eY (.lst []))(q:KB xs.isEmpty):go (fz h .eqE (.ref a)<|.ref b) KB:=fi (by show(fv<|h a).bind _=_;rw[e1,Z9];show(fv<|h b).bind _=_;rw[e2,Z9];rfl) q
def c_neE(e1:h a=eY (.lst xs))(e2:h b=eY (.lst []))(q:KB (!xs.isEmpty)):go (fz h .neE (.ref a)<|.ref b) KB:=fi (by show(fv<|h a).bind _=_;rw[e1,Z9];show(fv<|h b).bind _=_;rw[e2,Z9];rfl) q
def H9{ms:List Int}(e1:fk xs=eY ns)(e2:fk ys=eY ms)(q:KB<|fQ ms ns):go (fz h .gt (.tup xs)<|.tup ys) KB:=fi (by show(fk ys).bind _=_;rw[e1,e2];rfl) q
variable {n:Nat} {Ņ:Env}
def LA{env:Env}{K:Env->Prop}(e:env.set n (eY v)=Ņ)(q:K Ņ):go (bind (.one n) h v env) K:=by subst e;exact fi rfl q
def L3{is:List Nat}{env:Env}{K:Env->Prop}(e:bindL is xs env=eY Ņ)(q:K Ņ):go (bind (.many is) h (.tup xs) env) K:=fi e q
def II{K:Hs->Prop}(e1:h a=eY (.lst xs))(e:ixN xs.length i=eY n)(q:K<|upd h a<|.lst<|xs.set n v):go (fU h (.ref a) (.int i) v) K:=fi (by unfold fU;simp only[e1,gx,è,e,œ]) q
def Yz{K:Hs->Prop}{k:Val}(e1:h a=eY (.dct kvs))(m:fA k=fb/\kvs.length<lim)(q:K<|upd h a<|.dct<|fI kvs k v):go (fU h (.ref a) k v) K:=fi (by unfold fU;simp only[e1];rw[gD m]) q
def W1(e1:h a=eY (.dct kvs))(hk:fA v=fb)(q:KB<|fH kvs v):go (fz h .isin v<|.ref a) KB:=fi (by show inV h v (.ref a)=_;unfold inV;simp only[e1];rw[gD hk]) q
def Xs(e1:h a=eY (.dct kvs))(hk:fA v=fb)(q:KB (!fH kvs v)):go (fz h .notin v<|.ref a) KB:=fi (by show(inV h v<|.ref a).map _=_;unfold inV;simp only[e1];rw[gD hk];rfl) q
variable {C:String} {f:String}
def Yl{fs:List (String×Val)}{K:Hs->Prop}(e1:h a=eY (.ins C fs))(m:fs.length<900)(q:K<|upd h a<|.ins C<|fy fs f v):go (fW h (.ref a) f v) K:=fi (by unfold fW;simp only[e1];rw[gD m]) q
def HF{fs:List (String×Val)}(e1:h a=eY (.ins C fs))(e:fs.lookup f=eY v)(q:K v):go (fV h (.ref a) f) K:=fi (by unfold fV fO;simp only[e1,insOf,è];exact e) q
variable {P:Prop}
def LB{m:String}{fs:List (String×Val)}(e1:h a=eY (.ins C fs))(e:fs.lookup m=eZ)(q:P):clsV h (.ref a) m=eY C/\P:=⟨by unfold clsV fO;simp only[e1,insOf,è,e,Option.isNone_none,if_true],q⟩
def ag_add(q:K<|.int<|i+j):go (augV .add (.int i)<|.int j) K:=fi rfl q
def ln_lst(e1:h a=eY (.lst xs))(q:Q (.int xs.length) h):(biV h .len [.ref a]).wp h Q:=wp_val (by show fX h (.ref a)=_;unfold fX;dsimp only;rw[e1]) q
def ln_scr(q:Q (.int ns.length) h):(biV h .len [.scr ns]).wp h Q:=wp_val rfl q
def ln_tup(q:Q (.int xs.length) h):(biV h .len [.tup xs]).wp h Q:=wp_val rfl q
def in_str(m:s.length<=640/\s.toList≠[]/\s.toList.all figB=fb)(q:Q (.int<|decN s.toList) h):(biV h .int [.str s]).wp h Q:=wp_val (gD m) q
def Os{bs:List Bool}(e1:h a=eY (.lst xs))(e2:blsOf xs=eY bs)(q:Q (.bl<|bs.all id) h):(biV h .all [.ref a]).wp h Q:=wp_val (by show Rs.ofO ((fv<|h a).bind _)=_;rw[lsE e1,è,e2];rfl) q
def Sm{K:String->Prop}(q:K s):go (Qf<|.str s) K:=fi rfl q
variable {m:Bm}
def Si(hm:m=.join)(q:P):bmTy h m (.str s)=fb/\P:=⟨by subst hm;rfl,q⟩
def NO(e1:h a=eY (.lst xs))(e2:pairsOf h xs=eY kvs)(q:new h (.dct<|putAll [] kvs) Q):(biV h .dict [.ref a]).wp h Q:=wp_new (by show OL h (.ref a)=_;unfold OL;simp only[e1,e2]) q
def Ro(q:Q (.int i) h):(biV h .int [.int i]).wp h Q:=wp_val rfl q
def in_bl(q:Q (.int<|if c then 1 else 0) h):(biV h .int [.bl c]).wp h Q:=wp_val rfl q
def mn2(q:Q (.int<|if j<i then j else i) h):(biV h .min2 [.int i,.int j]).wp h Q:=wp_val rfl q
def mx2(q:Q (.int<|if j > i then j else i) h):(biV h .max2 [.int i,.int j]).wp h Q:=wp_val rfl q
def tp_lst(e1:h a=eY (.lst xs))(q:Q (.tup xs) h):(biV h .tuple [.ref a]).wp h Q:=wp_val (by show Mn h (.ref a)=_;unfold Mn;dsimp only;rw[e1]) q
def Sh(q:Q (.tup xs) h):(biV h .tuple [.tup xs]).wp h Q:=wp_val rfl q
def P0{Ts:List String}(e:isiAny h v Ts=eY c)(q:Q (.bl c) h):(biV h (.isi Ts) [v]).wp h Q:=wp_val (by show Rs.ofO ((isiAny h v Ts).map .bl)=_;rw[e];rfl) q
def ls_lst(e1:h a=eY (.lst xs))(q:new h (.lst xs) Q):(biV h .list [.ref a]).wp h Q:=wp_new (by show toList h (.ref a)=_;unfold toList;dsimp only;rw[e1]) q
def RB(q:new h (.lst xs) Q):(biV h .list [.tup xs]).wp h Q:=wp_new rfl q
variable {lo:Option Int} {hi:Option Int}
def fZ(n:¬ (fP xs.length 0 lo=0/\fP xs.length xs.length hi=xs.length))(q:Q (.tup<|cut xs lo hi) h):(fT h (.tup xs) lo hi).wp h Q:=wp_val (by unfold fT;simp only;rw[gE n]) q
def IU(hm:m.ty=.l\/m.ty=.t)(e:h a=eY (.lst xs))(q:P):bmTy h m (.ref a)=fb/\P:=⟨by unfold bmTy;rcases hm with hm|hm<;>rw[hm]<;>simp[JP,e,isLst],q⟩
def LO(hm:m.ty=.d)(e:h a=eY (.dct kvs))(q:P):bmTy h m (.ref a)=fb/\P:=⟨by unfold bmTy;rw[hm];simp[JP,e,isDct],q⟩
abbrev Lz:Bi->Bool
 |.sorted=>fb
 |.sortedI=>fb
 |_=>fc
def Bn{f:Bi}(hf:Lz f=fb)(e:sortAny h v=eY ns)(m:ns.length<64)(q:new h (.lst<|(sortI ns).map Val.int) Q):(biV h f [v]).wp h Q:=by
 cases f with
 |sorted=>exact wp_new (by show Ju h v=_;unfold Ju;simp only[e];exact gD m) q
 |sortedI=>exact wp_new (by show biSortedI h v=_;unfold biSortedI;simp only[e];exact gD m) q
 |_=>cases hf
def LV{f:Bi}(e1:h a=eY (.lst<|ns.map Val.int))(e2:fk (ns.map Val.int)=eY ns)(m:ns.length<64)(q:new h (.lst<|(sortI ns).map Val.int) Q)(hf:Lz f=fb:=by rfl):(biV h f [.ref a]).wp h Q:=Bn hf (by unfold sortAny;simp only[e1,e2]) m q
def N8{f:Bi}(e1:h a=eY (.dct kvs))(e2:keysOf kvs=eY ns)(m:ns.length<64)(q:new h (.lst<|(sortI ns).map Val.int) Q)(hf:Lz f=fb:=by rfl):(biV h f [.ref a]).wp h Q:=Bn hf (by unfold sortAny;simp only[e1,e2]) m q
def IT(e1:h a=eY (.lst []))(q:Q .non h):(biV h .minD [.ref a]).wp h Q:=wp_val (by show fY h (.ref a)=_;unfold fY;simp only[e1,fv,è,rowsOf]) q
def EY{x:List Int}{r:List (List Int)}(e1:h a=eY (.lst xs))(e2:rowsOf xs=eY (x::r))(q:Q (.tup<|(minR x r).map Val.int) h):(biV h .minD [.ref a]).wp h Q:=wp_val (by show fY h (.ref a)=_;unfold fY;simp only[e1,fv,è,e2]) q
def sl_str(n:s.length<=lim)(q:Q (.str<|Η<|cut s.toList lo hi) h):(fT h (.str s) lo hi).wp h Q:=wp_val (by unfold fT;simp only;rw[gD n]) q
def sl_lst(e1:h a=eY (.lst xs))(q:new h (.lst<|cut xs lo hi) Q):(fT h (.ref a) lo hi).wp h Q:=wp_new (by unfold fT;simp only[e1,fv]) q
def sl_scr(q:new h (.lst<|cut (ns.map Val.int) lo hi) Q):(fT h (.scr ns) lo hi).wp h Q:=wp_new rfl q
def Ys{K:Val×Hs->Prop}(e1:h a=eY (.lst xs))(m:xs.length<lim)(q:K (.non,upd h a<|.lst<|xs++[v])):go (bmV h .append (.ref a) [v]) K:=fi (by show(fv<|h a).bind _=_;rw[lsE e1];exact gD m) q
def HK{K:Val×Hs->Prop}(e1:h a=eY (.dct kvs))(hk:fA v=fb)(q:K ((fG kvs v).getD .non,h)):go (bmV h .dget (.ref a) [v]) K:=fi (by show(gw<|h a).bind _=_;rw[dcE e1];exact gD hk) q
def it_lst{K:(Hs->Prop)×List Val->Prop}(e1:h a=eY (.lst xs))(q:K (λg=>fv (g a)=eY xs,xs)):go (itV h<|.ref a) K:=fi (by unfold itV;simp only[e1,fv,œ]) q
def it_scr{K:(Hs->Prop)×List Val->Prop}(q:K (λ_=>True,ns.map Val.int)):go (itV h<|.scr ns) K:=fi rfl q
def it_tup{K:(Hs->Prop)×List Val->Prop}(q:K (λ_=>True,xs)):go (itV h<|.tup xs) K:=fi rfl q
def Ru{K:List Val->Prop}(q:K xs):go (C4 h<|.tup xs) K:=fi rfl q
def RG{K:List Val->Prop}(e1:h a=eY (.lst xs))(q:K xs):go (C4 h<|.ref a) K:=fi (by unfold C4;simp only[e1,fv]) q
variable {A:Prop} {B:Prop}
def f6(e:c=fb)(q:A):if c=fb then A else B:=by rw[gD e];exact q
def f7(e:c=fc)(q:B):if c=fb then A else B:=by rw[gE<|by rw[e];decide];exact q
def f9(q:c=fb->A)(r:c=fc->B):if c=fb then A else B:=by cases c;exact r rfl;exact q rfl
variable {p:Prop}
def f8[Decidable p](q:p->A)(r:¬p->B):if decide p=fb then A else B:=by
 by_cases e:p
 .rw[gD<|gG e];exact q e
 .rw[gE<|by simpa using e];exact r e
def OE[Decidable p](q:¬p->A)(r:p->B):if(!decide p)=fb then A else B:=by
 by_cases e:p
 .rw[gE<|by simpa using e];exact r e
 .rw[gD<|by simpa using e];exact q e
end
structure Ext(h g:Hs):Prop where
 get:∀{a:Ad}{o:Ob},h a=eY o->g a=eY o
variable {h:Hs}
def Ext.refl:Ext h h:=⟨λe=>e⟩
variable {g:Hs}
def Ext.trans{k:Hs}(e:Ext h g)(f:Ext g k):Ext h k:=⟨λx=>f.get<|e.get x⟩
variable {p:Ad} {o:Ob}
def Ext.new(e:h p=eZ):Ext h<|upd h p o:=⟨λ{a u} x=>by
  rw[fe<|by intro z;rw[z,e]at x;cases x];exact x⟩
structure ExtB(w:Ad)(h g:Hs):Prop where
 get:∀{a:Ad}{o:Ob},a≠w->h a=eY o->g a=eY o
variable {w:Ad}
def ExtB.refl:ExtB w h h:=⟨λ_ e=>e⟩
def ExtB.trans{k:Hs}(e:ExtB w h g)(f:ExtB w g k):ExtB w h k:=⟨λn x=>f.get n<|e.get n x⟩
def ExtB.upd:ExtB w h<|upd h w o:=⟨λn x=>by rw[fe n];exact x⟩
def ExtB.of(e:Ext h g):ExtB w h g:=⟨λ_ x=>e.get x⟩
variable {a:Ad}
def Za(x:h a=eY o)(n:h p=eZ):a≠p:=by intro z;rw[z,n]at x;cases x
def ne_none'(n:h p=eZ)(x:h a=eY o):a≠p:=Za x n
def upd_ne'{b:Ad}{r:Option Ob}(n:b≠a)(e:h b=r):upd h a o b=r:=by rw[fe n];exact e
inductive Sm2 {α β:Type}(p:α->β->Prop):Prop|mk (a:α) (b:β) (h:p a b)
inductive Sm3 {α β γ:Type}(p:α->β->γ->Prop):Prop|mk (a:α) (b:β) (c:γ) (h:p a b c)
inductive Sm4 {α β γ δ:Type}(p:α->β->γ->δ->Prop):Prop|mk (a:α) (b:β) (c:γ) (d:δ) (h:p a b c d)
inductive Sm5 {α β γ δ ε:Type}(p:α->β->γ->δ->ε->Prop):Prop|mk (a:α) (b:β) (c:γ) (d:δ) (e:ε) (h:p a b c d e)
inductive Cj3 (a b c:Prop):Prop|mk (h1:a) (h2:b) (h3:c)
inductive Cj4 (a b c d:Prop):Prop|mk (h1:a) (h2:b) (h3:c) (h4:d)
inductive Cj5 (a b c d e:Prop):Prop|mk (h1:a) (h2:b) (h3:c) (h4:d) (h5:e)
inductive Cj7 (a b c d e f g:Prop):Prop|mk (h1:a) (h2:b) (h3:c) (h4:d) (h5:e) (h6:f) (h7:g)
inductive Cj9 (a b c d e f g h i:Prop):Prop|mk (h1:a) (h2:b) (h3:c) (h4:d) (h5:e) (h6:f) (h7:g) (h8:h) (h9:i)
variable {st:Hs->Prop} {N:NQ} {xs:List Val}
def Zr{W:Val->Env->Hs->NQ->NQ->Prop}(I:Nat->Env->Hs->Prop){env:Env}(h0:I 0 env h)(ι:∀i e g,i<=xs.length->I i e g->st g)
  (step:∀i v e g,xs[i]?=eY v->I i e g->∀K:NQ,(∀e' g',I (i+1) e' g'->K e' g')->W v e g K N) (fin:∀e g,I xs.length e g->N e g):wFor st W N xs env h:=by
 have key:∀(ys:List Val) (i:Nat) e g,xs.drop i=ys->i<=xs.length->I i e g->wFor st W N ys e g:=by
  intro ys;induction ys with
  |nil =>
   intro i e g hd hi hI;have:i=xs.length:=by have:=congrArg List.length hd;simp at this;lia
   subst this;exact⟨ι _ e g (Ì _) hI,fin e g hI⟩
  |cons v vs ih =>
   intro i e g hd hi hI;have Χ:i<xs.length:=by have:=congrArg List.length hd;simp at this;lia
   have hv:xs[i]?=eY v:=by have:=congrArg (λl=>l[0]?) hd;simpa using this
   refine⟨ι i e g hi hI,step i v e g hv hI _ λe' g' hI'=>ih (i+1) e' g' ?_ (by lia) hI'⟩;have:=congrArg List.tail hd;simpa using this
 exact key xs 0 env h (by simp) (by lia) h0
def U6{T:Env->Hs->(Bool->Hs->Prop)->Prop}{W:Env->Hs->NQ->NQ->Prop}(I:Nat->Env->Hs->Prop){env:Env}{m:Nat}(h0:I m env h)
  (step:∀m e g,I m e g->∀K:NQ,(∀m' e' g',m'<m->I m' e' g'->K e' g')->T e g λk h1=>if k=fb then W e h1 K N else N e h1):∃n,wWhile T W N n env h:=by
 refine⟨m+1,?_⟩;have key:∀(n m:Nat) e g,m<n->I m e g->wWhile T W N n e g:=by
  intro n;induction n with
  |zero=>intro m e g hm;lia
  |succ n ih=>intro m e g hm hI;exact step m e g hI _ λm' e' g' hm' hI'=>ih m' e' g' (by lia) hI'
 exact key (m+1) m env h (by lia) h0
variable {Q:List Val->Hs->Prop} {X:XQ}
def Z6{step:Val->Hs->(Option Val->Hs->Prop)->XQ->Prop}(I:Nat->List Val->Hs->Prop)(h0:I 0 [] h)(ι:∀i ys g,i<=xs.length->I i ys g->st g)
  (go:∀i v ys g,xs[i]?=eY v->I i ys g->∀K,(∀r g',I (i+1) (ys++r.toList) g'->K r g')->step v g K X) (fin:∀ys g,I xs.length ys g->Q ys g):wComp st step xs [] h Q X:=by
 have key:∀(zs:List Val) (i:Nat) ys g,xs.drop i=zs->i<=xs.length->I i ys g->wComp st step zs ys g Q X:=by
  intro zs;induction zs with
  |nil =>
   intro i ys g hd hi hI;have:i=xs.length:=by have:=congrArg List.length hd;simp at this;lia
   subst this;exact⟨ι _ ys g (Ì _) hI,fin ys g hI⟩
  |cons v vs ih =>
   intro i ys g hd hi hI;have Χ:i<xs.length:=by have:=congrArg List.length hd;simp at this;lia
   have hv:xs[i]?=eY v:=by have:=congrArg (λl=>l[0]?) hd;simpa using this
   refine⟨ι i ys g hi hI,go i v ys g hv hI _ λr g' hI'=>ih (i+1) _ g' ?_ (by lia) hI'⟩;have:=congrArg List.tail hd;simpa using this
 exact key xs 0 [] h (by simp) (by lia) h0
def Yr{step:Val->Hs->(Option Val->Hs->Prop)->XQ->Prop}(f:Val->Option Val)(ι:st h)
  (go:∀v∈xs,∀K,K (f v) h->step v h K X) (fin:Q (xs.filterMap f) h):wComp st step xs [] h Q X:=by
 have key:∀(zs ys:List Val),(∀v∈zs,v∈xs)->Q (ys++zs.filterMap f) h->wComp st step zs ys h Q X:=by
  intro zs;induction zs with
  |nil=>intro ys _ q;exact⟨ι,by simpa using q⟩
  |cons v vs ih =>
   intro ys hm q;refine⟨ι,go v (hm v<|by simp) _<|ih _ (λw hw=>hm w<|by simp[hw]) ?_⟩;cases e:f v with
   |none=>simpa[ė,e]using q
   |some u=>simpa[ė,e]using q
 exact key xs [] (λ_ h=>h) (by simpa using fin)
section
variable {Φ:Fs}{env:Env}{h:Hs}{Q:Q1}{X:XQ}{a b c e o:E}{as:Es}{v u:Val}
def q_e_bi{f:Bi}:(wE Φ (.bi f as) env h Q X)=(wA Φ as env h (λvs h1=>(biV h1 f vs).wp h1 Q) X):=rfl
variable {es:Es}
def q_e_dct:(wE Φ (.dct es) env h Q X)=(new h (.dct []) λr h1=>go (fO r) λp=>wA Φ es env h1 (λvs h2=>go (pairUp vs) λkvs=>h2 p=eY (.dct [])/\Q (.ref p) (upd h2 p<|.dct<|putAll [] kvs)) X):=by show NJ _ _ _ _=_;unfold NJ;rfl
variable {QA:List Val->Hs->Prop}{QO:Option Int->Hs->Prop}{QT:Bool->Hs->Prop}{QI:(Hs->Prop)->List Val->Hs->Prop}
def q_a_nil:(wA Φ .nil env h QA X)=(QA [] h):=rfl
def q_a_cons:(wA Φ (.cons e es) env h QA X)=(wE Φ e env h (λv h1=>wA Φ es env h1 (λvs h2=>QA (v::vs) h2) X) X):=rfl
end
mutual
theorem D.eqv_refl:∀d:D,D.eqv d d=fb
 |.non=>by simp[D.eqv]
 |.bl _=>by simp[D.eqv]
 |.int _=>by simp[D.eqv]
 |.str _=>by simp[D.eqv]
 |.tup ds=>by simp only[D.eqv];exact D.eqvs_refl ds
 |.lst ds=>by simp only[D.eqv];exact D.eqvs_refl ds
theorem D.eqvs_refl:∀ds:List D,D.eqvs ds ds=fb
 |[]=>by simp[D.eqvs]
 |d::ds=>by simp only[D.eqvs,D.eqv_refl d,D.eqvs_refl ds,Bool.and_self]
end
def UL{α:Type}{o:Option α}{k k':α->Prop}(h:go o k)(f:∀a,k a->k' a):go o k':=by
 cases o with
 |none=>rw[E3]at h;exact h.elim
 |some a=>rw[fh]at h ⊢;exact f a h
section
variable {Φ:Fs}{env:Env}{h:Hs}{Q:Q1}{X:XQ}{a:Ad}{v:Val}{kvs:List (Val×Val)}
def Im(q:∀p,h p=eZ->Q (.ref p) (upd h p<|.dct [])):wE Φ (.dct .nil) env h Q X:=by refine PU<|Xf λp hp=>g_ref<|BS<|fi rfl ⟨ff,?_⟩;rw[fg];exact q p hp
def dw0(q:∀p,h p=eZ->Q (.ref p) (upd h p<|.dct [])):NJ (xA Φ .nil env) h Q X:=Im q
def dw{F:Hs->(List Val->Hs->Prop)->XQ->Prop}(q:new h (.dct []) λr h1=>go (fO r) λp=>F h1 (λvs h2=>go (pairUp vs) λkvs=>h2 p=eY (.dct [])/\Q (.ref p) (upd h2 p<|.dct<|putAll [] kvs)) X):NJ F h Q X:=by unfold NJ;exact q
def Pz{i:Nat}{K:Val->Prop}(g:getV env i=eY v)(q:K v):go (getV env i) K:=fi g q
def dc_of{K:List (Val×Val)->Prop}(e1:h a=eY (.dct kvs))(q:K kvs):go (gw<|h a) K:=fi (dcE e1) q
variable {u:Val}
def DL{K:Val×Hs->Prop}(e1:h a=eY (.dct kvs))(hk:fA v=fb)(e2:fG kvs v=eY u)(q:K (u,upd h a<|.dct<|fJ kvs v)):go (bmV h .dpop (.ref a) [v]) K:=fi (by show(gw<|h a).bind _=_;rw[dcE e1];show(if fA v then _ else _)=_;rw[gD hk,e2];rfl) q
def Ud{K:Val×Hs->Prop}(e1:h a=eY (.dct kvs))(hk:fA v=fb)(q:K ((fG kvs v).getD u,upd h a<|.dct<|fJ kvs v)):go (bmV h .dpopD (.ref a) [v,u]) K:=fi (by show(gw<|h a).bind _=_;rw[dcE e1];exact gD hk) q
end
end O
namespace Snd
open PySem L2
abbrev KT(K:Frag)(a:È)(xs:List V):Prop :=
 ∃(o:Obj) (ð:Array Â) (n:Nat),K.lookup a=eY o/\o.cls=.type "tuple"/\o.data=.seq ð n/\ð.size<=Õ/\gq xs ð.toList
abbrev KL(K:Frag)(a:È)(xs:List V):Prop :=
 ∃(o:Obj) (ð:Array Â) (n:Nat),K.lookup a=eY o/\o.cls=.type "list"/\o.dict=eZ/\o.data=.seq ð n/\ð.size<=Õ/\gq xs ð.toList
mutual
inductive RV (K:Frag) (H:Hp):O.Val->V->Prop
 |non:RV K H .non .non
 |bl (b:Bool):RV K H (.bl b)<|.bl b
 |int (i:Int):RV K H (.int i)<|.int i
 |str (s:String):RV K H (.str s)<|.str<|gL s
 |tup {xs:List O.Val}{a:È}{vs:List V}:(H a=eY (.tup vs)\/KT K a vs)->RVs K H xs vs->RV K H (.tup xs) (.ref a)
 |ref (a:È):RV K H (.ref a)<|.ref a
 |scr {ns:List Int}{a:È}:((∃o,H a=eY (.frz o<|.lst<|ns.map V.int))\/KL K a (ns.map V.int))->RV K H (.scr ns) (.ref a)
 |key {i j:Int}{a:È}:H a=eY (.tup [.int i,.int j])->RV K H (.key i j) (.ref a)
inductive RVs (K:Frag) (H:Hp):List O.Val->List V->Prop
 |nil:RVs K H [] []
 |cons {v:O.Val}{x:V}{vs:List O.Val}{xs:List V}:RV K H v x->RVs K H vs xs->RVs K H (v::vs) (x::xs)
end
structure fE(H H':Hp):Prop where
 t:∀a xs,H a=eY (.tup xs)->H' a=eY (.tup xs)
 f:∀a o u,H a=eY (.frz o u)->H' a=eY (.frz o u)
def fE.refl(H:Hp):fE H H:=⟨λ_ _ e=>e,λ_ _ _ e=>e⟩
variable {H:Hp}
def fE.trans{H1 H2:Hp}(a:fE H H1)(b:fE H1 H2):fE H H2:=⟨λc xs e=>b.t c xs<|a.t c xs e,λc o u e=>b.f c o u<|a.f c o u e⟩
variable {a:È} {o:HO}
def fE.put(h:∀xs,H a≠eY (.tup xs))(h2:∀p u,H a≠eY (.frz p u)):fE H<|upd H a o:=⟨λb xs e=>by
  rw[fe<|by rintro rfl;exact h xs e];exact e,λb p u e=>by rw[fe<|by rintro rfl;exact h2 p u e];exact e⟩
def fE.new(h:H a=eZ):fE H<|upd H a o:=fE.put (λxs e=>by rw[h]at e;cases e) λp u e=>by rw[h]at e;cases e
variable {K:Frag}{H H':Hp}
mutual
theorem RV.keep(k:fE H H'):∀{v:O.Val}{x:V},RV K H v x->RV K H' v x
 |_,_,.non=>.non
 |_,_,.bl b=>.bl b
 |_,_,.int i=>.int i
 |_,_,.str s=>.str s
 |_,_,.tup (.inl e) r=>.tup (.inl<|k.t _ _ e)<|RVs.keep k r
 |_,_,.tup (.inr e) r=>.tup (.inr e)<|RVs.keep k r
 |_,_,.ref a=>.ref a
 |_,_,.scr (.inl ⟨o,e⟩)=>.scr<|.inl ⟨o,k.f _ _ _ e⟩
 |_,_,.scr (.inr e)=>.scr<|.inr e
 |_,_,.key e=>.key<|k.t _ _ e
theorem RVs.keep(k:fE H H'):∀{vs:List O.Val}{xs:List V},RVs K H vs xs->RVs K H' vs xs
 |_,_,.nil=>.nil
 |_,_,.cons r t=>.cons (RV.keep k r)<|RVs.keep k t
end
def RVs.length:∀{vs:List O.Val}{xs:List V},RVs K H vs xs->vs.length=xs.length
 |_,_,.nil=>rfl
 |_,_,.cons _ t=>by rw[Ë,Ë,RVs.length t]
def RVs.get:∀{vs:List O.Val}{xs:List V}{i:Nat}{v:O.Val},RVs K H vs xs->vs[i]?=eY v->∃x,xs[i]?=eY x/\RV K H v x
 |_,_,_,_,.nil,e=>by simp at e
 |_,_,0,_,.cons r _,e=>by simp at e;subst e;exact⟨_,rfl,r⟩
 |_,_,i+1,v,.cons _ t,e=>by obtain⟨x,h1,h2⟩:=RVs.get (i:=i) (v:=v) t (by simpa using e);exact⟨x,by simpa using h1,h2⟩
def RVs.append:∀{vs us:List O.Val}{xs ys:List V},RVs K H vs xs->RVs K H us ys->RVs K H (vs++us) (xs++ys)
 |_,_,_,_,.nil,h=>h
 |_,_,_,_,.cons r t,h=>.cons r<|RVs.append t h
def RVs.set{v:O.Val}{x:V}(r:RV K H v x):∀{vs:List O.Val}{xs:List V}(i:Nat),RVs K H vs xs->RVs K H (vs.set i v) (xs.set i x)
 |_,_,_,.nil=>.nil
 |_,_,0,.cons _ t=>.cons r t
 |_,_,i+1,.cons q t=>.cons q<|RVs.set r i t
def RVs.take:∀{vs:List O.Val}{xs:List V}(n:Nat),RVs K H vs xs->RVs K H (vs.take n) (xs.take n)
 |_,_,0,_=>.nil
 |_,_,_+1,.nil=>.nil
 |_,_,n+1,.cons r t=>.cons r<|RVs.take n t
def RVs.drop:∀{vs:List O.Val}{xs:List V}(n:Nat),RVs K H vs xs->RVs K H (vs.drop n) (xs.drop n)
 |_,_,0,r=>r
 |_,_,_+1,.nil=>.nil
 |_,_,n+1,.cons _ t=>RVs.drop n t
variable {vs:List O.Val} {xs:List V}
def RVs.reverse(r:RVs K H vs xs):RVs K H vs.reverse xs.reverse:=by
 induction r using RVs.rec (motive_1:=λ_ _ _=>True)with
 |nil=>exact .nil
 |cons r t _ ih=>rw[Κ,Κ];exact ih.append<|.cons r .nil
 |_=>trivial
def RVs.eraseIdx:∀{vs:List O.Val}{xs:List V}(i:Nat),RVs K H vs xs->RVs K H (vs.eraseIdx i) (xs.eraseIdx i)
 |_,_,_,.nil=>.nil
 |_,_,0,.cons _ t=>t
 |_,_,i+1,.cons q t=>.cons q<|RVs.eraseIdx i t
def RVs.dropLast(r:RVs K H vs xs):RVs K H vs.dropLast xs.dropLast:=by rw[cI,cI,r.length];exact r.take _
def Zi{vs:List V}(h:H a=eY (.tup vs)\/KT K a vs):gp K H a vs:=by
 rcases h with h|h
 .exact gp.of h
 .exact .inr h
structure Inf where
 K:Frag
 cl:String->È->Prop
 ins:String->Bool
 xc:String->È->Prop
abbrev WD:O.Val->Key->Prop
 |.int i,.inl j=>i=j
 |.str s,.inr t=>t=gL s
 |_,_=>False
inductive RKs (K:Frag) (H:Hp):List (O.Val×O.Val)->List (Key×V)->Prop
 |nil:RKs K H [] []
 |cons {k v:O.Val}{c:Key}{x:V}{kvs:List (O.Val×O.Val)}{ps:List (Key×V)}:WD k c->RV K H v x->RKs K H kvs ps->RKs K H ((k,v)::kvs) ((c,x)::ps)
inductive RFs (K:Frag) (H:Hp):List (String×O.Val)->List (Str×V)->Prop
 |nil:RFs K H [] []
 |cons {f:String}{v:O.Val}{x:V}{fs:List (String×O.Val)}{ps:List (Str×V)}:RV K H v x->RFs K H fs ps->RFs K H ((f,v)::fs) ((gL f,x)::ps)
def RKs.keep(k:fE H H'):∀{kvs:List (O.Val×O.Val)}{ps:List (Key×V)},RKs K H kvs ps->RKs K H' kvs ps
 |_,_,.nil=>.nil
 |_,_,.cons a r t=>.cons a (r.keep k)<|RKs.keep k t
inductive RTs (K:Frag) (H:Hp):List (O.Val×O.Val)->List (List Key×V)->Prop
 |nil:RTs K H [] []
 |cons {i j:Int}{v:O.Val}{x:V}{kvs:List (O.Val×O.Val)}{ps:List (List Key×V)}:RV K H v x->RTs K H kvs ps->RTs K H ((.key i j,v)::kvs) (([.inl i,.inl j],x)::ps)
def RTs.keep(k:fE H H'):∀{kvs:List (O.Val×O.Val)}{ps:List (List Key×V)},RTs K H kvs ps->RTs K H' kvs ps
 |_,_,.nil=>.nil
 |_,_,.cons r t=>.cons (r.keep k)<|RTs.keep k t
def RFs.keep(k:fE H H'):∀{fs:List (String×O.Val)}{ps:List (Str×V)},RFs K H fs ps->RFs K H' fs ps
 |_,_,.nil=>.nil
 |_,_,.cons r t=>.cons (r.keep k)<|RFs.keep k t
abbrev RO(i:Inf)(H:Hp)(a:È):O.Ob->Prop
 |.lst xs=>∃vs,H a=eY (.lst vs)/\RVs i.K H xs vs
 |.dct kvs=>∃ps,H a=eY (.dK ps)/\RKs i.K H kvs ps
 |.ins C fs=>∃c dx ps,i.ins C=fb/\i.cl C c/\H a=eY (.ins c dx ps)/\RFs i.K H fs ps
 |.exc C=>∃c,i.xc C c/\H a=eY (xcO a<|.ref c)
 |.frz kvs=>∃o ps,H a=eY (.frz o<|.dK ps)/\RKs i.K H kvs ps
 |.dtp kvs=>∃ps,H a=eY (.dT ps)/\RTs i.K H kvs ps
variable {i:Inf}
def RO.there{o:O.Ob}(r:RO i H a o):∃u,H a=eY u:=by
 cases o with
 |lst xs=>obtain⟨_,e,_⟩:=r;exact⟨_,e⟩
 |dct kvs=>obtain⟨_,e,_⟩:=r;exact⟨_,e⟩
 |ins C fs=>obtain⟨_,_,_,_,_,e,_⟩:=r;exact⟨_,e⟩
 |exc C=>obtain⟨_,_,e⟩:=r;exact⟨_,e⟩
 |frz kvs=>obtain⟨_,_,e,_⟩:=r;exact⟨_,e⟩
 |dtp kvs=>obtain⟨_,e,_⟩:=r;exact⟨_,e⟩
def RO.move{o:O.Ob}(r:RO i H a o)(k:fE H H')(e:H' a=H a):RO i H' a o:=by
 cases o with
 |lst xs=>obtain⟨vs,q,r⟩:=r;exact⟨vs,e.trans q,r.keep k⟩
 |dct kvs=>obtain⟨ps,q,r⟩:=r;exact⟨ps,e.trans q,r.keep k⟩
 |ins C fs=>obtain⟨c,dx,ps,h0,h,q,r⟩:=r;exact⟨c,dx,ps,h0,h,e.trans q,r.keep k⟩
 |exc C=>obtain⟨c,h,q⟩:=r;exact⟨c,h,e.trans q⟩
 |frz kvs=>obtain⟨o,ps,q,r⟩:=r;exact⟨o,ps,e.trans q,r.keep k⟩
 |dtp kvs=>obtain⟨ps,q,r⟩:=r;exact⟨ps,e.trans q,r.keep k⟩
abbrev RH(i:Inf)(G:O.Hs)(H:Hp):Prop:=∀a o,G a=eY o->RO i H a o
variable {G:O.Hs}
def RH.free(r:RH i G H)(e:H a=eZ):G a=eZ:=by
 cases q:G a with
 |none=>rfl
 |some o=>obtain⟨u,z⟩:=(r a o q).there;rw[e]at z;cases z
def RH.put{o:O.Ob}{u:HO}(r:RH i G H)(k:fE H<|upd H a u)(n:RO i (upd H a u) a o):RH i (O.upd G a o)<|upd H a u:=λb p e=>by
 by_cases hb:b=a
 .subst hb;rw[O.ff]at e;cases e;exact n
 .rw[O.fe hb]at e;exact(r b p e).move k<|fe hb
def RH.hid(r:RH i G H)(k:fE H H')(e:∀a o,G a=eY o->H' a=H a):RH i G H':=λb p q=>(r b p q).move k (e b p q)
structure REn(K:Frag)(H:Hp)(env:O.Env)(σ:St):Prop where
 len:env.length=σ.length
 get:∀(i:Nat) (v:O.Val),env[i]?=eY (eY v)->∃x,σ[i]?=eY (eY x)/\RV K H v x
variable {σ:St}
def REn.keep{env:O.Env}(r:REn K H env σ)(k:fE H H'):REn K H' env σ:=⟨r.len,λi v e=>by
  obtain⟨x,h1,h2⟩:=r.get i v e
  exact⟨x,h1,h2.keep k⟩⟩
def REn.set{env:O.Env}{v:O.Val}{x:V}(r:REn K H env σ)(q:RV K H v x)(j:Nat):REn K H (env.set j<|eY v)<|σ.set j<|eY x:=⟨by simp[r.len],λi u e=>by
  by_cases hij:j=i
  . subst hij
    rw[List.getElem?_set_self']at e
    cases z:env[j]? with
    |none=>rw[z]at e;cases e
    |some w =>
      rw[z]at e
      cases e
      have hj:j<σ.length:=by rw[<-r.len];exact(Ò.mp z).1
      exact⟨x,Ω hj,q⟩
  . rw[μ hij]at e
    obtain⟨y,h1,h2⟩:=r.get i u e
    exact⟨y,by rw[μ hij];exact h1,h2⟩⟩
def REn.start{n:Nat}(r:RVs K H vs xs):REn K H (vs.map eY++Ó n eZ)<|xs.map eY++Ó n eZ:=⟨by simp[r.length],λi v e=>by
  by_cases hi:i<vs.length
  . rw[Ċ (by simpa using hi),Ú]at e
    cases z:vs[i]? with
    |none=>rw[z]at e;cases e
    |some w =>
      rw[z]at e
      cases e
      obtain⟨x,h1,h2⟩:=r.get z
      exact⟨x,by rw[Ċ (by rw[Ã,<-r.length];exact hi),Ú,h1];rfl,h2⟩
  . rw[đ (by simpa using hi),ō]at e
    split at e<;>cases e⟩
def RVs.ints{K:Frag}{H:Hp}:∀ns:List Int,RVs K H (ns.map O.Val.int) (ns.map V.int)
 |[]=>.nil
 |n::ns=>.cons (.int n)<|RVs.ints ns
def Z8{ns:List Int}(h:(∃o,H a=eY (.frz o<|.lst<|ns.map V.int))\/KL K a (ns.map V.int)):gm K H a<|ns.map V.int:=by
 rcases h with⟨o,h⟩|h
 .exact .inl<|.inr ⟨o,h⟩
 .exact .inr h
variable {i:Inf}{X:Cx}{Φ:O.Fs}
abbrev XK1(i:Inf)(H:Hp)(Em:O.XQ):XK:=λcls _ H'=>∃c G' ad,cls=.ref ad/\i.xc c ad/\fE H H'/\RH i G' H'/\Em c G'
abbrev XOk(X:Cx)(i:Inf)(H:Hp)(Em:O.XQ):Prop:=XW X<|XK1 i H Em
variable {H:Hp} {H1:Hp} {Em:O.XQ}
def XK1.go{H':Hp}{cls:Â}{d:Option È}(k:fE H H1)(h:XK1 i H1 Em cls d H'):XK1 i H Em cls d H':=by obtain⟨c,G',ad,e,q,k',r,m⟩:=h;exact⟨c,G',ad,e,q,k.trans k',r,m⟩
def XOk.go(x:XOk X i H Em)(k:fE H H1):XOk X i H1 Em:=λÁ σ H0 s H' a cls s' I f e=>x Á σ H0 s H' a cls s' I f (e.go k)
structure Pre(X:Cx)(i:Inf)(σ:St)(H:Hp)(env:O.Env)(G:O.Hs)(Em:O.XQ):Prop where
 en:REn i.K H env σ
 hp:RH i G H
 xo:XOk X i H Em
variable {σ:St} {G:O.Hs}
def Pre.go{env:O.Env}{G1:O.Hs}(p:Pre X i σ H env G Em)(k:fE H H1)(r:RH i G1 H1):Pre X i σ H1 env G1 Em:=⟨p.en.keep k,r,p.xo.go k⟩
abbrev Cn(i:Inf)(H:Hp)(Q:VK)(Qm:O.Q1):Prop:=∀v G' H' x,fE H H'->RH i G' H'->RV i.K H' v x->Qm v G'->Q x H'
variable {Q:VK} {Qm:O.Q1}
def Cn.go(c:Cn i H Q Qm)(k:fE H H1):Cn i H1 Q Qm:=λv G' H' x k'=>c v G' H' x (k.trans k')
inductive tEx (X:Cx) (i:Inf) (Φ:O.Fs) (m:O.E) (σ:St) (H:Hp) (Q:VK):Prop
 |mk (env:O.Env) (G:O.Hs) (Qm:O.Q1) (Em:O.XQ) (p:Pre X i σ H env G Em) (w:O.wE Φ m env G Qm Em) (c:Cn i H Q Qm)
abbrev tE(X:Cx)(i:Inf)(Φ:O.Fs)(m:O.E):TE:=tEx X i Φ m
inductive tArx (X:Cx) (i:Inf) (Φ:O.Fs) (ms:O.Es) (n:Nat) (σ:St) (H:Hp) (Q:List V->Hp->Prop):Prop
 |mk (env:O.Env) (G:O.Hs) (Qm:List O.Val->O.Hs->Prop) (Em:O.XQ) (p:Pre X i σ H env G Em) (w:O.wA Φ ms env G Qm Em) (c:∀vs G' H' xs,fE H H'->RH i G' H'->RVs i.K H' vs xs->xs.length=n->Qm vs G'->Q xs H')
abbrev tAr(X:Cx)(i:Inf)(Φ:O.Fs)(ms:O.Es)(n:Nat):TA:=tArx X i Φ ms n
inductive tTtx (X:Cx) (i:Inf) (Φ:O.Fs) (m:O.Tt) (σ:St) (H:Hp) (Q:Bool->Hp->Prop):Prop
 |mk (env:O.Env) (G:O.Hs) (Qm:Bool->O.Hs->Prop) (Em:O.XQ) (p:Pre X i σ H env G Em) (w:O.wT Φ m env G Qm Em) (c:∀b G' H',fE H H'->RH i G' H'->Qm b G'->Q b H')
abbrev tTt(X:Cx)(i:Inf)(Φ:O.Fs)(m:O.Tt):TT:=tTtx X i Φ m
variable {e:Expr}
def _root_.L2.PE.imp{t t':TE}(h:PE X e t)(f:∀σ H Q,t' σ H Q->t σ H Q):PE X e t':=λÁ s σ H Q I q=>h Á s σ H Q I (f σ H Q q)
variable {t':TT}
def _root_.L2.PT.imp{t:TT}(h:PT X e t)(f:∀σ H Q,t' σ H Q->t σ H Q):PT X e t':=λÁ s σ H Q I q=>h Á s σ H Q I (f σ H Q q)
def _root_.L2.PW.imp{t:TT}(h:PW X e t)(f:∀σ H Q,t' σ H Q->t σ H Q):PW X e t':=λwh Á s σ H Q I q=>h wh Á s σ H Q I (f σ H Q q)
variable {es:List Expr}
def _root_.L2.PA.imp{t t':TA}(h:PA X es t)(f:∀σ H Q,t' σ H Q->t σ H Q):PA X es t':=λé Á s σ H Q I q=>h é Á s σ H Q I (f σ H Q q)
variable {j:Nat}
def QS{env:O.Env}{h:O.Hs}{Q:O.Q1}{E:O.XQ}:(O.wE Φ (.var j) env h Q E)=(O.go (O.getV env j) λv=>Q v h):=rfl
def fh{α:Type}{o:Option α}{k:α->Prop}(h:O.go o k):∃a,o=eY a/\k a:=by
 cases o with
 |none=>simp at h
 |some a=>exact⟨a,rfl,by simpa using h⟩
def Ba{env:O.Env}{v:O.Val}(h:O.getV env j=eY v):env[j]?=eY (eY v):=by
 unfold O.getV at h;split at h
 .rename_i u e;cases h;exact e
 .cases h
variable {é:Pos}
def Qb{x:Str}(hN:X.N[j]?=eY x)(hv:Vis X.env.scope x)(hd:(x==("__debug__" : Str))=fc)(aL:(x==("__classdict__" : Str))=fc):PE X (.Name x é) (tE X i Φ<|.var j) :=
 (LW hN hv hd aL).imp λσ H Q ⟨env,G,Qm,Em,p,w,c⟩=>by rw[QS]at w;obtain⟨v,e,q⟩:=fh w;obtain⟨y,h1,h2⟩:=p.en.get j v<|Ba e;exact⟨y,h1,c v G H y (fE.refl H) p.hp h2 q⟩
variable {x:V}
def WP{v:O.Val}(h:PE X e<|tC x)(r:∀H,RV i.K H v x):PE X e (tE X i Φ<|.cst v) :=
 h.imp λσ H Q ⟨env,G,Qm,Em,p,w,c⟩=>by exact c v G H x (fE.refl H) p.hp (r H) w
def Io{y:String}{v:O.Val}(h:PE X e<|tC x)(r:∀H,RV i.K H v x):PE X e (tE X i Φ<|.glob y v) :=
 h.imp λσ H Q ⟨env,G,Qm,Em,p,w,c⟩=>by exact c v G H x (fE.refl H) p.hp (r H) w
variable {a:O.E}
def two{b:O.E}{env:O.Env}{F:O.Val->O.Val->O.Hs->Prop}{R:V->V->Hp->Prop}(p:Pre X i σ H env G Em)
  (w:O.wE Φ a env G (λv G1=>O.wE Φ b env G1 (λu G2=>F v u G2) Em) Em)
  (h:∀v u G2 H2 x y,fE H H2->Pre X i σ H2 env G2 Em->RV i.K H2 v x->RV i.K H2 u y->F v u G2->R x y H2):tE X i Φ a σ H λx H1=>tE X i Φ b σ H1 λy H2=>R x y H2 :=
 ⟨env,G,_,Em,p,w,λv G1 H1 x k1 g1 r1 w1=>⟨env,G1,_,Em,p.go k1 g1,w1,λu G2 H2 y k2 g2 r2 w2=>h v u G2 H2 x y (k1.trans k2) ((p.go k1 g1).go k2 g2) (r1.keep k2) r2 w2⟩⟩
def one{env:O.Env}{F:O.Val->O.Hs->Prop}{R:V->Hp->Prop}(p:Pre X i σ H env G Em)
  (w:O.wE Φ a env G (λv G1=>F v G1) Em) (h:∀v G1 H1 x,fE H H1->Pre X i σ H1 env G1 Em->RV i.K H1 v x->F v G1->R x H1):tE X i Φ a σ H λx H1=>R x H1 :=
 ⟨env,G,_,Em,p,w,λv G1 H1 x k1 g1 r1 w1=>h v G1 H1 x k1 (p.go k1 g1) r1 w1⟩
abbrev Jw(i:Inf)(op:O.Bop)(r:R2):Prop:=∀(v u:O.Val) (G:O.Hs) (H:Hp) (x y:V) (Q:VK) (Qm:O.Q1),RH i G H->RV i.K H v x->RV i.K H u y->(O.binV G op v u).wp G Qm->Cn i H Q Qm->r x y H Q
variable {b:Expr} {ma:O.E} {mb:O.E} {r:R2}
def Kp{a:Expr}{op:ϖ}{bop:O.Bop}(ho:OpR X (ŉ op) r)(hr:Jw i bop r)(ha:PE X a<|tE X i Φ ma)(hb:PE X b<|tE X i Φ mb):PE X (.BinOp a op b é) (tE X i Φ<|.bin bop ma mb) :=
 (Q0 ho ha hb).imp λσ H Q ⟨env,G,Qm,Em,p,w,c⟩=>by exact two p w λv u G2 H2 x y k2 p2 rx ry q=>hr v u G2 H2 x y Q Qm p2.hp rx ry q<|c.go k2
abbrev ZW(i:Inf)(op:O.Cop)(r:R2):Prop:=∀(v u:O.Val) (G:O.Hs) (H:Hp) (x y:V) (c:Bool) (Q:VK),RH i G H->RV i.K H v x->RV i.K H u y->O.fz G op v u=eY c->Q (.bl c) H->r x y H Q
variable {op:cz} {cop:O.Cop}
def Pr{a:Expr}(ho:OpR X (ë op) r)(hr:ZW i cop r)(ha:PE X a<|tE X i Φ ma)(hb:PE X b<|tE X i Φ mb)(hm:ł op b=fc):PE X (.Compare a [op] [b] é) (tE X i Φ<|.cmp cop ma mb) :=
 (UR ho ha hb hm).imp λσ H Q ⟨env,G,Qm,Em,p,w,c⟩=>by
  exact two p w λv u G2 H2 x y k2 p2 rx ry q=>by obtain⟨d,e,q⟩:=fh q;exact hr v u G2 H2 x y d Q p2.hp rx ry e<|c (.bl d) G2 H2 (.bl d) k2 p2.hp (.bl d) q
def Ij{a:Expr}(ho:OpR X (ë op) r)(hr:ZW i cop r)(ha:PE X a<|tE X i Φ ma)(hb:PE X b<|tE X i Φ mb)(hm:ł op b=fc):PT X (.Compare a [op] [b] é) (tTt X i Φ<|.val<|.cmp cop ma mb) :=
 (UZ ho ha hb hm).imp λσ H Q ⟨env,G,Qm,Em,p,w,c⟩=>by
  exact two p w λv u G2 H2 x y k2 p2 rx ry q=>by obtain⟨d,e,q⟩:=fh q;obtain⟨d',e',q⟩:=fh q;cases e';exact hr v u G2 H2 x y d _ p2.hp rx ry e ⟨d,rfl,c d G2 H2 k2 p2.hp q⟩
def Wh{v:O.Val}{b:Bool}(h:O.gy v=eY b):v=.bl b:=by cases v<;>simp_all [O.gy]
def ZA{v:O.Val}{b:Int}(h:O.gx v=eY b):v=.int b:=by cases v<;>simp_all [O.gx]
def Jb{v:O.Val}{b:O.Ad}(h:O.fO v=eY b):v=.ref b:=by cases v<;>simp_all [O.fO]
def RV.bl_inv{K:Frag}{b:Bool}(r:RV K H (.bl b) x):x=.bl b:=by cases r;rfl
def RV.int_inv{K:Frag}{b:Int}(r:RV K H (.int b) x):x=.int b:=by cases r;rfl
def RV.ref_inv{K:Frag}{b:È}(r:RV K H (.ref b) x):x=.ref b:=by cases r;rfl
def RV.str_inv{K:Frag}{b:String}(r:RV K H (.str b) x):x=.str (gL b):=by cases r;rfl
def RV.non_inv{K:Frag}(r:RV K H .non x):x=.non:=by cases r;rfl
def Pn{a:Expr}(ha:PE X a<|tE X i Φ ma):PE X (.UnaryOp .Not a é) (tE X i Φ<|.not ma) :=
 (Ly ha).imp λσ H Q ⟨env,G,Qm,Em,p,w,c⟩=>by
  exact one p w λv G1 H1 x k1 p1 r q=>by obtain⟨b,e,q2⟩:=fh q;clear q;cases Wh e;exact⟨b,r.bl_inv,c _ G1 H1 _ k1 p1.hp (.bl _) q2⟩
def Q4{a:Expr}(ha:PE X a<|tE X i Φ ma):PE X (.UnaryOp .USub a é) (tE X i Φ<|.neg ma) :=
 (QH Lx ha).imp λσ H Q ⟨env,G,Qm,Em,p,w,c⟩=>by
  exact one p w λv G1 H1 x k1 p1 r q=>by obtain⟨b,e,q2⟩:=fh q;clear q;cases ZA e;exact⟨b,r.int_inv,c _ G1 H1 _ k1 p1.hp (.int _) q2⟩
def Re{a:Expr}{rest:List Expr}(ha:PE X a<|tE X i Φ ma)(hb:PE X (.BoolOp .And (b::rest) é)<|tE X i Φ mb):PE X (.BoolOp .And (a::b::rest) é) (tE X i Φ<|.and ma mb) :=
 (Ln ha hb).imp λσ H Q ⟨env,G,Qm,Em,p,w,c⟩=>by
  exact one p w λv G1 H1 x k1 p1 r q=>by
   obtain⟨d,e,q2⟩:=fh q;clear q;cases Wh e;refine⟨d,r.bl_inv,?_⟩;cases d with
   |true=>exact⟨env,G1,Qm,Em,p1,by simpa using q2,c.go k1⟩
   |false=>simp at q2 ⊢;exact c _ G1 H1 _ k1 p1.hp (.bl _) q2
def R3{a:Expr}{rest:List Expr}(ha:PE X a<|tE X i Φ ma)(hb:PE X (.BoolOp .Or (b::rest) é)<|tE X i Φ mb):PE X (.BoolOp .Or (a::b::rest) é) (tE X i Φ<|.or ma mb) :=
 (P1 ha hb).imp λσ H Q ⟨env,G,Qm,Em,p,w,c⟩=>by
  exact one p w λv G1 H1 x k1 p1 r q=>by
   obtain⟨d,e,q2⟩:=fh q;clear q;cases Wh e;refine⟨d,r.bl_inv,?_⟩;cases d with
   |false=>exact⟨env,G1,Qm,Em,p1,by simpa using q2,c.go k1⟩
   |true=>simp at q2 ⊢;exact c _ G1 H1 _ k1 p1.hp (.bl _) q2
def Ie{a:Expr}{ma:O.Tt}(ha:PT X a<|tTt X i Φ ma):PT X (.UnaryOp .Not a é) (tTt X i Φ<|.not ma) :=
 (Il ha).imp λσ H Q ⟨env,G,Qm,Em,p,w,c⟩=>by exact⟨env,G,_,Em,p,w,λb G1 H1 k1 g1 q=>c (!b) G1 H1 k1 g1 q⟩
def IR{a:Expr}{rest:List Expr}{ma mb:O.Tt}(ha:PT X a<|tTt X i Φ ma)(hb:PW X (.BoolOp .And (b::rest) é)<|tTt X i Φ mb):PW X (.BoolOp .And (a::b::rest) é) (tTt X i Φ<|.and ma mb) :=
 (Pd ha hb).imp λσ H Q ⟨env,G,Qm,Em,p,w,c⟩=>by
  refine⟨env,G,_,Em,p,w,λd G1 H1 k1 g1 q=>?_⟩;cases d with
  |true=>exact⟨env,G1,Qm,Em,p.go k1 g1,by simpa using q,λb G2 H2 k2=>c b G2 H2<|k1.trans k2⟩
  |false=>simp at q ⊢;exact c fc G1 H1 k1 g1 q
def PN{a:Expr}{rest:List Expr}{ma mb:O.Tt}(ha:PT X a<|tTt X i Φ ma)(hb:PW X (.BoolOp .Or (b::rest) é)<|tTt X i Φ mb):PW X (.BoolOp .Or (a::b::rest) é) (tTt X i Φ<|.or ma mb) :=
 (QC ha hb).imp λσ H Q ⟨env,G,Qm,Em,p,w,c⟩=>by
  refine⟨env,G,_,Em,p,w,λd G1 H1 k1 g1 q=>?_⟩;cases d with
  |false=>exact⟨env,G1,Qm,Em,p.go k1 g1,by simpa using q,λb G2 H2 k2=>c b G2 H2<|k1.trans k2⟩
  |true=>simp at q ⊢;exact c fb G1 H1 k1 g1 q
def FY{a:Expr}{ma:O.Tt}(ha:PT X a<|tTt X i Φ ma):PW X (.BoolOp .And [a] é)<|tTt X i Φ ma:=Et ha
def HL{a:Expr}{ma:O.Tt}(ha:PT X a<|tTt X i Φ ma):PW X (.BoolOp .Or [a] é)<|tTt X i Φ ma:=IV ha
def Pm{c a:Expr}{mc:O.Tt}(hc:PT X c<|tTt X i Φ mc)(ha:PE X a<|tE X i Φ ma)(hb:PE X b<|tE X i Φ mb):PE X (.IfExp c a b é) (tE X i Φ<|.ife mc ma mb) :=
 (Bp hc ha hb).imp λσ H Q ⟨env,G,Qm,Em,p,w,c⟩=>by
  refine⟨env,G,_,Em,p,w,λd G1 H1 k1 g1 q=>?_⟩;cases d with
  |true=>exact⟨env,G1,Qm,Em,p.go k1 g1,by simpa using q,c.go k1⟩
  |false=>exact⟨env,G1,Qm,Em,p.go k1 g1,by simpa using q,c.go k1⟩
def Ib:PA X []<|tAr X i Φ .nil 0:=gj.imp λσ H Q ⟨env,G,Qm,Em,p,w,c⟩=>by exact c [] G H [] (fE.refl H) p.hp .nil rfl w
def Gg{m:O.E}{ms:O.Es}{n:Nat}(he:PE X e<|tE X i Φ m)(hes:PA X es<|tAr X i Φ ms n)(hs:Ô (e::es) X.env=(fc,eval e X.env)::Ô es X.env):PA X (e::es) (tAr X i Φ (.cons m ms)<|n+1) :=
 (ZJ he hes hs).imp λσ H Q ⟨env,G,Qm,Em,p,w,c⟩=>by exact⟨env,G,_,Em,p,w,λv G1 H1 x k1 g1 r1 w1=>⟨env,G1,_,Em,p.go k1 g1,w1,λvs G2 H2 xs k2 g2 r2 hn w2=>c (v::vs) G2 H2 (x::xs) (k1.trans k2) g2 (.cons (r1.keep k2) r2) (by rw[Ë,hn]) w2⟩⟩
def ZM:O.lim<=Õ:=by decide
def ZX{o:O.Ob}{u:HO}(g:RH i G H)(w:O.new G o Qm)(c:Cn i H Q Qm)(r:∀p,H p=eZ->RO i (upd H p u) p o):∀p,H p=eZ->Q (.ref p) (upd H p u):=λp hp=>by unfold O.new at w;exact c (.ref p) _ _ (.ref p) (fE.new hp) (g.put (fE.new hp)<|r p hp) (.ref p) (w p<|g.free hp)
end Snd
namespace HT2
open PySem PySem.Spec PyProof.Rows L2
abbrev Z7:List Int->List Int->Bool
 |[],[]=>fc
 |[],_::_=>fc
 |_::_,[]=>fb
 |x::xs,y::ys=>if x=y then Z7 xs ys else gK (x > y)
def DW(A:Ą)(s:Å)(a:Int)(t:Tok)(c:Int)(u:Tok)(prog:â)(w:ô)(E:Â->Å->Prop)(Q:Â->Å->Prop)(h:Q (.bool<|gK (a > c)) s) :
  wpAny (Ù prog w) A (richCompare .Gt (.int a t)<|.int c u) Q E s :=
 (PyProof.Rows.gt_int h:wpAny (Ù prog w) A (ë .Gt (.int a t)<|.int c u) Q E s)
section
open PySem.SeqAt
open PySem.AutoSeq1 (wpAny_loadPart')
open PySem.MeetsSeq PySem.MeetsSeq2 PySem.MeetsSeq3
def Kj(l b:È)(items ń:Array Â)(n n2:Nat)(dd de:Option È)(sl d9:Array<|Option Â)(ns ms:List Int)(hi:ü items.toList ns)(hj:ü ń.toList ms) :
  Meets (Builtin.«tuple.__gt__» ⟨[.ref l,.ref b],[]⟩)
   (λ_ R s=>s.heap.get? l=eY { cls:=.type "tuple",dict:=dd,data:=.seq items n,slots:=sl }/\s.heap.get? b=eY { cls:=.type "tuple",dict:=de,data:=.seq ń n2,slots:=d9 }/\
     R (.ok<|.ret<|.bool<|Z7 ns ms) s) :=
 .of_wp λprog w A R s h=>by
  obtain⟨hp,g,d,tk,os⟩:=s;obtain⟨hl,hb,h⟩:=h;have f2:=AutoSeq1.sub_tuple_tuple;have z1:items.size=ns.length:=by rw[<-hi.length];simp
  have z2:ń.size=ms.length:=by rw[<-hj.length];simp
  wp_walk using Ġ hl,Ġ hb,wpAny_forIn_list _ (λrest b s'=>b.1=eZ/\s'=⟨hp,g,d,tk,os⟩/\∃(vs ws:List Â) (cq dD:List Int),rest=vs.zip ws/\
    ü vs cq/\ü ws dD/\cq.length+ń.size=dD.length+items.size/\R (.ok<|.ret<|.bool<|Z7 cq dD) ⟨hp,g,d,tk,os⟩) _
  case turn =>
   rintro⟨y,x⟩ rest b s' ⟨bC,rfl,vs,ws,cq,dD,hz,hvi,hwi,hlen,hR⟩;cases hvi with
   |nil=>rw[Ι]at hz;cases hz
   |cons a t hvi' =>
    cases hwi with
    |nil=>rw[ψ]at hz;cases hz
    |cons c u hwi' =>
     rw[ő]at hz;injection hz with hyx hrest;injection hyx with hy hx;subst hy hx;rw[Z7]at hR;simp only[Ë]at hlen;obtain⟨e,he,hiff⟩:=HT.eqAt_int A.in1 ⟨hp,g,d,tk,os⟩ a t c u;refine À<|he prog w _ _ ?_;cases e with
     |true =>
      rw[gD<|hiff.mp rfl]at hR
      wp_walk
      exact⟨rfl,rfl,_,_,_,_,hrest,hvi',hwi',by lia,hR⟩
     |false =>
      rw[gE λq=>gJ (hiff.mpr q) ù]at hR;have hri:=DW A.in1 ⟨hp,g,d,tk,os⟩ a t c u prog w
      wp_walk using hri
      exact⟨_,rfl,by simpa using hR⟩
  case fin =>
   rintro⟨b1,b2⟩ s' ⟨bC,rfl,vs,ws,cq,dD,hz,hvi,hwi,hlen,hR⟩;simp only at bC;subst bC;have hv:Z7 cq dD=gK (items.size > ń.size):=by
    cases hvi with
    |nil =>
     cases hwi with
     |nil =>simp only[ē]at hlen;rw[Z7];exact(gF<|by lia).symm
     |cons c u hw =>simp only[ē,Ë]at hlen;rw[Z7];exact(gF<|by lia).symm
    |cons a t hv =>
     cases hwi with
     |nil =>simp only[ē,Ë]at hlen;rw[Z7];exact(gG<|by lia).symm
     |cons c u hw =>rw[ő]at hz;cases hz
   rw[hv]at hR
   wp_walk
   exact⟨_,rfl,by simpa[Builtin.Tuple.tupleCompareSizes]using hR⟩
  case h =>exact⟨rfl,rfl,items.toList,ń.toList,ns,ms,rfl,hi,hj,by lia,h⟩
end
def Ot{prog:â}{w:ô}{A:Ą}{E:Â->Å->Prop}{s:Å}{l b:È}{items ń:Array Â}{ns ms:List Int}{Q:Â->Å->Prop}(hl:ϰ s.heap l items)(hb:ϰ s.heap b ń)(hi:ü items.toList ns)(hj:ü ń.toList ms)
  (hu:A.units<ĩ) (h:Q (.bool<|Z7 ns ms) s):wpAny (Ù prog w) A (ë .Gt (.ref l)<|.ref b) Q E s:=by
 obtain⟨⟨cls,dd,data,sl⟩,ho,hc,n,hd⟩:=id hl;obtain⟨⟨cls2,de,data2,d9⟩,ho2,hc2,n2,bQ⟩:=id hb;simp only at hc hd hc2 bQ;subst hc hd hc2 bQ;exact eK (op:=.Gt) ⟨_,ho,rfl⟩ ⟨_,ho2,rfl⟩ PySem.F.slot_tuple_gt PySem.F.entry_tuple_gt (PySem.F.args_tuple_gt_2 _ _) (Kj l b items ń n n2 dd de sl d9 ns ms hi hj)
  ⟨ho,ho2,show Value.bool (Z7 ns ms)≠cC/\Q (.bool<|Z7 ns ms) s from ⟨(λx=>nomatch x),h⟩⟩ hu
abbrev rGtT(K:Frag):R2:=λx y H Q=>∃a b ns ms,x=.ref a/\y=.ref b/\gp K H a (ns.map V.int)/\gp K H b (ms.map V.int)/\Q (.bl<|Z7 ns ms) H
def op_gtT{X:Cx}(hu:X.A.units<ĩ):OpR X (ë .Gt)<|rGtT X.K:=by intro Á s σ H x y v u Q I rx ry h;obtain⟨a,b,ns,ms,rfl,rfl,ha,hb,q⟩:=h;cases rx;cases ry;obtain⟨ð,r1,p1,_⟩:=I.tuple ha;obtain⟨aD,r2,p2,_⟩:=I.tuple hb;have i1:ü ð.toArray.toList ns:=ZB r1;have i2:ü aD.toArray.toList ms:=ZB r2;exact Ot p1 p2 i1 i2 hu ⟨.bl<|Z7 ns ms,H,I,rfl,q⟩
def lexGt_lt:∀(ns ms:List Int),Z7 ns ms=HT.lexLt ms ns
 |[],[]=>rfl
 |[],_::_=>rfl
 |_::_,[]=>rfl
 |x::xs,y::ys=>by
  rw[Z7,HT.lexLt_cons,lexGt_lt xs ys];by_cases e:x=y
  .rw[gD e,gD e.symm]
  .rw[gE e,gE λz=>e z.symm]
end HT2
namespace Snd
open PySem L2
mutual
noncomputable def toD:O.D->ŭ
 |.non=>.none
 |.bl b=>.bool b
 |.int i=>.int i
 |.str s=>.str<|gL s
 |.tup ds=>.tuple<|toDs ds
 |.lst ds=>.list<|toDs ds
noncomputable def toDs:List O.D->List ŭ
 |[]=>[]
 |d::ds=>toD d::toDs ds
end
def ofS_inj{s t:String}:gL s=gL t↔s=t:=by
 constructor
 .intro h;rw[Str.ofString_eq_toList,Str.ofString_eq_toList]at h;injection h with h;have h2:s.toList.map Œ=t.toList.map Œ:=by simpa using congrArg bT h
  have inj:∀{a b:Char},a.toNat=b.toNat->a=b:=λ{a b} e=>Char.ext<|bK e;have:s.toList=t.toList:=by
   revert h2;generalize s.toList=a;generalize t.toList=b;intro h2;induction a generalizing b with
   |nil=>cases b with
    |nil=>rfl
    |cons _ _=>cases h2
   |cons x xs ih=>cases b with
    |nil=>cases h2
    |cons y ys =>simp only[Ï,List.cons.injEq]at h2;rw[inj h2.1,ih _ h2.2]
  exact String.toList_inj.mp this
 .rintro rfl;rfl
def FX(s t:String):(gL s==gL t)=(s==t):=by
 by_cases e:s=t
 .subst e;simp
 .have:gL s≠gL t:=λz=>e<|ofS_inj.mp z;rw[beq_eq_false_iff_ne.mpr this,beq_eq_false_iff_ne.mpr e]
def AH(s:String):PyData.strOk (gL s)=fb:=by
 rw[Str.ofString_eq_toList];unfold PyData.strOk;rw[Array.all_eq_true'];intro n hn;have:n∈s.toList.map Œ:=by simpa using hn
 obtain⟨c,_,rfl⟩:=Ü.mp this;have:=c.valid;have h2:c.toNat=c.val.toNat:=rfl;simp only[UInt32.isValidChar,Nat.isValidChar]at this;simp only[gH];lia
mutual
theorem K5:∀d e:O.D,ī (toD d) (toD e)=O.D.eqv d e
 |.non,e=>by cases e<;>simp[toD,ī,O.D.eqv]
 |.bl _,e=>by cases e<;>simp[toD,ī,O.D.eqv]
 |.int _,e=>by cases e<;>simp[toD,ī,O.D.eqv]
 |.str s,e=>by cases e<;>simp only[toD,ī,O.D.eqv];exact FX _ _
 |.tup ds,e=>by cases e<;>simp only[toD,ī,O.D.eqv];exact toDs_eqv _ _
 |.lst ds,e=>by cases e<;>simp only[toD,ī,O.D.eqv];exact toDs_eqv _ _
theorem toDs_eqv:∀ds es:List O.D,Θ (toDs ds) (toDs es)=O.D.eqvs ds es
 |[],[]=>by simp[toDs,Θ,O.D.eqvs]
 |[],_::_=>by simp[toDs,Θ,O.D.eqvs]
 |_::_,[]=>by simp[toDs,Θ,O.D.eqvs]
 |d::ds,e::es=>by simp only[toDs,Θ,O.D.eqvs,K5 d e,toDs_eqv ds es]
end
mutual
theorem K2:∀d:O.D,(toD d).canLay0=fb
 |.non=>by simp[toD,Ű]
 |.bl _=>by simp[toD,Ű]
 |.int _=>by simp[toD,Ű]
 |.str s=>by simp only[toD,Ű];exact AH s
 |.tup ds=>by simp only[toD,Ű];exact toDs_lay ds
 |.lst ds=>by simp only[toD,Ű];exact toDs_lay ds
theorem toDs_lay:∀ds:List O.D,ŗ (toDs ds)=fb
 |[]=>by simp[toDs,ŗ]
 |d::ds=>by simp only[toDs,ŗ,K2 d,toDs_lay ds,Bool.and_self]
end
section
variable {i:Inf}{G:O.Hs}{H:Hp}
def Az{α β:Type}{f:α->Option β}:∀{xs:List α}{ys:List β},xs.mapM f=eY ys->List.length xs=ys.length/\∀(n:Nat) (x:α),xs[n]?=eY x->∃y,ys[n]?=eY y/\f x=eY y:=by
 intro xs;induction xs with
 |nil=>intro ys h;simp at h;subst h;exact⟨rfl,λn x e=>by simp at e⟩
 |cons a as ih =>
  intro ys h;rw[Ē]at h;cases e:f a with
  |none=>rw[e]at h;simp at h
  |some b =>
   rw[e]at h;cases e2:as.mapM f with
   |none=>rw[e2]at h;simp at h
   |some bs =>
    rw[e2]at h;simp at h;subst h;obtain⟨h1,h2⟩:=ih e2;refine⟨by simp[h1],λn x hn=>?_⟩;cases n with
    |zero=>simp at hn;subst hn;exact⟨b,rfl,e⟩
    |succ n=>simp at hn ⊢;exact h2 n x hn
def Ub{K:Frag}{f:O.Val->Option O.D}(hf:∀v d x,f v=eY d->RV K H v x->IsD K H x (toD d)):∀{vs:List O.Val}{xs:List V}{ds:List O.D},vs.mapM f=eY ds->RVs K H vs xs->IsDs K H xs (toDs ds):=by
 intro vs;induction vs with
 |nil=>intro xs ds h r;simp at h;subst h;cases r;exact .nil
 |cons a as ih =>
  intro xs ds h r;rw[Ē]at h;cases e:f a with
  |none=>rw[e]at h;simp at h
  |some b =>
   rw[e]at h;cases e2:as.mapM f with
   |none=>rw[e2]at h;simp at h
   |some bs =>
    rw[e2]at h;simp at h;subst h;cases r with
    |cons r1 r2=>exact .cons (hf a b _ e r1)<|ih e2 r2
def ZK(g:RH i G H){a:È}{xs:List O.Val}(e:O.fv (G a)=eY xs):∃vs,gm i.K H a vs/\RVs i.K H xs vs:=by
 cases q:G a with
 |none=>rw[q]at e;cases e
 |some o =>
  rw[q]at e;cases o with
  |lst ys=>cases e;obtain⟨vs,h,r⟩:=g a _ q;exact⟨vs,gm.of h,r⟩
  |dct _=>cases e
  |ins _ _=>cases e
  |exc _=>cases e
  |frz _=>cases e
  |dtp _=>cases e
def Km:∀ns:List Int,toDs (ns.map O.D.int)=ns.map PyData.int
 |[]=>by simp[toDs]
 |n::ns=>by simp only[Ï,toDs,toD,Km ns]
def XN(g:RH i G H):∀(n:Nat) (v:O.Val) (d:O.D) (x:V),O.dat G n v=eY d->RV i.K H v x->IsD i.K H x (toD d):=by
 intro n;induction n with
 |zero =>
  intro v d x e r;cases v with
  |non=>cases r;simp[O.dat]at e;subst e;rw[toD];exact .non
  |bl b=>cases r;simp[O.dat]at e;subst e;rw[toD];exact .bl b
  |int b=>cases r;simp[O.dat]at e;subst e;rw[toD];exact .int b
  |str s=>cases r;simp[O.dat]at e;subst e;rw[toD];exact .str _
  |tup xs=>simp[O.dat]at e
  |ref a=>simp[O.dat]at e
  |scr ns=>simp[O.dat]at e
  |key _ _=>simp[O.dat]at e
 |succ n ih =>
  intro v d x e r;cases v with
  |non=>cases r;simp[O.dat]at e;subst e;rw[toD];exact .non
  |bl b=>cases r;simp[O.dat]at e;subst e;rw[toD];exact .bl b
  |int b=>cases r;simp[O.dat]at e;subst e;rw[toD];exact .int b
  |str s=>cases r;simp[O.dat]at e;subst e;rw[toD];exact .str _
  |tup xs =>
   rw[O.dat]at e;cases z:xs.mapM (O.dat G n)with
   |none=>rw[z]at e;cases e
   |some ds =>
    rw[z]at e;cases e;cases r with
    |tup hp hr=>rw[toD];exact .tup (Zi hp)<|Ub ih z hr
  |ref a =>
   rw[O.dat]at e;cases q:O.fv (G a)with
   |none=>rw[q]at e;cases e
   |some xs =>
    rw[q]at e;simp only[è]at e;cases z:xs.mapM (O.dat G n)with
    |none=>rw[z]at e;cases e
    |some ds =>rw[z]at e;cases e;cases r.ref_inv;obtain⟨vs,h1,h2⟩:=ZK g q;rw[toD];exact .lst h1<|Ub ih z h2
  |scr ns =>
   simp[O.dat]at e;subst e;cases r with
   |scr h =>rw[toD,Km];exact .lst (Z8 h)<|IsDs.ints ns
  |key _ _=>simp[O.dat]at e
def Xx{n:Nat}:∀{ds:List O.D},(∀d∈ds,(toD d).depth<=n)->Ń (toDs ds)<=n
 |[],_=>by rw[toDs];simp[Ń]
 |d::ds,h=>by rw[toDs];simp only[Ń];exact Nat.max_le.mpr ⟨h d (by simp),Xx λe he=>h e<|by simp[he]⟩
def Kn:∀(n:Nat) (v:O.Val) (d:O.D),O.dat G n v=eY d->(toD d).depth<=n:=by
 have sc:∀(n:Nat) (v:O.Val) (d:O.D),(∀xs,v≠.tup xs)->(∀a,v≠.ref a)->(∀ns,v≠.scr ns)->O.dat G n v=eY d->(toD d).depth<=n:=by
  intro n v d h1 h2 h3 e;cases v with
  |tup xs=>exact gJ rfl<|h1 xs
  |ref a=>exact gJ rfl<|h2 a
  |scr ns=>exact gJ rfl<|h3 ns
  |key _ _=>cases n<;>simp[O.dat]at e
  |_=>simp[O.dat]at e;subst e;simp[toD,PyData.depth]
 have ms:∀(n:Nat),(∀v d,O.dat G n v=eY d->(toD d).depth<=n)->∀(xs:List O.Val) (ds:List O.D),xs.mapM (O.dat G n)=eY ds->Ń (toDs ds)<=n:=by
  intro n ih xs ds z;refine Xx λd hd=>?_;obtain⟨k,hk⟩:=cJ.mp hd;obtain⟨h1,h2⟩:=Az z;have Χ:k<xs.length:=by rw[h1];exact(Ò.mp hk).1
  obtain⟨y,hy,hf⟩:=h2 k xs[k]<|É Χ;rw[hk]at hy;cases hy;exact ih _ _ hf
 intro n;induction n with
 |zero =>
  intro v d e;cases v with
  |tup xs=>simp[O.dat]at e
  |ref a=>simp[O.dat]at e
  |scr ns=>simp[O.dat]at e
  |_=>exact sc 0 _ d (by simp) (by simp) (by simp) e
 |succ n ih =>
  intro v d e;cases v with
  |tup xs =>
   rw[O.dat]at e;cases z:xs.mapM (O.dat G n)with
   |none=>rw[z]at e;cases e
   |some ds =>rw[z]at e;cases e;rw[toD];exact Τ<|ms n ih xs ds z
  |ref a =>
   rw[O.dat]at e;cases q:O.fv (G a)with
   |none=>rw[q]at e;cases e
   |some xs =>
    rw[q]at e;simp only[è]at e;cases z:xs.mapM (O.dat G n)with
    |none=>rw[z]at e;cases e
    |some ds =>rw[z]at e;cases e;rw[toD];exact Τ<|ms n ih xs ds z
  |scr ns =>simp[O.dat]at e;subst e;rw[toD];refine Τ<|ß ?_<|ğ n;refine Xx λd hd=>?_;obtain⟨m,_,rfl⟩:=Ü.mp hd;simp[toD,PyData.depth]
  |_=>exact sc (n+1) _ d (by simp) (by simp) (by simp) e
def JK{v:O.Val}{d:O.D}(e:O.dat G O.deep v=eY d):SeqAt.shaped (toD d)=fb:=by show((toD d).canLay0&&gK ((toD d).depth<=64))=fb;rw[K2,gG<|ß (Kn _ _ _ e)<|by decide];rfl
def UM(g:RH i G H){v u:O.Val}{x y:V}{c:Bool}(rx:RV i.K H v x)(ry:RV i.K H u y)(e:O.eqV G v u=eY c):∃d d',IsD i.K H x d/\IsD i.K H y d'/\SeqAt.shaped d=fb/\SeqAt.shaped d'=fb/\ī d d'=c:=by
 unfold O.eqV at e;cases z:O.dat G O.deep v with
 |none=>rw[z]at e;cases e
 |some d =>
  cases z2:O.dat G O.deep u with
  |none=>rw[z,z2]at e;cases e
  |some d' =>rw[z,z2]at e;cases e;exact⟨_,_,XN g _ _ _ _ z rx,XN g _ _ _ _ z2 ry,JK z,JK z2,K5 d d'⟩
def RY:ZW i .eq<|QP i.K:=by intro v u G H x y c Q g rx ry e q;obtain⟨d,d',h1,h2,h3,h4,h5⟩:=UM g rx ry e;exact⟨d,d',h1,h2,h3,h4,by rw[h5];exact q⟩
def Sg:ZW i .ne<|Rk i.K:=by
 intro v u G H x y c Q g rx ry e q;have e:(O.eqV G v u).map (!·)=eY c:=e;cases z:O.eqV G v u with
 |none=>rw[z]at e;cases e
 |some b =>rw[z]at e;cases e;obtain⟨d,d',h1,h2,h3,h4,h5⟩:=UM g rx ry z;exact⟨d,d',h1,h2,h3,h4,by rw[h5];exact q⟩
end
variable {i:Inf}{X:Cx}{Φ:O.Fs}
def Zu(s:String):(gL s).length=s.length:=by rw[Str.ofString_eq_toList];show(List.map Œ s.toList).toArray.size=_;rw[Í,Ã];first|rfl|exact ce
def K9(s t:String):gL (s++t)=gL s++gL t:=by rw[Str.ofString_eq_toList,Str.ofString_eq_toList,Str.ofString_eq_toList];show _=Str.append _ _;unfold Str.append;simp
variable {xs:List O.Val}
def U9{o:Option O.Ob}(h:O.fv o=eY xs):o=eY (.lst xs):=by
 cases o with
 |none=>cases h
 |some o=>cases o with
  |lst ys=>cases h;rfl
  |_=>cases h
variable {p:Prop}
def Zn{α:Type}[Decidable p]{o:Option α}{a:α}(e:(if p then o else eZ)=eY a):p/\o=eY a:=by
 by_cases q:p
 .rw[gD q]at e;exact⟨q,e⟩
 .rw[gE q]at e;cases e
variable {h:O.Hs} {Q:O.Q1}
def Zf(w:O.Rs.no.wp h Q):False:=by rw[O.Rs.wp_no]at w;exact w
def Zm{v:O.Val}(w:(O.Rs.val v).wp h Q):Q v h:=by rw[O.Rs.wp_val]at w;exact w
def Wm{o:O.Ob}(w:(O.Rs.new o).wp h Q):O.new h o Q:=by rw[O.Rs.wp_new]at w;exact w
def X5[Decidable p]{r:O.Rs}(w:(if p then r else .no).wp h Q):p/\r.wp h Q:=by
 by_cases e:p
 .rw[gD e]at w;exact⟨e,w⟩
 .rw[gE e]at w;exact(Zf w).elim
variable {u:O.Val}
def Xk{f:Int->Int->O.Rs}{v:O.Val}(w:(O.intV f v u).wp h Q):∃i j,v=.int i/\u=.int j/\(f i j).wp h Q:=by
 cases v with
 |int i=>cases u with
  |int j=>exact⟨i,j,rfl,rfl,w⟩
  |_=>exact(Zf w).elim
 |_=>exact(Zf w).elim
abbrev GS(K:Frag):R2:=λx y H Q=>(rI0 λi j=>.int<|i+j) x y H Q\/(((Hx K x y H Q\/Hk K x y H Q)\/Px x y H Q)\/∃i j,x=.str i/\y=.str j/\i.length+j.length<=Õ/\Q (.str<|i++j) H)
def Q5:OpR X (ŉ .Add)<|GS X.K:=op_add.or (((op_cat0.or Fc).or Ih).or Od)
def b_add:Jw i .add<|GS i.K:=by
 intro v u G H x y Q Qm g rx ry w c;cases v<;>cases u<;>first|exact(Zf w).elim|skip
 case int.int a b =>
  replace w:=Zm w
  exact .inl ⟨a,b,rx.int_inv,ry.int_inv,c _ G H _ (fE.refl H) g (.int _) w⟩
 case str.str a b =>
  obtain⟨h,w⟩:=X5 w
  replace w:=Zm w
  refine .inr<|.inr ⟨_,_,rx.str_inv,ry.str_inv,?_,?_⟩
  .rw[Zu,Zu];exact ß h ZM
  .rw[<-K9];exact c _ G H _ (fE.refl H) g (.str _) w
 case tup.tup xs ys =>
  obtain⟨h,w⟩:=X5 w
  replace w:=Zm w
  .skip
   cases rx with
   |@tup _ p vs hp hr =>
   cases ry with
   |@tup _ q us hq hs =>
   by_cases h0:vs=[]
   .subst h0;have:xs=[]:=ay hr.length;subst this;exact .inr<|.inl<|.inl<|.inl ⟨p,q,us,rfl,rfl,Zi hp,Zi hq,c _ G H _ (fE.refl H) g (.tup hq hs) w⟩
   refine .inr<|.inl<|.inl<|.inr ⟨p,q,vs,us,rfl,rfl,Zi hp,Zi hq,h0,?_,λz=>?_,λz a ha=>?_⟩
   .rw[<-hr.length,<-hs.length];exact ß h ZM
   .have:ys=[]:=ay (by rw[hs.length,z];rfl);subst this;rw[ċ]at w;exact c _ G H _ (fE.refl H) g (.tup hp hr) w
   .have k:=fE.new (o:=.tup<|vs++us) ha;refine c _ G _ _ k (g.hid k λb o e=>fe ?_) (.tup (.inl ff)<|(hr.keep k).append<|hs.keep k) w;rintro rfl;rw[g.free ha]at e;cases e
 case ref.ref a b =>
  dsimp only[O.binV,O.addV]at w;split at w
  .rename_i xs ys e1 e2;unfold O.Rs.lst at w;split at w
   .rename_i hl;rw[O.Rs.wp_new]at w;cases rx.ref_inv;cases ry.ref_inv;obtain⟨vs,h1,r1⟩:=g a _ e1;obtain⟨us,h2,r2⟩:=g b _ e2;refine .inr (.inl<|.inr ⟨a,b,vs,us,rfl,rfl,h1,h2,?_,ZX g w c λp hp=>?_⟩)
    .rw[<-r1.length,<-r2.length,<-ê];exact ß hl ZM
    .have k:=fE.new (o:=.lst<|vs++us) hp;exact⟨_,ff,(r1.keep k).append<|r2.keep k⟩
   .exact(Zf w).elim
  .exact(Zf w).elim
def b_sub:Jw i .sub<|rI0 λi j=>.int<|i - j:=by intro v u G H x y Q Qm g rx ry w c;obtain⟨a,b,rfl,rfl,w⟩:=Xk w;exact⟨a,b,rx.int_inv,ry.int_inv,c _ G H _ (fE.refl H) g (.int _)<|Zm w⟩
def RVs.rep{K:Frag}{H:Hp}{vs:List O.Val}{xs:List V}(r:RVs K H vs xs):∀n,RVs K H (Ó n vs).flatten (Ó n xs).flatten
 |0=>.nil
 |n+1=>by rw[č,č,Ň,Ň];exact r.append<|RVs.rep r n
set_option exponentiation.threshold 2000 in
def LS{i j:Int}(h:O.mulOk i j):IntMulOk i j:=by
 rcases h with(h|h)|⟨h1,h2⟩
 .exact .of_left (ak (by lia)<|by lia)
 .exact .of_right (ak (by lia)<|by lia)
 .have e:(10:Nat) ^ 200<2 ^ 1000:=by decide
  exact .of_bits (ß (PyProof.Rows.intBits_le<|Û h1 e)<|by decide) (ß (PyProof.Rows.intBits_le<|Û h2 e)<|by decide)
def E6(s:String)(n:Nat):Li (gL s) n=gL (O.repT s n):=by unfold Li O.repT;rw[Str.ofString_eq_toList,Str.ofString_eq_toList,cf];congr 1;apply eR.mp;rw[Kw];simp[List.map_flatten,List.map_replicate]
abbrev GW:R2:=λx y H Q=>rI O.mulOk (λi j=>.int<|i*j) x y H Q\/(Rb x y H Q\/G0 x y H Q)
def P4:OpR X (ŉ .Mult) GW:=OpR.or (opI λ_ _ _ _ _ _ _ hc q=>PyProof.Rows.mul_int q<|LS hc) (op_rep.or FU)
def b_mul:Jw i .mul GW:=by
 intro v u G H x y Q Qm g rx ry w c;cases v<;>cases u<;>first|exact(Zf w).elim|skip
 case int.int a b =>obtain⟨h,w⟩:=X5 w;exact .inl ⟨a,b,rx.int_inv,ry.int_inv,h,c _ G H _ (fE.refl H) g (.int _)<|Zm w⟩
 case ref.int a k =>
  dsimp only[O.binV,O.mulV]at w;split at w
  .rename_i xs e1;split at w
   .rename_i hk;unfold O.Rs.lst at w;split at w
    .rw[O.Rs.wp_new]at w;cases rx.ref_inv;cases ry.int_inv;obtain⟨vs,h1,r1⟩:=g a _ e1;refine .inr (.inl ⟨a,k,vs,rfl,rfl,h1,by lia,by lia,?_,ZX g w c λp hp=>?_⟩)
     .rw[<-r1.length];exact ß hk.2.2 ZM
     .have kk:=fE.new (o:=.lst (Ó k.toNat vs).flatten) hp;exact⟨_,ff,(r1.keep kk).rep _⟩
    .exact(Zf w).elim
   .exact(Zf w).elim
  .exact(Zf w).elim
 case str.int a k =>
  obtain⟨hk,w⟩:=X5 w
  replace w:=Zm w
  refine .inr (.inr ⟨_,k,rx.str_inv,ry.int_inv,hk.1,hk.2.1,by rw[Zu];exact hk.2.2.1,by rw[Zu];exact hk.2.2.2,?_⟩);rw[E6];exact c _ G H _ (fE.refl H) g (.str _) w
def b_fdiv:Jw i .fdiv<|rI Q2 λi j=>.int<|i / j:=by intro v u G H x y Q Qm g rx ry w c;obtain⟨a,b,rfl,rfl,w⟩:=Xk w;obtain⟨h,w⟩:=X5 w;exact⟨a,b,rx.int_inv,ry.int_inv,h,c _ G H _ (fE.refl H) g (.int _)<|Zm w⟩
def b_mod:Jw i .mod<|rI (λ_ j=>0<j) λi j=>.int<|i % j:=by intro v u G H x y Q Qm g rx ry w c;obtain⟨a,b,rfl,rfl,w⟩:=Xk w;obtain⟨h,w⟩:=X5 w;exact⟨a,b,rx.int_inv,ry.int_inv,h,c _ G H _ (fE.refl H) g (.int _)<|Zm w⟩
def b_pow:Jw i .pow<|rI Qj λi j=>.int<|i ^ j.toNat:=by intro v u G H x y Q Qm g rx ry w c;obtain⟨a,b,rfl,rfl,w⟩:=Xk w;obtain⟨h,w⟩:=X5 w;exact⟨a,b,rx.int_inv,ry.int_inv,h,c _ G H _ (fE.refl H) g (.int _)<|Zm w⟩
def ZT{K:Frag}{H:Hp}:∀{xs:List O.Val}{ns:List Int}{vs:List V},O.fk xs=eY ns->RVs K H xs vs->vs=ns.map V.int
 |[],_,_,e,r=>by cases r;cases e;rfl
 |v::xs,_,_,e,r=>by
  cases r with
  |cons r t=>cases v with
   |int k =>
    have e:(O.fk xs).map (k :: ·)=eY _:=e;cases z:O.fk xs with
    |none=>rw[z]at e;cases e
    |some ns=>rw[z]at e;cases e;cases r;rw[ZT z t];rfl
   |_=>cases e
def MG:∀(ns ms:List Int),O.fQ ns ms=HT.lexLt ns ms
 |[],[]=>rfl
 |[],_::_=>rfl
 |_::_,[]=>rfl
 |x::xs,y::ys=>by rw[O.fQ,HT.lexLt_cons,MG xs ys]
abbrev QG(K:Frag):R2:=λx y H Q=>rI0 (λi j=>.bl<|gK (i<j)) x y H Q\/Qn K x y H Q
def RQ(hu:X.A.units<ĩ):OpR X (ë .Lt)<|QG X.K:=op_lt.or (Lk hu)
abbrev Q9(K:Frag):R2:=λx y H Q=>rI0 (λi j=>.bl<|gK (j<i)) x y H Q\/HT2.rGtT K x y H Q
def Sa(hu:X.A.units<ĩ):OpR X (ë .Gt)<|Q9 X.K:=op_gt.or (HT2.op_gtT hu)
variable {H:Hp} {x:V} {c:Bool}
def GM{K:Frag}{ys:List O.Val}{y:V}(rx:RV K H (.tup xs) x)(ry:RV K H (.tup ys) y)(e:O.fR (.tup xs) (.tup ys)=eY c):∃a b ns ms,x=.ref a/\y=.ref b/\gp K H a (ns.map V.int)/\gp K H b (ms.map V.int)/\HT.lexLt ns ms=c:=by
 simp only[O.fR]at e;cases z1:O.fk xs with
 |none=>rw[z1]at e;cases e
 |some ns =>
  cases z2:O.fk ys with
  |none=>rw[z1,z2]at e;cases e
  |some ms =>
   rw[z1,z2]at e;cases e;cases rx with
   |@tup _ p vs hp hr =>
   cases ry with
   |@tup _ q us hq hs =>
   have h1:=ZT z1 hr;have h2:=ZT z2 hs;subst h1 h2;exact⟨p,q,ns,ms,rfl,rfl,Zi hp,Zi hq,(MG _ _).symm⟩
def c_lt:ZW i .lt<|QG i.K:=by
 intro v u G H x y c Q g rx ry e q
 replace e:O.fR v u=eY c:=e
 cases v<;>cases u<;>first|(cases e;done)|skip
 case int.int a b=>cases e;exact .inl ⟨a,b,rx.int_inv,ry.int_inv,q⟩
 case tup.tup xs ys =>obtain⟨a,b,ns,ms,h1,h2,h3,h4,h5⟩:=GM rx ry e;exact .inr ⟨a,b,ns,ms,h1,h2,h3,h4,by rw[h5];exact q⟩
def c_gt:ZW i .gt<|Q9 i.K:=by
 intro v u G H x y c Q g rx ry e q
 replace e:O.fR u v=eY c:=e
 cases v<;>cases u<;>first|(cases e;done)|skip
 case int.int a b=>cases e;exact .inl ⟨a,b,rx.int_inv,ry.int_inv,q⟩
 case tup.tup xs ys =>obtain⟨a,b,ns,ms,h1,h2,h3,h4,h5⟩:=GM ry rx e;exact .inr ⟨b,a,ms,ns,h2,h1,h4,h3,by rw[HT2.lexGt_lt,h5];exact q⟩
def G7{v:O.Val}(e:O.leV v u=eY c):∃i j,v=.int i/\u=.int j/\gK (i<=j)=c:=by
 cases v with
 |int i=>cases u with
  |int j=>cases e;exact⟨i,j,rfl,rfl,rfl⟩
  |_=>cases e
 |_=>cases e
def c_le:ZW i .le<|rI0 λi j=>.bl<|gK (i<=j):=by intro v u G H x y c Q g rx ry e q;obtain⟨a,b,rfl,rfl,rfl⟩:=G7 e;exact⟨a,b,rx.int_inv,ry.int_inv,q⟩
def c_ge:ZW i .ge<|rI0 λi j=>.bl<|gK (j<=i):=by intro v u G H x y c Q g rx ry e q;obtain⟨a,b,rfl,rfl,rfl⟩:=G7 e;exact⟨b,a,rx.int_inv,ry.int_inv,q⟩
def RV.isN{K:Frag}{v:O.Val}(r:RV K H v x):gK (x=.non)=gK (v=.non):=by cases r<;>simp
variable {a:Expr} {ma:O.E} {é:Pos} {p2:Pos} {j:Nat}
def Qz(ha:PE X a<|tE X i Φ ma):PE X (.Compare a [.Is] [.Constant .none j p2] é) (tE X i Φ<|.cmp .is ma<|.cst .non) :=
 (BD (CN ha) rfl).imp λσ H Q ⟨env,G,Qm,Em,p,w,c⟩=>by refine one p w λv G1 H1 x k1 p1 r q=>?_;obtain⟨d,e,q2⟩:=fh q;have e:eY (gK (v=.non))=eY d:=e;cases e;rw[r.isN];exact c _ G1 H1 _ k1 p1.hp (.bl _) q2
def Pe(ha:PE X a<|tE X i Φ ma):PE X (.Compare a [.IsNot] [.Constant .none j p2] é) (tE X i Φ<|.cmp .isnot ma<|.cst .non) :=
 (BD (UD ha) rfl).imp λσ H Q ⟨env,G,Qm,Em,p,w,c⟩=>by refine one p w λv G1 H1 x k1 p1 r q=>?_;obtain⟨d,e,q2⟩:=fh q;have e:eY (!gK (v=.non))=eY d:=e;cases e;rw[r.isN];exact c _ G1 H1 _ k1 p1.hp (.bl _) q2
def Ix(ha:PE X a<|tE X i Φ ma):PT X (.Compare a [.Is] [.Constant .none j p2] é) (tTt X i Φ<|.val<|.cmp .is ma<|.cst .non) :=
 (BO (CN ha) rfl).imp λσ H Q ⟨env,G,Qm,Em,p,w,c⟩=>by refine one p w λv G1 H1 x k1 p1 r q=>?_;obtain⟨d,e,q2⟩:=fh q;obtain⟨d',e',q3⟩:=fh q2;cases e';have e:eY (gK (v=.non))=eY d:=e;cases e;rw[r.isN];exact⟨_,rfl,c _ G1 H1 k1 p1.hp q3⟩
def FK(ha:PE X a<|tE X i Φ ma):PT X (.Compare a [.IsNot] [.Constant .none j p2] é) (tTt X i Φ<|.val<|.cmp .isnot ma<|.cst .non) :=
 (BO (UD ha) rfl).imp λσ H Q ⟨env,G,Qm,Em,p,w,c⟩=>by refine one p w λv G1 H1 x k1 p1 r q=>?_;obtain⟨d,e,q2⟩:=fh q;obtain⟨d',e',q3⟩:=fh q2;cases e';have e:eY (!gK (v=.non))=eY d:=e;cases e;rw[r.isN];exact⟨_,rfl,c _ G1 H1 k1 p1.hp q3⟩
end Snd
namespace Snd
open PySem L2 PySem.Spec PyProof.Rows
variable {i:Inf}{X:Cx}{Φ:O.Fs}
def RKs.length{K:Frag}{H:Hp}:∀{kvs:List (O.Val×O.Val)}{ps:List (Key×V)},RKs K H kvs ps->kvs.length=ps.length
 |_,_,.nil=>rfl
 |_,_,.cons _ _ t=>by rw[Ë,Ë,RKs.length t]
def WU{k j:O.Val}{c d:Key}(a:WD k c)(b:WD j d):(k==j)=gK (c=d):=by
 have key:k=j↔c=d:=by
  cases k<;>cases c<;>first|(cases a;done)|skip
  .cases j<;>cases d<;>first|(cases b;done)|skip
   .cases a;cases b;simp
   .cases a;cases b;simp
  .cases j<;>cases d<;>first|(cases b;done)|skip
   .cases a;cases b;simp
   .cases a;cases b;simp[ofS_inj]
 by_cases e:k=j
 .rw[gG<|key.mp e,e];simp
 .rw[gF λz=>e<|key.mpr z];simpa using e
def fx{k:O.Val}{x:V}{K:Frag}{H:Hp}(h:O.fA k=fb)(r:RV K H k x):∃c,WD k c/\x=kV c:=by
 cases k with
 |int n=>cases r.int_inv;exact⟨.inl n,rfl,rfl⟩
 |str s=>cases r.str_inv;exact⟨.inr<|gL s,rfl,rfl⟩
 |_=>cases h
def RKs.look{K:Frag}{H:Hp}{k:O.Val}{c:Key}(a:WD k c):∀{kvs:List (O.Val×O.Val)}{ps:List (Key×V)},RKs K H kvs ps->
  (∀v,O.fG kvs k=eY v->∃x,Yx ps c=eY x/\RV K H v x)/\(O.fG kvs k=eZ->Yx ps c=eZ)
 |_,_,.nil=>⟨λv e=>(by cases e),λ_=>rfl⟩
 |_,_,.cons (k:=j) (v:=u) (c:=d) (x:=y) (kvs:=kvs) (ps:=ps) b r t=>by
  have ih:=RKs.look a t;have q:=WU b a;by_cases e:d=c
  .rw[gG e]at q;have e1:O.fG ((j,u)::kvs) k=eY u:=by simp[O.fG,ě,q]
   rw[e1,Xh e];exact⟨λv z=>(by cases z;exact⟨y,rfl,r⟩),λz=>(by cases z)⟩
  .rw[gF e]at q;have e1:O.fG ((j,u)::kvs) k=O.fG kvs k:=by simp[O.fG,ě,q]
   rw[e1,Y5 e];exact ih
def RKs.has{K:Frag}{H:Hp}{k:O.Val}{c:Key}(a:WD k c):∀{kvs:List (O.Val×O.Val)}{ps:List (Key×V)},RKs K H kvs ps->O.fH kvs k=ps.any λkv=>gK (kv.1=c)
 |_,_,.nil=>rfl
 |_,_,.cons b r t=>by have ih:=RKs.has a t;unfold O.fH at ih ⊢;rw[ļ,ļ,ih,WU b a]
def RKs.app{K:Frag}{H:Hp}{k v:O.Val}{c:Key}{x:V}(a:WD k c)(q:RV K H v x):∀{kvs:List (O.Val×O.Val)}{ps:List (Key×V)},RKs K H kvs ps->RKs K H (kvs++[(k,v)]) (ps++[(c,x)])
 |_,_,.nil=>.cons a q .nil
 |_,_,.cons b r t=>.cons b r<|RKs.app a q t
def RKs.repl{K:Frag}{H:Hp}{k v:O.Val}{c:Key}{x:V}(a:WD k c)(q:RV K H v x):∀{kvs:List (O.Val×O.Val)}{ps:List (Key×V)},RKs K H kvs ps->
  RKs K H (kvs.map λp=>if p.1==k then(k,v)else p) (ps.map λkv=>if kv.1=c then(kv.1,x)else kv)
 |_,_,.nil=>.nil
 |_,_,.cons (k:=j) (v:=u) (c:=d) (x:=y) b r t=>by
  have ih:=RKs.repl a q t;have z:=WU b a;rw[Ï,Ï];by_cases e:d=c
  .rw[gG e]at z;rw[gD z,gD e];exact .cons (e▸a) q ih
  .rw[gF e]at z;rw[gE (by rw[z];decide),gE e];exact .cons b r ih
def RKs.put{K:Frag}{H:Hp}{k v:O.Val}{c:Key}{x:V}(a:WD k c)(q:RV K H v x){kvs:List (O.Val×O.Val)}{ps:List (Key×V)}(r:RKs K H kvs ps):RKs K H (O.fI kvs k v)<|L2.fI ps c x:=by
 unfold O.fI L2.fI;rw[r.has a];by_cases e:(ps.any λkv=>gK (kv.1=c))=fb
 .rw[gD e,gD e];exact r.repl a q
 .rw[gE e,gE e];exact r.app a q
def RKs.drop{K:Frag}{H:Hp}{k:O.Val}{c:Key}(a:WD k c):∀{kvs:List (O.Val×O.Val)}{ps:List (Key×V)},RKs K H kvs ps->RKs K H (O.fJ kvs k) (L2.fJ ps c)
 |_,_,.nil=>.nil
 |_,_,.cons (k:=j) (v:=u) (c:=d) (x:=y) b r t=>by
  have ih:=RKs.drop a t;have z:=WU b a;unfold O.fJ L2.fJ at ih ⊢;rw[į,į];by_cases e:d=c
  .rw[gG e]at z;rw[gE (by rw[z];decide),gE<|by simpa using e];exact ih
  .rw[gF e]at z;rw[gD (by rw[z];rfl),gD<|by simpa using e];exact .cons b r ih
variable {G:O.Hs} {H:Hp} {a:È} {kvs':List (O.Val×O.Val)}
def Ms{kvs:List (O.Val×O.Val)}{ps cU:List (Key×V)}(g:RH i G H)(h:H a=eY (.dK ps))(r:RKs i.K H kvs' cU):fE H (upd H a<|.dK cU)/\RH i (O.upd G a<|.dct kvs') (upd H a<|.dK cU):=by
 have k:fE H<|upd H a<|.dK cU:=fE.put (λxs e=>by rw[h]at e;cases e) λp u e=>by rw[h]at e;cases e
 exact⟨k,g.put k ⟨cU,ff,r.keep k⟩⟩
def RTs.length{K:Frag}{H:Hp}:∀{kvs:List (O.Val×O.Val)}{ps:List (List Key×V)},RTs K H kvs ps->kvs.length=ps.length
 |_,_,.nil=>rfl
 |_,_,.cons _ t=>by rw[Ë,Ë,RTs.length t]
def MI(a b i j:Int):(O.Val.key a b == .key i j)=gK (([.inl a,.inl b]:List Key)=[.inl i,.inl j]):=by
 by_cases e:a=i/\b=j
 .obtain⟨rfl,rfl⟩:=e;rw[gG rfl];simp
 .rw[gF λz=>e<|by simpa using z];exact beq_eq_false_iff_ne.mpr λz=>e (by simpa using z)
def RTs.look{K:Frag}{H:Hp}{i j:Int}:∀{kvs:List (O.Val×O.Val)}{ps:List (List Key×V)},RTs K H kvs ps->
  (∀v,O.fG kvs (.key i j)=eY v->∃x,Yx ps [.inl i,.inl j]=eY x/\RV K H v x)/\(O.fG kvs (.key i j)=eZ->Yx ps [.inl i,.inl j]=eZ)
 |_,_,.nil=>⟨λv e=>(by cases e),λ_=>rfl⟩
 |_,_,.cons (i:=a) (j:=b) (v:=u) (x:=y) (kvs:=kvs) (ps:=ps) r t=>by
  have ih:=RTs.look (i:=i) (j:=j) t;have q:=MI a b i j;by_cases e:([.inl a,.inl b]:List Key)=[.inl i,.inl j]
  .rw[gG e]at q;have e1:O.fG ((.key a b,u)::kvs) (.key i j)=eY u:=by simp[O.fG,ě,q]
   rw[e1,Xh e];exact⟨λv z=>(by cases z;exact⟨y,rfl,r⟩),λz=>(by cases z)⟩
  .rw[gF e]at q;have e1:O.fG ((.key a b,u)::kvs) (.key i j)=O.fG kvs (.key i j):=by simp[O.fG,ě,q]
   rw[e1,Y5 e];exact ih
def RTs.has{K:Frag}{H:Hp}{i j:Int}:∀{kvs:List (O.Val×O.Val)}{ps:List (List Key×V)},RTs K H kvs ps->O.fH kvs (.key i j)=ps.any λkv=>gK (kv.1=[.inl i,.inl j])
 |_,_,.nil=>rfl
 |_,_,.cons (i:=a) (j:=b) r t=>by have ih:=RTs.has (i:=i) (j:=j) t;unfold O.fH at ih ⊢;rw[ļ,ļ,ih,MI a b i j]
def RTs.app{K:Frag}{H:Hp}{v:O.Val}{i j:Int}{x:V}(q:RV K H v x):∀{kvs:List (O.Val×O.Val)}{ps:List (List Key×V)},RTs K H kvs ps->RTs K H (kvs++[(.key i j,v)]) (ps++[([.inl i,.inl j],x)])
 |_,_,.nil=>.cons q .nil
 |_,_,.cons r t=>.cons r<|RTs.app q t
def RTs.repl{K:Frag}{H:Hp}{v:O.Val}{i j:Int}{x:V}(q:RV K H v x):∀{kvs:List (O.Val×O.Val)}{ps:List (List Key×V)},RTs K H kvs ps->
  RTs K H (kvs.map λp=>if p.1 == .key i j then(.key i j,v)else p) (ps.map λkv=>if kv.1=[.inl i,.inl j]then(kv.1,x)else kv)
 |_,_,.nil=>.nil
 |_,_,.cons (i:=a) (j:=b) (v:=u) (x:=y) r t=>by
  have ih:=RTs.repl (i:=i) (j:=j) q t;have z:=MI a b i j;rw[Ï,Ï];by_cases e:([.inl a,.inl b]:List Key)=[.inl i,.inl j]
  .rw[gG e]at z;simp only[z,if_true,e];exact .cons q ih
  .rw[gF e]at z;simp only[z,e,if_false,Į];exact .cons r ih
def RTs.put{K:Frag}{H:Hp}{v:O.Val}{i j:Int}{x:V}(q:RV K H v x){kvs:List (O.Val×O.Val)}{ps:List (List Key×V)}(r:RTs K H kvs ps):RTs K H (O.fI kvs (.key i j) v)<|L2.fI ps [.inl i,.inl j] x:=by
 unfold O.fI L2.fI;rw[r.has];by_cases e:(ps.any λkv=>gK (kv.1=[.inl i,.inl j]))=fb
 .rw[gD e,gD e];exact r.repl q
 .rw[gE e,gE e];exact r.app q
def F7{ps cU:List (List Key×V)}(g:RH i G H)(h:H a=eY (.dT ps))(r:RTs i.K H kvs' cU):fE H (upd H a<|.dT cU)/\RH i (O.upd G a<|.dtp kvs') (upd H a<|.dT cU):=by
 have k:fE H<|upd H a<|.dT cU:=fE.put (λxs e=>by rw[h]at e;cases e) λp u e=>by rw[h]at e;cases e
 exact⟨k,g.put k ⟨cU,ff,r.keep k⟩⟩
def WR{k:O.Val}{x:V}{K:Frag}{H:Hp}(h:O.isKeyT k=fb)(r:RV K H k x):∃a b c,k=.key a b/\x=.ref c/\H c=eY (.tup<|([.inl a,.inl b]:List Key).map kV):=by
 cases k with
 |key a b=>cases r with|key e=>exact⟨a,b,_,rfl,rfl,e⟩
 |_=>cases h
abbrev DZ:R2:=λx y H Q=>∃a v,x=.ref a/\DGet H a y (eY v)/\Q v H
def EF(hu:X.A.units+1<ĩ):IxR X DZ:=by
 intro ρ slice Á s σ H x y v u Q I rx ry h hs;obtain⟨a,z,rfl,g,q⟩:=h;cases rx;have hT:=NB I g;unfold dr;refine À ?_;rw[getitemInPython_of_ne hT.not_modules];refine À<|wpAny_specialOf hT PySem.F.slot_dict_getitem.lookup ?_;have fin:wpAny (Ù X.prog X.w) X.A (subscripted slice fc (.ref a) u) (λr aH=>wpAny (Ù X.prog X.w) X.A (letTemporaryGo ρ (.ref a) r >>= λ_=>pure r) (EP X Á σ Q) X.xe aH) X.xe s:=by rw[hs];exact wpAny_operating<|Ky hu I g ry λw' s' I' aX=>À<|wpAny_letTemporaryGo<|Æ ⟨_,_,I',aX,q⟩
 first
  |exact Æ<|À fin
  |exact À<|Æ<|À fin
  |exact À fin
abbrev ES(b:Bool):R2:=λx y H Q=>∃a o,y=.ref a/\DGet H a x o/\Q (.bl<|b ^^ o.isSome) H
def Iy(hu:X.A.units+1<ĩ):OpR X (ë .In)<|ES fc:=by intro Á s σ H x y v u Q I rx ry h;obtain⟨a,o,rfl,g,q⟩:=h;cases ry;rw[bc]at q;exact R0 hu I g rx λs' I'=>⟨.bl o.isSome,_,I',rfl,q⟩
def HU(hu:X.A.units+1<ĩ):OpR X (ë .NotIn)<|ES fb:=by intro Á s σ H x y v u Q I rx ry h;obtain⟨a,o,rfl,g,q⟩:=h;cases ry;rw[bL]at q;exact Fp hu I g rx λs' I'=>⟨.bl (!o.isSome),_,I',rfl,q⟩
abbrev He:V->V->V->Hp->(Hp->Prop)->Prop:=λo y v H Q=>∃a H',o=.ref a/\DPut H a y v H'/\Q H'
def MU(hu:X.A.units+1<ĩ):PSet X He:=by intro Á s σ H o y v ov iv u Q I ro ri rv h;obtain⟨a,H',rfl,g,q⟩:=h;cases ro;exact U0 hu I g ri rv λs' I'=>⟨H',I',q⟩
def PSet.or{r r':V->V->V->Hp->(Hp->Prop)->Prop}(h:PSet X r)(h':PSet X r'):PSet X λo y v H Q=>r o y v H Q\/r' o y v H Q:=by
 intro Á s σ H o y v ov iv u Q I ro ri rv q;rcases q with q|q
 .exact h Á s σ H o y v ov iv u Q I ro ri rv q
 .exact h' Á s σ H o y v ov iv u Q I ro ri rv q
end Snd
namespace Snd
open PySem L2
variable {i:Inf}{X:Cx}{Φ:O.Fs}
def Mj(n:Nat)(k:Int):O.ixN n k=L2.ixN n k:=rfl
variable {H:Hp} {xs:List O.Val} {vs:List V}
def WW{K:Frag}{k:Int}{v:O.Val}(r:RVs K H xs vs)(e:O.atI xs k=eY v):∃x,L2.atI vs k=eY x/\RV K H v x:=by
 unfold O.atI at e;unfold L2.atI;rw[Mj,r.length]at e;cases z:L2.ixN vs.length k with
 |none=>rw[z]at e;cases e
 |some j =>rw[z]at e;obtain⟨x,h1,h2⟩:=r.get (show xs[j]?=eY v from e);exact⟨x,h1,h2⟩
abbrev P5(i:Inf)(r:R2):Prop:=∀(v u:O.Val) (G:O.Hs) (H:Hp) (x y:V) (w:O.Val) (Q:VK),RH i G H->RV i.K H v x->RV i.K H u y->O.fS G v u=eY w->(∀z,RV i.K H w z->Q z H)->r x y H Q
variable {a:Expr} {ma:O.E} {é:Pos}
def QR{b:Expr}{mb:O.E}{r:R2}(hr:IxR X r)(ho:P5 i r)(ha:PE X a<|tE X i Φ ma)(hb:PE X b<|tE X i Φ mb)(hs:Mh b):PE X (.Subscript a b é) (tE X i Φ<|.idx ma mb) :=
 (PX hr ha hb hs).imp λσ H Q ⟨env,G,Qm,Em,p,w,c⟩=>by
  exact two p w λv u G2 H2 x y k2 p2 rx ry q=>by obtain⟨z,e,q⟩:=fh q;exact ho v u G2 H2 x y z Q p2.hp rx ry e λt rt=>c z G2 H2 t k2 p2.hp rt q
def GG{s:String}{k:Int}{c:Char}(e:O.atI s.toList k=eY c):L2.atI (gL s).cps.toList k=eY c.toNat:=by
 rw[Str.ofString_eq_toList];show L2.atI (List.map Œ s.toList).toArray.toList k=_;unfold O.atI at e;unfold L2.atI;simp only[Ã];rw[Mj]at e;cases z:L2.ixN s.toList.length k with
 |none=>rw[z]at e;cases e
 |some j =>rw[z]at e;have e:s.toList[j]?=eY c:=e;show(List.map Œ s.toList)[j]?=_;rw[Ú,e];rfl
def OW(c:Char):gL (ab c)=⟨#[c.toNat]⟩:=by rw[Str.ofString_eq_toList];simp
abbrev RD(K:Frag):R2:=λx y H Q=>rIx K x y H Q\/DZ x y H Q
def PK:P5 i<|RD i.K:=by
 intro v u G H x y w Q g rx ry e q;cases v with
 |tup xs =>
  cases u with
  |int k =>
   cases rx with
   |tup hp hr =>obtain⟨z,h1,h2⟩:=WW hr (show O.atI xs k=eY w from e);exact .inl<|.inr<|.inl ⟨_,_,k,z,rfl,ry.int_inv,Zi hp,h1,q z h2⟩
  |_=>cases e
 |str s =>
  cases u with
  |int k =>
   simp only[O.fS]at e;split at e
   .rename_i hl;cases z:O.atI s.toList k with
    |none=>rw[z]at e;cases e
    |some c =>rw[z]at e;cases e;refine .inl (.inr<|.inr ⟨_,k,_,rx.str_inv,ry.int_inv,by rw[Zu];exact ß hl ZM,GG z,?_⟩);have:=q _<|.str<|ab c;rw[OW]at this;exact this
   .cases e
  |_=>cases e
 |ref a =>
  cases rx.ref_inv
  replace e:(match G a with|some (.lst xs)=>(O.gx u).bind (O.atI xs)|some (.dct kvs)=>if O.fA u then O.fG kvs u else eZ|some (.frz kvs)=>if O.fA u then O.fG kvs u else eZ|some (.dtp kvs)=>if O.isKeyT u then O.fG kvs u else eZ|_=>eZ)=eY w:=e
  cases z:G a with
  |none=>rw[z]at e;cases e
  |some o =>
   rw[z]at e;cases o with
   |lst xs =>obtain⟨k,hk,e⟩:=ì.mp e;cases ZA hk;obtain⟨vs,h1,h2⟩:=g a _ z;obtain⟨t,h3,h4⟩:=WW h2 e;exact .inl<|.inl ⟨a,vs,k,t,rfl,ry.int_inv,gm.of h1,h3,q t h4⟩
   |dct kvs =>obtain⟨hk,e⟩:=Zn (show(if O.fA u then O.fG kvs u else eZ)=eY w from e);obtain⟨ps,h1,h2⟩:=g a _ z;obtain⟨d,kr,rfl⟩:=fx hk ry;obtain⟨t,hx,rv⟩:=(h2.look kr).1 w e;exact .inr ⟨a,t,rfl,by rw[<-hx];exact DGet.k h1,q t rv⟩
   |frz kvs =>obtain⟨hk,e⟩:=Zn (show(if O.fA u then O.fG kvs u else eZ)=eY w from e);obtain⟨ob,ps,h1,h2⟩:=g a _ z;obtain⟨d,kr,rfl⟩:=fx hk ry;obtain⟨t,hx,rv⟩:=(h2.look kr).1 w e;exact .inr ⟨a,t,rfl,.inl ⟨ps,d,.inr ⟨ob,h1⟩,rfl,hx.symm⟩,q t rv⟩
   |dtp kvs =>obtain⟨hk,e⟩:=Zn (show(if O.isKeyT u then O.fG kvs u else eZ)=eY w from e);obtain⟨ps,h1,h2⟩:=g a _ z;obtain⟨k1,k2,b,rfl,rfl,hb⟩:=WR hk ry;obtain⟨t,hx,rv⟩:=(h2.look).1 w e;exact .inr ⟨a,t,rfl,by rw[<-hx];exact DGet.t h1 hb,q t rv⟩
   |_=>cases e
 |scr ns =>
  cases u with
  |int k =>
   cases rx with
   |scr h =>obtain⟨t,h3,h4⟩:=WW (RVs.ints ns) (show O.atI (ns.map .int) k=eY w from e);exact .inl<|.inl ⟨_,_,k,t,rfl,ry.int_inv,Z8 h,h3,q t h4⟩
  |_=>cases e
 |_=>cases e
abbrev tOx(X:Cx)(i:Inf)(Φ:O.Fs)(m:O.Oe):TO:=λσ H Q=>∃env G Qm Em,Pre X i σ H env G Em/\O.wO Φ m env G Qm Em/\∀k G' H',fE H H'->RH i G' H'->Qm k G'->Q k H'
def _root_.L2.PO.imp{e:Option Expr}{t t':TO}(h:PO X e t)(f:∀σ H Q,t' σ H Q->t σ H Q):PO X e t':=λÁ s σ H Q I q=>h Á s σ H Q I (f σ H Q q)
def Ez:PO X eZ<|tOx X i Φ .none:=po_none.imp λσ H Q ⟨env,G,Qm,Em,p,w,c⟩=>by exact c eZ G H (fE.refl H) p.hp w
def FA{e:Expr}{m:O.E}(he:PE X e<|tE X i Φ m):PO X (eY e)<|tOx X i Φ<|.some m:=(FM he).imp λσ H Q ⟨env,G,Qm,Em,p,w,c⟩=>by
 exact one p w λv G1 H1 x k1 p1 r q=>by obtain⟨b,e,q2⟩:=fh q;cases ZA e;exact⟨b,r.int_inv,c _ G1 H1 k1 p1.hp q2⟩
def OM{K:Frag}(r:RVs K H xs vs)(lo hi:Option Int):RVs K H (O.cut xs lo hi)<|KZ vs lo hi:=by
 have e:∀(n d:Nat) (o:Option Int),O.fP n d o=HT.sIx n d o:=by
  intro n d o;cases o with
  |none=>rfl
  |some k =>
   show(if 0<=k then min k.toNat n else(k+n).toNat)=(if k<0 then(k+(n:Int)).toNat else min k.toNat n)
   by_cases h:k<0
   .rw[gD h,gE<|by lia]
   .rw[gE h,gD<|by lia]
 unfold O.cut KZ;rw[e,e,r.length];exact(r.drop _).take _
abbrev QQ(i:Inf)(r:V->Option Int->Option Int->Hp->VK->Prop):Prop:=∀(v:O.Val) (lo hi:Option Int) (G:O.Hs) (H:Hp) (x:V) (Q:VK) (Qm:O.Q1),RH i G H->RV i.K H v x->(O.fT G v lo hi).wp G Qm->Cn i H Q Qm->r x lo hi H Q
def Qq{lo hi:Option Expr}{ml mh:O.Oe}{r:V->Option Int->Option Int->Hp->VK->Prop}{p2:Pos}(hr:SlR X r)(ho:QQ i r)(ha:PE X a<|tE X i Φ ma)(hl:PO X lo<|tOx X i Φ ml)(hh:PO X hi<|tOx X i Φ mh):PE X (.Subscript a (.Slice lo hi eZ p2) é) (tE X i Φ<|.slc ma ml mh) :=
 (DT hr ha hl hh).imp λσ H Q ⟨env,G,Qm,Em,p,w,c⟩=>by
  exact⟨env,G,_,Em,p,w,λv G1 H1 x k1 g1 r1 w1=>⟨env,G1,_,Em,p.go k1 g1,w1,λl G2 H2 k2 g2 w2=>⟨env,G2,_,Em,(p.go k1 g1).go k2 g2,w2,λu G3 H3 k3 g3 w3 =>
    ho v l u G3 H3 x Q Qm g3 ((r1.keep k2).keep k3) w3 (((c.go k1).go k2).go k3)⟩⟩⟩
abbrev PZ(K:Frag):V->Option Int->Option Int->Hp->VK->Prop:=λx lo hi H Q=>QK K x lo hi H Q\/Ra K x lo hi H Q\/P6 x lo hi H Q\/PQ K x lo hi H Q
def Rt:SlR X<|PZ X.K:=sl_list.or (fZ.or<|sl_str.or EL)
def X7(n d:Nat)(o:Option Int):O.fP n d o=HT.sIx n d o:=by
 cases o with
 |none=>rfl
 |some k =>
  show(if 0<=k then min k.toNat n else(k+n).toNat)=(if k<0 then(k+(n:Int)).toNat else min k.toNat n)
  by_cases h:k<0
  .rw[gD h,gE<|by lia]
  .rw[gE h,gD<|by lia]
def Nn(n d:Nat)(h:d<=n)(o:Option Int):O.fP n d o<=n:=by
 cases o with
 |none=>exact h
 |some k =>show(if 0<=k then min k.toNat n else(k+n).toNat)<=n;split<;>lia
def clip_eq(n d:Nat)(h:d<=n)(o:Option Int):(match o with
    |none=>(d:Int)
    | some i=>max 0<|min (if i<0 then i+(n:Int)else i) (n:Int))=(O.fP n d o:Int):=by
 cases o with
 |none=>rfl
 |some k =>
  show _=(((if 0<=k then min k.toNat n else(k+n).toNat):Nat):Int)
  by_cases hk:k<0
  .rw[gE<|show ¬ 0<=k by lia];simp only[hk,if_true];lia
  .rw[gD<|show 0<=k by lia];simp only[hk,if_false];lia
def ID(n:Nat)(lo hi:Option Int):PySem.Builtin.Str.strSliceIndices lo hi 1 n=(List.range<|O.fP n n hi - O.fP n 0 lo).map λk=>O.fP n 0 lo+k:=by
 have e1:=clip_eq n 0 (ğ _) lo;have e2:=clip_eq n n (Ì _) hi;have e3:PySem.Builtin.Str.strSliceIndices lo hi 1 n=sliceRange (O.fP n 0 lo:Int) (O.fP n n hi:Int) 1:=by unfold PySem.Builtin.Str.strSliceIndices;rw[<-e1,<-e2];cases lo<;>cases hi<;>rfl
 rw[e3];unfold sliceRange;have e4:(if(1:Int) > 0 then(if(O.fP n 0 lo:Int)<(O.fP n n hi:Int)then((O.fP n n hi:Int) - (O.fP n 0 lo:Int)+1 - 1) / 1 else 0)else(if(O.fP n 0 lo:Int) > (O.fP n n hi:Int)then((O.fP n 0 lo:Int) - (O.fP n n hi:Int) - 1 - 1) / (-1)else 0)).toNat=O.fP n n hi - O.fP n 0 lo:=by rw[gD (by decide),Int.ediv_one];split<;>lia
 show(List.range<|Int.toNat<|if(1:Int) > 0 then _ else _).map _=_;rw[e4];refine ħ λk _=>?_;lia
def Ej(s:String)(lo hi:Option Int):Ay (gL s) lo hi=gL (Η<|O.cut s.toList lo hi):=by
 have hl:(gL s).length=s.toList.length:=by rw[Zu,ce]
 have ha:=Nn s.toList.length 0 (ğ _) lo;have hb:=Nn s.toList.length s.toList.length (Ì _) hi;have e:=ID s.toList.length lo hi;rw[<-hl]at e;unfold Ay;rw[e];simp only[hl];have ec:(gL s).cps.toList=s.toList.map Œ:=by rw[Str.ofString_eq_toList]
 split
 .rename_i z;rw[Ã,Ŝ]at z;have e0:O.fP s.toList.length 0 lo=0\/s.toList.length=0:=by lia
  have e5:O.cut s.toList lo hi=s.toList:=by
   unfold O.cut;rw[z];rcases e0 with e0|e0
   .rw[e0,bd,ø]
   .have:s.toList=[]:=Ŏ.mp e0;rw[this];simp
  rw[e5,String.ofList_toList]
 .rw[Str.ofString_eq_toList<|Η _,cf];congr 2;have e3:(λi:Nat=>(gL s).cps[i]?)=λi:Nat=>(s.toList.map Œ)[i]?:=by
   funext i;rw[<-ec];simp
  rw[e3];by_cases hab:O.fP s.toList.length 0 lo<=O.fP s.toList.length s.toList.length hi
  .rw[PySem.StrLaws.picks _ _ _<|by rw[Ã];lia];unfold O.cut;rw[bM,List.map_drop]
  .have:O.fP s.toList.length s.toList.length hi - O.fP s.toList.length 0 lo=0:=by lia
   unfold O.cut;rw[this];simp
def QD:QQ i<|PZ i.K:=by
 intro v lo hi G H x Q Qm g r w c;cases v with
 |tup xs =>
  simp only[O.fT]at w;split at w
  .rename_i hn;rw[O.Rs.wp_val]at w;cases r with
   |@tup _ a vs hp hr=>exact .inr (.inr<|.inr ⟨a,vs,rfl,Zi hp,by rw[<-X7,<-X7,<-hr.length];exact hn,c _ G H _ (fE.refl H) g (.tup hp hr) w⟩)
  .rename_i hn;rw[O.Rs.wp_val]at w;cases r with
   |@tup _ a vs hp hr =>refine .inr (.inl ⟨a,vs,rfl,Zi hp,by rw[<-X7,<-X7,<-hr.length];exact hn,λp hp'=>?_⟩);have k:=fE.new (o:=.tup<|KZ vs lo hi) hp';refine c _ G _ _ k (g.hid k λb o e=>fe ?_) (.tup (.inl ff)<|OM (hr.keep k) lo hi) w;rintro rfl;rw[g.free hp']at e;cases e
 |ref a =>
  cases r.ref_inv;simp only[O.fT]at w;cases z:O.fv (G a)with
  |none=>rw[z]at w;simp at w
  |some xs =>rw[z]at w;rw[O.Rs.wp_new]at w;obtain⟨vs,h1,h2⟩:=ZK g z;exact .inl ⟨a,vs,rfl,h1,ZX g w c λp hp=>⟨_,ff,OM (h2.keep<|fE.new hp) lo hi⟩⟩
 |scr ns =>
  simp only[O.fT,O.Rs.wp_new]at w;cases r with
  |scr h=>exact .inl ⟨_,_,rfl,Z8 h,ZX g w c λp hp=>⟨_,ff,OM (RVs.ints ns) lo hi⟩⟩
 |str s =>
  cases r.str_inv;simp only[O.fT]at w;split at w
  .rename_i hl;rw[O.Rs.wp_val]at w;refine .inr (.inr <| .inl ⟨_,rfl,by rw[Zu];exact ß hl (by decide),?_⟩);rw[Ej];exact c _ G H _ (fE.refl H) g (.str _) w
  .simp at w
 |_=>simp[O.fT]at w
variable {H:Hp} {vs:List O.Val} {xs:List V} {x:V}
def RVs.app1{K:Frag}{v:O.Val}(r:RVs K H vs xs)(q:RV K H v x):RVs K H (vs++[v])<|xs++[x]:=r.append (.cons q .nil)
variable {es:List Expr} {ms:O.Es} {n:Nat} {é:Pos}
def QY{k:Nat}(hn:n<=1000)(h:PA X es<|tAr X i Φ ms n):PE X (.Tuple es k é) (tE X i Φ<|.tup ms) :=
 (Le h).imp λσ H Q ⟨env,G,Qm,Em,p,w,c⟩=>by refine⟨env,G,_,Em,p,w,λvs G1 H1 xs k1 g1 r1 hl w1=>⟨by rw[hl];exact ß hn (by decide),λa ha=>?_⟩⟩;have k:=fE.new (o:=.tup xs) ha;refine c _ G1 _ _ (k1.trans k) (g1.hid k λb o e=>fe ?_) (.tup (.inl ff)<|r1.keep k) w1;rintro rfl;rw[g1.free ha]at e;cases e
def PL(hn:n<=1000)(h:PA X es<|tAr X i Φ ms n):PE X (.List es é) (tE X i Φ<|.lst ms) :=
 (HC h).imp λσ H Q ⟨env,G,Qm,Em,p,w,c⟩=>by refine⟨env,G,_,Em,p,w,λvs G1 H1 xs k1 g1 r1 hl w1=>⟨by rw[hl];exact ß hn (by decide),ZX g1 w1 (c.go k1) λa ha=>?_⟩⟩;exact⟨xs,ff,r1.keep<|fE.new ha⟩
abbrev gh(i:Inf)(f:O.Bi)(r:List V->Hp->VK->Prop):Prop:=∀(vs:List O.Val) (G:O.Hs) (H:Hp) (xs:List V) (Q:VK) (Qm:O.Q1),RH i G H->RVs i.K H vs xs->(O.biV G f vs).wp G Qm->Cn i H Q Qm->r xs H Q
variable {f:O.Bi} {r:List V->Hp->VK->Prop}
def X4(hr:gh i f r):∀σ H Q,tE X i Φ (.bi f ms) σ H Q->tCB r (tAr X i Φ ms n) σ H Q:=λσ H Q ⟨env,G,Qm,Em,p,w,c⟩=>by exact⟨env,G,_,Em,p,w,λvs G1 H1 xs k1 g1 r1 _ w1=>hr vs G1 H1 xs Q Qm g1 r1 w1<|c.go k1⟩
def RVs.inv1{K:Frag}{v:O.Val}(r:RVs K H [v] xs):∃x,xs=[x]/\RV K H v x:=by cases r with|cons a t=>cases t;exact⟨_,rfl,a⟩
def RVs.inv2{K:Frag}{v u:O.Val}(r:RVs K H [v,u] xs):∃x y,xs=[x,y]/\RV K H v x/\RV K H u y:=by cases r with|cons a t=>cases t with|cons b t=>cases t;exact⟨_,_,rfl,a,b⟩
def KH(s:String):(gL s).cps.toList=s.toList.map Œ:=by rw[Str.ofString_eq_toList]
def O8:∀(l:List Char) (a:Nat),(l.map Œ).foldl (λģ c=>ģ*10+(c - 48)) a=l.foldl (λa c=>10*a+(c.toNat - 48)) a
 |[],_=>rfl
 |c::l,a=>by rw[Ï,ĵ,ĵ,O8 l,cD a 10]
def F0{s:String}(h1:s.toList≠[])(h2:s.toList.all O.figB=fb)(h3:s.length<=640):PySem.intText? (gL s)=eY ((O.decN s.toList:Nat):Int):=by
 have hc:=KH s;rw[intText_digits (x:=gL s)]
 .rw[hc];unfold NumText.digitsVal O.decN;rw[O8]
 .rw[hc];intro c hm;obtain⟨d,hd,rfl⟩:=Ü.mp hm;have:=ó.mp h2 d hd;unfold O.figB at this;simpa using this
 .rw[hc];simpa using h1
 .rw[Zu];lia
variable {h:O.Hs} {Q:O.Q1}
def XF{f:O.Val->O.Rs}(w:(O.fw f vs).wp h Q):∃v,vs=[v]/\(f v).wp h Q:=by
 cases vs with
 |nil=>exact(Zf w).elim
 |cons v vs=>cases vs with
  |nil=>exact⟨v,rfl,w⟩
  |cons _ _=>exact(Zf w).elim
def DE{f:O.Val->O.Val->O.Rs}(w:(O.biOf2 f vs).wp h Q):∃v u,vs=[v,u]/\(f v u).wp h Q:=by
 cases vs with
 |nil=>exact(Zf w).elim
 |cons v vs=>cases vs with
  |nil=>exact(Zf w).elim
  |cons u us=>cases us with
   |nil=>exact⟨v,u,rfl,w⟩
   |cons _ _=>exact(Zf w).elim
def gh.imp{r':List V->Hp->VK->Prop}(h:gh i f r)(k:∀xs H Q,r xs H Q->r' xs H Q):gh i f r':=λvs G H xs Q Qm g rv w c=>k _ _ _ (h vs G H xs Q Qm g rv w c)
def LF:gh i .int λxs H Q=>((∃i,xs=[.int i]/\Q (.int i) H)\/∃k,xs=[.bl k]/\Q (.int<|if k then 1 else 0) H)\/∃z n,xs=[.str z]/\PySem.intText? z=eY n/\z.length<=640/\Q (.int n) H:=by
 intro vs G H xs Q Qm g r w c;obtain⟨v,rfl,w⟩:=XF w;obtain⟨x,rfl,rx⟩:=r.inv1;cases v with
 |int k=>cases rx.int_inv;exact .inl<|.inl ⟨k,rfl,c _ G H _ (fE.refl H) g (.int _)<|Zm w⟩
 |bl k=>cases rx.bl_inv;exact .inl<|.inr ⟨k,rfl,c _ G H _ (fE.refl H) g (.int _)<|Zm w⟩
 |str s =>cases rx.str_inv;obtain⟨hl,w⟩:=X5 w;exact .inr ⟨_,_,rfl,F0 hl.2.1 hl.2.2 hl.1,by rw[Zu];exact hl.1,c _ G H _ (fE.refl H) g (.int _)<|Zm w⟩
 |_=>exact(Zf w).elim
def Fz:gh i .max2 λxs H Q=>∃i j,xs=[.int i,.int j]/\Q (.int<|if j > i then j else i) H:=by intro vs G H xs Q Qm g r w c;obtain⟨v,u,rfl,w⟩:=DE w;obtain⟨a,b,rfl,rfl,w⟩:=Xk w;obtain⟨x,y,rfl,rx,ry⟩:=r.inv2;cases rx.int_inv;cases ry.int_inv;exact⟨a,b,rfl,c _ G H _ (fE.refl H) g (.int _)<|Zm w⟩
def FV:gh i .min2 λxs H Q=>∃i j,xs=[.int i,.int j]/\Q (.int<|if j<i then j else i) H:=by intro vs G H xs Q Qm g r w c;obtain⟨v,u,rfl,w⟩:=DE w;obtain⟨a,b,rfl,rfl,w⟩:=Xk w;obtain⟨x,y,rfl,rx,ry⟩:=r.inv2;cases rx.int_inv;cases ry.int_inv;exact⟨a,b,rfl,c _ G H _ (fE.refl H) g (.int _)<|Zm w⟩
abbrev PD(o:Option O.Ob)(f:List O.Val->O.Rs):O.Rs:=match o with
 |some (.lst xs)=>f xs
 |_=>.no
variable {o:Option O.Ob}
def Nb{f:List O.Val->O.Rs}(w:(PD o f).wp h Q):∃xs,o=eY (.lst xs)/\(f xs).wp h Q:=by
 cases o with
 |none=>exact(Zf w).elim
 |some o=>cases o with
  |lst xs=>exact⟨xs,rfl,w⟩
  |_=>exact(Zf w).elim
variable {G:O.Hs}
def E2{Q:VK}{Qm:O.Q1}{ys:List O.Val}{us:List V}(g:RH i G H)(r:RVs i.K H ys us)(w:Qm (.tup ys) G)(c:Cn i H Q Qm):∀l,H l=eZ->Q (.ref l) (upd H l<|.tup us):=λl hl=>by have k:=fE.new (o:=.tup us) hl;refine c _ G _ _ k (g.hid k λb o e=>fe ?_) (.tup (.inl ff)<|r.keep k) w;rintro rfl;rw[g.free hl]at e;cases e
def Dm:gh i .tuple λxs H Q=>∃p ys,xs=[.ref p]/\((gm i.K H p ys/\∀l,H l=eZ->Q (.ref l) (upd H l<|.tup ys))\/(gp i.K H p ys/\Q (.ref p) H)):=by
 intro vs G H xs Q Qm g r w c;obtain⟨v,rfl,w⟩:=XF w;obtain⟨x,rfl,rx⟩:=r.inv1;cases v with
 |ref a =>cases rx.ref_inv;obtain⟨ys,e,w⟩:=Nb (f:=λxs=>.val<|.tup xs) w;obtain⟨us,h1,h2⟩:=g a _ e;exact⟨a,us,rfl,.inl ⟨gm.of h1,E2 g h2 (Zm w) c⟩⟩
 |tup ys =>
  cases rx with
  |tup hp hr=>exact⟨_,_,rfl,.inr ⟨Zi hp,c _ G H _ (fE.refl H) g (.tup hp hr)<|Zm w⟩⟩
 |_=>exact(Zf w).elim
abbrev kinds:List String:=["int","bool","str","list","tuple","dict"]
def FC(K:Frag):∀t∈["NoneType","bool","int","str","tuple","list","dict"],∀T∈kinds,PySem.W.kitOne K (.type t) (.type T)=eY (t==T||(t == "bool" && T == "int")):=by intro t ht T hT;simp only[kinds,Ç,Ø,or_false]at ht hT;rcases ht with rfl|rfl|rfl|rfl|rfl|rfl|rfl<;>rcases hT with rfl|rfl|rfl|rfl|rfl|rfl<;>rfl
def Am(g:RH i G H){v:O.Val}{t:String}(r:RV i.K H v x)(e:O.gA G v=eY t):TyV i.K H x (.type t)/\t∈["NoneType","bool","int","str","tuple","list","dict"]:=by
 cases v with
 |non=>cases r;cases e;exact⟨.of .non,by simp⟩
 |bl b=>cases r;cases e;exact⟨.of<|.bl b,by simp⟩
 |int b=>cases r;cases e;exact⟨.of<|.int b,by simp⟩
 |str b=>cases r;cases e;exact⟨.of<|.str _,by simp⟩
 |tup xs=>cases e;cases r with|tup hp hr=>exact⟨.tup<|Zi hp,by simp⟩
 |scr ns=>cases e;cases r with|scr h=>exact⟨.lst<|Z8 h,by simp⟩
 |ref a =>
  cases r.ref_inv;simp only[O.gA]at e;cases q:G a with
  |none=>rw[q]at e;cases e
  |some o =>
   rw[q]at e;cases o with
   |lst xs=>cases e;obtain⟨vs,h1,_⟩:=g a _ q;exact⟨.lst<|gm.of h1,by simp⟩
   |dct kvs=>cases e;obtain⟨ps,h1,_⟩:=g a _ q;exact⟨.of<|.dK h1,by simp⟩
   |ins C fs=>cases e
   |exc C=>cases e
   |frz _=>cases e
   |dtp _=>cases e
 |key _ _=>cases e
def QE{e:Expr}{m:O.E}{T:String}{p p2:Pos}(hT:T∈kinds)(he:PE X e<|tE X i Φ m)(hk:X.K=i.K)(hg:Gl X "isinstance")(hm:X.mg "isinstance" = eZ)(hg2:Gl X<|gL T)(hm2:X.mg (gL T)=eZ)
  (hv2:ũ (gL T)=eY (.type T)) (hn2:gL T≠"__name__") (bQ:(gL T==("__debug__" : Str))=fc) (ι:Ô [e,.Name (gL T) p2] X.env=(fc,eval e X.env)::Ô [.Name (gL T) p2] X.env) :
  PE X (.Call (.Name "isinstance" p) [e,.Name (gL T) p2] [] é) (tE X i Φ<|.bi (.isi [T])<|.cons m .nil):=by
 refine(Z4 BZ hg hm (by kernel_rfl) (ZJ he (ZJ (PM (T:=T) hg2 hm2 hv2 hn2 bQ) gj) ι) (he:=ι)).imp λσ H Q ⟨env,G,Qm,Em,p,w,c⟩=>?_;refine one p w λv G1 H1 x k1 p1 r q=>?_
 replace q:(O.Rs.ofO (((O.gB G1 v T).bind λb=>(O.isiAny G1 v []).map (b || ·)).map .bl)).wp G1 Qm:=q
 simp only[O.isiAny,O.gB]at q;cases z:O.gA G1 v with
 |none=>rw[z]at q;simp[O.Rs.ofO]at q
 |some t =>rw[z]at q;simp only[œ,è,O.Rs.ofO,O.Rs.wp_val,Ϫ]at q;obtain⟨h1,h2⟩:=Am p1.hp r z;refine⟨x,T,.type t,_,rfl,by rw[hk];exact h1,by rw[hk];exact FC _ t h2 T hT,c _ G1 H1 _ k1 p1.hp (.bl _) q⟩
def OF(h:O.isLst o=fb):∃xs,o=eY (.lst xs):=by
 cases o with
 |none=>cases h
 |some o=>cases o with
  |lst xs=>exact⟨xs,rfl⟩
  |_=>cases h
variable {a:È}
def BW{f:O.Ad->List O.Val->Option (O.Val×O.Hs)}{t:O.Val×O.Hs}(e:O.bmL G (.ref a) f=eY t):∃xs,G a=eY (.lst xs)/\f a xs=eY t:=by obtain⟨xs,h1,h2⟩:=ì.mp (show(O.fv<|G a).bind (f a)=eY t from e);exact⟨xs,U9 h1,h2⟩
def Mq{xs:List O.Val}{vs:List V}(g:RH i G H)(h:H a=eY (.lst vs))(ys:List O.Val)(us:List V)(r:RVs i.K H ys us):fE H (upd H a<|.lst us)/\RH i (O.upd G a<|.lst ys) (upd H a<|.lst us):=by
 have k:fE H<|upd H a<|.lst us:=fE.put (λxs e=>by rw[h]at e;cases e) λp u e=>by rw[h]at e;cases e
 exact⟨k,g.put k ⟨us,ff,r.keep k⟩⟩
abbrev spF(i:Inf)(P:O.Pg)(n:Nat)(f:String):Sp:=λvs H Q E=>∃args G Qm Em,RVs i.K H args vs/\RH i G H/\O.wF P n f args G Qm Em/\Cn i H Q Qm/\∀cls d H',XK1 i H Em cls d H'->E cls d H'
abbrev Dfo(pr:â)(w:ô)(mg:Str->Option Â)(base:ă)(i:Inf)(P:O.Pg)(n:Nat)(f:String):Prop :=
 ∃fa fd ps,fM pr w i.K mg base (CX1 pr w) (2*n) fa fd ps (spF i P n f)/\mg (gL f)=eY (.ref fa)/\PySem.W.keepIn i.K (.ref fa)=fb/\Binds i.K fd ps []
variable {e:Expr} {es:List Expr} {é:Pos}
def HM{P:O.Pg}{n k:Nat}{f:String}{ms:O.Es}{p:Pos}(hK:X.K=i.K)(D:Dfo X.prog X.w X.mg X.base i P n f)(hr:fL (2*n) X.A)(hg:Gl X<|gL f)(cQ:(gL f==("__debug__" : Str))=fc)
  (ha:PA X (e::es)<|tAr X i (O.wF P n) ms k) (he:Ô (e::es) X.env=(fc,eval e X.env)::Ô es X.env) (hpl:(Ħ é<|Ô es X.env).any (·.1)=fc) :
  PE X (.Call (.Name (gL f) p) (e::es) [] é) (tE X i (O.wF P n)<|.call f ms):=by
 obtain⟨fa,fd,ps,F,hm,hk,hb⟩:=D;rw[<-hK]at F hk hb;intro Á s σ H Q I h;obtain⟨env,G,Qm,Em,pr,w,c⟩:=h;refine E9 (E:=XK1 i H Em) F hr hg hm hk hb .nil (XW.passes pr.xo) ha cQ he hpl Á s σ H Q I ⟨env,G,_,Em,pr,w,λvs G1 H1 xs k1 g1 r1 hl w1=>?_⟩;exact⟨vs,G1,Qm,Em,by rw[ċ];exact r1,g1,w1,c.go k1,λcls d H' h=>h.go k1⟩
abbrev XKS(i:Inf)(H:Hp)(Xe:O.EQ):XK:=λcls _ H'=>∃e c G' ad,cls=.ref ad/\i.xc c ad/\fE H H'/\RH i G' H'/\Xe e c G'
structure PreS(X:Cx)(i:Inf)(σ:St)(H:Hp)(env:O.Env)(G:O.Hs)(Xe:O.EQ):Prop where
 en:REn i.K H env σ
 hp:RH i G H
 xo:XW X<|XKS i H Xe
variable {σ:St} {H:Hp} {H1:Hp} {G:O.Hs} {Xe:O.EQ}
def PreS.go{σ1:St}{env env1:O.Env}{G1:O.Hs}(p:PreS X i σ H env G Xe)(k:fE H H1)(r:RH i G1 H1)(e:REn i.K H1 env1 σ1):PreS X i σ1 H1 env1 G1 Xe :=
 ⟨e,r,λÁ σ H0 s H' a cls s' I f ⟨e,c,G',ad,q1,q2,q3,q4⟩=>p.xo Á σ H0 s H' a cls s' I f ⟨e,c,G',ad,q1,q2,k.trans q3,q4⟩⟩
def PreS.pre{env:O.Env}(p:PreS X i σ H env G Xe):Pre X i σ H env G (Xe env) :=
 ⟨p.en,p.hp,λÁ σ H0 s H' a cls s' I f ⟨c,G',ad,q1,q2,q3,q4⟩=>p.xo Á σ H0 s H' a cls s' I f ⟨env,c,G',ad,q1,q2,q3,q4⟩⟩
structure EOk(i:Inf)(H:Hp)(D:Ends)(N:O.NQ)(R:O.Q1)(B C:O.NQ):Prop where
 nx:∀Ņ ŏ G' H',fE H H'->RH i G' H'->REn i.K H' Ņ ŏ->N Ņ G'->D.nx ŏ H'
 rt:∀v G' H' x,fE H H'->RH i G' H'->RV i.K H' v x->R v G'->D.rt x H'
 bk:∀Ņ ŏ G' H',fE H H'->RH i G' H'->REn i.K H' Ņ ŏ->B Ņ G'->D.bk ŏ H'
 ct:∀Ņ ŏ G' H',fE H H'->RH i G' H'->REn i.K H' Ņ ŏ->C Ņ G'->D.ct ŏ H'
def EOk.go{D:Ends}{N:O.NQ}{R:O.Q1}{B C:O.NQ}(e:EOk i H D N R B C)(k:fE H H1):EOk i H1 D N R B C :=
 ⟨λa b c d k'=>e.nx a b c d<|k.trans k',λa b c d k'=>e.rt a b c d<|k.trans k',λa b c d k'=>e.bk a b c d<|k.trans k',λa b c d k'=>e.ct a b c d<|k.trans k'⟩
inductive tStx (X:Cx) (i:Inf) (Φ:O.Fs) (m:O.S) (D:Ends) (σ:St) (H:Hp):Prop
 |mk (env:O.Env) (G:O.Hs) (N:O.NQ) (R:O.Q1) (B C:O.NQ) (Xe:O.EQ) (p:PreS X i σ H env G Xe) (w:O.wS Φ m env G N R B C Xe) (e:EOk i H D N R B C)
abbrev tSt(X:Cx)(i:Inf)(Φ:O.Fs)(m:O.S):TS:=tStx X i Φ m
inductive tBlx (X:Cx) (i:Inf) (Φ:O.Fs) (m:O.Ss) (D:Ends) (σ:St) (H:Hp):Prop
 |mk (env:O.Env) (G:O.Hs) (N:O.NQ) (R:O.Q1) (B C:O.NQ) (Xe:O.EQ) (p:PreS X i σ H env G Xe) (w:O.wSs Φ m env G N R B C Xe) (e:EOk i H D N R B C)
abbrev tBl(X:Cx)(i:Inf)(Φ:O.Fs)(m:O.Ss):TS:=tBlx X i Φ m
variable {st:ŀ} {t':TS}
def _root_.L2.PS.imp{t:TS}(h:PS X st t)(f:∀D σ H,t' D σ H->t D σ H):PS X st t':=λÁ s σ H D I q=>h Á s σ H D I (f D σ H q)
def _root_.L2.PSs.imp{st:List ŀ}{t:TS}(h:PSs X st t)(f:∀D σ H,t' D σ H->t D σ H):PSs X st t':=λÁ s σ H D I q=>h Á s σ H D I (f D σ H q)
def IW:PSs X []<|tBl X i Φ .nil:=pss_nil.imp λD σ H ⟨env,G,N,R,B,C,Xe,p,w,c⟩=>by exact c.nx env σ G H (fE.refl H) p.hp p.en w
def Ei{sts:List ŀ}{m:O.S}{ms:O.Ss}(h1:PS X st<|tSt X i Φ m)(h2:PSs X sts<|tBl X i Φ ms):PSs X (st::sts) (tBl X i Φ<|.cons m ms) :=
 (B7 h1 h2).imp λD σ H ⟨env,G,N,R,B,C,Xe,p,w,c⟩=>by exact⟨env,G,_,R,B,C,Xe,p,w,⟨λŅ ŏ G' H' k g e w'=>⟨Ņ,G',N,R,B,C,Xe,p.go k g e,w',c.go k⟩,c.rt,c.bk,c.ct⟩⟩
variable {m:O.E}
def Ip(he:PE X e<|tE X i Φ m):PS X (.Return (eY e) é) (tSt X i Φ<|.ret m) :=
 (Pa he).imp λD σ H ⟨env,G,N,R,B,C,Xe,p,w,c⟩=>by exact⟨env,G,R,Xe env,p.pre,w,c.rt⟩
def EZ:PS X (.Return eZ é) (tSt X i Φ .retN) :=
 ps_retN.imp λD σ H ⟨env,G,N,R,B,C,Xe,p,w,c⟩=>by exact c.rt _ G H _ (fE.refl H) p.hp .non w
def Fe(he:PE X e<|tE X i Φ m)(hs:ź e eZ é.line X.env=pure fc):PS X (.Expr e é) (tSt X i Φ<|.expr m) :=
 (Gn he hs).imp λD σ H ⟨env,G,N,R,B,C,Xe,p,w,c⟩=>by exact⟨env,G,_,Xe env,p.pre,w,λv G1 H1 x k1 g1 r1 w1=>c.nx env σ G1 H1 k1 g1 (p.en.keep k1) w1⟩
def Ir{t:Expr}{a b:List ŀ}{mt:O.Tt}{ma mb:O.Ss}(ht:PT X t<|tTt X i Φ mt)(ha:PSs X a<|tBl X i Φ ma)(hb:PSs X b<|tBl X i Φ mb):PS X (.If t a b é) (tSt X i Φ<|.ite mt ma mb) :=
 (Rh ht ha hb).imp λD σ H ⟨env,G,N,R,B,C,Xe,p,w,c⟩=>by
  refine⟨env,G,_,Xe env,p.pre,w,λd G1 H1 k1 g1 q=>?_⟩;cases d with
  |true=>exact⟨env,G1,N,R,B,C,Xe,p.go k1 g1<|p.en.keep k1,by simpa using q,c.go k1⟩
  |false=>exact⟨env,G1,N,R,B,C,Xe,p.go k1 g1<|p.en.keep k1,by simpa using q,c.go k1⟩
abbrev gPt(i:Inf)(p:O.Pt):TG:=λx σ H Q=>∃v env G Ř,RV i.K H v x/\RH i G H/\REn i.K H env σ/\O.bind p G v env=eY Ř/\∀σ2,REn i.K H Ř σ2->Q σ2 H
variable {tg:Expr}
def _root_.L2.PG.imp{t t':TG}(h:PG X tg t)(f:∀v σ H Q,t' v σ H Q->t v σ H Q):PG X tg t':=λÁ s σ H v u Q I r q=>h Á s σ H v u Q I r (f v σ H Q q)
def _root_.L2.PGs.imp{tg:List Expr}{t t':TGs}(h:PGs X tg t)(f:∀v σ H Q,t' v σ H Q->t v σ H Q):PGs X tg t':=λÁ s σ H v u Q I r q=>h Á s σ H v u Q I r (f v σ H Q q)
variable {x:Str} {j:Nat}
def N4(hN:X.N.Nodup)(hi:X.N[j]?=eY x)(hx:Loc X.env.scope x)(hf:X.fn x=fb\/X.env.scope.names.lookup x=eY .local):PG X (.Name x é) (gPt i<|.one j) :=
 (US hN hi hx hf).imp λv σ H Q ⟨u,env,G,Ř,r,g,e,b,h⟩=>by cases b;exact h _<|e.set r j
abbrev BP(i:Inf)(js:List Nat):TGs:=λxs σ H Q=>∃vs env Ř,RVs i.K H vs xs/\REn i.K H env σ/\O.bindL js vs env=eY Ř/\∀σ2,REn i.K H Ř σ2->Q σ2 H
def FT:PGs X []<|BP i []:=pgs_nil.imp λxs σ H Q ⟨vs,env,Ř,r,e,b,h⟩=>by
 cases vs with
 |nil=>cases r;cases b;exact⟨rfl,h _ e⟩
 |cons _ _=>cases b
variable {js:List Nat}
def Ed(hN:X.N.Nodup)(hi:X.N[j]?=eY x)(hx:Loc X.env.scope x)(hf:X.fn x=fb\/X.env.scope.names.lookup x=eY .local)(h2:PGs X es<|BP i js)
  (hs:(ġ (.Name x é::es) X.env).map (·.2)=ο (.Name x é) X.env::(ġ es X.env).map (·.2)):PGs X (.Name x é::es) (BP i<|j::js) :=
 (JU (US hN hi hx hf) h2 hs).imp λxs σ H Q ⟨vs,env,Ř,r,e,b,h⟩=>by
  cases vs with
  |nil=>cases b
  |cons v vs =>
   cases r with
   |cons r t=>exact⟨_,_,rfl,vs,env.set j<|eY v,Ř,t,e.set r j,b,h⟩
def KO:∀{js:List Nat}{vs:List O.Val}{env Ř:O.Env},O.bindL js vs env=eY Ř->vs.length=js.length
 |[],[],_,_,_=>rfl
 |j::js,v::vs,env,_,h=>by rw[Ë,Ë,KO<|show O.bindL js vs (env.set j<|eY v)=_ from h]
 |[],_::_,_,_,h=>by cases h
 |_::_,[],_,_,h=>by cases h
def UX{k:Nat}(hK:X.K=i.K)(hc:X.calm=fb)(h:PGs X es<|BP i js)(hn:(ġ es X.env).length=js.length)(ι:(ġ es X.env).findIdx? (·.1)=eZ):PG X (.Tuple es k é) (gPt i<|.many js) :=
 (BJ (n:=js.length) hc h hn ι).imp λv σ H Q ⟨u,env,G,Ř,r,g,e,b,h⟩=>by
  cases u with
  |tup vs =>
   have b:O.bindL js vs env=eY Ř:=b;cases r with
   |tup hp hr=>exact⟨_,_,rfl,by rw[hK];exact Zi hp,by rw[<-hr.length];exact KO b,vs,env,Ř,hr,e,b,h⟩
  |_=>cases b
def FI{k k2:Nat}{p1 p2:Pos}(hK:X.K=i.K)(hc:X.calm=fb)(h1:PG X (.Name x p1)<|gPt i<|.one j)(h2:PG X (.Tuple es k2 p2)<|gPt i<|.many js):PG X (.Tuple [.Name x p1,.Tuple es k2 p2] k é) (gPt i<|.nest j js) :=
 (BJ (n:=2) hc (JU h1 (JU h2 pgs_nil rfl) rfl) rfl rfl).imp λv σ H Q ⟨u,env,G,Ř,r,g,e,b,h⟩=>by
  cases u with
  |tup vs =>
   cases vs with
   |nil=>cases b
   |cons x0 vs=>cases vs with
    |nil=>cases b
    |cons y vs=>cases vs with
     |cons _ _=>cases b
     |nil =>
      have b:(O.tupOf y).bind (λys=>O.bindL js ys<|env.set j<|eY x0)=eY Ř:=b;cases r with
      |tup hp hr =>
       cases hr with
       |cons r0 t=>cases t with
        |cons r1 t =>cases t;exact⟨_,_,rfl,by rw[hK];exact Zi hp,rfl,_,_,rfl,x0,env,G,_,r0,g,e,rfl,λσ2 e2=>⟨_,_,rfl,y,_,G,Ř,r1,g,e2,b,λbA e3=>⟨rfl,h bA e3⟩⟩⟩
  |_=>cases b
def LR{q:O.Pt}(he:PE X e<|tE X i Φ m)(hg:PG X tg<|gPt i q)(hs:ϐ [tg] e é.line X.env=pure fc)(hw:ϑ [tg] e X.env=pure eZ)
  (h1:(ġ [tg] X.env).map (·.2)=[ο tg X.env]):PS X (.Assign [tg] e é) (tSt X i Φ<|.set q m) :=
 (CD he hg hs hw h1).imp λD σ H ⟨env,G,N,R,B,C,Xe,p,w,c⟩=>by refine⟨env,G,_,Xe env,p.pre,w,λv G1 H1 x k1 g1 r1 w1=>?_⟩;obtain⟨Ř,e2,w1⟩:=fh w1;exact⟨v,env,G1,Ř,r1,g1,p.en.keep k1,e2,λσ2 h2=>c.nx Ř σ2 G1 H1 k1 g1 h2 w1⟩
abbrev BN:V->V->V->Hp->(Hp->Prop)->Prop:=λo y v H Q=>GY o y v H Q\/He o y v H Q
def Dy{G G3:O.Hs}{H:Hp}{o k v:O.Val}{y z x:V}{Q:Hp->Prop}(g:RH i G H)(ry:RV i.K H o y)(rz:RV i.K H k z)(rx:RV i.K H v x)(e:O.fU G o k v=eY G3)(c:∀H3,fE H H3->RH i G3 H3->Q H3):BN y z x H Q:=by
 cases o with
 |ref b =>
  cases ry.ref_inv
  replace e:(match G b with|some (.lst xs)=>(O.gx k).bind λn=>(O.ixN xs.length n).map λj=>O.upd G b (.lst<|xs.set j v)|some (.dct kvs)=>if O.fA k/\kvs.length<O.lim then eY (O.upd G b<|.dct<|O.fI kvs k v)else eZ|some (.dtp kvs)=>if O.isKeyT k/\kvs.length<O.lim then eY (O.upd G b<|.dtp<|O.fI kvs k v)else eZ|_=>eZ)=eY G3:=e
  cases z4:G b with
  |none=>rw[z4]at e;cases e
  |some o =>
   rw[z4]at e;cases o with
   |lst xs =>obtain⟨n,hn,e⟩:=ì.mp e;obtain⟨jj,hj,rfl⟩:=Î.mp e;cases ZA hn;cases rz.int_inv;obtain⟨vs,h2,r2⟩:=g b _ z4;rw[Mj,r2.length]at hj;obtain⟨k3,g3⟩:=Mq (xs:=xs) g h2 (xs.set jj v) (vs.set jj x)<|r2.set rx jj;exact .inl ⟨b,vs,n,jj,rfl,rfl,h2,hj,c _ k3 g3⟩
   |dct kvs =>obtain⟨hk,e⟩:=Zn (show(if O.fA k/\kvs.length<O.lim then eY (O.upd G b<|.dct<|O.fI kvs k v)else eZ)=eY G3 from e);cases e;obtain⟨ps,h2,r2⟩:=g b _ z4;obtain⟨d,kr,rfl⟩:=fx hk.1 rz;obtain⟨k3,g3⟩:=Ms (kvs:=kvs) g h2<|r2.put kr rx;exact .inr ⟨b,_,rfl,DPut.k h2 (by rw[<-RKs.length r2];exact á hk.2 ZM),c _ k3 g3⟩
   |dtp kvs =>obtain⟨hk,e⟩:=Zn (show(if O.isKeyT k/\kvs.length<O.lim then eY (O.upd G b<|.dtp<|O.fI kvs k v)else eZ)=eY G3 from e);cases e;obtain⟨ps,h2,r2⟩:=g b _ z4;obtain⟨a1,a2,d,rfl,rfl,hd⟩:=WR hk.1 rz;obtain⟨k3,g3⟩:=F7 g h2<|r2.put (i:=a1) (j:=a2) rx;exact .inr ⟨b,_,rfl,DPut.t h2 hd (by rw[<-RTs.length r2];exact á hk.2 ZM),c _ k3 g3⟩
   |_=>cases e
 |_=>cases e
def Bb{a j:Expr}{ma mj:O.E}{Ϝ:Pos}(hK:X.K=i.K)(he:PE X e<|tE X i Φ m)(ha:PE X a<|tE X i Φ ma)(hj:PE X j<|tE X i Φ mj)(hgl:PG X (.Subscript a j Ϝ)<|QU (tE X i Φ ma) (tE X i Φ mj) BN)(hs:ϐ [.Subscript a j Ϝ] e é.line X.env=pure fc)(hw:ϑ [.Subscript a j Ϝ] e X.env=pure eZ)
  (h1:(ġ [.Subscript a j Ϝ] X.env).map (·.2)=[ο (.Subscript a j Ϝ) X.env]):PS X (.Assign [.Subscript a j Ϝ] e é) (tSt X i Φ<|.setIdx ma mj m) :=
 (CD he hgl hs hw h1).imp λD σ H ⟨env,G,N,R,B,C,Xe,p,w,c⟩=>by refine⟨env,G,_,Xe env,p.pre,w,λv G1 H1 x k1 g1 r1 w1=>?_⟩;refine two (p.go k1 g1<|p.en.keep k1).pre w1 λo k G2 H2 y z k2 p2 ry rz q=>?_;obtain⟨G3,e3,q⟩:=fh q;exact Dy p2.hp ry rz (r1.keep k2) e3 λH3 k3 g3=>c.nx env σ _ _ ((k1.trans k2).trans k3) g3 (p2.en.keep k3) q
structure ItOk(i:Inf)(H0:Hp)(J:It)(st:O.Hs->Prop)(xs:List O.Val):Prop where
 go:∀n G H v,fE H0 H->RH i G H->st G->xs[n]?=eY v->J.go n H/\∀x H',J.yld n H x H'->fE H H'/\RH i G H'/\RV i.K H' v x
 stop:∀n G H,fE H0 H->RH i G H->st G->xs.length<=n->J.stop n H
abbrev tIt(X:Cx)(i:Inf)(Φ:O.Fs)(m:O.It):TI:=λσ H R=>∃env G QI Em,Pre X i σ H env G Em/\O.wI Φ m env G QI Em/\∀st xs G' H' J,fE H H'->RH i G' H'->ItOk i H' J st xs->QI st xs G'->R J H'
variable {tg:Expr} {e:Expr}
def _root_.L2.PI.imp{t t':TI}(h:PI X tg e t)(f:∀σ H Q,t' σ H Q->t σ H Q):PI X tg e t':=λÁ s σ H Q I q=>h Á s σ H Q I (f σ H Q q)
abbrev Rx(K:Frag)(tl:TE):TI:=λσ H R=>tl σ H λx H1=>∃a,x=.ref a/\(((∃xs,gm K H1 a xs)/\R (Itl K a) H1)\/((∃xs,gp K H1 a xs)/\R (Itt K a) H1))
def HS{l:Expr}{tl:TE}(hl:PE X l tl):PI X tg l<|Rx X.K tl:=by
 intro Á s σ H R I h;refine thn (hl Á s σ H _ I h) λv s1 ⟨x,H1,I1,r1,q1⟩=>?_;obtain⟨a,e,q1⟩:=q1;subst e;cases r1;rcases q1 with⟨⟨xs,hq⟩,q⟩|⟨⟨xs,hq⟩,q⟩
 .obtain⟨ð,rv,p,hz⟩:=I1.list hq;refine ſ p.isList ?_;refine⟨s1.heap.objs.size,[s1.heap.objs.size],_,_,H1,rfl,I1.kept (t':=s1.toks) λb o e=>Ä _ e,AE a _,⟨_,Ð _ rfl,rfl,rfl⟩,λb hb=>?_,q⟩;have e:b=s1.heap.objs.size:=by simpa using hb
  subst e;exact I1.fpOk (Ì _)<|I1.hok.fresh<|Ì _
 .obtain⟨ð,rv,p,hz⟩:=I1.tuple hq;refine aw (show s1.heap.IsTuple a ð.toArray from p) ?_;refine⟨s1.heap.objs.size,[s1.heap.objs.size],_,_,H1,rfl,I1.kept (t':=s1.toks) λb o e=>Ä _ e,N9 a _,⟨_,Ð _ rfl,rfl,rfl⟩,λb hb=>?_,q⟩;have e:b=s1.heap.objs.size:=by simpa using hb
  subst e;exact I1.fpOk (Ì _)<|I1.hok.fresh<|Ì _
variable {H0:Hp} {a:È} {xs:List O.Val}
def it_lst:ItOk i H0 (Itl i.K a) (λg=>O.fv (g a)=eY xs) xs where
 go:=λn G H v _ g e hv=>by obtain⟨vs,h1,h2⟩:=ZK g e;obtain⟨x,h3,h4⟩:=h2.get hv;refine⟨⟨vs,x,h1,h3⟩,λy H' ⟨e1,e2⟩=>?_⟩;subst e1;have:=e2 vs h1;rw[h3]at this;cases this;exact⟨fE.refl _,g,h4⟩
 stop:=λn G H _ g e hn=>by obtain⟨vs,h1,h2⟩:=ZK g e;exact⟨vs,h1,by rw[<-h2.length];exact hn⟩
def it_tup{vs:List V}(hp:H0 a=eY (.tup vs)\/KT i.K a vs)(hr:RVs i.K H0 xs vs):ItOk i H0 (Itt i.K a) (λ_=>True) xs where
 go:=λn G H v k g e hv=>by have hp':H a=eY (.tup vs)\/KT i.K a vs:=hp.imp (k.t _ _) id;obtain⟨x,h3,h4⟩:=(hr.keep k).get hv;refine⟨⟨vs,x,Zi hp',h3⟩,λy H' ⟨e1,e2⟩=>?_⟩;subst e1;have:=e2 vs<|Zi hp';rw[h3]at this;cases this;exact⟨fE.refl _,g,h4⟩
 stop:=λn G H k g e hn=>by have hp':H a=eY (.tup vs)\/KT i.K a vs:=hp.imp (k.t _ _) id;exact⟨vs,Zi hp',by rw[<-hr.length];exact hn⟩
def it_scr{ns:List Int}(h:(∃o,H0 a=eY (.frz o<|.lst<|ns.map V.int))\/KL i.K a (ns.map V.int)):ItOk i H0 (Itl i.K a) (λ_=>True) (ns.map .int) where
 go:=λn G H v k g e hv=>by have h':gm i.K H a<|ns.map V.int:=Z8<|h.imp (λ⟨o,e⟩=>⟨o,k.f _ _ _ e⟩) id;obtain⟨x,h3,h4⟩:=(RVs.ints (K:=i.K) (H:=H) ns).get hv;refine⟨⟨_,x,h',h3⟩,λy H' ⟨e1,e2⟩=>?_⟩;subst e1;have:=e2 _ h';rw[h3]at this;cases this;exact⟨fE.refl _,g,h4⟩
 stop:=λn G H k g e hn=>⟨_,Z8<|h.imp (λ⟨o,e⟩=>⟨o,k.f _ _ _ e⟩) id,by simpa using hn⟩
def Dc{lo hi:Int}{n:Nat}(hn:n=(hi - lo).toNat):ItOk i H0 (Itr lo n) (λ_=>True) (O.fN lo hi) where
 go:=λk G H v _ g _ hv=>by
  unfold O.fN at hv;rw[Ú]at hv;have hk:k<(hi - lo).toNat:=by
   by_cases h:k<(hi - lo).toNat
   .exact h
   .rw[Ł<|by simpa using h]at hv;cases hv
  rw[List.getElem?_range hk]at hv;cases hv;refine⟨by rw[hn];exact hk,λx H' ⟨e1,e2⟩=>?_⟩;subst e1 e2;exact⟨fE.refl _,g,.int _⟩
 stop:=λk G H _ g _ hk=>by unfold O.fN at hk;show n<=k;simp at hk;lia
variable {m:O.E}
def HI(hK:X.K=i.K)(he:PE X e<|tE X i Φ m):PI X tg e (tIt X i Φ<|.seq m) :=
 (HS he).imp λσ H R ⟨env,G,QI,Em,p,w,c⟩=>by
  refine one p w λv G1 H1 x k1 p1 r q=>?_;obtain⟨⟨st,xs⟩,e1,q2⟩:=fh q;clear q;rw[hK];cases v with
  |tup ys =>
   cases e1;cases r with
   |tup hp hr=>exact⟨_,rfl,.inr ⟨⟨_,Zi hp⟩,c _ _ G1 H1 _ k1 p1.hp (it_tup hp hr) q2⟩⟩
  |scr ns =>
   cases e1;cases r with
   |scr h=>exact⟨_,rfl,.inl ⟨⟨_,Z8 h⟩,c _ _ G1 H1 _ k1 p1.hp (it_scr h) q2⟩⟩
  |ref a =>
   cases r.ref_inv;simp only[O.itV]at e1;cases z:O.fv (G1 a)with
   |none=>rw[z]at e1;cases e1
   |some ys =>rw[z]at e1;cases e1;obtain⟨vs,h1,h2⟩:=ZK p1.hp z;exact⟨a,rfl,.inl ⟨⟨vs,h1⟩,c _ _ G1 H1 _ k1 p1.hp it_lst q2⟩⟩
  |_=>cases e1
variable {p:Pos} {é:Pos}
def B1{a:Expr}(hg:Gl X "range")(hm:X.mg "range" = eZ)(ha:PE X a<|tE X i Φ m)(hs:Ô [a] X.env=[(fc,eval a X.env)]):PI X tg (.Call (.Name "range" p) [a] [] é) (tIt X i Φ<|.range m) :=
 (At hg hm (ZJ ha gj<|by rw[hs];rfl) hs).imp λσ H R ⟨env,G,QI,Em,p,w,c⟩=>by refine one p w λv G1 H1 x k1 p1 r q=>?_;obtain⟨n,e1,q2⟩:=fh q;clear q;cases ZA e1;cases r.int_inv;exact⟨n,rfl,q2.1.1,q2.1.2,c _ _ G1 H1 _ k1 p1.hp (Dc<|by rw[Int.sub_zero]) q2.2⟩
def Ap{a b:Expr}{ma mb:O.E}(hg:Gl X "range")(hm:X.mg "range" = eZ)(ha:PE X a<|tE X i Φ ma)(hb:PE X b<|tE X i Φ mb)(hs:Ô [a,b] X.env=[(fc,eval a X.env),(fc,eval b X.env)])(hs1:Ô [b] X.env=[(fc,eval b X.env)]) :
  PI X tg (.Call (.Name "range" p) [a,b] [] é) (tIt X i Φ<|.range2 ma mb) :=
 (AZ hg hm (ZJ ha (ZJ hb gj<|by rw[hs1];rfl)<|by rw[hs,hs1]) hs hs1).imp λσ H R ⟨env,G,QI,Em,p,w,c⟩=>by refine two p w λv u G1 H1 x y k1 p1 rx ry q=>?_;obtain⟨n,e1,q1⟩:=fh q;obtain⟨m,e2,q2⟩:=fh q1;clear q q1;cases ZA e1;cases ZA e2;cases rx.int_inv;cases ry.int_inv;exact⟨n,m,rfl,q2.1,c _ _ G1 H1 _ k1 p1.hp (Dc rfl) q2.2⟩
variable {body:List ŀ} {mb:O.Ss}
def Ic{Ų:Expr}{q:O.Pt}{mi:O.It}(hp:Λ (Ù X.prog X.w) X.A X.env X.xe)(hc:X.calm=fb)(hi:PI X tg Ų<|tIt X i Φ mi)(hg:PG X tg<|gPt i q)(hb:PSs X body<|tBl X i Φ mb)
  (hs:∀x,Ě Ų X.env x=pure x):PS X (.For tg Ų body [] é) (tSt X i Φ<|.for q mi mb) :=
 (Ci hp hc hi hg hb hs).imp λD σ H ⟨env,G,N,R,B,C,Xe,p,w,c⟩=>by
  refine⟨env,G,_,Xe env,p.pre,w,λst xs G1 H1 J k1 g1 it w1=>?_⟩;refine⟨λn m ŏ H'=>n+m=xs.length/\∃Ņ G',fE H1 H'/\RH i G' H'/\REn i.K H' Ņ ŏ/\O.wFor st (λv e g K M=>O.go (O.bind q g v e) λe2=>O.wSs Φ mb e2 g K R M K Xe) N (xs.drop n) Ņ G',⟨xs.length,by lia,env,G1,fE.refl _,g1,p.en.keep k1,by simpa using w1⟩,?_⟩;rintro n m ŏ H' ⟨hnm,Ņ,G',k2,g2,e2,w2⟩;by_cases hn:n<xs.length
  .right;have hd:xs.drop n=xs[n]::xs.drop (n+1):=Ŧ hn;rw[hd]at w2;obtain⟨s2,w2⟩:=w2;have hv:xs[n]?=eY xs[n]:=É hn;obtain⟨a1,a2⟩:=it.go n G' H' xs[n] k2 g2 s2 hv;refine⟨a1,λbA H3=>∃env3 G3,fE H1 H3/\RH i G3 H3/\REn i.K H3 env3 bA/\O.wFor st (λv e g K M=>O.go (O.bind q g v e) λe2=>O.wSs Φ mb e2 g K R M K Xe) N (xs.drop<|n+1) env3 G3,λbA H3 h=>⟨m - 1,by lia,by lia,h⟩,λx H3 hy=>?_⟩;obtain⟨k3,g3,r3⟩:=a2 x H3 hy;obtain⟨cV,e4,w4⟩:=fh w2;refine⟨xs[n],Ņ,G',cV,r3,g3,e2.keep k3,e4,λσ4 h4=>?_⟩;have kk:fE H H3:=(k1.trans k2).trans k3;refine⟨cV,G',_,R,N,_,Xe,p.go kk g3 h4,w4,⟨λaZ σ5 G5 H5 k5 g5 e5 w5=>?_,(c.go kk).rt,(c.go kk).nx,λaZ σ5 G5 H5 k5 g5 e5 w5=>?_⟩⟩
   .exact⟨aZ,G5,(k2.trans k3).trans k5,g5,e5,w5⟩
   .exact⟨aZ,G5,(k2.trans k3).trans k5,g5,e5,w5⟩
  .left;have hd:xs.drop n=[]:=Ĺ (by lia);rw[hd]at w2;exact⟨it.stop n G' H' k2 g2 w2.1 (by lia),c.nx Ņ ŏ G' H' (k1.trans k2) g2 e2 w2.2⟩
def Id{t:Expr}{mt:O.Tt}(hp:Λ (Ù X.prog X.w) X.A X.env X.xe)(ht:PT X t<|tTt X i Φ mt)(hb:PSs X body<|tBl X i Φ mb):PS X (.While t body [] é) (tSt X i Φ<|.whl mt mb) :=
 (BK hp ht hb).imp λD σ H ⟨env,G,N,R,B,C,Xe,p,w,c⟩=>by
  obtain⟨n,w⟩:=w;refine⟨λm ŏ H'=>∃Ņ G',fE H H'/\RH i G' H'/\REn i.K H' Ņ ŏ/\O.wWhile (λe g K=>O.wT Φ mt e g K<|Xe e) (λe g K M=>O.wSs Φ mb e g K R M K Xe) N m Ņ G',⟨n,env,G,fE.refl H,p.hp,p.en,w⟩,?_⟩;rintro m ŏ H' ⟨Ņ,G',k1,g1,e1,w1⟩;cases m with
  |zero=>cases w1
  |succ m =>
   have w1:O.wT Φ mt Ņ G' _<|Xe Ņ:=w1;have p1:=p.go k1 g1 e1;refine⟨Ņ,G',_,Xe Ņ,p1.pre,w1,λd G2 H2 k2 g2 q=>?_⟩;cases d with
   |true =>refine⟨λbA H3=>∃env3 G3,fE H H3/\RH i G3 H3/\REn i.K H3 env3 bA/\O.wWhile (λe g K=>O.wT Φ mt e g K<|Xe e) (λe g K M=>O.wSs Φ mb e g K R M K Xe) N m env3 G3,λbA H3 h=>⟨m,Ğ _,h⟩,?_⟩;have kk:=k1.trans k2;refine⟨Ņ,G2,_,R,N,_,Xe,p.go kk g2<|e1.keep k2,by simpa using q,⟨λaZ σ5 G5 H5 k5 g5 e5 w5=>⟨aZ,G5,kk.trans k5,g5,e5,w5⟩,(c.go kk).rt,(c.go kk).nx,λaZ σ5 G5 H5 k5 g5 e5 w5=>⟨aZ,G5,kk.trans k5,g5,e5,w5⟩⟩⟩
   |false=>exact c.nx Ņ ŏ G2 H2 (k1.trans k2) g2 (e1.keep k2) (by simpa using q)
def Pc:gh i .len λxs H Q=>((∃p ys,xs=[.ref p]/\(gm i.K H p ys\/gp i.K H p ys)/\Q (.int ys.length) H)\/∃z,xs=[.str z]/\z.length<=Õ/\Q (.int z.length) H)\/∃a kvs,xs=[V.ref a]/\H a=eY (.dK kvs)/\Q (.int kvs.length) H:=by
 intro vs G H xs Q Qm g r w c;obtain⟨v,rfl,w⟩:=XF w;obtain⟨x,rfl,rx⟩:=r.inv1;cases v with
 |ref a =>
  cases rx.ref_inv
  replace w:(match G a with|some (.lst xs)=>.val (.int xs.length)|some (.dct kvs)=>.val (.int kvs.length)|_=>.no:O.Rs).wp G Qm:=w
  cases z:G a with
  |none=>rw[z]at w;exact(Zf w).elim
  |some o =>
   rw[z]at w;cases o with
   |lst ys =>obtain⟨us,h1,h2⟩:=g a _ z;refine .inl<|.inl ⟨a,us,rfl,.inl<|gm.of h1,?_⟩;rw[<-h2.length];exact c _ G H _ (fE.refl H) g (.int _)<|Zm w
   |dct kvs =>obtain⟨ps,h1,h2⟩:=g a _ z;refine .inr ⟨a,ps,rfl,h1,?_⟩;rw[<-h2.length];exact c _ G H _ (fE.refl H) g (.int _)<|Zm w
   |_=>exact(Zf w).elim
 |tup ys =>
  cases rx with
  |tup hp hr =>refine .inl<|.inl ⟨_,_,rfl,.inr<|Zi hp,?_⟩;rw[<-hr.length];exact c _ G H _ (fE.refl H) g (.int _)<|Zm w
 |scr ns =>
  cases rx with
  |scr h =>refine .inl<|.inl ⟨_,_,rfl,.inl<|Z8 h,?_⟩;rw[Ã];exact c _ G H _ (fE.refl H) g (.int _)<|Zm w
 |str s =>cases rx.str_inv;obtain⟨hl,w⟩:=X5 w;refine .inl (.inr ⟨_,rfl,by rw[Zu];exact ß hl ZM,?_⟩);rw[Zu];exact c _ G H _ (fE.refl H) g (.int _)<|Zm w
 |_=>exact(Zf w).elim
def FZ:gh i .list λxs H Q=>∃p ys,xs=[.ref p]/\(gm i.K H p ys\/gp i.K H p ys)/\∀l,H l=eZ->Q (.ref l) (upd H l<|.lst ys):=by
 intro vs G H xs Q Qm g r w c;obtain⟨v,rfl,w⟩:=XF w;obtain⟨x,rfl,rx⟩:=r.inv1;cases v with
 |ref a =>cases rx.ref_inv;obtain⟨ys,e,w⟩:=Nb (f:=λxs=>.new<|.lst xs) w;obtain⟨us,h1,h2⟩:=g a _ e;exact⟨a,us,rfl,.inl<|gm.of h1,ZX g (Wm w) c λp hp=>⟨_,ff,h2.keep<|fE.new hp⟩⟩
 |tup ys =>
  cases rx with
  |tup hp hr=>exact⟨_,_,rfl,.inr<|Zi hp,ZX g (Wm w) c λp hp=>⟨_,ff,hr.keep<|fE.new hp⟩⟩
 |_=>exact(Zf w).elim
variable {H:Hp}
def U7{K:Frag}:∀{xs:List O.Val}{bs:List Bool}{vs:List V},O.blsOf xs=eY bs->RVs K H xs vs->vs=bs.map V.bl:=by
 intro xs;induction xs with
 |nil=>intro bs vs e r;cases e;cases r;rfl
 |cons v xs ih =>
  intro bs vs e r;cases v<;>first|(cases e;done)|skip
  case bl b =>
  simp only[O.blsOf]at e;cases z:O.blsOf xs with
  |none=>rw[z]at e;cases e
  |some ns=>rw[z]at e;cases e;cases r with|cons a t=>cases a.bl_inv;rw[ih z t];rfl
def IN{o:Option O.Val}{h:O.Hs}{Q:O.Q1}(w:(O.Rs.ofO o).wp h Q):∃v,o=eY v/\Q v h:=by
 cases o with
 |none=>exact(Zf w).elim
 |some v=>exact⟨v,rfl,Zm w⟩
def Iz:gh i .all λxs H Q=>∃p,∃bs:List Bool,xs=[.ref p]/\gm i.K H p (bs.map V.bl)/\Q (.bl<|bs.all id) H:=by
 intro vs G H xs Q Qm g r w c;obtain⟨v,rfl,w⟩:=XF w;obtain⟨x,rfl,rx⟩:=r.inv1;cases v with
 |ref a =>cases rx.ref_inv;obtain⟨v,e,w⟩:=IN w;obtain⟨ys,z,e⟩:=ì.mp e;obtain⟨bs,z2,rfl⟩:=Î.mp e;obtain⟨us,h1,h2⟩:=ZK g z;have:=U7 z2 h2;subst this;exact⟨a,bs,rfl,h1,c _ G H _ (fE.refl H) g (.bl _) w⟩
 |_=>exact(Zf w).elim
set_option exponentiation.threshold 2000 in
def LP{k:Int}(h:k.natAbs<10 ^ 200):k.natAbs.log2<1920:=by
 have e:(10:Nat) ^ 200<2 ^ 1920:=by decide
 by_cases h0:k.natAbs=0
 .rw[h0];decide
 .exact(Nat.log2_lt h0).mpr<|Ŗ h e
def Di(ds:List O.D)(d:O.D):(toDs ds).any (λe=>ī e<|toD d)=ds.any λe=>O.D.eqv e d:=by
 induction ds with
 |nil=>rfl
 |cons e es ih=>simp only[toDs,ļ,ih,K5]
variable {G:O.Hs} {y:V} {ys:List O.Val}
def Ux(g:RH i G H){v u:O.Val}{x:V}{c:Bool}(rx:RV i.K H v x)(e:O.inL G v ys=eY c)(hy:∀ds,ys.mapM (O.dat G<|O.deep - 1)=eY ds->IsD i.K H y (.tuple<|toDs ds)\/IsD i.K H y (.list<|toDs ds)) :
  ∃ds d,(IsD i.K H y (.tuple ds)\/IsD i.K H y (.list ds))/\IsD i.K H x d/\ŗ ds=fb/\d.canLay0=fb/\d.depth<=64/\ds.any (λe=>ī e d)=c:=by
 unfold O.inL at e;cases z:O.dat G O.deep v with
 |none=>rw[z]at e;cases e
 |some d =>
  rw[z]at e;simp only[è]at e;cases z2:ys.mapM (O.dat G<|O.deep - 1)with
  |none=>rw[z2]at e;cases e
  |some ds =>rw[z2]at e;cases e;exact⟨_,_,hy ds z2,XN g _ _ _ _ z rx,toDs_lay ds,K2 d,ß (Kn _ _ _ z) (by decide),Di ds d⟩
def Uj(g:RH i G H){u:O.Val}(ry:RV i.K H u y)(hu:u=.tup ys\/∃a,u=.ref a/\O.fv (G a)=eY ys):∀ds,ys.mapM (O.dat G<|O.deep - 1)=eY ds->IsD i.K H y (.tuple<|toDs ds)\/IsD i.K H y (.list<|toDs ds):=by
 intro ds hd;rcases hu with rfl|⟨a,rfl,hl⟩
 .left;have:=XN g O.deep (.tup ys) (.tup ds) y (by show Option.map _ (List.mapM (O.dat G<|O.deep - 1) ys)=_;rw[hd];rfl) ry;simpa[toD]using this
 .right;have:=XN g O.deep (.ref a) (.lst ds) y (by show(O.fv<|G a).bind _=_;rw[hl];show Option.map _ (List.mapM (O.dat G<|O.deep - 1) ys)=_;rw[hd];rfl) ry;simpa[toD]using this
def L0(s t:String)(c:Char)(h:O.oneC s=eY c):(!(Builtin.Str.occurrences (gL t) (gL s) 0 (gL t).length 1).isEmpty)=gK (c∈t.toList):=by
 have e:gL s=⟨#[c.toNat]⟩:=by
  unfold O.oneC at h;split at h
  .rename_i d hd;cases h;rw[Str.ofString_eq_toList,hd];rfl
  .cases h
 rw[e,StrLaws.found_one,KH];have inj:∀{a b:Char},a.toNat=b.toNat->a=b:=λ{a b} e=>Char.ext<|bK e;by_cases hc:c∈t.toList
 .rw[gG hc,gH];exact ā hc
 .rw[gF hc,decide_eq_false_iff_not];intro m;obtain⟨d,hd,he⟩:=Ü.mp m;exact hc<|inj he▸hd
abbrev Qs(K:Frag):R2:=λx y H Q=>ES fc x y H Q\/FR K fc x y H Q\/∃i j,x=.str i/\y=.str j/\Q (.bl (!(Builtin.Str.occurrences j i 0 j.length 1).isEmpty)) H
abbrev QB(K:Frag):R2:=λx y H Q=>ES fb x y H Q\/FR K fb x y H Q\/∃i j,x=.str i/\y=.str j/\Q (.bl (!(!(Builtin.Str.occurrences j i 0 j.length 1).isEmpty))) H
def Sb(hu:X.A.units+65<ĩ):OpR X (ë .In)<|Qs X.K:=(Iy<|by lia).or ((Lm hu).or A1)
def R6(hu:X.A.units+65<ĩ):OpR X (ë .NotIn)<|QB X.K:=(HU<|by lia).or ((AT hu).or Ml)
def Ho{v u:O.Val}{G:O.Hs}{H:Hp}{x y:V}{b:Bool}(g:RH i G H)(rx:RV i.K H v x)(ry:RV i.K H u y)(e:O.inV G v u=eY b) :
  (∃ds d,(IsD i.K H y (.tuple ds)\/IsD i.K H y (.list ds))/\IsD i.K H x d/\ŗ ds=fb/\d.canLay0=fb/\d.depth<=64/\ds.any (λe=>ī e d)=b)\/
  (∃j k,x=.str j/\y=.str k/\(!(Builtin.Str.occurrences k j 0 k.length 1).isEmpty)=b)\/∃a o,y=.ref a/\DGet H a x o/\o.isSome=b:=by
 cases u with
 |tup ys=>exact .inl<|Ux (u:=.tup ys) g rx e<|Uj g ry<|.inl rfl
 |ref a =>
  replace e:(match G a with|some (.lst xs)=>O.inL G v xs|some (.dct kvs)=>if O.fA v then eY (O.fH kvs v)else eZ|some (.frz kvs)=>if O.fA v then eY (O.fH kvs v)else eZ|some (.dtp kvs)=>if O.isKeyT v then eY (O.fH kvs v)else eZ|_=>eZ)=eY b:=e
  cases z:G a with
  |none=>rw[z]at e;cases e
  |some o =>
   rw[z]at e;cases o with
   |lst ys=>exact .inl (Ux (u:=.ref a) g rx e<|Uj g ry<|.inr ⟨a,rfl,by rw[z];rfl⟩)
   |dct kvs =>obtain⟨hk,e⟩:=Zn (show(if O.fA v then eY (O.fH kvs v)else eZ)=eY b from e);cases e;obtain⟨ps,h1,h2⟩:=g a _ z;obtain⟨d,kr,rfl⟩:=fx hk rx;exact .inr (.inr ⟨a,_,ry.ref_inv,DGet.k h1,by rw[h2.has kr,Xa]⟩)
   |frz kvs =>obtain⟨hk,e⟩:=Zn (show(if O.fA v then eY (O.fH kvs v)else eZ)=eY b from e);cases e;obtain⟨ob,ps,h1,h2⟩:=g a _ z;obtain⟨d,kr,rfl⟩:=fx hk rx;exact .inr (.inr ⟨a,_,ry.ref_inv,.inl ⟨ps,d,.inr ⟨ob,h1⟩,rfl,rfl⟩,by rw[h2.has kr,Xa]⟩)
   |dtp kvs =>obtain⟨hk,e⟩:=Zn (show(if O.isKeyT v then eY (O.fH kvs v)else eZ)=eY b from e);cases e;obtain⟨ps,h1,h2⟩:=g a _ z;obtain⟨k1,k2,d,rfl,rfl,hd⟩:=WR hk rx;exact .inr (.inr ⟨a,_,ry.ref_inv,DGet.t h1 hd,by rw[h2.has,Xa]⟩)
   |_=>cases e
 |str t =>
  cases v with
  |str s =>obtain⟨c,z,rfl⟩:=Î.mp e;exact .inr<|.inl ⟨_,_,rx.str_inv,ry.str_inv,L0 s t c z⟩
  |_=>cases e
 |_=>cases e
def E0{o:Option Bool}{b:Bool}(e:o.map (!·)=eY b):o=eY (!b):=by obtain⟨c,z,rfl⟩:=Î.mp e;rw[z,ac]
def Rp:ZW i .isin<|Qs i.K:=by
 intro v u G H x y c Q g rx ry e q;rcases Ho g rx ry e with⟨ds,d,h1,h2,h3,h4,h5,h6⟩|⟨j,k,h1,h2,h3⟩|⟨a,o,h1,h2,h3⟩
 .exact .inr (.inl ⟨ds,d,h1,h2,h3,h4,h5,by show Q (.bl<|List.any _ _) H;rw[h6];exact q⟩)
 .exact .inr (.inr ⟨j,k,h1,h2,by rw[h3];exact q⟩)
 .exact .inl ⟨a,o,h1,h2,by rw[h3,bc];exact q⟩
def RS:ZW i .notin<|QB i.K:=by
 intro v u G H x y c Q g rx ry e q;rcases Ho g rx ry (E0 e)with⟨ds,d,h1,h2,h3,h4,h5,h6⟩|⟨j,k,h1,h2,h3⟩|⟨a,o,h1,h2,h3⟩
 .exact .inr (.inl ⟨ds,d,h1,h2,h3,h4,h5,by show Q (.bl (!List.any _ _)) H;rw[h6,ac];exact q⟩)
 .exact .inr (.inr ⟨j,k,h1,h2,by rw[h3,ac];exact q⟩)
 .exact .inl ⟨a,o,h1,h2,by rw[h3,bL,ac];exact q⟩
variable {a:Expr} {b:Expr} {d:Expr} {ma:O.E} {mb:O.E} {op:cz} {dB:cz} {cop:O.Cop} {cop':O.Cop} {r:R2} {r':R2} {é:Pos}
def Gw{md:O.E}(ho:OpR X (ë op) r)(hr:ZW i cop r)(ap:OpR X (ë dB) r')(hr':ZW i cop' r')(ha:PE X a<|tE X i Φ ma)(hb:PE X b<|tE X i Φ mb)(hd:PE X d<|tE X i Φ md)(hm:bp [op,dB] [b,d]=fc) :
  PE X (.Compare a [op,dB] [b,d] é) (tE X i Φ<|.chain cop cop' ma mb md) :=
 (Cj ho ap ha hb hd hm).imp λσ H Q ⟨env,G,Qm,Em,p,w,k⟩=>by
  exact two p w λv u G2 H2 x y k2 p2 rx ry q=>by
   obtain⟨c,e,q⟩:=fh q;refine hr v u G2 H2 x y c _ p2.hp rx ry e ⟨c,rfl,?_⟩;cases c with
   |true =>
    rw[gD rfl]at q ⊢;exact one p2 q λt G3 H3 z k3 p3 rz q=>by obtain⟨d2,e2,q⟩:=fh q;exact hr' u t G3 H3 y z d2 Q p3.hp (ry.keep k3) rz e2<|k (.bl d2) G3 H3 (.bl d2) (k2.trans k3) p3.hp (.bl d2) q
   |false =>rw[gE ù]at q ⊢;exact k _ G2 H2 _ k2 p2.hp (.bl _) q
def DF{md:O.E}(ho:OpR X (ë op) r)(hr:ZW i cop r)(ap:OpR X (ë dB) r')(hr':ZW i cop' r')(ha:PE X a<|tE X i Φ ma)(hb:PE X b<|tE X i Φ mb)(hd:PE X d<|tE X i Φ md)(hm:bp [op,dB] [b,d]=fc) :
  PT X (.Compare a [op,dB] [b,d] é) (tTt X i Φ<|.val<|.chain cop cop' ma mb md) :=
 (DH ho ap ha hb hd hm).imp λσ H Q ⟨env,G,Qm,Em,p,w,k⟩=>by
  exact two p w λv u G2 H2 x y k2 p2 rx ry q=>by
   obtain⟨c,e,q⟩:=fh q;refine hr v u G2 H2 x y c _ p2.hp rx ry e ⟨c,rfl,?_⟩;cases c with
   |true =>
    rw[gD rfl]at q ⊢;exact one p2 q λt G3 H3 z k3 p3 rz q=>by obtain⟨d2,e2,q⟩:=fh q;obtain⟨d3,e3,q⟩:=fh q;cases e3;exact hr' u t G3 H3 y z d2 _ p3.hp (ry.keep k3) rz e2 ⟨d2,rfl,k d2 G3 H3 (k2.trans k3) p3.hp q⟩
   |false =>rw[gE ù]at q ⊢;obtain⟨d3,e3,q⟩:=fh q;cases e3;exact⟨fc,rfl,k _ G2 H2 k2 p2.hp q⟩
def Bv{st:ŀ}:PS X st<|tSt X i Φ .never:=λÁ s σ H D I ⟨env,G,N,R,B,C,Xe,p,w,c⟩=>by exact w.elim
end Snd
namespace L2
open PySem PySem.Spec PyProof.Rows
def GP{x:V}{xs:List V}{ð:List Â}(hl:(x::xs).length=ð.length):(ð.toArray.size != (#[]:Array Â).size)=fb:=by
 cases ð with
 |nil=>cases hl
 |cons y ys=>simp
section
variable {X:Cx}
abbrev Gz(K:Frag)(n:Bool):R2:=λx y H Q=>∃a b xs,x=.ref a/\y=.ref b/\gm K H a xs/\gm K H b []/\Q (.bl<|n ^^ xs.isEmpty) H
def CB(hu:X.A.units+64<ĩ):OpR X (ë .Eq)<|Gz X.K fc:=by
 intro Á s σ H x y v u Q I rx ry h;obtain⟨a,b,xs,rfl,rfl,ha,hb,q⟩:=h;cases rx;cases ry;obtain⟨ð,rv,pl,_⟩:=I.list ha;obtain⟨aD,rv2,pl2,_⟩:=I.list hb;cases rv2;have hl:=rv.length;cases xs with
 |nil =>have:ð=[]:=Ŏ.mp hl.symm;subst this;exact SeqAt.RcAt.lists (A:=X.A) (e:=λ_=>fb) pl.isList pl2.isList rfl (by lia) (λj j1 _=>by simp at j1) X.prog X.w X.xe _ ⟨.bl fb,H,I,rfl,q⟩
 |cons x xs =>exact SeqAt.RcAt.lists_lengths (A:=X.A) pl.isList pl2.isList (GP hl) (by lia) X.prog X.w X.xe _ ⟨.bl fc,H,I,rfl,q⟩
def CC(hu:X.A.units+64<ĩ):OpR X (ë .NotEq)<|Gz X.K fb:=by
 intro Á s σ H x y v u Q I rx ry h;obtain⟨a,b,xs,rfl,rfl,ha,hb,q⟩:=h;cases rx;cases ry;obtain⟨ð,rv,pl,_⟩:=I.list ha;obtain⟨aD,rv2,pl2,_⟩:=I.list hb;cases rv2;have hl:=rv.length;cases xs with
 |nil =>have:ð=[]:=Ŏ.mp hl.symm;subst this;exact SeqAt.RcNeAt.lists (A:=X.A) (e:=λ_=>fb) pl.isList pl2.isList rfl (by lia) (λj j1 _=>by simp at j1) X.prog X.w X.xe _ ⟨.bl fc,H,I,rfl,q⟩
 |cons x xs =>exact SeqAt.RcNeAt.lists_lengths (A:=X.A) pl.isList pl2.isList (GP hl) (by lia) X.prog X.w X.xe _ ⟨.bl fb,H,I,rfl,q⟩
end
end L2
namespace Snd
open PySem L2
variable {i:Inf}{G:O.Hs}{H:Hp}
variable {x:V} {xs:List O.Val}
def KI(g:RH i G H){v:O.Val}(r:RV i.K H v x)(e:O.asLst G v=eY xs):∃a vs,x=.ref a/\gm i.K H a vs/\RVs i.K H xs vs:=by
 cases v with
 |ref a =>cases r;obtain⟨vs,h1,h2⟩:=ZK g e;exact⟨a,vs,rfl,h1,h2⟩
 |_=>cases e
def Nq(g:RH i G H){v u:O.Val}{y:V}(rx:RV i.K H v x)(ry:RV i.K H u y){c:Bool}{f:List O.Val->List O.Val->Option Bool}(e:((O.asLst G v).bind λxs=>(O.asLst G u).bind λys=>f xs ys)=eY c):∃xs ys a b vs us,f xs ys=eY c/\x=.ref a/\y=.ref b/\gm i.K H a vs/\gm i.K H b us/\RVs i.K H xs vs/\RVs i.K H ys us:=by
 cases z:O.asLst G v with
 |none=>rw[z]at e;cases e
 |some xs =>
  cases z2:O.asLst G u with
  |none=>rw[z,z2]at e;cases e
  |some ys =>rw[z,z2]at e;obtain⟨a,vs,h1,h2,h3⟩:=KI g rx z;obtain⟨b,us,k1,k2,k3⟩:=KI g ry z2;exact⟨xs,ys,a,b,vs,us,e,h1,k1,h2,k2,h3,k3⟩
def UW{vs:List V}(h:RVs i.K H xs vs):vs.isEmpty=xs.isEmpty:=by cases h<;>rfl
def c_eqE:ZW i .eqE<|Gz i.K fc:=by
 intro v u G H x y c Q g rx ry e q;obtain⟨xs,ys,a,b,vs,us,e,h1,h2,h3,h4,h5,h6⟩:=Nq g rx ry e;split at e
 .rename_i z;cases e;cases h6 with
  |nil=>exact⟨a,b,vs,h1,h2,h3,h4,by rw[UW h5,bc];exact q⟩
  |cons _ _=>cases z
 .cases e
def c_neE:ZW i .neE<|Gz i.K fb:=by
 intro v u G H x y c Q g rx ry e q;obtain⟨xs,ys,a,b,vs,us,e,h1,h2,h3,h4,h5,h6⟩:=Nq g rx ry e;split at e
 .rename_i z;cases e;cases h6 with
  |nil=>exact⟨a,b,vs,h1,h2,h3,h4,by rw[UW h5,bL];exact q⟩
  |cons _ _=>cases z
 .cases e
variable {i:Inf}{X:Cx}{Φ:O.Fs}
def RVs.strs{K:Frag}{H:Hp}:∀ss:List String,RVs K H (ss.map O.Val.str) ((ss.map gL).map V.str)
 |[]=>.nil
 |s::ss=>.cons (.str s)<|RVs.strs ss
abbrev tPt(X:Cx)(i:Inf)(Φ:O.Fs)(m:O.E):TE:=λσ H Q=>∃env G Qm Em,Pre X i σ H env G Em/\O.wE Φ m env G Qm Em/\∀v G' H',fE H H'->RH i G' H'->Qm v G'->∃s,O.fmtV v=eY s/\s.length<=O.lim/\Q (.str<|gL s) H'
abbrev tJs(X:Cx)(i:Inf)(Φ:O.Fs)(ms:O.Es):TJ:=λσ H ģ Q=>∃env G a Qm Em,ģ=gL a/\a.length<=O.lim/\Pre X i σ H env G Em/\O.wJ Φ ms env G a Qm Em/\∀s G' H',fE H H'->RH i G' H'->Qm s G'->Q (gL s) H'
def _root_.L2.PJ.imp{vs:List Expr}{t t':TJ}(h:PJ X vs t)(f:∀σ H ģ Q,t' σ H ģ Q->t σ H ģ Q):PJ X vs t':=λÁ s σ H ģ Q I q=>h Á s σ H ģ Q I (f σ H ģ Q q)
variable {e:Expr} {m:O.E} {é:Pos}
def IX(he:PE X e<|tE X i Φ m):PE X (.FormattedValue e (-1) eZ é) (tPt X i Φ m) :=
 (EB he).imp λσ H Q ⟨env,G,Qm,Em,p,w,c⟩=>by
  refine⟨env,G,Qm,Em,p,w,λv G1 H1 x k1 g1 r1 w1=>?_⟩;obtain⟨s,e1,hl,q⟩:=c v G1 H1 k1 g1 w1;cases v with
  |str t=>cases e1;cases r1.str_inv;exact .inr ⟨_,rfl,by rw[Zu];exact ß hl ZM,q⟩
  |int n =>
   cases r1.int_inv;simp only[O.fmtV]at e1;split at e1
   .rename_i hn;cases e1;exact .inl ⟨n,rfl,LP hn,q⟩
   .cases e1
  |_=>cases e1
def Lb{s:String}{j:Nat}:PE X (.Constant (.str<|gL s) j é) (tPt X i Φ<|.cst<|.str s) :=
 pe_str.imp λσ H Q ⟨env,G,Qm,Em,p,w,c⟩=>by obtain⟨t,e1,hl,q⟩:=c _ G H (fE.refl H) p.hp w;cases e1;exact q
def Ik:PJ X []<|tJs X i Φ .nil:=pj_nil.imp λσ H ģ Q ⟨env,G,a,Qm,Em,e,hl,p,w,c⟩=>by subst e;exact⟨by rw[Zu];exact ß hl ZM,c a G H (fE.refl H) p.hp w⟩
def Ui{es:List Expr}{ms:O.Es}(he:PE X e<|tPt X i Φ m)(hr:PJ X es<|tJs X i Φ ms)(hs:cG (e::es) X.env=eval e X.env::cG es X.env):PJ X (e::es) (tJs X i Φ<|.cons m ms) :=
 (GF he hr hs).imp λσ H ģ Q ⟨env,G,a,Qm,Em,e,hl,p,w,c⟩=>by subst e;refine⟨env,G,_,Em,p,w,λv G1 H1 k1 g1 w1=>?_⟩;obtain⟨s,e1,hl1,w2⟩:=fh w1;clear w1;refine⟨s,e1,by lia,_,rfl,?_,env,G1,a++s,Qm,Em,(K9 a s).symm,by rw[cg];exact hl1,p.go k1 g1,w2,λt G2 H2 k2=>c t G2 H2<|k1.trans k2⟩;rw[<-K9,Zu,cg];exact ß hl1 ZM
def W0{G:O.Hs}{H:Hp}{p:È}{o:HO}(g:RH i G H)(hp:H p=eZ):RH i G<|upd H p o:=g.hid (fE.new hp) λb u e=>fe (by rintro rfl;rw[g.free hp]at e;cases e)
abbrev tE0(i:Inf)(Φ:O.Fs)(m:O.E):TE:=λσ H Q=>∃env G Qm,REn i.K H env σ/\RH i G H/\O.wE Φ m env G Qm (λ_ _=>False)/\Cn i H Q Qm
abbrev tT0(i:Inf)(Φ:O.Fs)(m:O.Tt):TT:=λσ H Q=>∃env G Qm,REn i.K H env σ/\RH i G H/\O.wT Φ m env G Qm (λ_ _=>False)/\∀b G' H',fE H H'->RH i G' H'->Qm b G'->Q b H'
variable {H:Hp}
def O9:XOk X i H λ_ _=>False:=λÁ σ H0 s H' a cls s' I f ⟨_,_,_,_,_,_,_,z⟩=>z.elim
variable {e:Expr}
def pe0{m:O.E}(h:PE X e<|tE X i Φ m):PE X e<|tE0 i Φ m:=h.imp λσ H Q ⟨env,G,Qm,r,g,w,c⟩=>⟨env,G,Qm,_,⟨r,g,O9⟩,w,c⟩
def pt0{m:O.Tt}(h:PT X e<|tTt X i Φ m):PT X e<|tT0 i Φ m:=h.imp λσ H Q ⟨env,G,Qm,r,g,w,c⟩=>⟨env,G,Qm,_,⟨r,g,O9⟩,w,c⟩
def _root_.L2.PIfs.imp{es:List Expr}{t t':TT}(h:PIfs X es t)(f:∀σ H Q,t' σ H Q->t σ H Q):PIfs X es t':=λÁ s σ H Q I q=>h Á s σ H Q I (f σ H Q q)
def Ph:PIfs X []<|tT0 i Φ .yes:=pifs_nil.imp λσ H Q ⟨env,G,Qm,r,g,w,c⟩=>by exact c fb G H (fE.refl H) g w
variable {ö:List Nat}
def Gv{K:Frag}{H':Hp}{env:O.Env}{σ:St}{k:Nat}(r:REn K H env σ)(kp:fE H H'):REn K H' (Ó k eZ++ö.map λj=>(env[j]?).getD eZ)<|Ó k eZ++N1 σ ö:=by
 refine⟨by simp[N1],λn u e=>?_⟩;by_cases hn:n<k
 .rw[Ċ (by rw[ò];exact hn),ō,gD hn]at e;cases e
 .rw[đ (by rw[ò];lia),ò]at e ⊢;generalize n - k=n at e ⊢;simp only[Ú]at e;cases z:ö[n]? with
  |none=>rw[z]at e;cases e
  |some j =>
   rw[z]at e;simp only[œ,Ĝ]at e;cases z2:env[j]? with
   |none=>rw[z2]at e;cases e
   |some o =>rw[z2]at e;have e:o=eY u:=e;subst e;obtain⟨y,h1,h2⟩:=r.get j u z2;exact⟨y,by unfold N1;rw[Ú,z];show eY ((σ[j]?).getD eZ)=_;rw[h1];rfl,h2.keep kp⟩
abbrev Oy(k:Nat):O.Pt->Bool
 |.one j=>gK (j<k)
 |.many js=>js.all λj=>gK (j<k)
 |.nest _ _=>fc
def KQ{r:O.Env}:∀{js:List Nat}{vs:List O.Val}{l Ř:O.Env},(js.all λj=>gK (j<l.length))=fb->O.bindL js vs (l++r)=eY Ř->∃l',Ř=l'++r/\l'.length=l.length
 |[],[],l,_,_,e=>by cases e;exact⟨l,rfl,rfl⟩
 |j::js,v::vs,l,_,h,e=>by rw[List.all_cons,bAq,gH]at h;have e:O.bindL js vs ((l++r).set j<|eY v)=_:=e;rw[cX _ _ h.1]at e;obtain⟨l',h1,h2⟩:=KQ (l:=l.set j<|eY v) (by rw[ϒ];exact h.2) e;exact⟨l',h1,by rw[h2,ϒ]⟩
 |[],_::_,_,_,_,h=>by cases h
 |_::_,[],_,_,_,h=>by cases h
variable {l:O.Env} {r:O.Env}
def Bo{p:O.Pt}{G:O.Hs}{v:O.Val}{Ř:O.Env}(h:Oy l.length p=fb)(e:O.bind p G v (l++r)=eY Ř):∃l',Ř=l'++r/\l'.length=l.length:=by
 cases p with
 |one j =>have e:eY ((l++r).set j<|eY v)=eY Ř:=e;cases e;exact⟨l.set j<|eY v,by rw[cX _ _<|of_decide_eq_true h],ϒ⟩
 |many js =>
  cases v with
  |tup vs=>exact KQ h e
  |_=>cases e
 |nest j js=>cases h
def REn.pre{K:Frag}{τ:St}(q:REn K H (l++r) τ):REn K H (Ó l.length eZ++r) τ:=by
 refine⟨by rw[<-q.len];simp,λn u e=>?_⟩;by_cases hn:n<l.length
 .rw[Ċ (by rw[ò];exact hn),ō,gD hn]at e;cases e
 .rw[đ (by rw[ò];lia),ò]at e;exact q.get n u (by rw[đ<|by lia];exact e)
def Uv{k:Nat}{pt:O.Pt}(hk:Oy k pt=fb){mi:O.It}{mt:O.Tt}{me:O.E}:∀σ H Q,tE X i Φ (.comp ö k pt mi mt me) σ H Q->D7 (tIt X i Φ mi) k ö (gPt i pt) (tT0 i Φ mt) (tE0 i Φ me) σ H Q:=λσ H Q ⟨env,G,Qm,Em,p,w,c⟩=>by
 refine⟨env,G,_,Em,p,w,λst xs G1 H1 J k1 g1 it w1=>?_⟩;obtain⟨hl,w1⟩:=w1;generalize hstep:(λ(v:O.Val) (h2:O.Hs) (K:Option O.Val->O.Hs->Prop) (X2:O.XQ)=>O.go (O.bind pt h2 v<|Ó k eZ++ö.map λj=>(env[j]?).getD eZ) λŘ =>
       O.wT Φ mt Ř h2 (λk h3=>if k=fb then O.wE Φ me Ř h3 (λu h4=>K (eY u) h4) X2 else K eZ h3) X2)=step at w1
 refine⟨λn m ys τ H'=>n+m=xs.length/\ys.length<=n/\REn i.K H' (Ó k eZ++ö.map λj=>(env[j]?).getD eZ) τ/\∃ģ G',fE H1 H'/\RH i G' H'/\RVs i.K H' ģ ys/\O.wComp st step (xs.drop n) ģ G' (λys h5=>O.new h5 (.lst ys) Qm) (λ_ _=>False),⟨xs.length,by lia,by simp,Gv p.en k1,[],G1,fE.refl _,g1,.nil,by simpa using w1⟩,?_⟩;rintro n m ys τ H' ⟨hnm,hly,en2,ģ,G',k2,g2,r2,w2⟩;refine⟨á (Û (ß hly<|by lia) hl) ZM,?_⟩;by_cases hn:n<xs.length
 .right;have hd:xs.drop n=xs[n]::xs.drop (n+1):=Ŧ hn;rw[hd]at w2;obtain⟨s2,w2⟩:=w2;have hv:xs[n]?=eY xs[n]:=É hn;obtain⟨a1,a2⟩:=it.go n G' H' xs[n] k2 g2 s2 hv;refine⟨a1,λys3 τ3 H3=>ys3.length<=n+1/\REn i.K H3 (Ó k eZ++ö.map λj=>(env[j]?).getD eZ) τ3/\∃acc3 G3,fE H1 H3/\RH i G3 H3/\RVs i.K H3 acc3 ys3/\O.wComp st step (xs.drop<|n+1) acc3 G3 (λys h5=>O.new h5 (.lst ys) Qm) (λ_ _=>False),λys3 τ3 H3 h=>⟨m - 1,by lia,by lia,h.1,h.2⟩,λx H3 hy=>?_⟩;obtain⟨k3,g3,r3⟩:=a2 x H3 hy;rw[<-hstep]at w2;obtain⟨cV,e4,w4⟩:=fh w2;rw[hstep]at w4;obtain⟨l',e5,h5⟩:=Bo (l:=Ó k eZ) (by rw[ò];exact hk) e4;rw[ò]at h5;refine⟨xs[n],_,G',cV,r3,g3,en2.keep k3,e4,λτ4 en4=>?_⟩;have aJ:REn i.K H3 (Ó k eZ++ö.map λj=>(env[j]?).getD eZ) τ4:=by
   rw[e5]at en4;have:=en4.pre;rw[h5]at this;exact this
  refine⟨_,G',_,en4,g3,w4,λd G5 H5 k5 g5 q5=>?_⟩;have kk:=(k2.trans k3).trans k5;cases d with
  |true =>refine⟨_,G5,_,en4.keep k5,g5,by simpa using q5,λu G6 H6 y k6 g6 r6 q6=>?_⟩;exact⟨by simpa using hly,(aJ.keep k5).keep k6,_,G6,kk.trans k6,g6,((((r2.keep k3).keep k5).keep k6).append<|.cons r6 .nil),q6⟩
  |false =>rw[gE ù]at q5;change if fc=fb then _ else _;rw[gE ù];have q5:O.wComp st step (xs.drop<|n+1) (ģ++[]) G5 (λys h5=>O.new h5 (.lst ys) Qm) λ_ _=>False:=q5;rw[ċ]at q5;exact⟨by lia,aJ.keep k5,ģ,G5,kk,g5,(r2.keep k3).keep k5,q5⟩
 .left;have hd:xs.drop n=[]:=Ĺ (by lia);rw[hd]at w2;refine⟨it.stop n G' H' k2 g2 w2.1 (by lia),?_⟩;exact ZX g2 w2.2 ((c.go k1).go k2) λq hq=>⟨_,ff,r2.keep<|fE.new hq⟩
abbrev AW(i:Inf)(m:O.Bm)(r:V->List V->Hp->VK->Prop):Prop:=∀(v:O.Val) (vs:List O.Val) (G:O.Hs) (H:Hp) (x:V) (xs:List V) (t:O.Val×O.Hs) (Q:VK) (Qm:O.Q1),
 RH i G H->RV i.K H v x->RVs i.K H vs xs->O.bmV G m v vs=eY t->Qm t.1 t.2->Cn i H Q Qm->r x xs H Q
abbrev IF(i:Inf)(m:O.Bm)(T:String):Prop:=∀(v:O.Val) (G:O.Hs) (H:Hp) (x:V),RH i G H->RV i.K H v x->O.bmTy G m v=fb->tyV i.K T x H
variable {m:O.Bm}
def Ca{o e:Expr}{es:List Expr}{name:Str}{Ő š:Pos}{T id:String}{r:V->List V->Hp->VK->Prop}{mo:O.E}{ms:O.Es}{n:Nat}(hK:X.K=i.K)(pa:PlainAttrs T)(slot:Slot T name id)(hty:typeOf (.builtin id)=pure (.type "method_descriptor"))(mt:MtR X id r)(hT:IF i m T)(hr:AW i m r)
  (ho:PE X o<|tE X i Φ mo) (ha:PA X (e::es)<|tAr X i Φ ms n) (aE:Ĩ o name X.env (eval o X.env)=eval o X.env)
  (aF:((Ħ š<|Ô (e::es) X.env).all (λx=>!x.1)&&(Ž š<|ŋ [] X.env).all (λx=>x.1.isSome)&&gK ((e::es).length+([]:List aP).length+(if([]:List aP).isEmpty then 0 else 1)<30))=fb)
  (aG:(Ő.endLine==š.line)=fb) (hs:Ô (e::es) X.env=(fc,eval e X.env)::Ô es X.env) (cR:(Ħ š<|Ô es X.env).any (·.1)=fc) :
  PE X (.Call (.Attribute o name Ő) (e::es) [] š) (tE X i Φ<|.bm m mo ms) :=
 (Qk pa slot hty mt ho ha aE aF aG hs cR).imp λσ H Q ⟨env,G,Qm,Em,p,w,c⟩=>by
  refine one p w λv G1 H1 x k1 p1 rv q=>⟨by rw[hK];exact hT v G1 H1 x p1.hp rv q.1,env,G1,_,Em,p1,q.2,λvs G2 H2 xs k2 g2 r2 _ w2=>?_⟩
  obtain⟨t,e,w3⟩:=fh w2;exact hr v vs G2 H2 x xs t Q Qm g2 (rv.keep k2) r2 e w3<|(c.go k1).go k2
def OG{o:Option O.Ob}(h:O.isDct o=fb):(∃xs,o=eY (.dct xs))\/∃xs,o=eY (.dtp xs):=by
 cases o with
 |none=>cases h
 |some o=>cases o with
  |dct xs=>exact .inl ⟨xs,rfl⟩
  |dtp xs=>exact .inr ⟨xs,rfl⟩
  |_=>cases h
def QF(hm:m.ty=.l):IF i m "list":=λv G H x g r h=>by
 unfold O.bmTy at h;rw[hm]at h;cases v with
 |ref a =>cases r.ref_inv;obtain⟨xs,e⟩:=OF (show O.isLst (G a)=fb from h);obtain⟨vs,h1,_⟩:=g a _ e;exact .inl ⟨rfl,vs,gm.of h1⟩
 |_=>cases h
def LC(hm:m.ty=.d):IF i m "dict":=λv G H x g r h=>by
 unfold O.bmTy at h;rw[hm]at h;cases v with
 |ref a =>
  cases r.ref_inv;rcases OG (show O.isDct (G a)=fb from h)with⟨xs,e⟩|⟨xs,e⟩
  .obtain⟨vs,h1,_⟩:=g a _ e;exact .inr<|.inr<|.inl ⟨rfl,.inl ⟨vs,h1⟩⟩
  .obtain⟨vs,h1,_⟩:=g a _ e;exact .inr<|.inr<|.inl ⟨rfl,.inr ⟨vs,h1⟩⟩
 |_=>cases h
variable {G:O.Hs}
def UO{v:O.Val}{f:O.Ad->List O.Val->Option (O.Val×O.Hs)}{t:O.Val×O.Hs}(e:O.bmL G v f=eY t):∃a xs,v=.ref a/\G a=eY (.lst xs)/\f a xs=eY t:=by
 cases v with
 |ref a=>obtain⟨xs,h1,h2⟩:=BW e;exact⟨a,xs,rfl,h1,h2⟩
 |_=>cases e
variable {vs:List O.Val} {α:Type} {a:α}
def Lq{f:O.Val->Option α}(e:(match vs with|[v]=>f v|_=>eZ)=eY a):∃v,vs=[v]/\f v=eY a:=by
 cases vs with
 |nil=>cases e
 |cons v vs=>cases vs with
  |nil=>exact⟨v,rfl,e⟩
  |cons _ _=>cases e
def Hy:AW i .append O4:=λv vs G H x xs t Q Qm g rx rs e q c=>by obtain⟨a,ys,rfl,e4,e3⟩:=UO e;obtain⟨u,rfl,e3⟩:=Lq e3;obtain⟨hl,e3⟩:=Zn e3;cases e3;cases rx.ref_inv;obtain⟨y,rfl,ry⟩:=rs.inv1;obtain⟨us,h2,r2⟩:=g a _ e4;obtain⟨k3,g3⟩:=Mq (xs:=ys) g h2 (ys++[u]) (us++[y])<|r2.app1 ry;exact⟨a,us,y,rfl,rfl,h2,by rw[<-r2.length];exact á hl ZM,c _ _ _ _ k3 g3 .non q⟩
def Gf:AW i .popAt DD:=λv vs G H x xs t Q Qm g rx rs e q c=>by
 obtain⟨a,ys,rfl,e4,e3⟩:=UO e;unfold O.bmPopAt at e3;split at e3
 .rename_i n;obtain⟨hn,e3⟩:=Zn e3;obtain⟨k,z,e3⟩:=ì.mp e3;obtain⟨yv,z2,rfl⟩:=Î.mp e3;cases rx.ref_inv;obtain⟨y,rfl,ry⟩:=rs.inv1;cases ry.int_inv;obtain⟨us,h2,r2⟩:=g a _ e4;obtain⟨xv,hx,rv⟩:=r2.get z2;rw[Mj,r2.length]at z;obtain⟨s1,s2,s3,s4⟩:=K1 z;obtain⟨k3,g3⟩:=Mq (xs:=ys) g h2 (ys.eraseIdx k) (us.eraseIdx k)<|r2.eraseIdx k;exact⟨a,us,n,k,xv,rfl,rfl,h2,by lia,by lia,s1,hx,c _ _ _ _ k3 g3 (rv.keep k3) q⟩
 .cases e3
def MD{v:O.Val}{f:O.Ad->List (O.Val×O.Val)->Option (O.Val×O.Hs)}{t:O.Val×O.Hs}(e:O.bmD G v f=eY t):∃a kvs,v=.ref a/\G a=eY (.dct kvs)/\f a kvs=eY t:=by
 cases v with
 |ref a =>
  obtain⟨kvs,h1,h2⟩:=ì.mp (show(O.gw<|G a).bind (f a)=eY t from e);refine⟨a,kvs,rfl,?_,h2⟩;cases z:G a with
  |none=>rw[z]at h1;cases h1
  |some o =>
   rw[z]at h1;cases o with
   |dct ys=>cases h1;rfl
   |_=>cases h1
 |_=>cases e
def Rr{f:O.Val->O.Val->Option α}(e:(match vs with|[v,u]=>f v u|_=>eZ)=eY a):∃v u,vs=[v,u]/\f v u=eY a:=by
 cases vs with
 |nil=>cases e
 |cons v vs=>cases vs with
  |nil=>cases e
  |cons u us=>cases us with
   |nil=>exact⟨v,u,rfl,e⟩
   |cons _ _=>cases e
abbrev BR:V->List V->Hp->VK->Prop:=λx vs H Q=>∃a y o,x=.ref a/\vs=[y]/\DGet H a y o/\Q (o.getD .non) H
def DI(hu:X.A.units+1<ĩ):MtR X "dict.get" BR:=by intro Á s σ H x vs v us Q I rx rv h;obtain⟨a,y,o,rfl,rfl,d,q⟩:=h;cases rx;obtain⟨u,rfl,ru⟩:=rv.one;exact Lo hu I d ru λw' s' I' aX=>⟨_,_,I',aX,q⟩
abbrev C5:V->List V->Hp->VK->Prop:=λx vs H Q=>∃a kvs k v more,x=.ref a/\vs=kV k::more/\(more=[]\/∃z,more=[z])/\H a=eY (.dK kvs)/\Yx kvs k=eY v/\Q v (upd H a<|.dK<|fJ kvs k)
def mt_dpop:MtR X "dict.pop" C5:=by
 intro Á s σ H x vs v us Q I rx rv h;obtain⟨a,kvs,k,y,more,rfl,rfl,hm,hH,l,q⟩:=h;cases rx;rcases hm with rfl|⟨z,rfl⟩
 .obtain⟨u,rfl,ru⟩:=rv.one;exact Hi I hH ru l (.inl rfl) λw' s' I' aX=>⟨_,_,I',aX,q⟩
 .obtain⟨u,t,rfl,ru,rt⟩:=rv.two;exact Hi I hH ru l (.inr ⟨_,rfl⟩) λw' s' I' aX=>⟨_,_,I',aX,q⟩
abbrev BF:V->List V->Hp->VK->Prop:=λx vs H Q=>∃a kvs k z,x=.ref a/\vs=[kV k,z]/\H a=eY (.dK kvs)/\Yx kvs k=eZ/\Q z H
def DO:MtR X "dict.pop" BF:=by intro Á s σ H x vs v us Q I rx rv h;obtain⟨a,kvs,k,z,rfl,rfl,hH,l,q⟩:=h;cases rx;obtain⟨u,t,rfl,ru,rt⟩:=rv.two;exact Lj I hH ru l λs' I'=>⟨_,_,I',rt,q⟩
def L9:AW i .dget BR:=λv vs G H x xs t Q Qm g rx rs e q c=>by
 obtain⟨a,kvs,rfl,e4,e3⟩:=MD e;obtain⟨k,rfl,e3⟩:=Lq e3;obtain⟨hk,e3⟩:=Zn e3;cases e3;cases rx.ref_inv;obtain⟨y,rfl,ry⟩:=rs.inv1;obtain⟨ps,h2,r2⟩:=g a _ e4;obtain⟨d,kr,rfl⟩:=fx hk ry;refine⟨a,_,_,rfl,rfl,DGet.k (k:=d) h2,?_⟩;obtain⟨l1,l2⟩:=r2.look kr;cases z:O.fG kvs k with
 |none=>rw[l2 z];rw[z]at q;exact c _ _ _ _ (fE.refl H) g .non q
 |some u=>obtain⟨x,hx,rv⟩:=l1 u z;rw[hx];rw[z]at q;exact c _ _ _ _ (fE.refl H) g rv q
def HX:AW i .dpop C5:=λv vs G H x xs t Q Qm g rx rs e q c=>by obtain⟨a,kvs,rfl,e4,e3⟩:=MD e;obtain⟨k,rfl,e3⟩:=Lq e3;obtain⟨hk,e3⟩:=Zn e3;obtain⟨u,z,rfl⟩:=Î.mp e3;cases rx.ref_inv;obtain⟨y,rfl,ry⟩:=rs.inv1;obtain⟨ps,h2,r2⟩:=g a _ e4;obtain⟨d,kr,rfl⟩:=fx hk ry;obtain⟨x,hx,rv⟩:=(r2.look kr).1 u z;obtain⟨k3,g3⟩:=Ms (kvs:=kvs) g h2<|r2.drop kr;exact⟨a,ps,d,x,[],rfl,rfl,.inl rfl,h2,hx,c _ _ _ _ k3 g3 (rv.keep k3) q⟩
def OU{kvs:List (O.Val×O.Val)}{k:O.Val}(h:O.fG kvs k=eZ):O.fJ kvs k=kvs:=by
 unfold O.fJ;rw[List.filter_eq_self];intro p hp;have h2:kvs.find? (λp=>p.1==k)=eZ:=by unfold O.fG at h;exact Option.map_eq_none_iff.mp h
 simpa using List.find?_eq_none.mp h2 p hp
def FP:AW i .dpopD λx vs H Q=>C5 x vs H Q\/BF x vs H Q:=λv vs G H x xs t Q Qm g rx rs e q c=>by
 obtain⟨a,kvs,rfl,e4,e3⟩:=MD e;obtain⟨k,dv,rfl,e3⟩:=Rr e3;obtain⟨hk,e3⟩:=Zn e3;cases e3;cases rx.ref_inv;obtain⟨y,z,rfl,ry,rz⟩:=rs.inv2;obtain⟨ps,h2,r2⟩:=g a _ e4;obtain⟨d,kr,rfl⟩:=fx hk ry;obtain⟨l1,l2⟩:=r2.look kr;cases z:O.fG kvs k with
 |none =>
  refine .inr ⟨a,ps,d,_,rfl,rfl,h2,l2 z,?_⟩;rw[z,OU z]at q;have e:O.upd G a (.dct kvs)=G:=by
   funext b;by_cases hb:b=a
   .subst hb;rw[O.ff,e4]
   .rw[O.fe hb]
  rw[e]at q;exact c _ _ _ _ (fE.refl H) g rz q
 |some u =>obtain⟨x,hx,rv⟩:=l1 u z;obtain⟨k3,g3⟩:=Ms (kvs:=kvs) g h2<|r2.drop kr;rw[z]at q;exact .inl ⟨a,ps,d,x,_,rfl,rfl,.inr ⟨_,rfl⟩,h2,hx,c _ _ _ _ k3 g3 (rv.keep k3) q⟩
def RFs.look{K:Frag}{H:Hp}{f:String}:∀{fs:List (String×O.Val)}{ps:List (Str×V)},RFs K H fs ps->
  (∀v,fs.lookup f=eY v->∃x,ps.lookup (gL f)=eY x/\RV K H v x)/\(fs.lookup f=eZ->ps.lookup (gL f)=eZ)
 |_,_,.nil=>⟨λv e=>(by cases e),λ_=>rfl⟩
 |_,_,.cons (f:=g) (v:=u) (x:=y) r t=>by
  have ih:=RFs.look (f:=f) t;rw[ñ,ñ];by_cases e:f=g
  .subst e;rw[beq_self_eq_true,beq_self_eq_true];exact⟨λv z=>(by cases z;exact⟨y,rfl,r⟩),λz=>(by cases z)⟩
  .rw[show(f==g)=fc by simpa using e,show(gL f==gL g)=fc by rw[beq_eq_false_iff_ne];exact λz=>e<|ofS_inj.mp z];exact ih
def RFs.put{K:Frag}{H:Hp}{f:String}{v:O.Val}{x:V}(q:RV K H v x):∀{fs:List (String×O.Val)}{ps:List (Str×V)},RFs K H fs ps->RFs K H (O.fy fs f v) (L2.fy (gL f) x ps)
 |_,_,.nil=>.cons q .nil
 |_,_,.cons (f:=g) (v:=u) (x:=y) r t=>by
  unfold O.fy L2.fy;by_cases e:g=f
  .subst e;rw[gD rfl,gD rfl];exact .cons q t
  .rw[gE e,gE λz=>e<|ofS_inj.mp z];exact .cons r<|RFs.put q t
def RFs.length{K:Frag}{H:Hp}:∀{fs:List (String×O.Val)}{ps:List (Str×V)},RFs K H fs ps->fs.length=ps.length
 |_,_,.nil=>rfl
 |_,_,.cons _ t=>by rw[Ë,Ë,RFs.length t]
structure FldOk(i:Inf)(f:String):Prop where
 no:∀C c,i.cl C c->NoAttr i.K c (gL f)
structure IC(K:Frag)(C:È):Prop where
 ha:PySem.W.findIn K (.ref C) "__class__" = eY (eY<|.builtin "object.__class__")
 hn:PySem.W.specialIn K (.builtin "object.__class__") "__get__" = eY (eY<|.builtin "getset_descriptor.__get__")
 htk:PySem.W.takesIn K (.builtin "object.__class__")=eY fb
 hm:PySem.W.mroIn K C (.type "object")=eY fb
structure ClsA(i:Inf):Prop where
 cls:∀C c,i.ins C=fb->i.cl C c->Cls i.K c
 ic:∀C c,i.cl C c->IC i.K c
 un:∀C a b,i.cl C a->i.cl C b->a=b
def Jv{o:Option O.Ob}{p:String×List (String×O.Val)}(h:O.insOf o=eY p):o=eY (.ins p.1 p.2):=by
 cases o with
 |none=>cases h
 |some o=>cases o with
  |ins C fs=>cases h;rfl
  |_=>cases h
variable {G:O.Hs} {f:String}
def Kx{v u:O.Val}(h:O.fV G v f=eY u):∃a C fs,v=.ref a/\G a=eY (.ins C fs)/\fs.lookup f=eY u:=by obtain⟨a,h1,h⟩:=ì.mp h;obtain⟨p,h2,h3⟩:=ì.mp h;exact⟨a,p.1,p.2,Jb h1,Jv h2,h3⟩
variable {o:Expr} {mo:O.E} {é:Pos}
def PF(hK:X.K=i.K)(A:ClsA i)(F:FldOk i f)(ho:PE X o<|tE X i Φ mo)(hb:Ĩ o (gL f) X.env (eval o X.env)=eval o X.env) :
  PE X (.Attribute o (gL f) é) (tE X i Φ<|.fld mo f) :=
 (IE ho hb).imp λσ H Q ⟨env,G,Qm,Em,p,w,c⟩=>by
  exact one p w λv G1 H1 x k1 p1 r q=>by obtain⟨u,e,q2⟩:=fh q;clear q;obtain⟨a,C,fs,rfl,e2,e3⟩:=Kx e;cases r.ref_inv;obtain⟨c',dx,ps,hi,hc,h1,rf⟩:=p1.hp a _ e2;obtain⟨y,l,ry⟩:=rf.look.1 u e3;exact⟨a,c',dx,ps,y,rfl,h1,by rw[hK];exact A.cls _ _ hi hc,by rw[hK];exact F.no _ _ hc,l,c _ _ _ _ k1 p1.hp ry q2⟩
variable {C:String}
def UA{H:Hp}{a:È}{c' dx:È}{fs:List (String×O.Val)}{ps ps2:List (Str×V)}(g:RH i G H)(hi:i.ins C=fb)(hc:i.cl C c')(h:H a=eY (.ins c' dx ps2))(r:RFs i.K H fs ps) :
  fE H (upd H a<|.ins c' dx ps)/\RH i (O.upd G a<|.ins C fs) (upd H a<|.ins c' dx ps):=by
 have k:fE H<|upd H a<|.ins c' dx ps:=fE.put (λxs e=>by rw[h]at e;cases e) λp u e=>by rw[h]at e;cases e
 exact⟨k,g.put k ⟨c',dx,ps,hi,hc,ff,r.keep k⟩⟩
def Jg{G':O.Hs}{o v:O.Val}(h:O.fW G o f v=eY G'):∃a C fs,o=.ref a/\G a=eY (.ins C fs)/\fs.length<900/\G'=O.upd G a (.ins C<|O.fy fs f v):=by
 cases o with
 |ref a =>
  unfold O.fW at h;dsimp only at h;split at h
  .rename_i C fs e;obtain⟨hl,h⟩:=Zn h;cases h;exact⟨a,C,fs,rfl,e,hl,rfl⟩
  .cases h
 |_=>cases h
variable {e:Expr}
def AD{m:O.E}{bz:Pos}(hK:X.K=i.K)(A:ClsA i)(F:FldOk i f)(ho:PE X o<|tE X i Φ mo)(he:PE X e<|tE X i Φ m)(hs:ź e (eY<|.Attribute o (gL f) bz) é.line X.env=pure fc) :
  PS X (.Assign [.Attribute o (gL f) bz] e é) (tSt X i Φ<|.setFld mo f m) :=
 (Ia ho he hs).imp λD σ H ⟨env,G,N,R,B,C,Xe,p,w,c⟩=>by refine one p.pre w λv G1 H1 x k1 p1 r q=>?_;refine one p1 q λu G2 H2 y k2 p2 ry q=>?_;obtain⟨G3,e3,q2⟩:=fh q;clear q;obtain⟨a,D',fs,rfl,e2,hl,rfl⟩:=Jg e3;cases ry.ref_inv;obtain⟨c',dx,ps,hi,hc,h1,rf⟩:=p2.hp a _ e2;obtain⟨k3,g3⟩:=UA p2.hp hi hc h1<|rf.put (f:=f)<|r.keep k2;refine⟨a,c',dx,ps,rfl,h1,by rw[hK];exact A.cls _ _ hi hc,by rw[hK];exact F.no _ _ hc,by rw[<-rf.length];lia,?_⟩;have k:=(k1.trans k2).trans k3;exact c.nx _ _ _ _ k g3 (p.en.keep k) q2
def Nt{op:O.Bop}{x y z:O.Val}(h:O.augV op x y=eY z):∃a b,x=.int a/\y=.int b/\((op=.add/\z=.int (a+b))\/(op=.sub/\z=.int (a - b))):=by
 unfold O.augV at h;split at h
 .cases h;exact⟨_,_,rfl,rfl,.inl ⟨rfl,rfl⟩⟩
 .cases h;exact⟨_,_,rfl,rfl,.inr ⟨rfl,rfl⟩⟩
 .cases h
abbrev rAS(op:O.Bop):V->V->Hp->VK->Prop:=λx y H Q=>∃a b,x=.int a/\y=.int b/\((op=.add/\Q (.int<|a+b) H)\/(op=.sub/\Q (.int<|a - b) H))
def AV{op:ϖ}{bop:O.Bop}{n:Int}{k:Nat}{cP š:Pos}(hK:X.K=i.K)(A:ClsA i)(F:FldOk i f)(hop:DY X op<|rAS bop)(ho:PE X o<|tE X i Φ mo) :
  PS X (.AugAssign (.Attribute o (gL f) cP) op (.Constant (.int n) k š) é) (tSt X i Φ<|.augFld mo f bop n) :=
 (Av ho Oa hop).imp λD σ H ⟨env,G,N,R,B,C,Xe,p,w,c⟩=>by
  refine one p.pre w λv G1 H1 x k1 p1 r q=>?_;obtain⟨u,e1,q2⟩:=fh q;clear q;obtain⟨a,C',fs,rfl,e2,e3⟩:=Kx e1;cases r.ref_inv;obtain⟨c',dx,ps,hi,hc,h1,rf⟩:=p1.hp a _ e2;obtain⟨y,l,ry⟩:=rf.look.1 u e3;refine⟨a,c',dx,ps,y,rfl,h1,by rw[hK];exact A.cls _ _ hi hc,by rw[hK];exact F.no _ _ hc,l,?_⟩;obtain⟨z,e4,q3⟩:=fh q2;clear q2;obtain⟨G3,e5,q4⟩:=fh q3;clear q3;obtain⟨n1,n2,rfl,e0,hz⟩:=Nt e4;cases e0;cases ry.int_inv;obtain⟨a2,C2,fs2,e6,e7,hl,rfl⟩:=Jg e5;cases e6;rw[e2]at e7;cases e7;have fin:∀n:Int,z=.int n->∃dx' d6,H1 a=eY (.ins c' dx' d6)/\d6.length<1000/\D.nx σ (upd H1 a<|.ins c' dx'<|L2.fy (gL f) (.int n) d6):=λn hn=>by subst hn;obtain⟨k3,g3⟩:=UA p1.hp hi hc h1<|rf.put (f:=f) (x:=.int n)<|.int n;refine⟨dx,ps,h1,by rw[<-rf.length];lia,?_⟩;exact c.nx _ _ _ _ (k1.trans k3) g3 (p.en.keep<|k1.trans k3) q4
  rcases hz with⟨e,hz⟩|⟨e,hz⟩
  .exact⟨n1,n,rfl,rfl,.inl ⟨e,fin _ hz⟩⟩
  .exact⟨n1,n,rfl,rfl,.inr ⟨e,fin _ hz⟩⟩
abbrev Dfm(pr:â)(w:ô)(mg:Str->Option Â)(base:ă)(i:Inf)(P:O.Pg)(n:Nat)(f:String)(fa:È):Prop :=
 ∃fd ps,fM pr w i.K mg base (CX1 pr w) (2*n) fa fd ps (spF i P n f)/\Binds i.K fd ps []
variable {P:O.Pg} {n:Nat} {es:List Expr} {ms:O.Es} {p:Pos}
def LI{k:Nat}{Cn:String}{C f:È}(hK:X.K=i.K)(hi:i.ins Cn=fb)(hc:i.cl Cn C)(M:Mk i.K C f)(D:Dfm X.prog X.w X.mg X.base i P n (Cn ++ ".__init__") f)(hr:fL (2*n+1) X.A)
  (hg:Gl X<|gL Cn) (hm:X.mg (gL Cn)=eY (.ref C)) (cQ:(gL Cn==("__debug__" : Str))=fc)
  (ha:PA X (e::es)<|tAr X i (O.wF P n) ms k) (he:Ô (e::es) X.env=(fc,eval e X.env)::Ô es X.env) (hpl:(Ħ é<|Ô es X.env).any (·.1)=fc) :
  PE X (.Call (.Name (gL Cn) p) (e::es) [] é) (tE X i (O.wF P n)<|.make Cn ms):=by
 obtain⟨fd,ps,F,hb⟩:=D;rw[<-hK]at F hb M;intro Á s σ H Q I h;obtain⟨env,G,Qm,Em,pr,w,c⟩:=h;refine Gh (E:=XK1 i H Em) M F hr hg hm hb .nil (XW.passes pr.xo) ha cQ he hpl Á s σ H Q I ⟨env,G,_,Em,pr,w,λvs G1 H1 xs k1 g1 r1 hl w1 x dx hx hd ű=>?_⟩;have ka:fE H1<|upd H1 dx<|.own x:=fE.new hd;have hx2:upd H1 dx (.own x) x=eZ:=by rw[fe λz=>ű z.symm];exact hx
 have kb:fE (upd H1 dx<|.own x)<|upd (upd H1 dx<|.own x) x<|.ins C dx []:=fE.new hx2;have g2:RH i G1<|upd H1 dx<|.own x:=W0 g1 hd;have g3:RH i (O.upd G1 x<|.ins Cn [])<|upd (upd H1 dx<|.own x) x<|.ins C dx []:=g2.put kb ⟨C,dx,[],hi,hc,ff,.nil⟩;have k:=ka.trans kb;refine⟨.ref x::vs,_,_,Em,.cons (.ref x) (by rw[ċ];exact r1.keep k),g3,w1 x<|g1.free hx,?_,λcls d H' h=>(h.go k).go k1⟩;intro v G' H' y k' g' rv ⟨hv,hq⟩;subst hv;exact⟨rv.non_inv,c _ G' H' _ ((k1.trans k).trans k') g' (.ref x) hq⟩
variable {m:String}
def Ku{v:O.Val}(h:O.clsV G v m=eY C):∃a fs,v=.ref a/\G a=eY (.ins C fs)/\fs.lookup m=eZ:=by
 obtain⟨a,h1,h⟩:=ì.mp h;obtain⟨p,h2,h3⟩:=ì.mp h;have e:=Jv h2;by_cases z:(p.2.lookup m).isNone=fb
 .rw[gD z]at h3;cases h3;exact⟨a,p.2,Jb h1,e,aQ.mp z⟩
 .rw[gE z]at h3;cases h3
variable {Ő:Pos} {pl:Sem Bool}
def IZ{k:Nat}{Cn:String}{C f:È}(hK:X.K=i.K)(hfn:∀c,i.cl Cn c->c=C)(A:Cls i.K C)(M:Meth i.K C (gL m) f)(D:Dfm X.prog X.w X.mg X.base i P n (Cn ++ "." ++ m) f)(hr:fL (2*n) X.A)
  (ho:PE X o<|tE X i (O.wF P n) mo) (ha:PA X (e::es)<|tAr X i (O.wF P n) ms k) (he:Ô (e::es) X.env=(fc,eval e X.env)::Ô es X.env) (hpl:(Ħ é<|Ô es X.env).any (·.1)=fc)
  (ht:eval (.Call (.Attribute o (gL m) Ő) (e::es) [] é) X.env=(do
    let ov<-eval o X.env
    ϊ Ő.atName
    let (f,first)<-ņ [ov] (ϗ ov (gL m) pl)
    cB é f first (Ħ é<|Ô (e::es) X.env) (Ž é<|ŋ [] X.env))) :
  PE X (.Call (.Attribute o (gL m) Ő) (e::es) [] é) (tE X i (O.wF P n)<|.meth Cn m mo ms):=by
 obtain⟨fd,ps,F,hb⟩:=D;rw[<-hK]at F hb M A;intro Á s σ H Q I h;obtain⟨env,G,Qm,Em,pr,w,c⟩:=h;refine FH (E:=XK1 i H Em) ho A M F hr hb .nil (XW.passes pr.xo) ha he hpl ht Á s σ H Q I<|one pr w λv G1 H1 x k1 p1 rv q=>?_;obtain⟨hq,w1⟩:=q;obtain⟨a,fs,rfl,e2,e3⟩:=Ku hq;cases rv.ref_inv;obtain⟨c',dx,cU,hi,hc,h1,rf⟩:=p1.hp a _ e2;cases hfn c' hc;refine⟨a,dx,cU,rfl,h1,rf.look.2 e3,env,G1,_,Em,p1,w1,λvs G2 H2 xs k2 g2 r2 hl w2=>?_⟩;exact⟨.ref a::vs,G2,Qm,Em,.cons (.ref a) (by rw[ċ];exact r2),g2,w2,(c.go k1).go k2,λcls d H' h=>(h.go k2).go k1⟩
def Ev{Cn:String}{C f:È}(hK:X.K=i.K)(hfn:∀c,i.cl Cn c->c=C)(A:Cls i.K C)(M:Meth i.K C (gL m) f)(D:Dfm X.prog X.w X.mg X.base i P n (Cn ++ "." ++ m) f)(hr:fL (2*n) X.A)
  (ho:PE X o<|tE X i (O.wF P n) mo)
  (ht:eval (.Call (.Attribute o (gL m) Ő) [] [] é) X.env=(do
    let ov<-eval o X.env
    ϊ Ő.atName
    let (f,first)<-ņ [ov] (ϗ ov (gL m) pl)
    cB é f first (Ħ é<|Ô [] X.env) (Ž é<|ŋ [] X.env))) :
  PE X (.Call (.Attribute o (gL m) Ő) [] [] é) (tE X i (O.wF P n)<|.meth Cn m mo .nil):=by
 obtain⟨fd,ps,F,hb⟩:=D;rw[<-hK]at F hb M A;intro Á s σ H Q I h;obtain⟨env,G,Qm,Em,pr,w,c⟩:=h;refine BX (E:=XK1 i H Em) ho A M F hr hb .nil (XW.passes pr.xo) ht Á s σ H Q I<|one pr w λv G1 H1 x k1 p1 rv q=>?_;obtain⟨hq,w1⟩:=q;obtain⟨a,fs,rfl,e2,e3⟩:=Ku hq;cases rv.ref_inv;obtain⟨c',dx,cU,hi,hc,h1,rf⟩:=p1.hp a _ e2;cases hfn c' hc;refine⟨a,dx,cU,rfl,h1,rf.look.2 e3,?_⟩;exact⟨[.ref a],G1,Qm,Em,.cons (.ref a) .nil,p1.hp,w1,c.go k1,λcls d H' h=>h.go k1⟩
def F6(hK:X.K=i.K)(D:Dfo X.prog X.w X.mg X.base i P n f)(hr:fL (2*n) X.A)(hg:Gl X<|gL f)(cQ:(gL f==("__debug__" : Str))=fc) :
  PE X (.Call (.Name (gL f) p) [] [] é) (tE X i (O.wF P n)<|.call f .nil):=by
 obtain⟨fa,fd,ps,F,hm,hk,hb⟩:=D;rw[<-hK]at F hk hb;intro Á s σ H Q I h;obtain⟨env,G,Qm,Em,pr,w,c⟩:=h;refine Ch (E:=XK1 i H Em) F hr hg hm hk hb .nil (XW.passes pr.xo) cQ Á s σ H Q I ?_;exact⟨[],G,Qm,Em,.nil,pr.hp,w,c,λcls d H' h=>h⟩
abbrev Ut(X:Cx)(i:Inf)(Φ:O.Fs):O.Es->List (TE×TE)
 |.cons k (.cons v r)=>(tE X i Φ k,tE X i Φ v)::Ut X i Φ r
 |_=>[]
abbrev W6:O.Es->Bool
 |.nil=>fb
 |.cons _ .nil=>fc
 |.cons _ (.cons _ r)=>W6 r
abbrev esL:O.Es->Nat
 |.nil=>0
 |.cons _ es=>esL es+1
abbrev Uu:List V->List (V×V)
 |x::y::r=>(x,y)::Uu r
 |_=>[]
def MJ:∀(es:O.Es),W6 es=fb->∀{σ:St}{H:Hp}{env:O.Env}{G:O.Hs}{Qm:List O.Val->O.Hs->Prop}{Em:O.XQ}{Q:List (V×V)->Hp->Prop},Pre X i σ H env G Em->O.wA Φ es env G Qm Em->
  (∀vs G' H' xs,fE H H'->RH i G' H'->RVs i.K H' vs xs->xs.length=esL es->Qm vs G'->Q (Uu xs) H')->Mf (Ut X i Φ es) σ H Q
 |.nil,_,σ,H,env,G,Qm,Em,Q,p,w,c=>by rw[O.q_a_nil]at w;exact c [] G H [] (fE.refl H) p.hp .nil rfl w
 |.cons k .nil,h,_,_,_,_,_,_,_,_,_,_=>by cases h
 |.cons k (.cons v r),h,σ,H,env,G,Qm,Em,Q,p,w,c=>by rw[O.q_a_cons]at w;refine one p w λa G1 H1 x k1 p1 ra q=>?_;rw[O.q_a_cons]at q;refine one p1 q λb G2 H2 y k2 p2 rb q2=>?_;refine MJ r h p2 q2 λvs G' H' xs k3 g3 rv hl hq=>?_;exact c (a::b::vs) G' H' (x::y::xs) ((k1.trans k2).trans k3) g3 (.cons ((ra.keep k2).keep k3)<|.cons (rb.keep k3) rv) (by rw[Ë,Ë,hl];rfl) hq
def JS{K:Frag}{H:Hp}:∀{vs:List O.Val}{xs:List V}{kvs:List (O.Val×O.Val)},RVs K H vs xs->O.pairUp vs=eY kvs->∃ps:List<|Key×V,Uu xs=ps.map (λkv=>(kV kv.1,kv.2))/\RKs K H kvs ps/\2*ps.length=xs.length
 |[],_,_,r,e=>by cases r;cases e;exact⟨[],rfl,.nil,rfl⟩
 |[_],_,_,_,e=>by cases e
 |a::b::vs,_,kvs,r,e=>by
  cases r with
  |cons ra r=>cases r with
  |cons rb t =>
  rename_i y _;unfold O.pairUp at e;split at e
  .rename_i hk;obtain⟨ks,e2,rfl⟩:=Î.mp e;obtain⟨ps,h1,h2,h3⟩:=JS t e2;obtain⟨c,hc,rfl⟩:=fx hk ra;refine⟨(c,y)::ps,?_,.cons hc rb h2,by rw[Ë,Ë,Ë];lia⟩;show(kV c,y)::Uu _=_;rw[h1];rfl
  .cases e
def RKs.merge{K:Frag}{H:Hp}:∀{kvs:List (O.Val×O.Val)}{ps:List (Key×V)}{ģ:List (O.Val×O.Val)}{bs:List (Key×V)},RKs K H ģ bs->RKs K H kvs ps->RKs K H (O.putAll ģ kvs) (Y3 bs ps)
 |_,_,_,_,r,.nil=>r
 |_,_,ģ,bs,r,.cons (k:=k) (v:=v) (c:=c) (x:=x) (kvs:=kvs) (ps:=ps) a q t=>by show RKs K H (O.putAll (O.fI ģ k v) kvs) (Y3 (L2.fI bs c x) ps);exact RKs.merge (RKs.put a q r) t
variable {é:Pos}
def LZ:PE X (.Dict [] [] é) (tE X i Φ<|.dct .nil) :=
 pe_dnewK.imp λσ H Q ⟨env,G,Qm,Em,p,w,c⟩=>by rw[O.q_e_dct]at w;unfold O.new at w;intro a ha;have w1:=w a<|p.hp.free ha;obtain⟨a',e,w2⟩:=fh w1;cases e;rw[O.q_a_nil]at w2;obtain⟨ks,e2,_,w3⟩:=fh w2;cases e2;rw[O.fg]at w3;have k:=fE.new (o:=.dK []) ha;exact c _ _ _ _ k (p.hp.put (o:=.dct []) k ⟨[],ff,.nil⟩) (.ref a) w3
def Qt{es:O.Es}{keys:List (Option Expr)}{Ο:List Expr}(he:W6 es=fb)(h30:esL es<=30)(h:PPs X é keys Ο<|Ut X i Φ es)(hall:keys.all (·.isSome)=fb)(hl:keys.length=Ο.length)(h0:keys≠[])(h15:keys.length<=15):PE X (.Dict keys Ο é) (tE X i Φ<|.dct es) :=
 (EI h hall hl h0 h15).imp λσ H Q ⟨env,G,Qm,Em,p,w,c⟩=>by
  rw[O.q_e_dct]at w;unfold O.new at w;intro a ha;have w1:=w a<|p.hp.free ha;obtain⟨a',e,w2⟩:=fh w1;cases e;have k:=fE.new (o:=.dK []) ha;have p2:Pre X i σ (upd H a<|.dK []) env (O.upd G a<|.dct []) Em:=p.go k<|p.hp.put (o:=.dct []) k ⟨[],ff,.nil⟩;refine MJ es he p2 w2 λvs G' H' xs k2 g2 rv hl w3=>?_;obtain⟨ks,e2,e3,w4⟩:=fh w3;obtain⟨ps,e4,r4⟩:=g2 a _ e3;cases r4;obtain⟨qs,h1,h2,h3⟩:=JS rv e2;refine⟨e4,qs,h1,by lia,?_⟩;have k3:fE H'<|upd H' a<|.dK<|Y3 [] qs:=fE.put (λxs e=>by rw[e4]at e;cases e) λp u e=>by rw[e4]at e;cases e
  exact c _ _ _ _ ((k.trans k2).trans k3) (g2.put (o:=.dct<|O.putAll [] ks) k3 ⟨_,ff,(RKs.merge .nil h2).keep k3⟩) (.ref a) w4
end Snd
namespace L2
open PySem PySem.Spec PyProof.Rows
section
variable {X:Cx}{Á:List (È×Obj)}{σ:St}{H:Hp}{s:Å}{a:È}{o:Obj}{ps:List (Key×V)}
def Inv.freeze(I:Inv X Á σ H s)(e:H a=eY (.dK ps))(ho:s.heap.get? a=eY o):Inv X Á σ (upd H a<|.frz o<|.dK ps) s:=by have h:=I.hok a _ e;exact I.write (t':=s.toks) (x:=a) (e:=a) (h':=s.heap) (by rw[e];exact True.intro) (.inl rfl) (λ_ _ _ q=>q) ⟨o,ho⟩ ⟨ho,h⟩
def Inv.thaw(I:Inv X Á σ H s)(e:H a=eY (.frz o<|.dK ps))(h0:∀o u,X.H₀ a≠eY (.frz o u)):Inv X Á σ (upd H a<|.dK ps) s:=by
 have hn:∀b,H b=eZ->upd H a (.dK ps) b=eZ:=λb z=>by rw[fe<|by rintro rfl;rw[e]at z;cases z];exact z
 have ho:=I.hok a _ e;refine⟨I.ok,I.os,I.bare,⟨I.base.keep,I.base.slot,λb ob q n hx=>hn b<|I.base.free b ob q n hx,I.base.there,λb xs q=>?_,λb ob u q=>?_,λb qs q=>?_⟩,I.loc,I.cell,hn _ I.free,λx c q=>hn _<|I.freeC x c q,λp hp=>?_,λb u q=>?_,I.len⟩
 .have z:=I.base.tups b xs q;rw[fe<|by rintro rfl;rw[e]at z;cases z];exact z
 .have z:=I.base.frzs b ob u q;rw[fe<|by rintro rfl;exact h0 _ _ q];exact z
 .obtain⟨m,z⟩:=I.base.tbls b qs q;exact⟨m,by rw[fe<|by rintro rfl;rw[e]at z;cases z];exact z⟩
 .obtain⟨q1,q2,q3,q4,q5⟩:=I.pin p hp;exact⟨q1,hn _ q2,q3,q4,q5⟩
 .by_cases hb:b=a
  .subst hb;rw[ff]at q;cases q;exact ho.2
  .rw[fe hb]at q;refine(I.hok b u q).stay (λ_ _ _ q=>q) (λc z=>?_) λc xs z=>?_
   .rw[fe<|by rintro rfl;rw[e]at z;cases z];exact z
   .rw[fe<|by rintro rfl;rw[e]at z;cases z];exact z
end
abbrev Ends.thaw(X:Cx)(D:Ends):Ends where
 nx:=λσ H=>∃a o ps,H a=eY (.frz o<|.dK ps)/\(∀o u,X.H₀ a≠eY (.frz o u))/\D.nx σ (upd H a<|.dK ps)
 rt:=λv H=>∃a o ps,H a=eY (.frz o<|.dK ps)/\(∀o u,X.H₀ a≠eY (.frz o u))/\D.rt v (upd H a<|.dK ps)
 bk:=D.bk
 ct:=D.ct
variable {X:Cx}
def E7{st:ŀ}{t:TS}(h:PS X st t):PS X st λD σ H=>t (D.thaw X) σ H:=λÁ s σ H D I q =>
 thn (h Á s σ H _ I q) λf s' z=>by
  cases f with
  |next =>obtain⟨ŏ,H',I',a,o,ps,e,h0,q⟩:=z;exact⟨ŏ,_,I'.thaw e h0,q⟩
  |ret u =>obtain⟨v,ŏ,H',I',r,a,o,ps,e,h0,q⟩:=z;exact⟨v,ŏ,_,I'.thaw e h0,r,q⟩
  |brk=>exact z
  |cont=>exact z
abbrev Iti(a:È)(o:Obj)(ps:List<|Key×V):It :=
 ⟨λi H=>H a=eY (.frz o<|.dK ps)/\i<ps.length,λi H v H'=>∃p k x,v=.ref p/\H p=eZ/\ps[i]?=eY (k,x)/\H'=upd H p (.tup [kV k,x]),λi H=>H a=eY (.frz o<|.dK ps)/\ps.length<=i⟩
def D8{k:Key}{u:Â}(h:Jc k u=fb):RelV (kV k) u:=by
 rcases Zo h with⟨i,t,rfl,rfl⟩|⟨x,t,rfl,rfl⟩
 .exact⟨t,rfl⟩
 .exact⟨t,rfl⟩
def KV.at:∀{ps:List (Key×V)}{vs:List (Key×Â)}{i:Nat}{k:Key}{x:V},KV ps vs->ps[i]?=eY (k,x)->∃u,vs[i]?=eY (k,u)/\RelV x u:=by
 intro ps vs i k x r;unfold KV at r;induction r generalizing i with
 |nil=>intro h;simp at h
 |@cons p q ps qs h t ih =>
  intro e;cases i with
  |zero =>simp at e;subst e;obtain⟨q1,q2⟩:=q;obtain⟨h1,h2⟩:=h;have h1:k=q1:=h1;subst h1;exact⟨q2,rfl,h2⟩
  |succ i=>simpa using ih (by simpa using e)
section
variable {X:Cx}{Á:List (È×Obj)}{σ:St}{H:Hp}{s:Å}{a:È}{o:Obj}{ps:List (Key×V)}{es:Array DictEntry}{ep:Nat}
def X0(I:Inv X Á σ H s)(e:H a=eY (.frz o<|.dK ps))(hd:o.data=.dict es ep):∃vs,KV ps vs/\s.heap.DictAt (Zc X.prog X.w) a vs ep:=by
 obtain⟨ho,_,_,vs,ů,o2,es2,ep2,h1,h2,h3,h4⟩:=(show fo X.prog X.w H s.heap a (.frz o<|.dK ps) from I.hok a _ e)
 rw[ho]at h1;cases h1;rw[hd]at h3;cases h3;exact⟨vs,ů,o,es,ho,h2,hd,h4⟩
end
variable {P:â} {w:ô} {es:List Expr} {kk:Nat} {tp:Pos} {ds:Array DictEntry} {ep:Nat} {o:Obj} {ps:List (Key×V)}
def Oj{K:Frag}(a it:È)(hd:o.data=.dict ds ep) :
  Turn P w K (.Tuple es kk tp) (Iti a o ps) [it] it (λi h=>∃ok ov,IsItemIter h it a i ps.length ep ok ov) where
 mem:=by simp
 obj:=λi h st b hb=>by
  obtain⟨ok,ov,h1⟩:=st;have q:b=it:=by simpa using hb
  subst q;exact⟨_,h1,λv z=>by cases z⟩
 keep:=λi h h' ⟨ok,ov,h1⟩ k=>⟨ok,ov,k it (by simp) _ h1⟩
 item:=by
  intro X hP hw hK hc i Á s σ H E I hf st hg;subst hP hw hK;obtain⟨e,hi⟩:=hg;obtain⟨ok,ov,h1⟩:=st;obtain⟨vs,ů,da⟩:=X0 I e hd;have hl:ps.length=vs.length:=ů.length;have hx:ps[i]?=eY ps[i]:=É hi;obtain⟨u,hu,ru⟩:=ů.at (k:=ps[i].1) (x:=ps[i].2) hx;rw[hl]at h1;refine wpAny_pyNext_items_item h1 da hu λkey h3 hk hout hT hsz hkeep=>?_;have hfi:=hf it (by simp);have bG:it<s.heap.objs.size:=Ñ h1;have nT:s.heap.objs.size≠it:=Ŕ bG;have bS:=I.fpOk (H':=H) (Ì s.heap.objs.size) I.fresh;refine⟨.ref s.heap.objs.size,rfl,wpAny_letOwnedTupleGo_items (s:={s with heap:=h3}) hout λh4 he4 hs4=>?_⟩;have I4:Inv X Á σ H {s with heap:=h4,toks:=s.toks}:=I.turnedL (t':=s.toks) (ch:=[it]) (λb ob hb q=>hs4.extBut b ob (λz=>hb<|by simp[z])<|hkeep b ob (λz=>hb<|by simp[z]) q) hf;have hT4:h4.get? s.heap.objs.size=eY {cls:=.type "tuple",data:=.seq #[key,u]}:=hs4.extBut _ _ nT hT;obtain⟨f0,f1,f2,f3,f4,f5⟩:=bS;have I5:Inv X Á σ (upd H s.heap.objs.size<|.tup [kV ps[i].1,ps[i].2]) {s with heap:=h4,toks:=s.toks}:=I4.track f0 I.sz f1 f4 f5 ⟨by show 2<=Õ;decide,[key,u],.cons (D8 hk)<|.cons ru .nil,_,hT4,rfl,_,rfl⟩;refine⟨.ref s.heap.objs.size,_,I5,rfl,⟨s.heap.objs.size,_,_,rfl,f0,hx,rfl⟩,⟨key,u,by rw[hl];exact he4⟩,λb hb=>?_⟩;have q:b=it:=by simpa using hb
  subst q;rw[fe nT.symm];exact hfi.1
 done:=by
  intro X hP hw hK hc i Á s σ H E I hf st hg;subst hP hw hK;obtain⟨e,hi⟩:=hg;obtain⟨ok,ov,h1⟩:=st;obtain⟨vs,ů,da⟩:=X0 I e hd;have hl:ps.length=vs.length:=ů.length;rw[hl]at h1 hi;refine wpAny_pyNext_items_end (I.ok.hd hc) h1 da (Ł hi) λh' he'=>⟨rfl,?_⟩
  exact I.turnedL (t':=s.toks) (ch:=[it]) (λb ob hb q=>he' b ob (λz=>hb<|by simp[z]) q) hf
 self:=λA i s Q E st h=>by obtain⟨ok,ov,h1⟩:=st;exact PySem.W.kcp_self h1 h
abbrev Itk(a:È)(o:Obj)(ps:List<|Key×V):It :=
 ⟨λi H=>H a=eY (.frz o<|.dK ps)/\i<ps.length,λi H v H'=>H'=H/\∃k x,ps[i]?=eY (k,x)/\v=kV k,λi H=>H a=eY (.frz o<|.dK ps)/\ps.length<=i⟩
variable {tg:Expr}
def U1{K:Frag}(a it:È)(hd:o.data=.dict ds ep) :
  Turn P w K tg (Itk a o ps) [it] it (λi h=>h.IsKeyIter it a i ps.length ep) where
 mem:=by simp
 obj:=λi h st b hb=>by
  obtain⟨ob,h1,_,h2⟩:=st;have q:b=it:=by simpa using hb
  subst q;exact⟨ob,h1,λv z=>by rw[h2]at z;cases z⟩
 keep:=λi h h' st k=>st.at λo e=>k it (by simp) o e
 item:=by intro X hP hw hK hc i Á s σ H E I hf st hg;subst hP hw hK;obtain⟨e,hi⟩:=hg;obtain⟨vs,ů,da⟩:=X0 I e hd;have hl:ps.length=vs.length:=ů.length;have hx:ps[i]?=eY ps[i]:=É hi;obtain⟨u,hu,ru⟩:=ů.at (k:=ps[i].1) (x:=ps[i].2) hx;rw[hl]at st;refine wpAny_pyNext_dict_item st da hu λkey h3 hk st3 hs=>?_;have I3:Inv X Á σ H {s with heap:=h3,toks:=s.toks}:=I.turnedL (t':=s.toks) (ch:=[it]) (λb ob hb q=>hs.extBut b ob (λz=>hb<|by simp[z]) q) hf;obtain⟨ob,ho,aM,hda⟩:=id st3;refine⟨key,rfl,fi (s:={s with heap:=h3,toks:=s.toks}) ho aM hda (by decide) ⟨kV ps[i].1,H,I3,D8 hk,⟨rfl,_,_,hx,rfl⟩,?_,λb hb=>(hf b hb).1⟩⟩;show h3.IsKeyIter it a (i+1) ps.length ep;rw[hl];exact st3
 done:=by
  intro X hP hw hK hc i Á s σ H E I hf st hg;subst hP hw hK;obtain⟨e,hi⟩:=hg;obtain⟨vs,ů,da⟩:=X0 I e hd;have hl:ps.length=vs.length:=ů.length;rw[hl]at st hi;refine wpAny_pyNext_dict_end (I.ok.hd hc) st da (Ł hi) λh' he'=>⟨rfl,?_⟩
  exact I.turnedL (t':=s.toks) (ch:=[it]) (λb ob hb q=>he' b ob (λz=>hb<|by simp[z]) q) hf
 self:=λA i s Q E st h=>wpAny_pyIter_keyiter st h
abbrev IS(X:Cx)(J:È->Obj->List (Key×V)->It)(td:TE):TI:=λσ H R=>td σ H λx H1=>∃a ps,x=.ref a/\H1 a=eY (.dK ps)/\∀o,(∀o u,X.H₀ a≠eY (.frz o u))->R (J a o ps) (upd H1 a<|.frz o<|.dK ps)
variable {d:Expr} {td:TE}
def CW{Ő š:Pos}(hd:PE X d td)(aE:Ĩ d "items" X.env (eval d X.env)=eval d X.env)(aG:(Ő.endLine==š.line)=fb) :
  PI X (.Tuple es kk tp) (.Call (.Attribute d "items" Ő) [] [] š) (IS X Iti td):=by
 intro Á s σ H R I h;refine wpAny_Call_method0_late aE aG<|thn (hd Á s σ H _ I h) λv s1 ⟨x,H1,I1,r1,a,ps,ex,ea,q1⟩=>?_;subst ex;obtain rfl:v=Value.ref a:=r1;obtain⟨t1,t2,t3⟩:=LJ I1<|.inl ⟨ps,.inl ea⟩;refine⟨"dict","dict.items",PySem.F.plainAttrs_dict,PySem.F.slot_dict_items,PySem.F.type_dict_items,t1,t2,Calls.callWith_builtin rfl<|PySem.evalArgs_none ?_⟩;obtain⟨z,hsm,vs,ů,dd⟩:=Wu I1.hok ea;refine Ϥ PySem.F.slot_dict_items dd.typeIs PySem.F.entry_dict_items (PySem.F.args_dict_items_1 _) (meets_dict_items (Zc X.prog X.w) a hsm) ⟨⟨vs,dd⟩,?_⟩;have I2:Inv X Á σ H1 {s1 with heap:=s1.heap.push {cls:=.type "dict_items",data:=.fields #[.ref a]}}:=I1.kept (t':=s1.toks) λb o e=>Ä _ e;obtain⟨z2,hsm2,vs2,rel2,de⟩:=Wu I2.hok ea;obtain⟨ep,da⟩:=de.dictAt;refine wpAny_pyIter_items (s:={s1 with heap:=s1.heap.push {cls:=.type "dict_items",data:=.fields #[.ref a]}}) (d:=a) ⟨_,Ð _ rfl,rfl,rfl⟩ da ?_;have I3:=I2.kept (t':=s1.toks) (h':=(s1.heap.push {cls:=.type "dict_items",data:=.fields #[.ref a]}).push {cls:=.type "dict_itemiterator",data:=.fields #[.none,.bool fc,.ref a,.int 0 0,.int vs2.length 0,.int ep 0,.none,.none]}) λb o e=>Ä _ e;obtain⟨ob,ds,ho,_,hdat,_⟩:=da;have I4:=I3.freeze ea<|Ä _ ho;refine⟨_,[_],_,_,_,rfl,I4,Oj a _ hdat,⟨.none,.none,?_⟩,λb hb=>?_,q1 ob λo u z=>by have:=I1.base.frzs a o u z;rw[ea]at this;cases this⟩
 .rw[rel2.length];exact Ð _ rfl
 .have e:b=(s1.heap.push {cls:=.type "dict_items",data:=.fields #[.ref a]}).objs.size:=by simpa using hb
  subst e;have hn:=I2.hok.fresh<|Ì (s1.heap.push {cls:=.type "dict_items",data:=.fields #[.ref a]}).objs.size;exact I2.fpOk (Ì _) (by rw[fe<|by intro z;rw[z]at hn;rw[ea]at hn;cases hn];exact hn)
def Gk(hd:PE X d td):PI X tg d<|IS X Itk td:=by
 intro Á s σ H R I h;refine thn (hd Á s σ H _ I h) λv s1 ⟨x,H1,I1,r1,a,ps,ex,ea,q1⟩=>?_;subst ex;obtain rfl:v=Value.ref a:=r1;obtain⟨z,hsm,vs,ů,dd⟩:=Wu I1.hok ea;obtain⟨ep,da⟩:=dd.dictAt;refine wpAny_pyIter_dict hsm da ?_;have I2:=I1.kept (t':=s1.toks) (h':=s1.heap.push {cls:=.type "dict_keyiterator",data:=.fields #[.ref a,.int 0 0,.int vs.length 0,.int ep 0]}) λb o e=>Ä _ e;obtain⟨ob,ds,ho,_,hdat,_⟩:=da;have I3:=I2.freeze ea<|Ä _ ho;refine⟨_,[_],_,_,_,rfl,I3,U1 a _ hdat,⟨_,Ð _ rfl,rfl,by rw[ů.length];rfl⟩,λb hb=>?_,q1 ob λo u z=>by have:=I1.base.frzs a o u z;rw[ea]at this;cases this⟩;have e:b=s1.heap.objs.size:=by simpa using hb
 subst e;have hn:=I1.hok.fresh<|Ì s1.heap.objs.size;exact I1.fpOk (Ì _) (by rw[fe<|by intro z;rw[z]at hn;rw[ea]at hn;cases hn];exact hn)
abbrev TupsH(I S:È)(items:Array Â)(val:Nat->List Int)(h:ă):Prop:=∀i v,items[i]?=eY v->∃a ð,v=.ref a/\a≠I/\a≠S/\ϰ h a ð/\ü ð.toList (val i)
def TupsH.keep{I S:È}{items:Array Â}{val:Nat->List Int}{h h':ă}(t:TupsH I S items val h)(k:∀b o,b≠I->b≠S->h.get? b=eY o->h'.get? b=eY o):TupsH I S items val h':=λi v e=>by obtain⟨a,ð,h1,h2,h3,⟨o,q1,q2⟩,h5⟩:=t i v e;exact⟨a,ð,h1,h2,h3,⟨o,k a o h2 h3 q1,q2⟩,h5⟩
abbrev btL(val:Nat->List Int)(i j:Nat):Bool:=HT.lexLt (val i)<|val j
section
variable {prog:â}{w:ô}{A:Ą}{R:aq->Å->Prop}{I l:È}{items:Array Â}{val:Nat->List Int}{kw:List (Str×Â)}{fp:List È}{St:Nat->ă->Prop}
def AS(W:Walks prog w A.in1 I fp [I] items.size (λi v=>items[i]?=eY v) St)(hu:A.units+1<ĩ)(S:È)(hSI:S≠I)(hSf:S∉fp) :
  ∀(k j:Nat) (s:Å) (vb:Â) (c:Nat),items.size - (j+1)=k->j+1<=items.size->St (j+1) s.heap->TupsH I S items val s.heap->items[ĺ (btL val) j]?=eY vb->
  s.heap.get? S=eY {cls:=.type "list",dict:=eZ,data:=.seq #[vb,vb] c,slots:=#[]}->
  (∀v h' tk,items[ĺ (btL val)<|items.size - 1]?=eY v->(∀b o,b≠I->b≠S->s.heap.get? b=eY o->h'.get? b=eY o)->R (.ok<|.ret v) {s with heap:=h',toks:=tk})->
  codeAny (Ù prog w) A (.builtin "min.loop" ⟨[.ref I,.none,.ref S],kw⟩) R s:=by
 have bj:(toString "min" ++ toString ".loop" : String) = "min.loop":=by decide
 have hSw:S∉[I]:=by simp[hSI]
 intro k;induction k with
 |zero =>
  intro j s vb c hk hj ι hT hPb hS hR;have hin:j+1=items.size:=by lia
  refine ĕ PySem.F.entry_min_loop ?_;rw[Ă PySem.F.plain_min_loop _];show wpAny _ A.in1 (ϙ (.ref S) >>= _) _ _ s;refine À<|ķ hS rfl ?_;show wpAny _ A.in1 (tryCatch (Ŭ<|.ref I) _ >>= _) _ _ s;refine À<|θ<|W.done s _ _ (hin▸ι) λh' tk aj=>?_;have hS':=aj S _ hSw hS;show wpAny _ A.in1 (dQ S (λ_=>#[]) >>= _) _ _ _;refine À ?_;refine Γ hS' rfl<|À<|bN<|Æ ?_;refine hR vb _ tk (by rw[<-hin];exact hPb) λb o hbw ei e=>(í _ _<|Ne.symm ei).trans (aj b o (by simpa using hbw) e)
 |succ k ih =>
  intro j s vb c hk hj ι hT hPb hS hR;have Χ:j+1<items.size:=by lia
  refine ĕ PySem.F.entry_min_loop ?_;rw[Ă PySem.F.plain_min_loop _];show wpAny _ A.in1 (ϙ (.ref S) >>= _) _ _ s;refine À<|ķ hS rfl ?_;show wpAny _ A.in1 (tryCatch (Ŭ<|.ref I) _ >>= _) _ _ s;refine À<|θ<|W.item (j+1) s _ _ Χ ι λv h' tk hP dF aj=>?_;have hS':=aj S _ hSw hS;have di:TupsH I S items val h':=hT.keep λb o h1 _ e=>aj b o (by simpa using h1) e;have hP:items[j+1]?=eY v:=hP;obtain⟨a,ð,rfl,_,_,pa,ia⟩:=di _ _ hP;obtain⟨b0,aD,rfl,_,_,pb,ib⟩:=di _ _ hPb;show wpAny _ A.in1 (tryCatch (ņ [.ref a,.ref a]<|ë .Lt (.ref a) (.ref b0) >>= _) _ >>= _) _ _ _;refine À<|θ<|ď<|À<|HT.lt_tupInts pa pb ia ib hu ?_;refine À<|ď<|Đ ?_;refine À<|bN<|Æ ?_;cases hb:HT.lexLt (val<|j+1) (val<|ĺ (btL val) j)with
  |true =>
   have bC:btL val (j+1) (ĺ (btL val) j)=fb:=hb;simp only[if_true];refine À ?_;refine Γ hS' rfl<|À<|bN ?_;rw[bj];refine Æ ⟨Ĵ PySem.F.plain_min_loop _,ih (j+1) _ (.ref a) _ (by lia) Χ (W.frame _ _ _ dF λb hbf o e=>?_) (di.keep λb o _ h2 e=>(í _ _<|Ne.symm h2).trans e) (by simp only[ĺ,bC,if_true];exact hP) (Ď _ hS' rfl)
     λv' h'' tk'' hP' hk''=>?_⟩
   .exact(í _ _ λh:S=b=>hSf<|by rw[h];exact hbf).trans e
   .exact hR v' h'' tk'' hP' λb o hbw ei e=>hk'' b o hbw ei ((í _ _<|Ne.symm ei).trans<|aj b o (by simpa using hbw) e)
  |false =>have bC:btL val (j+1) (ĺ (btL val) j)=fc:=hb;simp only[Į,if_false];refine À<|bN ?_;rw[bj];refine Æ ⟨Ĵ PySem.F.plain_min_loop _,ih (j+1) _ (.ref b0) c (by lia) Χ dF di (by simp only[ĺ,bC,Į,if_false];exact hPb) hS' λv' h'' tk'' hP' hk''=>?_⟩;exact hR v' h'' tk'' hP' λb o hbw ei e=>hk'' b o hbw ei (aj b o (by simpa using hbw) e)
variable {s:Å} {c:Nat}
def Oh(W:Walks prog w A.in1 I fp [I] items.size (λi v=>items[i]?=eY v) St)(hu:A.units+1<ĩ)(S:È)(hSI:S≠I)(hSf:S∉fp)(hn:0<items.size)(ι:St 0 s.heap)(hT:TupsH I S items val s.heap)
  (hS:s.heap.get? S=eY {cls:=.type "list",dict:=eZ,data:=.seq #[] c,slots:=#[]})
  (hR:∀v h' tk,items[ĺ (btL val)<|items.size - 1]?=eY v->(∀b o,b≠I->b≠S->s.heap.get? b=eY o->h'.get? b=eY o)->R (.ok<|.ret v) {s with heap:=h',toks:=tk}) :
  codeAny (Ù prog w) A (.builtin "min.loop" ⟨[.ref I,.none,.ref S],kw⟩) R s:=by
 have bj:(toString "min" ++ toString ".loop" : String) = "min.loop":=by decide
 have hSw:S∉[I]:=by simp[hSI]
 refine ĕ PySem.F.entry_min_loop ?_;rw[Ă PySem.F.plain_min_loop _];show wpAny _ A.in1 (ϙ (.ref S) >>= _) _ _ s;refine À<|ķ hS rfl ?_;show wpAny _ A.in1 (tryCatch (Ŭ<|.ref I) _ >>= _) _ _ s;refine À<|θ<|W.item 0 s _ _ hn ι λv h' tk hP dF aj=>?_;have hS':=aj S _ hSw hS;have di:TupsH I S items val h':=hT.keep λb o h1 _ e=>aj b o (by simpa using h1) e;show wpAny _ A.in1 (dQ S (λ_=>#[v,v]) >>= _) _ _ _;refine À ?_;refine Γ hS' rfl ?_;rw[bj];refine Æ ⟨Ĵ PySem.F.plain_min_loop _,AS W hu S hSI hSf _ 0 _ v _ rfl hn (W.frame _ _ _ dF λb hbf o e=>?_) (di.keep λb o _ h2 e=>(í _ _<|Ne.symm h2).trans e) hP (Ď _ hS' rfl) λv' h'' tk'' hP' hk''=>?_⟩
 .exact(í _ _ λh:S=b=>hSf<|by rw[h];exact hbf).trans e
 .exact hR v' h'' tk'' hP' λb o hbw ei e=>hk'' b o hbw ei ((í _ _<|Ne.symm ei).trans<|aj b o (by simpa using hbw) e)
def U4(hh:A.handled=eZ)(hlI:l≠I)(S:È)(hSI:S≠I)(hn:items.size=0){nm:Str}{d:Â}(ι:s.heap.IsListIter I l 0/\s.heap.IsList l items)
  (hS:s.heap.get? S=eY {cls:=.type "list",dict:=eZ,data:=.seq #[] c,slots:=#[]})
  (hR:∀h' tk,(∀b o,b≠I->s.heap.get? b=eY o->h'.get? b=eY o)->R (.ok<|.ret d) {s with heap:=h',toks:=tk}) :
  codeAny (Ù prog w) A (.builtin "min.loop" ⟨[.ref I,.none,.ref S],[(nm,d)]⟩) R s:=by
 have W:=Walks.list (prog:=prog) (w:=w) (A:=A.in1) hh I l hlI items;refine ĕ PySem.F.entry_min_loop ?_;rw[Ă PySem.F.plain_min_loop _];show wpAny _ A.in1 (ϙ (.ref S) >>= _) _ _ s;refine À<|ķ hS rfl ?_;show wpAny _ A.in1 (tryCatch (Ŭ<|.ref I) _ >>= _) _ _ s;refine À (θ<|W.done s _ _ (by rw[hn];exact ι) λh' tk aj=>?_);show wpAny _ A.in1 (rule _ >>= λ_=>ret d) _ _ _;exact À (π<|Æ<|hR h' tk λb o hb e=>aj b o (by simpa using hb) e)
end
def Ab(a:Â):ϣ "min" ⟨[a],[(gL "default",.none)]⟩:=by unfold ϣ;kernel_rfl
def JJ(bt:Nat->Nat->Bool):∀k,ĺ bt k<=k
 |0=>Ì _
 |k+1=>by
  unfold ĺ;split
  .exact Ì _
  .exact Nat.le_succ_of_le<|JJ bt k
def Mb:∀{xs:List V}{us:List Â}{i:Nat}{u:Â},gq xs us->us[i]?=eY u->∃x,xs[i]?=eY x/\RelV x u
 |_,_,_,_,.nil,e=>by simp at e
 |_,_,0,_,.cons r _,e=>by simp at e;subst e;exact⟨_,rfl,r⟩
 |_,_,i+1,_,.cons _ t,e=>by obtain⟨x,h1,h2⟩:=Mb (i:=i) t (by simpa using e);exact⟨x,by simpa using h1,h2⟩
section
variable {X:Cx}
def An{Á:List (È×Obj)}{s:Å}{σ:St}{H:Hp}{a:È}{xs:List V}{Ė:List (List Int)}{Q:VK}(hc:X.calm=fb)(hu:X.A.units+1<ĩ)(I:Inv X Á σ H s)(hl:gm X.K H a xs)(hr:Ė.length=xs.length)
  (ht:∀i,i<Ė.length->∃p,xs[i]?=eY (.ref p)/\gp X.K H p ((Ė.getD i []).map V.int))
  (q0:xs=[]->Q .non H) (q1:xs≠[]->∀x,xs[ĺ (btL λi=>Ė.getD i [])<|xs.length - 1]?=eY x->Q x H) :
  wpAny (Ù X.prog X.w) X.A (call (.builtin "min") [.ref a] [(gL "default",.none)]) (EP X Á σ Q) X.xe s:=by
 have bj:(toString "min" ++ toString ".loop" : String) = "min.loop":=by decide
 obtain⟨ð,rv,pl,hz⟩:=I.list hl;have hlen:=rv.length;have dG:=pl.isList;obtain⟨ol,hol,_⟩:=id dG;have hll:a<s.heap.objs.size:=Ñ hol;refine PyProof.Rows.kmk_tree PySem.F.kind_min PySem.F.plain_min PySem.F.entry_min (Ab _) ?_;show wpAny _ X.A.in1 (Builtin.Builtins.bindParams "min" ["key","default"] 0 ⟨[],[(gL "default",.none)]⟩ >>= _) _ _ s;refine À (ϳ (show Builtin.Builtins.bindParams "min" ["key","default"] 0 ⟨[],[(gL "default",.none)]⟩=pure [eZ,eY .none] from rfl) ?_);refine À<|Æ ?_;refine À<|ſ dG ?_;refine À<|dz ?_<|ğ _;rw[bj];have hS:(s.heap.push {cls:=.type "list_iterator",data:=.fields #[.ref a,.int 0 0]}).objs.size=s.heap.objs.size+1:=size_push' ..;have hlI:a≠s.heap.objs.size:=Ý hll;have hSI:(s.heap.push {cls:=.type "list_iterator",data:=.fields #[.ref a,.int 0 0]}).objs.size≠s.heap.objs.size:=by rw[hS];exact Ŕ<|Ğ _
 have hSl:(s.heap.push {cls:=.type "list_iterator",data:=.fields #[.ref a,.int 0 0]}).objs.size≠a:=by rw[hS];exact Ŕ<|Ķ hll
 have kk:∀b o,s.heap.get? b=eY o->((s.heap.push {cls:=.type "list_iterator",data:=.fields #[.ref a,.int 0 0]}).push<|Μ "list" #[] 0).get? b=eY o:=λb o e=>Ä _<|Ä _ e;have gI:((s.heap.push {cls:=.type "list_iterator",data:=.fields #[.ref a,.int 0 0]}).push<|Μ "list" #[] 0).get? s.heap.objs.size=eY {cls:=.type "list_iterator",data:=.fields #[.ref a,.int 0 0]} :=
  Ä _ (Ð _ rfl)
 have gS:((s.heap.push {cls:=.type "list_iterator",data:=.fields #[.ref a,.int 0 0]}).push<|Μ "list" #[] 0).get? (s.heap.push {cls:=.type "list_iterator",data:=.fields #[.ref a,.int 0 0]}).objs.size=eY (Μ "list" #[] 0):=Ð _ rfl;have ϩ:∀b o,s.heap.get? b=eY o->b≠s.heap.objs.size/\b≠(s.heap.push {cls:=.type "list_iterator",data:=.fields #[.ref a,.int 0 0]}).objs.size:=λb o e=>by have:=Ñ e;rw[hS];exact⟨Ý this,Ý<|Ķ this⟩
 have ι:Heap.IsListIter ((s.heap.push {cls:=.type "list_iterator",data:=.fields #[.ref a,.int 0 0]}).push<|Μ "list" #[] 0) s.heap.objs.size a 0/\Heap.IsList ((s.heap.push {cls:=.type "list_iterator",data:=.fields #[.ref a,.int 0 0]}).push<|Μ "list" #[] 0) a ð.toArray:=by refine⟨⟨_,gI,rfl,rfl⟩,?_⟩;obtain⟨o,e,r⟩:=dG;exact⟨o,kk _ _ e,r⟩
 refine Æ ⟨Ĵ PySem.F.plain_min_loop _,?_⟩;by_cases h0:xs=[]
 .have hi:ð.toArray.size=0:=by rw[Í,<-hlen,h0];rfl
  refine U4 (I:=s.heap.objs.size) (A:=X.A) (l:=a) (items:=ð.toArray) (I.ok.hd hc) hlI _ hSI hi ι gS λh' tk hk=>?_;exact⟨.non,H,I.kept (t':=tk) λb o e=>hk b o (ϩ b o e).1<|kk b o e,rfl,q0 h0⟩
 .have hi:0<ð.toArray.size:=by
   rw[Í,<-hlen];exact ϧ.mpr h0
  refine Oh (A:=X.A) (items:=ð.toArray) (val:=λi=>Ė.getD i []) (Walks.list (A:=X.A.in1) (I.ok.hd hc) s.heap.objs.size a hlI ð.toArray) hu _ hSI (λz=>(Ç.mp z).elim hSI λz=>hSl<|à.mp z) hi ι (λi v e=>?_) gS λv h' tk hv hk=>?_
  .have e:ð[i]?=eY v:=by simpa using e
   have hi':i<Ė.length:=by rw[hr,hlen];exact(Ò.mp e).1
   obtain⟨p,cr,hp2⟩:=ht i hi';obtain⟨x,hx,rx⟩:=Mb rv e;rw[cr]at hx;cases hx;obtain rfl:v=Value.ref p:=rx;obtain⟨tt,r2,⟨o2,e2,rest⟩,_⟩:=I.tuple hp2;exact⟨p,tt.toArray,rfl,(ϩ p o2 e2).1,(ϩ p o2 e2).2,⟨o2,kk _ _ e2,rest⟩,ZB r2⟩
  .have hv:ð[ĺ (btL λi=>Ė.getD i [])<|xs.length - 1]?=eY v:=by rw[hlen];simpa using hv
   obtain⟨x,hx,rx⟩:=Mb rv hv;exact⟨x,H,I.kept (t':=tk) λb o e=>hk b o (ϩ b o e).1 (ϩ b o e).2<|kk b o e,rx,q1 h0 x hx⟩
abbrev Py(K:Frag)(ta:TA):TE:=λσ H Q=>ta σ H λvs H1=>∃a xs,∃Ė:List<|List Int,vs=[.ref a]/\gm K H1 a xs/\Ė.length=xs.length/\
 (∀i,i<Ė.length->∃p,xs[i]?=eY (.ref p)/\gp K H1 p ((Ė.getD i []).map V.int))/\(xs=[]->Q .non H1)/\(xs≠[]->∀x,xs[ĺ (btL λi=>Ė.getD i [])<|xs.length - 1]?=eY x->Q x H1)
def F3{e:Expr}{ta:TA}{p é kp kpos:Pos}{kk:Nat}(hc:X.calm=fb)(hu:X.A.units+1<ĩ)(hg:Gl X "min")(hm:X.mg "min" = eZ)(ha:PA X [e] ta)(hs:Ô [e] X.env=[(fc,eval e X.env)]) :
  PE X (.Call (.Name "min" p) [e] [⟨eY "default",.Constant .none kk kp,kpos⟩] é) (Py X.K ta):=by
 intro Á s σ H Q I h;refine Ĳ (YN (u:=.builtin "min") I hg hm (by kernel_rfl) ?_);refine PyProof.Rows.callWith_kw (e:=e) (rest:=[]) ?_ (by rw[hs];rfl) (by rw[hs];rfl) rfl rfl;refine thn (ha é Á s σ H _ I h) λus s1 ⟨vs,H1,I1,r1,a,xs,Ė,ev,hl,hr,ht,q0,q1⟩=>?_;subst ev;obtain⟨u,rfl,ru⟩:=ZL r1;cases ru;refine PyProof.Rows.kws_cons<|thn (D1 Á s1 σ H1 (λv H2=>v=.non/\H2=H1) I1 ⟨rfl,rfl⟩) λv s2 ⟨x,H2,I2,r2,e1,e2⟩=>PyProof.Rows.kws_nil ?_;subst e1 e2;obtain rfl:v=Value.none:=r2;exact An hc hu I2 hl hr ht q0 q1
def Wg{P:â}{w:ô}:∀{ns:List Int}{vs:List (Key×Â)}{ģ:List Â},vs.map (·.1)=ns.map Sum.inl->ģ.length=vs.length->(∀(j:Nat) (v:Â),ģ[j]?=eY v->∃(k:Key) (x:Â),vs[j]?=eY (k,x)/\(Zc P w).is k v=fb)->ü ģ ns
 |[],[],[],_,_,_=>.nil
 |[],_::_,_,h,_,_=>by cases h
 |_::_,[],_,h,_,_=>by cases h
 |[],[],_::_,_,h,_=>by cases h
 |_::_,_::_,[],_,h,_=>by cases h
 |n::ns,p::vs,u::ģ,h1,h2,h3=>by rw[Ï,Ï]at h1;injection h1 with h1 h1';obtain⟨k,x,e1,e2⟩:=h3 0 u rfl;simp at e1;subst e1;have h1:k=Sum.inl n:=h1;subst h1;obtain⟨t,rfl⟩:∃t,u=Value.int n t:=D8 (k:=Sum.inl n) (u:=u) e2;exact .cons n t (Wg (P:=P) (w:=w) h1' (by simpa using h2) λj v e=>by simpa using h3 (j+1) v (by simpa using e))
def K6(hc:X.calm=fb):fm X (.builtin "sorted") (λxs H Q=>∃p kvs,∃ns:List Int,xs=[.ref p]/\Rd H p (.dK kvs)/\kvs.map (·.1)=ns.map Sum.inl/\ns.length<64/\∀l,H l=eZ->Q (.ref l) (upd H l<|.lst<|(sortI ns).map V.int)):=by
 intro Á s σ H xs us Q I r h;obtain⟨p,kvs,ns,rfl,hp,hk,h64,q⟩:=h;obtain⟨u,rfl,rx⟩:=ZL r;cases rx;obtain⟨z,hsm,vs,ů,dd⟩:=Wa I.hok hp;obtain⟨ep,da⟩:=dd.dictAt;have hlen:vs.length=ns.length:=by have:=congrArg List.length hk;simpa[ů.length]using this
 refine Calls.call_function_entry kind_sorted plain_sorted entry_sorted (args_sorted1 _) ?_;unfold Builtin.«sorted»;refine À (m:=checkCount "sorted" 1 1 _)<|Æ ?_;refine À (PySem.W.kdu_collect (A:=X.A.in1) (PySem.W.kdl_dict (knd:=Zc X.prog X.w) (kvs:=vs) (ep:=ep) hsm) (I.ok.hd hc) da (by rw[<-ů.length];exact z) λh' tk ģ hkeep hacc=>?_);have hl:ģ.toList.length=vs.length:=by rw[ï];exact hacc.1
 refine À (dz ?_<|by rw[hl,<-ů.length];exact z);have hI:ü ģ.toList ns:=Wg (P:=X.prog) (w:=X.w) (by rw[<-ů.keys];exact hk) hl λj v e=>hacc.2 j v (by rw[<-ą];exact e);have hoL:(h'.push<|Μ "list" ģ.toList.toArray 0).get? h'.objs.size=eY (Μ "list" ģ.toList.toArray 0):=Ð _ rfl;have I1:Inv X Á σ H {s with heap:=h',toks:=tk}:=I.kept hkeep;refine À (ď<|ĉ slot_list_sort ⟨_,hoL,rfl⟩ entry_list_sort (list_sort_tree hoL hI (by rw[hl,hlen];exact h64) λout cq a1 a2 a3=>⟨_,rfl,?_⟩)<|args_list_sort _);have e:=YL a2 a3;subst e;obtain⟨n,he⟩:=sortedHeap_at (out:=out) hoL;refine Æ ⟨_,rfl,.ref h'.objs.size,_,I1.laid (a:=h'.objs.size) (o:=.lst<|(sortI ns).map V.int) (t':=tk) (λb o e=>?_) (Ì _) ?_,rfl,q _<|I1.hok.fresh<|Ì _⟩
 .have e:h'.get? b=eY o:=e;have hb:=Ñ e;rw[sortedHeap_old (Ý hb)<|by rw[size_push'];exact Ķ hb];exact Ä _ e
 .exact⟨by rw[Ã,YD];unfold Õ;lia,out.toList,n,YA a1,by simpa[Μ]using he⟩
end
end L2
namespace Srt
open PySem.W PyProof.Rows
abbrev ok(n:Nat)(lt:Nat->Nat->Bool){α:Type}:KasT α->(α->Prop)->Prop
 |.ret a,Q=>Q a
 |.ask i j k,Q=>i<n/\j<n/\ok n lt (k<|lt i j) Q
section
variable {n:Nat}{lt:Nat->Nat->Bool}
abbrev K(p:Array Nat)(k:Nat):Nat:=p.getD k 0
structure Good(n:Nat)(p:Array Nat):Prop where
 sz:p.size=n
 pm:p.toList.Perm<|List.range n
variable {p:Array Nat}
def Good.at(g:Good n p)(h0:0<n)(k:Nat):K p k<n:=by
 unfold K;by_cases h:k<p.size
 .have e:p.getD k 0=p[k]:=by simp[υ,h]
  rw[e];have:p[k]∈List.range n:=g.pm.mem_iff.mp (by simp);exact Ŵ.mp this
 .have e:p.getD k 0=0:=by simp[υ,h]
  rw[e];exact h0
def Good.rev(g:Good n p)(i j:Nat):Good n<|kas_rev p i j:=⟨(mirror_size ..).trans g.sz,(Array.perm_iff_toList_perm.mp<|mirror_perm ..).trans g.pm⟩
end
end Srt
namespace L2
open PySem PySem.Spec PyProof.Rows PySem.W
section
variable {prog:â}{w:ô}{A:Ą}{E:Â->Å->Prop}{s:Å}
abbrev RowsAt(h:ă)(vs:List Â)(Ė:List<|List Int):Prop:=Ė.length=vs.length/\∀i,i<vs.length->∃p o ð n,vs.getD i Value.none=.ref p/\h.get? p=eY o/\o.cls=.type "tuple"/\o.data=.seq ð n/\ü ð.toList (Ė.getD i [])/\Ė.getD i []≠[]
def RowsAt.keep{h h':ă}{vs:List Â}{Ė:List (List Int)}(r:RowsAt h vs Ė)(k:∀b o,h.get? b=eY o->o.cls=.type "tuple"->h'.get? b=eY o):RowsAt h' vs Ė:=⟨r.1,λi hi=>by
  obtain⟨p,o,ð,n,h1,h2,h3,h4,h5⟩:=r.2 i hi
  exact⟨p,o,ð,n,h1,k p o h2 h3,h3,h4,h5⟩⟩
end
end L2
namespace Snd
open PySem L2
variable {i:Inf}{X:Cx}{Φ:O.Fs}
def MS{H:Hp}:∀{kvs:List (O.Val×O.Val)}{ps:List (Key×V)}{ns:List Int},RKs i.K H kvs ps->O.keysOf kvs=eY ns->ps.map (·.1)=ns.map Sum.inl
 |_,_,ns,.nil,e=>by have e:eY []=eY ns:=e;cases e;rfl
 |(k,v)::kvs,_,ns,.cons (c:=c) hk _ t,e=>by
  have e:O.fk (k::kvs.map (·.1))=eY ns:=e;cases k with
  |int j =>
   have e:(O.fk (kvs.map (·.1))).map (j :: ·)=eY ns:=e;obtain⟨ms,z,rfl⟩:=Î.mp e;have ih:=MS (ns:=ms) t z;cases c with
   |inl l =>have hk:j=l:=hk;subst hk;rw[Ï,Ï,ih]
   |inr _=>exact(show False from hk).elim
  |_=>cases e
def RVs.perm{H:Hp}{vs:List O.Val}{xs:List V}(r:RVs i.K H vs xs):∀(ps:List Nat),(∀k∈ps,k<vs.length)->RVs i.K H (ps.map λk=>vs.getD k .non) (ps.map λk=>xs.getD k .non)
 |[],_=>.nil
 |k::ps,h=>by have hk:=h k î;obtain⟨x,h1,h2⟩:=r.get<|É hk;refine .cons ?_<|RVs.perm r ps λj hj=>h j<|Þ _ hj;show RV i.K H (vs.getD k .non) (xs.getD k .non);rw[ÿ,ÿ,É hk,h1];exact h2
def KF:∀{ys:List O.Val}{ns:List Int},O.fk ys=eY ns->ys=ns.map .int
 |[],_,e=>by cases e;rfl
 |y::ys,ns,e=>by
  cases y with
  |int j =>obtain⟨ms,z,rfl⟩:=Î.mp (show(O.fk ys).map (j :: ·)=eY ns from e);rw[Ï,<-KF z]
  |_=>cases e
def MR{H:Hp}:∀{xs:List O.Val}{us:List V}{Ė:List (List Int)},RVs i.K H xs us->O.rowsOf xs=eY Ė->Ė.length=us.length/\(∀n,n<Ė.length->∃p,us[n]?=eY (.ref p)/\gp i.K H p ((Ė.getD n []).map V.int))/\xs=Ė.map λr=>.tup (r.map .int)
 |_,_,Ė,.nil,e=>by have e:eY []=eY Ė:=e;cases e;exact⟨rfl,λn h=>gJ h<|Nat.not_lt_zero _,rfl⟩
 |v::xs,_,Ė,.cons r t,e=>by
  cases v with
  |tup ys =>
   obtain⟨ns,z1,e⟩:=ì.mp (show(O.fk ys).bind (λns=>(O.rowsOf xs).map (ns :: ·))=eY Ė from e);obtain⟨rs,z2,rfl⟩:=Î.mp e;obtain⟨h1,h2,h3⟩:=MR t z2;cases r with
   |tup hp hr =>
    have:=ZT z1 hr;subst this;refine⟨by rw[Ë,Ë,h1],λn hn=>?_,?_⟩
    .cases n with
     |zero=>exact⟨_,rfl,Zi hp⟩
     |succ n=>exact h2 n (by simpa using hn)
    .rw[Ï,<-h3];have:ys=ns.map .int:=KF z1;rw[this]
  |_=>cases e
def OR:gh i .sortedI (λxs H Q=>(∃p,∃ns:List Int,xs=[.ref p]/\gm i.K H p (ns.map V.int)/\ns.length<64/\∀l,H l=eZ->Q (.ref l) (upd H l<|.lst<|(L2.sortI ns).map V.int))\/
    (∃p kvs,∃ns:List Int,xs=[.ref p]/\Rd H p (.dK kvs)/\kvs.map (·.1)=ns.map Sum.inl/\ns.length<64/\∀l,H l=eZ->Q (.ref l) (upd H l<|.lst<|(L2.sortI ns).map V.int))):=by
 intro vs G H xs Q Qm g r w c;obtain⟨v,rfl,w⟩:=XF w;obtain⟨x,rfl,rx⟩:=r.inv1;have key:∀(ns:List Int),(if ns.length<64 then O.Rs.new (.lst<|(O.sortI ns).map .int)else .no).wp G Qm->ns.length<64/\∀l,H l=eZ->Q (.ref l) (upd H l<|.lst<|(L2.sortI ns).map V.int):=λns w=>by
  split at w
  .rename_i h64;exact⟨h64,ZX g (Wm w) c λp hp=>⟨_,ff,RVs.ints _⟩⟩
  .exact(Zf w).elim
 cases v with
 |ref a =>
  cases rx.ref_inv
  replace w:(O.biSortedI G<|.ref a).wp G Qm:=w
  unfold O.biSortedI O.sortAny at w;dsimp only at w;cases z:G a with
  |none=>rw[z]at w;exact(Zf w).elim
  |some o =>
   rw[z]at w;cases o with
   |lst ys =>
    cases z2:O.fk ys with
    |none=>simp only[z2]at w;exact(Zf w).elim
    |some ns =>simp only[z2]at w;obtain⟨us,h1,h2⟩:=g a _ z;have:=ZT z2 h2;subst this;exact .inl ⟨a,ns,rfl,gm.of h1,key ns w⟩
   |dct kvs =>
    cases z2:O.keysOf kvs with
    |none=>simp only[z2]at w;exact(Zf w).elim
    |some ns =>simp only[z2]at w;obtain⟨ps,h1,h2⟩:=g a _ z;exact .inr ⟨a,ps,ns,rfl,.inl h1,MS h2 z2,key ns w⟩
   |_=>exact(Zf w).elim
 |scr ns =>
  cases rx with
  |scr h=>exact .inl ⟨_,ns,rfl,Z8 h,key ns w⟩
 |_=>exact(Zf w).elim
end Snd
namespace Snd
open PySem L2 PyProof.Rows
variable {i:Inf}{X:Cx}{Φ:O.Fs}
def KS:∀(ns:List Int) (a:Int),a∈O.dedup ns↔a∈ns
 |[],a=>Iff.rfl
 |x::xs,a=>by
  have ih:=KS xs a;unfold O.dedup;simp only[Ç,ę,ih];constructor
  .rintro(h|h)
   .exact .inl h
   .exact .inr h.1
  .rintro(h|h)
   .exact .inl h
   .by_cases e:a=x
    .exact .inl e
    .exact .inr ⟨h,by simpa using e⟩
def Wy:∀ns:List Int,(O.dedup ns).Nodup
 |[]=>ı
 |x::xs=>by unfold O.dedup;rw[ć];refine⟨λh=>?_,List.Nodup.sublist ŧ<|Wy xs⟩;have:=(ę.mp h).2;simp at this
def Jx:∀(ns ģ:List Int),ģ.Nodup->(ns.foldl ŝ ģ).Nodup/\∀a,a∈ns.foldl ŝ ģ↔a∈ģ\/a∈ns
 |[],ģ,h=>⟨h,λa=>by simp⟩
 |x::xs,ģ,h=>by
  have h2:(ŝ ģ x).Nodup/\∀a,a∈ŝ ģ x↔a∈ģ\/a=x:=by
   unfold ŝ;split
   .rename_i hc;have hm:x∈ģ:=by simpa using hc
    exact⟨h,λa=>⟨.inl,λz=>z.elim id λe=>e▸hm⟩⟩
   .rename_i hc;have hm:x∉ģ:=by simpa using hc
    refine⟨?_,λa=>by simp⟩;rw[ç];refine⟨h,by simp,λa ha b hb=>?_⟩;rw[à.mp hb];exact λe=>hm<|e▸ha
  obtain⟨h3,h4⟩:=Jx xs (ŝ ģ x) h2.1;refine⟨h3,λa=>?_⟩;rw[ĵ,h4,h2.2,Ç];constructor
  .rintro((z|z)|z)
   .exact .inl z
   .exact .inr<|.inl z
   .exact .inr<|.inr z
  .rintro(z|z|z)
   .exact .inl<|.inl z
   .exact .inl<|.inr z
   .exact .inr z
def Nu(ns:List Int):(ζ (λi=>ns.getD i 0) ns.length).Perm<|O.dedup ns:=by
 have e:(List.range ns.length).map (λi=>ns.getD i 0)=ns:=by
  apply List.ext_getElem
  .simp
  .intro k h1 h2;simp at h1;simp[h1]
 unfold ζ;rw[e];obtain⟨h1,h2⟩:=Jx ns [] ı;refine(be h1<|Wy ns).mpr λa=>?_;rw[h2,KS];simp
def Fb(ns:List Int):(ζ (λi=>ns.getD i 0) ns.length).length=(O.dedup ns).length:=(Nu ns).length_eq
def MP{G:O.Hs}{H:Hp}{v:O.Val}{x:V}{ns:List Int}(g:RH i G H)(r:RV i.K H v x)(e:O.sortOf G v=eY ns):∃p,x=.ref p/\gm i.K H p (ns.map V.int):=by
 cases v with
 |ref a =>obtain⟨ys,z1,z2⟩:=ì.mp (show(O.fv<|G a).bind O.fk=eY ns from e);obtain⟨us,h1,h2⟩:=ZK g z1;have:=ZT z2 h2;subst this;exact⟨a,r.ref_inv,h1⟩
 |scr ms =>
  cases e;cases r with
  |scr h=>exact⟨_,rfl,Z8 h⟩
 |_=>cases e
def Kr:∀{xs:List O.Val}{k n:Nat}{v:O.Val},(O.enumL k xs)[n]?=eY v->∃x,xs[n]?=eY x/\v=.tup [.int ((k+n:Nat):Int),x]
 |[],k,n,v,h=>by simp[O.enumL]at h
 |x::xs,k,0,v,h=>by have h:eY (O.Val.tup [.int k,x])=eY v:=h;cases h;exact⟨x,rfl,rfl⟩
 |x::xs,k,n+1,v,h=>by obtain⟨y,h1,h2⟩:=Kr (xs:=xs) (k:=k+1) (n:=n) (v:=v) (by simpa[O.enumL]using h);refine⟨y,by simpa using h1,?_⟩;rw[h2,show k+1+n=k+(n+1) by lia]
def KM:∀(xs:List O.Val) (k:Nat),(O.enumL k xs).length=xs.length
 |[],_=>rfl
 |x::xs,k=>by show(O.enumL (k+1) xs).length+1=xs.length+1;rw[KM xs]
variable {xs:List O.Val}
def CJ{H0:Hp}{a:È}{us:List V}(ha:H0 a=eY (.tup us)\/KT i.K a us)(ra:RVs i.K H0 xs us):ItOk i H0 (Ite i.K a) (λ_=>True) (O.enumL 0 xs) where
 go:=λn G H v k g e hv=>by obtain⟨x,hx,rfl⟩:=Kr hv;have h1:gp i.K H a us:=Zi<|ha.imp (k.t _ _) id;obtain⟨x',h5,h6⟩:=(ra.keep k).get hx;refine⟨⟨us,x',h1,h5⟩,λw H' ⟨p,e1,hp,e2⟩=>?_⟩;subst e1;have:=e2 us x' h1 h5;subst this;have k:=fE.new (o:=.tup [.int n,x']) hp;refine⟨k,W0 g hp,.tup (.inl ff)<|.cons ?_<|.cons (h6.keep k) .nil⟩;rw[cK];exact .int _
 stop:=λn G H k g e hn=>by have h1:gp i.K H a us:=Zi<|ha.imp (k.t _ _) id;exact⟨us,h1,by rw[<-ra.length,<-KM xs 0];exact hn⟩
def Ov{v:O.Val}(h:O.tupOf v=eY xs):v=.tup xs:=by
 cases v with
 |tup ys=>cases h;rfl
 |_=>cases h
variable {p:Pos} {é:Pos} {e:Expr} {m:O.E}
def GJ{es:List Expr}{kk:Nat}{tp:Pos}(hK:X.K=i.K)(hg:Gl X "enumerate")(hm:X.mg "enumerate" = eZ)(he:PE X e<|tE X i Φ m)(hs:Ô [e] X.env=[(fc,eval e X.env)]) :
  PI X (.Tuple es kk tp) (.Call (.Name "enumerate" p) [e] [] é) (tIt X i Φ<|.enum m) :=
 (Dv hg hm (ZJ he gj hs) hs).imp λσ H R ⟨env,G,QI,Em,p,w,c⟩=>by
  change tE X i Φ m σ H _;refine one p w λv G1 H1 x k1 p1 rx q=>?_;obtain⟨xs,e1,q2⟩:=fh q;clear q;cases Ov e1;rw[hK];cases rx with
  |tup hp hr=>exact⟨_,rfl,⟨_,Zi hp⟩,c _ _ G1 H1 _ k1 p1.hp (CJ hp hr) q2⟩
def Cb{p2 cW:Pos}(hc:X.calm=fb)(hK:X.K=i.K)(he:PE X e<|tE X i Φ m)(hg:Gl X "len")(hm:X.mg "len" = eZ)(hg2:Gl X "set")(hm2:X.mg "set" = eZ)(ι:Ô [e] X.env=[(fc,eval e X.env)]) :
  PE X (.Call (.Name "len" p) [.Call (.Name "set" p2) [e] [] cW] [] é) (tE X i Φ<|.bi .lenSet<|.cons m .nil):=by
 refine(Z4 Bc hg hm (by kernel_rfl)<|ZJ (Yw Ec hg2 hm2 (by kernel_rfl) (ZJ he gj ι) (he:=ι)) gj).imp λσ H Q ⟨env,G,Qm,Em,p,w,c⟩=>?_;change tE X i Φ m σ H _;refine one p w λv G1 H1 x k1 p1 r q=>?_
 replace q:(O.biLenSet G1 v).wp G1 Qm:=q
 unfold O.biLenSet at q;cases z:O.sortOf G1 v with
 |none=>rw[z]at q;exact(Zf q).elim
 |some ns =>
  rw[z]at q;dsimp only at q;split at q
  .rename_i h4;obtain⟨a,rfl,hs⟩:=MP p1.hp r z;refine⟨a,ns,rfl,by rw[hK];exact hs,h4,hc,λl S n hl hn=>?_⟩;have hn2:=hn.trans<|Fb ns;clear hn;subst hn2;have k2:fE H1<|upd H1 l<|.set S (O.dedup ns).length:=fE.new hl;refine⟨l,S,_,rfl,ff,?_⟩;exact c _ G1 _ _ (k1.trans k2) (W0 p1.hp hl) (.int _)<|Zm q
  .exact(Zf q).elim
end Snd
namespace L2
open PySem PySem.Spec PyProof.Rows
open PySem.Builtin
def K8:typeLookup (.type "list") "keys" = pure eZ:=by rw[Δ,Š];kernel_rfl
def YR:aR table "dict.update.loop" = eY Builtin.«dict.update.loop»:=bw (by kernel_rfl)
def ZF:plainId "dict.update.loop" = fb:=by decide +kernel
section
variable {prog:â}{w:ô}{A:Ą}{E:Â->Å->Prop}
def AM{s:Å}{a:È}{xs:Array Â}{k:Nat}{Q:Option Â->Å->Prop}(hx:s.heap.get? a=eY {cls:=.type "list",data:=.seq xs k})(hA:A.handled=eZ)
  (h:∀h' tk,(∀b o,s.heap.get? b=eY o->h'.get? b=eY o)->Q eZ {s with heap:=h',toks:=tk}) :
  wpAny (Ù prog w) A (getAttr? (.ref a) "keys") Q E s:=by
 obtain⟨hp,g,d,tk,os⟩:=s;have hT:∀tk',(⟨hp,g,d,tk',os⟩:Å).TypeIs (.ref a) "list":=λ_=>⟨_,hx,rfl⟩
 have f1:=sub_AttributeError;have f3:=F.slot_list_getattribute.lookup;have f4:=F.slot_list_getattribute.bind<|.ref a;have f5:=am_list_getattr_none;unfold getAttr? getAttrBy? getAttrBy
 repeat (any_goals (first|assumption|exact hT _|((with_reducible show wpAny _ _ (call (Value.builtin "list.__getattribute__") _ _) _ _ _);refine av F.slot_list_getattribute (hT _) am_entry_list_getattribute (F.args_list_getattribute_2 _ _) (meets_getattribute_miss_list a xs k _ "keys" _ K8 (by decide)<|by size_fits) ⟨hx,hA,λh' tk' e hx'=>?_⟩)|wp_step))
 obtain⟨t',u',he⟩:=hx'.there;show wpAny _ _ (getattributeRaised _ _ _ _ _ _ _) _ _ _;unfold getattributeRaised
 repeat (any_goals (first|assumption|wp_step))
 exact h _ _ hx'.keeps
abbrev PairsH(I d:È)(items:Array Â)(vals:List<|Key×Â)(prog:â)(w:ô)(h:ă):Prop:=∀(i:Nat) (v:Â),items[i]?=eY v->∃(a:È) (key:Â) (p:Key×Â),v=.ref a/\a≠I/\a≠d/\vals[i]?=eY p/\ϰ h a #[key,p.2]/\(Zc prog w).is p.1 key=fb
variable {I:È} {d:È} {items:Array Â} {vals:List (Key×Â)}
def PairsH.keep{h h':ă}(t:PairsH I d items vals prog w h)(k:∀b o,b≠I->b≠d->h.get? b=eY o->h'.get? b=eY o):PairsH I d items vals prog w h':=λi v e=>by obtain⟨a,key,p,h1,h2,h3,h4,⟨o,q1,q2⟩,h5⟩:=t i v e;exact⟨a,key,p,h1,h2,h3,h4,⟨o,k a o h2 h3 q1,q2⟩,h5⟩
def Og{R:aq->Å->Prop}{l:È}(hh:A.handled=eZ)(hlI:l≠I)(hdI:d≠I)(hdl:d≠l)(hv:vals.length=items.size) :
  ∀(k j:Nat) (s:Å) (ģ:List<|Key×Â) (t:Tok),items.size - j=k->j<=items.size->(s.heap.IsListIter I l j/\s.heap.IsList l items)->PairsH I d items vals prog w s.heap->s.heap.DictOf (Zc prog w) d ģ->ģ.length+k<=Õ->
  (∀h' tk,h'.DictOf (Zc prog w) d ((vals.drop j).foldl (λm p=>eQ m p.1 p.2) ģ)->(∀b o,b≠I->b≠d->s.heap.get? b=eY o->h'.get? b=eY o)->R (.ok<|.ret .none) {s with heap:=h',toks:=tk})->
  codeAny (Ù prog w) A (.builtin "dict.update.loop" ⟨[.ref d,.ref I,.int j t,.none],[]⟩) R s:=by
 have W:=Walks.list (prog:=prog) (w:=w) (A:=A.in1) hh I l hlI items;intro k;induction k with
 |zero =>
  intro j s ģ t hk hj ι hT hd hz hR;have hin:j=items.size:=by lia
  refine ĕ YR ?_;rw[Ă ZF _];show wpAny _ A.in1 (Ŭ (.ref I) >>= _) _ _ s;refine À<|W.done s _ _ (hin▸ι) λh' tk aj=>?_;refine Æ ?_;refine hR h' tk ?_ λb o h1 _ e=>aj b o (by simpa using h1) e;rw[Ĺ<|by lia];obtain⟨o,es,ep,ho,r⟩:=hd;exact⟨o,es,ep,aj d o (by simpa using hdI) ho,r⟩
 |succ k ih =>
  intro j s ģ t hk hj ι hT hd hz hR;have Χ:j<items.size:=by lia
  refine ĕ YR ?_;rw[Ă ZF _];show wpAny _ A.in1 (Ŭ (.ref I) >>= _) _ _ s;refine À<|W.item j s _ _ Χ ι λv h' tk hP dF aj=>?_;have di:PairsH I d items vals prog w h':=hT.keep λb o h1 _ e=>aj b o (by simpa using h1) e;have hd':h'.DictOf (Zc prog w) d ģ:=by obtain⟨o,es,ep,ho,r⟩:=hd;exact⟨o,es,ep,aj d o (by simpa using hdI) ho,r⟩
  obtain⟨a,key,p,rfl,haI,had,hp,⟨o,ho,hc,n,hdat⟩,dC⟩:=di j v hP;show wpAny _ A.in1 (ņ [.ref a] ((tryCatch (Dict.pairItems<|.ref a) _) >>= _) >>= _) _ _ _;refine À<|ď<|À<|θ ?_;unfold Dict.pairItems;refine À<|ž (T:="tuple") ⟨o,ho,hc⟩ ?_;rw[gD<|by decide];refine À<|ķ ho hdat<|Æ ?_;show wpAny _ A.in1 (ņ [key,p.2]<|dictSet d key p.2) _ _ _;refine ď (wpAny_dictSet_pairs (hsz:=by lia) dC hd' λh'' hd'' hs''=>?_);have keep2:∀b o,b≠I->b≠d->s.heap.get? b=eY o->h''.get? b=eY o:=λb o h1 h2 e=>(hs''.2 b h2).trans (aj b o (by simpa using h1) e);refine Æ ⟨Ĵ ZF _,ih (j+1) _ (eQ ģ p.1 p.2) 0 (by lia) Χ (W.frame _ _ _ dF λb hb o e=>?_) (hT.keep keep2) hd'' ?_ λh3 tk3 hd3 hk3=>?_⟩
  .refine(hs''.2 b ?_).trans e;simp only[Ç,Ø,or_false]at hb;rcases hb with rfl|rfl
   .exact Ne.symm hdI
   .exact Ne.symm hdl
  .have:=stored_length_le ģ p.1 p.2;lia
  .refine hR h3 tk3 ?_ λb o h1 h2 e=>hk3 b o h1 h2<|keep2 b o h1 h2 e;have e:vals.drop j=p::vals.drop (j+1):=by
    rw[Ŧ<|by lia];congr 1;exact æ ((É<|by lia).symm.trans hp)
   rw[e];exact hd3
end
abbrev Dg(K:Frag)(H:Hp)(ys:List V)(kvs:List<|Key×V):Prop:=ys.length=kvs.length/\∀(i:Nat) (y:V),ys[i]?=eY y->∃(a:È) (p:Key×V),y=.ref a/\kvs[i]?=eY p/\gp K H a [kV p.1,p.2]
def KE{X:Cx}{Á:List (È×Obj)}{σ:St}{H:Hp}{s:Å}(I:Inv X Á σ H s){d J:È}(hJ:s.heap.objs.size<=J)(hd:s.heap.objs.size<=d):∀{ys:List V}{kvs:List (Key×V)}{ð:List Â},gq ys ð->ys.length=kvs.length->(∀(i:Nat) (y:V),ys[i]?=eY y->∃(a:È) (p:Key×V),y=.ref a/\kvs[i]?=eY p/\gp X.K H a [kV p.1,p.2])->
  ∃vals:List<|Key×Â,KV kvs vals/\vals.length=ð.length/\∀(i:Nat) (v:Â),ð[i]?=eY v->∃(a:È) (key:Â) (p:Key×Â),v=.ref a/\a≠J/\a≠d/\vals[i]?=eY p/\ϰ s.heap a #[key,p.2]/\(Zc X.prog X.w).is p.1 key=fb
 |[],[],[],_,_,_=>⟨[],.nil,rfl,λi v e=>by simp at e⟩
 |_::_,[],_,_,h,_=>by cases h
 |[],_::_,_,_,h,_=>by cases h
 |y::ys,(k,x)::kvs,_,.cons (b:=u) (l₂:=ð) r t,hl,h=>by
  obtain⟨a,p,rfl,e2,hq⟩:=h 0 y rfl;cases e2;obtain⟨vals,k1,k2,k3⟩:=KE I hJ hd t (by simpa using hl) λi z e=>h (i+1) z (by simpa using e);obtain⟨tt,r2,pt,_⟩:=I.tuple hq;obtain⟨ku,xu,rfl,rk,rx⟩:=r2.two;cases (show u=Value.ref a from r);have Χ:a<s.heap.objs.size:=pt.lt;refine⟨(k,xu)::vals,.cons ⟨rfl,rx⟩ k1,by simp[k2],λi v e=>?_⟩;cases i with
  |zero =>simp at e;subst e;exact⟨a,ku,(k,xu),rfl,Ý<|á Χ hJ,Ý<|á Χ hd,rfl,by simpa using pt,Xu rk⟩
  |succ i=>simpa using k3 i v (by simpa using e)
def KV.all{kvs:List (Key×V)}{vals:List (Key×Â)}(r:KV kvs vals):∀{m:List (Key×V)}{n:List (Key×Â)},KV m n->KV (kvs.foldl (λm p=>fI m p.1 p.2) m) (vals.foldl (λm p=>eQ m p.1 p.2) n):=by
 unfold KV at r;induction r with
 |nil=>exact λh=>h
 |cons q t ih =>intro m n h;rename_i a b l1 l2;obtain⟨k,x⟩:=a;obtain⟨k2,u⟩:=b;obtain⟨e,rx⟩:=q;cases (show k=k2 from e);exact ih<|h.put k rx
def Eg(kvs:List<|Key×V):∀m:List<|Key×V,(kvs.foldl (λm p=>fI m p.1 p.2) m).length<=m.length+kvs.length:=by
 induction kvs with
 |nil=>intro m;simp
 |cons p r ih =>intro m;have h1:=ih<|fI m p.1 p.2;have h2:=Yg m p.1 p.2;rw[ĵ,Ë];lia
abbrev Bq(K:Frag):List V->Hp->VK->Prop:=λxs H Q=>∃p ys kvs,xs=[V.ref p]/\H p=eY (.lst ys)/\Dg K H ys kvs/\∀l,H l=eZ->Q (.ref l) (upd H l<|.dK<|kvs.foldl (λm p=>fI m p.1 p.2) [])
def Of{X:Cx}(hc:X.calm=fb):fm X (.type "dict")<|Bq X.K:=by
 intro Á s σ H xs us Q I r h;obtain⟨p,ys,kvs,rfl,hp,⟨hl,hpair⟩,q⟩:=h;obtain⟨u,rfl,ru⟩:=ZL r;cases ru;obtain⟨hz,ð,n,rv,bD⟩:=(show fo X.prog X.w H s.heap p (.lst ys) from I.hok p _ hp)
 have hlen:=rv.length;have hh:X.A.handled=eZ:=I.ok.hd hc;refine callType_codes (Q₁:=λobj ĝ=>obj=.ref s.heap.objs.size/\ĝ={s with heap:=s.heap.push {cls:=.type "dict",data:=.dict #[]}}) F.kt_called_dict (F.kt_typeCall_dict_1 _) F.entry_dict_init (kt_code_dict_new _ ⟨rfl,rfl⟩) ?_;rintro obj ĝ ⟨rfl,rfl⟩;have hnew:(s.heap.push {cls:=.type "dict",data:=.dict #[]}).DictOf (Zc X.prog X.w) s.heap.objs.size []:=Heap.DictOf.new s.heap;have hobj1:(s.heap.push {cls:=.type "dict",data:=.dict #[]}).get? p=eY {cls:=.type "list",data:=.seq ð.toArray n}:=Ä _ bD;have hplt:p<s.heap.objs.size:=Ñ bD;refine⟨hnew.typeIs,F.args_dict_init_2 _ _,?_⟩;unfold Builtin.«dict.__init__»;refine À ?_;unfold Builtin.Dict.selfAndRest;refine À<|wpAny_notOrdered_dict hnew.typeIs ?_;show wpAny _ _ (pure (s.heap.objs.size,[Value.ref p])) _ _ _;refine Æ ?_;show wpAny _ _ (Builtin.Dict.updateFrom "dict.__init__" s.heap.objs.size (.ref p) [] .none) _ _ _;unfold Builtin.Dict.updateFrom;refine À<|ž (T:="list") ⟨_,hobj1,rfl⟩ ?_;rw[gD<|by decide];refine À<|AM hobj1 hh λh2 tk2 hk2=>?_;rw[gD<|show(eZ:Option Â).isNone=fb from rfl];refine À<|π ?_;have hobj2:=hk2 _ _ hobj1;have hl2:h2.IsList p ð.toArray:=⟨_,hobj2,rfl,n,rfl⟩
 refine À<|ſ hl2 ?_;have old2:∀b o,s.heap.get? b=eY o->h2.get? b=eY o:=λb o e=>hk2 b o<|Ä _ e;have hdo2:h2.DictOf (Zc X.prog X.w) s.heap.objs.size []:=by obtain⟨o,es,ep,ho,r⟩:=hnew;exact⟨o,es,ep,hk2 _ _ ho,r⟩
 have hsz2:s.heap.objs.size<h2.objs.size:=by obtain⟨o,es,ep,ho,r⟩:=hdo2;exact Ñ ho
 obtain⟨vals,k1,k2,k3⟩:=KE I (d:=s.heap.objs.size) (J:=h2.objs.size) (Ÿ hsz2) (Ì _) rv hl hpair;have aY:∀b o,s.heap.get? b=eY o->(h2.push {cls:=.type "list_iterator",data:=.fields #[.ref p,Ģ 0]}).get? b=eY o:=λb o e=>Ä _<|old2 b o e;refine Æ ⟨Ĵ ZF _,?_⟩;refine Og (prog:=X.prog) (w:=X.w) (A:=X.A.in1) (I:=h2.objs.size) (l:=p) (d:=s.heap.objs.size) (items:=ð.toArray) (vals:=vals) hh (Ý<|Ŗ hplt hsz2) (Ý hsz2) (Ŕ hplt) (by rw[k2];simp) _ 0 _ [] 0 rfl (ğ _) ?_ (λi v e=>?_) ?_ ?_ λh3 tk3 hd3 hk3=>?_
 .exact⟨⟨_,Ð _ rfl,rfl,rfl⟩,⟨_,Ä _ hobj2,rfl,n,rfl⟩⟩
 .obtain⟨a,key,p2,e1,e2,e3,e4,⟨o,ho,r⟩,e6⟩:=k3 i v (by simpa using e);exact⟨a,key,p2,e1,e2,e3,e4,⟨o,aY a o ho,r⟩,e6⟩
 .exact hdo2.push _
 .simp only[ē,Í];lia
 .rw[bd]at hd3;have hn:=I.hok.fresh<|Ì s.heap.objs.size;have hzz:(kvs.foldl (λm p=>fI m p.1 p.2) []).length<=Õ:=by
   have:=Eg kvs [];rw[<-hl]at this;simp at this;lia
  refine⟨rfl,.ref s.heap.objs.size,upd H s.heap.objs.size<|.dK<|kvs.foldl (λm p=>fI m p.1 p.2) [],I.laid (t':=tk3) (λb u e=>?_) (Ì _)<|W8 hzz (beq_eq_false_iff_ne.mpr<|Ne.symm<|Ý I.big) (k1.all .nil) hd3,rfl,q _ hn⟩;have hb:=Ñ e;exact hk3 b u (Ý<|Ŗ hb hsz2) (Ý hb)<|aY b u e
def Ng:aR table "list_reverseiterator.__next__" = eY Builtin.«list_reverseiterator.__next__»:=bw (by kernel_rfl)
def Np(a:Â):ϣ "list_reverseiterator.__next__" ⟨[a],[]⟩:=by unfold ϣ;kernel_rfl
def slot_rnext:Slot "list_reverseiterator" "__next__" "list_reverseiterator.__next__" :=
 .of (owner:="list_reverseiterator") (n:="__next__") (by rw[Δ,Š];kernel_rfl) (by decide +kernel) (by decide +kernel) (by decide +kernel)
  (by first|exact .inl (by decide +kernel)|exact .inr<|by decide +kernel) (by rw[Ξ];kernel_rfl)
def W3:Slot "list_reverseiterator" "__iter__" "list_reverseiterator.__iter__" :=
 .of (owner:="list_reverseiterator") (n:="__iter__") (by rw[Δ,Š];kernel_rfl) (by decide +kernel) (by decide +kernel) (by decide +kernel)
  (by first|exact .inl (by decide +kernel)|exact .inr<|by decide +kernel) (by rw[Ξ];kernel_rfl)
def DC:aR table "list_reverseiterator.__iter__" = eY Builtin.«dict_keyiterator.__iter__» :=
 cL (id':="dict_keyiterator.__iter__") (by kernel_rfl) (by first|rfl|decide +kernel|(unfold String.splitOn;simp +decide [String.splitOnAux])) (by decide +kernel) (by kernel_rfl)
def DB(a:Â):ϣ "list_reverseiterator.__iter__" ⟨[a],[]⟩:=by unfold ϣ;kernel_rfl
abbrev RevIt(h:ă)(it l:È)(k:Int):Prop:=∃o,h.get? it=eY o/\o.cls=.type "list_reverseiterator"/\o.data=.fields #[.ref l,.int k 0]
section
variable {prog:â}{w:ô}{A:Ą}{E:Â->Å->Prop}{s:Å}
variable {it:È} {l:È}
def RevIt.typeIs{k:Int}(h:RevIt s.heap it l k):s.TypeIs (.ref it) "list_reverseiterator":=by obtain⟨o,h1,h2,_⟩:=h;exact⟨o,h1,h2⟩
variable {Q:Option Â->Å->Prop}
def BE{k:Nat}{items:Array Â}{x:Â}(bG:RevIt s.heap it l k)(hl:s.heap.IsList l items)(hx:items[k]?=eY x)
  (hQ:∀h',RevIt h' it l ((k:Int) - 1)->Ţ it s.heap h'->Q (eY x) {s with heap:=h'}):wpAny (Ù prog w) A (Ŭ<|.ref it) Q E s:=by
 have hT:=bG.typeIs;obtain⟨o,ho,hc,hd⟩:=id bG;obtain⟨ol,hol,_,nl,hdl⟩:=hl;unfold Ŭ;refine À<|al<|Ĕ (name:=gL "__next__") hT slot_rnext<|ĉ slot_rnext hT Ng ?_<|Np _;show wpAny _ _ (dN (.ref it) 1 >>= _) _ _ s;refine À<|ĭ ho hd (x:=.int k 0) rfl ?_;refine İ (λhab=>gJ hab<|by lia) λ_=>?_;show wpAny _ _ (dN (.ref it) 0 >>= _) _ _ s;refine À<|ĭ ho hd (x:=.ref l) rfl ?_;show wpAny _ _ (ϙ (.ref l) >>= _) _ _ s;refine À<|ķ hol hdl ?_;simp only[ä,hx];refine À (ĸ ho hd (by simp)<|Æ ⟨x,rfl,Æ<|hQ _ ?_<|þ ..⟩);exact⟨_,Ď _ ho<|Ϛ<|ŕ hd _,(ah ..).trans hc,by
   rw[ŕ hd];simp[Ģ]⟩
def GH(hh:A.handled=eZ)(bG:RevIt s.heap it l (-1))(hQ:∀h',Heap.ExtBut it s.heap h'->Q eZ {s with heap:=h'}):wpAny (Ù prog w) A (Ŭ<|.ref it) Q E s:=by have hT:=bG.typeIs;obtain⟨o,ho,hc,hd⟩:=id bG;unfold Ŭ;refine À<|al<|Ĕ (name:=gL "__next__") hT slot_rnext<|ĉ slot_rnext hT Ng ?_<|Np _;show wpAny _ _ (dN (.ref it) 1 >>= _) _ _ s;refine À<|ĭ ho hd (x:=.int (-1) 0) rfl ?_;refine İ (λ_=>?_) (λhab=>gJ (by decide) hab);refine À<|π ?_;refine À ?_;show wpAny _ _ (cE (.type "StopIteration") [] >>= _) _ _ _;refine À ?_;simp only[cE,newTuple];refine À (Ā ?_<|by size_fits);refine À (m:=η _ _) (ϳ (a:=Value.none) (by first|rfl|(simp only[η];rfl)) ?_);refine Ā ?_ (by size_fits);simp only[raiseNew];refine À<|dy ?_;rw[show A.in1.handled=eZ from hh];refine À<|Æ<|wpAny_throw ?_;refine À<|ϛ (T:="StopIteration") (b:=fb) ⟨_,Ð _ rfl,rfl⟩ cF ?_;exact Æ (hQ _ λb o _ e=>Ä _<|Ä _ e)
def CF{k:Int}{Q:Â->Å->Prop}(bG:RevIt s.heap it l k)(h:Q (.ref it) s):wpAny (Ù prog w) A (cA<|.ref it) Q E s:=by have hT:=bG.typeIs;refine aS hT W3<|ĉ W3 hT DC ?_<|DB _;show wpAny _ _ (ret<|.ref it) _ _ s;exact Æ ⟨_,rfl,"list_reverseiterator",_,hT,slot_rnext.lookup,h⟩
end
def Walks.rev{prog:â}{w:ô}{A:Ą}(hh:A.handled=eZ)(I ax:È)(ű:ax≠I)(items:Array Â) :
  Walks prog w A I [I,ax] [I] items.size (λi v=>items[items.size - 1 - i]?=eY v) (λi h=>RevIt h I ax ((items.size:Int) - 1 - i)/\h.IsList ax items) where
 sub:=λb hb=>by simp at hb;simp[hb]
 frame:=λ_ _ _ st hk=>⟨by obtain⟨o,h1,h2⟩:=st.1;exact⟨o,hk I (by simp) o h1,h2⟩,st.2.at λo e=>hk ax (by simp) o e⟩
 item:=λi s Q E hi st hQ=>by
  have e:(items.size:Int) - 1 - i=((items.size - 1 - i:Nat):Int):=by lia
  rw[e]at st;have Χ:items.size - 1 - i<items.size:=by lia
  refine BE st.1 st.2 (x:=items[items.size - 1 - i]) (by simp[Χ]) λh' hit' hs'=>?_;exact hQ _ h' s.toks (by simp[Χ]) ⟨by rw[show(items.size:Int) - 1 - ((i+1:Nat):Int)=((items.size - 1 - i:Nat):Int) - 1 by lia];exact hit',st.2.extBut hs'.extBut ű⟩ λb o hb e=>hs'.extBut b o (λh=>hb<|by simp[h]) e
 done:=λs Q E st hQ=>by rw[show(items.size:Int) - 1 - (items.size:Nat)=-1 by lia]at st;exact GH hh st.1 λh' he'=>hQ h' s.toks λb o hb e=>he' b o (λh=>hb<|by simp[h]) e
 self:=λ_ _ _ _ st hQ=>CF st.1 hQ
end L2
namespace L2
open PySem PySem.Spec PyProof.Rows
def call_dictK{X:Cx}:fm X (.type "dict") λxs H Q=>∃a kvs,xs=[V.ref a]/\H a=eY (.dK kvs)/\∀l,H l=eZ->Q (.ref l) (upd H l<|.dK kvs):=by intro Á s σ H xs us Q I r h;obtain⟨a,kvs,rfl,ha,q⟩:=h;obtain⟨u,rfl,ru⟩:=ZL r;cases ru;obtain⟨z,hd,vs,ů,dd⟩:=Wu I.hok ha;refine kt_call_dict (knd:=Zc X.prog X.w) hd dd (by rw[<-ů.length];exact z) λh' eh hs=>?_;have hn:=I.hok.fresh<|Ì s.heap.objs.size;refine⟨.ref s.heap.objs.size,upd H s.heap.objs.size<|.dK kvs,I.laid (t':=s.toks) (λb u e=>?_) (Ì _)<|W8 z (beq_eq_false_iff_ne.mpr<|Ne.symm<|Ý I.big) ů eh,rfl,q _ hn⟩;have hb:b≠s.heap.objs.size:=Ý<|Ñ e;rw[hs.2 b hb];exact Ä _ e
end L2
namespace Snd
open PySem L2
variable {i:Inf}{X:Cx}
def Je{h:O.Hs}{K:Frag}{H:Hp}:∀{xs:List O.Val}{kvs:List (O.Val×O.Val)}{vs:List V},O.pairsOf h xs=eY kvs->RVs K H xs vs->∃ps,Dg K H vs ps/\∀{m:List (O.Val×O.Val)}{m':List (Key×V)},RKs K H m m'->RKs K H (O.putAll m kvs) (ps.foldl (λm p=>L2.fI m p.1 p.2) m')
 |[],kvs,vs,e,r=>by cases e;cases r;exact⟨[],⟨rfl,λi y e=>by simp at e⟩,λh=>h⟩
 |v::xs,kvs,vs,e,r=>by
  unfold O.pairsOf at e;split at e
  .rename_i k x;obtain⟨hk,e⟩:=Zn e;obtain⟨rest,e1,rfl⟩:=Î.mp e;cases r with
   |cons ra t =>
    obtain⟨ps,⟨h1,h2⟩,h3⟩:=Je e1 t;cases ra with
    |tup hp hr =>
     cases hr with
     |cons rk t2 =>
      cases t2 with
      |cons rx t3 =>
       cases t3;obtain⟨c,kr,rfl⟩:=fx hk rk;refine⟨(c,_)::ps,⟨by simp[h1],λi y e=>?_⟩,λh=>h3<|h.put kr rx⟩;cases i with
       |zero=>simp at e;subst e;exact⟨_,_,rfl,rfl,Zi hp⟩
       |succ i=>exact h2 i y (by simpa using e)
  .cases e
def F1:gh i .dict λxs H Q=>(∃a kvs,xs=[V.ref a]/\H a=eY (.dK kvs)/\∀l,H l=eZ->Q (.ref l) (upd H l<|.dK kvs))\/Bq i.K xs H Q:=by
 intro vs G H xs Q Qm g r w c;obtain⟨v,rfl,w⟩:=XF w;obtain⟨x,rfl,rx⟩:=r.inv1;cases v with
 |ref a =>
  cases rx.ref_inv
  replace w:(match G a with|some (.dct kvs)=>O.Rs.new (.dct kvs)|some (.lst xs)=>(match O.pairsOf G xs with|some kvs=>O.Rs.new (.dct<|O.putAll [] kvs)|none=>.no)|_=>.no).wp G Qm:=w
  cases z:G a with
  |none=>rw[z]at w;exact(Zf w).elim
  |some o =>
   rw[z]at w;cases o with
   |dct kvs =>obtain⟨ps,h1,h2⟩:=g a _ z;exact .inl ⟨a,ps,rfl,h1,ZX g (Wm w) c λp hp=>⟨ps,ff,h2.keep<|fE.new hp⟩⟩
   |lst ys =>
    obtain⟨us,h1,h2⟩:=g a _ z;dsimp only at w;cases z2:O.pairsOf G ys with
    |none=>rw[z2]at w;exact(Zf w).elim
    |some kvs =>rw[z2]at w;obtain⟨ps,h3,h4⟩:=Je z2 h2;exact .inr ⟨a,us,ps,rfl,h1,h3,ZX g (Wm w) c λp hp=>⟨_,ff,(h4 .nil).keep<|fE.new hp⟩⟩
   |_=>exact(Zf w).elim
 |_=>exact(Zf w).elim
end Snd
namespace L2
open PySem
@[reducible] noncomputable def Ris(xs:Array Nat):Prop:=xs.toList.Pairwise (· < ·)
abbrev Ox(xs:Array Nat)(j lo:Nat):Prop:=lo<=xs.size/\(∀k x,k<lo->xs[k]?=eY x->x<j)/\∀k x,lo<=k->xs[k]?=eY x->j<=x
variable {xs:Array Nat} {a:Nat} {b:Nat} {x:Nat}
def Wc(h:Ris xs){y:Nat}(hab:a<b)(ha:xs[a]?=eY x)(hb:xs[b]?=eY y):x<y:=by rw[<-ą]at ha hb;obtain⟨h1,rfl⟩:=Ò.mp ha;obtain⟨h2,rfl⟩:=Ò.mp hb;exact List.pairwise_iff_getElem.mp h a b h1 h2 hab
def JG{xs:Array Nat}(h:Ris xs){j:Nat}:∀(f lo hi:Nat),hi - lo<=f->lo<=hi->hi<=xs.size->(∀k x,k<lo->xs[k]?=eY x->x<j)->(∀k x,hi<=k->xs[k]?=eY x->j<=x)->Ox xs j (aT xs j f lo hi)
 |0,lo,hi,h1,h2,h3,h4,h5=>by
  have e:lo=hi:=by lia
  subst e;exact⟨h3,h4,h5⟩
 |f+1,lo,hi,h1,h2,h3,h4,h5=>by
  unfold aT;by_cases hl:lo<hi
  .rw[gD hl];dsimp only;have hm:(lo+hi) / 2<xs.size:=by lia
   have hx:xs[(lo+hi) / 2]?=eY xs[(lo+hi) / 2]:=ú hm;have hg:xs.getD ((lo+hi) / 2) j=xs[(lo+hi) / 2]:=by simp[υ,hm]
   rw[hg];by_cases hc:xs[(lo+hi) / 2]<j
   .rw[gD hc];refine JG h f _ _ (by lia) (by lia) h3 (λk x hk hkx=>?_) h5;by_cases hkm:k=(lo+hi) / 2
    .subst hkm;rw[hx]at hkx;cases hkx;exact hc
    .exact Ŗ (Wc h (by lia) hkx hx) hc
   .rw[gE hc];refine JG h f _ _ (by lia) (by lia) (by lia) h4 λk x hk hkx=>?_;by_cases hkm:k=(lo+hi) / 2
    .subst hkm;rw[hx]at hkx;cases hkx;lia
    .exact ß (Nat.not_lt.mp hc) (Ÿ<|Wc h (by lia) hx hkx)
  .rw[gE hl];have e:lo=hi:=by lia
   subst e;exact⟨h3,h4,h5⟩
def Nh(h:Ris xs)(j:Nat):Ox xs j<|Ļ xs j:=by unfold Ļ;refine JG h xs.size 0 xs.size (by lia) (by lia) (by lia) (λk x hk=>by lia) λk x hk hkx=>?_;rw[Υ hk]at hkx;cases hkx
variable {j:Nat}
def Dr(ha:Ox xs j a)(hb:Ox xs j b):a=b:=by
 obtain⟨a1,a2,a3⟩:=ha;obtain⟨b1,b2,b3⟩:=hb;rcases Nat.lt_trichotomy a b with h|h|h
 .have hx:=ú (xs:=xs) (i:=a) (by lia);have:=b2 a _ h hx;have:=a3 a _ (Ì _) hx;lia
 .exact h
 .have hx:=ú (xs:=xs) (i:=b) (by lia);have:=a2 b _ h hx;have:=b3 b _ (Ì _) hx;lia
def A4(h:Ris xs){i:Nat}(hx:xs[i]?=eY x):Ox xs (x+1)<|i+1:=by
 have hi:i<xs.size:=(Ľ.mp hx).1;refine⟨hi,λk y hk hky=>?_,λk y hk hky=>Wc h (by lia) hx hky⟩;by_cases e:k=i
 .subst e;rw[hx]at hky;cases hky;lia
 .have:=Wc h (show k<i by lia) hky hx;lia
def U5(xs:Array Nat):Ox xs 0 0:=⟨ğ _,λk x hk=>by lia,λ_ _ _ _=>ğ _⟩
def Ek(h:Ris xs)(hn:xs[Ļ xs j]?≠eY j):Ris<|SetTable.insertAt xs (Ļ xs j) j:=by
 obtain⟨c1,c2,c3⟩:=Nh h j;generalize Ļ xs j=p at c1 c2 c3 hn;unfold Ris;rw[SetTable.toList_insertAt];have hs:(xs.toList.take p++xs.toList.drop p).Pairwise (· < ·):=by rw[List.take_append_drop];exact h
 obtain⟨h1,h2,h3⟩:=cY.mp hs;have hlo:∀a∈xs.toList.take p,a<j:=λa ha=>by obtain⟨k,hk,rfl⟩:=List.mem_take_iff_getElem.mp ha;refine c2 k _ (by lia) ?_;rw[<-ą];exact É _
 have hhi:∀a∈xs.toList.drop p,j<a:=λa ha=>by
  obtain⟨k,e⟩:=cJ.mp ha;rw[List.getElem?_drop,ą]at e;have:=c3 (p+k) _ (by lia) e;rcases Nat.lt_or_ge j a with q|q
  .exact q
  .exfalso;have e2:a=j:=by lia
   subst e2;by_cases k0:k=0
   .subst k0;exact hn e
   .have hp:xs[p]?=eY (xs[p]'(by have:=(Ľ.mp e).1;lia)):=ú _;have:=Wc h (show p<p+k by lia) hp e;have:=c3 p _ (Ì _) hp;lia
 exact cY.mpr ⟨h1,dR.mpr ⟨hhi,h2⟩,λa ha b hb=>by
   rcases Ç.mp hb with rfl|hb
   . exact hlo a ha
   . exact Ŗ (hlo a ha)<|hhi b hb⟩
structure Tb(b:Bool)(t:ų):Prop where
 led:b=fc->t.led=fb
 ris:Ris t.place
 dum:t.dummies=#[]
def NS{t:ų}{f:Nat->Int}{h:Int}(hd:t.dummies=#[]):∀(n:Nat) (p:SetTable.Probe) (j:Nat) (d:Option Nat),p.dummy=eZ->ό t f h n p=eY (.empty j d)->t.slot j=.empty/\d=eZ
 |0,p,j,d,h0,e=>by unfold ό at e;cases e
 |n+1,p,j,d,h0,e=>by
  unfold ό at e;cases hs:t.slot p.j with
  |empty =>rw[hs]at e;dsimp only at e;injection e with e;injection e with e1 e2;subst e1;exact⟨hs,e2▸h0⟩
  |dummy =>
   exfalso;unfold eS at hs;dsimp only at hs;split at hs
   .cases hs
   .rw[hd]at hs;simp[bf]at hs
  |live i =>
   rw[hs]at e;dsimp only at e;split at e
   .cases e
   .refine NS hd n _ j d ?_ e;unfold SetTable.advance;split
    .exact h0
    .exact h0
def EE{t:ų}(hd:t.dummies=#[]){h:Int}{b:Bool}(e:t.freeSlot h=eY (j,b)):t.place[Ļ t.place j]?≠eY j:=by
 unfold SetTable.freeSlot at e;split at e
 .rename_i k d hp;obtain⟨h1,h2⟩:=NS hd _ _ _ _ rfl hp;subst h2;injection e with e;injection e with e1 e2;have e1:k=j:=e1;subst e1;unfold eS at h1;dsimp only at h1;split at h1
  .cases h1
  .rename_i hq;exact λz=>hq (by rw[z];exact beq_self_eq_true _)
 .cases e
def X8{b:Bool}{t:ų}(h:Tb b t)(n:Nat):Tb b (t.standIn n) :=
 ⟨h.led,by show(Array.range n).toList.Pairwise _;rw[Array.toList_range];exact cj,rfl⟩
def LY{b:Bool}{t:ų}(h:Tb b t)(es:Array<|Int×Â)(k:Int)(x:Â):Tb b (layNew t es k x).2.1:=by
 unfold layNew;split
 .rename_i slot wd hf;show Tb b (ck _ _);have hp:Tb b (t.put slot).1:=by
   refine⟨h.led,Ek h.ris<|EE h.dum hf,?_⟩;show(if bf t.dummies slot then _ else t.dummies)=#[];rw[h.dum];simp[bf]
  unfold ck;split
  .exact hp
  .exact X8 hp _
 .exact X8 h _
def C7{b:Bool}{t:ų}(h:Tb b t)(es:Array<|Int×Â)(n:Nat):Tb b (relayAll t es n).2.1:=by
 unfold relayAll;split
 .rename_i t' order hr;dsimp only;split
  .unfold SetTable.relaid SetTable.laid at hr;cases hl:SetTable.layClean (SetTable.sizeAbove n - 1) (es.map (·.1))with
   |none=>rw[hl]at hr;cases hr
   |some owner =>rw[hl]at hr;cases hr;refine⟨h.led,?_,rfl⟩;show List.Pairwise _ (List.toArray _).toList;refine List.pairwise_map.mpr<|List.pairwise_filterMap.mpr ?_;refine cj.imp λ{a c} hac x hx y hy=>?_;obtain⟨_,_,rfl⟩:=Î.mp hx;obtain⟨_,_,rfl⟩:=Î.mp hy;exact hac
  .exact X8 h _
 .exact X8 h _
end L2
namespace L2
open PySem PySem.Spec PyProof.Rows
section
variable (prog:â) (w:ô)
noncomputable abbrev byT:Bool:=w.params.followText "set-order"
abbrev SetI(h:ă)(a:È)(l:List Int):Prop:=∃o es ep t es0,h.get? a=eY o/\o.ExactSet/\o.data=.set es ep t/\ElemsOf (ś prog w) es.toList/\es.size<ae/\t.fits es.size=fb/\
 Tb (byT w) t/\es.toList.Perm es0/\ü (es0.map (·.2)) l
end
def XE:∀{vs:List Â}{ns:List Int},ü vs ns->vs.length=ns.length
 |_,_,.nil=>rfl
 |_,_,.cons _ _ r=>congrArg (· + 1)<|XE r
def O2:∀{vs:List Â}{ns:List Int}(n:Int) (t:Tok),ü vs ns->ü (vs++[.int n t]) (ns++[n])
 |_,_,n,t,.nil=>.cons n t .nil
 |_,_,n,t,.cons m u r=>.cons m u<|O2 n t r
def Ol{P:â}{w:ô}{n:Int}:∀{vs:List Â}{ns:List Int},ü vs ns->(n∈ns↔∃v∈vs,(ś P w).is n v=fb)
 |_,_,.nil=>by simp
 |_,_,.cons m u r=>by
  have h:=Ol (P:=P) (w:=w) (n:=n) r;have hk:(ś P w).is n (.int m u)=gK (n=m):=KeyKind.is_eq_decide (intKind_is P w m u) n;rw[Ç,h];constructor
  .rintro(rfl|⟨v,hv,e⟩)
   .exact⟨_,î,by rw[hk];simp⟩
   .exact⟨v,Þ _ hv,e⟩
  .rintro⟨v,hv,e⟩;rcases Ç.mp hv with rfl|hv
   .rw[hk]at e;exact .inl (by simpa using e)
   .exact .inr ⟨v,hv,e⟩
variable {h:ă} {a:È} {l:List Int}
def SetI.setOf{P:â}{w:ô}(x:SetI P w h a l):h.SetOf (ś P w) a (λk=>gK (k∈l)) l.length:=by
 obtain⟨o,es,ep,t,es0,h1,h2,h3,h4,h5,h6,h7,h8,h9⟩:=x;refine⟨o,es,ep,t,h1,h2,h3,h4,λk=>?_,h5,h6,?_⟩
 .rw[decide_eq_true_iff,Ol (P:=P) (w:=w) h9];constructor
  .rintro⟨v,hv,e⟩;obtain⟨x,hx,rfl⟩:=Ü.mp hv;exact⟨x,h8.mem_iff.mpr hx,e⟩
  .rintro⟨x,hx,e⟩;exact⟨_,Ü.mpr ⟨x,h8.mem_iff.mp hx,rfl⟩,e⟩
 .rw[<-XE h9,Ã,<-h8.length_eq,ï]
section
variable {prog:â}{w:ô}{A:Ą}{E:Â->Å->Prop}{s:Å}
def O3{o:Obj}{es es':Array (Int×Â)}{ep:Nat}{t t':ų}(ho:h.get? a=eY o)(hd:o.data=.set es ep t) :
  (h.update a<|eU es' t').get? a=eY {o with data:=.set es' (ep+1) t'}:=by
 have z:=Ď (eU es' t') ho (by rw[putSet_of es' t' hd];rfl)
 rwa [putSet_of es' t' hd]at z
def add_int{n:Int}{tk:Tok}{Q:Bool->Å->Prop}(hS:SetI prog w s.heap a l)(hroom:l.length+1<ae)
  (k:∀h' b,Ţ a s.heap h'->SetI prog w h' a (ŝ l n)->Q b {s with heap:=h'}):wpAny (Ù prog w) A (setAddHashed a (.int n tk)<|(ś prog w).hash n) Q E s:=by
 have hlen:=hS.setOf;obtain⟨o,es,ep,t,es0,ho,hex,hd,hel,hb,hf,ht,hp,hi⟩:=id hS;have hsz:es.size=l.length:=by rw[<-XE hi,Ã,<-hp.length_eq,ï]
 have dC:(ś prog w).is n (.int n tk)=fb:=intKind_is _ _ _ _;unfold setAddHashed setAddHashedIn;refine ď<|À<|Ť ho hd hf ?_;dsimp only;rw[byScan_of rfl hb hel];simp only[↓reduceIte];unfold setAddByScan;refine À<|À<|π<|À<|wpAny_setScan_of dC ho hd hf hel ?_;have hm:n∈l↔∃e∈es.toList,(ś prog w).is n e.2=fb:=by
  rw[Ol (P:=prog) (w:=w) hi];constructor
  .rintro⟨v,hv,e⟩;obtain⟨x,hx,rfl⟩:=Ü.mp hv;exact⟨x,hp.mem_iff.mpr hx,e⟩
  .rintro⟨x,hx,e⟩;exact⟨_,Ü.mpr ⟨x,hp.mem_iff.mp hx,rfl⟩,e⟩
 cases hr:List.findIdx? (λe=>(ś prog w).is n e.2) es.toList with
 |some j =>
  obtain⟨hj,hpj,_⟩:=List.findIdx?_eq_some_iff_getElem.mp hr;have hn:n∈l:=hm.mpr ⟨_,ţ hj,hpj⟩;have e1:ŝ l n=l:=by unfold ŝ;rw[gD<|am.mpr ⟨n,hn,by simp⟩]
  rw[e1]at k;exact Æ<|Æ<|k s.heap fc (Heap.SameBut.refl a s.heap) hS
 |none =>
  have hn:n∉l:=λz=>by obtain⟨e,he,q⟩:=hm.mp z;have:=List.findIdx?_eq_none_iff.mp hr e he;rw[q]at this;cases this
  have e1:ŝ l n=l++[n]:=by
   unfold ŝ;rw[gE];intro z;obtain⟨m,hm,q⟩:=am.mp z;have q:m=n:=by simpa using q
   exact hn<|q▸hm
  rw[e1]at k;have l1:=layNew_perm t es ((ś prog w).hash n)<|.int n tk;have l2:=layNew_fits t es ((ś prog w).hash n)<|.int n tk;have l3:=LY ht es ((ś prog w).hash n)<|.int n tk;dsimp only;generalize hL:layNew t es ((ś prog w).hash n) (.int n tk)=L at l1 l2 l3 ⊢;obtain⟨cu,t1,wd,gv⟩:=L;dsimp only at l1 l2 l3 ⊢;rw[dU]at l1;have i1:ü ((es0++[((ś prog w).hash n,Value.int n tk)]).map (·.2))<|l++[n]:=by rw[ã];exact O2 n tk hi
  have p1:cu.toList.Perm<|es0++[((ś prog w).hash n,Value.int n tk)]:=l1.trans<|hp.append_right _;have hel1:ElemsOf (ś prog w) cu.toList:=(hel.push dC rfl).perm l1;have hs1:cu.size=l.length+1:=by rw[<-ï,l1.length_eq,ê,ï,hsz];rfl
  have fin:∀(h':ă) (o':Obj) (ep':Nat) (es':Array<|Int×Â) (t':ų),Ţ a s.heap h'->h'.get? a=eY o'->o'.ExactSet->o'.data=.set es' ep' t'->es'.toList.Perm cu.toList->t'.fits es'.size=fb->Tb (byT w) t'->∀b,Q b {s with heap:=h'}:=λh' o' ep' es' t' sb g1 g2 g3 g4 g5 g6 b=>by refine k h' b sb ⟨o',es',ep',t',_,g1,g2,g3,hel1.perm g4,?_,g5,g6,g4.trans p1,i1⟩;rw[<-ï,g4.length_eq,ï,hs1];exact hroom
  have hz1:cu.size<=Õ:=aU (by rw[hs1];exact hroom);have g0:∀(b:Bool){ĝ:Å}{Q':Unit->Å->Prop},Q' () ĝ->wpAny (Ù prog w) A (match b with|true=>rule "set.scan.the-table-gave-way" | false=>pure ()) Q' E ĝ :=
   λb ĝ Q' hq=>by cases b<;>first|exact Æ hq|exact π hq
  refine À<|g0 _ ?_;have bv:hashByValue 8 (.int n tk)=(pure fb:Sem Bool):=hashByValue_scannable 8 rfl;rw[bv,ite_self];refine À<|Æ ?_;simp only[↓reduceIte];refine À<|wpAny_storeSet_of ho hd ?_ hz1;have ho1:=O3 (es':=cu) (t':=t1) ho hd;have sb1:=þ s.heap a<|eU cu t1;split
  .have r1:=relayAll_perm t1 cu<|ύ cu.size;have r2:=relayAll_fits t1 cu<|ύ cu.size;have r3:=C7 l3 cu<|ύ cu.size;generalize relayAll t1 cu (ύ cu.size)=R at r1 r2 r3 ⊢;obtain⟨es2,t2,gv2⟩:=R;dsimp only at r1 r2 r3 ⊢;refine À<|g0 _ ?_;refine À (wpAny_storeSet_of ho1 rfl ?_<|by rw[<-ï,r1.length_eq,ï];exact hz1);exact Æ<|Æ<|fin _ _ _ es2 t2 (sb1.trans<|þ _ a _) (O3 ho1 rfl) hex rfl r1 r2 r3 _
  .exact Æ<|Æ<|fin _ _ _ cu t1 sb1 ho1 hex rfl .rfl l2 l3 _
end
def SetI.at{P:â}{w:ô}{h h':ă}{a:È}{l:List Int}(x:SetI P w h a l)(k:∀o,h.get? a=eY o->h'.get? a=eY o):SetI P w h' a l:=by obtain⟨o,es,ep,t,es0,h1,h2⟩:=x;exact⟨o,es,ep,t,es0,k _ h1,h2⟩
section
variable {prog:â}{w:ô}{A:Ą}{R:aq->Å->Prop}{I:È}{fp wr:List È}{G:Array cx->Array cx->Prop}{n:Nat}{P:Nat->Â->Prop}{St:Nat->Å->Prop}
def Be(W:WalksS prog w A.in1 I fp wr G n P St)(S:È)(hS:S∉fp)(val:Nat->Int)(hv:∀i v,P i v->∃t,v=.int (val i) t)(hb:n+1<ae) :
  ∀(k i:Nat) (s:Å),n - i=k->i<=n->St i s->SetI prog w s.heap S (ζ val i)->(∀s',Moved (S::wr) G s s'->SetI prog w s'.heap S (ζ val n)->R (.ok<|.ret .none) s')->
   codeAny (Ù prog w) A (.builtin "set.update.loop" ⟨[.ref S,.ref I],[]⟩) R s:=by
 have nw:S∉wr:=λz=>hS<|W.sub _ z;intro k;induction k with
 |zero =>
  intro i s h1 h2 st x r;obtain rfl:i=n:=by lia
  refine ĕ F.entry_set_update_loop ?_;rw[Ă F.plain_set_update_loop _];show wpAny _ A.in1 (Ŭ (.ref I) >>= _) _ _ s;refine À<|W.done s _ _ st λs' m=>?_;exact Æ<|r s' (m.mono λb hb=>Þ _ hb)<|x.at λo e=>m.heap S _ nw e
 |succ k ih =>
  intro i s h1 h2 st x r;have hi:i<n:=by lia
  refine ĕ F.entry_set_update_loop ?_;rw[Ă F.plain_set_update_loop _];show wpAny _ A.in1 (Ŭ (.ref I) >>= _) _ _ s;refine À<|W.item i s _ _ hi st λv s' p d7 m=>?_;obtain⟨t,rfl⟩:=hv i v p;show wpAny _ A.in1 (ņ [Value.int (val i) t] (setAdd S<|.int (val i) t) >>= _) _ _ s';refine À<|ď ?_;unfold setAdd;refine ď<|À<|(ś prog w).pyHash (k:=val i) (intKind_is _ _ _ _) ?_;refine add_int (s:={s' with toks:=s'.toks+1}) (x.at λo e=>m.heap S _ nw e) (by have:=az val i;lia) λh' b sb x'=>?_;rw[<-firstMet_succ]at x';refine Æ ⟨Ĵ F.plain_set_update_loop _,ih (i+1) _ (by lia) hi (W.frame _ s' _ _ d7 (ň _) λb hb o e=>?_) x' λs'' m'' x''=>r s'' ?_ x''⟩
  .rw[sb.2 b λz=>hS<|z▸hb];exact e
  .refine Moved.trans W.gtrans ((m.mono λb hb=>Þ _ hb).then_heap (ň _) λb o hb e=>?_) m'';rw[sb.2 b λz=>hb<|z▸î];exact e
end
section
variable {prog:â}{w:ô}{A:Ą}{E:Â->Å->Prop}{s:Å}
noncomputable abbrev JV(b:Bool):Obj:={cls:=.type "set",dict:=eZ,data:=.set #[] 0 (.fresh 0 0 !b)}
variable {Q:Â->Å->Prop}
def EN(a:Â)(h:Q (.ref s.heap.objs.size) {s with heap:=s.heap.push (JV<|byT w)}) :
  codeAny (Ù prog w) A (.call (.builtin "set.__new__") ⟨[.type "set",a],[]⟩) (wants Q E) s:=by
 refine codeAny_of_tree ?_;show wpAny _ A.in1 (do checkBuiltinCall "set.__new__" ⟨[.type "set",a],[]⟩;again (.builtin "set.__new__" ⟨[.type "set",a],[]⟩)) _ _ s;refine À<|ϳ (F.newCall_set_1 a)<|Æ ⟨Ĵ F.plain_set_new _,ĕ F.entry_set_new ?_⟩;rw[Ă F.plain_set_new _];unfold Builtin.«set.__new__» Builtin.Frozenset.newClass;have hsub:=sub_set_self;obtain⟨hp,g,d,tk,os⟩:=s;dsimp only
 wp_walk
 refine Ū<|Æ ?_;dsimp only;simp only[newObj];exact À<|wpAny_alloc<|Æ<|Æ h
def CO{l:È}{items:Array Â}{ns:List Int}(hh:A.handled=eZ)(hl:s.heap.IsList l items)(hi:ü items.toList ns)(hb:items.size+1<ae)
  (h:∀(h':ă) (tk:Nat),SetI prog w h' s.heap.objs.size (ζ (λi=>ns.getD i 0) items.size)->(∀b o,s.heap.get? b=eY o->h'.get? b=eY o)->Q (.ref s.heap.objs.size) {s with heap:=h',toks:=tk}) :
  wpAny (Ù prog w) A (call (.type "set") [.ref l]) Q E s:=by
 obtain⟨c,tl,hmro⟩:=F.called_set.mro;have hmade:=F.called_set.made;have hsub:=F.called_set.sub;have h1:=F.called_set.notType;have h2:=F.called_set.canCreate;have hct:=F.typeCall_set_1<|.ref l;refine wpAny_call<|codeAny_of_tree ?_;show wpAny _ _ (callAny (.type "set") _) _ _ _;refine Æ ⟨Code.quiet_builtin _ (by decide +kernel),ĕ F.entry_type_call ?_⟩;rw[Around.under_plain (weight_type_call_type "set" [.ref l] []) rfl]
 repeat (any_goals (first|assumption|wp_step))
 refine ż (EN (.ref l) (E:=E) (Q:=λv s1=>v=.ref s.heap.objs.size/\s1={s with heap:=s.heap.push (JV<|byT w)}) ⟨rfl,rfl⟩) λr s1 hr=>?_;cases r with
 |error e=>exact hr
 |ok fl =>
  cases fl with
  |ret obj =>
   obtain⟨rfl,rfl⟩:=hr;have hS:(s.heap.push<|JV<|byT w).get? s.heap.objs.size=eY (JV<|byT w):=Ð _ rfl;have hT:Shared.TypeIs {s with heap:=s.heap.push (JV<|byT w)} (.ref s.heap.objs.size) "set":=⟨_,hS,rfl⟩
   have hli:=F.called_set.init.lookup;have hbi:=F.called_set.init.bind<|.ref s.heap.objs.size
   repeat (any_goals (first|assumption|wp_step))
   refine ż (codeAny_call_builtin (R:=wants (λr s2=>r=.none/\∃h' tk,s2={ s with heap:=h',toks:=tk }/\SetI prog w h' s.heap.objs.size (ζ (λi=>ns.getD i 0) items.size)/\∀b o,s.heap.get? b=eY o->h'.get? b=eY o) E)
     F.called_set.init.plain F.entry_set_init (check_set_init_1 hT ?_)) λr s2 hr=>?_
   .have hlS:l<s.heap.objs.size:=by obtain⟨_,e,_⟩:=hl;exact Ñ e
    have hl1:(s.heap.push<|JV<|byT w).IsList l items:=hl.push _;obtain⟨ol,hol,aM,nl,hdl⟩:=id hl1;obtain⟨ocls,odict,odata,oslots⟩:=ol;simp only at aM hdl;subst aM hdl;have hsls:=F.sub_list_set;have hslf:=F.sub_list_frozenset;have ű:(Value.type "list" == Value.type "dict")=fc:=by decide
    unfold Builtin.«set.__init__» noKeywords Builtin.Frozenset.updateFrom;generalize hPI:cA=PI
    wp_walk
    subst hPI;refine ſ hl1<|À<|wpAny_runValue ?_;have hh3:A.in1.in1.in1.handled=eZ:=by simp[hh]
    have zs:(s.heap.push<|JV<|byT w).objs.size=s.heap.objs.size+1:=ŵ ..;refine Be ((Walks.list hh3 _ l (by rw[zs];exact Ý<|Ķ hlS) items).toS) s.heap.objs.size (by rw[zs];simp only[Ç,Ø,or_false,not_or];exact⟨Ý<|Ğ _,Ŕ hlS⟩) (λi=>ns.getD i 0) (λi v hv=>IntsAre.int_at hi i v<|by rw[ą];exact hv) hb (items.size - 0) 0 _ (by lia) (ğ _)
     ⟨⟨_,Ð _ rfl,rfl,rfl⟩,hl1.push _⟩ ?_ ?_
    .refine⟨_,#[],0,_,[],Ä _ hS,⟨rfl,rfl,rfl⟩,rfl,λe he=>by simp at he,by show 0<ae;unfold ae;lia,rfl,⟨λz=>by show(!byT w)=fb;rw[z];rfl,.nil,rfl⟩,.nil,.nil⟩
    .intro s' m x;obtain⟨h',g',d',tk',os'⟩:=s';have eg:g'=s.gens:=m.gens;have ed:d'=s.drawn:=m.drawn;have eo:os'=s.os:=m.os;subst eg ed eo;refine Æ ?_;show wpAny _ _ (ret Value.none) _ _ _;refine Æ ⟨rfl,h',tk',rfl,x,λb o e=>?_⟩;have hb:=Ñ e;exact m.heap b o (by rw[zs];simp only[Ç,Ø,or_false,not_or];exact⟨Ý hb,Ý<|Ķ hb⟩)<|Ä _<|Ä _ e
   .cases r with
    |error e=>exact hr
    |ok fl =>
     cases fl with
     |ret r =>
      obtain⟨rfl,h',tk,rfl,x,hk⟩:=hr
      repeat (any_goals (first|assumption|wp_step))
      exact h _ _ x hk
     |_=>exact hr.elim
  |_=>exact hr.elim
end
end L2
namespace L2
open PySem PySem.Spec PyProof.Rows
open PySem.Builtin
def Co:aR table "set.__iter__" = eY Builtin.«frozenset.__iter__»:=cL (id':="frozenset.__iter__") (by kernel_rfl) rfl (by decide +kernel) (by kernel_rfl)
def CQ:aR table "set_iterator.__next__" = eY Builtin.«set_iterator.__next__»:=bw (by kernel_rfl)
def CU(a:Â):ϣ "set_iterator.__next__" ⟨[a],[]⟩:=by unfold ϣ;kernel_rfl
def slot_snext:Slot "set_iterator" "__next__" "set_iterator.__next__" :=
 .of (owner:="set_iterator") (n:="__next__") (by rw[Δ,Š];kernel_rfl) (by decide +kernel) (by decide +kernel) (by decide +kernel)
  (by first|exact .inl (by decide +kernel)|exact .inr<|by decide +kernel) (by rw[Ξ];kernel_rfl)
def Jo:Slot "set_iterator" "__iter__" "set_iterator.__iter__" :=
 .of (owner:="set_iterator") (n:="__iter__") (by rw[Δ,Š];kernel_rfl) (by decide +kernel) (by decide +kernel) (by decide +kernel)
  (by first|exact .inl (by decide +kernel)|exact .inr<|by decide +kernel) (by rw[Ξ];kernel_rfl)
def Dw:aR table "set_iterator.__iter__" = eY Builtin.«dict_keyiterator.__iter__»:=cL (id':="dict_keyiterator.__iter__") (by kernel_rfl) rfl (by decide +kernel) (by kernel_rfl)
def Cc(a:Â):ϣ "set_iterator.__iter__" ⟨[a],[]⟩:=by unfold ϣ;kernel_rfl
def XA{α:Type}:∀{l:List α}{i:Nat}(h:i<l.length),(l[i]::l.eraseIdx i).Perm l
 |a::l,0,h=>.rfl
 |a::l,i+1,h=>(List.Perm.swap a _ _).trans<|(XA (l:=l)<|Nat.lt_of_succ_lt_succ h).cons a
def UT{α:Type}(f:Nat->Nat):∀(n k:Nat) (l:List α) (out:Array α),l.length=n->(aV f n k l out).toList.Perm (out.toList++l)
 |0,k,l,out,h=>by
  cases l with
  |nil=>unfold aV;simp
  |cons _ _=>cases h
 |n+1,k,l,out,h=>by unfold aV;have Χ:f k % l.length<l.length:=Nat.mod_lt _ (by lia);rw[É Χ];dsimp only;refine(UT f n (k+1) _ _<|by rw[bg Χ];lia).trans ?_;rw[dU,ĳ];exact(XA Χ).append_left _
def Aq{α:Type}(f:Nat->Nat)(xs:Array α):(pickOrder f xs).toList.Perm xs.toList:=by unfold pickOrder;simpa using UT f xs.size 0 xs.toList #[] (by simp)
section
variable {prog:â}{w:ô}{A:Ą}{E:Â->Å->Prop}{s:Å}
variable {n:Nat}
def Aj{src:Source}{Q:Nat->Å->Prop}(hn:0<n)(h:∀k d,k<n->Q k {s with drawn:=d}):wpAny (Ù prog w) A (choose src n) Q E s :=
 λ_ _ _=>⟨Ŕ hn,h _ _<|Nat.mod_lt _ hn⟩
def Nc{α:Type}:∀(n:Nat) (xs:List α){s:Å}{Q:List α->Å->Prop},xs.length=n->(∀ys d,ys.Perm xs->Q ys {s with drawn:=d})->wpAny (Ù prog w) A (dW n xs) Q E s
 |0,[],s,Q,_,h=>by unfold dW;exact Æ<|h [] s.drawn .nil
 |0,_::_,_,_,h,_=>by cases h
 |n+1,[],_,_,h,_=>by cases h
 |n+1,x::xs,s,Q,hl,h=>by unfold dW;refine À (Aj (by simp) λk d hk=>?_);rw[É hk];dsimp only;refine À (Nc n _ (by rw[bg hk];lia) λys d2 hp=>Æ<|h _ d2 ?_);exact(hp.cons _).trans<|XA hk
abbrev SetIt(h:ă)(it a:È)(f:Â)(i n ep:Nat):Prop:=∃o,h.get? it=eY o/\o.cls=.type "set_iterator"/\o.data=.fields #[f,.int i 0,.ref a,.int n 0,.int ep 0]
variable {it:È} {a:È} {f:Â} {i:Nat} {ep:Nat}
def SetIt.typeIs(h:SetIt s.heap it a f i n ep):s.TypeIs (.ref it) "set_iterator":=by obtain⟨o,h1,h2,_⟩:=h;exact⟨o,h1,h2⟩
structure SetO(h:ă)(a:È)(o:Obj)(es:Array<|Int×Â)(ep:Nat)(t:ų):Prop where
 at_:h.get? a=eY o
 dat:o.data=.set es ep t
 fit:t.fits es.size=fb
def ND{Q:Â->Å->Prop}(bG:SetIt s.heap it a f i n ep)(h:Q (.ref it) s):wpAny (Ù prog w) A (cA<|.ref it) Q E s:=by have hT:=bG.typeIs;refine aS hT Jo<|ĉ Jo hT Dw ?_<|Cc _;show wpAny _ _ (ret<|.ref it) _ _ s;exact Æ ⟨_,rfl,"set_iterator",_,hT,slot_snext.lookup,h⟩
variable {Q:Option Â->Å->Prop}
def UU(hh:A.handled=eZ)(hQ:∀h',(∀b o,s.heap.get? b=eY o->h'.get? b=eY o)->Q eZ {s with heap:=h'}) :
  wpAny (Ù prog w) A (do raiseNew (<-cE (.type "StopIteration") []):Sem Fin) (λ_ _=>False) (λe s'=>∃h',(∀b o,s.heap.get? b=eY o->h'.get? b=eY o)/\s'={s with heap:=h'}/\s'.TypeIs e "StopIteration") s:=by
 show wpAny _ _ (cE (.type "StopIteration") [] >>= _) _ _ _;refine À ?_;simp only[cE,newTuple];refine À (Ā ?_<|by size_fits);refine À (m:=η _ _) (ϳ (a:=Value.none) (by first|rfl|(simp only[η];rfl)) ?_);refine Ā ?_ (by size_fits);simp only[raiseNew];refine À<|dy ?_;rw[hh];refine À<|Æ<|wpAny_throw ?_;exact⟨_,λb o e=>Ä _<|Ä _ e,rfl,_,Ð _ rfl,rfl⟩
def WJ(hT:s.TypeIs (.ref it) "set_iterator")
  (h:wpAny (Ù prog w) A.in1 (Builtin.«set_iterator.__next__» ⟨[.ref it],[]⟩) (λfin s'=>∃v,fin=.done (.ret v)/\Q (eY v) s') (λe s'=>s'.TypeIs e "StopIteration"/\Q eZ s') s):wpAny (Ù prog w) A (Ŭ<|.ref it) Q E s:=by
 unfold Ŭ;refine À<|al<|Ĕ (name:=gL "__next__") hT slot_snext<|ĉ slot_snext hT CQ ?_<|CU _;refine Ę h (λfin s' ⟨v,e,q⟩=>⟨v,e,Æ q⟩) λe s' ⟨t,q⟩=>?_;refine À<|ϛ (T:="StopIteration") (b:=fb) t cF ?_;exact Æ q
abbrev NX(prog:â)(w:ô)(a:È)(o:Obj)(ep:Nat)(f:Nat->Nat)(ord:List Â):Prop :=
 ∀(A:Ą) (s:Å) (Q:Option (Â×Nat)->Å->Prop) (E:Â->Å->Prop) (i:Nat),i<=ord.length->s.heap.get? a=eY o->Q (ord[i]?.map (·,f<|i+1)) s->wpAny (Ù prog w) A (setNext a (f i) i ep) Q E s
def K4{h:ă}{o:Obj}{vs:Array Â}{k:Nat}{x:Â}(ho:h.get? it=eY o)(hc:o.cls=.type "set_iterator")(hd:o.data=.fields vs) :
  ∃o',(h.update it (Ν (·.setIfInBounds k x))).get? it=eY o'/\o'.cls=.type "set_iterator"/\o'.data=.fields (vs.setIfInBounds k x) :=
 ⟨_,Ď _ ho<|Ϛ<|ŕ hd _,(ah ..).trans hc,ŕ hd _⟩
end
def Walks.setT{prog:â}{w:ô}{A:Ą}(hh:A.handled=eZ)(I a:È)(ű:a≠I){o:Obj}{es:Array (Int×Â)}{ep:Nat}{t:ų}{f:Nat->Nat}{ord:List Â}(hl:ord.length=es.size)(nx:NX prog w a o ep f ord) :
  Walks prog w A I [I,a] [I] es.size (λi v=>ord[i]?=eY v) (λi h=>SetIt h I a (.int (f i) 0) i es.size ep/\SetO h a o es ep t) where
 sub:=λb hb=>by simp at hb;simp[hb]
 frame:=λ_ _ _ st hk=>⟨by obtain⟨o,h1,h2⟩:=st.1;exact⟨o,hk I (by simp) o h1,h2⟩,hk a (by simp) _ st.2.at_,st.2.dat,st.2.fit⟩
 item:=λi s Q E hi st hQ=>by obtain⟨st,so⟩:=st;refine WJ st.typeIs ?_;obtain⟨oi,h1,h2,h3⟩:=st;show wpAny _ _ (fieldsOf (.ref I) >>= _) _ _ s;refine À<|ϵ h1 h3 ?_;dsimp only;refine À<|Ů so.at_ so.dat so.fit ?_;refine İ (λz=>gJ z<|by simp) λ_=>?_;rw[ä,ä,ä];have hx:ord[i]?=eY ord[i]:=É (by lia);refine À (nx _ s _ _ i (by lia) so.at_ ?_);rw[hx];dsimp only[Option.map];refine À (ĸ h1 h3 (by simp) ?_);obtain⟨o2,g1,g2,g3⟩:=K4 (k:=0) (x:=Ģ<|f<|i+1) h1 h2 h3;refine À (ĸ g1 g3 (by simp) ?_);obtain⟨o4,g4,g5,g6⟩:=K4 (k:=1) (x:=Ģ<|(i:Int)+1) g1 g2 g3;have sb:=(þ s.heap I (Ν (·.setIfInBounds 0 (Ģ<|f<|i+1)))).trans (þ _ I (Ν (·.setIfInBounds 1 (Ģ<|(i:Int)+1))));refine Æ ⟨_,rfl,hQ _ _ s.toks hx ⟨⟨o4,g4,g5,by rw[g6];simp[Ģ]⟩,?_,so.dat,so.fit⟩ λb ob hb e=>sb.extBut b ob (λz=>hb<|by simp[z]) e⟩;exact sb.extBut a _ ű so.at_
 done:=λs Q E st hQ=>by
  obtain⟨st,so⟩:=st;refine WJ st.typeIs ?_;obtain⟨oi,h1,h2,h3⟩:=st;show wpAny _ _ (fieldsOf (.ref I) >>= _) _ _ s;refine À<|ϵ h1 h3 ?_;dsimp only;refine À<|Ů so.at_ so.dat so.fit ?_;refine İ (λz=>gJ z<|by simp) λ_=>?_;rw[ä,ä,ä];refine À (nx _ s _ _ es.size (by lia) so.at_ ?_);rw[Ł<|by lia];dsimp only[Option.map];refine À (ĸ h1 h3 (by simp) ?_);refine Ę (UU (A:=A.in1) (Q:=Q) hh λh' hk=>?_) (λ_ _ z=>z.elim) λe s' ⟨h',hk,e2,tt⟩=>⟨tt,?_⟩
  .exact hQ h' s.toks λb ob hb e=>hk b ob ((þ s.heap I _).extBut b ob (λz=>hb<|by simp[z]) e)
  .subst e2;exact hQ h' s.toks λb ob hb e=>hk b ob ((þ s.heap I _).extBut b ob (λz=>hb<|by simp[z]) e)
 self:=λ_ _ _ _ st hQ=>ND st.1 hQ
def Walks.setD{prog:â}{w:ô}{A:Ą}(hh:A.handled=eZ)(I a T:È)(ű:a≠I)(hnT:T≠I){o oT:Obj}{es:Array (Int×Â)}{ep:Nat}{t:ų}{ks:List Nat}(hl:ks.length=es.size)(hk:∀k∈ks,k<es.size)
  (hT:oT.data=.seq (ks.map λ(k:Nat)=>Ģ k).toArray) :
  Walks prog w A I [I,a,T] [I] es.size (λi v=>(ks.map λk=>(es.getD k (0,.none)).2)[i]?=eY v) (λi h=>SetIt h I a (.ref T) i es.size ep/\SetO h a o es ep t/\h.get? T=eY oT) where
 sub:=λb hb=>by simp at hb;simp[hb]
 frame:=λ_ _ _ st hk=>⟨by obtain⟨o,h1,h2⟩:=st.1;exact⟨o,hk I (by simp) o h1,h2⟩,⟨hk a (by simp) _ st.2.1.at_,st.2.1.dat,st.2.1.fit⟩,hk T (by simp) _ st.2.2⟩
 item:=λi s Q E hi st hQ=>by
  obtain⟨st,so,sT⟩:=st;refine WJ st.typeIs ?_;obtain⟨oi,h1,h2,h3⟩:=st;show wpAny _ _ (fieldsOf (.ref I) >>= _) _ _ s;refine À<|ϵ h1 h3 ?_;dsimp only;refine À<|Ů so.at_ so.dat so.fit ?_;refine İ (λz=>gJ z<|by simp) λ_=>?_;refine À<|ķ sT hT ?_;have hi':i<ks.length:=by lia
  have hx:ks[i]?=eY ks[i]:=É hi';have hki:=hk ks[i]<|ţ hi';have hp:((ks.map λ(k:Nat)=>Ģ k).toArray)[(i:Int).toNat]?=eY (.int (ks[i]:Nat) 0):=by rw[ä];simp[hx,Ģ]
  dsimp only;rw[hp];dsimp only;rw[ä,ä];unfold setNextDrawn;refine À<|À<|Ť so.at_ so.dat so.fit ?_;dsimp only;refine İ (λz=>gJ z<|by simp) λ_=>?_;have he:es[ks[i]]?=eY es[ks[i]]:=ú hki;rw[he];dsimp only;refine Æ ?_;refine À (ĸ h1 h3 (by simp) ?_);obtain⟨o4,g4,g5,g6⟩:=K4 (k:=1) (x:=Ģ<|(i:Int)+1) h1 h2 h3;have sb:=þ s.heap I (Ν (·.setIfInBounds 1 (Ģ<|(i:Int)+1)));refine Æ ⟨_,rfl,hQ _ _ s.toks ?_ ⟨⟨o4,g4,g5,by rw[g6];simp[Ģ]⟩,⟨sb.extBut a _ ű so.at_,so.dat,so.fit⟩,sb.extBut T _ hnT sT⟩ λb ob hb e=>sb.extBut b ob (λz=>hb<|by simp[z]) e⟩;rw[Ú,hx];simp[υ,hki]
 done:=λs Q E st hQ=>by
  obtain⟨st,so,sT⟩:=st;refine WJ st.typeIs ?_;obtain⟨oi,h1,h2,h3⟩:=st;show wpAny _ _ (fieldsOf (.ref I) >>= _) _ _ s;refine À<|ϵ h1 h3 ?_;dsimp only;refine À<|Ů so.at_ so.dat so.fit ?_;refine İ (λz=>gJ z<|by simp) λ_=>?_;refine À<|ķ sT hT ?_;have hp:((ks.map λ(k:Nat)=>Ģ k).toArray)[(es.size:Int).toNat]?=eZ:=by rw[ä];simp[hl]
  dsimp only;rw[hp];dsimp only;refine À (ĸ h1 h3 (by simp) ?_);obtain⟨o4,g4,g5,g6⟩:=K4 (k:=0) (x:=Ģ 0) h1 h2 h3;refine À (ĸ g4 g6 (by simp) ?_);refine Ę (UU (A:=A.in1) (Q:=λ_ _=>True) hh λ_ _=>trivial) (λ_ _ z=>z.elim) λe s' ⟨h',hk,e2,tt⟩=>⟨tt,?_⟩
  subst e2;exact hQ h' s.toks λb ob hb e=>hk b ob ((þ _ I _).extBut b ob (λz=>hb<|by simp[z])<|(þ s.heap I _).extBut b ob (λz=>hb<|by simp[z]) e)
 self:=λ_ _ _ _ st hQ=>ND st.1 hQ
section
variable {prog:â}{w:ô}{a:È}{o:Obj}{es:Array (Int×Â)}{ep:Nat}{t:ų}
def Fm(hb:byT w=fb)(hd:o.data=.set es ep t)(hf:t.fits es.size=fb):NX prog w a o ep (λ_=>0) ((pickOrder (w.params.setOrder a ep) es).toList.map (·.2)):=λA s Q E i hil ho h=>by unfold setNext;refine À<|Ť ho hd hf ?_;dsimp only;unfold ϥ;refine À<|À<|Ū<|Æ ?_;have bC:(Ù prog w).w.params.followText "set-order" = fb:=hb;dsimp only;rw[bC];simp only[↓reduceIte,bne_self_eq_false,Į];refine À ?_;unfold setWalk ϥ;refine À<|Ť ho hd hf ?_;dsimp only;refine À<|À<|Ū<|Æ ?_;dsimp only;rw[bC];simp only[↓reduceIte];refine À<|Ū<|Æ<|Æ ?_;dsimp only;rw[Ú,ą,Option.map_map]at h;exact h
def HQ(hb:byT w=fc)(tb:Tb (byT w) t)(hpl:(!t.plain&&gK (es.size > 1))=fc)(hd:o.data=.set es ep t)(hf:t.fits es.size=fb) :
  NX prog w a o ep (λi=>match i with|0=>0|k+1=>t.place.getD k 0+1) (es.toList.map (·.2)):=λA s Q E i hil ho h=>by
 have e0:∀slot,setNext a slot i ep=(do
     let (es,epoch,t)<-setState a
     if<-ϥ then
       if epoch != ep then Ϸ "set_iterator.__next__:elements-changed"
       return ((<-setWalk a)[i]?).map λe=>(e.2,slot)
     if(!t.plain&&gK (es.size > 1))then Ϸ "set_iterator.__next__:the-table-is-plain-no-more"
     (do if !t.led && !es.isEmpty then Ϸ "set:maker-not-led")
     let i:=Ļ t.place slot
     return match es[i]?,t.place[i]? with
       |some (_,x),eY j=>eY (x,j+1)
       | _,_=>eZ):=λ_=>rfl
 rw[e0];refine À<|Ť ho hd hf ?_;dsimp only;unfold ϥ;refine À<|À<|Ū<|Æ ?_;have bC:(Ù prog w).w.params.followText "set-order" = fc:=hb;have hled:=tb.led hb;dsimp only;rw[bC,hpl,hled];simp only[Į,↓reduceIte,Bool.not_true,Bool.false_and];refine Æ ?_;have hsz:t.place.size=es.size:=by simp only[SetTable.fits,bAq,beq_iff_eq,gH]at hf;exact hf.1
 have fin:∀slot,i<=es.size->Ox t.place slot i->Q (match es[Ļ t.place slot]?,t.place[Ļ t.place slot]? with|some (_,x),eY j=>eY (x,j+1)|_,_=>eZ) s:=λslot hi hc=>by
  rw[Dr (Nh tb.ris slot) hc];rw[Ú,ą]at h;by_cases Χ:i<es.size
  .have h1:es[i]?=eY es[i]:=ú Χ;have h2:t.place[i]?=eY (t.place[i]'(by lia)):=ú _;rw[h1]at h ⊢;rw[h2];have h3:t.place.getD i 0=t.place[i]'(by lia):=by simp[υ,show i<t.place.size by lia]
   dsimp only[Option.map]at h ⊢;rw[h3]at h;exact h
  .have h1:es[i]?=eZ:=Υ (by lia);rw[h1]at h ⊢;exact h
 cases i with
 |zero=>exact fin 0 (ğ _)<|U5 _
 |succ k =>
  have hk:k<t.place.size:=by simp at hil;lia
  refine fin _ (by lia)<|A4 tb.ris ?_;rw[ú hk];simp[υ,hk]
end
structure Near(s s':Å):Prop where
 heap:∀b o,s.heap.get? b=eY o->s'.heap.get? b=eY o
 gens:s'.gens=s.gens
 os:s'.os=s.os
def ET:∀{vs us:List Â}{ns:List Int},vs.Perm us->ü us ns->∃ms,ms.Perm ns/\ü vs ms:=by
 intro vs us ns h;induction h generalizing ns with
 |nil=>exact λr=>by cases r;exact⟨[],.nil,.nil⟩
 |cons x _ ih =>
  intro r;cases r with
  |cons n t r=>obtain⟨ms,h1,h2⟩:=ih r;exact⟨n::ms,h1.cons n,.cons n t h2⟩
 |swap x y l =>
  intro r;cases r with
  |cons n t r=>cases r with
   |cons m u r=>exact⟨m::n::_,.swap _ _ _,.cons m u<|.cons n t r⟩
 |trans _ _ ih1 ih2 =>intro r;obtain⟨ms,h1,h2⟩:=ih2 r;obtain⟨ks,h3,h4⟩:=ih1 h2;exact⟨ks,h3.trans h1,h4⟩
section
variable {prog:â}{w:ô}{A:Ą}{E:Â->Å->Prop}{s:Å}
def CM{r:È}{Q:Bool->Å->Prop}(hT:s.TypeIs (.ref r) "set")(h:Q fc s):wpAny (Ù prog w) A (Builtin.List.listLengthHint<|.ref r) Q E s:=by
 unfold Builtin.List.listLengthHint;refine À<|wpAny_specialOf hT PySem.F.slot_set_len.lookup ?_;generalize hid:("set.__len__" : String)=id0
 wp_delta
 rw[show splitId id0=eY ("set","__len__") from by subst hid;decide +kernel];subst hid;refine À (ϛ (T:="set") (b:=fb) hT (by rw[Ξ];kernel_rfl) ?_);refine İ (λhab=>gJ hab<|by decide) λ_=>?_;refine İ (λ_=>?_) (λhab=>gJ (by decide +kernel) hab);exact À<|ž hT<|Æ h
def C8{a:È}{l:List Int}{Q:Â->Å->Prop}(hh:A.handled=eZ)(hS:SetI prog w s.heap a l)
  (h:∀s' I fp St vs ms,Near s s'->s.heap.objs.size<=I->(∀b∈fp,b=a\/s.heap.objs.size<=b)->ms.Perm l->ü vs ms->Walks prog w A I fp [I] l.length (λi v=>vs[i]?=eY v) St->St 0 s'.heap->Q (.ref I) s') :
  wpAny (Ù prog w) A (cA<|.ref a) Q E s:=by
 obtain⟨o,es,ep,t,es0,ho,hex,hd,hel,hb,hf,ht,hp,hi⟩:=id hS;have hsz:es.size=l.length:=by rw[<-XE hi,Ã,<-hp.length_eq,ï]
 rw[<-hsz]at h;have hT:s.TypeIs (.ref a) "set":=⟨o,ho,hex.1⟩
 have Χ:=Ñ ho;refine aS hT F.slot_set_iter<|ĉ F.slot_set_iter hT Co ?_<|F.args_set_iter_1 _;have e0:Builtin.«frozenset.__iter__» ⟨[.ref a],[]⟩=(do
     let n<-cM a
     let d<-(do
       let (es,_,t)<-setState a
       let byText<-ϥ
       return !byText&&(!t.plain&&gK (es.size > 1)))
     let first<-if d then newTuple ((<-dW n (List.range n)).map λ(i:Nat)=>Ģ i)else pure (Ģ 0)
     ret (<-newFields "set_iterator" [first,Ģ 0,.ref a,Ģ n,Ģ (<-setEpoch a)])):=rfl
 rw[e0];unfold cM;refine À<|À<|Ů ho hd hf<|Æ ?_;refine À<|À<|Ť ho hd hf ?_;dsimp only;unfold ϥ;refine À<|À<|Ū<|Æ<|Æ ?_;have ebt:(Ù prog w).w.params.followText "set-order" = byT w:=rfl;dsimp only;rw[ebt];have mapP:∀es':List<|Int×Â,es'.Perm es.toList->∃ms,ms.Perm l/\ü (es'.map (·.2)) ms:=λes' q=>ET ((q.trans hp).map _) hi;by_cases hdr:(!byT w&&(!t.plain&&gK (es.size > 1)))=fb
 .rw[gD hdr];refine À (Nc es.size (List.range es.size) (by simp) λks d hks=>À ?_);have hkl:ks.length=es.size:=by rw[hks.length_eq,Ŝ]
  refine wpAny_newTuple ?_ (by rw[Ã,hkl];exact aU hb);refine À<|wpAny_setEpoch_of (Ä _ ho) hd hf ?_;refine À<|Ā<|Æ ⟨_,rfl,"set_iterator",_,⟨_,Ð _ rfl,rfl⟩,slot_snext.lookup,?_⟩;have zs:(s.heap.push { cls:=.type "tuple",dict:=eZ,data:=.seq (List.map (λ(i:Nat)=>Ģ i) ks).toArray }).objs.size=s.heap.objs.size+1:=ŵ ..;obtain⟨ms,m1,m2⟩:=mapP (ks.map λk=>es.getD k (0,.none)) (by
    refine(hks.map _).trans<|List.Perm.of_eq ?_
    refine List.ext_getElem (by simp) λi h1 h2=>?_
    have hi:i<es.size:=by simpa using h1
    simp[υ,hi])
  rw[ý]at m2;refine h _ _ [_,a,s.heap.objs.size] _ _ ms ⟨λb o e=>Ä _<|Ä _ e,rfl,rfl⟩ (by rw[zs];exact ň _) (λb hb=>?_) m1 m2
   (Walks.setD (o:=o) (oT:={cls:=.type "tuple",dict:=eZ,data:=.seq (List.map (λ(i:Nat)=>Ģ i) ks).toArray}) (es:=es) (ep:=ep) (t:=t) (ks:=ks) hh _ a s.heap.objs.size (by rw[zs];exact Ý<|Ķ Χ) (by rw[zs];exact Ý<|Ğ _) hkl (λk hk=>Ŵ.mp<|hks.mem_iff.mp hk) rfl)
   ⟨⟨_,Ð _ rfl,rfl,rfl⟩,⟨Ä _<|Ä _ ho,hd,hf⟩,Ä _<|Ð _ rfl⟩
  simp only[Ç,Ø,or_false]at hb;rcases hb with rfl|rfl|rfl
  .exact .inr (by rw[zs];exact ň _)
  .exact .inl rfl
  .exact .inr<|Ì _
 .rw[gE hdr];refine À<|Æ ?_;refine À<|wpAny_setEpoch_of ho hd hf ?_;refine À<|Ā<|Æ ⟨_,rfl,"set_iterator",_,⟨_,Ð _ rfl,rfl⟩,slot_snext.lookup,?_⟩;have go:∀(f:Nat->Nat) (es':List<|Int×Â),f 0=0->es'.Perm es.toList->NX prog w a o ep f (es'.map (·.2))->Q (.ref s.heap.objs.size) {s with heap:=s.heap.push {cls:=.type "set_iterator",dict:=eZ,data:=.fields [Ģ 0,Ģ 0,.ref a,Ģ es.size,Ģ ep].toArray}}:=λf es' f0 hes nx=>by
   obtain⟨ms,m1,m2⟩:=mapP es' hes;have hl:(es'.map (·.2)).length=es.size:=by rw[Ã,hes.length_eq,ï]
   refine h _ _ [_,a] _ _ ms ⟨λb o e=>Ä _ e,rfl,rfl⟩ (Ì _) (λb hb=>?_) m1 m2 (Walks.setT (t:=t) hh _ a (Ý Χ) hl nx) ⟨⟨_,Ð _ rfl,rfl,by rw[f0];rfl⟩,Ä _ ho,hd,hf⟩;simp only[Ç,Ø,or_false]at hb;rcases hb with rfl|rfl
   .exact .inr<|Ì _
   .exact .inl rfl
  cases hbt:byT w with
  |true=>exact go _ _ rfl (Aq _ es)<|Fm hbt hd hf
  |false =>rw[hbt]at hdr;exact go (λi=>match i with|0=>0|k+1=>t.place.getD k 0+1) _ rfl .rfl (HQ hbt ht (by simpa using hdr) hd hf)
end
end L2
namespace L2
open PySem PySem.Spec PyProof.Rows
def Near.trans{a b c:Å}(h:Near a b)(k:Near b c):Near a c:=⟨λx o e=>k.heap x o<|h.heap x o e,k.gens.trans h.gens,k.os.trans h.os⟩
def Cg{vs:List Â}{ģ:Array Â}{n:Nat}(h:ItemsOf (λi v=>vs[i]?=eY v) ģ n)(hn:vs.length=n):ģ.toList=vs:=by
 refine List.ext_getElem? λi=>?_;rw[ą];by_cases hi:i<ģ.size
 .rw[ú hi];exact(h.2 i _<|ú hi).symm
 .rw[Υ (by lia),Ł (by have:=h.1;lia)]
section
variable {prog:â}{w:ô}{A:Ą}{E:Â->Å->Prop}{s:Å}
variable {a:È} {l:List Int}
def Fh(hh:A.handled=eZ)(hS:SetI prog w s.heap a l)(S:È)(hSa:S≠a)(hs:s.heap.get? S=eY {cls:=.type "list",data:=.seq #[] 0}){R:aq->Å->Prop}
  (h:∀s' vs ms c,s'.gens=s.gens->s'.os=s.os->(∀b o,b≠S->s.heap.get? b=eY o->s'.heap.get? b=eY o)->ms.Perm l->ü vs ms->s'.heap.get? S=eY {cls:=.type "list",dict:=eZ,data:=.seq vs.toArray c,slots:=#[]}->R (.ok<|.ret<|.ref S) s') :
  wpAny (Ù prog w) A.in1 (Builtin.List.listExtendWith (.ref S) (.ref a)<|.ref S) (λfin s'=>match fin with|.done f=>R (.ok f) s'|.again c'=>c'.quiet=fb/\codeAny (Ù prog w) A c' R s') (λe s'=>R (.error e) s') s:=by
 have hl:=hS.setOf;obtain⟨o,es,ep,t,es0,ho,hex,hd,hel,hb,hf,ht,hp,hi⟩:=id hS;have hsz:l.length<=Õ:=aU (by rw[<-XE hi,Ã,<-hp.length_eq,ï];exact hb);have hT:s.TypeIs (.ref a) "set":=⟨o,ho,hex.1⟩
 have hSs:S<s.heap.objs.size:=Ñ hs;unfold Builtin.List.listExtendWith;refine À<|ž (T:="set") hT ?_;have h1:Builtin.List.listSameRef (.ref S) (.ref a)=fc:=by simp[Builtin.List.listSameRef,hSa]
 have h2:(Value.type "set" == Value.type "list")=fc:=by decide
 have h3:(Value.type "set" == Value.type "tuple")=fc:=by decide
 simp only[h1,h2,h3,Ϫ,Į,if_false];refine À<|C8 (A:=A.in1) hh hS λs1 I fp St vs ms ne hI hfp pm ia W st=>?_;have hsf:S∉fp:=λz=>by
  rcases hfp S z with q|q
  .exact hSa q
  .exact Ĥ _<|á hSs q
 have hvl:vs.length=l.length:=(XE ia).trans pm.length_eq;have key:∀(h':ă) (c tk:Nat),St 0 h'->(∀b o,b≠S->s1.heap.get? b=eY o->h'.get? b=eY o)->h'.get? S=eY {cls:=.type "list",data:=.seq #[] c}->codeAny (Ù prog w) A (.builtin "list.extend.loop" ⟨[.ref S,.ref I,.ref S],[]⟩) R {s1 with heap:=h',toks:=tk}:=by
  intro h' c tk d7 hk hS1;refine codeAny_extend_loopS W.toS hsz S hsf (.ref S) l.length 0 _ #[] c rfl (ğ _) d7 hS1 (ItemsOf.nil _) λs2 ģ c2 hm hS2 hacc=>?_;have ev:ģ.toList=vs:=Cg hacc hvl;refine h s2 vs ms c2 (hm.gens.trans ne.gens) (hm.os.trans ne.os) (λb o hb e=>?_) pm ia (by rw[<-ev];simpa using hS2);refine hm.heap b o (λz=>?_)<|hk b o hb<|ne.heap b o e;rcases Ç.mp z with q|z
  .exact hb q
  .have z:b=I:=by simpa using z
   subst z;exact Ĥ _<|á (Ñ e) hI
 have hS1:=ne.heap S _ hs;refine À<|ď<|CM ⟨o,ne.heap a o ho,hex.1⟩ ?_;refine İ (λ_=>?_) λ_=>Æ ⟨Ĵ PySem.F.plain_extend_loop _,key _ 0 _ st (λb o _ e=>e) hS1⟩;refine À<|π ?_;refine À ?_;show wpAny _ _ (dQ S (·.push .none) >>= λ_=>dQ S (·.pop)) _ _ _;refine À<|Γ hS1 rfl ?_;have hS2:=Ď (Α (·.push Value.none)) hS1 rfl;refine Γ (hz:=by seq_fits) hS2 rfl ?_;have hS3:=Ď (Α (·.pop)) hS2 rfl;refine Æ ⟨Ĵ PySem.F.plain_extend_loop _,key _ _ _ ?_ (λb o hb e=>?_) hS3⟩
 .refine W.frame 0 _ _ st λb hb o e=>?_;have ei:b≠S:=λz=>hsf<|z▸hb;exact(í _ _ ei.symm).trans<|(í _ _ ei.symm).trans e
 .exact(í _ _ hb.symm).trans<|(í _ _ hb.symm).trans e
def NM{Q:List Â->Å->Prop}(hh:A.handled=eZ)(hS:SetI prog w s.heap a l)(h:∀s' vs ms,Near s s'->ms.Perm l->ü vs ms->Q vs s'):wpAny (Ù prog w) A (collect<|.ref a) Q E s:=by
 have Χ:a<s.heap.objs.size:=by obtain⟨_,_,_,_,_,e,_⟩:=hS;exact Ñ e
 unfold collect;refine À<|wpAny_runValue<|ĕ F.entry_proto_collect ?_;rw[Ă F.plain_proto_collect _];show wpAny _ A.in1 (newList [] >>= λl=>again<|.builtin "list.__iadd__" ⟨[l,.ref a],[]⟩) _ _ s;refine À<|Ā ?_;refine Æ ⟨Ĵ F.plain_list_iadd _,ĕ F.entry_list_iadd ?_⟩;rw[Ă F.plain_list_iadd _];show wpAny _ A.in1 (Builtin.List.listExtendWith (.ref s.heap.objs.size) (.ref a)<|.ref s.heap.objs.size) _ _ _;have fin:∀(q:aq) (s':Å),(∃vs ms c,q=.ok (.ret<|.ref s.heap.objs.size)/\Near s s'/\ms.Perm l/\ü vs ms/\s'.heap.get? s.heap.objs.size=eY {cls:=.type "list",dict:=eZ,data:=.seq vs.toArray c,slots:=#[]})->
   wants (λ(a:Â) s'=>wpAny (Ù prog w) A (match a with
     |.ref a=>do
       match (<-load a).data with
       |.seq xs _=>pure xs.toList
       |_=>Ϸ "internal:collect"
     | _=>Ϸ "internal:collect") Q E s') E q s':=λq s' ⟨vs,ms,c,e,ne,pm,ia,hg⟩=>by
  subst e;show wpAny _ A (load s.heap.objs.size >>= _) _ _ _;refine À<|wpAny_load hg<|Æ ?_;exact h s' _ ms ne pm (by simpa using ia)
 refine Ę (Fh (A:=A) (s:={ s with heap:=s.heap.push { cls:=.type "list",data:=.seq ([]:List Â).toArray } }) (R:=λq s'=>∃vs ms c,q=.ok (.ret<|.ref s.heap.objs.size)/\Near s s'/\ms.Perm l/\ü vs ms/\s'.heap.get? s.heap.objs.size=eY { cls:=.type "list",dict:=eZ,data:=.seq vs.toArray c,slots:=#[] })
   hh (hS.at λo e=>Ä _ e) s.heap.objs.size (Ŕ Χ) (Ð _ rfl) λs' vs ms c g1 g2 g3 pm ia hg=>⟨vs,ms,c,rfl,⟨λb o e=>g3 b o (Ý<|Ñ e)<|Ä _ e,g1,g2⟩,pm,ia,hg⟩) (λf s' z=>?_) λe s' z=>?_
 .cases f with
  |done f=>exact fin _ _ z
  |again c=>exact⟨z.1,ż z.2 λq s2 y=>fin q s2 y⟩
 .exact fin _ _ z
end
variable {X:Cx}
def Inv.near{Á:List (È×Obj)}{σ:St}{H:Hp}{s s':Å}(I:Inv X Á σ H s)(ne:Near s s'):Inv X Á σ H s':=by have J:Inv X Á σ H {s with heap:=s'.heap,toks:=s'.toks}:=I.kept ne.heap;exact⟨J.ok,ne.os.trans J.os,by rw[ne.gens];exact J.bare,J.base,J.loc,J.cell,J.free,J.freeC,J.pin,J.hok,J.len⟩
abbrev tSS(K:Frag)(te:TE):TE:=λσ H Q=>GR te Fd σ H λvs H1=>∃p,∃ns:List Int,vs=[.ref p]/\gm K H1 p (ns.map V.int)/\ns.length<64/\∀l,H1 l=eZ->Q (.ref l) (upd H1 l<|.lst<|(sortI<|ζ (λi=>ns.getD i 0) ns.length).map V.int)
def Mz{e:Expr}{te:TE}{p p2 é cW:Pos}(hc:X.calm=fb)(hg:Gl X "sorted")(hm:X.mg "sorted" = eZ)(hg2:Gl X "set")(hm2:X.mg "set" = eZ)(he:PE X e te)(hs:Ô [e] X.env=[(fc,eval e X.env)]) :
  PE X (.Call (.Name "sorted" p) [.Call (.Name "set" p2) [e] [] cW] [] é) (tSS X.K te):=by
 intro Á s σ H Q I h;refine Ĳ (YN (u:=.builtin "sorted") I hg hm (by kernel_rfl) ?_);refine PyProof.Rows.callWith_builtin1 ?_ rfl rfl;show wpAny _ _ (spliced<|(fc,eval (.Call (.Name "set" p2) [e] [] cW) X.env)::[]) _ _ _;refine Calls.spliced_cons ?_;refine Ĳ (YN (u:=.type "set") I hg2 hm2 (by kernel_rfl) ?_ (by decide)<|by decide);refine callWith_type1 (thn ((ZJ he gj hs) cW Á s σ H _ I h) λus s1 ⟨vs,H1,I1,r1,q1⟩=>?_) hs rfl;obtain⟨a,ns,e1,hq,h64,q⟩:=q1;subst e1;obtain⟨u,rfl,ru⟩:=ZL r1;cases ru;obtain⟨ð,rv,pl,hz⟩:=I1.list hq;have hlen:=rv.length;rw[Ã]at hlen;refine CO (I1.ok.hd hc) pl.isList (by simpa using ZB rv) (by rw[Í];show ð.length+1<4096;lia) λh' tk x hk=>Calls.spliced_nil ?_
 replace x:SetI X.prog X.w h' s1.heap.objs.size<|ζ (λi=>ns.getD i 0) ns.length:=by rw[hlen];rw[show ð.toArray.size=ð.length from Í]at x;exact x
 have I2:Inv X Á σ H1 {s1 with heap:=h',toks:=tk}:=I1.kept hk;refine Calls.call_function_entry kind_sorted plain_sorted entry_sorted (args_sorted1 _) ?_;unfold Builtin.«sorted»;refine À (m:=checkCount "sorted" 1 1 _)<|Æ ?_;refine À<|NM (A:=X.A.in1) (I1.ok.hd hc) x λs3 vs ms ne pm ia=>?_;have I3:=I2.near ne;have hvl:vs.length<64:=by rw[XE ia,pm.length_eq];exact Û (az _ _) (by lia)
 refine À (dz ?_<|by unfold Õ;lia);have hoL:(s3.heap.push<|Μ "list" vs.toArray 0).get? s3.heap.objs.size=eY (Μ "list" vs.toArray 0):=Ð _ rfl;refine À<|ď<|ĉ slot_list_sort ⟨_,hoL,rfl⟩ entry_list_sort (list_sort_tree hoL ia hvl λout cq a1 a2 a3=>⟨_,rfl,?_⟩)<|args_list_sort _;have e:=YL (a2.trans pm) a3;subst e;obtain⟨n,hat⟩:=sortedHeap_at (out:=out) hoL;refine Æ ⟨_,rfl,.ref s3.heap.objs.size,_,I3.laid (a:=s3.heap.objs.size) (o:=.lst<|(sortI<|ζ (λi=>ns.getD i 0) ns.length).map V.int) (t':=s3.toks) (λb o e=>?_) (Ì _) ?_,rfl,q _<|I3.hok.fresh<|Ì _⟩
 .have hb:=Ñ e;rw[sortedHeap_old (Ý hb)<|by rw[size_push'];exact Ķ hb];exact Ä _ e
 .exact⟨by rw[Ã,YD];have:=az (λi=>ns.getD i 0) ns.length;unfold Õ;lia,out.toList,n,YA a1,by simpa[Μ]using hat⟩
end L2
namespace Snd
open PySem L2
variable {i:Inf}{X:Cx}{Φ:O.Fs}
def M0{e:Expr}{m:O.E}{p p2 é cW:Pos}(hc:X.calm=fb)(hK:X.K=i.K)(he:PE X e<|tE X i Φ m)(hg:Gl X "sorted")(hm:X.mg "sorted" = eZ)(hg2:Gl X "set")(hm2:X.mg "set" = eZ)(ι:Ô [e] X.env=[(fc,eval e X.env)]) :
  PE X (.Call (.Name "sorted" p) [.Call (.Name "set" p2) [e] [] cW] [] é) (tE X i Φ<|.bi .sortedSet<|.cons m .nil):=by
 refine(Mz hc hg hm hg2 hm2 he ι).imp λσ H Q ⟨env,G,Qm,Em,p,w,c⟩=>?_;rw[O.q_e_bi,O.q_a_cons]at w;change tE X i Φ m σ H _;refine one p w λv G1 H1 x k1 p1 r q=>?_;rw[O.q_a_nil]at q
 replace q:(O.biSortedSet G1 v).wp G1 Qm:=q
 unfold O.biSortedSet at q;cases z:O.sortOf G1 v with
 |none=>rw[z]at q;exact(Zf q).elim
 |some ns =>
  rw[z]at q;dsimp only at q;split at q
  .rename_i h4;obtain⟨a,rfl,hs⟩:=MP p1.hp r z;refine⟨a,ns,rfl,by rw[hK];exact hs,h4,?_⟩;rw[Ka<|Nu ns];exact ZX p1.hp (Wm q) (c.go k1) λp hp=>⟨_,ff,RVs.ints _⟩
  .exact(Zf q).elim
section
variable {K:Frag}{H H':Hp}
structure gg(H H':Hp):Prop where
 t:∀a xs,H a=eY (.tup xs)->H' a=eY (.tup xs)
 f:∀a o xs,H a=eY (.frz o<|.lst xs)->H' a=eY (.frz o<|.lst xs)
mutual
theorem RV.keepL(k:gg H H'):∀{v:O.Val}{x:V},RV K H v x->RV K H' v x
 |_,_,.non=>.non
 |_,_,.bl b=>.bl b
 |_,_,.int i=>.int i
 |_,_,.str s=>.str s
 |_,_,.tup (.inl e) r=>.tup (.inl<|k.t _ _ e)<|RVs.keepL k r
 |_,_,.tup (.inr e) r=>.tup (.inr e)<|RVs.keepL k r
 |_,_,.ref a=>.ref a
 |_,_,.scr (.inl ⟨o,e⟩)=>.scr<|.inl ⟨o,k.f _ _ _ e⟩
 |_,_,.scr (.inr e)=>.scr<|.inr e
 |_,_,.key e=>.key<|k.t _ _ e
theorem RVs.keepL(k:gg H H'):∀{vs:List O.Val}{xs:List V},RVs K H vs xs->RVs K H' vs xs
 |_,_,.nil=>.nil
 |_,_,.cons r t=>.cons (RV.keepL k r)<|RVs.keepL k t
end
def RKs.keepL(k:gg H H'):∀{kvs:List (O.Val×O.Val)}{ps:List (Key×V)},RKs K H kvs ps->RKs K H' kvs ps
 |_,_,.nil=>.nil
 |_,_,.cons a r t=>.cons a (r.keepL k)<|RKs.keepL k t
def RTs.keepL(k:gg H H'):∀{kvs:List (O.Val×O.Val)}{ps:List (List Key×V)},RTs K H kvs ps->RTs K H' kvs ps
 |_,_,.nil=>.nil
 |_,_,.cons r t=>.cons (r.keepL k)<|RTs.keepL k t
def RFs.keepL(k:gg H H'):∀{fs:List (String×O.Val)}{ps:List (Str×V)},RFs K H fs ps->RFs K H' fs ps
 |_,_,.nil=>.nil
 |_,_,.cons r t=>.cons (r.keepL k)<|RFs.keepL k t
def REn.keepL{env:O.Env}{σ:St}(r:REn K H env σ)(k:gg H H'):REn K H' env σ:=⟨r.len,λi v e=>by
  obtain⟨x,h1,h2⟩:=r.get i v e
  exact⟨x,h1,h2.keepL k⟩⟩
variable {a:È}
def RO.moveL{o:O.Ob}(r:RO i H a o)(k:gg H H')(e:H' a=H a):RO i H' a o:=by
 cases o with
 |lst xs=>obtain⟨vs,q,r⟩:=r;exact⟨vs,e.trans q,r.keepL k⟩
 |dct kvs=>obtain⟨ps,q,r⟩:=r;exact⟨ps,e.trans q,r.keepL k⟩
 |ins C fs=>obtain⟨c,dx,ps,h0,h,q,r⟩:=r;exact⟨c,dx,ps,h0,h,e.trans q,r.keepL k⟩
 |exc C=>obtain⟨c,h,q⟩:=r;exact⟨c,h,e.trans q⟩
 |frz kvs=>obtain⟨o,ps,q,r⟩:=r;exact⟨o,ps,e.trans q,r.keepL k⟩
 |dtp kvs=>obtain⟨ps,q,r⟩:=r;exact⟨ps,e.trans q,r.keepL k⟩
variable {o:Obj} {ps:List (Key×V)}
def Xo(e:H a=eY (.frz o<|.dK ps)):gg H (upd H a<|.dK ps) :=
 ⟨λb xs q=>by rw[fe<|by rintro rfl;rw[e]at q;cases q];exact q,λb p xs q=>by rw[fe<|by rintro rfl;rw[e]at q;cases q];exact q⟩
def RH.thaw{G:O.Hs}{kvs:List (O.Val×O.Val)}(g:RH i G H)(e:H a=eY (.frz o<|.dK ps))(r:RKs i.K H kvs ps):RH i (O.upd G a<|.dct kvs)<|upd H a<|.dK ps:=λb p q=>by
 by_cases hb:b=a
 .subst hb;rw[O.ff]at q;cases q;exact⟨ps,ff,r.keepL<|Xo e⟩
 .rw[O.fe hb]at q;exact(g b p q).moveL (Xo e)<|fe hb
def RKs.len:∀{kvs:List (O.Val×O.Val)}{ps:List (Key×V)},RKs K H kvs ps->kvs.length=ps.length
 |_,_,.nil=>rfl
 |_,_,.cons _ _ t=>by rw[Ë,Ë,RKs.len t]
def RKs.at:∀{kvs:List (O.Val×O.Val)}{ps:List (Key×V)}{n:Nat}{c:Key}{x:V},RKs K H kvs ps->ps[n]?=eY (c,x)->∃k v,kvs[n]?=eY (k,v)/\WD k c/\RV K H v x
 |_,_,n,_,_,.nil,e=>by simp at e
 |_,_,0,_,_,.cons hk r _,e=>by simp at e;obtain⟨rfl,rfl⟩:=e;exact⟨_,_,rfl,hk,r⟩
 |_,_,n+1,_,_,.cons _ _ t,e=>by obtain⟨k,v,h1,h2⟩:=RKs.at (n:=n) t (by simpa using e);exact⟨k,v,by simpa using h1,h2⟩
def Cr{k:O.Val}{c:Key}(h:WD k c):RV K H k<|kV c:=by
 cases k with
 |int j=>cases c with
  |inl l=>have h:j=l:=h;subst h;exact .int _
  |inr _=>exact(show False from h).elim
 |str s=>cases c with
  |inl _=>exact(show False from h).elim
  |inr t=>have h:t=gL s:=h;subst h;exact .str _
 |_=>exact(show False from h).elim
end
variable {H0:Hp} {a:È} {o:Obj} {ps:List (Key×V)} {kvs:List (O.Val×O.Val)}
def BQ(e0:H0 a=eY (.frz o<|.dK ps))(r0:RKs i.K H0 kvs ps):ItOk i H0 (Iti a o ps) (λg=>g a=eY (.frz kvs)) (kvs.map<|O.itemOf fc) where
 go:=λn G H v k g e hv=>by
  have e1:=k.f _ _ _ e0;rw[Ú]at hv;obtain⟨p,hp,rfl⟩:=Î.mp hv;have hn:n<ps.length:=by rw[<-r0.len];exact(Ò.mp hp).1
  refine⟨⟨e1,hn⟩,λx H' ⟨q,c,y,ex,hq,hy,eH⟩=>?_⟩;subst ex eH;obtain⟨k2,v2,h1,h2,h3⟩:=(r0.keep k).at hy;rw[hp]at h1;cases h1;have kk:fE H<|upd H q<|.tup [kV c,y]:=fE.new hq;exact⟨kk,W0 g hq,.tup (.inl ff)<|.cons (Cr h2)<|.cons (h3.keep kk) .nil⟩
 stop:=λn G H k g e hn=>⟨k.f _ _ _ e0,by rw[<-r0.len];simpa using hn⟩
def Gy(e0:H0 a=eY (.frz o<|.dK ps))(r0:RKs i.K H0 kvs ps):ItOk i H0 (Itk a o ps) (λg=>g a=eY (.frz kvs)) (kvs.map<|O.itemOf fb) where
 go:=λn G H v k g e hv=>by
  have e1:=k.f _ _ _ e0;rw[Ú]at hv;obtain⟨p,hp,rfl⟩:=Î.mp hv;have hn:n<ps.length:=by rw[<-r0.len];exact(Ò.mp hp).1
  refine⟨⟨e1,hn⟩,λx H' ⟨eH,c,y,hy,ex⟩=>?_⟩;subst ex eH;obtain⟨k2,v2,h1,h2,h3⟩:=(r0.keep k).at hy;rw[hp]at h1;cases h1;exact⟨fE.refl _,g,Cr h2⟩
 stop:=λn G H k g e hn=>⟨k.f _ _ _ e0,by rw[<-r0.len];simpa using hn⟩
variable {tg:Expr} {é:Pos} {body:List ŀ} {q:O.Pt} {m:O.E} {mb:O.Ss}
def Ur{Ų:Expr}{kb:Bool}{J:È->Obj->List (Key×V)->It}(hp:Λ (Ù X.prog X.w) X.A X.env X.xe)(hc:X.calm=fb)(hi:PI X tg Ų<|IS X J<|tE X i Φ m)(hg:PG X tg<|gPt i q)(hb:PSs X body<|tBl X i Φ mb)
  (hs:∀x,Ě Ų X.env x=pure x) (hJ:∀(H0:Hp) (a:È) (o:Obj) (ps:List<|Key×V) (kvs:List<|O.Val×O.Val),H0 a=eY (.frz o<|.dK ps)->RKs i.K H0 kvs ps->ItOk i H0 (J a o ps) (λg=>g a=eY (.frz kvs)) (kvs.map<|O.itemOf kb)) :
  PS X (.For tg Ų body [] é) (tSt X i Φ<|.forI kb q m mb):=by
 intro Á s σ H D I ⟨env,G,N,R,B,C,Xe,p,w,c⟩;refine E7 (Ci hp hc hi hg hb hs) Á s σ H D I ?_;refine one p.pre w λv G1 H1 x k1 p1 rx w'=>?_;obtain⟨a,e1,w''⟩:=fh w';obtain⟨kvs,e2,w1⟩:=fh w'';clear w' w'';have ev:v=.ref a:=by
  cases v with
  |ref b=>cases e1;rfl
  |_=>cases e1
 subst ev;cases rx.ref_inv;have eG:G1 a=eY (.dct kvs):=by
  cases z:G1 a with
  |none=>rw[z]at e2;cases e2
  |some o=>rw[z]at e2;cases o<;>first|(cases e2;rfl)|cases e2
 obtain⟨ps,ha,hr⟩:=p1.hp a _ eG;refine⟨a,ps,rfl,ha,λo h0=>?_⟩;have k2:fE H1<|upd H1 a<|.frz o<|.dK ps:=fE.put (λxs z=>by rw[ha]at z;cases z) λp u z=>by rw[ha]at z;cases z
 have g2:RH i (O.upd G1 a<|.frz kvs)<|upd H1 a<|.frz o<|.dK ps:=p1.hp.put k2 ⟨o,ps,ff,hr.keep k2⟩;have it:=hJ _ a o ps kvs ff<|hr.keep k2;have aJ:∀{H':Hp}{G':O.Hs},fE (upd H1 a<|.frz o<|.dK ps) H'->RH i G' H'->H' a=eY (.frz o<|.dK ps)/\RKs i.K H' kvs ps/\fE H (upd H' a<|.dK ps):=λ{H' G'} k g=>by
  have e:=k.f a o _ ff;refine⟨e,(hr.keep k2).keep k,λb xs z=>?_,λb o' u z=>?_⟩
  .have z1:=k1.t b xs z;have hb:b≠a:=by rintro rfl;rw[ha]at z1;cases z1
   rw[fe hb];exact k.t b xs (by rw[fe hb];exact z1)
  .have z1:=k1.f b o' u z;have hb:b≠a:=by rintro rfl;rw[ha]at z1;cases z1
   rw[fe hb];exact k.f b o' u (by rw[fe hb];exact z1)
 have fin:∀Ņ ŏ G' H',fE (upd H1 a<|.frz o<|.dK ps) H'->RH i G' H'->REn i.K H' Ņ ŏ->(G' a=eY (.frz kvs)/\N Ņ (O.upd G' a<|.dct kvs))->(D.thaw X).nx ŏ H':=λŅ ŏ G' H' k g en ⟨_,n⟩=>by obtain⟨b1,b2,b3⟩:=aJ k g;exact⟨a,o,ps,b1,h0,c.nx Ņ ŏ _ _ b3 (g.thaw b1 b2) (en.keepL<|Xo b1) n⟩
 have ret:∀v G' H' x,fE (upd H1 a<|.frz o<|.dK ps) H'->RH i G' H'->RV i.K H' v x->(G' a=eY (.frz kvs)/\R v (O.upd G' a<|.dct kvs))->(D.thaw X).rt x H':=λv G' H' x k g r ⟨_,n⟩=>by obtain⟨b1,b2,b3⟩:=aJ k g;exact⟨a,o,ps,b1,h0,c.rt v _ _ x b3 (g.thaw b1 b2) (r.keepL<|Xo b1) n⟩
 have xo:∀Hq,XW X (XKS i Hq λ_ _ _=>False):=λHq=>λ_ _ _ _ _ _ _ _ _ _ ⟨_,_,_,_,_,_,_,_,z⟩=>z.elim;generalize hxs:kvs.map (O.itemOf kb)=xs at w1 it;generalize ι:(λg:O.Hs=>g a=eY (.frz kvs))=st at w1 it;refine⟨λn m ŏ H'=>n+m=xs.length/\∃Ņ G',fE (upd H1 a<|.frz o<|.dK ps) H'/\RH i G' H'/\REn i.K H' Ņ ŏ/\O.wFor st (λv e g K M=>O.go (O.bind q g v e) λe2=>O.wSs Φ mb e2 g K (λu g2=>g2 a=eY (.frz kvs)/\R u (O.upd g2 a<|.dct kvs)) M K λ_ _ _=>False) (λe g=>g a=eY (.frz kvs)/\N e (O.upd g a<|.dct kvs)) (xs.drop n) Ņ G',⟨xs.length,by lia,env,_,fE.refl _,g2,(p.en.keep k1).keep k2,by simpa using w1⟩,?_⟩;rintro n m ŏ H' ⟨hnm,Ņ,G',k3,g3,e3,w3⟩;by_cases hn:n<xs.length
 .right;have hd:xs.drop n=xs[n]::xs.drop (n+1):=Ŧ hn;rw[hd]at w3;obtain⟨s2,w3⟩:=w3;have hv:xs[n]?=eY xs[n]:=É hn;obtain⟨a1,a2⟩:=it.go n G' H' xs[n] k3 g3 s2 hv;refine⟨a1,λσ4 H4=>∃cV G4,fE (upd H1 a<|.frz o<|.dK ps) H4/\RH i G4 H4/\REn i.K H4 cV σ4/\O.wFor st (λv e g K M=>O.go (O.bind q g v e) λe2=>O.wSs Φ mb e2 g K (λu g2=>g2 a=eY (.frz kvs)/\R u (O.upd g2 a<|.dct kvs)) M K λ_ _ _=>False) (λe g=>g a=eY (.frz kvs)/\N e (O.upd g a<|.dct kvs)) (xs.drop<|n+1) cV G4,λσ4 H4 h=>⟨m - 1,by lia,by lia,h⟩,λx H4 hy=>?_⟩;obtain⟨k4,g4,r4⟩:=a2 x H4 hy;obtain⟨aZ,e5,w5⟩:=fh w3;refine⟨xs[n],Ņ,G',aZ,r4,g4,e3.keep k4,e5,λσ5 h5=>?_⟩;refine⟨aZ,G',_,_,_,_,_,⟨h5,g4,xo _⟩,w5,⟨λenv6 σ6 G6 H6 k6 g6 e6 w6=>?_,λv6 G6 H6 x6 k6 g6 r6 w6=>?_,λenv6 σ6 G6 H6 k6 g6 e6 w6=>?_,λenv6 σ6 G6 H6 k6 g6 e6 w6=>?_⟩⟩
  .exact⟨env6,G6,(k3.trans k4).trans k6,g6,e6,w6⟩
  .exact ret v6 G6 H6 x6 ((k3.trans k4).trans k6) g6 r6 w6
  .exact fin env6 σ6 G6 H6 ((k3.trans k4).trans k6) g6 e6 w6
  .exact⟨env6,G6,(k3.trans k4).trans k6,g6,e6,w6⟩
 .left;have hd:xs.drop n=[]:=Ĺ (by lia);rw[hd]at w3;exact⟨it.stop n G' H' k3 g3 w3.1 (by lia),fin Ņ ŏ G' H' k3 g3 e3 w3.2⟩
variable {kk:Nat} {d:Expr}
def FO{es:List Expr}{tp Ő š:Pos}(hp:Λ (Ù X.prog X.w) X.A X.env X.xe)(hc:X.calm=fb)(hd:PE X d<|tE X i Φ m)(hg:PG X (.Tuple es kk tp)<|gPt i q)(hb:PSs X body<|tBl X i Φ mb)
  (aE:Ĩ d "items" X.env (eval d X.env)=eval d X.env) (aG:(Ő.endLine==š.line)=fb) (hs:∀x,Ě (.Call (.Attribute d "items" Ő) [] [] š) X.env x=pure x) :
  PS X (.For (.Tuple es kk tp) (.Call (.Attribute d "items" Ő) [] [] š) body [] é) (tSt X i Φ<|.forI fc q m mb) :=
 Ur hp hc (CW hd aE aG) hg hb hs λ_ _ _ _ _ e r=>BQ e r
def EX(hp:Λ (Ù X.prog X.w) X.A X.env X.xe)(hc:X.calm=fb)(hd:PE X d<|tE X i Φ m)(hg:PG X tg<|gPt i q)(hb:PSs X body<|tBl X i Φ mb)(hs:∀x,Ě d X.env x=pure x) :
  PS X (.For tg d body [] é) (tSt X i Φ<|.forI fb q m mb) :=
 Ur hp hc (Gk hd) hg hb hs λ_ _ _ _ _ e r=>Gy e r
def M6(Ė:List<|List Int):∀(k:Nat) (x:List Int) (r:List<|List Int),Ė.take (k+1)=x::r->k<Ė.length->O.minR x r=Ė.getD (ĺ (btL λn=>Ė.getD n []) k) []
 |0,x,r,h,hk=>by
  cases Ė with
  |nil=>cases h
  |cons y ys=>simp at h;obtain⟨rfl,rfl⟩:=h;rfl
 |k+1,x,r,h,hk=>by
  cases Ė with
  |nil=>cases h
  |cons y ys =>
   rw[Ϩ]at h;injection h with h1 h2;subst h1 h2;have aj:k<ys.length:=by simpa using hk
   have ih:=M6 (y::ys) k y (ys.take k) (by rw[Ϩ]) (by simp;lia);have e:ys.take (k+1)=ys.take k++[ys[k]]:=by rw[Ŷ];simp[aj]
   have app:∀(b:List Int) (l:List<|List Int) (z:List Int),O.minR b (l++[z])=if O.fQ z (O.minR b l)then z else O.minR b l:=by
    intro b l z;induction l generalizing b with
    |nil=>rfl
    |cons w l ih=>exact ih _
   rw[e,app,ih];have e2:(y::ys).getD (k+1) []=ys[k]:=by simp[aj]
   show _=(y::ys).getD (if btL (λn=>(y::ys).getD n []) (k+1) (ĺ (btL λn=>(y::ys).getD n []) k)=fb then k+1 else ĺ (btL λn=>(y::ys).getD n []) k) [];have eb:btL (λn=>(y::ys).getD n []) (k+1) (ĺ (btL λn=>(y::ys).getD n []) k)=O.fQ ys[k] ((y::ys).getD (ĺ (btL λn=>(y::ys).getD n []) k) []):=by rw[MG,<-e2];rfl
   rw[eb];cases O.fQ ys[k] ((y::ys).getD (ĺ (btL λn=>(y::ys).getD n []) k) [])with
   |true=>rw[gD rfl,gD rfl,e2]
   |false=>rw[gE (by decide),gE<|by decide]
def GE{G:O.Hs}{H:Hp}{xs:List O.Val}{us:List V}{w:List Int}{r:List (List Int)}{y:V}(h2:RVs i.K H xs us)(h3:(w::r).length=us.length)(h5:xs=(w::r).map λn=>.tup<|n.map .int)(hy:us[ĺ (btL λn=>(w::r).getD n [])<|us.length - 1]?=eY y):RV i.K H (.tup<|(O.minR w r).map .int) y:=by
 rw[M6 (w::r) ((w::r).length - 1) w r (by simp)<|by simp];rw[<-h3]at hy;have Χ:ĺ (btL λn=>(w::r).getD n []) ((w::r).length - 1)<(w::r).length:=by have:=JJ (btL λn=>(w::r).getD n [])<|(w::r).length - 1;simp only[Ë]at this ⊢;lia
 generalize hj:ĺ (btL λn=>(w::r).getD n []) ((w::r).length - 1)=j at hy Χ ⊢;have hxj:xs[j]?=eY (.tup<|((w::r).getD j []).map .int):=by rw[h5,Ú,É Χ];simp[ÿ,É Χ]
 obtain⟨x2,hx2,rx2⟩:=h2.get hxj;rw[hy]at hx2;cases hx2;exact rx2
def HE{e:Expr}{p kp kpos:Pos}(hc:X.calm=fb)(hu:X.A.units+1<ĩ)(hK:X.K=i.K)(hg:Gl X "min")(hm:X.mg "min" = eZ)(he:PE X e<|tE X i Φ m)(hs:Ô [e] X.env=[(fc,eval e X.env)]) :
  PE X (.Call (.Name "min" p) [e] [⟨eY "default",.Constant .none kk kp,kpos⟩] é) (tE X i Φ<|.bi .minD<|.cons m .nil):=by
 refine(F3 hc hu hg hm (ZJ he gj<|by rw[hs];rfl) hs).imp λσ H Q ⟨env,G,Qm,Em,p,w,c⟩=>?_;change tE X i Φ m σ H _;refine one p w λv G1 H1 x k1 p1 r q=>?_
 replace q:(O.fY G1 v).wp G1 Qm:=q
 cases v with
 |ref a =>
  cases r.ref_inv;unfold O.fY at q;dsimp only at q;cases z:(O.fv<|G1 a).bind O.rowsOf with
  |none=>rw[z]at q;exact(Zf q).elim
  |some Ė =>
   obtain⟨xs,z1,z2⟩:=ì.mp z;obtain⟨us,h1,h2⟩:=ZK p1.hp z1;obtain⟨h3,h4,h5⟩:=MR h2 z2;rw[z]at q;refine⟨a,us,Ė,rfl,by rw[hK];exact h1,h3,by rw[hK];exact h4,λe0=>?_,λe0 y hy=>?_⟩
   .subst e0;cases Ė with
    |nil=>exact c _ G1 H1 _ k1 p1.hp .non<|Zm q
    |cons _ _=>cases h3
   .cases Ė with
    |nil=>exact gJ (Ŏ.mp h3.symm) e0
    |cons w r =>exact c _ G1 H1 _ k1 p1.hp (GE (G:=G1) h2 h3 h5 hy)<|Zm q
 |_=>exact(Zf q).elim
structure Md where
 N:List Str
 sc:ξ
 cs:List<|String×O.Val
 fs:List String
 cm:Bool
 cl:List String
 ms:List<|String×String
 fl:List String
 xs:List String
abbrev Md.nmOf(c:Md)(j:Nat):Str:=c.N.getD j Str.empty
abbrev Md.vis(c:Md)(x:Str):Bool:=match c.sc.names.lookup x with
 |some .local=>fb
 |some .cell=>fb
 |some .free=>fb
 |_=>fc
abbrev Md.loc(c:Md)(x:Str):Bool:=c.sc.names.lookup x==eY .local||c.sc.names.lookup x==eY .cell
abbrev Md.gl(c:Md)(x:Str):Bool:=c.sc.names.lookup x==eY .globalImplicit
abbrev nm(x:Str):Bool:=!(x==("__debug__" : Str)) && !(x==("__classdict__" : Str)) && !(x==("__name__" : Str))
abbrev dE:Expr:=.Name Str.empty ⟨0,0,0,0⟩
abbrev mix:List (Option Expr)->List Expr->List Expr
 |k::ks,v::vs=>k.getD dE::v::mix ks vs
 |_,_=>[]
abbrev sub:Expr->List Expr
 |.BoolOp _ xs _=>xs
 |.BinOp a _ b _=>[a,b]
 |.UnaryOp _ a _=>[a]
 |.IfExp a b c _=>[a,b,c]
 |.Compare a _ bs _=>a::bs
 |.Call f as ks _=>f::(as++ks.map (·.value))
 |.FormattedValue a _ _ _=>[a]
 |.JoinedStr vs _=>vs
 |.Attribute a _ _=>[a]
 |.Subscript a b _=>[a,b]
 |.List es _=>es
 |.Tuple es _ _=>es
 |.Slice a b c _=>[a.getD dE,b.getD dE,c.getD dE]
 |.ListComp e gs _ _=>e::gs.flatMap λg=>g.target::g.iter::g.ifs
 |.Dict ks vs _=>mix ks vs
 |_=>[]
abbrev kid(x:Expr)(j:Nat):Expr:=(sub x).getD j dE
abbrev num:Expr->Nat
 |.Constant _ k _=>k
 |.Tuple _ k _=>k
 |_=>0
abbrev scp:Expr->ξ
 |.ListComp _ _ s _=>s
 |_=>default
abbrev kwp:Expr->Pos
 |.Call _ _ (k::_) _=>k.pos
 |_=>⟨0,0,0,0⟩
abbrev OA:O.Bop->ϖ
 |.add=>.Add
 |.sub=>.Sub
 |.mul=>.Mult
 |.fdiv=>.FloorDiv
 |.mod=>.Mod
 |.pow=>.Pow
abbrev WC:O.Cop->cz
 |.eq=>.Eq
 |.ne=>.NotEq
 |.lt=>.Lt
 |.le=>.LtE
 |.gt=>.Gt
 |.ge=>.GtE
 |.isin=>.In
 |.notin=>.NotIn
 |.is=>.Is
 |.isnot=>.IsNot
 |.eqE=>.Eq
 |.neE=>.NotEq
 |.ntT=>.IsNot
abbrev QZ:O.Val->Const
 |.non=>.none
 |.bl b=>.bool b
 |.int i=>.int i
 |.str s=>.str<|gL s
 |_=>.ellipsis
abbrev GT:O.Val->Bool
 |.non=>fb
 |.bl _=>fb
 |.int _=>fb
 |.str _=>fb
 |_=>fc
abbrev ZH:O.E->Bool
 |.and _ _=>fb
 |_=>fc
abbrev Yy:O.E->Bool
 |.or _ _=>fb
 |_=>fc
abbrev Zq:O.Tt->Bool
 |.and _ _=>fb
 |_=>fc
abbrev ZC:O.Tt->Bool
 |.or _ _=>fb
 |_=>fc
abbrev rest(b:Bool)(x:Expr):Expr:=match b,x with
 |true,.BoolOp op (_::xs) p=>.BoolOp op xs p
 |_,x=>kid x 1
abbrev flat(b:Bool)(x:Expr):List Expr:=match b with
 |true=>sub x
 |false=>[x]
abbrev Yk:O.Bi->Str
 |.len=>"len"
 |.int=>"int"
 |.str=>"str"
 |.bool=>"bool"
 |.abs=>"abs"
 |.min2=>"min"
 |.max2=>"max"
 |.minL=>"min"
 |.maxL=>"max"
 |.minP=>"min"
 |.maxP=>"max"
 |.minD=>"min"
 |.sum=>"sum"
 |.all=>"all"
 |.any=>"any"
 |.sorted=>"sorted"
 |.sortedI=>"sorted"
 |.sortedSet=>"sorted"
 |.lenSet=>"len"
 |.list=>"list"
 |.tuple=>"tuple"
 |.dict=>"dict"
 |.isi _=>"isinstance"
 |.isx _=>"isinstance"
 |.isc _=>"isinstance"
 |.repr=>"repr"
 |.listRev=>"list"
 |.listRange=>"list"
 |.tupRange=>"tuple"
 |.dictEnum=>"dict"
abbrev P2:O.Bi->Option Str
 |.sortedSet=>eY "set"
 |.lenSet=>eY "set"
 |.listRev=>eY "reversed"
 |.listRange=>eY "range"
 |.tupRange=>eY "range"
 |.dictEnum=>eY "enumerate"
 |_=>eZ
abbrev Iw(Ts:List String)(x:Expr):Expr:=match Ts with
 |[T]=>.Name (gL T) x.pos
 |Ts=>.Tuple (Ts.zipIdx.map λp=>.Name (gL p.1) (kid x p.2).pos) (num x) x.pos
abbrev HH(f:O.Bi)(as:List Expr)(x:Expr):List Expr:=match P2 f with
 |some y=>[.Call (.Name y (kid (kid x 1) 0).pos) as [] (kid x 1).pos]
 |none=>match f with
  |.isi Ts=>as++[Iw Ts<|kid x 2]
  |.isx Ts=>as++[Iw Ts<|kid x 2]
  |.isc T=>as++[Iw [T]<|kid x 2]
  |_=>as
abbrev Ue(f:O.Bi)(x:Expr):List Expr:=match P2 f with
 |some _=>(sub<|kid x 1).tail
 |none=>(sub x).tail
abbrev R9(f:O.Bi)(x:Expr):List aP:=match f with
 |.minD=>[⟨eY "default",.Constant .none (num<|kid x 2) (kid x 2).pos,kwp x⟩]
 |_=>[]
abbrev Pk:O.Bm->Str
 |.append=>"append"
 |.extend=>"extend"
 |.pop=>"pop"
 |.popAt=>"pop"
 |.insert=>"insert"
 |.remove=>"remove"
 |.clear=>"clear"
 |.reverse=>"reverse"
 |.index=>"index"
 |.count=>"count"
 |.dget=>"get"
 |.dgetD=>"get"
 |.dpop=>"pop"
 |.dpopD=>"pop"
 |.setdefault=>"setdefault"
 |.join=>"join"
 |.split=>"split"
 |.replace=>"replace"
 |.upper=>"upper"
 |.partition=>"partition"
 |.sidx=>"index"
abbrev We:List Expr->List (Option Expr)
 |k::_::r=>eY k::We r
 |_=>[]
abbrev C9:List Expr->List Expr
 |_::v::r=>v::C9 r
 |_=>[]
abbrev toP(p:O.Pt)(c:Md)(x:Expr):Expr:=match p with
 |.one j=>.Name (c.nmOf j) x.pos
 |.many js=>.Tuple (js.zipIdx.map λp=>.Name (c.nmOf p.1) (kid x p.2).pos) (num x) x.pos
 |.nest j js=>.Tuple [.Name (c.nmOf j) (kid x 0).pos,.Tuple (js.zipIdx.map λp=>.Name (c.nmOf p.1) (kid (kid x 1) p.2).pos) (num<|kid x 1) (kid x 1).pos] (num x) x.pos
abbrev nmX:Expr->Str
 |.Name x _=>x
 |_=>Str.empty
abbrev YJ:Expr->List Str
 |.Tuple es _ _=>es.map nmX
 |x=>[nmX x]
abbrev Md.blk(c:Md)(sc:ξ)(x:List Str)(ö:List Nat):Md :=
 {N:=x++ö.map (λj=>c.N.getD j Str.empty),sc:={sc with names:=sc.names.map λ(n,k)=>if(k == .free&&c.sc.kind == .function&&c.sc.names.lookup n==eY .cell)then(n,.cell)else(n,k)},cs:=c.cs,fs:=c.fs,cm:=c.cm,cl:=c.cl,ms:=c.ms,fl:=c.fl,xs:=c.xs}
abbrev U8:O.E->Bool
 |.cst (.str _)=>fb
 |_=>fc
mutual
noncomputable def toX:O.E->Md->Expr->Expr
 |.cst v,_,x=>.Constant (QZ v) (num x) x.pos
 |.var j,c,x=>.Name (c.nmOf j) x.pos
 |.glob y _,_,x=>.Name (gL y) x.pos
 |.bin o a b,c,x=>.BinOp (toX a c<|kid x 0) (OA o) (toX b c<|kid x 1) x.pos
 |.neg a,c,x=>.UnaryOp .USub (toX a c<|kid x 0) x.pos
 |.not a,c,x=>.UnaryOp .Not (toX a c<|kid x 0) x.pos
 |.and a b,c,x=>.BoolOp .And (toX a c (kid x 0)::flat (ZH b) (toX b c<|rest (ZH b) x)) x.pos
 |.or a b,c,x=>.BoolOp .Or (toX a c (kid x 0)::flat (Yy b) (toX b c<|rest (Yy b) x)) x.pos
 |.cmp o a b,c,x=>.Compare (toX a c<|kid x 0) [WC o] [toX b c<|kid x 1] x.pos
 |.chain o1 o2 a b d,c,x=>.Compare (toX a c<|kid x 0) [WC o1,WC o2] [toX b c<|kid x 1,toX d c<|kid x 2] x.pos
 |.call f as,c,x=>.Call (.Name (gL f) (kid x 0).pos) (toA as c (sub x).tail) [] x.pos
 |.make C as,c,x=>.Call (.Name (gL C) (kid x 0).pos) (toA as c (sub x).tail) [] x.pos
 |.meth _ m o as,c,x=>.Call (.Attribute (toX o c<|kid (kid x 0) 0) (gL m) (kid x 0).pos) (toA as c (sub x).tail) [] x.pos
 |.fld o f,c,x=>.Attribute (toX o c<|kid x 0) (gL f) x.pos
 |.bi f as,c,x=>.Call (.Name (Yk f) (kid x 0).pos) (HH f (toA as c<|Ue f x) x) (R9 f x) x.pos
 |.bm m o as,c,x=>.Call (.Attribute (toX o c<|kid (kid x 0) 0) (Pk m) (kid x 0).pos) (toA as c (sub x).tail) [] x.pos
 |.idx a b,c,x=>.Subscript (toX a c<|kid x 0) (toX b c<|kid x 1) x.pos
 |.slc a lo hi,c,x=>.Subscript (toX a c<|kid x 0) (.Slice (toO lo c<|kid (kid x 1) 0) (toO hi c<|kid (kid x 1) 1) eZ (kid x 1).pos) x.pos
 |.rev a,c,x=>.Subscript (toX a c<|kid x 0) (.Slice eZ eZ (eY<|.UnaryOp .USub (.Constant (.int 1) (num<|kid (kid (kid x 1) 2) 0) (kid (kid (kid x 1) 2) 0).pos) (kid (kid x 1) 2).pos) (kid x 1).pos) x.pos
 |.tup es,c,x=>.Tuple (toA es c<|sub x) (num x) x.pos
 |.key es,c,x=>.Tuple (toA es c<|sub x) (num x) x.pos
 |.dctP,c,x=>.Dict [] [] x.pos
 |.lst es,c,x=>.List (toA es c<|sub x) x.pos
 |.dct es,c,x=>.Dict (We<|toA es c<|sub x) (C9<|toA es c<|sub x) x.pos
 |.ife t a b,c,x=>.IfExp (toT t c<|kid x 0) (toX a c<|kid x 1) (toX b c<|kid x 2) x.pos
 |.comp ö _ p it t e,c,x=>.ListComp (toX e (c.blk (scp x) (YJ<|kid x 1) ö)<|kid x 0) [⟨toP p (c.blk (scp x) (YJ<|kid x 1) ö)<|kid x 1,toI it c<|kid x 2,toF t (c.blk (scp x) (YJ<|kid x 1) ö)<|kid x 3,0⟩] (scp x) x.pos
 |.fstr es,c,x=>.JoinedStr (toJ es c<|sub x) x.pos
 |.split o a,c,x=>.Call (.Attribute (toX o c<|kid (kid x 0) 0) "split" (kid x 0).pos) [toX a c<|kid x 1] [] x.pos
 |.repl o y z,c,x=>.Call (.Attribute (toX o c<|kid (kid x 0) 0) "replace" (kid x 0).pos) [.Constant (.str<|gL y) (num<|kid x 1) (kid x 1).pos,.Constant (.str<|gL z) (num<|kid x 2) (kid x 2).pos] [] x.pos
noncomputable def toA:O.Es->Md->List Expr->List Expr
 |.nil,_,_=>[]
 |.cons e es,c,xs=>toX e c (xs.headD dE)::toA es c xs.tail
noncomputable def toJ:O.Es->Md->List Expr->List Expr
 |.nil,_,_=>[]
 |.cons e es,c,xs=>(if U8 e then toX e c (xs.headD dE)else .FormattedValue (toX e c<|kid (xs.headD dE) 0) (-1) eZ (xs.headD dE).pos)::toJ es c xs.tail
noncomputable def toO:O.Oe->Md->Expr->Option Expr
 |.none,_,_=>eZ
 |.some e,c,x=>eY<|toX e c x
noncomputable def toT:O.Tt->Md->Expr->Expr
 |.yes,_,x=>x
 |.val e,c,x=>toX e c x
 |.not t,c,x=>.UnaryOp .Not (toT t c<|kid x 0) x.pos
 |.and a b,c,x=>.BoolOp .And (toT a c (kid x 0)::flat (Zq b) (toT b c<|rest (Zq b) x)) x.pos
 |.or a b,c,x=>.BoolOp .Or (toT a c (kid x 0)::flat (ZC b) (toT b c<|rest (ZC b) x)) x.pos
noncomputable def toF:O.Tt->Md->Expr->List Expr
 |.yes,_,_=>[]
 |.val e,c,x=>[toX e c x]
 |.not t,c,x=>[.UnaryOp .Not (toT t c<|kid x 0) x.pos]
 |.and a b,c,x=>[.BoolOp .And (toT a c (kid x 0)::flat (Zq b) (toT b c<|rest (Zq b) x)) x.pos]
 |.or a b,c,x=>[.BoolOp .Or (toT a c (kid x 0)::flat (ZC b) (toT b c<|rest (ZC b) x)) x.pos]
noncomputable def toI:O.It->Md->Expr->Expr
 |.seq e,c,x=>toX e c x
 |.chars e,c,x=>toX e c x
 |.range a,c,x=>.Call (.Name "range" (kid x 0).pos) [toX a c<|kid x 1] [] x.pos
 |.range2 a b,c,x=>.Call (.Name "range" (kid x 0).pos) [toX a c<|kid x 1,toX b c<|kid x 2] [] x.pos
 |.enum e,c,x=>.Call (.Name "enumerate" (kid x 0).pos) [toX e c<|kid x 1] [] x.pos
 |.zip a b,c,x=>.Call (.Name "zip" (kid x 0).pos) [toX a c<|kid x 1,toX b c<|kid x 2] [] x.pos
 |.items e,c,x=>toX e c x
 |.rev e,c,x=>.Call (.Name "reversed" (kid x 0).pos) [toX e c<|kid x 1] [] x.pos
end
abbrev blts:List Str:=["isinstance","int","bool","str","list","tuple","dict","max","min","range","len","sorted","set","all","any","sum","enumerate","zip","reversed","abs","repr","ValueError"]
structure Kls(X:Cx)(i:Inf)(P:O.Pg)(n:Nat)(c:Md):Prop where
 A:ClsA i
 F:∀f,c.fl.contains f=fb->FldOk i f
 mkc:∀C,c.cl.contains C=fb->∃a f,i.ins C=fb/\i.cl C a/\Mk i.K a f/\X.mg (gL C)=eY (.ref a)/\Dfm X.prog X.w X.mg X.base i P n (C ++ ".__init__") f
 mth:∀C m,c.ms.contains (C,m)=fb->∃a f,(∀b,i.cl C b->b=a)/\Cls i.K a/\Meth i.K a (gL m) f/\Dfm X.prog X.w X.mg X.base i P n (C ++ "." ++ m) f
structure Xls(X:Cx)(i:Inf)(c:Md):Prop where
 xc:∀C a,i.xc C a->XCls i.K a/\PySem.W.kitOne i.K (.ref a) (.type "ValueError")=eY fb
 rs:∀C,c.xs.contains C=fb->∃a,i.xc C a/\PyProof.Rows.OwnCls (gL C) a [.type "ValueError",.type "Exception",.type "BaseException",.type "object"] "ValueError.__new__" X.mg X.base
 kn:∀T,(c.xs.contains T||T == "ShutError")=fb->∃D,X.mg (gL T)=eY (.ref D)/\∀C a,i.xc C a->PySem.W.kitOne i.K (.ref a) (.ref D)=eY (O.gk C T)/\(O.gk C T=fb->PySem.W.exmOne i.K (.ref a) (.ref D)=eY fb)
structure Gd(X:Cx)(i:Inf)(P:O.Pg)(n:Nat)(c:Md):Prop where
 K:X.K=i.K
 N:X.N=c.N
 sc:X.env.scope=c.sc
 nd:c.N.Nodup
 un:X.A.units+200<ĩ
 calm:c.cm=fb->X.calm=fb
 room:c.cm=fb->fL (2*n+1) X.A
 bl:∀x∈blts,X.mg x=eZ
 dfs:∀f,c.fs.contains f=fb->Dfo X.prog X.w X.mg X.base i P n f
 cst:∀x v,c.cs.lookup x=eY v->∃u y,X.mg (gL x)=eY u/\RelV y u/\∀H,RV i.K H v y
 kl:Kls X i P n c
 xl:c.xs≠[]->Xls X i c
variable {X:Cx}{i:Inf}{P:O.Pg}{n:Nat}{c:Md}
variable {x:Str}
def Gd.gl(g:Gd X i P n c)(h:c.gl x=fb):Gl X x:=by show X.env.scope.names.lookup x=_;rw[g.sc];exact eq_of_beq h
def Gd.vis(g:Gd X i P n c)(h:c.vis x=fb):Vis X.env.scope x:=by
 unfold Vis;rw[g.sc];unfold Md.vis at h;split at h
 .exact .inl (by assumption)
 .exact .inr (.inl<|by assumption)
 .exact .inr (.inr<|by assumption)
 .cases h
def Gd.loc(g:Gd X i P n c)(h:c.loc x=fb):L2.Loc X.env.scope x:=by
 unfold L2.Loc;rw[g.sc];rcases (Bool.or_eq_true ..).mp h with h|h
 .exact .inl<|eq_of_beq h
 .exact .inr<|eq_of_beq h
def Gd.rm(g:Gd X i P n c)(h:c.cm=fb):fL (2*n) X.A:=(g.room h).mono (ň _)
def Um(h:nm x=fb):(x==("__debug__" : Str))=fc/\(x==("__classdict__" : Str))=fc/\x≠"__name__":=by simp only[nm,bAq,Ş]at h;exact⟨h.1.1,h.1.2,by simpa using h.2⟩
def Zs(e:O.E)(c:Md)(x:Expr)(es:List Expr)(env:Env):Ô (toX e c x::es) env=(fc,eval (toX e c x) env)::Ô es env:=by cases e<;>rfl
def B3(e:O.E)(c:Md)(x:Expr):Mh<|toX e c x:=by intro o j;cases e<;>rfl
variable {op:cz}
def FB(e:O.E)(c:Md)(x:Expr):ł op (toX e c x)=fc:=by cases e<;>rfl
def HJ(e:O.E)(c:Md)(x:Expr)(env:Env):∀y,Ě (toX e c x) env y=pure y:=by intro y;cases e<;>rfl
abbrev YE:Expr->Bool
 |.Call (.Name _ _) [] _ _=>fc
 |_=>fb
variable {e:Expr}
def Yv(h:YE e=fb)(f:Str)(env:Env):Ĩ e f env (eval e env)=eval e env:=by
 cases e with
 |Call g as ks p =>
  cases as with
  |cons _ _=>cases g<;>rfl
  |nil=>cases g with
   |Name x q=>cases h
   |_=>rfl
 |_=>rfl
abbrev Zd:O.Es->Nat
 |.nil=>0
 |.cons _ es=>Zd es+1
def XS:∀(es:O.Es) (c:Md) (xs:List Expr),(toA es c xs).length=Zd es
 |.nil,_,_=>rfl
 |.cons _ es,c,xs=>by show(toA es c xs.tail).length+1=_;rw[XS es];rfl
def Yo(env:Env)(é:Pos):∀(es:O.Es) (c:Md) (xs:List Expr),(Ħ é<|Ô (toA es c xs) env).any (·.1)=fc
 |.nil,_,_=>rfl
 |.cons e es,c,xs=>by show(Ħ é<|Ô (toX e c (xs.headD dE)::toA es c xs.tail) env).any (·.1)=fc;rw[Zs];show(fc||(Ħ é<|Ô (toA es c xs.tail) env).any (·.1))=fc;rw[Yo env é es];rfl
def JI(env:Env)(é:Pos):∀(es:O.Es) (c:Md) (xs:List Expr),(Ħ é<|Ô (toA es c xs) env).all (λx=>!x.1)=fb
 |.nil,_,_=>rfl
 |.cons e es,c,xs=>by show(Ħ é<|Ô (toX e c (xs.headD dE)::toA es c xs.tail) env).all (λx=>!x.1)=fb;rw[Zs];show(fb&&(Ħ é<|Ô (toA es c xs.tail) env).all (λx=>!x.1))=fb;rw[JI env é es];rfl
abbrev Zz:O.Pt->Bool
 |.one _=>fb
 |_=>fc
def ME(p:O.Pt)(x:Expr):((!Zz p)=fb->∃es k q,toP p c x=.Tuple es k q)/\((!Zz p)=fc->∃y q,toP p c x=.Name y q):=by
 cases p with
 |one j=>exact⟨λz=>(by cases z),λ_=>⟨_,_,rfl⟩⟩
 |many js=>exact⟨λ_=>⟨_,_,_,rfl⟩,λz=>(by cases z)⟩
 |nest j js=>exact⟨λ_=>⟨_,_,_,rfl⟩,λz=>(by cases z)⟩
abbrev Db(X:Cx)(c:Md)(j:Nat):Prop:=X.N[j]?=eY (c.nmOf j)/\L2.Loc X.env.scope (c.nmOf j)/\(X.fn (c.nmOf j)=fb\/X.env.scope.names.lookup (c.nmOf j)=eY .local)
abbrev Hh(q:Nat->Prop):O.Pt->Prop
 |.one j=>q j
 |.many js=>∀j∈js,q j
 |.nest j js=>q j/\∀k∈js,q k
def K7{X:Cx}{c:Md}(nd:X.N.Nodup)(f:Nat->Pos):∀(js:List Nat) (k:Nat),(∀j∈js,Db X c j)->
  PGs X ((js.zipIdx k).map λp=>.Name (c.nmOf p.1)<|f p.2) (BP i js)/\(ġ ((js.zipIdx k).map λp=>.Name (c.nmOf p.1)<|f p.2) X.env).length=js.length/\(ġ ((js.zipIdx k).map λp=>.Name (c.nmOf p.1)<|f p.2) X.env).findIdx? (·.1)=eZ
 |[],_,_=>⟨FT,rfl,rfl⟩
 |j::js,k,h=>by
  obtain⟨h1,h2,h3⟩:=h j (by simp);obtain⟨a1,a2,a3⟩:=K7 nd f js (k+1) λl hl=>h l (by simp[hl]);rw[List.zipIdx_cons,Ï];refine⟨Ed nd h1 h2 h3 a1 rfl,?_,?_⟩
  .show(ġ ((js.zipIdx<|k+1).map _) X.env).length+1=js.length+1;rw[a2]
  .show List.findIdx? (·.1) ((fc,ο (.Name (c.nmOf j)<|f k) X.env)::ġ _ X.env)=eZ;rw[List.findIdx?_cons];simp[a3]
def GN(hK:X.K=i.K)(nd:X.N.Nodup)(hc:X.calm=fb){p:O.Pt}{x:Expr}(h:Hh (Db X c) p):PG X (toP p c x)<|gPt i p:=by
 cases p with
 |one j=>exact N4 nd h.1 h.2.1 h.2.2
 |many js =>obtain⟨a1,a2,a3⟩:=K7 nd (λk=>(kid x k).pos) js 0 h;exact UX hK hc a1 a2 a3
 |nest j js =>obtain⟨h0,h⟩:=h;obtain⟨a1,a2,a3⟩:=K7 nd (λk=>(kid (kid x 1) k).pos) js 0 h;exact FI hK hc (N4 nd h0.1 h0.2.1 h0.2.2)<|UX hK hc a1 a2 a3
variable {Φ:O.Fs} {a:O.E} {b:O.E} {l:Expr} {é:Pos}
def Rj(g:Gd X i P n c){o:O.Bop}{r:Expr}(ha:PE X l<|tE X i Φ a)(hb:PE X r<|tE X i Φ b):PE X (.BinOp l (OA o) r é)<|tE X i Φ<|.bin o a b:=by
 cases o with
 |add=>exact Kp Q5 (by rw[g.K];exact b_add) ha hb
 |sub=>exact Kp IK b_sub ha hb
 |mul=>exact Kp P4 b_mul ha hb
 |fdiv=>exact Kp ER b_fdiv ha hb
 |mod=>exact Kp Iq b_mod ha hb
 |pow=>exact Kp Ii b_pow ha hb
abbrev X9:O.Cop->Bool
 |.is=>fb
 |.isnot=>fb
 |.ntT=>fb
 |_=>fc
variable {o:O.Cop}
def OK(g:Gd X i P n c)(h:X9 o=fc):∃r,OpR X (ë<|WC o) r/\ZW i o r:=by
 have u65:X.A.units+65<ĩ:=by have:=g.un;lia
 have u64:X.A.units+64<ĩ:=by have:=g.un;lia
 have u0:X.A.units<ĩ:=by have:=g.un;lia
 cases o with
 |eq=>exact⟨_,L4 u64,by rw[g.K];exact RY⟩
 |ne=>exact⟨_,Lr u64,by rw[g.K];exact Sg⟩
 |lt=>exact⟨_,RQ u0,by rw[g.K];exact c_lt⟩
 |le=>exact⟨_,Q7,c_le⟩
 |gt=>exact⟨_,Sa u0,by rw[g.K];exact c_gt⟩
 |ge=>exact⟨_,P7,c_ge⟩
 |isin=>exact⟨_,Sb u65,by rw[g.K];exact Rp⟩
 |notin=>exact⟨_,R6 u65,by rw[g.K];exact RS⟩
 |eqE=>exact⟨_,CB u64,by rw[g.K];exact c_eqE⟩
 |neE=>exact⟨_,CC u64,by rw[g.K];exact c_neE⟩
 |_=>cases h
def Hz{v:O.Val}{j:Nat}(h:GT v=fb):PE X (.Constant (QZ v) j é)<|tE X i Φ<|.cst v:=by
 cases v with
 |non=>exact WP D1 λ_=>.non
 |bl b=>exact WP QL λ_=>.bl _
 |int k=>exact WP Oa λ_=>.int _
 |str s=>exact WP pe_str λ_=>.str _
 |_=>cases h
abbrev MY:O.E->Bool
 |.cst .non=>fb
 |_=>fc
def Ep{e:O.E}(h:MY e=fb):e=.cst .non:=by
 cases e with
 |cst v=>cases v with
  |non=>rfl
  |_=>cases h
 |_=>cases h
variable {y:Expr}
def Df(hn:∀G v d,O.fz G o v .non≠eY d)(ha:PE X l<|tE X i Φ a)(hb:PE X y<|tE X i Φ<|.cst .non)(hm:ł op y=fc) :
  PE X (.Compare l [op] [y] é) (tE X i Φ<|.cmp o a<|.cst .non)/\PT X (.Compare l [op] [y] é) (tTt X i Φ<|.val<|.cmp o a<|.cst .non):=by
 have ho:OpR X (ë op) λ_ _ _ _=>False:=λ_ _ _ _ _ _ _ _ _ _ _ _ h=>h.elim;refine⟨(UR ho ha hb hm).imp λσ H Q ⟨env,G,Qm,Em,p,w,c⟩=>?_,(UZ ho ha hb hm).imp λσ H Q ⟨env,G,Qm,Em,p,w,c⟩=>?_⟩
 .refine one p w λv G1 H1 x k1 p1 r q=>?_;obtain⟨d,e,_⟩:=fh q;exact gJ e<|hn G1 v d
 .refine one p w λv G1 H1 x k1 p1 r q=>?_;obtain⟨d,e,_⟩:=fh q;exact gJ e<|hn G1 v d
def NC(g:Gd X i P n c){x:Expr}(h:(!X9 o||MY b)=fb)(ha:PE X l<|tE X i Φ a)(hb:PE X (toX b c x)<|tE X i Φ b) :
  PE X (.Compare l [WC o] [toX b c x] é) (tE X i Φ<|.cmp o a b)/\PT X (.Compare l [WC o] [toX b c x] é) (tTt X i Φ<|.val<|.cmp o a b):=by
 cases z:X9 o with
 |false =>obtain⟨r,h1,h2⟩:=OK g z;exact⟨Pr h1 h2 ha hb<|FB _ _ _,Ij h1 h2 ha hb<|FB _ _ _⟩
 |true =>
  rw[z]at h;cases Ep h;cases o with
  |is=>exact⟨Qz ha,Ix ha⟩
  |isnot=>exact⟨Pe ha,FK ha⟩
  |ntT=>exact Df (λG v d e=>by cases v<;>simp[O.fz,O.asLst]at e) ha hb<|FB _ _ _
  |_=>cases z
def JF(g:Gd X i P n c){o1 o2:O.Cop}{d:O.E}{x:Expr}(h1:X9 o1=fc)(h2:X9 o2=fc)(ha:PE X l<|tE X i Φ a)(hb:PE X y<|tE X i Φ b)(hd:PE X (toX d c x)<|tE X i Φ d) :
  PE X (.Compare l [WC o1,WC o2] [y,toX d c x] é) (tE X i Φ<|.chain o1 o2 a b d)/\PT X (.Compare l [WC o1,WC o2] [y,toX d c x] é) (tTt X i Φ<|.val<|.chain o1 o2 a b d):=by
 obtain⟨r1,a1,a2⟩:=OK g h1;obtain⟨r2,b1,b2⟩:=OK g h2;have hm:bp [WC o1,WC o2] [y,toX d c x]=fc:=FB _ _ _;exact⟨Gw a1 a2 b1 b2 ha hb hd hm,DF a1 a2 b1 b2 ha hb hd hm⟩
def Lg{m:O.E}(h:PE X e<|tE X i Φ m)(he:∀aB,cy e X.env aB=(do let v<-aB;ϊ e.pos;ņ [v] (truthy v)))(hK:X.K=i.K):PT X e<|tTt X i Φ<|.val m:=by
 refine(BL h he).imp λσ H Q ⟨env,G,Qm,Em,p,w,c⟩=>?_;refine one p w λv G1 H1 x k1 p1 r q=>?_;obtain⟨d,e1,q2⟩:=fh q;clear q;refine⟨d,?_,c d G1 H1 k1 p1.hp q2⟩;cases v with
 |non=>cases r;cases e1;rfl
 |bl b=>cases r;cases e1;rfl
 |int b =>
  cases r;cases e1;show gK (b≠0)=(b != 0)
  by_cases e:b=0<;>simp[e]
 |key _ _=>cases e1
 |str b =>
  cases r;obtain⟨hl,e1⟩:=Zn e1;cases e1;refine⟨by rw[Zu];exact ß hl ZM,?_⟩;rw[Zu];by_cases e:b.length=0
  .rw[e];rfl
  .rw[gG e];symm;simpa using (by lia:¬ ((b.length:Int)=0))
 |tup xs =>
  cases e1;cases r with
  |tup hp hr =>refine .inr (.inl ⟨_,by rw[hK];exact Zi hp,?_⟩);cases hr<;>rfl
 |scr ns =>
  cases e1;cases r with
  |scr h =>refine .inl ⟨_,by rw[hK];exact Z8 h,?_⟩;cases ns<;>rfl
 |ref a =>
  cases r.ref_inv
  replace e1:(match G1 a with|some (.lst xs)=>eY (!xs.isEmpty)|some (.dct kvs)=>eY (!kvs.isEmpty)|_=>eZ)=eY d:=e1
  cases z:G1 a with
  |none=>rw[z]at e1;cases e1
  |some o =>
   rw[z]at e1;cases o with
   |lst xs =>cases e1;obtain⟨vs,h1,h2⟩:=p1.hp a _ z;refine .inl ⟨vs,gm.of h1,?_⟩;cases h2<;>rfl
   |dct kvs =>cases e1;obtain⟨ps,h1,h2⟩:=p1.hp a _ z;refine .inr<|.inr ⟨ps,h1,?_⟩;cases h2<;>rfl
   |_=>cases e1
abbrev Md.gn(c:Md)(y:String):Bool:=c.gl (gL y)&&nm (gL y)
abbrev XY:O.Bi->Bool
 |.len=>fb
 |.int=>fb
 |.min2=>fb
 |.max2=>fb
 |.all=>fb
 |.list=>fb
 |.tuple=>fb
 |.dict=>fb
 |.sortedI=>fb
 |_=>fc
abbrev Eu:O.Bi->Option String
 |.isi [T]=>eY T
 |_=>eZ
abbrev FG:O.Bi->Option (List String)
 |_=>eZ
abbrev XT:O.Bi->Bool
 |.lenSet=>fb
 |_=>fc
abbrev WS:O.Bi->Bool
 |.sortedSet=>fb
 |_=>fc
abbrev Bj:O.Bi->Str
 |.listRev=>"reversed"
 |.sortedSet=>"set"
 |_=>"range"
abbrev Uc:O.Bi->Bool
 |_=>fc
abbrev UK:O.Bi->Bool
 |_=>fc
abbrev NN:O.Bi->String
 |.isc T=>T
 |_=>""
abbrev KY:O.Bi->Bool
 |.minD=>fb
 |_=>fc
abbrev Cu:O.Bi->Option (List String)
 |_=>eZ
abbrev Md.xn(c:Md)(T:String):Bool:=(c.xs.contains T||T == "ShutError")&&c.gn T
abbrev Wq:O.Bi->Bool
 |.len=>fb
 |.int=>fb
 |.list=>fb
 |.tuple=>fb
 |_=>fc
abbrev L7(c:Md)(Ts:List String):Bool:=match Ts with
 |[T]=>c.xn T||(T == "ValueError" && c.gl (gL T))
 |Ts=>Ts.all c.xn&&gK (Ts.length<=20)
abbrev Ee:O.Bm->Option Nat
 |.append=>eY 1
 |.popAt=>eY 1
 |.dget=>eY 1
 |.dpop=>eY 1
 |.dpopD=>eY 2
 |_=>eZ
abbrev Us:O.Tt->Bool
 |.yes=>fb
 |_=>fc
abbrev Oi:O.E->Bool
 |.var _=>fb
 |.call _ _=>fb
 |.meth _ _ _ _=>fb
 |.bi _ _=>fb
 |.bm _ _ _=>fb
 |.idx _ _=>fb
 |.fld _ _=>fb
 |.glob _ _=>fb
 |_=>fc
abbrev Qe:O.E->Bool
 |.cmp _ _ _=>fb
 |.chain _ _ _ _ _=>fb
 |_=>fc
mutual
noncomputable def okE:O.E->Md->Expr->Bool
 |.cst v,_,_=>GT v
 |.var j,c,_=>gK (j<c.N.length)&&c.vis (c.nmOf j)&&nm (c.nmOf j)
 |.glob y v,c,_=>c.gn y&&gK (c.cs.lookup y=eY v)
 |.bin _ a b,c,x=>okE a c (kid x 0)&&okE b c (kid x 1)
 |.neg a,c,x=>okE a c<|kid x 0
 |.not a,c,x=>okE a c<|kid x 0
 |.and a b,c,x=>okE a c (kid x 0)&&okE b c (rest (ZH b) x)&&(!ZH b||(rest (ZH b) x).pos==x.pos)
 |.or a b,c,x=>okE a c (kid x 0)&&okE b c (rest (Yy b) x)&&(!Yy b||(rest (Yy b) x).pos==x.pos)
 |.cmp o a b,c,x=>okE a c (kid x 0)&&okE b c (kid x 1)&&(!X9 o||MY b)
 |.chain o1 o2 a b d,c,x=>okE a c (kid x 0)&&okE b c (kid x 1)&&okE d c (kid x 2) && !X9 o1 && !X9 o2
 |.call f as,c,x=>c.gn f&&c.fs.contains f&&c.cm&&okA as c (sub x).tail
 |.make C as,c,x=>c.gn C&&c.cl.contains C&&c.cm&&gK (Zd as≠0)&&okA as c (sub x).tail
 |.meth C m o as,c,x=>c.ms.contains (C,m)&&c.cm&&okE o c (kid (kid x 0) 0)&&YE (toX o c<|kid (kid x 0) 0)&&((kid x 0).pos.endLine==x.pos.line)&&gK (Zd as<20)&&okA as c (sub x).tail
 |.fld o f,c,x=>c.fl.contains f&&okE o c (kid x 0)&&YE (toX o c<|kid x 0)
 | .bi f as,c,x=>(match Eu f with
   |some T=>gK (Zd as=1)&&kinds.contains T&&c.gl "isinstance" && c.gl (gL T)
   |none=>match FG f with
     |some Ts=>gK (Zd as=1)&&c.gl "isinstance" && !c.xs.isEmpty&&L7 c Ts
     |none=>match Cu f with
       |some Ts=>gK (Zd as=1)&&c.gl "isinstance" && Ts.all (λT=>kinds.contains T&&c.gl (gL T))&&gK (Ts.length<=20)
       | none=>if XT f then gK (Zd as=1)&&c.gl "len" && c.gl "set" && c.cm else if WS f then gK (Zd as=1)&&c.gl (Yk f)&&c.gl (Bj f)&&c.cm else if KY f then gK (Zd as=1)&&c.gl "min" && c.cm else if Uc f then gK (Zd as=1)&&c.gl "dict" && c.gl "enumerate" && c.cm else if UK f then gK (Zd as=1)&&c.gl "isinstance" && c.gn (NN f)&&c.cl.contains (NN f)else XY f&&c.gl (Yk f)&&gK (Zd as≠0)&&(c.cm||Wq f))&&okA as c (Ue f x)
 |.bm m o as,c,x=>gK (Ee m=eY (Zd as))&&okE o c (kid (kid x 0) 0)&&YE (toX o c<|kid (kid x 0) 0)&&((kid x 0).pos.endLine==x.pos.line)&&okA as c (sub x).tail
 |.idx a b,c,x=>okE a c (kid x 0)&&okE b c (kid x 1)
 |.slc a lo hi,c,x=>okE a c (kid x 0)&&okO lo c (kid (kid x 1) 0)&&okO hi c (kid (kid x 1) 1)
 |.tup es,c,x=>okA es c (sub x)&&gK (Zd es<=1000)
 |.lst es,c,x=>okA es c (sub x)&&gK (Zd es<=1000)
 |.dct es,c,x=>okA es c (sub x)&&W6 es&&gK (esL es<=30)
 |.ife t a b,c,x=>okT t c (kid x 0)&&okE a c (kid x 1)&&okE b c (kid x 2)
 |.comp ö m p it t e,c,x=>(Oy m p&&(YJ<|kid x 1).length==m)&&c.cm&&Yj (scp x) c.sc c.N (YJ<|kid x 1) ö&&(scp x).kind == .function&&okI it c (kid x 2) (!Zz p)&&okE e (c.blk (scp x) (YJ<|kid x 1) ö) (kid x 0)&&(Us t||okT t (c.blk (scp x) (YJ<|kid x 1) ö) (kid x 3))
 |_,_,_=>fc
noncomputable def okA:O.Es->Md->List Expr->Bool
 |.nil,_,_=>fb
 |.cons e es,c,xs=>okE e c (xs.headD dE)&&okA es c xs.tail
noncomputable def okJ:O.Es->Md->List Expr->Bool
 |.nil,_,_=>fb
 |.cons e es,c,xs=>(U8 e||okE e c (kid (xs.headD dE) 0))&&okJ es c xs.tail
noncomputable def okO:O.Oe->Md->Expr->Bool
 |.none,_,_=>fb
 |.some e,c,x=>okE e c x
noncomputable def okT:O.Tt->Md->Expr->Bool
 |.yes,_,_=>fc
 |.val e,c,x=>okE e c x&&(Oi e||Qe e)
 |.not t,c,x=>okT t c<|kid x 0
 |.and a b,c,x=>okT a c (kid x 0)&&okT b c (rest (Zq b) x)&&(!Zq b||(rest (Zq b) x).pos==x.pos)
 |.or a b,c,x=>okT a c (kid x 0)&&okT b c (rest (ZC b) x)&&(!ZC b||(rest (ZC b) x).pos==x.pos)
noncomputable def okI:O.It->Md->Expr->Bool->Bool
 |.seq e,c,x,_=>okE e c x
 |.range a,c,x,_=>c.gl "range" && okE a c (kid x 1)
 |.range2 a b,c,x,_=>c.gl "range" && okE a c (kid x 1)&&okE b c (kid x 2)
 |.enum e,c,x,t=>t&&c.gl "enumerate" && okE e c (kid x 1)
 |_,_,_,_=>fc
end
variable {X:Cx}{i:Inf}{P:O.Pg}{n:Nat}{c:Md}
variable {f:O.Bi} {e:Expr} {es:List Expr} {q:Pos} {p:Pos} {l:Nat}
def Fw(g:Gd X i P n c)(hp:XY f=fb)(ej:(c.cm||Wq f)=fb){as:O.Es}(hg:Gl X<|Yk f)(ha:PA X (e::es)<|tAr X i (O.wF P n) as l)
  (he:Ô (e::es) X.env=(fc,eval e X.env)::Ô es X.env) (hpl:(Ħ p<|Ô es X.env).any (·.1)=fc):PE X (.Call (.Name (Yk f) q) (e::es) [] p)<|tE X i (O.wF P n)<|.bi f as:=by
 have hc:Wq f=fc->X.calm=fb:=λz=>g.calm (by rw[z,Ϫ]at ej;exact ej);cases f with
 |len=>exact(Z4 ((call_len_seq.or Mg).or AR) hg (g.bl _<|by simp[blts,Yk]) (by kernel_rfl) ha (he:=he) (hpl:=hpl)).imp (X4<|by rw[g.K];exact Pc)
 |int=>exact(Yw (call_int1.or Kb) hg (g.bl _<|by simp[blts,Yk]) (by kernel_rfl) ha (he:=he) (hpl:=hpl)).imp<|X4 LF
 |min2=>exact(Z4 (AX<|hc rfl) hg (g.bl _<|by simp[blts,Yk]) (by kernel_rfl) ha (he:=he) (hpl:=hpl)).imp<|X4 FV
 |max2=>exact(Z4 (AI<|hc rfl) hg (g.bl _<|by simp[blts,Yk]) (by kernel_rfl) ha (he:=he) (hpl:=hpl)).imp<|X4 Fz
 |all=>exact(Z4 (Bw<|hc rfl) hg (g.bl _<|by simp[blts,Yk]) (by kernel_rfl) ha (he:=he) (hpl:=hpl)).imp (X4<|by rw[g.K];exact Iz)
 |list=>exact(Yw MH hg (g.bl _<|by simp[blts,Yk]) (by kernel_rfl) ha (he:=he) (hpl:=hpl)).imp (X4<|by rw[g.K];exact FZ)
 |dict=>exact(Yw (call_dictK.or<|Of<|hc rfl) hg (g.bl _<|by simp[blts,Yk]) (by kernel_rfl) ha (he:=he) (hpl:=hpl)).imp (X4<|by rw[g.K];exact F1)
 |sortedI=>exact(Z4 (call_sorted.or<|K6<|hc rfl) hg (g.bl _<|by simp[blts,Yk]) (by kernel_rfl) ha (he:=he) (hpl:=hpl)).imp (X4<|by rw[g.K];exact OR)
 |tuple=>exact(Yw Kd hg (g.bl _<|by simp[blts,Yk]) (by kernel_rfl) ha (he:=he) (hpl:=hpl)).imp (X4<|by rw[g.K];exact Dm)
 |_=>cases hp
variable {T:String}
def Lv(h:Eu f=eY T):f=.isi [T]:=by
 cases f with
 |isi Ts =>
  cases Ts with
  |nil=>cases h
  |cons a r=>cases r with
   |nil=>cases h;rfl
   |cons _ _=>cases h
 |_=>cases h
def BC(g:Gd X i P n c){m:O.E}{p2 é:Pos}(hT:T∈kinds)(h2:c.gl "isinstance" = fb)(h5:c.gl (gL T)=fb)(he:PE X e<|tE X i (O.wF P n) m)(ι:Ô [e,.Name (gL T) p2] X.env=(fc,eval e X.env)::Ô [.Name (gL T) p2] X.env) :
  PE X (.Call (.Name "isinstance" p) [e,.Name (gL T) p2] [] é) (tE X i (O.wF P n)<|.bi (.isi [T])<|.cons m .nil):=by
 have di:=hT;simp only[kinds,Ç,Ø,or_false]at di;refine QE hT he g.K (g.gl h2) (g.bl _<|by simp[blts]) (g.gl h5) ?_ ?_ ?_ ?_ ι
 .rcases di with rfl|rfl|rfl|rfl|rfl|rfl<;>exact g.bl _ (by simp[blts])
 .rcases di with rfl|rfl|rfl|rfl|rfl|rfl<;>kernel_rfl
 .rcases di with rfl|rfl|rfl|rfl|rfl|rfl<;>decide
 .rcases di with rfl|rfl|rfl|rfl|rfl|rfl<;>decide
variable {m:O.Bm} {o:Expr} {mo:O.E} {Ő:Pos} {š:Pos}
def D4(g:Gd X i P n c)(h:Ee m=eY 0)(ho:PE X o<|tE X i (O.wF P n) mo)(hb:∀f,Ĩ o f X.env (eval o X.env)=eval o X.env)(hl:(Ő.endLine==š.line)=fb) :
  PE X (.Call (.Attribute o (Pk m) Ő) [] [] š) (tE X i (O.wF P n)<|.bm m mo .nil):=by
 cases m with
 |_=>cases h
def Fu(g:Gd X i P n c){k:Nat}(h:Ee m=eY (k+1)){ms:O.Es}(ho:PE X o<|tE X i (O.wF P n) mo)(ha:PA X (e::es)<|tAr X i (O.wF P n) ms l)(hb:∀f,Ĩ o f X.env (eval o X.env)=eval o X.env)(hl:(Ő.endLine==š.line)=fb)
  (aF:((Ħ š<|Ô (e::es) X.env).all (λx=>!x.1)&&(Ž š<|ŋ [] X.env).all (λx=>x.1.isSome)&&gK ((e::es).length+([]:List aP).length+(if([]:List aP).isEmpty then 0 else 1)<30))=fb)
  (hs:Ô (e::es) X.env=(fc,eval e X.env)::Ô es X.env) (hpl:(Ħ š<|Ô es X.env).any (·.1)=fc) :
  PE X (.Call (.Attribute o (Pk m) Ő) (e::es) [] š) (tE X i (O.wF P n)<|.bm m mo ms):=by
 have u1:X.A.units+1<ĩ:=by have:=g.un;lia
 cases m with
 |append=>exact Ca g.K PySem.F.plainAttrs_list PySem.F.slot_list_append PySem.F.type_list_append AY (QF rfl) Hy ho ha (hb _) aF hl hs hpl
 |popAt=>exact Ca g.K PySem.F.plainAttrs_list PySem.F.slot_list_pop PySem.F.type_list_pop Cz (QF rfl) Gf ho ha (hb _) aF hl hs hpl
 |dget=>exact Ca g.K PySem.F.plainAttrs_dict PySem.F.slot_dict_get PySem.F.type_dict_get (DI u1) (LC rfl) L9 ho ha (hb _) aF hl hs hpl
 |dpop=>exact Ca g.K PySem.F.plainAttrs_dict PySem.F.slot_dict_pop PySem.F.type_dict_pop mt_dpop (LC rfl) HX ho ha (hb _) aF hl hs hpl
 |dpopD=>exact Ca g.K PySem.F.plainAttrs_dict PySem.F.slot_dict_pop PySem.F.type_dict_pop (mt_dpop.or DO) (LC rfl) FP ho ha (hb _) aF hl hs hpl
 |_=>cases h
variable {sc:ξ} {ö:List Nat}
def Gd.blk(g:Gd X i P n c){x:List Str}(hb:Yj sc c.sc c.N x ö=fb)(hk:sc.kind=.function)(cl:List<|Str×È)(C:È)(s:Å)(H:Hp)(ex:List È) :
  Gd (Zt X sc (Z1 X x ö) cl C s H ex) i P n (c.blk sc x ö) where
 K:=g.K
 N:=by show Z1 X x ö=_;unfold Z1;rw[g.N];rfl
 sc:=by show b7 sc X.env=_;unfold b7 Env.kindOf;rw[g.sc];rfl
 nd:=by have B:=OV g.sc g.N hk hb;have:=B.nd;unfold Z1 at this;rw[g.N]at this;exact this
 un:=g.un
 calm:=g.calm
 room:=g.room
 bl:=g.bl
 dfs:=g.dfs
 cst:=g.cst
 kl:=⟨g.kl.A,g.kl.F,g.kl.mkc,g.kl.mth⟩
 xl:=λh=>⟨(g.xl h).xc,(g.xl h).rs,(g.xl h).kn⟩
def Gd.pt(g:Gd X i P n c)(ej:c.cm=fb){xs:List Str}(hb:Yj sc c.sc c.N xs ö=fb)(hk:sc.kind=.function){p:O.Pt}(hp:Oy xs.length p=fb)(x:Expr)(cl:List<|Str×È)(C:È)(s:Å)(H:Hp)(ex:List È) :
  PG (Zt X sc (Z1 X xs ö) cl C s H ex) (toP p (c.blk sc xs ö) x) (gPt i p):=by
 have B:=OV g.sc g.N hk hb;have G:=g.blk hb hk cl C s H ex;have key:∀j,j<xs.length->Db (Zt X sc (Z1 X xs ö) cl C s H ex) (c.blk sc xs ö) j:=λj hj=>by
  have e:(c.blk sc xs ö).nmOf j=xs[j]:=by unfold Md.nmOf Md.blk;show(xs++_).getD j _=_;rw[ÿ,Ċ hj,É hj];rfl
  have lo:=lookup_relabel_local (env:=X.env)<|B.own xs[j]<|ţ hj;unfold Db;rw[e];refine⟨?_,.inl lo,.inr lo⟩;show(xs++_)[j]?=_;rw[Ċ hj,É hj]
 refine GN G.K (by rw[G.N];exact G.nd) (g.calm ej) ?_;cases p with
 |one j=>exact key j<|of_decide_eq_true hp
 |many js=>exact λj hj=>key j<|of_decide_eq_true<|ó.mp hp j hj
 |nest j js=>cases hp
variable {b:O.E}
def O1(h:ZH b=fb):∃a d,b=.and a d:=by
 cases b with
 |and a d=>exact⟨a,d,rfl⟩
 |_=>cases h
def DS(h:Yy b=fb):∃a d,b=.or a d:=by
 cases b with
 |or a d=>exact⟨a,d,rfl⟩
 |_=>cases h
def Bf{b:O.Tt}(h:Zq b=fb):∃a d,b=.and a d:=by
 cases b with
 |and a d=>exact⟨a,d,rfl⟩
 |_=>cases h
def Fv{b:O.Tt}(h:ZC b=fb):∃a d,b=.or a d:=by
 cases b with
 |or a d=>exact⟨a,d,rfl⟩
 |_=>cases h
def Mx{b:Bool}(h:(!b||p==q)=fb)(hb:b=fb):p=q:=by rw[hb]at h;exact eq_of_beq h
variable {Φ:O.Fs} {x:Expr}
def Cs(hp:(!ZH b||(rest (ZH b) x).pos==x.pos)=fb)(h:PE X (toX b c<|rest (ZH b) x)<|tE X i Φ b):PE X (.BoolOp .And (flat (ZH b)<|toX b c<|rest (ZH b) x) x.pos)<|tE X i Φ b:=by
 cases z:ZH b with
 |false=>rw[z]at h;exact Dh h
 |true =>have e:=Mx hp z;rw[z]at e h;obtain⟨a,d,rfl⟩:=O1 z;show PE X (.BoolOp .And (sub<|.BoolOp .And _ (rest fb x).pos) x.pos) _;rw[<-e];exact h
def Fa(hp:(!Yy b||(rest (Yy b) x).pos==x.pos)=fb)(h:PE X (toX b c<|rest (Yy b) x)<|tE X i Φ b):PE X (.BoolOp .Or (flat (Yy b)<|toX b c<|rest (Yy b) x) x.pos)<|tE X i Φ b:=by
 cases z:Yy b with
 |false=>rw[z]at h;exact Dh h
 |true =>have e:=Mx hp z;rw[z]at e h;obtain⟨a,d,rfl⟩:=DS z;show PE X (.BoolOp .Or (sub<|.BoolOp .Or _ (rest fb x).pos) x.pos) _;rw[<-e];exact h
def Kk(b:Bool){e:O.E}(h:b=ZH e\/b=Yy e):∃y ys,flat b (toX e c x)=y::ys:=by
 cases b with
 |false=>exact⟨_,_,rfl⟩
 |true =>
  rcases h with h|h
  .obtain⟨a,d,rfl⟩:=O1 h.symm;exact⟨_,_,rfl⟩
  .obtain⟨a,d,rfl⟩:=DS h.symm;exact⟨_,_,rfl⟩
variable {i:Inf}{P:O.Pg}{n:Nat}
variable {X:Cx} {c:Md} {Φ:O.Fs} {b:O.Tt} {x:Expr}
def A9(hp:(!Zq b||(rest (Zq b) x).pos==x.pos)=fb)(h:PT X (toT b c<|rest (Zq b) x)<|tTt X i Φ b)(h2:(Zq b||ZC b)=fb->PW X (toT b c<|rest (Zq b) x) (tTt X i Φ b)) :
  ∃y ys,flat (Zq b) (toT b c<|rest (Zq b) x)=y::ys/\PW X (.BoolOp .And (y::ys) x.pos) (tTt X i Φ b):=by
 cases z:Zq b with
 |false=>rw[z]at h;exact⟨_,_,rfl,FY h⟩
 |true =>have e:=Mx hp z;rw[z]at e h2;obtain⟨a,d,rfl⟩:=Bf z;refine⟨_,_,rfl,?_⟩;rw[<-e];exact h2 rfl
def D6(hp:(!ZC b||(rest (ZC b) x).pos==x.pos)=fb)(h:PT X (toT b c<|rest (ZC b) x)<|tTt X i Φ b)(h2:(Zq b||ZC b)=fb->PW X (toT b c<|rest (ZC b) x) (tTt X i Φ b)) :
  ∃y ys,flat (ZC b) (toT b c<|rest (ZC b) x)=y::ys/\PW X (.BoolOp .Or (y::ys) x.pos) (tTt X i Φ b):=by
 cases z:ZC b with
 |false=>rw[z]at h;exact⟨_,_,rfl,HL h⟩
 |true =>have e:=Mx hp z;rw[z]at e h2;obtain⟨a,d,rfl⟩:=Fv z;refine⟨_,_,rfl,?_⟩;rw[<-e];exact h2 rfl
variable {e:O.E}
def RZ(h:U8 e=fb):∃s,e=.cst (.str s):=by
 cases e with
 |cst v=>cases v with
  |str s=>exact⟨s,rfl⟩
  |_=>cases h
 |_=>cases h
variable {ö:List Nat} {p:O.Pt} {it:O.It} {é:Pos}
def KW(g:Gd X i P n c){mt:O.Tt}{me:O.E}{bR Ų bF:Expr}{x:List Str}{bh:List Expr}{sc:ξ}(ej:c.cm=fb)(h1:Yj sc c.sc c.N x ö=fb)(hk:sc.kind=.function)(hp:Oy x.length p=fb)
  (hi:PI X bF Ų<|tIt X i (O.wF P n) it) (hs:∀y,Ě Ų X.env y=pure y) (hG:∀cl C s H ex,PG (Zt X sc (Z1 X x ö) cl C s H ex) bF<|gPt i p)
  (hE:∀cl C s H ex,PE (Zt X sc (Z1 X x ö) cl C s H ex) bR<|tE0 i (O.wF P n) me) (hI:∀cl C s H ex,PIfs (Zt X sc (Z1 X x ö) cl C s H ex) bh<|tT0 i (O.wF P n) mt) :
  PE X (.ListComp bR [⟨bF,Ų,bh,0⟩] sc é) (tE X i (O.wF P n)<|.comp ö x.length p it mt me)/\
   ∀(y:Str) (py Ϝ:Pos) (j:Nat),X.N[j]?=eY y->L2.Loc X.env.scope y->(X.fn y=fb\/X.env.scope.names.lookup y=eY .local)->ź (.ListComp bR [⟨bF,Ų,bh,0⟩] sc é) (eY<|.Name y py) Ϝ.line X.env=pure fb->PS X (.Assign [.Name y py] (.ListComp bR [⟨bF,Ų,bh,0⟩] sc é) Ϝ) (tSt X i (O.wF P n)<|.set (.one j)<|.comp ö x.length p it mt me):=by
 have B:=OV g.sc g.N hk h1;have hc:=g.calm ej;refine⟨(Dk hc B hi hG hI hE hs).imp<|Uv hp,λy py Ϝ j hj hl hf hsw=>?_⟩;refine(Bu (by rw[g.N];exact g.nd) hj hl hc B hi hG hI hE hs hsw hf).imp λD σ H ⟨env,G,N,R,Bk,Ct,Xe,p,w,e⟩=>?_;refine Uv hp σ H _ ⟨env,G,_,Xe env,p.pre,w,λv G1 H1 x k1 g1 r1 w1=>?_⟩;obtain⟨Ř,e2,w2⟩:=fh w1;clear w1;cases e2;exact e.nx _ _ G1 H1 k1 g1 ((p.en.keep k1).set r1 j) w2
def Cq{j:Nat}(hN:X.N=c.N)(h:j<c.N.length):X.N[j]?=eY (c.nmOf j):=by rw[hN];unfold Md.nmOf;rw[ÿ,É h];rfl
def ED{o:Expr}{m:Str}{Ő:Pos}{args:List Expr}{env:Env}(hb:Ĩ o m env (eval o env)=eval o env)(aF:cN (args.length+0) (Ħ é<|Ô args env) (Ž é<|ŋ [] env)=fb)(hl:(Ő.endLine==é.line)=fb) :
  eval (.Call (.Attribute o m Ő) args [] é) env=(do
    let ov<-eval o env
    ϊ Ő.atName
    let (f,first)<-ņ [ov] (ϗ ov m<|do return (<-importBound o env).getD fb)
    cB é f first (Ħ é<|Ô args env) (Ž é<|ŋ [] env)):=by
 show(do
   let ov<-Ĩ o m env (eval o env)
   ϊ Ő.atName
   methodCall o m Ő é env ov (args.length+0) (Ħ é<|Ô args env) (Ž é<|ŋ [] env))=_
 rw[hb];unfold methodCall methodCallPos;rw[aF,hl];rfl
def LX(env:Env)(é:Pos){as:O.Es}{xs:List Expr}(h:Zd as<20):cN ((toA as c xs).length+0) (Ħ é<|Ô (toA as c xs) env) (Ž é<|ŋ [] env)=fb:=by unfold cN;rw[bAq,bAq,gH,XS];refine⟨⟨JI env é as c xs,rfl⟩,?_⟩;show Zd as+0+0<30;lia
def Qy{m:O.Tt}(h:Us m=fc->PT X (toT m c x) (tTt X i (O.wF P n) m)):PIfs X (toF m c x)<|tT0 i (O.wF P n) m:=by
 cases m with
 |yes=>exact Ph
 |val e=>exact Wf<|pt0<|h rfl
 |not t=>exact Wf<|pt0<|h rfl
 |and a b=>exact Wf<|pt0<|h rfl
 |or a b=>exact Wf<|pt0<|h rfl
def NR(c:Md):∀(es:O.Es) (xs:List Expr),W6 es=fb->(We<|toA es c xs).all (·.isSome)=fb/\(We<|toA es c xs).length=(C9<|toA es c xs).length/\2*(We<|toA es c xs).length=esL es
 |.nil,_,_=>⟨rfl,rfl,rfl⟩
 |.cons _ .nil,_,h=>by cases h
 |.cons k (.cons v r),xs,h=>by
  obtain⟨h1,h2,h3⟩:=NR c r xs.tail.tail h;refine⟨?_,?_,?_⟩
  .show(fb&&(We<|toA r c xs.tail.tail).all (·.isSome))=fb;rw[h1];rfl
  .show(We<|toA r c xs.tail.tail).length+1=(C9<|toA r c xs.tail.tail).length+1;rw[h2]
  .show 2*((We<|toA r c xs.tail.tail).length+1)=esL r+1+1;lia
mutual
theorem eE:∀(m:O.E) (X:Cx) (c:Md) (x:Expr),Gd X i P n c->okE m c x=fb->PE X (toX m c x) (tE X i (O.wF P n) m)
 |.cst v,X,c,x,g,h=>Hz h
 |.var j,X,c,x,g,h=>by have h:(gK (j<c.N.length)&&c.vis (c.nmOf j)&&nm (c.nmOf j))=fb:=h;rw[bAq,bAq,gH]at h;obtain⟨q1,q2,_⟩:=Um h.2;exact Qb (Cq g.N h.1.1) (g.vis h.1.2) q1 q2
 |.glob y v,X,c,x,g,h=>by have h:((c.gl (gL y)&&nm (gL y))&&gK (c.cs.lookup y=eY v))=fb:=h;rw[bAq,bAq,gH]at h;obtain⟨q1,q2,_⟩:=Um h.1.2;obtain⟨u,z,e1,e2,e3⟩:=g.cst _ _ h.2;exact Io (Gb (g.gl h.1.1) e1 e2 q1) e3
 |.bin o a b,X,c,x,g,h=>by have h:(okE a c (kid x 0)&&okE b c (kid x 1))=fb:=h;rw[bAq]at h;exact Rj g (eE a X c _ g h.1)<|eE b X c _ g h.2
 |.neg a,X,c,x,g,h=>Q4<|eE a X c _ g h
 |.not a,X,c,x,g,h=>Pn<|eE a X c _ g h
 |.and a b,X,c,x,g,h=>by have h:(okE a c (kid x 0)&&okE b c (rest (ZH b) x)&&(!ZH b||(rest (ZH b) x).pos==x.pos))=fb:=h;rw[bAq,bAq]at h;have h2:=Cs h.2<|eE b X c _ g h.1.2;obtain⟨y,ys,e⟩:=Kk (c:=c) (ZH b) (e:=b) (x:=rest (ZH b) x)<|.inl rfl;show PE X (.BoolOp .And (toX a c (kid x 0)::flat (ZH b) (toX b c<|rest (ZH b) x)) x.pos) _;rw[e]at h2 ⊢;exact Re (eE a X c _ g h.1.1) h2
 |.or a b,X,c,x,g,h=>by have h:(okE a c (kid x 0)&&okE b c (rest (Yy b) x)&&(!Yy b||(rest (Yy b) x).pos==x.pos))=fb:=h;rw[bAq,bAq]at h;have h2:=Fa h.2<|eE b X c _ g h.1.2;obtain⟨y,ys,e⟩:=Kk (c:=c) (Yy b) (e:=b) (x:=rest (Yy b) x)<|.inr rfl;show PE X (.BoolOp .Or (toX a c (kid x 0)::flat (Yy b) (toX b c<|rest (Yy b) x)) x.pos) _;rw[e]at h2 ⊢;exact R3 (eE a X c _ g h.1.1) h2
 |.cmp o a b,X,c,x,g,h=>by have h:(okE a c (kid x 0)&&okE b c (kid x 1)&&(!X9 o||MY b))=fb:=h;rw[bAq,bAq]at h;exact(NC g h.2 (eE a X c _ g h.1.1)<|eE b X c _ g h.1.2).1
 |.chain o1 o2 a b d,X,c,x,g,h=>by have h:(okE a c (kid x 0)&&okE b c (kid x 1)&&okE d c (kid x 2) && !X9 o1 && !X9 o2)=fb:=h;rw[bAq,bAq,bAq,bAq,Ş,Ş]at h;obtain⟨⟨⟨⟨h1,h2⟩,h3⟩,h4⟩,h5⟩:=h;exact(JF g h4 h5 (eE a X c _ g h1) (eE b X c _ g h2)<|eE d X c _ g h3).1
 |.call f as,X,c,x,g,h=>by
  have h:((c.gl (gL f)&&nm (gL f))&&c.fs.contains f&&c.cm&&okA as c (sub x).tail)=fb:=h;rw[bAq,bAq,bAq,bAq]at h;obtain⟨⟨⟨⟨h1,h2⟩,h3⟩,h4⟩,h5⟩:=h;obtain⟨q1,_,_⟩:=Um h2;have ha:=eA as X c _ g h5;cases as with
  |nil=>exact F6 g.K (g.dfs _ h3) (g.rm h4) (g.gl h1) q1
  |cons a as=>exact HM g.K (g.dfs _ h3) (g.rm h4) (g.gl h1) q1 ha (Zs ..)<|Yo ..
 |.make C as,X,c,x,g,h=>by
  have h:((c.gl (gL C)&&nm (gL C))&&c.cl.contains C&&c.cm&&gK (Zd as≠0)&&okA as c (sub x).tail)=fb:=h;rw[bAq,bAq,bAq,bAq,bAq,gH]at h;obtain⟨⟨⟨⟨⟨h1,h2⟩,h3⟩,h4⟩,h6⟩,h5⟩:=h;obtain⟨q1,_,_⟩:=Um h2;have ha:=eA as X c _ g h5;obtain⟨a,f,i1,i2,M,hm,D⟩:=g.kl.mkc C h3;cases as with
  |nil=>exact gJ rfl h6
  |cons b as=>exact LI g.K i1 i2 M D (g.room h4) (g.gl h1) hm q1 ha (Zs ..)<|Yo ..
 |.meth C m o as,X,c,x,g,h=>by
  have h:(c.ms.contains (C,m)&&c.cm&&okE o c (kid (kid x 0) 0)&&YE (toX o c<|kid (kid x 0) 0)&&((kid x 0).pos.endLine==x.pos.line)&&gK (Zd as<20)&&okA as c (sub x).tail)=fb:=h;rw[bAq,bAq,bAq,bAq,bAq,bAq,gH]at h;obtain⟨⟨⟨⟨⟨⟨h1,h2⟩,h3⟩,h4⟩,h6⟩,h7⟩,h5⟩:=h;have ev:=ED (m:=gL m) (Yv h4 _ X.env) (LX X.env x.pos (c:=c) (xs:=(sub x).tail) h7) h6;have ha:=eA as X c _ g h5;have ho:=eE o X c _ g h3;obtain⟨a,f,i1,A,M,D⟩:=g.kl.mth C m h1;cases as with
  |nil=>exact Ev g.K i1 A M D (g.rm h2) ho ev
  |cons b as=>exact IZ g.K i1 A M D (g.rm h2) ho ha (Zs ..) (Yo ..) ev
 |.fld o f,X,c,x,g,h=>by have h:(c.fl.contains f&&okE o c (kid x 0)&&YE (toX o c<|kid x 0))=fb:=h;rw[bAq,bAq]at h;exact PF g.K g.kl.A (g.kl.F _ h.1.1) (eE o X c _ g h.1.2)<|Yv h.2 _ _
 |.bi f as,X,c,x,g,h=>by
  have h:((match Eu f with
    |some T=>gK (Zd as=1)&&kinds.contains T&&c.gl "isinstance" && c.gl (gL T)
    |none=>match FG f with
      |some Ts=>gK (Zd as=1)&&c.gl "isinstance" && !c.xs.isEmpty&&L7 c Ts
      |none=>match Cu f with
        |some Ts=>gK (Zd as=1)&&c.gl "isinstance" && Ts.all (λT=>kinds.contains T&&c.gl (gL T))&&gK (Ts.length<=20)
        | none=>if XT f then gK (Zd as=1)&&c.gl "len" && c.gl "set" && c.cm else if WS f then gK (Zd as=1)&&c.gl (Yk f)&&c.gl (Bj f)&&c.cm else if KY f then gK (Zd as=1)&&c.gl "min" && c.cm else if Uc f then gK (Zd as=1)&&c.gl "dict" && c.gl "enumerate" && c.cm else if UK f then gK (Zd as=1)&&c.gl "isinstance" && c.gn (NN f)&&c.cl.contains (NN f)else XY f&&c.gl (Yk f)&&gK (Zd as≠0)&&(c.cm||Wq f))&&okA as c (Ue f x))=fb:=h
  rw[bAq]at h;cases z:Eu f with
  |some T =>
   have h1:=h.1;rw[z]at h1;rw[bAq,bAq,bAq,gH]at h1;obtain⟨⟨⟨h1,h2⟩,h3⟩,h4⟩:=h1;cases Lv z;cases as with
   |nil=>cases h1
   |cons a as=>cases as with
    |nil =>have h5:(okE a c _&&fb)=fb:=h.2;rw[bAq]at h5;exact BC g (Ć.mp h2) h3 h4 (eE a X c _ g h5.1)<|Zs ..
    |cons b as=>exact gJ h1 (by simp[Zd])
  |none =>
   have h1:=h.1;rw[z]at h1
   replace h1:(match FG f with
     |some Ts=>gK (Zd as=1)&&c.gl "isinstance" && !c.xs.isEmpty&&L7 c Ts
     |none=>match Cu f with
       |some Ts=>gK (Zd as=1)&&c.gl "isinstance" && Ts.all (λT=>kinds.contains T&&c.gl (gL T))&&gK (Ts.length<=20)
       | none=>if XT f then gK (Zd as=1)&&c.gl "len" && c.gl "set" && c.cm else if WS f then gK (Zd as=1)&&c.gl (Yk f)&&c.gl (Bj f)&&c.cm else if KY f then gK (Zd as=1)&&c.gl "min" && c.cm else if Uc f then gK (Zd as=1)&&c.gl "dict" && c.gl "enumerate" && c.cm else if UK f then gK (Zd as=1)&&c.gl "isinstance" && c.gn (NN f)&&c.cl.contains (NN f)else XY f&&c.gl (Yk f)&&gK (Zd as≠0)&&(c.cm||Wq f))=fb:=h1
   cases zx:FG f with
   |some Ts=>cases zx
   |none =>
    rw[zx]at h1
    replace h1:(match Cu f with
      |some Ts=>gK (Zd as=1)&&c.gl "isinstance" && Ts.all (λT=>kinds.contains T&&c.gl (gL T))&&gK (Ts.length<=20)
      | none=>if XT f then gK (Zd as=1)&&c.gl "len" && c.gl "set" && c.cm else if WS f then gK (Zd as=1)&&c.gl (Yk f)&&c.gl (Bj f)&&c.cm else if KY f then gK (Zd as=1)&&c.gl "min" && c.cm else if Uc f then gK (Zd as=1)&&c.gl "dict" && c.gl "enumerate" && c.cm else if UK f then gK (Zd as=1)&&c.gl "isinstance" && c.gn (NN f)&&c.cl.contains (NN f)else XY f&&c.gl (Yk f)&&gK (Zd as≠0)&&(c.cm||Wq f))=fb:=h1
    cases zl:Cu f with
    |some Ts=>cases zl
    |none =>
     rw[zl]at h1;dsimp only at h1;split at h1
     .rename_i dG;have hf:f=.lenSet:=by cases f<;>first|rfl|cases dG
      subst hf;rw[bAq,bAq,bAq,gH]at h1;obtain⟨⟨⟨h1,h2⟩,h3⟩,h4⟩:=h1;cases as with
      |nil=>cases h1
      |cons a as=>cases as with
       |nil =>have h6:(okE a c _&&fb)=fb:=h.2;rw[bAq]at h6;exact Cb (g.calm h4) g.K (eE a X c _ g h6.1) (g.gl h2) (g.bl _<|by simp[blts]) (g.gl h3) (g.bl _<|by simp[blts]) (by rw[Zs];rfl)
       |cons b as=>exact gJ h1 (by simp[Zd])
     split at h1
     .rename_i _ dG;have hf:f=.sortedSet:=by cases f<;>first|rfl|cases dG
      rw[bAq,bAq,bAq,gH]at h1;obtain⟨⟨⟨h1,h2⟩,h3⟩,h4⟩:=h1;cases as with
      |nil=>cases h1
      |cons a as=>cases as with
       |nil =>
        rcases hf with rfl
        .have h6:(okE a c _&&fb)=fb:=h.2;rw[bAq]at h6;exact M0 (g.calm h4) g.K (eE a X c _ g h6.1) (g.gl h2) (g.bl _<|by simp[blts]) (g.gl h3) (g.bl _<|by simp[blts,Bj]) (by rw[Zs];rfl)
       |cons b as=>exact gJ h1 (by simp[Zd])
     split at h1
     .rename_i _ _ dG;have hf:f=.minD:=by cases f<;>first|rfl|cases dG
      subst hf;rw[bAq,bAq,gH]at h1;obtain⟨⟨h1,h2⟩,h4⟩:=h1;cases as with
      |nil=>cases h1
      |cons a as=>cases as with
       |nil =>have h6:(okE a c _&&fb)=fb:=h.2;rw[bAq]at h6;exact HE (g.calm h4) (by have:=g.un;lia) g.K (g.gl h2) (g.bl _<|by simp[blts]) (eE a X c _ g h6.1) (by rw[Zs];rfl)
       |cons b as=>exact gJ h1 (by simp[Zd])
     split at h1
     .rename_i _ _ _ dG;exact gJ (show fc=fb from dG) (by decide)
     split at h1
     .rename_i _ _ _ _ dG;exact gJ (show fc=fb from dG) (by decide)
     rw[bAq,bAq,bAq,gH]at h1;obtain⟨⟨⟨h1,h2⟩,h3⟩,h4⟩:=h1;have ha:=eA as X c _ g h.2;cases as with
     |nil=>exact gJ rfl h3
     |cons a as =>
      have e1:toX (.bi f<|.cons a as) c x=.Call (.Name (Yk f) (kid x 0).pos) (toA (.cons a as) c<|Ue f x) [] x.pos:=by cases f<;>first|(cases h1;done)|rfl
      rw[e1];exact Fw g h1 h4 (g.gl h2) ha (Zs ..)<|Yo ..
 |.bm m o as,X,c,x,g,h=>by
  have h:(gK (Ee m=eY (Zd as))&&okE o c (kid (kid x 0) 0)&&YE (toX o c<|kid (kid x 0) 0)&&((kid x 0).pos.endLine==x.pos.line)&&okA as c (sub x).tail)=fb:=h;rw[bAq,bAq,bAq,bAq,gH]at h;obtain⟨⟨⟨⟨h1,h2⟩,h3⟩,h4⟩,h5⟩:=h;have ha:=eA as X c _ g h5;have ho:=eE o X c _ g h2;cases as with
  |nil=>exact D4 g h1 ho (λf=>Yv h3 f _) h4
  |cons a as =>
   refine Fu g h1 ho ha (λf=>Yv h3 f _) h4 ?_ (Zs ..)<|Yo ..;rw[bAq,bAq,gH];refine⟨⟨JI X.env x.pos (.cons a as) c (sub x).tail,rfl⟩,?_⟩;have e2:(toA (.cons a as) c (sub x).tail).length=Zd (.cons a as):=XS ..;have e3:Zd (.cons a as)<=2:=by
    have:∀m:O.Bm,∀k,Ee m=eY k->k<=2:=by intro m k;cases m<;>intro z<;>first|(cases z;done)|(cases z;decide)
    exact this m _ h1
   show(toA (.cons a as) c (sub x).tail).length+0+0<30;lia
 |.idx a b,X,c,x,g,h=>by have h:(okE a c (kid x 0)&&okE b c (kid x 1))=fb:=h;rw[bAq]at h;exact QR (ix_seq.or<|EF (by have:=g.un;lia)) (by rw[g.K];exact PK) (eE a X c _ g h.1) (eE b X c _ g h.2)<|B3 _ _ _
 |.slc a lo hi,X,c,x,g,h=>by have h:(okE a c (kid x 0)&&okO lo c (kid (kid x 1) 0)&&okO hi c (kid (kid x 1) 1))=fb:=h;rw[bAq,bAq]at h;exact Qq Rt (by rw[g.K];exact QD) (eE a X c _ g h.1.1) (eO lo X c _ g h.1.2)<|eO hi X c _ g h.2
 |.tup es,X,c,x,g,h=>by have h:(okA es c (sub x)&&gK (Zd es<=1000))=fb:=h;rw[bAq,gH]at h;exact QY (by rw[XS];exact h.2)<|eA es X c _ g h.1
 |.key es,X,c,x,g,h=>nomatch h
 |.dctP,X,c,x,g,h=>nomatch h
 |.lst es,X,c,x,g,h=>by have h:(okA es c (sub x)&&gK (Zd es<=1000))=fb:=h;rw[bAq,gH]at h;exact PL (by rw[XS];exact h.2)<|eA es X c _ g h.1
 |.dct es,X,c,x,g,h=>by
  have h:(okA es c (sub x)&&W6 es&&gK (esL es<=30))=fb:=h;rw[bAq,bAq,gH]at h;obtain⟨⟨h1,h2⟩,h3⟩:=h;have hp:=eD es X c (sub x) x.pos g h1 h2;cases es with
  |nil=>exact LZ
  |cons k r=>cases r with
   |nil=>cases h2
   |cons v r =>obtain⟨q1,q2,q3⟩:=NR c (.cons k<|.cons v r) (sub x) h2;refine Qt h2 h3 hp q1 q2 (by intro z;cases z) (by rw[<-q3]at h3;lia)
 |.ife t a b,X,c,x,g,h=>by have h:(okT t c (kid x 0)&&okE a c (kid x 1)&&okE b c (kid x 2))=fb:=h;rw[bAq,bAq]at h;exact Pm (eT t X c _ g h.1.1).1 (eE a X c _ g h.1.2)<|eE b X c _ g h.2
 |.comp ö m p it t e,X,c,x,g,h=>by
  have h:((Oy m p&&(YJ<|kid x 1).length == m)&&c.cm&&Yj (scp x) c.sc c.N (YJ<|kid x 1) ö&&(scp x).kind == .function&&okI it c (kid x 2) (!Zz p)&&okE e (c.blk (scp x) (YJ<|kid x 1) ö) (kid x 0)&&(Us t||okT t (c.blk (scp x) (YJ<|kid x 1) ö) (kid x 3)))=fb:=h;rw[bAq,bAq,bAq,bAq,bAq,bAq]at h;obtain⟨⟨⟨⟨⟨⟨h1,h2⟩,h3⟩,h4⟩,h5⟩,h6⟩,h7⟩:=h;rw[bAq,beq_iff_eq]at h1;obtain⟨h1,rfl⟩:=h1;have hk:=eq_of_beq h4;obtain⟨t1,t2⟩:=ME (c:=c.blk (scp x) (YJ<|kid x 1) ö) p<|kid x 1;obtain⟨a1,a2⟩:=eI it X c (kid x 2) (toP p (c.blk (scp x) (YJ<|kid x 1) ö)<|kid x 1) g (!Zz p) t1 t2 h5;exact(KW g h2 h3 hk h1 a1 a2 (g.pt h2 h3 hk h1 _)
    (λcl C s H ex=>pe0<|eE e _ _ _ (g.blk h3 hk cl C s H ex) h6) (λcl C s H ex=>Qy λz=>(eT t _ _ _ (g.blk h3 hk cl C s H ex)<|by rw[z]at h7;exact h7).1)).1
 |.fstr es,X,c,x,g,h=>nomatch h
 |.repl _ _ _,X,c,x,g,h=>nomatch h
 |.split o a,X,c,x,g,h=>nomatch h
 |.rev a,X,c,x,g,h=>nomatch h
theorem eD:∀(es:O.Es) (X:Cx) (c:Md) (xs:List Expr) (é:Pos),Gd X i P n c->okA es c xs=fb->W6 es=fb->PPs X é (We<|toA es c xs) (C9<|toA es c xs) (Ut X i (O.wF P n) es)
 |.nil,X,c,xs,é,g,h,he=>F8
 |.cons k .nil,X,c,xs,é,g,h,he=>by cases he
 |.cons k (.cons v r),X,c,xs,é,g,h,he=>by have h:(okE k c (xs.headD dE)&&(okE v c (xs.tail.headD dE)&&okA r c xs.tail.tail))=fb:=h;rw[bAq,bAq]at h;exact B8 (eE k X c _ g h.1) (eE v X c _ g h.2.1)<|eD r X c _ é g h.2.2 he
theorem eA:∀(ms:O.Es) (X:Cx) (c:Md) (xs:List Expr),Gd X i P n c->okA ms c xs=fb->PA X (toA ms c xs) (tAr X i (O.wF P n) ms (toA ms c xs).length)
 |.nil,X,c,xs,g,h=>Ib
 |.cons a as,X,c,xs,g,h=>by have h:(okE a c (xs.headD dE)&&okA as c xs.tail)=fb:=h;rw[bAq]at h;exact Gg (eE a X c _ g h.1) (eA as X c _ g h.2)<|Zs ..
theorem eJ:∀(ms:O.Es) (X:Cx) (c:Md) (xs:List Expr),Gd X i P n c->okJ ms c xs=fb->PJ X (toJ ms c xs) (tJs X i (O.wF P n) ms)
 |.nil,X,c,xs,g,h=>Ik
 |.cons a as,X,c,xs,g,h=>by
  have h:((U8 a||okE a c (kid (xs.headD dE) 0))&&okJ as c xs.tail)=fb:=h;rw[bAq]at h;have hr:=eJ as X c _ g h.2;show PJ X ((if U8 a then toX a c (xs.headD dE)else .FormattedValue (toX a c<|kid (xs.headD dE) 0) (-1) eZ (xs.headD dE).pos)::toJ as c xs.tail) _;cases z:U8 a with
  |true =>obtain⟨s,rfl⟩:=RZ z;exact Ui Lb hr rfl
  |false =>rw[z]at h;exact Ui (IX<|eE a X c _ g h.1) hr rfl
theorem eO:∀(m:O.Oe) (X:Cx) (c:Md) (x:Expr),Gd X i P n c->okO m c x=fb->PO X (toO m c x) (tOx X i (O.wF P n) m)
 |.none,X,c,x,g,h=>Ez
 |.some e,X,c,x,g,h=>FA<|eE e X c _ g h
theorem eT:∀(m:O.Tt) (X:Cx) (c:Md) (x:Expr),Gd X i P n c->okT m c x=fb->PT X (toT m c x) (tTt X i (O.wF P n) m)/\((Zq m||ZC m)=fb->PW X (toT m c x) (tTt X i (O.wF P n) m))
 |.yes,X,c,x,g,h=>nomatch h
 |.val e,X,c,x,g,h=>by
  refine⟨?_,λz=>(by cases z)⟩;have h:(okE e c x&&(Oi e||Qe e))=fb:=h;rw[bAq]at h;have he:=eE e X c x g h.1;cases z:Oi e with
  |true=>exact Lg he (by cases e<;>first|(cases z;done)|exact λ_=>rfl) g.K
  |false =>
   have h2:=h.2;rw[z]at h2;cases e with
   |cmp o a b =>have h:(okE a c (kid x 0)&&okE b c (kid x 1)&&(!X9 o||MY b))=fb:=h.1;rw[bAq,bAq]at h;exact(NC g h.2 (eE a X c _ g h.1.1)<|eE b X c _ g h.1.2).2
   |chain o1 o2 a b d =>have h:(okE a c (kid x 0)&&okE b c (kid x 1)&&okE d c (kid x 2) && !X9 o1 && !X9 o2)=fb:=h.1;rw[bAq,bAq,bAq,bAq,Ş,Ş]at h;obtain⟨⟨⟨⟨h1,h2⟩,h3⟩,h4⟩,h5⟩:=h;exact(JF g h4 h5 (eE a X c _ g h1) (eE b X c _ g h2)<|eE d X c _ g h3).2
   |_=>cases h2
 |.not t,X,c,x,g,h=>⟨Ie (eT t X c _ g h).1,λz=>(by cases z)⟩
 |.and a b,X,c,x,g,h=>by
  have h:(okT a c (kid x 0)&&okT b c (rest (Zq b) x)&&(!Zq b||(rest (Zq b) x).pos==x.pos))=fb:=h;rw[bAq,bAq]at h;have h2:=eT b X c _ g h.1.2;obtain⟨y,ys,e,h3⟩:=A9 h.2 h2.1 h2.2;have h4:PW X (toT (.and a b) c x)<|tTt X i (O.wF P n)<|.and a b:=by show PW X (.BoolOp .And (toT a c (kid x 0)::flat (Zq b) (toT b c<|rest (Zq b) x)) x.pos) _;rw[e];exact IR (eT a X c _ g h.1.1).1 h3
  exact⟨h4.pt,λ_=>h4⟩
 |.or a b,X,c,x,g,h=>by
  have h:(okT a c (kid x 0)&&okT b c (rest (ZC b) x)&&(!ZC b||(rest (ZC b) x).pos==x.pos))=fb:=h;rw[bAq,bAq]at h;have h2:=eT b X c _ g h.1.2;obtain⟨y,ys,e,h3⟩:=D6 h.2 h2.1 h2.2;have h4:PW X (toT (.or a b) c x)<|tTt X i (O.wF P n)<|.or a b:=by show PW X (.BoolOp .Or (toT a c (kid x 0)::flat (ZC b) (toT b c<|rest (ZC b) x)) x.pos) _;rw[e];exact PN (eT a X c _ g h.1.1).1 h3
  exact⟨h4.pt,λ_=>h4⟩
theorem eI:∀(m:O.It) (X:Cx) (c:Md) (x tg:Expr),Gd X i P n c->∀(b:Bool),(b=fb->∃es k p,tg=.Tuple es k p)->(b=fc->∃y p,tg=.Name y p)->okI m c x b=fb->PI X tg (toI m c x) (tIt X i (O.wF P n) m)/\∀y,Ě (toI m c x) X.env y=pure y
 |.seq e,X,c,x,tg,g,b,t1,t2,h=>⟨HI g.K<|eE e X c _ g h,HJ _ _ _ _⟩
 |.chars e,X,c,x,tg,g,b,t1,t2,h=>nomatch h
 |.range a,X,c,x,tg,g,b,t1,t2,h=>by have h:(c.gl "range" && okE a c (kid x 1))=fb:=h;rw[bAq]at h;exact⟨B1 (g.gl h.1) (g.bl _<|by simp[blts]) (eE a X c _ g h.2)<|Zs ..,λ_=>rfl⟩
 |.range2 a d,X,c,x,tg,g,b,t1,t2,h=>by have h:(c.gl "range" && okE a c (kid x 1)&&okE d c (kid x 2))=fb:=h;rw[bAq,bAq]at h;exact⟨Ap (g.gl h.1.1) (g.bl _<|by simp[blts]) (eE a X c _ g h.1.2) (eE d X c _ g h.2) (by rw[Zs,Zs];rfl)<|Zs ..,λ_=>rfl⟩
 |.zip a d,X,c,x,tg,g,b,t1,t2,h=>nomatch h
 |.enum e,X,c,x,tg,g,b,t1,t2,h=>by have h:(b&&c.gl "enumerate" && okE e c (kid x 1))=fb:=h;rw[bAq,bAq]at h;obtain⟨es,k,p,rfl⟩:=t1 h.1.1;exact⟨GJ g.K (g.gl h.1.2) (g.bl _<|by simp[blts]) (eE e X c _ g h.2) (by rw[Zs];rfl),λ_=>rfl⟩
 |.items e,X,c,x,tg,g,b,t1,t2,h=>nomatch h
 |.rev e,_,_,_,_,_,_,_,_,h=>nomatch h
end
def Au(g:Gd X i P n c){m:Nat}{t:O.Tt}(h:okE (.comp ö m p it t e) c x=fb) :
  PE X (toX (.comp ö m p it t e) c x) (tE X i (O.wF P n)<|.comp ö m p it t e)/\
   ∀(y:Str) (py Ϝ:Pos) (j:Nat),X.N[j]?=eY y->L2.Loc X.env.scope y->(X.fn y=fb\/X.env.scope.names.lookup y=eY .local)->ź (toX (.comp ö m p it t e) c x) (eY<|.Name y py) Ϝ.line X.env=pure fb->PS X (.Assign [.Name y py] (toX (.comp ö m p it t e) c x) Ϝ) (tSt X i (O.wF P n)<|.set (.one j)<|.comp ö m p it t e):=by
 have h:((Oy m p&&(YJ<|kid x 1).length==m)&&c.cm&&Yj (scp x) c.sc c.N (YJ<|kid x 1) ö&&(scp x).kind == .function&&okI it c (kid x 2) (!Zz p)&&okE e (c.blk (scp x) (YJ<|kid x 1) ö) (kid x 0)&&(Us t||okT t (c.blk (scp x) (YJ<|kid x 1) ö) (kid x 3)))=fb:=h;rw[bAq,bAq,bAq,bAq,bAq,bAq]at h;obtain⟨⟨⟨⟨⟨⟨h1,h2⟩,h3⟩,h4⟩,h5⟩,h6⟩,h7⟩:=h;rw[bAq,beq_iff_eq]at h1;obtain⟨h1,rfl⟩:=h1;have hk:=eq_of_beq h4;obtain⟨t1,t2⟩:=ME (c:=c.blk (scp x) (YJ<|kid x 1) ö) p<|kid x 1;obtain⟨a1,a2⟩:=eI it X c (kid x 2) (toP p (c.blk (scp x) (YJ<|kid x 1) ö)<|kid x 1) g (!Zz p) t1 t2 h5;exact KW g h2 h3 hk h1 a1 a2 (g.pt h2 h3 hk h1 _)
  (λcl C s H ex=>pe0<|eE e _ _ _ (g.blk h3 hk cl C s H ex) h6) (λcl C s H ex=>Qy λz=>(eT t _ _ _ (g.blk h3 hk cl C s H ex)<|by rw[z]at h7;exact h7).1)
abbrev dS:ŀ:=.Pass ⟨0,0,0,0⟩
abbrev stE:ŀ->List Expr
 |.Assign ts v _=>v::ts
 |.AugAssign t _ v _=>[v,t]
 |.For t it _ _ _=>[t,it]
 |.While t _ _ _=>[t]
 |.If t _ _ _=>[t]
 |.Expr e _=>[e]
 |.Return (eY e) _=>[e]
 |.Raise (eY e) _ _=>[e]
 |_=>[]
abbrev ke(s:ŀ)(j:Nat):Expr:=(stE s).getD j dE
abbrev stB:ŀ->List ŀ
 |.For _ _ b _ _=>b
 |.While _ b _ _=>b
 |.If _ b _ _=>b
 |.Try b _ _ _ _=>b
 |_=>[]
abbrev stO:ŀ->List ŀ
 |.If _ _ b _=>b
 |_=>[]
abbrev stH:ŀ->List ExceptHandler
 |.Try _ hs _ _ _=>hs
 |_=>[]
abbrev dH:ExceptHandler:=.ExceptHandler eZ eZ [] ⟨0,0,0,0⟩
abbrev hT:ExceptHandler->Expr
 |.ExceptHandler (eY e) _ _ _=>e
 |_=>dE
abbrev hB:ExceptHandler->List ŀ
 |.ExceptHandler _ _ b _=>b
abbrev hP:ExceptHandler->Pos
 |.ExceptHandler _ _ _ p=>p
abbrev Md.hot(c:Md):Md:={c with cm:=fc}
abbrev Sd(t:Option Nat)(e:O.E)(c:Md)(y:ŀ):ŀ:=match t with
 |none=>.Expr (toX e c<|ke y 0) y.pos
 |some j=>.Assign [.Name (c.nmOf j) (ke y 1).pos] (toX e c<|ke y 0) y.pos
mutual
noncomputable def toS:O.S->Md->ŀ->ŀ
 |.set p a,c,s=>.Assign [toP p c<|ke s 1] (toX a c<|ke s 0) s.pos
 |.setIdx a j e,c,s=>.Assign [.Subscript (toX a c<|kid (ke s 1) 0) (toX j c<|kid (ke s 1) 1) (ke s 1).pos] (toX e c<|ke s 0) s.pos
 |.setPair a i b j e,c,s=>.Assign [.Tuple [.Subscript (toX a c<|kid (kid (ke s 1) 0) 0) (toX i c<|kid (kid (ke s 1) 0) 1) (kid (ke s 1) 0).pos,.Subscript (toX b c<|kid (kid (ke s 1) 1) 0) (toX j c<|kid (kid (ke s 1) 1) 1) (kid (ke s 1) 1).pos] (num<|ke s 1) (ke s 1).pos] (toX e c<|ke s 0) s.pos
 |.setFld o f e,c,s=>.Assign [.Attribute (toX o c<|kid (ke s 1) 0) (gL f) (ke s 1).pos] (toX e c<|ke s 0) s.pos
 |.augVar j op e,c,s=>.AugAssign (.Name (c.nmOf j) (ke s 1).pos) (OA op) (toX e c<|ke s 0) s.pos
 |.augFld o f op n,c,s=>.AugAssign (.Attribute (toX o c<|kid (ke s 1) 0) (gL f) (ke s 1).pos) (OA op) (.Constant (.int n) (num<|ke s 0) (ke s 0).pos) s.pos
 |.augIdx a j op n,c,s=>.AugAssign (.Subscript (toX a c<|kid (ke s 1) 0) (toX j c<|kid (ke s 1) 1) (ke s 1).pos) (OA op) (.Constant (.int n) (num<|ke s 0) (ke s 0).pos) s.pos
 |.expr e,c,s=>.Expr (toX e c<|ke s 0) s.pos
 |.ret e,c,s=>.Return (eY<|toX e c<|ke s 0) s.pos
 |.retN,_,s=>.Return eZ s.pos
 |.ite t a b,c,s=>.If (toT t c<|ke s 0) (toSs a c<|stB s) (toSs b c<|stO s) s.pos
 |.whl t b,c,s=>.While (toT t c<|ke s 0) (toSs b c<|stB s) [] s.pos
 |.for p it b,c,s=>.For (toP p c<|ke s 0) (toI it c<|ke s 1) (toSs b c<|stB s) [] s.pos
 |.forI fb p e b,c,s=>.For (toP p c<|ke s 0) (toX e c<|ke s 1) (toSs b c<|stB s) [] s.pos
 |.forI fc p e b,c,s=>.For (toP p c<|ke s 0) (.Call (.Attribute (toX e c<|kid (kid (ke s 1) 0) 0) "items" (kid (ke s 1) 0).pos) [] [] (ke s 1).pos) (toSs b c<|stB s) [] s.pos
 |.brk,_,s=>.Break s.pos
 |.cnt,_,s=>.Continue s.pos
 |.pass,_,s=>.Pass s.pos
 |.raise C as,c,s=>.Raise (eY<|.Call (.Name (gL C) (kid (ke s 0) 0).pos) (toA as c (sub<|ke s 0).tail) [] (ke s 0).pos) eZ s.pos
 |.try t e hs,c,s=>.Try [Sd t e c<|(stB s).headD dS] (toH hs c<|stH s) [] [] s.pos
 |_,_,s=>s
noncomputable def toH:O.Hn->Md->List ExceptHandler->List ExceptHandler
 |.nil,_,_=>[]
 |.cons K nm b r,c,xs=>.ExceptHandler (eY<|.Name (gL K) (hT<|xs.headD dH).pos) (nm.map c.nmOf) (toSs b c.hot<|hB<|xs.headD dH) (hP<|xs.headD dH)::toH r c xs.tail
noncomputable def toSs:O.Ss->Md->List ŀ->List ŀ
 |.nil,_,_=>[]
 |.cons m ms,c,xs=>toS m c (xs.headD dS)::toSs ms c xs.tail
end
abbrev GX:O.E->Bool
 |.idx _ _=>fb
 |.var _=>fb
 |.fld _ _=>fb
 |_=>fc
abbrev ML(c:Md)(j:Nat):Bool:=gK (j<c.N.length)&&c.loc (c.nmOf j)
abbrev okP(p:O.Pt)(c:Md):Bool:=match p with
 |.one j=>ML c j
 |.many js=>js.all<|ML c
 |.nest j js=>ML c j&&js.all (ML c)
abbrev Dn:O.E->Bool
 |.tup _=>fb
 |.key _=>fb
 |_=>fc
abbrev N6:O.E->Bool
 |.comp _ _ _ _ _ _=>fb
 |_=>fc
abbrev swT(c:Md)(tg v:Expr):Bool:=match v,tg with
 |.ListComp _ _ s é,.Name t p=>(if c.sc.kind.isAnnotationScope then ScopeKind.function else c.sc.kind) == .function&&c.sc.names.lookup t==eY .local&&p.line==é.line && !(s.names.any λ(n,k)=>n==t&&(k == .local||k == .cell))
 |_,_=>fc
abbrev Af:O.Bop->Bool
 |.add=>fb
 |.sub=>fb
 |_=>fc
abbrev Se(c:Md)(j:Nat):Bool:=gK (j<c.N.length)&&c.sc.names.lookup (c.nmOf j)==eY .local
abbrev RP(c:Md):Option Nat->Bool
 |none=>fb
 |some j=>Se c j
abbrev QW:O.Ss->Bool
 |.nil=>fc
 |_=>fb
abbrev Rc:O.Hn->Bool
 |.nil=>fb
 |_=>fc
mutual
noncomputable def okS:O.S->Md->ŀ->Bool
 |.set p a,c,s=>okP p c&&okE a c (ke s 0)&&(Zz p || !Dn a)&&(Zz p||c.cm)
 |.setIdx a j e,c,s=>okE e c (ke s 0)&&okE a c (kid (ke s 1) 0)&&okE j c (kid (ke s 1) 1)
 |.setFld o f e,c,s=>c.fl.contains f&&okE o c (kid (ke s 1) 0)&&okE e c (ke s 0)
 |.augFld o f op _,c,s=>c.fl.contains f&&okE o c (kid (ke s 1) 0)&&Af op
 |.augIdx a j op _,c,s=>okE a c (kid (ke s 1) 0)&&okE j c (kid (ke s 1) 1)&&Af op
 |.expr e,c,s=>okE e c (ke s 0) && !N6 e
 |.ret e,c,s=>okE e c<|ke s 0
 |.retN,_,_=>fb
 |.ite t a b,c,s=>okT t c (ke s 0)&&okSs a c (stB s)&&okSs b c (stO s)
 |.whl t b,c,s=>okT t c (ke s 0)&&okSs b c (stB s)&&c.cm
 |.for p it b,c,s=>okP p c&&okI it c (ke s 1) (!Zz p)&&okSs b c (stB s)&&c.cm
 |.forI fb p e b,c,s=>okP p c&&GX e&&okE e c (ke s 1)&&okSs b c (stB s)&&c.cm
 |.forI fc p e b,c,s=>okP p c && !Zz p&&okE e c (kid (kid (ke s 1) 0) 0)&&YE (toX e c<|kid (kid (ke s 1) 0) 0)&&((kid (ke s 1) 0).pos.endLine==(ke s 1).pos.line)&&okSs b c (stB s)&&c.cm
 |.never,_,_=>fb
 |_,_,_=>fc
noncomputable def okH:O.Hn->Md->List ExceptHandler->Bool
 |.nil,_,_=>fc
 |.cons K nm b r,c,xs=>(c.xs.contains K||K == "ShutError")&&c.gn K && !c.xs.isEmpty&&RP c nm&&QW b&&okSs b c.hot (hB<|xs.headD dH)&&Rc r
noncomputable def okSs:O.Ss->Md->List ŀ->Bool
 |.nil,_,_=>fb
 |.cons m ms,c,xs=>okS m c (xs.headD dS)&&okSs ms c xs.tail
end
structure Gs(X:Cx)(i:Inf)(P:O.Pg)(n:Nat)(c:Md):Prop extends Gd X i P n c where
 fn:∀x,c.loc x=fb->X.fn x=fb\/X.env.scope.names.lookup x=eY .local
 own:c.cm=fb->Λ (Ù X.prog X.w) X.A X.env X.xe
 stk:c.cm=fb->X.stack=X.env::X.outer
variable {X:Cx}{i:Inf}{P:O.Pg}{n:Nat}{c:Md}
def Gs.nm1(g:Gs X i P n c){j:Nat}(h:ML c j=fb):X.N[j]?=eY (c.nmOf j)/\L2.Loc X.env.scope (c.nmOf j)/\(X.fn (c.nmOf j)=fb\/X.env.scope.names.lookup (c.nmOf j)=eY .local):=by unfold ML at h;rw[bAq,gH]at h;exact⟨Cq g.N h.1,g.loc h.2,g.fn _ h.2⟩
variable {p:O.Pt}
def Rf(g:Gs X i P n c)(h:okP p c=fb):Hh (Db X c) p:=by
 cases p with
 |one j=>exact g.nm1 h
 |many js=>exact λj hj=>g.nm1<|ó.mp h j hj
 |nest j js =>have h:(ML c j&&js.all (ML c))=fb:=h;rw[bAq]at h;exact⟨g.nm1 h.1,λk hk=>g.nm1<|ó.mp h.2 k hk⟩
variable {x:Expr}
def Uq(g:Gs X i P n c)(ej:c.cm=fb)(h:okP p c=fb):PG X (toP p c x)<|gPt i p:=GN g.K (by rw[g.N];exact g.nd) (g.calm ej) (Rf g h)
variable {tg:Expr}
def WX{l:Nat}{env:Env}(a:O.E)(x:Expr)(hs:env.scope=c.sc):ź (toX a c x) (eY tg) l env=pure (swT c tg<|toX a c x):=by
 cases a with
 |comp ö m p it t e =>
  cases tg with
  |Name t q =>unfold ź swT Env.blockKind Env.kindOf;rw[hs];rfl
  |_=>rfl
 |_=>rfl
def IY(p:O.Pt)(a:O.E)(x y:Expr)(env:Env)(h:(Zz p || !Dn a)=fb):ϑ [toP p c x] (toX a c y) env=pure eZ:=by
 cases p with
 |one j=>cases a<;>rfl
 |many js=>cases a<;>first|rfl|cases h
 |nest j js=>cases a<;>first|rfl|cases h
def CZ(p:O.Pt)(x:Expr)(env:Env):(ġ [toP p c x] env).map (·.2)=[ο (toP p c x) env]:=by cases p<;>rfl
def Pj{a:O.E}(h:swT c tg (toX a c x)=fb):∃ö m p it t e,a=.comp ö m p it t e:=by
 cases a with
 |comp ö m p it t e=>exact⟨_,_,_,_,_,_,rfl⟩
 |_=>cases h
def Gi(y:O.E){b:Expr}{é:Pos}{env:Env}:∀v,ο (.Subscript b (toX y c x) é) env v=(do
    let ov<-ņ [v] (eval b env)
    let iv<-ņ [v,ov] (eval (toX y c x) env)
    ϊ é
    ņ [v,ov,iv] (aN ov iv v)
    eF [v,ov,iv] []):=by
 intro v;cases y<;>rfl
def Ht{op:O.Bop}(h:Af op=fb):DY X (OA op)<|rAS op:=by
 cases op with
 |add =>
  intro Á s σ H x y u v Q I rx ry q;obtain⟨a,b,rfl,rfl,q⟩:=q;rcases q with⟨_,q⟩|⟨z,_⟩
  .exact LM Á s σ H _ _ u v Q I rx ry ⟨a,b,rfl,rfl,q⟩
  .cases z
 |sub =>
  intro Á s σ H x y u v Q I rx ry q;obtain⟨a,b,rfl,rfl,q⟩:=q;rcases q with⟨z,_⟩|⟨_,q⟩
  .cases z
  .exact Ls Á s σ H _ _ u v Q I rx ry ⟨a,b,rfl,rfl,q⟩
 |_=>cases h
def Ea:PGet X<|B4 X.K:=λÁ s σ H x y v u Q I rx ry h=>by
 obtain⟨p,xs,i,z,rfl,rfl,hq,he,q⟩:=h;cases rx;obtain⟨t,rfl⟩:=ry;obtain⟨ð,r,pl,hz⟩:=I.list hq;obtain⟨j,h1,h2,h3,h4,h5⟩:=WK he;obtain⟨w,ew,aX⟩:=r.get h2;have hl:=r.length;have hn:=Xc;have fin:EP X Á σ Q w s:=⟨z,H,I,aX,q⟩
 by_cases h0:0<=i
 .have hj:i.toNat=j:=by
   rw[bI h0 h5]at h1;exact æ h1
  exact wpAny_getItem_list pl.isList h0 (by lia) (by rw[hj];simpa using ew) fin
 .have hj:(i+(ð.toArray.size:Int)).toNat=j:=by
   rw[aO (by lia) h4]at h1;rw[Í,<-hl];exact æ h1
  exact eN pl.isList (by lia) (by rw[Í]<;>lia) (by lia) (by rw[hj];simpa using ew) fin
def Cf(hu:X.A.units+1<ĩ):PGet X DZ:=λÁ s σ H x y v u Q I rx ry h=>by obtain⟨a,z,rfl,g,q⟩:=h;cases rx;exact Ky hu I g ry λw s' I' r=>⟨z,H,I',r,q⟩
def PGet.or{r r':R2}(h:PGet X r)(h':PGet X r'):PGet X λx y H Q=>r x y H Q\/r' x y H Q:=λÁ s σ H o j ov jv Q I ro rj q=>by
 rcases q with q|q
 .exact h Á s σ H o j ov jv Q I ro rj q
 .exact h' Á s σ H o j ov jv Q I ro rj q
def HG{G:O.Hs}{H:Hp}{a:È}{u w:O.Val}{y:V}{K:Frag}{Q:VK}(g:RH i G H)(ry:RV i.K H u y)(e:O.fS G (.ref a) u=eY w)(q:∀z,RV i.K H w z->Q z H):B4 K (.ref a) y H Q\/DZ (.ref a) y H Q:=by
 replace e:(match G a with|some (.lst xs)=>(O.gx u).bind (O.atI xs)|some (.dct kvs)=>if O.fA u then O.fG kvs u else eZ|some (.frz kvs)=>if O.fA u then O.fG kvs u else eZ|some (.dtp kvs)=>if O.isKeyT u then O.fG kvs u else eZ|_=>eZ)=eY w:=e
 cases z:G a with
 |none=>rw[z]at e;cases e
 |some o =>
  rw[z]at e;cases o with
  |lst xs =>obtain⟨k,hk,e⟩:=ì.mp e;cases ZA hk;obtain⟨vs,h1,h2⟩:=g a _ z;obtain⟨t,h3,h4⟩:=WW h2 e;exact .inl ⟨a,vs,k,t,rfl,ry.int_inv,gm.of h1,h3,q t h4⟩
  |dct kvs =>obtain⟨hk,e⟩:=Zn (show(if O.fA u then O.fG kvs u else eZ)=eY w from e);obtain⟨ps,h1,h2⟩:=g a _ z;obtain⟨d,kr,rfl⟩:=fx hk ry;obtain⟨t,hx,rv⟩:=(h2.look kr).1 w e;exact .inr ⟨a,t,rfl,by rw[<-hx];exact DGet.k h1,q t rv⟩
  |frz kvs =>obtain⟨hk,e⟩:=Zn (show(if O.fA u then O.fG kvs u else eZ)=eY w from e);obtain⟨ob,ps,h1,h2⟩:=g a _ z;obtain⟨d,kr,rfl⟩:=fx hk ry;obtain⟨t,hx,rv⟩:=(h2.look kr).1 w e;exact .inr ⟨a,t,rfl,.inl ⟨ps,d,.inr ⟨ob,h1⟩,rfl,hx.symm⟩,q t rv⟩
  |dtp kvs =>obtain⟨hk,e⟩:=Zn (show(if O.isKeyT u then O.fG kvs u else eZ)=eY w from e);obtain⟨ps,h1,h2⟩:=g a _ z;obtain⟨k1,k2,b,rfl,rfl,hb⟩:=WR hk ry;obtain⟨t,hx,rv⟩:=(h2.look).1 w e;exact .inr ⟨a,t,rfl,by rw[<-hx];exact DGet.t h1 hb,q t rv⟩
  |_=>cases e
def Pb(e:O.E)(x:Expr):∀ov iv new,augStore (toX e c x) ov iv new=(do ņ [new,ov,iv] (aN ov iv new);eF [new,ov,iv] [];pure .next):=by intro ov iv new;cases e<;>rfl
def Ax{Φ:O.Fs}{a j:Expr}{ma mj:O.E}{op:O.Bop}{k:Int}{kk:Nat}{é cP š:Pos}(hK:X.K=i.K)(hu:X.A.units+1<ĩ)(h:Af op=fb)(ha:PE X a<|tE X i Φ ma)(hj:PE X j<|tE X i Φ mj)
  (hs:∀ov iv new,augStore j ov iv new=(do ņ [new,ov,iv] (aN ov iv new);eF [new,ov,iv] [];pure .next)) :
  PS X (.AugAssign (.Subscript a j cP) (OA op) (.Constant (.int k) kk š) é) (tSt X i Φ<|.augIdx ma mj op k) :=
 (Fk ha hj (PGet.or Ea<|Cf hu) Oa (Ht h) (PSet.or Nw<|MU hu) hs).imp λD σ H ⟨env,G,N,R,B,C,Xe,p,w,c⟩=>by
  refine one p.pre w λv G1 H1 x k1 p1 rx q=>?_;refine one p1 q λu G2 H2 y k2 p2 ry q=>?_;obtain⟨t,e1,q2⟩:=fh q;clear q;obtain⟨z,e2,q3⟩:=fh q2;clear q2;obtain⟨G3,e3,q4⟩:=fh q3;clear q3;have hr:∃b,v=.ref b:=by
   cases v with
   |ref b=>exact⟨b,rfl⟩
   |_=>cases e3
  obtain⟨b,rfl⟩:=hr;cases rx.ref_inv;have ix2:∀Q:VK,(∀t',RV i.K H2 t t'->Q t' H2)->B4 X.K (.ref b) y H2 Q\/DZ (.ref b) y H2 Q:=λQ hQ=>HG p2.hp ry e1 hQ;refine ix2 _ λt' rt=>?_;obtain⟨n1,n2,rfl,e0,hz⟩:=Nt e2;cases e0;cases rt.int_inv;have fin:∀m:Int,z=.int m->BN (.ref b) y (.int m) H2 λH6=>D.nx σ H6:=λm hm=>by subst hm;exact Dy p2.hp (.ref b) ry (.int m) e3 λH3 k3 g3=>c.nx env σ _ _ ((k1.trans k2).trans k3) g3 (p2.en.keep k3) q4
  rcases hz with⟨eo,hz⟩|⟨eo,hz⟩
  .exact⟨n1,k,rfl,rfl,.inl ⟨eo,fin _ hz⟩⟩
  .exact⟨n1,k,rfl,rfl,.inr ⟨eo,fin _ hz⟩⟩
def Gm(t v:Expr)(p:Pos)(env:Env)(h:(∃a b q,t=.Subscript a b q)\/(∃a b q,t=.Attribute a b q)):ϑ [t] v env=pure eZ:=by rcases h with⟨a,b,q,rfl⟩|⟨a,b,q,rfl⟩<;>rfl
variable {a:O.E} {x:Expr}
def EV{t:Option Expr}{l:Nat}{env:Env}(h:(!N6 a)=fb):ź (toX a c x) t l env=pure fc:=by
 cases a with
 |comp ö m p it tt e=>cases h
 |_=>rfl
def De{tg:Expr}(h:∀y q,tg≠.Name y q):swT c tg (toX a c x)=fc:=by
 cases a with
 |comp ö m p it tt e =>
  cases tg with
  |Name y q=>exact gJ rfl<|h y q
  |_=>rfl
 |_=>rfl
def IH(g:Gs X i P n c){p:O.Pt}(hc:(Zz p||c.cm)=fb)(h:okP p c=fb):PG X (toP p c x)<|gPt i p:=by
 by_cases ej:c.cm=fb
 .exact Uq g ej h
 .cases p with
  |one j =>obtain⟨h1,h2,h3⟩:=g.nm1 h;exact N4 (by rw[g.N];exact g.nd) h1 h2 h3
  |many js=>exact gJ hc ej
  |nest j js=>exact gJ hc ej
def Gd.nox(g:Gd X i P n c):Gd X.nox i P n c :=
 ⟨g.K,g.N,g.sc,g.nd,g.un,g.calm,g.room,g.bl,g.dfs,g.cst,⟨g.kl.A,g.kl.F,g.kl.mkc,g.kl.mth⟩,λh=>⟨(g.xl h).xc,(g.xl h).rs,(g.xl h).kn⟩⟩
def Gs.hot(g:Gs X i P n c)(a:È):Gs (X.caught a) i P n c.hot :=
 {K:=g.K,N:=g.N,sc:=g.sc,nd:=g.nd,un:=g.un,calm:=λz=>(by cases z),room:=λz=>(by cases z),bl:=g.bl,dfs:=g.dfs,cst:=g.cst,kl:=⟨g.kl.A,g.kl.F,g.kl.mkc,g.kl.mth⟩,xl:=λh=>⟨(g.xl h).xc,(g.xl h).rs,(g.xl h).kn⟩,fn:=g.fn,own:=λz=>(by cases z),stk:=λz=>(by cases z)}
mutual
theorem sS:∀(m:O.S) (X:Cx) (c:Md) (s:ŀ),Gs X i P n c->okS m c s=fb->PS X (toS m c s) (tSt X i (O.wF P n) m)
 |.set p a,X,c,s,g,h=>by
  have h:(okP p c&&okE a c (ke s 0)&&(Zz p || !Dn a)&&(Zz p||c.cm))=fb:=h;rw[bAq,bAq,bAq]at h;obtain⟨⟨⟨h1,h2⟩,h3⟩,h4⟩:=h;by_cases hsw:swT c (toP p c<|ke s 1) (toX a c<|ke s 0)=fb
  .obtain⟨ö,k,pt,it,tt,e,rfl⟩:=Pj hsw;cases p with
   |one j =>obtain⟨q1,q2,q3⟩:=g.nm1 h1;exact(Au g.toGd h2).2 _ _ _ j q1 q2 q3 (by rw[<-hsw];exact WX (c:=c) (.comp ö k pt it tt e) (ke s 0) g.sc)
   |many js=>cases hsw
   |nest j js=>cases hsw
  .have hp:PG X (toP p c<|ke s 1)<|gPt i p:=IH g h4 h1;exact LR (eE a X c _ g.toGd h2) hp (by rw[ϐ,WX a _ g.sc,Bool.eq_false_iff.mpr hsw]) (IY p a _ _ _ h3)<|CZ p _ _
 |.setIdx a j e,X,c,s,g,h=>by have h:(okE e c (ke s 0)&&okE a c (kid (ke s 1) 0)&&okE j c (kid (ke s 1) 1))=fb:=h;rw[bAq,bAq]at h;have ha:=eE a X c _ g.toGd h.1.2;have hj:=eE j X c _ g.toGd h.2;exact Bb g.K (eE e X c _ g.toGd h.1.1) ha hj (Iv ha hj (PSet.or Nw<|MU (by have:=g.un;lia))<|Gi j) (by rw[ϐ,WX e _ g.sc,De λy q z=>(by cases z)]) (Gm _ _ (ke s 1).pos _<|.inl ⟨_,_,_,rfl⟩) rfl
 |.setPair a j b k e,X,c,s,g,h=>nomatch h
 |.setFld o f e,X,c,s,g,h=>by have h:(c.fl.contains f&&okE o c (kid (ke s 1) 0)&&okE e c (ke s 0))=fb:=h;rw[bAq,bAq]at h;exact AD g.K g.kl.A (g.kl.F _ h.1.1) (eE o X c _ g.toGd h.1.2) (eE e X c _ g.toGd h.2) (by rw[WX e _ g.sc,De λy q z=>(by cases z)])
 |.augVar j op e,X,c,s,g,h=>nomatch h
 |.augFld o f op k,X,c,s,g,h=>by have h:(c.fl.contains f&&okE o c (kid (ke s 1) 0)&&Af op)=fb:=h;rw[bAq,bAq]at h;exact AV g.K g.kl.A (g.kl.F _ h.1.1) (Ht h.2)<|eE o X c _ g.toGd h.1.2
 |.expr e,X,c,s,g,h=>by have h:(okE e c (ke s 0) && !N6 e)=fb:=h;rw[bAq]at h;exact Fe (eE e X c _ g.toGd h.1)<|EV h.2
 |.ret e,X,c,s,g,h=>Ip<|eE e X c _ g.toGd h
 |.retN,X,c,s,g,h=>EZ
 |.ite t a b,X,c,s,g,h=>by have h:(okT t c (ke s 0)&&okSs a c (stB s)&&okSs b c (stO s))=fb:=h;rw[bAq,bAq]at h;exact Ir (eT t X c _ g.toGd h.1.1).1 (sSs a X c _ g h.1.2)<|sSs b X c _ g h.2
 |.whl t b,X,c,s,g,h=>by have h:(okT t c (ke s 0)&&okSs b c (stB s)&&c.cm)=fb:=h;rw[bAq,bAq]at h;exact Id (g.own h.2) (eT t X c _ g.toGd h.1.1).1<|sSs b X c _ g h.1.2
 |.for p it b,X,c,s,g,h=>by have h:(okP p c&&okI it c (ke s 1) (!Zz p)&&okSs b c (stB s)&&c.cm)=fb:=h;rw[bAq,bAq,bAq]at h;obtain⟨⟨⟨h1,h2⟩,h3⟩,h4⟩:=h;obtain⟨t1,t2⟩:=ME (c:=c) p<|ke s 0;obtain⟨a1,a2⟩:=eI it X c (ke s 1) (toP p c<|ke s 0) g.toGd (!Zz p) t1 t2 h2;exact Ic (g.own h4) (g.calm h4) a1 (Uq g h4 h1) (sSs b X c _ g h3) a2
 |.forI fb p e b,X,c,s,g,h=>by have h:(okP p c&&GX e&&okE e c (ke s 1)&&okSs b c (stB s)&&c.cm)=fb:=h;rw[bAq,bAq,bAq,bAq]at h;obtain⟨⟨⟨⟨h1,h2⟩,h3⟩,h6⟩,h7⟩:=h;refine EX (g.own h7) (g.calm h7) (eE e X c _ g.toGd h3) (Uq g h7 h1) (sSs b X c _ g h6) λ_=>?_;cases e<;>first|rfl|cases h2
 |.forI fc p e b,X,c,s,g,h=>by have h:(okP p c && !Zz p&&okE e c (kid (kid (ke s 1) 0) 0)&&YE (toX e c<|kid (kid (ke s 1) 0) 0)&&((kid (ke s 1) 0).pos.endLine==(ke s 1).pos.line)&&okSs b c (stB s)&&c.cm)=fb:=h;rw[bAq,bAq,bAq,bAq,bAq,bAq]at h;obtain⟨⟨⟨⟨⟨⟨h1,h2⟩,h3⟩,h4⟩,h5⟩,h6⟩,h7⟩:=h;obtain⟨es,k,q,et⟩:=(ME (c:=c) p<|ke s 0).1 h2;have hg:=Uq (x:=ke s 0) g h7 h1;show PS X (.For (toP p c<|ke s 0) _ _ _ _) _;rw[et]at hg ⊢;exact FO (g.own h7) (g.calm h7) (eE e X c _ g.toGd h3) hg (sSs b X c _ g h6) (Yv h4 _ _) h5 λ_=>rfl
 |.never,X,c,s,g,h=>Bv
 |.brk,X,c,s,g,h=>nomatch h
 |.cnt,X,c,s,g,h=>nomatch h
 |.pass,X,c,s,g,h=>nomatch h
 |.raise C as,X,c,s,g,h=>nomatch h
 |.try t e (.cons K nm b .nil),X,c,s,g,h=>nomatch h
 |.try t e (.cons K nm b<|.cons _ _ _ _),X,c,s,g,h=>nomatch h
 |.try t e .nil,X,c,s,g,h=>nomatch h
 |.augIdx a j op k,X,c,s,g,h=>by have h:(okE a c (kid (ke s 1) 0)&&okE j c (kid (ke s 1) 1)&&Af op)=fb:=h;rw[bAq,bAq]at h;exact Ax g.K (by have:=g.un;lia) h.2 (eE a X c _ g.toGd h.1.1) (eE j X c _ g.toGd h.1.2)<|Pb j _
theorem sSs:∀(ms:O.Ss) (X:Cx) (c:Md) (xs:List ŀ),Gs X i P n c->okSs ms c xs=fb->PSs X (toSs ms c xs) (tBl X i (O.wF P n) ms)
 |.nil,X,c,xs,g,h=>IW
 |.cons m ms,X,c,xs,g,h=>by have h:(okS m c (xs.headD dS)&&okSs ms c xs.tail)=fb:=h;rw[bAq]at h;exact Ei (sS m X c _ g h.1)<|sSs ms X c _ g h.2
end
abbrev Om(N ps:List Str)(sc:ξ):Bool :=
 sc.kind == .function && !sc.isCoroutine && !sc.isGenerator&&decide N.Nodup&&(N.take ps.length==ps)&&ps.all (λx=>sc.names.lookup x==eY .local||sc.names.lookup x==eY .cell)&&sc.names.all λy=>y.2 != .free
variable {ps:List Str}
def Pu{N:List Str}{sc:ξ}(h:Om N ps sc=fb):FnScope N ps sc:=by
 simp only[Om,bAq,Ş,gH,ó]at h;obtain⟨⟨⟨⟨⟨⟨h1,h2⟩,h3⟩,h4⟩,h5⟩,h6⟩,h7⟩:=h;refine⟨eq_of_beq h1,h2,h3,h4,eq_of_beq h5,λx hx=>?_,λy hy=>?_⟩
 .simpa using h6 x hx
 .simpa using h7 y hy
structure Ds where
 st:ŀ
 N:List Str
 ps:List Str
 d:O.Fn
structure Mt where
 C:String
 m:String
 qual:String
 x:Ds
structure Tb where
 fs:List<|String×Ds
 ms:List Mt
 cs:List<|String×O.Val
 cl:List String
 fl:List String
 xs:List String
abbrev Tb.md(T:Tb)(x:Ds):Md:={N:=x.N,sc:=Zk x.st,cs:=T.cs,fs:=T.fs.map (·.1),cm:=fb,cl:=T.cl,ms:=T.ms.map λy=>(y.C,y.m),fl:=T.fl,xs:=T.xs}
abbrev Ds.test(T:Tb)(x:Ds):Bool :=
 Om x.N x.ps (Zk x.st)&&okSs x.d.body (T.md x) (ZD x.st)&&x.ps.length==x.d.ar&&x.N.length==x.d.sz&&gK (x.d.ar<=x.d.sz)
structure Ds.Ok(T:Tb)(x:Ds):Prop where
 ok:x.test T=fb
 eq:toSs x.d.body (T.md x) (ZD x.st)=ZD x.st
variable {pr:â}{wd:ô}{mg:Str->Option Â}{base:ă}{i:Inf}{P:O.Pg}{T:Tb}
abbrev Dst(K:Frag)(mg:Str->Option Â)(f:String)(x:Ds):Prop:=∃fa fd qual,Fun K (gL f) qual x.st fa fd/\mg (gL f)=eY (.ref fa)/\Binds K fd x.ps []
structure Mst(i:Inf)(mg:Str->Option Â)(y:Mt)(a fa:È):Prop where
 cl:mg (gL y.C)=eY (.ref a)
 fn:∃fd,Fun i.K (gL y.m) (gL y.qual) y.x.st fa fd/\Binds i.K fd y.x.ps []
 at_:Meth i.K a (gL y.m) fa
variable {f:String} {fa:È} {fd:Ŋ}
def UH:fM pr wd i.K mg base (CX1 pr wd) 0 fa fd ps<|spF i P 0 f:=by
 refine⟨λvs H Q E h=>?_,λA outer s H args us vs Q E hr he hb hv h=>?_⟩
 .obtain⟨_,_,_,_,_,_,w,_⟩:=h;rw[O.wF_eq]at w;exact w.elim
 .obtain⟨_,_,_,_,_,_,w,_⟩:=h;rw[O.wF_eq]at w;exact w.elim
variable {n:Nat}
def Bg{vs:List O.Val}{h:O.Hs}{Q:O.Q1}{E:O.XQ}(q:O.wF P (n+1) f vs h Q E):∃d,P f=eY d/\vs.length=d.ar/\O.wSs (O.wF P n) d.body (d.env vs) h (λ_ g=>Q .non g) Q (λ_ _=>False) (λ_ _=>False) λ_ c g=>E c g:=by rw[O.wF_eq]at q;obtain⟨d,e,q1,q2⟩:=fh q;exact⟨d,e,q1,by rw[O.wF_eq];exact q2⟩
structure Modu(mg:Str->Option Â)(base:ă)(i:Inf)(T:Tb):Prop where
 bl:∀x∈blts,mg x=eZ
 cst:∀x v,T.cs.lookup x=eY v->∃u y,mg (gL x)=eY u/\RelV y u/\∀H,RV i.K H v y
 A:ClsA i
 F:∀f,T.fl.contains f=fb->FldOk i f
 cl:∀C a,i.cl C a->mg (gL C)=eY (.ref a)
 mkc:∀C,T.cl.contains C=fb->∃a y f,i.ins C=fb/\i.cl C a/\Mk i.K a f/\y∈T.ms/\y.C=C/\y.m = "__init__"/\Mst i mg y a f
 fs:∀f x,(f,x)∈T.fs->Dst i.K mg f x
 ms:∀y,y∈T.ms->∃a f,Mst i mg y a f/\Cls i.K a
 xc:T.xs≠[]->∀C a,i.xc C a->XCls i.K a/\PySem.W.kitOne i.K (.ref a) (.type "ValueError")=eY fb
 rs:T.xs≠[]->∀C,T.xs.contains C=fb->∃a,i.xc C a/\PyProof.Rows.OwnCls (gL C) a [.type "ValueError",.type "Exception",.type "BaseException",.type "object"] "ValueError.__new__" mg base
 kn:T.xs≠[]->∀T',(T.xs.contains T'||T' == "ShutError")=fb->∃D,mg (gL T')=eY (.ref D)/\∀C a,i.xc C a->PySem.W.kitOne i.K (.ref a) (.ref D)=eY (O.gk C T')/\(O.gk C T'=fb->PySem.W.exmOne i.K (.ref a) (.ref D)=eY fb)
structure Held(pr:â)(wd:ô)(mg:Str->Option Â)(base:ă)(i:Inf)(P:O.Pg)(T:Tb)(n:Nat):Prop where
 fs:∀f x,(f,x)∈T.fs->Dfo pr wd mg base i P n f
 ms:∀y a f,y∈T.ms->Mst i mg y a f->Dfm pr wd mg base i P n (y.C ++ "." ++ y.m) f
def fn_succ{x:Ds}{nm qual:Str}(M:Modu mg base i T)(hn:Held pr wd mg base i P T n)(F:Fun i.K nm qual x.st fa fd)(hP:P f=eY x.d)(ht:x.Ok T):fM pr wd i.K mg base (CX1 pr wd) (2*(n+1)) fa fd x.ps<|spF i P (n+1) f:=by
 obtain⟨ht,heq⟩:=ht;simp only[Ds.test,bAq,gH]at ht;obtain⟨⟨⟨⟨h1,h2⟩,h3⟩,h4⟩,h5⟩:=ht;have h3:=eq_of_beq h3;have h4:=eq_of_beq h4;have S:=Pu h1;refine F.ok1 (k:=2*n+1) S (λvs H Q E h=>?_) λϏ A outer s H vs Q E hr d8 hw=>?_
 .obtain⟨args,G,Qm,Em,r,g,w,_⟩:=h;obtain⟨d,e,q,_⟩:=Bg w;rw[hP]at e;cases e;rw[<-r.length,q,h3]
 .obtain⟨args,G,Qm,Em,r,g,w,cn,ex⟩:=d8;obtain⟨d,e,q,w⟩:=Bg w;rw[hP]at e;cases e;have gd:Gs (JY (CX1 pr wd) pr wd i.K mg base x.N qual (Zk x.st) fa Ϗ A outer s H E) i P n (T.md x) :=
   { K:=rfl,N:=rfl,sc:=rfl,nd:=S.nd,un:=(by have:=hr.un;show(A.deeper _).units+200<ĩ;lia),calm:=λ_=>rfl,room:=λ_=>hr,bl:=M.bl
     dfs:=λg hg=>(by
       obtain⟨p,hy,e⟩:=Ü.mp<|Ć.mp hg
       subst e
       exact hn.fs p.1 p.2 hy)
     cst:=M.cst
     kl:=⟨M.A,M.F,λC hC=>(by
       obtain⟨a,y,f,q1,q2,q3,q4,rfl,q6,q7⟩:=M.mkc C hC
       refine⟨a,f,q1,q2,q3,M.cl _ _ q2,?_⟩
       have:=hn.ms y a f q4 q7
       rw[q6]at this
       rwa [show y.C ++ ".__init__" = y.C ++ "." ++ "__init__" by rw[String.append_assoc];rfl]),λC m hC=>(by
       obtain⟨y,hy,e⟩:=Ü.mp<|Ć.mp hC
       cases e
       obtain⟨a,f,q1,q2⟩:=M.ms y hy
       refine⟨a,f,λb hb=>?_,q2,q1.at_,hn.ms y a f hy q1⟩
       have e1:=M.cl _ _ hb
       rw[q1.cl]at e1
       cases e1
       rfl)⟩
     xl:=λh=>⟨M.xc h,M.rs h,M.kn h⟩
     fn:=λ_ _=>.inl rfl
     own:=λ_=>PassesOwn.leaving
     stk:=λ_=>rfl }
  have hb:=sSs x.d.body _ _ _ gd h2;rw[heq]at hb;refine⟨_,hb,?_⟩;refine⟨x.d.env args,G,(λ_ g=>Qm .non g),Qm,(λ_ _=>False),(λ_ _=>False),(λ_ c g=>Em c g),?_,w,?_⟩
  .refine⟨?_,g,?_⟩
   .have:=REn.start (n:=x.d.sz - x.d.ar) r;unfold L2.start;have e1:x.N.length - vs.length=x.d.sz - x.d.ar:=by rw[h4,<-r.length,q]
    rw[e1];exact this
   .intro Á σ H0 s0 H' a cls s' I fl hx;obtain⟨e,c,G',ad,q1,q2,q3,q4,q5⟩:=hx;exact hw Á σ H0 s0 H' a cls s' I fl<|ex _ _ _ ⟨c,G',ad,q1,q2,q3,q4,q5⟩
  .refine⟨?_,?_,?_,?_⟩
   .intro Ņ ŏ G' H' k g' e w';exact cn .non G' H' .non k g' .non w'
   .intro v G' H' y k g' rv w';exact cn v G' H' y k g' rv w'
   .intro _ _ _ _ _ _ _ z;exact z.elim
   .intro _ _ _ _ _ _ _ z;exact z.elim
def held_all(M:Modu mg base i T)(hP:∀f x,(f,x)∈T.fs->P f=eY x.d)(hPm:∀y,y∈T.ms->P (y.C ++ "." ++ y.m)=eY y.x.d)(ht:∀f x,(f,x)∈T.fs->x.Ok T)(htm:∀y,y∈T.ms->y.x.Ok T):∀n,Held pr wd mg base i P T n:=by
 intro n;induction n with
 |zero =>
  refine⟨λf x h=>?_,λy a f hy S=>?_⟩
  .obtain⟨fa,fd,qual,F,hm,hb⟩:=M.fs f x h;exact⟨fa,fd,x.ps,UH,hm,F.kp,hb⟩
  .obtain⟨fd,F,hb⟩:=S.fn;exact⟨fd,y.x.ps,UH,hb⟩
 |succ n ih =>
  refine⟨λf x h=>?_,λy a f hy S=>?_⟩
  .obtain⟨fa,fd,qual,F,hm,hb⟩:=M.fs f x h;exact⟨fa,fd,x.ps,fn_succ M ih F (hP f x h)<|ht f x h,hm,F.kp,hb⟩
  .obtain⟨fd,F,hb⟩:=S.fn;exact⟨fd,y.x.ps,fn_succ M ih F (hPm y hy)<|htm y hy,hb⟩
end Snd
namespace Hd
open PySem PySem.W PyProof.Rows
abbrev WE(st:SharedT->Thread->Option (SharedT×Thread))(ok th:Thread->Bool):Nat->SharedT->Thread->Option SharedT
 |0,_,_=>eZ
 |n+1,s,t=>match th t with
  |true=>eY s
  |false=>match ok t with
   |false=>eZ
   |true=>match st s t with
    |some (s',t')=>WE st ok th n s' t'
    |none=>eZ
def JN{tb:String->Option Builtin}{p:Program}{w:World}{n₀:Nat}{ann:Option Value}:∀{n:Nat}{s s':SharedT}{t:Thread},WE (stepT (denote tb) p w) (stepOk n₀ ann) through n s t=eY s'->topRun tb p w n₀ ann n s.abs t=eY s'.abs
 |0,_,_,_,h=>by cases h
 |n+1,s,s',t,h=>by
  unfold WE at h;unfold topRun;cases ht:through t with
  |true=>rw[ht]at h;cases h;rfl
  |false =>
   rw[ht]at h;dsimp only at h ⊢;cases hk:stepOk n₀ ann t with
   |false=>rw[hk]at h;cases h
   |true =>
    rw[hk]at h;dsimp only at h ⊢;cases hs:stepT (denote tb) p w s t with
    |none=>rw[hs]at h;cases h
    |some r =>obtain⟨s2,t2⟩:=r;rw[hs]at h;rw[stepT_spec hs];exact JN h
abbrev JQ(P:Params):BT :=
 .node (boot_o_0 P) (.node (boot_o_1 P) (.node (boot_o_3 P) (.node (boot_o_7 P) .nil .nil) .nil)<|.node (boot_o_5 P) (.node (boot_o_9 P) .nil .nil) .nil)
  (.node (boot_o_2 P) (.node (boot_o_4 P) (.node (boot_o_8 P) .nil .nil) .nil)<|.node (boot_o_6 P) (.node (boot_o_10 P) .nil .nil) .nil)
def Cp(P:Params):absHeap (JQ P) 11 {}=boot_heap P:=by kernel_rfl
def A7(P:Params):((boot_heap P).isNs mainGlobals&&(Array.mk []:Array GenState).size==0,(boot_heap P).objs.size,(boot_heap P).nsMap mainGlobals "__annotations__")=(fb,11,eY<|.ref 6):=by
 rw[show @Heap.nsMap=_ from Fast.te8920871248978507458]
 kernel_rfl
abbrev G9:=Fast.tw10156331382660048174
abbrev UN:=Fast.tw11892475500146522536
abbrev Dt:=Fast.tw14364793385576792824
abbrev okY:=Fast.tw6613529449190102663
abbrev seenY:=Fast.tw4187177175401517315
abbrev modsY:=Fast.tw5923862056798008813
abbrev runY(p:Program)(N:Nat)(w:World)(os:OsState):Option SharedT:=WE (G9 (UN Dt) p w) (okY 11<|eY<|.ref 6) through N ⟨JQ w.params,11,{},Array.mk [],boot_drawn,boot_toks,os⟩<|topStub p
abbrev stY(p:Program)(w:World)(s:SharedT):Bool:=staticsOk (modsY p.main.body) (boot_heap w.params) s.abs.heap&&namesBound p s.abs.heap&&gensDone s.abs&&laidKept (boot_heap w.params) s.abs.heap
def left_of{p q:Program}{loose:List Str}{Xt:Shared->Bool}{α:Type}{Yf:Shared->α}{Ya:World->α}{N:Nat}(e:opening p=plainProg p.main.scope.names)(hN:Nat.ble 600 N=fb)(f:∀s,fenceModules? p s=eY s)
  (one:∀w os,(runY p N w os).map (stY p w)=eY fb) (two:∀w os,(runY p N w os).map (λs=>seenY q loose (modsY p.main.body) Xt fb s.abs)=eY (openGood q loose)) (three:∀w os,(runY p N w os).map (λs=>Yf s.abs)=eY (Ya w)) :
  LeftO p q loose Xt Yf Ya N:=by
 intro w;obtain⟨⟨h,gs,d,k,os⟩,e1,e2⟩:=Î.mp<|boot_open e hN f w;obtain⟨rfl,rfl,rfl,rfl⟩:h=boot_heap w.params/\gs=Array.mk []/\d=boot_drawn/\k=boot_toks:=by simpa using e2
 obtain⟨s,r,l1⟩:=Î.mp<|one w os;obtain⟨s',r',l2⟩:=Î.mp<|two w os;cases r.symm.trans r';obtain⟨s',r',l3⟩:=Î.mp<|three w os;cases r.symm.trans r';obtain⟨z1,z2,z3⟩:_/\_/\_:=by simpa only[Ε]using A7 w.params
 unfold stY at l1;unfold runY G9 UN Dt okY at r;rw[<-Fast.te10156331382660048174,<-Fast.te11892475500146522536,<-Fast.te14364793385576792824,<-Fast.te6613529449190102663]at r;unfold modsY at l1 l2;unfold seenY at l2;rw[<-Fast.te5923862056798008813]at l1 l2;rw[<-Fast.te4187177175401517315]at l2;have r2:=JN r;have ea:(SharedT.mk (JQ w.params) 11 {} (Array.mk []) boot_drawn boot_toks os).abs=⟨boot_heap w.params,Array.mk [],boot_drawn,boot_toks,os⟩:=by show Shared.mk (absHeap _ _ _) _ _ _ _=_;rw[Cp]
 rw[ea]at r2;have t:topFrom treeTable p w N ⟨boot_heap w.params,Array.mk [],boot_drawn,boot_toks,os⟩=eY s.abs:=by unfold topFrom;dsimp only;rw[z1,z2,z3,r2];show(match staticsOk (importedModules p.main.body) (boot_heap w.params) s.abs.heap&&namesBound p s.abs.heap&&gensDone s.abs&&laidKept (boot_heap w.params) s.abs.heap with|true=>_|false=>_)=_;rw[l1]
 unfold openEnds;rw[e1];show(topFrom treeTable p w N _).map _=_;rw[t];exact congrArg eY<|Prod.ext l2 l3
end Hd
namespace Hd
open PySem PySem.W PyProof.Rows L2
abbrev KD:Nat->List Obj->Frag
 |_,[]=>[]
 |i,o::r=>match o with
  |⟨_,_,.freed,_⟩=>KD (i+1) r
  |o=>(i,o)::KD (i+1) r
abbrev Zw(g:Heap):Frag:=KD 0 g.objs.toList
def NP:∀(l:List Obj) (i a:Nat) (o:Obj),(KD i l).lookup a=eY o->i<=a/\l[a - i]?=eY o/\(match eY o with|some ⟨_,_,.freed,_⟩=>eZ|o=>o)=eY o
 |[],_,_,_,h=>by cases h
 |x::r,i,a,o,h=>by
  have rec1:(KD (i+1) r).lookup a=eY o->i<=a/\(x::r)[a - i]?=eY o/\(match eY o with|some ⟨_,_,.freed,_⟩=>eZ|o=>o)=eY o:=λq=>by obtain⟨h1,h2,h3⟩:=NP r (i+1) a o q;refine⟨by lia,?_,h3⟩;rw[show a - i=(a - (i+1))+1 by lia,List.getElem?_cons_succ];exact h2
  unfold KD at h;split at h
  .exact rec1 h
  .rename_i c ű;rw[ñ]at h;split at h
   .rename_i e;cases h;have e:=eq_of_beq e;subst e;refine⟨Ì _,by rw[Nat.sub_self];rfl,?_⟩;split
    .rename_i d1 d2 d3 d4;cases d4;exact(ű _ _ _ rfl).elim
    .rfl
   .exact rec1 h
def N3{g:Heap}{a:Addr}{o:Obj}(h:(Zw g).lookup a=eY o):g.get? a=eY o:=by obtain⟨_,h2,h3⟩:=NP _ _ _ _ h;unfold Heap.get?;rw[Nat.sub_zero,ą]at h2;rw[h2];exact h3
abbrev Eb(K:Frag)(nm:Str):Option<|FuncData×Bool×Bool:=match nsIn K mainGlobals nm with
 |some (eY<|.ref f)=>match K.lookup f with
  |some ⟨_,_,.func fd,_⟩=>eY ({fd with kwdefaults:=.none,doc:=.none,pyModule:=.none,annotations:=eZ,code:=.none,closureTuple:=.none},codeIn K fd.code fd.qualname,keepIn K<|.ref f)
  |_=>eZ
 |_=>eZ
abbrev DN(nm:Str)(st:Stmt):Option<|FuncData×Bool×Bool:=eY (fnOf nm nm (YM st) (ZD st) (Zk st) .none .none .none .none eZ .none .none,fb,fb)
def Lu{K:Frag}{nm:Str}{st:Stmt}(e:Eb K nm=DN nm st):∃fa fd,Fun K nm nm st fa fd/\nsIn K mainGlobals nm=eY (eY<|.ref fa):=by
 unfold Eb at e;split at e
 .rename_i f hf;split at e
  .rename_i oc od fd sl hl;simp only[DN,Ĝ,Ε]at e;obtain⟨e1,e2,e3⟩:=e;obtain⟨n1,n2,n3,n4,n5,n6,n7,n8,n9,n10,n11,n12,n13,n14,n15⟩:=fd;simp only[fnOf,FuncData.mk.injEq]at e1;obtain⟨rfl,rfl,rfl,rfl,rfl,rfl,rfl,rfl,-,-,-,-,-,-,rfl⟩:=e1;exact⟨f,_,B6 hl e2 e3,hf⟩
  .cases e
 .cases e
abbrev G8(K:Frag)(y:Str):Bool:=match nsIn K mainGlobals y with
 |some eZ=>fb
 |_=>fc
def EC{l:OpenLaw}{n k:Nat}{q:Program}{loose:List Str}{XP:(Str->Option Value)->Heap->Prop}{YP:World->Heap->Prop}{d:DefRec}{CX:World->CXT}{x:Str}
  (hn:l.most=eY n) (hn2:n<=sizeLine) (hdf:d.params.defaults=[]) (hr:fL k callerA)
  (F:∀(w:World) (mg:Str->Option Value) (fa:Addr) (h:Heap),YP w h->h.Ns mainGlobals mg->mg d.name=eY (.ref fa)->∃(K:Frag) (sp:Sp),K.In h/\
    (∃fd:FuncData,(∀(s:Shared) (u:Value),BindsTo s fd ⟨[u],[]⟩ [(x,u)])/\∀base:Heap,K.In base->base.Ns mainGlobals mg->fM l.prog w K mg base (CX w) k fa fd [x] sp)/\
    ∀(H:Hp) (a:Addr) (ns:List Int),ns.length<=n->LN H->gm K H a (ns.map V.int)->sp [.ref a] H (λv _=>v=.bl fb) λ_ _ _=>False)
  (hCX:∀(w:World) (H:Hp) (s:Shared) (e:Value) (s':Shared),CX w [] H s (λ_ _ _=>False) e s'->False) :
  WalkO q loose XP YP l.row.toRowW d [] (λf vs=>PySem.call f vs):=by
 refine Att.attach_call hn hdf λw s₀ ĝ mg mb fa o pm cd doc a vs ns G Y ho hd aL hmg bD hints hlen hg=>?_;obtain⟨K,sp,KX,⟨fd,hb,hF⟩,d8⟩:=F w mg fa _ Y G.T.g hmg;exact Dj KX G.T.g G.T.b G.T.builtins G.T.nolimit hg bD hints (ß hlen hn2) hr hF hb (λH hO hS=>d8 H a ns hlen hO hS) λH e s'=>hCX w H ĝ e s'
abbrev Ew(f:Value->O.Val->Bool):List Value->List O.Val->Bool
 |[],[]=>fb
 |u::us,x::xs=>f u x&&Ew f us xs
 |_,_=>fc
abbrev GO(K:Frag):Value->Option (List Value)
 |.ref a=>match K.lookup a with
  |some ⟨.type n,_,.seq us _,_⟩=>if n == "tuple" && gK (us.size<=sizeLine)then eY us.toList else eZ
  |_=>eZ
 |_=>eZ
abbrev Eh(K:Frag):Nat->Value->O.Val->Bool
 |0,_,_=>fc
 |n+1,u,v=>match v with
  |.non=>(match u with|.none=>fb|_=>fc)
  |.bl b=>(match u with|.bool a=>a==b|_=>fc)
  |.int j=>(match u with|.int i _=>i==j|_=>fc)
  |.str t=>(match u with|.str s _=>Fast.sEq s (gL t)|_=>fc)
  |.tup xs=>(match GO K u with|some us=>Ew (Eh K n) us xs|none=>fc)
  |_=>fc
def DR{K:Frag}{f:Value->O.Val->Bool}(hf:∀u v,f u v=fb->∃z,RelV z u/\∀H,Snd.RV K H v z):∀(us:List Value) (xs:List O.Val),Ew f us xs=fb->∃zs,gq zs us/\∀H,Snd.RVs K H xs zs
 |[],[],_=>⟨[],.nil,λ_=>.nil⟩
 |u::us,x::xs,h=>by rw[Ew,bAq]at h;obtain⟨z,r,q⟩:=hf u x h.1;obtain⟨zs,rs,qs⟩:=DR hf us xs h.2;exact⟨z::zs,.cons r rs,λH=>.cons (q H)<|qs H⟩
 |[],_::_,h=>by cases h
 |_::_,[],h=>by cases h
def BY{K:Frag}:∀(n:Nat) (u:Value) (v:O.Val),Eh K n u v=fb->∃z,RelV z u/\∀H,Snd.RV K H v z
 |0,_,_,h=>by cases h
 |n+1,u,v,h=>by
  unfold Eh at h;cases v with
  |non =>
   dsimp only at h;split at h
   .exact⟨.non,rfl,λ_=>.non⟩
   .cases h
  |bl b =>
   dsimp only at h;split at h
   .cases eq_of_beq h;exact⟨.bl b,rfl,λ_=>.bl b⟩
   .cases h
  |int j =>
   dsimp only at h;split at h
   .cases eq_of_beq h;exact⟨.int j,⟨_,rfl⟩,λ_=>.int j⟩
   .cases h
  |str t =>
   dsimp only at h;split at h
   .cases Fast.sEq_iff.mp h;exact⟨.str<|gL t,⟨_,rfl⟩,λ_=>.str t⟩
   .cases h
  |tup xs =>
   dsimp only at h;split at h
   .rename_i us hu;obtain⟨zs,rs,qs⟩:=DR (λu v=>BY n u v) us xs h;unfold GO at hu;split at hu
    .rename_i a;split at hu
     .rename_i nm od ð k sl hl;split at hu
      .rename_i hc;rw[bAq,gH]at hc;cases eq_of_beq hc.1;cases hu;exact⟨.ref a,rfl,λH=>.tup (.inr ⟨_,ð,k,hl,rfl,rfl,hc.2,rs⟩)<|qs H⟩
      .cases hu
     .cases hu
    .cases hu
   .cases h
  |ref a=>cases h
  |scr ns=>cases h
  |key i j=>cases h
abbrev D5(K:Frag)(p:String×O.Val):Bool:=match nsIn K mainGlobals (gL p.1)with
 |some (eY u)=>Eh K 4 u p.2
 |_=>fc
def Jn{α β:Type}[BEq α][LawfulBEq α]{a:α}{b:β}:∀{l:List (α×β)},l.lookup a=eY b->(a,b)∈l
 |[],h=>by cases h
 |(x,y)::r,h=>by
  rw[ñ]at h;split at h
  .rename_i e;cases h;cases eq_of_beq e;exact .head _
  .exact .tail _<|Jn h
def Iu{K:Frag}{mg:Str->Option Value}{h:Heap}{x:Str}{C:Addr}{bmB:List Value}{id:String}(X:K.In h)(hm:mg x=eY (.ref C))(q:excIn K C bmB id=fb):PyProof.Rows.OwnCls x C bmB id mg h:=by
 constructor
 .exact hm
 have z:=q;unfold excIn at z;split at z
 next dd cd sl ho =>
  split at z
  next C1 bm k0 k1 k2 k3 n k5 em es =>
   rw[bAq,bAq,bAq,bAq,bAq]at z;obtain⟨⟨⟨⟨⟨z1,z2⟩,z3⟩,z4⟩,z5⟩,z6⟩:=z;have z1:=eq_of_beq z1;have z2:=eq_of_beq z2;have z6:=eq_of_beq z6;subst z1 z2;have z3b:cd.hasDel=fc:=by
    cases e:cd.hasDel with
    |false=>rfl
    |true=>rw[e]at z3;cases z3
   have es':sl=#[k0,k1,k2,k3,eY<|.builtin n,k5]:=eR.mp es;have nN:=nsMap_none_of_in X z5 z6;have nI:=Heap.Ns.of_isNs<|isNs_of_in X z5;have tI:=tail_of_in X z4;cases cd;dsimp only at em z3b nN nI;subst em z3b es';exact⟨bm,_,_,_,_,_,_,_,_,_,dd,k0,k1,k2,k3,k5,_,X _ _ ho,nI,nN,tI⟩
  next=>cases z
 next=>cases z
abbrev LE(K:Frag)(f:Addr):Option<|FuncData×Bool×Bool:=match K.lookup f with
 |some ⟨_,_,.func fd,_⟩=>eY ({fd with kwdefaults:=.none,doc:=.none,pyModule:=.none,annotations:=eZ,code:=.none,closureTuple:=.none},codeIn K fd.code fd.qualname,keepIn K<|.ref f)
 |_=>eZ
abbrev OD(nm qual:Str)(st:Stmt):Option<|FuncData×Bool×Bool:=eY (fnOf nm qual (YM st) (ZD st) (Zk st) .none .none .none .none eZ .none .none,fb,fb)
def Lp{K:Frag}{nm qual:Str}{st:Stmt}{f:Addr}(e:LE K f=OD nm qual st):∃fd,Fun K nm qual st f fd:=by
 unfold LE at e;split at e
 .rename_i oc od fd sl hl;simp only[OD,Ĝ,Ε]at e;obtain⟨e1,e2,e3⟩:=e;obtain⟨n1,n2,n3,n4,n5,n6,n7,n8,n9,n10,n11,n12,n13,n14,n15⟩:=fd;simp only[fnOf,FuncData.mk.injEq]at e1;obtain⟨rfl,rfl,rfl,rfl,rfl,rfl,rfl,rfl,-,-,-,-,-,-,rfl⟩:=e1;exact⟨_,B6 hl e2 e3⟩
 .cases e
abbrev Jl(K:Frag)(C:String):Option Addr:=match nsIn K mainGlobals (gL C)with
 |some (eY<|.ref a)=>eY a
 |_=>eZ
variable {C:String} {a:Addr}
def WQ{K:Frag}(h:Jl K C=eY a):nsIn K mainGlobals (gL C)=eY (eY<|.ref a):=by
 unfold Jl at h;split at h
 .cases h;assumption
 .cases h
structure CV where
 pg:Bool
 hd:Bool
 po:Bool
 sa:Option<|Option Value
abbrev El(K:Frag)(a:Addr):CV:=⟨plainGet K a Str.empty,hasDictIn K a,plainOver K a,findIn K (.ref a) "__setattr__"⟩
abbrev O5:CV:=⟨fb,fb,fb,eY<|eY<|.builtin "object.__setattr__"⟩
def Bs{K:Frag}(h:El K a=O5):Cls K a:=by simp only[El,O5,CV.mk.injEq]at h;exact⟨h.1,h.2.1,h.2.2.1,h.2.2.2⟩
structure MV where
 fn:Option<|FuncData×Bool×Bool
 isf:Bool
 cv:CV
abbrev CT(K:Frag)(y:Snd.Mt):Option MV:=match Jl K y.C with
 |some a=>match findIn K (.ref a) (gL y.m)with
  |some (eY<|.ref f)=>eY ⟨LE K f,isFn K<|.ref f,El K a⟩
  |_=>eZ
 |none=>eZ
abbrev C3(y:Snd.Mt):Option MV:=eY ⟨OD (gL y.m) (gL y.qual) y.x.st,fb,O5⟩
def Pq{K:Frag}{y:Snd.Mt}(e:CT K y=C3 y):∃a f fd,nsIn K mainGlobals (gL y.C)=eY (eY<|.ref a)/\Fun K (gL y.m) (gL y.qual) y.x.st f fd/\Meth K a (gL y.m) f/\Cls K a:=by
 unfold CT at e;split at e
 .rename_i a ha;split at e
  .rename_i f hf;simp only[C3,Ĝ,MV.mk.injEq]at e;obtain⟨e1,e2,e3⟩:=e;obtain⟨fd,F⟩:=Lp e1;exact⟨a,f,fd,WQ ha,F,⟨hf,e2,F.kp⟩,Bs e3⟩
  .cases e
 .cases e
structure QV where
 mks:Bool
 kp:Bool
 cv:CV
 fl:List<|Option<|Option Value
 ic:Option (Option Value)×Option (Option Value)×Option Bool×Option Bool
abbrev BG(K:Frag)(fl:List String)(C:String):Option QV:=match Jl K C with
 |some a=>eY ⟨makesIn K a,keepIn K<|.ref a,El K a,fl.map λf=>findIn K (.ref a)<|gL f,(findIn K (.ref a) "__class__",specialIn K (.builtin "object.__class__") "__get__",takesIn K<|.builtin "object.__class__",mroIn K a<|.type "object")⟩
 |none=>eZ
abbrev DX(fl:List String):Option QV:=eY ⟨fb,fb,O5,fl.map λ_=>eY eZ,(eY<|eY<|.builtin "object.__class__",eY<|eY<|.builtin "getset_descriptor.__get__",eY fb,eY fb)⟩
def Hg{K:Frag}{fl:List String}(e:BG K fl C=DX fl):∃a,nsIn K mainGlobals (gL C)=eY (eY<|.ref a)/\makesIn K a=fb/\keepIn K (.ref a)=fb/\Cls K a/\(∀f∈fl,NoAttr K a<|gL f)/\Snd.IC K a:=by
 unfold BG at e;split at e
 .rename_i a ha;simp only[DX,Ĝ,QV.mk.injEq,Ε]at e;obtain⟨e1,e2,e3,e4,e5,e6,e7,e8⟩:=e;exact⟨a,WQ ha,e1,e2,Bs e3,λf hf=>ĥ.mp e4 f hf,⟨e5,e6,e7,e8⟩⟩
 .cases e
structure XV where
 ex:Bool
 f1:Option<|Option Value
 f2:Option<|Option Value
 f3:Option<|Option Value
 m1:Option Bool
 m2:Option Bool
 ci:Bool
 ve:Option Bool
 ks:List<|Option<|Option Bool×Option Bool
abbrev Dp(K:Frag)(xs:List String)(C:String):Option XV:=match Jl K C with
 |some a=>eY ⟨excIn K a [.type "ValueError",.type "Exception",.type "BaseException",.type "object"] "ValueError.__new__",findIn K (.ref a) "__getattribute__",findIn K (.ref a) "__getattr__",findIn K (.ref a) "__class__",mroIn K a<|.type "object",mroIn K a<|.type "BaseException",(clsIn K a).isSome,kitOne K (.ref a)<|.type "ValueError",("ShutError" :: xs).map λT=>(Jl K T).map λD=>(kitOne K (.ref a)<|.ref D,exmOne K (.ref a)<|.ref D)⟩
 |none=>eZ
abbrev BV(xs:List String)(C:String):Option XV:=eY ⟨fb,eY<|eY<|.builtin "BaseException.__getattribute__",eY eZ,eY<|eY<|.builtin "object.__class__",eY fb,eY fb,fb,eY fb,("ShutError" :: xs).map λT=>eY (eY<|O.gk C T,eY<|O.gk C T)⟩
def CL{K:Frag}{xs:List String}(e:Dp K xs C=BV xs C):∃a,nsIn K mainGlobals (gL C)=eY (eY<|.ref a)/\excIn K a [.type "ValueError",.type "Exception",.type "BaseException",.type "object"] "ValueError.__new__" = fb/\XCls K a/\kitOne K (.ref a) (.type "ValueError")=eY fb/\
  ∀T∈"ShutError" :: xs,∃D,nsIn K mainGlobals (gL T)=eY (eY<|.ref D)/\kitOne K (.ref a) (.ref D)=eY (O.gk C T)/\exmOne K (.ref a) (.ref D)=eY (O.gk C T):=by
 unfold Dp at e;split at e
 .rename_i a ha;simp only[BV,Ĝ,XV.mk.injEq]at e;obtain⟨e1,e2,e3,e4,e5,e6,e7,e8,e9⟩:=e;refine⟨a,WQ ha,e1,⟨e2,e3,e4,e5,e6,e7⟩,e8,λT hT=>?_⟩;have:=ĥ.mp e9 T hT;cases z:Jl K T with
  |none=>rw[z]at this;cases this
  |some D =>rw[z]at this;simp only[œ,Ĝ,Ε]at this;exact⟨D,WQ z,this.1,this.2⟩
 .cases e
structure View where
 fs:List<|Option<|FuncData×Bool×Bool
 ms:List<|Option MV
 cl:List<|Option QV
 xs:List<|Option XV
 ok:Bool
abbrev view(T:Snd.Tb)(K:Frag):View:=⟨T.fs.map λp=>Eb K<|gL p.1,T.ms.map<|CT K,T.cl.map<|BG K T.fl,T.xs.map<|Dp K T.xs,T.cs.all (D5 K)&&Snd.blts.all (G8 K)⟩
abbrev due(T:Snd.Tb):View:=⟨T.fs.map λp=>DN (gL p.1) p.2.st,T.ms.map C3,T.cl.map λ_=>DX T.fl,T.xs.map<|BV T.xs,fb⟩
abbrev hook(T:Snd.Tb):Hook where
 α:=View
 obs:=λs=>view T<|Zw s.heap
 val:=λ_=>due T
 says:=λ_ h=>∃g:Heap,view T (Zw g)=due T/\∀b o,g.get? b=eY o->h.get? b=eY o
 of:=λ_ s e=>⟨s.heap,e,λ_ _ x=>x⟩
 keeps:=λ_ _ _ ⟨g,e,k⟩ k2=>⟨g,e,λb o x=>k2 b o<|k b o x⟩
abbrev Bd(nm qual:Str)(x:Snd.Ds):Prop:=∀(kV doc pm:Value) (an:Option Addr) (Ϗ ct:Value) (us:List Value),us.length=x.ps.length->bindArgs (fnOf nm qual (YM x.st) (ZD x.st) (Zk x.st) .none kV doc pm an Ϗ ct) ⟨us,[]⟩=pure (x.ps.zip us)
abbrev EH(T:Snd.Tb):Bool:=T.cl.all λC=>T.ms.any λy=>y.C==C&&y.m == "__init__"
def law_walk{l:OpenLaw}{q:Program}{loose:List Str}{XP:(Str->Option Value)->Heap->Prop}{d:DefRec}{T:Snd.Tb}{pg:O.Pg}{k:Nat}{xl:Snd.Ds}
  (hn:l.most=eY 63) (hdf:d.params.defaults=[]) (hdn:d.name=gL "law") (hr:fL (2*(k+1)) callerA) (hlaw:("law",xl)∈T.fs) (hps:xl.ps=[gL "script"]) (hin:EH T=fb)
  (tab_pg:∀f x,(f,x)∈T.fs->pg f=eY x.d) (tab_pm:∀y,y∈T.ms->pg (y.C ++ "." ++ y.m)=eY y.x.d) (tab_ok:∀f x,(f,x)∈T.fs->x.Ok T) (tab_om:∀y,y∈T.ms->y.x.Ok T)
  (tab_bd:∀f x,(f,x)∈T.fs->Bd (gL f) (gL f) x) (tab_bm:∀y,y∈T.ms->Bd (gL y.m) (gL y.qual) y.x)
  (ok:∀ns:List Int,ns.length<=63->O.wF pg (k+1) "law" [.scr ns] (λ_=>eZ) (λv _=>v=.bl fb) λ_ _=>False) :
  WalkO q loose XP (hook T).says l.row.toRowW d [] (λf vs=>PySem.call f vs):=by
 refine EC (n:=63) (k:=2*(k+1)) (x:=gL "script") (CX:=λw=>CX1 l.prog w) hn (by decide) hdf hr (λw mg fa h Y G hmg=>?_) λ_ _ _ _ _ ⟨_,_,_,_,_,z⟩=>z;obtain⟨g,e,keep⟩:=Y;have X:(Zw g).In h:=λa o z=>keep a o<|N3 z;simp only[view,due,View.mk.injEq]at e;obtain⟨e1,e3,e4,e5,e2⟩:=e;rw[bAq,ó,ó]at e2
 let i:Snd.Inf:=⟨Zw g,λC a=>T.cl.contains C=fb/\mg (gL C)=eY (.ref a),λC=>T.cl.contains C,λC a=>T.xs.contains C=fb/\mg (gL C)=eY (.ref a)⟩
 have hF:∀f x,(f,x)∈T.fs->∃fa fd,Fun (Zw g) (gL f) (gL f) x.st fa fd/\mg (gL f)=eY (.ref fa):=λf x hx=>by obtain⟨fa,fd,F,z⟩:=Lu<|ĥ.mp e1 (f,x) hx;exact⟨fa,fd,F,mg_of X G z⟩
 have aM:∀C a,i.cl C a->makesIn (Zw g) a=fb/\keepIn (Zw g) (.ref a)=fb/\Cls (Zw g) a/\(∀f∈T.fl,NoAttr (Zw g) a<|gL f)/\Snd.IC (Zw g) a:=λC a ⟨hc,hm⟩=>by obtain⟨b,z,q⟩:=Hg<|ĥ.mp e4 C<|Ć.mp hc;have:=mg_of X G z;rw[hm]at this;cases this;exact q
 have hms:∀y,y∈T.ms->∃a f,Snd.Mst i mg y a f/\Cls i.K a:=λy hy=>by obtain⟨a,f,fd,z,F,M,A⟩:=Pq<|ĥ.mp e3 y hy;exact⟨a,f,⟨mg_of X G z,⟨fd,F,F.binds<|tab_bm y hy⟩,M⟩,A⟩
 have hxc:∀C a,i.xc C a->excIn (Zw g) a [.type "ValueError",.type "Exception",.type "BaseException",.type "object"] "ValueError.__new__" = fb/\XCls (Zw g) a/\kitOne (Zw g) (.ref a) (.type "ValueError")=eY fb/\
   ∀T'∈"ShutError" :: T.xs,∃D,nsIn (Zw g) mainGlobals (gL T')=eY (eY<|.ref D)/\kitOne (Zw g) (.ref a) (.ref D)=eY (O.gk C T')/\exmOne (Zw g) (.ref a) (.ref D)=eY (O.gk C T'):=λC a ⟨hc,hm⟩=>by
  obtain⟨b,z,q⟩:=CL<|ĥ.mp e5 C<|Ć.mp hc;have:=mg_of X G z;rw[hm]at this;cases this;exact q
 have mod:∀base:Heap,(Zw g).In base->Snd.Modu mg base i T:=λbase Xb =>
  { bl:=λy hy=>by
      have:=e2.2 y hy
      unfold G8 at this
      split at this
      . rename_i z;exact mg_none_of X G z
      . cases this
    cst:=λy v hv=>by
      have:=e2.1 _<|Jn hv
      unfold D5 at this
      split at this
      . rename_i u z
        obtain⟨x,r,rv⟩:=BY 4 u v this
        exact⟨u,x,mg_of X G z,r,rv⟩
      . cases this
    A:=⟨λC a _ z=>(aM C a z).2.2.1,λC a z=>(aM C a z).2.2.2.2,λC a b z y=>by have:=z.2.symm.trans y.2;cases this;rfl⟩
    F:=λf hf=>⟨λC a z=>(aM C a z).2.2.2.1 f<|Ć.mp hf⟩
    cl:=λC a z=>z.2
    mkc:=λC hC=>by
      obtain⟨a,z,_⟩:=Hg<|ĥ.mp e4 C<|Ć.mp hC
      have hi:i.cl C a:=⟨hC,mg_of X G z⟩
      obtain⟨y,hy,e⟩:=am.mp<|ó.mp hin C<|Ć.mp hC
      rw[bAq]at e
      obtain⟨b,f,S,A⟩:=hms y hy
      have h1:=eq_of_beq e.1
      have h2:=eq_of_beq e.2
      have hb:=S.cl
      rw[h1,hi.2]at hb
      cases hb
      refine⟨a,y,f,hC,hi,⟨(aM C a hi).1,?_,S.at_.fn,(aM C a hi).2.1⟩,hy,h1,h2,S⟩
      have:=S.at_.at_
      rw[h2]at this
      exact this
    fs:=λf x hx=>by
      obtain⟨fa,fd,F,m⟩:=hF f x hx
      exact⟨fa,fd,_,F,m,F.binds<|tab_bd f x hx⟩
    ms:=hms
    xc:=λ_ C a z=>⟨(hxc C a z).2.1,(hxc C a z).2.2.1⟩
    rs:=λ_ C hC=>by
      obtain⟨a,z,q1,_⟩:=CL<|ĥ.mp e5 C<|Ć.mp hC
      exact⟨a,⟨hC,mg_of X G z⟩,Iu Xb (mg_of X G z) q1⟩
    kn:=λű T' hT=>by
      have hT2:T'∈"ShutError" :: T.xs:=by
        rcases (Bool.or_eq_true ..).mp hT with z|z
        . exact .tail _<|Ć.mp z
        . cases eq_of_beq z;exact .head _
      obtain⟨C0,hC0⟩:=List.exists_mem_of_ne_nil _ ű
      obtain⟨a0,z0,_,_,_,q0⟩:=CL<|ĥ.mp e5 C0 hC0
      obtain⟨D,zD,_⟩:=q0 T' hT2
      refine⟨D,mg_of X G zD,λC a z=>?_⟩
      obtain⟨D2,z2,k1,k2⟩:=(hxc C a z).2.2.2 T' hT2
      rw[zD]at z2
      cases z2
      exact⟨k1,λe=>by rw[k2,e]⟩ }
 obtain⟨fl,fd,F,m⟩:=hF "law" xl hlaw;have ef:=hmg.symm.trans<|hdn▸m;cases ef;refine⟨Zw g,Snd.spF i pg (k+1) "law",X,⟨fd,λs u=>?_,λbase Xb _=>?_⟩,λH a ns hl hO hS=>?_⟩
 .have B:=F.ex;obtain⟨oc,od,kV,dc,pm,an,Ϗ,ct,sl,rfl,lk,aL⟩:=B;have:=tab_bd "law" xl hlaw kV dc pm an Ϗ ct [u] (by rw[hps];rfl);rw[hps]at this;exact .of_eq this
 .have M:=mod base Xb;have:=Snd.fn_succ (i:=i) (pr:=l.prog) (wd:=w) (base:=base) (mg:=mg) (P:=pg) (n:=k) M (Snd.held_all M tab_pg tab_pm tab_ok tab_om k) F (tab_pg "law" xl hlaw)<|tab_ok "law" xl hlaw;rw[hps]at this;exact this
 .refine⟨[.scr ns],λ_=>eZ,λv _=>v=.bl fb,λ_ _=>False,.cons (.scr ?_) .nil,λ_ _ e=>(by cases e),ok ns hl,?_,?_⟩
  .rcases hS with(h|⟨o,h⟩)|h
   .rcases hO a with z|⟨o,xs,z⟩
    .rw[h]at z;cases z
    .rw[h]at z;cases z
   .exact .inl ⟨o,h⟩
   .exact .inr h
  .intro v G' H' x _ _ r e;subst e;exact r.bl_inv
  .rintro cls d H' ⟨_,_,_,_,_,_,_,z⟩;exact z
end Hd
set_option maxRecDepth 20000
set_option maxHeartbeats 2000000
namespace O
local macro_rules|`(#[$x])=>`(.cons $x .nil)|`(#[$x,$y,*])=>`(.cons $x #[$y,*])
@[reducible] noncomputable def B0(P:Pg)(n:Nat)(d:Fn)(e:Env)(h:Hs)(Q:Q1)(X:XQ):Prop:=wSs (wF P n) d.body e h (λ_ g=>Q .non g) Q (λ_ _=>False) (λ_ _=>False) λ_ c g=>X c g
variable {P:Pg}{n:Nat}{a0 a1 a2 a3 a4 a5 a6 a7:Val}{h:Hs}{Q:Q1}{X:XQ}
local macro_rules|`(↑$n:num)=>`(.cst (.int $n))
local macro_rules|`(⇑$n:num)=>`(.var $n)
noncomputable abbrev S3:Fn:={ar:=1,sz:=1,body:=#[.ret<|.and (.bi (.isi ["int"]) #[⇑0])<|.not<|.bi (.isi ["bool"]) #[⇑0]]}
noncomputable abbrev S4:Fn:={ar:=3,sz:=3,body:=#[.ret<|.and (.call "is_whole" #[⇑0])<|.chain .le .le ⇑1 ⇑0 ⇑2]}
noncomputable abbrev TU:Fn:={ar:=2,sz:=2,body:=#[.ite (.or (.not<|.val<|.bi (.isi ["list"]) #[⇑0])<|.not<|.val<|.bi (.isi ["list"]) #[⇑1]) #[.never] .nil,.ite (.not<|.val<|.chain .le .le ↑1 (.bi .len #[⇑0])<|.glob "MOST_BRIDGES"<|.int 10) #[.never] .nil,.ite (.val<|.cmp .gt (.bi .len #[⇑1])<|.glob "MOST_TIES"<|.int 16) #[.never] .nil,.ite (.not<|.val<|.call "are_bridges" #[⇑0]) #[.never] .nil,.ite (.not<|.val<|.bi .all #[.comp [0] 1 (.one 0) (.seq ⇑1) .yes<|.call "is_tie" #[⇑0,⇑1]]) #[.never] .nil,.ret<|.tup #[.bi .tuple #[.bi .sortedI #[⇑0]],.bi .tuple #[.comp [] 1 (.one 0) (.seq ⇑1) .yes<|.call "lesser_end_first" #[⇑0]]]]}
noncomputable abbrev Sv:Fn:={ar:=1,sz:=1,body:=#[.ite (.not<|.val<|.bi .all #[.comp [] 1 (.one 0) (.seq ⇑0) .yes<|.call "is_whole_between" #[⇑0,↑0,.glob "GREATEST_NUMBER"<|.int 999]]) #[.ret<|.cst<|.bl fc] .nil,.ret<|.cmp .eq (.bi .lenSet #[⇑0])<|.bi .len #[⇑0]]}
noncomputable abbrev S2:Fn:={ar:=2,sz:=2,body:=#[.ite (.or (.not<|.val<|.bi (.isi ["tuple"]) #[⇑0])<|.val<|.cmp .ne (.bi .len #[⇑0]) ↑3) #[.ret<|.cst<|.bl fc] .nil,.ite (.or (.not<|.val<|.call "is_whole" #[.idx ⇑0 ↑0])<|.not<|.val<|.call "is_whole" #[.idx ⇑0 ↑1]) #[.ret<|.cst<|.bl fc] .nil,.ite (.or (.val<|.cmp .notin (.idx ⇑0 ↑0) ⇑1)<|.val<|.cmp .notin (.idx ⇑0 ↑1) ⇑1) #[.ret<|.cst<|.bl fc] .nil,.ret<|.and (.cmp .ne (.idx ⇑0 ↑0)<|.idx ⇑0 ↑1)<|.call "is_whole_between" #[.idx ⇑0 ↑2,↑1,.glob "GREATEST_COST"<|.int 1000]]}
noncomputable abbrev TN:Fn:={ar:=1,sz:=1,body:=#[.ret<|.tup #[.bi .min2 #[.idx ⇑0 ↑0,.idx ⇑0 ↑1],.bi .max2 #[.idx ⇑0 ↑0,.idx ⇑0 ↑1],.idx ⇑0 ↑2]]}
noncomputable abbrev TB:Fn:={ar:=2,sz:=5,body:=#[.set (.one 2)<|.lst .nil,.for (.many [3,4]) (.enum<|.idx ⇑0 ↑1) #[.ite (.val<|.cmp .isin ⇑1<|.slc ⇑4 .none<|.some ↑2) #[.expr<|.bm .append ⇑2 #[.tup #[⇑3,.call "far_end" #[⇑4,⇑1],.idx ⇑4 ↑2]]] .nil],.ret ⇑2]}
noncomputable abbrev S1:Fn:={ar:=2,sz:=2,body:=#[.ret<|.ife (.val<|.cmp .eq (.idx ⇑0 ↑0) ⇑1) (.idx ⇑0 ↑1)<|.idx ⇑0 ↑0]}
noncomputable abbrev S0:Fn:={ar:=2,sz:=3,body:=#[.set (.one 2)<|.comp [0] 1 (.one 0) (.seq ⇑1) (.val<|.cmp .lt (.idx ⇑0 ↑0) ⇑1) ⇑0,.ret<|.bi .minD #[⇑2]]}
noncomputable abbrev TD:Fn:={ar:=1,sz:=4,body:=#[.for (.many [1,2]) (.seq<|.meth "Yard" "labels" ⇑0 .nil) #[.expr<|.meth "Yard" "deed" ⇑0 #[.tup #[.cst<|.str "tick",⇑1]]],.for (.one 3) (.seq<|.meth "Yard" "road" ⇑0 .nil) #[.expr<|.meth "Yard" "deed" ⇑0 #[.tup #[.cst<|.str "come",↑0]]]]}
noncomputable abbrev TH:Fn:={ar:=2,sz:=2,body:=#[.ret<|.bin .add (.bin .add ⇑1<|.bin .mul ↑4<|.bi .len #[.idx ⇑0 ↑0]) ↑6]}
noncomputable abbrev TC:Fn:={ar:=2,sz:=2,body:=#[.ret<|.cmp .gt (.idx ⇑0<|.glob "NUMBER"<|.int 0)<|.idx ⇑1<|.glob "NUMBER"<|.int 0]}
noncomputable abbrev SJ:Fn:={ar:=5,sz:=8,body:=#[.setFld ⇑0 "number" ⇑1,.setFld ⇑0 "life" ⇑2,.setFld ⇑0 "age_let_go" ⇑4,.setFld ⇑0 "ties_by_place"<|.dct .nil,.for (.many [5,6,7]) (.seq ⇑3) #[.setIdx (.fld ⇑0 "ties_by_place") ⇑5<|.tup #[⇑6,⇑7]],.setFld ⇑0 "held_by_place"<|.dct .nil,.setFld ⇑0 "label_now"<|.tup #[⇑1,↑0,.cst .non,.cst .non],.setFld ⇑0 "version" ↑0,.setFld ⇑0 "ticks_had" ↑0]}
noncomputable abbrev SN:Fn:={ar:=1,sz:=1,body:=#[.ret<|.fld ⇑0 "label_now"]}
noncomputable abbrev SB:Fn:={ar:=1,sz:=1,body:=#[.ret<|.tup #[.fld ⇑0 "life",.fld ⇑0 "version"]]}
noncomputable abbrev SW:Fn:={ar:=2,sz:=2,body:=#[.ret<|.bm .dget (.fld ⇑0 "held_by_place") #[⇑1]]}
noncomputable abbrev SE:Fn:={ar:=4,sz:=4,body:=#[.ite (.val<|.cmp .notin ⇑1<|.fld ⇑0 "ties_by_place") #[.setIdx (.fld ⇑0 "ties_by_place") ⇑1<|.tup #[⇑2,⇑3]] .nil]}
noncomputable abbrev SZ:Fn:={ar:=2,sz:=2,body:=#[.expr<|.bm .dpopD (.fld ⇑0 "ties_by_place") #[⇑1,.cst .non],.expr<|.bm .dpopD (.fld ⇑0 "held_by_place") #[⇑1,.cst .non]]}
noncomputable abbrev SX:Fn:={ar:=3,sz:=4,body:=#[.ite (.val<|.cmp .notin ⇑1<|.fld ⇑0 "ties_by_place") #[.retN] .nil,.set (.one 3)<|.meth "Bridge" "held" ⇑0 #[⇑1],.ite (.or (.val<|.cmp .is ⇑3<|.cst .non)<|.val<|.call "newer" #[⇑2,.idx ⇑3 ↑0]) #[.setIdx (.fld ⇑0 "held_by_place") ⇑1<|.tup #[⇑2,.idx ⇑2<|.glob "AGE"<|.int 4]] .nil]}
noncomputable abbrev SD:Fn:={ar:=1,sz:=2,body:=#[.expr<|.meth "Bridge" "let_grow_older" ⇑0 .nil,.expr<|.meth "Bridge" "take_label" ⇑0 #[.meth "Bridge" "reckon_label" ⇑0 .nil],.set (.one 1)<|.comp [0] 1 (.one 0) (.seq<|.bi .sortedI #[.fld ⇑0 "ties_by_place"]) .yes<|.tup #[⇑0,.meth "Bridge" "letter_over" ⇑1 #[⇑0]],.augFld ⇑0 "ticks_had" .add 1,.ret ⇑1]}
noncomputable abbrev SO:Fn:={ar:=1,sz:=4,body:=#[.set (.one 1)<|.dct .nil,.forI fc (.many [2,3]) (.fld ⇑0 "held_by_place") #[.ite (.val<|.cmp .lt (.bin .add (.idx ⇑3 ↑1) ↑1)<|.fld ⇑0 "age_let_go") #[.setIdx ⇑1 ⇑2<|.tup #[.idx ⇑3 ↑0,.bin .add (.idx ⇑3 ↑1) ↑1]] .nil],.setFld ⇑0 "held_by_place" ⇑1]}
noncomputable abbrev SA:Fn:={ar:=1,sz:=8,body:=#[.set (.one 1)<|.lst .nil,.forI fc (.many [2,3]) (.fld ⇑0 "held_by_place") #[.set (.many [4,5])<|.idx (.fld ⇑0 "ties_by_place") ⇑2,.expr<|.bm .append ⇑1 #[.tup #[.idx (.idx ⇑3 ↑0)<|.glob "ROOT"<|.int 2,.bin .add (.idx (.idx ⇑3 ↑0)<|.glob "COST"<|.int 3) ⇑5,⇑4,⇑2]]],.set (.one 6)<|.call "best_offer" #[.fld ⇑0 "number",⇑1],.ite (.val<|.cmp .is ⇑6<|.cst .non) #[.ret<|.tup #[.fld ⇑0 "number",↑0,.cst .non,.cst .non]] .nil,.set (.many [7,5,4,2]) ⇑6,.ret<|.tup #[⇑7,⇑5,⇑2,.idx (.idx (.idx (.fld ⇑0 "held_by_place") ⇑2) ↑0)<|.glob "STAMP"<|.int 1]]}
noncomputable abbrev SC:Fn:={ar:=2,sz:=2,body:=#[.ite (.val<|.cmp .ne ⇑1<|.fld ⇑0 "label_now") #[.setFld ⇑0 "label_now" ⇑1,.augFld ⇑0 "version" .add 1] .nil]}
noncomputable abbrev SU:Fn:={ar:=2,sz:=8,body:=#[.set (.many [2,3,4,5])<|.fld ⇑0 "label_now",.set (.one 6)<|.ife (.val<|.cmp .is ⇑4<|.cst .non) ↑0<|.bin .add (.idx (.idx (.fld ⇑0 "held_by_place") ⇑4) ↑1) ↑1,.set (.one 7)<|.tup #[.tup #[.fld ⇑0 "life",.fld ⇑0 "ticks_had"],.meth "Bridge" "stamp" ⇑0 .nil,⇑2,⇑3,⇑6],.ite (.val<|.cmp .eq ⇑1 ⇑4) #[.ret<|.bin .add ⇑7<|.tup #[⇑5,.cst .non]] .nil,.ite (.val<|.meth "Bridge" "is_rested_on" ⇑0 #[⇑1]) #[.ret<|.bin .add ⇑7<|.tup #[.cst .non,.idx (.idx (.idx (.fld ⇑0 "held_by_place") ⇑1) ↑0)<|.glob "STAMP"<|.int 1]] .nil,.ret<|.bin .add ⇑7<|.tup #[.cst .non,.cst .non]]}
noncomputable abbrev SM:Fn:={ar:=2,sz:=3,body:=#[.set (.one 2)<|.meth "Bridge" "held" ⇑0 #[⇑1],.ret<|.and (.cmp .isnot ⇑2<|.cst .non)<|.cmp .eq (.idx (.idx ⇑2 ↑0)<|.glob "RESTS"<|.int 5)<|.meth "Bridge" "stamp" ⇑0 .nil]}
noncomputable abbrev SK:Fn:={ar:=2,sz:=3,body:=#[.set (.one 2)<|.meth "Bridge" "held" ⇑0 #[⇑1],.ite (.or (.val<|.cmp .is ⇑2<|.cst .non)<|.val<|.cmp .ne (.idx (.idx ⇑2 ↑0)<|.glob "AGREES"<|.int 6)<|.meth "Bridge" "stamp" ⇑0 .nil) #[.ret<|.cst<|.bl fc] .nil,.ret<|.cmp .eq (.idx (.idx ⇑2 ↑0)<|.glob "STAMP"<|.int 1)<|.idx (.fld ⇑0 "label_now") ↑3]}
noncomputable abbrev SY:Fn:={ar:=2,sz:=2,body:=#[.ite (.val<|.cmp .notin ⇑1<|.fld ⇑0 "ties_by_place") #[.ret<|.cst<|.str "down"] .nil,.ite (.val<|.cmp .eq ⇑1<|.idx (.fld ⇑0 "label_now") ↑2) #[.ret<|.ife (.val<|.meth "Bridge" "is_agreed_to" ⇑0 #[⇑1]) (.cst<|.str "child")<|.cst<|.str "shut"] .nil,.ret<|.ife (.val<|.meth "Bridge" "is_rested_on" ⇑0 #[⇑1]) (.cst<|.str "parent")<|.cst<|.str "shut"]}
noncomputable abbrev Sz:Fn:={ar:=3,sz:=4,body:=#[.setFld ⇑0 "net_made_of" ⇑1,.setFld ⇑0 "greatest_age" ⇑2,.setFld ⇑0 "lives"<|.dct .nil,.setFld ⇑0 "standing"<|.dct .nil,.setFld ⇑0 "ties_fallen"<|.dct .nil,.setFld ⇑0 "letters_on_road"<|.lst .nil,.for (.one 3) (.seq<|.idx ⇑1 ↑0) #[.setIdx (.fld ⇑0 "lives") ⇑3 ↑0,.setIdx (.fld ⇑0 "standing") ⇑3<|.make "Bridge" #[⇑3,↑0,.call "neighbours" #[⇑1,⇑3],⇑2]]]}
noncomputable abbrev Sx:Fn:={ar:=1,sz:=1,body:=#[.ret<|.bi .list #[.fld ⇑0 "letters_on_road"]]}
noncomputable abbrev SL:Fn:={ar:=1,sz:=2,body:=#[.set (.one 1)<|.comp [0] 1 (.one 0) (.seq<|.idx (.fld ⇑0 "net_made_of") ↑0) (.val<|.cmp .notin ⇑0<|.fld ⇑1 "standing") ⇑0,.ret<|.tup #[.bi .tuple #[⇑1],.bi .tuple #[.bi .sortedI #[.fld ⇑0 "ties_fallen"]]]]}
noncomputable abbrev Sy:Fn:={ar:=1,sz:=1,body:=#[.ret<|.comp [0] 1 (.one 0) (.seq<|.bi .sortedI #[.fld ⇑0 "standing"]) .yes<|.tup #[⇑0,.meth "Bridge" "label" (.idx (.fld ⇑1 "standing") ⇑0) .nil]]}
noncomputable abbrev SR:Fn:={ar:=2,sz:=5,body:=#[.ite (.not<|.val<|.meth "Yard" "has_tie" ⇑0 #[⇑1]) #[.ret<|.tup #[.cst<|.str "down",.cst<|.str "down"]] .nil,.set (.many [2,3,4])<|.idx (.idx (.fld ⇑0 "net_made_of") ↑1) ⇑1,.ret<|.tup #[.meth "Yard" "end_at" ⇑0 #[⇑2,⇑1],.meth "Yard" "end_at" ⇑0 #[⇑3,⇑1]]]}
noncomputable abbrev SQ:Fn:={ar:=3,sz:=3,body:=#[.ite (.val<|.cmp .notin ⇑1<|.fld ⇑0 "standing") #[.ret<|.cst<|.str "down"] .nil,.ret<|.meth "Bridge" "end" (.idx (.fld ⇑0 "standing") ⇑1) #[⇑2]]}
noncomputable abbrev SV:Fn:={ar:=2,sz:=2,body:=#[.ret<|.chain .le .lt ↑0 ⇑1<|.bi .len #[.idx (.fld ⇑0 "net_made_of") ↑1]]}
noncomputable abbrev SI:Fn:={ar:=2,sz:=4,body:=#[.set (.many [2,3])<|.call "read_deed" #[⇑1],.ite (.val<|.cmp .eq ⇑2<|.tup #[.cst<|.str "tick"]) #[.expr<|.meth "Yard" "tick_of" ⇑0 #[⇑3]] #[.ite (.val<|.cmp .eq ⇑2<|.tup #[.cst<|.str "come"]) #[.expr<|.meth "Yard" "come" ⇑0 #[⇑3]] #[.ite (.val<|.cmp .eq ⇑2<|.tup #[.cst<|.str "lost"]) #[.expr<|.meth "Yard" "take_off" ⇑0 #[⇑3]] #[.ite (.val<|.cmp .eq ⇑2<|.tup #[.cst<|.str "fall",.cst<|.str "bridge"]) #[.expr<|.meth "Yard" "fall_of_bridge" ⇑0 #[⇑3]] #[.ite (.val<|.cmp .eq ⇑2<|.tup #[.cst<|.str "fall",.cst<|.str "tie"]) #[.expr<|.meth "Yard" "fall_of_tie" ⇑0 #[⇑3]] #[.ite (.val<|.cmp .eq ⇑2<|.tup #[.cst<|.str "back",.cst<|.str "bridge"]) #[.expr<|.meth "Yard" "back_of_bridge" ⇑0 #[⇑3]] #[.expr<|.meth "Yard" "back_of_tie" ⇑0 #[⇑3]]]]]]]]}
noncomputable abbrev Sr:Fn:={ar:=2,sz:=5,body:=#[.ite (.val<|.cmp .notin ⇑1<|.fld ⇑0 "standing") #[.never] .nil,.for (.many [2,3]) (.seq<|.meth "Bridge" "tick" (.idx (.fld ⇑0 "standing") ⇑1) .nil) #[.set (.one 4)<|.call "far_end" #[.idx (.idx (.fld ⇑0 "net_made_of") ↑1) ⇑2,⇑1],.expr<|.bm .append (.fld ⇑0 "letters_on_road") #[.tup #[⇑1,⇑4,⇑2,⇑3]]]]}
noncomputable abbrev SH:Fn:={ar:=2,sz:=6,body:=#[.set (.many [2,3,4,5])<|.meth "Yard" "take_off" ⇑0 #[⇑1],.ite (.val<|.cmp .isin ⇑3<|.fld ⇑0 "standing") #[.expr<|.meth "Bridge" "hear" (.idx (.fld ⇑0 "standing") ⇑3) #[⇑4,⇑5]] .nil]}
noncomputable abbrev Sq:Fn:={ar:=2,sz:=2,body:=#[.ite (.not<|.val<|.chain .le .lt ↑0 ⇑1<|.bi .len #[.fld ⇑0 "letters_on_road"]) #[.never] .nil,.ret<|.bm .popAt (.fld ⇑0 "letters_on_road") #[⇑1]]}
noncomputable abbrev SS:Fn:={ar:=2,sz:=2,body:=#[.ite (.val<|.cmp .notin ⇑1<|.fld ⇑0 "standing") #[.never] .nil,.expr<|.bm .dpop (.fld ⇑0 "standing") #[⇑1],.expr<|.meth "Yard" "set_ties_of" ⇑0 #[⇑1]]}
noncomputable abbrev ST:Fn:={ar:=2,sz:=2,body:=#[.ite (.or (.not<|.val<|.meth "Yard" "has_tie" ⇑0 #[⇑1])<|.val<|.cmp .isin ⇑1<|.fld ⇑0 "ties_fallen") #[.never] .nil,.setIdx (.fld ⇑0 "ties_fallen") ⇑1<|.cst<|.bl fb,.expr<|.meth "Yard" "set_tie" ⇑0 #[⇑1]]}
noncomputable abbrev SF:Fn:={ar:=2,sz:=2,body:=#[.ite (.or (.val<|.cmp .notin ⇑1<|.fld ⇑0 "lives")<|.val<|.cmp .isin ⇑1<|.fld ⇑0 "standing") #[.never] .nil,.augIdx (.fld ⇑0 "lives") ⇑1 .add 1,.setIdx (.fld ⇑0 "standing") ⇑1<|.make "Bridge" #[⇑1,.idx (.fld ⇑0 "lives") ⇑1,.lst .nil,.fld ⇑0 "greatest_age"],.expr<|.meth "Yard" "set_ties_of" ⇑0 #[⇑1]]}
noncomputable abbrev SG:Fn:={ar:=2,sz:=2,body:=#[.ite (.val<|.cmp .notin ⇑1<|.fld ⇑0 "ties_fallen") #[.never] .nil,.expr<|.bm .dpop (.fld ⇑0 "ties_fallen") #[⇑1],.expr<|.meth "Yard" "set_tie" ⇑0 #[⇑1]]}
noncomputable abbrev Su:Fn:={ar:=2,sz:=5,body:=#[.for (.many [2,3,4]) (.seq<|.call "neighbours" #[.fld ⇑0 "net_made_of",⇑1]) #[.expr<|.meth "Yard" "set_tie" ⇑0 #[⇑2]]]}
noncomputable abbrev Sw:Fn:={ar:=2,sz:=8,body:=#[.set (.many [2,3,4])<|.idx (.idx (.fld ⇑0 "net_made_of") ↑1) ⇑1,.set (.one 5)<|.and (.cmp .notin ⇑1<|.fld ⇑0 "ties_fallen")<|.and (.cmp .isin ⇑2<|.fld ⇑0 "standing")<|.cmp .isin ⇑3<|.fld ⇑0 "standing",.for (.many [6,7]) (.seq<|.tup #[.tup #[⇑2,⇑3],.tup #[⇑3,⇑2]]) #[.ite (.val ⇑5) #[.expr<|.meth "Bridge" "up" (.idx (.fld ⇑0 "standing") ⇑6) #[⇑1,⇑7,⇑4]] #[.ite (.val<|.cmp .isin ⇑6<|.fld ⇑0 "standing") #[.expr<|.meth "Bridge" "down" (.idx (.fld ⇑0 "standing") ⇑6) #[⇑1]] .nil]]]}
noncomputable abbrev TF:Fn:={ar:=1,sz:=2,body:=#[.ite (.not<|.val<|.bi (.isi ["tuple"]) #[⇑0]) #[.never] .nil,.set (.one 1)<|.slc ⇑0 .none<|.some<|.neg ↑1,.ite (.or (.not<|.val<|.bi .all #[.comp [] 1 (.one 0) (.seq ⇑1) .yes<|.bi (.isi ["str"]) #[⇑0]])<|.val<|.cmp .notin ⇑1<|.glob "DEEDS"<|.tup [(.tup [(.str "tick")]),(.tup [(.str "come")]),(.tup [(.str "lost")]),(.tup [(.str "fall"),(.str "bridge")]),(.tup [(.str "fall"),(.str "tie")]),(.tup [(.str "back"),(.str "bridge")]),(.tup [(.str "back"),(.str "tie")])]) #[.never] .nil,.ite (.not<|.val<|.call "is_whole" #[.idx ⇑0<|.neg ↑1]) #[.never] .nil,.ret<|.tup #[⇑1,.idx ⇑0<|.neg ↑1]]}
noncomputable abbrev S8:Fn:={ar:=2,sz:=2,body:=#[.ite (.val<|.cmp .lt ⇑1<|.bi .len #[⇑0]) #[.ret<|.idx ⇑0 ⇑1] .nil,.ret ↑0]}
noncomputable abbrev TY:Fn:={ar:=1,sz:=1,body:=#[.ret<|.lst #[⇑0,.bin .mod ⇑0 ↑2147483587]]}
noncomputable abbrev TW:Fn:={ar:=2,sz:=3,body:=#[.ite (.val<|.cmp .gt (.idx ⇑0 ↑0)<|.bin .pow ↑10 ↑18) #[.set (.one 2)<|.bin .mod (.idx ⇑0 ↑0) ⇑1,.setIdx ⇑0 ↑0<|.bin .fdiv (.idx ⇑0 ↑0) ⇑1,.ret ⇑2] .nil,.setIdx ⇑0 ↑1<|.bin .mod (.bin .add (.bin .add (.bin .mul (.idx ⇑0 ↑1)<|.idx ⇑0 ↑1)<|.bin .mul ↑69621<|.idx ⇑0 ↑1) ↑12345) ↑2147483587,.ret<|.bin .mod (.bin .fdiv (.idx ⇑0 ↑1) ↑8) ⇑1]}
noncomputable abbrev TZ:Fn:={ar:=1,sz:=9,body:=#[.set (.one 1)<|.idx (.lst #[.bin .add ↑1<|.call "_law_take" #[⇑0,↑6],↑10])<|.bi .int #[.cmp .eq (.call "_law_take" #[⇑0,↑8]) ↑0],.set (.one 2)<|.idx (.lst #[↑1,↑3,↑10,↑100])<|.call "_law_take" #[⇑0,↑4],.set (.one 4)<|.comp [0,2] 1 (.one 0) (.range ⇑1) .yes<|.bin .add (.bin .mul ⇑2<|.bin .add ⇑0<|.call "_law_take" #[⇑1,↑2])<|.idx (.lst #[↑0,↑7])<|.bin .fdiv ⇑2 ↑100,.set (.one 4)<|.bi .sortedSet #[.comp [] 1 (.one 0) (.seq ⇑4) .yes<|.bi .min2 #[↑999,⇑0]],.set (.one 5)<|.lst .nil,.for (.one 3) (.range<|.call "_law_take" #[⇑0,↑10]) #[.set (.one 6)<|.idx ⇑4<|.call "_law_take" #[⇑0,.bi .len #[⇑4]],.set (.one 7)<|.idx ⇑4<|.call "_law_take" #[⇑0,.bi .len #[⇑4]],.set (.one 8)<|.idx (.lst #[↑1,↑1,↑2,.bin .add ↑1<|.call "_law_take" #[⇑0,↑4],.bin .add ↑1<|.call "_law_take" #[⇑0,↑1000]])<|.call "_law_take" #[⇑0,↑5],.ite (.val<|.cmp .ne ⇑6 ⇑7) #[.expr<|.bm .append ⇑5 #[.tup #[⇑6,⇑7,⇑8]]] .nil],.for (.one 3) (.range2 ↑1<|.bi .len #[⇑4]) #[.ite (.val<|.cmp .gt (.call "_law_take" #[⇑0,↑4]) ↑0) #[.expr<|.bm .append ⇑5 #[.tup #[.idx ⇑4<|.call "_law_take" #[⇑0,⇑3],.idx ⇑4 ⇑3,.bin .add ↑1<|.call "_law_take" #[⇑0,↑3]]]] .nil],.ret<|.call "make_net" #[⇑4,.slc ⇑5 .none<|.some ↑16]]}
noncomputable abbrev TM:Fn:={ar:=2,sz:=2,body:=#[.ret<|.comp [1] 1 (.one 0) (.seq<|.idx ⇑0 ↑0) (.val<|.cmp .notin ⇑0<|.idx ⇑1 ↑0) ⇑0]}
noncomputable abbrev TK:Fn:={ar:=3,sz:=5,body:=#[.set (.one 3)<|.call "_law_take" #[⇑0,.bi .max2 #[↑1,.bi .len #[.idx ⇑1 ↑1]]],.set (.one 4)<|.idx (.idx ⇑1 ↑0)<|.call "_law_take" #[⇑0,.bi .len #[.idx ⇑1 ↑0]],.ite (.and (.val<|.cmp .eq (.call "_law_take" #[⇑0,↑2]) ↑0)<|.val<|.cmp .ne (.idx ⇑1 ↑1)<|.tup .nil) #[.ret<|.tup #[.idx (.lst #[.cst<|.str "fall",.cst<|.str "back"])<|.bi .int #[.cmp .isin ⇑3<|.idx ⇑2 ↑1],.cst<|.str "tie",⇑3]] .nil,.ret<|.tup #[.idx (.lst #[.cst<|.str "fall",.cst<|.str "back"])<|.bi .int #[.cmp .isin ⇑4<|.idx ⇑2 ↑0],.cst<|.str "bridge",⇑4]]}
noncomputable abbrev S9:Fn:={ar:=3,sz:=8,body:=#[.set (.one 3)<|.bi .len #[.meth "Yard" "road" ⇑1 .nil],.set (.one 4)<|.meth "Yard" "down" ⇑1 .nil,.set (.one 5)<|.call "_law_ups" #[⇑2,⇑4],.set (.one 6)<|.call "_law_take" #[⇑0,↑14],.ite (.or (.val<|.cmp .eq ⇑6 ↑13)<|.val<|.cmp .eqE ⇑5<|.lst .nil) #[.ret<|.call "_law_turned" #[⇑0,⇑2,⇑4]] .nil,.ite (.or (.val<|.cmp .lt ⇑6 ↑5)<|.val<|.cmp .eq ⇑3 ↑0) #[.ret<|.tup #[.cst<|.str "tick",.idx ⇑5<|.call "_law_take" #[⇑0,.bi .len #[⇑5]]]] .nil,.set (.one 7)<|.idx (.lst #[↑0,↑0,.bin .sub ⇑3 ↑1,.call "_law_take" #[⇑0,⇑3]])<|.call "_law_take" #[⇑0,↑4],.ret<|.idx (.lst #[.tup #[.cst<|.str "come",⇑7],.tup #[.cst<|.str "lost",⇑7]])<|.bi .int #[.cmp .eq ⇑6 ↑12]]}
noncomputable abbrev S7:Fn:={ar:=2,sz:=3,body:=#[.for (.one 2) (.seq<|.call "_law_ups" #[⇑1,.meth "Yard" "down" ⇑0 .nil]) #[.expr<|.meth "Yard" "deed" ⇑0 #[.tup #[.cst<|.str "tick",⇑2]]],.whl (.val<|.cmp .neE (.meth "Yard" "road" ⇑0 .nil)<|.lst .nil) #[.expr<|.meth "Yard" "deed" ⇑0 #[.tup #[.cst<|.str "come",↑0]]]]}
noncomputable abbrev TX:Fn:={ar:=2,sz:=2,body:=#[.ret<|.lst #[.meth "Yard" "road" ⇑0 .nil,.meth "Yard" "labels" ⇑0 .nil,.meth "Yard" "down" ⇑0 .nil,.comp [0] 1 (.one 0) (.range<|.bi .len #[.idx ⇑1 ↑1]) .yes<|.meth "Yard" "ends" ⇑1 #[⇑0]]]}
noncomputable abbrev S6:Fn:={ar:=1,sz:=3,body:=#[.set (.one 1)<|.make "Yard" #[.call "make_net" #[.lst #[↑0,↑1],.lst #[.tup #[↑0,↑1,↑1]]],⇑0],.for (.one 2) (.range ↑2) #[.expr<|.call "quiet_round" #[⇑1]],.for (.one 2) (.range ⇑0) #[.ite (.val<|.cmp .ne (.slc (.idx (.bi .dict #[.meth "Yard" "labels" ⇑1 .nil]) ↑1) .none<|.some ↑3)<|.tup #[↑0,↑1,↑0]) #[.ret<|.cst<|.bl fc] .nil,.expr<|.meth "Yard" "deed" ⇑1 #[.tup #[.cst<|.str "tick",↑1]]],.ret<|.cmp .eq (.idx (.bi .dict #[.meth "Yard" "labels" ⇑1 .nil]) ↑1)<|.tup #[↑1,↑0,.cst .non,.cst .non]]}
noncomputable abbrev S5:Fn:={ar:=1,sz:=9,body:=#[.set (.one 1)<|.call "_law_row" #[.call "_law_cell_at" #[⇑0,↑0]],.set (.one 2)<|.call "_law_net" #[⇑1],.set (.one 3)<|.bin .add ↑4<|.call "_law_take" #[⇑1,↑37],.set (.one 4)<|.lst #[.make "Yard" #[⇑2,⇑3],.make "Yard" #[⇑2,⇑3]],.for (.one 5) (.seq<|.bin .add (.slc ⇑0 (.some ↑1)<|.some ↑63)<|.lst #[↑0]) #[.set (.one 1)<|.call "_law_row" #[⇑5],.for (.one 6) (.range<|.bin .add ↑1<|.call "_law_take" #[⇑1,↑6]) #[.set (.one 7)<|.call "_law_drawn" #[⇑1,.idx ⇑4 ↑0,⇑2],.expr<|.meth "Yard" "deed" (.idx ⇑4 ↑0) #[⇑7],.expr<|.meth "Yard" "deed" (.idx ⇑4 ↑1) #[⇑7]],.ite (.val<|.cmp .eq (.call "_law_take" #[⇑1,↑3]) ↑0) #[.expr<|.call "quiet_round" #[.idx ⇑4 ↑0],.expr<|.call "_law_by_hand" #[.idx ⇑4 ↑1,⇑2],.ite (.val<|.cmp .neE (.meth "Yard" "road" (.idx ⇑4 ↑0) .nil)<|.lst .nil) #[.ret<|.cst<|.bl fc] .nil] .nil,.ite (.val<|.cmp .ne (.call "_law_shown" #[.idx ⇑4 ↑0,⇑2])<|.call "_law_shown" #[.idx ⇑4 ↑1,⇑2]) #[.ret<|.cst<|.bl fc] .nil],.for (.one 8) (.range2 ↑4 ↑201) #[.ite (.val<|.cmp .ne (.call "rounds_told" #[⇑2,⇑8])<|.bin .add (.bin .add ⇑8<|.bin .mul ↑4<|.bi .len #[.idx ⇑2 ↑0]) ↑6) #[.ret<|.cst<|.bl fc] .nil],.set (.one 1)<|.call "_law_row" #[.call "_law_cell_at" #[⇑0,↑1]],.ret<|.call "_law_ages" #[.idx (.lst #[.bin .add ↑4<|.call "_law_take" #[⇑1,↑197],↑200,↑121,↑4])<|.call "_law_take" #[⇑1,↑4]]]}
class Al(P:Pg):Prop where
 c0:P "is_whole" = eY S3
 c1:P "is_whole_between" = eY S4
 c2:P "make_net" = eY TU
 c3:P "are_bridges" = eY Sv
 c4:P "is_tie" = eY S2
 c5:P "lesser_end_first" = eY TN
 c6:P "neighbours" = eY TB
 c7:P "far_end" = eY S1
 c8:P "best_offer" = eY S0
 c9:P "quiet_round" = eY TD
 c10:P "rounds_told" = eY TH
 c11:P "newer" = eY TC
 c12:P "Bridge.__init__" = eY SJ
 c13:P "Bridge.label" = eY SN
 c14:P "Bridge.stamp" = eY SB
 c15:P "Bridge.held" = eY SW
 c16:P "Bridge.up" = eY SE
 c17:P "Bridge.down" = eY SZ
 c18:P "Bridge.hear" = eY SX
 c19:P "Bridge.tick" = eY SD
 c20:P "Bridge.let_grow_older" = eY SO
 c21:P "Bridge.reckon_label" = eY SA
 c22:P "Bridge.take_label" = eY SC
 c23:P "Bridge.letter_over" = eY SU
 c24:P "Bridge.is_rested_on" = eY SM
 c25:P "Bridge.is_agreed_to" = eY SK
 c26:P "Bridge.end" = eY SY
 c27:P "Yard.__init__" = eY Sz
 c28:P "Yard.road" = eY Sx
 c29:P "Yard.down" = eY SL
 c30:P "Yard.labels" = eY Sy
 c31:P "Yard.ends" = eY SR
 c32:P "Yard.end_at" = eY SQ
 c33:P "Yard.has_tie" = eY SV
 c34:P "Yard.deed" = eY SI
 c35:P "Yard.tick_of" = eY Sr
 c36:P "Yard.come" = eY SH
 c37:P "Yard.take_off" = eY Sq
 c38:P "Yard.fall_of_bridge" = eY SS
 c39:P "Yard.fall_of_tie" = eY ST
 c40:P "Yard.back_of_bridge" = eY SF
 c41:P "Yard.back_of_tie" = eY SG
 c42:P "Yard.set_ties_of" = eY Su
 c43:P "Yard.set_tie" = eY Sw
 c44:P "read_deed" = eY TF
 c45:P "_law_cell_at" = eY S8
 c46:P "_law_row" = eY TY
 c47:P "_law_take" = eY TW
 c48:P "_law_net" = eY TZ
 c49:P "_law_ups" = eY TM
 c50:P "_law_turned" = eY TK
 c51:P "_law_drawn" = eY S9
 c52:P "_law_by_hand" = eY S7
 c53:P "_law_shown" = eY TX
 c54:P "_law_ages" = eY S6
 c55:P "law" = eY S5
set_option hygiene false in
local macro_rules|`(#check $r:ident $c:ident $d:ident $s:str $a:num $z:num)=>do
 let v:=(Array.range a.getNat).map λi=>Lean.mkIdent (.mkSimple s!"a{i}")
 let e<-(Array.range z.getNat).mapM λi=>if i<a.getNat then `(eY $(v[i]!))else`(eZ)
 `(theorem $r [Al P](q:B0 P n $d [$e,*] h Q X):wF P (n+1) $s [$v,*] h Q X:=Zb $c rfl q)
#check Xz Al.c0 S3 "is_whole" 1 1
#check XI Al.c1 S4 "is_whole_between" 3 3
#check OP Al.c2 TU "make_net" 2 2
#check JZ Al.c3 Sv "are_bridges" 1 1
#check DP Al.c4 S2 "is_tie" 2 2
#check Xw Al.c5 TN "lesser_end_first" 1 1
#check Ma Al.c6 TB "neighbours" 2 5
#check A0 Al.c7 S1 "far_end" 2 2
#check MA Al.c8 S0 "best_offer" 2 3
#check JX Al.c9 TD "quiet_round" 1 4
#check Kc Al.c10 TH "rounds_told" 2 2
#check Fx Al.c11 TC "newer" 2 2
#check Kg Al.c12 SJ "Bridge.__init__" 5 8
#check Jm Al.c13 SN "Bridge.label" 1 1
#check JT Al.c14 SB "Bridge.stamp" 1 1
#check J7 Al.c15 SW "Bridge.held" 2 2
#check No Al.c16 SE "Bridge.up" 4 4
#check Kf Al.c17 SZ "Bridge.down" 2 2
#check Ke Al.c18 SX "Bridge.hear" 3 4
#check JW Al.c19 SD "Bridge.tick" 1 2
#check Yp Al.c20 SO "Bridge.let_grow_older" 1 4
#check YV Al.c21 SA "Bridge.reckon_label" 1 8
#check Xp Al.c22 SC "Bridge.take_label" 2 2
#check Xi Al.c23 SU "Bridge.letter_over" 2 8
#check YU Al.c24 SM "Bridge.is_rested_on" 2 3
#check YT Al.c25 SK "Bridge.is_agreed_to" 2 3
#check Mc Al.c26 SY "Bridge.end" 2 2
#check Nv Al.c27 Sz "Yard.__init__" 3 4
#check M9 Al.c28 Sx "Yard.road" 1 1
#check Ni Al.c29 SL "Yard.down" 1 2
#check J0 Al.c30 Sy "Yard.labels" 1 1
#check MK Al.c31 SR "Yard.ends" 2 5
#check Kh Al.c32 SQ "Yard.end_at" 3 3
#check YZ Al.c33 SV "Yard.has_tie" 2 2
#check NW Al.c34 SI "Yard.deed" 2 4
#check W9 Al.c35 Sr "Yard.tick_of" 2 5
#check Wz Al.c36 SH "Yard.come" 2 6
#check WB Al.c37 Sq "Yard.take_off" 2 2
#check YW Al.c38 SS "Yard.fall_of_bridge" 2 2
#check XG Al.c39 ST "Yard.fall_of_tie" 2 2
#check YX Al.c40 SF "Yard.back_of_bridge" 2 2
#check Xy Al.c41 SG "Yard.back_of_tie" 2 2
#check XD Al.c42 Su "Yard.set_ties_of" 2 5
#check Jr Al.c43 Sw "Yard.set_tie" 2 8
#check Nd Al.c44 TF "read_deed" 1 2
#check J3 Al.c45 S8 "_law_cell_at" 2 2
#check AU Al.c46 TY "_law_row" 1 1
#check OC Al.c47 TW "_law_take" 2 3
#check AG Al.c48 TZ "_law_net" 1 9
#check A2 Al.c49 TM "_law_ups" 2 2
#check Me Al.c50 TK "_law_turned" 3 5
#check MM Al.c51 S9 "_law_drawn" 3 8
#check J5 Al.c52 S7 "_law_by_hand" 2 3
#check NY Al.c53 TX "_law_shown" 2 2
#check N0 Al.c54 S6 "_law_ages" 1 3
#check Qw Al.c55 S5 "law" 1 9
local macro_rules|`(#[$x])=>`(.cons $x .nil)|`(#[$x,$y,*])=>`(.cons $x #[$y,*])
local macro_rules | `(tactic| walk_at "ne")=>`(tactic| first | assumption | (apply Ne.symm; assumption) | ((with_reducible apply ne_none'); (· assumption); (· walk_at "look")) | (apply Ne.symm; (with_reducible apply ne_none'); (· assumption); (· walk_at "look")))
local macro_rules | `(tactic| walk_at "look")=>`(tactic| first | assumption | with_reducible exact ff | ((with_reducible apply upd_ne'); (· walk_at "ne"); (· walk_at "look")) | ((with_reducible apply Ext.get); (· assumption); (· walk_at "look")) | ((with_reducible apply ExtB.get); (· assumption); (· walk_at "ne"); (· walk_at "look")))
local macro_rules | `(tactic| walk_at "ar")=>`(tactic| first | decide | lia | assumption | (simp only [Ë,ē]; decide))
local macro_rules | `(tactic| walk_at "mul")=>`(tactic| first | exact .inl (.inr<|by lia) | exact .inl (.inl<|by lia) | exact .inr ⟨by decide,by decide⟩)
local macro_rules | `(tactic| walk_at "setl")=>`(tactic| first | (simp only [ő,ψ,Ι,ĵ,List.foldl_nil,Ϯ,ϯ]; done) | (simp only [ő,ψ,Ι,ĵ,List.foldl_nil,Ϯ,ϯ]; exact rfl) | exact rfl)
local macro_rules | `(tactic| walk_at "w")=>`(tactic| with_reducible conv=>whnf)
local macro_rules | `(tactic| walk_at "py1")=>do
 let a<-[`dw0,`b_add,`b_sub,`g_int,`g_bl,`g_ref,`g_tbl,`c_lt,`c_gt,`c_le,`c_eqI,`c_neI,`c_isN,`c_notN,`ag_add,`ln_scr,`ln_tup,`in_bl,`mn2,`mx2,`sl_scr,`it_tup].toArray.mapM λn=>`(tactic| refine $(Lean.mkIdent n) ?_)
 let c<-[`ln_lst,`tp_lst,`ls_lst,`sl_lst,`it_lst,`dc_of].toArray.mapM λn=>`(tactic| ((with_reducible apply $(Lean.mkIdent n)); (· walk_at "look")))
 `(tactic| first
 |(with_reducible first $[| $a:tactic]*)
 |((with_reducible apply Pz);(· exact rfl))
 |((with_reducible apply LA);(· walk_at "setl"))|((with_reducible apply L3);(· (simp only[bindL,Ϯ,ϯ];exact rfl)))|((with_reducible apply b_mul);(· walk_at "mul"))|((with_reducible apply b_fdiv);(· walk_at "ar"))|((with_reducible apply b_mod);(· walk_at "ar"))|((with_reducible apply LH);(· walk_at "ar");(· simp only[Int.reduceToNat,Int.reducePow];exact rfl))|((with_reducible apply BM);(· walk_at "look");(· walk_at "look");(· first|(simp only[ao,List.nil_append,Ë,ē];decide)|lia))|((with_reducible apply LG);(· walk_at "ar"))
 |((with_reducible apply fj);(· exact rfl))|((with_reducible apply ZZ);(· walk_at "look");(· exact rfl))
 |((with_reducible apply II);(· walk_at "look");(· exact rfl))|((with_reducible apply Yl);(· walk_at "look");(· walk_at "ar"))|((with_reducible apply HF);(· walk_at "look");(· exact rfl))|((with_reducible apply LB);(· walk_at "look");(· exact rfl))
 |((with_reducible apply P0);(· exact rfl))|((with_reducible apply fZ);(· decide))
 | ((with_reducible apply IU);(· first | exact .inl rfl | exact .inr (.inl rfl) | simp);(· walk_at "look")) | ((with_reducible apply LO);(· first | exact rfl | simp);(· walk_at "look")) | ((with_reducible apply Ys);(· walk_at "look");(· walk_at "ar")) | (first $[| $c:tactic]*))
local macro_rules | `(tactic| fail)=>`(tactic| ((repeat walk_at "py1"); walk_at "w"))
local macro_rules | `(tactic| walk_at "p")=>`(tactic| ((repeat first | walk_at "py1" | refine f6 rfl ?_ | refine f7 rfl ?_); walk_at "w"))
local macro_rules | `(tactic| exists $e)=>`(tactic| (fail; refine $e ?_))
local macro_rules | `(tactic| refine' $e)=>`(tactic| (fail; refine $e))
section
variable {α:Type}(val:α->Val)
abbrev Zl(kvs:List<|Int×α):List<|Val×Val:=kvs.map λp=>(.int p.1,val p.2)
abbrev Zx(kvs:List<|Int×α)(k:Int)(v:α):List<|Int×α:=if(kvs.lookup k).isSome then kvs.map (λp=>if p.1=k then(k,v)else p)else kvs++[(k,v)]
abbrev Zv(kvs:List<|Int×α)(k:Int):List<|Int×α:=kvs.filter λp=>gK (p.1≠k)
variable {val}
def WT(a b:Int):(Val.int a==Val.int b)=gK (a=b):=by
 by_cases e:a=b
 .subst e;simp
 .rw[gF e];exact beq_eq_false_iff_ne.mpr λz=>e (by injection z)
def Z5(kvs:List<|Int×α)(k:Int):fG (Zl val kvs) (.int k)=(kvs.lookup k).map val:=by
 induction kvs with
 |nil=>rfl
 |cons p r ih =>
  unfold fG Zl at ih ⊢;rw[Ï,ě,ñ,WT];by_cases e:p.1=k
  .have:(k==p.1)=fb:=by simp[e]
   simp[e]
  .have h2:(k==p.1)=fc:=by simpa using λz=>e z.symm
   rw[gF e,h2];exact ih
def YS(kvs:List<|Int×α)(k:Int):fH (Zl val kvs) (.int k)=(kvs.lookup k).isSome:=by
 induction kvs with
 |nil=>rfl
 |cons p r ih =>
  unfold fH Zl at ih ⊢;rw[Ï,ļ,ñ,WT];by_cases e:p.1=k
  .simp[e]
  .have h2:(k==p.1)=fc:=by simpa using λz=>e z.symm
   rw[gF e,h2];exact ih
def Z2(kvs:List<|Int×α)(k:Int)(v:α):fI (Zl val kvs) (.int k) (val v)=Zl val (Zx kvs k v):=by
 unfold fI Zx;rw[YS];split
 .unfold Zl;rw[ý,ý];refine ħ λp _=>?_;simp only[bW,WT];by_cases e:p.1=k
  .simp[e]
  .simp[e]
 .unfold Zl;rw[ã];rfl
def Wd(kvs:List<|Int×α)(k:Int):fJ (Zl val kvs) (.int k)=Zl val (Zv kvs k):=by
 unfold fJ Zv Zl;induction kvs with
 |nil=>rfl
 |cons p r ih =>rw[Ï,į,į,WT,ih];by_cases e:p.1=k<;>simp[e]
def XJ(ns:List Int):fk (ns.map Val.int)=eY ns:=by
 induction ns with
 |nil=>rfl
 |cons n ns ih=>show(fk<|ns.map Val.int).map _=_;rw[ih];rfl
def Cy(kvs:List<|Int×α):keysOf (Zl val kvs)=eY (kvs.map (·.1)):=by unfold keysOf Zl;rw[ý];exact(congrArg fk (ý (f:=λp:Int×α=>p.1) (g:=Val.int) (l:=kvs)).symm).trans (XJ _)
def J6(kvs:List<|Int×α):(Zl val kvs).length=kvs.length:=by unfold Zl;rw[Ã]
variable {kvs:List (Int×α)}
def Zy{k:Int}{v:α}(h:kvs.lookup k=eY v):(k,v)∈kvs:=by
 induction kvs with
 |nil=>cases h
 |cons p r ih =>
  rw[ñ]at h;by_cases e:k=p.1
  .have:(k==p.1)=fb:=by simp[e]
   rw[this]at h;cases h;rw[e];exact î
  .have:(k==p.1)=fc:=by simpa using e
   rw[this]at h;exact Þ _<|ih h
def ZG{k:Int}(h:k∈kvs.map (·.1)):∃v,kvs.lookup k=eY v:=by
 induction kvs with
 |nil=>cases h
 |cons p r ih =>
  rw[ñ];by_cases e:k=p.1
  .have:(k==p.1)=fb:=by simp[e]
   rw[this];exact⟨_,rfl⟩
  .have:(k==p.1)=fc:=by simpa using e
   rw[this];rw[Ï,Ç]at h;exact ih<|h.resolve_left e
def Xn{k:Int}(h:kvs.lookup k=eZ):k∉kvs.map (·.1):=λm=>by obtain⟨v,e⟩:=ZG m;rw[h]at e;cases e
def WM(nd:(kvs.map (·.1)).Nodup){k:Int}{v:α}(h:(k,v)∈kvs):kvs.lookup k=eY v:=by
 induction kvs with
 |nil=>cases h
 |cons p r ih =>
  rw[Ï,ć]at nd;rw[ñ];rcases Ç.mp h with e|h
  .subst e;simp
  .have:k≠p.1:=λz=>nd.1 (z▸ā (f:=(·.1)) h);have:(k==p.1)=fc:=by simpa using this
   rw[this];exact ih nd.2 h
def JE(kvs:List<|Int×α)(k:Int)(v:α):(Zx kvs k v).map (·.1)=if(kvs.lookup k).isSome then kvs.map (·.1)else kvs.map (·.1)++[k]:=by
 unfold Zx;split
 .rw[ý];refine ħ λp _=>?_;simp only[bW];by_cases e:p.1=k<;>simp[e]
 .rw[ã];rfl
def XO{k:Int}(v:α)(h:k∉kvs.map (·.1)):Zx kvs k v=kvs++[(k,v)]:=by
 unfold Zx;have:kvs.lookup k=eZ:=by
  cases e:kvs.lookup k with
  |none=>rfl
  |some w=>exact gJ (ā (f:=(·.1))<|Zy e) h
 rw[this];rfl
def Wk(nd:(kvs.map (·.1)).Nodup)(k:Int)(v:α):((Zx kvs k v).map (·.1)).Nodup:=by
 rw[JE];split
 .exact nd
 .rename_i h;have h:kvs.lookup k=eZ:=ai.mp h;rw[ç];refine⟨nd,by simp,λa ha b hb=>?_⟩;rw[à.mp hb];exact λe=>Xn h<|e▸ha
variable {p:Int×α}
def WH{k:Int}{v:α}(h:p∈Zx kvs k v):p=(k,v)\/p∈kvs:=by
 unfold Zx at h;split at h
 .obtain⟨q,hq,e⟩:=Ü.mp h;split at e
  .exact .inl e.symm
  .exact .inr<|e▸hq
 .rcases å.mp h with h|h
  .exact .inr h
  .exact .inl<|à.mp h
def Nk(kvs:List<|Int×α)(k:Int):(Zv kvs k).Sublist kvs:=ŧ
def YG(nd:(kvs.map (·.1)).Nodup)(k:Int):((Zv kvs k).map (·.1)).Nodup:=nd.sublist ((Nk kvs k).map _)
def Fj{k:Int}(h:p∈Zv kvs k):p.1≠k:=by unfold Zv at h;have:=(ę.mp h).2;simpa using this
end
def Z3:∀{m:Nat}{ns:List Int},ns.Nodup->(∀x∈ns,0<=x/\x<m)->ns.length<=m
 |0,ns,nd,h=>by
  cases ns with
  |nil=>exact Ì _
  |cons x xs=>have:=h x î;lia
 |m+1,ns,nd,h=>by
  by_cases hm:(m:Int)∈ns
  .have:=Z3 (m:=m) (nd.erase (m:Int)) λx hx=>by
    have h1:=(nd.mem_erase_iff).mp hx;have h2:=h x h1.2;have:=h1.1;lia
   rw[bP hm]at this;lia
  .have:=Z3 (m:=m) nd λx hx=>by
    have h2:=h x hx;have:x≠(m:Int):=λe=>hm<|e▸hx;lia
   lia
noncomputable abbrev Pi:=Int×Int
noncomputable abbrev pV(p:Pi):Val:=.tup [.int p.1,.int p.2]
abbrev oV:Option Pi->Val
 |none=>.non
 |some p=>pV p
structure L where
 num:Pi
 st:Pi
 root:Int
 cost:Int
 age:Int
 rests:Option Pi
 agrees:Option Pi
noncomputable abbrev L.v(l:L):Val:=.tup [pV l.num,pV l.st,.int l.root,.int l.cost,.int l.age,oV l.rests,oV l.agrees]
noncomputable abbrev AB(t:Int×Int):Val:=.tup [.int t.1,.int t.2]
noncomputable abbrev hdV(t:L×Int):Val:=.tup [t.1.v,.int t.2]
structure Lab where
 root:Int
 cost:Int
 up:Option<|Int×Pi
 deriving DecidableEq
abbrev upV:Option (Int×Pi)->Val
 |none=>.non
 |some p=>.int p.1
abbrev rsV:Option (Int×Pi)->Val
 |none=>.non
 |some p=>pV p.2
noncomputable abbrev Lab.v(l:Lab):Val:=.tup [.int l.root,.int l.cost,upV l.up,rsV l.up]
structure Br where
 number:Int
 life:Int
 most:Int
 ties:List<|Int×(Int×Int)
 held:List<|Int×(L×Int)
 label:Lab
 version:Int
 count:Int
abbrev Br.fs(B:Br)(t d:Ad):List<|String×Val:=[("number",.int B.number),("life",.int B.life),("age_let_go",.int B.most),("ties_by_place",.ref t),("held_by_place",.ref d),("label_now",B.label.v),("version",.int B.version),("ticks_had",.int B.count)]
structure fq(h:Hs)(b t d:Ad)(B:Br):Prop where
 ins:h b=eY (.ins "Bridge" [("number",.int B.number),("life",.int B.life),("age_let_go",.int B.most),("ties_by_place",.ref t),("held_by_place",.ref d),("label_now",B.label.v),("version",.int B.version),("ticks_had",.int B.count)])
 ties:h t=eY (.dct<|Zl AB B.ties)
 held:h d=eY (.dct<|Zl hdV B.held)
 ne:t≠d
variable {h:Hs} {b:Ad} {o:Ob}
def Cw{a:Ad}{u:Ob}(ha:h a=eY o)(hb:h b=eY u)(ne:o≠u):a≠b:=λe=>by subst e;rw[ha]at hb;exact ne (æ hb)
variable {d:Ad} {B:Br}
def fq.nbt{t:Ad}(x:fq h b t d B):b≠t:=Cw x.ins x.ties nofun
def fq.nbd{t:Ad}(x:fq h b t d B):b≠d:=Cw x.ins x.held nofun
structure Ex(S:List Ad)(h g:Hs):Prop where
 get:∀{a:Ad}{o:Ob},a∉S->h a=eY o->g a=eY o
def Ex.refl{S:List Ad}:Ex S h h:=⟨λ_ e=>e⟩
variable {g:Hs}
def Ex.trans{k:Hs}{S:List Ad}(e:Ex S h g)(f:Ex S g k):Ex S h k:=⟨λn x=>f.get n<|e.get n x⟩
def Ex.of{S:List Ad}(e:Ext h g):Ex S h g:=⟨λ_ x=>e.get x⟩
variable {w:Ad}
def Ex.upd{S:List Ad}(m:w∈S):Ex S h<|upd h w o:=⟨λ{a _} n x=>by rw[fe λe:a=w=>n<|by rw[e];exact m];exact x⟩
def Ex.sub{S T:List Ad}(e:Ex S h g)(m:∀a∈S,a∈T):Ex T h g:=⟨λn x=>e.get (λz=>n<|m _ z) x⟩
def Ex.ext(e:Ex [] h g):Ext h g:=⟨λx=>e.get (by simp) x⟩
variable {p:Ad}
def Ex.none(e:Ex [b] h g)(hb:g b≠eZ)(hp:g p=eZ):h p=eZ:=by
 cases z:h p with
 |none=>rfl
 |some o =>
  by_cases hpb:p=b
  .subst hpb;exact gJ hp hb
  .rw[e.get (by simpa using hpb) z]at hp;cases hp
def Ex.ofB{S:List Ad}(e:ExtB w h g)(m:w∈S):Ex S h g:=⟨λn x=>e.get (λz=>n<|z▸m) x⟩
def fq.keep{t:Ad}{S:List Ad}(x:fq h b t d B)(e:Ex S h g)(hb:b∉S)(ht:t∉S)(hd:d∉S):fq g b t d B:=⟨e.get hb x.ins,e.get ht x.ties,e.get hd x.held,x.ne⟩
def fq.ext{t:Ad}(x:fq h b t d B)(e:Ext h g):fq g b t d B:=⟨e.get x.ins,e.get x.ties,e.get x.held,x.ne⟩
def nw{Q:Q1}(q:∀p,h p=eZ->Q (.ref p) (upd h p o)):new h o Q:=Xf q
abbrev ZP(most:Int)(held:List<|Int×(L×Int)):List<|Int×(L×Int):=held.filterMap λp=>if p.2.2+1<most then eY (p.1,(p.2.1,p.2.2+1))else eZ
variable {most:Int}
def AQ{held:List (Int×(L×Int))}{p:Int×(L×Int)}(h:p∈ZP most held):∃a,(p.1,(p.2.1,a))∈held:=by
 obtain⟨q,hq,e⟩:=χ.mp h;split at e
 .cases e;exact⟨_,hq⟩
 .cases e
def JM(most:Int)(held:List<|Int×(L×Int)):((ZP most held).map (·.1)).Sublist (held.map (·.1)):=by
 unfold ZP;induction held with
 |nil=>exact Ũ _
 |cons p r ih =>
  rw[ė];split
  .exact ih.cons _
  .rename_i q e;split at e
   .cases e;exact ih.cons₂ _
   .cases e
def Ac(most:Int)(held:List<|Int×(L×Int)):(ZP most held).length<=held.length:=bJ _ _
def YI{α β:Type}{f:α->β}:∀{xs:List α}{i:Nat}{q:α},(xs.map f).Nodup->xs[i]?=eY q->f q∉(xs.take i).map f
 |[],_,_,_,h=>by simp at h
 |x::xs,0,_,_,_=>by simp
 |x::xs,i+1,q,nd,h=>by
  rw[Ï,ć]at nd;have h:xs[i]?=eY q:=by simpa using h
  rw[Ϩ,Ï,Ç,not_or];exact⟨λe=>nd.1<|e▸ā (õ h),YI nd.2 h⟩
variable {α:Type} {xs:List α} {i:Nat} {x:α}
def Zp(h:xs[i]?=eY x):xs.take (i+1)=xs.take i++[x]:=by rw[Ŷ,h];rfl
def ZY{f:α->Val}{v:Val}(h:(xs.map f)[i]?=eY v):∃x,xs[i]?=eY x/\v=f x:=by rw[Ú]at h;obtain⟨x,h1,h2⟩:=Î.mp h;exact⟨x,h1,h2.symm⟩
variable {kvs:List (Int×α)}
def NU{val:α->Val}{v:Val}(h:((Zl val kvs).map<|itemOf fc)[i]?=eY v):∃p,kvs[i]?=eY p/\v=.tup [.int p.1,val p.2]:=by obtain⟨q,h1,rfl⟩:=ZY h;unfold Zl at h1;rw[Ú]at h1;obtain⟨x,h2,rfl⟩:=Î.mp h1;exact⟨x,h2,rfl⟩
def GV{val:α->Val}(kvs:List<|Int×α):((Zl val kvs).map<|itemOf fc).length=kvs.length:=by rw[Ã,J6]
variable {P:Pg} [Al P] {n:Nat}{h:Hs}{w b t d st a f tt hh:Ad}{S B:Br}{c:Int}{all:List (Int×Int)}{ps:List Int}{Q:Q1}{X:XQ}
def CG(x:fq h b t d B)(k:Q B.label.v h):wF P (n+1) "Bridge.label" [.ref b] h Q X:=by obtain⟨hi,ht,hd,ű⟩:=x;refine Jm ?_;refine' k
def XZ(x:fq h b t d B)(k:Q (pV (B.life,B.version)) h):wF P (n+1) "Bridge.stamp" [.ref b] h Q X:=by obtain⟨hi,ht,hd,ű⟩:=x;refine JT ?_;refine' k
abbrev hdO:Option (L×Int)->Val
 |none=>.non
 |some p=>hdV p
def MB{p:Int}(x:fq h b t d B)(k:Q (hdO<|B.held.lookup p) h):wF P (n+1) "Bridge.held" [.ref b,.int p] h Q X:=by
 obtain⟨hi,ht,hd,ű⟩:=x;refine J7 ?_
 exists HK (v:=.int p) hd rfl
 rw[Z5];cases e:B.held.lookup p with
 |none=>rw[e]at k;exact k
 |some q=>rw[e]at k;exact k
def FS(x:fq h b t d B)(nd:(B.held.map (·.1)).Nodup)(hl:B.held.length<1000)(k:∀d' g,h d'=eZ->fq g b t d' {B with held:=ZP B.most B.held}->Ex [b] h g->Q .non g):wF P (n+1) "Bridge.let_grow_older" [.ref b] h Q X:=by
 obtain⟨hi,ht,hd,ű⟩:=id x;refine Yp ?_;fail;intro p hp;have npd:=Za hd hp;have npb:=Za hi hp;have npt:=Za ht hp;have nbd:=x.nbd;refine' Zr (λi e g=>Sm2 λu v=>Cj4 (e=[eY<|.ref b,eY<|.ref p,u,v]) (g p=eY (.dct<|Zl hdV<|ZP B.most<|B.held.take i)) (g d=eY (.frz<|Zl hdV B.held))<|Ex [d] h g) ⟨eZ,eZ,rfl,by rw[fe npd.symm];exact ff,ff,?_⟩ ?_ ?_ ?_
 .exact⟨λm e=>by rw[fe λz=>m<|by simp[z],fe<|Za e hp];exact e⟩
 .rintro i e g ee ⟨u,v,rfl,h1,h2,h3⟩;exact h2
 .rintro i v e g hv ⟨u,w,rfl,h1,h2,h3⟩ K hK;obtain⟨q,hq,rfl⟩:=NU hv;have hi1:=h3.get (by simpa using nbd) hi;obtain⟨pl,l,a⟩:=q;have e1:ZP B.most (B.held.take<|i+1)=ZP B.most (B.held.take i)++ZP B.most [(pl,(l,a))]:=by
   unfold ZP;rw[Zp hq,List.filterMap_append]
  refine' f8 (λhc=>?_) (λhc=>?_)
  .refine' Yz (k:=.int pl) h1 ⟨rfl,?_⟩ ?_
   .rw[J6];have h5:=Ac B.most<|B.held.take i;have h6:(B.held.take i).length<=B.held.length:=Ϟ _ _;exact Û (ß h5 h6) (Ŗ hl<|by decide)
   fail;rw[show Val.tup [l.v,.int<|a+1]=hdV (l,a+1) from rfl,Z2];refine hK _ _ ⟨_,_,rfl,?_,?_,?_⟩
   .rw[ff,e1,XO]
    .unfold ZP;rw[ė,gD hc];rfl
    .exact λm=>YI nd hq<|(JM _ _).subset m
   .rw[fe npd];exact h2
   .exact⟨λm e=>by rw[fe<|Za e hp];exact h3.get m e⟩
  .refine' hK _ _ ⟨_,_,rfl,?_,h2,h3⟩;rw[h1,e1];unfold ZP;rw[ė,gE hc];simp
 .rintro e g ⟨u,v,rfl,h1,h2,h3⟩;have hi1:=h3.get (by simpa using nbd) hi;rw[GV,ø]at h1;refine⟨h2,?_⟩;refine' k p _ hp ⟨ff,?_,?_,npt⟩ ?_
  .rw[fe x.nbt.symm,fe ű];exact h3.get (by simpa using ű) ht
  .rw[fe npb.symm,fe npd.symm];exact h1
  .refine⟨λ{c o} m e=>?_⟩;rw[fe<|by simpa using m];by_cases aL:c=d
   .subst aL;rw[ff,<-e];exact hd.symm
   .rw[fe aL];exact h3.get (by simpa using aL) e
def Gu(x:α)(xs:List α):atI (x::xs) 0=eY x:=by unfold atI ixN;rw[gD (by decide),gD<|by simp];rfl
abbrev XM(r:List Int):Val:=.tup<|r.map .int
def Bh(Ė:List<|List Int):rowsOf (Ė.map XM)=eY Ė:=by
 induction Ė with
 |nil=>rfl
 |cons r rs ih =>show(fk<|r.map .int).bind (λns=>(rowsOf<|rs.map XM).map (ns :: ·))=_;rw[XJ,ih];rfl
abbrev YK(number:Int)(Ė:List<|List Int):Option<|List Int:=match Ė.filter (λr=>gK (r.headD 0<number))with
 |[]=>eZ
 |x::r=>eY<|minR x r
abbrev Ey:Option (List Int)->Val
 |none=>.non
 |some r=>XM r
def M5:∀(r:List<|List Int) (x:List Int),minR x r∈x::r
 |[],x=>î
 |y::r,x=>by
  show minR (if fQ y x then y else x) r∈x::y::r;have h:=M5 r (if fQ y x then y else x);rcases Ç.mp h with e|h
  .rw[e];split
   .simp
   .simp
  .simp[h]
variable {number:Int} {Ė:List (List Int)}
def NE{m:List Int}(h:YK number Ė=eY m):m∈Ė:=by
 unfold YK at h;split at h
 .cases h
 .rename_i x r e;cases h;have:minR x r∈Ė.filter (λr=>gK (r.headD 0<number)):=by rw[e];exact M5 r x
  exact(ę.mp this).1
variable {l:Ad}
def EA(hl:h l=eY (.lst<|Ė.map XM))(h0:∀r∈Ė,r≠[])(hn:Ė.length<1000)(k:∀g,Ext h g->Q (Ey<|YK number Ė) g):wF P (n+1) "best_offer" [.int number,.ref l] h Q X:=by
 refine MA ?_;refine' ⟨by rw[Ã];exact Ŗ hn (by decide),?_⟩;refine Yr (λv=>match v with|.tup (.int i::xs)=>if i<number then eY v else eZ|_=>eZ) (lsE hl) ?_ ?_
 .intro v hv K hK;obtain⟨r,hr,rfl⟩:=Ü.mp hv;cases r with
  |nil=>exact gJ rfl<|h0 _ hr
  |cons i xs =>
   have hK:K (if i<number then eY (XM<|i::xs)else eZ) h:=hK;rw[show XM (i::xs)=.tup (.int i::xs.map .int) from rfl]at hK ⊢
   exists fj (Gu _ _)
   refine' f8 (λhc=>?_) (λhc=>?_)
   .rw[gD hc]at hK;refine' hK
   .rw[gE hc]at hK;exact hK
 .refine Xf λp hp=>?_;fail;have e1:(Ė.map XM).filterMap (λv=>match v with|.tup (.int i::xs)=>if i<number then eY v else eZ|_=>eZ)=(Ė.filter λr=>gK (r.headD 0<number)).map XM:=by
   clear hl k hn;induction Ė with
   |nil=>rfl
   |cons r rs ih =>
    have ih:=ih λr hr=>h0 r<|Þ _ hr;cases r with
    |nil=>exact gJ rfl<|h0 _ î
    |cons i xs =>
     rw[Ï,ė,į];by_cases hc:i<number
     .simp only[XM,Ï,gD hc,List.headD_cons,hc,decide_true,if_true]at ih ⊢;rw[ih]
     .simp only[XM,Ï,gE hc,List.headD_cons,hc,decide_false,Į,if_false]at ih ⊢;rw[ih]
  rw[e1];have hx:Ext h<|upd h p<|.lst<|(Ė.filter λr=>gK (r.headD 0<number)).map XM:=Ext.new hp;cases e2:Ė.filter λr=>gK (r.headD 0<number)with
  |nil =>rw[e2]at hx;refine IT ff ?_;have:=k _ hx;unfold YK at this;rw[e2]at this;exact this
  |cons x r =>rw[e2]at hx;refine EY ff (Bh<|x::r) ?_;have:=k _ hx;unfold YK at this;rw[e2]at this;exact this
abbrev M4(ties:List<|Int×(Int×Int))(p:Int):Int×Int:=(ties.lookup p).getD (0,0)
abbrev Mi(ties:List<|Int×(Int×Int))(q:Int×(L×Int)):List Int:=[q.2.1.root,q.2.1.cost+(M4 ties q.1).2,(M4 ties q.1).1,q.1]
abbrev K0(ties:List<|Int×(Int×Int))(held:List<|Int×(L×Int)):List<|List Int:=held.map<|Mi ties
abbrev EG(held:List<|Int×(L×Int))(p:Int):Pi:=((held.lookup p).map (·.1.st)).getD (0,0)
abbrev Ym(B:Br):Lab:=match YK B.number (K0 B.ties B.held)with
 |none=>⟨B.number,0,eZ⟩
 |some m=>⟨m.getD 0 0,m.getD 1 0,eY (m.getD 3 0,EG B.held<|m.getD 3 0)⟩
def LU{ties:List (Int×(Int×Int))}{p:Int}(h:(ties.lookup p).isSome=fb):ties.lookup p=eY (M4 ties p):=by
 unfold M4;cases e:ties.lookup p with
 |none=>rw[e]at h;cases h
 |some v=>rfl
def Aa(x:fq h b t d B)(sub:∀q∈B.held,(B.ties.lookup q.1).isSome=fb)(hn:B.held.length<1000)(k:∀g,Ext h g->Q (Ym B).v g):wF P (n+2) "Bridge.reckon_label" [.ref b] h Q X:=by
 obtain⟨hi,ht,hd,ű⟩:=id x;refine YV ?_;refine' Xf λp hp=>?_;have npd:=Za hd hp;have npb:=Za hi hp;have npt:=Za ht hp;have nbd:=x.nbd;refine' Zr (λi e g=>Sm4 λu v w z=>Cj4 (e=[eY<|.ref b,eY<|.ref p,u,v,w,z,eZ,eZ]) (g p=eY (.lst<|(K0 B.ties<|B.held.take i).map XM)) (g d=eY (.frz<|Zl hdV B.held))<|Ex [d] h g) ⟨eZ,eZ,eZ,eZ,rfl,by rw[fe npd.symm];exact ff,ff,?_⟩ ?_ ?_ ?_
 .exact⟨λm e=>by rw[fe λz=>m<|by simp[z],fe<|Za e hp];exact e⟩
 .rintro i e g ee ⟨u,v,w,z,rfl,h1,h2,h3⟩;exact h2
 .rintro i v e g hv ⟨u,v,w,z,rfl,h1,h2,h3⟩ K hK;obtain⟨q,hq,rfl⟩:=NU hv;have hi1:=h3.get (by simpa using nbd) hi;have ht1:=h3.get (by simpa using ű) ht;have hs:=LU<|sub q<|õ hq;obtain⟨pl,l,a⟩:=q;generalize htt:M4 B.ties pl=tt at hs;obtain⟨nb,c⟩:=tt;refine' ZN ht1 rfl (by rw[Z5,hs];rfl) ?_;refine' Ys h1 ?_ ?_
  .rw[Ã];unfold K0;rw[Ã];exact Û (Ϟ _ _) (Ŗ hn<|by decide)
  dsimp only;refine' hK _ _ ⟨_,_,_,_,rfl,?_,?_,?_⟩
  .rw[ff,Zp hq];unfold K0 Mi;rw[ã,ã,Ï,htt];rfl
  .rw[fe npd];exact h2
  .exact⟨λm e=>by rw[fe<|Za e hp];exact h3.get m e⟩
 .rintro e g ⟨u,v,w,z,rfl,h1,h2,h3⟩;have hi1:=h3.get (by simpa using nbd) hi;have ee:upd g d (.dct<|Zl hdV B.held) b=_:=upd_ne' nbd hi1;rw[GV,ø]at h1;have h1':upd g d (.dct<|Zl hdV B.held) p=_:=upd_ne' npd.symm h1;have hx:Ext h<|upd g d<|.dct<|Zl hdV B.held:=⟨λ{c o} e=>by
    by_cases aL:c=d
    . subst aL;rw[ff,<-e];exact hd.symm
    . rw[fe aL];exact h3.get (by simpa using aL) e⟩
  have bQ:upd g d (.dct<|Zl hdV B.held) d=_:=ff;refine⟨h2,?_⟩;generalize upd g d (.dct<|Zl hdV B.held)=g2 at ee h1' hx bQ ⊢;refine' EA h1' ?_ ?_ λg3 h3=>?_
  .intro r hr;unfold K0 at hr;obtain⟨q,_,rfl⟩:=Ü.mp hr;unfold Mi;simp
  .unfold K0;rw[Ã];exact hn
  have hi3:=h3.get ee;have hd3:=h3.get bQ;have kk:=k g3<|hx.trans h3;unfold Ym at kk;fail;cases e:YK B.number (K0 B.ties B.held)with
  |none =>rw[e]at kk;simp only[Ey];refine f8 (λhc=>?_) λhc=>gJ trivial hc;refine' kk
  |some m =>rw[e]at kk;have hm:=NE e;unfold K0 at hm;obtain⟨q,hq,rfl⟩:=Ü.mp hm;refine f8 (λhc=>(by simp[Ey,XM]at hc)) λhc=>?_;have hlk:∃y,B.held.lookup q.1=eY y:=ZG (ā (f:=(·.1)) hq);obtain⟨y,hy⟩:=hlk;unfold Mi at kk ⊢;simp only[Ey,XM,Ï,ϋ];refine' ZN hd3 rfl (by rw[Z5,hy];rfl) ?_;fail;unfold EG at kk;simp only[List.getD_cons_succ,List.getD_cons_zero]at kk;rw[hy]at kk;exact kk
abbrev Ge(l:Lab):D:=.tup [.int l.root,.int l.cost,(match l.up with|none=>.non|some p=>.int p.1),(match l.up with|none=>.non|some p=>.tup [.int p.2.1,.int p.2.2])]
def OZ(h:Hs)(l:Lab):dat h deep l.v=eY (Ge l):=by obtain⟨r,c,u⟩:=l;cases u<;>rfl
def La(h:Hs)(l m:Lab):eqV h l.v m.v=eY (gK (l=m)):=by
 unfold eqV;rw[OZ,OZ];show eY (D.eqv (Ge l)<|Ge m)=_;congr 1;obtain⟨r,c,u⟩:=l;obtain⟨r',c',u'⟩:=m;unfold Ge;cases u with
 |none=>cases u' with
  |none=>simp only[D.eqv,D.eqvs,ϫ];by_cases h1:r=r'<;>by_cases h2:c=c'<;>simp[h1,h2]
  |some q=>simp[D.eqv,D.eqvs]
 |some p=>cases u' with
  |none=>simp[D.eqv,D.eqvs]
  |some q =>obtain⟨p1,p2,p3⟩:=p;obtain⟨q1,q2,q3⟩:=q;simp only[D.eqv,D.eqvs,ϫ];by_cases h1:r=r'<;>by_cases h2:c=c'<;>by_cases h3:p1=q1<;>by_cases h4:p2=q2<;>by_cases h5:p3=q3<;>simp[h1,h2,h3,h4,h5]
abbrev taken(B:Br)(l:Lab):Br:=if l=B.label then B else {B with label:=l,version:=B.version+1}
variable {u:Val} {KB:Bool->Prop}
def MZ{v:Val}{c:Bool}(e:eqV h v u=eY c)(q:KB (!c)):go (fz h .ne v u) KB:=fi (by show(eqV h v u).map _=_;rw[e];rfl) q
def NF{v:Val}{c:Bool}(e:eqV h v u=eY c)(q:KB c):go (fz h .eq v u) KB:=fi e q
def Fg{l:Lab}(x:fq h b t d B)(k:∀g,fq g b t d (taken B l)->Ex [b] h g->Q .non g):wF P (n+1) "Bridge.take_label" [.ref b,l.v] h Q X:=by
 obtain⟨hi,ht,hd,ű⟩:=id x;refine Xp ?_
 exists MZ (La h l B.label)
 fail;unfold taken at k;refine OE (λhc=>?_) λhc=>?_
 .rw[gE hc]at k;refine' Yl ff (show(8:Nat)<900 by decide) ?_;refine' k _ ⟨?_,?_,?_,ű⟩ ?_
  .rw[fg,ff];rfl
  .rw[fe x.nbt.symm,fe x.nbt.symm];exact ht
  .rw[fe x.nbd.symm,fe x.nbd.symm];exact hd
  .exact(Ex.upd<|by simp).trans (Ex.upd<|by simp)
 .rw[gD hc]at k;refine' k h x Ex.refl
def Qi(h:Hs)(r:Option Pi)(s:Pi):eqV h (oV r) (pV s)=eY (gK (r=eY s)):=by
 obtain⟨s1,s2⟩:=s;cases r with
 |none =>show eY (D.eqv .non<|.tup [.int s1,.int s2])=_;simp[D.eqv]
 |some p =>obtain⟨p1,p2⟩:=p;show eY (D.eqv (.tup [.int p1,.int p2])<|.tup [.int s1,.int s2])=_;congr 1;simp only[D.eqv,D.eqvs,ϫ];by_cases h1:p1=s1<;>by_cases h2:p2=s2<;>simp[h1,h2]
abbrev Jq(B:Br)(p:Int):Bool:=match B.held.lookup p with
 |none=>fc
 |some q=>gK (q.1.rests=eY (B.life,B.version))
def KR{p:Int}(x:fq h b t d B)(k:Q (.bl<|Jq B p) h):wF P (n+2) "Bridge.is_rested_on" [.ref b,.int p] h Q X:=by
 obtain⟨hi,ht,hd,ű⟩:=id x;refine YU ?_
 exists MB x
 unfold Jq at k;fail;cases e:B.held.lookup p with
 |none =>rw[e]at k;refine OE (λhc=>gJ rfl hc) λhc=>?_;exact k
 |some q =>
  rw[e]at k;obtain⟨l,a⟩:=q;refine OE (λhc=>?_) (λhc=>by simp[hdO]at hc);simp only[hdO]
  exists XZ x
  refine NF (Qi h _ _) ?_;exact k
abbrev Gc(u:Option<|Int×Pi)(p:Int):Bool:=match u with
 |none=>fc
 |some q=>gK (p=q.1)
abbrev JC(B:Br):Int:=match B.label.up with
 |none=>0
 |some q=>((B.held.lookup q.1).map (·.2)).getD 0+1
abbrev Zj(B:Br)(p:Int):L where
 num:=(B.life,B.count)
 st:=(B.life,B.version)
 root:=B.label.root
 cost:=B.label.cost
 age:=JC B
 rests:=if Gc B.label.up p then B.label.up.map (·.2)else eZ
 agrees:=if Gc B.label.up p then eZ else if Jq B p then eY (EG B.held p)else eZ
def GU(h:Hs)(p:Int)(u:Option<|Int×Pi):eqV h (.int p) (upV u)=eY (Gc u p):=by
 cases u with
 |none=>rfl
 |some q =>show eY (D.eqv (.int p)<|.int q.1)=_;rw[Uk];rfl
def FE{p:Int}(x:fq h b t d B)(hu:∀q,B.label.up=eY q->(B.held.lookup q.1).isSome=fb)(k:Q (Zj B p).v h):wF P (n+3) "Bridge.letter_over" [.ref b,.int p] h Q X:=by
 obtain⟨hi,ht,hd,ű⟩:=id x;refine Xi ?_;fail;have main:wSs (wF P<|n+2) #[.ite (.val<|.cmp .eq (.var 1)<|.var 4) #[.ret<|.bin .add (.var 7)<|.tup #[.var 5,.cst .non]] .nil,.ite (.val<|.meth "Bridge" "is_rested_on" (.var 0) #[.var 1]) #[.ret<|.bin .add (.var 7)<|.tup #[.cst .non,.idx (.idx (.idx (.fld (.var 0) "held_by_place")<|.var 1)<|.cst<|.int 0)<|.glob "STAMP"<|.int 1]] .nil,.ret<|.bin .add (.var 7)<|.tup #[.cst .non,.cst .non]]
   [eY<|.ref b,eY<|.int p,eY<|.int B.label.root,eY<|.int B.label.cost,eY<|upV B.label.up,eY<|rsV B.label.up,eY<|.int<|JC B,eY<|.tup [pV (B.life,B.count),pV (B.life,B.version),.int B.label.root,.int B.label.cost,.int<|JC B]] h (λ_ g=>Q .non g) Q (λ_ _=>False) (λ_ _=>False) λ_ c g=>X c g:=by
  exists NF (GU h p B.label.up)
  refine' f9 (λhc=>?_) (λhc=>?_)
  .fail;unfold Zj at k;rw[hc]at k;cases e:B.label.up with
   |none=>rw[e]at hc;cases hc
   |some q=>rw[e]at k;exact k
  .exists KR x
   fail;unfold Zj at k;rw[hc]at k;refine f9 (λhr=>?_) λhr=>?_
   .rw[hr]at k;unfold Jq at hr;cases e:B.held.lookup p with
    |none=>rw[e]at hr;cases hr
    |some q =>obtain⟨l,a⟩:=q;refine' ZN hd rfl (by rw[Z5,e];rfl) ?_;fail;unfold EG at k;rw[e]at k;exact k
   .rw[hr]at k;refine' k
 cases e:B.label.up with
 |none =>
  have ea:JC B=0:=by unfold JC;rw[e]
  rw[e,ea]at main;refine f8 (λhc=>?_) λhc=>gJ rfl hc
  exists XZ x
  walk_at "w"
  repeat (first|exact main|(walk_at "py1";walk_at "w"))
 |some q =>
  obtain⟨y,hy⟩:=û.mp<|hu q e;have ea:JC B=y.2+1:=by unfold JC;rw[e];dsimp only;rw[hy];rfl
  rw[e,ea]at main;refine f8 (λhc=>by cases hc) λhc=>?_;simp only[upV];refine' ZN hd rfl (by rw[Z5,hy];rfl) ?_
  exists XZ x
  walk_at "w"
  repeat (first|exact main|(walk_at "py1";walk_at "w"))
def FQ{q:Int×Pi}(hq:(Ym B).up=eY q):(B.held.lookup q.1).isSome=fb:=by
 unfold Ym at hq;split at hq
 .cases hq
 .rename_i m e;have hm:=NE e;unfold K0 at hm;obtain⟨y,hy,rfl⟩:=Ü.mp hm;cases hq;obtain⟨v,hv⟩:=ZG (ā (f:=(·.1)) hy);show(B.held.lookup y.1).isSome=fb;rw[hv];rfl
abbrev Br.grown(B:Br):Br:={B with held:=ZP B.most B.held}
abbrev Br.told(B:Br):Br:=taken B.grown<|Ym B.grown
abbrev Br.ticked(B:Br):Br:={B.told with count:=B.count+1}
abbrev ZR(B:Br):List Val:=(sortI (B.ties.map (·.1))).map λp=>.tup [.int p,(Zj B p).v]
def YB(B:Br)(l:Lab):(taken B l).held=B.held/\(taken B l).ties=B.ties/\(taken B l).count=B.count/\(taken B l).label=l/\(taken B l).number=B.number/\(taken B l).life=B.life/\(taken B l).most=B.most:=by
 unfold taken;split
 .rename_i e;exact⟨rfl,rfl,rfl,e.symm,rfl,rfl,rfl⟩
 .exact⟨rfl,rfl,rfl,rfl,rfl,rfl,rfl⟩
structure Br.ok(B:Br):Prop where
 nd:(B.held.map (·.1)).Nodup
 sub:∀q∈B.held,(B.ties.lookup q.1).isSome=fb
 nt:(B.ties.map (·.1)).Nodup
 rg:∀q∈B.ties,0<=q.1/\q.1<16
def Br.ok.tlen(o:B.ok):B.ties.length<=16:=by
 have:=Z3 (m:=16) o.nt λx hx=>by obtain⟨q,hq,rfl⟩:=Ü.mp hx;exact o.rg q hq
 simpa using this
def Br.ok.hlen(o:B.ok):B.held.length<=16:=by
 have:=Z3 (m:=16) o.nd λx hx=>by obtain⟨q,hq,rfl⟩:=Ü.mp hx;obtain⟨v,hv⟩:=û.mp<|o.sub q hq;exact o.rg _<|Zy hv
 simpa using this
def Br.ok.grown(o:B.ok):B.grown.ok where
 nd:=o.nd.sublist<|JM _ _
 sub:=λq hq=>by obtain⟨a,ha⟩:=AQ hq;exact o.sub (q.1,(q.2.1,a)) ha
 nt:=o.nt
 rg:=o.rg
def Br.ok.told(o:B.ok):B.told.ok:=by
 obtain⟨h1,h2,_⟩:=YB B.grown<|Ym B.grown;have g:=o.grown;refine⟨?_,?_,?_,?_⟩
 .show((taken B.grown<|Ym B.grown).held.map (·.1)).Nodup;rw[h1];exact g.nd
 .show ∀q∈(taken B.grown<|Ym B.grown).held,((taken B.grown<|Ym B.grown).ties.lookup q.1).isSome=fb;rw[h1,h2];exact g.sub
 .show((taken B.grown<|Ym B.grown).ties.map (·.1)).Nodup;rw[h2];exact g.nt
 .show ∀q∈(taken B.grown<|Ym B.grown).ties,_;rw[h2];exact g.rg
def Br.ok.ticked(o:B.ok):B.ticked.ok:=⟨o.told.nd,o.told.sub,o.told.nt,o.told.rg⟩
def Fi(x:fq h b t d B)(o:B.ok)(k:∀p d' g,h p=eZ->h d'=eZ->fq g b t d' B.ticked->g p=eY (.lst<|ZR B.told)->Ex [b] h g->p≠d'->Q (.ref p) g):wF P (n+4) "Bridge.tick" [.ref b] h Q X:=by
 obtain⟨hi,ht,hd,ű⟩:=id x;have hlen:=o.hlen;refine JW ?_;refine' FS x o.nd (by lia) λd' g hd' x1 e1=>?_;obtain⟨hi1,ht1,hd1,hne1⟩:=id x1;have og:=o.grown;have x1':fq g b t d' B.grown:=x1;refine' Aa x1' og.sub (by have:=og.hlen;lia) λg2 e2=>?_;have x2:=x1'.ext e2;refine' Fg x2 λg3 x3 e3=>?_;obtain⟨hi3,ht3,hd3,hne3⟩:=id x3;obtain⟨c1,c2,c3,c4,c5,c6,c7⟩:=YB B.grown<|Ym B.grown;have hties:B.told.ties=B.ties:=c2;refine' N8 ht3 (Cy _) ?_ (Xf λp1 cr=>?_)
 .rw[Ã];have:=o.tlen;show B.told.ties.length<64;rw[hties];lia
 refine' ⟨?_,?_⟩
 .rw[Ã,sortI,ř,Ã];have:=o.tlen;show B.told.ties.length<lim;rw[hties];exact Û this (by decide)
 have x4:=x3.ext (Ext.new (o:=.lst ((sortI ((taken B.grown<|Ym B.grown).ties.map (·.1))).map Val.int)) cr);have up:∀q,(taken B.grown<|Ym B.grown).label.up=eY q->((taken B.grown<|Ym B.grown).held.lookup q.1).isSome=fb:=λq hq=>by rw[c4]at hq;rw[c1];exact FQ hq
 refine Yr (λv=>match v with|.int i=>eY (.tup [.int i,(Zj B.told i).v])|_=>eZ) (lsE ff) ?_ ?_
 .intro v hv K hK;obtain⟨i,hi,rfl⟩:=Ü.mp hv;obtain⟨hi4,ht4,hd4,hne4⟩:=id x4;fail;rw[gD rfl];change wE _ _ [eY<|.int i,eY<|.ref b] _ _ _
  exists FE x4 up
  refine' hK
 .refine Xf λp hp=>?_;have x5:=x4.ext<|Ext.new (o:=.lst<|ZR B.told) hp;have e0:((sortI ((taken B.grown<|Ym B.grown).ties.map (·.1))).map Val.int).filterMap (λv=>match v with|.int i=>eY (.tup [.int i,(Zj B.told i).v])|_=>eZ)=ZR B.told:=by
   rw[Ϭ];unfold ZR;exact congrFun (List.filterMap_eq_map (f:=λi:Int=>Val.tup [.int i,(Zj B.told i).v])) _
  rw[e0];obtain⟨hi5,ht5,hd5,hne5⟩:=id x5;fail;have c3':(taken B.grown<|Ym B.grown).count=B.count:=c3;rw[c3'];have eg:Ex [b] h (upd g3 p1 (.lst ((sortI ((taken B.grown<|Ym B.grown).ties.map (·.1))).map Val.int))):=((e1.trans<|.of e2).trans e3).trans<|.of<|Ext.new cr;have hpn:h p=eZ:=eg.none (by rw[x4.ins];intro z;cases z) hp;have npb:b≠p:=Za x4.ins hp;refine k p d' _ hpn hd' ⟨ff,?_,?_,x5.ne⟩ ?_ ?_ (Za x4.held hp).symm
  .rw[fe x5.nbt.symm];exact x5.ties
  .rw[fe x5.nbd.symm];exact x5.held
  .rw[fe npb.symm];exact ff
  .exact(eg.trans<|.of<|Ext.new hp).trans (Ex.upd<|by simp)
abbrev JO(S:Br)(p:Int)(l:L):Bool:=match S.held.lookup p with
 |none=>fb
 |some q=>fQ [q.1.num.1,q.1.num.2] [l.num.1,l.num.2]
abbrev Z0(S:Br)(p:Int)(l:L):Br:=if(S.ties.lookup p).isSome then(if JO S p l then {S with held:=Zx S.held p (l,l.age)} else S)else S
abbrev Dz(S:Br)(p:Int):Br:={S with ties:=Zv S.ties p,held:=Zv S.held p}
abbrev upB(S:Br)(p:Int)(c:Int×Int):Br:=if(S.ties.lookup p).isSome then S else {S with ties:=Zx S.ties p c}
variable {q:Int}
def D0{k:Int}{v:α}:(kvs.lookup q).isSome=fb->((Zx kvs k v).lookup q).isSome=fb:=λh=>by
 obtain⟨x,hx⟩:=û.mp h;have hm:q∈kvs.map (·.1):=ā (f:=(·.1))<|Zy hx;have:q∈(Zx kvs k v).map (·.1):=by
  rw[JE];split
  .exact hm
  .exact Ö _ hm
 obtain⟨y,hy⟩:=ZG this;rw[hy];rfl
def Br.ok.heard(o:S.ok){p:Int}{l:L}:(Z0 S p l).ok:=by
 unfold Z0;split
 .rename_i h1;split
  .refine⟨Wk o.nd _ _,λq hq=>?_,o.nt,o.rg⟩;rcases WH hq with e|hq
   .rw[e];exact h1
   .exact o.sub q hq
  .exact o
 .exact o
def Yq{k:Int}{q:Int×α}(h:q∈Zv kvs k):q∈kvs:=(Nk kvs k).subset h
def Ae{k:Int}(h:(kvs.lookup q).isSome=fb)(n:q≠k):((Zv kvs k).lookup q).isSome=fb:=by
 obtain⟨x,hx⟩:=û.mp h;have:q∈(Zv kvs k).map (·.1):=by refine Ü.mpr ⟨(q,x),?_,rfl⟩;unfold Zv;exact ę.mpr ⟨Zy hx,by simpa using n⟩
 obtain⟨y,hy⟩:=ZG this;rw[hy];rfl
def Br.ok.down(o:S.ok)(p:Int):(Dz S p).ok :=
 ⟨YG o.nd _,λq hq=>Ae (o.sub q<|Yq hq)<|Fj hq,YG o.nt _,λq hq=>o.rg q<|Yq hq⟩
def Br.ok.up(o:S.ok){p:Int}{c:Int×Int}(h0:0<=p)(h1:p<16):(upB S p c).ok:=by
 unfold upB;split
 .exact o
 .refine⟨o.nd,λq hq=>D0<|o.sub q hq,Wk o.nt _ _,λq hq=>?_⟩;rcases WH hq with e|hq
  .rw[e];exact⟨h0,h1⟩
  .exact o.rg q hq
def Fy{p:Int}{l:L}(x:fq h b t d B)(o:B.ok)(k:∀g,fq g b t d (Z0 B p l)->Ex [d] h g->Q .non g):wF P (n+2) "Bridge.hear" [.ref b,.int p,l.v] h Q X:=by
 obtain⟨hi,ht,hd,ű⟩:=id x;have hlen:=o.hlen;refine Ke ?_
 exists Xs ht rfl
 rw[YS];fail;unfold Z0 at k;cases e:(B.ties.lookup p).isSome with
 |false =>rw[e]at k;refine f6 rfl ?_;refine' k h x Ex.refl
 |true =>
  rw[e,gD rfl]at k;refine f7 rfl ?_
  exists MB x
  have put:(∀g,fq g b t d {B with held:=Zx B.held p (l,l.age)}->Ex [d] h g->Q .non g)->go (fU h (.ref d) (.int p)<|.tup [l.v,.int l.age]) λg=>Q .non g:=λk=>by refine Yz hd ⟨rfl,by rw[J6];exact Û hlen<|by decide⟩ ?_;rw[show Val.tup [l.v,.int l.age]=hdV (l,l.age) from rfl,Z2];exact k _ ⟨by rw[fe x.nbd];exact hi,by rw[fe ű];exact ht,ff,ű⟩ (Ex.upd<|by simp)
  fail;cases e2:B.held.lookup p with
  |none =>
   have et:JO B p l=fb:=by unfold JO;rw[e2]
   rw[et,gD rfl]at k;refine f8 (λhc=>?_) λhc=>gJ rfl hc;refine f6 rfl ?_;refine' UL (put k) λg q=>by fail;exact q
  |some q =>
   obtain⟨m,ag⟩:=q;have et:JO B p l=fQ [m.num.1,m.num.2] [l.num.1,l.num.2]:=by unfold JO;rw[e2]
   rw[et]at k;refine f8 (λhc=>by simp[hdO]at hc) λhc=>?_;simp only[hdO]
   exists Fx
   exists H9 (XJ [l.num.1,l.num.2]) (XJ [m.num.1,m.num.2])
   refine' f9 (λhc=>?_) (λhc=>?_)
   .rw[gD hc]at k;refine' UL (put k) λg q=>by fail;exact q
   .rw[gE<|by rw[hc];decide]at k;refine' k h x Ex.refl
def GI{p:Int}(x:fq h b t d B)(k:∀g,fq g b t d (Dz B p)->Ex [t,d] h g->Q .non g):wF P (n+1) "Bridge.down" [.ref b,.int p] h Q X:=by
 obtain⟨hi,ht,hd,ű⟩:=id x;refine Kf ?_
 exists Ud ht rfl
 dsimp only;rw[Wd];have ee:upd h t (.dct<|Zl AB<|Zv B.ties p) b=_:=upd_ne' x.nbt hi;have bQ:upd h t (.dct<|Zl AB<|Zv B.ties p) d=_:=upd_ne' ű.symm hd
 exists Ud bQ rfl
 dsimp only;rw[Wd];refine' k _ ⟨by rw[fe x.nbd];exact ee,by rw[fe ű];exact ff,ff,ű⟩ ((Ex.upd<|by simp).trans<|Ex.upd<|by simp)
def P9{p nb:Int}(x:fq h b t d B)(o:B.ok)(k:∀g,fq g b t d (upB B p (nb,c))->Ex [t] h g->Q .non g):wF P (n+1) "Bridge.up" [.ref b,.int p,.int nb,.int c] h Q X:=by
 obtain⟨hi,ht,hd,ű⟩:=id x;have hlen:=o.tlen;refine No ?_
 exists Xs ht rfl
 rw[YS];fail;unfold upB at k;cases e:(B.ties.lookup p).isSome with
 |true =>rw[e,gD rfl]at k;refine f7 rfl ?_;refine' k h x Ex.refl
 |false =>rw[e,gE<|by decide]at k;refine f6 rfl ?_;refine' Yz ht ⟨rfl,by rw[J6];exact Û hlen<|by decide⟩ ?_;rw[show Val.tup [.int nb,.int c]=AB (nb,c) from rfl,Z2];refine' k _ ⟨by rw[fe x.nbt];exact hi,ff,by rw[fe ű.symm];exact hd,ű⟩ (Ex.upd<|by simp)
def Rq(h:Hs)(s:Pi)(u:Option<|Int×Pi):eqV h (pV s) (rsV u)=eY (gK (u.map (·.2)=eY s)):=by
 obtain⟨s1,s2⟩:=s;cases u with
 |none =>show eY (D.eqv (.tup [.int s1,.int s2]) .non)=_;simp[D.eqv]
 |some p =>
  obtain⟨p0,p1,p2⟩:=p;show eY (D.eqv (.tup [.int s1,.int s2])<|.tup [.int p1,.int p2])=_;congr 1;simp only[D.eqv,D.eqvs,ϫ,œ];by_cases h1:s1=p1
  .subst h1;by_cases h2:s2=p2
   .subst h2;simp
   .have h3:¬ p2=s2:=λz=>h2 z.symm;simp[h2,h3]
  .have h3:¬ p1=s1:=λz=>h1 z.symm;simp[h1,h3]
abbrev OQ(B:Br)(p:Int):Bool:=match B.held.lookup p with
 |none=>fc
 |some q=>if q.1.agrees=eY (B.life,B.version)then gK (B.label.up.map (·.2)=eY q.1.st)else fc
def Ar{p:Int}(x:fq h b t d B)(k:Q (.bl<|OQ B p) h):wF P (n+2) "Bridge.is_agreed_to" [.ref b,.int p] h Q X:=by
 obtain⟨hi,ht,hd,ű⟩:=id x;refine YT ?_
 exists MB x
 unfold OQ at k;fail;cases e:B.held.lookup p with
 |none =>rw[e]at k;refine f8 (λhc=>?_) λhc=>gJ rfl hc;refine f6 rfl ?_;refine' k
 |some q =>
  rw[e]at k;obtain⟨l,a⟩:=q;refine f8 (λhc=>by simp[hdO]at hc) λhc=>?_;simp only[hdO]
  exists XZ x
  refine MZ (Qi h _ _) ?_;refine' OE (λhc=>?_) (λhc=>?_)
  .fail;rw[show(match eY (l,a)with|none=>fc|some q=>if q.1.agrees=eY (B.life,B.version)then gK (B.label.up.map (·.2)=eY q.1.st)else fc)=fc from gE hc]at k;exact k
  .fail;rw[show(match eY (l,a)with|none=>fc|some q=>if q.1.agrees=eY (B.life,B.version)then gK (B.label.up.map (·.2)=eY q.1.st)else fc)=gK (B.label.up.map (·.2)=eY l.st) from gD hc]at k;refine NF (Rq h _ _) ?_;exact k
abbrev Dx(B:Br)(p:Int):String:=if(B.ties.lookup p).isSome then(if Gc B.label.up p then(if OQ B p then "child" else "shut")else if Jq B p then "parent" else "shut")else "down"
def LD{p:Int}(x:fq h b t d B)(k:Q (.str<|Dx B p) h):wF P (n+3) "Bridge.end" [.ref b,.int p] h Q X:=by
 obtain⟨hi,ht,hd,ű⟩:=id x;refine Mc ?_
 exists Xs ht rfl
 rw[YS];fail;unfold Dx at k;cases e:(B.ties.lookup p).isSome with
 |false =>rw[e]at k;refine f6 rfl ?_;refine' k
 |true =>
  rw[e,gD rfl]at k;refine f7 rfl ?_
  exists NF (GU h p B.label.up)
  refine' f9 (λhc=>?_) (λhc=>?_)
  .rw[hc,gD rfl]at k
   exists Ar x
   refine' f9 (λhc=>?_) (λhc=>?_)
   .rw[hc]at k;refine' k
   .rw[hc]at k;refine' k
  .rw[hc,gE<|by decide]at k
   exists KR x
   refine' f9 (λhc=>?_) (λhc=>?_)
   .rw[hc]at k;refine' k
   .rw[hc]at k;refine' k
def Zg(q:∀p g,h p=eZ->Ext h g->g p=eY o->Q (.ref p) g):new h o Q:=Xf λp hp=>q p _ hp (Ext.new hp) ff
variable {r:Int}
def Xd(r0:0<=r)(e:xs[r.toNat]?=eY x):atI xs r=eY x:=by have:=(Ò.mp e).1;unfold atI ixN;rw[gD r0,gD<|by lia];exact e
def Bz(r0:0<=r)(r1:r<xs.length):∃x,xs[r.toNat]?=eY x/\x∈xs:=by
 have h:r.toNat<xs.length:=by lia
 exact⟨xs[r.toNat],É h,ţ h⟩
def Yn(r0:0<=r)(r1:r<xs.length):∃x,atI xs r=eY x/\x∈xs:=by obtain⟨x,h1,h2⟩:=Bz r0 r1;exact⟨x,Xd r0 h1,h2⟩
def Ye:∀ns:List Int,fk (ns.map .int)=eY ns
 |[]=>rfl
 |n::ns=>by rw[Ï,fk,Ye ns];rfl
def YQ:∀bs:List Bool,blsOf (bs.map .bl)=eY bs
 |[]=>rfl
 |b::bs=>by rw[Ï,blsOf,YQ bs];rfl
def mem_dedup{x:Int}:∀{ns:List Int},x∈dedup ns↔x∈ns
 |[]=>by simp[dedup]
 |n::ns=>by rw[dedup,Ç,ę,mem_dedup,Ç];by_cases h:x=n<;>simp[h]
def Jk:∀(ns:List Int),(dedup ns).length<=ns.length
 |[]=>by simp[dedup]
 |n::ns=>by have:=Jk ns;have:=Ż (λy=>y != n)<|dedup ns;rw[dedup,Ë,Ë];lia
variable {m:Int}
def Xj{v:Val}(h:(fN 0 m)[i]?=eY v):v=.int i/\(i:Int)<m:=by unfold fN at h;rw[Ú]at h;obtain⟨k,hk,rfl⟩:=Î.mp h;obtain⟨Χ,rfl⟩:=Ò.mp hk;rw[Ŝ]at Χ;rw[dX];exact⟨by rw[Int.zero_add],by lia⟩
def YH:(fN 0 m).length=m.toNat:=by unfold fN;rw[Ã,Ŝ,Int.sub_zero]
abbrev Brs(ns:List Int):Prop:=∀i∈ns,0<=i/\i<1000
noncomputable abbrev Tie:=Int×Int×Int
abbrev trV(t:Tie):Val:=.tup [.int t.1,.int t.2.1,.int t.2.2]
abbrev LOk(ns:List Int)(t:Tie):Prop:=t.1∈ns/\t.2.1∈ns/\t.1<t.2.1/\1<=t.2.2/\t.2.2<=1000
structure fB(bs:List Int)(ts:List Tie):Prop where
 one:1<=bs.length
 ten:bs.length<=10
 rng:Brs bs
 up:bs.Pairwise (· < ·)
 sixteen:ts.length<=16
 tie:∀t∈ts,LOk bs t
abbrev ZO(bs:List Int)(ts:List Tie):Val:=.tup [.tup<|bs.map .int,.tup<|ts.map trV]
variable {ns:List Int}
def mem_sort{i:Int}:i∈sortI ns↔i∈ns:=(Ō ns _).mem_iff
def WO(nd:ns.Nodup):(sortI ns).Pairwise (· < ·):=by have p:=Ō ns λa b=>gK (a<=b);have s:(sortI ns).Pairwise λa b=>gK (a<=b)=fb:=bV (λa b c h1 h2=>by simp at *;lia) (λa b=>by simp;lia) ns;have d:(sortI ns).Nodup:=p.nodup_iff.mpr nd;exact(s.and d).imp λ⟨h1,h2⟩=>by simp at h1;lia
def RN(e:h a=eY (.lst<|ns.map .int))(m:ns.length<64)(q:new h (.lst<|(sortI<|dedup ns).map .int) Q):(biV h .sortedSet [.ref a]).wp h Q:=wp_new (by show biSortedSet h (.ref a)=_;unfold biSortedSet sortOf;simp only[e,fv,è,Ye];rw[gD m]) q
def NT:∀ns:List Int,(dedup ns).Nodup
 |[]=>ı
 |n::ns=>by rw[dedup,ć];refine⟨λz=>?_,(NT ns).sublist ŧ⟩;have:=(ę.mp z).2;simp at this
def Qa(ns:List Int):(sortI<|dedup ns).Pairwise (· < ·):=WO (NT ns)
def Cd(ns:List Int):(sortI<|dedup ns).Nodup:=(Qa ns).imp λh=>by lia
def LL(ns:List Int):(sortI<|dedup ns).length<=ns.length:=by rw[sortI,ř];exact Jk ns
def Lc(h:1<=ns.length):1<=(sortI<|dedup ns).length:=by
 rw[sortI,ř];cases ns with
 |nil=>exact gJ h (by decide)
 |cons n ns=>rw[dedup,Ë];lia
def sd_mem{i:Int}:i∈sortI (dedup ns)↔i∈ns:=by rw[mem_sort,mem_dedup]
def Cm(ns:List Int)(lo hi:Option Int):cut (ns.map Val.int) lo hi=(cut ns lo hi).map Val.int:=by unfold cut;rw[Ã,bM,List.map_drop]
def Lw{a b:Int}(h0:0<=a)(h1:a<=b):cut xs (eY a) (eY b)=(xs.drop a.toNat).take (b.toNat - a.toNat):=by
 unfold cut fP;dsimp only;rw[gD h0,gD<|by lia];by_cases h:a.toNat<=xs.length
 .rw[ϔ h];by_cases h2:b.toNat<=xs.length
  .rw[ϔ h2]
  .rw[Nat.min_eq_right<|by lia];rw[ώ (by rw[Ρ];lia),ώ<|by rw[Ρ];lia]
 .rw[Ĺ (by lia:xs.length<=min a.toNat xs.length),Ĺ (by lia:xs.length<=a.toNat)];simp
def M1{h:Hs}{d:Nat}:∀ns:List Int,(ns.map Val.int).mapM (dat h d)=eY (ns.map D.int)
 |[]=>rfl
 |n::ns=>by rw[Ï,Ē,M1 ns,Ï];cases d<;>rfl
def UF{i:Int}:∀ns:List Int,((ns.map D.int).any λe=>D.eqv e<|.int i)=gK (i∈ns)
 |[]=>by simp
 |n::ns=>by
  rw[Ï,ļ,UF ns,Uk];by_cases h:n=i
  .simp[h]
  .simp[h,Ne.symm h]
def Mr{i:Int}:inL h (.int i) (ns.map .int)=eY (gK (i∈ns)):=by unfold inL;rw[M1];exact congrArg eY (UF ns)
def Gx(x:Ext h g)(e:h p=eZ):Ext h<|upd g p o:=⟨λ{a u} z=>by rw[fe<|Za z e];exact x.get z⟩
abbrev far(t:Tie)(b:Int):Int:=if t.1=b then t.2.1 else t.1
abbrev gu(b:Int):Nat->List Tie->List Tie
 |_,[]=>[]
 |k,t::r=>if b=t.1\/b=t.2.1 then((k:Int),far t b,t.2.2)::gu b (k+1) r else gu b (k+1) r
def Nr{b:Int}{t:Tie}:∀{l:List Tie}{k:Nat},gu b k (l++[t])=gu b k l++(if b=t.1\/b=t.2.1 then [(((k+l.length:Nat):Int),far t b,t.2.2)]else [])
 |[],k=>by show gu b k [t]=_;unfold gu;split<;>rfl
 |u::l,k=>by
  rw[ao,gu,gu,Nr,Ë,show k+1+l.length=k+(l.length+1) by lia];by_cases h:b=u.1\/b=u.2.1
  .rw[gD h,gD h,ao]
  .rw[gE h,gE h]
def Uf:∀{xs:List Val}{k i:Nat}{v:Val},(enumL k xs)[i]?=eY v->∃x,xs[i]?=eY x/\v=.tup [.int ((k+i:Nat):Int),x]
 |[],_,_,_,e=>by simp[enumL]at e
 |x::xs,k,0,v,e=>by have e:eY (Val.tup [.int k,x])=eY v:=e;cases e;exact⟨x,rfl,rfl⟩
 |x::xs,k,i+1,v,e=>by obtain⟨y,h1,h2⟩:=Uf (xs:=xs) (k:=k+1) (i:=i) (v:=v) (by simpa[enumL]using e);exact⟨y,by simpa using h1,by rw[h2,show k+1+i=k+(i+1) by lia]⟩
def Nm:∀(xs:List Val) (k:Nat),(enumL k xs).length=xs.length
 |[],_=>rfl
 |_::xs,k=>by simp[enumL,Nm xs<|k+1]
def OI{i:Int}(q:KB<|gK (i∈ns)):go (fz h .isin (.int i)<|.tup<|ns.map .int) KB:=fi (by show inV h (.int i) (.tup _)=_;unfold inV;exact Mr) q
def HY{i:Int}(q:KB (!gK (i∈ns))):go (fz h .notin (.int i)<|.tup<|ns.map .int) KB:=fi (by show(inV h (.int i)<|.tup _).map _=_;unfold inV;simp only[Mr];rfl) q
section
variable {bs:List Int}{ts:List Tie}
def C6{t:Tie}{b:Int}(k:Q (.int<|far t b) h):wF P (n+1) "far_end" [trV t,.int b] h Q X:=by
 obtain⟨x,y,c⟩:=t;unfold trV;unfold far at k;dsimp only at k ⊢;refine A0 ?_;fail;by_cases e:x=b
 .refine f6 (gG e) ?_;rw[gD e]at k;refine' k
 .refine f7 (gF e) ?_;rw[gE e]at k;refine' k
def Xq{b:Int}(l:ts.length<=16)(k:∀p g,h p=eZ->Ext h g->g p=eY (.lst<|(gu b 0 ts).map trV)->Q (.ref p) g):wF P (n+2) "neighbours" [ZO bs ts,.int b] h Q X:=by
 unfold ZO;refine Ma ?_;refine' Zg λp g0 hp x0 e0=>?_
 exists fi rfl
 have nl:∀l:List Tie,∀k,(gu b k l).length<=l.length:=by
  intro l;induction l with
  |nil=>intro k;exact Ì _
  |cons t l ih =>intro k;have:=ih<|k+1;unfold gu;split<;>simp only[Ë]<;>lia
 refine Zr (λi en g=>Sm2 λv3 v4=>Cj3 (en=[eY<|.tup [.tup<|bs.map .int,.tup<|ts.map trV],eY<|.int b,eY<|.ref p,v3,v4]) (Ext h g)<|g p=eY (.lst<|(gu b 0<|ts.take i).map trV)) ⟨_,_,rfl,x0,e0⟩ (λ_ _ _ _ _=>trivial) ?_ ?_
 .rintro i v en g hv ⟨v3,v4,rfl,x,ep⟩ K hK;obtain⟨y,hy,rfl⟩:=Uf hv;rw[Ú]at hy;obtain⟨t,ht,rfl⟩:=Î.mp hy;have hi:i<ts.length:=(Ò.mp ht).1;have hn:gu b 0 (ts.take<|i+1)=gu b 0 (ts.take i)++(if b=t.1\/b=t.2.1 then [((i:Int),far t b,t.2.2)]else []):=by
   rw[Ŷ,ht];have:=Nr (b:=b) (t:=t) (l:=ts.take i) (k:=0);rw[Č,ϔ (by lia),cK]at this;exact this
  rw[cK];have et:trV t=.tup [.int t.1,.int t.2.1,.int t.2.2]:=rfl;fail;rw[et];refine fZ (by simp[fP]) ?_;refine OI (ns:=[t.1,t.2.1]) ?_;refine' f8 (λhc=>?_) (λhc=>?_)
  .exists C6 (t:=t)
   fail;have hl:=nl (ts.take i) 0;rw[Č]at hl;refine Ys ep (by rw[Ã,lim];lia) ?_;refine' hK _ _ ⟨_,_,rfl,?_,?_⟩
   .exact Gx x hp
   .have hc:b=t.1\/b=t.2.1:=by simpa using hc
    rw[hn,gD hc,ã];exact ff
  .refine' hK _ _ ⟨_,_,rfl,x,?_⟩;have hc:¬ (b=t.1\/b=t.2.1):=by simpa using hc
   rw[hn,gE hc,ċ];exact ep
 .rintro en g ⟨v3,v4,rfl,x,ep⟩;rw[Nm,Ã,ø]at ep;refine' k p g hp x ep
end
abbrev Wx(rs:List Tie):List<|Int×(Int×Int):=rs.map λr=>(r.1,r.2)
def O7(rs:List Tie):(Wx rs).map (·.1)=rs.map (·.1):=by unfold Wx;rw[ý];rfl
abbrev ZV(own life most:Int)(rs:List Tie):Br:=⟨own,life,most,Wx rs,[],⟨own,0,eZ⟩,0,0⟩
variable {own:Int} {life:Int}
def Uz{rs:List Tie}(hb:h b=eY (.ins "Bridge" []))(hl:h l=eY (.lst<|rs.map trV))(nd:(rs.map (·.1)).Nodup)(h16:rs.length<=16)
  (k:∀t d g,h t=eZ->h d=eZ->fq g b t d (ZV own life most rs)->Ex [b] h g->Q .non g):wF P (n+1) "Bridge.__init__" [.ref b,.int own,.int life,.ref l,.int most] h Q X:=by
 have nlb:b≠l:=Cw hb hl nofun;refine Kg ?_;refine' Yl ff (show(1:Nat)<900 by decide) ?_;refine' Yl ff (show(2:Nat)<900 by decide) ?_;fail;intro t ht;rw[fg,fg]at ht ⊢;have ntb:b≠t:=Za ff ht;have nht:h t=eZ:=by rw[fe ntb.symm]at ht;exact ht
 have ntl:l≠t:=Za hl nht;refine' Yl (upd_ne' ntb ff) (show(3:Nat)<900 by decide) ?_;fail;have hl1:∀{o1 o2 o3:Ob},upd (upd (upd h b o1) t o2) b o3 l=eY (.lst<|rs.map trV):=λ{_ _ _}=>by rw[fe nlb.symm,fe ntl,fe nlb.symm];exact hl
 refine Zr (λi e g=>Sm3 λu v w=>Cj4 (e=[eY<|.ref b,eY<|.int own,eY<|.int life,eY<|.ref l,eY<|.int most,u,v,w]) (g b=eY (.ins "Bridge" [("number",.int own),("life",.int life),("age_let_go",.int most),("ties_by_place",.ref t)])) (g t=eY (.dct<|Zl AB<|Wx<|rs.take i))<|Ex [b] h g) ⟨eZ,eZ,eZ,rfl,ff,by rw[fe ntb.symm];exact ff,?_⟩ ?_ ?_ ?_
 .refine⟨λ{a o} na e=>?_⟩;have nab:a≠b:=by simpa using na
  rw[fe nab,fe<|Za e nht,fe nab];exact e
 .rintro i e g _ ⟨u,v,w,rfl,h1,h2,h3⟩;exact lsE (h3.get (by simpa using nlb.symm) hl)
 .rintro i v e g hv ⟨u,v,w,rfl,h1,h2,h3⟩ K hK;obtain⟨r,hp,rfl⟩:=ZY hv;have nk:=YI nd hp;obtain⟨p,nb,c⟩:=r;unfold trV;refine' Yz (k:=.int p) h2 ⟨rfl,?_⟩ ?_
  .rw[J6];unfold Wx;rw[Ã];exact Û (ß (Ϟ _ _) h16) (by decide)
  rw[show Val.tup [.int nb,.int c]=AB (nb,c) from rfl,Z2];refine' hK _ _ ⟨_,_,_,rfl,by rw[fe ntb];exact h1,?_,?_⟩
  .rw[ff,XO,Zp hp]
   .unfold Wx;rw[ã];rfl
   .rw[O7];exact nk
  .exact⟨λna e=>by rw[fe<|Za e nht];exact h3.get na e⟩
 .rintro e g ⟨u,v,w,rfl,h1,h2,h3⟩;rw[Ã,ø]at h2;fail;intro d hd;have ndb:b≠d:=Za h1 hd;have ndt:t≠d:=Za h2 hd;have nhd:h d=eZ:=h3.none (by rw[h1];intro z;cases z) hd;refine' Yl ff (show(5:Nat)<900 by decide) ?_;refine' Yl ff (show(6:Nat)<900 by decide) ?_;refine' Yl ff (show(7:Nat)<900 by decide) ?_;fail;rw[fg,fg,fg];refine k t d _ nht nhd ⟨ff,?_,?_,ndt⟩ ?_
  .rw[fe ntb.symm,fe ndt];exact h2
  .rw[fe ndb.symm];exact ff
  .exact(h3.trans<|.of<|Ext.new hd).trans (Ex.upd<|by simp)
def JR{b:Int}:∀{l:List Tie}{k:Nat},((gu b k l).map (·.1)).Pairwise (· < ·)/\∀r∈gu b k l,(k:Int)<=r.1/\r.1<(k+l.length:Nat)
 |[],k=>⟨by simp[gu],λr hr=>gJ hr<|by simp[gu]⟩
 |t::l,k=>by
  obtain⟨h1,h2⟩:=JR (b:=b) (l:=l) (k:=k+1);unfold gu;split
  .refine⟨?_,λr hr=>?_⟩
   .rw[Ï,dR];refine⟨λx hx=>?_,h1⟩;obtain⟨r,hr,rfl⟩:=Ü.mp hx;have:=(h2 r hr).1;show(k:Int)<r.1;lia
   .rcases Ç.mp hr with rfl|hr
    .exact⟨Int.le_refl _,by show(k:Int)<((k+(t::l).length:Nat):Int);rw[Ë];lia⟩
    .have:=h2 r hr;rw[Ë];lia
  .refine⟨h1,λr hr=>?_⟩;have:=h2 r hr;rw[Ë];lia
def UC{b:Int}:∀{l:List Tie}{k:Nat},(gu b k l).length<=l.length
 |[],k=>Ì _
 |t::l,k=>by have:=UC (b:=b) (l:=l) (k:=k+1);unfold gu;split<;>simp only[Ë]<;>lia
structure En where
 num:Int
 b:Ad
 t:Ad
 d:Ad
 B:Br
structure Yd where
 y:Ad
 lv:Ad
 st:Ad
 fl:Ad
 rd:Ad
 bs:List Int
 ts:List Tie
 most:Int
 lives:List<|Int×Int
 es:List En
 fallen:List<|Int×Bool
 road:List<|Int×Int×Int×L
abbrev enA(es:List En):List Ad:=es.flatMap λe=>[e.b,e.t,e.d]
abbrev Yd.adr(Y:Yd):List Ad:=[Y.y,Y.lv,Y.st,Y.fl,Y.rd]++enA Y.es
noncomputable abbrev rfV(a:Ad):Val:=.ref a
noncomputable abbrev rdV(r:Int×Int×Int×L):Val:=.tup [.int r.1,.int r.2.1,.int r.2.2.1,r.2.2.2.v]
abbrev stands(es:List En):List<|Int×Ad:=es.map λe=>(e.num,e.b)
def ZE(es:List En):(stands es).map (·.1)=es.map (·.num):=by unfold stands;rw[ý];rfl
structure fu(h:Hs)(Y:Yd):Prop where
 ins:h Y.y=eY (.ins "Yard" [("net_made_of",ZO Y.bs Y.ts),("greatest_age",.int Y.most),("lives",.ref Y.lv),("standing",.ref Y.st),("ties_fallen",.ref Y.fl),("letters_on_road",.ref Y.rd)])
 lives:h Y.lv=eY (.dct<|Zl Val.int Y.lives)
 stand:h Y.st=eY (.dct<|Zl rfV<|stands Y.es)
 fallen:h Y.fl=eY (.dct<|Zl Val.bl Y.fallen)
 road:h Y.rd=eY (.lst<|Y.road.map rdV)
 brs:∀e∈Y.es,fq h e.b e.t e.d e.B
 nd:Y.adr.Nodup
 key:(Y.es.map (·.num)).Nodup
variable {es:List En} {e:En}
def Wr(h:e∈es):e.b∈enA es/\e.t∈enA es/\e.d∈enA es:=by refine⟨?_,?_,?_⟩<;>exact ť.mpr ⟨e,h,by simp⟩
def X6(es:List En)(e:En):enA (es++[e])=enA es++[e.b,e.t,e.d]:=by unfold enA;rw[dA];simp
variable {Y:Yd}
def fu.keep{S:List Ad}(x:fu h Y)(e:Ex S h g)(ds:∀a∈Y.adr,a∉S):fu g Y:=by have m:∀a∈[Y.y,Y.lv,Y.st,Y.fl,Y.rd],a∉S:=λa ha=>ds a<|Ö _ ha;refine⟨e.get (m _<|by simp) x.ins,e.get (m _<|by simp) x.lives,e.get (m _<|by simp) x.stand,e.get (m _<|by simp) x.fallen,e.get (m _<|by simp) x.road,λb hb=>?_,x.nd,x.key⟩;obtain⟨q1,q2,q3⟩:=Wr hb;exact(x.brs b hb).keep e (ds _<|Ê _ q1) (ds _<|Ê _ q2) (ds _<|Ê _ q3)
def fu.ext(x:fu h Y)(e:Ext h g):fu g Y:=x.keep (S:=[]) (.of e) λ_ _=>by simp
def fu.taken(x:fu h Y)(ha:a∈Y.adr):h a≠eZ:=by
 rcases å.mp ha with ha|ha
 .simp only[Ç,Ø,or_false]at ha;rcases ha with rfl|rfl|rfl|rfl|rfl
  .rw[x.ins];simp
  .rw[x.lives];simp
  .rw[x.stand];simp
  .rw[x.fallen];simp
  .rw[x.road];simp
 .obtain⟨e,he,ha⟩:=ť.mp ha;have:=x.brs e he;simp only[Ç,Ø,or_false]at ha;rcases ha with rfl|rfl|rfl
  .rw[this.ins];simp
  .rw[this.ties];simp
  .rw[this.held];simp
def Yd.sep(nd:Y.adr.Nodup)(ha:a∈[Y.y,Y.lv,Y.st,Y.fl,Y.rd])(hb:b∈enA Y.es):b≠a:=λz=>(ç.mp nd).2.2 a ha b hb z.symm
def Yd.five(nd:Y.adr.Nodup):(Y.y≠Y.lv/\Y.y≠Y.st/\Y.y≠Y.fl/\Y.y≠Y.rd)/\(Y.lv≠Y.st/\Y.lv≠Y.fl/\Y.lv≠Y.rd)/\(Y.st≠Y.fl/\Y.st≠Y.rd)/\Y.fl≠Y.rd:=by have:=(ç.mp nd).1;simp only[ć,Ç,Ø,or_false,not_or,not_false_eq_true,ı,and_true]at this;obtain⟨⟨a1,a2,a3,a4⟩,⟨b1,b2,b3⟩,⟨c1,c2⟩,d1⟩:=this;exact⟨⟨a1,a2,a3,a4⟩,⟨b1,b2,b3⟩,⟨c1,c2⟩,d1⟩
def fq.off(x:fq h e.b e.t e.d e.B)(he:e∈es)(n:∀b∈enA es,b≠a):fq (upd h a o) e.b e.t e.d e.B:=by obtain⟨q1,q2,q3⟩:=Wr he;exact⟨(fe<|n _ q1).trans x.ins,(fe<|n _ q2).trans x.ties,(fe<|n _ q3).trans x.held,x.ne⟩
def fu.setLives(x:fu h Y)(l:List<|Int×Int):fu (upd h Y.lv<|.dct<|Zl Val.int l) {Y with lives:=l}:=by obtain⟨⟨a1,a2,a3,a4⟩,⟨b1,b2,b3⟩,_,_⟩:=Yd.five x.nd;exact⟨(fe a1).trans x.ins,ff,(fe b1.symm).trans x.stand,(fe b2.symm).trans x.fallen,(fe b3.symm).trans x.road,λe he=>(x.brs e he).off he λb hb=>Yd.sep x.nd (by simp) hb,x.nd,x.key⟩
def fu.setRoad(x:fu h Y)(l:List<|Int×Int×Int×L):fu (upd h Y.rd<|.lst<|l.map rdV) {Y with road:=l}:=by obtain⟨⟨a1,a2,a3,a4⟩,⟨b1,b2,b3⟩,⟨c1,c2⟩,d1⟩:=Yd.five x.nd;exact⟨(fe a4).trans x.ins,(fe b3).trans x.lives,(fe c2).trans x.stand,(fe d1).trans x.fallen,ff,λe he=>(x.brs e he).off he λb hb=>Yd.sep x.nd (by simp) hb,x.nd,x.key⟩
def fu.stands(x:fu h Y)(hb:fq h e.b e.t e.d e.B)(hn:e.num∉Y.es.map (·.num))(fr:∀a∈[e.b,e.t,e.d],a∉Y.adr):fu (upd h Y.st<|.dct<|Zl rfV<|stands<|Y.es++[e]) {Y with es:=Y.es++[e]}:=by
 obtain⟨⟨a1,a2,a3,a4⟩,⟨b1,b2,b3⟩,⟨c1,c2⟩,d1⟩:=Yd.five x.nd;have ι:Y.st∈Y.adr:=Ö _ (by simp);have nb:∀a∈enA (Y.es++[e]),a≠Y.st:=λa ha=>by
  rw[X6]at ha;rcases å.mp ha with ha|ha
  .exact Yd.sep x.nd (by simp) ha
  .exact λz=>fr a ha<|z▸ι
 refine⟨(fe a2).trans x.ins,(fe b1).trans x.lives,ff,(fe c1.symm).trans x.fallen,(fe c2.symm).trans x.road,λq hq=>?_,?_,?_⟩
 .refine fq.off ?_ hq nb;rcases å.mp hq with hq|hq
  .exact x.brs q hq
  .rw[à.mp hq];exact hb
 .show([Y.y,Y.lv,Y.st,Y.fl,Y.rd]++enA (Y.es++[e])).Nodup;rw[X6,<-ĳ,ç];refine⟨x.nd,?_,λa ha b hb z=>fr b hb<|z▸ha⟩;simp[hb.nbt,hb.nbd,hb.ne]
 .show((Y.es++[e]).map (·.num)).Nodup;rw[ã,ç];refine⟨x.key,by simp,λa ha b hb=>?_⟩;have:b=e.num:=by simpa using hb
  rw[this];exact λz=>hn<|z▸ha
def WI{h0:Hs}{fs:List (String×Val)}{f:String}{K:Hs->Prop}(i:g p=eY (.ins "Yard" fs))(x:Ex [p] h0 g)(hp:h0 p=eZ)(ha:g a=eZ)(m:fs.length<900)(q:∀g',g' p=eY (.ins "Yard"<|fy fs f<|.ref a)->g' a=eY o->Ex [p] h0 g'->Ex [p] g g'->p≠a->h0 a=eZ->K g'):go (fW (upd g a o) (.ref p) f<|.ref a) K:=by
 have n:=Za i ha;have y:Ex [p] g<|upd (upd g a o) p<|.ins "Yard"<|fy fs f<|.ref a:=⟨λ{b u} nb e=>by rw[fe λz=>nb<|by simp[z],fe<|Za e ha];exact e⟩
 refine Yl (upd_ne' n i) m<|q _ ff ((fe n.symm).trans ff) (x.trans y) y n ?_;cases z:h0 a with
 |none=>rfl
 |some u=>rw[x.get (by simpa using n.symm) z]at ha;cases ha
structure YNew(bs:List Int)(ts:List Tie)(most:Int)(Y:Yd):Prop where
 hb:Y.bs=bs
 ht:Y.ts=ts
 hm:Y.most=most
 num:Y.es.map (·.num)=bs
 br:∀e∈Y.es,e.B=ZV e.num 0 most (gu e.num 0 ts)
 fallen:Y.fallen=[]
 road:Y.road=[]
 lives:Y.lives=bs.map λb=>(b,0)
section
variable {bs:List Int}{ts:List Tie}
def DQ(no:fB bs ts)(hp:h p=eZ)(k:∀Y g,Y.y=p->fu g Y->YNew bs ts most Y->(∀a∈Y.adr,h a=eZ)->Ext h g->Q .non g):wF P (n+3) "Yard.__init__" [.ref p,ZO bs ts,.int most] (upd h p<|.ins "Yard" []) Q X:=by
 have h10:=no.ten;have h16:=no.sixteen;have hbl:(bs.map Val.int).length=bs.length:=Ã _;have ndb:bs.Nodup:=no.up.imp λh=>by lia
 refine Nv ?_;refine' Yl ff (show(1:Nat)<900 by decide) ?_;rw[fg,fg];have i1:=ff (h:=h) (a:=p) (o:=Ob.ins "Yard"<|fy (fy [] "net_made_of"<|ZO bs ts) "greatest_age"<|.int most);have x1:Ex [p] h<|upd h p<|Ob.ins "Yard"<|fy (fy [] "net_made_of"<|ZO bs ts) "greatest_age"<|.int most:=Ex.upd (by simp);generalize upd h p (Ob.ins "Yard"<|fy (fy [] "net_made_of"<|ZO bs ts) "greatest_age"<|.int most)=g1 at i1 x1 ⊢;fail;intro lv hlv;refine' WI i1 x1 hp hlv (show(2:Nat)<900 by decide) λg2 i2 lv2 x2 y2 nlv flv=>?_;fail;intro st ι;refine' WI i2 x2 hp ι (show(3:Nat)<900 by decide) λg3 i3 st3 x3 y3 nst fst=>?_;fail;intro fl hfl;refine' WI i3 x3 hp hfl (show(4:Nat)<900 by decide) λg4 i4 fl4 x4 y4 nfl ffl=>?_;refine' Xf λrd hrd=>?_;refine' WI i4 x4 hp hrd (show(5:Nat)<900 by decide) λg5 i5 rd5 x5 y5 nrd frd=>?_;have q1:lv≠st:=Za lv2 ι;have lv3:=y3.get (by simpa using nlv.symm) lv2;have q2:lv≠fl:=Za lv3 hfl;have q3:st≠fl:=Za st3 hfl;have lv4:=y4.get (by simpa using nlv.symm) lv3;have st4:=y4.get (by simpa using nst.symm) st3;have q4:lv≠rd:=Za lv4 hrd;have q5:st≠rd:=Za st4 hrd;have q6:fl≠rd:=Za fl4 hrd;have lv5:=y5.get (by simpa using nlv.symm) lv4;have st5:=y5.get (by simpa using nst.symm) st4;have fl5:=y5.get (by simpa using nfl.symm) fl4;have xe:Ext h g5:=⟨λ{a o} e=>x5.get (by simpa using Za e hp) e⟩
 have Y0:fu g5 ⟨p,lv,st,fl,rd,bs,ts,most,[],[],[],[]⟩:=⟨i5,lv5,st5,fl5,rd5,(λe he=>gJ he Ø),by
   show([p,lv,st,fl,rd]++[]).Nodup
   simp[nlv,nst,nfl,nrd,q1,q2,q3,q4,q5,q6],ı⟩
 exists fj (xs:=[.tup<|bs.map .int,.tup<|ts.map trV]) (v:=.tup<|bs.map .int) rfl
 refine' Zr (λi en g=>Sm3 λv3 lvs es=>Cj7 (en=[eY<|.ref p,eY<|ZO bs ts,eY<|.int most,v3]) (fu g ⟨p,lv,st,fl,rd,bs,ts,most,lvs,es,[],[]⟩) (lvs=(bs.take i).map (λb=>(b,0))) (es.map (·.num)=bs.take i) ((∀e∈es,e.B=ZV e.num 0 most (gu e.num 0 ts))) ((∀a∈[p,lv,st,fl,rd]++enA es,h a=eZ))<|Ext h g) ⟨_,[],[],rfl,Y0,rfl,rfl,(λe he=>gJ he Ø),?_,xe⟩ (λ_ _ _ _ _=>trivial) ?_ ?_
 .intro a ha;simp only[enA,List.flatMap_nil,ċ,Ç,Ø,or_false]at ha;rcases ha with rfl|rfl|rfl|rfl|rfl<;>assumption
 .rintro i v en g hv ⟨v3,lvs,es,rfl,Y,hlv,hnum,hbr,bS,x⟩ K hK;obtain⟨b,hb,rfl⟩:=ZY hv;have hi:i<bs.length:=(Ò.mp hb).1;have hnb:b∉es.map (·.num):=by
   rw[hnum];intro m;have:=YI (f:=id) (by rw[ϟ];exact ndb) hb;rw[ϟ]at this;exact this m
  have hll:lvs.length<=10:=by rw[hlv,Ã,Č];lia
  have hkl:b∉lvs.map (·.1):=by rw[hlv,ý,show((λq:Int×Int=>q.1) ∘ λb:Int=>(b,(0:Int)))=id from rfl,ϟ,<-hnum];exact hnb
  have hesl:es.length<=10:=by rw[<-Ã (f:=(·.num)) (as:=es),hnum,Č];lia
  obtain⟨yi,yl,ys,yf,yr,yb,ynd,yk⟩:=id Y;dsimp only at yi yl ys yf yr yb;refine' Yz (k:=.int b) yl ⟨rfl,by rw[J6];exact Û hll<|by decide⟩ ?_;rw[Z2 (val:=Val.int)];have Y1:=Y.setLives<|Zx lvs b 0;have x1:Ext h<|upd g lv<|.dct<|Zl Val.int<|Zx lvs b 0:=⟨λe=>by rw[fe<|Za e flv];exact x.get e⟩
  dsimp only at Y1;generalize upd g lv (.dct<|Zl Val.int<|Zx lvs b 0)=g6 at Y1 x1;obtain⟨zi,zl,zs,zf,zr,zb,znd,zk⟩:=id Y1;dsimp only at zi zl zs zf zr zb;refine' Xq h16 λpn g7 hpn x7 en=>?_;have Y7:=Y1.ext x7;fail;intro q hq;have nr:=JR (b:=b) (l:=ts) (k:=0);have nl:=UC (b:=b) (l:=ts) (k:=0);have xq:Ext g7<|upd g7 q<|.ins "Bridge" []:=Ext.new hq;have eq:(upd g7 q<|.ins "Bridge" []) q=eY (.ins "Bridge" []):=ff;refine Uz (rs:=gu b 0 ts) eq (xq.get en) (nr.1.imp λz=>by lia) (by lia) λt d g8 ht hd ba x8=>?_;have x78:Ext g7 g8:=⟨λ{a o} e=>x8.get (by simpa using Za e hq)<|xq.get e⟩
  have Y8:=Y7.ext x78;have ht7:g7 t=eZ:=by cases z:g7 t with|none=>rfl|some o=>rw[xq.get z]at ht;cases ht
  have hd7:g7 d=eZ:=by cases z:g7 d with|none=>rfl|some o=>rw[xq.get z]at hd;cases hd
  refine⟨rfl,?_⟩;obtain⟨wi,wl,ws,wf,wr,wb,wnd,wk⟩:=id Y8;dsimp only at wi wl ws wf wr wb;refine' Yz (k:=.int b) ws ⟨rfl,by rw[J6];unfold stands;rw[Ã];exact Û hesl<|by decide⟩ ?_;rw[Z2 (val:=rfV),XO _<|by rw[ZE];exact hnb];have ι:stands es++[(b,q)]=stands (es++[⟨b,q,t,d,ZV b 0 most<|gu b 0 ts⟩]):=by unfold stands;rw[ã];rfl
  rw[ι];have fr:∀a∈[q,t,d],g7 a=eZ:=λa ha=>by simp only[Ç,Ø,or_false]at ha;rcases ha with rfl|rfl|rfl<;>assumption
  have Y9:=Y8.stands (e:=⟨b,q,t,d,ZV b 0 most<|gu b 0 ts⟩) ba hnb λa ha z=>Y7.taken z<|fr a ha;fail;have x9:Ext h g8:=(x1.trans x7).trans x78;refine hK _ _ ⟨_,_,_,rfl,Y9,?_,?_,?_,?_,⟨λe=>by rw[fe<|Za e fst];exact x9.get e⟩⟩
  .show Zx lvs b 0=_;rw[XO _ hkl,hlv,Zp hb,ã];rfl
  .rw[ã,hnum,Ŷ,hb];rfl
  .intro e he;rcases å.mp he with he|he
   .exact hbr e he
   .rw[à.mp he]
  .intro a ha;rw[X6,<-ĳ]at ha;rcases å.mp ha with ha|ha
   .exact bS a ha
   .cases z:h a with
    |none=>rfl
    |some o=>have:=fr a ha;rw[(x1.trans x7).get z]at this;cases this
 .rintro en g ⟨v3,lvs,es,rfl,Y,hlv,hnum,hbr,bS,x⟩;rw[hbl,ø]at hnum hlv;refine' k _ g rfl Y ⟨rfl,rfl,rfl,hnum,hbr,rfl,rfl,hlv⟩ bS x
end
abbrev L8(ts:List Tie)(p num:Int):Int:=far (ts[p.toNat]?.getD (0,0,0)) num
abbrev ZI(ts:List Tie)(num:Int)(B:Br):List<|Int×Int×Int×L:=(sortI (B.ties.map (·.1))).map λp=>(num,L8 ts p num,p,Zj B p)
def Y4{num:Int}(h:(stands es).lookup num=eY b):∃e pre ľ,es=pre++e::ľ/\e.num=num/\e.b=b:=by have:=Zy h;unfold stands at this;obtain⟨e,he,z⟩:=Ü.mp this;obtain⟨pre,ľ,rfl⟩:=dY he;injection z with z1 z2;exact⟨e,pre,ľ,rfl,z1,z2⟩
def YF(pre ľ:List En)(e:En):enA (pre++e::ľ)=enA pre++([e.b,e.t,e.d]++enA ľ):=by unfold enA;rw[dA];rfl
variable {ľ:List En}
def fu.change{pre:List En}(x:fu h Y)(he:Y.es=pre++e::ľ)(ex:Ex [e.b] h g)(hb:fq g e.b t d B)(ft:t=e.t\/h t=eZ)(fd:d=e.d\/h d=eZ):fu g {Y with es:=pre++⟨e.num,e.b,t,d,B⟩::ľ}:=by
 obtain⟨y,lv,st,fl,rd,bs,ts,most,lives,es,fallen,road⟩:=Y;dsimp only at he;subst he;have hm:e∈pre++e::ľ:=by simp
 have heA:=Wr hm;have nb:∀a∈[y,lv,st,fl,rd],a∉[e.b]:=λa ha z=>Yd.sep x.nd ha heA.1 (à.mp z).symm;have nd0:([y,lv,st,fl,rd]++(enA pre++([e.b,e.t,e.d]++enA ľ))).Nodup:=by rw[<-YF];exact x.nd
 have key:∀q∈pre++ľ,fq g q.b q.t q.d q.B:=λq hq=>by
  have hq':q∈pre++e::ľ:=by
   rcases å.mp hq with z|z
   .exact Ö _ z
   .exact Ê _<|Þ _ z
  have nq:∀a∈[q.b,q.t,q.d],a≠e.b:=λa ha z=>by
   have n1:=(ç.mp nd0).2.1;rcases å.mp hq with hq|hq
   .have ha':a∈enA pre:=ť.mpr ⟨q,hq,ha⟩;exact(ç.mp n1).2.2 a ha' e.b (by simp) z
   .have ha':a∈enA ľ:=ť.mpr ⟨q,hq,ha⟩;have n2:=(ç.mp n1).2.1;exact(ç.mp n2).2.2 e.b (by simp) a ha' z.symm
  exact(x.brs q hq').keep ex (by simpa using nq _ (by simp)) (by simpa using nq _ (by simp)) (by simpa using nq _ (by simp))
 have tk:∀a∈[y,lv,st,fl,rd]++(enA pre++([e.b,e.t,e.d]++enA ľ)),h a≠eZ:=λa ha=>x.taken (by show a∈[y,lv,st,fl,rd]++enA (pre++e::ľ);rw[YF];exact ha);have fr:∀{a c:Ad},(a=c\/h a=eZ)->∀z,z∈[y,lv,st,fl,rd]++(enA pre++([e.b,e.t,e.d]++enA ľ))->z≠c->z≠a:=λf z hz nc e=>by
  subst e;rcases f with f|f
  .exact nc f
  .exact tk z hz f
 refine⟨ex.get (nb _<|by simp) x.ins,ex.get (nb _<|by simp) x.lives,?_,ex.get (nb _<|by simp) x.fallen,ex.get (nb _<|by simp) x.road,λq hq=>?_,?_,?_⟩
 .have:=ex.get (nb st<|by simp) x.stand;dsimp only at this ⊢;rw[this];unfold O.stands;simp
 .dsimp only at hq;rcases å.mp hq with z|z
  .exact key q<|Ö _ z
  .rcases Ç.mp z with rfl|z
   .exact hb
   .exact key q<|Ê _ z
 .show([y,lv,st,fl,rd]++enA (pre++⟨e.num,e.b,t,d,B⟩::ľ)).Nodup;rw[YF];dsimp only;have n1:=ç.mp nd0;have n2:=ç.mp n1.2.1;have n3:=ç.mp n2.2.1;have e3:e.b≠e.t/\e.b≠e.d/\e.t≠e.d:=by
   have:=n3.1;simp only[ć,Ç,Ø,or_false,not_or,ı,and_true,not_false_eq_true]at this;exact⟨this.1.1,this.1.2,this.2⟩
  have out:∀z,z∈[y,lv,st,fl,rd]\/z∈enA pre\/z∈enA ľ->z∉[e.b,t,d]:=λz hz m=>by
   have hza:z∈[y,lv,st,fl,rd]++(enA pre++([e.b,e.t,e.d]++enA ľ)):=by
    rcases hz with q|q|q
    .exact Ö _ q
    .exact Ê _<|Ö _ q
    .exact Ê _<|Ê _<|Ê _ q
   have nz:∀c∈[e.b,e.t,e.d],z≠c:=λc hc w=>by
    rcases hz with q|q|q
    .exact n1.2.2 z q c (Ê _<|Ö _ hc) w
    .exact n2.2.2 z q c (Ö _ hc) w
    .exact n3.2.2 c hc z q w.symm
   simp only[Ç,Ø,or_false]at m;rcases m with m|m|m
   .exact nz e.b (by simp) m
   .exact fr ft z hza (nz e.t<|by simp) m
   .exact fr fd z hza (nz e.d<|by simp) m
  refine ç.mpr ⟨n1.1,ç.mpr ⟨n2.1,ç.mpr ⟨?_,n3.2.1,λa ha b hb z=>out b (.inr<|.inr hb)<|z▸ha⟩,λa ha b hb z=>?_⟩,λa ha b hb z=>?_⟩
  .simp[hb.nbt,hb.nbd,hb.ne]
  .rcases å.mp hb with q|q
   .exact out a (.inr<|.inl ha)<|z▸q
   .exact n2.2.2 a ha b (Ê _ q) z
  .rcases å.mp hb with q|q
   .exact n1.2.2 a ha b (Ö _ q) z
   .rcases å.mp q with q|q
    .exact out a (.inl ha)<|z▸q
    .exact n1.2.2 a ha b (Ê _<|Ê _ q) z
 .have:=x.key;simpa using this
def fu.inner{pre:List En}(x:fu h Y)(he:Y.es=pre++e::ľ)(ex:Ex [e.b,e.t,e.d] h g)(hb:fq g e.b e.t e.d B):fu g {Y with es:=pre ++ {e with B:=B} :: ľ}:=by
 obtain⟨y,lv,st,fl,rd,bs,ts,most,lives,es,fallen,road⟩:=Y;dsimp only at he;subst he;have nd0:([y,lv,st,fl,rd]++(enA pre++([e.b,e.t,e.d]++enA ľ))).Nodup:=by rw[<-YF];exact x.nd
 have n1:=ç.mp nd0;have n2:=ç.mp n1.2.1;have n3:=ç.mp n2.2.1;have nb:∀a∈[y,lv,st,fl,rd],a∉[e.b,e.t,e.d]:=λa ha z=>n1.2.2 a ha a (Ê _<|Ö _ z) rfl;have key:∀q,q∈pre\/q∈ľ->fq g q.b q.t q.d q.B:=λq hq=>by
  have hq':q∈pre++e::ľ:=by
   rcases hq with z|z
   .exact Ö _ z
   .exact Ê _<|Þ _ z
  have nq:∀a∈[q.b,q.t,q.d],a∉[e.b,e.t,e.d]:=λa ha z=>by
   rcases hq with hq|hq
   .exact n2.2.2 a (ť.mpr ⟨q,hq,ha⟩) a (Ö _ z) rfl
   .exact n3.2.2 a z a (ť.mpr ⟨q,hq,ha⟩) rfl
  exact(x.brs q hq').keep ex (nq _<|by simp) (nq _<|by simp) (nq _<|by simp)
 refine⟨ex.get (nb _<|by simp) x.ins,ex.get (nb _<|by simp) x.lives,?_,ex.get (nb _<|by simp) x.fallen,ex.get (nb _<|by simp) x.road,λq hq=>?_,?_,?_⟩
 .have:=ex.get (nb st<|by simp) x.stand;dsimp only at this ⊢;rw[this];unfold O.stands;simp
 .dsimp only at hq;rcases å.mp hq with z|z
  .exact key q<|.inl z
  .rcases Ç.mp z with rfl|z
   .exact hb
   .exact key q<|.inr z
 .show([y,lv,st,fl,rd]++enA (pre ++ {e with B:=B} :: ľ)).Nodup;rw[YF];exact nd0
 .have:=x.key;dsimp only at this ⊢;simpa using this
def HW{xs:List Val}{v:Val}{p:Nat}{K:Val×Hs->Prop}(e1:h a=eY (.lst xs))(e:xs[p]?=eY v)(m:xs.length<=500000)(q:K (v,upd h a<|.lst<|xs.eraseIdx p)):go (bmV h .popAt (.ref a) [.int p]) K:=by
 have hp:p<xs.length:=(Ò.mp e).1;have h1:-(2 ^ 62)<(p:Int)/\(p:Int)<2 ^ 62:=by
  have:(p:Int)<500000:=by lia
  exact⟨Int.lt_of_lt_of_le (by decide:(-(2 ^ 62):Int)<0)<|eX p,Int.lt_trans this<|by decide⟩
 have h2:ixN xs.length (p:Int)=eY p:=by unfold ixN;rw[gD<|eX p,gD (by lia),ä]
 have h3:bmPopAt h [.int p] a xs=eY (v,upd h a<|.lst<|xs.eraseIdx p):=by unfold bmPopAt;dsimp only;rw[gD h1,h2];simp only[è,e,œ]
 exact fi (by show(fv<|h a).bind (bmPopAt h [.int p] a)=_;rw[lsE e1,è];exact h3) q
def Ko{α β:Type}(f:α->β):∀(l:List α) (i:Nat),(l.map f).eraseIdx i=(l.eraseIdx i).map f
 |[],_=>by simp
 |_::_,0=>by simp
 |x::l,i+1=>by simp[Ko f l i]
section
variable {Y:Yd}{p:Nat}
variable {r:Int×Int×Int×L}
def XC(x:fu h Y)(hr:Y.road[p]?=eY r)(hl:Y.road.length<=500000)(k:∀g,fu g {Y with road:=Y.road.eraseIdx p}->Ex [Y.rd] h g->Q (rdV r) g):wF P (n+1) "Yard.take_off" [.ref Y.y,.int p] h Q X:=by have xi:=x.ins;have xr:=x.road;have hp:p<Y.road.length:=(Ò.mp hr).1;have hrl:(Y.road.map rdV).length=Y.road.length:=Ã _;refine WB ?_;fail;refine f6 (by simp) ?_;fail;refine f7 (by rw[hrl];simpa using hp) ?_;refine' HW xr (by rw[Ú,hr];rfl) (by lia) ?_;rw[Ko];exact k _ (x.setRoad _) (Ex.upd<|by simp)
def FW{pre:List En}(x:fu h Y)(hr:Y.road[p]?=eY r)(hl:Y.road.length<=500000)(he:Y.es=pre++e::ľ)(hg:r.2.1=e.num)(o:e.B.ok)
  (k:∀g,fu g {Y with es:=pre ++ {e with B:=Z0 e.B r.2.2.1 r.2.2.2} :: ľ,road:=Y.road.eraseIdx p}->Ex Y.adr h g->Q .non g):wF P (n+3) "Yard.come" [.ref Y.y,.int p] h Q X:=by
 have xi:=x.ins;have hm:e∈Y.es:=by rw[he];simp
 have lk:(stands Y.es).lookup r.2.1=eY e.b:=by rw[hg];exact WM (by rw[ZE];exact x.key)<|Ü.mpr ⟨e,hm,rfl⟩
 refine Wz ?_;refine' XC x hr hl λg1 y1 x1=>?_;have yi:=y1.ins;have ys:=y1.stand;have ba:=y1.brs e hm;have bi:=ba.ins;dsimp only at yi ys;obtain⟨rs,rg,rt,rl⟩:=r;dsimp only at lk hg k
 exists W1 ys rfl
 rw[YS,lk];walk_at "p";refine ZN ys rfl (by rw[Z5,lk];rfl) ?_;refine' Fy ba o λg2 b2 x2=>?_;have y2:=y1.inner (e:=e) he (x2.sub<|by simp) b2;have mA:=Wr hm;refine' k g2 y2 ((x1.sub λa ha=>?_).trans<|x2.sub λa ha=>?_)
 .rw[à.mp ha];exact Ö _ (by simp)
 .rw[à.mp ha];exact Ê _ mA.2.2
def Cv(x:fu h Y)(hr:Y.road[p]?=eY r)(hl:Y.road.length<=500000)(hg:r.2.1∉Y.es.map (·.num))
  (k:∀g,fu g {Y with road:=Y.road.eraseIdx p}->Ex Y.adr h g->Q .non g):wF P (n+3) "Yard.come" [.ref Y.y,.int p] h Q X:=by
 have xi:=x.ins;have lk:(stands Y.es).lookup r.2.1=eZ:=by
  cases z:(stands Y.es).lookup r.2.1 with
  |none=>rfl
  |some q =>have:=ā (f:=(·.1))<|Zy z;rw[ZE]at this;exact gJ this hg
 refine Wz ?_;refine' XC x hr hl λg1 y1 x1=>?_;have yi:=y1.ins;have ys:=y1.stand;dsimp only at yi ys;obtain⟨rs,rg,rt,rl⟩:=r;dsimp only at lk hg k
 exists W1 ys rfl
 rw[YS,lk];walk_at "p";exact k g1 y1 (x1.sub λa ha=>by rw[à.mp ha];exact Ö _<|by simp)
end
abbrev Yb(k:Int)(F:Br->Br)(es:List En):List En:=es.map λe=>if e.num=k then {e with B:=F e.B} else e
def X1{k:Int}{F:Br->Br}:∀{es:List En},k∉es.map (·.num)->Yb k F es=es
 |[],_=>rfl
 |e::es,h=>by rw[Ï,Ç,not_or]at h;unfold Yb;rw[Ï,gE λz=>h.1 z.symm];exact congrArg (e :: ·)<|X1 h.2
variable {F:Br->Br}
def Nf{pre:List En}(nd:((pre++e::ľ).map (·.num)).Nodup):Yb e.num F (pre++e::ľ)=pre ++ {e with B:=F e.B} :: ľ:=by rw[ã,Ï,ç,ć]at nd;have h1:Yb e.num F pre=pre:=X1 λz=>nd.2.2 _ z e.num (by simp) rfl;have h2:Yb e.num F ľ=ľ:=X1 nd.2.1.1;unfold Yb at h1 h2 ⊢;rw[ã,Ï,h1,h2,gD rfl]
def Nj{k:Int}(es:List En):(Yb k F es).map (·.num)=es.map (·.num):=by unfold Yb;rw[ý];refine ħ λe _=>?_;show(if e.num=k then({e with B:=F e.B}:En)else e).num=e.num;split<;>rfl
def NG{k:Int}(es:List En):stands (Yb k F es)=stands es:=by unfold Yb stands;rw[ý];refine ħ λe _=>?_;show((if e.num=k then({e with B:=F e.B}:En)else e).num,(if e.num=k then({e with B:=F e.B}:En)else e).b)=_;split<;>rfl
def XX{k:Int}{F:Br->Br}:∀es:List En,enA (Yb k F es)=enA es
 |[]=>rfl
 |e::es=>by have:=XX (k:=k) (F:=F) es;unfold Yb enA at this ⊢;rw[Ï,ŷ,ŷ,this];split<;>rfl
def Nl{k:Int}{q:En}(h:q∈Yb k F es):(q∈es/\q.num≠k)\/∃e∈es,e.num=k/\q={e with B:=F e.B}:=by
 obtain⟨e,he,rfl⟩:=Ü.mp h;by_cases z:e.num=k
 .right;exact⟨e,he,z,by rw[gD z]⟩
 .left;rw[gE z];exact⟨he,z⟩
abbrev tieF(on:Bool)(p:Int)(far c:Int)(B:Br):Br:=if on then upB B p (far,c)else Dz B p
abbrev setT(on:Bool)(p:Int)(t:Tie)(es:List En):List En:=Yb t.2.1 (tieF on p t.1 t.2.2)<|Yb t.1 (tieF on p t.2.1 t.2.2) es
abbrev onT(Y:Yd)(p:Int)(t:Tie):Bool:=!(Y.fallen.lookup p).isSome&&(((stands Y.es).lookup t.1).isSome&&((stands Y.es).lookup t.2.1).isSome)
section
variable {Y:Yd}
def fu.one(x:fu h Y)(he:e∈Y.es)(ex:Ex [e.b,e.t,e.d] h g)(hb:fq g e.b e.t e.d<|F e.B):fu g {Y with es:=Yb e.num F Y.es}:=by obtain⟨pre,ľ,hs⟩:=dY he;have k:=x.key;rw[hs]at k;rw[hs,Nf k];exact x.inner hs ex hb
end
noncomputable abbrev GD:Ss:=#[.ite (.val<|.var 5) #[.expr<|.meth "Bridge" "up" (.idx (.fld (.var 0) "standing")<|.var 6) #[.var 1,.var 7,.var 4]] #[.ite (.val<|.cmp .isin (.var 6)<|.fld (.var 0) "standing") #[.expr<|.meth "Bridge" "down" (.idx (.fld (.var 0) "standing")<|.var 6) #[.var 1]] .nil]]
section
variable {Y:Yd}
def Mw{p:Nat}{t1 t2:Int}{on:Bool}{v6 v7:Option Val}{R:NQ}(x:fu h Y)(hn:t1≠t2)(gd:∀e∈Y.es,e.B.ok)(hon:∀near far:Int,(near=t1/\far=t2\/near=t2/\far=t1)->on=fb->∃b,(stands Y.es).lookup near=eY b)
  (k:∀g e,fu g {Y with es:=setT on p (t1,t2,c) Y.es}->Ex Y.adr h g->R e g) :
  wFor (λ_=>True) (λv e g K M=>go (bind (.many [6,7]) g v e) λe2=>wSs (wF P<|n+1) GD e2 g K Q M K λ_ c g=>X c g) R [.tup [.int t1,.int t2],.tup [.int t2,.int t1]] [eY<|.ref Y.y,eY<|.int p,eY<|.int t1,eY<|.int t2,eY<|.int c,eY<|.bl on,v6,v7] h:=by
 refine Zr (λi e g=>∃v6 v7 es',e=[eY<|.ref Y.y,eY<|.int p,eY<|.int t1,eY<|.int t2,eY<|.int c,eY<|.bl on,v6,v7]/\fu g {Y with es:=es'}/\Ex Y.adr h g/\(i=0->es'=Y.es)/\(i=1->es'=Yb t1 (tieF on p t2 c) Y.es)/\(i=2->es'=setT on p (t1,t2,c) Y.es)) ⟨_,_,Y.es,rfl,x,Ex.refl,λ_=>rfl,λz=>(by cases z),λz=>(by cases z)⟩ (λ_ _ _ _ _=>trivial) ?_ ?_
 .rintro i v e g hv ⟨u6,u7,es',rfl,y,xg,q0,q1,q2⟩ K hK;obtain⟨near,far,rfl,hnf,ι,heA,hgd,hnext⟩:∃near far,v=.tup [.int near,.int far]/\(near=t1/\far=t2\/near=t2/\far=t1)/\stands es'=stands Y.es/\enA es'=enA Y.es/\(∀e∈es',e.num=near->e.B.ok)/\∀dI,dI=Yb near (tieF on p far c) es'->(i+1=0->dI=Y.es)/\(i+1=1->dI=Yb t1 (tieF on p t2 c) Y.es)/\(i+1=2->dI=setT on p (t1,t2,c) Y.es):=by
   match i,hv with
   |0,hv =>cases hv;have:=q0 rfl;subst this;exact⟨t1,t2,rfl,.inl ⟨rfl,rfl⟩,rfl,rfl,λe he _=>gd e he,λdI z=>⟨λy=>(by cases y),λ_=>z,λy=>(by cases y)⟩⟩
   |1,hv =>
    cases hv;have:=q1 rfl;subst this;refine⟨t2,t1,rfl,.inr ⟨rfl,rfl⟩,NG _,XX _,λe he hz=>?_,λdI z=>⟨λy=>(by cases y),λy=>(by cases y),λ_=>z⟩⟩;rcases Nl he with⟨hm,_⟩|⟨q,hq,hq1,hq2⟩
    .exact gd e hm
    .exact gJ (by rw[hq2]at hz;exact hq1.symm.trans hz) hn
   |i+2,hv=>simp at hv
  have yi:=y.ins;have ys:=y.stand;dsimp only at yi ys;have step:∀{e:En}{g':Hs},e∈es'->e.num=near->Ex [e.b,e.t,e.d] g g'->fq g' e.b e.t e.d (tieF on p far c e.B)->∀w6 w7,K [eY<|.ref Y.y,eY<|.int p,eY<|.int t1,eY<|.int t2,eY<|.int c,eY<|.bl on,w6,w7] g':=λ{e g'} he ű ex hb w6 w7=>by
   have y':=y.one (F:=tieF on p far c) he ex hb;rw[ű]at y';have mA:=Wr he;refine hK _ _ ⟨w6,w7,_,rfl,y',xg.trans<|ex.sub λa ha=>?_,hnext _ rfl⟩;refine Ê _ ?_;rw[<-heA];simp only[Ç,Ø,or_false]at ha;rcases ha with rfl|rfl|rfl
   .exact mA.1
   .exact mA.2.1
   .exact mA.2.2
  fail;cases hob:on with
  |true =>
   obtain⟨b,lk⟩:=hon near far hnf hob;rw[<-ι]at lk;obtain⟨e,pre,ľ,hs,ű,hbb⟩:=Y4 lk;have hm:e∈es':=by rw[hs];simp
   have ba:=y.brs e hm;have bi:=ba.ins;subst hbb;refine f6 rfl ?_;refine' ZN ys rfl (by rw[Z5,lk];rfl) ?_;refine' P9 ba (hgd e hm ű) λg' b' x'=>?_;fail;rw[<-hob];exact step hm ű (x'.sub<|by simp) (by unfold tieF;rw[hob];exact b') _ _
  |false =>
   refine f7 rfl ?_
   exists W1 ys rfl
   rw[YS];cases hlk:(stands es').lookup near with
   |none =>
    walk_at "p";rw[<-hob];refine hK _ _ ⟨_,_,es',rfl,y,xg,hnext es' (X1 ?_).symm⟩;have:=Xn hlk
    rwa [ZE]at this
   |some b =>
    obtain⟨e,pre,ľ,hs,ű,hbb⟩:=Y4 hlk;have hm:e∈es':=by rw[hs];simp
    have ba:=y.brs e hm;have bi:=ba.ins;subst hbb;walk_at "p";refine ZN ys rfl (by rw[Z5,hlk];rfl) ?_;refine' GI ba λg' b' x'=>?_;fail;rw[<-hob];exact step hm ű (x'.sub<|by simp) (by unfold tieF;rw[hob];exact b') _ _
 .rintro e g ⟨u6,u7,es',rfl,y,xg,q0,q1,q2⟩;have:=q2 rfl;subst this;exact k _ _ y xg
def Wo{p:Nat}{t:Tie}(x:fu h Y)(et:Y.ts[p]?=eY t)(hn:t.1≠t.2.1)(gd:∀e∈Y.es,e.B.ok)(k:∀g,fu g {Y with es:=setT (onT Y p t) p t Y.es}->Ex Y.adr h g->Q .non g):wF P (n+2) "Yard.set_tie" [.ref Y.y,.int p] h Q X:=by
 have xi:=x.ins;have xs:=x.stand;have xf:=x.fallen;obtain⟨t1,t2,c⟩:=t;dsimp only at hn;have fin:onT Y p (t1,t2,c)=onT Y p (t1,t2,c)->∀near far:Int,(near=t1/\far=t2\/near=t2/\far=t1)->onT Y p (t1,t2,c)=fb->∃b,(stands Y.es).lookup near=eY b:=λ_ near far hv ho=>by
  simp only[onT,bAq]at ho;rcases hv with⟨rfl,_⟩|⟨rfl,_⟩
  .exact û.mp ho.2.1
  .exact û.mp ho.2.2
 refine Jr ?_
 exists fj (xs:=[.tup<|Y.bs.map .int,.tup<|Y.ts.map trV]) (v:=.tup<|Y.ts.map trV) rfl
 refine' fj (v:=.tup [.int t1,.int t2,.int c]) (Xd (by lia)<|by rw[Ú,ä,et];rfl) ?_
 exists Xs xf rfl
 rw[YS];obtain⟨on,hon⟩:∃on:Bool,on=onT Y p (t1,t2,c):=⟨_,rfl⟩
 rw[<-hon]at k fin;have fin:=fin rfl;cases e1:(Y.fallen.lookup (p:Int)).isSome with
 |true =>
  have z:fc=on:=by rw[hon];unfold onT;rw[e1];rfl
  walk_at "p";rw[z];exact Mw x hn gd fin λg e y xg=>by fail;exact k g y xg
 |false =>
  walk_at "p";refine W1 xs rfl ?_;rw[YS];cases e2:((stands Y.es).lookup t1).isSome with
  |false =>
   have z:fc=on:=by rw[hon];unfold onT;rw[e1,e2];rfl
   walk_at "p";rw[z];exact Mw x hn gd fin λg e y xg=>by fail;exact k g y xg
  |true =>
   walk_at "p";refine W1 xs rfl ?_;rw[YS];have z:((stands Y.es).lookup t2).isSome=on:=by rw[hon];unfold onT;rw[e1,e2];rfl
   rw[z];refine' Mw x hn gd fin λg e y xg=>by fail;exact k g y xg
end
variable {on:Bool}
def K3{p far:Int}(o:B.ok)(h0:0<=p)(h1:p<16):(tieF on p far c B).ok:=by
 unfold tieF;split
 .exact o.up h0 h1
 .exact o.down p
def Ug{k:Int}(gd:∀e∈es,e.B.ok)(hF:∀B,B.ok->(F B).ok):∀e∈Yb k F es,e.B.ok:=λq hq=>by
 rcases Nl hq with⟨hm,_⟩|⟨e,he,_,rfl⟩
 .exact gd q hm
 .exact hF _<|gd e he
def E5{p:Int}{t:Tie}(gd:∀e∈es,e.B.ok)(h0:0<=p)(h1:p<16):∀e∈setT on p t es,e.B.ok :=
 Ug (Ug gd λ_ o=>K3 o h0 h1) λ_ o=>K3 o h0 h1
def CP{p:Int}{t:Tie}(es:List En):(setT on p t es).map (·.num)=es.map (·.num):=by unfold setT;rw[Nj,Nj]
def W7{p:Int}{t:Tie}(es:List En):enA (setT on p t es)=enA es:=by unfold setT;rw[XX,XX]
abbrev ZQ(Y:Yd)(l:List Tie):Yd:=l.foldl (λY r=>{Y with es:=setT (onT Y r.1<|Y.ts[r.1.toNat]?.getD (0,0,0)) r.1 (Y.ts[r.1.toNat]?.getD (0,0,0)) Y.es}) Y
def Jf(Y:Yd)(l:List Tie)(r:Tie):ZQ Y (l++[r])={ZQ Y l with es:=setT (onT (ZQ Y l) r.1<|(ZQ Y l).ts[r.1.toNat]?.getD (0,0,0)) r.1 ((ZQ Y l).ts[r.1.toNat]?.getD (0,0,0)) (ZQ Y l).es}:=by unfold ZQ;rw[List.foldl_append];rfl
structure Same(Y Z:Yd):Prop where
 y:Z.y=Y.y
 lv:Z.lv=Y.lv
 st:Z.st=Y.st
 fl:Z.fl=Y.fl
 rd:Z.rd=Y.rd
 bs:Z.bs=Y.bs
 ts:Z.ts=Y.ts
 most:Z.most=Y.most
 lives:Z.lives=Y.lives
 fallen:Z.fallen=Y.fallen
 road:Z.road=Y.road
 num:Z.es.map (·.num)=Y.es.map (·.num)
 enA:enA Z.es=enA Y.es
variable {Z:Yd}
def Same.adr(s:Same Y Z):Z.adr=Y.adr:=by unfold Yd.adr;rw[s.y,s.lv,s.st,s.fl,s.rd,s.enA]
def Same.refl:Same Y Y:=⟨rfl,rfl,rfl,rfl,rfl,rfl,rfl,rfl,rfl,rfl,rfl,rfl,rfl⟩
variable {W:Yd}
def Same.trans(a:Same Y Z)(b:Same Z W):Same Y W:=⟨b.y.trans a.y,b.lv.trans a.lv,b.st.trans a.st,b.fl.trans a.fl,b.rd.trans a.rd,b.bs.trans a.bs,b.ts.trans a.ts,b.most.trans a.most,b.lives.trans a.lives,b.fallen.trans a.fallen,b.road.trans a.road,b.num.trans a.num,b.enA.trans a.enA⟩
def Same.setT{p:Int}{t:Tie}:Same Y {Y with es:=setT on p t Y.es}:=⟨rfl,rfl,rfl,rfl,rfl,rfl,rfl,rfl,rfl,rfl,rfl,CP _,W7 _⟩
def YO:∀(l:List Tie) (Y:Yd),Same Y (ZQ Y l)
 |[],_=>.refl
 |_::l,_=>Same.setT.trans<|YO l _
section
variable {Y:Yd}
def JD{b:Int}(no:fB Y.bs Y.ts)(x:fu h Y)(gd:∀e∈Y.es,e.B.ok)(k:∀g,fu g (ZQ Y<|gu b 0 Y.ts)->(∀e∈(ZQ Y<|gu b 0 Y.ts).es,e.B.ok)->Ex Y.adr h g->Q .non g):wF P (n+3) "Yard.set_ties_of" [.ref Y.y,.int b] h Q X:=by
 have xi:=x.ins;have h16:=no.sixteen;refine XD ?_;refine' Xq no.sixteen λp g0 hp x0 e0=>?_;fail;have x':=x.ext x0;have npA:p∉Y.adr:=λz=>x.taken z hp;refine Zr (λi e g=>Sm3 λv2 v3 v4=>Cj4 (e=[eY<|.ref Y.y,eY<|.int b,v2,v3,v4]) (fu g<|ZQ Y<|(gu b 0 Y.ts).take i) ((∀e∈(ZQ Y<|(gu b 0 Y.ts).take i).es,e.B.ok))<|Ex Y.adr g0 g) ⟨_,_,_,rfl,x',gd,Ex.refl⟩ (λi e g _ ⟨_,_,_,_,_,_,z⟩=>lsE<|z.get npA e0) ?_ ?_
 .rintro i v e g hv ⟨v2,v3,v4,rfl,y,gi,xg⟩ K hK;obtain⟨r,hr,rfl⟩:=ZY hv;have sm:=YO ((gu b 0 Y.ts).take i) Y;have rg:=(JR (b:=b) (l:=Y.ts) (k:=0)).2 r<|õ hr;obtain⟨q,hq⟩:∃q:Nat,r.1=q:=⟨r.1.toNat,by lia⟩
  have hql:q<Y.ts.length:=by lia
  have et:(ZQ Y<|(gu b 0 Y.ts).take i).ts[q]?=eY Y.ts[q]:=by rw[sm.ts];exact É hql
  have lo:=no.tie _<|ţ hql;have yi:=y.ins;rw[sm.y]at yi;obtain⟨r1,r2,r3⟩:=r;dsimp only at hq;subst hq;unfold trV;fail;rw[<-sm.y];refine Wo y et (by have:=lo.2.2.1;lia) gi λg1 y1 xg1=>?_;rw[sm.adr]at xg1;fail;rw[sm.y];refine hK _ _ ⟨_,_,_,rfl,?_,?_,xg.trans xg1⟩
  .rw[Zp hr,Jf];dsimp only;rw[ä,et];exact y1
  .rw[Zp hr,Jf];dsimp only;rw[ä,et];exact E5 gi (by lia) (by lia)
 .rintro e g ⟨v2,v3,v4,rfl,y,gi,xg⟩;rw[Ã,ø]at y gi;refine' k g y gi ((Ex.of x0).trans xg)
end
abbrev Yu(b:Int)(es:List En):List En:=es.filter λe=>gK (e.num≠b)
def Mu(b:Int)(es:List En):Zv (stands es) b=stands (Yu b es):=by unfold Zv stands Yu;rw[List.filter_map];rfl
def Xl(b:Int)(es:List En):(Yu b es).Sublist es:=ŧ
def WL{fs:List En}(h:es.Sublist fs):(enA es).Sublist<|enA fs:=by
 induction h with
 |slnil=>exact .slnil
 |cons a _ ih=>unfold enA at ih ⊢;rw[ŷ];exact ih.trans<|List.sublist_append_right _ _
 |cons_cons a _ ih=>unfold enA at ih ⊢;rw[ŷ,ŷ];exact(Ũ _).append ih
def fu.drop(x:fu h Y)(b:Int):fu (upd h Y.st<|.dct<|Zl rfV<|O.stands<|Yu b Y.es) {Y with es:=Yu b Y.es}:=by
 obtain⟨⟨a1,a2,a3,a4⟩,⟨b1,b2,b3⟩,⟨c1,c2⟩,d1⟩:=Yd.five x.nd;have sb:=Xl b Y.es;have nb:∀a∈enA (Yu b Y.es),a≠Y.st:=λa ha=>Yd.sep x.nd (by simp)<|(WL sb).subset ha;refine⟨(fe a2).trans x.ins,(fe b1).trans x.lives,ff,(fe c1.symm).trans x.fallen,(fe c2.symm).trans x.road,λq hq=>(x.brs q<|sb.subset hq).off hq nb,?_,?_⟩
 .exact((Ũ _).append<|WL sb).nodup x.nd
 .exact(sb.map _).nodup x.key
def fu.setFallen(x:fu h Y)(l:List<|Int×Bool):fu (upd h Y.fl<|.dct<|Zl Val.bl l) {Y with fallen:=l}:=by obtain⟨⟨a1,a2,a3,a4⟩,⟨b1,b2,b3⟩,⟨c1,c2⟩,d1⟩:=Yd.five x.nd;exact⟨(fe a3).trans x.ins,(fe b2).trans x.lives,(fe c1).trans x.stand,ff,(fe d1.symm).trans x.road,λe he=>(x.brs e he).off he λb hb=>Yd.sep x.nd (by simp) hb,x.nd,x.key⟩
section
variable {Y:Yd}
def D9{b:Int}(no:fB Y.bs Y.ts)(x:fu h Y)(gd:∀e∈Y.es,e.B.ok)(hb:b∈Y.es.map (·.num))(k:∀g,fu g (ZQ {Y with es:=Yu b Y.es}<|gu b 0 Y.ts)->(∀e∈(ZQ {Y with es:=Yu b Y.es}<|gu b 0 Y.ts).es,e.B.ok)->Ex Y.adr h g->Q .non g):wF P (n+4) "Yard.fall_of_bridge" [.ref Y.y,.int b] h Q X:=by
 have xi:=x.ins;have xs:=x.stand;obtain⟨a,lk⟩:∃a,(stands Y.es).lookup b=eY a:=ZG (by rw[ZE];exact hb);refine YW ?_
 exists Xs xs rfl
 rw[YS,lk];walk_at "p";refine DL xs rfl (by rw[Z5,lk];rfl) ?_;rw[Wd,Mu];dsimp only;have y1:=x.drop b;have x1:Ex Y.adr h<|upd h Y.st<|.dct<|Zl rfV<|stands<|Yu b Y.es:=Ex.upd (Ö _<|by simp);generalize upd h Y.st (.dct<|Zl rfV<|stands<|Yu b Y.es)=g1 at y1 x1;have yi:=y1.ins;dsimp only at yi;refine' JD (Y:={Y with es:=Yu b Y.es}) no y1 (λe he=>gd e<|(Xl b Y.es).subset he) λg2 y2 gd2 x2=>?_;refine' k g2 y2 gd2 (x1.trans<|x2.sub λa ha=>?_);exact((Ũ _).append<|WL<|Xl b Y.es).subset ha
end
section
variable {Y:Yd}
def Dl{p:Nat}{t:Tie}(no:fB Y.bs Y.ts)(x:fu h Y)(gd:∀e∈Y.es,e.B.ok)(et:Y.ts[p]?=eY t)(hf:Y.fallen.lookup (p:Int)=eZ)(hl:Y.fallen.length<=100)(k:∀g,fu g {Y with fallen:=Zx Y.fallen p fb,es:=setT (onT {Y with fallen:=Zx Y.fallen p fb} p t) p t Y.es}->Ex Y.adr h g->Q .non g):wF P (n+3) "Yard.fall_of_tie" [.ref Y.y,.int p] h Q X:=by
 have xi:=x.ins;have xf:=x.fallen;have hp:p<Y.ts.length:=(Ò.mp et).1;have htl:(Y.ts.map trV).length=Y.ts.length:=Ã _;have lo:=no.tie _<|õ et;refine XG ?_
 exists YZ
 fail;refine f6 (by simp) ?_
 exists fj (xs:=[.tup<|Y.bs.map .int,.tup<|Y.ts.map trV]) (v:=.tup<|Y.ts.map trV) rfl
 fail;refine f7 (by rw[htl];simpa using hp) ?_
 exists W1 xf rfl
 rw[YS,hf];walk_at "p";refine Yz (k:=.int p) xf ⟨rfl,by rw[J6];exact Û hl<|by decide⟩ ?_;rw[Z2 (val:=Val.bl)];have y1:=x.setFallen<|Zx Y.fallen p fb;have x1:Ex Y.adr h<|upd h Y.fl<|.dct<|Zl Val.bl<|Zx Y.fallen p fb:=Ex.upd (Ö _<|by simp);generalize upd h Y.fl (.dct<|Zl Val.bl<|Zx Y.fallen p fb)=g1 at y1 x1;have yi:=y1.ins;dsimp only at yi;refine' Wo (Y:={Y with fallen:=Zx Y.fallen p fb}) y1 et (by have:=lo.2.2.1;lia) gd λg2 y2 x2=>?_;refine' k g2 y2 (x1.trans x2)
def Bx{p:Nat}{t:Tie}(no:fB Y.bs Y.ts)(x:fu h Y)(gd:∀e∈Y.es,e.B.ok)(et:Y.ts[p]?=eY t){v:Bool}(hf:Y.fallen.lookup (p:Int)=eY v)(k:∀g,fu g {Y with fallen:=Zv Y.fallen p,es:=setT (onT {Y with fallen:=Zv Y.fallen p} p t) p t Y.es}->Ex Y.adr h g->Q .non g):wF P (n+3) "Yard.back_of_tie" [.ref Y.y,.int p] h Q X:=by
 have xi:=x.ins;have xf:=x.fallen;have lo:=no.tie _<|õ et;refine Xy ?_
 exists Xs xf rfl
 rw[YS,hf];walk_at "p";refine DL xf rfl (by rw[Z5,hf];rfl) ?_;rw[Wd];dsimp only;have y1:=x.setFallen<|Zv Y.fallen p;have x1:Ex Y.adr h<|upd h Y.fl<|.dct<|Zl Val.bl<|Zv Y.fallen p:=Ex.upd (Ö _<|by simp);generalize upd h Y.fl (.dct<|Zl Val.bl<|Zv Y.fallen p)=g1 at y1 x1;have yi:=y1.ins;dsimp only at yi;refine' Wo (Y:={Y with fallen:=Zv Y.fallen p}) y1 et (by have:=lo.2.2.1;lia) gd λg2 y2 x2=>?_;refine' k g2 y2 (x1.trans x2)
end
def O0:(ZV own life most []).ok:=⟨ı,(λ_ m=>nomatch m),ı,(λ_ m=>nomatch m)⟩
def Ak{k:Int}{v:α}:(Zx kvs k v).lookup k=eY v:=by
 unfold Zx;split
 .rename_i h;induction kvs with
  |nil=>cases h
  |cons p r ih =>
   rw[Ï,ñ];by_cases e:p.1=k
   .simp[e]
   .have e2:(k==p.1)=fc:=by simpa using λz=>e z.symm
    rw[ñ,e2]at h;simp only[e,if_false,e2];exact ih h
 .rename_i h;have h:kvs.lookup k=eZ:=ai.mp h;rw[List.lookup_append,h];simp
section
variable {Y:Yd}
def BH{b:Int}(no:fB Y.bs Y.ts)(x:fu h Y)(gd:∀e∈Y.es,e.B.ok)(hlv:Y.lives.lookup b=eY life)(hb:b∉Y.es.map (·.num))(hl:Y.lives.length<=100)(hel:Y.es.length<=100)
  (k:∀q t d g,(∀a∈[q,t,d],h a=eZ)->fu g (ZQ {Y with lives:=Zx Y.lives b<|life+1,es:=Y.es++[⟨b,q,t,d,ZV b (life+1) Y.most []⟩]}<|gu b 0 Y.ts)->(∀e∈(ZQ {Y with lives:=Zx Y.lives b<|life+1,es:=Y.es++[⟨b,q,t,d,ZV b (life+1) Y.most []⟩]}<|gu b 0 Y.ts).es,e.B.ok)->Ex Y.adr h g->Q .non g):wF P (n+4) "Yard.back_of_bridge" [.ref Y.y,.int b] h Q X:=by
 have xi:=x.ins;have xs:=x.stand;have xl:=x.lives;have lk:(stands Y.es).lookup b=eZ:=by
  cases z:(stands Y.es).lookup b with
  |none=>rfl
  |some q =>have:=ā (f:=(·.1))<|Zy z;rw[ZE]at this;exact gJ this hb
 refine YX ?_
 exists Xs xl rfl
 rw[YS,hlv];walk_at "p";refine W1 xs rfl ?_;rw[YS,lk];walk_at "p";refine ZN xl rfl (by rw[Z5,hlv];rfl) ?_;refine' Yz (k:=.int b) xl ⟨rfl,by rw[J6];exact Û hl<|by decide⟩ ?_;rw[Z2 (val:=Val.int)];have Y1:=x.setLives<|Zx Y.lives b<|life+1;have x1:Ex Y.adr h<|upd h Y.lv<|.dct<|Zl Val.int<|Zx Y.lives b<|life+1:=Ex.upd (Ö _<|by simp);have keepN:∀{a:Ad},upd h Y.lv (.dct<|Zl Val.int<|Zx Y.lives b<|life+1) a=eZ->h a=eZ:=λ{a} z=>by
  by_cases e:a=Y.lv
  .rw[e,ff]at z;cases z
  .rwa [fe e]at z
 generalize upd h Y.lv (.dct<|Zl Val.int<|Zx Y.lives b<|life+1)=g1 at Y1 x1 keepN;have zi:=Y1.ins;have zl:=Y1.lives;dsimp only at zi zl;refine' ZN zl rfl (by rw[Z5,Ak];rfl) ?_;refine' Zg λpn g7 hpn x7 en=>?_;have Y7:=Y1.ext x7;have yi7:=Y7.ins;dsimp only at yi7;fail;intro q hq;have xq:Ext g7<|upd g7 q<|.ins "Bridge" []:=Ext.new hq;have eq:(upd g7 q<|.ins "Bridge" []) q=eY (.ins "Bridge" []):=ff;refine Uz (rs:=[]) eq (xq.get en) (by simp) (by simp) λt d g8 ht hd ba x8=>?_;have x78:Ext g7 g8:=⟨λ{a o} e=>x8.get (by simpa using Za e hq)<|xq.get e⟩
 have Y8:=Y7.ext x78;have ht7:g7 t=eZ:=by cases z:g7 t with|none=>rfl|some o=>rw[xq.get z]at ht;cases ht
 have hd7:g7 d=eZ:=by cases z:g7 d with|none=>rfl|some o=>rw[xq.get z]at hd;cases hd
 refine⟨rfl,?_⟩;have wi:=Y8.ins;have ws:=Y8.stand;dsimp only at wi ws;refine' Yz (k:=.int b) ws ⟨rfl,by rw[J6];unfold stands;rw[Ã];exact Û hel<|by decide⟩ ?_;rw[Z2 (val:=rfV),XO _<|by rw[ZE];exact hb];have ι:stands Y.es++[(b,q)]=stands (Y.es++[⟨b,q,t,d,ZV b (life+1) Y.most []⟩]):=by unfold stands;rw[ã];rfl
 rw[ι];have fr:∀a∈[q,t,d],g7 a=eZ:=λa ha=>by simp only[Ç,Ø,or_false]at ha;rcases ha with rfl|rfl|rfl<;>assumption
 have fr0:∀a∈[q,t,d],h a=eZ:=λa ha=>keepN (by cases z:g1 a with|none=>rfl|some o=>have:=fr a ha;rw[x7.get z]at this;cases this);have Y9:=Y8.stands (e:=⟨b,q,t,d,ZV b (life+1) Y.most []⟩) ba hb λa ha z=>Y7.taken z<|fr a ha;have x9:Ex Y.adr h<|upd g8 Y.st<|.dct<|Zl rfV<|stands<|Y.es++[⟨b,q,t,d,ZV b (life+1) Y.most []⟩]:=(x1.trans<|.of<|x7.trans x78).trans (Ex.upd<|Ö _<|by simp);dsimp only at Y9;generalize upd g8 Y.st (.dct<|Zl rfV<|stands<|Y.es++[⟨b,q,t,d,ZV b (life+1) Y.most []⟩])=g9 at Y9 x9;have vi:=Y9.ins;dsimp only at vi;refine' JD (Y:={Y with lives:=Zx Y.lives b<|life+1,es:=Y.es++[⟨b,q,t,d,ZV b (life+1) Y.most []⟩]}) no Y9 (λe he=>?_) λg2 y2 gd2 x2=>?_
 .rcases å.mp he with he|he
  .exact gd e he
  .rw[à.mp he];exact O0
 refine' k q t d g2 fr0 y2 gd2 ⟨λ{a o} na ha=>x2.get (λz=>?_)<|x9.get na ha⟩;have z:a∈[Y.y,Y.lv,Y.st,Y.fl,Y.rd]++enA (Y.es++[⟨b,q,t,d,ZV b (life+1) Y.most []⟩]):=z;rw[X6,<-ĳ]at z;rcases å.mp z with z|z
 .exact na z
 .rw[fr0 a z]at ha;cases ha
end
abbrev wordsL:List<|List String:=[["tick"],["come"],["lost"],["fall","bridge"],["fall","tie"],["back","bridge"],["back","tie"]]
def Go{ws:List String}(hw:ws∈wordsL)(k:∀g,Ext h g->Q (.tup [.tup<|ws.map .str,.int c]) g):wF P (n+2) "read_deed" [.tup<|ws.map .str++[.int c]] h Q X:=by
 have hc:cut (ws.map Val.str++[.int c]) eZ (eY (-1))=ws.map .str:=by simp only[wordsL,Ç,Ø,or_false]at hw;rcases hw with rfl|rfl|rfl|rfl|rfl|rfl|rfl<;>rfl
 have hlast:atI (ws.map Val.str++[.int c]) (-1)=eY (.int c):=by simp only[wordsL,Ç,Ø,or_false]at hw;rcases hw with rfl|rfl|rfl|rfl|rfl|rfl|rfl<;>rfl
 have hlen:ws.length<=2:=by simp only[wordsL,Ç,Ø,or_false]at hw;rcases hw with rfl|rfl|rfl|rfl|rfl|rfl|rfl<;>decide
 refine Nd ?_;walk_at "p";refine fZ (xs:=ws.map Val.str++[.int c]) (lo:=eZ) (hi:=eY (-1)) (by rw[ê,Ã];intro z;have:=z.2;unfold fP at this;simp at this;lia) ?_;rw[hc];refine' ⟨Û (by rw[Ã];exact hlen) (by decide),Yr (λ_=>eY<|.bl fb) trivial (λv hv K hK=>?_) ?_⟩
 .obtain⟨u,_,rfl⟩:=Ü.mp hv;walk_at "p";exact hK
 rw[show(ws.map Val.str).filterMap (λ_=>eY<|Val.bl fb)=(ws.map λ_=>fb).map Val.bl by rw[Ϭ,ý];exact congrFun (cp (f:=λ_:String=>Val.bl fb)) ws];refine Zg λp1 g1 cr x1 e1=>?_
 exists Os (bs:=ws.map λ_=>fb) e1 (YQ _)
 have ha:(ws.map λ_=>fb).all id=fb:=by simp
 fail;refine f7 (by simp) ?_;fail;have hin:∀{h:Hs},fz h .notin (.tup<|ws.map .str) (.tup<|wordsL.map λl=>.tup<|l.map .str)=eY fc:=λ{h}=>by simp only[wordsL,Ç,Ø,or_false]at hw;rcases hw with rfl|rfl|rfl|rfl|rfl|rfl|rfl<;>rfl
 refine fi (a:=fc) hin ?_;walk_at "p";refine fj hlast ?_
 exists Xz
 walk_at "p";refine fj hlast ?_;refine' k g1 x1
inductive Dd where
 |tick (b:Int)|come (b:Int)|lost (b:Int)|fallB (b:Int)|fallT (b:Int)|backB (b:Int)|backT (b:Int)
abbrev Dd.ws:Dd->List String
 |.tick _=>["tick"]|.come _=>["come"]|.lost _=>["lost"]|.fallB _=>["fall","bridge"]|.fallT _=>["fall","tie"]|.backB _=>["back","bridge"]|.backT _=>["back","tie"]
abbrev Dd.num:Dd->Int
 |.tick c=>c|.come c=>c|.lost c=>c|.fallB c=>c|.fallT c=>c|.backB c=>c|.backT c=>c
abbrev Dd.fn:Dd->String
 |.tick _=>"Yard.tick_of" | .come _=>"Yard.come" | .lost _=>"Yard.take_off" | .fallB _=>"Yard.fall_of_bridge" | .fallT _=>"Yard.fall_of_tie" | .backB _=>"Yard.back_of_bridge" | .backT _=>"Yard.back_of_tie"
noncomputable abbrev Dd.v(d:Dd):Val:=.tup<|d.ws.map .str++[.int d.num]
def Dd.words(d:Dd):d.ws∈wordsL:=by cases d<;>simp[Dd.ws,wordsL]
def MT(x:Ext h g)(hp:g p=eZ):h p=eZ:=by
 cases z:h p with
 |none=>rfl
 |some o=>rw[x.get z]at hp;cases hp
variable {ts:List Tie}
def FJ{i:Int}(h0:0<=i)(h1:i<ts.length):atI (ts.map trV) i=eY (trV<|ts[i.toNat]?.getD (0,0,0)):=by
 have h2:i.toNat<ts.length:=by lia
 refine Xd h0 ?_;rw[Ú,É h2];rfl
def As{pre:List En}(x:fu h Y)(he:Y.es=pre++e::ľ)(o:e.B.ok)(hp:∀q∈e.B.ties,q.1<Y.ts.length)(hr:Y.road.length<=100000)
  (k:∀d g,fu g {Y with es:=pre++⟨e.num,e.b,e.t,d,e.B.ticked⟩::ľ,road:=Y.road++ZI Y.ts e.num e.B.told}->h d=eZ->Ex Y.adr h g->Q .non g):wF P (n+5) "Yard.tick_of" [.ref Y.y,.int e.num] h Q X:=by
 have hm:e∈Y.es:=by rw[he];simp
 have lk:(stands Y.es).lookup e.num=eY e.b:=WM (by rw[ZE];exact x.key)<|Ü.mpr ⟨e,hm,rfl⟩;obtain⟨xi,xl,xs,xf,xr,xb,xnd,xk⟩:=id x;refine W9 ?_
 exists Xs xs rfl
 rw[YS,lk];walk_at "p";refine ZN xs rfl (by rw[Z5,lk];rfl) ?_;have ba:=xb e hm;have bi:=ba.ins;refine' Fi ba o λp d g1 cr hd1 ba1 ep x1 npd=>?_;have Y1:=x.change he x1 ba1 (.inl rfl)<|.inr hd1;obtain⟨yi,yl,ys,yf,yr,yb,ynd,yk⟩:=id Y1;dsimp only at yi yl ys yf yr yb;have npa:∀a∈Y.adr,a≠p:=λa ha z=>x.taken ha<|z▸cr;have npr:Y.rd≠p:=npa _ (Ö _<|by simp);have hbm:e.b∈Y.adr:=Ê _ (Wr hm).1;have htl:(sortI (e.B.told.ties.map (·.1))).length<=16:=by rw[sortI,ř,Ã];exact o.told.tlen
 have htie:∀i∈sortI (e.B.told.ties.map (·.1)),0<=i/\i<Y.ts.length:=λi hi=>by obtain⟨q,hq,rfl⟩:=Ü.mp<|mem_sort.mp hi;rw[show e.B.told.ties=e.B.ties from (YB e.B.grown<|Ym e.B.grown).2.1]at hq;exact⟨(o.rg q hq).1,hp q hq⟩
 refine' Zr (λi en g=>Sm3 λv2 v3 v4=>Cj4 (en=[eY<|.ref Y.y,eY<|.int e.num,v2,v3,v4]) (fu g {Y with es:=pre++⟨e.num,e.b,e.t,d,e.B.ticked⟩::ľ,road:=Y.road++(ZI Y.ts e.num e.B.told).take i}) (g p=eY (.lst<|ZR e.B.told))<|Ex Y.adr h g) ⟨_,_,_,rfl,by rw[List.take_zero,ċ];exact Y1,ep,x1.sub λa ha=>by rw[à.mp ha];exact hbm⟩ (λi en g _ ⟨_,_,_,_,_,z,_⟩=>lsE z) ?_ ?_
 .rintro i v en g hv ⟨v2,v3,v4,rfl,Yi,ep,xi⟩ K hK;obtain⟨pl,hpl,rfl⟩:=ZY hv;have hplm:=õ hpl;obtain⟨r0,r1⟩:=htie pl hplm;have et:=FJ (ts:=Y.ts) r0 r1;obtain⟨zi,zl,zs,zf,zr,zb,znd,zk⟩:=id Yi;dsimp only at zi zl zs zf zr zb;have hil:=(Ò.mp hpl).1
  exists fj (xs:=[.tup<|Y.bs.map .int,.tup<|Y.ts.map trV]) (v:=.tup<|Y.ts.map trV) rfl
  exists fj et
  exists C6
  refine' Ys zr ?_ ?_
  .rw[Ã,ê,Č];exact Û (by lia:_<=100016) (by decide)
  dsimp only;have es:(ZI Y.ts e.num e.B.told)[i]?=eY (e.num,L8 Y.ts pl e.num,pl,Zj e.B.told pl):=by unfold ZI;rw[Ú,hpl];rfl
  have Y2:=Yi.setRoad<|Y.road++(ZI Y.ts e.num e.B.told).take (i+1);dsimp only at Y2;have er:(Y.road++(ZI Y.ts e.num e.B.told).take i).map rdV++[rdV (e.num,L8 Y.ts pl e.num,pl,Zj e.B.told pl)]=(Y.road++(ZI Y.ts e.num e.B.told).take (i+1)).map rdV:=by rw[Zp es,<-ĳ,ã (l₂:=[_])];rfl
  have er':(Y.road++(ZI Y.ts e.num e.B.told).take i).map rdV++[.tup [.int e.num,.int<|far (Y.ts[pl.toNat]?.getD (0,0,0)) e.num,.int pl,(Zj e.B.told pl).v]]=(Y.road++(ZI Y.ts e.num e.B.told).take (i+1)).map rdV:=er;rw[er'];refine' hK _ _ ⟨_,_,_,rfl,Y2,(fe npr.symm).trans ep,xi.trans<|Ex.upd<|Ö _<|by simp⟩
 .rintro en g ⟨v2,v3,v4,rfl,Yi,ep,xi⟩;rw[show(ZR e.B.told).length=(ZI Y.ts e.num e.B.told).length by unfold ZR ZI;rw[Ã,Ã],ø]at Yi;refine' k d g Yi hd1 xi
def GB{d:Dd}(x:fu h Y)(k:∀(g:Hs) (Q':Q1),Ext h g->fu g Y->(∀v g',Q .non g'->Q' v g')->wF P (n+5) d.fn [.ref Y.y,.int d.num] g Q' X):wF P (n+6) "Yard.deed" [.ref Y.y,d.v] h Q X:=by
 have xi0:=x.ins;refine NW ?_;refine' Go d.words λg1 x1=>?_;have x':=x.ext x1;have xi:=x'.ins;cases d<;>(
   fail
   repeat (first
     |(refine fi (a:=fc) rfl ?_;fail;refine f7 rfl ?_;fail)
     | (refine fi (a:=fb) rfl ?_;fail;refine f6 rfl ?_;fail))
   refine k g1 _ x1 x' λv g' q=>?_
   refine' q)
structure Yc where
 bs:List Int
 ts:List Tie
 most:Int
 lives:List<|Int×Int
 br:List<|Int×Br
 fallen:List<|Int×Bool
 road:List<|Int×Int×Int×L
abbrev enC(es:List En):List<|Int×Br:=es.map λe=>(e.num,e.B)
abbrev Yd.cc(Y:Yd):Yc:=⟨Y.bs,Y.ts,Y.most,Y.lives,enC Y.es,Y.fallen,Y.road⟩
abbrev upC(k:Int)(F:Br->Br)(l:List<|Int×Br):List<|Int×Br:=l.map λq=>if q.1=k then(q.1,F q.2)else q
abbrev L5(on:Bool)(p:Int)(t:Tie)(l:List<|Int×Br):List<|Int×Br:=upC t.2.1 (tieF on p t.1 t.2.2)<|upC t.1 (tieF on p t.2.1 t.2.2) l
abbrev Yc.tie(C:Yc)(p:Int):Tie:=C.ts[p.toNat]?.getD (0,0,0)
abbrev onC(C:Yc)(p:Int):Bool:=!(C.fallen.lookup p).isSome&&((C.br.lookup (C.tie p).1).isSome&&(C.br.lookup (C.tie p).2.1).isSome)
abbrev Yc.set1(C:Yc)(p:Int):Yc:={C with br:=L5 (onC C p) p (C.tie p) C.br}
abbrev Yc.sets(C:Yc)(l:List Tie):Yc:=l.foldl (λC r=>C.set1 r.1) C
def Wb(es:List En):(enC es).map (·.1)=es.map (·.num):=by unfold enC;rw[ý];rfl
def look_iff{k:Int}:(kvs.lookup k).isSome=gK (k∈kvs.map (·.1)):=by
 cases z:kvs.lookup k with
 |none=>exact(gF<|Xn z).symm
 |some v=>exact(gG (ā (f:=(·.1))<|Zy z)).symm
def WY{k:Int}(es:List En):enC (Yb k F es)=upC k F (enC es):=by
 unfold enC Yb upC;rw[ý,ý];refine ħ λe _=>?_;show((if e.num=k then({e with B:=F e.B}:En)else e).num,(if e.num=k then({e with B:=F e.B}:En)else e).B)=if e.num=k then(e.num,F e.B)else(e.num,e.B)
 split<;>rfl
def DV{p:Int}{t:Tie}(es:List En):enC (setT on p t es)=L5 on p t (enC es):=by unfold setT L5;rw[WY,WY]
def Lh{k:Int}:((enC es).lookup k).isSome=((stands es).lookup k).isSome:=look_iff.trans ((decide_eq_decide.mpr<|by rw[Wb,ZE]).trans look_iff.symm)
def Qx{p:Int}:onT Y p (Y.ts[p.toNat]?.getD (0,0,0))=onC Y.cc p:=by unfold onT onC;rw[<-Lh,<-Lh];rfl
def On{p:Int}:({Y with es:=setT (onT Y p<|Y.ts[p.toNat]?.getD (0,0,0)) p (Y.ts[p.toNat]?.getD (0,0,0)) Y.es}:Yd).cc=Y.cc.set1 p:=by rw[Qx];unfold Yd.cc Yc.set1;dsimp only;rw[DV];rfl
def OT:∀(l:List Tie) (Y:Yd),(ZQ Y l).cc=Y.cc.sets l
 |[],_=>rfl
 |r::l,Y=>(OT l _).trans (congrArg (Yc.sets · l)<|On (Y:=Y) (p:=r.1))
abbrev step(C:Yc):Dd->Option Yc
 |.tick b=>(C.br.lookup b).map λB=>{C with br:=upC b Br.ticked C.br,road:=C.road++ZI C.ts b B.told}
 |.come p=>if p<0 then eZ else(C.road[p.toNat]?).map λr=>{C with br:=upC r.2.1 (Z0 · r.2.2.1 r.2.2.2) C.br,road:=C.road.eraseIdx p.toNat}
 |.lost p=>if p<0 then eZ else(C.road[p.toNat]?).map λr=>{C with road:=C.road.eraseIdx p.toNat}
 |.fallB b=>if(C.br.lookup b).isSome then eY (Yc.sets {C with br:=Zv C.br b}<|gu b 0 C.ts)else eZ
 |.fallT p=>if(0<=p/\p<C.ts.length)/\(C.fallen.lookup p).isSome=fc then eY (Yc.set1 {C with fallen:=Zx C.fallen p fb} p)else eZ
 |.backB b=>if(C.br.lookup b).isSome then eZ else(C.lives.lookup b).map λl=>Yc.sets {C with lives:=Zx C.lives b<|l+1,br:=C.br++[(b,ZV b (l+1) C.most [])]}<|gu b 0 C.ts
 |.backT p=>if(C.fallen.lookup p).isSome then eY (Yc.set1 {C with fallen:=Zv C.fallen p} p)else eZ
structure Bok(m:Nat)(B:Br):Prop where
 ok:B.ok
 pl:∀t∈B.ties,t.1<m
def Bok.ticked{m:Nat}(o:Bok m B):Bok m B.ticked:=⟨o.ok.ticked,λt ht=>o.pl t<|by rwa [show B.ticked.ties=B.ties from (YB B.grown<|Ym B.grown).2.1]at ht⟩
def Bok.heard{m:Nat}(o:Bok m B){p:Int}{l:L}:Bok m<|Z0 B p l:=⟨o.ok.heard,λt ht=>o.pl t<|by revert ht;unfold Z0;split<;>(try split)<;>exact id⟩
def Bok.tieF{m:Nat}(o:Bok m B){p far:Int}(h0:0<=p)(h1:p<m)(hm:m<=16):Bok m<|O.tieF on p far c B:=⟨K3 o.ok h0 (by lia),λt ht=>by
  unfold O.tieF at ht
  split at ht
  . unfold upB at ht
    split at ht
    . exact o.pl t ht
    . rcases WH ht with e|ht
      . rw[e];exact h1
      . exact o.pl t ht
  . exact o.pl t<|Yq ht⟩
structure Yc.gd(C:Yc)(N:Nat):Prop where
 no:fB C.bs C.ts
 nd:(C.br.map (·.1)).Nodup
 sub:∀q∈C.br,q.1∈C.bs
 ok:∀q∈C.br,Bok C.ts.length q.2
 lv:C.lives.map (·.1)=C.bs
 fn:(C.fallen.map (·.1)).Nodup
 fr:∀q∈C.fallen,0<=q.1/\q.1<C.ts.length
 len:C.road.length<=16*N
def Jj{k:Int}(l:List<|Int×Br):(upC k F l).map (·.1)=l.map (·.1):=by unfold upC;rw[ý];refine ħ λe _=>?_;show(if e.1=k then(e.1,F e.2)else e).1=e.1;split<;>rfl
def FN{k:Int}{l:List (Int×Br)}{R:Br->Prop}(h:∀q∈l,R q.2)(hF:∀B,R B->R (F B)):∀q∈upC k F l,R q.2:=λq hq=>by
 obtain⟨e,he,rfl⟩:=Ü.mp hq;split
 .exact hF _<|h e he
 .exact h e he
def keys_sub{l:List (Int×Br)}{bs:List Int}:(∀q∈l,q.1∈bs)↔∀x∈l.map (·.1),x∈bs:=⟨λh x hx=>by obtain⟨q,hq,rfl⟩:=Ü.mp hx;exact h q hq,λh q hq=>h _<|ā hq⟩
variable {C:Yc} {N:Nat} {M:Nat} {rd:List (Int×Int×Int×L)}
def Yc.gd.upC{k:Int}(g:C.gd N)(hF:∀B,Bok C.ts.length B->Bok C.ts.length (F B))(hr:rd.length<=16*M):({C with br:=O.upC k F C.br,road:=rd}:Yc).gd M :=
 ⟨g.no,by show((O.upC k F C.br).map (·.1)).Nodup;rw[Jj];exact g.nd,keys_sub.mpr (by show ∀x∈(O.upC k F C.br).map (·.1),_;rw[Jj];exact keys_sub.mp g.sub),FN g.ok hF,g.lv,g.fn,g.fr,hr⟩
def Yc.gd.set1{p:Int}(g:C.gd N)(h0:0<=p)(h1:p<C.ts.length):(C.set1 p).gd N :=
 (g.upC (M:=N) (k:=(C.tie p).1) (F:=tieF (onC C p) p (C.tie p).2.1 (C.tie p).2.2) (λ_ o=>o.tieF h0 h1 g.no.sixteen) g.len).upC (λ_ o=>o.tieF h0 h1 g.no.sixteen) g.len
def Yc.gd.sets{N:Nat}:∀{l:List Tie}{C:Yc},C.gd N->(∀r∈l,0<=r.1/\r.1<C.ts.length)->(C.sets l).gd N
 |[],_,g,_=>g
 |r::l,C,g,h=>Yc.gd.sets (l:=l) (C:=C.set1 r.1) (g.set1 (h r<|by simp).1 (h r<|by simp).2) λq hq=>h q (by simp[hq])
def Yc.gd.more(g:C.gd N)(h:N<=M):C.gd M:=⟨g.no,g.nd,g.sub,g.ok,g.lv,g.fn,g.fr,ß g.len<|dP _ h⟩
def JA:∀(l:List Tie) (C:Yc),(C.sets l).bs=C.bs/\(C.sets l).ts=C.ts/\(C.sets l).most=C.most
 |[],_=>⟨rfl,rfl,rfl⟩
 |r::l,C=>JA l<|C.set1 r.1
def CK{b:Int}:∀r∈gu b 0 ts,0<=r.1/\r.1<ts.length:=λr hr=>by have:=(JR (b:=b) (l:=ts) (k:=0)).2 r hr;lia
def keys_look{b:Int}:(C.br.lookup b).isSome=fb↔b∈C.br.map (·.1):=by rw[look_iff];simp
def AL{b:Int}(o:B.ok):(ZI ts b B.told).length<=16:=by unfold ZI;rw[Ã,sortI,ř,Ã];exact o.told.tlen
def X3{D:Yc}{d:Dd}(g:C.gd N)(s:step C d=eY D):D.gd (N+1)/\D.bs=C.bs/\D.ts=C.ts/\D.most=C.most:=by
 have hlen:=g.len;cases d with
 |tick b =>obtain⟨B,hB,rfl⟩:=Î.mp s;have ok:B.ok:=(g.ok _<|Zy hB).ok;have:=AL (ts:=C.ts) (b:=b) ok;exact⟨g.upC (λ_ o=>o.ticked) (by rw[ê];lia),rfl,rfl,rfl⟩
 |come p =>
  dsimp only[step]at s;split at s
  .cases s
  .obtain⟨r,hr,rfl⟩:=Î.mp s;exact⟨g.upC (λ_ o=>o.heard)<|ß (bX _ _)<|by lia,rfl,rfl,rfl⟩
 |lost p =>
  dsimp only[step]at s;split at s
  .cases s
  .obtain⟨r,hr,rfl⟩:=Î.mp s;exact⟨⟨g.no,g.nd,g.sub,g.ok,g.lv,g.fn,g.fr,ß (bX _ _)<|by lia⟩,rfl,rfl,rfl⟩
 |fallB b =>
  dsimp only[step]at s;split at s
  .cases s;refine⟨Yc.gd.more (Yc.gd.sets ⟨g.no,YG g.nd b,λq hq=>g.sub q<|Yq hq,λq hq=>g.ok q<|Yq hq,g.lv,g.fn,g.fr,hlen⟩ CK) (by lia),?_⟩;obtain⟨e1,e2,e3⟩:=JA (gu b 0 C.ts) {C with br:=Zv C.br b};exact⟨e1,e2,e3⟩
  .cases s
 |fallT p =>
  dsimp only[step]at s;split at s
  .rename_i h;cases s;refine⟨Yc.gd.more (Yc.gd.set1 ⟨g.no,g.nd,g.sub,g.ok,g.lv,Wk g.fn p fb,λq hq=>?_,hlen⟩ h.1.1 h.1.2) (by lia),rfl,rfl,rfl⟩;rcases WH hq with e|hq
   .rw[e];exact h.1
   .exact g.fr q hq
  .cases s
 |backB b =>
  dsimp only[step]at s;split at s
  .cases s
  .rename_i h;obtain⟨l,hl,rfl⟩:=Î.mp s;have hk:(C.lives.lookup b).isSome=fb:=by rw[hl];rfl
   have hb:b∈C.bs:=by rw[<-g.lv];rw[look_iff]at hk;exact of_decide_eq_true hk
   have hn:b∉C.br.map (·.1):=λz=>h<|keys_look.mpr z;refine⟨Yc.gd.more (Yc.gd.sets ⟨g.no,?_,λq hq=>?_,λq hq=>?_,?_,g.fn,g.fr,hlen⟩ CK) (by lia),?_⟩
   .show((C.br++[(b,ZV b (l+1) C.most [])]).map (·.1)).Nodup;rw[ã,ç];exact⟨g.nd,by simp,λa ha c hc=>by have hc:c=b:=à.mp hc;rw[hc];exact λz=>hn<|z▸ha⟩
   .rcases å.mp hq with hq|hq
    .exact g.sub q hq
    .rw[à.mp hq];exact hb
   .rcases å.mp hq with hq|hq
    .exact g.ok q hq
    .rw[à.mp hq];exact⟨O0,λt ht=>nomatch ht⟩
   .show(Zx C.lives b<|l+1).map (·.1)=_;rw[JE,gD hk];exact g.lv
   .exact JA (gu b 0 C.ts) {C with lives:=Zx C.lives b<|l+1,br:=C.br++[(b,ZV b (l+1) C.most [])]}
 |backT p =>
  dsimp only[step]at s;split at s
  .rename_i h;cases s;obtain⟨v,hv⟩:=û.mp h;have hp:=g.fr _<|Zy hv;exact⟨Yc.gd.more (Yc.gd.set1 ⟨g.no,g.nd,g.sub,g.ok,g.lv,YG g.fn p,λq hq=>g.fr q<|Yq hq,hlen⟩ hp.1 hp.2) (by lia),rfl,rfl,rfl⟩
  .cases s
def Wj{b:Int}:(Y.cc.br.lookup b).isSome=((stands Y.es).lookup b).isSome:=Lh
def Up{pre:List En}(he:Y.es=pre++e::ľ)(nd:(Y.es.map (·.num)).Nodup):enC (pre++⟨e.num,e.b,t,d,F e.B⟩::ľ)=upC e.num F (enC Y.es):=by rw[he]at nd ⊢;rw[<-WY,Nf nd];unfold enC;rw[ã,ã];rfl
def UB{pre:List En}(he:Y.es=pre++e::ľ)(ht:t=e.t)(hd:d=e.d\/h d=eZ):∀a∈({Y with es:=pre++⟨e.num,e.b,t,d,B⟩::ľ,road:=rd}:Yd).adr,a∈Y.adr\/h a=eZ:=λa ha=>by
 subst ht;unfold Yd.adr at ha ⊢;rw[he,YF];dsimp only at ha;rw[YF]at ha;simp only[å,Ç,Ø,or_false]at ha ⊢;rcases hd with rfl|hd
 .exact .inl ha
 .rcases ha with ha|ha|(rfl|rfl|rfl)|ha
  .exact .inl<|.inl ha
  .exact .inl<|.inr<|.inl ha
  .exact .inl<|.inr<|.inr<|.inl<|.inl rfl
  .exact .inl<|.inr<|.inr<|.inl<|.inr<|.inl rfl
  .exact .inr hd
  .exact .inl<|.inr<|.inr<|.inr ha
def Oo:∀{l bs:List Int},l.Nodup->(∀x∈l,x∈bs)->l.length<=bs.length
 |[],_,_,_=>ğ _
 |a::l,bs,nd,h=>by have ha:=h a (by simp);have:=Oo (l:=l) (bs:=bs.erase a) (ć.mp nd).2 λx hx=>(List.mem_erase_of_ne λz:x=a=>(ć.mp nd).1<|z▸hx).mpr (h x<|by simp[hx]);rw[bP ha]at this;have:=List.length_pos_of_mem ha;rw[Ë];lia
def UY{p:Int}{β:Type}{f:Int×Int×Int×L->β}(hp:¬(0<=p/\p<Y.road.length)):(if p<0 then eZ else(Y.cc.road[p.toNat]?).map f)=eZ:=by
 split
 .rfl
 .rw[show Y.cc.road[p.toNat]?=eZ from Ł<|by show Y.road.length<=_;lia];rfl
structure Mv(h:Hs)(Y:Yd)(g:Hs)(Z:Yd):Prop where
 y:Z.y=Y.y
 at_:fu g Z
 nw:∀a∈Z.adr,a∈Y.adr\/h a=eZ
 ex:Ex Y.adr h g
def Mv.refl(x:fu h Y):Mv h Y h Y:=⟨rfl,x,λ_=>.inl,Ex.refl⟩
def Mv.off(m:Mv h Y g Z)(na:a∉Y.adr)(e:h a=eY o):a∉Z.adr/\g a=eY o:=⟨λz=>(m.nw a z).elim na λy=>(by rw[e]at y;cases y),m.ex.get na e⟩
def Mv.trans{f:Hs}(m:Mv h Y g Z)(l:Mv g Z f W):Mv h Y f W:=by
 refine⟨l.y.trans m.y,l.at_,λa ha=>?_,⟨λna e=>let ⟨h1,h2⟩:=m.off na e;l.ex.get h1 h2⟩⟩;rcases l.nw a ha with z|z
 .exact m.nw a z
 .by_cases na:a∈Y.adr
  .exact .inl na
  .cases e:h a with
   |none=>exact .inr rfl
   |some o=>rw[m.ex.get na e]at z;cases z
def Mv.ext{f:Hs}(m:Mv h Y g Z)(x:Ext g f):Mv h Y f Z:=⟨m.y,m.at_.ext x,m.nw,m.ex.trans<|.of x⟩
def Mv.put(m:Mv h Y g Z)(hp:h p=eZ)(np:p∉Z.adr):Mv h Y (upd g p o) Z:=⟨m.y,m.at_.keep (S:=[p]) (Ex.upd<|by simp) λa ha z=>np<|à.mp z▸ha,m.nw,⟨λna e=>by rw[fe<|Za e hp];exact m.ex.get na e⟩⟩
def MC{b:Int}(h:(stands es).lookup b=eZ):b∉es.map (·.num):=by rw[<-ZE];exact Xn h
section
variable {Y:Yd}
def Yh{d:Dd}(x:fu h Y)(gd:Y.cc.gd N)(hN:N<=6000)(sd:(step Y.cc d).isSome=fb)(k:∀(Y':Yd) g',step Y.cc d=eY Y'.cc->Mv h Y g' Y'->Q .non g'):wF P (n+6) "Yard.deed" [.ref Y.y,d.v] h Q X:=by
 refine GB x λg Q' x1 x' hq=>?_;have no:fB Y.bs Y.ts:=gd.no;have ok:∀e∈Y.es,Bok Y.ts.length e.B:=λe he=>gd.ok (e.num,e.B)<|Ü.mpr ⟨e,he,rfl⟩;have oks:∀e∈Y.es,e.B.ok:=λe he=>(ok e he).ok;have hl:Y.road.length<=16*N:=gd.len;have key:=x.key;have xi:=x'.ins;have xs:=x'.stand;have xf:=x'.fallen;have xl:=x'.lives;have fin:∀{Y':Yd} {g'},fu g' Y'->step Y.cc d=eY Y'.cc->Y'.y=Y.y->(∀a∈Y'.adr,a∈Y.adr\/g a=eZ)->Ex Y.adr g g'->∀v,Q' v g':=λ{Y' g'} y s e f ex v=>hq v g'<|k Y' g' s ⟨e,y,λa ha=>(f a ha).imp id λz=>MT x1 z,(Ex.of x1).trans ex⟩;have bad:∀{p:Prop},step Y.cc d=eZ->p:=λ{p} s=>by rw[s]at sd;cases sd
 have h10:Y.lives.length<=10:=by have e:=congrArg List.length gd.lv;rw[Ã]at e;have:=no.ten;have:Y.cc.bs.length=Y.bs.length:=rfl;have:Y.cc.lives.length=Y.lives.length:=rfl;lia
 have e10:Y.es.length<=10:=by
  have:=Oo gd.nd<|keys_sub.mp gd.sub;have h2:(Y.cc.br.map (·.1)).length=Y.es.length:=by show((enC Y.es).map (·.1)).length=_;rw[Wb,Ã]
  have:=no.ten;have:Y.cc.bs.length=Y.bs.length:=rfl;lia
 have f16:Y.fallen.length<=16:=by
  have:=Z3 (m:=16) gd.fn λx hx=>by obtain⟨q,hq,rfl⟩:=Ü.mp hx;have:=gd.fr q hq;have:=no.sixteen;have:Y.cc.ts.length=Y.ts.length:=rfl;lia
  rw[Ã]at this;exact this
 clear sd;cases d with
 |tick b =>
  show wF P (n+5) "Yard.tick_of" [.ref Y.y,.int b] g Q' X;cases lk:(stands Y.es).lookup b with
  |none =>refine bad ?_;have:=Wj (Y:=Y) (b:=b);rw[lk]at this;show(Y.cc.br.lookup b).map _=eZ;rw[Option.isSome_eq_false_iff.mp this |> aQ.mp];rfl
  |some a =>
   obtain⟨e,pre,ľ,he,rfl,rfl⟩:=Y4 lk;have hm:e∈Y.es:=by rw[he];simp
   refine As x' he (oks e hm) (ok e hm).pl (by lia) λd' g2 y2 hd x2=>?_;refine fin y2 ?_ rfl (UB he rfl<|.inr hd) x2 .non;show(Y.cc.br.lookup e.num).map _=_;rw[show Y.cc.br.lookup e.num=eY e.B from WM gd.nd<|Ü.mpr ⟨e,hm,rfl⟩];unfold Yd.cc;dsimp only;rw[Up (F:=Br.ticked) he key];rfl
 |come p =>
  show wF P (n+5) "Yard.come" [.ref Y.y,.int p] g Q' X;by_cases hp:0<=p/\p<Y.road.length
  .obtain⟨q,rfl⟩:∃q:Nat,p=q:=⟨p.toNat,by lia⟩
   have hr:=É (l:=Y.road) (i:=q) (by lia);generalize Y.road[q]'(by lia)=r at hr;have st:step Y.cc (.come q)=eY {Y.cc with br:=upC r.2.1 (Z0 · r.2.2.1 r.2.2.2) Y.cc.br,road:=Y.road.eraseIdx q}:=by show(if(q:Int)<0 then eZ else(Y.road[(q:Int).toNat]?).map _)=_;rw[gE (by lia),ä,hr];rfl
   cases lk:(stands Y.es).lookup r.2.1 with
   |none =>refine Cv x' hr (by lia) (MC lk) λg2 y2 x2=>fin y2 ?_ rfl (λa ha=>.inl ha) x2 .non;rw[st];unfold Yd.cc;dsimp only;rw[<-WY,X1<|MC lk]
   |some a =>
    obtain⟨e,pre,ľ,he,hn,rfl⟩:=Y4 lk;have hm:e∈Y.es:=by rw[he];simp
    refine FW x' hr (by lia) he hn.symm (oks e hm) λg2 y2 x2=>fin y2 ?_ rfl (UB he rfl<|.inl rfl) x2 .non;rw[st];unfold Yd.cc;dsimp only;rw[<-hn,Up (F:=(Z0 · r.2.2.1 r.2.2.2)) he key]
  .exact bad<|UY hp
 |lost p =>
  show wF P (n+5) "Yard.take_off" [.ref Y.y,.int p] g Q' X;by_cases hp:0<=p/\p<Y.road.length
  .obtain⟨q,rfl⟩:∃q:Nat,p=q:=⟨p.toNat,by lia⟩
   have hr:=É (l:=Y.road) (i:=q) (by lia);refine XC x' hr (by lia) λg2 y2 x2=>fin y2 ?_ rfl (λa ha=>.inl ha) (x2.sub λa ha=>by rw[à.mp ha];exact Ö _<|by simp) _;show(if(q:Int)<0 then eZ else(Y.road[(q:Int).toNat]?).map _)=_;rw[gE (by lia),ä,hr];rfl
  .exact bad<|UY hp
 |fallB b =>
  show wF P (n+5) "Yard.fall_of_bridge" [.ref Y.y,.int b] g Q' X;have lc:=Wj (Y:=Y) (b:=b);cases lk:(stands Y.es).lookup b with
  |none =>rw[lk]at lc;exact bad (gE<|by rw[lc];decide)
  |some a =>
   rw[lk]at lc;refine D9 no x' oks (by rw[<-ZE];exact ā (f:=(·.1))<|Zy lk) λg2 y2 gd2 x2=>?_;have sm:=YO (gu b 0 Y.ts) {Y with es:=Yu b Y.es};refine fin y2 ?_ sm.y (λa ha=>.inl ?_) x2 .non
   .rw[OT];refine(gD lc).trans ?_;congr 2;unfold Yd.cc;dsimp only;congr 1;unfold Zv enC Yu;rw[List.filter_map];rfl
   .rw[sm.adr]at ha;exact((Ũ _).append<|WL<|Xl b Y.es).subset ha
 |fallT p =>
  show wF P (n+5) "Yard.fall_of_tie" [.ref Y.y,.int p] g Q' X;have htl:(Y.ts.map trV).length=Y.ts.length:=Ã _;by_cases hp:0<=p/\p<Y.ts.length
  .obtain⟨q,rfl⟩:∃q:Nat,p=q:=⟨p.toNat,by lia⟩
   have et:=É (l:=Y.ts) (i:=q) (by lia);have eg:Y.ts[(q:Int).toNat]?.getD (0,0,0)=Y.ts[q]'(by lia):=by rw[ä,et];rfl
   cases lk:Y.fallen.lookup (q:Int)with
   |none =>
    refine Dl no x' oks et lk (by lia) λg2 y2 x2=>fin y2 ?_ rfl (λa ha=>.inl ?_) x2 .non
    .refine(gD ⟨hp,by show(Y.fallen.lookup _).isSome=fc;rw[lk];rfl⟩).trans<|congrArg eY ?_;have:=On (Y:={Y with fallen:=Zx Y.fallen q fb}) (p:=q);dsimp only at this;rw[eg]at this;exact this.symm
    .unfold Yd.adr at ha ⊢;dsimp only at ha
     rwa [W7]at ha
   |some v =>exact bad (gE λz=>by have z:=z.2;have:(Y.fallen.lookup (q:Int)).isSome=fc:=z;rw[lk]at this;cases this)
  .exact bad<|gE λz=>hp z.1
 |backB b =>
  show wF P (n+5) "Yard.back_of_bridge" [.ref Y.y,.int b] g Q' X;have lc:=Wj (Y:=Y) (b:=b);cases ll:Y.lives.lookup b with
  |none =>
   refine bad ?_;dsimp only[step];split
   .rfl
   .show(Y.lives.lookup b).map _=eZ;rw[ll];rfl
  |some life =>
   cases lk:(stands Y.es).lookup b with
   |some a =>rw[lk]at lc;exact bad<|gD lc
   |none =>
    rw[lk]at lc;refine BH no x' oks ll (MC lk) (by lia) (by lia) λq t d' g2 fr y2 gd2 x2=>?_;have sm:=YO (gu b 0 Y.ts) {Y with lives:=Zx Y.lives b<|life+1,es:=Y.es++[⟨b,q,t,d',ZV b (life+1) Y.most []⟩]};refine fin y2 ?_ sm.y (λa ha=>?_) x2 .non
    .rw[OT];refine(gE<|by rw[lc];decide).trans ?_;show(Y.lives.lookup b).map _=_;rw[ll];congr 2;unfold Yd.cc;dsimp only;unfold enC;rw[ã];rfl
    .rw[sm.adr]at ha;have z:a∈[Y.y,Y.lv,Y.st,Y.fl,Y.rd]++enA (Y.es++[⟨b,q,t,d',ZV b (life+1) Y.most []⟩]):=ha;rw[X6,<-ĳ]at z;rcases å.mp z with z|z
     .exact .inl z
     .exact .inr<|fr a z
 |backT p =>
  show wF P (n+5) "Yard.back_of_tie" [.ref Y.y,.int p] g Q' X;cases lk:Y.fallen.lookup p with
  |none =>exact bad (gE<|by show ¬(Y.fallen.lookup p).isSome=fb;rw[lk];decide)
  |some v =>
   have hp:=gd.fr _<|Zy lk;have hp2:p<Y.ts.length:=hp.2;obtain⟨q,rfl⟩:∃q:Nat,p=q:=⟨p.toNat,by have:0<=p:=hp.1;lia⟩
   have et:=É (l:=Y.ts) (i:=q) (by lia);have eg:Y.ts[(q:Int).toNat]?.getD (0,0,0)=Y.ts[q]'(by lia):=by rw[ä,et];rfl
   refine Bx no x' oks et lk λg2 y2 x2=>fin y2 ?_ rfl (λa ha=>.inl ?_) x2 .non
   .refine(gD<|by show(Y.fallen.lookup _).isSome=fb;rw[lk];rfl).trans<|congrArg eY ?_;have:=On (Y:={Y with fallen:=Zv Y.fallen q}) (p:=q);dsimp only at this;rw[eg]at this;exact this.symm
   .unfold Yd.adr at ha ⊢;dsimp only at ha
    rwa [W7]at ha
end
abbrev Yc.at_(C:Yc)(b:Int):Br:=(C.br.lookup b).getD<|ZV 0 0 0 []
abbrev Yc.keys(C:Yc):List Int:=sortI (C.br.map (·.1))
abbrev AN(C:Yc):List Val:=C.keys.map λb=>.tup [.int b,(C.at_ b).label.v]
abbrev FL(C:Yc)(b p:Int):String:=if(C.br.lookup b).isSome then Dx (C.at_ b) p else "down"
abbrev Yc.ends(C:Yc)(p:Int):String×String:=(FL C (C.tie p).1 p,FL C (C.tie p).2.1 p)
abbrev Yc.downs(C:Yc):List Int:=C.bs.filter λb=>!(C.br.lookup b).isSome
abbrev Yc.cuts(C:Yc):List Int:=sortI (C.fallen.map (·.1))
def Yc.gd.ten(g:C.gd N):(C.br.map (·.1)).length<=10:=ß (Oo g.nd<|keys_sub.mp g.sub) g.no.ten
def Yc.gd.f16(g:C.gd N):(C.fallen.map (·.1)).length<=16:=Z3 (m:=16) g.fn λx hx=>by obtain⟨q,hq,rfl⟩:=Ü.mp hx;have:=g.fr q hq;have:=g.no.sixteen;lia
def W4:C.keys.length=(C.br.map (·.1)).length:=(Ō _ _).length_eq
def keys_mem{b:Int}:b∈C.keys↔(C.br.lookup b).isSome=fb:=by unfold Yc.keys;rw[mem_sort,keys_look]
def fu.at_(x:fu h Y){b:Int}(hb:(Y.cc.br.lookup b).isSome=fb):∃e∈Y.es,e.num=b/\(O.stands Y.es).lookup b=eY e.b/\Y.cc.at_ b=e.B/\fq h e.b e.t e.d e.B:=by
 rw[Wj]at hb;obtain⟨a,ha⟩:=û.mp hb;obtain⟨e,pre,ľ,he,rfl,rfl⟩:=Y4 ha;have hm:e∈Y.es:=by rw[he];simp
 refine⟨e,hm,rfl,ha,?_,x.brs e hm⟩;have:(enC Y.es).lookup e.num=eY e.B:=WM (by rw[Wb];exact x.key)<|Ü.mpr ⟨e,hm,rfl⟩;show((enC Y.es).lookup e.num).getD _=_;rw[this];rfl
section
variable {Y:Yd}{N:Nat}
def XU(x:fu h Y)(k:∀p g,h p=eZ->Ext h g->g p=eY (.lst<|Y.road.map rdV)->Q (.ref p) g):wF P (n+1) "Yard.road" [.ref Y.y] h Q X:=by have xi:=x.ins;have xr:=x.road;refine M9 ?_;refine' Zg k
def Xm(x:fu h Y)(gd:Y.cc.gd N)(k:∀p g,h p=eZ->Ext h g->g p=eY (.lst<|AN Y.cc)->Q (.ref p) g):wF P (n+2) "Yard.labels" [.ref Y.y] h Q X:=by
 have xi:=x.ins;have xs:=x.stand;have ek:(stands Y.es).map (·.1)=Y.cc.br.map (·.1):=(ZE _).trans (Wb _).symm;have h10:=gd.ten;have kl:=W4 (C:=Y.cc);refine J0 ?_;refine' N8 xs (Cy _) (by rw[ek];lia) (Zg λp1 g1 cr x1 e1=>?_);rw[ek]at e1;have x':=x.ext x1;have xi:=x'.ins;have xs:=x'.stand;refine' ⟨Û (by rw[Ã];show Y.cc.keys.length<=10;lia) (by decide),?_⟩;refine Z6 (λi ys g=>g=g1/\ys=(Y.cc.keys.take i).map λb=>.tup [.int b,(Y.cc.at_ b).label.v]) ⟨rfl,rfl⟩ (λi ys g _ ⟨z,_⟩=>by rw[z];exact lsE e1) ?_ ?_
 .rintro i v ys g hv ⟨rfl,rfl⟩ K hK;obtain⟨nm,hnm,rfl⟩:=ZY hv;obtain⟨e,he,en,lk,ea,ba⟩:=x'.at_<|keys_mem.mp<|õ hnm;have bi:=ba.ins;walk_at "p";refine ZN xs rfl (by rw[Z5,lk];rfl) ?_
  exists CG ba
  refine' hK _ _ ⟨rfl,?_⟩;rw[Zp (xs:=Y.cc.keys) hnm,ã,<-ea];rfl
 .rintro ys g ⟨rfl,rfl⟩;rw[Ã,show(sortI (Y.cc.br.map (·.1))).length=Y.cc.keys.length from rfl,ø];exact Zg λp g2 hp x2 ep=>k p g2 (MT x1 hp) (x1.trans x2) ep
def Jp(x:fu h Y)(gd:Y.cc.gd N)(k:∀g,Ext h g->Q (.tup [.tup<|Y.cc.downs.map .int,.tup<|Y.cc.cuts.map .int]) g):wF P (n+1) "Yard.down" [.ref Y.y] h Q X:=by
 have xi:=x.ins;have xs:=x.stand;have hbl:(Y.bs.map Val.int).length<=10:=by rw[Ã];exact gd.no.ten
 refine Ni ?_
 exists fj (xs:=[.tup<|Y.bs.map .int,.tup<|Y.ts.map trV]) (v:=.tup<|Y.bs.map .int) rfl
 refine' ⟨Û hbl (by decide),Z6 (λi ys g=>g=h/\ys=((Y.bs.take i).filter λb=>!(Y.cc.br.lookup b).isSome).map .int) ⟨rfl,rfl⟩ (λ_ _ _ _ _=>trivial) ?_ ?_⟩
 .rintro i v ys g hv ⟨rfl,rfl⟩ K hK;obtain⟨b,hb,rfl⟩:=ZY hv;rw[Zp hb,dZ,į,List.filter_nil]at hK
  exists Xs xs rfl
  rw[YS,<-Wj];refine' f9 (λhc=>?_) (λhc=>?_)
  .refine' hK _ _ ⟨rfl,by rw[hc,gD rfl,ã];rfl⟩
  .exact hK _ _ ⟨rfl,by rw[hc,gE (by decide),ċ,cZ,ċ]⟩
 rintro ys g ⟨rfl,rfl⟩;rw[Ã,ø];refine Zg λp1 g1 cr x1 e1=>?_;have x':=x.ext x1;have xi:=x'.ins;have xf:=x'.fallen;refine' N8 xf (Cy _) (by have:=gd.f16;show(Y.cc.fallen.map (·.1)).length<_;lia) (Zg λp2 g2 hp2 x2 e2=>?_);refine' k _ (x1.trans x2)
def NH{b p:Int}(x:fu h Y)(k:Q (.str<|FL Y.cc b p) h):wF P (n+4) "Yard.end_at" [.ref Y.y,.int b,.int p] h Q X:=by
 have xi:=x.ins;have xs:=x.stand;refine Kh ?_
 exists Xs xs rfl
 rw[YS,<-Wj];fail;unfold FL at k;cases z:(Y.cc.br.lookup b).isSome with
 |false =>rw[z]at k;walk_at "p";exact k
 |true =>rw[z,gD rfl]at k;obtain⟨e,he,en,lk,ea,ba⟩:=x.at_ z;have bi:=ba.ins;walk_at "p";refine ZN xs rfl (by rw[Z5,lk];rfl) ?_;fail;rw[ea]at k;exact LD ba k
def Fq{p:Nat}(x:fu h Y)(hp:p<Y.ts.length)(k:Q (.tup [.str (Y.cc.ends p).1,.str (Y.cc.ends p).2]) h):wF P (n+5) "Yard.ends" [.ref Y.y,.int p] h Q X:=by
 have xi:=x.ins;have htl:(Y.ts.map trV).length=Y.ts.length:=Ã _;have eg:Y.cc.tie p=Y.ts[p]:=by show Y.ts[(p:Int).toNat]?.getD _=_;rw[ä,É hp];rfl
 refine MK ?_
 exists YZ
 fail;refine f6 (by simp) ?_
 exists fj (xs:=[.tup<|Y.bs.map .int,.tup<|Y.ts.map trV]) (v:=.tup<|Y.ts.map trV) rfl
 fail;refine f7 (by rw[htl];simpa using hp) ?_
 exists fj (xs:=[.tup<|Y.bs.map .int,.tup<|Y.ts.map trV]) (v:=.tup<|Y.ts.map trV) rfl
 refine' fj (v:=trV Y.ts[p]) (Xd (by lia)<|by rw[ä,Ú,É hp];rfl) ?_;unfold Yc.ends at k;rw[eg]at k;unfold trV
 exists NH x
 exists NH x
 refine' k
end
abbrev Row(h:Hs)(w:Ad):Prop:=∃a b:Int,h w=eY (.lst [.int a,.int b])/\0<=b/\b<2147483587
def Row.ne(x:Row h w)(e:h p=eZ):w≠p:=by obtain⟨_,_,x,_⟩:=x;exact Za x e
def Row.ext(x:Row h w)(e:Ext h g):Row g w:=by obtain⟨_,_,x,y⟩:=x;exact⟨_,_,e.get x,y⟩
def Hr{i:Int}(e:h a=eY (.lst<|ns.map .int))(q:KB (!gK (i∈ns))):go (fz h .notin (.int i)<|.ref a) KB:=fi (by show(inV h (.int i)<|.ref a).map _=_;unfold inV;simp only[e];rw[Mr];rfl) q
def lset(e:h a=eY (.lst<|ns.map .int))(m:ns.length<4000)(q:Q (.int (dedup ns).length) h):(biV h .lenSet [.ref a]).wp h Q:=wp_val (by show biLenSet h (.ref a)=_;unfold biLenSet sortOf;simp only[e,fv,è,Ye];rw[gD m]) q
def KA:∀(ns:List Int),(dedup ns).length=ns.length↔ns.Nodup
 |[]=>by simp[dedup]
 |n::ns=>by
  have h1:=Jk ns;have h2:=Ż (λy=>y != n)<|dedup ns;have ih:=KA ns;rw[dedup,Ë,Ë,ć];constructor
  .intro h;have h3:(List.filter (λy=>y != n)<|dedup ns).length=(dedup ns).length:=by lia
   have h4:=af.mp h3;refine⟨λhm=>?_,ih.mp<|by lia⟩;have:=h4 n<|mem_dedup.mpr hm;simp at this
  .rintro⟨h3,h4⟩;have h5:=ih.mpr h4;have h6:(List.filter (λy=>y != n)<|dedup ns).length=(dedup ns).length:=af.mpr λy hy=>by
    have:=mem_dedup.mp hy;simp only[bne_iff_ne,ne_eq];rintro rfl;exact h3 this
   lia
def Row.exb(x:Row h w)(n:p≠w):Row (upd h p o) w:=by obtain⟨_,_,x,y⟩:=x;exact⟨_,_,(fe n.symm).trans x,y⟩
def NL(x:ExtB w h g)(e:h p=eZ):ExtB w h<|upd g p o:=⟨λ{a u} n z=>by rw[fe<|Za z e];exact x.get n z⟩
def Mm(k:∀p g,h p=eZ->Ext h g->Row g p->Q (.ref p) g):wF P (n+1) "_law_row" [.int c] h Q X:=by refine AU ?_;refine' Zg λp g hp x e=>k p g hp x ⟨_,_,e,ϕ _ (by decide),Ζ _<|by decide⟩
def Ze(hw:Row h w)(h1:0<m)(h2:m<1073741824)(k:∀r g,0<=r->r<m->ExtB w h g->Row g w->Q (.int r) g):wF P (n+1) "_law_take" [.ref w,.int m] h Q X:=by
 obtain⟨a,b,e,b0,b1⟩:=hw;refine OC ?_;refine' f8 (λhc=>?_) (λhc=>?_)<;>fail
 .exact k _ _ (ϕ _<|by lia) (Ζ _ h1) ExtB.upd ⟨_,_,ff,b0,b1⟩
 .exact k _ _ (ϕ _<|by lia) (Ζ _ h1) ExtB.upd ⟨_,_,ff,ϕ _ (by decide),Ζ _<|by decide⟩
abbrev TOk(ns:List Int)(t:Tie):Prop:=t.1∈ns/\t.2.1∈ns/\t.1≠t.2.1/\1<=t.2.2/\t.2.2<=1000
abbrev IsT(ns:List Int)(v:Val):Prop:=∃t:Tie,v=trV t/\TOk ns t
def PR(nd:ns.Nodup){i j:Int}{a b:Int}(i0:0<=i)(i1:i<ns.length)(j0:0<=j)(j1:j<ns.length)(hij:i≠j)(ea:atI (ns.map Val.int) i=eY (.int a))(eb:atI (ns.map Val.int) j=eY (.int b)):a≠b:=by
 have hi:i.toNat<ns.length:=by lia
 have hj:j.toNat<ns.length:=by lia
 have e1:=Xd (xs:=ns.map Val.int) i0 (x:=.int ns[i.toNat]) (by rw[Ú,É hi];rfl);have e2:=Xd (xs:=ns.map Val.int) j0 (x:=.int ns[j.toNat]) (by rw[Ú,É hj];rfl);rw[ea]at e1;rw[eb]at e2;simp only[Ĝ,Val.int.injEq]at e1 e2;rw[e1,e2];intro z;have:=(List.getElem_inj nd).mp z;lia
abbrev M7(t:Tie):Tie:=(if t.2.1<t.1 then t.2.1 else t.1,if t.2.1 > t.1 then t.2.1 else t.1,t.2.2)
def Gq{t:Tie}(h:TOk ns t):LOk ns<|M7 t:=by
 obtain⟨h1,h2,h3,h4,h5⟩:=h;unfold M7 LOk;by_cases z:t.2.1<t.1
 .rw[gD z,gE<|by lia];exact⟨h2,h1,z,h4,h5⟩
 .rw[gE z,gD<|by lia];exact⟨h1,h2,by show t.1<t.2.1;lia,h4,h5⟩
def UP{ns:List Int}:∀{ys:List Val},(∀y∈ys,IsT ns y)->∃zs:List Tie,ys=zs.map trV/\∀z∈zs,TOk ns z
 |[],_=>⟨[],rfl,by simp⟩
 |y::ys,h=>by obtain⟨t,rfl,ht⟩:=h y (by simp);obtain⟨zs,rfl,hz⟩:=UP (ys:=ys) λz hz=>h z<|Þ _ hz;exact⟨t::zs,rfl,λz hz'=>(Ç.mp hz').elim (λe=>e▸ht)<|hz z⟩
def isl{xs:List Val}(e:h a=eY (.lst xs))(q:Q (.bl fb) h):(biV h (.isi ["list"]) [.ref a]).wp h Q:=P0 (by unfold isiAny isiAny gB gA;simp only[e];rfl) q
variable {lo:Int}
def UJ{i hi:Int}(h1:lo<=i)(h2:i<=hi)(k:Q (.bl fb) h):wF P (n+2) "is_whole_between" [.int i,.int lo,.int hi] h Q X:=by
 refine XI ?_
 exists Xz
 walk_at "p";refine f6 (by simpa using h1) ?_;fail;rw[gG h2];exact k
def M2{i:Int}(k:Q (.bl fb) h):wF P (n+1) "is_whole" [.int i] h Q X:=by refine Xz ?_;walk_at "p";exact k
def Uh{xs:List Val}:xs.filterMap (λ_=>eY<|Val.bl fb)=(xs.map λ_=>fb).map Val.bl:=by rw[ý];exact congrFun (cp (f:=Val.bl ∘ λ_=>fb)) xs
def L6(e:h a=eY (.lst<|ns.map .int))(l2:ns.length<=10)(hb:Brs ns)(nd:ns.Nodup)(k:∀g,Ext h g->Q (.bl fb) g):wF P (n+3) "are_bridges" [.ref a] h Q X:=by
 refine JZ ?_;have hL:(ns.map Val.int).length=ns.length:=Ã _;refine' ⟨Û (by rw[hL];exact l2) (by decide),Yr (λ_=>eY<|.bl fb) (lsE e) (λv hv K hK=>?_) ?_⟩
 .obtain⟨i,hi,rfl⟩:=Ü.mp hv;walk_at "p";exact UJ (hb i hi).1 (by have:=(hb i hi).2;lia) hK
 rw[Uh];refine Zg λp g hp x ep=>?_
 exists Os ep (YQ _)
 fail;refine f7 (by simp) ?_;have e':=x.get e;refine' lset e' (by lia) ?_;fail;have:gK (((dedup ns).length:Int)=((ns.map Val.int).length:Int))=fb:=gG (by rw[hL];have:=(KA ns).mpr nd;lia);rw[this];exact k g x
def HP{t:Tie}(ht:TOk ns t)(e:h b=eY (.lst<|ns.map .int))(k:Q (.bl fb) h):wF P (n+3) "is_tie" [trV t,.ref b] h Q X:=by
 obtain⟨i,j,c⟩:=t;obtain⟨h1,h2,h3,h4,h5⟩:=ht;unfold trV;dsimp only at h1 h2 h3 h4 h5 ⊢;refine DP ?_;walk_at "p";refine M2 ?_;walk_at "p";refine M2 ?_;walk_at "p";refine Hr e ?_;fail;refine f7 (by simpa using h1) ?_
 exists Hr e
 fail;refine f7 (by simpa using h2) ?_;fail;refine f6 (by simpa using h3) ?_;refine' UJ h4 h5 k
def Eo{t:Tie}(k:Q (trV<|M7 t) h):wF P (n+1) "lesser_end_first" [trV t] h Q X:=by obtain⟨i,j,c⟩:=t;unfold trV;refine Xw ?_;refine' k
def UI{zs:List Tie}(eb:h b=eY (.lst<|ns.map .int))(et:h t=eY (.lst<|zs.map trV))(l1:1<=ns.length)(l2:ns.length<=10)(hb:Brs ns)(nd:ns.Nodup)(lt:zs.length<=16)(hz:∀z∈zs,TOk ns z)
  (k:∀g,Ext h g->Q (ZO (sortI ns)<|zs.map M7) g):wF P (n+4) "make_net" [.ref b,.ref t] h Q X:=by
 have hL:(ns.map Val.int).length=ns.length:=Ã _;have hT:(zs.map trV).length=zs.length:=Ã _;refine OP ?_;refine E1<|Qp<|Rn<|Hw<|Hl<|Ps<|DU<|GL rfl<|BS<|isl eb<|g_tbl ?_;refine f7 rfl ?_;refine Hw<|Hl<|Ps<|DU<|GL rfl<|BS<|isl et<|g_tbl ?_;refine f7 rfl ?_;fail;refine f6 (by simpa using (by lia:(1:Int)<=(ns.map Val.int).length)) ?_;fail;refine f7 (by simpa using (by lia:(ns.length:Int)<=10)) ?_;fail;refine f7 (by simpa using (by lia:(zs.length:Int)<=16)) ?_;refine' L6 eb l2 hb nd λg x=>?_;fail;refine f7 rfl ?_;have eb':=x.get eb;have et':=x.get et;refine' ⟨Û (by rw[hT];exact lt) (by decide),Yr (λ_=>eY<|.bl fb) (lsE et') (λv hv K hK=>?_) ?_⟩
 .obtain⟨z,hz',rfl⟩:=Ü.mp hv;walk_at "p";exact HP (hz z hz') eb' hK
 rw[Uh];refine Zg λp g2 hp x2 ep=>?_
 exists Os ep (YQ _)
 fail;refine f7 (by simp) ?_;have eb2:=x2.get eb';have et2:=x2.get et';refine' LV eb2 (Ye _) (by lia) ?_;refine Zg λp3 g3 hp3 x3 ep3=>?_;have et3:=x3.get et2;refine' ⟨Û (by rw[hT];exact lt) (by decide),Z6 (λi ys g=>g=g3/\ys=(zs.take i).map λz=>trV<|M7 z) ⟨rfl,rfl⟩ (λ_ _ g _ z=>by rw[z.1];exact lsE et3) (λi v ys g hv hI K hK=>?_) λys g hI=>?_⟩
 .obtain⟨rfl,rfl⟩:=hI;rw[Ú]at hv;obtain⟨z,hz',rfl⟩:=Î.mp hv;walk_at "p";refine Eo<|hK _ _ ⟨rfl,?_⟩;rw[Ŷ,hz',ã];rfl
 .obtain⟨rfl,rfl⟩:=hI;rw[hT,ø];refine Zg λp4 g4 hp4 x4 ep4=>?_;fail;have e:ZO (sortI ns) (zs.map M7)=.tup [.tup<|(sortI ns).map .int,.tup<|zs.map λz=>trV<|M7 z]:=by unfold ZO;rw[ý];rfl
  rw[e]at k;exact k _<|((x.trans x2).trans x3).trans x4
def MW{v:Val}(h:(fN lo m)[i]?=eY v):v=.int (lo+i)/\lo+(i:Int)<m:=by unfold fN at h;rw[Ú]at h;obtain⟨k,hk,rfl⟩:=Î.mp h;obtain⟨Χ,rfl⟩:=Ò.mp hk;rw[Ŝ]at Χ;rw[dX];exact⟨rfl,by lia⟩
def Bl:(fN lo m).length=(m - lo).toNat:=by unfold fN;rw[Ã,Ŝ]
def HA(hw:Row h w)(k:∀bs ts g,fB bs ts->ExtB w h g->Row g w->Q (ZO bs ts) g):wF P (n+5) "_law_net" [.ref w] h Q X:=by
 refine AG ?_;refine' Ze hw (by decide) (by decide) λr1 f1 a1 b1 y1 v1=>?_;refine' Zg λp0 f2 hp0 y2 e0=>?_;have n0:p0≠w:=λz=>v1.ne hp0 z.symm;refine' Ze (v1.ext y2) (by decide) (by decide) λr9 g0 a9 b9 y3 w0=>?_;have x0:ExtB w h g0:=(y1.trans<|.of y2).trans y3;have e0:=y3.get n0 e0;walk_at "py1";walk_at "w";obtain⟨u0,eu0,hu0⟩:=Yn (xs:=[Val.int<|1+r1,.int 10]) (r:=if gK (r9=0)=fb then 1 else 0) (by split<;>decide) (by show _<(2:Int);split<;>decide);obtain⟨mn,rfl,a0,b0⟩:∃mn:Int,u0=.int mn/\1<=mn/\mn<=10:=by simp only[Ç,Ø,or_false]at hu0;rcases hu0 with rfl|rfl<;>exact⟨_,rfl,by lia,by lia⟩
 refine in_bl ?_;refine ZZ e0 eu0 ?_;clear e0 eu0 hu0;refine' Zg λp1 g1 cr x1 e1=>?_;have n1:p1≠w:=λz=>w0.ne cr z.symm;refine' Ze (w0.ext x1) (by decide) (by decide) λr2 g2 a2 b2 x2 w2=>?_;obtain⟨v,ev,hv⟩:=Yn (xs:=[Val.int 1,.int 3,.int 10,.int 100]) (r:=r2) a2 b2;obtain⟨st,rfl,s1,s2⟩:∃st:Int,v=.int st/\1<=st/\st<=100:=by simp only[Ç,Ø,or_false]at hv;rcases hv with rfl|rfl|rfl|rfl<;>exact⟨_,rfl,by decide,by decide⟩
 refine ZZ (x2.get n1 e1) ev ?_;have xh:ExtB w h g2:=(x0.trans<|.of x1).trans x2;clear e1 ev hv;refine' ⟨⟨by lia,by lia⟩,by rw[YH];exact Û (by lia:mn.toNat<=10) (by decide),?_⟩;refine Z6 (λi ys g=>∃ns:List Int,ys=ns.map Val.int/\ns.length=i/\(∀j∈ns,0<=j)/\ExtB w h g/\Row g w) ⟨[],rfl,rfl,(λi hi=>gJ hi Ø),xh,w2⟩ (λ_ _ _ _ _=>trivial) ?_ ?_
 .rintro i v ys g hv ⟨ns,rfl,hl,hb,x,hr⟩ K hK;obtain⟨rfl,hi⟩:=Xj hv;walk_at "p";refine Ze hr (by decide) (by decide) λr3 g3 a3 b3 x3 w3=>?_;have m1:(i:Int)+r3<=10:=by lia
  have m2:st*((i:Int)+r3)<=100*10:=Int.le_trans (Int.mul_le_mul_of_nonneg_right s2<|by lia) (Int.mul_le_mul_of_nonneg_left m1<|by decide);have m3:0<=st*((i:Int)+r3):=Int.mul_nonneg (by lia) (by lia);refine' Zg λp4 g4 hp4 x4 e4=>?_;fail;have d0:(0:Int)<=st / 100:=Int.ediv_nonneg (by lia) (by decide);have d1:st / 100<2:=Int.ediv_lt_of_lt_mul (by decide) (by lia);obtain⟨v,ev,hv⟩:=Yn (xs:=[Val.int 0,.int 7]) (r:=st / 100) d0 d1;obtain⟨c,rfl,c0,c1⟩:∃c:Int,v=.int c/\0<=c/\c<=7:=by simp only[Ç,Ø,or_false]at hv;rcases hv with rfl|rfl<;>exact⟨_,rfl,by decide,by decide⟩
  refine ZZ e4 ev ?_;refine' hK _ _ ⟨ns++[st*((i:Int)+r3)+c],by rw[ã];rfl,by rw[ê,hl];rfl,λj hj=>?_,(x.trans x3).trans<|.of x4,w3.ext x4⟩;rcases å.mp hj with hj|hj
  .exact hb j hj
  .rw[à.mp hj];lia
 .rintro ys g ⟨ns,rfl,hl,hb,x,hr⟩;rw[YH]at hl;have l1:1<=ns.length:=by lia
  have l2:ns.length<=10:=by lia
  refine Zg λp5 g5 hp5 x5 e5=>?_;refine' ⟨Û (by rw[Ã];exact l2) (by decide),?_⟩;refine Z6 (λi ys g=>g=g5/\ys=((ns.take i).map λj=>if j<999 then j else 999).map Val.int) ⟨rfl,rfl⟩ (λ_ _ g _ z=>by rw[z.1];exact lsE e5) ?_ ?_
  .rintro i v ys g hv ⟨rfl,rfl⟩ K hK;obtain⟨j,hj,rfl⟩:=ZY hv;walk_at "p";exact hK _ _ ⟨rfl,by rw[Zp hj,ã,ã];rfl⟩
  rintro ys g ⟨rfl,rfl⟩;rw[Ã,ø];refine Zg λp5' g5' hp5' x5' e5=>?_;have x5:=x5.trans x5';have hb:Brs (ns.map λj=>if j<999 then j else 999):=λi hi=>by obtain⟨j,hj,rfl⟩:=Ü.mp hi;have:=hb j hj;split<;>lia
  have l1:1<=(ns.map λj=>if j<999 then j else 999).length:=by rw[Ã];exact l1
  have l2:(ns.map λj=>if j<999 then j else 999).length<=10:=by rw[Ã];exact l2
  clear hp5 x5';generalize (ns.map λj=>if j<999 then j else 999)=ns at e5 hb l1 l2;have hp5:=hp5';clear hl;refine' RN e5 (by lia) (Zg λb g6 hb6 x6 eb=>?_);have hrb:Brs<|sortI<|dedup ns:=λi hi=>hb i<|sd_mem.mp hi;have nd:=Cd ns;have l3:=Lc l1;have l4:=LL ns;generalize sortI (dedup ns)=bs at eb hrb nd l3 l4;have w6:=(hr.ext x5).ext x6;have nb:b≠w:=λz=>(hr.ext x5).ne hb6 z.symm;have xh6:ExtB w h g6:=x.trans<|.of<|x5.trans x6;clear e5 x6 x5 hp5 hr x hb;have hL:(bs.map Val.int).length=bs.length:=Ã _;refine' Zg λt g7 ht7 x7 e7=>?_;have nt:t≠w:=λz=>w6.ne ht7 z.symm;have ntb:t≠b:=λz=>Za eb ht7 z.symm;refine' Ze (w6.ext x7) (by decide) (by decide) λr8 g8 a8 b8 x8 w8=>?_;have xh8:ExtB w h g8:=xh6.trans<|(ExtB.of x7).trans x8;have eb8:=x8.get nb<|x7.get eb;have e8:=x8.get nt e7;clear e7 eb;have ht0:h t=eZ:=by
   cases z:h t with
   |none=>rfl
   |some o=>rw[xh6.get nt z]at ht7;cases ht7
  refine' ⟨⟨by lia,by lia⟩,?_⟩;refine Zr (λi en g=>Sm5 λv3 v6 v7 v8 ts=>Cj7 (en=[eY<|.ref w,eY<|.int mn,eY<|.int st,v3,eY<|.ref b,eY<|.ref t,v6,v7,v8]) (g t=eY (.lst ts)) (ts.length<=i) ((∀t∈ts,IsT bs t)) (g b=eY (.lst<|bs.map .int)) (ExtB w h g)<|Row g w) ⟨_,_,_,_,[],rfl,e8,Ì _,(λi hi=>gJ hi Ø),eb8,xh8,w8⟩ (λ_ _ _ _ _=>trivial) ?_ ?_
  .rintro i v en g hv ⟨v3,v6,v7,v8,ts,rfl,et,hl,ht,eC,x,hr⟩ K hK;obtain⟨rfl,hi⟩:=Xj hv;refine' Ze hr (by lia) (by lia) λq1 g1 a1 b1 x1 w1=>?_;have eb1:=x1.get nb eC;obtain⟨u1,eu1,hu1⟩:=Yn (xs:=bs.map Val.int) (r:=q1) a1 b1;obtain⟨i1,hi1,rfl⟩:=Ü.mp hu1;refine ZZ eb1 eu1 ?_;refine' Ze w1 (by lia) (by lia) λq2 g2 a2 b2 x2 w2=>?_;have eb2:=x2.get nb eb1;obtain⟨u2,eu2,hu2⟩:=Yn (xs:=bs.map Val.int) (r:=q2) a2 b2;obtain⟨i2,ee,rfl⟩:=Ü.mp hu2;refine ZZ eb2 eu2 ?_;refine' Ze w2 (by lia) (by lia) λq3 g3 a3 b3 x3 w3=>?_;refine' Ze w3 (by lia) (by lia) λq4 g4 a4 b4 x4 w4=>?_;refine' Zg λp9 g9 hp9 x9 e9=>?_;have n9:p9≠w:=λz=>w4.ne hp9 z.symm;refine' Ze (w4.ext x9) (by lia) (by lia) λq5 g5 a5 b5 x5 w5=>?_;obtain⟨u3,eu3,hu3⟩:=Yn (xs:=[Val.int 1,.int 1,.int 2,.int<|1+q3,.int<|1+q4]) (r:=q5) a5 b5;obtain⟨c,rfl,c0,c1⟩:∃c:Int,u3=.int c/\1<=c/\c<=1000:=by
    simp only[Ç,Ø,or_false]at hu3;rcases hu3 with rfl|rfl|rfl|rfl|rfl<;>exact⟨_,rfl,by lia,by lia⟩
   refine ZZ (x5.get n9 e9) eu3 ?_;have xx:ExtB w g g5:=((((x1.trans x2).trans x3).trans x4).trans<|.of x9).trans x5;have et5:=xx.get nt et;have eb5:=xx.get nb eC;refine' OE (λhc=>?_) (λhc=>?_)
   .refine' Ys et5 (Û (by lia:ts.length<=10)<|by decide) ?_;dsimp only;refine' hK _ _ ⟨_,_,_,_,_,rfl,ff,by rw[ê];simp;lia,λz hz=>?_,(fe ntb.symm).trans eb5,NL (x.trans xx) ht0,w5.exb nt⟩
    .rcases å.mp hz with hz|hz
     .exact ht z hz
     .rw[à.mp hz];exact⟨(i1,i2,c),rfl,hi1,ee,hc,c0,c1⟩
   .refine' hK _ _ ⟨_,_,_,_,_,rfl,et5,by lia,ht,eb5,x.trans xx,w5⟩
  .rintro en g ⟨v3,v6,v7,v8,ts,rfl,et,hl,ht,eC,x,hr⟩;rw[YH]at hl;refine' ⟨⟨by lia,by lia⟩,?_⟩;refine Zr (λi en g=>Sm5 λv3 v6 v7 v8 ts=>Cj7 (en=[eY<|.ref w,eY<|.int mn,eY<|.int st,v3,eY<|.ref b,eY<|.ref t,v6,v7,v8]) (g t=eY (.lst ts)) (ts.length<=9+i) ((∀t∈ts,IsT bs t)) (g b=eY (.lst<|bs.map .int)) (ExtB w h g)<|Row g w) ⟨_,_,_,_,ts,rfl,et,by lia,ht,eC,x,hr⟩ (λ_ _ _ _ _=>trivial) ?_ ?_
   .rintro i v en g hv ⟨v3,v6,v7,v8,ts,rfl,et,hl,ht,eC,x,hr⟩ K hK;obtain⟨rfl,hi⟩:=MW hv;rw[hL]at hi;refine' Ze hr (by lia) (by lia) λq1 g1 a1 b1 x1 w1=>?_;refine' f8 (λhc=>?_) (λhc=>?_)
    .refine' Ze w1 (by lia) (by lia) λq2 g2 a2 b2 x2 w2=>?_;have eb2:=x2.get nb<|x1.get nb eC;obtain⟨u2,eu2,hu2⟩:=Yn (xs:=bs.map Val.int) (r:=q2) a2 (by lia);obtain⟨i2,ee,rfl⟩:=Ü.mp hu2;refine ZZ eb2 eu2 ?_;fail;obtain⟨u3,eu3,hu3⟩:=Yn (xs:=bs.map Val.int) (r:=1+(i:Int)) (by lia) (by lia);obtain⟨i3,hi3,rfl⟩:=Ü.mp hu3;refine ZZ eb2 eu3 ?_;refine' Ze w2 (by lia) (by lia) λq4 g4 a4 b4 x4 w4=>?_;have xx:ExtB w g g4:=(x1.trans x2).trans x4;have et4:=xx.get nt et;refine' Ys et4 (Û (by lia:ts.length<=30)<|by decide) ?_;dsimp only;refine' hK _ _ ⟨_,_,_,_,_,rfl,ff,by rw[ê];simp;lia,λz hz=>?_,(fe ntb.symm).trans<|xx.get nb eC,NL (x.trans xx) ht0,w4.exb nt⟩;rcases å.mp hz with hz|hz
     .exact ht z hz
     .rw[à.mp hz];exact⟨(i2,i3,1+q4),rfl,ee,hi3,PR nd a2 (by lia) (by lia) (by lia) (by lia) eu2 eu3,by show 1<=1+q4;lia,by show 1+q4<=1000;lia⟩
    .refine' hK _ _ ⟨_,_,_,_,_,rfl,x1.get nt et,by lia,ht,x1.get nb eC,x.trans x1,w1⟩
   .rintro en g ⟨v3,v6,v7,v8,ts,rfl,et,hl,ht,eC,x,hr⟩;rw[Bl]at hl;obtain⟨zs,rfl,hz⟩:=UP ht;rw[Ã]at hl;fail;have ec:cut (zs.map trV) eZ (eY 16)=(zs.take 16).map trV:=by
     unfold cut fP;dsimp only;rw[gD (by decide),bd,Nat.sub_zero,bM,show Int.toNat 16=16 from rfl];by_cases hz:(zs.map trV).length<=16
     .rw[Nat.min_eq_right hz,ø,ώ hz]
     .rw[ϔ<|Nat.le_of_not_le hz]
    rw[ec];refine Zg λpc gc hpc xc et=>?_;have eC:=xc.get eC;have x:=x.trans<|.of xc;have hr:=hr.ext xc;have hz:∀z∈zs.take 16,TOk bs z:=λz h=>hz z<|List.mem_of_mem_take h;have hl:(zs.take 16).length<=16:=by rw[Č];exact Nat.min_le_left _ _
    generalize zs.take 16=zs at et hz hl;refine UI eC et l3 (by lia) hrb nd (by lia) hz λg3 x3=>?_;have hl2:(sortI bs).length=bs.length:=(Ō bs _).length_eq;refine k _ _ _ ⟨by lia,by lia,λi hi=>hrb i<|mem_sort.mp hi,WO nd,by rw[Ã];lia,λt ht=>?_⟩ (x.trans<|.of x3)<|hr.ext x3;obtain⟨z,hz',rfl⟩:=Ü.mp ht;obtain⟨q1,q2,q3⟩:=Gq<|hz z hz';exact⟨mem_sort.mpr q1,mem_sort.mpr q2,q3⟩
abbrev J8(bs:List Int)(ts:List Tie)(most:Int):Yc:=⟨bs,ts,most,bs.map λb=>(b,0),bs.map λb=>(b,ZV b 0 most<|gu b 0 ts),[],[]⟩
def Qo{bs:List Int}(nw:YNew bs ts most Y):Y.cc=J8 bs ts most:=by
 have e:enC Y.es=bs.map λb=>(b,ZV b 0 most<|gu b 0 ts):=by rw[<-nw.num,ý];exact ħ λe he=>by show(e.num,e.B)=(e.num,_);rw[nw.br e he]
 unfold Yd.cc J8;rw[nw.hb,nw.ht,nw.hm,nw.lives,nw.fallen,nw.road,e]
def Gr{b:Int}(h:ts.length<=16):Bok ts.length<|ZV b life most<|gu b 0 ts:=by
 have r:=JR (b:=b) (l:=ts) (k:=0);have rg:∀q∈Wx (gu b 0 ts),0<=q.1/\q.1<ts.length:=λq hq=>by obtain⟨x,hx,rfl⟩:=Ü.mp hq;have:=r.2 x hx;dsimp only;lia
 refine⟨⟨ı,(λ_ m=>nomatch m),?_,λq hq=>?_⟩,λq hq=>(rg q hq).2⟩
 .show((Wx _).map (·.1)).Nodup;rw[O7];exact r.1.imp λz=>by lia
 .have:=rg q hq;lia
def Uw{bs:List Int}(no:fB bs ts):(J8 bs ts most).gd 0:=by
 have e1:(bs.map λb=>(b,ZV b 0 most<|gu b 0 ts)).map (·.1)=bs:=by rw[ý];exact ϟ _
 refine⟨no,?_,keys_sub.mpr ?_,λq hq=>?_,?_,ı,(λ_ m=>nomatch m),Ì _⟩
 .show((bs.map λb=>(b,ZV b 0 most<|gu b 0 ts)).map (·.1)).Nodup;rw[e1];exact no.up.imp λh=>by lia
 .show ∀x∈(bs.map λb=>(b,ZV b 0 most<|gu b 0 ts)).map (·.1),_;rw[e1];exact λ_=>id
 .obtain⟨b,_,rfl⟩:=Ü.mp hq;exact Gr no.sixteen
 .show(bs.map λb=>(b,(0:Int))).map (·.1)=bs;rw[ý];exact ϟ _
def Kv{b:Int}(h:b∈C.br.map (·.1)):∃D,step C (.tick b)=eY D/\D.br.map (·.1)=C.br.map (·.1):=by obtain⟨B,hB⟩:=ZG h;refine⟨_,by show(C.br.lookup b).map _=_;rw[hB];rfl,Jj _⟩
def Kq{l:List Int}(h:l.Pairwise (· < ·)):sortI l=l:=by have h1:=WO (h.imp λz=>by lia:l.Nodup);have p:=Ō l λa b=>gK (a<=b);exact p.eq_of_pairwise (λa b _ _ z1 z2=>by lia) h1 h
def fu.extb(x:fu h Y)(e:ExtB w h g)(nw:w∉Y.adr):fu g Y:=x.keep (S:=[w]) (Ex.ofB e<|by simp) λa ha z=>nw (à.mp z▸ha)
def Da{b:Int}(h:b∈C.keys):(step C<|.fallB b).isSome=fb:=by dsimp only[step];rw[gD<|keys_mem.mp h];rfl
def Gp{b:Int}(h:b∈C.keys):(step C<|.tick b).isSome=fb:=by obtain⟨D,hD,_⟩:=Kv<|keys_look.mp<|keys_mem.mp h;rw[hD];rfl
def cut_mem{p:Int}:p∈C.cuts↔(C.fallen.lookup p).isSome=fb:=by unfold Yc.cuts;rw[mem_sort,look_iff];simp
def BA{p:Int}(h0:0<=p)(h1:p<C.ts.length)(h:p∉C.cuts):(step C<|.fallT p).isSome=fb:=by dsimp only[step];rw[gD ⟨⟨h0,h1⟩,by cases z:(C.fallen.lookup p).isSome with|false=>rfl|true=>exact gJ (cut_mem.mpr z) h⟩];rfl
def DM{p:Int}(h:p∈C.cuts):(step C<|.backT p).isSome=fb:=by dsimp only[step];rw[gD<|cut_mem.mp h];rfl
def downs_mem{b:Int}:b∈C.downs↔b∈C.bs/\(C.br.lookup b).isSome=fc:=by unfold Yc.downs;rw[ę];simp
def BI{b:Int}(g:C.gd N)(h:b∈C.downs):(step C<|.backB b).isSome=fb:=by obtain⟨h1,h2⟩:=downs_mem.mp h;dsimp only[step];rw[gE<|by rw[h2];decide];rw[<-g.lv]at h1;obtain⟨v,hv⟩:=ZG h1;rw[hv];rfl
def O6(h0:0<=r)(h1:r<C.road.length):(step C<|.lost r).isSome=fb/\(step C<|.come r).isSome=fb:=by have e:=É (l:=C.road) (i:=r.toNat) (by lia);dsimp only[step];rw[gE (by lia),e];exact⟨rfl,by rw[gE<|by lia];rfl⟩
def Rl(r0:0<=r)(r1:r<ns.length):∃b∈ns,atI (ns.map Val.int) r=eY (.int b):=by obtain⟨b,hb,hm⟩:=Bz r0 r1;exact⟨b,hm,Xd r0<|by rw[Ú,hb];rfl⟩
abbrev flat:Nat->Val->Bool
 |_,.non=>fb
 |_,.bl _=>fb
 |_,.int _=>fb
 |_,.str _=>fb
 |n+1,.tup xs=>xs.all<|flat n
 |_,_=>fc
def WN{α β:Type}{f:α->Option β}:∀{xs:List α},(∀x∈xs,∃d,f x=eY d)->∃ds,xs.mapM f=eY ds
 |[],_=>⟨[],rfl⟩
 |x::xs,h=>by obtain⟨d,hd⟩:=h x (by simp);obtain⟨ds,hds⟩:=WN (xs:=xs) λy hy=>h y (by simp[hy]);exact⟨d::ds,by rw[Ē,hd,hds];rfl⟩
def XR{h:Hs}:∀{n:Nat}{v:Val},flat n v=fb->∃d,dat h n v=eY d
 |0,.non,_=>⟨_,rfl⟩
 |0,.bl _,_=>⟨_,rfl⟩
 |0,.int _,_=>⟨_,rfl⟩
 |0,.str _,_=>⟨_,rfl⟩
 |n+1,.non,_=>⟨_,rfl⟩
 |n+1,.bl _,_=>⟨_,rfl⟩
 |n+1,.int _,_=>⟨_,rfl⟩
 |n+1,.str _,_=>⟨_,rfl⟩
 |n+1,.tup xs,e=>by obtain⟨ds,hds⟩:=WN (f:=dat h n) (xs:=xs) λx hx=>XR<|ó.mp e x hx;exact⟨_,by show(xs.mapM<|dat h n).map D.tup=_;rw[hds];rfl⟩
def Ul{v:Val}(e:flat 12 v=fb):eqV h v v=eY fb:=by obtain⟨d,hd⟩:=XR (h:=h) e;show(dat h 12 v).bind (λd=>(dat h 12 v).map λe=>D.eqv d e)=_;rw[hd];show eY (D.eqv d d)=_;rw[D.eqv_refl]
def all_map{α:Type}{f:α->Val}{n:Nat}{xs:List α}(h:∀x∈xs,flat n (f x)=fb):(xs.map f).all (flat n)=fb:=by rw[List.all_map];exact ó.mpr h
def MN{i:Int}:flat n (.int i)=fb:=by cases n<;>rfl
section
variable {Y:Yd}{N:Nat}
def JL{bs:List Int}(no:fB bs ts)(hp:h p=eZ)(k:∀Y g,Y.y=p->fu g Y->Y.cc=J8 bs ts most->(∀a∈Y.adr,h a=eZ)->Ext h g->Q .non g):wF P (n+3) "Yard.__init__" [.ref p,ZO bs ts,.int most] (upd h p<|.ins "Yard" []) Q X:=DQ no hp λY g e y nw f x=>k Y g e y (Qo nw) f x
def UV{k:Nat}(q:∀c,Q (.int c) h):wF P (n+1) "_law_cell_at" [.scr ns,.int k] h Q X:=by
 refine J3 ?_;refine' f8 (λhc=>?_) (λhc=>?_)
 .fail;have hk:k<ns.length:=by lia
  refine Pf (v:=.int ns[k]) ?_ ?_
  .refine Xd (by lia) ?_;rw[Ú];simp[hk]
  .exact q _
 .refine' q _
end
abbrev Yc.ups(C:Yc):List Int:=C.bs.filter λb=>(C.br.lookup b).isSome
def Nx(g:C.gd N):C.keys=C.ups:=by
 have s1:C.keys.Pairwise (· < ·):=WO g.nd;have s2:C.ups.Pairwise (· < ·):=g.no.up.sublist ŧ;have p:C.keys.Perm C.ups:=(be (s1.imp λz=>by lia)<|s2.imp λz=>by lia).mpr λb=>by rw[keys_mem];unfold Yc.ups;rw[ę];exact⟨λz=>⟨keys_sub.mp g.sub b<|keys_look.mp z,z⟩,λz=>z.2⟩
 exact p.eq_of_pairwise (λa b _ _ z1 z2=>by lia) s1 s2
def Ff:eqV h (.tup<|ts.map trV) (.tup [])=eY (gK (ts=[])):=by
 cases ts with
 |nil=>rfl
 |cons a l =>
  obtain⟨ds,hds⟩:=WN (f:=dat h 11) (xs:=(a::l).map trV) λx hx=>by obtain⟨t,_,rfl⟩:=Ü.mp hx;exact⟨_,rfl⟩
  show((((a::l).map trV).mapM<|dat h 11).map D.tup).bind _=_;have:∃d r,ds=d::r:=by
   rw[Ï,Ē]at hds;cases e:(l.map trV).mapM (dat h 11)with
   |none=>rw[e]at hds;cases hds
   |some r=>rw[e]at hds;exact⟨_,_,(æ hds).symm⟩
  obtain⟨d,r,rfl⟩:=this;rw[hds];rfl
noncomputable abbrev dnV(C:Yc):Val:=.tup [.tup<|C.downs.map .int,.tup<|C.cuts.map .int]
section
variable {Y:Yd}{N:Nat}{C:Yc}
def DA(gd:C.gd N)(k:∀p g,h p=eZ->Ext h g->g p=eY (.lst<|C.ups.map .int)->Q (.ref p) g):wF P (n+1) "_law_ups" [ZO C.bs C.ts,dnV C] h Q X:=by
 refine A2 ?_
 exists fj (xs:=[.tup<|C.bs.map .int,.tup<|C.ts.map trV]) (v:=.tup<|C.bs.map .int) rfl
 refine' ⟨Û (by rw[Ã];exact gd.no.ten) (by decide),Z6 (λi ys g=>g=h/\ys=((C.bs.take i).filter λb=>(C.br.lookup b).isSome).map .int) ⟨rfl,rfl⟩ (λ_ _ _ _ _=>trivial) ?_ ?_⟩
 .rintro i v ys g hv ⟨rfl,rfl⟩ K hK;obtain⟨b,hb,rfl⟩:=ZY hv;rw[Zp hb,dZ,į,List.filter_nil]at hK;have hm:=õ hb
  exists HY (ns:=C.downs)
  have e:(!gK (b∈C.downs))=(C.br.lookup b).isSome:=by
   cases z:(C.br.lookup b).isSome with
   |false=>rw[gG<|downs_mem.mpr ⟨hm,z⟩];rfl
   |true=>rw[gF λy=>by have:=(downs_mem.mp y).2;rw[z]at this;cases this];rfl
  rw[e];refine' f9 (λhc=>?_) (λhc=>?_)
  .refine' hK _ _ ⟨rfl,by rw[hc,gD rfl,ã];rfl⟩
  .exact hK _ _ ⟨rfl,by rw[hc,gE (by decide),ċ,cZ,ċ]⟩
 rintro ys g ⟨rfl,rfl⟩;rw[Ã,ø];exact Zg k
def U2(hw:Row h w)(gd:C.gd N)(k:∀d g,(step C d).isSome=fb->ExtB w h g->Row g w->Q (Dd.v d) g):wF P (n+2) "_law_turned" [.ref w,ZO C.bs C.ts,dnV C] h Q X:=by
 have t16:=gd.no.sixteen;have b10:=gd.no.ten;have b1:=gd.no.one;have htl:(C.ts.map trV).length=C.ts.length:=Ã _;have hbl:(C.bs.map Val.int).length=C.bs.length:=Ã _;refine Me ?_
 exists fj (xs:=[.tup<|C.bs.map .int,.tup<|C.ts.map trV]) (v:=.tup<|C.ts.map trV) rfl
 fail;rw[htl];refine Ze hw (by split<;>lia) (by split<;>lia) λp g1 p0 p1 x1 w1=>?_
 exists fj (xs:=[.tup<|C.bs.map .int,.tup<|C.ts.map trV]) (v:=.tup<|C.bs.map .int) rfl
 exists fj (xs:=[.tup<|C.bs.map .int,.tup<|C.ts.map trV]) (v:=.tup<|C.bs.map .int) rfl
 fail;rw[hbl];refine Ze w1 (by lia) (by lia) λr g2 r0 r1 x2 w2=>?_;obtain⟨b,hb,eb⟩:=Rl (ns:=C.bs) r0 r1;refine fj eb ?_;refine' Ze w2 (by decide) (by decide) λs g3 s0 s1 x3 w3=>?_;have xx:=(x1.trans x2).trans x3;have fin:∀{g:Hs},ExtB w h g->Row g w->wSs (wF P<|n+1) #[.ret<|.tup #[.idx (.lst #[.cst<|.str "fall",.cst<|.str "back"])<|.bi .int #[.cmp .isin (.var 4)<|.idx (.var 2)<|.cst<|.int 0],.cst<|.str "bridge",.var 4]] [eY<|.ref w,eY<|ZO C.bs C.ts,eY<|dnV C,eY<|.int p,eY<|.int b] g (λ_ g=>Q .non g) Q (λ_ _=>False) (λ_ _=>False) λ_ c g=>X c g:=λ{g} y wg=>by
  refine' Zg λq g4 hq x4 e4=>?_
  exists OI (ns:=C.downs)
  have y4:=y.trans<|.of x4;by_cases z:b∈C.downs
  .rw[gG z];refine' k (.backB b) _ (BI gd z) y4 (wg.ext x4)
  .rw[gF z];refine' k (.fallB b) _ (Da<|keys_mem.mpr ?_) y4 (wg.ext x4);cases e:(C.br.lookup b).isSome with
   |true=>rfl
   |false=>exact gJ (downs_mem.mpr ⟨hb,e⟩) z
 refine' f8 (λc1=>?_) (λc1=>f7 rfl<|CY<|fin xx w3)
 exists fj (xs:=[.tup<|C.bs.map .int,.tup<|C.ts.map trV]) (v:=.tup<|C.ts.map trV) rfl
 refine MZ Ff ?_;refine' OE (λc2=>?_) (λc2=>CY<|fin xx w3);have hl:=ϧ.mpr c2;have p1:p<C.ts.length:=by split at p1<;>lia
 refine' Zg λq g4 hq x4 e4=>?_
 exists OI (ns:=C.cuts)
 have y4:=xx.trans<|.of x4;by_cases z:p∈C.cuts
 .rw[gG z];refine' k (.backT p) _ (DM z) y4 (w3.ext x4)
 .rw[gF z];refine' k (.fallT p) _ (BA p0 p1 z) y4 (w3.ext x4)
def B2(hw:Row h w)(x:fu h Y)(gd:Y.cc.gd N)(hN:N<=6000)(nw:w∉Y.adr)(k:∀d g,(step Y.cc d).isSome=fb->ExtB w h g->Row g w->Q (Dd.v d) g):wF P (n+3) "_law_drawn" [.ref w,.ref Y.y,ZO Y.bs Y.ts] h Q X:=by
 have xi:=x.ins;have hl:Y.road.length<=16*N:=gd.len;have rl:(Y.road.map rdV).length=Y.road.length:=Ã _;refine MM ?_;refine' XU x λp1 g1 cr x1 e1=>?_;have y1:=x.ext x1;have xi:=y1.ins;refine' Jp y1 gd λg2 x2=>?_;have y2:=y1.ext x2;refine' DA (C:=Y.cc) gd λpu g3 hpu x3 eu=>?_;have w3:=((hw.ext x1).ext x2).ext x3;have nu:pu≠w:=λz=>((hw.ext x1).ext x2).ne hpu z.symm;fail;rw[rl];refine Ze w3 (by decide) (by decide) λkd g4 k0 k1 x4 w4=>?_;have xx:ExtB w h g4:=(ExtB.of<|(x1.trans x2).trans x3).trans x4;have eu4:=x4.get nu eu;have ul:(Y.cc.ups.map Val.int).length=Y.cc.ups.length:=Ã _;have ul10:Y.cc.ups.length<=10:=ß (Ż _ _) gd.no.ten;have tn:∀{g:Hs},ExtB w h g->Row g w->wF P (n+2) "_law_turned" [.ref w,ZO Y.bs Y.ts,dnV Y.cc] g Q X:=λ{g} y wg=>U2 (C:=Y.cc) wg gd λd g' s x' w'=>k d g' s (y.trans x') w';refine' f8 (λc1=>?_) (λc1=>?_)
 .refine f6 rfl ?_;refine' tn xx w4
 refine' Zg λpz g5 hz x5 e5=>?_;refine c_eqE (x5.get eu4) e5 ?_;have y5:ExtB w h g5:=xx.trans<|.of x5;have w5:=w4.ext x5;refine' f9 (λc2=>?_) (λc2=>?_)
 .refine' tn y5 w5
 have eu5:=x5.get eu4;have hpos:0<Y.cc.ups.length:=by
  cases z:Y.cc.ups with
  |nil=>rw[z]at c2;cases c2
  |cons a l=>simp
 have tick:wSs (wF P<|n+2) #[.ret<|.tup #[.cst<|.str "tick",.idx (.var 5)<|.call "_law_take" #[.var 0,.bi .len #[.var 5]]]] [eY<|.ref w,eY<|.ref Y.y,eY<|ZO Y.bs Y.ts,eY<|.int (Y.road.length:Nat),eY<|dnV Y.cc,eY<|.ref pu,eY<|.int kd,eZ] g5 (λe g=>True) Q (λ_ _=>False) (λ_ _=>False) λ_ c g=>X c g:=by fail;rw[ul];refine Ze w5 (by lia) (by lia) λr g6 r0 r1 x6 w6=>?_;obtain⟨b,hb,eb⟩:=Rl (ns:=Y.cc.ups) r0 r1;refine ZZ (x6.get nu eu5) eb ?_;refine' k (.tick b) _ (Gp<|by rw[Nx gd];exact hb) (y5.trans x6) w6
 refine' f8 (λc3=>?_) (λc3=>?_)
 .refine f6 rfl ?_;exact tick
 refine' f8 (λc4=>?_) (λc4=>?_)
 .exact tick
 refine' Ze w5 (by lia) (by lia) λr g6 r0 r1 x6 w6=>?_;refine' Zg λq g7 hq x7 e7=>?_;have nq:q≠w:=λz=>w6.ne hq z.symm;refine' Ze (w6.ext x7) (by decide) (by decide) λs g8 s0 s1 x8 w8=>?_;obtain⟨v,hv,em⟩:=Yn (xs:=[Val.int 0,.int 0,.int<|(Y.road.length:Nat) - 1,.int r]) (r:=s) s0 s1;refine ZZ (x8.get nq e7) hv ?_;have:∃q:Int,v=.int q/\0<=q/\q<Y.cc.road.length:=by
  have:Y.cc.road.length=Y.road.length:=rfl;simp only[Ç,Ø,or_false]at em;rcases em with rfl|rfl|rfl|rfl
  .exact⟨_,rfl,by lia,by lia⟩
  .exact⟨_,rfl,by lia,by lia⟩
  .exact⟨_,rfl,by lia,by lia⟩
  .exact⟨_,rfl,r0,r1⟩
 obtain⟨pl,rfl,q0,q1⟩:=this;refine' Zg λq2 g9 hq2 x9 e9=>?_;fail;have y9:ExtB w h g9:=(((y5.trans x6).trans<|.of x7).trans x8).trans<|.of x9;by_cases z:kd=12
 .rw[gG z];refine' k (.lost pl) _ (O6 q0 q1).1 y9 (w8.ext x9)
 .rw[gF z];refine' k (.come pl) _ (O6 q0 q1).2 y9 (w8.ext x9)
end
abbrev run:Yc->List Dd->Option Yc
 |C,[]=>eY C
 |C,d::l=>(step C d).bind λD=>run D l
def Uo:∀{l m:List Dd}{C:Yc},run C (l++m)=(run C l).bind λD=>run D m
 |[],_,_=>rfl
 |d::l,m,C=>by
  show(step C d).bind (λD=>run D<|l++m)=((step C d).bind λD=>run D l).bind _;cases step C d with
  |none=>rfl
  |some D=>exact Uo
def MQ{l:List Dd}{d:Dd}{D:Yc}(h:run C l=eY D):run C (l++[d])=step D d:=by rw[Uo,h];show(step D d).bind eY=_;cases step D d<;>rfl
abbrev rnd(C:Yc):Option Yc:=(run C<|C.keys.map Dd.tick).bind λE=>run E<|Ó E.road.length<|Dd.come 0
def Yc.gd.len_(g:C.gd N)(h:C.road.length<=16*M):C.gd M:=⟨g.no,g.nd,g.sub,g.ok,g.lv,g.fn,g.fr,h⟩
def AJ(h:C.road≠[]):∃D,step C (.come 0)=eY D/\D.road.length+1=C.road.length:=by
 cases z:C.road with
 |nil=>exact gJ z h
 |cons r l =>refine⟨_,by show(if(0:Int)<0 then eZ else(C.road[(0:Int).toNat]?).map _)=_;rw[gE (by decide),z];rfl,rfl⟩
def CI(x:α)(n:Nat):Ó (n+1) x=Ó n x++[x]:=by rw[List.replicate_succ']
structure TkAt(C:Yc)(l:List Int)(D:Yc)(N:Nat):Prop where
 run:O.run C (l.map Dd.tick)=eY D
 keys:D.br.map (·.1)=C.br.map (·.1)
 gd:D.gd<|N+l.length
 bs:D.bs=C.bs
 ts:D.ts=C.ts
def TkAt.more{D:Yc}{l:List Int}{b:Int}(t:TkAt C l D N)(hb:b∈C.keys):(step D<|.tick b).isSome=fb/\∀E,step D (.tick b)=eY E->TkAt C (l++[b]) E N:=by
 obtain⟨E,hE,hk⟩:=Kv (C:=D) (b:=b) (by rw[t.keys];exact keys_look.mp<|keys_mem.mp hb);refine⟨by rw[hE];rfl,λF hF=>?_⟩;rw[hE]at hF;cases hF;obtain⟨g,e1,e2,_⟩:=X3 t.gd hE;refine⟨?_,hk.trans t.keys,?_,e1.trans t.bs,e2.trans t.ts⟩
 .rw[ã];exact(MQ t.run).trans hE
 .rw[ê];exact g
structure CmAt(C D:Yc)(j:Nat)(E:Yc)(M:Nat):Prop where
 run:O.run C (Ó j<|Dd.come 0)=eY E
 len:E.road.length+j=C.road.length
 gd:E.gd M
 bs:E.bs=D.bs
 ts:E.ts=D.ts
variable {j:Nat}
def CmAt.more{D E:Yc}(t:CmAt C D j E M)(h:E.road≠[]):(step E<|.come 0).isSome=fb/\∀F,step E (.come 0)=eY F->CmAt C D (j+1) F M:=by obtain⟨F,hF,hl⟩:=AJ h;refine⟨by rw[hF];rfl,λG hG=>?_⟩;rw[hF]at hG;cases hG;obtain⟨g,e1,e2,_⟩:=X3 t.gd hF;refine⟨by rw[CI];exact(MQ t.run).trans hF,by have:=t.len;lia,g.len_ (by have:=t.gd.len;lia),e1.trans t.bs,e2.trans t.ts⟩
def CmAt.end_{D E F:Yc}{l:List Int}(t:TkAt C l D N)(hl:l=C.keys)(c:CmAt D C j E M)(h:E.road=[]):rnd C=eY E/\E.gd 0/\E.road=[]/\E.bs=C.bs/\E.ts=C.ts:=by subst hl;refine⟨?_,c.gd.len_ (by rw[h];exact ğ _),h,c.bs,c.ts⟩;unfold rnd;rw[t.run,è];have:=c.len;rw[h]at this;rw[show D.road.length=j by simpa using this.symm];exact c.run
section
variable {Y:Yd}{N:Nat}{C:Yc}
def NA(x:fu h Y)(gd:Y.cc.gd N)(hN:N<=5000)(k:∀Z g,Mv h Y g Z->rnd Y.cc=eY Z.cc->Z.cc.gd 0->Z.road=[]->Z.bs=Y.bs->Z.ts=Y.ts->Q .non g):wF P (n+7) "quiet_round" [.ref Y.y] h Q X:=by
 have xi:=x.ins;have h10:=gd.ten;have kl:=W4 (C:=Y.cc);refine JX ?_;refine' Xm x gd λp g1 hp x1 e1=>?_;have nA:p∉Y.adr:=λz=>x.taken z hp;refine' Zr (λi en g=>Sm4 λv1 v2 v3 Z=>Cj5 (en=[eY<|.ref Y.y,v1,v2,v3]) (Mv h Y g Z) (p∉Z.adr) (g p=eY (.lst<|AN Y.cc))<|TkAt Y.cc (Y.cc.keys.take i) Z.cc N) ⟨_,_,_,Y,rfl,(Mv.refl x).ext x1,nA,e1,⟨rfl,rfl,gd,rfl,rfl⟩⟩ (λ_ _ _ _ ⟨_,_,_,_,_,_,_,e,_⟩=>lsE e) ?_ ?_
 .rintro i v en g hv ⟨v1,v2,v3,Z,rfl,m,np,ep,t⟩ K hK;obtain⟨b,hb,rfl⟩:=ZY hv;obtain⟨s,q⟩:=t.more<|õ hb;have zi:=m.at_.ins;rw[m.y]at zi;fail;rw[<-m.y];refine Yh (d:=.tick b) m.at_ t.gd (by rw[Č];lia) s λW g3 s mv=>?_;have o:=mv.off np ep;fail;rw[m.y];refine hK _ _ ⟨_,_,_,W,rfl,m.trans mv,o.1,o.2,?_⟩;rw[Zp hb];exact q _ s
 rintro en g ⟨v1,v2,v3,Z,rfl,m,np,ep,t⟩;rw[show(AN Y.cc).length=Y.cc.keys.length from Ã _,ø]at t;have gz:=t.gd;have rl:Z.road.length<=16*(N+Y.cc.keys.length):=gz.len;have zi:=m.at_.ins;rw[m.y]at zi;fail;rw[<-m.y];refine XU m.at_ λp2 g2 hp2 x2 e2=>?_;have nZ:p2∉Z.adr:=λz=>m.at_.taken z hp2;fail;rw[m.y];refine Zr (λi en g=>Sm4 λv1 v2 v3 W=>Cj5 (en=[eY<|.ref Y.y,v1,v2,v3]) (Mv h Y g W) (p2∉W.adr) (g p2=eY (.lst<|Z.road.map rdV))<|CmAt Z.cc Y.cc i W.cc<|N+Y.cc.keys.length) ⟨_,_,_,Z,rfl,m.ext x2,nZ,e2,⟨rfl,rfl,gz,t.bs,t.ts⟩⟩ (λ_ _ _ _ ⟨_,_,_,_,_,_,_,e,_⟩=>lsE e) ?_ ?_
 .rintro i v en g hv ⟨v1,v2,v3,W,rfl,m2,np,ep,c⟩ K hK;have hi:=(Ò.mp hv).1;rw[Ã]at hi;have ű:W.cc.road≠[]:=λz=>by
   have:=c.len;rw[z,ē]at this;have:Z.cc.road.length=Z.road.length:=rfl;lia
  obtain⟨s,q⟩:=c.more ű;have zi:=m2.at_.ins;rw[m2.y]at zi;fail;rw[<-m2.y];refine Yh (d:=.come 0) m2.at_ c.gd (by lia) s λV g3 s mv=>?_;have o:=mv.off np ep;fail;rw[m2.y];exact hK _ _ ⟨_,_,_,V,rfl,m2.trans mv,o.1,o.2,q _ s⟩
 rintro en g ⟨v1,v2,v3,W,rfl,m2,np,ep,c⟩;rw[Ã]at c;have hW:W.cc.road=[]:=Ŏ.mp (by have:=c.len;have:Z.cc.road.length=Z.road.length:=rfl;lia);obtain⟨q1,q2,q3,q4,q5⟩:=CmAt.end_ (F:=W.cc) t rfl c hW;refine' k W g m2 q1 q2 q3 q4 q5
def F5(x:fu h Y)(gd:Y.cc.gd N)(hN:N<=5000)(k:∀Z g,Mv h Y g Z->rnd Y.cc=eY Z.cc->Z.cc.gd 0->Z.road=[]->Z.bs=Y.bs->Z.ts=Y.ts->Q .non g):wF P (n+7) "_law_by_hand" [.ref Y.y,ZO Y.bs Y.ts] h Q X:=by
 have xi:=x.ins;have h10:=gd.ten;have kl:=W4 (C:=Y.cc);refine J5 ?_;refine' Jp x gd λg0 x0=>?_;refine' DA (C:=Y.cc) gd λp g1 hp x1 e1=>?_;rw[<-Nx gd]at e1;have nA:p∉Y.adr:=λz=>(x.ext x0).taken z hp;refine' Zr (λi en g=>Sm2 λv1 Z=>Cj5 (en=[eY<|.ref Y.y,eY<|ZO Y.bs Y.ts,v1]) (Mv h Y g Z) (p∉Z.adr) (g p=eY (.lst<|Y.cc.keys.map .int))<|TkAt Y.cc (Y.cc.keys.take i) Z.cc N) ⟨_,Y,rfl,(Mv.refl x).ext<|x0.trans x1,nA,e1,⟨rfl,rfl,gd,rfl,rfl⟩⟩ (λ_ _ _ _ ⟨_,_,_,_,_,e,_⟩=>lsE e) ?_ ?_
 .rintro i v en g hv ⟨v1,Z,rfl,m,np,ep,t⟩ K hK;obtain⟨b,hb,rfl⟩:=ZY hv;obtain⟨s,q⟩:=t.more<|õ hb;have zi:=m.at_.ins;rw[m.y]at zi;fail;rw[<-m.y];refine Yh (d:=.tick b) m.at_ t.gd (by rw[Č];lia) s λW g3 s mv=>?_;have o:=mv.off np ep;fail;rw[m.y];refine hK _ _ ⟨_,W,rfl,m.trans mv,o.1,o.2,?_⟩;rw[Zp hb];exact q _ s
 rintro en g ⟨v1,Z,rfl,m,np,ep,t⟩;rw[Ã,ø]at t;have gz:=t.gd;have rl:Z.road.length<=16*(N+Y.cc.keys.length):=gz.len
 exists U6 (m:=Z.cc.road.length) (λm' en g=>∃W j,en=[eY<|.ref Y.y,eY<|ZO Y.bs Y.ts,v1]/\Mv h Y g W/\CmAt Z.cc Y.cc j W.cc (N+Y.cc.keys.length)/\W.cc.road.length=m') ⟨Z,0,rfl,m,⟨rfl,rfl,gz,t.bs,t.ts⟩,rfl⟩
 rintro m' en g ⟨W,j,rfl,m2,c,hm⟩ K hK;have zi:=m2.at_.ins;rw[m2.y]at zi;fail;rw[<-m2.y];refine XU m2.at_ λp3 g3 hp3 x3 e3=>?_;refine' Zg λp4 g4 hp4 x4 e4=>?_;refine c_neE (x4.get e3) e4 ?_;fail;have m4:=m2.ext<|x3.trans x4;rw[m2.y];refine f9 (λhc=>?_) λhc=>?_
 .have ű:W.cc.road≠[]:=λz=>by rw[show W.road=[] from z]at hc;cases hc
  obtain⟨s,q⟩:=c.more ű;have zi:=m4.at_.ins;rw[m2.y]at zi;fail;rw[<-m2.y];refine Yh (d:=.come 0) m4.at_ c.gd (by lia) s λV g6 s mv=>?_;have c':=q _ s;fail;rw[m2.y];exact hK (m' - 1) _ _ (by have:=c.len;have:=c'.len;have:=ϧ.mpr ű;lia) ⟨V,_,rfl,m4.trans mv,c',by have:=c.len;have:=c'.len;lia⟩
 .have hW:W.cc.road=[]:=by
   cases z:W.road with
   |nil=>exact z
   |cons a l=>rw[z]at hc;cases hc
  obtain⟨q1,q2,q3,q4,q5⟩:=CmAt.end_ (F:=W.cc) t rfl c hW;refine' k W g4 m4 q1 q2 q3 q4 q5
end
def Jy{xs:List Val}(ea:h a=eY (.lst xs))(eb:h b=eY (.lst xs)):dat h n (.ref a)=dat h n (.ref b):=by
 cases n with
 |zero=>rfl
 |succ n =>show(fv<|h a).bind _=(fv<|h b).bind _;rw[ea,eb]
def OH{xs:List Val}(ea:h a=eY (.lst xs))(f:xs.all (flat n)=fb):∃d,dat h (n+1) (.ref a)=eY d:=by obtain⟨ds,hds⟩:=WN (f:=dat h n) (xs:=xs) λx hx=>XR<|ó.mp f x hx;exact⟨.lst ds,by show(fv<|h a).bind (λxs=>(xs.mapM<|dat h n).map D.lst)=_;rw[ea,Z9,è,hds];rfl⟩
abbrev B9(C:Yc)(m:Nat):List Val:=(List.range m).map λp:Nat=>.tup [.str (C.ends p).1,.str (C.ends p).2]
inductive ShAt (g:Hs) (p:Ad) (C:Yc):Prop
 |mk (a b c:Ad) (hp:g p=eY (.lst [.ref a,.ref b,dnV C,.ref c])) (ha:g a=eY (.lst<|C.road.map rdV)) (hb:g b=eY (.lst<|AN C)) (hc:g c=eY (.lst<|B9 C C.ts.length))
def ShAt.ext{f:Hs}(s:ShAt g p C)(x:Ext g f):ShAt f p C:=by obtain⟨a,b,c,h1,h2,h3,h4⟩:=s;exact⟨a,b,c,x.get h1,x.get h2,x.get h3,x.get h4⟩
def DG(b:Int)(l:Lab):flat 10 (.tup [.int b,l.v])=fb:=by obtain⟨r,c,u⟩:=l;cases u<;>rfl
def DJ(r:Int×Int×Int×L):flat 10 (rdV r)=fb:=by obtain⟨a,b,c,nu,st,ro,co,ag,re,agr⟩:=r;cases re<;>cases agr<;>rfl
def AK(a b:List Int):flat 11 (.tup [.tup<|a.map .int,.tup<|b.map .int])=fb:=by show((a.map Val.int).all (flat 9)&&((b.map Val.int).all (flat 9)&&fb))=fb;rw[all_map λ_ _=>MN,all_map λ_ _=>MN];rfl
def ShAt.eq{q:Ad}(s:ShAt g p C)(t:ShAt g q C):eqV g (.ref p) (.ref q)=eY fb:=by
 obtain⟨a,b,c,h1,h2,h3,h4⟩:=s;obtain⟨a',b',c',k1,k2,k3,k4⟩:=t;obtain⟨d1,e1⟩:=OH k2<|all_map (n:=10) λ_ _=>DJ _;obtain⟨d2,e2⟩:=OH k3<|all_map (n:=10) λ_ _=>DG _ _;obtain⟨d3,e3⟩:=XR (h:=g)<|AK C.downs C.cuts;obtain⟨d4,e4⟩:=OH k4<|all_map (n:=10) λ_ _=>rfl;have q1:dat g 12 (.ref q)=eY (.lst [d1,d2,d3,d4]):=by show(fv<|g q).bind (λxs=>(xs.mapM<|dat g 11).map D.lst)=_;rw[k1,Z9,è,Ē,Ē,Ē,Ē,List.mapM_nil,e1,e2,e3,e4];rfl
 have p1:dat g 12 (.ref p)=eY (.lst [d1,d2,d3,d4]):=by show(fv<|g p).bind (λxs=>(xs.mapM<|dat g 11).map D.lst)=_;rw[h1,Z9,è,Ē,Ē,Ē,Ē,List.mapM_nil,Jy h2 k2,Jy h3 k3,Jy h4 k4,e1,e2,e3,e4];rfl
 show(dat g 12<|.ref p).bind (λd=>(dat g 12<|.ref q).map λe=>D.eqv d e)=_;rw[p1,q1];show eY (D.eqv _ _)=_;rw[D.eqv_refl]
section
variable {Y:Yd}{N:Nat}{C:Yc}
def NK(x:fu h Y)(gd:Y.cc.gd N)(k:∀p g,Ext h g->ShAt g p Y.cc->Q (.ref p) g):wF P (n+6) "_law_shown" [.ref Y.y,ZO Y.bs Y.ts] h Q X:=by
 have t16:Y.ts.length<=16:=gd.no.sixteen;have htl:(Y.ts.map trV).length=Y.ts.length:=Ã _;have xi:=x.ins;refine NY ?_;refine' XU x λp1 g1 cr x1 e1=>?_;have y1:=x.ext x1;have xi:=y1.ins;refine' Xm y1 gd λp2 g2 hp2 x2 e2=>?_;have y2:=y1.ext x2;have xi:=y2.ins;refine' Jp y2 gd λg3 x3=>?_;have y3:=y2.ext x3;have xi:=y3.ins
 exists fj (xs:=[.tup<|Y.bs.map .int,.tup<|Y.ts.map trV]) (v:=.tup<|Y.ts.map trV) rfl
 fail;rw[htl];refine⟨⟨by lia,by lia⟩,by rw[YH];exact Û (by lia:_<=16) (by decide),?_⟩;refine Z6 (λi ys g=>g=g3/\ys=B9 Y.cc i) ⟨rfl,rfl⟩ (λ_ _ _ _ _=>trivial) ?_ ?_
 .rintro i v ys g hv ⟨rfl,rfl⟩ K hK;obtain⟨rfl,hi⟩:=Xj hv;walk_at "p";refine Fq y3 (by lia) ?_;refine' hK _ _ ⟨rfl,?_⟩;unfold B9;rw[List.range_succ,ã];rfl
 rintro ys g ⟨rfl,rfl⟩;rw[YH,ä];refine Zg λp4 g4 hp4 x4 e4=>?_;refine' Zg λp5 g5 hp5 x5 e5=>?_;have z:=(x2.trans x3).trans<|x4.trans x5;exact k p5 g5 (x1.trans z) ⟨_,_,_,e5,z.get e1,((x3.trans x4).trans x5).get e2,x5.get e4⟩
end
abbrev PY(m:Int)(A B:Br)(rd:List<|Int×Int×Int×L):Yc:=⟨[0,1],[(0,1,1)],m,[(0,0),(1,0)],[(0,A),(1,B)],[],rd⟩
def BB:sortI [0,1]=[0,1]:=Kq (by simp)
def Hc:sortI [0]=[0]:=Kq (by simp)
variable {A:Br}
def PY.keys:(PY m A B rd).keys=[0,1]:=BB
variable {T:Br}
def Qd(hA:A.told=T)(ht:T.ties=[(0,(1,1))]):step (PY m A B rd) (.tick 0)=eY (PY m {T with count:=A.count+1} B<|rd++[(0,1,0,Zj T 0)]):=by
 subst hA;have e:ZI [(0,1,1)] 0 A.told=[(0,1,0,Zj A.told 0)]:=by unfold ZI;rw[ht,show sortI ([((0:Int),((1:Int),(1:Int)))].map (·.1))=[0] from Hc];rfl
 show eY (PY m A.ticked B<|rd++ZI [(0,1,1)] 0 A.told)=_;rw[e];rfl
def DK(hA:B.told=T)(ht:T.ties=[(0,(0,1))]):step (PY m A B rd) (.tick 1)=eY (PY m A {T with count:=B.count+1}<|rd++[(1,0,0,Zj T 0)]):=by
 subst hA;have e:ZI [(0,1,1)] 1 B.told=[(1,0,0,Zj B.told 0)]:=by unfold ZI;rw[ht,show sortI ([((0:Int),((0:Int),(1:Int)))].map (·.1))=[0] from Hc];rfl
 show eY (PY m A B.ticked<|rd++ZI [(0,1,1)] 1 B.told)=_;rw[e];rfl
def Uy(hA:A.told=S)(hB:B.told=T)(ha:S.ties=[(0,(1,1))])(hb:T.ties=[(0,(0,1))]):rnd (PY m A B [])=eY (PY m (Z0 {S with count:=A.count+1} 0<|Zj T 0) (Z0 {T with count:=B.count+1} 0<|Zj S 0) []):=by unfold rnd;rw[PY.keys];show((step (PY m A B [])<|.tick 0).bind λD=>(step D<|.tick 1).bind eY).bind _=_;rw[Qd hA ha,è,DK hB hb,è,è];rfl
def WZ{hd:List (Int×(L×Int))}(h:ZP B.most B.held=hd):B.told=taken {B with held:=hd} (Ym {B with held:=hd}):=by unfold Br.told Br.grown;rw[h]
noncomputable abbrev l0:L:=⟨(0,0),(0,0),0,0,0,eZ,eZ⟩
noncomputable abbrev l1:L:=⟨(0,0),(0,0),1,0,0,eZ,eZ⟩
noncomputable abbrev l2:L:=⟨(0,1),(0,0),0,0,0,eZ,eZ⟩
abbrev bk(m:Int)(j:Nat):Br:=⟨1,0,m,[(0,(0,1))],[(0,(l2,j))],⟨0,1,eY (0,(0,0))⟩,1,2+j⟩
def Oq{a:Int}{l:L}(h:a+1<m):ZP m [(0,(l,a))]=[(0,(l,a+1))]:=by unfold ZP;simp[h]
def Ll{a:Int}{l:L}(h:¬ a+1<m):ZP m [(0,(l,a))]=[]:=by unfold ZP;simp[h]
def N5(h:4<=m):∃A,(rnd<|J8 [0,1] [(0,1,1)] m).bind rnd=eY (PY m A (bk m 0) []):=by
 have e0:J8 [0,1] [(0,1,1)] m=PY m ⟨0,0,m,[(0,(1,1))],[],⟨0,0,eZ⟩,0,0⟩ ⟨1,0,m,[(0,(0,1))],[],⟨1,0,eZ⟩,0,0⟩ []:=rfl;have e1:rnd (J8 [0,1] [(0,1,1)] m)=eY (PY m ⟨0,0,m,[(0,(1,1))],[(0,(l1,0))],⟨0,0,eZ⟩,0,1⟩ ⟨1,0,m,[(0,(0,1))],[(0,(l0,0))],⟨1,0,eZ⟩,0,1⟩ []):=by rw[e0];exact(Uy (S:=⟨0,0,m,[(0,(1,1))],[],⟨0,0,eZ⟩,0,0⟩) (T:=⟨1,0,m,[(0,(0,1))],[],⟨1,0,eZ⟩,0,0⟩) rfl rfl rfl rfl).trans rfl
 rw[e1,è];have hA:(⟨0,0,m,[(0,(1,1))],[(0,(l1,0))],⟨0,0,eZ⟩,0,1⟩:Br).told=⟨0,0,m,[(0,(1,1))],[(0,(l1,1))],⟨0,0,eZ⟩,0,1⟩:=(WZ<|Oq<|by show(0:Int)+1<m;lia).trans rfl;have hB:(⟨1,0,m,[(0,(0,1))],[(0,(l0,0))],⟨1,0,eZ⟩,0,1⟩:Br).told=⟨1,0,m,[(0,(0,1))],[(0,(l0,1))],⟨0,1,eY (0,(0,0))⟩,1,1⟩:=(WZ<|Oq<|by show(0:Int)+1<m;lia).trans rfl;exact⟨_,(Uy hA hB rfl rfl).trans rfl⟩
def EW(h:(j:Int)+1<m):(bk m j).told={bk m (j+1)with count:=2+j}:=by refine(WZ (B:=bk m j)<|Oq h).trans ?_;rfl
def Ga(h:¬ (j:Int)+1<m):(bk m j).told=⟨1,0,m,[(0,(0,1))],[],⟨1,0,eZ⟩,2,2+j⟩:=by refine(WZ (B:=bk m j)<|Ll h).trans ?_;rfl
def UQ:AN (PY m A B rd)=[.tup [.int 0,A.label.v],.tup [.int 1,B.label.v]]:=by unfold AN;rw[PY.keys];rfl
section
variable {Y:Yd}{N:Nat}{C:Yc}
def F4(h4:4<=m)(h200:m<=200)(k:∀g,Q (.bl fb) g):wF P (n+8) "_law_ages" [.int m] h Q X:=by
 refine N0 ?_;refine' Zg λp1 g1 cr x1 e1=>?_;refine' Zg λp2 g2 hp2 x2 e2=>?_;refine' UI (ns:=[0,1]) (zs:=[(0,1,1)]) (x2.get e1) e2 (by decide) (by decide) (λi hi=>by simp at hi;lia) (by decide) (by decide) (λz hz=>by rw[à.mp hz];exact⟨by simp,by simp,by decide,by decide,by decide⟩) λg3 x3=>?_;rw[BB,show [((0:Int),(1:Int),(1:Int))].map M7=[(0,1,1)] from rfl];have no:fB [0,1] [(0,1,1)]:=⟨by decide,by decide,λi hi=>by simp at hi;lia,by simp,by decide,λt ht=>by rw[à.mp ht];exact⟨by simp,by simp,by decide,by decide,by decide⟩⟩
 fail;intro py hpy;refine JL no hpy λY g4 e4 y4 cc fr x4=>?_;subst e4;have gd0:Y.cc.gd 0:=by rw[cc];exact Uw no
 refine⟨rfl,?_⟩;refine' ⟨⟨by decide,by decide⟩,?_⟩;refine Zr (λi en g=>Sm2 λv Z=>Cj7 (en=[eY<|.int m,eY<|.ref Y.y,v]) (Z.y=Y.y) (fu g Z) (Z.cc.gd 0) ((i=0->Z.cc=J8 [0,1] [(0,1,1)] m)) ((i=1->rnd (J8 [0,1] [(0,1,1)] m)=eY Z.cc))<|(i=2->(rnd<|J8 [0,1] [(0,1,1)] m).bind rnd=eY Z.cc)) ⟨_,Y,rfl,rfl,y4,gd0,λ_=>cc,nofun,nofun⟩ (λ_ _ _ _ _=>trivial) ?_ ?_
 .rintro i v en g hv ⟨v2,Z,rfl,ey,yz,gz,z0,z1,z2⟩ K hK;obtain⟨rfl,hi⟩:=Xj hv;fail;rw[<-ey];refine NA yz gz (by decide) λV g5 mv er gv _ _ _=>?_;refine' hK _ _ ⟨_,V,by rw[ey],mv.y.trans ey,mv.at_,gv,(λz=>by lia),λz=>?_,λz=>?_⟩
  .rw[<-z0 (by lia)];exact er
  .rw[z1<|by lia];exact er
 rintro en g ⟨v2,Z,rfl,ey,yz,gz,_,_,z2⟩;obtain⟨A,hA⟩:=N5 h4;have ez:=(z2 rfl).symm.trans hA;rw[Ĝ]at ez;refine' ⟨⟨by lia,by lia⟩,?_⟩;refine Zr (λi en g=>Sm4 λv Z B rd=>Cj7 (en=[eY<|.int m,eY<|.ref Y.y,v]) (Z.y=Y.y) (fu g Z) (Z.cc.gd i) (Z.cc=PY m A B rd) (((i:Int)<m->B=bk m i))<|((i:Int)=m->B.label=⟨1,0,eZ⟩)) ⟨_,Z,_,_,rfl,ey,yz,gz,ez,(λ_=>rfl),(λz=>by lia)⟩ (λ_ _ _ _ _=>trivial) ?_ ?_
 .rintro i v en g hv ⟨v2,Z,B,rd,rfl,ey,yz,gz,ez,z0,z1⟩ K hK;obtain⟨rfl,hi⟩:=Xj hv;have eB:=z0 hi;subst eB;have zi:=yz.ins;rw[ey]at zi;fail;rw[<-ey];refine Xm yz gz λq g5 hq x5 e5=>?_;rw[ez,UQ]at e5;refine' NO e5 rfl (Zg λq2 g6 hq2 x6 e6=>?_)
  exists ZN e6 rfl (v:=.tup [.int 0,.int 1,.int 0,pV (0,0)]) rfl
  exists MZ (Ul (v:=.tup [.int 0,.int 1,.int 0]) rfl)
  have y6:=yz.ext<|x5.trans x6;have zi:=y6.ins;walk_at "p";by_cases hl:(i:Int)+1<m
  .have st:=DK (m:=m) (A:=A) (rd:=rd) (EW hl) rfl;refine Yh (d:=.tick 1) y6 gz (by lia) (by rw[ez,st];rfl) λV g7 sv mv=>?_;obtain⟨gv,_⟩:=X3 gz sv;rw[ez,st]at sv;refine' hK _ _ ⟨_,V,_,_,by rw[ey],mv.y.trans ey,mv.at_,gv,(æ sv).symm,(λ_=>by unfold bk;simp;lia),(λz=>by lia)⟩
  .have st:=DK (m:=m) (A:=A) (rd:=rd) (Ga hl) rfl;refine Yh (d:=.tick 1) y6 gz (by lia) (by rw[ez,st];rfl) λV g7 sv mv=>?_;obtain⟨gv,_⟩:=X3 gz sv;rw[ez,st]at sv;refine' hK _ _ ⟨_,V,_,_,by rw[ey],mv.y.trans ey,mv.at_,gv,(æ sv).symm,(λz=>by lia),(λ_=>rfl)⟩
 rintro en g ⟨v2,Z,B,rd,rfl,ey,yz,gz,ez,z0,z1⟩;rw[YH]at z1;have eB:=z1 (by lia);have zi:=yz.ins;rw[ey]at zi;fail;rw[<-ey];refine Xm yz gz λq g5 hq x5 e5=>?_;rw[ez,UQ,eB]at e5;refine' NO e5 rfl (Zg λq2 g6 hq2 x6 e6=>?_)
 exists ZN e6 rfl (v:=.tup [.int 1,.int 0,.non,.non]) rfl
 exists NF (Ul rfl)
 refine' k _
end
structure W2(g:Hs)(yl q:Ad)(a0 b0:Ad)(xs:List Val)(A B:Yd):Prop where
 a:fu g A
 b:fu g B
 dj:∀x∈A.adr,x∉B.adr
 ya:A.y=a0
 yb:B.y=b0
 n1:yl∉A.adr/\yl∉B.adr
 n2:q∉A.adr/\q∉B.adr
 e1:g yl=eY (.lst [.ref a0,.ref b0])
 e2:g q=eY (.lst xs)
variable {yl:Ad} {a0:Ad} {b0:Ad}
def W2.ext{f:Hs}{q:Ad}{xs:List Val}{A B:Yd}(t:W2 g yl q a0 b0 xs A B)(x:Ext g f):W2 f yl q a0 b0 xs A B:=⟨t.a.ext x,t.b.ext x,t.dj,t.ya,t.yb,t.n1,t.n2,x.get t.e1,x.get t.e2⟩
def W2.extb{f:Hs}{q:Ad}{xs:List Val}{A B:Yd}(t:W2 g yl q a0 b0 xs A B)(x:ExtB w g f)(na:w∉A.adr)(nb:w∉B.adr)(m1:w≠yl)(m2:w≠q):W2 f yl q a0 b0 xs A B:=⟨t.a.extb x na,t.b.extb x nb,t.dj,t.ya,t.yb,t.n1,t.n2,x.get m1.symm t.e1,x.get m2.symm t.e2⟩
variable {A':Yd}
def W2.left{f:Hs}{q:Ad}{xs:List Val}{A B:Yd}(t:W2 g yl q a0 b0 xs A B)(m:Mv g A f A'):W2 f yl q a0 b0 xs A' B :=
 ⟨m.at_,t.b.keep m.ex λa hb ha=>t.dj a ha hb,λx hx hb=>(m.nw x hx).elim (λz=>t.dj x z hb) λz=>t.b.taken hb z,m.y.trans t.ya,t.yb,⟨(m.off t.n1.1 t.e1).1,t.n1.2⟩,⟨(m.off t.n2.1 t.e2).1,t.n2.2⟩,(m.off t.n1.1 t.e1).2,(m.off t.n2.1 t.e2).2⟩
def W2.right{f:Hs}{q:Ad}{xs:List Val}{A B B':Yd}(t:W2 g yl q a0 b0 xs A B)(m:Mv g B f B'):W2 f yl q a0 b0 xs A B' :=
 ⟨t.a.keep m.ex λa ha hb=>t.dj a ha hb,m.at_,λx hx hb=>(m.nw x hb).elim (λz=>t.dj x hx z) λz=>t.a.taken hx z,t.ya,m.y.trans t.yb,⟨t.n1.1,(m.off t.n1.2 t.e1).1⟩,⟨t.n2.1,(m.off t.n2.2 t.e2).1⟩,(m.off t.n1.2 t.e1).2,(m.off t.n2.2 t.e2).2⟩
def Row.off{f:Hs}{A:Yd}(r:Row g w)(m:Mv g A f A')(n:w∉A.adr):Row f w/\w∉A'.adr:=by obtain⟨a,b,e,h⟩:=r;have o:=m.off n e;exact⟨⟨a,b,o.2,h⟩,o.1⟩
section
variable {Y:Yd}{N:Nat}{C:Yc}
def Gj{bs:List Int}(k:Q (.int<|r+4*(bs.length:Nat)+6) h)(h10:bs.length<=10):wF P (n+1) "rounds_told" [ZO bs ts,.int r] h Q X:=by
 refine Kc ?_
 exists fj (xs:=[.tup<|bs.map .int,.tup<|ts.map trV]) (v:=.tup<|bs.map .int) rfl
 have hl:(bs.map Val.int).length=bs.length:=Ã _;fail;rw[hl];exact k
def law_ok(h63:ns.length<=63)(k:∀g,Q (.bl fb) g):wF P (n+9) "law" [.scr ns] h Q X:=by
 refine Qw ?_;refine' UV (k:=0) λc0=>?_;refine' Mm λw0 g1 hw x1 w1=>?_;refine' HA w1 λbs ts g2 no x2 w2=>?_;refine' Ze w2 (by decide) (by decide) λr g3 r0 r1 x3 w3=>?_;fail;intro a0 ha0;refine JL no ha0 λA g4 e4 y4 ca fr4 x4=>?_;subst e4;refine⟨rfl,?_⟩;fail;intro b0 hb0;refine JL no hb0 λB g5 e5 y5 cb fr5 x5=>?_;subst e5;refine⟨rfl,?_⟩;have dj:∀x∈A.adr,x∉B.adr:=λx hx hb=>y4.taken hx<|fr5 x hb;have y4:=y4.ext x5;refine' Zg λyl g6 hyl x6 e6=>?_;refine' Zg λp7 g7 hp7 x7 e7=>?_;refine' Zg λp8 g8 hp8 x8 e8=>?_;have cl:(cut (ns.map Val.int) (eY 1)<|eY 63).length<=62:=by rw[Lw (by decide) (by decide),Č];exact Nat.min_le_left _ _
 rw[Cm]at e7 cl;rw[Ã]at cl;generalize cut ns (eY 1) (eY 63)=cs at e7 cl;have e7:=x8.get e7;refine BM e7 e8 (by rw[ê,Ã,ϓ,lim];lia)<|Zg λq g9 hq x9 e9=>?_;have ecs:cs.map Val.int++[.int 0]=(cs++[0]).map .int:=by rw[ã];rfl
 rw[ecs]at e9;have cl:(cs++[0]).length<=63:=by rw[ê,ϓ];lia
 generalize cs++[0]=cs at e9 cl;have x69:=(x6.trans x7).trans<|x8.trans x9;have ny:yl∉A.adr/\yl∉B.adr:=⟨λz=>y4.taken z hyl,λz=>y5.taken z hyl⟩
 have nq:q∉A.adr/\q∉B.adr:=⟨λz=>(y4.ext<|(x6.trans x7).trans x8).taken z hq,λz=>(y5.ext<|(x6.trans x7).trans x8).taken z hq⟩
 have t0:W2 g9 yl q A.y B.y (cs.map .int) A B:=⟨y4.ext x69,y5.ext x69,dj,rfl,rfl,ny,nq,((x7.trans x8).trans x9).get e6,e9⟩
 have gd0:A.cc.gd 0:=by rw[ca];exact Uw no
 have eb:A.bs=bs:=congrArg Yc.bs ca;have et:A.ts=ts:=congrArg Yc.ts ca;have cc:B.cc=A.cc:=cb.trans ca.symm;generalize A.y=a0 at t0 ⊢;generalize B.y=b0 at t0 ⊢;clear fr4 fr5 y4 y5 dj ny nq e6 e7 e8 e9 ca cb ha0 hb0
 exists it_lst t0.e2
 refine Zr (λi en g=>∃v1 v5 v6 v7 v8 A B,en=[eY<|.scr ns,v1,eY<|ZO bs ts,eY<|.int<|4+r,eY<|.ref yl,v5,v6,v7,v8]/\W2 g yl q a0 b0 (cs.map .int) A B/\B.cc=A.cc/\A.cc.gd (6*i)/\A.bs=bs/\A.ts=ts) ⟨_,_,_,_,_,A,B,rfl,t0,cc,gd0,eb,et⟩ (λ_ _ _ _ ⟨_,_,_,_,_,_,_,_,t,_⟩=>lsE t.e2) ?_ ?_
 .clear t0 cc gd0 eb et;rintro i v en g hv ⟨v1,v5,v6,v7,v8,A,B,rfl,t,cc,gd,eb,et⟩ K hK;obtain⟨c,hc,rfl⟩:=ZY hv;have hi:=(Ò.mp hc).1;refine' Mm λw g1 hw x1 w1=>?_;have m1:w≠yl:=λz=>Za t.e1 hw z.symm;have m2:w≠q:=λz=>Za t.e2 hw z.symm;have na:w∉A.adr:=λz=>t.a.taken z hw;have nb:w∉B.adr:=λz=>t.b.taken z hw;refine' Ze w1 (by decide) (by decide) λs g2 s0 s1 x2 w2=>?_;have t:=(t.ext x1).extb x2 na nb m1 m2;refine' ⟨⟨by lia,by lia⟩,?_⟩;refine Zr (λj en g=>Sm4 λv6 v7 A B=>Cj9 (en=[eY<|.scr ns,eY<|.ref w,eY<|ZO bs ts,eY<|.int<|4+r,eY<|.ref yl,eY<|.int c,v6,v7,v8]) (W2 g yl q a0 b0 (cs.map .int) A B) (B.cc=A.cc) (A.cc.gd<|6*i+j) (A.bs=bs) (A.ts=ts) (w∉A.adr) (w∉B.adr)<|Row g w) ⟨_,_,A,B,rfl,t,cc,gd,eb,et,na,nb,w2⟩ (λ_ _ _ _ _=>trivial) ?_ ?_
  .clear t cc gd eb et na nb w2;rintro j v en g hv ⟨v6,v7,A,B,rfl,t,cc,gd,eb,et,na,nb,wg⟩ K hK;obtain⟨rfl,hj⟩:=Xj hv;have e1:=t.e1;fail;rw[<-eb,<-et,<-t.ya];refine B2 wg t.a gd (by lia) na λd g3 sd x3 w3=>?_;have t:=t.extb x3 na nb m1 m2;have e1:=t.e1;have yi:=t.a.ins;rw[t.ya]at yi;fail;rw[<-t.ya];refine Yh t.a gd (by lia) sd λA' g4 sa ma=>?_;have t4:=t.left ma;have e1:=t4.e1;have yi:=t4.b.ins;rw[t4.yb]at yi;obtain⟨w4,na4⟩:=w3.off ma na;fail;rw[<-t4.yb];refine Yh t4.b (cc▸gd) (by lia) (cc▸sd) λB' g5 sb mb=>?_;have t5:=t4.right mb;obtain⟨w5,nb5⟩:=w4.off mb nb;obtain⟨gd5,q1,q2,_⟩:=X3 gd sa;fail;rw[cc,sa]at sb;refine hK _ _ ⟨_,_,A',B',by rw[eb,et],t5,(æ sb).symm,gd5,q1.trans eb,q2.trans et,na4,nb5,w5⟩
  clear t cc gd eb et na nb w2;rintro en g ⟨v6,v7,A,B,rfl,t,cc,gd,eb,et,na,nb,wg⟩;rw[YH]at gd;have gd:A.cc.gd<|6*(i+1):=gd.more (by lia);have last:∀{g:Hs}{A B:Yd},W2 g yl q a0 b0 (cs.map .int) A B->B.cc=A.cc->A.cc.gd (6*(i+1))->A.bs=bs->A.ts=ts->wSs (wF P<|n+8) #[.ite (.val<|.cmp .ne (.call "_law_shown" #[.idx (.var 4)<|.cst<|.int 0,.var 2])<|.call "_law_shown" #[.idx (.var 4)<|.cst<|.int 1,.var 2]) #[.ret<|.cst<|.bl fc] .nil] [eY<|.scr ns,eY<|.ref w,eY<|ZO bs ts,eY<|.int<|4+r,eY<|.ref yl,eY<|.int c,v6,v7,v8] g K Q (λ_ _=>False) (λ_ _=>False) λ_ c g=>X c g:=by clear t cc gd eb et na nb wg;intro g A B t cc gd eb et;have e1:=t.e1;fail;rw[<-eb,<-et,<-t.ya];refine NK t.a gd λp1 g1 x1 s1=>?_;have t1:=t.ext x1;have e1:=t1.e1;fail;have eb':B.bs=bs:=(congrArg Yc.bs cc).trans eb;have et':B.ts=ts:=(congrArg Yc.ts cc).trans et;rw[eb,et,<-eb',<-et',<-t.yb];refine NK t1.b (cc▸gd) λp2 g2 x2 s2=>?_;rw[cc]at s2;refine MZ ((s1.ext x2).eq s2) ?_;walk_at "p";exact hK _ _ ⟨_,_,_,_,_,A,B,by rw[eb',et'],t1.ext x2,cc,gd,eb,et⟩
  refine' Ze wg (by decide) (by decide) λs2 g2 _ _ x2 w2=>?_;have t:=t.extb x2 na nb m1 m2;have e1:=t.e1;refine' f8 (λc1=>?_) (λc1=>last t cc gd eb et);fail;rw[<-t.ya];refine NA t.a gd (by lia) λA' g3 ma ra ga la ba ta=>?_;have t3:=t.left ma;have e1:=t3.e1;fail;have eb':B.bs=bs:=(congrArg Yc.bs cc).trans eb;have et':B.ts=ts:=(congrArg Yc.ts cc).trans et;rw[<-eb',<-et',<-t3.yb];refine F5 t3.b (cc▸gd) (by lia) λB' g4 mb rb gb lb bb tb=>?_;have t4:=t3.right mb;have e1:=t4.e1;have yi:=t4.a.ins;rw[t4.ya]at yi;rw[eb',et'];fail;rw[<-t4.ya];refine XU t4.a λp5 g5 hp5 x5 e5=>?_;refine' Zg λp6 g6 hp6 x6 e6=>?_;rw[la]at e5;refine c_neE (x6.get e5) e6 ?_;fail;refine f7 rfl ?_;rw[cc,ra]at rb;exact last (t4.ext<|x5.trans x6) (æ rb).symm (ga.more<|ğ _) (ba.trans eb)<|ta.trans et
 .rintro en g ⟨v1,v5,v6,v7,v8,A,B,rfl,t,cc,gd,eb,et⟩;have h10:=no.ten;have hbl:(bs.map Val.int).length=bs.length:=Ã _;refine' ⟨⟨by decide,by decide,by decide,by decide⟩,?_⟩;refine Zr (λi en g=>Sm5 λv1 v5 v6 v7 v8=>en=[eY<|.scr ns,v1,eY<|ZO bs ts,eY<|.int<|4+r,eY<|.ref yl,v5,v6,v7,v8]) ⟨_,_,_,_,_,rfl⟩ (λ_ _ _ _ _=>trivial) ?_ ?_
  .rintro i v en g hv ⟨v1,v5,v6,v7,v8,rfl⟩ K hK;obtain⟨rfl,hi⟩:=MW hv;refine' Gj ?_ h10
   exists fj (xs:=[.tup<|bs.map .int,.tup<|ts.map trV]) (v:=.tup<|bs.map .int) rfl
   fail;rw[hbl];refine OE (λz=>gJ rfl z) λ_=>?_;refine' hK _ _ ⟨_,_,_,_,_,rfl⟩
  rintro en g ⟨v1,v5,v6,v7,v8,rfl⟩;refine' UV (k:=1) λc1=>?_;refine' Mm λw g1 hw x1 w1=>?_;refine' Ze w1 (by decide) (by decide) λs g2 s0 s1 x2 w2=>?_;refine' Zg λp g3 hp x3 e3=>?_;have np:p≠w:=λz=>w2.ne hp z.symm;refine' Ze (w2.ext x3) (by decide) (by decide) λu g4 u0 u1 x4 w4=>?_;obtain⟨v,ev,hv⟩:=Yn (xs:=[Val.int<|4+s,.int 200,.int 121,.int 4]) (r:=u) u0 u1;refine ZZ (x4.get np e3) ev ?_;obtain⟨m,rfl,m0,m1⟩:∃m:Int,v=.int m/\4<=m/\m<=200:=by simp only[Ç,Ø,or_false]at hv;rcases hv with rfl|rfl|rfl|rfl<;>exact⟨_,rfl,by lia,by lia⟩
  refine' F4 m0 m1 k
end
end O
set_option maxRecDepth 1000000
set_option maxHeartbeats 0
namespace My
open PySem L2 Snd PySem.W
abbrev top(i:Nat):Stmt:=PySem.Challenge.pw_shutways_k36_quiet_rounds.main.body.getD i<|.Pass ⟨0,0,0,0⟩
abbrev inC:Stmt->Nat->Stmt
 |.ClassDef _ _ _ b _ _ _ _ _ _ _,j=>b.getD j<|.Pass ⟨0,0,0,0⟩
 |s,_=>s
abbrev x0:Ds:=⟨top 6,["thing"],["thing"],O.S3⟩
abbrev x1:Ds:=⟨top 7,["thing","least","greatest"],["thing","least","greatest"],O.S4⟩
abbrev x2:Ds:=⟨top 13,["bridges","ties"],["bridges","ties"],O.TU⟩
abbrev x3:Ds:=⟨top 14,["things"],["things"],O.Sv⟩
abbrev x4:Ds:=⟨top 15,["thing","bridges"],["thing","bridges"],O.S2⟩
abbrev x5:Ds:=⟨top 16,["tie"],["tie"],O.TN⟩
abbrev x6:Ds:=⟨top 17,["net","bridge","found","place","tie"],["net","bridge"],O.TB⟩
abbrev x7:Ds:=⟨top 18,["tie","bridge"],["tie","bridge"],O.S1⟩
abbrev x8:Ds:=⟨top 20,["bridge","offers","better"],["bridge","offers"],O.S0⟩
abbrev x9:Ds:=⟨top 22,["yard","bridge","label","letter"],["yard"],O.TD⟩
abbrev x10:Ds:=⟨top 23,["net","greatest"],["net","greatest"],O.TH⟩
abbrev x11:Ds:=⟨top 32,["one","other"],["one","other"],O.TC⟩
abbrev x12:Ds:=⟨top 38,["some","words"],["some"],O.TF⟩
abbrev x13:Ds:=⟨top 40,["script","k"],["script","k"],O.S8⟩
abbrev x14:Ds:=⟨top 41,["cell"],["cell"],O.TY⟩
abbrev x15:Ds:=⟨top 42,["row","many","told"],["row","many"],O.TW⟩
abbrev x16:Ds:=⟨top 43,["row","many","step","k","bridges","ties","one","other","cost"],["row"],O.TZ⟩
abbrev x17:Ds:=⟨top 44,["net","downs"],["net","downs"],O.TM⟩
abbrev x18:Ds:=⟨top 45,["row","net","downs","place","bridge"],["row","net","downs"],O.TK⟩
abbrev x19:Ds:=⟨top 46,["row","yard","net","road","downs","ups","kind","place"],["row","yard","net"],O.S9⟩
abbrev x20:Ds:=⟨top 48,["yard","net","bridge"],["yard","net"],O.S7⟩
abbrev x21:Ds:=⟨top 49,["yard","net"],["yard","net"],O.TX⟩
abbrev x22:Ds:=⟨top 50,["greatest","yard","k"],["greatest"],O.S6⟩
abbrev x23:Ds:=⟨top 51,["script","row","net","greatest","yards","cell","k","some","far"],["script"],O.S5⟩
abbrev z0:Ds:=⟨inC (top 34) 0,["self","number","life","ties","greatest","place","neighbour","cost"],["self","number","life","ties","greatest"],O.SJ⟩
abbrev z1:Ds:=⟨inC (top 34) 2,["self"],["self"],O.SN⟩
abbrev z2:Ds:=⟨inC (top 34) 3,["self"],["self"],O.SB⟩
abbrev z3:Ds:=⟨inC (top 34) 4,["self","place"],["self","place"],O.SW⟩
abbrev z4:Ds:=⟨inC (top 34) 5,["self","place","neighbour","cost"],["self","place","neighbour","cost"],O.SE⟩
abbrev z5:Ds:=⟨inC (top 34) 6,["self","place"],["self","place"],O.SZ⟩
abbrev z6:Ds:=⟨inC (top 34) 7,["self","place","letter","held"],["self","place","letter"],O.SX⟩
abbrev z7:Ds:=⟨inC (top 34) 8,["self","letters"],["self"],O.SD⟩
abbrev z8:Ds:=⟨inC (top 34) 9,["self","older","place","held"],["self"],O.SO⟩
abbrev z9:Ds:=⟨inC (top 34) 10,["self","offers","place","held","neighbour","cost","best","root"],["self"],O.SA⟩
abbrev z10:Ds:=⟨inC (top 34) 11,["self","label"],["self","label"],O.SC⟩
abbrev z11:Ds:=⟨inC (top 34) 12,["self","place","root","cost","over","rests","age","ahead"],["self","place"],O.SU⟩
abbrev z12:Ds:=⟨inC (top 34) 13,["self","place","held"],["self","place"],O.SM⟩
abbrev z13:Ds:=⟨inC (top 34) 14,["self","place","held"],["self","place"],O.SK⟩
abbrev z14:Ds:=⟨inC (top 34) 15,["self","place"],["self","place"],O.SY⟩
abbrev z15:Ds:=⟨inC (top 37) 0,["self","net","greatest","number"],["self","net","greatest"],O.Sz⟩
abbrev z16:Ds:=⟨inC (top 37) 4,["self"],["self"],O.Sx⟩
abbrev z17:Ds:=⟨inC (top 37) 5,["self","fallen"],["self"],O.SL⟩
abbrev z18:Ds:=⟨inC (top 37) 6,["self"],["self"],O.Sy⟩
abbrev z19:Ds:=⟨inC (top 37) 9,["self","place","one","other","cost"],["self","place"],O.SR⟩
abbrev z20:Ds:=⟨inC (top 37) 10,["self","number","place"],["self","number","place"],O.SQ⟩
abbrev z21:Ds:=⟨inC (top 37) 11,["self","place"],["self","place"],O.SV⟩
abbrev z22:Ds:=⟨inC (top 37) 12,["self","some","words","number"],["self","some"],O.SI⟩
abbrev z23:Ds:=⟨inC (top 37) 13,["self","number","place","letter","goal"],["self","number"],O.Sr⟩
abbrev z24:Ds:=⟨inC (top 37) 14,["self","place","start","goal","tie","letter"],["self","place"],O.SH⟩
abbrev z25:Ds:=⟨inC (top 37) 15,["self","place"],["self","place"],O.Sq⟩
abbrev z26:Ds:=⟨inC (top 37) 16,["self","number"],["self","number"],O.SS⟩
abbrev z27:Ds:=⟨inC (top 37) 17,["self","place"],["self","place"],O.ST⟩
abbrev z28:Ds:=⟨inC (top 37) 18,["self","number"],["self","number"],O.SF⟩
abbrev z29:Ds:=⟨inC (top 37) 19,["self","place"],["self","place"],O.SG⟩
abbrev z30:Ds:=⟨inC (top 37) 20,["self","number","place","neighbour","cost"],["self","number"],O.Su⟩
abbrev z31:Ds:=⟨inC (top 37) 21,["self","place","one","other","cost","stands","near","far"],["self","place"],O.Sw⟩
abbrev tb:Tb where
 fs:=[("is_whole",x0),("is_whole_between",x1),("make_net",x2),("are_bridges",x3),("is_tie",x4),("lesser_end_first",x5),("neighbours",x6),("far_end",x7),("best_offer",x8),("quiet_round",x9),("rounds_told",x10),("newer",x11),("read_deed",x12),("_law_cell_at",x13),("_law_row",x14),("_law_take",x15),("_law_net",x16),("_law_ups",x17),("_law_turned",x18),("_law_drawn",x19),("_law_by_hand",x20),("_law_shown",x21),("_law_ages",x22),("law",x23)]
 ms:=[⟨"Bridge","__init__","Bridge.__init__",z0⟩,⟨"Bridge","label","Bridge.label",z1⟩,⟨"Bridge","stamp","Bridge.stamp",z2⟩,⟨"Bridge","held","Bridge.held",z3⟩,⟨"Bridge","up","Bridge.up",z4⟩,⟨"Bridge","down","Bridge.down",z5⟩,⟨"Bridge","hear","Bridge.hear",z6⟩,⟨"Bridge","tick","Bridge.tick",z7⟩,⟨"Bridge","let_grow_older","Bridge.let_grow_older",z8⟩,⟨"Bridge","reckon_label","Bridge.reckon_label",z9⟩,⟨"Bridge","take_label","Bridge.take_label",z10⟩,⟨"Bridge","letter_over","Bridge.letter_over",z11⟩,⟨"Bridge","is_rested_on","Bridge.is_rested_on",z12⟩,⟨"Bridge","is_agreed_to","Bridge.is_agreed_to",z13⟩,⟨"Bridge","end","Bridge.end",z14⟩,⟨"Yard","__init__","Yard.__init__",z15⟩,⟨"Yard","road","Yard.road",z16⟩,⟨"Yard","down","Yard.down",z17⟩,⟨"Yard","labels","Yard.labels",z18⟩,⟨"Yard","ends","Yard.ends",z19⟩,⟨"Yard","end_at","Yard.end_at",z20⟩,⟨"Yard","has_tie","Yard.has_tie",z21⟩,⟨"Yard","deed","Yard.deed",z22⟩,⟨"Yard","tick_of","Yard.tick_of",z23⟩,⟨"Yard","come","Yard.come",z24⟩,⟨"Yard","take_off","Yard.take_off",z25⟩,⟨"Yard","fall_of_bridge","Yard.fall_of_bridge",z26⟩,⟨"Yard","fall_of_tie","Yard.fall_of_tie",z27⟩,⟨"Yard","back_of_bridge","Yard.back_of_bridge",z28⟩,⟨"Yard","back_of_tie","Yard.back_of_tie",z29⟩,⟨"Yard","set_ties_of","Yard.set_ties_of",z30⟩,⟨"Yard","set_tie","Yard.set_tie",z31⟩]
 cs:=[("MOST_BRIDGES",(.int 10)),("MOST_TIES",(.int 16)),("GREATEST_NUMBER",(.int 999)),("GREATEST_COST",(.int 1000)),("NUMBER",(.int 0)),("STAMP",(.int 1)),("ROOT",(.int 2)),("COST",(.int 3)),("AGE",(.int 4)),("RESTS",(.int 5)),("AGREES",(.int 6)),("DEEDS",(.tup [(.tup [(.str "tick")]),(.tup [(.str "come")]),(.tup [(.str "lost")]),(.tup [(.str "fall"),(.str "bridge")]),(.tup [(.str "fall"),(.str "tie")]),(.tup [(.str "back"),(.str "bridge")]),(.tup [(.str "back"),(.str "tie")])]))]
 cl:=["Bridge","Yard"]
 fl:=["age_let_go","greatest_age","held_by_place","label_now","letters_on_road","life","lives","net_made_of","number","standing","ticks_had","ties_by_place","ties_fallen","version"]
 xs:=[]
abbrev pg:O.Pg:=λf=>(([("is_whole",O.S3),("is_whole_between",O.S4),("make_net",O.TU),("are_bridges",O.Sv),("is_tie",O.S2),("lesser_end_first",O.TN),("neighbours",O.TB),("far_end",O.S1),("best_offer",O.S0),("quiet_round",O.TD),("rounds_told",O.TH),("newer",O.TC),("read_deed",O.TF),("_law_cell_at",O.S8),("_law_row",O.TY),("_law_take",O.TW),("_law_net",O.TZ),("_law_ups",O.TM),("_law_turned",O.TK),("_law_drawn",O.S9),("_law_by_hand",O.S7),("_law_shown",O.TX),("_law_ages",O.S6),("law",O.S5),("Bridge.__init__",O.SJ),("Bridge.label",O.SN),("Bridge.stamp",O.SB),("Bridge.held",O.SW),("Bridge.up",O.SE),("Bridge.down",O.SZ),("Bridge.hear",O.SX),("Bridge.tick",O.SD),("Bridge.let_grow_older",O.SO),("Bridge.reckon_label",O.SA),("Bridge.take_label",O.SC),("Bridge.letter_over",O.SU),("Bridge.is_rested_on",O.SM),("Bridge.is_agreed_to",O.SK),("Bridge.end",O.SY),("Yard.__init__",O.Sz),("Yard.road",O.Sx),("Yard.down",O.SL),("Yard.labels",O.Sy),("Yard.ends",O.SR),("Yard.end_at",O.SQ),("Yard.has_tie",O.SV),("Yard.deed",O.SI),("Yard.tick_of",O.Sr),("Yard.come",O.SH),("Yard.take_off",O.Sq),("Yard.fall_of_bridge",O.SS),("Yard.fall_of_tie",O.ST),("Yard.back_of_bridge",O.SF),("Yard.back_of_tie",O.SG),("Yard.set_ties_of",O.Su),("Yard.set_tie",O.Sw)]:List<|String×O.Fn).lookup f)
instance:O.Al pg:=by constructor<;>rfl
variable {α:Type} {p:List α->Prop}
def ar1(h:∀a0,p [a0])(us:List α)(e:us.length=1):p us:=match us,e with|[a0],_=>h a0
def ar2(h:∀a0 a1,p [a0,a1])(us:List α)(e:us.length=2):p us:=match us,e with|[a0,a1],_=>h a0 a1
def ar3(h:∀a0 a1 a2,p [a0,a1,a2])(us:List α)(e:us.length=3):p us:=match us,e with|[a0,a1,a2],_=>h a0 a1 a2
def ar4(h:∀a0 a1 a2 a3,p [a0,a1,a2,a3])(us:List α)(e:us.length=4):p us:=match us,e with|[a0,a1,a2,a3],_=>h a0 a1 a2 a3
def ar5(h:∀a0 a1 a2 a3 a4,p [a0,a1,a2,a3,a4])(us:List α)(e:us.length=5):p us:=match us,e with|[a0,a1,a2,a3,a4],_=>h a0 a1 a2 a3 a4
variable {P:String->Ds->Prop}
def mc{f:String}{x:Ds}{l:List (String×Ds)}(h:P f x)(k:∀g y,(g,y)∈l->P g y):∀g y,(g,y)∈(f,x)::l->P g y:=λg y m=>by
 rcases Ç.mp m with e|m
 .cases e;exact h
 .exact k g y m
def mn:∀g y,(g,y)∈([]:List<|String×Ds)->P g y:=λ_ _ m=>nomatch m
def Er:∀f x,(f,x)∈tb.fs.drop 12->x.Ok tb:=by
 iterate 12 refine mc ⟨by kernel_rfl,by kernel_rfl⟩ ?_
 exact mn
def tab_ok:∀f x,(f,x)∈tb.fs->x.Ok tb:=by
 iterate 12 refine mc ⟨by kernel_rfl,by kernel_rfl⟩ ?_
 exact Er
def tab_pg:∀f x,(f,x)∈tb.fs->pg f=eY x.d:=by repeat first|exact mn|refine mc rfl ?_
def tab_bd:∀f x,(f,x)∈tb.fs->Hd.Bd (gL f) (gL f) x:=by repeat first|exact mn|refine mc (λ_ _ _ _ _ _=>(by first|exact ar1 λ_=>rfl|exact ar2 λ_ _=>rfl|exact ar3 λ_ _ _=>rfl|exact ar4 λ_ _ _ _=>rfl|exact ar5 λ_ _ _ _ _=>rfl)) ?_
def md{P:α->Prop}{x:α}{l:List α}(h:P x)(k:∀y,y∈l->P y):∀y,y∈x::l->P y:=λy m=>by
 rcases Ç.mp m with e|m
 .cases e;exact h
 .exact k y m
def me{P:α->Prop}:∀y,y∈([]:List α)->P y:=λ_ m=>nomatch m
def EJ:∀y,y∈tb.ms.drop 24->y.x.Ok tb:=by
 iterate 8 refine md ⟨by kernel_rfl,by kernel_rfl⟩ ?_
 exact me
def F2:∀y,y∈tb.ms.drop 12->y.x.Ok tb:=by
 iterate 12 refine md ⟨by kernel_rfl,by kernel_rfl⟩ ?_
 exact EJ
def tab_om:∀y,y∈tb.ms->y.x.Ok tb:=by
 iterate 12 refine md ⟨by kernel_rfl,by kernel_rfl⟩ ?_
 exact F2
def tab_pm:∀y,y∈tb.ms->pg (y.C ++ "." ++ y.m)=eY y.x.d:=by repeat first|exact me|refine md rfl ?_
def tab_bm:∀y,y∈tb.ms->Hd.Bd (gL y.m) (gL y.qual) y.x:=by repeat first|exact me|refine md (λ_ _ _ _ _ _=>(by first|exact ar1 λ_=>rfl|exact ar2 λ_ _=>rfl|exact ar3 λ_ _ _=>rfl|exact ar4 λ_ _ _ _=>rfl|exact ar5 λ_ _ _ _ _=>rfl)) ?_
def law_in:("law",x23)∈tb.fs:=õ (i:=23) rfl
noncomputable abbrev pr:Program:=PySem.Challenge.rw_shutways_k36_quiet_rounds.row.prog
noncomputable abbrev vw:Program:=PySem.W.view pr [0,2,3,4,6,7,9,10,11,12,13,14,15,16,17,18,20,22,23,25,26,27,28,29,30,31,32,34,36,37,38,40,41,42,43,44,45,46,47,48,49,50,51]
noncomputable abbrev xt(s:Shared):Bool:=xlAt vw [] s&&recOk (RowW.records PySem.Challenge.rw_shutways_k36_quiet_rounds.row.toRowW) s
def said:PySem.Challenge.rw_shutways_k36_quiet_rounds.wellSaid=fb:=by rw[Fast.te9446332074065402090];kernel_rfl
def l1:∀w os,(Hd.runY pr 12000 w os).map (Hd.stY pr w)=eY fb:=λw os=>by kernel_rfl
def l2:∀w os,(Hd.runY pr 12000 w os).map (λs=>Hd.seenY vw [] (Hd.modsY pr.main.body) xt fb s.abs)=eY (openGood vw []):=λw os=>by kernel_rfl
def l3:∀w os,(Hd.runY pr 12000 w os).map (λs=>(Hd.hook tb).obs s.abs)=eY ((Hd.hook tb).val w):=λw os=>by kernel_rfl
def left:LeftO pr vw [] xt (Hd.hook tb).obs (Hd.hook tb).val 12000:=Hd.left_of (by kernel_rfl) rfl (λs=>by kernel_rfl) l1 l2 l3
end My
open PySem PySem.W PyProof.Rows
theorem PySem.Challenge.cw_shutways_k36_quiet_rounds_holds : PySem.Challenge.rw_shutways_k36_quiet_rounds.Holds := by
 refine holds_law My.said λsaid=>?_;refine holds_open (q:=My.vw) (loose:=[]) (Xt:=My.xt) (XP:=XL My.vw []) (YP:=(Hd.hook My.tb).says) My.left (Hook.of _) (Hook.keeps _) (λs e=>xl_of s (ϝ.mp e).1) XL.keeps (by rfl) (by rfl) (by rfl) (λs e=>recFacts_of (ϝ.mp e).2) (by rfl) said (by decide +kernel) ⟨rfl,rfl,rfl,rfl,rfl,by decide +kernel⟩ ?hw ?hc
 case hw=>w_on;w_witness2
 case hc=>exact Hd.law_walk (k:=8) rfl rfl rfl ⟨rfl,by decide,by decide⟩ My.law_in rfl rfl My.tab_pg My.tab_pm My.tab_ok My.tab_om My.tab_bd My.tab_bm λns hl=>O.law_ok (n:=0) hl λ_=>rfl
