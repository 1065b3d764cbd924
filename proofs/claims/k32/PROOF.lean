import PyProof.Rows.All
import Wide.All
import OpenK.AllK
import Wide.FinOn
import PyProof.EqAt
import PyProof.EqKinds
import PyProof.TupleCall
import Lean
import PySem.Challenge.RW_shutways_k32_whole_no_ring_at_any_moment
set_option Elab.async false
set_option bootstrap.genMatcherCode false
set_option compiler.extract_closed false
set_option genSizeOf false
local macro_rules|`(command|def $x:declId $b:bracketedBinder*:$t $v:declVal)=>`(command|theorem $x:declId $b:bracketedBinder*:$t $v:declVal)
local macro_rules|`(command|abbrev $x:declId $s:optDeclSig $v:declVal)=>`(command|noncomputable def $x:declId $s:optDeclSig $v:declVal)
set_option linter.all false
set_option maxRecDepth 100000
open PySem.Str renaming ofString->gh
open Decidable renaming decide->gg
open Option renaming some->d9, none->ee
open Bool renaming true->eh, false->ei
open PySem.W (Frag)
open Array renaming length_toList->ñ, getElem?_eq_getElem->ú, getElem?_toList->ă, getElem?_eq_some_iff->ķ, getElem?_eq_none->Ψ, getD->ϥ, toList->bF, toList_push->dy, toList_inj->dW
open Bool renaming false_ne_true->ù, false_eq_true->ĩ, not_eq_true'->ś, and_true->Μ, or_false->ϣ, not_not->Ϸ, false_xor->aR, and_eq_true_iff->cJ
open Char renaming toNat->ŝ
open False renaming elim->ń
open ForInStep renaming yield->Ĺ
open Function renaming comp_apply->bJ
open Int renaming toNat_natCast->ç, emod_lt_of_pos->Ζ, le_refl->Ν, emod_nonneg->ϑ, natCast_nonneg->d7
open List renaming length_map->Á, mem_cons->Ç, mem_append_right->É, getElem?_eq_getElem->Ê, length_cons->Ë, getElem?_eq_some_iff->Î, size_toArray->Ï, mem_map->Ð, map_cons->Ñ, mem_singleton->Ó, getElem?_map->Ö, map_append->Ø, not_mem_nil->Ù, mem_append_left->Ú, replicate->Û, mem_append->Ü, mem_cons_of_mem->â, length_append->ä, nodup_append->æ, mem_of_getElem?->è, map_map->ê, lookup_cons->î, mem_cons_self->ò, mem_map_of_mem->ó, length_replicate->õ, all_eq_true->ü, take_length->ý, append_nil->þ, nodup_cons->Ā, contains_iff_mem->Ą, getElem?_append_left->ć, replicate_succ->Ċ, map_congr_left->ċ, getElem?_append_right->Ď, getD_eq_getElem?_getD->ď, length_nil->Đ, length_take->đ, filterMap_cons->ē, append_assoc->Ĕ, mem_filter->Ę, find?_cons->Ě, nodup_nil->Ģ, map_inj_left->ģ, filter_cons->Ī, foldl_cons->İ, drop_eq_nil_of_le->ĳ, any_cons->Ķ, getElem?_eq_none->ĺ, flatten_cons->Ń, mergeSort_perm->ŋ, getElem?_replicate->Ō, getElem_mem->ō, zip_cons_cons->ŏ, length_mergeSort->ŕ, length_range->ř, mem_flatMap->š, drop_eq_getElem_cons->Ţ, filter_sublist->ţ, filterMap_map->Ũ, map_id->Ū, take_add_one->Ű, flatMap_cons->ű, filterMap_eq_map'->Ų, length_filter_le->Ÿ, getElem?_set_ne->ſ, lookup->ζ, map_nil->μ, mem_filterMap->ο, zip_nil_right->π, mapM_cons->ς, length_eraseIdx_of_lt->υ, zip_nil_left->Ι, length_drop->Τ, length_eq_zero_iff->Υ, getElem?_set_self->ϊ, length_set->ϐ, mem_range->ϗ, pairwise_append->Ϙ, length_take_le'->ϙ, take_succ_cons->Ϡ, flatMap_append->ϡ, set_cons_succ->ϧ, set_cons_zero->Ϩ, length_filter_eq_length_iff->Ϲ, any_eq_true->ae, cons_append->af, eq_nil_of_length_eq_zero->ao, of_mem_zip->aB, nil_append->aC, perm_ext_iff_of_nodup->aS, length_filterMap_le->bu, length_erase_of_mem->bA, mem_of_mem_eraseIdx->bB, pairwise_mergeSort->bH, length_eraseIdx_le->bK, pairwise_singleton->bL, pairwise_lt_range->bT, take_of_length_le->bV, map_id'->bW, mem_iff_getElem?->cj, set_append_left->cG, filter_eq_self->cV, length_pos_iff->cX, foldl->dm, pairwise_cons->du, getElem_range->dA, append_of_mem->dB, lookup_append->dC, filter_append->dD, pairwise_map->dY, foldl_append->d8
open List.Sublist renaming refl->Ť
open Nat renaming le_refl->Ì, lt_of_le_of_lt->Ò, ne_of_lt->à, le_trans->á, lt_of_lt_of_le->ã, zero_le->ĕ, lt_succ_self->Ĝ, lt_irrefl->ġ, lt_succ_of_lt->ı, le_succ->Ņ, ne_of_gt->ő, lt_trans->Œ, le_of_lt->Ŵ, zero_add->ξ, succ_le_succ->Χ, min_le_right->ak, min_eq_left->aM, mul_comm->cb, mul_le_mul_left->dq
open Option renaming map_eq_some_iff->È, isSome_iff_exists->é, bind_eq_some_iff->ï, bind_some->û, map_some->Ő, isSome_map->Ϧ, not_isSome_iff_eq_none->Ϻ, isNone_iff_eq_none->aH, toList_none->cH, getD_none->dk
open Option.some renaming inj->í, injEq->ī
open Prod renaming snd->cI
open Prod.mk renaming injEq->Ε
open PyProof.Rows renaming IntsAre->ÿ, step_dedup->Ś, firstMet->Ž, kindOf->ψ, seqObj->Α, AllBare->Ω, IsTup->ϩ, envOfC->aj, firstMet_length_le->ap, Constant_none->cQ, subscriptTail->cT, subscriptTail_builtinR->dP
open PySem renaming wpAny_bind->À, Value->Ã, Shared->Å, wpAny_pure->Æ, Addr->Í, sizeLine->Ý, starEach->Þ, model->ß, Program->å, compareOp->ì, World->ø, mainGlobals->ą, Heap->Ć, wpAny_newObj_type->Ĉ, Around->ĉ, wpAny_holding->Č, wpAny_truthy_bool->č, codeAny_builtin->Ē, foldedSetIterable->ę, wpAny_loadPart'->ĝ, assignEach->Ğ, wpAny_call_entry->Ġ, backTo->Ĥ, rawInt->ĥ, attributeBase->Ħ, cLine->Ĭ, wpAny_mono->ĭ, wpAny_Call_Name_kw->Į, plainId_quiet->į, wpAny_callSpecial?_slot->Ĳ, argBest->Ĵ, behindInMarks->Ļ, Stmt->ļ, wpAny_seqItems->ľ, wpAny_setField->Ŀ, holding->ł, wpAny_ite_split->ņ, binaryOp->Ň, FuncData->ň, keywordEach->ŉ, wpAny_field->Ŋ, sysModules->ŗ, intKind->Ř, wpAny_passesOwn->Ŝ, wpAny_setState_of->Š, bootBuiltins->ť, wpAny_askSetting->Ŧ, wpAny_setEntries_of->ũ, SetTable->ŭ, tupleKind_room_in1->ŵ, swapsWith->Ŷ, codeAny_mono->Ź, backToKw->ź, wpAny_typeOf->Ż, wpAny_pyIter_list->ż, wpAny_tryCatch->ž, Scope->η, assign->θ, sliceBounds->ν, pyNext->χ, wpAny_updateSeq->Δ, call_meetsIn->Κ, PassesOwn->Λ, wpAny_rule->Ξ, standAt->ϋ, swapsWithSole->ώ, swappedStores->Ϗ, Operator->ϓ, getMethod->ϔ, NameKind->ϕ, getItem->Ϛ, IsPart->ϛ, valueAt->Ϝ, setsByText->ϝ, letOwnedTupleGo->ϟ, builtinLookup_eq_fast->Ϥ, sizeLine_eq->Ϫ, PyData->ϫ, firstArgMember->Ϭ, wpAny_fieldsOf->Ϯ, unsupported->ϯ, tupleKind->ϱ, callerA->ϲ, seqItems?->ϳ, scanBound->ϸ, Result->ai, call_meets->al, wpAny_pyIter_tuple->am, setItem->aE, seqIndex_neg->aF, Keyword->aG, fits_of_scanBound->aJ, lastMarks->aX, noFill_tuple_add->aY, noteFrame->aZ, wpAny_isInstance->a9, seqIndex_of->bp, wpAny_of_eq->bq, wpAny_letGo->bx, wpAny_execs_nil->bG, typeLookup_type->bI, relabel->bP, GenState->bZ, isTrue->b6, CmpOp->b7, callWith->b9, evalEach->ce, atKey->cf, argsOk->cg, isSubtype_type->ck, methodCallForm->cq, wpAny_standAt->cR, seq_tuple_add->cS, wpAny_comprehension_free->cU, wpAny_newList->cW, bindC->dj, updateSeq->dr, drawOrder->dz, release->dL, pyIter->dM, richCompare_meets_room->dN, concat_meets->dO, wpAny_getItem_list_neg->dQ, stored->dU
open PySem.Around renaming under_plainId->ā, under->bo
open PySem.Builtin renaming iter->Ŭ
open PySem.Builtin.Frozenset renaming sizeOf->cp
open PySem.Builtin.Str renaming strSliceIndices->Γ
open PySem.Code renaming isFrame->bO
open PySem.FuncData.mk renaming injEq->bz
open PySem.Heap renaming get?_push_of_some->Ä, lt_size->Ô, get?_push_size->Õ, get?_update_other->ð, get?_update_self->ė, SameBut->Ů, size_push->ů, LeftW->dn
open PySem.Heap.SameBut renaming update->Ă
open PySem.NameKind renaming free->ħ, cell->dR
open PySem.Obj renaming mapSeq->ω, data_mapFields->Β, mapFields->Ο, isFreed_of_fields->cF, putSet->dZ
open PySem.PyData renaming eqv->Ĩ, depthAll->Ľ, canLayAll0->œ, canLay0->ū, eqvAll->Θ
open PySem.SetTable renaming below->ĵ, grown->ύ, has->aT, orStandIn->bU, slot->dX
open PySem.SetTable.below renaming go->aI
open PySem.SetTable.probe renaming go->ό
open PySem.Value renaming notImplemented->ca
open PySem.Value.type renaming inj->ϴ
open PySem.W renaming boot_heap->ŧ, findIn->ϭ, boot_drawn->aq, SharedT->aL, boot_toks->bb, mg_of->cr, nsIn->d5, kitOne->d6
open PySem.pickOrder renaming go->aK
open String renaming ofList->Η, singleton->ϵ, length_toList->bQ, toList_ofList->bR, length_append->bS
open UInt32.toNat renaming inj->bw
def bAq(a b:Bool):((a&&b)=eh)=(a=eh/\b=eh):=Bool.and_eq_true a b
abbrev fZ:=@if_pos
abbrev f8:=@if_neg
abbrev f9:=@decide_eq_false
abbrev gb:=@decide_eq_true
abbrev gc:=@decide_eq_true_eq
@[reducible] noncomputable def gf:=@absurd
namespace L2
open PySem PySem.Spec PyProof.Rows
noncomputable abbrev Key:=Sum Int Str
abbrev Jn:Key->Ã->Bool
 |.inl k,v=>Value.isInt k v
 |.inr x,v=>Value.isStrOf x v
abbrev So(w:ø):Key->Int
 |.inl k=>hashInt k
 |.inr x=>hashStr w x
def Zq:∀{k:Key}{v:Ã},Jn k v=eh->(∃i t,k=Sum.inl i/\v=Value.int i t)\/(∃x t,k=Sum.inr x/\v=Value.str x t)
 |.inl i,v,h=>by obtain⟨t,e⟩:=Value.isInt_shape (k:=i) (v:=v) h;exact .inl ⟨i,t,rfl,e⟩
 |.inr x,v,h=>by obtain⟨t,e⟩:=Value.isStrOf_shape (x:=x) (v:=v) h;exact .inr ⟨x,t,rfl,e⟩
def Bf(i:Int)(t:Tok):Jn (.inl i) (.int i t)=eh:=by simp[Jn,Value.isInt]
def A5(x:Str)(t:Tok):Jn (.inr x) (.str x t)=eh:=by simp[Jn,Value.isStrOf]
def Li(a b:Int):gg ((Sum.inl a:Key)=Sum.inl b)=(a==b):=by
 by_cases e:a=b
 .subst e;simp
 .have h:¬ (Sum.inl a:Key)=Sum.inl b:=λq=>e<|Sum.inl.inj q;rw[f9 h];exact(beq_eq_false_iff_ne.mpr e).symm
def Ld(a b:Str):gg ((Sum.inr a:Key)=Sum.inr b)=gg (a=b):=by
 by_cases e:a=b
 .subst e;simp
 .have h:¬ (Sum.inr a:Key)=Sum.inr b:=λq=>e<|Sum.inr.inj q;rw[f9 h,f9 e]
def Pm(a:Int)(b:Str):gg ((Sum.inl a:Key)=Sum.inr b)=ei:=f9 (λq=>nomatch q)
def Lr(a:Str)(b:Int):gg ((Sum.inr a:Key)=Sum.inl b)=ei:=f9 (λq=>nomatch q)
abbrev Zc(prog:å)(w:ø):PySem.KeyKind prog w Key where
 is:=Jn
 hash:=So w
 inj:=λv a b ha hb=>by
  rcases Zq ha with⟨i,t,rfl,rfl⟩|⟨x,t,rfl,rfl⟩
  .rcases Zq hb with⟨j,u,rfl,e⟩|⟨y,u,rfl,e⟩
   .injection e with e1 _;rw[e1]
   .exact nomatch e
  .rcases Zq hb with⟨j,u,rfl,e⟩|⟨y,u,rfl,e⟩
   .exact nomatch e
   .injection e with e1 _;rw[e1]
 byValue:=λk v h=>by rcases Zq h with⟨i,t,rfl,rfl⟩|⟨x,t,rfl,rfl⟩<;>rfl
 pyHash:=λhv h=>by
  rcases Zq hv with⟨i,t,rfl,rfl⟩|⟨x,t,rfl,rfl⟩
  .exact wpAny_pyHash_int h
  .exact wpAny_pyHash_str h
 eqBool:=λhu hv h=>by
  rcases Zq hu with⟨i,t,rfl,rfl⟩|⟨x,t,rfl,rfl⟩
  .rcases Zq hv with⟨j,u,rfl,rfl⟩|⟨y,u,rfl,rfl⟩
   .rw[Li]at h;exact wpAny_eqBool_int h
   .rw[Pm]at h;exact SeqAt.EqAt.int_str i t y u _ _ _ _ h
  .rcases Zq hv with⟨j,u,rfl,rfl⟩|⟨y,u,rfl,rfl⟩
   .rw[Lr]at h;exact SeqAt.EqAt.str_int x t j u _ _ _ _ h
   .rw[Ld]at h;exact wpAny_eqBool_str h
 «strs»:=λk x t v h=>by
  rcases Zq h with⟨i,u,rfl,e⟩|⟨y,u,rfl,e⟩
  .exact nomatch e
  .injection e with e1 _;subst e1;cases v<;>rfl
def NR(prog:å)(w:ø)(i:Int)(t:Tok):(Zc prog w).is (.inl i) (.int i t)=eh:=Bf i t
def NF(prog:å)(w:ø)(x:Str)(t:Tok):(Zc prog w).is (.inr x) (.str x t)=eh:=A5 x t
inductive V where
 |non|bl (b:Bool)|int (i:Int)|str (x:Str)|byt (b:Array UInt8)|flt (b:UInt64)|ref (a:Í)|ty (n:String)
 deriving DecidableEq
abbrev RelV:V->Ã->Prop
 |.non,u=>u=Value.none
 |.bl b,u=>u=Value.bool b
 |.int i,u=>∃t,u=Value.int i t
 |.str x,u=>∃t,u=Value.str x t
 |.byt b,u=>∃t,u=Value.bytes b t
 |.flt b,u=>∃t,u=Value.float b t
 |.ref a,u=>u=Value.ref a
 |.ty n,u=>u=Value.type n
@[reducible] noncomputable def fR:List V->List Ã->Prop:=Paired RelV
def fR.length{xs:List V}{us:List Ã}(r:fR xs us):xs.length=us.length:=Paired.length r
def fR.get:∀{xs:List V}{us:List Ã}{i:Nat}{x:V},fR xs us->xs[i]?=d9 x->∃u,us[i]?=d9 u/\RelV x u
 |_,_,_,_,.nil,e=>by simp at e
 |_,_,0,_,.cons r _,e=>by simp at e;subst e;exact⟨_,rfl,r⟩
 |_,_,i+1,x,.cons _ t,e=>by obtain⟨u,h1,h2⟩:=fR.get (i:=i) (x:=x) t (by simpa using e);exact⟨u,by simpa using h1,h2⟩
def fR.set{x:V}{u:Ã}(r:RelV x u):∀{xs:List V}{us:List Ã}(i:Nat),fR xs us->fR (xs.set i x) (us.set i u)
 |_,_,_,.nil=>.nil
 |_,_,0,.cons _ t=>.cons r t
 |_,_,i+1,.cons q t=>.cons q<|fR.set r i t
def fR.append:∀{xs ys:List V}{us ws:List Ã},fR xs us->fR ys ws->fR (xs++ys) (us++ws)
 |_,_,_,_,.nil,s=>s
 |_,_,_,_,.cons r t,s=>.cons r<|fR.append t s
def fR.take:∀{xs:List V}{us:List Ã}(n:Nat),fR xs us->fR (xs.take n) (us.take n)
 |_,_,0,_=>.nil
 |_,_,_+1,.nil=>.nil
 |_,_,n+1,.cons r t=>.cons r<|fR.take n t
def fR.drop:∀{xs:List V}{us:List Ã}(n:Nat),fR xs us->fR (xs.drop n) (us.drop n)
 |_,_,0,r=>r
 |_,_,_+1,.nil=>.nil
 |_,_,n+1,.cons _ t=>fR.drop n t
abbrev fh:Option V->Option Ã->Prop
 |some v,d9 u=>RelV v u
 |none,ee=>True
 |_,_=>False
abbrev KV{κ:Type}:List (κ×V)->List (κ×Ã)->Prop:=Paired λ(p:κ×V) (q:κ×Ã)=>p.1=q.1/\RelV p.2 q.2
abbrev kV:Key->V
 |.inl i=>.int i
 |.inr x=>.str x
inductive HO where
 |lst (xs:List V)
 |tup (xs:List V)
 |dK (kvs:List<|Key×V)|dT (kvs:List<|List Key×V)
 |set (S:Int->Bool) (n:Nat)
 |ins (C dx:Í) (fs:List<|Str×V)
 |own (x:Í)
 |xd (fs:List<|Str×V)
 |met (f x:Í)
 |rng (lo hi:Int)
 |frz (o:Obj) (u:HO)
 |tbl (ps:Array Ã)
 |ext (φ:Ć->Prop)
noncomputable abbrev Hp:=Í->Option HO
abbrev upd(H:Hp)(a:Í)(o:HO):Hp:=λb=>if b=a then d9 o else H b
variable {H:Hp} {a:Í} {o:HO}
def ez:upd H a o a=d9 o:=by unfold upd;rw[fZ rfl]
variable {b:Í}
def ej(h:b≠a):upd H a o b=H b:=by unfold upd;rw[f8 h]
variable {u:HO}
def eC:upd (upd H a o) a u=upd H a u:=by funext b;unfold upd;split<;>rfl
def Rm(h:H a=d9 o)(h':H b=d9 u)(d:o≠u):a≠b:=by intro e;subst e;rw[h]at h';exact d (í h')
def Zl(h:H a=d9 o)(h':H b=ee):a≠b:=by intro e;subst e;rw[h]at h';cases h'
section
variable (P:å) (w:ø)
abbrev eP(H:Hp)(h:Ć)(a:Í):HO->Prop
 |.lst xs=>xs.length<=Ý/\∃(ô:List Ã) (n:Nat),fR xs ô/\h.get? a=d9 {cls:=.type "list",data:=.seq ô.toArray n}
 |.tup xs=>xs.length<=Ý/\∃ô:List Ã,fR xs ô/\ϩ h a ô.toArray
 |.dK kvs=>kvs.length<=Ý/\(a==ŗ)=ei/\∃vs,KV kvs vs/\h.DictOf (Zc P w) a vs
 |.dT kvs=>kvs.length<=Ý/\(a==ŗ)=ei/\∃xs:List<|List Key×Í×Ã,
   Paired (λ(p:List Key×V) (q:List Key×Í×Ã)=>p.1=q.1/\H q.2.1=d9 (.tup<|p.1.map kV)/\RelV p.2 q.2.2) kvs xs/\
   ∃o es ep,h.get? a=d9 o/\o.ExactDict/\o.data=.dict es ep/\es.toList=xs.map (entryOfKey<|ϱ<|Zc P w)/\(xs.map (·.1)).Nodup
 |.set S n=>h.SetOf (Ř P w) a S n
 |.ins C dx fs=>H dx=d9 (.own a)/\fs.length<=1000/\dx≠a/\h.get? a=d9 (PySem.W.instObj C dx)/\
   ∃mA,h.Ns1 dx mA/\(∀f,fh (fs.lookup f)<|mA f)/\PySem.Within mA (fs.map (·.1))
 |.own _=>∃o,h.get? a=d9 o
 |.xd fs=>∃mA,h.Ns1 a mA/\∀f,fh (fs.lookup f) (mA f)
 |.rng lo hi=>∃t u v,h.get? a=d9 {cls:=.type "range",data:=.fields #[.int lo t,.int hi u,.int 1 v]}
 |.frz o u=>h.get? a=d9 o/\eP H h a u
 |.tbl ps=>h.get? a=d9 {cls:=.none,data:=.fields ps}
 |.met f x=>h.get? a=d9 (PySem.W.methodObj (.ref f)<|.ref x)
 |.ext φ=>φ h/\(∃o,h.get? a=d9 o)/\∀h1 h2:Ć,φ h1->(∀o,h1.get? a=d9 o->h2.get? a=d9 o)->φ h2
abbrev HOk(H:Hp)(h:Ć):Prop:=∀a o,H a=d9 o->eP P w H h a o
end
section
variable {P:å}{w:ø}{H H':Hp}{h h':Ć}{a:Í}{o:HO}
def eP.lt(x:eP P w H h a o):a<h.objs.size:=by
 cases o with
 |lst xs=>obtain⟨_,_,_,_,e⟩:=x;exact Ô e
 |tup xs=>obtain⟨_,_,_,p⟩:=x;exact p.lt
 |dK kvs=>obtain⟨_,_,_,_,o,_,_,e,_⟩:=x;exact Ô e
 |dT kvs=>obtain⟨_,_,_,_,o,_,_,e,_⟩:=x;exact Ô e
 |set S n=>obtain⟨o,_,_,_,e,_⟩:=x;exact Ô e
 |ins C dx fs=>obtain⟨_,_,_,e,_⟩:=x;exact Ô e
 |own y=>obtain⟨_,e⟩:=x;exact Ô e
 |xd fs=>obtain⟨_,⟨_,_,_,e,_⟩,_⟩:=x;exact Ô e
 |rng lo hi=>obtain⟨_,_,_,e⟩:=x;exact Ô e
 |frz ob u=>obtain⟨e,_⟩:=x;exact Ô e
 |tbl ps=>exact Ô (show h.get? a=d9 _ from x)
 |met f y=>exact Ô (show h.get? a=d9 _ from x)
 |ext φ=>obtain⟨_,⟨_,e⟩,_⟩:=x;exact Ô e
def Paired.mapP{α β:Type}{F G:α->β->Prop}:∀{l₁:List α}{l₂:List β},Paired F l₁ l₂->(∀a b,F a b->G a b)->Paired G l₁ l₂
 |_,_,.nil,_=>.nil
 |_,_,.cons r t,f=>.cons (f _ _ r)<|Paired.mapP t f
def eP.stay(x:eP P w H h a o)(k:∀b u,(b=a\/H b=d9 (.own a))->h.get? b=d9 u->h'.get? b=d9 u)
  (ho:∀b,H b=d9 (.own a)->H' b=d9 (.own a)) (ht:∀b xs,H b=d9 (.tup xs)->H' b=d9 (.tup xs)):eP P w H' h' a o:=by
 induction o with
 |lst xs=>obtain⟨z,ô,n,r,e⟩:=x;exact⟨z,ô,n,r,k _ _ (.inl rfl) e⟩
 |tup xs=>obtain⟨z,ô,r,ob,e,c⟩:=x;exact⟨z,ô,r,ob,k _ _ (.inl rfl) e,c⟩
 |dK kvs=>obtain⟨z,y,vs,r,ob,es,ep,e,c⟩:=x;exact⟨z,y,vs,r,ob,es,ep,k _ _ (.inl rfl) e,c⟩
 |dT kvs =>obtain⟨z,y,xs,r,ob,es,ep,e,c⟩:=x;exact⟨z,y,xs,Paired.mapP r λp q z=>⟨z.1,ht _ _ z.2.1,z.2.2⟩,ob,es,ep,k _ _ (.inl rfl) e,c⟩
 |set S n=>obtain⟨ob,es,ep,t,e,c⟩:=x;exact⟨ob,es,ep,t,k _ _ (.inl rfl) e,c⟩
 |ins C dx fs =>obtain⟨d,z,ne,e,mA,⟨od,es,ep,e2,c⟩,r⟩:=x;exact⟨ho _ d,z,ne,k _ _ (.inl rfl) e,mA,⟨od,es,ep,k _ _ (.inr d) e2,c⟩,r⟩
 |own y=>obtain⟨ob,e⟩:=x;exact⟨ob,k _ _ (.inl rfl) e⟩
 |xd fs=>obtain⟨mA,⟨od,es,ep,e,c⟩,r⟩:=x;exact⟨mA,⟨od,es,ep,k _ _ (.inl rfl) e,c⟩,r⟩
 |rng lo hi=>obtain⟨t,u,v,e⟩:=x;exact⟨t,u,v,k _ _ (.inl rfl) e⟩
 |frz ob u ih=>obtain⟨e,q⟩:=x;exact⟨k _ _ (.inl rfl) e,ih q⟩
 |tbl ps =>have e:h.get? a=d9 {cls:=.none,data:=.fields ps}:=x;show h'.get? a=d9 {cls:=.none,data:=.fields ps};exact k a _ (.inl rfl) e
 |met f y =>have e:h.get? a=d9 (PySem.W.methodObj (.ref f)<|.ref y):=x;show h'.get? a=d9 (PySem.W.methodObj (.ref f)<|.ref y);exact k a _ (.inl rfl) e
 |ext φ=>obtain⟨p,⟨o,e⟩,st⟩:=x;exact⟨st _ _ p λo q=>k _ _ (.inl rfl) q,⟨o,k _ _ (.inl rfl) e⟩,st⟩
def HOk.lt(x:HOk P w H h)(e:H a=d9 o):a<h.objs.size:=(x a o e).lt
def HOk.fresh(x:HOk P w H h)(e:h.objs.size<=a):H a=ee:=by
 cases q:H a with
 |none=>rfl
 |some u=>exact gf (ã (x.lt q) e)<|ġ _
def HOk.kept(x:HOk P w H h)(k:∀b u,h.get? b=d9 u->h'.get? b=d9 u):HOk P w H h':=λa o e =>
 (x a o e).stay (λb u _ q=>k b u q) (λ_ q=>q) λ_ _ q=>q
def HOk.laid(x:HOk P w H h)(k:∀b u,h.get? b=d9 u->h'.get? b=d9 u)(hp:h.objs.size<=a)(new:eP P w (upd H a o) h' a o):HOk P w (upd H a o) h':=λb u e=>by
 have hn:=x.fresh hp;by_cases hb:b=a
 .subst hb;rw[ez]at e;cases e;exact new
 .rw[ej hb]at e;exact(x b u e).stay (λc v _ q=>k c v q) (λc q=>by rw[ej<|Zl q hn];exact q) λc xs q=>by rw[ej<|Zl q hn];exact q
end
abbrev Rd(H:Hp)(a:Í)(u:HO):Prop:=H a=d9 u\/∃o,H a=d9 (.frz o u)
variable {h:Ć}
def Rd.ok{P:å}{w:ø}(r:Rd H a u)(x:HOk P w H h):eP P w H h a u:=by
 rcases r with r|⟨o,r⟩
 .exact x a u r
 .obtain⟨_,q⟩:=x a _ r;exact q
abbrev Mut:Option HO->Prop
 |some (.lst _)=>True
 |some (.dK _)=>True
 |some (.dT _)=>True
 |some (.set _ _)=>True
 |some (.ins _ _ _)=>True
 |some (.ext _)=>True
 |_=>False
section
variable {P:å}{w:ø}{H:Hp}{h h':Ć}{x e:Í}{o':HO}
def HOk.write(ok:HOk P w H h)(mu:Mut<|H x)(he:e=x\/H e=d9 (.own x))(k:∀b u,b≠e->h.get? b=d9 u->h'.get? b=d9 u)(heo:∃u,h'.get? e=d9 u)
  (new:eP P w (upd H x o') h' x o'):HOk P w (upd H x o') h':=λb u q=>by
 have nown:∀c y,H c=d9 (.own y)->c≠x:=λc y r z=>by subst z;rw[r]at mu;exact mu
 have ntup:∀c xs,H c=d9 (.tup xs)->c≠x:=λc xs r z=>by subst z;rw[r]at mu;exact mu
 by_cases hb:b=x
 .subst hb;rw[ez]at q;cases q;exact new
 .rw[ej hb]at q;by_cases hbe:b=e
  .have q':H b=d9 (.own x):=by
    rcases he with z|z
    .exact gf (hbe.trans z) hb
    .rw[hbe];exact z
   rw[q]at q';cases q';obtain⟨v,hv⟩:=heo;exact⟨v,by rw[hbe];exact hv⟩
  .refine(ok b u q).stay (λc v hc r=>k c v ?_ r) (λc r=>by rw[ej<|nown c b r];exact r) λc xs r=>by rw[ej<|ntup c xs r];exact r
   rcases hc with rfl|hc
   .exact hbe
   .rintro rfl;rcases he with z|z
    .exact nown c b hc z
    .rw[hc]at z;cases z;exact hb rfl
end
structure Un(fs ex:List Í)(H H':Hp)(h h':Ć):Prop where
 keep:∀b o,h.get? b=d9 o->H b=ee->b∉fs->b∉ex->h'.get? b=d9 o
 slot:∀b o,h.get? b=d9 o->H b=ee->b∈fs->b∉ex->∃sl,h'.get? b=d9 {o with slots:=sl}
 free:∀b o,h.get? b=d9 o->H b=ee->b∉ex->H' b=ee
 there:∀b o,h.get? b=d9 o->b∉ex->∃o',h'.get? b=d9 o'
 tups:∀b xs,H b=d9 (.tup xs)->H' b=d9 (.tup xs)
 frzs:∀b o u,H b=d9 (.frz o u)->H' b=d9 (.frz o u)
 tbls:∀b ps,H b=d9 (.tbl ps)->∃more,H' b=d9 (.tbl<|ps++more)
section
variable {fs fs' ex ex':List Í}{H H1 H2:Hp}{h h1 h2 h':Ć}{a x e:Í}{o:HO}
def Un.any(u:Un fs ex H H1 h h1){ob:Obj}(q:h.get? b=d9 ob)(n:H b=ee)(hx:b∉ex):∃sl,h1.get? b=d9 {ob with slots:=sl}:=by
 by_cases hb:b∈fs
 .exact u.slot b ob q n hb hx
 .exact⟨ob.slots,u.keep b ob q n hb hx⟩
def Un.kept(k:∀b u,h.get? b=d9 u->h'.get? b=d9 u):Un fs ex H H h h' :=
 ⟨λb ob q _ _ _=>k b ob q,λb ob q _ _ _=>⟨ob.slots,k b ob q⟩,λ_ _ _ n _=>n,λb ob q _=>⟨ob,k b ob q⟩,λ_ _ q=>q,λ_ _ _ q=>q,λ_ ps q=>⟨#[],by rw[q];simp⟩⟩
def Un.refl:Un fs ex H H h h:=Un.kept λ_ _ q=>q
def Un.laid(k:∀b u,h.get? b=d9 u->h'.get? b=d9 u)(hp:h.objs.size<=a)(hn:H a=ee):Un fs ex H (upd H a o) h h' where
 keep:=λb u q _ _ _=>k b u q
 slot:=λb u q _ _ _=>⟨u.slots,k b u q⟩
 free:=λb u q n _=>by rw[ej<|à<|ã (Ô q) hp];exact n
 there:=λb u q _=>⟨u,k b u q⟩
 tups:=λb xs q=>by rw[ej<|Zl q hn];exact q
 frzs:=λb u xs q=>by rw[ej<|Zl q hn];exact q
 tbls:=λb ps q=>⟨#[],by rw[ej<|Zl q hn,q];simp⟩
def Un.write(mu:Mut<|H x)(he:e=x\/H e=d9 (.own x))(k:∀b u,b≠e->h.get? b=d9 u->h'.get? b=d9 u)(heo:∃u,h'.get? e=d9 u):Un fs ex H (upd H x o) h h':=by
 have hx:∀b,H b=ee->b≠x:=λb n z=>by subst z;rw[n]at mu;exact mu
 have hb:∀b,H b=ee->b≠e:=λb n z=>by
  subst z;rcases he with r|r
  .exact hx b n r
  .rw[n]at r;cases r
 have hm:∀b u,H b=d9 u->¬ Mut (d9 u)->b≠x:=λb u q nm z=>by subst z;rw[q]at mu;exact nm mu
 refine⟨λb u q n _ _=>k b u (hb b n) q,λb u q n _ _=>⟨u.slots,k b u (hb b n) q⟩,λb u q n _=>by rw[ej<|hx b n];exact n,λb u q _=>?_,
   λb xs q=>by rw[ej<|hm b _ q λz=>z];exact q,λb u xs q=>by rw[ej<|hm b _ q λz=>z];exact q,λb ps q=>⟨#[],by rw[ej<|hm b _ q λz=>z,q];simp⟩⟩
 by_cases hbe:b=e
 .subst hbe;exact heo
 .exact⟨u,k b u hbe q⟩
end
abbrev trk(h:Ć)(H:Hp):List Í:=(List.range h.objs.size).filter λa=>(H a).isSome
abbrev Mq(h:Ć)(H:Hp):Ć:=PySem.W.hideAll h<|trk h H
def AS(h:Ć)(H:Hp):(Mq h H).objs.size=h.objs.size:=PySem.W.hideAll_size _ _
def El{o:Obj}(e:h.get? b=d9 o)(n:H b=ee):(Mq h H).get? b=d9 o :=
 PySem.W.hideAll_get _ e λhm=>by have q:(H b).isSome=eh:=(Ę.mp hm).2;rw[n]at q;simp at q
def Fj{o:Obj}(e:(Mq h H).get? b=d9 o):h.get? b=d9 o/\H b=ee:=by
 have e':h.get? b=d9 o:=PySem.W.of_hideAll (trk h H) e;refine⟨e',?_⟩;cases q:H b with
 |none=>rfl
 |some x =>have hm:b∈trk h H:=Ę.mpr ⟨ϗ.mpr<|Ô e',by simp[q]⟩;have z:(Mq h H).get? b=ee:=PySem.W.hideAll_none (trk h H) hm;rw[z]at e;cases e
abbrev FQ(g h:Ć)(L:Í):List<|Í×Obj:=(List.range h.objs.size).filterMap λa=>if a=L\/(g.get? a).isSome=eh then ee else(h.get? a).map λo=>(a,o)
abbrev rest(g h:Ć)(L d:Í):List<|Í×Obj:=(FQ g h L).filter λp=>gg (p.1≠d)
structure Mod(K:Frag)(mg:Str->Option Ã)(base:Ć):Prop where
 kin:K.In base
 glob:base.Ns ą mg
 blt:∃mb,base.Ns builtinsNs mb/\∀x:Str,x≠"__name__"->mb x=ť x
 nolimit:base.NoLimit
structure Cx where
 prog:å
 w:ø
 K:Frag
 mg:Str->Option Ã
 base:Ć
 A:ĉ
 N:List Str
 s₀:Å
 H₀:Hp
 env:Env
 outer:List Env
 stack:List Env
 ex:List Í
 fn:Str->Bool
 calm:Bool
 pn:List<|Í×Obj
 xe:Ã->Å->Prop
abbrev frs(l:List Env):List Í:=l.filterMap (·.frame)
noncomputable abbrev Cx.fs(X:Cx):List Í:=frs X.outer
abbrev Vis(sc:η)(x:Str):Prop:=sc.names.lookup x=d9 .local\/sc.names.lookup x=d9 .cell\/sc.names.lookup x=d9 .free
abbrev Loc(sc:η)(x:Str):Prop:=sc.names.lookup x=d9 .local\/sc.names.lookup x=d9 .cell
abbrev SI(env:Env)(h:Ć)(m:Str->Option Ã)(x:Str)(u:Ã):Prop :=
 (env.kindOf x=d9 .local/\m x=d9 u)\/((env.kindOf x=d9 .cell\/env.kindOf x=d9 .free)/\∃c,env.cells.lookup x=d9 c/\h.IsCell c (d9 u))
structure Cx.Ok(X:Cx):Prop where
 mod:Mod X.K X.mg X.base
 kind:X.env.scope.kind=.function
 glob:X.env.globals=ą
 blt:X.env.builtins=builtinsNs
 above:X.s₀.heap.objs.size<=X.env.locals
 inj:∀x y c,X.env.cells.lookup x=d9 c->X.env.cells.lookup y=d9 c->x=y
 has:∀x,(X.env.kindOf x=d9 .cell\/X.env.kindOf x=d9 .free)->∃c,X.env.cells.lookup x=d9 c
 cab:∀x c,X.fn x=eh->X.env.cells.lookup x=d9 c->X.s₀.heap.objs.size<=c
 hd:X.calm=eh->X.A.handled=ee
 frames:X.A.frames=d9 X.stack
 stk:X.stack=X.outer\/(X.stack=X.env::X.outer/\X.env.frame=d9 X.env.locals)
 exf:∀b∈X.ex,b≠X.env.locals/\∀x c,X.env.cells.lookup x=d9 c->c≠b
 bs:∀b o,X.base.get? b=d9 o->X.s₀.heap.get? b=d9 o/\X.H₀ b=ee
 bsz:X.base.objs.size<=X.s₀.heap.objs.size
 noex:∀b o,X.base.get? b=d9 o->b∉X.ex
 exfs:∀b∈X.ex,b∉X.fs
 funs:X.s₀.heap.FunFrames X.base X.outer
 frf:∀b∈X.fs,X.H₀ b=ee
structure Inv(X:Cx)(Â:List<|Í×Obj)(σ:List<|Option V)(H:Hp)(s:Å):Prop where
 ok:X.Ok
 os:s.os=X.s₀.os
 bare:Ω s.gens
 base:Un X.fs X.ex X.H₀ H X.s₀.heap s.heap
 loc:∃m,s.heap.Ns X.env.locals m/\∀(i:Nat) (x:Str) (v:V),X.N[i]?=d9 x->σ[i]?=d9 (d9 v)->Vis X.env.scope x->∃u,RelV v u/\SI X.env s.heap m x u
 cell:∀x c,X.env.cells.lookup x=d9 c->∃v,s.heap.IsCell c v
 free:H X.env.locals=ee
 freeC:∀x c,X.env.cells.lookup x=d9 c->H c=ee
 pin:∀p∈X.pn++Â,s.heap.get? p.1=d9 p.2/\H p.1=ee/\p.1≠X.env.locals/\p.1∉X.fs/\∀v,p.2.data≠.cell v
 hok:HOk X.prog X.w H s.heap
 len:σ.length=X.N.length
section
variable {X:Cx}{Â:List (Í×Obj)}{σ:List (Option V)}{H H':Hp}{s:Å}{h':Ć}
def Cx.Ok.nofr(ok:X.Ok){b:Í}{o:Obj}(e:X.base.get? b=d9 o):b∉X.fs:=λhb=>by have:=(ok.funs.mem hb).1;rw[e]at this;cases this
def Inv.bs(I:Inv X Â σ H s):∀b o,X.base.get? b=d9 o->s.heap.get? b=d9 o/\H b=ee:=λb o e =>
 ⟨I.base.keep b o (I.ok.bs b o e).1 (I.ok.bs b o e).2 (I.ok.nofr e)<|I.ok.noex b o e,I.base.free b o (I.ok.bs b o e).1 (I.ok.bs b o e).2<|I.ok.noex b o e⟩
def Inv.bk(I:Inv X Â σ H s):∀b o,X.base.get? b=d9 o->s.heap.get? b=d9 o:=λb o e=>(I.bs b o e).1
def Inv.mod(I:Inv X Â σ H s):Mod X.K X.mg X.base:=I.ok.mod
def Inv.kIn(I:Inv X Â σ H s):X.K.In s.heap:=I.ok.mod.kin.keeps I.bk
def Inv.lt(I:Inv X Â σ H s):X.env.locals<s.heap.objs.size:=let ⟨_,hn,_⟩:=I.loc;hn.lt
def Inv.sz(I:Inv X Â σ H s):X.s₀.heap.objs.size<=s.heap.objs.size:=á I.ok.above (Ŵ I.lt)
variable {a:Í}
def Inv.nofs(I:Inv X Â σ H s)(h:s.heap.objs.size<=a):a∉X.fs:=λhb=>by obtain⟨_,o,ho,_⟩:=I.ok.funs.mem hb;exact gf (ã (Ô ho)<|á I.sz h) (ġ _)
def Inv.cne(I:Inv X Â σ H s):∀x c,X.env.cells.lookup x=d9 c->c≠X.env.locals:=λx c e z=>by obtain⟨v,o,ho,hd⟩:=I.cell x c e;obtain⟨m,⟨o',es,ep,ah,hd',_⟩,_⟩:=I.loc;rw[z,ah]at ho;cases ho;rw[hd']at hd;cases hd
def Inv.funs(I:Inv X Â σ H s):s.heap.FunFrames X.base X.outer:=by
 have all:∀(l:List Env),(∀b∈frs l,b∈X.fs)->X.s₀.heap.FunFrames X.base l->s.heap.FunFrames X.base l:=by
  intro l;induction l with
  |nil=>intro _ _;trivial
  |cons env r ih =>intro hs hl;obtain⟨hk,⟨L,o,hf,hn,ho,hd⟩,hr⟩:=hl;have hL:L∈X.fs:=hs L (by unfold frs;rw[ē,hf];exact ò);obtain⟨sl,e⟩:=I.base.slot L o ho (I.ok.frf L hL) hL λz=>I.ok.exfs L z hL;exact⟨hk,⟨L,_,hf,hn,e,hd⟩,ih (λb hb=>hs b<|by unfold frs;rw[ē,hf];exact â _ hb) hr⟩
 exact all X.outer (λ_ hb=>hb) I.ok.funs
def Inv.stack(I:Inv X Â σ H s):s.heap.FunFrames X.base X.stack:=by
 rcases I.ok.stk with e|⟨e,hf⟩
 .rw[e];exact I.funs
 .rw[e];obtain⟨m,hn,_⟩:=I.loc;refine .cons (by rw[I.ok.kind];decide) hf hn ?_ I.funs;exact Heap.get?_none_of_le<|á I.ok.bsz I.ok.above
def Inv.stkSub(I:Inv X Â σ H s):∀b∈frs X.stack,b∈X.env.locals::X.fs:=λb hb=>by
 rcases I.ok.stk with e|⟨e,hf⟩
 .rw[e]at hb;exact â _ hb
 .rw[e]at hb;unfold frs at hb;rw[ē,hf]at hb;exact hb
def Inv.stkFree(I:Inv X Â σ H s):∀b∈frs X.stack,H b=ee:=λb hb=>by
 rcases Ç.mp (I.stkSub b hb)with e|hb
 .rw[e];exact I.free
 .obtain⟨_,o,ho,_⟩:=I.ok.funs.mem hb;exact I.base.free b o ho (I.ok.frf b hb) λz=>I.ok.exfs b z hb
variable {g':Array bZ} {t':Nat} {d':Drawn} {ch:List Í}
def Inv.step(I:Inv X Â σ H s)
  (hch:∀b∈ch,(b∈X.ex\/X.s₀.heap.objs.size<=b)/\b≠X.env.locals/\(∀x c,X.env.cells.lookup x=d9 c->c≠b)/\∀p∈X.pn++Â,p.1≠b)
  (keep:∀b o,b≠X.env.locals->b∉X.fs->b∉ch->s.heap.get? b=d9 o->H b=ee->h'.get? b=d9 o)
  (slot:∀b o,b≠X.env.locals->b∈X.fs->b∉ch->s.heap.get? b=d9 o->H b=ee->∃sl,h'.get? b=d9 {o with slots:=sl}) (free:∀b o,b∉ch->s.heap.get? b=d9 o->H b=ee->H' b=ee)
  (there:∀b o,b∉ch->s.heap.get? b=d9 o->∃o',h'.get? b=d9 o')
  (tups:∀b xs,H b=d9 (.tup xs)->H' b=d9 (.tup xs)) (frzs:∀b o u,H b=d9 (.frz o u)->H' b=d9 (.frz o u)) (tbls:∀b ps,H b=d9 (.tbl ps)->∃more,H' b=d9 (.tbl<|ps++more))
  (ns:∀m,s.heap.Ns X.env.locals m->h'.Ns X.env.locals m) (hok:HOk X.prog X.w H' h') (hg:Ω g') :
  Inv X Â σ H' {s with heap:=h',gens:=g',drawn:=d',toks:=t'}:=by
 have neL:∀b o,X.s₀.heap.get? b=d9 o->b≠X.env.locals:=λb o e=>à<|ã (Ô e) I.ok.above;have neC:∀b o,X.s₀.heap.get? b=d9 o->b∉X.ex->b∉ch:=λb o e hx hb=>by
  rcases (hch b hb).1 with z|z
  .exact hx z
  .exact gf (ã (Ô e) z)<|ġ _
 have cellK:∀x c,X.env.cells.lookup x=d9 c->∀v,s.heap.IsCell c v->h'.IsCell c v:=λx c e v ⟨o,ho,hd⟩=>by
  have nch:c∉ch:=λz=>(hch c z).2.2.1 x c e rfl;by_cases hc:c∈X.fs
  .obtain⟨sl,q⟩:=slot c o (I.cne x c e) hc nch ho<|I.freeC x c e;exact⟨_,q,hd⟩
  .exact⟨o,keep c o (I.cne x c e) hc nch ho<|I.freeC x c e,hd⟩
 refine⟨I.ok,I.os,hg,⟨λb o e n hb hx=>?_,λb o e n hb hx=>?_,λb o e n hx=>?_,λb o e hx=>?_,λb xs e=>tups b xs<|I.base.tups b xs e,λb o xs e=>frzs b o xs<|I.base.frzs b o xs e,λb ps e=>?_⟩,?_,λx c e=>?_,?_,λx c e=>?_,λp hp=>?_,hok,I.len⟩
 .exact keep b o (neL b o e) hb (neC b o e hx) (I.base.keep b o e n hb hx)<|I.base.free b o e n hx
 .obtain⟨sl,e1⟩:=I.base.slot b o e n hb hx;obtain⟨sl',e2⟩:=slot b _ (neL b o e) hb (neC b o e hx) e1<|I.base.free b o e n hx;exact⟨sl',e2⟩
 .obtain⟨o',e1⟩:=I.base.there b o e hx;exact free b o' (neC b o e hx) e1<|I.base.free b o e n hx
 .obtain⟨o',e1⟩:=I.base.there b o e hx;exact there b o' (neC b o e hx) e1
 .obtain⟨m1,e1⟩:=I.base.tbls b ps e;obtain⟨m2,e2⟩:=tbls b _ e1;exact⟨m1++m2,by rw[e2,Array.append_assoc]⟩
 .obtain⟨m,hn,hl⟩:=I.loc;refine⟨m,ns m hn,λi x v e1 e2 e3=>?_⟩;obtain⟨u,r,l⟩:=hl i x v e1 e2 e3;refine⟨u,r,?_⟩;rcases l with l|⟨k,c,e,z⟩
  .exact .inl l
  .exact .inr ⟨k,c,e,cellK x c e _ z⟩
 .obtain⟨v,z⟩:=I.cell x c e;exact⟨v,cellK x c e v z⟩
 .obtain⟨m,⟨o,_,_,ho,_⟩,_⟩:=I.loc;exact free _ o (λz=>(hch _ z).2.1 rfl) ho I.free
 .obtain⟨v,o,ho,hd⟩:=I.cell x c e;exact free c o (λz=>(hch c z).2.2.1 x c e rfl) ho<|I.freeC x c e
 .obtain⟨e,n,ne,nf,d⟩:=I.pin p hp;have nch:p.1∉ch:=λz=>(hch p.1 z).2.2.2 p hp rfl;exact⟨keep p.1 p.2 ne nf nch e n,free p.1 p.2 nch e n,ne,nf,d⟩
def Inv.un(I:Inv X Â σ H s)(u:Un X.fs [] H H' s.heap h')(hok:HOk X.prog X.w H' h'):Inv X Â σ H' {s with heap:=h',toks:=t'}:=by
 obtain⟨m,⟨o,es,ep,ho,r⟩,_⟩:=id I.loc;obtain⟨sl,hL⟩:=u.any ho I.free (by simp);exact I.step (g':=s.gens) (d':=s.drawn) (ch:=[]) (λ_ z=>nomatch z) (λb o _ hb _ e n=>u.keep b o e n hb<|by simp) (λb o _ hb _ e n=>u.slot b o e n hb<|by simp) (λb o _ e n=>u.free b o e n<|by simp) (λb o _ e=>u.there b o e<|by simp) u.tups u.frzs u.tbls (λm' hm=>by
   obtain⟨o',es',ep',ah,r'⟩:=hm
   rw[ho]at ah;cases ah
   exact⟨_,es',ep',hL,r'⟩) hok I.bare
def Inv.call(I:Inv X Â σ H s)(u:Un (frs X.stack) ch H H' s.heap h')(hok:HOk X.prog X.w H' h')(hg:Ω g')
  (hch:∀b∈ch,(b∈X.ex\/X.s₀.heap.objs.size<=b)/\b≠X.env.locals/\(∀x c,X.env.cells.lookup x=d9 c->c≠b)/\∀p∈X.pn++Â,p.1≠b) :
  Inv X Â σ H' {s with heap:=h',gens:=g',drawn:=d',toks:=t'}:=by
 obtain⟨m,⟨o,es,ep,ho,r⟩,_⟩:=id I.loc;obtain⟨sl,hL⟩:=u.any ho I.free λz=>(hch _ z).2.1 rfl;exact I.step (ch:=ch) hch (λb o hL hb hc e n=>u.keep b o e n (λz=>(Ç.mp<|I.stkSub b z).elim hL hb) hc) (λb o _ _ hc e n=>u.any e n hc) (λb o hc e n=>u.free b o e n hc) (λb o hc e=>u.there b o e hc) u.tups u.frzs u.tbls (λm' hm=>by
   obtain⟨o',es',ep',ah,r'⟩:=hm
   rw[ho]at ah;cases ah
   exact⟨_,es',ep',hL,r'⟩) hok hg
def Inv.turned{it:Í}(I:Inv X Â σ H s)(k:∀b o,b≠it->s.heap.get? b=d9 o->h'.get? b=d9 o)(hn:H it=ee)(hL:it≠X.env.locals)
  (h1:it∈X.ex\/X.s₀.heap.objs.size<=it) (h2:∀x c,X.env.cells.lookup x=d9 c->c≠it) (h3:∀p∈X.pn++Â,p.1≠it):Inv X Â σ H {s with heap:=h',toks:=t'}:=by
 have nit:∀b u,H b=d9 u->b≠it:=λb u e z=>by rw[z,hn]at e;cases e
 refine I.step (g':=s.gens) (d':=s.drawn) (ch:=[it]) (λb hb=>?_) (λb o _ _ hc e _=>k b o (λz=>hc<|by simp[z]) e) (λb o _ _ hc e _=>⟨o.slots,k b o (λz=>hc<|by simp[z]) e⟩) (λ_ _ _ _ n=>n)
  (λb o hc e=>⟨o,k b o (λz=>hc<|by simp[z]) e⟩) (λ_ _ e=>e) (λ_ _ _ e=>e) (λb ps e=>⟨#[],by rw[e];simp⟩) (λm hm=>?_) (λb u e=>?_) I.bare
 .have e:b=it:=by simpa using hb
  subst e;exact⟨h1,hL,h2,h3⟩
 .obtain⟨o,es,ep,ho,r⟩:=hm;exact⟨o,es,ep,k _ o (Ne.symm hL) ho,r⟩
 .refine(I.hok b u e).stay (λc v hc q=>k c v ?_ q) (λ_ q=>q) λ_ _ q=>q;rcases hc with z|z
  .rw[z];exact nit b u e
  .exact nit c _ z
def Inv.tok(I:Inv X Â σ H s)(t:Nat):Inv X Â σ H {s with toks:=t}:=I.un (h':=s.heap) (t':=t) Un.refl I.hok
def Inv.kept(I:Inv X Â σ H s)(k:∀b u,s.heap.get? b=d9 u->h'.get? b=d9 u):Inv X Â σ H {s with heap:=h',toks:=t'}:=I.un (Un.kept k) (I.hok.kept k)
variable {o:HO}
def Inv.laid(I:Inv X Â σ H s)(k:∀b u,s.heap.get? b=d9 u->h'.get? b=d9 u)(hp:s.heap.objs.size<=a)(new:eP X.prog X.w (upd H a o) h' a o) :
  Inv X Â σ (upd H a o) {s with heap:=h',toks:=t'}:=I.un (Un.laid k hp<|I.hok.fresh hp)<|I.hok.laid k hp new
def Inv.write{x e:Í}(I:Inv X Â σ H s)(mu:Mut<|H x)(he:e=x\/H e=d9 (.own x))(k:∀b u,b≠e->s.heap.get? b=d9 u->h'.get? b=d9 u)(heo:∃u,h'.get? e=d9 u)
  (new:eP X.prog X.w (upd H x o) h' x o):Inv X Â σ (upd H x o) {s with heap:=h',toks:=t'}:=I.un (Un.write mu he k heo)<|I.hok.write mu he k heo new
def Inv.pins_of{pins':List (Í×Obj)}(I:Inv X Â σ H s)(h:∀p∈pins',s.heap.get? p.1=d9 p.2/\H p.1=ee/\p.1≠X.env.locals/\p.1∉X.fs/\∀v,p.2.data≠.cell v):Inv X pins' σ H s :=
 ⟨I.ok,I.os,I.bare,I.base,I.loc,I.cell,I.free,I.freeC,λp hp=>(Ü.mp hp).elim (λz=>I.pin p<|Ú _ z)<|h p,I.hok,I.len⟩
variable {i:Nat} {x:Str}
def NZ{N:List Str}(hN:N.Nodup){j:Nat}(a:N[i]?=d9 x)(b:N[j]?=d9 x):i=j:=by obtain⟨h1,e1⟩:=Î.mp a;obtain⟨h2,e2⟩:=Î.mp b;exact(List.getElem_inj hN).mp (e1.trans e2.symm)
variable {M:Model} {A:ĉ} {u:Ã} {Q:Unit->Å->Prop}
def KY{E:Ã->Å->Prop}{v:V}(I:Inv X Â σ H s)(hN:X.N.Nodup)(hi:X.N[i]?=d9 x)(hx:Loc X.env.scope x)(r:RelV v u)
  (h:∀s',Inv X Â (σ.set i<|d9 v) H s'->(∃a,Ů a s.heap s'.heap/\(a=X.env.locals\/X.env.cells.lookup x=d9 a))->Q () s') (hf:X.fn x=eh\/X.env.scope.names.lookup x=d9 .local:=by first|exact .inl rfl|exact .inr rfl|assumption):wpAny M A (storeName X.env x u) Q E s:=by
 obtain⟨m,hn,hl⟩:=id I.loc;have hcls:(X.env.scope.kind == .class||(X.env.scope.kind == .module&&X.env.locals != X.env.globals))=ei:=by rw[I.ok.kind];rfl
 have hiσ:i<σ.length:=by rw[I.len];exact(Î.mp hi).1
 have cne:=I.cne;have cK:∀{a:Í}{h':Ć},(∃o,s.heap.get? a=d9 o/\H a=ee)->Ů a s.heap h'->HOk X.prog X.w H h':=λ{a h'} ha hs b ob e=>by
  obtain⟨_,_,hfree⟩:=ha;refine(I.hok b ob e).stay (λc w' hc q=>(hs.2 c ?_).trans q) (λ_ q=>q) λ_ _ q=>q;rintro rfl;rcases hc with rfl|hc
  .rw[hfree]at e;cases e
  .rw[hfree]at hc;cases hc
 rcases hx with hk|hk
 .refine wpAny_storeName_local hk hn (λh' hn' hs=>?_) hcls;obtain⟨oL,_,_,hoL,_⟩:=id hn;refine h _ ⟨I.ok,I.os,I.bare,⟨λb o e n hb hx=>?_,λb o e n hb hx=>?_,I.base.free,λb o e hx=>?_,I.base.tups,I.base.frzs,I.base.tbls⟩,⟨_,hn',λj y v' e1 e2 e3=>?_⟩,λy c e=>?_,I.free,I.freeC,λp hp=>?_,cK ⟨oL,hoL,I.free⟩ hs,by simpa using I.len⟩ ⟨_,hs,.inl rfl⟩
  .exact(hs.2 b<|à<|ã (Ô e) I.ok.above).trans<|I.base.keep b o e n hb hx
  .obtain⟨sl,e1⟩:=I.base.slot b o e n hb hx;exact⟨sl,(hs.2 b<|à<|ã (Ô e) I.ok.above).trans e1⟩
  .obtain⟨o',e1⟩:=I.base.there b o e hx;exact⟨o',(hs.2 b<|à<|ã (Ô e) I.ok.above).trans e1⟩
  .by_cases hj:j=i
   .subst hj;rw[hi]at e1;cases e1;rw[ϊ hiσ]at e2;cases e2;exact⟨u,r,.inl ⟨hk,by simp⟩⟩
   .rw[ſ<|Ne.symm hj]at e2;obtain⟨u',r',q⟩:=hl j y v' e1 e2 e3;refine⟨u',r',?_⟩;rcases q with⟨k,e⟩|⟨k,c,e,z⟩
    .refine .inl ⟨k,?_⟩;have:y≠x:=λe=>hj<|NZ hN e1<|e▸hi;simp[this,e]
    .exact .inr ⟨k,c,e,z.sameBut hs<|cne y c e⟩
  .obtain⟨w',z⟩:=I.cell y c e;exact⟨w',z.sameBut hs<|cne y c e⟩
  .obtain⟨e,n,ne,nf,d⟩:=I.pin p hp;exact⟨(hs.2 p.1 ne).trans e,n,ne,nf,d⟩
 .have hfn:X.fn x=eh:=by
   rcases hf with z|z
   .exact z
   .rw[z]at hk;cases hk
  obtain⟨c,hc⟩:=I.ok.has x<|.inl hk;obtain⟨w',z⟩:=I.cell x c hc;refine wpAny_storeName_cell I.ok.kind hk hc z λh' hc' hs=>?_;obtain⟨oc,hoc,hocd⟩:=id z;refine h {s with heap:=h'} ⟨I.ok,I.os,I.bare,⟨λb o e n hb hx=>?_,λb o e n hb hx=>?_,I.base.free,λb o e hx=>?_,I.base.tups,I.base.frzs,I.base.tbls⟩,⟨m,hn.sameBut hs<|Ne.symm<|cne x c hc,λj y v' e1 e2 e3=>?_⟩,λy c' e=>?_,I.free,I.freeC,λp hp=>?_,cK ⟨oc,hoc,I.freeC x c hc⟩ hs,by simpa using I.len⟩ ⟨c,hs,.inr hc⟩
  .exact(hs.2 b<|à<|ã (Ô e)<|I.ok.cab x c hfn hc).trans<|I.base.keep b o e n hb hx
  .obtain⟨sl,e1⟩:=I.base.slot b o e n hb hx;exact⟨sl,(hs.2 b<|à<|ã (Ô e)<|I.ok.cab x c hfn hc).trans e1⟩
  .obtain⟨o',e1⟩:=I.base.there b o e hx;exact⟨o',(hs.2 b<|à<|ã (Ô e)<|I.ok.cab x c hfn hc).trans e1⟩
  .by_cases hj:j=i
   .subst hj;rw[hi]at e1;cases e1;rw[ϊ hiσ]at e2;cases e2;exact⟨u,r,.inr ⟨.inl hk,c,hc,hc'⟩⟩
   .rw[ſ<|Ne.symm hj]at e2;obtain⟨u',r',q⟩:=hl j y v' e1 e2 e3;refine⟨u',r',?_⟩;rcases q with q|⟨k,c',e,z'⟩
    .exact .inl q
    .refine .inr ⟨k,c',e,z'.sameBut hs ?_⟩;rintro rfl;exact hj<|NZ hN e1<|I.ok.inj _ _ _ e hc▸hi
  .by_cases hcc:c'=c
   .subst hcc;exact⟨_,hc'⟩
   .obtain⟨w2,z2⟩:=I.cell y c' e;exact⟨w2,z2.sameBut hs hcc⟩
  .obtain⟨e,n,ne,nf,d⟩:=I.pin p hp;refine⟨(hs.2 p.1 ?_).trans e,n,ne,nf,d⟩;intro q;rw[q,hoc]at e;have q':oc=p.2:=í e;exact d w' (by rw[<-q'];exact hocd)
def CT{E:Ã->Å->Prop}{v:V}(I:Inv X Â σ H s)(hN:X.N.Nodup)(hi:X.N[i]?=d9 x)(hx:Loc X.env.scope x)(r:RelV v u)
  (h:∀s',Inv X Â (σ.set i<|d9 v) H s'->Q () s') (hf:X.fn x=eh\/X.env.scope.names.lookup x=d9 .local:=by first|exact .inl rfl|exact .inr rfl|assumption):wpAny M A (storeName X.env x u) Q E s :=
 KY I hN hi hx r (λs' I' _=>h s' I') hf
def Inv.call'{s':Å}(I:Inv X Â σ H s)(ho:s'.os=s.os)(u:Un (frs X.stack) ch H H' s.heap s'.heap)(hok:HOk X.prog X.w H' s'.heap)(hg:Ω s'.gens)
  (hch:∀b∈ch,(b∈X.ex\/X.s₀.heap.objs.size<=b)/\b≠X.env.locals/\(∀x c,X.env.cells.lookup x=d9 c->c≠b)/\∀p∈X.pn++Â,p.1≠b):Inv X Â σ H' s':=by
 obtain⟨h',g',d',t',o'⟩:=s';have e:o'=s.os:=ho;subst e;exact I.call (g':=g') (t':=t') (d':=d') u hok hg hch
end
noncomputable abbrev XK:=Ã->Option Í->Hp->Prop
noncomputable abbrev St:=List<|Option V
noncomputable abbrev VK:=V->Hp->Prop
noncomputable abbrev TE:=St->Hp->VK->Prop
noncomputable abbrev TT:=St->Hp->(Bool->Hp->Prop)->Prop
noncomputable abbrev TA:=St->Hp->(List V->Hp->Prop)->Prop
structure Ends where
 nx:St->Hp->Prop
 rt:VK
 bk:St->Hp->Prop:=λ_ _=>False
 ct:St->Hp->Prop:=λ_ _=>False
noncomputable abbrev TS:=Ends->St->Hp->Prop
inductive EP (X:Cx) (Â:List<|Í×Obj) (σ:St) (Q:VK) (u:Ã) (s':Å):Prop
 |mk (v:V) (H':Hp) (i:Inv X Â σ H' s') (r:RelV v u) (q:Q v H')
abbrev TP(X:Cx)(Â:List<|Í×Obj)(σ:St)(Q:Bool->Hp->Prop)(b:Bool)(s':Å):Prop:=∃H',Inv X Â σ H' s'/\Q b H'
inductive AP (X:Cx) (Â:List<|Í×Obj) (σ:St) (Q:List V->Hp->Prop) (us:List Ã) (s':Å):Prop
 |mk (vs:List V) (H':Hp) (i:Inv X Â σ H' s') (r:fR vs us) (q:Q vs H')
abbrev SP(X:Cx)(Â:List<|Í×Obj)(D:Ends)(f:Flow)(s':Å):Prop :=
 match f with
 |.next=>∃Ŗ H',Inv X Â Ŗ H' s'/\D.nx Ŗ H'
 |.brk=>∃Ŗ H',Inv X Â Ŗ H' s'/\D.bk Ŗ H'
 |.cont=>∃Ŗ H',Inv X Â Ŗ H' s'/\D.ct Ŗ H'
 |.ret u=>∃v Ŗ H',Inv X Â Ŗ H' s'/\RelV v u/\D.rt v H'
abbrev PE(X:Cx)(e:Expr)(t:TE):Prop :=
 ∀(Â:List<|Í×Obj) (s:Å) (σ:St) (H:Hp) (Q:VK),Inv X Â σ H s->t σ H Q->wpAny (ß X.prog X.w) X.A (eval e X.env) (EP X Â σ Q) X.xe s
abbrev PT(X:Cx)(e:Expr)(t:TT):Prop :=
 ∀(Â:List<|Í×Obj) (s:Å) (σ:St) (H:Hp) (Q:Bool->Hp->Prop),Inv X Â σ H s->t σ H Q->wpAny (ß X.prog X.w) X.A (b6 e X.env<|eval e X.env) (TP X Â σ Q) X.xe s
abbrev PW(X:Cx)(e:Expr)(t:TT):Prop :=
 ∀(au:Sem Ã) (Â:List<|Í×Obj) (s:Å) (σ:St) (H:Hp) (Q:Bool->Hp->Prop),Inv X Â σ H s->t σ H Q->wpAny (ß X.prog X.w) X.A (b6 e X.env au) (TP X Â σ Q) X.xe s
def PW.pt{X:Cx}{e:Expr}{t:TT}(h:PW X e t):PT X e t:=h _
abbrev PA(X:Cx)(es:List Expr)(t:TA):Prop :=
 ∀(ë:Pos) (Â:List<|Í×Obj) (s:Å) (σ:St) (H:Hp) (Q:List V->Hp->Prop),Inv X Â σ H s->t σ H Q->wpAny (ß X.prog X.w) X.A (spliced<|Ĥ ë<|Þ es X.env) (AP X Â σ Q) X.xe s
abbrev PS(X:Cx)(st:ļ)(t:TS):Prop :=
 ∀(Â:List<|Í×Obj) (s:Å) (σ:St) (H:Hp) (D:Ends),Inv X Â σ H s->t D σ H->wpAny (ß X.prog X.w) X.A (exec st X.env) (SP X Â D) X.xe s
abbrev PSs(X:Cx)(st:List ļ)(t:TS):Prop :=
 ∀(Â:List<|Í×Obj) (s:Å) (σ:St) (H:Hp) (D:Ends),Inv X Â σ H s->t D σ H->wpAny (ß X.prog X.w) X.A (execs st X.env) (SP X Â D) X.xe s
def thn{α:Type}{t:Sem α}{Q Q':α->Å->Prop}{M:Model}{A:ĉ}{E:Ã->Å->Prop}{s:Å}(h:wpAny M A t Q E s)(hQ:∀a s,Q a s->Q' a s):wpAny M A t Q' E s:=ĭ h hQ λ_ _ x=>x
section
variable {X:Cx}
variable {Â:List (Í×Obj)} {s:Å} {σ:St} {H:Hp}
def bin{a b:Expr}{ta tb:TE}(ha:PE X a ta)(hb:PE X b tb){R:V->V->Hp->Prop}(I:Inv X Â σ H s)(h:ta σ H λx H1=>tb σ H1 λy H2=>R x y H2)
  {α:Type}{Q:α->Å->Prop}{f:Ã->Ã->Sem α}
  (hf:∀v u s2 x y H2,Inv X Â σ H2 s2->RelV x v->RelV y u->R x y H2->wpAny (ß X.prog X.w) X.A (f v u) Q X.xe s2) :
  wpAny (ß X.prog X.w) X.A (eval a X.env) (λv ě=>wpAny (ß X.prog X.w) X.A (eval b X.env) (λu bM=>wpAny (ß X.prog X.w) X.A (f v u) Q X.xe bM) X.xe ě) X.xe s:=by
 refine thn (ha Â s σ H _ I h) λv s1 ⟨x,H1,I1,r1,q1⟩=>?_;refine thn (hb Â s1 σ H1 _ I1 q1) λu s2 ⟨y,H2,I2,r2,q2⟩=>?_;exact hf v u s2 x y H2 I2 r1 r2 q2
abbrev Sx(i:Nat):TE:=λσ H Q=>∃v,σ[i]?=d9 (d9 v)/\Q v H
abbrev tC(v:V):TE:=λ_ H Q=>Q v H
variable {x:Str} {ë:Pos}
def LH{i:Nat}(hN:X.N[i]?=d9 x)(hv:Vis X.env.scope x)(hd:(x==("__debug__" : Str))=ei:=by decide)(aU:(x==("__classdict__" : Str))=ei:=by decide):PE X (.Name x ë)<|Sx i:=by
 intro Â s σ H Q I h;obtain⟨v,e,h⟩:=h;obtain⟨m,hn,hl⟩:=I.loc;obtain⟨u,r,l⟩:=hl i x v hN e hv;have fin:EP X Â σ Q u s:=⟨v,H,I,r,h⟩
 rcases l with⟨hk,hm⟩|⟨hk,c,hc,hcell⟩
 .exact wpAny_Name (wpAny_loadName_local I.ok.kind hk hn hm fin) hd
 .rcases hk with hk|hk
  .exact wpAny_Name (wpAny_loadName_cell I.ok.kind hk hc hcell fin) hd
  .exact wpAny_Name (wpAny_loadName_free I.ok.kind hk hc hcell fin aU) hd
def O4{i j ë}:PE X (.Constant (.int i) j ë)<|tC<|.int i:=λ_ _ _ H _ I h=>wpAny_Constant_int ⟨.int i,H,I.tok _,⟨_,rfl⟩,h⟩
def Rx{b j ë}:PE X (.Constant (.bool b) j ë)<|tC<|.bl b:=λ_ _ _ H _ I h=>Constant_bool ⟨.bl b,H,I,rfl,h⟩
def Do{j ë}:PE X (.Constant .none j ë)<|tC .non:=λ_ _ _ H _ I h=>cQ ⟨.non,H,I,rfl,h⟩
def pe_str{x j ë}:PE X (.Constant (.str x) j ë)<|tC<|.str x:=λ_ _ _ H _ I h=>Calls.Constant_str ⟨.str x,H,I.tok _,⟨_,rfl⟩,h⟩
abbrev Gl(X:Cx)(x:Str):Prop:=X.env.kindOf x=d9 .globalImplicit
variable {u:Ã} {Q:Ã->Å->Prop}
def Jc{E:Ã->Å->Prop}(I:Inv X Â σ H s)(hg:Gl X x)(hm:X.mg x=d9 u)(h:Q u s)
  (hd:(x==("__debug__" : Str))=ei:=by decide):wpAny (ß X.prog X.w) X.A (eval (.Name x ë) X.env) Q E s :=
 Calls.Name_function_global I.ok.kind hg (Calls.loadGlobal_global (by rw[I.ok.glob];exact I.mod.glob.keeps I.bk) hm h) hd
def YM{E:Ã->Å->Prop}(I:Inv X Â σ H s)(hg:Gl X x)(hm:X.mg x=ee)(hv:ť x=d9 u)(h:Q u s)
  (hn:x≠"__name__":=by decide) (hd:(x==("__debug__" : Str))=ei:=by decide):wpAny (ß X.prog X.w) X.A (eval (.Name x ë) X.env) Q E s:=by
 obtain⟨mb,h1,h2⟩:=I.mod.blt;exact Calls.Name_function_global I.ok.kind hg (Calls.loadGlobal_builtin (by rw[I.ok.glob];exact I.mod.glob.keeps I.bk) hm (by rw[I.ok.blt];exact h1.keeps I.bk) ((h2 x hn).trans hv) h) hd
def GN{v:V}(hg:Gl X x)(hm:X.mg x=d9 u)(r:RelV v u)(hd:(x==("__debug__" : Str))=ei:=by decide):PE X (.Name x ë) (tC v) :=
 λ_ _ _ H _ I h=>Jc I hg hm ⟨v,H,I,r,h⟩ hd
def Gi{v:V}(hg:Gl X x)(hm:X.mg x=ee)(hv:ť x=d9 u)(r:RelV v u)(hn:x≠"__name__":=by decide)(hd:(x==("__debug__" : Str))=ei:=by decide):PE X (.Name x ë) (tC v) :=
 λ_ _ _ H _ I h=>YM I hg hm hv ⟨v,H,I,r,h⟩ hn hd
variable {a b:Expr}{ta tb:TE}{ë:Pos}
abbrev PC(X:Cx)(op:b7)(a b:Expr)(t:TE):Prop :=
 ∀(Â:List<|Í×Obj) (s:Å) (σ:St) (H:Hp) (Q:VK),Inv X Â σ H s->t σ H Q->
  wpAny (ß X.prog X.w) X.A (eval a X.env) (λv ě=>wpAny (ß X.prog X.w) X.A (eval b X.env) (λu bM=>wpAny (ß X.prog X.w) X.A (ì op v u) (EP X Â σ Q) X.xe bM) X.xe ě) X.xe s
variable {op:b7}
def No(b:Expr)(h:op≠.In)(h2:op≠.NotIn):Ļ op b=ei:=by
 have e1:(op==CmpOp.In)=ei:=by cases op<;>first|rfl|exact gf rfl h
 have e2:(op==CmpOp.NotIn)=ei:=by cases op<;>first|rfl|exact gf rfl h2
 cases b<;>simp[Ļ,e1,e2]
abbrev SD(ta:TE):TE:=λσ H Q=>ta σ H λx H1=>Q (.bl<|gg (x=.non)) H1
abbrev Rb(ta:TE):TE:=λσ H Q=>ta σ H λx H1=>Q (.bl (!gg (x=.non))) H1
def RelV.none_iff{x:V}{v:Ã}(r:RelV x v):(v==Value.none)=gg (x=.non):=by
 cases x with
 |non=>cases r;rfl
 |bl _=>cases r;rfl
 |int _=>obtain⟨t,rfl⟩:=r;rfl
 |str _=>obtain⟨t,rfl⟩:=r;rfl
 |byt _=>obtain⟨t,rfl⟩:=r;rfl
 |flt _=>obtain⟨t,rfl⟩:=r;rfl
 |ref _=>cases r;rfl
 |ty _=>cases r;rfl
def EL{j bc}(ha:PE X a ta):PC X .Is a (.Constant .none j bc)<|SD ta:=by intro Â s σ H Q I h;refine thn (ha Â s σ H _ I h) λv s1 ⟨x,H1,I1,r1,q1⟩=>?_;exact cQ (is_none_gen ⟨.bl _,H1,I1,by rw[r1.none_iff];rfl,q1⟩)
def UL{j bc}(ha:PE X a ta):PC X .IsNot a (.Constant .none j bc)<|Rb ta:=by intro Â s σ H Q I h;refine thn (ha Â s σ H _ I h) λv s1 ⟨x,H1,I1,r1,q1⟩=>?_;exact cQ (isnot_none_gen ⟨.bl _,H1,I1,by rw[r1.none_iff];rfl,q1⟩)
abbrev tB(t:TE):TT:=λσ H Q=>t σ H λx H1=>∃c,x=.bl c/\Q c H1
def CB{t:TE}(h:PC X op a b t)(h1:Ļ op b=ei:=by first|exact No _ (by decide) (by decide)|rfl):PE X (.Compare a [op] [b] ë) t:=λÂ s σ H Q I hw=>wpAny_Compare1 (h Â s σ H Q I hw) h1
def D3{t:TE}(h:PC X op a b t)(h1:Ļ op b=ei:=by first|exact No _ (by decide) (by decide)|rfl):PT X (.Compare a [op] [b] ë)<|tB t:=by intro Â s σ H Q I hw;refine wpAny_isTrue_Compare1 (thn (h Â s σ H _ I hw) λv s1 h1=>thn h1 λu s2 h2=>thn h2 λc s3 ⟨x,H1,I1,r1,q1⟩=>?_) h1;obtain⟨d,rfl,q⟩:=q1;cases r1;exact č ⟨H1,I1,q⟩
variable {tA tB':TT}{rest:List Expr}
abbrev Sv(t u:TT):TT:=λσ H Q=>t σ H λc H1=>if c=eh then u σ H1 Q else Q ei H1
abbrev tOr(t u:TT):TT:=λσ H Q=>t σ H λc H1=>if c=eh then Q eh H1 else u σ H1 Q
abbrev SS(t:TT):TT:=λσ H Q=>t σ H λc H1=>Q (!c) H1
def GE(ha:PT X a tA):PW X (.BoolOp .And [a] ë) tA:=by
 intro wh Â s σ H Q I h;refine isTrue_and<|thn (ha Â s σ H Q I h) λc s1 e=>?_;cases c with
 |true=>exact isTrue_and_nil e
 |false=>exact e
def Pa(ha:PT X a tA):PW X (.BoolOp .Or [a] ë) tA:=by
 intro wh Â s σ H Q I h;refine isTrue_or<|thn (ha Â s σ H Q I h) λc s1 e=>?_;cases c with
 |false=>exact isTrue_or_nil e
 |true=>exact e
def Ia(ha:PT X a tA)(hb:PW X (.BoolOp .And (b::rest) ë) tB'):PW X (.BoolOp .And (a::b::rest) ë)<|Sv tA tB':=by
 intro wh Â s σ H Q I h;refine isTrue_and<|thn (ha Â s σ H _ I h) λc s1 ⟨H1,I1,q1⟩=>?_;cases c with
 |true=>exact hb wh Â s1 σ H1 Q I1 q1
 |false=>exact⟨H1,I1,q1⟩
def Ra(ha:PT X a tA)(hb:PW X (.BoolOp .Or (b::rest) ë) tB'):PW X (.BoolOp .Or (a::b::rest) ë)<|tOr tA tB':=by
 intro wh Â s σ H Q I h;refine isTrue_or<|thn (ha Â s σ H _ I h) λc s1 ⟨H1,I1,q1⟩=>?_;cases c with
 |true=>exact⟨H1,I1,q1⟩
 |false=>exact hb wh Â s1 σ H1 Q I1 q1
def LZ(ha:PT X a tA):PT X (.UnaryOp .Not a ë)<|SS tA:=by intro Â s σ H Q I h;exact isTrue_not (ha Â s σ H (λc H1=>Q (!c) H1) I h)
abbrev P5(ta tb:TE):TE:=λσ H Q=>ta σ H λx H1=>∃c,x=.bl c/\if c=eh then tb σ H1 Q else Q (.bl ei) H1
abbrev SZ(ta tb:TE):TE:=λσ H Q=>ta σ H λx H1=>∃c,x=.bl c/\if c=eh then Q (.bl eh) H1 else tb σ H1 Q
abbrev Qo(ta:TE):TE:=λσ H Q=>ta σ H λx H1=>∃c,x=.bl c/\Q (.bl (!c)) H1
def CA{op}{t:TE}(h:PE X a t):PE X (.BoolOp op [a] ë) t:=λÂ s σ H Q I hw=>BoolOp_one (h Â s σ H Q I hw)
def LE(ha:PE X a ta)(hb:PE X (.BoolOp .And (b::rest) ë) tb):PE X (.BoolOp .And (a::b::rest) ë)<|P5 ta tb:=by
 intro Â s σ H Q I h;refine BoolOp_and<|thn (ha Â s σ H _ I h) λv s1 ⟨x,H1,I1,r1,q1⟩=>?_;obtain⟨c,rfl,q1⟩:=q1;cases r1;refine č ?_;cases c with
 |true=>exact hb Â s1 σ H1 Q I1 q1
 |false=>exact⟨.bl ei,H1,I1,rfl,q1⟩
def Rg(ha:PE X a ta)(hb:PE X (.BoolOp .Or (b::rest) ë) tb):PE X (.BoolOp .Or (a::b::rest) ë)<|SZ ta tb:=by
 intro Â s σ H Q I h;refine BoolOp_or<|thn (ha Â s σ H _ I h) λv s1 ⟨x,H1,I1,r1,q1⟩=>?_;obtain⟨c,rfl,q1⟩:=q1;cases r1;refine č ?_;cases c with
 |false=>exact hb Â s1 σ H1 Q I1 q1
 |true=>exact⟨.bl eh,H1,I1,rfl,q1⟩
def LM(ha:PE X a ta):PE X (.UnaryOp .Not a ë)<|Qo ta:=by intro Â s σ H Q I h;refine UnaryOp_<|thn (ha Â s σ H _ I h) λv s1 ⟨x,H1,I1,r1,q1⟩=>?_;obtain⟨c,rfl,q1⟩:=q1;cases r1;exact not_of (č ⟨.bl (!c),H1,I1,rfl,q1⟩)
abbrev tIf(t:TT)(ta tb:TE):TE:=λσ H Q=>t σ H λc H1=>if c=eh then ta σ H1 Q else tb σ H1 Q
def B9{c:Expr}(hc:PT X c tA)(ha:PE X a ta)(hb:PE X b tb):PE X (.IfExp c a b ë)<|tIf tA ta tb:=by
 intro Â s σ H Q I h;refine wpAny_IfExp<|thn (hc Â s σ H _ I h) λd s1 ⟨H1,I1,q1⟩=>?_;cases d with
 |true=>exact ha Â s1 σ H1 Q I1 q1
 |false=>exact hb Â s1 σ H1 Q I1 q1
end
abbrev fP(K:Frag)(H:Hp)(a:Í)(xs:List V):Prop :=
 Rd H a (.lst xs)\/
  ∃(o:Obj) (ô:Array Ã) (n:Nat),K.lookup a=d9 o/\o.cls=.type "list"/\o.dict=ee/\o.data=.seq ô n/\ô.size<=Ý/\fR xs ô.toList
abbrev fQ(K:Frag)(H:Hp)(a:Í)(xs:List V):Prop :=
 Rd H a (.tup xs)\/
  ∃(o:Obj) (ô:Array Ã) (n:Nat),K.lookup a=d9 o/\o.cls=.type "tuple"/\o.data=.seq ô n/\ô.size<=Ý/\fR xs ô.toList
abbrev absV:Ã->Option V
 |.none=>d9 .non
 |.bool b=>d9<|.bl b
 |.int i _=>d9<|.int i
 |.str x _=>d9<|.str x
 |.bytes b _=>d9<|.byt b
 |.float b _=>d9<|.flt b
 |.ref a=>d9<|.ref a
 |.type n=>d9<|.ty n
 |_=>ee
variable {x:V} {u:Ã}
def RelV.abs(r:RelV x u):absV u=d9 x:=by
 cases x with
 |non=>cases r;rfl
 |bl _=>cases r;rfl
 |int _=>obtain⟨t,rfl⟩:=r;rfl
 |str _=>obtain⟨t,rfl⟩:=r;rfl
 |byt _=>obtain⟨t,rfl⟩:=r;rfl
 |flt _=>obtain⟨t,rfl⟩:=r;rfl
 |ref _=>cases r;rfl
 |ty _=>cases r;rfl
def RelV.inj{y:V}(r:RelV x u)(q:RelV y u):x=y:=í (r.abs.symm.trans q.abs)
def fR.inj:∀{xs ys:List V}{us:List Ã},fR xs us->fR ys us->xs=ys
 |_,_,_,.nil,.nil=>rfl
 |_,_,_,.cons r t,.cons r' t'=>by rw[r.inj r',fR.inj t t']
section
variable {X:Cx}{Â:List (Í×Obj)}{σ:St}{H:Hp}{s:Å}{a:Í}{xs ys:List V}
def fP.of{K:Frag}(h:H a=d9 (.lst xs)):fP K H a xs:=.inl (.inl h)
def fQ.of{K:Frag}(h:H a=d9 (.tup xs)):fQ K H a xs:=.inl (.inl h)
def Inv.list(I:Inv X Â σ H s)(h:fP X.K H a xs):∃ô:List Ã,fR xs ô/\PlainL s.heap a ô.toArray/\xs.length<=Ý:=by
 rcases h with h|⟨o,ô,n,hk,hc,hd,hs,hz,r⟩
 .obtain⟨z,ô,n,r,e⟩:=h.ok I.hok;exact⟨ô,r,⟨_,n,e,rfl,rfl,rfl⟩,z⟩
 .refine⟨ô.toList,r,⟨o,n,I.kIn a o hk,hc,hd,by simpa using hs⟩,?_⟩;have e:=r.length;simp only[ñ]at e;lia
def Inv.tuple(I:Inv X Â σ H s)(h:fQ X.K H a xs):∃ô:List Ã,fR xs ô/\ϩ s.heap a ô.toArray/\xs.length<=Ý:=by
 rcases h with h|⟨o,ô,n,hk,hc,hs,hz,r⟩
 .obtain⟨z,ô,r,p⟩:=h.ok I.hok;exact⟨ô,r,p,z⟩
 .refine⟨ô.toList,r,⟨o,I.kIn a o hk,hc,n,by simpa using hs⟩,?_⟩;have e:=r.length;simp only[ñ]at e;lia
def Inv.list_inj(I:Inv X Â σ H s)(h:fP X.K H a xs)(h':fP X.K H a ys):xs=ys:=by
 obtain⟨ô,r,⟨o,n,e,_,_,d⟩,_⟩:=I.list h;obtain⟨its',r',⟨o',n',e',_,_,d'⟩,_⟩:=I.list h';rw[e]at e';cases e';rw[d]at d';injection d' with d1 _;have:ô=its':=by simpa using congrArg bF d1
 subst this;exact r.inj r'
def Inv.tuple_inj(I:Inv X Â σ H s)(h:fQ X.K H a xs)(h':fQ X.K H a ys):xs=ys:=by
 obtain⟨ô,r,⟨o,e,_,n,d⟩,_⟩:=I.tuple h;obtain⟨its',r',⟨o',e',_,n',d'⟩,_⟩:=I.tuple h';rw[e]at e';cases e';rw[d]at d';injection d' with d1 _;have:ô=its':=by simpa using congrArg bF d1
 subst this;exact r.inj r'
end
section
variable {X:Cx}{st:ļ}{rest:List ļ}{t u:TS}{e:Expr}{te:TE}{ë:Pos}
abbrev RE:TS:=λD σ H=>D.nx σ H
abbrev Sj(t u:TS):TS:=λD σ H=>t {D with nx:=u D} σ H
def pss_nil:PSs X [] RE:=λ_ _ σ H _ I h=>bG ⟨σ,H,I,h⟩
def Cr(h1:PS X st t)(h2:PSs X rest u):PSs X (st::rest)<|Sj t u:=by
 intro Â s σ H D I h;refine wpAny_execs_cons<|thn (h1 Â s σ H {D with nx:=u D} I h) λf s1 q=>?_;cases f with
 |next =>obtain⟨Ŗ,H',I',q⟩:=q;exact h2 Â s1 Ŗ H' D I' q
 |ret v=>exact q
 |brk=>exact q
 |cont=>exact q
def Inv.quiet{Â:List (Í×Obj)}{σ:St}{H:Hp}{s:Å}(I:Inv X Â σ H s):interactive X.env=ei:=by simp[interactive,I.ok.kind]
abbrev Ri(te:TE):TS:=λD σ H=>te σ H λ_ H1=>D.nx σ H1
def FX(he:PE X e te)(hs:Ŷ e ee ë.line X.env=pure ei:=by rfl):PS X (.Expr e ë)<|Ri te:=by intro Â s σ H D I h;exact wpAny_Expr_any (thn (he Â s σ H _ I h) λv s1 ⟨x,H1,I1,r1,q1⟩=>⟨σ,H1,I1,q1⟩) I.quiet hs
abbrev SK(te:TE):TS:=λD σ H=>te σ H D.rt
def Ll(he:PE X e te):PS X (.Return (d9 e) ë)<|SK te:=by intro Â s σ H D I h;exact wpAny_Return_some (thn (he Â s σ H _ I h) λv s1 ⟨x,H1,I1,r1,q1⟩=>⟨x,σ,H1,I1,r1,q1⟩)
abbrev RL:TS:=λD _ H=>D.rt .non H
def ps_retN:PS X (.Return ee ë) RL:=λ_ _ σ H _ I h=>wpAny_Return_none ⟨.non,σ,H,I,rfl,h⟩
abbrev SR(c:TT)(t u:TS):TS:=λD σ H=>c σ H λb H1=>if b=eh then t D σ H1 else u D σ H1
def RD{c:Expr}{a b:List ļ}{tc:TT}(hc:PT X c tc)(ha:PSs X a t)(hb:PSs X b u):PS X (.If c a b ë)<|SR tc t u:=by
 intro Â s σ H D I h;refine wpAny_If<|thn (hc Â s σ H _ I h) λd s1 ⟨H1,I1,q1⟩=>?_;cases d with
 |true=>exact ha Â s1 σ H1 D I1 q1
 |false=>exact hb Â s1 σ H1 D I1 q1
end
noncomputable abbrev TG:=V->St->Hp->(St->Hp->Prop)->Prop
noncomputable abbrev TGs:=List V->St->Hp->(St->Hp->Prop)->Prop
abbrev PG(X:Cx)(ϰ:Expr)(t:TG):Prop :=
 ∀(Â:List<|Í×Obj) (s:Å) (σ:St) (H:Hp) (v:V) (u:Ã) (Q:St->Hp->Prop),Inv X Â σ H s->RelV v u->t v σ H Q->
  wpAny (ß X.prog X.w) X.A (θ ϰ X.env u) (λ_ s'=>∃Ŗ H',Inv X Â Ŗ H' s'/\Q Ŗ H') X.xe s
abbrev PGs(X:Cx)(ts:List Expr)(t:TGs):Prop :=
 ∀(Â:List<|Í×Obj) (s:Å) (σ:St) (H:Hp) (vs:List V) (us:List Ã) (Q:St->Hp->Prop),Inv X Â σ H s->fR vs us->t vs σ H Q->
  wpAny (ß X.prog X.w) X.A (assignInOrder ((Ğ ts X.env).map (·.2)) us) (λ_ s'=>∃Ŗ H',Inv X Â Ŗ H' s'/\Q Ŗ H') X.xe s
noncomputable abbrev Cg:=V->V->V->Hp->(Hp->Prop)->Prop
abbrev PSet(X:Cx)(t:Cg):Prop :=
 ∀(Â:List<|Í×Obj) (s:Å) (σ:St) (H:Hp) (o i v:V) (ov iv u:Ã) (Q:Hp->Prop),Inv X Â σ H s->RelV o ov->RelV i iv->RelV v u->t o i v H Q->
  wpAny (ß X.prog X.w) X.A (aE ov iv u) (λ_ s'=>∃H',Inv X Â σ H' s'/\Q H') X.xe s
noncomputable abbrev TIp:=V->V->Hp->VK->Prop
abbrev PIp(X:Cx)(op:ϓ)(t:TIp):Prop :=
 ∀(Â:List<|Í×Obj) (s:Å) (σ:St) (H:Hp) (x y:V) (v u:Ã) (Q:VK),Inv X Â σ H s->RelV x v->RelV y u->t x y H Q->
  wpAny (ß X.prog X.w) X.A (inplaceOp op v u) (EP X Â σ Q) X.xe s
section
variable {X:Cx}{ë:Pos}
abbrev HR(i:Nat):TG:=λv σ H Q=>Q (σ.set i<|d9 v) H
def Uw{i:Nat}{x:Str}(hN:X.N.Nodup)(hi:X.N[i]?=d9 x)(hx:Loc X.env.scope x)(hf:X.fn x=eh\/X.env.scope.names.lookup x=d9 .local:=by first|exact .inl rfl|exact .inr rfl|assumption):PG X (.Name x ë)<|HR i:=by intro Â s σ H v u Q I r h;exact wpAny_assign_Name (CT I hN hi hx r (λs' I'=>⟨_,H,I',h⟩) hf)
abbrev R7:TGs:=λvs σ H Q=>vs=[]/\Q σ H
abbrev Q9(t:TG)(u:TGs):TGs:=λvs σ H Q=>∃v r,vs=v::r/\t v σ H λŖ H'=>u r Ŗ H' Q
def pgs_nil:PGs X [] R7:=by intro Â s σ H vs us Q I r h;obtain⟨e,h⟩:=h;subst e;cases r;exact assignInOrder_nil ⟨σ,H,I,h⟩
variable {e:Expr} {es:List Expr}
def JM{t:TG}{u:TGs}(h1:PG X e t)(h2:PGs X es u)
  (hs:(Ğ (e::es) X.env).map (·.2)=θ e X.env::(Ğ es X.env).map (·.2):=by rfl):PGs X (e::es)<|Q9 t u:=by
 intro Â s σ H vs us Q I r h;obtain⟨v,vr,e1,h⟩:=h;subst e1;cases r with
 |cons r rr =>rw[hs];refine assignInOrder_cons<|thn (h1 Â s σ H _ _ _ I r h) λ_ s1 ⟨σ1,H1,I1,q1⟩=>?_;exact h2 Â s1 σ1 H1 _ _ Q I1 rr q1
abbrev R8(K:Frag)(n:Nat)(t:TGs):TG:=λv σ H Q=>∃a xs,v=.ref a/\fQ K H a xs/\xs.length=n/\t xs σ H Q
def Eh{k:Nat}{t:TGs}{n:Nat}(hc:X.calm=eh)(h:PGs X es t)
  (hn:(Ğ es X.env).length=n:=by rfl) (ŷ:(Ğ es X.env).findIdx? (·.1)=ee:=by rfl):PG X (.Tuple es k ë)<|R8 X.K n t:=by
 intro Â s σ H v u Q I r hw;obtain⟨a,xs,e1,hq,hl,hw⟩:=hw;subst e1;cases r;obtain⟨ô,rv,ht,hz⟩:=I.tuple hq;refine assign_Tuple_tuple (I.ok.hd hc) ht (by simp[hn,<-hl,rv.length]) ŷ λh' hx=>?_;have I1:Inv X Â σ H {s with heap:=h'}:=I.kept (t':=s.toks) λb o e=>hx b o (à<|Ô e) e;exact h Â _ σ H xs _ Q I1 (by simpa using rv) hw
abbrev R3(to ti:TE)(t:Cg):TG:=λv σ H Q=>to σ H λo H1=>ti σ H1 λi H2=>t o i v H2 λH3=>Q σ H3
variable {o:Expr} {i:Expr} {to:TE} {ti:TE}
def L6{t:Cg}(ho:PE X o to)(hi:PE X i ti)(hs:PSet X t)
  (ha:∀v,θ (.Subscript o i ë) X.env v=(do
    let ov<-ł [v] (eval o X.env)
    let iv<-ł [v,ov] (eval i X.env)
    ϋ ë
    ł [v,ov,iv] (aE ov iv v)
    dL [v,ov,iv] []):=by intro _;rfl):PG X (.Subscript o i ë)<|R3 to ti t:=by
 intro Â s σ H v u Q I r h;rw[ha];refine À<|Č<|thn (ho Â s σ H _ I h) λov s1 ⟨x,H1,I1,r1,q1⟩=>?_;refine À<|Č<|thn (hi Â s1 σ H1 _ I1 q1) λiv s2 ⟨y,H2,I2,r2,q2⟩=>?_;refine À<|cR<|À<|Č<|thn (hs Â s2 σ H2 x y v ov iv u _ I2 r1 r2 r q2) λ_ s3 ⟨H3,I3,q3⟩=>?_;exact wpAny_release ⟨σ,H3,I3,q3⟩
abbrev Qg(te:TE)(g:TG):TS:=λD σ H=>te σ H λx H1=>g x σ H1 D.nx
variable {te:TE}
def D7{tg:Expr}{g:TG}(he:PE X e te)(hg:PG X tg g)(hs:ώ [tg] e ë.line X.env=pure ei:=by rfl)(hw:Ϗ [tg] e X.env=pure ee:=by rfl)
  (h1:(Ğ [tg] X.env).map (·.2)=[θ tg X.env]:=by rfl):PS X (.Assign [tg] e ë)<|Qg te g:=by
 intro Â s σ H D I h;refine wpAny_Assign_stores (thn (he Â s σ H _ I h) λv s1 ⟨x,H1,I1,r1,q1⟩=>?_) hs hw;rw[h1];exact thn (hg Â s1 σ H1 x v _ I1 r1 q1) λ_ s2 q=>q
abbrev Q3(to ti te:TE)(tget:V->V->Hp->VK->Prop)(tip:TIp)(tset:Cg):TS:=λD σ H=>to σ H λo H1=>ti σ H1 λi H2=>tget o i H2 λx H3=>te σ H3 λy H4=>tip x y H4 λz H5=>tset o i z H5 λH6=>D.nx σ H6
abbrev PGet(X:Cx)(t:V->V->Hp->VK->Prop):Prop :=
 ∀(Â:List<|Í×Obj) (s:Å) (σ:St) (H:Hp) (o i:V) (ov iv:Ã) (Q:VK),Inv X Â σ H s->RelV o ov->RelV i iv->t o i H Q->
  wpAny (ß X.prog X.w) X.A (Ϛ ov iv) (EP X Â σ Q) X.xe s
def F7{tget:V->V->Hp->VK->Prop}{tip:TIp}{tset:Cg}{op:ϓ}{cu:Pos}(ho:PE X o to)(hi:PE X i ti)(hg:PGet X tget)(he:PE X e te)(hp:PIp X op tip)(hs:PSet X tset)
  (ha:∀ov iv new,augStore i ov iv new=(do ł [new,ov,iv] (aE ov iv new);dL [new,ov,iv] [];pure .next):=by intros;rfl):PS X (.AugAssign (.Subscript o i cu) op e ë)<|Q3 to ti te tget tip tset:=by
 intro Â s σ H D I h;refine wpAny_AugAssign_SubscriptAny (thn (ho Â s σ H _ I h) λov s1 ⟨x1,H1,I1,r1,q1⟩=>?_) ha;refine thn (hi Â s1 σ H1 _ I1 q1) λiv s2 ⟨x2,H2,I2,r2,q2⟩=>?_;refine thn (hg Â s2 σ H2 x1 x2 ov iv _ I2 r1 r2 q2) λϢ s3 ⟨x3,H3,I3,r3,q3⟩=>?_;refine thn (he Â s3 σ H3 _ I3 q3) λv s4 ⟨x4,H4,I4,r4,q4⟩=>?_;refine thn (hp Â s4 σ H4 x3 x4 Ϣ v _ I4 r3 r4 q4) λnew s5 ⟨x5,H5,I5,r5,q5⟩=>?_;exact thn (hs Â s5 σ H5 x1 x2 x5 ov iv new _ I5 r1 r2 r5 q5) λ_ s6 ⟨H6,I6,q6⟩=>⟨σ,H6,I6,q6⟩
end
section
variable {X:Cx}{ë:Pos}
abbrev IS(c:TT)(tb:TS):TS:=λD σ H=>∃W:Nat->St->Hp->Prop,(∃m,W m σ H)/\∀m σ H,W m σ H->
 c σ H λb H1=>if b=eh then ∃N:St->Hp->Prop,(∀Ŗ H',N Ŗ H'->∃m',m'<m/\W m' Ŗ H')/\tb {D with nx:=N,ct:=N,bk:=D.nx} σ H1 else D.nx σ H1
def Dc{c:Expr}{body:List ļ}{tc:TT}{tb:TS}(hp:Λ (ß X.prog X.w) X.A X.env X.xe)(hc:PT X c tc)(hb:PSs X body tb):PS X (.While c body [] ë)<|IS tc tb:=by
 intro Â s σ H D I h;obtain⟨W,⟨m0,w0⟩,turn⟩:=h;refine wpAny_While<|codeAny_whileLoop (λn s'=>∃Ŗ H',Inv X Â Ŗ H' s'/\W n Ŗ H') ?_ m0 ⟨σ,H,I,w0⟩;rintro n s1 ⟨σ1,H1,I1,w1⟩;refine Ŝ hp<|thn (hc Â s1 σ1 H1 _ I1<|turn n σ1 H1 w1) λb s2 ⟨H2,I2,q2⟩=>?_;cases b with
 |true =>
  obtain⟨N,hN,q2⟩:=q2;rw[fZ rfl];refine Ŝ hp<|thn (hb Â s2 σ1 H2 _ I2 q2) λf s3 q3=>?_;cases f with
  |next =>obtain⟨bd,H3,I3,n3⟩:=q3;obtain⟨m',hm,w3⟩:=hN bd H3 n3;exact⟨m',hm,bd,H3,I3,w3⟩
  |cont =>obtain⟨bd,H3,I3,n3⟩:=q3;obtain⟨m',hm,w3⟩:=hN bd H3 n3;exact⟨m',hm,bd,H3,I3,w3⟩
  |brk=>exact q3
  |ret v=>exact q3
 |false =>rw[f8 ù];exact bG ⟨σ1,H2,I2,q2⟩
end
structure It where
 go:Nat->Hp->Prop
 yld:Nat->Hp->V->Hp->Prop
 stop:Nat->Hp->Prop
abbrev WK(X:Cx)(Â:List<|Í×Obj)(H:Hp)(b:Í):Prop :=
 H b=ee/\b≠X.env.locals/\b∉X.fs/\(b∈X.ex\/X.s₀.heap.objs.size<=b)/\(∀x c,X.env.cells.lookup x=d9 c->c≠b)/\∀p∈X.pn++Â,p.1≠b
variable {s:Å}
def Inv.fpOk{X:Cx}{Â:List (Í×Obj)}{σ:St}{H H':Hp}{b:Í}(I:Inv X Â σ H s)(hb:s.heap.objs.size<=b)(hn:H' b=ee):WK X Â H' b:=by
 refine⟨hn,ő<|ã I.lt hb,I.nofs hb,.inr<|á I.sz hb,λx c e z=>?_,λp hp z=>?_⟩
 .obtain⟨v,q⟩:=I.cell x c e;exact gf (ã q.lt<|by rw[z];exact hb)<|ġ _
 .exact gf (ã (Ô (I.pin p hp).1)<|by rw[z];exact hb)<|ġ _
structure Turn(P:å)(w:ø)(K:Frag)(tg:Expr)(J:It)(fp:List Í)(it:Í)(tn:Nat->Ć->Prop):Prop where
 mem:it∈fp
 obj:∀i h,tn i h->∀b∈fp,∃o,h.get? b=d9 o/\∀v,o.data≠.cell v
 keep:∀i h h',tn i h->(∀b∈fp,∀o,h.get? b=d9 o->h'.get? b=d9 o)->tn i h'
 item:∀(X:Cx),X.prog=P->X.w=w->X.K=K->X.calm=eh->∀(i:Nat) (Â:List<|Í×Obj) (s:Å) (σ:St) (H:Hp) (E:Ã->Å->Prop),Inv X Â σ H s->(∀b∈fp,WK X Â H b)->tn i s.heap->J.go i H->
  wpAny (ß P w) X.A (χ<|.ref it) (λr s1=>∃u,r=d9 u/\
    wpAny (ß P w) X.A (ϟ tg (.ref it) u) (λ_ s2=>∃x H',Inv X Â σ H' s2/\RelV x u/\J.yld i H x H'/\tn (i+1) s2.heap/\∀b∈fp,H' b=ee) E s1) E s
 done:∀(X:Cx),X.prog=P->X.w=w->X.K=K->X.calm=eh->∀(i:Nat) (Â:List<|Í×Obj) (s:Å) (σ:St) (H:Hp) (E:Ã->Å->Prop),Inv X Â σ H s->(∀b∈fp,WK X Â H b)->tn i s.heap->J.stop i H->
  wpAny (ß P w) X.A (χ<|.ref it) (λr s1=>r=ee/\Inv X Â σ H s1) E s
 self:∀(A:ĉ) (i:Nat) (s:Å) (Q:Ã->Å->Prop) (E:Ã->Å->Prop),tn i s.heap->Q (.ref it) s->wpAny (ß P w) A (dM<|.ref it) Q E s
noncomputable abbrev TI:=St->Hp->(It->Hp->Prop)->Prop
abbrev PIE(X:Cx)(Â:List<|Í×Obj)(σ:St)(tg:Expr)(R:It->Hp->Prop)(itv:Ã)(s2:Å):Prop :=
 ∃(it:Í) (fp:List Í) (tn:Nat->Ć->Prop) (J:It) (H':Hp),itv=.ref it/\Inv X Â σ H' s2/\Turn X.prog X.w X.K tg J fp it tn/\tn 0 s2.heap/\(∀b∈fp,WK X Â H' b)/\R J H'
abbrev PI(X:Cx)(tg Ŭ:Expr)(wi:TI):Prop :=
 ∀(Â:List<|Í×Obj) (s:Å) (σ:St) (H:Hp) (R:It->Hp->Prop),Inv X Â σ H s->wi σ H R->
  wpAny (ß X.prog X.w) X.A (eval Ŭ X.env) (λv s1=>wpAny (ß X.prog X.w) X.A (dM v) (PIE X Â σ tg R) X.xe s1) X.xe s
variable {tg:Expr}
def eK{M:Model}{A:ĉ}{E:Ã->Å->Prop}{it:Í}{o:Obj}{n:String}{vs:Array Ã}{Q:Unit->Å->Prop}(ho:s.heap.get? it=d9 o)(hc:o.cls=.type n)(hd:o.data=.fields vs)
  (hn:["enumerate","zip","dict_itemiterator","dict_reverseitemiterator","odict_iterator","itertools.zip_longest","itertools.pairwise"].contains n=ei) (hQ:Q () s):wpAny M A (ϟ tg (.ref it) u) Q E s:=by
 unfold ϟ;cases tg<;>first
  |exact Æ hQ
  | (cases u<;>first
      |exact Æ hQ
      | (refine À (wpAny_load ho ?_)
         rw[hc,hd]
         show wpAny M A (if(["enumerate","zip","dict_itemiterator","dict_reverseitemiterator","odict_iterator","itertools.zip_longest","itertools.pairwise"].contains n&&vs[0]? == d9 (ĥ _))=eh then _ else _) Q E s
         rw[f8<|by intro h;rw[hn,Bool.false_and]at h;cases h]
         exact Æ hQ))
abbrev Itl(K:Frag)(a:Í):It :=
 ⟨λi H=>∃xs x,fP K H a xs/\xs[i]?=d9 x,λi H x H'=>H'=H/\∀xs,fP K H a xs->xs[i]?=d9 x,λi H=>∃xs,fP K H a xs/\xs.length<=i⟩
abbrev Itt(K:Frag)(a:Í):It :=
 ⟨λi H=>∃xs x,fQ K H a xs/\xs[i]?=d9 x,λi H x H'=>H'=H/\∀xs,fQ K H a xs->xs[i]?=d9 x,λi H=>∃xs,fQ K H a xs/\xs.length<=i⟩
abbrev Itr(lo:Int)(n:Nat):It:=⟨λi _=>i<n,λi H x H'=>H'=H/\x=.int (lo+i),λi _=>n<=i⟩
variable {P:å} {w:ø}
def Bu{K:Frag}(a it:Í):Turn P w K tg (Itl K a) [it] it (λi h=>h.IsListIter it a i) where
 mem:=by simp
 obj:=λi h st b hb=>by
  have e:b=it:=by simpa using hb
  subst e;obtain⟨o,e,c,d⟩:=st;exact⟨o,e,λv z=>by rw[d]at z;cases z⟩
 keep:=λi h h' st k=>st.at λo e=>k it (by simp) o e
 item:=by intro X hP hw hK hc i Â s σ H E I hf st hg;subst hP hw hK;obtain⟨xs,x,hq,hx⟩:=hg;obtain⟨ô,rv,p,hz⟩:=I.list hq;obtain⟨u,hu,ru⟩:=rv.get hx;obtain⟨f0,f1,f2,f3,f4,f5⟩:=hf it (by simp);refine wpAny_pyNext_list_item st p.isList (x:=u) (by simpa using hu) λh' dF sb=>?_;have I1:Inv X Â σ H {s with heap:=h'}:=I.turned (t':=s.toks) (λb o hb e=>(sb.2 b hb).trans e) f0 f1 f3 f4 f5;obtain⟨o,e,c,d⟩:=id dF;exact⟨u,rfl,eK (s:={s with heap:=h'}) e c d (by decide) ⟨x,H,I1,ru,⟨rfl,λys hy=>by rw[I.list_inj hy hq];exact hx⟩,dF,λb hb=>(hf b hb).1⟩⟩
 done:=by intro X hP hw hK hc i Â s σ H E I hf st hg;subst hP hw hK;obtain⟨xs,hq,hx⟩:=hg;obtain⟨ô,rv,p,hz⟩:=I.list hq;obtain⟨f0,f1,f2,f3,f4,f5⟩:=hf it (by simp);have hl:=rv.length;exact wpAny_pyNext_list_end (I.ok.hd hc) st p.isList (by simp;lia) λh' eb=>⟨rfl,I.turned (t':=s.toks) (λb o hb e=>eb b o hb e) f0 f1 f3 f4 f5⟩
 self:=λ_ _ _ _ _ st h=>wpAny_pyIter_listiter st h
def O7{K:Frag}(a it:Í):Turn P w K tg (Itt K a) [it] it (λi h=>h.IsTupleIter it a i) where
 mem:=by simp
 obj:=λi h st b hb=>by
  have e:b=it:=by simpa using hb
  subst e;obtain⟨o,e,c,d⟩:=st;exact⟨o,e,λv z=>by rw[d]at z;cases z⟩
 keep:=λi h h' st k=>st.at λo e=>k it (by simp) o e
 item:=by intro X hP hw hK hc i Â s σ H E I hf st hg;subst hP hw hK;obtain⟨xs,x,hq,hx⟩:=hg;obtain⟨ô,rv,p,hz⟩:=I.tuple hq;obtain⟨u,hu,ru⟩:=rv.get hx;obtain⟨f0,f1,f2,f3,f4,f5⟩:=hf it (by simp);refine wpAny_pyNext_tuple_item st (show s.heap.IsTuple a ô.toArray from p) (x:=u) (by simpa using hu) λh' dF sb=>?_;have I1:Inv X Â σ H {s with heap:=h'}:=I.turned (t':=s.toks) (λb o hb e=>(sb.2 b hb).trans e) f0 f1 f3 f4 f5;obtain⟨o,e,c,d⟩:=id dF;exact⟨u,rfl,eK (s:={s with heap:=h'}) e c d (by decide) ⟨x,H,I1,ru,⟨rfl,λys hy=>by rw[I.tuple_inj hy hq];exact hx⟩,dF,λb hb=>(hf b hb).1⟩⟩
 done:=by intro X hP hw hK hc i Â s σ H E I hf st hg;subst hP hw hK;obtain⟨xs,hq,hx⟩:=hg;obtain⟨ô,rv,p,hz⟩:=I.tuple hq;obtain⟨f0,f1,f2,f3,f4,f5⟩:=hf it (by simp);have hl:=rv.length;exact wpAny_pyNext_tuple_end (I.ok.hd hc) st (show s.heap.IsTuple a ô.toArray from p) (by simp;lia) λh' eb=>⟨rfl,I.turned (t':=s.toks) (λb o hb e=>eb b o hb e) f0 f1 f3 f4 f5⟩
 self:=λ_ _ _ _ _ st h=>wpAny_pyIter_tupleiter st h
def O6{K:Frag}(it:Í)(lo:Int)(n:Nat):Turn P w K tg (Itr lo n) [it] it (λi h=>IsRangeIter h it (lo+(i:Nat)*1) ((n:Int) - (i:Nat)) 1) where
 mem:=by simp
 obj:=λi h st b hb=>by
  have e:b=it:=by simpa using hb
  subst e;exact⟨_,st,λv z=>by
    have z':Data.fields _=Data.cell v:=z
    cases z'⟩
 keep:=λi h h' st k=>k it (by simp) _ st
 item:=by intro X hP hw hK hc i Â s σ H E I hf st hg;subst hP hw hK;obtain⟨f0,f1,f2,f3,f4,f5⟩:=hf it (by simp);have W:=Walks.range (prog:=X.prog) (w:=X.w) (I.ok.hd hc) it lo 1 n;refine W.item i s _ _ hg st λv h' tk hv dF kk=>?_;obtain⟨t,rfl⟩:=hv;have I1:Inv X Â σ H {s with heap:=h',toks:=tk}:=I.turned (λb o hb e=>kk b o (by simpa using hb) e) f0 f1 f3 f4 f5;refine⟨_,rfl,eK (s:={s with heap:=h',toks:=tk}) (n:="range_iterator") dF rfl rfl (by decide) ⟨.int<|lo+i,H,I1,⟨t,?_⟩,⟨rfl,rfl⟩,dF,λb hb=>(hf b hb).1⟩⟩;rw[Int.mul_one]
 done:=by intro X hP hw hK hc i Â s σ H E I hf st hg;subst hP hw hK;obtain⟨f0,f1,f2,f3,f4,f5⟩:=hf it (by simp);exact wpAny_pyNext_range_end (I.ok.hd hc) st (by have:n<=i:=hg;lia) λh' eb=>⟨rfl,I.turned (t':=s.toks) (λb o hb e=>eb b o hb e) f0 f1 f3 f4 f5⟩
 self:=λ_ _ _ _ _ st h=>wpAny_pyIter_rangeiter st h
section
variable {X:Cx}{tg:Expr}
variable {Â:List (Í×Obj)} {σ:St} {H:Hp} {s:Å}
def ND{R:It->Hp->Prop}{E:Ã->Å->Prop}{lo hi:Int}{t u v:Tok}{tk:Nat}(I:Inv X Â σ H s)(h1:-(2 ^ 62)<=lo)(h2:lo<2 ^ 62)(h3:-(2 ^ 62)<=hi)(h4:hi<2 ^ 62)
  (q:R (Itr lo (hi - lo).toNat) H):wpAny (ß X.prog X.w) X.A (dM<|.ref s.heap.objs.size) (PIE X Â σ tg R) E {s with heap:=s.heap.push {cls:=.type "range",data:=.fields #[.int lo t,.int hi u,.int 1 v]},toks:=tk}:=by
 refine wpAny_pyIter_range (IsRange.new ..) (small_one h1 h2 h3 h4) ?_;have I1:Inv X Â σ H { s with heap:=s.heap.push { cls:=.type "range",data:=.fields #[.int lo t,.int hi u,.int 1 v] },toks:=tk }:=I.kept λb o e=>Ä _ e;refine⟨(s.heap.push { cls:=.type "range",data:=.fields #[.int lo t,.int hi u,.int 1 v] }).objs.size,[(s.heap.push { cls:=.type "range",data:=.fields #[.int lo t,.int hi u,.int 1 v] }).objs.size],_,_,H,rfl,
   I1.kept (t':=tk) λb o e=>Ä _ e,O6 _ lo (hi - lo).toNat,?_,λb hb=>?_,q⟩
 .have e1:lo+((0:Nat):Int)*1=lo:=by simp
  have e2:(((hi - lo).toNat:Nat):Int) - ((0:Nat):Int)=Builtin.Range.rangeSize lo hi 1:=by rw[rangeSize_one];split<;>lia
  show IsRangeIter _ _ (lo+((0:Nat):Int)*1) ((((hi - lo).toNat:Nat):Int) - ((0:Nat):Int)) 1;rw[e1,e2];exact Õ _ rfl
 .have e:b=(s.heap.push {cls:=.type "range",data:=.fields #[.int lo t,.int hi u,.int 1 v]}).objs.size:=by simpa using hb
  subst e;exact I1.fpOk (Ì _)<|I1.hok.fresh<|Ì _
abbrev Q4(ta:TA):TI:=λσ H R=>ta σ H λvs H1=>∃j:Int,vs=[.int j]/\-(2 ^ 62)<=j/\j<2 ^ 62/\R (Itr 0 j.toNat) H1
abbrev Qt(ta:TA):TI:=λσ H R=>ta σ H λvs H1=>∃i j:Int,vs=[.int i,.int j]/\(-(2 ^ 62)<=i/\i<2 ^ 62/\-(2 ^ 62)<=j/\j<2 ^ 62)/\R (Itr i (j - i).toNat) H1
variable {a:Expr} {ta:TA} {p:Pos} {ë:Pos}
def Bs(hg:Gl X "range")(hm:X.mg "range" = ee)(ha:PA X [a] ta)(hs:Þ [a] X.env=[(ei,eval a X.env)]:=by rfl):PI X tg (.Call (.Name "range" p) [a] [] ë)<|Q4 ta:=by
 intro Â s σ H R I h;refine Call_<|YM I hg hm boot_range<|PyProof.Rows.callWith_type1 (thn (ha ë Â s σ H _ I h) λus s1 ⟨vs,H1,I1,r1,q1⟩=>?_) hs rfl;obtain⟨j,e,q1,q2,q⟩:=q1;subst e;cases r1 with
 |cons r rr =>cases rr;obtain⟨t,rfl⟩:=r;exact call_range_1 (ND I1 (by lia) (by lia) q1 q2<|by simpa using q)
def AI{b:Expr}(hg:Gl X "range")(hm:X.mg "range" = ee)(ha:PA X [a,b] ta)(hs:Þ [a,b] X.env=[(ei,eval a X.env),(ei,eval b X.env)]:=by rfl)(hs2:Þ [b] X.env=[(ei,eval b X.env)]:=by rfl) :
  PI X tg (.Call (.Name "range" p) [a,b] [] ë) (Qt ta):=by
 intro Â s σ H R I h;refine Call_ (YM I hg hm boot_range<|PyProof.Rows.callWith_type1 (thn (ha ë Â s σ H _ I h) λus s1 ⟨vs,H1,I1,r1,q1⟩=>?_) (by rw[hs,hs2])<|by rw[hs2];rfl);obtain⟨i,j,e,⟨q1,q2,q3,q4⟩,q⟩:=q1;subst e;cases r1 with
 |cons r rr =>
  cases rr with
  |cons r' rr =>cases rr;obtain⟨t,rfl⟩:=r;obtain⟨t',rfl⟩:=r';exact call_range_2<|ND I1 q1 q2 q3 q4 q
abbrev SW(wi:TI)(g:TG)(tb:TS):TS:=λD σ H=>wi σ H λJ H1=>∃W:Nat->Nat->St->Hp->Prop,(∃m,W 0 m σ H1)/\∀i m σ H,W i m σ H->
 (J.stop i H/\D.nx σ H)\/(J.go i H/\∃N:St->Hp->Prop,(∀Ŗ H',N Ŗ H'->∃m',m'<m/\W (i+1) m' Ŗ H')/\∀x H',J.yld i H x H'->g x σ H' λσ2 H2=>tb {D with nx:=N,ct:=N,bk:=D.nx} σ2 H2)
abbrev X1(fp:List Í)(h:Ć):List<|Í×Obj:=fp.filterMap λb=>(h.get? b).map λo=>(b,o)
variable {fp:List Í} {h:Ć}
def Z4{b:Í}{o:Obj}(hb:b∈fp)(e:h.get? b=d9 o):(b,o)∈X1 fp h:=ο.mpr ⟨b,hb,by rw[e];rfl⟩
def KG{p:Í×Obj}(hp:p∈X1 fp h):p.1∈fp/\h.get? p.1=d9 p.2:=by
 obtain⟨b,hb,e⟩:=ο.mp hp;cases q:h.get? b with
 |none=>rw[q]at e;cases e
 |some o =>rw[q]at e;have e':(b,o)=p:=í e;subst e';exact⟨hb,q⟩
def Inv.pinned(I:Inv X Â σ H s)(hf:∀b∈fp,WK X Â H b)(ho:∀b∈fp,∃o,s.heap.get? b=d9 o/\∀v,o.data≠.cell v):Inv X (Â++X1 fp s.heap) σ H s :=
 I.pins_of λp hp=>(Ü.mp hp).elim (λz=>I.pin p<|É _ z) λz=>by obtain⟨hb,e⟩:=KG z;obtain⟨f0,f1,f2,_⟩:=hf p.1 hb;obtain⟨o,e',d⟩:=ho p.1 hb;rw[e]at e';cases e';exact⟨e,f0,f1,f2,d⟩
def Inv.unpinned{pl:List (Í×Obj)}(I:Inv X (Â++pl) σ H s):Inv X Â σ H s:=I.pins_of λp hp=>I.pin p (É _<|Ú _ hp)
def Dw{Ŭ:Expr}{body:List ļ}{wi:TI}{g:TG}{tb:TS}(hp:Λ (ß X.prog X.w) X.A X.env X.xe)(hc:X.calm=eh)(hi:PI X tg Ŭ wi)(hg:PG X tg g)(hb:PSs X body tb)
  (hs:∀x,ę Ŭ X.env x=pure x:=by intro _;rfl):PS X (.For tg Ŭ body [] ë)<|SW wi g tb:=by
 intro Â s σ H D I h;refine wpAny_For (thn (hi Â s σ H _ I h) λv s1 h1=>thn h1 λitv s2 h2=>?_) hs;obtain⟨it,fp,tn,J,H2,e,I2,T,st2,f2,W,⟨m0,w0⟩,turn⟩:=h2;subst e;have stat:∀{H':Hp},(∀b∈fp,H' b=ee)->∀b∈fp,WK X Â H' b:=λhn b hb=>⟨hn b hb,(f2 b hb).2⟩
 refine codeAny_forLoop_any (λn s'=>∃i Ŗ H',Inv X Â Ŗ H' s'/\tn i s'.heap/\(∀b∈fp,H' b=ee)/\W i n Ŗ H') ?_ m0 ⟨0,σ,H2,I2,st2,λb hb=>(f2 b hb).1,w0⟩;rintro n s3 ⟨i,bd,H3,I3,st3,fr3,w3⟩;rcases turn i n bd H3 w3 with⟨stop,qn⟩|⟨go,N,hN,step⟩
 .refine Ŝ hp<|thn (T.done X rfl rfl rfl hc i Â s3 bd H3 X.xe I3 (stat fr3) st3 stop) λr s4 ⟨hr,I4⟩=>?_;subst hr;exact bG ⟨bd,H3,I4,qn⟩
 .refine Ŝ hp<|thn (T.item X rfl rfl rfl hc i Â s3 bd H3 X.xe I3 (stat fr3) st3 go) λr s4 ⟨u,hr,h4⟩=>?_;subst hr;refine Ŝ hp<|thn h4 λ_ s5 ⟨x,H5,I5,r5,y5,st5,fr5⟩=>?_;have I5':=I5.pinned (stat fr5)<|T.obj _ _ st5;refine Ŝ hp<|thn (hg _ s5 bd H5 x u _ I5' r5<|step x H5 y5) λ_ s6 ⟨σ6,H6,I6,q6⟩=>?_;refine Ŝ hp<|thn (hb _ s6 σ6 H6 _ I6 q6) λf s7 q7=>?_;have again:∀{be:St}{H7:Hp},Inv X (Â++X1 fp s5.heap) be H7 s7->N be H7->∃m,m<n/\∃i Ŗ H',Inv X Â Ŗ H' s7/\tn i s7.heap/\(∀b∈fp,H' b=ee)/\W i m Ŗ H':=λ{be H7} I7 n7=>by
   obtain⟨m',hm,w7⟩:=hN be H7 n7;refine⟨m',hm,i+1,be,H7,I7.unpinned,T.keep _ _ _ st5 λb hb o e=>(I7.pin (b,o)<|É _<|É _<|Z4 hb e).1,λb hb=>?_,w7⟩;obtain⟨o,e,d⟩:=T.obj _ _ st5 b hb;exact(I7.pin (b,o)<|É _<|É _<|Z4 hb e).2.1
  cases f with
  |next=>obtain⟨be,H7,I7,n7⟩:=q7;exact again I7 n7
  |cont=>obtain⟨be,H7,I7,n7⟩:=q7;exact again I7 n7
  |brk=>obtain⟨be,H7,I7,q7⟩:=q7;exact⟨be,H7,I7.unpinned,q7⟩
  |ret v=>obtain⟨x7,be,H7,I7,r7,q7⟩:=q7;exact⟨x7,be,H7,I7.unpinned,r7,q7⟩
end
noncomputable abbrev R2:=V->V->Hp->VK->Prop
abbrev OpR(X:Cx)(f:Ã->Ã->Sem Ã)(r:R2):Prop :=
 ∀(Â:List<|Í×Obj) (s:Å) (σ:St) (H:Hp) (x y:V) (v u:Ã) (Q:VK),Inv X Â σ H s->RelV x v->RelV y u->r x y H Q->
  wpAny (ß X.prog X.w) X.A (f v u) (EP X Â σ Q) X.xe s
abbrev UnR(X:Cx)(f:Ã->Sem Ã)(r:V->Hp->VK->Prop):Prop :=
 ∀(Â:List<|Í×Obj) (s:Å) (σ:St) (H:Hp) (x:V) (v:Ã) (Q:VK),Inv X Â σ H s->RelV x v->r x H Q->
  wpAny (ß X.prog X.w) X.A (f v) (EP X Â σ Q) X.xe s
abbrev eN(X:Cx)(f:Ã)(r:List V->Hp->VK->Prop):Prop :=
 ∀(Â:List<|Í×Obj) (s:Å) (σ:St) (H:Hp) (xs:List V) (us:List Ã) (Q:VK),Inv X Â σ H s->fR xs us->r xs H Q->
  wpAny (ß X.prog X.w) X.A (call f us) (EP X Â σ Q) X.xe s
abbrev S0(X:Cx)(r:V->Hp->(Bool->Hp->Prop)->Prop):Prop :=
 ∀(Â:List<|Í×Obj) (s:Å) (σ:St) (H:Hp) (x:V) (v:Ã) (Q:Bool->Hp->Prop),Inv X Â σ H s->RelV x v->r x H Q->
  wpAny (ß X.prog X.w) X.A (truthy v) (TP X Â σ Q) X.xe s
abbrev tOp(r:R2)(ta tb:TE):TE:=λσ H Q=>ta σ H λx H1=>tb σ H1 λy H2=>r x y H2 Q
abbrev tUn(r:V->Hp->VK->Prop)(ta:TE):TE:=λσ H Q=>ta σ H λx H1=>r x H1 Q
abbrev rI(C:Int->Int->Prop)(g:Int->Int->V):R2:=λx y H Q=>∃i j,x=.int i/\y=.int j/\C i j/\Q (g i j) H
abbrev rI0(g:Int->Int->V):R2:=λx y H Q=>∃i j,x=.int i/\y=.int j/\Q (g i j) H
abbrev rU(g:Int->V):V->Hp->VK->Prop:=λx H Q=>∃i,x=.int i/\Q (g i) H
section
variable {X:Cx}{a b c:Expr}{ta tb tc:TE}{ë:Pos}
variable {f:Ã->Ã->Sem Ã}
def LL(ha:PE X a ta)(hb:PE X b tb){Â:List (Í×Obj)}{s:Å}{σ:St}{H:Hp}{R:V->V->Hp->Prop}(I:Inv X Â σ H s)
  (h:ta σ H λx H1=>tb σ H1 λy H2=>R x y H2){Q:Ã->Å->Prop} 
  (hf:∀v u s2 x y H2,Inv X Â σ H2 s2->RelV x v->RelV y u->R x y H2->wpAny (ß X.prog X.w) X.A (f v u) Q X.xe s2) :
  wpAny (ß X.prog X.w) X.A (eval a X.env) (λv ě=>wpAny (ß X.prog X.w) X.A (eval b X.env) (λu bM=>wpAny (ß X.prog X.w) X.A (f v u) Q X.xe bM) X.xe ě) X.xe s:=by
 refine thn (ha Â s σ H _ I h) λv s1 ⟨x,H1,I1,r1,q1⟩=>?_;refine thn (hb Â s1 σ H1 _ I1 q1) λu s2 ⟨y,H2,I2,r2,q2⟩=>?_;exact hf v u s2 x y H2 I2 r1 r2 q2
def QU{op:ϓ}{r:R2}(ho:OpR X (Ň op) r)(ha:PE X a ta)(hb:PE X b tb):PE X (.BinOp a op b ë)<|tOp r ta tb:=by intro Â s σ H Q I h;exact wpAny_BinOp (LL ha hb I h λv u s2 x y H2 I2 rx ry q=>ho Â s2 σ H2 x y v u Q I2 rx ry q)
def QC{op:UnaryOp}{r:V->Hp->VK->Prop}(ho:UnR X (unaryOp op) r)(ha:PE X a ta):PE X (.UnaryOp op a ë)<|tUn r ta:=by intro Â s σ H Q I h;exact UnaryOp_ (thn (ha Â s σ H _ I h) λv s1 ⟨x,H1,I1,r1,q1⟩=>ho Â s1 σ H1 x v Q I1 r1 q1)
variable {g:Int->Int->Int}
def opI{C:Int->Int->Prop} 
  (rule:∀(i j:Int) (t u:Tok) (s:Å) (Q:Ã->Å->Prop) (E:Ã->Å->Prop),C i j->Q (.int (g i j) s.toks) {s with toks:=s.toks+1}->wpAny (ß X.prog X.w) X.A (f (.int i t)<|.int j u) Q E s) :
  OpR X f (rI C λi j=>.int<|g i j):=by
 intro Â s σ H x y v u Q I rx ry h;obtain⟨i,j,rfl,rfl,hc,q⟩:=h;obtain⟨t,rfl⟩:=rx;obtain⟨t',rfl⟩:=ry;exact rule i j t t' s _ _ hc ⟨.int<|g i j,H,I.tok _,⟨_,rfl⟩,q⟩
def Qj  
  (rule:∀(i j:Int) (t u:Tok) (s:Å) (Q:Ã->Å->Prop) (E:Ã->Å->Prop),Q (.int (g i j) s.toks) {s with toks:=s.toks+1}->wpAny (ß X.prog X.w) X.A (f (.int i t)<|.int j u) Q E s) :
  OpR X f (rI0 λi j=>.int<|g i j):=by
 intro Â s σ H x y v u Q I rx ry h;obtain⟨i,j,rfl,rfl,q⟩:=h;obtain⟨t,rfl⟩:=rx;obtain⟨t',rfl⟩:=ry;exact rule i j t t' s _ _ ⟨.int<|g i j,H,I.tok _,⟨_,rfl⟩,q⟩
def GP{g:Int->Int->Bool}
  (rule:∀(i j:Int) (t u:Tok) (s:Å) (Q:Ã->Å->Prop) (E:Ã->Å->Prop),Q (.bool<|g i j) s->wpAny (ß X.prog X.w) X.A (f (.int i t)<|.int j u) Q E s) :
  OpR X f (rI0 λi j=>.bl<|g i j):=by
 intro Â s σ H x y v u Q I rx ry h;obtain⟨i,j,rfl,rfl,q⟩:=h;obtain⟨t,rfl⟩:=rx;obtain⟨t',rfl⟩:=ry;exact rule i j t t' s _ _ ⟨.bl<|g i j,H,I,rfl,q⟩
abbrev Rn(i j:Int):Prop:=0<j/\j<1073741824
abbrev Rc(i j:Int):Prop:=0<=j/\j<=1000000/\i.natAbs<2 ^ 64
def op_add:OpR X (Ň .Add)<|rI0 λi j=>.int<|i+j:=Qj λ_ _ _ _ _ _ _ q=>add_int q
def IV:OpR X (Ň .Sub)<|rI0 λi j=>.int<|i - j:=Qj λ_ _ _ _ _ _ _ q=>sub_int q
def E5:OpR X (Ň .FloorDiv)<|rI Rn λi j=>.int<|i / j:=opI λi j _ _ _ _ _ hc q=>by have h1:(0:Int)<j:=hc.1;have h2:j<1073741824:=hc.2;exact floordiv_int (by lia) (by rw[Int.fdiv_eq_ediv_of_nonneg i<|by lia];exact q) (.inl<|PyProof.noPylong_small<|by lia)
def PN:OpR X (Ň .Mod)<|rI (λ_ j=>0<j) λi j=>.int<|i % j:=opI λi j _ _ _ _ _ hc q=>by have h1:(0:Int)<j:=hc;exact mod_int' (by lia) (by rw[Int.fmod_eq_emod_of_nonneg i<|by lia];exact q)
def PL:OpR X (Ň .Pow)<|rI Rc λi j=>.int<|i ^ j.toNat:=opI λ_ _ _ _ _ _ _ hc q=>pow_int_small hc.1 hc.2.1 hc.2.2 q
def unI{f:Ã->Sem Ã}{g:Int->Int}
  (rule:∀(i:Int) (t:Tok) (s:Å) (Q:Ã->Å->Prop) (E:Ã->Å->Prop),Q (.int (g i) s.toks) {s with toks:=s.toks+1}->wpAny (ß X.prog X.w) X.A (f<|.int i t) Q E s) :
  UnR X f (rU λi=>.int<|g i):=by
 intro Â s σ H x v Q I rx h;obtain⟨i,rfl,q⟩:=h;obtain⟨t,rfl⟩:=rx;exact rule i t s _ _ ⟨.int<|g i,H,I.tok _,⟨_,rfl⟩,q⟩
def Pk:UnR X (unaryOp .USub)<|rU λi=>.int (-i):=unI λ_ _ _ _ _ q=>neg_int q
end
section
variable {X:Cx}{a b c:Expr}{ta tb tc:TE}{ë:Pos}
def C9{Â:List (Í×Obj)}{σ:St}{H:Hp}{s:Å}{Q:VK}{k k':Bool}(I:Inv X Â σ H s)(q:Q (.bl k) H)(e:k=k'):EP X Â σ Q (.bool k') s:=by subst e;exact⟨.bl k,H,I,rfl,q⟩
def op_lt:OpR X (ì .Lt)<|rI0 λi j=>.bl<|gg (i<j):=GP λ_ _ _ _ _ _ _ q=>lt_int q
def RW:OpR X (ì .LtE)<|rI0 λi j=>.bl<|gg (i<=j):=GP λ_ _ _ _ _ _ _ q=>le_int q
def op_gt:OpR X (ì .Gt)<|rI0 λi j=>.bl<|gg (j<i):=GP λ_ _ _ _ _ _ _ q=>gt_int q
def R5:OpR X (ì .GtE)<|rI0 λi j=>.bl<|gg (j<=i):=GP λ_ _ _ _ _ _ _ q=>ge_int q
def A7:OpR X (ì .In) λx y H Q=>∃i j,x=.str i/\y=.str j/\Q (.bl (!(Builtin.Str.occurrences j i 0 j.length 1).isEmpty)) H:=by intro Â s σ H x y v u Q I rx ry h;obtain⟨i,j,rfl,rfl,q⟩:=h;obtain⟨t,rfl⟩:=rx;obtain⟨t',rfl⟩:=ry;exact in_str (C9 I q rfl)
variable {r:R2} {r':R2}
def OpR.or{f:Ã->Ã->Sem Ã}(h:OpR X f r)(h':OpR X f r'):OpR X f λx y H Q=>r x y H Q\/r' x y H Q:=by
 intro Â s σ H x y v u Q I rx ry q;rcases q with q|q
 .exact h Â s σ H x y v u Q I rx ry q
 .exact h' Â s σ H x y v u Q I rx ry q
variable {op:b7}
def UX(ho:OpR X (ì op) r)(ha:PE X a ta)(hb:PE X b tb)(hm:Ļ op b=ei):PE X (.Compare a [op] [b] ë)<|tOp r ta tb:=by intro Â s σ H Q I h;exact wpAny_Compare1 (LL ha hb I h λv u s2 x y H2 I2 rx ry q=>ho Â s2 σ H2 x y v u Q I2 rx ry q) hm
abbrev Ho(t:TE):TT:=λσ H Q=>t σ H λx H'=>∃k,x=.bl k/\Q k H'
def Ac(ho:OpR X (ì op) r)(ha:PE X a ta)(hb:PE X b tb)(hm:Ļ op b=ei):PT X (.Compare a [op] [b] ë)<|Ho<|tOp r ta tb:=by
 intro Â s σ H Q I h;refine wpAny_isTrue_Compare1 (thn (ha Â s σ H _ I h) λv s1 ⟨x,H1,I1,r1,q1⟩=>thn (hb Â s1 σ H1 _ I1 q1) λu s2 ⟨y,H2,I2,r2,q2⟩ =>
   thn (ho Â s2 σ H2 x y v u _ I2 r1 r2 q2) λc s3 ⟨z,H3,I3,r3,k,e,q3⟩=>?_) hm
 subst e;cases r3;exact č ⟨H3,I3,q3⟩
abbrev De(r r':R2)(ta tb tc:TE):TE:=λσ H Q=>ta σ H λx H1=>tb σ H1 λy H2=>r x y H2 λz H3=>∃k,z=.bl k/\
 (if k=eh then tc σ H3 λw' H4=>r' y w' H4 Q else Q (.bl ei) H3)
variable {cY:b7}
def C4(ho:OpR X (ì op) r)(ah:OpR X (ì cY) r')(ha:PE X a ta)(hb:PE X b tb)(hc:PE X c tc)
  (hm:aX [op,cY] [b,c]=ei:=by with_unfolding_all rfl):PE X (.Compare a [op,cY] [b,c] ë)<|De r r' ta tb tc:=by
 intro Â s σ H Q I h;refine Compare_chain (thn (ha Â s σ H _ I h) λv s1 ⟨x,H1,I1,r1,q1⟩=>chain_link (thn (hb Â s1 σ H1 _ I1 q1) λu s2 ⟨y,H2,I2,r2,q2⟩ =>
   thn (ho Â s2 σ H2 x y v u _ I2 r1 r2 q2) λd s3 ⟨z,H3,I3,r3,k,e,q3⟩=>?_)) hm
 subst e;cases r3;refine č ?_;cases k with
 |false=>exact ite_ff ⟨.bl ei,H3,I3,rfl,q3⟩
 |true=>exact ite_tt<|chain_last<|thn (hc Â s3 σ H3 _ I3 q3) λw' s4 ⟨z',H4,I4,r4,q4⟩=>ah Â s4 σ H4 y z' u w' Q I4 r2 r4 q4
def D1(ho:OpR X (ì op) r)(ah:OpR X (ì cY) r')(ha:PE X a ta)(hb:PE X b tb)(hc:PE X c tc)
  (hm:aX [op,cY] [b,c]=ei:=by with_unfolding_all rfl):PT X (.Compare a [op,cY] [b,c] ë)<|Ho<|De r r' ta tb tc:=by
 intro Â s σ H Q I h;refine isTrue_chain (thn (ha Â s σ H _ I h) λv s1 ⟨x,H1,I1,r1,q1⟩=>test_link (thn (hb Â s1 σ H1 _ I1 q1) λu s2 ⟨y,H2,I2,r2,q2⟩ =>
   thn (ho Â s2 σ H2 x y v u _ I2 r1 r2 q2) λd s3 ⟨z,H3,I3,r3,k,e,q3⟩=>?_)) hm
 subst e;cases r3;refine č ?_;cases k with
 |false =>obtain⟨k',e',q'⟩:=q3;cases e';exact ite_ff ⟨H3,I3,q'⟩
 |true =>refine ite_tt<|test_last<|thn (hc Â s3 σ H3 _ I3 q3) λw' s4 ⟨z',H4,I4,r4,q4⟩=>thn (ah Â s4 σ H4 y z' u w' _ I4 r2 r4 q4) λd' s5 ⟨z2,H5,I5,r5,k2,e2,q5⟩=>?_;subst e2;cases r5;exact č ⟨H5,I5,q5⟩
abbrev P7(K:Frag)(x:V)(H:Hp)(k:Bool):Prop :=
 match x with
 |.non=>k=ei
 |.bl b=>k=b
 |.int i=>k=(i != 0)
 |.str y=>y.length<=Ý/\k=((y.length:Int) != 0)
 |.byt y=>y.size<=Ý/\k=((y.size:Int) != 0)
 |.ref p=>(∃xs,fP K H p xs/\k=!xs.isEmpty)\/(∃xs,fQ K H p xs/\k=!xs.isEmpty)\/∃kvs,H p=d9 (.dK kvs)/\k=!kvs.isEmpty
 |_=>False
def O3{κ:Type}{kvs:List (κ×V)}{vs:List (κ×Ã)}(r:KV kvs vs):(!vs.isEmpty)=!kvs.isEmpty:=by cases r<;>rfl
def JO{xs:List V}{ô:List Ã}(r:fR xs ô):(!ô.toArray.isEmpty)=!xs.isEmpty:=by cases r<;>simp
def Xd:(Ý:Nat)<2 ^ 63:=by rw[Ϫ];decide
def Iw:S0 X λx H Q=>∃k,P7 X.K x H k/\Q k H:=by
 intro Â s σ H x v Q I rx h;obtain⟨k,e,q⟩:=h;have hl:=Xd;have hs:Ý=16777216:=Ϫ;cases x with
 |non =>cases rx;have e':k=ei:=e;subst e';exact truthy_none ⟨H,I,q⟩
 |bl b =>cases rx;have e':k=b:=e;subst e';exact č ⟨H,I,q⟩
 |int i =>obtain⟨t,rfl⟩:=rx;have e':k=(i != 0):=e;subst e';exact PySem.P.truthy_int ⟨H,I,q⟩
 |str y =>obtain⟨t,rfl⟩:=rx;obtain⟨hy,e'⟩:y.length<=Ý/\k=((y.length:Int) != 0):=e;subst e';exact PySem.P.truthy_str (by lia) ⟨H,I.tok _,q⟩
 |byt y =>obtain⟨t,rfl⟩:=rx;obtain⟨hy,e'⟩:y.size<=Ý/\k=((y.size:Int) != 0):=e;subst e';exact PySem.W.truthy_bytes (by lia) ⟨H,I.tok _,q⟩
 |ref p =>
  cases rx;have e':(∃xs,fP X.K H p xs/\k=!xs.isEmpty)\/(∃xs,fQ X.K H p xs/\k=!xs.isEmpty)\/∃kvs,H p=d9 (.dK kvs)/\k=!kvs.isEmpty:=e;rcases e' with⟨xs,hx,e'⟩|⟨xs,hx,e'⟩|⟨kvs,hx,e'⟩
  .subst e';obtain⟨ô,r,pl,hz⟩:=I.list hx;have hlen:=r.length;exact wpAny_truthy_list pl.isList (by simp only[Ï];lia) ⟨H,I.tok _,by rw[JO r];exact q⟩
  .subst e';obtain⟨ô,r,pl,hz⟩:=I.tuple hx;have hlen:=r.length;exact truthy_tuple pl (by simp only[Ï];lia) ⟨H,I.tok _,by rw[JO r];exact q⟩
  .subst e';obtain⟨hz,hS,vs,r,m⟩:kvs.length<=Ý/\(p==ŗ)=ei/\∃vs,KV kvs vs/\s.heap.DictOf (Zc X.prog X.w) p vs:=I.hok p _ hx;have hlen:kvs.length=vs.length:=Paired.length r;exact wpAny_truthy_dict hS m (by lia) ⟨H,I.tok _,by rw[O3 r];exact q⟩
 |_=>exact(show False from e).elim
def D4(ha:PE X a ta)(he:∀au,b6 a X.env au=(do let v<-au;ϋ a.pos;ł [v] (truthy v))) :
  PT X a (λσ H Q=>ta σ H λx H'=>∃k,P7 X.K x H' k/\Q k H'):=by
 intro Â s σ H Q I h;exact isTrue_plain (thn (ha Â s σ H _ I h) λv s1 ⟨x,H1,I1,r1,q1⟩=>Iw Â s1 σ H1 x v Q I1 r1 q1)<|he _
def OG:OpR X (Ň .Add) λx y H Q=>∃i j,x=.str i/\y=.str j/\i.length+j.length<=Ý/\Q (.str<|i++j) H:=by intro Â s σ H x y v u Q I rx ry h;obtain⟨i,j,rfl,rfl,hz,q⟩:=h;obtain⟨t,rfl⟩:=rx;obtain⟨t',rfl⟩:=ry;exact add_str (λt' tk=>⟨.str<|i++j,H,I.tok _,⟨_,rfl⟩,q⟩) hz
variable {x:V} {us:List Ã}
def ZQ(r:fR [x] us):∃u,us=[u]/\RelV x u:=by
 cases r with
 |cons r1 r2=>cases r2;exact⟨_,rfl,r1⟩
def Ai{y:V}(r:fR [x,y] us):∃u w',us=[u,w']/\RelV x u/\RelV y w':=by
 cases r with
 |cons r1 r2 =>
  cases r2 with
  |cons r3 r4=>cases r4;exact⟨_,_,rfl,r1,r3⟩
def AU(hc:X.calm=eh):eN X (.builtin "max") λxs H Q=>∃i j,xs=[.int i,.int j]/\Q (.int<|if j > i then j else i) H:=by
 intro Â s σ H xs us Q I r h;obtain⟨i,j,rfl,q⟩:=h;obtain⟨u,w',rfl,⟨t,rfl⟩,⟨t',rfl⟩⟩:=Ai r;refine max_two_ints (I.ok.hd hc) λh' tk k=>⟨_,H,I.kept k,?_,q⟩
 by_cases hj:j > i
 .rw[fZ hj,fZ hj];exact⟨_,rfl⟩
 .rw[f8 hj,f8 hj];exact⟨_,rfl⟩
def At(hc:X.calm=eh):eN X (.builtin "min") λxs H Q=>∃i j,xs=[.int i,.int j]/\Q (.int<|if j<i then j else i) H:=by
 intro Â s σ H xs us Q I r h;obtain⟨i,j,rfl,q⟩:=h;obtain⟨u,w',rfl,⟨t,rfl⟩,⟨t',rfl⟩⟩:=Ai r;refine min_two_ints (I.ok.hd hc) λh' tk k=>⟨_,H,I.kept k,?_,q⟩
 by_cases hj:j<i
 .rw[fZ hj,fZ hj];exact⟨_,rfl⟩
 .rw[f8 hj,f8 hj];exact⟨_,rfl⟩
def call_int1:eN X (.type "int") λxs H Q=>(∃i,xs=[.int i]/\Q (.int i) H)\/∃k,xs=[.bl k]/\Q (.int<|if k then 1 else 0) H:=by
 intro Â s σ H xs us Q I r h;rcases h with⟨i,rfl,q⟩|⟨k,rfl,q⟩
 .obtain⟨u,rfl,t,rfl⟩:=ZQ r;exact call_int_int ⟨.int i,H,I,⟨_,rfl⟩,q⟩
 .obtain⟨u,rfl,r1⟩:=ZQ r;cases r1;exact call_int_bool ⟨.int (if k then 1 else 0),H,I.tok _,⟨_,rfl⟩,q⟩
end
structure ObjM(h:Ć)(x dx C:Í)(mA:Str->Option Ã):Prop where
 obj:h.get? x=d9 (PySem.W.instObj C dx)
 ns:h.Ns1 dx mA
 ne:dx≠x
variable {h:Ć} {dx:Í} {mA:Str->Option Ã}
def AR(n:h.Ns1 dx mA):∃od,h.get? dx=d9 od/\∀name,PySem.W.lookIn name od=d9 (mA name):=by
 obtain⟨o,es,ep,ho,hd,hk,_,hm⟩:=n;refine⟨o,ho,λname=>?_⟩;have e:=hm name;unfold nsFind findBy at e;rw[<-Array.find?_toList]at e;unfold PySem.W.lookIn;rw[hd];dsimp only;split
 .rename_i y q;rw[q]at e;exact congrArg d9 e
 .rename_i q;rw[q]at e;have a:es.toList.any (·.refKey)=ei:=by
   rw[List.any_eq_false];intro y hy;obtain⟨z,t,cZ⟩:=hk y<|Array.mem_toList_iff.mp hy;simp[DictEntry.refKey,cZ]
  have a':¬ es.toList.any (·.refKey)=eh:=by rw[a];exact ù
  rw[f8 a'];exact congrArg d9 e
variable {C:Í}
def ObjM.look{x:Í}(I:ObjM h x dx C mA):∃od,PySem.W.InstAt h x (PySem.W.instObj C dx) C (d9 od)/\∀name,PySem.W.lookIn name od=d9 (mA name) :=
 let ⟨od,ho,hl⟩:=AR I.ns
 ⟨od,⟨I.obj,rfl,rfl,ho⟩,hl⟩
section
variable {prog:å}{w:ø}{A:ĉ}{E:Ã->Å->Prop}{s:Å}{K:Frag}{x dx C f:Í}{mA:Str->Option Ã}{name:Str}{v:Ã}
def FU{expr:Bool}{Q:Ã->Å->Prop}(X:K.In s.heap)(I:ObjM s.heap x dx C mA)(hg:PySem.W.plainGet K C name=eh)(hh:PySem.W.hasDictIn K C=eh)
  (ha:PySem.W.findIn K (.ref C) name=d9 ee) (hv:mA name=d9 v) (hv':PySem.W.handedIn v=eh) (h:Q v {s with toks:=s.toks+1}) :
  wpAny (ß prog w) A (getAttr (.ref x) name expr) Q E s:=by
 obtain⟨od,J,hl⟩:=I.look;exact PySem.W.get_value X J (PySem.W.plainGet_of hg).1 (PySem.W.findObj_own hh ha rfl<|by rw[hl,hv]) hv' h
def CU{pl:Sem Bool}{Q:Ã×List Ã->Å->Prop}(X:K.In s.heap)(I:ObjM s.heap x dx C mA)(hg:PySem.W.plainGet K C name=eh)
  (hf:PySem.W.findIn K (.ref C) name=d9 (d9<|.ref f)) (ht:PySem.W.isFn K (.ref f)=eh) (hv:mA name=ee) (h:Q (.ref f,[.ref x]) s) :
  wpAny (ß prog w) A (ϔ (.ref x) name pl) Q E s:=by
 obtain⟨od,J,hl⟩:=I.look;exact PySem.W.method_fn X J (PySem.W.plainGet_of hg).1 (PySem.W.plainGet_of hg).2 hf (beq_iff_eq.mp ht) (by show(PySem.W.lookIn name od).map (·.isSome)=d9 ei;rw[hl,hv];rfl) h
def E0{ns:List Str}{Q:Unit->Å->Prop}(X:K.In s.heap)(I:ObjM s.heap x dx C mA)
  (hs:PySem.W.findIn K (.ref C) "__setattr__" = d9 (d9<|.builtin "object.__setattr__")) (hp:PySem.W.plainOver K C=eh) (ht:PySem.W.takerIn K C name=d9 ee) (hh:PySem.W.hasDictIn K C=eh)
  (hw:PySem.Within mA ns) (hsz:ns.length<=Ý)
  (h:∀h',ObjM h' x dx C (λy=>if y=name then d9 v else mA y)->Ů dx s.heap h'->Q () {s with heap:=h',toks:=s.toks+2}) :
  wpAny (ß prog w) A (setAttr (.ref x) name v) Q E s:=by
 obtain⟨od,J,hl⟩:=I.look;refine PySem.W.set_plain X J hs<|PySem.W.osa_open (s:={s with toks:=s.toks+1}) (r:=ee) X J hp ht λb=>?_;obtain⟨cd,hc,hd'⟩:=PySem.W.any_some hh;have hx:s.heap.get? x=d9 ⟨.ref C,d9 dx,.plain,#[]⟩:=I.obj;refine À<|Æ<|À<|À<|wpAny_loadPart hx<|À<|PySem.W.Looks.here (s:={s with toks:=s.toks+1}) (PySem.W.looks_clsIn X hc) ?_;rw[hd'];refine Æ (a:=d9 dx)<|À<|Æ<|À ?_;refine wpAny_nsSet1 (s:={s with toks:=s.toks+1}) I.ns λh' hn2 hs2=>?_;obtain⟨oD,esD,epD,hoD,hdD,hcD⟩:=hn2.count<|PySem.Within.cons name v hw;refine À (wpAny_lookBehind hoD (by rw[hdD];exact pastItsLine_dict<|á hcD<|by rw[Ë];lia) ?_);exact Æ<|h _ ⟨(hs2.2 _<|Ne.symm I.ne).trans I.obj,hn2,I.ne⟩ hs2
def DL{R:ai->Å->Prop}{vs:List Ã}{kw:List (Str×Ã)}(X:K.In s.heap)(hm:PySem.W.makesIn K C=eh)
  (hi:PySem.W.findIn K (.ref C) "__init__" = d9 (d9<|.ref f)) (hf:PySem.W.typeIn K (.ref f)=d9 (.type "function"))
  (h:codeAny (ß prog w) (A.under<|.builtin "type.__call__" ⟨.ref C::vs,kw⟩) (.call (.ref f) ⟨.ref (s.heap.objs.size+1)::vs,kw⟩) (PySem.W.InitBack (s.heap.objs.size+1) R)
    { s with heap:=(s.heap.push PySem.W.emptyDict).push (PySem.W.instObj C s.heap.objs.size) }) :
  codeAny (ß prog w) A (.call (.ref C) ⟨vs,kw⟩) R s:=by
 obtain⟨hh,g,d,t,os⟩:=s;exact PySem.W.make_core (PySem.W.makes_of X hm) (PySem.W.looks_findIn X hi) (λself=>PySem.W.bind_fn X self hf) (.inl rfl) h
end
abbrev eW(f:Str)(v:V):List (Str×V)->List (Str×V)
 |[]=>[(f,v)]
 |(g,x)::r=>if g=f then(g,v)::r else(g,x)::eW f v r
def WO(f g:Str)(v:V):∀fs:List<|Str×V,(eW f v fs).lookup g=if g=f then d9 v else fs.lookup g
 |[]=>by
  show ζ g [(f,v)]=_;by_cases h:g=f
  .have hb:(g==f)=eh:=beq_iff_eq.mpr h;simp only[ζ,hb,fZ h]
  .have hb:(g==f)=ei:=beq_eq_false_iff_ne.mpr h;simp only[ζ,hb,f8 h]
 |(k,x)::r=>by
  have ih:=WO f g v r;rw[show eW f v ((k,x)::r)=(if k=f then(k,v)::r else(k,x)::eW f v r) from rfl];by_cases hk:k=f
  .rw[fZ hk];by_cases h:g=k
   .have hb:(g==k)=eh:=beq_iff_eq.mpr h;simp only[ζ,hb,fZ<|h.trans hk]
   .have hb:(g==k)=ei:=beq_eq_false_iff_ne.mpr h;simp only[ζ,hb,f8 λe:g=f=>h<|e.trans hk.symm]
  .rw[f8 hk];by_cases h:g=k
   .have hb:(g==k)=eh:=beq_iff_eq.mpr h;simp only[ζ,hb,f8 λe:g=f=>hk<|h.symm.trans e]
   .have hb:(g==k)=ei:=beq_eq_false_iff_ne.mpr h;simp only[ζ,hb];exact ih
def WJ(f:Str)(v:V):∀fs:List<|Str×V,f∈(eW f v fs).map (·.1)/\∀g,g∈fs.map (·.1)->g∈(eW f v fs).map (·.1)
 |[]=>⟨by simp[eW],λg h=>by simp at h⟩
 |(k,x)::r=>by
  obtain⟨i1,i2⟩:=WJ f v r;rw[show eW f v ((k,x)::r)=(if k=f then(k,v)::r else(k,x)::eW f v r) from rfl];by_cases hk:k=f
  .rw[fZ hk];subst hk;exact⟨by simp,λg h=>by simpa using h⟩
  .rw[f8 hk];refine⟨?_,λg h=>?_⟩
   .rw[Ñ];exact â _ i1
   .rw[Ñ]at h ⊢;rcases Ç.mp h with e|e
    .exact Ç.mpr<|.inl e
    .exact â _<|i2 g e
def WQ(f:Str)(v:V):∀fs:List<|Str×V,(eW f v fs).length<=fs.length+1
 |[]=>by simp[eW]
 |(k,x)::r=>by
  have ih:=WQ f v r;rw[show eW f v ((k,x)::r)=(if k=f then(k,v)::r else(k,x)::eW f v r) from rfl];by_cases hk:k=f
  .rw[fZ hk,Ë,Ë];lia
  .rw[f8 hk,Ë,Ë];lia
variable {o:Option Ã}
def fh.some_of{v:V}(r:fh (d9 v) o):∃u,o=d9 u/\RelV v u:=by
 cases o with
 |none=>exact(show False from r).elim
 |some u=>exact⟨u,rfl,r⟩
def fh.none_of(r:fh ee o):o=ee:=by
 cases o with
 |none=>rfl
 |some u=>exact(show False from r).elim
variable {u:Ã}
def AK{v:V}(r:RelV v u):PySem.W.handedIn u=eh:=by
 cases v with
 |non=>cases (show u=Value.none from r);rfl
 |bl b=>cases (show u=Value.bool b from r);rfl
 |int i=>obtain⟨t,e⟩:=(show ∃t,u=Value.int i t from r);cases e;rfl
 |str x=>obtain⟨t,e⟩:=(show ∃t,u=Value.str x t from r);cases e;rfl
 |byt b=>obtain⟨t,e⟩:=(show ∃t,u=Value.bytes b t from r);cases e;rfl
 |flt b=>obtain⟨t,e⟩:=(show ∃t,u=Value.float b t from r);cases e;rfl
 |ref a=>cases (show u=Value.ref a from r);rfl
 |ty n=>cases (show u=Value.type n from r);rfl
section
variable {P:å}{w:ø}{H H':Hp}{h h':Ć}{a C dx:Í}{fs fs':List (Str×V)}
def Jb(hok:HOk P w H h)(e:H a=d9 (.ins C dx fs)):∃mA,ObjM h a dx C mA/\(∀f,fh (fs.lookup f)<|mA f)/\PySem.Within mA (fs.map (·.1))/\fs.length<=1000/\H dx=d9 (.own a):=by
 obtain⟨d,z,ne,ob,mA,n,r,q⟩:=(show eP P w H h a (.ins C dx fs) from hok a _ e)
 exact⟨mA,⟨ob,n,ne⟩,r,q,z,d⟩
end
structure Cls(K:Frag)(C:Í):Prop where
 pg:PySem.W.plainGet K C Str.empty=eh
 hd:PySem.W.hasDictIn K C=eh
 po:PySem.W.plainOver K C=eh
 sa:PySem.W.findIn K (.ref C) "__setattr__" = d9 (d9<|.builtin "object.__setattr__")
def Cls.get{K:Frag}(c:Cls K C)(f:Str):PySem.W.plainGet K C f=eh:=c.pg
abbrev NoAttr(K:Frag)(C:Í)(f:Str):Prop:=PySem.W.findIn K (.ref C) f=d9 ee
def NoAttr.taker{K:Frag}{f:Str}(n:NoAttr K C f):PySem.W.takerIn K C f=d9 ee:=by unfold PySem.W.takerIn;rw[show PySem.W.findIn K (.ref C) f=d9 ee from n];rfl
structure Meth(K:Frag)(C:Í)(m:Str)(f:Í):Prop where
 at_:PySem.W.findIn K (.ref C) m=d9 (d9<|.ref f)
 fn:PySem.W.isFn K (.ref f)=eh
 kp:PySem.W.keepIn K (.ref f)=eh
section
variable {X:Cx}{Â:List (Í×Obj)}{σ:St}{H:Hp}{s:Å}{a C dx:Í}{fs:List (Str×V)}{f:Str}{v:V}{A:ĉ}{E:Ã->Å->Prop}
variable {Q:Ã->Å->Prop}
def JC{b:Bool}(I:Inv X Â σ H s)(e:H a=d9 (.ins C dx fs))(c:Cls X.K C)(n:NoAttr X.K C f)(l:fs.lookup f=d9 v)
  (h:∀u s',Inv X Â σ H s'->RelV v u->Q u s'):wpAny (ß X.prog X.w) A (getAttr (.ref a) f b) Q E s:=by
 obtain⟨mA,O,r,_,_,_⟩:=Jb I.hok e;obtain⟨u,hu,ru⟩:=fh.some_of (v:=v) (o:=mA f) (by rw[<-l];exact r f);exact FU I.kIn O (c.get f) c.hd n hu (AK ru)<|h u _ (I.tok _) ru
def JA{m:Str}{g:Í}{pl:Sem Bool}{Q:Ã×List Ã->Å->Prop}(I:Inv X Â σ H s)(e:H a=d9 (.ins C dx fs))(c:Cls X.K C)(k:Meth X.K C m g)(l:fs.lookup m=ee)
  (h:Q (.ref g,[.ref a]) s):wpAny (ß X.prog X.w) A (ϔ (.ref a) m pl) Q E s:=by
 obtain⟨mA,O,r,_,_,_⟩:=Jb I.hok e;have hn:mA m=ee:=fh.none_of (by rw[<-l];exact r m);exact CU I.kIn O (c.get m) k.at_ k.fn hn h
def JP{y:V}{Q:Unit->Å->Prop}(I:Inv X Â σ H s)(e:H a=d9 (.ins C dx fs))(c:Cls X.K C)(n:NoAttr X.K C f)(hl:fs.length<1000)(ry:RelV y u)
  (h:∀s',Inv X Â σ (upd H a<|.ins C dx<|eW f y fs) s'->Q () s'):wpAny (ß X.prog X.w) A (setAttr (.ref a) f u) Q E s:=by
 obtain⟨mA,O,r,wi,_,ho⟩:=Jb I.hok e;have hz:(fs.map (·.1)).length<=Ý:=by rw[Á,Ϫ];lia
 refine E0 I.kIn O c.sa c.po n.taker c.hd wi hz λh' O' sb=>h _ ?_;have hd:∃o,h'.get? dx=d9 o:=let ⟨o,_,_,e',_⟩:=O'.ns;⟨o,e'⟩;refine I.write (x:=a) (e:=dx) (by rw[e];exact True.intro) (.inr ho) (λb q hb z=>(sb.2 b hb).trans z) hd ?_;refine⟨by rw[ej O.ne];exact ho,?_,O.ne,O'.obj,_,O'.ns,λg=>?_,λg hg=>?_⟩
 .have:=WQ f y fs;lia
 .show fh ((eW f y fs).lookup g) (if g=f then d9 u else mA g);rw[WO];by_cases q:g=f
  .rw[fZ q,fZ q];exact ry
  .rw[f8 q,f8 q];exact r g
 .by_cases q:g=f
  .rw[q];exact(WJ f y fs).1
  .refine(WJ f y fs).2 g<|wi g λz=>hg ?_;show(if g=f then d9 u else mA g)=ee;rw[f8 q];exact z
def Inv.made(I:Inv X Â σ H s):Inv X Â σ (upd (upd H s.heap.objs.size<|.own<|s.heap.objs.size+1) (s.heap.objs.size+1)<|.ins C s.heap.objs.size [])
  {s with heap:=(s.heap.push PySem.W.emptyDict).push (PySem.W.instObj C s.heap.objs.size)}:=by
 have e1:(s.heap.push PySem.W.emptyDict).get? s.heap.objs.size=d9 PySem.W.emptyDict:=Õ s.heap rfl;have e2:((s.heap.push PySem.W.emptyDict).push<|PySem.W.instObj C s.heap.objs.size).get? (s.heap.objs.size+1)=d9 (PySem.W.instObj C s.heap.objs.size):=by
  have:=Õ (s.heap.push PySem.W.emptyDict) (o:=PySem.W.instObj C s.heap.objs.size) rfl
  rwa [ů]at this
 have e3:(s.heap.push PySem.W.emptyDict).Ns s.heap.objs.size λ_=>ee:=⟨PySem.W.emptyDict,#[],_,e1,rfl,(λe he=>gf he<|by simp),λ_=>rfl⟩
 have I1:=I.laid (a:=s.heap.objs.size) (o:=.own<|s.heap.objs.size+1) (h':=s.heap.push PySem.W.emptyDict) (t':=s.toks) (λb u q=>Ä _ q) (Ì _) ⟨_,e1⟩;refine I1.laid (a:=s.heap.objs.size+1) (o:=.ins C s.heap.objs.size []) (t':=s.toks) (λb u q=>Ä _ q) (Nat.le_of_eq<|ů _ _) ?_;have ne:s.heap.objs.size≠s.heap.objs.size+1:=à<|Ĝ _;refine⟨by rw[ej ne,ez],ĕ _,ne,e2,λ_=>ee,(Heap.Ns1.of_empty e3).at λo q=>Ä _ q,λ_=>True.intro,λy hy=>gf rfl hy⟩
def Gn{prog:å}{w:ø}{env:Env}{e:Expr}{ë:Pos}(hb:Ħ e f env (eval e env)=eval e env)
  (h:wpAny (ß prog w) A (eval e env) (λo ě=>wpAny (ß prog w) A (getAttr o f eh) Q E ě) E s):wpAny (ß prog w) A (eval (.Attribute e f ë) env) Q E s :=
 Attribute_any_ h (by rw[arm_eval_Attribute,hb])
end
abbrev Sa(K:Frag)(ta:TE)(f:Str):TE:=λσ H Q=>ta σ H λx H1=>∃a C dx fs v,x=.ref a/\H1 a=d9 (.ins C dx fs)/\Cls K C/\NoAttr K C f/\fs.lookup f=d9 v/\Q v H1
abbrev Sy(K:Frag)(ta tv:TE)(f:Str):TS:=λD σ H=>tv σ H λy H1=>ta σ H1 λx H2=>∃a C dx fs,x=.ref a/\H2 a=d9 (.ins C dx fs)/\Cls K C/\NoAttr K C f/\fs.length<1000/\
 D.nx σ (upd H2 a<|.ins C dx<|eW f y fs)
abbrev Cc(X:Cx)(op:ϓ)(rd:V->V->Hp->VK->Prop):Prop :=
 ∀(Â:List<|Í×Obj) (s:Å) (σ:St) (H:Hp) (x y:V) (u v:Ã) (Q:VK),Inv X Â σ H s->RelV x u->RelV y v->rd x y H Q->wpAny (ß X.prog X.w) X.A (inplaceOp op u v) (EP X Â σ Q) X.xe s
abbrev FG(K:Frag)(ta tv:TE)(rd:V->V->Hp->VK->Prop)(f:Str):TS:=λD σ H=>ta σ H λx H1=>∃a C dx fs v,x=.ref a/\H1 a=d9 (.ins C dx fs)/\Cls K C/\NoAttr K C f/\fs.lookup f=d9 v/\
 tv σ H1 λy H2=>rd v y H2 λz H3=>∃dx' fs',H3 a=d9 (.ins C dx' fs')/\fs'.length<1000/\D.nx σ (upd H3 a<|.ins C dx'<|eW f z fs')
section
variable {X:Cx}{o e ι:Expr}{f:Str}{ë bc cu:Pos}{ta tv:TE}
def ID(he:PE X e ta)(hb:Ħ e f X.env (eval e X.env)=eval e X.env):PE X (.Attribute e f ë)<|Sa X.K ta f:=by intro Â s σ H Q I h;refine Gn hb<|thn (he Â s σ H _ I h) λu s1 ⟨x,H1,I1,rx,a,C,dx,fs,v,ex,ea,c,n,l,q⟩=>?_;subst ex;obtain rfl:u=Value.ref a:=rx;exact JC I1 ea c n l λu' s2 I2 ru=>⟨v,H1,I2,ru,q⟩
def Io(ha:PE X o ta)(hv:PE X ι tv)(hs:Ŷ ι (d9<|.Attribute o f bc) ë.line X.env=pure ei):PS X (.Assign [.Attribute o f bc] ι ë)<|Sy X.K ta tv f:=by intro Â s σ H D I h;refine plainObj_wpAny_Assign_Attribute (thn (hv Â s σ H _ I h) λu s1 ⟨y,H1,I1,ry,q⟩=>thn (ha Â s1 σ H1 _ I1 q) λov s2 ⟨x,H2,I2,rx,a,C,dx,fs,ex,ea,c,n,l,q2⟩=>?_) hs;subst ex;obtain rfl:ov=Value.ref a:=rx;exact JP I2 ea c n l ry λs3 I3=>⟨σ,_,I3,q2⟩
def As{op:ϓ}{rd:V->V->Hp->VK->Prop}(ha:PE X o ta)(hv:PE X ι tv)(hop:Cc X op rd):PS X (.AugAssign (.Attribute o f cu) op ι ë)<|FG X.K ta tv rd f:=by intro Â s σ H D I h;refine wpAny_AugAssign_AttributeAny<|thn (ha Â s σ H _ I h) λov s1 ⟨x,H1,I1,rx,a,C,dx,fs,v,ex,ea,c,n,l,q⟩=>?_;subst ex;obtain rfl:ov=Value.ref a:=rx;refine JC I1 ea c n l λu s2 I2 ru=>thn (hv Â s2 σ H1 _ I2 q) λw3 s3 ⟨y,H2,I3,ry,q3⟩=>thn (hop Â s3 σ H2 v y u w3 _ I3 ru ry q3) λw4 s4 ⟨z,H3,I4,rz,dx',fs',ea',l',q4⟩=>?_;exact JP I4 ea' c n l' rz λs5 I5=>⟨σ,_,I5,q4⟩
abbrev SF:V->V->Hp->VK->Prop:=λx y H Q=>∃i j,x=.int i/\y=.int j/\Q (.int<|i+j) H
abbrev R6:V->V->Hp->VK->Prop:=λx y H Q=>∃i j,x=.int i/\y=.int j/\Q (.int<|i - j) H
def Ir:Cc X .Add SF:=by
 rintro Â s σ H x y u v Q I rx ry ⟨i,j,rfl,rfl,q⟩;obtain⟨t,rfl⟩:=(show ∃t,u=Value.int i t from rx)
 obtain⟨t',rfl⟩:=(show ∃t',v=Value.int j t' from ry)
 exact PyProof.Rows.iadd_int ⟨.int<|i+j,H,I.tok _,⟨_,rfl⟩,q⟩
def Lm:Cc X .Sub R6:=by
 rintro Â s σ H x y u v Q I rx ry ⟨i,j,rfl,rfl,q⟩;obtain⟨t,rfl⟩:=(show ∃t,u=Value.int i t from rx)
 obtain⟨t',rfl⟩:=(show ∃t',v=Value.int j t' from ry)
 exact PyProof.Rows.isub_int ⟨.int<|i - j,H,I.tok _,⟨_,rfl⟩,q⟩
end
section
variable {X:Cx}{Â:List (Í×Obj)}{σ:St}{H:Hp}{s:Å}{A:ĉ}{E:Ã->Å->Prop}{Q:Ã->Å->Prop}{c:Ã}{b:Bool}
inductive fL (K:Frag) (H:Hp):V->Ã->Prop where
 |non:fL K H .non<|.type "NoneType"
 |bl (x:Bool):fL K H (.bl x)<|.type "bool"
 |int (i:Int):fL K H (.int i)<|.type "int"
 |str (x:Str):fL K H (.str x)<|.type "str"
 |flt (x:UInt64):fL K H (.flt x)<|.type "float"
 |lst {a:Í}{xs:List V}(e:H a=d9 (.lst xs)):fL K H (.ref a)<|.type "list"
 |frz {a:Í}{o:Obj}{xs:List V}(e:H a=d9 (.frz o<|.lst xs)):fL K H (.ref a)<|.type "list"
 |tup {a:Í}{xs:List V}(e:H a=d9 (.tup xs)):fL K H (.ref a)<|.type "tuple"
 |dK {a:Í}{kvs:List (Key×V)}(e:H a=d9 (.dK kvs)):fL K H (.ref a)<|.type "dict"
 |dT {a:Í}{kvs:List (List Key×V)}(e:H a=d9 (.dT kvs)):fL K H (.ref a)<|.type "dict"
 |ins {a C dx:Í}{fs:List (Str×V)}(e:H a=d9 (.ins C dx fs)) (cl:Cls K C) (ha:PySem.W.findIn K (.ref C) "__class__" = d9 (d9<|.builtin "object.__class__"))
   (hn:PySem.W.specialIn K (.builtin "object.__class__") "__get__" = d9 (d9<|.builtin "getset_descriptor.__get__")) (htk:PySem.W.takesIn K (.builtin "object.__class__")=d9 eh)
   (hm:PySem.W.mroIn K C (.type "object")=d9 eh):fL K H (.ref a)<|.ref C
def Bw{x:V}{t:Ã}(I:Inv X Â σ H s)(rx:RelV x u)(ty:fL X.K H x t)(e:PySem.W.kitOne X.K t c=d9 b)(h:∀tk,Q (.bool b) {s with toks:=tk}) :
  wpAny (ß X.prog X.w) A (call (.builtin "isinstance") [u,c]) Q E s:=by
 cases ty with
 |non=>cases (show u=Value.none from rx);exact PySem.W.kia_one PySem.W.kitx_none I.kIn True.intro e (λz=>nomatch z) h
 |bl y=>cases (show u=Value.bool y from rx);exact PySem.W.kia_one PySem.W.kitx_bool I.kIn True.intro e (λz=>nomatch z) h
 |int i=>obtain⟨t,q⟩:=(show ∃t,u=Value.int i t from rx);cases q;exact PySem.W.kia_one PySem.W.kitx_int I.kIn True.intro e (λz=>nomatch z) h
 |str y=>obtain⟨t,q⟩:=(show ∃t,u=Value.str y t from rx);cases q;exact PySem.W.kia_one PySem.W.kitx_str I.kIn True.intro e (λz=>nomatch z) h
 |flt y=>obtain⟨t,q⟩:=(show ∃t,u=Value.float y t from rx);cases q;exact PySem.W.kia_one PySem.W.kitx_float I.kIn True.intro e (λz=>nomatch z) h
 |@lst a xs ea =>
  cases (show u=Value.ref a from rx);obtain⟨_,_,n,_,h1⟩:=(show eP X.prog X.w H s.heap a (.lst xs) from I.hok a _ ea)
  exact PySem.W.kia_one PySem.W.kitx_list I.kIn ⟨_,h1,rfl⟩ e (λz=>nomatch z) h
 |@frz a ob xs ea =>
  cases (show u=Value.ref a from rx);obtain⟨_,_,_,n,_,h1⟩:=(show eP X.prog X.w H s.heap a (.frz ob<|.lst xs) from I.hok a _ ea)
  exact PySem.W.kia_one PySem.W.kitx_list I.kIn ⟨_,h1,rfl⟩ e (λz=>nomatch z) h
 |@tup a xs ea =>
  cases (show u=Value.ref a from rx);obtain⟨_,_,_,p⟩:=(show eP X.prog X.w H s.heap a (.tup xs) from I.hok a _ ea)
  obtain⟨o,h1,h2,_⟩:=p;exact PySem.W.kia_one PySem.W.kitx_tuple I.kIn ⟨o,h1,h2⟩ e (λz=>nomatch z) h
 |@dK a kvs ea =>
  cases (show u=Value.ref a from rx);obtain⟨_,_,vs,_,p⟩:=(show eP X.prog X.w H s.heap a (.dK kvs) from I.hok a _ ea)
  obtain⟨o,es,ep,h1,h2,_⟩:=p;exact PySem.W.kia_one PySem.W.kitx_dict I.kIn ⟨o,h1,h2.1⟩ e (λz=>nomatch z) h
 |@dT a kvs ea =>
  cases (show u=Value.ref a from rx);obtain⟨_,_,xs,_,o,es,ep,h1,h2,_⟩:=(show eP X.prog X.w H s.heap a (.dT kvs) from I.hok a _ ea)
  exact PySem.W.kia_one PySem.W.kitx_dict I.kIn ⟨o,h1,h2.1⟩ e (λz=>nomatch z) h
 |@ins a C dx fs ea cl ha hn htk hm =>cases (show u=Value.ref a from rx);obtain⟨mA,O,_⟩:=Jb I.hok ea;obtain⟨od,J,_⟩:=O.look;exact PySem.W.kia_one (PySem.W.kitx_own (cl.get _) cl.hd ha hn htk hm) I.kIn J e (λz=>nomatch z) h
end
structure fi(k:Nat)(A:ĉ):Prop where
 hd:A.handled=ee
 dp:A.depth+3*k+5<recursionLimit
 un:A.units+16*k+200<Ĭ
variable {A:ĉ}
def fi.mono{j k:Nat}(r:fi k A)(h:j<=k):fi j A:=⟨r.hd,by have:=r.dp;lia,by have:=r.un;lia⟩
def fi.deeper{k:Nat}(r:fi (k+1) A)(env:Env):fi k (A.deeper env) :=
 ⟨r.hd,by have:=r.dp;show A.depth+1+3*k+5<_;lia,by have:=r.un;show A.units+3+16*k+200<_;lia⟩
variable {C:Í} {us:List Ã} {kw:List (Str×Ã)}
def OA:(A.under<|.builtin "type.__call__" ⟨.ref C::us,kw⟩).depth=A.depth+1:=by
 first|rfl|simp[bo,Code.weight,Code.isCreation,Code.isGuard,Code.isCaller,Code.frames,bO,guardIds]
def OL:(A.under<|.builtin "type.__call__" ⟨.ref C::us,kw⟩).units=A.units+1:=by
 first|rfl|simp[bo,Code.cUnits,Code.frames,bO]
def fi.make{k:Nat}(r:fi (k+1) A)(C:Í)(us:List Ã)(kw:List<|Str×Ã):fi k (A.under<|.builtin "type.__call__" ⟨.ref C::us,kw⟩) :=
 ⟨r.hd,by have:=r.dp;rw[OA];lia,by have:=r.un;rw[OL];lia⟩
def fi.depth{k:Nat}(r:fi k A):A.depth<recursionLimit:=by have:=r.dp;lia
abbrev GI:TA:=λ_ H Q=>Q [] H
abbrev HL(ta:TE)(tr:TA):TA:=λσ H Q=>ta σ H λx H1=>tr σ H1 λxs H2=>Q (x::xs) H2
section
variable {X:Cx}{e:Expr}{es:List Expr}{te:TE}{t:TA}{ë:Pos}
def fN:PA X [] GI:=λ_ _ _ _ H Q I h=>Calls.spliced_nil ⟨[],H,I,.nil,h⟩
def ZW(ha:PE X e te)(hr:PA X es t)(hs:Þ (e::es) X.env=(ei,eval e X.env)::Þ es X.env:=by rfl):PA X (e::es)<|HL te t:=by intro ë Â s σ H Q I h;rw[hs];show wpAny _ _ (spliced<|(ei,eval e X.env)::Ĥ ë (Þ es X.env)) _ _ s;refine Calls.spliced_cons<|thn (ha Â s σ H _ I h) λu s1 ⟨x,H1,I1,r1,q1⟩=>?_;exact thn (hr ë Â s1 σ H1 _ I1 q1) λus s2 ⟨xs,H2,I2,r2,q2⟩=>⟨x::xs,H2,I2,.cons r1 r2,q2⟩
abbrev Sh(t:TA):TE:=λσ H Q=>t σ H λxs H1=>xs.length<=Ý/\∀p,H1 p=ee->Q (.ref p) (upd H1 p<|.tup xs)
abbrev SG(t:TA):TE:=λσ H Q=>t σ H λxs H1=>xs.length<=Ý/\∀p,H1 p=ee->Q (.ref p) (upd H1 p<|.lst xs)
def Pl{x1}(h:PA X es t):PE X (.Tuple es x1 ë)<|Sh t:=by intro Â s σ H Q I hq;refine wpAny_Tuple_spliced (thn (h ë Â s σ H _ I hq) λus s1 ⟨xs,H1,I1,r,z,q⟩=>⟨by rw[<-r.length];exact z,?_⟩);have hf:H1 s1.heap.objs.size=ee:=I1.hok.fresh<|Ì _;refine⟨.ref s1.heap.objs.size,upd H1 s1.heap.objs.size<|.tup xs,I1.laid (t':=s1.toks) (λb u e=>Ä _ e) (Ì _) ?_,rfl,q _ hf⟩;exact⟨z,us,r,⟨_,Õ _ rfl,rfl,_,rfl⟩⟩
def Lh(h:PA X es t):PE X (.List es ë)<|SG t:=by intro Â s σ H Q I hq;refine wpAny_List_spliced (thn (h ë Â s σ H _ I hq) λus s1 ⟨xs,H1,I1,r,z,q⟩=>⟨by rw[<-r.length];exact z,?_⟩);have hf:H1 s1.heap.objs.size=ee:=I1.hok.fresh<|Ì _;refine⟨.ref s1.heap.objs.size,upd H1 s1.heap.objs.size<|.lst xs,I1.laid (t':=s1.toks) (λb u e=>Ä _ e) (Ì _) ?_,rfl,q _ hf⟩;exact⟨z,us,0,r,Õ _ rfl⟩
end
noncomputable abbrev Sp:=List V->Hp->VK->XK->Prop
noncomputable abbrev CXT:=List Env->Hp->Å->XK->Ã->Å->Prop
structure Env0(P:å)(w:ø)(K:Frag)(mg:Str->Option Ã)(base:Ć)(A:ĉ)(outer:List Env)(s:Å)(H:Hp):Prop where
 frames:A.frames=d9 outer
 mod:Mod K mg base
 bs:∀b o,base.get? b=d9 o->s.heap.get? b=d9 o/\H b=ee
 bsz:base.objs.size<=s.heap.objs.size
 funs:s.heap.FunFrames base outer
 frf:∀b∈frs outer,H b=ee
 hok:HOk P w H s.heap
 bare:Ω s.gens
abbrev CE(outer:List Env)(P:å)(w:ø)(H:Hp)(s:Å)(Q:VK)(u:Ã)(s':Å):Prop :=
 ∃v H',s'.os=s.os/\Ω s'.gens/\Un (frs outer) [] H H' s.heap s'.heap/\HOk P w H' s'.heap/\RelV v u/\Q v H'
abbrev CR(CX:CXT)(outer:List Env)(P:å)(w:ø)(H:Hp)(s:Å)(Q:VK)(E:XK)(r:ai)(s':Å):Prop :=
 match r with
 |.ok (.ret u)=>CE outer P w H s Q u s'
 |.ok _=>False
 |.error e=>CX outer H s E e s'
structure fj(P:å)(w:ø)(K:Frag)(mg:Str->Option Ã)(base:Ć)(CX:CXT)(k:Nat)(f:Í)(fd:ň)(ps:List Str)(sp:Sp):Prop where
 len:∀vs H Q E,sp vs H Q E->vs.length=ps.length
 run:∀(A:ĉ) (outer:List Env) (s:Å) (H:Hp) (args:Args) (us:List Ã) (vs:List V) (Q:VK) (E:XK),fi k A->Env0 P w K mg base A outer s H->BindsTo s fd args (ps.zip us)->fR vs us->sp vs H Q E->
  codeAny (ß P w) A (.call (.ref f) args) (CR CX outer P w H s Q E) s
variable {P:å} {w:ø} {mg:Str->Option Ã} {base:Ć} {outer:List Env} {s:Å} {H:Hp}
def Env0.make{K:Frag}(e:Env0 P w K mg base A outer s H)(C:Í)(us:List Ã)(kw:List<|Str×Ã) :
  Env0 P w K mg base (A.under<|.builtin "type.__call__" ⟨.ref C::us,kw⟩) outer s H:=⟨by first|exact e.frames|(simpa[bo,Code.envs,bO,pushEnvs]using e.frames),e.mod,e.bs,e.bsz,e.funs,e.frf,e.hok,e.bare⟩
section
variable {X:Cx}{Â:List (Í×Obj)}{σ:St}{H:Hp}{s s':Å}
def Inv.env0(I:Inv X Â σ H s):Env0 X.prog X.w X.K X.mg X.base X.A X.stack s H :=
 ⟨I.ok.frames,I.ok.mod,I.bs,á I.ok.bsz I.sz,I.stack,I.stkFree,I.hok,I.bare⟩
def Inv.after{Q:VK}{u:Ã}(I:Inv X Â σ H s)(h:CE X.stack X.prog X.w H s Q u s'):EP X Â σ Q u s':=by obtain⟨v,H',os,bare,un,hok,r,q⟩:=h;obtain⟨hh,g,d,t,os'⟩:=s';obtain rfl:os'=s.os:=os;exact⟨v,H',I.call (h':=hh) (g':=g) (d':=d) (t':=t) (ch:=[]) un hok bare λb z=>gf z<|by simp,r,q⟩
end
abbrev HB(sp:Sp)(av:List V)(E:XK)(t:TA):TE:=λσ H Q=>t σ H λvs H1=>sp (vs++av) H1 Q E
abbrev HP(C:Í)(m:Str)(sp:Sp)(av:List V)(E:XK)(ta:TE)(t:TA):TE:=λσ H Q=>ta σ H λx H1=>∃a dx fs,x=.ref a/\H1 a=d9 (.ins C dx fs)/\fs.lookup m=ee/\
 t σ H1 λvs H2=>sp (x::(vs++av)) H2 Q E
abbrev Q6(C:Í)(sp:Sp)(av:List V)(E:XK)(t:TA):TE:=λσ H Q=>t σ H λvs H1=>∀x dx,H1 x=ee->H1 dx=ee->dx≠x->
 sp (.ref x::(vs++av)) (upd (upd H1 dx<|.own x) x<|.ins C dx []) (λv H2=>v=.non/\Q (.ref x) H2) E
abbrev Binds(K:Frag)(fd:ň)(ps:List Str)(ds:List Ã):Prop :=
 ∀(s:Å) (us:List Ã),K.In s.heap->(us++ds).length=ps.length->BindsTo s fd ⟨us,[]⟩ (ps.zip<|us++ds)
variable {ps:List Str}
def Binds.all{K:Frag}{fd:ň}(h:∀us:List Ã,us.length=ps.length->bindArgs fd ⟨us,[]⟩=pure (ps.zip us)):Binds K fd ps []:=λs us _ hl=>by rw[þ]at hl ⊢;exact .of_eq (h us hl)
abbrev Xr(CX:CXT)(X:Cx)(E:XK):Prop:=∀(Â:List<|Í×Obj) (σ:St) (H:Hp) (s:Å) (e:Ã) (s':Å),Inv X Â σ H s->CX X.stack H s E e s'->X.xe e s'
section
variable {X:Cx}{CX:CXT}{k:Nat}{f C:Í}{fd:ň}{ps:List Str}{sp:Sp}{av:List V}{ds:List Ã}{E:XK}{x m:Str}{p ë Ŏ:Pos}{e o:Expr}{es:List Expr}{ta:TE}{t:TA}
variable {Â:List (Í×Obj)} {σ:St} {Q:VK} {vs:List V}
def MF(F:fj X.prog X.w X.K X.mg X.base CX k f fd ps sp)(hr:fi k X.A)(hb:Binds X.K fd ps ds)(hd:fR av ds)(hx:Xr CX X E)
  (I:Inv X Â σ H s) (r:fR vs us) (h:sp (vs++av) H Q E):wpAny (ß X.prog X.w) X.A (call (.ref f) us) (EP X Â σ Q) X.xe s:=by
 have r2:fR (vs++av)<|us++ds:=r.append hd;have hl:(us++ds).length=ps.length:=by rw[<-r2.length];exact F.len _ _ _ _ h
 refine wpAny_call<|Ź (F.run X.A X.stack s H ⟨us,[]⟩ (us++ds) (vs++av) Q E hr I.env0 (hb s us I.kIn hl) r2 h) λr s' hq=>?_;cases r with
 |error e=>exact hx Â σ H s e s' I hq
 |ok fl =>
  cases fl with
  |ret u=>exact I.after hq
  |next=>exact ń hq
  |brk=>exact ń hq
  |cont=>exact ń hq
def Gk(F:fj X.prog X.w X.K X.mg X.base CX k f fd ps sp)(hr:fi k X.A)(hg:Gl X x)(hm:X.mg x=d9 (.ref f))(hk:PySem.W.keepIn X.K (.ref f)=eh)(hb:Binds X.K fd ps ds)(hd:fR av ds)(hx:Xr CX X E)
  (ha:PA X (e::es) t) (cx:(x==("__debug__" : Str))=ei:=by decide) (he:Þ (e::es) X.env=(ei,eval e X.env)::Þ es X.env:=by rfl) (hpl:(Ĥ ë<|Þ es X.env).any (·.1)=ei:=by rfl) :
  PE X (.Call (.Name x p) (e::es) [] ë) (HB sp av E t):=by
 intro Â s σ H Q I h;refine Į<|Jc I hg hm ?_ cx;refine PySem.W.callWith_K (h₀:=X.base) I.ok.mod.kin hk (thn (ha ë Â s σ H _ I h) λus s1 ⟨vs,H1,I1,r,q⟩=>⟨I1.kIn,?_⟩) he hpl;exact MF F hr hb hd hx I1 r q
def Dk(F:fj X.prog X.w X.K X.mg X.base CX k f fd ps sp)(hr:fi k X.A)(hg:Gl X x)(hm:X.mg x=d9 (.ref f))(hk:PySem.W.keepIn X.K (.ref f)=eh)(hb:Binds X.K fd ps ds)(hd:fR av ds)(hx:Xr CX X E)
  (cx:(x==("__debug__" : Str))=ei:=by decide):PE X (.Call (.Name x p) [] [] ë)<|HB sp av E GI:=by
 intro Â s σ H Q I h;refine Į<|Jc I hg hm ?_ cx;exact PySem.W.callWith_K0 I.kIn hk<|MF (us:=[]) F hr hb hd hx I .nil h
variable {pl:Sem Bool}
def Gp(he:PE X o ta)(c:Cls X.K C)(hm:Meth X.K C m f)(F:fj X.prog X.w X.K X.mg X.base CX k f fd ps sp)(hr:fi k X.A)(hb:Binds X.K fd ps ds)(hd:fR av ds)(hx:Xr CX X E)(ha:PA X (e::es) t)
  (ŷ:Þ (e::es) X.env=(ei,eval e X.env)::Þ es X.env:=by rfl) (hpl:(Ĥ ë<|Þ es X.env).any (·.1)=ei:=by rfl)
  (ht:eval (.Call (.Attribute o m Ŏ) (e::es) [] ë) X.env=(do
    let ov<-eval o X.env
    ϋ Ŏ.atName
    let (f,first)<-ł [ov] (ϔ ov m pl)
    b9 ë f first (Ĥ ë<|Þ (e::es) X.env) (ź ë<|ŉ [] X.env)):=by rfl) :
  PE X (.Call (.Attribute o m Ŏ) (e::es) [] ë) (HP C m sp av E ta t):=by
 intro Â s σ H Q I h;refine PySem.W.methodCall_KW (pl:=pl) (thn (he Â s σ H _ I h) λu s1 ⟨x,H1,I1,rx,a,dx,fs,ex,ea,l,q⟩=>?_) ht;subst ex;obtain rfl:u=Value.ref a:=rx;refine JA I1 ea c hm l ?_;refine PySem.W.callWith_K (first:=[.ref a]) (h₀:=X.base) I.ok.mod.kin hm.kp (thn (ha ë Â s1 σ H1 _ I1 q) λus s2 ⟨vs,H2,I2,r,q2⟩=>⟨I2.kIn,?_⟩) ŷ hpl;exact MF (us:=.ref a::us) (vs:=.ref a::vs) F hr hb hd hx I2 (.cons rfl r) q2
def Ca(he:PE X o ta)(c:Cls X.K C)(hm:Meth X.K C m f)(F:fj X.prog X.w X.K X.mg X.base CX k f fd ps sp)(hr:fi k X.A)(hb:Binds X.K fd ps ds)(hd:fR av ds)(hx:Xr CX X E)
  (ht:eval (.Call (.Attribute o m Ŏ) [] [] ë) X.env=(do
    let ov<-eval o X.env
    ϋ Ŏ.atName
    let (f,first)<-ł [ov] (ϔ ov m pl)
    b9 ë f first (Ĥ ë<|Þ [] X.env) (ź ë<|ŉ [] X.env)):=by rfl) :
  PE X (.Call (.Attribute o m Ŏ) [] [] ë) (HP C m sp av E ta GI):=by
 intro Â s σ H Q I h;refine PySem.W.methodCall_KW (pl:=pl) (thn (he Â s σ H _ I h) λu s1 ⟨x,H1,I1,rx,a,dx,fs,ex,ea,l,q⟩=>?_) ht;subst ex;obtain rfl:u=Value.ref a:=rx;refine JA I1 ea c hm l ?_;exact PySem.W.callWith_K0 (first:=[.ref a]) I1.kIn hm.kp<|MF (us:=[.ref a]) (vs:=[.ref a]) F hr hb hd hx I1 (.cons rfl .nil) q
structure Mk(K:Frag)(C f:Í):Prop where
 makes:PySem.W.makesIn K C=eh
 init:PySem.W.findIn K (.ref C) "__init__" = d9 (d9<|.ref f)
 fn:PySem.W.isFn K (.ref f)=eh
 kp:PySem.W.keepIn K (.ref C)=eh
def CP(M:Mk X.K C f)(F:fj X.prog X.w X.K X.mg X.base CX k f fd ps sp)(hr:fi (k+1) X.A)(hb:Binds X.K fd ps ds)(hd:fR av ds)
  (hx:Xr CX X E) (I:Inv X Â σ H s) (r:fR vs us)
  (h:∀x dx,H x=ee->H dx=ee->dx≠x->sp (.ref x::(vs++av)) (upd (upd H dx<|.own x) x<|.ins C dx []) (λv H2=>v=.non/\Q (.ref x) H2) E) :
  wpAny (ß X.prog X.w) X.A (call (.ref C) us) (EP X Â σ Q) X.xe s:=by
 have hq:=h (s.heap.objs.size+1) s.heap.objs.size (I.hok.fresh<|Ņ _) (I.hok.fresh<|Ì _)<|à<|Ĝ _;have I2:=Inv.made (C:=C) I;have r2:fR (V.ref (s.heap.objs.size+1)::(vs++av))<|Value.ref (s.heap.objs.size+1)::(us++ds):=.cons rfl<|r.append hd;have hl:(Value.ref (s.heap.objs.size+1)::us++ds).length=ps.length:=by have e:=r2.length;rw[F.len _ _ _ _ hq]at e;exact e.symm
 refine wpAny_call (DL (f:=f) I.kIn M.makes M.init (beq_iff_eq.mp M.fn) (Ź (F.run _ X.stack _ _ ⟨Value.ref (s.heap.objs.size+1)::us,[]⟩ (Value.ref (s.heap.objs.size+1)::(us++ds)) _ _ E (hr.make C us [])
   (I2.env0.make C us []) (hb _ (Value.ref (s.heap.objs.size+1)::us) I2.kIn hl) r2 hq) λr s' hq'=>?_))
 cases r with
 |error e=>exact hx Â σ _ _ e s' I2 hq'
 |ok fl =>
  cases fl with
  |ret u =>obtain⟨v,H',I3,rv,ev,q3⟩:=I2.after hq';subst ev;exact⟨rv,⟨V.ref<|s.heap.objs.size+1,H',I3,rfl,q3⟩⟩
  |next=>exact ń hq'
  |brk=>exact ń hq'
  |cont=>exact ń hq'
def GO(M:Mk X.K C f)(F:fj X.prog X.w X.K X.mg X.base CX k f fd ps sp)(hr:fi (k+1) X.A)(hg:Gl X x)(hm:X.mg x=d9 (.ref C))(hb:Binds X.K fd ps ds)(hd:fR av ds)(hx:Xr CX X E)
  (ha:PA X (e::es) t) (cx:(x==("__debug__" : Str))=ei:=by decide) (he:Þ (e::es) X.env=(ei,eval e X.env)::Þ es X.env:=by rfl) (hpl:(Ĥ ë<|Þ es X.env).any (·.1)=ei:=by rfl) :
  PE X (.Call (.Name x p) (e::es) [] ë) (Q6 C sp av E t):=by
 intro Â s σ H Q I h;refine Į<|Jc I hg hm ?_ cx;refine PySem.W.callWith_K (h₀:=X.base) I.ok.mod.kin M.kp (thn (ha ë Â s σ H _ I h) λus s1 ⟨vs,H1,I1,r,q⟩=>⟨I1.kIn,?_⟩) he hpl;exact CP M F hr hb hd hx I1 r q
end
structure FnScope(N P:List Str)(sc:η):Prop where
 kind:sc.kind=.function
 co:sc.isCoroutine=ei
 gen:sc.isGenerator=ei
 nd:N.Nodup
 pre:N.take P.length=P
 par:∀x∈P,sc.names.lookup x=d9 .local\/sc.names.lookup x=d9 .cell
 nofree:∀y∈sc.names,y.2≠.free
def KW{ψ:Str->Option ϕ}{x:Str}:∀{binds:List (Str×Ã)}{m:Str->Option Ã},(∀v,(x,v)∉binds)->bindL ψ binds m x=m x
 |[],_,_=>rfl
 |(n,v)::r,m,h=>by
  unfold bindL;rw[KW λw hw=>h w<|â _ hw];split
  .have:x≠n:=by rintro rfl;exact h v ò
   simp[this]
  .rfl
def KP{ψ:Str->Option ϕ}{x:Str}:∀{binds:List (Str×Ã)}{m:Str->Option Ã},(∀v,(x,v)∉binds)->dj ψ binds m x=m x
 |[],_,_=>rfl
 |(n,v)::r,m,h=>by
  unfold dj;rw[KP λw hw=>h w<|â _ hw];split
  .rfl
  .have:x≠n:=by rintro rfl;exact h v ò
   simp[this]
def K4{ψ:Str->Option ϕ}{x:Str}{v:Ã}:∀{P:List Str}{vs:List Ã}{i:Nat}{m:Str->Option Ã},P.Nodup->P[i]?=d9 x->vs[i]?=d9 v->ψ x=d9 .local->
  bindL ψ (P.zip vs) m x=d9 v
 |[],_,_,_,_,h,_,_=>by simp at h
 |_::_,[],_,_,_,_,h,_=>by simp at h
 |p::P,w::vs,0,m,nd,h1,h2,hk=>by simp at h1 h2;subst h1;subst h2;show bindL ψ ((p,w)::P.zip vs) m p=_;unfold bindL;rw[KW λv hv=>(Ā.mp nd).1 (aB hv).1,fZ hk];simp
 |p::P,w::vs,i+1,m,nd,h1,h2,hk=>by show bindL ψ ((p,w)::P.zip vs) m x=_;unfold bindL;exact K4 (i:=i) (Ā.mp nd).2 (by simpa using h1) (by simpa using h2) hk
def Mh{ψ:Str->Option ϕ}{x:Str}{v:Ã}:∀{P:List Str}{vs:List Ã}{i:Nat}{m:Str->Option Ã},P.Nodup->P[i]?=d9 x->vs[i]?=d9 v->ψ x≠d9 .local->
  dj ψ (P.zip vs) m x=d9 v
 |[],_,_,_,_,h,_,_=>by simp at h
 |_::_,[],_,_,_,_,h,_=>by simp at h
 |p::P,w::vs,0,m,nd,h1,h2,hk=>by simp at h1 h2;subst h1;subst h2;show dj ψ ((p,w)::P.zip vs) m p=_;unfold dj;rw[KP λv hv=>(Ā.mp nd).1 (aB hv).1,f8 hk];simp
 |p::P,w::vs,i+1,m,nd,h1,h2,hk=>by show dj ψ ((p,w)::P.zip vs) m x=_;unfold dj;exact Mh (i:=i) (Ā.mp nd).2 (by simpa using h1) (by simpa using h2) hk
abbrev start(N:List Str)(vs:List V):St:=vs.map d9++Û (N.length - vs.length) ee
abbrev MX(CX:CXT)(P:å)(w:ø)(K:Frag)(mg:Str->Option Ã)(base:Ć)(N:List Str)(qual:Str)(scope:η)(f:Í)(cd:Ã)(A:ĉ)(outer:List Env)(s:Å)(H:Hp)(E:XK):Cx where
 prog:=P
 w:=w
 K:=K
 mg:=mg
 base:=base
 A:=A.deeper<|aj qual scope s.heap.objs.size f cd
 N:=N
 s₀:=s
 H₀:=H
 env:=aj qual scope s.heap.objs.size f cd
 outer:=outer
 stack:=aj qual scope s.heap.objs.size f cd::outer
 ex:=[]
 calm:=eh
 fn:=λ_=>eh
 pn:=[]
 xe:=λe s'=>wpAny (ß P w) (A.deeper<|aj qual scope s.heap.objs.size f cd) (leaving (aj qual scope s.heap.objs.size f cd) e) (λ_ s''=>CX outer H s E e s'') (λe' s''=>CX outer H s E e' s'') s'
def Nk{sc:η}{n:Nat}{x:Str}(h:sc.names.lookup x=d9 .cell):∃c,(cellsFrom n sc.names []).lookup x=d9 c:=by have q:=PySem.W.cellsFrom_some sc.names n []<|.inl h;exact é.mp q
variable {CX:CXT} {N:List Str} {qual:Str} {scope:η} {f:Í}
def BL{K:Frag}{cd:Ã}{s1:Å}{E:XK}{vs:List V}
  (S:FnScope N ps scope) (hd:A.handled=ee) (e0:Env0 P w K mg base A outer s H) (hl:vs.length=ps.length) (r:fR vs us)
  (x:InCallC s s.heap.objs.size (bindL (aj qual scope s.heap.objs.size f cd).kindOf (ps.zip us) λ_=>ee) (cellsFrom (s.heap.objs.size+1) scope.names []) (dj (aj qual scope s.heap.objs.size f cd).kindOf (ps.zip us) λ_=>ee) s1) :
  Inv (MX CX P w K mg base N qual scope f cd A outer s H E) [] (start N vs) H s1:=by
 have hpl:ps.length<=N.length:=by have:=congrArg List.length S.pre;rw[đ]at this;lia
 obtain⟨h1,tk,rfl,hk⟩:=x.done;have noA:∀b:Í,b∉(MX CX P w K mg base N qual scope f cd A outer s H E).ex:=λb z=>gf (show b∈([]:List Í) from z) (by simp);refine⟨⟨e0.mod,S.kind,rfl,rfl,Ì _,λy z c h1 h2=>?_,λy hy=>?_,λy c _ h=>?_,λ_=>hd,Around.frames_deeper e0.frames,.inr ⟨rfl,rfl⟩,λb z=>gf z<|noA b,e0.bs,e0.bsz,λb _ _=>noA b,λb z=>gf z<|noA b,e0.funs,e0.frf⟩,
   rfl,e0.bare,Un.kept hk,⟨_,x.toInCall.ns,λi y v h1 h2 h3=>?_⟩,λy c h=>⟨_,x.cell y c h⟩,e0.hok.fresh<|Ì _,λy c h=>?_,λp hp=>gf (show p∈([]:List<|Í×Obj) from hp) (by simp),e0.hok.kept hk,?_⟩
 .exact name_of_addr x.apart (PySem.mem_of_lookup h1)<|PySem.mem_of_lookup h2
 .have hy:scope.names.lookup y=d9 .cell\/scope.names.lookup y=d9 .free:=hy;rcases hy with hy|hy
  .exact Nk hy
  .exact gf rfl<|S.nofree _<|PySem.mem_of_lookup hy
 .exact Ŵ<|x.above y c<|PySem.mem_of_lookup h
 .have hi:i<vs.length:=by
   unfold start at h2;by_cases hi:i<vs.length
   .exact hi
   .rw[Ď<|by simpa using hi]at h2;rw[Ō]at h2;split at h2<;>cases h2
  have ha:vs[i]?=d9 v:=by
   unfold start at h2;rw[ć (by simpa using hi),Ö]at h2;cases e:vs[i]? with
   |none=>rw[e]at h2;cases h2
   |some a=>rw[e]at h2;cases h2;rfl
  obtain⟨u,hu,rv⟩:=r.get ha;have hp:ps[i]?=d9 y:=by rw[<-S.pre,List.getElem?_take_of_lt<|by lia];exact h1
  have ndP:ps.Nodup:=by rw[<-S.pre];exact S.nd.sublist<|List.take_sublist _ _
  refine⟨u,rv,?_⟩;rcases S.par y (è hp)with k|k
  .exact .inl ⟨k,K4 ndP hp hu k⟩
  .obtain⟨c,e⟩:=Nk (n:=s.heap.objs.size+1) k;refine .inr ⟨.inl k,c,e,?_⟩;have q:=x.cell y c e;rw[Mh ndP hp hu<|by show scope.names.lookup y≠_;rw[k];decide]at q;exact q
 .exact e0.hok.fresh<|Ŵ<|x.above y c<|PySem.mem_of_lookup h
 .unfold start;show _=N.length;rw[ä,Á,õ];lia
def QZ{K:Frag}{k:Nat}{name:Str}{params:Arguments}{body:List ļ}{dV kV doc pm Ϟ ct oc:Ã}{an od:Option Í}
  {osl:Array (Option Ã)}  {sp:Sp}(lk:K.lookup f=d9 ⟨oc,od,.func<|PySem.W.fnOf name qual params body scope dV kV doc pm an Ϟ ct,osl⟩) (aU:PySem.W.codeIn K Ϟ qual=eh) (S:FnScope N ps scope)
  (len:∀vs H Q E,sp vs H Q E->vs.length=ps.length)
  (hbody:∀(A:ĉ) (outer:List Env) (s:Å) (H:Hp) (vs:List V) (Q:VK) (E:XK),fi k (A.deeper<|aj qual scope s.heap.objs.size f Ϟ)->sp vs H Q E->
    ∃t,PSs (MX CX P w K mg base N qual scope f Ϟ A outer s H E) body t/\t { nx:=λ_ H'=>Q .non H',rt:=Q } (start N vs) H) :
  fj P w K mg base CX (k+1) f (PySem.W.fnOf name qual params body scope dV kV doc pm an Ϟ ct) ps sp:=by
 refine⟨len,λA outer s H args us vs Q E hr e0 hb r hsp=>?_⟩;have hl:=len _ _ _ _ hsp;have KX:K.In s.heap:=e0.mod.kin.keeps λb o e=>(e0.bs b o e).1;have lim:s.heap.NoLimit:=e0.mod.nolimit.keeps λb o e=>(e0.bs b o e).1;have hkind:∀y∈ps.zip us,scope.names.lookup y.1=d9 .local\/(scope.names.lookup y.1=d9 .cell/\((cellsFrom (s.heap.objs.size+1) scope.names []).lookup y.1).isSome=eh):=λ⟨n,v⟩ hy=>by
  rcases S.par n (aB hy).1 with q|q
  .exact .inl q
  .exact .inr ⟨q,PySem.W.cellsFrom_some _ _ _<|.inl q⟩
 refine codeAny_call_function hr.depth (KX _ _ lk) rfl S.co S.gen rfl (PySem.W.codeRec_of KX aU)<|hb _ _ _ _ ?_;refine wpAny_newFunctionEnv_cells S.kind hkind λenv he s1 x=>?_;subst he;refine⟨lim.keeps x.toInCall.keep,codeAny_func ?_⟩;obtain⟨t,ht,hq⟩:=hbody A outer s H vs Q E (hr.deeper _) hsp;have I:Inv (MX CX P w K mg base N qual scope f Ϟ A outer s H E) [] (start N vs) H s1:=BL S hr.hd e0 hl r x;refine ĭ (ht [] s1 (start N vs) H _ I hq) (λfl s' hs=>?_) λe s' hs=>hs;have fin:∀{Ŗ:St}{H':Hp}{v:V}{u:Ã},Inv (MX CX P w K mg base N qual scope f Ϟ A outer s H E) [] Ŗ H' s'->RelV v u->Q v H'->CE outer P w H s Q u s' :=
  λ{Ŗ H' v u} J rv q=>⟨v,H',J.os,J.bare,J.base,J.hok,rv,q⟩
 cases fl with
 |ret u =>obtain⟨v,Ŗ,H',J,rv,q⟩:=hs;exact fin J rv q
 |next =>obtain⟨Ŗ,H',J,q⟩:=hs;exact fin (v:=V.non) (u:=Value.none) J rfl q
 |brk =>obtain⟨_,_,_,q⟩:=hs;exact ń q
 |cont =>obtain⟨_,_,_,q⟩:=hs;exact ń q
section
variable {X:Cx}{x:Str}{p ë:Pos}{e:Expr}{es:List Expr}{t:TA}{id T:String}{r:List V->Hp->VK->Prop}
abbrev tCB(r:List V->Hp->VK->Prop)(t:TA):TE:=λσ H Q=>t σ H λvs H1=>r vs H1 Q
def Yn(hc:eN X (.builtin id) r)(hg:Gl X x)(hm:X.mg x=ee)(hv:ť x=d9 (.builtin id))(ha:PA X (e::es) t)(hn:x≠"__name__":=by decide)(cx:(x==("__debug__" : Str))=ei:=by decide)
  (he:Þ (e::es) X.env=(ei,eval e X.env)::Þ es X.env:=by rfl) (hpl:(Ĥ ë<|Þ es X.env).any (·.1)=ei:=by rfl):PE X (.Call (.Name x p) (e::es) [] ë)<|tCB r t:=by
 intro Â s σ H Q I h;refine Į<|YM I hg hm hv ?_ hn cx;exact PyProof.Rows.callWith_builtin1 (thn (ha ë Â s σ H _ I h) λus s1 ⟨vs,H1,I1,r1,q1⟩=>hc Â s1 σ H1 vs us Q I1 r1 q1) he hpl
def Ym(hc:eN X (.type T) r)(hg:Gl X x)(hm:X.mg x=ee)(hv:ť x=d9 (.type T))(ha:PA X (e::es) t)(hn:x≠"__name__":=by decide)(cx:(x==("__debug__" : Str))=ei:=by decide)
  (he:Þ (e::es) X.env=(ei,eval e X.env)::Þ es X.env:=by rfl) (hpl:(Ĥ ë<|Þ es X.env).any (·.1)=ei:=by rfl):PE X (.Call (.Name x p) (e::es) [] ë)<|tCB r t:=by
 intro Â s σ H Q I h;refine Į<|YM I hg hm hv ?_ hn cx;exact PyProof.Rows.callWith_type1 (thn (ha ë Â s σ H _ I h) λus s1 ⟨vs,H1,I1,r1,q1⟩=>hc Â s1 σ H1 vs us Q I1 r1 q1) he hpl
end
end L2
namespace HT
open PySem PyProof.Rows
abbrev lexLt:List Int->List Int->Bool
 |[],[]=>ei
 |[],_::_=>eh
 |_::_,[]=>ei
 |x::xs,y::ys=>if x=y then lexLt xs ys else gg (x<y)
def lexLt_cons(x y:Int)(xs ys:List Int):lexLt (x::xs) (y::ys)=if x=y then lexLt xs ys else gg (x<y):=rfl
def Kx:lexLt [] []=ei:=rfl
def Jz(y:Int)(ys:List Int):lexLt [] (y::ys)=eh:=rfl
def JQ(x:Int)(xs:List Int):lexLt (x::xs) []=ei:=rfl
def eqAt_int(A:ĉ)(s:Å)(a:Int)(t:Tok)(c:Int)(u:Tok):∃e,SeqAt.EqAt A s (.int a t) (.int c u) e/\(e=eh↔a=c) :=
 ⟨(a==c),SeqAt.EqAt.int_int a t c u,by simp⟩
def Cu(A:ĉ)(s:Å)(a:Int)(t:Tok)(c:Int)(u:Tok)(prog:å)(w:ø)(E:Ã->Å->Prop)(Q:Ã->Å->Prop)(h:Q (.bool<|gg (a<c)) s) :
  wpAny (ß prog w) A (richCompare .Lt (.int a t)<|.int c u) Q E s :=
 (PyProof.Rows.lt_int h:wpAny (ß prog w) A (ì .Lt (.int a t)<|.int c u) Q E s)
section
open PySem.SeqAt
open PySem.AutoSeq1 (wpAny_loadPart')
open PySem.MeetsSeq PySem.MeetsSeq2 PySem.MeetsSeq3
def Kt(l b:Í)(items ŀ:Array Ã)(n n2:Nat)(dd cL:Option Í)(sl dG:Array<|Option Ã)(ns ms:List Int)(hi:ÿ items.toList ns)(hj:ÿ ŀ.toList ms) :
  Meets (Builtin.«tuple.__lt__» ⟨[.ref l,.ref b],[]⟩)
   (λ_ R s=>s.heap.get? l=d9 { cls:=.type "tuple",dict:=dd,data:=.seq items n,slots:=sl }/\s.heap.get? b=d9 { cls:=.type "tuple",dict:=cL,data:=.seq ŀ n2,slots:=dG }/\
     R (.ok<|.ret<|.bool<|lexLt ns ms) s) :=
 .of_wp λprog w A R s h=>by
  obtain⟨hp,g,d,tk,os⟩:=s;obtain⟨hl,hb,h⟩:=h;have f2:=AutoSeq1.sub_tuple_tuple;have z1:items.size=ns.length:=by rw[<-hi.length];simp
  have z2:ŀ.size=ms.length:=by rw[<-hj.length];simp
  wp_walk using ĝ hl,ĝ hb,wpAny_forIn_list _ (λrest b s'=>b.1=ee/\s'=⟨hp,g,d,tk,os⟩/\∃(vs ws:List Ã) (bX db:List Int),rest=vs.zip ws/\
    ÿ vs bX/\ÿ ws db/\bX.length+ŀ.size=db.length+items.size/\R (.ok<|.ret<|.bool<|lexLt bX db) ⟨hp,g,d,tk,os⟩) _
  case turn =>
   rintro⟨y,x⟩ rest b s' ⟨bf,rfl,vs,ws,bX,db,hz,hvi,hwi,hlen,hR⟩;cases hvi with
   |nil=>rw[Ι]at hz;cases hz
   |cons a t hvi' =>
    cases hwi with
    |nil=>rw[π]at hz;cases hz
    |cons c u hwi' =>
     rw[ŏ]at hz;injection hz with hyx hrest;injection hyx with hy hx;subst hy hx;rw[lexLt_cons]at hR;simp only[Ë]at hlen;obtain⟨e,he,hiff⟩:=eqAt_int A.in1 ⟨hp,g,d,tk,os⟩ a t c u;refine À<|he prog w _ _ ?_;cases e with
     |true =>
      rw[fZ<|hiff.mp rfl]at hR
      wp_walk
      exact⟨rfl,rfl,_,_,_,_,hrest,hvi',hwi',by lia,hR⟩
     |false =>
      rw[f8 λq=>gf (hiff.mpr q) ù]at hR;have hri:=Cu A.in1 ⟨hp,g,d,tk,os⟩ a t c u prog w
      wp_walk using hri
      exact⟨_,rfl,by simpa using hR⟩
  case fin =>
   rintro⟨b1,b2⟩ s' ⟨bf,rfl,vs,ws,bX,db,hz,hvi,hwi,hlen,hR⟩;simp only at bf;subst bf;have hv:lexLt bX db=gg (items.size<ŀ.size):=by
    cases hvi with
    |nil =>
     cases hwi with
     |nil =>simp only[Đ]at hlen;rw[Kx];exact(f9<|by lia).symm
     |cons c u hw =>simp only[Đ,Ë]at hlen;rw[Jz];exact(gb<|by lia).symm
    |cons a t hv =>
     cases hwi with
     |nil =>simp only[Đ,Ë]at hlen;rw[JQ];exact(f9<|by lia).symm
     |cons c u hw =>rw[ŏ]at hz;cases hz
   rw[hv]at hR
   wp_walk
   exact⟨_,rfl,by simpa[Builtin.Tuple.tupleCompareSizes]using hR⟩
  case h =>exact⟨rfl,rfl,items.toList,ŀ.toList,ns,ms,rfl,hi,hj,by lia,h⟩
end
section
variable {prog:å}{w:ø}{A:ĉ}{E:Ã->Å->Prop}{s:Å}
variable {b:Í} {items:Array Ã} {Q:Ã->Å->Prop}
def lt_tupInts{l:Í}{ŀ:Array Ã}{ns ms:List Int}(hl:ϩ s.heap l items)(hb:ϩ s.heap b ŀ)(hi:ÿ items.toList ns)(hj:ÿ ŀ.toList ms)
  (hu:A.units<Ĭ) (h:Q (.bool<|lexLt ns ms) s):wpAny (ß prog w) A (ì .Lt (.ref l)<|.ref b) Q E s:=by
 obtain⟨⟨cls,dd,data,sl⟩,ho,hc,n,hd⟩:=id hl;obtain⟨⟨cls2,cL,data2,dG⟩,ho2,hc2,n2,bC⟩:=id hb;simp only at hc hd hc2 bC;subst hc hd hc2 bC;exact dN (op:=.Lt) ⟨_,ho,rfl⟩ ⟨_,ho2,rfl⟩ PySem.F.slot_tuple_lt PySem.F.entry_tuple_lt (PySem.F.args_tuple_lt_2 _ _) (Kt l b items ŀ n n2 dd cL sl dG ns ms hi hj)
  ⟨ho,ho2,show Value.bool (lexLt ns ms)≠ca/\Q (.bool<|lexLt ns ms) s from ⟨(λx=>nomatch x),h⟩⟩ hu
def cat_tup{t:Í}{vs ws:List Ã}(ht:ϩ s.heap t vs.toArray)(hb:ϩ s.heap b ws.toArray)(hv:vs≠[])
  (h1:ws=[]->Q (.ref t) s) (h2:ws≠[]->Q (.ref s.heap.objs.size) {s with heap:=s.heap.push {cls:=.type "tuple",data:=.seq (vs++ws).toArray}})
  (hsz:vs.length+ws.length<=Ý):wpAny (ß prog w) A (Ň .Add (.ref t)<|.ref b) Q E s:=by
 obtain⟨⟨cls,dd,data,sl⟩,ho,hc,n,hd⟩:=id ht;obtain⟨⟨cls2,cL,data2,dG⟩,ho2,hc2,n2,bC⟩:=id hb;simp only at hc hd hc2 bC;subst hc hd hc2 bC;have e:vs.toArray++ws.toArray=(vs++ws).toArray:=by simp
 by_cases hw:ws=[]
 .exact dO ⟨_,ho,rfl⟩ ⟨_,ho2,rfl⟩ aY cS PySem.F.slot_tuple_add PySem.F.entry_tuple_add (PySem.F.args_tuple_add_2 _ _)
   (tuple_addW1 t b vs.toArray ws.toArray n n2 dd cL sl dG (by simpa using hv)<|by simp[hw]) ⟨ho,ho2,h1 hw⟩
 .refine dO ⟨_,ho,rfl⟩ ⟨_,ho2,rfl⟩ aY cS PySem.F.slot_tuple_add PySem.F.entry_tuple_add (PySem.F.args_tuple_add_2 _ _)
   (tuple_addW2 t b vs.toArray ws.toArray n n2 dd cL sl dG (by simpa using hv) (by simpa using hw)<|by rw[Ï,Ï];exact hsz) ⟨ho,ho2,?_⟩
  rw[e];exact h2 hw
abbrev sIx(n d:Nat):Option Int->Nat
 |none=>d
 |some v=>if v<0 then(v+(n:Int)).toNat else min v.toNat n
def P0(n d:Nat)(hd:d<=n)(o:Option Int):sIx n d o<=n:=by
 cases o with
 |none=>exact hd
 |some v =>
  show(if v<0 then(v+(n:Int)).toNat else min v.toNat n)<=n;by_cases hv:v<0
  .rw[fZ hv];lia
  .rw[f8 hv];exact ak _ _
def clip_eq(v:Int)(n d:Nat):(if v<0 then max (v+(n:Int)) 0 else min v (n:Int))=((sIx n d (d9 v):Nat):Int):=by
 show(if v<0 then max (v+(n:Int)) 0 else min v (n:Int))=(((if v<0 then(v+(n:Int)).toNat else min v.toNat n):Nat):Int)
 by_cases hv:v<0
 .simp only[fZ hv];lia
 .simp only[f8 hv];lia
def OQ(lo hi:Option Int)(n:Nat):Builtin.Slice.sliceAdjust lo hi 1 (n:Int)=(((sIx n 0 lo:Nat):Int),((sIx n n hi:Nat):Int)):=by
 have h1:¬ ((1:Int)<0):=by lia
 unfold Builtin.Slice.sliceAdjust;simp only[h1,if_false];refine Prod.ext ?_ ?_
 .cases lo with
  |none=>rfl
  |some v=>exact clip_eq v n 0
 .cases hi with
  |none=>rfl
  |some v=>exact clip_eq v n n
def Ul(i j:Nat):Builtin.Slice.slicePlaces (i:Int) (j:Int) 1=j - i:=by
 unfold Builtin.Slice.slicePlaces;have h1:(1:Int) > 0:=by lia
 simp only[h1,if_true,Int.ediv_one];split<;>lia
def Jx{v:Ã}{o:Option Int}{Q:Option Int->Å->Prop}(p:ϛ v o)(h:Q o s):wpAny (ß prog w) A (Builtin.Slice.slicePartIndex v) Q E s:=by
 cases p with
 |none=>exact slicePart_none h
 |int i t=>exact slicePart_int h
variable {sl:Í} {vl:Ã} {vu:Ã} {lo:Option Int} {hi:Option Int}
def YJ{n:Nat}{Q:Int×Int×Nat->Å->Prop}(hs:s.heap.IsSliceOf sl vl vu .none)(pl:ϛ vl lo)(pu:ϛ vu hi)
  (h:Q (((sIx n 0 lo:Nat):Int),1,sIx n n hi - sIx n 0 lo) s):wpAny (ß prog w) A (Builtin.Slice.sliceApplied (.ref sl)<|pure (n:Int)) Q E s:=by
 obtain⟨os,hos,hcs,hds⟩:=id hs;unfold Builtin.Slice.sliceApplied Builtin.Slice.sliceFields;refine À<|À<|Ŋ hos hds (x:=vl) rfl<|À<|Ŋ hos hds (x:=vu) rfl<|À<|Ŋ hos hds (x:=.none) rfl<|Æ ?_;refine À<|slicePart_none ?_;show wpAny _ _ (if((1:Int)==0)=eh then _ else _) _ _ s;rw[f8<|by decide];refine À<|Jx pl<|À<|Jx pu<|À<|Æ ?_;show wpAny _ _ (match Builtin.Slice.sliceAdjust lo hi 1 (n:Int)with|(lo,hi)=>pure (lo,(1:Int),Builtin.Slice.slicePlaces lo hi 1)) _ _ s;rw[OQ lo hi n];show wpAny _ _ (pure (((sIx n 0 lo:Nat):Int),(1:Int),Builtin.Slice.slicePlaces ((sIx n 0 lo:Nat):Int) ((sIx n n hi:Nat):Int) 1)) _ _ s;rw[Ul];exact Æ h
def DX(xs:Array Ã)(i k:Nat):((List.range k).filterMap λ(m:Nat)=>xs[((i:Int)+(m:Int)*1).toNat]?).toArray=((xs.toList.drop i).take k).toArray:=by
 have e:(λ(m:Nat)=>xs[((i:Int)+(m:Int)*1).toNat]?)=λm=>xs[i+m]?:=by
  funext m;have:((i:Int)+(m:Int)*1).toNat=i+m:=by lia
  rw[this]
 rw[e];have:=pick_run xs i k;rw[Ũ]at this;have e2:((λx=>xs[x]?) ∘ λx=>i+x)=λm=>xs[i+m]?:=rfl;rw[e2]at this;rw[this]
def getItem_tuple_cut{t:Í}(ht:ϩ s.heap t items)(hs:s.heap.IsSliceOf sl vl vu .none)(pl:ϛ vl lo)(pu:ϛ vu hi)
  (hw:¬ (sIx items.size 0 lo=0/\sIx items.size items.size hi=items.size))
  (h:Q (.ref s.heap.objs.size) {s with heap:=s.heap.push {cls:=.type "tuple",data:=.seq ((items.toList.drop<|sIx items.size 0 lo).take<|sIx items.size items.size hi - sIx items.size 0 lo).toArray}})
  (hsz:items.size<=Ý):wpAny (ß prog w) A (Ϛ (.ref t)<|.ref sl) Q E s:=by
 have cM:sizeOk<|.seq ((items.toList.drop<|sIx items.size 0 lo).take<|sIx items.size items.size hi - sIx items.size 0 lo).toArray:=by show((items.toList.drop<|sIx items.size 0 lo).take<|sIx items.size items.size hi - sIx items.size 0 lo).toArray.size<=Ý;rw[Ï,đ,Τ,ñ];lia
 have hj:sIx items.size items.size hi<=items.size:=P0 _ _ (Ì _) hi;obtain⟨os,hos,hcs,hds⟩:=id hs;have hTs:s.TypeIs (.ref sl) "slice":=⟨os,hos,hcs⟩
 unfold Ϛ
 try with_reducible refine Č ?_
 first|refine À (Æ ?_)|skip
 refine À (wpAny_sequenceKey ht.typeIs (by decide) ?_);refine À (Ĳ (name:=gh "__getitem__") ht.typeIs PyProof.Rows.slot_tuple_getitem
   (Ġ PyProof.Rows.slot_tuple_getitem ht.typeIs entry_tuple_getitem ?_<|args_tuple_getitem _ _))
 show wpAny _ _ (Builtin.Tuple.tupleItemsOf (.ref t) >>= _) _ _ s;refine À<|tupleItemsOf_ ht ?_;refine À<|Ż hTs ?_;rw[fZ<|by decide];refine À<|YJ hs pl pu ?_;have hno:¬ ((((sIx items.size 0 lo:Nat):Int)==0&&(1:Int)==1&&(sIx items.size items.size hi - sIx items.size 0 lo)==items.size)=eh):=by intro q;rw[bAq,bAq]at q;have q1:((sIx items.size 0 lo:Nat):Int)=0:=eq_of_beq q.1.1;have q2:sIx items.size items.size hi - sIx items.size 0 lo=items.size:=eq_of_beq q.2;exact hw ⟨by lia,by lia⟩
 show wpAny _ _ (if(((sIx items.size 0 lo:Nat):Int)==0&&(1:Int)==1&&(sIx items.size items.size hi - sIx items.size 0 lo)==items.size)=eh then _ else _) _ _ s;rw[f8 hno,DX]
 first
  |exact À (m:=Builtin.Tuple.tupleExact _)<|Ĉ (Æ ⟨_,rfl,Æ h⟩) cM
  |exact À (m:=Builtin.Tuple.tupleExact _)<|Ĉ (À<|Æ<|Æ ⟨_,rfl,Æ h⟩) cM
  |exact À<|À (m:=Builtin.Tuple.tupleExact _)<|Ĉ (Æ<|Æ ⟨_,rfl,Æ h⟩) cM
  |exact À<|À (m:=Builtin.Tuple.tupleExact _)<|Ĉ (Æ ⟨_,rfl,Æ h⟩) cM
end
end HT
namespace L2
open PySem PySem.Spec PyProof.Rows
noncomputable abbrev TO:=St->Hp->(Option Int->Hp->Prop)->Prop
abbrev PO(X:Cx)(e:Option Expr)(t:TO):Prop :=
 ∀(Â:List<|Í×Obj) (s:Å) (σ:St) (H:Hp) (Q:Option Int->Hp->Prop),Inv X Â σ H s->t σ H Q->
  wpAny (ß X.prog X.w) X.A (evalPart e X.env) (λu s'=>∃o H',Inv X Â σ H' s'/\ϛ u o/\Q o H') X.xe s
abbrev GT:TO:=λ_ H Q=>Q ee H
abbrev QY(t:TE):TO:=λσ H Q=>t σ H λx H1=>∃i,x=.int i/\Q (d9 i) H1
def ZI{ns:List Int}:∀{us:List Ã},fR (ns.map V.int) us->ÿ us ns:=by
 induction ns with
 |nil=>intro us r;rw[μ]at r;cases r;exact .nil
 |cons n ns ih =>
  intro us r;rw[Ñ]at r;cases r with
  |cons r1 r2 =>obtain⟨t,e⟩:=r1;subst e;exact .cons n t<|ih r2
section
variable {X:Cx}{e:Expr}{te:TE}{lo hi:Option Expr}{tl th:TO}{ë p2:Pos}
def po_none:PO X ee GT:=by intro Â s σ H Q I h;rw[evalPart_none];exact Æ ⟨ee,H,I,.none,h⟩
def Fa(h:PE X e te):PO X (d9 e)<|QY te:=by intro Â s σ H Q I hw;rw[evalPart_some];refine thn (h Â s σ H _ I hw) λu s1 ⟨x,H1,I1,r1,q1⟩=>?_;obtain⟨i,rfl,q⟩:=q1;obtain⟨t,rfl⟩:=r1;exact⟨d9 i,H1,I1,.int i t,q⟩
abbrev SlR(X:Cx)(r:V->Option Int->Option Int->Hp->VK->Prop):Prop :=
 ∀(Â:List<|Í×Obj) (s:Å) (σ:St) (H:Hp) (x:V) (v vl vu:Ã) (lo hi:Option Int) (sl:Í) (Q:VK),Inv X Â σ H s->RelV x v->s.heap.IsSliceOf sl vl vu .none->ϛ vl lo->ϛ vu hi->r x lo hi H Q->
  ∃T id,typeLookup (.type T) "__getitem__" = pure (d9<|.builtin id)/\s.TypeIs v T/\wpAny (ß X.prog X.w) X.A (Ϛ v<|.ref sl) (EP X Â σ Q) X.xe s
variable {r:V->Option Int->Option Int->Hp->VK->Prop}
def SlR.or{r':V->Option Int->Option Int->Hp->VK->Prop}(h:SlR X r)(h':SlR X r'):SlR X λx lo hi H Q=>r x lo hi H Q\/r' x lo hi H Q:=by
 intro Â s σ H x v vl vu lo hi sl Q I rx hs pl pu q;rcases q with q|q
 .exact h Â s σ H x v vl vu lo hi sl Q I rx hs pl pu q
 .exact h' Â s σ H x v vl vu lo hi sl Q I rx hs pl pu q
abbrev tSl(r:V->Option Int->Option Int->Hp->VK->Prop)(te:TE)(tl th:TO):TE:=λσ H Q=>te σ H λx H1=>tl σ H1 λl H2=>th σ H2 λu H3=>r x l u H3 Q
def CO(hr:SlR X r)(he:PE X e te)(hl:PO X lo tl)(hu:PO X hi th):PE X (.Subscript e (.Slice lo hi ee p2) ë)<|tSl r te tl th:=by intro Â s σ H Q I h;refine Subscript_<|thn (he Â s σ H _ I h) λv s1 ⟨x,H1,I1,r1,q1⟩=>?_;refine wpAny_Slice<|thn (hl Â s1 σ H1 _ I1 q1) λvl s2 ⟨l,H2,I2,pl,q2⟩=>thn (hu Â s2 σ H2 _ I2 q2) λvu s3 ⟨u,H3,I3,pu,q3⟩=>?_;rw[evalPart_none];refine Æ ?_;have I4:Inv X Â σ H3 {s3 with heap:=s3.heap.push {cls:=.type "slice",data:=.fields #[vl,vu,.none]}}:=I3.kept (t':=s3.toks) λb ob q=>Ä _ q;obtain⟨T,id,hT,ht,hg⟩:=hr Â {s3 with heap:=s3.heap.push {cls:=.type "slice",data:=.fields #[vl,vu,.none]}} σ H3 x v vl vu l u s3.heap.objs.size Q I4 r1 (Heap.IsSliceOf.new ..) pl pu q3;show wpAny (ß X.prog X.w) X.A (cT e (.Slice lo hi ee p2) v<|.ref s3.heap.objs.size) (EP X Â σ Q) X.xe {s3 with heap:=s3.heap.push {cls:=.type "slice",data:=.fields #[vl,vu,.none]}};exact tail_any (ops:=[.ref s3.heap.objs.size,v]) ht hT hg (by with_unfolding_all rfl)
abbrev MT(xs:List V)(lo hi:Option Int):List V:=(xs.drop<|HT.sIx xs.length 0 lo).take<|HT.sIx xs.length xs.length hi - HT.sIx xs.length 0 lo
def WM(xs:List V)(lo hi:Option Int):(MT xs lo hi).length<=xs.length:=by unfold MT;rw[đ,Τ];lia
abbrev P4(K:Frag):V->Option Int->Option Int->Hp->VK->Prop:=λx lo hi H Q=>∃a xs,x=.ref a/\fQ K H a xs/\
 ¬ (HT.sIx xs.length 0 lo=0/\HT.sIx xs.length xs.length hi=xs.length)/\∀p,H p=ee->Q (.ref p) (upd H p<|.tup<|MT xs lo hi)
def fG:SlR X<|P4 X.K:=by
 intro Â s σ H x v vl vu lo hi sl Q I rx hs pl pu h;obtain⟨a,xs,rfl,hx,hw,q⟩:=h;cases rx;obtain⟨ô,r,ht,hz⟩:=I.tuple hx;have hlen:ô.toArray.size=xs.length:=by rw[Ï];exact r.length.symm
 refine⟨"tuple",_,PyProof.Rows.slot_tuple_getitem.lookup,ht.typeIs,?_⟩;refine HT.getItem_tuple_cut ht hs pl pu (by rw[hlen];exact hw) ?_ (by rw[hlen];exact hz);rw[hlen];refine⟨.ref s.heap.objs.size,_,I.laid (t':=s.toks) (o:=.tup<|MT xs lo hi) (λb ob q=>Ä _ q) (Ì _) ?_,rfl,q _<|I.hok.fresh<|Ì _⟩;exact⟨á (WM xs lo hi) hz,_,(r.drop<|HT.sIx xs.length 0 lo).take<|HT.sIx xs.length xs.length hi - HT.sIx xs.length 0 lo,IsTup.new _ _⟩
abbrev QB(K:Frag):R2:=λx y H Q=>∃a b ns ms,x=.ref a/\y=.ref b/\fQ K H a (ns.map V.int)/\fQ K H b (ms.map V.int)/\Q (.bl<|HT.lexLt ns ms) H
def PR(hu:X.A.units<Ĭ):OpR X (ì .Lt)<|QB X.K:=by intro Â s σ H x y v u Q I rx ry h;obtain⟨a,b,ns,ms,rfl,rfl,ha,hb,q⟩:=h;cases rx;cases ry;obtain⟨ô,r1,p1,_⟩:=I.tuple ha;obtain⟨aN,r2,p2,_⟩:=I.tuple hb;have i1:ÿ ô.toArray.toList ns:=ZI r1;have i2:ÿ aN.toArray.toList ms:=ZI r2;exact HT.lt_tupInts p1 p2 i1 i2 hu ⟨.bl<|HT.lexLt ns ms,H,I,rfl,q⟩
abbrev HM(K:Frag):R2:=λx y H Q=>∃a b xs ys,x=.ref a/\y=.ref b/\fQ K H a xs/\fQ K H b ys/\xs≠[]/\xs.length+ys.length<=Ý/\
 (ys=[]->Q (.ref a) H)/\(ys≠[]->∀p,H p=ee->Q (.ref p) (upd H p<|.tup<|xs++ys))
def fR.nil_iff{xs:List V}{us:List Ã}(r:fR xs us):us=[]↔xs=[]:=by
 cases r with
 |nil=>simp
 |cons _ _=>simp
def GC:OpR X (Ň .Add)<|HM X.K:=by intro Â s σ H x y v u Q I rx ry h;obtain⟨a,b,xs,ys,rfl,rfl,ha,hb,hx,hz,q1,q2⟩:=h;cases rx;cases ry;obtain⟨ô,r1,p1,_⟩:=I.tuple ha;obtain⟨aN,r2,p2,_⟩:=I.tuple hb;refine HT.cat_tup p1 p2 (λz=>hx<|r1.nil_iff.mp z) (λz=>⟨.ref a,H,I,rfl,q1<|r2.nil_iff.mp z⟩) (λz=>?_) (by rw[<-r1.length,<-r2.length];exact hz);refine⟨.ref s.heap.objs.size,_,I.laid (t':=s.toks) (o:=.tup<|xs++ys) (λb ob q=>Ä _ q) (Ì _) ?_,rfl,q2 (λw=>z<|r2.nil_iff.mpr w) _<|I.hok.fresh<|Ì _⟩;exact⟨by rw[ä];exact hz,_,r1.append r2,IsTup.new _ _⟩
end
abbrev ixN(n:Nat)(i:Int):Option Nat:=if 0<=i then(if i<n then d9 i.toNat else ee)else if -(n:Int)<=i then d9 (i+n).toNat else ee
variable {α:Type}
abbrev atI(xs:List α)(i:Int):Option α:=(ixN xs.length i).bind λj=>xs[j]?
variable {n:Nat} {i:Int}
def Nf{j:Nat}(h:ixN n i=d9 j):seqIndex? i n=d9 j/\j<n/\-(n:Int)<=i/\i<n:=by
 unfold ixN at h;by_cases h0:0<=i
 .rw[fZ h0]at h;by_cases h1:i<n
  .rw[fZ h1]at h;have e:i.toNat=j:=í h;exact⟨by rw[bp h0 h1,e],by lia,by lia,h1⟩
  .rw[f8 h1]at h;cases h
 .rw[f8 h0]at h;by_cases h1:-(n:Int)<=i
  .rw[fZ h1]at h;have e:(i+n).toNat=j:=í h;exact⟨by rw[aF (by lia) h1,e],by lia,h1,by lia⟩
  .rw[f8 h1]at h;cases h
def W0{xs:List α}{v:α}(h:atI xs i=d9 v):∃j,seqIndex? i xs.length=d9 j/\xs[j]?=d9 v/\j<xs.length/\-(xs.length:Int)<=i/\i<xs.length:=by
 unfold atI at h;cases e:ixN xs.length i with
 |none=>rw[e]at h;cases h
 |some j =>rw[e]at h;obtain⟨h1,h2,h3,h4⟩:=Nf e;exact⟨j,h1,h,h2,h3,h4⟩
abbrev MQ(b:Expr):Prop:=∀o i,subscripted b ei o i=operate [o,i] (Ϛ o i)
abbrev IxR(X:Cx)(r:R2):Prop :=
 ∀(ι slice:Expr) (Â:List<|Í×Obj) (s:Å) (σ:St) (H:Hp) (x y:V) (v u:Ã) (Q:VK),Inv X Â σ H s->RelV x v->RelV y u->r x y H Q->
  subscripted slice ei v u=operate [v,u] (Ϛ v u)->wpAny (ß X.prog X.w) X.A (cT ι slice v u) (EP X Â σ Q) X.xe s
abbrev MtR(X:Cx)(id:String)(r:V->List V->Hp->VK->Prop):Prop :=
 ∀(Â:List<|Í×Obj) (s:Å) (σ:St) (H:Hp) (x:V) (xs:List V) (v:Ã) (us:List Ã) (Q:VK),Inv X Â σ H s->RelV x v->fR xs us->r x xs H Q->
  wpAny (ß X.prog X.w) X.A (call (.builtin id)<|v::us) (EP X Â σ Q) X.xe s
section
variable {X:Cx}{a b:Expr}{ta tb:TE}{ë:Pos}
variable {r:R2}
def IxR.or{r':R2}(h:IxR X r)(h':IxR X r'):IxR X λx y H Q=>r x y H Q\/r' x y H Q:=by
 intro ι slice Â s σ H x y v u Q I rx ry q hs;rcases q with q|q
 .exact h ι slice Â s σ H x y v u Q I rx ry q hs
 .exact h' ι slice Â s σ H x y v u Q I rx ry q hs
def MtR.or{id:String}{r r':V->List V->Hp->VK->Prop}(h:MtR X id r)(h':MtR X id r'):MtR X id λx xs H Q=>r x xs H Q\/r' x xs H Q:=by
 intro Â s σ H x xs v us Q I rx rs q;rcases q with q|q
 .exact h Â s σ H x xs v us Q I rx rs q
 .exact h' Â s σ H x xs v us Q I rx rs q
def Qu(hr:IxR X r)(ha:PE X a ta)(hb:PE X b tb)(hs:MQ b):PE X (.Subscript a b ë)<|tOp r ta tb:=by intro Â s σ H Q I h;exact Subscript_ (LL ha hb I h λv u s2 x y H2 I2 rx ry q=>hr a b Â s2 σ H2 x y v u Q I2 rx ry q<|hs _ _)
abbrev D6(K:Frag):R2:=λx y H Q=>∃p xs i v,x=.ref p/\y=.int i/\fP K H p xs/\atI xs i=d9 v/\Q v H
abbrev Q0(K:Frag):R2:=λx y H Q=>∃p xs i v,x=.ref p/\y=.int i/\fQ K H p xs/\atI xs i=d9 v/\Q v H
abbrev QH:R2:=λx y H Q=>∃z i c,x=.str z/\y=.int i/\z.length<=Ý/\atI z.cps.toList i=d9 c/\Q (.str ⟨#[c]⟩) H
def ix_list:IxR X<|D6 X.K:=by
 intro ι slice Â s σ H x y v u Q I rx ry h hs;obtain⟨p,xs,i,z,rfl,rfl,hq,he,q⟩:=h;cases rx;obtain⟨t,rfl⟩:=ry;obtain⟨ô,r,pl,hz⟩:=I.list hq;obtain⟨j,h1,h2,h3,h4,h5⟩:=W0 he;obtain⟨w,ew,aO⟩:=r.get h2;have hl:=r.length;have hn:=Xd;have fin:EP X Â σ Q w s:=⟨z,H,I,aO,q⟩
 by_cases h0:0<=i
 .have hj:i.toNat=j:=by
   rw[bp h0 h5]at h1;exact í h1
  exact item_listR pl.isList h0 (by lia) (by rw[hj];simpa using ew) fin hs
 .have hj:(i+(ô.toArray.size:Int)).toNat=j:=by
   rw[aF (by lia) h4]at h1;rw[Ï,<-hl];exact í h1
  exact dP (x:=w) pl.isList.typeIs slot_list_getitem.lookup
   (dQ (Q:=λr s'=>r=w/\EP X Â σ Q r s') pl.isList (by lia) (by rw[Ï]<;>lia) (by lia) (by rw[hj];simpa using ew) ⟨rfl,fin⟩) hs
def eL:IxR X<|Q0 X.K:=by
 intro ι slice Â s σ H x y v u Q I rx ry h hs;obtain⟨p,xs,i,z,rfl,rfl,hq,he,q⟩:=h;cases rx;obtain⟨t,rfl⟩:=ry;obtain⟨ô,r,pl,hz⟩:=I.tuple hq;obtain⟨j,h1,h2,h3,h4,h5⟩:=W0 he;obtain⟨w,ew,aO⟩:=r.get h2;have hl:=r.length;have hn:=Xd;have fin:EP X Â σ Q w s:=⟨z,H,I,aO,q⟩
 exact dP (x:=w) pl.typeIs slot_tuple_getitem.lookup
  (getItem_tuple (j:=j) (Q:=λr s'=>r=w/\EP X Â σ Q r s') pl (by lia) (by lia) (by rw[Ï,<-hl];exact h1) (by simpa using ew) ⟨rfl,fin⟩) hs
def Iz:IxR X QH:=by
 intro ι slice Â s σ H x y v u Q I rx ry h hs;obtain⟨z,i,c,rfl,rfl,hz,he,q⟩:=h;obtain⟨t,rfl⟩:=rx;obtain⟨t',rfl⟩:=ry;obtain⟨j,h1,h2,h3,h4,h5⟩:=W0 he;have hl:z.cps.toList.length=z.length:=by simp[Str.length]
 rw[hl]at h1 h4 h5;have hn:=Xd;exact tail_any (typeIs_str s z t) slot_str_getitem.lookup (getItem_str (c:=c) (by
   have e1:gg (i < -(2 ^ 63:Int))=ei:=f9 (by lia)
   have e2:gg (i≥2 ^ 63)=ei:=f9 (by lia)
   rw[e1,e2,ϣ]) (by rw[h1];simpa using h2) ⟨.str ⟨#[c]⟩,H,I.tok _,⟨_,rfl⟩,q⟩) hs
abbrev rIx(K:Frag):R2:=λx y H Q=>D6 K x y H Q\/Q0 K x y H Q\/QH x y H Q
def ix_seq:IxR X<|rIx X.K:=ix_list.or (eL.or Iz)
def O1(ô:List Ã)(n j:Nat)(u:Ã):ω (·.setIfInBounds j u) {cls:=.type "list",data:=.seq ô.toArray n}={cls:=.type "list",data:=.seq (ô.set j u).toArray n}:=by simp[ω]
def Inv.lst{Â:List (Í×Obj)}{σ:St}{H:Hp}{s:Å}{p:Í}{xs:List V}(I:Inv X Â σ H s)(h:H p=d9 (.lst xs)) :
  ∃(ô:List Ã) (n:Nat),fR xs ô/\s.heap.get? p=d9 {cls:=.type "list",data:=.seq ô.toArray n}/\xs.length<=Ý:=by
 obtain⟨z,ô,n,r,e⟩:=I.hok p _ h;exact⟨ô,n,r,e,z⟩
variable {Â:List (Í×Obj)} {σ:St} {H:Hp} {s:Å}
def Inv.lstUpd{p:Í}{xs ys:List V}{ô its':List Ã}{n':Nat}{f:Obj->Obj}(I:Inv X Â σ H s)(h:H p=d9 (.lst xs))
  (ho:s.heap.get? p=d9 {cls:=.type "list",data:=.seq ô.toArray n}) (hf:f {cls:=.type "list",data:=.seq ô.toArray n}={cls:=.type "list",data:=.seq its'.toArray n'}) (r:fR ys its') (hz:ys.length<=Ý) (t:Nat) :
  Inv X Â σ (upd H p<|.lst ys) {s with heap:=s.heap.update p f,toks:=t}:=by
 have e:(s.heap.update p f).get? p=d9 {cls:=.type "list",data:=.seq its'.toArray n'}:=by rw[ė f ho (by rw[hf]<;>rfl),hf]
 refine I.write (x:=p) (e:=p) (by rw[h];trivial) (.inl rfl) (λb u hb q=>(ð _ _<|Ne.symm hb).trans q) ⟨_,e⟩ ?_;exact⟨hz,its',n',r,e⟩
abbrev H9:V->V->V->Hp->(Hp->Prop)->Prop:=λo i v H Q=>∃p xs k j,o=.ref p/\i=.int k/\H p=d9 (.lst xs)/\ixN xs.length k=d9 j/\Q (upd H p<|.lst<|xs.set j v)
def Nq:PSet X H9:=by
 intro Â s σ H o i v ov iv u Q I ro ri rv h;obtain⟨p,xs,k,j,rfl,rfl,hp,hj,q⟩:=h;cases ro;obtain⟨t,rfl⟩:=ri;obtain⟨ô,n,r,ho,hz⟩:=I.lst hp;obtain⟨h1,h2,h3,h4⟩:=Nf hj;have hl:=r.length;have hn:=Xd;have I':Inv X Â σ (upd H p<|.lst<|xs.set j v) {s with heap:=s.heap.update p (ω (·.setIfInBounds j u))} :=
  I.lstUpd hp ho (O1 ô n j u) (r.set rv j) (by rw[ϐ];exact hz) s.toks
 by_cases h0:0<=k
 .have hk:k.toNat=j:=by
   rw[bp h0 h4]at h1;exact í h1
  exact PySem.W.ki_setAt ho h0 (by lia) (by rw[Ï,<-hl];exact h4) (by rw[hk];exact⟨_,I',q⟩)
 .have hk:(k+(ô.toArray.size:Int)).toNat=j:=by
   rw[aF (by lia) h3]at h1;rw[Ï,<-hl];exact í h1
  exact PySem.W.ki_setBack ho (by lia) (by rw[Ï,<-hl];exact h3) (by lia) (by rw[hk];exact⟨_,I',q⟩)
def M9(lo hi:Option Int)(n:Nat):(ν lo hi ee n).1=((HT.sIx n 0 lo:Nat):Int)/\(ν lo hi ee n).2.1=((HT.sIx n n hi:Nat):Int)/\(ν lo hi ee n).2.2=1:=by
 refine⟨?_,?_,rfl⟩
 .cases lo with
  |none=>simp[ν,HT.sIx]
  |some i =>
   simp only[ν,HT.sIx,dk,show(1:Int) > 0 by decide,if_true];by_cases h:i<0
   .simp only[h,if_true]<;>lia
   .simp only[h,if_false]<;>lia
 .cases hi with
  |none=>simp[ν,HT.sIx]
  |some i =>
   simp only[ν,HT.sIx,dk,show(1:Int) > 0 by decide,if_true];by_cases h:i<0
   .simp only[h,if_true]<;>lia
   .simp only[h,if_false]<;>lia
def Ku(ô:List Ã)(lo hi:Option Int):slicePick ô.toArray lo hi ee=((ô.drop<|HT.sIx ô.length 0 lo).take<|HT.sIx ô.length ô.length hi - HT.sIx ô.length 0 lo).toArray:=by obtain⟨h1,h2,h3⟩:=M9 lo hi ô.toArray.size;unfold slicePick;rw[h1,h2,h3];simp only[sliceRange_one,pick_run,Ï]<;>rfl
abbrev QG(K:Frag):V->Option Int->Option Int->Hp->VK->Prop:=λx lo hi H Q=>∃a xs,x=.ref a/\fP K H a xs/\∀p,H p=ee->Q (.ref p) (upd H p<|.lst<|MT xs lo hi)
def sl_list:SlR X<|QG X.K:=by intro Â s σ H x v vl vu lo hi sl Q I rx hs pl pu h;obtain⟨a,xs,rfl,hx,q⟩:=h;cases rx;obtain⟨ô,r,ht,hz⟩:=I.list hx;have hlen:=r.length;refine⟨"list",_,slot_list_getitem.lookup,ht.isList.typeIs,?_⟩;refine wpAny_getItem_list_slice ht.isList hs pl pu .none (by simp) ?_ (by rw[Ï]<;>lia);rw[Ku,<-hlen];refine⟨.ref s.heap.objs.size,_,I.laid (t':=s.toks) (o:=.lst<|MT xs lo hi) (λb ob q=>Ä _ q) (Ì _) ?_,rfl,q _<|I.hok.fresh<|Ì _⟩;exact⟨á (WM xs lo hi) hz,_,0,(r.drop<|HT.sIx xs.length 0 lo).take<|HT.sIx xs.length xs.length hi - HT.sIx xs.length 0 lo,Õ _ rfl⟩
abbrev eqV:V->V->Bool
 |.non,.non=>eh
 |.bl a,.bl b=>a==b
 |.bl a,.int b=>(if a then 1 else 0)==b
 |.int a,.bl b=>a==(if b then 1 else 0)
 |.int a,.int b=>a==b
 |.str a,.str b=>a==b
 |_,_=>ei
abbrev inV(x:V)(xs:List V):Bool:=xs.any λy=>eqV y x
def Mo:OpR X (ì .NotIn) λx y H Q=>∃i j,x=.str i/\y=.str j/\Q (.bl (!(!(Builtin.Str.occurrences j i 0 j.length 1).isEmpty))) H:=by intro Â s σ H x y v u Q I rx ry h;obtain⟨i,j,rfl,rfl,q⟩:=h;obtain⟨t,rfl⟩:=rx;obtain⟨t',rfl⟩:=ry;exact notIn_str ⟨.bl _,H,I,rfl,q⟩
def call_len_seq:eN X (.builtin "len") λxs H Q=>∃p ys,xs=[.ref p]/\(fP X.K H p ys\/fQ X.K H p ys)/\Q (.int ys.length) H:=by
 intro Â s σ H xs us Q I r h;obtain⟨p,ys,rfl,hq,q⟩:=h;obtain⟨u,rfl,rx⟩:=ZQ r;cases rx;have hn:=Xd;rcases hq with hq|hq
 .obtain⟨ô,r',pl,hz⟩:=I.list hq;have hlen:=r'.length;exact Calls.call_len_list pl.isList (by simp only[Ï]<;>lia) ⟨.int ys.length,H,I.tok _,⟨s.toks+1,by rw[Ï,hlen]⟩,q⟩
 .obtain⟨ô,r',pl,hz⟩:=I.tuple hq;have hlen:=r'.length;exact len_tuple pl (by simp only[Ï]<;>lia) ⟨.int ys.length,H,I.tok _,⟨s.toks+1,by rw[Ï,hlen]⟩,q⟩
def Mu:eN X (.builtin "len") λxs H Q=>∃z,xs=[.str z]/\z.length<=Ý/\Q (.int z.length) H:=by intro Â s σ H xs us Q I r h;obtain⟨z,rfl,hz,q⟩:=h;obtain⟨u,rfl,t,rfl⟩:=ZQ r;have hn:=Xd;exact len_str (by lia) ⟨.int z.length,H,I.tok _,⟨_,rfl⟩,q⟩
def eN.or{f:Ã}{r r':List V->Hp->VK->Prop}(h:eN X f r)(h':eN X f r'):eN X f λxs H Q=>r xs H Q\/r' xs H Q:=by
 intro Â s σ H xs us Q I rs q;rcases q with q|q
 .exact h Â s σ H xs us Q I rs q
 .exact h' Â s σ H xs us Q I rs q
def MP:eN X (.type "list") λxs H Q=>∃p ys,xs=[.ref p]/\(fP X.K H p ys\/fQ X.K H p ys)/\∀l,H l=ee->Q (.ref l) (upd H l<|.lst ys):=by
 intro Â s σ H xs us Q I r h;obtain⟨p,ys,rfl,hq,q⟩:=h;obtain⟨u,rfl,rx⟩:=ZQ r;cases rx;have fin:∀(ô:List Ã),fR ys ô->ys.length<=Ý->∀(h':Ć) (c':Nat),(∀b o',s.heap.get? b=d9 o'->h'.get? b=d9 o')->
   h'.get? s.heap.objs.size=d9 {cls:=.type "list",dict:=ee,data:=.seq ô.toArray c',slots:=#[]}->EP X Â σ Q (.ref s.heap.objs.size) {s with heap:=h'}:=λô r' hz h' c' kp e =>
  ⟨.ref s.heap.objs.size,_,I.laid (t':=s.toks) kp (Ì _) (show eP X.prog X.w _ h' _ (.lst ys) from ⟨hz,ô,c',r',e⟩),rfl,q _<|I.hok.fresh<|Ì _⟩
 rcases hq with hq|hq
 .obtain⟨ô,r',pl,hz⟩:=I.list hq;have hlen:=r'.length;obtain⟨o,ho,hc,n,hd⟩:=pl.isList;exact call_list_seq p (.inl rfl) ho hc hd (λh' c' kp e=>fin ô r' hz h' c' kp e) (by simp only[Ï]<;>lia)
 .obtain⟨ô,r',pl,hz⟩:=I.tuple hq;have hlen:=r'.length;obtain⟨o,ho,hc,n,hd⟩:=pl;exact call_list_seq p (.inr rfl) ho hc hd (λh' c' kp e=>fin ô r' hz h' c' kp e) (by simp only[Ï]<;>lia)
def Kw:eN X (.type "tuple") λxs H Q=>∃p ys,xs=[.ref p]/\((fP X.K H p ys/\∀l,H l=ee->Q (.ref l) (upd H l<|.tup ys))\/(fQ X.K H p ys/\Q (.ref p) H)):=by
 intro Â s σ H xs us Q I r h;obtain⟨p,ys,rfl,h⟩:=h;obtain⟨u,rfl,rx⟩:=ZQ r;cases rx;rcases h with⟨hq,q⟩|⟨hq,q⟩
 .obtain⟨ô,r',pl,hz⟩:=I.list hq;have hlen:=r'.length;refine call_tuple_list pl.isList (λh' kp=>?_) (by simp only[Ï]<;>lia);have I1:Inv X Â σ H {s with heap:=h'}:=I.kept (t':=s.toks) kp;have I2:Inv X Â σ (upd H h'.objs.size<|.tup ys) {s with heap:=h'.push {cls:=.type "tuple",data:=.seq ô.toArray}} :=
   I1.laid (t':=s.toks) (λb o e=>Ä _ e) (Ì _) (show eP X.prog X.w _ _ _ (.tup ys) from ⟨hz,ô,r',IsTup.new _ _⟩)
  exact⟨.ref h'.objs.size,_,I2,rfl,q _<|I1.hok.fresh<|Ì _⟩
 .obtain⟨ô,r',pl,hz⟩:=I.tuple hq;exact call_tuple_same pl ⟨.ref p,H,I,rfl,q⟩
abbrev tyV(K:Frag)(T:String)(x:V)(H:Hp):Prop:=match x with
 |.str _=>T = "str"
 |.int _=>T = "int"
 |.ref p=>(T = "list"/\∃xs,fP K H p xs)\/(T = "tuple"/\∃o,K.lookup p=d9 o/\o.cls=.type "tuple"/\o.dict=ee)\/
   (T = "dict"/\((∃kvs,H p=d9 (.dK kvs))\/∃kvs,H p=d9 (.dT kvs)))\/(T = "set"/\∃S n,H p=d9 (.set S n))
 |_=>False
def Pz{T:String}{x:V}{v:Ã}(I:Inv X Â σ H s)(r:RelV x v)(ty:tyV X.K T x H) :
  s.TypeIs v T/\∀a,v=.ref a->∃ob,s.heap.get? a=d9 ob/\ob.dict=ee:=by
 cases x with
 |str z =>obtain⟨t,rfl⟩:=r;cases (show T = "str" from ty);exact⟨typeIs_str s z t,λ_ e=>nomatch e⟩
 |int i =>obtain⟨t,rfl⟩:=r;cases (show T = "int" from ty);exact⟨typeIs_int s i t,λ_ e=>nomatch e⟩
 |ref p =>
  cases r;rcases ty with⟨rfl,xs,hq⟩|⟨rfl,o,hk,hc,hd⟩|⟨rfl,hk⟩|⟨rfl,S,n,hk⟩
  .obtain⟨ô,_,pl,_⟩:=I.list hq;refine⟨pl.isList.typeIs,λa e=>?_⟩;cases e;obtain⟨o,n,e,c,hd,_⟩:=pl;exact⟨o,e,hd⟩
  .refine⟨⟨o,I.kIn p o hk,hc⟩,λa e=>?_⟩;cases e;exact⟨o,I.kIn _ o hk,hd⟩
  .have z:∃o,s.heap.get? p=d9 o/\o.ExactDict:=by
    rcases hk with⟨kvs,hk⟩|⟨kvs,hk⟩
    .obtain⟨_,_,_,_,o,_,_,e,ex,_⟩:=I.hok p _ hk;exact⟨o,e,ex⟩
    .obtain⟨_,_,_,_,o,_,_,e,ex,_⟩:=I.hok p _ hk;exact⟨o,e,ex⟩
   obtain⟨o,e,ex⟩:=z;refine⟨⟨o,e,ex.1⟩,λa e2=>?_⟩;cases e2;exact⟨o,e,ex.2.1⟩
  .obtain⟨o,_,_,_,e,ex,_⟩:=I.hok p _ hk;refine⟨⟨o,e,ex.1⟩,λa e2=>?_⟩;cases e2;exact⟨o,e,ex.2.1⟩
 |_=>exact ń ty
abbrev tBM(K:Frag)(T:String)(r:V->List V->Hp->VK->Prop)(to:TE)(t:TA):TE:=λσ H Q=>to σ H λx H1=>tyV K T x H1/\t σ H1 λxs H2=>r x xs H2 Q
variable {o e:Expr}{es:List Expr}{to:TE}{t:TA}{name:Str}{Ŏ ş:Pos}{T id:String}{r:V->List V->Hp->VK->Prop}
def RP(pa:PlainAttrs T)(slot:Slot T name id)(hty:typeOf (.builtin id)=pure (.type "method_descriptor"))(hm:MtR X id r)(ho:PE X o to)(ha:PA X (e::es) t)
  (aw:Ħ o name X.env (eval o X.env)=eval o X.env:=by rfl)
  (aa:((Ĥ ş<|Þ (e::es) X.env).all (λx=>!x.1)&&(ź ş<|ŉ [] X.env).all (λx=>x.1.isSome)
    && gg ((e::es).length+([]:List aG).length+(if([]:List aG).isEmpty then 0 else 1)<30))=eh:=by rfl)
  (ax:(Ŏ.endLine==ş.line)=eh:=by rfl) (hs:Þ (e::es) X.env=(ei,eval e X.env)::Þ es X.env:=by rfl) (cy:(Ĥ ş<|Þ es X.env).any (·.1)=ei:=by rfl) :
  PE X (.Call (.Attribute o name Ŏ) (e::es) [] ş) (tBM X.K T r to t):=by
 intro Â s σ H Q I h;refine wpAny_Call_method_late aw aa ax rfl<|thn (ho Â s σ H _ I h) λv s1 ⟨x,H1,I1,r1,ty,q1⟩=>?_;obtain⟨h1,h2⟩:=Pz I1 r1 ty;refine⟨T,id,pa,slot,hty,h1,h2,?_⟩;have hA:=ha ş Â s1 σ H1 _ I1 q1;rw[hs]at hA ⊢;refine Calls.callWith_builtin (by show(ei||(Ĥ ş<|Þ es X.env).any (·.1))=ei;rw[cy]<;>rfl)<|Calls.evalArgs_plain ?_;exact thn hA λus s2 ⟨vs,H2,I2,r2,q2⟩=>hm Â s2 σ H2 x vs v us Q I2 r1 r2 q2
/- xs.append(e),list.index on a module's tuple .. are MtR facts of 06m -/
end
abbrev MtM(X:Cx)(id:String)(r:V->List V->Hp->VK->Prop):Prop :=
 ∀(Â:List<|Í×Obj) (s:Å) (σ:St) (H:Hp) (x:V) (xs:List V) (v:Ã) (us:List Ã) (Q:VK),Inv X Â σ H s->RelV x v->fR xs us->r x xs H Q->
  wpAny (ß X.prog X.w) X.A (call (.builtin id)<|v::us) (EP X Â σ Q) X.xe s
variable {x:V} {us:List Ã}
def fR.one(r:fR [x] us):∃u,us=[u]/\RelV x u:=ZQ r
def fR.two{y:V}(r:fR [x,y] us):∃u v,us=[u,v]/\RelV x u/\RelV y v:=Ai r
def fR.eraseIdx:∀{xs:List V}{us:List Ã}(i:Nat),fR xs us->fR (xs.eraseIdx i) (us.eraseIdx i)
 |_,_,_,.nil=>.nil
 |_,_,0,.cons _ t=>t
 |_,_,i+1,.cons r t=>.cons r<|fR.eraseIdx i t
def fR.rep{xs:List V}{us:List Ã}(h:fR xs us):∀k:Nat,fR (Û k xs).flatten (Û k us).flatten
 |0=>.nil
 |k+1=>by rw[Ċ,Ċ,Ń,Ń];exact fR.append h<|fR.rep h k
def Mg{α:Type}:∀(l:List α) (i:Nat),(l.eraseIdx i).length<=l.length
 |[],_=>Ì _
 |_::_,0=>Ņ _
 |_::r,i+1=>Χ<|Mg r i
def KZ(ô:List Ã):∀(k:Nat) (Ė:List Ã),
  dm (λx1 x2=>x1++x2) Ė.toArray (Û k ô.toArray)=(Ė++(Û k ô).flatten).toArray
 |0,Ė=>by simp
 |k+1,Ė=>by
  have e:Ė.toArray++ô.toArray=(Ė++ô).toArray:=by simp
  have e2:(Ė++ô)++(Û k ô).flatten=Ė++(Û (k+1) ô).flatten:=by rw[Ċ,Ń,Ĕ]
  rw[<-e2,<-KZ ô k (Ė++ô),<-e,Ċ,İ]
section
variable {X:Cx}{Â:List (Í×Obj)}{σ:St}{H:Hp}{s:Å}{l b:Í}{xs ys zs:List V}
variable {ô:List Ã} {n:Nat} {t':Nat}
def Inv.lset{its':List Ã}{f:Array Ã->Array Ã}(I:Inv X Â σ H s)(hH:H l=d9 (.lst xs))
  (e:s.heap.get? l=d9 {cls:=.type "list",data:=.seq ô.toArray n}) (hf:f ô.toArray=its'.toArray) (hv:fR ys its') (hz:ys.length<=Ý) :
  Inv X Â σ (upd H l<|.lst ys) {s with heap:=s.heap.update l<|ω f,toks:=t'}:=by
 have q:=PySem.IsL.update e f;rw[hf]at q;refine I.write (x:=l) (e:=l) (by rw[hH];exact trivial) (.inl rfl) (λb' u hb hu=>(ð s.heap (ω f)<|Ne.symm hb).trans hu) ⟨_,q⟩ ?_;exact⟨hz,its',_,hv,q⟩
def Inv.lnew(I:Inv X Â σ H s)(hv:fR ys ô)(hz:ys.length<=Ý) :
  Inv X Â σ (upd H s.heap.objs.size<|.lst ys) {s with heap:=s.heap.push {cls:=.type "list",data:=.seq ô.toArray},toks:=t'} :=
 I.laid (λ_ _ q=>Ä _ q) (Ì _) ⟨hz,ô,0,hv,Õ _ rfl⟩
def Inv.fresh(I:Inv X Â σ H s):H s.heap.objs.size=ee:=I.hok.fresh (Ì _)
def Inv.lstM(I:Inv X Â σ H s)(hH:H l=d9 (.lst xs)):xs.length<=Ý/\∃(ô:List Ã) (n:Nat),fR xs ô/\xs.length=ô.length/\s.heap.get? l=d9 {cls:=.type "list",data:=.seq ô.toArray n}:=by obtain⟨z,ô,n,r,e⟩:=I.hok l _ hH;exact⟨z,ô,n,r,r.length,e⟩
def CY(h:n<=Ý):Builtin.List.listTooLong n=ei:=by unfold Builtin.List.listTooLong;exact f9 (by lia)
end
section
variable {X:Cx}
abbrev UY:V->List V->Hp->VK->Prop:=λx vs H Q=>∃l xs y,x=.ref l/\vs=[y]/\H l=d9 (.lst xs)/\xs.length<Ý/\Q .non (upd H l<|.lst<|xs++[y])
def BA:MtM X "list.append" UY:=by intro Â s σ H x vs v us Q I rx rv h;obtain⟨l,xs,y,rfl,rfl,hH,hz,q⟩:=h;cases rx;obtain⟨u,rfl,ru⟩:=rv.one;obtain⟨z,ô,n,r,hl,e⟩:=I.lstM hH;refine al F.slot_list_append ⟨_,e,rfl⟩ F.entry_list_append (F.args_list_append_2 _ _) (PySem.list_append l ô.toArray n u<|by rw[Ï];lia) ⟨e,?_⟩;refine⟨.non,_,I.lset (its':=ô++[u]) hH e (by simp) (r.append<|.cons ru .nil) ?_,rfl,q⟩;rw[ä,List.length_singleton];lia
abbrev Cp:V->List V->Hp->VK->Prop:=λx vs H Q=>∃l xs i k y,x=.ref l/\vs=[.int i]/\H l=d9 (.lst xs)/\-(2 ^ 63)<=i/\i<2 ^ 63/\seqIndex? i xs.length=d9 k/\xs[k]?=d9 y/\Q y (upd H l<|.lst<|xs.eraseIdx k)
def C5:MtM X "list.pop" Cp:=by
 intro Â s σ H x vs v us Q I rx rv h;obtain⟨l,xs,i,k,y,rfl,rfl,hH,h1,h2,hk,hy,q⟩:=h;cases rx;obtain⟨u,rfl,ru⟩:=rv.one;obtain⟨t,rfl⟩:=ru;obtain⟨z,ô,n,r,hl,e⟩:=I.lstM hH;obtain⟨w,hw,aO⟩:=r.get hy;refine al F.slot_list_pop ⟨_,e,rfl⟩ F.entry_list_pop (F.args_list_pop_2 _ _)
  (MeetsSeq.list_pop_at l ô.toArray n i t k w (fitsIndex_both h1 h2) (by rw[Ï,<-hl];exact hk) (by rw[<-ă];exact hw)<|by rw[Ï];lia) ⟨e,?_⟩
 refine⟨y,_,I.lset (its':=ô.eraseIdx k) hH e ?_ (r.eraseIdx k) ?_,aO,q⟩
 .show ô.toArray.eraseIdxIfInBounds k=(ô.eraseIdx k).toArray;rw[List.eraseIdxIfInBounds_toArray]
 .have:=Mg xs k;lia
abbrev RG:R2:=λx y H Q=>∃l b xs zs,x=.ref l/\y=.ref b/\H l=d9 (.lst xs)/\H b=d9 (.lst zs)/\xs.length+zs.length<=Ý/\∀p,H p=ee->Q (.ref p) (upd H p<|.lst<|xs++zs)
def Ie:OpR X (Ň .Add) RG:=by
 intro Â s σ H x y v u Q I rx ry h;obtain⟨l,b,xs,zs,rfl,rfl,hH,hB,hz,q⟩:=h;cases rx;cases ry;obtain⟨z,ô,n,r,hl,e⟩:=I.lstM hH;obtain⟨z2,aN,n2,r2,hl2,e2⟩:=I.lstM hB;refine PySem.P.add_list e e2 ?_ (by rw[Ï,Ï];lia);have ea:ô.toArray++aN.toArray=(ô++aN).toArray:=by simp
 rw[ea];exact⟨.ref _,_,I.lnew (t':=s.toks) (r.append r2) (by rw[ä];lia),rfl,q _ I.fresh⟩
abbrev RX:R2:=λx y H Q=>∃l k xs,x=.ref l/\y=.int k/\H l=d9 (.lst xs)/\-(2 ^ 63)<=k/\k<2 ^ 63/\xs.length*k.toNat<=Ý/\
 ∀p,H p=ee->Q (.ref p) (upd H p<|.lst (Û k.toNat xs).flatten)
def GJ{α:Type}(xs:List α)(k:Nat):(Û k xs).flatten.length=k*xs.length:=by
 induction k with
 |zero=>simp
 |succ k ih=>rw[Ċ,Ń,ä,ih,Nat.succ_mul,Nat.add_comm]
def op_rep:OpR X (Ň .Mult) RX:=by
 intro Â s σ H x y v u Q I rx ry h;obtain⟨l,k,xs,rfl,rfl,hH,h1,h2,hz,q⟩:=h;cases rx;obtain⟨t,rfl⟩:=ry;obtain⟨z,ô,n,r,hl,e⟩:=I.lstM hH;have hlen:ô.toArray.size*k.toNat<=Ý:=by rw[Ï,<-hl];exact hz
 have hcap:¬ ô.toArray.size*k.toNat > (2 ^ 63 - 1) / 8:=by
  have:(Ý:Nat)<=(2 ^ 63 - 1) / 8:=by decide
  lia
 have hfit:¬ (!Builtin.List.listFitsIndex k)=eh:=by rw[fitsIndex_both h1 h2];exact ù
 have hlong:¬ Builtin.List.listTooLong (ô.toArray.size*k.toNat)=eh:=by rw[CY hlen];exact ù
 have hnew:dm (λx1 x2=>x1++x2) #[] (Û (if ô.toArray.isEmpty=eh then 0 else k.toNat) ô.toArray)=(Û k.toNat ô).flatten.toArray:=by
  have f0:∀m:Nat,dm (λx1 x2=>x1++x2) #[] (Û m ô.toArray)=(Û m ô).flatten.toArray:=λm=>by have:=KZ ô m [];rw[aC]at this;exact this
  rw[f0];cases ô with
  |nil=>simp
  |cons a r'=>rw[f8<|by simp]
 refine wpAny_binaryOp_repeat_ref (T:="list") (U:="int") (by decide) ⟨_,e,rfl⟩ (λs'=>typeIs_int s' k t) noFill_list_mul F.fills_int_mul F.slot_int_rmul repeat_list F.slot_int_index.lookup
  (al F.slot_int_rmul (typeIs_int s k t) F.entry_int_rmul (F.args_int_rmul_2 _ _) (int___rmul___int_list k t l ô.toArray n)
    ⟨e,rfl,⟨_,e,rfl⟩,al F.slot_list_mul ⟨_,e,rfl⟩ F.entry_list_mul (F.args_list_mul_2 _ _) (AutoListH.list___mul___list_int_3 l ô.toArray n k t hfit hcap hlong) ⟨e,?_⟩⟩)
 rw[hnew];exact⟨.ref _,_,I.lnew (t':=s.toks) (r.rep k.toNat) (by rw[GJ,cb];exact hz),rfl,q _ I.fresh⟩
end
end L2
namespace Att
open PySem PySem.W PySem.Calls PyProof.Rows
variable {P:Params} {h:Ć}
def WW:∀(ns:List Int) (vs:List Ã),WellAll P h vs (ns.map WData.int)->ÿ vs ns:=by
 intro ns;induction ns with
 |nil =>intro vs w;rw[μ]at w;cases w;exact .nil
 |cons n ns ih =>
  intro vs w;rw[Ñ]at w;cases w with
  |cons a b =>cases a;exact .cons _ _<|ih _ b
variable {l:OpenLaw} {n:Nat}
def Au(hn:l.most=d9 n){args:List WData}{vals:List Ã}
  (hpre:l.row.toRowW.claim.pre args=eh) (hwl:WellAll P h vals args) :
  ∃a vs ns,vals=[Value.ref a]/\args=[WData.list<|ns.map WData.int]/\h.get? a=d9 {cls:=.type "list",data:=.seq vs.toArray}/\ÿ vs ns/\ns.length<=n:=by
 have hsh:WShape.hasAll [] args [.list .int]=eh:=(pre_splitW hpre).1;have hc:l.pre.holds [] {args:=args}=eh:=(pre_splitW hpre).2;obtain⟨d,r,rfl,h1,h2⟩:=hasAllW_cons hsh;obtain rfl:=hasAllW_nil h2;obtain⟨xs,rfl,h3⟩:=hasW_list h1;obtain⟨ns,rfl⟩:=items_int h3;have hlen:ns.length<=n:=by
  unfold OpenLaw.pre at hc;have h4:(WTm.not<|.lt (.lit<|.int (n:Int))<|.len<|.arg 0).holds [] {args:=[.list<|ns.map .int]}=eh:=by have h4:=(holds_andW hc).1;rw[hn]at h4;exact h4
  have h5:=condW_of h4<|w_not<|w_lt w_lit<|w_len_list<|w_arg rfl;rw[Á]at h5;refine Nat.le_of_not_lt λq=>?_;have q':(n:Int)<((ns.length:Nat):Int):=by lia
  first
   |(rw[gb q']at h5;exact gf h5<|by decide)
   |(simp at h5;lia)
 cases hwl with
 |cons w1 w2 =>
  cases w2;cases w1 with
  |list ho hall=>exact⟨_,_,ns,rfl,rfl,ho,WW ns _ hall,hlen⟩
def Aw(l:OpenLaw)(args:List WData):l.row.toRowW.claim.post args (.bool eh) args=eh :=
 postW_of (r:=l.row.toRowW) (X:=(eh==eh))
  (show WShape.has [] (.bool eh) .bool=eh by first|rfl|decide|simp[WShape.has,WShape.arms,WShape.armsAll])
  (show(WTm.eq .res<|.lit<|.bool eh).value [] {args:=args,res:=d9<|.bool eh,after:=args}=d9 (.bool<|eh==eh) from w_eq_bool (w_res rfl) w_lit) rfl
def attach_call{q:å}{loose:List Str}{XP:(Str->Option Ã)->Ć->Prop}{YP:ø->Ć->Prop}{d:DefRec}
  (hn:l.most=d9 n) (hdf:d.params.defaults=[])
  (call:∀(w:ø) (s₀ ě:Å) (mg mb:Str->Option Ã) (fa:Í) (o:Obj) (pm cd doc:Ã) (a:Í) (vs:List Ã) (ns:List Int),
    Ground q loose [] XP w s₀ mg mb ě.heap->YP w ě.heap->
    ě.heap.get? fa=d9 o->o.data=.func (docDef d.name d.params d.body d.scope pm cd doc)->ě.heap.CodeRec cd d.name->mg d.name=d9 (.ref fa)->
    ě.heap.get? a=d9 {cls:=.type "list",data:=.seq vs.toArray}->ÿ vs ns->ns.length<=n->ě.gens=#[]->
    codeAny (ß l.prog w) ϲ (.call (.ref fa) ⟨[.ref a],[]⟩) (λr s'=>r=.ok (.ret<|.bool eh)/\OldK ě.heap s'.heap/\s'.os=ě.os/\Ω s'.gens) ě) :
  WalkO q loose XP YP l.row.toRowW d [] (λf vs=>PySem.call f vs):=by
 intro w s₀ ě mg mb G Y fa o pm cd doc dV kV ho hd aU hD hmg hg args vals as hpre hlay hrd hwl hlo;obtain rfl:dV=.none:=Dflts.none hD hdf;obtain rfl:kV=.none:=Dflts.noKw hD;obtain⟨a,vs,ns,rfl,rfl,bg,hints,hlen⟩:=Au hn hpre hwl;refine enter_call<|Ź (call w s₀ ě mg mb fa o pm cd doc a vs ns G Y ho (fd_plain hd) aU hmg bg hints hlen hg) λr s' hq=>?_;obtain⟨rfl,h2,h3,h4⟩:=hq;exact⟨.inl ⟨.bool eh,.bool eh,[],rfl,λ_=>rfl,.bool eh,Aw l _,λ_=>⟨List.Pairwise.nil,λ_ hm=>(nomatch hm)⟩⟩,h2,h3,h4⟩
end Att
namespace L2
open PySem PySem.Spec PyProof.Rows
def WF:∀{vs:List Ã}{ns:List Int},ÿ vs ns->fR (ns.map V.int) vs
 |_,_,.nil=>.nil
 |_,_,.cons n t h=>.cons ⟨t,rfl⟩<|WF h
abbrev LI(H:Hp):Prop:=∀b,H b=ee\/∃o xs,H b=d9 (.frz o<|.lst xs)
def Ef{P:å}{w:ø}{K:Frag}{mg mb:Str->Option Ã}{CX:CXT}{k:Nat}{fa a:Í}{fd:ň}{x:Str}{sp:Sp}{ě:Å}{vs:List Ã}{ns:List Int}
  (KX:K.In ě.heap) (hns:ě.heap.Ns ą mg) (hb:ě.heap.Ns builtinsNs mb) (hbb:∀x:Str,x≠"__name__"->mb x=ť x) (hlim:ě.heap.NoLimit) (hg:ě.gens=#[])
  (ha:ě.heap.get? a=d9 {cls:=.type "list",data:=.seq vs.toArray}) (hi:ÿ vs ns) (hl:ns.length<=Ý) (hr:fi k ϲ)
  (F:∀base:Ć,K.In base->base.Ns ą mg->fj P w K mg base CX k fa fd [x] sp) (hbind:∀(s:Å) (u:Ã),BindsTo s fd ⟨[u],[]⟩ [(x,u)])
  (hsp:∀H:Hp,LI H->fP K H a (ns.map V.int)->sp [.ref a] H (λv _=>v=.bl eh) λ_ _ _=>False)
  (hCX:∀H e s',CX [] H ě (λ_ _ _=>False) e s'->False) :
  codeAny (ß P w) ϲ (.call (.ref fa) ⟨[.ref a],[]⟩) (λr s'=>r=.ok (.ret<|.bool eh)/\OldK ě.heap s'.heap/\s'.os=ě.os/\Ω s'.gens) ě:=by
 have rv:=WF hi;have fB:=hi.length;have core:∀H:Hp,LI H->fP K H a (ns.map V.int)->HOk P w H ě.heap->(∀b,H b≠ee->b=a)->(H a≠ee->K.lookup a=ee)->
   codeAny (ß P w) ϲ (.call (.ref fa) ⟨[.ref a],[]⟩) (λr s'=>r=.ok (.ret<|.bool eh)/\OldK ě.heap s'.heap/\s'.os=ě.os/\Ω s'.gens) ě:=by
  intro H hO hS hok hA hK;have cN:∀{b:Í}{o:Obj},ě.heap.get? b=d9 o->H b=ee->(Mq ě.heap H).get? b=d9 o:=λe n=>El e n;have noA:∀{b:Í}{o:Obj}{es:Array DictEntry}{ep:Nat},ě.heap.get? b=d9 o->o.data=.dict es ep->H b=ee:=λ{b o es ep} e d=>by
   cases q:H b with
   |none=>rfl
   |some u =>have e':b=a:=hA b (by rw[q];simp);subst e';rw[ha]at e;cases e;have d':Data.seq vs.toArray _=Data.dict es ep:=d;cases d'
  have nsK:∀{b:Í}{m:Str->Option Ã},ě.heap.Ns b m->(Mq ě.heap H).Ns b m:=λ{b m} ⟨o,es,ep,e,d,r⟩=>⟨o,es,ep,cN e<|noA e d,d,r⟩
  have hKb:K.In<|Mq ě.heap H:=λb o e=>cN (KX b o e) (by
    cases q:H b with
    |none=>rfl
    |some u =>
      have e':b=a:=hA b (by rw[q];simp)
      subst e'
      rw[hK<|by rw[q];simp]at e;cases e)
  have hM:Mod K mg<|Mq ě.heap H:=⟨hKb,nsK hns,⟨mb,nsK hb,hbb⟩,let ⟨mc,h1,h2⟩:=hlim;⟨mc,nsK h1,h2⟩⟩
  have e0:Env0 P w K mg (Mq ě.heap H) ϲ [] ě H:=⟨rfl,hM,λb o e=>Fj e,Nat.le_of_eq<|AS _ _,trivial,λb hb=>gf (show b∈([]:List Í) from hb) (by simp),hok,.of_eq hg⟩
  refine Ź ((F _ hKb<|nsK hns).run ϲ [] ě H ⟨[.ref a],[]⟩ [.ref a] [.ref a] _ _ hr e0 (hbind ě<|.ref a) (.cons rfl .nil)<|hsp H hO hS) λr s' h=>?_;cases r with
  |error e=>exact(hCX H e s' h).elim
  |ok fl =>
   cases fl with
   |next=>exact ń h
   |brk=>exact ń h
   |cont=>exact ń h
   |ret u =>
    obtain⟨v,H',os,bare,un,hok',r',q⟩:=h;have q':v=.bl eh:=q;subst q';obtain rfl:u=Value.bool eh:=r';refine⟨rfl,OldK.of_keep λb o e=>?_,os,bare⟩;cases q:H b with
    |none=>exact un.keep b o e q (by intro z;exact gf (show b∈([]:List Í) from z)<|by simp) (by simp)
    |some u =>
     rcases hO b with z|⟨ob,xs,z⟩
     .rw[q]at z;cases z
     .have z2:=un.frzs b ob _ z;obtain⟨e1,_⟩:=hok b _ z;obtain⟨e2,_⟩:=hok' b _ z2;rw[e]at e1;cases e1;exact e2
 cases hk:K.lookup a with
 |some o =>have e:=KX a o hk;rw[ha]at e;cases e;refine core (λ_=>ee) (λ_=>.inl rfl) (.inr ⟨_,vs.toArray,_,hk,rfl,rfl,rfl,by rw[Ï,fB];exact hl,by simpa using rv⟩) (λb u z=>by have z':(ee:Option HO)=d9 u:=z;cases z') (λb z=>gf rfl z) λz=>gf rfl z
 |none =>
  refine core (λb=>if b=a then d9 (.frz {cls:=.type "list",data:=.seq vs.toArray}<|.lst<|ns.map V.int)else ee) (λb=>?_) (.inl<|.inr ⟨{cls:=.type "list",data:=.seq vs.toArray},fZ rfl⟩) (λb u z=>?_) (λb z=>?_) λ_=>hk
  .by_cases hb:b=a
   .exact .inr ⟨_,_,fZ hb⟩
   .exact .inl<|f8 hb
  .by_cases hb:b=a
   .have z':=(fZ hb).symm.trans z;cases z';subst hb;exact⟨ha,by rw[Á];exact hl,vs,_,rv,ha⟩
   .have z':=(f8 hb).symm.trans z;cases z'
  .by_cases hb:b=a
   .exact hb
   .exact gf (f8 hb) z
abbrev YN(s:ļ):Arguments:=match s with
 |.FunctionDef _ a _ _ _ _ _ _ _ _=>a
 |_=>{posonlyargs:=[],args:=[],vararg:=ee,kwonlyargs:=[],kw_defaults:=[],kwarg:=ee,defaults:=[]}
abbrev ZV(s:ļ):List ļ:=match s with
 |.FunctionDef _ _ b _ _ _ _ _ _ _=>b
 |_=>[]
abbrev Zt(s:ļ):η:=match s with
 |.FunctionDef _ _ _ _ _ _ sc _ _ _=>sc
 |_=>{kind:=.function,names:=[],isGenerator:=ei,isCoroutine:=ei}
structure Fun(K:Frag)(x qual:Str)(st:ļ)(f:Í)(fd:ň):Prop where
 ex:∃(oc:Ã) (od:Option Í) (kV doc pm:Ã) (an:Option Í) (Ϟ ct:Ã) (osl:Array<|Option Ã),
  fd=PySem.W.fnOf x qual (YN st) (ZV st) (Zt st) .none kV doc pm an Ϟ ct/\K.lookup f=d9 ⟨oc,od,.func fd,osl⟩/\PySem.W.codeIn K Ϟ qual=eh
 kp:PySem.W.keepIn K (.ref f)=eh
section
variable {P:å}{w:ø}{K:Frag}{mg:Str->Option Ã}{base:Ć}
variable {x:Str} {qual:Str} {st:ļ} {f:Í}
def Fun.binds{fd:ň}{ps:List Str}(F:Fun K x qual st f fd)
  (h:∀(kV doc pm:Ã) (an:Option Í) (Ϟ ct:Ã) (us:List Ã),us.length=ps.length->bindArgs (PySem.W.fnOf x qual (YN st) (ZV st) (Zt st) .none kV doc pm an Ϟ ct) ⟨us,[]⟩=pure (ps.zip us)):Binds K fd ps []:=by
 obtain⟨oc,od,kV,doc,pm,an,Ϟ,ct,osl,rfl,lk,aU⟩:=F.ex;exact .all<|h kV doc pm an Ϟ ct
def Eu{oc:Ã}{od an:Option Í}{osl:Array (Option Ã)}{kV doc pm Ϟ ct:Ã}(l:K.lookup f=d9 ⟨oc,od,.func<|PySem.W.fnOf x qual (YN st) (ZV st) (Zt st) .none kV doc pm an Ϟ ct,osl⟩)
  (c:PySem.W.codeIn K Ϟ qual=eh) (k:PySem.W.keepIn K (.ref f)=eh):Fun K x qual st f<|PySem.W.fnOf x qual (YN st) (ZV st) (Zt st) .none kV doc pm an Ϟ ct:=⟨⟨oc,od,kV,doc,pm,an,Ϟ,ct,osl,rfl,l,c⟩,k⟩
end
abbrev Same(H H':Hp):Prop:=∀b o,H b=d9 o->H' b=d9 o
def Same.refl(H:Hp):Same H H:=λ_ _ h=>h
def Same.trans{H H1 H2:Hp}(a:Same H H1)(b:Same H1 H2):Same H H2:=λc o h=>b c o (a c o h)
end L2
set_option maxHeartbeats 4000000
namespace L2
open PySem PySem.Spec PyProof.Rows
variable {w:ø}
def HOk.track{P:å}{H:Hp}{h:Ć}{a:Í}{o:HO}(x:HOk P w H h)(hn:H a=ee)(new:eP P w (upd H a o) h a o):HOk P w (upd H a o) h:=λb u e=>by
 by_cases hb:b=a
 .subst hb;rw[ez]at e;cases e;exact new
 .rw[ej hb]at e;exact(x b u e).stay (λc v _ q=>q) (λc q=>by rw[ej<|Zl q hn];exact q) λc xs q=>by rw[ej<|Zl q hn];exact q
abbrev Zu(X:Cx)(scope:η)(N':List Str)(cl:List<|Str×Í)(C:Í)(s:Å)(H:Hp)(ex:List Í):Cx where
 prog:=X.prog
 w:=X.w
 K:=X.K
 mg:=X.mg
 base:=X.base
 A:=X.A
 N:=N'
 s₀:=s
 H₀:=H
 env:=compEnvC scope cl C X.env
 outer:=X.stack
 stack:=X.stack
 ex:=ex
 fn:=λ_=>ei
 calm:=X.calm
 pn:=[]
 xe:=λ_ _=>False
abbrev Yh(X:Cx)(x:List Str)(ö:List Nat):List Str:=x++ö.map λj=>X.N.getD j Str.empty
abbrev OP(σ:St)(ö:List Nat):St:=ö.map λj=>(σ[j]?).getD ee
structure BlkOk(X:Cx)(scope:η)(x:List Str)(ö:List Nat):Prop where
 kind:scope.kind=.function
 nocell:∀y∈scope.names,y.2≠.cell
 locs:∀y∈scope.names,y.2=.local->scope.names.lookup y.1=d9 .local
 own:∀y∈x,scope.names.lookup y=d9 .local
 frees:∀y∈scope.names,y.2=.free->X.env.kindOf y.1=d9 .cell
 cap:∀j∈ö,(X.N[j]?).isSome=eh/\X.env.kindOf (X.N.getD j Str.empty)=d9 .cell/\scope.names.lookup (X.N.getD j Str.empty)=d9 .free
 nd:(Yh X x ö).Nodup
def YU{env:Env}:∀(names:List<|Str×ϕ) (Ė:List<|Str×Í),(∀y∈names,y.2=.free->∃c,env.cells.lookup y.1=d9 c)->(∀x c,Ė.lookup x=d9 c->env.cells.lookup x=d9 c)->
  ∃cl,(forIn names Ė λ(p:Str×ϕ) (r:List<|Str×Í)=>(do
    if(p.2 == ħ)=eh then do let a<-cellOf env p.1;pure (Ĺ<|(p.1,a)::r)else pure (Ĺ r):Sem _))=pure cl/\
   (∀x c,cl.lookup x=d9 c->env.cells.lookup x=d9 c)/\(∀x c,Ė.lookup x=d9 c->∃c',cl.lookup x=d9 c')/\∀x,(x,ħ)∈names->∃c,cl.lookup x=d9 c
 |[],Ė,_,ha=>⟨Ė,rfl,ha,λx c h=>⟨c,h⟩,λx h=>nomatch h⟩
 |(n,k)::r,Ė,hn,ha=>by
  by_cases hk:k=.free
  .subst hk;obtain⟨c,hc⟩:=hn (n,.free) ò rfl;have ha':∀x d,(((n,c)::Ė:List<|Str×Í)).lookup x=d9 d->env.cells.lookup x=d9 d:=λx d h=>by
    rw[î]at h;cases e:x==n with
    |true =>
     rw[e]at h;have:x=n:=by simpa using e
     subst this;cases h;exact hc
    |false=>rw[e]at h;exact ha x d h
   obtain⟨cl,h1,h2,h3,h4⟩:=YU r ((n,c)::Ė) (λy hy=>hn y<|â _ hy) ha';refine⟨cl,?_,h2,λx d h=>?_,λx hx=>?_⟩
   .rw[List.forIn_cons];have e:cellOf env n=pure c:=by unfold cellOf;rw[hc]
    simp only[beq_self_eq_true,if_true,e];exact h1
   .by_cases hx:x=n
    .subst hx;exact h3 x c (by rw[î];simp)
    .exact h3 x d (by rw[î,beq_false_of_ne hx];exact h)
   .rcases Ç.mp hx with e|hx
    .cases e;exact h3 _ c (by rw[î];simp)
    .exact h4 x hx
  .have hb:(k==ħ)=ei:=by simpa using hk
   obtain⟨cl,h1,h2,h3,h4⟩:=YU r Ė (λy hy=>hn y<|â _ hy) ha;refine⟨cl,?_,h2,h3,λx hx=>?_⟩
   .rw[List.forIn_cons];simp only[hb,ĩ,if_false];exact h1
   .rcases Ç.mp hx with e|hx
    .cases e;exact gf rfl hk
    .exact h4 x hx
def Z5{env:Env}:∀{names:List (Str×ϕ)}{x:Str}{k:ϕ},(names.map λ(n,k)=>if(k==ħ&&env.scope.kind == .function&&env.kindOf n==d9 .cell)then(n,dR)else(n,k)).lookup x=d9 k->
  (∃k0,(x,k0)∈names/\names.lookup x=d9 k0/\(k0=k\/(k0=.free/\k=.cell)))
 |[],_,_,h=>by simp at h
 |(n,k0)::r,x,k,h=>by
  rw[Ñ,î]at h;cases hx:x==n with
  |true =>
   have e:x=n:=by simpa using hx
   subst e;refine⟨k0,ò,by rw[î];simp,?_⟩;by_cases hc:(k0==ħ&&env.scope.kind == .function&&env.kindOf x==d9 .cell)=eh
   .rw[fZ hc]at h;simp at h;have:k0=.free:=by
     simp only[bAq]at hc;simpa using hc.1.1
    exact .inr ⟨this,h.symm⟩
   .rw[f8 hc]at h;simp at h;exact .inl h
  |false =>
   have h':(r.map λ(n,k)=>if(k==ħ&&env.scope.kind == .function&&env.kindOf n==d9 .cell)then(n,dR)else(n,k)).lookup x=d9 k:=by
    by_cases hc:(k0==ħ&&env.scope.kind == .function&&env.kindOf n==d9 .cell)=eh
    .rw[fZ hc]at h;simpa[hx]using h
    .rw[f8 hc]at h;simpa[hx]using h
   obtain⟨k1,a,b,c⟩:=Z5 h';exact⟨k1,â _ a,by rw[î,hx];exact b,c⟩
abbrev PIfs(X:Cx)(aV:List Expr)(t:TT):Prop :=
 ∀(Â:List<|Í×Obj) (s:Å) (σ:St) (H:Hp) (Q:Bool->Hp->Prop),Inv X Â σ H s->t σ H Q->
  wpAny (ß X.prog X.w) X.A (forIn aV eh λc r=>if r=eh then do let ok<-b6 c X.env (eval c X.env);pure (Ĺ ok)else pure (Ĺ r)) (TP X Â σ Q) X.xe s
abbrev R9:TT:=λ_ H Q=>Q eh H
variable {X:Cx}
def pifs_nil:PIfs X [] R9:=λ_ _ _ H _ I h=>wpAny_tests_nil ⟨H,I,h⟩
def Wu{c:Expr}{t:TT}(h:PT X c t):PIfs X [c] t:=λÂ s σ H Q I hq=>wpAny_tests_one (h Â s σ H Q I hq)
abbrev HA(J:It)(tg:TG)(tc:TT)(te:TE)(Fin:List V->Hp->Prop)(W:Nat->Nat->List V->St->Hp->Prop):Prop :=
 ∀i m ys τ H,W i m ys τ H->ys.length<Ý/\((J.stop i H/\Fin ys H)\/(J.go i H/\∃N:List V->St->Hp->Prop,(∀ys' τ' H',N ys' τ' H'->∃m',m'<m/\W (i+1) m' ys' τ' H')/\∀x H',J.yld i H x H'->
   tg x τ H' λτ' H1=>tc τ' H1 λb H2=>if b=eh then te τ' H2 λy H3=>N (ys++[y]) τ' H3 else N ys τ' H2))
abbrev Dm(wi:TI)(k:Nat)(ö:List Nat)(tg:TG)(tc:TT)(te:TE):TE:=λσ H Q=>wi σ H λJ H1=>∃W:Nat->Nat->List V->St->Hp->Prop,(∃m,W 0 m [] (Û k ee++OP σ ö) H1)/\
 HA J tg tc te (λys H=>∀p,H p=ee->Q (.ref p) (upd H p<|.lst ys)) W
section
variable {X:Cx}{Â:List (Í×Obj)}{σ:St}{H2:Hp}{s2:Å}
variable {scope:η} {x:List Str} {ö:List Nat} {cl:List (Str×Í)} {fp:List Í}
def AL{s3:Å}{D:Í}{h1:Ć}{tk:Nat}{m:Str->Option Ã}(B:BlkOk X scope x ö)(I2:Inv X Â σ H2 s2)(f2:∀b∈fp,WK X Â H2 b)
  (c1:∀x c,cl.lookup x=d9 c->X.env.cells.lookup x=d9 c) (c2:∀x,(x,ħ)∈scope.names->∃c,cl.lookup x=d9 c)
  (I3:Inv X Â σ H2 s3) (hD:D=s2.heap.objs.size) (h3:s3.heap.objs.size=D+1) (Ϣ:∀b o,s3.heap.get? b=d9 o->h1.get? b=d9 o) (hfp:∀b∈fp,b<s2.heap.objs.size)
  (hn:h1.Ns s3.heap.objs.size m) :
  Inv (Zu X scope (Yh X x ö) cl s3.heap.objs.size s3 H2<|D::fp) [] (Û x.length ee++OP σ ö) H2 {s3 with heap:=h1,toks:=tk}:=by
 have neD:∀b o,s2.heap.get? b=d9 o->b≠D:=λb o e=>by rw[hD];exact à<|Ô e
 have exlt:∀b∈D::fp,b<s3.heap.objs.size:=λb hb=>by
  rw[h3];rcases Ç.mp hb with e|hb
  .rw[e];exact Ĝ _
  .exact ı (by rw[hD];exact hfp b hb)
 have keeps:=I3.hok.kept (h':=h1) Ϣ;refine⟨⟨I2.mod,B.kind,I2.ok.glob,I2.ok.blt,Ì _,λy z c e1 e2=>?_,λy hy=>?_,λy c e _=>(by cases e),λhc=>I2.ok.hd hc,I2.ok.frames,.inl rfl,λb hb=>?_,λb o e=>?_,?_,λb o e hb=>?_,λb hb hf=>?_,I3.stack,λb hb=>I2.stkFree b hb⟩,
   rfl,I3.bare,Un.kept Ϣ,⟨m,hn,λi y v e1 e2 e3=>?_⟩,λy c e=>?_,I3.hok.fresh<|Ì _,λy c e=>I3.freeC y c<|c1 y c e,λp hp=>(nomatch hp),keeps,?_⟩
 .exact I2.ok.inj y z c (c1 y c e1)<|c1 z c e2
 .have hy:(bP scope X.env).names.lookup y=d9 .cell\/(bP scope X.env).names.lookup y=d9 .free:=hy;rcases hy with hy|hy
  .obtain⟨k0,a,b,c⟩:=Z5 hy;rcases c with c|⟨c,_⟩
   .subst c;exact gf rfl<|B.nocell _ a
   .subst c;exact c2 y a
  .obtain⟨k0,a,b,c⟩:=Z5 hy;rcases c with c|⟨_,c⟩
   .subst c;exact c2 y a
   .cases c
 .refine⟨à<|exlt b hb,λy c e z=>?_⟩;have e':=c1 y c e;rcases Ç.mp hb with q|q
  .obtain⟨v,o,ho,_⟩:=I2.cell y c e';exact neD c o ho<|z.trans q
  .exact(f2 b q).2.2.2.2.1 y c e' z
 .exact I3.bs b o e
 .exact á I2.ok.bsz (á I2.sz<|show s2.heap.objs.size<=s3.heap.objs.size by rw[h3,hD];exact Ņ _)
 .rcases Ç.mp hb with q|q
  .exact neD b o (I2.bk b o e) q
  .rcases (f2 b q).2.2.2.1 with z|z
   .exact I2.ok.noex b o e z
   .exact gf (ã (Ô (I2.ok.bs b o e).1) z)<|ġ _
 .have hf:b∈frs X.stack:=hf;rcases Ç.mp (I2.stkSub b hf)with z|z
  .rcases Ç.mp hb with q|q
   .exact gf I2.lt (by rw[<-z,q,hD];exact ġ _)
   .exact(f2 b q).2.1 z
  .rcases Ç.mp hb with q|q
   .exact I2.nofs (a:=b) (by rw[q,hD];exact Ì _) z
   .exact(f2 b q).2.2.1 z
 .by_cases hik:i<x.length
  .rw[ć (by rw[õ];exact hik),Ō,fZ hik]at e2;cases e2
  .have e1:(x++ö.map λj=>X.N.getD j Str.empty)[i]?=d9 y:=e1;rw[Ď<|by lia]at e1;rw[Ď (by rw[õ];lia),õ]at e2;generalize i - x.length=j at e1 e2;have e2:(ö.map λj=>(σ[j]?).getD ee)[j]?=d9 (d9 v):=e2;rw[Ö]at e1 e2;cases hj:ö[j]? with
   |none=>rw[hj]at e1;cases e1
   |some q =>
    rw[hj]at e1 e2;have e1':X.N.getD q Str.empty=y:=í e1;have e2':(σ[q]?).getD ee=d9 v:=í e2;obtain⟨hs,hk,hsc⟩:=B.cap q<|è hj;obtain⟨y',hy'⟩:=é.mp hs;have ey:y'=y:=by rw[<-e1',ď,hy'];rfl
    subst ey;have es:σ[q]?=d9 (d9 v):=by
     cases hq:σ[q]? with
     |none=>rw[hq]at e2';cases e2'
     |some o=>rw[hq]at e2';exact congrArg d9 e2'
    rw[e1']at hk hsc;obtain⟨m2,_,hl⟩:=I3.loc;have ac:X.env.scope.names.lookup y'=d9 .cell:=hk;obtain⟨u,r,l⟩:=hl q y' v hy' es<|.inr<|.inl ac;refine⟨u,r,.inr ⟨?_,?_⟩⟩
    .rcases e3 with e3|e3|e3
     .obtain⟨k0,a,b,c⟩:=Z5 (show(bP scope X.env).names.lookup y'=d9 .local from e3);rw[hsc]at b;cases b;rcases c with c|⟨_,c⟩<;>cases c
     .exact .inl e3
     .exact .inr e3
    .rcases l with⟨l,_⟩|⟨_,c,hc,z⟩
     .rw[hk]at l;cases l
     .obtain⟨c',hc'⟩:=c2 y'<|PySem.mem_of_lookup hsc;have ec:c'=c:=í<|(c1 y' c' hc').symm.trans hc;subst ec;obtain⟨o,ho,hd⟩:=z;exact⟨c',hc',o,Ϣ c' o ho,hd⟩
 .obtain⟨v,o,ho,hd⟩:=I3.cell y c<|c1 y c e;exact⟨v,o,Ϣ c o ho,hd⟩
 .show _=(Yh X x ö).length;unfold Yh OP;rw[ä,ä,Á,Á,õ]
def XF{env:Env}(h:∀y∈scope.names,y.2=.free->∃c,env.cells.lookup y.1=d9 c) :
  ∃cl,closureFor scope env=pure cl/\(∀x c,cl.lookup x=d9 c->env.cells.lookup x=d9 c)/\∀x,(x,ħ)∈scope.names->∃c,cl.lookup x=d9 c:=by
 obtain⟨cl,h1,h2,_,h4⟩:=YU (env:=env) scope.names [] h λx c e=>nomatch e;refine⟨cl,?_,h2,h4⟩;simp only[closureFor];have e:(forIn scope.names ([]:List<|Str×Í) λx r =>
     (match x with
     | (name,kind)=>if(kind == ħ)=eh then do let a<-cellOf env name;pure (Ĺ<|(name,a)::r)else pure (Ĺ r):Sem<|ForInStep<|List<|Str×Í))=pure cl:=h1
 first
  |(rw[e];rfl)
  |(refine Eq.trans (congrArg (· >>= pure) ?_) (rfl:(pure cl >>= pure:Sem _)=pure cl);exact e)
variable {bD:Expr} {Ŭ:Expr} {aV:List Expr} {ë:Pos}
def N0{prog:å}{A:ĉ}{R:ai->Å->Prop}{s:Å}{ϰ:Expr}{it Ė:Ã}{env:Env}(I:Nat->Å->Prop)
  (turn:∀n s,I n s->wpAny (ß prog w) A (χ it) (λr ě=>match r with
    |none=>R (.ok .next) ě
    | some v=>wpAny (ß prog w) A (ϟ ϰ it v) (λ_ ě=>wpAny (ß prog w) A (θ ϰ env v) (λ_ bM =>
        wpAny (ß prog w) A (forIn aV eh λc r=>if r=eh then do let ok<-b6 c env (eval c env);pure (Ĺ ok)else pure (Ĺ r)) (λok ay =>
          if ok=eh then wpAny (ß prog w) A (eval bD env) (λx s₄ =>
            wpAny (ß prog w) A (call (.builtin "list.append") [Ė,x]) (λ_ s₅=>∃m,m<n/\I m s₅) (λ_ _=>False) s₄) (λ_ _=>False) ay
          else ∃m,m<n/\I m ay) (λ_ _=>False) bM) (λ_ _=>False) ě) (λ_ _=>False) ě) (λ_ _=>False) s)
  (n:Nat) (h:I n s) :
  codeAny (ß prog w) A (.compLoop (.ListComp bD [⟨ϰ,Ŭ,aV,0⟩] scope ë) 0 it Ė env) R s:=by
 refine codeAny_loop rfl I (λn s hI=>?_) n h;show wpAny _ A ((compTurn (.ListComp bD [⟨ϰ,Ŭ,aV,0⟩] scope ë) 0 it Ė env).onRaise λx=>do aZ x env;theTreesLotGoes x) _ _ s;refine wpAny_noted ?_;rw[compTurn_list];refine À<|cR<|À<|ĭ (turn n s hI) (λr ě bh=>?_) λ_ _ h'=>h'.elim;cases r with
 |none=>exact Æ bh
 |some v =>
  refine À<|ĭ bh (λ_ ě bh=>?_) λ_ _ h'=>h'.elim;refine À<|ĭ bh (λ_ bM h₂=>À<|ĭ h₂ (λok ay h₃=>?_) λ_ _ h'=>h'.elim) λ_ _ h'=>h'.elim;cases ok with
  |false=>exact Æ ⟨rfl,h₃⟩
  |true =>exact À<|À<|ĭ h₃ (λx s₄ h₄=>À<|ĭ h₄ (λ_ s₅ h₅=>Æ<|Æ ⟨rfl,h₅⟩) λ_ _ h'=>h'.elim) λ_ _ h'=>h'.elim
variable {bj:Expr} {tg:TG} {tc:TT} {te:TE}
def KI{it:Í}{tn:Nat->Ć->Prop}{J:It}{Fin:List V->Hp->Prop}{W:Nat->Nat->List V->St->Hp->Prop}{E:Ã->Å->Prop}
  {RR:Ã->Í->ai->Å->Prop}{m0:Nat}(hc:X.calm=eh) (B:BlkOk X scope x ö) (I2:Inv X Â σ H2 s2) (T:Turn X.prog X.w X.K bj J fp it tn) (st2:tn 0 s2.heap) (f2:∀b∈fp,WK X Â H2 b)
  (c1:∀x c,cl.lookup x=d9 c->X.env.cells.lookup x=d9 c) (c2:∀x,(x,ħ)∈scope.names->∃c,cl.lookup x=d9 c)
  (hI:∀cl C s H ex,PIfs (Zu X scope (Yh X x ö) cl C s H ex) aV tc) (hE:∀cl C s H ex,PE (Zu X scope (Yh X x ö) cl C s H ex) bD te)
  (hG:∀cl C s H ex,PG (Zu X scope (Yh X x ö) cl C s H ex) bj tg) (w0:W 0 m0 [] (Û x.length ee++OP σ ö) H2) (cw:HA J tg tc te Fin W)
  (hRR:∀D C s' H' ys m,H' D=ee->s'.heap.Ns C m->WK X Â (upd H' D<|.lst ys) C->Inv X Â σ (upd H' D<|.lst ys) s'->Fin ys H'->RR (.ref D) C (.ok .next) s') :
  wpAny (ß X.prog X.w) X.A (newList []) (λĖ ay=>wpAny (ß X.prog X.w) X.A (newFunctionEnv scope X.env.globals cl [] X.env.qual ee .none<|d9 X.env) (λcenv s₄ =>
    codeAny (ß X.prog X.w) X.A (.compStart (.ListComp bD [⟨bj,Ŭ,aV,0⟩] scope ë) 0 (.ref it) Ė { cenv with scope:=bP scope X.env }) (RR Ė cenv.locals) s₄) E ay) E s2:=by
 refine Ĉ (wpAny_newFunctionEnv B.nocell (by intro y hy;simp at hy) (λbh cz cA=>?_) B.kind);dsimp only at cz cA ⊢;have hfp:∀b∈fp,b<s2.heap.objs.size:=λb hb=>by obtain⟨o,e,_⟩:=T.obj _ _ st2 b hb;exact Ô e
 have I3:Inv X Â σ H2 {s2 with heap:=s2.heap.push {cls:=.type "list",dict:=ee,data:=.seq ([]:List Ã).toArray}}:=I2.kept (t':=s2.toks) λb o e=>Ä _ e;have h3:(s2.heap.push {cls:=.type "list",dict:=ee,data:=.seq ([]:List Ã).toArray}).objs.size=s2.heap.objs.size+1:=ů ..;have bg:(s2.heap.push {cls:=.type "list",dict:=ee,data:=.seq ([]:List Ã).toArray}).get? s2.heap.objs.size=d9 {cls:=.type "list",dict:=ee,data:=.seq ([]:List Ã).toArray}:=Õ _ rfl;have aP:∀b o,s2.heap.get? b=d9 o->(s2.heap.push {cls:=.type "list",dict:=ee,data:=.seq ([]:List Ã).toArray}).get? b=d9 o:=λb o e=>Ä _ e;generalize hH3:s2.heap.push {cls:=.type "list",dict:=ee,data:=.seq ([]:List Ã).toArray}=h3' at cz cA I3 h3 bg aP ⊢;have Ϣ:∀b o,h3'.get? b=d9 o->bh.get? b=d9 o:=λb o e=>cA.extBut b o (à<|Ô e)<|Ä _ e;have hDC:s2.heap.objs.size≠h3'.objs.size:=by rw[h3];exact à<|Ĝ _
 have IB:=AL (cl:=cl) (fp:=fp) (s3:={s2 with heap:=h3'}) (D:=s2.heap.objs.size) (h1:=bh) (tk:=s2.toks+([]:List<|Str×Ã).length) B I2 f2 c1 c2 I3 rfl h3 Ϣ hfp cz;generalize hY:Zu X scope (Yh X x ö) cl h3'.objs.size {s2 with heap:=h3'} H2 (s2.heap.objs.size::fp)=Y at IB;have yP:Y.prog=X.prog:=by rw[<-hY];rfl
 have yw:Y.w=X.w:=by rw[<-hY];rfl
 have yK:Y.K=X.K:=by rw[<-hY];rfl
 have yA:Y.A=X.A:=by rw[<-hY];rfl
 have yc:Y.calm=eh:=by rw[<-hY];exact hc
 have yenv:Y.env=compEnvC scope cl h3'.objs.size X.env:=by rw[<-hY];rfl
 have hIY:PIfs Y aV tc:=by rw[<-hY];exact hI _ _ _ _ _
 have hEY:PE Y bD te:=by rw[<-hY];exact hE _ _ _ _ _
 have yxe:Y.xe=λ_ _=>False:=by rw[<-hY];rfl
 have ypn:Y.pn=[]:=by rw[<-hY];rfl
 have hgN:PG Y bj tg:=by rw[<-hY];exact hG _ _ _ _ _
 have fD:∀{H':Hp},H' s2.heap.objs.size=ee->WK Y [] H' s2.heap.objs.size:=λ{H'} hn=>by
  refine⟨hn,?_,?_,?_,?_,λp hp=>?_⟩
  .rw[yenv];exact hDC
  .exact IB.ok.exfs _ (by rw[<-hY];exact ò)
  .exact .inl (by rw[<-hY];exact ò)
  .exact λy c e=>(IB.ok.exf _<|by rw[<-hY];exact ò).2 y c e
  .rw[ypn]at hp;exact nomatch hp
 have fF:∀{H':Hp},(∀b∈fp,H' b=ee)->∀b∈fp,WK Y [] H' b:=λ{H'} hn b hb=>by
  have hm:b∈Y.ex:=by rw[<-hY];exact â _ hb
  refine⟨hn b hb,?_,IB.ok.exfs b hm,.inl hm,λy c e=>(IB.ok.exf b hm).2 y c e,λp hp=>?_⟩
  .exact(IB.ok.exf b hm).1
  .rw[ypn]at hp;exact nomatch hp
 have acc0:bh.PlainList s2.heap.objs.size ([]:List Ã).toArray:=⟨0,by exact Ϣ _ _ bg⟩
 have loop:∀ay:Å,ay={s2 with heap:=bh,toks:=s2.toks+([]:List<|Str×Ã).length}->
   codeAny (ß X.prog X.w) X.A (.compLoop (.ListComp bD [⟨bj,Ŭ,aV,0⟩] scope ë) 0 (.ref it) (.ref s2.heap.objs.size)<|compEnvC scope cl h3'.objs.size X.env) (RR (.ref s2.heap.objs.size) h3'.objs.size) ay:=by
  rintro ay rfl;refine N0 (λn s'=>∃i ys ô τ H',Inv Y [] τ H' s'/\tn i s'.heap/\(∀b∈fp,H' b=ee)/\H' s2.heap.objs.size=ee/\fR ys ô/\s'.heap.PlainList s2.heap.objs.size ô.toArray/\W i n ys τ H') ?_ m0
   ⟨0,[],[],_,H2,IB,T.keep _ _ _ st2 λb hb o e=>Ϣ _ _<|aP _ _ e,λb hb=>(f2 b hb).1,I2.fresh,.nil,acc0,w0⟩
  rintro n s3 ⟨i,ys,ô,τ,H3,I3',st3,fr3,frD,rv,pl,w3⟩;have cv:∀{α:Type}{f:Sem α}{Q Q':α->Å->Prop}{s:Å},wpAny (ß Y.prog Y.w) Y.A f Q Y.xe s->(∀a s',Q a s'->Q' a s')->wpAny (ß X.prog X.w) X.A f Q' (λ_ _=>False) s:=λ{α f Q Q' s} h hq=>by rw[yP,yw,yA,yxe]at h;exact ĭ h hq λ_ _ e=>e
  have cvX:∀{α:Type}{f:Sem α}{Q Q':α->Å->Prop}{s:Å},wpAny (ß X.prog X.w) Y.A f Q (λ_ _=>False) s->(∀a s',Q a s'->Q' a s')->wpAny (ß X.prog X.w) X.A f Q' (λ_ _=>False) s:=λ{α f Q Q' s} h hq=>by rw[yA]at h;exact ĭ h hq λ_ _ e=>e
  obtain⟨nD,hD3⟩:=id pl;have plD:∀b∈[s2.heap.objs.size],∃o,s3.heap.get? b=d9 o/\∀v,o.data≠.cell v:=λb hb=>by
   have e:b=s2.heap.objs.size:=by simpa using hb
   subst e;exact⟨_,hD3,λv z=>by cases z⟩
  have IP:=I3'.pinned (fp:=[s2.heap.objs.size]) (λb hb=>by
    have e:b=s2.heap.objs.size:=by simpa using hb
    subst e
    exact fD frD) plD
  have memD:=Z4 (fp:=[s2.heap.objs.size]) (Ó.mpr rfl) hD3;have fF':∀b∈fp,WK Y ([]++X1 [s2.heap.objs.size] s3.heap) H3 b:=λb hb=>by
   obtain⟨q1,q2,q3,q4,q5,q6⟩:=fF fr3 b hb;refine⟨q1,q2,q3,q4,q5,λp hp=>?_⟩;rw[ypn]at hp;obtain⟨bN,_⟩:=KG (show p∈X1 [s2.heap.objs.size] s3.heap by simpa using hp);have e:p.1=s2.heap.objs.size:=by simpa using bN
   rw[e];exact(à<|hfp b hb).symm
  obtain⟨hys,h|⟨go,N,hN,step⟩⟩:=cw i n ys τ H3 w3
  .obtain⟨stop,fin⟩:=h;refine cvX (T.done Y yP yw yK yc i _ s3 _ H3 _ IP fF' st3 stop) λr s4 ⟨hr,I4⟩=>?_;subst hr;obtain⟨m4,hm4,_⟩:=I4.loc;rw[yenv]at hm4;have az:Un (frs X.stack) (s2.heap.objs.size::fp) H2 H3 h3' s4.heap:=by
    have:=I4.base;rw[<-hY]at this;exact this
   have hok4:HOk X.prog X.w H3 s4.heap:=by have:=I4.hok;rw[yP,yw]at this;exact this
   have pl4:=(I4.pin _<|É _<|É _ memD).1;have nC:H3 h3'.objs.size=ee:=by have:=I4.free;rw[yenv]at this;exact this
   have hlen:ys.length<=Ý:=Ŵ hys;have osEq:s4.os=s2.os:=by have:=I4.os;rw[<-hY]at this;exact this
   have neD:∀b o,s2.heap.get? b=d9 o->b≠s2.heap.objs.size:=λb o e=>à<|Ô e;have nin:∀b o,s2.heap.get? b=d9 o->b∉fp->b∉s2.heap.objs.size::fp:=λb o e hb z=>(Ç.mp z).elim (neD b o e) hb;have hokN:HOk X.prog X.w (upd H3 s2.heap.objs.size<|.lst ys) s4.heap:=hok4.track frD ⟨hlen,ô,nD,rv,pl4⟩;have U:Un (frs X.stack) fp H2 (upd H3 s2.heap.objs.size<|.lst ys) s2.heap s4.heap:=by
    refine⟨λb o e hn hf hx=>az.keep b o (aP b o e) hn hf<|nin b o e hx,λb o e hn hf hx=>az.slot b o (aP b o e) hn hf<|nin b o e hx,λb o e hn hx=>?_,λb o e hx=>az.there b o (aP b o e)<|nin b o e hx,λb xs e=>?_,λb o xs e=>?_,λb ps e=>?_⟩
    .rw[ej<|neD b o e];exact az.free b o (aP b o e) hn<|nin b o e hx
    .have q:=az.tups b xs e;rw[ej<|Zl q frD];exact q
    .have q:=az.frzs b o xs e;rw[ej<|Zl q frD];exact q
    .obtain⟨more,q⟩:=az.tbls b ps e;exact⟨more,by rw[ej<|Zl q frD];exact q⟩
   have I5:Inv X Â σ (upd H3 s2.heap.objs.size<|.lst ys) s4:=I2.call' (ch:=fp) osEq U hokN I4.bare λb hb=>by obtain⟨_,q2,_,q4,q5,q6⟩:=f2 b hb;exact⟨q4,q2,q5,q6⟩
   exact hRR _ _ _ _ _ m4 frD hm4 (I2.fpOk (Ŵ<|by rw[h3];exact Ĝ _)<|by rw[ej hDC.symm];exact nC) I5 fin
  .refine cvX (T.item Y yP yw yK yc i _ s3 _ H3 _ IP fF' st3 go) λr s4 ⟨u,hr,h4⟩=>?_;subst hr;refine cvX h4 λ_ s5 ⟨y,H5,I5,r5,y5,st5,fr5⟩=>?_;have frD5:H5 s2.heap.objs.size=ee:=(I5.pin _<|É _<|É _ memD).2.1;have hD5:=(I5.pin _<|É _<|É _ memD).1;have I5p:=I5.unpinned.pinned (fp:=s2.heap.objs.size::fp) (λb hb=>by
     rcases Ç.mp hb with e|hb
     . subst e;exact fD frD5
     . exact fF fr5 b hb) (λb hb=>by
     rcases Ç.mp hb with e|hb
     . subst e;exact⟨_,hD5,λv z=>by cases z⟩
     . exact T.obj _ _ st5 b hb)
   have memD5:=Z4 (fp:=s2.heap.objs.size::fp) ò hD5;rw[<-yenv];refine cv (hgN _ s5 _ H5 y u _ I5p r5<|step y H5 y5) λ_ s6 ⟨σ6,H6,I6,q6⟩=>?_;have aA:∀{m':Nat}{be:St}{H7:Hp}{s7:Å}{ys':List V}{its':List Ã},Inv Y [] be H7 s7->tn (i+1) s7.heap->(∀b∈fp,H7 b=ee)->H7 s2.heap.objs.size=ee->fR ys' its'->s7.heap.PlainList s2.heap.objs.size its'.toArray->m'<n/\W (i+1) m' ys' be H7->
     ∃m,m<n/\∃i ys ô τ H',Inv Y [] τ H' s7/\tn i s7.heap/\(∀b∈fp,H' b=ee)/\H' s2.heap.objs.size=ee/\fR ys ô/\s7.heap.PlainList s2.heap.objs.size ô.toArray/\W i m ys τ H' :=
    λ{m' be H7 s7 ys' its'} J1 st7 fr7 fd7 rv7 pl7 wm=>⟨m',wm.1,i+1,ys',its',be,H7,J1,st7,fr7,fd7,rv7,pl7,wm.2⟩
   have stay:∀{be:St}{H7:Hp}{s7:Å},Inv Y ([]++X1 (s2.heap.objs.size::fp) s5.heap) be H7 s7->tn (i+1) s7.heap/\(∀b∈fp,H7 b=ee)/\H7 s2.heap.objs.size=ee/\s7.heap.get? s2.heap.objs.size=d9 {cls:=.type "list",data:=.seq ô.toArray nD}:=by intro be H7 s7 J1;refine⟨T.keep _ _ _ st5 λb hb o e=>(J1.pin (b,o)<|É _<|É _<|Z4 (â _ hb) e).1,λb hb=>?_,(J1.pin _<|É _<|É _ memD5).2.1,(J1.pin _<|É _<|É _ memD5).1⟩;obtain⟨o,e,d⟩:=T.obj _ _ st5 b hb;exact(J1.pin (b,o)<|É _<|É _<|Z4 (â _ hb) e).2.1
   refine cv (hIY _ s6 _ H6 _ I6 q6) λok s7 ⟨H7,I7,q7⟩=>?_;cases ok with
   |false =>rw[f8<|by decide]at q7;rw[f8<|by decide];obtain⟨m',wm⟩:=hN _ _ _ q7;obtain⟨a1,a2,a3,a4⟩:=stay I7;exact aA I7.unpinned a1 a2 a3 rv ⟨nD,a4⟩ wm
   |true =>
    rw[fZ rfl]at q7;rw[fZ rfl];refine cv (hEY _ s7 _ H7 _ I7 q7) λz s8 ⟨vz,H8,I8,rz,wm⟩=>?_;obtain⟨m',wm⟩:=hN _ _ _ wm;obtain⟨a1,a2,a3,a4⟩:=stay I8;have hlen:=rv.length;refine wpAny_list_append_plain (hsz:=by rw[Ï];lia) (⟨nD,a4⟩:s8.heap.PlainList _ ô.toArray) λh9 hl9 hs9=>?_;obtain⟨q1,q2,q3,q4,q5,q6⟩:=fD a3;have I9:Inv Y [] _ H8 {s8 with heap:=h9}:=I8.unpinned.turned (t':=s8.toks) (λb o hb e=>hs9.extBut b o hb e) q1 q2 q4 q5 q6;refine aA I9 (T.keep _ _ _ a1 λb hb o e=>hs9.extBut b o (à<|hfp b hb) e) a2 a3 (its':=ô++[z]) (rv.append<|.cons rz .nil) ?_ wm;have e:ô.toArray.push z=(ô++[z]).toArray:=by simp
    rw[e]at hl9;exact hl9
 exact codeAny_compStart_list (loop _ rfl)<|T.self _ 0 _ _ _ (T.keep _ _ _ st2 λb hb o e=>Ϣ _ _<|aP _ _ e)<|loop _ rfl
variable {wi:TI}
def EG(hc:X.calm=eh)(B:BlkOk X scope x ö)(hi:PI X bj Ŭ wi)(hG:∀cl C s H ex,PG (Zu X scope (Yh X x ö) cl C s H ex) bj tg)
  (hI:∀cl C s H ex,PIfs (Zu X scope (Yh X x ö) cl C s H ex) aV tc) (hE:∀cl C s H ex,PE (Zu X scope (Yh X x ö) cl C s H ex) bD te)
  (hs:∀x,ę Ŭ X.env x=pure x:=by intro _;rfl):PE X (.ListComp bD [⟨bj,Ŭ,aV,0⟩] scope ë)<|Dm wi x.length ö tg tc te:=by
 intro Â s σ H Q I h;obtain⟨cl,aD,c1,c2⟩:=XF (scope:=scope) (env:=X.env) λy hy e=>I.ok.has y.1<|.inl<|B.frees y hy e;rw[eval_ListComp];refine cU (use:=ee) rfl hs aD B.kind B.locs<|thn (hi Â s σ H _ I h) λv s1 h1=>thn h1 λitv s2 h2=>?_;obtain⟨it,fp,tn,J,H2,e,I2,T,st2,f2,W,⟨m0,w0⟩,cw⟩:=h2;subst e;refine KI (RR:=λĖ C=>compPost (ß X.prog X.w) X.A X.xe ee (EP X Â σ Q) Ė C) hc B I2 T st2 f2 c1 c2 hI hE hG w0 cw ?_;intro D C s' H' ys m hD hn fC I' fin;obtain⟨q1,q2,q3,q4,q5,q6⟩:=fC;exact⟨m,hn,λh' hs'=>⟨.ref D,_,I'.turned (t':=s'.toks) (λb o hb e=>hs'.extBut b o hb e) q1 q2 q4 q5 q6,rfl,fin D hD⟩⟩
def Ci{y:Str}{py:Pos}{i:Nat}{ϖ:Pos}(hN:X.N.Nodup)(hi':X.N[i]?=d9 y)(hy:Loc X.env.scope y)(hc:X.calm=eh)(B:BlkOk X scope x ö)(hi:PI X bj Ŭ wi)(hG:∀cl C s H ex,PG (Zu X scope (Yh X x ö) cl C s H ex) bj tg)
  (hI:∀cl C s H ex,PIfs (Zu X scope (Yh X x ö) cl C s H ex) aV tc) (hE:∀cl C s H ex,PE (Zu X scope (Yh X x ö) cl C s H ex) bD te)
  (hs:∀x,ę Ŭ X.env x=pure x:=by intro _;rfl)
  (hsw:Ŷ (.ListComp bD [⟨bj,Ŭ,aV,0⟩] scope ë) (d9<|.Name y py) ϖ.line X.env=pure eh:=by rfl)
  (hf:X.fn y=eh\/X.env.scope.names.lookup y=d9 .local:=by first|exact .inl rfl|exact .inr rfl|assumption) :
  PS X (.Assign [.Name y py] (.ListComp bD [⟨bj,Ŭ,aV,0⟩] scope ë) ϖ) (Qg (Dm wi x.length ö tg tc te)<|HR i):=by
 intro Â s σ H D I h;obtain⟨cl,aD,c1,c2⟩:=XF (scope:=scope) (env:=X.env) λy hy e=>I.ok.has y.1<|.inl<|B.frees y hy e;rw[exec_Assign_Name_used _ _ _ _ hsw];refine À<|cR<|À ?_;show wpAny _ X.A (do let _<-comprehension (.ListComp bD [⟨bj,Ŭ,aV,0⟩] scope ë) scope X.env _ (newList []) ei (eval Ŭ X.env) (d9<|θ (.Name y py) X.env)) _ _ s;refine À (ĭ (cU (use:=d9<|θ (.Name y py) X.env) (Q:=λ_ s'=>SP X Â D .next s') rfl hs aD B.kind B.locs
   (thn (hi Â s σ H _ I h) λv s1 h1=>thn h1 λitv s2 h2=>?_)) (λ_ s' hq=>Æ<|Æ hq) λ_ _ e=>e)
 obtain⟨it,fp,tn,J,H2,e,I2,T,st2,f2,W,⟨m0,w0⟩,cw⟩:=h2;subst e;refine KI (RR:=λĖ C=>compPost (ß X.prog X.w) X.A X.xe (d9<|θ (.Name y py) X.env) (λ_ s'=>SP X Â D .next s') Ė C) hc B I2 T st2 f2 c1 c2 hI hE hG w0 cw ?_;intro Dd C s' H' ys m hD hn fC I' fin;obtain⟨q1,q2,q3,q4,q5,q6⟩:=fC;show wpAny _ _ (θ (.Name y py) X.env<|.ref Dd) _ _ _;refine wpAny_assign_Name<|KY I' hN hi' hy (v:=.ref Dd) rfl (λs2 I2 ⟨a,hs2,ha⟩=>?_) hf;have ne:C≠a:=by
  rcases ha with z|z
  .rw[z];exact q2
  .exact(q5 y a z).symm
 refine⟨m,hn.sameBut hs2 ne,λh' hs'=>?_⟩;exact⟨_,_,I2.turned (t':=s2.toks) (λb o hb e=>hs'.extBut b o hb e) q1 q2 q4 q5 q6,fin Dd hD⟩
end
mutual
inductive IsD (K:Frag) (H:Hp):V->ϫ->Prop
 |non:IsD K H .non .none
 |bl (b:Bool):IsD K H (.bl b)<|.bool b
 |int (i:Int):IsD K H (.int i)<|.int i
 |str (x:Str):IsD K H (.str x)<|.str x
 |lst {a:Í}{xs:List V}{ds:List ϫ}:fP K H a xs->IsDs K H xs ds->IsD K H (.ref a) (.list ds)
 |tup {a:Í}{xs:List V}{ds:List ϫ}:fQ K H a xs->IsDs K H xs ds->IsD K H (.ref a) (.tuple ds)
inductive IsDs (K:Frag) (H:Hp):List V->List ϫ->Prop
 |nil:IsDs K H [] []
 |cons {x:V}{xs:List V}{d:ϫ}{ds:List ϫ}:IsD K H x d->IsDs K H xs ds->IsDs K H (x::xs) (d::ds)
end
section
variable {X:Cx}{Â:List (Í×Obj)}{σ:St}{H:Hp}{s:Å}
mutual
theorem IsD.reads(I:Inv X Â σ H s):∀{v:V}{d:ϫ}{u:Ã},IsD X.K H v d->RelV v u->∃as,Reads s.heap u d as
 |_,_,_,.non,r=>by cases r;exact⟨_,.none⟩
 |_,_,_,.bl b,r=>by cases r;exact⟨_,.bool b⟩
 |_,_,_,.int i,r=>by obtain⟨t,rfl⟩:=r;exact⟨_,.int i t⟩
 |_,_,_,.str x,r=>by obtain⟨t,rfl⟩:=r;exact⟨_,.str x t⟩
 |_,_,_,.lst q qs,r=>by cases r;obtain⟨ô,rv,⟨o,n,e,c,_,d⟩,_⟩:=I.list q;obtain⟨as,ra⟩:=IsDs.reads I qs rv;exact⟨_,.list e c d<|by simpa using ra⟩
 |_,_,_,.tup q qs,r=>by cases r;obtain⟨ô,rv,⟨o,e,c,n,d⟩,_⟩:=I.tuple q;obtain⟨as,ra⟩:=IsDs.reads I qs rv;exact⟨_,.tuple e c d<|by simpa using ra⟩
theorem IsDs.reads(I:Inv X Â σ H s):∀{vs:List V}{ds:List ϫ}{us:List Ã},IsDs X.K H vs ds->fR vs us->∃as,ReadsAll s.heap us ds as
 |_,_,_,.nil,.nil=>⟨_,.nil⟩
 |_,_,_,.cons q qs,.cons r rs=>by obtain⟨as,ra⟩:=IsD.reads I q r;obtain⟨bs,rb⟩:=IsDs.reads I qs rs;exact⟨_,.cons ra rb⟩
end
end
def IsDs.ints{K:Frag}{H:Hp}:∀ns:List Int,IsDs K H (ns.map V.int) (ns.map PyData.int)
 |[]=>.nil
 |n::ns=>.cons (.int n)<|IsDs.ints ns
section
variable {X:Cx}
abbrev QD(K:Frag):R2:=λx y H Q=>∃d e,IsD K H x d/\IsD K H y e/\SeqAt.shaped d=eh/\SeqAt.shaped e=eh/\Q (.bl<|Ĩ d e) H
abbrev RM(K:Frag):R2:=λx y H Q=>∃d e,IsD K H x d/\IsD K H y e/\SeqAt.shaped d=eh/\SeqAt.shaped e=eh/\Q (.bl (!Ĩ d e)) H
def IJ(hu:X.A.units+64<Ĭ):OpR X (ì .Eq)<|QD X.K:=by intro Â s σ H x y v u Q I rx ry h;obtain⟨d,e,hd,he,sd,se,q⟩:=h;obtain⟨as,ra⟩:=hd.reads I rx;obtain⟨bs,rb⟩:=he.reads I ry;exact SeqAt.compareEq_shaped ra rb sd se hu ⟨.bl _,H,I,rfl,q⟩
def IR(hu:X.A.units+64<Ĭ):OpR X (ì .NotEq)<|RM X.K:=by intro Â s σ H x y v u Q I rx ry h;obtain⟨d,e,hd,he,sd,se,q⟩:=h;obtain⟨as,ra⟩:=hd.reads I rx;obtain⟨bs,rb⟩:=he.reads I ry;exact SeqAt.compareNe_shaped ra rb sd se hu ⟨.bl _,H,I,rfl,q⟩
inductive TyV (K:Frag) (H:Hp):V->Ã->Prop
 |of {x:V}{t:Ã}:fL K H x t->TyV K H x t
 |tup {a:Í}{xs:List V}:fQ K H a xs->TyV K H (.ref a) (.type "tuple")
 |lst {a:Í}{xs:List V}:fP K H a xs->TyV K H (.ref a) (.type "list")
def Ev:eN X (.builtin "isinstance") λxs H Q=>∃x T t b,xs=[x,.ty T]/\TyV X.K H x t/\PySem.W.kitOne X.K t (.type T)=d9 b/\Q (.bl b) H:=by
 intro Â s σ H xs us Q I r h;obtain⟨x,T,t,b,rfl,ty,e,q⟩:=h;obtain⟨u,v,rfl,ru,rv⟩:=Ai r;cases rv;cases ty with
 |of ty=>exact Bw I ru ty e λtk=>⟨.bl b,H,I.tok tk,rfl,q⟩
 |tup hq =>cases ru;obtain⟨ô,_,⟨o,h1,h2,_⟩,_⟩:=I.tuple hq;exact PySem.W.kia_one PySem.W.kitx_tuple I.kIn ⟨o,h1,h2⟩ e (λz=>nomatch z) λtk=>⟨.bl b,H,I.tok tk,rfl,q⟩
 |lst hq =>cases ru;obtain⟨ô,_,⟨o,n,h1,h2,_⟩,_⟩:=I.list hq;exact PySem.W.kia_one PySem.W.kitx_list I.kIn ⟨o,h1,h2⟩ e (λz=>nomatch z) λtk=>⟨.bl b,H,I.tok tk,rfl,q⟩
def Dy(hc:X.calm=eh):eN X (.builtin "all") λxs H Q=>∃p,∃bs:List Bool,xs=[.ref p]/\fP X.K H p (bs.map V.bl)/\Q (.bl<|bs.all id) H:=by
 intro Â s σ H xs us Q I r h;obtain⟨p,bs,rfl,hq,q⟩:=h;obtain⟨u,rfl,rx⟩:=ZQ r;cases rx;obtain⟨ô,rv,pl,hz⟩:=I.list hq;have hlen:=rv.length;rw[Á]at hlen;have ϒ:p<s.heap.objs.size:=by obtain⟨o,n,e,_⟩:=pl;exact Ô e
 refine call_all_walk<|ż pl.isList ?_;refine⟨s.heap.objs.size,_,_,ô.toArray.size,_,_,λi=>bs.getD i eh,rfl,Walks.list (A:=X.A.in1) (I.ok.hd hc) s.heap.objs.size p (à ϒ) ô.toArray,⟨⟨_,Õ _ rfl,rfl,rfl⟩,pl.isList.push _⟩,?_,λh' tk hk=>?_⟩
 .intro i v s' Q' E' hP hQ;have hP:ô[i]?=d9 v:=by simpa using hP
  have hb:(bs.map V.bl)[i]?=d9 (.bl<|bs.getD i eh):=by
   have hi:i<bs.length:=by have:=(Î.mp hP).1;lia
   rw[Ö,ď];simp[hi]
  obtain⟨u,hu,ru⟩:=rv.get hb;rw[hP]at hu;cases hu;cases ru;exact č hQ
 .have e:(List.range ô.toArray.size).all (λi=>bs.getD i eh)=bs.all id:=by
   rw[Ï,<-hlen,Bool.eq_iff_iff,ü,ü];constructor
   .intro h b hb;obtain⟨i,hi,rfl⟩:=List.mem_iff_getElem.mp hb;have:=h i<|ϗ.mpr hi;rw[ď,Ê hi]at this;exact this
   .intro h i hi;have hi:=ϗ.mp hi;rw[ď,Ê hi];exact h _<|ō hi
  rw[e];refine⟨.bl _,H,I.kept (t':=tk) λb o e=>hk b o (λhm=>?_)<|Ä _ e,rfl,q⟩;have:b=s.heap.objs.size:=by simpa using hm
  exact gf (this▸Ô e)<|ġ _
abbrev sortI(ns:List Int):List Int:=ns.mergeSort λa b=>gg (a<=b)
def XR(ns:List Int):(sortI ns).Perm ns:=ŋ ns _
def NN(ns:List Int):(sortI ns).Pairwise (·<=·):=by have h:=bH (le:=λa b:Int=>gg (a<=b)) (λa b c h1 h2=>by simp at *;lia) (λa b=>by simp;lia) ns;exact h.imp λh=>by simpa using h
variable {ns:List Int} {ms:List Int}
def YL(hp:ms.Perm ns)(hs:ms.Pairwise (·<=·)):ms=sortI ns:=PySem.W.ksm_same (hp.trans (XR ns).symm) hs (NN ns)
def Kq(hp:ms.Perm ns):sortI ms=sortI ns:=YL ((XR ms).trans hp) (NN ms)
def YR(ns:List Int):(sortI ns).length=ns.length:=(XR ns).length_eq
def YO:∀{vs:List Ã}{ns:List Int},ÿ vs ns->fR (ns.map V.int) vs:=WF
def call_sorted:eN X (.builtin "sorted") λxs H Q=>∃p,∃ns:List Int,xs=[.ref p]/\fP X.K H p (ns.map V.int)/\ns.length<64/\∀l,H l=ee->Q (.ref l) (upd H l<|.lst<|(sortI ns).map V.int):=by intro Â s σ H xs us Q I r h;obtain⟨p,ns,rfl,hq,h64,q⟩:=h;obtain⟨u,rfl,rx⟩:=ZQ r;cases rx;obtain⟨ô,rv,pl,hz⟩:=I.list hq;have hlen:=rv.length;rw[Á]at hlen;refine sorted_ints pl.isList (ZI rv) (by lia) λout bX a1 a2 a3=>?_;have e:=YL a2 a3;subst e;obtain⟨n,he⟩:=sortedAll_at s.heap ô out;refine⟨.ref<|s.heap.objs.size+1,_,I.laid (a:=s.heap.objs.size+1) (o:=.lst<|(sortI ns).map V.int) (t':=s.toks) (λb o e=>sortedAll_old e) (Ņ _) ?_,rfl,q _<|I.hok.fresh<|Ņ _⟩;exact⟨by rw[Á,YR];rw[Á]at hz;exact hz,out.toList,n,YO a1,by simpa[Α]using he⟩
def DV:eN X (.type "set") (λxs H Q=>∃p,∃ns:List Int,xs=[.ref p]/\fP X.K H p (ns.map V.int)/\ns.length<4000/\X.calm=eh/\
    ∀l S n,H l=ee->n=(Ž (λi=>ns.getD i 0) ns.length).length->Q (.ref l) (upd H l<|.set S n)):=by
 intro Â s σ H xs us Q I r h;obtain⟨p,ns,rfl,hq,h4,hc,q⟩:=h;obtain⟨u,rfl,rx⟩:=ZQ r;cases rx;obtain⟨ô,rv,pl,hz⟩:=I.list hq;have hlen:=rv.length;rw[Á]at hlen;refine call_set_list (I.ok.hd hc) pl.isList (by simpa using ZI rv) (by rw[Ï];show ô.length+1<4096;lia) λh' tk hS hk=>?_;refine⟨.ref s.heap.objs.size,_,I.laid (a:=s.heap.objs.size) (o:=.set _ _) (t':=tk) (λb o e=>hk b o (Ô e) e) (Ì _) hS,rfl,q _ _ _ (I.hok.fresh<|Ì _) ?_⟩;rw[Ï,hlen]
def Bg:eN X (.builtin "len") λxs H Q=>∃p S n,xs=[.ref p]/\H p=d9 (.set S n)/\Q (.int n) H:=by
 intro Â s σ H xs us Q I r h;obtain⟨p,S,n,rfl,hq,q⟩:=h;obtain⟨u,rfl,rx⟩:=ZQ r;cases rx;obtain⟨o,es,ep,t,e,hex,hd,_,_,hb,hf,hn⟩:=(show eP X.prog X.w H s.heap p (.set S n) from I.hok p _ hq)
 subst hn;exact call_len_set e hex hd hf (by have:es.size<4096:=hb;lia) ⟨.int _,H,I.tok _,⟨_,rfl⟩,q⟩
end
section
variable {X:Cx}{x:Str}{p ë:Pos}{e:Expr}{es:List Expr}{t:TA}
def QN{T:String}(hg:Gl X x)(hm:X.mg x=ee)(hv:ť x=d9 (.type T))(hn:x≠"__name__":=by decide)(hd:(x==("__debug__" : Str))=ei:=by decide):PE X (.Name x ë)<|tC<|.ty T:=Gi hg hm hv rfl hn hd
end
abbrev Yy(scope sc:η)(N:List Str)(x:List Str)(ö:List Nat):Bool :=
 scope.names.all (λy=>y.2 != .cell)&&scope.names.all (λy=>y.2 != .local||scope.names.lookup y.1==d9 .local)&&x.all (λy=>scope.names.lookup y==d9 .local) &&
 scope.names.all (λy=>y.2 != .free||sc.names.lookup y.1==d9 .cell) &&
 ö.all (λj=>gg (j<N.length)&&sc.names.lookup (N.getD j Str.empty)==d9 .cell&&scope.names.lookup (N.getD j Str.empty)==d9 .free)&&gg (x++ö.map λj=>N.getD j Str.empty).Nodup
def OR{X:Cx}{scope sc:η}{x:List Str}{ö:List Nat}{N:List Str}(hsc:X.env.scope=sc)(hN:X.N=N)(hk:scope.kind=.function)(h:Yy scope sc N x ö=eh):BlkOk X scope x ö:=by
 unfold Yy at h;simp only[bAq]at h;obtain⟨⟨⟨⟨⟨h1,h2⟩,h3⟩,h4⟩,h5⟩,h6⟩:=h;rw[ü]at h1 h2 h4 h5;refine⟨hk,λy hy=>by simpa using h1 y hy,λy hy e=>?_,λy hy=>by simpa using ü.mp h3 y hy,λy hy e=>?_,λj hj=>?_,?_⟩
 .have:=h2 y hy;rw[e]at this;simpa using this
 .have:=h4 y hy;rw[e]at this;show X.env.scope.names.lookup y.1=_;rw[hsc];simpa using this
 .have:=h5 j hj;simp only[bAq,gc,beq_iff_eq]at this;obtain⟨⟨a,b⟩,c⟩:=this;refine⟨?_,?_,?_⟩
  .rw[hN,Ê a];rfl
  .show X.env.scope.names.lookup _=_;rw[hsc,hN];exact b
  .rw[hN];exact c
 .unfold Yh;rw[hN];exact of_decide_eq_true h6
abbrev fb(r:Í)(H H':Hp):Prop:=∀b o,H b=d9 o->b≠r->H' b=d9 o
def fb.refl(r:Í)(H:Hp):fb r H H:=λ_ _ h _=>h
def fb.trans{r:Í}{H H1 H2:Hp}(a:fb r H H1)(b:fb r H1 H2):fb r H H2:=λc o h n=>b c o (a c o h n) n
noncomputable abbrev Tie:=Int×Int×Int
variable {c:Bool} {A:Prop} {B:Prop}
def fH(e:c=eh)(h:A):if c=eh then A else B:=by rw[fZ e];exact h
def fI(e:c=ei)(h:B):if c=eh then A else B:=by rw[e,f8 ù];exact h
structure BrOk(ns:List Int):Prop where
 one:1<=ns.length
 ten:ns.length<=10
 rng:∀n∈ns,0<=n/\n<=999
 nd:ns.Nodup
structure TieOk(ns:List Int)(t:Tie):Prop where
 a:t.1∈ns
 b:t.2.1∈ns
 ne:t.1≠t.2.1
 lo:1<=t.2.2
 hi:t.2.2<=1000
structure TsOk(ns:List Int)(ts:List Tie):Prop where
 few:ts.length<=16
 each:∀t∈ts,TieOk ns t
abbrev mn(x y:Int):Int:=if y<x then y else x
section
variable {X:Cx}(K:Frag) (h:X.K=K)
include h
end
section
variable {prog:å}{w:ø}{A:ĉ}{E:Ã->Å->Prop}{s:Å}
variable {it:Í} {i:Nat} {items:Array Ã} {Q:Ã->Å->Prop}
def Ua{t:Í}{x:Ã}(hit:s.heap.IsTupleIter it t i)(ht:s.heap.IsTuple t items)(hx:items[i]?=d9 x)
  (hQ:∀h',h'.IsTupleIter it t (i+1)->Ů it s.heap h'->Q x {s with heap:=h'}):wpAny (ß prog w) A (Builtin.SmallTypes.nextOf<|.ref it) Q E s:=by
 obtain⟨o,ho,hc,hd⟩:=id hit;obtain⟨ot,hot,_,nt,hdt⟩:=ht;unfold Builtin.SmallTypes.nextOf;refine À<|Ĳ (name:=gh "__next__") hit.typeIs F.slot_tuple_iterator_next<|Ġ F.slot_tuple_iterator_next hit.typeIs F.entry_tuple_iterator_next ?_<|F.args_tuple_iterator_next_1 _;show wpAny _ _ (field (.ref it) 0 >>= _) _ _ s;refine À<|Ŋ ho hd (x:=.ref t) rfl ?_;show wpAny _ _ (if(Value.ref t==Value.none)=eh then _ else _) _ _ s;rw[f8<|show ¬ ((Value.ref t==Value.none)=eh) from ù];show wpAny _ _ (field (.ref it) 1 >>= _) _ _ s;refine À<|Ŋ ho hd (x:=.int i 0) rfl ?_;show wpAny _ _ (ϳ (.ref t) >>= _) _ _ s;refine À<|ľ hot hdt ?_;simp only[ç,hx];refine À (Ŀ ho hd (by simp)<|Æ ⟨x,rfl,Æ<|hQ _ ⟨_,ė _ ho<|cF<|Β hd _,(Obj.cls_mapFields ..).trans hc,?_⟩<|Ă ..⟩);rw[Β hd];simp[ĥ]
def K9{t:Í}(hh:A.handled=ee)(hit:s.heap.IsTupleIter it t i)(ht:s.heap.IsTuple t items)(hx:items[i]?=ee)
  (hE:∀h' e,Heap.ExtBut it s.heap h'->(∃o,h'.get? e=d9 o/\o.cls=.type "StopIteration")->E (.ref e) {s with heap:=h'}):wpAny (ß prog w) A (Builtin.SmallTypes.nextOf<|.ref it) Q E s:=by
 obtain⟨o,ho,hc,hd⟩:=id hit;obtain⟨ot,hot,_,nt,hdt⟩:=ht;unfold Builtin.SmallTypes.nextOf;refine À<|Ĳ (name:=gh "__next__") hit.typeIs F.slot_tuple_iterator_next<|Ġ F.slot_tuple_iterator_next hit.typeIs F.entry_tuple_iterator_next ?_<|F.args_tuple_iterator_next_1 _;show wpAny _ _ (field (.ref it) 0 >>= _) _ _ s;refine À<|Ŋ ho hd (x:=.ref t) rfl ?_;show wpAny _ _ (if(Value.ref t==Value.none)=eh then _ else _) _ _ s;rw[f8<|show ¬ ((Value.ref t==Value.none)=eh) from ù];show wpAny _ _ (field (.ref it) 1 >>= _) _ _ s;refine À<|Ŋ ho hd (x:=.int i 0) rfl ?_;show wpAny _ _ (ϳ (.ref t) >>= _) _ _ s;refine À<|ľ hot hdt ?_;simp only[ç,hx];refine À (Ξ<|À<|Ŀ ho hd (by simp) ?_);show wpAny _ _ (newExc (.type "StopIteration") [] >>= _) _ _ _;refine À ?_;simp only[newExc,newTuple];refine À (Ĉ (À (m:=Ϭ _ _)<|bq (a:=Value.none) (by first|rfl|(simp only[Ϭ];rfl))<|Ĉ ?_<|by size_fits)<|by size_fits);simp only[raiseNew];refine À<|wpAny_handled ?_
 first
 |rw[show A.in1.handled=ee from hh]
 |rw[hh]
 exact À<|Æ<|wpAny_throw<|hE _ _ (((Ă ..).extBut.push _).push _) ⟨_,Õ _ rfl,rfl⟩
end
variable {prog:å} {w:ø} {A:ĉ}
def IQ(hh:A.handled=ee)(it t:Í)(ų:t≠it)(items:Array Ã) :
  Draws prog w A it [it,t] items.size (λi v=>items[i]?=d9 v) (λi h=>h.IsTupleIter it t i/\h.IsTuple t items) where
 live:=λ_ _ st=>let ⟨o,ho,_⟩:=st.1;⟨o,ho⟩
 frame:=λ_ _ _ st hk=>⟨st.1.at λo e=>hk it (by simp) o e,st.2.at λo e=>hk t (by simp) o e⟩
 item:=λi s Q E hi st hQ=>Ua st.1 st.2 (x:=items[i]) (by simp[hi]) λh' hit' hs'=>hQ _ h' s.toks (by simp[hi]) ⟨hit',st.2.extBut hs'.extBut ų⟩ hs'
 done:=λs Q E st hE=>K9 hh st.1 st.2 (by simp) hE
open AutoSeq1 (wpAny_loadPart') in
def Le(l:Í)(items:Array Ã)(n:Nat)(dct:Option Í)(sl:Array<|Option Ã) :
  Meets (Builtin.«enumerate.__new__» ⟨[.type "enumerate",.ref l],[]⟩) (λ_ R s=>s.heap.get? l=d9 { cls:=.type "tuple",dict:=dct,data:=.seq items n,slots:=sl }/\
    R (.ok<|.ret<|.ref (s.heap.push {cls:=.type "tuple_iterator",data:=.fields #[.ref l,.int 0 0]}).objs.size)
      { s with heap:=(s.heap.push { cls:=.type "tuple_iterator",data:=.fields #[.ref l,.int 0 0] }).push { cls:=.type "enumerate",data:=.fields #[.none,.bool ei,.ref s.heap.objs.size,ĥ 0,.none,.none] } }) :=
 .of_wp λprog w A R s h=>by
  obtain⟨hp,g,d,tk,os⟩:=s;obtain⟨hl,h⟩:=h;have hsub:=sub_enumerate;have hL:Heap.IsTuple (Shared.heap ⟨hp,g,d,tk,os⟩) l items:=⟨_,hl,rfl,n,rfl⟩
  wp_walk using ĝ hl
  refine wpAny_stack_any λst=>Æ ?_;split
  .rename_i c _ _ _ _ _;cases (c==Value.type "enumerate")<;>(wp_walk using ĝ hl,am hL;exact⟨_,rfl,h⟩)
  .wp_walk using ĝ hl,am hL;exact⟨_,rfl,h⟩
def Um{E:Ã->Å->Prop}{s:Å}{l:Í}{items:Array Ã}{Q:Ã->Å->Prop}(hL:s.heap.IsTuple l items)
  (h:∀h',IsEnum h' (s.heap.objs.size+1) s.heap.objs.size 0 .none->h'.IsTupleIter s.heap.objs.size l 0->(∀b o,s.heap.get? b=d9 o->h'.get? b=d9 o)->Q (.ref<|s.heap.objs.size+1) {s with heap:=h'}) :
  wpAny (ß prog w) A (call (.type "enumerate") [.ref l]) Q E s:=by
 obtain⟨⟨c,dct,dt,sl⟩,hl,hc,n,hd⟩:=hL;simp only at hc hd;subst hc hd;refine callType_new F.called_enumerate (by decide) (F.typeCall_enumerate_1 _) (F.newCall_enumerate_1 _) (λobj=>F.args_object_init_2 obj _) F.entry_enumerate_new (Le l items n dct sl) ⟨hl,?_⟩;have hz:(s.heap.push {cls:=.type "tuple_iterator",data:=.fields #[.ref l,.int 0 0]}).objs.size=s.heap.objs.size+1:=ů ..;have hg:=Õ (s.heap.push {cls:=.type "tuple_iterator",data:=.fields #[.ref l,.int 0 0]}) (o:={cls:=.type "enumerate",data:=.fields #[.none,.bool ei,.ref s.heap.objs.size,ĥ 0,.none,.none]}) rfl;rw[hz]at hg;show _/\_;rw[hz];exact⟨⟨_,hg,rfl⟩,h _ hg ⟨_,Ä _<|Õ _ rfl,rfl,rfl⟩ λb o x=>Ä _<|Ä _ x⟩
section
variable {X:Cx}{Â:List (Í×Obj)}{σ:St}{H:Hp}{s:Å}{h':Ć}
def Inv.turnedL{t':Nat}{ch:List Í}(I:Inv X Â σ H s)(k:∀b o,b∉ch->s.heap.get? b=d9 o->h'.get? b=d9 o)(hc:∀b∈ch,WK X Â H b):Inv X Â σ H {s with heap:=h',toks:=t'}:=by
 have nit:∀b u,H b=d9 u->b∉ch:=λb u e z=>by rw[(hc b z).1]at e;cases e
 refine I.step (g':=s.gens) (d':=s.drawn) (ch:=ch) (λb hb=>?_) (λb o _ _ hcb e _=>k b o hcb e) (λb o _ _ hcb e _=>⟨o.slots,k b o hcb e⟩) (λ_ _ _ _ n=>n)
  (λb o hcb e=>⟨o,k b o hcb e⟩) (λ_ _ e=>e) (λ_ _ _ e=>e) (λb ps e=>⟨#[],by rw[e];simp⟩) (λm hm=>?_) (λb u e=>?_) I.bare
 .obtain⟨_,q2,_,q4,q5,q6⟩:=hc b hb;exact⟨q4,q2,q5,q6⟩
 .obtain⟨o,es,ep,ho,r⟩:=hm;exact⟨o,es,ep,k _ o (λz=>(hc _ z).2.1 rfl) ho,r⟩
 .refine(I.hok b u e).stay (λc v hcc q=>k c v ?_ q) (λ_ q=>q) λ_ _ q=>q;rcases hcc with z|z
  .rw[z];exact nit b u e
  .exact nit c _ z
def Inv.track{T:Í}{o:HO}(I:Inv X Â σ H s)(hT:H T=ee)(h0:X.s₀.heap.objs.size<=T)(hL:T≠X.env.locals)(aD:∀x c,X.env.cells.lookup x=d9 c->c≠T)(hp:∀p∈X.pn++Â,p.1≠T)
  (new:eP X.prog X.w (upd H T o) s.heap T o):Inv X Â σ (upd H T o) s:=by
 have neT:∀b ob,X.s₀.heap.get? b=d9 ob->b≠T:=λb ob e=>à<|ã (Ô e) h0;refine⟨I.ok,I.os,I.bare,⟨I.base.keep,I.base.slot,λb ob e n hx=>?_,I.base.there,λb xs e=>?_,λb ob xs e=>?_,λb ps e=>?_⟩,I.loc,I.cell,?_,λx c e=>?_,λp hpp=>?_,I.hok.track hT new,I.len⟩
 .rw[ej<|neT b ob e];exact I.base.free b ob e n hx
 .have q:=I.base.tups b xs e;rw[ej<|Zl q hT];exact q
 .have q:=I.base.frzs b ob xs e;rw[ej<|Zl q hT];exact q
 .obtain⟨m,q⟩:=I.base.tbls b ps e;exact⟨m,by rw[ej<|Zl q hT];exact q⟩
 .rw[ej hL.symm];exact I.free
 .rw[ej<|aD x c e];exact I.freeC x c e
 .obtain⟨a,b,c,d,e⟩:=I.pin p hpp;exact⟨a,by rw[ej<|hp p hpp];exact b,c,d,e⟩
end
abbrev Ite(K:Frag)(a:Í):It :=
 ⟨λi H=>∃xs x,fQ K H a xs/\xs[i]?=d9 x,λi H v H'=>∃p,v=.ref p/\H p=ee/\∀xs x,fQ K H a xs->xs[i]?=d9 x->H'=upd H p (.tup [.int i,x]),λi H=>∃xs,fQ K H a xs/\xs.length<=i⟩
variable {es:List Expr} {kk:Nat} {tp:Pos}
def Ou{P:å}{K:Frag}(a it e:Í)(ų:e≠it) :
  Turn P w K (.Tuple es kk tp) (Ite K a) [e,it] e (λi h=>(∃Ϣ,IsEnum h e it i Ϣ)/\h.IsTupleIter it a i) where
 mem:=by simp
 obj:=λi h st b hb=>by
  obtain⟨⟨Ϣ,h1⟩,o2,e2,_,d2⟩:=st;rcases Ç.mp hb with q|q
  .subst q;exact⟨_,h1,λv z=>by cases z⟩
  .have q:b=it:=by simpa using q
   subst q;exact⟨o2,e2,λv z=>by rw[d2]at z;cases z⟩
 keep:=λi h h' st k=>⟨let ⟨Ϣ,h1⟩:=st.1;⟨Ϣ,k e (by simp) _ h1⟩,st.2.at λo q=>k it (by simp) o q⟩
 item:=by
  intro X hP hw hK hc i Â s σ H E I hf st hg;subst hP hw hK;obtain⟨xs,x,hq,hx⟩:=hg;obtain⟨ô,rv,pl,hz⟩:=I.tuple hq;obtain⟨u,hu,ru⟩:=rv.get hx;have hsz:=rv.length;have hi:i<ô.toArray.size:=by rw[Ï];exact(Î.mp hu).1
  obtain⟨⟨Ϣ,h1⟩,h2⟩:=st;have hfi:=hf it (by simp);have hai:a≠it:=λz=>by obtain⟨o,ho,aD,_⟩:=h2;obtain⟨o',ah,hcl',_⟩:=pl;rw[z,ho]at ah;cases ah;rw[aD]at hcl';exact gf (ϴ hcl') (by decide)
  have hae:e∉[it,a]:=λz=>by
   rcases Ç.mp z with z|z
   .exact ų z
   .have z:e=a:=by simpa using z
    obtain⟨o',ah,hcl',_⟩:=pl;rw[<-z,h1]at ah;cases ah;exact gf (ϴ hcl') (by decide)
  refine wpAny_pyNext_enum_itemD (IQ (A:=X.A.in1) (I.ok.hd hc) it a hai ô.toArray) h1 ⟨h2,pl⟩ hi ų hae λv h3 tk hv hout hst3 hT _ hk=>?_;have ev:v=u:=by
   have hv:ô[i]?=d9 v:=by simpa using hv
   rw[hu]at hv;exact(í hv).symm
  subst ev;have nT:∀b∈[e,it],s.heap.objs.size≠b:=λb hb z=>by
   rcases Ç.mp hb with q|q
   .exact gf (Ô h1) (by rw[<-q,<-z];exact ġ _)
   .have q:b=it:=by simpa using q
    obtain⟨o,ho,_⟩:=h2;exact gf (Ô ho) (by rw[<-q,<-z];exact ġ _)
  have bE:=I.fpOk (H':=H) (Ì s.heap.objs.size) I.fresh;refine⟨.ref s.heap.objs.size,rfl,wpAny_letOwnedTupleGo_enum hout λh4 he4 hs4=>?_⟩;have I4:Inv X Â σ H {s with heap:=h4,toks:=tk+1}:=I.turnedL (t':=tk+1) (ch:=[e,it]) (λb o hb q=>hs4.extBut b o (λz=>hb<|by simp[z])<|hk b o (λz=>hb<|by simp[z]) (λz=>hb<|by simp[z]) q) hf;have hT4:h4.get? s.heap.objs.size=d9 {cls:=.type "tuple",data:=.seq #[.int i tk,v]}:=hs4.extBut _ _ (nT e<|by simp) hT;obtain⟨f0,f1,f2,f3,f4,f5⟩:=bE;have I5:Inv X Â σ (upd H s.heap.objs.size<|.tup [.int i,x]) {s with heap:=h4,toks:=tk+1}:=I4.track f0 I.sz f1 f4 f5 ⟨by show 2<=Ý;decide,[.int i tk,v],.cons ⟨tk,rfl⟩<|.cons ru .nil,_,hT4,rfl,_,rfl⟩;refine⟨.ref s.heap.objs.size,_,I5,rfl,⟨s.heap.objs.size,rfl,f0,λys y hy hyi=>?_⟩,⟨⟨v,by simpa using he4⟩,hst3.1.at λo q=>hs4.extBut it o (Ne.symm ų) q⟩,λb hb=>?_⟩
  .have ey:ys=xs:=I.tuple_inj hy hq;rw[ey,hx]at hyi;rw[í hyi]
  .rw[ej (nT b hb).symm];exact(hf b hb).1
 done:=by
  intro X hP hw hK hc i Â s σ H E I hf st hg;subst hP hw hK;obtain⟨xs,hq,hx⟩:=hg;obtain⟨ô,rv,pl,hz⟩:=I.tuple hq;have hl:=rv.length;obtain⟨⟨Ϣ,h1⟩,h2⟩:=st;have hai:a≠it:=λz=>by obtain⟨o,ho,aD,_⟩:=h2;obtain⟨o',ah,hcl',_⟩:=pl;rw[z,ho]at ah;cases ah;rw[aD]at hcl';exact gf (ϴ hcl') (by decide)
  have hT:s.TypeIs (.ref e) "enumerate":=⟨_,h1,rfl⟩
  unfold χ;refine À<|wpAny_attempt<|Ĳ (name:=gh "__next__") hT F.slot_enumerate_next<|Ġ F.slot_enumerate_next hT F.entry_enumerate_next ?_<|F.args_enumerate_next_1 _;show wpAny _ _ (field (.ref e) 2 >>= _) _ _ _;refine À<|Ŋ h1 rfl (x:=.ref it) rfl ?_;refine À (K9 (A:=X.A.in1) (I.ok.hd hc) h2 pl (by simp;lia) λh' x he' hx'=>?_);obtain⟨o,ho,aD⟩:=hx';refine À<|a9 (T:="StopIteration") (b:=eh) ⟨o,ho,aD⟩ isSubtype_stop<|Æ ⟨rfl,?_⟩;exact I.turnedL (t':=s.toks) (ch:=[it]) (λb ob hb q=>he' b ob (λz=>hb<|by simp[z]) q) λb hb=>hf b<|â _ hb
 self:=λA i s Q E st h=>by obtain⟨⟨Ϣ,h1⟩,_⟩:=st;exact wpAny_pyIter_enum h1 h
section
variable {X:Cx}
abbrev Ik(K:Frag)(ta:TA):TI:=λσ H R=>ta σ H λvs H1=>∃a,vs=[.ref a]/\(∃xs,fQ K H1 a xs)/\R (Ite K a) H1
def EE{p ë:Pos}{e:Expr}{ta:TA}(hg:Gl X "enumerate")(hm:X.mg "enumerate" = ee)(ha:PA X [e] ta)(hs:Þ [e] X.env=[(ei,eval e X.env)]:=by rfl) :
  PI X (.Tuple es kk tp) (.Call (.Name "enumerate" p) [e] [] ë) (Ik X.K ta):=by
 intro Â s σ H R I h;refine Call_ (YM (u:=.type "enumerate") I hg hm (by kernel_rfl)<|PyProof.Rows.callWith_type1 (T:="enumerate") (thn (ha ë Â s σ H _ I h) λus s1 ⟨vs,H1,I1,r1,q1⟩=>?_) hs rfl);obtain⟨a,e1,⟨xs,hq⟩,q⟩:=q1;subst e1;obtain⟨u,rfl,ru⟩:=ZQ r1;cases ru;obtain⟨ô,rv,pl,hz⟩:=I1.tuple hq;refine Um pl λh2 he2 cO hk2=>?_;have I2:Inv X Â σ H1 {s1 with heap:=h2}:=I1.kept (t':=s1.toks) hk2;refine wpAny_pyIter_enum he2 ⟨s1.heap.objs.size+1,[s1.heap.objs.size+1,s1.heap.objs.size],_,_,H1,rfl,I2,Ou a s1.heap.objs.size (s1.heap.objs.size+1)<|ő<|Ĝ _,⟨⟨_,he2⟩,cO⟩,λb hb=>?_,q⟩;have bf:s1.heap.objs.size<=b:=by
  rcases Ç.mp hb with z|z
  .rw[z];exact Ņ _
  .have z:b=s1.heap.objs.size:=by simpa using z
   rw[z];exact Ì _
 exact I1.fpOk bf<|I1.hok.fresh bf
end
end L2
namespace L2
open PySem PySem.Spec PyProof.Rows
open PySem.Builtin PySem.Builtin.Str
noncomputable abbrev TJ:=St->Hp->Str->(Str->Hp->Prop)->Prop
abbrev PJ(X:Cx)(vs:List Expr)(t:TJ):Prop :=
 ∀(Â:List<|Í×Obj) (s:Å) (σ:St) (H:Hp) (Ė:Str) (Q:Str->Hp->Prop),Inv X Â σ H s->t σ H Ė Q->
  Joins (ß X.prog X.w) X.A X.xe (ce vs X.env) Ė (λout s1=>∃H1,Inv X Â σ H1 s1/\out.length<=Ý/\Q out H1) s
abbrev Sk:TJ:=λ_ H Ė Q=>Ė.length<=Ý/\Q Ė H
abbrev RJ(te:TE)(tr:TJ):TJ:=λσ H Ė Q=>te σ H λx H1=>∃y,x=.str y/\(Ė++y).length<=Ý/\tr σ H1 (Ė++y) Q
section
variable {X:Cx}{e:Expr}{es:List Expr}{te:TE}{tr:TJ}{ë:Pos}
def pj_nil:PJ X [] Sk:=λÂ s σ H Ė Q I h=>⟨H,I,h.1,h.2⟩
def Gw(he:PE X e te)(hr:PJ X es tr)(hs:ce (e::es) X.env=eval e X.env::ce es X.env:=by rfl):PJ X (e::es)<|RJ te tr:=by intro Â s σ H Ė Q I h;rw[hs];show wpAny _ _ _ _ _ _;refine thn (he Â s σ H _ I h) λv s1 ⟨x,H1,I1,r1,y,e1,hz,q1⟩=>?_;subst e1;obtain⟨t,rfl⟩:=r1;exact⟨y,t,rfl,hz,hr Â s1 σ H1 (Ė++y) Q I1 q1⟩
def Joins.imp{M:Model}{A:ĉ}{E:Ã->Å->Prop}:∀{ps:List (Sem Ã)}{Ė:Str}{Q Q':Str->Å->Prop}{s:Å},(∀o s,Q o s->Q' o s)->Joins M A E ps Ė Q s->Joins M A E ps Ė Q' s
 |[],_,_,_,_,f,h=>f _ _ h
 |_::_,_,_,_,_,f,h=>thn h λv s1 ⟨y,t,e,hz,hr⟩=>⟨y,t,e,hz,Joins.imp f hr⟩
end
abbrev wT:Str:="tie"
structure eZ(bs:List Int)(ts:List Tie):Prop where
 br:BrOk bs
 ti:TsOk bs ts
 so:sortI bs=bs
 lo:ts.map loT=ts
end L2
namespace L2
open PySem PySem.Spec PyProof.Rows
variable {P:å} {w:ø} {H:Hp} {h:Ć} {a:Í}
def eP.obj{o:HO}(x:eP P w H h a o):∃u,h.get? a=d9 u:=by
 cases o with
 |lst xs=>obtain⟨_,_,_,_,e⟩:=x;exact⟨_,e⟩
 |tup xs=>obtain⟨_,_,_,ob,e,_⟩:=x;exact⟨_,e⟩
 |dK kvs=>obtain⟨_,_,_,_,o,_,_,e,_⟩:=x;exact⟨_,e⟩
 |dT kvs=>obtain⟨_,_,_,_,o,_,_,e,_⟩:=x;exact⟨_,e⟩
 |set S n=>obtain⟨o,_,_,_,e,_⟩:=x;exact⟨_,e⟩
 |ins C dx fs=>obtain⟨_,_,_,e,_⟩:=x;exact⟨_,e⟩
 |own y=>exact x
 |xd fs=>obtain⟨_,⟨_,_,_,e,_⟩,_⟩:=x;exact⟨_,e⟩
 |rng lo hi=>obtain⟨_,_,_,e⟩:=x;exact⟨_,e⟩
 |frz ob u=>exact⟨_,x.1⟩
 |tbl ps=>exact⟨_,(show h.get? a=d9 _ from x)⟩
 |met f y=>exact⟨_,(show h.get? a=d9 _ from x)⟩
 |ext φ=>exact x.2.1
abbrev Hg(h:Ć)(a:Í)(cls:Ã)(T:Option Í):Prop :=
 ∃oe vs a0,h.get? a=d9 oe/\oe.cls=cls/\oe.data=.fields vs/\vs[0]?=d9 a0/\
  match T with
  |none=>vs[1]?=d9 .none
  |some T=>vs[1]?=d9 (.ref T)/\T≠a/\∃oT ts fl,h.get? T=d9 oT/\oT.data=.fields ts/\ts[3]?=d9 fl
structure Fl(P:å)(w:ø)(l:List Env)(H:Hp)(s:Å)(H':Hp)(a:Í)(cls:Ã)(s':Å):Prop where
 os:s'.os=s.os
 bare:Ω s'.gens
 un:Un (frs l) [] H H' s.heap s'.heap
 hok:HOk P w H' s'.heap
 na:s.heap.get? a=ee
 ha:H' a=ee
 ex:∃T,Hg s'.heap a cls T/\∀t,T=d9 t->s.heap.get? t=ee/\H' t=ee
abbrev CX1(P:å)(w:ø):CXT:=λl H s E e s'=>∃a cls H',e=.ref a/\Fl P w l H s H' a cls s'/\E cls ee H'
abbrev XW(X:Cx)(E:XK):Prop:=∀(Â:List<|Í×Obj) (σ:St) (H:Hp) (s:Å) (H':Hp) (a:Í) (cls:Ã) (s':Å),
 Inv X Â σ H s->Fl X.prog X.w X.stack H s H' a cls s'->E cls ee H'->X.xe (.ref a) s'
def XW.passes{X:Cx}{E:XK}(h:XW X E):Xr (CX1 X.prog X.w) X E:=λÂ σ H s e s' I ⟨a,cls,H',z,f,q⟩=>by subst z;exact h Â σ H s H' a cls s' I f q
section
variable {M:Model}{A:ĉ}{E:Ã->Å->Prop}{s:Å}{B:Ć}{env:Env}{outer:List Env}{L a:Í}{cls:Ã}{T:Option Í}{Q:Unit->Å->Prop}
abbrev Xw(h:Ć)(l:List Env)(a:Í)(T:Option Í):Ć:=PySem.W.hideAll h<|a::(T.toList++frs l)
def Xm(h:Ć)(l:List Env)(a:Í)(T:Option Í):(Xw h l a T).StaysIn h:=λb o e=>PySem.W.of_hideAll _ e
def Ke{l:List Env}(a:Í)(T:Option Í)(hl:h.FunFrames B l):h.FunFrames (Xw h l a T) l :=
 PySem.W.funFrames_hide hl λe he b hb=>â _<|É _<|ο.mpr ⟨e,he,hb⟩
def UK(h:Ć)(l:List Env)(a:Í)(T:Option Í):(Xw h l a T).get? a=ee:=PySem.W.hideAll_none _ ò
def UJ(h:Ć)(l:List Env)(a t:Í):(Xw h l a<|d9 t).get? t=ee:=PySem.W.hideAll_none _ (â _<|Ú _<|by simp)
def Bo(bE:A.frames=d9 (env::outer))(hf:env.frame=d9 L)(hl:s.heap.FunFrames B<|env::outer)(hx:Hg s.heap a cls T)
  (fin:∀h' a0,Heap.NotedW (Xw s.heap (env::outer) a T) (env::outer) a cls a0 (ĥ L) s.heap h'->Q () {s with heap:=h'}):wpAny M A (aZ (.ref a) env) Q E s:=by
 obtain⟨oe,vs,a0,he,hc,hd,h0,ht⟩:=hx;have fin:=λh'=>fin h' a0;cases T with
 |none =>subst hc;unfold aZ;simp only[hf];refine À<|Ŋ he hd ht ?_;rw[f8<|by decide];exact wpAny_entryW bE (Ke a ee hl) hf he (Xm _ _ _ _) (UK _ _ _ _) hd (ķ.mp ht).1 h0 fin
 |some t =>
  obtain⟨h1,ų,oT,ts,fl,e1,e2,e3⟩:=ht;by_cases c:fl=ĥ L
  .subst c;have tr:s.heap.TracedAtW (Xw s.heap (env::outer) a<|d9 t) a cls a0<|ĥ L:=⟨oe,vs,t,oT,ts,he,⟨hc,h0⟩,hd,h1,UJ _ _ _ _,ų,e1,e2,e3⟩
   exact wpAny_noteFrame_againW hf tr<|fin _ ⟨Xm _ _ _ _,Ke a (d9 t) hl,tr,λb o e nf=>⟨o.slots,e⟩⟩
  .subst hc;unfold aZ;simp only[hf];refine À<|Ŋ he hd h1 ?_;rw[fZ<|by simp];refine À<|Ŋ e1 e2 e3 ?_;rw[f8<|by simpa using c];refine À<|Ŀ e1 e2 (ķ.mp e3).1 ?_;have off:∀b,b≠t->(s.heap.update t (Ο (·.setIfInBounds 3 Value.none))).get? b=s.heap.get? b:=λb hb=>ð _ _ hb.symm;have nr:∀b o,s.heap.get? b=d9 o->(∀vs,o.data≠.fields vs)->b≠t:=λb o hb nf z=>by
    rw[z,e1]at hb;cases hb;exact nf ts e2
   have bn:=UJ s.heap (env::outer) a t;exact wpAny_entryW bE ((Ke a (d9 t) hl).of_keeps λb o hb nf=>⟨o,(off b<|nr b o hb nf).trans hb,rfl⟩) hf ((off a ų.symm).trans he) (λb o hbo=>(off b λz=>by rw[z,bn]at hbo;cases hbo).trans<|Xm _ _ _ _ b o hbo) (UK _ _ _ _) hd (ķ.mp h1).1 h0 λh' ⟨x1,x2,x3,x4⟩=>fin h' ⟨x1,x2,x3,λb o hb nf=>x4 b o ((off b<|nr b o hb nf).trans hb) nf⟩
def AQ(bE:A.frames=d9 (env::outer))(hf:env.frame=d9 L)(hl:s.heap.FunFrames B<|env::outer)(hx:Hg s.heap a cls T)
  (h:∀h' a0,dn (Xw s.heap (env::outer) a T) (env::outer) a cls a0 s.heap h'->Q () {s with heap:=h'}):wpAny M A (aZ (.ref a) env) (λ_ s2=>wpAny M A (setFlight (.ref a) ee) Q E s2) E s :=
 Bo bE hf hl hx λh' a0 ⟨k1,k2,k3,k4⟩=>wpAny_setFlight_noneW k1 k2 k3 λh2 j1 j2 j3 j4=>h h2 a0 ⟨j1,j2,j3,λb o e nf=>by
   obtain⟨sl,e2⟩:=k4 b o e nf
   exact⟨sl,j4 b _ e2 nf⟩⟩
def Ug(bE:A.frames=d9 (env::outer))(hf:env.frame=d9 L)(hl:s.heap.FunFrames B<|env::outer)(hx:Hg s.heap a cls T)
  (h:∀h' a0,dn (Xw s.heap (env::outer) a T) (env::outer) a cls a0 s.heap h'->Q () {s with heap:=h'}):wpAny M A (leaving env<|.ref a) Q E s:=À<|AQ bE hf hl hx h
end
variable {l:List Env} {H':Hp} {s:Å} {s':Å} {cls:Ã} {a0:Ã} {h':Ć} {B:Ć} {T:Option Í}
def Fl.noted{fl:Ã}(f:Fl P w l H s H' a cls s')(hT:∀t,T=d9 t->s.heap.get? t=ee/\H' t=ee)
  (hl:s'.heap.FunFrames B l) (bE:∀b∈frs l,H' b=ee) (z:Heap.NotedW (Xw s'.heap l a T) l a cls a0 fl s'.heap h'):Fl P w l H s H' a cls {s' with heap:=h'}:=by
 obtain⟨k1,k2,k3,k4⟩:=z;have inb:∀b o,s'.heap.get? b=d9 o->b≠a->(∀t,T=d9 t->b≠t)->b∉frs l->h'.get? b=d9 o:=λb o e na nt nf=>k1 b o (PySem.W.hideAll_get _ e (by
   intro m
   rcases Ç.mp m with m|m
   . exact na m
   . rcases Ü.mp m with m|m
     . cases T with
       |none=>cases m
       |some t=>exact nt t rfl (by simpa using m)
     . exact nf m))
 have slot:∀b o,s'.heap.get? b=d9 o->b∈frs l->∃sl,h'.get? b=d9 {o with slots:=sl}:=λb o e hb=>by obtain⟨_,o2,e2,nf⟩:=hl.mem hb;rw[e]at e2;cases e2;exact k4 b o e nf
 have Ϣ:∀b o,s.heap.get? b=d9 o->b≠a/\∀t,T=d9 t->b≠t:=λb o e=>⟨(λz=>by rw[z,f.na]at e;cases e),(λt ht z=>by rw[z,(hT t ht).1]at e;cases e)⟩
 refine⟨f.os,f.bare,⟨λb o e n nf _=>?_,λb o e n hb _=>?_,f.un.free,λb o e _=>?_,f.un.tups,f.un.frzs,f.un.tbls⟩,?_,f.na,f.ha,?_⟩
 .exact inb b o (f.un.keep b o e n nf<|by simp) (Ϣ b o e).1 (Ϣ b o e).2 nf
 .obtain⟨sl,e1⟩:=f.un.slot b o e n hb (by simp);obtain⟨sl',e2⟩:=slot b _ e1 hb;exact⟨sl',e2⟩
 .obtain⟨o1,e1⟩:=f.un.there b o e (by simp);by_cases hb:b∈frs l
  .obtain⟨sl,e2⟩:=slot b _ e1 hb;exact⟨_,e2⟩
  .exact⟨o1,inb b o1 e1 (Ϣ b o e).1 (Ϣ b o e).2 hb⟩
 .intro b u e;have good:∀c v,H' c=d9 v->∀ob,s'.heap.get? c=d9 ob->h'.get? c=d9 ob:=λc v ec ob eo =>
   inb c ob eo (λz=>by rw[z,f.ha]at ec;cases ec) (λt ht z=>by rw[z,(hT t ht).2]at ec;cases ec) λm=>by rw[bE c m]at ec;cases ec
  refine(f.hok b u e).stay (λc v hc q=>?_) (λ_ q=>q) λ_ _ q=>q;rcases hc with z|z
  .rw[z]at q ⊢;exact good b u e v q
  .exact good c _ z v q
 .obtain⟨oe,vs,t',oT,ts,e1,⟨e2,e3⟩,e4,e5,e6,e7,e8,e9,e10⟩:=k3;refine⟨d9 t',⟨oe,vs,a0,e1,e2,e4,e3,e5,e7,oT,ts,fl,e8,e9,e10⟩,λt ht=>?_⟩;cases ht;have hid:∀o,s'.heap.get? t'=d9 o->T=d9 t':=λo e=>by
   have nin:¬ (t'∉(a::(T.toList++frs l))):=λm=>by have q:(Xw s'.heap l a T).get? t'=d9 o:=PySem.W.hideAll_get _ e m;rw[e6]at q;cases q
   have m:=Classical.not_not.mp nin;rcases Ç.mp m with m|m
   .exact gf m e7
   .rcases Ü.mp m with m|m
    .cases T with
     |none=>cases m
     |some t=>rw[show t'=t by simpa using m]
    .obtain⟨_,o2,q,nf⟩:=k2.mem m;rw[e8]at q;cases q;exact gf e9<|nf ts
  constructor
  .cases q:s.heap.get? t' with
   |none=>rfl
   |some o =>obtain⟨o1,q1⟩:=f.un.there t' o q (by simp);have:=(hT t'<|hid o1 q1).1;rw[q]at this;cases this
  .cases q:H' t' with
   |none=>rfl
   |some u =>obtain⟨o1,q1⟩:=(f.hok t' u q).obj;have:=(hT t'<|hid o1 q1).2;rw[q]at this;cases this
def Fl.left(f:Fl P w l H s H' a cls s')(hT:∀t,T=d9 t->s.heap.get? t=ee/\H' t=ee)
  (hl:s'.heap.FunFrames B l) (bE:∀b∈frs l,H' b=ee) (z:dn (Xw s'.heap l a T) l a cls a0 s'.heap h'):Fl P w l H s H' a cls {s' with heap:=h'}:=f.noted (fl:=.none) hT hl bE z
section
variable {P:å}{w:ø}{K:Frag}{mg:Str->Option Ã}{base:Ć}
variable {X:Cx} {H:Hp} {s:Å}
def Inv.raised{Â:List (Í×Obj)}{σ:St}{H':Hp}{s':Å}{a:Í}{cls:Ã}(I:Inv X Â σ H s)(f:Fl X.prog X.w X.stack H s H' a cls s'):Inv X Â σ H' s' :=
 I.call' (ch:=[]) f.os f.un f.hok f.bare (λb z=>gf z<|by simp)
def Oy(ok:X.Ok)(h:X.stack=X.env::X.outer):X.env.frame=d9 X.env.locals:=by
 rcases ok.stk with e|e
 .rw[h]at e;exact gf (congrArg List.length e) (by simp)
 .exact e.2
variable {N:List Str} {qual:Str} {f:Í}
def LV{scope:η}{cd:Ã}{A:ĉ}{outer:List Env}{E:XK}:XW (MX (CX1 P w) P w K mg base N qual scope f cd A outer s H E) E:=by
 intro Â σ H2 s2 H' a cls s' I f q;have J:=I.raised f;obtain⟨T,hx,hT⟩:=f.ex;show wpAny _ _ (leaving _ _) _ _ _;refine Ug (outer:=outer) J.ok.frames (Oy J.ok rfl) J.stack hx λh' a0 z=>?_;have f2:=f.left hT J.stack J.stkFree z;have J2:=I.raised f2;have aA:∀b,s2.heap.get? b=ee->s.heap.get? b=ee:=λb e=>by
  cases z:s.heap.get? b with
  |none=>rfl
  |some o =>obtain⟨o',e'⟩:=I.base.there b o z (by intro m;cases m);rw[e]at e';cases e'
 obtain⟨T2,hx2,hT2⟩:=f2.ex;exact⟨a,cls,H',rfl,⟨J2.os,J2.bare,J2.base,J2.hok,aA a f2.na,f2.ha,T2,hx2,λt ht=>⟨aA t (hT2 t ht).1,(hT2 t ht).2⟩⟩,q⟩
def Fun.ok1{x:Str}{st:ļ}{fd:ň}{ps:List Str}{k:Nat}{sp:Sp}(F:Fun K x qual st f fd)(S:FnScope N ps<|Zt st)(len:∀vs H Q E,sp vs H Q E->vs.length=ps.length)
  (hbody:∀(Ϟ:Ã) (A:ĉ) (outer:List Env) (s:Å) (H:Hp) (vs:List V) (Q:VK) (E:XK),fi k (A.deeper<|aj qual (Zt st) s.heap.objs.size f Ϟ)->sp vs H Q E->
    XW (MX (CX1 P w) P w K mg base N qual (Zt st) f Ϟ A outer s H E) E->
    ∃t,PSs (MX (CX1 P w) P w K mg base N qual (Zt st) f Ϟ A outer s H E) (ZV st) t/\t { nx:=λ_ H'=>Q .non H',rt:=Q } (start N vs) H):fj P w K mg base (CX1 P w) (k+1) f fd ps sp:=by
 obtain⟨oc,od,kV,doc,pm,an,Ϟ,ct,osl,rfl,lk,aU⟩:=F.ex;exact QZ lk aU S len λA outer s H vs Q E hr hsp=>hbody Ϟ A outer s H vs Q E hr hsp LV
end
abbrev XP(X:Cx)(Â:List<|Í×Obj)(σ:St)(E:XK)(v:Ã)(s':Å):Prop :=
 ∃a cls H1 H' s1,v=.ref a/\Inv X Â σ H1 s1/\Fl X.prog X.w X.stack H1 s1 H' a cls s'/\E cls ee H'
abbrev xcO(a:Í)(cls:Ã):HO:=.ext λh=>∃o vs,h.get? a=d9 o/\o.cls=cls/\o.data=.fields vs
end L2
namespace L2
open PySem PySem.Spec PySem.W PySem.Calls PyProof.Rows PySem.Builtin PySem.Builtin.ObjectAttr PySem.Builtin.Getset_descriptor
section
variable {prog:å}{w:ø}{A:ĉ}{E:Ã->Å->Prop}{K:Frag}{h:Ć}{g:Array bZ}{d:Drawn}{t:Nat}{os:OsState}{a C:Í}{o:Obj}
structure XCls(K:Frag)(C:Í):Prop where
 ga:ϭ K (.ref C) "__getattribute__" = d9 (d9<|.builtin "BaseException.__getattribute__")
 gr:ϭ K (.ref C) "__getattr__" = d9 ee
 cl:ϭ K (.ref C) "__class__" = d9 (d9<|.builtin "object.__class__")
 mo:mroIn K C (.type "object")=d9 eh
 mb:mroIn K C (.type "BaseException")=d9 eh
 ci:(clsIn K C).isSome=eh
end
end L2
namespace L2
open PySem PySem.Spec PyProof.Rows
section
variable {X:Cx}
def Kz:eN X (.type "int") λxs H Q=>∃z n,xs=[.str z]/\PySem.intText? z=d9 n/\z.length<=640/\Q (.int n) H:=by intro Â s σ H xs us Q I r h;obtain⟨z,n,rfl,e,hl,q⟩:=h;obtain⟨u,rfl,t,rfl⟩:=ZQ r;exact PySem.W.KIN.call_text e hl ⟨.int n,H,I.tok _,⟨_,rfl⟩,q⟩
end
end L2
namespace L2
open PySem PySem.Spec PyProof.Rows
open PySem.Builtin PySem.Builtin.Str
abbrev Bv(z:Str)(lo hi:Option Int):Str:=if(Γ lo hi 1 z.length).length=z.length then z else⟨((Γ lo hi 1 z.length).filterMap (z.cps[·]?)).toArray⟩
def Cw(z:Str)(lo hi:Option Int):(Bv z lo hi).length<=z.length:=by
 unfold Bv;split
 .exact Ì _
 .show((Γ lo hi 1 z.length).filterMap (z.cps[·]?)).toArray.size<=_;rw[Ï];exact á (bu _ _)<|indices_len_le lo hi z.length
section
variable {X:Cx}
abbrev Qe:V->Option Int->Option Int->Hp->VK->Prop:=λx lo hi H Q=>∃z,x=.str z/\z.length<=Ý/\Q (.str<|Bv z lo hi) H
def Aq{v:Ã}{lo:Option Int}(h:ϛ v lo):∃l:Option<|Int×Tok,v=partValue l/\l.map (·.1)=lo:=by
 cases h with
 |none=>exact⟨ee,rfl,rfl⟩
 |int i t=>exact⟨d9 (i,t),rfl,rfl⟩
def sl_str:SlR X Qe:=by
 intro Â s σ H x v vl vu lo hi sl Q I rx hs pl pu h;obtain⟨z,rfl,hz,q⟩:=h;obtain⟨t,rfl⟩:=rx;refine⟨"str",_,slot_str_getitem.lookup,typeIs_str s z t,?_⟩;obtain⟨l,rfl,el⟩:=Aq pl;obtain⟨u,rfl,eu⟩:=Aq pu;have hs':s.heap.IsSlice sl l u ee:=hs;refine wpAny_getItem_str_slice hs' rfl ?_;have e:sliceMade z t l u ee=if(Γ lo hi 1 z.length).length=z.length then .val (.str z t)else .str ⟨((Γ lo hi 1 z.length).filterMap (z.cps[·]?)).toArray⟩:=by unfold sliceMade slicePicked;rw[el,eu];simp
 rw[e];have cl:=Cw z lo hi;unfold Bv at q cl;split
 .rename_i hh;rw[fZ hh]at q;exact⟨.str z,H,I,⟨t,rfl⟩,q⟩
 .rename_i hh;rw[f8 hh]at q cl;exact⟨á cl hz,.str _,H,I.tok _,⟨_,rfl⟩,q⟩
end
section
variable {X:Cx}
def Uq(z:Str):∀(n:Nat) (a:Array Nat),((Û n z.cps).foldl (· ++ ·) a).size=a.size+n*z.cps.size
 |0,a=>by simp
 |n+1,a=>by rw[Ċ,İ,Uq z n,Array.size_append,Nat.succ_mul];lia
end
end L2
namespace L2
open PySem PySem.Spec PyProof.Rows
section
variable {X:Cx}(K:Frag) (h:X.K=K)
include h
end
end L2
namespace HT
open PySem PyProof.Rows
open PySem.SeqAt
open PySem.AutoSeq1 (wpAny_loadPart')
open PySem.MeetsSeq PySem.MeetsSeq2 PySem.MeetsSeq3
section
variable {prog:å}{w:ø}{A:ĉ}{E:Ã->Å->Prop}{s:Å}
def getItem_tuple_whole{t sl:Í}{items:Array Ã}{vl vu:Ã}{lo hi:Option Int}{Q:Ã->Å->Prop}(ht:ϩ s.heap t items)(hs:s.heap.IsSliceOf sl vl vu .none)(pl:ϛ vl lo)(pu:ϛ vu hi)
  (hw:sIx items.size 0 lo=0/\sIx items.size items.size hi=items.size)
  (h:Q (.ref t) s):wpAny (ß prog w) A (Ϛ (.ref t)<|.ref sl) Q E s:=by
 obtain⟨os,hos,hcs,hds⟩:=id hs;have hTs:s.TypeIs (.ref sl) "slice":=⟨os,hos,hcs⟩
 unfold Ϛ
 try with_reducible refine Č ?_
 first|refine À (Æ ?_)|skip
 refine À (wpAny_sequenceKey ht.typeIs (by decide) ?_);refine À (Ĳ (name:=gh "__getitem__") ht.typeIs PyProof.Rows.slot_tuple_getitem
   (Ġ PyProof.Rows.slot_tuple_getitem ht.typeIs entry_tuple_getitem ?_<|args_tuple_getitem _ _))
 show wpAny _ _ (Builtin.Tuple.tupleItemsOf (.ref t) >>= _) _ _ s;refine À<|tupleItemsOf_ ht ?_;refine À<|Ż hTs ?_;rw[fZ<|by decide];refine À<|YJ hs pl pu ?_;have hyes:(((sIx items.size 0 lo:Nat):Int)==0&&(1:Int)==1&&(sIx items.size items.size hi - sIx items.size 0 lo)==items.size)=eh:=by rw[hw.1,hw.2];simp
 show wpAny _ _ (if(((sIx items.size 0 lo:Nat):Int)==0&&(1:Int)==1&&(sIx items.size items.size hi - sIx items.size 0 lo)==items.size)=eh then _ else _) _ _ s;rw[fZ hyes];refine À ?_;unfold Builtin.Tuple.tupleIsExact;refine À<|Ż ht.typeIs<|Æ ?_;rw[fZ<|by decide]
 first
  |exact À<|Æ<|Æ ⟨_,rfl,Æ h⟩
  |exact À<|Ξ<|Æ ⟨_,rfl,Æ h⟩
  |exact Æ ⟨_,rfl,Æ h⟩
end
end HT
namespace L2
open PySem PySem.Spec PyProof.Rows
section
variable {X:Cx}
abbrev QL(K:Frag):V->Option Int->Option Int->Hp->VK->Prop:=λx lo hi H Q=>∃a xs,x=.ref a/\fQ K H a xs/\(HT.sIx xs.length 0 lo=0/\HT.sIx xs.length xs.length hi=xs.length)/\Q (.ref a) H
def Gu:SlR X<|QL X.K:=by
 intro Â s σ H x v vl vu lo hi sl Q I rx hs pl pu h;obtain⟨a,xs,rfl,hx,hw,q⟩:=h;cases rx;obtain⟨ô,r,ht,hz⟩:=I.tuple hx;have hlen:ô.toArray.size=xs.length:=by rw[Ï];exact r.length.symm
 refine⟨"tuple",_,PyProof.Rows.slot_tuple_getitem.lookup,ht.typeIs,?_⟩;exact HT.getItem_tuple_whole ht hs pl pu (by rw[hlen];exact hw) ⟨.ref a,H,I,rfl,q⟩
end
end L2
namespace L2
open PySem PySem.Spec PyProof.Rows
open PySem.Builtin PySem.Builtin.Str
section
variable {X:Cx}
abbrev Lk(z:Str)(n:Nat):Str:=⟨(Û n z.cps).foldl (· ++ ·) #[]⟩
def KK(z:Array Nat):∀(n:Nat) (a:Array Nat),((Û n z).foldl (· ++ ·) a).toList=a.toList++(Û n z.toList).flatten
 |0,a=>by simp
 |n+1,a=>by rw[Ċ,İ,KK z n,Ċ,Ń,Array.toList_append,Ĕ]
abbrev HV:R2:=λx y H Q=>∃z k,x=.str z/\y=.int k/\2<=k/\k<=1000000/\1<=z.length/\z.length*k.toNat<=1000000/\Q (.str<|Lk z k.toNat) H
def Fi:OpR X (Ň .Mult) HV:=by
 intro Â s σ H x y v u Q I rx ry h;obtain⟨z,k,rfl,rfl,h2,h6,h1,hz,q⟩:=h;obtain⟨t,rfl⟩:=rx;obtain⟨t',rfl⟩:=ry;have big:(1000000:Nat)<=Ý:=by decide
 have nb:(k==1||z.length==0)=ei:=by have e1:(k==1)=ei:=beq_false_of_ne (by lia);have e2:(z.length==0)=ei:=beq_false_of_ne (by lia);rw[e1,e2];rfl
 have zl:z.length<=1000000:=by have:z.length*1<=z.length*k.toNat:=dq _ (by lia);lia
 have hr:(gg (k < -(2 ^ 63:Int))||gg (k≥2 ^ 63))=ei:=by rw[f9 (by lia),f9<|by lia];rfl
 have hb:¬ k<1->(k==1||z.length==0)=ei->¬ ((z.length:Int) > (2 ^ 63 - 1) / k):=λ_ _=>by have:(1000000:Int)<=(2 ^ 63 - 1) / k:=(Int.le_ediv_iff_mul_le<|by lia).mpr (by lia);lia
 have hl:¬ k<1->(k==1||z.length==0)=ei->tooLong (z.length*k.toNat)=ei:=λ_ _=>by unfold tooLong;exact f9 (by lia)
 refine P.mul_str hr hb hl ?_;rw[f8 (by lia),f8<|by rw[nb];exact ù];have el:(⟨(Û k.toNat z.cps).foldl (· ++ ·) #[]⟩:Str).length=z.length*k.toNat:=by show((Û k.toNat z.cps).foldl (· ++ ·) #[]).size=_;rw[Uq,cb z.length];simp[Str.length]
 exact⟨by rw[el];lia,.str _,H,I.tok _,⟨_,rfl⟩,q⟩
variable {c y z a b:Str}{k1 k2 k3:Nat}{p1 p2 p3 p4 pa pb Ŏ ş:Pos}
end
end L2
namespace L2
open PySem PySem.Spec PyProof.Rows
section
variable {X:Cx}
abbrev Hr(K:Frag):R2:=λx y H Q=>∃a b ys,x=.ref a/\y=.ref b/\fQ K H a []/\fQ K H b ys/\Q (.ref b) H
def op_cat0:OpR X (Ň .Add)<|Hr X.K:=by
 intro Â s σ H x y v u Q I rx ry h;obtain⟨a,b,ys,rfl,rfl,ha,hb,q⟩:=h;cases rx;cases ry;obtain⟨ô,r1,p1,_⟩:=I.tuple ha;obtain⟨aN,r2,p2,_⟩:=I.tuple hb;cases r1;obtain⟨⟨cls,dd,data,sl⟩,ho,hc,n,hd⟩:=id p1;obtain⟨⟨cls2,cL,data2,dG⟩,ho2,hc2,n2,bC⟩:=id p2;simp only at hc hd hc2 bC;subst hc hd hc2 bC;exact dO ⟨_,ho,rfl⟩ ⟨_,ho2,rfl⟩ aY cS PySem.F.slot_tuple_add PySem.F.entry_tuple_add (PySem.F.args_tuple_add_2 _ _)
  (tuple_addW0 a b _ _ n n2 dd cL sl dG rfl) ⟨ho,ho2,.ref b,H,I,rfl,q⟩
abbrev RQ:R2:=λx y H Q=>∃a b,x=.bl a/\y=.bl b/\Q (.bl<|a != b) H
def Ls:OpR X (ì .IsNot) RQ:=by intro Â s σ H x y v u Q I rx ry h;obtain⟨a,b,rfl,rfl,q⟩:=h;cases rx;cases ry;exact isnot_bool (C9 I q rfl)
end
section
variable {X:Cx}
abbrev Q5(te:TE):TE:=λσ H Q=>te σ H λx H1=>(∃i,x=.int i/\i.natAbs.log2<1920/\Q (.str<|toString i) H1)\/∃z,x=.str z/\z.length<=Ý/\Q (.str z) H1
def He{e:Expr}{te:TE}{ë:Pos}(he:PE X e te):PE X (.FormattedValue e (-1) ee ë)<|Q5 te:=by
 intro Â s σ H Q I h;refine wpAny_FormattedValue_plain<|thn (he Â s σ H _ I h) λv s1 ⟨x,H1,I1,r1,q1⟩=>?_;rcases q1 with⟨i,e1,hd,q1⟩|⟨z,e1,hz,q1⟩
 .subst e1;obtain⟨t,rfl⟩:=r1;exact wpAny_formatField_int hd ⟨.str _,H1,I1.tok _,⟨_,rfl⟩,q1⟩
 .subst e1;obtain⟨t,rfl⟩:=r1;exact wpAny_formatField_str ⟨.str _,H1,I1,⟨_,rfl⟩,q1⟩ ⟨.str _,H1,I1.tok _,⟨_,rfl⟩,q1⟩ hz
abbrev GQ(K:Frag)(neg:Bool):R2:=λx y H Q=>∃ds d,(IsD K H y (.tuple ds)\/IsD K H y (.list ds))/\IsD K H x d/\œ ds=eh/\d.canLay0=eh/\d.depth<=64/\Q (.bl<|if neg then !ds.any (λe=>Ĩ e d)else ds.any λe=>Ĩ e d) H
def L9(hu:X.A.units+65<Ĭ):OpR X (ì .In)<|GQ X.K ei:=by
 intro Â s σ H x y v u Q I rx ry h;obtain⟨ds,d,hd,he,sd,se,hdp,q⟩:=h;obtain⟨bs,rb⟩:=he.reads I rx;have hr:X.A.units+1+min (Ľ ds) d.depth<Ĭ:=by have:min (Ľ ds) d.depth<=d.depth:=ak _ _;lia
 rcases hd with hd|hd
 .obtain⟨as,ra⟩:=hd.reads I ry;exact SeqAt.in_tuple_reads ra rb sd se hr ⟨.bl _,H,I,rfl,q⟩
 .obtain⟨as,ra⟩:=hd.reads I ry;exact SeqAt.in_list_reads ra rb sd se hr ⟨.bl _,H,I,rfl,q⟩
def BM(hu:X.A.units+65<Ĭ):OpR X (ì .NotIn)<|GQ X.K eh:=by
 intro Â s σ H x y v u Q I rx ry h;obtain⟨ds,d,hd,he,sd,se,hdp,q⟩:=h;obtain⟨bs,rb⟩:=he.reads I rx;have hr:X.A.units+1+min (Ľ ds) d.depth<Ĭ:=by have:min (Ľ ds) d.depth<=d.depth:=ak _ _;lia
 rcases hd with hd|hd
 .obtain⟨as,ra⟩:=hd.reads I ry;exact SeqAt.notIn_tuple_reads ra rb sd se hr ⟨.bl _,H,I,rfl,q⟩
 .obtain⟨as,ra⟩:=hd.reads I ry;exact SeqAt.notIn_list_reads ra rb sd se hr ⟨.bl _,H,I,rfl,q⟩
end
section
variable {κ:Type} [DecidableEq κ]
abbrev Yk(kvs:List<|κ×V)(k:κ):Option V:=(kvs.find? λkv=>gg (kv.1=k)).map (·.2)
abbrev ff(kvs:List<|κ×V)(k:κ)(v:V):List (κ×V) :=
 if(kvs.any λkv=>gg (kv.1=k))=eh then kvs.map (λkv=>if kv.1=k then(kv.1,v)else kv)else kvs++[(k,v)]
abbrev fg(kvs:List<|κ×V)(k:κ):List<|κ×V:=kvs.filter λkv=>gg (kv.1≠k)
variable {p:κ×V} {r:List (κ×V)}
def Xi{k:κ}(e:p.1=k):Yk (p::r) k=d9 p.2:=by simp[Yk,Ě,e]
def Xp{k:κ}(e:¬ p.1=k):Yk (p::r) k=Yk r k:=by simp[Yk,Ě,e]
def Xf(k:κ):∀kvs:List<|κ×V,(kvs.any λkv=>gg (kv.1=k))=(Yk kvs k).isSome
 |[]=>rfl
 |p::r=>by
  rw[Ķ];by_cases e:p.1=k
  .simp only[Xi e,gb e,Bool.true_or,Option.isSome_some]
  .rw[Xp e,f9 e,Bool.false_or];exact Xf k r
def Z8(kvs:List<|κ×V)(k:κ)(v:V):(ff kvs k v).length<=kvs.length+1:=by
 unfold ff;split
 .rw[Á];lia
 .rw[ä,Ë,Đ];lia
variable {o:Option V} {u:Option Ã}
def fh.isSome_eq(r:fh o u):o.isSome=u.isSome:=by
 cases o with
 |none=>cases u with
  |none=>rfl
  |some _=>exact(show False from r).elim
 |some _=>cases u with
  |none=>exact(show False from r).elim
  |some _=>rfl
def fh.getD{d:V}{d':Ã}(r:fh o u)(rd:RelV d d'):RelV (o.getD d)<|u.getD d':=by
 cases o with
 |none=>cases u with
  |none=>exact rd
  |some _=>exact(show False from r).elim
 |some _=>cases u with
  |none=>exact(show False from r).elim
  |some _=>exact r
variable {kvs:List (κ×V)} {vs:List (κ×Ã)}
def KV.val(r:KV kvs vs)(k:κ):fh (Yk kvs k)<|Ϝ vs k:=by
 unfold KV at r;induction r with
 |nil=>exact True.intro
 |@cons p q ps qs h t ih =>
  obtain⟨h1,h2⟩:=h;by_cases e:p.1=k
  .have e':q.1=k:=h1.symm.trans e;have b:Ϝ (q::qs) k=d9 q.2:=by simp[Ϝ,Ě,e']
   rw[Xi e,b];exact h2
  .have e':¬ q.1=k:=λz=>e<|h1.trans z;have b:Ϝ (q::qs) k=Ϝ qs k:=by simp[Ϝ,Ě,e']
   rw[Xp e,b];exact ih
def KV.any(r:KV kvs vs)(k:κ):(kvs.any λkv=>gg (kv.1=k))=vs.any λkv=>gg (kv.1=k):=by
 unfold KV at r;induction r with
 |nil=>rfl
 |cons h t ih=>rw[Ķ,Ķ,ih,h.1]
variable {y:V}
def KV.repl(r:KV kvs vs)(k:κ){u:Ã}(ry:RelV y u) :
  KV (kvs.map λkv=>if kv.1=k then(kv.1,y)else kv) (vs.map λkv=>if kv.1=k then(kv.1,u)else kv):=by
 unfold KV at r ⊢;induction r with
 |nil=>exact .nil
 |@cons p q ps qs h t ih =>
  rw[Ñ,Ñ];refine .cons ?_ ih;obtain⟨h1,h2⟩:=h;by_cases e:p.1=k
  .rw[fZ e,fZ<|h1.symm.trans e];exact⟨h1,ry⟩
  .rw[f8 e,f8 λz=>e<|h1.trans z];exact⟨h1,h2⟩
def KV.put(r:KV kvs vs)(k:κ){u:Ã}(ry:RelV y u):KV (ff kvs k y)<|dU vs k u:=by
 unfold ff dU;rw[r.any k];by_cases e:(vs.any λkv=>gg (kv.1=k))=eh
 .rw[fZ e,fZ e];exact r.repl k ry
 .rw[f8 e,f8 e];exact Paired.snoc r ⟨rfl,ry⟩
def KV.drop(r:KV kvs vs)(k:κ):KV (fg kvs k)<|without vs k:=by
 unfold KV at r ⊢;unfold fg without;induction r with
 |nil=>exact .nil
 |@cons p q ps qs h t ih =>
  obtain⟨h1,h2⟩:=h;rw[Ī,Ī];by_cases e:p.1=k
  .have a:¬ gg (p.1≠k)=eh:=by simp[e]
   have b:¬ gg (q.1≠k)=eh:=by simp[h1.symm.trans e]
   rw[f8 a,f8 b];exact ih
  .have e':¬ q.1=k:=λz=>e<|h1.trans z;have a:gg (p.1≠k)=eh:=by simp[e]
   have b:gg (q.1≠k)=eh:=by simp[e']
   rw[fZ a,fZ b];exact .cons ⟨h1,h2⟩ ih
def KV.keys(r:KV kvs vs):kvs.map (·.1)=vs.map (·.1):=by
 unfold KV at r;induction r with
 |nil=>rfl
 |cons h t ih=>rw[Ñ,Ñ,ih,h.1]
def KV.length(r:KV kvs vs):kvs.length=vs.length:=Paired.length r
def DR(kvs:List<|κ×V)(k:κ):(fg kvs k).length<=kvs.length:=Ÿ _ _
end
variable {P:å} {w:ø} {u:Ã}
def Xq{k:Key}(r:RelV (kV k) u):(Zc P w).is k u=eh:=by
 cases k with
 |inl i=>obtain⟨t,e⟩:=(show ∃t,u=Value.int i t from r);subst e;exact NR P w i t
 |inr x=>obtain⟨t,e⟩:=(show ∃t,u=Value.str x t from r);subst e;exact NF P w x t
def KN{P:å}{w:ø}:∀{ks:List Key}{us:List Ã},fR (ks.map kV) us->ItemsAre (Zc P w) ks us
 |[],_,r=>by rw[μ]at r;cases r;exact .nil
 |k::ks,_,r=>by
  rw[Ñ]at r;cases r with
  |cons h t=>exact .cons (Xq h)<|KN t
@[reducible] noncomputable def KTd(H:Hp):List (List Key×V)->List (List Key×Í×Ã)->Prop:=Paired λp q=>p.1=q.1/\H q.2.1=d9 (.tup<|p.1.map kV)/\RelV p.2 q.2.2
variable {H:Hp} {kvs:List (List Key×V)} {xs:List (List Key×Í×Ã)}
def KTd.val(r:KTd H kvs xs)(k:List Key):fh (Yk kvs k) ((cf xs k).map (·.2)):=by
 induction r with
 |nil=>exact True.intro
 |@cons p q ps qs h t ih =>
  obtain⟨h1,_,h2⟩:=h;by_cases e:p.1=k
  .have e':q.1=k:=h1.symm.trans e;have b:cf (q::qs) k=d9 q.2:=by simp[cf,Ě,e']
   rw[Xi e,b];exact h2
  .have e':¬ q.1=k:=λz=>e<|h1.trans z;have b:cf (q::qs) k=cf qs k:=by simp[cf,Ě,e']
   rw[Xp e,b];exact ih
variable {y:V}
def KTd.repl(r:KTd H kvs xs)(k:List Key)(ry:RelV y u) :
  KTd H (kvs.map λkv=>if kv.1=k then(kv.1,y)else kv) (xs.map<|putAt k u):=by
 induction r with
 |nil=>exact .nil
 |@cons p q ps qs h t ih =>
  rw[Ñ,Ñ];refine .cons ?_ ih;obtain⟨h1,h2,h3⟩:=h;unfold putAt;by_cases e:p.1=k
  .rw[fZ e,fZ<|h1.symm.trans e];exact⟨h1,h2,ry⟩
  .rw[f8 e,f8 λz=>e<|h1.trans z];exact⟨h1,h2,h3⟩
variable {b:Í}
def KTd.put(r:KTd H kvs xs)(k:List Key)(hb:H b=d9 (.tup<|k.map kV))(ry:RelV y u) :
  KTd H (ff kvs k y) (storedH xs k b u):=by
 have e:(kvs.any λkv=>gg (kv.1=k))=(cf xs k).isSome:=by rw[Xf,(r.val k).isSome_eq,Ϧ]
 unfold ff storedH;rw[e];by_cases q:(cf xs k).isSome=eh
 .rw[fZ q,fZ q];exact r.repl k ry
 .rw[f8 q,f8 q];exact Paired.snoc r ⟨rfl,hb,ry⟩
variable {H':Hp}
def KTd.keeps(r:KTd H kvs xs)(ht:∀b ys,H b=d9 (.tup ys)->H' b=d9 (.tup ys)):KTd H' kvs xs :=
 Paired.mapP r λ_ _ z=>⟨z.1,ht _ _ z.2.1,z.2.2⟩
section
variable {P:å}{w:ø}{H:Hp}{h:Ć}{a:Í}
def HF{u:HO}(ok:HOk P w H h)(e:Rd H a u):eP P w H h a u:=e.ok ok
def Wd{kvs:List (Key×V)}(ok:HOk P w H h)(e:Rd H a<|.dK kvs):kvs.length<=Ý/\(a==ŗ)=ei/\∃vs,KV kvs vs/\h.DictOf (Zc P w) a vs :=
 show eP P w H h a (.dK kvs) from HF ok e
def XG{kvs:List (Key×V)}(ok:HOk P w H h)(e:H a=d9 (.dK kvs)):kvs.length<=Ý/\(a==ŗ)=ei/\∃vs,KV kvs vs/\h.DictOf (Zc P w) a vs:=Wd ok (.inl e)
def eV{ks:List Key}(ok:HOk P w H h)(e:H a=d9 (.tup<|ks.map kV)):(ϱ<|Zc P w).is h ks a:=by
 obtain⟨_,ô,r,o,h1,h2,n,h3⟩:=(show eP P w H h a (.tup<|ks.map kV) from ok a _ e)
 exact⟨o,ô.toArray,n,h1,h2,h3,by simpa using KN r⟩
def JL(ok:HOk P w H h)(e:Rd H a<|.dT kvs):kvs.length<=Ý/\(a==ŗ)=ei/\
  ∃xs,KTd H kvs xs/\h.DictOfH (ϱ<|Zc P w) a xs:=by
 obtain⟨z,y,xs,r,o,es,ep,h1,h2,h3,h4,h5⟩:=(show eP P w H h a (.dT kvs) from HF ok e)
 refine⟨z,y,xs,r,o,es,ep,h1,h2,h3,h4,λx hx=>?_,h5⟩;have all:∀{l:List (List Key×V)}{m:List (List Key×Í×Ã)},KTd H l m->∀x∈m,(ϱ<|Zc P w).is h x.1 x.2.1:=by
  intro l m q;induction q with
  |nil=>intro x hx;exact nomatch hx
  |@cons p q ps qs hq t ih =>
   intro x hx;rcases Ç.mp hx with e|hx
   .subst e;exact eV ok (by rw[<-hq.1];exact hq.2.1)
   .exact ih x hx
 exact all r x hx
def QP(ok:HOk P w H h)(e:H a=d9 (.dT kvs)):kvs.length<=Ý/\(a==ŗ)=ei/\
  ∃xs,KTd H kvs xs/\h.DictOfH (ϱ<|Zc P w) a xs:=JL ok<|.inl e
end
abbrev DGet(H:Hp)(a:Í)(y:V)(r:Option V):Prop :=
 (∃kvs k,Rd H a (.dK kvs)/\y=kV k/\r=Yk kvs k)\/∃kvs k b,Rd H a (.dT kvs)/\y=.ref b/\H b=d9 (.tup<|k.map kV)/\r=Yk kvs k
abbrev DPut(H:Hp)(a:Í)(y v:V)(H':Hp):Prop :=
 (∃kvs k,H a=d9 (.dK kvs)/\y=kV k/\kvs.length<Ý/\H'=upd H a (.dK<|ff kvs k v))\/
 ∃kvs k b,H a=d9 (.dT kvs)/\y=.ref b/\H b=d9 (.tup<|k.map kV)/\kvs.length<Ý/\H'=upd H a (.dT<|ff kvs k v)
def DGet.k{H:Hp}{a:Í}{kvs:List (Key×V)}{k:Key}(e:H a=d9 (.dK kvs)):DGet H a (kV k)<|Yk kvs k:=.inl ⟨kvs,k,.inl e,rfl,rfl⟩
variable {a:Í}
def DGet.t{k:List Key}(e:H a=d9 (.dT kvs))(eb:H b=d9 (.tup<|k.map kV)):DGet H a (.ref b)<|Yk kvs k:=.inr ⟨kvs,k,b,.inl e,rfl,eb,rfl⟩
def DPut.k{H:Hp}{a:Í}{kvs:List (Key×V)}{k:Key}{v:V}(e:H a=d9 (.dK kvs))(hl:kvs.length<Ý):DPut H a (kV k) v<|upd H a<|.dK<|ff kvs k v:=.inl ⟨kvs,k,e,rfl,hl,rfl⟩
def DPut.t{k:List Key}{v:V}(e:H a=d9 (.dT kvs))(eb:H b=d9 (.tup<|k.map kV))(hl:kvs.length<Ý) :
  DPut H a (.ref b) v (upd H a<|.dT<|ff kvs k v):=.inr ⟨kvs,k,b,e,rfl,eb,hl,rfl⟩
section
variable {X:Cx}{Â:List (Í×Obj)}{σ:St}{H:Hp}{s:Å}{a:Í}{y v:V}{u r:Ã}{o:Option V}{A:ĉ}{E:Ã->Å->Prop}
def Inv.big(I:Inv X Â σ H s):ŗ<s.heap.objs.size:=by have h:ą<s.heap.objs.size:=(I.mod.glob.keeps I.bk).lt;exact Œ (by decide) h
variable {Q:Ã->Å->Prop}
def K6(hu:A.units+1<Ĭ)(I:Inv X Â σ H s)(g:DGet H a y<|d9 v)(ry:RelV y u)(h:∀w' s',Inv X Â σ H s'->RelV v w'->Q w' s') :
  wpAny (ß X.prog X.w) A (Ϛ (.ref a) u) Q E s:=by
 rcases g with⟨kvs,k,e,ey,l⟩|⟨kvs,k,b,e,ey,eb,l⟩
 .subst ey;obtain⟨z,hd,vs,Ş,dd⟩:=Wd I.hok e;obtain⟨w',hw,aO⟩:=fh.some_of (v:=v) (o:=Ϝ vs k) (by rw[l];exact Ş.val k);exact wpAny_getItem_of (Xq ry) dd.mapOf hw<|h w' _ (I.tok _) aO
 .subst ey;cases (show u=Value.ref b from ry);obtain⟨z,hd,xs,Ş,dd⟩:=JL I.hok e;obtain⟨w',hw,aO⟩:=fh.some_of (v:=v) (o:=(cf xs k).map (·.2)) (by rw[l];exact Ş.val k);obtain⟨p,hp,hp2⟩:=È.mp hw;refine wpAny_getItem_heap (ŵ hu) (eV I.hok eb) dd hp ?_;rw[hp2];exact h w' _ (I.tok _) aO
def Sz(hu:A.units+1<Ĭ)(I:Inv X Â σ H s)(g:DGet H a y o)(ry:RelV y u)(h:∀s',Inv X Â σ H s'->Q (.bool o.isSome) s') :
  wpAny (ß X.prog X.w) A (ì .In u<|.ref a) Q E s:=by
 rcases g with⟨kvs,k,e,ey,l⟩|⟨kvs,k,b,e,ey,eb,l⟩
 .subst ey;obtain⟨z,hd,vs,Ş,dd⟩:=Wd I.hok e;refine wpAny_in_of (Xq ry) hd dd.mapOf ?_;rw[<-(Ş.val k).isSome_eq,<-l];exact h _<|I.tok _
 .subst ey;cases (show u=Value.ref b from ry);obtain⟨z,hd,xs,Ş,dd⟩:=JL I.hok e;refine wpAny_in_heap (ŵ hu) (eV I.hok eb) hd dd ?_;have q:=(Ş.val k).isSome_eq;rw[Ϧ]at q;rw[<-q,<-l];exact h _<|I.tok _
def FZ(hu:A.units+1<Ĭ)(I:Inv X Â σ H s)(g:DGet H a y o)(ry:RelV y u)(h:∀s',Inv X Â σ H s'->Q (.bool (!o.isSome)) s') :
  wpAny (ß X.prog X.w) A (ì .NotIn u<|.ref a) Q E s:=by
 rcases g with⟨kvs,k,e,ey,l⟩|⟨kvs,k,b,e,ey,eb,l⟩
 .subst ey;obtain⟨z,hd,vs,Ş,dd⟩:=Wd I.hok e;refine wpAny_notIn_of (Xq ry) hd dd.mapOf ?_;rw[<-(Ş.val k).isSome_eq,<-l];exact h _<|I.tok _
 .subst ey;cases (show u=Value.ref b from ry);obtain⟨z,hd,xs,Ş,dd⟩:=JL I.hok e;refine wpAny_notIn_heap (ŵ hu) (eV I.hok eb) hd dd ?_;have q:=(Ş.val k).isSome_eq;rw[Ϧ]at q;rw[<-q,<-l];exact h _<|I.tok _
variable {h':Ć}
def X8{t':Nat}{ob:HO}(I:Inv X Â σ H s)(mu:Mut<|H a)(hs:Ů a s.heap h')(he:∃q,h'.get? a=d9 q)(new:eP X.prog X.w (upd H a ob) h' a ob) :
  Inv X Â σ (upd H a ob) {s with heap:=h',toks:=t'} :=
 I.write (x:=a) (e:=a) mu (.inl rfl) (λb q hb z=>(hs.2 b hb).trans z) he new
def Wz{kvs:List (Key×V)}{vs:List (Key×Ã)}(z:kvs.length<=Ý)(hd:(a==ŗ)=ei)(Ş:KV kvs vs)(dd:h'.DictOf (Zc P w) a vs) :
  eP P w H' h' a (.dK kvs):=⟨z,hd,vs,Ş,dd⟩
def A6{Q:Unit->Å->Prop}(hu:A.units+1<Ĭ)(I:Inv X Â σ H s)(g:DPut H a y v H')(ry:RelV y u)(rv:RelV v r)(h:∀s',Inv X Â σ H' s'->Q () s') :
  wpAny (ß X.prog X.w) A (aE (.ref a) u r) Q E s:=by
 rcases g with⟨kvs,k,e,ey,l,eH⟩|⟨kvs,k,b,e,ey,eb,l,eH⟩
 .subst ey eH;obtain⟨z,hd,vs,Ş,dd⟩:=XG I.hok e;have hz:vs.length<=Ý:=by rw[<-Ş.length];exact z
  have hl:(ff kvs k v).length<=Ý:=by have:=Z8 kvs k v;lia
  refine wpAny_setItem_pairs (hsz:=hz) (Xq ry) dd λh' cB hs=>h _ ?_;have he:∃q,h'.get? a=d9 q:=let ⟨q,_,_,hq,_⟩:=cB;⟨q,hq⟩;exact X8 I (by rw[e];exact True.intro) hs he<|Wz hl hd (Ş.put k rv) cB
 .subst ey eH;cases (show u=Value.ref b from ry);obtain⟨z,hd,xs,Ş,dd⟩:=QP I.hok e;have hz:xs.length<=Ý:=by rw[<-Paired.length Ş];exact z
  have hl:(ff kvs k v).length<=Ý:=by have:=Z8 kvs k v;lia
  refine wpAny_setItem_heap (hsz:=hz) (ŵ hu) (eV I.hok eb) dd λh' cB hs=>h _ ?_;obtain⟨q,es,ep,hq,h2,h3,h4,_,h5⟩:=cB;refine X8 I (by rw[e];exact True.intro) hs ⟨q,hq⟩ ⟨hl,hd,_,(Ş.put k eb rv).keeps λc ys ec=>?_,q,es,ep,hq,h2,h3,h4,h5⟩;rw[ej<|Rm ec e λz=>nomatch z];exact ec
end
section
variable {X:Cx}{Â:List (Í×Obj)}{σ:St}{H:Hp}{s:Å}{a:Í}{kvs:List (Key×V)}{k:Key}{u:Ã}{A:ĉ}{E:Ã->Å->Prop}
variable {Q:Ã->Å->Prop}
def HE{v:V}{more:List Ã}(I:Inv X Â σ H s)(e:H a=d9 (.dK kvs))(ry:RelV (kV k) u)(l:Yk kvs k=d9 v)(hm:more=[]\/∃x,more=[x])
  (h:∀w' s',Inv X Â σ (upd H a<|.dK<|fg kvs k) s'->RelV v w'->Q w' s'):wpAny (ß X.prog X.w) A (call (.builtin "dict.pop")<|.ref a::u::more) Q E s:=by
 obtain⟨z,hd,vs,Ş,dd⟩:=XG I.hok e;obtain⟨w',hw,aO⟩:=fh.some_of (v:=v) (o:=Ϝ vs k) (by rw[<-l];exact Ş.val k);have hp:(keyPart u).isSome=eh:=by
  cases k with
  |inl i=>obtain⟨t,q⟩:=(show ∃t,u=Value.int i t from ry);subst q;rfl
  |inr x=>obtain⟨t,q⟩:=(show ∃t,u=Value.str x t from ry);subst q;rfl
 have ha:cg "dict.pop" ⟨.ref a::u::more,[]⟩:=by
  rcases hm with q|⟨x,q⟩
  .subst q;exact PySem.F.args_dict_pop_2 _ _
  .subst q;exact PySem.F.args_dict_pop_3 _ _ _
 refine Κ PySem.F.slot_dict_pop dd.typeIs PySem.F.entry_dict_pop ha (meets_dict_pop_there (Zc X.prog X.w) a (Xq ry) more hm hp)
  ⟨vs,w',dd,by rw[<-Ş.length];exact z,hw,λh' cB hs=>h w' _ ?_ aO⟩
 have he:∃q,h'.get? a=d9 q:=let ⟨q,_,_,hq,_⟩:=cB;⟨q,hq⟩;exact X8 I (by rw[e];exact True.intro) hs he<|Wz (á (DR kvs k) z) hd (Ş.drop k) cB
def Pe{r:Ã}(I:Inv X Â σ H s)(e:H a=d9 (.dK kvs))(ry:RelV (kV k) u)(l:Yk kvs k=ee)(h:∀s',Inv X Â σ H s'->Q r s') :
  wpAny (ß X.prog X.w) A (call (.builtin "dict.pop") [.ref a,u,r]) Q E s:=by
 obtain⟨z,hd,vs,Ş,dd⟩:=XG I.hok e;have hn:Ϝ vs k=ee:=fh.none_of (by rw[<-l];exact Ş.val k);have hp:(keyPart u).isSome=eh:=by
  cases k with
  |inl i=>obtain⟨t,q⟩:=(show ∃t,u=Value.int i t from ry);subst q;rfl
  |inr x=>obtain⟨t,q⟩:=(show ∃t,u=Value.str x t from ry);subst q;rfl
 exact Κ PySem.F.slot_dict_pop dd.typeIs PySem.F.entry_dict_pop (PySem.F.args_dict_pop_3 _ _ _) (meets_dict_pop_default (Zc X.prog X.w) a (Xq ry) hd hp r) ⟨vs,dd,hn,h _<|I.tok _⟩
def Qs(I:Inv X Â σ H s)(e:Rd H a<|.dK kvs)(h:∀t s',Inv X Â σ H s'->Q (.int kvs.length t) s'):wpAny (ß X.prog X.w) A (call (.builtin "len") [.ref a]) Q E s:=by obtain⟨z,hd,vs,Ş,dd⟩:=Wd I.hok e;refine call_len_dict hd dd (by rw[<-Ş.length];rw[Ϫ]at z;lia) ?_;rw[<-Ş.length];exact h _ _ (I.tok _)
end
variable {X:Cx} {Â:List (Í×Obj)} {σ:St} {s:Å}
def Oi{o:Option V}(I:Inv X Â σ H s)(g:DGet H a y o):s.TypeIs (.ref a) "dict":=by
 rcases g with⟨kvs,k,e,_,_⟩|⟨kvs,k,b,e,_,_,_⟩
 .obtain⟨_,_,vs,_,dd⟩:=Wd I.hok e;exact dd.typeIs
 .obtain⟨_,_,xs,_,dd⟩:=JL I.hok e;exact dd.typeIs
def Nt(h:Ć)(hb:ŗ<h.objs.size):eP P w H (h.push {cls:=.type "dict",data:=.dict #[]}) h.objs.size (.dK []) :=
 ⟨ĕ _,beq_eq_false_iff_ne.mpr<|Ne.symm<|à hb,[],.nil,Heap.DictOf.new h⟩
abbrev LQ:TE:=λ_ H Q=>∀p,H p=ee->Q (.ref p) (upd H p<|.dK [])
section
variable {X:Cx}{ë:Pos}
def pe_dnewK:PE X (.Dict [] [] ë) LQ:=λÂ s σ H Q I h =>
 wpAny_Dict_empty ⟨.ref s.heap.objs.size,_,I.laid (a:=s.heap.objs.size) (o:=.dK []) (t':=s.toks) (λ_ _ q=>Ä _ q) (Ì _)<|Nt s.heap I.big,rfl,h _<|I.hok.fresh<|Ì _⟩
end
abbrev MJ:List (TE×TE)->St->Hp->(List (V×V)->Hp->Prop)->Prop
 |[],_,H,Q=>Q [] H
 |(tk,tv)::r,σ,H,Q=>tk σ H λx H1=>tv σ H1 λy H2=>MJ r σ H2 λps H3=>Q ((x,y)::ps) H3
@[reducible] noncomputable def VV:List (V×V)->List (Ã×Ã)->Prop:=Paired λp q=>RelV p.1 q.1/\RelV p.2 q.2
abbrev PPs(X:Cx)(ë:Pos)(keys:List<|Option Expr)(Ρ:List Expr)(trs:List<|TE×TE):Prop :=
 ∀(Â:List<|Í×Obj) (s:Å) (σ:St) (H:Hp) (Q:List (V×V)->Hp->Prop),Inv X Â σ H s->MJ trs σ H Q->
  wpAny (ß X.prog X.w) X.A (evalPairs<|pairTrees keys Ρ X.env ë) (λvs s'=>∃ps H',Inv X Â σ H' s'/\VV ps vs/\Q ps H') X.xe s
variable {ë:Pos}
def G0:PPs X ë [] [] []:=λÂ s σ H Q I h=>pairTrees_nil_walk ⟨[],H,I,.nil,h⟩
variable {trs:List (TE×TE)}
def DA{k v:Expr}{ks:List (Option Expr)}{vs:List Expr}{tk tv:TE}(hk:PE X k tk)(hv:PE X v tv)(hr:PPs X ë ks vs trs) :
  PPs X ë (d9 k::ks) (v::vs) ((tk,tv)::trs):=λÂ s σ H Q I h =>
 pairTrees_cons_walk (thn (hk Â s σ H _ I h) λu s1 ⟨x,H1,I1,rx,q1⟩=>thn (hv Â s1 σ H1 _ I1 q1) λw2 s2 ⟨y,H2,I2,ry,q2⟩ =>
   thn (hr Â s2 σ H2 _ I2 q2) λws s3 ⟨ps,H3,I3,Ş,q3⟩=>⟨(x,y)::ps,H3,I3,.cons ⟨rx,ry⟩ Ş,q3⟩)
abbrev Xn(kvs more:List<|Key×V):List<|Key×V:=more.foldl (λĖ kv=>ff Ė kv.1 kv.2) kvs
def KV.merge:∀{more:List (Key×V)}{rs:List (Key×Ã)}{kvs:List (Key×V)}{vs:List (Key×Ã)},KV more rs->KV kvs vs->KV (Xn kvs more) (merged vs rs):=by
 intro more rs kvs vs r;unfold KV at r;induction r generalizing kvs vs with
 |nil=>intro q;exact q
 |@cons p q ps qs h t ih =>
  intro r0;have e:KV (ff kvs p.1 p.2)<|dU vs q.1 q.2:=by have:=r0.put p.1 h.2;rw[<-h.1];exact this
  exact ih e
def XI:∀(more kvs:List<|Key×V),(Xn kvs more).length<=kvs.length+more.length
 |[],kvs=>by show kvs.length<=kvs.length+0;lia
 |p::r,kvs=>by have h1:=XI r<|ff kvs p.1 p.2;have h2:=Z8 kvs p.1 p.2;show(Xn (ff kvs p.1 p.2) r).length<=_;rw[Ë];lia
def Kb{P:å}{w:ø}:∀{kvs:List (Key×V)}{ws:List (Ã×Ã)},VV (kvs.map λkv=>(kV kv.1,kv.2)) ws->∃rs,Carries (Zc P w) ws rs/\KV kvs rs
 |[],_,r=>by rw[μ]at r;cases r;exact⟨[],True.intro,.nil⟩
 |p::kvs,_,r=>by
  rw[Ñ]at r;cases r with
  |@cons a b as bs h t =>obtain⟨rs,c,q⟩:=Kb (P:=P) (w:=w) t;obtain⟨b1,b2⟩:=b;exact⟨(p.1,b2)::rs,⟨Xq h.1,rfl,c⟩,.cons ⟨rfl,h.2⟩ q⟩
abbrev RF(trs:List<|TE×TE):TE:=λσ H Q=>∀p,H p=ee->MJ trs σ (upd H p<|.dK []) λps H2=>H2 p=d9 (.dK [])/\∃kvs:List<|Key×V,ps=kvs.map (λkv=>(kV kv.1,kv.2))/\kvs.length<=15/\Q (.ref p) (upd H2 p<|.dK<|Xn [] kvs)
def G7{keys:List (Option Expr)}{Ρ:List Expr}(h:PPs X ë keys Ρ trs)(hall:keys.all (·.isSome)=eh)(hl:keys.length=Ρ.length)(h0:keys≠[])
  (h15:keys.length<=15):PE X (.Dict keys Ρ ë)<|RF trs:=by
 intro Â s σ H Q I q;have hn:=I.hok.fresh<|Ì s.heap.objs.size;have I1:=I.laid (a:=s.heap.objs.size) (o:=.dK []) (h':=s.heap.push {cls:=.type "dict",data:=.dict #[]}) (t':=s.toks) (λ_ _ q=>Ä _ q) (Ì _)<|Nt s.heap I.big;refine wpAny_Dict_walk (knd:=Zc X.prog X.w) hall hl h0 h15<|thn (h Â _ σ _ _ I1<|q _ hn) λws s2 ⟨ps,H2,I2,Ş,e,kvs,ep,lk,q2⟩=>?_;subst ep;obtain⟨rs,c,rk⟩:=Kb (P:=X.prog) (w:=X.w) Ş;obtain⟨z,hd,vs0,r0,dd⟩:=XG I2.hok e;cases r0;refine⟨rs,c,dd,λh' cB hs=>⟨.ref s.heap.objs.size,_,?_,rfl,q2⟩⟩;have hz:(Xn [] kvs).length<=Ý:=by have h1:=XI kvs [];rw[Đ]at h1;rw[Ϫ];lia
 have he:∃q,h'.get? s.heap.objs.size=d9 q:=let ⟨q,_,_,hq,_⟩:=cB;⟨q,hq⟩;exact X8 I2 (by rw[e];exact True.intro) hs he<|Wz hz hd (rk.merge .nil) cB
abbrev Sq(H:Hp)(a:Í):Prop:=(∃kvs,Rd H a<|.dK kvs)\/∃kvs,Rd H a (.dT kvs)
def L5(I:Inv X Â σ H s)(d:Sq H a) :
  s.TypeIs (.ref a) "dict"/\(∀b,Value.ref a=.ref b->∃ob,s.heap.get? b=d9 ob/\ob.dict=ee)/\(a==ŗ)=ei:=by
 rcases d with⟨kvs,e⟩|⟨kvs,e⟩
 .obtain⟨_,hd,vs,_,dd⟩:=Wd I.hok e;refine⟨dd.typeIs,λb q=>?_,hd⟩;cases q;obtain⟨ob,_,_,h1,h2,_⟩:=dd;exact⟨ob,h1,h2.2.1⟩
 .obtain⟨_,hd,xs,_,dd⟩:=JL I.hok e;refine⟨dd.typeIs,λb q=>?_,hd⟩;cases q;obtain⟨ob,_,_,h1,h2,_⟩:=dd;exact⟨ob,h1,h2.2.1⟩
section
variable {X:Cx}{Â:List (Í×Obj)}{σ:St}{H:Hp}{s:Å}{a:Í}{y d:V}{u r:Ã}{o:Option V}{A:ĉ}{E:Ã->Å->Prop}
def LG{Q:Ã->Å->Prop}(hu:A.units+1<Ĭ)(I:Inv X Â σ H s)(g:DGet H a y o)(ry:RelV y u)(h:∀w' s',Inv X Â σ H s'->RelV (o.getD .non) w'->Q w' s') :
  wpAny (ß X.prog X.w) A (call (.builtin "dict.get") [.ref a,u]) Q E s:=by
 rcases g with⟨kvs,k,e,ey,l⟩|⟨kvs,k,b,e,ey,eb,l⟩
 .subst ey;obtain⟨z,hd,vs,Ş,dd⟩:=Wd I.hok e;refine Κ PySem.F.slot_dict_get dd.typeIs PySem.F.entry_dict_get (PySem.F.args_dict_get_2 _ _) (meets_dict_get (Zc X.prog X.w) a (Xq ry) hd) ⟨_,dd.mapOf,h _ _ (I.tok _) ?_⟩;rw[l];exact(Ş.val k).getD rfl
 .subst ey;cases (show u=Value.ref b from ry);obtain⟨z,hd,xs,Ş,dd⟩:=JL I.hok e;refine Κ PySem.F.slot_dict_get dd.typeIs PySem.F.entry_dict_get (PySem.F.args_dict_get_2 _ _) (meetsH_dict_get (ϱ<|Zc X.prog X.w) a b hd) ⟨ŵ hu,k,xs,eV I.hok eb,dd,h _ _ (I.tok _) ?_⟩;rw[l];exact(Ş.val k).getD rfl
end
section
variable {X:Cx}
def BB:eN X (.builtin "len") λxs H Q=>∃a kvs,xs=[V.ref a]/\H a=d9 (.dK kvs)/\Q (.int kvs.length) H:=by intro Â s σ H xs us Q I r h;obtain⟨a,kvs,rfl,ha,q⟩:=h;obtain⟨u,rfl,ru⟩:=ZQ r;cases ru;exact Qs I (.inl ha) λt s' I'=>⟨.int kvs.length,H,I',⟨t,rfl⟩,q⟩
end
end L2
namespace O
noncomputable abbrev Ad:=Nat
inductive Val where
 |non|bl (b:Bool)|int (i:Int)|str (s:String)|tup (xs:List Val)|ref (a:Ad)|scr (ns:List Int)|key (i j:Int)
 deriving Inhabited
mutual
noncomputable def Val.eqb:Val->Val->Bool
 |.non,b=>match b with|.non=>eh|_=>ei
 |.bl a,b=>match b with|.bl c=>a==c|_=>ei
 |.int a,b=>match b with|.int c=>a==c|_=>ei
 |.str a,b=>match b with|.str c=>a==c|_=>ei
 |.tup a,b=>match b with|.tup c=>Val.eqs a c|_=>ei
 |.ref a,b=>match b with|.ref c=>a==c|_=>ei
 |.scr a,b=>match b with|.scr c=>a==c|_=>ei
 |.key a b,x=>match x with|.key c d=>a==c&&b==d|_=>ei
noncomputable def Val.eqs:List Val->List Val->Bool
 |[],b=>match b with|[]=>eh|_=>ei
 |x::xs,b=>match b with|y::ys=>Val.eqb x y&&Val.eqs xs ys|_=>ei
end
mutual
theorem Val.eqb_iff:∀{a b:Val},Val.eqb a b=eh↔a=b
 |.non,b=>by cases b<;>simp[Val.eqb]
 |.bl _,b=>by cases b<;>simp[Val.eqb]
 |.int _,b=>by cases b<;>simp[Val.eqb]
 |.str _,b=>by cases b<;>simp[Val.eqb]
 |.tup _,b=>by cases b<;>simp[Val.eqb,Val.eqs_iff]
 |.ref _,b=>by cases b<;>simp[Val.eqb]
 |.scr _,b=>by cases b<;>simp[Val.eqb]
 |.key _ _,b=>by cases b<;>simp[Val.eqb]
theorem Val.eqs_iff:∀{a b:List Val},Val.eqs a b=eh↔a=b
 |[],b=>by cases b<;>simp[Val.eqs]
 |_::_,b=>by cases b<;>simp[Val.eqs,Val.eqb_iff,Val.eqs_iff]
end
noncomputable instance:DecidableEq Val:=λa b=>if h:Val.eqb a b=eh then isTrue (Val.eqb_iff.mp h)else isFalse λe=>h<|Val.eqb_iff.mpr e
inductive Ob where
 |lst (xs:List Val)|dct (kvs:List<|Val×Val)|ins (C:String) (fs:List<|String×Val)|exc (C:String)|frz (kvs:List<|Val×Val)|dtp (kvs:List<|Val×Val)
 deriving Inhabited
abbrev figB(c:Char):Bool:=gg (48<=c.toNat)&&gg (c.toNat<=57)
abbrev decN(l:List Char):Nat:=l.foldl (λa c=>10*a+(c.toNat - 48)) 0
abbrev Qn:Val->Option String
 |.str s=>d9 s
 |_=>ee
abbrev oneC(s:String):Option Char:=match s.toList with
 |[c]=>d9 c
 |_=>ee
abbrev Fg(i:Int):String:=toString i
abbrev fmtV:Val->Option String
 |.str s=>d9 s
 |.int i=>if i.natAbs<10 ^ 200 then d9 (Fg i)else ee
 |_=>ee
noncomputable abbrev Hs:=Ad->Option Ob
@[irreducible] noncomputable def upd(h:Hs)(a:Ad)(o:Ob):Hs:=λb=>if b=a then d9 o else h b
variable {h:Hs} {a:Ad} {o:Ob}
def ez:upd h a o a=d9 o:=by simp[upd]
def ej{b:Ad}(e:b≠a):upd h a o b=h b:=by simp[upd,e]
def eC{u:Ob}:upd (upd h a o) a u=upd h a u:=by funext b;simp only[upd];split<;>rfl
noncomputable abbrev Env:=List<|Option Val
noncomputable abbrev Q1:=Val->Hs->Prop
noncomputable abbrev XQ:=String->Hs->Prop
noncomputable abbrev Fs:=String->List Val->Hs->Q1->XQ->Prop
abbrev lim:Nat:=1000000
variable {α:Type}
@[irreducible] noncomputable def go(o:Option α)(k:α->Prop):Prop:=match o with|some a=>k a|none=>False
@[simp] theorem eF{a:α}{k:α->Prop}:go (d9 a) k=k a:=by unfold go;rfl
@[simp] theorem Fu{k:α->Prop}:go ee k=False:=by unfold go;rfl
def eK{o:Option α}{a:α}{k:α->Prop}(e:o=d9 a)(h:k a):go o k:=by rw[e,eF];exact h
set_option genInjectivity false
inductive Bop where|add|sub|mul|fdiv|mod|pow
inductive Cop where|eq|ne|lt|le|gt|ge|isin|notin|is|isnot|eqE|neE|ntT
inductive Bi where
 |len|int|str|bool|abs|min2|max2|minL|maxL|minD|sum|all|any|sorted|sortedI|sortedSet|lenSet|list|tuple|dict|isi (Ts:List String)|isx (Ts:List String)|isc (C:String)|repr|listRev|listRange|tupRange|dictEnum|minP|maxP|listD
inductive Bm where
 |append|extend|pop|popAt|insert|remove|clear|reverse|index|count|dget|dgetD|dpop|dpopD|setdefault|join|split|replace|upper|partition|sidx
inductive Pt where|one (i:Nat)|many (is:List Nat)|nest (i:Nat) (is:List Nat)
mutual
inductive E where
 |cst (v:Val)|var (i:Nat)|glob (x:String) (v:Val)
 |bin (op:Bop) (a b:E)|neg (a:E)|not (a:E)|and (a b:E)|or (a b:E)
 |cmp (op:Cop) (a b:E)|chain (o1 o2:Cop) (a b c:E)
 |call (f:String) (as:Es)|make (C:String) (as:Es)|meth (C m:String) (o:E) (as:Es)|fld (o:E) (f:String)
 |bi (f:Bi) (as:Es)|bm (m:Bm) (o:E) (as:Es)
 |idx (a i:E)|slc (a:E) (lo hi:Oe)|rev (a:E)
 |tup (es:Es)|lst (es:Es)|dct (es:Es)
 |ife (c:Tt) (a b:E)
 |comp (ö:List Nat) (n:Nat) (p:Pt) (it:It) (c:Tt) (e:E)
 |fstr (es:Es)
 |split (o a:E)
 |repl (o:E) (y z:String)
 |key (es:Es)|dctP
inductive Es where|nil|cons (e:E) (es:Es)
inductive Oe where|none|some (e:E)
inductive Tt where|yes|val (e:E)|not (t:Tt)|and (a b:Tt)|or (a b:Tt)
inductive It where
 |seq (e:E)|chars (e:E)|range (a:E)|range2 (a b:E)|enum (e:E)|zip (a b:E)|items (e:E)|rev (e:E)
end
mutual
inductive S where
 |set (p:Pt) (e:E)|setIdx (a i e:E)|setFld (o:E) (f:String) (e:E)
 |augVar (i:Nat) (op:Bop) (e:E)|augFld (o:E) (f:String) (op:Bop) (n:Int)|augIdx (a i:E) (op:Bop) (n:Int)
 |setPair (a i b j e:E)
 |expr (e:E)|ret (e:E)|retN|ite (c:Tt) (a b:Ss)|whl (c:Tt) (b:Ss)|for (p:Pt) (it:It) (b:Ss)|forI (k:Bool) (p:Pt) (e:E) (b:Ss)
 |never|brk|cnt|pass|raise (C:String) (as:Es)|try (t:Option Nat) (e:E) (hs:Hn)
inductive Ss where|nil|cons (s:S) (ss:Ss)
inductive Hn where|nil|cons (C:String) (n:Option Nat) (b:Ss) (r:Hn)
end
set_option genInjectivity true
abbrev ixN(n:Nat)(i:Int):Option Nat:=if 0<=i then(if i<n then d9 i.toNat else ee)else if -(n:Int)<=i then d9 (i+n).toNat else ee
abbrev atI(xs:List α)(i:Int):Option α:=(ixN xs.length i).bind λj=>xs[j]?
abbrev fq(n d:Nat):Option Int->Nat
 |none=>d
 |some i=>if 0<=i then min i.toNat n else(i+n).toNat
abbrev cut(xs:List α)(lo hi:Option Int):List α:=(xs.drop<|fq xs.length 0 lo).take<|fq xs.length xs.length hi - fq xs.length 0 lo
abbrev eS:Option Ob->Option (List Val)
 |some (.lst xs)=>d9 xs
 |_=>ee
@[simp] theorem JT{xs:List Val}:eS (d9<|.lst xs)=d9 xs:=rfl
abbrev CS(h:Hs):Val->Option (List Val)
 |.ref a=>eS<|h a
 |.tup xs=>d9 xs
 |.scr ns=>d9<|ns.map .int
 |_=>ee
abbrev fT:Option Ob->Option (List<|Val×Val)
 |some (.dct kvs)=>d9 kvs
 |_=>ee
abbrev fc(kvs:List<|Val×Val)(k:Val):Option Val:=(kvs.find? λp=>p.1==k).map (·.2)
abbrev fe(kvs:List<|Val×Val)(k:Val):Bool:=kvs.any λp=>p.1==k
abbrev ff(kvs:List<|Val×Val)(k v:Val):List<|Val×Val:=if fe kvs k then kvs.map λp=>if p.1==k then(k,v)else p else kvs++[(k,v)]
abbrev fg(kvs:List<|Val×Val)(k:Val):List<|Val×Val:=kvs.filter λp=>!(p.1==k)
abbrev eY:Val->Bool
 |.int _=>eh
 |.str _=>eh
 |_=>ei
inductive D where
 |non|bl (b:Bool)|int (i:Int)|str (s:String)|tup (ds:List D)|lst (ds:List D)
 deriving Inhabited
mutual
noncomputable def D.eqv:D->D->Bool
 |.non,.non=>eh
 |.bl a,.bl b=>a==b
 |.bl a,.int i=>(if a then 1 else 0)==i
 |.int i,.bl a=>i==(if a then 1 else 0)
 |.int a,.int b=>a==b
 |.str a,.str b=>a==b
 |.tup a,.tup b=>D.eqvs a b
 |.lst a,.lst b=>D.eqvs a b
 |_,_=>ei
noncomputable def D.eqvs:List D->List D->Bool
 |[],[]=>eh
 |x::xs,y::ys=>D.eqv x y&&D.eqvs xs ys
 |_,_=>ei
end
abbrev dat(h:Hs):Nat->Val->Option D
 |_,.non=>d9 .non
 |_,.bl b=>d9<|.bl b
 |_,.int i=>d9<|.int i
 |_,.str s=>d9<|.str s
 |0,_=>ee
 |n+1,.tup xs=>(xs.mapM<|dat h n).map .tup
 |n+1,.ref a=>(eS<|h a).bind λxs=>(xs.mapM<|dat h n).map .lst
 |n+1,.scr ns=>d9<|.lst<|ns.map .int
 |_+1,.key _ _=>ee
abbrev deep:Nat:=12
abbrev eqV(h:Hs)(v u:Val):Option Bool:=(dat h deep v).bind λd=>(dat h deep u).map λe=>D.eqv d e
abbrev eM:List Val->Option (List Int)
 |[]=>d9 []
 |.int i::xs=>(eM xs).map (i :: ·)
 |_=>ee
abbrev fu:List Int->List Int->Bool
 |[],[]=>ei
 |[],_::_=>eh
 |_::_,[]=>ei
 |x::xs,y::ys=>if x=y then fu xs ys else gg (x<y)
abbrev fv:Val->Val->Option Bool
 |.int i,.int j=>d9<|gg (i<j)
 |.tup xs,.tup ys=>(eM xs).bind λns=>(eM ys).map λms=>fu ns ms
 |_,_=>ee
abbrev inL(h:Hs)(x:Val)(ys:List Val):Option Bool:=(dat h deep x).bind λd=>(ys.mapM<|dat h<|deep - 1).map λds=>ds.any λe=>D.eqv e d
abbrev leV:Val->Val->Option Bool
 |.int i,.int j=>d9<|gg (i<=j)
 |_,_=>ee
abbrev isKeyT:Val->Bool
 |.key _ _=>eh
 |_=>ei
abbrev inV(h:Hs)(v u:Val):Option Bool:=match u with
 |.tup xs=>inL h v xs
 |.ref a=>match h a with
  |some (.lst xs)=>inL h v xs
  |some (.dct kvs)=>if eY v then d9 (fe kvs v)else ee
  |some (.frz kvs)=>if eY v then d9 (fe kvs v)else ee
  |some (.dtp kvs)=>if isKeyT v then d9 (fe kvs v)else ee
  |_=>ee
 |.str t=>(match v with|.str s=>(oneC s).map λc=>gg (c∈t.toList)|_=>ee)
 |_=>ee
abbrev isV(v u:Val):Option Bool:=match u with
 |.non=>d9<|gg (v=.non)
 |.bl b=>d9<|gg (v=.bl b)
 |_=>ee
abbrev asLst(h:Hs):Val->Option (List Val)
 |.ref a=>eS<|h a
 |_=>ee
abbrev eX(h:Hs)(op:Cop)(v u:Val):Option Bool:=match op with
 |.eq=>eqV h v u
 |.ne=>(eqV h v u).map (!·)
 |.lt=>fv v u
 |.gt=>fv u v
 |.le=>leV v u
 |.ge=>leV u v
 |.isin=>inV h v u
 |.notin=>(inV h v u).map (!·)
 |.is=>isV v u
 |.isnot=>(isV v u).map (!·)
 |.eqE=>(asLst h v).bind λxs=>(asLst h u).bind λys=>if ys.isEmpty then d9 xs.isEmpty else ee
 |.ntT=>match v,u with
  |.bl a,.bl b=>d9<|a != b
  |_,_=>ee
 |_=>ee
abbrev WA(h:Hs):Val->Option Bool
 |.bl b=>d9 b
 |.int i=>d9<|gg (i≠0)
 |.non=>d9 ei
 |.str s=>if s.length<=lim then d9 (gg (s.length≠0))else ee
 |.tup xs=>d9 (!xs.isEmpty)
 |.scr ns=>d9 (!ns.isEmpty)
 |.ref a=>match h a with
  |some (.lst xs)=>d9 (!xs.isEmpty)
  |some (.dct kvs)=>d9 (!kvs.isEmpty)
  |_=>ee
 |.key _ _=>ee
abbrev mulOk(i j:Int):Prop:=(i.natAbs<2 ^ 64\/j.natAbs<2 ^ 64)\/(i.natAbs<=10 ^ 200/\j.natAbs<=10 ^ 200)
instance (i j:Int):Decidable<|mulOk i j:=inferInstanceAs<|Decidable<|_\/_
@[irreducible] noncomputable def new(h:Hs)(o:Ob)(Q:Q1):Prop:=∀p,h p=ee->Q (.ref p) (upd h p o)
variable {Q:Q1}
def Xv(q:∀p,h p=ee->Q (.ref p) (upd h p o)):new h o Q:=by unfold new;exact q
inductive Rs where|val (v:Val)|new (o:Ob)|no
@[irreducible] noncomputable def Rs.wp(r:Rs)(h:Hs)(Q:Q1):Prop:=match r with|.val v=>Q v h|.new o=>O.new h o Q|.no=>False
@[simp] theorem Rs.wp_val{v:Val}:(Rs.val v).wp h Q=Q v h:=by unfold Rs.wp;rfl
@[simp] theorem Rs.wp_new:(Rs.new o).wp h Q=O.new h o Q:=by unfold Rs.wp;rfl
@[simp] theorem Rs.wp_no:Rs.no.wp h Q=False:=by unfold Rs.wp;rfl
abbrev Rs.ofO:Option Val->Rs
 |some v=>.val v
 |none=>.no
abbrev Rs.lst(xs:List Val):Rs:=if xs.length<=lim then .new (.lst xs)else .no
abbrev addV(h:Hs):Val->Val->Rs
 |.int i,.int j=>.val<|.int<|i+j
 |.str s,.str t=>if s.length+t.length<=lim then .val (.str<|s++t)else .no
 |.tup xs,.tup ys=>if xs.length+ys.length<=lim then .val (.tup<|xs++ys)else .no
 |.ref a,.ref b=>match h a,h b with
  |some (.lst xs),d9 (.lst ys)=>Rs.lst<|xs++ys
  |_,_=>.no
 |_,_=>.no
abbrev repT(s:String)(n:Nat):String:=Η (Û n s.toList).flatten
abbrev mulV(h:Hs):Val->Val->Rs
 |.int i,.int j=>if mulOk i j then .val (.int<|i*j)else .no
 |.ref a,.int k=>match h a with
  |some (.lst xs)=>if -(2 ^ 62)<k/\k<2 ^ 62/\xs.length*k.toNat<=lim then Rs.lst (Û k.toNat xs).flatten else .no
  |_=>.no
 |.str s,.int k=>if 2<=k/\k<=1000000/\1<=s.length/\s.length*k.toNat<=lim then .val (.str<|repT s k.toNat)else .no
 |_,_=>.no
abbrev intV(f:Int->Int->Rs):Val->Val->Rs
 |.int i,.int j=>f i j
 |_,_=>.no
abbrev binV(h:Hs)(op:Bop)(v u:Val):Rs:=match op with
 |.add=>addV h v u
 |.sub=>intV (λi j=>.val<|.int<|i - j) v u
 |.mul=>mulV h v u
 |.fdiv=>intV (λi j=>if 0<j/\j<1073741824 then .val (.int<|i / j)else .no) v u
 |.mod=>intV (λi j=>if 0<j then .val (.int<|i % j)else .no) v u
 |.pow=>intV (λi j=>if 0<=j/\j<=1000000/\i.natAbs<2 ^ 64 then .val (.int<|i ^ j.toNat)else .no) v u
abbrev fU:Val->Option Int
 |.int i=>d9 i
 |_=>ee
abbrev fw(h:Hs):Val->Val->Option Val
 |.tup xs,.int k=>atI xs k
 |.str s,.int k=>if s.length<=lim then(atI s.toList k).map λc=>.str (ϵ c)else ee
 |.ref a,k=>match h a with
  |some (.lst xs)=>(fU k).bind<|atI xs
  |some (.dct kvs)=>if eY k then fc kvs k else ee
  |some (.frz kvs)=>if eY k then fc kvs k else ee
  |some (.dtp kvs)=>if isKeyT k then fc kvs k else ee
  |_=>ee
 |.scr ns,.int i=>atI (ns.map .int) i
 |_,_=>ee
abbrev fx(h:Hs)(v:Val)(lo hi:Option Int):Rs :=
 match v with
 |.tup xs=>if fq xs.length 0 lo=0/\fq xs.length xs.length hi=xs.length then .val (.tup xs)else .val (.tup<|cut xs lo hi)
 |.ref a=>match eS (h a)with
  |some xs=>.new<|.lst<|cut xs lo hi
  |none=>.no
 |.scr ns=>.new<|.lst<|cut (ns.map .int) lo hi
 |.str s=>if s.length<=lim then .val (.str<|Η<|cut s.toList lo hi)else .no
 |_=>.no
abbrev sortI(ns:List Int):List Int:=ns.mergeSort λa b=>gg (a<=b)
abbrev blsOf:List Val->Option (List Bool)
 |[]=>d9 []
 |.bl b::xs=>(blsOf xs).map (b :: ·)
 |_=>ee
abbrev minL:List Val->Option Val
 |[]=>ee
 |x::xs=>xs.foldl (λm y=>m.bind λb=>(fv y b).map λc=>if c then y else b)<|d9 x
abbrev maxL:List Val->Option Val
 |[]=>ee
 |x::xs=>xs.foldl (λm y=>m.bind λb=>(fv b y).map λc=>if c then y else b)<|d9 x
abbrev dedup:List Int->List Int
 |[]=>[]
 |x::xs=>x::(dedup xs).filter (· != x)
abbrev fO(c d:String):Bool:=c==d||d == "ShutError" || d == "ValueError" || d == "Exception"
abbrev fW(h:Hs):Val->Option String
 |.non=>d9 "NoneType"
 |.bl _=>d9 "bool"
 |.int _=>d9 "int"
 |.str _=>d9 "str"
 |.tup _=>d9 "tuple"
 |.scr _=>d9 "list"
 |.ref a=>match h a with
  |some (.lst _)=>d9 "list"
  |some (.dct _)=>d9 "dict"
  |_=>ee
 |.key _ _=>ee
abbrev fX(h:Hs)(v:Val)(T:String):Option Bool:=(fW h v).map λt=>t==T||(t == "bool" && T == "int")
abbrev isiAny(h:Hs)(v:Val):List String->Option Bool
 |[]=>d9 ei
 |T::Ts=>(fX h v T).bind λb=>(isiAny h v Ts).map (b || ·)
abbrev pairsOf(h:Hs):List Val->Option (List<|Val×Val)
 |[]=>d9 []
 |v::vs=>match v with
  |.tup [k,x]=>if eY k then(pairsOf h vs).map ((k,x) :: ·)else ee
  |_=>ee
abbrev pairUp:List Val->Option (List<|Val×Val)
 |[]=>d9 []
 |k::v::r=>if eY k then(pairUp r).map ((k,v) :: ·)else ee
 |_=>ee
abbrev putAll(kvs:List<|Val×Val):List (Val×Val)->List (Val×Val)
 |[]=>kvs
 |(k,v)::r=>putAll (ff kvs k v) r
abbrev fB(h:Hs):Val->Rs
 |.ref a=>match h a with
  |some (.lst xs)=>.val<|.int xs.length
  |some (.dct kvs)=>.val<|.int kvs.length
  |_=>.no
 |.tup xs=>.val<|.int xs.length
 |.scr ns=>.val<|.int ns.length
 |.str s=>if s.length<=lim then .val (.int s.length)else .no
 |_=>.no
abbrev Rv:Val->Rs
 |.int i=>.val<|.int i
 |.bl b=>.val (.int<|if b then 1 else 0)
 |.str s=>if s.length<=640/\s.toList≠[]/\s.toList.all figB=eh then .val (.int<|decN s.toList)else .no
 |_=>.no
abbrev absV:Val->Rs
 |.int i=>.val (.int<|if i<0 then -i else i)
 |_=>.no
abbrev eU(f:Val->Rs):List Val->Rs
 |[v]=>f v
 |_=>.no
abbrev biOf2(f:Val->Val->Rs):List Val->Rs
 |[v,u]=>f v u
 |_=>.no
abbrev rowsOf:List Val->Option (List<|List Int)
 |[]=>d9 []
 |.tup xs::r=>(eM xs).bind λns=>(rowsOf r).map (ns :: ·)
 |_=>ee
abbrev minR(b:List Int):List (List Int)->List Int
 |[]=>b
 |y::r=>minR (if fu y b then y else b) r
abbrev fE(h:Hs)(v:Val):Rs:=match v with
 |.ref a=>match (eS<|h a).bind rowsOf with
  |some []=>.val .non
  |some (x::r)=>.val<|.tup<|(minR x r).map .int
  |none=>.no
 |_=>.no
abbrev SV(h:Hs):Val->Rs
 |.ref a=>.ofO<|(eS<|h a).bind λxs=>(blsOf xs).map λbs=>.bl<|bs.all id
 |_=>.no
abbrev sortOf(h:Hs):Val->Option (List Int)
 |.ref a=>(eS<|h a).bind eM
 |.scr ns=>d9 ns
 |_=>ee
abbrev keysOf(kvs:List<|Val×Val):Option<|List Int:=eM (kvs.map (·.1))
abbrev sortAny(h:Hs)(v:Val):Option<|List Int:=match v with
 |.ref a=>match h a with
  |some (.lst xs)=>eM xs
  |some (.dct kvs)=>keysOf kvs
  |_=>ee
 |.scr ns=>d9 ns
 |_=>ee
abbrev QE(ğ:List<|List Int):List<|List Int:=ğ.mergeSort λa b=>!fu b a
abbrev L3(h:Hs)(v:Val):Option<|List<|List Int:=match v with
 |.ref a=>(eS<|h a).bind rowsOf
 |_=>ee
abbrev BI(h:Hs)(v:Val):Rs:=match L3 h v with
 |some ğ=>if ğ.length<64/\(ğ.all λr=>!r.isEmpty)=eh then .new (.lst<|(QE ğ).map λr=>.tup<|r.map .int)else .no
 |none=>.no
abbrev Jw(h:Hs)(v:Val):Rs:=match sortAny h v with
 |some ns=>if ns.length<64 then .new (.lst<|(sortI ns).map .int)else .no
 |none=>BI h v
abbrev biSortedI(h:Hs)(v:Val):Rs:=match sortAny h v with
 |some ns=>if ns.length<64 then .new (.lst<|(sortI ns).map .int)else .no
 |none=>.no
abbrev biSortedSet(h:Hs)(v:Val):Rs:=match sortOf h v with
 |some ns=>if ns.length<64 then .new (.lst<|(sortI<|dedup ns).map .int)else .no
 |none=>.no
abbrev biLenSet(h:Hs)(v:Val):Rs:=match sortOf h v with
 |some ns=>if ns.length<4000 then .val (.int (dedup ns).length)else .no
 |none=>.no
abbrev toList(h:Hs):Val->Rs
 |.ref a=>match h a with
  |some (.lst xs)=>.new<|.lst xs
  |_=>.no
 |.tup xs=>.new<|.lst xs
 |_=>.no
abbrev Nj(h:Hs):Val->Rs
 |.ref a=>match fT (h a)with
  |some kvs=>.new (.lst (kvs.map (·.1)))
  |none=>.no
 |_=>.no
abbrev Mw(h:Hs):Val->Rs
 |.ref a=>match h a with
  |some (.lst xs)=>.val<|.tup xs
  |_=>.no
 |.tup xs=>.val<|.tup xs
 |_=>.no
abbrev ON(h:Hs):Val->Rs
 |.ref a=>match h a with
  |some (.dct kvs)=>.new<|.dct kvs
  |some (.lst xs)=>match pairsOf h xs with
   |some kvs=>.new<|.dct<|putAll [] kvs
   |none=>.no
  |_=>.no
 |_=>.no
abbrev biV(h:Hs)(b:Bi)(vs:List Val):Rs:=match b with
 |.len=>eU (fB h) vs
 |.int=>eU Rv vs
 |.min2=>biOf2 (intV λi j=>.val<|.int<|if j<i then j else i) vs
 |.max2=>biOf2 (intV λi j=>.val<|.int<|if j > i then j else i) vs
 |.minD=>eU (fE h) vs
 |.all=>eU (SV h) vs
 |.sorted=>eU (Jw h) vs
 |.sortedI=>eU (biSortedI h) vs
 |.sortedSet=>eU (biSortedSet h) vs
 |.lenSet=>eU (biLenSet h) vs
 |.list=>eU (toList h) vs
 |.tuple=>eU (Mw h) vs
 |.dict=>eU (ON h) vs
 |.isi Ts=>eU (λv=>.ofO<|(isiAny h v Ts).map .bl) vs
 |.listD=>eU (Nj h) vs
 |_=>.no
abbrev bmL(h:Hs)(v:Val)(f:Ad->List Val->Option (Val×Hs)):Option<|Val×Hs:=match v with
 |.ref a=>(eS<|h a).bind<|f a
 |_=>ee
abbrev bmD(h:Hs)(v:Val)(f:Ad->List (Val×Val)->Option (Val×Hs)):Option<|Val×Hs:=match v with
 |.ref a=>(fT<|h a).bind<|f a
 |_=>ee
abbrev DS(h:Hs)(vs:List Val)(a:Ad)(xs:List Val):Option<|Val×Hs:=match vs with
 |[v]=>if xs.length<lim then d9 (.non,upd h a<|.lst<|xs++[v])else ee
 |_=>ee
abbrev bmPopAt(h:Hs)(vs:List Val)(a:Ad)(xs:List Val):Option<|Val×Hs:=match vs with
 |[.int i]=>if -(2 ^ 62)<i/\i<2 ^ 62 then(ixN xs.length i).bind λk=>(xs[k]?).map λv=>(v,upd h a<|.lst<|xs.eraseIdx k)else ee
 |_=>ee
abbrev Re(h:Hs)(vs:List Val)(a:Ad)(kvs:List<|Val×Val):Option<|Val×Hs:=match vs with
 |[k]=>if eY k then d9 ((fc kvs k).getD .non,h)else ee
 |_=>ee
abbrev LD(h:Hs)(vs:List Val)(a:Ad)(kvs:List<|Val×Val):Option<|Val×Hs:=match vs with
 |[k]=>if eY k then(fc kvs k).map λv=>(v,upd h a<|.dct<|fg kvs k)else ee
 |_=>ee
abbrev Gy(h:Hs)(vs:List Val)(a:Ad)(kvs:List<|Val×Val):Option<|Val×Hs:=match vs with
 |[k,d]=>if eY k then d9 ((fc kvs k).getD d,upd h a<|.dct<|fg kvs k)else ee
 |_=>ee
abbrev II(h:Hs)(vs:List Val)(a:Ad)(kvs:List<|Val×Val):Option<|Val×Hs:=match vs with
 |[k,d]=>if eY k/\kvs.length<lim then(match fc kvs k with|some v=>d9 (v,h)|none=>d9 (d,upd h a<|.dct<|ff kvs k d))else ee
 |_=>ee
abbrev bmV(h:Hs)(m:Bm)(v:Val)(vs:List Val):Option<|Val×Hs:=match m with
 |.append=>bmL h v<|DS h vs
 |.popAt=>bmL h v<|bmPopAt h vs
 |.dget=>bmD h v<|Re h vs
 |.dpop=>bmD h v<|LD h vs
 |.dpopD=>bmD h v<|Gy h vs
 |.setdefault=>bmD h v<|II h vs
 |_=>ee
abbrev isLst:Option Ob->Bool
 |some (.lst _)=>eh
 |_=>ei
abbrev isDct:Option Ob->Bool
 |some (.dct _)=>eh
 |some (.dtp _)=>eh
 |_=>ei
inductive Ty where|l|d|s|t
abbrev Bm.ty:Bm->Ty
 |.dget=>.d
 |.dgetD=>.d
 |.dpop=>.d
 |.dpopD=>.d
 |.setdefault=>.d
 |.join=>.s
 |.split=>.s
 |.replace=>.s
 |.upper=>.s
 |.partition=>.s
 |.sidx=>.s
 |.index=>.t
 |_=>.l
abbrev Jv(p:Option Ob->Bool)(h:Hs):Val->Bool
 |.ref a=>p<|h a
 |_=>ei
abbrev IW:Val->Bool
 |.str _=>eh
 |_=>ei
abbrev Il:Val->Bool
 |.tup _=>eh
 |_=>ei
abbrev bmTy(h:Hs)(m:Bm)(v:Val):Bool:=match m.ty with
 |.l=>Jv isLst h v
 |.d=>Jv isDct h v
 |.s=>IW v
 |.t=>Jv isLst h v||Il v
abbrev eW:List (String×Val)->String->Val->List (String×Val)
 |[],f,v=>[(f,v)]
 |(g,x)::r,f,v=>if g=f then(g,v)::r else(g,x)::eW r f v
abbrev getV(env:Env)(i:Nat):Option Val:=match env[i]? with
 |some (d9 v)=>d9 v
 |_=>ee
abbrev fV:Val->Option Bool
 |.bl b=>d9 b
 |_=>ee
abbrev fm:Val->Option Ad
 |.ref a=>d9 a
 |_=>ee
abbrev insOf:Option Ob->Option (String×List (String×Val))
 |some (.ins C fs)=>d9 (C,fs)
 |_=>ee
abbrev tupOf:Val->Option (List Val)
 |.tup xs=>d9 xs
 |_=>ee
abbrev bindL:List Nat->List Val->Env->Option Env
 |[],[],env=>d9 env
 |i::is,x::xs,env=>bindL is xs<|env.set i<|d9 x
 |_,_,_=>ee
abbrev bind(p:Pt)(h:Hs)(v:Val)(env:Env):Option Env :=
 match p with
 |.one i=>d9<|env.set i<|d9 v
 |.many is=>(tupOf v).bind λxs=>bindL is xs env
 |.nest i is=>(tupOf v).bind λxs=>match xs with
  |[x,y]=>(tupOf y).bind λys=>bindL is ys<|env.set i<|d9 x
  |_=>ee
abbrev wComp(st:Hs->Prop)(step:Val->Hs->(Option Val->Hs->Prop)->XQ->Prop):List Val->List Val->Hs->(List Val->Hs->Prop)->XQ->Prop
 |[],Ė,h,Q,_=>st h/\Q Ė h
 |v::vs,Ė,h,Q,X=>st h/\step v h (λr h'=>wComp st step vs (Ė++r.toList) h' Q X) X
abbrev enumL:Nat->List Val->List Val
 |_,[]=>[]
 |k,x::xs=>.tup [.int k,x]::enumL (k+1) xs
abbrev itV(h:Hs):Val->Option ((Hs->Prop)×List Val)
 |.tup xs=>d9 (λ_=>True,xs)
 |.scr ns=>d9 (λ_=>True,ns.map .int)
 |.ref a=>(eS<|h a).map λxs=>(λg=>eS (g a)=d9 xs,xs)
 |_=>ee
abbrev itemOf(k:Bool)(p:Val×Val):Val:=if k then p.1 else .tup [p.1,p.2]
abbrev fk(i j:Int):List Val:=(List.range (j - i).toNat).map λ(k:Nat)=>.int<|i+k
abbrev fy(h:Hs)(o k v:Val):Option Hs :=
 match o with
 |.ref p=>match h p with
  |some (.lst xs)=>(fU k).bind λn=>(ixN xs.length n).map λj=>upd h p<|.lst<|xs.set j v
  |some (.dct kvs)=>if eY k/\kvs.length<lim then d9 (upd h p<|.dct<|ff kvs k v)else ee
  |some (.dtp kvs)=>if isKeyT k/\kvs.length<lim then d9 (upd h p<|.dtp<|ff kvs k v)else ee
  |_=>ee
 |_=>ee
abbrev fA(h:Hs)(o:Val)(f:String)(v:Val):Option Hs :=
 match o with
 |.ref p=>match h p with
  |some (.ins C fs)=>if fs.length<900 then d9 (upd h p<|.ins C<|eW fs f v)else ee
  |_=>ee
 |_=>ee
abbrev fz(h:Hs)(o:Val)(f:String):Option Val:=(fm o).bind λa=>(insOf<|h a).bind λp=>p.2.lookup f
abbrev clsV(h:Hs)(o:Val)(m:String):Option String:=(fm o).bind λa=>(insOf<|h a).bind λp=>if(p.2.lookup m).isNone then d9 p.1 else ee
abbrev augV(op:Bop)(x y:Val):Option Val:=match op,x,y with
 |.add,.int i,.int j=>d9<|.int<|i+j
 |.sub,.int i,.int j=>d9<|.int<|i - j
 |_,_,_=>ee
@[irreducible] noncomputable def N2(F:Hs->(List Val->Hs->Prop)->XQ->Prop)(h:Hs)(Q:Q1)(X:XQ):Prop:=new h (.dct []) λr h1=>go (fm r) λp=>F h1 (λvs h2=>go (pairUp vs) λkvs=>h2 p=d9 (.dct [])/\Q (.ref p) (upd h2 p<|.dct<|putAll [] kvs)) X
mutual
@[reducible] noncomputable def xE(Φ:Fs):E->Env->Hs->Q1->XQ->Prop
 |.cst v,_,h,Q,_=>Q v h
 |.glob _ v,_,h,Q,_=>Q v h
 |.var i,env,h,Q,_=>go (getV env i) λv=>Q v h
 |.bin op a b,env,h,Q,X=>xE Φ a env h (λv h1=>xE Φ b env h1 (λu h2=>(binV h2 op v u).wp h2 Q) X) X
 |.neg a,env,h,Q,X=>xE Φ a env h (λv h1=>go (fU v) λi=>Q (.int (-i)) h1) X
 |.not a,env,h,Q,X=>xE Φ a env h (λv h1=>go (fV v) λb=>Q (.bl (!b)) h1) X
 |.and a b,env,h,Q,X=>xE Φ a env h (λv h1=>go (fV v) λc=>if c=eh then xE Φ b env h1 Q X else Q (.bl ei) h1) X
 |.or a b,env,h,Q,X=>xE Φ a env h (λv h1=>go (fV v) λc=>if c=eh then Q (.bl eh) h1 else xE Φ b env h1 Q X) X
 |.cmp op a b,env,h,Q,X=>xE Φ a env h (λv h1=>xE Φ b env h1 (λu h2=>go (eX h2 op v u) λc=>Q (.bl c) h2) X) X
 | .chain o1 o2 a b c,env,h,Q,X=>xE Φ a env h (λv h1=>xE Φ b env h1 (λu h2=>go (eX h2 o1 v u) λk =>
     if k=eh then xE Φ c env h2 (λw h3=>go (eX h3 o2 u w) λk2=>Q (.bl k2) h3) X else Q (.bl ei) h2) X) X
 |.call f as,env,h,Q,X=>xA Φ as env h (λvs h1=>Φ f vs h1 Q X) X
 |.make C as,env,h,Q,X=>xA Φ as env h (λvs h1=>∀p,h1 p=ee->Φ (C ++ ".__init__") (.ref p::vs) (upd h1 p<|.ins C []) (λv h2=>v=.non/\Q (.ref p) h2) X) X
 |.meth C m o as,env,h,Q,X=>xE Φ o env h (λv h1=>clsV h1 v m=d9 C/\xA Φ as env h1 (λvs h2=>Φ (C ++ "." ++ m) (v::vs) h2 Q X) X) X
 |.fld o f,env,h,Q,X=>xE Φ o env h (λv h1=>go (fz h1 v f) λu=>Q u h1) X
 |.bi f as,env,h,Q,X=>xA Φ as env h (λvs h1=>(biV h1 f vs).wp h1 Q) X
 |.bm m o as,env,h,Q,X=>xE Φ o env h (λv h1=>bmTy h1 m v=eh/\xA Φ as env h1 (λvs h2=>go (bmV h2 m v vs) λr=>Q r.1 r.2) X) X
 |.idx a i,env,h,Q,X=>xE Φ a env h (λv h1=>xE Φ i env h1 (λk h2=>go (fw h2 v k) λu=>Q u h2) X) X
 |.slc a lo hi,env,h,Q,X=>xE Φ a env h (λv h1=>xO Φ lo env h1 (λl h2=>xO Φ hi env h2 (λu h3=>(fx h3 v l u).wp h3 Q) X) X) X
 |.tup es,env,h,Q,X=>xA Φ es env h (λvs h1=>Q (.tup vs) h1) X
 |.lst es,env,h,Q,X=>xA Φ es env h (λvs h1=>new h1 (.lst vs) Q) X
 |.dct es,env,h,Q,X=>N2 (xA Φ es env) h Q X
 |.ife c a b,env,h,Q,X=>xT Φ c env h (λk h1=>if k=eh then xE Φ a env h1 Q X else xE Φ b env h1 Q X) X
 | .comp ö n p it c e,env,h,Q,X=>xI Φ it env h (λst xs h1=>xs.length<lim/\
     wComp st (λv h2 K X2=>go (bind p h2 v<|Û n ee++ö.map λj=>(env[j]?).getD ee) λŔ =>
       xT Φ c Ŕ h2 (λk h3=>if k=eh then xE Φ e Ŕ h3 (λu h4=>K (d9 u) h4) X2 else K ee h3) X2) xs [] h1 (λys h5=>new h5 (.lst ys) Q) λ_ _=>False) X
 |_,_,_,_,_=>False
@[reducible] noncomputable def xA(Φ:Fs):Es->Env->Hs->(List Val->Hs->Prop)->XQ->Prop
 |.nil,_,h,Q,_=>Q [] h
 |.cons e es,env,h,Q,X=>xE Φ e env h (λv h1=>xA Φ es env h1 (λvs h2=>Q (v::vs) h2) X) X
@[reducible] noncomputable def xJ(Φ:Fs):Es->Env->Hs->String->(String->Hs->Prop)->XQ->Prop
 |.nil,_,h,Ė,Q,_=>Q Ė h
 |.cons e es,env,h,Ė,Q,X=>xE Φ e env h (λv h1=>go (fmtV v) λs=>Ė.length+s.length<=lim/\xJ Φ es env h1 (Ė++s) Q X) X
@[reducible] noncomputable def xO(Φ:Fs):Oe->Env->Hs->(Option Int->Hs->Prop)->XQ->Prop
 |.none,_,h,Q,_=>Q ee h
 |.some e,env,h,Q,X=>xE Φ e env h (λv h1=>go (fU v) λi=>Q (d9 i) h1) X
@[reducible] noncomputable def xT(Φ:Fs):Tt->Env->Hs->(Bool->Hs->Prop)->XQ->Prop
 |.yes,_,h,Q,_=>Q eh h
 |.val e,env,h,Q,X=>xE Φ e env h (λv h1=>go (WA h1 v) λk=>Q k h1) X
 |.not a,env,h,Q,X=>xT Φ a env h (λk h1=>Q (!k) h1) X
 |.and a b,env,h,Q,X=>xT Φ a env h (λk h1=>if k=eh then xT Φ b env h1 Q X else Q ei h1) X
 |.or a b,env,h,Q,X=>xT Φ a env h (λk h1=>if k=eh then Q eh h1 else xT Φ b env h1 Q X) X
@[reducible] noncomputable def xI(Φ:Fs):It->Env->Hs->((Hs->Prop)->List Val->Hs->Prop)->XQ->Prop
 |.seq e,env,h,Q,X=>xE Φ e env h (λv h1=>go (itV h1 v) λp=>Q p.1 p.2 h1) X
 |.range a,env,h,Q,X=>xE Φ a env h (λv h1=>go (fU v) λn=>(-(2 ^ 62)<=n/\n<2 ^ 62)/\Q (λ_=>True) (fk 0 n) h1) X
 | .range2 a b,env,h,Q,X=>xE Φ a env h (λv h1=>xE Φ b env h1 (λu h2=>go (fU v) λi=>go (fU u) λj =>
     (-(2 ^ 62)<=i/\i<2 ^ 62/\-(2 ^ 62)<=j/\j<2 ^ 62)/\Q (λ_=>True) (fk i j) h2) X) X
 |.enum e,env,h,Q,X=>xE Φ e env h (λv h1=>go (tupOf v) λxs=>Q (λ_=>True) (enumL 0 xs) h1) X
 |_,_,_,_,_=>False
end
@[reducible] noncomputable def wE:Fs->E->Env->Hs->Q1->XQ->Prop:=xE
@[reducible] noncomputable def wA:Fs->Es->Env->Hs->(List Val->Hs->Prop)->XQ->Prop:=xA
@[reducible] noncomputable def wJ:Fs->Es->Env->Hs->String->(String->Hs->Prop)->XQ->Prop:=xJ
@[reducible] noncomputable def wO:Fs->Oe->Env->Hs->(Option Int->Hs->Prop)->XQ->Prop:=xO
@[reducible] noncomputable def wT:Fs->Tt->Env->Hs->(Bool->Hs->Prop)->XQ->Prop:=xT
@[reducible] noncomputable def wI:Fs->It->Env->Hs->((Hs->Prop)->List Val->Hs->Prop)->XQ->Prop:=xI
def Ru:wE=xE:=by unfold wE;rfl
noncomputable abbrev NQ:=Env->Hs->Prop
noncomputable abbrev EQ:=Env->String->Hs->Prop
abbrev wFor(st:Hs->Prop)(W:Val->Env->Hs->NQ->NQ->Prop)(N:NQ):List Val->Env->Hs->Prop
 |[],env,h=>st h/\N env h
 |v::vs,env,h=>st h/\W v env h (λe g=>wFor st W N vs e g) N
abbrev wWhile(T:Env->Hs->(Bool->Hs->Prop)->Prop)(W:Env->Hs->NQ->NQ->Prop)(N:NQ):Nat->Env->Hs->Prop
 |0,_,_=>False
 |n+1,env,h=>T env h λk h1=>if k=eh then W env h1 (λe g=>wWhile T W N n e g) N else N env h1
mutual
@[reducible] noncomputable def xS(Φ:Fs):S->Env->Hs->NQ->Q1->NQ->NQ->EQ->Prop
 |.set p e,env,h,N,_,_,_,X=>wE Φ e env h (λv h1=>go (bind p h1 v env) λŔ=>N Ŕ h1)<|X env
 |.setIdx a i e,env,h,N,_,_,_,X=>wE Φ e env h (λv h1=>wE Φ a env h1 (λo h2=>wE Φ i env h2 (λk h3=>go (fy h3 o k v) λg=>N env g)<|X env)<|X env)<|X env
 |.setFld o f e,env,h,N,_,_,_,X=>wE Φ e env h (λv h1=>wE Φ o env h1 (λu h2=>go (fA h2 u f v) λg=>N env g)<|X env)<|X env
 |.augFld o f op n,env,h,N,_,_,_,X=>wE Φ o env h (λu h1=>go (fz h1 u f) λx=>go (augV op x<|.int n) λy=>go (fA h1 u f y) λg=>N env g)<|X env
 |.augIdx a i op n,env,h,N,_,_,_,X=>wE Φ a env h (λo h1=>wE Φ i env h1 (λk h2=>go (fw h2 o k) λx=>go (augV op x<|.int n) λy=>go (fy h2 o k y) λg=>N env g)<|X env)<|X env
 |.expr e,env,h,N,_,_,_,X=>wE Φ e env h (λ_ h1=>N env h1)<|X env
 |.ret e,env,h,_,R,_,_,X=>wE Φ e env h R<|X env
 |.retN,_,h,_,R,_,_,_=>R .non h
 |.ite c a b,env,h,N,R,B,C,X=>wT Φ c env h (λk h1=>if k=eh then xSs Φ a env h1 N R B C X else xSs Φ b env h1 N R B C X)<|X env
 |.whl c b,env,h,N,R,_,_,X=>∃n,wWhile (λe g K=>wT Φ c e g K<|X e) (λe g K M=>xSs Φ b e g K R M K X) N n env h
 |.for p it b,env,h,N,R,_,_,X=>wI Φ it env h (λst xs h1=>wFor st (λv e g K M=>go (bind p g v e) λe2=>xSs Φ b e2 g K R M K X) N xs env h1)<|X env
 | .forI k p e b,env,h,N,R,_,_,X=>wE Φ e env h (λv h1=>go (fm v) λa=>go (fT<|h1 a) λkvs =>
     wFor (λg=>g a=d9 (.frz kvs)) (λv e g K M=>go (bind p g v e) λe2=>xSs Φ b e2 g K (λu g2=>g2 a=d9 (.frz kvs)/\R u (upd g2 a<|.dct kvs)) M K λ_ _ _=>False)
       (λe g=>g a=d9 (.frz kvs)/\N e (upd g a<|.dct kvs)) (kvs.map<|itemOf k) env (upd h1 a<|.frz kvs))<|X env
 |.never,_,_,_,_,_,_,_=>False
 |_,_,_,_,_,_,_,_=>False
@[reducible] noncomputable def xSs(Φ:Fs):Ss->Env->Hs->NQ->Q1->NQ->NQ->EQ->Prop
 |.nil,env,h,N,_,_,_,_=>N env h
 |.cons s ss,env,h,N,R,B,C,X=>xS Φ s env h (λe g=>xSs Φ ss e g N R B C X) R B C X
@[reducible] noncomputable def xH(Φ:Fs):Hn->String->Env->Hs->NQ->Q1->NQ->NQ->Prop
 |.nil,_,_,_,_,_,_,_=>False
 |.cons K ee b r,c,env,h,N,R,B,C=>if fO c K=eh then xSs Φ b env h N R B C (λ_ _ _=>False)else xH Φ r c env h N R B C
 |.cons K (d9 i) b r,c,env,h,N,R,B,C=>if fO c K=eh then(∀p,h p=ee->xSs Φ b (env.set i<|d9<|.ref p) (upd h p<|.exc c) (λe g=>N (e.set i ee) g) R (λe g=>B (e.set i ee) g) (λe g=>C (e.set i ee) g) λ_ _ _=>False)
  else xH Φ r c env h N R B C
end
@[reducible] noncomputable def wS:Fs->S->Env->Hs->NQ->Q1->NQ->NQ->EQ->Prop:=xS
@[reducible] noncomputable def wSs:Fs->Ss->Env->Hs->NQ->Q1->NQ->NQ->EQ->Prop:=xSs
structure Fn where
 ar:Nat
 sz:Nat
 body:Ss
noncomputable abbrev Pg:=String->Option Fn
class In(P:Pg)(f:String)(d:outParam Fn):Prop where
 eq:P f=d9 d
abbrev Fn.env(d:Fn)(vs:List Val):Env:=vs.map d9++Û (d.sz - d.ar) ee
abbrev wF0(P:Pg):Nat->Fs
 |0=>λ_ _ _ _ _=>False
 |n+1=>λf vs h Q X=>go (P f) λd=>vs.length=d.ar/\wSs (wF0 P n) d.body (d.env vs) h (λ_ g=>Q .non g) Q (λ_ _=>False) (λ_ _=>False) λ_ c g=>X c g
@[irreducible] noncomputable def wF(P:Pg)(n:Nat):Fs:=wF0 P n
variable {P:Pg} {n:Nat}
def wF_eq:wF P n=wF0 P n:=by unfold wF;rfl
def Zb{f:String}{d:Fn}{vs:List Val}{X:XQ}(e:P f=d9 d)(hl:vs.length=d.ar)
  (q:wSs (wF P n) d.body (d.env vs) h (λ_ g=>Q .non g) Q (λ_ _=>False) (λ_ _=>False) λ_ c g=>X c g):wF P (n+1) f vs h Q X:=by
 rw[wF_eq]at q ⊢;exact eK e ⟨hl,q⟩
section
variable {Φ:Fs}{env:Env}{h:Hs}{Q:Q1}{X:XQ}{a b c e o:E}{as:Es}{v u:Val}
def HG{i:Nat}(g:getV env i=d9 v)(q:Q v h):wE Φ (.var i) env h Q X:=by rw[Ru];exact eK g q
def Qy{f:Bi}(q:wA Φ as env h (λvs h1=>(biV h1 f vs).wp h1 Q) X):wE Φ (.bi f as) env h Q X:=q
variable {es:Es}
def QR(q:new h (.dct []) λr h1=>go (fm r) λp=>wA Φ es env h1 (λvs h2=>go (pairUp vs) λkvs=>h2 p=d9 (.dct [])/\Q (.ref p) (upd h2 p<|.dct<|putAll [] kvs)) X):wE Φ (.dct es) env h Q X:=by show N2 _ _ _ _;unfold N2;exact q
variable {QA:List Val->Hs->Prop}{QO:Option Int->Hs->Prop}{QT:Bool->Hs->Prop}{QI:(Hs->Prop)->List Val->Hs->Prop}
def CN(q:QA [] h):wA Φ .nil env h QA X:=q
def CI(q:wE Φ e env h (λv h1=>wA Φ es env h1 (λvs h2=>QA (v::vs) h2) X) X):wA Φ (.cons e es) env h QA X:=q
def Hw(q:wE Φ e env h (λv h1=>go (WA h1 v) λk=>QT k h1) X):wT Φ (.val e) env h QT X:=q
def HD{t:Tt}(q:wT Φ t env h (λk h1=>QT (!k) h1) X):wT Φ (.not t) env h QT X:=q
def Sn{s t:Tt}(q:wT Φ s env h (λk h1=>if k=eh then QT eh h1 else wT Φ t env h1 QT X) X):wT Φ (.or s t) env h QT X:=q
end
section
variable {Φ:Fs}{env:Env}{h:Hs}{N B C:NQ}{R:Q1}{X:EQ}{a b c e o i:E}{as:Es}{v u:Val}{t:Tt}{s1 s2:Ss}{s:S}{p:Pt}{it:It}{hs:Hn}
def Rt(q:wT Φ t env h (λk h1=>if k=eh then wSs Φ s1 env h1 N R B C X else wSs Φ s2 env h1 N R B C X)<|X env):wS Φ (.ite t s1 s2) env h N R B C X:=q
def Dp(q:N env h):wSs Φ .nil env h N R B C X:=q
def EW{ss:Ss}(q:wS Φ s env h (λe g=>wSs Φ ss e g N R B C X) R B C X):wSs Φ (.cons s ss) env h N R B C X:=q
end
section
variable {h:Hs}{Q:Q1}{i j k:Int}{a b:Ad}{xs ys:List Val}{v u:Val}{K:Val->Prop}{KB:Bool->Prop}
def wp_val{r:Rs}(e:r=.val v)(q:Q v h):r.wp h Q:=by rw[e,Rs.wp_val];exact q
def wp_new{r:Rs}{o:Ob}(e:r=.new o)(q:new h o Q):r.wp h Q:=by rw[e,Rs.wp_new];exact q
def b_add(q:Q (.int<|i+j) h):(binV h .add (.int i)<|.int j).wp h Q:=wp_val rfl q
def b_sub(q:Q (.int<|i - j) h):(binV h .sub (.int i)<|.int j).wp h Q:=wp_val rfl q
def b_mul(m:mulOk i j)(q:Q (.int<|i*j) h):(binV h .mul (.int i)<|.int j).wp h Q:=wp_val (fZ m) q
def b_fdiv(m:0<j/\j<1073741824)(q:Q (.int<|i / j) h):(binV h .fdiv (.int i)<|.int j).wp h Q:=wp_val (fZ m) q
def b_mod(m:0<j)(q:Q (.int<|i % j) h):(binV h .mod (.int i)<|.int j).wp h Q:=wp_val (fZ m) q
def b_pow(m:0<=j/\j<=1000000/\i.natAbs<2 ^ 64)(q:Q (.int<|i ^ j.toNat) h):(binV h .pow (.int i)<|.int j).wp h Q:=wp_val (fZ m) q
def LF{z:Int}(m:0<=j/\j<=1000000/\i.natAbs<2 ^ 64)(e:i ^ j.toNat=z)(q:Q (.int z) h):(binV h .pow (.int i)<|.int j).wp h Q:=b_pow m (by rw[e];exact q)
def LA(m:xs.length+ys.length<=lim)(q:Q (.tup<|xs++ys) h):(binV h .add (.tup xs)<|.tup ys).wp h Q:=wp_val (fZ m) q
def Dg(e1:h a=d9 (.lst xs))(e2:h b=d9 (.lst ys))(m:(xs++ys).length<=lim)(q:new h (.lst<|xs++ys) Q):(binV h .add (.ref a)<|.ref b).wp h Q:=by refine wp_new ?_ q;show(match h a,h b with|some (.lst xs),d9 (.lst ys)=>Rs.lst (xs++ys)|_,_=>.no:Rs)=_;simp only[e1,e2,Rs.lst];rw[fZ m]
def lsE(e1:h a=d9 (.lst xs)):eS (h a)=d9 xs:=by rw[e1];rfl
variable {kvs:List (Val×Val)}
def dcE(e1:h a=d9 (.dct kvs)):fT (h a)=d9 kvs:=by rw[e1];rfl
def g_int{K:Int->Prop}(q:K i):go (fU<|.int i) K:=eK rfl q
def g_bl{b:Bool}(q:KB b):go (fV<|.bl b) KB:=eK rfl q
def g_ref{K:Ad->Prop}(q:K a):go (fm<|.ref a) K:=eK rfl q
def g_tbl{b:Bool}(q:KB b):go (WA h<|.bl b) KB:=eK rfl q
def SE(q:KB<|gg (i≠0)):go (WA h<|.int i) KB:=eK rfl q
def g_tlst(e:h a=d9 (.lst xs))(q:KB (!xs.isEmpty)):go (WA h<|.ref a) KB:=eK (by unfold WA;simp only[e]) q
def eL(e:atI xs i=d9 v)(q:K v):go (fw h (.tup xs)<|.int i) K:=eK e q
def YA(e1:h a=d9 (.lst xs))(e:atI xs i=d9 v)(q:K v):go (fw h (.ref a)<|.int i) K:=eK (by unfold fw;simp only[e1];exact e) q
def Zy{k:Val}(e1:h a=d9 (.dct kvs))(hk:eY k=eh)(e:fc kvs k=d9 v)(q:K v):go (fw h (.ref a) k) K:=eK (by unfold fw;simp only[e1];rw[fZ hk];exact e) q
variable {ns:List Int}
def L1(e:atI (ns.map Val.int) i=d9 v)(q:K v):go (fw h (.scr ns)<|.int i) K:=eK e q
def c_lt(q:KB<|gg (i<j)):go (eX h .lt (.int i)<|.int j) KB:=eK rfl q
def c_gt(q:KB<|gg (j<i)):go (eX h .gt (.int i)<|.int j) KB:=eK rfl q
def c_le(q:KB<|gg (i<=j)):go (eX h .le (.int i)<|.int j) KB:=eK rfl q
def c_ge(q:KB<|gg (j<=i)):go (eX h .ge (.int i)<|.int j) KB:=eK rfl q
def UC:D.eqv (.int i) (.int j)=gg (i=j):=by rw[D.eqv];by_cases e:i=j<;>simp[e]
variable {s:String}
def Hm{t:String}:D.eqv (.str s) (.str t)=gg (s=t):=by rw[D.eqv];by_cases e:s=t<;>simp[e]
def c_eqI(q:KB<|gg (i=j)):go (eX h .eq (.int i)<|.int j) KB:=eK (by show d9 (D.eqv (.int i)<|.int j)=_;rw[UC]) q
def c_neI(q:KB (!gg (i=j))):go (eX h .ne (.int i)<|.int j) KB:=eK (by show d9 (!D.eqv (.int i) (.int j))=_;rw[UC]) q
def c_eqS{t:String}(q:KB<|gg (s=t)):go (eX h .eq (.str s)<|.str t) KB:=eK (by show d9 (D.eqv (.str s)<|.str t)=_;rw[Hm]) q
def S2{t:String}(q:KB (!gg (s=t))):go (eX h .ne (.str s)<|.str t) KB:=eK (by show d9 (!D.eqv (.str s) (.str t))=_;rw[Hm]) q
variable {c:Bool} {d:Bool}
def S3(q:KB<|c==d):go (eX h .eq (.bl c)<|.bl d) KB:=eK (by show d9 (D.eqv (.bl c)<|.bl d)=_;rw[D.eqv]) q
def c_isN(q:KB<|gg (v=.non)):go (eX h .is v .non) KB:=eK (by unfold eX;rfl) q
def c_notN(q:KB (!gg (v=.non))):go (eX h .isnot v .non) KB:=eK (by unfold eX;rfl) q
def c_eqE(e1:h a=d9 (.lst xs))(e2:h b=d9 (.lst []))(q:KB xs.isEmpty):go (eX h .eqE (.ref a)<|.ref b) KB:=eK (by show(eS<|h a).bind _=_;rw[e1,JT];show(eS<|h b).bind _=_;rw[e2,JT];rfl) q
def c_ntT(q:KB<|c != d):go (eX h .ntT (.bl c)<|.bl d) KB:=eK rfl q
def L4{ms:List Int}(e1:eM xs=d9 ns)(e2:eM ys=d9 ms)(q:KB<|fu ms ns):go (eX h .gt (.tup xs)<|.tup ys) KB:=eK (by show(eM ys).bind _=_;rw[e1,e2];rfl) q
variable {n:Nat} {Ł:Env}
def Id{env:Env}{K:Env->Prop}(e:env.set n (d9 v)=Ł)(q:K Ł):go (bind (.one n) h v env) K:=by subst e;exact eK rfl q
def PD{is:List Nat}{env:Env}{K:Env->Prop}(e:bindL is xs env=d9 Ł)(q:K Ł):go (bind (.many is) h (.tup xs) env) K:=eK e q
def Ii{K:Hs->Prop}(e1:h a=d9 (.lst xs))(e:ixN xs.length i=d9 n)(q:K<|upd h a<|.lst<|xs.set n v):go (fy h (.ref a) (.int i) v) K:=eK (by unfold fy;simp only[e1,fU,û,e,Ő]) q
def Z9{K:Hs->Prop}{k:Val}(e1:h a=d9 (.dct kvs))(m:eY k=eh/\kvs.length<lim)(q:K<|upd h a<|.dct<|ff kvs k v):go (fy h (.ref a) k v) K:=eK (by unfold fy;simp only[e1];rw[fZ m]) q
def JG(e1:h a=d9 (.dct kvs))(hk:eY v=eh)(q:KB<|fe kvs v):go (eX h .isin v<|.ref a) KB:=eK (by show inV h v (.ref a)=_;unfold inV;simp only[e1];rw[fZ hk]) q
def Yo(e1:h a=d9 (.dct kvs))(hk:eY v=eh)(q:KB (!fe kvs v)):go (eX h .notin v<|.ref a) KB:=eK (by show(inV h v<|.ref a).map _=_;unfold inV;simp only[e1];rw[fZ hk];rfl) q
variable {C:String} {f:String}
def Yz{fs:List (String×Val)}{K:Hs->Prop}(e1:h a=d9 (.ins C fs))(m:fs.length<900)(q:K<|upd h a<|.ins C<|eW fs f v):go (fA h (.ref a) f v) K:=eK (by unfold fA;simp only[e1];rw[fZ m]) q
def Iv{fs:List (String×Val)}(e1:h a=d9 (.ins C fs))(e:fs.lookup f=d9 v)(q:K v):go (fz h (.ref a) f) K:=eK (by unfold fz fm;simp only[e1,insOf,û];exact e) q
variable {P:Prop}
def Im{m:String}{fs:List (String×Val)}(e1:h a=d9 (.ins C fs))(e:fs.lookup m=ee)(q:P):clsV h (.ref a) m=d9 C/\P:=⟨by unfold clsV fm;simp only[e1,insOf,û,e,Option.isNone_none,if_true],q⟩
def ag_add(q:K<|.int<|i+j):go (augV .add (.int i)<|.int j) K:=eK rfl q
def ln_lst(e1:h a=d9 (.lst xs))(q:Q (.int xs.length) h):(biV h .len [.ref a]).wp h Q:=wp_val (by show fB h (.ref a)=_;unfold fB;dsimp only;rw[e1]) q
def ln_scr(q:Q (.int ns.length) h):(biV h .len [.scr ns]).wp h Q:=wp_val rfl q
def ln_tup(q:Q (.int xs.length) h):(biV h .len [.tup xs]).wp h Q:=wp_val rfl q
def in_str(m:s.length<=640/\s.toList≠[]/\s.toList.all figB=eh)(q:Q (.int<|decN s.toList) h):(biV h .int [.str s]).wp h Q:=wp_val (fZ m) q
def WD{bs:List Bool}(e1:h a=d9 (.lst xs))(e2:blsOf xs=d9 bs)(q:Q (.bl<|bs.all id) h):(biV h .all [.ref a]).wp h Q:=wp_val (by show Rs.ofO ((eS<|h a).bind _)=_;rw[lsE e1,û,e2];rfl) q
def S1{K:String->Prop}(q:K s):go (Qn<|.str s) K:=eK rfl q
def LC{K:Val×Hs->Prop}(e1:h a=d9 (.lst<|v::xs))(q:K (v,upd h a<|.lst xs)):go (bmV h .popAt (.ref a) [.int 0]) K:=eK (by show(eS<|h a).bind (bmPopAt h [.int 0] a)=_;rw[lsE e1];show bmPopAt h [.int 0] a (v::xs)=_;unfold bmPopAt;dsimp only;rw[fZ<|by decide];rw[show ixN (v::xs).length 0=d9 0 by unfold ixN;rw[fZ (by decide),fZ<|by simp];rfl];rfl) q
variable {m:Bm}
def SN(hm:m=.join)(q:P):bmTy h m (.str s)=eh/\P:=⟨by subst hm;rfl,q⟩
def EC(e1:h a=d9 (.lst xs))(e2:pairsOf h xs=d9 kvs)(q:new h (.dct<|putAll [] kvs) Q):(biV h .dict [.ref a]).wp h Q:=wp_new (by show ON h (.ref a)=_;unfold ON;simp only[e1,e2]) q
def Se(q:Q (.int i) h):(biV h .int [.int i]).wp h Q:=wp_val rfl q
def in_bl(q:Q (.int<|if c then 1 else 0) h):(biV h .int [.bl c]).wp h Q:=wp_val rfl q
def mn2(q:Q (.int<|if j<i then j else i) h):(biV h .min2 [.int i,.int j]).wp h Q:=wp_val rfl q
def mx2(q:Q (.int<|if j > i then j else i) h):(biV h .max2 [.int i,.int j]).wp h Q:=wp_val rfl q
def tp_lst(e1:h a=d9 (.lst xs))(q:Q (.tup xs) h):(biV h .tuple [.ref a]).wp h Q:=wp_val (by show Mw h (.ref a)=_;unfold Mw;dsimp only;rw[e1]) q
def ST(q:Q (.tup xs) h):(biV h .tuple [.tup xs]).wp h Q:=wp_val rfl q
def Qa{Ts:List String}(e:isiAny h v Ts=d9 c)(q:Q (.bl c) h):(biV h (.isi Ts) [v]).wp h Q:=wp_val (by show Rs.ofO ((isiAny h v Ts).map .bl)=_;rw[e];rfl) q
def ls_lst(e1:h a=d9 (.lst xs))(q:new h (.lst xs) Q):(biV h .list [.ref a]).wp h Q:=wp_new (by show toList h (.ref a)=_;unfold toList;dsimp only;rw[e1]) q
def SB(q:new h (.lst xs) Q):(biV h .list [.tup xs]).wp h Q:=wp_new rfl q
variable {lo:Option Int} {hi:Option Int}
def fG(n:¬ (fq xs.length 0 lo=0/\fq xs.length xs.length hi=xs.length))(q:Q (.tup<|cut xs lo hi) h):(fx h (.tup xs) lo hi).wp h Q:=wp_val (by unfold fx;simp only;rw[f8 n]) q
def IT(hm:m.ty=.l\/m.ty=.t)(e:h a=d9 (.lst xs))(q:P):bmTy h m (.ref a)=eh/\P:=⟨by unfold bmTy;rcases hm with hm|hm<;>rw[hm]<;>simp[Jv,e,isLst],q⟩
def IY(hm:m.ty=.d)(e:h a=d9 (.dct kvs))(q:P):bmTy h m (.ref a)=eh/\P:=⟨by unfold bmTy;rw[hm];simp[Jv,e,isDct],q⟩
abbrev P1:Bi->Bool
 |.sorted=>eh
 |.sortedI=>eh
 |_=>ei
def Co{f:Bi}(hf:P1 f=eh)(e:sortAny h v=d9 ns)(m:ns.length<64)(q:new h (.lst<|(sortI ns).map Val.int) Q):(biV h f [v]).wp h Q:=by
 cases f with
 |sorted=>exact wp_new (by show Jw h v=_;unfold Jw;simp only[e];exact fZ m) q
 |sortedI=>exact wp_new (by show biSortedI h v=_;unfold biSortedI;simp only[e];exact fZ m) q
 |_=>cases hf
def L0{f:Bi}(e1:h a=d9 (.lst<|ns.map Val.int))(e2:eM (ns.map Val.int)=d9 ns)(m:ns.length<64)(q:new h (.lst<|(sortI ns).map Val.int) Q)(hf:P1 f=eh:=by rfl):(biV h f [.ref a]).wp h Q:=Co hf (by unfold sortAny;simp only[e1,e2]) m q
def OH{f:Bi}(e1:h a=d9 (.dct kvs))(e2:keysOf kvs=d9 ns)(m:ns.length<64)(q:new h (.lst<|(sortI ns).map Val.int) Q)(hf:P1 f=eh:=by rfl):(biV h f [.ref a]).wp h Q:=Co hf (by unfold sortAny;simp only[e1,e2]) m q
def Lx(e1:h a=d9 (.lst []))(q:Q .non h):(biV h .minD [.ref a]).wp h Q:=wp_val (by show fE h (.ref a)=_;unfold fE;simp only[e1,eS,û,rowsOf]) q
def F1{x:List Int}{r:List (List Int)}(e1:h a=d9 (.lst xs))(e2:rowsOf xs=d9 (x::r))(q:Q (.tup<|(minR x r).map Val.int) h):(biV h .minD [.ref a]).wp h Q:=wp_val (by show fE h (.ref a)=_;unfold fE;simp only[e1,eS,û,e2]) q
def sl_str(n:s.length<=lim)(q:Q (.str<|Η<|cut s.toList lo hi) h):(fx h (.str s) lo hi).wp h Q:=wp_val (by unfold fx;simp only;rw[fZ n]) q
def SC(e1:h a=d9 (.lst xs))(q:new h (.lst<|cut xs lo hi) Q):(fx h (.ref a) lo hi).wp h Q:=wp_new (by unfold fx;simp only[e1,eS]) q
def sl_scr(q:new h (.lst<|cut (ns.map Val.int) lo hi) Q):(fx h (.scr ns) lo hi).wp h Q:=wp_new rfl q
def ZC{K:Val×Hs->Prop}(e1:h a=d9 (.lst xs))(m:xs.length<lim)(q:K (.non,upd h a<|.lst<|xs++[v])):go (bmV h .append (.ref a) [v]) K:=eK (by show(eS<|h a).bind _=_;rw[lsE e1];exact fZ m) q
def CC{K:Val×Hs->Prop}(e1:h a=d9 (.dct kvs))(hk:eY v=eh)(q:K ((fc kvs v).getD .non,h)):go (bmV h .dget (.ref a) [v]) K:=eK (by show(fT<|h a).bind _=_;rw[dcE e1];exact fZ hk) q
def it_lst{K:(Hs->Prop)×List Val->Prop}(e1:h a=d9 (.lst xs))(q:K (λg=>eS (g a)=d9 xs,xs)):go (itV h<|.ref a) K:=eK (by unfold itV;simp only[e1,eS,Ő]) q
def it_scr{K:(Hs->Prop)×List Val->Prop}(q:K (λ_=>True,ns.map Val.int)):go (itV h<|.scr ns) K:=eK rfl q
def it_tup{K:(Hs->Prop)×List Val->Prop}(q:K (λ_=>True,xs)):go (itV h<|.tup xs) K:=eK rfl q
def SM{K:List Val->Prop}(q:K xs):go (CS h<|.tup xs) K:=eK rfl q
def SY{K:List Val->Prop}(e1:h a=d9 (.lst xs))(q:K xs):go (CS h<|.ref a) K:=eK (by unfold CS;simp only[e1,eS]) q
variable {A:Prop} {B:Prop}
def fH(e:c=eh)(q:A):if c=eh then A else B:=by rw[fZ e];exact q
def fI(e:c=ei)(q:B):if c=eh then A else B:=by rw[f8<|by rw[e];decide];exact q
def fK(q:c=eh->A)(r:c=ei->B):if c=eh then A else B:=by cases c;exact r rfl;exact q rfl
variable {p:Prop}
def fJ[Decidable p](q:p->A)(r:¬p->B):if decide p=eh then A else B:=by
 by_cases e:p
 .rw[fZ<|gb e];exact q e
 .rw[f8<|by simpa using e];exact r e
def M0[Decidable p](q:¬p->A)(r:p->B):if(!decide p)=eh then A else B:=by
 by_cases e:p
 .rw[f8<|by simpa using e];exact r e
 .rw[fZ<|by simpa using e];exact q e
end
structure Ext(h g:Hs):Prop where
 get:∀{a:Ad}{o:Ob},h a=d9 o->g a=d9 o
variable {h:Hs}
def Ext.refl:Ext h h:=⟨λe=>e⟩
variable {g:Hs}
def Ext.trans{k:Hs}(e:Ext h g)(f:Ext g k):Ext h k:=⟨λx=>f.get<|e.get x⟩
variable {p:Ad} {o:Ob}
def Ext.new(e:h p=ee):Ext h<|upd h p o:=⟨λ{a u} x=>by
  rw[ej<|by intro z;rw[z,e]at x;cases x];exact x⟩
structure ExtB(w:Ad)(h g:Hs):Prop where
 get:∀{a:Ad}{o:Ob},a≠w->h a=d9 o->g a=d9 o
variable {w:Ad}
def ExtB.trans{k:Hs}(e:ExtB w h g)(f:ExtB w g k):ExtB w h k:=⟨λn x=>f.get n<|e.get n x⟩
def ExtB.upd:ExtB w h<|upd h w o:=⟨λn x=>by rw[ej n];exact x⟩
def ExtB.of(e:Ext h g):ExtB w h g:=⟨λ_ x=>e.get x⟩
variable {a:Ad}
def Za(x:h a=d9 o)(n:h p=ee):a≠p:=by intro z;rw[z,n]at x;cases x
def ne_none'(n:h p=ee)(x:h a=d9 o):a≠p:=Za x n
def upd_ne'{b:Ad}{r:Option Ob}(n:b≠a)(e:h b=r):upd h a o b=r:=by rw[ej n];exact e
inductive Sm1 {α:Type}(p:α->Prop):Prop|mk (a:α) (h:p a)
inductive Sm2 {α β:Type}(p:α->β->Prop):Prop|mk (a:α) (b:β) (h:p a b)
inductive Sm3 {α β γ:Type}(p:α->β->γ->Prop):Prop|mk (a:α) (b:β) (c:γ) (h:p a b c)
inductive Sm4 {α β γ δ:Type}(p:α->β->γ->δ->Prop):Prop|mk (a:α) (b:β) (c:γ) (d:δ) (h:p a b c d)
inductive Sm5 {α β γ δ ε:Type}(p:α->β->γ->δ->ε->Prop):Prop|mk (a:α) (b:β) (c:γ) (d:δ) (e:ε) (h:p a b c d e)
inductive Cj3 (a b c:Prop):Prop|mk (h1:a) (h2:b) (h3:c)
inductive Cj4 (a b c d:Prop):Prop|mk (h1:a) (h2:b) (h3:c) (h4:d)
inductive Cj7 (a b c d e f g:Prop):Prop|mk (h1:a) (h2:b) (h3:c) (h4:d) (h5:e) (h6:f) (h7:g)
inductive Cj9 (a b c d e f g h i:Prop):Prop|mk (h1:a) (h2:b) (h3:c) (h4:d) (h5:e) (h6:f) (h7:g) (h8:h) (h9:i)
variable {st:Hs->Prop} {N:NQ} {xs:List Val}
def Zk{W:Val->Env->Hs->NQ->NQ->Prop}(I:Nat->Env->Hs->Prop){env:Env}(h0:I 0 env h)(ŷ:∀i e g,i<=xs.length->I i e g->st g)
  (step:∀i v e g,xs[i]?=d9 v->I i e g->∀K:NQ,(∀e' g',I (i+1) e' g'->K e' g')->W v e g K N) (fin:∀e g,I xs.length e g->N e g):wFor st W N xs env h:=by
 have key:∀(ys:List Val) (i:Nat) e g,xs.drop i=ys->i<=xs.length->I i e g->wFor st W N ys e g:=by
  intro ys;induction ys with
  |nil =>
   intro i e g hd hi hI;have:i=xs.length:=by have:=congrArg List.length hd;simp at this;lia
   subst this;exact⟨ŷ _ e g (Ì _) hI,fin e g hI⟩
  |cons v vs ih =>
   intro i e g hd hi hI;have ϒ:i<xs.length:=by have:=congrArg List.length hd;simp at this;lia
   have hv:xs[i]?=d9 v:=by have:=congrArg (λl=>l[0]?) hd;simpa using this
   refine⟨ŷ i e g hi hI,step i v e g hv hI _ λe' g' hI'=>ih (i+1) e' g' ?_ (by lia) hI'⟩;have:=congrArg List.tail hd;simpa using this
 exact key xs 0 env h (by simp) (by lia) h0
def Ba{T:Env->Hs->(Bool->Hs->Prop)->Prop}{W:Env->Hs->NQ->NQ->Prop}(I:Nat->Env->Hs->Prop){env:Env}{m:Nat}(h0:I m env h)
  (step:∀m e g,I m e g->∀K:NQ,(∀m' e' g',m'<m->I m' e' g'->K e' g')->T e g λk h1=>if k=eh then W e h1 K N else N e h1):∃n,wWhile T W N n env h:=by
 refine⟨m+1,?_⟩;have key:∀(n m:Nat) e g,m<n->I m e g->wWhile T W N n e g:=by
  intro n;induction n with
  |zero=>intro m e g hm;lia
  |succ n ih=>intro m e g hm hI;exact step m e g hI _ λm' e' g' hm' hI'=>ih m' e' g' (by lia) hI'
 exact key (m+1) m env h (by lia) h0
variable {Q:List Val->Hs->Prop} {X:XQ}
def Ys{step:Val->Hs->(Option Val->Hs->Prop)->XQ->Prop}(I:Nat->List Val->Hs->Prop)(h0:I 0 [] h)(ŷ:∀i ys g,i<=xs.length->I i ys g->st g)
  (go:∀i v ys g,xs[i]?=d9 v->I i ys g->∀K,(∀r g',I (i+1) (ys++r.toList) g'->K r g')->step v g K X) (fin:∀ys g,I xs.length ys g->Q ys g):wComp st step xs [] h Q X:=by
 have key:∀(zs:List Val) (i:Nat) ys g,xs.drop i=zs->i<=xs.length->I i ys g->wComp st step zs ys g Q X:=by
  intro zs;induction zs with
  |nil =>
   intro i ys g hd hi hI;have:i=xs.length:=by have:=congrArg List.length hd;simp at this;lia
   subst this;exact⟨ŷ _ ys g (Ì _) hI,fin ys g hI⟩
  |cons v vs ih =>
   intro i ys g hd hi hI;have ϒ:i<xs.length:=by have:=congrArg List.length hd;simp at this;lia
   have hv:xs[i]?=d9 v:=by have:=congrArg (λl=>l[0]?) hd;simpa using this
   refine⟨ŷ i ys g hi hI,go i v ys g hv hI _ λr g' hI'=>ih (i+1) _ g' ?_ (by lia) hI'⟩;have:=congrArg List.tail hd;simpa using this
 exact key xs 0 [] h (by simp) (by lia) h0
def Zz{step:Val->Hs->(Option Val->Hs->Prop)->XQ->Prop}(f:Val->Option Val)(ŷ:st h)
  (go:∀v∈xs,∀K,K (f v) h->step v h K X) (fin:Q (xs.filterMap f) h):wComp st step xs [] h Q X:=by
 have key:∀(zs ys:List Val),(∀v∈zs,v∈xs)->Q (ys++zs.filterMap f) h->wComp st step zs ys h Q X:=by
  intro zs;induction zs with
  |nil=>intro ys _ q;exact⟨ŷ,by simpa using q⟩
  |cons v vs ih =>
   intro ys hm q;refine⟨ŷ,go v (hm v<|by simp) _<|ih _ (λw hw=>hm w<|by simp[hw]) ?_⟩;cases e:f v with
   |none=>simpa[ē,e]using q
   |some u=>simpa[ē,e]using q
 exact key xs [] (λ_ h=>h) (by simpa using fin)
section
variable {Φ:Fs}{env:Env}{h:Hs}{Q:Q1}{X:XQ}{a b c e o:E}{as:Es}{v u:Val}
def q_e_bi{f:Bi}:(wE Φ (.bi f as) env h Q X)=(wA Φ as env h (λvs h1=>(biV h1 f vs).wp h1 Q) X):=rfl
variable {es:Es}
def q_e_dct:(wE Φ (.dct es) env h Q X)=(new h (.dct []) λr h1=>go (fm r) λp=>wA Φ es env h1 (λvs h2=>go (pairUp vs) λkvs=>h2 p=d9 (.dct [])/\Q (.ref p) (upd h2 p<|.dct<|putAll [] kvs)) X):=by show N2 _ _ _ _=_;unfold N2;rfl
variable {QA:List Val->Hs->Prop}{QO:Option Int->Hs->Prop}{QT:Bool->Hs->Prop}{QI:(Hs->Prop)->List Val->Hs->Prop}
def q_a_nil:(wA Φ .nil env h QA X)=(QA [] h):=rfl
def q_a_cons:(wA Φ (.cons e es) env h QA X)=(wE Φ e env h (λv h1=>wA Φ es env h1 (λvs h2=>QA (v::vs) h2) X) X):=rfl
end
mutual
theorem D.eqv_refl:∀d:D,D.eqv d d=eh
 |.non=>by simp[D.eqv]
 |.bl _=>by simp[D.eqv]
 |.int _=>by simp[D.eqv]
 |.str _=>by simp[D.eqv]
 |.tup ds=>by simp only[D.eqv];exact D.eqvs_refl ds
 |.lst ds=>by simp only[D.eqv];exact D.eqvs_refl ds
theorem D.eqvs_refl:∀ds:List D,D.eqvs ds ds=eh
 |[]=>by simp[D.eqvs]
 |d::ds=>by simp only[D.eqvs,D.eqv_refl d,D.eqvs_refl ds,Bool.and_self]
end
def UR{α:Type}{o:Option α}{k k':α->Prop}(h:go o k)(f:∀a,k a->k' a):go o k':=by
 cases o with
 |none=>rw[Fu]at h;exact h.elim
 |some a=>rw[eF]at h ⊢;exact f a h
section
variable {Φ:Fs}{env:Env}{h:Hs}{Q:Q1}{X:XQ}{a:Ad}{v:Val}{kvs:List (Val×Val)}
def Iu(q:∀p,h p=ee->Q (.ref p) (upd h p<|.dct [])):wE Φ (.dct .nil) env h Q X:=by refine QR<|Xv λp hp=>g_ref<|CN<|eK rfl ⟨ez,?_⟩;rw[eC];exact q p hp
def dw0(q:∀p,h p=ee->Q (.ref p) (upd h p<|.dct [])):N2 (xA Φ .nil env) h Q X:=Iu q
def dw{F:Hs->(List Val->Hs->Prop)->XQ->Prop}(q:new h (.dct []) λr h1=>go (fm r) λp=>F h1 (λvs h2=>go (pairUp vs) λkvs=>h2 p=d9 (.dct [])/\Q (.ref p) (upd h2 p<|.dct<|putAll [] kvs)) X):N2 F h Q X:=by unfold N2;exact q
def Qi{i:Nat}{K:Val->Prop}(g:getV env i=d9 v)(q:K v):go (getV env i) K:=eK g q
def dc_of{K:List (Val×Val)->Prop}(e1:h a=d9 (.dct kvs))(q:K kvs):go (fT<|h a) K:=eK (dcE e1) q
variable {u:Val}
def Ek{K:Val×Hs->Prop}(e1:h a=d9 (.dct kvs))(hk:eY v=eh)(e2:fc kvs v=d9 u)(q:K (u,upd h a<|.dct<|fg kvs v)):go (bmV h .dpop (.ref a) [v]) K:=eK (by show(fT<|h a).bind _=_;rw[dcE e1];show(if eY v then _ else _)=_;rw[fZ hk,e2];rfl) q
def Pb{K:Val×Hs->Prop}{w:Val}(e1:h a=d9 (.dct kvs))(hk:eY v=eh/\kvs.length<lim)(e2:fc kvs v=d9 w)(q:K (w,h)):go (bmV h .setdefault (.ref a) [v,u]) K:=eK (by show(fT<|h a).bind _=_;rw[dcE e1];show(if eY v=eh/\kvs.length<lim then _ else _)=_;rw[fZ hk,e2]) q
def Pf{K:Val×Hs->Prop}(e1:h a=d9 (.dct kvs))(hk:eY v=eh/\kvs.length<lim)(e2:fc kvs v=ee)(q:K (u,upd h a<|.dct<|ff kvs v u)):go (bmV h .setdefault (.ref a) [v,u]) K:=eK (by show(fT<|h a).bind _=_;rw[dcE e1];show(if eY v=eh/\kvs.length<lim then _ else _)=_;rw[fZ hk,e2]) q
def LK(e1:h a=d9 (.dct kvs))(q:new h (.lst (kvs.map (·.1))) Q):(biV h .listD [.ref a]).wp h Q:=wp_new (by show Nj h (.ref a)=_;unfold Nj;simp only[e1,fT]) q
def UV{K:Val×Hs->Prop}(e1:h a=d9 (.dct kvs))(hk:eY v=eh)(q:K ((fc kvs v).getD u,upd h a<|.dct<|fg kvs v)):go (bmV h .dpopD (.ref a) [v,u]) K:=eK (by show(fT<|h a).bind _=_;rw[dcE e1];exact fZ hk) q
end
end O
namespace Snd
open PySem L2
abbrev KT(K:Frag)(a:Í)(xs:List V):Prop :=
 ∃(o:Obj) (ô:Array Ã) (n:Nat),K.lookup a=d9 o/\o.cls=.type "tuple"/\o.data=.seq ô n/\ô.size<=Ý/\fR xs ô.toList
abbrev KL(K:Frag)(a:Í)(xs:List V):Prop :=
 ∃(o:Obj) (ô:Array Ã) (n:Nat),K.lookup a=d9 o/\o.cls=.type "list"/\o.dict=ee/\o.data=.seq ô n/\ô.size<=Ý/\fR xs ô.toList
mutual
inductive RV (K:Frag) (H:Hp):O.Val->V->Prop
 |non:RV K H .non .non
 |bl (b:Bool):RV K H (.bl b)<|.bl b
 |int (i:Int):RV K H (.int i)<|.int i
 |str (s:String):RV K H (.str s)<|.str<|gh s
 |tup {xs:List O.Val}{a:Í}{vs:List V}:(H a=d9 (.tup vs)\/KT K a vs)->RVs K H xs vs->RV K H (.tup xs) (.ref a)
 |ref (a:Í):RV K H (.ref a)<|.ref a
 |scr {ns:List Int}{a:Í}:((∃o,H a=d9 (.frz o<|.lst<|ns.map V.int))\/KL K a (ns.map V.int))->RV K H (.scr ns) (.ref a)
 |key {i j:Int}{a:Í}:H a=d9 (.tup [.int i,.int j])->RV K H (.key i j) (.ref a)
inductive RVs (K:Frag) (H:Hp):List O.Val->List V->Prop
 |nil:RVs K H [] []
 |cons {v:O.Val}{x:V}{vs:List O.Val}{xs:List V}:RV K H v x->RVs K H vs xs->RVs K H (v::vs) (x::xs)
end
structure fb(H H':Hp):Prop where
 t:∀a xs,H a=d9 (.tup xs)->H' a=d9 (.tup xs)
 f:∀a o u,H a=d9 (.frz o u)->H' a=d9 (.frz o u)
def fb.refl(H:Hp):fb H H:=⟨λ_ _ e=>e,λ_ _ _ e=>e⟩
variable {H:Hp}
def fb.trans{H1 H2:Hp}(a:fb H H1)(b:fb H1 H2):fb H H2:=⟨λc xs e=>b.t c xs<|a.t c xs e,λc o u e=>b.f c o u<|a.f c o u e⟩
variable {a:Í} {o:HO}
def fb.put(h:∀xs,H a≠d9 (.tup xs))(h2:∀p u,H a≠d9 (.frz p u)):fb H<|upd H a o:=⟨λb xs e=>by
  rw[ej<|by rintro rfl;exact h xs e];exact e,λb p u e=>by rw[ej<|by rintro rfl;exact h2 p u e];exact e⟩
def fb.new(h:H a=ee):fb H<|upd H a o:=fb.put (λxs e=>by rw[h]at e;cases e) λp u e=>by rw[h]at e;cases e
variable {K:Frag}{H H':Hp}
mutual
theorem RV.keep(k:fb H H'):∀{v:O.Val}{x:V},RV K H v x->RV K H' v x
 |_,_,.non=>.non
 |_,_,.bl b=>.bl b
 |_,_,.int i=>.int i
 |_,_,.str s=>.str s
 |_,_,.tup (.inl e) r=>.tup (.inl<|k.t _ _ e)<|RVs.keep k r
 |_,_,.tup (.inr e) r=>.tup (.inr e)<|RVs.keep k r
 |_,_,.ref a=>.ref a
 |_,_,.scr (.inl ⟨o,e⟩)=>.scr<|.inl ⟨o,k.f _ _ _ e⟩
 |_,_,.scr (.inr e)=>.scr<|.inr e
 |_,_,.key e=>.key<|k.t _ _ e
theorem RVs.keep(k:fb H H'):∀{vs:List O.Val}{xs:List V},RVs K H vs xs->RVs K H' vs xs
 |_,_,.nil=>.nil
 |_,_,.cons r t=>.cons (RV.keep k r)<|RVs.keep k t
end
def RVs.length:∀{vs:List O.Val}{xs:List V},RVs K H vs xs->vs.length=xs.length
 |_,_,.nil=>rfl
 |_,_,.cons _ t=>by rw[Ë,Ë,RVs.length t]
def RVs.get:∀{vs:List O.Val}{xs:List V}{i:Nat}{v:O.Val},RVs K H vs xs->vs[i]?=d9 v->∃x,xs[i]?=d9 x/\RV K H v x
 |_,_,_,_,.nil,e=>by simp at e
 |_,_,0,_,.cons r _,e=>by simp at e;subst e;exact⟨_,rfl,r⟩
 |_,_,i+1,v,.cons _ t,e=>by obtain⟨x,h1,h2⟩:=RVs.get (i:=i) (v:=v) t (by simpa using e);exact⟨x,by simpa using h1,h2⟩
def RVs.append:∀{vs us:List O.Val}{xs ys:List V},RVs K H vs xs->RVs K H us ys->RVs K H (vs++us) (xs++ys)
 |_,_,_,_,.nil,h=>h
 |_,_,_,_,.cons r t,h=>.cons r<|RVs.append t h
def RVs.set{v:O.Val}{x:V}(r:RV K H v x):∀{vs:List O.Val}{xs:List V}(i:Nat),RVs K H vs xs->RVs K H (vs.set i v) (xs.set i x)
 |_,_,_,.nil=>.nil
 |_,_,0,.cons _ t=>.cons r t
 |_,_,i+1,.cons q t=>.cons q<|RVs.set r i t
def RVs.take:∀{vs:List O.Val}{xs:List V}(n:Nat),RVs K H vs xs->RVs K H (vs.take n) (xs.take n)
 |_,_,0,_=>.nil
 |_,_,_+1,.nil=>.nil
 |_,_,n+1,.cons r t=>.cons r<|RVs.take n t
def RVs.drop:∀{vs:List O.Val}{xs:List V}(n:Nat),RVs K H vs xs->RVs K H (vs.drop n) (xs.drop n)
 |_,_,0,r=>r
 |_,_,_+1,.nil=>.nil
 |_,_,n+1,.cons _ t=>RVs.drop n t
def RVs.eraseIdx:∀{vs:List O.Val}{xs:List V}(i:Nat),RVs K H vs xs->RVs K H (vs.eraseIdx i) (xs.eraseIdx i)
 |_,_,_,.nil=>.nil
 |_,_,0,.cons _ t=>t
 |_,_,i+1,.cons q t=>.cons q<|RVs.eraseIdx i t
def Zm{vs:List V}(h:H a=d9 (.tup vs)\/KT K a vs):fQ K H a vs:=by
 rcases h with h|h
 .exact fQ.of h
 .exact .inr h
structure Inf where
 K:Frag
 cl:String->Í->Prop
 ins:String->Bool
 xc:String->Í->Prop
abbrev WT:O.Val->Key->Prop
 |.int i,.inl j=>i=j
 |.str s,.inr t=>t=gh s
 |_,_=>False
inductive RKs (K:Frag) (H:Hp):List (O.Val×O.Val)->List (Key×V)->Prop
 |nil:RKs K H [] []
 |cons {k v:O.Val}{c:Key}{x:V}{kvs:List (O.Val×O.Val)}{ps:List (Key×V)}:WT k c->RV K H v x->RKs K H kvs ps->RKs K H ((k,v)::kvs) ((c,x)::ps)
inductive RFs (K:Frag) (H:Hp):List (String×O.Val)->List (Str×V)->Prop
 |nil:RFs K H [] []
 |cons {f:String}{v:O.Val}{x:V}{fs:List (String×O.Val)}{ps:List (Str×V)}:RV K H v x->RFs K H fs ps->RFs K H ((f,v)::fs) ((gh f,x)::ps)
def RKs.keep(k:fb H H'):∀{kvs:List (O.Val×O.Val)}{ps:List (Key×V)},RKs K H kvs ps->RKs K H' kvs ps
 |_,_,.nil=>.nil
 |_,_,.cons a r t=>.cons a (r.keep k)<|RKs.keep k t
inductive RTs (K:Frag) (H:Hp):List (O.Val×O.Val)->List (List Key×V)->Prop
 |nil:RTs K H [] []
 |cons {i j:Int}{v:O.Val}{x:V}{kvs:List (O.Val×O.Val)}{ps:List (List Key×V)}:RV K H v x->RTs K H kvs ps->RTs K H ((.key i j,v)::kvs) (([.inl i,.inl j],x)::ps)
def RTs.keep(k:fb H H'):∀{kvs:List (O.Val×O.Val)}{ps:List (List Key×V)},RTs K H kvs ps->RTs K H' kvs ps
 |_,_,.nil=>.nil
 |_,_,.cons r t=>.cons (r.keep k)<|RTs.keep k t
def RFs.keep(k:fb H H'):∀{fs:List (String×O.Val)}{ps:List (Str×V)},RFs K H fs ps->RFs K H' fs ps
 |_,_,.nil=>.nil
 |_,_,.cons r t=>.cons (r.keep k)<|RFs.keep k t
abbrev RO(i:Inf)(H:Hp)(a:Í):O.Ob->Prop
 |.lst xs=>∃vs,H a=d9 (.lst vs)/\RVs i.K H xs vs
 |.dct kvs=>∃ps,H a=d9 (.dK ps)/\RKs i.K H kvs ps
 |.ins C fs=>∃c dx ps,i.ins C=eh/\i.cl C c/\H a=d9 (.ins c dx ps)/\RFs i.K H fs ps
 |.exc C=>∃c,i.xc C c/\H a=d9 (xcO a<|.ref c)
 |.frz kvs=>∃o ps,H a=d9 (.frz o<|.dK ps)/\RKs i.K H kvs ps
 |.dtp kvs=>∃ps,H a=d9 (.dT ps)/\RTs i.K H kvs ps
variable {i:Inf}
def RO.there{o:O.Ob}(r:RO i H a o):∃u,H a=d9 u:=by
 cases o with
 |lst xs=>obtain⟨_,e,_⟩:=r;exact⟨_,e⟩
 |dct kvs=>obtain⟨_,e,_⟩:=r;exact⟨_,e⟩
 |ins C fs=>obtain⟨_,_,_,_,_,e,_⟩:=r;exact⟨_,e⟩
 |exc C=>obtain⟨_,_,e⟩:=r;exact⟨_,e⟩
 |frz kvs=>obtain⟨_,_,e,_⟩:=r;exact⟨_,e⟩
 |dtp kvs=>obtain⟨_,e,_⟩:=r;exact⟨_,e⟩
def RO.move{o:O.Ob}(r:RO i H a o)(k:fb H H')(e:H' a=H a):RO i H' a o:=by
 cases o with
 |lst xs=>obtain⟨vs,q,r⟩:=r;exact⟨vs,e.trans q,r.keep k⟩
 |dct kvs=>obtain⟨ps,q,r⟩:=r;exact⟨ps,e.trans q,r.keep k⟩
 |ins C fs=>obtain⟨c,dx,ps,h0,h,q,r⟩:=r;exact⟨c,dx,ps,h0,h,e.trans q,r.keep k⟩
 |exc C=>obtain⟨c,h,q⟩:=r;exact⟨c,h,e.trans q⟩
 |frz kvs=>obtain⟨o,ps,q,r⟩:=r;exact⟨o,ps,e.trans q,r.keep k⟩
 |dtp kvs=>obtain⟨ps,q,r⟩:=r;exact⟨ps,e.trans q,r.keep k⟩
abbrev RH(i:Inf)(G:O.Hs)(H:Hp):Prop:=∀a o,G a=d9 o->RO i H a o
variable {G:O.Hs}
def RH.free(r:RH i G H)(e:H a=ee):G a=ee:=by
 cases q:G a with
 |none=>rfl
 |some o=>obtain⟨u,z⟩:=(r a o q).there;rw[e]at z;cases z
def RH.put{o:O.Ob}{u:HO}(r:RH i G H)(k:fb H<|upd H a u)(n:RO i (upd H a u) a o):RH i (O.upd G a o)<|upd H a u:=λb p e=>by
 by_cases hb:b=a
 .subst hb;rw[O.ez]at e;cases e;exact n
 .rw[O.ej hb]at e;exact(r b p e).move k<|ej hb
def RH.hid(r:RH i G H)(k:fb H H')(e:∀a o,G a=d9 o->H' a=H a):RH i G H':=λb p q=>(r b p q).move k (e b p q)
structure REn(K:Frag)(H:Hp)(env:O.Env)(σ:St):Prop where
 len:env.length=σ.length
 get:∀(i:Nat) (v:O.Val),env[i]?=d9 (d9 v)->∃x,σ[i]?=d9 (d9 x)/\RV K H v x
variable {σ:St}
def REn.keep{env:O.Env}(r:REn K H env σ)(k:fb H H'):REn K H' env σ:=⟨r.len,λi v e=>by
  obtain⟨x,h1,h2⟩:=r.get i v e
  exact⟨x,h1,h2.keep k⟩⟩
def REn.set{env:O.Env}{v:O.Val}{x:V}(r:REn K H env σ)(q:RV K H v x)(j:Nat):REn K H (env.set j<|d9 v)<|σ.set j<|d9 x:=⟨by simp[r.len],λi u e=>by
  by_cases hij:j=i
  . subst hij
    rw[List.getElem?_set_self']at e
    cases z:env[j]? with
    |none=>rw[z]at e;cases e
    |some w =>
      rw[z]at e
      cases e
      have hj:j<σ.length:=by rw[<-r.len];exact(Î.mp z).1
      exact⟨x,ϊ hj,q⟩
  . rw[ſ hij]at e
    obtain⟨y,h1,h2⟩:=r.get i u e
    exact⟨y,by rw[ſ hij];exact h1,h2⟩⟩
def REn.start{vs:List O.Val}{xs:List V}{n:Nat}(r:RVs K H vs xs):REn K H (vs.map d9++Û n ee)<|xs.map d9++Û n ee:=⟨by simp[r.length],λi v e=>by
  by_cases hi:i<vs.length
  . rw[ć (by simpa using hi),Ö]at e
    cases z:vs[i]? with
    |none=>rw[z]at e;cases e
    |some w =>
      rw[z]at e
      cases e
      obtain⟨x,h1,h2⟩:=r.get z
      exact⟨x,by rw[ć (by rw[Á,<-r.length];exact hi),Ö,h1];rfl,h2⟩
  . rw[Ď (by simpa using hi),Ō]at e
    split at e<;>cases e⟩
def RVs.ints{K:Frag}{H:Hp}:∀ns:List Int,RVs K H (ns.map O.Val.int) (ns.map V.int)
 |[]=>.nil
 |n::ns=>.cons (.int n)<|RVs.ints ns
def Yr{ns:List Int}(h:(∃o,H a=d9 (.frz o<|.lst<|ns.map V.int))\/KL K a (ns.map V.int)):fP K H a<|ns.map V.int:=by
 rcases h with⟨o,h⟩|h
 .exact .inl<|.inr ⟨o,h⟩
 .exact .inr h
variable {i:Inf}{X:Cx}{Φ:O.Fs}
abbrev XK1(i:Inf)(H:Hp)(Em:O.XQ):XK:=λcls _ H'=>∃c G' ad,cls=.ref ad/\i.xc c ad/\fb H H'/\RH i G' H'/\Em c G'
abbrev XOk(X:Cx)(i:Inf)(H:Hp)(Em:O.XQ):Prop:=XW X<|XK1 i H Em
variable {H:Hp} {H1:Hp} {Em:O.XQ}
def XK1.go{H':Hp}{cls:Ã}{d:Option Í}(k:fb H H1)(h:XK1 i H1 Em cls d H'):XK1 i H Em cls d H':=by obtain⟨c,G',ad,e,q,k',r,m⟩:=h;exact⟨c,G',ad,e,q,k.trans k',r,m⟩
def XOk.go(x:XOk X i H Em)(k:fb H H1):XOk X i H1 Em:=λÂ σ H0 s H' a cls s' I f e=>x Â σ H0 s H' a cls s' I f (e.go k)
structure Pre(X:Cx)(i:Inf)(σ:St)(H:Hp)(env:O.Env)(G:O.Hs)(Em:O.XQ):Prop where
 en:REn i.K H env σ
 hp:RH i G H
 xo:XOk X i H Em
variable {σ:St} {G:O.Hs}
def Pre.go{env:O.Env}{G1:O.Hs}(p:Pre X i σ H env G Em)(k:fb H H1)(r:RH i G1 H1):Pre X i σ H1 env G1 Em:=⟨p.en.keep k,r,p.xo.go k⟩
abbrev Cn(i:Inf)(H:Hp)(Q:VK)(Qm:O.Q1):Prop:=∀v G' H' x,fb H H'->RH i G' H'->RV i.K H' v x->Qm v G'->Q x H'
variable {Q:VK} {Qm:O.Q1}
def Cn.go(c:Cn i H Q Qm)(k:fb H H1):Cn i H1 Q Qm:=λv G' H' x k'=>c v G' H' x (k.trans k')
inductive tEx (X:Cx) (i:Inf) (Φ:O.Fs) (m:O.E) (σ:St) (H:Hp) (Q:VK):Prop
 |mk (env:O.Env) (G:O.Hs) (Qm:O.Q1) (Em:O.XQ) (p:Pre X i σ H env G Em) (w:O.wE Φ m env G Qm Em) (c:Cn i H Q Qm)
abbrev tE(X:Cx)(i:Inf)(Φ:O.Fs)(m:O.E):TE:=tEx X i Φ m
inductive tArx (X:Cx) (i:Inf) (Φ:O.Fs) (ms:O.Es) (n:Nat) (σ:St) (H:Hp) (Q:List V->Hp->Prop):Prop
 |mk (env:O.Env) (G:O.Hs) (Qm:List O.Val->O.Hs->Prop) (Em:O.XQ) (p:Pre X i σ H env G Em) (w:O.wA Φ ms env G Qm Em) (c:∀vs G' H' xs,fb H H'->RH i G' H'->RVs i.K H' vs xs->xs.length=n->Qm vs G'->Q xs H')
abbrev tAr(X:Cx)(i:Inf)(Φ:O.Fs)(ms:O.Es)(n:Nat):TA:=tArx X i Φ ms n
inductive tTtx (X:Cx) (i:Inf) (Φ:O.Fs) (m:O.Tt) (σ:St) (H:Hp) (Q:Bool->Hp->Prop):Prop
 |mk (env:O.Env) (G:O.Hs) (Qm:Bool->O.Hs->Prop) (Em:O.XQ) (p:Pre X i σ H env G Em) (w:O.wT Φ m env G Qm Em) (c:∀b G' H',fb H H'->RH i G' H'->Qm b G'->Q b H')
abbrev tTt(X:Cx)(i:Inf)(Φ:O.Fs)(m:O.Tt):TT:=tTtx X i Φ m
variable {e:Expr}
def _root_.L2.PE.imp{t t':TE}(h:PE X e t)(f:∀σ H Q,t' σ H Q->t σ H Q):PE X e t':=λÂ s σ H Q I q=>h Â s σ H Q I (f σ H Q q)
variable {t':TT}
def _root_.L2.PT.imp{t:TT}(h:PT X e t)(f:∀σ H Q,t' σ H Q->t σ H Q):PT X e t':=λÂ s σ H Q I q=>h Â s σ H Q I (f σ H Q q)
def _root_.L2.PW.imp{t:TT}(h:PW X e t)(f:∀σ H Q,t' σ H Q->t σ H Q):PW X e t':=λwh Â s σ H Q I q=>h wh Â s σ H Q I (f σ H Q q)
variable {es:List Expr}
def _root_.L2.PA.imp{t t':TA}(h:PA X es t)(f:∀σ H Q,t' σ H Q->t σ H Q):PA X es t':=λë Â s σ H Q I q=>h ë Â s σ H Q I (f σ H Q q)
variable {j:Nat}
def Rh{env:O.Env}{h:O.Hs}{Q:O.Q1}{E:O.XQ}:(O.wE Φ (.var j) env h Q E)=(O.go (O.getV env j) λv=>Q v h):=rfl
def eF{α:Type}{o:Option α}{k:α->Prop}(h:O.go o k):∃a,o=d9 a/\k a:=by
 cases o with
 |none=>simp at h
 |some a=>exact⟨a,rfl,by simpa using h⟩
def AT{env:O.Env}{v:O.Val}(h:O.getV env j=d9 v):env[j]?=d9 (d9 v):=by
 unfold O.getV at h;split at h
 .rename_i u e;cases h;exact e
 .cases h
variable {ë:Pos}
def Qk{x:Str}(hN:X.N[j]?=d9 x)(hv:Vis X.env.scope x)(hd:(x==("__debug__" : Str))=ei)(aU:(x==("__classdict__" : Str))=ei):PE X (.Name x ë) (tE X i Φ<|.var j) :=
 (LH hN hv hd aU).imp λσ H Q ⟨env,G,Qm,Em,p,w,c⟩=>by rw[Rh]at w;obtain⟨v,e,q⟩:=eF w;obtain⟨y,h1,h2⟩:=p.en.get j v<|AT e;exact⟨y,h1,c v G H y (fb.refl H) p.hp h2 q⟩
variable {x:V}
def W4{v:O.Val}(h:PE X e<|tC x)(r:∀H,RV i.K H v x):PE X e (tE X i Φ<|.cst v) :=
 h.imp λσ H Q ⟨env,G,Qm,Em,p,w,c⟩=>by exact c v G H x (fb.refl H) p.hp (r H) w
def Ih{y:String}{v:O.Val}(h:PE X e<|tC x)(r:∀H,RV i.K H v x):PE X e (tE X i Φ<|.glob y v) :=
 h.imp λσ H Q ⟨env,G,Qm,Em,p,w,c⟩=>by exact c v G H x (fb.refl H) p.hp (r H) w
variable {a:O.E}
def two{b:O.E}{env:O.Env}{F:O.Val->O.Val->O.Hs->Prop}{R:V->V->Hp->Prop}(p:Pre X i σ H env G Em)
  (w:O.wE Φ a env G (λv G1=>O.wE Φ b env G1 (λu G2=>F v u G2) Em) Em)
  (h:∀v u G2 H2 x y,fb H H2->Pre X i σ H2 env G2 Em->RV i.K H2 v x->RV i.K H2 u y->F v u G2->R x y H2):tE X i Φ a σ H λx H1=>tE X i Φ b σ H1 λy H2=>R x y H2 :=
 ⟨env,G,_,Em,p,w,λv G1 H1 x k1 g1 r1 w1=>⟨env,G1,_,Em,p.go k1 g1,w1,λu G2 H2 y k2 g2 r2 w2=>h v u G2 H2 x y (k1.trans k2) ((p.go k1 g1).go k2 g2) (r1.keep k2) r2 w2⟩⟩
def one{env:O.Env}{F:O.Val->O.Hs->Prop}{R:V->Hp->Prop}(p:Pre X i σ H env G Em)
  (w:O.wE Φ a env G (λv G1=>F v G1) Em) (h:∀v G1 H1 x,fb H H1->Pre X i σ H1 env G1 Em->RV i.K H1 v x->F v G1->R x H1):tE X i Φ a σ H λx H1=>R x H1 :=
 ⟨env,G,_,Em,p,w,λv G1 H1 x k1 g1 r1 w1=>h v G1 H1 x k1 (p.go k1 g1) r1 w1⟩
abbrev Ju(i:Inf)(op:O.Bop)(r:R2):Prop:=∀(v u:O.Val) (G:O.Hs) (H:Hp) (x y:V) (Q:VK) (Qm:O.Q1),RH i G H->RV i.K H v x->RV i.K H u y->(O.binV G op v u).wp G Qm->Cn i H Q Qm->r x y H Q
variable {b:Expr} {ma:O.E} {mb:O.E} {r:R2}
def KO{a:Expr}{op:ϓ}{bop:O.Bop}(ho:OpR X (Ň op) r)(hr:Ju i bop r)(ha:PE X a<|tE X i Φ ma)(hb:PE X b<|tE X i Φ mb):PE X (.BinOp a op b ë) (tE X i Φ<|.bin bop ma mb) :=
 (QU ho ha hb).imp λσ H Q ⟨env,G,Qm,Em,p,w,c⟩=>by exact two p w λv u G2 H2 x y k2 p2 rx ry q=>hr v u G2 H2 x y Q Qm p2.hp rx ry q<|c.go k2
abbrev Z7(i:Inf)(op:O.Cop)(r:R2):Prop:=∀(v u:O.Val) (G:O.Hs) (H:Hp) (x y:V) (c:Bool) (Q:VK),RH i G H->RV i.K H v x->RV i.K H u y->O.eX G op v u=d9 c->Q (.bl c) H->r x y H Q
variable {op:b7} {cop:O.Cop}
def Rk{a:Expr}(ho:OpR X (ì op) r)(hr:Z7 i cop r)(ha:PE X a<|tE X i Φ ma)(hb:PE X b<|tE X i Φ mb)(hm:Ļ op b=ei):PE X (.Compare a [op] [b] ë) (tE X i Φ<|.cmp cop ma mb) :=
 (UX ho ha hb hm).imp λσ H Q ⟨env,G,Qm,Em,p,w,c⟩=>by
  exact two p w λv u G2 H2 x y k2 p2 rx ry q=>by obtain⟨d,e,q⟩:=eF q;exact hr v u G2 H2 x y d Q p2.hp rx ry e<|c (.bl d) G2 H2 (.bl d) k2 p2.hp (.bl d) q
def IF{a:Expr}(ho:OpR X (ì op) r)(hr:Z7 i cop r)(ha:PE X a<|tE X i Φ ma)(hb:PE X b<|tE X i Φ mb)(hm:Ļ op b=ei):PT X (.Compare a [op] [b] ë) (tTt X i Φ<|.val<|.cmp cop ma mb) :=
 (Ac ho ha hb hm).imp λσ H Q ⟨env,G,Qm,Em,p,w,c⟩=>by
  exact two p w λv u G2 H2 x y k2 p2 rx ry q=>by obtain⟨d,e,q⟩:=eF q;obtain⟨d',e',q⟩:=eF q;cases e';exact hr v u G2 H2 x y d _ p2.hp rx ry e ⟨d,rfl,c d G2 H2 k2 p2.hp q⟩
def WB{v:O.Val}{b:Bool}(h:O.fV v=d9 b):v=.bl b:=by cases v<;>simp_all [O.fV]
def ZJ{v:O.Val}{b:Int}(h:O.fU v=d9 b):v=.int b:=by cases v<;>simp_all [O.fU]
def J7{v:O.Val}{b:O.Ad}(h:O.fm v=d9 b):v=.ref b:=by cases v<;>simp_all [O.fm]
def RV.bl_inv{K:Frag}{b:Bool}(r:RV K H (.bl b) x):x=.bl b:=by cases r;rfl
def RV.int_inv{K:Frag}{b:Int}(r:RV K H (.int b) x):x=.int b:=by cases r;rfl
def RV.ref_inv{K:Frag}{b:Í}(r:RV K H (.ref b) x):x=.ref b:=by cases r;rfl
def RV.str_inv{K:Frag}{b:String}(r:RV K H (.str b) x):x=.str (gh b):=by cases r;rfl
def RV.non_inv{K:Frag}(r:RV K H .non x):x=.non:=by cases r;rfl
def RS{a:Expr}(ha:PE X a<|tE X i Φ ma):PE X (.UnaryOp .Not a ë) (tE X i Φ<|.not ma) :=
 (LM ha).imp λσ H Q ⟨env,G,Qm,Em,p,w,c⟩=>by
  exact one p w λv G1 H1 x k1 p1 r q=>by obtain⟨b,e,q2⟩:=eF q;clear q;cases WB e;exact⟨b,r.bl_inv,c _ G1 H1 _ k1 p1.hp (.bl _) q2⟩
def Rj{a:Expr}(ha:PE X a<|tE X i Φ ma):PE X (.UnaryOp .USub a ë) (tE X i Φ<|.neg ma) :=
 (QC Pk ha).imp λσ H Q ⟨env,G,Qm,Em,p,w,c⟩=>by
  exact one p w λv G1 H1 x k1 p1 r q=>by obtain⟨b,e,q2⟩:=eF q;clear q;cases ZJ e;exact⟨b,r.int_inv,c _ G1 H1 _ k1 p1.hp (.int _) q2⟩
def R0{a:Expr}{rest:List Expr}(ha:PE X a<|tE X i Φ ma)(hb:PE X (.BoolOp .And (b::rest) ë)<|tE X i Φ mb):PE X (.BoolOp .And (a::b::rest) ë) (tE X i Φ<|.and ma mb) :=
 (LE ha hb).imp λσ H Q ⟨env,G,Qm,Em,p,w,c⟩=>by
  exact one p w λv G1 H1 x k1 p1 r q=>by
   obtain⟨d,e,q2⟩:=eF q;clear q;cases WB e;refine⟨d,r.bl_inv,?_⟩;cases d with
   |true=>exact⟨env,G1,Qm,Em,p1,by simpa using q2,c.go k1⟩
   |false=>simp at q2 ⊢;exact c _ G1 H1 _ k1 p1.hp (.bl _) q2
def SO{a:Expr}{rest:List Expr}(ha:PE X a<|tE X i Φ ma)(hb:PE X (.BoolOp .Or (b::rest) ë)<|tE X i Φ mb):PE X (.BoolOp .Or (a::b::rest) ë) (tE X i Φ<|.or ma mb) :=
 (Rg ha hb).imp λσ H Q ⟨env,G,Qm,Em,p,w,c⟩=>by
  exact one p w λv G1 H1 x k1 p1 r q=>by
   obtain⟨d,e,q2⟩:=eF q;clear q;cases WB e;refine⟨d,r.bl_inv,?_⟩;cases d with
   |false=>exact⟨env,G1,Qm,Em,p1,by simpa using q2,c.go k1⟩
   |true=>simp at q2 ⊢;exact c _ G1 H1 _ k1 p1.hp (.bl _) q2
def IH{a:Expr}{ma:O.Tt}(ha:PT X a<|tTt X i Φ ma):PT X (.UnaryOp .Not a ë) (tTt X i Φ<|.not ma) :=
 (LZ ha).imp λσ H Q ⟨env,G,Qm,Em,p,w,c⟩=>by exact⟨env,G,_,Em,p,w,λb G1 H1 k1 g1 q=>c (!b) G1 H1 k1 g1 q⟩
def Lp{a:Expr}{rest:List Expr}{ma mb:O.Tt}(ha:PT X a<|tTt X i Φ ma)(hb:PW X (.BoolOp .And (b::rest) ë)<|tTt X i Φ mb):PW X (.BoolOp .And (a::b::rest) ë) (tTt X i Φ<|.and ma mb) :=
 (Ia ha hb).imp λσ H Q ⟨env,G,Qm,Em,p,w,c⟩=>by
  refine⟨env,G,_,Em,p,w,λd G1 H1 k1 g1 q=>?_⟩;cases d with
  |true=>exact⟨env,G1,Qm,Em,p.go k1 g1,by simpa using q,λb G2 H2 k2=>c b G2 H2<|k1.trans k2⟩
  |false=>simp at q ⊢;exact c ei G1 H1 k1 g1 q
def RU{a:Expr}{rest:List Expr}{ma mb:O.Tt}(ha:PT X a<|tTt X i Φ ma)(hb:PW X (.BoolOp .Or (b::rest) ë)<|tTt X i Φ mb):PW X (.BoolOp .Or (a::b::rest) ë) (tTt X i Φ<|.or ma mb) :=
 (Ra ha hb).imp λσ H Q ⟨env,G,Qm,Em,p,w,c⟩=>by
  refine⟨env,G,_,Em,p,w,λd G1 H1 k1 g1 q=>?_⟩;cases d with
  |false=>exact⟨env,G1,Qm,Em,p.go k1 g1,by simpa using q,λb G2 H2 k2=>c b G2 H2<|k1.trans k2⟩
  |true=>simp at q ⊢;exact c eh G1 H1 k1 g1 q
def Ge{a:Expr}{ma:O.Tt}(ha:PT X a<|tTt X i Φ ma):PW X (.BoolOp .And [a] ë)<|tTt X i Φ ma:=GE ha
def Ph{a:Expr}{ma:O.Tt}(ha:PT X a<|tTt X i Φ ma):PW X (.BoolOp .Or [a] ë)<|tTt X i Φ ma:=Pa ha
def QS{c a:Expr}{mc:O.Tt}(hc:PT X c<|tTt X i Φ mc)(ha:PE X a<|tE X i Φ ma)(hb:PE X b<|tE X i Φ mb):PE X (.IfExp c a b ë) (tE X i Φ<|.ife mc ma mb) :=
 (B9 hc ha hb).imp λσ H Q ⟨env,G,Qm,Em,p,w,c⟩=>by
  refine⟨env,G,_,Em,p,w,λd G1 H1 k1 g1 q=>?_⟩;cases d with
  |true=>exact⟨env,G1,Qm,Em,p.go k1 g1,by simpa using q,c.go k1⟩
  |false=>exact⟨env,G1,Qm,Em,p.go k1 g1,by simpa using q,c.go k1⟩
def I0:PA X []<|tAr X i Φ .nil 0:=fN.imp λσ H Q ⟨env,G,Qm,Em,p,w,c⟩=>by exact c [] G H [] (fb.refl H) p.hp .nil rfl w
def Fh{m:O.E}{ms:O.Es}{n:Nat}(he:PE X e<|tE X i Φ m)(hes:PA X es<|tAr X i Φ ms n)(hs:Þ (e::es) X.env=(ei,eval e X.env)::Þ es X.env):PA X (e::es) (tAr X i Φ (.cons m ms)<|n+1) :=
 (ZW he hes hs).imp λσ H Q ⟨env,G,Qm,Em,p,w,c⟩=>by exact⟨env,G,_,Em,p,w,λv G1 H1 x k1 g1 r1 w1=>⟨env,G1,_,Em,p.go k1 g1,w1,λvs G2 H2 xs k2 g2 r2 hn w2=>c (v::vs) G2 H2 (x::xs) (k1.trans k2) g2 (.cons (r1.keep k2) r2) (by rw[Ë,hn]) w2⟩⟩
def ZP:O.lim<=Ý:=by decide
def ZZ{o:O.Ob}{u:HO}(g:RH i G H)(w:O.new G o Qm)(c:Cn i H Q Qm)(r:∀p,H p=ee->RO i (upd H p u) p o):∀p,H p=ee->Q (.ref p) (upd H p u):=λp hp=>by unfold O.new at w;exact c (.ref p) _ _ (.ref p) (fb.new hp) (g.put (fb.new hp)<|r p hp) (.ref p) (w p<|g.free hp)
end Snd
namespace HT2
open PySem PySem.Spec PyProof.Rows L2
abbrev Yt:List Int->List Int->Bool
 |[],[]=>ei
 |[],_::_=>ei
 |_::_,[]=>eh
 |x::xs,y::ys=>if x=y then Yt xs ys else gg (x > y)
def Eo(A:ĉ)(s:Å)(a:Int)(t:Tok)(c:Int)(u:Tok)(prog:å)(w:ø)(E:Ã->Å->Prop)(Q:Ã->Å->Prop)(h:Q (.bool<|gg (a > c)) s) :
  wpAny (ß prog w) A (richCompare .Gt (.int a t)<|.int c u) Q E s :=
 (PyProof.Rows.gt_int h:wpAny (ß prog w) A (ì .Gt (.int a t)<|.int c u) Q E s)
section
open PySem.SeqAt
open PySem.AutoSeq1 (wpAny_loadPart')
open PySem.MeetsSeq PySem.MeetsSeq2 PySem.MeetsSeq3
def Ko(l b:Í)(items ŀ:Array Ã)(n n2:Nat)(dd cL:Option Í)(sl dG:Array<|Option Ã)(ns ms:List Int)(hi:ÿ items.toList ns)(hj:ÿ ŀ.toList ms) :
  Meets (Builtin.«tuple.__gt__» ⟨[.ref l,.ref b],[]⟩)
   (λ_ R s=>s.heap.get? l=d9 { cls:=.type "tuple",dict:=dd,data:=.seq items n,slots:=sl }/\s.heap.get? b=d9 { cls:=.type "tuple",dict:=cL,data:=.seq ŀ n2,slots:=dG }/\
     R (.ok<|.ret<|.bool<|Yt ns ms) s) :=
 .of_wp λprog w A R s h=>by
  obtain⟨hp,g,d,tk,os⟩:=s;obtain⟨hl,hb,h⟩:=h;have f2:=AutoSeq1.sub_tuple_tuple;have z1:items.size=ns.length:=by rw[<-hi.length];simp
  have z2:ŀ.size=ms.length:=by rw[<-hj.length];simp
  wp_walk using ĝ hl,ĝ hb,wpAny_forIn_list _ (λrest b s'=>b.1=ee/\s'=⟨hp,g,d,tk,os⟩/\∃(vs ws:List Ã) (bX db:List Int),rest=vs.zip ws/\
    ÿ vs bX/\ÿ ws db/\bX.length+ŀ.size=db.length+items.size/\R (.ok<|.ret<|.bool<|Yt bX db) ⟨hp,g,d,tk,os⟩) _
  case turn =>
   rintro⟨y,x⟩ rest b s' ⟨bf,rfl,vs,ws,bX,db,hz,hvi,hwi,hlen,hR⟩;cases hvi with
   |nil=>rw[Ι]at hz;cases hz
   |cons a t hvi' =>
    cases hwi with
    |nil=>rw[π]at hz;cases hz
    |cons c u hwi' =>
     rw[ŏ]at hz;injection hz with hyx hrest;injection hyx with hy hx;subst hy hx;rw[Yt]at hR;simp only[Ë]at hlen;obtain⟨e,he,hiff⟩:=HT.eqAt_int A.in1 ⟨hp,g,d,tk,os⟩ a t c u;refine À<|he prog w _ _ ?_;cases e with
     |true =>
      rw[fZ<|hiff.mp rfl]at hR
      wp_walk
      exact⟨rfl,rfl,_,_,_,_,hrest,hvi',hwi',by lia,hR⟩
     |false =>
      rw[f8 λq=>gf (hiff.mpr q) ù]at hR;have hri:=Eo A.in1 ⟨hp,g,d,tk,os⟩ a t c u prog w
      wp_walk using hri
      exact⟨_,rfl,by simpa using hR⟩
  case fin =>
   rintro⟨b1,b2⟩ s' ⟨bf,rfl,vs,ws,bX,db,hz,hvi,hwi,hlen,hR⟩;simp only at bf;subst bf;have hv:Yt bX db=gg (items.size > ŀ.size):=by
    cases hvi with
    |nil =>
     cases hwi with
     |nil =>simp only[Đ]at hlen;rw[Yt];exact(f9<|by lia).symm
     |cons c u hw =>simp only[Đ,Ë]at hlen;rw[Yt];exact(f9<|by lia).symm
    |cons a t hv =>
     cases hwi with
     |nil =>simp only[Đ,Ë]at hlen;rw[Yt];exact(gb<|by lia).symm
     |cons c u hw =>rw[ŏ]at hz;cases hz
   rw[hv]at hR
   wp_walk
   exact⟨_,rfl,by simpa[Builtin.Tuple.tupleCompareSizes]using hR⟩
  case h =>exact⟨rfl,rfl,items.toList,ŀ.toList,ns,ms,rfl,hi,hj,by lia,h⟩
end
def O8{prog:å}{w:ø}{A:ĉ}{E:Ã->Å->Prop}{s:Å}{l b:Í}{items ŀ:Array Ã}{ns ms:List Int}{Q:Ã->Å->Prop}(hl:ϩ s.heap l items)(hb:ϩ s.heap b ŀ)(hi:ÿ items.toList ns)(hj:ÿ ŀ.toList ms)
  (hu:A.units<Ĭ) (h:Q (.bool<|Yt ns ms) s):wpAny (ß prog w) A (ì .Gt (.ref l)<|.ref b) Q E s:=by
 obtain⟨⟨cls,dd,data,sl⟩,ho,hc,n,hd⟩:=id hl;obtain⟨⟨cls2,cL,data2,dG⟩,ho2,hc2,n2,bC⟩:=id hb;simp only at hc hd hc2 bC;subst hc hd hc2 bC;exact dN (op:=.Gt) ⟨_,ho,rfl⟩ ⟨_,ho2,rfl⟩ PySem.F.slot_tuple_gt PySem.F.entry_tuple_gt (PySem.F.args_tuple_gt_2 _ _) (Ko l b items ŀ n n2 dd cL sl dG ns ms hi hj)
  ⟨ho,ho2,show Value.bool (Yt ns ms)≠ca/\Q (.bool<|Yt ns ms) s from ⟨(λx=>nomatch x),h⟩⟩ hu
abbrev rGtT(K:Frag):R2:=λx y H Q=>∃a b ns ms,x=.ref a/\y=.ref b/\fQ K H a (ns.map V.int)/\fQ K H b (ms.map V.int)/\Q (.bl<|Yt ns ms) H
def op_gtT{X:Cx}(hu:X.A.units<Ĭ):OpR X (ì .Gt)<|rGtT X.K:=by intro Â s σ H x y v u Q I rx ry h;obtain⟨a,b,ns,ms,rfl,rfl,ha,hb,q⟩:=h;cases rx;cases ry;obtain⟨ô,r1,p1,_⟩:=I.tuple ha;obtain⟨aN,r2,p2,_⟩:=I.tuple hb;have i1:ÿ ô.toArray.toList ns:=ZI r1;have i2:ÿ aN.toArray.toList ms:=ZI r2;exact O8 p1 p2 i1 i2 hu ⟨.bl<|Yt ns ms,H,I,rfl,q⟩
def lexGt_lt:∀(ns ms:List Int),Yt ns ms=HT.lexLt ms ns
 |[],[]=>rfl
 |[],_::_=>rfl
 |_::_,[]=>rfl
 |x::xs,y::ys=>by
  rw[Yt,HT.lexLt_cons,lexGt_lt xs ys];by_cases e:x=y
  .rw[fZ e,fZ e.symm]
  .rw[f8 e,f8 λz=>e z.symm]
end HT2
namespace Snd
open PySem L2
mutual
noncomputable def toD:O.D->ϫ
 |.non=>.none
 |.bl b=>.bool b
 |.int i=>.int i
 |.str s=>.str<|gh s
 |.tup ds=>.tuple<|toDs ds
 |.lst ds=>.list<|toDs ds
noncomputable def toDs:List O.D->List ϫ
 |[]=>[]
 |d::ds=>toD d::toDs ds
end
def ofS_inj{s t:String}:gh s=gh t↔s=t:=by
 constructor
 .intro h;rw[Str.ofString_eq_toList,Str.ofString_eq_toList]at h;injection h with h;have h2:s.toList.map ŝ=t.toList.map ŝ:=by simpa using congrArg bF h
  have inj:∀{a b:Char},a.toNat=b.toNat->a=b:=λ{a b} e=>Char.ext<|bw e;have:s.toList=t.toList:=by
   revert h2;generalize s.toList=a;generalize t.toList=b;intro h2;induction a generalizing b with
   |nil=>cases b with
    |nil=>rfl
    |cons _ _=>cases h2
   |cons x xs ih=>cases b with
    |nil=>cases h2
    |cons y ys =>simp only[Ñ,List.cons.injEq]at h2;rw[inj h2.1,ih _ h2.2]
  exact String.toList_inj.mp this
 .rintro rfl;rfl
def Fk(s t:String):(gh s==gh t)=(s==t):=by
 by_cases e:s=t
 .subst e;simp
 .have:gh s≠gh t:=λz=>e<|ofS_inj.mp z;rw[beq_eq_false_iff_ne.mpr this,beq_eq_false_iff_ne.mpr e]
def BE(s:String):PyData.strOk (gh s)=eh:=by
 rw[Str.ofString_eq_toList];unfold PyData.strOk;rw[Array.all_eq_true'];intro n hn;have:n∈s.toList.map ŝ:=by simpa using hn
 obtain⟨c,_,rfl⟩:=Ð.mp this;have:=c.valid;have h2:c.toNat=c.val.toNat:=rfl;simp only[UInt32.isValidChar,Nat.isValidChar]at this;simp only[gc];lia
mutual
theorem MH:∀d e:O.D,Ĩ (toD d) (toD e)=O.D.eqv d e
 |.non,e=>by cases e<;>simp[toD,Ĩ,O.D.eqv]
 |.bl _,e=>by cases e<;>simp[toD,Ĩ,O.D.eqv]
 |.int _,e=>by cases e<;>simp[toD,Ĩ,O.D.eqv]
 |.str s,e=>by cases e<;>simp only[toD,Ĩ,O.D.eqv];exact Fk _ _
 |.tup ds,e=>by cases e<;>simp only[toD,Ĩ,O.D.eqv];exact toDs_eqv _ _
 |.lst ds,e=>by cases e<;>simp only[toD,Ĩ,O.D.eqv];exact toDs_eqv _ _
theorem toDs_eqv:∀ds es:List O.D,Θ (toDs ds) (toDs es)=O.D.eqvs ds es
 |[],[]=>by simp[toDs,Θ,O.D.eqvs]
 |[],_::_=>by simp[toDs,Θ,O.D.eqvs]
 |_::_,[]=>by simp[toDs,Θ,O.D.eqvs]
 |d::ds,e::es=>by simp only[toDs,Θ,O.D.eqvs,MH d e,toDs_eqv ds es]
end
mutual
theorem Nh:∀d:O.D,(toD d).canLay0=eh
 |.non=>by simp[toD,ū]
 |.bl _=>by simp[toD,ū]
 |.int _=>by simp[toD,ū]
 |.str s=>by simp only[toD,ū];exact BE s
 |.tup ds=>by simp only[toD,ū];exact toDs_lay ds
 |.lst ds=>by simp only[toD,ū];exact toDs_lay ds
theorem toDs_lay:∀ds:List O.D,œ (toDs ds)=eh
 |[]=>by simp[toDs,œ]
 |d::ds=>by simp only[toDs,œ,Nh d,toDs_lay ds,Bool.and_self]
end
section
variable {i:Inf}{G:O.Hs}{H:Hp}
def AZ{α β:Type}{f:α->Option β}:∀{xs:List α}{ys:List β},xs.mapM f=d9 ys->List.length xs=ys.length/\∀(n:Nat) (x:α),xs[n]?=d9 x->∃y,ys[n]?=d9 y/\f x=d9 y:=by
 intro xs;induction xs with
 |nil=>intro ys h;simp at h;subst h;exact⟨rfl,λn x e=>by simp at e⟩
 |cons a as ih =>
  intro ys h;rw[ς]at h;cases e:f a with
  |none=>rw[e]at h;simp at h
  |some b =>
   rw[e]at h;cases e2:as.mapM f with
   |none=>rw[e2]at h;simp at h
   |some bs =>
    rw[e2]at h;simp at h;subst h;obtain⟨h1,h2⟩:=ih e2;refine⟨by simp[h1],λn x hn=>?_⟩;cases n with
    |zero=>simp at hn;subst hn;exact⟨b,rfl,e⟩
    |succ n=>simp at hn ⊢;exact h2 n x hn
def UU{K:Frag}{f:O.Val->Option O.D}(hf:∀v d x,f v=d9 d->RV K H v x->IsD K H x (toD d)):∀{vs:List O.Val}{xs:List V}{ds:List O.D},vs.mapM f=d9 ds->RVs K H vs xs->IsDs K H xs (toDs ds):=by
 intro vs;induction vs with
 |nil=>intro xs ds h r;simp at h;subst h;cases r;exact .nil
 |cons a as ih =>
  intro xs ds h r;rw[ς]at h;cases e:f a with
  |none=>rw[e]at h;simp at h
  |some b =>
   rw[e]at h;cases e2:as.mapM f with
   |none=>rw[e2]at h;simp at h
   |some bs =>
    rw[e2]at h;simp at h;subst h;cases r with
    |cons r1 r2=>exact .cons (hf a b _ e r1)<|ih e2 r2
def ZS(g:RH i G H){a:Í}{xs:List O.Val}(e:O.eS (G a)=d9 xs):∃vs,fP i.K H a vs/\RVs i.K H xs vs:=by
 cases q:G a with
 |none=>rw[q]at e;cases e
 |some o =>
  rw[q]at e;cases o with
  |lst ys=>cases e;obtain⟨vs,h,r⟩:=g a _ q;exact⟨vs,fP.of h,r⟩
  |dct _=>cases e
  |ins _ _=>cases e
  |exc _=>cases e
  |frz _=>cases e
  |dtp _=>cases e
def Mi:∀ns:List Int,toDs (ns.map O.D.int)=ns.map PyData.int
 |[]=>by simp[toDs]
 |n::ns=>by simp only[Ñ,toDs,toD,Mi ns]
def Wg(g:RH i G H):∀(n:Nat) (v:O.Val) (d:O.D) (x:V),O.dat G n v=d9 d->RV i.K H v x->IsD i.K H x (toD d):=by
 intro n;induction n with
 |zero =>
  intro v d x e r;cases v with
  |non=>cases r;simp[O.dat]at e;subst e;rw[toD];exact .non
  |bl b=>cases r;simp[O.dat]at e;subst e;rw[toD];exact .bl b
  |int b=>cases r;simp[O.dat]at e;subst e;rw[toD];exact .int b
  |str s=>cases r;simp[O.dat]at e;subst e;rw[toD];exact .str _
  |tup xs=>simp[O.dat]at e
  |ref a=>simp[O.dat]at e
  |scr ns=>simp[O.dat]at e
  |key _ _=>simp[O.dat]at e
 |succ n ih =>
  intro v d x e r;cases v with
  |non=>cases r;simp[O.dat]at e;subst e;rw[toD];exact .non
  |bl b=>cases r;simp[O.dat]at e;subst e;rw[toD];exact .bl b
  |int b=>cases r;simp[O.dat]at e;subst e;rw[toD];exact .int b
  |str s=>cases r;simp[O.dat]at e;subst e;rw[toD];exact .str _
  |tup xs =>
   rw[O.dat]at e;cases z:xs.mapM (O.dat G n)with
   |none=>rw[z]at e;cases e
   |some ds =>
    rw[z]at e;cases e;cases r with
    |tup hp hr=>rw[toD];exact .tup (Zm hp)<|UU ih z hr
  |ref a =>
   rw[O.dat]at e;cases q:O.eS (G a)with
   |none=>rw[q]at e;cases e
   |some xs =>
    rw[q]at e;simp only[û]at e;cases z:xs.mapM (O.dat G n)with
    |none=>rw[z]at e;cases e
    |some ds =>rw[z]at e;cases e;cases r.ref_inv;obtain⟨vs,h1,h2⟩:=ZS g q;rw[toD];exact .lst h1<|UU ih z h2
  |scr ns =>
   simp[O.dat]at e;subst e;cases r with
   |scr h =>rw[toD,Mi];exact .lst (Yr h)<|IsDs.ints ns
  |key _ _=>simp[O.dat]at e
def XN{n:Nat}:∀{ds:List O.D},(∀d∈ds,(toD d).depth<=n)->Ľ (toDs ds)<=n
 |[],_=>by rw[toDs];simp[Ľ]
 |d::ds,h=>by rw[toDs];simp only[Ľ];exact Nat.max_le.mpr ⟨h d (by simp),XN λe he=>h e<|by simp[he]⟩
def K7:∀(n:Nat) (v:O.Val) (d:O.D),O.dat G n v=d9 d->(toD d).depth<=n:=by
 have sc:∀(n:Nat) (v:O.Val) (d:O.D),(∀xs,v≠.tup xs)->(∀a,v≠.ref a)->(∀ns,v≠.scr ns)->O.dat G n v=d9 d->(toD d).depth<=n:=by
  intro n v d h1 h2 h3 e;cases v with
  |tup xs=>exact gf rfl<|h1 xs
  |ref a=>exact gf rfl<|h2 a
  |scr ns=>exact gf rfl<|h3 ns
  |key _ _=>cases n<;>simp[O.dat]at e
  |_=>simp[O.dat]at e;subst e;simp[toD,PyData.depth]
 have ms:∀(n:Nat),(∀v d,O.dat G n v=d9 d->(toD d).depth<=n)->∀(xs:List O.Val) (ds:List O.D),xs.mapM (O.dat G n)=d9 ds->Ľ (toDs ds)<=n:=by
  intro n ih xs ds z;refine XN λd hd=>?_;obtain⟨k,hk⟩:=cj.mp hd;obtain⟨h1,h2⟩:=AZ z;have ϒ:k<xs.length:=by rw[h1];exact(Î.mp hk).1
  obtain⟨y,hy,hf⟩:=h2 k xs[k]<|Ê ϒ;rw[hk]at hy;cases hy;exact ih _ _ hf
 intro n;induction n with
 |zero =>
  intro v d e;cases v with
  |tup xs=>simp[O.dat]at e
  |ref a=>simp[O.dat]at e
  |scr ns=>simp[O.dat]at e
  |_=>exact sc 0 _ d (by simp) (by simp) (by simp) e
 |succ n ih =>
  intro v d e;cases v with
  |tup xs =>
   rw[O.dat]at e;cases z:xs.mapM (O.dat G n)with
   |none=>rw[z]at e;cases e
   |some ds =>rw[z]at e;cases e;rw[toD];exact Χ<|ms n ih xs ds z
  |ref a =>
   rw[O.dat]at e;cases q:O.eS (G a)with
   |none=>rw[q]at e;cases e
   |some xs =>
    rw[q]at e;simp only[û]at e;cases z:xs.mapM (O.dat G n)with
    |none=>rw[z]at e;cases e
    |some ds =>rw[z]at e;cases e;rw[toD];exact Χ<|ms n ih xs ds z
  |scr ns =>simp[O.dat]at e;subst e;rw[toD];refine Χ<|á ?_<|ĕ n;refine XN λd hd=>?_;obtain⟨m,_,rfl⟩:=Ð.mp hd;simp[toD,PyData.depth]
  |_=>exact sc (n+1) _ d (by simp) (by simp) (by simp) e
def JH{v:O.Val}{d:O.D}(e:O.dat G O.deep v=d9 d):SeqAt.shaped (toD d)=eh:=by show((toD d).canLay0&&gg ((toD d).depth<=64))=eh;rw[Nh,gb<|á (K7 _ _ _ e)<|by decide];rfl
def Am(g:RH i G H){v u:O.Val}{x y:V}{c:Bool}(rx:RV i.K H v x)(ry:RV i.K H u y)(e:O.eqV G v u=d9 c):∃d d',IsD i.K H x d/\IsD i.K H y d'/\SeqAt.shaped d=eh/\SeqAt.shaped d'=eh/\Ĩ d d'=c:=by
 unfold O.eqV at e;cases z:O.dat G O.deep v with
 |none=>rw[z]at e;cases e
 |some d =>
  cases z2:O.dat G O.deep u with
  |none=>rw[z,z2]at e;cases e
  |some d' =>rw[z,z2]at e;cases e;exact⟨_,_,Wg g _ _ _ _ z rx,Wg g _ _ _ _ z2 ry,JH z,JH z2,MH d d'⟩
def Sl:Z7 i .eq<|QD i.K:=by intro v u G H x y c Q g rx ry e q;obtain⟨d,d',h1,h2,h3,h4,h5⟩:=Am g rx ry e;exact⟨d,d',h1,h2,h3,h4,by rw[h5];exact q⟩
def SL:Z7 i .ne<|RM i.K:=by
 intro v u G H x y c Q g rx ry e q;have e:(O.eqV G v u).map (!·)=d9 c:=e;cases z:O.eqV G v u with
 |none=>rw[z]at e;cases e
 |some b =>rw[z]at e;cases e;obtain⟨d,d',h1,h2,h3,h4,h5⟩:=Am g rx ry z;exact⟨d,d',h1,h2,h3,h4,by rw[h5];exact q⟩
end
variable {i:Inf}{X:Cx}{Φ:O.Fs}
def Zw(s:String):(gh s).length=s.length:=by rw[Str.ofString_eq_toList];show(List.map ŝ s.toList).toArray.size=_;rw[Ï,Á];first|rfl|exact bQ
def MI(s t:String):gh (s++t)=gh s++gh t:=by rw[Str.ofString_eq_toList,Str.ofString_eq_toList,Str.ofString_eq_toList];show _=Str.append _ _;unfold Str.append;simp
variable {xs:List O.Val}
def Bp{o:Option O.Ob}(h:O.eS o=d9 xs):o=d9 (.lst xs):=by
 cases o with
 |none=>cases h
 |some o=>cases o with
  |lst ys=>cases h;rfl
  |_=>cases h
variable {p:Prop}
def Zn{α:Type}[Decidable p]{o:Option α}{a:α}(e:(if p then o else ee)=d9 a):p/\o=d9 a:=by
 by_cases q:p
 .rw[fZ q]at e;exact⟨q,e⟩
 .rw[f8 q]at e;cases e
variable {h:O.Hs} {Q:O.Q1}
def Zi(w:O.Rs.no.wp h Q):False:=by rw[O.Rs.wp_no]at w;exact w
def Zo{v:O.Val}(w:(O.Rs.val v).wp h Q):Q v h:=by rw[O.Rs.wp_val]at w;exact w
def XM{o:O.Ob}(w:(O.Rs.new o).wp h Q):O.new h o Q:=by rw[O.Rs.wp_new]at w;exact w
def Wr[Decidable p]{r:O.Rs}(w:(if p then r else .no).wp h Q):p/\r.wp h Q:=by
 by_cases e:p
 .rw[fZ e]at w;exact⟨e,w⟩
 .rw[f8 e]at w;exact(Zi w).elim
variable {u:O.Val}
def Xz{f:Int->Int->O.Rs}{v:O.Val}(w:(O.intV f v u).wp h Q):∃i j,v=.int i/\u=.int j/\(f i j).wp h Q:=by
 cases v with
 |int i=>cases u with
  |int j=>exact⟨i,j,rfl,rfl,w⟩
  |_=>exact(Zi w).elim
 |_=>exact(Zi w).elim
abbrev Hy(K:Frag):R2:=λx y H Q=>(rI0 λi j=>.int<|i+j) x y H Q\/(((Hr K x y H Q\/HM K x y H Q)\/RG x y H Q)\/∃i j,x=.str i/\y=.str j/\i.length+j.length<=Ý/\Q (.str<|i++j) H)
def Qd:OpR X (Ň .Add)<|Hy X.K:=op_add.or (((op_cat0.or GC).or Ie).or OG)
def b_add:Ju i .add<|Hy i.K:=by
 intro v u G H x y Q Qm g rx ry w c;cases v<;>cases u<;>first|exact(Zi w).elim|skip
 case int.int a b =>
  replace w:=Zo w
  exact .inl ⟨a,b,rx.int_inv,ry.int_inv,c _ G H _ (fb.refl H) g (.int _) w⟩
 case str.str a b =>
  obtain⟨h,w⟩:=Wr w
  replace w:=Zo w
  refine .inr<|.inr ⟨_,_,rx.str_inv,ry.str_inv,?_,?_⟩
  .rw[Zw,Zw];exact á h ZP
  .rw[<-MI];exact c _ G H _ (fb.refl H) g (.str _) w
 case tup.tup xs ys =>
  obtain⟨h,w⟩:=Wr w
  replace w:=Zo w
  .skip
   cases rx with
   |@tup _ p vs hp hr =>
   cases ry with
   |@tup _ q us hq hs =>
   by_cases h0:vs=[]
   .subst h0;have:xs=[]:=ao hr.length;subst this;exact .inr<|.inl<|.inl<|.inl ⟨p,q,us,rfl,rfl,Zm hp,Zm hq,c _ G H _ (fb.refl H) g (.tup hq hs) w⟩
   refine .inr<|.inl<|.inl<|.inr ⟨p,q,vs,us,rfl,rfl,Zm hp,Zm hq,h0,?_,λz=>?_,λz a ha=>?_⟩
   .rw[<-hr.length,<-hs.length];exact á h ZP
   .have:ys=[]:=ao (by rw[hs.length,z];rfl);subst this;rw[þ]at w;exact c _ G H _ (fb.refl H) g (.tup hp hr) w
   .have k:=fb.new (o:=.tup<|vs++us) ha;refine c _ G _ _ k (g.hid k λb o e=>ej ?_) (.tup (.inl ez)<|(hr.keep k).append<|hs.keep k) w;rintro rfl;rw[g.free ha]at e;cases e
 case ref.ref a b =>
  dsimp only[O.binV,O.addV]at w;split at w
  .rename_i xs ys e1 e2;unfold O.Rs.lst at w;split at w
   .rename_i hl;rw[O.Rs.wp_new]at w;cases rx.ref_inv;cases ry.ref_inv;obtain⟨vs,h1,r1⟩:=g a _ e1;obtain⟨us,h2,r2⟩:=g b _ e2;refine .inr (.inl<|.inr ⟨a,b,vs,us,rfl,rfl,h1,h2,?_,ZZ g w c λp hp=>?_⟩)
    .rw[<-r1.length,<-r2.length,<-ä];exact á hl ZP
    .have k:=fb.new (o:=.lst<|vs++us) hp;exact⟨_,ez,(r1.keep k).append<|r2.keep k⟩
   .exact(Zi w).elim
  .exact(Zi w).elim
def b_sub:Ju i .sub<|rI0 λi j=>.int<|i - j:=by intro v u G H x y Q Qm g rx ry w c;obtain⟨a,b,rfl,rfl,w⟩:=Xz w;exact⟨a,b,rx.int_inv,ry.int_inv,c _ G H _ (fb.refl H) g (.int _)<|Zo w⟩
def RVs.rep{K:Frag}{H:Hp}{vs:List O.Val}{xs:List V}(r:RVs K H vs xs):∀n,RVs K H (Û n vs).flatten (Û n xs).flatten
 |0=>.nil
 |n+1=>by rw[Ċ,Ċ,Ń,Ń];exact r.append<|RVs.rep r n
set_option exponentiation.threshold 2000 in
def PU{i j:Int}(h:O.mulOk i j):IntMulOk i j:=by
 rcases h with(h|h)|⟨h1,h2⟩
 .exact .of_left (intBits_le_64 (by lia)<|by lia)
 .exact .of_right (intBits_le_64 (by lia)<|by lia)
 .have e:(10:Nat) ^ 200<2 ^ 1000:=by decide
  exact .of_bits (á (PyProof.Rows.intBits_le<|Ò h1 e)<|by decide) (á (PyProof.Rows.intBits_le<|Ò h2 e)<|by decide)
def Gg(s:String)(n:Nat):Lk (gh s) n=gh (O.repT s n):=by unfold Lk O.repT;rw[Str.ofString_eq_toList,Str.ofString_eq_toList,bR];congr 1;apply dW.mp;rw[KK];simp[List.map_flatten,List.map_replicate]
abbrev HN:R2:=λx y H Q=>rI O.mulOk (λi j=>.int<|i*j) x y H Q\/(RX x y H Q\/HV x y H Q)
def Qf:OpR X (Ň .Mult) HN:=OpR.or (opI λ_ _ _ _ _ _ _ hc q=>PyProof.Rows.mul_int q<|PU hc) (op_rep.or Fi)
def b_mul:Ju i .mul HN:=by
 intro v u G H x y Q Qm g rx ry w c;cases v<;>cases u<;>first|exact(Zi w).elim|skip
 case int.int a b =>obtain⟨h,w⟩:=Wr w;exact .inl ⟨a,b,rx.int_inv,ry.int_inv,h,c _ G H _ (fb.refl H) g (.int _)<|Zo w⟩
 case ref.int a k =>
  dsimp only[O.binV,O.mulV]at w;split at w
  .rename_i xs e1;split at w
   .rename_i hk;unfold O.Rs.lst at w;split at w
    .rw[O.Rs.wp_new]at w;cases rx.ref_inv;cases ry.int_inv;obtain⟨vs,h1,r1⟩:=g a _ e1;refine .inr (.inl ⟨a,k,vs,rfl,rfl,h1,by lia,by lia,?_,ZZ g w c λp hp=>?_⟩)
     .rw[<-r1.length];exact á hk.2.2 ZP
     .have kk:=fb.new (o:=.lst (Û k.toNat vs).flatten) hp;exact⟨_,ez,(r1.keep kk).rep _⟩
    .exact(Zi w).elim
   .exact(Zi w).elim
  .exact(Zi w).elim
 case str.int a k =>
  obtain⟨hk,w⟩:=Wr w
  replace w:=Zo w
  refine .inr (.inr ⟨_,k,rx.str_inv,ry.int_inv,hk.1,hk.2.1,by rw[Zw];exact hk.2.2.1,by rw[Zw];exact hk.2.2.2,?_⟩);rw[Gg];exact c _ G H _ (fb.refl H) g (.str _) w
def b_fdiv:Ju i .fdiv<|rI Rn λi j=>.int<|i / j:=by intro v u G H x y Q Qm g rx ry w c;obtain⟨a,b,rfl,rfl,w⟩:=Xz w;obtain⟨h,w⟩:=Wr w;exact⟨a,b,rx.int_inv,ry.int_inv,h,c _ G H _ (fb.refl H) g (.int _)<|Zo w⟩
def b_mod:Ju i .mod<|rI (λ_ j=>0<j) λi j=>.int<|i % j:=by intro v u G H x y Q Qm g rx ry w c;obtain⟨a,b,rfl,rfl,w⟩:=Xz w;obtain⟨h,w⟩:=Wr w;exact⟨a,b,rx.int_inv,ry.int_inv,h,c _ G H _ (fb.refl H) g (.int _)<|Zo w⟩
def b_pow:Ju i .pow<|rI Rc λi j=>.int<|i ^ j.toNat:=by intro v u G H x y Q Qm g rx ry w c;obtain⟨a,b,rfl,rfl,w⟩:=Xz w;obtain⟨h,w⟩:=Wr w;exact⟨a,b,rx.int_inv,ry.int_inv,h,c _ G H _ (fb.refl H) g (.int _)<|Zo w⟩
def Z2{K:Frag}{H:Hp}:∀{xs:List O.Val}{ns:List Int}{vs:List V},O.eM xs=d9 ns->RVs K H xs vs->vs=ns.map V.int
 |[],_,_,e,r=>by cases r;cases e;rfl
 |v::xs,_,_,e,r=>by
  cases r with
  |cons r t=>cases v with
   |int k =>
    have e:(O.eM xs).map (k :: ·)=d9 _:=e;cases z:O.eM xs with
    |none=>rw[z]at e;cases e
    |some ns=>rw[z]at e;cases e;cases r;rw[Z2 z t];rfl
   |_=>cases e
def MN:∀(ns ms:List Int),O.fu ns ms=HT.lexLt ns ms
 |[],[]=>rfl
 |[],_::_=>rfl
 |_::_,[]=>rfl
 |x::xs,y::ys=>by rw[O.fu,HT.lexLt_cons,MN xs ys]
abbrev QM(K:Frag):R2:=λx y H Q=>rI0 (λi j=>.bl<|gg (i<j)) x y H Q\/QB K x y H Q
def Sb(hu:X.A.units<Ĭ):OpR X (ì .Lt)<|QM X.K:=op_lt.or (PR hu)
abbrev Qx(K:Frag):R2:=λx y H Q=>rI0 (λi j=>.bl<|gg (j<i)) x y H Q\/HT2.rGtT K x y H Q
def Sc(hu:X.A.units<Ĭ):OpR X (ì .Gt)<|Qx X.K:=op_gt.or (HT2.op_gtT hu)
variable {H:Hp} {x:V} {c:Bool}
def HQ{K:Frag}{ys:List O.Val}{y:V}(rx:RV K H (.tup xs) x)(ry:RV K H (.tup ys) y)(e:O.fv (.tup xs) (.tup ys)=d9 c):∃a b ns ms,x=.ref a/\y=.ref b/\fQ K H a (ns.map V.int)/\fQ K H b (ms.map V.int)/\HT.lexLt ns ms=c:=by
 simp only[O.fv]at e;cases z1:O.eM xs with
 |none=>rw[z1]at e;cases e
 |some ns =>
  cases z2:O.eM ys with
  |none=>rw[z1,z2]at e;cases e
  |some ms =>
   rw[z1,z2]at e;cases e;cases rx with
   |@tup _ p vs hp hr =>
   cases ry with
   |@tup _ q us hq hs =>
   have h1:=Z2 z1 hr;have h2:=Z2 z2 hs;subst h1 h2;exact⟨p,q,ns,ms,rfl,rfl,Zm hp,Zm hq,(MN _ _).symm⟩
def c_lt:Z7 i .lt<|QM i.K:=by
 intro v u G H x y c Q g rx ry e q
 replace e:O.fv v u=d9 c:=e
 cases v<;>cases u<;>first|(cases e;done)|skip
 case int.int a b=>cases e;exact .inl ⟨a,b,rx.int_inv,ry.int_inv,q⟩
 case tup.tup xs ys =>obtain⟨a,b,ns,ms,h1,h2,h3,h4,h5⟩:=HQ rx ry e;exact .inr ⟨a,b,ns,ms,h1,h2,h3,h4,by rw[h5];exact q⟩
def c_gt:Z7 i .gt<|Qx i.K:=by
 intro v u G H x y c Q g rx ry e q
 replace e:O.fv u v=d9 c:=e
 cases v<;>cases u<;>first|(cases e;done)|skip
 case int.int a b=>cases e;exact .inl ⟨a,b,rx.int_inv,ry.int_inv,q⟩
 case tup.tup xs ys =>obtain⟨a,b,ns,ms,h1,h2,h3,h4,h5⟩:=HQ ry rx e;exact .inr ⟨b,a,ms,ns,h2,h1,h4,h3,by rw[HT2.lexGt_lt,h5];exact q⟩
def Hu{v:O.Val}(e:O.leV v u=d9 c):∃i j,v=.int i/\u=.int j/\gg (i<=j)=c:=by
 cases v with
 |int i=>cases u with
  |int j=>cases e;exact⟨i,j,rfl,rfl,rfl⟩
  |_=>cases e
 |_=>cases e
def c_le:Z7 i .le<|rI0 λi j=>.bl<|gg (i<=j):=by intro v u G H x y c Q g rx ry e q;obtain⟨a,b,rfl,rfl,rfl⟩:=Hu e;exact⟨a,b,rx.int_inv,ry.int_inv,q⟩
def c_ge:Z7 i .ge<|rI0 λi j=>.bl<|gg (j<=i):=by intro v u G H x y c Q g rx ry e q;obtain⟨a,b,rfl,rfl,rfl⟩:=Hu e;exact⟨b,a,rx.int_inv,ry.int_inv,q⟩
def RV.isN{K:Frag}{v:O.Val}(r:RV K H v x):gg (x=.non)=gg (v=.non):=by cases r<;>simp
variable {a:Expr} {ma:O.E} {ë:Pos} {p2:Pos} {j:Nat}
def RB(ha:PE X a<|tE X i Φ ma):PE X (.Compare a [.Is] [.Constant .none j p2] ë) (tE X i Φ<|.cmp .is ma<|.cst .non) :=
 (CB (EL ha) rfl).imp λσ H Q ⟨env,G,Qm,Em,p,w,c⟩=>by refine one p w λv G1 H1 x k1 p1 r q=>?_;obtain⟨d,e,q2⟩:=eF q;have e:d9 (gg (v=.non))=d9 d:=e;cases e;rw[r.isN];exact c _ G1 H1 _ k1 p1.hp (.bl _) q2
def PM(ha:PE X a<|tE X i Φ ma):PE X (.Compare a [.IsNot] [.Constant .none j p2] ë) (tE X i Φ<|.cmp .isnot ma<|.cst .non) :=
 (CB (UL ha) rfl).imp λσ H Q ⟨env,G,Qm,Em,p,w,c⟩=>by refine one p w λv G1 H1 x k1 p1 r q=>?_;obtain⟨d,e,q2⟩:=eF q;have e:d9 (!gg (v=.non))=d9 d:=e;cases e;rw[r.isN];exact c _ G1 H1 _ k1 p1.hp (.bl _) q2
def Lf(ha:PE X a<|tE X i Φ ma):PT X (.Compare a [.Is] [.Constant .none j p2] ë) (tTt X i Φ<|.val<|.cmp .is ma<|.cst .non) :=
 (D3 (EL ha) rfl).imp λσ H Q ⟨env,G,Qm,Em,p,w,c⟩=>by refine one p w λv G1 H1 x k1 p1 r q=>?_;obtain⟨d,e,q2⟩:=eF q;obtain⟨d',e',q3⟩:=eF q2;cases e';have e:d9 (gg (v=.non))=d9 d:=e;cases e;rw[r.isN];exact⟨_,rfl,c _ G1 H1 k1 p1.hp q3⟩
def Hk(ha:PE X a<|tE X i Φ ma):PT X (.Compare a [.IsNot] [.Constant .none j p2] ë) (tTt X i Φ<|.val<|.cmp .isnot ma<|.cst .non) :=
 (D3 (UL ha) rfl).imp λσ H Q ⟨env,G,Qm,Em,p,w,c⟩=>by refine one p w λv G1 H1 x k1 p1 r q=>?_;obtain⟨d,e,q2⟩:=eF q;obtain⟨d',e',q3⟩:=eF q2;cases e';have e:d9 (!gg (v=.non))=d9 d:=e;cases e;rw[r.isN];exact⟨_,rfl,c _ G1 H1 k1 p1.hp q3⟩
def c_ntT:Z7 i .ntT RQ:=by
 intro v u G H x y c Q g rx ry e q;cases v with
 |bl a=>cases u with
  |bl b=>cases rx;cases ry;cases e;exact⟨a,b,rfl,rfl,q⟩
  |_=>cases e
 |_=>cases e
end Snd
namespace Snd
open PySem L2 PySem.Spec PyProof.Rows
variable {i:Inf}{X:Cx}{Φ:O.Fs}
def RKs.length{K:Frag}{H:Hp}:∀{kvs:List (O.Val×O.Val)}{ps:List (Key×V)},RKs K H kvs ps->kvs.length=ps.length
 |_,_,.nil=>rfl
 |_,_,.cons _ _ t=>by rw[Ë,Ë,RKs.length t]
def Jk{k j:O.Val}{c d:Key}(a:WT k c)(b:WT j d):(k==j)=gg (c=d):=by
 have key:k=j↔c=d:=by
  cases k<;>cases c<;>first|(cases a;done)|skip
  .cases j<;>cases d<;>first|(cases b;done)|skip
   .cases a;cases b;simp
   .cases a;cases b;simp
  .cases j<;>cases d<;>first|(cases b;done)|skip
   .cases a;cases b;simp
   .cases a;cases b;simp[ofS_inj]
 by_cases e:k=j
 .rw[gb<|key.mp e,e];simp
 .rw[f9 λz=>e<|key.mpr z];simpa using e
def eV{k:O.Val}{x:V}{K:Frag}{H:Hp}(h:O.eY k=eh)(r:RV K H k x):∃c,WT k c/\x=kV c:=by
 cases k with
 |int n=>cases r.int_inv;exact⟨.inl n,rfl,rfl⟩
 |str s=>cases r.str_inv;exact⟨.inr<|gh s,rfl,rfl⟩
 |_=>cases h
def RKs.look{K:Frag}{H:Hp}{k:O.Val}{c:Key}(a:WT k c):∀{kvs:List (O.Val×O.Val)}{ps:List (Key×V)},RKs K H kvs ps->
  (∀v,O.fc kvs k=d9 v->∃x,Yk ps c=d9 x/\RV K H v x)/\(O.fc kvs k=ee->Yk ps c=ee)
 |_,_,.nil=>⟨λv e=>(by cases e),λ_=>rfl⟩
 |_,_,.cons (k:=j) (v:=u) (c:=d) (x:=y) (kvs:=kvs) (ps:=ps) b r t=>by
  have ih:=RKs.look a t;have q:=Jk b a;by_cases e:d=c
  .rw[gb e]at q;have e1:O.fc ((j,u)::kvs) k=d9 u:=by simp[O.fc,Ě,q]
   rw[e1,Xi e];exact⟨λv z=>(by cases z;exact⟨y,rfl,r⟩),λz=>(by cases z)⟩
  .rw[f9 e]at q;have e1:O.fc ((j,u)::kvs) k=O.fc kvs k:=by simp[O.fc,Ě,q]
   rw[e1,Xp e];exact ih
def RKs.has{K:Frag}{H:Hp}{k:O.Val}{c:Key}(a:WT k c):∀{kvs:List (O.Val×O.Val)}{ps:List (Key×V)},RKs K H kvs ps->O.fe kvs k=ps.any λkv=>gg (kv.1=c)
 |_,_,.nil=>rfl
 |_,_,.cons b r t=>by have ih:=RKs.has a t;unfold O.fe at ih ⊢;rw[Ķ,Ķ,ih,Jk b a]
def RKs.app{K:Frag}{H:Hp}{k v:O.Val}{c:Key}{x:V}(a:WT k c)(q:RV K H v x):∀{kvs:List (O.Val×O.Val)}{ps:List (Key×V)},RKs K H kvs ps->RKs K H (kvs++[(k,v)]) (ps++[(c,x)])
 |_,_,.nil=>.cons a q .nil
 |_,_,.cons b r t=>.cons b r<|RKs.app a q t
def RKs.repl{K:Frag}{H:Hp}{k v:O.Val}{c:Key}{x:V}(a:WT k c)(q:RV K H v x):∀{kvs:List (O.Val×O.Val)}{ps:List (Key×V)},RKs K H kvs ps->
  RKs K H (kvs.map λp=>if p.1==k then(k,v)else p) (ps.map λkv=>if kv.1=c then(kv.1,x)else kv)
 |_,_,.nil=>.nil
 |_,_,.cons (k:=j) (v:=u) (c:=d) (x:=y) b r t=>by
  have ih:=RKs.repl a q t;have z:=Jk b a;rw[Ñ,Ñ];by_cases e:d=c
  .rw[gb e]at z;rw[fZ z,fZ e];exact .cons (e▸a) q ih
  .rw[f9 e]at z;rw[f8 (by rw[z];decide),f8 e];exact .cons b r ih
def RKs.put{K:Frag}{H:Hp}{k v:O.Val}{c:Key}{x:V}(a:WT k c)(q:RV K H v x){kvs:List (O.Val×O.Val)}{ps:List (Key×V)}(r:RKs K H kvs ps):RKs K H (O.ff kvs k v)<|L2.ff ps c x:=by
 unfold O.ff L2.ff;rw[r.has a];by_cases e:(ps.any λkv=>gg (kv.1=c))=eh
 .rw[fZ e,fZ e];exact r.repl a q
 .rw[f8 e,f8 e];exact r.app a q
def RKs.drop{K:Frag}{H:Hp}{k:O.Val}{c:Key}(a:WT k c):∀{kvs:List (O.Val×O.Val)}{ps:List (Key×V)},RKs K H kvs ps->RKs K H (O.fg kvs k) (L2.fg ps c)
 |_,_,.nil=>.nil
 |_,_,.cons (k:=j) (v:=u) (c:=d) (x:=y) b r t=>by
  have ih:=RKs.drop a t;have z:=Jk b a;unfold O.fg L2.fg at ih ⊢;rw[Ī,Ī];by_cases e:d=c
  .rw[gb e]at z;rw[f8 (by rw[z];decide),f8<|by simpa using e];exact ih
  .rw[f9 e]at z;rw[fZ (by rw[z];rfl),fZ<|by simpa using e];exact .cons b r ih
variable {G:O.Hs} {H:Hp} {a:Í} {kvs':List (O.Val×O.Val)}
def Je{kvs:List (O.Val×O.Val)}{ps cC:List (Key×V)}(g:RH i G H)(h:H a=d9 (.dK ps))(r:RKs i.K H kvs' cC):fb H (upd H a<|.dK cC)/\RH i (O.upd G a<|.dct kvs') (upd H a<|.dK cC):=by
 have k:fb H<|upd H a<|.dK cC:=fb.put (λxs e=>by rw[h]at e;cases e) λp u e=>by rw[h]at e;cases e
 exact⟨k,g.put k ⟨cC,ez,r.keep k⟩⟩
def RTs.length{K:Frag}{H:Hp}:∀{kvs:List (O.Val×O.Val)}{ps:List (List Key×V)},RTs K H kvs ps->kvs.length=ps.length
 |_,_,.nil=>rfl
 |_,_,.cons _ t=>by rw[Ë,Ë,RTs.length t]
def M5(a b i j:Int):(O.Val.key a b == .key i j)=gg (([.inl a,.inl b]:List Key)=[.inl i,.inl j]):=by
 by_cases e:a=i/\b=j
 .obtain⟨rfl,rfl⟩:=e;rw[gb rfl];simp
 .rw[f9 λz=>e<|by simpa using z];exact beq_eq_false_iff_ne.mpr λz=>e (by simpa using z)
def RTs.look{K:Frag}{H:Hp}{i j:Int}:∀{kvs:List (O.Val×O.Val)}{ps:List (List Key×V)},RTs K H kvs ps->
  (∀v,O.fc kvs (.key i j)=d9 v->∃x,Yk ps [.inl i,.inl j]=d9 x/\RV K H v x)/\(O.fc kvs (.key i j)=ee->Yk ps [.inl i,.inl j]=ee)
 |_,_,.nil=>⟨λv e=>(by cases e),λ_=>rfl⟩
 |_,_,.cons (i:=a) (j:=b) (v:=u) (x:=y) (kvs:=kvs) (ps:=ps) r t=>by
  have ih:=RTs.look (i:=i) (j:=j) t;have q:=M5 a b i j;by_cases e:([.inl a,.inl b]:List Key)=[.inl i,.inl j]
  .rw[gb e]at q;have e1:O.fc ((.key a b,u)::kvs) (.key i j)=d9 u:=by simp[O.fc,Ě,q]
   rw[e1,Xi e];exact⟨λv z=>(by cases z;exact⟨y,rfl,r⟩),λz=>(by cases z)⟩
  .rw[f9 e]at q;have e1:O.fc ((.key a b,u)::kvs) (.key i j)=O.fc kvs (.key i j):=by simp[O.fc,Ě,q]
   rw[e1,Xp e];exact ih
def RTs.has{K:Frag}{H:Hp}{i j:Int}:∀{kvs:List (O.Val×O.Val)}{ps:List (List Key×V)},RTs K H kvs ps->O.fe kvs (.key i j)=ps.any λkv=>gg (kv.1=[.inl i,.inl j])
 |_,_,.nil=>rfl
 |_,_,.cons (i:=a) (j:=b) r t=>by have ih:=RTs.has (i:=i) (j:=j) t;unfold O.fe at ih ⊢;rw[Ķ,Ķ,ih,M5 a b i j]
def RTs.app{K:Frag}{H:Hp}{v:O.Val}{i j:Int}{x:V}(q:RV K H v x):∀{kvs:List (O.Val×O.Val)}{ps:List (List Key×V)},RTs K H kvs ps->RTs K H (kvs++[(.key i j,v)]) (ps++[([.inl i,.inl j],x)])
 |_,_,.nil=>.cons q .nil
 |_,_,.cons r t=>.cons r<|RTs.app q t
def RTs.repl{K:Frag}{H:Hp}{v:O.Val}{i j:Int}{x:V}(q:RV K H v x):∀{kvs:List (O.Val×O.Val)}{ps:List (List Key×V)},RTs K H kvs ps->
  RTs K H (kvs.map λp=>if p.1 == .key i j then(.key i j,v)else p) (ps.map λkv=>if kv.1=[.inl i,.inl j]then(kv.1,x)else kv)
 |_,_,.nil=>.nil
 |_,_,.cons (i:=a) (j:=b) (v:=u) (x:=y) r t=>by
  have ih:=RTs.repl (i:=i) (j:=j) q t;have z:=M5 a b i j;rw[Ñ,Ñ];by_cases e:([.inl a,.inl b]:List Key)=[.inl i,.inl j]
  .rw[gb e]at z;simp only[z,if_true,e];exact .cons q ih
  .rw[f9 e]at z;simp only[z,e,if_false,ĩ];exact .cons r ih
def RTs.put{K:Frag}{H:Hp}{v:O.Val}{i j:Int}{x:V}(q:RV K H v x){kvs:List (O.Val×O.Val)}{ps:List (List Key×V)}(r:RTs K H kvs ps):RTs K H (O.ff kvs (.key i j) v)<|L2.ff ps [.inl i,.inl j] x:=by
 unfold O.ff L2.ff;rw[r.has];by_cases e:(ps.any λkv=>gg (kv.1=[.inl i,.inl j]))=eh
 .rw[fZ e,fZ e];exact r.repl q
 .rw[f8 e,f8 e];exact r.app q
def Gq{ps cC:List (List Key×V)}(g:RH i G H)(h:H a=d9 (.dT ps))(r:RTs i.K H kvs' cC):fb H (upd H a<|.dT cC)/\RH i (O.upd G a<|.dtp kvs') (upd H a<|.dT cC):=by
 have k:fb H<|upd H a<|.dT cC:=fb.put (λxs e=>by rw[h]at e;cases e) λp u e=>by rw[h]at e;cases e
 exact⟨k,g.put k ⟨cC,ez,r.keep k⟩⟩
def Jh{k:O.Val}{x:V}{K:Frag}{H:Hp}(h:O.isKeyT k=eh)(r:RV K H k x):∃a b c,k=.key a b/\x=.ref c/\H c=d9 (.tup<|([.inl a,.inl b]:List Key).map kV):=by
 cases k with
 |key a b=>cases r with|key e=>exact⟨a,b,_,rfl,rfl,e⟩
 |_=>cases h
abbrev B3:R2:=λx y H Q=>∃a v,x=.ref a/\DGet H a y (d9 v)/\Q v H
def Hj(hu:X.A.units+1<Ĭ):IxR X B3:=by
 intro ι slice Â s σ H x y v u Q I rx ry h hs;obtain⟨a,z,rfl,g,q⟩:=h;cases rx;have hT:=Oi I g;unfold cT;refine À ?_;rw[getitemInPython_of_ne hT.not_modules];refine À<|wpAny_specialOf hT PySem.F.slot_dict_getitem.lookup ?_;have fin:wpAny (ß X.prog X.w) X.A (subscripted slice ei (.ref a) u) (λr ay=>wpAny (ß X.prog X.w) X.A (letTemporaryGo ι (.ref a) r >>= λ_=>pure r) (EP X Â σ Q) X.xe ay) X.xe s:=by rw[hs];exact wpAny_operating<|K6 hu I g ry λw' s' I' aO=>À<|wpAny_letTemporaryGo<|Æ ⟨_,_,I',aO,q⟩
 first
  |exact Æ<|À fin
  |exact À<|Æ<|À fin
  |exact À fin
abbrev G8(b:Bool):R2:=λx y H Q=>∃a o,y=.ref a/\DGet H a x o/\Q (.bl<|b ^^ o.isSome) H
def LU(hu:X.A.units+1<Ĭ):OpR X (ì .In)<|G8 ei:=by intro Â s σ H x y v u Q I rx ry h;obtain⟨a,o,rfl,g,q⟩:=h;cases ry;rw[aR]at q;exact Sz hu I g rx λs' I'=>⟨.bl o.isSome,_,I',rfl,q⟩
def PK(hu:X.A.units+1<Ĭ):OpR X (ì .NotIn)<|G8 eh:=by intro Â s σ H x y v u Q I rx ry h;obtain⟨a,o,rfl,g,q⟩:=h;cases ry;rw[Bool.true_xor]at q;exact FZ hu I g rx λs' I'=>⟨.bl (!o.isSome),_,I',rfl,q⟩
abbrev HC:V->V->V->Hp->(Hp->Prop)->Prop:=λo y v H Q=>∃a H',o=.ref a/\DPut H a y v H'/\Q H'
def On(hu:X.A.units+1<Ĭ):PSet X HC:=by intro Â s σ H o y v ov iv u Q I ro ri rv h;obtain⟨a,H',rfl,g,q⟩:=h;cases ro;exact A6 hu I g ri rv λs' I'=>⟨H',I',q⟩
def PSet.or{r r':V->V->V->Hp->(Hp->Prop)->Prop}(h:PSet X r)(h':PSet X r'):PSet X λo y v H Q=>r o y v H Q\/r' o y v H Q:=by
 intro Â s σ H o y v ov iv u Q I ro ri rv q;rcases q with q|q
 .exact h Â s σ H o y v ov iv u Q I ro ri rv q
 .exact h' Â s σ H o y v ov iv u Q I ro ri rv q
end Snd
namespace Snd
open PySem L2
variable {i:Inf}{X:Cx}{Φ:O.Fs}
def Mp(n:Nat)(k:Int):O.ixN n k=L2.ixN n k:=rfl
variable {H:Hp} {xs:List O.Val} {vs:List V}
def WX{K:Frag}{k:Int}{v:O.Val}(r:RVs K H xs vs)(e:O.atI xs k=d9 v):∃x,L2.atI vs k=d9 x/\RV K H v x:=by
 unfold O.atI at e;unfold L2.atI;rw[Mp,r.length]at e;cases z:L2.ixN vs.length k with
 |none=>rw[z]at e;cases e
 |some j =>rw[z]at e;obtain⟨x,h1,h2⟩:=r.get (show xs[j]?=d9 v from e);exact⟨x,h1,h2⟩
abbrev QJ(i:Inf)(r:R2):Prop:=∀(v u:O.Val) (G:O.Hs) (H:Hp) (x y:V) (w:O.Val) (Q:VK),RH i G H->RV i.K H v x->RV i.K H u y->O.fw G v u=d9 w->(∀z,RV i.K H w z->Q z H)->r x y H Q
variable {a:Expr} {ma:O.E} {ë:Pos}
def Qr{b:Expr}{mb:O.E}{r:R2}(hr:IxR X r)(ho:QJ i r)(ha:PE X a<|tE X i Φ ma)(hb:PE X b<|tE X i Φ mb)(hs:MQ b):PE X (.Subscript a b ë) (tE X i Φ<|.idx ma mb) :=
 (Qu hr ha hb hs).imp λσ H Q ⟨env,G,Qm,Em,p,w,c⟩=>by
  exact two p w λv u G2 H2 x y k2 p2 rx ry q=>by obtain⟨z,e,q⟩:=eF q;exact ho v u G2 H2 x y z Q p2.hp rx ry e λt rt=>c z G2 H2 t k2 p2.hp rt q
def GS{s:String}{k:Int}{c:Char}(e:O.atI s.toList k=d9 c):L2.atI (gh s).cps.toList k=d9 c.toNat:=by
 rw[Str.ofString_eq_toList];show L2.atI (List.map ŝ s.toList).toArray.toList k=_;unfold O.atI at e;unfold L2.atI;simp only[Á];rw[Mp]at e;cases z:L2.ixN s.toList.length k with
 |none=>rw[z]at e;cases e
 |some j =>rw[z]at e;have e:s.toList[j]?=d9 c:=e;show(List.map ŝ s.toList)[j]?=_;rw[Ö,e];rfl
def Uh(c:Char):gh (ϵ c)=⟨#[c.toNat]⟩:=by rw[Str.ofString_eq_toList];simp
abbrev SJ(K:Frag):R2:=λx y H Q=>rIx K x y H Q\/B3 x y H Q
def P8:QJ i<|SJ i.K:=by
 intro v u G H x y w Q g rx ry e q;cases v with
 |tup xs =>
  cases u with
  |int k =>
   cases rx with
   |tup hp hr =>obtain⟨z,h1,h2⟩:=WX hr (show O.atI xs k=d9 w from e);exact .inl<|.inr<|.inl ⟨_,_,k,z,rfl,ry.int_inv,Zm hp,h1,q z h2⟩
  |_=>cases e
 |str s =>
  cases u with
  |int k =>
   simp only[O.fw]at e;split at e
   .rename_i hl;cases z:O.atI s.toList k with
    |none=>rw[z]at e;cases e
    |some c =>rw[z]at e;cases e;refine .inl (.inr<|.inr ⟨_,k,_,rx.str_inv,ry.int_inv,by rw[Zw];exact á hl ZP,GS z,?_⟩);have:=q _<|.str<|ϵ c;rw[Uh]at this;exact this
   .cases e
  |_=>cases e
 |ref a =>
  cases rx.ref_inv
  replace e:(match G a with|some (.lst xs)=>(O.fU u).bind (O.atI xs)|some (.dct kvs)=>if O.eY u then O.fc kvs u else ee|some (.frz kvs)=>if O.eY u then O.fc kvs u else ee|some (.dtp kvs)=>if O.isKeyT u then O.fc kvs u else ee|_=>ee)=d9 w:=e
  cases z:G a with
  |none=>rw[z]at e;cases e
  |some o =>
   rw[z]at e;cases o with
   |lst xs =>obtain⟨k,hk,e⟩:=ï.mp e;cases ZJ hk;obtain⟨vs,h1,h2⟩:=g a _ z;obtain⟨t,h3,h4⟩:=WX h2 e;exact .inl<|.inl ⟨a,vs,k,t,rfl,ry.int_inv,fP.of h1,h3,q t h4⟩
   |dct kvs =>obtain⟨hk,e⟩:=Zn (show(if O.eY u then O.fc kvs u else ee)=d9 w from e);obtain⟨ps,h1,h2⟩:=g a _ z;obtain⟨d,kr,rfl⟩:=eV hk ry;obtain⟨t,hx,rv⟩:=(h2.look kr).1 w e;exact .inr ⟨a,t,rfl,by rw[<-hx];exact DGet.k h1,q t rv⟩
   |frz kvs =>obtain⟨hk,e⟩:=Zn (show(if O.eY u then O.fc kvs u else ee)=d9 w from e);obtain⟨ob,ps,h1,h2⟩:=g a _ z;obtain⟨d,kr,rfl⟩:=eV hk ry;obtain⟨t,hx,rv⟩:=(h2.look kr).1 w e;exact .inr ⟨a,t,rfl,.inl ⟨ps,d,.inr ⟨ob,h1⟩,rfl,hx.symm⟩,q t rv⟩
   |dtp kvs =>obtain⟨hk,e⟩:=Zn (show(if O.isKeyT u then O.fc kvs u else ee)=d9 w from e);obtain⟨ps,h1,h2⟩:=g a _ z;obtain⟨k1,k2,b,rfl,rfl,hb⟩:=Jh hk ry;obtain⟨t,hx,rv⟩:=(h2.look).1 w e;exact .inr ⟨a,t,rfl,by rw[<-hx];exact DGet.t h1 hb,q t rv⟩
   |_=>cases e
 |scr ns =>
  cases u with
  |int k =>
   cases rx with
   |scr h =>obtain⟨t,h3,h4⟩:=WX (RVs.ints ns) (show O.atI (ns.map .int) k=d9 w from e);exact .inl<|.inl ⟨_,_,k,t,rfl,ry.int_inv,Yr h,h3,q t h4⟩
  |_=>cases e
 |_=>cases e
abbrev tOx(X:Cx)(i:Inf)(Φ:O.Fs)(m:O.Oe):TO:=λσ H Q=>∃env G Qm Em,Pre X i σ H env G Em/\O.wO Φ m env G Qm Em/\∀k G' H',fb H H'->RH i G' H'->Qm k G'->Q k H'
def _root_.L2.PO.imp{e:Option Expr}{t t':TO}(h:PO X e t)(f:∀σ H Q,t' σ H Q->t σ H Q):PO X e t':=λÂ s σ H Q I q=>h Â s σ H Q I (f σ H Q q)
def Ft:PO X ee<|tOx X i Φ .none:=po_none.imp λσ H Q ⟨env,G,Qm,Em,p,w,c⟩=>by exact c ee G H (fb.refl H) p.hp w
def E1{e:Expr}{m:O.E}(he:PE X e<|tE X i Φ m):PO X (d9 e)<|tOx X i Φ<|.some m:=(Fa he).imp λσ H Q ⟨env,G,Qm,Em,p,w,c⟩=>by
 exact one p w λv G1 H1 x k1 p1 r q=>by obtain⟨b,e,q2⟩:=eF q;cases ZJ e;exact⟨b,r.int_inv,c _ G1 H1 k1 p1.hp q2⟩
def OB{K:Frag}(r:RVs K H xs vs)(lo hi:Option Int):RVs K H (O.cut xs lo hi)<|MT vs lo hi:=by
 have e:∀(n d:Nat) (o:Option Int),O.fq n d o=HT.sIx n d o:=by
  intro n d o;cases o with
  |none=>rfl
  |some k =>
   show(if 0<=k then min k.toNat n else(k+n).toNat)=(if k<0 then(k+(n:Int)).toNat else min k.toNat n)
   by_cases h:k<0
   .rw[fZ h,f8<|by lia]
   .rw[f8 h,fZ<|by lia]
 unfold O.cut MT;rw[e,e,r.length];exact(r.drop _).take _
abbrev QX(i:Inf)(r:V->Option Int->Option Int->Hp->VK->Prop):Prop:=∀(v:O.Val) (lo hi:Option Int) (G:O.Hs) (H:Hp) (x:V) (Q:VK) (Qm:O.Q1),RH i G H->RV i.K H v x->(O.fx G v lo hi).wp G Qm->Cn i H Q Qm->r x lo hi H Q
def QW{lo hi:Option Expr}{ml mh:O.Oe}{r:V->Option Int->Option Int->Hp->VK->Prop}{p2:Pos}(hr:SlR X r)(ho:QX i r)(ha:PE X a<|tE X i Φ ma)(hl:PO X lo<|tOx X i Φ ml)(hh:PO X hi<|tOx X i Φ mh):PE X (.Subscript a (.Slice lo hi ee p2) ë) (tE X i Φ<|.slc ma ml mh) :=
 (CO hr ha hl hh).imp λσ H Q ⟨env,G,Qm,Em,p,w,c⟩=>by
  exact⟨env,G,_,Em,p,w,λv G1 H1 x k1 g1 r1 w1=>⟨env,G1,_,Em,p.go k1 g1,w1,λl G2 H2 k2 g2 w2=>⟨env,G2,_,Em,(p.go k1 g1).go k2 g2,w2,λu G3 H3 k3 g3 w3 =>
    ho v l u G3 H3 x Q Qm g3 ((r1.keep k2).keep k3) w3 (((c.go k1).go k2).go k3)⟩⟩⟩
abbrev Rr(K:Frag):V->Option Int->Option Int->Hp->VK->Prop:=λx lo hi H Q=>QG K x lo hi H Q\/P4 K x lo hi H Q\/Qe x lo hi H Q\/QL K x lo hi H Q
def SU:SlR X<|Rr X.K:=sl_list.or (fG.or<|sl_str.or Gu)
def Wa(n d:Nat)(o:Option Int):O.fq n d o=HT.sIx n d o:=by
 cases o with
 |none=>rfl
 |some k =>
  show(if 0<=k then min k.toNat n else(k+n).toNat)=(if k<0 then(k+(n:Int)).toNat else min k.toNat n)
  by_cases h:k<0
  .rw[fZ h,f8<|by lia]
  .rw[f8 h,fZ<|by lia]
def NV(n d:Nat)(h:d<=n)(o:Option Int):O.fq n d o<=n:=by
 cases o with
 |none=>exact h
 |some k =>show(if 0<=k then min k.toNat n else(k+n).toNat)<=n;split<;>lia
def clip_eq(n d:Nat)(h:d<=n)(o:Option Int):(match o with
    |none=>(d:Int)
    | some i=>max 0<|min (if i<0 then i+(n:Int)else i) (n:Int))=(O.fq n d o:Int):=by
 cases o with
 |none=>rfl
 |some k =>
  show _=(((if 0<=k then min k.toNat n else(k+n).toNat):Nat):Int)
  by_cases hk:k<0
  .rw[f8<|show ¬ 0<=k by lia];simp only[hk,if_true];lia
  .rw[fZ<|show 0<=k by lia];simp only[hk,if_false];lia
def Pv(n:Nat)(lo hi:Option Int):PySem.Builtin.Str.strSliceIndices lo hi 1 n=(List.range<|O.fq n n hi - O.fq n 0 lo).map λk=>O.fq n 0 lo+k:=by
 have e1:=clip_eq n 0 (ĕ _) lo;have e2:=clip_eq n n (Ì _) hi;have e3:PySem.Builtin.Str.strSliceIndices lo hi 1 n=sliceRange (O.fq n 0 lo:Int) (O.fq n n hi:Int) 1:=by unfold PySem.Builtin.Str.strSliceIndices;rw[<-e1,<-e2];cases lo<;>cases hi<;>rfl
 rw[e3];unfold sliceRange;have e4:(if(1:Int) > 0 then(if(O.fq n 0 lo:Int)<(O.fq n n hi:Int)then((O.fq n n hi:Int) - (O.fq n 0 lo:Int)+1 - 1) / 1 else 0)else(if(O.fq n 0 lo:Int) > (O.fq n n hi:Int)then((O.fq n 0 lo:Int) - (O.fq n n hi:Int) - 1 - 1) / (-1)else 0)).toNat=O.fq n n hi - O.fq n 0 lo:=by rw[fZ (by decide),Int.ediv_one];split<;>lia
 show(List.range<|Int.toNat<|if(1:Int) > 0 then _ else _).map _=_;rw[e4];refine ċ λk _=>?_;lia
def E8(s:String)(lo hi:Option Int):Bv (gh s) lo hi=gh (Η<|O.cut s.toList lo hi):=by
 have hl:(gh s).length=s.toList.length:=by rw[Zw,bQ]
 have ha:=NV s.toList.length 0 (ĕ _) lo;have hb:=NV s.toList.length s.toList.length (Ì _) hi;have e:=Pv s.toList.length lo hi;rw[<-hl]at e;unfold Bv;rw[e];simp only[hl];have ec:(gh s).cps.toList=s.toList.map ŝ:=by rw[Str.ofString_eq_toList]
 split
 .rename_i z;rw[Á,ř]at z;have e0:O.fq s.toList.length 0 lo=0\/s.toList.length=0:=by lia
  have e5:O.cut s.toList lo hi=s.toList:=by
   unfold O.cut;rw[z];rcases e0 with e0|e0
   .rw[e0,List.drop_zero,ý]
   .have:s.toList=[]:=Υ.mp e0;rw[this];simp
  rw[e5,String.ofList_toList]
 .rw[Str.ofString_eq_toList<|Η _,bR];congr 2;have e3:(λi:Nat=>(gh s).cps[i]?)=λi:Nat=>(s.toList.map ŝ)[i]?:=by
   funext i;rw[<-ec];simp
  rw[e3];by_cases hab:O.fq s.toList.length 0 lo<=O.fq s.toList.length s.toList.length hi
  .rw[PySem.StrLaws.picks _ _ _<|by rw[Á];lia];unfold O.cut;rw[List.map_take,List.map_drop]
  .have:O.fq s.toList.length s.toList.length hi - O.fq s.toList.length 0 lo=0:=by lia
   unfold O.cut;rw[this];simp
def Rz:QX i<|Rr i.K:=by
 intro v lo hi G H x Q Qm g r w c;cases v with
 |tup xs =>
  simp only[O.fx]at w;split at w
  .rename_i hn;rw[O.Rs.wp_val]at w;cases r with
   |@tup _ a vs hp hr=>exact .inr (.inr<|.inr ⟨a,vs,rfl,Zm hp,by rw[<-Wa,<-Wa,<-hr.length];exact hn,c _ G H _ (fb.refl H) g (.tup hp hr) w⟩)
  .rename_i hn;rw[O.Rs.wp_val]at w;cases r with
   |@tup _ a vs hp hr =>refine .inr (.inl ⟨a,vs,rfl,Zm hp,by rw[<-Wa,<-Wa,<-hr.length];exact hn,λp hp'=>?_⟩);have k:=fb.new (o:=.tup<|MT vs lo hi) hp';refine c _ G _ _ k (g.hid k λb o e=>ej ?_) (.tup (.inl ez)<|OB (hr.keep k) lo hi) w;rintro rfl;rw[g.free hp']at e;cases e
 |ref a =>
  cases r.ref_inv;simp only[O.fx]at w;cases z:O.eS (G a)with
  |none=>rw[z]at w;simp at w
  |some xs =>rw[z]at w;rw[O.Rs.wp_new]at w;obtain⟨vs,h1,h2⟩:=ZS g z;exact .inl ⟨a,vs,rfl,h1,ZZ g w c λp hp=>⟨_,ez,OB (h2.keep<|fb.new hp) lo hi⟩⟩
 |scr ns =>
  simp only[O.fx,O.Rs.wp_new]at w;cases r with
  |scr h=>exact .inl ⟨_,_,rfl,Yr h,ZZ g w c λp hp=>⟨_,ez,OB (RVs.ints ns) lo hi⟩⟩
 |str s =>
  cases r.str_inv;simp only[O.fx]at w;split at w
  .rename_i hl;rw[O.Rs.wp_val]at w;refine .inr (.inr <| .inl ⟨_,rfl,by rw[Zw];exact á hl (by decide),?_⟩);rw[E8];exact c _ G H _ (fb.refl H) g (.str _) w
  .simp at w
 |_=>simp[O.fx]at w
variable {H:Hp} {vs:List O.Val} {xs:List V} {x:V}
def RVs.app1{K:Frag}{v:O.Val}(r:RVs K H vs xs)(q:RV K H v x):RVs K H (vs++[v])<|xs++[x]:=r.append (.cons q .nil)
variable {es:List Expr} {ms:O.Es} {n:Nat} {ë:Pos}
def Ro{k:Nat}(hn:n<=1000)(h:PA X es<|tAr X i Φ ms n):PE X (.Tuple es k ë) (tE X i Φ<|.tup ms) :=
 (Pl h).imp λσ H Q ⟨env,G,Qm,Em,p,w,c⟩=>by refine⟨env,G,_,Em,p,w,λvs G1 H1 xs k1 g1 r1 hl w1=>⟨by rw[hl];exact á hn (by decide),λa ha=>?_⟩⟩;have k:=fb.new (o:=.tup xs) ha;refine c _ G1 _ _ (k1.trans k) (g1.hid k λb o e=>ej ?_) (.tup (.inl ez)<|r1.keep k) w1;rintro rfl;rw[g1.free ha]at e;cases e
def Qw(hn:n<=1000)(h:PA X es<|tAr X i Φ ms n):PE X (.List es ë) (tE X i Φ<|.lst ms) :=
 (Lh h).imp λσ H Q ⟨env,G,Qm,Em,p,w,c⟩=>by refine⟨env,G,_,Em,p,w,λvs G1 H1 xs k1 g1 r1 hl w1=>⟨by rw[hl];exact á hn (by decide),ZZ g1 w1 (c.go k1) λa ha=>?_⟩⟩;exact⟨xs,ez,r1.keep<|fb.new ha⟩
abbrev Jm(i:Inf)(f:O.Bi)(r:List V->Hp->VK->Prop):Prop:=∀(vs:List O.Val) (G:O.Hs) (H:Hp) (xs:List V) (Q:VK) (Qm:O.Q1),RH i G H->RVs i.K H vs xs->(O.biV G f vs).wp G Qm->Cn i H Q Qm->r xs H Q
def XJ{f:O.Bi}{r:List V->Hp->VK->Prop}(hr:Jm i f r):∀σ H Q,tE X i Φ (.bi f ms) σ H Q->tCB r (tAr X i Φ ms n) σ H Q:=λσ H Q ⟨env,G,Qm,Em,p,w,c⟩=>by exact⟨env,G,_,Em,p,w,λvs G1 H1 xs k1 g1 r1 _ w1=>hr vs G1 H1 xs Q Qm g1 r1 w1<|c.go k1⟩
def RVs.inv1{K:Frag}{v:O.Val}(r:RVs K H [v] xs):∃x,xs=[x]/\RV K H v x:=by cases r with|cons a t=>cases t;exact⟨_,rfl,a⟩
def RVs.inv2{K:Frag}{v u:O.Val}(r:RVs K H [v,u] xs):∃x y,xs=[x,y]/\RV K H v x/\RV K H u y:=by cases r with|cons a t=>cases t with|cons b t=>cases t;exact⟨_,_,rfl,a,b⟩
def Mc(s:String):(gh s).cps.toList=s.toList.map ŝ:=by rw[Str.ofString_eq_toList]
def An:∀(l:List Char) (a:Nat),(l.map ŝ).foldl (λĖ c=>Ė*10+(c - 48)) a=l.foldl (λa c=>10*a+(c.toNat - 48)) a
 |[],_=>rfl
 |c::l,a=>by rw[Ñ,İ,İ,An l,cb a 10]
def Ff{s:String}(h1:s.toList≠[])(h2:s.toList.all O.figB=eh)(h3:s.length<=640):PySem.intText? (gh s)=d9 ((O.decN s.toList:Nat):Int):=by
 have hc:=Mc s;rw[intText_digits (x:=gh s)]
 .rw[hc];unfold NumText.digitsVal O.decN;rw[An]
 .rw[hc];intro c hm;obtain⟨d,hd,rfl⟩:=Ð.mp hm;have:=ü.mp h2 d hd;unfold O.figB at this;simpa using this
 .rw[hc];simpa using h1
 .rw[Zw];lia
variable {h:O.Hs} {Q:O.Q1}
def Xh{f:O.Val->O.Rs}(w:(O.eU f vs).wp h Q):∃v,vs=[v]/\(f v).wp h Q:=by
 cases vs with
 |nil=>exact(Zi w).elim
 |cons v vs=>cases vs with
  |nil=>exact⟨v,rfl,w⟩
  |cons _ _=>exact(Zi w).elim
def CK{f:O.Val->O.Val->O.Rs}(w:(O.biOf2 f vs).wp h Q):∃v u,vs=[v,u]/\(f v u).wp h Q:=by
 cases vs with
 |nil=>exact(Zi w).elim
 |cons v vs=>cases vs with
  |nil=>exact(Zi w).elim
  |cons u us=>cases us with
   |nil=>exact⟨v,u,rfl,w⟩
   |cons _ _=>exact(Zi w).elim
def Ln:Jm i .int λxs H Q=>((∃i,xs=[.int i]/\Q (.int i) H)\/∃k,xs=[.bl k]/\Q (.int<|if k then 1 else 0) H)\/∃z n,xs=[.str z]/\PySem.intText? z=d9 n/\z.length<=640/\Q (.int n) H:=by
 intro vs G H xs Q Qm g r w c;obtain⟨v,rfl,w⟩:=Xh w;obtain⟨x,rfl,rx⟩:=r.inv1;cases v with
 |int k=>cases rx.int_inv;exact .inl<|.inl ⟨k,rfl,c _ G H _ (fb.refl H) g (.int _)<|Zo w⟩
 |bl k=>cases rx.bl_inv;exact .inl<|.inr ⟨k,rfl,c _ G H _ (fb.refl H) g (.int _)<|Zo w⟩
 |str s =>cases rx.str_inv;obtain⟨hl,w⟩:=Wr w;exact .inr ⟨_,_,rfl,Ff hl.2.1 hl.2.2 hl.1,by rw[Zw];exact hl.1,c _ G H _ (fb.refl H) g (.int _)<|Zo w⟩
 |_=>exact(Zi w).elim
def FV:Jm i .max2 λxs H Q=>∃i j,xs=[.int i,.int j]/\Q (.int<|if j > i then j else i) H:=by intro vs G H xs Q Qm g r w c;obtain⟨v,u,rfl,w⟩:=CK w;obtain⟨a,b,rfl,rfl,w⟩:=Xz w;obtain⟨x,y,rfl,rx,ry⟩:=r.inv2;cases rx.int_inv;cases ry.int_inv;exact⟨a,b,rfl,c _ G H _ (fb.refl H) g (.int _)<|Zo w⟩
def Hf:Jm i .min2 λxs H Q=>∃i j,xs=[.int i,.int j]/\Q (.int<|if j<i then j else i) H:=by intro vs G H xs Q Qm g r w c;obtain⟨v,u,rfl,w⟩:=CK w;obtain⟨a,b,rfl,rfl,w⟩:=Xz w;obtain⟨x,y,rfl,rx,ry⟩:=r.inv2;cases rx.int_inv;cases ry.int_inv;exact⟨a,b,rfl,c _ G H _ (fb.refl H) g (.int _)<|Zo w⟩
abbrev QK(o:Option O.Ob)(f:List O.Val->O.Rs):O.Rs:=match o with
 |some (.lst xs)=>f xs
 |_=>.no
variable {o:Option O.Ob}
def Od{f:List O.Val->O.Rs}(w:(QK o f).wp h Q):∃xs,o=d9 (.lst xs)/\(f xs).wp h Q:=by
 cases o with
 |none=>exact(Zi w).elim
 |some o=>cases o with
  |lst xs=>exact⟨xs,rfl,w⟩
  |_=>exact(Zi w).elim
variable {G:O.Hs}
def Hb{Q:VK}{Qm:O.Q1}{ys:List O.Val}{us:List V}(g:RH i G H)(r:RVs i.K H ys us)(w:Qm (.tup ys) G)(c:Cn i H Q Qm):∀l,H l=ee->Q (.ref l) (upd H l<|.tup us):=λl hl=>by have k:=fb.new (o:=.tup us) hl;refine c _ G _ _ k (g.hid k λb o e=>ej ?_) (.tup (.inl ez)<|r.keep k) w;rintro rfl;rw[g.free hl]at e;cases e
def DM:Jm i .tuple λxs H Q=>∃p ys,xs=[.ref p]/\((fP i.K H p ys/\∀l,H l=ee->Q (.ref l) (upd H l<|.tup ys))\/(fQ i.K H p ys/\Q (.ref p) H)):=by
 intro vs G H xs Q Qm g r w c;obtain⟨v,rfl,w⟩:=Xh w;obtain⟨x,rfl,rx⟩:=r.inv1;cases v with
 |ref a =>cases rx.ref_inv;obtain⟨ys,e,w⟩:=Od (f:=λxs=>.val<|.tup xs) w;obtain⟨us,h1,h2⟩:=g a _ e;exact⟨a,us,rfl,.inl ⟨fP.of h1,Hb g h2 (Zo w) c⟩⟩
 |tup ys =>
  cases rx with
  |tup hp hr=>exact⟨_,_,rfl,.inr ⟨Zm hp,c _ G H _ (fb.refl H) g (.tup hp hr)<|Zo w⟩⟩
 |_=>exact(Zi w).elim
abbrev kinds:List String:=["int","bool","str","list","tuple","dict"]
def EV(K:Frag):∀t∈["NoneType","bool","int","str","tuple","list","dict"],∀T∈kinds,PySem.W.kitOne K (.type t) (.type T)=d9 (t==T||(t == "bool" && T == "int")):=by intro t ht T hT;simp only[kinds,Ç,Ù,or_false]at ht hT;rcases ht with rfl|rfl|rfl|rfl|rfl|rfl|rfl<;>rcases hT with rfl|rfl|rfl|rfl|rfl|rfl<;>rfl
def AH(g:RH i G H){v:O.Val}{t:String}(r:RV i.K H v x)(e:O.fW G v=d9 t):TyV i.K H x (.type t)/\t∈["NoneType","bool","int","str","tuple","list","dict"]:=by
 cases v with
 |non=>cases r;cases e;exact⟨.of .non,by simp⟩
 |bl b=>cases r;cases e;exact⟨.of<|.bl b,by simp⟩
 |int b=>cases r;cases e;exact⟨.of<|.int b,by simp⟩
 |str b=>cases r;cases e;exact⟨.of<|.str _,by simp⟩
 |tup xs=>cases e;cases r with|tup hp hr=>exact⟨.tup<|Zm hp,by simp⟩
 |scr ns=>cases e;cases r with|scr h=>exact⟨.lst<|Yr h,by simp⟩
 |ref a =>
  cases r.ref_inv;simp only[O.fW]at e;cases q:G a with
  |none=>rw[q]at e;cases e
  |some o =>
   rw[q]at e;cases o with
   |lst xs=>cases e;obtain⟨vs,h1,_⟩:=g a _ q;exact⟨.lst<|fP.of h1,by simp⟩
   |dct kvs=>cases e;obtain⟨ps,h1,_⟩:=g a _ q;exact⟨.of<|.dK h1,by simp⟩
   |ins C fs=>cases e
   |exc C=>cases e
   |frz _=>cases e
   |dtp _=>cases e
 |key _ _=>cases e
def Q2{e:Expr}{m:O.E}{T:String}{p p2:Pos}(hT:T∈kinds)(he:PE X e<|tE X i Φ m)(hk:X.K=i.K)(hg:Gl X "isinstance")(hm:X.mg "isinstance" = ee)(hg2:Gl X<|gh T)(hm2:X.mg (gh T)=ee)
  (hv2:ť (gh T)=d9 (.type T)) (hn2:gh T≠"__name__") (bC:(gh T==("__debug__" : Str))=ei) (ŷ:Þ [e,.Name (gh T) p2] X.env=(ei,eval e X.env)::Þ [.Name (gh T) p2] X.env) :
  PE X (.Call (.Name "isinstance" p) [e,.Name (gh T) p2] [] ë) (tE X i Φ<|.bi (.isi [T])<|.cons m .nil):=by
 refine(Yn Ev hg hm (by kernel_rfl) (ZW he (ZW (QN (T:=T) hg2 hm2 hv2 hn2 bC) fN) ŷ) (he:=ŷ)).imp λσ H Q ⟨env,G,Qm,Em,p,w,c⟩=>?_;refine one p w λv G1 H1 x k1 p1 r q=>?_
 replace q:(O.Rs.ofO (((O.fX G1 v T).bind λb=>(O.isiAny G1 v []).map (b || ·)).map .bl)).wp G1 Qm:=q
 simp only[O.isiAny,O.fX]at q;cases z:O.fW G1 v with
 |none=>rw[z]at q;simp[O.Rs.ofO]at q
 |some t =>rw[z]at q;simp only[Ő,û,O.Rs.ofO,O.Rs.wp_val,ϣ]at q;obtain⟨h1,h2⟩:=AH p1.hp r z;refine⟨x,T,.type t,_,rfl,by rw[hk];exact h1,by rw[hk];exact EV _ t h2 T hT,c _ G1 H1 _ k1 p1.hp (.bl _) q⟩
def Ow(h:O.isLst o=eh):∃xs,o=d9 (.lst xs):=by
 cases o with
 |none=>cases h
 |some o=>cases o with
  |lst xs=>exact⟨xs,rfl⟩
  |_=>cases h
variable {a:Í}
def DB{f:O.Ad->List O.Val->Option (O.Val×O.Hs)}{t:O.Val×O.Hs}(e:O.bmL G (.ref a) f=d9 t):∃xs,G a=d9 (.lst xs)/\f a xs=d9 t:=by obtain⟨xs,h1,h2⟩:=ï.mp (show(O.eS<|G a).bind (f a)=d9 t from e);exact⟨xs,Bp h1,h2⟩
def Mm{xs:List O.Val}{vs:List V}(g:RH i G H)(h:H a=d9 (.lst vs))(ys:List O.Val)(us:List V)(r:RVs i.K H ys us):fb H (upd H a<|.lst us)/\RH i (O.upd G a<|.lst ys) (upd H a<|.lst us):=by
 have k:fb H<|upd H a<|.lst us:=fb.put (λxs e=>by rw[h]at e;cases e) λp u e=>by rw[h]at e;cases e
 exact⟨k,g.put k ⟨us,ez,r.keep k⟩⟩
abbrev spF(i:Inf)(P:O.Pg)(n:Nat)(f:String):Sp:=λvs H Q E=>∃args G Qm Em,RVs i.K H args vs/\RH i G H/\O.wF P n f args G Qm Em/\Cn i H Q Qm/\∀cls d H',XK1 i H Em cls d H'->E cls d H'
abbrev Dfo(pr:å)(w:ø)(mg:Str->Option Ã)(base:Ć)(i:Inf)(P:O.Pg)(n:Nat)(f:String):Prop :=
 ∃fa fd ps,fj pr w i.K mg base (CX1 pr w) (2*n) fa fd ps (spF i P n f)/\mg (gh f)=d9 (.ref fa)/\PySem.W.keepIn i.K (.ref fa)=eh/\Binds i.K fd ps []
variable {e:Expr} {es:List Expr} {ë:Pos}
def PY{P:O.Pg}{n k:Nat}{f:String}{ms:O.Es}{p:Pos}(hK:X.K=i.K)(D:Dfo X.prog X.w X.mg X.base i P n f)(hr:fi (2*n) X.A)(hg:Gl X<|gh f)(cx:(gh f==("__debug__" : Str))=ei)
  (ha:PA X (e::es)<|tAr X i (O.wF P n) ms k) (he:Þ (e::es) X.env=(ei,eval e X.env)::Þ es X.env) (hpl:(Ĥ ë<|Þ es X.env).any (·.1)=ei) :
  PE X (.Call (.Name (gh f) p) (e::es) [] ë) (tE X i (O.wF P n)<|.call f ms):=by
 obtain⟨fa,fd,ps,F,hm,hk,hb⟩:=D;rw[<-hK]at F hk hb;intro Â s σ H Q I h;obtain⟨env,G,Qm,Em,pr,w,c⟩:=h;refine Gk (E:=XK1 i H Em) F hr hg hm hk hb .nil (XW.passes pr.xo) ha cx he hpl Â s σ H Q I ⟨env,G,_,Em,pr,w,λvs G1 H1 xs k1 g1 r1 hl w1=>?_⟩;exact⟨vs,G1,Qm,Em,by rw[þ];exact r1,g1,w1,c.go k1,λcls d H' h=>h.go k1⟩
abbrev XKS(i:Inf)(H:Hp)(Xe:O.EQ):XK:=λcls _ H'=>∃e c G' ad,cls=.ref ad/\i.xc c ad/\fb H H'/\RH i G' H'/\Xe e c G'
structure PreS(X:Cx)(i:Inf)(σ:St)(H:Hp)(env:O.Env)(G:O.Hs)(Xe:O.EQ):Prop where
 en:REn i.K H env σ
 hp:RH i G H
 xo:XW X<|XKS i H Xe
variable {σ:St} {H:Hp} {H1:Hp} {G:O.Hs} {Xe:O.EQ}
def PreS.go{σ1:St}{env env1:O.Env}{G1:O.Hs}(p:PreS X i σ H env G Xe)(k:fb H H1)(r:RH i G1 H1)(e:REn i.K H1 env1 σ1):PreS X i σ1 H1 env1 G1 Xe :=
 ⟨e,r,λÂ σ H0 s H' a cls s' I f ⟨e,c,G',ad,q1,q2,q3,q4⟩=>p.xo Â σ H0 s H' a cls s' I f ⟨e,c,G',ad,q1,q2,k.trans q3,q4⟩⟩
def PreS.pre{env:O.Env}(p:PreS X i σ H env G Xe):Pre X i σ H env G (Xe env) :=
 ⟨p.en,p.hp,λÂ σ H0 s H' a cls s' I f ⟨c,G',ad,q1,q2,q3,q4⟩=>p.xo Â σ H0 s H' a cls s' I f ⟨env,c,G',ad,q1,q2,q3,q4⟩⟩
structure EOk(i:Inf)(H:Hp)(D:Ends)(N:O.NQ)(R:O.Q1)(B C:O.NQ):Prop where
 nx:∀Ł Ŗ G' H',fb H H'->RH i G' H'->REn i.K H' Ł Ŗ->N Ł G'->D.nx Ŗ H'
 rt:∀v G' H' x,fb H H'->RH i G' H'->RV i.K H' v x->R v G'->D.rt x H'
 bk:∀Ł Ŗ G' H',fb H H'->RH i G' H'->REn i.K H' Ł Ŗ->B Ł G'->D.bk Ŗ H'
 ct:∀Ł Ŗ G' H',fb H H'->RH i G' H'->REn i.K H' Ł Ŗ->C Ł G'->D.ct Ŗ H'
def EOk.go{D:Ends}{N:O.NQ}{R:O.Q1}{B C:O.NQ}(e:EOk i H D N R B C)(k:fb H H1):EOk i H1 D N R B C :=
 ⟨λa b c d k'=>e.nx a b c d<|k.trans k',λa b c d k'=>e.rt a b c d<|k.trans k',λa b c d k'=>e.bk a b c d<|k.trans k',λa b c d k'=>e.ct a b c d<|k.trans k'⟩
inductive tStx (X:Cx) (i:Inf) (Φ:O.Fs) (m:O.S) (D:Ends) (σ:St) (H:Hp):Prop
 |mk (env:O.Env) (G:O.Hs) (N:O.NQ) (R:O.Q1) (B C:O.NQ) (Xe:O.EQ) (p:PreS X i σ H env G Xe) (w:O.wS Φ m env G N R B C Xe) (e:EOk i H D N R B C)
abbrev tSt(X:Cx)(i:Inf)(Φ:O.Fs)(m:O.S):TS:=tStx X i Φ m
inductive tBlx (X:Cx) (i:Inf) (Φ:O.Fs) (m:O.Ss) (D:Ends) (σ:St) (H:Hp):Prop
 |mk (env:O.Env) (G:O.Hs) (N:O.NQ) (R:O.Q1) (B C:O.NQ) (Xe:O.EQ) (p:PreS X i σ H env G Xe) (w:O.wSs Φ m env G N R B C Xe) (e:EOk i H D N R B C)
abbrev tBl(X:Cx)(i:Inf)(Φ:O.Fs)(m:O.Ss):TS:=tBlx X i Φ m
variable {st:ļ} {t':TS}
def _root_.L2.PS.imp{t:TS}(h:PS X st t)(f:∀D σ H,t' D σ H->t D σ H):PS X st t':=λÂ s σ H D I q=>h Â s σ H D I (f D σ H q)
def _root_.L2.PSs.imp{st:List ļ}{t:TS}(h:PSs X st t)(f:∀D σ H,t' D σ H->t D σ H):PSs X st t':=λÂ s σ H D I q=>h Â s σ H D I (f D σ H q)
def LJ:PSs X []<|tBl X i Φ .nil:=pss_nil.imp λD σ H ⟨env,G,N,R,B,C,Xe,p,w,c⟩=>by exact c.nx env σ G H (fb.refl H) p.hp p.en w
def Fp{sts:List ļ}{m:O.S}{ms:O.Ss}(h1:PS X st<|tSt X i Φ m)(h2:PSs X sts<|tBl X i Φ ms):PSs X (st::sts) (tBl X i Φ<|.cons m ms) :=
 (Cr h1 h2).imp λD σ H ⟨env,G,N,R,B,C,Xe,p,w,c⟩=>by exact⟨env,G,_,R,B,C,Xe,p,w,⟨λŁ Ŗ G' H' k g e w'=>⟨Ł,G',N,R,B,C,Xe,p.go k g e,w',c.go k⟩,c.rt,c.bk,c.ct⟩⟩
variable {m:O.E}
def Iy(he:PE X e<|tE X i Φ m):PS X (.Return (d9 e) ë) (tSt X i Φ<|.ret m) :=
 (Ll he).imp λD σ H ⟨env,G,N,R,B,C,Xe,p,w,c⟩=>by exact⟨env,G,R,Xe env,p.pre,w,c.rt⟩
def E2:PS X (.Return ee ë) (tSt X i Φ .retN) :=
 ps_retN.imp λD σ H ⟨env,G,N,R,B,C,Xe,p,w,c⟩=>by exact c.rt _ G H _ (fb.refl H) p.hp .non w
def Fw(he:PE X e<|tE X i Φ m)(hs:Ŷ e ee ë.line X.env=pure ei):PS X (.Expr e ë) (tSt X i Φ<|.expr m) :=
 (FX he hs).imp λD σ H ⟨env,G,N,R,B,C,Xe,p,w,c⟩=>by exact⟨env,G,_,Xe env,p.pre,w,λv G1 H1 x k1 g1 r1 w1=>c.nx env σ G1 H1 k1 g1 (p.en.keep k1) w1⟩
def PQ{t:Expr}{a b:List ļ}{mt:O.Tt}{ma mb:O.Ss}(ht:PT X t<|tTt X i Φ mt)(ha:PSs X a<|tBl X i Φ ma)(hb:PSs X b<|tBl X i Φ mb):PS X (.If t a b ë) (tSt X i Φ<|.ite mt ma mb) :=
 (RD ht ha hb).imp λD σ H ⟨env,G,N,R,B,C,Xe,p,w,c⟩=>by
  refine⟨env,G,_,Xe env,p.pre,w,λd G1 H1 k1 g1 q=>?_⟩;cases d with
  |true=>exact⟨env,G1,N,R,B,C,Xe,p.go k1 g1<|p.en.keep k1,by simpa using q,c.go k1⟩
  |false=>exact⟨env,G1,N,R,B,C,Xe,p.go k1 g1<|p.en.keep k1,by simpa using q,c.go k1⟩
abbrev gPt(i:Inf)(p:O.Pt):TG:=λx σ H Q=>∃v env G Ŕ,RV i.K H v x/\RH i G H/\REn i.K H env σ/\O.bind p G v env=d9 Ŕ/\∀σ2,REn i.K H Ŕ σ2->Q σ2 H
variable {tg:Expr}
def _root_.L2.PG.imp{t t':TG}(h:PG X tg t)(f:∀v σ H Q,t' v σ H Q->t v σ H Q):PG X tg t':=λÂ s σ H v u Q I r q=>h Â s σ H v u Q I r (f v σ H Q q)
def _root_.L2.PGs.imp{tg:List Expr}{t t':TGs}(h:PGs X tg t)(f:∀v σ H Q,t' v σ H Q->t v σ H Q):PGs X tg t':=λÂ s σ H v u Q I r q=>h Â s σ H v u Q I r (f v σ H Q q)
variable {x:Str} {j:Nat}
def OZ(hN:X.N.Nodup)(hi:X.N[j]?=d9 x)(hx:Loc X.env.scope x)(hf:X.fn x=eh\/X.env.scope.names.lookup x=d9 .local):PG X (.Name x ë) (gPt i<|.one j) :=
 (Uw hN hi hx hf).imp λv σ H Q ⟨u,env,G,Ŕ,r,g,e,b,h⟩=>by cases b;exact h _<|e.set r j
abbrev Cv(i:Inf)(js:List Nat):TGs:=λxs σ H Q=>∃vs env Ŕ,RVs i.K H vs xs/\REn i.K H env σ/\O.bindL js vs env=d9 Ŕ/\∀σ2,REn i.K H Ŕ σ2->Q σ2 H
def E3:PGs X []<|Cv i []:=pgs_nil.imp λxs σ H Q ⟨vs,env,Ŕ,r,e,b,h⟩=>by
 cases vs with
 |nil=>cases r;cases b;exact⟨rfl,h _ e⟩
 |cons _ _=>cases b
variable {js:List Nat}
def Ey(hN:X.N.Nodup)(hi:X.N[j]?=d9 x)(hx:Loc X.env.scope x)(hf:X.fn x=eh\/X.env.scope.names.lookup x=d9 .local)(h2:PGs X es<|Cv i js)
  (hs:(Ğ (.Name x ë::es) X.env).map (·.2)=θ (.Name x ë) X.env::(Ğ es X.env).map (·.2)):PGs X (.Name x ë::es) (Cv i<|j::js) :=
 (JM (Uw hN hi hx hf) h2 hs).imp λxs σ H Q ⟨vs,env,Ŕ,r,e,b,h⟩=>by
  cases vs with
  |nil=>cases b
  |cons v vs =>
   cases r with
   |cons r t=>exact⟨_,_,rfl,vs,env.set j<|d9 v,Ŕ,t,e.set r j,b,h⟩
def KJ:∀{js:List Nat}{vs:List O.Val}{env Ŕ:O.Env},O.bindL js vs env=d9 Ŕ->vs.length=js.length
 |[],[],_,_,_=>rfl
 |j::js,v::vs,env,_,h=>by rw[Ë,Ë,KJ<|show O.bindL js vs (env.set j<|d9 v)=_ from h]
 |[],_::_,_,_,h=>by cases h
 |_::_,[],_,_,h=>by cases h
def Ur{k:Nat}(hK:X.K=i.K)(hc:X.calm=eh)(h:PGs X es<|Cv i js)(hn:(Ğ es X.env).length=js.length)(ŷ:(Ğ es X.env).findIdx? (·.1)=ee):PG X (.Tuple es k ë) (gPt i<|.many js) :=
 (Eh (n:=js.length) hc h hn ŷ).imp λv σ H Q ⟨u,env,G,Ŕ,r,g,e,b,h⟩=>by
  cases u with
  |tup vs =>
   have b:O.bindL js vs env=d9 Ŕ:=b;cases r with
   |tup hp hr=>exact⟨_,_,rfl,by rw[hK];exact Zm hp,by rw[<-hr.length];exact KJ b,vs,env,Ŕ,hr,e,b,h⟩
  |_=>cases b
def FH{k k2:Nat}{p1 p2:Pos}(hK:X.K=i.K)(hc:X.calm=eh)(h1:PG X (.Name x p1)<|gPt i<|.one j)(h2:PG X (.Tuple es k2 p2)<|gPt i<|.many js):PG X (.Tuple [.Name x p1,.Tuple es k2 p2] k ë) (gPt i<|.nest j js) :=
 (Eh (n:=2) hc (JM h1 (JM h2 pgs_nil rfl) rfl) rfl rfl).imp λv σ H Q ⟨u,env,G,Ŕ,r,g,e,b,h⟩=>by
  cases u with
  |tup vs =>
   cases vs with
   |nil=>cases b
   |cons x0 vs=>cases vs with
    |nil=>cases b
    |cons y vs=>cases vs with
     |cons _ _=>cases b
     |nil =>
      have b:(O.tupOf y).bind (λys=>O.bindL js ys<|env.set j<|d9 x0)=d9 Ŕ:=b;cases r with
      |tup hp hr =>
       cases hr with
       |cons r0 t=>cases t with
        |cons r1 t =>cases t;exact⟨_,_,rfl,by rw[hK];exact Zm hp,rfl,_,_,rfl,x0,env,G,_,r0,g,e,rfl,λσ2 e2=>⟨_,_,rfl,y,_,G,Ŕ,r1,g,e2,b,λbd e3=>⟨rfl,h bd e3⟩⟩⟩
  |_=>cases b
def Lo{q:O.Pt}(he:PE X e<|tE X i Φ m)(hg:PG X tg<|gPt i q)(hs:ώ [tg] e ë.line X.env=pure ei)(hw:Ϗ [tg] e X.env=pure ee)
  (h1:(Ğ [tg] X.env).map (·.2)=[θ tg X.env]):PS X (.Assign [tg] e ë) (tSt X i Φ<|.set q m) :=
 (D7 he hg hs hw h1).imp λD σ H ⟨env,G,N,R,B,C,Xe,p,w,c⟩=>by refine⟨env,G,_,Xe env,p.pre,w,λv G1 H1 x k1 g1 r1 w1=>?_⟩;obtain⟨Ŕ,e2,w1⟩:=eF w1;exact⟨v,env,G1,Ŕ,r1,g1,p.en.keep k1,e2,λσ2 h2=>c.nx Ŕ σ2 G1 H1 k1 g1 h2 w1⟩
abbrev Ec:V->V->V->Hp->(Hp->Prop)->Prop:=λo y v H Q=>H9 o y v H Q\/HC o y v H Q
def DQ{G G3:O.Hs}{H:Hp}{o k v:O.Val}{y z x:V}{Q:Hp->Prop}(g:RH i G H)(ry:RV i.K H o y)(rz:RV i.K H k z)(rx:RV i.K H v x)(e:O.fy G o k v=d9 G3)(c:∀H3,fb H H3->RH i G3 H3->Q H3):Ec y z x H Q:=by
 cases o with
 |ref b =>
  cases ry.ref_inv
  replace e:(match G b with|some (.lst xs)=>(O.fU k).bind λn=>(O.ixN xs.length n).map λj=>O.upd G b (.lst<|xs.set j v)|some (.dct kvs)=>if O.eY k/\kvs.length<O.lim then d9 (O.upd G b<|.dct<|O.ff kvs k v)else ee|some (.dtp kvs)=>if O.isKeyT k/\kvs.length<O.lim then d9 (O.upd G b<|.dtp<|O.ff kvs k v)else ee|_=>ee)=d9 G3:=e
  cases z4:G b with
  |none=>rw[z4]at e;cases e
  |some o =>
   rw[z4]at e;cases o with
   |lst xs =>obtain⟨n,hn,e⟩:=ï.mp e;obtain⟨jj,hj,rfl⟩:=È.mp e;cases ZJ hn;cases rz.int_inv;obtain⟨vs,h2,r2⟩:=g b _ z4;rw[Mp,r2.length]at hj;obtain⟨k3,g3⟩:=Mm (xs:=xs) g h2 (xs.set jj v) (vs.set jj x)<|r2.set rx jj;exact .inl ⟨b,vs,n,jj,rfl,rfl,h2,hj,c _ k3 g3⟩
   |dct kvs =>obtain⟨hk,e⟩:=Zn (show(if O.eY k/\kvs.length<O.lim then d9 (O.upd G b<|.dct<|O.ff kvs k v)else ee)=d9 G3 from e);cases e;obtain⟨ps,h2,r2⟩:=g b _ z4;obtain⟨d,kr,rfl⟩:=eV hk.1 rz;obtain⟨k3,g3⟩:=Je (kvs:=kvs) g h2<|r2.put kr rx;exact .inr ⟨b,_,rfl,DPut.k h2 (by rw[<-RKs.length r2];exact ã hk.2 ZP),c _ k3 g3⟩
   |dtp kvs =>obtain⟨hk,e⟩:=Zn (show(if O.isKeyT k/\kvs.length<O.lim then d9 (O.upd G b<|.dtp<|O.ff kvs k v)else ee)=d9 G3 from e);cases e;obtain⟨ps,h2,r2⟩:=g b _ z4;obtain⟨a1,a2,d,rfl,rfl,hd⟩:=Jh hk.1 rz;obtain⟨k3,g3⟩:=Gq g h2<|r2.put (i:=a1) (j:=a2) rx;exact .inr ⟨b,_,rfl,DPut.t h2 hd (by rw[<-RTs.length r2];exact ã hk.2 ZP),c _ k3 g3⟩
   |_=>cases e
 |_=>cases e
def Ax{a j:Expr}{ma mj:O.E}{ϖ:Pos}(hK:X.K=i.K)(he:PE X e<|tE X i Φ m)(ha:PE X a<|tE X i Φ ma)(hj:PE X j<|tE X i Φ mj)(hgl:PG X (.Subscript a j ϖ)<|R3 (tE X i Φ ma) (tE X i Φ mj) Ec)(hs:ώ [.Subscript a j ϖ] e ë.line X.env=pure ei)(hw:Ϗ [.Subscript a j ϖ] e X.env=pure ee)
  (h1:(Ğ [.Subscript a j ϖ] X.env).map (·.2)=[θ (.Subscript a j ϖ) X.env]):PS X (.Assign [.Subscript a j ϖ] e ë) (tSt X i Φ<|.setIdx ma mj m) :=
 (D7 he hgl hs hw h1).imp λD σ H ⟨env,G,N,R,B,C,Xe,p,w,c⟩=>by refine⟨env,G,_,Xe env,p.pre,w,λv G1 H1 x k1 g1 r1 w1=>?_⟩;refine two (p.go k1 g1<|p.en.keep k1).pre w1 λo k G2 H2 y z k2 p2 ry rz q=>?_;obtain⟨G3,e3,q⟩:=eF q;exact DQ p2.hp ry rz (r1.keep k2) e3 λH3 k3 g3=>c.nx env σ _ _ ((k1.trans k2).trans k3) g3 (p2.en.keep k3) q
structure ItOk(i:Inf)(H0:Hp)(J:It)(st:O.Hs->Prop)(xs:List O.Val):Prop where
 go:∀n G H v,fb H0 H->RH i G H->st G->xs[n]?=d9 v->J.go n H/\∀x H',J.yld n H x H'->fb H H'/\RH i G H'/\RV i.K H' v x
 stop:∀n G H,fb H0 H->RH i G H->st G->xs.length<=n->J.stop n H
abbrev tIt(X:Cx)(i:Inf)(Φ:O.Fs)(m:O.It):TI:=λσ H R=>∃env G QI Em,Pre X i σ H env G Em/\O.wI Φ m env G QI Em/\∀st xs G' H' J,fb H H'->RH i G' H'->ItOk i H' J st xs->QI st xs G'->R J H'
variable {tg:Expr} {e:Expr}
def _root_.L2.PI.imp{t t':TI}(h:PI X tg e t)(f:∀σ H Q,t' σ H Q->t σ H Q):PI X tg e t':=λÂ s σ H Q I q=>h Â s σ H Q I (f σ H Q q)
abbrev SH(K:Frag)(tl:TE):TI:=λσ H R=>tl σ H λx H1=>∃a,x=.ref a/\(((∃xs,fP K H1 a xs)/\R (Itl K a) H1)\/((∃xs,fQ K H1 a xs)/\R (Itt K a) H1))
def Lj{l:Expr}{tl:TE}(hl:PE X l tl):PI X tg l<|SH X.K tl:=by
 intro Â s σ H R I h;refine thn (hl Â s σ H _ I h) λv s1 ⟨x,H1,I1,r1,q1⟩=>?_;obtain⟨a,e,q1⟩:=q1;subst e;cases r1;rcases q1 with⟨⟨xs,hq⟩,q⟩|⟨⟨xs,hq⟩,q⟩
 .obtain⟨ô,rv,p,hz⟩:=I1.list hq;refine ż p.isList ?_;refine⟨s1.heap.objs.size,[s1.heap.objs.size],_,_,H1,rfl,I1.kept (t':=s1.toks) λb o e=>Ä _ e,Bu a _,⟨_,Õ _ rfl,rfl,rfl⟩,λb hb=>?_,q⟩;have e:b=s1.heap.objs.size:=by simpa using hb
  subst e;exact I1.fpOk (Ì _)<|I1.hok.fresh<|Ì _
 .obtain⟨ô,rv,p,hz⟩:=I1.tuple hq;refine am (show s1.heap.IsTuple a ô.toArray from p) ?_;refine⟨s1.heap.objs.size,[s1.heap.objs.size],_,_,H1,rfl,I1.kept (t':=s1.toks) λb o e=>Ä _ e,O7 a _,⟨_,Õ _ rfl,rfl,rfl⟩,λb hb=>?_,q⟩;have e:b=s1.heap.objs.size:=by simpa using hb
  subst e;exact I1.fpOk (Ì _)<|I1.hok.fresh<|Ì _
variable {H0:Hp} {a:Í} {xs:List O.Val}
def it_lst:ItOk i H0 (Itl i.K a) (λg=>O.eS (g a)=d9 xs) xs where
 go:=λn G H v _ g e hv=>by obtain⟨vs,h1,h2⟩:=ZS g e;obtain⟨x,h3,h4⟩:=h2.get hv;refine⟨⟨vs,x,h1,h3⟩,λy H' ⟨e1,e2⟩=>?_⟩;subst e1;have:=e2 vs h1;rw[h3]at this;cases this;exact⟨fb.refl _,g,h4⟩
 stop:=λn G H _ g e hn=>by obtain⟨vs,h1,h2⟩:=ZS g e;exact⟨vs,h1,by rw[<-h2.length];exact hn⟩
def it_tup{vs:List V}(hp:H0 a=d9 (.tup vs)\/KT i.K a vs)(hr:RVs i.K H0 xs vs):ItOk i H0 (Itt i.K a) (λ_=>True) xs where
 go:=λn G H v k g e hv=>by have hp':H a=d9 (.tup vs)\/KT i.K a vs:=hp.imp (k.t _ _) id;obtain⟨x,h3,h4⟩:=(hr.keep k).get hv;refine⟨⟨vs,x,Zm hp',h3⟩,λy H' ⟨e1,e2⟩=>?_⟩;subst e1;have:=e2 vs<|Zm hp';rw[h3]at this;cases this;exact⟨fb.refl _,g,h4⟩
 stop:=λn G H k g e hn=>by have hp':H a=d9 (.tup vs)\/KT i.K a vs:=hp.imp (k.t _ _) id;exact⟨vs,Zm hp',by rw[<-hr.length];exact hn⟩
def it_scr{ns:List Int}(h:(∃o,H0 a=d9 (.frz o<|.lst<|ns.map V.int))\/KL i.K a (ns.map V.int)):ItOk i H0 (Itl i.K a) (λ_=>True) (ns.map .int) where
 go:=λn G H v k g e hv=>by have h':fP i.K H a<|ns.map V.int:=Yr<|h.imp (λ⟨o,e⟩=>⟨o,k.f _ _ _ e⟩) id;obtain⟨x,h3,h4⟩:=(RVs.ints (K:=i.K) (H:=H) ns).get hv;refine⟨⟨_,x,h',h3⟩,λy H' ⟨e1,e2⟩=>?_⟩;subst e1;have:=e2 _ h';rw[h3]at this;cases this;exact⟨fb.refl _,g,h4⟩
 stop:=λn G H k g e hn=>⟨_,Yr<|h.imp (λ⟨o,e⟩=>⟨o,k.f _ _ _ e⟩) id,by simpa using hn⟩
def DO{lo hi:Int}{n:Nat}(hn:n=(hi - lo).toNat):ItOk i H0 (Itr lo n) (λ_=>True) (O.fk lo hi) where
 go:=λk G H v _ g _ hv=>by
  unfold O.fk at hv;rw[Ö]at hv;have hk:k<(hi - lo).toNat:=by
   by_cases h:k<(hi - lo).toNat
   .exact h
   .rw[ĺ<|by simpa using h]at hv;cases hv
  rw[List.getElem?_range hk]at hv;cases hv;refine⟨by rw[hn];exact hk,λx H' ⟨e1,e2⟩=>?_⟩;subst e1 e2;exact⟨fb.refl _,g,.int _⟩
 stop:=λk G H _ g _ hk=>by unfold O.fk at hk;show n<=k;simp at hk;lia
variable {m:O.E}
def LN(hK:X.K=i.K)(he:PE X e<|tE X i Φ m):PI X tg e (tIt X i Φ<|.seq m) :=
 (Lj he).imp λσ H R ⟨env,G,QI,Em,p,w,c⟩=>by
  refine one p w λv G1 H1 x k1 p1 r q=>?_;obtain⟨⟨st,xs⟩,e1,q2⟩:=eF q;clear q;rw[hK];cases v with
  |tup ys =>
   cases e1;cases r with
   |tup hp hr=>exact⟨_,rfl,.inr ⟨⟨_,Zm hp⟩,c _ _ G1 H1 _ k1 p1.hp (it_tup hp hr) q2⟩⟩
  |scr ns =>
   cases e1;cases r with
   |scr h=>exact⟨_,rfl,.inl ⟨⟨_,Yr h⟩,c _ _ G1 H1 _ k1 p1.hp (it_scr h) q2⟩⟩
  |ref a =>
   cases r.ref_inv;simp only[O.itV]at e1;cases z:O.eS (G1 a)with
   |none=>rw[z]at e1;cases e1
   |some ys =>rw[z]at e1;cases e1;obtain⟨vs,h1,h2⟩:=ZS p1.hp z;exact⟨a,rfl,.inl ⟨⟨vs,h1⟩,c _ _ G1 H1 _ k1 p1.hp it_lst q2⟩⟩
  |_=>cases e1
variable {p:Pos} {ë:Pos}
def DK{a:Expr}(hg:Gl X "range")(hm:X.mg "range" = ee)(ha:PE X a<|tE X i Φ m)(hs:Þ [a] X.env=[(ei,eval a X.env)]):PI X tg (.Call (.Name "range" p) [a] [] ë) (tIt X i Φ<|.range m) :=
 (Bs hg hm (ZW ha fN<|by rw[hs];rfl) hs).imp λσ H R ⟨env,G,QI,Em,p,w,c⟩=>by refine one p w λv G1 H1 x k1 p1 r q=>?_;obtain⟨n,e1,q2⟩:=eF q;clear q;cases ZJ e1;cases r.int_inv;exact⟨n,rfl,q2.1.1,q2.1.2,c _ _ G1 H1 _ k1 p1.hp (DO<|by rw[Int.sub_zero]) q2.2⟩
def Bj{a b:Expr}{ma mb:O.E}(hg:Gl X "range")(hm:X.mg "range" = ee)(ha:PE X a<|tE X i Φ ma)(hb:PE X b<|tE X i Φ mb)(hs:Þ [a,b] X.env=[(ei,eval a X.env),(ei,eval b X.env)])(hs1:Þ [b] X.env=[(ei,eval b X.env)]) :
  PI X tg (.Call (.Name "range" p) [a,b] [] ë) (tIt X i Φ<|.range2 ma mb) :=
 (AI hg hm (ZW ha (ZW hb fN<|by rw[hs1];rfl)<|by rw[hs,hs1]) hs hs1).imp λσ H R ⟨env,G,QI,Em,p,w,c⟩=>by refine two p w λv u G1 H1 x y k1 p1 rx ry q=>?_;obtain⟨n,e1,q1⟩:=eF q;obtain⟨m,e2,q2⟩:=eF q1;clear q q1;cases ZJ e1;cases ZJ e2;cases rx.int_inv;cases ry.int_inv;exact⟨n,m,rfl,q2.1,c _ _ G1 H1 _ k1 p1.hp (DO rfl) q2.2⟩
variable {body:List ļ} {mb:O.Ss}
def Pu{Ŭ:Expr}{q:O.Pt}{mi:O.It}(hp:Λ (ß X.prog X.w) X.A X.env X.xe)(hc:X.calm=eh)(hi:PI X tg Ŭ<|tIt X i Φ mi)(hg:PG X tg<|gPt i q)(hb:PSs X body<|tBl X i Φ mb)
  (hs:∀x,ę Ŭ X.env x=pure x):PS X (.For tg Ŭ body [] ë) (tSt X i Φ<|.for q mi mb) :=
 (Dw hp hc hi hg hb hs).imp λD σ H ⟨env,G,N,R,B,C,Xe,p,w,c⟩=>by
  refine⟨env,G,_,Xe env,p.pre,w,λst xs G1 H1 J k1 g1 it w1=>?_⟩;refine⟨λn m Ŗ H'=>n+m=xs.length/\∃Ł G',fb H1 H'/\RH i G' H'/\REn i.K H' Ł Ŗ/\O.wFor st (λv e g K M=>O.go (O.bind q g v e) λe2=>O.wSs Φ mb e2 g K R M K Xe) N (xs.drop n) Ł G',⟨xs.length,by lia,env,G1,fb.refl _,g1,p.en.keep k1,by simpa using w1⟩,?_⟩;rintro n m Ŗ H' ⟨hnm,Ł,G',k2,g2,e2,w2⟩;by_cases hn:n<xs.length
  .right;have hd:xs.drop n=xs[n]::xs.drop (n+1):=Ţ hn;rw[hd]at w2;obtain⟨s2,w2⟩:=w2;have hv:xs[n]?=d9 xs[n]:=Ê hn;obtain⟨a1,a2⟩:=it.go n G' H' xs[n] k2 g2 s2 hv;refine⟨a1,λbd H3=>∃env3 G3,fb H1 H3/\RH i G3 H3/\REn i.K H3 env3 bd/\O.wFor st (λv e g K M=>O.go (O.bind q g v e) λe2=>O.wSs Φ mb e2 g K R M K Xe) N (xs.drop<|n+1) env3 G3,λbd H3 h=>⟨m - 1,by lia,by lia,h⟩,λx H3 hy=>?_⟩;obtain⟨k3,g3,r3⟩:=a2 x H3 hy;obtain⟨cD,e4,w4⟩:=eF w2;refine⟨xs[n],Ł,G',cD,r3,g3,e2.keep k3,e4,λσ4 h4=>?_⟩;have kk:fb H H3:=(k1.trans k2).trans k3;refine⟨cD,G',_,R,N,_,Xe,p.go kk g3 h4,w4,⟨λaQ σ5 G5 H5 k5 g5 e5 w5=>?_,(c.go kk).rt,(c.go kk).nx,λaQ σ5 G5 H5 k5 g5 e5 w5=>?_⟩⟩
   .exact⟨aQ,G5,(k2.trans k3).trans k5,g5,e5,w5⟩
   .exact⟨aQ,G5,(k2.trans k3).trans k5,g5,e5,w5⟩
  .left;have hd:xs.drop n=[]:=ĳ (by lia);rw[hd]at w2;exact⟨it.stop n G' H' k2 g2 w2.1 (by lia),c.nx Ł Ŗ G' H' (k1.trans k2) g2 e2 w2.2⟩
def IE{t:Expr}{mt:O.Tt}(hp:Λ (ß X.prog X.w) X.A X.env X.xe)(ht:PT X t<|tTt X i Φ mt)(hb:PSs X body<|tBl X i Φ mb):PS X (.While t body [] ë) (tSt X i Φ<|.whl mt mb) :=
 (Dc hp ht hb).imp λD σ H ⟨env,G,N,R,B,C,Xe,p,w,c⟩=>by
  obtain⟨n,w⟩:=w;refine⟨λm Ŗ H'=>∃Ł G',fb H H'/\RH i G' H'/\REn i.K H' Ł Ŗ/\O.wWhile (λe g K=>O.wT Φ mt e g K<|Xe e) (λe g K M=>O.wSs Φ mb e g K R M K Xe) N m Ł G',⟨n,env,G,fb.refl H,p.hp,p.en,w⟩,?_⟩;rintro m Ŗ H' ⟨Ł,G',k1,g1,e1,w1⟩;cases m with
  |zero=>cases w1
  |succ m =>
   have w1:O.wT Φ mt Ł G' _<|Xe Ł:=w1;have p1:=p.go k1 g1 e1;refine⟨Ł,G',_,Xe Ł,p1.pre,w1,λd G2 H2 k2 g2 q=>?_⟩;cases d with
   |true =>refine⟨λbd H3=>∃env3 G3,fb H H3/\RH i G3 H3/\REn i.K H3 env3 bd/\O.wWhile (λe g K=>O.wT Φ mt e g K<|Xe e) (λe g K M=>O.wSs Φ mb e g K R M K Xe) N m env3 G3,λbd H3 h=>⟨m,Ĝ _,h⟩,?_⟩;have kk:=k1.trans k2;refine⟨Ł,G2,_,R,N,_,Xe,p.go kk g2<|e1.keep k2,by simpa using q,⟨λaQ σ5 G5 H5 k5 g5 e5 w5=>⟨aQ,G5,kk.trans k5,g5,e5,w5⟩,(c.go kk).rt,(c.go kk).nx,λaQ σ5 G5 H5 k5 g5 e5 w5=>⟨aQ,G5,kk.trans k5,g5,e5,w5⟩⟩⟩
   |false=>exact c.nx Ł Ŗ G2 H2 (k1.trans k2) g2 (e1.keep k2) (by simpa using q)
def Lq:Jm i .len λxs H Q=>((∃p ys,xs=[.ref p]/\(fP i.K H p ys\/fQ i.K H p ys)/\Q (.int ys.length) H)\/∃z,xs=[.str z]/\z.length<=Ý/\Q (.int z.length) H)\/∃a kvs,xs=[V.ref a]/\H a=d9 (.dK kvs)/\Q (.int kvs.length) H:=by
 intro vs G H xs Q Qm g r w c;obtain⟨v,rfl,w⟩:=Xh w;obtain⟨x,rfl,rx⟩:=r.inv1;cases v with
 |ref a =>
  cases rx.ref_inv
  replace w:(match G a with|some (.lst xs)=>.val (.int xs.length)|some (.dct kvs)=>.val (.int kvs.length)|_=>.no:O.Rs).wp G Qm:=w
  cases z:G a with
  |none=>rw[z]at w;exact(Zi w).elim
  |some o =>
   rw[z]at w;cases o with
   |lst ys =>obtain⟨us,h1,h2⟩:=g a _ z;refine .inl<|.inl ⟨a,us,rfl,.inl<|fP.of h1,?_⟩;rw[<-h2.length];exact c _ G H _ (fb.refl H) g (.int _)<|Zo w
   |dct kvs =>obtain⟨ps,h1,h2⟩:=g a _ z;refine .inr ⟨a,ps,rfl,h1,?_⟩;rw[<-h2.length];exact c _ G H _ (fb.refl H) g (.int _)<|Zo w
   |_=>exact(Zi w).elim
 |tup ys =>
  cases rx with
  |tup hp hr =>refine .inl<|.inl ⟨_,_,rfl,.inr<|Zm hp,?_⟩;rw[<-hr.length];exact c _ G H _ (fb.refl H) g (.int _)<|Zo w
 |scr ns =>
  cases rx with
  |scr h =>refine .inl<|.inl ⟨_,_,rfl,.inl<|Yr h,?_⟩;rw[Á];exact c _ G H _ (fb.refl H) g (.int _)<|Zo w
 |str s =>cases rx.str_inv;obtain⟨hl,w⟩:=Wr w;refine .inl (.inr ⟨_,rfl,by rw[Zw];exact á hl ZP,?_⟩);rw[Zw];exact c _ G H _ (fb.refl H) g (.int _)<|Zo w
 |_=>exact(Zi w).elim
def F3:Jm i .list λxs H Q=>∃p ys,xs=[.ref p]/\(fP i.K H p ys\/fQ i.K H p ys)/\∀l,H l=ee->Q (.ref l) (upd H l<|.lst ys):=by
 intro vs G H xs Q Qm g r w c;obtain⟨v,rfl,w⟩:=Xh w;obtain⟨x,rfl,rx⟩:=r.inv1;cases v with
 |ref a =>cases rx.ref_inv;obtain⟨ys,e,w⟩:=Od (f:=λxs=>.new<|.lst xs) w;obtain⟨us,h1,h2⟩:=g a _ e;exact⟨a,us,rfl,.inl<|fP.of h1,ZZ g (XM w) c λp hp=>⟨_,ez,h2.keep<|fb.new hp⟩⟩
 |tup ys =>
  cases rx with
  |tup hp hr=>exact⟨_,_,rfl,.inr<|Zm hp,ZZ g (XM w) c λp hp=>⟨_,ez,hr.keep<|fb.new hp⟩⟩
 |_=>exact(Zi w).elim
variable {H:Hp}
def AW{K:Frag}:∀{xs:List O.Val}{bs:List Bool}{vs:List V},O.blsOf xs=d9 bs->RVs K H xs vs->vs=bs.map V.bl:=by
 intro xs;induction xs with
 |nil=>intro bs vs e r;cases e;cases r;rfl
 |cons v xs ih =>
  intro bs vs e r;cases v<;>first|(cases e;done)|skip
  case bl b =>
  simp only[O.blsOf]at e;cases z:O.blsOf xs with
  |none=>rw[z]at e;cases e
  |some ns=>rw[z]at e;cases e;cases r with|cons a t=>cases a.bl_inv;rw[ih z t];rfl
def IM{o:Option O.Val}{h:O.Hs}{Q:O.Q1}(w:(O.Rs.ofO o).wp h Q):∃v,o=d9 v/\Q v h:=by
 cases o with
 |none=>exact(Zi w).elim
 |some v=>exact⟨v,rfl,Zo w⟩
def Pq:Jm i .all λxs H Q=>∃p,∃bs:List Bool,xs=[.ref p]/\fP i.K H p (bs.map V.bl)/\Q (.bl<|bs.all id) H:=by
 intro vs G H xs Q Qm g r w c;obtain⟨v,rfl,w⟩:=Xh w;obtain⟨x,rfl,rx⟩:=r.inv1;cases v with
 |ref a =>cases rx.ref_inv;obtain⟨v,e,w⟩:=IM w;obtain⟨ys,z,e⟩:=ï.mp e;obtain⟨bs,z2,rfl⟩:=È.mp e;obtain⟨us,h1,h2⟩:=ZS g z;have:=AW z2 h2;subst this;exact⟨a,bs,rfl,h1,c _ G H _ (fb.refl H) g (.bl _) w⟩
 |_=>exact(Zi w).elim
set_option exponentiation.threshold 2000 in
def IG{k:Int}(h:k.natAbs<10 ^ 200):k.natAbs.log2<1920:=by
 have e:(10:Nat) ^ 200<2 ^ 1920:=by decide
 by_cases h0:k.natAbs=0
 .rw[h0];decide
 .exact(Nat.log2_lt h0).mpr<|Œ h e
def Ck(ds:List O.D)(d:O.D):(toDs ds).any (λe=>Ĩ e<|toD d)=ds.any λe=>O.D.eqv e d:=by
 induction ds with
 |nil=>rfl
 |cons e es ih=>simp only[toDs,Ķ,ih,MH]
variable {G:O.Hs} {y:V} {ys:List O.Val}
def U0(g:RH i G H){v u:O.Val}{x:V}{c:Bool}(rx:RV i.K H v x)(e:O.inL G v ys=d9 c)(hy:∀ds,ys.mapM (O.dat G<|O.deep - 1)=d9 ds->IsD i.K H y (.tuple<|toDs ds)\/IsD i.K H y (.list<|toDs ds)) :
  ∃ds d,(IsD i.K H y (.tuple ds)\/IsD i.K H y (.list ds))/\IsD i.K H x d/\œ ds=eh/\d.canLay0=eh/\d.depth<=64/\ds.any (λe=>Ĩ e d)=c:=by
 unfold O.inL at e;cases z:O.dat G O.deep v with
 |none=>rw[z]at e;cases e
 |some d =>
  rw[z]at e;simp only[û]at e;cases z2:ys.mapM (O.dat G<|O.deep - 1)with
  |none=>rw[z2]at e;cases e
  |some ds =>rw[z2]at e;cases e;exact⟨_,_,hy ds z2,Wg g _ _ _ _ z rx,toDs_lay ds,Nh d,á (K7 _ _ _ z) (by decide),Ck ds d⟩
def Ut(g:RH i G H){u:O.Val}(ry:RV i.K H u y)(hu:u=.tup ys\/∃a,u=.ref a/\O.eS (G a)=d9 ys):∀ds,ys.mapM (O.dat G<|O.deep - 1)=d9 ds->IsD i.K H y (.tuple<|toDs ds)\/IsD i.K H y (.list<|toDs ds):=by
 intro ds hd;rcases hu with rfl|⟨a,rfl,hl⟩
 .left;have:=Wg g O.deep (.tup ys) (.tup ds) y (by show Option.map _ (List.mapM (O.dat G<|O.deep - 1) ys)=_;rw[hd];rfl) ry;simpa[toD]using this
 .right;have:=Wg g O.deep (.ref a) (.lst ds) y (by show(O.eS<|G a).bind _=_;rw[hl];show Option.map _ (List.mapM (O.dat G<|O.deep - 1) ys)=_;rw[hd];rfl) ry;simpa[toD]using this
def Iq(s t:String)(c:Char)(h:O.oneC s=d9 c):(!(Builtin.Str.occurrences (gh t) (gh s) 0 (gh t).length 1).isEmpty)=gg (c∈t.toList):=by
 have e:gh s=⟨#[c.toNat]⟩:=by
  unfold O.oneC at h;split at h
  .rename_i d hd;cases h;rw[Str.ofString_eq_toList,hd];rfl
  .cases h
 rw[e,StrLaws.found_one,Mc];have inj:∀{a b:Char},a.toNat=b.toNat->a=b:=λ{a b} e=>Char.ext<|bw e;by_cases hc:c∈t.toList
 .rw[gb hc,gc];exact ó hc
 .rw[f9 hc,decide_eq_false_iff_not];intro m;obtain⟨d,hd,he⟩:=Ð.mp m;exact hc<|inj he▸hd
abbrev Qz(K:Frag):R2:=λx y H Q=>G8 ei x y H Q\/GQ K ei x y H Q\/∃i j,x=.str i/\y=.str j/\Q (.bl (!(Builtin.Str.occurrences j i 0 j.length 1).isEmpty)) H
abbrev RI(K:Frag):R2:=λx y H Q=>G8 eh x y H Q\/GQ K eh x y H Q\/∃i j,x=.str i/\y=.str j/\Q (.bl (!(!(Builtin.Str.occurrences j i 0 j.length 1).isEmpty))) H
def Si(hu:X.A.units+65<Ĭ):OpR X (ì .In)<|Qz X.K:=(LU<|by lia).or ((L9 hu).or A7)
def Sg(hu:X.A.units+65<Ĭ):OpR X (ì .NotIn)<|RI X.K:=(PK<|by lia).or ((BM hu).or Mo)
def HU{v u:O.Val}{G:O.Hs}{H:Hp}{x y:V}{b:Bool}(g:RH i G H)(rx:RV i.K H v x)(ry:RV i.K H u y)(e:O.inV G v u=d9 b) :
  (∃ds d,(IsD i.K H y (.tuple ds)\/IsD i.K H y (.list ds))/\IsD i.K H x d/\œ ds=eh/\d.canLay0=eh/\d.depth<=64/\ds.any (λe=>Ĩ e d)=b)\/
  (∃j k,x=.str j/\y=.str k/\(!(Builtin.Str.occurrences k j 0 k.length 1).isEmpty)=b)\/∃a o,y=.ref a/\DGet H a x o/\o.isSome=b:=by
 cases u with
 |tup ys=>exact .inl<|U0 (u:=.tup ys) g rx e<|Ut g ry<|.inl rfl
 |ref a =>
  replace e:(match G a with|some (.lst xs)=>O.inL G v xs|some (.dct kvs)=>if O.eY v then d9 (O.fe kvs v)else ee|some (.frz kvs)=>if O.eY v then d9 (O.fe kvs v)else ee|some (.dtp kvs)=>if O.isKeyT v then d9 (O.fe kvs v)else ee|_=>ee)=d9 b:=e
  cases z:G a with
  |none=>rw[z]at e;cases e
  |some o =>
   rw[z]at e;cases o with
   |lst ys=>exact .inl (U0 (u:=.ref a) g rx e<|Ut g ry<|.inr ⟨a,rfl,by rw[z];rfl⟩)
   |dct kvs =>obtain⟨hk,e⟩:=Zn (show(if O.eY v then d9 (O.fe kvs v)else ee)=d9 b from e);cases e;obtain⟨ps,h1,h2⟩:=g a _ z;obtain⟨d,kr,rfl⟩:=eV hk rx;exact .inr (.inr ⟨a,_,ry.ref_inv,DGet.k h1,by rw[h2.has kr,Xf]⟩)
   |frz kvs =>obtain⟨hk,e⟩:=Zn (show(if O.eY v then d9 (O.fe kvs v)else ee)=d9 b from e);cases e;obtain⟨ob,ps,h1,h2⟩:=g a _ z;obtain⟨d,kr,rfl⟩:=eV hk rx;exact .inr (.inr ⟨a,_,ry.ref_inv,.inl ⟨ps,d,.inr ⟨ob,h1⟩,rfl,rfl⟩,by rw[h2.has kr,Xf]⟩)
   |dtp kvs =>obtain⟨hk,e⟩:=Zn (show(if O.isKeyT v then d9 (O.fe kvs v)else ee)=d9 b from e);cases e;obtain⟨ps,h1,h2⟩:=g a _ z;obtain⟨k1,k2,d,rfl,rfl,hd⟩:=Jh hk rx;exact .inr (.inr ⟨a,_,ry.ref_inv,DGet.t h1 hd,by rw[h2.has,Xf]⟩)
   |_=>cases e
 |str t =>
  cases v with
  |str s =>obtain⟨c,z,rfl⟩:=È.mp e;exact .inr<|.inl ⟨_,_,rx.str_inv,ry.str_inv,Iq s t c z⟩
  |_=>cases e
 |_=>cases e
def Ha{o:Option Bool}{b:Bool}(e:o.map (!·)=d9 b):o=d9 (!b):=by obtain⟨c,z,rfl⟩:=È.mp e;rw[z,Ϸ]
def SA:Z7 i .isin<|Qz i.K:=by
 intro v u G H x y c Q g rx ry e q;rcases HU g rx ry e with⟨ds,d,h1,h2,h3,h4,h5,h6⟩|⟨j,k,h1,h2,h3⟩|⟨a,o,h1,h2,h3⟩
 .exact .inr (.inl ⟨ds,d,h1,h2,h3,h4,h5,by show Q (.bl<|List.any _ _) H;rw[h6];exact q⟩)
 .exact .inr (.inr ⟨j,k,h1,h2,by rw[h3];exact q⟩)
 .exact .inl ⟨a,o,h1,h2,by rw[h3,aR];exact q⟩
def Sr:Z7 i .notin<|RI i.K:=by
 intro v u G H x y c Q g rx ry e q;rcases HU g rx ry (Ha e)with⟨ds,d,h1,h2,h3,h4,h5,h6⟩|⟨j,k,h1,h2,h3⟩|⟨a,o,h1,h2,h3⟩
 .exact .inr (.inl ⟨ds,d,h1,h2,h3,h4,h5,by show Q (.bl (!List.any _ _)) H;rw[h6,Ϸ];exact q⟩)
 .exact .inr (.inr ⟨j,k,h1,h2,by rw[h3,Ϸ];exact q⟩)
 .exact .inl ⟨a,o,h1,h2,by rw[h3,Bool.true_xor,Ϸ];exact q⟩
variable {a:Expr} {b:Expr} {d:Expr} {ma:O.E} {mb:O.E} {op:b7} {cY:b7} {cop:O.Cop} {cop':O.Cop} {r:R2} {r':R2} {ë:Pos}
def Fm{md:O.E}(ho:OpR X (ì op) r)(hr:Z7 i cop r)(ah:OpR X (ì cY) r')(hr':Z7 i cop' r')(ha:PE X a<|tE X i Φ ma)(hb:PE X b<|tE X i Φ mb)(hd:PE X d<|tE X i Φ md)(hm:aX [op,cY] [b,d]=ei) :
  PE X (.Compare a [op,cY] [b,d] ë) (tE X i Φ<|.chain cop cop' ma mb md) :=
 (C4 ho ah ha hb hd hm).imp λσ H Q ⟨env,G,Qm,Em,p,w,k⟩=>by
  exact two p w λv u G2 H2 x y k2 p2 rx ry q=>by
   obtain⟨c,e,q⟩:=eF q;refine hr v u G2 H2 x y c _ p2.hp rx ry e ⟨c,rfl,?_⟩;cases c with
   |true =>
    rw[fZ rfl]at q ⊢;exact one p2 q λt G3 H3 z k3 p3 rz q=>by obtain⟨d2,e2,q⟩:=eF q;exact hr' u t G3 H3 y z d2 Q p3.hp (ry.keep k3) rz e2<|k (.bl d2) G3 H3 (.bl d2) (k2.trans k3) p3.hp (.bl d2) q
   |false =>rw[f8 ù]at q ⊢;exact k _ G2 H2 _ k2 p2.hp (.bl _) q
def DZ{md:O.E}(ho:OpR X (ì op) r)(hr:Z7 i cop r)(ah:OpR X (ì cY) r')(hr':Z7 i cop' r')(ha:PE X a<|tE X i Φ ma)(hb:PE X b<|tE X i Φ mb)(hd:PE X d<|tE X i Φ md)(hm:aX [op,cY] [b,d]=ei) :
  PT X (.Compare a [op,cY] [b,d] ë) (tTt X i Φ<|.val<|.chain cop cop' ma mb md) :=
 (D1 ho ah ha hb hd hm).imp λσ H Q ⟨env,G,Qm,Em,p,w,k⟩=>by
  exact two p w λv u G2 H2 x y k2 p2 rx ry q=>by
   obtain⟨c,e,q⟩:=eF q;refine hr v u G2 H2 x y c _ p2.hp rx ry e ⟨c,rfl,?_⟩;cases c with
   |true =>
    rw[fZ rfl]at q ⊢;exact one p2 q λt G3 H3 z k3 p3 rz q=>by obtain⟨d2,e2,q⟩:=eF q;obtain⟨d3,e3,q⟩:=eF q;cases e3;exact hr' u t G3 H3 y z d2 _ p3.hp (ry.keep k3) rz e2 ⟨d2,rfl,k d2 G3 H3 (k2.trans k3) p3.hp q⟩
   |false =>rw[f8 ù]at q ⊢;obtain⟨d3,e3,q⟩:=eF q;cases e3;exact⟨ei,rfl,k _ G2 H2 k2 p2.hp q⟩
def Ei{st:ļ}:PS X st<|tSt X i Φ .never:=λÂ s σ H D I ⟨env,G,N,R,B,C,Xe,p,w,c⟩=>by exact w.elim
end Snd
namespace L2
open PySem PySem.Spec PyProof.Rows
def QF{x:V}{xs:List V}{ô:List Ã}(hl:(x::xs).length=ô.length):(ô.toArray.size != (#[]:Array Ã).size)=eh:=by
 cases ô with
 |nil=>cases hl
 |cons y ys=>simp
section
variable {X:Cx}
abbrev Rf(K:Frag)(n:Bool):R2:=λx y H Q=>∃a b xs,x=.ref a/\y=.ref b/\fP K H a xs/\fP K H b []/\Q (.bl<|n ^^ xs.isEmpty) H
def Cd(hu:X.A.units+64<Ĭ):OpR X (ì .Eq)<|Rf X.K ei:=by
 intro Â s σ H x y v u Q I rx ry h;obtain⟨a,b,xs,rfl,rfl,ha,hb,q⟩:=h;cases rx;cases ry;obtain⟨ô,rv,pl,_⟩:=I.list ha;obtain⟨aN,rv2,pl2,_⟩:=I.list hb;cases rv2;have hl:=rv.length;cases xs with
 |nil =>have:ô=[]:=Υ.mp hl.symm;subst this;exact SeqAt.RcAt.lists (A:=X.A) (e:=λ_=>eh) pl.isList pl2.isList rfl (by lia) (λj j1 _=>by simp at j1) X.prog X.w X.xe _ ⟨.bl eh,H,I,rfl,q⟩
 |cons x xs =>exact SeqAt.RcAt.lists_lengths (A:=X.A) pl.isList pl2.isList (QF hl) (by lia) X.prog X.w X.xe _ ⟨.bl ei,H,I,rfl,q⟩
end
end L2
namespace Snd
open PySem L2
variable {i:Inf}{G:O.Hs}{H:Hp}
variable {x:V} {xs:List O.Val}
def KS(g:RH i G H){v:O.Val}(r:RV i.K H v x)(e:O.asLst G v=d9 xs):∃a vs,x=.ref a/\fP i.K H a vs/\RVs i.K H xs vs:=by
 cases v with
 |ref a =>cases r;obtain⟨vs,h1,h2⟩:=ZS g e;exact⟨a,vs,rfl,h1,h2⟩
 |_=>cases e
def Cj(g:RH i G H){v u:O.Val}{y:V}(rx:RV i.K H v x)(ry:RV i.K H u y){c:Bool}{f:List O.Val->List O.Val->Option Bool}(e:((O.asLst G v).bind λxs=>(O.asLst G u).bind λys=>f xs ys)=d9 c):∃xs ys a b vs us,f xs ys=d9 c/\x=.ref a/\y=.ref b/\fP i.K H a vs/\fP i.K H b us/\RVs i.K H xs vs/\RVs i.K H ys us:=by
 cases z:O.asLst G v with
 |none=>rw[z]at e;cases e
 |some xs =>
  cases z2:O.asLst G u with
  |none=>rw[z,z2]at e;cases e
  |some ys =>rw[z,z2]at e;obtain⟨a,vs,h1,h2,h3⟩:=KS g rx z;obtain⟨b,us,k1,k2,k3⟩:=KS g ry z2;exact⟨xs,ys,a,b,vs,us,e,h1,k1,h2,k2,h3,k3⟩
def E4{vs:List V}(h:RVs i.K H xs vs):vs.isEmpty=xs.isEmpty:=by cases h<;>rfl
def c_eqE:Z7 i .eqE<|Rf i.K ei:=by
 intro v u G H x y c Q g rx ry e q;obtain⟨xs,ys,a,b,vs,us,e,h1,h2,h3,h4,h5,h6⟩:=Cj g rx ry e;split at e
 .rename_i z;cases e;cases h6 with
  |nil=>exact⟨a,b,vs,h1,h2,h3,h4,by rw[E4 h5,aR];exact q⟩
  |cons _ _=>cases z
 .cases e
variable {i:Inf}{X:Cx}{Φ:O.Fs}
abbrev tPt(X:Cx)(i:Inf)(Φ:O.Fs)(m:O.E):TE:=λσ H Q=>∃env G Qm Em,Pre X i σ H env G Em/\O.wE Φ m env G Qm Em/\∀v G' H',fb H H'->RH i G' H'->Qm v G'->∃s,O.fmtV v=d9 s/\s.length<=O.lim/\Q (.str<|gh s) H'
abbrev tJs(X:Cx)(i:Inf)(Φ:O.Fs)(ms:O.Es):TJ:=λσ H Ė Q=>∃env G a Qm Em,Ė=gh a/\a.length<=O.lim/\Pre X i σ H env G Em/\O.wJ Φ ms env G a Qm Em/\∀s G' H',fb H H'->RH i G' H'->Qm s G'->Q (gh s) H'
def _root_.L2.PJ.imp{vs:List Expr}{t t':TJ}(h:PJ X vs t)(f:∀σ H Ė Q,t' σ H Ė Q->t σ H Ė Q):PJ X vs t':=λÂ s σ H Ė Q I q=>h Â s σ H Ė Q I (f σ H Ė Q q)
variable {e:Expr} {m:O.E} {ë:Pos}
def Lz(he:PE X e<|tE X i Φ m):PE X (.FormattedValue e (-1) ee ë) (tPt X i Φ m) :=
 (He he).imp λσ H Q ⟨env,G,Qm,Em,p,w,c⟩=>by
  refine⟨env,G,Qm,Em,p,w,λv G1 H1 x k1 g1 r1 w1=>?_⟩;obtain⟨s,e1,hl,q⟩:=c v G1 H1 k1 g1 w1;cases v with
  |str t=>cases e1;cases r1.str_inv;exact .inr ⟨_,rfl,by rw[Zw];exact á hl ZP,q⟩
  |int n =>
   cases r1.int_inv;simp only[O.fmtV]at e1;split at e1
   .rename_i hn;cases e1;exact .inl ⟨n,rfl,IG hn,q⟩
   .cases e1
  |_=>cases e1
def PB{s:String}{j:Nat}:PE X (.Constant (.str<|gh s) j ë) (tPt X i Φ<|.cst<|.str s) :=
 pe_str.imp λσ H Q ⟨env,G,Qm,Em,p,w,c⟩=>by obtain⟨t,e1,hl,q⟩:=c _ G H (fb.refl H) p.hp w;cases e1;exact q
def Ly:PJ X []<|tJs X i Φ .nil:=pj_nil.imp λσ H Ė Q ⟨env,G,a,Qm,Em,e,hl,p,w,c⟩=>by subst e;exact⟨by rw[Zw];exact á hl ZP,c a G H (fb.refl H) p.hp w⟩
def UG{es:List Expr}{ms:O.Es}(he:PE X e<|tPt X i Φ m)(hr:PJ X es<|tJs X i Φ ms)(hs:ce (e::es) X.env=eval e X.env::ce es X.env):PJ X (e::es) (tJs X i Φ<|.cons m ms) :=
 (Gw he hr hs).imp λσ H Ė Q ⟨env,G,a,Qm,Em,e,hl,p,w,c⟩=>by subst e;refine⟨env,G,_,Em,p,w,λv G1 H1 k1 g1 w1=>?_⟩;obtain⟨s,e1,hl1,w2⟩:=eF w1;clear w1;refine⟨s,e1,by lia,_,rfl,?_,env,G1,a++s,Qm,Em,(MI a s).symm,by rw[bS];exact hl1,p.go k1 g1,w2,λt G2 H2 k2=>c t G2 H2<|k1.trans k2⟩;rw[<-MI,Zw,bS];exact á hl1 ZP
def W5{G:O.Hs}{H:Hp}{p:Í}{o:HO}(g:RH i G H)(hp:H p=ee):RH i G<|upd H p o:=g.hid (fb.new hp) λb u e=>ej (by rintro rfl;rw[g.free hp]at e;cases e)
abbrev tE0(i:Inf)(Φ:O.Fs)(m:O.E):TE:=λσ H Q=>∃env G Qm,REn i.K H env σ/\RH i G H/\O.wE Φ m env G Qm (λ_ _=>False)/\Cn i H Q Qm
abbrev tT0(i:Inf)(Φ:O.Fs)(m:O.Tt):TT:=λσ H Q=>∃env G Qm,REn i.K H env σ/\RH i G H/\O.wT Φ m env G Qm (λ_ _=>False)/\∀b G' H',fb H H'->RH i G' H'->Qm b G'->Q b H'
variable {H:Hp}
def Ag:XOk X i H λ_ _=>False:=λÂ σ H0 s H' a cls s' I f ⟨_,_,_,_,_,_,_,z⟩=>z.elim
variable {e:Expr}
def pe0{m:O.E}(h:PE X e<|tE X i Φ m):PE X e<|tE0 i Φ m:=h.imp λσ H Q ⟨env,G,Qm,r,g,w,c⟩=>⟨env,G,Qm,_,⟨r,g,Ag⟩,w,c⟩
def pt0{m:O.Tt}(h:PT X e<|tTt X i Φ m):PT X e<|tT0 i Φ m:=h.imp λσ H Q ⟨env,G,Qm,r,g,w,c⟩=>⟨env,G,Qm,_,⟨r,g,Ag⟩,w,c⟩
def _root_.L2.PIfs.imp{es:List Expr}{t t':TT}(h:PIfs X es t)(f:∀σ H Q,t' σ H Q->t σ H Q):PIfs X es t':=λÂ s σ H Q I q=>h Â s σ H Q I (f σ H Q q)
def Pn:PIfs X []<|tT0 i Φ .yes:=pifs_nil.imp λσ H Q ⟨env,G,Qm,r,g,w,c⟩=>by exact c eh G H (fb.refl H) g w
variable {ö:List Nat}
def Gh{K:Frag}{H':Hp}{env:O.Env}{σ:St}{k:Nat}(r:REn K H env σ)(kp:fb H H'):REn K H' (Û k ee++ö.map λj=>(env[j]?).getD ee)<|Û k ee++OP σ ö:=by
 refine⟨by simp[OP],λn u e=>?_⟩;by_cases hn:n<k
 .rw[ć (by rw[õ];exact hn),Ō,fZ hn]at e;cases e
 .rw[Ď (by rw[õ];lia),õ]at e ⊢;generalize n - k=n at e ⊢;simp only[Ö]at e;cases z:ö[n]? with
  |none=>rw[z]at e;cases e
  |some j =>
   rw[z]at e;simp only[Ő,ī]at e;cases z2:env[j]? with
   |none=>rw[z2]at e;cases e
   |some o =>rw[z2]at e;have e:o=d9 u:=e;subst e;obtain⟨y,h1,h2⟩:=r.get j u z2;exact⟨y,by unfold OP;rw[Ö,z];show d9 ((σ[j]?).getD ee)=_;rw[h1];rfl,h2.keep kp⟩
abbrev OC(k:Nat):O.Pt->Bool
 |.one j=>gg (j<k)
 |.many js=>js.all λj=>gg (j<k)
 |.nest _ _=>ei
def KR{r:O.Env}:∀{js:List Nat}{vs:List O.Val}{l Ŕ:O.Env},(js.all λj=>gg (j<l.length))=eh->O.bindL js vs (l++r)=d9 Ŕ->∃l',Ŕ=l'++r/\l'.length=l.length
 |[],[],l,_,_,e=>by cases e;exact⟨l,rfl,rfl⟩
 |j::js,v::vs,l,_,h,e=>by rw[List.all_cons,bAq,gc]at h;have e:O.bindL js vs ((l++r).set j<|d9 v)=_:=e;rw[cG _ _ h.1]at e;obtain⟨l',h1,h2⟩:=KR (l:=l.set j<|d9 v) (by rw[ϐ];exact h.2) e;exact⟨l',h1,by rw[h2,ϐ]⟩
 |[],_::_,_,_,_,h=>by cases h
 |_::_,[],_,_,_,h=>by cases h
variable {l:O.Env} {r:O.Env}
def BR{p:O.Pt}{G:O.Hs}{v:O.Val}{Ŕ:O.Env}(h:OC l.length p=eh)(e:O.bind p G v (l++r)=d9 Ŕ):∃l',Ŕ=l'++r/\l'.length=l.length:=by
 cases p with
 |one j =>have e:d9 ((l++r).set j<|d9 v)=d9 Ŕ:=e;cases e;exact⟨l.set j<|d9 v,by rw[cG _ _<|of_decide_eq_true h],ϐ⟩
 |many js =>
  cases v with
  |tup vs=>exact KR h e
  |_=>cases e
 |nest j js=>cases h
def REn.pre{K:Frag}{τ:St}(q:REn K H (l++r) τ):REn K H (Û l.length ee++r) τ:=by
 refine⟨by rw[<-q.len];simp,λn u e=>?_⟩;by_cases hn:n<l.length
 .rw[ć (by rw[õ];exact hn),Ō,fZ hn]at e;cases e
 .rw[Ď (by rw[õ];lia),õ]at e;exact q.get n u (by rw[Ď<|by lia];exact e)
def Uy{k:Nat}{pt:O.Pt}(hk:OC k pt=eh){mi:O.It}{mt:O.Tt}{me:O.E}:∀σ H Q,tE X i Φ (.comp ö k pt mi mt me) σ H Q->Dm (tIt X i Φ mi) k ö (gPt i pt) (tT0 i Φ mt) (tE0 i Φ me) σ H Q:=λσ H Q ⟨env,G,Qm,Em,p,w,c⟩=>by
 refine⟨env,G,_,Em,p,w,λst xs G1 H1 J k1 g1 it w1=>?_⟩;obtain⟨hl,w1⟩:=w1;generalize hstep:(λ(v:O.Val) (h2:O.Hs) (K:Option O.Val->O.Hs->Prop) (X2:O.XQ)=>O.go (O.bind pt h2 v<|Û k ee++ö.map λj=>(env[j]?).getD ee) λŔ =>
       O.wT Φ mt Ŕ h2 (λk h3=>if k=eh then O.wE Φ me Ŕ h3 (λu h4=>K (d9 u) h4) X2 else K ee h3) X2)=step at w1
 refine⟨λn m ys τ H'=>n+m=xs.length/\ys.length<=n/\REn i.K H' (Û k ee++ö.map λj=>(env[j]?).getD ee) τ/\∃Ė G',fb H1 H'/\RH i G' H'/\RVs i.K H' Ė ys/\O.wComp st step (xs.drop n) Ė G' (λys h5=>O.new h5 (.lst ys) Qm) (λ_ _=>False),⟨xs.length,by lia,by simp,Gh p.en k1,[],G1,fb.refl _,g1,.nil,by simpa using w1⟩,?_⟩;rintro n m ys τ H' ⟨hnm,hly,en2,Ė,G',k2,g2,r2,w2⟩;refine⟨ã (Ò (á hly<|by lia) hl) ZP,?_⟩;by_cases hn:n<xs.length
 .right;have hd:xs.drop n=xs[n]::xs.drop (n+1):=Ţ hn;rw[hd]at w2;obtain⟨s2,w2⟩:=w2;have hv:xs[n]?=d9 xs[n]:=Ê hn;obtain⟨a1,a2⟩:=it.go n G' H' xs[n] k2 g2 s2 hv;refine⟨a1,λys3 τ3 H3=>ys3.length<=n+1/\REn i.K H3 (Û k ee++ö.map λj=>(env[j]?).getD ee) τ3/\∃acc3 G3,fb H1 H3/\RH i G3 H3/\RVs i.K H3 acc3 ys3/\O.wComp st step (xs.drop<|n+1) acc3 G3 (λys h5=>O.new h5 (.lst ys) Qm) (λ_ _=>False),λys3 τ3 H3 h=>⟨m - 1,by lia,by lia,h.1,h.2⟩,λx H3 hy=>?_⟩;obtain⟨k3,g3,r3⟩:=a2 x H3 hy;rw[<-hstep]at w2;obtain⟨cD,e4,w4⟩:=eF w2;rw[hstep]at w4;obtain⟨l',e5,h5⟩:=BR (l:=Û k ee) (by rw[õ];exact hk) e4;rw[õ]at h5;refine⟨xs[n],_,G',cD,r3,g3,en2.keep k3,e4,λτ4 en4=>?_⟩;have aA:REn i.K H3 (Û k ee++ö.map λj=>(env[j]?).getD ee) τ4:=by
   rw[e5]at en4;have:=en4.pre;rw[h5]at this;exact this
  refine⟨_,G',_,en4,g3,w4,λd G5 H5 k5 g5 q5=>?_⟩;have kk:=(k2.trans k3).trans k5;cases d with
  |true =>refine⟨_,G5,_,en4.keep k5,g5,by simpa using q5,λu G6 H6 y k6 g6 r6 q6=>?_⟩;exact⟨by simpa using hly,(aA.keep k5).keep k6,_,G6,kk.trans k6,g6,((((r2.keep k3).keep k5).keep k6).append<|.cons r6 .nil),q6⟩
  |false =>rw[f8 ù]at q5;change if ei=eh then _ else _;rw[f8 ù];have q5:O.wComp st step (xs.drop<|n+1) (Ė++[]) G5 (λys h5=>O.new h5 (.lst ys) Qm) λ_ _=>False:=q5;rw[þ]at q5;exact⟨by lia,aA.keep k5,Ė,G5,kk,g5,(r2.keep k3).keep k5,q5⟩
 .left;have hd:xs.drop n=[]:=ĳ (by lia);rw[hd]at w2;refine⟨it.stop n G' H' k2 g2 w2.1 (by lia),?_⟩;exact ZZ g2 w2.2 ((c.go k1).go k2) λq hq=>⟨_,ez,r2.keep<|fb.new hq⟩
abbrev OS(i:Inf)(m:O.Bm)(r:V->List V->Hp->VK->Prop):Prop:=∀(v:O.Val) (vs:List O.Val) (G:O.Hs) (H:Hp) (x:V) (xs:List V) (t:O.Val×O.Hs) (Q:VK) (Qm:O.Q1),
 RH i G H->RV i.K H v x->RVs i.K H vs xs->O.bmV G m v vs=d9 t->Qm t.1 t.2->Cn i H Q Qm->r x xs H Q
abbrev LX(i:Inf)(m:O.Bm)(T:String):Prop:=∀(v:O.Val) (G:O.Hs) (H:Hp) (x:V),RH i G H->RV i.K H v x->O.bmTy G m v=eh->tyV i.K T x H
variable {m:O.Bm}
def AO{o e:Expr}{es:List Expr}{name:Str}{Ŏ ş:Pos}{T id:String}{r:V->List V->Hp->VK->Prop}{mo:O.E}{ms:O.Es}{n:Nat}(hK:X.K=i.K)(pa:PlainAttrs T)(slot:Slot T name id)(hty:typeOf (.builtin id)=pure (.type "method_descriptor"))(mt:MtR X id r)(hT:LX i m T)(hr:OS i m r)
  (ho:PE X o<|tE X i Φ mo) (ha:PA X (e::es)<|tAr X i Φ ms n) (aw:Ħ o name X.env (eval o X.env)=eval o X.env)
  (aa:((Ĥ ş<|Þ (e::es) X.env).all (λx=>!x.1)&&(ź ş<|ŉ [] X.env).all (λx=>x.1.isSome)&&gg ((e::es).length+([]:List aG).length+(if([]:List aG).isEmpty then 0 else 1)<30))=eh)
  (ax:(Ŏ.endLine==ş.line)=eh) (hs:Þ (e::es) X.env=(ei,eval e X.env)::Þ es X.env) (cy:(Ĥ ş<|Þ es X.env).any (·.1)=ei) :
  PE X (.Call (.Attribute o name Ŏ) (e::es) [] ş) (tE X i Φ<|.bm m mo ms) :=
 (RP pa slot hty mt ho ha aw aa ax hs cy).imp λσ H Q ⟨env,G,Qm,Em,p,w,c⟩=>by
  refine one p w λv G1 H1 x k1 p1 rv q=>⟨by rw[hK];exact hT v G1 H1 x p1.hp rv q.1,env,G1,_,Em,p1,q.2,λvs G2 H2 xs k2 g2 r2 _ w2=>?_⟩
  obtain⟨t,e,w3⟩:=eF w2;exact hr v vs G2 H2 x xs t Q Qm g2 (rv.keep k2) r2 e w3<|(c.go k1).go k2
def OU{o:Option O.Ob}(h:O.isDct o=eh):(∃xs,o=d9 (.dct xs))\/∃xs,o=d9 (.dtp xs):=by
 cases o with
 |none=>cases h
 |some o=>cases o with
  |dct xs=>exact .inl ⟨xs,rfl⟩
  |dtp xs=>exact .inr ⟨xs,rfl⟩
  |_=>cases h
def P6(hm:m.ty=.l):LX i m "list":=λv G H x g r h=>by
 unfold O.bmTy at h;rw[hm]at h;cases v with
 |ref a =>cases r.ref_inv;obtain⟨xs,e⟩:=Ow (show O.isLst (G a)=eh from h);obtain⟨vs,h1,_⟩:=g a _ e;exact .inl ⟨rfl,vs,fP.of h1⟩
 |_=>cases h
def GF(hm:m.ty=.d):LX i m "dict":=λv G H x g r h=>by
 unfold O.bmTy at h;rw[hm]at h;cases v with
 |ref a =>
  cases r.ref_inv;rcases OU (show O.isDct (G a)=eh from h)with⟨xs,e⟩|⟨xs,e⟩
  .obtain⟨vs,h1,_⟩:=g a _ e;exact .inr<|.inr<|.inl ⟨rfl,.inl ⟨vs,h1⟩⟩
  .obtain⟨vs,h1,_⟩:=g a _ e;exact .inr<|.inr<|.inl ⟨rfl,.inr ⟨vs,h1⟩⟩
 |_=>cases h
variable {G:O.Hs}
def UH{v:O.Val}{f:O.Ad->List O.Val->Option (O.Val×O.Hs)}{t:O.Val×O.Hs}(e:O.bmL G v f=d9 t):∃a xs,v=.ref a/\G a=d9 (.lst xs)/\f a xs=d9 t:=by
 cases v with
 |ref a=>obtain⟨xs,h1,h2⟩:=DB e;exact⟨a,xs,rfl,h1,h2⟩
 |_=>cases e
variable {vs:List O.Val} {α:Type} {a:α}
def Ib{f:O.Val->Option α}(e:(match vs with|[v]=>f v|_=>ee)=d9 a):∃v,vs=[v]/\f v=d9 a:=by
 cases vs with
 |nil=>cases e
 |cons v vs=>cases vs with
  |nil=>exact⟨v,rfl,e⟩
  |cons _ _=>cases e
def Pr:OS i .append UY:=λv vs G H x xs t Q Qm g rx rs e q c=>by obtain⟨a,ys,rfl,e4,e3⟩:=UH e;obtain⟨u,rfl,e3⟩:=Ib e3;obtain⟨hl,e3⟩:=Zn e3;cases e3;cases rx.ref_inv;obtain⟨y,rfl,ry⟩:=rs.inv1;obtain⟨us,h2,r2⟩:=g a _ e4;obtain⟨k3,g3⟩:=Mm (xs:=ys) g h2 (ys++[u]) (us++[y])<|r2.app1 ry;exact⟨a,us,y,rfl,rfl,h2,by rw[<-r2.length];exact ã hl ZP,c _ _ _ _ k3 g3 .non q⟩
def Fd:OS i .popAt Cp:=λv vs G H x xs t Q Qm g rx rs e q c=>by
 obtain⟨a,ys,rfl,e4,e3⟩:=UH e;unfold O.bmPopAt at e3;split at e3
 .rename_i n;obtain⟨hn,e3⟩:=Zn e3;obtain⟨k,z,e3⟩:=ï.mp e3;obtain⟨yv,z2,rfl⟩:=È.mp e3;cases rx.ref_inv;obtain⟨y,rfl,ry⟩:=rs.inv1;cases ry.int_inv;obtain⟨us,h2,r2⟩:=g a _ e4;obtain⟨xv,hx,rv⟩:=r2.get z2;rw[Mp,r2.length]at z;obtain⟨s1,s2,s3,s4⟩:=Nf z;obtain⟨k3,g3⟩:=Mm (xs:=ys) g h2 (ys.eraseIdx k) (us.eraseIdx k)<|r2.eraseIdx k;exact⟨a,us,n,k,xv,rfl,rfl,h2,by lia,by lia,s1,hx,c _ _ _ _ k3 g3 (rv.keep k3) q⟩
 .cases e3
def W9{v:O.Val}{f:O.Ad->List (O.Val×O.Val)->Option (O.Val×O.Hs)}{t:O.Val×O.Hs}(e:O.bmD G v f=d9 t):∃a kvs,v=.ref a/\G a=d9 (.dct kvs)/\f a kvs=d9 t:=by
 cases v with
 |ref a =>
  obtain⟨kvs,h1,h2⟩:=ï.mp (show(O.fT<|G a).bind (f a)=d9 t from e);refine⟨a,kvs,rfl,?_,h2⟩;cases z:G a with
  |none=>rw[z]at h1;cases h1
  |some o =>
   rw[z]at h1;cases o with
   |dct ys=>cases h1;rfl
   |_=>cases h1
 |_=>cases e
def Q7{f:O.Val->O.Val->Option α}(e:(match vs with|[v,u]=>f v u|_=>ee)=d9 a):∃v u,vs=[v,u]/\f v u=d9 a:=by
 cases vs with
 |nil=>cases e
 |cons v vs=>cases vs with
  |nil=>cases e
  |cons u us=>cases us with
   |nil=>exact⟨v,u,rfl,e⟩
   |cons _ _=>cases e
abbrev B2:V->List V->Hp->VK->Prop:=λx vs H Q=>∃a y o,x=.ref a/\vs=[y]/\DGet H a y o/\Q (o.getD .non) H
def Cb(hu:X.A.units+1<Ĭ):MtR X "dict.get" B2:=by intro Â s σ H x vs v us Q I rx rv h;obtain⟨a,y,o,rfl,rfl,d,q⟩:=h;cases rx;obtain⟨u,rfl,ru⟩:=rv.one;exact LG hu I d ru λw' s' I' aO=>⟨_,_,I',aO,q⟩
abbrev D9:V->List V->Hp->VK->Prop:=λx vs H Q=>∃a kvs k v more,x=.ref a/\vs=kV k::more/\(more=[]\/∃z,more=[z])/\H a=d9 (.dK kvs)/\Yk kvs k=d9 v/\Q v (upd H a<|.dK<|fg kvs k)
def mt_dpop:MtR X "dict.pop" D9:=by
 intro Â s σ H x vs v us Q I rx rv h;obtain⟨a,kvs,k,y,more,rfl,rfl,hm,hH,l,q⟩:=h;cases rx;rcases hm with rfl|⟨z,rfl⟩
 .obtain⟨u,rfl,ru⟩:=rv.one;exact HE I hH ru l (.inl rfl) λw' s' I' aO=>⟨_,_,I',aO,q⟩
 .obtain⟨u,t,rfl,ru,rt⟩:=rv.two;exact HE I hH ru l (.inr ⟨_,rfl⟩) λw' s' I' aO=>⟨_,_,I',aO,q⟩
abbrev Cz:V->List V->Hp->VK->Prop:=λx vs H Q=>∃a kvs k z,x=.ref a/\vs=[kV k,z]/\H a=d9 (.dK kvs)/\Yk kvs k=ee/\Q z H
def Ch:MtR X "dict.pop" Cz:=by intro Â s σ H x vs v us Q I rx rv h;obtain⟨a,kvs,k,z,rfl,rfl,hH,l,q⟩:=h;cases rx;obtain⟨u,t,rfl,ru,rt⟩:=rv.two;exact Pe I hH ru l λs' I'=>⟨_,_,I',rt,q⟩
def Pw:OS i .dget B2:=λv vs G H x xs t Q Qm g rx rs e q c=>by
 obtain⟨a,kvs,rfl,e4,e3⟩:=W9 e;obtain⟨k,rfl,e3⟩:=Ib e3;obtain⟨hk,e3⟩:=Zn e3;cases e3;cases rx.ref_inv;obtain⟨y,rfl,ry⟩:=rs.inv1;obtain⟨ps,h2,r2⟩:=g a _ e4;obtain⟨d,kr,rfl⟩:=eV hk ry;refine⟨a,_,_,rfl,rfl,DGet.k (k:=d) h2,?_⟩;obtain⟨l1,l2⟩:=r2.look kr;cases z:O.fc kvs k with
 |none=>rw[l2 z];rw[z]at q;exact c _ _ _ _ (fb.refl H) g .non q
 |some u=>obtain⟨x,hx,rv⟩:=l1 u z;rw[hx];rw[z]at q;exact c _ _ _ _ (fb.refl H) g rv q
def IZ:OS i .dpop D9:=λv vs G H x xs t Q Qm g rx rs e q c=>by obtain⟨a,kvs,rfl,e4,e3⟩:=W9 e;obtain⟨k,rfl,e3⟩:=Ib e3;obtain⟨hk,e3⟩:=Zn e3;obtain⟨u,z,rfl⟩:=È.mp e3;cases rx.ref_inv;obtain⟨y,rfl,ry⟩:=rs.inv1;obtain⟨ps,h2,r2⟩:=g a _ e4;obtain⟨d,kr,rfl⟩:=eV hk ry;obtain⟨x,hx,rv⟩:=(r2.look kr).1 u z;obtain⟨k3,g3⟩:=Je (kvs:=kvs) g h2<|r2.drop kr;exact⟨a,ps,d,x,[],rfl,rfl,.inl rfl,h2,hx,c _ _ _ _ k3 g3 (rv.keep k3) q⟩
def OX{kvs:List (O.Val×O.Val)}{k:O.Val}(h:O.fc kvs k=ee):O.fg kvs k=kvs:=by
 unfold O.fg;rw[cV];intro p hp;have h2:kvs.find? (λp=>p.1==k)=ee:=by unfold O.fc at h;exact Option.map_eq_none_iff.mp h
 simpa using List.find?_eq_none.mp h2 p hp
def FO:OS i .dpopD λx vs H Q=>D9 x vs H Q\/Cz x vs H Q:=λv vs G H x xs t Q Qm g rx rs e q c=>by
 obtain⟨a,kvs,rfl,e4,e3⟩:=W9 e;obtain⟨k,dv,rfl,e3⟩:=Q7 e3;obtain⟨hk,e3⟩:=Zn e3;cases e3;cases rx.ref_inv;obtain⟨y,z,rfl,ry,rz⟩:=rs.inv2;obtain⟨ps,h2,r2⟩:=g a _ e4;obtain⟨d,kr,rfl⟩:=eV hk ry;obtain⟨l1,l2⟩:=r2.look kr;cases z:O.fc kvs k with
 |none =>
  refine .inr ⟨a,ps,d,_,rfl,rfl,h2,l2 z,?_⟩;rw[z,OX z]at q;have e:O.upd G a (.dct kvs)=G:=by
   funext b;by_cases hb:b=a
   .subst hb;rw[O.ez,e4]
   .rw[O.ej hb]
  rw[e]at q;exact c _ _ _ _ (fb.refl H) g rz q
 |some u =>obtain⟨x,hx,rv⟩:=l1 u z;obtain⟨k3,g3⟩:=Je (kvs:=kvs) g h2<|r2.drop kr;rw[z]at q;exact .inl ⟨a,ps,d,x,_,rfl,rfl,.inr ⟨_,rfl⟩,h2,hx,c _ _ _ _ k3 g3 (rv.keep k3) q⟩
def RFs.look{K:Frag}{H:Hp}{f:String}:∀{fs:List (String×O.Val)}{ps:List (Str×V)},RFs K H fs ps->
  (∀v,fs.lookup f=d9 v->∃x,ps.lookup (gh f)=d9 x/\RV K H v x)/\(fs.lookup f=ee->ps.lookup (gh f)=ee)
 |_,_,.nil=>⟨λv e=>(by cases e),λ_=>rfl⟩
 |_,_,.cons (f:=g) (v:=u) (x:=y) r t=>by
  have ih:=RFs.look (f:=f) t;rw[î,î];by_cases e:f=g
  .subst e;rw[beq_self_eq_true,beq_self_eq_true];exact⟨λv z=>(by cases z;exact⟨y,rfl,r⟩),λz=>(by cases z)⟩
  .rw[show(f==g)=ei by simpa using e,show(gh f==gh g)=ei by rw[beq_eq_false_iff_ne];exact λz=>e<|ofS_inj.mp z];exact ih
def RFs.put{K:Frag}{H:Hp}{f:String}{v:O.Val}{x:V}(q:RV K H v x):∀{fs:List (String×O.Val)}{ps:List (Str×V)},RFs K H fs ps->RFs K H (O.eW fs f v) (L2.eW (gh f) x ps)
 |_,_,.nil=>.cons q .nil
 |_,_,.cons (f:=g) (v:=u) (x:=y) r t=>by
  unfold O.eW L2.eW;by_cases e:g=f
  .subst e;rw[fZ rfl,fZ rfl];exact .cons q t
  .rw[f8 e,f8 λz=>e<|ofS_inj.mp z];exact .cons r<|RFs.put q t
def RFs.length{K:Frag}{H:Hp}:∀{fs:List (String×O.Val)}{ps:List (Str×V)},RFs K H fs ps->fs.length=ps.length
 |_,_,.nil=>rfl
 |_,_,.cons _ t=>by rw[Ë,Ë,RFs.length t]
structure FldOk(i:Inf)(f:String):Prop where
 no:∀C c,i.cl C c->NoAttr i.K c (gh f)
structure IC(K:Frag)(C:Í):Prop where
 ha:PySem.W.findIn K (.ref C) "__class__" = d9 (d9<|.builtin "object.__class__")
 hn:PySem.W.specialIn K (.builtin "object.__class__") "__get__" = d9 (d9<|.builtin "getset_descriptor.__get__")
 htk:PySem.W.takesIn K (.builtin "object.__class__")=d9 eh
 hm:PySem.W.mroIn K C (.type "object")=d9 eh
structure ClsA(i:Inf):Prop where
 cls:∀C c,i.ins C=eh->i.cl C c->Cls i.K c
 ic:∀C c,i.cl C c->IC i.K c
 un:∀C a b,i.cl C a->i.cl C b->a=b
def J3{o:Option O.Ob}{p:String×List (String×O.Val)}(h:O.insOf o=d9 p):o=d9 (.ins p.1 p.2):=by
 cases o with
 |none=>cases h
 |some o=>cases o with
  |ins C fs=>cases h;rfl
  |_=>cases h
variable {G:O.Hs} {f:String}
def KH{v u:O.Val}(h:O.fz G v f=d9 u):∃a C fs,v=.ref a/\G a=d9 (.ins C fs)/\fs.lookup f=d9 u:=by obtain⟨a,h1,h⟩:=ï.mp h;obtain⟨p,h2,h3⟩:=ï.mp h;exact⟨a,p.1,p.2,J7 h1,J3 h2,h3⟩
variable {o:Expr} {mo:O.E} {ë:Pos}
def RZ(hK:X.K=i.K)(A:ClsA i)(F:FldOk i f)(ho:PE X o<|tE X i Φ mo)(hb:Ħ o (gh f) X.env (eval o X.env)=eval o X.env) :
  PE X (.Attribute o (gh f) ë) (tE X i Φ<|.fld mo f) :=
 (ID ho hb).imp λσ H Q ⟨env,G,Qm,Em,p,w,c⟩=>by
  exact one p w λv G1 H1 x k1 p1 r q=>by obtain⟨u,e,q2⟩:=eF q;clear q;obtain⟨a,C,fs,rfl,e2,e3⟩:=KH e;cases r.ref_inv;obtain⟨c',dx,ps,hi,hc,h1,rf⟩:=p1.hp a _ e2;obtain⟨y,l,ry⟩:=rf.look.1 u e3;exact⟨a,c',dx,ps,y,rfl,h1,by rw[hK];exact A.cls _ _ hi hc,by rw[hK];exact F.no _ _ hc,l,c _ _ _ _ k1 p1.hp ry q2⟩
variable {C:String}
def UQ{H:Hp}{a:Í}{c' dx:Í}{fs:List (String×O.Val)}{ps ps2:List (Str×V)}(g:RH i G H)(hi:i.ins C=eh)(hc:i.cl C c')(h:H a=d9 (.ins c' dx ps2))(r:RFs i.K H fs ps) :
  fb H (upd H a<|.ins c' dx ps)/\RH i (O.upd G a<|.ins C fs) (upd H a<|.ins c' dx ps):=by
 have k:fb H<|upd H a<|.ins c' dx ps:=fb.put (λxs e=>by rw[h]at e;cases e) λp u e=>by rw[h]at e;cases e
 exact⟨k,g.put k ⟨c',dx,ps,hi,hc,ez,r.keep k⟩⟩
def J8{G':O.Hs}{o v:O.Val}(h:O.fA G o f v=d9 G'):∃a C fs,o=.ref a/\G a=d9 (.ins C fs)/\fs.length<900/\G'=O.upd G a (.ins C<|O.eW fs f v):=by
 cases o with
 |ref a =>
  unfold O.fA at h;dsimp only at h;split at h
  .rename_i C fs e;obtain⟨hl,h⟩:=Zn h;cases h;exact⟨a,C,fs,rfl,e,hl,rfl⟩
  .cases h
 |_=>cases h
variable {e:Expr}
def A0{m:O.E}{bc:Pos}(hK:X.K=i.K)(A:ClsA i)(F:FldOk i f)(ho:PE X o<|tE X i Φ mo)(he:PE X e<|tE X i Φ m)(hs:Ŷ e (d9<|.Attribute o (gh f) bc) ë.line X.env=pure ei) :
  PS X (.Assign [.Attribute o (gh f) bc] e ë) (tSt X i Φ<|.setFld mo f m) :=
 (Io ho he hs).imp λD σ H ⟨env,G,N,R,B,C,Xe,p,w,c⟩=>by refine one p.pre w λv G1 H1 x k1 p1 r q=>?_;refine one p1 q λu G2 H2 y k2 p2 ry q=>?_;obtain⟨G3,e3,q2⟩:=eF q;clear q;obtain⟨a,D',fs,rfl,e2,hl,rfl⟩:=J8 e3;cases ry.ref_inv;obtain⟨c',dx,ps,hi,hc,h1,rf⟩:=p2.hp a _ e2;obtain⟨k3,g3⟩:=UQ p2.hp hi hc h1<|rf.put (f:=f)<|r.keep k2;refine⟨a,c',dx,ps,rfl,h1,by rw[hK];exact A.cls _ _ hi hc,by rw[hK];exact F.no _ _ hc,by rw[<-rf.length];lia,?_⟩;have k:=(k1.trans k2).trans k3;exact c.nx _ _ _ _ k g3 (p.en.keep k) q2
def N3{op:O.Bop}{x y z:O.Val}(h:O.augV op x y=d9 z):∃a b,x=.int a/\y=.int b/\((op=.add/\z=.int (a+b))\/(op=.sub/\z=.int (a - b))):=by
 unfold O.augV at h;split at h
 .cases h;exact⟨_,_,rfl,rfl,.inl ⟨rfl,rfl⟩⟩
 .cases h;exact⟨_,_,rfl,rfl,.inr ⟨rfl,rfl⟩⟩
 .cases h
abbrev rAS(op:O.Bop):V->V->Hp->VK->Prop:=λx y H Q=>∃a b,x=.int a/\y=.int b/\((op=.add/\Q (.int<|a+b) H)\/(op=.sub/\Q (.int<|a - b) H))
def BD{op:ϓ}{bop:O.Bop}{n:Int}{k:Nat}{cu ş:Pos}(hK:X.K=i.K)(A:ClsA i)(F:FldOk i f)(hop:Cc X op<|rAS bop)(ho:PE X o<|tE X i Φ mo) :
  PS X (.AugAssign (.Attribute o (gh f) cu) op (.Constant (.int n) k ş) ë) (tSt X i Φ<|.augFld mo f bop n) :=
 (As ho O4 hop).imp λD σ H ⟨env,G,N,R,B,C,Xe,p,w,c⟩=>by
  refine one p.pre w λv G1 H1 x k1 p1 r q=>?_;obtain⟨u,e1,q2⟩:=eF q;clear q;obtain⟨a,C',fs,rfl,e2,e3⟩:=KH e1;cases r.ref_inv;obtain⟨c',dx,ps,hi,hc,h1,rf⟩:=p1.hp a _ e2;obtain⟨y,l,ry⟩:=rf.look.1 u e3;refine⟨a,c',dx,ps,y,rfl,h1,by rw[hK];exact A.cls _ _ hi hc,by rw[hK];exact F.no _ _ hc,l,?_⟩;obtain⟨z,e4,q3⟩:=eF q2;clear q2;obtain⟨G3,e5,q4⟩:=eF q3;clear q3;obtain⟨n1,n2,rfl,e0,hz⟩:=N3 e4;cases e0;cases ry.int_inv;obtain⟨a2,C2,fs2,e6,e7,hl,rfl⟩:=J8 e5;cases e6;rw[e2]at e7;cases e7;have fin:∀n:Int,z=.int n->∃dx' fs',H1 a=d9 (.ins c' dx' fs')/\fs'.length<1000/\D.nx σ (upd H1 a<|.ins c' dx'<|L2.eW (gh f) (.int n) fs'):=λn hn=>by subst hn;obtain⟨k3,g3⟩:=UQ p1.hp hi hc h1<|rf.put (f:=f) (x:=.int n)<|.int n;refine⟨dx,ps,h1,by rw[<-rf.length];lia,?_⟩;exact c.nx _ _ _ _ (k1.trans k3) g3 (p.en.keep<|k1.trans k3) q4
  rcases hz with⟨e,hz⟩|⟨e,hz⟩
  .exact⟨n1,n,rfl,rfl,.inl ⟨e,fin _ hz⟩⟩
  .exact⟨n1,n,rfl,rfl,.inr ⟨e,fin _ hz⟩⟩
abbrev Dfm(pr:å)(w:ø)(mg:Str->Option Ã)(base:Ć)(i:Inf)(P:O.Pg)(n:Nat)(f:String)(fa:Í):Prop :=
 ∃fd ps,fj pr w i.K mg base (CX1 pr w) (2*n) fa fd ps (spF i P n f)/\Binds i.K fd ps []
variable {P:O.Pg} {n:Nat} {es:List Expr} {ms:O.Es} {p:Pos}
def Pd{k:Nat}{Cn:String}{C f:Í}(hK:X.K=i.K)(hi:i.ins Cn=eh)(hc:i.cl Cn C)(M:Mk i.K C f)(D:Dfm X.prog X.w X.mg X.base i P n (Cn ++ ".__init__") f)(hr:fi (2*n+1) X.A)
  (hg:Gl X<|gh Cn) (hm:X.mg (gh Cn)=d9 (.ref C)) (cx:(gh Cn==("__debug__" : Str))=ei)
  (ha:PA X (e::es)<|tAr X i (O.wF P n) ms k) (he:Þ (e::es) X.env=(ei,eval e X.env)::Þ es X.env) (hpl:(Ĥ ë<|Þ es X.env).any (·.1)=ei) :
  PE X (.Call (.Name (gh Cn) p) (e::es) [] ë) (tE X i (O.wF P n)<|.make Cn ms):=by
 obtain⟨fd,ps,F,hb⟩:=D;rw[<-hK]at F hb M;intro Â s σ H Q I h;obtain⟨env,G,Qm,Em,pr,w,c⟩:=h;refine GO (E:=XK1 i H Em) M F hr hg hm hb .nil (XW.passes pr.xo) ha cx he hpl Â s σ H Q I ⟨env,G,_,Em,pr,w,λvs G1 H1 xs k1 g1 r1 hl w1 x dx hx hd ų=>?_⟩;have ka:fb H1<|upd H1 dx<|.own x:=fb.new hd;have hx2:upd H1 dx (.own x) x=ee:=by rw[ej λz=>ų z.symm];exact hx
 have kb:fb (upd H1 dx<|.own x)<|upd (upd H1 dx<|.own x) x<|.ins C dx []:=fb.new hx2;have g2:RH i G1<|upd H1 dx<|.own x:=W5 g1 hd;have g3:RH i (O.upd G1 x<|.ins Cn [])<|upd (upd H1 dx<|.own x) x<|.ins C dx []:=g2.put kb ⟨C,dx,[],hi,hc,ez,.nil⟩;have k:=ka.trans kb;refine⟨.ref x::vs,_,_,Em,.cons (.ref x) (by rw[þ];exact r1.keep k),g3,w1 x<|g1.free hx,?_,λcls d H' h=>(h.go k).go k1⟩;intro v G' H' y k' g' rv ⟨hv,hq⟩;subst hv;exact⟨rv.non_inv,c _ G' H' _ ((k1.trans k).trans k') g' (.ref x) hq⟩
variable {m:String}
def KF{v:O.Val}(h:O.clsV G v m=d9 C):∃a fs,v=.ref a/\G a=d9 (.ins C fs)/\fs.lookup m=ee:=by
 obtain⟨a,h1,h⟩:=ï.mp h;obtain⟨p,h2,h3⟩:=ï.mp h;have e:=J3 h2;by_cases z:(p.2.lookup m).isNone=eh
 .rw[fZ z]at h3;cases h3;exact⟨a,p.2,J7 h1,e,aH.mp z⟩
 .rw[f8 z]at h3;cases h3
variable {Ŏ:Pos} {pl:Sem Bool}
def LY{k:Nat}{Cn:String}{C f:Í}(hK:X.K=i.K)(hfn:∀c,i.cl Cn c->c=C)(A:Cls i.K C)(M:Meth i.K C (gh m) f)(D:Dfm X.prog X.w X.mg X.base i P n (Cn ++ "." ++ m) f)(hr:fi (2*n) X.A)
  (ho:PE X o<|tE X i (O.wF P n) mo) (ha:PA X (e::es)<|tAr X i (O.wF P n) ms k) (he:Þ (e::es) X.env=(ei,eval e X.env)::Þ es X.env) (hpl:(Ĥ ë<|Þ es X.env).any (·.1)=ei)
  (ht:eval (.Call (.Attribute o (gh m) Ŏ) (e::es) [] ë) X.env=(do
    let ov<-eval o X.env
    ϋ Ŏ.atName
    let (f,first)<-ł [ov] (ϔ ov (gh m) pl)
    b9 ë f first (Ĥ ë<|Þ (e::es) X.env) (ź ë<|ŉ [] X.env))) :
  PE X (.Call (.Attribute o (gh m) Ŏ) (e::es) [] ë) (tE X i (O.wF P n)<|.meth Cn m mo ms):=by
 obtain⟨fd,ps,F,hb⟩:=D;rw[<-hK]at F hb M A;intro Â s σ H Q I h;obtain⟨env,G,Qm,Em,pr,w,c⟩:=h;refine Gp (E:=XK1 i H Em) ho A M F hr hb .nil (XW.passes pr.xo) ha he hpl ht Â s σ H Q I<|one pr w λv G1 H1 x k1 p1 rv q=>?_;obtain⟨hq,w1⟩:=q;obtain⟨a,fs,rfl,e2,e3⟩:=KF hq;cases rv.ref_inv;obtain⟨c',dx,cC,hi,hc,h1,rf⟩:=p1.hp a _ e2;cases hfn c' hc;refine⟨a,dx,cC,rfl,h1,rf.look.2 e3,env,G1,_,Em,p1,w1,λvs G2 H2 xs k2 g2 r2 hl w2=>?_⟩;exact⟨.ref a::vs,G2,Qm,Em,.cons (.ref a) (by rw[þ];exact r2),g2,w2,(c.go k1).go k2,λcls d H' h=>(h.go k2).go k1⟩
def Fy{Cn:String}{C f:Í}(hK:X.K=i.K)(hfn:∀c,i.cl Cn c->c=C)(A:Cls i.K C)(M:Meth i.K C (gh m) f)(D:Dfm X.prog X.w X.mg X.base i P n (Cn ++ "." ++ m) f)(hr:fi (2*n) X.A)
  (ho:PE X o<|tE X i (O.wF P n) mo)
  (ht:eval (.Call (.Attribute o (gh m) Ŏ) [] [] ë) X.env=(do
    let ov<-eval o X.env
    ϋ Ŏ.atName
    let (f,first)<-ł [ov] (ϔ ov (gh m) pl)
    b9 ë f first (Ĥ ë<|Þ [] X.env) (ź ë<|ŉ [] X.env))) :
  PE X (.Call (.Attribute o (gh m) Ŏ) [] [] ë) (tE X i (O.wF P n)<|.meth Cn m mo .nil):=by
 obtain⟨fd,ps,F,hb⟩:=D;rw[<-hK]at F hb M A;intro Â s σ H Q I h;obtain⟨env,G,Qm,Em,pr,w,c⟩:=h;refine Ca (E:=XK1 i H Em) ho A M F hr hb .nil (XW.passes pr.xo) ht Â s σ H Q I<|one pr w λv G1 H1 x k1 p1 rv q=>?_;obtain⟨hq,w1⟩:=q;obtain⟨a,fs,rfl,e2,e3⟩:=KF hq;cases rv.ref_inv;obtain⟨c',dx,cC,hi,hc,h1,rf⟩:=p1.hp a _ e2;cases hfn c' hc;refine⟨a,dx,cC,rfl,h1,rf.look.2 e3,?_⟩;exact⟨[.ref a],G1,Qm,Em,.cons (.ref a) .nil,p1.hp,w1,c.go k1,λcls d H' h=>h.go k1⟩
def Gf(hK:X.K=i.K)(D:Dfo X.prog X.w X.mg X.base i P n f)(hr:fi (2*n) X.A)(hg:Gl X<|gh f)(cx:(gh f==("__debug__" : Str))=ei) :
  PE X (.Call (.Name (gh f) p) [] [] ë) (tE X i (O.wF P n)<|.call f .nil):=by
 obtain⟨fa,fd,ps,F,hm,hk,hb⟩:=D;rw[<-hK]at F hk hb;intro Â s σ H Q I h;obtain⟨env,G,Qm,Em,pr,w,c⟩:=h;refine Dk (E:=XK1 i H Em) F hr hg hm hk hb .nil (XW.passes pr.xo) cx Â s σ H Q I ?_;exact⟨[],G,Qm,Em,.nil,pr.hp,w,c,λcls d H' h=>h⟩
abbrev U4(X:Cx)(i:Inf)(Φ:O.Fs):O.Es->List (TE×TE)
 |.cons k (.cons v r)=>(tE X i Φ k,tE X i Φ v)::U4 X i Φ r
 |_=>[]
abbrev JS:O.Es->Bool
 |.nil=>eh
 |.cons _ .nil=>ei
 |.cons _ (.cons _ r)=>JS r
abbrev esL:O.Es->Nat
 |.nil=>0
 |.cons _ es=>esL es+1
abbrev Ak:List V->List (V×V)
 |x::y::r=>(x,y)::Ak r
 |_=>[]
def NG:∀(es:O.Es),JS es=eh->∀{σ:St}{H:Hp}{env:O.Env}{G:O.Hs}{Qm:List O.Val->O.Hs->Prop}{Em:O.XQ}{Q:List (V×V)->Hp->Prop},Pre X i σ H env G Em->O.wA Φ es env G Qm Em->
  (∀vs G' H' xs,fb H H'->RH i G' H'->RVs i.K H' vs xs->xs.length=esL es->Qm vs G'->Q (Ak xs) H')->MJ (U4 X i Φ es) σ H Q
 |.nil,_,σ,H,env,G,Qm,Em,Q,p,w,c=>by rw[O.q_a_nil]at w;exact c [] G H [] (fb.refl H) p.hp .nil rfl w
 |.cons k .nil,h,_,_,_,_,_,_,_,_,_,_=>by cases h
 |.cons k (.cons v r),h,σ,H,env,G,Qm,Em,Q,p,w,c=>by rw[O.q_a_cons]at w;refine one p w λa G1 H1 x k1 p1 ra q=>?_;rw[O.q_a_cons]at q;refine one p1 q λb G2 H2 y k2 p2 rb q2=>?_;refine NG r h p2 q2 λvs G' H' xs k3 g3 rv hl hq=>?_;exact c (a::b::vs) G' H' (x::y::xs) ((k1.trans k2).trans k3) g3 (.cons ((ra.keep k2).keep k3)<|.cons (rb.keep k3) rv) (by rw[Ë,Ë,hl];rfl) hq
def JN{K:Frag}{H:Hp}:∀{vs:List O.Val}{xs:List V}{kvs:List (O.Val×O.Val)},RVs K H vs xs->O.pairUp vs=d9 kvs->∃ps:List<|Key×V,Ak xs=ps.map (λkv=>(kV kv.1,kv.2))/\RKs K H kvs ps/\2*ps.length=xs.length
 |[],_,_,r,e=>by cases r;cases e;exact⟨[],rfl,.nil,rfl⟩
 |[_],_,_,_,e=>by cases e
 |a::b::vs,_,kvs,r,e=>by
  cases r with
  |cons ra r=>cases r with
  |cons rb t =>
  rename_i y _;unfold O.pairUp at e;split at e
  .rename_i hk;obtain⟨ks,e2,rfl⟩:=È.mp e;obtain⟨ps,h1,h2,h3⟩:=JN t e2;obtain⟨c,hc,rfl⟩:=eV hk ra;refine⟨(c,y)::ps,?_,.cons hc rb h2,by rw[Ë,Ë,Ë];lia⟩;show(kV c,y)::Ak _=_;rw[h1];rfl
  .cases e
def RKs.merge{K:Frag}{H:Hp}:∀{kvs:List (O.Val×O.Val)}{ps:List (Key×V)}{Ė:List (O.Val×O.Val)}{bs:List (Key×V)},RKs K H Ė bs->RKs K H kvs ps->RKs K H (O.putAll Ė kvs) (Xn bs ps)
 |_,_,_,_,r,.nil=>r
 |_,_,Ė,bs,r,.cons (k:=k) (v:=v) (c:=c) (x:=x) (kvs:=kvs) (ps:=ps) a q t=>by show RKs K H (O.putAll (O.ff Ė k v) kvs) (Xn (L2.ff bs c x) ps);exact RKs.merge (RKs.put a q r) t
variable {ë:Pos}
def Ig:PE X (.Dict [] [] ë) (tE X i Φ<|.dct .nil) :=
 pe_dnewK.imp λσ H Q ⟨env,G,Qm,Em,p,w,c⟩=>by rw[O.q_e_dct]at w;unfold O.new at w;intro a ha;have w1:=w a<|p.hp.free ha;obtain⟨a',e,w2⟩:=eF w1;cases e;rw[O.q_a_nil]at w2;obtain⟨ks,e2,_,w3⟩:=eF w2;cases e2;rw[O.eC]at w3;have k:=fb.new (o:=.dK []) ha;exact c _ _ _ _ k (p.hp.put (o:=.dct []) k ⟨[],ez,.nil⟩) (.ref a) w3
def Qp{es:O.Es}{keys:List (Option Expr)}{Ρ:List Expr}(he:JS es=eh)(h30:esL es<=30)(h:PPs X ë keys Ρ<|U4 X i Φ es)(hall:keys.all (·.isSome)=eh)(hl:keys.length=Ρ.length)(h0:keys≠[])(h15:keys.length<=15):PE X (.Dict keys Ρ ë) (tE X i Φ<|.dct es) :=
 (G7 h hall hl h0 h15).imp λσ H Q ⟨env,G,Qm,Em,p,w,c⟩=>by
  rw[O.q_e_dct]at w;unfold O.new at w;intro a ha;have w1:=w a<|p.hp.free ha;obtain⟨a',e,w2⟩:=eF w1;cases e;have k:=fb.new (o:=.dK []) ha;have p2:Pre X i σ (upd H a<|.dK []) env (O.upd G a<|.dct []) Em:=p.go k<|p.hp.put (o:=.dct []) k ⟨[],ez,.nil⟩;refine NG es he p2 w2 λvs G' H' xs k2 g2 rv hl w3=>?_;obtain⟨ks,e2,e3,w4⟩:=eF w3;obtain⟨ps,e4,r4⟩:=g2 a _ e3;cases r4;obtain⟨qs,h1,h2,h3⟩:=JN rv e2;refine⟨e4,qs,h1,by lia,?_⟩;have k3:fb H'<|upd H' a<|.dK<|Xn [] qs:=fb.put (λxs e=>by rw[e4]at e;cases e) λp u e=>by rw[e4]at e;cases e
  exact c _ _ _ _ ((k.trans k2).trans k3) (g2.put (o:=.dct<|O.putAll [] ks) k3 ⟨_,ez,(RKs.merge .nil h2).keep k3⟩) (.ref a) w4
end Snd
namespace L2
open PySem PySem.Spec PyProof.Rows
section
variable {X:Cx}{Â:List (Í×Obj)}{σ:St}{H:Hp}{s:Å}{a:Í}{o:Obj}{ps:List (Key×V)}
def Inv.freeze(I:Inv X Â σ H s)(e:H a=d9 (.dK ps))(ho:s.heap.get? a=d9 o):Inv X Â σ (upd H a<|.frz o<|.dK ps) s:=by have h:=I.hok a _ e;exact I.write (t':=s.toks) (x:=a) (e:=a) (h':=s.heap) (by rw[e];exact True.intro) (.inl rfl) (λ_ _ _ q=>q) ⟨o,ho⟩ ⟨ho,h⟩
def Inv.thaw(I:Inv X Â σ H s)(e:H a=d9 (.frz o<|.dK ps))(h0:∀o u,X.H₀ a≠d9 (.frz o u)):Inv X Â σ (upd H a<|.dK ps) s:=by
 have hn:∀b,H b=ee->upd H a (.dK ps) b=ee:=λb z=>by rw[ej<|by rintro rfl;rw[e]at z;cases z];exact z
 have ho:=I.hok a _ e;refine⟨I.ok,I.os,I.bare,⟨I.base.keep,I.base.slot,λb ob q n hx=>hn b<|I.base.free b ob q n hx,I.base.there,λb xs q=>?_,λb ob u q=>?_,λb qs q=>?_⟩,I.loc,I.cell,hn _ I.free,λx c q=>hn _<|I.freeC x c q,λp hp=>?_,λb u q=>?_,I.len⟩
 .have z:=I.base.tups b xs q;rw[ej<|by rintro rfl;rw[e]at z;cases z];exact z
 .have z:=I.base.frzs b ob u q;rw[ej<|by rintro rfl;exact h0 _ _ q];exact z
 .obtain⟨m,z⟩:=I.base.tbls b qs q;exact⟨m,by rw[ej<|by rintro rfl;rw[e]at z;cases z];exact z⟩
 .obtain⟨q1,q2,q3,q4,q5⟩:=I.pin p hp;exact⟨q1,hn _ q2,q3,q4,q5⟩
 .by_cases hb:b=a
  .subst hb;rw[ez]at q;cases q;exact ho.2
  .rw[ej hb]at q;refine(I.hok b u q).stay (λ_ _ _ q=>q) (λc z=>?_) λc xs z=>?_
   .rw[ej<|by rintro rfl;rw[e]at z;cases z];exact z
   .rw[ej<|by rintro rfl;rw[e]at z;cases z];exact z
end
abbrev Ends.thaw(X:Cx)(D:Ends):Ends where
 nx:=λσ H=>∃a o ps,H a=d9 (.frz o<|.dK ps)/\(∀o u,X.H₀ a≠d9 (.frz o u))/\D.nx σ (upd H a<|.dK ps)
 rt:=λv H=>∃a o ps,H a=d9 (.frz o<|.dK ps)/\(∀o u,X.H₀ a≠d9 (.frz o u))/\D.rt v (upd H a<|.dK ps)
 bk:=D.bk
 ct:=D.ct
variable {X:Cx}
def Gr{st:ļ}{t:TS}(h:PS X st t):PS X st λD σ H=>t (D.thaw X) σ H:=λÂ s σ H D I q =>
 thn (h Â s σ H _ I q) λf s' z=>by
  cases f with
  |next =>obtain⟨Ŗ,H',I',a,o,ps,e,h0,q⟩:=z;exact⟨Ŗ,_,I'.thaw e h0,q⟩
  |ret u =>obtain⟨v,Ŗ,H',I',r,a,o,ps,e,h0,q⟩:=z;exact⟨v,Ŗ,_,I'.thaw e h0,r,q⟩
  |brk=>exact z
  |cont=>exact z
abbrev Iti(a:Í)(o:Obj)(ps:List<|Key×V):It :=
 ⟨λi H=>H a=d9 (.frz o<|.dK ps)/\i<ps.length,λi H v H'=>∃p k x,v=.ref p/\H p=ee/\ps[i]?=d9 (k,x)/\H'=upd H p (.tup [kV k,x]),λi H=>H a=d9 (.frz o<|.dK ps)/\ps.length<=i⟩
def Af{k:Key}{u:Ã}(h:Jn k u=eh):RelV (kV k) u:=by
 rcases Zq h with⟨i,t,rfl,rfl⟩|⟨x,t,rfl,rfl⟩
 .exact⟨t,rfl⟩
 .exact⟨t,rfl⟩
def KV.at:∀{ps:List (Key×V)}{vs:List (Key×Ã)}{i:Nat}{k:Key}{x:V},KV ps vs->ps[i]?=d9 (k,x)->∃u,vs[i]?=d9 (k,u)/\RelV x u:=by
 intro ps vs i k x r;unfold KV at r;induction r generalizing i with
 |nil=>intro h;simp at h
 |@cons p q ps qs h t ih =>
  intro e;cases i with
  |zero =>simp at e;subst e;obtain⟨q1,q2⟩:=q;obtain⟨h1,h2⟩:=h;have h1:k=q1:=h1;subst h1;exact⟨q2,rfl,h2⟩
  |succ i=>simpa using ih (by simpa using e)
section
variable {X:Cx}{Â:List (Í×Obj)}{σ:St}{H:Hp}{s:Å}{a:Í}{o:Obj}{ps:List (Key×V)}{es:Array DictEntry}{ep:Nat}
def We(I:Inv X Â σ H s)(e:H a=d9 (.frz o<|.dK ps))(hd:o.data=.dict es ep):∃vs,KV ps vs/\s.heap.DictAt (Zc X.prog X.w) a vs ep:=by
 obtain⟨ho,_,_,vs,Ş,o2,es2,ep2,h1,h2,h3,h4⟩:=(show eP X.prog X.w H s.heap a (.frz o<|.dK ps) from I.hok a _ e)
 rw[ho]at h1;cases h1;rw[hd]at h3;cases h3;exact⟨vs,Ş,o,es,ho,h2,hd,h4⟩
end
variable {P:å} {w:ø} {es:List Expr} {kk:Nat} {tp:Pos} {ds:Array DictEntry} {ep:Nat} {o:Obj} {ps:List (Key×V)}
def OY{K:Frag}(a it:Í)(hd:o.data=.dict ds ep) :
  Turn P w K (.Tuple es kk tp) (Iti a o ps) [it] it (λi h=>∃ok ov,IsItemIter h it a i ps.length ep ok ov) where
 mem:=by simp
 obj:=λi h st b hb=>by
  obtain⟨ok,ov,h1⟩:=st;have q:b=it:=by simpa using hb
  subst q;exact⟨_,h1,λv z=>by cases z⟩
 keep:=λi h h' ⟨ok,ov,h1⟩ k=>⟨ok,ov,k it (by simp) _ h1⟩
 item:=by
  intro X hP hw hK hc i Â s σ H E I hf st hg;subst hP hw hK;obtain⟨e,hi⟩:=hg;obtain⟨ok,ov,h1⟩:=st;obtain⟨vs,Ş,da⟩:=We I e hd;have hl:ps.length=vs.length:=Ş.length;have hx:ps[i]?=d9 ps[i]:=Ê hi;obtain⟨u,hu,ru⟩:=Ş.at (k:=ps[i].1) (x:=ps[i].2) hx;rw[hl]at h1;refine wpAny_pyNext_items_item h1 da hu λkey h3 hk hout hT hsz hkeep=>?_;have hfi:=hf it (by simp);have hit:it<s.heap.objs.size:=Ô h1;have nT:s.heap.objs.size≠it:=ő hit;have bE:=I.fpOk (H':=H) (Ì s.heap.objs.size) I.fresh;refine⟨.ref s.heap.objs.size,rfl,wpAny_letOwnedTupleGo_items (s:={s with heap:=h3}) hout λh4 he4 hs4=>?_⟩;have I4:Inv X Â σ H {s with heap:=h4,toks:=s.toks}:=I.turnedL (t':=s.toks) (ch:=[it]) (λb ob hb q=>hs4.extBut b ob (λz=>hb<|by simp[z])<|hkeep b ob (λz=>hb<|by simp[z]) q) hf;have hT4:h4.get? s.heap.objs.size=d9 {cls:=.type "tuple",data:=.seq #[key,u]}:=hs4.extBut _ _ nT hT;obtain⟨f0,f1,f2,f3,f4,f5⟩:=bE;have I5:Inv X Â σ (upd H s.heap.objs.size<|.tup [kV ps[i].1,ps[i].2]) {s with heap:=h4,toks:=s.toks}:=I4.track f0 I.sz f1 f4 f5 ⟨by show 2<=Ý;decide,[key,u],.cons (Af hk)<|.cons ru .nil,_,hT4,rfl,_,rfl⟩;refine⟨.ref s.heap.objs.size,_,I5,rfl,⟨s.heap.objs.size,_,_,rfl,f0,hx,rfl⟩,⟨key,u,by rw[hl];exact he4⟩,λb hb=>?_⟩;have q:b=it:=by simpa using hb
  subst q;rw[ej nT.symm];exact hfi.1
 done:=by
  intro X hP hw hK hc i Â s σ H E I hf st hg;subst hP hw hK;obtain⟨e,hi⟩:=hg;obtain⟨ok,ov,h1⟩:=st;obtain⟨vs,Ş,da⟩:=We I e hd;have hl:ps.length=vs.length:=Ş.length;rw[hl]at h1 hi;refine wpAny_pyNext_items_end (I.ok.hd hc) h1 da (ĺ hi) λh' he'=>⟨rfl,?_⟩
  exact I.turnedL (t':=s.toks) (ch:=[it]) (λb ob hb q=>he' b ob (λz=>hb<|by simp[z]) q) hf
 self:=λA i s Q E st h=>by obtain⟨ok,ov,h1⟩:=st;exact PySem.W.kcp_self h1 h
abbrev Itk(a:Í)(o:Obj)(ps:List<|Key×V):It :=
 ⟨λi H=>H a=d9 (.frz o<|.dK ps)/\i<ps.length,λi H v H'=>H'=H/\∃k x,ps[i]?=d9 (k,x)/\v=kV k,λi H=>H a=d9 (.frz o<|.dK ps)/\ps.length<=i⟩
variable {tg:Expr}
def A2{K:Frag}(a it:Í)(hd:o.data=.dict ds ep) :
  Turn P w K tg (Itk a o ps) [it] it (λi h=>h.IsKeyIter it a i ps.length ep) where
 mem:=by simp
 obj:=λi h st b hb=>by
  obtain⟨ob,h1,_,h2⟩:=st;have q:b=it:=by simpa using hb
  subst q;exact⟨ob,h1,λv z=>by rw[h2]at z;cases z⟩
 keep:=λi h h' st k=>st.at λo e=>k it (by simp) o e
 item:=by intro X hP hw hK hc i Â s σ H E I hf st hg;subst hP hw hK;obtain⟨e,hi⟩:=hg;obtain⟨vs,Ş,da⟩:=We I e hd;have hl:ps.length=vs.length:=Ş.length;have hx:ps[i]?=d9 ps[i]:=Ê hi;obtain⟨u,hu,ru⟩:=Ş.at (k:=ps[i].1) (x:=ps[i].2) hx;rw[hl]at st;refine wpAny_pyNext_dict_item st da hu λkey h3 hk st3 hs=>?_;have I3:Inv X Â σ H {s with heap:=h3,toks:=s.toks}:=I.turnedL (t':=s.toks) (ch:=[it]) (λb ob hb q=>hs.extBut b ob (λz=>hb<|by simp[z]) q) hf;obtain⟨ob,ho,aD,hda⟩:=id st3;refine⟨key,rfl,eK (s:={s with heap:=h3,toks:=s.toks}) ho aD hda (by decide) ⟨kV ps[i].1,H,I3,Af hk,⟨rfl,_,_,hx,rfl⟩,?_,λb hb=>(hf b hb).1⟩⟩;show h3.IsKeyIter it a (i+1) ps.length ep;rw[hl];exact st3
 done:=by
  intro X hP hw hK hc i Â s σ H E I hf st hg;subst hP hw hK;obtain⟨e,hi⟩:=hg;obtain⟨vs,Ş,da⟩:=We I e hd;have hl:ps.length=vs.length:=Ş.length;rw[hl]at st hi;refine wpAny_pyNext_dict_end (I.ok.hd hc) st da (ĺ hi) λh' he'=>⟨rfl,?_⟩
  exact I.turnedL (t':=s.toks) (ch:=[it]) (λb ob hb q=>he' b ob (λz=>hb<|by simp[z]) q) hf
 self:=λA i s Q E st h=>wpAny_pyIter_keyiter st h
abbrev Py(X:Cx)(J:Í->Obj->List (Key×V)->It)(td:TE):TI:=λσ H R=>td σ H λx H1=>∃a ps,x=.ref a/\H1 a=d9 (.dK ps)/\∀o,(∀o u,X.H₀ a≠d9 (.frz o u))->R (J a o ps) (upd H1 a<|.frz o<|.dK ps)
variable {d:Expr} {td:TE}
def BO{Ŏ ş:Pos}(hd:PE X d td)(aw:Ħ d "items" X.env (eval d X.env)=eval d X.env)(ax:(Ŏ.endLine==ş.line)=eh) :
  PI X (.Tuple es kk tp) (.Call (.Attribute d "items" Ŏ) [] [] ş) (Py X Iti td):=by
 intro Â s σ H R I h;refine wpAny_Call_method0_late aw ax<|thn (hd Â s σ H _ I h) λv s1 ⟨x,H1,I1,r1,a,ps,ex,ea,q1⟩=>?_;subst ex;obtain rfl:v=Value.ref a:=r1;obtain⟨t1,t2,t3⟩:=L5 I1<|.inl ⟨ps,.inl ea⟩;refine⟨"dict","dict.items",PySem.F.plainAttrs_dict,PySem.F.slot_dict_items,PySem.F.type_dict_items,t1,t2,Calls.callWith_builtin rfl<|PySem.evalArgs_none ?_⟩;obtain⟨z,hsm,vs,Ş,dd⟩:=XG I1.hok ea;refine Κ PySem.F.slot_dict_items dd.typeIs PySem.F.entry_dict_items (PySem.F.args_dict_items_1 _) (meets_dict_items (Zc X.prog X.w) a hsm) ⟨⟨vs,dd⟩,?_⟩;have I2:Inv X Â σ H1 {s1 with heap:=s1.heap.push {cls:=.type "dict_items",data:=.fields #[.ref a]}}:=I1.kept (t':=s1.toks) λb o e=>Ä _ e;obtain⟨z2,hsm2,vs2,rel2,cL⟩:=XG I2.hok ea;obtain⟨ep,da⟩:=cL.dictAt;refine wpAny_pyIter_items (s:={s1 with heap:=s1.heap.push {cls:=.type "dict_items",data:=.fields #[.ref a]}}) (d:=a) ⟨_,Õ _ rfl,rfl,rfl⟩ da ?_;have I3:=I2.kept (t':=s1.toks) (h':=(s1.heap.push {cls:=.type "dict_items",data:=.fields #[.ref a]}).push {cls:=.type "dict_itemiterator",data:=.fields #[.none,.bool ei,.ref a,.int 0 0,.int vs2.length 0,.int ep 0,.none,.none]}) λb o e=>Ä _ e;obtain⟨ob,ds,ho,_,hdat,_⟩:=da;have I4:=I3.freeze ea<|Ä _ ho;refine⟨_,[_],_,_,_,rfl,I4,OY a _ hdat,⟨.none,.none,?_⟩,λb hb=>?_,q1 ob λo u z=>by have:=I1.base.frzs a o u z;rw[ea]at this;cases this⟩
 .rw[rel2.length];exact Õ _ rfl
 .have e:b=(s1.heap.push {cls:=.type "dict_items",data:=.fields #[.ref a]}).objs.size:=by simpa using hb
  subst e;have hn:=I2.hok.fresh<|Ì (s1.heap.push {cls:=.type "dict_items",data:=.fields #[.ref a]}).objs.size;exact I2.fpOk (Ì _) (by rw[ej<|by intro z;rw[z]at hn;rw[ea]at hn;cases hn];exact hn)
def FI(hd:PE X d td):PI X tg d<|Py X Itk td:=by
 intro Â s σ H R I h;refine thn (hd Â s σ H _ I h) λv s1 ⟨x,H1,I1,r1,a,ps,ex,ea,q1⟩=>?_;subst ex;obtain rfl:v=Value.ref a:=r1;obtain⟨z,hsm,vs,Ş,dd⟩:=XG I1.hok ea;obtain⟨ep,da⟩:=dd.dictAt;refine wpAny_pyIter_dict hsm da ?_;have I2:=I1.kept (t':=s1.toks) (h':=s1.heap.push {cls:=.type "dict_keyiterator",data:=.fields #[.ref a,.int 0 0,.int vs.length 0,.int ep 0]}) λb o e=>Ä _ e;obtain⟨ob,ds,ho,_,hdat,_⟩:=da;have I3:=I2.freeze ea<|Ä _ ho;refine⟨_,[_],_,_,_,rfl,I3,A2 a _ hdat,⟨_,Õ _ rfl,rfl,by rw[Ş.length];rfl⟩,λb hb=>?_,q1 ob λo u z=>by have:=I1.base.frzs a o u z;rw[ea]at this;cases this⟩;have e:b=s1.heap.objs.size:=by simpa using hb
 subst e;have hn:=I1.hok.fresh<|Ì s1.heap.objs.size;exact I1.fpOk (Ì _) (by rw[ej<|by intro z;rw[z]at hn;rw[ea]at hn;cases hn];exact hn)
abbrev TupsH(I S:Í)(items:Array Ã)(val:Nat->List Int)(h:Ć):Prop:=∀i v,items[i]?=d9 v->∃a ô,v=.ref a/\a≠I/\a≠S/\ϩ h a ô/\ÿ ô.toList (val i)
def TupsH.keep{I S:Í}{items:Array Ã}{val:Nat->List Int}{h h':Ć}(t:TupsH I S items val h)(k:∀b o,b≠I->b≠S->h.get? b=d9 o->h'.get? b=d9 o):TupsH I S items val h':=λi v e=>by obtain⟨a,ô,h1,h2,h3,⟨o,q1,q2⟩,h5⟩:=t i v e;exact⟨a,ô,h1,h2,h3,⟨o,k a o h2 h3 q1,q2⟩,h5⟩
abbrev btL(val:Nat->List Int)(i j:Nat):Bool:=HT.lexLt (val i)<|val j
section
variable {prog:å}{w:ø}{A:ĉ}{R:ai->Å->Prop}{I l:Í}{items:Array Ã}{val:Nat->List Int}{kw:List (Str×Ã)}{fp:List Í}{St:Nat->Ć->Prop}
def Av(W:Walks prog w A.in1 I fp [I] items.size (λi v=>items[i]?=d9 v) St)(hu:A.units+1<Ĭ)(S:Í)(hSI:S≠I)(hSf:S∉fp) :
  ∀(k j:Nat) (s:Å) (vb:Ã) (c:Nat),items.size - (j+1)=k->j+1<=items.size->St (j+1) s.heap->TupsH I S items val s.heap->items[Ĵ (btL val) j]?=d9 vb->
  s.heap.get? S=d9 {cls:=.type "list",dict:=ee,data:=.seq #[vb,vb] c,slots:=#[]}->
  (∀v h' tk,items[Ĵ (btL val)<|items.size - 1]?=d9 v->(∀b o,b≠I->b≠S->s.heap.get? b=d9 o->h'.get? b=d9 o)->R (.ok<|.ret v) {s with heap:=h',toks:=tk})->
  codeAny (ß prog w) A (.builtin "min.loop" ⟨[.ref I,.none,.ref S],kw⟩) R s:=by
 have aW:(toString "min" ++ toString ".loop" : String) = "min.loop":=by decide
 have hSw:S∉[I]:=by simp[hSI]
 intro k;induction k with
 |zero =>
  intro j s vb c hk hj ŷ hT hPb hS hR;have de:j+1=items.size:=by lia
  refine Ē PySem.F.entry_min_loop ?_;rw[ā PySem.F.plain_min_loop _];show wpAny _ A.in1 (ϳ (.ref S) >>= _) _ _ s;refine À<|ľ hS rfl ?_;show wpAny _ A.in1 (tryCatch (χ<|.ref I) _ >>= _) _ _ s;refine À<|ž<|W.done s _ _ (de▸ŷ) λh' tk ac=>?_;have hS':=ac S _ hSw hS;show wpAny _ A.in1 (dr S (λ_=>#[]) >>= _) _ _ _;refine À ?_;refine Δ hS' rfl<|À<|bx<|Æ ?_;refine hR vb _ tk (by rw[<-de];exact hPb) λb o hbw dI e=>(ð _ _<|Ne.symm dI).trans (ac b o (by simpa using hbw) e)
 |succ k ih =>
  intro j s vb c hk hj ŷ hT hPb hS hR;have ϒ:j+1<items.size:=by lia
  refine Ē PySem.F.entry_min_loop ?_;rw[ā PySem.F.plain_min_loop _];show wpAny _ A.in1 (ϳ (.ref S) >>= _) _ _ s;refine À<|ľ hS rfl ?_;show wpAny _ A.in1 (tryCatch (χ<|.ref I) _ >>= _) _ _ s;refine À<|ž<|W.item (j+1) s _ _ ϒ ŷ λv h' tk hP df ac=>?_;have hS':=ac S _ hSw hS;have cP:TupsH I S items val h':=hT.keep λb o h1 _ e=>ac b o (by simpa using h1) e;have hP:items[j+1]?=d9 v:=hP;obtain⟨a,ô,rfl,_,_,pa,ia⟩:=cP _ _ hP;obtain⟨b0,aN,rfl,_,_,pb,ib⟩:=cP _ _ hPb;show wpAny _ A.in1 (tryCatch (ł [.ref a,.ref a]<|ì .Lt (.ref a) (.ref b0) >>= _) _ >>= _) _ _ _;refine À<|ž<|Č<|À<|HT.lt_tupInts pa pb ia ib hu ?_;refine À<|Č<|č ?_;refine À<|bx<|Æ ?_;cases hb:HT.lexLt (val<|j+1) (val<|Ĵ (btL val) j)with
  |true =>
   have bf:btL val (j+1) (Ĵ (btL val) j)=eh:=hb;simp only[if_true];refine À ?_;refine Δ hS' rfl<|À<|bx ?_;rw[aW];refine Æ ⟨į PySem.F.plain_min_loop _,ih (j+1) _ (.ref a) _ (by lia) ϒ (W.frame _ _ _ df λb hbf o e=>?_) (cP.keep λb o _ h2 e=>(ð _ _<|Ne.symm h2).trans e) (by simp only[Ĵ,bf,if_true];exact hP) (ė _ hS' rfl)
     λv' h'' tk'' hP' hk''=>?_⟩
   .exact(ð _ _ λh:S=b=>hSf<|by rw[h];exact hbf).trans e
   .exact hR v' h'' tk'' hP' λb o hbw dI e=>hk'' b o hbw dI ((ð _ _<|Ne.symm dI).trans<|ac b o (by simpa using hbw) e)
  |false =>have bf:btL val (j+1) (Ĵ (btL val) j)=ei:=hb;simp only[ĩ,if_false];refine À<|bx ?_;rw[aW];refine Æ ⟨į PySem.F.plain_min_loop _,ih (j+1) _ (.ref b0) c (by lia) ϒ df cP (by simp only[Ĵ,bf,ĩ,if_false];exact hPb) hS' λv' h'' tk'' hP' hk''=>?_⟩;exact hR v' h'' tk'' hP' λb o hbw dI e=>hk'' b o hbw dI (ac b o (by simpa using hbw) e)
variable {s:Å} {c:Nat}
def Uk(W:Walks prog w A.in1 I fp [I] items.size (λi v=>items[i]?=d9 v) St)(hu:A.units+1<Ĭ)(S:Í)(hSI:S≠I)(hSf:S∉fp)(hn:0<items.size)(ŷ:St 0 s.heap)(hT:TupsH I S items val s.heap)
  (hS:s.heap.get? S=d9 {cls:=.type "list",dict:=ee,data:=.seq #[] c,slots:=#[]})
  (hR:∀v h' tk,items[Ĵ (btL val)<|items.size - 1]?=d9 v->(∀b o,b≠I->b≠S->s.heap.get? b=d9 o->h'.get? b=d9 o)->R (.ok<|.ret v) {s with heap:=h',toks:=tk}) :
  codeAny (ß prog w) A (.builtin "min.loop" ⟨[.ref I,.none,.ref S],kw⟩) R s:=by
 have aW:(toString "min" ++ toString ".loop" : String) = "min.loop":=by decide
 have hSw:S∉[I]:=by simp[hSI]
 refine Ē PySem.F.entry_min_loop ?_;rw[ā PySem.F.plain_min_loop _];show wpAny _ A.in1 (ϳ (.ref S) >>= _) _ _ s;refine À<|ľ hS rfl ?_;show wpAny _ A.in1 (tryCatch (χ<|.ref I) _ >>= _) _ _ s;refine À<|ž<|W.item 0 s _ _ hn ŷ λv h' tk hP df ac=>?_;have hS':=ac S _ hSw hS;have cP:TupsH I S items val h':=hT.keep λb o h1 _ e=>ac b o (by simpa using h1) e;show wpAny _ A.in1 (dr S (λ_=>#[v,v]) >>= _) _ _ _;refine À ?_;refine Δ hS' rfl ?_;rw[aW];refine Æ ⟨į PySem.F.plain_min_loop _,Av W hu S hSI hSf _ 0 _ v _ rfl hn (W.frame _ _ _ df λb hbf o e=>?_) (cP.keep λb o _ h2 e=>(ð _ _<|Ne.symm h2).trans e) hP (ė _ hS' rfl) λv' h'' tk'' hP' hk''=>?_⟩
 .exact(ð _ _ λh:S=b=>hSf<|by rw[h];exact hbf).trans e
 .exact hR v' h'' tk'' hP' λb o hbw dI e=>hk'' b o hbw dI ((ð _ _<|Ne.symm dI).trans<|ac b o (by simpa using hbw) e)
def AF(hh:A.handled=ee)(hlI:l≠I)(S:Í)(hSI:S≠I)(hn:items.size=0){nm:Str}{d:Ã}(ŷ:s.heap.IsListIter I l 0/\s.heap.IsList l items)
  (hS:s.heap.get? S=d9 {cls:=.type "list",dict:=ee,data:=.seq #[] c,slots:=#[]})
  (hR:∀h' tk,(∀b o,b≠I->s.heap.get? b=d9 o->h'.get? b=d9 o)->R (.ok<|.ret d) {s with heap:=h',toks:=tk}) :
  codeAny (ß prog w) A (.builtin "min.loop" ⟨[.ref I,.none,.ref S],[(nm,d)]⟩) R s:=by
 have W:=Walks.list (prog:=prog) (w:=w) (A:=A.in1) hh I l hlI items;refine Ē PySem.F.entry_min_loop ?_;rw[ā PySem.F.plain_min_loop _];show wpAny _ A.in1 (ϳ (.ref S) >>= _) _ _ s;refine À<|ľ hS rfl ?_;show wpAny _ A.in1 (tryCatch (χ<|.ref I) _ >>= _) _ _ s;refine À (ž<|W.done s _ _ (by rw[hn];exact ŷ) λh' tk ac=>?_);show wpAny _ A.in1 (rule _ >>= λ_=>ret d) _ _ _;exact À (Ξ<|Æ<|hR h' tk λb o hb e=>ac b o (by simpa using hb) e)
end
def AN(a:Ã):cg "min" ⟨[a],[(gh "default",.none)]⟩:=by unfold cg;kernel_rfl
def J6(bt:Nat->Nat->Bool):∀k,Ĵ bt k<=k
 |0=>Ì _
 |k+1=>by
  unfold Ĵ;split
  .exact Ì _
  .exact Nat.le_succ_of_le<|J6 bt k
def M4:∀{xs:List V}{us:List Ã}{i:Nat}{u:Ã},fR xs us->us[i]?=d9 u->∃x,xs[i]?=d9 x/\RelV x u
 |_,_,_,_,.nil,e=>by simp at e
 |_,_,0,_,.cons r _,e=>by simp at e;subst e;exact⟨_,rfl,r⟩
 |_,_,i+1,_,.cons _ t,e=>by obtain⟨x,h1,h2⟩:=M4 (i:=i) t (by simpa using e);exact⟨x,by simpa using h1,h2⟩
section
variable {X:Cx}
def Bt{Â:List (Í×Obj)}{s:Å}{σ:St}{H:Hp}{a:Í}{xs:List V}{ğ:List (List Int)}{Q:VK}(hc:X.calm=eh)(hu:X.A.units+1<Ĭ)(I:Inv X Â σ H s)(hl:fP X.K H a xs)(hr:ğ.length=xs.length)
  (ht:∀i,i<ğ.length->∃p,xs[i]?=d9 (.ref p)/\fQ X.K H p ((ğ.getD i []).map V.int))
  (q0:xs=[]->Q .non H) (q1:xs≠[]->∀x,xs[Ĵ (btL λi=>ğ.getD i [])<|xs.length - 1]?=d9 x->Q x H) :
  wpAny (ß X.prog X.w) X.A (call (.builtin "min") [.ref a] [(gh "default",.none)]) (EP X Â σ Q) X.xe s:=by
 have aW:(toString "min" ++ toString ".loop" : String) = "min.loop":=by decide
 obtain⟨ô,rv,pl,hz⟩:=I.list hl;have hlen:=rv.length;have dg:=pl.isList;obtain⟨ol,hol,_⟩:=id dg;have hll:a<s.heap.objs.size:=Ô hol;refine PyProof.Rows.kmk_tree PySem.F.kind_min PySem.F.plain_min PySem.F.entry_min (AN _) ?_;show wpAny _ X.A.in1 (Builtin.Builtins.bindParams "min" ["key","default"] 0 ⟨[],[(gh "default",.none)]⟩ >>= _) _ _ s;refine À (bq (show Builtin.Builtins.bindParams "min" ["key","default"] 0 ⟨[],[(gh "default",.none)]⟩=pure [ee,d9 .none] from rfl) ?_);refine À<|Æ ?_;refine À<|ż dg ?_;refine À<|cW ?_<|ĕ _;rw[aW];have hS:(s.heap.push {cls:=.type "list_iterator",data:=.fields #[.ref a,.int 0 0]}).objs.size=s.heap.objs.size+1:=size_push' ..;have hlI:a≠s.heap.objs.size:=à hll;have hSI:(s.heap.push {cls:=.type "list_iterator",data:=.fields #[.ref a,.int 0 0]}).objs.size≠s.heap.objs.size:=by rw[hS];exact ő<|Ĝ _
 have hSl:(s.heap.push {cls:=.type "list_iterator",data:=.fields #[.ref a,.int 0 0]}).objs.size≠a:=by rw[hS];exact ő<|ı hll
 have kk:∀b o,s.heap.get? b=d9 o->((s.heap.push {cls:=.type "list_iterator",data:=.fields #[.ref a,.int 0 0]}).push<|Α "list" #[] 0).get? b=d9 o:=λb o e=>Ä _<|Ä _ e;have gI:((s.heap.push {cls:=.type "list_iterator",data:=.fields #[.ref a,.int 0 0]}).push<|Α "list" #[] 0).get? s.heap.objs.size=d9 {cls:=.type "list_iterator",data:=.fields #[.ref a,.int 0 0]} :=
  Ä _ (Õ _ rfl)
 have gS:((s.heap.push {cls:=.type "list_iterator",data:=.fields #[.ref a,.int 0 0]}).push<|Α "list" #[] 0).get? (s.heap.push {cls:=.type "list_iterator",data:=.fields #[.ref a,.int 0 0]}).objs.size=d9 (Α "list" #[] 0):=Õ _ rfl;have Ϣ:∀b o,s.heap.get? b=d9 o->b≠s.heap.objs.size/\b≠(s.heap.push {cls:=.type "list_iterator",data:=.fields #[.ref a,.int 0 0]}).objs.size:=λb o e=>by have:=Ô e;rw[hS];exact⟨à this,à<|ı this⟩
 have ŷ:Heap.IsListIter ((s.heap.push {cls:=.type "list_iterator",data:=.fields #[.ref a,.int 0 0]}).push<|Α "list" #[] 0) s.heap.objs.size a 0/\Heap.IsList ((s.heap.push {cls:=.type "list_iterator",data:=.fields #[.ref a,.int 0 0]}).push<|Α "list" #[] 0) a ô.toArray:=by refine⟨⟨_,gI,rfl,rfl⟩,?_⟩;obtain⟨o,e,r⟩:=dg;exact⟨o,kk _ _ e,r⟩
 refine Æ ⟨į PySem.F.plain_min_loop _,?_⟩;by_cases h0:xs=[]
 .have hi:ô.toArray.size=0:=by rw[Ï,<-hlen,h0];rfl
  refine AF (I:=s.heap.objs.size) (A:=X.A) (l:=a) (items:=ô.toArray) (I.ok.hd hc) hlI _ hSI hi ŷ gS λh' tk hk=>?_;exact⟨.non,H,I.kept (t':=tk) λb o e=>hk b o (Ϣ b o e).1<|kk b o e,rfl,q0 h0⟩
 .have hi:0<ô.toArray.size:=by
   rw[Ï,<-hlen];exact cX.mpr h0
  refine Uk (A:=X.A) (items:=ô.toArray) (val:=λi=>ğ.getD i []) (Walks.list (A:=X.A.in1) (I.ok.hd hc) s.heap.objs.size a hlI ô.toArray) hu _ hSI (λz=>(Ç.mp z).elim hSI λz=>hSl<|Ó.mp z) hi ŷ (λi v e=>?_) gS λv h' tk hv hk=>?_
  .have e:ô[i]?=d9 v:=by simpa using e
   have hi':i<ğ.length:=by rw[hr,hlen];exact(Î.mp e).1
   obtain⟨p,bN,hp2⟩:=ht i hi';obtain⟨x,hx,rx⟩:=M4 rv e;rw[bN]at hx;cases hx;obtain rfl:v=Value.ref p:=rx;obtain⟨tt,r2,⟨o2,e2,rest⟩,_⟩:=I.tuple hp2;exact⟨p,tt.toArray,rfl,(Ϣ p o2 e2).1,(Ϣ p o2 e2).2,⟨o2,kk _ _ e2,rest⟩,ZI r2⟩
  .have hv:ô[Ĵ (btL λi=>ğ.getD i [])<|xs.length - 1]?=d9 v:=by rw[hlen];simpa using hv
   obtain⟨x,hx,rx⟩:=M4 rv hv;exact⟨x,H,I.kept (t':=tk) λb o e=>hk b o (Ϣ b o e).1 (Ϣ b o e).2<|kk b o e,rx,q1 h0 x hx⟩
abbrev Rw(K:Frag)(ta:TA):TE:=λσ H Q=>ta σ H λvs H1=>∃a xs,∃ğ:List<|List Int,vs=[.ref a]/\fP K H1 a xs/\ğ.length=xs.length/\
 (∀i,i<ğ.length->∃p,xs[i]?=d9 (.ref p)/\fQ K H1 p ((ğ.getD i []).map V.int))/\(xs=[]->Q .non H1)/\(xs≠[]->∀x,xs[Ĵ (btL λi=>ğ.getD i [])<|xs.length - 1]?=d9 x->Q x H1)
def FL{e:Expr}{ta:TA}{p ë kp kpos:Pos}{kk:Nat}(hc:X.calm=eh)(hu:X.A.units+1<Ĭ)(hg:Gl X "min")(hm:X.mg "min" = ee)(ha:PA X [e] ta)(hs:Þ [e] X.env=[(ei,eval e X.env)]) :
  PE X (.Call (.Name "min" p) [e] [⟨d9 "default",.Constant .none kk kp,kpos⟩] ë) (Rw X.K ta):=by
 intro Â s σ H Q I h;refine Į (YM (u:=.builtin "min") I hg hm (by kernel_rfl) ?_);refine PyProof.Rows.callWith_kw (e:=e) (rest:=[]) ?_ (by rw[hs];rfl) (by rw[hs];rfl) rfl rfl;refine thn (ha ë Â s σ H _ I h) λus s1 ⟨vs,H1,I1,r1,a,xs,ğ,ev,hl,hr,ht,q0,q1⟩=>?_;subst ev;obtain⟨u,rfl,ru⟩:=ZQ r1;cases ru;refine PyProof.Rows.kws_cons<|thn (Do Â s1 σ H1 (λv H2=>v=.non/\H2=H1) I1 ⟨rfl,rfl⟩) λv s2 ⟨x,H2,I2,r2,e1,e2⟩=>PyProof.Rows.kws_nil ?_;subst e1 e2;obtain rfl:v=Value.none:=r2;exact Bt hc hu I2 hl hr ht q0 q1
def Wo{P:å}{w:ø}:∀{ns:List Int}{vs:List (Key×Ã)}{Ė:List Ã},vs.map (·.1)=ns.map Sum.inl->Ė.length=vs.length->(∀(j:Nat) (v:Ã),Ė[j]?=d9 v->∃(k:Key) (x:Ã),vs[j]?=d9 (k,x)/\(Zc P w).is k v=eh)->ÿ Ė ns
 |[],[],[],_,_,_=>.nil
 |[],_::_,_,h,_,_=>by cases h
 |_::_,[],_,h,_,_=>by cases h
 |[],[],_::_,_,h,_=>by cases h
 |_::_,_::_,[],_,h,_=>by cases h
 |n::ns,p::vs,u::Ė,h1,h2,h3=>by rw[Ñ,Ñ]at h1;injection h1 with h1 h1';obtain⟨k,x,e1,e2⟩:=h3 0 u rfl;simp at e1;subst e1;have h1:k=Sum.inl n:=h1;subst h1;obtain⟨t,rfl⟩:∃t,u=Value.int n t:=Af (k:=Sum.inl n) (u:=u) e2;exact .cons n t (Wo (P:=P) (w:=w) h1' (by simpa using h2) λj v e=>by simpa using h3 (j+1) v (by simpa using e))
def ME(hc:X.calm=eh):eN X (.builtin "sorted") (λxs H Q=>∃p kvs,∃ns:List Int,xs=[.ref p]/\Rd H p (.dK kvs)/\kvs.map (·.1)=ns.map Sum.inl/\ns.length<64/\∀l,H l=ee->Q (.ref l) (upd H l<|.lst<|(sortI ns).map V.int)):=by
 intro Â s σ H xs us Q I r h;obtain⟨p,kvs,ns,rfl,hp,hk,h64,q⟩:=h;obtain⟨u,rfl,rx⟩:=ZQ r;cases rx;obtain⟨z,hsm,vs,Ş,dd⟩:=Wd I.hok hp;obtain⟨ep,da⟩:=dd.dictAt;have hlen:vs.length=ns.length:=by have:=congrArg List.length hk;simpa[Ş.length]using this
 refine Calls.call_function_entry kind_sorted plain_sorted entry_sorted (args_sorted1 _) ?_;unfold Builtin.«sorted»;refine À (m:=checkCount "sorted" 1 1 _)<|Æ ?_;refine À (PySem.W.kdu_collect (A:=X.A.in1) (PySem.W.kdl_dict (knd:=Zc X.prog X.w) (kvs:=vs) (ep:=ep) hsm) (I.ok.hd hc) da (by rw[<-Ş.length];exact z) λh' tk Ė hkeep dh=>?_);have hl:Ė.toList.length=vs.length:=by rw[ñ];exact dh.1
 refine À (cW ?_<|by rw[hl,<-Ş.length];exact z);have hI:ÿ Ė.toList ns:=Wo (P:=X.prog) (w:=X.w) (by rw[<-Ş.keys];exact hk) hl λj v e=>dh.2 j v (by rw[<-ă];exact e);have hoL:(h'.push<|Α "list" Ė.toList.toArray 0).get? h'.objs.size=d9 (Α "list" Ė.toList.toArray 0):=Õ _ rfl;have I1:Inv X Â σ H {s with heap:=h',toks:=tk}:=I.kept hkeep;refine À (Č<|Ġ slot_list_sort ⟨_,hoL,rfl⟩ entry_list_sort (list_sort_tree hoL hI (by rw[hl,hlen];exact h64) λout bX a1 a2 a3=>⟨_,rfl,?_⟩)<|args_list_sort _);have e:=YL a2 a3;subst e;obtain⟨n,he⟩:=sortedHeap_at (out:=out) hoL;refine Æ ⟨_,rfl,.ref h'.objs.size,_,I1.laid (a:=h'.objs.size) (o:=.lst<|(sortI ns).map V.int) (t':=tk) (λb o e=>?_) (Ì _) ?_,rfl,q _<|I1.hok.fresh<|Ì _⟩
 .have e:h'.get? b=d9 o:=e;have hb:=Ô e;rw[sortedHeap_old (à hb)<|by rw[size_push'];exact ı hb];exact Ä _ e
 .exact⟨by rw[Á,YR];unfold Ý;lia,out.toList,n,YO a1,by simpa[Α]using he⟩
end
end L2
namespace Srt
open PySem.W PyProof.Rows
abbrev ok(n:Nat)(lt:Nat->Nat->Bool){α:Type}:KasT α->(α->Prop)->Prop
 |.ret a,Q=>Q a
 |.ask i j k,Q=>i<n/\j<n/\ok n lt (k<|lt i j) Q
section
variable {n:Nat}{lt:Nat->Nat->Bool}
abbrev K(p:Array Nat)(k:Nat):Nat:=p.getD k 0
end
end Srt
namespace Snd
open PySem L2
variable {i:Inf}{X:Cx}{Φ:O.Fs}
def NI{H:Hp}:∀{kvs:List (O.Val×O.Val)}{ps:List (Key×V)}{ns:List Int},RKs i.K H kvs ps->O.keysOf kvs=d9 ns->ps.map (·.1)=ns.map Sum.inl
 |_,_,ns,.nil,e=>by have e:d9 []=d9 ns:=e;cases e;rfl
 |(k,v)::kvs,_,ns,.cons (c:=c) hk _ t,e=>by
  have e:O.eM (k::kvs.map (·.1))=d9 ns:=e;cases k with
  |int j =>
   have e:(O.eM (kvs.map (·.1))).map (j :: ·)=d9 ns:=e;obtain⟨ms,z,rfl⟩:=È.mp e;have ih:=NI (ns:=ms) t z;cases c with
   |inl l =>have hk:j=l:=hk;subst hk;rw[Ñ,Ñ,ih]
   |inr _=>exact(show False from hk).elim
  |_=>cases e
def K1:∀{ys:List O.Val}{ns:List Int},O.eM ys=d9 ns->ys=ns.map .int
 |[],_,e=>by cases e;rfl
 |y::ys,ns,e=>by
  cases y with
  |int j =>obtain⟨ms,z,rfl⟩:=È.mp (show(O.eM ys).map (j :: ·)=d9 ns from e);rw[Ñ,<-K1 z]
  |_=>cases e
def NM{H:Hp}:∀{xs:List O.Val}{us:List V}{ğ:List (List Int)},RVs i.K H xs us->O.rowsOf xs=d9 ğ->ğ.length=us.length/\(∀n,n<ğ.length->∃p,us[n]?=d9 (.ref p)/\fQ i.K H p ((ğ.getD n []).map V.int))/\xs=ğ.map λr=>.tup (r.map .int)
 |_,_,ğ,.nil,e=>by have e:d9 []=d9 ğ:=e;cases e;exact⟨rfl,λn h=>gf h<|Nat.not_lt_zero _,rfl⟩
 |v::xs,_,ğ,.cons r t,e=>by
  cases v with
  |tup ys =>
   obtain⟨ns,z1,e⟩:=ï.mp (show(O.eM ys).bind (λns=>(O.rowsOf xs).map (ns :: ·))=d9 ğ from e);obtain⟨rs,z2,rfl⟩:=È.mp e;obtain⟨h1,h2,h3⟩:=NM t z2;cases r with
   |tup hp hr =>
    have:=Z2 z1 hr;subst this;refine⟨by rw[Ë,Ë,h1],λn hn=>?_,?_⟩
    .cases n with
     |zero=>exact⟨_,rfl,Zm hp⟩
     |succ n=>exact h2 n (by simpa using hn)
    .rw[Ñ,<-h3];have:ys=ns.map .int:=K1 z1;rw[this]
  |_=>cases e
def Uf:Jm i .sortedI (λxs H Q=>(∃p,∃ns:List Int,xs=[.ref p]/\fP i.K H p (ns.map V.int)/\ns.length<64/\∀l,H l=ee->Q (.ref l) (upd H l<|.lst<|(L2.sortI ns).map V.int))\/
    (∃p kvs,∃ns:List Int,xs=[.ref p]/\Rd H p (.dK kvs)/\kvs.map (·.1)=ns.map Sum.inl/\ns.length<64/\∀l,H l=ee->Q (.ref l) (upd H l<|.lst<|(L2.sortI ns).map V.int))):=by
 intro vs G H xs Q Qm g r w c;obtain⟨v,rfl,w⟩:=Xh w;obtain⟨x,rfl,rx⟩:=r.inv1;have key:∀(ns:List Int),(if ns.length<64 then O.Rs.new (.lst<|(O.sortI ns).map .int)else .no).wp G Qm->ns.length<64/\∀l,H l=ee->Q (.ref l) (upd H l<|.lst<|(L2.sortI ns).map V.int):=λns w=>by
  split at w
  .rename_i h64;exact⟨h64,ZZ g (XM w) c λp hp=>⟨_,ez,RVs.ints _⟩⟩
  .exact(Zi w).elim
 cases v with
 |ref a =>
  cases rx.ref_inv
  replace w:(O.biSortedI G<|.ref a).wp G Qm:=w
  unfold O.biSortedI O.sortAny at w;dsimp only at w;cases z:G a with
  |none=>rw[z]at w;exact(Zi w).elim
  |some o =>
   rw[z]at w;cases o with
   |lst ys =>
    cases z2:O.eM ys with
    |none=>simp only[z2]at w;exact(Zi w).elim
    |some ns =>simp only[z2]at w;obtain⟨us,h1,h2⟩:=g a _ z;have:=Z2 z2 h2;subst this;exact .inl ⟨a,ns,rfl,fP.of h1,key ns w⟩
   |dct kvs =>
    cases z2:O.keysOf kvs with
    |none=>simp only[z2]at w;exact(Zi w).elim
    |some ns =>simp only[z2]at w;obtain⟨ps,h1,h2⟩:=g a _ z;exact .inr ⟨a,ps,ns,rfl,.inl h1,NI h2 z2,key ns w⟩
   |_=>exact(Zi w).elim
 |scr ns =>
  cases rx with
  |scr h=>exact .inl ⟨_,ns,rfl,Yr h,key ns w⟩
 |_=>exact(Zi w).elim
end Snd
namespace Snd
open PySem L2 PyProof.Rows
variable {i:Inf}{X:Cx}{Φ:O.Fs}
def Mb:∀(ns:List Int) (a:Int),a∈O.dedup ns↔a∈ns
 |[],a=>Iff.rfl
 |x::xs,a=>by
  have ih:=Mb xs a;unfold O.dedup;simp only[Ç,Ę,ih];constructor
  .rintro(h|h)
   .exact .inl h
   .exact .inr h.1
  .rintro(h|h)
   .exact .inl h
   .by_cases e:a=x
    .exact .inl e
    .exact .inr ⟨h,by simpa using e⟩
def WP:∀ns:List Int,(O.dedup ns).Nodup
 |[]=>Ģ
 |x::xs=>by unfold O.dedup;rw[Ā];refine⟨λh=>?_,List.Nodup.sublist ţ<|WP xs⟩;have:=(Ę.mp h).2;simp at this
def Kg:∀(ns Ė:List Int),Ė.Nodup->(ns.foldl Ś Ė).Nodup/\∀a,a∈ns.foldl Ś Ė↔a∈Ė\/a∈ns
 |[],Ė,h=>⟨h,λa=>by simp⟩
 |x::xs,Ė,h=>by
  have h2:(Ś Ė x).Nodup/\∀a,a∈Ś Ė x↔a∈Ė\/a=x:=by
   unfold Ś;split
   .rename_i hc;have hm:x∈Ė:=by simpa using hc
    exact⟨h,λa=>⟨.inl,λz=>z.elim id λe=>e▸hm⟩⟩
   .rename_i hc;have hm:x∉Ė:=by simpa using hc
    refine⟨?_,λa=>by simp⟩;rw[æ];refine⟨h,by simp,λa ha b hb=>?_⟩;rw[Ó.mp hb];exact λe=>hm<|e▸ha
  obtain⟨h3,h4⟩:=Kg xs (Ś Ė x) h2.1;refine⟨h3,λa=>?_⟩;rw[İ,h4,h2.2,Ç];constructor
  .rintro((z|z)|z)
   .exact .inl z
   .exact .inr<|.inl z
   .exact .inr<|.inr z
  .rintro(z|z|z)
   .exact .inl<|.inl z
   .exact .inl<|.inr z
   .exact .inr z
def NS(ns:List Int):(Ž (λi=>ns.getD i 0) ns.length).Perm<|O.dedup ns:=by
 have e:(List.range ns.length).map (λi=>ns.getD i 0)=ns:=by
  apply List.ext_getElem
  .simp
  .intro k h1 h2;simp at h1;simp[h1]
 unfold Ž;rw[e];obtain⟨h1,h2⟩:=Kg ns [] Ģ;refine(aS h1<|WP ns).mpr λa=>?_;rw[h2,Mb];simp
def FP(ns:List Int):(Ž (λi=>ns.getD i 0) ns.length).length=(O.dedup ns).length:=(NS ns).length_eq
def NH{G:O.Hs}{H:Hp}{v:O.Val}{x:V}{ns:List Int}(g:RH i G H)(r:RV i.K H v x)(e:O.sortOf G v=d9 ns):∃p,x=.ref p/\fP i.K H p (ns.map V.int):=by
 cases v with
 |ref a =>obtain⟨ys,z1,z2⟩:=ï.mp (show(O.eS<|G a).bind O.eM=d9 ns from e);obtain⟨us,h1,h2⟩:=ZS g z1;have:=Z2 z2 h2;subst this;exact⟨a,r.ref_inv,h1⟩
 |scr ms =>
  cases e;cases r with
  |scr h=>exact⟨_,rfl,Yr h⟩
 |_=>cases e
def Ma:∀{xs:List O.Val}{k n:Nat}{v:O.Val},(O.enumL k xs)[n]?=d9 v->∃x,xs[n]?=d9 x/\v=.tup [.int ((k+n:Nat):Int),x]
 |[],k,n,v,h=>by simp[O.enumL]at h
 |x::xs,k,0,v,h=>by have h:d9 (O.Val.tup [.int k,x])=d9 v:=h;cases h;exact⟨x,rfl,rfl⟩
 |x::xs,k,n+1,v,h=>by obtain⟨y,h1,h2⟩:=Ma (xs:=xs) (k:=k+1) (n:=n) (v:=v) (by simpa[O.enumL]using h);refine⟨y,by simpa using h1,?_⟩;rw[h2,show k+1+n=k+(n+1) by lia]
def KM:∀(xs:List O.Val) (k:Nat),(O.enumL k xs).length=xs.length
 |[],_=>rfl
 |x::xs,k=>by show(O.enumL (k+1) xs).length+1=xs.length+1;rw[KM xs]
variable {xs:List O.Val}
def BX{H0:Hp}{a:Í}{us:List V}(ha:H0 a=d9 (.tup us)\/KT i.K a us)(ra:RVs i.K H0 xs us):ItOk i H0 (Ite i.K a) (λ_=>True) (O.enumL 0 xs) where
 go:=λn G H v k g e hv=>by obtain⟨x,hx,rfl⟩:=Ma hv;have h1:fQ i.K H a us:=Zm<|ha.imp (k.t _ _) id;obtain⟨x',h5,h6⟩:=(ra.keep k).get hx;refine⟨⟨us,x',h1,h5⟩,λw H' ⟨p,e1,hp,e2⟩=>?_⟩;subst e1;have:=e2 us x' h1 h5;subst this;have k:=fb.new (o:=.tup [.int n,x']) hp;refine⟨k,W5 g hp,.tup (.inl ez)<|.cons ?_<|.cons (h6.keep k) .nil⟩;rw[ξ];exact .int _
 stop:=λn G H k g e hn=>by have h1:fQ i.K H a us:=Zm<|ha.imp (k.t _ _) id;exact⟨us,h1,by rw[<-ra.length,<-KM xs 0];exact hn⟩
def Ox{v:O.Val}(h:O.tupOf v=d9 xs):v=.tup xs:=by
 cases v with
 |tup ys=>cases h;rfl
 |_=>cases h
variable {p:Pos} {ë:Pos} {e:Expr} {m:O.E}
def FS{es:List Expr}{kk:Nat}{tp:Pos}(hK:X.K=i.K)(hg:Gl X "enumerate")(hm:X.mg "enumerate" = ee)(he:PE X e<|tE X i Φ m)(hs:Þ [e] X.env=[(ei,eval e X.env)]) :
  PI X (.Tuple es kk tp) (.Call (.Name "enumerate" p) [e] [] ë) (tIt X i Φ<|.enum m) :=
 (EE hg hm (ZW he fN hs) hs).imp λσ H R ⟨env,G,QI,Em,p,w,c⟩=>by
  change tE X i Φ m σ H _;refine one p w λv G1 H1 x k1 p1 rx q=>?_;obtain⟨xs,e1,q2⟩:=eF q;clear q;cases Ox e1;rw[hK];cases rx with
  |tup hp hr=>exact⟨_,rfl,⟨_,Zm hp⟩,c _ _ G1 H1 _ k1 p1.hp (BX hp hr) q2⟩
def CD{p2 cE:Pos}(hc:X.calm=eh)(hK:X.K=i.K)(he:PE X e<|tE X i Φ m)(hg:Gl X "len")(hm:X.mg "len" = ee)(hg2:Gl X "set")(hm2:X.mg "set" = ee)(ŷ:Þ [e] X.env=[(ei,eval e X.env)]) :
  PE X (.Call (.Name "len" p) [.Call (.Name "set" p2) [e] [] cE] [] ë) (tE X i Φ<|.bi .lenSet<|.cons m .nil):=by
 refine(Yn Bg hg hm (by kernel_rfl)<|ZW (Ym DV hg2 hm2 (by kernel_rfl) (ZW he fN ŷ) (he:=ŷ)) fN).imp λσ H Q ⟨env,G,Qm,Em,p,w,c⟩=>?_;change tE X i Φ m σ H _;refine one p w λv G1 H1 x k1 p1 r q=>?_
 replace q:(O.biLenSet G1 v).wp G1 Qm:=q
 unfold O.biLenSet at q;cases z:O.sortOf G1 v with
 |none=>rw[z]at q;exact(Zi q).elim
 |some ns =>
  rw[z]at q;dsimp only at q;split at q
  .rename_i h4;obtain⟨a,rfl,hs⟩:=NH p1.hp r z;refine⟨a,ns,rfl,by rw[hK];exact hs,h4,hc,λl S n hl hn=>?_⟩;have hn2:=hn.trans<|FP ns;clear hn;subst hn2;have k2:fb H1<|upd H1 l<|.set S (O.dedup ns).length:=fb.new hl;refine⟨l,S,_,rfl,ez,?_⟩;exact c _ G1 _ _ (k1.trans k2) (W5 p1.hp hl) (.int _)<|Zo q
  .exact(Zi q).elim
end Snd
namespace L2
open PySem PySem.Spec PyProof.Rows
open PySem.Builtin
def ML:typeLookup (.type "list") "keys" = pure ee:=by rw[bI,Ϥ];kernel_rfl
def YY:entryFor table "dict.update.loop" = d9 Builtin.«dict.update.loop»:=entryFor_of_tree (by kernel_rfl)
def ZM:plainId "dict.update.loop" = eh:=by decide +kernel
section
variable {prog:å}{w:ø}{A:ĉ}{E:Ã->Å->Prop}
def A3{s:Å}{a:Í}{xs:Array Ã}{k:Nat}{Q:Option Ã->Å->Prop}(hx:s.heap.get? a=d9 {cls:=.type "list",data:=.seq xs k})(hA:A.handled=ee)
  (h:∀h' tk,(∀b o,s.heap.get? b=d9 o->h'.get? b=d9 o)->Q ee {s with heap:=h',toks:=tk}) :
  wpAny (ß prog w) A (getAttr? (.ref a) "keys") Q E s:=by
 obtain⟨hp,g,d,tk,os⟩:=s;have hT:∀tk',(⟨hp,g,d,tk',os⟩:Å).TypeIs (.ref a) "list":=λ_=>⟨_,hx,rfl⟩
 have f1:=sub_AttributeError;have f3:=F.slot_list_getattribute.lookup;have f4:=F.slot_list_getattribute.bind<|.ref a;have f5:=am_list_getattr_none;unfold getAttr? getAttrBy? getAttrBy
 repeat (any_goals (first|assumption|exact hT _|((with_reducible show wpAny _ _ (call (Value.builtin "list.__getattribute__") _ _) _ _ _);refine al F.slot_list_getattribute (hT _) am_entry_list_getattribute (F.args_list_getattribute_2 _ _) (meets_getattribute_miss_list a xs k _ "keys" _ ML (by decide)<|by size_fits) ⟨hx,hA,λh' tk' e hx'=>?_⟩)|wp_step))
 obtain⟨t',u',he⟩:=hx'.there;show wpAny _ _ (getattributeRaised _ _ _ _ _ _ _) _ _ _;unfold getattributeRaised
 repeat (any_goals (first|assumption|wp_step))
 exact h _ _ hx'.keeps
abbrev PairsH(I d:Í)(items:Array Ã)(vals:List<|Key×Ã)(prog:å)(w:ø)(h:Ć):Prop:=∀(i:Nat) (v:Ã),items[i]?=d9 v->∃(a:Í) (key:Ã) (p:Key×Ã),v=.ref a/\a≠I/\a≠d/\vals[i]?=d9 p/\ϩ h a #[key,p.2]/\(Zc prog w).is p.1 key=eh
variable {I:Í} {d:Í} {items:Array Ã} {vals:List (Key×Ã)}
def PairsH.keep{h h':Ć}(t:PairsH I d items vals prog w h)(k:∀b o,b≠I->b≠d->h.get? b=d9 o->h'.get? b=d9 o):PairsH I d items vals prog w h':=λi v e=>by obtain⟨a,key,p,h1,h2,h3,h4,⟨o,q1,q2⟩,h5⟩:=t i v e;exact⟨a,key,p,h1,h2,h3,h4,⟨o,k a o h2 h3 q1,q2⟩,h5⟩
def Ud{R:ai->Å->Prop}{l:Í}(hh:A.handled=ee)(hlI:l≠I)(hdI:d≠I)(hdl:d≠l)(hv:vals.length=items.size) :
  ∀(k j:Nat) (s:Å) (Ė:List<|Key×Ã) (t:Tok),items.size - j=k->j<=items.size->(s.heap.IsListIter I l j/\s.heap.IsList l items)->PairsH I d items vals prog w s.heap->s.heap.DictOf (Zc prog w) d Ė->Ė.length+k<=Ý->
  (∀h' tk,h'.DictOf (Zc prog w) d ((vals.drop j).foldl (λm p=>dU m p.1 p.2) Ė)->(∀b o,b≠I->b≠d->s.heap.get? b=d9 o->h'.get? b=d9 o)->R (.ok<|.ret .none) {s with heap:=h',toks:=tk})->
  codeAny (ß prog w) A (.builtin "dict.update.loop" ⟨[.ref d,.ref I,.int j t,.none],[]⟩) R s:=by
 have W:=Walks.list (prog:=prog) (w:=w) (A:=A.in1) hh I l hlI items;intro k;induction k with
 |zero =>
  intro j s Ė t hk hj ŷ hT hd hz hR;have de:j=items.size:=by lia
  refine Ē YY ?_;rw[ā ZM _];show wpAny _ A.in1 (χ (.ref I) >>= _) _ _ s;refine À<|W.done s _ _ (de▸ŷ) λh' tk ac=>?_;refine Æ ?_;refine hR h' tk ?_ λb o h1 _ e=>ac b o (by simpa using h1) e;rw[ĳ<|by lia];obtain⟨o,es,ep,ho,r⟩:=hd;exact⟨o,es,ep,ac d o (by simpa using hdI) ho,r⟩
 |succ k ih =>
  intro j s Ė t hk hj ŷ hT hd hz hR;have ϒ:j<items.size:=by lia
  refine Ē YY ?_;rw[ā ZM _];show wpAny _ A.in1 (χ (.ref I) >>= _) _ _ s;refine À<|W.item j s _ _ ϒ ŷ λv h' tk hP df ac=>?_;have cP:PairsH I d items vals prog w h':=hT.keep λb o h1 _ e=>ac b o (by simpa using h1) e;have hd':h'.DictOf (Zc prog w) d Ė:=by obtain⟨o,es,ep,ho,r⟩:=hd;exact⟨o,es,ep,ac d o (by simpa using hdI) ho,r⟩
  obtain⟨a,key,p,rfl,haI,had,hp,⟨o,ho,hc,n,hdat⟩,cZ⟩:=cP j v hP;show wpAny _ A.in1 (ł [.ref a] ((tryCatch (Dict.pairItems<|.ref a) _) >>= _) >>= _) _ _ _;refine À<|Č<|À<|ž ?_;unfold Dict.pairItems;refine À<|Ż (T:="tuple") ⟨o,ho,hc⟩ ?_;rw[fZ<|by decide];refine À<|ľ ho hdat<|Æ ?_;show wpAny _ A.in1 (ł [key,p.2]<|dictSet d key p.2) _ _ _;refine Č (wpAny_dictSet_pairs (hsz:=by lia) cZ hd' λh'' hd'' hs''=>?_);have keep2:∀b o,b≠I->b≠d->s.heap.get? b=d9 o->h''.get? b=d9 o:=λb o h1 h2 e=>(hs''.2 b h2).trans (ac b o (by simpa using h1) e);refine Æ ⟨į ZM _,ih (j+1) _ (dU Ė p.1 p.2) 0 (by lia) ϒ (W.frame _ _ _ df λb hb o e=>?_) (hT.keep keep2) hd'' ?_ λh3 tk3 hd3 hk3=>?_⟩
  .refine(hs''.2 b ?_).trans e;simp only[Ç,Ù,or_false]at hb;rcases hb with rfl|rfl
   .exact Ne.symm hdI
   .exact Ne.symm hdl
  .have:=stored_length_le Ė p.1 p.2;lia
  .refine hR h3 tk3 ?_ λb o h1 h2 e=>hk3 b o h1 h2<|keep2 b o h1 h2 e;have e:vals.drop j=p::vals.drop (j+1):=by
    rw[Ţ<|by lia];congr 1;exact í ((Ê<|by lia).symm.trans hp)
   rw[e];exact hd3
end
abbrev C3(K:Frag)(H:Hp)(ys:List V)(kvs:List<|Key×V):Prop:=ys.length=kvs.length/\∀(i:Nat) (y:V),ys[i]?=d9 y->∃(a:Í) (p:Key×V),y=.ref a/\kvs[i]?=d9 p/\fQ K H a [kV p.1,p.2]
def KQ{X:Cx}{Â:List (Í×Obj)}{σ:St}{H:Hp}{s:Å}(I:Inv X Â σ H s){d J:Í}(hJ:s.heap.objs.size<=J)(hd:s.heap.objs.size<=d):∀{ys:List V}{kvs:List (Key×V)}{ô:List Ã},fR ys ô->ys.length=kvs.length->(∀(i:Nat) (y:V),ys[i]?=d9 y->∃(a:Í) (p:Key×V),y=.ref a/\kvs[i]?=d9 p/\fQ X.K H a [kV p.1,p.2])->
  ∃vals:List<|Key×Ã,KV kvs vals/\vals.length=ô.length/\∀(i:Nat) (v:Ã),ô[i]?=d9 v->∃(a:Í) (key:Ã) (p:Key×Ã),v=.ref a/\a≠J/\a≠d/\vals[i]?=d9 p/\ϩ s.heap a #[key,p.2]/\(Zc X.prog X.w).is p.1 key=eh
 |[],[],[],_,_,_=>⟨[],.nil,rfl,λi v e=>by simp at e⟩
 |_::_,[],_,_,h,_=>by cases h
 |[],_::_,_,_,h,_=>by cases h
 |y::ys,(k,x)::kvs,_,.cons (b:=u) (l₂:=ô) r t,hl,h=>by
  obtain⟨a,p,rfl,e2,hq⟩:=h 0 y rfl;cases e2;obtain⟨vals,k1,k2,k3⟩:=KQ I hJ hd t (by simpa using hl) λi z e=>h (i+1) z (by simpa using e);obtain⟨tt,r2,pt,_⟩:=I.tuple hq;obtain⟨ku,xu,rfl,rk,rx⟩:=r2.two;cases (show u=Value.ref a from r);have ϒ:a<s.heap.objs.size:=pt.lt;refine⟨(k,xu)::vals,.cons ⟨rfl,rx⟩ k1,by simp[k2],λi v e=>?_⟩;cases i with
  |zero =>simp at e;subst e;exact⟨a,ku,(k,xu),rfl,à<|ã ϒ hJ,à<|ã ϒ hd,rfl,by simpa using pt,Xq rk⟩
  |succ i=>simpa using k3 i v (by simpa using e)
def KV.all{kvs:List (Key×V)}{vals:List (Key×Ã)}(r:KV kvs vals):∀{m:List (Key×V)}{n:List (Key×Ã)},KV m n->KV (kvs.foldl (λm p=>ff m p.1 p.2) m) (vals.foldl (λm p=>dU m p.1 p.2) n):=by
 unfold KV at r;induction r with
 |nil=>exact λh=>h
 |cons q t ih =>intro m n h;rename_i a b l1 l2;obtain⟨k,x⟩:=a;obtain⟨k2,u⟩:=b;obtain⟨e,rx⟩:=q;cases (show k=k2 from e);exact ih<|h.put k rx
def F0(kvs:List<|Key×V):∀m:List<|Key×V,(kvs.foldl (λm p=>ff m p.1 p.2) m).length<=m.length+kvs.length:=by
 induction kvs with
 |nil=>intro m;simp
 |cons p r ih =>intro m;have h1:=ih<|ff m p.1 p.2;have h2:=Z8 m p.1 p.2;rw[İ,Ë];lia
abbrev Ce(K:Frag):List V->Hp->VK->Prop:=λxs H Q=>∃p ys kvs,xs=[V.ref p]/\H p=d9 (.lst ys)/\C3 K H ys kvs/\∀l,H l=ee->Q (.ref l) (upd H l<|.dK<|kvs.foldl (λm p=>ff m p.1 p.2) [])
def O2{X:Cx}(hc:X.calm=eh):eN X (.type "dict")<|Ce X.K:=by
 intro Â s σ H xs us Q I r h;obtain⟨p,ys,kvs,rfl,hp,⟨hl,hpair⟩,q⟩:=h;obtain⟨u,rfl,ru⟩:=ZQ r;cases ru;obtain⟨hz,ô,n,rv,bg⟩:=(show eP X.prog X.w H s.heap p (.lst ys) from I.hok p _ hp)
 have hlen:=rv.length;have hh:X.A.handled=ee:=I.ok.hd hc;refine callType_codes (Q₁:=λobj ě=>obj=.ref s.heap.objs.size/\ě={s with heap:=s.heap.push {cls:=.type "dict",data:=.dict #[]}}) F.kt_called_dict (F.kt_typeCall_dict_1 _) F.entry_dict_init (kt_code_dict_new _ ⟨rfl,rfl⟩) ?_;rintro obj ě ⟨rfl,rfl⟩;have hnew:(s.heap.push {cls:=.type "dict",data:=.dict #[]}).DictOf (Zc X.prog X.w) s.heap.objs.size []:=Heap.DictOf.new s.heap;have hobj1:(s.heap.push {cls:=.type "dict",data:=.dict #[]}).get? p=d9 {cls:=.type "list",data:=.seq ô.toArray n}:=Ä _ bg;have hplt:p<s.heap.objs.size:=Ô bg;refine⟨hnew.typeIs,F.args_dict_init_2 _ _,?_⟩;unfold Builtin.«dict.__init__»;refine À ?_;unfold Builtin.Dict.selfAndRest;refine À<|wpAny_notOrdered_dict hnew.typeIs ?_;show wpAny _ _ (pure (s.heap.objs.size,[Value.ref p])) _ _ _;refine Æ ?_;show wpAny _ _ (Builtin.Dict.updateFrom "dict.__init__" s.heap.objs.size (.ref p) [] .none) _ _ _;unfold Builtin.Dict.updateFrom;refine À<|Ż (T:="list") ⟨_,hobj1,rfl⟩ ?_;rw[fZ<|by decide];refine À<|A3 hobj1 hh λh2 tk2 hk2=>?_;rw[fZ<|show(ee:Option Ã).isNone=eh from rfl];refine À<|Ξ ?_;have hobj2:=hk2 _ _ hobj1;have hl2:h2.IsList p ô.toArray:=⟨_,hobj2,rfl,n,rfl⟩
 refine À<|ż hl2 ?_;have old2:∀b o,s.heap.get? b=d9 o->h2.get? b=d9 o:=λb o e=>hk2 b o<|Ä _ e;have hdo2:h2.DictOf (Zc X.prog X.w) s.heap.objs.size []:=by obtain⟨o,es,ep,ho,r⟩:=hnew;exact⟨o,es,ep,hk2 _ _ ho,r⟩
 have hsz2:s.heap.objs.size<h2.objs.size:=by obtain⟨o,es,ep,ho,r⟩:=hdo2;exact Ô ho
 obtain⟨vals,k1,k2,k3⟩:=KQ I (d:=s.heap.objs.size) (J:=h2.objs.size) (Ŵ hsz2) (Ì _) rv hl hpair;have aP:∀b o,s.heap.get? b=d9 o->(h2.push {cls:=.type "list_iterator",data:=.fields #[.ref p,ĥ 0]}).get? b=d9 o:=λb o e=>Ä _<|old2 b o e;refine Æ ⟨į ZM _,?_⟩;refine Ud (prog:=X.prog) (w:=X.w) (A:=X.A.in1) (I:=h2.objs.size) (l:=p) (d:=s.heap.objs.size) (items:=ô.toArray) (vals:=vals) hh (à<|Œ hplt hsz2) (à hsz2) (ő hplt) (by rw[k2];simp) _ 0 _ [] 0 rfl (ĕ _) ?_ (λi v e=>?_) ?_ ?_ λh3 tk3 hd3 hk3=>?_
 .exact⟨⟨_,Õ _ rfl,rfl,rfl⟩,⟨_,Ä _ hobj2,rfl,n,rfl⟩⟩
 .obtain⟨a,key,p2,e1,e2,e3,e4,⟨o,ho,r⟩,e6⟩:=k3 i v (by simpa using e);exact⟨a,key,p2,e1,e2,e3,e4,⟨o,aP a o ho,r⟩,e6⟩
 .exact hdo2.push _
 .simp only[Đ,Ï];lia
 .rw[List.drop_zero]at hd3;have hn:=I.hok.fresh<|Ì s.heap.objs.size;have hzz:(kvs.foldl (λm p=>ff m p.1 p.2) []).length<=Ý:=by
   have:=F0 kvs [];rw[<-hl]at this;simp at this;lia
  refine⟨rfl,.ref s.heap.objs.size,upd H s.heap.objs.size<|.dK<|kvs.foldl (λm p=>ff m p.1 p.2) [],I.laid (t':=tk3) (λb u e=>?_) (Ì _)<|Wz hzz (beq_eq_false_iff_ne.mpr<|Ne.symm<|à I.big) (k1.all .nil) hd3,rfl,q _ hn⟩;have hb:=Ô e;exact hk3 b u (à<|Œ hb hsz2) (à hb)<|aP b u e
end L2
namespace L2
open PySem PySem.Spec PyProof.Rows
def call_dictK{X:Cx}:eN X (.type "dict") λxs H Q=>∃a kvs,xs=[V.ref a]/\H a=d9 (.dK kvs)/\∀l,H l=ee->Q (.ref l) (upd H l<|.dK kvs):=by intro Â s σ H xs us Q I r h;obtain⟨a,kvs,rfl,ha,q⟩:=h;obtain⟨u,rfl,ru⟩:=ZQ r;cases ru;obtain⟨z,hd,vs,Ş,dd⟩:=XG I.hok ha;refine kt_call_dict (knd:=Zc X.prog X.w) hd dd (by rw[<-Ş.length];exact z) λh' cB hs=>?_;have hn:=I.hok.fresh<|Ì s.heap.objs.size;refine⟨.ref s.heap.objs.size,upd H s.heap.objs.size<|.dK kvs,I.laid (t':=s.toks) (λb u e=>?_) (Ì _)<|Wz z (beq_eq_false_iff_ne.mpr<|Ne.symm<|à I.big) Ş cB,rfl,q _ hn⟩;have hb:b≠s.heap.objs.size:=à<|Ô e;rw[hs.2 b hb];exact Ä _ e
end L2
namespace Snd
open PySem L2
variable {i:Inf}{X:Cx}
def J5{h:O.Hs}{K:Frag}{H:Hp}:∀{xs:List O.Val}{kvs:List (O.Val×O.Val)}{vs:List V},O.pairsOf h xs=d9 kvs->RVs K H xs vs->∃ps,C3 K H vs ps/\∀{m:List (O.Val×O.Val)}{m':List (Key×V)},RKs K H m m'->RKs K H (O.putAll m kvs) (ps.foldl (λm p=>L2.ff m p.1 p.2) m')
 |[],kvs,vs,e,r=>by cases e;cases r;exact⟨[],⟨rfl,λi y e=>by simp at e⟩,λh=>h⟩
 |v::xs,kvs,vs,e,r=>by
  unfold O.pairsOf at e;split at e
  .rename_i k x;obtain⟨hk,e⟩:=Zn e;obtain⟨rest,e1,rfl⟩:=È.mp e;cases r with
   |cons ra t =>
    obtain⟨ps,⟨h1,h2⟩,h3⟩:=J5 e1 t;cases ra with
    |tup hp hr =>
     cases hr with
     |cons rk t2 =>
      cases t2 with
      |cons rx t3 =>
       cases t3;obtain⟨c,kr,rfl⟩:=eV hk rk;refine⟨(c,_)::ps,⟨by simp[h1],λi y e=>?_⟩,λh=>h3<|h.put kr rx⟩;cases i with
       |zero=>simp at e;subst e;exact⟨_,_,rfl,rfl,Zm hp⟩
       |succ i=>exact h2 i y (by simpa using e)
  .cases e
def ES:Jm i .dict λxs H Q=>(∃a kvs,xs=[V.ref a]/\H a=d9 (.dK kvs)/\∀l,H l=ee->Q (.ref l) (upd H l<|.dK kvs))\/Ce i.K xs H Q:=by
 intro vs G H xs Q Qm g r w c;obtain⟨v,rfl,w⟩:=Xh w;obtain⟨x,rfl,rx⟩:=r.inv1;cases v with
 |ref a =>
  cases rx.ref_inv
  replace w:(match G a with|some (.dct kvs)=>O.Rs.new (.dct kvs)|some (.lst xs)=>(match O.pairsOf G xs with|some kvs=>O.Rs.new (.dct<|O.putAll [] kvs)|none=>.no)|_=>.no).wp G Qm:=w
  cases z:G a with
  |none=>rw[z]at w;exact(Zi w).elim
  |some o =>
   rw[z]at w;cases o with
   |dct kvs =>obtain⟨ps,h1,h2⟩:=g a _ z;exact .inl ⟨a,ps,rfl,h1,ZZ g (XM w) c λp hp=>⟨ps,ez,h2.keep<|fb.new hp⟩⟩
   |lst ys =>
    obtain⟨us,h1,h2⟩:=g a _ z;dsimp only at w;cases z2:O.pairsOf G ys with
    |none=>rw[z2]at w;exact(Zi w).elim
    |some kvs =>rw[z2]at w;obtain⟨ps,h3,h4⟩:=J5 z2 h2;exact .inr ⟨a,us,ps,rfl,h1,h3,ZZ g (XM w) c λp hp=>⟨_,ez,(h4 .nil).keep<|fb.new hp⟩⟩
   |_=>exact(Zi w).elim
 |_=>exact(Zi w).elim
end Snd
namespace L2
open PySem PySem.Spec PyProof.Rows
variable {X:Cx}
def U3:∀(xs:List V) (us:List Ã),xs.length=us.length->(∀(j:Nat) (u:Ã),us[j]?=d9 u->∃x,xs[j]?=d9 x/\RelV x u)->fR xs us
 |[],[],_,_=>.nil
 |x::xs,u::us,hl,h=>by obtain⟨y,e,r⟩:=h 0 u rfl;cases e;exact .cons r (U3 xs us (by simpa using hl) λj v hv=>h (j+1) v hv)
 |[],_::_,hl,_=>by cases hl
 |_::_,[],hl,_=>by cases hl
end L2
namespace L2
open PySem
@[reducible] noncomputable def Ris(xs:Array Nat):Prop:=xs.toList.Pairwise (· < ·)
abbrev OO(xs:Array Nat)(j lo:Nat):Prop:=lo<=xs.size/\(∀k x,k<lo->xs[k]?=d9 x->x<j)/\∀k x,lo<=k->xs[k]?=d9 x->j<=x
variable {xs:Array Nat} {a:Nat} {b:Nat} {x:Nat}
def Wi(h:Ris xs){y:Nat}(hab:a<b)(ha:xs[a]?=d9 x)(hb:xs[b]?=d9 y):x<y:=by rw[<-ă]at ha hb;obtain⟨h1,rfl⟩:=Î.mp ha;obtain⟨h2,rfl⟩:=Î.mp hb;exact List.pairwise_iff_getElem.mp h a b h1 h2 hab
def Ka{xs:Array Nat}(h:Ris xs){j:Nat}:∀(f lo hi:Nat),hi - lo<=f->lo<=hi->hi<=xs.size->(∀k x,k<lo->xs[k]?=d9 x->x<j)->(∀k x,hi<=k->xs[k]?=d9 x->j<=x)->OO xs j (aI xs j f lo hi)
 |0,lo,hi,h1,h2,h3,h4,h5=>by
  have e:lo=hi:=by lia
  subst e;exact⟨h3,h4,h5⟩
 |f+1,lo,hi,h1,h2,h3,h4,h5=>by
  unfold aI;by_cases hl:lo<hi
  .rw[fZ hl];dsimp only;have hm:(lo+hi) / 2<xs.size:=by lia
   have hx:xs[(lo+hi) / 2]?=d9 xs[(lo+hi) / 2]:=ú hm;have hg:xs.getD ((lo+hi) / 2) j=xs[(lo+hi) / 2]:=by simp[ϥ,hm]
   rw[hg];by_cases hc:xs[(lo+hi) / 2]<j
   .rw[fZ hc];refine Ka h f _ _ (by lia) (by lia) h3 (λk x hk hkx=>?_) h5;by_cases hkm:k=(lo+hi) / 2
    .subst hkm;rw[hx]at hkx;cases hkx;exact hc
    .exact Œ (Wi h (by lia) hkx hx) hc
   .rw[f8 hc];refine Ka h f _ _ (by lia) (by lia) (by lia) h4 λk x hk hkx=>?_;by_cases hkm:k=(lo+hi) / 2
    .subst hkm;rw[hx]at hkx;cases hkx;lia
    .exact á (Nat.not_lt.mp hc) (Ŵ<|Wi h (by lia) hx hkx)
  .rw[f8 hl];have e:lo=hi:=by lia
   subst e;exact⟨h3,h4,h5⟩
def Ol(h:Ris xs)(j:Nat):OO xs j<|ĵ xs j:=by unfold ĵ;refine Ka h xs.size 0 xs.size (by lia) (by lia) (by lia) (λk x hk=>by lia) λk x hk hkx=>?_;rw[Ψ hk]at hkx;cases hkx
variable {j:Nat}
def Dt(ha:OO xs j a)(hb:OO xs j b):a=b:=by
 obtain⟨a1,a2,a3⟩:=ha;obtain⟨b1,b2,b3⟩:=hb;rcases Nat.lt_trichotomy a b with h|h|h
 .have hx:=ú (xs:=xs) (i:=a) (by lia);have:=b2 a _ h hx;have:=a3 a _ (Ì _) hx;lia
 .exact h
 .have hx:=ú (xs:=xs) (i:=b) (by lia);have:=a2 b _ h hx;have:=b3 b _ (Ì _) hx;lia
def Bh(h:Ris xs){i:Nat}(hx:xs[i]?=d9 x):OO xs (x+1)<|i+1:=by
 have hi:i<xs.size:=(ķ.mp hx).1;refine⟨hi,λk y hk hky=>?_,λk y hk hky=>Wi h (by lia) hx hky⟩;by_cases e:k=i
 .subst e;rw[hx]at hky;cases hky;lia
 .have:=Wi h (show k<i by lia) hky hx;lia
def Bn(xs:Array Nat):OO xs 0 0:=⟨ĕ _,λk x hk=>by lia,λ_ _ _ _=>ĕ _⟩
def Gj(h:Ris xs)(hn:xs[ĵ xs j]?≠d9 j):Ris<|SetTable.insertAt xs (ĵ xs j) j:=by
 obtain⟨c1,c2,c3⟩:=Ol h j;generalize ĵ xs j=p at c1 c2 c3 hn;unfold Ris;rw[SetTable.toList_insertAt];have hs:(xs.toList.take p++xs.toList.drop p).Pairwise (· < ·):=by rw[List.take_append_drop];exact h
 obtain⟨h1,h2,h3⟩:=Ϙ.mp hs;have hlo:∀a∈xs.toList.take p,a<j:=λa ha=>by obtain⟨k,hk,rfl⟩:=List.mem_take_iff_getElem.mp ha;refine c2 k _ (by lia) ?_;rw[<-ă];exact Ê _
 have hhi:∀a∈xs.toList.drop p,j<a:=λa ha=>by
  obtain⟨k,e⟩:=cj.mp ha;rw[List.getElem?_drop,ă]at e;have:=c3 (p+k) _ (by lia) e;rcases Nat.lt_or_ge j a with q|q
  .exact q
  .exfalso;have e2:a=j:=by lia
   subst e2;by_cases k0:k=0
   .subst k0;exact hn e
   .have hp:xs[p]?=d9 (xs[p]'(by have:=(ķ.mp e).1;lia)):=ú _;have:=Wi h (show p<p+k by lia) hp e;have:=c3 p _ (Ì _) hp;lia
 exact Ϙ.mpr ⟨h1,du.mpr ⟨hhi,h2⟩,λa ha b hb=>by
   rcases Ç.mp hb with rfl|hb
   . exact hlo a ha
   . exact Œ (hlo a ha)<|hhi b hb⟩
structure Tb(b:Bool)(t:ŭ):Prop where
 led:b=ei->t.led=eh
 ris:Ris t.place
 dum:t.dummies=#[]
def Oh{t:ŭ}{f:Nat->Int}{h:Int}(hd:t.dummies=#[]):∀(n:Nat) (p:SetTable.Probe) (j:Nat) (d:Option Nat),p.dummy=ee->ό t f h n p=d9 (.empty j d)->t.slot j=.empty/\d=ee
 |0,p,j,d,h0,e=>by unfold ό at e;cases e
 |n+1,p,j,d,h0,e=>by
  unfold ό at e;cases hs:t.slot p.j with
  |empty =>rw[hs]at e;dsimp only at e;injection e with e;injection e with e1 e2;subst e1;exact⟨hs,e2▸h0⟩
  |dummy =>
   exfalso;unfold dX at hs;dsimp only at hs;split at hs
   .cases hs
   .rw[hd]at hs;simp[aT]at hs
  |live i =>
   rw[hs]at e;dsimp only at e;split at e
   .cases e
   .refine Oh hd n _ j d ?_ e;unfold SetTable.advance;split
    .exact h0
    .exact h0
def Fq{t:ŭ}(hd:t.dummies=#[]){h:Int}{b:Bool}(e:t.freeSlot h=d9 (j,b)):t.place[ĵ t.place j]?≠d9 j:=by
 unfold SetTable.freeSlot at e;split at e
 .rename_i k d hp;obtain⟨h1,h2⟩:=Oh hd _ _ _ _ rfl hp;subst h2;injection e with e;injection e with e1 e2;have e1:k=j:=e1;subst e1;unfold dX at h1;dsimp only at h1;split at h1
  .cases h1
  .rename_i hq;exact λz=>hq (by rw[z];exact beq_self_eq_true _)
 .cases e
def Wv{b:Bool}{t:ŭ}(h:Tb b t)(n:Nat):Tb b (t.standIn n) :=
 ⟨h.led,by show(Array.range n).toList.Pairwise _;rw[Array.toList_range];exact bT,rfl⟩
def L8{b:Bool}{t:ŭ}(h:Tb b t)(es:Array<|Int×Ã)(k:Int)(x:Ã):Tb b (layNew t es k x).2.1:=by
 unfold layNew;split
 .rename_i slot wd hf;show Tb b (bU _ _);have hp:Tb b (t.put slot).1:=by
   refine⟨h.led,Gj h.ris<|Fq h.dum hf,?_⟩;show(if aT t.dummies slot then _ else t.dummies)=#[];rw[h.dum];simp[aT]
  unfold bU;split
  .exact hp
  .exact Wv hp _
 .exact Wv h _
def EI{b:Bool}{t:ŭ}(h:Tb b t)(es:Array<|Int×Ã)(n:Nat):Tb b (relayAll t es n).2.1:=by
 unfold relayAll;split
 .rename_i t' order hr;dsimp only;split
  .unfold SetTable.relaid SetTable.laid at hr;cases hl:SetTable.layClean (SetTable.sizeAbove n - 1) (es.map (·.1))with
   |none=>rw[hl]at hr;cases hr
   |some owner =>rw[hl]at hr;cases hr;refine⟨h.led,?_,rfl⟩;show List.Pairwise _ (List.toArray _).toList;refine dY.mpr<|List.pairwise_filterMap.mpr ?_;refine bT.imp λ{a c} hac x hx y hy=>?_;obtain⟨_,_,rfl⟩:=È.mp hx;obtain⟨_,_,rfl⟩:=È.mp hy;exact hac
  .exact Wv h _
 .exact Wv h _
end L2
namespace L2
open PySem PySem.Spec PyProof.Rows
section
variable (prog:å) (w:ø)
noncomputable abbrev byT:Bool:=w.params.followText "set-order"
abbrev SetI(h:Ć)(a:Í)(l:List Int):Prop:=∃o es ep t es0,h.get? a=d9 o/\o.ExactSet/\o.data=.set es ep t/\ElemsOf (Ř prog w) es.toList/\es.size<ϸ/\t.fits es.size=eh/\
 Tb (byT w) t/\es.toList.Perm es0/\ÿ (es0.map (·.2)) l
end
def XU:∀{vs:List Ã}{ns:List Int},ÿ vs ns->vs.length=ns.length
 |_,_,.nil=>rfl
 |_,_,.cons _ _ r=>congrArg (· + 1)<|XU r
def Ao:∀{vs:List Ã}{ns:List Int}(n:Int) (t:Tok),ÿ vs ns->ÿ (vs++[.int n t]) (ns++[n])
 |_,_,n,t,.nil=>.cons n t .nil
 |_,_,n,t,.cons m u r=>.cons m u<|Ao n t r
def Ue{P:å}{w:ø}{n:Int}:∀{vs:List Ã}{ns:List Int},ÿ vs ns->(n∈ns↔∃v∈vs,(Ř P w).is n v=eh)
 |_,_,.nil=>by simp
 |_,_,.cons m u r=>by
  have h:=Ue (P:=P) (w:=w) (n:=n) r;have hk:(Ř P w).is n (.int m u)=gg (n=m):=KeyKind.is_eq_decide (intKind_is P w m u) n;rw[Ç,h];constructor
  .rintro(rfl|⟨v,hv,e⟩)
   .exact⟨_,ò,by rw[hk];simp⟩
   .exact⟨v,â _ hv,e⟩
  .rintro⟨v,hv,e⟩;rcases Ç.mp hv with rfl|hv
   .rw[hk]at e;exact .inl (by simpa using e)
   .exact .inr ⟨v,hv,e⟩
variable {h:Ć} {a:Í} {l:List Int}
def SetI.setOf{P:å}{w:ø}(x:SetI P w h a l):h.SetOf (Ř P w) a (λk=>gg (k∈l)) l.length:=by
 obtain⟨o,es,ep,t,es0,h1,h2,h3,h4,h5,h6,h7,h8,h9⟩:=x;refine⟨o,es,ep,t,h1,h2,h3,h4,λk=>?_,h5,h6,?_⟩
 .rw[decide_eq_true_iff,Ue (P:=P) (w:=w) h9];constructor
  .rintro⟨v,hv,e⟩;obtain⟨x,hx,rfl⟩:=Ð.mp hv;exact⟨x,h8.mem_iff.mpr hx,e⟩
  .rintro⟨x,hx,e⟩;exact⟨_,Ð.mpr ⟨x,h8.mem_iff.mp hx,rfl⟩,e⟩
 .rw[<-XU h9,Á,<-h8.length_eq,ñ]
section
variable {prog:å}{w:ø}{A:ĉ}{E:Ã->Å->Prop}{s:Å}
def Ux{o:Obj}{es es':Array (Int×Ã)}{ep:Nat}{t t':ŭ}(ho:h.get? a=d9 o)(hd:o.data=.set es ep t) :
  (h.update a<|dZ es' t').get? a=d9 {o with data:=.set es' (ep+1) t'}:=by
 have z:=ė (dZ es' t') ho (by rw[putSet_of es' t' hd];rfl)
 rwa [putSet_of es' t' hd]at z
def add_int{n:Int}{tk:Tok}{Q:Bool->Å->Prop}(hS:SetI prog w s.heap a l)(hroom:l.length+1<ϸ)
  (k:∀h' b,Ů a s.heap h'->SetI prog w h' a (Ś l n)->Q b {s with heap:=h'}):wpAny (ß prog w) A (setAddHashed a (.int n tk)<|(Ř prog w).hash n) Q E s:=by
 have hlen:=hS.setOf;obtain⟨o,es,ep,t,es0,ho,hex,hd,hel,hb,hf,ht,hp,hi⟩:=id hS;have hsz:es.size=l.length:=by rw[<-XU hi,Á,<-hp.length_eq,ñ]
 have cZ:(Ř prog w).is n (.int n tk)=eh:=intKind_is _ _ _ _;unfold setAddHashed setAddHashedIn;refine Č<|À<|Š ho hd hf ?_;dsimp only;rw[byScan_of rfl hb hel];simp only[↓reduceIte];unfold setAddByScan;refine À<|À<|Ξ<|À<|wpAny_setScan_of cZ ho hd hf hel ?_;have hm:n∈l↔∃e∈es.toList,(Ř prog w).is n e.2=eh:=by
  rw[Ue (P:=prog) (w:=w) hi];constructor
  .rintro⟨v,hv,e⟩;obtain⟨x,hx,rfl⟩:=Ð.mp hv;exact⟨x,hp.mem_iff.mpr hx,e⟩
  .rintro⟨x,hx,e⟩;exact⟨_,Ð.mpr ⟨x,hp.mem_iff.mp hx,rfl⟩,e⟩
 cases hr:List.findIdx? (λe=>(Ř prog w).is n e.2) es.toList with
 |some j =>
  obtain⟨hj,hpj,_⟩:=List.findIdx?_eq_some_iff_getElem.mp hr;have hn:n∈l:=hm.mpr ⟨_,ō hj,hpj⟩;have e1:Ś l n=l:=by unfold Ś;rw[fZ<|ae.mpr ⟨n,hn,by simp⟩]
  rw[e1]at k;exact Æ<|Æ<|k s.heap ei (Heap.SameBut.refl a s.heap) hS
 |none =>
  have hn:n∉l:=λz=>by obtain⟨e,he,q⟩:=hm.mp z;have:=List.findIdx?_eq_none_iff.mp hr e he;rw[q]at this;cases this
  have e1:Ś l n=l++[n]:=by
   unfold Ś;rw[f8];intro z;obtain⟨m,hm,q⟩:=ae.mp z;have q:m=n:=by simpa using q
   exact hn<|q▸hm
  rw[e1]at k;have l1:=layNew_perm t es ((Ř prog w).hash n)<|.int n tk;have l2:=layNew_fits t es ((Ř prog w).hash n)<|.int n tk;have l3:=L8 ht es ((Ř prog w).hash n)<|.int n tk;dsimp only;generalize hL:layNew t es ((Ř prog w).hash n) (.int n tk)=L at l1 l2 l3 ⊢;obtain⟨bY,t1,wd,gv⟩:=L;dsimp only at l1 l2 l3 ⊢;rw[dy]at l1;have i1:ÿ ((es0++[((Ř prog w).hash n,Value.int n tk)]).map (·.2))<|l++[n]:=by rw[Ø];exact Ao n tk hi
  have p1:bY.toList.Perm<|es0++[((Ř prog w).hash n,Value.int n tk)]:=l1.trans<|hp.append_right _;have hel1:ElemsOf (Ř prog w) bY.toList:=(hel.push cZ rfl).perm l1;have hs1:bY.size=l.length+1:=by rw[<-ñ,l1.length_eq,ä,ñ,hsz];rfl
  have fin:∀(h':Ć) (o':Obj) (ep':Nat) (es':Array<|Int×Ã) (t':ŭ),Ů a s.heap h'->h'.get? a=d9 o'->o'.ExactSet->o'.data=.set es' ep' t'->es'.toList.Perm bY.toList->t'.fits es'.size=eh->Tb (byT w) t'->∀b,Q b {s with heap:=h'}:=λh' o' ep' es' t' sb g1 g2 g3 g4 g5 g6 b=>by refine k h' b sb ⟨o',es',ep',t',_,g1,g2,g3,hel1.perm g4,?_,g5,g6,g4.trans p1,i1⟩;rw[<-ñ,g4.length_eq,ñ,hs1];exact hroom
  have hz1:bY.size<=Ý:=aJ (by rw[hs1];exact hroom);have g0:∀(b:Bool){ě:Å}{Q':Unit->Å->Prop},Q' () ě->wpAny (ß prog w) A (match b with|true=>rule "set.scan.the-table-gave-way" | false=>pure ()) Q' E ě :=
   λb ě Q' hq=>by cases b<;>first|exact Æ hq|exact Ξ hq
  refine À<|g0 _ ?_;have bv:hashByValue 8 (.int n tk)=(pure eh:Sem Bool):=hashByValue_scannable 8 rfl;rw[bv,ite_self];refine À<|Æ ?_;simp only[↓reduceIte];refine À<|wpAny_storeSet_of ho hd ?_ hz1;have ho1:=Ux (es':=bY) (t':=t1) ho hd;have sb1:=Ă s.heap a<|dZ bY t1;split
  .have r1:=relayAll_perm t1 bY<|ύ bY.size;have r2:=relayAll_fits t1 bY<|ύ bY.size;have r3:=EI l3 bY<|ύ bY.size;generalize relayAll t1 bY (ύ bY.size)=R at r1 r2 r3 ⊢;obtain⟨es2,t2,gv2⟩:=R;dsimp only at r1 r2 r3 ⊢;refine À<|g0 _ ?_;refine À (wpAny_storeSet_of ho1 rfl ?_<|by rw[<-ñ,r1.length_eq,ñ];exact hz1);exact Æ<|Æ<|fin _ _ _ es2 t2 (sb1.trans<|Ă _ a _) (Ux ho1 rfl) hex rfl r1 r2 r3 _
  .exact Æ<|Æ<|fin _ _ _ bY t1 sb1 ho1 hex rfl .rfl l2 l3 _
end
def SetI.at{P:å}{w:ø}{h h':Ć}{a:Í}{l:List Int}(x:SetI P w h a l)(k:∀o,h.get? a=d9 o->h'.get? a=d9 o):SetI P w h' a l:=by obtain⟨o,es,ep,t,es0,h1,h2⟩:=x;exact⟨o,es,ep,t,es0,k _ h1,h2⟩
section
variable {prog:å}{w:ø}{A:ĉ}{R:ai->Å->Prop}{I:Í}{fp wr:List Í}{G:Array bZ->Array bZ->Prop}{n:Nat}{P:Nat->Ã->Prop}{St:Nat->Å->Prop}
def BU(W:WalksS prog w A.in1 I fp wr G n P St)(S:Í)(hS:S∉fp)(val:Nat->Int)(hv:∀i v,P i v->∃t,v=.int (val i) t)(hb:n+1<ϸ) :
  ∀(k i:Nat) (s:Å),n - i=k->i<=n->St i s->SetI prog w s.heap S (Ž val i)->(∀s',Moved (S::wr) G s s'->SetI prog w s'.heap S (Ž val n)->R (.ok<|.ret .none) s')->
   codeAny (ß prog w) A (.builtin "set.update.loop" ⟨[.ref S,.ref I],[]⟩) R s:=by
 have nw:S∉wr:=λz=>hS<|W.sub _ z;intro k;induction k with
 |zero =>
  intro i s h1 h2 st x r;obtain rfl:i=n:=by lia
  refine Ē F.entry_set_update_loop ?_;rw[ā F.plain_set_update_loop _];show wpAny _ A.in1 (χ (.ref I) >>= _) _ _ s;refine À<|W.done s _ _ st λs' m=>?_;exact Æ<|r s' (m.mono λb hb=>â _ hb)<|x.at λo e=>m.heap S _ nw e
 |succ k ih =>
  intro i s h1 h2 st x r;have hi:i<n:=by lia
  refine Ē F.entry_set_update_loop ?_;rw[ā F.plain_set_update_loop _];show wpAny _ A.in1 (χ (.ref I) >>= _) _ _ s;refine À<|W.item i s _ _ hi st λv s' p dF m=>?_;obtain⟨t,rfl⟩:=hv i v p;show wpAny _ A.in1 (ł [Value.int (val i) t] (setAdd S<|.int (val i) t) >>= _) _ _ s';refine À<|Č ?_;unfold setAdd;refine Č<|À<|(Ř prog w).pyHash (k:=val i) (intKind_is _ _ _ _) ?_;refine add_int (s:={s' with toks:=s'.toks+1}) (x.at λo e=>m.heap S _ nw e) (by have:=ap val i;lia) λh' b sb x'=>?_;rw[<-firstMet_succ]at x';refine Æ ⟨į F.plain_set_update_loop _,ih (i+1) _ (by lia) hi (W.frame _ s' _ _ dF (Ņ _) λb hb o e=>?_) x' λs'' m'' x''=>r s'' ?_ x''⟩
  .rw[sb.2 b λz=>hS<|z▸hb];exact e
  .refine Moved.trans W.gtrans ((m.mono λb hb=>â _ hb).then_heap (Ņ _) λb o hb e=>?_) m'';rw[sb.2 b λz=>hb<|z▸ò];exact e
end
section
variable {prog:å}{w:ø}{A:ĉ}{E:Ã->Å->Prop}{s:Å}
noncomputable abbrev Jt(b:Bool):Obj:={cls:=.type "set",dict:=ee,data:=.set #[] 0 (.fresh 0 0 !b)}
variable {Q:Ã->Å->Prop}
def FB(a:Ã)(h:Q (.ref s.heap.objs.size) {s with heap:=s.heap.push (Jt<|byT w)}) :
  codeAny (ß prog w) A (.call (.builtin "set.__new__") ⟨[.type "set",a],[]⟩) (wants Q E) s:=by
 refine codeAny_of_tree ?_;show wpAny _ A.in1 (do checkBuiltinCall "set.__new__" ⟨[.type "set",a],[]⟩;again (.builtin "set.__new__" ⟨[.type "set",a],[]⟩)) _ _ s;refine À<|bq (F.newCall_set_1 a)<|Æ ⟨į F.plain_set_new _,Ē F.entry_set_new ?_⟩;rw[ā F.plain_set_new _];unfold Builtin.«set.__new__» Builtin.Frozenset.newClass;have hsub:=sub_set_self;obtain⟨hp,g,d,tk,os⟩:=s;dsimp only
 wp_walk
 refine Ŧ<|Æ ?_;dsimp only;simp only[newObj];exact À<|wpAny_alloc<|Æ<|Æ h
def EN{l:Í}{items:Array Ã}{ns:List Int}(hh:A.handled=ee)(hl:s.heap.IsList l items)(hi:ÿ items.toList ns)(hb:items.size+1<ϸ)
  (h:∀(h':Ć) (tk:Nat),SetI prog w h' s.heap.objs.size (Ž (λi=>ns.getD i 0) items.size)->(∀b o,s.heap.get? b=d9 o->h'.get? b=d9 o)->Q (.ref s.heap.objs.size) {s with heap:=h',toks:=tk}) :
  wpAny (ß prog w) A (call (.type "set") [.ref l]) Q E s:=by
 obtain⟨c,tl,hmro⟩:=F.called_set.mro;have hmade:=F.called_set.made;have hsub:=F.called_set.sub;have h1:=F.called_set.notType;have h2:=F.called_set.canCreate;have hct:=F.typeCall_set_1<|.ref l;refine wpAny_call<|codeAny_of_tree ?_;show wpAny _ _ (callAny (.type "set") _) _ _ _;refine Æ ⟨Code.quiet_builtin _ (by decide +kernel),Ē F.entry_type_call ?_⟩;rw[Around.under_plain (weight_type_call_type "set" [.ref l] []) rfl]
 repeat (any_goals (first|assumption|wp_step))
 refine Ź (FB (.ref l) (E:=E) (Q:=λv s1=>v=.ref s.heap.objs.size/\s1={s with heap:=s.heap.push (Jt<|byT w)}) ⟨rfl,rfl⟩) λr s1 hr=>?_;cases r with
 |error e=>exact hr
 |ok fl =>
  cases fl with
  |ret obj =>
   obtain⟨rfl,rfl⟩:=hr;have hS:(s.heap.push<|Jt<|byT w).get? s.heap.objs.size=d9 (Jt<|byT w):=Õ _ rfl;have hT:Shared.TypeIs {s with heap:=s.heap.push (Jt<|byT w)} (.ref s.heap.objs.size) "set":=⟨_,hS,rfl⟩
   have hli:=F.called_set.init.lookup;have hbi:=F.called_set.init.bind<|.ref s.heap.objs.size
   repeat (any_goals (first|assumption|wp_step))
   refine Ź (codeAny_call_builtin (R:=wants (λr s2=>r=.none/\∃h' tk,s2={ s with heap:=h',toks:=tk }/\SetI prog w h' s.heap.objs.size (Ž (λi=>ns.getD i 0) items.size)/\∀b o,s.heap.get? b=d9 o->h'.get? b=d9 o) E)
     F.called_set.init.plain F.entry_set_init (check_set_init_1 hT ?_)) λr s2 hr=>?_
   .have hlS:l<s.heap.objs.size:=by obtain⟨_,e,_⟩:=hl;exact Ô e
    have hl1:(s.heap.push<|Jt<|byT w).IsList l items:=hl.push _;obtain⟨ol,hol,aD,nl,hdl⟩:=id hl1;obtain⟨ocls,odict,odata,oslots⟩:=ol;simp only at aD hdl;subst aD hdl;have hsls:=F.sub_list_set;have hslf:=F.sub_list_frozenset;have ų:(Value.type "list" == Value.type "dict")=ei:=by decide
    unfold Builtin.«set.__init__» noKeywords Builtin.Frozenset.updateFrom;generalize hPI:dM=PI
    wp_walk
    subst hPI;refine ż hl1<|À<|wpAny_runValue ?_;have hh3:A.in1.in1.in1.handled=ee:=by simp[hh]
    have zs:(s.heap.push<|Jt<|byT w).objs.size=s.heap.objs.size+1:=ů ..;refine BU ((Walks.list hh3 _ l (by rw[zs];exact à<|ı hlS) items).toS) s.heap.objs.size (by rw[zs];simp only[Ç,Ù,or_false,not_or];exact⟨à<|Ĝ _,ő hlS⟩) (λi=>ns.getD i 0) (λi v hv=>IntsAre.int_at hi i v<|by rw[ă];exact hv) hb (items.size - 0) 0 _ (by lia) (ĕ _)
     ⟨⟨_,Õ _ rfl,rfl,rfl⟩,hl1.push _⟩ ?_ ?_
    .refine⟨_,#[],0,_,[],Ä _ hS,⟨rfl,rfl,rfl⟩,rfl,λe he=>by simp at he,by show 0<ϸ;unfold ϸ;lia,rfl,⟨λz=>by show(!byT w)=eh;rw[z];rfl,.nil,rfl⟩,.nil,.nil⟩
    .intro s' m x;obtain⟨h',g',d',tk',os'⟩:=s';have eg:g'=s.gens:=m.gens;have ed:d'=s.drawn:=m.drawn;have eo:os'=s.os:=m.os;subst eg ed eo;refine Æ ?_;show wpAny _ _ (ret Value.none) _ _ _;refine Æ ⟨rfl,h',tk',rfl,x,λb o e=>?_⟩;have hb:=Ô e;exact m.heap b o (by rw[zs];simp only[Ç,Ù,or_false,not_or];exact⟨à hb,à<|ı hb⟩)<|Ä _<|Ä _ e
   .cases r with
    |error e=>exact hr
    |ok fl =>
     cases fl with
     |ret r =>
      obtain⟨rfl,h',tk,rfl,x,hk⟩:=hr
      repeat (any_goals (first|assumption|wp_step))
      exact h _ _ x hk
     |_=>exact hr.elim
  |_=>exact hr.elim
end
end L2
namespace L2
open PySem PySem.Spec PyProof.Rows
open PySem.Builtin
def D8:entryFor table "set.__iter__" = d9 Builtin.«frozenset.__iter__»:=entryFor_alias (id':="frozenset.__iter__") (by kernel_rfl) rfl (by decide +kernel) (by kernel_rfl)
def Dz:entryFor table "set_iterator.__next__" = d9 Builtin.«set_iterator.__next__»:=entryFor_of_tree (by kernel_rfl)
def C6(a:Ã):cg "set_iterator.__next__" ⟨[a],[]⟩:=by unfold cg;kernel_rfl
def slot_snext:Slot "set_iterator" "__next__" "set_iterator.__next__" :=
 .of (owner:="set_iterator") (n:="__next__") (by rw[bI,Ϥ];kernel_rfl) (by decide +kernel) (by decide +kernel) (by decide +kernel)
  (by first|exact .inl (by decide +kernel)|exact .inr<|by decide +kernel) (by rw[ck];kernel_rfl)
def Kh:Slot "set_iterator" "__iter__" "set_iterator.__iter__" :=
 .of (owner:="set_iterator") (n:="__iter__") (by rw[bI,Ϥ];kernel_rfl) (by decide +kernel) (by decide +kernel) (by decide +kernel)
  (by first|exact .inl (by decide +kernel)|exact .inr<|by decide +kernel) (by rw[ck];kernel_rfl)
def BP:entryFor table "set_iterator.__iter__" = d9 Builtin.«dict_keyiterator.__iter__»:=entryFor_alias (id':="dict_keyiterator.__iter__") (by kernel_rfl) rfl (by decide +kernel) (by kernel_rfl)
def Cm(a:Ã):cg "set_iterator.__iter__" ⟨[a],[]⟩:=by unfold cg;kernel_rfl
def XX{α:Type}:∀{l:List α}{i:Nat}(h:i<l.length),(l[i]::l.eraseIdx i).Perm l
 |a::l,0,h=>.rfl
 |a::l,i+1,h=>(List.Perm.swap a _ _).trans<|(XX (l:=l)<|Nat.lt_of_succ_lt_succ h).cons a
def Up{α:Type}(f:Nat->Nat):∀(n k:Nat) (l:List α) (out:Array α),l.length=n->(aK f n k l out).toList.Perm (out.toList++l)
 |0,k,l,out,h=>by
  cases l with
  |nil=>unfold aK;simp
  |cons _ _=>cases h
 |n+1,k,l,out,h=>by unfold aK;have ϒ:f k % l.length<l.length:=Nat.mod_lt _ (by lia);rw[Ê ϒ];dsimp only;refine(Up f n (k+1) _ _<|by rw[υ ϒ];lia).trans ?_;rw[dy,Ĕ];exact(XX ϒ).append_left _
def AY{α:Type}(f:Nat->Nat)(xs:Array α):(pickOrder f xs).toList.Perm xs.toList:=by unfold pickOrder;simpa using Up f xs.size 0 xs.toList #[] (by simp)
section
variable {prog:å}{w:ø}{A:ĉ}{E:Ã->Å->Prop}{s:Å}
variable {n:Nat}
def AC{src:Source}{Q:Nat->Å->Prop}(hn:0<n)(h:∀k d,k<n->Q k {s with drawn:=d}):wpAny (ß prog w) A (choose src n) Q E s :=
 λ_ _ _=>⟨ő hn,h _ _<|Nat.mod_lt _ hn⟩
def Om{α:Type}:∀(n:Nat) (xs:List α){s:Å}{Q:List α->Å->Prop},xs.length=n->(∀ys d,ys.Perm xs->Q ys {s with drawn:=d})->wpAny (ß prog w) A (dz n xs) Q E s
 |0,[],s,Q,_,h=>by unfold dz;exact Æ<|h [] s.drawn .nil
 |0,_::_,_,_,h,_=>by cases h
 |n+1,[],_,_,h,_=>by cases h
 |n+1,x::xs,s,Q,hl,h=>by unfold dz;refine À (AC (by simp) λk d hk=>?_);rw[Ê hk];dsimp only;refine À (Om n _ (by rw[υ hk];lia) λys d2 hp=>Æ<|h _ d2 ?_);exact(hp.cons _).trans<|XX hk
abbrev SetIt(h:Ć)(it a:Í)(f:Ã)(i n ep:Nat):Prop:=∃o,h.get? it=d9 o/\o.cls=.type "set_iterator"/\o.data=.fields #[f,.int i 0,.ref a,.int n 0,.int ep 0]
variable {it:Í} {a:Í} {f:Ã} {i:Nat} {ep:Nat}
def SetIt.typeIs(h:SetIt s.heap it a f i n ep):s.TypeIs (.ref it) "set_iterator":=by obtain⟨o,h1,h2,_⟩:=h;exact⟨o,h1,h2⟩
structure SetO(h:Ć)(a:Í)(o:Obj)(es:Array<|Int×Ã)(ep:Nat)(t:ŭ):Prop where
 at_:h.get? a=d9 o
 dat:o.data=.set es ep t
 fit:t.fits es.size=eh
def Nm{Q:Ã->Å->Prop}(hit:SetIt s.heap it a f i n ep)(h:Q (.ref it) s):wpAny (ß prog w) A (dM<|.ref it) Q E s:=by have hT:=hit.typeIs;refine wpAny_pyIter_slot hT Kh<|Ġ Kh hT BP ?_<|Cm _;show wpAny _ _ (ret<|.ref it) _ _ s;exact Æ ⟨_,rfl,"set_iterator",_,hT,slot_snext.lookup,h⟩
variable {Q:Option Ã->Å->Prop}
def UW(hh:A.handled=ee)(hQ:∀h',(∀b o,s.heap.get? b=d9 o->h'.get? b=d9 o)->Q ee {s with heap:=h'}) :
  wpAny (ß prog w) A (do raiseNew (<-newExc (.type "StopIteration") []):Sem Fin) (λ_ _=>False) (λe s'=>∃h',(∀b o,s.heap.get? b=d9 o->h'.get? b=d9 o)/\s'={s with heap:=h'}/\s'.TypeIs e "StopIteration") s:=by
 show wpAny _ _ (newExc (.type "StopIteration") [] >>= _) _ _ _;refine À ?_;simp only[newExc,newTuple];refine À (Ĉ ?_<|by size_fits);refine À (m:=Ϭ _ _) (bq (a:=Value.none) (by first|rfl|(simp only[Ϭ];rfl)) ?_);refine Ĉ ?_ (by size_fits);simp only[raiseNew];refine À<|wpAny_handled ?_;rw[hh];refine À<|Æ<|wpAny_throw ?_;exact⟨_,λb o e=>Ä _<|Ä _ e,rfl,_,Õ _ rfl,rfl⟩
def W7(hT:s.TypeIs (.ref it) "set_iterator")
  (h:wpAny (ß prog w) A.in1 (Builtin.«set_iterator.__next__» ⟨[.ref it],[]⟩) (λfin s'=>∃v,fin=.done (.ret v)/\Q (d9 v) s') (λe s'=>s'.TypeIs e "StopIteration"/\Q ee s') s):wpAny (ß prog w) A (χ<|.ref it) Q E s:=by
 unfold χ;refine À<|wpAny_attempt<|Ĳ (name:=gh "__next__") hT slot_snext<|Ġ slot_snext hT Dz ?_<|C6 _;refine ĭ h (λfin s' ⟨v,e,q⟩=>⟨v,e,Æ q⟩) λe s' ⟨t,q⟩=>?_;refine À<|a9 (T:="StopIteration") (b:=eh) t isSubtype_stop ?_;exact Æ q
abbrev NX(prog:å)(w:ø)(a:Í)(o:Obj)(ep:Nat)(f:Nat->Nat)(ord:List Ã):Prop :=
 ∀(A:ĉ) (s:Å) (Q:Option (Ã×Nat)->Å->Prop) (E:Ã->Å->Prop) (i:Nat),i<=ord.length->s.heap.get? a=d9 o->Q (ord[i]?.map (·,f<|i+1)) s->wpAny (ß prog w) A (setNext a (f i) i ep) Q E s
def M2{h:Ć}{o:Obj}{vs:Array Ã}{k:Nat}{x:Ã}(ho:h.get? it=d9 o)(hc:o.cls=.type "set_iterator")(hd:o.data=.fields vs) :
  ∃o',(h.update it (Ο (·.setIfInBounds k x))).get? it=d9 o'/\o'.cls=.type "set_iterator"/\o'.data=.fields (vs.setIfInBounds k x) :=
 ⟨_,ė _ ho<|cF<|Β hd _,(Obj.cls_mapFields ..).trans hc,Β hd _⟩
end
def Walks.setT{prog:å}{w:ø}{A:ĉ}(hh:A.handled=ee)(I a:Í)(ų:a≠I){o:Obj}{es:Array (Int×Ã)}{ep:Nat}{t:ŭ}{f:Nat->Nat}{ord:List Ã}(hl:ord.length=es.size)(nx:NX prog w a o ep f ord) :
  Walks prog w A I [I,a] [I] es.size (λi v=>ord[i]?=d9 v) (λi h=>SetIt h I a (.int (f i) 0) i es.size ep/\SetO h a o es ep t) where
 sub:=λb hb=>by simp at hb;simp[hb]
 frame:=λ_ _ _ st hk=>⟨by obtain⟨o,h1,h2⟩:=st.1;exact⟨o,hk I (by simp) o h1,h2⟩,hk a (by simp) _ st.2.at_,st.2.dat,st.2.fit⟩
 item:=λi s Q E hi st hQ=>by obtain⟨st,so⟩:=st;refine W7 st.typeIs ?_;obtain⟨oi,h1,h2,h3⟩:=st;show wpAny _ _ (fieldsOf (.ref I) >>= _) _ _ s;refine À<|Ϯ h1 h3 ?_;dsimp only;refine À<|ũ so.at_ so.dat so.fit ?_;refine ņ (λz=>gf z<|by simp) λ_=>?_;rw[ç,ç,ç];have hx:ord[i]?=d9 ord[i]:=Ê (by lia);refine À (nx _ s _ _ i (by lia) so.at_ ?_);rw[hx];dsimp only[Option.map];refine À (Ŀ h1 h3 (by simp) ?_);obtain⟨o2,g1,g2,g3⟩:=M2 (k:=0) (x:=ĥ<|f<|i+1) h1 h2 h3;refine À (Ŀ g1 g3 (by simp) ?_);obtain⟨o4,g4,g5,g6⟩:=M2 (k:=1) (x:=ĥ<|(i:Int)+1) g1 g2 g3;have sb:=(Ă s.heap I (Ο (·.setIfInBounds 0 (ĥ<|f<|i+1)))).trans (Ă _ I (Ο (·.setIfInBounds 1 (ĥ<|(i:Int)+1))));refine Æ ⟨_,rfl,hQ _ _ s.toks hx ⟨⟨o4,g4,g5,by rw[g6];simp[ĥ]⟩,?_,so.dat,so.fit⟩ λb ob hb e=>sb.extBut b ob (λz=>hb<|by simp[z]) e⟩;exact sb.extBut a _ ų so.at_
 done:=λs Q E st hQ=>by
  obtain⟨st,so⟩:=st;refine W7 st.typeIs ?_;obtain⟨oi,h1,h2,h3⟩:=st;show wpAny _ _ (fieldsOf (.ref I) >>= _) _ _ s;refine À<|Ϯ h1 h3 ?_;dsimp only;refine À<|ũ so.at_ so.dat so.fit ?_;refine ņ (λz=>gf z<|by simp) λ_=>?_;rw[ç,ç,ç];refine À (nx _ s _ _ es.size (by lia) so.at_ ?_);rw[ĺ<|by lia];dsimp only[Option.map];refine À (Ŀ h1 h3 (by simp) ?_);refine ĭ (UW (A:=A.in1) (Q:=Q) hh λh' hk=>?_) (λ_ _ z=>z.elim) λe s' ⟨h',hk,e2,tt⟩=>⟨tt,?_⟩
  .exact hQ h' s.toks λb ob hb e=>hk b ob ((Ă s.heap I _).extBut b ob (λz=>hb<|by simp[z]) e)
  .subst e2;exact hQ h' s.toks λb ob hb e=>hk b ob ((Ă s.heap I _).extBut b ob (λz=>hb<|by simp[z]) e)
 self:=λ_ _ _ _ st hQ=>Nm st.1 hQ
def Walks.setD{prog:å}{w:ø}{A:ĉ}(hh:A.handled=ee)(I a T:Í)(ų:a≠I)(hnT:T≠I){o oT:Obj}{es:Array (Int×Ã)}{ep:Nat}{t:ŭ}{ks:List Nat}(hl:ks.length=es.size)(hk:∀k∈ks,k<es.size)
  (hT:oT.data=.seq (ks.map λ(k:Nat)=>ĥ k).toArray) :
  Walks prog w A I [I,a,T] [I] es.size (λi v=>(ks.map λk=>(es.getD k (0,.none)).2)[i]?=d9 v) (λi h=>SetIt h I a (.ref T) i es.size ep/\SetO h a o es ep t/\h.get? T=d9 oT) where
 sub:=λb hb=>by simp at hb;simp[hb]
 frame:=λ_ _ _ st hk=>⟨by obtain⟨o,h1,h2⟩:=st.1;exact⟨o,hk I (by simp) o h1,h2⟩,⟨hk a (by simp) _ st.2.1.at_,st.2.1.dat,st.2.1.fit⟩,hk T (by simp) _ st.2.2⟩
 item:=λi s Q E hi st hQ=>by
  obtain⟨st,so,sT⟩:=st;refine W7 st.typeIs ?_;obtain⟨oi,h1,h2,h3⟩:=st;show wpAny _ _ (fieldsOf (.ref I) >>= _) _ _ s;refine À<|Ϯ h1 h3 ?_;dsimp only;refine À<|ũ so.at_ so.dat so.fit ?_;refine ņ (λz=>gf z<|by simp) λ_=>?_;refine À<|ľ sT hT ?_;have hi':i<ks.length:=by lia
  have hx:ks[i]?=d9 ks[i]:=Ê hi';have hki:=hk ks[i]<|ō hi';have hp:((ks.map λ(k:Nat)=>ĥ k).toArray)[(i:Int).toNat]?=d9 (.int (ks[i]:Nat) 0):=by rw[ç];simp[hx,ĥ]
  dsimp only;rw[hp];dsimp only;rw[ç,ç];unfold setNextDrawn;refine À<|À<|Š so.at_ so.dat so.fit ?_;dsimp only;refine ņ (λz=>gf z<|by simp) λ_=>?_;have he:es[ks[i]]?=d9 es[ks[i]]:=ú hki;rw[he];dsimp only;refine Æ ?_;refine À (Ŀ h1 h3 (by simp) ?_);obtain⟨o4,g4,g5,g6⟩:=M2 (k:=1) (x:=ĥ<|(i:Int)+1) h1 h2 h3;have sb:=Ă s.heap I (Ο (·.setIfInBounds 1 (ĥ<|(i:Int)+1)));refine Æ ⟨_,rfl,hQ _ _ s.toks ?_ ⟨⟨o4,g4,g5,by rw[g6];simp[ĥ]⟩,⟨sb.extBut a _ ų so.at_,so.dat,so.fit⟩,sb.extBut T _ hnT sT⟩ λb ob hb e=>sb.extBut b ob (λz=>hb<|by simp[z]) e⟩;rw[Ö,hx];simp[ϥ,hki]
 done:=λs Q E st hQ=>by
  obtain⟨st,so,sT⟩:=st;refine W7 st.typeIs ?_;obtain⟨oi,h1,h2,h3⟩:=st;show wpAny _ _ (fieldsOf (.ref I) >>= _) _ _ s;refine À<|Ϯ h1 h3 ?_;dsimp only;refine À<|ũ so.at_ so.dat so.fit ?_;refine ņ (λz=>gf z<|by simp) λ_=>?_;refine À<|ľ sT hT ?_;have hp:((ks.map λ(k:Nat)=>ĥ k).toArray)[(es.size:Int).toNat]?=ee:=by rw[ç];simp[hl]
  dsimp only;rw[hp];dsimp only;refine À (Ŀ h1 h3 (by simp) ?_);obtain⟨o4,g4,g5,g6⟩:=M2 (k:=0) (x:=ĥ 0) h1 h2 h3;refine À (Ŀ g4 g6 (by simp) ?_);refine ĭ (UW (A:=A.in1) (Q:=λ_ _=>True) hh λ_ _=>trivial) (λ_ _ z=>z.elim) λe s' ⟨h',hk,e2,tt⟩=>⟨tt,?_⟩
  subst e2;exact hQ h' s.toks λb ob hb e=>hk b ob ((Ă _ I _).extBut b ob (λz=>hb<|by simp[z])<|(Ă s.heap I _).extBut b ob (λz=>hb<|by simp[z]) e)
 self:=λ_ _ _ _ st hQ=>Nm st.1 hQ
section
variable {prog:å}{w:ø}{a:Í}{o:Obj}{es:Array (Int×Ã)}{ep:Nat}{t:ŭ}
def F4(hb:byT w=eh)(hd:o.data=.set es ep t)(hf:t.fits es.size=eh):NX prog w a o ep (λ_=>0) ((pickOrder (w.params.setOrder a ep) es).toList.map (·.2)):=λA s Q E i hil ho h=>by unfold setNext;refine À<|Š ho hd hf ?_;dsimp only;unfold ϝ;refine À<|À<|Ŧ<|Æ ?_;have bf:(ß prog w).w.params.followText "set-order" = eh:=hb;dsimp only;rw[bf];simp only[↓reduceIte,bne_self_eq_false,ĩ];refine À ?_;unfold setWalk ϝ;refine À<|Š ho hd hf ?_;dsimp only;refine À<|À<|Ŧ<|Æ ?_;dsimp only;rw[bf];simp only[↓reduceIte];refine À<|Ŧ<|Æ<|Æ ?_;dsimp only;rw[Ö,ă,Option.map_map]at h;exact h
def PX(hb:byT w=ei)(tb:Tb (byT w) t)(hpl:(!t.plain&&gg (es.size > 1))=ei)(hd:o.data=.set es ep t)(hf:t.fits es.size=eh) :
  NX prog w a o ep (λi=>match i with|0=>0|k+1=>t.place.getD k 0+1) (es.toList.map (·.2)):=λA s Q E i hil ho h=>by
 have e0:∀slot,setNext a slot i ep=(do
     let (es,epoch,t)<-setState a
     if<-ϝ then
       if epoch != ep then ϯ "set_iterator.__next__:elements-changed"
       return ((<-setWalk a)[i]?).map λe=>(e.2,slot)
     if(!t.plain&&gg (es.size > 1))then ϯ "set_iterator.__next__:the-table-is-plain-no-more"
     (do if !t.led && !es.isEmpty then ϯ "set:maker-not-led")
     let i:=ĵ t.place slot
     return match es[i]?,t.place[i]? with
       |some (_,x),d9 j=>d9 (x,j+1)
       | _,_=>ee):=λ_=>rfl
 rw[e0];refine À<|Š ho hd hf ?_;dsimp only;unfold ϝ;refine À<|À<|Ŧ<|Æ ?_;have bf:(ß prog w).w.params.followText "set-order" = ei:=hb;have hled:=tb.led hb;dsimp only;rw[bf,hpl,hled];simp only[ĩ,↓reduceIte,Bool.not_true,Bool.false_and];refine Æ ?_;have hsz:t.place.size=es.size:=by simp only[SetTable.fits,bAq,beq_iff_eq,gc]at hf;exact hf.1
 have fin:∀slot,i<=es.size->OO t.place slot i->Q (match es[ĵ t.place slot]?,t.place[ĵ t.place slot]? with|some (_,x),d9 j=>d9 (x,j+1)|_,_=>ee) s:=λslot hi hc=>by
  rw[Dt (Ol tb.ris slot) hc];rw[Ö,ă]at h;by_cases ϒ:i<es.size
  .have h1:es[i]?=d9 es[i]:=ú ϒ;have h2:t.place[i]?=d9 (t.place[i]'(by lia)):=ú _;rw[h1]at h ⊢;rw[h2];have h3:t.place.getD i 0=t.place[i]'(by lia):=by simp[ϥ,show i<t.place.size by lia]
   dsimp only[Option.map]at h ⊢;rw[h3]at h;exact h
  .have h1:es[i]?=ee:=Ψ (by lia);rw[h1]at h ⊢;exact h
 cases i with
 |zero=>exact fin 0 (ĕ _)<|Bn _
 |succ k =>
  have hk:k<t.place.size:=by simp at hil;lia
  refine fin _ (by lia)<|Bh tb.ris ?_;rw[ú hk];simp[ϥ,hk]
end
structure Near(s s':Å):Prop where
 heap:∀b o,s.heap.get? b=d9 o->s'.heap.get? b=d9 o
 gens:s'.gens=s.gens
 os:s'.os=s.os
def Hi:∀{vs us:List Ã}{ns:List Int},vs.Perm us->ÿ us ns->∃ms,ms.Perm ns/\ÿ vs ms:=by
 intro vs us ns h;induction h generalizing ns with
 |nil=>exact λr=>by cases r;exact⟨[],.nil,.nil⟩
 |cons x _ ih =>
  intro r;cases r with
  |cons n t r=>obtain⟨ms,h1,h2⟩:=ih r;exact⟨n::ms,h1.cons n,.cons n t h2⟩
 |swap x y l =>
  intro r;cases r with
  |cons n t r=>cases r with
   |cons m u r=>exact⟨m::n::_,.swap _ _ _,.cons m u<|.cons n t r⟩
 |trans _ _ ih1 ih2 =>intro r;obtain⟨ms,h1,h2⟩:=ih2 r;obtain⟨ks,h3,h4⟩:=ih1 h2;exact⟨ks,h3.trans h1,h4⟩
section
variable {prog:å}{w:ø}{A:ĉ}{E:Ã->Å->Prop}{s:Å}
def DD{r:Í}{Q:Bool->Å->Prop}(hT:s.TypeIs (.ref r) "set")(h:Q ei s):wpAny (ß prog w) A (Builtin.List.listLengthHint<|.ref r) Q E s:=by
 unfold Builtin.List.listLengthHint;refine À<|wpAny_specialOf hT PySem.F.slot_set_len.lookup ?_;generalize hid:("set.__len__" : String)=id0
 wp_delta
 rw[show splitId id0=d9 ("set","__len__") from by subst hid;decide +kernel];subst hid;refine À (a9 (T:="set") (b:=eh) hT (by rw[ck];kernel_rfl) ?_);refine ņ (λhab=>gf hab<|by decide) λ_=>?_;refine ņ (λ_=>?_) (λhab=>gf (by decide +kernel) hab);exact À<|Ż hT<|Æ h
def CM{a:Í}{l:List Int}{Q:Ã->Å->Prop}(hh:A.handled=ee)(hS:SetI prog w s.heap a l)
  (h:∀s' I fp St vs ms,Near s s'->s.heap.objs.size<=I->(∀b∈fp,b=a\/s.heap.objs.size<=b)->ms.Perm l->ÿ vs ms->Walks prog w A I fp [I] l.length (λi v=>vs[i]?=d9 v) St->St 0 s'.heap->Q (.ref I) s') :
  wpAny (ß prog w) A (dM<|.ref a) Q E s:=by
 obtain⟨o,es,ep,t,es0,ho,hex,hd,hel,hb,hf,ht,hp,hi⟩:=id hS;have hsz:es.size=l.length:=by rw[<-XU hi,Á,<-hp.length_eq,ñ]
 rw[<-hsz]at h;have hT:s.TypeIs (.ref a) "set":=⟨o,ho,hex.1⟩
 have ϒ:=Ô ho;refine wpAny_pyIter_slot hT F.slot_set_iter<|Ġ F.slot_set_iter hT D8 ?_<|F.args_set_iter_1 _;have e0:Builtin.«frozenset.__iter__» ⟨[.ref a],[]⟩=(do
     let n<-cp a
     let d<-(do
       let (es,_,t)<-setState a
       let byText<-ϝ
       return !byText&&(!t.plain&&gg (es.size > 1)))
     let first<-if d then newTuple ((<-dz n (List.range n)).map λ(i:Nat)=>ĥ i)else pure (ĥ 0)
     ret (<-newFields "set_iterator" [first,ĥ 0,.ref a,ĥ n,ĥ (<-setEpoch a)])):=rfl
 rw[e0];unfold cp;refine À<|À<|ũ ho hd hf<|Æ ?_;refine À<|À<|Š ho hd hf ?_;dsimp only;unfold ϝ;refine À<|À<|Ŧ<|Æ<|Æ ?_;have ebt:(ß prog w).w.params.followText "set-order" = byT w:=rfl;dsimp only;rw[ebt];have mapP:∀es':List<|Int×Ã,es'.Perm es.toList->∃ms,ms.Perm l/\ÿ (es'.map (·.2)) ms:=λes' q=>Hi ((q.trans hp).map _) hi;by_cases hdr:(!byT w&&(!t.plain&&gg (es.size > 1)))=eh
 .rw[fZ hdr];refine À (Om es.size (List.range es.size) (by simp) λks d hks=>À ?_);have hkl:ks.length=es.size:=by rw[hks.length_eq,ř]
  refine wpAny_newTuple ?_ (by rw[Á,hkl];exact aJ hb);refine À<|wpAny_setEpoch_of (Ä _ ho) hd hf ?_;refine À<|Ĉ<|Æ ⟨_,rfl,"set_iterator",_,⟨_,Õ _ rfl,rfl⟩,slot_snext.lookup,?_⟩;have zs:(s.heap.push { cls:=.type "tuple",dict:=ee,data:=.seq (List.map (λ(i:Nat)=>ĥ i) ks).toArray }).objs.size=s.heap.objs.size+1:=ů ..;obtain⟨ms,m1,m2⟩:=mapP (ks.map λk=>es.getD k (0,.none)) (by
    refine(hks.map _).trans<|List.Perm.of_eq ?_
    refine List.ext_getElem (by simp) λi h1 h2=>?_
    have hi:i<es.size:=by simpa using h1
    simp[ϥ,hi])
  rw[ê]at m2;refine h _ _ [_,a,s.heap.objs.size] _ _ ms ⟨λb o e=>Ä _<|Ä _ e,rfl,rfl⟩ (by rw[zs];exact Ņ _) (λb hb=>?_) m1 m2
   (Walks.setD (o:=o) (oT:={cls:=.type "tuple",dict:=ee,data:=.seq (List.map (λ(i:Nat)=>ĥ i) ks).toArray}) (es:=es) (ep:=ep) (t:=t) (ks:=ks) hh _ a s.heap.objs.size (by rw[zs];exact à<|ı ϒ) (by rw[zs];exact à<|Ĝ _) hkl (λk hk=>ϗ.mp<|hks.mem_iff.mp hk) rfl)
   ⟨⟨_,Õ _ rfl,rfl,rfl⟩,⟨Ä _<|Ä _ ho,hd,hf⟩,Ä _<|Õ _ rfl⟩
  simp only[Ç,Ù,or_false]at hb;rcases hb with rfl|rfl|rfl
  .exact .inr (by rw[zs];exact Ņ _)
  .exact .inl rfl
  .exact .inr<|Ì _
 .rw[f8 hdr];refine À<|Æ ?_;refine À<|wpAny_setEpoch_of ho hd hf ?_;refine À<|Ĉ<|Æ ⟨_,rfl,"set_iterator",_,⟨_,Õ _ rfl,rfl⟩,slot_snext.lookup,?_⟩;have go:∀(f:Nat->Nat) (es':List<|Int×Ã),f 0=0->es'.Perm es.toList->NX prog w a o ep f (es'.map (·.2))->Q (.ref s.heap.objs.size) {s with heap:=s.heap.push {cls:=.type "set_iterator",dict:=ee,data:=.fields [ĥ 0,ĥ 0,.ref a,ĥ es.size,ĥ ep].toArray}}:=λf es' f0 hes nx=>by
   obtain⟨ms,m1,m2⟩:=mapP es' hes;have hl:(es'.map (·.2)).length=es.size:=by rw[Á,hes.length_eq,ñ]
   refine h _ _ [_,a] _ _ ms ⟨λb o e=>Ä _ e,rfl,rfl⟩ (Ì _) (λb hb=>?_) m1 m2 (Walks.setT (t:=t) hh _ a (à ϒ) hl nx) ⟨⟨_,Õ _ rfl,rfl,by rw[f0];rfl⟩,Ä _ ho,hd,hf⟩;simp only[Ç,Ù,or_false]at hb;rcases hb with rfl|rfl
   .exact .inr<|Ì _
   .exact .inl rfl
  cases hbt:byT w with
  |true=>exact go _ _ rfl (AY _ es)<|F4 hbt hd hf
  |false =>rw[hbt]at hdr;exact go (λi=>match i with|0=>0|k+1=>t.place.getD k 0+1) _ rfl .rfl (PX hbt ht (by simpa using hdr) hd hf)
end
end L2
namespace L2
open PySem PySem.Spec PyProof.Rows
def B1{vs:List Ã}{Ė:Array Ã}{n:Nat}(h:ItemsOf (λi v=>vs[i]?=d9 v) Ė n)(hn:vs.length=n):Ė.toList=vs:=by
 refine List.ext_getElem? λi=>?_;rw[ă];by_cases hi:i<Ė.size
 .rw[ú hi];exact(h.2 i _<|ú hi).symm
 .rw[Ψ (by lia),ĺ (by have:=h.1;lia)]
section
variable {prog:å}{w:ø}{A:ĉ}{E:Ã->Å->Prop}{s:Å}
variable {a:Í} {l:List Int}
def GW(hh:A.handled=ee)(hS:SetI prog w s.heap a l)(S:Í)(hSa:S≠a)(hs:s.heap.get? S=d9 {cls:=.type "list",data:=.seq #[] 0}){R:ai->Å->Prop}
  (h:∀s' vs ms c,s'.gens=s.gens->s'.os=s.os->(∀b o,b≠S->s.heap.get? b=d9 o->s'.heap.get? b=d9 o)->ms.Perm l->ÿ vs ms->s'.heap.get? S=d9 {cls:=.type "list",dict:=ee,data:=.seq vs.toArray c,slots:=#[]}->R (.ok<|.ret<|.ref S) s') :
  wpAny (ß prog w) A.in1 (Builtin.List.listExtendWith (.ref S) (.ref a)<|.ref S) (λfin s'=>match fin with|.done f=>R (.ok f) s'|.again c'=>c'.quiet=eh/\codeAny (ß prog w) A c' R s') (λe s'=>R (.error e) s') s:=by
 have hl:=hS.setOf;obtain⟨o,es,ep,t,es0,ho,hex,hd,hel,hb,hf,ht,hp,hi⟩:=id hS;have hsz:l.length<=Ý:=aJ (by rw[<-XU hi,Á,<-hp.length_eq,ñ];exact hb);have hT:s.TypeIs (.ref a) "set":=⟨o,ho,hex.1⟩
 have hSs:S<s.heap.objs.size:=Ô hs;unfold Builtin.List.listExtendWith;refine À<|Ż (T:="set") hT ?_;have h1:Builtin.List.listSameRef (.ref S) (.ref a)=ei:=by simp[Builtin.List.listSameRef,hSa]
 have h2:(Value.type "set" == Value.type "list")=ei:=by decide
 have h3:(Value.type "set" == Value.type "tuple")=ei:=by decide
 simp only[h1,h2,h3,ϣ,ĩ,if_false];refine À<|CM (A:=A.in1) hh hS λs1 I fp St vs ms ne hI hfp pm ia W st=>?_;have hsf:S∉fp:=λz=>by
  rcases hfp S z with q|q
  .exact hSa q
  .exact ġ _<|ã hSs q
 have hvl:vs.length=l.length:=(XU ia).trans pm.length_eq;have key:∀(h':Ć) (c tk:Nat),St 0 h'->(∀b o,b≠S->s1.heap.get? b=d9 o->h'.get? b=d9 o)->h'.get? S=d9 {cls:=.type "list",data:=.seq #[] c}->codeAny (ß prog w) A (.builtin "list.extend.loop" ⟨[.ref S,.ref I,.ref S],[]⟩) R {s1 with heap:=h',toks:=tk}:=by
  intro h' c tk dF hk hS1;refine codeAny_extend_loopS W.toS hsz S hsf (.ref S) l.length 0 _ #[] c rfl (ĕ _) dF hS1 (ItemsOf.nil _) λs2 Ė c2 hm hS2 dh=>?_;have ev:Ė.toList=vs:=B1 dh hvl;refine h s2 vs ms c2 (hm.gens.trans ne.gens) (hm.os.trans ne.os) (λb o hb e=>?_) pm ia (by rw[<-ev];simpa using hS2);refine hm.heap b o (λz=>?_)<|hk b o hb<|ne.heap b o e;rcases Ç.mp z with q|z
  .exact hb q
  .have z:b=I:=by simpa using z
   subst z;exact ġ _<|ã (Ô e) hI
 have hS1:=ne.heap S _ hs;refine À<|Č<|DD ⟨o,ne.heap a o ho,hex.1⟩ ?_;refine ņ (λ_=>?_) λ_=>Æ ⟨į PySem.F.plain_extend_loop _,key _ 0 _ st (λb o _ e=>e) hS1⟩;refine À<|Ξ ?_;refine À ?_;show wpAny _ _ (dr S (·.push .none) >>= λ_=>dr S (·.pop)) _ _ _;refine À<|Δ hS1 rfl ?_;have hS2:=ė (ω (·.push Value.none)) hS1 rfl;refine Δ (hz:=by seq_fits) hS2 rfl ?_;have hS3:=ė (ω (·.pop)) hS2 rfl;refine Æ ⟨į PySem.F.plain_extend_loop _,key _ _ _ ?_ (λb o hb e=>?_) hS3⟩
 .refine W.frame 0 _ _ st λb hb o e=>?_;have dI:b≠S:=λz=>hsf<|z▸hb;exact(ð _ _ dI.symm).trans<|(ð _ _ dI.symm).trans e
 .exact(ð _ _ hb.symm).trans<|(ð _ _ hb.symm).trans e
def N8{Q:List Ã->Å->Prop}(hh:A.handled=ee)(hS:SetI prog w s.heap a l)(h:∀s' vs ms,Near s s'->ms.Perm l->ÿ vs ms->Q vs s'):wpAny (ß prog w) A (collect<|.ref a) Q E s:=by
 have ϒ:a<s.heap.objs.size:=by obtain⟨_,_,_,_,_,e,_⟩:=hS;exact Ô e
 unfold collect;refine À<|wpAny_runValue<|Ē F.entry_proto_collect ?_;rw[ā F.plain_proto_collect _];show wpAny _ A.in1 (newList [] >>= λl=>again<|.builtin "list.__iadd__" ⟨[l,.ref a],[]⟩) _ _ s;refine À<|Ĉ ?_;refine Æ ⟨į F.plain_list_iadd _,Ē F.entry_list_iadd ?_⟩;rw[ā F.plain_list_iadd _];show wpAny _ A.in1 (Builtin.List.listExtendWith (.ref s.heap.objs.size) (.ref a)<|.ref s.heap.objs.size) _ _ _;have fin:∀(q:ai) (s':Å),(∃vs ms c,q=.ok (.ret<|.ref s.heap.objs.size)/\Near s s'/\ms.Perm l/\ÿ vs ms/\s'.heap.get? s.heap.objs.size=d9 {cls:=.type "list",dict:=ee,data:=.seq vs.toArray c,slots:=#[]})->
   wants (λ(a:Ã) s'=>wpAny (ß prog w) A (match a with
     |.ref a=>do
       match (<-load a).data with
       |.seq xs _=>pure xs.toList
       |_=>ϯ "internal:collect"
     | _=>ϯ "internal:collect") Q E s') E q s':=λq s' ⟨vs,ms,c,e,ne,pm,ia,hg⟩=>by
  subst e;show wpAny _ A (load s.heap.objs.size >>= _) _ _ _;refine À<|wpAny_load hg<|Æ ?_;exact h s' _ ms ne pm (by simpa using ia)
 refine ĭ (GW (A:=A) (s:={ s with heap:=s.heap.push { cls:=.type "list",data:=.seq ([]:List Ã).toArray } }) (R:=λq s'=>∃vs ms c,q=.ok (.ret<|.ref s.heap.objs.size)/\Near s s'/\ms.Perm l/\ÿ vs ms/\s'.heap.get? s.heap.objs.size=d9 { cls:=.type "list",dict:=ee,data:=.seq vs.toArray c,slots:=#[] })
   hh (hS.at λo e=>Ä _ e) s.heap.objs.size (ő ϒ) (Õ _ rfl) λs' vs ms c g1 g2 g3 pm ia hg=>⟨vs,ms,c,rfl,⟨λb o e=>g3 b o (à<|Ô e)<|Ä _ e,g1,g2⟩,pm,ia,hg⟩) (λf s' z=>?_) λe s' z=>?_
 .cases f with
  |done f=>exact fin _ _ z
  |again c=>exact⟨z.1,Ź z.2 λq s2 y=>fin q s2 y⟩
 .exact fin _ _ z
end
variable {X:Cx}
def Inv.near{Â:List (Í×Obj)}{σ:St}{H:Hp}{s s':Å}(I:Inv X Â σ H s)(ne:Near s s'):Inv X Â σ H s':=by have J:Inv X Â σ H {s with heap:=s'.heap,toks:=s'.toks}:=I.kept ne.heap;exact⟨J.ok,ne.os.trans J.os,by rw[ne.gens];exact J.bare,J.base,J.loc,J.cell,J.free,J.freeC,J.pin,J.hok,J.len⟩
abbrev tSS(K:Frag)(te:TE):TE:=λσ H Q=>HL te GI σ H λvs H1=>∃p,∃ns:List Int,vs=[.ref p]/\fP K H1 p (ns.map V.int)/\ns.length<64/\∀l,H1 l=ee->Q (.ref l) (upd H1 l<|.lst<|(sortI<|Ž (λi=>ns.getD i 0) ns.length).map V.int)
def Mn{e:Expr}{te:TE}{p p2 ë cE:Pos}(hc:X.calm=eh)(hg:Gl X "sorted")(hm:X.mg "sorted" = ee)(hg2:Gl X "set")(hm2:X.mg "set" = ee)(he:PE X e te)(hs:Þ [e] X.env=[(ei,eval e X.env)]) :
  PE X (.Call (.Name "sorted" p) [.Call (.Name "set" p2) [e] [] cE] [] ë) (tSS X.K te):=by
 intro Â s σ H Q I h;refine Į (YM (u:=.builtin "sorted") I hg hm (by kernel_rfl) ?_);refine PyProof.Rows.callWith_builtin1 ?_ rfl rfl;show wpAny _ _ (spliced<|(ei,eval (.Call (.Name "set" p2) [e] [] cE) X.env)::[]) _ _ _;refine Calls.spliced_cons ?_;refine Į (YM (u:=.type "set") I hg2 hm2 (by kernel_rfl) ?_ (by decide)<|by decide);refine callWith_type1 (thn ((ZW he fN hs) cE Â s σ H _ I h) λus s1 ⟨vs,H1,I1,r1,q1⟩=>?_) hs rfl;obtain⟨a,ns,e1,hq,h64,q⟩:=q1;subst e1;obtain⟨u,rfl,ru⟩:=ZQ r1;cases ru;obtain⟨ô,rv,pl,hz⟩:=I1.list hq;have hlen:=rv.length;rw[Á]at hlen;refine EN (I1.ok.hd hc) pl.isList (by simpa using ZI rv) (by rw[Ï];show ô.length+1<4096;lia) λh' tk x hk=>Calls.spliced_nil ?_
 replace x:SetI X.prog X.w h' s1.heap.objs.size<|Ž (λi=>ns.getD i 0) ns.length:=by rw[hlen];rw[show ô.toArray.size=ô.length from Ï]at x;exact x
 have I2:Inv X Â σ H1 {s1 with heap:=h',toks:=tk}:=I1.kept hk;refine Calls.call_function_entry kind_sorted plain_sorted entry_sorted (args_sorted1 _) ?_;unfold Builtin.«sorted»;refine À (m:=checkCount "sorted" 1 1 _)<|Æ ?_;refine À<|N8 (A:=X.A.in1) (I1.ok.hd hc) x λs3 vs ms ne pm ia=>?_;have I3:=I2.near ne;have hvl:vs.length<64:=by rw[XU ia,pm.length_eq];exact Ò (ap _ _) (by lia)
 refine À (cW ?_<|by unfold Ý;lia);have hoL:(s3.heap.push<|Α "list" vs.toArray 0).get? s3.heap.objs.size=d9 (Α "list" vs.toArray 0):=Õ _ rfl;refine À<|Č<|Ġ slot_list_sort ⟨_,hoL,rfl⟩ entry_list_sort (list_sort_tree hoL ia hvl λout bX a1 a2 a3=>⟨_,rfl,?_⟩)<|args_list_sort _;have e:=YL (a2.trans pm) a3;subst e;obtain⟨n,hat⟩:=sortedHeap_at (out:=out) hoL;refine Æ ⟨_,rfl,.ref s3.heap.objs.size,_,I3.laid (a:=s3.heap.objs.size) (o:=.lst<|(sortI<|Ž (λi=>ns.getD i 0) ns.length).map V.int) (t':=s3.toks) (λb o e=>?_) (Ì _) ?_,rfl,q _<|I3.hok.fresh<|Ì _⟩
 .have hb:=Ô e;rw[sortedHeap_old (à hb)<|by rw[size_push'];exact ı hb];exact Ä _ e
 .exact⟨by rw[Á,YR];have:=ap (λi=>ns.getD i 0) ns.length;unfold Ý;lia,out.toList,n,YO a1,by simpa[Α]using hat⟩
end L2
namespace Snd
open PySem L2
variable {i:Inf}{X:Cx}{Φ:O.Fs}
def Os{e:Expr}{m:O.E}{p p2 ë cE:Pos}(hc:X.calm=eh)(hK:X.K=i.K)(he:PE X e<|tE X i Φ m)(hg:Gl X "sorted")(hm:X.mg "sorted" = ee)(hg2:Gl X "set")(hm2:X.mg "set" = ee)(ŷ:Þ [e] X.env=[(ei,eval e X.env)]) :
  PE X (.Call (.Name "sorted" p) [.Call (.Name "set" p2) [e] [] cE] [] ë) (tE X i Φ<|.bi .sortedSet<|.cons m .nil):=by
 refine(Mn hc hg hm hg2 hm2 he ŷ).imp λσ H Q ⟨env,G,Qm,Em,p,w,c⟩=>?_;rw[O.q_e_bi,O.q_a_cons]at w;change tE X i Φ m σ H _;refine one p w λv G1 H1 x k1 p1 r q=>?_;rw[O.q_a_nil]at q
 replace q:(O.biSortedSet G1 v).wp G1 Qm:=q
 unfold O.biSortedSet at q;cases z:O.sortOf G1 v with
 |none=>rw[z]at q;exact(Zi q).elim
 |some ns =>
  rw[z]at q;dsimp only at q;split at q
  .rename_i h4;obtain⟨a,rfl,hs⟩:=NH p1.hp r z;refine⟨a,ns,rfl,by rw[hK];exact hs,h4,?_⟩;rw[Kq<|NS ns];exact ZZ p1.hp (XM q) (c.go k1) λp hp=>⟨_,ez,RVs.ints _⟩
  .exact(Zi q).elim
section
variable {K:Frag}{H H':Hp}
structure fM(H H':Hp):Prop where
 t:∀a xs,H a=d9 (.tup xs)->H' a=d9 (.tup xs)
 f:∀a o xs,H a=d9 (.frz o<|.lst xs)->H' a=d9 (.frz o<|.lst xs)
mutual
theorem RV.keepL(k:fM H H'):∀{v:O.Val}{x:V},RV K H v x->RV K H' v x
 |_,_,.non=>.non
 |_,_,.bl b=>.bl b
 |_,_,.int i=>.int i
 |_,_,.str s=>.str s
 |_,_,.tup (.inl e) r=>.tup (.inl<|k.t _ _ e)<|RVs.keepL k r
 |_,_,.tup (.inr e) r=>.tup (.inr e)<|RVs.keepL k r
 |_,_,.ref a=>.ref a
 |_,_,.scr (.inl ⟨o,e⟩)=>.scr<|.inl ⟨o,k.f _ _ _ e⟩
 |_,_,.scr (.inr e)=>.scr<|.inr e
 |_,_,.key e=>.key<|k.t _ _ e
theorem RVs.keepL(k:fM H H'):∀{vs:List O.Val}{xs:List V},RVs K H vs xs->RVs K H' vs xs
 |_,_,.nil=>.nil
 |_,_,.cons r t=>.cons (RV.keepL k r)<|RVs.keepL k t
end
def RKs.keepL(k:fM H H'):∀{kvs:List (O.Val×O.Val)}{ps:List (Key×V)},RKs K H kvs ps->RKs K H' kvs ps
 |_,_,.nil=>.nil
 |_,_,.cons a r t=>.cons a (r.keepL k)<|RKs.keepL k t
def RTs.keepL(k:fM H H'):∀{kvs:List (O.Val×O.Val)}{ps:List (List Key×V)},RTs K H kvs ps->RTs K H' kvs ps
 |_,_,.nil=>.nil
 |_,_,.cons r t=>.cons (r.keepL k)<|RTs.keepL k t
def RFs.keepL(k:fM H H'):∀{fs:List (String×O.Val)}{ps:List (Str×V)},RFs K H fs ps->RFs K H' fs ps
 |_,_,.nil=>.nil
 |_,_,.cons r t=>.cons (r.keepL k)<|RFs.keepL k t
def REn.keepL{env:O.Env}{σ:St}(r:REn K H env σ)(k:fM H H'):REn K H' env σ:=⟨r.len,λi v e=>by
  obtain⟨x,h1,h2⟩:=r.get i v e
  exact⟨x,h1,h2.keepL k⟩⟩
variable {a:Í}
def RO.moveL{o:O.Ob}(r:RO i H a o)(k:fM H H')(e:H' a=H a):RO i H' a o:=by
 cases o with
 |lst xs=>obtain⟨vs,q,r⟩:=r;exact⟨vs,e.trans q,r.keepL k⟩
 |dct kvs=>obtain⟨ps,q,r⟩:=r;exact⟨ps,e.trans q,r.keepL k⟩
 |ins C fs=>obtain⟨c,dx,ps,h0,h,q,r⟩:=r;exact⟨c,dx,ps,h0,h,e.trans q,r.keepL k⟩
 |exc C=>obtain⟨c,h,q⟩:=r;exact⟨c,h,e.trans q⟩
 |frz kvs=>obtain⟨o,ps,q,r⟩:=r;exact⟨o,ps,e.trans q,r.keepL k⟩
 |dtp kvs=>obtain⟨ps,q,r⟩:=r;exact⟨ps,e.trans q,r.keepL k⟩
variable {o:Obj} {ps:List (Key×V)}
def XC(e:H a=d9 (.frz o<|.dK ps)):fM H (upd H a<|.dK ps) :=
 ⟨λb xs q=>by rw[ej<|by rintro rfl;rw[e]at q;cases q];exact q,λb p xs q=>by rw[ej<|by rintro rfl;rw[e]at q;cases q];exact q⟩
def RH.thaw{G:O.Hs}{kvs:List (O.Val×O.Val)}(g:RH i G H)(e:H a=d9 (.frz o<|.dK ps))(r:RKs i.K H kvs ps):RH i (O.upd G a<|.dct kvs)<|upd H a<|.dK ps:=λb p q=>by
 by_cases hb:b=a
 .subst hb;rw[O.ez]at q;cases q;exact⟨ps,ez,r.keepL<|XC e⟩
 .rw[O.ej hb]at q;exact(g b p q).moveL (XC e)<|ej hb
def RKs.len:∀{kvs:List (O.Val×O.Val)}{ps:List (Key×V)},RKs K H kvs ps->kvs.length=ps.length
 |_,_,.nil=>rfl
 |_,_,.cons _ _ t=>by rw[Ë,Ë,RKs.len t]
def RKs.at:∀{kvs:List (O.Val×O.Val)}{ps:List (Key×V)}{n:Nat}{c:Key}{x:V},RKs K H kvs ps->ps[n]?=d9 (c,x)->∃k v,kvs[n]?=d9 (k,v)/\WT k c/\RV K H v x
 |_,_,n,_,_,.nil,e=>by simp at e
 |_,_,0,_,_,.cons hk r _,e=>by simp at e;obtain⟨rfl,rfl⟩:=e;exact⟨_,_,rfl,hk,r⟩
 |_,_,n+1,_,_,.cons _ _ t,e=>by obtain⟨k,v,h1,h2⟩:=RKs.at (n:=n) t (by simpa using e);exact⟨k,v,by simpa using h1,h2⟩
def O9{k:O.Val}{c:Key}(h:WT k c):RV K H k<|kV c:=by
 cases k with
 |int j=>cases c with
  |inl l=>have h:j=l:=h;subst h;exact .int _
  |inr _=>exact(show False from h).elim
 |str s=>cases c with
  |inl _=>exact(show False from h).elim
  |inr t=>have h:t=gh s:=h;subst h;exact .str _
 |_=>exact(show False from h).elim
end
variable {H0:Hp} {a:Í} {o:Obj} {ps:List (Key×V)} {kvs:List (O.Val×O.Val)}
def DI(e0:H0 a=d9 (.frz o<|.dK ps))(r0:RKs i.K H0 kvs ps):ItOk i H0 (Iti a o ps) (λg=>g a=d9 (.frz kvs)) (kvs.map<|O.itemOf ei) where
 go:=λn G H v k g e hv=>by
  have e1:=k.f _ _ _ e0;rw[Ö]at hv;obtain⟨p,hp,rfl⟩:=È.mp hv;have hn:n<ps.length:=by rw[<-r0.len];exact(Î.mp hp).1
  refine⟨⟨e1,hn⟩,λx H' ⟨q,c,y,ex,hq,hy,eH⟩=>?_⟩;subst ex eH;obtain⟨k2,v2,h1,h2,h3⟩:=(r0.keep k).at hy;rw[hp]at h1;cases h1;have kk:fb H<|upd H q<|.tup [kV c,y]:=fb.new hq;exact⟨kk,W5 g hq,.tup (.inl ez)<|.cons (O9 h2)<|.cons (h3.keep kk) .nil⟩
 stop:=λn G H k g e hn=>⟨k.f _ _ _ e0,by rw[<-r0.len];simpa using hn⟩
def GL(e0:H0 a=d9 (.frz o<|.dK ps))(r0:RKs i.K H0 kvs ps):ItOk i H0 (Itk a o ps) (λg=>g a=d9 (.frz kvs)) (kvs.map<|O.itemOf eh) where
 go:=λn G H v k g e hv=>by
  have e1:=k.f _ _ _ e0;rw[Ö]at hv;obtain⟨p,hp,rfl⟩:=È.mp hv;have hn:n<ps.length:=by rw[<-r0.len];exact(Î.mp hp).1
  refine⟨⟨e1,hn⟩,λx H' ⟨eH,c,y,hy,ex⟩=>?_⟩;subst ex eH;obtain⟨k2,v2,h1,h2,h3⟩:=(r0.keep k).at hy;rw[hp]at h1;cases h1;exact⟨fb.refl _,g,O9 h2⟩
 stop:=λn G H k g e hn=>⟨k.f _ _ _ e0,by rw[<-r0.len];simpa using hn⟩
variable {tg:Expr} {ë:Pos} {body:List ļ} {q:O.Pt} {m:O.E} {mb:O.Ss}
def Ah{Ŭ:Expr}{kb:Bool}{J:Í->Obj->List (Key×V)->It}(hp:Λ (ß X.prog X.w) X.A X.env X.xe)(hc:X.calm=eh)(hi:PI X tg Ŭ<|Py X J<|tE X i Φ m)(hg:PG X tg<|gPt i q)(hb:PSs X body<|tBl X i Φ mb)
  (hs:∀x,ę Ŭ X.env x=pure x) (hJ:∀(H0:Hp) (a:Í) (o:Obj) (ps:List<|Key×V) (kvs:List<|O.Val×O.Val),H0 a=d9 (.frz o<|.dK ps)->RKs i.K H0 kvs ps->ItOk i H0 (J a o ps) (λg=>g a=d9 (.frz kvs)) (kvs.map<|O.itemOf kb)) :
  PS X (.For tg Ŭ body [] ë) (tSt X i Φ<|.forI kb q m mb):=by
 intro Â s σ H D I ⟨env,G,N,R,B,C,Xe,p,w,c⟩;refine Gr (Dw hp hc hi hg hb hs) Â s σ H D I ?_;refine one p.pre w λv G1 H1 x k1 p1 rx w'=>?_;obtain⟨a,e1,w''⟩:=eF w';obtain⟨kvs,e2,w1⟩:=eF w'';clear w' w'';have ev:v=.ref a:=by
  cases v with
  |ref b=>cases e1;rfl
  |_=>cases e1
 subst ev;cases rx.ref_inv;have eG:G1 a=d9 (.dct kvs):=by
  cases z:G1 a with
  |none=>rw[z]at e2;cases e2
  |some o=>rw[z]at e2;cases o<;>first|(cases e2;rfl)|cases e2
 obtain⟨ps,ha,hr⟩:=p1.hp a _ eG;refine⟨a,ps,rfl,ha,λo h0=>?_⟩;have k2:fb H1<|upd H1 a<|.frz o<|.dK ps:=fb.put (λxs z=>by rw[ha]at z;cases z) λp u z=>by rw[ha]at z;cases z
 have g2:RH i (O.upd G1 a<|.frz kvs)<|upd H1 a<|.frz o<|.dK ps:=p1.hp.put k2 ⟨o,ps,ez,hr.keep k2⟩;have it:=hJ _ a o ps kvs ez<|hr.keep k2;have aA:∀{H':Hp}{G':O.Hs},fb (upd H1 a<|.frz o<|.dK ps) H'->RH i G' H'->H' a=d9 (.frz o<|.dK ps)/\RKs i.K H' kvs ps/\fb H (upd H' a<|.dK ps):=λ{H' G'} k g=>by
  have e:=k.f a o _ ez;refine⟨e,(hr.keep k2).keep k,λb xs z=>?_,λb o' u z=>?_⟩
  .have z1:=k1.t b xs z;have hb:b≠a:=by rintro rfl;rw[ha]at z1;cases z1
   rw[ej hb];exact k.t b xs (by rw[ej hb];exact z1)
  .have z1:=k1.f b o' u z;have hb:b≠a:=by rintro rfl;rw[ha]at z1;cases z1
   rw[ej hb];exact k.f b o' u (by rw[ej hb];exact z1)
 have fin:∀Ł Ŗ G' H',fb (upd H1 a<|.frz o<|.dK ps) H'->RH i G' H'->REn i.K H' Ł Ŗ->(G' a=d9 (.frz kvs)/\N Ł (O.upd G' a<|.dct kvs))->(D.thaw X).nx Ŗ H':=λŁ Ŗ G' H' k g en ⟨_,n⟩=>by obtain⟨b1,b2,b3⟩:=aA k g;exact⟨a,o,ps,b1,h0,c.nx Ł Ŗ _ _ b3 (g.thaw b1 b2) (en.keepL<|XC b1) n⟩
 have ret:∀v G' H' x,fb (upd H1 a<|.frz o<|.dK ps) H'->RH i G' H'->RV i.K H' v x->(G' a=d9 (.frz kvs)/\R v (O.upd G' a<|.dct kvs))->(D.thaw X).rt x H':=λv G' H' x k g r ⟨_,n⟩=>by obtain⟨b1,b2,b3⟩:=aA k g;exact⟨a,o,ps,b1,h0,c.rt v _ _ x b3 (g.thaw b1 b2) (r.keepL<|XC b1) n⟩
 have xo:∀Hq,XW X (XKS i Hq λ_ _ _=>False):=λHq=>λ_ _ _ _ _ _ _ _ _ _ ⟨_,_,_,_,_,_,_,_,z⟩=>z.elim;generalize hxs:kvs.map (O.itemOf kb)=xs at w1 it;generalize ŷ:(λg:O.Hs=>g a=d9 (.frz kvs))=st at w1 it;refine⟨λn m Ŗ H'=>n+m=xs.length/\∃Ł G',fb (upd H1 a<|.frz o<|.dK ps) H'/\RH i G' H'/\REn i.K H' Ł Ŗ/\O.wFor st (λv e g K M=>O.go (O.bind q g v e) λe2=>O.wSs Φ mb e2 g K (λu g2=>g2 a=d9 (.frz kvs)/\R u (O.upd g2 a<|.dct kvs)) M K λ_ _ _=>False) (λe g=>g a=d9 (.frz kvs)/\N e (O.upd g a<|.dct kvs)) (xs.drop n) Ł G',⟨xs.length,by lia,env,_,fb.refl _,g2,(p.en.keep k1).keep k2,by simpa using w1⟩,?_⟩;rintro n m Ŗ H' ⟨hnm,Ł,G',k3,g3,e3,w3⟩;by_cases hn:n<xs.length
 .right;have hd:xs.drop n=xs[n]::xs.drop (n+1):=Ţ hn;rw[hd]at w3;obtain⟨s2,w3⟩:=w3;have hv:xs[n]?=d9 xs[n]:=Ê hn;obtain⟨a1,a2⟩:=it.go n G' H' xs[n] k3 g3 s2 hv;refine⟨a1,λσ4 H4=>∃cD G4,fb (upd H1 a<|.frz o<|.dK ps) H4/\RH i G4 H4/\REn i.K H4 cD σ4/\O.wFor st (λv e g K M=>O.go (O.bind q g v e) λe2=>O.wSs Φ mb e2 g K (λu g2=>g2 a=d9 (.frz kvs)/\R u (O.upd g2 a<|.dct kvs)) M K λ_ _ _=>False) (λe g=>g a=d9 (.frz kvs)/\N e (O.upd g a<|.dct kvs)) (xs.drop<|n+1) cD G4,λσ4 H4 h=>⟨m - 1,by lia,by lia,h⟩,λx H4 hy=>?_⟩;obtain⟨k4,g4,r4⟩:=a2 x H4 hy;obtain⟨aQ,e5,w5⟩:=eF w3;refine⟨xs[n],Ł,G',aQ,r4,g4,e3.keep k4,e5,λσ5 h5=>?_⟩;refine⟨aQ,G',_,_,_,_,_,⟨h5,g4,xo _⟩,w5,⟨λenv6 σ6 G6 H6 k6 g6 e6 w6=>?_,λv6 G6 H6 x6 k6 g6 r6 w6=>?_,λenv6 σ6 G6 H6 k6 g6 e6 w6=>?_,λenv6 σ6 G6 H6 k6 g6 e6 w6=>?_⟩⟩
  .exact⟨env6,G6,(k3.trans k4).trans k6,g6,e6,w6⟩
  .exact ret v6 G6 H6 x6 ((k3.trans k4).trans k6) g6 r6 w6
  .exact fin env6 σ6 G6 H6 ((k3.trans k4).trans k6) g6 e6 w6
  .exact⟨env6,G6,(k3.trans k4).trans k6,g6,e6,w6⟩
 .left;have hd:xs.drop n=[]:=ĳ (by lia);rw[hd]at w3;exact⟨it.stop n G' H' k3 g3 w3.1 (by lia),fin Ł Ŗ G' H' k3 g3 e3 w3.2⟩
variable {kk:Nat} {d:Expr}
def Hh{es:List Expr}{tp Ŏ ş:Pos}(hp:Λ (ß X.prog X.w) X.A X.env X.xe)(hc:X.calm=eh)(hd:PE X d<|tE X i Φ m)(hg:PG X (.Tuple es kk tp)<|gPt i q)(hb:PSs X body<|tBl X i Φ mb)
  (aw:Ħ d "items" X.env (eval d X.env)=eval d X.env) (ax:(Ŏ.endLine==ş.line)=eh) (hs:∀x,ę (.Call (.Attribute d "items" Ŏ) [] [] ş) X.env x=pure x) :
  PS X (.For (.Tuple es kk tp) (.Call (.Attribute d "items" Ŏ) [] [] ş) body [] ë) (tSt X i Φ<|.forI ei q m mb) :=
 Ah hp hc (BO hd aw ax) hg hb hs λ_ _ _ _ _ e r=>DI e r
def FE(hp:Λ (ß X.prog X.w) X.A X.env X.xe)(hc:X.calm=eh)(hd:PE X d<|tE X i Φ m)(hg:PG X tg<|gPt i q)(hb:PSs X body<|tBl X i Φ mb)(hs:∀x,ę d X.env x=pure x) :
  PS X (.For tg d body [] ë) (tSt X i Φ<|.forI eh q m mb) :=
 Ah hp hc (FI hd) hg hb hs λ_ _ _ _ _ e r=>GL e r
def Oo(ğ:List<|List Int):∀(k:Nat) (x:List Int) (r:List<|List Int),ğ.take (k+1)=x::r->k<ğ.length->O.minR x r=ğ.getD (Ĵ (btL λn=>ğ.getD n []) k) []
 |0,x,r,h,hk=>by
  cases ğ with
  |nil=>cases h
  |cons y ys=>simp at h;obtain⟨rfl,rfl⟩:=h;rfl
 |k+1,x,r,h,hk=>by
  cases ğ with
  |nil=>cases h
  |cons y ys =>
   rw[Ϡ]at h;injection h with h1 h2;subst h1 h2;have ac:k<ys.length:=by simpa using hk
   have ih:=Oo (y::ys) k y (ys.take k) (by rw[Ϡ]) (by simp;lia);have e:ys.take (k+1)=ys.take k++[ys[k]]:=by rw[Ű];simp[ac]
   have app:∀(b:List Int) (l:List<|List Int) (z:List Int),O.minR b (l++[z])=if O.fu z (O.minR b l)then z else O.minR b l:=by
    intro b l z;induction l generalizing b with
    |nil=>rfl
    |cons w l ih=>exact ih _
   rw[e,app,ih];have e2:(y::ys).getD (k+1) []=ys[k]:=by simp[ac]
   show _=(y::ys).getD (if btL (λn=>(y::ys).getD n []) (k+1) (Ĵ (btL λn=>(y::ys).getD n []) k)=eh then k+1 else Ĵ (btL λn=>(y::ys).getD n []) k) [];have eb:btL (λn=>(y::ys).getD n []) (k+1) (Ĵ (btL λn=>(y::ys).getD n []) k)=O.fu ys[k] ((y::ys).getD (Ĵ (btL λn=>(y::ys).getD n []) k) []):=by rw[MN,<-e2];rfl
   rw[eb];cases O.fu ys[k] ((y::ys).getD (Ĵ (btL λn=>(y::ys).getD n []) k) [])with
   |true=>rw[fZ rfl,fZ rfl,e2]
   |false=>rw[f8 (by decide),f8<|by decide]
def E9{G:O.Hs}{H:Hp}{xs:List O.Val}{us:List V}{w:List Int}{r:List (List Int)}{y:V}(h2:RVs i.K H xs us)(h3:(w::r).length=us.length)(h5:xs=(w::r).map λn=>.tup<|n.map .int)(hy:us[Ĵ (btL λn=>(w::r).getD n [])<|us.length - 1]?=d9 y):RV i.K H (.tup<|(O.minR w r).map .int) y:=by
 rw[Oo (w::r) ((w::r).length - 1) w r (by simp)<|by simp];rw[<-h3]at hy;have ϒ:Ĵ (btL λn=>(w::r).getD n []) ((w::r).length - 1)<(w::r).length:=by have:=J6 (btL λn=>(w::r).getD n [])<|(w::r).length - 1;simp only[Ë]at this ⊢;lia
 generalize hj:Ĵ (btL λn=>(w::r).getD n []) ((w::r).length - 1)=j at hy ϒ ⊢;have hxj:xs[j]?=d9 (.tup<|((w::r).getD j []).map .int):=by rw[h5,Ö,Ê ϒ];simp[ď,Ê ϒ]
 obtain⟨x2,hx2,rx2⟩:=h2.get hxj;rw[hy]at hx2;cases hx2;exact rx2
def Ix{e:Expr}{p kp kpos:Pos}(hc:X.calm=eh)(hu:X.A.units+1<Ĭ)(hK:X.K=i.K)(hg:Gl X "min")(hm:X.mg "min" = ee)(he:PE X e<|tE X i Φ m)(hs:Þ [e] X.env=[(ei,eval e X.env)]) :
  PE X (.Call (.Name "min" p) [e] [⟨d9 "default",.Constant .none kk kp,kpos⟩] ë) (tE X i Φ<|.bi .minD<|.cons m .nil):=by
 refine(FL hc hu hg hm (ZW he fN<|by rw[hs];rfl) hs).imp λσ H Q ⟨env,G,Qm,Em,p,w,c⟩=>?_;change tE X i Φ m σ H _;refine one p w λv G1 H1 x k1 p1 r q=>?_
 replace q:(O.fE G1 v).wp G1 Qm:=q
 cases v with
 |ref a =>
  cases r.ref_inv;unfold O.fE at q;dsimp only at q;cases z:(O.eS<|G1 a).bind O.rowsOf with
  |none=>rw[z]at q;exact(Zi q).elim
  |some ğ =>
   obtain⟨xs,z1,z2⟩:=ï.mp z;obtain⟨us,h1,h2⟩:=ZS p1.hp z1;obtain⟨h3,h4,h5⟩:=NM h2 z2;rw[z]at q;refine⟨a,us,ğ,rfl,by rw[hK];exact h1,h3,by rw[hK];exact h4,λe0=>?_,λe0 y hy=>?_⟩
   .subst e0;cases ğ with
    |nil=>exact c _ G1 H1 _ k1 p1.hp .non<|Zo q
    |cons _ _=>cases h3
   .cases ğ with
    |nil=>exact gf (Υ.mp h3.symm) e0
    |cons w r =>exact c _ G1 H1 _ k1 p1.hp (E9 (G:=G1) h2 h3 h5 hy)<|Zo q
 |_=>exact(Zi q).elim
end Snd
namespace L2
open PySem PySem.Spec PyProof.Rows
variable {X:Cx}
def KV.at_:∀{kvs:List (Key×V)}{vs:List (Key×Ã)}{j:Nat}{k:Key}{x:Ã},KV kvs vs->vs[j]?=d9 (k,x)->∃y,kvs[j]?=d9 (k,y)
 |_,_,_,_,_,.nil,e=>by cases e
 |_,_,0,_,_,.cons a _,e=>by cases e;exact⟨_,congrArg d9<|Prod.ext a.1 rfl⟩
 |_,_,j+1,_,_,.cons _ t,e=>KV.at_ (j:=j) t e
def OV(hc:X.calm=eh):eN X (.type "list") λxs H Q=>∃a kvs,xs=[V.ref a]/\H a=d9 (.dK kvs)/\∀l,H l=ee->Q (.ref l) (upd H l<|.lst<|kvs.map λp=>kV p.1):=by intro Â s σ H xs us Q I r h;obtain⟨a,kvs,rfl,e,q⟩:=h;obtain⟨u,rfl,rx⟩:=ZQ r;cases rx;obtain⟨z,hd,vs,Ş,dd⟩:=XG I.hok e;obtain⟨ep,da⟩:=dd.dictAt;refine PySem.W.kdl_call (PySem.W.kdl_dict (knd:=Zc X.prog X.w) (kvs:=vs) (ep:=ep) hd) (I.ok.hd hc) da (by rw[<-Ş.length];exact z) λh' tk Ė c' hk hS dh=>?_;refine⟨.ref s.heap.objs.size,_,I.laid (t':=tk) hk (Ì _) (show eP X.prog X.w _ h' _ (.lst<|kvs.map λp=>kV p.1) from ⟨by rw[Á];exact z,Ė.toList,c',?_,by simpa[Α]using hS⟩),rfl,q _<|I.hok.fresh<|Ì _⟩;obtain⟨a1,a2⟩:=dh;refine U3 _ _ (by have h1:Ė.toList.length=Ė.size:=ñ;rw[Á];have:=Ş.length;lia) λj u hu=>?_;obtain⟨k,x,h1,h2⟩:=a2 j u (by simpa using hu);obtain⟨y,hy⟩:=Ş.at_ h1;exact⟨kV k,by rw[Ö,hy];rfl,Af h2⟩
abbrev HJ:V->List V->Hp->VK->Prop:=λx vs H Q=>∃a kvs k z,x=.ref a/\vs=[kV k,z]/\H a=d9 (.dK kvs)/\kvs.length+1<=Ý/\(∀v,Yk kvs k=d9 v->Q v H)/\(Yk kvs k=ee->Q z (upd H a<|.dK<|ff kvs k z))
def F6:MtR X "dict.setdefault" HJ:=by
 intro Â s σ H x vs v us Q I rx rv h;obtain⟨a,kvs,k,z,rfl,rfl,e,hl,q1,q2⟩:=h;cases rx;obtain⟨u,t,rfl,ru,rt⟩:=rv.two;obtain⟨hz,hd,ws,Ş,dd⟩:=XG I.hok e;refine Κ PySem.F.slot_dict_setdefault dd.typeIs PySem.F.entry_dict_setdefault (PySem.F.args_dict_setdefault_3 _ _ _) (kt_meets_setdefault (Zc X.prog X.w) a (Xq ru) hd t) ⟨ws,dd,by rw[<-Ş.length];exact hz,λv hv=>?_,λhn h' cB hs=>?_⟩
 .have:=Ş.val k;rw[hv]at this;cases e2:Yk kvs k with
  |none=>rw[e2]at this;exact this.elim
  |some y=>rw[e2]at this;exact⟨_,_,I.tok _,this,q1 y e2⟩
 .have:=Ş.val k;rw[hn]at this;cases e2:Yk kvs k with
  |some y=>rw[e2]at this;exact this.elim
  |none =>
   have hl2:(ff kvs k z).length<=Ý:=by have:=Z8 kvs k z;lia
   have he:∃q,h'.get? a=d9 q:=let ⟨q,_,_,hq,_⟩:=cB;⟨q,hq⟩;exact⟨_,_,X8 I (by rw[e];exact True.intro) hs he<|Wz hl2 hd (Ş.put k rt) cB,rt,q2 e2⟩
end L2
namespace Snd
open PySem L2
variable {i:Inf}{X:Cx}{Φ:O.Fs}
def RKs.ks{K:Frag}{H:Hp}:∀{kvs:List (O.Val×O.Val)}{ps:List (Key×V)},RKs K H kvs ps->RVs K H (kvs.map (·.1)) (ps.map λp=>kV p.1)
 |_,_,.nil=>.nil
 |_,_,.cons b _ t=>.cons (O9 b)<|RKs.ks t
def Da:Jm i .listD λxs H Q=>∃a kvs,xs=[V.ref a]/\H a=d9 (.dK kvs)/\∀l,H l=ee->Q (.ref l) (upd H l<|.lst<|kvs.map λp=>kV p.1):=by
 intro vs G H xs Q Qm g r w c;obtain⟨v,rfl,w⟩:=Xh w;obtain⟨x,rfl,rx⟩:=r.inv1;cases v with
 |ref a =>
  cases rx.ref_inv
  replace w:(match O.fT (G a)with|some kvs=>O.Rs.new (.lst (kvs.map (·.1)))|none=>.no:O.Rs).wp G Qm:=w
  cases z:G a with
  |none=>rw[z]at w;exact(Zi w).elim
  |some o =>
   rw[z]at w;cases o with
   |dct kvs =>obtain⟨ps,h2,r2⟩:=g a _ z;exact⟨a,ps,rfl,h2,ZZ g (XM w) c λp hp=>⟨_,ez,r2.ks.keep<|fb.new hp⟩⟩
   |_=>exact(Zi w).elim
 |_=>exact(Zi w).elim
def PP:OS i .setdefault HJ:=λv vs G H x xs t Q Qm g rx rs e q c=>by
 obtain⟨a,kvs,rfl,e4,e3⟩:=W9 e;obtain⟨k,dv,rfl,e3⟩:=Q7 e3;obtain⟨⟨hk,hl⟩,e3⟩:=Zn e3;cases rx.ref_inv;obtain⟨y,z,rfl,ry,rz⟩:=rs.inv2;obtain⟨ps,h2,r2⟩:=g a _ e4;obtain⟨d,kr,rfl⟩:=eV hk ry;obtain⟨l1,l2⟩:=r2.look kr;have hlen:ps.length+1<=PySem.sizeLine:=by rw[<-r2.length];exact á hl ZP
 refine⟨a,ps,d,_,rfl,rfl,h2,hlen,λv hv=>?_,λhn=>?_⟩
 .cases z2:O.fc kvs k with
  |none=>rw[l2 z2]at hv;cases hv
  |some u =>rw[z2]at e3;cases e3;obtain⟨x,hx,rv⟩:=l1 u z2;rw[hx]at hv;cases hv;exact c _ _ _ _ (fb.refl H) g rv q
 .cases z2:O.fc kvs k with
  |some u=>obtain⟨x,hx,_⟩:=l1 u z2;rw[hx]at hn;cases hn
  |none =>rw[z2]at e3;cases e3;obtain⟨k3,g3⟩:=Je (kvs:=kvs) g h2<|r2.put kr rz;exact c _ _ _ _ k3 g3 (rz.keep k3) q
structure Md where
 N:List Str
 sc:η
 cs:List<|String×O.Val
 fs:List String
 cm:Bool
 cl:List String
 ms:List<|String×String
 fl:List String
 xs:List String
abbrev Md.nmOf(c:Md)(j:Nat):Str:=c.N.getD j Str.empty
abbrev Md.vis(c:Md)(x:Str):Bool:=match c.sc.names.lookup x with
 |some .local=>eh
 |some .cell=>eh
 |some .free=>eh
 |_=>ei
abbrev Md.loc(c:Md)(x:Str):Bool:=c.sc.names.lookup x==d9 .local||c.sc.names.lookup x==d9 .cell
abbrev Md.gl(c:Md)(x:Str):Bool:=c.sc.names.lookup x==d9 .globalImplicit
abbrev nm(x:Str):Bool:=!(x==("__debug__" : Str)) && !(x==("__classdict__" : Str)) && !(x==("__name__" : Str))
abbrev dE:Expr:=.Name Str.empty ⟨0,0,0,0⟩
abbrev mix:List (Option Expr)->List Expr->List Expr
 |k::ks,v::vs=>k.getD dE::v::mix ks vs
 |_,_=>[]
abbrev sub:Expr->List Expr
 |.BoolOp _ xs _=>xs
 |.BinOp a _ b _=>[a,b]
 |.UnaryOp _ a _=>[a]
 |.IfExp a b c _=>[a,b,c]
 |.Compare a _ bs _=>a::bs
 |.Call f as ks _=>f::(as++ks.map (·.value))
 |.FormattedValue a _ _ _=>[a]
 |.JoinedStr vs _=>vs
 |.Attribute a _ _=>[a]
 |.Subscript a b _=>[a,b]
 |.List es _=>es
 |.Tuple es _ _=>es
 |.Slice a b c _=>[a.getD dE,b.getD dE,c.getD dE]
 |.ListComp e gs _ _=>e::gs.flatMap λg=>g.target::g.iter::g.ifs
 |.Dict ks vs _=>mix ks vs
 |_=>[]
abbrev kid(x:Expr)(j:Nat):Expr:=(sub x).getD j dE
abbrev num:Expr->Nat
 |.Constant _ k _=>k
 |.Tuple _ k _=>k
 |_=>0
abbrev scp:Expr->η
 |.ListComp _ _ s _=>s
 |_=>default
abbrev kwp:Expr->Pos
 |.Call _ _ (k::_) _=>k.pos
 |_=>⟨0,0,0,0⟩
abbrev OM:O.Bop->ϓ
 |.add=>.Add
 |.sub=>.Sub
 |.mul=>.Mult
 |.fdiv=>.FloorDiv
 |.mod=>.Mod
 |.pow=>.Pow
abbrev WR:O.Cop->b7
 |.eq=>.Eq
 |.ne=>.NotEq
 |.lt=>.Lt
 |.le=>.LtE
 |.gt=>.Gt
 |.ge=>.GtE
 |.isin=>.In
 |.notin=>.NotIn
 |.is=>.Is
 |.isnot=>.IsNot
 |.eqE=>.Eq
 |.neE=>.NotEq
 |.ntT=>.IsNot
abbrev Ql:O.Val->Const
 |.non=>.none
 |.bl b=>.bool b
 |.int i=>.int i
 |.str s=>.str<|gh s
 |_=>.ellipsis
abbrev HS:O.Val->Bool
 |.non=>eh
 |.bl _=>eh
 |.int _=>eh
 |.str _=>eh
 |_=>ei
abbrev ZR:O.E->Bool
 |.and _ _=>eh
 |_=>ei
abbrev YC:O.E->Bool
 |.or _ _=>eh
 |_=>ei
abbrev Zr:O.Tt->Bool
 |.and _ _=>eh
 |_=>ei
abbrev ZH:O.Tt->Bool
 |.or _ _=>eh
 |_=>ei
abbrev rest(b:Bool)(x:Expr):Expr:=match b,x with
 |true,.BoolOp op (_::xs) p=>.BoolOp op xs p
 |_,x=>kid x 1
abbrev flat(b:Bool)(x:Expr):List Expr:=match b with
 |true=>sub x
 |false=>[x]
abbrev Yv:O.Bi->Str
 |.len=>"len"
 |.int=>"int"
 |.str=>"str"
 |.bool=>"bool"
 |.abs=>"abs"
 |.min2=>"min"
 |.max2=>"max"
 |.minL=>"min"
 |.maxL=>"max"
 |.minP=>"min"
 |.maxP=>"max"
 |.minD=>"min"
 |.sum=>"sum"
 |.all=>"all"
 |.any=>"any"
 |.sorted=>"sorted"
 |.sortedI=>"sorted"
 |.sortedSet=>"sorted"
 |.lenSet=>"len"
 |.list=>"list"
 |.tuple=>"tuple"
 |.dict=>"dict"
 |.isi _=>"isinstance"
 |.isx _=>"isinstance"
 |.isc _=>"isinstance"
 |.repr=>"repr"
 |.listRev=>"list"
 |.listRange=>"list"
 |.tupRange=>"tuple"
 |.dictEnum=>"dict"
 |.listD=>"list"
abbrev RY:O.Bi->Option Str
 |.sortedSet=>d9 "set"
 |.lenSet=>d9 "set"
 |.listRev=>d9 "reversed"
 |.listRange=>d9 "range"
 |.tupRange=>d9 "range"
 |.dictEnum=>d9 "enumerate"
 |_=>ee
abbrev IX(Ts:List String)(x:Expr):Expr:=match Ts with
 |[T]=>.Name (gh T) x.pos
 |Ts=>.Tuple (Ts.zipIdx.map λp=>.Name (gh p.1) (kid x p.2).pos) (num x) x.pos
abbrev LW(f:O.Bi)(as:List Expr)(x:Expr):List Expr:=match RY f with
 |some y=>[.Call (.Name y (kid (kid x 1) 0).pos) as [] (kid x 1).pos]
 |none=>match f with
  |.isi Ts=>as++[IX Ts<|kid x 2]
  |.isx Ts=>as++[IX Ts<|kid x 2]
  |.isc T=>as++[IX [T]<|kid x 2]
  |_=>as
abbrev U6(f:O.Bi)(x:Expr):List Expr:=match RY f with
 |some _=>(sub<|kid x 1).tail
 |none=>(sub x).tail
abbrev Sm(f:O.Bi)(x:Expr):List aG:=match f with
 |.minD=>[⟨d9 "default",.Constant .none (num<|kid x 2) (kid x 2).pos,kwp x⟩]
 |_=>[]
abbrev PH:O.Bm->Str
 |.append=>"append"
 |.extend=>"extend"
 |.pop=>"pop"
 |.popAt=>"pop"
 |.insert=>"insert"
 |.remove=>"remove"
 |.clear=>"clear"
 |.reverse=>"reverse"
 |.index=>"index"
 |.count=>"count"
 |.dget=>"get"
 |.dgetD=>"get"
 |.dpop=>"pop"
 |.dpopD=>"pop"
 |.setdefault=>"setdefault"
 |.join=>"join"
 |.split=>"split"
 |.replace=>"replace"
 |.upper=>"upper"
 |.partition=>"partition"
 |.sidx=>"index"
abbrev Wm:List Expr->List (Option Expr)
 |k::_::r=>d9 k::Wm r
 |_=>[]
abbrev Et:List Expr->List Expr
 |_::v::r=>v::Et r
 |_=>[]
abbrev toP(p:O.Pt)(c:Md)(x:Expr):Expr:=match p with
 |.one j=>.Name (c.nmOf j) x.pos
 |.many js=>.Tuple (js.zipIdx.map λp=>.Name (c.nmOf p.1) (kid x p.2).pos) (num x) x.pos
 |.nest j js=>.Tuple [.Name (c.nmOf j) (kid x 0).pos,.Tuple (js.zipIdx.map λp=>.Name (c.nmOf p.1) (kid (kid x 1) p.2).pos) (num<|kid x 1) (kid x 1).pos] (num x) x.pos
abbrev nmX:Expr->Str
 |.Name x _=>x
 |_=>Str.empty
abbrev YV:Expr->List Str
 |.Tuple es _ _=>es.map nmX
 |x=>[nmX x]
abbrev Md.blk(c:Md)(sc:η)(x:List Str)(ö:List Nat):Md :=
 {N:=x++ö.map (λj=>c.N.getD j Str.empty),sc:={sc with names:=sc.names.map λ(n,k)=>if(k == .free&&c.sc.kind == .function&&c.sc.names.lookup n==d9 .cell)then(n,.cell)else(n,k)},cs:=c.cs,fs:=c.fs,cm:=c.cm,cl:=c.cl,ms:=c.ms,fl:=c.fl,xs:=c.xs}
abbrev AM:O.E->Bool
 |.cst (.str _)=>eh
 |_=>ei
mutual
noncomputable def toX:O.E->Md->Expr->Expr
 |.cst v,_,x=>.Constant (Ql v) (num x) x.pos
 |.var j,c,x=>.Name (c.nmOf j) x.pos
 |.glob y _,_,x=>.Name (gh y) x.pos
 |.bin o a b,c,x=>.BinOp (toX a c<|kid x 0) (OM o) (toX b c<|kid x 1) x.pos
 |.neg a,c,x=>.UnaryOp .USub (toX a c<|kid x 0) x.pos
 |.not a,c,x=>.UnaryOp .Not (toX a c<|kid x 0) x.pos
 |.and a b,c,x=>.BoolOp .And (toX a c (kid x 0)::flat (ZR b) (toX b c<|rest (ZR b) x)) x.pos
 |.or a b,c,x=>.BoolOp .Or (toX a c (kid x 0)::flat (YC b) (toX b c<|rest (YC b) x)) x.pos
 |.cmp o a b,c,x=>.Compare (toX a c<|kid x 0) [WR o] [toX b c<|kid x 1] x.pos
 |.chain o1 o2 a b d,c,x=>.Compare (toX a c<|kid x 0) [WR o1,WR o2] [toX b c<|kid x 1,toX d c<|kid x 2] x.pos
 |.call f as,c,x=>.Call (.Name (gh f) (kid x 0).pos) (toA as c (sub x).tail) [] x.pos
 |.make C as,c,x=>.Call (.Name (gh C) (kid x 0).pos) (toA as c (sub x).tail) [] x.pos
 |.meth _ m o as,c,x=>.Call (.Attribute (toX o c<|kid (kid x 0) 0) (gh m) (kid x 0).pos) (toA as c (sub x).tail) [] x.pos
 |.fld o f,c,x=>.Attribute (toX o c<|kid x 0) (gh f) x.pos
 |.bi f as,c,x=>.Call (.Name (Yv f) (kid x 0).pos) (LW f (toA as c<|U6 f x) x) (Sm f x) x.pos
 |.bm m o as,c,x=>.Call (.Attribute (toX o c<|kid (kid x 0) 0) (PH m) (kid x 0).pos) (toA as c (sub x).tail) [] x.pos
 |.idx a b,c,x=>.Subscript (toX a c<|kid x 0) (toX b c<|kid x 1) x.pos
 |.slc a lo hi,c,x=>.Subscript (toX a c<|kid x 0) (.Slice (toO lo c<|kid (kid x 1) 0) (toO hi c<|kid (kid x 1) 1) ee (kid x 1).pos) x.pos
 |.rev a,c,x=>.Subscript (toX a c<|kid x 0) (.Slice ee ee (d9<|.UnaryOp .USub (.Constant (.int 1) (num<|kid (kid (kid x 1) 2) 0) (kid (kid (kid x 1) 2) 0).pos) (kid (kid x 1) 2).pos) (kid x 1).pos) x.pos
 |.tup es,c,x=>.Tuple (toA es c<|sub x) (num x) x.pos
 |.key es,c,x=>.Tuple (toA es c<|sub x) (num x) x.pos
 |.dctP,c,x=>.Dict [] [] x.pos
 |.lst es,c,x=>.List (toA es c<|sub x) x.pos
 |.dct es,c,x=>.Dict (Wm<|toA es c<|sub x) (Et<|toA es c<|sub x) x.pos
 |.ife t a b,c,x=>.IfExp (toT t c<|kid x 0) (toX a c<|kid x 1) (toX b c<|kid x 2) x.pos
 |.comp ö _ p it t e,c,x=>.ListComp (toX e (c.blk (scp x) (YV<|kid x 1) ö)<|kid x 0) [⟨toP p (c.blk (scp x) (YV<|kid x 1) ö)<|kid x 1,toI it c<|kid x 2,toF t (c.blk (scp x) (YV<|kid x 1) ö)<|kid x 3,0⟩] (scp x) x.pos
 |.fstr es,c,x=>.JoinedStr (toJ es c<|sub x) x.pos
 |.split o a,c,x=>.Call (.Attribute (toX o c<|kid (kid x 0) 0) "split" (kid x 0).pos) [toX a c<|kid x 1] [] x.pos
 |.repl o y z,c,x=>.Call (.Attribute (toX o c<|kid (kid x 0) 0) "replace" (kid x 0).pos) [.Constant (.str<|gh y) (num<|kid x 1) (kid x 1).pos,.Constant (.str<|gh z) (num<|kid x 2) (kid x 2).pos] [] x.pos
noncomputable def toA:O.Es->Md->List Expr->List Expr
 |.nil,_,_=>[]
 |.cons e es,c,xs=>toX e c (xs.headD dE)::toA es c xs.tail
noncomputable def toJ:O.Es->Md->List Expr->List Expr
 |.nil,_,_=>[]
 |.cons e es,c,xs=>(if AM e then toX e c (xs.headD dE)else .FormattedValue (toX e c<|kid (xs.headD dE) 0) (-1) ee (xs.headD dE).pos)::toJ es c xs.tail
noncomputable def toO:O.Oe->Md->Expr->Option Expr
 |.none,_,_=>ee
 |.some e,c,x=>d9<|toX e c x
noncomputable def toT:O.Tt->Md->Expr->Expr
 |.yes,_,x=>x
 |.val e,c,x=>toX e c x
 |.not t,c,x=>.UnaryOp .Not (toT t c<|kid x 0) x.pos
 |.and a b,c,x=>.BoolOp .And (toT a c (kid x 0)::flat (Zr b) (toT b c<|rest (Zr b) x)) x.pos
 |.or a b,c,x=>.BoolOp .Or (toT a c (kid x 0)::flat (ZH b) (toT b c<|rest (ZH b) x)) x.pos
noncomputable def toF:O.Tt->Md->Expr->List Expr
 |.yes,_,_=>[]
 |.val e,c,x=>[toX e c x]
 |.not t,c,x=>[.UnaryOp .Not (toT t c<|kid x 0) x.pos]
 |.and a b,c,x=>[.BoolOp .And (toT a c (kid x 0)::flat (Zr b) (toT b c<|rest (Zr b) x)) x.pos]
 |.or a b,c,x=>[.BoolOp .Or (toT a c (kid x 0)::flat (ZH b) (toT b c<|rest (ZH b) x)) x.pos]
noncomputable def toI:O.It->Md->Expr->Expr
 |.seq e,c,x=>toX e c x
 |.chars e,c,x=>toX e c x
 |.range a,c,x=>.Call (.Name "range" (kid x 0).pos) [toX a c<|kid x 1] [] x.pos
 |.range2 a b,c,x=>.Call (.Name "range" (kid x 0).pos) [toX a c<|kid x 1,toX b c<|kid x 2] [] x.pos
 |.enum e,c,x=>.Call (.Name "enumerate" (kid x 0).pos) [toX e c<|kid x 1] [] x.pos
 |.zip a b,c,x=>.Call (.Name "zip" (kid x 0).pos) [toX a c<|kid x 1,toX b c<|kid x 2] [] x.pos
 |.items e,c,x=>toX e c x
 |.rev e,c,x=>.Call (.Name "reversed" (kid x 0).pos) [toX e c<|kid x 1] [] x.pos
end
abbrev blts:List Str:=["isinstance","int","bool","str","list","tuple","dict","max","min","range","len","sorted","set","all","any","sum","enumerate","zip","reversed","abs","repr","ValueError"]
structure Kls(X:Cx)(i:Inf)(P:O.Pg)(n:Nat)(c:Md):Prop where
 A:ClsA i
 F:∀f,c.fl.contains f=eh->FldOk i f
 mkc:∀C,c.cl.contains C=eh->∃a f,i.ins C=eh/\i.cl C a/\Mk i.K a f/\X.mg (gh C)=d9 (.ref a)/\Dfm X.prog X.w X.mg X.base i P n (C ++ ".__init__") f
 mth:∀C m,c.ms.contains (C,m)=eh->∃a f,(∀b,i.cl C b->b=a)/\Cls i.K a/\Meth i.K a (gh m) f/\Dfm X.prog X.w X.mg X.base i P n (C ++ "." ++ m) f
structure Xls(X:Cx)(i:Inf)(c:Md):Prop where
 xc:∀C a,i.xc C a->XCls i.K a/\PySem.W.kitOne i.K (.ref a) (.type "ValueError")=d9 eh
 rs:∀C,c.xs.contains C=eh->∃a,i.xc C a/\PyProof.Rows.OwnCls (gh C) a [.type "ValueError",.type "Exception",.type "BaseException",.type "object"] "ValueError.__new__" X.mg X.base
 kn:∀T,(c.xs.contains T||T == "ShutError")=eh->∃D,X.mg (gh T)=d9 (.ref D)/\∀C a,i.xc C a->PySem.W.kitOne i.K (.ref a) (.ref D)=d9 (O.fO C T)/\(O.fO C T=eh->PySem.W.exmOne i.K (.ref a) (.ref D)=d9 eh)
structure Gd(X:Cx)(i:Inf)(P:O.Pg)(n:Nat)(c:Md):Prop where
 K:X.K=i.K
 N:X.N=c.N
 sc:X.env.scope=c.sc
 nd:c.N.Nodup
 un:X.A.units+200<Ĭ
 calm:c.cm=eh->X.calm=eh
 room:c.cm=eh->fi (2*n+1) X.A
 bl:∀x∈blts,X.mg x=ee
 dfs:∀f,c.fs.contains f=eh->Dfo X.prog X.w X.mg X.base i P n f
 cst:∀x v,c.cs.lookup x=d9 v->∃u y,X.mg (gh x)=d9 u/\RelV y u/\∀H,RV i.K H v y
 kl:Kls X i P n c
 xl:c.xs≠[]->Xls X i c
variable {X:Cx}{i:Inf}{P:O.Pg}{n:Nat}{c:Md}
variable {x:Str}
def Gd.gl(g:Gd X i P n c)(h:c.gl x=eh):Gl X x:=by show X.env.scope.names.lookup x=_;rw[g.sc];exact eq_of_beq h
def Gd.vis(g:Gd X i P n c)(h:c.vis x=eh):Vis X.env.scope x:=by
 unfold Vis;rw[g.sc];unfold Md.vis at h;split at h
 .exact .inl (by assumption)
 .exact .inr (.inl<|by assumption)
 .exact .inr (.inr<|by assumption)
 .cases h
def Gd.loc(g:Gd X i P n c)(h:c.loc x=eh):L2.Loc X.env.scope x:=by
 unfold L2.Loc;rw[g.sc];rcases (Bool.or_eq_true ..).mp h with h|h
 .exact .inl<|eq_of_beq h
 .exact .inr<|eq_of_beq h
def Gd.rm(g:Gd X i P n c)(h:c.cm=eh):fi (2*n) X.A:=(g.room h).mono (Ņ _)
def U2(h:nm x=eh):(x==("__debug__" : Str))=ei/\(x==("__classdict__" : Str))=ei/\x≠"__name__":=by simp only[nm,bAq,ś]at h;exact⟨h.1.1,h.1.2,by simpa using h.2⟩
def Zv(e:O.E)(c:Md)(x:Expr)(es:List Expr)(env:Env):Þ (toX e c x::es) env=(ei,eval (toX e c x) env)::Þ es env:=by cases e<;>rfl
def DN(e:O.E)(c:Md)(x:Expr):MQ<|toX e c x:=by intro o j;cases e<;>rfl
variable {op:b7}
def FW(e:O.E)(c:Md)(x:Expr):Ļ op (toX e c x)=ei:=by cases e<;>rfl
def LB(e:O.E)(c:Md)(x:Expr)(env:Env):∀y,ę (toX e c x) env y=pure y:=by intro y;cases e<;>rfl
abbrev YT:Expr->Bool
 |.Call (.Name _ _) [] _ _=>ei
 |_=>eh
variable {e:Expr}
def YI(h:YT e=eh)(f:Str)(env:Env):Ħ e f env (eval e env)=eval e env:=by
 cases e with
 |Call g as ks p =>
  cases as with
  |cons _ _=>cases g<;>rfl
  |nil=>cases g with
   |Name x q=>cases h
   |_=>rfl
 |_=>rfl
abbrev Zd:O.Es->Nat
 |.nil=>0
 |.cons _ es=>Zd es+1
def Wb:∀(es:O.Es) (c:Md) (xs:List Expr),(toA es c xs).length=Zd es
 |.nil,_,_=>rfl
 |.cons _ es,c,xs=>by show(toA es c xs.tail).length+1=_;rw[Wb es];rfl
def YH(env:Env)(ë:Pos):∀(es:O.Es) (c:Md) (xs:List Expr),(Ĥ ë<|Þ (toA es c xs) env).any (·.1)=ei
 |.nil,_,_=>rfl
 |.cons e es,c,xs=>by show(Ĥ ë<|Þ (toX e c (xs.headD dE)::toA es c xs.tail) env).any (·.1)=ei;rw[Zv];show(ei||(Ĥ ë<|Þ (toA es c xs.tail) env).any (·.1))=ei;rw[YH env ë es];rfl
def Jy(env:Env)(ë:Pos):∀(es:O.Es) (c:Md) (xs:List Expr),(Ĥ ë<|Þ (toA es c xs) env).all (λx=>!x.1)=eh
 |.nil,_,_=>rfl
 |.cons e es,c,xs=>by show(Ĥ ë<|Þ (toX e c (xs.headD dE)::toA es c xs.tail) env).all (λx=>!x.1)=eh;rw[Zv];show(eh&&(Ĥ ë<|Þ (toA es c xs.tail) env).all (λx=>!x.1))=eh;rw[Jy env ë es];rfl
abbrev ZE:O.Pt->Bool
 |.one _=>eh
 |_=>ei
def Nd(p:O.Pt)(x:Expr):((!ZE p)=eh->∃es k q,toP p c x=.Tuple es k q)/\((!ZE p)=ei->∃y q,toP p c x=.Name y q):=by
 cases p with
 |one j=>exact⟨λz=>(by cases z),λ_=>⟨_,_,rfl⟩⟩
 |many js=>exact⟨λ_=>⟨_,_,_,rfl⟩,λz=>(by cases z)⟩
 |nest j js=>exact⟨λ_=>⟨_,_,_,rfl⟩,λz=>(by cases z)⟩
abbrev Cs(X:Cx)(c:Md)(j:Nat):Prop:=X.N[j]?=d9 (c.nmOf j)/\L2.Loc X.env.scope (c.nmOf j)/\(X.fn (c.nmOf j)=eh\/X.env.scope.names.lookup (c.nmOf j)=d9 .local)
abbrev HH(q:Nat->Prop):O.Pt->Prop
 |.one j=>q j
 |.many js=>∀j∈js,q j
 |.nest j js=>q j/\∀k∈js,q k
def Mz{X:Cx}{c:Md}(nd:X.N.Nodup)(f:Nat->Pos):∀(js:List Nat) (k:Nat),(∀j∈js,Cs X c j)->
  PGs X ((js.zipIdx k).map λp=>.Name (c.nmOf p.1)<|f p.2) (Cv i js)/\(Ğ ((js.zipIdx k).map λp=>.Name (c.nmOf p.1)<|f p.2) X.env).length=js.length/\(Ğ ((js.zipIdx k).map λp=>.Name (c.nmOf p.1)<|f p.2) X.env).findIdx? (·.1)=ee
 |[],_,_=>⟨E3,rfl,rfl⟩
 |j::js,k,h=>by
  obtain⟨h1,h2,h3⟩:=h j (by simp);obtain⟨a1,a2,a3⟩:=Mz nd f js (k+1) λl hl=>h l (by simp[hl]);rw[List.zipIdx_cons,Ñ];refine⟨Ey nd h1 h2 h3 a1 rfl,?_,?_⟩
  .show(Ğ ((js.zipIdx<|k+1).map _) X.env).length+1=js.length+1;rw[a2]
  .show List.findIdx? (·.1) ((ei,θ (.Name (c.nmOf j)<|f k) X.env)::Ğ _ X.env)=ee;rw[List.findIdx?_cons];simp[a3]
def Ht(hK:X.K=i.K)(nd:X.N.Nodup)(hc:X.calm=eh){p:O.Pt}{x:Expr}(h:HH (Cs X c) p):PG X (toP p c x)<|gPt i p:=by
 cases p with
 |one j=>exact OZ nd h.1 h.2.1 h.2.2
 |many js =>obtain⟨a1,a2,a3⟩:=Mz nd (λk=>(kid x k).pos) js 0 h;exact Ur hK hc a1 a2 a3
 |nest j js =>obtain⟨h0,h⟩:=h;obtain⟨a1,a2,a3⟩:=Mz nd (λk=>(kid (kid x 1) k).pos) js 0 h;exact FH hK hc (OZ nd h0.1 h0.2.1 h0.2.2)<|Ur hK hc a1 a2 a3
variable {Φ:O.Fs} {a:O.E} {b:O.E} {l:Expr} {ë:Pos}
def Rq(g:Gd X i P n c){o:O.Bop}{r:Expr}(ha:PE X l<|tE X i Φ a)(hb:PE X r<|tE X i Φ b):PE X (.BinOp l (OM o) r ë)<|tE X i Φ<|.bin o a b:=by
 cases o with
 |add=>exact KO Qd (by rw[g.K];exact b_add) ha hb
 |sub=>exact KO IV b_sub ha hb
 |mul=>exact KO Qf b_mul ha hb
 |fdiv=>exact KO E5 b_fdiv ha hb
 |mod=>exact KO PN b_mod ha hb
 |pow=>exact KO PL b_pow ha hb
abbrev Wp:O.Cop->Bool
 |.is=>eh
 |.isnot=>eh
 |.neE=>eh
 |_=>ei
variable {o:O.Cop}
def OF(g:Gd X i P n c)(h:Wp o=ei):∃r,OpR X (ì<|WR o) r/\Z7 i o r:=by
 have u65:X.A.units+65<Ĭ:=by have:=g.un;lia
 have u64:X.A.units+64<Ĭ:=by have:=g.un;lia
 have u0:X.A.units<Ĭ:=by have:=g.un;lia
 cases o with
 |eq=>exact⟨_,IJ u64,by rw[g.K];exact Sl⟩
 |ne=>exact⟨_,IR u64,by rw[g.K];exact SL⟩
 |lt=>exact⟨_,Sb u0,by rw[g.K];exact c_lt⟩
 |le=>exact⟨_,RW,c_le⟩
 |gt=>exact⟨_,Sc u0,by rw[g.K];exact c_gt⟩
 |ge=>exact⟨_,R5,c_ge⟩
 |isin=>exact⟨_,Si u65,by rw[g.K];exact SA⟩
 |notin=>exact⟨_,Sg u65,by rw[g.K];exact Sr⟩
 |eqE=>exact⟨_,Cd u64,by rw[g.K];exact c_eqE⟩
 |ntT=>exact⟨_,Ls,c_ntT⟩
 |_=>cases h
def Lc{v:O.Val}{j:Nat}(h:HS v=eh):PE X (.Constant (Ql v) j ë)<|tE X i Φ<|.cst v:=by
 cases v with
 |non=>exact W4 Do λ_=>.non
 |bl b=>exact W4 Rx λ_=>.bl _
 |int k=>exact W4 O4 λ_=>.int _
 |str s=>exact W4 pe_str λ_=>.str _
 |_=>cases h
abbrev Oc:O.E->Bool
 |.cst .non=>eh
 |_=>ei
def Gb{e:O.E}(h:Oc e=eh):e=.cst .non:=by
 cases e with
 |cst v=>cases v with
  |non=>rfl
  |_=>cases h
 |_=>cases h
variable {y:Expr}
def BQ(hn:∀G v d,O.eX G o v .non≠d9 d)(ha:PE X l<|tE X i Φ a)(hb:PE X y<|tE X i Φ<|.cst .non)(hm:Ļ op y=ei) :
  PE X (.Compare l [op] [y] ë) (tE X i Φ<|.cmp o a<|.cst .non)/\PT X (.Compare l [op] [y] ë) (tTt X i Φ<|.val<|.cmp o a<|.cst .non):=by
 have ho:OpR X (ì op) λ_ _ _ _=>False:=λ_ _ _ _ _ _ _ _ _ _ _ _ h=>h.elim;refine⟨(UX ho ha hb hm).imp λσ H Q ⟨env,G,Qm,Em,p,w,c⟩=>?_,(Ac ho ha hb hm).imp λσ H Q ⟨env,G,Qm,Em,p,w,c⟩=>?_⟩
 .refine one p w λv G1 H1 x k1 p1 r q=>?_;obtain⟨d,e,_⟩:=eF q;exact gf e<|hn G1 v d
 .refine one p w λv G1 H1 x k1 p1 r q=>?_;obtain⟨d,e,_⟩:=eF q;exact gf e<|hn G1 v d
def N5(g:Gd X i P n c){x:Expr}(h:(!Wp o||Oc b)=eh)(ha:PE X l<|tE X i Φ a)(hb:PE X (toX b c x)<|tE X i Φ b) :
  PE X (.Compare l [WR o] [toX b c x] ë) (tE X i Φ<|.cmp o a b)/\PT X (.Compare l [WR o] [toX b c x] ë) (tTt X i Φ<|.val<|.cmp o a b):=by
 cases z:Wp o with
 |false =>obtain⟨r,h1,h2⟩:=OF g z;exact⟨Rk h1 h2 ha hb<|FW _ _ _,IF h1 h2 ha hb<|FW _ _ _⟩
 |true =>
  rw[z]at h;cases Gb h;cases o with
  |is=>exact⟨RB ha,Lf ha⟩
  |isnot=>exact⟨PM ha,Hk ha⟩
  |neE=>exact BQ (λG v d e=>by cases v<;>simp[O.eX,O.asLst]at e) ha hb<|FW _ _ _
  |_=>cases z
def JE(g:Gd X i P n c){o1 o2:O.Cop}{d:O.E}{x:Expr}(h1:Wp o1=ei)(h2:Wp o2=ei)(ha:PE X l<|tE X i Φ a)(hb:PE X y<|tE X i Φ b)(hd:PE X (toX d c x)<|tE X i Φ d) :
  PE X (.Compare l [WR o1,WR o2] [y,toX d c x] ë) (tE X i Φ<|.chain o1 o2 a b d)/\PT X (.Compare l [WR o1,WR o2] [y,toX d c x] ë) (tTt X i Φ<|.val<|.chain o1 o2 a b d):=by
 obtain⟨r1,a1,a2⟩:=OF g h1;obtain⟨r2,b1,b2⟩:=OF g h2;have hm:aX [WR o1,WR o2] [y,toX d c x]=ei:=FW _ _ _;exact⟨Fm a1 a2 b1 b2 ha hb hd hm,DZ a1 a2 b1 b2 ha hb hd hm⟩
def IU{m:O.E}(h:PE X e<|tE X i Φ m)(he:∀au,b6 e X.env au=(do let v<-au;ϋ e.pos;ł [v] (truthy v)))(hK:X.K=i.K):PT X e<|tTt X i Φ<|.val m:=by
 refine(D4 h he).imp λσ H Q ⟨env,G,Qm,Em,p,w,c⟩=>?_;refine one p w λv G1 H1 x k1 p1 r q=>?_;obtain⟨d,e1,q2⟩:=eF q;clear q;refine⟨d,?_,c d G1 H1 k1 p1.hp q2⟩;cases v with
 |non=>cases r;cases e1;rfl
 |bl b=>cases r;cases e1;rfl
 |int b =>
  cases r;cases e1;show gg (b≠0)=(b != 0)
  by_cases e:b=0<;>simp[e]
 |key _ _=>cases e1
 |str b =>
  cases r;obtain⟨hl,e1⟩:=Zn e1;cases e1;refine⟨by rw[Zw];exact á hl ZP,?_⟩;rw[Zw];by_cases e:b.length=0
  .rw[e];rfl
  .rw[gb e];symm;simpa using (by lia:¬ ((b.length:Int)=0))
 |tup xs =>
  cases e1;cases r with
  |tup hp hr =>refine .inr (.inl ⟨_,by rw[hK];exact Zm hp,?_⟩);cases hr<;>rfl
 |scr ns =>
  cases e1;cases r with
  |scr h =>refine .inl ⟨_,by rw[hK];exact Yr h,?_⟩;cases ns<;>rfl
 |ref a =>
  cases r.ref_inv
  replace e1:(match G1 a with|some (.lst xs)=>d9 (!xs.isEmpty)|some (.dct kvs)=>d9 (!kvs.isEmpty)|_=>ee)=d9 d:=e1
  cases z:G1 a with
  |none=>rw[z]at e1;cases e1
  |some o =>
   rw[z]at e1;cases o with
   |lst xs =>cases e1;obtain⟨vs,h1,h2⟩:=p1.hp a _ z;refine .inl ⟨vs,fP.of h1,?_⟩;cases h2<;>rfl
   |dct kvs =>cases e1;obtain⟨ps,h1,h2⟩:=p1.hp a _ z;refine .inr<|.inr ⟨ps,h1,?_⟩;cases h2<;>rfl
   |_=>cases e1
abbrev Md.gn(c:Md)(y:String):Bool:=c.gl (gh y)&&nm (gh y)
abbrev Wt:O.Bi->Bool
 |.len=>eh
 |.int=>eh
 |.min2=>eh
 |.max2=>eh
 |.all=>eh
 |.list=>eh
 |.tuple=>eh
 |.dict=>eh
 |.sortedI=>eh
 |.listD=>eh
 |_=>ei
abbrev Ga:O.Bi->Option String
 |.isi [T]=>d9 T
 |_=>ee
abbrev GK:O.Bi->Option (List String)
 |_=>ee
abbrev Wf:O.Bi->Bool
 |.lenSet=>eh
 |_=>ei
abbrev W1:O.Bi->Bool
 |.sortedSet=>eh
 |_=>ei
abbrev Cf:O.Bi->Str
 |.listRev=>"reversed"
 |.sortedSet=>"set"
 |_=>"range"
abbrev UP:O.Bi->Bool
 |_=>ei
abbrev Uz:O.Bi->Bool
 |_=>ei
abbrev Nw:O.Bi->String
 |.isc T=>T
 |_=>""
abbrev MM:O.Bi->Bool
 |.minD=>eh
 |_=>ei
abbrev BZ:O.Bi->Option (List String)
 |_=>ee
abbrev Md.xn(c:Md)(T:String):Bool:=(c.xs.contains T||T == "ShutError")&&c.gn T
abbrev Wx:O.Bi->Bool
 |.len=>eh
 |.int=>eh
 |.list=>eh
 |.tuple=>eh
 |_=>ei
abbrev LT(c:Md)(Ts:List String):Bool:=match Ts with
 |[T]=>c.xn T||(T == "ValueError" && c.gl (gh T))
 |Ts=>Ts.all c.xn&&gg (Ts.length<=20)
abbrev Di:O.Bm->Option Nat
 |.append=>d9 1
 |.popAt=>d9 1
 |.dget=>d9 1
 |.dpop=>d9 1
 |.dpopD=>d9 2
 |.setdefault=>d9 2
 |_=>ee
abbrev UN:O.Tt->Bool
 |.yes=>eh
 |_=>ei
abbrev OT:O.E->Bool
 |.var _=>eh
 |.call _ _=>eh
 |.meth _ _ _ _=>eh
 |.bi _ _=>eh
 |.bm _ _ _=>eh
 |.idx _ _=>eh
 |.fld _ _=>eh
 |.glob _ _=>eh
 |_=>ei
abbrev Qv:O.E->Bool
 |.cmp _ _ _=>eh
 |.chain _ _ _ _ _=>eh
 |_=>ei
mutual
noncomputable def okE:O.E->Md->Expr->Bool
 |.cst v,_,_=>HS v
 |.var j,c,_=>gg (j<c.N.length)&&c.vis (c.nmOf j)&&nm (c.nmOf j)
 |.glob y v,c,_=>c.gn y&&gg (c.cs.lookup y=d9 v)
 |.bin _ a b,c,x=>okE a c (kid x 0)&&okE b c (kid x 1)
 |.neg a,c,x=>okE a c<|kid x 0
 |.not a,c,x=>okE a c<|kid x 0
 |.and a b,c,x=>okE a c (kid x 0)&&okE b c (rest (ZR b) x)&&(!ZR b||(rest (ZR b) x).pos==x.pos)
 |.or a b,c,x=>okE a c (kid x 0)&&okE b c (rest (YC b) x)&&(!YC b||(rest (YC b) x).pos==x.pos)
 |.cmp o a b,c,x=>okE a c (kid x 0)&&okE b c (kid x 1)&&(!Wp o||Oc b)
 |.chain o1 o2 a b d,c,x=>okE a c (kid x 0)&&okE b c (kid x 1)&&okE d c (kid x 2) && !Wp o1 && !Wp o2
 |.call f as,c,x=>c.gn f&&c.fs.contains f&&c.cm&&okA as c (sub x).tail
 |.make C as,c,x=>c.gn C&&c.cl.contains C&&c.cm&&gg (Zd as≠0)&&okA as c (sub x).tail
 |.meth C m o as,c,x=>c.ms.contains (C,m)&&c.cm&&okE o c (kid (kid x 0) 0)&&YT (toX o c<|kid (kid x 0) 0)&&((kid x 0).pos.endLine==x.pos.line)&&gg (Zd as<20)&&okA as c (sub x).tail
 |.fld o f,c,x=>c.fl.contains f&&okE o c (kid x 0)&&YT (toX o c<|kid x 0)
 | .bi f as,c,x=>(match Ga f with
   |some T=>gg (Zd as=1)&&kinds.contains T&&c.gl "isinstance" && c.gl (gh T)
   |none=>match GK f with
     |some Ts=>gg (Zd as=1)&&c.gl "isinstance" && !c.xs.isEmpty&&LT c Ts
     |none=>match BZ f with
       |some Ts=>gg (Zd as=1)&&c.gl "isinstance" && Ts.all (λT=>kinds.contains T&&c.gl (gh T))&&gg (Ts.length<=20)
       | none=>if Wf f then gg (Zd as=1)&&c.gl "len" && c.gl "set" && c.cm else if W1 f then gg (Zd as=1)&&c.gl (Yv f)&&c.gl (Cf f)&&c.cm else if MM f then gg (Zd as=1)&&c.gl "min" && c.cm else if UP f then gg (Zd as=1)&&c.gl "dict" && c.gl "enumerate" && c.cm else if Uz f then gg (Zd as=1)&&c.gl "isinstance" && c.gn (Nw f)&&c.cl.contains (Nw f)else Wt f&&c.gl (Yv f)&&gg (Zd as≠0)&&(c.cm||Wx f))&&okA as c (U6 f x)
 |.bm m o as,c,x=>gg (Di m=d9 (Zd as))&&okE o c (kid (kid x 0) 0)&&YT (toX o c<|kid (kid x 0) 0)&&((kid x 0).pos.endLine==x.pos.line)&&okA as c (sub x).tail
 |.idx a b,c,x=>okE a c (kid x 0)&&okE b c (kid x 1)
 |.slc a lo hi,c,x=>okE a c (kid x 0)&&okO lo c (kid (kid x 1) 0)&&okO hi c (kid (kid x 1) 1)
 |.tup es,c,x=>okA es c (sub x)&&gg (Zd es<=1000)
 |.lst es,c,x=>okA es c (sub x)&&gg (Zd es<=1000)
 |.dct es,c,x=>okA es c (sub x)&&JS es&&gg (esL es<=30)
 |.ife t a b,c,x=>okT t c (kid x 0)&&okE a c (kid x 1)&&okE b c (kid x 2)
 |.comp ö m p it t e,c,x=>(OC m p&&(YV<|kid x 1).length==m)&&c.cm&&Yy (scp x) c.sc c.N (YV<|kid x 1) ö&&(scp x).kind == .function&&okI it c (kid x 2) (!ZE p)&&okE e (c.blk (scp x) (YV<|kid x 1) ö) (kid x 0)&&(UN t||okT t (c.blk (scp x) (YV<|kid x 1) ö) (kid x 3))
 |_,_,_=>ei
noncomputable def okA:O.Es->Md->List Expr->Bool
 |.nil,_,_=>eh
 |.cons e es,c,xs=>okE e c (xs.headD dE)&&okA es c xs.tail
noncomputable def okJ:O.Es->Md->List Expr->Bool
 |.nil,_,_=>eh
 |.cons e es,c,xs=>(AM e||okE e c (kid (xs.headD dE) 0))&&okJ es c xs.tail
noncomputable def okO:O.Oe->Md->Expr->Bool
 |.none,_,_=>eh
 |.some e,c,x=>okE e c x
noncomputable def okT:O.Tt->Md->Expr->Bool
 |.yes,_,_=>ei
 |.val e,c,x=>okE e c x&&(OT e||Qv e)
 |.not t,c,x=>okT t c<|kid x 0
 |.and a b,c,x=>okT a c (kid x 0)&&okT b c (rest (Zr b) x)&&(!Zr b||(rest (Zr b) x).pos==x.pos)
 |.or a b,c,x=>okT a c (kid x 0)&&okT b c (rest (ZH b) x)&&(!ZH b||(rest (ZH b) x).pos==x.pos)
noncomputable def okI:O.It->Md->Expr->Bool->Bool
 |.seq e,c,x,_=>okE e c x
 |.range a,c,x,_=>c.gl "range" && okE a c (kid x 1)
 |.range2 a b,c,x,_=>c.gl "range" && okE a c (kid x 1)&&okE b c (kid x 2)
 |.enum e,c,x,t=>t&&c.gl "enumerate" && okE e c (kid x 1)
 |_,_,_,_=>ei
end
variable {X:Cx}{i:Inf}{P:O.Pg}{n:Nat}{c:Md}
variable {f:O.Bi} {e:Expr} {es:List Expr} {q:Pos} {p:Pos} {l:Nat}
def EY(g:Gd X i P n c)(hp:Wt f=eh)(dJ:(c.cm||Wx f)=eh){as:O.Es}(hg:Gl X<|Yv f)(ha:PA X (e::es)<|tAr X i (O.wF P n) as l)
  (he:Þ (e::es) X.env=(ei,eval e X.env)::Þ es X.env) (hpl:(Ĥ p<|Þ es X.env).any (·.1)=ei):PE X (.Call (.Name (Yv f) q) (e::es) [] p)<|tE X i (O.wF P n)<|.bi f as:=by
 have hc:Wx f=ei->X.calm=eh:=λz=>g.calm (by rw[z,ϣ]at dJ;exact dJ);cases f with
 |len=>exact(Yn ((call_len_seq.or Mu).or BB) hg (g.bl _<|by simp[blts,Yv]) (by kernel_rfl) ha (he:=he) (hpl:=hpl)).imp (XJ<|by rw[g.K];exact Lq)
 |int=>exact(Ym (call_int1.or Kz) hg (g.bl _<|by simp[blts,Yv]) (by kernel_rfl) ha (he:=he) (hpl:=hpl)).imp<|XJ Ln
 |min2=>exact(Yn (At<|hc rfl) hg (g.bl _<|by simp[blts,Yv]) (by kernel_rfl) ha (he:=he) (hpl:=hpl)).imp<|XJ Hf
 |max2=>exact(Yn (AU<|hc rfl) hg (g.bl _<|by simp[blts,Yv]) (by kernel_rfl) ha (he:=he) (hpl:=hpl)).imp<|XJ FV
 |all=>exact(Yn (Dy<|hc rfl) hg (g.bl _<|by simp[blts,Yv]) (by kernel_rfl) ha (he:=he) (hpl:=hpl)).imp (XJ<|by rw[g.K];exact Pq)
 |list=>exact(Ym MP hg (g.bl _<|by simp[blts,Yv]) (by kernel_rfl) ha (he:=he) (hpl:=hpl)).imp (XJ<|by rw[g.K];exact F3)
 |dict=>exact(Ym (call_dictK.or<|O2<|hc rfl) hg (g.bl _<|by simp[blts,Yv]) (by kernel_rfl) ha (he:=he) (hpl:=hpl)).imp (XJ<|by rw[g.K];exact ES)
 |sortedI=>exact(Yn (call_sorted.or<|ME<|hc rfl) hg (g.bl _<|by simp[blts,Yv]) (by kernel_rfl) ha (he:=he) (hpl:=hpl)).imp (XJ<|by rw[g.K];exact Uf)
 |listD=>exact(Ym (OV<|hc rfl) hg (g.bl _<|by simp[blts,Yv]) (by kernel_rfl) ha (he:=he) (hpl:=hpl)).imp<|XJ Da
 |tuple=>exact(Ym Kw hg (g.bl _<|by simp[blts,Yv]) (by kernel_rfl) ha (he:=he) (hpl:=hpl)).imp (XJ<|by rw[g.K];exact DM)
 |_=>cases hp
variable {T:String}
def PV(h:Ga f=d9 T):f=.isi [T]:=by
 cases f with
 |isi Ts =>
  cases Ts with
  |nil=>cases h
  |cons a r=>cases r with
   |nil=>cases h;rfl
   |cons _ _=>cases h
 |_=>cases h
def DT(g:Gd X i P n c){m:O.E}{p2 ë:Pos}(hT:T∈kinds)(h2:c.gl "isinstance" = eh)(h5:c.gl (gh T)=eh)(he:PE X e<|tE X i (O.wF P n) m)(ŷ:Þ [e,.Name (gh T) p2] X.env=(ei,eval e X.env)::Þ [.Name (gh T) p2] X.env) :
  PE X (.Call (.Name "isinstance" p) [e,.Name (gh T) p2] [] ë) (tE X i (O.wF P n)<|.bi (.isi [T])<|.cons m .nil):=by
 have cP:=hT;simp only[kinds,Ç,Ù,or_false]at cP;refine Q2 hT he g.K (g.gl h2) (g.bl _<|by simp[blts]) (g.gl h5) ?_ ?_ ?_ ?_ ŷ
 .rcases cP with rfl|rfl|rfl|rfl|rfl|rfl<;>exact g.bl _ (by simp[blts])
 .rcases cP with rfl|rfl|rfl|rfl|rfl|rfl<;>kernel_rfl
 .rcases cP with rfl|rfl|rfl|rfl|rfl|rfl<;>decide
 .rcases cP with rfl|rfl|rfl|rfl|rfl|rfl<;>decide
variable {m:O.Bm} {o:Expr} {mo:O.E} {Ŏ:Pos} {ş:Pos}
def Dh(g:Gd X i P n c)(h:Di m=d9 0)(ho:PE X o<|tE X i (O.wF P n) mo)(hb:∀f,Ħ o f X.env (eval o X.env)=eval o X.env)(hl:(Ŏ.endLine==ş.line)=eh) :
  PE X (.Call (.Attribute o (PH m) Ŏ) [] [] ş) (tE X i (O.wF P n)<|.bm m mo .nil):=by
 cases m with
 |_=>cases h
def Gx(g:Gd X i P n c){k:Nat}(h:Di m=d9 (k+1)){ms:O.Es}(ho:PE X o<|tE X i (O.wF P n) mo)(ha:PA X (e::es)<|tAr X i (O.wF P n) ms l)(hb:∀f,Ħ o f X.env (eval o X.env)=eval o X.env)(hl:(Ŏ.endLine==ş.line)=eh)
  (aa:((Ĥ ş<|Þ (e::es) X.env).all (λx=>!x.1)&&(ź ş<|ŉ [] X.env).all (λx=>x.1.isSome)&&gg ((e::es).length+([]:List aG).length+(if([]:List aG).isEmpty then 0 else 1)<30))=eh)
  (hs:Þ (e::es) X.env=(ei,eval e X.env)::Þ es X.env) (hpl:(Ĥ ş<|Þ es X.env).any (·.1)=ei) :
  PE X (.Call (.Attribute o (PH m) Ŏ) (e::es) [] ş) (tE X i (O.wF P n)<|.bm m mo ms):=by
 have u1:X.A.units+1<Ĭ:=by have:=g.un;lia
 cases m with
 |append=>exact AO g.K PySem.F.plainAttrs_list PySem.F.slot_list_append PySem.F.type_list_append BA (P6 rfl) Pr ho ha (hb _) aa hl hs hpl
 |popAt=>exact AO g.K PySem.F.plainAttrs_list PySem.F.slot_list_pop PySem.F.type_list_pop C5 (P6 rfl) Fd ho ha (hb _) aa hl hs hpl
 |dget=>exact AO g.K PySem.F.plainAttrs_dict PySem.F.slot_dict_get PySem.F.type_dict_get (Cb u1) (GF rfl) Pw ho ha (hb _) aa hl hs hpl
 |dpop=>exact AO g.K PySem.F.plainAttrs_dict PySem.F.slot_dict_pop PySem.F.type_dict_pop mt_dpop (GF rfl) IZ ho ha (hb _) aa hl hs hpl
 |dpopD=>exact AO g.K PySem.F.plainAttrs_dict PySem.F.slot_dict_pop PySem.F.type_dict_pop (mt_dpop.or Ch) (GF rfl) FO ho ha (hb _) aa hl hs hpl
 |setdefault=>exact AO g.K PySem.F.plainAttrs_dict PySem.F.slot_dict_setdefault PySem.F.type_dict_setdefault F6 (GF rfl) PP ho ha (hb _) aa hl hs hpl
 |_=>cases h
variable {sc:η} {ö:List Nat}
def Gd.blk(g:Gd X i P n c){x:List Str}(hb:Yy sc c.sc c.N x ö=eh)(hk:sc.kind=.function)(cl:List<|Str×Í)(C:Í)(s:Å)(H:Hp)(ex:List Í) :
  Gd (Zu X sc (Yh X x ö) cl C s H ex) i P n (c.blk sc x ö) where
 K:=g.K
 N:=by show Yh X x ö=_;unfold Yh;rw[g.N];rfl
 sc:=by show bP sc X.env=_;unfold bP Env.kindOf;rw[g.sc];rfl
 nd:=by have B:=OR g.sc g.N hk hb;have:=B.nd;unfold Yh at this;rw[g.N]at this;exact this
 un:=g.un
 calm:=g.calm
 room:=g.room
 bl:=g.bl
 dfs:=g.dfs
 cst:=g.cst
 kl:=⟨g.kl.A,g.kl.F,g.kl.mkc,g.kl.mth⟩
 xl:=λh=>⟨(g.xl h).xc,(g.xl h).rs,(g.xl h).kn⟩
def Gd.pt(g:Gd X i P n c)(dJ:c.cm=eh){xs:List Str}(hb:Yy sc c.sc c.N xs ö=eh)(hk:sc.kind=.function){p:O.Pt}(hp:OC xs.length p=eh)(x:Expr)(cl:List<|Str×Í)(C:Í)(s:Å)(H:Hp)(ex:List Í) :
  PG (Zu X sc (Yh X xs ö) cl C s H ex) (toP p (c.blk sc xs ö) x) (gPt i p):=by
 have B:=OR g.sc g.N hk hb;have G:=g.blk hb hk cl C s H ex;have key:∀j,j<xs.length->Cs (Zu X sc (Yh X xs ö) cl C s H ex) (c.blk sc xs ö) j:=λj hj=>by
  have e:(c.blk sc xs ö).nmOf j=xs[j]:=by unfold Md.nmOf Md.blk;show(xs++_).getD j _=_;rw[ď,ć hj,Ê hj];rfl
  have lo:=lookup_relabel_local (env:=X.env)<|B.own xs[j]<|ō hj;unfold Cs;rw[e];refine⟨?_,.inl lo,.inr lo⟩;show(xs++_)[j]?=_;rw[ć hj,Ê hj]
 refine Ht G.K (by rw[G.N];exact G.nd) (g.calm dJ) ?_;cases p with
 |one j=>exact key j<|of_decide_eq_true hp
 |many js=>exact λj hj=>key j<|of_decide_eq_true<|ü.mp hp j hj
 |nest j js=>cases hp
variable {b:O.E}
def Ab(h:ZR b=eh):∃a d,b=.and a d:=by
 cases b with
 |and a d=>exact⟨a,d,rfl⟩
 |_=>cases h
def CH(h:YC b=eh):∃a d,b=.or a d:=by
 cases b with
 |or a d=>exact⟨a,d,rfl⟩
 |_=>cases h
def Cq{b:O.Tt}(h:Zr b=eh):∃a d,b=.and a d:=by
 cases b with
 |and a d=>exact⟨a,d,rfl⟩
 |_=>cases h
def Fc{b:O.Tt}(h:ZH b=eh):∃a d,b=.or a d:=by
 cases b with
 |or a d=>exact⟨a,d,rfl⟩
 |_=>cases h
def MU{b:Bool}(h:(!b||p==q)=eh)(hb:b=eh):p=q:=by rw[hb]at h;exact eq_of_beq h
variable {Φ:O.Fs} {x:Expr}
def Cl(hp:(!ZR b||(rest (ZR b) x).pos==x.pos)=eh)(h:PE X (toX b c<|rest (ZR b) x)<|tE X i Φ b):PE X (.BoolOp .And (flat (ZR b)<|toX b c<|rest (ZR b) x) x.pos)<|tE X i Φ b:=by
 cases z:ZR b with
 |false=>rw[z]at h;exact CA h
 |true =>have e:=MU hp z;rw[z]at e h;obtain⟨a,d,rfl⟩:=Ab z;show PE X (.BoolOp .And (sub<|.BoolOp .And _ (rest eh x).pos) x.pos) _;rw[<-e];exact h
def Fe(hp:(!YC b||(rest (YC b) x).pos==x.pos)=eh)(h:PE X (toX b c<|rest (YC b) x)<|tE X i Φ b):PE X (.BoolOp .Or (flat (YC b)<|toX b c<|rest (YC b) x) x.pos)<|tE X i Φ b:=by
 cases z:YC b with
 |false=>rw[z]at h;exact CA h
 |true =>have e:=MU hp z;rw[z]at e h;obtain⟨a,d,rfl⟩:=CH z;show PE X (.BoolOp .Or (sub<|.BoolOp .Or _ (rest eh x).pos) x.pos) _;rw[<-e];exact h
def K5(b:Bool){e:O.E}(h:b=ZR e\/b=YC e):∃y ys,flat b (toX e c x)=y::ys:=by
 cases b with
 |false=>exact⟨_,_,rfl⟩
 |true =>
  rcases h with h|h
  .obtain⟨a,d,rfl⟩:=Ab h.symm;exact⟨_,_,rfl⟩
  .obtain⟨a,d,rfl⟩:=CH h.symm;exact⟨_,_,rfl⟩
variable {i:Inf}{P:O.Pg}{n:Nat}
variable {X:Cx} {c:Md} {Φ:O.Fs} {b:O.Tt} {x:Expr}
def Bx(hp:(!Zr b||(rest (Zr b) x).pos==x.pos)=eh)(h:PT X (toT b c<|rest (Zr b) x)<|tTt X i Φ b)(h2:(Zr b||ZH b)=eh->PW X (toT b c<|rest (Zr b) x) (tTt X i Φ b)) :
  ∃y ys,flat (Zr b) (toT b c<|rest (Zr b) x)=y::ys/\PW X (.BoolOp .And (y::ys) x.pos) (tTt X i Φ b):=by
 cases z:Zr b with
 |false=>rw[z]at h;exact⟨_,_,rfl,Ge h⟩
 |true =>have e:=MU hp z;rw[z]at e h2;obtain⟨a,d,rfl⟩:=Cq z;refine⟨_,_,rfl,?_⟩;rw[<-e];exact h2 rfl
def C7(hp:(!ZH b||(rest (ZH b) x).pos==x.pos)=eh)(h:PT X (toT b c<|rest (ZH b) x)<|tTt X i Φ b)(h2:(Zr b||ZH b)=eh->PW X (toT b c<|rest (ZH b) x) (tTt X i Φ b)) :
  ∃y ys,flat (ZH b) (toT b c<|rest (ZH b) x)=y::ys/\PW X (.BoolOp .Or (y::ys) x.pos) (tTt X i Φ b):=by
 cases z:ZH b with
 |false=>rw[z]at h;exact⟨_,_,rfl,Ph h⟩
 |true =>have e:=MU hp z;rw[z]at e h2;obtain⟨a,d,rfl⟩:=Fc z;refine⟨_,_,rfl,?_⟩;rw[<-e];exact h2 rfl
variable {e:O.E}
def Su(h:AM e=eh):∃s,e=.cst (.str s):=by
 cases e with
 |cst v=>cases v with
  |str s=>exact⟨s,rfl⟩
  |_=>cases h
 |_=>cases h
variable {ö:List Nat} {p:O.Pt} {it:O.It} {ë:Pos}
def K0(g:Gd X i P n c){mt:O.Tt}{me:O.E}{bD Ŭ bj:Expr}{x:List Str}{aV:List Expr}{sc:η}(dJ:c.cm=eh)(h1:Yy sc c.sc c.N x ö=eh)(hk:sc.kind=.function)(hp:OC x.length p=eh)
  (hi:PI X bj Ŭ<|tIt X i (O.wF P n) it) (hs:∀y,ę Ŭ X.env y=pure y) (hG:∀cl C s H ex,PG (Zu X sc (Yh X x ö) cl C s H ex) bj<|gPt i p)
  (hE:∀cl C s H ex,PE (Zu X sc (Yh X x ö) cl C s H ex) bD<|tE0 i (O.wF P n) me) (hI:∀cl C s H ex,PIfs (Zu X sc (Yh X x ö) cl C s H ex) aV<|tT0 i (O.wF P n) mt) :
  PE X (.ListComp bD [⟨bj,Ŭ,aV,0⟩] sc ë) (tE X i (O.wF P n)<|.comp ö x.length p it mt me)/\
   ∀(y:Str) (py ϖ:Pos) (j:Nat),X.N[j]?=d9 y->L2.Loc X.env.scope y->(X.fn y=eh\/X.env.scope.names.lookup y=d9 .local)->Ŷ (.ListComp bD [⟨bj,Ŭ,aV,0⟩] sc ë) (d9<|.Name y py) ϖ.line X.env=pure eh->PS X (.Assign [.Name y py] (.ListComp bD [⟨bj,Ŭ,aV,0⟩] sc ë) ϖ) (tSt X i (O.wF P n)<|.set (.one j)<|.comp ö x.length p it mt me):=by
 have B:=OR g.sc g.N hk h1;have hc:=g.calm dJ;refine⟨(EG hc B hi hG hI hE hs).imp<|Uy hp,λy py ϖ j hj hl hf hsw=>?_⟩;refine(Ci (by rw[g.N];exact g.nd) hj hl hc B hi hG hI hE hs hsw hf).imp λD σ H ⟨env,G,N,R,Bk,Ct,Xe,p,w,e⟩=>?_;refine Uy hp σ H _ ⟨env,G,_,Xe env,p.pre,w,λv G1 H1 x k1 g1 r1 w1=>?_⟩;obtain⟨Ŕ,e2,w2⟩:=eF w1;clear w1;cases e2;exact e.nx _ _ G1 H1 k1 g1 ((p.en.keep k1).set r1 j) w2
def BY{j:Nat}(hN:X.N=c.N)(h:j<c.N.length):X.N[j]?=d9 (c.nmOf j):=by rw[hN];unfold Md.nmOf;rw[ď,Ê h];rfl
def FA{o:Expr}{m:Str}{Ŏ:Pos}{args:List Expr}{env:Env}(hb:Ħ o m env (eval o env)=eval o env)(aa:cq (args.length+0) (Ĥ ë<|Þ args env) (ź ë<|ŉ [] env)=eh)(hl:(Ŏ.endLine==ë.line)=eh) :
  eval (.Call (.Attribute o m Ŏ) args [] ë) env=(do
    let ov<-eval o env
    ϋ Ŏ.atName
    let (f,first)<-ł [ov] (ϔ ov m<|do return (<-importBound o env).getD eh)
    b9 ë f first (Ĥ ë<|Þ args env) (ź ë<|ŉ [] env)):=by
 show(do
   let ov<-Ħ o m env (eval o env)
   ϋ Ŏ.atName
   methodCall o m Ŏ ë env ov (args.length+0) (Ĥ ë<|Þ args env) (ź ë<|ŉ [] env))=_
 rw[hb];unfold methodCall methodCallPos;rw[aa,hl];rfl
def PZ(env:Env)(ë:Pos){as:O.Es}{xs:List Expr}(h:Zd as<20):cq ((toA as c xs).length+0) (Ĥ ë<|Þ (toA as c xs) env) (ź ë<|ŉ [] env)=eh:=by unfold cq;rw[bAq,bAq,gc,Wb];refine⟨⟨Jy env ë as c xs,rfl⟩,?_⟩;show Zd as+0+0<30;lia
def Ry{m:O.Tt}(h:UN m=ei->PT X (toT m c x) (tTt X i (O.wF P n) m)):PIfs X (toF m c x)<|tT0 i (O.wF P n) m:=by
 cases m with
 |yes=>exact Pn
 |val e=>exact Wu<|pt0<|h rfl
 |not t=>exact Wu<|pt0<|h rfl
 |and a b=>exact Wu<|pt0<|h rfl
 |or a b=>exact Wu<|pt0<|h rfl
def N4(c:Md):∀(es:O.Es) (xs:List Expr),JS es=eh->(Wm<|toA es c xs).all (·.isSome)=eh/\(Wm<|toA es c xs).length=(Et<|toA es c xs).length/\2*(Wm<|toA es c xs).length=esL es
 |.nil,_,_=>⟨rfl,rfl,rfl⟩
 |.cons _ .nil,_,h=>by cases h
 |.cons k (.cons v r),xs,h=>by
  obtain⟨h1,h2,h3⟩:=N4 c r xs.tail.tail h;refine⟨?_,?_,?_⟩
  .show(eh&&(Wm<|toA r c xs.tail.tail).all (·.isSome))=eh;rw[h1];rfl
  .show(Wm<|toA r c xs.tail.tail).length+1=(Et<|toA r c xs.tail.tail).length+1;rw[h2]
  .show 2*((Wm<|toA r c xs.tail.tail).length+1)=esL r+1+1;lia
mutual
theorem eE:∀(m:O.E) (X:Cx) (c:Md) (x:Expr),Gd X i P n c->okE m c x=eh->PE X (toX m c x) (tE X i (O.wF P n) m)
 |.cst v,X,c,x,g,h=>Lc h
 |.var j,X,c,x,g,h=>by have h:(gg (j<c.N.length)&&c.vis (c.nmOf j)&&nm (c.nmOf j))=eh:=h;rw[bAq,bAq,gc]at h;obtain⟨q1,q2,_⟩:=U2 h.2;exact Qk (BY g.N h.1.1) (g.vis h.1.2) q1 q2
 |.glob y v,X,c,x,g,h=>by have h:((c.gl (gh y)&&nm (gh y))&&gg (c.cs.lookup y=d9 v))=eh:=h;rw[bAq,bAq,gc]at h;obtain⟨q1,q2,_⟩:=U2 h.1.2;obtain⟨u,z,e1,e2,e3⟩:=g.cst _ _ h.2;exact Ih (GN (g.gl h.1.1) e1 e2 q1) e3
 |.bin o a b,X,c,x,g,h=>by have h:(okE a c (kid x 0)&&okE b c (kid x 1))=eh:=h;rw[bAq]at h;exact Rq g (eE a X c _ g h.1)<|eE b X c _ g h.2
 |.neg a,X,c,x,g,h=>Rj<|eE a X c _ g h
 |.not a,X,c,x,g,h=>RS<|eE a X c _ g h
 |.and a b,X,c,x,g,h=>by have h:(okE a c (kid x 0)&&okE b c (rest (ZR b) x)&&(!ZR b||(rest (ZR b) x).pos==x.pos))=eh:=h;rw[bAq,bAq]at h;have h2:=Cl h.2<|eE b X c _ g h.1.2;obtain⟨y,ys,e⟩:=K5 (c:=c) (ZR b) (e:=b) (x:=rest (ZR b) x)<|.inl rfl;show PE X (.BoolOp .And (toX a c (kid x 0)::flat (ZR b) (toX b c<|rest (ZR b) x)) x.pos) _;rw[e]at h2 ⊢;exact R0 (eE a X c _ g h.1.1) h2
 |.or a b,X,c,x,g,h=>by have h:(okE a c (kid x 0)&&okE b c (rest (YC b) x)&&(!YC b||(rest (YC b) x).pos==x.pos))=eh:=h;rw[bAq,bAq]at h;have h2:=Fe h.2<|eE b X c _ g h.1.2;obtain⟨y,ys,e⟩:=K5 (c:=c) (YC b) (e:=b) (x:=rest (YC b) x)<|.inr rfl;show PE X (.BoolOp .Or (toX a c (kid x 0)::flat (YC b) (toX b c<|rest (YC b) x)) x.pos) _;rw[e]at h2 ⊢;exact SO (eE a X c _ g h.1.1) h2
 |.cmp o a b,X,c,x,g,h=>by have h:(okE a c (kid x 0)&&okE b c (kid x 1)&&(!Wp o||Oc b))=eh:=h;rw[bAq,bAq]at h;exact(N5 g h.2 (eE a X c _ g h.1.1)<|eE b X c _ g h.1.2).1
 |.chain o1 o2 a b d,X,c,x,g,h=>by have h:(okE a c (kid x 0)&&okE b c (kid x 1)&&okE d c (kid x 2) && !Wp o1 && !Wp o2)=eh:=h;rw[bAq,bAq,bAq,bAq,ś,ś]at h;obtain⟨⟨⟨⟨h1,h2⟩,h3⟩,h4⟩,h5⟩:=h;exact(JE g h4 h5 (eE a X c _ g h1) (eE b X c _ g h2)<|eE d X c _ g h3).1
 |.call f as,X,c,x,g,h=>by
  have h:((c.gl (gh f)&&nm (gh f))&&c.fs.contains f&&c.cm&&okA as c (sub x).tail)=eh:=h;rw[bAq,bAq,bAq,bAq]at h;obtain⟨⟨⟨⟨h1,h2⟩,h3⟩,h4⟩,h5⟩:=h;obtain⟨q1,_,_⟩:=U2 h2;have ha:=eA as X c _ g h5;cases as with
  |nil=>exact Gf g.K (g.dfs _ h3) (g.rm h4) (g.gl h1) q1
  |cons a as=>exact PY g.K (g.dfs _ h3) (g.rm h4) (g.gl h1) q1 ha (Zv ..)<|YH ..
 |.make C as,X,c,x,g,h=>by
  have h:((c.gl (gh C)&&nm (gh C))&&c.cl.contains C&&c.cm&&gg (Zd as≠0)&&okA as c (sub x).tail)=eh:=h;rw[bAq,bAq,bAq,bAq,bAq,gc]at h;obtain⟨⟨⟨⟨⟨h1,h2⟩,h3⟩,h4⟩,h6⟩,h5⟩:=h;obtain⟨q1,_,_⟩:=U2 h2;have ha:=eA as X c _ g h5;obtain⟨a,f,i1,i2,M,hm,D⟩:=g.kl.mkc C h3;cases as with
  |nil=>exact gf rfl h6
  |cons b as=>exact Pd g.K i1 i2 M D (g.room h4) (g.gl h1) hm q1 ha (Zv ..)<|YH ..
 |.meth C m o as,X,c,x,g,h=>by
  have h:(c.ms.contains (C,m)&&c.cm&&okE o c (kid (kid x 0) 0)&&YT (toX o c<|kid (kid x 0) 0)&&((kid x 0).pos.endLine==x.pos.line)&&gg (Zd as<20)&&okA as c (sub x).tail)=eh:=h;rw[bAq,bAq,bAq,bAq,bAq,bAq,gc]at h;obtain⟨⟨⟨⟨⟨⟨h1,h2⟩,h3⟩,h4⟩,h6⟩,h7⟩,h5⟩:=h;have ev:=FA (m:=gh m) (YI h4 _ X.env) (PZ X.env x.pos (c:=c) (xs:=(sub x).tail) h7) h6;have ha:=eA as X c _ g h5;have ho:=eE o X c _ g h3;obtain⟨a,f,i1,A,M,D⟩:=g.kl.mth C m h1;cases as with
  |nil=>exact Fy g.K i1 A M D (g.rm h2) ho ev
  |cons b as=>exact LY g.K i1 A M D (g.rm h2) ho ha (Zv ..) (YH ..) ev
 |.fld o f,X,c,x,g,h=>by have h:(c.fl.contains f&&okE o c (kid x 0)&&YT (toX o c<|kid x 0))=eh:=h;rw[bAq,bAq]at h;exact RZ g.K g.kl.A (g.kl.F _ h.1.1) (eE o X c _ g h.1.2)<|YI h.2 _ _
 |.bi f as,X,c,x,g,h=>by
  have h:((match Ga f with
    |some T=>gg (Zd as=1)&&kinds.contains T&&c.gl "isinstance" && c.gl (gh T)
    |none=>match GK f with
      |some Ts=>gg (Zd as=1)&&c.gl "isinstance" && !c.xs.isEmpty&&LT c Ts
      |none=>match BZ f with
        |some Ts=>gg (Zd as=1)&&c.gl "isinstance" && Ts.all (λT=>kinds.contains T&&c.gl (gh T))&&gg (Ts.length<=20)
        | none=>if Wf f then gg (Zd as=1)&&c.gl "len" && c.gl "set" && c.cm else if W1 f then gg (Zd as=1)&&c.gl (Yv f)&&c.gl (Cf f)&&c.cm else if MM f then gg (Zd as=1)&&c.gl "min" && c.cm else if UP f then gg (Zd as=1)&&c.gl "dict" && c.gl "enumerate" && c.cm else if Uz f then gg (Zd as=1)&&c.gl "isinstance" && c.gn (Nw f)&&c.cl.contains (Nw f)else Wt f&&c.gl (Yv f)&&gg (Zd as≠0)&&(c.cm||Wx f))&&okA as c (U6 f x))=eh:=h
  rw[bAq]at h;cases z:Ga f with
  |some T =>
   have h1:=h.1;rw[z]at h1;rw[bAq,bAq,bAq,gc]at h1;obtain⟨⟨⟨h1,h2⟩,h3⟩,h4⟩:=h1;cases PV z;cases as with
   |nil=>cases h1
   |cons a as=>cases as with
    |nil =>have h5:(okE a c _&&eh)=eh:=h.2;rw[bAq]at h5;exact DT g (Ą.mp h2) h3 h4 (eE a X c _ g h5.1)<|Zv ..
    |cons b as=>exact gf h1 (by simp[Zd])
  |none =>
   have h1:=h.1;rw[z]at h1
   replace h1:(match GK f with
     |some Ts=>gg (Zd as=1)&&c.gl "isinstance" && !c.xs.isEmpty&&LT c Ts
     |none=>match BZ f with
       |some Ts=>gg (Zd as=1)&&c.gl "isinstance" && Ts.all (λT=>kinds.contains T&&c.gl (gh T))&&gg (Ts.length<=20)
       | none=>if Wf f then gg (Zd as=1)&&c.gl "len" && c.gl "set" && c.cm else if W1 f then gg (Zd as=1)&&c.gl (Yv f)&&c.gl (Cf f)&&c.cm else if MM f then gg (Zd as=1)&&c.gl "min" && c.cm else if UP f then gg (Zd as=1)&&c.gl "dict" && c.gl "enumerate" && c.cm else if Uz f then gg (Zd as=1)&&c.gl "isinstance" && c.gn (Nw f)&&c.cl.contains (Nw f)else Wt f&&c.gl (Yv f)&&gg (Zd as≠0)&&(c.cm||Wx f))=eh:=h1
   cases zx:GK f with
   |some Ts=>cases zx
   |none =>
    rw[zx]at h1
    replace h1:(match BZ f with
      |some Ts=>gg (Zd as=1)&&c.gl "isinstance" && Ts.all (λT=>kinds.contains T&&c.gl (gh T))&&gg (Ts.length<=20)
      | none=>if Wf f then gg (Zd as=1)&&c.gl "len" && c.gl "set" && c.cm else if W1 f then gg (Zd as=1)&&c.gl (Yv f)&&c.gl (Cf f)&&c.cm else if MM f then gg (Zd as=1)&&c.gl "min" && c.cm else if UP f then gg (Zd as=1)&&c.gl "dict" && c.gl "enumerate" && c.cm else if Uz f then gg (Zd as=1)&&c.gl "isinstance" && c.gn (Nw f)&&c.cl.contains (Nw f)else Wt f&&c.gl (Yv f)&&gg (Zd as≠0)&&(c.cm||Wx f))=eh:=h1
    cases zl:BZ f with
    |some Ts=>cases zl
    |none =>
     rw[zl]at h1;dsimp only at h1;split at h1
     .rename_i dg;have hf:f=.lenSet:=by cases f<;>first|rfl|cases dg
      subst hf;rw[bAq,bAq,bAq,gc]at h1;obtain⟨⟨⟨h1,h2⟩,h3⟩,h4⟩:=h1;cases as with
      |nil=>cases h1
      |cons a as=>cases as with
       |nil =>have h6:(okE a c _&&eh)=eh:=h.2;rw[bAq]at h6;exact CD (g.calm h4) g.K (eE a X c _ g h6.1) (g.gl h2) (g.bl _<|by simp[blts]) (g.gl h3) (g.bl _<|by simp[blts]) (by rw[Zv];rfl)
       |cons b as=>exact gf h1 (by simp[Zd])
     split at h1
     .rename_i _ dg;have hf:f=.sortedSet:=by cases f<;>first|rfl|cases dg
      rw[bAq,bAq,bAq,gc]at h1;obtain⟨⟨⟨h1,h2⟩,h3⟩,h4⟩:=h1;cases as with
      |nil=>cases h1
      |cons a as=>cases as with
       |nil =>
        rcases hf with rfl
        .have h6:(okE a c _&&eh)=eh:=h.2;rw[bAq]at h6;exact Os (g.calm h4) g.K (eE a X c _ g h6.1) (g.gl h2) (g.bl _<|by simp[blts]) (g.gl h3) (g.bl _<|by simp[blts,Cf]) (by rw[Zv];rfl)
       |cons b as=>exact gf h1 (by simp[Zd])
     split at h1
     .rename_i _ _ dg;have hf:f=.minD:=by cases f<;>first|rfl|cases dg
      subst hf;rw[bAq,bAq,gc]at h1;obtain⟨⟨h1,h2⟩,h4⟩:=h1;cases as with
      |nil=>cases h1
      |cons a as=>cases as with
       |nil =>have h6:(okE a c _&&eh)=eh:=h.2;rw[bAq]at h6;exact Ix (g.calm h4) (by have:=g.un;lia) g.K (g.gl h2) (g.bl _<|by simp[blts]) (eE a X c _ g h6.1) (by rw[Zv];rfl)
       |cons b as=>exact gf h1 (by simp[Zd])
     split at h1
     .rename_i _ _ _ dg;exact gf (show ei=eh from dg) (by decide)
     split at h1
     .rename_i _ _ _ _ dg;exact gf (show ei=eh from dg) (by decide)
     rw[bAq,bAq,bAq,gc]at h1;obtain⟨⟨⟨h1,h2⟩,h3⟩,h4⟩:=h1;have ha:=eA as X c _ g h.2;cases as with
     |nil=>exact gf rfl h3
     |cons a as =>
      have e1:toX (.bi f<|.cons a as) c x=.Call (.Name (Yv f) (kid x 0).pos) (toA (.cons a as) c<|U6 f x) [] x.pos:=by cases f<;>first|(cases h1;done)|rfl
      rw[e1];exact EY g h1 h4 (g.gl h2) ha (Zv ..)<|YH ..
 |.bm m o as,X,c,x,g,h=>by
  have h:(gg (Di m=d9 (Zd as))&&okE o c (kid (kid x 0) 0)&&YT (toX o c<|kid (kid x 0) 0)&&((kid x 0).pos.endLine==x.pos.line)&&okA as c (sub x).tail)=eh:=h;rw[bAq,bAq,bAq,bAq,gc]at h;obtain⟨⟨⟨⟨h1,h2⟩,h3⟩,h4⟩,h5⟩:=h;have ha:=eA as X c _ g h5;have ho:=eE o X c _ g h2;cases as with
  |nil=>exact Dh g h1 ho (λf=>YI h3 f _) h4
  |cons a as =>
   refine Gx g h1 ho ha (λf=>YI h3 f _) h4 ?_ (Zv ..)<|YH ..;rw[bAq,bAq,gc];refine⟨⟨Jy X.env x.pos (.cons a as) c (sub x).tail,rfl⟩,?_⟩;have e2:(toA (.cons a as) c (sub x).tail).length=Zd (.cons a as):=Wb ..;have e3:Zd (.cons a as)<=2:=by
    have:∀m:O.Bm,∀k,Di m=d9 k->k<=2:=by intro m k;cases m<;>intro z<;>first|(cases z;done)|(cases z;decide)
    exact this m _ h1
   show(toA (.cons a as) c (sub x).tail).length+0+0<30;lia
 |.idx a b,X,c,x,g,h=>by have h:(okE a c (kid x 0)&&okE b c (kid x 1))=eh:=h;rw[bAq]at h;exact Qr (ix_seq.or<|Hj (by have:=g.un;lia)) (by rw[g.K];exact P8) (eE a X c _ g h.1) (eE b X c _ g h.2)<|DN _ _ _
 |.slc a lo hi,X,c,x,g,h=>by have h:(okE a c (kid x 0)&&okO lo c (kid (kid x 1) 0)&&okO hi c (kid (kid x 1) 1))=eh:=h;rw[bAq,bAq]at h;exact QW SU (by rw[g.K];exact Rz) (eE a X c _ g h.1.1) (eO lo X c _ g h.1.2)<|eO hi X c _ g h.2
 |.tup es,X,c,x,g,h=>by have h:(okA es c (sub x)&&gg (Zd es<=1000))=eh:=h;rw[bAq,gc]at h;exact Ro (by rw[Wb];exact h.2)<|eA es X c _ g h.1
 |.key es,X,c,x,g,h=>nomatch h
 |.dctP,X,c,x,g,h=>nomatch h
 |.lst es,X,c,x,g,h=>by have h:(okA es c (sub x)&&gg (Zd es<=1000))=eh:=h;rw[bAq,gc]at h;exact Qw (by rw[Wb];exact h.2)<|eA es X c _ g h.1
 |.dct es,X,c,x,g,h=>by
  have h:(okA es c (sub x)&&JS es&&gg (esL es<=30))=eh:=h;rw[bAq,bAq,gc]at h;obtain⟨⟨h1,h2⟩,h3⟩:=h;have hp:=eD es X c (sub x) x.pos g h1 h2;cases es with
  |nil=>exact Ig
  |cons k r=>cases r with
   |nil=>cases h2
   |cons v r =>obtain⟨q1,q2,q3⟩:=N4 c (.cons k<|.cons v r) (sub x) h2;refine Qp h2 h3 hp q1 q2 (by intro z;cases z) (by rw[<-q3]at h3;lia)
 |.ife t a b,X,c,x,g,h=>by have h:(okT t c (kid x 0)&&okE a c (kid x 1)&&okE b c (kid x 2))=eh:=h;rw[bAq,bAq]at h;exact QS (eT t X c _ g h.1.1).1 (eE a X c _ g h.1.2)<|eE b X c _ g h.2
 |.comp ö m p it t e,X,c,x,g,h=>by
  have h:((OC m p&&(YV<|kid x 1).length == m)&&c.cm&&Yy (scp x) c.sc c.N (YV<|kid x 1) ö&&(scp x).kind == .function&&okI it c (kid x 2) (!ZE p)&&okE e (c.blk (scp x) (YV<|kid x 1) ö) (kid x 0)&&(UN t||okT t (c.blk (scp x) (YV<|kid x 1) ö) (kid x 3)))=eh:=h;rw[bAq,bAq,bAq,bAq,bAq,bAq]at h;obtain⟨⟨⟨⟨⟨⟨h1,h2⟩,h3⟩,h4⟩,h5⟩,h6⟩,h7⟩:=h;rw[bAq,beq_iff_eq]at h1;obtain⟨h1,rfl⟩:=h1;have hk:=eq_of_beq h4;obtain⟨t1,t2⟩:=Nd (c:=c.blk (scp x) (YV<|kid x 1) ö) p<|kid x 1;obtain⟨a1,a2⟩:=eI it X c (kid x 2) (toP p (c.blk (scp x) (YV<|kid x 1) ö)<|kid x 1) g (!ZE p) t1 t2 h5;exact(K0 g h2 h3 hk h1 a1 a2 (g.pt h2 h3 hk h1 _)
    (λcl C s H ex=>pe0<|eE e _ _ _ (g.blk h3 hk cl C s H ex) h6) (λcl C s H ex=>Ry λz=>(eT t _ _ _ (g.blk h3 hk cl C s H ex)<|by rw[z]at h7;exact h7).1)).1
 |.fstr es,X,c,x,g,h=>nomatch h
 |.repl _ _ _,X,c,x,g,h=>nomatch h
 |.split o a,X,c,x,g,h=>nomatch h
 |.rev a,X,c,x,g,h=>nomatch h
theorem eD:∀(es:O.Es) (X:Cx) (c:Md) (xs:List Expr) (ë:Pos),Gd X i P n c->okA es c xs=eh->JS es=eh->PPs X ë (Wm<|toA es c xs) (Et<|toA es c xs) (U4 X i (O.wF P n) es)
 |.nil,X,c,xs,ë,g,h,he=>G0
 |.cons k .nil,X,c,xs,ë,g,h,he=>by cases he
 |.cons k (.cons v r),X,c,xs,ë,g,h,he=>by have h:(okE k c (xs.headD dE)&&(okE v c (xs.tail.headD dE)&&okA r c xs.tail.tail))=eh:=h;rw[bAq,bAq]at h;exact DA (eE k X c _ g h.1) (eE v X c _ g h.2.1)<|eD r X c _ ë g h.2.2 he
theorem eA:∀(ms:O.Es) (X:Cx) (c:Md) (xs:List Expr),Gd X i P n c->okA ms c xs=eh->PA X (toA ms c xs) (tAr X i (O.wF P n) ms (toA ms c xs).length)
 |.nil,X,c,xs,g,h=>I0
 |.cons a as,X,c,xs,g,h=>by have h:(okE a c (xs.headD dE)&&okA as c xs.tail)=eh:=h;rw[bAq]at h;exact Fh (eE a X c _ g h.1) (eA as X c _ g h.2)<|Zv ..
theorem eJ:∀(ms:O.Es) (X:Cx) (c:Md) (xs:List Expr),Gd X i P n c->okJ ms c xs=eh->PJ X (toJ ms c xs) (tJs X i (O.wF P n) ms)
 |.nil,X,c,xs,g,h=>Ly
 |.cons a as,X,c,xs,g,h=>by
  have h:((AM a||okE a c (kid (xs.headD dE) 0))&&okJ as c xs.tail)=eh:=h;rw[bAq]at h;have hr:=eJ as X c _ g h.2;show PJ X ((if AM a then toX a c (xs.headD dE)else .FormattedValue (toX a c<|kid (xs.headD dE) 0) (-1) ee (xs.headD dE).pos)::toJ as c xs.tail) _;cases z:AM a with
  |true =>obtain⟨s,rfl⟩:=Su z;exact UG PB hr rfl
  |false =>rw[z]at h;exact UG (Lz<|eE a X c _ g h.1) hr rfl
theorem eO:∀(m:O.Oe) (X:Cx) (c:Md) (x:Expr),Gd X i P n c->okO m c x=eh->PO X (toO m c x) (tOx X i (O.wF P n) m)
 |.none,X,c,x,g,h=>Ft
 |.some e,X,c,x,g,h=>E1<|eE e X c _ g h
theorem eT:∀(m:O.Tt) (X:Cx) (c:Md) (x:Expr),Gd X i P n c->okT m c x=eh->PT X (toT m c x) (tTt X i (O.wF P n) m)/\((Zr m||ZH m)=eh->PW X (toT m c x) (tTt X i (O.wF P n) m))
 |.yes,X,c,x,g,h=>nomatch h
 |.val e,X,c,x,g,h=>by
  refine⟨?_,λz=>(by cases z)⟩;have h:(okE e c x&&(OT e||Qv e))=eh:=h;rw[bAq]at h;have he:=eE e X c x g h.1;cases z:OT e with
  |true=>exact IU he (by cases e<;>first|(cases z;done)|exact λ_=>rfl) g.K
  |false =>
   have h2:=h.2;rw[z]at h2;cases e with
   |cmp o a b =>have h:(okE a c (kid x 0)&&okE b c (kid x 1)&&(!Wp o||Oc b))=eh:=h.1;rw[bAq,bAq]at h;exact(N5 g h.2 (eE a X c _ g h.1.1)<|eE b X c _ g h.1.2).2
   |chain o1 o2 a b d =>have h:(okE a c (kid x 0)&&okE b c (kid x 1)&&okE d c (kid x 2) && !Wp o1 && !Wp o2)=eh:=h.1;rw[bAq,bAq,bAq,bAq,ś,ś]at h;obtain⟨⟨⟨⟨h1,h2⟩,h3⟩,h4⟩,h5⟩:=h;exact(JE g h4 h5 (eE a X c _ g h1) (eE b X c _ g h2)<|eE d X c _ g h3).2
   |_=>cases h2
 |.not t,X,c,x,g,h=>⟨IH (eT t X c _ g h).1,λz=>(by cases z)⟩
 |.and a b,X,c,x,g,h=>by
  have h:(okT a c (kid x 0)&&okT b c (rest (Zr b) x)&&(!Zr b||(rest (Zr b) x).pos==x.pos))=eh:=h;rw[bAq,bAq]at h;have h2:=eT b X c _ g h.1.2;obtain⟨y,ys,e,h3⟩:=Bx h.2 h2.1 h2.2;have h4:PW X (toT (.and a b) c x)<|tTt X i (O.wF P n)<|.and a b:=by show PW X (.BoolOp .And (toT a c (kid x 0)::flat (Zr b) (toT b c<|rest (Zr b) x)) x.pos) _;rw[e];exact Lp (eT a X c _ g h.1.1).1 h3
  exact⟨h4.pt,λ_=>h4⟩
 |.or a b,X,c,x,g,h=>by
  have h:(okT a c (kid x 0)&&okT b c (rest (ZH b) x)&&(!ZH b||(rest (ZH b) x).pos==x.pos))=eh:=h;rw[bAq,bAq]at h;have h2:=eT b X c _ g h.1.2;obtain⟨y,ys,e,h3⟩:=C7 h.2 h2.1 h2.2;have h4:PW X (toT (.or a b) c x)<|tTt X i (O.wF P n)<|.or a b:=by show PW X (.BoolOp .Or (toT a c (kid x 0)::flat (ZH b) (toT b c<|rest (ZH b) x)) x.pos) _;rw[e];exact RU (eT a X c _ g h.1.1).1 h3
  exact⟨h4.pt,λ_=>h4⟩
theorem eI:∀(m:O.It) (X:Cx) (c:Md) (x tg:Expr),Gd X i P n c->∀(b:Bool),(b=eh->∃es k p,tg=.Tuple es k p)->(b=ei->∃y p,tg=.Name y p)->okI m c x b=eh->PI X tg (toI m c x) (tIt X i (O.wF P n) m)/\∀y,ę (toI m c x) X.env y=pure y
 |.seq e,X,c,x,tg,g,b,t1,t2,h=>⟨LN g.K<|eE e X c _ g h,LB _ _ _ _⟩
 |.chars e,X,c,x,tg,g,b,t1,t2,h=>nomatch h
 |.range a,X,c,x,tg,g,b,t1,t2,h=>by have h:(c.gl "range" && okE a c (kid x 1))=eh:=h;rw[bAq]at h;exact⟨DK (g.gl h.1) (g.bl _<|by simp[blts]) (eE a X c _ g h.2)<|Zv ..,λ_=>rfl⟩
 |.range2 a d,X,c,x,tg,g,b,t1,t2,h=>by have h:(c.gl "range" && okE a c (kid x 1)&&okE d c (kid x 2))=eh:=h;rw[bAq,bAq]at h;exact⟨Bj (g.gl h.1.1) (g.bl _<|by simp[blts]) (eE a X c _ g h.1.2) (eE d X c _ g h.2) (by rw[Zv,Zv];rfl)<|Zv ..,λ_=>rfl⟩
 |.zip a d,X,c,x,tg,g,b,t1,t2,h=>nomatch h
 |.enum e,X,c,x,tg,g,b,t1,t2,h=>by have h:(b&&c.gl "enumerate" && okE e c (kid x 1))=eh:=h;rw[bAq,bAq]at h;obtain⟨es,k,p,rfl⟩:=t1 h.1.1;exact⟨FS g.K (g.gl h.1.2) (g.bl _<|by simp[blts]) (eE e X c _ g h.2) (by rw[Zv];rfl),λ_=>rfl⟩
 |.items e,X,c,x,tg,g,b,t1,t2,h=>nomatch h
 |.rev e,_,_,_,_,_,_,_,_,h=>nomatch h
end
def Be(g:Gd X i P n c){m:Nat}{t:O.Tt}(h:okE (.comp ö m p it t e) c x=eh) :
  PE X (toX (.comp ö m p it t e) c x) (tE X i (O.wF P n)<|.comp ö m p it t e)/\
   ∀(y:Str) (py ϖ:Pos) (j:Nat),X.N[j]?=d9 y->L2.Loc X.env.scope y->(X.fn y=eh\/X.env.scope.names.lookup y=d9 .local)->Ŷ (toX (.comp ö m p it t e) c x) (d9<|.Name y py) ϖ.line X.env=pure eh->PS X (.Assign [.Name y py] (toX (.comp ö m p it t e) c x) ϖ) (tSt X i (O.wF P n)<|.set (.one j)<|.comp ö m p it t e):=by
 have h:((OC m p&&(YV<|kid x 1).length==m)&&c.cm&&Yy (scp x) c.sc c.N (YV<|kid x 1) ö&&(scp x).kind == .function&&okI it c (kid x 2) (!ZE p)&&okE e (c.blk (scp x) (YV<|kid x 1) ö) (kid x 0)&&(UN t||okT t (c.blk (scp x) (YV<|kid x 1) ö) (kid x 3)))=eh:=h;rw[bAq,bAq,bAq,bAq,bAq,bAq]at h;obtain⟨⟨⟨⟨⟨⟨h1,h2⟩,h3⟩,h4⟩,h5⟩,h6⟩,h7⟩:=h;rw[bAq,beq_iff_eq]at h1;obtain⟨h1,rfl⟩:=h1;have hk:=eq_of_beq h4;obtain⟨t1,t2⟩:=Nd (c:=c.blk (scp x) (YV<|kid x 1) ö) p<|kid x 1;obtain⟨a1,a2⟩:=eI it X c (kid x 2) (toP p (c.blk (scp x) (YV<|kid x 1) ö)<|kid x 1) g (!ZE p) t1 t2 h5;exact K0 g h2 h3 hk h1 a1 a2 (g.pt h2 h3 hk h1 _)
  (λcl C s H ex=>pe0<|eE e _ _ _ (g.blk h3 hk cl C s H ex) h6) (λcl C s H ex=>Ry λz=>(eT t _ _ _ (g.blk h3 hk cl C s H ex)<|by rw[z]at h7;exact h7).1)
abbrev dS:ļ:=.Pass ⟨0,0,0,0⟩
abbrev stE:ļ->List Expr
 |.Assign ts v _=>v::ts
 |.AugAssign t _ v _=>[v,t]
 |.For t it _ _ _=>[t,it]
 |.While t _ _ _=>[t]
 |.If t _ _ _=>[t]
 |.Expr e _=>[e]
 |.Return (d9 e) _=>[e]
 |.Raise (d9 e) _ _=>[e]
 |_=>[]
abbrev ke(s:ļ)(j:Nat):Expr:=(stE s).getD j dE
abbrev stB:ļ->List ļ
 |.For _ _ b _ _=>b
 |.While _ b _ _=>b
 |.If _ b _ _=>b
 |.Try b _ _ _ _=>b
 |_=>[]
abbrev stO:ļ->List ļ
 |.If _ _ b _=>b
 |_=>[]
abbrev stH:ļ->List ExceptHandler
 |.Try _ hs _ _ _=>hs
 |_=>[]
abbrev dH:ExceptHandler:=.ExceptHandler ee ee [] ⟨0,0,0,0⟩
abbrev hT:ExceptHandler->Expr
 |.ExceptHandler (d9 e) _ _ _=>e
 |_=>dE
abbrev hB:ExceptHandler->List ļ
 |.ExceptHandler _ _ b _=>b
abbrev hP:ExceptHandler->Pos
 |.ExceptHandler _ _ _ p=>p
abbrev Md.hot(c:Md):Md:={c with cm:=ei}
abbrev Sw(t:Option Nat)(e:O.E)(c:Md)(y:ļ):ļ:=match t with
 |none=>.Expr (toX e c<|ke y 0) y.pos
 |some j=>.Assign [.Name (c.nmOf j) (ke y 1).pos] (toX e c<|ke y 0) y.pos
mutual
noncomputable def toS:O.S->Md->ļ->ļ
 |.set p a,c,s=>.Assign [toP p c<|ke s 1] (toX a c<|ke s 0) s.pos
 |.setIdx a j e,c,s=>.Assign [.Subscript (toX a c<|kid (ke s 1) 0) (toX j c<|kid (ke s 1) 1) (ke s 1).pos] (toX e c<|ke s 0) s.pos
 |.setPair a i b j e,c,s=>.Assign [.Tuple [.Subscript (toX a c<|kid (kid (ke s 1) 0) 0) (toX i c<|kid (kid (ke s 1) 0) 1) (kid (ke s 1) 0).pos,.Subscript (toX b c<|kid (kid (ke s 1) 1) 0) (toX j c<|kid (kid (ke s 1) 1) 1) (kid (ke s 1) 1).pos] (num<|ke s 1) (ke s 1).pos] (toX e c<|ke s 0) s.pos
 |.setFld o f e,c,s=>.Assign [.Attribute (toX o c<|kid (ke s 1) 0) (gh f) (ke s 1).pos] (toX e c<|ke s 0) s.pos
 |.augVar j op e,c,s=>.AugAssign (.Name (c.nmOf j) (ke s 1).pos) (OM op) (toX e c<|ke s 0) s.pos
 |.augFld o f op n,c,s=>.AugAssign (.Attribute (toX o c<|kid (ke s 1) 0) (gh f) (ke s 1).pos) (OM op) (.Constant (.int n) (num<|ke s 0) (ke s 0).pos) s.pos
 |.augIdx a j op n,c,s=>.AugAssign (.Subscript (toX a c<|kid (ke s 1) 0) (toX j c<|kid (ke s 1) 1) (ke s 1).pos) (OM op) (.Constant (.int n) (num<|ke s 0) (ke s 0).pos) s.pos
 |.expr e,c,s=>.Expr (toX e c<|ke s 0) s.pos
 |.ret e,c,s=>.Return (d9<|toX e c<|ke s 0) s.pos
 |.retN,_,s=>.Return ee s.pos
 |.ite t a b,c,s=>.If (toT t c<|ke s 0) (toSs a c<|stB s) (toSs b c<|stO s) s.pos
 |.whl t b,c,s=>.While (toT t c<|ke s 0) (toSs b c<|stB s) [] s.pos
 |.for p it b,c,s=>.For (toP p c<|ke s 0) (toI it c<|ke s 1) (toSs b c<|stB s) [] s.pos
 |.forI eh p e b,c,s=>.For (toP p c<|ke s 0) (toX e c<|ke s 1) (toSs b c<|stB s) [] s.pos
 |.forI ei p e b,c,s=>.For (toP p c<|ke s 0) (.Call (.Attribute (toX e c<|kid (kid (ke s 1) 0) 0) "items" (kid (ke s 1) 0).pos) [] [] (ke s 1).pos) (toSs b c<|stB s) [] s.pos
 |.brk,_,s=>.Break s.pos
 |.cnt,_,s=>.Continue s.pos
 |.pass,_,s=>.Pass s.pos
 |.raise C as,c,s=>.Raise (d9<|.Call (.Name (gh C) (kid (ke s 0) 0).pos) (toA as c (sub<|ke s 0).tail) [] (ke s 0).pos) ee s.pos
 |.try t e hs,c,s=>.Try [Sw t e c<|(stB s).headD dS] (toH hs c<|stH s) [] [] s.pos
 |_,_,s=>s
noncomputable def toH:O.Hn->Md->List ExceptHandler->List ExceptHandler
 |.nil,_,_=>[]
 |.cons K nm b r,c,xs=>.ExceptHandler (d9<|.Name (gh K) (hT<|xs.headD dH).pos) (nm.map c.nmOf) (toSs b c.hot<|hB<|xs.headD dH) (hP<|xs.headD dH)::toH r c xs.tail
noncomputable def toSs:O.Ss->Md->List ļ->List ļ
 |.nil,_,_=>[]
 |.cons m ms,c,xs=>toS m c (xs.headD dS)::toSs ms c xs.tail
end
abbrev HX:O.E->Bool
 |.idx _ _=>eh
 |.var _=>eh
 |.fld _ _=>eh
 |_=>ei
abbrev NA(c:Md)(j:Nat):Bool:=gg (j<c.N.length)&&c.loc (c.nmOf j)
abbrev okP(p:O.Pt)(c:Md):Bool:=match p with
 |.one j=>NA c j
 |.many js=>js.all<|NA c
 |.nest j js=>NA c j&&js.all (NA c)
abbrev C8:O.E->Bool
 |.tup _=>eh
 |.key _=>eh
 |_=>ei
abbrev Uj:O.E->Bool
 |.comp _ _ _ _ _ _=>eh
 |_=>ei
abbrev swT(c:Md)(tg v:Expr):Bool:=match v,tg with
 |.ListComp _ _ s ë,.Name t p=>(if c.sc.kind.isAnnotationScope then ScopeKind.function else c.sc.kind) == .function&&c.sc.names.lookup t==d9 .local&&p.line==ë.line && !(s.names.any λ(n,k)=>n==t&&(k == .local||k == .cell))
 |_,_=>ei
abbrev AG:O.Bop->Bool
 |.add=>eh
 |.sub=>eh
 |_=>ei
abbrev Sd(c:Md)(j:Nat):Bool:=gg (j<c.N.length)&&c.sc.names.lookup (c.nmOf j)==d9 .local
abbrev SX(c:Md):Option Nat->Bool
 |none=>eh
 |some j=>Sd c j
abbrev P2:O.Ss->Bool
 |.nil=>ei
 |_=>eh
abbrev Q8:O.Hn->Bool
 |.nil=>eh
 |_=>ei
mutual
noncomputable def okS:O.S->Md->ļ->Bool
 |.set p a,c,s=>okP p c&&okE a c (ke s 0)&&(ZE p || !C8 a)&&(ZE p||c.cm)
 |.setIdx a j e,c,s=>okE e c (ke s 0)&&okE a c (kid (ke s 1) 0)&&okE j c (kid (ke s 1) 1)
 |.setFld o f e,c,s=>c.fl.contains f&&okE o c (kid (ke s 1) 0)&&okE e c (ke s 0)
 |.augFld o f op _,c,s=>c.fl.contains f&&okE o c (kid (ke s 1) 0)&&AG op
 |.augIdx a j op _,c,s=>okE a c (kid (ke s 1) 0)&&okE j c (kid (ke s 1) 1)&&AG op
 |.expr e,c,s=>okE e c (ke s 0) && !Uj e
 |.ret e,c,s=>okE e c<|ke s 0
 |.retN,_,_=>eh
 |.ite t a b,c,s=>okT t c (ke s 0)&&okSs a c (stB s)&&okSs b c (stO s)
 |.whl t b,c,s=>okT t c (ke s 0)&&okSs b c (stB s)&&c.cm
 |.for p it b,c,s=>okP p c&&okI it c (ke s 1) (!ZE p)&&okSs b c (stB s)&&c.cm
 |.forI eh p e b,c,s=>okP p c&&HX e&&okE e c (ke s 1)&&okSs b c (stB s)&&c.cm
 |.forI ei p e b,c,s=>okP p c && !ZE p&&okE e c (kid (kid (ke s 1) 0) 0)&&YT (toX e c<|kid (kid (ke s 1) 0) 0)&&((kid (ke s 1) 0).pos.endLine==(ke s 1).pos.line)&&okSs b c (stB s)&&c.cm
 |.never,_,_=>eh
 |_,_,_=>ei
noncomputable def okH:O.Hn->Md->List ExceptHandler->Bool
 |.nil,_,_=>ei
 |.cons K nm b r,c,xs=>(c.xs.contains K||K == "ShutError")&&c.gn K && !c.xs.isEmpty&&SX c nm&&P2 b&&okSs b c.hot (hB<|xs.headD dH)&&Q8 r
noncomputable def okSs:O.Ss->Md->List ļ->Bool
 |.nil,_,_=>eh
 |.cons m ms,c,xs=>okS m c (xs.headD dS)&&okSs ms c xs.tail
end
structure Gs(X:Cx)(i:Inf)(P:O.Pg)(n:Nat)(c:Md):Prop extends Gd X i P n c where
 fn:∀x,c.loc x=eh->X.fn x=eh\/X.env.scope.names.lookup x=d9 .local
 own:c.cm=eh->Λ (ß X.prog X.w) X.A X.env X.xe
 stk:c.cm=eh->X.stack=X.env::X.outer
variable {X:Cx}{i:Inf}{P:O.Pg}{n:Nat}{c:Md}
def Gs.nm1(g:Gs X i P n c){j:Nat}(h:NA c j=eh):X.N[j]?=d9 (c.nmOf j)/\L2.Loc X.env.scope (c.nmOf j)/\(X.fn (c.nmOf j)=eh\/X.env.scope.names.lookup (c.nmOf j)=d9 .local):=by unfold NA at h;rw[bAq,gc]at h;exact⟨BY g.N h.1,g.loc h.2,g.fn _ h.2⟩
variable {p:O.Pt}
def Qq(g:Gs X i P n c)(h:okP p c=eh):HH (Cs X c) p:=by
 cases p with
 |one j=>exact g.nm1 h
 |many js=>exact λj hj=>g.nm1<|ü.mp h j hj
 |nest j js =>have h:(NA c j&&js.all (NA c))=eh:=h;rw[bAq]at h;exact⟨g.nm1 h.1,λk hk=>g.nm1<|ü.mp h.2 k hk⟩
variable {x:Expr}
def Ae(g:Gs X i P n c)(dJ:c.cm=eh)(h:okP p c=eh):PG X (toP p c x)<|gPt i p:=Ht g.K (by rw[g.N];exact g.nd) (g.calm dJ) (Qq g h)
variable {tg:Expr}
def W3{l:Nat}{env:Env}(a:O.E)(x:Expr)(hs:env.scope=c.sc):Ŷ (toX a c x) (d9 tg) l env=pure (swT c tg<|toX a c x):=by
 cases a with
 |comp ö m p it t e =>
  cases tg with
  |Name t q =>unfold Ŷ swT Env.blockKind Env.kindOf;rw[hs];rfl
  |_=>rfl
 |_=>rfl
def La(p:O.Pt)(a:O.E)(x y:Expr)(env:Env)(h:(ZE p || !C8 a)=eh):Ϗ [toP p c x] (toX a c y) env=pure ee:=by
 cases p with
 |one j=>cases a<;>rfl
 |many js=>cases a<;>first|rfl|cases h
 |nest j js=>cases a<;>first|rfl|cases h
def Ep(p:O.Pt)(x:Expr)(env:Env):(Ğ [toP p c x] env).map (·.2)=[θ (toP p c x) env]:=by cases p<;>rfl
def IL{a:O.E}(h:swT c tg (toX a c x)=eh):∃ö m p it t e,a=.comp ö m p it t e:=by
 cases a with
 |comp ö m p it t e=>exact⟨_,_,_,_,_,_,rfl⟩
 |_=>cases h
def FN(y:O.E){b:Expr}{ë:Pos}{env:Env}:∀v,θ (.Subscript b (toX y c x) ë) env v=(do
    let ov<-ł [v] (eval b env)
    let iv<-ł [v,ov] (eval (toX y c x) env)
    ϋ ë
    ł [v,ov,iv] (aE ov iv v)
    dL [v,ov,iv] []):=by
 intro v;cases y<;>rfl
def HZ{op:O.Bop}(h:AG op=eh):Cc X (OM op)<|rAS op:=by
 cases op with
 |add =>
  intro Â s σ H x y u v Q I rx ry q;obtain⟨a,b,rfl,rfl,q⟩:=q;rcases q with⟨_,q⟩|⟨z,_⟩
  .exact Ir Â s σ H _ _ u v Q I rx ry ⟨a,b,rfl,rfl,q⟩
  .cases z
 |sub =>
  intro Â s σ H x y u v Q I rx ry q;obtain⟨a,b,rfl,rfl,q⟩:=q;rcases q with⟨z,_⟩|⟨_,q⟩
  .cases z
  .exact Lm Â s σ H _ _ u v Q I rx ry ⟨a,b,rfl,rfl,q⟩
 |_=>cases h
def Ea:PGet X<|D6 X.K:=λÂ s σ H x y v u Q I rx ry h=>by
 obtain⟨p,xs,i,z,rfl,rfl,hq,he,q⟩:=h;cases rx;obtain⟨t,rfl⟩:=ry;obtain⟨ô,r,pl,hz⟩:=I.list hq;obtain⟨j,h1,h2,h3,h4,h5⟩:=W0 he;obtain⟨w,ew,aO⟩:=r.get h2;have hl:=r.length;have hn:=Xd;have fin:EP X Â σ Q w s:=⟨z,H,I,aO,q⟩
 by_cases h0:0<=i
 .have hj:i.toNat=j:=by
   rw[bp h0 h5]at h1;exact í h1
  exact wpAny_getItem_list pl.isList h0 (by lia) (by rw[hj];simpa using ew) fin
 .have hj:(i+(ô.toArray.size:Int)).toNat=j:=by
   rw[aF (by lia) h4]at h1;rw[Ï,<-hl];exact í h1
  exact dQ pl.isList (by lia) (by rw[Ï]<;>lia) (by lia) (by rw[hj];simpa using ew) fin
def Eb(hu:X.A.units+1<Ĭ):PGet X B3:=λÂ s σ H x y v u Q I rx ry h=>by obtain⟨a,z,rfl,g,q⟩:=h;cases rx;exact K6 hu I g ry λw s' I' r=>⟨z,H,I',r,q⟩
def PGet.or{r r':R2}(h:PGet X r)(h':PGet X r'):PGet X λx y H Q=>r x y H Q\/r' x y H Q:=λÂ s σ H o j ov jv Q I ro rj q=>by
 rcases q with q|q
 .exact h Â s σ H o j ov jv Q I ro rj q
 .exact h' Â s σ H o j ov jv Q I ro rj q
def LO{G:O.Hs}{H:Hp}{a:Í}{u w:O.Val}{y:V}{K:Frag}{Q:VK}(g:RH i G H)(ry:RV i.K H u y)(e:O.fw G (.ref a) u=d9 w)(q:∀z,RV i.K H w z->Q z H):D6 K (.ref a) y H Q\/B3 (.ref a) y H Q:=by
 replace e:(match G a with|some (.lst xs)=>(O.fU u).bind (O.atI xs)|some (.dct kvs)=>if O.eY u then O.fc kvs u else ee|some (.frz kvs)=>if O.eY u then O.fc kvs u else ee|some (.dtp kvs)=>if O.isKeyT u then O.fc kvs u else ee|_=>ee)=d9 w:=e
 cases z:G a with
 |none=>rw[z]at e;cases e
 |some o =>
  rw[z]at e;cases o with
  |lst xs =>obtain⟨k,hk,e⟩:=ï.mp e;cases ZJ hk;obtain⟨vs,h1,h2⟩:=g a _ z;obtain⟨t,h3,h4⟩:=WX h2 e;exact .inl ⟨a,vs,k,t,rfl,ry.int_inv,fP.of h1,h3,q t h4⟩
  |dct kvs =>obtain⟨hk,e⟩:=Zn (show(if O.eY u then O.fc kvs u else ee)=d9 w from e);obtain⟨ps,h1,h2⟩:=g a _ z;obtain⟨d,kr,rfl⟩:=eV hk ry;obtain⟨t,hx,rv⟩:=(h2.look kr).1 w e;exact .inr ⟨a,t,rfl,by rw[<-hx];exact DGet.k h1,q t rv⟩
  |frz kvs =>obtain⟨hk,e⟩:=Zn (show(if O.eY u then O.fc kvs u else ee)=d9 w from e);obtain⟨ob,ps,h1,h2⟩:=g a _ z;obtain⟨d,kr,rfl⟩:=eV hk ry;obtain⟨t,hx,rv⟩:=(h2.look kr).1 w e;exact .inr ⟨a,t,rfl,.inl ⟨ps,d,.inr ⟨ob,h1⟩,rfl,hx.symm⟩,q t rv⟩
  |dtp kvs =>obtain⟨hk,e⟩:=Zn (show(if O.isKeyT u then O.fc kvs u else ee)=d9 w from e);obtain⟨ps,h1,h2⟩:=g a _ z;obtain⟨k1,k2,b,rfl,rfl,hb⟩:=Jh hk ry;obtain⟨t,hx,rv⟩:=(h2.look).1 w e;exact .inr ⟨a,t,rfl,by rw[<-hx];exact DGet.t h1 hb,q t rv⟩
  |_=>cases e
def Pj(e:O.E)(x:Expr):∀ov iv new,augStore (toX e c x) ov iv new=(do ł [new,ov,iv] (aE ov iv new);dL [new,ov,iv] [];pure .next):=by intro ov iv new;cases e<;>rfl
def AV{Φ:O.Fs}{a j:Expr}{ma mj:O.E}{op:O.Bop}{k:Int}{kk:Nat}{ë cu ş:Pos}(hK:X.K=i.K)(hu:X.A.units+1<Ĭ)(h:AG op=eh)(ha:PE X a<|tE X i Φ ma)(hj:PE X j<|tE X i Φ mj)
  (hs:∀ov iv new,augStore j ov iv new=(do ł [new,ov,iv] (aE ov iv new);dL [new,ov,iv] [];pure .next)) :
  PS X (.AugAssign (.Subscript a j cu) (OM op) (.Constant (.int k) kk ş) ë) (tSt X i Φ<|.augIdx ma mj op k) :=
 (F7 ha hj (PGet.or Ea<|Eb hu) O4 (HZ h) (PSet.or Nq<|On hu) hs).imp λD σ H ⟨env,G,N,R,B,C,Xe,p,w,c⟩=>by
  refine one p.pre w λv G1 H1 x k1 p1 rx q=>?_;refine one p1 q λu G2 H2 y k2 p2 ry q=>?_;obtain⟨t,e1,q2⟩:=eF q;clear q;obtain⟨z,e2,q3⟩:=eF q2;clear q2;obtain⟨G3,e3,q4⟩:=eF q3;clear q3;have hr:∃b,v=.ref b:=by
   cases v with
   |ref b=>exact⟨b,rfl⟩
   |_=>cases e3
  obtain⟨b,rfl⟩:=hr;cases rx.ref_inv;have ix2:∀Q:VK,(∀t',RV i.K H2 t t'->Q t' H2)->D6 X.K (.ref b) y H2 Q\/B3 (.ref b) y H2 Q:=λQ hQ=>LO p2.hp ry e1 hQ;refine ix2 _ λt' rt=>?_;obtain⟨n1,n2,rfl,e0,hz⟩:=N3 e2;cases e0;cases rt.int_inv;have fin:∀m:Int,z=.int m->Ec (.ref b) y (.int m) H2 λH6=>D.nx σ H6:=λm hm=>by subst hm;exact DQ p2.hp (.ref b) ry (.int m) e3 λH3 k3 g3=>c.nx env σ _ _ ((k1.trans k2).trans k3) g3 (p2.en.keep k3) q4
  rcases hz with⟨eo,hz⟩|⟨eo,hz⟩
  .exact⟨n1,k,rfl,rfl,.inl ⟨eo,fin _ hz⟩⟩
  .exact⟨n1,k,rfl,rfl,.inr ⟨eo,fin _ hz⟩⟩
def EZ(t v:Expr)(p:Pos)(env:Env)(h:(∃a b q,t=.Subscript a b q)\/(∃a b q,t=.Attribute a b q)):Ϗ [t] v env=pure ee:=by rcases h with⟨a,b,q,rfl⟩|⟨a,b,q,rfl⟩<;>rfl
variable {a:O.E} {x:Expr}
def Fv{t:Option Expr}{l:Nat}{env:Env}(h:(!Uj a)=eh):Ŷ (toX a c x) t l env=pure ei:=by
 cases a with
 |comp ö m p it tt e=>cases h
 |_=>rfl
def Eg{tg:Expr}(h:∀y q,tg≠.Name y q):swT c tg (toX a c x)=ei:=by
 cases a with
 |comp ö m p it tt e =>
  cases tg with
  |Name y q=>exact gf rfl<|h y q
  |_=>rfl
 |_=>rfl
def Ij(g:Gs X i P n c){p:O.Pt}(hc:(ZE p||c.cm)=eh)(h:okP p c=eh):PG X (toP p c x)<|gPt i p:=by
 by_cases dJ:c.cm=eh
 .exact Ae g dJ h
 .cases p with
  |one j =>obtain⟨h1,h2,h3⟩:=g.nm1 h;exact OZ (by rw[g.N];exact g.nd) h1 h2 h3
  |many js=>exact gf hc dJ
  |nest j js=>exact gf hc dJ
mutual
theorem sS:∀(m:O.S) (X:Cx) (c:Md) (s:ļ),Gs X i P n c->okS m c s=eh->PS X (toS m c s) (tSt X i (O.wF P n) m)
 |.set p a,X,c,s,g,h=>by
  have h:(okP p c&&okE a c (ke s 0)&&(ZE p || !C8 a)&&(ZE p||c.cm))=eh:=h;rw[bAq,bAq,bAq]at h;obtain⟨⟨⟨h1,h2⟩,h3⟩,h4⟩:=h;by_cases hsw:swT c (toP p c<|ke s 1) (toX a c<|ke s 0)=eh
  .obtain⟨ö,k,pt,it,tt,e,rfl⟩:=IL hsw;cases p with
   |one j =>obtain⟨q1,q2,q3⟩:=g.nm1 h1;exact(Be g.toGd h2).2 _ _ _ j q1 q2 q3 (by rw[<-hsw];exact W3 (c:=c) (.comp ö k pt it tt e) (ke s 0) g.sc)
   |many js=>cases hsw
   |nest j js=>cases hsw
  .have hp:PG X (toP p c<|ke s 1)<|gPt i p:=Ij g h4 h1;exact Lo (eE a X c _ g.toGd h2) hp (by rw[ώ,W3 a _ g.sc,Bool.eq_false_iff.mpr hsw]) (La p a _ _ _ h3)<|Ep p _ _
 |.setIdx a j e,X,c,s,g,h=>by have h:(okE e c (ke s 0)&&okE a c (kid (ke s 1) 0)&&okE j c (kid (ke s 1) 1))=eh:=h;rw[bAq,bAq]at h;have ha:=eE a X c _ g.toGd h.1.2;have hj:=eE j X c _ g.toGd h.2;exact Ax g.K (eE e X c _ g.toGd h.1.1) ha hj (L6 ha hj (PSet.or Nq<|On (by have:=g.un;lia))<|FN j) (by rw[ώ,W3 e _ g.sc,Eg λy q z=>(by cases z)]) (EZ _ _ (ke s 1).pos _<|.inl ⟨_,_,_,rfl⟩) rfl
 |.setPair a j b k e,X,c,s,g,h=>nomatch h
 |.setFld o f e,X,c,s,g,h=>by have h:(c.fl.contains f&&okE o c (kid (ke s 1) 0)&&okE e c (ke s 0))=eh:=h;rw[bAq,bAq]at h;exact A0 g.K g.kl.A (g.kl.F _ h.1.1) (eE o X c _ g.toGd h.1.2) (eE e X c _ g.toGd h.2) (by rw[W3 e _ g.sc,Eg λy q z=>(by cases z)])
 |.augVar j op e,X,c,s,g,h=>nomatch h
 |.augFld o f op k,X,c,s,g,h=>by have h:(c.fl.contains f&&okE o c (kid (ke s 1) 0)&&AG op)=eh:=h;rw[bAq,bAq]at h;exact BD g.K g.kl.A (g.kl.F _ h.1.1) (HZ h.2)<|eE o X c _ g.toGd h.1.2
 |.expr e,X,c,s,g,h=>by have h:(okE e c (ke s 0) && !Uj e)=eh:=h;rw[bAq]at h;exact Fw (eE e X c _ g.toGd h.1)<|Fv h.2
 |.ret e,X,c,s,g,h=>Iy<|eE e X c _ g.toGd h
 |.retN,X,c,s,g,h=>E2
 |.ite t a b,X,c,s,g,h=>by have h:(okT t c (ke s 0)&&okSs a c (stB s)&&okSs b c (stO s))=eh:=h;rw[bAq,bAq]at h;exact PQ (eT t X c _ g.toGd h.1.1).1 (sSs a X c _ g h.1.2)<|sSs b X c _ g h.2
 |.whl t b,X,c,s,g,h=>by have h:(okT t c (ke s 0)&&okSs b c (stB s)&&c.cm)=eh:=h;rw[bAq,bAq]at h;exact IE (g.own h.2) (eT t X c _ g.toGd h.1.1).1<|sSs b X c _ g h.1.2
 |.for p it b,X,c,s,g,h=>by have h:(okP p c&&okI it c (ke s 1) (!ZE p)&&okSs b c (stB s)&&c.cm)=eh:=h;rw[bAq,bAq,bAq]at h;obtain⟨⟨⟨h1,h2⟩,h3⟩,h4⟩:=h;obtain⟨t1,t2⟩:=Nd (c:=c) p<|ke s 0;obtain⟨a1,a2⟩:=eI it X c (ke s 1) (toP p c<|ke s 0) g.toGd (!ZE p) t1 t2 h2;exact Pu (g.own h4) (g.calm h4) a1 (Ae g h4 h1) (sSs b X c _ g h3) a2
 |.forI eh p e b,X,c,s,g,h=>by have h:(okP p c&&HX e&&okE e c (ke s 1)&&okSs b c (stB s)&&c.cm)=eh:=h;rw[bAq,bAq,bAq,bAq]at h;obtain⟨⟨⟨⟨h1,h2⟩,h3⟩,h6⟩,h7⟩:=h;refine FE (g.own h7) (g.calm h7) (eE e X c _ g.toGd h3) (Ae g h7 h1) (sSs b X c _ g h6) λ_=>?_;cases e<;>first|rfl|cases h2
 |.forI ei p e b,X,c,s,g,h=>by have h:(okP p c && !ZE p&&okE e c (kid (kid (ke s 1) 0) 0)&&YT (toX e c<|kid (kid (ke s 1) 0) 0)&&((kid (ke s 1) 0).pos.endLine==(ke s 1).pos.line)&&okSs b c (stB s)&&c.cm)=eh:=h;rw[bAq,bAq,bAq,bAq,bAq,bAq]at h;obtain⟨⟨⟨⟨⟨⟨h1,h2⟩,h3⟩,h4⟩,h5⟩,h6⟩,h7⟩:=h;obtain⟨es,k,q,et⟩:=(Nd (c:=c) p<|ke s 0).1 h2;have hg:=Ae (x:=ke s 0) g h7 h1;show PS X (.For (toP p c<|ke s 0) _ _ _ _) _;rw[et]at hg ⊢;exact Hh (g.own h7) (g.calm h7) (eE e X c _ g.toGd h3) hg (sSs b X c _ g h6) (YI h4 _ _) h5 λ_=>rfl
 |.never,X,c,s,g,h=>Ei
 |.brk,X,c,s,g,h=>nomatch h
 |.cnt,X,c,s,g,h=>nomatch h
 |.pass,X,c,s,g,h=>nomatch h
 |.raise C as,X,c,s,g,h=>nomatch h
 |.try t e (.cons K nm b .nil),X,c,s,g,h=>nomatch h
 |.try t e (.cons K nm b<|.cons _ _ _ _),X,c,s,g,h=>nomatch h
 |.try t e .nil,X,c,s,g,h=>nomatch h
 |.augIdx a j op k,X,c,s,g,h=>by have h:(okE a c (kid (ke s 1) 0)&&okE j c (kid (ke s 1) 1)&&AG op)=eh:=h;rw[bAq,bAq]at h;exact AV g.K (by have:=g.un;lia) h.2 (eE a X c _ g.toGd h.1.1) (eE j X c _ g.toGd h.1.2)<|Pj j _
theorem sSs:∀(ms:O.Ss) (X:Cx) (c:Md) (xs:List ļ),Gs X i P n c->okSs ms c xs=eh->PSs X (toSs ms c xs) (tBl X i (O.wF P n) ms)
 |.nil,X,c,xs,g,h=>LJ
 |.cons m ms,X,c,xs,g,h=>by have h:(okS m c (xs.headD dS)&&okSs ms c xs.tail)=eh:=h;rw[bAq]at h;exact Fp (sS m X c _ g h.1)<|sSs ms X c _ g h.2
end
abbrev OD(N ps:List Str)(sc:η):Bool :=
 sc.kind == .function && !sc.isCoroutine && !sc.isGenerator&&decide N.Nodup&&(N.take ps.length==ps)&&ps.all (λx=>sc.names.lookup x==d9 .local||sc.names.lookup x==d9 .cell)&&sc.names.all λy=>y.2 != .free
variable {ps:List Str}
def RN{N:List Str}{sc:η}(h:OD N ps sc=eh):FnScope N ps sc:=by
 simp only[OD,bAq,ś,gc,ü]at h;obtain⟨⟨⟨⟨⟨⟨h1,h2⟩,h3⟩,h4⟩,h5⟩,h6⟩,h7⟩:=h;refine⟨eq_of_beq h1,h2,h3,h4,eq_of_beq h5,λx hx=>?_,λy hy=>?_⟩
 .simpa using h6 x hx
 .simpa using h7 y hy
structure Ds where
 st:ļ
 N:List Str
 ps:List Str
 d:O.Fn
structure Mt where
 C:String
 m:String
 qual:String
 x:Ds
structure Tb where
 fs:List<|String×Ds
 ms:List Mt
 cs:List<|String×O.Val
 cl:List String
 fl:List String
 xs:List String
abbrev Tb.md(T:Tb)(x:Ds):Md:={N:=x.N,sc:=Zt x.st,cs:=T.cs,fs:=T.fs.map (·.1),cm:=eh,cl:=T.cl,ms:=T.ms.map λy=>(y.C,y.m),fl:=T.fl,xs:=T.xs}
abbrev Ds.test(T:Tb)(x:Ds):Bool :=
 OD x.N x.ps (Zt x.st)&&okSs x.d.body (T.md x) (ZV x.st)&&x.ps.length==x.d.ar&&x.N.length==x.d.sz&&gg (x.d.ar<=x.d.sz)
structure Ds.Ok(T:Tb)(x:Ds):Prop where
 ok:x.test T=eh
 eq:toSs x.d.body (T.md x) (ZV x.st)=ZV x.st
variable {pr:å}{wd:ø}{mg:Str->Option Ã}{base:Ć}{i:Inf}{P:O.Pg}{T:Tb}
abbrev Dst(K:Frag)(mg:Str->Option Ã)(f:String)(x:Ds):Prop:=∃fa fd qual,Fun K (gh f) qual x.st fa fd/\mg (gh f)=d9 (.ref fa)/\Binds K fd x.ps []
structure Mst(i:Inf)(mg:Str->Option Ã)(y:Mt)(a fa:Í):Prop where
 cl:mg (gh y.C)=d9 (.ref a)
 fn:∃fd,Fun i.K (gh y.m) (gh y.qual) y.x.st fa fd/\Binds i.K fd y.x.ps []
 at_:Meth i.K a (gh y.m) fa
variable {f:String} {fa:Í} {fd:ň}
def UA:fj pr wd i.K mg base (CX1 pr wd) 0 fa fd ps<|spF i P 0 f:=by
 refine⟨λvs H Q E h=>?_,λA outer s H args us vs Q E hr he hb hv h=>?_⟩
 .obtain⟨_,_,_,_,_,_,w,_⟩:=h;rw[O.wF_eq]at w;exact w.elim
 .obtain⟨_,_,_,_,_,_,w,_⟩:=h;rw[O.wF_eq]at w;exact w.elim
variable {n:Nat}
def ER{vs:List O.Val}{h:O.Hs}{Q:O.Q1}{E:O.XQ}(q:O.wF P (n+1) f vs h Q E):∃d,P f=d9 d/\vs.length=d.ar/\O.wSs (O.wF P n) d.body (d.env vs) h (λ_ g=>Q .non g) Q (λ_ _=>False) (λ_ _=>False) λ_ c g=>E c g:=by rw[O.wF_eq]at q;obtain⟨d,e,q1,q2⟩:=eF q;exact⟨d,e,q1,by rw[O.wF_eq];exact q2⟩
structure Modu(mg:Str->Option Ã)(base:Ć)(i:Inf)(T:Tb):Prop where
 bl:∀x∈blts,mg x=ee
 cst:∀x v,T.cs.lookup x=d9 v->∃u y,mg (gh x)=d9 u/\RelV y u/\∀H,RV i.K H v y
 A:ClsA i
 F:∀f,T.fl.contains f=eh->FldOk i f
 cl:∀C a,i.cl C a->mg (gh C)=d9 (.ref a)
 mkc:∀C,T.cl.contains C=eh->∃a y f,i.ins C=eh/\i.cl C a/\Mk i.K a f/\y∈T.ms/\y.C=C/\y.m = "__init__"/\Mst i mg y a f
 fs:∀f x,(f,x)∈T.fs->Dst i.K mg f x
 ms:∀y,y∈T.ms->∃a f,Mst i mg y a f/\Cls i.K a
 xc:T.xs≠[]->∀C a,i.xc C a->XCls i.K a/\PySem.W.kitOne i.K (.ref a) (.type "ValueError")=d9 eh
 rs:T.xs≠[]->∀C,T.xs.contains C=eh->∃a,i.xc C a/\PyProof.Rows.OwnCls (gh C) a [.type "ValueError",.type "Exception",.type "BaseException",.type "object"] "ValueError.__new__" mg base
 kn:T.xs≠[]->∀T',(T.xs.contains T'||T' == "ShutError")=eh->∃D,mg (gh T')=d9 (.ref D)/\∀C a,i.xc C a->PySem.W.kitOne i.K (.ref a) (.ref D)=d9 (O.fO C T')/\(O.fO C T'=eh->PySem.W.exmOne i.K (.ref a) (.ref D)=d9 eh)
structure Held(pr:å)(wd:ø)(mg:Str->Option Ã)(base:Ć)(i:Inf)(P:O.Pg)(T:Tb)(n:Nat):Prop where
 fs:∀f x,(f,x)∈T.fs->Dfo pr wd mg base i P n f
 ms:∀y a f,y∈T.ms->Mst i mg y a f->Dfm pr wd mg base i P n (y.C ++ "." ++ y.m) f
def fn_succ{x:Ds}{nm qual:Str}(M:Modu mg base i T)(hn:Held pr wd mg base i P T n)(F:Fun i.K nm qual x.st fa fd)(hP:P f=d9 x.d)(ht:x.Ok T):fj pr wd i.K mg base (CX1 pr wd) (2*(n+1)) fa fd x.ps<|spF i P (n+1) f:=by
 obtain⟨ht,heq⟩:=ht;simp only[Ds.test,bAq,gc]at ht;obtain⟨⟨⟨⟨h1,h2⟩,h3⟩,h4⟩,h5⟩:=ht;have h3:=eq_of_beq h3;have h4:=eq_of_beq h4;have S:=RN h1;refine F.ok1 (k:=2*n+1) S (λvs H Q E h=>?_) λϞ A outer s H vs Q E hr hsp hw=>?_
 .obtain⟨args,G,Qm,Em,r,g,w,_⟩:=h;obtain⟨d,e,q,_⟩:=ER w;rw[hP]at e;cases e;rw[<-r.length,q,h3]
 .obtain⟨args,G,Qm,Em,r,g,w,cn,ex⟩:=hsp;obtain⟨d,e,q,w⟩:=ER w;rw[hP]at e;cases e;have gd:Gs (MX (CX1 pr wd) pr wd i.K mg base x.N qual (Zt x.st) fa Ϟ A outer s H E) i P n (T.md x) :=
   { K:=rfl,N:=rfl,sc:=rfl,nd:=S.nd,un:=(by have:=hr.un;show(A.deeper _).units+200<Ĭ;lia),calm:=λ_=>rfl,room:=λ_=>hr,bl:=M.bl
     dfs:=λg hg=>(by
       obtain⟨p,hy,e⟩:=Ð.mp<|Ą.mp hg
       subst e
       exact hn.fs p.1 p.2 hy)
     cst:=M.cst
     kl:=⟨M.A,M.F,λC hC=>(by
       obtain⟨a,y,f,q1,q2,q3,q4,rfl,q6,q7⟩:=M.mkc C hC
       refine⟨a,f,q1,q2,q3,M.cl _ _ q2,?_⟩
       have:=hn.ms y a f q4 q7
       rw[q6]at this
       rwa [show y.C ++ ".__init__" = y.C ++ "." ++ "__init__" by rw[String.append_assoc];rfl]),λC m hC=>(by
       obtain⟨y,hy,e⟩:=Ð.mp<|Ą.mp hC
       cases e
       obtain⟨a,f,q1,q2⟩:=M.ms y hy
       refine⟨a,f,λb hb=>?_,q2,q1.at_,hn.ms y a f hy q1⟩
       have e1:=M.cl _ _ hb
       rw[q1.cl]at e1
       cases e1
       rfl)⟩
     xl:=λh=>⟨M.xc h,M.rs h,M.kn h⟩
     fn:=λ_ _=>.inl rfl
     own:=λ_=>PassesOwn.leaving
     stk:=λ_=>rfl }
  have hb:=sSs x.d.body _ _ _ gd h2;rw[heq]at hb;refine⟨_,hb,?_⟩;refine⟨x.d.env args,G,(λ_ g=>Qm .non g),Qm,(λ_ _=>False),(λ_ _=>False),(λ_ c g=>Em c g),?_,w,?_⟩
  .refine⟨?_,g,?_⟩
   .have:=REn.start (n:=x.d.sz - x.d.ar) r;unfold L2.start;have e1:x.N.length - vs.length=x.d.sz - x.d.ar:=by rw[h4,<-r.length,q]
    rw[e1];exact this
   .intro Â σ H0 s0 H' a cls s' I fl hx;obtain⟨e,c,G',ad,q1,q2,q3,q4,q5⟩:=hx;exact hw Â σ H0 s0 H' a cls s' I fl<|ex _ _ _ ⟨c,G',ad,q1,q2,q3,q4,q5⟩
  .refine⟨?_,?_,?_,?_⟩
   .intro Ł Ŗ G' H' k g' e w';exact cn .non G' H' .non k g' .non w'
   .intro v G' H' y k g' rv w';exact cn v G' H' y k g' rv w'
   .intro _ _ _ _ _ _ _ z;exact z.elim
   .intro _ _ _ _ _ _ _ z;exact z.elim
def held_all(M:Modu mg base i T)(hP:∀f x,(f,x)∈T.fs->P f=d9 x.d)(hPm:∀y,y∈T.ms->P (y.C ++ "." ++ y.m)=d9 y.x.d)(ht:∀f x,(f,x)∈T.fs->x.Ok T)(htm:∀y,y∈T.ms->y.x.Ok T):∀n,Held pr wd mg base i P T n:=by
 intro n;induction n with
 |zero =>
  refine⟨λf x h=>?_,λy a f hy S=>?_⟩
  .obtain⟨fa,fd,qual,F,hm,hb⟩:=M.fs f x h;exact⟨fa,fd,x.ps,UA,hm,F.kp,hb⟩
  .obtain⟨fd,F,hb⟩:=S.fn;exact⟨fd,y.x.ps,UA,hb⟩
 |succ n ih =>
  refine⟨λf x h=>?_,λy a f hy S=>?_⟩
  .obtain⟨fa,fd,qual,F,hm,hb⟩:=M.fs f x h;exact⟨fa,fd,x.ps,fn_succ M ih F (hP f x h)<|ht f x h,hm,F.kp,hb⟩
  .obtain⟨fd,F,hb⟩:=S.fn;exact⟨fd,y.x.ps,fn_succ M ih F (hPm y hy)<|htm y hy,hb⟩
end Snd
namespace Hd
open PySem PySem.W PyProof.Rows
abbrev Ja(st:SharedT->Thread->Option (SharedT×Thread))(ok th:Thread->Bool):Nat->SharedT->Thread->Option SharedT
 |0,_,_=>ee
 |n+1,s,t=>match th t with
  |true=>d9 s
  |false=>match ok t with
   |false=>ee
   |true=>match st s t with
    |some (s',t')=>Ja st ok th n s' t'
    |none=>ee
def JF{tb:String->Option Builtin}{p:Program}{w:World}{n₀:Nat}{ann:Option Value}:∀{n:Nat}{s s':SharedT}{t:Thread},Ja (stepT (denote tb) p w) (stepOk n₀ ann) through n s t=d9 s'->topRun tb p w n₀ ann n s.abs t=d9 s'.abs
 |0,_,_,_,h=>by cases h
 |n+1,s,s',t,h=>by
  unfold Ja at h;unfold topRun;cases ht:through t with
  |true=>rw[ht]at h;cases h;rfl
  |false =>
   rw[ht]at h;dsimp only at h ⊢;cases hk:stepOk n₀ ann t with
   |false=>rw[hk]at h;cases h
   |true =>
    rw[hk]at h;dsimp only at h ⊢;cases hs:stepT (denote tb) p w s t with
    |none=>rw[hs]at h;cases h
    |some r =>obtain⟨s2,t2⟩:=r;rw[hs]at h;rw[stepT_spec hs];exact JF h
abbrev Jp(P:Params):BT :=
 .node (boot_o_0 P) (.node (boot_o_1 P) (.node (boot_o_3 P) (.node (boot_o_7 P) .nil .nil) .nil)<|.node (boot_o_5 P) (.node (boot_o_9 P) .nil .nil) .nil)
  (.node (boot_o_2 P) (.node (boot_o_4 P) (.node (boot_o_8 P) .nil .nil) .nil)<|.node (boot_o_6 P) (.node (boot_o_10 P) .nil .nil) .nil)
def CG(P:Params):absHeap (Jp P) 11 {}=boot_heap P:=by kernel_rfl
def BJ(P:Params):((boot_heap P).isNs mainGlobals&&(Array.mk []:Array GenState).size==0,(boot_heap P).objs.size,(boot_heap P).nsMap mainGlobals "__annotations__")=(eh,11,d9<|.ref 6):=by
 rw[show @Heap.nsMap=_ from Fast.te8920871248978507458]
 kernel_rfl
abbrev Hz:=Fast.tw10156331382660048174
abbrev UZ:=Fast.tw11892475500146522536
abbrev D0:=Fast.tw14364793385576792824
abbrev okY:=Fast.tw6613529449190102663
abbrev seenY:=Fast.tw4187177175401517315
abbrev modsY:=Fast.tw5923862056798008813
abbrev runY(p:Program)(N:Nat)(w:World)(os:OsState):Option SharedT:=Ja (Hz (UZ D0) p w) (okY 11<|d9<|.ref 6) through N ⟨Jp w.params,11,{},Array.mk [],boot_drawn,boot_toks,os⟩<|topStub p
abbrev stY(p:Program)(w:World)(s:SharedT):Bool:=staticsOk (modsY p.main.body) (boot_heap w.params) s.abs.heap&&namesBound p s.abs.heap&&gensDone s.abs&&laidKept (boot_heap w.params) s.abs.heap
def left_of{p q:Program}{loose:List Str}{Xt:Shared->Bool}{α:Type}{Yf:Shared->α}{Ya:World->α}{N:Nat}(e:opening p=plainProg p.main.scope.names)(hN:Nat.ble 600 N=eh)(f:∀s,fenceModules? p s=d9 s)
  (one:∀w os,(runY p N w os).map (stY p w)=d9 eh) (two:∀w os,(runY p N w os).map (λs=>seenY q loose (modsY p.main.body) Xt eh s.abs)=d9 (openGood q loose)) (three:∀w os,(runY p N w os).map (λs=>Yf s.abs)=d9 (Ya w)) :
  LeftO p q loose Xt Yf Ya N:=by
 intro w;obtain⟨⟨h,gs,d,k,os⟩,e1,e2⟩:=È.mp<|boot_open e hN f w;obtain⟨rfl,rfl,rfl,rfl⟩:h=boot_heap w.params/\gs=Array.mk []/\d=boot_drawn/\k=boot_toks:=by simpa using e2
 obtain⟨s,r,l1⟩:=È.mp<|one w os;obtain⟨s',r',l2⟩:=È.mp<|two w os;cases r.symm.trans r';obtain⟨s',r',l3⟩:=È.mp<|three w os;cases r.symm.trans r';obtain⟨z1,z2,z3⟩:_/\_/\_:=by simpa only[Ε]using BJ w.params
 unfold stY at l1;unfold runY Hz UZ D0 okY at r;rw[<-Fast.te10156331382660048174,<-Fast.te11892475500146522536,<-Fast.te14364793385576792824,<-Fast.te6613529449190102663]at r;unfold modsY at l1 l2;unfold seenY at l2;rw[<-Fast.te5923862056798008813]at l1 l2;rw[<-Fast.te4187177175401517315]at l2;have r2:=JF r;have ea:(SharedT.mk (Jp w.params) 11 {} (Array.mk []) boot_drawn boot_toks os).abs=⟨boot_heap w.params,Array.mk [],boot_drawn,boot_toks,os⟩:=by show Shared.mk (absHeap _ _ _) _ _ _ _=_;rw[CG]
 rw[ea]at r2;have t:topFrom treeTable p w N ⟨boot_heap w.params,Array.mk [],boot_drawn,boot_toks,os⟩=d9 s.abs:=by unfold topFrom;dsimp only;rw[z1,z2,z3,r2];show(match staticsOk (importedModules p.main.body) (boot_heap w.params) s.abs.heap&&namesBound p s.abs.heap&&gensDone s.abs&&laidKept (boot_heap w.params) s.abs.heap with|true=>_|false=>_)=_;rw[l1]
 unfold openEnds;rw[e1];show(topFrom treeTable p w N _).map _=_;rw[t];exact congrArg d9<|Prod.ext l2 l3
end Hd
namespace Hd
open PySem PySem.W PyProof.Rows L2
abbrev KE:Nat->List Obj->Frag
 |_,[]=>[]
 |i,o::r=>match o with
  |⟨_,_,.freed,_⟩=>KE (i+1) r
  |o=>(i,o)::KE (i+1) r
abbrev ZB(g:Heap):Frag:=KE 0 g.objs.toList
def NW:∀(l:List Obj) (i a:Nat) (o:Obj),(KE i l).lookup a=d9 o->i<=a/\l[a - i]?=d9 o/\(match d9 o with|some ⟨_,_,.freed,_⟩=>ee|o=>o)=d9 o
 |[],_,_,_,h=>by cases h
 |x::r,i,a,o,h=>by
  have rec1:(KE (i+1) r).lookup a=d9 o->i<=a/\(x::r)[a - i]?=d9 o/\(match d9 o with|some ⟨_,_,.freed,_⟩=>ee|o=>o)=d9 o:=λq=>by obtain⟨h1,h2,h3⟩:=NW r (i+1) a o q;refine⟨by lia,?_,h3⟩;rw[show a - i=(a - (i+1))+1 by lia,List.getElem?_cons_succ];exact h2
  unfold KE at h;split at h
  .exact rec1 h
  .rename_i c ų;rw[î]at h;split at h
   .rename_i e;cases h;have e:=eq_of_beq e;subst e;refine⟨Ì _,by rw[Nat.sub_self];rfl,?_⟩;split
    .rename_i d1 d2 d3 d4;cases d4;exact(ų _ _ _ rfl).elim
    .rfl
   .exact rec1 h
def Uo{g:Heap}{a:Addr}{o:Obj}(h:(ZB g).lookup a=d9 o):g.get? a=d9 o:=by obtain⟨_,h2,h3⟩:=NW _ _ _ _ h;unfold Heap.get?;rw[Nat.sub_zero,ă]at h2;rw[h2];exact h3
abbrev Ee(K:Frag)(nm:Str):Option<|FuncData×Bool×Bool:=match nsIn K mainGlobals nm with
 |some (d9<|.ref f)=>match K.lookup f with
  |some ⟨_,_,.func fd,_⟩=>d9 ({fd with kwdefaults:=.none,doc:=.none,pyModule:=.none,annotations:=ee,code:=.none,closureTuple:=.none},codeIn K fd.code fd.qualname,keepIn K<|.ref f)
  |_=>ee
 |_=>ee
abbrev Dl(nm:Str)(st:Stmt):Option<|FuncData×Bool×Bool:=d9 (fnOf nm nm (YN st) (ZV st) (Zt st) .none .none .none .none ee .none .none,eh,eh)
def Pc{K:Frag}{nm:Str}{st:Stmt}(e:Ee K nm=Dl nm st):∃fa fd,Fun K nm nm st fa fd/\nsIn K mainGlobals nm=d9 (d9<|.ref fa):=by
 unfold Ee at e;split at e
 .rename_i f hf;split at e
  .rename_i oc od fd sl hl;simp only[Dl,ī,Ε]at e;obtain⟨e1,e2,e3⟩:=e;obtain⟨n1,n2,n3,n4,n5,n6,n7,n8,n9,n10,n11,n12,n13,n14,n15⟩:=fd;simp only[fnOf,FuncData.mk.injEq]at e1;obtain⟨rfl,rfl,rfl,rfl,rfl,rfl,rfl,rfl,-,-,-,-,-,-,rfl⟩:=e1;exact⟨f,_,Eu hl e2 e3,hf⟩
  .cases e
 .cases e
abbrev HI(K:Frag)(y:Str):Bool:=match nsIn K mainGlobals y with
 |some ee=>eh
 |_=>ei
def GG{l:OpenLaw}{n k:Nat}{q:Program}{loose:List Str}{XP:(Str->Option Value)->Heap->Prop}{YP:World->Heap->Prop}{d:DefRec}{CX:World->CXT}{x:Str}
  (hn:l.most=d9 n) (hn2:n<=sizeLine) (hdf:d.params.defaults=[]) (hr:fi k callerA)
  (F:∀(w:World) (mg:Str->Option Value) (fa:Addr) (h:Heap),YP w h->h.Ns mainGlobals mg->mg d.name=d9 (.ref fa)->∃(K:Frag) (sp:Sp),K.In h/\
    (∃fd:FuncData,(∀(s:Shared) (u:Value),BindsTo s fd ⟨[u],[]⟩ [(x,u)])/\∀base:Heap,K.In base->base.Ns mainGlobals mg->fj l.prog w K mg base (CX w) k fa fd [x] sp)/\
    ∀(H:Hp) (a:Addr) (ns:List Int),ns.length<=n->LI H->fP K H a (ns.map V.int)->sp [.ref a] H (λv _=>v=.bl eh) λ_ _ _=>False)
  (hCX:∀(w:World) (H:Hp) (s:Shared) (e:Value) (s':Shared),CX w [] H s (λ_ _ _=>False) e s'->False) :
  WalkO q loose XP YP l.row.toRowW d [] (λf vs=>PySem.call f vs):=by
 refine Att.attach_call hn hdf λw s₀ ě mg mb fa o pm cd doc a vs ns G Y ho hd aU hmg bg hints hlen hg=>?_;obtain⟨K,sp,KX,⟨fd,hb,hF⟩,hsp⟩:=F w mg fa _ Y G.T.g hmg;exact Ef KX G.T.g G.T.b G.T.builtins G.T.nolimit hg bg hints (á hlen hn2) hr hF hb (λH hO hS=>hsp H a ns hlen hO hS) λH e s'=>hCX w H ě e s'
abbrev ET(f:Value->O.Val->Bool):List Value->List O.Val->Bool
 |[],[]=>eh
 |u::us,x::xs=>f u x&&ET f us xs
 |_,_=>ei
abbrev HW(K:Frag):Value->Option (List Value)
 |.ref a=>match K.lookup a with
  |some ⟨.type n,_,.seq us _,_⟩=>if n == "tuple" && gg (us.size<=sizeLine)then d9 us.toList else ee
  |_=>ee
 |_=>ee
abbrev GB(K:Frag):Nat->Value->O.Val->Bool
 |0,_,_=>ei
 |n+1,u,v=>match v with
  |.non=>(match u with|.none=>eh|_=>ei)
  |.bl b=>(match u with|.bool a=>a==b|_=>ei)
  |.int j=>(match u with|.int i _=>i==j|_=>ei)
  |.str t=>(match u with|.str s _=>Fast.sEq s (gh t)|_=>ei)
  |.tup xs=>(match HW K u with|some us=>ET (GB K n) us xs|none=>ei)
  |_=>ei
def ED{K:Frag}{f:Value->O.Val->Bool}(hf:∀u v,f u v=eh->∃z,RelV z u/\∀H,Snd.RV K H v z):∀(us:List Value) (xs:List O.Val),ET f us xs=eh->∃zs,fR zs us/\∀H,Snd.RVs K H xs zs
 |[],[],_=>⟨[],.nil,λ_=>.nil⟩
 |u::us,x::xs,h=>by rw[ET,bAq]at h;obtain⟨z,r,q⟩:=hf u x h.1;obtain⟨zs,rs,qs⟩:=ED hf us xs h.2;exact⟨z::zs,.cons r rs,λH=>.cons (q H)<|qs H⟩
 |[],_::_,h=>by cases h
 |_::_,[],h=>by cases h
def CJ{K:Frag}:∀(n:Nat) (u:Value) (v:O.Val),GB K n u v=eh->∃z,RelV z u/\∀H,Snd.RV K H v z
 |0,_,_,h=>by cases h
 |n+1,u,v,h=>by
  unfold GB at h;cases v with
  |non =>
   dsimp only at h;split at h
   .exact⟨.non,rfl,λ_=>.non⟩
   .cases h
  |bl b =>
   dsimp only at h;split at h
   .cases eq_of_beq h;exact⟨.bl b,rfl,λ_=>.bl b⟩
   .cases h
  |int j =>
   dsimp only at h;split at h
   .cases eq_of_beq h;exact⟨.int j,⟨_,rfl⟩,λ_=>.int j⟩
   .cases h
  |str t =>
   dsimp only at h;split at h
   .cases Fast.sEq_iff.mp h;exact⟨.str<|gh t,⟨_,rfl⟩,λ_=>.str t⟩
   .cases h
  |tup xs =>
   dsimp only at h;split at h
   .rename_i us hu;obtain⟨zs,rs,qs⟩:=ED (λu v=>CJ n u v) us xs h;unfold HW at hu;split at hu
    .rename_i a;split at hu
     .rename_i nm od ô k sl hl;split at hu
      .rename_i hc;rw[bAq,gc]at hc;cases eq_of_beq hc.1;cases hu;exact⟨.ref a,rfl,λH=>.tup (.inr ⟨_,ô,k,hl,rfl,rfl,hc.2,rs⟩)<|qs H⟩
      .cases hu
     .cases hu
    .cases hu
   .cases h
  |ref a=>cases h
  |scr ns=>cases h
  |key i j=>cases h
abbrev Ew(K:Frag)(p:String×O.Val):Bool:=match nsIn K mainGlobals (gh p.1)with
 |some (d9 u)=>GB K 4 u p.2
 |_=>ei
def JI{α β:Type}[BEq α][LawfulBEq α]{a:α}{b:β}:∀{l:List (α×β)},l.lookup a=d9 b->(a,b)∈l
 |[],h=>by cases h
 |(x,y)::r,h=>by
  rw[î]at h;split at h
  .rename_i e;cases h;cases eq_of_beq e;exact .head _
  .exact .tail _<|JI h
def Ip{K:Frag}{mg:Str->Option Value}{h:Heap}{x:Str}{C:Addr}{bmB:List Value}{id:String}(X:K.In h)(hm:mg x=d9 (.ref C))(q:excIn K C bmB id=eh):PyProof.Rows.OwnCls x C bmB id mg h:=by
 constructor
 .exact hm
 have z:=q;unfold excIn at z;split at z
 next dd cd sl ho =>
  split at z
  next C1 bm k0 k1 k2 k3 n k5 em es =>
   rw[bAq,bAq,bAq,bAq,bAq]at z;obtain⟨⟨⟨⟨⟨z1,z2⟩,z3⟩,z4⟩,z5⟩,z6⟩:=z;have z1:=eq_of_beq z1;have z2:=eq_of_beq z2;have z6:=eq_of_beq z6;subst z1 z2;have z3b:cd.hasDel=ei:=by
    cases e:cd.hasDel with
    |false=>rfl
    |true=>rw[e]at z3;cases z3
   have es':sl=#[k0,k1,k2,k3,d9<|.builtin n,k5]:=dW.mp es;have nN:=nsMap_none_of_in X z5 z6;have nI:=Heap.Ns.of_isNs<|isNs_of_in X z5;have tI:=tail_of_in X z4;cases cd;dsimp only at em z3b nN nI;subst em z3b es';exact⟨bm,_,_,_,_,_,_,_,_,_,dd,k0,k1,k2,k3,k5,_,X _ _ ho,nI,nN,tI⟩
  next=>cases z
 next=>cases z
abbrev Lv(K:Frag)(f:Addr):Option<|FuncData×Bool×Bool:=match K.lookup f with
 |some ⟨_,_,.func fd,_⟩=>d9 ({fd with kwdefaults:=.none,doc:=.none,pyModule:=.none,annotations:=ee,code:=.none,closureTuple:=.none},codeIn K fd.code fd.qualname,keepIn K<|.ref f)
 |_=>ee
abbrev OW(nm qual:Str)(st:Stmt):Option<|FuncData×Bool×Bool:=d9 (fnOf nm qual (YN st) (ZV st) (Zt st) .none .none .none .none ee .none .none,eh,eh)
def Lu{K:Frag}{nm qual:Str}{st:Stmt}{f:Addr}(e:Lv K f=OW nm qual st):∃fd,Fun K nm qual st f fd:=by
 unfold Lv at e;split at e
 .rename_i oc od fd sl hl;simp only[OW,ī,Ε]at e;obtain⟨e1,e2,e3⟩:=e;obtain⟨n1,n2,n3,n4,n5,n6,n7,n8,n9,n10,n11,n12,n13,n14,n15⟩:=fd;simp only[fnOf,FuncData.mk.injEq]at e1;obtain⟨rfl,rfl,rfl,rfl,rfl,rfl,rfl,rfl,-,-,-,-,-,-,rfl⟩:=e1;exact⟨_,Eu hl e2 e3⟩
 .cases e
abbrev JW(K:Frag)(C:String):Option Addr:=match nsIn K mainGlobals (gh C)with
 |some (d9<|.ref a)=>d9 a
 |_=>ee
variable {C:String} {a:Addr}
def Jd{K:Frag}(h:JW K C=d9 a):nsIn K mainGlobals (gh C)=d9 (d9<|.ref a):=by
 unfold JW at h;split at h
 .cases h;assumption
 .cases h
structure CV where
 pg:Bool
 hd:Bool
 po:Bool
 sa:Option<|Option Value
abbrev Gz(K:Frag)(a:Addr):CV:=⟨plainGet K a Str.empty,hasDictIn K a,plainOver K a,findIn K (.ref a) "__setattr__"⟩
abbrev UT:CV:=⟨eh,eh,eh,d9<|d9<|.builtin "object.__setattr__"⟩
def DJ{K:Frag}(h:Gz K a=UT):Cls K a:=by simp only[Gz,UT,CV.mk.injEq]at h;exact⟨h.1,h.2.1,h.2.2.1,h.2.2.2⟩
structure MV where
 fn:Option<|FuncData×Bool×Bool
 isf:Bool
 cv:CV
abbrev Dx(K:Frag)(y:Snd.Mt):Option MV:=match JW K y.C with
 |some a=>match findIn K (.ref a) (gh y.m)with
  |some (d9<|.ref f)=>d9 ⟨Lv K f,isFn K<|.ref f,Gz K a⟩
  |_=>ee
 |none=>ee
abbrev Dj(y:Snd.Mt):Option MV:=d9 ⟨OW (gh y.m) (gh y.qual) y.x.st,eh,UT⟩
def Qh{K:Frag}{y:Snd.Mt}(e:Dx K y=Dj y):∃a f fd,nsIn K mainGlobals (gh y.C)=d9 (d9<|.ref a)/\Fun K (gh y.m) (gh y.qual) y.x.st f fd/\Meth K a (gh y.m) f/\Cls K a:=by
 unfold Dx at e;split at e
 .rename_i a ha;split at e
  .rename_i f hf;simp only[Dj,ī,MV.mk.injEq]at e;obtain⟨e1,e2,e3⟩:=e;obtain⟨fd,F⟩:=Lu e1;exact⟨a,f,fd,Jd ha,F,⟨hf,e2,F.kp⟩,DJ e3⟩
  .cases e
 .cases e
structure QV where
 mks:Bool
 kp:Bool
 cv:CV
 fl:List<|Option<|Option Value
 ic:Option (Option Value)×Option (Option Value)×Option Bool×Option Bool
abbrev B8(K:Frag)(fl:List String)(C:String):Option QV:=match JW K C with
 |some a=>d9 ⟨makesIn K a,keepIn K<|.ref a,Gz K a,fl.map λf=>findIn K (.ref a)<|gh f,(findIn K (.ref a) "__class__",specialIn K (.builtin "object.__class__") "__get__",takesIn K<|.builtin "object.__class__",mroIn K a<|.type "object")⟩
 |none=>ee
abbrev Dn(fl:List String):Option QV:=d9 ⟨eh,eh,UT,fl.map λ_=>d9 ee,(d9<|d9<|.builtin "object.__class__",d9<|d9<|.builtin "getset_descriptor.__get__",d9 eh,d9 eh)⟩
def Hv{K:Frag}{fl:List String}(e:B8 K fl C=Dn fl):∃a,nsIn K mainGlobals (gh C)=d9 (d9<|.ref a)/\makesIn K a=eh/\keepIn K (.ref a)=eh/\Cls K a/\(∀f∈fl,NoAttr K a<|gh f)/\Snd.IC K a:=by
 unfold B8 at e;split at e
 .rename_i a ha;simp only[Dn,ī,QV.mk.injEq,Ε]at e;obtain⟨e1,e2,e3,e4,e5,e6,e7,e8⟩:=e;exact⟨a,Jd ha,e1,e2,DJ e3,λf hf=>ģ.mp e4 f hf,⟨e5,e6,e7,e8⟩⟩
 .cases e
structure XV where
 ex:Bool
 f1:Option<|Option Value
 f2:Option<|Option Value
 f3:Option<|Option Value
 m1:Option Bool
 m2:Option Bool
 ci:Bool
 ve:Option Bool
 ks:List<|Option<|Option Bool×Option Bool
abbrev DG(K:Frag)(xs:List String)(C:String):Option XV:=match JW K C with
 |some a=>d9 ⟨excIn K a [.type "ValueError",.type "Exception",.type "BaseException",.type "object"] "ValueError.__new__",findIn K (.ref a) "__getattribute__",findIn K (.ref a) "__getattr__",findIn K (.ref a) "__class__",mroIn K a<|.type "object",mroIn K a<|.type "BaseException",(clsIn K a).isSome,kitOne K (.ref a)<|.type "ValueError",("ShutError" :: xs).map λT=>(JW K T).map λD=>(kitOne K (.ref a)<|.ref D,exmOne K (.ref a)<|.ref D)⟩
 |none=>ee
abbrev Ej(xs:List String)(C:String):Option XV:=d9 ⟨eh,d9<|d9<|.builtin "BaseException.__getattribute__",d9 ee,d9<|d9<|.builtin "object.__class__",d9 eh,d9 eh,eh,d9 eh,("ShutError" :: xs).map λT=>d9 (d9<|O.fO C T,d9<|O.fO C T)⟩
def EF{K:Frag}{xs:List String}(e:DG K xs C=Ej xs C):∃a,nsIn K mainGlobals (gh C)=d9 (d9<|.ref a)/\excIn K a [.type "ValueError",.type "Exception",.type "BaseException",.type "object"] "ValueError.__new__" = eh/\XCls K a/\kitOne K (.ref a) (.type "ValueError")=d9 eh/\
  ∀T∈"ShutError" :: xs,∃D,nsIn K mainGlobals (gh T)=d9 (d9<|.ref D)/\kitOne K (.ref a) (.ref D)=d9 (O.fO C T)/\exmOne K (.ref a) (.ref D)=d9 (O.fO C T):=by
 unfold DG at e;split at e
 .rename_i a ha;simp only[Ej,ī,XV.mk.injEq]at e;obtain⟨e1,e2,e3,e4,e5,e6,e7,e8,e9⟩:=e;refine⟨a,Jd ha,e1,⟨e2,e3,e4,e5,e6,e7⟩,e8,λT hT=>?_⟩;have:=ģ.mp e9 T hT;cases z:JW K T with
  |none=>rw[z]at this;cases this
  |some D =>rw[z]at this;simp only[Ő,ī,Ε]at this;exact⟨D,Jd z,this.1,this.2⟩
 .cases e
structure View where
 fs:List<|Option<|FuncData×Bool×Bool
 ms:List<|Option MV
 cl:List<|Option QV
 xs:List<|Option XV
 ok:Bool
abbrev view(T:Snd.Tb)(K:Frag):View:=⟨T.fs.map λp=>Ee K<|gh p.1,T.ms.map<|Dx K,T.cl.map<|B8 K T.fl,T.xs.map<|DG K T.xs,T.cs.all (Ew K)&&Snd.blts.all (HI K)⟩
abbrev due(T:Snd.Tb):View:=⟨T.fs.map λp=>Dl (gh p.1) p.2.st,T.ms.map Dj,T.cl.map λ_=>Dn T.fl,T.xs.map<|Ej T.xs,eh⟩
abbrev hook(T:Snd.Tb):Hook where
 α:=View
 obs:=λs=>view T<|ZB s.heap
 val:=λ_=>due T
 says:=λ_ h=>∃g:Heap,view T (ZB g)=due T/\∀b o,g.get? b=d9 o->h.get? b=d9 o
 of:=λ_ s e=>⟨s.heap,e,λ_ _ x=>x⟩
 keeps:=λ_ _ _ ⟨g,e,k⟩ k2=>⟨g,e,λb o x=>k2 b o<|k b o x⟩
abbrev Bd(nm qual:Str)(x:Snd.Ds):Prop:=∀(kV doc pm:Value) (an:Option Addr) (Ϟ ct:Value) (us:List Value),us.length=x.ps.length->bindArgs (fnOf nm qual (YN x.st) (ZV x.st) (Zt x.st) .none kV doc pm an Ϟ ct) ⟨us,[]⟩=pure (x.ps.zip us)
abbrev Gm(T:Snd.Tb):Bool:=T.cl.all λC=>T.ms.any λy=>y.C==C&&y.m == "__init__"
def law_walk{l:OpenLaw}{q:Program}{loose:List Str}{XP:(Str->Option Value)->Heap->Prop}{d:DefRec}{T:Snd.Tb}{pg:O.Pg}{k:Nat}{xl:Snd.Ds}
  (hn:l.most=d9 63) (hdf:d.params.defaults=[]) (hdn:d.name=gh "law") (hr:fi (2*(k+1)) callerA) (hlaw:("law",xl)∈T.fs) (hps:xl.ps=[gh "script"]) (de:Gm T=eh)
  (tab_pg:∀f x,(f,x)∈T.fs->pg f=d9 x.d) (tab_pm:∀y,y∈T.ms->pg (y.C ++ "." ++ y.m)=d9 y.x.d) (tab_ok:∀f x,(f,x)∈T.fs->x.Ok T) (tab_om:∀y,y∈T.ms->y.x.Ok T)
  (tab_bd:∀f x,(f,x)∈T.fs->Bd (gh f) (gh f) x) (tab_bm:∀y,y∈T.ms->Bd (gh y.m) (gh y.qual) y.x)
  (ok:∀ns:List Int,ns.length<=63->O.wF pg (k+1) "law" [.scr ns] (λ_=>ee) (λv _=>v=.bl eh) λ_ _=>False) :
  WalkO q loose XP (hook T).says l.row.toRowW d [] (λf vs=>PySem.call f vs):=by
 refine GG (n:=63) (k:=2*(k+1)) (x:=gh "script") (CX:=λw=>CX1 l.prog w) hn (by decide) hdf hr (λw mg fa h Y G hmg=>?_) λ_ _ _ _ _ ⟨_,_,_,_,_,z⟩=>z;obtain⟨g,e,keep⟩:=Y;have X:(ZB g).In h:=λa o z=>keep a o<|Uo z;simp only[view,due,View.mk.injEq]at e;obtain⟨e1,e3,e4,e5,e2⟩:=e;rw[bAq,ü,ü]at e2
 let i:Snd.Inf:=⟨ZB g,λC a=>T.cl.contains C=eh/\mg (gh C)=d9 (.ref a),λC=>T.cl.contains C,λC a=>T.xs.contains C=eh/\mg (gh C)=d9 (.ref a)⟩
 have hF:∀f x,(f,x)∈T.fs->∃fa fd,Fun (ZB g) (gh f) (gh f) x.st fa fd/\mg (gh f)=d9 (.ref fa):=λf x hx=>by obtain⟨fa,fd,F,z⟩:=Pc<|ģ.mp e1 (f,x) hx;exact⟨fa,fd,F,mg_of X G z⟩
 have aD:∀C a,i.cl C a->makesIn (ZB g) a=eh/\keepIn (ZB g) (.ref a)=eh/\Cls (ZB g) a/\(∀f∈T.fl,NoAttr (ZB g) a<|gh f)/\Snd.IC (ZB g) a:=λC a ⟨hc,hm⟩=>by obtain⟨b,z,q⟩:=Hv<|ģ.mp e4 C<|Ą.mp hc;have:=mg_of X G z;rw[hm]at this;cases this;exact q
 have hms:∀y,y∈T.ms->∃a f,Snd.Mst i mg y a f/\Cls i.K a:=λy hy=>by obtain⟨a,f,fd,z,F,M,A⟩:=Qh<|ģ.mp e3 y hy;exact⟨a,f,⟨mg_of X G z,⟨fd,F,F.binds<|tab_bm y hy⟩,M⟩,A⟩
 have hxc:∀C a,i.xc C a->excIn (ZB g) a [.type "ValueError",.type "Exception",.type "BaseException",.type "object"] "ValueError.__new__" = eh/\XCls (ZB g) a/\kitOne (ZB g) (.ref a) (.type "ValueError")=d9 eh/\
   ∀T'∈"ShutError" :: T.xs,∃D,nsIn (ZB g) mainGlobals (gh T')=d9 (d9<|.ref D)/\kitOne (ZB g) (.ref a) (.ref D)=d9 (O.fO C T')/\exmOne (ZB g) (.ref a) (.ref D)=d9 (O.fO C T'):=λC a ⟨hc,hm⟩=>by
  obtain⟨b,z,q⟩:=EF<|ģ.mp e5 C<|Ą.mp hc;have:=mg_of X G z;rw[hm]at this;cases this;exact q
 have mod:∀base:Heap,(ZB g).In base->Snd.Modu mg base i T:=λbase Xb =>
  { bl:=λy hy=>by
      have:=e2.2 y hy
      unfold HI at this
      split at this
      . rename_i z;exact mg_none_of X G z
      . cases this
    cst:=λy v hv=>by
      have:=e2.1 _<|JI hv
      unfold Ew at this
      split at this
      . rename_i u z
        obtain⟨x,r,rv⟩:=CJ 4 u v this
        exact⟨u,x,mg_of X G z,r,rv⟩
      . cases this
    A:=⟨λC a _ z=>(aD C a z).2.2.1,λC a z=>(aD C a z).2.2.2.2,λC a b z y=>by have:=z.2.symm.trans y.2;cases this;rfl⟩
    F:=λf hf=>⟨λC a z=>(aD C a z).2.2.2.1 f<|Ą.mp hf⟩
    cl:=λC a z=>z.2
    mkc:=λC hC=>by
      obtain⟨a,z,_⟩:=Hv<|ģ.mp e4 C<|Ą.mp hC
      have hi:i.cl C a:=⟨hC,mg_of X G z⟩
      obtain⟨y,hy,e⟩:=ae.mp<|ü.mp de C<|Ą.mp hC
      rw[bAq]at e
      obtain⟨b,f,S,A⟩:=hms y hy
      have h1:=eq_of_beq e.1
      have h2:=eq_of_beq e.2
      have hb:=S.cl
      rw[h1,hi.2]at hb
      cases hb
      refine⟨a,y,f,hC,hi,⟨(aD C a hi).1,?_,S.at_.fn,(aD C a hi).2.1⟩,hy,h1,h2,S⟩
      have:=S.at_.at_
      rw[h2]at this
      exact this
    fs:=λf x hx=>by
      obtain⟨fa,fd,F,m⟩:=hF f x hx
      exact⟨fa,fd,_,F,m,F.binds<|tab_bd f x hx⟩
    ms:=hms
    xc:=λ_ C a z=>⟨(hxc C a z).2.1,(hxc C a z).2.2.1⟩
    rs:=λ_ C hC=>by
      obtain⟨a,z,q1,_⟩:=EF<|ģ.mp e5 C<|Ą.mp hC
      exact⟨a,⟨hC,mg_of X G z⟩,Ip Xb (mg_of X G z) q1⟩
    kn:=λų T' hT=>by
      have hT2:T'∈"ShutError" :: T.xs:=by
        rcases (Bool.or_eq_true ..).mp hT with z|z
        . exact .tail _<|Ą.mp z
        . cases eq_of_beq z;exact .head _
      obtain⟨C0,hC0⟩:=List.exists_mem_of_ne_nil _ ų
      obtain⟨a0,z0,_,_,_,q0⟩:=EF<|ģ.mp e5 C0 hC0
      obtain⟨D,zD,_⟩:=q0 T' hT2
      refine⟨D,mg_of X G zD,λC a z=>?_⟩
      obtain⟨D2,z2,k1,k2⟩:=(hxc C a z).2.2.2 T' hT2
      rw[zD]at z2
      cases z2
      exact⟨k1,λe=>by rw[k2,e]⟩ }
 obtain⟨fl,fd,F,m⟩:=hF "law" xl hlaw;have ef:=hmg.symm.trans<|hdn▸m;cases ef;refine⟨ZB g,Snd.spF i pg (k+1) "law",X,⟨fd,λs u=>?_,λbase Xb _=>?_⟩,λH a ns hl hO hS=>?_⟩
 .have B:=F.ex;obtain⟨oc,od,kV,dc,pm,an,Ϟ,ct,sl,rfl,lk,aU⟩:=B;have:=tab_bd "law" xl hlaw kV dc pm an Ϟ ct [u] (by rw[hps];rfl);rw[hps]at this;exact .of_eq this
 .have M:=mod base Xb;have:=Snd.fn_succ (i:=i) (pr:=l.prog) (wd:=w) (base:=base) (mg:=mg) (P:=pg) (n:=k) M (Snd.held_all M tab_pg tab_pm tab_ok tab_om k) F (tab_pg "law" xl hlaw)<|tab_ok "law" xl hlaw;rw[hps]at this;exact this
 .refine⟨[.scr ns],λ_=>ee,λv _=>v=.bl eh,λ_ _=>False,.cons (.scr ?_) .nil,λ_ _ e=>(by cases e),ok ns hl,?_,?_⟩
  .rcases hS with(h|⟨o,h⟩)|h
   .rcases hO a with z|⟨o,xs,z⟩
    .rw[h]at z;cases z
    .rw[h]at z;cases z
   .exact .inl ⟨o,h⟩
   .exact .inr h
  .intro v G' H' x _ _ r e;subst e;exact r.bl_inv
  .rintro cls d H' ⟨_,_,_,_,_,_,_,z⟩;exact z
end Hd
set_option maxRecDepth 20000
set_option maxHeartbeats 2000000
namespace O
local macro_rules|`(#[$x])=>`(.cons $x .nil)|`(#[$x,$y,*])=>`(.cons $x #[$y,*])
@[reducible] noncomputable def B0(P:Pg)(n:Nat)(d:Fn)(e:Env)(h:Hs)(Q:Q1)(X:XQ):Prop:=wSs (wF P n) d.body e h (λ_ g=>Q .non g) Q (λ_ _=>False) (λ_ _=>False) λ_ c g=>X c g
variable {P:Pg}{n:Nat}{a0 a1 a2 a3 a4 a5 a6 a7:Val}{h:Hs}{Q:Q1}{X:XQ}
local macro_rules|`(↑$n:num)=>`(.cst (.int $n))
local macro_rules|`(⇑$n:num)=>`(.var $n)
noncomputable abbrev Tl:Fn:={ar:=1,sz:=1,body:=#[.ret<|.and (.bi (.isi ["int"]) #[⇑0])<|.not<|.bi (.isi ["bool"]) #[⇑0]]}
noncomputable abbrev Tp:Fn:={ar:=3,sz:=3,body:=#[.ret<|.and (.call "is_whole" #[⇑0])<|.chain .le .le ⇑1 ⇑0 ⇑2]}
noncomputable abbrev VZ:Fn:={ar:=2,sz:=2,body:=#[.ite (.or (.not<|.val<|.bi (.isi ["list"]) #[⇑0])<|.not<|.val<|.bi (.isi ["list"]) #[⇑1]) #[.never] .nil,.ite (.not<|.val<|.chain .le .le ↑1 (.bi .len #[⇑0])<|.glob "MOST_BRIDGES"<|.int 10) #[.never] .nil,.ite (.val<|.cmp .gt (.bi .len #[⇑1])<|.glob "MOST_TIES"<|.int 16) #[.never] .nil,.ite (.not<|.val<|.call "are_bridges" #[⇑0]) #[.never] .nil,.ite (.not<|.val<|.bi .all #[.comp [0] 1 (.one 0) (.seq ⇑1) .yes<|.call "is_tie" #[⇑0,⇑1]]) #[.never] .nil,.ret<|.tup #[.bi .tuple #[.bi .sortedI #[⇑0]],.bi .tuple #[.comp [] 1 (.one 0) (.seq ⇑1) .yes<|.call "lesser_end_first" #[⇑0]]]]}
noncomputable abbrev Tc:Fn:={ar:=1,sz:=1,body:=#[.ite (.not<|.val<|.bi .all #[.comp [] 1 (.one 0) (.seq ⇑0) .yes<|.call "is_whole_between" #[⇑0,↑0,.glob "GREATEST_NUMBER"<|.int 999]]) #[.ret<|.cst<|.bl ei] .nil,.ret<|.cmp .eq (.bi .lenSet #[⇑0])<|.bi .len #[⇑0]]}
noncomputable abbrev Th:Fn:={ar:=2,sz:=2,body:=#[.ite (.or (.not<|.val<|.bi (.isi ["tuple"]) #[⇑0])<|.val<|.cmp .ne (.bi .len #[⇑0]) ↑3) #[.ret<|.cst<|.bl ei] .nil,.ite (.or (.not<|.val<|.call "is_whole" #[.idx ⇑0 ↑0])<|.not<|.val<|.call "is_whole" #[.idx ⇑0 ↑1]) #[.ret<|.cst<|.bl ei] .nil,.ite (.or (.val<|.cmp .notin (.idx ⇑0 ↑0) ⇑1)<|.val<|.cmp .notin (.idx ⇑0 ↑1) ⇑1) #[.ret<|.cst<|.bl ei] .nil,.ret<|.and (.cmp .ne (.idx ⇑0 ↑0)<|.idx ⇑0 ↑1)<|.call "is_whole_between" #[.idx ⇑0 ↑2,↑1,.glob "GREATEST_COST"<|.int 1000]]}
noncomputable abbrev T9:Fn:={ar:=1,sz:=1,body:=#[.ret<|.tup #[.bi .min2 #[.idx ⇑0 ↑0,.idx ⇑0 ↑1],.bi .max2 #[.idx ⇑0 ↑0,.idx ⇑0 ↑1],.idx ⇑0 ↑2]]}
noncomputable abbrev VY:Fn:={ar:=2,sz:=5,body:=#[.set (.one 2)<|.lst .nil,.for (.many [3,4]) (.enum<|.idx ⇑0 ↑1) #[.ite (.val<|.cmp .isin ⇑1<|.slc ⇑4 .none<|.some ↑2) #[.expr<|.bm .append ⇑2 #[.tup #[⇑3,.call "far_end" #[⇑4,⇑1],.idx ⇑4 ↑2]]] .nil],.ret ⇑2]}
noncomputable abbrev Te:Fn:={ar:=2,sz:=2,body:=#[.ret<|.ife (.val<|.cmp .eq (.idx ⇑0 ↑0) ⇑1) (.idx ⇑0 ↑1)<|.idx ⇑0 ↑0]}
noncomputable abbrev VW:Fn:={ar:=1,sz:=5,body:=#[.set (.one 1)<|.lst .nil,.for (.many [2,3]) (.enum<|.idx (.meth "Yard" "net" ⇑0 .nil) ↑1) #[.set (.one 4)<|.meth "Yard" "ends" ⇑0 #[⇑2],.ite (.val<|.cmp .eq ⇑4<|.tup #[.cst<|.str "child",.cst<|.str "parent"]) #[.expr<|.bm .append ⇑1 #[.tup #[⇑2,.idx ⇑3 ↑0,.idx ⇑3 ↑1]]] #[.ite (.val<|.cmp .eq ⇑4<|.tup #[.cst<|.str "parent",.cst<|.str "child"]) #[.expr<|.bm .append ⇑1 #[.tup #[⇑2,.idx ⇑3 ↑1,.idx ⇑3 ↑0]]] .nil]],.ret ⇑1]}
noncomputable abbrev VM:Fn:={ar:=1,sz:=1,body:=#[.ret<|.comp [] 2 (.many [0,1]) (.seq<|.meth "Yard" "labels" ⇑0 .nil) .yes<|.tup #[⇑0,.idx ⇑1 ↑0,.idx ⇑1 ↑1]]}
noncomputable abbrev Tg:Fn:={ar:=3,sz:=9,body:=#[.ite (.or (.not<|.val<|.bi (.isi ["list"]) #[⇑2])<|.not<|.val<|.bi .all #[.comp [0] 1 (.one 0) (.seq ⇑2) .yes<|.call "is_rank" #[⇑1,⇑0]]) #[.ret<|.cst<|.bl ei] .nil,.set (.one 3)<|.comp [] 1 (.one 0) (.seq ⇑2) .yes<|.idx ⇑0 ↑0,.ite (.val<|.cmp .ne ⇑3<|.bi .sortedSet #[⇑3]) #[.ret<|.cst<|.bl ei] .nil,.set (.one 4)<|.comp [] 3 (.many [0,1,2]) (.seq ⇑1) .yes ⇑1,.ite (.val<|.cmp .ne (.bi .lenSet #[⇑4])<|.bi .len #[⇑4]) #[.ret<|.cst<|.bl ei] .nil,.set (.one 5)<|.dct .nil,.for (.many [6,7,8]) (.seq ⇑2) #[.setIdx ⇑5 ⇑6<|.tup #[⇑7,⇑8]],.ret<|.bi .all #[.comp [0,5] 1 (.one 0) (.seq ⇑1) .yes<|.call "is_way_ranked" #[⇑1,⇑0,⇑2]]]}
noncomputable abbrev Tf:Fn:={ar:=2,sz:=2,body:=#[.ite (.or (.not<|.val<|.bi (.isi ["tuple"]) #[⇑1])<|.val<|.cmp .ne (.bi .len #[⇑1]) ↑3) #[.ret<|.cst<|.bl ei] .nil,.ret<|.and (.bi .all #[.comp [] 1 (.one 0) (.seq ⇑1) .yes<|.call "is_whole" #[⇑0]])<|.cmp .isin (.idx ⇑1 ↑0)<|.idx ⇑0 ↑0]}
noncomputable abbrev Ti:Fn:={ar:=3,sz:=8,body:=#[.set (.many [3,4,5]) ⇑1,.ite (.or (.val<|.cmp .notin ⇑4 ⇑2)<|.val<|.cmp .notin ⇑5 ⇑2) #[.ret<|.cst<|.bl ei] .nil,.set (.many [6,7])<|.idx ⇑2 ⇑5,.ret<|.cmp .eq (.idx ⇑2 ⇑4)<|.tup #[⇑6,.bin .add ⇑7<|.idx (.idx (.idx ⇑0 ↑1) ⇑3) ↑2]]}
noncomputable abbrev VO:Fn:={ar:=2,sz:=8,body:=#[.set (.one 2)<|.lst .nil,.for (.one 3) (.seq ⇑1) #[.set (.many [4,5,6])<|.idx (.idx ⇑0 ↑1) ⇑3,.set (.one 7)<|.call "ties_between" #[⇑0,⇑2,⇑5,⇑4],.ite (.val<|.cmp .isnot ⇑7<|.cst .non) #[.ret<|.bin .add (.lst #[⇑3]) ⇑7] .nil,.expr<|.bm .append ⇑2 #[⇑3]],.ret<|.cst .non]}
noncomputable abbrev VU:Fn:={ar:=4,sz:=9,body:=#[.set (.one 4)<|.dct #[⇑2,.lst .nil],.set (.one 5)<|.lst #[⇑2],.whl (.val ⇑5) #[.set (.one 6)<|.bm .popAt ⇑5 #[↑0],.for (.one 7) (.seq ⇑1) #[.ite (.val<|.cmp .isin ⇑6<|.slc (.idx (.idx ⇑0 ↑1) ⇑7) .none<|.some ↑2) #[.set (.one 8)<|.call "far_end" #[.idx (.idx ⇑0 ↑1) ⇑7,⇑6],.ite (.val<|.cmp .notin ⇑8 ⇑4) #[.setIdx ⇑4 ⇑8<|.bin .add (.idx ⇑4 ⇑6)<|.lst #[⇑7],.expr<|.bm .append ⇑5 #[⇑8]] .nil] .nil]],.ret<|.bm .dget ⇑4 #[⇑3]]}
noncomputable abbrev Td:Fn:={ar:=2,sz:=3,body:=#[.set (.one 2)<|.comp [0] 1 (.one 0) (.seq ⇑1) (.val<|.cmp .lt (.idx ⇑0 ↑0) ⇑1) ⇑0,.ret<|.bi .minD #[⇑2]]}
noncomputable abbrev VJ:Fn:={ar:=1,sz:=4,body:=#[.for (.many [1,2]) (.seq<|.meth "Yard" "labels" ⇑0 .nil) #[.expr<|.meth "Yard" "deed" ⇑0 #[.tup #[.cst<|.str "tick",⇑1]]],.for (.one 3) (.seq<|.meth "Yard" "road" ⇑0 .nil) #[.expr<|.meth "Yard" "deed" ⇑0 #[.tup #[.cst<|.str "come",↑0]]]]}
noncomputable abbrev VX:Fn:={ar:=2,sz:=2,body:=#[.ret<|.cmp .gt (.idx ⇑0<|.glob "NUMBER"<|.int 0)<|.idx ⇑1<|.glob "NUMBER"<|.int 0]}
noncomputable abbrev S8:Fn:={ar:=5,sz:=8,body:=#[.setFld ⇑0 "number" ⇑1,.setFld ⇑0 "life" ⇑2,.setFld ⇑0 "age_let_go" ⇑4,.setFld ⇑0 "ties_by_place"<|.dct .nil,.for (.many [5,6,7]) (.seq ⇑3) #[.setIdx (.fld ⇑0 "ties_by_place") ⇑5<|.tup #[⇑6,⇑7]],.setFld ⇑0 "held_by_place"<|.dct .nil,.setFld ⇑0 "label_now"<|.tup #[⇑1,↑0,.cst .non,.cst .non],.setFld ⇑0 "version" ↑0,.setFld ⇑0 "ticks_had" ↑0]}
noncomputable abbrev TY:Fn:={ar:=1,sz:=1,body:=#[.ret<|.fld ⇑0 "label_now"]}
noncomputable abbrev TM:Fn:={ar:=1,sz:=1,body:=#[.ret<|.tup #[.fld ⇑0 "life",.fld ⇑0 "version"]]}
noncomputable abbrev S7:Fn:={ar:=2,sz:=2,body:=#[.ret<|.bm .dget (.fld ⇑0 "held_by_place") #[⇑1]]}
noncomputable abbrev TB:Fn:={ar:=4,sz:=4,body:=#[.ite (.val<|.cmp .notin ⇑1<|.fld ⇑0 "ties_by_place") #[.setIdx (.fld ⇑0 "ties_by_place") ⇑1<|.tup #[⇑2,⇑3]] .nil]}
noncomputable abbrev S4:Fn:={ar:=2,sz:=2,body:=#[.expr<|.bm .dpopD (.fld ⇑0 "ties_by_place") #[⇑1,.cst .non],.expr<|.bm .dpopD (.fld ⇑0 "held_by_place") #[⇑1,.cst .non]]}
noncomputable abbrev S6:Fn:={ar:=3,sz:=4,body:=#[.ite (.val<|.cmp .notin ⇑1<|.fld ⇑0 "ties_by_place") #[.retN] .nil,.set (.one 3)<|.meth "Bridge" "held" ⇑0 #[⇑1],.ite (.or (.val<|.cmp .is ⇑3<|.cst .non)<|.val<|.call "newer" #[⇑2,.idx ⇑3 ↑0]) #[.setIdx (.fld ⇑0 "held_by_place") ⇑1<|.tup #[⇑2,.idx ⇑2<|.glob "AGE"<|.int 4]] .nil]}
noncomputable abbrev TU:Fn:={ar:=1,sz:=2,body:=#[.expr<|.meth "Bridge" "let_grow_older" ⇑0 .nil,.expr<|.meth "Bridge" "take_label" ⇑0 #[.meth "Bridge" "reckon_label" ⇑0 .nil],.set (.one 1)<|.comp [0] 1 (.one 0) (.seq<|.bi .sortedI #[.fld ⇑0 "ties_by_place"]) .yes<|.tup #[⇑0,.meth "Bridge" "letter_over" ⇑1 #[⇑0]],.augFld ⇑0 "ticks_had" .add 1,.ret ⇑1]}
noncomputable abbrev TX:Fn:={ar:=1,sz:=4,body:=#[.set (.one 1)<|.dct .nil,.forI ei (.many [2,3]) (.fld ⇑0 "held_by_place") #[.ite (.val<|.cmp .lt (.bin .add (.idx ⇑3 ↑1) ↑1)<|.fld ⇑0 "age_let_go") #[.setIdx ⇑1 ⇑2<|.tup #[.idx ⇑3 ↑0,.bin .add (.idx ⇑3 ↑1) ↑1]] .nil],.setFld ⇑0 "held_by_place" ⇑1]}
noncomputable abbrev TK:Fn:={ar:=1,sz:=8,body:=#[.set (.one 1)<|.lst .nil,.forI ei (.many [2,3]) (.fld ⇑0 "held_by_place") #[.set (.many [4,5])<|.idx (.fld ⇑0 "ties_by_place") ⇑2,.expr<|.bm .append ⇑1 #[.tup #[.idx (.idx ⇑3 ↑0)<|.glob "ROOT"<|.int 2,.bin .add (.idx (.idx ⇑3 ↑0)<|.glob "COST"<|.int 3) ⇑5,⇑4,⇑2]]],.set (.one 6)<|.call "best_offer" #[.fld ⇑0 "number",⇑1],.ite (.val<|.cmp .is ⇑6<|.cst .non) #[.ret<|.tup #[.fld ⇑0 "number",↑0,.cst .non,.cst .non]] .nil,.set (.many [7,5,4,2]) ⇑6,.ret<|.tup #[⇑7,⇑5,⇑2,.idx (.idx (.idx (.fld ⇑0 "held_by_place") ⇑2) ↑0)<|.glob "STAMP"<|.int 1]]}
noncomputable abbrev TN:Fn:={ar:=2,sz:=2,body:=#[.ite (.val<|.cmp .ne ⇑1<|.fld ⇑0 "label_now") #[.setFld ⇑0 "label_now" ⇑1,.augFld ⇑0 "version" .add 1] .nil]}
noncomputable abbrev TW:Fn:={ar:=2,sz:=8,body:=#[.set (.many [2,3,4,5])<|.fld ⇑0 "label_now",.set (.one 6)<|.ife (.val<|.cmp .is ⇑4<|.cst .non) ↑0<|.bin .add (.idx (.idx (.fld ⇑0 "held_by_place") ⇑4) ↑1) ↑1,.set (.one 7)<|.tup #[.tup #[.fld ⇑0 "life",.fld ⇑0 "ticks_had"],.meth "Bridge" "stamp" ⇑0 .nil,⇑2,⇑3,⇑6],.ite (.val<|.cmp .eq ⇑1 ⇑4) #[.ret<|.bin .add ⇑7<|.tup #[⇑5,.cst .non]] .nil,.ite (.val<|.meth "Bridge" "is_rested_on" ⇑0 #[⇑1]) #[.ret<|.bin .add ⇑7<|.tup #[.cst .non,.idx (.idx (.idx (.fld ⇑0 "held_by_place") ⇑1) ↑0)<|.glob "STAMP"<|.int 1]] .nil,.ret<|.bin .add ⇑7<|.tup #[.cst .non,.cst .non]]}
noncomputable abbrev TZ:Fn:={ar:=2,sz:=3,body:=#[.set (.one 2)<|.meth "Bridge" "held" ⇑0 #[⇑1],.ret<|.and (.cmp .isnot ⇑2<|.cst .non)<|.cmp .eq (.idx (.idx ⇑2 ↑0)<|.glob "RESTS"<|.int 5)<|.meth "Bridge" "stamp" ⇑0 .nil]}
noncomputable abbrev S9:Fn:={ar:=2,sz:=3,body:=#[.set (.one 2)<|.meth "Bridge" "held" ⇑0 #[⇑1],.ite (.or (.val<|.cmp .is ⇑2<|.cst .non)<|.val<|.cmp .ne (.idx (.idx ⇑2 ↑0)<|.glob "AGREES"<|.int 6)<|.meth "Bridge" "stamp" ⇑0 .nil) #[.ret<|.cst<|.bl ei] .nil,.ret<|.cmp .eq (.idx (.idx ⇑2 ↑0)<|.glob "STAMP"<|.int 1)<|.idx (.fld ⇑0 "label_now") ↑3]}
noncomputable abbrev S5:Fn:={ar:=2,sz:=2,body:=#[.ite (.val<|.cmp .notin ⇑1<|.fld ⇑0 "ties_by_place") #[.ret<|.cst<|.str "down"] .nil,.ite (.val<|.cmp .eq ⇑1<|.idx (.fld ⇑0 "label_now") ↑2) #[.ret<|.ife (.val<|.meth "Bridge" "is_agreed_to" ⇑0 #[⇑1]) (.cst<|.str "child")<|.cst<|.str "shut"] .nil,.ret<|.ife (.val<|.meth "Bridge" "is_rested_on" ⇑0 #[⇑1]) (.cst<|.str "parent")<|.cst<|.str "shut"]}
noncomputable abbrev Tw:Fn:={ar:=3,sz:=4,body:=#[.setFld ⇑0 "net_made_of" ⇑1,.setFld ⇑0 "greatest_age" ⇑2,.setFld ⇑0 "lives"<|.dct .nil,.setFld ⇑0 "standing"<|.dct .nil,.setFld ⇑0 "ties_fallen"<|.dct .nil,.setFld ⇑0 "letters_on_road"<|.lst .nil,.for (.one 3) (.seq<|.idx ⇑1 ↑0) #[.setIdx (.fld ⇑0 "lives") ⇑3 ↑0,.setIdx (.fld ⇑0 "standing") ⇑3<|.make "Bridge" #[⇑3,↑0,.call "neighbours" #[⇑1,⇑3],⇑2]]]}
noncomputable abbrev Tk:Fn:={ar:=1,sz:=1,body:=#[.ret<|.fld ⇑0 "net_made_of"]}
noncomputable abbrev Tm:Fn:={ar:=1,sz:=1,body:=#[.ret<|.bi .list #[.fld ⇑0 "letters_on_road"]]}
noncomputable abbrev TL:Fn:={ar:=1,sz:=2,body:=#[.set (.one 1)<|.comp [0] 1 (.one 0) (.seq<|.idx (.fld ⇑0 "net_made_of") ↑0) (.val<|.cmp .notin ⇑0<|.fld ⇑1 "standing") ⇑0,.ret<|.tup #[.bi .tuple #[⇑1],.bi .tuple #[.bi .sortedI #[.fld ⇑0 "ties_fallen"]]]]}
noncomputable abbrev Tj:Fn:={ar:=1,sz:=1,body:=#[.ret<|.comp [0] 1 (.one 0) (.seq<|.bi .sortedI #[.fld ⇑0 "standing"]) .yes<|.tup #[⇑0,.meth "Bridge" "label" (.idx (.fld ⇑1 "standing") ⇑0) .nil]]}
noncomputable abbrev TR:Fn:={ar:=2,sz:=5,body:=#[.ite (.not<|.val<|.meth "Yard" "has_tie" ⇑0 #[⇑1]) #[.ret<|.tup #[.cst<|.str "down",.cst<|.str "down"]] .nil,.set (.many [2,3,4])<|.idx (.idx (.fld ⇑0 "net_made_of") ↑1) ⇑1,.ret<|.tup #[.meth "Yard" "end_at" ⇑0 #[⇑2,⇑1],.meth "Yard" "end_at" ⇑0 #[⇑3,⇑1]]]}
noncomputable abbrev TQ:Fn:={ar:=3,sz:=3,body:=#[.ite (.val<|.cmp .notin ⇑1<|.fld ⇑0 "standing") #[.ret<|.cst<|.str "down"] .nil,.ret<|.meth "Bridge" "end" (.idx (.fld ⇑0 "standing") ⇑1) #[⇑2]]}
noncomputable abbrev Tx:Fn:={ar:=2,sz:=2,body:=#[.ret<|.chain .le .lt ↑0 ⇑1<|.bi .len #[.idx (.fld ⇑0 "net_made_of") ↑1]]}
noncomputable abbrev TH:Fn:={ar:=2,sz:=4,body:=#[.set (.many [2,3])<|.call "read_deed" #[⇑1],.ite (.val<|.cmp .eq ⇑2<|.tup #[.cst<|.str "tick"]) #[.expr<|.meth "Yard" "tick_of" ⇑0 #[⇑3]] #[.ite (.val<|.cmp .eq ⇑2<|.tup #[.cst<|.str "come"]) #[.expr<|.meth "Yard" "come" ⇑0 #[⇑3]] #[.ite (.val<|.cmp .eq ⇑2<|.tup #[.cst<|.str "lost"]) #[.expr<|.meth "Yard" "take_off" ⇑0 #[⇑3]] #[.ite (.val<|.cmp .eq ⇑2<|.tup #[.cst<|.str "fall",.cst<|.str "bridge"]) #[.expr<|.meth "Yard" "fall_of_bridge" ⇑0 #[⇑3]] #[.ite (.val<|.cmp .eq ⇑2<|.tup #[.cst<|.str "fall",.cst<|.str "tie"]) #[.expr<|.meth "Yard" "fall_of_tie" ⇑0 #[⇑3]] #[.ite (.val<|.cmp .eq ⇑2<|.tup #[.cst<|.str "back",.cst<|.str "bridge"]) #[.expr<|.meth "Yard" "back_of_bridge" ⇑0 #[⇑3]] #[.expr<|.meth "Yard" "back_of_tie" ⇑0 #[⇑3]]]]]]]]}
noncomputable abbrev Ta:Fn:={ar:=2,sz:=5,body:=#[.ite (.val<|.cmp .notin ⇑1<|.fld ⇑0 "standing") #[.never] .nil,.for (.many [2,3]) (.seq<|.meth "Bridge" "tick" (.idx (.fld ⇑0 "standing") ⇑1) .nil) #[.set (.one 4)<|.call "far_end" #[.idx (.idx (.fld ⇑0 "net_made_of") ↑1) ⇑2,⇑1],.expr<|.bm .append (.fld ⇑0 "letters_on_road") #[.tup #[⇑1,⇑4,⇑2,⇑3]]]]}
noncomputable abbrev TF:Fn:={ar:=2,sz:=6,body:=#[.set (.many [2,3,4,5])<|.meth "Yard" "take_off" ⇑0 #[⇑1],.ite (.val<|.cmp .isin ⇑3<|.fld ⇑0 "standing") #[.expr<|.meth "Bridge" "hear" (.idx (.fld ⇑0 "standing") ⇑3) #[⇑4,⇑5]] .nil]}
noncomputable abbrev Tu:Fn:={ar:=2,sz:=2,body:=#[.ite (.not<|.val<|.chain .le .lt ↑0 ⇑1<|.bi .len #[.fld ⇑0 "letters_on_road"]) #[.never] .nil,.ret<|.bm .popAt (.fld ⇑0 "letters_on_road") #[⇑1]]}
noncomputable abbrev TV:Fn:={ar:=2,sz:=2,body:=#[.ite (.val<|.cmp .notin ⇑1<|.fld ⇑0 "standing") #[.never] .nil,.expr<|.bm .dpop (.fld ⇑0 "standing") #[⇑1],.expr<|.meth "Yard" "set_ties_of" ⇑0 #[⇑1]]}
noncomputable abbrev Tz:Fn:={ar:=2,sz:=2,body:=#[.ite (.or (.not<|.val<|.meth "Yard" "has_tie" ⇑0 #[⇑1])<|.val<|.cmp .isin ⇑1<|.fld ⇑0 "ties_fallen") #[.never] .nil,.setIdx (.fld ⇑0 "ties_fallen") ⇑1<|.cst<|.bl eh,.expr<|.meth "Yard" "set_tie" ⇑0 #[⇑1]]}
noncomputable abbrev TC:Fn:={ar:=2,sz:=2,body:=#[.ite (.or (.val<|.cmp .notin ⇑1<|.fld ⇑0 "lives")<|.val<|.cmp .isin ⇑1<|.fld ⇑0 "standing") #[.never] .nil,.augIdx (.fld ⇑0 "lives") ⇑1 .add 1,.setIdx (.fld ⇑0 "standing") ⇑1<|.make "Bridge" #[⇑1,.idx (.fld ⇑0 "lives") ⇑1,.lst .nil,.fld ⇑0 "greatest_age"],.expr<|.meth "Yard" "set_ties_of" ⇑0 #[⇑1]]}
noncomputable abbrev TD:Fn:={ar:=2,sz:=2,body:=#[.ite (.val<|.cmp .notin ⇑1<|.fld ⇑0 "ties_fallen") #[.never] .nil,.expr<|.bm .dpop (.fld ⇑0 "ties_fallen") #[⇑1],.expr<|.meth "Yard" "set_tie" ⇑0 #[⇑1]]}
noncomputable abbrev To:Fn:={ar:=2,sz:=5,body:=#[.for (.many [2,3,4]) (.seq<|.call "neighbours" #[.fld ⇑0 "net_made_of",⇑1]) #[.expr<|.meth "Yard" "set_tie" ⇑0 #[⇑2]]]}
noncomputable abbrev Tn:Fn:={ar:=2,sz:=8,body:=#[.set (.many [2,3,4])<|.idx (.idx (.fld ⇑0 "net_made_of") ↑1) ⇑1,.set (.one 5)<|.and (.cmp .notin ⇑1<|.fld ⇑0 "ties_fallen")<|.and (.cmp .isin ⇑2<|.fld ⇑0 "standing")<|.cmp .isin ⇑3<|.fld ⇑0 "standing",.for (.many [6,7]) (.seq<|.tup #[.tup #[⇑2,⇑3],.tup #[⇑3,⇑2]]) #[.ite (.val ⇑5) #[.expr<|.meth "Bridge" "up" (.idx (.fld ⇑0 "standing") ⇑6) #[⇑1,⇑7,⇑4]] #[.ite (.val<|.cmp .isin ⇑6<|.fld ⇑0 "standing") #[.expr<|.meth "Bridge" "down" (.idx (.fld ⇑0 "standing") ⇑6) #[⇑1]] .nil]]]}
noncomputable abbrev VN:Fn:={ar:=1,sz:=2,body:=#[.ite (.not<|.val<|.bi (.isi ["tuple"]) #[⇑0]) #[.never] .nil,.set (.one 1)<|.slc ⇑0 .none<|.some<|.neg ↑1,.ite (.or (.not<|.val<|.bi .all #[.comp [] 1 (.one 0) (.seq ⇑1) .yes<|.bi (.isi ["str"]) #[⇑0]])<|.val<|.cmp .notin ⇑1<|.glob "DEEDS"<|.tup [(.tup [(.str "tick")]),(.tup [(.str "come")]),(.tup [(.str "lost")]),(.tup [(.str "fall"),(.str "bridge")]),(.tup [(.str "fall"),(.str "tie")]),(.tup [(.str "back"),(.str "bridge")]),(.tup [(.str "back"),(.str "tie")])]) #[.never] .nil,.ite (.not<|.val<|.call "is_whole" #[.idx ⇑0<|.neg ↑1]) #[.never] .nil,.ret<|.tup #[⇑1,.idx ⇑0<|.neg ↑1]]}
noncomputable abbrev Tr:Fn:={ar:=2,sz:=2,body:=#[.ite (.val<|.cmp .lt ⇑1<|.bi .len #[⇑0]) #[.ret<|.idx ⇑0 ⇑1] .nil,.ret ↑0]}
noncomputable abbrev T4:Fn:={ar:=1,sz:=1,body:=#[.ret<|.lst #[⇑0,.bin .mod ⇑0 ↑2147483587]]}
noncomputable abbrev T5:Fn:={ar:=2,sz:=3,body:=#[.ite (.val<|.cmp .gt (.idx ⇑0 ↑0)<|.bin .pow ↑10 ↑18) #[.set (.one 2)<|.bin .mod (.idx ⇑0 ↑0) ⇑1,.setIdx ⇑0 ↑0<|.bin .fdiv (.idx ⇑0 ↑0) ⇑1,.ret ⇑2] .nil,.setIdx ⇑0 ↑1<|.bin .mod (.bin .add (.bin .add (.bin .mul (.idx ⇑0 ↑1)<|.idx ⇑0 ↑1)<|.bin .mul ↑69621<|.idx ⇑0 ↑1) ↑12345) ↑2147483587,.ret<|.bin .mod (.bin .fdiv (.idx ⇑0 ↑1) ↑8) ⇑1]}
noncomputable abbrev T0:Fn:={ar:=1,sz:=9,body:=#[.set (.one 1)<|.bin .add ↑1<|.call "_law_take" #[⇑0,↑6],.set (.one 2)<|.idx (.lst #[↑1,↑3,↑10,↑100])<|.call "_law_take" #[⇑0,↑4],.set (.one 4)<|.comp [0,2] 1 (.one 0) (.range ⇑1) .yes<|.bin .add (.bin .mul ⇑2<|.bin .add ⇑0<|.call "_law_take" #[⇑1,↑2])<|.idx (.lst #[↑0,↑7])<|.bin .fdiv ⇑2 ↑100,.set (.one 4)<|.bi .sortedSet #[⇑4],.set (.one 5)<|.lst .nil,.for (.one 3) (.range<|.call "_law_take" #[⇑0,↑10]) #[.set (.one 6)<|.idx ⇑4<|.call "_law_take" #[⇑0,.bi .len #[⇑4]],.set (.one 7)<|.idx ⇑4<|.call "_law_take" #[⇑0,.bi .len #[⇑4]],.set (.one 8)<|.idx (.lst #[↑1,↑1,↑2,.bin .add ↑1<|.call "_law_take" #[⇑0,↑4],.bin .add ↑1<|.call "_law_take" #[⇑0,↑1000]])<|.call "_law_take" #[⇑0,↑5],.ite (.val<|.cmp .ne ⇑6 ⇑7) #[.expr<|.bm .append ⇑5 #[.tup #[⇑6,⇑7,⇑8]]] .nil],.for (.one 3) (.range2 ↑1<|.bi .len #[⇑4]) #[.ite (.val<|.cmp .gt (.call "_law_take" #[⇑0,↑4]) ↑0) #[.expr<|.bm .append ⇑5 #[.tup #[.idx ⇑4<|.call "_law_take" #[⇑0,⇑3],.idx ⇑4 ⇑3,.bin .add ↑1<|.call "_law_take" #[⇑0,↑3]]]] .nil],.ret<|.call "make_net" #[⇑4,⇑5]]}
noncomputable abbrev T7:Fn:={ar:=2,sz:=2,body:=#[.ret<|.comp [1] 1 (.one 0) (.seq<|.idx ⇑0 ↑0) (.val<|.cmp .notin ⇑0<|.idx ⇑1 ↑0) ⇑0]}
noncomputable abbrev T6:Fn:={ar:=3,sz:=5,body:=#[.set (.one 3)<|.call "_law_take" #[⇑0,.bi .max2 #[↑1,.bi .len #[.idx ⇑1 ↑1]]],.set (.one 4)<|.idx (.idx ⇑1 ↑0)<|.call "_law_take" #[⇑0,.bi .len #[.idx ⇑1 ↑0]],.ite (.and (.val<|.cmp .eq (.call "_law_take" #[⇑0,↑2]) ↑0)<|.val<|.cmp .ne (.idx ⇑1 ↑1)<|.tup .nil) #[.ret<|.tup #[.idx (.lst #[.cst<|.str "fall",.cst<|.str "back"])<|.bi .int #[.cmp .isin ⇑3<|.idx ⇑2 ↑1],.cst<|.str "tie",⇑3]] .nil,.ret<|.tup #[.idx (.lst #[.cst<|.str "fall",.cst<|.str "back"])<|.bi .int #[.cmp .isin ⇑4<|.idx ⇑2 ↑0],.cst<|.str "bridge",⇑4]]}
noncomputable abbrev Tv:Fn:={ar:=3,sz:=8,body:=#[.set (.one 3)<|.bi .len #[.meth "Yard" "road" ⇑1 .nil],.set (.one 4)<|.meth "Yard" "down" ⇑1 .nil,.set (.one 5)<|.call "_law_ups" #[⇑2,⇑4],.set (.one 6)<|.call "_law_take" #[⇑0,↑14],.ite (.or (.val<|.cmp .eq ⇑6 ↑13)<|.val<|.cmp .eqE ⇑5<|.lst .nil) #[.ret<|.call "_law_turned" #[⇑0,⇑2,⇑4]] .nil,.ite (.or (.val<|.cmp .lt ⇑6 ↑5)<|.val<|.cmp .eq ⇑3 ↑0) #[.ret<|.tup #[.cst<|.str "tick",.idx ⇑5<|.call "_law_take" #[⇑0,.bi .len #[⇑5]]]] .nil,.set (.one 7)<|.idx (.lst #[↑0,↑0,.bin .sub ⇑3 ↑1,.call "_law_take" #[⇑0,⇑3]])<|.call "_law_take" #[⇑0,↑4],.ret<|.idx (.lst #[.tup #[.cst<|.str "come",⇑7],.tup #[.cst<|.str "lost",⇑7]])<|.bi .int #[.cmp .eq ⇑6 ↑12]]}
noncomputable abbrev T8:Fn:={ar:=2,sz:=6,body:=#[.set (.one 2)<|.lst .nil,.for (.many [3,4]) (.enum<|.idx ⇑1 ↑1) #[.set (.one 5)<|.meth "Yard" "ends" ⇑0 #[⇑3],.ite (.and (.val<|.cmp .eq (.idx ⇑5 ↑0)<|.cst<|.str "child")<|.val<|.cmp .eq (.idx ⇑5 ↑1)<|.cst<|.str "parent") #[.expr<|.bm .append ⇑2 #[.tup #[⇑3,.idx ⇑4 ↑0,.idx ⇑4 ↑1]]] .nil,.ite (.and (.val<|.cmp .eq (.idx ⇑5 ↑0)<|.cst<|.str "parent")<|.val<|.cmp .eq (.idx ⇑5 ↑1)<|.cst<|.str "child") #[.expr<|.bm .append ⇑2 #[.tup #[⇑3,.idx ⇑4 ↑1,.idx ⇑4 ↑0]]] .nil],.ret ⇑2]}
noncomputable abbrev T3:Fn:={ar:=1,sz:=8,body:=#[.set (.one 1)<|.dct .nil,.for (.many [2,3,4]) (.seq ⇑0) #[.set (.one 5)<|.bm .setdefault ⇑1 #[⇑3,⇑3],.set (.one 6)<|.bm .setdefault ⇑1 #[⇑4,⇑4],.ite (.val<|.cmp .eq ⇑5 ⇑6) #[.ret<|.cst<|.bl ei] .nil,.for (.one 7) (.seq<|.bi .listD #[⇑1]) #[.ite (.val<|.cmp .eq (.idx ⇑1 ⇑7) ⇑5) #[.setIdx ⇑1 ⇑7 ⇑6] .nil]],.ret<|.cst<|.bl eh]}
noncomputable abbrev T1:Fn:={ar:=2,sz:=7,body:=#[.set (.one 2)<|.call "_law_ways" #[⇑0,⇑1],.set (.one 3)<|.bi .dict #[.meth "Yard" "labels" ⇑0 .nil],.for (.many [4,5,6]) (.seq ⇑2) #[.ite (.or (.val<|.cmp .notin ⇑5 ⇑3)<|.val<|.cmp .notin ⇑6 ⇑3) #[.ret<|.cst<|.bl ei] .nil,.ite (.or (.val<|.cmp .ne (.idx (.idx ⇑3 ⇑5) ↑0)<|.idx (.idx ⇑3 ⇑6) ↑0)<|.val<|.cmp .ne (.idx (.idx ⇑3 ⇑5) ↑1)<|.bin .add (.idx (.idx ⇑3 ⇑6) ↑1)<|.idx (.idx (.idx ⇑1 ↑1) ⇑4) ↑2) #[.ret<|.cst<|.bl ei] .nil],.ite (.or (.not<|.val<|.call "_law_ring_free" #[⇑2])<|.or (.val<|.cmp .ne (.call "open_ways" #[⇑0]) ⇑2)<|.val<|.cmp .lt (.bi .lenSet #[.comp [] 1 (.one 0) (.seq ⇑2) .yes<|.idx ⇑0 ↑1])<|.bi .len #[⇑2]) #[.ret<|.cst<|.bl ei] .nil,.ite (.val<|.cmp .ntT (.call "is_ranked" #[⇑1,⇑2,.call "rank_paper" #[⇑0]])<|.cst<|.bl eh) #[.ret<|.cst<|.bl ei] .nil,.ret<|.cmp .is (.call "ring_of" #[⇑1,.comp [] 1 (.one 0) (.seq ⇑2) .yes<|.idx ⇑0 ↑0])<|.cst .non]}
noncomputable abbrev Tq:Fn:={ar:=1,sz:=6,body:=#[.set (.one 1)<|.call "_law_row" #[.call "_law_cell_at" #[⇑0,↑0]],.set (.one 2)<|.call "_law_net" #[⇑1],.set (.one 3)<|.make "Yard" #[⇑2,.bin .add ↑4<|.call "_law_take" #[⇑1,↑37]],.for (.one 4) (.seq<|.slc ⇑0 (.some ↑1)<|.some ↑63) #[.set (.one 1)<|.call "_law_row" #[⇑4],.ite (.val<|.cmp .eq (.call "_law_take" #[⇑1,↑4]) ↑0) #[.expr<|.call "quiet_round" #[⇑3]] .nil,.for (.one 5) (.range<|.call "_law_take" #[⇑1,↑6]) #[.expr<|.meth "Yard" "deed" ⇑3 #[.call "_law_drawn" #[⇑1,⇑3,⇑2]],.ite (.not<|.val<|.call "_law_right" #[⇑3,⇑2]) #[.ret<|.cst<|.bl ei] .nil]],.ret<|.call "_law_right" #[⇑3,⇑2]]}
class Al(P:Pg):Prop where
 c0:P "is_whole" = d9 Tl
 c1:P "is_whole_between" = d9 Tp
 c2:P "make_net" = d9 VZ
 c3:P "are_bridges" = d9 Tc
 c4:P "is_tie" = d9 Th
 c5:P "lesser_end_first" = d9 T9
 c6:P "neighbours" = d9 VY
 c7:P "far_end" = d9 Te
 c8:P "open_ways" = d9 VW
 c9:P "rank_paper" = d9 VM
 c10:P "is_ranked" = d9 Tg
 c11:P "is_rank" = d9 Tf
 c12:P "is_way_ranked" = d9 Ti
 c13:P "ring_of" = d9 VO
 c14:P "ties_between" = d9 VU
 c15:P "best_offer" = d9 Td
 c16:P "quiet_round" = d9 VJ
 c17:P "newer" = d9 VX
 c18:P "Bridge.__init__" = d9 S8
 c19:P "Bridge.label" = d9 TY
 c20:P "Bridge.stamp" = d9 TM
 c21:P "Bridge.held" = d9 S7
 c22:P "Bridge.up" = d9 TB
 c23:P "Bridge.down" = d9 S4
 c24:P "Bridge.hear" = d9 S6
 c25:P "Bridge.tick" = d9 TU
 c26:P "Bridge.let_grow_older" = d9 TX
 c27:P "Bridge.reckon_label" = d9 TK
 c28:P "Bridge.take_label" = d9 TN
 c29:P "Bridge.letter_over" = d9 TW
 c30:P "Bridge.is_rested_on" = d9 TZ
 c31:P "Bridge.is_agreed_to" = d9 S9
 c32:P "Bridge.end" = d9 S5
 c33:P "Yard.__init__" = d9 Tw
 c34:P "Yard.net" = d9 Tk
 c35:P "Yard.road" = d9 Tm
 c36:P "Yard.down" = d9 TL
 c37:P "Yard.labels" = d9 Tj
 c38:P "Yard.ends" = d9 TR
 c39:P "Yard.end_at" = d9 TQ
 c40:P "Yard.has_tie" = d9 Tx
 c41:P "Yard.deed" = d9 TH
 c42:P "Yard.tick_of" = d9 Ta
 c43:P "Yard.come" = d9 TF
 c44:P "Yard.take_off" = d9 Tu
 c45:P "Yard.fall_of_bridge" = d9 TV
 c46:P "Yard.fall_of_tie" = d9 Tz
 c47:P "Yard.back_of_bridge" = d9 TC
 c48:P "Yard.back_of_tie" = d9 TD
 c49:P "Yard.set_ties_of" = d9 To
 c50:P "Yard.set_tie" = d9 Tn
 c51:P "read_deed" = d9 VN
 c52:P "_law_cell_at" = d9 Tr
 c53:P "_law_row" = d9 T4
 c54:P "_law_take" = d9 T5
 c55:P "_law_net" = d9 T0
 c56:P "_law_ups" = d9 T7
 c57:P "_law_turned" = d9 T6
 c58:P "_law_drawn" = d9 Tv
 c59:P "_law_ways" = d9 T8
 c60:P "_law_ring_free" = d9 T3
 c61:P "_law_right" = d9 T1
 c62:P "law" = d9 Tq
set_option hygiene false in
local macro_rules|`(#check $r:ident $c:ident $d:ident $s:str $a:num $z:num)=>do
 let v:=(Array.range a.getNat).map λi=>Lean.mkIdent (.mkSimple s!"a{i}")
 let e<-(Array.range z.getNat).mapM λi=>if i<a.getNat then `(d9 $(v[i]!))else`(ee)
 `(theorem $r [Al P](q:B0 P n $d [$e,*] h Q X):wF P (n+1) $s [$v,*] h Q X:=Zb $c rfl q)
#check X3 Al.c0 Tl "is_whole" 1 1
#check XY Al.c1 Tp "is_whole_between" 3 3
#check Uc Al.c2 VZ "make_net" 2 2
#check Kr Al.c3 Tc "are_bridges" 1 1
#check Dq Al.c4 Th "is_tie" 2 2
#check X0 Al.c5 T9 "lesser_end_first" 1 1
#check Ni Al.c6 VY "neighbours" 2 5
#check By Al.c7 Te "far_end" 2 2
#check Nl Al.c8 VW "open_ways" 1 5
#check MC Al.c9 VM "rank_paper" 1 1
#check Nr Al.c10 Tg "is_ranked" 3 9
#check Az Al.c11 Tf "is_rank" 2 2
#check WU Al.c12 Ti "is_way_ranked" 3 8
#check Ay Al.c13 VO "ring_of" 2 8
#check Js Al.c14 VU "ties_between" 4 9
#check Na Al.c15 Td "best_offer" 2 3
#check Ks Al.c16 VJ "quiet_round" 1 4
#check FY Al.c17 VX "newer" 2 2
#check Kk Al.c18 S8 "Bridge.__init__" 5 8
#check JR Al.c19 TY "Bridge.label" 1 1
#check Jq Al.c20 TM "Bridge.stamp" 1 1
#check Kn Al.c21 S7 "Bridge.held" 2 2
#check NK Al.c22 TB "Bridge.up" 4 4
#check Ki Al.c23 S4 "Bridge.down" 2 2
#check Ky Al.c24 S6 "Bridge.hear" 3 4
#check Km Al.c25 TU "Bridge.tick" 1 2
#check YG Al.c26 TX "Bridge.let_grow_older" 1 4
#check YZ Al.c27 TK "Bridge.reckon_label" 1 8
#check XD Al.c28 TN "Bridge.take_label" 2 2
#check Xj Al.c29 TW "Bridge.letter_over" 2 8
#check Y5 Al.c30 TZ "Bridge.is_rested_on" 2 3
#check Y3 Al.c31 S9 "Bridge.is_agreed_to" 2 3
#check MS Al.c32 S5 "Bridge.end" 2 2
#check NC Al.c33 Tw "Yard.__init__" 3 4
#check Ui Al.c34 Tk "Yard.net" 1 1
#check NE Al.c35 Tm "Yard.road" 1 1
#check Nv Al.c36 TL "Yard.down" 1 2
#check Kp Al.c37 Tj "Yard.labels" 1 1
#check N9 Al.c38 TR "Yard.ends" 2 5
#check Kj Al.c39 TQ "Yard.end_at" 3 3
#check Xa Al.c40 Tx "Yard.has_tie" 2 2
#check Oj Al.c41 TH "Yard.deed" 2 4
#check JX Al.c42 Ta "Yard.tick_of" 2 5
#check WN Al.c43 TF "Yard.come" 2 6
#check WS Al.c44 Tu "Yard.take_off" 2 2
#check Y4 Al.c45 TV "Yard.fall_of_bridge" 2 2
#check XT Al.c46 Tz "Yard.fall_of_tie" 2 2
#check Y6 Al.c47 TC "Yard.back_of_bridge" 2 2
#check XZ Al.c48 TD "Yard.back_of_tie" 2 2
#check XS Al.c49 To "Yard.set_ties_of" 2 5
#check Kf Al.c50 Tn "Yard.set_tie" 2 8
#check NL Al.c51 VN "read_deed" 1 2
#check Kv Al.c52 Tr "_law_cell_at" 2 2
#check Bl Al.c53 T4 "_law_row" 1 1
#check Ov Al.c54 T5 "_law_take" 2 3
#check Bz Al.c55 T0 "_law_net" 1 9
#check AX Al.c56 T7 "_law_ups" 2 2
#check M1 Al.c57 T6 "_law_turned" 3 5
#check NO Al.c58 Tv "_law_drawn" 3 8
#check OJ Al.c59 T8 "_law_ways" 2 6
#check WV Al.c60 T3 "_law_ring_free" 1 8
#check Nu Al.c61 T1 "_law_right" 2 7
#check R1 Al.c62 Tq "law" 1 6
local macro_rules|`(#[$x])=>`(.cons $x .nil)|`(#[$x,$y,*])=>`(.cons $x #[$y,*])
local macro_rules | `(tactic| walk_at "ne")=>`(tactic| first | assumption | (apply Ne.symm; assumption) | ((with_reducible apply ne_none'); (· assumption); (· walk_at "look")) | (apply Ne.symm; (with_reducible apply ne_none'); (· assumption); (· walk_at "look")))
local macro_rules | `(tactic| walk_at "look")=>`(tactic| first | assumption | with_reducible exact ez | ((with_reducible apply upd_ne'); (· walk_at "ne"); (· walk_at "look")) | ((with_reducible apply Ext.get); (· assumption); (· walk_at "look")) | ((with_reducible apply ExtB.get); (· assumption); (· walk_at "ne"); (· walk_at "look")))
local macro_rules | `(tactic| walk_at "ar")=>`(tactic| first | decide | lia | assumption | (simp only [Ë,Đ]; decide))
local macro_rules | `(tactic| walk_at "mul")=>`(tactic| first | exact .inl (.inr<|by lia) | exact .inl (.inl<|by lia) | exact .inr ⟨by decide,by decide⟩)
local macro_rules | `(tactic| walk_at "setl")=>`(tactic| first | (simp only [ŏ,π,Ι,İ,List.foldl_nil,ϧ,Ϩ]; done) | (simp only [ŏ,π,Ι,İ,List.foldl_nil,ϧ,Ϩ]; exact rfl) | exact rfl)
local macro_rules | `(tactic| walk_at "w")=>`(tactic| with_reducible conv=>whnf)
local macro_rules | `(tactic| walk_at "py1")=>do
 let a<-[`dw0,`dw,`b_add,`b_sub,`g_int,`g_bl,`g_ref,`g_tbl,`c_lt,`c_gt,`c_le,`c_eqI,`c_neI,`c_eqS,`c_isN,`c_notN,`ag_add,`ln_scr,`ln_tup,`in_bl,`mn2,`mx2,`sl_scr,`it_tup].toArray.mapM λn=>`(tactic| refine $(Lean.mkIdent n) ?_)
 let c<-[`g_tlst,`ln_lst,`tp_lst,`ls_lst,`it_lst,`dc_of].toArray.mapM λn=>`(tactic| ((with_reducible apply $(Lean.mkIdent n)); (· walk_at "look")))
 `(tactic| first
 |(with_reducible first $[| $a:tactic]*)
 |((with_reducible apply Qi);(· exact rfl))
 |((with_reducible apply Id);(· walk_at "setl"))|((with_reducible apply PD);(· (simp only[bindL,ϧ,Ϩ];exact rfl)))|((with_reducible apply b_mul);(· walk_at "mul"))|((with_reducible apply b_fdiv);(· walk_at "ar"))|((with_reducible apply b_mod);(· walk_at "ar"))|((with_reducible apply LF);(· walk_at "ar");(· simp only[Int.reduceToNat,Int.reducePow];exact rfl))|((with_reducible apply Dg);(· walk_at "look");(· walk_at "look");(· first|(simp only[af,aC,Ë,Đ];decide)|lia))|((with_reducible apply LA);(· walk_at "ar"))
 |((with_reducible apply eL);(· exact rfl))|((with_reducible apply YA);(· walk_at "look");(· exact rfl))
 |((with_reducible apply Ii);(· walk_at "look");(· exact rfl))|((with_reducible apply Yz);(· walk_at "look");(· walk_at "ar"))|((with_reducible apply Iv);(· walk_at "look");(· exact rfl))|((with_reducible apply Im);(· walk_at "look");(· exact rfl))
 |((with_reducible apply Qa);(· exact rfl))|((with_reducible apply fG);(· decide))
 | ((with_reducible apply IT);(· first | exact .inl rfl | exact .inr (.inl rfl) | simp);(· walk_at "look")) | ((with_reducible apply IY);(· first | exact rfl | simp);(· walk_at "look")) | ((with_reducible apply ZC);(· walk_at "look");(· walk_at "ar")) | (first $[| $c:tactic]*))
local macro_rules | `(tactic| fail)=>`(tactic| ((repeat walk_at "py1"); walk_at "w"))
local macro_rules | `(tactic| walk_at "p")=>`(tactic| ((repeat first | walk_at "py1" | refine fH rfl ?_ | refine fI rfl ?_); walk_at "w"))
local macro_rules | `(tactic| exists $e)=>`(tactic| (fail; refine $e ?_))
local macro_rules | `(tactic| refine' $e)=>`(tactic| (fail; refine $e))
section
variable {α:Type}(val:α->Val)
abbrev Ze(kvs:List<|Int×α):List<|Val×Val:=kvs.map λp=>(.int p.1,val p.2)
abbrev Zp(kvs:List<|Int×α)(k:Int)(v:α):List<|Int×α:=if(kvs.lookup k).isSome then kvs.map (λp=>if p.1=k then(k,v)else p)else kvs++[(k,v)]
abbrev Zs(kvs:List<|Int×α)(k:Int):List<|Int×α:=kvs.filter λp=>gg (p.1≠k)
variable {val}
def WY(a b:Int):(Val.int a==Val.int b)=gg (a=b):=by
 by_cases e:a=b
 .subst e;simp
 .rw[f9 e];exact beq_eq_false_iff_ne.mpr λz=>e (by injection z)
def ZA(kvs:List<|Int×α)(k:Int):fc (Ze val kvs) (.int k)=(kvs.lookup k).map val:=by
 induction kvs with
 |nil=>rfl
 |cons p r ih =>
  unfold fc Ze at ih ⊢;rw[Ñ,Ě,î,WY];by_cases e:p.1=k
  .have:(k==p.1)=eh:=by simp[e]
   simp[e]
  .have h2:(k==p.1)=ei:=by simpa using λz=>e z.symm
   rw[f9 e,h2];exact ih
def Yq(kvs:List<|Int×α)(k:Int):fe (Ze val kvs) (.int k)=(kvs.lookup k).isSome:=by
 induction kvs with
 |nil=>rfl
 |cons p r ih =>
  unfold fe Ze at ih ⊢;rw[Ñ,Ķ,î,WY];by_cases e:p.1=k
  .simp[e]
  .have h2:(k==p.1)=ei:=by simpa using λz=>e z.symm
   rw[f9 e,h2];exact ih
def ZG(kvs:List<|Int×α)(k:Int)(v:α):ff (Ze val kvs) (.int k) (val v)=Ze val (Zp kvs k v):=by
 unfold ff Zp;rw[Yq];split
 .unfold Ze;rw[ê,ê];refine ċ λp _=>?_;simp only[bJ,WY];by_cases e:p.1=k
  .simp[e]
  .simp[e]
 .unfold Ze;rw[Ø];rfl
def X7(kvs:List<|Int×α)(k:Int):fg (Ze val kvs) (.int k)=Ze val (Zs kvs k):=by
 unfold fg Zs Ze;induction kvs with
 |nil=>rfl
 |cons p r ih =>rw[Ñ,Ī,Ī,WY,ih];by_cases e:p.1=k<;>simp[e]
def X4(ns:List Int):eM (ns.map Val.int)=d9 ns:=by
 induction ns with
 |nil=>rfl
 |cons n ns ih=>show(eM<|ns.map Val.int).map _=_;rw[ih];rfl
def BV(kvs:List<|Int×α):keysOf (Ze val kvs)=d9 (kvs.map (·.1)):=by unfold keysOf Ze;rw[ê];exact(congrArg eM (ê (f:=λp:Int×α=>p.1) (g:=Val.int) (l:=kvs)).symm).trans (X4 _)
def X9(kvs:List<|Int×α):(Ze val kvs).length=kvs.length:=by unfold Ze;rw[Á]
variable {kvs:List (Int×α)}
def Zf{k:Int}{v:α}(h:kvs.lookup k=d9 v):(k,v)∈kvs:=by
 induction kvs with
 |nil=>cases h
 |cons p r ih =>
  rw[î]at h;by_cases e:k=p.1
  .have:(k==p.1)=eh:=by simp[e]
   rw[this]at h;cases h;rw[e];exact ò
  .have:(k==p.1)=ei:=by simpa using e
   rw[this]at h;exact â _<|ih h
def ZK{k:Int}(h:k∈kvs.map (·.1)):∃v,kvs.lookup k=d9 v:=by
 induction kvs with
 |nil=>cases h
 |cons p r ih =>
  rw[î];by_cases e:k=p.1
  .have:(k==p.1)=eh:=by simp[e]
   rw[this];exact⟨_,rfl⟩
  .have:(k==p.1)=ei:=by simpa using e
   rw[this];rw[Ñ,Ç]at h;exact ih<|h.resolve_left e
def YF{k:Int}(h:kvs.lookup k=ee):k∉kvs.map (·.1):=λm=>by obtain⟨v,e⟩:=ZK m;rw[h]at e;cases e
def Z6(nd:(kvs.map (·.1)).Nodup){k:Int}{v:α}(h:(k,v)∈kvs):kvs.lookup k=d9 v:=by
 induction kvs with
 |nil=>cases h
 |cons p r ih =>
  rw[Ñ,Ā]at nd;rw[î];rcases Ç.mp h with e|h
  .subst e;simp
  .have:k≠p.1:=λz=>nd.1 (z▸ó (f:=(·.1)) h);have:(k==p.1)=ei:=by simpa using this
   rw[this];exact ih nd.2 h
def JD(kvs:List<|Int×α)(k:Int)(v:α):(Zp kvs k v).map (·.1)=if(kvs.lookup k).isSome then kvs.map (·.1)else kvs.map (·.1)++[k]:=by
 unfold Zp;split
 .rw[ê];refine ċ λp _=>?_;simp only[bJ];by_cases e:p.1=k<;>simp[e]
 .rw[Ø];rfl
def Yj{k:Int}(v:α)(h:k∉kvs.map (·.1)):Zp kvs k v=kvs++[(k,v)]:=by
 unfold Zp;have:kvs.lookup k=ee:=by
  cases e:kvs.lookup k with
  |none=>rfl
  |some w=>exact gf (ó (f:=(·.1))<|Zf e) h
 rw[this];rfl
def WE(nd:(kvs.map (·.1)).Nodup)(k:Int)(v:α):((Zp kvs k v).map (·.1)).Nodup:=by
 rw[JD];split
 .exact nd
 .rename_i h;have h:kvs.lookup k=ee:=Ϻ.mp h;rw[æ];refine⟨nd,by simp,λa ha b hb=>?_⟩;rw[Ó.mp hb];exact λe=>YF h<|e▸ha
variable {p:Int×α}
def XB{k:Int}{v:α}(h:p∈Zp kvs k v):p=(k,v)\/p∈kvs:=by
 unfold Zp at h;split at h
 .obtain⟨q,hq,e⟩:=Ð.mp h;split at e
  .exact .inl e.symm
  .exact .inr<|e▸hq
 .rcases Ü.mp h with h|h
  .exact .inr h
  .exact .inl<|Ó.mp h
def NU(kvs:List<|Int×α)(k:Int):(Zs kvs k).Sublist kvs:=ţ
def YS(nd:(kvs.map (·.1)).Nodup)(k:Int):((Zs kvs k).map (·.1)).Nodup:=nd.sublist ((NU kvs k).map _)
def FM{k:Int}(h:p∈Zs kvs k):p.1≠k:=by unfold Zs at h;have:=(Ę.mp h).2;simpa using this
end
def Yl:∀{m:Nat}{ns:List Int},ns.Nodup->(∀x∈ns,0<=x/\x<m)->ns.length<=m
 |0,ns,nd,h=>by
  cases ns with
  |nil=>exact Ì _
  |cons x xs=>have:=h x ò;lia
 |m+1,ns,nd,h=>by
  by_cases hm:(m:Int)∈ns
  .have:=Yl (m:=m) (nd.erase (m:Int)) λx hx=>by
    have h1:=(nd.mem_erase_iff).mp hx;have h2:=h x h1.2;have:=h1.1;lia
   rw[bA hm]at this;lia
  .have:=Yl (m:=m) nd λx hx=>by
    have h2:=h x hx;have:x≠(m:Int):=λe=>hm<|e▸hx;lia
   lia
noncomputable abbrev Pi:=Int×Int
noncomputable abbrev pV(p:Pi):Val:=.tup [.int p.1,.int p.2]
abbrev oV:Option Pi->Val
 |none=>.non
 |some p=>pV p
structure L where
 num:Pi
 st:Pi
 root:Int
 cost:Int
 age:Int
 rests:Option Pi
 agrees:Option Pi
noncomputable abbrev L.v(l:L):Val:=.tup [pV l.num,pV l.st,.int l.root,.int l.cost,.int l.age,oV l.rests,oV l.agrees]
noncomputable abbrev M6(t:Int×Int):Val:=.tup [.int t.1,.int t.2]
noncomputable abbrev hdV(t:L×Int):Val:=.tup [t.1.v,.int t.2]
structure Lab where
 root:Int
 cost:Int
 up:Option<|Int×Pi
 deriving DecidableEq
abbrev upV:Option (Int×Pi)->Val
 |none=>.non
 |some p=>.int p.1
abbrev rsV:Option (Int×Pi)->Val
 |none=>.non
 |some p=>pV p.2
noncomputable abbrev Lab.v(l:Lab):Val:=.tup [.int l.root,.int l.cost,upV l.up,rsV l.up]
structure Br where
 number:Int
 life:Int
 most:Int
 ties:List<|Int×(Int×Int)
 held:List<|Int×(L×Int)
 label:Lab
 version:Int
 count:Int
structure eQ(h:Hs)(b t d:Ad)(B:Br):Prop where
 ins:h b=d9 (.ins "Bridge" [("number",.int B.number),("life",.int B.life),("age_let_go",.int B.most),("ties_by_place",.ref t),("held_by_place",.ref d),("label_now",B.label.v),("version",.int B.version),("ticks_had",.int B.count)])
 ties:h t=d9 (.dct<|Ze M6 B.ties)
 held:h d=d9 (.dct<|Ze hdV B.held)
 ne:t≠d
variable {h:Hs} {b:Ad} {o:Ob}
def D5{a:Ad}{u:Ob}(ha:h a=d9 o)(hb:h b=d9 u)(ne:o≠u):a≠b:=λe=>by subst e;rw[ha]at hb;exact ne (í hb)
variable {d:Ad} {B:Br}
def eQ.nbt{t:Ad}(x:eQ h b t d B):b≠t:=D5 x.ins x.ties nofun
def eQ.nbd{t:Ad}(x:eQ h b t d B):b≠d:=D5 x.ins x.held nofun
structure Ex(S:List Ad)(h g:Hs):Prop where
 get:∀{a:Ad}{o:Ob},a∉S->h a=d9 o->g a=d9 o
def Ex.refl{S:List Ad}:Ex S h h:=⟨λ_ e=>e⟩
variable {g:Hs}
def Ex.trans{k:Hs}{S:List Ad}(e:Ex S h g)(f:Ex S g k):Ex S h k:=⟨λn x=>f.get n<|e.get n x⟩
def Ex.of{S:List Ad}(e:Ext h g):Ex S h g:=⟨λ_ x=>e.get x⟩
variable {w:Ad}
def Ex.upd{S:List Ad}(m:w∈S):Ex S h<|upd h w o:=⟨λ{a _} n x=>by rw[ej λe:a=w=>n<|by rw[e];exact m];exact x⟩
def Ex.sub{S T:List Ad}(e:Ex S h g)(m:∀a∈S,a∈T):Ex T h g:=⟨λn x=>e.get (λz=>n<|m _ z) x⟩
variable {p:Ad}
def Ex.none(e:Ex [b] h g)(hb:g b≠ee)(hp:g p=ee):h p=ee:=by
 cases z:h p with
 |none=>rfl
 |some o =>
  by_cases hpb:p=b
  .subst hpb;exact gf hp hb
  .rw[e.get (by simpa using hpb) z]at hp;cases hp
def Ex.ofB{S:List Ad}(e:ExtB w h g)(m:w∈S):Ex S h g:=⟨λn x=>e.get (λz=>n<|z▸m) x⟩
def eQ.keep{t:Ad}{S:List Ad}(x:eQ h b t d B)(e:Ex S h g)(hb:b∉S)(ht:t∉S)(hd:d∉S):eQ g b t d B:=⟨e.get hb x.ins,e.get ht x.ties,e.get hd x.held,x.ne⟩
def eQ.ext{t:Ad}(x:eQ h b t d B)(e:Ext h g):eQ g b t d B:=⟨e.get x.ins,e.get x.ties,e.get x.held,x.ne⟩
def nw{Q:Q1}(q:∀p,h p=ee->Q (.ref p) (upd h p o)):new h o Q:=Xv q
abbrev YB(most:Int)(held:List<|Int×(L×Int)):List<|Int×(L×Int):=held.filterMap λp=>if p.2.2+1<most then d9 (p.1,(p.2.1,p.2.2+1))else ee
variable {most:Int}
def K2{held:List (Int×(L×Int))}{p:Int×(L×Int)}(h:p∈YB most held):∃a,(p.1,(p.2.1,a))∈held:=by
 obtain⟨q,hq,e⟩:=ο.mp h;split at e
 .cases e;exact⟨_,hq⟩
 .cases e
def JZ(most:Int)(held:List<|Int×(L×Int)):((YB most held).map (·.1)).Sublist (held.map (·.1)):=by
 unfold YB;induction held with
 |nil=>exact Ť _
 |cons p r ih =>
  rw[ē];split
  .exact ih.cons _
  .rename_i q e;split at e
   .cases e;exact ih.cons₂ _
   .cases e
def Bc(most:Int)(held:List<|Int×(L×Int)):(YB most held).length<=held.length:=bu _ _
def ZO{α β:Type}{f:α->β}:∀{xs:List α}{i:Nat}{q:α},(xs.map f).Nodup->xs[i]?=d9 q->f q∉(xs.take i).map f
 |[],_,_,_,h=>by simp at h
 |x::xs,0,_,_,_=>by simp
 |x::xs,i+1,q,nd,h=>by
  rw[Ñ,Ā]at nd;have h:xs[i]?=d9 q:=by simpa using h
  rw[Ϡ,Ñ,Ç,not_or];exact⟨λe=>nd.1<|e▸ó (è h),ZO nd.2 h⟩
variable {α:Type} {xs:List α} {i:Nat} {x:α}
def Zj(h:xs[i]?=d9 x):xs.take (i+1)=xs.take i++[x]:=by rw[Ű,h];rfl
def ZF{f:α->Val}{v:Val}(h:(xs.map f)[i]?=d9 v):∃x,xs[i]?=d9 x/\v=f x:=by rw[Ö]at h;obtain⟨x,h1,h2⟩:=È.mp h;exact⟨x,h1,h2.symm⟩
variable {kvs:List (Int×α)}
def Ot{val:α->Val}{v:Val}(h:((Ze val kvs).map<|itemOf ei)[i]?=d9 v):∃p,kvs[i]?=d9 p/\v=.tup [.int p.1,val p.2]:=by obtain⟨q,h1,rfl⟩:=ZF h;unfold Ze at h1;rw[Ö]at h1;obtain⟨x,h2,rfl⟩:=È.mp h1;exact⟨x,h2,rfl⟩
def Hl{val:α->Val}(kvs:List<|Int×α):((Ze val kvs).map<|itemOf ei).length=kvs.length:=by rw[Á,X9]
variable {P:Pg} [Al P] {n:Nat}{h:Hs}{w b t d st a f tt hh:Ad}{S B:Br}{c:Int}{all:List (Int×Int)}{ps:List Int}{Q:Q1}{X:XQ}
def Dr(x:eQ h b t d B)(k:Q B.label.v h):wF P (n+1) "Bridge.label" [.ref b] h Q X:=by obtain⟨hi,ht,hd,ų⟩:=x;refine JR ?_;refine' k
def X6(x:eQ h b t d B)(k:Q (pV (B.life,B.version)) h):wF P (n+1) "Bridge.stamp" [.ref b] h Q X:=by obtain⟨hi,ht,hd,ų⟩:=x;refine Jq ?_;refine' k
abbrev hdO:Option (L×Int)->Val
 |none=>.non
 |some p=>hdV p
def MB{p:Int}(x:eQ h b t d B)(k:Q (hdO<|B.held.lookup p) h):wF P (n+1) "Bridge.held" [.ref b,.int p] h Q X:=by
 obtain⟨hi,ht,hd,ų⟩:=x;refine Kn ?_
 exists CC (v:=.int p) hd rfl
 rw[ZA];cases e:B.held.lookup p with
 |none=>rw[e]at k;exact k
 |some q=>rw[e]at k;exact k
def Go(x:eQ h b t d B)(nd:(B.held.map (·.1)).Nodup)(hl:B.held.length<1000)(k:∀d' g,h d'=ee->eQ g b t d' {B with held:=YB B.most B.held}->Ex [b] h g->Q .non g):wF P (n+1) "Bridge.let_grow_older" [.ref b] h Q X:=by
 obtain⟨hi,ht,hd,ų⟩:=id x;refine YG ?_;fail;intro p hp;have npd:=Za hd hp;have npb:=Za hi hp;have npt:=Za ht hp;have nbd:=x.nbd;refine' Zk (λi e g=>Sm2 λu v=>Cj4 (e=[d9<|.ref b,d9<|.ref p,u,v]) (g p=d9 (.dct<|Ze hdV<|YB B.most<|B.held.take i)) (g d=d9 (.frz<|Ze hdV B.held))<|Ex [d] h g) ⟨ee,ee,rfl,by rw[ej npd.symm];exact ez,ez,?_⟩ ?_ ?_ ?_
 .exact⟨λm e=>by rw[ej λz=>m<|by simp[z],ej<|Za e hp];exact e⟩
 .rintro i e g cO ⟨u,v,rfl,h1,h2,h3⟩;exact h2
 .rintro i v e g hv ⟨u,w,rfl,h1,h2,h3⟩ K hK;obtain⟨q,hq,rfl⟩:=Ot hv;have hi1:=h3.get (by simpa using nbd) hi;obtain⟨pl,l,a⟩:=q;have e1:YB B.most (B.held.take<|i+1)=YB B.most (B.held.take i)++YB B.most [(pl,(l,a))]:=by
   unfold YB;rw[Zj hq,List.filterMap_append]
  refine' fJ (λhc=>?_) (λhc=>?_)
  .refine' Z9 (k:=.int pl) h1 ⟨rfl,?_⟩ ?_
   .rw[X9];have h5:=Bc B.most<|B.held.take i;have h6:(B.held.take i).length<=B.held.length:=ϙ _ _;exact Ò (á h5 h6) (Œ hl<|by decide)
   fail;rw[show Val.tup [l.v,.int<|a+1]=hdV (l,a+1) from rfl,ZG];refine hK _ _ ⟨_,_,rfl,?_,?_,?_⟩
   .rw[ez,e1,Yj]
    .unfold YB;rw[ē,fZ hc];rfl
    .exact λm=>ZO nd hq<|(JZ _ _).subset m
   .rw[ej npd];exact h2
   .exact⟨λm e=>by rw[ej<|Za e hp];exact h3.get m e⟩
  .refine' hK _ _ ⟨_,_,rfl,?_,h2,h3⟩;rw[h1,e1];unfold YB;rw[ē,f8 hc];simp
 .rintro e g ⟨u,v,rfl,h1,h2,h3⟩;have hi1:=h3.get (by simpa using nbd) hi;rw[Hl,ý]at h1;refine⟨h2,?_⟩;refine' k p _ hp ⟨ez,?_,?_,npt⟩ ?_
  .rw[ej x.nbt.symm,ej ų];exact h3.get (by simpa using ų) ht
  .rw[ej npb.symm,ej npd.symm];exact h1
  .refine⟨λ{c o} m e=>?_⟩;rw[ej<|by simpa using m];by_cases aU:c=d
   .subst aU;rw[ez,<-e];exact hd.symm
   .rw[ej aU];exact h3.get (by simpa using aU) e
def FJ(x:α)(xs:List α):atI (x::xs) 0=d9 x:=by unfold atI ixN;rw[fZ (by decide),fZ<|by simp];rfl
abbrev Wj(r:List Int):Val:=.tup<|r.map .int
def EB(ğ:List<|List Int):rowsOf (ğ.map Wj)=d9 ğ:=by
 induction ğ with
 |nil=>rfl
 |cons r rs ih =>show(eM<|r.map .int).bind (λns=>(rowsOf<|rs.map Wj).map (ns :: ·))=_;rw[X4,ih];rfl
abbrev YW(number:Int)(ğ:List<|List Int):Option<|List Int:=match ğ.filter (λr=>gg (r.headD 0<number))with
 |[]=>ee
 |x::r=>d9<|minR x r
abbrev GR:Option (List Int)->Val
 |none=>.non
 |some r=>Wj r
def Ny:∀(r:List<|List Int) (x:List Int),minR x r∈x::r
 |[],x=>ò
 |y::r,x=>by
  show minR (if fu y x then y else x) r∈x::y::r;have h:=Ny r (if fu y x then y else x);rcases Ç.mp h with e|h
  .rw[e];split
   .simp
   .simp
  .simp[h]
variable {number:Int} {ğ:List (List Int)}
def JK{m:List Int}(h:YW number ğ=d9 m):m∈ğ:=by
 unfold YW at h;split at h
 .cases h
 .rename_i x r e;cases h;have:minR x r∈ğ.filter (λr=>gg (r.headD 0<number)):=by rw[e];exact Ny r x
  exact(Ę.mp this).1
variable {l:Ad}
def F8(hl:h l=d9 (.lst<|ğ.map Wj))(h0:∀r∈ğ,r≠[])(hn:ğ.length<1000)(k:∀g,Ext h g->Q (GR<|YW number ğ) g):wF P (n+1) "best_offer" [.int number,.ref l] h Q X:=by
 refine Na ?_;refine' ⟨by rw[Á];exact Œ hn (by decide),?_⟩;refine Zz (λv=>match v with|.tup (.int i::xs)=>if i<number then d9 v else ee|_=>ee) (lsE hl) ?_ ?_
 .intro v hv K hK;obtain⟨r,hr,rfl⟩:=Ð.mp hv;cases r with
  |nil=>exact gf rfl<|h0 _ hr
  |cons i xs =>
   have hK:K (if i<number then d9 (Wj<|i::xs)else ee) h:=hK;rw[show Wj (i::xs)=.tup (.int i::xs.map .int) from rfl]at hK ⊢
   exists eL (FJ _ _)
   refine' fJ (λhc=>?_) (λhc=>?_)
   .rw[fZ hc]at hK;refine' hK
   .rw[f8 hc]at hK;exact hK
 .refine Xv λp hp=>?_;fail;have e1:(ğ.map Wj).filterMap (λv=>match v with|.tup (.int i::xs)=>if i<number then d9 v else ee|_=>ee)=(ğ.filter λr=>gg (r.headD 0<number)).map Wj:=by
   clear hl k hn;induction ğ with
   |nil=>rfl
   |cons r rs ih =>
    have ih:=ih λr hr=>h0 r<|â _ hr;cases r with
    |nil=>exact gf rfl<|h0 _ ò
    |cons i xs =>
     rw[Ñ,ē,Ī];by_cases hc:i<number
     .simp only[Wj,Ñ,fZ hc,List.headD_cons,hc,decide_true,if_true]at ih ⊢;rw[ih]
     .simp only[Wj,Ñ,f8 hc,List.headD_cons,hc,decide_false,ĩ,if_false]at ih ⊢;rw[ih]
  rw[e1];have hx:Ext h<|upd h p<|.lst<|(ğ.filter λr=>gg (r.headD 0<number)).map Wj:=Ext.new hp;cases e2:ğ.filter λr=>gg (r.headD 0<number)with
  |nil =>rw[e2]at hx;refine Lx ez ?_;have:=k _ hx;unfold YW at this;rw[e2]at this;exact this
  |cons x r =>rw[e2]at hx;refine F1 ez (EB<|x::r) ?_;have:=k _ hx;unfold YW at this;rw[e2]at this;exact this
abbrev K3(ties:List<|Int×(Int×Int))(p:Int):Int×Int:=(ties.lookup p).getD (0,0)
abbrev MD(ties:List<|Int×(Int×Int))(q:Int×(L×Int)):List Int:=[q.2.1.root,q.2.1.cost+(K3 ties q.1).2,(K3 ties q.1).1,q.1]
abbrev Kl(ties:List<|Int×(Int×Int))(held:List<|Int×(L×Int)):List<|List Int:=held.map<|MD ties
abbrev N6(held:List<|Int×(L×Int))(p:Int):Pi:=((held.lookup p).map (·.1.st)).getD (0,0)
abbrev ZL(B:Br):Lab:=match YW B.number (Kl B.ties B.held)with
 |none=>⟨B.number,0,ee⟩
 |some m=>⟨m.getD 0 0,m.getD 1 0,d9 (m.getD 3 0,N6 B.held<|m.getD 3 0)⟩
def Ez{ties:List (Int×(Int×Int))}{p:Int}(h:(ties.lookup p).isSome=eh):ties.lookup p=d9 (K3 ties p):=by
 unfold K3;cases e:ties.lookup p with
 |none=>rw[e]at h;cases h
 |some v=>rfl
def A8(x:eQ h b t d B)(sub:∀q∈B.held,(B.ties.lookup q.1).isSome=eh)(hn:B.held.length<1000)(k:∀g,Ext h g->Q (ZL B).v g):wF P (n+2) "Bridge.reckon_label" [.ref b] h Q X:=by
 obtain⟨hi,ht,hd,ų⟩:=id x;refine YZ ?_;refine' Xv λp hp=>?_;have npd:=Za hd hp;have npb:=Za hi hp;have npt:=Za ht hp;have nbd:=x.nbd;refine' Zk (λi e g=>Sm4 λu v w z=>Cj4 (e=[d9<|.ref b,d9<|.ref p,u,v,w,z,ee,ee]) (g p=d9 (.lst<|(Kl B.ties<|B.held.take i).map Wj)) (g d=d9 (.frz<|Ze hdV B.held))<|Ex [d] h g) ⟨ee,ee,ee,ee,rfl,by rw[ej npd.symm];exact ez,ez,?_⟩ ?_ ?_ ?_
 .exact⟨λm e=>by rw[ej λz=>m<|by simp[z],ej<|Za e hp];exact e⟩
 .rintro i e g cO ⟨u,v,w,z,rfl,h1,h2,h3⟩;exact h2
 .rintro i v e g hv ⟨u,v,w,z,rfl,h1,h2,h3⟩ K hK;obtain⟨q,hq,rfl⟩:=Ot hv;have hi1:=h3.get (by simpa using nbd) hi;have ht1:=h3.get (by simpa using ų) ht;have hs:=Ez<|sub q<|è hq;obtain⟨pl,l,a⟩:=q;generalize htt:K3 B.ties pl=tt at hs;obtain⟨nb,c⟩:=tt;refine' Zy ht1 rfl (by rw[ZA,hs];rfl) ?_;refine' ZC h1 ?_ ?_
  .rw[Á];unfold Kl;rw[Á];exact Ò (ϙ _ _) (Œ hn<|by decide)
  dsimp only;refine' hK _ _ ⟨_,_,_,_,rfl,?_,?_,?_⟩
  .rw[ez,Zj hq];unfold Kl MD;rw[Ø,Ø,Ñ,htt];rfl
  .rw[ej npd];exact h2
  .exact⟨λm e=>by rw[ej<|Za e hp];exact h3.get m e⟩
 .rintro e g ⟨u,v,w,z,rfl,h1,h2,h3⟩;have hi1:=h3.get (by simpa using nbd) hi;have cO:upd g d (.dct<|Ze hdV B.held) b=_:=upd_ne' nbd hi1;rw[Hl,ý]at h1;have h1':upd g d (.dct<|Ze hdV B.held) p=_:=upd_ne' npd.symm h1;have hx:Ext h<|upd g d<|.dct<|Ze hdV B.held:=⟨λ{c o} e=>by
    by_cases aU:c=d
    . subst aU;rw[ez,<-e];exact hd.symm
    . rw[ej aU];exact h3.get (by simpa using aU) e⟩
  have bC:upd g d (.dct<|Ze hdV B.held) d=_:=ez;refine⟨h2,?_⟩;generalize upd g d (.dct<|Ze hdV B.held)=g2 at cO h1' hx bC ⊢;refine' F8 h1' ?_ ?_ λg3 h3=>?_
  .intro r hr;unfold Kl at hr;obtain⟨q,_,rfl⟩:=Ð.mp hr;unfold MD;simp
  .unfold Kl;rw[Á];exact hn
  have hi3:=h3.get cO;have hd3:=h3.get bC;have kk:=k g3<|hx.trans h3;unfold ZL at kk;fail;cases e:YW B.number (Kl B.ties B.held)with
  |none =>rw[e]at kk;simp only[GR];refine fJ (λhc=>?_) λhc=>gf trivial hc;refine' kk
  |some m =>rw[e]at kk;have hm:=JK e;unfold Kl at hm;obtain⟨q,hq,rfl⟩:=Ð.mp hm;refine fJ (λhc=>(by simp[GR,Wj]at hc)) λhc=>?_;have hlk:∃y,B.held.lookup q.1=d9 y:=ZK (ó (f:=(·.1)) hq);obtain⟨y,hy⟩:=hlk;unfold MD at kk ⊢;simp only[GR,Wj,Ñ,μ];refine' Zy hd3 rfl (by rw[ZA,hy];rfl) ?_;fail;unfold N6 at kk;simp only[List.getD_cons_succ,List.getD_cons_zero]at kk;rw[hy]at kk;exact kk
abbrev GM(l:Lab):D:=.tup [.int l.root,.int l.cost,(match l.up with|none=>.non|some p=>.int p.1),(match l.up with|none=>.non|some p=>.tup [.int p.2.1,.int p.2.2])]
def U9(h:Hs)(l:Lab):dat h deep l.v=d9 (GM l):=by obtain⟨r,c,u⟩:=l;cases u<;>rfl
def IN(h:Hs)(l m:Lab):eqV h l.v m.v=d9 (gg (l=m)):=by
 unfold eqV;rw[U9,U9];show d9 (D.eqv (GM l)<|GM m)=_;congr 1;obtain⟨r,c,u⟩:=l;obtain⟨r',c',u'⟩:=m;unfold GM;cases u with
 |none=>cases u' with
  |none=>simp only[D.eqv,D.eqvs,Μ];by_cases h1:r=r'<;>by_cases h2:c=c'<;>simp[h1,h2]
  |some q=>simp[D.eqv,D.eqvs]
 |some p=>cases u' with
  |none=>simp[D.eqv,D.eqvs]
  |some q =>obtain⟨p1,p2,p3⟩:=p;obtain⟨q1,q2,q3⟩:=q;simp only[D.eqv,D.eqvs,Μ];by_cases h1:r=r'<;>by_cases h2:c=c'<;>by_cases h3:p1=q1<;>by_cases h4:p2=q2<;>by_cases h5:p3=q3<;>simp[h1,h2,h3,h4,h5]
abbrev taken(B:Br)(l:Lab):Br:=if l=B.label then B else {B with label:=l,version:=B.version+1}
variable {u:Val} {KB:Bool->Prop}
def Np{v:Val}{c:Bool}(e:eqV h v u=d9 c)(q:KB (!c)):go (eX h .ne v u) KB:=eK (by show(eqV h v u).map _=_;rw[e];rfl) q
def JB{v:Val}{c:Bool}(e:eqV h v u=d9 c)(q:KB c):go (eX h .eq v u) KB:=eK e q
def EU{l:Lab}(x:eQ h b t d B)(k:∀g,eQ g b t d (taken B l)->Ex [b] h g->Q .non g):wF P (n+1) "Bridge.take_label" [.ref b,l.v] h Q X:=by
 obtain⟨hi,ht,hd,ų⟩:=id x;refine XD ?_
 exists Np (IN h l B.label)
 fail;unfold taken at k;refine M0 (λhc=>?_) λhc=>?_
 .rw[f8 hc]at k;refine' Yz ez (show(8:Nat)<900 by decide) ?_;refine' k _ ⟨?_,?_,?_,ų⟩ ?_
  .rw[eC,ez];rfl
  .rw[ej x.nbt.symm,ej x.nbt.symm];exact ht
  .rw[ej x.nbd.symm,ej x.nbd.symm];exact hd
  .exact(Ex.upd<|by simp).trans (Ex.upd<|by simp)
 .rw[fZ hc]at k;refine' k h x Ex.refl
def P9(h:Hs)(r:Option Pi)(s:Pi):eqV h (oV r) (pV s)=d9 (gg (r=d9 s)):=by
 obtain⟨s1,s2⟩:=s;cases r with
 |none =>show d9 (D.eqv .non<|.tup [.int s1,.int s2])=_;simp[D.eqv]
 |some p =>obtain⟨p1,p2⟩:=p;show d9 (D.eqv (.tup [.int p1,.int p2])<|.tup [.int s1,.int s2])=_;congr 1;simp only[D.eqv,D.eqvs,Μ];by_cases h1:p1=s1<;>by_cases h2:p2=s2<;>simp[h1,h2]
abbrev Xl(B:Br)(p:Int):Bool:=match B.held.lookup p with
 |none=>ei
 |some q=>gg (q.1.rests=d9 (B.life,B.version))
def Mf{p:Int}(x:eQ h b t d B)(k:Q (.bl<|Xl B p) h):wF P (n+2) "Bridge.is_rested_on" [.ref b,.int p] h Q X:=by
 obtain⟨hi,ht,hd,ų⟩:=id x;refine Y5 ?_
 exists MB x
 unfold Xl at k;fail;cases e:B.held.lookup p with
 |none =>rw[e]at k;refine M0 (λhc=>gf rfl hc) λhc=>?_;exact k
 |some q =>
  rw[e]at k;obtain⟨l,a⟩:=q;refine M0 (λhc=>?_) (λhc=>by simp[hdO]at hc);simp only[hdO]
  exists X6 x
  refine JB (P9 h _ _) ?_;exact k
abbrev AE(u:Option<|Int×Pi)(p:Int):Bool:=match u with
 |none=>ei
 |some q=>gg (p=q.1)
abbrev JU(B:Br):Int:=match B.label.up with
 |none=>0
 |some q=>((B.held.lookup q.1).map (·.2)).getD 0+1
abbrev Zx(B:Br)(p:Int):L where
 num:=(B.life,B.count)
 st:=(B.life,B.version)
 root:=B.label.root
 cost:=B.label.cost
 age:=JU B
 rests:=if AE B.label.up p then B.label.up.map (·.2)else ee
 agrees:=if AE B.label.up p then ee else if Xl B p then d9 (N6 B.held p)else ee
def HY(h:Hs)(p:Int)(u:Option<|Int×Pi):eqV h (.int p) (upV u)=d9 (AE u p):=by
 cases u with
 |none=>rfl
 |some q =>show d9 (D.eqv (.int p)<|.int q.1)=_;rw[UC];rfl
def GD{p:Int}(x:eQ h b t d B)(hu:∀q,B.label.up=d9 q->(B.held.lookup q.1).isSome=eh)(k:Q (Zx B p).v h):wF P (n+3) "Bridge.letter_over" [.ref b,.int p] h Q X:=by
 obtain⟨hi,ht,hd,ų⟩:=id x;refine Xj ?_;fail;have main:wSs (wF P<|n+2) #[.ite (.val<|.cmp .eq (.var 1)<|.var 4) #[.ret<|.bin .add (.var 7)<|.tup #[.var 5,.cst .non]] .nil,.ite (.val<|.meth "Bridge" "is_rested_on" (.var 0) #[.var 1]) #[.ret<|.bin .add (.var 7)<|.tup #[.cst .non,.idx (.idx (.idx (.fld (.var 0) "held_by_place")<|.var 1)<|.cst<|.int 0)<|.glob "STAMP"<|.int 1]] .nil,.ret<|.bin .add (.var 7)<|.tup #[.cst .non,.cst .non]]
   [d9<|.ref b,d9<|.int p,d9<|.int B.label.root,d9<|.int B.label.cost,d9<|upV B.label.up,d9<|rsV B.label.up,d9<|.int<|JU B,d9<|.tup [pV (B.life,B.count),pV (B.life,B.version),.int B.label.root,.int B.label.cost,.int<|JU B]] h (λ_ g=>Q .non g) Q (λ_ _=>False) (λ_ _=>False) λ_ c g=>X c g:=by
  exists JB (HY h p B.label.up)
  refine' fK (λhc=>?_) (λhc=>?_)
  .fail;unfold Zx at k;rw[hc]at k;cases e:B.label.up with
   |none=>rw[e]at hc;cases hc
   |some q=>rw[e]at k;exact k
  .exists Mf x
   fail;unfold Zx at k;rw[hc]at k;refine fK (λhr=>?_) λhr=>?_
   .rw[hr]at k;unfold Xl at hr;cases e:B.held.lookup p with
    |none=>rw[e]at hr;cases hr
    |some q =>obtain⟨l,a⟩:=q;refine' Zy hd rfl (by rw[ZA,e];rfl) ?_;fail;unfold N6 at k;rw[e]at k;exact k
   .rw[hr]at k;refine' k
 cases e:B.label.up with
 |none =>
  have ea:JU B=0:=by unfold JU;rw[e]
  rw[e,ea]at main;refine fJ (λhc=>?_) λhc=>gf rfl hc
  exists X6 x
  walk_at "w"
  repeat (first|exact main|(walk_at "py1";walk_at "w"))
 |some q =>
  obtain⟨y,hy⟩:=é.mp<|hu q e;have ea:JU B=y.2+1:=by unfold JU;rw[e];dsimp only;rw[hy];rfl
  rw[e,ea]at main;refine fJ (λhc=>by cases hc) λhc=>?_;simp only[upV];refine' Zy hd rfl (by rw[ZA,hy];rfl) ?_
  exists X6 x
  walk_at "w"
  repeat (first|exact main|(walk_at "py1";walk_at "w"))
variable {q:Int×Pi}
def GA(hq:(ZL B).up=d9 q):(B.held.lookup q.1).isSome=eh:=by
 unfold ZL at hq;split at hq
 .cases hq
 .rename_i m e;have hm:=JK e;unfold Kl at hm;obtain⟨y,hy,rfl⟩:=Ð.mp hm;cases hq;obtain⟨v,hv⟩:=ZK (ó (f:=(·.1)) hy);show(B.held.lookup y.1).isSome=eh;rw[hv];rfl
abbrev Br.grown(B:Br):Br:={B with held:=YB B.most B.held}
abbrev Br.told(B:Br):Br:=taken B.grown<|ZL B.grown
abbrev Br.ticked(B:Br):Br:={B.told with count:=B.count+1}
abbrev Z1(B:Br):List Val:=(sortI (B.ties.map (·.1))).map λp=>.tup [.int p,(Zx B p).v]
def Z3(B:Br)(l:Lab):(taken B l).held=B.held/\(taken B l).ties=B.ties/\(taken B l).count=B.count/\(taken B l).label=l/\(taken B l).number=B.number/\(taken B l).life=B.life/\(taken B l).most=B.most:=by
 unfold taken;split
 .rename_i e;exact⟨rfl,rfl,rfl,e.symm,rfl,rfl,rfl⟩
 .exact⟨rfl,rfl,rfl,rfl,rfl,rfl,rfl⟩
structure Br.ok(B:Br):Prop where
 nd:(B.held.map (·.1)).Nodup
 sub:∀q∈B.held,(B.ties.lookup q.1).isSome=eh
 nt:(B.ties.map (·.1)).Nodup
 rg:∀q∈B.ties,0<=q.1/\q.1<16
def Br.ok.tlen(o:B.ok):B.ties.length<=16:=by
 have:=Yl (m:=16) o.nt λx hx=>by obtain⟨q,hq,rfl⟩:=Ð.mp hx;exact o.rg q hq
 simpa using this
def Br.ok.hlen(o:B.ok):B.held.length<=16:=by
 have:=Yl (m:=16) o.nd λx hx=>by obtain⟨q,hq,rfl⟩:=Ð.mp hx;obtain⟨v,hv⟩:=é.mp<|o.sub q hq;exact o.rg _<|Zf hv
 simpa using this
def Br.ok.grown(o:B.ok):B.grown.ok where
 nd:=o.nd.sublist<|JZ _ _
 sub:=λq hq=>by obtain⟨a,ha⟩:=K2 hq;exact o.sub (q.1,(q.2.1,a)) ha
 nt:=o.nt
 rg:=o.rg
def Br.ok.told(o:B.ok):B.told.ok:=by
 obtain⟨h1,h2,_⟩:=Z3 B.grown<|ZL B.grown;have g:=o.grown;refine⟨?_,?_,?_,?_⟩
 .show((taken B.grown<|ZL B.grown).held.map (·.1)).Nodup;rw[h1];exact g.nd
 .show ∀q∈(taken B.grown<|ZL B.grown).held,((taken B.grown<|ZL B.grown).ties.lookup q.1).isSome=eh;rw[h1,h2];exact g.sub
 .show((taken B.grown<|ZL B.grown).ties.map (·.1)).Nodup;rw[h2];exact g.nt
 .show ∀q∈(taken B.grown<|ZL B.grown).ties,_;rw[h2];exact g.rg
def Br.ok.ticked(o:B.ok):B.ticked.ok:=⟨o.told.nd,o.told.sub,o.told.nt,o.told.rg⟩
def Fb(x:eQ h b t d B)(o:B.ok)(k:∀p d' g,h p=ee->h d'=ee->eQ g b t d' B.ticked->g p=d9 (.lst<|Z1 B.told)->Ex [b] h g->p≠d'->Q (.ref p) g):wF P (n+4) "Bridge.tick" [.ref b] h Q X:=by
 obtain⟨hi,ht,hd,ų⟩:=id x;have hlen:=o.hlen;refine Km ?_;refine' Go x o.nd (by lia) λd' g hd' x1 e1=>?_;obtain⟨hi1,ht1,hd1,hne1⟩:=id x1;have og:=o.grown;have x1':eQ g b t d' B.grown:=x1;refine' A8 x1' og.sub (by have:=og.hlen;lia) λg2 e2=>?_;have x2:=x1'.ext e2;refine' EU x2 λg3 x3 e3=>?_;obtain⟨hi3,ht3,hd3,hne3⟩:=id x3;obtain⟨c1,c2,c3,c4,c5,c6,c7⟩:=Z3 B.grown<|ZL B.grown;have hties:B.told.ties=B.ties:=c2;refine' OH ht3 (BV _) ?_ (Xv λp1 bN=>?_)
 .rw[Á];have:=o.tlen;show B.told.ties.length<64;rw[hties];lia
 refine' ⟨?_,?_⟩
 .rw[Á,sortI,ŕ,Á];have:=o.tlen;show B.told.ties.length<lim;rw[hties];exact Ò this (by decide)
 have x4:=x3.ext (Ext.new (o:=.lst ((sortI ((taken B.grown<|ZL B.grown).ties.map (·.1))).map Val.int)) bN);have up:∀q,(taken B.grown<|ZL B.grown).label.up=d9 q->((taken B.grown<|ZL B.grown).held.lookup q.1).isSome=eh:=λq hq=>by rw[c4]at hq;rw[c1];exact GA hq
 refine Zz (λv=>match v with|.int i=>d9 (.tup [.int i,(Zx B.told i).v])|_=>ee) (lsE ez) ?_ ?_
 .intro v hv K hK;obtain⟨i,hi,rfl⟩:=Ð.mp hv;obtain⟨hi4,ht4,hd4,hne4⟩:=id x4;fail;rw[fZ rfl];change wE _ _ [d9<|.int i,d9<|.ref b] _ _ _
  exists GD x4 up
  refine' hK
 .refine Xv λp hp=>?_;have x5:=x4.ext<|Ext.new (o:=.lst<|Z1 B.told) hp;have e0:((sortI ((taken B.grown<|ZL B.grown).ties.map (·.1))).map Val.int).filterMap (λv=>match v with|.int i=>d9 (.tup [.int i,(Zx B.told i).v])|_=>ee)=Z1 B.told:=by
   rw[Ũ];unfold Z1;exact congrFun (List.filterMap_eq_map (f:=λi:Int=>Val.tup [.int i,(Zx B.told i).v])) _
  rw[e0];obtain⟨hi5,ht5,hd5,hne5⟩:=id x5;fail;have c3':(taken B.grown<|ZL B.grown).count=B.count:=c3;rw[c3'];have eg:Ex [b] h (upd g3 p1 (.lst ((sortI ((taken B.grown<|ZL B.grown).ties.map (·.1))).map Val.int))):=((e1.trans<|.of e2).trans e3).trans<|.of<|Ext.new bN;have hpn:h p=ee:=eg.none (by rw[x4.ins];intro z;cases z) hp;have npb:b≠p:=Za x4.ins hp;refine k p d' _ hpn hd' ⟨ez,?_,?_,x5.ne⟩ ?_ ?_ (Za x4.held hp).symm
  .rw[ej x5.nbt.symm];exact x5.ties
  .rw[ej x5.nbd.symm];exact x5.held
  .rw[ej npb.symm];exact ez
  .exact(eg.trans<|.of<|Ext.new hp).trans (Ex.upd<|by simp)
abbrev J4(S:Br)(p:Int)(l:L):Bool:=match S.held.lookup p with
 |none=>eh
 |some q=>fu [q.1.num.1,q.1.num.2] [l.num.1,l.num.2]
abbrev Z0(S:Br)(p:Int)(l:L):Br:=if(S.ties.lookup p).isSome then(if J4 S p l then {S with held:=Zp S.held p (l,l.age)} else S)else S
abbrev Ed(S:Br)(p:Int):Br:={S with ties:=Zs S.ties p,held:=Zs S.held p}
abbrev upB(S:Br)(p:Int)(c:Int×Int):Br:=if(S.ties.lookup p).isSome then S else {S with ties:=Zp S.ties p c}
def DW{k:Int}{v:α}{q:Int}:(kvs.lookup q).isSome=eh->((Zp kvs k v).lookup q).isSome=eh:=λh=>by
 obtain⟨x,hx⟩:=é.mp h;have hm:q∈kvs.map (·.1):=ó (f:=(·.1))<|Zf hx;have:q∈(Zp kvs k v).map (·.1):=by
  rw[JD];split
  .exact hm
  .exact Ú _ hm
 obtain⟨y,hy⟩:=ZK this;rw[hy];rfl
def Br.ok.heard(o:S.ok){p:Int}{l:L}:(Z0 S p l).ok:=by
 unfold Z0;split
 .rename_i h1;split
  .refine⟨WE o.nd _ _,λq hq=>?_,o.nt,o.rg⟩;rcases XB hq with e|hq
   .rw[e];exact h1
   .exact o.sub q hq
  .exact o
 .exact o
def ZT{k:Int}{q:Int×α}(h:q∈Zs kvs k):q∈kvs:=(NU kvs k).subset h
def A1{k q:Int}(h:(kvs.lookup q).isSome=eh)(n:q≠k):((Zs kvs k).lookup q).isSome=eh:=by
 obtain⟨x,hx⟩:=é.mp h;have:q∈(Zs kvs k).map (·.1):=by refine Ð.mpr ⟨(q,x),?_,rfl⟩;unfold Zs;exact Ę.mpr ⟨Zf hx,by simpa using n⟩
 obtain⟨y,hy⟩:=ZK this;rw[hy];rfl
def Br.ok.down(o:S.ok)(p:Int):(Ed S p).ok :=
 ⟨YS o.nd _,λq hq=>A1 (o.sub q<|ZT hq)<|FM hq,YS o.nt _,λq hq=>o.rg q<|ZT hq⟩
def Br.ok.up(o:S.ok){p:Int}{c:Int×Int}(h0:0<=p)(h1:p<16):(upB S p c).ok:=by
 unfold upB;split
 .exact o
 .refine⟨o.nd,λq hq=>DW<|o.sub q hq,WE o.nt _ _,λq hq=>?_⟩;rcases XB hq with e|hq
  .rw[e];exact⟨h0,h1⟩
  .exact o.rg q hq
def Fo{p:Int}{l:L}(x:eQ h b t d B)(o:B.ok)(k:∀g,eQ g b t d (Z0 B p l)->Ex [d] h g->Q .non g):wF P (n+2) "Bridge.hear" [.ref b,.int p,l.v] h Q X:=by
 obtain⟨hi,ht,hd,ų⟩:=id x;have hlen:=o.hlen;refine Ky ?_
 exists Yo ht rfl
 rw[Yq];fail;unfold Z0 at k;cases e:(B.ties.lookup p).isSome with
 |false =>rw[e]at k;refine fH rfl ?_;refine' k h x Ex.refl
 |true =>
  rw[e,fZ rfl]at k;refine fI rfl ?_
  exists MB x
  have put:(∀g,eQ g b t d {B with held:=Zp B.held p (l,l.age)}->Ex [d] h g->Q .non g)->go (fy h (.ref d) (.int p)<|.tup [l.v,.int l.age]) λg=>Q .non g:=λk=>by refine Z9 hd ⟨rfl,by rw[X9];exact Ò hlen<|by decide⟩ ?_;rw[show Val.tup [l.v,.int l.age]=hdV (l,l.age) from rfl,ZG];exact k _ ⟨by rw[ej x.nbd];exact hi,by rw[ej ų];exact ht,ez,ų⟩ (Ex.upd<|by simp)
  fail;cases e2:B.held.lookup p with
  |none =>
   have et:J4 B p l=eh:=by unfold J4;rw[e2]
   rw[et,fZ rfl]at k;refine fJ (λhc=>?_) λhc=>gf rfl hc;refine fH rfl ?_;refine' UR (put k) λg q=>by fail;exact q
  |some q =>
   obtain⟨m,ag⟩:=q;have et:J4 B p l=fu [m.num.1,m.num.2] [l.num.1,l.num.2]:=by unfold J4;rw[e2]
   rw[et]at k;refine fJ (λhc=>by simp[hdO]at hc) λhc=>?_;simp only[hdO]
   exists FY
   exists L4 (X4 [l.num.1,l.num.2]) (X4 [m.num.1,m.num.2])
   refine' fK (λhc=>?_) (λhc=>?_)
   .rw[fZ hc]at k;refine' UR (put k) λg q=>by fail;exact q
   .rw[f8<|by rw[hc];decide]at k;refine' k h x Ex.refl
def GZ{p:Int}(x:eQ h b t d B)(k:∀g,eQ g b t d (Ed B p)->Ex [t,d] h g->Q .non g):wF P (n+1) "Bridge.down" [.ref b,.int p] h Q X:=by
 obtain⟨hi,ht,hd,ų⟩:=id x;refine Ki ?_
 exists UV ht rfl
 dsimp only;rw[X7];have cO:upd h t (.dct<|Ze M6<|Zs B.ties p) b=_:=upd_ne' x.nbt hi;have bC:upd h t (.dct<|Ze M6<|Zs B.ties p) d=_:=upd_ne' ų.symm hd
 exists UV bC rfl
 dsimp only;rw[X7];refine' k _ ⟨by rw[ej x.nbd];exact cO,by rw[ej ų];exact ez,ez,ų⟩ ((Ex.upd<|by simp).trans<|Ex.upd<|by simp)
def R4{p nb:Int}(x:eQ h b t d B)(o:B.ok)(k:∀g,eQ g b t d (upB B p (nb,c))->Ex [t] h g->Q .non g):wF P (n+1) "Bridge.up" [.ref b,.int p,.int nb,.int c] h Q X:=by
 obtain⟨hi,ht,hd,ų⟩:=id x;have hlen:=o.tlen;refine NK ?_
 exists Yo ht rfl
 rw[Yq];fail;unfold upB at k;cases e:(B.ties.lookup p).isSome with
 |true =>rw[e,fZ rfl]at k;refine fI rfl ?_;refine' k h x Ex.refl
 |false =>rw[e,f8<|by decide]at k;refine fH rfl ?_;refine' Z9 ht ⟨rfl,by rw[X9];exact Ò hlen<|by decide⟩ ?_;rw[show Val.tup [.int nb,.int c]=M6 (nb,c) from rfl,ZG];refine' k _ ⟨by rw[ej x.nbt];exact hi,ez,by rw[ej ų.symm];exact hd,ų⟩ (Ex.upd<|by simp)
def SQ(h:Hs)(s:Pi)(u:Option<|Int×Pi):eqV h (pV s) (rsV u)=d9 (gg (u.map (·.2)=d9 s)):=by
 obtain⟨s1,s2⟩:=s;cases u with
 |none =>show d9 (D.eqv (.tup [.int s1,.int s2]) .non)=_;simp[D.eqv]
 |some p =>
  obtain⟨p0,p1,p2⟩:=p;show d9 (D.eqv (.tup [.int s1,.int s2])<|.tup [.int p1,.int p2])=_;congr 1;simp only[D.eqv,D.eqvs,Μ,Ő];by_cases h1:s1=p1
  .subst h1;by_cases h2:s2=p2
   .subst h2;simp
   .have h3:¬ p2=s2:=λz=>h2 z.symm;simp[h2,h3]
  .have h3:¬ p1=s1:=λz=>h1 z.symm;simp[h1,h3]
abbrev Mj(B:Br)(p:Int):Bool:=match B.held.lookup p with
 |none=>ei
 |some q=>if q.1.agrees=d9 (B.life,B.version)then gg (B.label.up.map (·.2)=d9 q.1.st)else ei
def BH{p:Int}(x:eQ h b t d B)(k:Q (.bl<|Mj B p) h):wF P (n+2) "Bridge.is_agreed_to" [.ref b,.int p] h Q X:=by
 obtain⟨hi,ht,hd,ų⟩:=id x;refine Y3 ?_
 exists MB x
 unfold Mj at k;fail;cases e:B.held.lookup p with
 |none =>rw[e]at k;refine fJ (λhc=>?_) λhc=>gf rfl hc;refine fH rfl ?_;refine' k
 |some q =>
  rw[e]at k;obtain⟨l,a⟩:=q;refine fJ (λhc=>by simp[hdO]at hc) λhc=>?_;simp only[hdO]
  exists X6 x
  refine Np (P9 h _ _) ?_;refine' M0 (λhc=>?_) (λhc=>?_)
  .fail;rw[show(match d9 (l,a)with|none=>ei|some q=>if q.1.agrees=d9 (B.life,B.version)then gg (B.label.up.map (·.2)=d9 q.1.st)else ei)=ei from f8 hc]at k;exact k
  .fail;rw[show(match d9 (l,a)with|none=>ei|some q=>if q.1.agrees=d9 (B.life,B.version)then gg (B.label.up.map (·.2)=d9 q.1.st)else ei)=gg (B.label.up.map (·.2)=d9 l.st) from fZ hc]at k;refine JB (SQ h _ _) ?_;exact k
abbrev Uv(B:Br)(p:Int):String:=if(B.ties.lookup p).isSome then(if AE B.label.up p then(if Mj B p then "child" else "shut")else if Xl B p then "parent" else "shut")else "down"
def IA{p:Int}(x:eQ h b t d B)(k:Q (.str<|Uv B p) h):wF P (n+3) "Bridge.end" [.ref b,.int p] h Q X:=by
 obtain⟨hi,ht,hd,ų⟩:=id x;refine MS ?_
 exists Yo ht rfl
 rw[Yq];fail;unfold Uv at k;cases e:(B.ties.lookup p).isSome with
 |false =>rw[e]at k;refine fH rfl ?_;refine' k
 |true =>
  rw[e,fZ rfl]at k;refine fI rfl ?_
  exists JB (HY h p B.label.up)
  refine' fK (λhc=>?_) (λhc=>?_)
  .rw[hc,fZ rfl]at k
   exists BH x
   refine' fK (λhc=>?_) (λhc=>?_)
   .rw[hc]at k;refine' k
   .rw[hc]at k;refine' k
  .rw[hc,f8<|by decide]at k
   exists Mf x
   refine' fK (λhc=>?_) (λhc=>?_)
   .rw[hc]at k;refine' k
   .rw[hc]at k;refine' k
def Zg(q:∀p g,h p=ee->Ext h g->g p=d9 o->Q (.ref p) g):new h o Q:=Xv λp hp=>q p _ hp (Ext.new hp) ez
variable {r:Int}
def Xk(r0:0<=r)(e:xs[r.toNat]?=d9 x):atI xs r=d9 x:=by have:=(Î.mp e).1;unfold atI ixN;rw[fZ r0,fZ<|by lia];exact e
def CF(r0:0<=r)(r1:r<xs.length):∃x,xs[r.toNat]?=d9 x/\x∈xs:=by
 have h:r.toNat<xs.length:=by lia
 exact⟨xs[r.toNat],Ê h,ō h⟩
def Xu(r0:0<=r)(r1:r<xs.length):∃x,atI xs r=d9 x/\x∈xs:=by obtain⟨x,h1,h2⟩:=CF r0 r1;exact⟨x,Xk r0 h1,h2⟩
def Yx:∀ns:List Int,eM (ns.map .int)=d9 ns
 |[]=>rfl
 |n::ns=>by rw[Ñ,eM,Yx ns];rfl
def ZY:∀bs:List Bool,blsOf (bs.map .bl)=d9 bs
 |[]=>rfl
 |b::bs=>by rw[Ñ,blsOf,ZY bs];rfl
def mem_dedup{x:Int}:∀{ns:List Int},x∈dedup ns↔x∈ns
 |[]=>by simp[dedup]
 |n::ns=>by rw[dedup,Ç,Ę,mem_dedup,Ç];by_cases h:x=n<;>simp[h]
def Jr:∀(ns:List Int),(dedup ns).length<=ns.length
 |[]=>by simp[dedup]
 |n::ns=>by have:=Jr ns;have:=Ÿ (λy=>y != n)<|dedup ns;rw[dedup,Ë,Ë];lia
variable {m:Int}
def MR{v:Val}(h:(fk 0 m)[i]?=d9 v):v=.int i/\(i:Int)<m:=by unfold fk at h;rw[Ö]at h;obtain⟨k,hk,rfl⟩:=È.mp h;obtain⟨ϒ,rfl⟩:=Î.mp hk;rw[ř]at ϒ;rw[dA];exact⟨by rw[Int.zero_add],by lia⟩
def Jj:(fk 0 m).length=m.toNat:=by unfold fk;rw[Á,ř,Int.sub_zero]
abbrev Brs(ns:List Int):Prop:=∀i∈ns,0<=i/\i<1000
noncomputable abbrev Tie:=Int×Int×Int
abbrev trV(t:Tie):Val:=.tup [.int t.1,.int t.2.1,.int t.2.2]
abbrev LOk(ns:List Int)(t:Tie):Prop:=t.1∈ns/\t.2.1∈ns/\t.1<t.2.1/\1<=t.2.2/\t.2.2<=1000
structure eZ(bs:List Int)(ts:List Tie):Prop where
 one:1<=bs.length
 ten:bs.length<=10
 rng:Brs bs
 up:bs.Pairwise (· < ·)
 sixteen:ts.length<=16
 tie:∀t∈ts,LOk bs t
abbrev ZD(bs:List Int)(ts:List Tie):Val:=.tup [.tup<|bs.map .int,.tup<|ts.map trV]
variable {ns:List Int}
def mem_sort{i:Int}:i∈sortI ns↔i∈ns:=(ŋ ns _).mem_iff
def YX(nd:ns.Nodup):(sortI ns).Pairwise (· < ·):=by have p:=ŋ ns λa b=>gg (a<=b);have s:(sortI ns).Pairwise λa b=>gg (a<=b)=eh:=bH (λa b c h1 h2=>by simp at *;lia) (λa b=>by simp;lia) ns;have d:(sortI ns).Nodup:=p.nodup_iff.mpr nd;exact(s.and d).imp λ⟨h1,h2⟩=>by simp at h1;lia
def QQ(e:h a=d9 (.lst<|ns.map .int))(m:ns.length<64)(q:new h (.lst<|(sortI<|dedup ns).map .int) Q):(biV h .sortedSet [.ref a]).wp h Q:=wp_new (by show biSortedSet h (.ref a)=_;unfold biSortedSet sortOf;simp only[e,eS,û,Yx];rw[fZ m]) q
def Oq:∀ns:List Int,(dedup ns).Nodup
 |[]=>Ģ
 |n::ns=>by rw[dedup,Ā];refine⟨λz=>?_,(Oq ns).sublist ţ⟩;have:=(Ę.mp z).2;simp at this
def Rl(ns:List Int):(sortI<|dedup ns).Pairwise (· < ·):=YX (Oq ns)
def Df(ns:List Int):(sortI<|dedup ns).Nodup:=(Rl ns).imp λh=>by lia
def LR(ns:List Int):(sortI<|dedup ns).length<=ns.length:=by rw[sortI,ŕ];exact Jr ns
def Ic(h:1<=ns.length):1<=(sortI<|dedup ns).length:=by
 rw[sortI,ŕ];cases ns with
 |nil=>exact gf h (by decide)
 |cons n ns=>rw[dedup,Ë];lia
def sd_mem{i:Int}:i∈sortI (dedup ns)↔i∈ns:=by rw[mem_sort,mem_dedup]
def EH(ns:List Int)(lo hi:Option Int):cut (ns.map Val.int) lo hi=(cut ns lo hi).map Val.int:=by unfold cut;rw[Á,List.map_take,List.map_drop]
def Ps{a b:Int}(h0:0<=a)(h1:a<=b):cut xs (d9 a) (d9 b)=(xs.drop a.toNat).take (b.toNat - a.toNat):=by
 unfold cut fq;dsimp only;rw[fZ h0,fZ<|by lia];by_cases h:a.toNat<=xs.length
 .rw[aM h];by_cases h2:b.toNat<=xs.length
  .rw[aM h2]
  .rw[Nat.min_eq_right<|by lia];rw[bV (by rw[Τ];lia),bV<|by rw[Τ];lia]
 .rw[ĳ (by lia:xs.length<=min a.toNat xs.length),ĳ (by lia:xs.length<=a.toNat)];simp
def Nn{h:Hs}{d:Nat}:∀ns:List Int,(ns.map Val.int).mapM (dat h d)=d9 (ns.map D.int)
 |[]=>rfl
 |n::ns=>by rw[Ñ,ς,Nn ns,Ñ];cases d<;>rfl
def Aj{i:Int}:∀ns:List Int,((ns.map D.int).any λe=>D.eqv e<|.int i)=gg (i∈ns)
 |[]=>by simp
 |n::ns=>by
  rw[Ñ,Ķ,Aj ns,UC];by_cases h:n=i
  .simp[h]
  .simp[h,Ne.symm h]
def Mr{i:Int}:inL h (.int i) (ns.map .int)=d9 (gg (i∈ns)):=by unfold inL;rw[Nn];exact congrArg d9 (Aj ns)
def Yg(x:Ext h g)(e:h p=ee):Ext h<|upd g p o:=⟨λ{a u} z=>by rw[ej<|Za z e];exact x.get z⟩
abbrev far(t:Tie)(b:Int):Int:=if t.1=b then t.2.1 else t.1
abbrev fS(b:Int):Nat->List Tie->List Tie
 |_,[]=>[]
 |k,t::r=>if b=t.1\/b=t.2.1 then((k:Int),far t b,t.2.2)::fS b (k+1) r else fS b (k+1) r
def NB{b:Int}{t:Tie}:∀{l:List Tie}{k:Nat},fS b k (l++[t])=fS b k l++(if b=t.1\/b=t.2.1 then [(((k+l.length:Nat):Int),far t b,t.2.2)]else [])
 |[],k=>by show fS b k [t]=_;unfold fS;split<;>rfl
 |u::l,k=>by
  rw[af,fS,fS,NB,Ë,show k+1+l.length=k+(l.length+1) by lia];by_cases h:b=u.1\/b=u.2.1
  .rw[fZ h,fZ h,af]
  .rw[f8 h,f8 h]
def W2:∀{xs:List Val}{k i:Nat}{v:Val},(enumL k xs)[i]?=d9 v->∃x,xs[i]?=d9 x/\v=.tup [.int ((k+i:Nat):Int),x]
 |[],_,_,_,e=>by simp[enumL]at e
 |x::xs,k,0,v,e=>by have e:d9 (Val.tup [.int k,x])=d9 v:=e;cases e;exact⟨x,rfl,rfl⟩
 |x::xs,k,i+1,v,e=>by obtain⟨y,h1,h2⟩:=W2 (xs:=xs) (k:=k+1) (i:=i) (v:=v) (by simpa[enumL]using e);exact⟨y,by simpa using h1,by rw[h2,show k+1+i=k+(i+1) by lia]⟩
def Wn:∀(xs:List Val) (k:Nat),(enumL k xs).length=xs.length
 |[],_=>rfl
 |_::xs,k=>by simp[enumL,Wn xs<|k+1]
def JJ{i:Int}(q:KB<|gg (i∈ns)):go (eX h .isin (.int i)<|.tup<|ns.map .int) KB:=eK (by show inV h (.int i) (.tup _)=_;unfold inV;exact Mr) q
def Lb{i:Int}(q:KB (!gg (i∈ns))):go (eX h .notin (.int i)<|.tup<|ns.map .int) KB:=eK (by show(inV h (.int i)<|.tup _).map _=_;unfold inV;simp only[Mr];rfl) q
section
variable {bs:List Int}{ts:List Tie}
def Ub{t:Tie}{b:Int}(k:Q (.int<|far t b) h):wF P (n+1) "far_end" [trV t,.int b] h Q X:=by
 obtain⟨x,y,c⟩:=t;unfold trV;unfold far at k;dsimp only at k ⊢;refine By ?_;fail;by_cases e:x=b
 .refine fH (gb e) ?_;rw[fZ e]at k;refine' k
 .refine fI (f9 e) ?_;rw[f8 e]at k;refine' k
def XH{b:Int}(l:ts.length<=16)(k:∀p g,h p=ee->Ext h g->g p=d9 (.lst<|(fS b 0 ts).map trV)->Q (.ref p) g):wF P (n+2) "neighbours" [ZD bs ts,.int b] h Q X:=by
 unfold ZD;refine Ni ?_;refine' Zg λp g0 hp x0 e0=>?_
 exists eK rfl
 have nl:∀l:List Tie,∀k,(fS b k l).length<=l.length:=by
  intro l;induction l with
  |nil=>intro k;exact Ì _
  |cons t l ih =>intro k;have:=ih<|k+1;unfold fS;split<;>simp only[Ë]<;>lia
 refine Zk (λi en g=>Sm2 λv3 v4=>Cj3 (en=[d9<|.tup [.tup<|bs.map .int,.tup<|ts.map trV],d9<|.int b,d9<|.ref p,v3,v4]) (Ext h g)<|g p=d9 (.lst<|(fS b 0<|ts.take i).map trV)) ⟨_,_,rfl,x0,e0⟩ (λ_ _ _ _ _=>trivial) ?_ ?_
 .rintro i v en g hv ⟨v3,v4,rfl,x,ep⟩ K hK;obtain⟨y,hy,rfl⟩:=W2 hv;rw[Ö]at hy;obtain⟨t,ht,rfl⟩:=È.mp hy;have hi:i<ts.length:=(Î.mp ht).1;have hn:fS b 0 (ts.take<|i+1)=fS b 0 (ts.take i)++(if b=t.1\/b=t.2.1 then [((i:Int),far t b,t.2.2)]else []):=by
   rw[Ű,ht];have:=NB (b:=b) (t:=t) (l:=ts.take i) (k:=0);rw[đ,aM (by lia),ξ]at this;exact this
  rw[ξ];have et:trV t=.tup [.int t.1,.int t.2.1,.int t.2.2]:=rfl;fail;rw[et];refine fG (by simp[fq]) ?_;refine JJ (ns:=[t.1,t.2.1]) ?_;refine' fJ (λhc=>?_) (λhc=>?_)
  .exists Ub (t:=t)
   fail;have hl:=nl (ts.take i) 0;rw[đ]at hl;refine ZC ep (by rw[Á,lim];lia) ?_;refine' hK _ _ ⟨_,_,rfl,?_,?_⟩
   .exact Yg x hp
   .have hc:b=t.1\/b=t.2.1:=by simpa using hc
    rw[hn,fZ hc,Ø];exact ez
  .refine' hK _ _ ⟨_,_,rfl,x,?_⟩;have hc:¬ (b=t.1\/b=t.2.1):=by simpa using hc
   rw[hn,f8 hc,þ];exact ep
 .rintro en g ⟨v3,v4,rfl,x,ep⟩;rw[Wn,Á,ý]at ep;refine' k p g hp x ep
end
abbrev WL(rs:List Tie):List<|Int×(Int×Int):=rs.map λr=>(r.1,r.2)
def UD(rs:List Tie):(WL rs).map (·.1)=rs.map (·.1):=by unfold WL;rw[ê];rfl
abbrev ZU(own life most:Int)(rs:List Tie):Br:=⟨own,life,most,WL rs,[],⟨own,0,ee⟩,0,0⟩
variable {own:Int} {life:Int} {rs:List Tie}
def UE(hb:h b=d9 (.ins "Bridge" []))(hl:h l=d9 (.lst<|rs.map trV))(nd:(rs.map (·.1)).Nodup)(h16:rs.length<=16)
  (k:∀t d g,h t=ee->h d=ee->eQ g b t d (ZU own life most rs)->Ex [b] h g->Q .non g):wF P (n+1) "Bridge.__init__" [.ref b,.int own,.int life,.ref l,.int most] h Q X:=by
 have nlb:b≠l:=D5 hb hl nofun;refine Kk ?_;refine' Yz ez (show(1:Nat)<900 by decide) ?_;refine' Yz ez (show(2:Nat)<900 by decide) ?_;fail;intro t ht;rw[eC,eC]at ht ⊢;have ntb:b≠t:=Za ez ht;have nht:h t=ee:=by rw[ej ntb.symm]at ht;exact ht
 have ntl:l≠t:=Za hl nht;refine' Yz (upd_ne' ntb ez) (show(3:Nat)<900 by decide) ?_;fail;have hl1:∀{o1 o2 o3:Ob},upd (upd (upd h b o1) t o2) b o3 l=d9 (.lst<|rs.map trV):=λ{_ _ _}=>by rw[ej nlb.symm,ej ntl,ej nlb.symm];exact hl
 refine Zk (λi e g=>Sm3 λu v w=>Cj4 (e=[d9<|.ref b,d9<|.int own,d9<|.int life,d9<|.ref l,d9<|.int most,u,v,w]) (g b=d9 (.ins "Bridge" [("number",.int own),("life",.int life),("age_let_go",.int most),("ties_by_place",.ref t)])) (g t=d9 (.dct<|Ze M6<|WL<|rs.take i))<|Ex [b] h g) ⟨ee,ee,ee,rfl,ez,by rw[ej ntb.symm];exact ez,?_⟩ ?_ ?_ ?_
 .refine⟨λ{a o} na e=>?_⟩;have nab:a≠b:=by simpa using na
  rw[ej nab,ej<|Za e nht,ej nab];exact e
 .rintro i e g _ ⟨u,v,w,rfl,h1,h2,h3⟩;exact lsE (h3.get (by simpa using nlb.symm) hl)
 .rintro i v e g hv ⟨u,v,w,rfl,h1,h2,h3⟩ K hK;obtain⟨r,hp,rfl⟩:=ZF hv;have nk:=ZO nd hp;obtain⟨p,nb,c⟩:=r;unfold trV;refine' Z9 (k:=.int p) h2 ⟨rfl,?_⟩ ?_
  .rw[X9];unfold WL;rw[Á];exact Ò (á (ϙ _ _) h16) (by decide)
  rw[show Val.tup [.int nb,.int c]=M6 (nb,c) from rfl,ZG];refine' hK _ _ ⟨_,_,_,rfl,by rw[ej ntb];exact h1,?_,?_⟩
  .rw[ez,Yj,Zj hp]
   .unfold WL;rw[Ø];rfl
   .rw[UD];exact nk
  .exact⟨λna e=>by rw[ej<|Za e nht];exact h3.get na e⟩
 .rintro e g ⟨u,v,w,rfl,h1,h2,h3⟩;rw[Á,ý]at h2;fail;intro d hd;have ndb:b≠d:=Za h1 hd;have ndt:t≠d:=Za h2 hd;have nhd:h d=ee:=h3.none (by rw[h1];intro z;cases z) hd;refine' Yz ez (show(5:Nat)<900 by decide) ?_;refine' Yz ez (show(6:Nat)<900 by decide) ?_;refine' Yz ez (show(7:Nat)<900 by decide) ?_;fail;rw[eC,eC,eC];refine k t d _ nht nhd ⟨ez,?_,?_,ndt⟩ ?_
  .rw[ej ntb.symm,ej ndt];exact h2
  .rw[ej ndb.symm];exact ez
  .exact(h3.trans<|.of<|Ext.new hd).trans (Ex.upd<|by simp)
def JV{b:Int}:∀{l:List Tie}{k:Nat},((fS b k l).map (·.1)).Pairwise (· < ·)/\∀r∈fS b k l,(k:Int)<=r.1/\r.1<(k+l.length:Nat)
 |[],k=>⟨by simp[fS],λr hr=>gf hr<|by simp[fS]⟩
 |t::l,k=>by
  obtain⟨h1,h2⟩:=JV (b:=b) (l:=l) (k:=k+1);unfold fS;split
  .refine⟨?_,λr hr=>?_⟩
   .rw[Ñ,du];refine⟨λx hx=>?_,h1⟩;obtain⟨r,hr,rfl⟩:=Ð.mp hx;have:=(h2 r hr).1;show(k:Int)<r.1;lia
   .rcases Ç.mp hr with rfl|hr
    .exact⟨Ν _,by show(k:Int)<((k+(t::l).length:Nat):Int);rw[Ë];lia⟩
    .have:=h2 r hr;rw[Ë];lia
  .refine⟨h1,λr hr=>?_⟩;have:=h2 r hr;rw[Ë];lia
def U5{b:Int}:∀{l:List Tie}{k:Nat},(fS b k l).length<=l.length
 |[],k=>Ì _
 |t::l,k=>by have:=U5 (b:=b) (l:=l) (k:=k+1);unfold fS;split<;>simp only[Ë]<;>lia
structure En where
 num:Int
 b:Ad
 t:Ad
 d:Ad
 B:Br
structure Yd where
 y:Ad
 lv:Ad
 st:Ad
 fl:Ad
 rd:Ad
 bs:List Int
 ts:List Tie
 most:Int
 lives:List<|Int×Int
 es:List En
 fallen:List<|Int×Bool
 road:List<|Int×Int×Int×L
abbrev enA(es:List En):List Ad:=es.flatMap λe=>[e.b,e.t,e.d]
abbrev Yd.adr(Y:Yd):List Ad:=[Y.y,Y.lv,Y.st,Y.fl,Y.rd]++enA Y.es
noncomputable abbrev rfV(a:Ad):Val:=.ref a
noncomputable abbrev rdV(r:Int×Int×Int×L):Val:=.tup [.int r.1,.int r.2.1,.int r.2.2.1,r.2.2.2.v]
abbrev stands(es:List En):List<|Int×Ad:=es.map λe=>(e.num,e.b)
def ZN(es:List En):(stands es).map (·.1)=es.map (·.num):=by unfold stands;rw[ê];rfl
structure eR(h:Hs)(Y:Yd):Prop where
 ins:h Y.y=d9 (.ins "Yard" [("net_made_of",ZD Y.bs Y.ts),("greatest_age",.int Y.most),("lives",.ref Y.lv),("standing",.ref Y.st),("ties_fallen",.ref Y.fl),("letters_on_road",.ref Y.rd)])
 lives:h Y.lv=d9 (.dct<|Ze Val.int Y.lives)
 stand:h Y.st=d9 (.dct<|Ze rfV<|stands Y.es)
 fallen:h Y.fl=d9 (.dct<|Ze Val.bl Y.fallen)
 road:h Y.rd=d9 (.lst<|Y.road.map rdV)
 brs:∀e∈Y.es,eQ h e.b e.t e.d e.B
 nd:Y.adr.Nodup
 key:(Y.es.map (·.num)).Nodup
variable {es:List En} {e:En}
def WG(h:e∈es):e.b∈enA es/\e.t∈enA es/\e.d∈enA es:=by refine⟨?_,?_,?_⟩<;>exact š.mpr ⟨e,h,by simp⟩
def Ws(es:List En)(e:En):enA (es++[e])=enA es++[e.b,e.t,e.d]:=by unfold enA;rw[ϡ];simp
variable {Y:Yd}
def eR.keep{S:List Ad}(x:eR h Y)(e:Ex S h g)(ds:∀a∈Y.adr,a∉S):eR g Y:=by have m:∀a∈[Y.y,Y.lv,Y.st,Y.fl,Y.rd],a∉S:=λa ha=>ds a<|Ú _ ha;refine⟨e.get (m _<|by simp) x.ins,e.get (m _<|by simp) x.lives,e.get (m _<|by simp) x.stand,e.get (m _<|by simp) x.fallen,e.get (m _<|by simp) x.road,λb hb=>?_,x.nd,x.key⟩;obtain⟨q1,q2,q3⟩:=WG hb;exact(x.brs b hb).keep e (ds _<|É _ q1) (ds _<|É _ q2) (ds _<|É _ q3)
def eR.ext(x:eR h Y)(e:Ext h g):eR g Y:=x.keep (S:=[]) (.of e) λ_ _=>by simp
def eR.taken(x:eR h Y)(ha:a∈Y.adr):h a≠ee:=by
 rcases Ü.mp ha with ha|ha
 .simp only[Ç,Ù,or_false]at ha;rcases ha with rfl|rfl|rfl|rfl|rfl
  .rw[x.ins];simp
  .rw[x.lives];simp
  .rw[x.stand];simp
  .rw[x.fallen];simp
  .rw[x.road];simp
 .obtain⟨e,he,ha⟩:=š.mp ha;have:=x.brs e he;simp only[Ç,Ù,or_false]at ha;rcases ha with rfl|rfl|rfl
  .rw[this.ins];simp
  .rw[this.ties];simp
  .rw[this.held];simp
def Yd.sep(nd:Y.adr.Nodup)(ha:a∈[Y.y,Y.lv,Y.st,Y.fl,Y.rd])(hb:b∈enA Y.es):b≠a:=λz=>(æ.mp nd).2.2 a ha b hb z.symm
def Yd.five(nd:Y.adr.Nodup):(Y.y≠Y.lv/\Y.y≠Y.st/\Y.y≠Y.fl/\Y.y≠Y.rd)/\(Y.lv≠Y.st/\Y.lv≠Y.fl/\Y.lv≠Y.rd)/\(Y.st≠Y.fl/\Y.st≠Y.rd)/\Y.fl≠Y.rd:=by have:=(æ.mp nd).1;simp only[Ā,Ç,Ù,or_false,not_or,not_false_eq_true,Ģ,and_true]at this;obtain⟨⟨a1,a2,a3,a4⟩,⟨b1,b2,b3⟩,⟨c1,c2⟩,d1⟩:=this;exact⟨⟨a1,a2,a3,a4⟩,⟨b1,b2,b3⟩,⟨c1,c2⟩,d1⟩
def eQ.off(x:eQ h e.b e.t e.d e.B)(he:e∈es)(n:∀b∈enA es,b≠a):eQ (upd h a o) e.b e.t e.d e.B:=by obtain⟨q1,q2,q3⟩:=WG he;exact⟨(ej<|n _ q1).trans x.ins,(ej<|n _ q2).trans x.ties,(ej<|n _ q3).trans x.held,x.ne⟩
def eR.setLives(x:eR h Y)(l:List<|Int×Int):eR (upd h Y.lv<|.dct<|Ze Val.int l) {Y with lives:=l}:=by obtain⟨⟨a1,a2,a3,a4⟩,⟨b1,b2,b3⟩,_,_⟩:=Yd.five x.nd;exact⟨(ej a1).trans x.ins,ez,(ej b1.symm).trans x.stand,(ej b2.symm).trans x.fallen,(ej b3.symm).trans x.road,λe he=>(x.brs e he).off he λb hb=>Yd.sep x.nd (by simp) hb,x.nd,x.key⟩
def eR.setRoad(x:eR h Y)(l:List<|Int×Int×Int×L):eR (upd h Y.rd<|.lst<|l.map rdV) {Y with road:=l}:=by obtain⟨⟨a1,a2,a3,a4⟩,⟨b1,b2,b3⟩,⟨c1,c2⟩,d1⟩:=Yd.five x.nd;exact⟨(ej a4).trans x.ins,(ej b3).trans x.lives,(ej c2).trans x.stand,(ej d1).trans x.fallen,ez,λe he=>(x.brs e he).off he λb hb=>Yd.sep x.nd (by simp) hb,x.nd,x.key⟩
def eR.stands(x:eR h Y)(hb:eQ h e.b e.t e.d e.B)(hn:e.num∉Y.es.map (·.num))(fr:∀a∈[e.b,e.t,e.d],a∉Y.adr):eR (upd h Y.st<|.dct<|Ze rfV<|stands<|Y.es++[e]) {Y with es:=Y.es++[e]}:=by
 obtain⟨⟨a1,a2,a3,a4⟩,⟨b1,b2,b3⟩,⟨c1,c2⟩,d1⟩:=Yd.five x.nd;have ŷ:Y.st∈Y.adr:=Ú _ (by simp);have nb:∀a∈enA (Y.es++[e]),a≠Y.st:=λa ha=>by
  rw[Ws]at ha;rcases Ü.mp ha with ha|ha
  .exact Yd.sep x.nd (by simp) ha
  .exact λz=>fr a ha<|z▸ŷ
 refine⟨(ej a2).trans x.ins,(ej b1).trans x.lives,ez,(ej c1.symm).trans x.fallen,(ej c2.symm).trans x.road,λq hq=>?_,?_,?_⟩
 .refine eQ.off ?_ hq nb;rcases Ü.mp hq with hq|hq
  .exact x.brs q hq
  .rw[Ó.mp hq];exact hb
 .show([Y.y,Y.lv,Y.st,Y.fl,Y.rd]++enA (Y.es++[e])).Nodup;rw[Ws,<-Ĕ,æ];refine⟨x.nd,?_,λa ha b hb z=>fr b hb<|z▸ha⟩;simp[hb.nbt,hb.nbd,hb.ne]
 .show((Y.es++[e]).map (·.num)).Nodup;rw[Ø,æ];refine⟨x.key,by simp,λa ha b hb=>?_⟩;have:b=e.num:=by simpa using hb
  rw[this];exact λz=>hn<|z▸ha
def Jg{h0:Hs}{fs:List (String×Val)}{f:String}{K:Hs->Prop}(i:g p=d9 (.ins "Yard" fs))(x:Ex [p] h0 g)(hp:h0 p=ee)(ha:g a=ee)(m:fs.length<900)(q:∀g',g' p=d9 (.ins "Yard"<|eW fs f<|.ref a)->g' a=d9 o->Ex [p] h0 g'->Ex [p] g g'->p≠a->h0 a=ee->K g'):go (fA (upd g a o) (.ref p) f<|.ref a) K:=by
 have n:=Za i ha;have y:Ex [p] g<|upd (upd g a o) p<|.ins "Yard"<|eW fs f<|.ref a:=⟨λ{b u} nb e=>by rw[ej λz=>nb<|by simp[z],ej<|Za e ha];exact e⟩
 refine Yz (upd_ne' n i) m<|q _ ez ((ej n.symm).trans ez) (x.trans y) y n ?_;cases z:h0 a with
 |none=>rfl
 |some u=>rw[x.get (by simpa using n.symm) z]at ha;cases ha
structure YNew(bs:List Int)(ts:List Tie)(most:Int)(Y:Yd):Prop where
 hb:Y.bs=bs
 ht:Y.ts=ts
 hm:Y.most=most
 num:Y.es.map (·.num)=bs
 br:∀e∈Y.es,e.B=ZU e.num 0 most (fS e.num 0 ts)
 fallen:Y.fallen=[]
 road:Y.road=[]
 lives:Y.lives=bs.map λb=>(b,0)
section
variable {bs:List Int}{ts:List Tie}
def Du(no:eZ bs ts)(hp:h p=ee)(k:∀Y g,Y.y=p->eR g Y->YNew bs ts most Y->(∀a∈Y.adr,h a=ee)->Ext h g->Q .non g):wF P (n+3) "Yard.__init__" [.ref p,ZD bs ts,.int most] (upd h p<|.ins "Yard" []) Q X:=by
 have h10:=no.ten;have h16:=no.sixteen;have hbl:(bs.map Val.int).length=bs.length:=Á _;have ndb:bs.Nodup:=no.up.imp λh=>by lia
 refine NC ?_;refine' Yz ez (show(1:Nat)<900 by decide) ?_;rw[eC,eC];have i1:=ez (h:=h) (a:=p) (o:=Ob.ins "Yard"<|eW (eW [] "net_made_of"<|ZD bs ts) "greatest_age"<|.int most);have x1:Ex [p] h<|upd h p<|Ob.ins "Yard"<|eW (eW [] "net_made_of"<|ZD bs ts) "greatest_age"<|.int most:=Ex.upd (by simp);generalize upd h p (Ob.ins "Yard"<|eW (eW [] "net_made_of"<|ZD bs ts) "greatest_age"<|.int most)=g1 at i1 x1 ⊢;fail;intro lv hlv;refine' Jg i1 x1 hp hlv (show(2:Nat)<900 by decide) λg2 i2 lv2 x2 y2 nlv flv=>?_;fail;intro st ŷ;refine' Jg i2 x2 hp ŷ (show(3:Nat)<900 by decide) λg3 i3 st3 x3 y3 nst fst=>?_;fail;intro fl hfl;refine' Jg i3 x3 hp hfl (show(4:Nat)<900 by decide) λg4 i4 fl4 x4 y4 nfl ffl=>?_;refine' Xv λrd hrd=>?_;refine' Jg i4 x4 hp hrd (show(5:Nat)<900 by decide) λg5 i5 rd5 x5 y5 nrd frd=>?_;have q1:lv≠st:=Za lv2 ŷ;have lv3:=y3.get (by simpa using nlv.symm) lv2;have q2:lv≠fl:=Za lv3 hfl;have q3:st≠fl:=Za st3 hfl;have lv4:=y4.get (by simpa using nlv.symm) lv3;have st4:=y4.get (by simpa using nst.symm) st3;have q4:lv≠rd:=Za lv4 hrd;have q5:st≠rd:=Za st4 hrd;have q6:fl≠rd:=Za fl4 hrd;have lv5:=y5.get (by simpa using nlv.symm) lv4;have st5:=y5.get (by simpa using nst.symm) st4;have fl5:=y5.get (by simpa using nfl.symm) fl4;have xe:Ext h g5:=⟨λ{a o} e=>x5.get (by simpa using Za e hp) e⟩
 have Y0:eR g5 ⟨p,lv,st,fl,rd,bs,ts,most,[],[],[],[]⟩:=⟨i5,lv5,st5,fl5,rd5,(λe he=>gf he Ù),by
   show([p,lv,st,fl,rd]++[]).Nodup
   simp[nlv,nst,nfl,nrd,q1,q2,q3,q4,q5,q6],Ģ⟩
 exists eL (xs:=[.tup<|bs.map .int,.tup<|ts.map trV]) (v:=.tup<|bs.map .int) rfl
 refine' Zk (λi en g=>Sm3 λv3 lvs es=>Cj7 (en=[d9<|.ref p,d9<|ZD bs ts,d9<|.int most,v3]) (eR g ⟨p,lv,st,fl,rd,bs,ts,most,lvs,es,[],[]⟩) (lvs=(bs.take i).map (λb=>(b,0))) (es.map (·.num)=bs.take i) ((∀e∈es,e.B=ZU e.num 0 most (fS e.num 0 ts))) ((∀a∈[p,lv,st,fl,rd]++enA es,h a=ee))<|Ext h g) ⟨_,[],[],rfl,Y0,rfl,rfl,(λe he=>gf he Ù),?_,xe⟩ (λ_ _ _ _ _=>trivial) ?_ ?_
 .intro a ha;simp only[enA,List.flatMap_nil,þ,Ç,Ù,or_false]at ha;rcases ha with rfl|rfl|rfl|rfl|rfl<;>assumption
 .rintro i v en g hv ⟨v3,lvs,es,rfl,Y,hlv,hnum,hbr,bE,x⟩ K hK;obtain⟨b,hb,rfl⟩:=ZF hv;have hi:i<bs.length:=(Î.mp hb).1;have hnb:b∉es.map (·.num):=by
   rw[hnum];intro m;have:=ZO (f:=id) (by rw[Ū];exact ndb) hb;rw[Ū]at this;exact this m
  have hll:lvs.length<=10:=by rw[hlv,Á,đ];lia
  have hkl:b∉lvs.map (·.1):=by rw[hlv,ê,show((λq:Int×Int=>q.1) ∘ λb:Int=>(b,(0:Int)))=id from rfl,Ū,<-hnum];exact hnb
  have hesl:es.length<=10:=by rw[<-Á (f:=(·.num)) (as:=es),hnum,đ];lia
  obtain⟨yi,yl,ys,yf,yr,yb,ynd,yk⟩:=id Y;dsimp only at yi yl ys yf yr yb;refine' Z9 (k:=.int b) yl ⟨rfl,by rw[X9];exact Ò hll<|by decide⟩ ?_;rw[ZG (val:=Val.int)];have Y1:=Y.setLives<|Zp lvs b 0;have x1:Ext h<|upd g lv<|.dct<|Ze Val.int<|Zp lvs b 0:=⟨λe=>by rw[ej<|Za e flv];exact x.get e⟩
  dsimp only at Y1;generalize upd g lv (.dct<|Ze Val.int<|Zp lvs b 0)=g6 at Y1 x1;obtain⟨zi,zl,zs,zf,zr,zb,znd,zk⟩:=id Y1;dsimp only at zi zl zs zf zr zb;refine' XH h16 λpn g7 hpn x7 en=>?_;have Y7:=Y1.ext x7;fail;intro q hq;have nr:=JV (b:=b) (l:=ts) (k:=0);have nl:=U5 (b:=b) (l:=ts) (k:=0);have xq:Ext g7<|upd g7 q<|.ins "Bridge" []:=Ext.new hq;have eq:(upd g7 q<|.ins "Bridge" []) q=d9 (.ins "Bridge" []):=ez;refine UE (rs:=fS b 0 ts) eq (xq.get en) (nr.1.imp λz=>by lia) (by lia) λt d g8 ht hd ba x8=>?_;have x78:Ext g7 g8:=⟨λ{a o} e=>x8.get (by simpa using Za e hq)<|xq.get e⟩
  have Y8:=Y7.ext x78;have ht7:g7 t=ee:=by cases z:g7 t with|none=>rfl|some o=>rw[xq.get z]at ht;cases ht
  have hd7:g7 d=ee:=by cases z:g7 d with|none=>rfl|some o=>rw[xq.get z]at hd;cases hd
  refine⟨rfl,?_⟩;obtain⟨wi,wl,ws,wf,wr,wb,wnd,wk⟩:=id Y8;dsimp only at wi wl ws wf wr wb;refine' Z9 (k:=.int b) ws ⟨rfl,by rw[X9];unfold stands;rw[Á];exact Ò hesl<|by decide⟩ ?_;rw[ZG (val:=rfV),Yj _<|by rw[ZN];exact hnb];have ŷ:stands es++[(b,q)]=stands (es++[⟨b,q,t,d,ZU b 0 most<|fS b 0 ts⟩]):=by unfold stands;rw[Ø];rfl
  rw[ŷ];have fr:∀a∈[q,t,d],g7 a=ee:=λa ha=>by simp only[Ç,Ù,or_false]at ha;rcases ha with rfl|rfl|rfl<;>assumption
  have Y9:=Y8.stands (e:=⟨b,q,t,d,ZU b 0 most<|fS b 0 ts⟩) ba hnb λa ha z=>Y7.taken z<|fr a ha;fail;have x9:Ext h g8:=(x1.trans x7).trans x78;refine hK _ _ ⟨_,_,_,rfl,Y9,?_,?_,?_,?_,⟨λe=>by rw[ej<|Za e fst];exact x9.get e⟩⟩
  .show Zp lvs b 0=_;rw[Yj _ hkl,hlv,Zj hb,Ø];rfl
  .rw[Ø,hnum,Ű,hb];rfl
  .intro e he;rcases Ü.mp he with he|he
   .exact hbr e he
   .rw[Ó.mp he]
  .intro a ha;rw[Ws,<-Ĕ]at ha;rcases Ü.mp ha with ha|ha
   .exact bE a ha
   .cases z:h a with
    |none=>rfl
    |some o=>have:=fr a ha;rw[(x1.trans x7).get z]at this;cases this
 .rintro en g ⟨v3,lvs,es,rfl,Y,hlv,hnum,hbr,bE,x⟩;rw[hbl,ý]at hnum hlv;refine' k _ g rfl Y ⟨rfl,rfl,rfl,hnum,hbr,rfl,rfl,hlv⟩ bE x
end
abbrev Yp(ts:List Tie)(p num:Int):Int:=far (ts[p.toNat]?.getD (0,0,0)) num
abbrev Yw(ts:List Tie)(num:Int)(B:Br):List<|Int×Int×Int×L:=(sortI (B.ties.map (·.1))).map λp=>(num,Yp ts p num,p,Zx B p)
def Xc{num:Int}(h:(stands es).lookup num=d9 b):∃e pre ĸ,es=pre++e::ĸ/\e.num=num/\e.b=b:=by have:=Zf h;unfold stands at this;obtain⟨e,he,z⟩:=Ð.mp this;obtain⟨pre,ĸ,rfl⟩:=dB he;injection z with z1 z2;exact⟨e,pre,ĸ,rfl,z1,z2⟩
def YK(pre ĸ:List En)(e:En):enA (pre++e::ĸ)=enA pre++([e.b,e.t,e.d]++enA ĸ):=by unfold enA;rw[ϡ];rfl
variable {ĸ:List En}
def eR.change{pre:List En}(x:eR h Y)(he:Y.es=pre++e::ĸ)(ex:Ex [e.b] h g)(hb:eQ g e.b t d B)(ft:t=e.t\/h t=ee)(fd:d=e.d\/h d=ee):eR g {Y with es:=pre++⟨e.num,e.b,t,d,B⟩::ĸ}:=by
 obtain⟨y,lv,st,fl,rd,bs,ts,most,lives,es,fallen,road⟩:=Y;dsimp only at he;subst he;have hm:e∈pre++e::ĸ:=by simp
 have heA:=WG hm;have nb:∀a∈[y,lv,st,fl,rd],a∉[e.b]:=λa ha z=>Yd.sep x.nd ha heA.1 (Ó.mp z).symm;have nd0:([y,lv,st,fl,rd]++(enA pre++([e.b,e.t,e.d]++enA ĸ))).Nodup:=by rw[<-YK];exact x.nd
 have key:∀q∈pre++ĸ,eQ g q.b q.t q.d q.B:=λq hq=>by
  have hq':q∈pre++e::ĸ:=by
   rcases Ü.mp hq with z|z
   .exact Ú _ z
   .exact É _<|â _ z
  have nq:∀a∈[q.b,q.t,q.d],a≠e.b:=λa ha z=>by
   have n1:=(æ.mp nd0).2.1;rcases Ü.mp hq with hq|hq
   .have ha':a∈enA pre:=š.mpr ⟨q,hq,ha⟩;exact(æ.mp n1).2.2 a ha' e.b (by simp) z
   .have ha':a∈enA ĸ:=š.mpr ⟨q,hq,ha⟩;have n2:=(æ.mp n1).2.1;exact(æ.mp n2).2.2 e.b (by simp) a ha' z.symm
  exact(x.brs q hq').keep ex (by simpa using nq _ (by simp)) (by simpa using nq _ (by simp)) (by simpa using nq _ (by simp))
 have tk:∀a∈[y,lv,st,fl,rd]++(enA pre++([e.b,e.t,e.d]++enA ĸ)),h a≠ee:=λa ha=>x.taken (by show a∈[y,lv,st,fl,rd]++enA (pre++e::ĸ);rw[YK];exact ha);have fr:∀{a c:Ad},(a=c\/h a=ee)->∀z,z∈[y,lv,st,fl,rd]++(enA pre++([e.b,e.t,e.d]++enA ĸ))->z≠c->z≠a:=λf z hz nc e=>by
  subst e;rcases f with f|f
  .exact nc f
  .exact tk z hz f
 refine⟨ex.get (nb _<|by simp) x.ins,ex.get (nb _<|by simp) x.lives,?_,ex.get (nb _<|by simp) x.fallen,ex.get (nb _<|by simp) x.road,λq hq=>?_,?_,?_⟩
 .have:=ex.get (nb st<|by simp) x.stand;dsimp only at this ⊢;rw[this];unfold O.stands;simp
 .dsimp only at hq;rcases Ü.mp hq with z|z
  .exact key q<|Ú _ z
  .rcases Ç.mp z with rfl|z
   .exact hb
   .exact key q<|É _ z
 .show([y,lv,st,fl,rd]++enA (pre++⟨e.num,e.b,t,d,B⟩::ĸ)).Nodup;rw[YK];dsimp only;have n1:=æ.mp nd0;have n2:=æ.mp n1.2.1;have n3:=æ.mp n2.2.1;have e3:e.b≠e.t/\e.b≠e.d/\e.t≠e.d:=by
   have:=n3.1;simp only[Ā,Ç,Ù,or_false,not_or,Ģ,and_true,not_false_eq_true]at this;exact⟨this.1.1,this.1.2,this.2⟩
  have out:∀z,z∈[y,lv,st,fl,rd]\/z∈enA pre\/z∈enA ĸ->z∉[e.b,t,d]:=λz hz m=>by
   have hza:z∈[y,lv,st,fl,rd]++(enA pre++([e.b,e.t,e.d]++enA ĸ)):=by
    rcases hz with q|q|q
    .exact Ú _ q
    .exact É _<|Ú _ q
    .exact É _<|É _<|É _ q
   have nz:∀c∈[e.b,e.t,e.d],z≠c:=λc hc w=>by
    rcases hz with q|q|q
    .exact n1.2.2 z q c (É _<|Ú _ hc) w
    .exact n2.2.2 z q c (Ú _ hc) w
    .exact n3.2.2 c hc z q w.symm
   simp only[Ç,Ù,or_false]at m;rcases m with m|m|m
   .exact nz e.b (by simp) m
   .exact fr ft z hza (nz e.t<|by simp) m
   .exact fr fd z hza (nz e.d<|by simp) m
  refine æ.mpr ⟨n1.1,æ.mpr ⟨n2.1,æ.mpr ⟨?_,n3.2.1,λa ha b hb z=>out b (.inr<|.inr hb)<|z▸ha⟩,λa ha b hb z=>?_⟩,λa ha b hb z=>?_⟩
  .simp[hb.nbt,hb.nbd,hb.ne]
  .rcases Ü.mp hb with q|q
   .exact out a (.inr<|.inl ha)<|z▸q
   .exact n2.2.2 a ha b (É _ q) z
  .rcases Ü.mp hb with q|q
   .exact n1.2.2 a ha b (Ú _ q) z
   .rcases Ü.mp q with q|q
    .exact out a (.inl ha)<|z▸q
    .exact n1.2.2 a ha b (É _<|É _ q) z
 .have:=x.key;simpa using this
def eR.inner{pre:List En}(x:eR h Y)(he:Y.es=pre++e::ĸ)(ex:Ex [e.b,e.t,e.d] h g)(hb:eQ g e.b e.t e.d B):eR g {Y with es:=pre ++ {e with B:=B} :: ĸ}:=by
 obtain⟨y,lv,st,fl,rd,bs,ts,most,lives,es,fallen,road⟩:=Y;dsimp only at he;subst he;have nd0:([y,lv,st,fl,rd]++(enA pre++([e.b,e.t,e.d]++enA ĸ))).Nodup:=by rw[<-YK];exact x.nd
 have n1:=æ.mp nd0;have n2:=æ.mp n1.2.1;have n3:=æ.mp n2.2.1;have nb:∀a∈[y,lv,st,fl,rd],a∉[e.b,e.t,e.d]:=λa ha z=>n1.2.2 a ha a (É _<|Ú _ z) rfl;have key:∀q,q∈pre\/q∈ĸ->eQ g q.b q.t q.d q.B:=λq hq=>by
  have hq':q∈pre++e::ĸ:=by
   rcases hq with z|z
   .exact Ú _ z
   .exact É _<|â _ z
  have nq:∀a∈[q.b,q.t,q.d],a∉[e.b,e.t,e.d]:=λa ha z=>by
   rcases hq with hq|hq
   .exact n2.2.2 a (š.mpr ⟨q,hq,ha⟩) a (Ú _ z) rfl
   .exact n3.2.2 a z a (š.mpr ⟨q,hq,ha⟩) rfl
  exact(x.brs q hq').keep ex (nq _<|by simp) (nq _<|by simp) (nq _<|by simp)
 refine⟨ex.get (nb _<|by simp) x.ins,ex.get (nb _<|by simp) x.lives,?_,ex.get (nb _<|by simp) x.fallen,ex.get (nb _<|by simp) x.road,λq hq=>?_,?_,?_⟩
 .have:=ex.get (nb st<|by simp) x.stand;dsimp only at this ⊢;rw[this];unfold O.stands;simp
 .dsimp only at hq;rcases Ü.mp hq with z|z
  .exact key q<|.inl z
  .rcases Ç.mp z with rfl|z
   .exact hb
   .exact key q<|.inr z
 .show([y,lv,st,fl,rd]++enA (pre ++ {e with B:=B} :: ĸ)).Nodup;rw[YK];exact nd0
 .have:=x.key;dsimp only at this ⊢;simpa using this
def Pp{xs:List Val}{v:Val}{p:Nat}{K:Val×Hs->Prop}(e1:h a=d9 (.lst xs))(e:xs[p]?=d9 v)(m:xs.length<=500000)(q:K (v,upd h a<|.lst<|xs.eraseIdx p)):go (bmV h .popAt (.ref a) [.int p]) K:=by
 have hp:p<xs.length:=(Î.mp e).1;have h1:-(2 ^ 62)<(p:Int)/\(p:Int)<2 ^ 62:=by
  have:(p:Int)<500000:=by lia
  exact⟨Int.lt_of_lt_of_le (by decide:(-(2 ^ 62):Int)<0)<|d7 p,Int.lt_trans this<|by decide⟩
 have h2:ixN xs.length (p:Int)=d9 p:=by unfold ixN;rw[fZ<|d7 p,fZ (by lia),ç]
 have h3:bmPopAt h [.int p] a xs=d9 (v,upd h a<|.lst<|xs.eraseIdx p):=by unfold bmPopAt;dsimp only;rw[fZ h1,h2];simp only[û,e,Ő]
 exact eK (by show(eS<|h a).bind (bmPopAt h [.int p] a)=_;rw[lsE e1,û];exact h3) q
def K8{α β:Type}(f:α->β):∀(l:List α) (i:Nat),(l.map f).eraseIdx i=(l.eraseIdx i).map f
 |[],_=>by simp
 |_::_,0=>by simp
 |x::l,i+1=>by simp[K8 f l i]
section
variable {Y:Yd}{p:Nat}
variable {r:Int×Int×Int×L}
def XO(x:eR h Y)(hr:Y.road[p]?=d9 r)(hl:Y.road.length<=500000)(k:∀g,eR g {Y with road:=Y.road.eraseIdx p}->Ex [Y.rd] h g->Q (rdV r) g):wF P (n+1) "Yard.take_off" [.ref Y.y,.int p] h Q X:=by have xi:=x.ins;have xr:=x.road;have hp:p<Y.road.length:=(Î.mp hr).1;have hrl:(Y.road.map rdV).length=Y.road.length:=Á _;refine WS ?_;fail;refine fH (by simp) ?_;fail;refine fI (by rw[hrl];simpa using hp) ?_;refine' Pp xr (by rw[Ö,hr];rfl) (by lia) ?_;rw[K8];exact k _ (x.setRoad _) (Ex.upd<|by simp)
def F2{pre:List En}(x:eR h Y)(hr:Y.road[p]?=d9 r)(hl:Y.road.length<=500000)(he:Y.es=pre++e::ĸ)(hg:r.2.1=e.num)(o:e.B.ok)
  (k:∀g,eR g {Y with es:=pre ++ {e with B:=Z0 e.B r.2.2.1 r.2.2.2} :: ĸ,road:=Y.road.eraseIdx p}->Ex Y.adr h g->Q .non g):wF P (n+3) "Yard.come" [.ref Y.y,.int p] h Q X:=by
 have xi:=x.ins;have hm:e∈Y.es:=by rw[he];simp
 have lk:(stands Y.es).lookup r.2.1=d9 e.b:=by rw[hg];exact Z6 (by rw[ZN];exact x.key)<|Ð.mpr ⟨e,hm,rfl⟩
 refine WN ?_;refine' XO x hr hl λg1 y1 x1=>?_;have yi:=y1.ins;have ys:=y1.stand;have ba:=y1.brs e hm;have bi:=ba.ins;dsimp only at yi ys;obtain⟨rs,rg,rt,rl⟩:=r;dsimp only at lk hg k
 exists JG ys rfl
 rw[Yq,lk];walk_at "p";refine Zy ys rfl (by rw[ZA,lk];rfl) ?_;refine' Fo ba o λg2 b2 x2=>?_;have y2:=y1.inner (e:=e) he (x2.sub<|by simp) b2;have mA:=WG hm;refine' k g2 y2 ((x1.sub λa ha=>?_).trans<|x2.sub λa ha=>?_)
 .rw[Ó.mp ha];exact Ú _ (by simp)
 .rw[Ó.mp ha];exact É _ mA.2.2
def DE(x:eR h Y)(hr:Y.road[p]?=d9 r)(hl:Y.road.length<=500000)(hg:r.2.1∉Y.es.map (·.num))
  (k:∀g,eR g {Y with road:=Y.road.eraseIdx p}->Ex Y.adr h g->Q .non g):wF P (n+3) "Yard.come" [.ref Y.y,.int p] h Q X:=by
 have xi:=x.ins;have lk:(stands Y.es).lookup r.2.1=ee:=by
  cases z:(stands Y.es).lookup r.2.1 with
  |none=>rfl
  |some q =>have:=ó (f:=(·.1))<|Zf z;rw[ZN]at this;exact gf this hg
 refine WN ?_;refine' XO x hr hl λg1 y1 x1=>?_;have yi:=y1.ins;have ys:=y1.stand;dsimp only at yi ys;obtain⟨rs,rg,rt,rl⟩:=r;dsimp only at lk hg k
 exists JG ys rfl
 rw[Yq,lk];walk_at "p";exact k g1 y1 (x1.sub λa ha=>by rw[Ó.mp ha];exact Ú _<|by simp)
end
abbrev Yu(k:Int)(F:Br->Br)(es:List En):List En:=es.map λe=>if e.num=k then {e with B:=F e.B} else e
def X5{k:Int}{F:Br->Br}:∀{es:List En},k∉es.map (·.num)->Yu k F es=es
 |[],_=>rfl
 |e::es,h=>by rw[Ñ,Ç,not_or]at h;unfold Yu;rw[Ñ,f8 λz=>h.1 z.symm];exact congrArg (e :: ·)<|X5 h.2
variable {F:Br->Br}
def NY{pre:List En}(nd:((pre++e::ĸ).map (·.num)).Nodup):Yu e.num F (pre++e::ĸ)=pre ++ {e with B:=F e.B} :: ĸ:=by rw[Ø,Ñ,æ,Ā]at nd;have h1:Yu e.num F pre=pre:=X5 λz=>nd.2.2 _ z e.num (by simp) rfl;have h2:Yu e.num F ĸ=ĸ:=X5 nd.2.1.1;unfold Yu at h1 h2 ⊢;rw[Ø,Ñ,h1,h2,fZ rfl]
def NP{k:Int}(es:List En):(Yu k F es).map (·.num)=es.map (·.num):=by unfold Yu;rw[ê];refine ċ λe _=>?_;show(if e.num=k then({e with B:=F e.B}:En)else e).num=e.num;split<;>rfl
def Oa{k:Int}(es:List En):stands (Yu k F es)=stands es:=by unfold Yu stands;rw[ê];refine ċ λe _=>?_;show((if e.num=k then({e with B:=F e.B}:En)else e).num,(if e.num=k then({e with B:=F e.B}:En)else e).b)=_;split<;>rfl
def Ww{k:Int}{F:Br->Br}:∀es:List En,enA (Yu k F es)=enA es
 |[]=>rfl
 |e::es=>by have:=Ww (k:=k) (F:=F) es;unfold Yu enA at this ⊢;rw[Ñ,ű,ű,this];split<;>rfl
def Op{k:Int}{q:En}(h:q∈Yu k F es):(q∈es/\q.num≠k)\/∃e∈es,e.num=k/\q={e with B:=F e.B}:=by
 obtain⟨e,he,rfl⟩:=Ð.mp h;by_cases z:e.num=k
 .right;exact⟨e,he,z,by rw[fZ z]⟩
 .left;rw[f8 z];exact⟨he,z⟩
abbrev tieF(on:Bool)(p:Int)(far c:Int)(B:Br):Br:=if on then upB B p (far,c)else Ed B p
abbrev setT(on:Bool)(p:Int)(t:Tie)(es:List En):List En:=Yu t.2.1 (tieF on p t.1 t.2.2)<|Yu t.1 (tieF on p t.2.1 t.2.2) es
abbrev onT(Y:Yd)(p:Int)(t:Tie):Bool:=!(Y.fallen.lookup p).isSome&&(((stands Y.es).lookup t.1).isSome&&((stands Y.es).lookup t.2.1).isSome)
section
variable {Y:Yd}
def eR.one(x:eR h Y)(he:e∈Y.es)(ex:Ex [e.b,e.t,e.d] h g)(hb:eQ g e.b e.t e.d<|F e.B):eR g {Y with es:=Yu e.num F Y.es}:=by obtain⟨pre,ĸ,hs⟩:=dB he;have k:=x.key;rw[hs]at k;rw[hs,NY k];exact x.inner hs ex hb
end
noncomputable abbrev Gc:Ss:=#[.ite (.val<|.var 5) #[.expr<|.meth "Bridge" "up" (.idx (.fld (.var 0) "standing")<|.var 6) #[.var 1,.var 7,.var 4]] #[.ite (.val<|.cmp .isin (.var 6)<|.fld (.var 0) "standing") #[.expr<|.meth "Bridge" "down" (.idx (.fld (.var 0) "standing")<|.var 6) #[.var 1]] .nil]]
section
variable {Y:Yd}
def Ng{p:Nat}{t1 t2:Int}{on:Bool}{v6 v7:Option Val}{R:NQ}(x:eR h Y)(hn:t1≠t2)(gd:∀e∈Y.es,e.B.ok)(hon:∀near far:Int,(near=t1/\far=t2\/near=t2/\far=t1)->on=eh->∃b,(stands Y.es).lookup near=d9 b)
  (k:∀g e,eR g {Y with es:=setT on p (t1,t2,c) Y.es}->Ex Y.adr h g->R e g) :
  wFor (λ_=>True) (λv e g K M=>go (bind (.many [6,7]) g v e) λe2=>wSs (wF P<|n+1) Gc e2 g K Q M K λ_ c g=>X c g) R [.tup [.int t1,.int t2],.tup [.int t2,.int t1]] [d9<|.ref Y.y,d9<|.int p,d9<|.int t1,d9<|.int t2,d9<|.int c,d9<|.bl on,v6,v7] h:=by
 refine Zk (λi e g=>∃v6 v7 es',e=[d9<|.ref Y.y,d9<|.int p,d9<|.int t1,d9<|.int t2,d9<|.int c,d9<|.bl on,v6,v7]/\eR g {Y with es:=es'}/\Ex Y.adr h g/\(i=0->es'=Y.es)/\(i=1->es'=Yu t1 (tieF on p t2 c) Y.es)/\(i=2->es'=setT on p (t1,t2,c) Y.es)) ⟨_,_,Y.es,rfl,x,Ex.refl,λ_=>rfl,λz=>(by cases z),λz=>(by cases z)⟩ (λ_ _ _ _ _=>trivial) ?_ ?_
 .rintro i v e g hv ⟨u6,u7,es',rfl,y,xg,q0,q1,q2⟩ K hK;obtain⟨near,far,rfl,hnf,ŷ,heA,hgd,hnext⟩:∃near far,v=.tup [.int near,.int far]/\(near=t1/\far=t2\/near=t2/\far=t1)/\stands es'=stands Y.es/\enA es'=enA Y.es/\(∀e∈es',e.num=near->e.B.ok)/\∀di,di=Yu near (tieF on p far c) es'->(i+1=0->di=Y.es)/\(i+1=1->di=Yu t1 (tieF on p t2 c) Y.es)/\(i+1=2->di=setT on p (t1,t2,c) Y.es):=by
   match i,hv with
   |0,hv =>cases hv;have:=q0 rfl;subst this;exact⟨t1,t2,rfl,.inl ⟨rfl,rfl⟩,rfl,rfl,λe he _=>gd e he,λdi z=>⟨λy=>(by cases y),λ_=>z,λy=>(by cases y)⟩⟩
   |1,hv =>
    cases hv;have:=q1 rfl;subst this;refine⟨t2,t1,rfl,.inr ⟨rfl,rfl⟩,Oa _,Ww _,λe he hz=>?_,λdi z=>⟨λy=>(by cases y),λy=>(by cases y),λ_=>z⟩⟩;rcases Op he with⟨hm,_⟩|⟨q,hq,hq1,hq2⟩
    .exact gd e hm
    .exact gf (by rw[hq2]at hz;exact hq1.symm.trans hz) hn
   |i+2,hv=>simp at hv
  have yi:=y.ins;have ys:=y.stand;dsimp only at yi ys;have step:∀{e:En}{g':Hs},e∈es'->e.num=near->Ex [e.b,e.t,e.d] g g'->eQ g' e.b e.t e.d (tieF on p far c e.B)->∀w6 w7,K [d9<|.ref Y.y,d9<|.int p,d9<|.int t1,d9<|.int t2,d9<|.int c,d9<|.bl on,w6,w7] g':=λ{e g'} he ų ex hb w6 w7=>by
   have y':=y.one (F:=tieF on p far c) he ex hb;rw[ų]at y';have mA:=WG he;refine hK _ _ ⟨w6,w7,_,rfl,y',xg.trans<|ex.sub λa ha=>?_,hnext _ rfl⟩;refine É _ ?_;rw[<-heA];simp only[Ç,Ù,or_false]at ha;rcases ha with rfl|rfl|rfl
   .exact mA.1
   .exact mA.2.1
   .exact mA.2.2
  fail;cases hob:on with
  |true =>
   obtain⟨b,lk⟩:=hon near far hnf hob;rw[<-ŷ]at lk;obtain⟨e,pre,ĸ,hs,ų,hbb⟩:=Xc lk;have hm:e∈es':=by rw[hs];simp
   have ba:=y.brs e hm;have bi:=ba.ins;subst hbb;refine fH rfl ?_;refine' Zy ys rfl (by rw[ZA,lk];rfl) ?_;refine' R4 ba (hgd e hm ų) λg' b' x'=>?_;fail;rw[<-hob];exact step hm ų (x'.sub<|by simp) (by unfold tieF;rw[hob];exact b') _ _
  |false =>
   refine fI rfl ?_
   exists JG ys rfl
   rw[Yq];cases hlk:(stands es').lookup near with
   |none =>
    walk_at "p";rw[<-hob];refine hK _ _ ⟨_,_,es',rfl,y,xg,hnext es' (X5 ?_).symm⟩;have:=YF hlk
    rwa [ZN]at this
   |some b =>
    obtain⟨e,pre,ĸ,hs,ų,hbb⟩:=Xc hlk;have hm:e∈es':=by rw[hs];simp
    have ba:=y.brs e hm;have bi:=ba.ins;subst hbb;walk_at "p";refine Zy ys rfl (by rw[ZA,hlk];rfl) ?_;refine' GZ ba λg' b' x'=>?_;fail;rw[<-hob];exact step hm ų (x'.sub<|by simp) (by unfold tieF;rw[hob];exact b') _ _
 .rintro e g ⟨u6,u7,es',rfl,y,xg,q0,q1,q2⟩;have:=q2 rfl;subst this;exact k _ _ y xg
def WH{p:Nat}{t:Tie}(x:eR h Y)(et:Y.ts[p]?=d9 t)(hn:t.1≠t.2.1)(gd:∀e∈Y.es,e.B.ok)(k:∀g,eR g {Y with es:=setT (onT Y p t) p t Y.es}->Ex Y.adr h g->Q .non g):wF P (n+2) "Yard.set_tie" [.ref Y.y,.int p] h Q X:=by
 have xi:=x.ins;have xs:=x.stand;have xf:=x.fallen;obtain⟨t1,t2,c⟩:=t;dsimp only at hn;have fin:onT Y p (t1,t2,c)=onT Y p (t1,t2,c)->∀near far:Int,(near=t1/\far=t2\/near=t2/\far=t1)->onT Y p (t1,t2,c)=eh->∃b,(stands Y.es).lookup near=d9 b:=λ_ near far hv ho=>by
  simp only[onT,bAq]at ho;rcases hv with⟨rfl,_⟩|⟨rfl,_⟩
  .exact é.mp ho.2.1
  .exact é.mp ho.2.2
 refine Kf ?_
 exists eL (xs:=[.tup<|Y.bs.map .int,.tup<|Y.ts.map trV]) (v:=.tup<|Y.ts.map trV) rfl
 refine' eL (v:=.tup [.int t1,.int t2,.int c]) (Xk (by lia)<|by rw[Ö,ç,et];rfl) ?_
 exists Yo xf rfl
 rw[Yq];obtain⟨on,hon⟩:∃on:Bool,on=onT Y p (t1,t2,c):=⟨_,rfl⟩
 rw[<-hon]at k fin;have fin:=fin rfl;cases e1:(Y.fallen.lookup (p:Int)).isSome with
 |true =>
  have z:ei=on:=by rw[hon];unfold onT;rw[e1];rfl
  walk_at "p";rw[z];exact Ng x hn gd fin λg e y xg=>by fail;exact k g y xg
 |false =>
  walk_at "p";refine JG xs rfl ?_;rw[Yq];cases e2:((stands Y.es).lookup t1).isSome with
  |false =>
   have z:ei=on:=by rw[hon];unfold onT;rw[e1,e2];rfl
   walk_at "p";rw[z];exact Ng x hn gd fin λg e y xg=>by fail;exact k g y xg
  |true =>
   walk_at "p";refine JG xs rfl ?_;rw[Yq];have z:((stands Y.es).lookup t2).isSome=on:=by rw[hon];unfold onT;rw[e1,e2];rfl
   rw[z];refine' Ng x hn gd fin λg e y xg=>by fail;exact k g y xg
end
variable {on:Bool}
def MG{p far:Int}(o:B.ok)(h0:0<=p)(h1:p<16):(tieF on p far c B).ok:=by
 unfold tieF;split
 .exact o.up h0 h1
 .exact o.down p
def U1{k:Int}(gd:∀e∈es,e.B.ok)(hF:∀B,B.ok->(F B).ok):∀e∈Yu k F es,e.B.ok:=λq hq=>by
 rcases Op hq with⟨hm,_⟩|⟨e,he,_,rfl⟩
 .exact gd q hm
 .exact hF _<|gd e he
def Fr{p:Int}{t:Tie}(gd:∀e∈es,e.B.ok)(h0:0<=p)(h1:p<16):∀e∈setT on p t es,e.B.ok :=
 U1 (U1 gd λ_ o=>MG o h0 h1) λ_ o=>MG o h0 h1
def Cy{p:Int}{t:Tie}(es:List En):(setT on p t es).map (·.num)=es.map (·.num):=by unfold setT;rw[NP,NP]
def JY{p:Int}{t:Tie}(es:List En):enA (setT on p t es)=enA es:=by unfold setT;rw[Ww,Ww]
abbrev ZX(Y:Yd)(l:List Tie):Yd:=l.foldl (λY r=>{Y with es:=setT (onT Y r.1<|Y.ts[r.1.toNat]?.getD (0,0,0)) r.1 (Y.ts[r.1.toNat]?.getD (0,0,0)) Y.es}) Y
def J9(Y:Yd)(l:List Tie)(r:Tie):ZX Y (l++[r])={ZX Y l with es:=setT (onT (ZX Y l) r.1<|(ZX Y l).ts[r.1.toNat]?.getD (0,0,0)) r.1 ((ZX Y l).ts[r.1.toNat]?.getD (0,0,0)) (ZX Y l).es}:=by unfold ZX;rw[d8];rfl
structure Same(Y Z:Yd):Prop where
 y:Z.y=Y.y
 lv:Z.lv=Y.lv
 st:Z.st=Y.st
 fl:Z.fl=Y.fl
 rd:Z.rd=Y.rd
 bs:Z.bs=Y.bs
 ts:Z.ts=Y.ts
 most:Z.most=Y.most
 lives:Z.lives=Y.lives
 fallen:Z.fallen=Y.fallen
 road:Z.road=Y.road
 num:Z.es.map (·.num)=Y.es.map (·.num)
 enA:enA Z.es=enA Y.es
variable {Z:Yd}
def Same.adr(s:Same Y Z):Z.adr=Y.adr:=by unfold Yd.adr;rw[s.y,s.lv,s.st,s.fl,s.rd,s.enA]
def Same.refl:Same Y Y:=⟨rfl,rfl,rfl,rfl,rfl,rfl,rfl,rfl,rfl,rfl,rfl,rfl,rfl⟩
variable {W:Yd}
def Same.trans(a:Same Y Z)(b:Same Z W):Same Y W:=⟨b.y.trans a.y,b.lv.trans a.lv,b.st.trans a.st,b.fl.trans a.fl,b.rd.trans a.rd,b.bs.trans a.bs,b.ts.trans a.ts,b.most.trans a.most,b.lives.trans a.lives,b.fallen.trans a.fallen,b.road.trans a.road,b.num.trans a.num,b.enA.trans a.enA⟩
def Same.setT{p:Int}{t:Tie}:Same Y {Y with es:=setT on p t Y.es}:=⟨rfl,rfl,rfl,rfl,rfl,rfl,rfl,rfl,rfl,rfl,rfl,Cy _,JY _⟩
def YQ:∀(l:List Tie) (Y:Yd),Same Y (ZX Y l)
 |[],_=>.refl
 |_::l,_=>Same.setT.trans<|YQ l _
section
variable {Y:Yd}
def Jl{b:Int}(no:eZ Y.bs Y.ts)(x:eR h Y)(gd:∀e∈Y.es,e.B.ok)(k:∀g,eR g (ZX Y<|fS b 0 Y.ts)->(∀e∈(ZX Y<|fS b 0 Y.ts).es,e.B.ok)->Ex Y.adr h g->Q .non g):wF P (n+3) "Yard.set_ties_of" [.ref Y.y,.int b] h Q X:=by
 have xi:=x.ins;have h16:=no.sixteen;refine XS ?_;refine' XH no.sixteen λp g0 hp x0 e0=>?_;fail;have x':=x.ext x0;have npA:p∉Y.adr:=λz=>x.taken z hp;refine Zk (λi e g=>Sm3 λv2 v3 v4=>Cj4 (e=[d9<|.ref Y.y,d9<|.int b,v2,v3,v4]) (eR g<|ZX Y<|(fS b 0 Y.ts).take i) ((∀e∈(ZX Y<|(fS b 0 Y.ts).take i).es,e.B.ok))<|Ex Y.adr g0 g) ⟨_,_,_,rfl,x',gd,Ex.refl⟩ (λi e g _ ⟨_,_,_,_,_,_,z⟩=>lsE<|z.get npA e0) ?_ ?_
 .rintro i v e g hv ⟨v2,v3,v4,rfl,y,gi,xg⟩ K hK;obtain⟨r,hr,rfl⟩:=ZF hv;have sm:=YQ ((fS b 0 Y.ts).take i) Y;have rg:=(JV (b:=b) (l:=Y.ts) (k:=0)).2 r<|è hr;obtain⟨q,hq⟩:∃q:Nat,r.1=q:=⟨r.1.toNat,by lia⟩
  have hql:q<Y.ts.length:=by lia
  have et:(ZX Y<|(fS b 0 Y.ts).take i).ts[q]?=d9 Y.ts[q]:=by rw[sm.ts];exact Ê hql
  have lo:=no.tie _<|ō hql;have yi:=y.ins;rw[sm.y]at yi;obtain⟨r1,r2,r3⟩:=r;dsimp only at hq;subst hq;unfold trV;fail;rw[<-sm.y];refine WH y et (by have:=lo.2.2.1;lia) gi λg1 y1 xg1=>?_;rw[sm.adr]at xg1;fail;rw[sm.y];refine hK _ _ ⟨_,_,_,rfl,?_,?_,xg.trans xg1⟩
  .rw[Zj hr,J9];dsimp only;rw[ç,et];exact y1
  .rw[Zj hr,J9];dsimp only;rw[ç,et];exact Fr gi (by lia) (by lia)
 .rintro e g ⟨v2,v3,v4,rfl,y,gi,xg⟩;rw[Á,ý]at y gi;refine' k g y gi ((Ex.of x0).trans xg)
end
abbrev YE(b:Int)(es:List En):List En:=es.filter λe=>gg (e.num≠b)
def M8(b:Int)(es:List En):Zs (stands es) b=stands (YE b es):=by unfold Zs stands YE;rw[List.filter_map];rfl
def Xy(b:Int)(es:List En):(YE b es).Sublist es:=ţ
def WZ{fs:List En}(h:es.Sublist fs):(enA es).Sublist<|enA fs:=by
 induction h with
 |slnil=>exact .slnil
 |cons a _ ih=>unfold enA at ih ⊢;rw[ű];exact ih.trans<|List.sublist_append_right _ _
 |cons_cons a _ ih=>unfold enA at ih ⊢;rw[ű,ű];exact(Ť _).append ih
def eR.drop(x:eR h Y)(b:Int):eR (upd h Y.st<|.dct<|Ze rfV<|O.stands<|YE b Y.es) {Y with es:=YE b Y.es}:=by
 obtain⟨⟨a1,a2,a3,a4⟩,⟨b1,b2,b3⟩,⟨c1,c2⟩,d1⟩:=Yd.five x.nd;have sb:=Xy b Y.es;have nb:∀a∈enA (YE b Y.es),a≠Y.st:=λa ha=>Yd.sep x.nd (by simp)<|(WZ sb).subset ha;refine⟨(ej a2).trans x.ins,(ej b1).trans x.lives,ez,(ej c1.symm).trans x.fallen,(ej c2.symm).trans x.road,λq hq=>(x.brs q<|sb.subset hq).off hq nb,?_,?_⟩
 .exact((Ť _).append<|WZ sb).nodup x.nd
 .exact(sb.map _).nodup x.key
def eR.setFallen(x:eR h Y)(l:List<|Int×Bool):eR (upd h Y.fl<|.dct<|Ze Val.bl l) {Y with fallen:=l}:=by obtain⟨⟨a1,a2,a3,a4⟩,⟨b1,b2,b3⟩,⟨c1,c2⟩,d1⟩:=Yd.five x.nd;exact⟨(ej a3).trans x.ins,(ej b2).trans x.lives,(ej c1).trans x.stand,ez,(ej d1.symm).trans x.road,λe he=>(x.brs e he).off he λb hb=>Yd.sep x.nd (by simp) hb,x.nd,x.key⟩
section
variable {Y:Yd}
def BS{b:Int}(no:eZ Y.bs Y.ts)(x:eR h Y)(gd:∀e∈Y.es,e.B.ok)(hb:b∈Y.es.map (·.num))(k:∀g,eR g (ZX {Y with es:=YE b Y.es}<|fS b 0 Y.ts)->(∀e∈(ZX {Y with es:=YE b Y.es}<|fS b 0 Y.ts).es,e.B.ok)->Ex Y.adr h g->Q .non g):wF P (n+4) "Yard.fall_of_bridge" [.ref Y.y,.int b] h Q X:=by
 have xi:=x.ins;have xs:=x.stand;obtain⟨a,lk⟩:∃a,(stands Y.es).lookup b=d9 a:=ZK (by rw[ZN];exact hb);refine Y4 ?_
 exists Yo xs rfl
 rw[Yq,lk];walk_at "p";refine Ek xs rfl (by rw[ZA,lk];rfl) ?_;rw[X7,M8];dsimp only;have y1:=x.drop b;have x1:Ex Y.adr h<|upd h Y.st<|.dct<|Ze rfV<|stands<|YE b Y.es:=Ex.upd (Ú _<|by simp);generalize upd h Y.st (.dct<|Ze rfV<|stands<|YE b Y.es)=g1 at y1 x1;have yi:=y1.ins;dsimp only at yi;refine' Jl (Y:={Y with es:=YE b Y.es}) no y1 (λe he=>gd e<|(Xy b Y.es).subset he) λg2 y2 gd2 x2=>?_;refine' k g2 y2 gd2 (x1.trans<|x2.sub λa ha=>?_);exact((Ť _).append<|WZ<|Xy b Y.es).subset ha
end
section
variable {Y:Yd}
def Er{p:Nat}{t:Tie}(no:eZ Y.bs Y.ts)(x:eR h Y)(gd:∀e∈Y.es,e.B.ok)(et:Y.ts[p]?=d9 t)(hf:Y.fallen.lookup (p:Int)=ee)(hl:Y.fallen.length<=100)(k:∀g,eR g {Y with fallen:=Zp Y.fallen p eh,es:=setT (onT {Y with fallen:=Zp Y.fallen p eh} p t) p t Y.es}->Ex Y.adr h g->Q .non g):wF P (n+3) "Yard.fall_of_tie" [.ref Y.y,.int p] h Q X:=by
 have xi:=x.ins;have xf:=x.fallen;have hp:p<Y.ts.length:=(Î.mp et).1;have htl:(Y.ts.map trV).length=Y.ts.length:=Á _;have lo:=no.tie _<|è et;refine XT ?_
 exists Xa
 fail;refine fH (by simp) ?_
 exists eL (xs:=[.tup<|Y.bs.map .int,.tup<|Y.ts.map trV]) (v:=.tup<|Y.ts.map trV) rfl
 fail;refine fI (by rw[htl];simpa using hp) ?_
 exists JG xf rfl
 rw[Yq,hf];walk_at "p";refine Z9 (k:=.int p) xf ⟨rfl,by rw[X9];exact Ò hl<|by decide⟩ ?_;rw[ZG (val:=Val.bl)];have y1:=x.setFallen<|Zp Y.fallen p eh;have x1:Ex Y.adr h<|upd h Y.fl<|.dct<|Ze Val.bl<|Zp Y.fallen p eh:=Ex.upd (Ú _<|by simp);generalize upd h Y.fl (.dct<|Ze Val.bl<|Zp Y.fallen p eh)=g1 at y1 x1;have yi:=y1.ins;dsimp only at yi;refine' WH (Y:={Y with fallen:=Zp Y.fallen p eh}) y1 et (by have:=lo.2.2.1;lia) gd λg2 y2 x2=>?_;refine' k g2 y2 (x1.trans x2)
def DY{p:Nat}{t:Tie}(no:eZ Y.bs Y.ts)(x:eR h Y)(gd:∀e∈Y.es,e.B.ok)(et:Y.ts[p]?=d9 t){v:Bool}(hf:Y.fallen.lookup (p:Int)=d9 v)(k:∀g,eR g {Y with fallen:=Zs Y.fallen p,es:=setT (onT {Y with fallen:=Zs Y.fallen p} p t) p t Y.es}->Ex Y.adr h g->Q .non g):wF P (n+3) "Yard.back_of_tie" [.ref Y.y,.int p] h Q X:=by
 have xi:=x.ins;have xf:=x.fallen;have lo:=no.tie _<|è et;refine XZ ?_
 exists Yo xf rfl
 rw[Yq,hf];walk_at "p";refine Ek xf rfl (by rw[ZA,hf];rfl) ?_;rw[X7];dsimp only;have y1:=x.setFallen<|Zs Y.fallen p;have x1:Ex Y.adr h<|upd h Y.fl<|.dct<|Ze Val.bl<|Zs Y.fallen p:=Ex.upd (Ú _<|by simp);generalize upd h Y.fl (.dct<|Ze Val.bl<|Zs Y.fallen p)=g1 at y1 x1;have yi:=y1.ins;dsimp only at yi;refine' WH (Y:={Y with fallen:=Zs Y.fallen p}) y1 et (by have:=lo.2.2.1;lia) gd λg2 y2 x2=>?_;refine' k g2 y2 (x1.trans x2)
end
def UF:(ZU own life most []).ok:=⟨Ģ,(λ_ m=>nomatch m),Ģ,(λ_ m=>nomatch m)⟩
def KD{k:Int}{v:α}:(Zp kvs k v).lookup k=d9 v:=by
 unfold Zp;split
 .rename_i h;induction kvs with
  |nil=>cases h
  |cons p r ih =>
   rw[Ñ,î];by_cases e:p.1=k
   .simp[e]
   .have e2:(k==p.1)=ei:=by simpa using λz=>e z.symm
    rw[î,e2]at h;simp only[e,if_false,e2];exact ih h
 .rename_i h;have h:kvs.lookup k=ee:=Ϻ.mp h;rw[dC,h];simp
section
variable {Y:Yd}
def BN{b:Int}(no:eZ Y.bs Y.ts)(x:eR h Y)(gd:∀e∈Y.es,e.B.ok)(hlv:Y.lives.lookup b=d9 life)(hb:b∉Y.es.map (·.num))(hl:Y.lives.length<=100)(hel:Y.es.length<=100)
  (k:∀q t d g,(∀a∈[q,t,d],h a=ee)->eR g (ZX {Y with lives:=Zp Y.lives b<|life+1,es:=Y.es++[⟨b,q,t,d,ZU b (life+1) Y.most []⟩]}<|fS b 0 Y.ts)->(∀e∈(ZX {Y with lives:=Zp Y.lives b<|life+1,es:=Y.es++[⟨b,q,t,d,ZU b (life+1) Y.most []⟩]}<|fS b 0 Y.ts).es,e.B.ok)->Ex Y.adr h g->Q .non g):wF P (n+4) "Yard.back_of_bridge" [.ref Y.y,.int b] h Q X:=by
 have xi:=x.ins;have xs:=x.stand;have xl:=x.lives;have lk:(stands Y.es).lookup b=ee:=by
  cases z:(stands Y.es).lookup b with
  |none=>rfl
  |some q =>have:=ó (f:=(·.1))<|Zf z;rw[ZN]at this;exact gf this hb
 refine Y6 ?_
 exists Yo xl rfl
 rw[Yq,hlv];walk_at "p";refine JG xs rfl ?_;rw[Yq,lk];walk_at "p";refine Zy xl rfl (by rw[ZA,hlv];rfl) ?_;refine' Z9 (k:=.int b) xl ⟨rfl,by rw[X9];exact Ò hl<|by decide⟩ ?_;rw[ZG (val:=Val.int)];have Y1:=x.setLives<|Zp Y.lives b<|life+1;have x1:Ex Y.adr h<|upd h Y.lv<|.dct<|Ze Val.int<|Zp Y.lives b<|life+1:=Ex.upd (Ú _<|by simp);have keepN:∀{a:Ad},upd h Y.lv (.dct<|Ze Val.int<|Zp Y.lives b<|life+1) a=ee->h a=ee:=λ{a} z=>by
  by_cases e:a=Y.lv
  .rw[e,ez]at z;cases z
  .rwa [ej e]at z
 generalize upd h Y.lv (.dct<|Ze Val.int<|Zp Y.lives b<|life+1)=g1 at Y1 x1 keepN;have zi:=Y1.ins;have zl:=Y1.lives;dsimp only at zi zl;refine' Zy zl rfl (by rw[ZA,KD];rfl) ?_;refine' Zg λpn g7 hpn x7 en=>?_;have Y7:=Y1.ext x7;have yi7:=Y7.ins;dsimp only at yi7;fail;intro q hq;have xq:Ext g7<|upd g7 q<|.ins "Bridge" []:=Ext.new hq;have eq:(upd g7 q<|.ins "Bridge" []) q=d9 (.ins "Bridge" []):=ez;refine UE (rs:=[]) eq (xq.get en) (by simp) (by simp) λt d g8 ht hd ba x8=>?_;have x78:Ext g7 g8:=⟨λ{a o} e=>x8.get (by simpa using Za e hq)<|xq.get e⟩
 have Y8:=Y7.ext x78;have ht7:g7 t=ee:=by cases z:g7 t with|none=>rfl|some o=>rw[xq.get z]at ht;cases ht
 have hd7:g7 d=ee:=by cases z:g7 d with|none=>rfl|some o=>rw[xq.get z]at hd;cases hd
 refine⟨rfl,?_⟩;have wi:=Y8.ins;have ws:=Y8.stand;dsimp only at wi ws;refine' Z9 (k:=.int b) ws ⟨rfl,by rw[X9];unfold stands;rw[Á];exact Ò hel<|by decide⟩ ?_;rw[ZG (val:=rfV),Yj _<|by rw[ZN];exact hb];have ŷ:stands Y.es++[(b,q)]=stands (Y.es++[⟨b,q,t,d,ZU b (life+1) Y.most []⟩]):=by unfold stands;rw[Ø];rfl
 rw[ŷ];have fr:∀a∈[q,t,d],g7 a=ee:=λa ha=>by simp only[Ç,Ù,or_false]at ha;rcases ha with rfl|rfl|rfl<;>assumption
 have fr0:∀a∈[q,t,d],h a=ee:=λa ha=>keepN (by cases z:g1 a with|none=>rfl|some o=>have:=fr a ha;rw[x7.get z]at this;cases this);have Y9:=Y8.stands (e:=⟨b,q,t,d,ZU b (life+1) Y.most []⟩) ba hb λa ha z=>Y7.taken z<|fr a ha;have x9:Ex Y.adr h<|upd g8 Y.st<|.dct<|Ze rfV<|stands<|Y.es++[⟨b,q,t,d,ZU b (life+1) Y.most []⟩]:=(x1.trans<|.of<|x7.trans x78).trans (Ex.upd<|Ú _<|by simp);dsimp only at Y9;generalize upd g8 Y.st (.dct<|Ze rfV<|stands<|Y.es++[⟨b,q,t,d,ZU b (life+1) Y.most []⟩])=g9 at Y9 x9;have vi:=Y9.ins;dsimp only at vi;refine' Jl (Y:={Y with lives:=Zp Y.lives b<|life+1,es:=Y.es++[⟨b,q,t,d,ZU b (life+1) Y.most []⟩]}) no Y9 (λe he=>?_) λg2 y2 gd2 x2=>?_
 .rcases Ü.mp he with he|he
  .exact gd e he
  .rw[Ó.mp he];exact UF
 refine' k q t d g2 fr0 y2 gd2 ⟨λ{a o} na ha=>x2.get (λz=>?_)<|x9.get na ha⟩;have z:a∈[Y.y,Y.lv,Y.st,Y.fl,Y.rd]++enA (Y.es++[⟨b,q,t,d,ZU b (life+1) Y.most []⟩]):=z;rw[Ws,<-Ĕ]at z;rcases Ü.mp z with z|z
 .exact na z
 .rw[fr0 a z]at ha;cases ha
end
abbrev wordsL:List<|List String:=[["tick"],["come"],["lost"],["fall","bridge"],["fall","tie"],["back","bridge"],["back","tie"]]
def Fz{ws:List String}(hw:ws∈wordsL)(k:∀g,Ext h g->Q (.tup [.tup<|ws.map .str,.int c]) g):wF P (n+2) "read_deed" [.tup<|ws.map .str++[.int c]] h Q X:=by
 have hc:cut (ws.map Val.str++[.int c]) ee (d9 (-1))=ws.map .str:=by simp only[wordsL,Ç,Ù,or_false]at hw;rcases hw with rfl|rfl|rfl|rfl|rfl|rfl|rfl<;>rfl
 have hlast:atI (ws.map Val.str++[.int c]) (-1)=d9 (.int c):=by simp only[wordsL,Ç,Ù,or_false]at hw;rcases hw with rfl|rfl|rfl|rfl|rfl|rfl|rfl<;>rfl
 have hlen:ws.length<=2:=by simp only[wordsL,Ç,Ù,or_false]at hw;rcases hw with rfl|rfl|rfl|rfl|rfl|rfl|rfl<;>decide
 refine NL ?_;walk_at "p";refine fG (xs:=ws.map Val.str++[.int c]) (lo:=ee) (hi:=d9 (-1)) (by rw[ä,Á];intro z;have:=z.2;unfold fq at this;simp at this;lia) ?_;rw[hc];refine' ⟨Ò (by rw[Á];exact hlen) (by decide),Zz (λ_=>d9<|.bl eh) trivial (λv hv K hK=>?_) ?_⟩
 .obtain⟨u,_,rfl⟩:=Ð.mp hv;walk_at "p";exact hK
 rw[show(ws.map Val.str).filterMap (λ_=>d9<|Val.bl eh)=(ws.map λ_=>eh).map Val.bl by rw[Ũ,ê];exact congrFun (Ų (f:=λ_:String=>Val.bl eh)) ws];refine Zg λp1 g1 bN x1 e1=>?_
 exists WD (bs:=ws.map λ_=>eh) e1 (ZY _)
 have ha:(ws.map λ_=>eh).all id=eh:=by simp
 fail;refine fI (by simp) ?_;fail;have de:∀{h:Hs},eX h .notin (.tup<|ws.map .str) (.tup<|wordsL.map λl=>.tup<|l.map .str)=d9 ei:=λ{h}=>by simp only[wordsL,Ç,Ù,or_false]at hw;rcases hw with rfl|rfl|rfl|rfl|rfl|rfl|rfl<;>rfl
 refine eK (a:=ei) de ?_;walk_at "p";refine eL hlast ?_
 exists X3
 walk_at "p";refine eL hlast ?_;refine' k g1 x1
inductive Dd where
 |tick (b:Int)|come (b:Int)|lost (b:Int)|fallB (b:Int)|fallT (b:Int)|backB (b:Int)|backT (b:Int)
abbrev Dd.ws:Dd->List String
 |.tick _=>["tick"]|.come _=>["come"]|.lost _=>["lost"]|.fallB _=>["fall","bridge"]|.fallT _=>["fall","tie"]|.backB _=>["back","bridge"]|.backT _=>["back","tie"]
abbrev Dd.num:Dd->Int
 |.tick c=>c|.come c=>c|.lost c=>c|.fallB c=>c|.fallT c=>c|.backB c=>c|.backT c=>c
abbrev Dd.fn:Dd->String
 |.tick _=>"Yard.tick_of" | .come _=>"Yard.come" | .lost _=>"Yard.take_off" | .fallB _=>"Yard.fall_of_bridge" | .fallT _=>"Yard.fall_of_tie" | .backB _=>"Yard.back_of_bridge" | .backT _=>"Yard.back_of_tie"
noncomputable abbrev Dd.v(d:Dd):Val:=.tup<|d.ws.map .str++[.int d.num]
def Dd.words(d:Dd):d.ws∈wordsL:=by cases d<;>simp[Dd.ws,wordsL]
def YD(x:Ext h g)(hp:g p=ee):h p=ee:=by
 cases z:h p with
 |none=>rfl
 |some o=>rw[x.get z]at hp;cases hp
variable {ts:List Tie}
def Wc{i:Int}(h0:0<=i)(h1:i<ts.length):atI (ts.map trV) i=d9 (trV<|ts[i.toNat]?.getD (0,0,0)):=by
 have h2:i.toNat<ts.length:=by lia
 refine Xk h0 ?_;rw[Ö,Ê h2];rfl
def A4{pre:List En}(x:eR h Y)(he:Y.es=pre++e::ĸ)(o:e.B.ok)(hp:∀q∈e.B.ties,q.1<Y.ts.length)(hr:Y.road.length<=100000)
  (k:∀d g,eR g {Y with es:=pre++⟨e.num,e.b,e.t,d,e.B.ticked⟩::ĸ,road:=Y.road++Yw Y.ts e.num e.B.told}->h d=ee->Ex Y.adr h g->Q .non g):wF P (n+5) "Yard.tick_of" [.ref Y.y,.int e.num] h Q X:=by
 have hm:e∈Y.es:=by rw[he];simp
 have lk:(stands Y.es).lookup e.num=d9 e.b:=Z6 (by rw[ZN];exact x.key)<|Ð.mpr ⟨e,hm,rfl⟩;obtain⟨xi,xl,xs,xf,xr,xb,xnd,xk⟩:=id x;refine JX ?_
 exists Yo xs rfl
 rw[Yq,lk];walk_at "p";refine Zy xs rfl (by rw[ZA,lk];rfl) ?_;have ba:=xb e hm;have bi:=ba.ins;refine' Fb ba o λp d g1 bN hd1 ba1 ep x1 npd=>?_;have Y1:=x.change he x1 ba1 (.inl rfl)<|.inr hd1;obtain⟨yi,yl,ys,yf,yr,yb,ynd,yk⟩:=id Y1;dsimp only at yi yl ys yf yr yb;have npa:∀a∈Y.adr,a≠p:=λa ha z=>x.taken ha<|z▸bN;have npr:Y.rd≠p:=npa _ (Ú _<|by simp);have hbm:e.b∈Y.adr:=É _ (WG hm).1;have htl:(sortI (e.B.told.ties.map (·.1))).length<=16:=by rw[sortI,ŕ,Á];exact o.told.tlen
 have htie:∀i∈sortI (e.B.told.ties.map (·.1)),0<=i/\i<Y.ts.length:=λi hi=>by obtain⟨q,hq,rfl⟩:=Ð.mp<|mem_sort.mp hi;rw[show e.B.told.ties=e.B.ties from (Z3 e.B.grown<|ZL e.B.grown).2.1]at hq;exact⟨(o.rg q hq).1,hp q hq⟩
 refine' Zk (λi en g=>Sm3 λv2 v3 v4=>Cj4 (en=[d9<|.ref Y.y,d9<|.int e.num,v2,v3,v4]) (eR g {Y with es:=pre++⟨e.num,e.b,e.t,d,e.B.ticked⟩::ĸ,road:=Y.road++(Yw Y.ts e.num e.B.told).take i}) (g p=d9 (.lst<|Z1 e.B.told))<|Ex Y.adr h g) ⟨_,_,_,rfl,by rw[List.take_zero,þ];exact Y1,ep,x1.sub λa ha=>by rw[Ó.mp ha];exact hbm⟩ (λi en g _ ⟨_,_,_,_,_,z,_⟩=>lsE z) ?_ ?_
 .rintro i v en g hv ⟨v2,v3,v4,rfl,Yi,ep,xi⟩ K hK;obtain⟨pl,hpl,rfl⟩:=ZF hv;have hplm:=è hpl;obtain⟨r0,r1⟩:=htie pl hplm;have et:=Wc (ts:=Y.ts) r0 r1;obtain⟨zi,zl,zs,zf,zr,zb,znd,zk⟩:=id Yi;dsimp only at zi zl zs zf zr zb;have hil:=(Î.mp hpl).1
  exists eL (xs:=[.tup<|Y.bs.map .int,.tup<|Y.ts.map trV]) (v:=.tup<|Y.ts.map trV) rfl
  exists eL et
  exists Ub
  refine' ZC zr ?_ ?_
  .rw[Á,ä,đ];exact Ò (by lia:_<=100016) (by decide)
  dsimp only;have es:(Yw Y.ts e.num e.B.told)[i]?=d9 (e.num,Yp Y.ts pl e.num,pl,Zx e.B.told pl):=by unfold Yw;rw[Ö,hpl];rfl
  have Y2:=Yi.setRoad<|Y.road++(Yw Y.ts e.num e.B.told).take (i+1);dsimp only at Y2;have er:(Y.road++(Yw Y.ts e.num e.B.told).take i).map rdV++[rdV (e.num,Yp Y.ts pl e.num,pl,Zx e.B.told pl)]=(Y.road++(Yw Y.ts e.num e.B.told).take (i+1)).map rdV:=by rw[Zj es,<-Ĕ,Ø (l₂:=[_])];rfl
  have er':(Y.road++(Yw Y.ts e.num e.B.told).take i).map rdV++[.tup [.int e.num,.int<|far (Y.ts[pl.toNat]?.getD (0,0,0)) e.num,.int pl,(Zx e.B.told pl).v]]=(Y.road++(Yw Y.ts e.num e.B.told).take (i+1)).map rdV:=er;rw[er'];refine' hK _ _ ⟨_,_,_,rfl,Y2,(ej npr.symm).trans ep,xi.trans<|Ex.upd<|Ú _<|by simp⟩
 .rintro en g ⟨v2,v3,v4,rfl,Yi,ep,xi⟩;rw[show(Z1 e.B.told).length=(Yw Y.ts e.num e.B.told).length by unfold Z1 Yw;rw[Á,Á],ý]at Yi;refine' k d g Yi hd1 xi
def GH{d:Dd}(x:eR h Y)(k:∀(g:Hs) (Q':Q1),Ext h g->eR g Y->(∀v g',Q .non g'->Q' v g')->wF P (n+5) d.fn [.ref Y.y,.int d.num] g Q' X):wF P (n+6) "Yard.deed" [.ref Y.y,d.v] h Q X:=by
 have xi0:=x.ins;refine Oj ?_;refine' Fz d.words λg1 x1=>?_;have x':=x.ext x1;have xi:=x'.ins;cases d<;>(
   fail
   repeat (first
     |(refine eK (a:=ei) rfl ?_;fail;refine fI rfl ?_;fail)
     | (refine eK (a:=eh) rfl ?_;fail;refine fH rfl ?_;fail))
   refine k g1 _ x1 x' λv g' q=>?_
   refine' q)
structure Yc where
 bs:List Int
 ts:List Tie
 most:Int
 lives:List<|Int×Int
 br:List<|Int×Br
 fallen:List<|Int×Bool
 road:List<|Int×Int×Int×L
abbrev enC(es:List En):List<|Int×Br:=es.map λe=>(e.num,e.B)
abbrev Yd.cc(Y:Yd):Yc:=⟨Y.bs,Y.ts,Y.most,Y.lives,enC Y.es,Y.fallen,Y.road⟩
abbrev upC(k:Int)(F:Br->Br)(l:List<|Int×Br):List<|Int×Br:=l.map λq=>if q.1=k then(q.1,F q.2)else q
abbrev Po(on:Bool)(p:Int)(t:Tie)(l:List<|Int×Br):List<|Int×Br:=upC t.2.1 (tieF on p t.1 t.2.2)<|upC t.1 (tieF on p t.2.1 t.2.2) l
abbrev Yc.tie(C:Yc)(p:Int):Tie:=C.ts[p.toNat]?.getD (0,0,0)
abbrev onC(C:Yc)(p:Int):Bool:=!(C.fallen.lookup p).isSome&&((C.br.lookup (C.tie p).1).isSome&&(C.br.lookup (C.tie p).2.1).isSome)
abbrev Yc.set1(C:Yc)(p:Int):Yc:={C with br:=Po (onC C p) p (C.tie p) C.br}
abbrev Yc.sets(C:Yc)(l:List Tie):Yc:=l.foldl (λC r=>C.set1 r.1) C
def Wl(es:List En):(enC es).map (·.1)=es.map (·.num):=by unfold enC;rw[ê];rfl
def look_iff{k:Int}:(kvs.lookup k).isSome=gg (k∈kvs.map (·.1)):=by
 cases z:kvs.lookup k with
 |none=>exact(f9<|YF z).symm
 |some v=>exact(gb (ó (f:=(·.1))<|Zf z)).symm
def W6{k:Int}(es:List En):enC (Yu k F es)=upC k F (enC es):=by
 unfold enC Yu upC;rw[ê,ê];refine ċ λe _=>?_;show((if e.num=k then({e with B:=F e.B}:En)else e).num,(if e.num=k then({e with B:=F e.B}:En)else e).B)=if e.num=k then(e.num,F e.B)else(e.num,e.B)
 split<;>rfl
def B5{p:Int}{t:Tie}(es:List En):enC (setT on p t es)=Po on p t (enC es):=by unfold setT Po;rw[W6,W6]
def Px{k:Int}:((enC es).lookup k).isSome=((stands es).lookup k).isSome:=look_iff.trans ((decide_eq_decide.mpr<|by rw[Wl,ZN]).trans look_iff.symm)
def Qc{p:Int}:onT Y p (Y.ts[p.toNat]?.getD (0,0,0))=onC Y.cc p:=by unfold onT onC;rw[<-Px,<-Px];rfl
def O0{p:Int}:({Y with es:=setT (onT Y p<|Y.ts[p.toNat]?.getD (0,0,0)) p (Y.ts[p.toNat]?.getD (0,0,0)) Y.es}:Yd).cc=Y.cc.set1 p:=by rw[Qc];unfold Yd.cc Yc.set1;dsimp only;rw[B5];rfl
def OI:∀(l:List Tie) (Y:Yd),(ZX Y l).cc=Y.cc.sets l
 |[],_=>rfl
 |r::l,Y=>(OI l _).trans (congrArg (Yc.sets · l)<|O0 (Y:=Y) (p:=r.1))
abbrev step(C:Yc):Dd->Option Yc
 |.tick b=>(C.br.lookup b).map λB=>{C with br:=upC b Br.ticked C.br,road:=C.road++Yw C.ts b B.told}
 |.come p=>if p<0 then ee else(C.road[p.toNat]?).map λr=>{C with br:=upC r.2.1 (Z0 · r.2.2.1 r.2.2.2) C.br,road:=C.road.eraseIdx p.toNat}
 |.lost p=>if p<0 then ee else(C.road[p.toNat]?).map λr=>{C with road:=C.road.eraseIdx p.toNat}
 |.fallB b=>if(C.br.lookup b).isSome then d9 (Yc.sets {C with br:=Zs C.br b}<|fS b 0 C.ts)else ee
 |.fallT p=>if(0<=p/\p<C.ts.length)/\(C.fallen.lookup p).isSome=ei then d9 (Yc.set1 {C with fallen:=Zp C.fallen p eh} p)else ee
 |.backB b=>if(C.br.lookup b).isSome then ee else(C.lives.lookup b).map λl=>Yc.sets {C with lives:=Zp C.lives b<|l+1,br:=C.br++[(b,ZU b (l+1) C.most [])]}<|fS b 0 C.ts
 |.backT p=>if(C.fallen.lookup p).isSome then d9 (Yc.set1 {C with fallen:=Zs C.fallen p} p)else ee
structure Bok(m:Nat)(B:Br):Prop where
 ok:B.ok
 pl:∀t∈B.ties,t.1<m
def Bok.ticked{m:Nat}(o:Bok m B):Bok m B.ticked:=⟨o.ok.ticked,λt ht=>o.pl t<|by rwa [show B.ticked.ties=B.ties from (Z3 B.grown<|ZL B.grown).2.1]at ht⟩
def Bok.heard{m:Nat}(o:Bok m B){p:Int}{l:L}:Bok m<|Z0 B p l:=⟨o.ok.heard,λt ht=>o.pl t<|by revert ht;unfold Z0;split<;>(try split)<;>exact id⟩
def Bok.tieF{m:Nat}(o:Bok m B){p far:Int}(h0:0<=p)(h1:p<m)(hm:m<=16):Bok m<|O.tieF on p far c B:=⟨MG o.ok h0 (by lia),λt ht=>by
  unfold O.tieF at ht
  split at ht
  . unfold upB at ht
    split at ht
    . exact o.pl t ht
    . rcases XB ht with e|ht
      . rw[e];exact h1
      . exact o.pl t ht
  . exact o.pl t<|ZT ht⟩
structure Yc.gd(C:Yc)(N:Nat):Prop where
 no:eZ C.bs C.ts
 nd:(C.br.map (·.1)).Nodup
 sub:∀q∈C.br,q.1∈C.bs
 ok:∀q∈C.br,Bok C.ts.length q.2
 lv:C.lives.map (·.1)=C.bs
 fn:(C.fallen.map (·.1)).Nodup
 fr:∀q∈C.fallen,0<=q.1/\q.1<C.ts.length
 len:C.road.length<=16*N
def Kc{k:Int}(l:List<|Int×Br):(upC k F l).map (·.1)=l.map (·.1):=by unfold upC;rw[ê];refine ċ λe _=>?_;show(if e.1=k then(e.1,F e.2)else e).1=e.1;split<;>rfl
def FD{k:Int}{l:List (Int×Br)}{R:Br->Prop}(h:∀q∈l,R q.2)(hF:∀B,R B->R (F B)):∀q∈upC k F l,R q.2:=λq hq=>by
 obtain⟨e,he,rfl⟩:=Ð.mp hq;split
 .exact hF _<|h e he
 .exact h e he
def keys_sub{l:List (Int×Br)}{bs:List Int}:(∀q∈l,q.1∈bs)↔∀x∈l.map (·.1),x∈bs:=⟨λh x hx=>by obtain⟨q,hq,rfl⟩:=Ð.mp hx;exact h q hq,λh q hq=>h _<|ó hq⟩
variable {C:Yc} {N:Nat} {M:Nat} {rd:List (Int×Int×Int×L)}
def Yc.gd.upC{k:Int}(g:C.gd N)(hF:∀B,Bok C.ts.length B->Bok C.ts.length (F B))(hr:rd.length<=16*M):({C with br:=O.upC k F C.br,road:=rd}:Yc).gd M :=
 ⟨g.no,by show((O.upC k F C.br).map (·.1)).Nodup;rw[Kc];exact g.nd,keys_sub.mpr (by show ∀x∈(O.upC k F C.br).map (·.1),_;rw[Kc];exact keys_sub.mp g.sub),FD g.ok hF,g.lv,g.fn,g.fr,hr⟩
def Yc.gd.set1{p:Int}(g:C.gd N)(h0:0<=p)(h1:p<C.ts.length):(C.set1 p).gd N :=
 (g.upC (M:=N) (k:=(C.tie p).1) (F:=tieF (onC C p) p (C.tie p).2.1 (C.tie p).2.2) (λ_ o=>o.tieF h0 h1 g.no.sixteen) g.len).upC (λ_ o=>o.tieF h0 h1 g.no.sixteen) g.len
def Yc.gd.sets{N:Nat}:∀{l:List Tie}{C:Yc},C.gd N->(∀r∈l,0<=r.1/\r.1<C.ts.length)->(C.sets l).gd N
 |[],_,g,_=>g
 |r::l,C,g,h=>Yc.gd.sets (l:=l) (C:=C.set1 r.1) (g.set1 (h r<|by simp).1 (h r<|by simp).2) λq hq=>h q (by simp[hq])
def Yc.gd.more(g:C.gd N)(h:N<=M):C.gd M:=⟨g.no,g.nd,g.sub,g.ok,g.lv,g.fn,g.fr,á g.len<|dq _ h⟩
def Xg:∀(l:List Tie) (C:Yc),(C.sets l).bs=C.bs/\(C.sets l).ts=C.ts/\(C.sets l).most=C.most
 |[],_=>⟨rfl,rfl,rfl⟩
 |r::l,C=>Xg l<|C.set1 r.1
def Mx{b:Int}:∀r∈fS b 0 ts,0<=r.1/\r.1<ts.length:=λr hr=>by have:=(JV (b:=b) (l:=ts) (k:=0)).2 r hr;lia
def keys_look{b:Int}:(C.br.lookup b).isSome=eh↔b∈C.br.map (·.1):=by rw[look_iff];simp
def BC{b:Int}(o:B.ok):(Yw ts b B.told).length<=16:=by unfold Yw;rw[Á,sortI,ŕ,Á];exact o.told.tlen
def Nc{D:Yc}{d:Dd}(g:C.gd N)(s:step C d=d9 D):D.gd (N+1)/\D.bs=C.bs/\D.ts=C.ts/\D.most=C.most:=by
 have hlen:=g.len;cases d with
 |tick b =>obtain⟨B,hB,rfl⟩:=È.mp s;have ok:B.ok:=(g.ok _<|Zf hB).ok;have:=BC (ts:=C.ts) (b:=b) ok;exact⟨g.upC (λ_ o=>o.ticked) (by rw[ä];lia),rfl,rfl,rfl⟩
 |come p =>
  dsimp only[step]at s;split at s
  .cases s
  .obtain⟨r,hr,rfl⟩:=È.mp s;exact⟨g.upC (λ_ o=>o.heard)<|á (bK _ _)<|by lia,rfl,rfl,rfl⟩
 |lost p =>
  dsimp only[step]at s;split at s
  .cases s
  .obtain⟨r,hr,rfl⟩:=È.mp s;exact⟨⟨g.no,g.nd,g.sub,g.ok,g.lv,g.fn,g.fr,á (bK _ _)<|by lia⟩,rfl,rfl,rfl⟩
 |fallB b =>
  dsimp only[step]at s;split at s
  .cases s;refine⟨Yc.gd.more (Yc.gd.sets ⟨g.no,YS g.nd b,λq hq=>g.sub q<|ZT hq,λq hq=>g.ok q<|ZT hq,g.lv,g.fn,g.fr,hlen⟩ Mx) (by lia),?_⟩;obtain⟨e1,e2,e3⟩:=Xg (fS b 0 C.ts) {C with br:=Zs C.br b};exact⟨e1,e2,e3⟩
  .cases s
 |fallT p =>
  dsimp only[step]at s;split at s
  .rename_i h;cases s;refine⟨Yc.gd.more (Yc.gd.set1 ⟨g.no,g.nd,g.sub,g.ok,g.lv,WE g.fn p eh,λq hq=>?_,hlen⟩ h.1.1 h.1.2) (by lia),rfl,rfl,rfl⟩;rcases XB hq with e|hq
   .rw[e];exact h.1
   .exact g.fr q hq
  .cases s
 |backB b =>
  dsimp only[step]at s;split at s
  .cases s
  .rename_i h;obtain⟨l,hl,rfl⟩:=È.mp s;have hk:(C.lives.lookup b).isSome=eh:=by rw[hl];rfl
   have hb:b∈C.bs:=by rw[<-g.lv];rw[look_iff]at hk;exact of_decide_eq_true hk
   have hn:b∉C.br.map (·.1):=λz=>h<|keys_look.mpr z;refine⟨Yc.gd.more (Yc.gd.sets ⟨g.no,?_,λq hq=>?_,λq hq=>?_,?_,g.fn,g.fr,hlen⟩ Mx) (by lia),?_⟩
   .show((C.br++[(b,ZU b (l+1) C.most [])]).map (·.1)).Nodup;rw[Ø,æ];exact⟨g.nd,by simp,λa ha c hc=>by have hc:c=b:=Ó.mp hc;rw[hc];exact λz=>hn<|z▸ha⟩
   .rcases Ü.mp hq with hq|hq
    .exact g.sub q hq
    .rw[Ó.mp hq];exact hb
   .rcases Ü.mp hq with hq|hq
    .exact g.ok q hq
    .rw[Ó.mp hq];exact⟨UF,λt ht=>nomatch ht⟩
   .show(Zp C.lives b<|l+1).map (·.1)=_;rw[JD,fZ hk];exact g.lv
   .exact Xg (fS b 0 C.ts) {C with lives:=Zp C.lives b<|l+1,br:=C.br++[(b,ZU b (l+1) C.most [])]}
 |backT p =>
  dsimp only[step]at s;split at s
  .rename_i h;cases s;obtain⟨v,hv⟩:=é.mp h;have hp:=g.fr _<|Zf hv;exact⟨Yc.gd.more (Yc.gd.set1 ⟨g.no,g.nd,g.sub,g.ok,g.lv,YS g.fn p,λq hq=>g.fr q<|ZT hq,hlen⟩ hp.1 hp.2) (by lia),rfl,rfl,rfl⟩
  .cases s
def WI{b:Int}:(Y.cc.br.lookup b).isSome=((stands Y.es).lookup b).isSome:=Px
def UO{pre:List En}(he:Y.es=pre++e::ĸ)(nd:(Y.es.map (·.num)).Nodup):enC (pre++⟨e.num,e.b,t,d,F e.B⟩::ĸ)=upC e.num F (enC Y.es):=by rw[he]at nd ⊢;rw[<-W6,NY nd];unfold enC;rw[Ø,Ø];rfl
def Uu{pre:List En}(he:Y.es=pre++e::ĸ)(ht:t=e.t)(hd:d=e.d\/h d=ee):∀a∈({Y with es:=pre++⟨e.num,e.b,t,d,B⟩::ĸ,road:=rd}:Yd).adr,a∈Y.adr\/h a=ee:=λa ha=>by
 subst ht;unfold Yd.adr at ha ⊢;rw[he,YK];dsimp only at ha;rw[YK]at ha;simp only[Ü,Ç,Ù,or_false]at ha ⊢;rcases hd with rfl|hd
 .exact .inl ha
 .rcases ha with ha|ha|(rfl|rfl|rfl)|ha
  .exact .inl<|.inl ha
  .exact .inl<|.inr<|.inl ha
  .exact .inl<|.inr<|.inr<|.inl<|.inl rfl
  .exact .inl<|.inr<|.inr<|.inl<|.inr<|.inl rfl
  .exact .inr hd
  .exact .inl<|.inr<|.inr<|.inr ha
def MY:∀{l bs:List Int},l.Nodup->(∀x∈l,x∈bs)->l.length<=bs.length
 |[],_,_,_=>ĕ _
 |a::l,bs,nd,h=>by have ha:=h a (by simp);have:=MY (l:=l) (bs:=bs.erase a) (Ā.mp nd).2 λx hx=>(List.mem_erase_of_ne λz:x=a=>(Ā.mp nd).1<|z▸hx).mpr (h x<|by simp[hx]);rw[bA ha]at this;have:=List.length_pos_of_mem ha;rw[Ë];lia
def Aa{p:Int}{β:Type}{f:Int×Int×Int×L->β}(hp:¬(0<=p/\p<Y.road.length)):(if p<0 then ee else(Y.cc.road[p.toNat]?).map f)=ee:=by
 split
 .rfl
 .rw[show Y.cc.road[p.toNat]?=ee from ĺ<|by show Y.road.length<=_;lia];rfl
structure Mv(h:Hs)(Y:Yd)(g:Hs)(Z:Yd):Prop where
 y:Z.y=Y.y
 at_:eR g Z
 nw:∀a∈Z.adr,a∈Y.adr\/h a=ee
 ex:Ex Y.adr h g
def Mv.refl(x:eR h Y):Mv h Y h Y:=⟨rfl,x,λ_=>.inl,Ex.refl⟩
def Mv.off(m:Mv h Y g Z)(na:a∉Y.adr)(e:h a=d9 o):a∉Z.adr/\g a=d9 o:=⟨λz=>(m.nw a z).elim na λy=>(by rw[e]at y;cases y),m.ex.get na e⟩
def Mv.trans{f:Hs}(m:Mv h Y g Z)(l:Mv g Z f W):Mv h Y f W:=by
 refine⟨l.y.trans m.y,l.at_,λa ha=>?_,⟨λna e=>let ⟨h1,h2⟩:=m.off na e;l.ex.get h1 h2⟩⟩;rcases l.nw a ha with z|z
 .exact m.nw a z
 .by_cases na:a∈Y.adr
  .exact .inl na
  .cases e:h a with
   |none=>exact .inr rfl
   |some o=>rw[m.ex.get na e]at z;cases z
def Mv.ext{f:Hs}(m:Mv h Y g Z)(x:Ext g f):Mv h Y f Z:=⟨m.y,m.at_.ext x,m.nw,m.ex.trans<|.of x⟩
def Ml{b:Int}(h:(stands es).lookup b=ee):b∉es.map (·.num):=by rw[<-ZN];exact YF h
section
variable {Y:Yd}
def MK{d:Dd}(x:eR h Y)(gd:Y.cc.gd N)(hN:N<=6000)(sd:(step Y.cc d).isSome=eh)(k:∀(Y':Yd) g',step Y.cc d=d9 Y'.cc->Mv h Y g' Y'->Q .non g'):wF P (n+6) "Yard.deed" [.ref Y.y,d.v] h Q X:=by
 refine GH x λg Q' x1 x' hq=>?_;have no:eZ Y.bs Y.ts:=gd.no;have ok:∀e∈Y.es,Bok Y.ts.length e.B:=λe he=>gd.ok (e.num,e.B)<|Ð.mpr ⟨e,he,rfl⟩;have oks:∀e∈Y.es,e.B.ok:=λe he=>(ok e he).ok;have hl:Y.road.length<=16*N:=gd.len;have key:=x.key;have xi:=x'.ins;have xs:=x'.stand;have xf:=x'.fallen;have xl:=x'.lives;have fin:∀{Y':Yd} {g'},eR g' Y'->step Y.cc d=d9 Y'.cc->Y'.y=Y.y->(∀a∈Y'.adr,a∈Y.adr\/g a=ee)->Ex Y.adr g g'->∀v,Q' v g':=λ{Y' g'} y s e f ex v=>hq v g'<|k Y' g' s ⟨e,y,λa ha=>(f a ha).imp id λz=>YD x1 z,(Ex.of x1).trans ex⟩;have bad:∀{p:Prop},step Y.cc d=ee->p:=λ{p} s=>by rw[s]at sd;cases sd
 have h10:Y.lives.length<=10:=by have e:=congrArg List.length gd.lv;rw[Á]at e;have:=no.ten;have:Y.cc.bs.length=Y.bs.length:=rfl;have:Y.cc.lives.length=Y.lives.length:=rfl;lia
 have e10:Y.es.length<=10:=by
  have:=MY gd.nd<|keys_sub.mp gd.sub;have h2:(Y.cc.br.map (·.1)).length=Y.es.length:=by show((enC Y.es).map (·.1)).length=_;rw[Wl,Á]
  have:=no.ten;have:Y.cc.bs.length=Y.bs.length:=rfl;lia
 have f16:Y.fallen.length<=16:=by
  have:=Yl (m:=16) gd.fn λx hx=>by obtain⟨q,hq,rfl⟩:=Ð.mp hx;have:=gd.fr q hq;have:=no.sixteen;have:Y.cc.ts.length=Y.ts.length:=rfl;lia
  rw[Á]at this;exact this
 clear sd;cases d with
 |tick b =>
  show wF P (n+5) "Yard.tick_of" [.ref Y.y,.int b] g Q' X;cases lk:(stands Y.es).lookup b with
  |none =>refine bad ?_;have:=WI (Y:=Y) (b:=b);rw[lk]at this;show(Y.cc.br.lookup b).map _=ee;rw[Option.isSome_eq_false_iff.mp this |> aH.mp];rfl
  |some a =>
   obtain⟨e,pre,ĸ,he,rfl,rfl⟩:=Xc lk;have hm:e∈Y.es:=by rw[he];simp
   refine A4 x' he (oks e hm) (ok e hm).pl (by lia) λd' g2 y2 hd x2=>?_;refine fin y2 ?_ rfl (Uu he rfl<|.inr hd) x2 .non;show(Y.cc.br.lookup e.num).map _=_;rw[show Y.cc.br.lookup e.num=d9 e.B from Z6 gd.nd<|Ð.mpr ⟨e,hm,rfl⟩];unfold Yd.cc;dsimp only;rw[UO (F:=Br.ticked) he key];rfl
 |come p =>
  show wF P (n+5) "Yard.come" [.ref Y.y,.int p] g Q' X;by_cases hp:0<=p/\p<Y.road.length
  .obtain⟨q,rfl⟩:∃q:Nat,p=q:=⟨p.toNat,by lia⟩
   have hr:=Ê (l:=Y.road) (i:=q) (by lia);generalize Y.road[q]'(by lia)=r at hr;have st:step Y.cc (.come q)=d9 {Y.cc with br:=upC r.2.1 (Z0 · r.2.2.1 r.2.2.2) Y.cc.br,road:=Y.road.eraseIdx q}:=by show(if(q:Int)<0 then ee else(Y.road[(q:Int).toNat]?).map _)=_;rw[f8 (by lia),ç,hr];rfl
   cases lk:(stands Y.es).lookup r.2.1 with
   |none =>refine DE x' hr (by lia) (Ml lk) λg2 y2 x2=>fin y2 ?_ rfl (λa ha=>.inl ha) x2 .non;rw[st];unfold Yd.cc;dsimp only;rw[<-W6,X5<|Ml lk]
   |some a =>
    obtain⟨e,pre,ĸ,he,hn,rfl⟩:=Xc lk;have hm:e∈Y.es:=by rw[he];simp
    refine F2 x' hr (by lia) he hn.symm (oks e hm) λg2 y2 x2=>fin y2 ?_ rfl (Uu he rfl<|.inl rfl) x2 .non;rw[st];unfold Yd.cc;dsimp only;rw[<-hn,UO (F:=(Z0 · r.2.2.1 r.2.2.2)) he key]
  .exact bad<|Aa hp
 |lost p =>
  show wF P (n+5) "Yard.take_off" [.ref Y.y,.int p] g Q' X;by_cases hp:0<=p/\p<Y.road.length
  .obtain⟨q,rfl⟩:∃q:Nat,p=q:=⟨p.toNat,by lia⟩
   have hr:=Ê (l:=Y.road) (i:=q) (by lia);refine XO x' hr (by lia) λg2 y2 x2=>fin y2 ?_ rfl (λa ha=>.inl ha) (x2.sub λa ha=>by rw[Ó.mp ha];exact Ú _<|by simp) _;show(if(q:Int)<0 then ee else(Y.road[(q:Int).toNat]?).map _)=_;rw[f8 (by lia),ç,hr];rfl
  .exact bad<|Aa hp
 |fallB b =>
  show wF P (n+5) "Yard.fall_of_bridge" [.ref Y.y,.int b] g Q' X;have lc:=WI (Y:=Y) (b:=b);cases lk:(stands Y.es).lookup b with
  |none =>rw[lk]at lc;exact bad (f8<|by rw[lc];decide)
  |some a =>
   rw[lk]at lc;refine BS no x' oks (by rw[<-ZN];exact ó (f:=(·.1))<|Zf lk) λg2 y2 gd2 x2=>?_;have sm:=YQ (fS b 0 Y.ts) {Y with es:=YE b Y.es};refine fin y2 ?_ sm.y (λa ha=>.inl ?_) x2 .non
   .rw[OI];refine(fZ lc).trans ?_;congr 2;unfold Yd.cc;dsimp only;congr 1;unfold Zs enC YE;rw[List.filter_map];rfl
   .rw[sm.adr]at ha;exact((Ť _).append<|WZ<|Xy b Y.es).subset ha
 |fallT p =>
  show wF P (n+5) "Yard.fall_of_tie" [.ref Y.y,.int p] g Q' X;have htl:(Y.ts.map trV).length=Y.ts.length:=Á _;by_cases hp:0<=p/\p<Y.ts.length
  .obtain⟨q,rfl⟩:∃q:Nat,p=q:=⟨p.toNat,by lia⟩
   have et:=Ê (l:=Y.ts) (i:=q) (by lia);have eg:Y.ts[(q:Int).toNat]?.getD (0,0,0)=Y.ts[q]'(by lia):=by rw[ç,et];rfl
   cases lk:Y.fallen.lookup (q:Int)with
   |none =>
    refine Er no x' oks et lk (by lia) λg2 y2 x2=>fin y2 ?_ rfl (λa ha=>.inl ?_) x2 .non
    .refine(fZ ⟨hp,by show(Y.fallen.lookup _).isSome=ei;rw[lk];rfl⟩).trans<|congrArg d9 ?_;have:=O0 (Y:={Y with fallen:=Zp Y.fallen q eh}) (p:=q);dsimp only at this;rw[eg]at this;exact this.symm
    .unfold Yd.adr at ha ⊢;dsimp only at ha
     rwa [JY]at ha
   |some v =>exact bad (f8 λz=>by have z:=z.2;have:(Y.fallen.lookup (q:Int)).isSome=ei:=z;rw[lk]at this;cases this)
  .exact bad<|f8 λz=>hp z.1
 |backB b =>
  show wF P (n+5) "Yard.back_of_bridge" [.ref Y.y,.int b] g Q' X;have lc:=WI (Y:=Y) (b:=b);cases ll:Y.lives.lookup b with
  |none =>
   refine bad ?_;dsimp only[step];split
   .rfl
   .show(Y.lives.lookup b).map _=ee;rw[ll];rfl
  |some life =>
   cases lk:(stands Y.es).lookup b with
   |some a =>rw[lk]at lc;exact bad<|fZ lc
   |none =>
    rw[lk]at lc;refine BN no x' oks ll (Ml lk) (by lia) (by lia) λq t d' g2 fr y2 gd2 x2=>?_;have sm:=YQ (fS b 0 Y.ts) {Y with lives:=Zp Y.lives b<|life+1,es:=Y.es++[⟨b,q,t,d',ZU b (life+1) Y.most []⟩]};refine fin y2 ?_ sm.y (λa ha=>?_) x2 .non
    .rw[OI];refine(f8<|by rw[lc];decide).trans ?_;show(Y.lives.lookup b).map _=_;rw[ll];congr 2;unfold Yd.cc;dsimp only;unfold enC;rw[Ø];rfl
    .rw[sm.adr]at ha;have z:a∈[Y.y,Y.lv,Y.st,Y.fl,Y.rd]++enA (Y.es++[⟨b,q,t,d',ZU b (life+1) Y.most []⟩]):=ha;rw[Ws,<-Ĕ]at z;rcases Ü.mp z with z|z
     .exact .inl z
     .exact .inr<|fr a z
 |backT p =>
  show wF P (n+5) "Yard.back_of_tie" [.ref Y.y,.int p] g Q' X;cases lk:Y.fallen.lookup p with
  |none =>exact bad (f8<|by show ¬(Y.fallen.lookup p).isSome=eh;rw[lk];decide)
  |some v =>
   have hp:=gd.fr _<|Zf lk;have hp2:p<Y.ts.length:=hp.2;obtain⟨q,rfl⟩:∃q:Nat,p=q:=⟨p.toNat,by have:0<=p:=hp.1;lia⟩
   have et:=Ê (l:=Y.ts) (i:=q) (by lia);have eg:Y.ts[(q:Int).toNat]?.getD (0,0,0)=Y.ts[q]'(by lia):=by rw[ç,et];rfl
   refine DY no x' oks et lk λg2 y2 x2=>fin y2 ?_ rfl (λa ha=>.inl ?_) x2 .non
   .refine(fZ<|by show(Y.fallen.lookup _).isSome=eh;rw[lk];rfl).trans<|congrArg d9 ?_;have:=O0 (Y:={Y with fallen:=Zs Y.fallen q}) (p:=q);dsimp only at this;rw[eg]at this;exact this.symm
   .unfold Yd.adr at ha ⊢;dsimp only at ha
    rwa [JY]at ha
end
abbrev Yc.at_(C:Yc)(b:Int):Br:=(C.br.lookup b).getD<|ZU 0 0 0 []
abbrev Yc.keys(C:Yc):List Int:=sortI (C.br.map (·.1))
abbrev MZ(C:Yc):List Val:=C.keys.map λb=>.tup [.int b,(C.at_ b).label.v]
abbrev Oz(C:Yc)(b p:Int):String:=if(C.br.lookup b).isSome then Uv (C.at_ b) p else "down"
abbrev Yc.ends(C:Yc)(p:Int):String×String:=(Oz C (C.tie p).1 p,Oz C (C.tie p).2.1 p)
abbrev Yc.downs(C:Yc):List Int:=C.bs.filter λb=>!(C.br.lookup b).isSome
abbrev Yc.cuts(C:Yc):List Int:=sortI (C.fallen.map (·.1))
def Yc.gd.ten(g:C.gd N):(C.br.map (·.1)).length<=10:=á (MY g.nd<|keys_sub.mp g.sub) g.no.ten
def Yc.gd.f16(g:C.gd N):(C.fallen.map (·.1)).length<=16:=Yl (m:=16) g.fn λx hx=>by obtain⟨q,hq,rfl⟩:=Ð.mp hx;have:=g.fr q hq;have:=g.no.sixteen;lia
def Wk:C.keys.length=(C.br.map (·.1)).length:=(ŋ _ _).length_eq
def keys_mem{b:Int}:b∈C.keys↔(C.br.lookup b).isSome=eh:=by unfold Yc.keys;rw[mem_sort,keys_look]
def eR.at_(x:eR h Y){b:Int}(hb:(Y.cc.br.lookup b).isSome=eh):∃e∈Y.es,e.num=b/\(O.stands Y.es).lookup b=d9 e.b/\Y.cc.at_ b=e.B/\eQ h e.b e.t e.d e.B:=by
 rw[WI]at hb;obtain⟨a,ha⟩:=é.mp hb;obtain⟨e,pre,ĸ,he,rfl,rfl⟩:=Xc ha;have hm:e∈Y.es:=by rw[he];simp
 refine⟨e,hm,rfl,ha,?_,x.brs e hm⟩;have:(enC Y.es).lookup e.num=d9 e.B:=Z6 (by rw[Wl];exact x.key)<|Ð.mpr ⟨e,hm,rfl⟩;show((enC Y.es).lookup e.num).getD _=_;rw[this];rfl
section
variable {Y:Yd}{N:Nat}
def UM(x:eR h Y)(k:∀p g,h p=ee->Ext h g->g p=d9 (.lst<|Y.road.map rdV)->Q (.ref p) g):wF P (n+1) "Yard.road" [.ref Y.y] h Q X:=by have xi:=x.ins;have xr:=x.road;refine NE ?_;refine' Zg k
def F9(x:eR h Y)(k:Q (ZD Y.bs Y.ts) h):wF P (n+1) "Yard.net" [.ref Y.y] h Q X:=by have xi:=x.ins;refine Ui ?_;refine' k
def Wy(x:eR h Y)(gd:Y.cc.gd N)(k:∀p g,h p=ee->Ext h g->g p=d9 (.lst<|MZ Y.cc)->Q (.ref p) g):wF P (n+2) "Yard.labels" [.ref Y.y] h Q X:=by
 have xi:=x.ins;have xs:=x.stand;have ek:(stands Y.es).map (·.1)=Y.cc.br.map (·.1):=(ZN _).trans (Wl _).symm;have h10:=gd.ten;have kl:=Wk (C:=Y.cc);refine Kp ?_;refine' OH xs (BV _) (by rw[ek];lia) (Zg λp1 g1 bN x1 e1=>?_);rw[ek]at e1;have x':=x.ext x1;have xi:=x'.ins;have xs:=x'.stand;refine' ⟨Ò (by rw[Á];show Y.cc.keys.length<=10;lia) (by decide),?_⟩;refine Ys (λi ys g=>g=g1/\ys=(Y.cc.keys.take i).map λb=>.tup [.int b,(Y.cc.at_ b).label.v]) ⟨rfl,rfl⟩ (λi ys g _ ⟨z,_⟩=>by rw[z];exact lsE e1) ?_ ?_
 .rintro i v ys g hv ⟨rfl,rfl⟩ K hK;obtain⟨nm,hnm,rfl⟩:=ZF hv;obtain⟨e,he,en,lk,ea,ba⟩:=x'.at_<|keys_mem.mp<|è hnm;have bi:=ba.ins;walk_at "p";refine Zy xs rfl (by rw[ZA,lk];rfl) ?_
  exists Dr ba
  refine' hK _ _ ⟨rfl,?_⟩;rw[Zj (xs:=Y.cc.keys) hnm,Ø,<-ea];rfl
 .rintro ys g ⟨rfl,rfl⟩;rw[Á,show(sortI (Y.cc.br.map (·.1))).length=Y.cc.keys.length from rfl,ý];exact Zg λp g2 hp x2 ep=>k p g2 (YD x1 hp) (x1.trans x2) ep
def EK(x:eR h Y)(gd:Y.cc.gd N)(k:∀g,Ext h g->Q (.tup [.tup<|Y.cc.downs.map .int,.tup<|Y.cc.cuts.map .int]) g):wF P (n+1) "Yard.down" [.ref Y.y] h Q X:=by
 have xi:=x.ins;have xs:=x.stand;have hbl:(Y.bs.map Val.int).length<=10:=by rw[Á];exact gd.no.ten
 refine Nv ?_
 exists eL (xs:=[.tup<|Y.bs.map .int,.tup<|Y.ts.map trV]) (v:=.tup<|Y.bs.map .int) rfl
 refine' ⟨Ò hbl (by decide),Ys (λi ys g=>g=h/\ys=((Y.bs.take i).filter λb=>!(Y.cc.br.lookup b).isSome).map .int) ⟨rfl,rfl⟩ (λ_ _ _ _ _=>trivial) ?_ ?_⟩
 .rintro i v ys g hv ⟨rfl,rfl⟩ K hK;obtain⟨b,hb,rfl⟩:=ZF hv;rw[Zj hb,dD,Ī,List.filter_nil]at hK
  exists Yo xs rfl
  rw[Yq,<-WI];refine' fK (λhc=>?_) (λhc=>?_)
  .refine' hK _ _ ⟨rfl,by rw[hc,fZ rfl,Ø];rfl⟩
  .exact hK _ _ ⟨rfl,by rw[hc,f8 (by decide),þ,cH,þ]⟩
 rintro ys g ⟨rfl,rfl⟩;rw[Á,ý];refine Zg λp1 g1 bN x1 e1=>?_;have x':=x.ext x1;have xi:=x'.ins;have xf:=x'.fallen;refine' OH xf (BV _) (by have:=gd.f16;show(Y.cc.fallen.map (·.1)).length<_;lia) (Zg λp2 g2 hp2 x2 e2=>?_);refine' k _ (x1.trans x2)
def NT{b p:Int}(x:eR h Y)(k:Q (.str<|Oz Y.cc b p) h):wF P (n+4) "Yard.end_at" [.ref Y.y,.int b,.int p] h Q X:=by
 have xi:=x.ins;have xs:=x.stand;refine Kj ?_
 exists Yo xs rfl
 rw[Yq,<-WI];fail;unfold Oz at k;cases z:(Y.cc.br.lookup b).isSome with
 |false =>rw[z]at k;walk_at "p";exact k
 |true =>rw[z,fZ rfl]at k;obtain⟨e,he,en,lk,ea,ba⟩:=x.at_ z;have bi:=ba.ins;walk_at "p";refine Zy xs rfl (by rw[ZA,lk];rfl) ?_;fail;rw[ea]at k;exact IA ba k
def Us{p:Nat}(x:eR h Y)(hp:p<Y.ts.length)(k:Q (.tup [.str (Y.cc.ends p).1,.str (Y.cc.ends p).2]) h):wF P (n+5) "Yard.ends" [.ref Y.y,.int p] h Q X:=by
 have xi:=x.ins;have htl:(Y.ts.map trV).length=Y.ts.length:=Á _;have eg:Y.cc.tie p=Y.ts[p]:=by show Y.ts[(p:Int).toNat]?.getD _=_;rw[ç,Ê hp];rfl
 refine N9 ?_
 exists Xa
 fail;refine fH (by simp) ?_
 exists eL (xs:=[.tup<|Y.bs.map .int,.tup<|Y.ts.map trV]) (v:=.tup<|Y.ts.map trV) rfl
 fail;refine fI (by rw[htl];simpa using hp) ?_
 exists eL (xs:=[.tup<|Y.bs.map .int,.tup<|Y.ts.map trV]) (v:=.tup<|Y.ts.map trV) rfl
 refine' eL (v:=trV Y.ts[p]) (Xk (by lia)<|by rw[ç,Ö,Ê hp];rfl) ?_;unfold Yc.ends at k;rw[eg]at k;unfold trV
 exists NT x
 exists NT x
 refine' k
end
abbrev Row(h:Hs)(w:Ad):Prop:=∃a b:Int,h w=d9 (.lst [.int a,.int b])/\0<=b/\b<2147483587
def Row.ne(x:Row h w)(e:h p=ee):w≠p:=by obtain⟨_,_,x,_⟩:=x;exact Za x e
def Row.ext(x:Row h w)(e:Ext h g):Row g w:=by obtain⟨_,_,x,y⟩:=x;exact⟨_,_,e.get x,y⟩
def HK{i:Int}(e:h a=d9 (.lst<|ns.map .int))(q:KB (!gg (i∈ns))):go (eX h .notin (.int i)<|.ref a) KB:=eK (by show(inV h (.int i)<|.ref a).map _=_;unfold inV;simp only[e];rw[Mr];rfl) q
def lset(e:h a=d9 (.lst<|ns.map .int))(m:ns.length<4000)(q:Q (.int (dedup ns).length) h):(biV h .lenSet [.ref a]).wp h Q:=wp_val (by show biLenSet h (.ref a)=_;unfold biLenSet sortOf;simp only[e,eS,û,Yx];rw[fZ m]) q
def Me:∀(ns:List Int),(dedup ns).length=ns.length↔ns.Nodup
 |[]=>by simp[dedup]
 |n::ns=>by
  have h1:=Jr ns;have h2:=Ÿ (λy=>y != n)<|dedup ns;have ih:=Me ns;rw[dedup,Ë,Ë,Ā];constructor
  .intro h;have h3:(List.filter (λy=>y != n)<|dedup ns).length=(dedup ns).length:=by lia
   have h4:=Ϲ.mp h3;refine⟨λhm=>?_,ih.mp<|by lia⟩;have:=h4 n<|mem_dedup.mpr hm;simp at this
  .rintro⟨h3,h4⟩;have h5:=ih.mpr h4;have h6:(List.filter (λy=>y != n)<|dedup ns).length=(dedup ns).length:=Ϲ.mpr λy hy=>by
    have:=mem_dedup.mp hy;simp only[bne_iff_ne,ne_eq];rintro rfl;exact h3 this
   lia
def Row.exb(x:Row h w)(n:p≠w):Row (upd h p o) w:=by obtain⟨_,_,x,y⟩:=x;exact⟨_,_,(ej n.symm).trans x,y⟩
def N1(x:ExtB w h g)(e:h p=ee):ExtB w h<|upd g p o:=⟨λ{a u} n z=>by rw[ej<|Za z e];exact x.get n z⟩
def Ap(k:∀p g,h p=ee->Ext h g->Row g p->Q (.ref p) g):wF P (n+1) "_law_row" [.int c] h Q X:=by refine Bl ?_;refine' Zg λp g hp x e=>k p g hp x ⟨_,_,e,ϑ _ (by decide),Ζ _<|by decide⟩
def Zh(hw:Row h w)(h1:0<m)(h2:m<1073741824)(k:∀r g,0<=r->r<m->ExtB w h g->Row g w->Q (.int r) g):wF P (n+1) "_law_take" [.ref w,.int m] h Q X:=by
 obtain⟨a,b,e,b0,b1⟩:=hw;refine Ov ?_;refine' fJ (λhc=>?_) (λhc=>?_)<;>fail
 .exact k _ _ (ϑ _<|by lia) (Ζ _ h1) ExtB.upd ⟨_,_,ez,b0,b1⟩
 .exact k _ _ (ϑ _<|by lia) (Ζ _ h1) ExtB.upd ⟨_,_,ez,ϑ _ (by decide),Ζ _<|by decide⟩
abbrev TOk(ns:List Int)(t:Tie):Prop:=t.1∈ns/\t.2.1∈ns/\t.1≠t.2.1/\1<=t.2.2/\t.2.2<=1000
abbrev IsT(ns:List Int)(v:Val):Prop:=∃t:Tie,v=trV t/\TOk ns t
def RC(nd:ns.Nodup){i j:Int}{a b:Int}(i0:0<=i)(i1:i<ns.length)(j0:0<=j)(j1:j<ns.length)(hij:i≠j)(ea:atI (ns.map Val.int) i=d9 (.int a))(eb:atI (ns.map Val.int) j=d9 (.int b)):a≠b:=by
 have hi:i.toNat<ns.length:=by lia
 have hj:j.toNat<ns.length:=by lia
 have e1:=Xk (xs:=ns.map Val.int) i0 (x:=.int ns[i.toNat]) (by rw[Ö,Ê hi];rfl);have e2:=Xk (xs:=ns.map Val.int) j0 (x:=.int ns[j.toNat]) (by rw[Ö,Ê hj];rfl);rw[ea]at e1;rw[eb]at e2;simp only[ī,Val.int.injEq]at e1 e2;rw[e1,e2];intro z;have:=(List.getElem_inj nd).mp z;lia
abbrev less(t:Tie):Tie:=(if t.2.1<t.1 then t.2.1 else t.1,if t.2.1 > t.1 then t.2.1 else t.1,t.2.2)
def FF{t:Tie}(h:TOk ns t):LOk ns<|less t:=by
 obtain⟨h1,h2,h3,h4,h5⟩:=h;unfold less LOk;by_cases z:t.2.1<t.1
 .rw[fZ z,f8<|by lia];exact⟨h2,h1,z,h4,h5⟩
 .rw[f8 z,fZ<|by lia];exact⟨h1,h2,by show t.1<t.2.1;lia,h4,h5⟩
def U7{ns:List Int}:∀{ys:List Val},(∀y∈ys,IsT ns y)->∃zs:List Tie,ys=zs.map trV/\∀z∈zs,TOk ns z
 |[],_=>⟨[],rfl,by simp⟩
 |y::ys,h=>by obtain⟨t,rfl,ht⟩:=h y (by simp);obtain⟨zs,rfl,hz⟩:=U7 (ys:=ys) λz hz=>h z<|â _ hz;exact⟨t::zs,rfl,λz hz'=>(Ç.mp hz').elim (λe=>e▸ht)<|hz z⟩
def isl{xs:List Val}(e:h a=d9 (.lst xs))(q:Q (.bl eh) h):(biV h (.isi ["list"]) [.ref a]).wp h Q:=Qa (by unfold isiAny isiAny fX fW;simp only[e];rfl) q
variable {lo:Int}
def US{i hi:Int}(h1:lo<=i)(h2:i<=hi)(k:Q (.bl eh) h):wF P (n+2) "is_whole_between" [.int i,.int lo,.int hi] h Q X:=by
 refine XY ?_
 exists X3
 walk_at "p";refine fH (by simpa using h1) ?_;fail;rw[gb h2];exact k
def Jo{i:Int}(k:Q (.bl eh) h):wF P (n+1) "is_whole" [.int i] h Q X:=by refine X3 ?_;walk_at "p";exact k
def M7{xs:List Val}:xs.filterMap (λ_=>d9<|Val.bl eh)=(xs.map λ_=>eh).map Val.bl:=by rw[ê];exact congrFun (Ų (f:=Val.bl ∘ λ_=>eh)) xs
def LP(e:h a=d9 (.lst<|ns.map .int))(l2:ns.length<=10)(hb:Brs ns)(nd:ns.Nodup)(k:∀g,Ext h g->Q (.bl eh) g):wF P (n+3) "are_bridges" [.ref a] h Q X:=by
 refine Kr ?_;have hL:(ns.map Val.int).length=ns.length:=Á _;refine' ⟨Ò (by rw[hL];exact l2) (by decide),Zz (λ_=>d9<|.bl eh) (lsE e) (λv hv K hK=>?_) ?_⟩
 .obtain⟨i,hi,rfl⟩:=Ð.mp hv;walk_at "p";exact US (hb i hi).1 (by have:=(hb i hi).2;lia) hK
 rw[M7];refine Zg λp g hp x ep=>?_
 exists WD ep (ZY _)
 fail;refine fI (by simp) ?_;have e':=x.get e;refine' lset e' (by lia) ?_;fail;have:gg (((dedup ns).length:Int)=((ns.map Val.int).length:Int))=eh:=gb (by rw[hL];have:=(Me ns).mpr nd;lia);rw[this];exact k g x
def PF{t:Tie}(ht:TOk ns t)(e:h b=d9 (.lst<|ns.map .int))(k:Q (.bl eh) h):wF P (n+3) "is_tie" [trV t,.ref b] h Q X:=by
 obtain⟨i,j,c⟩:=t;obtain⟨h1,h2,h3,h4,h5⟩:=ht;unfold trV;dsimp only at h1 h2 h3 h4 h5 ⊢;refine Dq ?_;walk_at "p";refine Jo ?_;walk_at "p";refine Jo ?_;walk_at "p";refine HK e ?_;fail;refine fI (by simpa using h1) ?_
 exists HK e
 fail;refine fI (by simpa using h2) ?_;fail;refine fH (by simpa using h3) ?_;refine' US h4 h5 k
def FK{t:Tie}(k:Q (trV<|less t) h):wF P (n+1) "lesser_end_first" [trV t] h Q X:=by obtain⟨i,j,c⟩:=t;unfold trV;refine X0 ?_;refine' k
def EX{zs:List Tie}(eb:h b=d9 (.lst<|ns.map .int))(et:h t=d9 (.lst<|zs.map trV))(l1:1<=ns.length)(l2:ns.length<=10)(hb:Brs ns)(nd:ns.Nodup)(lt:zs.length<=16)(hz:∀z∈zs,TOk ns z)
  (k:∀g,Ext h g->Q (ZD (sortI ns)<|zs.map less) g):wF P (n+4) "make_net" [.ref b,.ref t] h Q X:=by
 have hL:(ns.map Val.int).length=ns.length:=Á _;have hT:(zs.map trV).length=zs.length:=Á _;refine Uc ?_;refine EW<|Rt<|Sn<|HD<|Hw<|Qy<|CI<|HG rfl<|CN<|isl eb<|g_tbl ?_;refine fI rfl ?_;refine HD<|Hw<|Qy<|CI<|HG rfl<|CN<|isl et<|g_tbl ?_;refine fI rfl ?_;fail;refine fH (by simpa using (by lia:(1:Int)<=(ns.map Val.int).length)) ?_;fail;refine fI (by simpa using (by lia:(ns.length:Int)<=10)) ?_;fail;refine fI (by simpa using (by lia:(zs.length:Int)<=16)) ?_;refine' LP eb l2 hb nd λg x=>?_;fail;refine fI rfl ?_;have eb':=x.get eb;have et':=x.get et;refine' ⟨Ò (by rw[hT];exact lt) (by decide),Zz (λ_=>d9<|.bl eh) (lsE et') (λv hv K hK=>?_) ?_⟩
 .obtain⟨z,hz',rfl⟩:=Ð.mp hv;walk_at "p";exact PF (hz z hz') eb' hK
 rw[M7];refine Zg λp g2 hp x2 ep=>?_
 exists WD ep (ZY _)
 fail;refine fI (by simp) ?_;have eb2:=x2.get eb';have et2:=x2.get et';refine' L0 eb2 (Yx _) (by lia) ?_;refine Zg λp3 g3 hp3 x3 ep3=>?_;have et3:=x3.get et2;refine' ⟨Ò (by rw[hT];exact lt) (by decide),Ys (λi ys g=>g=g3/\ys=(zs.take i).map λz=>trV<|less z) ⟨rfl,rfl⟩ (λ_ _ g _ z=>by rw[z.1];exact lsE et3) (λi v ys g hv hI K hK=>?_) λys g hI=>?_⟩
 .obtain⟨rfl,rfl⟩:=hI;rw[Ö]at hv;obtain⟨z,hz',rfl⟩:=È.mp hv;walk_at "p";refine FK<|hK _ _ ⟨rfl,?_⟩;rw[Ű,hz',Ø];rfl
 .obtain⟨rfl,rfl⟩:=hI;rw[hT,ý];refine Zg λp4 g4 hp4 x4 ep4=>?_;fail;have e:ZD (sortI ns) (zs.map less)=.tup [.tup<|(sortI ns).map .int,.tup<|zs.map λz=>trV<|less z]:=by unfold ZD;rw[ê];rfl
  rw[e]at k;exact k _<|((x.trans x2).trans x3).trans x4
def DH{v:Val}(h:(fk lo m)[i]?=d9 v):v=.int (lo+i)/\lo+(i:Int)<m:=by unfold fk at h;rw[Ö]at h;obtain⟨k,hk,rfl⟩:=È.mp h;obtain⟨ϒ,rfl⟩:=Î.mp hk;rw[ř]at ϒ;rw[dA];exact⟨rfl,by lia⟩
def CQ:(fk lo m).length=(m - lo).toNat:=by unfold fk;rw[Á,ř]
def Lg(hw:Row h w)(k:∀bs ts g,eZ bs ts->ExtB w h g->Row g w->Q (ZD bs ts) g):wF P (n+5) "_law_net" [.ref w] h Q X:=by
 refine Bz ?_;refine' Zh hw (by decide) (by decide) λr0 g0 a0 b0 x0 w0=>?_;refine' Zg λp1 g1 bN x1 e1=>?_;have n1:p1≠w:=λz=>w0.ne bN z.symm;refine' Zh (w0.ext x1) (by decide) (by decide) λr2 g2 a2 b2 x2 w2=>?_;obtain⟨v,ev,hv⟩:=Xu (xs:=[Val.int 1,.int 3,.int 10,.int 100]) (r:=r2) a2 b2;obtain⟨st,rfl,s1,s2⟩:∃st:Int,v=.int st/\1<=st/\st<=100:=by simp only[Ç,Ù,or_false]at hv;rcases hv with rfl|rfl|rfl|rfl<;>exact⟨_,rfl,by decide,by decide⟩
 refine YA (x2.get n1 e1) ev ?_;have xh:ExtB w h g2:=(x0.trans<|.of x1).trans x2;clear e1 ev hv;refine' ⟨⟨by lia,by lia⟩,by rw[Jj];exact Ò (by lia:(1+r0).toNat<=6) (by decide),?_⟩;refine Ys (λi ys g=>∃ns:List Int,ys=ns.map Val.int/\ns.length=i/\Brs ns/\ExtB w h g/\Row g w) ⟨[],rfl,rfl,(λi hi=>gf hi Ù),xh,w2⟩ (λ_ _ _ _ _=>trivial) ?_ ?_
 .rintro i v ys g hv ⟨ns,rfl,hl,hb,x,hr⟩ K hK;obtain⟨rfl,hi⟩:=MR hv;walk_at "p";refine Zh hr (by decide) (by decide) λr3 g3 a3 b3 x3 w3=>?_;have m1:(i:Int)+r3<=6:=by lia
  have m2:st*((i:Int)+r3)<=100*6:=Int.le_trans (Int.mul_le_mul_of_nonneg_right s2<|by lia) (Int.mul_le_mul_of_nonneg_left m1<|by decide);have m3:0<=st*((i:Int)+r3):=Int.mul_nonneg (by lia) (by lia);refine' Zg λp4 g4 hp4 x4 e4=>?_;fail;have d0:(0:Int)<=st / 100:=Int.ediv_nonneg (by lia) (by decide);have d1:st / 100<2:=Int.ediv_lt_of_lt_mul (by decide) (by lia);obtain⟨v,ev,hv⟩:=Xu (xs:=[Val.int 0,.int 7]) (r:=st / 100) d0 d1;obtain⟨c,rfl,c0,c1⟩:∃c:Int,v=.int c/\0<=c/\c<=7:=by simp only[Ç,Ù,or_false]at hv;rcases hv with rfl|rfl<;>exact⟨_,rfl,by decide,by decide⟩
  refine YA e4 ev ?_;refine' hK _ _ ⟨ns++[st*((i:Int)+r3)+c],by rw[Ø];rfl,by rw[ä,hl];rfl,λj hj=>?_,(x.trans x3).trans<|.of x4,w3.ext x4⟩;rcases Ü.mp hj with hj|hj
  .exact hb j hj
  .rw[Ó.mp hj];lia
 .rintro ys g ⟨ns,rfl,hl,hb,x,hr⟩;rw[Jj]at hl;have l1:1<=ns.length:=by lia
  have l2:ns.length<=6:=by lia
  refine Zg λp5 g5 hp5 x5 e5=>?_;refine' QQ e5 (by lia) (Zg λb g6 hb6 x6 eb=>?_);have hrb:Brs<|sortI<|dedup ns:=λi hi=>hb i<|sd_mem.mp hi;have nd:=Df ns;have l3:=Ic l1;have l4:=LR ns;generalize sortI (dedup ns)=bs at eb hrb nd l3 l4;have w6:=(hr.ext x5).ext x6;have nb:b≠w:=λz=>(hr.ext x5).ne hb6 z.symm;have xh6:ExtB w h g6:=x.trans<|.of<|x5.trans x6;clear e5 x6 x5 hp5 hr x hb;have hL:(bs.map Val.int).length=bs.length:=Á _;refine' Zg λt g7 ht7 x7 e7=>?_;have nt:t≠w:=λz=>w6.ne ht7 z.symm;have ntb:t≠b:=λz=>Za eb ht7 z.symm;refine' Zh (w6.ext x7) (by decide) (by decide) λr8 g8 a8 b8 x8 w8=>?_;have xh8:ExtB w h g8:=xh6.trans<|(ExtB.of x7).trans x8;have eb8:=x8.get nb<|x7.get eb;have e8:=x8.get nt e7;clear e7 eb;have ht0:h t=ee:=by
   cases z:h t with
   |none=>rfl
   |some o=>rw[xh6.get nt z]at ht7;cases ht7
  refine' ⟨⟨by lia,by lia⟩,?_⟩;refine Zk (λi en g=>Sm5 λv3 v6 v7 v8 ts=>Cj7 (en=[d9<|.ref w,d9<|.int<|1+r0,d9<|.int st,v3,d9<|.ref b,d9<|.ref t,v6,v7,v8]) (g t=d9 (.lst ts)) (ts.length<=i) ((∀t∈ts,IsT bs t)) (g b=d9 (.lst<|bs.map .int)) (ExtB w h g)<|Row g w) ⟨_,_,_,_,[],rfl,e8,Ì _,(λi hi=>gf hi Ù),eb8,xh8,w8⟩ (λ_ _ _ _ _=>trivial) ?_ ?_
  .rintro i v en g hv ⟨v3,v6,v7,v8,ts,rfl,et,hl,ht,ebg,x,hr⟩ K hK;obtain⟨rfl,hi⟩:=MR hv;refine' Zh hr (by lia) (by lia) λq1 g1 a1 b1 x1 w1=>?_;have eb1:=x1.get nb ebg;obtain⟨u1,eu1,hu1⟩:=Xu (xs:=bs.map Val.int) (r:=q1) a1 b1;obtain⟨i1,hi1,rfl⟩:=Ð.mp hu1;refine YA eb1 eu1 ?_;refine' Zh w1 (by lia) (by lia) λq2 g2 a2 b2 x2 w2=>?_;have eb2:=x2.get nb eb1;obtain⟨u2,eu2,hu2⟩:=Xu (xs:=bs.map Val.int) (r:=q2) a2 b2;obtain⟨i2,cO,rfl⟩:=Ð.mp hu2;refine YA eb2 eu2 ?_;refine' Zh w2 (by lia) (by lia) λq3 g3 a3 b3 x3 w3=>?_;refine' Zh w3 (by lia) (by lia) λq4 g4 a4 b4 x4 w4=>?_;refine' Zg λp9 g9 hp9 x9 e9=>?_;have n9:p9≠w:=λz=>w4.ne hp9 z.symm;refine' Zh (w4.ext x9) (by lia) (by lia) λq5 g5 a5 b5 x5 w5=>?_;obtain⟨u3,eu3,hu3⟩:=Xu (xs:=[Val.int 1,.int 1,.int 2,.int<|1+q3,.int<|1+q4]) (r:=q5) a5 b5;obtain⟨c,rfl,c0,c1⟩:∃c:Int,u3=.int c/\1<=c/\c<=1000:=by
    simp only[Ç,Ù,or_false]at hu3;rcases hu3 with rfl|rfl|rfl|rfl|rfl<;>exact⟨_,rfl,by lia,by lia⟩
   refine YA (x5.get n9 e9) eu3 ?_;have xx:ExtB w g g5:=((((x1.trans x2).trans x3).trans x4).trans<|.of x9).trans x5;have et5:=xx.get nt et;have eb5:=xx.get nb ebg;refine' M0 (λhc=>?_) (λhc=>?_)
   .refine' ZC et5 (Ò (by lia:ts.length<=10)<|by decide) ?_;dsimp only;refine' hK _ _ ⟨_,_,_,_,_,rfl,ez,by rw[ä];simp;lia,λz hz=>?_,(ej ntb.symm).trans eb5,N1 (x.trans xx) ht0,w5.exb nt⟩
    .rcases Ü.mp hz with hz|hz
     .exact ht z hz
     .rw[Ó.mp hz];exact⟨(i1,i2,c),rfl,hi1,cO,hc,c0,c1⟩
   .refine' hK _ _ ⟨_,_,_,_,_,rfl,et5,by lia,ht,eb5,x.trans xx,w5⟩
  .rintro en g ⟨v3,v6,v7,v8,ts,rfl,et,hl,ht,ebg,x,hr⟩;rw[Jj]at hl;refine' ⟨⟨by lia,by lia⟩,?_⟩;refine Zk (λi en g=>Sm5 λv3 v6 v7 v8 ts=>Cj7 (en=[d9<|.ref w,d9<|.int<|1+r0,d9<|.int st,v3,d9<|.ref b,d9<|.ref t,v6,v7,v8]) (g t=d9 (.lst ts)) (ts.length<=9+i) ((∀t∈ts,IsT bs t)) (g b=d9 (.lst<|bs.map .int)) (ExtB w h g)<|Row g w) ⟨_,_,_,_,ts,rfl,et,by lia,ht,ebg,x,hr⟩ (λ_ _ _ _ _=>trivial) ?_ ?_
   .rintro i v en g hv ⟨v3,v6,v7,v8,ts,rfl,et,hl,ht,ebg,x,hr⟩ K hK;obtain⟨rfl,hi⟩:=DH hv;rw[hL]at hi;refine' Zh hr (by lia) (by lia) λq1 g1 a1 b1 x1 w1=>?_;refine' fJ (λhc=>?_) (λhc=>?_)
    .refine' Zh w1 (by lia) (by lia) λq2 g2 a2 b2 x2 w2=>?_;have eb2:=x2.get nb<|x1.get nb ebg;obtain⟨u2,eu2,hu2⟩:=Xu (xs:=bs.map Val.int) (r:=q2) a2 (by lia);obtain⟨i2,cO,rfl⟩:=Ð.mp hu2;refine YA eb2 eu2 ?_;fail;obtain⟨u3,eu3,hu3⟩:=Xu (xs:=bs.map Val.int) (r:=1+(i:Int)) (by lia) (by lia);obtain⟨i3,hi3,rfl⟩:=Ð.mp hu3;refine YA eb2 eu3 ?_;refine' Zh w2 (by lia) (by lia) λq4 g4 a4 b4 x4 w4=>?_;have xx:ExtB w g g4:=(x1.trans x2).trans x4;have et4:=xx.get nt et;refine' ZC et4 (Ò (by lia:ts.length<=20)<|by decide) ?_;dsimp only;refine' hK _ _ ⟨_,_,_,_,_,rfl,ez,by rw[ä];simp;lia,λz hz=>?_,(ej ntb.symm).trans<|xx.get nb ebg,N1 (x.trans xx) ht0,w4.exb nt⟩;rcases Ü.mp hz with hz|hz
     .exact ht z hz
     .rw[Ó.mp hz];exact⟨(i2,i3,1+q4),rfl,cO,hi3,RC nd a2 (by lia) (by lia) (by lia) (by lia) eu2 eu3,by show 1<=1+q4;lia,by show 1+q4<=1000;lia⟩
    .refine' hK _ _ ⟨_,_,_,_,_,rfl,x1.get nt et,by lia,ht,x1.get nb ebg,x.trans x1,w1⟩
   .rintro en g ⟨v3,v6,v7,v8,ts,rfl,et,hl,ht,ebg,x,hr⟩;rw[CQ]at hl;obtain⟨zs,rfl,hz⟩:=U7 ht;rw[Á]at hl;refine' EX ebg et l3 (by lia) hrb nd (by lia) hz λg3 x3=>?_;have hl2:(sortI bs).length=bs.length:=(ŋ bs _).length_eq;refine k _ _ _ ⟨by lia,by lia,λi hi=>hrb i<|mem_sort.mp hi,YX nd,by rw[Á];lia,λt ht=>?_⟩ (x.trans<|.of x3)<|hr.ext x3;obtain⟨z,hz',rfl⟩:=Ð.mp ht;obtain⟨q1,q2,q3⟩:=FF<|hz z hz';exact⟨mem_sort.mpr q1,mem_sort.mpr q2,q3⟩
abbrev Bq(bs:List Int)(ts:List Tie)(most:Int):Yc:=⟨bs,ts,most,bs.map λb=>(b,0),bs.map λb=>(b,ZU b 0 most<|fS b 0 ts),[],[]⟩
def RK{bs:List Int}(nw:YNew bs ts most Y):Y.cc=Bq bs ts most:=by
 have e:enC Y.es=bs.map λb=>(b,ZU b 0 most<|fS b 0 ts):=by rw[<-nw.num,ê];exact ċ λe he=>by show(e.num,e.B)=(e.num,_);rw[nw.br e he]
 unfold Yd.cc Bq;rw[nw.hb,nw.ht,nw.hm,nw.lives,nw.fallen,nw.road,e]
def FR{b:Int}(h:ts.length<=16):Bok ts.length<|ZU b life most<|fS b 0 ts:=by
 have r:=JV (b:=b) (l:=ts) (k:=0);have rg:∀q∈WL (fS b 0 ts),0<=q.1/\q.1<ts.length:=λq hq=>by obtain⟨x,hx,rfl⟩:=Ð.mp hq;have:=r.2 x hx;dsimp only;lia
 refine⟨⟨Ģ,(λ_ m=>nomatch m),?_,λq hq=>?_⟩,λq hq=>(rg q hq).2⟩
 .show((WL _).map (·.1)).Nodup;rw[UD];exact r.1.imp λz=>by lia
 .have:=rg q hq;lia
def GU{bs:List Int}(no:eZ bs ts):(Bq bs ts most).gd 0:=by
 have e1:(bs.map λb=>(b,ZU b 0 most<|fS b 0 ts)).map (·.1)=bs:=by rw[ê];exact Ū _
 refine⟨no,?_,keys_sub.mpr ?_,λq hq=>?_,?_,Ģ,(λ_ m=>nomatch m),Ì _⟩
 .show((bs.map λb=>(b,ZU b 0 most<|fS b 0 ts)).map (·.1)).Nodup;rw[e1];exact no.up.imp λh=>by lia
 .show ∀x∈(bs.map λb=>(b,ZU b 0 most<|fS b 0 ts)).map (·.1),_;rw[e1];exact λ_=>id
 .obtain⟨b,_,rfl⟩:=Ð.mp hq;exact FR no.sixteen
 .show(bs.map λb=>(b,(0:Int))).map (·.1)=bs;rw[ê];exact Ū _
def KC{b:Int}(h:b∈C.br.map (·.1)):∃D,step C (.tick b)=d9 D/\D.br.map (·.1)=C.br.map (·.1):=by obtain⟨B,hB⟩:=ZK h;refine⟨_,by show(C.br.lookup b).map _=_;rw[hB];rfl,Kc _⟩
def AD{l:List Int}(h:l.Pairwise (· < ·)):sortI l=l:=by have h1:=YX (h.imp λz=>by lia:l.Nodup);have p:=ŋ l λa b=>gg (a<=b);exact p.eq_of_pairwise (λa b _ _ z1 z2=>by lia) h1 h
def eR.extb(x:eR h Y)(e:ExtB w h g)(nw:w∉Y.adr):eR g Y:=x.keep (S:=[w]) (Ex.ofB e<|by simp) λa ha z=>nw (Ó.mp z▸ha)
def B6{b:Int}(h:b∈C.keys):(step C<|.fallB b).isSome=eh:=by dsimp only[step];rw[fZ<|keys_mem.mp h];rfl
def GY{b:Int}(h:b∈C.keys):(step C<|.tick b).isSome=eh:=by obtain⟨D,hD,_⟩:=KC<|keys_look.mp<|keys_mem.mp h;rw[hD];rfl
def cut_mem{p:Int}:p∈C.cuts↔(C.fallen.lookup p).isSome=eh:=by unfold Yc.cuts;rw[mem_sort,look_iff];simp
def Dv{p:Int}(h0:0<=p)(h1:p<C.ts.length)(h:p∉C.cuts):(step C<|.fallT p).isSome=eh:=by dsimp only[step];rw[fZ ⟨⟨h0,h1⟩,by cases z:(C.fallen.lookup p).isSome with|false=>rfl|true=>exact gf (cut_mem.mpr z) h⟩];rfl
def B7{p:Int}(h:p∈C.cuts):(step C<|.backT p).isSome=eh:=by dsimp only[step];rw[fZ<|cut_mem.mp h];rfl
def downs_mem{b:Int}:b∈C.downs↔b∈C.bs/\(C.br.lookup b).isSome=ei:=by unfold Yc.downs;rw[Ę];simp
def EA{b:Int}(g:C.gd N)(h:b∈C.downs):(step C<|.backB b).isSome=eh:=by obtain⟨h1,h2⟩:=downs_mem.mp h;dsimp only[step];rw[f8<|by rw[h2];decide];rw[<-g.lv]at h1;obtain⟨v,hv⟩:=ZK h1;rw[hv];rfl
def MA(h0:0<=r)(h1:r<C.road.length):(step C<|.lost r).isSome=eh/\(step C<|.come r).isSome=eh:=by have e:=Ê (l:=C.road) (i:=r.toNat) (by lia);dsimp only[step];rw[f8 (by lia),e];exact⟨rfl,by rw[f8<|by lia];rfl⟩
def Rp(r0:0<=r)(r1:r<ns.length):∃b∈ns,atI (ns.map Val.int) r=d9 (.int b):=by obtain⟨b,hb,hm⟩:=CF r0 r1;exact⟨b,hm,Xk r0<|by rw[Ö,hb];rfl⟩
abbrev flat:Nat->Val->Bool
 |_,.non=>eh
 |_,.bl _=>eh
 |_,.int _=>eh
 |_,.str _=>eh
 |n+1,.tup xs=>xs.all<|flat n
 |_,_=>ei
def W8{α β:Type}{f:α->Option β}:∀{xs:List α},(∀x∈xs,∃d,f x=d9 d)->∃ds,xs.mapM f=d9 ds
 |[],_=>⟨[],rfl⟩
 |x::xs,h=>by obtain⟨d,hd⟩:=h x (by simp);obtain⟨ds,hds⟩:=W8 (xs:=xs) λy hy=>h y (by simp[hy]);exact⟨d::ds,by rw[ς,hd,hds];rfl⟩
def Kd{h:Hs}:∀{n:Nat}{v:Val},flat n v=eh->∃d,dat h n v=d9 d
 |0,.non,_=>⟨_,rfl⟩
 |0,.bl _,_=>⟨_,rfl⟩
 |0,.int _,_=>⟨_,rfl⟩
 |0,.str _,_=>⟨_,rfl⟩
 |n+1,.non,_=>⟨_,rfl⟩
 |n+1,.bl _,_=>⟨_,rfl⟩
 |n+1,.int _,_=>⟨_,rfl⟩
 |n+1,.str _,_=>⟨_,rfl⟩
 |n+1,.tup xs,e=>by obtain⟨ds,hds⟩:=W8 (f:=dat h n) (xs:=xs) λx hx=>Kd<|ü.mp e x hx;exact⟨_,by show(xs.mapM<|dat h n).map D.tup=_;rw[hds];rfl⟩
def Fx{v:Val}(e:flat 12 v=eh):eqV h v v=d9 eh:=by obtain⟨d,hd⟩:=Kd (h:=h) e;show(dat h 12 v).bind (λd=>(dat h 12 v).map λe=>D.eqv d e)=_;rw[hd];show d9 (D.eqv d d)=_;rw[D.eqv_refl]
def CZ{xs:List Val}(ea:h a=d9 (.lst xs))(eb:h b=d9 (.lst xs))(e:xs.all (flat 11)=eh):eqV h (.ref a) (.ref b)=d9 eh:=by
 obtain⟨ds,hds⟩:=W8 (f:=dat h 11) (xs:=xs) λx hx=>Kd<|ü.mp e x hx;have h1:∀{c:Ad},h c=d9 (.lst xs)->dat h deep (.ref c)=d9 (.lst ds):=λ{c} ec=>by show(eS<|h c).bind (λxs=>(xs.mapM<|dat h 11).map D.lst)=_;rw[ec,JT,û,hds];rfl
 unfold eqV;rw[h1 ea,h1 eb];show d9 (D.eqv _ _)=_;rw[D.eqv_refl]
def all_map{α:Type}{f:α->Val}{n:Nat}{xs:List α}(h:∀x∈xs,flat n (f x)=eh):(xs.map f).all (flat n)=eh:=by rw[List.all_map];exact ü.mpr h
def EM{i:Int}:flat n (.int i)=eh:=by cases n<;>rfl
section
variable {Y:Yd}{N:Nat}
def BW{bs:List Int}(no:eZ bs ts)(hp:h p=ee)(k:∀Y g,Y.y=p->eR g Y->Y.cc=Bq bs ts most->(∀a∈Y.adr,h a=ee)->Ext h g->Q .non g):wF P (n+3) "Yard.__init__" [.ref p,ZD bs ts,.int most] (upd h p<|.ins "Yard" []) Q X:=Du no hp λY g e y nw f x=>k Y g e y (RK nw) f x
def GV{k:Nat}(q:∀c,Q (.int c) h):wF P (n+1) "_law_cell_at" [.scr ns,.int k] h Q X:=by
 refine Kv ?_;refine' fJ (λhc=>?_) (λhc=>?_)
 .fail;have hk:k<ns.length:=by lia
  refine L1 (v:=.int ns[k]) ?_ ?_
  .refine Xk (by lia) ?_;rw[Ö];simp[hk]
  .exact q _
 .refine' q _
end
abbrev Yc.ups(C:Yc):List Int:=C.bs.filter λb=>(C.br.lookup b).isSome
def EO(g:C.gd N):C.keys=C.ups:=by
 have s1:C.keys.Pairwise (· < ·):=YX g.nd;have s2:C.ups.Pairwise (· < ·):=g.no.up.sublist ţ;have p:C.keys.Perm C.ups:=(aS (s1.imp λz=>by lia)<|s2.imp λz=>by lia).mpr λb=>by rw[keys_mem];unfold Yc.ups;rw[Ę];exact⟨λz=>⟨keys_sub.mp g.sub b<|keys_look.mp z,z⟩,λz=>z.2⟩
 exact p.eq_of_pairwise (λa b _ _ z1 z2=>by lia) s1 s2
def FC:eqV h (.tup<|ts.map trV) (.tup [])=d9 (gg (ts=[])):=by
 cases ts with
 |nil=>rfl
 |cons a l =>
  obtain⟨ds,hds⟩:=W8 (f:=dat h 11) (xs:=(a::l).map trV) λx hx=>by obtain⟨t,_,rfl⟩:=Ð.mp hx;exact⟨_,rfl⟩
  show((((a::l).map trV).mapM<|dat h 11).map D.tup).bind _=_;have:∃d r,ds=d::r:=by
   rw[Ñ,ς]at hds;cases e:(l.map trV).mapM (dat h 11)with
   |none=>rw[e]at hds;cases hds
   |some r=>rw[e]at hds;exact⟨_,_,(í hds).symm⟩
  obtain⟨d,r,rfl⟩:=this;rw[hds];rfl
noncomputable abbrev dnV(C:Yc):Val:=.tup [.tup<|C.downs.map .int,.tup<|C.cuts.map .int]
section
variable {Y:Yd}{N:Nat}{C:Yc}
def L7(gd:C.gd N)(k:∀p g,h p=ee->Ext h g->g p=d9 (.lst<|C.ups.map .int)->Q (.ref p) g):wF P (n+1) "_law_ups" [ZD C.bs C.ts,dnV C] h Q X:=by
 refine AX ?_
 exists eL (xs:=[.tup<|C.bs.map .int,.tup<|C.ts.map trV]) (v:=.tup<|C.bs.map .int) rfl
 refine' ⟨Ò (by rw[Á];exact gd.no.ten) (by decide),Ys (λi ys g=>g=h/\ys=((C.bs.take i).filter λb=>(C.br.lookup b).isSome).map .int) ⟨rfl,rfl⟩ (λ_ _ _ _ _=>trivial) ?_ ?_⟩
 .rintro i v ys g hv ⟨rfl,rfl⟩ K hK;obtain⟨b,hb,rfl⟩:=ZF hv;rw[Zj hb,dD,Ī,List.filter_nil]at hK;have hm:=è hb
  exists Lb (ns:=C.downs)
  have e:(!gg (b∈C.downs))=(C.br.lookup b).isSome:=by
   cases z:(C.br.lookup b).isSome with
   |false=>rw[gb<|downs_mem.mpr ⟨hm,z⟩];rfl
   |true=>rw[f9 λy=>by have:=(downs_mem.mp y).2;rw[z]at this;cases this];rfl
  rw[e];refine' fK (λhc=>?_) (λhc=>?_)
  .refine' hK _ _ ⟨rfl,by rw[hc,fZ rfl,Ø];rfl⟩
  .exact hK _ _ ⟨rfl,by rw[hc,f8 (by decide),þ,cH,þ]⟩
 rintro ys g ⟨rfl,rfl⟩;rw[Á,ý];exact Zg k
def BK(hw:Row h w)(gd:C.gd N)(k:∀d g,(step C d).isSome=eh->ExtB w h g->Row g w->Q (Dd.v d) g):wF P (n+2) "_law_turned" [.ref w,ZD C.bs C.ts,dnV C] h Q X:=by
 have t16:=gd.no.sixteen;have b10:=gd.no.ten;have b1:=gd.no.one;have htl:(C.ts.map trV).length=C.ts.length:=Á _;have hbl:(C.bs.map Val.int).length=C.bs.length:=Á _;refine M1 ?_
 exists eL (xs:=[.tup<|C.bs.map .int,.tup<|C.ts.map trV]) (v:=.tup<|C.ts.map trV) rfl
 fail;rw[htl];refine Zh hw (by split<;>lia) (by split<;>lia) λp g1 p0 p1 x1 w1=>?_
 exists eL (xs:=[.tup<|C.bs.map .int,.tup<|C.ts.map trV]) (v:=.tup<|C.bs.map .int) rfl
 exists eL (xs:=[.tup<|C.bs.map .int,.tup<|C.ts.map trV]) (v:=.tup<|C.bs.map .int) rfl
 fail;rw[hbl];refine Zh w1 (by lia) (by lia) λr g2 r0 r1 x2 w2=>?_;obtain⟨b,hb,eb⟩:=Rp (ns:=C.bs) r0 r1;refine eL eb ?_;refine' Zh w2 (by decide) (by decide) λs g3 s0 s1 x3 w3=>?_;have xx:=(x1.trans x2).trans x3;have fin:∀{g:Hs},ExtB w h g->Row g w->wSs (wF P<|n+1) #[.ret<|.tup #[.idx (.lst #[.cst<|.str "fall",.cst<|.str "back"])<|.bi .int #[.cmp .isin (.var 4)<|.idx (.var 2)<|.cst<|.int 0],.cst<|.str "bridge",.var 4]] [d9<|.ref w,d9<|ZD C.bs C.ts,d9<|dnV C,d9<|.int p,d9<|.int b] g (λ_ g=>Q .non g) Q (λ_ _=>False) (λ_ _=>False) λ_ c g=>X c g:=λ{g} y wg=>by
  refine' Zg λq g4 hq x4 e4=>?_
  exists JJ (ns:=C.downs)
  have y4:=y.trans<|.of x4;by_cases z:b∈C.downs
  .rw[gb z];refine' k (.backB b) _ (EA gd z) y4 (wg.ext x4)
  .rw[f9 z];refine' k (.fallB b) _ (B6<|keys_mem.mpr ?_) y4 (wg.ext x4);cases e:(C.br.lookup b).isSome with
   |true=>rfl
   |false=>exact gf (downs_mem.mpr ⟨hb,e⟩) z
 refine' fJ (λc1=>?_) (λc1=>fI rfl<|Dp<|fin xx w3)
 exists eL (xs:=[.tup<|C.bs.map .int,.tup<|C.ts.map trV]) (v:=.tup<|C.ts.map trV) rfl
 refine Np FC ?_;refine' M0 (λc2=>?_) (λc2=>Dp<|fin xx w3);have hl:=cX.mpr c2;have p1:p<C.ts.length:=by split at p1<;>lia
 refine' Zg λq g4 hq x4 e4=>?_
 exists JJ (ns:=C.cuts)
 have y4:=xx.trans<|.of x4;by_cases z:p∈C.cuts
 .rw[gb z];refine' k (.backT p) _ (B7 z) y4 (w3.ext x4)
 .rw[f9 z];refine' k (.fallT p) _ (Dv p0 p1 z) y4 (w3.ext x4)
def DC(hw:Row h w)(x:eR h Y)(gd:Y.cc.gd N)(hN:N<=6000)(nw:w∉Y.adr)(k:∀d g,(step Y.cc d).isSome=eh->ExtB w h g->Row g w->Q (Dd.v d) g):wF P (n+3) "_law_drawn" [.ref w,.ref Y.y,ZD Y.bs Y.ts] h Q X:=by
 have xi:=x.ins;have hl:Y.road.length<=16*N:=gd.len;have rl:(Y.road.map rdV).length=Y.road.length:=Á _;refine NO ?_;refine' UM x λp1 g1 bN x1 e1=>?_;have y1:=x.ext x1;have xi:=y1.ins;refine' EK y1 gd λg2 x2=>?_;have y2:=y1.ext x2;refine' L7 (C:=Y.cc) gd λpu g3 hpu x3 eu=>?_;have w3:=((hw.ext x1).ext x2).ext x3;have nu:pu≠w:=λz=>((hw.ext x1).ext x2).ne hpu z.symm;fail;rw[rl];refine Zh w3 (by decide) (by decide) λkd g4 k0 k1 x4 w4=>?_;have xx:ExtB w h g4:=(ExtB.of<|(x1.trans x2).trans x3).trans x4;have eu4:=x4.get nu eu;have ul:(Y.cc.ups.map Val.int).length=Y.cc.ups.length:=Á _;have ul10:Y.cc.ups.length<=10:=á (Ÿ _ _) gd.no.ten;have tn:∀{g:Hs},ExtB w h g->Row g w->wF P (n+2) "_law_turned" [.ref w,ZD Y.bs Y.ts,dnV Y.cc] g Q X:=λ{g} y wg=>BK (C:=Y.cc) wg gd λd g' s x' w'=>k d g' s (y.trans x') w';refine' fJ (λc1=>?_) (λc1=>?_)
 .refine fH rfl ?_;refine' tn xx w4
 refine' Zg λpz g5 hz x5 e5=>?_;refine c_eqE (x5.get eu4) e5 ?_;have y5:ExtB w h g5:=xx.trans<|.of x5;have w5:=w4.ext x5;refine' fK (λc2=>?_) (λc2=>?_)
 .refine' tn y5 w5
 have eu5:=x5.get eu4;have hpos:0<Y.cc.ups.length:=by
  cases z:Y.cc.ups with
  |nil=>rw[z]at c2;cases c2
  |cons a l=>simp
 have tick:wSs (wF P<|n+2) #[.ret<|.tup #[.cst<|.str "tick",.idx (.var 5)<|.call "_law_take" #[.var 0,.bi .len #[.var 5]]]] [d9<|.ref w,d9<|.ref Y.y,d9<|ZD Y.bs Y.ts,d9<|.int (Y.road.length:Nat),d9<|dnV Y.cc,d9<|.ref pu,d9<|.int kd,ee] g5 (λe g=>True) Q (λ_ _=>False) (λ_ _=>False) λ_ c g=>X c g:=by fail;rw[ul];refine Zh w5 (by lia) (by lia) λr g6 r0 r1 x6 w6=>?_;obtain⟨b,hb,eb⟩:=Rp (ns:=Y.cc.ups) r0 r1;refine YA (x6.get nu eu5) eb ?_;refine' k (.tick b) _ (GY<|by rw[EO gd];exact hb) (y5.trans x6) w6
 refine' fJ (λc3=>?_) (λc3=>?_)
 .refine fH rfl ?_;exact tick
 refine' fJ (λc4=>?_) (λc4=>?_)
 .exact tick
 refine' Zh w5 (by lia) (by lia) λr g6 r0 r1 x6 w6=>?_;refine' Zg λq g7 hq x7 e7=>?_;have nq:q≠w:=λz=>w6.ne hq z.symm;refine' Zh (w6.ext x7) (by decide) (by decide) λs g8 s0 s1 x8 w8=>?_;obtain⟨v,hv,em⟩:=Xu (xs:=[Val.int 0,.int 0,.int<|(Y.road.length:Nat) - 1,.int r]) (r:=s) s0 s1;refine YA (x8.get nq e7) hv ?_;have:∃q:Int,v=.int q/\0<=q/\q<Y.cc.road.length:=by
  have:Y.cc.road.length=Y.road.length:=rfl;simp only[Ç,Ù,or_false]at em;rcases em with rfl|rfl|rfl|rfl
  .exact⟨_,rfl,by lia,by lia⟩
  .exact⟨_,rfl,by lia,by lia⟩
  .exact⟨_,rfl,by lia,by lia⟩
  .exact⟨_,rfl,r0,r1⟩
 obtain⟨pl,rfl,q0,q1⟩:=this;refine' Zg λq2 g9 hq2 x9 e9=>?_;fail;have y9:ExtB w h g9:=(((y5.trans x6).trans<|.of x7).trans x8).trans<|.of x9;by_cases z:kd=12
 .rw[gb z];refine' k (.lost pl) _ (MA q0 q1).1 y9 (w8.ext x9)
 .rw[f9 z];refine' k (.come pl) _ (MA q0 q1).2 y9 (w8.ext x9)
end
noncomputable abbrev Hst:=Int->Pi->Option Lab
abbrev leP(a b:Pi):Prop:=a.1<b.1\/(a.1=b.1/\a.2<=b.2)
def leP.anti{a b:Pi}(h:leP a b)(k:leP b a):a=b:=by unfold leP at h k;exact Prod.ext (by lia) (by lia)
def leP.refl(a:Pi):leP a a:=.inr ⟨rfl,Ν _⟩
abbrev Inc(ts:List Tie)(p b:Int):Prop:=0<=p/\p<ts.length/\((ts[p.toNat]?.getD (0,0,0)).1=b\/(ts[p.toNat]?.getD (0,0,0)).2.1=b)
abbrev cst(ts:List Tie)(p:Int):Int:=(ts[p.toNat]?.getD (0,0,0)).2.2
def WC{p:Int}(h0:0<=p)(h1:p<ts.length):ts[p.toNat]?.getD (0,0,0)∈ts:=by
 have h2:p.toNat<ts.length:=by lia
 rw[Ê h2];exact ō h2
def Inc.far{bs:List Int}(no:eZ bs ts){p b:Int}(h:Inc ts p b):Inc ts p (Yp ts p b)/\Yp ts p (Yp ts p b)=b:=by
 obtain⟨h0,h1,h2⟩:=h;have lt:=(no.tie _<|WC h0 h1).2.2.1;unfold Inc Yp O.far;rcases h2 with h2|h2
 .rw[fZ h2,f8<|by lia];exact⟨⟨h0,h1,.inr rfl⟩,h2⟩
 .rw[f8 (by lia),fZ rfl];exact⟨⟨h0,h1,.inl rfl⟩,h2⟩
structure LtOk(H:Hst)(ts:List Tie)(b p:Int)(l:L):Prop where
 inc:Inc ts p b
 lab:∃y,H b l.st=d9 y/\l.root=y.root/\l.cost=y.cost/\∀t,l.rests=d9 t->y.up=d9 (p,t)
 agr:∀t,l.agrees=d9 t->(H (Yp ts p b) t).isSome=eh/\∀t1 y q,leP t1 t->H (Yp ts p b) t1=d9 y->y.up=d9 (p,q)->leP q l.st
structure BrOk(H:Hst)(ts:List Tie)(lv:List<|Int×Int)(b:Int)(B:Br):Prop where
 now:H b (B.life,B.version)=d9 B.label
 top:∀s,(H b s).isSome=eh->leP s (B.life,B.version)
 held:∀q∈B.held,LtOk H ts (Yp ts q.1 b) q.1 q.2.1
 ties:∀q∈B.ties,Inc ts q.1 b/\q.2=(Yp ts q.1 b,cst ts q.1)
 life:lv.lookup b=d9 B.life
structure Safe(H:Hst)(C:Yc):Prop where
 br:∀q∈C.br,BrOk H C.ts C.lives q.1 q.2
 lv:∀b l s,C.lives.lookup b=d9 l->(H b s).isSome=eh->s.1<=l
 rest:∀b s y p t,H b s=d9 y->y.up=d9 (p,t)->∃z,H (Yp C.ts p b) t=d9 z/\y.root=z.root/\y.cost=z.cost+cst C.ts p
 road:∀r∈C.road,r.2.1=Yp C.ts r.2.2.1 r.1/\LtOk H C.ts r.1 r.2.2.1 r.2.2.2
abbrev XE(H:Hst)(b:Int)(s:Pi)(y:Lab):Hst:=λc t=>if c=b/\t=s then d9 y else H c t
abbrev Bb(H:Hst)(b:Int)(s:Pi):Prop:=∀t,(H b t).isSome=eh->leP t s/\t≠s
section
variable {H:Hst}{ts:List Tie}{lv:List (Int×Int)}{b c p:Int}{s t:Pi}{y z:Lab}{l:L}{B:Br}{C D:Yc}
def Og:XE H b s y b s=d9 y:=fZ ⟨rfl,rfl⟩
def Xs(nw:Bb H b s)(h:H c t=d9 z):XE H b s y c t=d9 z:=by
 unfold XE;rw[f8]
 .exact h
 .rintro⟨rfl,rfl⟩;exact(nw t<|by rw[h];rfl).2 rfl
def Jf(h:XE H b s y c t=d9 z):(c=b/\t=s/\z=y)\/H c t=d9 z:=by
 unfold XE at h;split at h
 .rename_i e;cases h;exact .inl ⟨e.1,e.2,rfl⟩
 .exact .inr h
def CL(nw:Bb H b s)(h:(H c t).isSome=eh):(XE H b s y c t).isSome=eh:=by obtain⟨z,hz⟩:=é.mp h;rw[Xs nw hz];rfl
def XA(h:(XE H b s y c t).isSome=eh):(c=b/\t=s)\/(H c t).isSome=eh:=by
 obtain⟨z,hz⟩:=é.mp h;rcases Jf hz with q|q
 .exact .inl ⟨q.1,q.2.1⟩
 .exact .inr (by rw[q];rfl)
def LtOk.add(o:LtOk H ts c p l)(nw:Bb H b s):LtOk (XE H b s y) ts c p l:=by
 obtain⟨x,h1,h2⟩:=o.lab;refine⟨o.inc,⟨x,Xs nw h1,h2⟩,λt ht=>?_⟩;obtain⟨q1,q2⟩:=o.agr t ht;refine⟨CL nw q1,λt1 z q hl hz hu=>?_⟩;rcases Jf hz with⟨e1,e2,_⟩|e
 .rw[e1]at q1;have:=nw t q1;rw[e2]at hl;exact gf (leP.anti this.1 hl) this.2
 .exact q2 t1 z q hl e hu
def BrOk.add(o:BrOk H ts lv c B)(nw:Bb H b s)(n:c≠b):BrOk (XE H b s y) ts lv c B :=
 ⟨Xs nw o.now,λt ht=>(XA ht).elim (λe=>gf e.1 n)<|o.top t,λq hq=>(o.held q hq).add nw,o.ties,o.life⟩
def BrOk.less(o:BrOk H ts lv b B){A:Br}(e1:A.life=B.life)(e2:A.version=B.version)(e3:A.label=B.label)(hh:∀q∈A.held,q∈B.held)(ht:∀q∈A.ties,Inc ts q.1 b/\q.2=(Yp ts q.1 b,cst ts q.1)):BrOk H ts lv b A :=
 ⟨by rw[e1,e2,e3];exact o.now,by rw[e1,e2];exact o.top,λq hq=>o.held q<|hh q hq,ht,by rw[e1];exact o.life⟩
def BrOk.tieF(o:BrOk H ts lv b B){f k:Int}(hp:Inc ts p b)(hf:f=Yp ts p b)(hk:k=cst ts p):BrOk H ts lv b<|O.tieF on p f k B:=by
 subst hf hk;unfold O.tieF;split
 .unfold upB;split
  .exact o
  .refine o.less rfl rfl rfl (λ_ h=>h) λq hq=>?_;rcases XB hq with e|hq
   .rw[e];exact⟨hp,rfl⟩
   .exact o.ties q hq
 .exact o.less rfl rfl rfl (λ_ h=>ZT h) λq hq=>o.ties q<|ZT hq
def OK{R:Int->Br->Prop}{k:Int}{m:List (Int×Br)}(h:∀q∈m,R q.1 q.2)(hF:∀A,R k A->R k (F A)):∀q∈upC k F m,R q.1 q.2:=λq hq=>by
 obtain⟨e,he,rfl⟩:=Ð.mp hq;split
 .rename_i z;have:=h e he;rw[z]at this;dsimp only;rw[z];exact hF _ this
 .exact h e he
def MO{bs:List Int}(no:eZ bs C.ts)(h0:0<=p)(h1:p<C.ts.length)(h:∀q∈C.br,BrOk H C.ts C.lives q.1 q.2):∀q∈(C.set1 p).br,BrOk H C.ts C.lives q.1 q.2:=by have lt:=(no.tie _<|WC h0 h1).2.2.1;have e1:Yp C.ts p (C.tie p).1=(C.tie p).2.1:=fZ rfl;have e2:Yp C.ts p (C.tie p).2.1=(C.tie p).1:=f8 (by show ¬ (C.ts[p.toNat]?.getD (0,0,0)).1=(C.ts[p.toNat]?.getD (0,0,0)).2.1;lia);exact OK (R:=BrOk H C.ts C.lives) (OK (R:=BrOk H C.ts C.lives) h λA o=>o.tieF ⟨h0,h1,.inl rfl⟩ e1.symm rfl) λA o=>o.tieF ⟨h0,h1,.inr rfl⟩ e2.symm rfl
def M3{bs:List Int}:∀{m:List Tie}{C:Yc},eZ bs C.ts->(∀r∈m,0<=r.1/\r.1<C.ts.length)->(∀q∈C.br,BrOk H C.ts C.lives q.1 q.2)->(∀q∈(C.sets m).br,BrOk H C.ts C.lives q.1 q.2)/\(C.sets m).lives=C.lives/\(C.sets m).road=C.road
 |[],_,_,_,h=>⟨h,rfl,rfl⟩
 |r::m,C,no,hm,h=>M3 (m:=m) (C:=C.set1 r.1) no (λq hq=>hm q<|by simp[hq]) (MO no (hm r<|by simp).1 (hm r<|by simp).2 h)
def GX(o:B.ok)(h:(ZL B).up=d9 q):∃l a,(q.1,(l,a))∈B.held/\q.2=l.st/\(ZL B).root=l.root/\(ZL B).cost=l.cost+(K3 B.ties q.1).2:=by
 unfold ZL at h ⊢;split at h
 .cases h
 .rename_i m e;have hm:=JK e;unfold Kl at hm;obtain⟨y,hy,rfl⟩:=Ð.mp hm;cases h;refine⟨y.2.1,y.2.2,hy,?_,?_,?_⟩
  .show N6 B.held y.1=_;unfold N6;rw[Z6 o.nd hy];rfl
  .rfl
  .rfl
def BrOk.tick{bs:List Int}(sf:Safe H C)(no:eZ bs C.ts)(o:BrOk H C.ts C.lives b B)(ok:B.ok):∃H',(∀c t z,H c t=d9 z->H' c t=d9 z)/\BrOk H' C.ts C.lives b B.ticked/\(∀c A,c≠b->BrOk H C.ts C.lives c A->BrOk H' C.ts C.lives c A)/\(∀c p l,LtOk H C.ts c p l->LtOk H' C.ts c p l)/\(∀k l s,C.lives.lookup k=d9 l->(H' k s).isSome=eh->s.1<=l)/\(∀c s y p t,H' c s=d9 y->y.up=d9 (p,t)->∃z,H' (Yp C.ts p c) t=d9 z/\y.root=z.root/\y.cost=z.cost+cst C.ts p)/\(∀q∈B.ties,LtOk H' C.ts b q.1<|Zx B.told q.1):=by
 have og:=ok.grown;have hg:∀q∈B.grown.held,∃a,(q.1,(q.2.1,a))∈B.held:=λq hq=>K2 hq;obtain⟨f1,f2,f3,f4,f5,f6,f7⟩:=Z3 B.grown<|ZL B.grown;have lets:∀H':Hst,(∀c t z,H c t=d9 z->H' c t=d9 z)->(∀c p l,LtOk H C.ts c p l->LtOk H' C.ts c p l)->BrOk H' C.ts C.lives b B.told->(∀c s y p t,H' c s=d9 y->y.up=d9 (p,t)->∃z,H' (Yp C.ts p c) t=d9 z/\y.root=z.root/\y.cost=z.cost+cst C.ts p)->∀q∈B.ties,LtOk H' C.ts b q.1 (Zx B.told q.1):=λH' hk hl o' rs q hq=>by
  have hi:=(o.ties q hq).1;have hf:=hi.far no;refine⟨hi,⟨B.told.label,o'.now,rfl,rfl,λt ht=>?_⟩,λt ht=>?_⟩
  .replace ht:(if AE B.told.label.up q.1 then B.told.label.up.map (·.2)else ee)=d9 t:=ht
   split at ht
   .rename_i hu;cases e:B.told.label.up with
    |none=>rw[e]at hu;cases hu
    |some v =>rw[e]at ht hu;have:q.1=v.1:=of_decide_eq_true hu;cases ht;rw[this]
   .cases ht
  .replace ht:(if AE B.told.label.up q.1 then ee else if Xl B.told q.1 then d9 (N6 B.told.held q.1)else ee)=d9 t:=ht
   split at ht
   .cases ht
   .split at ht
    .rename_i hr;unfold Xl at hr;cases e:B.told.held.lookup q.1 with
     |none=>rw[e]at hr;cases hr
     |some v =>cases ht;unfold N6;rw[e];have hm:=Zf e;have hm:=o'.held _ hm;obtain⟨x,g1,_⟩:=hm.lab;refine⟨by show(H' (Yp C.ts q.1 b) v.1.st).isSome=eh;rw[g1];rfl,λt1 y' u _ hy hu=>?_⟩;obtain⟨z,hz,_⟩:=rs _ _ _ _ _ hy hu;rw[hf.2]at hz;exact o'.top u (by rw[hz];rfl)
    .cases ht
 by_cases e:ZL B.grown=B.label
 .have ht:B.told=B.grown:=fZ e;have o1:BrOk H C.ts C.lives b B.grown:=⟨o.now,o.top,λq hq=>by obtain⟨a,ha⟩:=hg q hq;exact o.held (q.1,(q.2.1,a)) ha,o.ties,o.life⟩
  refine⟨H,(λ_ _ _ h=>h),?_,(λ_ _ _ h=>h),(λ_ _ _ h=>h),sf.lv,sf.rest,lets H (λ_ _ _ h=>h) (λ_ _ _ h=>h) (by rw[ht];exact o1) sf.rest⟩;unfold Br.ticked;rw[ht];exact⟨o1.now,o1.top,o1.held,o1.ties,o1.life⟩
 .have ht:B.told={B.grown with label:=ZL B.grown,version:=B.version+1}:=f8 e;have nw:Bb H b (B.life,B.version+1):=λt h=>by
   have:=o.top t h;unfold leP at this ⊢;dsimp only at this ⊢;exact⟨by lia,λz=>by rw[z]at this;dsimp only at this;lia⟩
  have hk:∀c t z,H c t=d9 z->XE H b (B.life,B.version+1) (ZL B.grown) c t=d9 z:=λc t z h=>Xs nw h;have o1:BrOk (XE H b (B.life,B.version+1)<|ZL B.grown) C.ts C.lives b {B.grown with label:=ZL B.grown,version:=B.version+1}:=⟨Og,λt h=>(XA h).elim (λz=>by rw[z.2];exact leP.refl _) λh=>(nw t h).1,λq hq=>by obtain⟨a,ha⟩:=hg q hq;exact(o.held (q.1,(q.2.1,a)) ha).add nw,o.ties,o.life⟩
  have rs:∀c s y p t,XE H b (B.life,B.version+1) (ZL B.grown) c s=d9 y->y.up=d9 (p,t)->∃z,XE H b (B.life,B.version+1) (ZL B.grown) (Yp C.ts p c) t=d9 z/\y.root=z.root/\y.cost=z.cost+cst C.ts p:=λc s y p t h hu=>by
   rcases Jf h with⟨rfl,rfl,rfl⟩|h
   .obtain⟨l,a,h1,h2,h3,h4⟩:=GX og hu;obtain⟨a',ha'⟩:=hg _ h1;dsimp only at h2 h4 ha';have lo:=o.held _ ha';obtain⟨x,g1,g2,g3,_⟩:=lo.lab;refine⟨x,hk _ _ _ (by rw[h2];exact g1),h3.trans g2,?_⟩;have hs:=ok.sub _ ha';have:=o.ties _<|Zf<|Ez hs;have e2:=congrArg cI this.2;dsimp only at e2;rw[h4,show B.grown.ties=B.ties from rfl,e2,g3]
   .obtain⟨z,hz,q⟩:=sf.rest c s y p t h hu;exact⟨z,hk _ _ _ hz,q⟩
  refine⟨XE H b (B.life,B.version+1)<|ZL B.grown,hk,?_,(λc A n h=>h.add nw n),(λc p l h=>h.add nw),(λk l s h1 h2=>(XA h2).elim (λz=>?_)<|sf.lv k l s h1),rs,lets _ hk (λc p l h=>h.add nw) (by rw[ht];exact o1) rs⟩
  .unfold Br.ticked;rw[ht];exact⟨o1.now,o1.top,o1.held,o1.ties,o1.life⟩
  .rw[z.1,o.life]at h1;cases h1;rw[z.2];exact Ν _
end
section
variable {H:Hst}{C D:Yc}{N:Nat}
def J0{p:Prop}[Decidable p]{a b:α}(h:(if p then d9 a else ee)=d9 b):p/\a=b:=by
 split at h
 .rename_i z;exact⟨z,í h⟩
 .cases h
def A9{k:Int}{v:α}(n:c≠k):(Zp kvs k v).lookup c=kvs.lookup c:=by
 have e1:(c==k)=ei:=by simpa using n
 unfold Zp;split
 .rename_i h;clear h;induction kvs with
  |nil=>rfl
  |cons p r ih =>
   rw[Ñ,î,î,ih];by_cases e:p.1=k
   .rw[fZ e,e,show(c==(k,v).1)=ei from e1]
   .rw[f8 e]
 .rw[dC,î,e1];exact Option.or_none
def AB{d:Dd}(gd:C.gd N)(sf:Safe H C)(st:step C d=d9 D):∃H',Safe H' D:=by
 have no:=gd.no;cases d with
 |tick b =>
  obtain⟨B,hB,rfl⟩:=È.mp st;have hm:=Zf hB;obtain⟨H',_,o1,o2,o3,o4,o5,o6⟩:=(sf.br _ hm).tick sf no (gd.ok _ hm).ok;refine⟨H',λq hq=>?_,o4,o5,λr hr=>?_⟩
  .obtain⟨e,he,rfl⟩:=Ð.mp hq;split
   .rename_i z;have:=Z6 gd.nd he;rw[z,hB]at this;cases this;dsimp only;rw[z];exact o1
   .rename_i z;exact o2 _ _ z<|sf.br e he
  .rcases Ü.mp hr with hr|hr
   .exact⟨(sf.road r hr).1,o3 _ _ _ (sf.road r hr).2⟩
   .obtain⟨p,hp,rfl⟩:=Ð.mp hr;obtain⟨q,hq,rfl⟩:=Ð.mp<|mem_sort.mp hp;rw[show B.told.ties=B.ties from (Z3 B.grown<|ZL B.grown).2.1]at hq;exact⟨rfl,o6 q hq⟩
 |come p =>
  replace st:(if p<0 then ee else(C.road[p.toNat]?).map λr=>({C with br:=upC r.2.1 (Z0 · r.2.2.1 r.2.2.2) C.br,road:=C.road.eraseIdx p.toNat}:Yc))=d9 D:=st
  split at st
  .cases st
  .obtain⟨r,hr,rfl⟩:=È.mp st;obtain⟨e,lo⟩:=sf.road r<|è hr;refine⟨H,OK (R:=BrOk H C.ts C.lives) (F:=(Z0 · r.2.2.1 r.2.2.2)) sf.br λA o=>?_,sf.lv,sf.rest,λq hq=>sf.road q<|bB hq⟩;unfold Z0;split
   .split
    .refine⟨o.now,o.top,λq hq=>?_,o.ties,o.life⟩;rcases XB hq with z|hq
     .rw[z];show LtOk H C.ts (Yp C.ts r.2.2.1 r.2.1) r.2.2.1 r.2.2.2;rw[e,(lo.inc.far no).2];exact lo
     .exact o.held q hq
    .exact o
   .exact o
 |lost p =>
  replace st:(if p<0 then ee else(C.road[p.toNat]?).map λr=>({C with road:=C.road.eraseIdx p.toNat}:Yc))=d9 D:=st
  split at st
  .cases st
  .obtain⟨r,hr,rfl⟩:=È.mp st;exact⟨H,sf.br,sf.lv,sf.rest,λq hq=>sf.road q<|bB hq⟩
 |fallB b =>obtain⟨_,rfl⟩:=J0 st;obtain⟨q1,q2,q3⟩:=M3 (H:=H) (C:={C with br:=Zs C.br b}) no (Mx (b:=b)) λq hq=>sf.br q<|ZT hq;obtain⟨e1,e2,e3⟩:=Xg (fS b 0 C.ts) {C with br:=Zs C.br b};exact⟨H,by rw[e2,q2];exact q1,by rw[q2];exact sf.lv,by rw[e2];exact sf.rest,by rw[e2,q3];exact sf.road⟩
 |fallT p =>obtain⟨hp,rfl⟩:=J0 st;exact⟨H,MO (C:={C with fallen:=Zp C.fallen p eh}) no hp.1.1 hp.1.2 sf.br,sf.lv,sf.rest,sf.road⟩
 |backB b =>
  replace st:(if(C.br.lookup b).isSome then ee else(C.lives.lookup b).map λl=>Yc.sets {C with lives:=Zp C.lives b<|l+1,br:=C.br++[(b,ZU b (l+1) C.most [])]}<|fS b 0 C.ts)=d9 D:=st
  split at st
  .cases st
  .rename_i hn;obtain⟨l,hl,rfl⟩:=È.mp st;have nw:Bb H b (l+1,0):=λt h=>by
    have:=sf.lv b l t hl h;unfold leP;dsimp only;exact⟨.inl (by lia),λz=>by rw[z]at this;dsimp only at this;lia⟩
   have lk:∀c,(Zp C.lives b<|l+1).lookup c=if c=b then d9 (l+1)else C.lives.lookup c:=λc=>by
    split
    .rename_i z;rw[z];exact KD
    .rename_i z;exact A9 z
   obtain⟨q1,q2,q3⟩:=M3 (H:=XE H b (l+1,0) ⟨b,0,ee⟩) (C:={C with lives:=Zp C.lives b<|l+1,br:=C.br++[(b,ZU b (l+1) C.most [])]}) no (Mx (b:=b)) λq hq=>by
    rcases Ü.mp hq with hq|hq
    .have ų:q.1≠b:=λz=>hn (by rw[keys_look,<-z];exact ó hq);have o:=(sf.br q hq).add (y:=⟨b,0,ee⟩) nw ų;exact⟨o.now,o.top,o.held,o.ties,by show(Zp C.lives b<|l+1).lookup q.1=_;rw[lk,f8 ų];exact o.life⟩
    .rw[Ó.mp hq];exact⟨Og,λt h=>(XA h).elim (λz=>by rw[z.2];exact leP.refl _) λh=>(nw t h).1,(λq hq=>gf hq Ù),(λq hq=>gf hq Ù),by show(Zp C.lives b<|l+1).lookup b=_;rw[lk,fZ rfl];rfl⟩
   obtain⟨e1,e2,e3⟩:=Xg (fS b 0 C.ts) {C with lives:=Zp C.lives b<|l+1,br:=C.br++[(b,ZU b (l+1) C.most [])]};refine⟨XE H b (l+1,0) ⟨b,0,ee⟩,by rw[e2,q2];exact q1,?_,?_,?_⟩
   .rw[q2];intro c k s hc hs
    replace hc:(Zp C.lives b<|l+1).lookup c=d9 k:=hc
    rw[lk]at hc;split at hc
    .rename_i z;cases hc;rcases XA hs with w|w
     .rw[w.2];exact Ν _
     .have:=sf.lv b l s hl (by rw[<-z];exact w);lia
    .rename_i z;rcases XA hs with w|w
     .exact gf w.1 z
     .exact sf.lv c k s hc w
   .rw[e2];intro c s y p t hy hu;rcases Jf hy with⟨_,_,z⟩|hy
    .rw[z]at hu;cases hu
    .obtain⟨z,hz,w⟩:=sf.rest c s y p t hy hu;exact⟨z,Xs nw hz,w⟩
   .rw[e2,q3];exact λr hr=>⟨(sf.road r hr).1,(sf.road r hr).2.add nw⟩
 |backT p =>obtain⟨hp,rfl⟩:=J0 st;obtain⟨v,hv⟩:=é.mp hp;have:=gd.fr _<|Zf hv;exact⟨H,MO (C:={C with fallen:=Zs C.fallen p}) no this.1 this.2 sf.br,sf.lv,sf.rest,sf.road⟩
end
def Ar{b:Int}:∀{l:List Tie}{k:Nat}{r:Tie},r∈fS b k l->∃j t,l[j]?=d9 t/\r=(((k+j:Nat):Int),far t b,t.2.2)/\(b=t.1\/b=t.2.1)
 |[],_,_,h=>by cases h
 |t::l,k,r,h=>by
  have go:r∈fS b (k+1) l->∃j u,(t::l)[j]?=d9 u/\r=(((k+j:Nat):Int),far u b,u.2.2)/\(b=u.1\/b=u.2.1):=λh=>by obtain⟨j,u,h1,h2,h3⟩:=Ar h;exact⟨j+1,u,h1,by rw[h2];congr 1;lia,h3⟩
  unfold fS at h;split at h
  .rename_i hb;rcases Ç.mp h with rfl|h
   .exact⟨0,t,rfl,rfl,hb⟩
   .exact go h
  .exact go h
def BF{bs:List Int}(no:eZ bs ts):∃H,Safe H (Bq bs ts most):=by
 refine⟨λb s=>if b∈bs/\s=(0,0)then d9 ⟨b,0,ee⟩else ee,λq hq=>?_,λb l s hl hs=>?_,λb s y p t hy hu=>?_,(λr hr=>gf hr Ù)⟩
 .obtain⟨b,hb,rfl⟩:=Ð.mp hq;refine⟨fZ ⟨hb,rfl⟩,λs hs=>?_,(λq hq=>gf hq Ù),λq hq=>?_,?_⟩
  .split at hs
   .rename_i z;rw[z.2];exact leP.refl _
   .cases hs
  .obtain⟨r,hr,rfl⟩:=Ð.mp hq;obtain⟨j,t,h1,rfl,h3⟩:=Ar hr;have hj:=(Î.mp h1).1;have e:ts[((0+j:Nat):Int).toNat]?.getD (0,0,0)=t:=by rw[ξ,ç,h1];rfl
   refine⟨⟨by lia,by show((0+j:Nat):Int)<(ts.length:Nat);lia,?_⟩,?_⟩
   .show(ts[((0+j:Nat):Int).toNat]?.getD (0,0,0)).1=b\/(ts[((0+j:Nat):Int).toNat]?.getD (0,0,0)).2.1=b;rw[e];exact h3.imp Eq.symm Eq.symm
   .show(far t b,t.2.2)=(far (ts[((0+j:Nat):Int).toNat]?.getD (0,0,0)) b,(ts[((0+j:Nat):Int).toNat]?.getD (0,0,0)).2.2)
    rw[e]
  .exact Z6 (by rw[show((Bq bs ts most).lives.map (·.1))=bs by show(bs.map λb=>(b,(0:Int))).map (·.1)=bs;rw[ê];exact Ū _];exact no.up.imp λh=>by lia)<|Ð.mpr ⟨b,hb,rfl⟩
 .split at hs
  .rename_i z;rw[z.2];obtain⟨c,_,e⟩:=Ð.mp<|Zf hl;rw[<-(Prod.mk.inj e).2];exact Ν _
  .cases hs
 .split at hy
  .cases hy;cases hu
  .cases hy
variable {H:Hst}
def Safe.way{bs:List Int}(sf:Safe H C)(no:eZ bs C.ts){p q:Int}(hi:Inc C.ts p c)(hq:q=Yp C.ts p c)(hc:Oz C c p = "child")(hp:Oz C q p = "parent"):(C.br.lookup c).isSome=eh/\(C.br.lookup q).isSome=eh/\(C.at_ c).label.root=(C.at_ q).label.root/\(C.at_ c).label.cost=(C.at_ q).label.cost+cst C.ts p/\(C.at_ c).label.up.map (·.1)=d9 p:=by
 obtain⟨cO,hg⟩:=hi.far no;rw[<-hq]at cO hg;unfold Oz at hc hp;split at hc
 .split at hp
  .rename_i s1 s2;obtain⟨A,hA⟩:=é.mp s1;obtain⟨B,hB⟩:=é.mp s2;have oA:=sf.br _<|Zf hA;have oB:=sf.br _<|Zf hB;have eA:C.at_ c=A:=by unfold Yc.at_;rw[hA];rfl
   have eB:C.at_ q=B:=by unfold Yc.at_;rw[hB];rfl
   rw[eA]at hc ⊢;rw[eB]at hp ⊢;unfold Uv at hc hp;split at hc
   .split at hc
    .split at hc
     .rename_i hu ha;split at hp
      .split at hp
       .split at hp<;>exact gf hp (by decide)
       .split at hp
        .rename_i hr;unfold Mj at ha;unfold Xl at hr;cases z1:A.held.lookup p with
         |none=>rw[z1]at ha;cases ha
         |some l =>
          rw[z1]at ha;cases z2:B.held.lookup p with
          |none=>rw[z2]at hr;cases hr
          |some m =>
           rw[z2]at hr
           replace hr:m.1.rests=d9 (B.life,B.version):=of_decide_eq_true hr
           replace ha:(if l.1.agrees=d9 (A.life,A.version)then gg (A.label.up.map (·.2)=d9 l.1.st)else ei)=eh:=ha
           split at ha
           .rename_i hag;have ŷ:=of_decide_eq_true ha;have lA:=oA.held _<|Zf z1;have lB:=oB.held _<|Zf z2;dsimp only at lA lB;rw[<-hq]at lA;rw[hg]at lB;obtain⟨x,x1,_,_,x4⟩:=lB.lab;have ag:=(lA.agr _ hag).2;rw[hg]at ag;obtain⟨y,y1,_⟩:=lA.lab;have e:(B.life,B.version)=l.1.st:=leP.anti (ag _ x _ (oA.top _<|by rw[x1];rfl) x1<|x4 _ hr) (oB.top _<|by rw[y1];rfl);cases hup:A.label.up with
            |none=>rw[hup]at hu;cases hu
            |some u =>
             rw[hup]at hu ŷ;have hpu:p=u.1:=of_decide_eq_true hu;have hsu:u.2=l.1.st:=by simpa using ŷ
             obtain⟨z,hz,r1,r2⟩:=sf.rest _ _ _ p u.2 oA.now (by rw[hup,hpu]);dsimp only at hz r1 r2;rw[<-hq,hsu,<-e,oB.now]at hz;cases hz;exact⟨s1,s2,r1,r2,by rw[hpu];rfl⟩
           .cases ha
        .exact gf hp (by decide)
      .exact gf hp (by decide)
     .exact gf hc (by decide)
    .split at hc<;>exact gf hc (by decide)
   .exact gf hc (by decide)
  .exact gf hp (by decide)
 .exact gf hc (by decide)
abbrev opn(C:Yc)(p:Nat):List Tie:=if C.ends p=("child","parent")then [((p:Int),(C.tie p).1,(C.tie p).2.1)]else if C.ends p=("parent","child")then [((p:Int),(C.tie p).2.1,(C.tie p).1)]else []
abbrev Yb(C:Yc)(m:Nat):List Tie:=(List.range m).flatMap<|opn C
def Wh{m:Nat}:Yb C (m+1)=Yb C m++opn C m:=by unfold Yb;rw[List.range_succ,ϡ];simp
def Xx{C:Yc}:∀m:Nat,(Yb C m).length<=m
 |0=>Ì _
 |m+1=>by
  have:=Xx (C:=C) m;have:(opn C m).length<=1:=by
   unfold opn;split
   .exact Ì _
   .split
    .exact Ì _
    .exact ĕ _
  rw[Wh,ä];lia
abbrev Ye(C:Yc):List Tie:=C.keys.map λb=>(b,(C.at_ b).label.root,(C.at_ b).label.cost)
def Hx{a b c d:String}:eqV h (.tup [.str a,.str b]) (.tup [.str c,.str d])=d9 (gg ((a,b)=(c,d))):=by
 show d9 (D.eqv (.tup [.str a,.str b])<|.tup [.str c,.str d])=_;congr 1;simp only[D.eqv,D.eqvs,Μ];by_cases h1:a=c
 .by_cases h2:b=d
  .subst h1;subst h2;simp
  .simp[h2]
 .simp[h1]
section
variable {Y:Yd}{N:Nat}{C:Yc}
def DU{t:Tie}(h:C.ts[i]?=d9 t):C.tie i=t:=by show C.ts[(i:Int).toNat]?.getD _=_;rw[ç,h];rfl
def G9(x:eR h Y)(gd:Y.cc.gd N)(k:∀p g,h p=ee->Ext h g->g p=d9 (.lst<|(Yb Y.cc Y.ts.length).map trV)->Q (.ref p) g):wF P (n+6) "open_ways" [.ref Y.y] h Q X:=by
 have t16:Y.ts.length<=16:=gd.no.sixteen;refine Nl ?_;refine' Zg λp g1 hp x1 e1=>?_;have y1:=x.ext x1;have yi:=y1.ins
 exists F9 y1
 exists eL (xs:=[.tup<|Y.bs.map .int,.tup<|Y.ts.map trV]) (v:=.tup<|Y.ts.map trV) rfl
 exists eK rfl
 refine Zk (λi en g=>Sm3 λv2 v3 v4=>Cj3 (en=[d9<|.ref Y.y,d9<|.ref p,v2,v3,v4]) (Ext h g)<|g p=d9 (.lst<|(Yb Y.cc i).map trV)) ⟨_,_,_,rfl,x1,e1⟩ (λ_ _ _ _ _=>trivial) ?_ ?_
 .rintro i v en g hv ⟨v2,v3,v4,rfl,xg,ep⟩ K hK;obtain⟨z,hz,rfl⟩:=W2 hv;rw[Ö]at hz;obtain⟨t,ht,rfl⟩:=È.mp hz;have hi:i<Y.ts.length:=(Î.mp ht).1;rw[ξ];have yg:=x.ext xg;have yi:=yg.ins;have ol:=Xx (C:=Y.cc) i;have et:Y.cc.tie i=t:=DU (C:=Y.cc) ht;rw[Wh]at hK;unfold opn at hK;rw[et]at hK
  exists Us yg hi
  exists JB Hx
  fail;unfold trV;refine fJ (λc1=>?_) λc1=>?_
  .rw[fZ c1]at hK;refine' ZC ep (by rw[Á,lim];lia) ?_;refine' hK _ _ ⟨_,_,_,rfl,Yg xg hp,by rw[Ø];exact ez⟩
  rw[f8 c1]at hK
  exists JB Hx
  refine' fJ (λc2=>?_) (λc2=>?_)
  .rw[fZ c2]at hK;refine' ZC ep (by rw[Á,lim];lia) ?_;refine' hK _ _ ⟨_,_,_,rfl,Yg xg hp,by rw[Ø];exact ez⟩
  .rw[f8 c2,þ]at hK;refine' hK _ _ ⟨_,_,_,rfl,xg,ep⟩
 .rintro en g ⟨v2,v3,v4,rfl,xg,ep⟩;rw[Wn,Á]at ep;refine' k p g hp xg ep
def EJ(x:eR h Y)(gd:Y.cc.gd N)(k:∀p g,h p=ee->Ext h g->g p=d9 (.lst<|(Yb Y.cc Y.ts.length).map trV)->Q (.ref p) g):wF P (n+6) "_law_ways" [.ref Y.y,ZD Y.bs Y.ts] h Q X:=by
 have t16:Y.ts.length<=16:=gd.no.sixteen;refine OJ ?_;refine' Zg λp g1 hp x1 e1=>?_
 exists eL (xs:=[.tup<|Y.bs.map .int,.tup<|Y.ts.map trV]) (v:=.tup<|Y.ts.map trV) rfl
 exists eK rfl
 refine Zk (λi en g=>Sm3 λv2 v3 v4=>Cj3 (en=[d9<|.ref Y.y,d9<|ZD Y.bs Y.ts,d9<|.ref p,v2,v3,v4]) (Ext h g)<|g p=d9 (.lst<|(Yb Y.cc i).map trV)) ⟨_,_,_,rfl,x1,e1⟩ (λ_ _ _ _ _=>trivial) ?_ ?_
 .rintro i v en g hv ⟨v2,v3,v4,rfl,xg,ep⟩ K hK;obtain⟨z,hz,rfl⟩:=W2 hv;rw[Ö]at hz;obtain⟨t,ht,rfl⟩:=È.mp hz;have hi:i<Y.ts.length:=(Î.mp ht).1;rw[ξ];have yg:=x.ext xg;have yi:=yg.ins;have ol:=Xx (C:=Y.cc) i;have et:Y.cc.tie i=t:=DU (C:=Y.cc) ht;rw[Wh]at hK;unfold opn at hK;rw[et]at hK
  exists Us yg hi
  generalize Y.cc.ends i=es at hK ⊢;obtain⟨a,b⟩:=es;unfold trV;have no:∀{A B:String},¬ (a=A/\b=B)->¬ (a,b)=(A,B):=λz y=>z ⟨congrArg Prod.fst y,congrArg cI y⟩;have lastp:¬ (a,b)=("child","parent")->¬ (a,b)=("parent","child")->K [d9<|.ref Y.y,d9<|ZD Y.bs Y.ts,d9<|.ref p,d9<|.int i,d9<|.tup [.int t.1,.int t.2.1,.int t.2.2],d9<|.tup [.str a,.str b]] g:=λc1 c2=>by rw[f8 c1,f8 c2,þ]at hK;exact hK _ _ ⟨_,_,_,rfl,xg,ep⟩
  refine' fJ (λc1=>?_) (λc1=>?_)
  .have nc:a≠"parent":=λz=>by rw[c1]at z;exact gf z (by decide)
   refine' fJ (λc2=>?_) (λc2=>?_)
   .rw[fZ<|by rw[c1,c2]]at hK;refine' ZC ep (by rw[Á,lim];lia) ?_;refine' fJ (λc3=>gf c3 nc) (λc3=>?_);walk_at "p";exact hK _ _ ⟨_,_,_,rfl,Yg xg hp,by rw[Ø];exact ez⟩
   .refine' fJ (λc3=>gf c3 nc) (λc3=>?_);walk_at "p";exact lastp (no λz=>c2 z.2)<|no λz=>c3 z.1
  walk_at "p";refine fJ (λc2=>?_) λc2=>?_
  .refine' fJ (λc3=>?_) (λc3=>?_)
   .rw[f8<|no λz=>c1 z.1,fZ<|by rw[c2,c3]]at hK;refine' ZC ep (by rw[Á,lim];lia) ?_;refine' hK _ _ ⟨_,_,_,rfl,Yg xg hp,by rw[Ø];exact ez⟩
   .refine' lastp (no λz=>c1 z.1) (no λz=>c3 z.2)
  .walk_at "p";exact lastp (no λz=>c1 z.1)<|no λz=>c2 z.1
 .rintro en g ⟨v2,v3,v4,rfl,xg,ep⟩;rw[Wn,Á]at ep;refine' k p g hp xg ep
def DF(x:eR h Y)(gd:Y.cc.gd N)(k:∀p g,h p=ee->Ext h g->g p=d9 (.lst<|(Ye Y.cc).map trV)->Q (.ref p) g):wF P (n+3) "rank_paper" [.ref Y.y] h Q X:=by
 have xi:=x.ins;have h10:=gd.ten;have kl:=Wk (C:=Y.cc);refine MC ?_;refine' Wy x gd λp1 g1 bN x1 e1=>?_;refine' ⟨Ò (by show(MZ Y.cc).length<=10;unfold MZ;rw[Á];lia) (by decide),?_⟩;refine Ys (λi ys g=>g=g1/\ys=((Ye Y.cc).take i).map trV) ⟨rfl,rfl⟩ (λi ys g _ ⟨z,_⟩=>by rw[z];exact lsE e1) ?_ ?_
 .rintro i v ys g hv ⟨rfl,rfl⟩ K hK;obtain⟨b,hb,rfl⟩:=ZF hv;walk_at "p";refine hK _ _ ⟨rfl,?_⟩;rw[Zj (xs:=Ye Y.cc) (x:=(b,(Y.cc.at_ b).label.root,(Y.cc.at_ b).label.cost)) (by unfold Ye;rw[Ö,hb];rfl),Ø];rfl
 rintro ys g ⟨rfl,rfl⟩;rw[show(MZ Y.cc).length=(Ye Y.cc).length by unfold MZ Ye;rw[Á,Á],ý];exact Zg λp g2 hp x2 e2=>k p g2 (YD x1 hp) (x1.trans x2) e2
end
abbrev grp(ws:List Tie):Int->Int:=ws.foldl (λR w x=>if R x=R w.2.1 then R w.2.2 else R x) id
def UI{ws:List Tie}{w:Tie}:grp (ws++[w])=λx=>if grp ws x=grp ws w.2.1 then grp ws w.2.2 else grp ws x:=by unfold grp;rw[d8];rfl
structure Frst(κ:Int->Int)(ws:List Tie):Prop where
 nd:(ws.map λw=>w.2.1).Nodup
 le:∀w∈ws,κ w.2.2<κ w.2.1
structure GrpOk(κ:Int->Int)(ws:List Tie):Prop where
 le:∀x,κ (grp ws x)<=κ x
 own:∀x,x∉ws.map (λw=>w.2.1)->grp ws x=x
 eq:∀w∈ws,grp ws w.2.1=grp ws w.2.2
variable {κ:Int->Int}
def Frst.step{ws:List Tie}{w:Tie}(f:Frst κ ws)(h:ws[i]?=d9 w)(g:GrpOk κ<|ws.take i):grp (ws.take i) w.2.1=w.2.1/\grp (ws.take i) w.2.2≠w.2.1/\κ w.2.2<κ w.2.1:=by have n:w.2.1∉(ws.take i).map λw=>w.2.1:=ZO f.nd h;have l:=f.le w<|è h;refine⟨g.own _ n,λe=>?_,l⟩;have:=g.le w.2.2;rw[e]at this;lia
def Frst.ok{ws:List Tie}(f:Frst κ ws):∀i,i<=ws.length->GrpOk κ (ws.take i)
 |0,_=>⟨λx=>Ν _,λx _=>rfl,(λw hw=>gf hw Ù)⟩
 |i+1,hi=>by
  have g:=f.ok i (by lia);have h:=Ê (l:=ws) (i:=i) (by lia);generalize ws[i]'(by lia)=w at h;obtain⟨e1,e2,e3⟩:=f.step h g;rw[Zj h];refine⟨λx=>?_,λx hx=>?_,λv hv=>?_⟩
  .rw[UI,e1];dsimp only;split
   .rename_i z;have h1:=g.le w.2.2;have h2:=g.le x;rw[z]at h2;lia
   .exact g.le x
  .rw[Ø,Ü,not_or]at hx;rw[UI,e1];dsimp only;rw[g.own x hx.1,f8<|by simpa using hx.2]
  .rw[UI,e1];dsimp only;rcases Ü.mp hv with hv|hv
   .rw[g.eq v hv]
   .rw[Ó.mp hv,e1,fZ rfl,f8 e2]
def Nz{C:Yc}:∀(m:Nat),(∀w∈Yb C m,0<=w.1/\w.1<m)/\(Yb C m).Pairwise λa b=>a.1<b.1
 |0=>⟨(λw hw=>gf hw Ù),List.Pairwise.nil⟩
 |m+1=>by
  obtain⟨h1,h2⟩:=Nz (C:=C) m;have h3:∀w∈opn C m,w.1=m:=λw hw=>by
   unfold opn at hw;split at hw
   .rw[Ó.mp hw]
   .split at hw
    .rw[Ó.mp hw]
    .cases hw
  have h4:(opn C m).Pairwise λa b=>a.1<b.1:=by
   unfold opn;split
   .exact bL _ _
   .split
    .exact bL _ _
    .exact List.Pairwise.nil
  rw[Wh];refine⟨λw hw=>?_,Ϙ.mpr ⟨h2,h4,λa ha b hb=>by have:=h1 a ha;have:=h3 b hb;lia⟩⟩;rcases Ü.mp hw with hw|hw
  .have:=h1 w hw;lia
  .have:=h3 w hw;lia
def KA{C:Yc}{w:Tie}:∀{m:Nat},w∈Yb C m->∃p:Nat,p<m/\((w=((p:Int),(C.tie p).1,(C.tie p).2.1)/\C.ends p=("child","parent"))\/(w=((p:Int),(C.tie p).2.1,(C.tie p).1)/\C.ends p=("parent","child")))
 |0,h=>by cases h
 |m+1,h=>by
  rw[Wh]at h;rcases Ü.mp h with h|h
  .obtain⟨p,h1,h2⟩:=KA h;exact⟨p,by lia,h2⟩
  .refine⟨m,by lia,?_⟩;unfold opn at h;split at h
   .rename_i e;exact .inl ⟨Ó.mp h,e⟩
   .split at h
    .rename_i e;exact .inr ⟨Ó.mp h,e⟩
    .cases h
structure WayOk(C:Yc)(w:Tie):Prop where
 r0:0<=w.1
 r1:w.1<C.ts.length
 ends:(w.2.1=(C.tie w.1).1/\w.2.2=(C.tie w.1).2.1)\/(w.2.1=(C.tie w.1).2.1/\w.2.2=(C.tie w.1).1)
 sc:(C.br.lookup w.2.1).isSome=eh
 sp:(C.br.lookup w.2.2).isSome=eh
 root:(C.at_ w.2.1).label.root=(C.at_ w.2.2).label.root
 cost:(C.at_ w.2.1).label.cost=(C.at_ w.2.2).label.cost+(C.tie w.1).2.2
 up:(C.at_ w.2.1).label.up.map (·.1)=d9 w.1
def Safe.ways(sf:Safe H C)(gd:C.gd N){w:Tie}(h:w∈Yb C C.ts.length):WayOk C w:=by
 obtain⟨p,hp,h⟩:=KA h;have lt:=(gd.no.tie _<|WC (ts:=C.ts) (p:=p) (by lia)<|by lia).2.2.1
 replace lt:(C.tie p).1<(C.tie p).2.1:=lt
 rcases h with⟨rfl,e⟩|⟨rfl,e⟩
 .obtain⟨q1,q2,q3,q4,q5⟩:=sf.way gd.no (p:=p) (c:=(C.tie p).1) (q:=(C.tie p).2.1) ⟨by lia,by lia,.inl rfl⟩ (fZ rfl).symm (congrArg Prod.fst e)<|congrArg cI e;exact⟨by dsimp only;lia,by dsimp only;lia,.inl ⟨rfl,rfl⟩,q1,q2,q3,q4,q5⟩
 .obtain⟨q1,q2,q3,q4,q5⟩:=sf.way gd.no (p:=p) (c:=(C.tie p).2.1) (q:=(C.tie p).1) ⟨by lia,by lia,.inr rfl⟩ (f8<|by show ¬ (C.tie p).1=(C.tie p).2.1;lia).symm (congrArg cI e)<|congrArg Prod.fst e;exact⟨by dsimp only;lia,by dsimp only;lia,.inr ⟨rfl,rfl⟩,q1,q2,q3,q4,q5⟩
def Safe.frst(sf:Safe H C)(gd:C.gd N):Frst (λb=>(C.at_ b).label.cost)<|Yb C C.ts.length:=by
 refine⟨?_,λw hw=>?_⟩
 .refine dY.mpr ?_;refine(Nz C.ts.length).2.imp_of_mem λ{a b} ha hb lt e=>?_;have h1:=(sf.ways gd ha).up;have h2:=(sf.ways gd hb).up;rw[e,h2]at h1;have:=í h1;lia
 .have o:=sf.ways gd hw;have:=(gd.no.tie _<|WC o.r0 o.r1).2.2.2.1
  replace this:1<=(C.tie w.1).2.2:=this
  have:=o.cost;lia
abbrev gm(ks:List Int)(f:Int->Int):List<|Int×Int:=ks.map λk=>(k,f k)
def Ms(ks:List Int)(f:Int->Int):(gm ks f).map (·.1)=ks:=by unfold gm;rw[ê];exact bW ks
def Wq{ks:List Int}{f g:Int->Int}(h:∀k∈ks,f k=g k):d9 (Ob.dct<|Ze Val.int<|gm ks f)=d9 (Ob.dct<|Ze Val.int<|gm ks g):=congrArg (λm=>d9<|Ob.dct<|Ze Val.int m) (ċ λk hk=>by rw[h k hk])
def MW{ks:List Int}{f:Int->Int}{b:Int}(nd:ks.Nodup)(h:b∈ks):(gm ks f).lookup b=d9 (f b):=Z6 (by rw[Ms];exact nd) (Ð.mpr ⟨b,h,rfl⟩)
def P3{ks:List Int}{f:Int->Int}{b:Int}(h:b∉ks):(gm ks f).lookup b=ee:=by
 cases z:(gm ks f).lookup b with
 |none=>rfl
 |some v=>exact gf (by rw[<-Ms ks f];exact ó (f:=(·.1))<|Zf z) h
def IK{ks:List Int}{f:Int->Int}{b v:Int}(nd:ks.Nodup)(h:b∈ks):Zp (gm ks f) b v=gm ks λx=>if x=b then v else f x:=by
 unfold Zp;rw[MW nd h];show(gm ks f).map _=_;unfold gm;rw[ê];refine ċ λx _=>?_;show(if x=b then(b,v)else(x,f x))=(x,if x=b then v else f x)
 split
 .rename_i e;rw[e]
 .rfl
abbrev Xo(ks:List Int)(b:Int):List Int:=if b∈ks then ks else ks++[b]
def Nb{ks:List Int}{b:Int}(nd:ks.Nodup):(Xo ks b).Nodup:=by
 unfold Xo;split
 .exact nd
 .rename_i h;rw[æ];exact⟨nd,by simp,λx hx y hy=>by rw[Ó.mp hy];exact λe=>h<|e▸hx⟩
def addK_mem{ks:List Int}{b x:Int}:x∈Xo ks b↔x∈ks\/x=b:=by
 unfold Xo;split
 .rename_i h;exact⟨.inl,λz=>z.elim id λe=>e▸h⟩
 .simp
def N7{ks:List Int}{b:Int}:(Xo ks b).length<=ks.length+1:=by
 unfold Xo;split
 .lia
 .simp
section
variable {Y:Yd}{N:Nat}{C:Yc}
def RT{ks:List Int}{f:Int->Int}{b:Int}{K:Val×Hs->Prop}(e:h a=d9 (.dct<|Ze Val.int<|gm ks f))(nd:ks.Nodup)(hl:ks.length<1000)(hf:b∉ks->f b=b)(q:∀g,g a=d9 (.dct<|Ze Val.int<|gm (Xo ks b) f)->(∀c o,c≠a->h c=d9 o->g c=d9 o)->K (.int<|f b,g)):go (bmV h .setdefault (.ref a) [.int b,.int b]) K:=by
 have hk:eY (.int b)=eh/\(Ze Val.int<|gm ks f).length<lim:=⟨rfl,by rw[X9];unfold gm;rw[Á];exact ã hl<|by decide⟩
 by_cases hb:b∈ks
 .refine Pb e hk (by rw[ZA,MW nd hb];rfl)<|q h ?_ λ_ _ _ z=>z;rw[e];unfold Xo;rw[fZ hb]
 .refine Pf e hk (by rw[ZA,P3 hb];rfl) ?_;rw[ZG,Yj _<|by rw[Ms];exact hb];have:=q (upd h a<|.dct<|Ze Val.int<|gm ks f++[(b,b)]) (by
    rw[ez]
    unfold Xo gm
    rw[f8 hb,Ø,Ñ,μ,hf hb]) λc o nc z=>(ej nc).trans z
  rw[hf hb]at this;exact this
def E6{pw:Ad}{ws:List Tie}(f:Frst κ ws)(hl:ws.length<=16)(ew:h pw=d9 (.lst<|ws.map trV))(k:∀g,Ext h g->Q (.bl eh) g):wF P (n+1) "_law_ring_free" [.ref pw] h Q X:=by
 refine WV ?_;fail;intro d hd;have npd:=Za ew hd;refine' Zk (λi en g=>∃v2 v3 v4 v5 v6 v7 ks,en=[d9<|.ref pw,d9<|.ref d,v2,v3,v4,v5,v6,v7]/\g d=d9 (.dct<|Ze Val.int<|gm ks<|grp<|ws.take i)/\ks.Nodup/\ks.length<=2*i/\(∀w∈ws.take i,w.2.1∈ks)/\Ext h g) ⟨_,_,_,_,_,_,[],rfl,ez,Ģ,Ì _,(λw hw=>gf hw Ù),Ext.new hd⟩ (λ_ _ _ _ ⟨_,_,_,_,_,_,_,_,_,_,_,_,x⟩=>lsE<|x.get ew) ?_ ?_
 .rintro i v en g hv ⟨v2,v3,v4,v5,v6,v7,ks,rfl,ed,nd,kl,hc,x⟩ K hK;obtain⟨t,ht,rfl⟩:=ZF hv;have hi:i<ws.length:=(Î.mp ht).1;have g0:=f.ok i (by lia);obtain⟨e1,e2,e3⟩:=f.step ht g0;obtain⟨p,c,q⟩:=t;dsimp only at e1 e2 e3;unfold trV;refine' RT ed nd (by lia) (λ_=>e1) λg1 ed1 k1=>?_;fail;have own:q∉Xo ks c->grp (ws.take i) q=q:=λhn=>g0.own q λhm=>by
   obtain⟨w,hw,e⟩:=Ð.mp hm;exact hn<|addK_mem.mpr<|.inl<|e▸hc w hw
  have l1:=N7 (ks:=ks) (b:=c);refine RT ed1 (Nb nd) (by lia) own λg2 ed2 k2=>?_;have nd2:=Nb (b:=q)<|Nb (b:=c) nd;have l2:=N7 (ks:=Xo ks c) (b:=q);have mc:c∈Xo (Xo ks c) q:=addK_mem.mpr<|.inl<|addK_mem.mpr<|.inr rfl;have sub:∀w∈ws.take i,w.2.1∈Xo (Xo ks c) q:=λw hw=>addK_mem.mpr<|.inl<|addK_mem.mpr<|.inl<|hc w hw;generalize Xo (Xo ks c) q=ks2 at ed2 nd2 l2 mc sub;have x2:Ext h g2:=⟨λ{a o} e=>by
    have na:=Za e hd
    exact k2 a o na<|k1 a o na<|x.get e⟩
  rw[e1];refine' fJ (λz=>gf z.symm e2) (λ_=>?_)
  exists LK ed2
  rw[show(Ze Val.int<|gm ks2<|grp<|ws.take i).map (·.1)=ks2.map Val.int by unfold Ze gm;rw[ê,ê];rfl];refine Zg λpl g3 hpl x3 el=>?_;have npl:d≠pl:=Za ed2 hpl;have hpl0:h pl=ee:=YD x2 hpl;refine' Zk (λj en g=>Sm1 λv7=>Cj4 (en=[d9<|.ref pw,d9<|.ref d,d9<|.int p,d9<|.int c,d9<|.int q,d9<|.int c,d9<|.int<|grp (ws.take i) q,v7]) (g d=d9 (.dct<|Ze Val.int<|gm ks2 λy=>if y∈ks2.take j/\grp (ws.take i) y=c then grp (ws.take i) q else grp (ws.take i) y)) (g pl=d9 (.lst<|ks2.map .int))<|Ext h g) ⟨_,rfl,(x3.get ed2).trans (Wq λy _=>by simp),el,x2.trans x3⟩ (λ_ _ _ _ ⟨_,_,_,e,_⟩=>lsE e) ?_ ?_
  .rintro j v en g hv ⟨v7,rfl,ed,el,x⟩ K hK;obtain⟨y,hy,rfl⟩:=ZF hv;have hym:=è hy;have hyn:y∉ks2.take j:=by
    have:=ZO (f:=id) (xs:=ks2) (i:=j) (q:=y) (by rw[Ū];exact nd2) hy
    rwa [Ū]at this
   have et:∀z,(z∈ks2.take (j+1))↔(z∈ks2.take j\/z=y):=λz=>by rw[Zj hy,Ü,Ó]
   refine' Zy ed rfl (by rw[ZA,MW nd2 hym];rfl) ?_;rw[f8 λz=>hyn z.1];refine' fJ (λz=>?_) (λz=>?_)
   .refine' Z9 ed ⟨rfl,by rw[X9];unfold gm;rw[Á];exact Ò (by lia:_<=100)<|by decide⟩ ?_;rw[ZG,IK nd2 hym];refine' hK _ _ ⟨_,rfl,?_,(ej npl.symm).trans el,Yg x hd⟩;refine ez.trans<|Wq λy' _=>?_;by_cases h1:y'=y
    .subst h1;rw[fZ rfl,fZ ⟨(et _).mpr<|.inr rfl,z⟩]
    .rw[f8 h1];simp only[et,h1,or_false]
   .refine' hK _ _ ⟨_,rfl,?_,el,x⟩;refine ed.trans<|Wq λy' _=>?_;by_cases h1:y'=y
    .subst h1;rw[f8 λh=>hyn h.1,f8 λh=>z h.2]
    .simp only[et,h1,or_false]
  .rintro en g ⟨v7,rfl,ed,el,x⟩;rw[Á,ý]at ed;refine' hK _ _ ⟨_,_,_,_,_,_,ks2,rfl,?_,nd2,by lia,λw hw=>?_,x⟩
   .rw[Zj ht,UI];refine ed.trans<|Wq λy hy=>?_;dsimp only;rw[e1];simp only[hy,true_and]
   .rw[Zj ht]at hw;rcases Ü.mp hw with hw|hw
    .exact sub w hw
    .rw[Ó.mp hw];exact mc
 .rintro en g ⟨v2,v3,v4,v5,v6,v7,ks,rfl,ed,nd,kl,hc,x⟩;refine' k g x
end
abbrev Lw:Val->Option Val
 |.tup (a::_)=>d9 a
 |_=>ee
abbrev LS:Val->Option Val
 |.tup [_,a,_]=>d9 a
 |_=>ee
def B4(rs:List Tie):(rs.map trV).filterMap Lw=(rs.map (·.1)).map Val.int:=by rw[Ũ,ê];exact congrFun (Ų (f:=λr:Tie=>Val.int r.1)) rs
def DP(rs:List Tie):(rs.map trV).filterMap LS=(rs.map λr=>r.2.1).map Val.int:=by rw[Ũ,ê];exact congrFun (Ų (f:=λr:Tie=>Val.int r.2.1)) rs
def Ji:∀{l:List Int},l.Nodup->dedup l=l
 |[],_=>rfl
 |x::l,h=>by obtain⟨h1,h2⟩:=Ā.mp h;rw[dedup,Ji h2,cV.mpr];intro y hy;simp only[bne_iff_ne,ne_eq];rintro rfl;exact h1 hy
abbrev rk(rs:List Tie):List<|Int×(Int×Int):=rs.map λr=>(r.1,r.2)
def UB(rs:List Tie):(rk rs).map (·.1)=rs.map (·.1):=by unfold rk;rw[ê];rfl
variable {s:Int}
def Qb{p q:Int}(h1:p=r)(h2:q=s):eqV h (.tup [.int p,.int q]) (.tup [.int r,.int s])=d9 eh:=by subst h1 h2;exact Fx rfl
section
variable {Y:Yd}{N:Nat}{C:Yc}
def Db{bs:List Int}{t:Tie}(ht:t.1∈bs)(k:∀g,Ext h g->Q (.bl eh) g):wF P (n+2) "is_rank" [ZD bs ts,trV t] h Q X:=by
 unfold trV;refine Az ?_;walk_at "p";refine⟨show(3:Nat)<lim by decide,Zz (λ_=>d9<|.bl eh) trivial (λv hv K hK=>?_) ?_⟩
 .have:∃i:Int,v=.int i:=by
   simp only[Ç,Ù,or_false]at hv;rcases hv with rfl|rfl|rfl<;>exact⟨_,rfl⟩
  obtain⟨i,rfl⟩:=this;walk_at "p";exact Jo hK
 refine Zg λp g hp x ep=>?_
 exists WD (bs:=[eh,eh,eh]) ep rfl
 walk_at "p";refine eL (xs:=[.tup<|bs.map .int,.tup<|ts.map trV]) (v:=.tup<|bs.map .int) rfl ?_;refine JJ ?_;rw[gb ht];refine' k g x
def E7{y:Tie}{a b:Int×Int}(r0:0<=y.1)(r1:y.1<C.ts.length)(ed:h d=d9 (.dct<|Ze M6<|rk rs))(ea:(rk rs).lookup y.2.1=d9 a)(eb:(rk rs).lookup y.2.2=d9 b)(e1:a.1=b.1)(e2:a.2=b.2+(C.tie y.1).2.2)(k:Q (.bl eh) h):wF P (n+1) "is_way_ranked" [ZD C.bs C.ts,trV y,.ref d] h Q X:=by
 have et:=Wc (ts:=C.ts) r0 r1;obtain⟨pl,c,p⟩:=y;dsimp only at ea eb et e2;unfold trV;refine WU ?_
 exists Yo ed rfl
 rw[Yq,ea];walk_at "p";refine Yo ed rfl ?_;rw[Yq,eb];walk_at "p";refine Zy ed rfl (by rw[ZA,eb];rfl) ?_;refine' Zy ed rfl (by rw[ZA,ea];rfl) ?_
 exists eL (xs:=[.tup<|C.bs.map .int,.tup<|C.ts.map trV]) (v:=.tup<|C.ts.map trV) rfl
 exists eL et
 unfold trV
 exists JB (Qb e1 e2)
 refine' k
def AJ{pw px:Ad}(gd:C.gd N){ws:List Tie}(ew:h pw=d9 (.lst<|ws.map trV))(hw:∀w∈ws,WayOk C w)(nd:(ws.map λw=>w.2.1).Nodup)(hl:ws.length<=16)(ex:h px=d9 (.lst<|(Ye C).map trV))(k:∀g,Ext h g->Q (.bl eh) g):wF P (n+3) "is_ranked" [ZD C.bs C.ts,.ref pw,.ref px] h Q X:=by
 have h10:=gd.ten;have kl:=Wk (C:=C);have kup:C.keys.Pairwise (· < ·):=YX gd.nd;have hwl:(ws.map trV).length=ws.length:=Á _;have ek:(Ye C).map (·.1)=C.keys:=by unfold Ye;rw[ê];exact bW _
 have rl:(Ye C).length=C.keys.length:=Á _;have hrl:((Ye C).map trV).length=C.keys.length:=by rw[Á,rl]
 refine Nr ?_
 exists isl ex
 walk_at "p";refine⟨Ò (by rw[hrl];lia:_<=10) (by decide),?_⟩;refine Ys (λi zs g=>zs=(Û i eh).map Val.bl/\Ext h g) ⟨rfl,.refl⟩ (λi zs g _ ⟨_,x⟩=>lsE<|x.get ex) ?_ ?_
 .rintro i v zs g hv ⟨rfl,x⟩ K hK;obtain⟨t,ht,rfl⟩:=ZF hv;walk_at "p";refine Db ?_ λg2 x2=>?_
  .have:t.1∈C.keys:=by rw[<-ek];exact ó (è ht)
   exact keys_sub.mp gd.sub _<|keys_look.mp<|keys_mem.mp this
  .exact hK _ _ ⟨by rw[List.replicate_succ',Ø];rfl,x.trans x2⟩
 rintro zs g ⟨rfl,x⟩;refine Zg λp1 g1 bN x1 e1=>?_
 exists WD e1 (ZY _)
 rw[show(Û ((Ye C).map trV).length eh).all id=eh by rw[List.all_replicate];simp];have x01:=x.trans x1;have ex1:=x01.get ex;walk_at "p";refine⟨Ò (by rw[hrl];lia:_<=10) (by decide),?_⟩;refine Zz Lw (lsE ex1) (λv hv K hK=>?_) ?_
 .obtain⟨t,_,rfl⟩:=Ð.mp hv;unfold trV at hK ⊢;walk_at "p";exact hK
 rw[B4,ek];refine Zg λp2 g2 hp2 x2 e2=>?_;refine' QQ e2 (by lia) (Zg λp3 g3 hp3 x3 e3=>?_);rw[Ji (kup.imp λz=>by lia),AD kup]at e3;refine Np (CZ (x3.get e2) e3<|all_map λ_ _=>EM) ?_;have x03:=(x01.trans x2).trans x3;have ew3:=x03.get ew;walk_at "p";refine⟨Ò (by rw[hwl];exact hl) (by decide),?_⟩;refine Zz LS (lsE ew3) (λv hv K hK=>?_) ?_
 .obtain⟨t,_,rfl⟩:=Ð.mp hv;unfold trV at hK ⊢;walk_at "p";exact hK
 rw[DP];refine Zg λp4 g4 hp4 x4 e4=>?_;refine' lset e4 (by rw[Á];lia) ?_;rw[Ji nd];refine' M0 (λz=>gf (by simp) z) (λ_=>?_);fail;intro d hd;have x04:=x03.trans x4;have hd0:h d=ee:=YD x04 hd;have e5:=(x04.trans<|Ext.new hd (o:=.dct [])).get ex;refine' Zk (λi en g=>Sm3 λv6 v7 v8=>Cj3 (en=[d9<|ZD C.bs C.ts,d9<|.ref pw,d9<|.ref px,d9<|.ref p2,d9<|.ref p4,d9<|.ref d,v6,v7,v8]) (g d=d9 (.dct<|Ze M6<|rk<|(Ye C).take i))<|Ext h g) ⟨_,_,_,rfl,ez,x04.trans<|Ext.new hd⟩ (λ_ _ _ _ ⟨_,_,_,_,_,x⟩=>lsE<|x.get ex) ?_ ?_
 .rintro i v en g hv ⟨v6,v7,v8,rfl,ed,x⟩ K hK;obtain⟨t,ht,rfl⟩:=ZF hv;have hi:=(Î.mp ht).1;have hn:t.1∉(rk<|(Ye C).take i).map (·.1):=by
   rw[UB];exact ZO (by rw[ek];exact kup.imp λz=>by lia) ht
  unfold trV;refine' Z9 ed ⟨rfl,by rw[X9];unfold rk;rw[Á,đ];exact Ò (by lia:_<=10)<|by decide⟩ ?_;rw[show Val.tup [.int t.2.1,.int t.2.2]=M6 t.2 from rfl,ZG,Yj _ hn];refine' hK _ _ ⟨_,_,_,rfl,?_,Yg x hd0⟩;rw[ez,Zj ht];unfold rk;rw[Ø];rfl
 rintro en g ⟨v6,v7,v8,rfl,ed,x⟩;rw[Á,ý]at ed;have ewg:=x.get ew;have lk:∀b,(C.br.lookup b).isSome=eh->(rk<|Ye C).lookup b=d9 ((C.at_ b).label.root,(C.at_ b).label.cost):=λb hb=>by refine Z6 (by rw[UB,ek];exact kup.imp λz=>by lia) ?_;unfold rk Ye;rw[ê];exact Ð.mpr ⟨b,keys_mem.mpr hb,rfl⟩
 refine' ⟨Ò (by rw[hwl];exact hl) (by decide),?_⟩;refine Zz (λ_=>d9<|.bl eh) (lsE ewg) (λv hv K hK=>?_) ?_
 .obtain⟨t,ht,rfl⟩:=Ð.mp hv;have o:=hw t ht;walk_at "p";exact E7 o.r0 o.r1 ed (lk _ o.sc) (lk _ o.sp) o.root o.cost hK
 rw[M7];refine Zg λp6 g6 hp6 x6 e6=>?_
 exists WD e6 (ZY _)
 rw[show((ws.map trV).map λ_=>eh).all id=eh by rw[List.all_map];simp];exact k _<|x.trans x6
end
noncomputable abbrev Rws:=List<|Int×(Ad×Nat)
abbrev rwV(q:Ad×Nat):Val:=.ref q.1
structure RA(ρ:Int->Int)(bs:List Int)(s:Int)(g:Hs)(q:Ad)(R:Rws):Prop where
 nd:(R.map (·.1)).Nodup
 sub:∀r∈R,r.1∈bs/\ρ r.1=ρ s
 at_:∀r∈R,r.2.1≠q/\r.2.2<=R.length/\∃xs:List Val,g r.2.1=d9 (.lst xs)/\xs.length=r.2.2
variable {ρ:Int->Int} {R:Rws}
def RA.len{bs:List Int}{q:Ad}(r:RA ρ bs s g q R):R.length<=bs.length:=by
 have:=MY r.nd λx hx=>by obtain⟨p,hp,rfl⟩:=Ð.mp hx;exact(r.sub p hp).1
 rwa [Á]at this
def RA.keep{bs:List Int}{f:Hs}{q:Ad}(r:RA ρ bs s g q R)(h:∀x∈R,∀o,g x.2.1=d9 o->f x.2.1=d9 o):RA ρ bs s f q R:=⟨r.nd,r.sub,λx hx=>by obtain⟨a,b,xs,c,d⟩:=r.at_ x hx;exact⟨a,b,xs,h x hx _ c,d⟩⟩
section
variable {bs ls:List Int}{ts:List Tie}
def OE{pl:Ad}{e:Int}(no:eZ bs ts)(hl:∀p∈ls,(0<=p/\p<ts.length)/\ρ (ts[p.toNat]?.getD (0,0,0)).1=ρ (ts[p.toNat]?.getD (0,0,0)).2.1)(hs:s∈bs)(hn:ρ e≠ρ s)(el:h pl=d9 (.lst<|ls.map .int))(k:∀g,Ext h g->Q .non g):wF P (n+2) "ties_between" [ZD bs ts,.ref pl,.int s,.int e] h Q X:=by
 have h10:=no.ten;refine Js ?_;refine' Zg λd g1 hd x1 ed0=>?_;refine' Zg λp0 g2 hp0 x2 e0=>?_;have ed2:=x2.get ed0;have nd0:d≠p0:=Za ed0 hp0
 exists eK rfl
 refine⟨ed2,?_⟩;have ed3:(upd g2 d<|.dct<|putAll [] [(Val.int s,Val.ref p0)]) d=d9 (.dct<|Ze rwV [(s,(p0,0))]):=ez;have e03:(upd g2 d<|.dct<|putAll [] [(Val.int s,Val.ref p0)]) p0=d9 (.lst []):=(ej nd0.symm).trans e0;have x3:Ext h<|upd g2 d<|.dct<|putAll [] [(Val.int s,Val.ref p0)]:=⟨λe=>by rw[ej<|Za e hd];exact x2.get<|x1.get e⟩
 generalize upd g2 d (.dct<|putAll [] [(Val.int s,Val.ref p0)])=g3 at ed3 e03 x3;refine' Zg λq g4 hq x4 eq=>?_;have ndq:d≠q:=Za ed3 hq;have hq0:h q=ee:=YD x3 hq;have ra0:RA ρ bs s g4 q [(s,(p0,0))]:=⟨by simp,λr hr=>by rw[Ó.mp hr];exact⟨hs,rfl⟩,λr hr=>by rw[Ó.mp hr];exact⟨Za e03 hq,ĕ _,[],x4.get e03,rfl⟩⟩
 refine' Ba (m:=2*(bs.length - 1)+1) (λm en g=>∃v6 v7 v8,∃R:Rws,∃ws:List Int,en=[d9<|ZD bs ts,d9<|.ref pl,d9<|.int s,d9<|.int e,d9<|.ref d,d9<|.ref q,v6,v7,v8]/\g d=d9 (.dct<|Ze rwV R)/\g q=d9 (.lst<|ws.map .int)/\RA ρ bs s g q R/\(∀b∈ws,b∈R.map (·.1))/\m=2*(bs.length - R.length)+ws.length/\m<=20/\Ext h g)
  ⟨_,_,_,[(s,(p0,0))],[s],rfl,x4.get ed3,eq,ra0,λb hb=>by simpa using hb,rfl,by lia,x3.trans x4⟩ ?_
 rintro m en g ⟨v6,v7,v8,R,ws,rfl,ed,eq,ra,hw,rfl,m20,x⟩ K hK;fail;cases ws with
 |nil =>
  refine fI rfl ?_
  exists CC (v:=.int e) ed rfl
  rw[ZA];fail;cases er:R.lookup e with
  |none=>exact k g x
  |some r=>exact gf (ra.sub _<|Zf er).2 hn
 |cons b ws =>
  refine fH rfl ?_;have hbk:=hw b (by simp);rw[Ë]at m20
  exists LC eq
  dsimp only;fail;have ed1:(upd g q<|.lst<|ws.map Val.int) d=_:=(ej ndq).trans ed;have eq1:(upd g q<|.lst<|ws.map Val.int) q=d9 (.lst<|ws.map .int):=ez;have ra1:RA ρ bs s (upd g q<|.lst<|ws.map Val.int) q R:=ra.keep λr hr o z=>(ej (ra.at_ r hr).1).trans z;have x5:Ext h<|upd g q<|.lst<|ws.map Val.int:=Yg x hq0;generalize upd g q (.lst<|ws.map Val.int)=g5 at ed1 eq1 ra1 x5;refine Zk (λi en g=>Sm2 λv7 v8=>∃R':Rws,∃ws':List Int,en=[d9<|ZD bs ts,d9<|.ref pl,d9<|.int s,d9<|.int e,d9<|.ref d,d9<|.ref q,d9<|.int b,v7,v8]/\g d=d9 (.dct<|Ze rwV R')/\g q=d9 (.lst<|ws'.map .int)/\RA ρ bs s g q R'/\(∀c∈ws',c∈R'.map (·.1))/\b∈R'.map (·.1)/\2*(bs.length - R'.length)+ws'.length<=2*(bs.length - R.length)+ws.length/\Ext h g)
   ⟨_,_,R,ws,rfl,ed1,eq1,ra1,λc hc=>hw c (by simp[hc]),hbk,Ì _,x5⟩ (λi en g _ ⟨_,_,_,_,_,_,_,_,_,_,_,x⟩=>lsE<|x.get el) ?_ ?_
  .rintro i v en g hv ⟨v7,v8,R',ws',rfl,ed,eq,ra,hw,hb,hm,x⟩ K hK;obtain⟨p,hp,rfl⟩:=ZF hv;obtain⟨⟨r0,r1⟩,hρ⟩:=hl p<|è hp;have et:=Wc (ts:=ts) r0 r1;obtain⟨l1,l2,l3,_⟩:=no.tie _ (show ts[p.toNat]?.getD (0,0,0)∈ts from WC r0 r1);generalize ts[p.toNat]?.getD (0,0,0)=t at et hρ l1 l2 l3
   exists eL (xs:=[.tup<|bs.map .int,.tup<|ts.map trV]) (v:=.tup<|ts.map trV) rfl
   exists eL et
   unfold trV;refine' fG (xs:=[Val.int t.1,.int t.2.1,.int t.2.2]) (lo:=ee) (hi:=d9 2) (show ¬ ((0:Nat)=0/\(2:Nat)=3) by decide) ?_;rw[show cut [Val.int t.1,.int t.2.1,.int t.2.2] ee (d9 2)=[t.1,t.2.1].map Val.int from rfl];refine JJ ?_;refine' fJ (λde=>?_) (λde=>?_)
   .have de:b=t.1\/b=t.2.1:=by simpa using de
    exists eL (xs:=[.tup<|bs.map .int,.tup<|ts.map trV]) (v:=.tup<|ts.map trV) rfl
    exists eL et
    exists Ub
    fail;have hf:far t b∈bs/\ρ (far t b)=ρ b:=by
     unfold far;split
     .rename_i z;exact⟨l2,by rw[<-z,hρ]⟩
     .rename_i z;rcases de with e|e
      .exact gf e.symm z
      .exact⟨l1,by rw[e,hρ]⟩
    generalize far t b=fr at hf;refine Yo ed rfl ?_;rw[Yq];fail;cases er:R'.lookup fr with
    |some r =>refine fI rfl ?_;refine' hK _ _ ⟨_,_,R',ws',rfl,ed,eq,ra,hw,hb,hm,x⟩
    |none =>
     have hfn:=YF er;obtain⟨⟨ab,lb⟩,hbr⟩:=ZK hb;have hmb:=Zf hbr;obtain⟨nb,lbl,xs,exs,hxl⟩:=ra.at_ _ hmb;have hρb:=(ra.sub _ hmb).2;have hrl:=ra.len;dsimp only at lbl exs hxl hρb;refine fH rfl ?_;refine' Zy ed rfl (by rw[ZA,hbr];rfl) ?_;unfold rwV;refine' Zg λp6 g6 hp6 x6 e6=>?_;refine Dg (x6.get exs) e6 (á (by rw[ä];simp;lia:_<=30)<|by decide) ?_;refine Zg λa g7 ha x7 ea=>?_;have x67:=x6.trans x7;have ed7:=x67.get ed;have eq7:=x67.get eq;have nda:d≠a:=Za (x6.get ed) ha;have nqa:q≠a:=Za (x6.get eq) ha;refine' Z9 (k:=.int fr) ed7 ⟨rfl,by rw[X9];exact Ò (by lia:R'.length<=10)<|by decide⟩ ?_;rw[show Val.ref a=rwV (a,lb+1) from rfl,ZG,Yj _ hfn];refine' ZC ((ej ndq.symm).trans eq7) ?_ ?_
     .rw[Á];exact Ò (by lia:ws'.length<=30) (by decide)
     dsimp only;fail;have ra7:∀f:Hs,(∀r∈R',∀o,g r.2.1=d9 o->f r.2.1=d9 o)->f a=d9 (.lst<|xs++[.int p])->RA ρ bs s f q (R'++[(fr,(a,lb+1))]):=λf h1 h2=>by
      have ra':=ra.keep h1;refine⟨?_,λr hr=>?_,λr hr=>?_⟩
      .rw[Ø,æ];refine⟨ra.nd,by simp,λx hx y hy=>?_⟩;have:y=fr:=by simpa using hy
       rw[this];exact λe=>hfn<|e▸hx
      .rcases Ü.mp hr with hr|hr
       .exact ra.sub r hr
       .rw[Ó.mp hr];exact⟨hf.1,hf.2.trans hρb⟩
      .rcases Ü.mp hr with hr|hr
       .obtain⟨u1,u2,u3⟩:=ra'.at_ r hr;exact⟨u1,by rw[ä];lia,u3⟩
       .rw[Ó.mp hr];exact⟨nqa.symm,by rw[ä];simp;lia,_,h2,by rw[ä,hxl];rfl⟩
     have r7:=ra7 (upd (upd g7 d<|.dct<|Ze rwV<|R'++[(fr,(a,lb+1))]) q<|.lst<|ws'.map Val.int++[.int fr]) (λr hr o z=>by
       rw[ej (ra.at_ r hr).1,ej]
       . exact x67.get z
       . obtain⟨_,_,ys,z1,_⟩:=ra.at_ r hr
         intro e
         rw[e,ed]at z1
         cases z1) (by rw[ej nqa.symm,ej nda.symm];exact ea)
     have hl7:=r7.len;rw[ä]at hl7;refine hK _ _ ⟨_,_,_,ws'++[fr],rfl,?_,?_,r7,λc hc=>?_,?_,?_,⟨λe=>?_⟩⟩
     .rw[ej ndq,ez]
     .rw[ez,Ø];rfl
     .rw[Ø];rcases Ü.mp hc with hc|hc
      .exact Ú _<|hw c hc
      .exact É _ (by simpa using hc)
     .rw[Ø];exact Ú _ hb
     .rw[ä,ä];simp only[Ë,Đ]at hl7 ⊢;lia
     .rw[ej<|Za e hq0,ej<|Za e hd];exact x67.get<|x.get e
   .refine' hK _ _ ⟨_,_,R',ws',rfl,ed,eq,ra,hw,hb,hm,x⟩
  .rintro en g ⟨v7,v8,R',ws',rfl,ed,eq,ra,hw,hb,hm,x⟩;refine' hK _ _ _ ?_ ⟨_,_,_,R',ws',rfl,ed,eq,ra,hw,rfl,?_,x⟩
   .rw[Ë];lia
   .lia
def BG{pp:Ad}{ws:List Tie}(gd:C.gd N)(f:Frst κ ws)(hl:ws.length<=16)(hw:∀w∈ws,WayOk C w)(ep:h pp=d9 (.lst ((ws.map (·.1)).map .int)))(k:∀g,Ext h g->Q .non g):wF P (n+3) "ring_of" [ZD C.bs C.ts,.ref pp] h Q X:=by
 refine Ay ?_;refine' Zg λq g1 hq x1 e1=>?_;refine' Zk (λi en g=>Sm5 λv3 v4 v5 v6 v7=>Cj3 (en=[d9<|ZD C.bs C.ts,d9<|.ref pp,d9<|.ref q,v3,v4,v5,v6,v7]) (g q=d9 (.lst (((ws.take i).map (·.1)).map .int)))<|Ext h g) ⟨_,_,_,_,_,rfl,e1,x1⟩ (λi en g _ ⟨_,_,_,_,_,_,_,x⟩=>lsE<|x.get ep) ?_ ?_
 .rintro i v en g hv ⟨v3,v4,v5,v6,v7,rfl,eq,x⟩ K hK;obtain⟨p,hp,rfl⟩:=ZF hv;rw[Ö]at hp;obtain⟨t,ht,rfl⟩:=È.mp hp;have hi:=(Î.mp ht).1;have o:=hw t<|è ht;have g0:=f.ok i (by lia);obtain⟨u1,u2,_⟩:=f.step ht g0;have et:=Wc (ts:=C.ts) o.r0 o.r1;have lo:=gd.no.tie _ (show C.ts[t.1.toNat]?.getD (0,0,0)∈C.ts from WC o.r0 o.r1);have ų:grp (ws.take i) (C.tie t.1).1≠grp (ws.take i) (C.tie t.1).2.1:=by
   rcases o.ends with⟨a,b⟩|⟨a,b⟩
   .rw[<-a,<-b,u1];exact u2.symm
   .rw[<-a,<-b,u1];exact u2
  exists eL (xs:=[.tup<|C.bs.map .int,.tup<|C.ts.map trV]) (v:=.tup<|C.ts.map trV) rfl
  exists eL et
  unfold trV;refine' OE (ρ:=grp<|ws.take i) (ls:=(ws.take i).map (·.1)) gd.no (λr hr=>?_) lo.2.1 ų eq λg2 x2=>?_
  .obtain⟨y,hy,rfl⟩:=Ð.mp hr;have oy:=hw y<|List.mem_of_mem_take hy;have ey:=g0.eq y hy;refine⟨⟨oy.r0,oy.r1⟩,?_⟩;rcases oy.ends with⟨a,b⟩|⟨a,b⟩
   .rw[a,b]at ey;exact ey
   .rw[a,b]at ey;exact ey.symm
  walk_at "p";refine ZC (x2.get eq) (by rw[Á,Á,đ,lim];lia) ?_;refine' hK _ _ ⟨_,_,_,_,_,rfl,?_,Yg (x.trans x2) hq⟩;rw[Zj ht,Ø,Ø];exact ez
 .rintro en g ⟨v3,v4,v5,v6,v7,rfl,eq,x⟩;refine' k g x
end
def NJ{α:Type}{val:α->Val}:∀(kvs Ė:List<|Int×α),((Ė++kvs).map (·.1)).Nodup->putAll (Ze val Ė) (Ze val kvs)=Ze val (Ė++kvs)
 |[],Ė,_=>by rw[þ];rfl
 |p::r,Ė,nd=>by
  have hn:p.1∉Ė.map (·.1):=λz=>by rw[Ø,æ]at nd;exact nd.2.2 _ z _ (by simp) rfl
  show putAll (ff (Ze val Ė) (.int p.1)<|val p.2) (Ze val r)=_;rw[ZG,Yj _ hn,NJ r (Ė++[p]) (by rwa [Ĕ]),Ĕ];rfl
abbrev O5(C:Yc):List<|Int×Lab:=C.keys.map λb=>(b,(C.at_ b).label)
def KU(C:Yc):(O5 C).map (·.1)=C.keys:=by unfold O5;rw[ê];exact bW _
def AA:pairsOf h (MZ C)=d9 (Ze Lab.v<|O5 C):=by
 unfold MZ O5 Ze;induction C.keys with
 |nil=>rfl
 |cons b r ih =>show(pairsOf h<|r.map _).map _=_;rw[ih];rfl
def Nx{b:Int}(gd:C.gd N)(hb:(C.br.lookup b).isSome=eh):(O5 C).lookup b=d9 (C.at_ b).label:=Z6 (by rw[KU];exact(YX gd.nd).imp λz=>by lia) (Ð.mpr ⟨b,keys_mem.mpr hb,rfl⟩)
section
variable {Y:Yd}{N:Nat}{C:Yc}
def Of(x:eR h Y)(gd:Y.cc.gd N)(sf:Safe H Y.cc)(k:∀g,Ext h g->Q (.bl eh) g):wF P (n+7) "_law_right" [.ref Y.y,ZD Y.bs Y.ts] h Q X:=by
 have t16:Y.ts.length<=16:=gd.no.sixteen;have ol:=Xx (C:=Y.cc) Y.ts.length;have fo:=sf.frst gd;have wo:∀w∈Yb Y.cc Y.ts.length,WayOk Y.cc w:=λw hw=>sf.ways gd hw
 replace fo:Frst (λb=>(Y.cc.at_ b).label.cost)<|Yb Y.cc Y.ts.length:=fo
 refine Nu ?_;refine' EJ x gd λp1 g1 bN x1 e1=>?_;have y1:=x.ext x1;have yi:=y1.ins;refine' Wy y1 gd λp2 g2 hp2 x2 e2=>?_
 exists EC e2 AA
 rw[show putAll [] (Ze Lab.v<|O5 Y.cc)=Ze Lab.v (O5 Y.cc) from NJ _ []<|by rw[aC,KU];exact(YX gd.nd).imp λz=>by lia];refine Zg λd g3 hd x3 ed=>?_;have x03:=(x1.trans x2).trans x3;have e1:=(x2.trans x3).get e1;generalize hws:Yb Y.cc Y.ts.length=ws at e1 ol fo wo;refine' Zk (λi en g=>g=g3/\∃v4 v5 v6,en=[d9<|.ref Y.y,d9<|ZD Y.bs Y.ts,d9<|.ref p1,d9<|.ref d,v4,v5,v6]) ⟨rfl,_,_,_,rfl⟩ (λ_ _ _ _ ⟨z,_⟩=>by rw[z];exact lsE e1) ?_ ?_
 .rintro i v en g hv ⟨rfl,v4,v5,v6,rfl⟩ K hK;obtain⟨t,ht,rfl⟩:=ZF hv;have o:=wo t<|è ht;have lc:=Nx gd o.sc;have lp:=Nx gd o.sp;have et:=Wc (ts:=Y.ts) o.r0 o.r1;have oc:=o.cost;have or:=o.root;obtain⟨p,c,q⟩:=t;dsimp only at lc lp et oc or;unfold trV
  exists Yo ed rfl
  rw[Yq,lc];walk_at "p";refine Yo ed rfl ?_;rw[Yq,lp];walk_at "p";refine Zy ed rfl (by rw[ZA,lc];rfl) ?_;refine' Zy ed rfl (by rw[ZA,lp];rfl) ?_;refine' M0 (λz=>gf or z) (λ_=>?_);walk_at "p";refine Zy ed rfl (by rw[ZA,lc];rfl) ?_;refine' Zy ed rfl (by rw[ZA,lp];rfl) ?_
  exists eL (xs:=[.tup<|Y.bs.map .int,.tup<|Y.ts.map trV]) (v:=.tup<|Y.ts.map trV) rfl
  exists eL et
  unfold trV;refine' M0 (λz=>gf oc z) (λ_=>?_);refine' hK _ _ ⟨rfl,_,_,_,rfl⟩
 rintro en g ⟨rfl,v4,v5,v6,rfl⟩;refine' E6 fo (by lia) e1 λg4 x4=>?_;walk_at "p";refine G9 (x.ext<|x03.trans x4) gd λp5 g5 hp5 x5 e5=>?_;have e1':=(x4.trans x5).get e1;rw[hws]at e5
 exists Np (CZ e5 e1'<|all_map λ_ _=>rfl)
 walk_at "p";refine⟨Ò (by rw[Á];lia:_<=16) (by decide),?_⟩;refine Zz LS (lsE e1') (λv hv K hK=>?_) ?_
 .obtain⟨t,_,rfl⟩:=Ð.mp hv;unfold trV at hK ⊢;walk_at "p";exact hK
 rw[DP];refine Zg λp6 g6 hp6 x6 e6=>?_;have e1':=x6.get e1';refine' lset e6 (by rw[Á];lia) ?_;rw[Ji fo.nd];refine' fJ (λz=>by rw[Á,Á]at z;lia) (λ_=>?_);have x06:=((x03.trans x4).trans x5).trans x6;refine' DF (x.ext x06) gd λp7 g7 hp7 x7 e7=>?_;refine' AJ (C:=Y.cc) gd (x7.get e1') wo fo.nd (by lia) e7 λg8 x8=>?_;refine eK (show eX g8 .ntT (.bl eh) (.bl eh)=d9 ei from rfl) ?_;have e1':=(x7.trans x8).get e1';walk_at "p";refine⟨Ò (by rw[Á];lia:_<=16) (by decide),?_⟩;refine Zz Lw (lsE e1') (λv hv K hK=>?_) ?_
 .obtain⟨t,_,rfl⟩:=Ð.mp hv;unfold trV at hK ⊢;walk_at "p";exact hK
 rw[B4];refine Zg λp9 g9 hp9 x9 e9=>?_;refine' BG (C:=Y.cc) gd fo (by lia) wo e9 λg10 x10=>?_;refine' k _ (x06.trans<|(x7.trans x8).trans<|x9.trans x10)
def CW(I:Yc->Prop)(hI:∀C D d N,C.gd N->I C->step C d=d9 D->I D)(x:eR h Y)(gd:Y.cc.gd N)(iy:I Y.cc)(hN:N<=5000)(k:∀Z g,Mv h Y g Z->Z.cc.gd 0->I Z.cc->Z.bs=Y.bs->Z.ts=Y.ts->Q .non g):wF P (n+7) "quiet_round" [.ref Y.y] h Q X:=by
 have xi:=x.ins;have h10:=gd.ten;have kl:=Wk (C:=Y.cc);refine Ks ?_;refine' Wy x gd λp g1 hp x1 e1=>?_;have nA:p∉Y.adr:=λz=>x.taken z hp;refine' Zk (λi en g=>Sm4 λv1 v2 v3 Z=>Cj9 (en=[d9<|.ref Y.y,v1,v2,v3]) (Mv h Y g Z) (p∉Z.adr) (g p=d9 (.lst<|MZ Y.cc)) (Z.cc.br.map (·.1)=Y.cc.br.map (·.1)) (Z.cc.gd<|N+i) (I Z.cc) (Z.bs=Y.bs)<|Z.ts=Y.ts) ⟨_,_,_,Y,rfl,(Mv.refl x).ext x1,nA,e1,rfl,gd,iy,rfl,rfl⟩ (λ_ _ _ _ ⟨_,_,_,_,_,_,_,e,_,_,_,_,_⟩=>lsE e) ?_ ?_
 .rintro i v en g hv ⟨v1,v2,v3,Z,rfl,m,np,ep,hk,gz,iz,eb,et⟩ K hK;obtain⟨b,hb,rfl⟩:=ZF hv;have hi:=(Î.mp hb).1;obtain⟨D,hD,hDk⟩:=KC (C:=Z.cc) (b:=b) (by rw[hk];exact keys_look.mp<|keys_mem.mp<|è hb);have zi:=m.at_.ins;rw[m.y]at zi;fail;rw[<-m.y];refine MK (d:=.tick b) m.at_ gz (by lia) (by rw[hD];rfl) λW g3 s mv=>?_;obtain⟨gw,q1,q2,_⟩:=Nc gz s;have iw:=hI _ _ _ _ gz iz s;rw[hD]at s;cases s;have o:=mv.off np ep;fail;rw[m.y];exact hK _ _ ⟨_,_,_,W,rfl,m.trans mv,o.1,o.2,hDk.trans hk,gw,iw,q1.trans eb,q2.trans et⟩
 rintro en g ⟨v1,v2,v3,Z,rfl,m,np,ep,hk,gz,iz,eb,et⟩;rw[show(MZ Y.cc).length=Y.cc.keys.length from Á _]at gz;have gl:=gz.len;have rl:Z.road.length=Z.cc.road.length:=rfl;have zi:=m.at_.ins;rw[m.y]at zi;fail;rw[<-m.y];refine UM m.at_ λp2 g2 hp2 x2 e2=>?_;have nZ:p2∉Z.adr:=λz=>m.at_.taken z hp2;fail;rw[m.y];refine Zk (λi en g=>Sm4 λv1 v2 v3 W=>Cj9 (en=[d9<|.ref Y.y,v1,v2,v3]) (Mv h Y g W) (p2∉W.adr) (g p2=d9 (.lst<|Z.road.map rdV)) (W.cc.road.length+i=Z.road.length) ((∃M,W.cc.gd M)) (I W.cc) (W.bs=Y.bs)<|W.ts=Y.ts) ⟨_,_,_,Z,rfl,m.ext x2,nZ,e2,rfl,⟨_,gz⟩,iz,eb,et⟩ (λ_ _ _ _ ⟨_,_,_,_,_,_,_,e,_,_,_,_,_⟩=>lsE e) ?_ ?_
 .rintro i v en g hv ⟨v1,v2,v3,W,rfl,m2,np,ep,hl,⟨M,gw⟩,iw,eb,et⟩ K hK;have hi:=(Î.mp hv).1;rw[Á]at hi;have gw:W.cc.gd<|N+10:=⟨gw.no,gw.nd,gw.sub,gw.ok,gw.lv,gw.fn,gw.fr,by lia⟩
  have hs:=MA (C:=W.cc) (r:=0) (by lia) (by lia);have zi:=m2.at_.ins;rw[m2.y]at zi;fail;rw[<-m2.y];refine MK (d:=.come 0) m2.at_ gw (by lia) hs.2 λV g3 s mv=>?_;obtain⟨gv,q1,q2,_⟩:=Nc gw s;have iv:=hI _ _ _ _ gw iw s;have o:=mv.off np ep;have hv:V.cc.road.length+1=W.cc.road.length:=by
   replace s:(if(0:Int)<0 then ee else(W.cc.road[(0:Int).toNat]?).map _)=d9 V.cc:=s
   rw[f8<|by decide]at s;obtain⟨r,_,e⟩:=È.mp s;rw[<-e];show(W.cc.road.eraseIdx 0).length+1=_;rw[υ<|by lia];lia
  fail;rw[m2.y];exact hK _ _ ⟨_,_,_,V,rfl,m2.trans mv,o.1,o.2,by lia,⟨_,gv⟩,iv,q1.trans eb,q2.trans et⟩
 rintro en g ⟨v1,v2,v3,W,rfl,m2,np,ep,hl,⟨M,gw⟩,iw,eb,et⟩;rw[Á]at hl;refine' k W g m2 ⟨gw.no,gw.nd,gw.sub,gw.ok,gw.lv,gw.fn,gw.fr,by lia⟩ iw eb et
end
section
variable {Y:Yd}{N:Nat}{C:Yc}
abbrev Sf(C:Yc):Prop:=∃H,Safe H C
def U8(C D:Yc)(d:Dd)(N:Nat)(g:C.gd N)(s:Sf C)(e:step C d=d9 D):Sf D:=by obtain⟨H,s⟩:=s;exact AB g s e
def law_ok(h63:ns.length<=63)(k:∀g,Q (.bl eh) g):wF P (n+8) "law" [.scr ns] h Q X:=by
 refine R1 ?_;refine' GV (k:=0) λc0=>?_;refine' Ap λw g1 hw x1 w1=>?_;refine' Lg w1 λbs ts g2 no x2 w2=>?_;refine' Zh w2 (by decide) (by decide) λr g3 r0 r1 x3 w3=>?_;fail;intro py hpy;refine BW no hpy λY g4 e4 y4 cc fr x4=>?_;subst e4;have eb:Y.bs=bs:=congrArg Yc.bs cc;have et:Y.ts=ts:=congrArg Yc.ts cc;have gd0:Y.cc.gd 0:=by rw[cc];exact GU no
 have sf0:Sf Y.cc:=by rw[cc];exact BF no
 refine⟨rfl,?_⟩;refine' Zg λps g5 hps x5 e5=>?_;have y5:=y4.ext x5;have np:ps∉Y.adr:=λz=>y4.taken z hps;have cl:(cut (ns.map Val.int) (d9 1)<|d9 63).length<=62:=by rw[Ps (by decide) (by decide),đ];exact Nat.min_le_left _ _
 rw[EH]at e5 cl;rw[Á]at cl;generalize cut ns (d9 1) (d9 63)=cs at e5 cl;refine' Zk (λi en g=>Sm4 λv1 v4 v5 Z=>Cj9 (en=[d9<|.scr ns,v1,d9<|ZD bs ts,d9<|.ref Y.y,v4,v5]) (Z.y=Y.y) (eR g Z) (Z.cc.gd<|6*i) (Sf Z.cc) (Z.bs=bs) (Z.ts=ts) (ps∉Z.adr)<|g ps=d9 (.lst<|cs.map .int)) ⟨_,_,_,Y,rfl,rfl,y5,gd0,sf0,eb,et,np,e5⟩ (λ_ _ _ _ ⟨_,_,_,_,_,_,_,_,_,_,_,_,e⟩=>lsE e) ?_ ?_
 .rintro i v en g hv ⟨v1,v4,v5,Z,rfl,ey,yz,gz,sz,eb,et,np,ep⟩ K hK;obtain⟨c,hc,rfl⟩:=ZF hv;have hi:=(Î.mp hc).1;refine' Ap λu g6 hu x6 w6=>?_;have nu:u∉Z.adr:=λz=>yz.taken z hu;have nps:u≠ps:=λz=>Za ep hu z.symm;refine' Zh w6 (by decide) (by decide) λs g7 s0 s1 x7 w7=>?_;have y7:=(yz.ext x6).extb x7 nu;have ep7:=x7.get nps.symm<|x6.get ep;have rest:∀{g:Hs}{Z:Yd},Z.y=Y.y->eR g Z->Z.cc.gd (6*i)->Sf Z.cc->Z.bs=bs->Z.ts=ts->ps∉Z.adr->g ps=d9 (.lst<|cs.map .int)->u∉Z.adr->Row g u->wSs (wF P<|n+7) #[.for (.one 5) (.range<|.call "_law_take" #[.var 1,.cst<|.int 6]) #[.expr<|.meth "Yard" "deed" (.var 3) #[.call "_law_drawn" #[.var 1,.var 3,.var 2]],.ite (.not<|.val<|.call "_law_right" #[.var 3,.var 2]) #[.ret<|.cst<|.bl ei] .nil]] [d9<|.scr ns,d9<|.ref u,d9<|ZD bs ts,d9<|.ref Y.y,d9<|.int c,v5] g K Q (λ_ _=>False) (λ_ _=>False) λ_ c g=>X c g:=by
   clear yz gz sz eb et np ep nu y7 ep7;intro g Z ey yz gz sz eb et np ep nu wg;refine' Zh wg (by decide) (by decide) λs2 g8 t0 t1 x8 w8=>?_;refine' ⟨⟨by lia,by lia⟩,?_⟩;refine Zk (λj en g=>∃v5 Z,en=[d9<|.scr ns,d9<|.ref u,d9<|ZD bs ts,d9<|.ref Y.y,d9<|.int c,v5]/\Z.y=Y.y/\eR g Z/\Z.cc.gd (6*i+j)/\Sf Z.cc/\Z.bs=bs/\Z.ts=ts/\ps∉Z.adr/\g ps=d9 (.lst<|cs.map .int)/\u∉Z.adr/\Row g u) ⟨_,Z,rfl,ey,yz.extb x8 nu,gz,sz,eb,et,np,x8.get nps.symm ep,nu,w8⟩ (λ_ _ _ _ _=>trivial) ?_ ?_
   .rintro j v en g hv ⟨v5,Z,rfl,ey,yz,gz,sz,eb,et,np,ep,nu,wg⟩ K hK;obtain⟨rfl,hj⟩:=MR hv;have zi:=yz.ins;rw[ey]at zi;fail;rw[<-ey,<-eb,<-et];refine DC wg yz gz (by lia) nu λd g9 sd x9 w9=>?_;have y9:=yz.extb x9 nu;have zi:=y9.ins;refine' MK y9 gz (by lia) sd λV g10 sv mv=>?_;obtain⟨gv,q1,q2,_⟩:=Nc gz sv;obtain⟨H,sv'⟩:=U8 _ _ _ _ gz sz sv;obtain⟨a,b,e,wb⟩:=w9;have o1:=mv.off nu e;have o2:=mv.off np<|x9.get nps.symm ep;fail;rw[<-mv.y,<-show V.bs=Z.bs from q1,<-show V.ts=Z.ts from q2];refine Of mv.at_ gv sv' λg11 x11=>?_;walk_at "p";exact hK _ _ ⟨_,V,by rw[mv.y,ey,show V.bs=bs from q1.trans eb,show V.ts=ts from q2.trans et],mv.y.trans ey,mv.at_.ext x11,gv,⟨H,sv'⟩,q1.trans eb,q2.trans et,o2.1,x11.get o2.2,o1.1,Row.ext ⟨a,b,o1.2,wb⟩ x11⟩
   .rintro en g ⟨v5,Z,rfl,ey,yz,gz,sz,eb,et,np,ep,nu,wg⟩;rw[Jj]at gz;refine' hK _ _ ⟨_,_,_,Z,rfl,ey,yz,gz.more (by lia),sz,eb,et,np,ep⟩
  refine' fJ (λc1=>?_) (λc1=>?_)
  .fail;rw[<-ey];refine CW Sf U8 y7 gz sz (by lia) λV g8 mv gv sv q1 q2=>?_;obtain⟨a,b,e,wb⟩:=w7;have o1:=mv.off nu e;have o2:=mv.off np ep7;rw[ey];exact rest (mv.y.trans ey) mv.at_ (gv.more<|ĕ _) sv (q1.trans eb) (q2.trans et) o2.1 o2.2 o1.1 ⟨a,b,o1.2,wb⟩
  .exact rest ey y7 gz sz eb et np ep7 nu w7
 .rintro en g ⟨v1,v4,v5,Z,rfl,ey,yz,gz,⟨H,sz⟩,eb,et,np,ep⟩;fail;rw[<-ey,<-eb,<-et];exact Of yz gz sz λg7 x7=>k _
end
end O
set_option maxRecDepth 1000000
set_option maxHeartbeats 0
namespace My
open PySem L2 Snd PySem.W
abbrev top(i:Nat):Stmt:=PySem.Challenge.pw_shutways_k32_whole_no_ring_at_any_moment.main.body.getD i<|.Pass ⟨0,0,0,0⟩
abbrev inC:Stmt->Nat->Stmt
 |.ClassDef _ _ _ b _ _ _ _ _ _ _,j=>b.getD j<|.Pass ⟨0,0,0,0⟩
 |s,_=>s
abbrev x0:Ds:=⟨top 6,["thing"],["thing"],O.Tl⟩
abbrev x1:Ds:=⟨top 7,["thing","least","greatest"],["thing","least","greatest"],O.Tp⟩
abbrev x2:Ds:=⟨top 13,["bridges","ties"],["bridges","ties"],O.VZ⟩
abbrev x3:Ds:=⟨top 14,["things"],["things"],O.Tc⟩
abbrev x4:Ds:=⟨top 15,["thing","bridges"],["thing","bridges"],O.Th⟩
abbrev x5:Ds:=⟨top 16,["tie"],["tie"],O.T9⟩
abbrev x6:Ds:=⟨top 17,["net","bridge","found","place","tie"],["net","bridge"],O.VY⟩
abbrev x7:Ds:=⟨top 18,["tie","bridge"],["tie","bridge"],O.Te⟩
abbrev x8:Ds:=⟨top 20,["yard","ways","place","tie","ends"],["yard"],O.VW⟩
abbrev x9:Ds:=⟨top 21,["yard"],["yard"],O.VM⟩
abbrev x10:Ds:=⟨top 22,["net","ways","some","bridges","children","ranks","bridge","root","cost"],["net","ways","some"],O.Tg⟩
abbrev x11:Ds:=⟨top 23,["net","thing"],["net","thing"],O.Tf⟩
abbrev x12:Ds:=⟨top 24,["net","way","ranks","place","child","parent","root","cost"],["net","way","ranks"],O.Ti⟩
abbrev x13:Ds:=⟨top 25,["net","ways","laid","place","one","other","cost","joining"],["net","ways"],O.VO⟩
abbrev x14:Ds:=⟨top 26,["net","laid","start","goal","rows","waiting","bridge","place","far"],["net","laid","start","goal"],O.VU⟩
abbrev x15:Ds:=⟨top 28,["bridge","offers","better"],["bridge","offers"],O.Td⟩
abbrev x16:Ds:=⟨top 30,["yard","bridge","label","letter"],["yard"],O.VJ⟩
abbrev x17:Ds:=⟨top 39,["one","other"],["one","other"],O.VX⟩
abbrev x18:Ds:=⟨top 45,["some","words"],["some"],O.VN⟩
abbrev x19:Ds:=⟨top 47,["script","k"],["script","k"],O.Tr⟩
abbrev x20:Ds:=⟨top 48,["cell"],["cell"],O.T4⟩
abbrev x21:Ds:=⟨top 49,["row","many","told"],["row","many"],O.T5⟩
abbrev x22:Ds:=⟨top 50,["row","many","step","k","bridges","ties","one","other","cost"],["row"],O.T0⟩
abbrev x23:Ds:=⟨top 51,["net","downs"],["net","downs"],O.T7⟩
abbrev x24:Ds:=⟨top 52,["row","net","downs","place","bridge"],["row","net","downs"],O.T6⟩
abbrev x25:Ds:=⟨top 53,["row","yard","net","road","downs","ups","kind","place"],["row","yard","net"],O.Tv⟩
abbrev x26:Ds:=⟨top 55,["yard","net","ways","place","tie","ends"],["yard","net"],O.T8⟩
abbrev x27:Ds:=⟨top 56,["ways","groups","place","child","parent","one","other","bridge"],["ways"],O.T3⟩
abbrev x28:Ds:=⟨top 57,["yard","net","ways","labels","place","child","parent"],["yard","net"],O.T1⟩
abbrev x29:Ds:=⟨top 58,["script","row","net","yard","cell","k"],["script"],O.Tq⟩
abbrev z0:Ds:=⟨inC (top 41) 0,["self","number","life","ties","greatest","place","neighbour","cost"],["self","number","life","ties","greatest"],O.S8⟩
abbrev z1:Ds:=⟨inC (top 41) 2,["self"],["self"],O.TY⟩
abbrev z2:Ds:=⟨inC (top 41) 3,["self"],["self"],O.TM⟩
abbrev z3:Ds:=⟨inC (top 41) 4,["self","place"],["self","place"],O.S7⟩
abbrev z4:Ds:=⟨inC (top 41) 5,["self","place","neighbour","cost"],["self","place","neighbour","cost"],O.TB⟩
abbrev z5:Ds:=⟨inC (top 41) 6,["self","place"],["self","place"],O.S4⟩
abbrev z6:Ds:=⟨inC (top 41) 7,["self","place","letter","held"],["self","place","letter"],O.S6⟩
abbrev z7:Ds:=⟨inC (top 41) 8,["self","letters"],["self"],O.TU⟩
abbrev z8:Ds:=⟨inC (top 41) 9,["self","older","place","held"],["self"],O.TX⟩
abbrev z9:Ds:=⟨inC (top 41) 10,["self","offers","place","held","neighbour","cost","best","root"],["self"],O.TK⟩
abbrev z10:Ds:=⟨inC (top 41) 11,["self","label"],["self","label"],O.TN⟩
abbrev z11:Ds:=⟨inC (top 41) 12,["self","place","root","cost","over","rests","age","ahead"],["self","place"],O.TW⟩
abbrev z12:Ds:=⟨inC (top 41) 13,["self","place","held"],["self","place"],O.TZ⟩
abbrev z13:Ds:=⟨inC (top 41) 14,["self","place","held"],["self","place"],O.S9⟩
abbrev z14:Ds:=⟨inC (top 41) 15,["self","place"],["self","place"],O.S5⟩
abbrev z15:Ds:=⟨inC (top 44) 0,["self","net","greatest","number"],["self","net","greatest"],O.Tw⟩
abbrev z16:Ds:=⟨inC (top 44) 2,["self"],["self"],O.Tk⟩
abbrev z17:Ds:=⟨inC (top 44) 4,["self"],["self"],O.Tm⟩
abbrev z18:Ds:=⟨inC (top 44) 5,["self","fallen"],["self"],O.TL⟩
abbrev z19:Ds:=⟨inC (top 44) 6,["self"],["self"],O.Tj⟩
abbrev z20:Ds:=⟨inC (top 44) 9,["self","place","one","other","cost"],["self","place"],O.TR⟩
abbrev z21:Ds:=⟨inC (top 44) 10,["self","number","place"],["self","number","place"],O.TQ⟩
abbrev z22:Ds:=⟨inC (top 44) 11,["self","place"],["self","place"],O.Tx⟩
abbrev z23:Ds:=⟨inC (top 44) 12,["self","some","words","number"],["self","some"],O.TH⟩
abbrev z24:Ds:=⟨inC (top 44) 13,["self","number","place","letter","goal"],["self","number"],O.Ta⟩
abbrev z25:Ds:=⟨inC (top 44) 14,["self","place","start","goal","tie","letter"],["self","place"],O.TF⟩
abbrev z26:Ds:=⟨inC (top 44) 15,["self","place"],["self","place"],O.Tu⟩
abbrev z27:Ds:=⟨inC (top 44) 16,["self","number"],["self","number"],O.TV⟩
abbrev z28:Ds:=⟨inC (top 44) 17,["self","place"],["self","place"],O.Tz⟩
abbrev z29:Ds:=⟨inC (top 44) 18,["self","number"],["self","number"],O.TC⟩
abbrev z30:Ds:=⟨inC (top 44) 19,["self","place"],["self","place"],O.TD⟩
abbrev z31:Ds:=⟨inC (top 44) 20,["self","number","place","neighbour","cost"],["self","number"],O.To⟩
abbrev z32:Ds:=⟨inC (top 44) 21,["self","place","one","other","cost","stands","near","far"],["self","place"],O.Tn⟩
abbrev tb:Tb where
 fs:=[("is_whole",x0),("is_whole_between",x1),("make_net",x2),("are_bridges",x3),("is_tie",x4),("lesser_end_first",x5),("neighbours",x6),("far_end",x7),("open_ways",x8),("rank_paper",x9),("is_ranked",x10),("is_rank",x11),("is_way_ranked",x12),("ring_of",x13),("ties_between",x14),("best_offer",x15),("quiet_round",x16),("newer",x17),("read_deed",x18),("_law_cell_at",x19),("_law_row",x20),("_law_take",x21),("_law_net",x22),("_law_ups",x23),("_law_turned",x24),("_law_drawn",x25),("_law_ways",x26),("_law_ring_free",x27),("_law_right",x28),("law",x29)]
 ms:=[⟨"Bridge","__init__","Bridge.__init__",z0⟩,⟨"Bridge","label","Bridge.label",z1⟩,⟨"Bridge","stamp","Bridge.stamp",z2⟩,⟨"Bridge","held","Bridge.held",z3⟩,⟨"Bridge","up","Bridge.up",z4⟩,⟨"Bridge","down","Bridge.down",z5⟩,⟨"Bridge","hear","Bridge.hear",z6⟩,⟨"Bridge","tick","Bridge.tick",z7⟩,⟨"Bridge","let_grow_older","Bridge.let_grow_older",z8⟩,⟨"Bridge","reckon_label","Bridge.reckon_label",z9⟩,⟨"Bridge","take_label","Bridge.take_label",z10⟩,⟨"Bridge","letter_over","Bridge.letter_over",z11⟩,⟨"Bridge","is_rested_on","Bridge.is_rested_on",z12⟩,⟨"Bridge","is_agreed_to","Bridge.is_agreed_to",z13⟩,⟨"Bridge","end","Bridge.end",z14⟩,⟨"Yard","__init__","Yard.__init__",z15⟩,⟨"Yard","net","Yard.net",z16⟩,⟨"Yard","road","Yard.road",z17⟩,⟨"Yard","down","Yard.down",z18⟩,⟨"Yard","labels","Yard.labels",z19⟩,⟨"Yard","ends","Yard.ends",z20⟩,⟨"Yard","end_at","Yard.end_at",z21⟩,⟨"Yard","has_tie","Yard.has_tie",z22⟩,⟨"Yard","deed","Yard.deed",z23⟩,⟨"Yard","tick_of","Yard.tick_of",z24⟩,⟨"Yard","come","Yard.come",z25⟩,⟨"Yard","take_off","Yard.take_off",z26⟩,⟨"Yard","fall_of_bridge","Yard.fall_of_bridge",z27⟩,⟨"Yard","fall_of_tie","Yard.fall_of_tie",z28⟩,⟨"Yard","back_of_bridge","Yard.back_of_bridge",z29⟩,⟨"Yard","back_of_tie","Yard.back_of_tie",z30⟩,⟨"Yard","set_ties_of","Yard.set_ties_of",z31⟩,⟨"Yard","set_tie","Yard.set_tie",z32⟩]
 cs:=[("MOST_BRIDGES",(.int 10)),("MOST_TIES",(.int 16)),("GREATEST_NUMBER",(.int 999)),("GREATEST_COST",(.int 1000)),("NUMBER",(.int 0)),("STAMP",(.int 1)),("ROOT",(.int 2)),("COST",(.int 3)),("AGE",(.int 4)),("RESTS",(.int 5)),("AGREES",(.int 6)),("DEEDS",(.tup [(.tup [(.str "tick")]),(.tup [(.str "come")]),(.tup [(.str "lost")]),(.tup [(.str "fall"),(.str "bridge")]),(.tup [(.str "fall"),(.str "tie")]),(.tup [(.str "back"),(.str "bridge")]),(.tup [(.str "back"),(.str "tie")])]))]
 cl:=["Bridge","Yard"]
 fl:=["age_let_go","greatest_age","held_by_place","label_now","letters_on_road","life","lives","net_made_of","number","standing","ticks_had","ties_by_place","ties_fallen","version"]
 xs:=[]
abbrev pg:O.Pg:=λf=>(([("is_whole",O.Tl),("is_whole_between",O.Tp),("make_net",O.VZ),("are_bridges",O.Tc),("is_tie",O.Th),("lesser_end_first",O.T9),("neighbours",O.VY),("far_end",O.Te),("open_ways",O.VW),("rank_paper",O.VM),("is_ranked",O.Tg),("is_rank",O.Tf),("is_way_ranked",O.Ti),("ring_of",O.VO),("ties_between",O.VU),("best_offer",O.Td),("quiet_round",O.VJ),("newer",O.VX),("read_deed",O.VN),("_law_cell_at",O.Tr),("_law_row",O.T4),("_law_take",O.T5),("_law_net",O.T0),("_law_ups",O.T7),("_law_turned",O.T6),("_law_drawn",O.Tv),("_law_ways",O.T8),("_law_ring_free",O.T3),("_law_right",O.T1),("law",O.Tq),("Bridge.__init__",O.S8),("Bridge.label",O.TY),("Bridge.stamp",O.TM),("Bridge.held",O.S7),("Bridge.up",O.TB),("Bridge.down",O.S4),("Bridge.hear",O.S6),("Bridge.tick",O.TU),("Bridge.let_grow_older",O.TX),("Bridge.reckon_label",O.TK),("Bridge.take_label",O.TN),("Bridge.letter_over",O.TW),("Bridge.is_rested_on",O.TZ),("Bridge.is_agreed_to",O.S9),("Bridge.end",O.S5),("Yard.__init__",O.Tw),("Yard.net",O.Tk),("Yard.road",O.Tm),("Yard.down",O.TL),("Yard.labels",O.Tj),("Yard.ends",O.TR),("Yard.end_at",O.TQ),("Yard.has_tie",O.Tx),("Yard.deed",O.TH),("Yard.tick_of",O.Ta),("Yard.come",O.TF),("Yard.take_off",O.Tu),("Yard.fall_of_bridge",O.TV),("Yard.fall_of_tie",O.Tz),("Yard.back_of_bridge",O.TC),("Yard.back_of_tie",O.TD),("Yard.set_ties_of",O.To),("Yard.set_tie",O.Tn)]:List<|String×O.Fn).lookup f)
instance:O.Al pg:=by constructor<;>rfl
variable {α:Type} {p:List α->Prop}
def ar1(h:∀a0,p [a0])(us:List α)(e:us.length=1):p us:=match us,e with|[a0],_=>h a0
def ar2(h:∀a0 a1,p [a0,a1])(us:List α)(e:us.length=2):p us:=match us,e with|[a0,a1],_=>h a0 a1
def ar3(h:∀a0 a1 a2,p [a0,a1,a2])(us:List α)(e:us.length=3):p us:=match us,e with|[a0,a1,a2],_=>h a0 a1 a2
def ar4(h:∀a0 a1 a2 a3,p [a0,a1,a2,a3])(us:List α)(e:us.length=4):p us:=match us,e with|[a0,a1,a2,a3],_=>h a0 a1 a2 a3
def ar5(h:∀a0 a1 a2 a3 a4,p [a0,a1,a2,a3,a4])(us:List α)(e:us.length=5):p us:=match us,e with|[a0,a1,a2,a3,a4],_=>h a0 a1 a2 a3 a4
variable {P:String->Ds->Prop}
def mc{f:String}{x:Ds}{l:List (String×Ds)}(h:P f x)(k:∀g y,(g,y)∈l->P g y):∀g y,(g,y)∈(f,x)::l->P g y:=λg y m=>by
 rcases Ç.mp m with e|m
 .cases e;exact h
 .exact k g y m
def mn:∀g y,(g,y)∈([]:List<|String×Ds)->P g y:=λ_ _ m=>nomatch m
def FT:∀f x,(f,x)∈tb.fs.drop 24->x.Ok tb:=by
 iterate 6 refine mc ⟨by kernel_rfl,by kernel_rfl⟩ ?_
 exact mn
def F5:∀f x,(f,x)∈tb.fs.drop 12->x.Ok tb:=by
 iterate 12 refine mc ⟨by kernel_rfl,by kernel_rfl⟩ ?_
 exact FT
def tab_ok:∀f x,(f,x)∈tb.fs->x.Ok tb:=by
 iterate 12 refine mc ⟨by kernel_rfl,by kernel_rfl⟩ ?_
 exact F5
def tab_pg:∀f x,(f,x)∈tb.fs->pg f=d9 x.d:=by repeat first|exact mn|refine mc rfl ?_
def tab_bd:∀f x,(f,x)∈tb.fs->Hd.Bd (gh f) (gh f) x:=by repeat first|exact mn|refine mc (λ_ _ _ _ _ _=>(by first|exact ar1 λ_=>rfl|exact ar2 λ_ _=>rfl|exact ar3 λ_ _ _=>rfl|exact ar4 λ_ _ _ _=>rfl|exact ar5 λ_ _ _ _ _=>rfl)) ?_
def md{P:α->Prop}{x:α}{l:List α}(h:P x)(k:∀y,y∈l->P y):∀y,y∈x::l->P y:=λy m=>by
 rcases Ç.mp m with e|m
 .cases e;exact h
 .exact k y m
def me{P:α->Prop}:∀y,y∈([]:List α)->P y:=λ_ m=>nomatch m
def Hc:∀y,y∈tb.ms.drop 24->y.x.Ok tb:=by
 iterate 9 refine md ⟨by kernel_rfl,by kernel_rfl⟩ ?_
 exact me
def Gv:∀y,y∈tb.ms.drop 12->y.x.Ok tb:=by
 iterate 12 refine md ⟨by kernel_rfl,by kernel_rfl⟩ ?_
 exact Hc
def tab_om:∀y,y∈tb.ms->y.x.Ok tb:=by
 iterate 12 refine md ⟨by kernel_rfl,by kernel_rfl⟩ ?_
 exact Gv
def tab_pm:∀y,y∈tb.ms->pg (y.C ++ "." ++ y.m)=d9 y.x.d:=by repeat first|exact me|refine md rfl ?_
def tab_bm:∀y,y∈tb.ms->Hd.Bd (gh y.m) (gh y.qual) y.x:=by repeat first|exact me|refine md (λ_ _ _ _ _ _=>(by first|exact ar1 λ_=>rfl|exact ar2 λ_ _=>rfl|exact ar3 λ_ _ _=>rfl|exact ar4 λ_ _ _ _=>rfl|exact ar5 λ_ _ _ _ _=>rfl)) ?_
def law_in:("law",x29)∈tb.fs:=è (i:=29) rfl
noncomputable abbrev pr:Program:=PySem.Challenge.rw_shutways_k32_whole_no_ring_at_any_moment.row.prog
noncomputable abbrev vw:Program:=PySem.W.view pr [0,2,3,4,6,7,9,10,11,12,13,14,15,16,17,18,20,21,22,23,24,25,26,28,30,32,33,34,35,36,37,38,39,41,43,44,45,47,48,49,50,51,52,53,54,55,56,57,58]
noncomputable abbrev xt(s:Shared):Bool:=xlAt vw [] s&&recOk (RowW.records PySem.Challenge.rw_shutways_k32_whole_no_ring_at_any_moment.row.toRowW) s
def said:PySem.Challenge.rw_shutways_k32_whole_no_ring_at_any_moment.wellSaid=eh:=by rw[Fast.te9446332074065402090];kernel_rfl
def l1:∀w os,(Hd.runY pr 12000 w os).map (Hd.stY pr w)=d9 eh:=λw os=>by kernel_rfl
def l2:∀w os,(Hd.runY pr 12000 w os).map (λs=>Hd.seenY vw [] (Hd.modsY pr.main.body) xt eh s.abs)=d9 (openGood vw []):=λw os=>by kernel_rfl
def l3:∀w os,(Hd.runY pr 12000 w os).map (λs=>(Hd.hook tb).obs s.abs)=d9 ((Hd.hook tb).val w):=λw os=>by kernel_rfl
def left:LeftO pr vw [] xt (Hd.hook tb).obs (Hd.hook tb).val 12000:=Hd.left_of (by kernel_rfl) rfl (λs=>by kernel_rfl) l1 l2 l3
end My
open PySem PySem.W PyProof.Rows
theorem PySem.Challenge.cw_shutways_k32_whole_no_ring_at_any_moment_holds : PySem.Challenge.rw_shutways_k32_whole_no_ring_at_any_moment.Holds := by
 refine holds_law My.said λsaid=>?_;refine holds_open (q:=My.vw) (loose:=[]) (Xt:=My.xt) (XP:=XL My.vw []) (YP:=(Hd.hook My.tb).says) My.left (Hook.of _) (Hook.keeps _) (λs e=>xl_of s (cJ.mp e).1) XL.keeps (by rfl) (by rfl) (by rfl) (λs e=>recFacts_of (cJ.mp e).2) (by rfl) said (by decide +kernel) ⟨rfl,rfl,rfl,rfl,rfl,by decide +kernel⟩ ?hw ?hc
 case hw=>w_on;w_witness2
 case hc=>exact Hd.law_walk (k:=7) rfl rfl rfl ⟨rfl,by decide,by decide⟩ My.law_in rfl rfl My.tab_pg My.tab_pm My.tab_ok My.tab_om My.tab_bd My.tab_bm λns hl=>O.law_ok (n:=0) hl λ_=>rfl
