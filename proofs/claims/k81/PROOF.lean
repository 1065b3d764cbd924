import PyProof.Rows.All
import Wide.All
import OpenK.AllK
import Wide.FinOn
import PyProof.EqAt
import PyProof.EqKinds
import PyProof.TupleCall
import Lean
import PySem.Challenge.RW_shutways_k81_yards_at_a_moment
set_option Elab.async false
set_option bootstrap.genMatcherCode false
set_option compiler.extract_closed false
set_option genSizeOf false
local macro_rules|`(command|def $x:declId $b:bracketedBinder*:$t $v:declVal)=>`(command|theorem $x:declId $b:bracketedBinder*:$t $v:declVal)
local macro_rules|`(command|abbrev $x:declId $s:optDeclSig $v:declVal)=>`(command|noncomputable def $x:declId $s:optDeclSig $v:declVal)
set_option linter.all false
set_option maxRecDepth 100000
open PySem.Str renaming ofString->gh
open PySem.W (Frag)
open Decidable renaming decide->gg
open Option renaming some->d7, none->d8
open Bool renaming true->d9, false->ee
open Array renaming length_toList->ē, getElem?_eq_some_iff->ż, getElem?_toList->Ρ, toList->bA, append_assoc->cM, toList_inj->dY
open Bool renaming false_ne_true->ø, false_eq_true->Ē, not_eq_true'->Ğ, and_eq_true_iff->ό, and_true->ϟ, eq_false_iff->ϰ, not_not->ϲ, false_and->aJ, false_xor->aK, and_false->aL, or_false->be, true_xor->bj
open Char renaming toNat->Ŗ
open False renaming elim->ù
open ForInStep renaming yield->ĵ
open Function renaming comp_apply->bD
open Int renaming toNat_natCast->ã, emod_lt_of_pos->π, emod_nonneg->Χ, le_trans->Ϸ, natCast_nonneg->d6
open List renaming length_map->À, mem_cons->Æ, length_cons->Ç, mem_append_right->É, getElem?_eq_getElem->Ê, size_toArray->Ë, map_cons->Î, getElem?_eq_some_iff->Ï, map_append->Ó, getElem?_map->Õ, replicate->Ø, mem_append_left->Ù, mem_cons_of_mem->Û, length_append->Ü, mem_singleton->Ý, not_mem_nil->Þ, mem_append->â, mem_of_getElem?->ä, mem_map->å, nodup_append->é, mem_cons_self->î, lookup_cons->ï, append_nil->ð, length_replicate->ñ, all_eq_true->ó, take_length->ô, map_map->ú, mem_map_of_mem->û, getElem?_append_left->þ, length_take->ÿ, contains_iff_mem->Ă, getElem?_append_right->ă, getD_eq_getElem?_getD->Ą, filter_cons->ą, nodup_cons->ĉ, replicate_succ->Č, append_assoc->Ď, filterMap_cons->Ĕ, length_nil->ė, find?_cons->Ę, map_inj_left->ğ, map_congr_left->Ġ, mem_filter->ġ, any_cons->Ĩ, getElem?_set_ne->ĩ, nodup_nil->Ī, length_pos_iff->Į, take_of_length_le->į, getElem_mem->İ, length_singleton->Ķ, foldl_cons->ļ, flatten_cons->ľ, mergeSort_perm->Ń, getElem?_replicate->Ņ, zip_cons_cons->ň, drop_eq_nil_of_le->ŉ, length_filter_le->Ŏ, take_add_one->ő, length_drop->Ř, mem_flatMap->ř, length_eq_zero_iff->Ţ, mem_range->ť, length_range->ŧ, flatMap_cons->Ũ, getElem?_eq_none->Ŭ, map_take->ů, lookup->Ű, eq_nil_of_length_eq_zero->ű, length_set->Ŵ, map_nil->Ź, mem_filterMap->ſ, zip_nil_right->η, filterMap_map->θ, drop_eq_getElem_cons->υ, zip_nil_left->ψ, reverse_cons->ω, getElem?_set_self'->Ζ, getElem?_set_self->Ι, filterMap_eq_map'->Λ, length_mergeSort->Υ, mapM_cons->ύ, length_take_le'->ώ, map_id->Ϗ, filter_sublist->Ϝ, take_succ_cons->ϝ, map_drop->Ϟ, set_cons_succ->Ϣ, set_cons_zero->ϣ, length_filter_eq_length_iff->ϳ, zipWith->ϴ, getElem_inj->Ϻ, cons_append->ac, of_mem_zip->aw, getElem?_eq_none_iff->aP, length_filterMap_le->bf, length_erase_of_mem->bq, pairwise_mergeSort->bB, length_eraseIdx_le->bE, dropLast_eq_take->bZ, mem_iff_getElem?->b9, getElem?_zipWith->cf, take_append_drop->cg, set_append_left->cD, filter_eq_self->cT, flatMap_append->cV, foldl->dk, getElem_range->du, append_of_mem->dy, filter_append->dz, getElem?_take->dA
open List.Sublist renaming refl->ś
open Nat renaming le_refl->Í, lt_of_le_of_lt->Ñ, le_trans->ß, ne_of_lt->ç, lt_of_lt_of_le->è, lt_succ_self->Ā, lt_succ_of_lt->Ĉ, lt_irrefl->ĝ, zero_le->Ň, ne_of_gt->Ŋ, succ_le_succ->Ś, min_eq_left->Š, le_of_lt->Ū, le_succ->Ų, lt_trans->ž, zero_add->ϵ, min_le_right->af, mul_le_mul_left->dq
open Option renaming map_eq_some_iff->Ð, bind_eq_some_iff->á, bind_some->ò, isSome_iff_exists->õ, map_some->Ĺ, isSome_map->ϡ, not_isSome_iff_eq_none->ϸ, isNone_iff_eq_none->aF, toList_none->cE, getD_none->di
open Option.some renaming inj->í, injEq->ı
open Prod.mk renaming injEq->ο
open PyProof.Rows renaming IntsAre->Ė, seqObj->Ů, kindOf->ι, AllBare->Θ, step_dedup->ϖ, IsTup->ϙ, envOfC->Ϧ, Constant_none->cN, subscriptTail->cQ, subscriptTail_builtinR->dQ
open PySem renaming Value->Â, wpAny_bind->Ã, Shared->Å, Addr->È, starEach->Ì, wpAny_pure->Ò, sizeLine->Ú, model->à, Program->ê, compareOp->ë, Heap->ü, World->ý, mainGlobals->ć, backTo->Ċ, wpAny_mono->ċ, Around->č, wpAny_truthy_bool->ď, wpAny_newObj_type->Đ, argBest->đ, foldedSetIterable->ĕ, wpAny_loadPart'->ę, cLine->Ě, assignEach->ě, wpAny_callSpecial?_slot->Ĝ, Stmt->Ģ, attributeBase->ģ, wpAny_field->ħ, wpAny_call_entry->ī, keywordEach->ĭ, behindInMarks->ķ, FuncData->ĺ, wpAny_Call_Name_kw->Ļ, holding->Ł, binaryOp->ł, sysModules->ŏ, wpAny_pyIter_tuple->Ő, wpAny_execs_nil->Œ, wpAny_passesOwn->œ, swapsWith->Ŕ, wpAny_holding->ŕ, PyData->ŗ, backToKw->Ŝ, wpAny_seqItems->ŝ, bootBuiltins->Ş, tupleKind_room_in1->ū, Scope->ų, assign->ŵ, getMethod->Ŷ, standAt->Ÿ, plainId_quiet->ź, sliceBounds->Ż, codeAny_builtin->ν, codeAny_mono->χ, PassesOwn->Α, wpAny_tryCatch->Γ, wpAny_pyIter_list->Κ, swapsWithSole->Ν, swappedStores->Ξ, pyNext->Ο, Operator->Ψ, NameKind->Ω, seqItems?->ϊ, getItem->ϒ, IsPart->ϓ, valueAt->ϔ, call_meetsIn->ϕ, letOwnedTupleGo->Ϛ, sizeLine_eq->Ϥ, callWith->ϥ, wpAny_setField->Ϩ, firstArgMember->ϩ, wpAny_of_eq->Ϫ, tupleKind->ϭ, callerA->Ϯ, intBits_le_64->aa, setItem->aB, seqIndex_neg->aC, Keyword->aD, wpAny_loadPart_at->aE, wpAny_execs_cons->aQ, rawInt->aR, lastMarks->aS, noFill_tuple_add->aT, noteFrame->aU, seqIndex_of->bc, wpAny_letGo->bo, wpAny_updateSeq->bC, relabel->bL, isTrue->bQ, CmpOp->bR, wpAny_call->bS, call_meets->bU, wpAny_rule->bV, evalEach->bW, atKey->bX, argsOk->bY, methodCallForm->cb, wpAny_standAt->cO, seq_tuple_add->cP, wpAny_comprehension_free->cR, wpAny_attempt->cS, wpAny_newList->cU, Model->df, bindC->dh, field->dm, release->dL, Result->dM, richCompare_meets_room->dN, concat_meets->dO, wpAny_typeOf->dP, wpAny_getItem_list_neg->dR, typeOf->dU
open PySem.Around renaming under_plainId->ŭ, under->bb
open PySem.Builtin renaming iter->Ť
open PySem.Builtin.Str renaming strSliceIndices->ξ
open PySem.Code renaming isFrame->bK
open PySem.FuncData.mk renaming injEq->bp
open PySem.Heap renaming get?_push_of_some->Ä, lt_size->Ô, get?_push_size->Ö, get?_update_other->ā, size_push->ń, get?_update_self->ō, SameBut->Ŧ, LeftW->Ϡ
open PySem.Heap.SameBut renaming update->Ε
open PySem.NameKind renaming free->Ĥ, cell->dW
open PySem.Obj renaming data_mapFields->μ, mapSeq->ϧ, isFreed_of_fields->cC
open PySem.PyData renaming eqv->ĥ, depthAll->ĸ, canLayAll0->ŋ, canLay0->ţ, eqvAll->ς
open PySem.Value renaming builtin->ϛ, notImplemented->bT
open PySem.Value.type renaming inj->ϯ
open PySem.W renaming boot_heap->ş, Frag->Ž, findIn->ϫ, boot_drawn->ah, SharedT->aG, boot_toks->aV, mg_of->ce, looks_findIn->dX, nsIn->dZ, kitOne->d0
open String renaming ofList->ρ, singleton->ϱ, length_toList->bM, toList_ofList->bN, length_append->bO
open UInt32.toNat renaming inj->bg
def bAq(a b:Bool):((a&&b)=d9)=(a=d9/\b=d9):=Bool.and_eq_true a b
abbrev fZ:=@if_pos
abbrev f8:=@if_neg
abbrev f9:=@decide_eq_false
abbrev gb:=@decide_eq_true
abbrev gc:=@decide_eq_true_eq
@[reducible] noncomputable def gf:=@absurd
namespace L2
open PySem PySem.Spec PyProof.Rows
noncomputable abbrev Key:=Sum Int Str
abbrev Ki:Key->Â->Bool
 |.inl k,v=>Value.isInt k v
 |.inr x,v=>Value.isStrOf x v
abbrev Sc(w:ý):Key->Int
 |.inl k=>hashInt k
 |.inr x=>hashStr w x
def Zp:∀{k:Key}{v:Â},Ki k v=d9->(∃i t,k=Sum.inl i/\v=Value.int i t)\/(∃x t,k=Sum.inr x/\v=Value.str x t)
 |.inl i,v,h=>by obtain⟨t,e⟩:=Value.isInt_shape (k:=i) (v:=v) h;exact .inl ⟨i,t,rfl,e⟩
 |.inr x,v,h=>by obtain⟨t,e⟩:=Value.isStrOf_shape (x:=x) (v:=v) h;exact .inr ⟨x,t,rfl,e⟩
def AN(i:Int)(t:Tok):Ki (.inl i) (.int i t)=d9:=by simp[Ki,Value.isInt]
def AY(x:Str)(t:Tok):Ki (.inr x) (.str x t)=d9:=by simp[Ki,Value.isStrOf]
def L3(a b:Int):gg ((Sum.inl a:Key)=Sum.inl b)=(a==b):=by
 by_cases e:a=b
 .subst e;simp
 .have h:¬ (Sum.inl a:Key)=Sum.inl b:=λq=>e<|Sum.inl.inj q;rw[f9 h];exact(beq_eq_false_iff_ne.mpr e).symm
def LD(a b:Str):gg ((Sum.inr a:Key)=Sum.inr b)=gg (a=b):=by
 by_cases e:a=b
 .subst e;simp
 .have h:¬ (Sum.inr a:Key)=Sum.inr b:=λq=>e<|Sum.inr.inj q;rw[f9 h,f9 e]
def PM(a:Int)(b:Str):gg ((Sum.inl a:Key)=Sum.inr b)=ee:=f9 (λq=>nomatch q)
def Lq(a:Str)(b:Int):gg ((Sum.inr a:Key)=Sum.inl b)=ee:=f9 (λq=>nomatch q)
abbrev Zg(prog:ê)(w:ý):PySem.KeyKind prog w Key where
 is:=Ki
 hash:=Sc w
 inj:=λv a b ha hb=>by
  rcases Zp ha with⟨i,t,rfl,rfl⟩|⟨x,t,rfl,rfl⟩
  .rcases Zp hb with⟨j,u,rfl,e⟩|⟨y,u,rfl,e⟩
   .injection e with e1 _;rw[e1]
   .exact nomatch e
  .rcases Zp hb with⟨j,u,rfl,e⟩|⟨y,u,rfl,e⟩
   .exact nomatch e
   .injection e with e1 _;rw[e1]
 byValue:=λk v h=>by rcases Zp h with⟨i,t,rfl,rfl⟩|⟨x,t,rfl,rfl⟩<;>rfl
 pyHash:=λhv h=>by
  rcases Zp hv with⟨i,t,rfl,rfl⟩|⟨x,t,rfl,rfl⟩
  .exact wpAny_pyHash_int h
  .exact wpAny_pyHash_str h
 eqBool:=λhu hv h=>by
  rcases Zp hu with⟨i,t,rfl,rfl⟩|⟨x,t,rfl,rfl⟩
  .rcases Zp hv with⟨j,u,rfl,rfl⟩|⟨y,u,rfl,rfl⟩
   .rw[L3]at h;exact wpAny_eqBool_int h
   .rw[PM]at h;exact SeqAt.EqAt.int_str i t y u _ _ _ _ h
  .rcases Zp hv with⟨j,u,rfl,rfl⟩|⟨y,u,rfl,rfl⟩
   .rw[Lq]at h;exact SeqAt.EqAt.str_int x t j u _ _ _ _ h
   .rw[LD]at h;exact wpAny_eqBool_str h
 «strs»:=λk x t v h=>by
  rcases Zp h with⟨i,u,rfl,e⟩|⟨y,u,rfl,e⟩
  .exact nomatch e
  .injection e with e1 _;subst e1;cases v<;>rfl
def N0(prog:ê)(w:ý)(i:Int)(t:Tok):(Zg prog w).is (.inl i) (.int i t)=d9:=AN i t
def Ng(prog:ê)(w:ý)(x:Str)(t:Tok):(Zg prog w).is (.inr x) (.str x t)=d9:=AY x t
inductive V where
 |non|bl (b:Bool)|int (i:Int)|str (x:Str)|byt (b:Array UInt8)|flt (b:UInt64)|ref (a:È)|ty (n:String)
 deriving DecidableEq
abbrev RelV:V->Â->Prop
 |.non,u=>u=Value.none
 |.bl b,u=>u=Value.bool b
 |.int i,u=>∃t,u=Value.int i t
 |.str x,u=>∃t,u=Value.str x t
 |.byt b,u=>∃t,u=Value.bytes b t
 |.flt b,u=>∃t,u=Value.float b t
 |.ref a,u=>u=Value.ref a
 |.ty n,u=>u=Value.type n
@[reducible] noncomputable def fR:List V->List Â->Prop:=Paired RelV
def fR.length{xs:List V}{us:List Â}(r:fR xs us):xs.length=us.length:=Paired.length r
def fR.get:∀{xs:List V}{us:List Â}{i:Nat}{x:V},fR xs us->xs[i]?=d7 x->∃u,us[i]?=d7 u/\RelV x u
 |_,_,_,_,.nil,e=>by simp at e
 |_,_,0,_,.cons r _,e=>by simp at e;subst e;exact⟨_,rfl,r⟩
 |_,_,i+1,x,.cons _ t,e=>by obtain⟨u,h1,h2⟩:=fR.get (i:=i) (x:=x) t (by simpa using e);exact⟨u,by simpa using h1,h2⟩
def fR.set{x:V}{u:Â}(r:RelV x u):∀{xs:List V}{us:List Â}(i:Nat),fR xs us->fR (xs.set i x) (us.set i u)
 |_,_,_,.nil=>.nil
 |_,_,0,.cons _ t=>.cons r t
 |_,_,i+1,.cons q t=>.cons q<|fR.set r i t
def fR.append:∀{xs ys:List V}{us ws:List Â},fR xs us->fR ys ws->fR (xs++ys) (us++ws)
 |_,_,_,_,.nil,s=>s
 |_,_,_,_,.cons r t,s=>.cons r<|fR.append t s
def fR.take:∀{xs:List V}{us:List Â}(n:Nat),fR xs us->fR (xs.take n) (us.take n)
 |_,_,0,_=>.nil
 |_,_,_+1,.nil=>.nil
 |_,_,n+1,.cons r t=>.cons r<|fR.take n t
def fR.drop:∀{xs:List V}{us:List Â}(n:Nat),fR xs us->fR (xs.drop n) (us.drop n)
 |_,_,0,r=>r
 |_,_,_+1,.nil=>.nil
 |_,_,n+1,.cons _ t=>fR.drop n t
def fR.none_of:∀{xs:List V}{us:List Â}{i:Nat},fR xs us->xs[i]?=d8->us[i]?=d8:=λ{xs us i} r e=>by have h1:=r.length;have h2:xs.length<=i:=aP.mp e;exact aP.mpr (by lia)
abbrev fg:Option V->Option Â->Prop
 |some v,d7 u=>RelV v u
 |none,d8=>True
 |_,_=>False
abbrev KV{κ:Type}:List (κ×V)->List (κ×Â)->Prop:=Paired λ(p:κ×V) (q:κ×Â)=>p.1=q.1/\RelV p.2 q.2
abbrev kV:Key->V
 |.inl i=>.int i
 |.inr x=>.str x
inductive HO where
 |lst (xs:List V)
 |tup (xs:List V)
 |dK (kvs:List<|Key×V)|dT (kvs:List<|List Key×V)
 |set (S:Int->Bool) (n:Nat)
 |ins (C dx:È) (fs:List<|Str×V)
 |own (x:È)
 |xd (fs:List<|Str×V)
 |met (f x:È)
 |rng (lo hi:Int)
 |frz (o:Obj) (u:HO)
 |tbl (ps:Array Â)
 |ext (φ:ü->Prop)
noncomputable abbrev Hp:=È->Option HO
abbrev upd(H:Hp)(a:È)(o:HO):Hp:=λb=>if b=a then d7 o else H b
variable {H:Hp} {a:È} {o:HO}
def ej:upd H a o a=d7 o:=by unfold upd;rw[fZ rfl]
variable {b:È}
def ei(h:b≠a):upd H a o b=H b:=by unfold upd;rw[f8 h]
variable {u:HO}
def eB:upd (upd H a o) a u=upd H a u:=by funext b;unfold upd;split<;>rfl
def Dq(h:H a=d7 o)(h':H b=d7 u)(d:o≠u):a≠b:=by intro e;subst e;rw[h]at h';exact d (í h')
def Zh(h:H a=d7 o)(h':H b=d8):a≠b:=by intro e;subst e;rw[h]at h';cases h'
section
variable (P:ê) (w:ý)
abbrev eN(H:Hp)(h:ü)(a:È):HO->Prop
 |.lst xs=>xs.length<=Ú/\∃(ì:List Â) (n:Nat),fR xs ì/\h.get? a=d7 {cls:=.type "list",data:=.seq ì.toArray n}
 |.tup xs=>xs.length<=Ú/\∃ì:List Â,fR xs ì/\ϙ h a ì.toArray
 |.dK kvs=>kvs.length<=Ú/\(a==ŏ)=ee/\∃vs,KV kvs vs/\h.DictOf (Zg P w) a vs
 |.dT kvs=>kvs.length<=Ú/\(a==ŏ)=ee/\∃xs:List<|List Key×È×Â,
   Paired (λ(p:List Key×V) (q:List Key×È×Â)=>p.1=q.1/\H q.2.1=d7 (.tup<|p.1.map kV)/\RelV p.2 q.2.2) kvs xs/\
   ∃o es ep,h.get? a=d7 o/\o.ExactDict/\o.data=.dict es ep/\es.toList=xs.map (entryOfKey<|ϭ<|Zg P w)/\(xs.map (·.1)).Nodup
 |.set S n=>h.SetOf (intKind P w) a S n
 |.ins C dx fs=>H dx=d7 (.own a)/\fs.length<=1000/\dx≠a/\h.get? a=d7 (PySem.W.instObj C dx)/\
   ∃mA,h.Ns1 dx mA/\(∀f,fg (fs.lookup f)<|mA f)/\PySem.Within mA (fs.map (·.1))
 |.own _=>∃o,h.get? a=d7 o
 |.xd fs=>∃mA,h.Ns1 a mA/\∀f,fg (fs.lookup f) (mA f)
 |.rng lo hi=>∃t u v,h.get? a=d7 {cls:=.type "range",data:=.fields #[.int lo t,.int hi u,.int 1 v]}
 |.frz o u=>h.get? a=d7 o/\eN H h a u
 |.tbl ps=>h.get? a=d7 {cls:=.none,data:=.fields ps}
 |.met f x=>h.get? a=d7 (PySem.W.methodObj (.ref f)<|.ref x)
 |.ext φ=>φ h/\(∃o,h.get? a=d7 o)/\∀h1 h2:ü,φ h1->(∀o,h1.get? a=d7 o->h2.get? a=d7 o)->φ h2
abbrev HOk(H:Hp)(h:ü):Prop:=∀a o,H a=d7 o->eN P w H h a o
end
section
variable {P:ê}{w:ý}{H H':Hp}{h h':ü}{a:È}{o:HO}
def eN.lt(x:eN P w H h a o):a<h.objs.size:=by
 cases o with
 |lst xs=>obtain⟨_,_,_,_,e⟩:=x;exact Ô e
 |tup xs=>obtain⟨_,_,_,p⟩:=x;exact p.lt
 |dK kvs=>obtain⟨_,_,_,_,o,_,_,e,_⟩:=x;exact Ô e
 |dT kvs=>obtain⟨_,_,_,_,o,_,_,e,_⟩:=x;exact Ô e
 |set S n=>obtain⟨o,_,_,_,e,_⟩:=x;exact Ô e
 |ins C dx fs=>obtain⟨_,_,_,e,_⟩:=x;exact Ô e
 |own y=>obtain⟨_,e⟩:=x;exact Ô e
 |xd fs=>obtain⟨_,⟨_,_,_,e,_⟩,_⟩:=x;exact Ô e
 |rng lo hi=>obtain⟨_,_,_,e⟩:=x;exact Ô e
 |frz ob u=>obtain⟨e,_⟩:=x;exact Ô e
 |tbl ps=>exact Ô (show h.get? a=d7 _ from x)
 |met f y=>exact Ô (show h.get? a=d7 _ from x)
 |ext φ=>obtain⟨_,⟨_,e⟩,_⟩:=x;exact Ô e
def Paired.mapP{α β:Type}{F G:α->β->Prop}:∀{l₁:List α}{l₂:List β},Paired F l₁ l₂->(∀a b,F a b->G a b)->Paired G l₁ l₂
 |_,_,.nil,_=>.nil
 |_,_,.cons r t,f=>.cons (f _ _ r)<|Paired.mapP t f
def eN.stay(x:eN P w H h a o)(k:∀b u,(b=a\/H b=d7 (.own a))->h.get? b=d7 u->h'.get? b=d7 u)
  (ho:∀b,H b=d7 (.own a)->H' b=d7 (.own a)) (ht:∀b xs,H b=d7 (.tup xs)->H' b=d7 (.tup xs)):eN P w H' h' a o:=by
 induction o with
 |lst xs=>obtain⟨z,ì,n,r,e⟩:=x;exact⟨z,ì,n,r,k _ _ (.inl rfl) e⟩
 |tup xs=>obtain⟨z,ì,r,ob,e,c⟩:=x;exact⟨z,ì,r,ob,k _ _ (.inl rfl) e,c⟩
 |dK kvs=>obtain⟨z,y,vs,r,ob,es,ep,e,c⟩:=x;exact⟨z,y,vs,r,ob,es,ep,k _ _ (.inl rfl) e,c⟩
 |dT kvs =>obtain⟨z,y,xs,r,ob,es,ep,e,c⟩:=x;exact⟨z,y,xs,Paired.mapP r λp q z=>⟨z.1,ht _ _ z.2.1,z.2.2⟩,ob,es,ep,k _ _ (.inl rfl) e,c⟩
 |set S n=>obtain⟨ob,es,ep,t,e,c⟩:=x;exact⟨ob,es,ep,t,k _ _ (.inl rfl) e,c⟩
 |ins C dx fs =>obtain⟨d,z,ne,e,mA,⟨od,es,ep,e2,c⟩,r⟩:=x;exact⟨ho _ d,z,ne,k _ _ (.inl rfl) e,mA,⟨od,es,ep,k _ _ (.inr d) e2,c⟩,r⟩
 |own y=>obtain⟨ob,e⟩:=x;exact⟨ob,k _ _ (.inl rfl) e⟩
 |xd fs=>obtain⟨mA,⟨od,es,ep,e,c⟩,r⟩:=x;exact⟨mA,⟨od,es,ep,k _ _ (.inl rfl) e,c⟩,r⟩
 |rng lo hi=>obtain⟨t,u,v,e⟩:=x;exact⟨t,u,v,k _ _ (.inl rfl) e⟩
 |frz ob u ih=>obtain⟨e,q⟩:=x;exact⟨k _ _ (.inl rfl) e,ih q⟩
 |tbl ps =>have e:h.get? a=d7 {cls:=.none,data:=.fields ps}:=x;show h'.get? a=d7 {cls:=.none,data:=.fields ps};exact k a _ (.inl rfl) e
 |met f y =>have e:h.get? a=d7 (PySem.W.methodObj (.ref f)<|.ref y):=x;show h'.get? a=d7 (PySem.W.methodObj (.ref f)<|.ref y);exact k a _ (.inl rfl) e
 |ext φ=>obtain⟨p,⟨o,e⟩,st⟩:=x;exact⟨st _ _ p λo q=>k _ _ (.inl rfl) q,⟨o,k _ _ (.inl rfl) e⟩,st⟩
def HOk.lt(x:HOk P w H h)(e:H a=d7 o):a<h.objs.size:=(x a o e).lt
def HOk.fresh(x:HOk P w H h)(e:h.objs.size<=a):H a=d8:=by
 cases q:H a with
 |none=>rfl
 |some u=>exact gf (è (x.lt q) e)<|ĝ _
def HOk.kept(x:HOk P w H h)(k:∀b u,h.get? b=d7 u->h'.get? b=d7 u):HOk P w H h':=λa o e =>
 (x a o e).stay (λb u _ q=>k b u q) (λ_ q=>q) λ_ _ q=>q
def HOk.laid(x:HOk P w H h)(k:∀b u,h.get? b=d7 u->h'.get? b=d7 u)(hp:h.objs.size<=a)(new:eN P w (upd H a o) h' a o):HOk P w (upd H a o) h':=λb u e=>by
 have hn:=x.fresh hp;by_cases hb:b=a
 .subst hb;rw[ej]at e;cases e;exact new
 .rw[ei hb]at e;exact(x b u e).stay (λc v _ q=>k c v q) (λc q=>by rw[ei<|Zh q hn];exact q) λc xs q=>by rw[ei<|Zh q hn];exact q
end
abbrev Rd(H:Hp)(a:È)(u:HO):Prop:=H a=d7 u\/∃o,H a=d7 (.frz o u)
def Rd.of(h:H a=d7 u):Rd H a u:=.inl h
variable {h:ü}
def Rd.ok{P:ê}{w:ý}(r:Rd H a u)(x:HOk P w H h):eN P w H h a u:=by
 rcases r with r|⟨o,r⟩
 .exact x a u r
 .obtain⟨_,q⟩:=x a _ r;exact q
abbrev Mut:Option HO->Prop
 |some (.lst _)=>True
 |some (.dK _)=>True
 |some (.dT _)=>True
 |some (.set _ _)=>True
 |some (.ins _ _ _)=>True
 |some (.ext _)=>True
 |_=>False
section
variable {P:ê}{w:ý}{H:Hp}{h h':ü}{x e:È}{o':HO}
def HOk.write(ok:HOk P w H h)(mu:Mut<|H x)(he:e=x\/H e=d7 (.own x))(k:∀b u,b≠e->h.get? b=d7 u->h'.get? b=d7 u)(heo:∃u,h'.get? e=d7 u)
  (new:eN P w (upd H x o') h' x o'):HOk P w (upd H x o') h':=λb u q=>by
 have nown:∀c y,H c=d7 (.own y)->c≠x:=λc y r z=>by subst z;rw[r]at mu;exact mu
 have ntup:∀c xs,H c=d7 (.tup xs)->c≠x:=λc xs r z=>by subst z;rw[r]at mu;exact mu
 by_cases hb:b=x
 .subst hb;rw[ej]at q;cases q;exact new
 .rw[ei hb]at q;by_cases hbe:b=e
  .have q':H b=d7 (.own x):=by
    rcases he with z|z
    .exact gf (hbe.trans z) hb
    .rw[hbe];exact z
   rw[q]at q';cases q';obtain⟨v,hv⟩:=heo;exact⟨v,by rw[hbe];exact hv⟩
  .refine(ok b u q).stay (λc v hc r=>k c v ?_ r) (λc r=>by rw[ei<|nown c b r];exact r) λc xs r=>by rw[ei<|ntup c xs r];exact r
   rcases hc with rfl|hc
   .exact hbe
   .rintro rfl;rcases he with z|z
    .exact nown c b hc z
    .rw[hc]at z;cases z;exact hb rfl
end
structure Un(fs ex:List È)(H H':Hp)(h h':ü):Prop where
 keep:∀b o,h.get? b=d7 o->H b=d8->b∉fs->b∉ex->h'.get? b=d7 o
 slot:∀b o,h.get? b=d7 o->H b=d8->b∈fs->b∉ex->∃sl,h'.get? b=d7 {o with slots:=sl}
 free:∀b o,h.get? b=d7 o->H b=d8->b∉ex->H' b=d8
 there:∀b o,h.get? b=d7 o->b∉ex->∃o',h'.get? b=d7 o'
 tups:∀b xs,H b=d7 (.tup xs)->H' b=d7 (.tup xs)
 frzs:∀b o u,H b=d7 (.frz o u)->H' b=d7 (.frz o u)
 tbls:∀b ps,H b=d7 (.tbl ps)->∃more,H' b=d7 (.tbl<|ps++more)
section
variable {fs dB ex ex':List È}{H H1 H2:Hp}{h h1 h2 h':ü}{a x e:È}{o:HO}
def Un.any(u:Un fs ex H H1 h h1){ob:Obj}(q:h.get? b=d7 ob)(n:H b=d8)(hx:b∉ex):∃sl,h1.get? b=d7 {ob with slots:=sl}:=by
 by_cases hb:b∈fs
 .exact u.slot b ob q n hb hx
 .exact⟨ob.slots,u.keep b ob q n hb hx⟩
def Un.trans(a:Un fs ex H H1 h h1)(b:Un fs ex H1 H2 h1 h2):Un fs ex H H2 h h2 where
 keep:=λc ob q n hc hx=>b.keep c ob (a.keep c ob q n hc hx) (a.free c ob q n hx) hc hx
 slot:=λc ob q n hc hx=>by obtain⟨sl,e1⟩:=a.slot c ob q n hc hx;obtain⟨sl',e2⟩:=b.slot c _ e1 (a.free c ob q n hx) hc hx;exact⟨sl',e2⟩
 free:=λc ob q n hx=>by obtain⟨o',e1⟩:=a.there c ob q hx;exact b.free c o' e1 (a.free c ob q n hx) hx
 there:=λc ob q hx=>by obtain⟨o',e1⟩:=a.there c ob q hx;exact b.there c o' e1 hx
 tups:=λc xs q=>b.tups c xs<|a.tups c xs q
 frzs:=λc ob xs q=>b.frzs c ob xs<|a.frzs c ob xs q
 tbls:=λc ps q=>by obtain⟨m1,e1⟩:=a.tbls c ps q;obtain⟨m2,e2⟩:=b.tbls c _ e1;exact⟨m1++m2,by rw[e2,cM]⟩
def Un.kept(k:∀b u,h.get? b=d7 u->h'.get? b=d7 u):Un fs ex H H h h' :=
 ⟨λb ob q _ _ _=>k b ob q,λb ob q _ _ _=>⟨ob.slots,k b ob q⟩,λ_ _ _ n _=>n,λb ob q _=>⟨ob,k b ob q⟩,λ_ _ q=>q,λ_ _ _ q=>q,λ_ ps q=>⟨#[],by rw[q];simp⟩⟩
def Un.refl:Un fs ex H H h h:=Un.kept λ_ _ q=>q
def Un.laid(k:∀b u,h.get? b=d7 u->h'.get? b=d7 u)(hp:h.objs.size<=a)(hn:H a=d8):Un fs ex H (upd H a o) h h' where
 keep:=λb u q _ _ _=>k b u q
 slot:=λb u q _ _ _=>⟨u.slots,k b u q⟩
 free:=λb u q n _=>by rw[ei<|ç<|è (Ô q) hp];exact n
 there:=λb u q _=>⟨u,k b u q⟩
 tups:=λb xs q=>by rw[ei<|Zh q hn];exact q
 frzs:=λb u xs q=>by rw[ei<|Zh q hn];exact q
 tbls:=λb ps q=>⟨#[],by rw[ei<|Zh q hn,q];simp⟩
def Un.write(mu:Mut<|H x)(he:e=x\/H e=d7 (.own x))(k:∀b u,b≠e->h.get? b=d7 u->h'.get? b=d7 u)(heo:∃u,h'.get? e=d7 u):Un fs ex H (upd H x o) h h':=by
 have hx:∀b,H b=d8->b≠x:=λb n z=>by subst z;rw[n]at mu;exact mu
 have hb:∀b,H b=d8->b≠e:=λb n z=>by
  subst z;rcases he with r|r
  .exact hx b n r
  .rw[n]at r;cases r
 have hm:∀b u,H b=d7 u->¬ Mut (d7 u)->b≠x:=λb u q nm z=>by subst z;rw[q]at mu;exact nm mu
 refine⟨λb u q n _ _=>k b u (hb b n) q,λb u q n _ _=>⟨u.slots,k b u (hb b n) q⟩,λb u q n _=>by rw[ei<|hx b n];exact n,λb u q _=>?_,
   λb xs q=>by rw[ei<|hm b _ q λz=>z];exact q,λb u xs q=>by rw[ei<|hm b _ q λz=>z];exact q,λb ps q=>⟨#[],by rw[ei<|hm b _ q λz=>z,q];simp⟩⟩
 by_cases hbe:b=e
 .subst hbe;exact heo
 .exact⟨u,k b u hbe q⟩
def Un.mono(u:Un fs ex H H1 h h1)(hs:∀b∈fs,b∈dB)(hx:∀b∈ex,b∈ex'):Un dB ex' H H1 h h1 :=
 ⟨λb ob q n hb he=>u.keep b ob q n (λz=>hb<|hs b z) λz=>he<|hx b z,λ_ _ q n _ he=>u.any q n λz=>he<|hx _ z,λb ob q n he=>u.free b ob q n λz=>he<|hx b z,λb ob q he=>u.there b ob q λz=>he<|hx b z,u.tups,u.frzs,u.tbls⟩
end
abbrev trk(h:ü)(H:Hp):List È:=(List.range h.objs.size).filter λa=>(H a).isSome
abbrev Mn(h:ü)(H:Hp):ü:=PySem.W.hideAll h<|trk h H
def AX(h:ü)(H:Hp):(Mn h H).objs.size=h.objs.size:=PySem.W.hideAll_size _ _
def Dv{o:Obj}(e:h.get? b=d7 o)(n:H b=d8):(Mn h H).get? b=d7 o :=
 PySem.W.hideAll_get _ e λhm=>by have q:(H b).isSome=d9:=(ġ.mp hm).2;rw[n]at q;simp at q
def Gx{o:Obj}(e:(Mn h H).get? b=d7 o):h.get? b=d7 o/\H b=d8:=by
 have e':h.get? b=d7 o:=PySem.W.of_hideAll (trk h H) e;refine⟨e',?_⟩;cases q:H b with
 |none=>rfl
 |some x =>have hm:b∈trk h H:=ġ.mpr ⟨ť.mpr<|Ô e',by simp[q]⟩;have z:(Mn h H).get? b=d8:=PySem.W.hideAll_none (trk h H) hm;rw[z]at e;cases e
abbrev FB(g h:ü)(L:È):List<|È×Obj:=(List.range h.objs.size).filterMap λa=>if a=L\/(g.get? a).isSome=d9 then d8 else(h.get? a).map λo=>(a,o)
abbrev rest(g h:ü)(L d:È):List<|È×Obj:=(FB g h L).filter λp=>gg (p.1≠d)
structure Mod(K:Frag)(mg:Str->Option Â)(base:ü):Prop where
 kin:K.In base
 glob:base.Ns ć mg
 blt:∃mb,base.Ns builtinsNs mb/\∀x:Str,x≠"__name__"->mb x=Ş x
 nolimit:base.NoLimit
structure Cx where
 prog:ê
 w:ý
 K:Frag
 mg:Str->Option Â
 base:ü
 A:č
 N:List Str
 s₀:Å
 H₀:Hp
 env:Env
 outer:List Env
 stack:List Env
 ex:List È
 fn:Str->Bool
 calm:Bool
 pn:List<|È×Obj
 xe:Â->Å->Prop
abbrev frs(l:List Env):List È:=l.filterMap (·.frame)
noncomputable abbrev Cx.fs(X:Cx):List È:=frs X.outer
abbrev Vis(sc:ų)(x:Str):Prop:=sc.names.lookup x=d7 .local\/sc.names.lookup x=d7 .cell\/sc.names.lookup x=d7 .free
abbrev Loc(sc:ų)(x:Str):Prop:=sc.names.lookup x=d7 .local\/sc.names.lookup x=d7 .cell
abbrev SI(env:Env)(h:ü)(m:Str->Option Â)(x:Str)(u:Â):Prop :=
 (env.kindOf x=d7 .local/\m x=d7 u)\/((env.kindOf x=d7 .cell\/env.kindOf x=d7 .free)/\∃c,env.cells.lookup x=d7 c/\h.IsCell c (d7 u))
structure Cx.Ok(X:Cx):Prop where
 mod:Mod X.K X.mg X.base
 kind:X.env.scope.kind=.function
 glob:X.env.globals=ć
 blt:X.env.builtins=builtinsNs
 above:X.s₀.heap.objs.size<=X.env.locals
 inj:∀x y c,X.env.cells.lookup x=d7 c->X.env.cells.lookup y=d7 c->x=y
 has:∀x,(X.env.kindOf x=d7 .cell\/X.env.kindOf x=d7 .free)->∃c,X.env.cells.lookup x=d7 c
 cab:∀x c,X.fn x=d9->X.env.cells.lookup x=d7 c->X.s₀.heap.objs.size<=c
 hd:X.calm=d9->X.A.handled=d8
 frames:X.A.frames=d7 X.stack
 stk:X.stack=X.outer\/(X.stack=X.env::X.outer/\X.env.frame=d7 X.env.locals)
 exf:∀b∈X.ex,b≠X.env.locals/\∀x c,X.env.cells.lookup x=d7 c->c≠b
 bs:∀b o,X.base.get? b=d7 o->X.s₀.heap.get? b=d7 o/\X.H₀ b=d8
 bsz:X.base.objs.size<=X.s₀.heap.objs.size
 noex:∀b o,X.base.get? b=d7 o->b∉X.ex
 exfs:∀b∈X.ex,b∉X.fs
 funs:X.s₀.heap.FunFrames X.base X.outer
 frf:∀b∈X.fs,X.H₀ b=d8
structure Inv(X:Cx)(Á:List<|È×Obj)(σ:List<|Option V)(H:Hp)(s:Å):Prop where
 ok:X.Ok
 os:s.os=X.s₀.os
 bare:Θ s.gens
 base:Un X.fs X.ex X.H₀ H X.s₀.heap s.heap
 loc:∃m,s.heap.Ns X.env.locals m/\∀(i:Nat) (x:Str) (v:V),X.N[i]?=d7 x->σ[i]?=d7 (d7 v)->Vis X.env.scope x->∃u,RelV v u/\SI X.env s.heap m x u
 cell:∀x c,X.env.cells.lookup x=d7 c->∃v,s.heap.IsCell c v
 free:H X.env.locals=d8
 freeC:∀x c,X.env.cells.lookup x=d7 c->H c=d8
 pin:∀p∈X.pn++Á,s.heap.get? p.1=d7 p.2/\H p.1=d8/\p.1≠X.env.locals/\p.1∉X.fs/\∀v,p.2.data≠.cell v
 hok:HOk X.prog X.w H s.heap
 len:σ.length=X.N.length
section
variable {X:Cx}{Á:List (È×Obj)}{σ:List (Option V)}{H H':Hp}{s:Å}{h':ü}
def Cx.Ok.nofr(ok:X.Ok){b:È}{o:Obj}(e:X.base.get? b=d7 o):b∉X.fs:=λhb=>by have:=(ok.funs.mem hb).1;rw[e]at this;cases this
def Inv.bs(I:Inv X Á σ H s):∀b o,X.base.get? b=d7 o->s.heap.get? b=d7 o/\H b=d8:=λb o e =>
 ⟨I.base.keep b o (I.ok.bs b o e).1 (I.ok.bs b o e).2 (I.ok.nofr e)<|I.ok.noex b o e,I.base.free b o (I.ok.bs b o e).1 (I.ok.bs b o e).2<|I.ok.noex b o e⟩
def Inv.bk(I:Inv X Á σ H s):∀b o,X.base.get? b=d7 o->s.heap.get? b=d7 o:=λb o e=>(I.bs b o e).1
def Inv.mod(I:Inv X Á σ H s):Mod X.K X.mg X.base:=I.ok.mod
def Inv.kIn(I:Inv X Á σ H s):X.K.In s.heap:=I.ok.mod.kin.keeps I.bk
def Inv.nolimit(I:Inv X Á σ H s):s.heap.NoLimit:=I.ok.mod.nolimit.keeps I.bk
def Inv.fr(I:Inv X Á σ H s):∃m,Fr X.base X.env.locals s.heap m :=
 let ⟨m,hn,_⟩:=I.loc
 ⟨m,hn,I.bk,ß I.ok.bsz I.ok.above⟩
def Inv.lt(I:Inv X Á σ H s):X.env.locals<s.heap.objs.size:=let ⟨_,hn,_⟩:=I.loc;hn.lt
def Inv.sz(I:Inv X Á σ H s):X.s₀.heap.objs.size<=s.heap.objs.size:=ß I.ok.above (Ū I.lt)
variable {a:È}
def Inv.nofs(I:Inv X Á σ H s)(h:s.heap.objs.size<=a):a∉X.fs:=λhb=>by obtain⟨_,o,ho,_⟩:=I.ok.funs.mem hb;exact gf (è (Ô ho)<|ß I.sz h) (ĝ _)
def Inv.cne(I:Inv X Á σ H s):∀x c,X.env.cells.lookup x=d7 c->c≠X.env.locals:=λx c e z=>by obtain⟨v,o,ho,hd⟩:=I.cell x c e;obtain⟨m,⟨o',es,ep,ae,hd',_⟩,_⟩:=I.loc;rw[z,ae]at ho;cases ho;rw[hd']at hd;cases hd
def Inv.funs(I:Inv X Á σ H s):s.heap.FunFrames X.base X.outer:=by
 have all:∀(l:List Env),(∀b∈frs l,b∈X.fs)->X.s₀.heap.FunFrames X.base l->s.heap.FunFrames X.base l:=by
  intro l;induction l with
  |nil=>intro _ _;trivial
  |cons env r ih =>intro hs hl;obtain⟨hk,⟨L,o,hf,hn,ho,hd⟩,hr⟩:=hl;have hL:L∈X.fs:=hs L (by unfold frs;rw[Ĕ,hf];exact î);obtain⟨sl,e⟩:=I.base.slot L o ho (I.ok.frf L hL) hL λz=>I.ok.exfs L z hL;exact⟨hk,⟨L,_,hf,hn,e,hd⟩,ih (λb hb=>hs b<|by unfold frs;rw[Ĕ,hf];exact Û _ hb) hr⟩
 exact all X.outer (λ_ hb=>hb) I.ok.funs
def Inv.stack(I:Inv X Á σ H s):s.heap.FunFrames X.base X.stack:=by
 rcases I.ok.stk with e|⟨e,hf⟩
 .rw[e];exact I.funs
 .rw[e];obtain⟨m,hn,_⟩:=I.loc;refine .cons (by rw[I.ok.kind];decide) hf hn ?_ I.funs;exact Heap.get?_none_of_le<|ß I.ok.bsz I.ok.above
def Inv.stkSub(I:Inv X Á σ H s):∀b∈frs X.stack,b∈X.env.locals::X.fs:=λb hb=>by
 rcases I.ok.stk with e|⟨e,hf⟩
 .rw[e]at hb;exact Û _ hb
 .rw[e]at hb;unfold frs at hb;rw[Ĕ,hf]at hb;exact hb
def Inv.stkFree(I:Inv X Á σ H s):∀b∈frs X.stack,H b=d8:=λb hb=>by
 rcases Æ.mp (I.stkSub b hb)with e|hb
 .rw[e];exact I.free
 .obtain⟨_,o,ho,_⟩:=I.ok.funs.mem hb;exact I.base.free b o ho (I.ok.frf b hb) λz=>I.ok.exfs b z hb
variable {g':Array GenState} {t':Nat} {d':Drawn} {ch:List È}
def Inv.step(I:Inv X Á σ H s)
  (hch:∀b∈ch,(b∈X.ex\/X.s₀.heap.objs.size<=b)/\b≠X.env.locals/\(∀x c,X.env.cells.lookup x=d7 c->c≠b)/\∀p∈X.pn++Á,p.1≠b)
  (keep:∀b o,b≠X.env.locals->b∉X.fs->b∉ch->s.heap.get? b=d7 o->H b=d8->h'.get? b=d7 o)
  (slot:∀b o,b≠X.env.locals->b∈X.fs->b∉ch->s.heap.get? b=d7 o->H b=d8->∃sl,h'.get? b=d7 {o with slots:=sl}) (free:∀b o,b∉ch->s.heap.get? b=d7 o->H b=d8->H' b=d8)
  (there:∀b o,b∉ch->s.heap.get? b=d7 o->∃o',h'.get? b=d7 o')
  (tups:∀b xs,H b=d7 (.tup xs)->H' b=d7 (.tup xs)) (frzs:∀b o u,H b=d7 (.frz o u)->H' b=d7 (.frz o u)) (tbls:∀b ps,H b=d7 (.tbl ps)->∃more,H' b=d7 (.tbl<|ps++more))
  (ns:∀m,s.heap.Ns X.env.locals m->h'.Ns X.env.locals m) (hok:HOk X.prog X.w H' h') (hg:Θ g') :
  Inv X Á σ H' {s with heap:=h',gens:=g',drawn:=d',toks:=t'}:=by
 have neL:∀b o,X.s₀.heap.get? b=d7 o->b≠X.env.locals:=λb o e=>ç<|è (Ô e) I.ok.above;have neC:∀b o,X.s₀.heap.get? b=d7 o->b∉X.ex->b∉ch:=λb o e hx hb=>by
  rcases (hch b hb).1 with z|z
  .exact hx z
  .exact gf (è (Ô e) z)<|ĝ _
 have cellK:∀x c,X.env.cells.lookup x=d7 c->∀v,s.heap.IsCell c v->h'.IsCell c v:=λx c e v ⟨o,ho,hd⟩=>by
  have nch:c∉ch:=λz=>(hch c z).2.2.1 x c e rfl;by_cases hc:c∈X.fs
  .obtain⟨sl,q⟩:=slot c o (I.cne x c e) hc nch ho<|I.freeC x c e;exact⟨_,q,hd⟩
  .exact⟨o,keep c o (I.cne x c e) hc nch ho<|I.freeC x c e,hd⟩
 refine⟨I.ok,I.os,hg,⟨λb o e n hb hx=>?_,λb o e n hb hx=>?_,λb o e n hx=>?_,λb o e hx=>?_,λb xs e=>tups b xs<|I.base.tups b xs e,λb o xs e=>frzs b o xs<|I.base.frzs b o xs e,λb ps e=>?_⟩,?_,λx c e=>?_,?_,λx c e=>?_,λp hp=>?_,hok,I.len⟩
 .exact keep b o (neL b o e) hb (neC b o e hx) (I.base.keep b o e n hb hx)<|I.base.free b o e n hx
 .obtain⟨sl,e1⟩:=I.base.slot b o e n hb hx;obtain⟨sl',e2⟩:=slot b _ (neL b o e) hb (neC b o e hx) e1<|I.base.free b o e n hx;exact⟨sl',e2⟩
 .obtain⟨o',e1⟩:=I.base.there b o e hx;exact free b o' (neC b o e hx) e1<|I.base.free b o e n hx
 .obtain⟨o',e1⟩:=I.base.there b o e hx;exact there b o' (neC b o e hx) e1
 .obtain⟨m1,e1⟩:=I.base.tbls b ps e;obtain⟨m2,e2⟩:=tbls b _ e1;exact⟨m1++m2,by rw[e2,cM]⟩
 .obtain⟨m,hn,hl⟩:=I.loc;refine⟨m,ns m hn,λi x v e1 e2 e3=>?_⟩;obtain⟨u,r,l⟩:=hl i x v e1 e2 e3;refine⟨u,r,?_⟩;rcases l with l|⟨k,c,e,z⟩
  .exact .inl l
  .exact .inr ⟨k,c,e,cellK x c e _ z⟩
 .obtain⟨v,z⟩:=I.cell x c e;exact⟨v,cellK x c e v z⟩
 .obtain⟨m,⟨o,_,_,ho,_⟩,_⟩:=I.loc;exact free _ o (λz=>(hch _ z).2.1 rfl) ho I.free
 .obtain⟨v,o,ho,hd⟩:=I.cell x c e;exact free c o (λz=>(hch c z).2.2.1 x c e rfl) ho<|I.freeC x c e
 .obtain⟨e,n,ne,nf,d⟩:=I.pin p hp;have nch:p.1∉ch:=λz=>(hch p.1 z).2.2.2 p hp rfl;exact⟨keep p.1 p.2 ne nf nch e n,free p.1 p.2 nch e n,ne,nf,d⟩
def Inv.un(I:Inv X Á σ H s)(u:Un X.fs [] H H' s.heap h')(hok:HOk X.prog X.w H' h'):Inv X Á σ H' {s with heap:=h',toks:=t'}:=by
 obtain⟨m,⟨o,es,ep,ho,r⟩,_⟩:=id I.loc;obtain⟨sl,hL⟩:=u.any ho I.free (by simp);exact I.step (g':=s.gens) (d':=s.drawn) (ch:=[]) (λ_ z=>nomatch z) (λb o _ hb _ e n=>u.keep b o e n hb<|by simp) (λb o _ hb _ e n=>u.slot b o e n hb<|by simp) (λb o _ e n=>u.free b o e n<|by simp) (λb o _ e=>u.there b o e<|by simp) u.tups u.frzs u.tbls (λm' hm=>by
   obtain⟨o',az,ep',ae,r'⟩:=hm
   rw[ho]at ae;cases ae
   exact⟨_,az,ep',hL,r'⟩) hok I.bare
def Inv.call(I:Inv X Á σ H s)(u:Un (frs X.stack) ch H H' s.heap h')(hok:HOk X.prog X.w H' h')(hg:Θ g')
  (hch:∀b∈ch,(b∈X.ex\/X.s₀.heap.objs.size<=b)/\b≠X.env.locals/\(∀x c,X.env.cells.lookup x=d7 c->c≠b)/\∀p∈X.pn++Á,p.1≠b) :
  Inv X Á σ H' {s with heap:=h',gens:=g',drawn:=d',toks:=t'}:=by
 obtain⟨m,⟨o,es,ep,ho,r⟩,_⟩:=id I.loc;obtain⟨sl,hL⟩:=u.any ho I.free λz=>(hch _ z).2.1 rfl;exact I.step (ch:=ch) hch (λb o hL hb hc e n=>u.keep b o e n (λz=>(Æ.mp<|I.stkSub b z).elim hL hb) hc) (λb o _ _ hc e n=>u.any e n hc) (λb o hc e n=>u.free b o e n hc) (λb o hc e=>u.there b o e hc) u.tups u.frzs u.tbls (λm' hm=>by
   obtain⟨o',az,ep',ae,r'⟩:=hm
   rw[ho]at ae;cases ae
   exact⟨_,az,ep',hL,r'⟩) hok hg
def Inv.turned{it:È}(I:Inv X Á σ H s)(k:∀b o,b≠it->s.heap.get? b=d7 o->h'.get? b=d7 o)(hn:H it=d8)(hL:it≠X.env.locals)
  (h1:it∈X.ex\/X.s₀.heap.objs.size<=it) (h2:∀x c,X.env.cells.lookup x=d7 c->c≠it) (h3:∀p∈X.pn++Á,p.1≠it):Inv X Á σ H {s with heap:=h',toks:=t'}:=by
 have nit:∀b u,H b=d7 u->b≠it:=λb u e z=>by rw[z,hn]at e;cases e
 refine I.step (g':=s.gens) (d':=s.drawn) (ch:=[it]) (λb hb=>?_) (λb o _ _ hc e _=>k b o (λz=>hc<|by simp[z]) e) (λb o _ _ hc e _=>⟨o.slots,k b o (λz=>hc<|by simp[z]) e⟩) (λ_ _ _ _ n=>n)
  (λb o hc e=>⟨o,k b o (λz=>hc<|by simp[z]) e⟩) (λ_ _ e=>e) (λ_ _ _ e=>e) (λb ps e=>⟨#[],by rw[e];simp⟩) (λm hm=>?_) (λb u e=>?_) I.bare
 .have e:b=it:=by simpa using hb
  subst e;exact⟨h1,hL,h2,h3⟩
 .obtain⟨o,es,ep,ho,r⟩:=hm;exact⟨o,es,ep,k _ o (Ne.symm hL) ho,r⟩
 .refine(I.hok b u e).stay (λc v hc q=>k c v ?_ q) (λ_ q=>q) λ_ _ q=>q;rcases hc with z|z
  .rw[z];exact nit b u e
  .exact nit c _ z
def Inv.tok(I:Inv X Á σ H s)(t:Nat):Inv X Á σ H {s with toks:=t}:=I.un (h':=s.heap) (t':=t) Un.refl I.hok
def Inv.kept(I:Inv X Á σ H s)(k:∀b u,s.heap.get? b=d7 u->h'.get? b=d7 u):Inv X Á σ H {s with heap:=h',toks:=t'}:=I.un (Un.kept k) (I.hok.kept k)
variable {o:HO}
def Inv.laid(I:Inv X Á σ H s)(k:∀b u,s.heap.get? b=d7 u->h'.get? b=d7 u)(hp:s.heap.objs.size<=a)(new:eN X.prog X.w (upd H a o) h' a o) :
  Inv X Á σ (upd H a o) {s with heap:=h',toks:=t'}:=I.un (Un.laid k hp<|I.hok.fresh hp)<|I.hok.laid k hp new
def Inv.write{x e:È}(I:Inv X Á σ H s)(mu:Mut<|H x)(he:e=x\/H e=d7 (.own x))(k:∀b u,b≠e->s.heap.get? b=d7 u->h'.get? b=d7 u)(heo:∃u,h'.get? e=d7 u)
  (new:eN X.prog X.w (upd H x o) h' x o):Inv X Á σ (upd H x o) {s with heap:=h',toks:=t'}:=I.un (Un.write mu he k heo)<|I.hok.write mu he k heo new
def Inv.pins_of{pins':List (È×Obj)}(I:Inv X Á σ H s)(h:∀p∈pins',s.heap.get? p.1=d7 p.2/\H p.1=d8/\p.1≠X.env.locals/\p.1∉X.fs/\∀v,p.2.data≠.cell v):Inv X pins' σ H s :=
 ⟨I.ok,I.os,I.bare,I.base,I.loc,I.cell,I.free,I.freeC,λp hp=>(â.mp hp).elim (λz=>I.pin p<|Ù _ z)<|h p,I.hok,I.len⟩
variable {i:Nat} {x:Str}
def JG{N:List Str}(hN:N.Nodup){j:Nat}(a:N[i]?=d7 x)(b:N[j]?=d7 x):i=j:=by obtain⟨h1,e1⟩:=Ï.mp a;obtain⟨h2,e2⟩:=Ï.mp b;exact(Ϻ hN).mp (e1.trans e2.symm)
variable {M:df} {A:č} {u:Â} {Q:Unit->Å->Prop}
def K5{E:Â->Å->Prop}{v:V}(I:Inv X Á σ H s)(hN:X.N.Nodup)(hi:X.N[i]?=d7 x)(hx:Loc X.env.scope x)(r:RelV v u)
  (h:∀s',Inv X Á (σ.set i<|d7 v) H s'->(∃a,Ŧ a s.heap s'.heap/\(a=X.env.locals\/X.env.cells.lookup x=d7 a))->Q () s') (hf:X.fn x=d9\/X.env.scope.names.lookup x=d7 .local:=by first|exact .inl rfl|exact .inr rfl|assumption):wpAny M A (storeName X.env x u) Q E s:=by
 obtain⟨m,hn,hl⟩:=id I.loc;have cj:(X.env.scope.kind == .class||(X.env.scope.kind == .module&&X.env.locals != X.env.globals))=ee:=by rw[I.ok.kind];rfl
 have hiσ:i<σ.length:=by rw[I.len];exact(Ï.mp hi).1
 have cne:=I.cne;have cF:∀{a:È}{h':ü},(∃o,s.heap.get? a=d7 o/\H a=d8)->Ŧ a s.heap h'->HOk X.prog X.w H h':=λ{a h'} ha hs b ob e=>by
  obtain⟨_,_,hfree⟩:=ha;refine(I.hok b ob e).stay (λc w' hc q=>(hs.2 c ?_).trans q) (λ_ q=>q) λ_ _ q=>q;rintro rfl;rcases hc with rfl|hc
  .rw[hfree]at e;cases e
  .rw[hfree]at hc;cases hc
 rcases hx with hk|hk
 .refine wpAny_storeName_local hk hn (λh' hn' hs=>?_) cj;obtain⟨oL,_,_,hoL,_⟩:=id hn;refine h _ ⟨I.ok,I.os,I.bare,⟨λb o e n hb hx=>?_,λb o e n hb hx=>?_,I.base.free,λb o e hx=>?_,I.base.tups,I.base.frzs,I.base.tbls⟩,⟨_,hn',λj y v' e1 e2 e3=>?_⟩,λy c e=>?_,I.free,I.freeC,λp hp=>?_,cF ⟨oL,hoL,I.free⟩ hs,by simpa using I.len⟩ ⟨_,hs,.inl rfl⟩
  .exact(hs.2 b<|ç<|è (Ô e) I.ok.above).trans<|I.base.keep b o e n hb hx
  .obtain⟨sl,e1⟩:=I.base.slot b o e n hb hx;exact⟨sl,(hs.2 b<|ç<|è (Ô e) I.ok.above).trans e1⟩
  .obtain⟨o',e1⟩:=I.base.there b o e hx;exact⟨o',(hs.2 b<|ç<|è (Ô e) I.ok.above).trans e1⟩
  .by_cases hj:j=i
   .subst hj;rw[hi]at e1;cases e1;rw[Ι hiσ]at e2;cases e2;exact⟨u,r,.inl ⟨hk,by simp⟩⟩
   .rw[ĩ<|Ne.symm hj]at e2;obtain⟨u',r',q⟩:=hl j y v' e1 e2 e3;refine⟨u',r',?_⟩;rcases q with⟨k,e⟩|⟨k,c,e,z⟩
    .refine .inl ⟨k,?_⟩;have:y≠x:=λe=>hj<|JG hN e1<|e▸hi;simp[this,e]
    .exact .inr ⟨k,c,e,z.sameBut hs<|cne y c e⟩
  .obtain⟨w',z⟩:=I.cell y c e;exact⟨w',z.sameBut hs<|cne y c e⟩
  .obtain⟨e,n,ne,nf,d⟩:=I.pin p hp;exact⟨(hs.2 p.1 ne).trans e,n,ne,nf,d⟩
 .have hfn:X.fn x=d9:=by
   rcases hf with z|z
   .exact z
   .rw[z]at hk;cases hk
  obtain⟨c,hc⟩:=I.ok.has x<|.inl hk;obtain⟨w',z⟩:=I.cell x c hc;refine wpAny_storeName_cell I.ok.kind hk hc z λh' hc' hs=>?_;obtain⟨oc,hoc,hocd⟩:=id z;refine h {s with heap:=h'} ⟨I.ok,I.os,I.bare,⟨λb o e n hb hx=>?_,λb o e n hb hx=>?_,I.base.free,λb o e hx=>?_,I.base.tups,I.base.frzs,I.base.tbls⟩,⟨m,hn.sameBut hs<|Ne.symm<|cne x c hc,λj y v' e1 e2 e3=>?_⟩,λy c' e=>?_,I.free,I.freeC,λp hp=>?_,cF ⟨oc,hoc,I.freeC x c hc⟩ hs,by simpa using I.len⟩ ⟨c,hs,.inr hc⟩
  .exact(hs.2 b<|ç<|è (Ô e)<|I.ok.cab x c hfn hc).trans<|I.base.keep b o e n hb hx
  .obtain⟨sl,e1⟩:=I.base.slot b o e n hb hx;exact⟨sl,(hs.2 b<|ç<|è (Ô e)<|I.ok.cab x c hfn hc).trans e1⟩
  .obtain⟨o',e1⟩:=I.base.there b o e hx;exact⟨o',(hs.2 b<|ç<|è (Ô e)<|I.ok.cab x c hfn hc).trans e1⟩
  .by_cases hj:j=i
   .subst hj;rw[hi]at e1;cases e1;rw[Ι hiσ]at e2;cases e2;exact⟨u,r,.inr ⟨.inl hk,c,hc,hc'⟩⟩
   .rw[ĩ<|Ne.symm hj]at e2;obtain⟨u',r',q⟩:=hl j y v' e1 e2 e3;refine⟨u',r',?_⟩;rcases q with q|⟨k,c',e,z'⟩
    .exact .inl q
    .refine .inr ⟨k,c',e,z'.sameBut hs ?_⟩;rintro rfl;exact hj<|JG hN e1<|I.ok.inj _ _ _ e hc▸hi
  .by_cases hcc:c'=c
   .subst hcc;exact⟨_,hc'⟩
   .obtain⟨w2,z2⟩:=I.cell y c' e;exact⟨w2,z2.sameBut hs hcc⟩
  .obtain⟨e,n,ne,nf,d⟩:=I.pin p hp;refine⟨(hs.2 p.1 ?_).trans e,n,ne,nf,d⟩;intro q;rw[q,hoc]at e;have q':oc=p.2:=í e;exact d w' (by rw[<-q'];exact hocd)
def JY{E:Â->Å->Prop}{v:V}(I:Inv X Á σ H s)(hN:X.N.Nodup)(hi:X.N[i]?=d7 x)(hx:Loc X.env.scope x)(r:RelV v u)
  (h:∀s',Inv X Á (σ.set i<|d7 v) H s'->Q () s') (hf:X.fn x=d9\/X.env.scope.names.lookup x=d7 .local:=by first|exact .inl rfl|exact .inr rfl|assumption):wpAny M A (storeName X.env x u) Q E s :=
 K5 I hN hi hx r (λs' I' _=>h s' I') hf
def Inv.call'{s':Å}(I:Inv X Á σ H s)(ho:s'.os=s.os)(u:Un (frs X.stack) ch H H' s.heap s'.heap)(hok:HOk X.prog X.w H' s'.heap)(hg:Θ s'.gens)
  (hch:∀b∈ch,(b∈X.ex\/X.s₀.heap.objs.size<=b)/\b≠X.env.locals/\(∀x c,X.env.cells.lookup x=d7 c->c≠b)/\∀p∈X.pn++Á,p.1≠b):Inv X Á σ H' s':=by
 obtain⟨h',g',d',t',o'⟩:=s';have e:o'=s.os:=ho;subst e;exact I.call (g':=g') (t':=t') (d':=d') u hok hg hch
end
noncomputable abbrev XK:=Â->Option È->Hp->Prop
noncomputable abbrev St:=List<|Option V
noncomputable abbrev VK:=V->Hp->Prop
noncomputable abbrev TE:=St->Hp->VK->Prop
noncomputable abbrev TT:=St->Hp->(Bool->Hp->Prop)->Prop
noncomputable abbrev TA:=St->Hp->(List V->Hp->Prop)->Prop
structure Ends where
 nx:St->Hp->Prop
 rt:VK
 bk:St->Hp->Prop:=λ_ _=>False
 ct:St->Hp->Prop:=λ_ _=>False
noncomputable abbrev TS:=Ends->St->Hp->Prop
inductive EP (X:Cx) (Á:List<|È×Obj) (σ:St) (Q:VK) (u:Â) (s':Å):Prop
 |mk (v:V) (H':Hp) (i:Inv X Á σ H' s') (r:RelV v u) (q:Q v H')
abbrev TP(X:Cx)(Á:List<|È×Obj)(σ:St)(Q:Bool->Hp->Prop)(b:Bool)(s':Å):Prop:=∃H',Inv X Á σ H' s'/\Q b H'
inductive AP (X:Cx) (Á:List<|È×Obj) (σ:St) (Q:List V->Hp->Prop) (us:List Â) (s':Å):Prop
 |mk (vs:List V) (H':Hp) (i:Inv X Á σ H' s') (r:fR vs us) (q:Q vs H')
abbrev SP(X:Cx)(Á:List<|È×Obj)(D:Ends)(f:Flow)(s':Å):Prop :=
 match f with
 |.next=>∃Ŀ H',Inv X Á Ŀ H' s'/\D.nx Ŀ H'
 |.brk=>∃Ŀ H',Inv X Á Ŀ H' s'/\D.bk Ŀ H'
 |.cont=>∃Ŀ H',Inv X Á Ŀ H' s'/\D.ct Ŀ H'
 |.ret u=>∃v Ŀ H',Inv X Á Ŀ H' s'/\RelV v u/\D.rt v H'
abbrev PE(X:Cx)(e:Expr)(t:TE):Prop :=
 ∀(Á:List<|È×Obj) (s:Å) (σ:St) (H:Hp) (Q:VK),Inv X Á σ H s->t σ H Q->wpAny (à X.prog X.w) X.A (eval e X.env) (EP X Á σ Q) X.xe s
abbrev PT(X:Cx)(e:Expr)(t:TT):Prop :=
 ∀(Á:List<|È×Obj) (s:Å) (σ:St) (H:Hp) (Q:Bool->Hp->Prop),Inv X Á σ H s->t σ H Q->wpAny (à X.prog X.w) X.A (bQ e X.env<|eval e X.env) (TP X Á σ Q) X.xe s
abbrev PW(X:Cx)(e:Expr)(t:TT):Prop :=
 ∀(aj:Sem Â) (Á:List<|È×Obj) (s:Å) (σ:St) (H:Hp) (Q:Bool->Hp->Prop),Inv X Á σ H s->t σ H Q->wpAny (à X.prog X.w) X.A (bQ e X.env aj) (TP X Á σ Q) X.xe s
def PW.pt{X:Cx}{e:Expr}{t:TT}(h:PW X e t):PT X e t:=h _
abbrev PA(X:Cx)(es:List Expr)(t:TA):Prop :=
 ∀(æ:Pos) (Á:List<|È×Obj) (s:Å) (σ:St) (H:Hp) (Q:List V->Hp->Prop),Inv X Á σ H s->t σ H Q->wpAny (à X.prog X.w) X.A (spliced<|Ċ æ<|Ì es X.env) (AP X Á σ Q) X.xe s
abbrev PS(X:Cx)(st:Ģ)(t:TS):Prop :=
 ∀(Á:List<|È×Obj) (s:Å) (σ:St) (H:Hp) (D:Ends),Inv X Á σ H s->t D σ H->wpAny (à X.prog X.w) X.A (exec st X.env) (SP X Á D) X.xe s
abbrev PSs(X:Cx)(st:List Ģ)(t:TS):Prop :=
 ∀(Á:List<|È×Obj) (s:Å) (σ:St) (H:Hp) (D:Ends),Inv X Á σ H s->t D σ H->wpAny (à X.prog X.w) X.A (execs st X.env) (SP X Á D) X.xe s
def thn{α:Type}{t:Sem α}{Q Q':α->Å->Prop}{M:df}{A:č}{E:Â->Å->Prop}{s:Å}(h:wpAny M A t Q E s)(hQ:∀a s,Q a s->Q' a s):wpAny M A t Q' E s:=ċ h hQ λ_ _ x=>x
section
variable {X:Cx}
variable {Á:List (È×Obj)} {s:Å} {σ:St} {H:Hp}
def bin{a b:Expr}{ta tb:TE}(ha:PE X a ta)(hb:PE X b tb){R:V->V->Hp->Prop}(I:Inv X Á σ H s)(h:ta σ H λx H1=>tb σ H1 λy H2=>R x y H2)
  {α:Type}{Q:α->Å->Prop}{f:Â->Â->Sem α}
  (hf:∀v u s2 x y H2,Inv X Á σ H2 s2->RelV x v->RelV y u->R x y H2->wpAny (à X.prog X.w) X.A (f v u) Q X.xe s2) :
  wpAny (à X.prog X.w) X.A (eval a X.env) (λv Ħ=>wpAny (à X.prog X.w) X.A (eval b X.env) (λu bF=>wpAny (à X.prog X.w) X.A (f v u) Q X.xe bF) X.xe Ħ) X.xe s:=by
 refine thn (ha Á s σ H _ I h) λv s1 ⟨x,H1,I1,r1,q1⟩=>?_;refine thn (hb Á s1 σ H1 _ I1 q1) λu s2 ⟨y,H2,I2,r2,q2⟩=>?_;exact hf v u s2 x y H2 I2 r1 r2 q2
abbrev SG(i:Nat):TE:=λσ H Q=>∃v,σ[i]?=d7 (d7 v)/\Q v H
abbrev tC(v:V):TE:=λ_ H Q=>Q v H
variable {x:Str} {æ:Pos}
def IT{i:Nat}(hN:X.N[i]?=d7 x)(hv:Vis X.env.scope x)(hd:(x==("__debug__" : Str))=ee:=by decide)(aA:(x==("__classdict__" : Str))=ee:=by decide):PE X (.Name x æ)<|SG i:=by
 intro Á s σ H Q I h;obtain⟨v,e,h⟩:=h;obtain⟨m,hn,hl⟩:=I.loc;obtain⟨u,r,l⟩:=hl i x v hN e hv;have fin:EP X Á σ Q u s:=⟨v,H,I,r,h⟩
 rcases l with⟨hk,hm⟩|⟨hk,c,hc,hcell⟩
 .exact wpAny_Name (wpAny_loadName_local I.ok.kind hk hn hm fin) hd
 .rcases hk with hk|hk
  .exact wpAny_Name (wpAny_loadName_cell I.ok.kind hk hc hcell fin) hd
  .exact wpAny_Name (wpAny_loadName_free I.ok.kind hk hc hcell fin aA) hd
def Oq{i j æ}:PE X (.Constant (.int i) j æ)<|tC<|.int i:=λ_ _ _ H _ I h=>wpAny_Constant_int ⟨.int i,H,I.tok _,⟨_,rfl⟩,h⟩
def Q4{b j æ}:PE X (.Constant (.bool b) j æ)<|tC<|.bl b:=λ_ _ _ H _ I h=>Constant_bool ⟨.bl b,H,I,rfl,h⟩
def BH{j æ}:PE X (.Constant .none j æ)<|tC .non:=λ_ _ _ H _ I h=>cN ⟨.non,H,I,rfl,h⟩
def pe_str{x j æ}:PE X (.Constant (.str x) j æ)<|tC<|.str x:=λ_ _ _ H _ I h=>Calls.Constant_str ⟨.str x,H,I.tok _,⟨_,rfl⟩,h⟩
abbrev Gl(X:Cx)(x:Str):Prop:=X.env.kindOf x=d7 .globalImplicit
variable {u:Â} {Q:Â->Å->Prop}
def Yx{E:Â->Å->Prop}(I:Inv X Á σ H s)(hg:Gl X x)(hm:X.mg x=d7 u)(h:Q u s)
  (hd:(x==("__debug__" : Str))=ee:=by decide):wpAny (à X.prog X.w) X.A (eval (.Name x æ) X.env) Q E s :=
 Calls.Name_function_global I.ok.kind hg (Calls.loadGlobal_global (by rw[I.ok.glob];exact I.mod.glob.keeps I.bk) hm h) hd
def XY{E:Â->Å->Prop}(I:Inv X Á σ H s)(hg:Gl X x)(hm:X.mg x=d8)(hv:Ş x=d7 u)(h:Q u s)
  (hn:x≠"__name__":=by decide) (hd:(x==("__debug__" : Str))=ee:=by decide):wpAny (à X.prog X.w) X.A (eval (.Name x æ) X.env) Q E s:=by
 obtain⟨mb,h1,h2⟩:=I.mod.blt;exact Calls.Name_function_global I.ok.kind hg (Calls.loadGlobal_builtin (by rw[I.ok.glob];exact I.mod.glob.keeps I.bk) hm (by rw[I.ok.blt];exact h1.keeps I.bk) ((h2 x hn).trans hv) h) hd
def MP{v:V}(hg:Gl X x)(hm:X.mg x=d7 u)(r:RelV v u)(hd:(x==("__debug__" : Str))=ee:=by decide):PE X (.Name x æ) (tC v) :=
 λ_ _ _ H _ I h=>Yx I hg hm ⟨v,H,I,r,h⟩ hd
def O5{v:V}(hg:Gl X x)(hm:X.mg x=d8)(hv:Ş x=d7 u)(r:RelV v u)(hn:x≠"__name__":=by decide)(hd:(x==("__debug__" : Str))=ee:=by decide):PE X (.Name x æ) (tC v) :=
 λ_ _ _ H _ I h=>XY I hg hm hv ⟨v,H,I,r,h⟩ hn hd
variable {a b:Expr}{ta tb:TE}{æ:Pos}
abbrev PC(X:Cx)(op:bR)(a b:Expr)(t:TE):Prop :=
 ∀(Á:List<|È×Obj) (s:Å) (σ:St) (H:Hp) (Q:VK),Inv X Á σ H s->t σ H Q->
  wpAny (à X.prog X.w) X.A (eval a X.env) (λv Ħ=>wpAny (à X.prog X.w) X.A (eval b X.env) (λu bF=>wpAny (à X.prog X.w) X.A (ë op v u) (EP X Á σ Q) X.xe bF) X.xe Ħ) X.xe s
variable {op:bR}
def Nf(b:Expr)(h:op≠.In)(h2:op≠.NotIn):ķ op b=ee:=by
 have e1:(op==CmpOp.In)=ee:=by cases op<;>first|rfl|exact gf rfl h
 have e2:(op==CmpOp.NotIn)=ee:=by cases op<;>first|rfl|exact gf rfl h2
 cases b<;>simp[ķ,e1,e2]
abbrev R4(ta:TE):TE:=λσ H Q=>ta σ H λx H1=>Q (.bl<|gg (x=.non)) H1
abbrev Ru(ta:TE):TE:=λσ H Q=>ta σ H λx H1=>Q (.bl (!gg (x=.non))) H1
def RelV.none_iff{x:V}{v:Â}(r:RelV x v):(v==Value.none)=gg (x=.non):=by
 cases x with
 |non=>cases r;rfl
 |bl _=>cases r;rfl
 |int _=>obtain⟨t,rfl⟩:=r;rfl
 |str _=>obtain⟨t,rfl⟩:=r;rfl
 |byt _=>obtain⟨t,rfl⟩:=r;rfl
 |flt _=>obtain⟨t,rfl⟩:=r;rfl
 |ref _=>cases r;rfl
 |ty _=>cases r;rfl
def Cz{j Ϲ}(ha:PE X a ta):PC X .Is a (.Constant .none j Ϲ)<|R4 ta:=by intro Á s σ H Q I h;refine thn (ha Á s σ H _ I h) λv s1 ⟨x,H1,I1,r1,q1⟩=>?_;exact cN (is_none_gen ⟨.bl _,H1,I1,by rw[r1.none_iff];rfl,q1⟩)
def Ue{j Ϲ}(ha:PE X a ta):PC X .IsNot a (.Constant .none j Ϲ)<|Ru ta:=by intro Á s σ H Q I h;refine thn (ha Á s σ H _ I h) λv s1 ⟨x,H1,I1,r1,q1⟩=>?_;exact cN (isnot_none_gen ⟨.bl _,H1,I1,by rw[r1.none_iff];rfl,q1⟩)
abbrev tB(t:TE):TT:=λσ H Q=>t σ H λx H1=>∃c,x=.bl c/\Q c H1
def Cd{t:TE}(h:PC X op a b t)(h1:ķ op b=ee:=by first|exact Nf _ (by decide) (by decide)|rfl):PE X (.Compare a [op] [b] æ) t:=λÁ s σ H Q I hw=>wpAny_Compare1 (h Á s σ H Q I hw) h1
def CA{t:TE}(h:PC X op a b t)(h1:ķ op b=ee:=by first|exact Nf _ (by decide) (by decide)|rfl):PT X (.Compare a [op] [b] æ)<|tB t:=by intro Á s σ H Q I hw;refine wpAny_isTrue_Compare1 (thn (h Á s σ H _ I hw) λv s1 h1=>thn h1 λu s2 h2=>thn h2 λc s3 ⟨x,H1,I1,r1,q1⟩=>?_) h1;obtain⟨d,rfl,q⟩:=q1;cases r1;exact ď ⟨H1,I1,q⟩
variable {tA tB':TT}{rest:List Expr}
abbrev SQ(t u:TT):TT:=λσ H Q=>t σ H λc H1=>if c=d9 then u σ H1 Q else Q ee H1
abbrev tOr(t u:TT):TT:=λσ H Q=>t σ H λc H1=>if c=d9 then Q d9 H1 else u σ H1 Q
abbrev R3(t:TT):TT:=λσ H Q=>t σ H λc H1=>Q (!c) H1
def ES(ha:PT X a tA):PW X (.BoolOp .And [a] æ) tA:=by
 intro wh Á s σ H Q I h;refine isTrue_and<|thn (ha Á s σ H Q I h) λc s1 e=>?_;cases c with
 |true=>exact isTrue_and_nil e
 |false=>exact e
def PF(ha:PT X a tA):PW X (.BoolOp .Or [a] æ) tA:=by
 intro wh Á s σ H Q I h;refine isTrue_or<|thn (ha Á s σ H Q I h) λc s1 e=>?_;cases c with
 |false=>exact isTrue_or_nil e
 |true=>exact e
def LC(ha:PT X a tA)(hb:PW X (.BoolOp .And (b::rest) æ) tB'):PW X (.BoolOp .And (a::b::rest) æ)<|SQ tA tB':=by
 intro wh Á s σ H Q I h;refine isTrue_and<|thn (ha Á s σ H _ I h) λc s1 ⟨H1,I1,q1⟩=>?_;cases c with
 |true=>exact hb wh Á s1 σ H1 Q I1 q1
 |false=>exact⟨H1,I1,q1⟩
def Q6(ha:PT X a tA)(hb:PW X (.BoolOp .Or (b::rest) æ) tB'):PW X (.BoolOp .Or (a::b::rest) æ)<|tOr tA tB':=by
 intro wh Á s σ H Q I h;refine isTrue_or<|thn (ha Á s σ H _ I h) λc s1 ⟨H1,I1,q1⟩=>?_;cases c with
 |true=>exact⟨H1,I1,q1⟩
 |false=>exact hb wh Á s1 σ H1 Q I1 q1
def Lc(ha:PT X a tA):PT X (.UnaryOp .Not a æ)<|R3 tA:=by intro Á s σ H Q I h;exact isTrue_not (ha Á s σ H (λc H1=>Q (!c) H1) I h)
abbrev Re(ta tb:TE):TE:=λσ H Q=>ta σ H λx H1=>∃c,x=.bl c/\if c=d9 then tb σ H1 Q else Q (.bl ee) H1
abbrev RN(ta tb:TE):TE:=λσ H Q=>ta σ H λx H1=>∃c,x=.bl c/\if c=d9 then Q (.bl d9) H1 else tb σ H1 Q
abbrev QD(ta:TE):TE:=λσ H Q=>ta σ H λx H1=>∃c,x=.bl c/\Q (.bl (!c)) H1
def Bu{op}{t:TE}(h:PE X a t):PE X (.BoolOp op [a] æ) t:=λÁ s σ H Q I hw=>BoolOp_one (h Á s σ H Q I hw)
def HM(ha:PE X a ta)(hb:PE X (.BoolOp .And (b::rest) æ) tb):PE X (.BoolOp .And (a::b::rest) æ)<|Re ta tb:=by
 intro Á s σ H Q I h;refine BoolOp_and<|thn (ha Á s σ H _ I h) λv s1 ⟨x,H1,I1,r1,q1⟩=>?_;obtain⟨c,rfl,q1⟩:=q1;cases r1;refine ď ?_;cases c with
 |true=>exact hb Á s1 σ H1 Q I1 q1
 |false=>exact⟨.bl ee,H1,I1,rfl,q1⟩
def PZ(ha:PE X a ta)(hb:PE X (.BoolOp .Or (b::rest) æ) tb):PE X (.BoolOp .Or (a::b::rest) æ)<|RN ta tb:=by
 intro Á s σ H Q I h;refine BoolOp_or<|thn (ha Á s σ H _ I h) λv s1 ⟨x,H1,I1,r1,q1⟩=>?_;obtain⟨c,rfl,q1⟩:=q1;cases r1;refine ď ?_;cases c with
 |false=>exact hb Á s1 σ H1 Q I1 q1
 |true=>exact⟨.bl d9,H1,I1,rfl,q1⟩
def Po(ha:PE X a ta):PE X (.UnaryOp .Not a æ)<|QD ta:=by intro Á s σ H Q I h;refine UnaryOp_<|thn (ha Á s σ H _ I h) λv s1 ⟨x,H1,I1,r1,q1⟩=>?_;obtain⟨c,rfl,q1⟩:=q1;cases r1;exact not_of (ď ⟨.bl (!c),H1,I1,rfl,q1⟩)
abbrev tIf(t:TT)(ta tb:TE):TE:=λσ H Q=>t σ H λc H1=>if c=d9 then ta σ H1 Q else tb σ H1 Q
def CK{c:Expr}(hc:PT X c tA)(ha:PE X a ta)(hb:PE X b tb):PE X (.IfExp c a b æ)<|tIf tA ta tb:=by
 intro Á s σ H Q I h;refine wpAny_IfExp<|thn (hc Á s σ H _ I h) λd s1 ⟨H1,I1,q1⟩=>?_;cases d with
 |true=>exact ha Á s1 σ H1 Q I1 q1
 |false=>exact hb Á s1 σ H1 Q I1 q1
end
abbrev fP(K:Frag)(H:Hp)(a:È)(xs:List V):Prop :=
 Rd H a (.lst xs)\/
  ∃(o:Obj) (ì:Array Â) (n:Nat),K.lookup a=d7 o/\o.cls=.type "list"/\o.dict=d8/\o.data=.seq ì n/\ì.size<=Ú/\fR xs ì.toList
abbrev fQ(K:Frag)(H:Hp)(a:È)(xs:List V):Prop :=
 Rd H a (.tup xs)\/
  ∃(o:Obj) (ì:Array Â) (n:Nat),K.lookup a=d7 o/\o.cls=.type "tuple"/\o.data=.seq ì n/\ì.size<=Ú/\fR xs ì.toList
abbrev absV:Â->Option V
 |.none=>d7 .non
 |.bool b=>d7<|.bl b
 |.int i _=>d7<|.int i
 |.str x _=>d7<|.str x
 |.bytes b _=>d7<|.byt b
 |.float b _=>d7<|.flt b
 |.ref a=>d7<|.ref a
 |.type n=>d7<|.ty n
 |_=>d8
variable {x:V} {u:Â}
def RelV.abs(r:RelV x u):absV u=d7 x:=by
 cases x with
 |non=>cases r;rfl
 |bl _=>cases r;rfl
 |int _=>obtain⟨t,rfl⟩:=r;rfl
 |str _=>obtain⟨t,rfl⟩:=r;rfl
 |byt _=>obtain⟨t,rfl⟩:=r;rfl
 |flt _=>obtain⟨t,rfl⟩:=r;rfl
 |ref _=>cases r;rfl
 |ty _=>cases r;rfl
def RelV.inj{y:V}(r:RelV x u)(q:RelV y u):x=y:=í (r.abs.symm.trans q.abs)
def fR.inj:∀{xs ys:List V}{us:List Â},fR xs us->fR ys us->xs=ys
 |_,_,_,.nil,.nil=>rfl
 |_,_,_,.cons r t,.cons r' t'=>by rw[r.inj r',fR.inj t t']
section
variable {X:Cx}{Á:List (È×Obj)}{σ:St}{H:Hp}{s:Å}{a:È}{xs ys:List V}
def fP.of{K:Frag}(h:H a=d7 (.lst xs)):fP K H a xs:=.inl (.inl h)
def fQ.of{K:Frag}(h:H a=d7 (.tup xs)):fQ K H a xs:=.inl (.inl h)
def Inv.list(I:Inv X Á σ H s)(h:fP X.K H a xs):∃ì:List Â,fR xs ì/\PlainL s.heap a ì.toArray/\xs.length<=Ú:=by
 rcases h with h|⟨o,ì,n,hk,hc,hd,hs,hz,r⟩
 .obtain⟨z,ì,n,r,e⟩:=h.ok I.hok;exact⟨ì,r,⟨_,n,e,rfl,rfl,rfl⟩,z⟩
 .refine⟨ì.toList,r,⟨o,n,I.kIn a o hk,hc,hd,by simpa using hs⟩,?_⟩;have e:=r.length;simp only[ē]at e;lia
def Inv.tuple(I:Inv X Á σ H s)(h:fQ X.K H a xs):∃ì:List Â,fR xs ì/\ϙ s.heap a ì.toArray/\xs.length<=Ú:=by
 rcases h with h|⟨o,ì,n,hk,hc,hs,hz,r⟩
 .obtain⟨z,ì,r,p⟩:=h.ok I.hok;exact⟨ì,r,p,z⟩
 .refine⟨ì.toList,r,⟨o,I.kIn a o hk,hc,n,by simpa using hs⟩,?_⟩;have e:=r.length;simp only[ē]at e;lia
def Inv.list_inj(I:Inv X Á σ H s)(h:fP X.K H a xs)(h':fP X.K H a ys):xs=ys:=by
 obtain⟨ì,r,⟨o,n,e,_,_,d⟩,_⟩:=I.list h;obtain⟨its',r',⟨o',n',e',_,_,d'⟩,_⟩:=I.list h';rw[e]at e';cases e';rw[d]at d';injection d' with d1 _;have:ì=its':=by simpa using congrArg bA d1
 subst this;exact r.inj r'
def Inv.tuple_inj(I:Inv X Á σ H s)(h:fQ X.K H a xs)(h':fQ X.K H a ys):xs=ys:=by
 obtain⟨ì,r,⟨o,e,_,n,d⟩,_⟩:=I.tuple h;obtain⟨its',r',⟨o',e',_,n',d'⟩,_⟩:=I.tuple h';rw[e]at e';cases e';rw[d]at d';injection d' with d1 _;have:ì=its':=by simpa using congrArg bA d1
 subst this;exact r.inj r'
end
noncomputable abbrev Cx.wish(X:Cx)(E:Â->Å->Prop):Cx:={X with xe:=E}
noncomputable abbrev Cx.nox(X:Cx):Cx:=X.wish λ_ _=>False
variable {X:Cx}
def Cx.Ok.wish(ok:X.Ok)(E:Â->Å->Prop):(X.wish E).Ok :=
 ⟨ok.mod,ok.kind,ok.glob,ok.blt,ok.above,ok.inj,ok.has,ok.cab,ok.hd,ok.frames,ok.stk,ok.exf,ok.bs,ok.bsz,ok.noex,ok.exfs,ok.funs,ok.frf⟩
def Cx.Ok.unwish{E:Â->Å->Prop}(ok:(X.wish E).Ok):X.Ok :=
 ⟨ok.mod,ok.kind,ok.glob,ok.blt,ok.above,ok.inj,ok.has,ok.cab,ok.hd,ok.frames,ok.stk,ok.exf,ok.bs,ok.bsz,ok.noex,ok.exfs,ok.funs,ok.frf⟩
section
variable {X:Cx}{Á:List (È×Obj)}{σ:St}{H:Hp}{s:Å}{E:Â->Å->Prop}
def Inv.wish(I:Inv X Á σ H s)(E:Â->Å->Prop):Inv (X.wish E) Á σ H s:=⟨I.ok.wish E,I.os,I.bare,I.base,I.loc,I.cell,I.free,I.freeC,I.pin,I.hok,I.len⟩
def Inv.unwish(I:Inv (X.wish E) Á σ H s):Inv X Á σ H s:=⟨I.ok.unwish,I.os,I.bare,I.base,I.loc,I.cell,I.free,I.freeC,I.pin,I.hok,I.len⟩
def SP.unwish{D:Ends}{f:Flow}{s':Å}(h:SP (X.wish E) Á D f s'):SP X Á D f s':=by
 cases f with
 |next=>obtain⟨Ŀ,H',I,q⟩:=h;exact⟨Ŀ,H',I.unwish,q⟩
 |brk=>obtain⟨Ŀ,H',I,q⟩:=h;exact⟨Ŀ,H',I.unwish,q⟩
 |cont=>obtain⟨Ŀ,H',I,q⟩:=h;exact⟨Ŀ,H',I.unwish,q⟩
 |ret u=>obtain⟨v,Ŀ,H',I,r,q⟩:=h;exact⟨v,Ŀ,H',I.unwish,r,q⟩
variable {e:Expr}
def PE.nox{t:TE}(h:PE X.nox e t):PE X e t:=λÁ s σ H Q I hw =>
 ċ (h Á s σ H Q (I.wish _) hw) (λ_ _ ⟨v,H',I',r,q⟩=>⟨v,H',I'.unwish,r,q⟩) λ_ _ z=>ù z
def PT.nox{t:TT}(h:PT X.nox e t):PT X e t:=λÁ s σ H Q I hw =>
 ċ (h Á s σ H Q (I.wish _) hw) (λ_ _ ⟨H',I',q⟩=>⟨H',I'.unwish,q⟩) λ_ _ z=>ù z
def PSs.nox{st:List Ģ}{t:TS}(h:PSs X.nox st t):PSs X st t:=λÁ s σ H D I hw =>
 ċ (h Á s σ H D (I.wish _) hw) (λ_ _ q=>q.unwish) λ_ _ z=>ù z
end
section
variable {X:Cx}{st:Ģ}{rest:List Ģ}{t u:TS}{e:Expr}{te:TE}{æ:Pos}
abbrev RB:TS:=λD σ H=>D.nx σ H
abbrev Sr(t u:TS):TS:=λD σ H=>t {D with nx:=u D} σ H
def pss_nil:PSs X [] RB:=λ_ _ σ H _ I h=>Œ ⟨σ,H,I,h⟩
def Do(h1:PS X st t)(h2:PSs X rest u):PSs X (st::rest)<|Sr t u:=by
 intro Á s σ H D I h;refine aQ<|thn (h1 Á s σ H {D with nx:=u D} I h) λf s1 q=>?_;cases f with
 |next =>obtain⟨Ŀ,H',I',q⟩:=q;exact h2 Á s1 Ŀ H' D I' q
 |ret v=>exact q
 |brk=>exact q
 |cont=>exact q
def Inv.quiet{Á:List (È×Obj)}{σ:St}{H:Hp}{s:Å}(I:Inv X Á σ H s):interactive X.env=ee:=by simp[interactive,I.ok.kind]
abbrev Rt(te:TE):TS:=λD σ H=>te σ H λ_ H1=>D.nx σ H1
def EL(he:PE X e te)(hs:Ŕ e d8 æ.line X.env=pure ee:=by rfl):PS X (.Expr e æ)<|Rt te:=by intro Á s σ H D I h;exact wpAny_Expr_any (thn (he Á s σ H _ I h) λv s1 ⟨x,H1,I1,r1,q1⟩=>⟨σ,H1,I1,q1⟩) I.quiet hs
abbrev Sx(te:TE):TS:=λD σ H=>te σ H D.rt
def IR(he:PE X e te):PS X (.Return (d7 e) æ)<|Sx te:=by intro Á s σ H D I h;exact wpAny_Return_some (thn (he Á s σ H _ I h) λv s1 ⟨x,H1,I1,r1,q1⟩=>⟨x,σ,H1,I1,r1,q1⟩)
abbrev P4:TS:=λD _ H=>D.rt .non H
def ps_retN:PS X (.Return d8 æ) P4:=λ_ _ σ H _ I h=>wpAny_Return_none ⟨.non,σ,H,I,rfl,h⟩
abbrev Sk(c:TT)(t u:TS):TS:=λD σ H=>c σ H λb H1=>if b=d9 then t D σ H1 else u D σ H1
def RE{c:Expr}{a b:List Ģ}{tc:TT}(hc:PT X c tc)(ha:PSs X a t)(hb:PSs X b u):PS X (.If c a b æ)<|Sk tc t u:=by
 intro Á s σ H D I h;refine wpAny_If<|thn (hc Á s σ H _ I h) λd s1 ⟨H1,I1,q1⟩=>?_;cases d with
 |true=>exact ha Á s1 σ H1 D I1 q1
 |false=>exact hb Á s1 σ H1 D I1 q1
end
noncomputable abbrev TG:=V->St->Hp->(St->Hp->Prop)->Prop
noncomputable abbrev TGs:=List V->St->Hp->(St->Hp->Prop)->Prop
abbrev PG(X:Cx)(Ϭ:Expr)(t:TG):Prop :=
 ∀(Á:List<|È×Obj) (s:Å) (σ:St) (H:Hp) (v:V) (u:Â) (Q:St->Hp->Prop),Inv X Á σ H s->RelV v u->t v σ H Q->
  wpAny (à X.prog X.w) X.A (ŵ Ϭ X.env u) (λ_ s'=>∃Ŀ H',Inv X Á Ŀ H' s'/\Q Ŀ H') X.xe s
abbrev PGs(X:Cx)(ts:List Expr)(t:TGs):Prop :=
 ∀(Á:List<|È×Obj) (s:Å) (σ:St) (H:Hp) (vs:List V) (us:List Â) (Q:St->Hp->Prop),Inv X Á σ H s->fR vs us->t vs σ H Q->
  wpAny (à X.prog X.w) X.A (assignInOrder ((ě ts X.env).map (·.2)) us) (λ_ s'=>∃Ŀ H',Inv X Á Ŀ H' s'/\Q Ŀ H') X.xe s
noncomputable abbrev CF:=V->V->V->Hp->(Hp->Prop)->Prop
abbrev PSet(X:Cx)(t:CF):Prop :=
 ∀(Á:List<|È×Obj) (s:Å) (σ:St) (H:Hp) (o i v:V) (ov iv u:Â) (Q:Hp->Prop),Inv X Á σ H s->RelV o ov->RelV i iv->RelV v u->t o i v H Q->
  wpAny (à X.prog X.w) X.A (aB ov iv u) (λ_ s'=>∃H',Inv X Á σ H' s'/\Q H') X.xe s
noncomputable abbrev TIp:=V->V->Hp->VK->Prop
abbrev PIp(X:Cx)(op:Ψ)(t:TIp):Prop :=
 ∀(Á:List<|È×Obj) (s:Å) (σ:St) (H:Hp) (x y:V) (v u:Â) (Q:VK),Inv X Á σ H s->RelV x v->RelV y u->t x y H Q->
  wpAny (à X.prog X.w) X.A (inplaceOp op v u) (EP X Á σ Q) X.xe s
section
variable {X:Cx}{æ:Pos}
abbrev Hr(i:Nat):TG:=λv σ H Q=>Q (σ.set i<|d7 v) H
def Uc{i:Nat}{x:Str}(hN:X.N.Nodup)(hi:X.N[i]?=d7 x)(hx:Loc X.env.scope x)(hf:X.fn x=d9\/X.env.scope.names.lookup x=d7 .local:=by first|exact .inl rfl|exact .inr rfl|assumption):PG X (.Name x æ)<|Hr i:=by intro Á s σ H v u Q I r h;exact wpAny_assign_Name (JY I hN hi hx r (λs' I'=>⟨_,H,I',h⟩) hf)
abbrev SN:TGs:=λvs σ H Q=>vs=[]/\Q σ H
abbrev Rb(t:TG)(u:TGs):TGs:=λvs σ H Q=>∃v r,vs=v::r/\t v σ H λĿ H'=>u r Ŀ H' Q
def pgs_nil:PGs X [] SN:=by intro Á s σ H vs us Q I r h;obtain⟨e,h⟩:=h;subst e;cases r;exact assignInOrder_nil ⟨σ,H,I,h⟩
variable {e:Expr} {es:List Expr}
def JH{t:TG}{u:TGs}(h1:PG X e t)(h2:PGs X es u)
  (hs:(ě (e::es) X.env).map (·.2)=ŵ e X.env::(ě es X.env).map (·.2):=by rfl):PGs X (e::es)<|Rb t u:=by
 intro Á s σ H vs us Q I r h;obtain⟨v,vr,e1,h⟩:=h;subst e1;cases r with
 |cons r rr =>rw[hs];refine assignInOrder_cons<|thn (h1 Á s σ H _ _ _ I r h) λ_ s1 ⟨σ1,H1,I1,q1⟩=>?_;exact h2 Á s1 σ1 H1 _ _ Q I1 rr q1
abbrev Se(K:Frag)(n:Nat)(t:TGs):TG:=λv σ H Q=>∃a xs,v=.ref a/\fQ K H a xs/\xs.length=n/\t xs σ H Q
def BV{k:Nat}{t:TGs}{n:Nat}(hc:X.calm=d9)(h:PGs X es t)
  (hn:(ě es X.env).length=n:=by rfl) (ņ:(ě es X.env).findIdx? (·.1)=d8:=by rfl):PG X (.Tuple es k æ)<|Se X.K n t:=by
 intro Á s σ H v u Q I r hw;obtain⟨a,xs,e1,hq,hl,hw⟩:=hw;subst e1;cases r;obtain⟨ì,rv,ht,hz⟩:=I.tuple hq;refine assign_Tuple_tuple (I.ok.hd hc) ht (by simp[hn,<-hl,rv.length]) ņ λh' hx=>?_;have I1:Inv X Á σ H {s with heap:=h'}:=I.kept (t':=s.toks) λb o e=>hx b o (ç<|Ô e) e;exact h Á _ σ H xs _ Q I1 (by simpa using rv) hw
abbrev Ql(to ti:TE)(t:CF):TG:=λv σ H Q=>to σ H λo H1=>ti σ H1 λi H2=>t o i v H2 λH3=>Q σ H3
variable {o:Expr} {i:Expr} {to:TE} {ti:TE}
def Iy{t:CF}(ho:PE X o to)(hi:PE X i ti)(hs:PSet X t)
  (ha:∀v,ŵ (.Subscript o i æ) X.env v=(do
    let ov<-Ł [v] (eval o X.env)
    let iv<-Ł [v,ov] (eval i X.env)
    Ÿ æ
    Ł [v,ov,iv] (aB ov iv v)
    dL [v,ov,iv] []):=by intro _;rfl):PG X (.Subscript o i æ)<|Ql to ti t:=by
 intro Á s σ H v u Q I r h;rw[ha];refine Ã<|ŕ<|thn (ho Á s σ H _ I h) λov s1 ⟨x,H1,I1,r1,q1⟩=>?_;refine Ã<|ŕ<|thn (hi Á s1 σ H1 _ I1 q1) λiv s2 ⟨y,H2,I2,r2,q2⟩=>?_;refine Ã<|cO<|Ã<|ŕ<|thn (hs Á s2 σ H2 x y v ov iv u _ I2 r1 r2 r q2) λ_ s3 ⟨H3,I3,q3⟩=>?_;exact wpAny_release ⟨σ,H3,I3,q3⟩
abbrev Qz(te:TE)(g:TG):TS:=λD σ H=>te σ H λx H1=>g x σ H1 D.nx
variable {te:TE}
def CG{tg:Expr}{g:TG}(he:PE X e te)(hg:PG X tg g)(hs:Ν [tg] e æ.line X.env=pure ee:=by rfl)(hw:Ξ [tg] e X.env=pure d8:=by rfl)
  (h1:(ě [tg] X.env).map (·.2)=[ŵ tg X.env]:=by rfl):PS X (.Assign [tg] e æ)<|Qz te g:=by
 intro Á s σ H D I h;refine wpAny_Assign_stores (thn (he Á s σ H _ I h) λv s1 ⟨x,H1,I1,r1,q1⟩=>?_) hs hw;rw[h1];exact thn (hg Á s1 σ H1 x v _ I1 r1 q1) λ_ s2 q=>q
abbrev Rl(to ti te:TE)(tget:V->V->Hp->VK->Prop)(tip:TIp)(tset:CF):TS:=λD σ H=>to σ H λo H1=>ti σ H1 λi H2=>tget o i H2 λx H3=>te σ H3 λy H4=>tip x y H4 λz H5=>tset o i z H5 λH6=>D.nx σ H6
abbrev PGet(X:Cx)(t:V->V->Hp->VK->Prop):Prop :=
 ∀(Á:List<|È×Obj) (s:Å) (σ:St) (H:Hp) (o i:V) (ov iv:Â) (Q:VK),Inv X Á σ H s->RelV o ov->RelV i iv->t o i H Q->
  wpAny (à X.prog X.w) X.A (ϒ ov iv) (EP X Á σ Q) X.xe s
def Gf{tget:V->V->Hp->VK->Prop}{tip:TIp}{tset:CF}{op:Ψ}{ck:Pos}(ho:PE X o to)(hi:PE X i ti)(hg:PGet X tget)(he:PE X e te)(hp:PIp X op tip)(hs:PSet X tset)
  (ha:∀ov iv new,augStore i ov iv new=(do Ł [new,ov,iv] (aB ov iv new);dL [new,ov,iv] [];pure .next):=by intros;rfl):PS X (.AugAssign (.Subscript o i ck) op e æ)<|Rl to ti te tget tip tset:=by
 intro Á s σ H D I h;refine wpAny_AugAssign_SubscriptAny (thn (ho Á s σ H _ I h) λov s1 ⟨x1,H1,I1,r1,q1⟩=>?_) ha;refine thn (hi Á s1 σ H1 _ I1 q1) λiv s2 ⟨x2,H2,I2,r2,q2⟩=>?_;refine thn (hg Á s2 σ H2 x1 x2 ov iv _ I2 r1 r2 q2) λΒ s3 ⟨x3,H3,I3,r3,q3⟩=>?_;refine thn (he Á s3 σ H3 _ I3 q3) λv s4 ⟨x4,H4,I4,r4,q4⟩=>?_;refine thn (hp Á s4 σ H4 x3 x4 Β v _ I4 r3 r4 q4) λnew s5 ⟨x5,H5,I5,r5,q5⟩=>?_;exact thn (hs Á s5 σ H5 x1 x2 x5 ov iv new _ I5 r1 r2 r5 q5) λ_ s6 ⟨H6,I6,q6⟩=>⟨σ,H6,I6,q6⟩
end
section
variable {X:Cx}{æ:Pos}
abbrev HJ(c:TT)(tb:TS):TS:=λD σ H=>∃W:Nat->St->Hp->Prop,(∃m,W m σ H)/\∀m σ H,W m σ H->
 c σ H λb H1=>if b=d9 then ∃N:St->Hp->Prop,(∀Ŀ H',N Ŀ H'->∃m',m'<m/\W m' Ŀ H')/\tb {D with nx:=N,ct:=N,bk:=D.nx} σ H1 else D.nx σ H1
def Di{c:Expr}{body:List Ģ}{tc:TT}{tb:TS}(hp:Α (à X.prog X.w) X.A X.env X.xe)(hc:PT X c tc)(hb:PSs X body tb):PS X (.While c body [] æ)<|HJ tc tb:=by
 intro Á s σ H D I h;obtain⟨W,⟨m0,w0⟩,turn⟩:=h;refine wpAny_While<|codeAny_whileLoop (λn s'=>∃Ŀ H',Inv X Á Ŀ H' s'/\W n Ŀ H') ?_ m0 ⟨σ,H,I,w0⟩;rintro n s1 ⟨σ1,H1,I1,w1⟩;refine œ hp<|thn (hc Á s1 σ1 H1 _ I1<|turn n σ1 H1 w1) λb s2 ⟨H2,I2,q2⟩=>?_;cases b with
 |true =>
  obtain⟨N,hN,q2⟩:=q2;rw[fZ rfl];refine œ hp<|thn (hb Á s2 σ1 H2 _ I2 q2) λf s3 q3=>?_;cases f with
  |next =>obtain⟨aW,H3,I3,n3⟩:=q3;obtain⟨m',hm,w3⟩:=hN aW H3 n3;exact⟨m',hm,aW,H3,I3,w3⟩
  |cont =>obtain⟨aW,H3,I3,n3⟩:=q3;obtain⟨m',hm,w3⟩:=hN aW H3 n3;exact⟨m',hm,aW,H3,I3,w3⟩
  |brk=>exact q3
  |ret v=>exact q3
 |false =>rw[f8 ø];exact Œ ⟨σ1,H2,I2,q2⟩
end
structure It where
 go:Nat->Hp->Prop
 yld:Nat->Hp->V->Hp->Prop
 stop:Nat->Hp->Prop
abbrev WJ(X:Cx)(Á:List<|È×Obj)(H:Hp)(b:È):Prop :=
 H b=d8/\b≠X.env.locals/\b∉X.fs/\(b∈X.ex\/X.s₀.heap.objs.size<=b)/\(∀x c,X.env.cells.lookup x=d7 c->c≠b)/\∀p∈X.pn++Á,p.1≠b
variable {s:Å}
def Inv.fpOk{Á:List (È×Obj)}{σ:St}{H H':Hp}{b:È}(I:Inv X Á σ H s)(hb:s.heap.objs.size<=b)(hn:H' b=d8):WJ X Á H' b:=by
 refine⟨hn,Ŋ<|è I.lt hb,I.nofs hb,.inr<|ß I.sz hb,λx c e z=>?_,λp hp z=>?_⟩
 .obtain⟨v,q⟩:=I.cell x c e;exact gf (è q.lt<|by rw[z];exact hb)<|ĝ _
 .exact gf (è (Ô (I.pin p hp).1)<|by rw[z];exact hb)<|ĝ _
structure Turn(P:ê)(w:ý)(K:Frag)(tg:Expr)(J:It)(fp:List È)(it:È)(tn:Nat->ü->Prop):Prop where
 mem:it∈fp
 obj:∀i h,tn i h->∀b∈fp,∃o,h.get? b=d7 o/\∀v,o.data≠.cell v
 keep:∀i h h',tn i h->(∀b∈fp,∀o,h.get? b=d7 o->h'.get? b=d7 o)->tn i h'
 item:∀(X:Cx),X.prog=P->X.w=w->X.K=K->X.calm=d9->∀(i:Nat) (Á:List<|È×Obj) (s:Å) (σ:St) (H:Hp) (E:Â->Å->Prop),Inv X Á σ H s->(∀b∈fp,WJ X Á H b)->tn i s.heap->J.go i H->
  wpAny (à P w) X.A (Ο<|.ref it) (λr s1=>∃u,r=d7 u/\
    wpAny (à P w) X.A (Ϛ tg (.ref it) u) (λ_ s2=>∃x H',Inv X Á σ H' s2/\RelV x u/\J.yld i H x H'/\tn (i+1) s2.heap/\∀b∈fp,H' b=d8) E s1) E s
 done:∀(X:Cx),X.prog=P->X.w=w->X.K=K->X.calm=d9->∀(i:Nat) (Á:List<|È×Obj) (s:Å) (σ:St) (H:Hp) (E:Â->Å->Prop),Inv X Á σ H s->(∀b∈fp,WJ X Á H b)->tn i s.heap->J.stop i H->
  wpAny (à P w) X.A (Ο<|.ref it) (λr s1=>r=d8/\Inv X Á σ H s1) E s
 self:∀(A:č) (i:Nat) (s:Å) (Q:Â->Å->Prop) (E:Â->Å->Prop),tn i s.heap->Q (.ref it) s->wpAny (à P w) A (pyIter<|.ref it) Q E s
noncomputable abbrev TI:=St->Hp->(It->Hp->Prop)->Prop
abbrev PIE(X:Cx)(Á:List<|È×Obj)(σ:St)(tg:Expr)(R:It->Hp->Prop)(itv:Â)(s2:Å):Prop :=
 ∃(it:È) (fp:List È) (tn:Nat->ü->Prop) (J:It) (H':Hp),itv=.ref it/\Inv X Á σ H' s2/\Turn X.prog X.w X.K tg J fp it tn/\tn 0 s2.heap/\(∀b∈fp,WJ X Á H' b)/\R J H'
abbrev PI(X:Cx)(tg Ť:Expr)(wi:TI):Prop :=
 ∀(Á:List<|È×Obj) (s:Å) (σ:St) (H:Hp) (R:It->Hp->Prop),Inv X Á σ H s->wi σ H R->
  wpAny (à X.prog X.w) X.A (eval Ť X.env) (λv s1=>wpAny (à X.prog X.w) X.A (pyIter v) (PIE X Á σ tg R) X.xe s1) X.xe s
variable {tg:Expr}
def eF{M:df}{A:č}{E:Â->Å->Prop}{it:È}{o:Obj}{n:String}{vs:Array Â}{Q:Unit->Å->Prop}(ho:s.heap.get? it=d7 o)(hc:o.cls=.type n)(hd:o.data=.fields vs)
  (hn:["enumerate","zip","dict_itemiterator","dict_reverseitemiterator","odict_iterator","itertools.zip_longest","itertools.pairwise"].contains n=ee) (hQ:Q () s):wpAny M A (Ϛ tg (.ref it) u) Q E s:=by
 unfold Ϛ;cases tg<;>first
  |exact Ò hQ
  | (cases u<;>first
      |exact Ò hQ
      | (refine Ã (wpAny_load ho ?_)
         rw[hc,hd]
         show wpAny M A (if(["enumerate","zip","dict_itemiterator","dict_reverseitemiterator","odict_iterator","itertools.zip_longest","itertools.pairwise"].contains n&&vs[0]? == d7 (aR _))=d9 then _ else _) Q E s
         rw[f8<|by intro h;rw[hn,aJ]at h;cases h]
         exact Ò hQ))
abbrev Itl(K:Frag)(a:È):It :=
 ⟨λi H=>∃xs x,fP K H a xs/\xs[i]?=d7 x,λi H x H'=>H'=H/\∀xs,fP K H a xs->xs[i]?=d7 x,λi H=>∃xs,fP K H a xs/\xs.length<=i⟩
abbrev Itt(K:Frag)(a:È):It :=
 ⟨λi H=>∃xs x,fQ K H a xs/\xs[i]?=d7 x,λi H x H'=>H'=H/\∀xs,fQ K H a xs->xs[i]?=d7 x,λi H=>∃xs,fQ K H a xs/\xs.length<=i⟩
abbrev Itr(lo:Int)(n:Nat):It:=⟨λi _=>i<n,λi H x H'=>H'=H/\x=.int (lo+i),λi _=>n<=i⟩
variable {P:ê} {w:ý}
def AS{K:Frag}(a it:È):Turn P w K tg (Itl K a) [it] it (λi h=>h.IsListIter it a i) where
 mem:=by simp
 obj:=λi h st b hb=>by
  have e:b=it:=by simpa using hb
  subst e;obtain⟨o,e,c,d⟩:=st;exact⟨o,e,λv z=>by rw[d]at z;cases z⟩
 keep:=λi h h' st k=>st.at λo e=>k it (by simp) o e
 item:=by intro X hP hw hK hc i Á s σ H E I hf st hg;subst hP hw hK;obtain⟨xs,x,hq,hx⟩:=hg;obtain⟨ì,rv,p,hz⟩:=I.list hq;obtain⟨u,hu,ru⟩:=rv.get hx;obtain⟨f0,f1,f2,f3,f4,f5⟩:=hf it (by simp);refine wpAny_pyNext_list_item st p.isList (x:=u) (by simpa using hu) λh' st' sb=>?_;have I1:Inv X Á σ H {s with heap:=h'}:=I.turned (t':=s.toks) (λb o hb e=>(sb.2 b hb).trans e) f0 f1 f3 f4 f5;obtain⟨o,e,c,d⟩:=id st';exact⟨u,rfl,eF (s:={s with heap:=h'}) e c d (by decide) ⟨x,H,I1,ru,⟨rfl,λys hy=>by rw[I.list_inj hy hq];exact hx⟩,st',λb hb=>(hf b hb).1⟩⟩
 done:=by intro X hP hw hK hc i Á s σ H E I hf st hg;subst hP hw hK;obtain⟨xs,hq,hx⟩:=hg;obtain⟨ì,rv,p,hz⟩:=I.list hq;obtain⟨f0,f1,f2,f3,f4,f5⟩:=hf it (by simp);have hl:=rv.length;exact wpAny_pyNext_list_end (I.ok.hd hc) st p.isList (by simp;lia) λh' eb=>⟨rfl,I.turned (t':=s.toks) (λb o hb e=>eb b o hb e) f0 f1 f3 f4 f5⟩
 self:=λ_ _ _ _ _ st h=>wpAny_pyIter_listiter st h
def OZ{K:Frag}(a it:È):Turn P w K tg (Itt K a) [it] it (λi h=>h.IsTupleIter it a i) where
 mem:=by simp
 obj:=λi h st b hb=>by
  have e:b=it:=by simpa using hb
  subst e;obtain⟨o,e,c,d⟩:=st;exact⟨o,e,λv z=>by rw[d]at z;cases z⟩
 keep:=λi h h' st k=>st.at λo e=>k it (by simp) o e
 item:=by intro X hP hw hK hc i Á s σ H E I hf st hg;subst hP hw hK;obtain⟨xs,x,hq,hx⟩:=hg;obtain⟨ì,rv,p,hz⟩:=I.tuple hq;obtain⟨u,hu,ru⟩:=rv.get hx;obtain⟨f0,f1,f2,f3,f4,f5⟩:=hf it (by simp);refine wpAny_pyNext_tuple_item st (show s.heap.IsTuple a ì.toArray from p) (x:=u) (by simpa using hu) λh' st' sb=>?_;have I1:Inv X Á σ H {s with heap:=h'}:=I.turned (t':=s.toks) (λb o hb e=>(sb.2 b hb).trans e) f0 f1 f3 f4 f5;obtain⟨o,e,c,d⟩:=id st';exact⟨u,rfl,eF (s:={s with heap:=h'}) e c d (by decide) ⟨x,H,I1,ru,⟨rfl,λys hy=>by rw[I.tuple_inj hy hq];exact hx⟩,st',λb hb=>(hf b hb).1⟩⟩
 done:=by intro X hP hw hK hc i Á s σ H E I hf st hg;subst hP hw hK;obtain⟨xs,hq,hx⟩:=hg;obtain⟨ì,rv,p,hz⟩:=I.tuple hq;obtain⟨f0,f1,f2,f3,f4,f5⟩:=hf it (by simp);have hl:=rv.length;exact wpAny_pyNext_tuple_end (I.ok.hd hc) st (show s.heap.IsTuple a ì.toArray from p) (by simp;lia) λh' eb=>⟨rfl,I.turned (t':=s.toks) (λb o hb e=>eb b o hb e) f0 f1 f3 f4 f5⟩
 self:=λ_ _ _ _ _ st h=>wpAny_pyIter_tupleiter st h
def N9{K:Frag}(it:È)(lo:Int)(n:Nat):Turn P w K tg (Itr lo n) [it] it (λi h=>IsRangeIter h it (lo+(i:Nat)*1) ((n:Int) - (i:Nat)) 1) where
 mem:=by simp
 obj:=λi h st b hb=>by
  have e:b=it:=by simpa using hb
  subst e;exact⟨_,st,λv z=>by
    have z':Data.fields _=Data.cell v:=z
    cases z'⟩
 keep:=λi h h' st k=>k it (by simp) _ st
 item:=by intro X hP hw hK hc i Á s σ H E I hf st hg;subst hP hw hK;obtain⟨f0,f1,f2,f3,f4,f5⟩:=hf it (by simp);have W:=Walks.range (prog:=X.prog) (w:=X.w) (I.ok.hd hc) it lo 1 n;refine W.item i s _ _ hg st λv h' tk hv st' kk=>?_;obtain⟨t,rfl⟩:=hv;have I1:Inv X Á σ H {s with heap:=h',toks:=tk}:=I.turned (λb o hb e=>kk b o (by simpa using hb) e) f0 f1 f3 f4 f5;refine⟨_,rfl,eF (s:={s with heap:=h',toks:=tk}) (n:="range_iterator") st' rfl rfl (by decide) ⟨.int<|lo+i,H,I1,⟨t,?_⟩,⟨rfl,rfl⟩,st',λb hb=>(hf b hb).1⟩⟩;rw[Int.mul_one]
 done:=by intro X hP hw hK hc i Á s σ H E I hf st hg;subst hP hw hK;obtain⟨f0,f1,f2,f3,f4,f5⟩:=hf it (by simp);exact wpAny_pyNext_range_end (I.ok.hd hc) st (by have:n<=i:=hg;lia) λh' eb=>⟨rfl,I.turned (t':=s.toks) (λb o hb e=>eb b o hb e) f0 f1 f3 f4 f5⟩
 self:=λ_ _ _ _ _ st h=>wpAny_pyIter_rangeiter st h
section
variable {X:Cx}{tg:Expr}
variable {Á:List (È×Obj)} {σ:St} {H:Hp} {s:Å}
def Nm{R:It->Hp->Prop}{E:Â->Å->Prop}{lo hi:Int}{t u v:Tok}{tk:Nat}(I:Inv X Á σ H s)(h1:-(2 ^ 62)<=lo)(h2:lo<2 ^ 62)(h3:-(2 ^ 62)<=hi)(h4:hi<2 ^ 62)
  (q:R (Itr lo (hi - lo).toNat) H):wpAny (à X.prog X.w) X.A (pyIter<|.ref s.heap.objs.size) (PIE X Á σ tg R) E {s with heap:=s.heap.push {cls:=.type "range",data:=.fields #[.int lo t,.int hi u,.int 1 v]},toks:=tk}:=by
 refine wpAny_pyIter_range (IsRange.new ..) (small_one h1 h2 h3 h4) ?_;have I1:Inv X Á σ H { s with heap:=s.heap.push { cls:=.type "range",data:=.fields #[.int lo t,.int hi u,.int 1 v] },toks:=tk }:=I.kept λb o e=>Ä _ e;refine⟨(s.heap.push { cls:=.type "range",data:=.fields #[.int lo t,.int hi u,.int 1 v] }).objs.size,[(s.heap.push { cls:=.type "range",data:=.fields #[.int lo t,.int hi u,.int 1 v] }).objs.size],_,_,H,rfl,
   I1.kept (t':=tk) λb o e=>Ä _ e,N9 _ lo (hi - lo).toNat,?_,λb hb=>?_,q⟩
 .have e1:lo+((0:Nat):Int)*1=lo:=by simp
  have e2:(((hi - lo).toNat:Nat):Int) - ((0:Nat):Int)=Builtin.Range.rangeSize lo hi 1:=by rw[rangeSize_one];split<;>lia
  show IsRangeIter _ _ (lo+((0:Nat):Int)*1) ((((hi - lo).toNat:Nat):Int) - ((0:Nat):Int)) 1;rw[e1,e2];exact Ö _ rfl
 .have e:b=(s.heap.push {cls:=.type "range",data:=.fields #[.int lo t,.int hi u,.int 1 v]}).objs.size:=by simpa using hb
  subst e;exact I1.fpOk (Í _)<|I1.hok.fresh<|Í _
abbrev QM(ta:TA):TI:=λσ H R=>ta σ H λvs H1=>∃j:Int,vs=[.int j]/\-(2 ^ 62)<=j/\j<2 ^ 62/\R (Itr 0 j.toNat) H1
abbrev Qu(ta:TA):TI:=λσ H R=>ta σ H λvs H1=>∃i j:Int,vs=[.int i,.int j]/\(-(2 ^ 62)<=i/\i<2 ^ 62/\-(2 ^ 62)<=j/\j<2 ^ 62)/\R (Itr i (j - i).toNat) H1
variable {a:Expr} {ta:TA} {p:Pos} {æ:Pos}
def AD(hg:Gl X "range")(hm:X.mg "range" = d8)(ha:PA X [a] ta)(hs:Ì [a] X.env=[(ee,eval a X.env)]:=by rfl):PI X tg (.Call (.Name "range" p) [a] [] æ)<|QM ta:=by
 intro Á s σ H R I h;refine Call_<|XY I hg hm boot_range<|PyProof.Rows.callWith_type1 (thn (ha æ Á s σ H _ I h) λus s1 ⟨vs,H1,I1,r1,q1⟩=>?_) hs rfl;obtain⟨j,e,q1,q2,q⟩:=q1;subst e;cases r1 with
 |cons r rr =>cases rr;obtain⟨t,rfl⟩:=r;exact call_range_1 (Nm I1 (by lia) (by lia) q1 q2<|by simpa using q)
def Bf{b:Expr}(hg:Gl X "range")(hm:X.mg "range" = d8)(ha:PA X [a,b] ta)(hs:Ì [a,b] X.env=[(ee,eval a X.env),(ee,eval b X.env)]:=by rfl)(hs2:Ì [b] X.env=[(ee,eval b X.env)]:=by rfl) :
  PI X tg (.Call (.Name "range" p) [a,b] [] æ) (Qu ta):=by
 intro Á s σ H R I h;refine Call_ (XY I hg hm boot_range<|PyProof.Rows.callWith_type1 (thn (ha æ Á s σ H _ I h) λus s1 ⟨vs,H1,I1,r1,q1⟩=>?_) (by rw[hs,hs2])<|by rw[hs2];rfl);obtain⟨i,j,e,⟨q1,q2,q3,q4⟩,q⟩:=q1;subst e;cases r1 with
 |cons r rr =>
  cases rr with
  |cons r' rr =>cases rr;obtain⟨t,rfl⟩:=r;obtain⟨t',rfl⟩:=r';exact call_range_2<|Nm I1 q1 q2 q3 q4 q
abbrev SE(wi:TI)(g:TG)(tb:TS):TS:=λD σ H=>wi σ H λJ H1=>∃W:Nat->Nat->St->Hp->Prop,(∃m,W 0 m σ H1)/\∀i m σ H,W i m σ H->
 (J.stop i H/\D.nx σ H)\/(J.go i H/\∃N:St->Hp->Prop,(∀Ŀ H',N Ŀ H'->∃m',m'<m/\W (i+1) m' Ŀ H')/\∀x H',J.yld i H x H'->g x σ H' λσ2 H2=>tb {D with nx:=N,ct:=N,bk:=D.nx} σ2 H2)
abbrev XT(fp:List È)(h:ü):List<|È×Obj:=fp.filterMap λb=>(h.get? b).map λo=>(b,o)
variable {fp:List È} {h:ü}
def Z0{b:È}{o:Obj}(hb:b∈fp)(e:h.get? b=d7 o):(b,o)∈XT fp h:=ſ.mpr ⟨b,hb,by rw[e];rfl⟩
def K1{p:È×Obj}(hp:p∈XT fp h):p.1∈fp/\h.get? p.1=d7 p.2:=by
 obtain⟨b,hb,e⟩:=ſ.mp hp;cases q:h.get? b with
 |none=>rw[q]at e;cases e
 |some o =>rw[q]at e;have e':(b,o)=p:=í e;subst e';exact⟨hb,q⟩
def Inv.pinned(I:Inv X Á σ H s)(hf:∀b∈fp,WJ X Á H b)(ho:∀b∈fp,∃o,s.heap.get? b=d7 o/\∀v,o.data≠.cell v):Inv X (Á++XT fp s.heap) σ H s :=
 I.pins_of λp hp=>(â.mp hp).elim (λz=>I.pin p<|É _ z) λz=>by obtain⟨hb,e⟩:=K1 z;obtain⟨f0,f1,f2,_⟩:=hf p.1 hb;obtain⟨o,e',d⟩:=ho p.1 hb;rw[e]at e';cases e';exact⟨e,f0,f1,f2,d⟩
def Inv.unpinned{pl:List (È×Obj)}(I:Inv X (Á++pl) σ H s):Inv X Á σ H s:=I.pins_of λp hp=>I.pin p (É _<|Ù _ hp)
def CW{Ť:Expr}{body:List Ģ}{wi:TI}{g:TG}{tb:TS}(hp:Α (à X.prog X.w) X.A X.env X.xe)(hc:X.calm=d9)(hi:PI X tg Ť wi)(hg:PG X tg g)(hb:PSs X body tb)
  (hs:∀x,ĕ Ť X.env x=pure x:=by intro _;rfl):PS X (.For tg Ť body [] æ)<|SE wi g tb:=by
 intro Á s σ H D I h;refine wpAny_For (thn (hi Á s σ H _ I h) λv s1 h1=>thn h1 λitv s2 h2=>?_) hs;obtain⟨it,fp,tn,J,H2,e,I2,T,st2,f2,W,⟨m0,w0⟩,turn⟩:=h2;subst e;have stat:∀{H':Hp},(∀b∈fp,H' b=d8)->∀b∈fp,WJ X Á H' b:=λhn b hb=>⟨hn b hb,(f2 b hb).2⟩
 refine codeAny_forLoop_any (λn s'=>∃i Ŀ H',Inv X Á Ŀ H' s'/\tn i s'.heap/\(∀b∈fp,H' b=d8)/\W i n Ŀ H') ?_ m0 ⟨0,σ,H2,I2,st2,λb hb=>(f2 b hb).1,w0⟩;rintro n s3 ⟨i,aW,H3,I3,st3,fr3,w3⟩;rcases turn i n aW H3 w3 with⟨stop,qn⟩|⟨go,N,hN,step⟩
 .refine œ hp<|thn (T.done X rfl rfl rfl hc i Á s3 aW H3 X.xe I3 (stat fr3) st3 stop) λr s4 ⟨hr,I4⟩=>?_;subst hr;exact Œ ⟨aW,H3,I4,qn⟩
 .refine œ hp<|thn (T.item X rfl rfl rfl hc i Á s3 aW H3 X.xe I3 (stat fr3) st3 go) λr s4 ⟨u,hr,h4⟩=>?_;subst hr;refine œ hp<|thn h4 λ_ s5 ⟨x,H5,I5,r5,y5,st5,fr5⟩=>?_;have I5':=I5.pinned (stat fr5)<|T.obj _ _ st5;refine œ hp<|thn (hg _ s5 aW H5 x u _ I5' r5<|step x H5 y5) λ_ s6 ⟨σ6,H6,I6,q6⟩=>?_;refine œ hp<|thn (hb _ s6 σ6 H6 _ I6 q6) λf s7 q7=>?_;have again:∀{aX:St}{H7:Hp},Inv X (Á++XT fp s5.heap) aX H7 s7->N aX H7->∃m,m<n/\∃i Ŀ H',Inv X Á Ŀ H' s7/\tn i s7.heap/\(∀b∈fp,H' b=d8)/\W i m Ŀ H':=λ{aX H7} I7 n7=>by
   obtain⟨m',hm,w7⟩:=hN aX H7 n7;refine⟨m',hm,i+1,aX,H7,I7.unpinned,T.keep _ _ _ st5 λb hb o e=>(I7.pin (b,o)<|É _<|É _<|Z0 hb e).1,λb hb=>?_,w7⟩;obtain⟨o,e,d⟩:=T.obj _ _ st5 b hb;exact(I7.pin (b,o)<|É _<|É _<|Z0 hb e).2.1
  cases f with
  |next=>obtain⟨aX,H7,I7,n7⟩:=q7;exact again I7 n7
  |cont=>obtain⟨aX,H7,I7,n7⟩:=q7;exact again I7 n7
  |brk=>obtain⟨aX,H7,I7,q7⟩:=q7;exact⟨aX,H7,I7.unpinned,q7⟩
  |ret v=>obtain⟨x7,aX,H7,I7,r7,q7⟩:=q7;exact⟨x7,aX,H7,I7.unpinned,r7,q7⟩
end
noncomputable abbrev R2:=V->V->Hp->VK->Prop
abbrev OpR(X:Cx)(f:Â->Â->Sem Â)(r:R2):Prop :=
 ∀(Á:List<|È×Obj) (s:Å) (σ:St) (H:Hp) (x y:V) (v u:Â) (Q:VK),Inv X Á σ H s->RelV x v->RelV y u->r x y H Q->
  wpAny (à X.prog X.w) X.A (f v u) (EP X Á σ Q) X.xe s
abbrev UnR(X:Cx)(f:Â->Sem Â)(r:V->Hp->VK->Prop):Prop :=
 ∀(Á:List<|È×Obj) (s:Å) (σ:St) (H:Hp) (x:V) (v:Â) (Q:VK),Inv X Á σ H s->RelV x v->r x H Q->
  wpAny (à X.prog X.w) X.A (f v) (EP X Á σ Q) X.xe s
abbrev eM(X:Cx)(f:Â)(r:List V->Hp->VK->Prop):Prop :=
 ∀(Á:List<|È×Obj) (s:Å) (σ:St) (H:Hp) (xs:List V) (us:List Â) (Q:VK),Inv X Á σ H s->fR xs us->r xs H Q->
  wpAny (à X.prog X.w) X.A (call f us) (EP X Á σ Q) X.xe s
abbrev Su(X:Cx)(r:V->Hp->(Bool->Hp->Prop)->Prop):Prop :=
 ∀(Á:List<|È×Obj) (s:Å) (σ:St) (H:Hp) (x:V) (v:Â) (Q:Bool->Hp->Prop),Inv X Á σ H s->RelV x v->r x H Q->
  wpAny (à X.prog X.w) X.A (truthy v) (TP X Á σ Q) X.xe s
abbrev tOp(r:R2)(ta tb:TE):TE:=λσ H Q=>ta σ H λx H1=>tb σ H1 λy H2=>r x y H2 Q
abbrev tUn(r:V->Hp->VK->Prop)(ta:TE):TE:=λσ H Q=>ta σ H λx H1=>r x H1 Q
abbrev rI(C:Int->Int->Prop)(g:Int->Int->V):R2:=λx y H Q=>∃i j,x=.int i/\y=.int j/\C i j/\Q (g i j) H
abbrev rI0(g:Int->Int->V):R2:=λx y H Q=>∃i j,x=.int i/\y=.int j/\Q (g i j) H
abbrev rU(g:Int->V):V->Hp->VK->Prop:=λx H Q=>∃i,x=.int i/\Q (g i) H
section
variable {X:Cx}{a b c:Expr}{ta tb tc:TE}{æ:Pos}
variable {f:Â->Â->Sem Â}
def HL(ha:PE X a ta)(hb:PE X b tb){Á:List (È×Obj)}{s:Å}{σ:St}{H:Hp}{R:V->V->Hp->Prop}(I:Inv X Á σ H s)
  (h:ta σ H λx H1=>tb σ H1 λy H2=>R x y H2){Q:Â->Å->Prop} 
  (hf:∀v u s2 x y H2,Inv X Á σ H2 s2->RelV x v->RelV y u->R x y H2->wpAny (à X.prog X.w) X.A (f v u) Q X.xe s2) :
  wpAny (à X.prog X.w) X.A (eval a X.env) (λv Ħ=>wpAny (à X.prog X.w) X.A (eval b X.env) (λu bF=>wpAny (à X.prog X.w) X.A (f v u) Q X.xe bF) X.xe Ħ) X.xe s:=by
 refine thn (ha Á s σ H _ I h) λv s1 ⟨x,H1,I1,r1,q1⟩=>?_;refine thn (hb Á s1 σ H1 _ I1 q1) λu s2 ⟨y,H2,I2,r2,q2⟩=>?_;exact hf v u s2 x y H2 I2 r1 r2 q2
def QY{op:Ψ}{r:R2}(ho:OpR X (ł op) r)(ha:PE X a ta)(hb:PE X b tb):PE X (.BinOp a op b æ)<|tOp r ta tb:=by intro Á s σ H Q I h;exact wpAny_BinOp (HL ha hb I h λv u s2 x y H2 I2 rx ry q=>ho Á s2 σ H2 x y v u Q I2 rx ry q)
def Rc{op:UnaryOp}{r:V->Hp->VK->Prop}(ho:UnR X (unaryOp op) r)(ha:PE X a ta):PE X (.UnaryOp op a æ)<|tUn r ta:=by intro Á s σ H Q I h;exact UnaryOp_ (thn (ha Á s σ H _ I h) λv s1 ⟨x,H1,I1,r1,q1⟩=>ho Á s1 σ H1 x v Q I1 r1 q1)
variable {g:Int->Int->Int}
def opI{C:Int->Int->Prop} 
  (rule:∀(i j:Int) (t u:Tok) (s:Å) (Q:Â->Å->Prop) (E:Â->Å->Prop),C i j->Q (.int (g i j) s.toks) {s with toks:=s.toks+1}->wpAny (à X.prog X.w) X.A (f (.int i t)<|.int j u) Q E s) :
  OpR X f (rI C λi j=>.int<|g i j):=by
 intro Á s σ H x y v u Q I rx ry h;obtain⟨i,j,rfl,rfl,hc,q⟩:=h;obtain⟨t,rfl⟩:=rx;obtain⟨t',rfl⟩:=ry;exact rule i j t t' s _ _ hc ⟨.int<|g i j,H,I.tok _,⟨_,rfl⟩,q⟩
def Ri  
  (rule:∀(i j:Int) (t u:Tok) (s:Å) (Q:Â->Å->Prop) (E:Â->Å->Prop),Q (.int (g i j) s.toks) {s with toks:=s.toks+1}->wpAny (à X.prog X.w) X.A (f (.int i t)<|.int j u) Q E s) :
  OpR X f (rI0 λi j=>.int<|g i j):=by
 intro Á s σ H x y v u Q I rx ry h;obtain⟨i,j,rfl,rfl,q⟩:=h;obtain⟨t,rfl⟩:=rx;obtain⟨t',rfl⟩:=ry;exact rule i j t t' s _ _ ⟨.int<|g i j,H,I.tok _,⟨_,rfl⟩,q⟩
def Gb{g:Int->Int->Bool}
  (rule:∀(i j:Int) (t u:Tok) (s:Å) (Q:Â->Å->Prop) (E:Â->Å->Prop),Q (.bool<|g i j) s->wpAny (à X.prog X.w) X.A (f (.int i t)<|.int j u) Q E s) :
  OpR X f (rI0 λi j=>.bl<|g i j):=by
 intro Á s σ H x y v u Q I rx ry h;obtain⟨i,j,rfl,rfl,q⟩:=h;obtain⟨t,rfl⟩:=rx;obtain⟨t',rfl⟩:=ry;exact rule i j t t' s _ _ ⟨.bl<|g i j,H,I,rfl,q⟩
abbrev QX(i j:Int):Prop:=0<j/\j<1073741824
abbrev Qc(i j:Int):Prop:=0<=j/\j<=1000000/\i.natAbs<2 ^ 64
abbrev CMul(i j:Int):Prop:=(-(2 ^ 64)<i/\i<2 ^ 64)\/(-(2 ^ 64)<j/\j<2 ^ 64)
def CMul.ok{i j:Int}(h:CMul i j):IntMulOk i j:=by
 rcases h with⟨h1,h2⟩|⟨h1,h2⟩
 .exact .of_left<|aa h1 h2
 .exact .of_right<|aa h1 h2
def op_add:OpR X (ł .Add)<|rI0 λi j=>.int<|i+j:=Ri λ_ _ _ _ _ _ _ q=>add_int q
def PP:OpR X (ł .Sub)<|rI0 λi j=>.int<|i - j:=Ri λ_ _ _ _ _ _ _ q=>sub_int q
def Fe:OpR X (ł .FloorDiv)<|rI QX λi j=>.int<|i / j:=opI λi j _ _ _ _ _ hc q=>by have h1:(0:Int)<j:=hc.1;have h2:j<1073741824:=hc.2;exact floordiv_int (by lia) (by rw[Int.fdiv_eq_ediv_of_nonneg i<|by lia];exact q) (.inl<|PyProof.noPylong_small<|by lia)
def IW:OpR X (ł .Mod)<|rI (λ_ j=>0<j) λi j=>.int<|i % j:=opI λi j _ _ _ _ _ hc q=>by have h1:(0:Int)<j:=hc;exact mod_int' (by lia) (by rw[Int.fmod_eq_emod_of_nonneg i<|by lia];exact q)
def Pf:OpR X (ł .Pow)<|rI Qc λi j=>.int<|i ^ j.toNat:=opI λ_ _ _ _ _ _ _ hc q=>pow_int_small hc.1 hc.2.1 hc.2.2 q
def unI{f:Â->Sem Â}{g:Int->Int}
  (rule:∀(i:Int) (t:Tok) (s:Å) (Q:Â->Å->Prop) (E:Â->Å->Prop),Q (.int (g i) s.toks) {s with toks:=s.toks+1}->wpAny (à X.prog X.w) X.A (f<|.int i t) Q E s) :
  UnR X f (rU λi=>.int<|g i):=by
 intro Á s σ H x v Q I rx h;obtain⟨i,rfl,q⟩:=h;obtain⟨t,rfl⟩:=rx;exact rule i t s _ _ ⟨.int<|g i,H,I.tok _,⟨_,rfl⟩,q⟩
def Pc:UnR X (unaryOp .USub)<|rU λi=>.int (-i):=unI λ_ _ _ _ _ q=>neg_int q
end
section
variable {X:Cx}{a b c:Expr}{ta tb tc:TE}{æ:Pos}
def HS{Á:List (È×Obj)}{σ:St}{H:Hp}{s:Å}{Q:VK}{k k':Bool}(I:Inv X Á σ H s)(q:Q (.bl k) H)(e:k=k'):EP X Á σ Q (.bool k') s:=by subst e;exact⟨.bl k,H,I,rfl,q⟩
def op_lt:OpR X (ë .Lt)<|rI0 λi j=>.bl<|gg (i<j):=Gb λ_ _ _ _ _ _ _ q=>lt_int q
def Qi:OpR X (ë .LtE)<|rI0 λi j=>.bl<|gg (i<=j):=Gb λ_ _ _ _ _ _ _ q=>le_int q
def op_gt:OpR X (ë .Gt)<|rI0 λi j=>.bl<|gg (j<i):=Gb λ_ _ _ _ _ _ _ q=>gt_int q
def Ry:OpR X (ë .GtE)<|rI0 λi j=>.bl<|gg (j<=i):=Gb λ_ _ _ _ _ _ _ q=>ge_int q
def Aw:OpR X (ë .In) λx y H Q=>∃i j,x=.str i/\y=.str j/\Q (.bl (!(Builtin.Str.occurrences j i 0 j.length 1).isEmpty)) H:=by intro Á s σ H x y v u Q I rx ry h;obtain⟨i,j,rfl,rfl,q⟩:=h;obtain⟨t,rfl⟩:=rx;obtain⟨t',rfl⟩:=ry;exact in_str (HS I q rfl)
variable {r:R2} {r':R2}
def OpR.or{f:Â->Â->Sem Â}(h:OpR X f r)(h':OpR X f r'):OpR X f λx y H Q=>r x y H Q\/r' x y H Q:=by
 intro Á s σ H x y v u Q I rx ry q;rcases q with q|q
 .exact h Á s σ H x y v u Q I rx ry q
 .exact h' Á s σ H x y v u Q I rx ry q
variable {op:bR}
def O8(ho:OpR X (ë op) r)(ha:PE X a ta)(hb:PE X b tb)(hm:ķ op b=ee):PE X (.Compare a [op] [b] æ)<|tOp r ta tb:=by intro Á s σ H Q I h;exact wpAny_Compare1 (HL ha hb I h λv u s2 x y H2 I2 rx ry q=>ho Á s2 σ H2 x y v u Q I2 rx ry q) hm
abbrev He(t:TE):TT:=λσ H Q=>t σ H λx H'=>∃k,x=.bl k/\Q k H'
def Ul(ho:OpR X (ë op) r)(ha:PE X a ta)(hb:PE X b tb)(hm:ķ op b=ee):PT X (.Compare a [op] [b] æ)<|He<|tOp r ta tb:=by
 intro Á s σ H Q I h;refine wpAny_isTrue_Compare1 (thn (ha Á s σ H _ I h) λv s1 ⟨x,H1,I1,r1,q1⟩=>thn (hb Á s1 σ H1 _ I1 q1) λu s2 ⟨y,H2,I2,r2,q2⟩ =>
   thn (ho Á s2 σ H2 x y v u _ I2 r1 r2 q2) λc s3 ⟨z,H3,I3,r3,k,e,q3⟩=>?_) hm
 subst e;cases r3;exact ď ⟨H3,I3,q3⟩
abbrev Cb(r r':R2)(ta tb tc:TE):TE:=λσ H Q=>ta σ H λx H1=>tb σ H1 λy H2=>r x y H2 λz H3=>∃k,z=.bl k/\
 (if k=d9 then tc σ H3 λw' H4=>r' y w' H4 Q else Q (.bl ee) H3)
variable {cW:bR}
def Cw(ho:OpR X (ë op) r)(ae:OpR X (ë cW) r')(ha:PE X a ta)(hb:PE X b tb)(hc:PE X c tc)
  (hm:aS [op,cW] [b,c]=ee:=by with_unfolding_all rfl):PE X (.Compare a [op,cW] [b,c] æ)<|Cb r r' ta tb tc:=by
 intro Á s σ H Q I h;refine Compare_chain (thn (ha Á s σ H _ I h) λv s1 ⟨x,H1,I1,r1,q1⟩=>chain_link (thn (hb Á s1 σ H1 _ I1 q1) λu s2 ⟨y,H2,I2,r2,q2⟩ =>
   thn (ho Á s2 σ H2 x y v u _ I2 r1 r2 q2) λd s3 ⟨z,H3,I3,r3,k,e,q3⟩=>?_)) hm
 subst e;cases r3;refine ď ?_;cases k with
 |false=>exact ite_ff ⟨.bl ee,H3,I3,rfl,q3⟩
 |true=>exact ite_tt<|chain_last<|thn (hc Á s3 σ H3 _ I3 q3) λw' s4 ⟨z',H4,I4,r4,q4⟩=>ae Á s4 σ H4 y z' u w' Q I4 r2 r4 q4
def Bs(ho:OpR X (ë op) r)(ae:OpR X (ë cW) r')(ha:PE X a ta)(hb:PE X b tb)(hc:PE X c tc)
  (hm:aS [op,cW] [b,c]=ee:=by with_unfolding_all rfl):PT X (.Compare a [op,cW] [b,c] æ)<|He<|Cb r r' ta tb tc:=by
 intro Á s σ H Q I h;refine isTrue_chain (thn (ha Á s σ H _ I h) λv s1 ⟨x,H1,I1,r1,q1⟩=>test_link (thn (hb Á s1 σ H1 _ I1 q1) λu s2 ⟨y,H2,I2,r2,q2⟩ =>
   thn (ho Á s2 σ H2 x y v u _ I2 r1 r2 q2) λd s3 ⟨z,H3,I3,r3,k,e,q3⟩=>?_)) hm
 subst e;cases r3;refine ď ?_;cases k with
 |false =>obtain⟨k',e',q'⟩:=q3;cases e';exact ite_ff ⟨H3,I3,q'⟩
 |true =>refine ite_tt<|test_last<|thn (hc Á s3 σ H3 _ I3 q3) λw' s4 ⟨z',H4,I4,r4,q4⟩=>thn (ae Á s4 σ H4 y z' u w' _ I4 r2 r4 q4) λd' s5 ⟨z2,H5,I5,r5,k2,e2,q5⟩=>?_;subst e2;cases r5;exact ď ⟨H5,I5,q5⟩
abbrev Rz(K:Frag)(x:V)(H:Hp)(k:Bool):Prop :=
 match x with
 |.non=>k=ee
 |.bl b=>k=b
 |.int i=>k=(i != 0)
 |.str y=>y.length<=Ú/\k=((y.length:Int) != 0)
 |.byt y=>y.size<=Ú/\k=((y.size:Int) != 0)
 |.ref p=>(∃xs,fP K H p xs/\k=!xs.isEmpty)\/(∃xs,fQ K H p xs/\k=!xs.isEmpty)\/∃kvs,H p=d7 (.dK kvs)/\k=!kvs.isEmpty
 |_=>False
def OV{κ:Type}{kvs:List (κ×V)}{vs:List (κ×Â)}(r:KV kvs vs):(!vs.isEmpty)=!kvs.isEmpty:=by cases r<;>rfl
def Ka{xs:List V}{ì:List Â}(r:fR xs ì):(!ì.toArray.isEmpty)=!xs.isEmpty:=by cases r<;>simp
def Xm:(Ú:Nat)<2 ^ 63:=by rw[Ϥ];decide
def Pp:Su X λx H Q=>∃k,Rz X.K x H k/\Q k H:=by
 intro Á s σ H x v Q I rx h;obtain⟨k,e,q⟩:=h;have hl:=Xm;have hs:Ú=16777216:=Ϥ;cases x with
 |non =>cases rx;have e':k=ee:=e;subst e';exact truthy_none ⟨H,I,q⟩
 |bl b =>cases rx;have e':k=b:=e;subst e';exact ď ⟨H,I,q⟩
 |int i =>obtain⟨t,rfl⟩:=rx;have e':k=(i != 0):=e;subst e';exact PySem.P.truthy_int ⟨H,I,q⟩
 |str y =>obtain⟨t,rfl⟩:=rx;obtain⟨hy,e'⟩:y.length<=Ú/\k=((y.length:Int) != 0):=e;subst e';exact PySem.P.truthy_str (by lia) ⟨H,I.tok _,q⟩
 |byt y =>obtain⟨t,rfl⟩:=rx;obtain⟨hy,e'⟩:y.size<=Ú/\k=((y.size:Int) != 0):=e;subst e';exact PySem.W.truthy_bytes (by lia) ⟨H,I.tok _,q⟩
 |ref p =>
  cases rx;have e':(∃xs,fP X.K H p xs/\k=!xs.isEmpty)\/(∃xs,fQ X.K H p xs/\k=!xs.isEmpty)\/∃kvs,H p=d7 (.dK kvs)/\k=!kvs.isEmpty:=e;rcases e' with⟨xs,hx,e'⟩|⟨xs,hx,e'⟩|⟨kvs,hx,e'⟩
  .subst e';obtain⟨ì,r,pl,hz⟩:=I.list hx;have hlen:=r.length;exact wpAny_truthy_list pl.isList (by simp only[Ë];lia) ⟨H,I.tok _,by rw[Ka r];exact q⟩
  .subst e';obtain⟨ì,r,pl,hz⟩:=I.tuple hx;have hlen:=r.length;exact truthy_tuple pl (by simp only[Ë];lia) ⟨H,I.tok _,by rw[Ka r];exact q⟩
  .subst e';obtain⟨hz,hS,vs,r,m⟩:kvs.length<=Ú/\(p==ŏ)=ee/\∃vs,KV kvs vs/\s.heap.DictOf (Zg X.prog X.w) p vs:=I.hok p _ hx;have hlen:kvs.length=vs.length:=Paired.length r;exact wpAny_truthy_dict hS m (by lia) ⟨H,I.tok _,by rw[OV r];exact q⟩
 |_=>exact(show False from e).elim
def BS(ha:PE X a ta)(he:∀aj,bQ a X.env aj=(do let v<-aj;Ÿ a.pos;Ł [v] (truthy v))) :
  PT X a (λσ H Q=>ta σ H λx H'=>∃k,Rz X.K x H' k/\Q k H'):=by
 intro Á s σ H Q I h;exact isTrue_plain (thn (ha Á s σ H _ I h) λv s1 ⟨x,H1,I1,r1,q1⟩=>Pp Á s1 σ H1 x v Q I1 r1 q1)<|he _
def OQ:OpR X (ł .Add) λx y H Q=>∃i j,x=.str i/\y=.str j/\i.length+j.length<=Ú/\Q (.str<|i++j) H:=by intro Á s σ H x y v u Q I rx ry h;obtain⟨i,j,rfl,rfl,hz,q⟩:=h;obtain⟨t,rfl⟩:=rx;obtain⟨t',rfl⟩:=ry;exact add_str (λt' tk=>⟨.str<|i++j,H,I.tok _,⟨_,rfl⟩,q⟩) hz
variable {x:V} {us:List Â}
def ZU(r:fR [x] us):∃u,us=[u]/\RelV x u:=by
 cases r with
 |cons r1 r2=>cases r2;exact⟨_,rfl,r1⟩
def WV{y:V}(r:fR [x,y] us):∃u w',us=[u,w']/\RelV x u/\RelV y w':=by
 cases r with
 |cons r1 r2 =>
  cases r2 with
  |cons r3 r4=>cases r4;exact⟨_,_,rfl,r1,r3⟩
def D4:eM X (.builtin "abs") λxs H Q=>∃i,xs=[.int i]/\Q (.int<|if i<0 then -i else i) H:=by intro Á s σ H xs us Q I r h;obtain⟨i,rfl,q⟩:=h;obtain⟨u,rfl,t,rfl⟩:=ZU r;exact call_abs_int λu tk=>⟨.int (if i<0 then -i else i),H,I.tok _,⟨_,rfl⟩,q⟩
def AH(hc:X.calm=d9):eM X (.builtin "max") λxs H Q=>∃i j,xs=[.int i,.int j]/\Q (.int<|if j > i then j else i) H:=by
 intro Á s σ H xs us Q I r h;obtain⟨i,j,rfl,q⟩:=h;obtain⟨u,w',rfl,⟨t,rfl⟩,⟨t',rfl⟩⟩:=WV r;refine max_two_ints (I.ok.hd hc) λh' tk k=>⟨_,H,I.kept k,?_,q⟩
 by_cases hj:j > i
 .rw[fZ hj,fZ hj];exact⟨_,rfl⟩
 .rw[f8 hj,f8 hj];exact⟨_,rfl⟩
def Bh(hc:X.calm=d9):eM X (.builtin "min") λxs H Q=>∃i j,xs=[.int i,.int j]/\Q (.int<|if j<i then j else i) H:=by
 intro Á s σ H xs us Q I r h;obtain⟨i,j,rfl,q⟩:=h;obtain⟨u,w',rfl,⟨t,rfl⟩,⟨t',rfl⟩⟩:=WV r;refine min_two_ints (I.ok.hd hc) λh' tk k=>⟨_,H,I.kept k,?_,q⟩
 by_cases hj:j<i
 .rw[fZ hj,fZ hj];exact⟨_,rfl⟩
 .rw[f8 hj,f8 hj];exact⟨_,rfl⟩
end
structure ObjM(h:ü)(x dx C:È)(mA:Str->Option Â):Prop where
 obj:h.get? x=d7 (PySem.W.instObj C dx)
 ns:h.Ns1 dx mA
 ne:dx≠x
variable {h:ü} {dx:È} {mA:Str->Option Â}
def Bq(n:h.Ns1 dx mA):∃od,h.get? dx=d7 od/\∀name,PySem.W.lookIn name od=d7 (mA name):=by
 obtain⟨o,es,ep,ho,hd,hk,_,hm⟩:=n;refine⟨o,ho,λname=>?_⟩;have e:=hm name;unfold nsFind findBy at e;rw[<-Array.find?_toList]at e;unfold PySem.W.lookIn;rw[hd];dsimp only;split
 .rename_i y q;rw[q]at e;exact congrArg d7 e
 .rename_i q;rw[q]at e;have a:es.toList.any (·.refKey)=ee:=by
   rw[List.any_eq_false];intro y hy;obtain⟨z,t,hkey⟩:=hk y<|Array.mem_toList_iff.mp hy;simp[DictEntry.refKey,hkey]
  have a':¬ es.toList.any (·.refKey)=d9:=by rw[a];exact ø
  rw[f8 a'];exact congrArg d7 e
variable {C:È}
def ObjM.look{x:È}(I:ObjM h x dx C mA):∃od,PySem.W.InstAt h x (PySem.W.instObj C dx) C (d7 od)/\∀name,PySem.W.lookIn name od=d7 (mA name) :=
 let ⟨od,ho,hl⟩:=Bq I.ns
 ⟨od,⟨I.obj,rfl,rfl,ho⟩,hl⟩
section
variable {prog:ê}{w:ý}{A:č}{E:Â->Å->Prop}{s:Å}{K:Frag}{x dx C f:È}{mA:Str->Option Â}{name:Str}{v:Â}
def E7{expr:Bool}{Q:Â->Å->Prop}(X:K.In s.heap)(I:ObjM s.heap x dx C mA)(hg:PySem.W.plainGet K C name=d9)(hh:PySem.W.hasDictIn K C=d9)
  (ha:PySem.W.findIn K (.ref C) name=d7 d8) (hv:mA name=d7 v) (hv':PySem.W.handedIn v=d9) (h:Q v {s with toks:=s.toks+1}) :
  wpAny (à prog w) A (getAttr (.ref x) name expr) Q E s:=by
 obtain⟨od,J,hl⟩:=I.look;exact PySem.W.get_value X J (PySem.W.plainGet_of hg).1 (PySem.W.findObj_own hh ha rfl<|by rw[hl,hv]) hv' h
def Eb{pl:Sem Bool}{Q:Â×List Â->Å->Prop}(X:K.In s.heap)(I:ObjM s.heap x dx C mA)(hg:PySem.W.plainGet K C name=d9)
  (hf:PySem.W.findIn K (.ref C) name=d7 (d7<|.ref f)) (ht:PySem.W.isFn K (.ref f)=d9) (hv:mA name=d8) (h:Q (.ref f,[.ref x]) s) :
  wpAny (à prog w) A (Ŷ (.ref x) name pl) Q E s:=by
 obtain⟨od,J,hl⟩:=I.look;exact PySem.W.method_fn X J (PySem.W.plainGet_of hg).1 (PySem.W.plainGet_of hg).2 hf (beq_iff_eq.mp ht) (by show(PySem.W.lookIn name od).map (·.isSome)=d7 ee;rw[hl,hv];rfl) h
def FS{ns:List Str}{Q:Unit->Å->Prop}(X:K.In s.heap)(I:ObjM s.heap x dx C mA)
  (hs:PySem.W.findIn K (.ref C) "__setattr__" = d7 (d7<|.builtin "object.__setattr__")) (hp:PySem.W.plainOver K C=d9) (ht:PySem.W.takerIn K C name=d7 d8) (hh:PySem.W.hasDictIn K C=d9)
  (hw:PySem.Within mA ns) (hsz:ns.length<=Ú)
  (h:∀h',ObjM h' x dx C (λy=>if y=name then d7 v else mA y)->Ŧ dx s.heap h'->Q () {s with heap:=h',toks:=s.toks+2}) :
  wpAny (à prog w) A (setAttr (.ref x) name v) Q E s:=by
 obtain⟨od,J,hl⟩:=I.look;refine PySem.W.set_plain X J hs<|PySem.W.osa_open (s:={s with toks:=s.toks+1}) (r:=d8) X J hp ht λb=>?_;obtain⟨cd,hc,hd'⟩:=PySem.W.any_some hh;have hx:s.heap.get? x=d7 ⟨.ref C,d7 dx,.plain,#[]⟩:=I.obj;refine Ã<|Ò<|Ã<|Ã<|wpAny_loadPart hx<|Ã<|PySem.W.Looks.here (s:={s with toks:=s.toks+1}) (PySem.W.looks_clsIn X hc) ?_;rw[hd'];refine Ò (a:=d7 dx)<|Ã<|Ò<|Ã ?_;refine wpAny_nsSet1 (s:={s with toks:=s.toks+1}) I.ns λh' hn2 hs2=>?_;obtain⟨oD,esD,epD,hoD,hdD,hcD⟩:=hn2.count<|PySem.Within.cons name v hw;refine Ã (wpAny_lookBehind hoD (by rw[hdD];exact pastItsLine_dict<|ß hcD<|by rw[Ç];lia) ?_);exact Ò<|h _ ⟨(hs2.2 _<|Ne.symm I.ne).trans I.obj,hn2,I.ne⟩ hs2
def Ep{R:dM->Å->Prop}{vs:List Â}{kw:List (Str×Â)}(X:K.In s.heap)(hm:PySem.W.makesIn K C=d9)
  (hi:PySem.W.findIn K (.ref C) "__init__" = d7 (d7<|.ref f)) (hf:PySem.W.typeIn K (.ref f)=d7 (.type "function"))
  (h:codeAny (à prog w) (A.under<|.builtin "type.__call__" ⟨.ref C::vs,kw⟩) (.call (.ref f) ⟨.ref (s.heap.objs.size+1)::vs,kw⟩) (PySem.W.InitBack (s.heap.objs.size+1) R)
    { s with heap:=(s.heap.push PySem.W.emptyDict).push (PySem.W.instObj C s.heap.objs.size) }) :
  codeAny (à prog w) A (.call (.ref C) ⟨vs,kw⟩) R s:=by
 obtain⟨hh,g,d,t,os⟩:=s;exact PySem.W.make_core (PySem.W.makes_of X hm) (PySem.W.looks_findIn X hi) (λself=>PySem.W.bind_fn X self hf) (.inl rfl) h
end
abbrev eV(f:Str)(v:V):List (Str×V)->List (Str×V)
 |[]=>[(f,v)]
 |(g,x)::r=>if g=f then(g,v)::r else(g,x)::eV f v r
def WU(f g:Str)(v:V):∀fs:List<|Str×V,(eV f v fs).lookup g=if g=f then d7 v else fs.lookup g
 |[]=>by
  show Ű g [(f,v)]=_;by_cases h:g=f
  .have hb:(g==f)=d9:=beq_iff_eq.mpr h;simp only[Ű,hb,fZ h]
  .have hb:(g==f)=ee:=beq_eq_false_iff_ne.mpr h;simp only[Ű,hb,f8 h]
 |(k,x)::r=>by
  have ih:=WU f g v r;rw[show eV f v ((k,x)::r)=(if k=f then(k,v)::r else(k,x)::eV f v r) from rfl];by_cases hk:k=f
  .rw[fZ hk];by_cases h:g=k
   .have hb:(g==k)=d9:=beq_iff_eq.mpr h;simp only[Ű,hb,fZ<|h.trans hk]
   .have hb:(g==k)=ee:=beq_eq_false_iff_ne.mpr h;simp only[Ű,hb,f8 λe:g=f=>h<|e.trans hk.symm]
  .rw[f8 hk];by_cases h:g=k
   .have hb:(g==k)=d9:=beq_iff_eq.mpr h;simp only[Ű,hb,f8 λe:g=f=>hk<|h.symm.trans e]
   .have hb:(g==k)=ee:=beq_eq_false_iff_ne.mpr h;simp only[Ű,hb];exact ih
def WI(f:Str)(v:V):∀fs:List<|Str×V,f∈(eV f v fs).map (·.1)/\∀g,g∈fs.map (·.1)->g∈(eV f v fs).map (·.1)
 |[]=>⟨by simp[eV],λg h=>by simp at h⟩
 |(k,x)::r=>by
  obtain⟨i1,i2⟩:=WI f v r;rw[show eV f v ((k,x)::r)=(if k=f then(k,v)::r else(k,x)::eV f v r) from rfl];by_cases hk:k=f
  .rw[fZ hk];subst hk;exact⟨by simp,λg h=>by simpa using h⟩
  .rw[f8 hk];refine⟨?_,λg h=>?_⟩
   .rw[Î];exact Û _ i1
   .rw[Î]at h ⊢;rcases Æ.mp h with e|e
    .exact Æ.mpr<|.inl e
    .exact Û _<|i2 g e
def WT(f:Str)(v:V):∀fs:List<|Str×V,(eV f v fs).length<=fs.length+1
 |[]=>by simp[eV]
 |(k,x)::r=>by
  have ih:=WT f v r;rw[show eV f v ((k,x)::r)=(if k=f then(k,v)::r else(k,x)::eV f v r) from rfl];by_cases hk:k=f
  .rw[fZ hk,Ç,Ç];lia
  .rw[f8 hk,Ç,Ç];lia
variable {o:Option Â}
def fg.some_of{v:V}(r:fg (d7 v) o):∃u,o=d7 u/\RelV v u:=by
 cases o with
 |none=>exact(show False from r).elim
 |some u=>exact⟨u,rfl,r⟩
def fg.none_of(r:fg d8 o):o=d8:=by
 cases o with
 |none=>rfl
 |some u=>exact(show False from r).elim
variable {u:Â}
def A2{v:V}(r:RelV v u):PySem.W.handedIn u=d9:=by
 cases v with
 |non=>cases (show u=Value.none from r);rfl
 |bl b=>cases (show u=Value.bool b from r);rfl
 |int i=>obtain⟨t,e⟩:=(show ∃t,u=Value.int i t from r);cases e;rfl
 |str x=>obtain⟨t,e⟩:=(show ∃t,u=Value.str x t from r);cases e;rfl
 |byt b=>obtain⟨t,e⟩:=(show ∃t,u=Value.bytes b t from r);cases e;rfl
 |flt b=>obtain⟨t,e⟩:=(show ∃t,u=Value.float b t from r);cases e;rfl
 |ref a=>cases (show u=Value.ref a from r);rfl
 |ty n=>cases (show u=Value.type n from r);rfl
section
variable {P:ê}{w:ý}{H H':Hp}{h h':ü}{a C dx:È}{fs dB:List (Str×V)}
def Jh(hok:HOk P w H h)(e:H a=d7 (.ins C dx fs)):∃mA,ObjM h a dx C mA/\(∀f,fg (fs.lookup f)<|mA f)/\PySem.Within mA (fs.map (·.1))/\fs.length<=1000/\H dx=d7 (.own a):=by
 obtain⟨d,z,ne,ob,mA,n,r,q⟩:=(show eN P w H h a (.ins C dx fs) from hok a _ e)
 exact⟨mA,⟨ob,n,ne⟩,r,q,z,d⟩
end
structure Cls(K:Frag)(C:È):Prop where
 pg:PySem.W.plainGet K C Str.empty=d9
 hd:PySem.W.hasDictIn K C=d9
 po:PySem.W.plainOver K C=d9
 sa:PySem.W.findIn K (.ref C) "__setattr__" = d7 (d7<|.builtin "object.__setattr__")
def Cls.get{K:Frag}(c:Cls K C)(f:Str):PySem.W.plainGet K C f=d9:=c.pg
abbrev NoAttr(K:Frag)(C:È)(f:Str):Prop:=PySem.W.findIn K (.ref C) f=d7 d8
def NoAttr.taker{K:Frag}{f:Str}(n:NoAttr K C f):PySem.W.takerIn K C f=d7 d8:=by unfold PySem.W.takerIn;rw[show PySem.W.findIn K (.ref C) f=d7 d8 from n];rfl
structure Meth(K:Frag)(C:È)(m:Str)(f:È):Prop where
 at_:PySem.W.findIn K (.ref C) m=d7 (d7<|.ref f)
 fn:PySem.W.isFn K (.ref f)=d9
 kp:PySem.W.keepIn K (.ref f)=d9
section
variable {X:Cx}{Á:List (È×Obj)}{σ:St}{H:Hp}{s:Å}{a C dx:È}{fs:List (Str×V)}{f:Str}{v:V}{A:č}{E:Â->Å->Prop}
variable {Q:Â->Å->Prop}
def Jr{b:Bool}(I:Inv X Á σ H s)(e:H a=d7 (.ins C dx fs))(c:Cls X.K C)(n:NoAttr X.K C f)(l:fs.lookup f=d7 v)
  (h:∀u s',Inv X Á σ H s'->RelV v u->Q u s'):wpAny (à X.prog X.w) A (getAttr (.ref a) f b) Q E s:=by
 obtain⟨mA,O,r,_,_,_⟩:=Jh I.hok e;obtain⟨u,hu,ru⟩:=fg.some_of (v:=v) (o:=mA f) (by rw[<-l];exact r f);exact E7 I.kIn O (c.get f) c.hd n hu (A2 ru)<|h u _ (I.tok _) ru
def X4{m:Str}{g:È}{pl:Sem Bool}{Q:Â×List Â->Å->Prop}(I:Inv X Á σ H s)(e:H a=d7 (.ins C dx fs))(c:Cls X.K C)(k:Meth X.K C m g)(l:fs.lookup m=d8)
  (h:Q (.ref g,[.ref a]) s):wpAny (à X.prog X.w) A (Ŷ (.ref a) m pl) Q E s:=by
 obtain⟨mA,O,r,_,_,_⟩:=Jh I.hok e;have hn:mA m=d8:=fg.none_of (by rw[<-l];exact r m);exact Eb I.kIn O (c.get m) k.at_ k.fn hn h
def JU{y:V}{Q:Unit->Å->Prop}(I:Inv X Á σ H s)(e:H a=d7 (.ins C dx fs))(c:Cls X.K C)(n:NoAttr X.K C f)(hl:fs.length<1000)(ry:RelV y u)
  (h:∀s',Inv X Á σ (upd H a<|.ins C dx<|eV f y fs) s'->Q () s'):wpAny (à X.prog X.w) A (setAttr (.ref a) f u) Q E s:=by
 obtain⟨mA,O,r,wi,_,ho⟩:=Jh I.hok e;have hz:(fs.map (·.1)).length<=Ú:=by rw[À,Ϥ];lia
 refine FS I.kIn O c.sa c.po n.taker c.hd wi hz λh' O' sb=>h _ ?_;have hd:∃o,h'.get? dx=d7 o:=let ⟨o,_,_,e',_⟩:=O'.ns;⟨o,e'⟩;refine I.write (x:=a) (e:=dx) (by rw[e];exact True.intro) (.inr ho) (λb q hb z=>(sb.2 b hb).trans z) hd ?_;refine⟨by rw[ei O.ne];exact ho,?_,O.ne,O'.obj,_,O'.ns,λg=>?_,λg hg=>?_⟩
 .have:=WT f y fs;lia
 .show fg ((eV f y fs).lookup g) (if g=f then d7 u else mA g);rw[WU];by_cases q:g=f
  .rw[fZ q,fZ q];exact ry
  .rw[f8 q,f8 q];exact r g
 .by_cases q:g=f
  .rw[q];exact(WI f y fs).1
  .refine(WI f y fs).2 g<|wi g λz=>hg ?_;show(if g=f then d7 u else mA g)=d8;rw[f8 q];exact z
def Inv.made(I:Inv X Á σ H s):Inv X Á σ (upd (upd H s.heap.objs.size<|.own<|s.heap.objs.size+1) (s.heap.objs.size+1)<|.ins C s.heap.objs.size [])
  {s with heap:=(s.heap.push PySem.W.emptyDict).push (PySem.W.instObj C s.heap.objs.size)}:=by
 have e1:(s.heap.push PySem.W.emptyDict).get? s.heap.objs.size=d7 PySem.W.emptyDict:=Ö s.heap rfl;have e2:((s.heap.push PySem.W.emptyDict).push<|PySem.W.instObj C s.heap.objs.size).get? (s.heap.objs.size+1)=d7 (PySem.W.instObj C s.heap.objs.size):=by
  have:=Ö (s.heap.push PySem.W.emptyDict) (o:=PySem.W.instObj C s.heap.objs.size) rfl
  rwa [ń]at this
 have e3:(s.heap.push PySem.W.emptyDict).Ns s.heap.objs.size λ_=>d8:=⟨PySem.W.emptyDict,#[],_,e1,rfl,(λe he=>gf he<|by simp),λ_=>rfl⟩
 have I1:=I.laid (a:=s.heap.objs.size) (o:=.own<|s.heap.objs.size+1) (h':=s.heap.push PySem.W.emptyDict) (t':=s.toks) (λb u q=>Ä _ q) (Í _) ⟨_,e1⟩;refine I1.laid (a:=s.heap.objs.size+1) (o:=.ins C s.heap.objs.size []) (t':=s.toks) (λb u q=>Ä _ q) (Nat.le_of_eq<|ń _ _) ?_;have ne:s.heap.objs.size≠s.heap.objs.size+1:=ç<|Ā _;refine⟨by rw[ei ne,ej],Ň _,ne,e2,λ_=>d8,(Heap.Ns1.of_empty e3).at λo q=>Ä _ q,λ_=>True.intro,λy hy=>gf rfl hy⟩
def FH{prog:ê}{w:ý}{env:Env}{e:Expr}{æ:Pos}(hb:ģ e f env (eval e env)=eval e env)
  (h:wpAny (à prog w) A (eval e env) (λo Ħ=>wpAny (à prog w) A (getAttr o f d9) Q E Ħ) E s):wpAny (à prog w) A (eval (.Attribute e f æ) env) Q E s :=
 Attribute_any_ h (by rw[arm_eval_Attribute,hb])
end
abbrev SD(K:Frag)(ta:TE)(f:Str):TE:=λσ H Q=>ta σ H λx H1=>∃a C dx fs v,x=.ref a/\H1 a=d7 (.ins C dx fs)/\Cls K C/\NoAttr K C f/\fs.lookup f=d7 v/\Q v H1
abbrev Sd(K:Frag)(ta tv:TE)(f:Str):TS:=λD σ H=>tv σ H λy H1=>ta σ H1 λx H2=>∃a C dx fs,x=.ref a/\H2 a=d7 (.ins C dx fs)/\Cls K C/\NoAttr K C f/\fs.length<1000/\
 D.nx σ (upd H2 a<|.ins C dx<|eV f y fs)
abbrev DL(X:Cx)(op:Ψ)(rd:V->V->Hp->VK->Prop):Prop :=
 ∀(Á:List<|È×Obj) (s:Å) (σ:St) (H:Hp) (x y:V) (u v:Â) (Q:VK),Inv X Á σ H s->RelV x u->RelV y v->rd x y H Q->wpAny (à X.prog X.w) X.A (inplaceOp op u v) (EP X Á σ Q) X.xe s
abbrev F2(K:Frag)(ta tv:TE)(rd:V->V->Hp->VK->Prop)(f:Str):TS:=λD σ H=>ta σ H λx H1=>∃a C dx fs v,x=.ref a/\H1 a=d7 (.ins C dx fs)/\Cls K C/\NoAttr K C f/\fs.lookup f=d7 v/\
 tv σ H1 λy H2=>rd v y H2 λz H3=>∃dx' dB,H3 a=d7 (.ins C dx' dB)/\dB.length<1000/\D.nx σ (upd H3 a<|.ins C dx'<|eV f z dB)
section
variable {X:Cx}{o e ŷ:Expr}{f:Str}{æ Ϲ ck:Pos}{ta tv:TE}
def HW(he:PE X e ta)(hb:ģ e f X.env (eval e X.env)=eval e X.env):PE X (.Attribute e f æ)<|SD X.K ta f:=by intro Á s σ H Q I h;refine FH hb<|thn (he Á s σ H _ I h) λu s1 ⟨x,H1,I1,rx,a,C,dx,fs,v,ex,ea,c,n,l,q⟩=>?_;subst ex;obtain rfl:u=Value.ref a:=rx;exact Jr I1 ea c n l λu' s2 I2 ru=>⟨v,H1,I2,ru,q⟩
def Pw(ha:PE X o ta)(hv:PE X ŷ tv)(hs:Ŕ ŷ (d7<|.Attribute o f Ϲ) æ.line X.env=pure ee):PS X (.Assign [.Attribute o f Ϲ] ŷ æ)<|Sd X.K ta tv f:=by intro Á s σ H D I h;refine plainObj_wpAny_Assign_Attribute (thn (hv Á s σ H _ I h) λu s1 ⟨y,H1,I1,ry,q⟩=>thn (ha Á s1 σ H1 _ I1 q) λov s2 ⟨x,H2,I2,rx,a,C,dx,fs,ex,ea,c,n,l,q2⟩=>?_) hs;subst ex;obtain rfl:ov=Value.ref a:=rx;exact JU I2 ea c n l ry λs3 I3=>⟨σ,_,I3,q2⟩
def Ak{op:Ψ}{rd:V->V->Hp->VK->Prop}(ha:PE X o ta)(hv:PE X ŷ tv)(hop:DL X op rd):PS X (.AugAssign (.Attribute o f ck) op ŷ æ)<|F2 X.K ta tv rd f:=by intro Á s σ H D I h;refine wpAny_AugAssign_AttributeAny<|thn (ha Á s σ H _ I h) λov s1 ⟨x,H1,I1,rx,a,C,dx,fs,v,ex,ea,c,n,l,q⟩=>?_;subst ex;obtain rfl:ov=Value.ref a:=rx;refine Jr I1 ea c n l λu s2 I2 ru=>thn (hv Á s2 σ H1 _ I2 q) λw3 s3 ⟨y,H2,I3,ry,q3⟩=>thn (hop Á s3 σ H2 v y u w3 _ I3 ru ry q3) λw4 s4 ⟨z,H3,I4,rz,dx',dB,ea',l',q4⟩=>?_;exact JU I4 ea' c n l' rz λs5 I5=>⟨σ,_,I5,q4⟩
abbrev Sv:V->V->Hp->VK->Prop:=λx y H Q=>∃i j,x=.int i/\y=.int j/\Q (.int<|i+j) H
abbrev RM:V->V->Hp->VK->Prop:=λx y H Q=>∃i j,x=.int i/\y=.int j/\Q (.int<|i - j) H
def LU:DL X .Add Sv:=by
 rintro Á s σ H x y u v Q I rx ry ⟨i,j,rfl,rfl,q⟩;obtain⟨t,rfl⟩:=(show ∃t,u=Value.int i t from rx)
 obtain⟨t',rfl⟩:=(show ∃t',v=Value.int j t' from ry)
 exact PyProof.Rows.iadd_int ⟨.int<|i+j,H,I.tok _,⟨_,rfl⟩,q⟩
def Pq:DL X .Sub RM:=by
 rintro Á s σ H x y u v Q I rx ry ⟨i,j,rfl,rfl,q⟩;obtain⟨t,rfl⟩:=(show ∃t,u=Value.int i t from rx)
 obtain⟨t',rfl⟩:=(show ∃t',v=Value.int j t' from ry)
 exact PyProof.Rows.isub_int ⟨.int<|i - j,H,I.tok _,⟨_,rfl⟩,q⟩
end
section
variable {X:Cx}{Á:List (È×Obj)}{σ:St}{H:Hp}{s:Å}{A:č}{E:Â->Å->Prop}{Q:Â->Å->Prop}{c:Â}{b:Bool}
inductive fK (K:Frag) (H:Hp):V->Â->Prop where
 |non:fK K H .non<|.type "NoneType"
 |bl (x:Bool):fK K H (.bl x)<|.type "bool"
 |int (i:Int):fK K H (.int i)<|.type "int"
 |str (x:Str):fK K H (.str x)<|.type "str"
 |flt (x:UInt64):fK K H (.flt x)<|.type "float"
 |lst {a:È}{xs:List V}(e:H a=d7 (.lst xs)):fK K H (.ref a)<|.type "list"
 |frz {a:È}{o:Obj}{xs:List V}(e:H a=d7 (.frz o<|.lst xs)):fK K H (.ref a)<|.type "list"
 |tup {a:È}{xs:List V}(e:H a=d7 (.tup xs)):fK K H (.ref a)<|.type "tuple"
 |dK {a:È}{kvs:List (Key×V)}(e:H a=d7 (.dK kvs)):fK K H (.ref a)<|.type "dict"
 |dT {a:È}{kvs:List (List Key×V)}(e:H a=d7 (.dT kvs)):fK K H (.ref a)<|.type "dict"
 |ins {a C dx:È}{fs:List (Str×V)}(e:H a=d7 (.ins C dx fs)) (cl:Cls K C) (ha:PySem.W.findIn K (.ref C) "__class__" = d7 (d7<|.builtin "object.__class__"))
   (hn:PySem.W.specialIn K (.builtin "object.__class__") "__get__" = d7 (d7<|.builtin "getset_descriptor.__get__")) (htk:PySem.W.takesIn K (.builtin "object.__class__")=d7 d9)
   (hm:PySem.W.mroIn K C (.type "object")=d7 d9):fK K H (.ref a)<|.ref C
def Ax{x:V}{t:Â}(I:Inv X Á σ H s)(rx:RelV x u)(ty:fK X.K H x t)(e:PySem.W.kitOne X.K t c=d7 b)(h:∀tk,Q (.bool b) {s with toks:=tk}) :
  wpAny (à X.prog X.w) A (call (.builtin "isinstance") [u,c]) Q E s:=by
 cases ty with
 |non=>cases (show u=Value.none from rx);exact PySem.W.kia_one PySem.W.kitx_none I.kIn True.intro e (λz=>nomatch z) h
 |bl y=>cases (show u=Value.bool y from rx);exact PySem.W.kia_one PySem.W.kitx_bool I.kIn True.intro e (λz=>nomatch z) h
 |int i=>obtain⟨t,q⟩:=(show ∃t,u=Value.int i t from rx);cases q;exact PySem.W.kia_one PySem.W.kitx_int I.kIn True.intro e (λz=>nomatch z) h
 |str y=>obtain⟨t,q⟩:=(show ∃t,u=Value.str y t from rx);cases q;exact PySem.W.kia_one PySem.W.kitx_str I.kIn True.intro e (λz=>nomatch z) h
 |flt y=>obtain⟨t,q⟩:=(show ∃t,u=Value.float y t from rx);cases q;exact PySem.W.kia_one PySem.W.kitx_float I.kIn True.intro e (λz=>nomatch z) h
 |@lst a xs ea =>
  cases (show u=Value.ref a from rx);obtain⟨_,_,n,_,h1⟩:=(show eN X.prog X.w H s.heap a (.lst xs) from I.hok a _ ea)
  exact PySem.W.kia_one PySem.W.kitx_list I.kIn ⟨_,h1,rfl⟩ e (λz=>nomatch z) h
 |@frz a ob xs ea =>
  cases (show u=Value.ref a from rx);obtain⟨_,_,_,n,_,h1⟩:=(show eN X.prog X.w H s.heap a (.frz ob<|.lst xs) from I.hok a _ ea)
  exact PySem.W.kia_one PySem.W.kitx_list I.kIn ⟨_,h1,rfl⟩ e (λz=>nomatch z) h
 |@tup a xs ea =>
  cases (show u=Value.ref a from rx);obtain⟨_,_,_,p⟩:=(show eN X.prog X.w H s.heap a (.tup xs) from I.hok a _ ea)
  obtain⟨o,h1,h2,_⟩:=p;exact PySem.W.kia_one PySem.W.kitx_tuple I.kIn ⟨o,h1,h2⟩ e (λz=>nomatch z) h
 |@dK a kvs ea =>
  cases (show u=Value.ref a from rx);obtain⟨_,_,vs,_,p⟩:=(show eN X.prog X.w H s.heap a (.dK kvs) from I.hok a _ ea)
  obtain⟨o,es,ep,h1,h2,_⟩:=p;exact PySem.W.kia_one PySem.W.kitx_dict I.kIn ⟨o,h1,h2.1⟩ e (λz=>nomatch z) h
 |@dT a kvs ea =>
  cases (show u=Value.ref a from rx);obtain⟨_,_,xs,_,o,es,ep,h1,h2,_⟩:=(show eN X.prog X.w H s.heap a (.dT kvs) from I.hok a _ ea)
  exact PySem.W.kia_one PySem.W.kitx_dict I.kIn ⟨o,h1,h2.1⟩ e (λz=>nomatch z) h
 |@ins a C dx fs ea cl ha hn htk hm =>cases (show u=Value.ref a from rx);obtain⟨mA,O,_⟩:=Jh I.hok ea;obtain⟨od,J,_⟩:=O.look;exact PySem.W.kia_one (PySem.W.kitx_own (cl.get _) cl.hd ha hn htk hm) I.kIn J e (λz=>nomatch z) h
end
structure fh(k:Nat)(A:č):Prop where
 hd:A.handled=d8
 dp:A.depth+3*k+5<recursionLimit
 un:A.units+16*k+200<Ě
variable {j:Nat} {A:č}
def fh.mono{k:Nat}(r:fh k A)(h:j<=k):fh j A:=⟨r.hd,by have:=r.dp;lia,by have:=r.un;lia⟩
def fh.deeper{k:Nat}(r:fh (k+1) A)(env:Env):fh k (A.deeper env) :=
 ⟨r.hd,by have:=r.dp;show A.depth+1+3*k+5<_;lia,by have:=r.un;show A.units+3+16*k+200<_;lia⟩
def fh.in1{k:Nat}(r:fh (k+1) A):fh k A.in1 :=
 ⟨r.hd,by have:=r.dp;show A.depth+3*k+5<_;lia,by have:=r.un;show A.units+1+16*k+200<_;lia⟩
variable {C:È} {us:List Â} {kw:List (Str×Â)}
def Od:(A.under<|.builtin "type.__call__" ⟨.ref C::us,kw⟩).depth=A.depth+1:=by
 first|rfl|simp[bb,Code.weight,Code.isCreation,Code.isGuard,Code.isCaller,Code.frames,bK,guardIds]
def N6:(A.under<|.builtin "type.__call__" ⟨.ref C::us,kw⟩).units=A.units+1:=by
 first|rfl|simp[bb,Code.cUnits,Code.frames,bK]
def fh.make{k:Nat}(r:fh (k+1) A)(C:È)(us:List Â)(kw:List<|Str×Â):fh k (A.under<|.builtin "type.__call__" ⟨.ref C::us,kw⟩) :=
 ⟨r.hd,by have:=r.dp;rw[Od];lia,by have:=r.un;rw[N6];lia⟩
def fh.depth{k:Nat}(r:fh k A):A.depth<recursionLimit:=by have:=r.dp;lia
def fh.units{k:Nat}(r:fh k A):A.units+64<Ě:=by have:=r.un;lia
abbrev Ix:TA:=λ_ H Q=>Q [] H
abbrev QZ(ta:TE)(tr:TA):TA:=λσ H Q=>ta σ H λx H1=>tr σ H1 λxs H2=>Q (x::xs) H2
section
variable {X:Cx}{e:Expr}{es:List Expr}{te:TE}{t:TA}{æ:Pos}
def fN:PA X [] Ix:=λ_ _ _ _ H Q I h=>Calls.spliced_nil ⟨[],H,I,.nil,h⟩
def Zv(ha:PE X e te)(hr:PA X es t)(hs:Ì (e::es) X.env=(ee,eval e X.env)::Ì es X.env:=by rfl):PA X (e::es)<|QZ te t:=by intro æ Á s σ H Q I h;rw[hs];show wpAny _ _ (spliced<|(ee,eval e X.env)::Ċ æ (Ì es X.env)) _ _ s;refine Calls.spliced_cons<|thn (ha Á s σ H _ I h) λu s1 ⟨x,H1,I1,r1,q1⟩=>?_;exact thn (hr æ Á s1 σ H1 _ I1 q1) λus s2 ⟨xs,H2,I2,r2,q2⟩=>⟨x::xs,H2,I2,.cons r1 r2,q2⟩
abbrev SF(t:TA):TE:=λσ H Q=>t σ H λxs H1=>xs.length<=Ú/\∀p,H1 p=d8->Q (.ref p) (upd H1 p<|.tup xs)
abbrev RL(t:TA):TE:=λσ H Q=>t σ H λxs H1=>xs.length<=Ú/\∀p,H1 p=d8->Q (.ref p) (upd H1 p<|.lst xs)
def DE{x1}(h:PA X es t):PE X (.Tuple es x1 æ)<|SF t:=by intro Á s σ H Q I hq;refine wpAny_Tuple_spliced (thn (h æ Á s σ H _ I hq) λus s1 ⟨xs,H1,I1,r,z,q⟩=>⟨by rw[<-r.length];exact z,?_⟩);have hf:H1 s1.heap.objs.size=d8:=I1.hok.fresh<|Í _;refine⟨.ref s1.heap.objs.size,upd H1 s1.heap.objs.size<|.tup xs,I1.laid (t':=s1.toks) (λb u e=>Ä _ e) (Í _) ?_,rfl,q _ hf⟩;exact⟨z,us,r,⟨_,Ö _ rfl,rfl,_,rfl⟩⟩
def LG(h:PA X es t):PE X (.List es æ)<|RL t:=by intro Á s σ H Q I hq;refine wpAny_List_spliced (thn (h æ Á s σ H _ I hq) λus s1 ⟨xs,H1,I1,r,z,q⟩=>⟨by rw[<-r.length];exact z,?_⟩);have hf:H1 s1.heap.objs.size=d8:=I1.hok.fresh<|Í _;refine⟨.ref s1.heap.objs.size,upd H1 s1.heap.objs.size<|.lst xs,I1.laid (t':=s1.toks) (λb u e=>Ä _ e) (Í _) ?_,rfl,q _ hf⟩;exact⟨z,us,0,r,Ö _ rfl⟩
end
noncomputable abbrev Sp:=List V->Hp->VK->XK->Prop
noncomputable abbrev CXT:=List Env->Hp->Å->XK->Â->Å->Prop
structure Env0(P:ê)(w:ý)(K:Frag)(mg:Str->Option Â)(base:ü)(A:č)(outer:List Env)(s:Å)(H:Hp):Prop where
 frames:A.frames=d7 outer
 mod:Mod K mg base
 bs:∀b o,base.get? b=d7 o->s.heap.get? b=d7 o/\H b=d8
 bsz:base.objs.size<=s.heap.objs.size
 funs:s.heap.FunFrames base outer
 frf:∀b∈frs outer,H b=d8
 hok:HOk P w H s.heap
 bare:Θ s.gens
abbrev CE(outer:List Env)(P:ê)(w:ý)(H:Hp)(s:Å)(Q:VK)(u:Â)(s':Å):Prop :=
 ∃v H',s'.os=s.os/\Θ s'.gens/\Un (frs outer) [] H H' s.heap s'.heap/\HOk P w H' s'.heap/\RelV v u/\Q v H'
abbrev CR(CX:CXT)(outer:List Env)(P:ê)(w:ý)(H:Hp)(s:Å)(Q:VK)(E:XK)(r:dM)(s':Å):Prop :=
 match r with
 |.ok (.ret u)=>CE outer P w H s Q u s'
 |.ok _=>False
 |.error e=>CX outer H s E e s'
structure fi(P:ê)(w:ý)(K:Frag)(mg:Str->Option Â)(base:ü)(CX:CXT)(k:Nat)(f:È)(fd:ĺ)(ps:List Str)(sp:Sp):Prop where
 len:∀vs H Q E,sp vs H Q E->vs.length=ps.length
 run:∀(A:č) (outer:List Env) (s:Å) (H:Hp) (args:Args) (us:List Â) (vs:List V) (Q:VK) (E:XK),fh k A->Env0 P w K mg base A outer s H->BindsTo s fd args (ps.zip us)->fR vs us->sp vs H Q E->
  codeAny (à P w) A (.call (.ref f) args) (CR CX outer P w H s Q E) s
variable {P:ê} {w:ý} {mg:Str->Option Â} {CX:CXT} {f:È} {fd:ĺ} {ps:List Str} {sp:Sp}
def fi.mono{K:Frag}{base:ü}{k:Nat}(F:fi P w K mg base CX j f fd ps sp)(h:j<=k) :
  fi P w K mg base CX k f fd ps sp:=⟨F.len,λA outer s H args us vs Q E hr=>F.run A outer s H args us vs Q E<|hr.mono h⟩
def fi.imp{K:Frag}{base:ü}{k:Nat}{sp':Sp}(F:fi P w K mg base CX k f fd ps sp)
  (h:∀vs H Q E,sp' vs H Q E->sp vs H Q E):fi P w K mg base CX k f fd ps sp' :=
 ⟨λvs H Q E q=>F.len vs H Q E<|h _ _ _ _ q,λA outer s H args us vs Q E hr he hb hv hs=>F.run A outer s H args us vs Q E hr he hb hv<|h _ _ _ _ hs⟩
variable {outer:List Env} {s:Å} {H:Hp}
def Env0.make{K:Frag}{base:ü}(e:Env0 P w K mg base A outer s H)(C:È)(us:List Â)(kw:List<|Str×Â) :
  Env0 P w K mg base (A.under<|.builtin "type.__call__" ⟨.ref C::us,kw⟩) outer s H:=⟨by first|exact e.frames|(simpa[bb,Code.envs,bK,pushEnvs]using e.frames),e.mod,e.bs,e.bsz,e.funs,e.frf,e.hok,e.bare⟩
def Env0.in1{K:Frag}{base:ü}(e:Env0 P w K mg base A outer s H) :
  Env0 P w K mg base A.in1 outer s H:=⟨e.frames,e.mod,e.bs,e.bsz,e.funs,e.frf,e.hok,e.bare⟩
section
variable {X:Cx}{Á:List (È×Obj)}{σ:St}{H:Hp}{s s':Å}
def Inv.env0(I:Inv X Á σ H s):Env0 X.prog X.w X.K X.mg X.base X.A X.stack s H :=
 ⟨I.ok.frames,I.ok.mod,I.bs,ß I.ok.bsz I.sz,I.stack,I.stkFree,I.hok,I.bare⟩
def Inv.after{Q:VK}{u:Â}(I:Inv X Á σ H s)(h:CE X.stack X.prog X.w H s Q u s'):EP X Á σ Q u s':=by obtain⟨v,H',os,bare,un,hok,r,q⟩:=h;obtain⟨hh,g,d,t,os'⟩:=s';obtain rfl:os'=s.os:=os;exact⟨v,H',I.call (h':=hh) (g':=g) (d':=d) (t':=t) (ch:=[]) un hok bare λb z=>gf z<|by simp,r,q⟩
end
abbrev GX(sp:Sp)(ak:List V)(E:XK)(t:TA):TE:=λσ H Q=>t σ H λvs H1=>sp (vs++ak) H1 Q E
abbrev Hb(C:È)(m:Str)(sp:Sp)(ak:List V)(E:XK)(ta:TE)(t:TA):TE:=λσ H Q=>ta σ H λx H1=>∃a dx fs,x=.ref a/\H1 a=d7 (.ins C dx fs)/\fs.lookup m=d8/\
 t σ H1 λvs H2=>sp (x::(vs++ak)) H2 Q E
abbrev RD(C:È)(sp:Sp)(ak:List V)(E:XK)(t:TA):TE:=λσ H Q=>t σ H λvs H1=>∀x dx,H1 x=d8->H1 dx=d8->dx≠x->
 sp (.ref x::(vs++ak)) (upd (upd H1 dx<|.own x) x<|.ins C dx []) (λv H2=>v=.non/\Q (.ref x) H2) E
abbrev Binds(K:Frag)(fd:ĺ)(ps:List Str)(ds:List Â):Prop :=
 ∀(s:Å) (us:List Â),K.In s.heap->(us++ds).length=ps.length->BindsTo s fd ⟨us,[]⟩ (ps.zip<|us++ds)
def Binds.all{K:Frag}(h:∀us:List Â,us.length=ps.length->bindArgs fd ⟨us,[]⟩=pure (ps.zip us)):Binds K fd ps []:=λs us _ hl=>by rw[ð]at hl ⊢;exact .of_eq (h us hl)
abbrev Xx(CX:CXT)(X:Cx)(E:XK):Prop:=∀(Á:List<|È×Obj) (σ:St) (H:Hp) (s:Å) (e:Â) (s':Å),Inv X Á σ H s->CX X.stack H s E e s'->X.xe e s'
section
variable {X:Cx}{CX:CXT}{k:Nat}{f C:È}{fd:ĺ}{ps:List Str}{sp:Sp}{ak:List V}{ds:List Â}{E:XK}{x m:Str}{p æ Ĳ:Pos}{e o:Expr}{es:List Expr}{ta:TE}{t:TA}
variable {Á:List (È×Obj)} {σ:St} {Q:VK} {vs:List V}
def MI(F:fi X.prog X.w X.K X.mg X.base CX k f fd ps sp)(hr:fh k X.A)(hb:Binds X.K fd ps ds)(hd:fR ak ds)(hx:Xx CX X E)
  (I:Inv X Á σ H s) (r:fR vs us) (h:sp (vs++ak) H Q E):wpAny (à X.prog X.w) X.A (call (.ref f) us) (EP X Á σ Q) X.xe s:=by
 have r2:fR (vs++ak)<|us++ds:=r.append hd;have hl:(us++ds).length=ps.length:=by rw[<-r2.length];exact F.len _ _ _ _ h
 refine bS<|χ (F.run X.A X.stack s H ⟨us,[]⟩ (us++ds) (vs++ak) Q E hr I.env0 (hb s us I.kIn hl) r2 h) λr s' hq=>?_;cases r with
 |error e=>exact hx Á σ H s e s' I hq
 |ok fl =>
  cases fl with
  |ret u=>exact I.after hq
  |next=>exact ù hq
  |brk=>exact ù hq
  |cont=>exact ù hq
def FM(F:fi X.prog X.w X.K X.mg X.base CX k f fd ps sp)(hr:fh k X.A)(hg:Gl X x)(hm:X.mg x=d7 (.ref f))(hk:PySem.W.keepIn X.K (.ref f)=d9)(hb:Binds X.K fd ps ds)(hd:fR ak ds)(hx:Xx CX X E)
  (ha:PA X (e::es) t) (ϗ:(x==("__debug__" : Str))=ee:=by decide) (he:Ì (e::es) X.env=(ee,eval e X.env)::Ì es X.env:=by rfl) (hpl:(Ċ æ<|Ì es X.env).any (·.1)=ee:=by rfl) :
  PE X (.Call (.Name x p) (e::es) [] æ) (GX sp ak E t):=by
 intro Á s σ H Q I h;refine Ļ<|Yx I hg hm ?_ ϗ;refine PySem.W.callWith_K (h₀:=X.base) I.ok.mod.kin hk (thn (ha æ Á s σ H _ I h) λus s1 ⟨vs,H1,I1,r,q⟩=>⟨I1.kIn,?_⟩) he hpl;exact MI F hr hb hd hx I1 r q
def BO(F:fi X.prog X.w X.K X.mg X.base CX k f fd ps sp)(hr:fh k X.A)(hg:Gl X x)(hm:X.mg x=d7 (.ref f))(hk:PySem.W.keepIn X.K (.ref f)=d9)(hb:Binds X.K fd ps ds)(hd:fR ak ds)(hx:Xx CX X E)
  (ϗ:(x==("__debug__" : Str))=ee:=by decide):PE X (.Call (.Name x p) [] [] æ)<|GX sp ak E Ix:=by
 intro Á s σ H Q I h;refine Ļ<|Yx I hg hm ?_ ϗ;exact PySem.W.callWith_K0 I.kIn hk<|MI (us:=[]) F hr hb hd hx I .nil h
variable {pl:Sem Bool}
def Gm(he:PE X o ta)(c:Cls X.K C)(hm:Meth X.K C m f)(F:fi X.prog X.w X.K X.mg X.base CX k f fd ps sp)(hr:fh k X.A)(hb:Binds X.K fd ps ds)(hd:fR ak ds)(hx:Xx CX X E)(ha:PA X (e::es) t)
  (ņ:Ì (e::es) X.env=(ee,eval e X.env)::Ì es X.env:=by rfl) (hpl:(Ċ æ<|Ì es X.env).any (·.1)=ee:=by rfl)
  (ht:eval (.Call (.Attribute o m Ĳ) (e::es) [] æ) X.env=(do
    let ov<-eval o X.env
    Ÿ Ĳ.atName
    let (f,first)<-Ł [ov] (Ŷ ov m pl)
    ϥ æ f first (Ċ æ<|Ì (e::es) X.env) (Ŝ æ<|ĭ [] X.env)):=by rfl) :
  PE X (.Call (.Attribute o m Ĳ) (e::es) [] æ) (Hb C m sp ak E ta t):=by
 intro Á s σ H Q I h;refine PySem.W.methodCall_KW (pl:=pl) (thn (he Á s σ H _ I h) λu s1 ⟨x,H1,I1,rx,a,dx,fs,ex,ea,l,q⟩=>?_) ht;subst ex;obtain rfl:u=Value.ref a:=rx;refine X4 I1 ea c hm l ?_;refine PySem.W.callWith_K (first:=[.ref a]) (h₀:=X.base) I.ok.mod.kin hm.kp (thn (ha æ Á s1 σ H1 _ I1 q) λus s2 ⟨vs,H2,I2,r,q2⟩=>⟨I2.kIn,?_⟩) ņ hpl;exact MI (us:=.ref a::us) (vs:=.ref a::vs) F hr hb hd hx I2 (.cons rfl r) q2
def C4(he:PE X o ta)(c:Cls X.K C)(hm:Meth X.K C m f)(F:fi X.prog X.w X.K X.mg X.base CX k f fd ps sp)(hr:fh k X.A)(hb:Binds X.K fd ps ds)(hd:fR ak ds)(hx:Xx CX X E)
  (ht:eval (.Call (.Attribute o m Ĳ) [] [] æ) X.env=(do
    let ov<-eval o X.env
    Ÿ Ĳ.atName
    let (f,first)<-Ł [ov] (Ŷ ov m pl)
    ϥ æ f first (Ċ æ<|Ì [] X.env) (Ŝ æ<|ĭ [] X.env)):=by rfl) :
  PE X (.Call (.Attribute o m Ĳ) [] [] æ) (Hb C m sp ak E ta Ix):=by
 intro Á s σ H Q I h;refine PySem.W.methodCall_KW (pl:=pl) (thn (he Á s σ H _ I h) λu s1 ⟨x,H1,I1,rx,a,dx,fs,ex,ea,l,q⟩=>?_) ht;subst ex;obtain rfl:u=Value.ref a:=rx;refine X4 I1 ea c hm l ?_;exact PySem.W.callWith_K0 (first:=[.ref a]) I1.kIn hm.kp<|MI (us:=[.ref a]) (vs:=[.ref a]) F hr hb hd hx I1 (.cons rfl .nil) q
structure Mk(K:Frag)(C f:È):Prop where
 makes:PySem.W.makesIn K C=d9
 init:PySem.W.findIn K (.ref C) "__init__" = d7 (d7<|.ref f)
 fn:PySem.W.isFn K (.ref f)=d9
 kp:PySem.W.keepIn K (.ref C)=d9
def BE(M:Mk X.K C f)(F:fi X.prog X.w X.K X.mg X.base CX k f fd ps sp)(hr:fh (k+1) X.A)(hb:Binds X.K fd ps ds)(hd:fR ak ds)
  (hx:Xx CX X E) (I:Inv X Á σ H s) (r:fR vs us)
  (h:∀x dx,H x=d8->H dx=d8->dx≠x->sp (.ref x::(vs++ak)) (upd (upd H dx<|.own x) x<|.ins C dx []) (λv H2=>v=.non/\Q (.ref x) H2) E) :
  wpAny (à X.prog X.w) X.A (call (.ref C) us) (EP X Á σ Q) X.xe s:=by
 have hq:=h (s.heap.objs.size+1) s.heap.objs.size (I.hok.fresh<|Ų _) (I.hok.fresh<|Í _)<|ç<|Ā _;have I2:=Inv.made (C:=C) I;have r2:fR (V.ref (s.heap.objs.size+1)::(vs++ak))<|Value.ref (s.heap.objs.size+1)::(us++ds):=.cons rfl<|r.append hd;have hl:(Value.ref (s.heap.objs.size+1)::us++ds).length=ps.length:=by have e:=r2.length;rw[F.len _ _ _ _ hq]at e;exact e.symm
 refine bS (Ep (f:=f) I.kIn M.makes M.init (beq_iff_eq.mp M.fn) (χ (F.run _ X.stack _ _ ⟨Value.ref (s.heap.objs.size+1)::us,[]⟩ (Value.ref (s.heap.objs.size+1)::(us++ds)) _ _ E (hr.make C us [])
   (I2.env0.make C us []) (hb _ (Value.ref (s.heap.objs.size+1)::us) I2.kIn hl) r2 hq) λr s' dC=>?_))
 cases r with
 |error e=>exact hx Á σ _ _ e s' I2 dC
 |ok fl =>
  cases fl with
  |ret u =>obtain⟨v,H',I3,rv,ev,q3⟩:=I2.after dC;subst ev;exact⟨rv,⟨V.ref<|s.heap.objs.size+1,H',I3,rfl,q3⟩⟩
  |next=>exact ù dC
  |brk=>exact ù dC
  |cont=>exact ù dC
def GR(M:Mk X.K C f)(F:fi X.prog X.w X.K X.mg X.base CX k f fd ps sp)(hr:fh (k+1) X.A)(hg:Gl X x)(hm:X.mg x=d7 (.ref C))(hb:Binds X.K fd ps ds)(hd:fR ak ds)(hx:Xx CX X E)
  (ha:PA X (e::es) t) (ϗ:(x==("__debug__" : Str))=ee:=by decide) (he:Ì (e::es) X.env=(ee,eval e X.env)::Ì es X.env:=by rfl) (hpl:(Ċ æ<|Ì es X.env).any (·.1)=ee:=by rfl) :
  PE X (.Call (.Name x p) (e::es) [] æ) (RD C sp ak E t):=by
 intro Á s σ H Q I h;refine Ļ<|Yx I hg hm ?_ ϗ;refine PySem.W.callWith_K (h₀:=X.base) I.ok.mod.kin M.kp (thn (ha æ Á s σ H _ I h) λus s1 ⟨vs,H1,I1,r,q⟩=>⟨I1.kIn,?_⟩) he hpl;exact BE M F hr hb hd hx I1 r q
end
structure FnScope(N P:List Str)(sc:ų):Prop where
 kind:sc.kind=.function
 co:sc.isCoroutine=ee
 gen:sc.isGenerator=ee
 nd:N.Nodup
 pre:N.take P.length=P
 par:∀x∈P,sc.names.lookup x=d7 .local\/sc.names.lookup x=d7 .cell
 nofree:∀y∈sc.names,y.2≠.free
def Me{ι:Str->Option Ω}{x:Str}:∀{binds:List (Str×Â)}{m:Str->Option Â},(∀v,(x,v)∉binds)->bindL ι binds m x=m x
 |[],_,_=>rfl
 |(n,v)::r,m,h=>by
  unfold bindL;rw[Me λw hw=>h w<|Û _ hw];split
  .have:x≠n:=by rintro rfl;exact h v î
   simp[this]
  .rfl
def Mh{ι:Str->Option Ω}{x:Str}:∀{binds:List (Str×Â)}{m:Str->Option Â},(∀v,(x,v)∉binds)->dh ι binds m x=m x
 |[],_,_=>rfl
 |(n,v)::r,m,h=>by
  unfold dh;rw[Mh λw hw=>h w<|Û _ hw];split
  .rfl
  .have:x≠n:=by rintro rfl;exact h v î
   simp[this]
def KR{ι:Str->Option Ω}{x:Str}{v:Â}:∀{P:List Str}{vs:List Â}{i:Nat}{m:Str->Option Â},P.Nodup->P[i]?=d7 x->vs[i]?=d7 v->ι x=d7 .local->
  bindL ι (P.zip vs) m x=d7 v
 |[],_,_,_,_,h,_,_=>by simp at h
 |_::_,[],_,_,_,_,h,_=>by simp at h
 |p::P,w::vs,0,m,nd,h1,h2,hk=>by simp at h1 h2;subst h1;subst h2;show bindL ι ((p,w)::P.zip vs) m p=_;unfold bindL;rw[Me λv hv=>(ĉ.mp nd).1 (aw hv).1,fZ hk];simp
 |p::P,w::vs,i+1,m,nd,h1,h2,hk=>by show bindL ι ((p,w)::P.zip vs) m x=_;unfold bindL;exact KR (i:=i) (ĉ.mp nd).2 (by simpa using h1) (by simpa using h2) hk
def KK{ι:Str->Option Ω}{x:Str}{v:Â}:∀{P:List Str}{vs:List Â}{i:Nat}{m:Str->Option Â},P.Nodup->P[i]?=d7 x->vs[i]?=d7 v->ι x≠d7 .local->
  dh ι (P.zip vs) m x=d7 v
 |[],_,_,_,_,h,_,_=>by simp at h
 |_::_,[],_,_,_,_,h,_=>by simp at h
 |p::P,w::vs,0,m,nd,h1,h2,hk=>by simp at h1 h2;subst h1;subst h2;show dh ι ((p,w)::P.zip vs) m p=_;unfold dh;rw[Mh λv hv=>(ĉ.mp nd).1 (aw hv).1,f8 hk];simp
 |p::P,w::vs,i+1,m,nd,h1,h2,hk=>by show dh ι ((p,w)::P.zip vs) m x=_;unfold dh;exact KK (i:=i) (ĉ.mp nd).2 (by simpa using h1) (by simpa using h2) hk
abbrev start(N:List Str)(vs:List V):St:=vs.map d7++Ø (N.length - vs.length) d8
abbrev KE(CX:CXT)(P:ê)(w:ý)(K:Frag)(mg:Str->Option Â)(base:ü)(N:List Str)(qual:Str)(scope:ų)(f:È)(cd:Â)(A:č)(outer:List Env)(s:Å)(H:Hp)(E:XK):Cx where
 prog:=P
 w:=w
 K:=K
 mg:=mg
 base:=base
 A:=A.deeper<|Ϧ qual scope s.heap.objs.size f cd
 N:=N
 s₀:=s
 H₀:=H
 env:=Ϧ qual scope s.heap.objs.size f cd
 outer:=outer
 stack:=Ϧ qual scope s.heap.objs.size f cd::outer
 ex:=[]
 calm:=d9
 fn:=λ_=>d9
 pn:=[]
 xe:=λe s'=>wpAny (à P w) (A.deeper<|Ϧ qual scope s.heap.objs.size f cd) (leaving (Ϧ qual scope s.heap.objs.size f cd) e) (λ_ s''=>CX outer H s E e s'') (λe' s''=>CX outer H s E e' s'') s'
def NC{sc:ų}{n:Nat}{x:Str}(h:sc.names.lookup x=d7 .cell):∃c,(cellsFrom n sc.names []).lookup x=d7 c:=by have q:=PySem.W.cellsFrom_some sc.names n []<|.inl h;exact õ.mp q
variable {N:List Str} {qual:Str} {scope:ų}
def Ag{K:Frag}{base:ü}{cd:Â}{s1:Å}{E:XK}{vs:List V}
  (S:FnScope N ps scope) (hd:A.handled=d8) (e0:Env0 P w K mg base A outer s H) (hl:vs.length=ps.length) (r:fR vs us)
  (x:InCallC s s.heap.objs.size (bindL (Ϧ qual scope s.heap.objs.size f cd).kindOf (ps.zip us) λ_=>d8) (cellsFrom (s.heap.objs.size+1) scope.names []) (dh (Ϧ qual scope s.heap.objs.size f cd).kindOf (ps.zip us) λ_=>d8) s1) :
  Inv (KE CX P w K mg base N qual scope f cd A outer s H E) [] (start N vs) H s1:=by
 have hpl:ps.length<=N.length:=by have:=congrArg List.length S.pre;rw[ÿ]at this;lia
 obtain⟨h1,tk,rfl,hk⟩:=x.done;have noA:∀b:È,b∉(KE CX P w K mg base N qual scope f cd A outer s H E).ex:=λb z=>gf (show b∈([]:List È) from z) (by simp);refine⟨⟨e0.mod,S.kind,rfl,rfl,Í _,λy z c h1 h2=>?_,λy hy=>?_,λy c _ h=>?_,λ_=>hd,Around.frames_deeper e0.frames,.inr ⟨rfl,rfl⟩,λb z=>gf z<|noA b,e0.bs,e0.bsz,λb _ _=>noA b,λb z=>gf z<|noA b,e0.funs,e0.frf⟩,
   rfl,e0.bare,Un.kept hk,⟨_,x.toInCall.ns,λi y v h1 h2 h3=>?_⟩,λy c h=>⟨_,x.cell y c h⟩,e0.hok.fresh<|Í _,λy c h=>?_,λp hp=>gf (show p∈([]:List<|È×Obj) from hp) (by simp),e0.hok.kept hk,?_⟩
 .exact name_of_addr x.apart (PySem.mem_of_lookup h1)<|PySem.mem_of_lookup h2
 .have hy:scope.names.lookup y=d7 .cell\/scope.names.lookup y=d7 .free:=hy;rcases hy with hy|hy
  .exact NC hy
  .exact gf rfl<|S.nofree _<|PySem.mem_of_lookup hy
 .exact Ū<|x.above y c<|PySem.mem_of_lookup h
 .have hi:i<vs.length:=by
   unfold start at h2;by_cases hi:i<vs.length
   .exact hi
   .rw[ă<|by simpa using hi]at h2;rw[Ņ]at h2;split at h2<;>cases h2
  have ha:vs[i]?=d7 v:=by
   unfold start at h2;rw[þ (by simpa using hi),Õ]at h2;cases e:vs[i]? with
   |none=>rw[e]at h2;cases h2
   |some a=>rw[e]at h2;cases h2;rfl
  obtain⟨u,hu,rv⟩:=r.get ha;have hp:ps[i]?=d7 y:=by rw[<-S.pre,List.getElem?_take_of_lt<|by lia];exact h1
  have ndP:ps.Nodup:=by rw[<-S.pre];exact S.nd.sublist<|List.take_sublist _ _
  refine⟨u,rv,?_⟩;rcases S.par y (ä hp)with k|k
  .exact .inl ⟨k,KR ndP hp hu k⟩
  .obtain⟨c,e⟩:=NC (n:=s.heap.objs.size+1) k;refine .inr ⟨.inl k,c,e,?_⟩;have q:=x.cell y c e;rw[KK ndP hp hu<|by show scope.names.lookup y≠_;rw[k];decide]at q;exact q
 .exact e0.hok.fresh<|Ū<|x.above y c<|PySem.mem_of_lookup h
 .unfold start;show _=N.length;rw[Ü,À,ñ];lia
def G9{K:Frag}{base:ü}{k:Nat}{name:Str}{params:Arguments}{body:List Ģ}{dV kV doc pm Μ ct oc:Â}{an od:Option È}
  {osl:Array (Option Â)}   (lk:K.lookup f=d7 ⟨oc,od,.func<|PySem.W.fnOf name qual params body scope dV kV doc pm an Μ ct,osl⟩) (aA:PySem.W.codeIn K Μ qual=d9) (S:FnScope N ps scope)
  (len:∀vs H Q E,sp vs H Q E->vs.length=ps.length)
  (bG:∀(A:č) (outer:List Env) (s:Å) (H:Hp) (vs:List V) (Q:VK) (E:XK),fh k (A.deeper<|Ϧ qual scope s.heap.objs.size f Μ)->sp vs H Q E->
    ∃t,PSs (KE CX P w K mg base N qual scope f Μ A outer s H E) body t/\t { nx:=λ_ H'=>Q .non H',rt:=Q } (start N vs) H) :
  fi P w K mg base CX (k+1) f (PySem.W.fnOf name qual params body scope dV kV doc pm an Μ ct) ps sp:=by
 refine⟨len,λA outer s H args us vs Q E hr e0 hb r dD=>?_⟩;have hl:=len _ _ _ _ dD;have KX:K.In s.heap:=e0.mod.kin.keeps λb o e=>(e0.bs b o e).1;have lim:s.heap.NoLimit:=e0.mod.nolimit.keeps λb o e=>(e0.bs b o e).1;have hkind:∀y∈ps.zip us,scope.names.lookup y.1=d7 .local\/(scope.names.lookup y.1=d7 .cell/\((cellsFrom (s.heap.objs.size+1) scope.names []).lookup y.1).isSome=d9):=λ⟨n,v⟩ hy=>by
  rcases S.par n (aw hy).1 with q|q
  .exact .inl q
  .exact .inr ⟨q,PySem.W.cellsFrom_some _ _ _<|.inl q⟩
 refine codeAny_call_function hr.depth (KX _ _ lk) rfl S.co S.gen rfl (PySem.W.codeRec_of KX aA)<|hb _ _ _ _ ?_;refine wpAny_newFunctionEnv_cells S.kind hkind λenv he s1 x=>?_;subst he;refine⟨lim.keeps x.toInCall.keep,codeAny_func ?_⟩;obtain⟨t,ht,hq⟩:=bG A outer s H vs Q E (hr.deeper _) dD;have I:Inv (KE CX P w K mg base N qual scope f Μ A outer s H E) [] (start N vs) H s1:=Ag S hr.hd e0 hl r x;refine ċ (ht [] s1 (start N vs) H _ I hq) (λfl s' hs=>?_) λe s' hs=>hs;have fin:∀{Ŀ:St}{H':Hp}{v:V}{u:Â},Inv (KE CX P w K mg base N qual scope f Μ A outer s H E) [] Ŀ H' s'->RelV v u->Q v H'->CE outer P w H s Q u s' :=
  λ{Ŀ H' v u} J rv q=>⟨v,H',J.os,J.bare,J.base,J.hok,rv,q⟩
 cases fl with
 |ret u =>obtain⟨v,Ŀ,H',J,rv,q⟩:=hs;exact fin J rv q
 |next =>obtain⟨Ŀ,H',J,q⟩:=hs;exact fin (v:=V.non) (u:=Value.none) J rfl q
 |brk =>obtain⟨_,_,_,q⟩:=hs;exact ù q
 |cont =>obtain⟨_,_,_,q⟩:=hs;exact ù q
section
variable {X:Cx}{x:Str}{p æ:Pos}{e:Expr}{es:List Expr}{t:TA}{id T:String}{r:List V->Hp->VK->Prop}
abbrev tCB(r:List V->Hp->VK->Prop)(t:TA):TE:=λσ H Q=>t σ H λvs H1=>r vs H1 Q
def Zy(hc:eM X (.builtin id) r)(hg:Gl X x)(hm:X.mg x=d8)(hv:Ş x=d7 (.builtin id))(ha:PA X (e::es) t)(hn:x≠"__name__":=by decide)(ϗ:(x==("__debug__" : Str))=ee:=by decide)
  (he:Ì (e::es) X.env=(ee,eval e X.env)::Ì es X.env:=by rfl) (hpl:(Ċ æ<|Ì es X.env).any (·.1)=ee:=by rfl):PE X (.Call (.Name x p) (e::es) [] æ)<|tCB r t:=by
 intro Á s σ H Q I h;refine Ļ<|XY I hg hm hv ?_ hn ϗ;exact PyProof.Rows.callWith_builtin1 (thn (ha æ Á s σ H _ I h) λus s1 ⟨vs,H1,I1,r1,q1⟩=>hc Á s1 σ H1 vs us Q I1 r1 q1) he hpl
def WC(hc:eM X (.type T) r)(hg:Gl X x)(hm:X.mg x=d8)(hv:Ş x=d7 (.type T))(ha:PA X (e::es) t)(hn:x≠"__name__":=by decide)(ϗ:(x==("__debug__" : Str))=ee:=by decide)
  (he:Ì (e::es) X.env=(ee,eval e X.env)::Ì es X.env:=by rfl) (hpl:(Ċ æ<|Ì es X.env).any (·.1)=ee:=by rfl):PE X (.Call (.Name x p) (e::es) [] æ)<|tCB r t:=by
 intro Á s σ H Q I h;refine Ļ<|XY I hg hm hv ?_ hn ϗ;exact PyProof.Rows.callWith_type1 (thn (ha æ Á s σ H _ I h) λus s1 ⟨vs,H1,I1,r1,q1⟩=>hc Á s1 σ H1 vs us Q I1 r1 q1) he hpl
end
end L2
namespace HT
open PySem PyProof.Rows
abbrev lexLt:List Int->List Int->Bool
 |[],[]=>ee
 |[],_::_=>d9
 |_::_,[]=>ee
 |x::xs,y::ys=>if x=y then lexLt xs ys else gg (x<y)
def lexLt_cons(x y:Int)(xs ys:List Int):lexLt (x::xs) (y::ys)=if x=y then lexLt xs ys else gg (x<y):=rfl
def KD:lexLt [] []=ee:=rfl
def Kf(y:Int)(ys:List Int):lexLt [] (y::ys)=d9:=rfl
def JV(x:Int)(xs:List Int):lexLt (x::xs) []=ee:=rfl
def eqAt_int(A:č)(s:Å)(a:Int)(t:Tok)(c:Int)(u:Tok):∃e,SeqAt.EqAt A s (.int a t) (.int c u) e/\(e=d9↔a=c) :=
 ⟨(a==c),SeqAt.EqAt.int_int a t c u,by simp⟩
def Co(A:č)(s:Å)(a:Int)(t:Tok)(c:Int)(u:Tok)(prog:ê)(w:ý)(E:Â->Å->Prop)(Q:Â->Å->Prop)(h:Q (.bool<|gg (a<c)) s) :
  wpAny (à prog w) A (richCompare .Lt (.int a t)<|.int c u) Q E s :=
 (PyProof.Rows.lt_int h:wpAny (à prog w) A (ë .Lt (.int a t)<|.int c u) Q E s)
section
open PySem.SeqAt
open PySem.AutoSeq1 (wpAny_loadPart')
open PySem.MeetsSeq PySem.MeetsSeq2 PySem.MeetsSeq3
def KC(l b:È)(items Ľ:Array Â)(n n2:Nat)(dd cG:Option È)(sl dF:Array<|Option Â)(ns ms:List Int)(hi:Ė items.toList ns)(hj:Ė Ľ.toList ms) :
  Meets (Builtin.«tuple.__lt__» ⟨[.ref l,.ref b],[]⟩)
   (λ_ R s=>s.heap.get? l=d7 { cls:=.type "tuple",dict:=dd,data:=.seq items n,slots:=sl }/\s.heap.get? b=d7 { cls:=.type "tuple",dict:=cG,data:=.seq Ľ n2,slots:=dF }/\
     R (.ok<|.ret<|.bool<|lexLt ns ms) s) :=
 .of_wp λprog w A R s h=>by
  obtain⟨hp,g,d,tk,os⟩:=s;obtain⟨hl,hb,h⟩:=h;have f2:=AutoSeq1.sub_tuple_tuple;have z1:items.size=ns.length:=by rw[<-hi.length];simp
  have z2:Ľ.size=ms.length:=by rw[<-hj.length];simp
  wp_walk using ę hl,ę hb,wpAny_forIn_list _ (λrest b s'=>b.1=d8/\s'=⟨hp,g,d,tk,os⟩/\∃(vs ws:List Â) (cp cX:List Int),rest=vs.zip ws/\
    Ė vs cp/\Ė ws cX/\cp.length+Ľ.size=cX.length+items.size/\R (.ok<|.ret<|.bool<|lexLt cp cX) ⟨hp,g,d,tk,os⟩) _
  case turn =>
   rintro⟨y,x⟩ rest b s' ⟨cH,rfl,vs,ws,cp,cX,hz,hvi,hwi,hlen,hR⟩;cases hvi with
   |nil=>rw[ψ]at hz;cases hz
   |cons a t hvi' =>
    cases hwi with
    |nil=>rw[η]at hz;cases hz
    |cons c u hwi' =>
     rw[ň]at hz;injection hz with hyx hrest;injection hyx with hy hx;subst hy hx;rw[lexLt_cons]at hR;simp only[Ç]at hlen;obtain⟨e,he,hiff⟩:=eqAt_int A.in1 ⟨hp,g,d,tk,os⟩ a t c u;refine Ã<|he prog w _ _ ?_;cases e with
     |true =>
      rw[fZ<|hiff.mp rfl]at hR
      wp_walk
      exact⟨rfl,rfl,_,_,_,_,hrest,hvi',hwi',by lia,hR⟩
     |false =>
      rw[f8 λq=>gf (hiff.mpr q) ø]at hR;have hri:=Co A.in1 ⟨hp,g,d,tk,os⟩ a t c u prog w
      wp_walk using hri
      exact⟨_,rfl,by simpa using hR⟩
  case fin =>
   rintro⟨b1,b2⟩ s' ⟨cH,rfl,vs,ws,cp,cX,hz,hvi,hwi,hlen,hR⟩;simp only at cH;subst cH;have hv:lexLt cp cX=gg (items.size<Ľ.size):=by
    cases hvi with
    |nil =>
     cases hwi with
     |nil =>simp only[ė]at hlen;rw[KD];exact(f9<|by lia).symm
     |cons c u hw =>simp only[ė,Ç]at hlen;rw[Kf];exact(gb<|by lia).symm
    |cons a t hv =>
     cases hwi with
     |nil =>simp only[ė,Ç]at hlen;rw[JV];exact(f9<|by lia).symm
     |cons c u hw =>rw[ň]at hz;cases hz
   rw[hv]at hR
   wp_walk
   exact⟨_,rfl,by simpa[Builtin.Tuple.tupleCompareSizes]using hR⟩
  case h =>exact⟨rfl,rfl,items.toList,Ľ.toList,ns,ms,rfl,hi,hj,by lia,h⟩
end
section
variable {prog:ê}{w:ý}{A:č}{E:Â->Å->Prop}{s:Å}
variable {b:È} {items:Array Â} {Q:Â->Å->Prop}
def lt_tupInts{l:È}{Ľ:Array Â}{ns ms:List Int}(hl:ϙ s.heap l items)(hb:ϙ s.heap b Ľ)(hi:Ė items.toList ns)(hj:Ė Ľ.toList ms)
  (hu:A.units<Ě) (h:Q (.bool<|lexLt ns ms) s):wpAny (à prog w) A (ë .Lt (.ref l)<|.ref b) Q E s:=by
 obtain⟨⟨cls,dd,data,sl⟩,ho,hc,n,hd⟩:=id hl;obtain⟨⟨cls2,cG,data2,dF⟩,ho2,hc2,n2,aM⟩:=id hb;simp only at hc hd hc2 aM;subst hc hd hc2 aM;exact dN (op:=.Lt) ⟨_,ho,rfl⟩ ⟨_,ho2,rfl⟩ PySem.F.slot_tuple_lt PySem.F.entry_tuple_lt (PySem.F.args_tuple_lt_2 _ _) (KC l b items Ľ n n2 dd cG sl dF ns ms hi hj)
  ⟨ho,ho2,show Value.bool (lexLt ns ms)≠bT/\Q (.bool<|lexLt ns ms) s from ⟨(λx=>nomatch x),h⟩⟩ hu
def cat_tup{t:È}{vs ws:List Â}(ht:ϙ s.heap t vs.toArray)(hb:ϙ s.heap b ws.toArray)(hv:vs≠[])
  (h1:ws=[]->Q (.ref t) s) (h2:ws≠[]->Q (.ref s.heap.objs.size) {s with heap:=s.heap.push {cls:=.type "tuple",data:=.seq (vs++ws).toArray}})
  (hsz:vs.length+ws.length<=Ú):wpAny (à prog w) A (ł .Add (.ref t)<|.ref b) Q E s:=by
 obtain⟨⟨cls,dd,data,sl⟩,ho,hc,n,hd⟩:=id ht;obtain⟨⟨cls2,cG,data2,dF⟩,ho2,hc2,n2,aM⟩:=id hb;simp only at hc hd hc2 aM;subst hc hd hc2 aM;have e:vs.toArray++ws.toArray=(vs++ws).toArray:=by simp
 by_cases hw:ws=[]
 .exact dO ⟨_,ho,rfl⟩ ⟨_,ho2,rfl⟩ aT cP PySem.F.slot_tuple_add PySem.F.entry_tuple_add (PySem.F.args_tuple_add_2 _ _)
   (tuple_addW1 t b vs.toArray ws.toArray n n2 dd cG sl dF (by simpa using hv)<|by simp[hw]) ⟨ho,ho2,h1 hw⟩
 .refine dO ⟨_,ho,rfl⟩ ⟨_,ho2,rfl⟩ aT cP PySem.F.slot_tuple_add PySem.F.entry_tuple_add (PySem.F.args_tuple_add_2 _ _)
   (tuple_addW2 t b vs.toArray ws.toArray n n2 dd cG sl dF (by simpa using hv) (by simpa using hw)<|by rw[Ë,Ë];exact hsz) ⟨ho,ho2,?_⟩
  rw[e];exact h2 hw
abbrev sIx(n d:Nat):Option Int->Nat
 |none=>d
 |some v=>if v<0 then(v+(n:Int)).toNat else min v.toNat n
def Io(n d:Nat)(hd:d<=n)(o:Option Int):sIx n d o<=n:=by
 cases o with
 |none=>exact hd
 |some v =>
  show(if v<0 then(v+(n:Int)).toNat else min v.toNat n)<=n;by_cases hv:v<0
  .rw[fZ hv];lia
  .rw[f8 hv];exact af _ _
def clip_eq(v:Int)(n d:Nat):(if v<0 then max (v+(n:Int)) 0 else min v (n:Int))=((sIx n d (d7 v):Nat):Int):=by
 show(if v<0 then max (v+(n:Int)) 0 else min v (n:Int))=(((if v<0 then(v+(n:Int)).toNat else min v.toNat n):Nat):Int)
 by_cases hv:v<0
 .simp only[fZ hv];lia
 .simp only[f8 hv];lia
def OT(lo hi:Option Int)(n:Nat):Builtin.Slice.sliceAdjust lo hi 1 (n:Int)=(((sIx n 0 lo:Nat):Int),((sIx n n hi:Nat):Int)):=by
 have h1:¬ ((1:Int)<0):=by lia
 unfold Builtin.Slice.sliceAdjust;simp only[h1,if_false];refine Prod.ext ?_ ?_
 .cases lo with
  |none=>rfl
  |some v=>exact clip_eq v n 0
 .cases hi with
  |none=>rfl
  |some v=>exact clip_eq v n n
def OW(i j:Nat):Builtin.Slice.slicePlaces (i:Int) (j:Int) 1=j - i:=by
 unfold Builtin.Slice.slicePlaces;have h1:(1:Int) > 0:=by lia
 simp only[h1,if_true,Int.ediv_one];split<;>lia
def Kl{v:Â}{o:Option Int}{Q:Option Int->Å->Prop}(p:ϓ v o)(h:Q o s):wpAny (à prog w) A (Builtin.Slice.slicePartIndex v) Q E s:=by
 cases p with
 |none=>exact slicePart_none h
 |int i t=>exact slicePart_int h
variable {sl:È} {vl:Â} {vu:Â} {lo:Option Int} {hi:Option Int}
def YF{n:Nat}{Q:Int×Int×Nat->Å->Prop}(hs:s.heap.IsSliceOf sl vl vu .none)(pl:ϓ vl lo)(pu:ϓ vu hi)
  (h:Q (((sIx n 0 lo:Nat):Int),1,sIx n n hi - sIx n 0 lo) s):wpAny (à prog w) A (Builtin.Slice.sliceApplied (.ref sl)<|pure (n:Int)) Q E s:=by
 obtain⟨os,hos,hcs,hds⟩:=id hs;unfold Builtin.Slice.sliceApplied Builtin.Slice.sliceFields;refine Ã<|Ã<|ħ hos hds (x:=vl) rfl<|Ã<|ħ hos hds (x:=vu) rfl<|Ã<|ħ hos hds (x:=.none) rfl<|Ò ?_;refine Ã<|slicePart_none ?_;show wpAny _ _ (if((1:Int)==0)=d9 then _ else _) _ _ s;rw[f8<|by decide];refine Ã<|Kl pl<|Ã<|Kl pu<|Ã<|Ò ?_;show wpAny _ _ (match Builtin.Slice.sliceAdjust lo hi 1 (n:Int)with|(lo,hi)=>pure (lo,(1:Int),Builtin.Slice.slicePlaces lo hi 1)) _ _ s;rw[OT lo hi n];show wpAny _ _ (pure (((sIx n 0 lo:Nat):Int),(1:Int),Builtin.Slice.slicePlaces ((sIx n 0 lo:Nat):Int) ((sIx n n hi:Nat):Int) 1)) _ _ s;rw[OW];exact Ò h
def Eg(xs:Array Â)(i k:Nat):((List.range k).filterMap λ(m:Nat)=>xs[((i:Int)+(m:Int)*1).toNat]?).toArray=((xs.toList.drop i).take k).toArray:=by
 have e:(λ(m:Nat)=>xs[((i:Int)+(m:Int)*1).toNat]?)=λm=>xs[i+m]?:=by
  funext m;have:((i:Int)+(m:Int)*1).toNat=i+m:=by lia
  rw[this]
 rw[e];have:=pick_run xs i k;rw[θ]at this;have e2:((λx=>xs[x]?) ∘ λx=>i+x)=λm=>xs[i+m]?:=rfl;rw[e2]at this;rw[this]
def getItem_tuple_cut{t:È}(ht:ϙ s.heap t items)(hs:s.heap.IsSliceOf sl vl vu .none)(pl:ϓ vl lo)(pu:ϓ vu hi)
  (hw:¬ (sIx items.size 0 lo=0/\sIx items.size items.size hi=items.size))
  (h:Q (.ref s.heap.objs.size) {s with heap:=s.heap.push {cls:=.type "tuple",data:=.seq ((items.toList.drop<|sIx items.size 0 lo).take<|sIx items.size items.size hi - sIx items.size 0 lo).toArray}})
  (hsz:items.size<=Ú):wpAny (à prog w) A (ϒ (.ref t)<|.ref sl) Q E s:=by
 have cI:sizeOk<|.seq ((items.toList.drop<|sIx items.size 0 lo).take<|sIx items.size items.size hi - sIx items.size 0 lo).toArray:=by show((items.toList.drop<|sIx items.size 0 lo).take<|sIx items.size items.size hi - sIx items.size 0 lo).toArray.size<=Ú;rw[Ë,ÿ,Ř,ē];lia
 have hj:sIx items.size items.size hi<=items.size:=Io _ _ (Í _) hi;obtain⟨os,hos,hcs,hds⟩:=id hs;have hTs:s.TypeIs (.ref sl) "slice":=⟨os,hos,hcs⟩
 unfold ϒ
 try with_reducible refine ŕ ?_
 first|refine Ã (Ò ?_)|skip
 refine Ã (wpAny_sequenceKey ht.typeIs (by decide) ?_);refine Ã (Ĝ (name:=gh "__getitem__") ht.typeIs PyProof.Rows.slot_tuple_getitem
   (ī PyProof.Rows.slot_tuple_getitem ht.typeIs entry_tuple_getitem ?_<|args_tuple_getitem _ _))
 show wpAny _ _ (Builtin.Tuple.tupleItemsOf (.ref t) >>= _) _ _ s;refine Ã<|tupleItemsOf_ ht ?_;refine Ã<|dP hTs ?_;rw[fZ<|by decide];refine Ã<|YF hs pl pu ?_;have hno:¬ ((((sIx items.size 0 lo:Nat):Int)==0&&(1:Int)==1&&(sIx items.size items.size hi - sIx items.size 0 lo)==items.size)=d9):=by intro q;rw[bAq,bAq]at q;have q1:((sIx items.size 0 lo:Nat):Int)=0:=eq_of_beq q.1.1;have q2:sIx items.size items.size hi - sIx items.size 0 lo=items.size:=eq_of_beq q.2;exact hw ⟨by lia,by lia⟩
 show wpAny _ _ (if(((sIx items.size 0 lo:Nat):Int)==0&&(1:Int)==1&&(sIx items.size items.size hi - sIx items.size 0 lo)==items.size)=d9 then _ else _) _ _ s;rw[f8 hno,Eg]
 first
  |exact Ã (m:=Builtin.Tuple.tupleExact _)<|Đ (Ò ⟨_,rfl,Ò h⟩) cI
  |exact Ã (m:=Builtin.Tuple.tupleExact _)<|Đ (Ã<|Ò<|Ò ⟨_,rfl,Ò h⟩) cI
  |exact Ã<|Ã (m:=Builtin.Tuple.tupleExact _)<|Đ (Ò<|Ò ⟨_,rfl,Ò h⟩) cI
  |exact Ã<|Ã (m:=Builtin.Tuple.tupleExact _)<|Đ (Ò ⟨_,rfl,Ò h⟩) cI
end
end HT
namespace L2
open PySem PySem.Spec PyProof.Rows
noncomputable abbrev TO:=St->Hp->(Option Int->Hp->Prop)->Prop
abbrev PO(X:Cx)(e:Option Expr)(t:TO):Prop :=
 ∀(Á:List<|È×Obj) (s:Å) (σ:St) (H:Hp) (Q:Option Int->Hp->Prop),Inv X Á σ H s->t σ H Q->
  wpAny (à X.prog X.w) X.A (evalPart e X.env) (λu s'=>∃o H',Inv X Á σ H' s'/\ϓ u o/\Q o H') X.xe s
abbrev Gj:TO:=λ_ H Q=>Q d8 H
abbrev QP(t:TE):TO:=λσ H Q=>t σ H λx H1=>∃i,x=.int i/\Q (d7 i) H1
def Zq{ns:List Int}:∀{us:List Â},fR (ns.map V.int) us->Ė us ns:=by
 induction ns with
 |nil=>intro us r;rw[Ź]at r;cases r;exact .nil
 |cons n ns ih =>
  intro us r;rw[Î]at r;cases r with
  |cons r1 r2 =>obtain⟨t,e⟩:=r1;subst e;exact .cons n t<|ih r2
section
variable {X:Cx}{e:Expr}{te:TE}{lo hi:Option Expr}{tl th:TO}{æ p2:Pos}
def po_none:PO X d8 Gj:=by intro Á s σ H Q I h;rw[evalPart_none];exact Ò ⟨d8,H,I,.none,h⟩
def GM(h:PE X e te):PO X (d7 e)<|QP te:=by intro Á s σ H Q I hw;rw[evalPart_some];refine thn (h Á s σ H _ I hw) λu s1 ⟨x,H1,I1,r1,q1⟩=>?_;obtain⟨i,rfl,q⟩:=q1;obtain⟨t,rfl⟩:=r1;exact⟨d7 i,H1,I1,.int i t,q⟩
abbrev SlR(X:Cx)(r:V->Option Int->Option Int->Hp->VK->Prop):Prop :=
 ∀(Á:List<|È×Obj) (s:Å) (σ:St) (H:Hp) (x:V) (v vl vu:Â) (lo hi:Option Int) (sl:È) (Q:VK),Inv X Á σ H s->RelV x v->s.heap.IsSliceOf sl vl vu .none->ϓ vl lo->ϓ vu hi->r x lo hi H Q->
  ∃T id,typeLookup (.type T) "__getitem__" = pure (d7<|.builtin id)/\s.TypeIs v T/\wpAny (à X.prog X.w) X.A (ϒ v<|.ref sl) (EP X Á σ Q) X.xe s
variable {r:V->Option Int->Option Int->Hp->VK->Prop}
def SlR.or{r':V->Option Int->Option Int->Hp->VK->Prop}(h:SlR X r)(h':SlR X r'):SlR X λx lo hi H Q=>r x lo hi H Q\/r' x lo hi H Q:=by
 intro Á s σ H x v vl vu lo hi sl Q I rx hs pl pu q;rcases q with q|q
 .exact h Á s σ H x v vl vu lo hi sl Q I rx hs pl pu q
 .exact h' Á s σ H x v vl vu lo hi sl Q I rx hs pl pu q
abbrev tSl(r:V->Option Int->Option Int->Hp->VK->Prop)(te:TE)(tl th:TO):TE:=λσ H Q=>te σ H λx H1=>tl σ H1 λl H2=>th σ H2 λu H3=>r x l u H3 Q
def DZ(hr:SlR X r)(he:PE X e te)(hl:PO X lo tl)(hu:PO X hi th):PE X (.Subscript e (.Slice lo hi d8 p2) æ)<|tSl r te tl th:=by intro Á s σ H Q I h;refine Subscript_<|thn (he Á s σ H _ I h) λv s1 ⟨x,H1,I1,r1,q1⟩=>?_;refine wpAny_Slice<|thn (hl Á s1 σ H1 _ I1 q1) λvl s2 ⟨l,H2,I2,pl,q2⟩=>thn (hu Á s2 σ H2 _ I2 q2) λvu s3 ⟨u,H3,I3,pu,q3⟩=>?_;rw[evalPart_none];refine Ò ?_;have I4:Inv X Á σ H3 {s3 with heap:=s3.heap.push {cls:=.type "slice",data:=.fields #[vl,vu,.none]}}:=I3.kept (t':=s3.toks) λb ob q=>Ä _ q;obtain⟨T,id,hT,ht,hg⟩:=hr Á {s3 with heap:=s3.heap.push {cls:=.type "slice",data:=.fields #[vl,vu,.none]}} σ H3 x v vl vu l u s3.heap.objs.size Q I4 r1 (Heap.IsSliceOf.new ..) pl pu q3;show wpAny (à X.prog X.w) X.A (cQ e (.Slice lo hi d8 p2) v<|.ref s3.heap.objs.size) (EP X Á σ Q) X.xe {s3 with heap:=s3.heap.push {cls:=.type "slice",data:=.fields #[vl,vu,.none]}};exact tail_any (ops:=[.ref s3.heap.objs.size,v]) ht hT hg (by with_unfolding_all rfl)
abbrev MT(xs:List V)(lo hi:Option Int):List V:=(xs.drop<|HT.sIx xs.length 0 lo).take<|HT.sIx xs.length xs.length hi - HT.sIx xs.length 0 lo
def WZ(xs:List V)(lo hi:Option Int):(MT xs lo hi).length<=xs.length:=by unfold MT;rw[ÿ,Ř];lia
abbrev P7(K:Frag):V->Option Int->Option Int->Hp->VK->Prop:=λx lo hi H Q=>∃a xs,x=.ref a/\fQ K H a xs/\
 ¬ (HT.sIx xs.length 0 lo=0/\HT.sIx xs.length xs.length hi=xs.length)/\∀p,H p=d8->Q (.ref p) (upd H p<|.tup<|MT xs lo hi)
def fE:SlR X<|P7 X.K:=by
 intro Á s σ H x v vl vu lo hi sl Q I rx hs pl pu h;obtain⟨a,xs,rfl,hx,hw,q⟩:=h;cases rx;obtain⟨ì,r,ht,hz⟩:=I.tuple hx;have hlen:ì.toArray.size=xs.length:=by rw[Ë];exact r.length.symm
 refine⟨"tuple",_,PyProof.Rows.slot_tuple_getitem.lookup,ht.typeIs,?_⟩;refine HT.getItem_tuple_cut ht hs pl pu (by rw[hlen];exact hw) ?_ (by rw[hlen];exact hz);rw[hlen];refine⟨.ref s.heap.objs.size,_,I.laid (t':=s.toks) (o:=.tup<|MT xs lo hi) (λb ob q=>Ä _ q) (Í _) ?_,rfl,q _<|I.hok.fresh<|Í _⟩;exact⟨ß (WZ xs lo hi) hz,_,(r.drop<|HT.sIx xs.length 0 lo).take<|HT.sIx xs.length xs.length hi - HT.sIx xs.length 0 lo,IsTup.new _ _⟩
abbrev P3(K:Frag):R2:=λx y H Q=>∃a b ns ms,x=.ref a/\y=.ref b/\fQ K H a (ns.map V.int)/\fQ K H b (ms.map V.int)/\Q (.bl<|HT.lexLt ns ms) H
def Pe(hu:X.A.units<Ě):OpR X (ë .Lt)<|P3 X.K:=by intro Á s σ H x y v u Q I rx ry h;obtain⟨a,b,ns,ms,rfl,rfl,ha,hb,q⟩:=h;cases rx;cases ry;obtain⟨ì,r1,p1,_⟩:=I.tuple ha;obtain⟨al,r2,p2,_⟩:=I.tuple hb;have i1:Ė ì.toArray.toList ns:=Zq r1;have i2:Ė al.toArray.toList ms:=Zq r2;exact HT.lt_tupInts p1 p2 i1 i2 hu ⟨.bl<|HT.lexLt ns ms,H,I,rfl,q⟩
abbrev G8(K:Frag):R2:=λx y H Q=>∃a b xs ys,x=.ref a/\y=.ref b/\fQ K H a xs/\fQ K H b ys/\xs≠[]/\xs.length+ys.length<=Ú/\
 (ys=[]->Q (.ref a) H)/\(ys≠[]->∀p,H p=d8->Q (.ref p) (upd H p<|.tup<|xs++ys))
def fR.nil_iff{xs:List V}{us:List Â}(r:fR xs us):us=[]↔xs=[]:=by
 cases r with
 |nil=>simp
 |cons _ _=>simp
def EZ:OpR X (ł .Add)<|G8 X.K:=by intro Á s σ H x y v u Q I rx ry h;obtain⟨a,b,xs,ys,rfl,rfl,ha,hb,hx,hz,q1,q2⟩:=h;cases rx;cases ry;obtain⟨ì,r1,p1,_⟩:=I.tuple ha;obtain⟨al,r2,p2,_⟩:=I.tuple hb;refine HT.cat_tup p1 p2 (λz=>hx<|r1.nil_iff.mp z) (λz=>⟨.ref a,H,I,rfl,q1<|r2.nil_iff.mp z⟩) (λz=>?_) (by rw[<-r1.length,<-r2.length];exact hz);refine⟨.ref s.heap.objs.size,_,I.laid (t':=s.toks) (o:=.tup<|xs++ys) (λb ob q=>Ä _ q) (Í _) ?_,rfl,q2 (λw=>z<|r2.nil_iff.mpr w) _<|I.hok.fresh<|Í _⟩;exact⟨by rw[Ü];exact hz,_,r1.append r2,IsTup.new _ _⟩
end
abbrev ixN(n:Nat)(i:Int):Option Nat:=if 0<=i then(if i<n then d7 i.toNat else d8)else if -(n:Int)<=i then d7 (i+n).toNat else d8
variable {α:Type}
abbrev atI(xs:List α)(i:Int):Option α:=(ixN xs.length i).bind λj=>xs[j]?
variable {n:Nat} {i:Int}
def Ms{j:Nat}(h:ixN n i=d7 j):seqIndex? i n=d7 j/\j<n/\-(n:Int)<=i/\i<n:=by
 unfold ixN at h;by_cases h0:0<=i
 .rw[fZ h0]at h;by_cases h1:i<n
  .rw[fZ h1]at h;have e:i.toNat=j:=í h;exact⟨by rw[bc h0 h1,e],by lia,by lia,h1⟩
  .rw[f8 h1]at h;cases h
 .rw[f8 h0]at h;by_cases h1:-(n:Int)<=i
  .rw[fZ h1]at h;have e:(i+n).toNat=j:=í h;exact⟨by rw[aC (by lia) h1,e],by lia,h1,by lia⟩
  .rw[f8 h1]at h;cases h
def Je{xs:List α}{v:α}(h:atI xs i=d7 v):∃j,seqIndex? i xs.length=d7 j/\xs[j]?=d7 v/\j<xs.length/\-(xs.length:Int)<=i/\i<xs.length:=by
 unfold atI at h;cases e:ixN xs.length i with
 |none=>rw[e]at h;cases h
 |some j =>rw[e]at h;obtain⟨h1,h2,h3,h4⟩:=Ms e;exact⟨j,h1,h,h2,h3,h4⟩
abbrev MH(b:Expr):Prop:=∀o i,subscripted b ee o i=operate [o,i] (ϒ o i)
abbrev IxR(X:Cx)(r:R2):Prop :=
 ∀(ŷ slice:Expr) (Á:List<|È×Obj) (s:Å) (σ:St) (H:Hp) (x y:V) (v u:Â) (Q:VK),Inv X Á σ H s->RelV x v->RelV y u->r x y H Q->
  subscripted slice ee v u=operate [v,u] (ϒ v u)->wpAny (à X.prog X.w) X.A (cQ ŷ slice v u) (EP X Á σ Q) X.xe s
abbrev MtR(X:Cx)(id:String)(r:V->List V->Hp->VK->Prop):Prop :=
 ∀(Á:List<|È×Obj) (s:Å) (σ:St) (H:Hp) (x:V) (xs:List V) (v:Â) (us:List Â) (Q:VK),Inv X Á σ H s->RelV x v->fR xs us->r x xs H Q->
  wpAny (à X.prog X.w) X.A (call (.builtin id)<|v::us) (EP X Á σ Q) X.xe s
section
variable {X:Cx}{a b:Expr}{ta tb:TE}{æ:Pos}
variable {r:R2}
def IxR.or{r':R2}(h:IxR X r)(h':IxR X r'):IxR X λx y H Q=>r x y H Q\/r' x y H Q:=by
 intro ŷ slice Á s σ H x y v u Q I rx ry q hs;rcases q with q|q
 .exact h ŷ slice Á s σ H x y v u Q I rx ry q hs
 .exact h' ŷ slice Á s σ H x y v u Q I rx ry q hs
def MtR.or{id:String}{r r':V->List V->Hp->VK->Prop}(h:MtR X id r)(h':MtR X id r'):MtR X id λx xs H Q=>r x xs H Q\/r' x xs H Q:=by
 intro Á s σ H x xs v us Q I rx rs q;rcases q with q|q
 .exact h Á s σ H x xs v us Q I rx rs q
 .exact h' Á s σ H x xs v us Q I rx rs q
def QC(hr:IxR X r)(ha:PE X a ta)(hb:PE X b tb)(hs:MH b):PE X (.Subscript a b æ)<|tOp r ta tb:=by intro Á s σ H Q I h;exact Subscript_ (HL ha hb I h λv u s2 x y H2 I2 rx ry q=>hr a b Á s2 σ H2 x y v u Q I2 rx ry q<|hs _ _)
abbrev BN(K:Frag):R2:=λx y H Q=>∃p xs i v,x=.ref p/\y=.int i/\fP K H p xs/\atI xs i=d7 v/\Q v H
abbrev Q5(K:Frag):R2:=λx y H Q=>∃p xs i v,x=.ref p/\y=.int i/\fQ K H p xs/\atI xs i=d7 v/\Q v H
abbrev QF:R2:=λx y H Q=>∃z i c,x=.str z/\y=.int i/\z.length<=Ú/\atI z.cps.toList i=d7 c/\Q (.str ⟨#[c]⟩) H
def ix_list:IxR X<|BN X.K:=by
 intro ŷ slice Á s σ H x y v u Q I rx ry h hs;obtain⟨p,xs,i,z,rfl,rfl,hq,he,q⟩:=h;cases rx;obtain⟨t,rfl⟩:=ry;obtain⟨ì,r,pl,hz⟩:=I.list hq;obtain⟨j,h1,h2,h3,h4,h5⟩:=Je he;obtain⟨w,ew,aH⟩:=r.get h2;have hl:=r.length;have hn:=Xm;have fin:EP X Á σ Q w s:=⟨z,H,I,aH,q⟩
 by_cases h0:0<=i
 .have hj:i.toNat=j:=by
   rw[bc h0 h5]at h1;exact í h1
  exact item_listR pl.isList h0 (by lia) (by rw[hj];simpa using ew) fin hs
 .have hj:(i+(ì.toArray.size:Int)).toNat=j:=by
   rw[aC (by lia) h4]at h1;rw[Ë,<-hl];exact í h1
  exact dQ (x:=w) pl.isList.typeIs slot_list_getitem.lookup
   (dR (Q:=λr s'=>r=w/\EP X Á σ Q r s') pl.isList (by lia) (by rw[Ë]<;>lia) (by lia) (by rw[hj];simpa using ew) ⟨rfl,fin⟩) hs
def eK:IxR X<|Q5 X.K:=by
 intro ŷ slice Á s σ H x y v u Q I rx ry h hs;obtain⟨p,xs,i,z,rfl,rfl,hq,he,q⟩:=h;cases rx;obtain⟨t,rfl⟩:=ry;obtain⟨ì,r,pl,hz⟩:=I.tuple hq;obtain⟨j,h1,h2,h3,h4,h5⟩:=Je he;obtain⟨w,ew,aH⟩:=r.get h2;have hl:=r.length;have hn:=Xm;have fin:EP X Á σ Q w s:=⟨z,H,I,aH,q⟩
 exact dQ (x:=w) pl.typeIs slot_tuple_getitem.lookup
  (getItem_tuple (j:=j) (Q:=λr s'=>r=w/\EP X Á σ Q r s') pl (by lia) (by lia) (by rw[Ë,<-hl];exact h1) (by simpa using ew) ⟨rfl,fin⟩) hs
def Lu:IxR X QF:=by
 intro ŷ slice Á s σ H x y v u Q I rx ry h hs;obtain⟨z,i,c,rfl,rfl,hz,he,q⟩:=h;obtain⟨t,rfl⟩:=rx;obtain⟨t',rfl⟩:=ry;obtain⟨j,h1,h2,h3,h4,h5⟩:=Je he;have hl:z.cps.toList.length=z.length:=by simp[Str.length]
 rw[hl]at h1 h4 h5;have hn:=Xm;exact tail_any (typeIs_str s z t) slot_str_getitem.lookup (getItem_str (c:=c) (by
   have e1:gg (i < -(2 ^ 63:Int))=ee:=f9 (by lia)
   have e2:gg (i≥2 ^ 63)=ee:=f9 (by lia)
   rw[e1,e2,be]) (by rw[h1];simpa using h2) ⟨.str ⟨#[c]⟩,H,I.tok _,⟨_,rfl⟩,q⟩) hs
abbrev rIx(K:Frag):R2:=λx y H Q=>BN K x y H Q\/Q5 K x y H Q\/QF x y H Q
def ix_seq:IxR X<|rIx X.K:=ix_list.or (eK.or Lu)
def O1(ì:List Â)(n j:Nat)(u:Â):ϧ (·.setIfInBounds j u) {cls:=.type "list",data:=.seq ì.toArray n}={cls:=.type "list",data:=.seq (ì.set j u).toArray n}:=by simp[ϧ]
def Inv.lst{Á:List (È×Obj)}{σ:St}{H:Hp}{s:Å}{p:È}{xs:List V}(I:Inv X Á σ H s)(h:H p=d7 (.lst xs)) :
  ∃(ì:List Â) (n:Nat),fR xs ì/\s.heap.get? p=d7 {cls:=.type "list",data:=.seq ì.toArray n}/\xs.length<=Ú:=by
 obtain⟨z,ì,n,r,e⟩:=I.hok p _ h;exact⟨ì,n,r,e,z⟩
variable {Á:List (È×Obj)} {σ:St} {H:Hp} {s:Å}
def Inv.lstUpd{p:È}{xs ys:List V}{ì its':List Â}{n':Nat}{f:Obj->Obj}(I:Inv X Á σ H s)(h:H p=d7 (.lst xs))
  (ho:s.heap.get? p=d7 {cls:=.type "list",data:=.seq ì.toArray n}) (hf:f {cls:=.type "list",data:=.seq ì.toArray n}={cls:=.type "list",data:=.seq its'.toArray n'}) (r:fR ys its') (hz:ys.length<=Ú) (t:Nat) :
  Inv X Á σ (upd H p<|.lst ys) {s with heap:=s.heap.update p f,toks:=t}:=by
 have e:(s.heap.update p f).get? p=d7 {cls:=.type "list",data:=.seq its'.toArray n'}:=by rw[ō f ho (by rw[hf]<;>rfl),hf]
 refine I.write (x:=p) (e:=p) (by rw[h];trivial) (.inl rfl) (λb u hb q=>(ā _ _<|Ne.symm hb).trans q) ⟨_,e⟩ ?_;exact⟨hz,its',n',r,e⟩
abbrev Hv:V->V->V->Hp->(Hp->Prop)->Prop:=λo i v H Q=>∃p xs k j,o=.ref p/\i=.int k/\H p=d7 (.lst xs)/\ixN xs.length k=d7 j/\Q (upd H p<|.lst<|xs.set j v)
def NH:PSet X Hv:=by
 intro Á s σ H o i v ov iv u Q I ro ri rv h;obtain⟨p,xs,k,j,rfl,rfl,hp,hj,q⟩:=h;cases ro;obtain⟨t,rfl⟩:=ri;obtain⟨ì,n,r,ho,hz⟩:=I.lst hp;obtain⟨h1,h2,h3,h4⟩:=Ms hj;have hl:=r.length;have hn:=Xm;have I':Inv X Á σ (upd H p<|.lst<|xs.set j v) {s with heap:=s.heap.update p (ϧ (·.setIfInBounds j u))} :=
  I.lstUpd hp ho (O1 ì n j u) (r.set rv j) (by rw[Ŵ];exact hz) s.toks
 by_cases h0:0<=k
 .have hk:k.toNat=j:=by
   rw[bc h0 h4]at h1;exact í h1
  exact PySem.W.ki_setAt ho h0 (by lia) (by rw[Ë,<-hl];exact h4) (by rw[hk];exact⟨_,I',q⟩)
 .have hk:(k+(ì.toArray.size:Int)).toNat=j:=by
   rw[aC (by lia) h3]at h1;rw[Ë,<-hl];exact í h1
  exact PySem.W.ki_setBack ho (by lia) (by rw[Ë,<-hl];exact h3) (by lia) (by rw[hk];exact⟨_,I',q⟩)
def MA(lo hi:Option Int)(n:Nat):(Ż lo hi d8 n).1=((HT.sIx n 0 lo:Nat):Int)/\(Ż lo hi d8 n).2.1=((HT.sIx n n hi:Nat):Int)/\(Ż lo hi d8 n).2.2=1:=by
 refine⟨?_,?_,rfl⟩
 .cases lo with
  |none=>simp[Ż,HT.sIx]
  |some i =>
   simp only[Ż,HT.sIx,di,show(1:Int) > 0 by decide,if_true];by_cases h:i<0
   .simp only[h,if_true]<;>lia
   .simp only[h,if_false]<;>lia
 .cases hi with
  |none=>simp[Ż,HT.sIx]
  |some i =>
   simp only[Ż,HT.sIx,di,show(1:Int) > 0 by decide,if_true];by_cases h:i<0
   .simp only[h,if_true]<;>lia
   .simp only[h,if_false]<;>lia
def Kp(ì:List Â)(lo hi:Option Int):slicePick ì.toArray lo hi d8=((ì.drop<|HT.sIx ì.length 0 lo).take<|HT.sIx ì.length ì.length hi - HT.sIx ì.length 0 lo).toArray:=by obtain⟨h1,h2,h3⟩:=MA lo hi ì.toArray.size;unfold slicePick;rw[h1,h2,h3];simp only[sliceRange_one,pick_run,Ë]<;>rfl
abbrev Rn(K:Frag):V->Option Int->Option Int->Hp->VK->Prop:=λx lo hi H Q=>∃a xs,x=.ref a/\fP K H a xs/\∀p,H p=d8->Q (.ref p) (upd H p<|.lst<|MT xs lo hi)
def sl_list:SlR X<|Rn X.K:=by intro Á s σ H x v vl vu lo hi sl Q I rx hs pl pu h;obtain⟨a,xs,rfl,hx,q⟩:=h;cases rx;obtain⟨ì,r,ht,hz⟩:=I.list hx;have hlen:=r.length;refine⟨"list",_,slot_list_getitem.lookup,ht.isList.typeIs,?_⟩;refine wpAny_getItem_list_slice ht.isList hs pl pu .none (by simp) ?_ (by rw[Ë]<;>lia);rw[Kp,<-hlen];refine⟨.ref s.heap.objs.size,_,I.laid (t':=s.toks) (o:=.lst<|MT xs lo hi) (λb ob q=>Ä _ q) (Í _) ?_,rfl,q _<|I.hok.fresh<|Í _⟩;exact⟨ß (WZ xs lo hi) hz,_,0,(r.drop<|HT.sIx xs.length 0 lo).take<|HT.sIx xs.length xs.length hi - HT.sIx xs.length 0 lo,Ö _ rfl⟩
abbrev eqV:V->V->Bool
 |.non,.non=>d9
 |.bl a,.bl b=>a==b
 |.bl a,.int b=>(if a then 1 else 0)==b
 |.int a,.bl b=>a==(if b then 1 else 0)
 |.int a,.int b=>a==b
 |.str a,.str b=>a==b
 |_,_=>ee
abbrev inV(x:V)(xs:List V):Bool:=xs.any λy=>eqV y x
def MD:OpR X (ë .NotIn) λx y H Q=>∃i j,x=.str i/\y=.str j/\Q (.bl (!(!(Builtin.Str.occurrences j i 0 j.length 1).isEmpty))) H:=by intro Á s σ H x y v u Q I rx ry h;obtain⟨i,j,rfl,rfl,q⟩:=h;obtain⟨t,rfl⟩:=rx;obtain⟨t',rfl⟩:=ry;exact notIn_str ⟨.bl _,H,I,rfl,q⟩
def call_len_seq:eM X (.builtin "len") λxs H Q=>∃p ys,xs=[.ref p]/\(fP X.K H p ys\/fQ X.K H p ys)/\Q (.int ys.length) H:=by
 intro Á s σ H xs us Q I r h;obtain⟨p,ys,rfl,hq,q⟩:=h;obtain⟨u,rfl,rx⟩:=ZU r;cases rx;have hn:=Xm;rcases hq with hq|hq
 .obtain⟨ì,r',pl,hz⟩:=I.list hq;have hlen:=r'.length;exact Calls.call_len_list pl.isList (by simp only[Ë]<;>lia) ⟨.int ys.length,H,I.tok _,⟨s.toks+1,by rw[Ë,hlen]⟩,q⟩
 .obtain⟨ì,r',pl,hz⟩:=I.tuple hq;have hlen:=r'.length;exact len_tuple pl (by simp only[Ë]<;>lia) ⟨.int ys.length,H,I.tok _,⟨s.toks+1,by rw[Ë,hlen]⟩,q⟩
def MJ:eM X (.builtin "len") λxs H Q=>∃z,xs=[.str z]/\z.length<=Ú/\Q (.int z.length) H:=by intro Á s σ H xs us Q I r h;obtain⟨z,rfl,hz,q⟩:=h;obtain⟨u,rfl,t,rfl⟩:=ZU r;have hn:=Xm;exact len_str (by lia) ⟨.int z.length,H,I.tok _,⟨_,rfl⟩,q⟩
def eM.or{f:Â}{r r':List V->Hp->VK->Prop}(h:eM X f r)(h':eM X f r'):eM X f λxs H Q=>r xs H Q\/r' xs H Q:=by
 intro Á s σ H xs us Q I rs q;rcases q with q|q
 .exact h Á s σ H xs us Q I rs q
 .exact h' Á s σ H xs us Q I rs q
def MO:eM X (.type "list") λxs H Q=>∃p ys,xs=[.ref p]/\(fP X.K H p ys\/fQ X.K H p ys)/\∀l,H l=d8->Q (.ref l) (upd H l<|.lst ys):=by
 intro Á s σ H xs us Q I r h;obtain⟨p,ys,rfl,hq,q⟩:=h;obtain⟨u,rfl,rx⟩:=ZU r;cases rx;have fin:∀(ì:List Â),fR ys ì->ys.length<=Ú->∀(h':ü) (c':Nat),(∀b o',s.heap.get? b=d7 o'->h'.get? b=d7 o')->
   h'.get? s.heap.objs.size=d7 {cls:=.type "list",dict:=d8,data:=.seq ì.toArray c',slots:=#[]}->EP X Á σ Q (.ref s.heap.objs.size) {s with heap:=h'}:=λì r' hz h' c' kp e =>
  ⟨.ref s.heap.objs.size,_,I.laid (t':=s.toks) kp (Í _) (show eN X.prog X.w _ h' _ (.lst ys) from ⟨hz,ì,c',r',e⟩),rfl,q _<|I.hok.fresh<|Í _⟩
 rcases hq with hq|hq
 .obtain⟨ì,r',pl,hz⟩:=I.list hq;have hlen:=r'.length;obtain⟨o,ho,hc,n,hd⟩:=pl.isList;exact call_list_seq p (.inl rfl) ho hc hd (λh' c' kp e=>fin ì r' hz h' c' kp e) (by simp only[Ë]<;>lia)
 .obtain⟨ì,r',pl,hz⟩:=I.tuple hq;have hlen:=r'.length;obtain⟨o,ho,hc,n,hd⟩:=pl;exact call_list_seq p (.inr rfl) ho hc hd (λh' c' kp e=>fin ì r' hz h' c' kp e) (by simp only[Ë]<;>lia)
def Kx:eM X (.type "tuple") λxs H Q=>∃p ys,xs=[.ref p]/\((fP X.K H p ys/\∀l,H l=d8->Q (.ref l) (upd H l<|.tup ys))\/(fQ X.K H p ys/\Q (.ref p) H)):=by
 intro Á s σ H xs us Q I r h;obtain⟨p,ys,rfl,h⟩:=h;obtain⟨u,rfl,rx⟩:=ZU r;cases rx;rcases h with⟨hq,q⟩|⟨hq,q⟩
 .obtain⟨ì,r',pl,hz⟩:=I.list hq;have hlen:=r'.length;refine call_tuple_list pl.isList (λh' kp=>?_) (by simp only[Ë]<;>lia);have I1:Inv X Á σ H {s with heap:=h'}:=I.kept (t':=s.toks) kp;have I2:Inv X Á σ (upd H h'.objs.size<|.tup ys) {s with heap:=h'.push {cls:=.type "tuple",data:=.seq ì.toArray}} :=
   I1.laid (t':=s.toks) (λb o e=>Ä _ e) (Í _) (show eN X.prog X.w _ _ _ (.tup ys) from ⟨hz,ì,r',IsTup.new _ _⟩)
  exact⟨.ref h'.objs.size,_,I2,rfl,q _<|I1.hok.fresh<|Í _⟩
 .obtain⟨ì,r',pl,hz⟩:=I.tuple hq;exact call_tuple_same pl ⟨.ref p,H,I,rfl,q⟩
abbrev tyV(K:Frag)(T:String)(x:V)(H:Hp):Prop:=match x with
 |.str _=>T = "str"
 |.int _=>T = "int"
 |.ref p=>(T = "list"/\∃xs,fP K H p xs)\/(T = "tuple"/\∃o,K.lookup p=d7 o/\o.cls=.type "tuple"/\o.dict=d8)\/
   (T = "dict"/\((∃kvs,H p=d7 (.dK kvs))\/∃kvs,H p=d7 (.dT kvs)))\/(T = "set"/\∃S n,H p=d7 (.set S n))
 |_=>False
def IK{T:String}{x:V}{v:Â}(I:Inv X Á σ H s)(r:RelV x v)(ty:tyV X.K T x H) :
  s.TypeIs v T/\∀a,v=.ref a->∃ob,s.heap.get? a=d7 ob/\ob.dict=d8:=by
 cases x with
 |str z =>obtain⟨t,rfl⟩:=r;cases (show T = "str" from ty);exact⟨typeIs_str s z t,λ_ e=>nomatch e⟩
 |int i =>obtain⟨t,rfl⟩:=r;cases (show T = "int" from ty);exact⟨typeIs_int s i t,λ_ e=>nomatch e⟩
 |ref p =>
  cases r;rcases ty with⟨rfl,xs,hq⟩|⟨rfl,o,hk,hc,hd⟩|⟨rfl,hk⟩|⟨rfl,S,n,hk⟩
  .obtain⟨ì,_,pl,_⟩:=I.list hq;refine⟨pl.isList.typeIs,λa e=>?_⟩;cases e;obtain⟨o,n,e,c,hd,_⟩:=pl;exact⟨o,e,hd⟩
  .refine⟨⟨o,I.kIn p o hk,hc⟩,λa e=>?_⟩;cases e;exact⟨o,I.kIn _ o hk,hd⟩
  .have z:∃o,s.heap.get? p=d7 o/\o.ExactDict:=by
    rcases hk with⟨kvs,hk⟩|⟨kvs,hk⟩
    .obtain⟨_,_,_,_,o,_,_,e,ex,_⟩:=I.hok p _ hk;exact⟨o,e,ex⟩
    .obtain⟨_,_,_,_,o,_,_,e,ex,_⟩:=I.hok p _ hk;exact⟨o,e,ex⟩
   obtain⟨o,e,ex⟩:=z;refine⟨⟨o,e,ex.1⟩,λa e2=>?_⟩;cases e2;exact⟨o,e,ex.2.1⟩
  .obtain⟨o,_,_,_,e,ex,_⟩:=I.hok p _ hk;refine⟨⟨o,e,ex.1⟩,λa e2=>?_⟩;cases e2;exact⟨o,e,ex.2.1⟩
 |_=>exact ù ty
abbrev tBM(K:Frag)(T:String)(r:V->List V->Hp->VK->Prop)(to:TE)(t:TA):TE:=λσ H Q=>to σ H λx H1=>tyV K T x H1/\t σ H1 λxs H2=>r x xs H2 Q
variable {o e:Expr}{es:List Expr}{to:TE}{t:TA}{name:Str}{Ĳ ŀ:Pos}{T id:String}{r:V->List V->Hp->VK->Prop}
def Qn(pa:PlainAttrs T)(slot:Slot T name id)(hty:dU (.builtin id)=pure (.type "method_descriptor"))(hm:MtR X id r)(ho:PE X o to)(ha:PA X (e::es) t)
  (am:ģ o name X.env (eval o X.env)=eval o X.env:=by rfl)
  (ao:((Ċ ŀ<|Ì (e::es) X.env).all (λx=>!x.1)&&(Ŝ ŀ<|ĭ [] X.env).all (λx=>x.1.isSome)
    && gg ((e::es).length+([]:List aD).length+(if([]:List aD).isEmpty then 0 else 1)<30))=d9:=by rfl)
  (ap:(Ĳ.endLine==ŀ.line)=d9:=by rfl) (hs:Ì (e::es) X.env=(ee,eval e X.env)::Ì es X.env:=by rfl) (cq:(Ċ ŀ<|Ì es X.env).any (·.1)=ee:=by rfl) :
  PE X (.Call (.Attribute o name Ĳ) (e::es) [] ŀ) (tBM X.K T r to t):=by
 intro Á s σ H Q I h;refine wpAny_Call_method_late am ao ap rfl<|thn (ho Á s σ H _ I h) λv s1 ⟨x,H1,I1,r1,ty,q1⟩=>?_;obtain⟨h1,h2⟩:=IK I1 r1 ty;refine⟨T,id,pa,slot,hty,h1,h2,?_⟩;have hA:=ha ŀ Á s1 σ H1 _ I1 q1;rw[hs]at hA ⊢;refine Calls.callWith_builtin (by show(ee||(Ċ ŀ<|Ì es X.env).any (·.1))=ee;rw[cq]<;>rfl)<|Calls.evalArgs_plain ?_;exact thn hA λus s2 ⟨vs,H2,I2,r2,q2⟩=>hm Á s2 σ H2 x vs v us Q I2 r1 r2 q2
/- xs.append(e),list.index on a module's tuple .. are MtR facts of 06m -/
end
abbrev MtM(X:Cx)(id:String)(r:V->List V->Hp->VK->Prop):Prop :=
 ∀(Á:List<|È×Obj) (s:Å) (σ:St) (H:Hp) (x:V) (xs:List V) (v:Â) (us:List Â) (Q:VK),Inv X Á σ H s->RelV x v->fR xs us->r x xs H Q->
  wpAny (à X.prog X.w) X.A (call (.builtin id)<|v::us) (EP X Á σ Q) X.xe s
variable {x:V} {us:List Â}
def fR.one(r:fR [x] us):∃u,us=[u]/\RelV x u:=ZU r
def fR.two{y:V}(r:fR [x,y] us):∃u v,us=[u,v]/\RelV x u/\RelV y v:=WV r
def fR.zero(r:fR [] us):us=[]:=by cases r;rfl
variable {xs:List V}
def fR.dropLast(h:fR xs us):fR xs.dropLast us.dropLast:=by
 induction h with
 |nil=>exact .nil
 |cons r t ih =>
  cases t with
  |nil=>exact .nil
  |cons q t'=>exact .cons r ih
def fR.eraseIdx:∀{xs:List V}{us:List Â}(i:Nat),fR xs us->fR (xs.eraseIdx i) (us.eraseIdx i)
 |_,_,_,.nil=>.nil
 |_,_,0,.cons _ t=>t
 |_,_,i+1,.cons r t=>.cons r<|fR.eraseIdx i t
def fR.reverse(h:fR xs us):fR xs.reverse us.reverse:=by
 induction h with
 |nil=>exact .nil
 |cons r t ih=>rw[ω,ω];exact fR.append ih<|.cons r .nil
def fR.rep{xs:List V}{us:List Â}(h:fR xs us):∀k:Nat,fR (Ø k xs).flatten (Ø k us).flatten
 |0=>.nil
 |k+1=>by rw[Č,Č,ľ,ľ];exact fR.append h<|fR.rep h k
def KW{α:Type}:∀(l:List α) (i:Nat),(l.eraseIdx i).length<=l.length
 |[],_=>Í _
 |_::_,0=>Ų _
 |_::r,i+1=>Ś<|KW r i
def Mf(ì:List Â):∀(k:Nat) (Ĭ:List Â),
  dk (λx1 x2=>x1++x2) Ĭ.toArray (Ø k ì.toArray)=(Ĭ++(Ø k ì).flatten).toArray
 |0,Ĭ=>by simp
 |k+1,Ĭ=>by
  have e:Ĭ.toArray++ì.toArray=(Ĭ++ì).toArray:=by simp
  have e2:(Ĭ++ì)++(Ø k ì).flatten=Ĭ++(Ø (k+1) ì).flatten:=by rw[Č,ľ,Ď]
  rw[<-e2,<-Mf ì k (Ĭ++ì),<-e,Č,ļ]
section
variable {X:Cx}{Á:List (È×Obj)}{σ:St}{H:Hp}{s:Å}{l b:È}{xs ys zs:List V}
variable {ì:List Â} {n:Nat} {t':Nat}
def Inv.lset{its':List Â}{f:Array Â->Array Â}(I:Inv X Á σ H s)(hH:H l=d7 (.lst xs))
  (e:s.heap.get? l=d7 {cls:=.type "list",data:=.seq ì.toArray n}) (hf:f ì.toArray=its'.toArray) (hv:fR ys its') (hz:ys.length<=Ú) :
  Inv X Á σ (upd H l<|.lst ys) {s with heap:=s.heap.update l<|ϧ f,toks:=t'}:=by
 have q:=PySem.IsL.update e f;rw[hf]at q;refine I.write (x:=l) (e:=l) (by rw[hH];exact trivial) (.inl rfl) (λb' u hb hu=>(ā s.heap (ϧ f)<|Ne.symm hb).trans hu) ⟨_,q⟩ ?_;exact⟨hz,its',_,hv,q⟩
def Inv.lnew(I:Inv X Á σ H s)(hv:fR ys ì)(hz:ys.length<=Ú) :
  Inv X Á σ (upd H s.heap.objs.size<|.lst ys) {s with heap:=s.heap.push {cls:=.type "list",data:=.seq ì.toArray},toks:=t'} :=
 I.laid (λ_ _ q=>Ä _ q) (Í _) ⟨hz,ì,0,hv,Ö _ rfl⟩
def Inv.fresh(I:Inv X Á σ H s):H s.heap.objs.size=d8:=I.hok.fresh (Í _)
def Inv.lstM(I:Inv X Á σ H s)(hH:H l=d7 (.lst xs)):xs.length<=Ú/\∃(ì:List Â) (n:Nat),fR xs ì/\xs.length=ì.length/\s.heap.get? l=d7 {cls:=.type "list",data:=.seq ì.toArray n}:=by obtain⟨z,ì,n,r,e⟩:=I.hok l _ hH;exact⟨z,ì,n,r,r.length,e⟩
def Et(h:n<=Ú):Builtin.List.listTooLong n=ee:=by unfold Builtin.List.listTooLong;exact f9 (by lia)
end
section
variable {X:Cx}
abbrev Uh:V->List V->Hp->VK->Prop:=λx vs H Q=>∃l xs y,x=.ref l/\vs=[y]/\H l=d7 (.lst xs)/\xs.length<Ú/\Q .non (upd H l<|.lst<|xs++[y])
def A8:MtM X "list.append" Uh:=by intro Á s σ H x vs v us Q I rx rv h;obtain⟨l,xs,y,rfl,rfl,hH,hz,q⟩:=h;cases rx;obtain⟨u,rfl,ru⟩:=rv.one;obtain⟨z,ì,n,r,hl,e⟩:=I.lstM hH;refine bU F.slot_list_append ⟨_,e,rfl⟩ F.entry_list_append (F.args_list_append_2 _ _) (PySem.list_append l ì.toArray n u<|by rw[Ë];lia) ⟨e,?_⟩;refine⟨.non,_,I.lset (its':=ì++[u]) hH e (by simp) (r.append<|.cons ru .nil) ?_,rfl,q⟩;rw[Ü,Ķ];lia
abbrev Dr:V->List V->Hp->VK->Prop:=λx vs H Q=>∃l xs i k y,x=.ref l/\vs=[.int i]/\H l=d7 (.lst xs)/\-(2 ^ 63)<=i/\i<2 ^ 63/\seqIndex? i xs.length=d7 k/\xs[k]?=d7 y/\Q y (upd H l<|.lst<|xs.eraseIdx k)
def CO:MtM X "list.pop" Dr:=by
 intro Á s σ H x vs v us Q I rx rv h;obtain⟨l,xs,i,k,y,rfl,rfl,hH,h1,h2,hk,hy,q⟩:=h;cases rx;obtain⟨u,rfl,ru⟩:=rv.one;obtain⟨t,rfl⟩:=ru;obtain⟨z,ì,n,r,hl,e⟩:=I.lstM hH;obtain⟨w,hw,aH⟩:=r.get hy;refine bU F.slot_list_pop ⟨_,e,rfl⟩ F.entry_list_pop (F.args_list_pop_2 _ _)
  (MeetsSeq.list_pop_at l ì.toArray n i t k w (fitsIndex_both h1 h2) (by rw[Ë,<-hl];exact hk) (by rw[<-Ρ];exact hw)<|by rw[Ë];lia) ⟨e,?_⟩
 refine⟨y,_,I.lset (its':=ì.eraseIdx k) hH e ?_ (r.eraseIdx k) ?_,aH,q⟩
 .show ì.toArray.eraseIdxIfInBounds k=(ì.eraseIdx k).toArray;rw[List.eraseIdxIfInBounds_toArray]
 .have:=KW xs k;lia
abbrev P1:R2:=λx y H Q=>∃l b xs zs,x=.ref l/\y=.ref b/\H l=d7 (.lst xs)/\H b=d7 (.lst zs)/\xs.length+zs.length<=Ú/\∀p,H p=d8->Q (.ref p) (upd H p<|.lst<|xs++zs)
def Ir:OpR X (ł .Add) P1:=by
 intro Á s σ H x y v u Q I rx ry h;obtain⟨l,b,xs,zs,rfl,rfl,hH,hB,hz,q⟩:=h;cases rx;cases ry;obtain⟨z,ì,n,r,hl,e⟩:=I.lstM hH;obtain⟨z2,al,n2,r2,hl2,e2⟩:=I.lstM hB;refine PySem.P.add_list e e2 ?_ (by rw[Ë,Ë];lia);have ea:ì.toArray++al.toArray=(ì++al).toArray:=by simp
 rw[ea];exact⟨.ref _,_,I.lnew (t':=s.toks) (r.append r2) (by rw[Ü];lia),rfl,q _ I.fresh⟩
abbrev QQ:R2:=λx y H Q=>∃l k xs,x=.ref l/\y=.int k/\H l=d7 (.lst xs)/\-(2 ^ 63)<=k/\k<2 ^ 63/\xs.length*k.toNat<=Ú/\
 ∀p,H p=d8->Q (.ref p) (upd H p<|.lst (Ø k.toNat xs).flatten)
def Fb{α:Type}(xs:List α)(k:Nat):(Ø k xs).flatten.length=k*xs.length:=by
 induction k with
 |zero=>simp
 |succ k ih=>rw[Č,ľ,Ü,ih,Nat.succ_mul,Nat.add_comm]
def op_rep:OpR X (ł .Mult) QQ:=by
 intro Á s σ H x y v u Q I rx ry h;obtain⟨l,k,xs,rfl,rfl,hH,h1,h2,hz,q⟩:=h;cases rx;obtain⟨t,rfl⟩:=ry;obtain⟨z,ì,n,r,hl,e⟩:=I.lstM hH;have hlen:ì.toArray.size*k.toNat<=Ú:=by rw[Ë,<-hl];exact hz
 have hcap:¬ ì.toArray.size*k.toNat > (2 ^ 63 - 1) / 8:=by
  have:(Ú:Nat)<=(2 ^ 63 - 1) / 8:=by decide
  lia
 have hfit:¬ (!Builtin.List.listFitsIndex k)=d9:=by rw[fitsIndex_both h1 h2];exact ø
 have hlong:¬ Builtin.List.listTooLong (ì.toArray.size*k.toNat)=d9:=by rw[Et hlen];exact ø
 have hnew:dk (λx1 x2=>x1++x2) #[] (Ø (if ì.toArray.isEmpty=d9 then 0 else k.toNat) ì.toArray)=(Ø k.toNat ì).flatten.toArray:=by
  have f0:∀m:Nat,dk (λx1 x2=>x1++x2) #[] (Ø m ì.toArray)=(Ø m ì).flatten.toArray:=λm=>by have:=Mf ì m [];rw[List.nil_append]at this;exact this
  rw[f0];cases ì with
  |nil=>simp
  |cons a r'=>rw[f8<|by simp]
 refine wpAny_binaryOp_repeat_ref (T:="list") (U:="int") (by decide) ⟨_,e,rfl⟩ (λs'=>typeIs_int s' k t) noFill_list_mul F.fills_int_mul F.slot_int_rmul repeat_list F.slot_int_index.lookup
  (bU F.slot_int_rmul (typeIs_int s k t) F.entry_int_rmul (F.args_int_rmul_2 _ _) (int___rmul___int_list k t l ì.toArray n)
    ⟨e,rfl,⟨_,e,rfl⟩,bU F.slot_list_mul ⟨_,e,rfl⟩ F.entry_list_mul (F.args_list_mul_2 _ _) (AutoListH.list___mul___list_int_3 l ì.toArray n k t hfit hcap hlong) ⟨e,?_⟩⟩)
 rw[hnew];exact⟨.ref _,_,I.lnew (t':=s.toks) (r.rep k.toNat) (by rw[Fb,Nat.mul_comm];exact hz),rfl,q _ I.fresh⟩
end
end L2
namespace Att
open PySem PySem.W PySem.Calls PyProof.Rows
variable {P:Params} {h:ü}
def W3:∀(ns:List Int) (vs:List Â),WellAll P h vs (ns.map WData.int)->Ė vs ns:=by
 intro ns;induction ns with
 |nil =>intro vs w;rw[Ź]at w;cases w;exact .nil
 |cons n ns ih =>
  intro vs w;rw[Î]at w;cases w with
  |cons a b =>cases a;exact .cons _ _<|ih _ b
variable {l:OpenLaw} {n:Nat}
def A7(hn:l.most=d7 n){args:List WData}{aq:List Â}
  (hpre:l.row.toRowW.claim.pre args=d9) (hwl:WellAll P h aq args) :
  ∃a vs ns,aq=[Value.ref a]/\args=[WData.list<|ns.map WData.int]/\h.get? a=d7 {cls:=.type "list",data:=.seq vs.toArray}/\Ė vs ns/\ns.length<=n:=by
 have hsh:WShape.hasAll [] args [.list .int]=d9:=(pre_splitW hpre).1;have hc:l.pre.holds [] {args:=args}=d9:=(pre_splitW hpre).2;obtain⟨d,r,rfl,h1,h2⟩:=hasAllW_cons hsh;obtain rfl:=hasAllW_nil h2;obtain⟨xs,rfl,h3⟩:=hasW_list h1;obtain⟨ns,rfl⟩:=items_int h3;have hlen:ns.length<=n:=by
  unfold OpenLaw.pre at hc;have h4:(WTm.not<|.lt (.lit<|.int (n:Int))<|.len<|.arg 0).holds [] {args:=[.list<|ns.map .int]}=d9:=by have h4:=(holds_andW hc).1;rw[hn]at h4;exact h4
  have h5:=condW_of h4<|w_not<|w_lt w_lit<|w_len_list<|w_arg rfl;rw[À]at h5;refine Nat.le_of_not_lt λq=>?_;have q':(n:Int)<((ns.length:Nat):Int):=by lia
  first
   |(rw[gb q']at h5;exact gf h5<|by decide)
   |(simp at h5;lia)
 cases hwl with
 |cons w1 w2 =>
  cases w2;cases w1 with
  |list ho hall=>exact⟨_,_,ns,rfl,rfl,ho,W3 ns _ hall,hlen⟩
def AU(l:OpenLaw)(args:List WData):l.row.toRowW.claim.post args (.bool d9) args=d9 :=
 postW_of (r:=l.row.toRowW) (X:=(d9==d9))
  (show WShape.has [] (.bool d9) .bool=d9 by first|rfl|decide|simp[WShape.has,WShape.arms,WShape.armsAll])
  (show(WTm.eq .res<|.lit<|.bool d9).value [] {args:=args,res:=d7<|.bool d9,after:=args}=d7 (.bool<|d9==d9) from w_eq_bool (w_res rfl) w_lit) rfl
def attach_call{q:ê}{loose:List Str}{XP:(Str->Option Â)->ü->Prop}{YP:ý->ü->Prop}{d:DefRec}
  (hn:l.most=d7 n) (hdf:d.params.defaults=[])
  (call:∀(w:ý) (s₀ Ħ:Å) (mg mb:Str->Option Â) (fa:È) (o:Obj) (pm cd doc:Â) (a:È) (vs:List Â) (ns:List Int),
    Ground q loose [] XP w s₀ mg mb Ħ.heap->YP w Ħ.heap->
    Ħ.heap.get? fa=d7 o->o.data=.func (docDef d.name d.params d.body d.scope pm cd doc)->Ħ.heap.CodeRec cd d.name->mg d.name=d7 (.ref fa)->
    Ħ.heap.get? a=d7 {cls:=.type "list",data:=.seq vs.toArray}->Ė vs ns->ns.length<=n->Ħ.gens=#[]->
    codeAny (à l.prog w) Ϯ (.call (.ref fa) ⟨[.ref a],[]⟩) (λr s'=>r=.ok (.ret<|.bool d9)/\OldK Ħ.heap s'.heap/\s'.os=Ħ.os/\Θ s'.gens) Ħ) :
  WalkO q loose XP YP l.row.toRowW d [] (λf vs=>PySem.call f vs):=by
 intro w s₀ Ħ mg mb G Y fa o pm cd doc dV kV ho hd aA hD hmg hg args aq as hpre hlay hrd hwl hlo;obtain rfl:dV=.none:=Dflts.none hD hdf;obtain rfl:kV=.none:=Dflts.noKw hD;obtain⟨a,vs,ns,rfl,rfl,cY,hints,hlen⟩:=A7 hn hpre hwl;refine enter_call<|χ (call w s₀ Ħ mg mb fa o pm cd doc a vs ns G Y ho (fd_plain hd) aA hmg cY hints hlen hg) λr s' hq=>?_;obtain⟨rfl,h2,h3,h4⟩:=hq;exact⟨.inl ⟨.bool d9,.bool d9,[],rfl,λ_=>rfl,.bool d9,AU l _,λ_=>⟨List.Pairwise.nil,λ_ hm=>(nomatch hm)⟩⟩,h2,h3,h4⟩
end Att
namespace L2
open PySem PySem.Spec PyProof.Rows
def WD:∀{vs:List Â}{ns:List Int},Ė vs ns->fR (ns.map V.int) vs
 |_,_,.nil=>.nil
 |_,_,.cons n t h=>.cons ⟨t,rfl⟩<|WD h
abbrev LA(H:Hp):Prop:=∀b,H b=d8\/∃o xs,H b=d7 (.frz o<|.lst xs)
def Dn{P:ê}{w:ý}{K:Frag}{mg mb:Str->Option Â}{CX:CXT}{k:Nat}{fa a:È}{fd:ĺ}{x:Str}{sp:Sp}{Ħ:Å}{vs:List Â}{ns:List Int}
  (KX:K.In Ħ.heap) (hns:Ħ.heap.Ns ć mg) (hb:Ħ.heap.Ns builtinsNs mb) (hbb:∀x:Str,x≠"__name__"->mb x=Ş x) (hlim:Ħ.heap.NoLimit) (hg:Ħ.gens=#[])
  (ha:Ħ.heap.get? a=d7 {cls:=.type "list",data:=.seq vs.toArray}) (hi:Ė vs ns) (hl:ns.length<=Ú) (hr:fh k Ϯ)
  (F:∀base:ü,K.In base->base.Ns ć mg->fi P w K mg base CX k fa fd [x] sp) (hbind:∀(s:Å) (u:Â),BindsTo s fd ⟨[u],[]⟩ [(x,u)])
  (dD:∀H:Hp,LA H->fP K H a (ns.map V.int)->sp [.ref a] H (λv _=>v=.bl d9) λ_ _ _=>False)
  (hCX:∀H e s',CX [] H Ħ (λ_ _ _=>False) e s'->False) :
  codeAny (à P w) Ϯ (.call (.ref fa) ⟨[.ref a],[]⟩) (λr s'=>r=.ok (.ret<|.bool d9)/\OldK Ħ.heap s'.heap/\s'.os=Ħ.os/\Θ s'.gens) Ħ:=by
 have rv:=WD hi;have fA:=hi.length;have core:∀H:Hp,LA H->fP K H a (ns.map V.int)->HOk P w H Ħ.heap->(∀b,H b≠d8->b=a)->(H a≠d8->K.lookup a=d8)->
   codeAny (à P w) Ϯ (.call (.ref fa) ⟨[.ref a],[]⟩) (λr s'=>r=.ok (.ret<|.bool d9)/\OldK Ħ.heap s'.heap/\s'.os=Ħ.os/\Θ s'.gens) Ħ:=by
  intro H hO hS hok hA hK;have cJ:∀{b:È}{o:Obj},Ħ.heap.get? b=d7 o->H b=d8->(Mn Ħ.heap H).get? b=d7 o:=λe n=>Dv e n;have noA:∀{b:È}{o:Obj}{es:Array DictEntry}{ep:Nat},Ħ.heap.get? b=d7 o->o.data=.dict es ep->H b=d8:=λ{b o es ep} e d=>by
   cases q:H b with
   |none=>rfl
   |some u =>have e':b=a:=hA b (by rw[q];simp);subst e';rw[ha]at e;cases e;have d':Data.seq vs.toArray _=Data.dict es ep:=d;cases d'
  have nsK:∀{b:È}{m:Str->Option Â},Ħ.heap.Ns b m->(Mn Ħ.heap H).Ns b m:=λ{b m} ⟨o,es,ep,e,d,r⟩=>⟨o,es,ep,cJ e<|noA e d,d,r⟩
  have hKb:K.In<|Mn Ħ.heap H:=λb o e=>cJ (KX b o e) (by
    cases q:H b with
    |none=>rfl
    |some u =>
      have e':b=a:=hA b (by rw[q];simp)
      subst e'
      rw[hK<|by rw[q];simp]at e;cases e)
  have hM:Mod K mg<|Mn Ħ.heap H:=⟨hKb,nsK hns,⟨mb,nsK hb,hbb⟩,let ⟨mc,h1,h2⟩:=hlim;⟨mc,nsK h1,h2⟩⟩
  have e0:Env0 P w K mg (Mn Ħ.heap H) Ϯ [] Ħ H:=⟨rfl,hM,λb o e=>Gx e,Nat.le_of_eq<|AX _ _,trivial,λb hb=>gf (show b∈([]:List È) from hb) (by simp),hok,.of_eq hg⟩
  refine χ ((F _ hKb<|nsK hns).run Ϯ [] Ħ H ⟨[.ref a],[]⟩ [.ref a] [.ref a] _ _ hr e0 (hbind Ħ<|.ref a) (.cons rfl .nil)<|dD H hO hS) λr s' h=>?_;cases r with
  |error e=>exact(hCX H e s' h).elim
  |ok fl =>
   cases fl with
   |next=>exact ù h
   |brk=>exact ù h
   |cont=>exact ù h
   |ret u =>
    obtain⟨v,H',os,bare,un,hok',r',q⟩:=h;have q':v=.bl d9:=q;subst q';obtain rfl:u=Value.bool d9:=r';refine⟨rfl,OldK.of_keep λb o e=>?_,os,bare⟩;cases q:H b with
    |none=>exact un.keep b o e q (by intro z;exact gf (show b∈([]:List È) from z)<|by simp) (by simp)
    |some u =>
     rcases hO b with z|⟨ob,xs,z⟩
     .rw[q]at z;cases z
     .have z2:=un.frzs b ob _ z;obtain⟨e1,_⟩:=hok b _ z;obtain⟨e2,_⟩:=hok' b _ z2;rw[e]at e1;cases e1;exact e2
 cases hk:K.lookup a with
 |some o =>have e:=KX a o hk;rw[ha]at e;cases e;refine core (λ_=>d8) (λ_=>.inl rfl) (.inr ⟨_,vs.toArray,_,hk,rfl,rfl,rfl,by rw[Ë,fA];exact hl,by simpa using rv⟩) (λb u z=>by have z':(d8:Option HO)=d7 u:=z;cases z') (λb z=>gf rfl z) λz=>gf rfl z
 |none =>
  refine core (λb=>if b=a then d7 (.frz {cls:=.type "list",data:=.seq vs.toArray}<|.lst<|ns.map V.int)else d8) (λb=>?_) (.inl<|.inr ⟨{cls:=.type "list",data:=.seq vs.toArray},fZ rfl⟩) (λb u z=>?_) (λb z=>?_) λ_=>hk
  .by_cases hb:b=a
   .exact .inr ⟨_,_,fZ hb⟩
   .exact .inl<|f8 hb
  .by_cases hb:b=a
   .have z':=(fZ hb).symm.trans z;cases z';subst hb;exact⟨ha,by rw[À];exact hl,vs,_,rv,ha⟩
   .have z':=(f8 hb).symm.trans z;cases z'
  .by_cases hb:b=a
   .exact hb
   .exact gf (f8 hb) z
abbrev YV(s:Ģ):Arguments:=match s with
 |.FunctionDef _ a _ _ _ _ _ _ _ _=>a
 |_=>{posonlyargs:=[],args:=[],vararg:=d8,kwonlyargs:=[],kw_defaults:=[],kwarg:=d8,defaults:=[]}
abbrev ZN(s:Ģ):List Ģ:=match s with
 |.FunctionDef _ _ b _ _ _ _ _ _ _=>b
 |_=>[]
abbrev Zl(s:Ģ):ų:=match s with
 |.FunctionDef _ _ _ _ _ _ sc _ _ _=>sc
 |_=>{kind:=.function,names:=[],isGenerator:=ee,isCoroutine:=ee}
noncomputable abbrev CX0:CXT:=λ_ _ _ _ _ _=>False
structure Fun(K:Frag)(x qual:Str)(st:Ģ)(f:È)(fd:ĺ):Prop where
 ex:∃(oc:Â) (od:Option È) (kV doc pm:Â) (an:Option È) (Μ ct:Â) (osl:Array<|Option Â),
  fd=PySem.W.fnOf x qual (YV st) (ZN st) (Zl st) .none kV doc pm an Μ ct/\K.lookup f=d7 ⟨oc,od,.func fd,osl⟩/\PySem.W.codeIn K Μ qual=d9
 kp:PySem.W.keepIn K (.ref f)=d9
section
variable {P:ê}{w:ý}{K:Frag}{mg:Str->Option Â}{base:ü}
variable {x:Str} {qual:Str} {st:Ģ} {f:È} {fd:ĺ} {ps:List Str}
def Fun.ok{N:List Str}{k:Nat}{sp:Sp}(F:Fun K x qual st f fd)(S:FnScope N ps<|Zl st)(len:∀vs H Q E,sp vs H Q E->vs.length=ps.length)
  (bG:∀(Μ:Â) (A:č) (outer:List Env) (s:Å) (H:Hp) (vs:List V) (Q:VK) (E:XK),fh k (A.deeper<|Ϧ qual (Zl st) s.heap.objs.size f Μ)->sp vs H Q E->
    ∃t,PSs (KE CX0 P w K mg base N qual (Zl st) f Μ A outer s H E).nox (ZN st) t/\t { nx:=λ_ H'=>Q .non H',rt:=Q } (start N vs) H):fi P w K mg base CX0 (k+1) f fd ps sp:=by
 obtain⟨oc,od,kV,doc,pm,an,Μ,ct,osl,rfl,lk,aA⟩:=F.ex;refine G9 lk aA S len λA outer s H vs Q E hr dD=>?_;obtain⟨t,h,q⟩:=bG Μ A outer s H vs Q E hr dD;exact⟨t,h.nox,q⟩
def Fun.binds(F:Fun K x qual st f fd)
  (h:∀(kV doc pm:Â) (an:Option È) (Μ ct:Â) (us:List Â),us.length=ps.length->bindArgs (PySem.W.fnOf x qual (YV st) (ZN st) (Zl st) .none kV doc pm an Μ ct) ⟨us,[]⟩=pure (ps.zip us)):Binds K fd ps []:=by
 obtain⟨oc,od,kV,doc,pm,an,Μ,ct,osl,rfl,lk,aA⟩:=F.ex;exact .all<|h kV doc pm an Μ ct
def Cp{oc:Â}{od an:Option È}{osl:Array (Option Â)}{kV doc pm Μ ct:Â}(l:K.lookup f=d7 ⟨oc,od,.func<|PySem.W.fnOf x qual (YV st) (ZN st) (Zl st) .none kV doc pm an Μ ct,osl⟩)
  (c:PySem.W.codeIn K Μ qual=d9) (k:PySem.W.keepIn K (.ref f)=d9):Fun K x qual st f<|PySem.W.fnOf x qual (YV st) (ZN st) (Zl st) .none kV doc pm an Μ ct:=⟨⟨oc,od,kV,doc,pm,an,Μ,ct,osl,rfl,l,c⟩,k⟩
end
abbrev Same(H H':Hp):Prop:=∀b o,H b=d7 o->H' b=d7 o
def Same.refl(H:Hp):Same H H:=λ_ _ h=>h
variable {H:Hp}
def Same.trans{H1 H2:Hp}(a:Same H H1)(b:Same H1 H2):Same H H2:=λc o h=>b c o (a c o h)
variable {H':Hp}
def Same.free(e:Same H H'){l:È}(h:H' l=Option.none):H l=Option.none:=by
 cases q:H l with
 |none=>rfl
 |some o =>rw[e l o q]at h;cases h
def Same.seq{K:Frag}{a:È}{xs:List V}(e:Same H H')(h:fP K H a xs):fP K H' a xs:=by
 rcases h with(h|⟨o,h⟩)|h
 .exact .inl<|.inl<|e _ _ h
 .exact .inl<|.inr ⟨o,e _ _ h⟩
 .exact .inr h
end L2
set_option maxHeartbeats 4000000
namespace L2
open PySem PySem.Spec PyProof.Rows
variable {P:ê} {w:ý} {H:Hp} {h:ü}
def HOk.track{a:È}{o:HO}(x:HOk P w H h)(hn:H a=d8)(new:eN P w (upd H a o) h a o):HOk P w (upd H a o) h:=λb u e=>by
 by_cases hb:b=a
 .subst hb;rw[ej]at e;cases e;exact new
 .rw[ei hb]at e;exact(x b u e).stay (λc v _ q=>q) (λc q=>by rw[ei<|Zh q hn];exact q) λc xs q=>by rw[ei<|Zh q hn];exact q
def HOk.same{h':ü}{C:È}(x:HOk P w H h)(hn:H C=d8)(hs:Ŧ C h h'):HOk P w H h':=λb u e=>by
 refine(x b u e).stay (λc v hc q=>hs.extBut c v ?_ q) (λ_ q=>q) λ_ _ q=>q;rcases hc with z|z
 .rw[z];exact Zh e hn
 .exact Zh z hn
abbrev Zu(X:Cx)(scope:ų)(N':List Str)(cl:List<|Str×È)(C:È)(s:Å)(H:Hp)(ex:List È):Cx where
 prog:=X.prog
 w:=X.w
 K:=X.K
 mg:=X.mg
 base:=X.base
 A:=X.A
 N:=N'
 s₀:=s
 H₀:=H
 env:=compEnvC scope cl C X.env
 outer:=X.stack
 stack:=X.stack
 ex:=ex
 fn:=λ_=>ee
 calm:=X.calm
 pn:=[]
 xe:=λ_ _=>False
abbrev Yb(X:Cx)(x:List Str)(ö:List Nat):List Str:=x++ö.map λj=>X.N.getD j Str.empty
abbrev OS(σ:St)(ö:List Nat):St:=ö.map λj=>(σ[j]?).getD d8
structure BlkOk(X:Cx)(scope:ų)(x:List Str)(ö:List Nat):Prop where
 kind:scope.kind=.function
 nocell:∀y∈scope.names,y.2≠.cell
 locs:∀y∈scope.names,y.2=.local->scope.names.lookup y.1=d7 .local
 own:∀y∈x,scope.names.lookup y=d7 .local
 frees:∀y∈scope.names,y.2=.free->X.env.kindOf y.1=d7 .cell
 cap:∀j∈ö,(X.N[j]?).isSome=d9/\X.env.kindOf (X.N.getD j Str.empty)=d7 .cell/\scope.names.lookup (X.N.getD j Str.empty)=d7 .free
 nd:(Yb X x ö).Nodup
def YQ{env:Env}:∀(names:List<|Str×Ω) (Ĭ:List<|Str×È),(∀y∈names,y.2=.free->∃c,env.cells.lookup y.1=d7 c)->(∀x c,Ĭ.lookup x=d7 c->env.cells.lookup x=d7 c)->
  ∃cl,(forIn names Ĭ λ(p:Str×Ω) (r:List<|Str×È)=>(do
    if(p.2 == Ĥ)=d9 then do let a<-cellOf env p.1;pure (ĵ<|(p.1,a)::r)else pure (ĵ r):Sem _))=pure cl/\
   (∀x c,cl.lookup x=d7 c->env.cells.lookup x=d7 c)/\(∀x c,Ĭ.lookup x=d7 c->∃c',cl.lookup x=d7 c')/\∀x,(x,Ĥ)∈names->∃c,cl.lookup x=d7 c
 |[],Ĭ,_,ha=>⟨Ĭ,rfl,ha,λx c h=>⟨c,h⟩,λx h=>nomatch h⟩
 |(n,k)::r,Ĭ,hn,ha=>by
  by_cases hk:k=.free
  .subst hk;obtain⟨c,hc⟩:=hn (n,.free) î rfl;have ha':∀x d,(((n,c)::Ĭ:List<|Str×È)).lookup x=d7 d->env.cells.lookup x=d7 d:=λx d h=>by
    rw[ï]at h;cases e:x==n with
    |true =>
     rw[e]at h;have:x=n:=by simpa using e
     subst this;cases h;exact hc
    |false=>rw[e]at h;exact ha x d h
   obtain⟨cl,h1,h2,h3,h4⟩:=YQ r ((n,c)::Ĭ) (λy hy=>hn y<|Û _ hy) ha';refine⟨cl,?_,h2,λx d h=>?_,λx hx=>?_⟩
   .rw[List.forIn_cons];have e:cellOf env n=pure c:=by unfold cellOf;rw[hc]
    simp only[beq_self_eq_true,if_true,e];exact h1
   .by_cases hx:x=n
    .subst hx;exact h3 x c (by rw[ï];simp)
    .exact h3 x d (by rw[ï,beq_false_of_ne hx];exact h)
   .rcases Æ.mp hx with e|hx
    .cases e;exact h3 _ c (by rw[ï];simp)
    .exact h4 x hx
  .have hb:(k==Ĥ)=ee:=by simpa using hk
   obtain⟨cl,h1,h2,h3,h4⟩:=YQ r Ĭ (λy hy=>hn y<|Û _ hy) ha;refine⟨cl,?_,h2,h3,λx hx=>?_⟩
   .rw[List.forIn_cons];simp only[hb,Ē,if_false];exact h1
   .rcases Æ.mp hx with e|hx
    .cases e;exact gf rfl hk
    .exact h4 x hx
def Z3{env:Env}:∀{names:List (Str×Ω)}{x:Str}{k:Ω},(names.map λ(n,k)=>if(k==Ĥ&&env.scope.kind == .function&&env.kindOf n==d7 .cell)then(n,dW)else(n,k)).lookup x=d7 k->
  (∃k0,(x,k0)∈names/\names.lookup x=d7 k0/\(k0=k\/(k0=.free/\k=.cell)))
 |[],_,_,h=>by simp at h
 |(n,k0)::r,x,k,h=>by
  rw[Î,ï]at h;cases hx:x==n with
  |true =>
   have e:x=n:=by simpa using hx
   subst e;refine⟨k0,î,by rw[ï];simp,?_⟩;by_cases hc:(k0==Ĥ&&env.scope.kind == .function&&env.kindOf x==d7 .cell)=d9
   .rw[fZ hc]at h;simp at h;have:k0=.free:=by
     simp only[bAq]at hc;simpa using hc.1.1
    exact .inr ⟨this,h.symm⟩
   .rw[f8 hc]at h;simp at h;exact .inl h
  |false =>
   have h':(r.map λ(n,k)=>if(k==Ĥ&&env.scope.kind == .function&&env.kindOf n==d7 .cell)then(n,dW)else(n,k)).lookup x=d7 k:=by
    by_cases hc:(k0==Ĥ&&env.scope.kind == .function&&env.kindOf n==d7 .cell)=d9
    .rw[fZ hc]at h;simpa[hx]using h
    .rw[f8 hc]at h;simpa[hx]using h
   obtain⟨k1,a,b,c⟩:=Z3 h';exact⟨k1,Û _ a,by rw[ï,hx];exact b,c⟩
abbrev PIfs(X:Cx)(aN:List Expr)(t:TT):Prop :=
 ∀(Á:List<|È×Obj) (s:Å) (σ:St) (H:Hp) (Q:Bool->Hp->Prop),Inv X Á σ H s->t σ H Q->
  wpAny (à X.prog X.w) X.A (forIn aN d9 λc r=>if r=d9 then do let ok<-bQ c X.env (eval c X.env);pure (ĵ ok)else pure (ĵ r)) (TP X Á σ Q) X.xe s
abbrev Sm:TT:=λ_ H Q=>Q d9 H
variable {X:Cx}
def pifs_nil:PIfs X [] Sm:=λ_ _ _ H _ I h=>wpAny_tests_nil ⟨H,I,h⟩
def Wv{c:Expr}{t:TT}(h:PT X c t):PIfs X [c] t:=λÁ s σ H Q I hq=>wpAny_tests_one (h Á s σ H Q I hq)
abbrev GU(J:It)(tg:TG)(tc:TT)(te:TE)(Fin:List V->Hp->Prop)(W:Nat->Nat->List V->St->Hp->Prop):Prop :=
 ∀i m ys τ H,W i m ys τ H->ys.length<Ú/\((J.stop i H/\Fin ys H)\/(J.go i H/\∃N:List V->St->Hp->Prop,(∀ys' τ' H',N ys' τ' H'->∃m',m'<m/\W (i+1) m' ys' τ' H')/\∀x H',J.yld i H x H'->
   tg x τ H' λτ' H1=>tc τ' H1 λb H2=>if b=d9 then te τ' H2 λy H3=>N (ys++[y]) τ' H3 else N ys τ' H2))
abbrev C3(wi:TI)(k:Nat)(ö:List Nat)(tg:TG)(tc:TT)(te:TE):TE:=λσ H Q=>wi σ H λJ H1=>∃W:Nat->Nat->List V->St->Hp->Prop,(∃m,W 0 m [] (Ø k d8++OS σ ö) H1)/\
 GU J tg tc te (λys H=>∀p,H p=d8->Q (.ref p) (upd H p<|.lst ys)) W
section
variable {X:Cx}{Á:List (È×Obj)}{σ:St}{H2:Hp}{s2:Å}
variable {scope:ų} {x:List Str} {ö:List Nat} {cl:List (Str×È)} {fp:List È}
def U8{s3:Å}{D:È}{h1:ü}{tk:Nat}{m:Str->Option Â}(B:BlkOk X scope x ö)(I2:Inv X Á σ H2 s2)(f2:∀b∈fp,WJ X Á H2 b)
  (c1:∀x c,cl.lookup x=d7 c->X.env.cells.lookup x=d7 c) (c2:∀x,(x,Ĥ)∈scope.names->∃c,cl.lookup x=d7 c)
  (I3:Inv X Á σ H2 s3) (hD:D=s2.heap.objs.size) (h3:s3.heap.objs.size=D+1) (Β:∀b o,s3.heap.get? b=d7 o->h1.get? b=d7 o) (hfp:∀b∈fp,b<s2.heap.objs.size)
  (hn:h1.Ns s3.heap.objs.size m) :
  Inv (Zu X scope (Yb X x ö) cl s3.heap.objs.size s3 H2<|D::fp) [] (Ø x.length d8++OS σ ö) H2 {s3 with heap:=h1,toks:=tk}:=by
 have neD:∀b o,s2.heap.get? b=d7 o->b≠D:=λb o e=>by rw[hD];exact ç<|Ô e
 have exlt:∀b∈D::fp,b<s3.heap.objs.size:=λb hb=>by
  rw[h3];rcases Æ.mp hb with e|hb
  .rw[e];exact Ā _
  .exact Ĉ (by rw[hD];exact hfp b hb)
 have keeps:=I3.hok.kept (h':=h1) Β;refine⟨⟨I2.mod,B.kind,I2.ok.glob,I2.ok.blt,Í _,λy z c e1 e2=>?_,λy hy=>?_,λy c e _=>(by cases e),λhc=>I2.ok.hd hc,I2.ok.frames,.inl rfl,λb hb=>?_,λb o e=>?_,?_,λb o e hb=>?_,λb hb hf=>?_,I3.stack,λb hb=>I2.stkFree b hb⟩,
   rfl,I3.bare,Un.kept Β,⟨m,hn,λi y v e1 e2 e3=>?_⟩,λy c e=>?_,I3.hok.fresh<|Í _,λy c e=>I3.freeC y c<|c1 y c e,λp hp=>(nomatch hp),keeps,?_⟩
 .exact I2.ok.inj y z c (c1 y c e1)<|c1 z c e2
 .have hy:(bL scope X.env).names.lookup y=d7 .cell\/(bL scope X.env).names.lookup y=d7 .free:=hy;rcases hy with hy|hy
  .obtain⟨k0,a,b,c⟩:=Z3 hy;rcases c with c|⟨c,_⟩
   .subst c;exact gf rfl<|B.nocell _ a
   .subst c;exact c2 y a
  .obtain⟨k0,a,b,c⟩:=Z3 hy;rcases c with c|⟨_,c⟩
   .subst c;exact c2 y a
   .cases c
 .refine⟨ç<|exlt b hb,λy c e z=>?_⟩;have e':=c1 y c e;rcases Æ.mp hb with q|q
  .obtain⟨v,o,ho,_⟩:=I2.cell y c e';exact neD c o ho<|z.trans q
  .exact(f2 b q).2.2.2.2.1 y c e' z
 .exact I3.bs b o e
 .exact ß I2.ok.bsz (ß I2.sz<|show s2.heap.objs.size<=s3.heap.objs.size by rw[h3,hD];exact Ų _)
 .rcases Æ.mp hb with q|q
  .exact neD b o (I2.bk b o e) q
  .rcases (f2 b q).2.2.2.1 with z|z
   .exact I2.ok.noex b o e z
   .exact gf (è (Ô (I2.ok.bs b o e).1) z)<|ĝ _
 .have hf:b∈frs X.stack:=hf;rcases Æ.mp (I2.stkSub b hf)with z|z
  .rcases Æ.mp hb with q|q
   .exact gf I2.lt (by rw[<-z,q,hD];exact ĝ _)
   .exact(f2 b q).2.1 z
  .rcases Æ.mp hb with q|q
   .exact I2.nofs (a:=b) (by rw[q,hD];exact Í _) z
   .exact(f2 b q).2.2.1 z
 .by_cases hik:i<x.length
  .rw[þ (by rw[ñ];exact hik),Ņ,fZ hik]at e2;cases e2
  .have e1:(x++ö.map λj=>X.N.getD j Str.empty)[i]?=d7 y:=e1;rw[ă<|by lia]at e1;rw[ă (by rw[ñ];lia),ñ]at e2;generalize i - x.length=j at e1 e2;have e2:(ö.map λj=>(σ[j]?).getD d8)[j]?=d7 (d7 v):=e2;rw[Õ]at e1 e2;cases hj:ö[j]? with
   |none=>rw[hj]at e1;cases e1
   |some q =>
    rw[hj]at e1 e2;have e1':X.N.getD q Str.empty=y:=í e1;have e2':(σ[q]?).getD d8=d7 v:=í e2;obtain⟨hs,hk,hsc⟩:=B.cap q<|ä hj;obtain⟨y',hy'⟩:=õ.mp hs;have ey:y'=y:=by rw[<-e1',Ą,hy'];rfl
    subst ey;have es:σ[q]?=d7 (d7 v):=by
     cases hq:σ[q]? with
     |none=>rw[hq]at e2';cases e2'
     |some o=>rw[hq]at e2';exact congrArg d7 e2'
    rw[e1']at hk hsc;obtain⟨m2,_,hl⟩:=I3.loc;have bu:X.env.scope.names.lookup y'=d7 .cell:=hk;obtain⟨u,r,l⟩:=hl q y' v hy' es<|.inr<|.inl bu;refine⟨u,r,.inr ⟨?_,?_⟩⟩
    .rcases e3 with e3|e3|e3
     .obtain⟨k0,a,b,c⟩:=Z3 (show(bL scope X.env).names.lookup y'=d7 .local from e3);rw[hsc]at b;cases b;rcases c with c|⟨_,c⟩<;>cases c
     .exact .inl e3
     .exact .inr e3
    .rcases l with⟨l,_⟩|⟨_,c,hc,z⟩
     .rw[hk]at l;cases l
     .obtain⟨c',hc'⟩:=c2 y'<|PySem.mem_of_lookup hsc;have ec:c'=c:=í<|(c1 y' c' hc').symm.trans hc;subst ec;obtain⟨o,ho,hd⟩:=z;exact⟨c',hc',o,Β c' o ho,hd⟩
 .obtain⟨v,o,ho,hd⟩:=I3.cell y c<|c1 y c e;exact⟨v,o,Β c o ho,hd⟩
 .show _=(Yb X x ö).length;unfold Yb OS;rw[Ü,Ü,À,À,ñ]
def XN{env:Env}(h:∀y∈scope.names,y.2=.free->∃c,env.cells.lookup y.1=d7 c) :
  ∃cl,closureFor scope env=pure cl/\(∀x c,cl.lookup x=d7 c->env.cells.lookup x=d7 c)/\∀x,(x,Ĥ)∈scope.names->∃c,cl.lookup x=d7 c:=by
 obtain⟨cl,h1,h2,_,h4⟩:=YQ (env:=env) scope.names [] h λx c e=>nomatch e;refine⟨cl,?_,h2,h4⟩;simp only[closureFor];have e:(forIn scope.names ([]:List<|Str×È) λx r =>
     (match x with
     | (name,kind)=>if(kind == Ĥ)=d9 then do let a<-cellOf env name;pure (ĵ<|(name,a)::r)else pure (ĵ r):Sem<|ForInStep<|List<|Str×È))=pure cl:=h1
 first
  |(rw[e];rfl)
  |(refine Eq.trans (congrArg (· >>= pure) ?_) (rfl:(pure cl >>= pure:Sem _)=pure cl);exact e)
variable {bw:Expr} {Ť:Expr} {aN:List Expr} {æ:Pos}
def Nd{prog:ê}{A:č}{R:dM->Å->Prop}{s:Å}{Ϭ:Expr}{it Ĭ:Â}{env:Env}(I:Nat->Å->Prop)
  (turn:∀n s,I n s->wpAny (à prog w) A (Ο it) (λr Ħ=>match r with
    |none=>R (.ok .next) Ħ
    | some v=>wpAny (à prog w) A (Ϛ Ϭ it v) (λ_ Ħ=>wpAny (à prog w) A (ŵ Ϭ env v) (λ_ bF =>
        wpAny (à prog w) A (forIn aN d9 λc r=>if r=d9 then do let ok<-bQ c env (eval c env);pure (ĵ ok)else pure (ĵ r)) (λok au =>
          if ok=d9 then wpAny (à prog w) A (eval bw env) (λx s₄ =>
            wpAny (à prog w) A (call (.builtin "list.append") [Ĭ,x]) (λ_ s₅=>∃m,m<n/\I m s₅) (λ_ _=>False) s₄) (λ_ _=>False) au
          else ∃m,m<n/\I m au) (λ_ _=>False) bF) (λ_ _=>False) Ħ) (λ_ _=>False) Ħ) (λ_ _=>False) s)
  (n:Nat) (h:I n s) :
  codeAny (à prog w) A (.compLoop (.ListComp bw [⟨Ϭ,Ť,aN,0⟩] scope æ) 0 it Ĭ env) R s:=by
 refine codeAny_loop rfl I (λn s hI=>?_) n h;show wpAny _ A ((compTurn (.ListComp bw [⟨Ϭ,Ť,aN,0⟩] scope æ) 0 it Ĭ env).onRaise λx=>do aU x env;theTreesLotGoes x) _ _ s;refine wpAny_noted ?_;rw[compTurn_list];refine Ã<|cO<|Ã<|ċ (turn n s hI) (λr Ħ aY=>?_) λ_ _ h'=>h'.elim;cases r with
 |none=>exact Ò aY
 |some v =>
  refine Ã<|ċ aY (λ_ Ħ aY=>?_) λ_ _ h'=>h'.elim;refine Ã<|ċ aY (λ_ bF h₂=>Ã<|ċ h₂ (λok au h₃=>?_) λ_ _ h'=>h'.elim) λ_ _ h'=>h'.elim;cases ok with
  |false=>exact Ò ⟨rfl,h₃⟩
  |true =>exact Ã<|Ã<|ċ h₃ (λx s₄ h₄=>Ã<|ċ h₄ (λ_ s₅ h₅=>Ò<|Ò ⟨rfl,h₅⟩) λ_ _ h'=>h'.elim) λ_ _ h'=>h'.elim
variable {aZ:Expr} {tg:TG} {tc:TT} {te:TE}
def KN{it:È}{tn:Nat->ü->Prop}{J:It}{Fin:List V->Hp->Prop}{W:Nat->Nat->List V->St->Hp->Prop}{E:Â->Å->Prop}
  {RR:Â->È->dM->Å->Prop}{m0:Nat}(hc:X.calm=d9) (B:BlkOk X scope x ö) (I2:Inv X Á σ H2 s2) (T:Turn X.prog X.w X.K aZ J fp it tn) (st2:tn 0 s2.heap) (f2:∀b∈fp,WJ X Á H2 b)
  (c1:∀x c,cl.lookup x=d7 c->X.env.cells.lookup x=d7 c) (c2:∀x,(x,Ĥ)∈scope.names->∃c,cl.lookup x=d7 c)
  (hI:∀cl C s H ex,PIfs (Zu X scope (Yb X x ö) cl C s H ex) aN tc) (hE:∀cl C s H ex,PE (Zu X scope (Yb X x ö) cl C s H ex) bw te)
  (hG:∀cl C s H ex,PG (Zu X scope (Yb X x ö) cl C s H ex) aZ tg) (w0:W 0 m0 [] (Ø x.length d8++OS σ ö) H2) (cw:GU J tg tc te Fin W)
  (hRR:∀D C s' H' ys m,H' D=d8->s'.heap.Ns C m->WJ X Á (upd H' D<|.lst ys) C->Inv X Á σ (upd H' D<|.lst ys) s'->Fin ys H'->RR (.ref D) C (.ok .next) s') :
  wpAny (à X.prog X.w) X.A (newList []) (λĬ au=>wpAny (à X.prog X.w) X.A (newFunctionEnv scope X.env.globals cl [] X.env.qual d8 .none<|d7 X.env) (λcenv s₄ =>
    codeAny (à X.prog X.w) X.A (.compStart (.ListComp bw [⟨aZ,Ť,aN,0⟩] scope æ) 0 (.ref it) Ĭ { cenv with scope:=bL scope X.env }) (RR Ĭ cenv.locals) s₄) E au) E s2:=by
 refine Đ (wpAny_newFunctionEnv B.nocell (by intro y hy;simp at hy) (λaY cr cu=>?_) B.kind);dsimp only at cr cu ⊢;have hfp:∀b∈fp,b<s2.heap.objs.size:=λb hb=>by obtain⟨o,e,_⟩:=T.obj _ _ st2 b hb;exact Ô e
 have I3:Inv X Á σ H2 {s2 with heap:=s2.heap.push {cls:=.type "list",dict:=d8,data:=.seq ([]:List Â).toArray}}:=I2.kept (t':=s2.toks) λb o e=>Ä _ e;have h3:(s2.heap.push {cls:=.type "list",dict:=d8,data:=.seq ([]:List Â).toArray}).objs.size=s2.heap.objs.size+1:=ń ..;have cY:(s2.heap.push {cls:=.type "list",dict:=d8,data:=.seq ([]:List Â).toArray}).get? s2.heap.objs.size=d7 {cls:=.type "list",dict:=d8,data:=.seq ([]:List Â).toArray}:=Ö _ rfl;have cx:∀b o,s2.heap.get? b=d7 o->(s2.heap.push {cls:=.type "list",dict:=d8,data:=.seq ([]:List Â).toArray}).get? b=d7 o:=λb o e=>Ä _ e;generalize hH3:s2.heap.push {cls:=.type "list",dict:=d8,data:=.seq ([]:List Â).toArray}=h3' at cr cu I3 h3 cY cx ⊢;have Β:∀b o,h3'.get? b=d7 o->aY.get? b=d7 o:=λb o e=>cu.extBut b o (ç<|Ô e)<|Ä _ e;have hDC:s2.heap.objs.size≠h3'.objs.size:=by rw[h3];exact ç<|Ā _
 have IB:=U8 (cl:=cl) (fp:=fp) (s3:={s2 with heap:=h3'}) (D:=s2.heap.objs.size) (h1:=aY) (tk:=s2.toks+([]:List<|Str×Â).length) B I2 f2 c1 c2 I3 rfl h3 Β hfp cr;generalize hY:Zu X scope (Yb X x ö) cl h3'.objs.size {s2 with heap:=h3'} H2 (s2.heap.objs.size::fp)=Y at IB;have yP:Y.prog=X.prog:=by rw[<-hY];rfl
 have yw:Y.w=X.w:=by rw[<-hY];rfl
 have yK:Y.K=X.K:=by rw[<-hY];rfl
 have yA:Y.A=X.A:=by rw[<-hY];rfl
 have yc:Y.calm=d9:=by rw[<-hY];exact hc
 have yenv:Y.env=compEnvC scope cl h3'.objs.size X.env:=by rw[<-hY];rfl
 have hIY:PIfs Y aN tc:=by rw[<-hY];exact hI _ _ _ _ _
 have hEY:PE Y bw te:=by rw[<-hY];exact hE _ _ _ _ _
 have yxe:Y.xe=λ_ _=>False:=by rw[<-hY];rfl
 have ypn:Y.pn=[]:=by rw[<-hY];rfl
 have hgN:PG Y aZ tg:=by rw[<-hY];exact hG _ _ _ _ _
 have fD:∀{H':Hp},H' s2.heap.objs.size=d8->WJ Y [] H' s2.heap.objs.size:=λ{H'} hn=>by
  refine⟨hn,?_,?_,?_,?_,λp hp=>?_⟩
  .rw[yenv];exact hDC
  .exact IB.ok.exfs _ (by rw[<-hY];exact î)
  .exact .inl (by rw[<-hY];exact î)
  .exact λy c e=>(IB.ok.exf _<|by rw[<-hY];exact î).2 y c e
  .rw[ypn]at hp;exact nomatch hp
 have fF:∀{H':Hp},(∀b∈fp,H' b=d8)->∀b∈fp,WJ Y [] H' b:=λ{H'} hn b hb=>by
  have hm:b∈Y.ex:=by rw[<-hY];exact Û _ hb
  refine⟨hn b hb,?_,IB.ok.exfs b hm,.inl hm,λy c e=>(IB.ok.exf b hm).2 y c e,λp hp=>?_⟩
  .exact(IB.ok.exf b hm).1
  .rw[ypn]at hp;exact nomatch hp
 have acc0:aY.PlainList s2.heap.objs.size ([]:List Â).toArray:=⟨0,by exact Β _ _ cY⟩
 have loop:∀au:Å,au={s2 with heap:=aY,toks:=s2.toks+([]:List<|Str×Â).length}->
   codeAny (à X.prog X.w) X.A (.compLoop (.ListComp bw [⟨aZ,Ť,aN,0⟩] scope æ) 0 (.ref it) (.ref s2.heap.objs.size)<|compEnvC scope cl h3'.objs.size X.env) (RR (.ref s2.heap.objs.size) h3'.objs.size) au:=by
  rintro au rfl;refine Nd (λn s'=>∃i ys ì τ H',Inv Y [] τ H' s'/\tn i s'.heap/\(∀b∈fp,H' b=d8)/\H' s2.heap.objs.size=d8/\fR ys ì/\s'.heap.PlainList s2.heap.objs.size ì.toArray/\W i n ys τ H') ?_ m0
   ⟨0,[],[],_,H2,IB,T.keep _ _ _ st2 λb hb o e=>Β _ _<|cx _ _ e,λb hb=>(f2 b hb).1,I2.fresh,.nil,acc0,w0⟩
  rintro n s3 ⟨i,ys,ì,τ,H3,I3',st3,fr3,frD,rv,pl,w3⟩;have cv:∀{α:Type}{f:Sem α}{Q Q':α->Å->Prop}{s:Å},wpAny (à Y.prog Y.w) Y.A f Q Y.xe s->(∀a s',Q a s'->Q' a s')->wpAny (à X.prog X.w) X.A f Q' (λ_ _=>False) s:=λ{α f Q Q' s} h hq=>by rw[yP,yw,yA,yxe]at h;exact ċ h hq λ_ _ e=>e
  have cvX:∀{α:Type}{f:Sem α}{Q Q':α->Å->Prop}{s:Å},wpAny (à X.prog X.w) Y.A f Q (λ_ _=>False) s->(∀a s',Q a s'->Q' a s')->wpAny (à X.prog X.w) X.A f Q' (λ_ _=>False) s:=λ{α f Q Q' s} h hq=>by rw[yA]at h;exact ċ h hq λ_ _ e=>e
  obtain⟨nD,hD3⟩:=id pl;have plD:∀b∈[s2.heap.objs.size],∃o,s3.heap.get? b=d7 o/\∀v,o.data≠.cell v:=λb hb=>by
   have e:b=s2.heap.objs.size:=by simpa using hb
   subst e;exact⟨_,hD3,λv z=>by cases z⟩
  have IP:=I3'.pinned (fp:=[s2.heap.objs.size]) (λb hb=>by
    have e:b=s2.heap.objs.size:=by simpa using hb
    subst e
    exact fD frD) plD
  have memD:=Z0 (fp:=[s2.heap.objs.size]) (Ý.mpr rfl) hD3;have fF':∀b∈fp,WJ Y ([]++XT [s2.heap.objs.size] s3.heap) H3 b:=λb hb=>by
   obtain⟨q1,q2,q3,q4,q5,q6⟩:=fF fr3 b hb;refine⟨q1,q2,q3,q4,q5,λp hp=>?_⟩;rw[ypn]at hp;obtain⟨bx,_⟩:=K1 (show p∈XT [s2.heap.objs.size] s3.heap by simpa using hp);have e:p.1=s2.heap.objs.size:=by simpa using bx
   rw[e];exact(ç<|hfp b hb).symm
  obtain⟨hys,h|⟨go,N,hN,step⟩⟩:=cw i n ys τ H3 w3
  .obtain⟨stop,fin⟩:=h;refine cvX (T.done Y yP yw yK yc i _ s3 _ H3 _ IP fF' st3 stop) λr s4 ⟨hr,I4⟩=>?_;subst hr;obtain⟨m4,hm4,_⟩:=I4.loc;rw[yenv]at hm4;have av:Un (frs X.stack) (s2.heap.objs.size::fp) H2 H3 h3' s4.heap:=by
    have:=I4.base;rw[<-hY]at this;exact this
   have hok4:HOk X.prog X.w H3 s4.heap:=by have:=I4.hok;rw[yP,yw]at this;exact this
   have pl4:=(I4.pin _<|É _<|É _ memD).1;have nC:H3 h3'.objs.size=d8:=by have:=I4.free;rw[yenv]at this;exact this
   have hlen:ys.length<=Ú:=Ū hys;have osEq:s4.os=s2.os:=by have:=I4.os;rw[<-hY]at this;exact this
   have neD:∀b o,s2.heap.get? b=d7 o->b≠s2.heap.objs.size:=λb o e=>ç<|Ô e;have nin:∀b o,s2.heap.get? b=d7 o->b∉fp->b∉s2.heap.objs.size::fp:=λb o e hb z=>(Æ.mp z).elim (neD b o e) hb;have hokN:HOk X.prog X.w (upd H3 s2.heap.objs.size<|.lst ys) s4.heap:=hok4.track frD ⟨hlen,ì,nD,rv,pl4⟩;have U:Un (frs X.stack) fp H2 (upd H3 s2.heap.objs.size<|.lst ys) s2.heap s4.heap:=by
    refine⟨λb o e hn hf hx=>av.keep b o (cx b o e) hn hf<|nin b o e hx,λb o e hn hf hx=>av.slot b o (cx b o e) hn hf<|nin b o e hx,λb o e hn hx=>?_,λb o e hx=>av.there b o (cx b o e)<|nin b o e hx,λb xs e=>?_,λb o xs e=>?_,λb ps e=>?_⟩
    .rw[ei<|neD b o e];exact av.free b o (cx b o e) hn<|nin b o e hx
    .have q:=av.tups b xs e;rw[ei<|Zh q frD];exact q
    .have q:=av.frzs b o xs e;rw[ei<|Zh q frD];exact q
    .obtain⟨more,q⟩:=av.tbls b ps e;exact⟨more,by rw[ei<|Zh q frD];exact q⟩
   have I5:Inv X Á σ (upd H3 s2.heap.objs.size<|.lst ys) s4:=I2.call' (ch:=fp) osEq U hokN I4.bare λb hb=>by obtain⟨_,q2,_,q4,q5,q6⟩:=f2 b hb;exact⟨q4,q2,q5,q6⟩
   exact hRR _ _ _ _ _ m4 frD hm4 (I2.fpOk (Ū<|by rw[h3];exact Ā _)<|by rw[ei hDC.symm];exact nC) I5 fin
  .refine cvX (T.item Y yP yw yK yc i _ s3 _ H3 _ IP fF' st3 go) λr s4 ⟨u,hr,h4⟩=>?_;subst hr;refine cvX h4 λ_ s5 ⟨y,H5,I5,r5,y5,st5,fr5⟩=>?_;have frD5:H5 s2.heap.objs.size=d8:=(I5.pin _<|É _<|É _ memD).2.1;have hD5:=(I5.pin _<|É _<|É _ memD).1;have I5p:=I5.unpinned.pinned (fp:=s2.heap.objs.size::fp) (λb hb=>by
     rcases Æ.mp hb with e|hb
     . subst e;exact fD frD5
     . exact fF fr5 b hb) (λb hb=>by
     rcases Æ.mp hb with e|hb
     . subst e;exact⟨_,hD5,λv z=>by cases z⟩
     . exact T.obj _ _ st5 b hb)
   have memD5:=Z0 (fp:=s2.heap.objs.size::fp) î hD5;rw[<-yenv];refine cv (hgN _ s5 _ H5 y u _ I5p r5<|step y H5 y5) λ_ s6 ⟨σ6,H6,I6,q6⟩=>?_;have Τ:∀{m':Nat}{aX:St}{H7:Hp}{s7:Å}{ys':List V}{its':List Â},Inv Y [] aX H7 s7->tn (i+1) s7.heap->(∀b∈fp,H7 b=d8)->H7 s2.heap.objs.size=d8->fR ys' its'->s7.heap.PlainList s2.heap.objs.size its'.toArray->m'<n/\W (i+1) m' ys' aX H7->
     ∃m,m<n/\∃i ys ì τ H',Inv Y [] τ H' s7/\tn i s7.heap/\(∀b∈fp,H' b=d8)/\H' s2.heap.objs.size=d8/\fR ys ì/\s7.heap.PlainList s2.heap.objs.size ì.toArray/\W i m ys τ H' :=
    λ{m' aX H7 s7 ys' its'} J1 st7 fr7 fd7 rv7 pl7 wm=>⟨m',wm.1,i+1,ys',its',aX,H7,J1,st7,fr7,fd7,rv7,pl7,wm.2⟩
   have stay:∀{aX:St}{H7:Hp}{s7:Å},Inv Y ([]++XT (s2.heap.objs.size::fp) s5.heap) aX H7 s7->tn (i+1) s7.heap/\(∀b∈fp,H7 b=d8)/\H7 s2.heap.objs.size=d8/\s7.heap.get? s2.heap.objs.size=d7 {cls:=.type "list",data:=.seq ì.toArray nD}:=by intro aX H7 s7 J1;refine⟨T.keep _ _ _ st5 λb hb o e=>(J1.pin (b,o)<|É _<|É _<|Z0 (Û _ hb) e).1,λb hb=>?_,(J1.pin _<|É _<|É _ memD5).2.1,(J1.pin _<|É _<|É _ memD5).1⟩;obtain⟨o,e,d⟩:=T.obj _ _ st5 b hb;exact(J1.pin (b,o)<|É _<|É _<|Z0 (Û _ hb) e).2.1
   refine cv (hIY _ s6 _ H6 _ I6 q6) λok s7 ⟨H7,I7,q7⟩=>?_;cases ok with
   |false =>rw[f8<|by decide]at q7;rw[f8<|by decide];obtain⟨m',wm⟩:=hN _ _ _ q7;obtain⟨a1,a2,a3,a4⟩:=stay I7;exact Τ I7.unpinned a1 a2 a3 rv ⟨nD,a4⟩ wm
   |true =>
    rw[fZ rfl]at q7;rw[fZ rfl];refine cv (hEY _ s7 _ H7 _ I7 q7) λz s8 ⟨vz,H8,I8,rz,wm⟩=>?_;obtain⟨m',wm⟩:=hN _ _ _ wm;obtain⟨a1,a2,a3,a4⟩:=stay I8;have hlen:=rv.length;refine wpAny_list_append_plain (hsz:=by rw[Ë];lia) (⟨nD,a4⟩:s8.heap.PlainList _ ì.toArray) λh9 hl9 hs9=>?_;obtain⟨q1,q2,q3,q4,q5,q6⟩:=fD a3;have I9:Inv Y [] _ H8 {s8 with heap:=h9}:=I8.unpinned.turned (t':=s8.toks) (λb o hb e=>hs9.extBut b o hb e) q1 q2 q4 q5 q6;refine Τ I9 (T.keep _ _ _ a1 λb hb o e=>hs9.extBut b o (ç<|hfp b hb) e) a2 a3 (its':=ì++[z]) (rv.append<|.cons rz .nil) ?_ wm;have e:ì.toArray.push z=(ì++[z]).toArray:=by simp
    rw[e]at hl9;exact hl9
 exact codeAny_compStart_list (loop _ rfl)<|T.self _ 0 _ _ _ (T.keep _ _ _ st2 λb hb o e=>Β _ _<|cx _ _ e)<|loop _ rfl
variable {wi:TI}
def D0(hc:X.calm=d9)(B:BlkOk X scope x ö)(hi:PI X aZ Ť wi)(hG:∀cl C s H ex,PG (Zu X scope (Yb X x ö) cl C s H ex) aZ tg)
  (hI:∀cl C s H ex,PIfs (Zu X scope (Yb X x ö) cl C s H ex) aN tc) (hE:∀cl C s H ex,PE (Zu X scope (Yb X x ö) cl C s H ex) bw te)
  (hs:∀x,ĕ Ť X.env x=pure x:=by intro _;rfl):PE X (.ListComp bw [⟨aZ,Ť,aN,0⟩] scope æ)<|C3 wi x.length ö tg tc te:=by
 intro Á s σ H Q I h;obtain⟨cl,a9,c1,c2⟩:=XN (scope:=scope) (env:=X.env) λy hy e=>I.ok.has y.1<|.inl<|B.frees y hy e;rw[eval_ListComp];refine cR (use:=d8) rfl hs a9 B.kind B.locs<|thn (hi Á s σ H _ I h) λv s1 h1=>thn h1 λitv s2 h2=>?_;obtain⟨it,fp,tn,J,H2,e,I2,T,st2,f2,W,⟨m0,w0⟩,cw⟩:=h2;subst e;refine KN (RR:=λĬ C=>compPost (à X.prog X.w) X.A X.xe d8 (EP X Á σ Q) Ĭ C) hc B I2 T st2 f2 c1 c2 hI hE hG w0 cw ?_;intro D C s' H' ys m hD hn fC I' fin;obtain⟨q1,q2,q3,q4,q5,q6⟩:=fC;exact⟨m,hn,λh' hs'=>⟨.ref D,_,I'.turned (t':=s'.toks) (λb o hb e=>hs'.extBut b o hb e) q1 q2 q4 q5 q6,rfl,fin D hD⟩⟩
def CH{y:Str}{py:Pos}{i:Nat}{ϋ:Pos}(hN:X.N.Nodup)(hi':X.N[i]?=d7 y)(hy:Loc X.env.scope y)(hc:X.calm=d9)(B:BlkOk X scope x ö)(hi:PI X aZ Ť wi)(hG:∀cl C s H ex,PG (Zu X scope (Yb X x ö) cl C s H ex) aZ tg)
  (hI:∀cl C s H ex,PIfs (Zu X scope (Yb X x ö) cl C s H ex) aN tc) (hE:∀cl C s H ex,PE (Zu X scope (Yb X x ö) cl C s H ex) bw te)
  (hs:∀x,ĕ Ť X.env x=pure x:=by intro _;rfl)
  (hsw:Ŕ (.ListComp bw [⟨aZ,Ť,aN,0⟩] scope æ) (d7<|.Name y py) ϋ.line X.env=pure d9:=by rfl)
  (hf:X.fn y=d9\/X.env.scope.names.lookup y=d7 .local:=by first|exact .inl rfl|exact .inr rfl|assumption) :
  PS X (.Assign [.Name y py] (.ListComp bw [⟨aZ,Ť,aN,0⟩] scope æ) ϋ) (Qz (C3 wi x.length ö tg tc te)<|Hr i):=by
 intro Á s σ H D I h;obtain⟨cl,a9,c1,c2⟩:=XN (scope:=scope) (env:=X.env) λy hy e=>I.ok.has y.1<|.inl<|B.frees y hy e;rw[exec_Assign_Name_used _ _ _ _ hsw];refine Ã<|cO<|Ã ?_;show wpAny _ X.A (do let _<-comprehension (.ListComp bw [⟨aZ,Ť,aN,0⟩] scope æ) scope X.env _ (newList []) ee (eval Ť X.env) (d7<|ŵ (.Name y py) X.env)) _ _ s;refine Ã (ċ (cR (use:=d7<|ŵ (.Name y py) X.env) (Q:=λ_ s'=>SP X Á D .next s') rfl hs a9 B.kind B.locs
   (thn (hi Á s σ H _ I h) λv s1 h1=>thn h1 λitv s2 h2=>?_)) (λ_ s' hq=>Ò<|Ò hq) λ_ _ e=>e)
 obtain⟨it,fp,tn,J,H2,e,I2,T,st2,f2,W,⟨m0,w0⟩,cw⟩:=h2;subst e;refine KN (RR:=λĬ C=>compPost (à X.prog X.w) X.A X.xe (d7<|ŵ (.Name y py) X.env) (λ_ s'=>SP X Á D .next s') Ĭ C) hc B I2 T st2 f2 c1 c2 hI hE hG w0 cw ?_;intro Dd C s' H' ys m hD hn fC I' fin;obtain⟨q1,q2,q3,q4,q5,q6⟩:=fC;show wpAny _ _ (ŵ (.Name y py) X.env<|.ref Dd) _ _ _;refine wpAny_assign_Name<|K5 I' hN hi' hy (v:=.ref Dd) rfl (λs2 I2 ⟨a,hs2,ha⟩=>?_) hf;have ne:C≠a:=by
  rcases ha with z|z
  .rw[z];exact q2
  .exact(q5 y a z).symm
 refine⟨m,hn.sameBut hs2 ne,λh' hs'=>?_⟩;exact⟨_,_,I2.turned (t':=s2.toks) (λb o hb e=>hs'.extBut b o hb e) q1 q2 q4 q5 q6,fin Dd hD⟩
end
mutual
inductive IsD (K:Frag) (H:Hp):V->ŗ->Prop
 |non:IsD K H .non .none
 |bl (b:Bool):IsD K H (.bl b)<|.bool b
 |int (i:Int):IsD K H (.int i)<|.int i
 |str (x:Str):IsD K H (.str x)<|.str x
 |lst {a:È}{xs:List V}{ds:List ŗ}:fP K H a xs->IsDs K H xs ds->IsD K H (.ref a) (.list ds)
 |tup {a:È}{xs:List V}{ds:List ŗ}:fQ K H a xs->IsDs K H xs ds->IsD K H (.ref a) (.tuple ds)
inductive IsDs (K:Frag) (H:Hp):List V->List ŗ->Prop
 |nil:IsDs K H [] []
 |cons {x:V}{xs:List V}{d:ŗ}{ds:List ŗ}:IsD K H x d->IsDs K H xs ds->IsDs K H (x::xs) (d::ds)
end
section
variable {X:Cx}{Á:List (È×Obj)}{σ:St}{H:Hp}{s:Å}
mutual
theorem IsD.reads(I:Inv X Á σ H s):∀{v:V}{d:ŗ}{u:Â},IsD X.K H v d->RelV v u->∃as,Reads s.heap u d as
 |_,_,_,.non,r=>by cases r;exact⟨_,.none⟩
 |_,_,_,.bl b,r=>by cases r;exact⟨_,.bool b⟩
 |_,_,_,.int i,r=>by obtain⟨t,rfl⟩:=r;exact⟨_,.int i t⟩
 |_,_,_,.str x,r=>by obtain⟨t,rfl⟩:=r;exact⟨_,.str x t⟩
 |_,_,_,.lst q qs,r=>by cases r;obtain⟨ì,rv,⟨o,n,e,c,_,d⟩,_⟩:=I.list q;obtain⟨as,ra⟩:=IsDs.reads I qs rv;exact⟨_,.list e c d<|by simpa using ra⟩
 |_,_,_,.tup q qs,r=>by cases r;obtain⟨ì,rv,⟨o,e,c,n,d⟩,_⟩:=I.tuple q;obtain⟨as,ra⟩:=IsDs.reads I qs rv;exact⟨_,.tuple e c d<|by simpa using ra⟩
theorem IsDs.reads(I:Inv X Á σ H s):∀{vs:List V}{ds:List ŗ}{us:List Â},IsDs X.K H vs ds->fR vs us->∃as,ReadsAll s.heap us ds as
 |_,_,_,.nil,.nil=>⟨_,.nil⟩
 |_,_,_,.cons q qs,.cons r rs=>by obtain⟨as,ra⟩:=IsD.reads I q r;obtain⟨bs,rb⟩:=IsDs.reads I qs rs;exact⟨_,.cons ra rb⟩
end
end
variable {H:Hp}
def Same.sqT{K:Frag}{H':Hp}{a:È}{xs:List V}(e:Same H H')(h:fQ K H a xs):fQ K H' a xs:=by
 rcases h with(h|⟨o,h⟩)|h
 .exact .inl<|.inl<|e _ _ h
 .exact .inl<|.inr ⟨o,e _ _ h⟩
 .exact .inr h
mutual
theorem IsD.same{K:Frag}{H H':Hp}(e:Same H H'):∀{v:V}{d:ŗ},IsD K H v d->IsD K H' v d
 |_,_,.non=>.non
 |_,_,.bl b=>.bl b
 |_,_,.int i=>.int i
 |_,_,.str x=>.str x
 |_,_,.lst q qs=>.lst (e.seq q)<|IsDs.same e qs
 |_,_,.tup q qs=>.tup (e.sqT q)<|IsDs.same e qs
theorem IsDs.same{K:Frag}{H H':Hp}(e:Same H H'):∀{vs:List V}{ds:List ŗ},IsDs K H vs ds->IsDs K H' vs ds
 |_,_,.nil=>.nil
 |_,_,.cons q qs=>.cons (IsD.same e q)<|IsDs.same e qs
end
def IsDs.ints{K:Frag}{H:Hp}:∀ns:List Int,IsDs K H (ns.map V.int) (ns.map PyData.int)
 |[]=>.nil
 |n::ns=>.cons (.int n)<|IsDs.ints ns
def IsDs.length{K:Frag}{H:Hp}:∀{vs:List V}{ds:List ŗ},IsDs K H vs ds->vs.length=ds.length
 |_,_,.nil=>rfl
 |_,_,.cons _ t=>by rw[Ç,Ç,IsDs.length t]
def IsDs.get{K:Frag}{H:Hp}:∀{vs:List V}{ds:List ŗ}{i:Nat}{v:V},IsDs K H vs ds->vs[i]?=d7 v->∃d,ds[i]?=d7 d/\IsD K H v d
 |_,_,_,_,.nil,e=>by simp at e
 |_,_,0,_,.cons q _,e=>by simp at e;subst e;exact⟨_,rfl,q⟩
 |_,_,i+1,v,.cons _ t,e=>by obtain⟨d,h1,h2⟩:=IsDs.get (i:=i) (v:=v) t (by simpa using e);exact⟨d,by simpa using h1,h2⟩
def IsDs.append{K:Frag}{H:Hp}:∀{xs ys:List V}{ds es:List ŗ},IsDs K H xs ds->IsDs K H ys es->IsDs K H (xs++ys) (ds++es)
 |_,_,_,_,.nil,h=>h
 |_,_,_,_,.cons q t,h=>.cons q<|IsDs.append t h
section
variable {X:Cx}
abbrev Rr(K:Frag):R2:=λx y H Q=>∃d e,IsD K H x d/\IsD K H y e/\SeqAt.shaped d=d9/\SeqAt.shaped e=d9/\Q (.bl<|ĥ d e) H
abbrev Rk(K:Frag):R2:=λx y H Q=>∃d e,IsD K H x d/\IsD K H y e/\SeqAt.shaped d=d9/\SeqAt.shaped e=d9/\Q (.bl (!ĥ d e)) H
def Pa(hu:X.A.units+64<Ě):OpR X (ë .Eq)<|Rr X.K:=by intro Á s σ H x y v u Q I rx ry h;obtain⟨d,e,hd,he,sd,se,q⟩:=h;obtain⟨as,ra⟩:=hd.reads I rx;obtain⟨bs,rb⟩:=he.reads I ry;exact SeqAt.compareEq_shaped ra rb sd se hu ⟨.bl _,H,I,rfl,q⟩
def Ls(hu:X.A.units+64<Ě):OpR X (ë .NotEq)<|Rk X.K:=by intro Á s σ H x y v u Q I rx ry h;obtain⟨d,e,hd,he,sd,se,q⟩:=h;obtain⟨as,ra⟩:=hd.reads I rx;obtain⟨bs,rb⟩:=he.reads I ry;exact SeqAt.compareNe_shaped ra rb sd se hu ⟨.bl _,H,I,rfl,q⟩
inductive TyV (K:Frag) (H:Hp):V->Â->Prop
 |of {x:V}{t:Â}:fK K H x t->TyV K H x t
 |tup {a:È}{xs:List V}:fQ K H a xs->TyV K H (.ref a) (.type "tuple")
 |lst {a:È}{xs:List V}:fP K H a xs->TyV K H (.ref a) (.type "list")
def TyV.int{K:Frag}(i:Int):TyV K H (.int i)<|.type "int":=.of (.int i)
def Ec:eM X (.builtin "isinstance") λxs H Q=>∃x T t b,xs=[x,.ty T]/\TyV X.K H x t/\PySem.W.kitOne X.K t (.type T)=d7 b/\Q (.bl b) H:=by
 intro Á s σ H xs us Q I r h;obtain⟨x,T,t,b,rfl,ty,e,q⟩:=h;obtain⟨u,v,rfl,ru,rv⟩:=WV r;cases rv;cases ty with
 |of ty=>exact Ax I ru ty e λtk=>⟨.bl b,H,I.tok tk,rfl,q⟩
 |tup hq =>cases ru;obtain⟨ì,_,⟨o,h1,h2,_⟩,_⟩:=I.tuple hq;exact PySem.W.kia_one PySem.W.kitx_tuple I.kIn ⟨o,h1,h2⟩ e (λz=>nomatch z) λtk=>⟨.bl b,H,I.tok tk,rfl,q⟩
 |lst hq =>cases ru;obtain⟨ì,_,⟨o,n,h1,h2,_⟩,_⟩:=I.list hq;exact PySem.W.kia_one PySem.W.kitx_list I.kIn ⟨o,h1,h2⟩ e (λz=>nomatch z) λtk=>⟨.bl b,H,I.tok tk,rfl,q⟩
def Cj(hc:X.calm=d9):eM X (.builtin "all") λxs H Q=>∃p,∃bs:List Bool,xs=[.ref p]/\fP X.K H p (bs.map V.bl)/\Q (.bl<|bs.all id) H:=by
 intro Á s σ H xs us Q I r h;obtain⟨p,bs,rfl,hq,q⟩:=h;obtain⟨u,rfl,rx⟩:=ZU r;cases rx;obtain⟨ì,rv,pl,hz⟩:=I.list hq;have hlen:=rv.length;rw[À]at hlen;have Ϙ:p<s.heap.objs.size:=by obtain⟨o,n,e,_⟩:=pl;exact Ô e
 refine call_all_walk<|Κ pl.isList ?_;refine⟨s.heap.objs.size,_,_,ì.toArray.size,_,_,λi=>bs.getD i d9,rfl,Walks.list (A:=X.A.in1) (I.ok.hd hc) s.heap.objs.size p (ç Ϙ) ì.toArray,⟨⟨_,Ö _ rfl,rfl,rfl⟩,pl.isList.push _⟩,?_,λh' tk hk=>?_⟩
 .intro i v s' Q' E' hP hQ;have hP:ì[i]?=d7 v:=by simpa using hP
  have hb:(bs.map V.bl)[i]?=d7 (.bl<|bs.getD i d9):=by
   have hi:i<bs.length:=by have:=(Ï.mp hP).1;lia
   rw[Õ,Ą];simp[hi]
  obtain⟨u,hu,ru⟩:=rv.get hb;rw[hP]at hu;cases hu;cases ru;exact ď hQ
 .have e:(List.range ì.toArray.size).all (λi=>bs.getD i d9)=bs.all id:=by
   rw[Ë,<-hlen,Bool.eq_iff_iff,ó,ó];constructor
   .intro h b hb;obtain⟨i,hi,rfl⟩:=List.mem_iff_getElem.mp hb;have:=h i<|ť.mpr hi;rw[Ą,Ê hi]at this;exact this
   .intro h i hi;have hi:=ť.mp hi;rw[Ą,Ê hi];exact h _<|İ hi
  rw[e];refine⟨.bl _,H,I.kept (t':=tk) λb o e=>hk b o (λhm=>?_)<|Ä _ e,rfl,q⟩;have:b=s.heap.objs.size:=by simpa using hm
  exact gf (this▸Ô e)<|ĝ _
abbrev sortI(ns:List Int):List Int:=ns.mergeSort λa b=>gg (a<=b)
def Kc(ns:List Int):(sortI ns).Perm ns:=Ń ns _
def Cu(ns:List Int):(sortI ns).Pairwise (·<=·):=by have h:=bB (le:=λa b:Int=>gg (a<=b)) (λa b c h1 h2=>by simp at *;lia) (λa b=>by simp;lia) ns;exact h.imp λh=>by simpa using h
def Jp{ns ms:List Int}(hp:ms.Perm ns)(hs:ms.Pairwise (·<=·)):ms=sortI ns:=PySem.W.ksm_same (hp.trans (Kc ns).symm) hs (Cu ns)
def X7(ns:List Int):(sortI ns).length=ns.length:=(Kc ns).length_eq
def Wx:∀{vs:List Â}{ns:List Int},Ė vs ns->fR (ns.map V.int) vs:=WD
def call_sorted:eM X (.builtin "sorted") λxs H Q=>∃p,∃ns:List Int,xs=[.ref p]/\fP X.K H p (ns.map V.int)/\ns.length<64/\∀l,H l=d8->Q (.ref l) (upd H l<|.lst<|(sortI ns).map V.int):=by intro Á s σ H xs us Q I r h;obtain⟨p,ns,rfl,hq,h64,q⟩:=h;obtain⟨u,rfl,rx⟩:=ZU r;cases rx;obtain⟨ì,rv,pl,hz⟩:=I.list hq;have hlen:=rv.length;rw[À]at hlen;refine sorted_ints pl.isList (Zq rv) (by lia) λout cp a1 a2 a3=>?_;have e:=Jp a2 a3;subst e;obtain⟨n,he⟩:=sortedAll_at s.heap ì out;refine⟨.ref<|s.heap.objs.size+1,_,I.laid (a:=s.heap.objs.size+1) (o:=.lst<|(sortI ns).map V.int) (t':=s.toks) (λb o e=>sortedAll_old e) (Ų _) ?_,rfl,q _<|I.hok.fresh<|Ų _⟩;exact⟨by rw[À,X7];rw[À]at hz;exact hz,out.toList,n,Wx a1,by simpa[Ů]using he⟩
def Dp:eM X (.type "set") (λxs H Q=>∃p,∃ns:List Int,xs=[.ref p]/\fP X.K H p (ns.map V.int)/\ns.length<4000/\X.calm=d9/\
    ∀l S n,H l=d8->n=(firstMet (λi=>ns.getD i 0) ns.length).length->Q (.ref l) (upd H l<|.set S n)):=by
 intro Á s σ H xs us Q I r h;obtain⟨p,ns,rfl,hq,h4,hc,q⟩:=h;obtain⟨u,rfl,rx⟩:=ZU r;cases rx;obtain⟨ì,rv,pl,hz⟩:=I.list hq;have hlen:=rv.length;rw[À]at hlen;refine call_set_list (I.ok.hd hc) pl.isList (by simpa using Zq rv) (by rw[Ë];show ì.length+1<4096;lia) λh' tk hS hk=>?_;refine⟨.ref s.heap.objs.size,_,I.laid (a:=s.heap.objs.size) (o:=.set _ _) (t':=tk) (λb o e=>hk b o (Ô e) e) (Í _) hS,rfl,q _ _ _ (I.hok.fresh<|Í _) ?_⟩;rw[Ë,hlen]
def AV:eM X (.builtin "len") λxs H Q=>∃p S n,xs=[.ref p]/\H p=d7 (.set S n)/\Q (.int n) H:=by
 intro Á s σ H xs us Q I r h;obtain⟨p,S,n,rfl,hq,q⟩:=h;obtain⟨u,rfl,rx⟩:=ZU r;cases rx;obtain⟨o,es,ep,t,e,hex,hd,_,_,hb,hf,hn⟩:=(show eN X.prog X.w H s.heap p (.set S n) from I.hok p _ hq)
 subst hn;exact call_len_set e hex hd hf (by have:es.size<4096:=hb;lia) ⟨.int _,H,I.tok _,⟨_,rfl⟩,q⟩
def A0{Á:List (È×Obj)}{σ:St}{s:Å}{p:È}{i j:Int}(I:Inv X Á σ H s)(hq:fQ X.K H p [.int i,.int j]) :
  ∃ì:List Â,ì.length=2/\ϙ s.heap p ì.toArray/\p<s.heap.objs.size/\∀k v,ì[k]?=d7 v->∃t,v=Value.int ([i,j].getD k 0) t:=by
 obtain⟨ì,rv,pl,hz⟩:=I.tuple hq;refine⟨ì,rv.length.symm,pl,?_,λk v hv=>?_⟩
 .obtain⟨o,e,_⟩:=pl;exact Ô e
 .have hk:k<2:=by
   have:=(Ï.mp hv).1;rw[<-rv.length]at this;exact this
  have hb:([V.int i,V.int j]:List V)[k]?=d7 (.int<|[i,j].getD k 0):=by
   match k,hk with
   |0,_=>rfl
   |1,_=>rfl
  obtain⟨u,hu,ru⟩:=rv.get hb;rw[hv]at hu;cases hu;exact ru
def U9(hc:X.calm=d9):eM X (.builtin "max") λxs H Q=>∃p i j,xs=[.ref p]/\fQ X.K H p [.int i,.int j]/\Q (.int<|if j > i then j else i) H:=by
 intro Á s σ H xs us Q I r h;obtain⟨p,i,j,rfl,hq,q⟩:=h;obtain⟨u,rfl,rx⟩:=ZU r;cases rx;obtain⟨ì,hl,pl,Ϙ,hv⟩:=A0 I hq;refine call_max_walk (Ő (show s.heap.IsTuple p ì.toArray from pl) ?_);refine⟨s.heap.objs.size,_,_,ì.toArray.size,_,_,λa b=>gg ([i,j].getD a 0 > [i,j].getD b 0),rfl,Walks.tuple (A:=X.A.in1) (I.ok.hd hc) s.heap.objs.size p (ç Ϙ) ì.toArray,⟨⟨_,Ö _ rfl,rfl,rfl⟩,?_⟩,?_,?_,?_,λv h' tk hP hk=>?_⟩
 .obtain⟨o,e,r⟩:=pl;exact⟨o,Ä _ e,r⟩
 .intro b hb;show b<(s.heap.push _).objs.size;rw[ń];rcases Æ.mp hb with e|hb
  .rw[e];exact Ā _
  .have:b=p:=by simpa using hb
   rw[this];exact Ĉ Ϙ
 .rw[Ë,hl];decide
 .exact CmpOf.ints_gt (λk=>[i,j].getD k 0) λk v hP=>hv k v (by simpa using hP)
 .rw[Ë,hl]at hP;have hP:ì[đ (λa b=>gg ([i,j].getD a 0 > [i,j].getD b 0)) 1]?=d7 v:=by simpa using hP
  obtain⟨t,rfl⟩:=hv _ _ hP;have e:([i,j].getD (đ (λa b=>gg ([i,j].getD a 0 > [i,j].getD b 0)) 1) 0)=if j > i then j else i:=by
   unfold đ;show([i,j].getD (if gg (j > i)=d9 then 1 else 0) 0)=_;by_cases hji:j > i
   .have h2:i<j:=hji;simp[h2]
   .have h2:¬ i<j:=hji;simp[h2]
  rw[e];refine⟨.int _,H,I.kept (t':=tk) λb o e=>hk b o (λhm=>?_)<|Ä _ e,⟨_,rfl⟩,q⟩;have:b=s.heap.objs.size:=by simpa using hm
  exact gf (this▸Ô e)<|ĝ _
end
section
variable {X:Cx}{x:Str}{p æ:Pos}{e:Expr}{es:List Expr}{t:TA}
def Qb{T:String}(hg:Gl X x)(hm:X.mg x=d8)(hv:Ş x=d7 (.type T))(hn:x≠"__name__":=by decide)(hd:(x==("__debug__" : Str))=ee:=by decide):PE X (.Name x æ)<|tC<|.ty T:=O5 hg hm hv rfl hn hd
end
abbrev YA(scope sc:ų)(N:List Str)(x:List Str)(ö:List Nat):Bool :=
 scope.names.all (λy=>y.2 != .cell)&&scope.names.all (λy=>y.2 != .local||scope.names.lookup y.1==d7 .local)&&x.all (λy=>scope.names.lookup y==d7 .local) &&
 scope.names.all (λy=>y.2 != .free||sc.names.lookup y.1==d7 .cell) &&
 ö.all (λj=>gg (j<N.length)&&sc.names.lookup (N.getD j Str.empty)==d7 .cell&&scope.names.lookup (N.getD j Str.empty)==d7 .free)&&gg (x++ö.map λj=>N.getD j Str.empty).Nodup
def OE{X:Cx}{scope sc:ų}{x:List Str}{ö:List Nat}{N:List Str}(hsc:X.env.scope=sc)(hN:X.N=N)(hk:scope.kind=.function)(h:YA scope sc N x ö=d9):BlkOk X scope x ö:=by
 unfold YA at h;simp only[bAq]at h;obtain⟨⟨⟨⟨⟨h1,h2⟩,h3⟩,h4⟩,h5⟩,h6⟩:=h;rw[ó]at h1 h2 h4 h5;refine⟨hk,λy hy=>by simpa using h1 y hy,λy hy e=>?_,λy hy=>by simpa using ó.mp h3 y hy,λy hy e=>?_,λj hj=>?_,?_⟩
 .have:=h2 y hy;rw[e]at this;simpa using this
 .have:=h4 y hy;rw[e]at this;show X.env.scope.names.lookup y.1=_;rw[hsc];simpa using this
 .have:=h5 j hj;simp only[bAq,gc,beq_iff_eq]at this;obtain⟨⟨a,b⟩,c⟩:=this;refine⟨?_,?_,?_⟩
  .rw[hN,Ê a];rfl
  .show X.env.scope.names.lookup _=_;rw[hsc,hN];exact b
  .rw[hN];exact c
 .unfold Yb;rw[hN];exact of_decide_eq_true h6
abbrev eZ(r:È)(H H':Hp):Prop:=∀b o,H b=d7 o->b≠r->H' b=d7 o
variable {H:Hp} {H':Hp}
def Same.keep(e:Same H H')(r:È):eZ r H H':=λb o h _=>e b o h
def eZ.refl(r:È)(H:Hp):eZ r H H:=λ_ _ h _=>h
variable {r:È}
def eZ.trans{H1 H2:Hp}(a:eZ r H H1)(b:eZ r H1 H2):eZ r H H2:=λc o h n=>b c o (a c o h n) n
def eZ.upd{o:HO}:eZ r H<|L2.upd H r o:=λb u h n=>by rw[ei n];exact h
def eZ.free(e:eZ r H H'){l:È}(hr:∃o,H' r=d7 o)(h:H' l=Option.none):H l=Option.none:=by
 cases q:H l with
 |none=>rfl
 |some o =>
  by_cases hl:l=r
  .subst hl;obtain⟨o',z⟩:=hr;rw[h]at z;cases z
  .rw[e l o q hl]at h;cases h
mutual
noncomputable def OB:ŗ->Bool
 |.list _=>ee
 |.tuple xs=>noLists xs
 |.dict _=>ee
 |_=>d9
noncomputable def noLists:List ŗ->Bool
 |[]=>d9
 |x::xs=>OB x&&noLists xs
end
variable {a:È} {xs:List V}
def fQ.keep{K:Frag}{zs:List V}(k:eZ r H H')(hr:H r=d7 (.lst zs))(h:fQ K H a xs):fQ K H' a xs:=by
 rcases h with(h|⟨o,h⟩)|h
 .exact .inl (.inl<|k _ _ h<|Dq h hr<|by intro z;cases z)
 .exact .inl (.inr ⟨o,k _ _ h<|Dq h hr<|by intro z;cases z⟩)
 .exact .inr h
def fP.keep{K:Frag}(k:eZ r H H')(hr:a≠r)(h:fP K H a xs):fP K H' a xs:=by
 rcases h with(h|⟨o,h⟩)|h
 .exact .inl<|.inl<|k _ _ h hr
 .exact .inl<|.inr ⟨o,k _ _ h hr⟩
 .exact .inr h
mutual
theorem IsD.keep{K:Frag}{r:È}{H H':Hp}{zs:List V}(k:eZ r H H')(hr:H r=d7 (.lst zs)):∀{v:V}{d:ŗ},IsD K H v d->OB d=d9->IsD K H' v d
 |_,_,.non,_=>.non
 |_,_,.bl b,_=>.bl b
 |_,_,.int i,_=>.int i
 |_,_,.str x,_=>.str x
 |_,_,.lst q qs,h=>by cases h
 |_,_,.tup q qs,h=>.tup (q.keep k hr)<|IsDs.keep k hr qs h
theorem IsDs.keep{K:Frag}{r:È}{H H':Hp}{zs:List V}(k:eZ r H H')(hr:H r=d7 (.lst zs)):∀{vs:List V}{ds:List ŗ},IsDs K H vs ds->noLists ds=d9->IsDs K H' vs ds
 |_,_,.nil,_=>.nil
 |_,_,.cons q qs,h=>by have h':=ό.mp (show(OB _&&noLists _)=d9 from h);exact .cons (IsD.keep k hr q h'.1)<|IsDs.keep k hr qs h'.2
end
noncomputable abbrev Tie:=Int×Int×Int
abbrev Sl(t:Tie):ŗ:=.tuple [.int t.1,.int t.2.1,.int t.2.2]
def IsD.tie{K:Frag}{x y c:Int}(h:fQ K H a [.int x,.int y,.int c]):IsD K H (.ref a)<|Sl (x,y,c):=.tup h (.cons (.int x)<|.cons (.int y)<|.cons (.int c) .nil)
variable {c:Bool} {A:Prop} {B:Prop}
def fG(e:c=d9)(h:A):if c=d9 then A else B:=by rw[fZ e];exact h
def fH(e:c=ee)(h:B):if c=d9 then A else B:=by rw[e,f8 ø];exact h
structure BrOk(ns:List Int):Prop where
 one:1<=ns.length
 ten:ns.length<=10
 rng:∀n∈ns,0<=n/\n<=999
 nd:ns.Nodup
structure TieOk(ns:List Int)(t:Tie):Prop where
 a:t.1∈ns
 b:t.2.1∈ns
 ne:t.1≠t.2.1
 lo:1<=t.2.2
 hi:t.2.2<=1000
structure TsOk(ns:List Int)(ts:List Tie):Prop where
 few:ts.length<=16
 each:∀t∈ts,TieOk ns t
abbrev mn(x y:Int):Int:=if y<x then y else x
abbrev mx(x y:Int):Int:=if y > x then y else x
abbrev loT(t:Tie):Tie:=(mn t.1 t.2.1,mx t.1 t.2.1,t.2.2)
section
variable {X:Cx}(K:Frag) (h:X.K=K)
include h
end
section
variable {prog:ê}{w:ý}{A:č}{E:Â->Å->Prop}{s:Å}
variable {it:È} {i:Nat} {items:Array Â} {Q:Â->Å->Prop}
def Og{t:È}{x:Â}(bH:s.heap.IsTupleIter it t i)(ht:s.heap.IsTuple t items)(hx:items[i]?=d7 x)
  (hQ:∀h',h'.IsTupleIter it t (i+1)->Ŧ it s.heap h'->Q x {s with heap:=h'}):wpAny (à prog w) A (Builtin.SmallTypes.nextOf<|.ref it) Q E s:=by
 obtain⟨o,ho,hc,hd⟩:=id bH;obtain⟨ot,hot,_,nt,hdt⟩:=ht;unfold Builtin.SmallTypes.nextOf;refine Ã<|Ĝ (name:=gh "__next__") bH.typeIs F.slot_tuple_iterator_next<|ī F.slot_tuple_iterator_next bH.typeIs F.entry_tuple_iterator_next ?_<|F.args_tuple_iterator_next_1 _;show wpAny _ _ (dm (.ref it) 0 >>= _) _ _ s;refine Ã<|ħ ho hd (x:=.ref t) rfl ?_;show wpAny _ _ (if(Value.ref t==Value.none)=d9 then _ else _) _ _ s;rw[f8<|show ¬ ((Value.ref t==Value.none)=d9) from ø];show wpAny _ _ (dm (.ref it) 1 >>= _) _ _ s;refine Ã<|ħ ho hd (x:=.int i 0) rfl ?_;show wpAny _ _ (ϊ (.ref t) >>= _) _ _ s;refine Ã<|ŝ hot hdt ?_;simp only[ã,hx];refine Ã (Ϩ ho hd (by simp)<|Ò ⟨x,rfl,Ò<|hQ _ ⟨_,ō _ ho<|cC<|μ hd _,(Obj.cls_mapFields ..).trans hc,?_⟩<|Ε ..⟩);rw[μ hd];simp[aR]
def K4{t:È}(hh:A.handled=d8)(bH:s.heap.IsTupleIter it t i)(ht:s.heap.IsTuple t items)(hx:items[i]?=d8)
  (hE:∀h' e,Heap.ExtBut it s.heap h'->(∃o,h'.get? e=d7 o/\o.cls=.type "StopIteration")->E (.ref e) {s with heap:=h'}):wpAny (à prog w) A (Builtin.SmallTypes.nextOf<|.ref it) Q E s:=by
 obtain⟨o,ho,hc,hd⟩:=id bH;obtain⟨ot,hot,_,nt,hdt⟩:=ht;unfold Builtin.SmallTypes.nextOf;refine Ã<|Ĝ (name:=gh "__next__") bH.typeIs F.slot_tuple_iterator_next<|ī F.slot_tuple_iterator_next bH.typeIs F.entry_tuple_iterator_next ?_<|F.args_tuple_iterator_next_1 _;show wpAny _ _ (dm (.ref it) 0 >>= _) _ _ s;refine Ã<|ħ ho hd (x:=.ref t) rfl ?_;show wpAny _ _ (if(Value.ref t==Value.none)=d9 then _ else _) _ _ s;rw[f8<|show ¬ ((Value.ref t==Value.none)=d9) from ø];show wpAny _ _ (dm (.ref it) 1 >>= _) _ _ s;refine Ã<|ħ ho hd (x:=.int i 0) rfl ?_;show wpAny _ _ (ϊ (.ref t) >>= _) _ _ s;refine Ã<|ŝ hot hdt ?_;simp only[ã,hx];refine Ã (bV<|Ã<|Ϩ ho hd (by simp) ?_);show wpAny _ _ (newExc (.type "StopIteration") [] >>= _) _ _ _;refine Ã ?_;simp only[newExc,newTuple];refine Ã (Đ (Ã (m:=ϩ _ _)<|Ϫ (a:=Value.none) (by first|rfl|(simp only[ϩ];rfl))<|Đ ?_<|by size_fits)<|by size_fits);simp only[raiseNew];refine Ã<|wpAny_handled ?_
 first
 |rw[show A.in1.handled=d8 from hh]
 |rw[hh]
 exact Ã<|Ò<|wpAny_throw<|hE _ _ (((Ε ..).extBut.push _).push _) ⟨_,Ö _ rfl,rfl⟩
end
variable {prog:ê} {w:ý} {A:č}
def Lb(hh:A.handled=d8)(it t:È)(š:t≠it)(items:Array Â) :
  Draws prog w A it [it,t] items.size (λi v=>items[i]?=d7 v) (λi h=>h.IsTupleIter it t i/\h.IsTuple t items) where
 live:=λ_ _ st=>let ⟨o,ho,_⟩:=st.1;⟨o,ho⟩
 frame:=λ_ _ _ st hk=>⟨st.1.at λo e=>hk it (by simp) o e,st.2.at λo e=>hk t (by simp) o e⟩
 item:=λi s Q E hi st hQ=>Og st.1 st.2 (x:=items[i]) (by simp[hi]) λh' hit' hs'=>hQ _ h' s.toks (by simp[hi]) ⟨hit',st.2.extBut hs'.extBut š⟩ hs'
 done:=λs Q E st hE=>K4 hh st.1 st.2 (by simp) hE
open AutoSeq1 (wpAny_loadPart') in
def Lx(l:È)(items:Array Â)(n:Nat)(dct:Option È)(sl:Array<|Option Â) :
  Meets (Builtin.«enumerate.__new__» ⟨[.type "enumerate",.ref l],[]⟩) (λ_ R s=>s.heap.get? l=d7 { cls:=.type "tuple",dict:=dct,data:=.seq items n,slots:=sl }/\
    R (.ok<|.ret<|.ref (s.heap.push {cls:=.type "tuple_iterator",data:=.fields #[.ref l,.int 0 0]}).objs.size)
      { s with heap:=(s.heap.push { cls:=.type "tuple_iterator",data:=.fields #[.ref l,.int 0 0] }).push { cls:=.type "enumerate",data:=.fields #[.none,.bool ee,.ref s.heap.objs.size,aR 0,.none,.none] } }) :=
 .of_wp λprog w A R s h=>by
  obtain⟨hp,g,d,tk,os⟩:=s;obtain⟨hl,h⟩:=h;have hsub:=sub_enumerate;have hL:Heap.IsTuple (Shared.heap ⟨hp,g,d,tk,os⟩) l items:=⟨_,hl,rfl,n,rfl⟩
  wp_walk using ę hl
  refine wpAny_stack_any λst=>Ò ?_;split
  .rename_i c _ _ _ _ _;cases (c==Value.type "enumerate")<;>(wp_walk using ę hl,Ő hL;exact⟨_,rfl,h⟩)
  .wp_walk using ę hl,Ő hL;exact⟨_,rfl,h⟩
def OF{E:Â->Å->Prop}{s:Å}{l:È}{items:Array Â}{Q:Â->Å->Prop}(hL:s.heap.IsTuple l items)
  (h:∀h',IsEnum h' (s.heap.objs.size+1) s.heap.objs.size 0 .none->h'.IsTupleIter s.heap.objs.size l 0->(∀b o,s.heap.get? b=d7 o->h'.get? b=d7 o)->Q (.ref<|s.heap.objs.size+1) {s with heap:=h'}) :
  wpAny (à prog w) A (call (.type "enumerate") [.ref l]) Q E s:=by
 obtain⟨⟨c,dct,dt,sl⟩,hl,hc,n,hd⟩:=hL;simp only at hc hd;subst hc hd;refine callType_new F.called_enumerate (by decide) (F.typeCall_enumerate_1 _) (F.newCall_enumerate_1 _) (λobj=>F.args_object_init_2 obj _) F.entry_enumerate_new (Lx l items n dct sl) ⟨hl,?_⟩;have hz:(s.heap.push {cls:=.type "tuple_iterator",data:=.fields #[.ref l,.int 0 0]}).objs.size=s.heap.objs.size+1:=ń ..;have hg:=Ö (s.heap.push {cls:=.type "tuple_iterator",data:=.fields #[.ref l,.int 0 0]}) (o:={cls:=.type "enumerate",data:=.fields #[.none,.bool ee,.ref s.heap.objs.size,aR 0,.none,.none]}) rfl;rw[hz]at hg;show _/\_;rw[hz];exact⟨⟨_,hg,rfl⟩,h _ hg ⟨_,Ä _<|Ö _ rfl,rfl,rfl⟩ λb o x=>Ä _<|Ä _ x⟩
section
variable {X:Cx}{Á:List (È×Obj)}{σ:St}{H:Hp}{s:Å}{h':ü}
def Inv.turnedL{t':Nat}{ch:List È}(I:Inv X Á σ H s)(k:∀b o,b∉ch->s.heap.get? b=d7 o->h'.get? b=d7 o)(hc:∀b∈ch,WJ X Á H b):Inv X Á σ H {s with heap:=h',toks:=t'}:=by
 have nit:∀b u,H b=d7 u->b∉ch:=λb u e z=>by rw[(hc b z).1]at e;cases e
 refine I.step (g':=s.gens) (d':=s.drawn) (ch:=ch) (λb hb=>?_) (λb o _ _ hcb e _=>k b o hcb e) (λb o _ _ hcb e _=>⟨o.slots,k b o hcb e⟩) (λ_ _ _ _ n=>n)
  (λb o hcb e=>⟨o,k b o hcb e⟩) (λ_ _ e=>e) (λ_ _ _ e=>e) (λb ps e=>⟨#[],by rw[e];simp⟩) (λm hm=>?_) (λb u e=>?_) I.bare
 .obtain⟨_,q2,_,q4,q5,q6⟩:=hc b hb;exact⟨q4,q2,q5,q6⟩
 .obtain⟨o,es,ep,ho,r⟩:=hm;exact⟨o,es,ep,k _ o (λz=>(hc _ z).2.1 rfl) ho,r⟩
 .refine(I.hok b u e).stay (λc v hcc q=>k c v ?_ q) (λ_ q=>q) λ_ _ q=>q;rcases hcc with z|z
  .rw[z];exact nit b u e
  .exact nit c _ z
def Inv.track{T:È}{o:HO}(I:Inv X Á σ H s)(hT:H T=d8)(h0:X.s₀.heap.objs.size<=T)(hL:T≠X.env.locals)(a9:∀x c,X.env.cells.lookup x=d7 c->c≠T)(hp:∀p∈X.pn++Á,p.1≠T)
  (new:eN X.prog X.w (upd H T o) s.heap T o):Inv X Á σ (upd H T o) s:=by
 have neT:∀b ob,X.s₀.heap.get? b=d7 ob->b≠T:=λb ob e=>ç<|è (Ô e) h0;refine⟨I.ok,I.os,I.bare,⟨I.base.keep,I.base.slot,λb ob e n hx=>?_,I.base.there,λb xs e=>?_,λb ob xs e=>?_,λb ps e=>?_⟩,I.loc,I.cell,?_,λx c e=>?_,λp hpp=>?_,I.hok.track hT new,I.len⟩
 .rw[ei<|neT b ob e];exact I.base.free b ob e n hx
 .have q:=I.base.tups b xs e;rw[ei<|Zh q hT];exact q
 .have q:=I.base.frzs b ob xs e;rw[ei<|Zh q hT];exact q
 .obtain⟨m,q⟩:=I.base.tbls b ps e;exact⟨m,by rw[ei<|Zh q hT];exact q⟩
 .rw[ei hL.symm];exact I.free
 .rw[ei<|a9 x c e];exact I.freeC x c e
 .obtain⟨a,b,c,d,e⟩:=I.pin p hpp;exact⟨a,by rw[ei<|hp p hpp];exact b,c,d,e⟩
end
abbrev Ite(K:Frag)(a:È):It :=
 ⟨λi H=>∃xs x,fQ K H a xs/\xs[i]?=d7 x,λi H v H'=>∃p,v=.ref p/\H p=d8/\∀xs x,fQ K H a xs->xs[i]?=d7 x->H'=upd H p (.tup [.int i,x]),λi H=>∃xs,fQ K H a xs/\xs.length<=i⟩
variable {es:List Expr} {kk:Nat} {tp:Pos}
def Ow{P:ê}{K:Frag}(a it e:È)(š:e≠it) :
  Turn P w K (.Tuple es kk tp) (Ite K a) [e,it] e (λi h=>(∃Β,IsEnum h e it i Β)/\h.IsTupleIter it a i) where
 mem:=by simp
 obj:=λi h st b hb=>by
  obtain⟨⟨Β,h1⟩,o2,e2,_,d2⟩:=st;rcases Æ.mp hb with q|q
  .subst q;exact⟨_,h1,λv z=>by cases z⟩
  .have q:b=it:=by simpa using q
   subst q;exact⟨o2,e2,λv z=>by rw[d2]at z;cases z⟩
 keep:=λi h h' st k=>⟨let ⟨Β,h1⟩:=st.1;⟨Β,k e (by simp) _ h1⟩,st.2.at λo q=>k it (by simp) o q⟩
 item:=by
  intro X hP hw hK hc i Á s σ H E I hf st hg;subst hP hw hK;obtain⟨xs,x,hq,hx⟩:=hg;obtain⟨ì,rv,pl,hz⟩:=I.tuple hq;obtain⟨u,hu,ru⟩:=rv.get hx;have hsz:=rv.length;have hi:i<ì.toArray.size:=by rw[Ë];exact(Ï.mp hu).1
  obtain⟨⟨Β,h1⟩,h2⟩:=st;have hfi:=hf it (by simp);have hai:a≠it:=λz=>by obtain⟨o,ho,a9,_⟩:=h2;obtain⟨o',ae,hcl',_⟩:=pl;rw[z,ho]at ae;cases ae;rw[a9]at hcl';exact gf (ϯ hcl') (by decide)
  have hae:e∉[it,a]:=λz=>by
   rcases Æ.mp z with z|z
   .exact š z
   .have z:e=a:=by simpa using z
    obtain⟨o',ae,hcl',_⟩:=pl;rw[<-z,h1]at ae;cases ae;exact gf (ϯ hcl') (by decide)
  refine wpAny_pyNext_enum_itemD (Lb (A:=X.A.in1) (I.ok.hd hc) it a hai ì.toArray) h1 ⟨h2,pl⟩ hi š hae λv h3 tk hv hout hst3 hT _ hk=>?_;have ev:v=u:=by
   have hv:ì[i]?=d7 v:=by simpa using hv
   rw[hu]at hv;exact(í hv).symm
  subst ev;have nT:∀b∈[e,it],s.heap.objs.size≠b:=λb hb z=>by
   rcases Æ.mp hb with q|q
   .exact gf (Ô h1) (by rw[<-q,<-z];exact ĝ _)
   .have q:b=it:=by simpa using q
    obtain⟨o,ho,_⟩:=h2;exact gf (Ô ho) (by rw[<-q,<-z];exact ĝ _)
  have bz:=I.fpOk (H':=H) (Í s.heap.objs.size) I.fresh;refine⟨.ref s.heap.objs.size,rfl,wpAny_letOwnedTupleGo_enum hout λh4 he4 hs4=>?_⟩;have I4:Inv X Á σ H {s with heap:=h4,toks:=tk+1}:=I.turnedL (t':=tk+1) (ch:=[e,it]) (λb o hb q=>hs4.extBut b o (λz=>hb<|by simp[z])<|hk b o (λz=>hb<|by simp[z]) (λz=>hb<|by simp[z]) q) hf;have hT4:h4.get? s.heap.objs.size=d7 {cls:=.type "tuple",data:=.seq #[.int i tk,v]}:=hs4.extBut _ _ (nT e<|by simp) hT;obtain⟨f0,f1,f2,f3,f4,f5⟩:=bz;have I5:Inv X Á σ (upd H s.heap.objs.size<|.tup [.int i,x]) {s with heap:=h4,toks:=tk+1}:=I4.track f0 I.sz f1 f4 f5 ⟨by show 2<=Ú;decide,[.int i tk,v],.cons ⟨tk,rfl⟩<|.cons ru .nil,_,hT4,rfl,_,rfl⟩;refine⟨.ref s.heap.objs.size,_,I5,rfl,⟨s.heap.objs.size,rfl,f0,λys y hy hyi=>?_⟩,⟨⟨v,by simpa using he4⟩,hst3.1.at λo q=>hs4.extBut it o (Ne.symm š) q⟩,λb hb=>?_⟩
  .have ey:ys=xs:=I.tuple_inj hy hq;rw[ey,hx]at hyi;rw[í hyi]
  .rw[ei (nT b hb).symm];exact(hf b hb).1
 done:=by
  intro X hP hw hK hc i Á s σ H E I hf st hg;subst hP hw hK;obtain⟨xs,hq,hx⟩:=hg;obtain⟨ì,rv,pl,hz⟩:=I.tuple hq;have hl:=rv.length;obtain⟨⟨Β,h1⟩,h2⟩:=st;have hai:a≠it:=λz=>by obtain⟨o,ho,a9,_⟩:=h2;obtain⟨o',ae,hcl',_⟩:=pl;rw[z,ho]at ae;cases ae;rw[a9]at hcl';exact gf (ϯ hcl') (by decide)
  have hT:s.TypeIs (.ref e) "enumerate":=⟨_,h1,rfl⟩
  unfold Ο;refine Ã<|cS<|Ĝ (name:=gh "__next__") hT F.slot_enumerate_next<|ī F.slot_enumerate_next hT F.entry_enumerate_next ?_<|F.args_enumerate_next_1 _;show wpAny _ _ (dm (.ref e) 2 >>= _) _ _ _;refine Ã<|ħ h1 rfl (x:=.ref it) rfl ?_;refine Ã (K4 (A:=X.A.in1) (I.ok.hd hc) h2 pl (by simp;lia) λh' x he' hx'=>?_);obtain⟨o,ho,a9⟩:=hx';refine Ã<|wpAny_isInstance (T:="StopIteration") (b:=d9) ⟨o,ho,a9⟩ isSubtype_stop<|Ò ⟨rfl,?_⟩;exact I.turnedL (t':=s.toks) (ch:=[it]) (λb ob hb q=>he' b ob (λz=>hb<|by simp[z]) q) λb hb=>hf b<|Û _ hb
 self:=λA i s Q E st h=>by obtain⟨⟨Β,h1⟩,_⟩:=st;exact wpAny_pyIter_enum h1 h
section
variable {X:Cx}
abbrev PK(K:Frag)(ta:TA):TI:=λσ H R=>ta σ H λvs H1=>∃a,vs=[.ref a]/\(∃xs,fQ K H1 a xs)/\R (Ite K a) H1
def Dw{p æ:Pos}{e:Expr}{ta:TA}(hg:Gl X "enumerate")(hm:X.mg "enumerate" = d8)(ha:PA X [e] ta)(hs:Ì [e] X.env=[(ee,eval e X.env)]:=by rfl) :
  PI X (.Tuple es kk tp) (.Call (.Name "enumerate" p) [e] [] æ) (PK X.K ta):=by
 intro Á s σ H R I h;refine Call_ (XY (u:=.type "enumerate") I hg hm (by kernel_rfl)<|PyProof.Rows.callWith_type1 (T:="enumerate") (thn (ha æ Á s σ H _ I h) λus s1 ⟨vs,H1,I1,r1,q1⟩=>?_) hs rfl);obtain⟨a,e1,⟨xs,hq⟩,q⟩:=q1;subst e1;obtain⟨u,rfl,ru⟩:=ZU r1;cases ru;obtain⟨ì,rv,pl,hz⟩:=I1.tuple hq;refine OF pl λh2 he2 hi2 hk2=>?_;have I2:Inv X Á σ H1 {s1 with heap:=h2}:=I1.kept (t':=s1.toks) hk2;refine wpAny_pyIter_enum he2 ⟨s1.heap.objs.size+1,[s1.heap.objs.size+1,s1.heap.objs.size],_,_,H1,rfl,I2,Ow a s1.heap.objs.size (s1.heap.objs.size+1)<|Ŋ<|Ā _,⟨⟨_,he2⟩,hi2⟩,λb hb=>?_,q⟩;have cH:s1.heap.objs.size<=b:=by
  rcases Æ.mp hb with z|z
  .rw[z];exact Ų _
  .have z:b=s1.heap.objs.size:=by simpa using z
   rw[z];exact Í _
 exact I1.fpOk cH<|I1.hok.fresh cH
end
end L2
namespace L2
open PySem PySem.Spec PyProof.Rows
open PySem.Builtin PySem.Builtin.Str
noncomputable abbrev TJ:=St->Hp->Str->(Str->Hp->Prop)->Prop
abbrev PJ(X:Cx)(vs:List Expr)(t:TJ):Prop :=
 ∀(Á:List<|È×Obj) (s:Å) (σ:St) (H:Hp) (Ĭ:Str) (Q:Str->Hp->Prop),Inv X Á σ H s->t σ H Ĭ Q->
  Joins (à X.prog X.w) X.A X.xe (bW vs X.env) Ĭ (λout s1=>∃H1,Inv X Á σ H1 s1/\out.length<=Ú/\Q out H1) s
abbrev RP:TJ:=λ_ H Ĭ Q=>Ĭ.length<=Ú/\Q Ĭ H
abbrev Q0(te:TE)(tr:TJ):TJ:=λσ H Ĭ Q=>te σ H λx H1=>∃y,x=.str y/\(Ĭ++y).length<=Ú/\tr σ H1 (Ĭ++y) Q
section
variable {X:Cx}{e:Expr}{es:List Expr}{te:TE}{tr:TJ}{æ:Pos}
def pj_nil:PJ X [] RP:=λÁ s σ H Ĭ Q I h=>⟨H,I,h.1,h.2⟩
def Fj(he:PE X e te)(hr:PJ X es tr)(hs:bW (e::es) X.env=eval e X.env::bW es X.env:=by rfl):PJ X (e::es)<|Q0 te tr:=by intro Á s σ H Ĭ Q I h;rw[hs];show wpAny _ _ _ _ _ _;refine thn (he Á s σ H _ I h) λv s1 ⟨x,H1,I1,r1,y,e1,hz,q1⟩=>?_;subst e1;obtain⟨t,rfl⟩:=r1;exact⟨y,t,rfl,hz,hr Á s1 σ H1 (Ĭ++y) Q I1 q1⟩
def Joins.imp{M:df}{A:č}{E:Â->Å->Prop}:∀{ps:List (Sem Â)}{Ĭ:Str}{Q Q':Str->Å->Prop}{s:Å},(∀o s,Q o s->Q' o s)->Joins M A E ps Ĭ Q s->Joins M A E ps Ĭ Q' s
 |[],_,_,_,_,f,h=>f _ _ h
 |_::_,_,_,_,_,f,h=>thn h λv s1 ⟨y,t,e,hz,hr⟩=>⟨y,t,e,hz,Joins.imp f hr⟩
end
abbrev WR(x:Str):List Nat:=x.cps.toList
abbrev dg(n:Int):Str:=gh<|toString n
abbrev A5(m:Nat):List Nat:=(Nat.toDigits 10 m).map Ŗ
def Dl(m:Nat):WR (dg (m:Int))=A5 m:=PySem.W.KIN.signs_num m
abbrev Hj(m:Nat):Bool:=gg (1<=(A5 m).length)&&gg ((A5 m).length<=4)&&(A5 m).all (λc=>gg (48<=c)&&gg (c<=57))&&(if m=0 then A5 m==[48]else(A5 m).head? != d7 48)
def GT:(List.range 1001).all Hj=d9:=by decide +kernel
structure FigOk(n:Int):Prop where
 one:1<=(WR<|dg n).length
 four:(WR<|dg n).length<=4
 fig:∀c∈WR (dg n),48<=c/\c<=57
 nought:n=0->WR (dg n)=[48]
 first:n≠0->(WR<|dg n).head?≠d7 48
def PH{n:Int}(h0:0<=n)(h1:n<=1000):FigOk n:=by
 obtain⟨m,rfl⟩:∃m:Nat,n=(m:Int):=⟨n.toNat,by lia⟩
 have h:=ó.mp GT m (ť.mpr<|by lia);unfold Hj at h;simp only[bAq,gc]at h;obtain⟨⟨⟨a,b⟩,c⟩,d⟩:=h;rw[<-Dl]at a b c d;refine⟨a,b,λk hk=>?_,λe=>?_,λe=>?_⟩
 .have:=ó.mp c k hk;simpa using this
 .have e:m=0:=by lia
  rw[fZ e]at d;simpa using d
 .have e:¬ m=0:=by lia
  rw[f8 e]at d;simpa using d
abbrev wT:Str:="tie"
abbrev nl:Str:="\n"
abbrev fl(ls:List Str):List Nat:=(ls.map λl=>WR l++[10]).flatten
structure eY(bs:List Int)(ts:List Tie):Prop where
 br:BrOk bs
 ti:TsOk bs ts
 so:sortI bs=bs
 lo:ts.map loT=ts
variable {n:Int}
def BrOk.fig{bs:List Int}(h:BrOk bs)(hn:n∈bs):FigOk n:=PH (h.rng n hn).1 (by have:=(h.rng n hn).2;lia)
def FigOk.no(h:FigOk n){c:Nat}(hc:c<48):c∉WR (dg n):=λm=>by have:=(h.fig c m).1;lia
end L2
namespace L2
open PySem PySem.Spec PyProof.Rows
variable {P:ê} {w:ý} {H:Hp} {h:ü} {a:È}
def eN.obj{o:HO}(x:eN P w H h a o):∃u,h.get? a=d7 u:=by
 cases o with
 |lst xs=>obtain⟨_,_,_,_,e⟩:=x;exact⟨_,e⟩
 |tup xs=>obtain⟨_,_,_,ob,e,_⟩:=x;exact⟨_,e⟩
 |dK kvs=>obtain⟨_,_,_,_,o,_,_,e,_⟩:=x;exact⟨_,e⟩
 |dT kvs=>obtain⟨_,_,_,_,o,_,_,e,_⟩:=x;exact⟨_,e⟩
 |set S n=>obtain⟨o,_,_,_,e,_⟩:=x;exact⟨_,e⟩
 |ins C dx fs=>obtain⟨_,_,_,e,_⟩:=x;exact⟨_,e⟩
 |own y=>exact x
 |xd fs=>obtain⟨_,⟨_,_,_,e,_⟩,_⟩:=x;exact⟨_,e⟩
 |rng lo hi=>obtain⟨_,_,_,e⟩:=x;exact⟨_,e⟩
 |frz ob u=>exact⟨_,x.1⟩
 |tbl ps=>exact⟨_,(show h.get? a=d7 _ from x)⟩
 |met f y=>exact⟨_,(show h.get? a=d7 _ from x)⟩
 |ext φ=>exact x.2.1
def HOk.none_of(x:HOk P w H h)(e:h.get? a=d8):H a=d8:=by
 cases q:H a with
 |none=>rfl
 |some u =>obtain⟨ob,z⟩:=(x a u q).obj;rw[e]at z;cases z
abbrev NV(h:ü)(a:È)(cls:Â)(T:Option È):Prop :=
 ∃oe vs a0,h.get? a=d7 oe/\oe.cls=cls/\oe.data=.fields vs/\vs[0]?=d7 a0/\
  match T with
  |none=>vs[1]?=d7 .none
  |some T=>vs[1]?=d7 (.ref T)/\T≠a/\∃oT ts fl,h.get? T=d7 oT/\oT.data=.fields ts/\ts[3]?=d7 fl
structure Fl(P:ê)(w:ý)(l:List Env)(H:Hp)(s:Å)(H':Hp)(a:È)(cls:Â)(s':Å):Prop where
 os:s'.os=s.os
 bare:Θ s'.gens
 un:Un (frs l) [] H H' s.heap s'.heap
 hok:HOk P w H' s'.heap
 na:s.heap.get? a=d8
 ha:H' a=d8
 ex:∃T,NV s'.heap a cls T/\∀t,T=d7 t->s.heap.get? t=d8/\H' t=d8
abbrev CX1(P:ê)(w:ý):CXT:=λl H s E e s'=>∃a cls H',e=.ref a/\Fl P w l H s H' a cls s'/\E cls d8 H'
abbrev XW(X:Cx)(E:XK):Prop:=∀(Á:List<|È×Obj) (σ:St) (H:Hp) (s:Å) (H':Hp) (a:È) (cls:Â) (s':Å),
 Inv X Á σ H s->Fl X.prog X.w X.stack H s H' a cls s'->E cls d8 H'->X.xe (.ref a) s'
def XW.passes{X:Cx}{E:XK}(h:XW X E):Xx (CX1 X.prog X.w) X E:=λÁ σ H s e s' I ⟨a,cls,H',z,f,q⟩=>by subst z;exact h Á σ H s H' a cls s' I f q
section
variable {M:df}{A:č}{E:Â->Å->Prop}{s:Å}{B:ü}{env:Env}{outer:List Env}{L a:È}{cls:Â}{T:Option È}{Q:Unit->Å->Prop}
abbrev Xc(h:ü)(l:List Env)(a:È)(T:Option È):ü:=PySem.W.hideAll h<|a::(T.toList++frs l)
def Yw(h:ü)(l:List Env)(a:È)(T:Option È):(Xc h l a T).StaysIn h:=λb o e=>PySem.W.of_hideAll _ e
def Wg{l:List Env}(a:È)(T:Option È)(hl:h.FunFrames B l):h.FunFrames (Xc h l a T) l :=
 PySem.W.funFrames_hide hl λe he b hb=>Û _<|É _<|ſ.mpr ⟨e,he,hb⟩
def Uu(h:ü)(l:List Env)(a:È)(T:Option È):(Xc h l a T).get? a=d8:=PySem.W.hideAll_none _ î
def Mq(h:ü)(l:List Env)(a t:È):(Xc h l a<|d7 t).get? t=d8:=PySem.W.hideAll_none _ (Û _<|Ù _<|by simp)
def AT(bz:A.frames=d7 (env::outer))(hf:env.frame=d7 L)(hl:s.heap.FunFrames B<|env::outer)(hx:NV s.heap a cls T)
  (fin:∀h' a0,Heap.NotedW (Xc s.heap (env::outer) a T) (env::outer) a cls a0 (aR L) s.heap h'->Q () {s with heap:=h'}):wpAny M A (aU (.ref a) env) Q E s:=by
 obtain⟨oe,vs,a0,he,hc,hd,h0,ht⟩:=hx;have fin:=λh'=>fin h' a0;cases T with
 |none =>subst hc;unfold aU;simp only[hf];refine Ã<|ħ he hd ht ?_;rw[f8<|by decide];exact wpAny_entryW bz (Wg a d8 hl) hf he (Yw _ _ _ _) (Uu _ _ _ _) hd (ż.mp ht).1 h0 fin
 |some t =>
  obtain⟨h1,š,oT,ts,fl,e1,e2,e3⟩:=ht;by_cases c:fl=aR L
  .subst c;have tr:s.heap.TracedAtW (Xc s.heap (env::outer) a<|d7 t) a cls a0<|aR L:=⟨oe,vs,t,oT,ts,he,⟨hc,h0⟩,hd,h1,Mq _ _ _ _,š,e1,e2,e3⟩
   exact wpAny_noteFrame_againW hf tr<|fin _ ⟨Yw _ _ _ _,Wg a (d7 t) hl,tr,λb o e nf=>⟨o.slots,e⟩⟩
  .subst hc;unfold aU;simp only[hf];refine Ã<|ħ he hd h1 ?_;rw[fZ<|by simp];refine Ã<|ħ e1 e2 e3 ?_;rw[f8<|by simpa using c];refine Ã<|Ϩ e1 e2 (ż.mp e3).1 ?_;have off:∀b,b≠t->(s.heap.update t (Obj.mapFields (·.setIfInBounds 3 Value.none))).get? b=s.heap.get? b:=λb hb=>ā _ _ hb.symm;have nr:∀b o,s.heap.get? b=d7 o->(∀vs,o.data≠.fields vs)->b≠t:=λb o hb nf z=>by
    rw[z,e1]at hb;cases hb;exact nf ts e2
   have bn:=Mq s.heap (env::outer) a t;exact wpAny_entryW bz ((Wg a (d7 t) hl).of_keeps λb o hb nf=>⟨o,(off b<|nr b o hb nf).trans hb,rfl⟩) hf ((off a š.symm).trans he) (λb o hbo=>(off b λz=>by rw[z,bn]at hbo;cases hbo).trans<|Yw _ _ _ _ b o hbo) (Uu _ _ _ _) hd (ż.mp h1).1 h0 λh' ⟨x1,x2,x3,x4⟩=>fin h' ⟨x1,x2,x3,λb o hb nf=>x4 b o ((off b<|nr b o hb nf).trans hb) nf⟩
def WF(bz:A.frames=d7 (env::outer))(hf:env.frame=d7 L)(hl:s.heap.FunFrames B<|env::outer)(hx:NV s.heap a cls T)
  (h:∀h' a0,Ϡ (Xc s.heap (env::outer) a T) (env::outer) a cls a0 s.heap h'->Q () {s with heap:=h'}):wpAny M A (aU (.ref a) env) (λ_ s2=>wpAny M A (setFlight (.ref a) d8) Q E s2) E s :=
 AT bz hf hl hx λh' a0 ⟨k1,k2,k3,k4⟩=>wpAny_setFlight_noneW k1 k2 k3 λh2 j1 j2 j3 j4=>h h2 a0 ⟨j1,j2,j3,λb o e nf=>by
   obtain⟨sl,e2⟩:=k4 b o e nf
   exact⟨sl,j4 b _ e2 nf⟩⟩
def On(bz:A.frames=d7 (env::outer))(hf:env.frame=d7 L)(hl:s.heap.FunFrames B<|env::outer)(hx:NV s.heap a cls T)
  (h:∀h' a0,Ϡ (Xc s.heap (env::outer) a T) (env::outer) a cls a0 s.heap h'->Q () {s with heap:=h'}):wpAny M A (leaving env<|.ref a) Q E s:=Ã<|WF bz hf hl hx h
end
variable {l:List Env} {H':Hp} {s:Å} {s':Å} {cls:Â} {a0:Â} {h':ü} {B:ü} {T:Option È}
def Fl.noted{fl:Â}(f:Fl P w l H s H' a cls s')(hT:∀t,T=d7 t->s.heap.get? t=d8/\H' t=d8)
  (hl:s'.heap.FunFrames B l) (bz:∀b∈frs l,H' b=d8) (z:Heap.NotedW (Xc s'.heap l a T) l a cls a0 fl s'.heap h'):Fl P w l H s H' a cls {s' with heap:=h'}:=by
 obtain⟨k1,k2,k3,k4⟩:=z;have inb:∀b o,s'.heap.get? b=d7 o->b≠a->(∀t,T=d7 t->b≠t)->b∉frs l->h'.get? b=d7 o:=λb o e na nt nf=>k1 b o (PySem.W.hideAll_get _ e (by
   intro m
   rcases Æ.mp m with m|m
   . exact na m
   . rcases â.mp m with m|m
     . cases T with
       |none=>cases m
       |some t=>exact nt t rfl (by simpa using m)
     . exact nf m))
 have slot:∀b o,s'.heap.get? b=d7 o->b∈frs l->∃sl,h'.get? b=d7 {o with slots:=sl}:=λb o e hb=>by obtain⟨_,o2,e2,nf⟩:=hl.mem hb;rw[e]at e2;cases e2;exact k4 b o e nf
 have Β:∀b o,s.heap.get? b=d7 o->b≠a/\∀t,T=d7 t->b≠t:=λb o e=>⟨(λz=>by rw[z,f.na]at e;cases e),(λt ht z=>by rw[z,(hT t ht).1]at e;cases e)⟩
 refine⟨f.os,f.bare,⟨λb o e n nf _=>?_,λb o e n hb _=>?_,f.un.free,λb o e _=>?_,f.un.tups,f.un.frzs,f.un.tbls⟩,?_,f.na,f.ha,?_⟩
 .exact inb b o (f.un.keep b o e n nf<|by simp) (Β b o e).1 (Β b o e).2 nf
 .obtain⟨sl,e1⟩:=f.un.slot b o e n hb (by simp);obtain⟨sl',e2⟩:=slot b _ e1 hb;exact⟨sl',e2⟩
 .obtain⟨o1,e1⟩:=f.un.there b o e (by simp);by_cases hb:b∈frs l
  .obtain⟨sl,e2⟩:=slot b _ e1 hb;exact⟨_,e2⟩
  .exact⟨o1,inb b o1 e1 (Β b o e).1 (Β b o e).2 hb⟩
 .intro b u e;have good:∀c v,H' c=d7 v->∀ob,s'.heap.get? c=d7 ob->h'.get? c=d7 ob:=λc v ec ob eo =>
   inb c ob eo (λz=>by rw[z,f.ha]at ec;cases ec) (λt ht z=>by rw[z,(hT t ht).2]at ec;cases ec) λm=>by rw[bz c m]at ec;cases ec
  refine(f.hok b u e).stay (λc v hc q=>?_) (λ_ q=>q) λ_ _ q=>q;rcases hc with z|z
  .rw[z]at q ⊢;exact good b u e v q
  .exact good c _ z v q
 .obtain⟨oe,vs,t',oT,ts,e1,⟨e2,e3⟩,e4,e5,e6,e7,e8,e9,e10⟩:=k3;refine⟨d7 t',⟨oe,vs,a0,e1,e2,e4,e3,e5,e7,oT,ts,fl,e8,e9,e10⟩,λt ht=>?_⟩;cases ht;have hid:∀o,s'.heap.get? t'=d7 o->T=d7 t':=λo e=>by
   have nin:¬ (t'∉(a::(T.toList++frs l))):=λm=>by have q:(Xc s'.heap l a T).get? t'=d7 o:=PySem.W.hideAll_get _ e m;rw[e6]at q;cases q
   have m:=Classical.not_not.mp nin;rcases Æ.mp m with m|m
   .exact gf m e7
   .rcases â.mp m with m|m
    .cases T with
     |none=>cases m
     |some t=>rw[show t'=t by simpa using m]
    .obtain⟨_,o2,q,nf⟩:=k2.mem m;rw[e8]at q;cases q;exact gf e9<|nf ts
  constructor
  .cases q:s.heap.get? t' with
   |none=>rfl
   |some o =>obtain⟨o1,q1⟩:=f.un.there t' o q (by simp);have:=(hT t'<|hid o1 q1).1;rw[q]at this;cases this
  .cases q:H' t' with
   |none=>rfl
   |some u =>obtain⟨o1,q1⟩:=(f.hok t' u q).obj;have:=(hT t'<|hid o1 q1).2;rw[q]at this;cases this
def Fl.left(f:Fl P w l H s H' a cls s')(hT:∀t,T=d7 t->s.heap.get? t=d8/\H' t=d8)
  (hl:s'.heap.FunFrames B l) (bz:∀b∈frs l,H' b=d8) (z:Ϡ (Xc s'.heap l a T) l a cls a0 s'.heap h'):Fl P w l H s H' a cls {s' with heap:=h'}:=f.noted (fl:=.none) hT hl bz z
section
variable {P:ê}{w:ý}{K:Frag}{mg:Str->Option Â}{base:ü}
variable {X:Cx} {H:Hp} {s:Å}
def Inv.raised{Á:List (È×Obj)}{σ:St}{H':Hp}{s':Å}{a:È}{cls:Â}(I:Inv X Á σ H s)(f:Fl X.prog X.w X.stack H s H' a cls s'):Inv X Á σ H' s' :=
 I.call' (ch:=[]) f.os f.un f.hok f.bare (λb z=>gf z<|by simp)
def XU(ok:X.Ok)(h:X.stack=X.env::X.outer):X.env.frame=d7 X.env.locals:=by
 rcases ok.stk with e|e
 .rw[h]at e;exact gf (congrArg List.length e) (by simp)
 .exact e.2
variable {N:List Str} {qual:Str} {f:È}
def HU{scope:ų}{cd:Â}{A:č}{outer:List Env}{E:XK}:XW (KE (CX1 P w) P w K mg base N qual scope f cd A outer s H E) E:=by
 intro Á σ H2 s2 H' a cls s' I f q;have J:=I.raised f;obtain⟨T,hx,hT⟩:=f.ex;show wpAny _ _ (leaving _ _) _ _ _;refine On (outer:=outer) J.ok.frames (XU J.ok rfl) J.stack hx λh' a0 z=>?_;have f2:=f.left hT J.stack J.stkFree z;have J2:=I.raised f2;have Τ:∀b,s2.heap.get? b=d8->s.heap.get? b=d8:=λb e=>by
  cases z:s.heap.get? b with
  |none=>rfl
  |some o =>obtain⟨o',e'⟩:=I.base.there b o z (by intro m;cases m);rw[e]at e';cases e'
 obtain⟨T2,bP,hT2⟩:=f2.ex;exact⟨a,cls,H',rfl,⟨J2.os,J2.bare,J2.base,J2.hok,Τ a f2.na,f2.ha,T2,bP,λt ht=>⟨Τ t (hT2 t ht).1,(hT2 t ht).2⟩⟩,q⟩
def Fun.ok1{x:Str}{st:Ģ}{fd:ĺ}{ps:List Str}{k:Nat}{sp:Sp}(F:Fun K x qual st f fd)(S:FnScope N ps<|Zl st)(len:∀vs H Q E,sp vs H Q E->vs.length=ps.length)
  (bG:∀(Μ:Â) (A:č) (outer:List Env) (s:Å) (H:Hp) (vs:List V) (Q:VK) (E:XK),fh k (A.deeper<|Ϧ qual (Zl st) s.heap.objs.size f Μ)->sp vs H Q E->
    XW (KE (CX1 P w) P w K mg base N qual (Zl st) f Μ A outer s H E) E->
    ∃t,PSs (KE (CX1 P w) P w K mg base N qual (Zl st) f Μ A outer s H E) (ZN st) t/\t { nx:=λ_ H'=>Q .non H',rt:=Q } (start N vs) H):fi P w K mg base (CX1 P w) (k+1) f fd ps sp:=by
 obtain⟨oc,od,kV,doc,pm,an,Μ,ct,osl,rfl,lk,aA⟩:=F.ex;exact G9 lk aA S len λA outer s H vs Q E hr dD=>bG Μ A outer s H vs Q E hr dD HU
abbrev Sy(P:ê)(w:ý)(K:Frag)(mg:Str->Option Â)(base:ü)(k:Nat)(x:Str)(ps:List Str)(sp:Sp):Prop :=
 ∃f fd,fi P w K mg base (CX1 P w) k f fd ps sp/\mg x=d7 (.ref f)/\PySem.W.keepIn K (.ref f)=d9/\Binds K fd ps []
end
section
variable {X:Cx}{x:Str}{p æ np ŀ:Pos}{e:Expr}{es:List Expr}{t:TA}{E:XK}{C:È}{bm:List Â}
abbrev HI(C:È)(t:TA)(E:XK):TS:=λ_ σ H=>t σ H λvs H1=>vs.length<=Ú/\E (.ref C) d8 H1
def De(hw:XW X E)(hc:X.calm=d9)(O:OwnCls x C [.type "ValueError",.type "Exception",.type "BaseException",.type "object"] "ValueError.__new__" X.mg X.base)(hg:Gl X x)(ha:PA X (e::es) t)(ϗ:(x==("__debug__" : Str))=ee:=by decide)
  (he:Ì (e::es) X.env=(ee,eval e X.env)::Ì es X.env:=by rfl) (hpl:(Ċ ŀ<|Ì es X.env).any (·.1)=ee:=by rfl) :
  PS X (.Raise (d7<|.Call (.Name x np) (e::es) [] ŀ) d8 æ) (HI C t E):=by
 intro Á s σ H D I h;obtain⟨tl,N,nm,q,bs,hdct,sn,sub,ab,col,dd,k0,k1,k2,k3,k5,mN,hC,hN,hni,T⟩:=O.obj;refine wpAny_Raise_call_subU (C:=C) (nm:=nm) (q:=q) (N:=N) (bs:=bs) (bm:=tl) (hdct:=hdct) (sn:=sn) (sub:=sub) (ab:=ab) (col:=col) (dd:=dd) (k0:=k0) (k1:=k1) (k2:=k2) (k3:=k3) (k5:=k5) (mN:=mN)
  PySem.F.excBase_ValueError rfl PySem.F.excBase_ValueError (T.hasType PySem.F.excBase_ValueError.hasBase) (I.ok.hd hc) (by rw[he];show(ee||(Ċ ŀ<|Ì es X.env).any (·.1))=ee;rw[hpl];rfl) hni (Yx I hg O.bound ⟨rfl,?_⟩ ϗ)
 have hA:=ha ŀ Á s σ H _ I h;rw[he]at hA ⊢;refine Calls.evalArgs_plain (thn hA λus s2 ⟨vs,H2,I2,r2,q2⟩=>⟨rfl,by rw[<-r2.length];exact q2.1,I2.bk _ _ hC,hN.keeps I2.bk,T.keeps I2.bk,λh' a hm=>?_⟩);obtain⟨tt,ht,_,_⟩:=hm.there;refine hw Á σ H2 s2 H2 a (.ref C) {s2 with heap:=h'} I2 ⟨rfl,I2.bare,Un.kept hm.keeps,I2.hok.kept hm.keeps,hm.new,I2.hok.none_of hm.new,d8,?_,λ_ z=>by cases z⟩ q2.2;exact⟨_,_,.ref tt,ht,rfl,rfl,rfl,rfl⟩
end
abbrev XP(X:Cx)(Á:List<|È×Obj)(σ:St)(E:XK)(v:Â)(s':Å):Prop :=
 ∃a cls H1 H' s1,v=.ref a/\Inv X Á σ H1 s1/\Fl X.prog X.w X.stack H1 s1 H' a cls s'/\E cls d8 H'
abbrev PCx(X:Cx)(e:Expr)(t:St->Hp->VK->XK->Prop):Prop :=
 ∀(Á:List<|È×Obj) (s:Å) (σ:St) (H:Hp) (Q:VK) (E:XK),Inv X Á σ H s->t σ H Q E->wpAny (à X.prog X.w) X.A (eval e X.env) (EP X Á σ Q) (XP X Á σ E) s
abbrev PB(X:Cx)(body:List Ģ)(t:Ends->XK->St->Hp->Prop):Prop :=
 ∀(Á:List<|È×Obj) (s:Å) (σ:St) (H:Hp) (D:Ends) (E:XK),Inv X Á σ H s->t D E σ H->wpAny (à X.prog X.w) X.A (execs body X.env) (SP X Á D) (XP X Á σ E) s
section
variable {X:Cx}{x:Str}{p æ:Pos}{e c:Expr}{es:List Expr}{t:TA}
abbrev tC1(sp:Sp)(t:TA):St->Hp->VK->XK->Prop:=λσ H Q E=>t σ H λvs H1=>sp vs H1 Q E
variable {ps:List Str} {sp:Sp}
def Fz{k k':Nat}(D:Sy X.prog X.w X.K X.mg X.base k x ps sp)(hr:fh k' X.A)(hk:k<=k')(hg:Gl X x)(ha:PA X.nox (e::es) t)(ϗ:(x==("__debug__" : Str))=ee:=by decide)
  (he:Ì (e::es) X.env=(ee,eval e X.env)::Ì es X.env:=by rfl) (hpl:(Ċ æ<|Ì es X.env).any (·.1)=ee:=by rfl):PCx X (.Call (.Name x p) (e::es) [] æ)<|tC1 sp t:=by
 obtain⟨f,fd,F,hm,hkp,hb⟩:=D;intro Á s σ H Q E I h;refine Ļ<|Yx I hg hm ?_ ϗ;refine PySem.W.callWith_K (h₀:=X.base) I.ok.mod.kin hkp (ċ (ha æ Á s σ H _ (I.wish _) h) (λus s1 ⟨vs,H1,I1,r,q⟩=>⟨I1.unwish.kIn,?_⟩) λ_ _ z=>ù z) he hpl;have I2:=I1.unwish;have hl:(us++[]).length=ps.length:=by rw[ð,<-r.length];exact F.len _ _ _ _ q
 have hbd:=hb s1 us I2.kIn hl;rw[ð]at hbd;refine bS<|χ (F.run X.A X.stack s1 H1 ⟨us,[]⟩ us vs Q E (hr.mono hk) I2.env0 hbd r q) λr s' hq=>?_;cases r with
 |error e =>obtain⟨a,cls,H',z,f,q'⟩:=hq;exact⟨a,cls,H1,H',s1,z,I2,f,q'⟩
 |ok fl =>
  cases fl with
  |ret u=>exact I2.after hq
  |next=>exact ù hq
  |brk=>exact ù hq
  |cont=>exact ù hq
abbrev tCm(C:È)(m:Str)(sp:Sp)(ta:TE)(t:TA):St->Hp->VK->XK->Prop:=λσ H Q E=>ta σ H λx H1=>∃a dx fs,x=.ref a/\H1 a=d7 (.ins C dx fs)/\fs.lookup m=d8/\t σ H1 λvs H2=>sp (x::vs) H2 Q E
def CL{k:Nat}{C f:È}{m:Str}{Ĳ:Pos}{o:Expr}{ta:TE}{fd:ĺ}{pl:Sem Bool}(he:PE X.nox o ta)(c:Cls X.K C)(hm:Meth X.K C m f)(F:fi X.prog X.w X.K X.mg X.base (CX1 X.prog X.w) k f fd ps sp)(hr:fh k X.A)(hb:Binds X.K fd ps [])(ha:PA X.nox (e::es) t)
  (ņ:Ì (e::es) X.env=(ee,eval e X.env)::Ì es X.env) (hpl:(Ċ æ<|Ì es X.env).any (·.1)=ee)
  (ht:eval (.Call (.Attribute o m Ĳ) (e::es) [] æ) X.env=(do
    let ov<-eval o X.env
    Ÿ Ĳ.atName
    let (f,first)<-Ł [ov] (Ŷ ov m pl)
    ϥ æ f first (Ċ æ<|Ì (e::es) X.env) (Ŝ æ<|ĭ [] X.env))):PCx X (.Call (.Attribute o m Ĳ) (e::es) [] æ)<|tCm C m sp ta t:=by
 intro Á s σ H Q E I h;refine PySem.W.methodCall_KW (pl:=pl) (ċ (he Á s σ H _ (I.wish _) h) (λu s1 ⟨x,H1,I1,rx,a,dx,fs,ex,ea,l,q⟩=>?_) λ_ _ z=>ù z) ht;subst ex;obtain rfl:u=Value.ref a:=rx;refine X4 I1.unwish ea c hm l ?_;refine PySem.W.callWith_K (first:=[.ref a]) (h₀:=X.base) I.ok.mod.kin hm.kp (ċ (ha æ Á s1 σ H1 _ I1 q) (λus s2 ⟨vs,H2,I2,r,q2⟩=>⟨I2.unwish.kIn,?_⟩) λ_ _ z=>ù z) ņ hpl;have I3:=I2.unwish;have rr:fR (.ref a::vs)<|.ref a::us:=.cons rfl r;have hl:((Value.ref a::us)++[]).length=ps.length:=by rw[ð,<-rr.length];exact F.len _ _ _ _ q2
 have hbd:=hb s2 (.ref a::us) I3.kIn hl;rw[ð]at hbd;refine bS<|χ (F.run X.A X.stack s2 H2 ⟨.ref a::us,[]⟩ (.ref a::us) (.ref a::vs) Q E hr I3.env0 hbd rr q2) λr s' hq=>?_;cases r with
 |error e =>obtain⟨a,cls,H',z,f,q'⟩:=hq;exact⟨a,cls,H2,H',s2,z,I3,f,q'⟩
 |ok fl =>
  cases fl with
  |ret u=>exact I3.after hq
  |next=>exact ù hq
  |brk=>exact ù hq
  |cont=>exact ù hq
variable {tc:St->Hp->VK->XK->Prop}
def U0(hc:PCx X c tc)(hs:Ŕ c d8 æ.line X.env=pure ee:=by rfl):PB X [.Expr c æ] λD E σ H=>tc σ H (λ_ H'=>D.nx σ H') E:=by intro Á s σ H D E I h;refine aQ<|wpAny_Expr_any (thn (hc Á s σ H _ E I h) λv s1 ⟨x,H1,I1,r1,q1⟩=>?_) I.quiet hs;exact Œ ⟨σ,H1,I1,q1⟩
def El{i:Nat}{Ϲ:Pos}(hN:X.N.Nodup)(hi:X.N[i]?=d7 x)(hx:Loc X.env.scope x)(hc:PCx X c tc)(hs:Ŕ c (d7<|.Name x Ϲ) æ.line X.env=pure ee:=by rfl)
  (hf:X.fn x=d9\/X.env.scope.names.lookup x=d7 .local:=by first|exact .inl rfl|exact .inr rfl|assumption):PB X [.Assign [.Name x Ϲ] c æ] λD E σ H=>tc σ H (λv H'=>D.nx (σ.set i<|d7 v) H') E:=by
 intro Á s σ H D E I h;refine aQ<|wpAny_Assign_Name (thn (hc Á s σ H _ E I h) λv s1 ⟨y,H1,I1,r1,q1⟩=>?_) hs;exact JY I1 hN hi hx r1 (λs2 I2=>Œ ⟨_,H1,I2,q1⟩) hf
end
abbrev xcO(a:È)(cls:Â):HO:=.ext λh=>∃o vs,h.get? a=d7 o/\o.cls=cls/\o.data=.fields vs
noncomputable abbrev Cx.caught(X:Cx)(a:È):Cx:={X with A:=X.A.mark<|d7<|.ref a,calm:=ee,xe:=λ_ _=>False}
section
variable {X:Cx}{Á:List (È×Obj)}{σ:St}{H H':Hp}{s s':Å}{a:È}{cls:Â}
def Inv.caught(I:Inv X Á σ H s)(a:È):Inv (X.caught a) Á σ H s :=
 ⟨⟨I.ok.mod,I.ok.kind,I.ok.glob,I.ok.blt,I.ok.above,I.ok.inj,I.ok.has,I.ok.cab,λz=>Bool.noConfusion z,I.ok.frames,I.ok.stk,I.ok.exf,I.ok.bs,I.ok.bsz,I.ok.noex,I.ok.exfs,I.ok.funs,I.ok.frf⟩,I.os,I.bare,I.base,I.loc,I.cell,I.free,I.freeC,I.pin,I.hok,I.len⟩
def Inv.uncaught(I:Inv (X.caught a) Á σ H s)(ok:X.Ok):Inv X Á σ H s:=⟨ok,I.os,I.bare,I.base,I.loc,I.cell,I.free,I.freeC,I.pin,I.hok,I.len⟩
variable {l:List Env}
def Fl.hold{P:ê}{w:ý}(f:Fl P w l H s H' a cls s')(h0:HOk P w H s.heap):s'.os=s.os/\Un (frs l) [] H (upd H' a<|xcO a cls) s.heap s'.heap/\HOk P w (upd H' a<|xcO a cls) s'.heap:=by
 have na:∀b o,s.heap.get? b=d7 o->b≠a:=λb o e z=>by rw[z,f.na]at e;cases e
 have nH:∀b o,H b=d7 o->b≠a:=λb o e z=>by rw[z,h0.none_of f.na]at e;cases e
 have nH':∀b o,H' b=d7 o->b≠a:=λb o e z=>by rw[z,f.ha]at e;cases e
 refine⟨f.os,⟨f.un.keep,f.un.slot,λb o e n hx=>?_,f.un.there,λb xs e=>?_,λb o u e=>?_,λb ps e=>?_⟩,λb u e=>?_⟩
 .rw[ei<|na b o e];exact f.un.free b o e n hx
 .rw[ei<|nH b _ e];exact f.un.tups b xs e
 .rw[ei<|nH b _ e];exact f.un.frzs b o u e
 .rw[ei<|nH b _ e];exact f.un.tbls b ps e
 .by_cases hb:b=a
  .subst hb;rw[ej]at e;cases e;obtain⟨T,⟨oe,vs,a0,he,hc,hd,_⟩,_⟩:=f.ex;exact⟨⟨oe,vs,he,hc,hd⟩,⟨oe,he⟩,λh1 h2 ⟨o,vs,e1,e2,e3⟩ k=>⟨o,vs,k o e1,e2,e3⟩⟩
  .rw[ei hb]at e;exact(f.hok b u e).stay (λ_ _ _ q=>q) (λc q=>by rw[ei<|nH' c _ q];exact q) λc xs q=>by rw[ei<|nH' c _ q];exact q
variable {B:ü}
def UY{a0:Â}{h h':ü}(z:Ϡ B l a cls a0 h h'):∃t,NV h' a cls (d7 t):=by obtain⟨_,_,⟨oe,vs,t,oT,ts,e1,⟨e2,e3⟩,e4,e5,e6,e7,e8,e9,e10⟩,_⟩:=z;exact⟨t,oe,vs,a0,e1,e2,e4,e3,e5,e7,oT,ts,.none,e8,e9,e10⟩
def WY{M:df}{A:č}{E:Â->Å->Prop}{Q:Unit->Å->Prop}{t:È}(hl:s.heap.FunFrames B l)(hx:NV s.heap a cls<|d7 t)
  (h:∀h' a0,Ϡ (Xc s.heap l a<|d7 t) l a cls a0 s.heap h'->Q () {s with heap:=h'}):wpAny M A (setFlight (.ref a) d8) Q E s:=by
 obtain⟨oe,vs,a0,he,hc,hd,h0,h1,š,oT,ts,fl,e1,e2,e3⟩:=hx;exact wpAny_setFlight_noneW (Yw _ _ _ _) (Wg a (d7 t) hl) ⟨oe,vs,t,oT,ts,he,⟨hc,h0⟩,hd,h1,Mq _ _ _ _,š,e1,e2,e3⟩ λh2 j1 j2 j3 j4 =>
  h h2 a0 ⟨j1,j2,j3,λb o e nf=>⟨o.slots,j4 b o e nf⟩⟩
end
section
variable {X:Cx}{Á:List (È×Obj)}{σ:St}{H H':Hp}{s s':Å}{a:È}{cls:Â}
def U2{h:ü}{T:Option È}{t:È}(x:NV h a cls T)(y:NV h a cls<|d7 t):T=d7 t:=by
 obtain⟨oe,vs,a0,he,hc,hd,h0,ht⟩:=x;obtain⟨oe',vs',a0',he',hc',hd',h0',h1',_⟩:=y;rw[he]at he';cases he';rw[hd]at hd';cases hd';cases T with
 |none=>rw[show vs[1]?=d7 Value.none from ht]at h1';cases h1'
 |some u =>rw[ht.1]at h1';cases h1';rfl
def XD{M:df}{A:č}{E:Â->Å->Prop}{Q:Unit->Å->Prop}{i:Nat}{n:Str}{æ:Pos}(I:Inv X Á σ H s)(hN:X.N.Nodup)(hi:X.N[i]?=d7 n)(hn:X.env.scope.names.lookup n=d7 .local)
  (h:∀s',Inv X Á (σ.set i d8) H s'->Q () s'):wpAny M A (do bindName X.env n .none;unbindBehindTheSuite X.env n æ) Q E s:=by
 obtain⟨m,hm,hl⟩:=id I.loc;have cj:(X.env.scope.kind == .class||(X.env.scope.kind == .module&&X.env.locals != X.env.globals))=ee:=by rw[I.ok.kind];rfl
 refine wpAny_nameGoes_keeps hn hm cj λh' v hn' sb=>h _ ?_;have neL:∀b o,X.s₀.heap.get? b=d7 o->b≠X.env.locals:=λb o e=>ç<|è (Ô e) I.ok.above;have same:∀b,b≠X.env.locals->h'.get? b=s.heap.get? b:=λb hb=>sb.2 b hb;refine⟨I.ok,I.os,I.bare,⟨λb o e n hb hx=>?_,λb o e n hb hx=>?_,I.base.free,λb o e hx=>?_,I.base.tups,I.base.frzs,I.base.tbls⟩,⟨_,hn',λj x u e1 e2 e3=>?_⟩,λx c e=>?_,I.free,I.freeC,λp hp=>?_,λb u e=>?_,by rw[Ŵ];exact I.len⟩
 .exact(same b<|neL b o e).trans<|I.base.keep b o e n hb hx
 .obtain⟨sl,e1⟩:=I.base.slot b o e n hb hx;exact⟨sl,(same b<|neL b o e).trans e1⟩
 .obtain⟨o',e1⟩:=I.base.there b o e hx;exact⟨o',(same b<|neL b o e).trans e1⟩
 .have hji:j≠i:=by
   intro z;subst z;rw[Ζ ]at e2;cases q:σ[j]? with
   |none=>rw[q]at e2;cases e2
   |some _=>rw[q]at e2;cases e2
  rw[ĩ<|Ne.symm hji]at e2;obtain⟨w,r,l⟩:=hl j x u e1 e2 e3;refine⟨w,r,?_⟩;have xn:x≠n:=λz=>hji (JG hN (by rw[<-z];exact e1) hi);rcases l with⟨l1,l2⟩|⟨k,c,e,o,ho,hd⟩
  .exact .inl ⟨l1,by show(if x=n then v else m x)=d7 w;rw[f8 xn];exact l2⟩
  .exact .inr ⟨k,c,e,o,(same c<|I.cne x c e).trans ho,hd⟩
 .obtain⟨v,o,ho,hd⟩:=I.cell x c e;exact⟨v,o,(same c<|I.cne x c e).trans ho,hd⟩
 .obtain⟨e,n,ne,nf,d⟩:=I.pin p hp;exact⟨(same p.1 ne).trans e,n,ne,nf,d⟩
 .have nl:∀c v,H c=d7 v->c≠X.env.locals:=λc v q z=>by rw[z,I.free]at q;cases q
  refine(I.hok b u e).stay (λc v hc q=>?_) (λ_ q=>q) λ_ _ q=>q;rcases hc with z|z
  .rw[z]at q ⊢;exact(same b<|nl b u e).trans q
  .exact(same c<|nl c _ z).trans q
end
abbrev DN(i:Nat)(D:Ends):Ends:={nx:=λσ H=>D.nx (σ.set i d8) H,rt:=D.rt,bk:=λσ H=>D.bk (σ.set i d8) H,ct:=λσ H=>D.ct (σ.set i d8) H}
abbrev RX(K:Frag)(C:Â)(i:Nat)(tb:Ends->XK->St->Hp->Prop)(ts:TS):TS:=λD σ H =>
 tb D (λcls _ H'=>PySem.W.exmOne K cls C=d7 d9/\∀a,H' a=d8->ts (DN i D) (σ.set i<|d7<|.ref a) (upd H' a<|xcO a cls)) σ H
section
variable {X:Cx}{body ϐ:List Ģ}{b₀:Ģ}{T n:Str}{tp cZ æ:Pos}{C:Â}{i:Nat}{tb:Ends->XK->St->Hp->Prop}{ts:TS}
def IZ(ņ:X.stack=X.env::X.outer)(hN:X.N.Nodup)(hi:X.N[i]?=d7 n)(hn:X.env.scope.names.lookup n=d7 .local)(hb:PB X body tb)(hg:Gl X T)(hm:X.mg T=d7 C)(hs:∀a,PSs (X.caught a) (b₀::ϐ) ts)(ϗ:(T==("__debug__" : Str))=ee:=by decide) :
  PS X (.Try body [.ExceptHandler (d7<|.Name T tp) (d7 n) (b₀::ϐ) cZ] [] [] æ) (RX X.K C i tb ts):=by
 intro Á s σ H D I h;refine wpAny_Try_except<|ċ (hb Á s σ H D _ I h) (λf s1 q=>?_) λv s' hx=>?_
 .cases f with
  |next=>exact Œ q
  |brk=>exact q
  |cont=>exact q
  |ret u=>exact q
 obtain⟨a,cls,H1,H',s1,rfl,I1,f,cj,hk⟩:=hx;have J:=I1.raised f;obtain⟨T0,hx,hT⟩:=f.ex;have cy:=XU I.ok ņ;have jst:=J.stack;have jfr:=J.stkFree;have fr:=I.ok.frames;rw[ņ]at jst jfr fr;have Τ:∀{s2:Å},Fl X.prog X.w (X.env::X.outer) H1 s1 H' a cls s2->Fl X.prog X.w X.stack H1 s1 H' a cls s2:=λz=>by rw[ņ];exact z
 have f':Fl X.prog X.w (X.env::X.outer) H1 s1 H' a cls s':=by rw[<-ņ];exact f
 refine WF fr cy jst hx λh' a0 z=>?_;have f2:=f'.left hT jst jfr z;obtain⟨T2,bP,hT2⟩:=f2.ex;obtain⟨t,hx2'⟩:=UY z;have et:=U2 bP hx2';subst et;have J2:=I1.raised<|Τ f2;have cz:=J2.stack;rw[ņ]at cz;obtain⟨oe,vs,b0,he,hc,_⟩:=id bP;have LT:PySem.W.Looks (à X.prog X.w) h' (dU<|.ref a) cls:=by subst hc;exact(PySem.W.Looks.ld he).andThen .now
 refine wpAny_handleBy_cons (codeAny_handlers_test<|Yx (X:=X.caught a) (J2.caught a) hg hm ((PySem.W.exm_one J2.kIn LT cj).here ?_) ϗ) (by intro q;cases q);refine codeAny_handlers_suite_as<|WY cz bP λh3 a1 z3=>?_;have f3:=f2.left hT2 cz jfr z3;obtain⟨os3,un3,hok3⟩:=(Τ f3).hold I1.hok;have J3:Inv X Á σ (upd H' a<|xcO a cls) {s' with heap:=h3}:=I1.call' (ch:=[]) os3 un3 hok3 f3.bare (λb z=>gf z<|by simp);refine JY (X:=X.caught a) (J3.caught a) hN hi (.inl hn) (show RelV (.ref a) (.ref a) from rfl) (λs4 I4=>?_)<|.inr hn;refine ċ (hs a Á s4 _ _ (DN i D) I4<|hk a f3.ha) (λfl s5 q5=>?_) λ_ _ z=>ù z;cases fl with
 |next =>obtain⟨dG,H5,I5,q⟩:=q5;exact XD (I5.uncaught I.ok) hN hi hn λs6 I6=>⟨_,H5,I6,q⟩
 |brk =>obtain⟨dG,H5,I5,q⟩:=q5;exact XD (I5.uncaught I.ok) hN hi hn λs6 I6=>⟨_,H5,I6,q⟩
 |cont =>obtain⟨dG,H5,I5,q⟩:=q5;exact XD (I5.uncaught I.ok) hN hi hn λs6 I6=>⟨_,H5,I6,q⟩
 |ret u =>obtain⟨v,dG,H5,I5,r,q⟩:=q5;exact XD (I5.uncaught I.ok) hN hi hn λs6 I6=>⟨v,_,H5,I6,r,q⟩
end
end L2
namespace L2
open PySem PySem.Spec PySem.W PySem.Calls PyProof.Rows PySem.Builtin PySem.Builtin.ObjectAttr PySem.Builtin.Getset_descriptor
section
variable {prog:ê}{w:ý}{A:č}{E:Â->Å->Prop}{K:Ž}{h:ü}{g:Array GenState}{d:Drawn}{t:Nat}{os:OsState}{a C:È}{o:Obj}
structure XCls(K:Ž)(C:È):Prop where
 ga:ϫ K (.ref C) "__getattribute__" = d7 (d7<|.builtin "BaseException.__getattribute__")
 gr:ϫ K (.ref C) "__getattr__" = d7 d8
 cl:ϫ K (.ref C) "__class__" = d7 (d7<|.builtin "object.__class__")
 mo:mroIn K C (.type "object")=d7 d9
 mb:mroIn K C (.type "BaseException")=d7 d9
 ci:(clsIn K C).isSome=d9
variable {R:dM->Å->Prop}
def H9(X:K.In h)(hx:h.get? a=d7 o)(hc:o.cls=.ref C)(Z:XCls K C)(hq:R (.ok<|.ret<|.ref C) ⟨h,g,d,t,os⟩) :
  codeAny (à prog w) A (.call (.builtin "getset_descriptor.__get__") ⟨[.builtin "object.__class__",.ref a,.ref C],[]⟩) R ⟨h,g,d,t,os⟩:=by
 have L0:Looks (à prog w) h (dU<|.ref a)<|.ref C:=hc▸(Looks.ld hx).andThen .now;have L1:=looks_mroIn (M:=à prog w) X Z.mo;refine codeAny_call_builtin KF.slot_gs.plain KF.entry_gs<|KF.slot_gs.check _ _ _ _ _ _ _ _ KF.type_class (KF.args_gs _ _ _) ?_;unfold Builtin.«getset_descriptor.__get__» descrGet;rw[dga_obj];refine Ã<|Ò ?_;unfold descrGetter descrCheckInstance descrNameAndClass isInstance;simp only[KF.owner_class]
 repeat lk
 refine⟨Code.quiet_builtin _ (by decide +kernel),ν KF.entry_class ?_⟩;unfold Builtin.«object.__class__» shownTypeOf
 repeat lk
 exact hq
variable {tk:Tok}
def CJ{Q:Fin->Å->Prop}(X:K.In h)(hx:h.get? a=d7 o)(hc:o.cls=.ref C)(Z:XCls K C)(hq:Q (.done<|.ret<|.ref C) ⟨h,g,d,t,os⟩) :
  wpAny (à prog w) A (Builtin.«object.__getattribute__» ⟨[.ref a,.str "__class__" tk],[]⟩) Q E ⟨h,g,d,t,os⟩:=by
 have L0:Looks (à prog w) h (dU<|.ref a)<|.ref C:=hc▸(Looks.ld hx).andThen .now;have L1:=dX (M:=à prog w) X Z.cl;have hT5:(⟨h,g,d,t,os⟩:Å).TypeIs (.builtin "object.__class__") "getset_descriptor":=F.typeOf_object_class;have f5:=F.typeOf_object_class;have f6:=F.slot_gs_get.lookup;have f7:=F.slot_gs_set.lookup
 repeat (any_goals (first|assumption|(with_reducible refine Looks.at L0 ?_)|(with_reducible refine Looks.at L1 ?_)|(with_reducible refine aE hx ?_;rw[hc])|wp_step))
 refine H9 X hx hc Z ?_
 repeat (any_goals (first|assumption|wp_step))
def DU{nameV:Â}{M:df}{Q:Unit->Å->Prop}(X:K.In h)(hx:h.get? a=d7 o)(hc:o.cls=.ref C)(Z:XCls K C)(hq:Q () ⟨h,g,d,t,os⟩) :
  wpAny M A (checkBuiltinCall "BaseException.__getattribute__" ⟨[.ref a,nameV],[]⟩) Q E ⟨h,g,d,t,os⟩:=by
 have hk:builtinKind "BaseException.__getattribute__" = d7 .slot:=by decide +kernel
 have hsplit:splitId "BaseException.__getattribute__" = d7 ("BaseException","__getattribute__"):=by decide +kernel
 have L1:=looks_mroIn (M:=M) X Z.mb;have ha:=F.args_bexc_ga (.ref a) nameV;simp only[checkBuiltinCall,hk,hsplit];refine Ã ?_;unfold isInstance
 repeat (first|(with_reducible refine aE hx ?_;rw[hc])|(with_reducible refine Looks.at L1 ?_)|wp_step)
 exact hq
def FO(X:K.In h)(hx:h.get? a=d7 o)(hc:o.cls=.ref C)(Z:XCls K C)(hq:R (.ok<|.ret<|.ref C) ⟨h,g,d,t,os⟩) :
  codeAny (à prog w) A (.call (.builtin "BaseException.__getattribute__") ⟨[.ref a,.str "__class__" tk],[]⟩) R ⟨h,g,d,t,os⟩ :=
 codeAny_call_builtin PySem.F.excAttr_ValueError.ga.plain F.entry_bexc_ga (DU X hx hc Z<|CJ X hx hc Z hq)
end
section
variable {prog:ê}{w:ý}{A:č}{E:Â->Å->Prop}{K:Ž}{h:ü}{g:Array GenState}{d:Drawn}{t:Nat}{os:OsState}{a C:È}{o:Obj}
def Qx{tk:Tok}{fill:Bool}{Q:Â->Å->Prop}(X:K.In h)(hx:h.get? a=d7 o)(hc:o.cls=.ref C)(Z:XCls K C)(hq:Q (.ref C) ⟨h,g,d,t,os⟩) :
  wpAny (à prog w) A (getAttrBy (.ref a) (.str "__class__" tk) fill) Q E ⟨h,g,d,t,os⟩:=by
 have f3:=PySem.F.excAttr_ValueError.ga.bind<|.ref a;have L1:=dX (M:=à prog w) X Z.ga;have L2:=dX (M:=à prog w) X Z.gr;have bP:(ϛ "BaseException.__getattribute__" == ϛ "object.__getattribute__")=ee:=by decide +kernel
 have hx1:(onTheHeap (Value.ref C)&&ϛ "BaseException.__getattribute__" == ϛ "object.__getattribute__")=ee:=by rw[bP];rfl
 repeat (any_goals (first|assumption|(with_reducible refine aE hx ?_;rw[hc])|(with_reducible refine Looks.at L1 ?_)|(with_reducible refine Looks.at L2 ?_)|wp_step))
 refine FO X hx hc Z ?_
 repeat (any_goals (first|assumption|wp_step))
def FA{Q:Option Â->Å->Prop}(X:K.In h)(hx:h.get? a=d7 o)(hc:o.cls=.ref C)(Z:XCls K C)(hq:Q (d7<|.ref C) ⟨h,g,d,t+1,os⟩) :
  wpAny (à prog w) A (getAttr? (.ref a) "__class__") Q E ⟨h,g,d,t,os⟩:=by
 unfold getAttr? getAttrBy?
 repeat (any_goals (first|assumption|with_reducible apply Qx X hx hc Z|wp_step))
def Jy(Z:XCls K C):KitX K (.ref a) (.ref C) (λh=>∃o vs,h.get? a=d7 o/\o.cls=.ref C/\o.data=.fields vs) where
 ty:=λ_ _ _ ⟨o,vs,e,c,_⟩=>c▸(Looks.ld e).andThen .now
 it:=λ_ _ X _=>by
  have hcD:=Z.ci;unfold clsIn at hcD;split at hcD
  .rename_i c' d' cd' sl' ho;intro A' Q' E' s' k q;unfold isType loadHead;exact Ã<|wpAny_loadPart (k _ _<|X _ _ ho)<|Ò q
  .cases hcD
 ne:=λh tp dd ì n sl X htp=>by
  have hcD:=Z.ci;refine ϰ.mpr λq=>?_;have e:C=tp:=Value.ref.inj<|beq_iff_eq.mp q;subst e;unfold clsIn at hcD;split at hcD
  .rename_i c' d' cd' sl' ho;have z:=(X _ _ ho).symm.trans htp;cases z
  .cases hcD
 ca:=λ{_ _ _ _ _ s} X ⟨o,vs,e,c,_⟩ k=>by obtain⟨h,g,d,t,os⟩:=s;exact FA X e c Z k
end
end L2
namespace L2
open PySem PySem.Spec PyProof.Rows
section
variable {X:Cx}
def OR{Á:List (È×Obj)}{σ:St}{H:Hp}{s:Å}{a:È}{cls:Â}(I:Inv X Á σ H s)(e:H a=d7 (xcO a cls)):∃o vs,s.heap.get? a=d7 o/\o.cls=cls/\o.data=.fields vs :=
 (show eN X.prog X.w H s.heap a (xcO a cls) from I.hok a _ e).1
def AR:eM X (.builtin "isinstance") λxs H Q=>∃a C D b,xs=[.ref a,.ref D]/\H a=d7 (xcO a<|.ref C)/\XCls X.K C/\PySem.W.kitOne X.K (.ref C) (.ref D)=d7 b/\Q (.bl b) H:=by intro Á s σ H xs us Q I r h;obtain⟨a,C,D,b,rfl,ha,Z,e,q⟩:=h;obtain⟨u,v,rfl,ru,rv⟩:=WV r;cases ru;cases rv;exact PySem.W.kia_one (Jy Z) I.kIn (OR I ha) e (λz=>nomatch z) λtk=>⟨.bl b,H,I.tok tk,rfl,q⟩
def N7:eM X (.builtin "isinstance") λxs H Q=>∃a C T b,xs=[.ref a,.ty T]/\H a=d7 (xcO a<|.ref C)/\XCls X.K C/\PySem.W.kitOne X.K (.ref C) (.type T)=d7 b/\Q (.bl b) H:=by intro Á s σ H xs us Q I r h;obtain⟨a,C,T,b,rfl,ha,Z,e,q⟩:=h;obtain⟨u,v,rfl,ru,rv⟩:=WV r;cases ru;cases rv;exact PySem.W.kia_one (Jy Z) I.kIn (OR I ha) e (λz=>nomatch z) λtk=>⟨.bl b,H,I.tok tk,rfl,q⟩
def Uj:∀{Cs:List È}{us:List Â},fR (Cs.map V.ref) us->us=Cs.map Value.ref
 |[],_,.nil=>rfl
 |C::Cs,_,.cons r rs=>by rw[Î,<-Uj rs];exact congrArg (· :: _) r
def OM:eM X (.builtin "isinstance") λxs H Q=>∃a C p,∃Cs:List È,∃b,xs=[.ref a,.ref p]/\H a=d7 (xcO a<|.ref C)/\XCls X.K C/\H p=d7 (.tup<|Cs.map V.ref)/\PySem.W.kitAny X.K (.ref C) (Cs.map Value.ref)=d7 b/\Q (.bl b) H:=by intro Á s σ H xs us Q I r h;obtain⟨a,C,p,Cs,b,rfl,ha,Z,hp,e,q⟩:=h;obtain⟨u,v,rfl,ru,rv⟩:=WV r;cases ru;cases rv;obtain⟨ì,r',⟨⟨oc,od,dt,sl⟩,e1,c1,n,d1⟩,hz⟩:=I.tuple<|fQ.of hp;simp only at c1 d1;subst c1 d1;have:=Uj r';subst this;exact PySem.W.kia_tup (Jy Z) I.kIn (OR I ha) e1 e (λz=>nomatch z) λtk=>⟨.bl b,H,I.tok tk,rfl,q⟩
end
abbrev Qa(K:Frag)(C:Â)(tb:Ends->XK->St->Hp->Prop)(ts:TS):TS:=λD σ H =>
 tb D (λcls _ H'=>PySem.W.exmOne K cls C=d7 d9/\∀a,H' a=d8->ts D σ (upd H' a<|xcO a cls)) σ H
section
variable {X:Cx}{body ϐ:List Ģ}{b₀:Ģ}{T:Str}{tp cZ æ:Pos}{C:Â}{tb:Ends->XK->St->Hp->Prop}{ts:TS}
def Ev(ņ:X.stack=X.env::X.outer)(hb:PB X body tb)(hg:Gl X T)(hm:X.mg T=d7 C)(hs:∀a,PSs (X.caught a) (b₀::ϐ) ts)(ϗ:(T==("__debug__" : Str))=ee:=by decide) :
  PS X (.Try body [.ExceptHandler (d7<|.Name T tp) d8 (b₀::ϐ) cZ] [] [] æ) (Qa X.K C tb ts):=by
 intro Á s σ H D I h;refine wpAny_Try_except<|ċ (hb Á s σ H D _ I h) (λf s1 q=>?_) λv s' hx=>?_
 .cases f with
  |next=>exact Œ q
  |brk=>exact q
  |cont=>exact q
  |ret u=>exact q
 obtain⟨a,cls,H1,H',s1,rfl,I1,f,cj,hk⟩:=hx;have J:=I1.raised f;obtain⟨T0,hx,hT⟩:=f.ex;have cy:=XU I.ok ņ;have jst:=J.stack;have jfr:=J.stkFree;have fr:=I.ok.frames;rw[ņ]at jst jfr fr;have Τ:∀{s2:Å},Fl X.prog X.w (X.env::X.outer) H1 s1 H' a cls s2->Fl X.prog X.w X.stack H1 s1 H' a cls s2:=λz=>by rw[ņ];exact z
 have f':Fl X.prog X.w (X.env::X.outer) H1 s1 H' a cls s':=by rw[<-ņ];exact f
 refine WF fr cy jst hx λh' a0 z=>?_;have f2:=f'.left hT jst jfr z;obtain⟨T2,bP,hT2⟩:=f2.ex;obtain⟨t,hx2'⟩:=UY z;have et:=U2 bP hx2';subst et;have J2:=I1.raised<|Τ f2;have cz:=J2.stack;rw[ņ]at cz;obtain⟨oe,vs,b0,he,hc,_⟩:=id bP;have LT:PySem.W.Looks (à X.prog X.w) h' (dU<|.ref a) cls:=by subst hc;exact(PySem.W.Looks.ld he).andThen .now
 refine wpAny_handleBy_cons (codeAny_handlers_test<|Yx (X:=X.caught a) (J2.caught a) hg hm ((PySem.W.exm_one J2.kIn LT cj).here ?_) ϗ) (by intro q;cases q);refine codeAny_handlers_suite<|WY cz bP λh3 a1 z3=>?_;have f3:=f2.left hT2 cz jfr z3;obtain⟨os3,un3,hok3⟩:=(Τ f3).hold I1.hok;have J3:Inv X Á σ (upd H' a<|xcO a cls) {s' with heap:=h3}:=I1.call' (ch:=[]) os3 un3 hok3 f3.bare (λb z=>gf z<|by simp);refine ċ (hs a Á _ _ _ D (J3.caught a)<|hk a f3.ha) (λfl s5 q5=>?_) λ_ _ z=>ù z;cases fl with
 |next =>obtain⟨dG,H5,I5,q⟩:=q5;exact⟨_,H5,I5.uncaught I.ok,q⟩
 |brk =>obtain⟨dG,H5,I5,q⟩:=q5;exact⟨_,H5,I5.uncaught I.ok,q⟩
 |cont =>obtain⟨dG,H5,I5,q⟩:=q5;exact⟨_,H5,I5.uncaught I.ok,q⟩
 |ret u =>obtain⟨v,dG,H5,I5,r,q⟩:=q5;exact⟨v,_,H5,I5.uncaught I.ok,r,q⟩
end
end L2
namespace L2
open PySem PySem.Spec PyProof.Rows
open PySem.Builtin PySem.Builtin.Str
abbrev Ac(z:Str)(lo hi:Option Int):Str:=if(ξ lo hi 1 z.length).length=z.length then z else⟨((ξ lo hi 1 z.length).filterMap (z.cps[·]?)).toArray⟩
def Eo(z:Str)(lo hi:Option Int):(Ac z lo hi).length<=z.length:=by
 unfold Ac;split
 .exact Í _
 .show((ξ lo hi 1 z.length).filterMap (z.cps[·]?)).toArray.size<=_;rw[Ë];exact ß (bf _ _)<|indices_len_le lo hi z.length
section
variable {X:Cx}
abbrev QL:V->Option Int->Option Int->Hp->VK->Prop:=λx lo hi H Q=>∃z,x=.str z/\z.length<=Ú/\Q (.str<|Ac z lo hi) H
def Ut{v:Â}{lo:Option Int}(h:ϓ v lo):∃l:Option<|Int×Tok,v=partValue l/\l.map (·.1)=lo:=by
 cases h with
 |none=>exact⟨d8,rfl,rfl⟩
 |int i t=>exact⟨d7 (i,t),rfl,rfl⟩
def sl_str:SlR X QL:=by
 intro Á s σ H x v vl vu lo hi sl Q I rx hs pl pu h;obtain⟨z,rfl,hz,q⟩:=h;obtain⟨t,rfl⟩:=rx;refine⟨"str",_,slot_str_getitem.lookup,typeIs_str s z t,?_⟩;obtain⟨l,rfl,el⟩:=Ut pl;obtain⟨u,rfl,eu⟩:=Ut pu;have hs':s.heap.IsSlice sl l u d8:=hs;refine wpAny_getItem_str_slice hs' rfl ?_;have e:sliceMade z t l u d8=if(ξ lo hi 1 z.length).length=z.length then .val (.str z t)else .str ⟨((ξ lo hi 1 z.length).filterMap (z.cps[·]?)).toArray⟩:=by unfold sliceMade slicePicked;rw[el,eu];simp
 rw[e];have cl:=Eo z lo hi;unfold Ac at q cl;split
 .rename_i hh;rw[fZ hh]at q;exact⟨.str z,H,I,⟨t,rfl⟩,q⟩
 .rename_i hh;rw[f8 hh]at q cl;exact⟨ß cl hz,.str _,H,I.tok _,⟨_,rfl⟩,q⟩
end
section
variable {X:Cx}
def UC(z:Str):∀(n:Nat) (a:Array Nat),((Ø n z.cps).foldl (· ++ ·) a).size=a.size+n*z.cps.size
 |0,a=>by simp
 |n+1,a=>by rw[Č,ļ,UC z n,Array.size_append,Nat.succ_mul];lia
def fR.ins{xs:List V}{us:List Â}{y:V}{u:Â}(r:fR xs us)(ry:RelV y u)(k:Nat):fR (xs.take k++y::xs.drop k)<|us.take k++u::us.drop k:=(r.take k).append (.cons ry<|r.drop k)
end
end L2
namespace L2
open PySem PySem.Spec PyProof.Rows
section
variable {X:Cx}(K:Frag) (h:X.K=K)
include h
end
end L2
namespace HT
open PySem PyProof.Rows
open PySem.SeqAt
open PySem.AutoSeq1 (wpAny_loadPart')
open PySem.MeetsSeq PySem.MeetsSeq2 PySem.MeetsSeq3
section
variable {prog:ê}{w:ý}{A:č}{E:Â->Å->Prop}{s:Å}
def getItem_tuple_whole{t sl:È}{items:Array Â}{vl vu:Â}{lo hi:Option Int}{Q:Â->Å->Prop}(ht:ϙ s.heap t items)(hs:s.heap.IsSliceOf sl vl vu .none)(pl:ϓ vl lo)(pu:ϓ vu hi)
  (hw:sIx items.size 0 lo=0/\sIx items.size items.size hi=items.size)
  (h:Q (.ref t) s):wpAny (à prog w) A (ϒ (.ref t)<|.ref sl) Q E s:=by
 obtain⟨os,hos,hcs,hds⟩:=id hs;have hTs:s.TypeIs (.ref sl) "slice":=⟨os,hos,hcs⟩
 unfold ϒ
 try with_reducible refine ŕ ?_
 first|refine Ã (Ò ?_)|skip
 refine Ã (wpAny_sequenceKey ht.typeIs (by decide) ?_);refine Ã (Ĝ (name:=gh "__getitem__") ht.typeIs PyProof.Rows.slot_tuple_getitem
   (ī PyProof.Rows.slot_tuple_getitem ht.typeIs entry_tuple_getitem ?_<|args_tuple_getitem _ _))
 show wpAny _ _ (Builtin.Tuple.tupleItemsOf (.ref t) >>= _) _ _ s;refine Ã<|tupleItemsOf_ ht ?_;refine Ã<|dP hTs ?_;rw[fZ<|by decide];refine Ã<|YF hs pl pu ?_;have hyes:(((sIx items.size 0 lo:Nat):Int)==0&&(1:Int)==1&&(sIx items.size items.size hi - sIx items.size 0 lo)==items.size)=d9:=by rw[hw.1,hw.2];simp
 show wpAny _ _ (if(((sIx items.size 0 lo:Nat):Int)==0&&(1:Int)==1&&(sIx items.size items.size hi - sIx items.size 0 lo)==items.size)=d9 then _ else _) _ _ s;rw[fZ hyes];refine Ã ?_;unfold Builtin.Tuple.tupleIsExact;refine Ã<|dP ht.typeIs<|Ò ?_;rw[fZ<|by decide]
 first
  |exact Ã<|Ò<|Ò ⟨_,rfl,Ò h⟩
  |exact Ã<|bV<|Ò ⟨_,rfl,Ò h⟩
  |exact Ò ⟨_,rfl,Ò h⟩
end
end HT
namespace L2
open PySem PySem.Spec PyProof.Rows
section
variable {X:Cx}
abbrev QR(K:Frag):V->Option Int->Option Int->Hp->VK->Prop:=λx lo hi H Q=>∃a xs,x=.ref a/\fQ K H a xs/\(HT.sIx xs.length 0 lo=0/\HT.sIx xs.length xs.length hi=xs.length)/\Q (.ref a) H
def EG:SlR X<|QR X.K:=by
 intro Á s σ H x v vl vu lo hi sl Q I rx hs pl pu h;obtain⟨a,xs,rfl,hx,hw,q⟩:=h;cases rx;obtain⟨ì,r,ht,hz⟩:=I.tuple hx;have hlen:ì.toArray.size=xs.length:=by rw[Ë];exact r.length.symm
 refine⟨"tuple",_,PyProof.Rows.slot_tuple_getitem.lookup,ht.typeIs,?_⟩;exact HT.getItem_tuple_whole ht hs pl pu (by rw[hlen];exact hw) ⟨.ref a,H,I,rfl,q⟩
end
end L2
namespace L2
open PySem PySem.Spec PyProof.Rows
open PySem.Builtin PySem.Builtin.Str
section
variable {X:Cx}
abbrev PD(z:Str)(n:Nat):Str:=⟨(Ø n z.cps).foldl (· ++ ·) #[]⟩
def KM(z:Array Nat):∀(n:Nat) (a:Array Nat),((Ø n z).foldl (· ++ ·) a).toList=a.toList++(Ø n z.toList).flatten
 |0,a=>by simp
 |n+1,a=>by rw[Č,ļ,KM z n,Č,ľ,Array.toList_append,Ď]
abbrev Hu:R2:=λx y H Q=>∃z k,x=.str z/\y=.int k/\2<=k/\k<=1000000/\1<=z.length/\z.length*k.toNat<=1000000/\Q (.str<|PD z k.toNat) H
def FW:OpR X (ł .Mult) Hu:=by
 intro Á s σ H x y v u Q I rx ry h;obtain⟨z,k,rfl,rfl,h2,h6,h1,hz,q⟩:=h;obtain⟨t,rfl⟩:=rx;obtain⟨t',rfl⟩:=ry;have big:(1000000:Nat)<=Ú:=by decide
 have nb:(k==1||z.length==0)=ee:=by have e1:(k==1)=ee:=beq_false_of_ne (by lia);have e2:(z.length==0)=ee:=beq_false_of_ne (by lia);rw[e1,e2];rfl
 have zl:z.length<=1000000:=by have:z.length*1<=z.length*k.toNat:=dq _ (by lia);lia
 have hr:(gg (k < -(2 ^ 63:Int))||gg (k≥2 ^ 63))=ee:=by rw[f9 (by lia),f9<|by lia];rfl
 have hb:¬ k<1->(k==1||z.length==0)=ee->¬ ((z.length:Int) > (2 ^ 63 - 1) / k):=λ_ _=>by have:(1000000:Int)<=(2 ^ 63 - 1) / k:=(Int.le_ediv_iff_mul_le<|by lia).mpr (by lia);lia
 have hl:¬ k<1->(k==1||z.length==0)=ee->tooLong (z.length*k.toNat)=ee:=λ_ _=>by unfold tooLong;exact f9 (by lia)
 refine P.mul_str hr hb hl ?_;rw[f8 (by lia),f8<|by rw[nb];exact ø];have el:(⟨(Ø k.toNat z.cps).foldl (· ++ ·) #[]⟩:Str).length=z.length*k.toNat:=by show((Ø k.toNat z.cps).foldl (· ++ ·) #[]).size=_;rw[UC,Nat.mul_comm z.length];simp[Str.length]
 exact⟨by rw[el];lia,.str _,H,I.tok _,⟨_,rfl⟩,q⟩
variable {c y z a b:Str}{k1 k2 k3:Nat}{p1 p2 p3 p4 pa pb Ĳ ŀ:Pos}
end
end L2
namespace L2
open PySem PySem.Spec PyProof.Rows
section
variable {X:Cx}
abbrev HD(K:Frag):R2:=λx y H Q=>∃a b ys,x=.ref a/\y=.ref b/\fQ K H a []/\fQ K H b ys/\Q (.ref b) H
def op_cat0:OpR X (ł .Add)<|HD X.K:=by
 intro Á s σ H x y v u Q I rx ry h;obtain⟨a,b,ys,rfl,rfl,ha,hb,q⟩:=h;cases rx;cases ry;obtain⟨ì,r1,p1,_⟩:=I.tuple ha;obtain⟨al,r2,p2,_⟩:=I.tuple hb;cases r1;obtain⟨⟨cls,dd,data,sl⟩,ho,hc,n,hd⟩:=id p1;obtain⟨⟨cls2,cG,data2,dF⟩,ho2,hc2,n2,aM⟩:=id p2;simp only at hc hd hc2 aM;subst hc hd hc2 aM;exact dO ⟨_,ho,rfl⟩ ⟨_,ho2,rfl⟩ aT cP PySem.F.slot_tuple_add PySem.F.entry_tuple_add (PySem.F.args_tuple_add_2 _ _)
  (tuple_addW0 a b _ _ n n2 dd cG sl dF rfl) ⟨ho,ho2,.ref b,H,I,rfl,q⟩
def O7{xs:Array (Int×Tok)}{k:Nat}(h:k<xs.size):numAt xs k∈xs.toList.map (·.1):=by rw[numAt_eq];exact PySem.getD_mem (by rw[À,ē];exact h)
def Aa(hc:X.calm=d9):eM X (.builtin "min") λxs H Q=>∃p,∃ns:List Int,xs=[.ref p]/\fP X.K H p (ns.map V.int)/\ns≠[]/\∀M,M∈ns->(∀a∈ns,M<=a)->Q (.int M) H:=by
 intro Á s σ H xs us Q I r h;obtain⟨p,ns,rfl,hq,š,q⟩:=h;obtain⟨u,rfl,rx⟩:=ZU r;cases rx;obtain⟨ì,rv,pl,hz⟩:=I.list hq;have hi:=Zq rv;obtain⟨xs,e⟩:=hi.allInts.items;have hns:ns=xs.toList.map (·.1):=by rw[<-hi.numsOf,<-nums_intItems,<-e]
 have hsz:0<xs.size:=by have h3:=Į.mpr š;rw[hns,À,ē]at h3;exact h3
 have hl:=pl.isList;rw[e]at hl;refine min_intList (I.ok.hd hc) hl hsz λv h' tk hv hk=>?_;obtain⟨t,rfl⟩:=intItems_at hv;obtain⟨h1,h2⟩:=argBest_lt (numAt xs)<|xs.size - 1;refine⟨.int _,H,I.kept (t':=tk) hk,⟨t,rfl⟩,q _ ?_ λa ha=>?_⟩
 .rw[hns];exact O7 (by lia)
 .rw[hns]at ha;obtain⟨j,hj,rfl⟩:=mem_getD ha;rw[À,ē]at hj;rw[<-numAt_eq];exact h2 j (by lia)
def OA(hc:X.calm=d9):eM X (.builtin "min") λxs H Q=>∃p,∃ns:List Int,xs=[.ref p]/\fQ X.K H p (ns.map V.int)/\ns≠[]/\∀M,M∈ns->(∀a∈ns,M<=a)->Q (.int M) H:=by
 intro Á s σ H xs us Q I r h;obtain⟨p,ns,rfl,hq,š,q⟩:=h;obtain⟨u,rfl,rx⟩:=ZU r;cases rx;obtain⟨ì,rv,pl,hz⟩:=I.tuple hq;have Ϙ:p<s.heap.objs.size:=by obtain⟨o,e,_⟩:=pl;exact Ô e
 have hl:ì.length=ns.length:=by rw[<-rv.length,À]
 have hn:=Į.mpr š;have hv:∀k v,ì[k]?=d7 v->∃t,v=Value.int (ns.getD k 0) t:=λk v hv=>by
  have hk:=(Ï.mp hv).1;rw[hl]at hk;have hb:(ns.map V.int)[k]?=d7 (.int<|ns.getD k 0):=by rw[Õ,Ê hk,Ą,Ê hk];rfl
  obtain⟨u,hu,ru⟩:=rv.get hb;rw[hv]at hu;cases hu;exact ru
 refine call_min_walk (Ő (show s.heap.IsTuple p ì.toArray from pl) ?_);refine⟨s.heap.objs.size,_,_,ì.toArray.size,_,_,λa b=>gg (ns.getD a 0<ns.getD b 0),rfl,Walks.tuple (A:=X.A.in1) (I.ok.hd hc) s.heap.objs.size p (ç Ϙ) ì.toArray,⟨⟨_,Ö _ rfl,rfl,rfl⟩,?_⟩,?_,?_,?_,λv h' tk hP hk=>?_⟩
 .obtain⟨o,e,r⟩:=pl;exact⟨o,Ä _ e,r⟩
 .intro b hb;show b<(s.heap.push _).objs.size;rw[ń];rcases Æ.mp hb with e|hb
  .rw[e];exact Ā _
  .have:b=p:=by simpa using hb
   rw[this];exact Ĉ Ϙ
 .rw[Ë,hl];exact hn
 .exact CmpOf.ints_lt (λk=>ns.getD k 0) λk v hP=>hv k v (by simpa using hP)
 .rw[Ë,hl]at hP;have hP:ì[đ (λa b=>gg (ns.getD a 0<ns.getD b 0))<|ns.length - 1]?=d7 v:=by simpa using hP
  obtain⟨t,rfl⟩:=hv _ _ hP;obtain⟨h1,h2⟩:=argBest_lt (λk=>ns.getD k 0)<|ns.length - 1;refine⟨.int _,H,I.kept (t':=tk) λb o e=>hk b o (λhm=>?_)<|Ä _ e,⟨_,rfl⟩,q _ (PySem.getD_mem<|by lia) λa ha=>?_⟩
  .have:b=s.heap.objs.size:=by simpa using hm
   exact gf (this▸Ô e)<|ĝ _
  .obtain⟨j,hj,rfl⟩:=mem_getD ha;exact h2 j (by lia)
def AE(hc:X.calm=d9):eM X (.builtin "max") λxs H Q=>∃p,∃ns:List Int,xs=[.ref p]/\fP X.K H p (ns.map V.int)/\ns≠[]/\∀M,M∈ns->(∀a∈ns,a<=M)->Q (.int M) H:=by
 intro Á s σ H xs us Q I r h;obtain⟨p,ns,rfl,hq,š,q⟩:=h;obtain⟨u,rfl,rx⟩:=ZU r;cases rx;obtain⟨ì,rv,pl,hz⟩:=I.list hq;have hi:=Zq rv;obtain⟨xs,e⟩:=hi.allInts.items;have hns:ns=xs.toList.map (·.1):=by rw[<-hi.numsOf,<-nums_intItems,<-e]
 have hsz:0<xs.size:=by have h3:=Į.mpr š;rw[hns,À,ē]at h3;exact h3
 have hl:=pl.isList;rw[e]at hl;refine max_intList (I.ok.hd hc) hl hsz λv h' tk hv hk=>?_;obtain⟨t,rfl⟩:=intItems_at hv;obtain⟨h1,h2⟩:=argBest_gt (numAt xs)<|xs.size - 1;refine⟨.int _,H,I.kept (t':=tk) hk,⟨t,rfl⟩,q _ ?_ λa ha=>?_⟩
 .rw[hns];exact O7 (by lia)
 .rw[hns]at ha;obtain⟨j,hj,rfl⟩:=mem_getD ha;rw[À,ē]at hj;rw[<-numAt_eq];exact h2 j (by lia)
end
abbrev ZSt(z TI TO i1 i2 a b:È)(i:Nat)(h:ü):Prop:=IsZip h z TI TO .none/\IsPair h TI (.ref i1) (.ref i2)/\(∃u v,IsPair h TO u v)/\h.IsListIter i1 a i/\h.IsListIter i2 b i
variable {z:È} {i1:È} {i2:È} {a:È} {b:È} {i:Nat} {h:ü}
def ZSt.keep{TI TO:È}{h':ü}(st:ZSt z TI TO i1 i2 a b i h)(k:∀c∈[z,TI,TO,i1,i2],∀o,h.get? c=d7 o->h'.get? c=d7 o):ZSt z TI TO i1 i2 a b i h':=by obtain⟨h1,h2,⟨u,v,h3⟩,h4,h5⟩:=st;exact⟨k z (by simp) _ h1,k TI (by simp) _ h2,⟨u,v,k TO (by simp) _ h3⟩,h4.at λo q=>k i1 (by simp) o q,h5.at λo q=>k i2 (by simp) o q⟩
def ZSt.obj{TI TO:È}(st:ZSt z TI TO i1 i2 a b i h):∀c∈[z,TI,TO,i1,i2],∃o,h.get? c=d7 o/\(∀v,o.data≠.cell v)/\o.cls≠.type "list":=by
 obtain⟨h1,h2,⟨u,v,h3⟩,⟨o4,e4,c4,d4⟩,⟨o5,e5,c5,d5⟩⟩:=st;intro c hc;simp only[Æ,Þ,or_false]at hc;rcases hc with rfl|rfl|rfl|rfl|rfl
 .exact⟨_,h1,(λv z=>(by cases z)),(show Value.type "zip"≠.type "list" by decide)⟩
 .exact⟨_,h2,(λv z=>(by cases z)),(show Value.type "tuple"≠.type "list" by decide)⟩
 .exact⟨_,h3,(λv z=>(by cases z)),(show Value.type "tuple"≠.type "list" by decide)⟩
 .exact⟨_,e4,(λv z=>(by rw[d4]at z;cases z)),(by rw[c4];decide)⟩
 .exact⟨_,e5,(λv z=>(by rw[d5]at z;cases z)),(by rw[c5];decide)⟩
section
variable {X:Cx}
abbrev Qt(te:TE):TE:=λσ H Q=>te σ H λx H1=>(∃i,x=.int i/\i.natAbs.log2<1920/\Q (.str<|toString i) H1)\/∃z,x=.str z/\z.length<=Ú/\Q (.str z) H1
def E2{e:Expr}{te:TE}{æ:Pos}(he:PE X e te):PE X (.FormattedValue e (-1) d8 æ)<|Qt te:=by
 intro Á s σ H Q I h;refine wpAny_FormattedValue_plain<|thn (he Á s σ H _ I h) λv s1 ⟨x,H1,I1,r1,q1⟩=>?_;rcases q1 with⟨i,e1,hd,q1⟩|⟨z,e1,hz,q1⟩
 .subst e1;obtain⟨t,rfl⟩:=r1;exact wpAny_formatField_int hd ⟨.str _,H1,I1.tok _,⟨_,rfl⟩,q1⟩
 .subst e1;obtain⟨t,rfl⟩:=r1;exact wpAny_formatField_str ⟨.str _,H1,I1,⟨_,rfl⟩,q1⟩ ⟨.str _,H1,I1.tok _,⟨_,rfl⟩,q1⟩ hz
abbrev Fk(K:Frag)(neg:Bool):R2:=λx y H Q=>∃ds d,(IsD K H y (.tuple ds)\/IsD K H y (.list ds))/\IsD K H x d/\ŋ ds=d9/\d.canLay0=d9/\d.depth<=64/\Q (.bl<|if neg then !ds.any (λe=>ĥ e d)else ds.any λe=>ĥ e d) H
def L6(hu:X.A.units+65<Ě):OpR X (ë .In)<|Fk X.K ee:=by
 intro Á s σ H x y v u Q I rx ry h;obtain⟨ds,d,hd,he,sd,se,hdp,q⟩:=h;obtain⟨bs,rb⟩:=he.reads I rx;have hr:X.A.units+1+min (ĸ ds) d.depth<Ě:=by have:min (ĸ ds) d.depth<=d.depth:=af _ _;lia
 rcases hd with hd|hd
 .obtain⟨as,ra⟩:=hd.reads I ry;exact SeqAt.in_tuple_reads ra rb sd se hr ⟨.bl _,H,I,rfl,q⟩
 .obtain⟨as,ra⟩:=hd.reads I ry;exact SeqAt.in_list_reads ra rb sd se hr ⟨.bl _,H,I,rfl,q⟩
def AL(hu:X.A.units+65<Ě):OpR X (ë .NotIn)<|Fk X.K d9:=by
 intro Á s σ H x y v u Q I rx ry h;obtain⟨ds,d,hd,he,sd,se,hdp,q⟩:=h;obtain⟨bs,rb⟩:=he.reads I rx;have hr:X.A.units+1+min (ĸ ds) d.depth<Ě:=by have:min (ĸ ds) d.depth<=d.depth:=af _ _;lia
 rcases hd with hd|hd
 .obtain⟨as,ra⟩:=hd.reads I ry;exact SeqAt.notIn_tuple_reads ra rb sd se hr ⟨.bl _,H,I,rfl,q⟩
 .obtain⟨as,ra⟩:=hd.reads I ry;exact SeqAt.notIn_list_reads ra rb sd se hr ⟨.bl _,H,I,rfl,q⟩
end
abbrev ZSy(z TI TO i1 i2 a b:È)(i:Nat)(h:ü):Prop:=IsZip h z TI TO .none/\IsPair h TI (.ref i1) (.ref i2)/\(∃u v,IsPair h TO u v)/\h.IsTupleIter i1 a i/\h.IsTupleIter i2 b i
variable {z:È} {i1:È} {i2:È} {a:È} {b:È} {i:Nat} {h:ü}
def ZSy.keep{TI TO:È}{h':ü}(st:ZSy z TI TO i1 i2 a b i h)(k:∀c∈[z,TI,TO,i1,i2],∀o,h.get? c=d7 o->h'.get? c=d7 o):ZSy z TI TO i1 i2 a b i h':=by obtain⟨h1,h2,⟨u,v,h3⟩,h4,h5⟩:=st;exact⟨k z (by simp) _ h1,k TI (by simp) _ h2,⟨u,v,k TO (by simp) _ h3⟩,h4.at λo q=>k i1 (by simp) o q,h5.at λo q=>k i2 (by simp) o q⟩
def ZSy.obj{TI TO:È}(st:ZSy z TI TO i1 i2 a b i h):∀c∈[z,TI,TO,i1,i2],∃o,h.get? c=d7 o/\∀v,o.data≠.cell v:=by
 obtain⟨h1,h2,⟨u,v,h3⟩,⟨o4,e4,c4,d4⟩,⟨o5,e5,c5,d5⟩⟩:=st;intro c hc;simp only[Æ,Þ,or_false]at hc;rcases hc with rfl|rfl|rfl|rfl|rfl
 .exact⟨_,h1,λv z=>by cases z⟩
 .exact⟨_,h2,λv z=>by cases z⟩
 .exact⟨_,h3,λv z=>by cases z⟩
 .exact⟨_,e4,λv z=>by rw[d4]at z;cases z⟩
 .exact⟨_,e5,λv z=>by rw[d5]at z;cases z⟩
section
variable {κ:Type} [DecidableEq κ]
abbrev YG(kvs:List<|κ×V)(k:κ):Option V:=(kvs.find? λkv=>gg (kv.1=k)).map (·.2)
abbrev fe(kvs:List<|κ×V)(k:κ)(v:V):List (κ×V) :=
 if(kvs.any λkv=>gg (kv.1=k))=d9 then kvs.map (λkv=>if kv.1=k then(kv.1,v)else kv)else kvs++[(k,v)]
abbrev ff(kvs:List<|κ×V)(k:κ):List<|κ×V:=kvs.filter λkv=>gg (kv.1≠k)
variable {p:κ×V} {r:List (κ×V)}
def Xq{k:κ}(e:p.1=k):YG (p::r) k=d7 p.2:=by simp[YG,Ę,e]
def Xz{k:κ}(e:¬ p.1=k):YG (p::r) k=YG r k:=by simp[YG,Ę,e]
def Xw(k:κ):∀kvs:List<|κ×V,(kvs.any λkv=>gg (kv.1=k))=(YG kvs k).isSome
 |[]=>rfl
 |p::r=>by
  rw[Ĩ];by_cases e:p.1=k
  .simp only[Xq e,gb e,Bool.true_or,Option.isSome_some]
  .rw[Xz e,f9 e,Bool.false_or];exact Xw k r
def Xn(kvs:List<|κ×V)(k:κ)(v:V):(fe kvs k v).length<=kvs.length+1:=by
 unfold fe;split
 .rw[À];lia
 .rw[Ü,Ç,ė];lia
variable {o:Option V} {u:Option Â}
def fg.isSome_eq(r:fg o u):o.isSome=u.isSome:=by
 cases o with
 |none=>cases u with
  |none=>rfl
  |some _=>exact(show False from r).elim
 |some _=>cases u with
  |none=>exact(show False from r).elim
  |some _=>rfl
def fg.getD{d:V}{d':Â}(r:fg o u)(rd:RelV d d'):RelV (o.getD d)<|u.getD d':=by
 cases o with
 |none=>cases u with
  |none=>exact rd
  |some _=>exact(show False from r).elim
 |some _=>cases u with
  |none=>exact(show False from r).elim
  |some _=>exact r
variable {kvs:List (κ×V)} {vs:List (κ×Â)}
def KV.val(r:KV kvs vs)(k:κ):fg (YG kvs k)<|ϔ vs k:=by
 unfold KV at r;induction r with
 |nil=>exact True.intro
 |@cons p q ps qs h t ih =>
  obtain⟨h1,h2⟩:=h;by_cases e:p.1=k
  .have e':q.1=k:=h1.symm.trans e;have b:ϔ (q::qs) k=d7 q.2:=by simp[ϔ,Ę,e']
   rw[Xq e,b];exact h2
  .have e':¬ q.1=k:=λz=>e<|h1.trans z;have b:ϔ (q::qs) k=ϔ qs k:=by simp[ϔ,Ę,e']
   rw[Xz e,b];exact ih
def KV.any(r:KV kvs vs)(k:κ):(kvs.any λkv=>gg (kv.1=k))=vs.any λkv=>gg (kv.1=k):=by
 unfold KV at r;induction r with
 |nil=>rfl
 |cons h t ih=>rw[Ĩ,Ĩ,ih,h.1]
variable {y:V}
def KV.repl(r:KV kvs vs)(k:κ){u:Â}(ry:RelV y u) :
  KV (kvs.map λkv=>if kv.1=k then(kv.1,y)else kv) (vs.map λkv=>if kv.1=k then(kv.1,u)else kv):=by
 unfold KV at r ⊢;induction r with
 |nil=>exact .nil
 |@cons p q ps qs h t ih =>
  rw[Î,Î];refine .cons ?_ ih;obtain⟨h1,h2⟩:=h;by_cases e:p.1=k
  .rw[fZ e,fZ<|h1.symm.trans e];exact⟨h1,ry⟩
  .rw[f8 e,f8 λz=>e<|h1.trans z];exact⟨h1,h2⟩
def KV.put(r:KV kvs vs)(k:κ){u:Â}(ry:RelV y u):KV (fe kvs k y)<|stored vs k u:=by
 unfold fe stored;rw[r.any k];by_cases e:(vs.any λkv=>gg (kv.1=k))=d9
 .rw[fZ e,fZ e];exact r.repl k ry
 .rw[f8 e,f8 e];exact Paired.snoc r ⟨rfl,ry⟩
def KV.drop(r:KV kvs vs)(k:κ):KV (ff kvs k)<|without vs k:=by
 unfold KV at r ⊢;unfold ff without;induction r with
 |nil=>exact .nil
 |@cons p q ps qs h t ih =>
  obtain⟨h1,h2⟩:=h;rw[ą,ą];by_cases e:p.1=k
  .have a:¬ gg (p.1≠k)=d9:=by simp[e]
   have b:¬ gg (q.1≠k)=d9:=by simp[h1.symm.trans e]
   rw[f8 a,f8 b];exact ih
  .have e':¬ q.1=k:=λz=>e<|h1.trans z;have a:gg (p.1≠k)=d9:=by simp[e]
   have b:gg (q.1≠k)=d9:=by simp[e']
   rw[fZ a,fZ b];exact .cons ⟨h1,h2⟩ ih
def KV.keys(r:KV kvs vs):kvs.map (·.1)=vs.map (·.1):=by
 unfold KV at r;induction r with
 |nil=>rfl
 |cons h t ih=>rw[Î,Î,ih,h.1]
def KV.length(r:KV kvs vs):kvs.length=vs.length:=Paired.length r
def Bv(kvs:List<|κ×V)(k:κ):(ff kvs k).length<=kvs.length:=Ŏ _ _
end
variable {P:ê} {w:ý} {u:Â}
def Wq{k:Key}(r:RelV (kV k) u):(Zg P w).is k u=d9:=by
 cases k with
 |inl i=>obtain⟨t,e⟩:=(show ∃t,u=Value.int i t from r);subst e;exact N0 P w i t
 |inr x=>obtain⟨t,e⟩:=(show ∃t,u=Value.str x t from r);subst e;exact Ng P w x t
def Mg{P:ê}{w:ý}:∀{ks:List Key}{us:List Â},fR (ks.map kV) us->ItemsAre (Zg P w) ks us
 |[],_,r=>by rw[Ź]at r;cases r;exact .nil
 |k::ks,_,r=>by
  rw[Î]at r;cases r with
  |cons h t=>exact .cons (Wq h)<|Mg t
@[reducible] noncomputable def KTd(H:Hp):List (List Key×V)->List (List Key×È×Â)->Prop:=Paired λp q=>p.1=q.1/\H q.2.1=d7 (.tup<|p.1.map kV)/\RelV p.2 q.2.2
variable {H:Hp} {kvs:List (List Key×V)} {xs:List (List Key×È×Â)}
def KTd.val(r:KTd H kvs xs)(k:List Key):fg (YG kvs k) ((bX xs k).map (·.2)):=by
 induction r with
 |nil=>exact True.intro
 |@cons p q ps qs h t ih =>
  obtain⟨h1,_,h2⟩:=h;by_cases e:p.1=k
  .have e':q.1=k:=h1.symm.trans e;have b:bX (q::qs) k=d7 q.2:=by simp[bX,Ę,e']
   rw[Xq e,b];exact h2
  .have e':¬ q.1=k:=λz=>e<|h1.trans z;have b:bX (q::qs) k=bX qs k:=by simp[bX,Ę,e']
   rw[Xz e,b];exact ih
variable {y:V}
def KTd.repl(r:KTd H kvs xs)(k:List Key)(ry:RelV y u) :
  KTd H (kvs.map λkv=>if kv.1=k then(kv.1,y)else kv) (xs.map<|putAt k u):=by
 induction r with
 |nil=>exact .nil
 |@cons p q ps qs h t ih =>
  rw[Î,Î];refine .cons ?_ ih;obtain⟨h1,h2,h3⟩:=h;unfold putAt;by_cases e:p.1=k
  .rw[fZ e,fZ<|h1.symm.trans e];exact⟨h1,h2,ry⟩
  .rw[f8 e,f8 λz=>e<|h1.trans z];exact⟨h1,h2,h3⟩
variable {b:È}
def KTd.put(r:KTd H kvs xs)(k:List Key)(hb:H b=d7 (.tup<|k.map kV))(ry:RelV y u) :
  KTd H (fe kvs k y) (storedH xs k b u):=by
 have e:(kvs.any λkv=>gg (kv.1=k))=(bX xs k).isSome:=by rw[Xw,(r.val k).isSome_eq,ϡ]
 unfold fe storedH;rw[e];by_cases q:(bX xs k).isSome=d9
 .rw[fZ q,fZ q];exact r.repl k ry
 .rw[f8 q,f8 q];exact Paired.snoc r ⟨rfl,hb,ry⟩
variable {H':Hp}
def KTd.keeps(r:KTd H kvs xs)(ht:∀b ys,H b=d7 (.tup ys)->H' b=d7 (.tup ys)):KTd H' kvs xs :=
 Paired.mapP r λ_ _ z=>⟨z.1,ht _ _ z.2.1,z.2.2⟩
section
variable {P:ê}{w:ý}{H:Hp}{h:ü}{a:È}
def Hf{u:HO}(ok:HOk P w H h)(e:Rd H a u):eN P w H h a u:=e.ok ok
def Wk{kvs:List (Key×V)}(ok:HOk P w H h)(e:Rd H a<|.dK kvs):kvs.length<=Ú/\(a==ŏ)=ee/\∃vs,KV kvs vs/\h.DictOf (Zg P w) a vs :=
 show eN P w H h a (.dK kvs) from Hf ok e
def JE{kvs:List (Key×V)}(ok:HOk P w H h)(e:H a=d7 (.dK kvs)):kvs.length<=Ú/\(a==ŏ)=ee/\∃vs,KV kvs vs/\h.DictOf (Zg P w) a vs:=Wk ok (.inl e)
def eU{ks:List Key}(ok:HOk P w H h)(e:H a=d7 (.tup<|ks.map kV)):(ϭ<|Zg P w).is h ks a:=by
 obtain⟨_,ì,r,o,h1,h2,n,h3⟩:=(show eN P w H h a (.tup<|ks.map kV) from ok a _ e)
 exact⟨o,ì.toArray,n,h1,h2,h3,by simpa using Mg r⟩
def J9(ok:HOk P w H h)(e:Rd H a<|.dT kvs):kvs.length<=Ú/\(a==ŏ)=ee/\
  ∃xs,KTd H kvs xs/\h.DictOfH (ϭ<|Zg P w) a xs:=by
 obtain⟨z,y,xs,r,o,es,ep,h1,h2,h3,h4,h5⟩:=(show eN P w H h a (.dT kvs) from Hf ok e)
 refine⟨z,y,xs,r,o,es,ep,h1,h2,h3,h4,λx hx=>?_,h5⟩;have all:∀{l:List (List Key×V)}{m:List (List Key×È×Â)},KTd H l m->∀x∈m,(ϭ<|Zg P w).is h x.1 x.2.1:=by
  intro l m q;induction q with
  |nil=>intro x hx;exact nomatch hx
  |@cons p q ps qs hq t ih =>
   intro x hx;rcases Æ.mp hx with e|hx
   .subst e;exact eU ok (by rw[<-hq.1];exact hq.2.1)
   .exact ih x hx
 exact all r x hx
def P8(ok:HOk P w H h)(e:H a=d7 (.dT kvs)):kvs.length<=Ú/\(a==ŏ)=ee/\
  ∃xs,KTd H kvs xs/\h.DictOfH (ϭ<|Zg P w) a xs:=J9 ok<|.inl e
end
abbrev DGet(H:Hp)(a:È)(y:V)(r:Option V):Prop :=
 (∃kvs k,Rd H a (.dK kvs)/\y=kV k/\r=YG kvs k)\/∃kvs k b,Rd H a (.dT kvs)/\y=.ref b/\H b=d7 (.tup<|k.map kV)/\r=YG kvs k
abbrev DPut(H:Hp)(a:È)(y v:V)(H':Hp):Prop :=
 (∃kvs k,H a=d7 (.dK kvs)/\y=kV k/\kvs.length<Ú/\H'=upd H a (.dK<|fe kvs k v))\/
 ∃kvs k b,H a=d7 (.dT kvs)/\y=.ref b/\H b=d7 (.tup<|k.map kV)/\kvs.length<Ú/\H'=upd H a (.dT<|fe kvs k v)
def DGet.k{H:Hp}{a:È}{kvs:List (Key×V)}{k:Key}(e:H a=d7 (.dK kvs)):DGet H a (kV k)<|YG kvs k:=.inl ⟨kvs,k,.inl e,rfl,rfl⟩
variable {a:È}
def DGet.t{k:List Key}(e:H a=d7 (.dT kvs))(eb:H b=d7 (.tup<|k.map kV)):DGet H a (.ref b)<|YG kvs k:=.inr ⟨kvs,k,b,.inl e,rfl,eb,rfl⟩
def DPut.k{H:Hp}{a:È}{kvs:List (Key×V)}{k:Key}{v:V}(e:H a=d7 (.dK kvs))(hl:kvs.length<Ú):DPut H a (kV k) v<|upd H a<|.dK<|fe kvs k v:=.inl ⟨kvs,k,e,rfl,hl,rfl⟩
def DPut.t{k:List Key}{v:V}(e:H a=d7 (.dT kvs))(eb:H b=d7 (.tup<|k.map kV))(hl:kvs.length<Ú) :
  DPut H a (.ref b) v (upd H a<|.dT<|fe kvs k v):=.inr ⟨kvs,k,b,e,rfl,eb,hl,rfl⟩
section
variable {X:Cx}{Á:List (È×Obj)}{σ:St}{H:Hp}{s:Å}{a:È}{y v:V}{u r:Â}{o:Option V}{A:č}{E:Â->Å->Prop}
def Inv.big(I:Inv X Á σ H s):ŏ<s.heap.objs.size:=by have h:ć<s.heap.objs.size:=(I.mod.glob.keeps I.bk).lt;exact ž (by decide) h
variable {Q:Â->Å->Prop}
def K0(hu:A.units+1<Ě)(I:Inv X Á σ H s)(g:DGet H a y<|d7 v)(ry:RelV y u)(h:∀w' s',Inv X Á σ H s'->RelV v w'->Q w' s') :
  wpAny (à X.prog X.w) A (ϒ (.ref a) u) Q E s:=by
 rcases g with⟨kvs,k,e,ey,l⟩|⟨kvs,k,b,e,ey,eb,l⟩
 .subst ey;obtain⟨z,hd,vs,ũ,dd⟩:=Wk I.hok e;obtain⟨w',hw,aH⟩:=fg.some_of (v:=v) (o:=ϔ vs k) (by rw[l];exact ũ.val k);exact wpAny_getItem_of (Wq ry) dd.mapOf hw<|h w' _ (I.tok _) aH
 .subst ey;cases (show u=Value.ref b from ry);obtain⟨z,hd,xs,ũ,dd⟩:=J9 I.hok e;obtain⟨w',hw,aH⟩:=fg.some_of (v:=v) (o:=(bX xs k).map (·.2)) (by rw[l];exact ũ.val k);obtain⟨p,hp,cK⟩:=Ð.mp hw;refine wpAny_getItem_heap (ū hu) (eU I.hok eb) dd hp ?_;rw[cK];exact h w' _ (I.tok _) aH
def R0(hu:A.units+1<Ě)(I:Inv X Á σ H s)(g:DGet H a y o)(ry:RelV y u)(h:∀s',Inv X Á σ H s'->Q (.bool o.isSome) s') :
  wpAny (à X.prog X.w) A (ë .In u<|.ref a) Q E s:=by
 rcases g with⟨kvs,k,e,ey,l⟩|⟨kvs,k,b,e,ey,eb,l⟩
 .subst ey;obtain⟨z,hd,vs,ũ,dd⟩:=Wk I.hok e;refine wpAny_in_of (Wq ry) hd dd.mapOf ?_;rw[<-(ũ.val k).isSome_eq,<-l];exact h _<|I.tok _
 .subst ey;cases (show u=Value.ref b from ry);obtain⟨z,hd,xs,ũ,dd⟩:=J9 I.hok e;refine wpAny_in_heap (ū hu) (eU I.hok eb) hd dd ?_;have q:=(ũ.val k).isSome_eq;rw[ϡ]at q;rw[<-q,<-l];exact h _<|I.tok _
def E9(hu:A.units+1<Ě)(I:Inv X Á σ H s)(g:DGet H a y o)(ry:RelV y u)(h:∀s',Inv X Á σ H s'->Q (.bool (!o.isSome)) s') :
  wpAny (à X.prog X.w) A (ë .NotIn u<|.ref a) Q E s:=by
 rcases g with⟨kvs,k,e,ey,l⟩|⟨kvs,k,b,e,ey,eb,l⟩
 .subst ey;obtain⟨z,hd,vs,ũ,dd⟩:=Wk I.hok e;refine wpAny_notIn_of (Wq ry) hd dd.mapOf ?_;rw[<-(ũ.val k).isSome_eq,<-l];exact h _<|I.tok _
 .subst ey;cases (show u=Value.ref b from ry);obtain⟨z,hd,xs,ũ,dd⟩:=J9 I.hok e;refine wpAny_notIn_heap (ū hu) (eU I.hok eb) hd dd ?_;have q:=(ũ.val k).isSome_eq;rw[ϡ]at q;rw[<-q,<-l];exact h _<|I.tok _
variable {h':ü}
def W7{t':Nat}{ob:HO}(I:Inv X Á σ H s)(mu:Mut<|H a)(hs:Ŧ a s.heap h')(he:∃q,h'.get? a=d7 q)(new:eN X.prog X.w (upd H a ob) h' a ob) :
  Inv X Á σ (upd H a ob) {s with heap:=h',toks:=t'} :=
 I.write (x:=a) (e:=a) mu (.inl rfl) (λb q hb z=>(hs.2 b hb).trans z) he new
def Oj{kvs:List (Key×V)}{vs:List (Key×Â)}(z:kvs.length<=Ú)(hd:(a==ŏ)=ee)(ũ:KV kvs vs)(dd:h'.DictOf (Zg P w) a vs) :
  eN P w H' h' a (.dK kvs):=⟨z,hd,vs,ũ,dd⟩
def Ai{Q:Unit->Å->Prop}(hu:A.units+1<Ě)(I:Inv X Á σ H s)(g:DPut H a y v H')(ry:RelV y u)(rv:RelV v r)(h:∀s',Inv X Á σ H' s'->Q () s') :
  wpAny (à X.prog X.w) A (aB (.ref a) u r) Q E s:=by
 rcases g with⟨kvs,k,e,ey,l,eH⟩|⟨kvs,k,b,e,ey,eb,l,eH⟩
 .subst ey eH;obtain⟨z,hd,vs,ũ,dd⟩:=JE I.hok e;have hz:vs.length<=Ú:=by rw[<-ũ.length];exact z
  have hl:(fe kvs k v).length<=Ú:=by have:=Xn kvs k v;lia
  refine wpAny_setItem_pairs (hsz:=hz) (Wq ry) dd λh' dd' hs=>h _ ?_;have he:∃q,h'.get? a=d7 q:=let ⟨q,_,_,hq,_⟩:=dd';⟨q,hq⟩;exact W7 I (by rw[e];exact True.intro) hs he<|Oj hl hd (ũ.put k rv) dd'
 .subst ey eH;cases (show u=Value.ref b from ry);obtain⟨z,hd,xs,ũ,dd⟩:=P8 I.hok e;have hz:xs.length<=Ú:=by rw[<-Paired.length ũ];exact z
  have hl:(fe kvs k v).length<=Ú:=by have:=Xn kvs k v;lia
  refine wpAny_setItem_heap (hsz:=hz) (ū hu) (eU I.hok eb) dd λh' dd' hs=>h _ ?_;obtain⟨q,es,ep,hq,h2,h3,h4,_,h5⟩:=dd';refine W7 I (by rw[e];exact True.intro) hs ⟨q,hq⟩ ⟨hl,hd,_,(ũ.put k eb rv).keeps λc ys ec=>?_,q,es,ep,hq,h2,h3,h4,h5⟩;rw[ei<|Dq ec e λz=>nomatch z];exact ec
end
section
variable {X:Cx}{Á:List (È×Obj)}{σ:St}{H:Hp}{s:Å}{a:È}{kvs:List (Key×V)}{k:Key}{u:Â}{A:č}{E:Â->Å->Prop}
variable {Q:Â->Å->Prop}
def Hg{v:V}{more:List Â}(I:Inv X Á σ H s)(e:H a=d7 (.dK kvs))(ry:RelV (kV k) u)(l:YG kvs k=d7 v)(hm:more=[]\/∃x,more=[x])
  (h:∀w' s',Inv X Á σ (upd H a<|.dK<|ff kvs k) s'->RelV v w'->Q w' s'):wpAny (à X.prog X.w) A (call (.builtin "dict.pop")<|.ref a::u::more) Q E s:=by
 obtain⟨z,hd,vs,ũ,dd⟩:=JE I.hok e;obtain⟨w',hw,aH⟩:=fg.some_of (v:=v) (o:=ϔ vs k) (by rw[<-l];exact ũ.val k);have hp:(keyPart u).isSome=d9:=by
  cases k with
  |inl i=>obtain⟨t,q⟩:=(show ∃t,u=Value.int i t from ry);subst q;rfl
  |inr x=>obtain⟨t,q⟩:=(show ∃t,u=Value.str x t from ry);subst q;rfl
 have ha:bY "dict.pop" ⟨.ref a::u::more,[]⟩:=by
  rcases hm with q|⟨x,q⟩
  .subst q;exact PySem.F.args_dict_pop_2 _ _
  .subst q;exact PySem.F.args_dict_pop_3 _ _ _
 refine ϕ PySem.F.slot_dict_pop dd.typeIs PySem.F.entry_dict_pop ha (meets_dict_pop_there (Zg X.prog X.w) a (Wq ry) more hm hp)
  ⟨vs,w',dd,by rw[<-ũ.length];exact z,hw,λh' dd' hs=>h w' _ ?_ aH⟩
 have he:∃q,h'.get? a=d7 q:=let ⟨q,_,_,hq,_⟩:=dd';⟨q,hq⟩;exact W7 I (by rw[e];exact True.intro) hs he<|Oj (ß (Bv kvs k) z) hd (ũ.drop k) dd'
def HP{r:Â}(I:Inv X Á σ H s)(e:H a=d7 (.dK kvs))(ry:RelV (kV k) u)(l:YG kvs k=d8)(h:∀s',Inv X Á σ H s'->Q r s') :
  wpAny (à X.prog X.w) A (call (.builtin "dict.pop") [.ref a,u,r]) Q E s:=by
 obtain⟨z,hd,vs,ũ,dd⟩:=JE I.hok e;have hn:ϔ vs k=d8:=fg.none_of (by rw[<-l];exact ũ.val k);have hp:(keyPart u).isSome=d9:=by
  cases k with
  |inl i=>obtain⟨t,q⟩:=(show ∃t,u=Value.int i t from ry);subst q;rfl
  |inr x=>obtain⟨t,q⟩:=(show ∃t,u=Value.str x t from ry);subst q;rfl
 exact ϕ PySem.F.slot_dict_pop dd.typeIs PySem.F.entry_dict_pop (PySem.F.args_dict_pop_3 _ _ _) (meets_dict_pop_default (Zg X.prog X.w) a (Wq ry) hd hp r) ⟨vs,dd,hn,h _<|I.tok _⟩
def Rw(I:Inv X Á σ H s)(e:Rd H a<|.dK kvs)(h:∀t s',Inv X Á σ H s'->Q (.int kvs.length t) s'):wpAny (à X.prog X.w) A (call (.builtin "len") [.ref a]) Q E s:=by obtain⟨z,hd,vs,ũ,dd⟩:=Wk I.hok e;refine call_len_dict hd dd (by rw[<-ũ.length];rw[Ϥ]at z;lia) ?_;rw[<-ũ.length];exact h _ _ (I.tok _)
end
variable {X:Cx} {Á:List (È×Obj)} {σ:St} {s:Å}
def NE{o:Option V}(I:Inv X Á σ H s)(g:DGet H a y o):s.TypeIs (.ref a) "dict":=by
 rcases g with⟨kvs,k,e,_,_⟩|⟨kvs,k,b,e,_,_,_⟩
 .obtain⟨_,_,vs,_,dd⟩:=Wk I.hok e;exact dd.typeIs
 .obtain⟨_,_,xs,_,dd⟩:=J9 I.hok e;exact dd.typeIs
def No(h:ü)(hb:ŏ<h.objs.size):eN P w H (h.push {cls:=.type "dict",data:=.dict #[]}) h.objs.size (.dK []) :=
 ⟨Ň _,beq_eq_false_iff_ne.mpr<|Ne.symm<|ç hb,[],.nil,Heap.DictOf.new h⟩
abbrev L4:TE:=λ_ H Q=>∀p,H p=d8->Q (.ref p) (upd H p<|.dK [])
section
variable {X:Cx}{æ:Pos}
def pe_dnewK:PE X (.Dict [] [] æ) L4:=λÁ s σ H Q I h =>
 wpAny_Dict_empty ⟨.ref s.heap.objs.size,_,I.laid (a:=s.heap.objs.size) (o:=.dK []) (t':=s.toks) (λ_ _ q=>Ä _ q) (Í _)<|No s.heap I.big,rfl,h _<|I.hok.fresh<|Í _⟩
end
abbrev MW:List (TE×TE)->St->Hp->(List (V×V)->Hp->Prop)->Prop
 |[],_,H,Q=>Q [] H
 |(tk,tv)::r,σ,H,Q=>tk σ H λx H1=>tv σ H1 λy H2=>MW r σ H2 λps H3=>Q ((x,y)::ps) H3
@[reducible] noncomputable def VV:List (V×V)->List (Â×Â)->Prop:=Paired λp q=>RelV p.1 q.1/\RelV p.2 q.2
abbrev PPs(X:Cx)(æ:Pos)(keys:List<|Option Expr)(Δ:List Expr)(trs:List<|TE×TE):Prop :=
 ∀(Á:List<|È×Obj) (s:Å) (σ:St) (H:Hp) (Q:List (V×V)->Hp->Prop),Inv X Á σ H s->MW trs σ H Q->
  wpAny (à X.prog X.w) X.A (evalPairs<|pairTrees keys Δ X.env æ) (λvs s'=>∃ps H',Inv X Á σ H' s'/\VV ps vs/\Q ps H') X.xe s
variable {æ:Pos}
def GN:PPs X æ [] [] []:=λÁ s σ H Q I h=>pairTrees_nil_walk ⟨[],H,I,.nil,h⟩
variable {trs:List (TE×TE)}
def BQ{k v:Expr}{ks:List (Option Expr)}{vs:List Expr}{tk tv:TE}(hk:PE X k tk)(hv:PE X v tv)(hr:PPs X æ ks vs trs) :
  PPs X æ (d7 k::ks) (v::vs) ((tk,tv)::trs):=λÁ s σ H Q I h =>
 pairTrees_cons_walk (thn (hk Á s σ H _ I h) λu s1 ⟨x,H1,I1,rx,q1⟩=>thn (hv Á s1 σ H1 _ I1 q1) λw2 s2 ⟨y,H2,I2,ry,q2⟩ =>
   thn (hr Á s2 σ H2 _ I2 q2) λws s3 ⟨ps,H3,I3,ũ,q3⟩=>⟨(x,y)::ps,H3,I3,.cons ⟨rx,ry⟩ ũ,q3⟩)
abbrev Xv(kvs more:List<|Key×V):List<|Key×V:=more.foldl (λĬ kv=>fe Ĭ kv.1 kv.2) kvs
def KV.merge:∀{more:List (Key×V)}{rs:List (Key×Â)}{kvs:List (Key×V)}{vs:List (Key×Â)},KV more rs->KV kvs vs->KV (Xv kvs more) (merged vs rs):=by
 intro more rs kvs vs r;unfold KV at r;induction r generalizing kvs vs with
 |nil=>intro q;exact q
 |@cons p q ps qs h t ih =>
  intro r0;have e:KV (fe kvs p.1 p.2)<|stored vs q.1 q.2:=by have:=r0.put p.1 h.2;rw[<-h.1];exact this
  exact ih e
def XS:∀(more kvs:List<|Key×V),(Xv kvs more).length<=kvs.length+more.length
 |[],kvs=>by show kvs.length<=kvs.length+0;lia
 |p::r,kvs=>by have h1:=XS r<|fe kvs p.1 p.2;have h2:=Xn kvs p.1 p.2;show(Xv (fe kvs p.1 p.2) r).length<=_;rw[Ç];lia
def J4{P:ê}{w:ý}:∀{kvs:List (Key×V)}{ws:List (Â×Â)},VV (kvs.map λkv=>(kV kv.1,kv.2)) ws->∃rs,Carries (Zg P w) ws rs/\KV kvs rs
 |[],_,r=>by rw[Ź]at r;cases r;exact⟨[],True.intro,.nil⟩
 |p::kvs,_,r=>by
  rw[Î]at r;cases r with
  |@cons a b as bs h t =>obtain⟨rs,c,q⟩:=J4 (P:=P) (w:=w) t;obtain⟨b1,b2⟩:=b;exact⟨(p.1,b2)::rs,⟨Wq h.1,rfl,c⟩,.cons ⟨rfl,h.2⟩ q⟩
abbrev Rh(trs:List<|TE×TE):TE:=λσ H Q=>∀p,H p=d8->MW trs σ (upd H p<|.dK []) λps H2=>H2 p=d7 (.dK [])/\∃kvs:List<|Key×V,ps=kvs.map (λkv=>(kV kv.1,kv.2))/\kvs.length<=15/\Q (.ref p) (upd H2 p<|.dK<|Xv [] kvs)
def Ft{keys:List (Option Expr)}{Δ:List Expr}(h:PPs X æ keys Δ trs)(hall:keys.all (·.isSome)=d9)(hl:keys.length=Δ.length)(h0:keys≠[])
  (h15:keys.length<=15):PE X (.Dict keys Δ æ)<|Rh trs:=by
 intro Á s σ H Q I q;have hn:=I.hok.fresh<|Í s.heap.objs.size;have I1:=I.laid (a:=s.heap.objs.size) (o:=.dK []) (h':=s.heap.push {cls:=.type "dict",data:=.dict #[]}) (t':=s.toks) (λ_ _ q=>Ä _ q) (Í _)<|No s.heap I.big;refine wpAny_Dict_walk (knd:=Zg X.prog X.w) hall hl h0 h15<|thn (h Á _ σ _ _ I1<|q _ hn) λws s2 ⟨ps,H2,I2,ũ,e,kvs,ep,lk,q2⟩=>?_;subst ep;obtain⟨rs,c,rk⟩:=J4 (P:=X.prog) (w:=X.w) ũ;obtain⟨z,hd,vs0,r0,dd⟩:=JE I2.hok e;cases r0;refine⟨rs,c,dd,λh' dd' hs=>⟨.ref s.heap.objs.size,_,?_,rfl,q2⟩⟩;have hz:(Xv [] kvs).length<=Ú:=by have h1:=XS kvs [];rw[ė]at h1;rw[Ϥ];lia
 have he:∃q,h'.get? s.heap.objs.size=d7 q:=let ⟨q,_,_,hq,_⟩:=dd';⟨q,hq⟩;exact W7 I2 (by rw[e];exact True.intro) hs he<|Oj hz hd (rk.merge .nil) dd'
abbrev Sq(H:Hp)(a:È):Prop:=(∃kvs,Rd H a<|.dK kvs)\/∃kvs,Rd H a (.dT kvs)
def IX(I:Inv X Á σ H s)(d:Sq H a) :
  s.TypeIs (.ref a) "dict"/\(∀b,Value.ref a=.ref b->∃ob,s.heap.get? b=d7 ob/\ob.dict=d8)/\(a==ŏ)=ee:=by
 rcases d with⟨kvs,e⟩|⟨kvs,e⟩
 .obtain⟨_,hd,vs,_,dd⟩:=Wk I.hok e;refine⟨dd.typeIs,λb q=>?_,hd⟩;cases q;obtain⟨ob,_,_,h1,h2,_⟩:=dd;exact⟨ob,h1,h2.2.1⟩
 .obtain⟨_,hd,xs,_,dd⟩:=J9 I.hok e;refine⟨dd.typeIs,λb q=>?_,hd⟩;cases q;obtain⟨ob,_,_,h1,h2,_⟩:=dd;exact⟨ob,h1,h2.2.1⟩
section
variable {X:Cx}{Á:List (È×Obj)}{σ:St}{H:Hp}{s:Å}{a:È}{y d:V}{u r:Â}{o:Option V}{A:č}{E:Â->Å->Prop}
def Ly{Q:Â->Å->Prop}(hu:A.units+1<Ě)(I:Inv X Á σ H s)(g:DGet H a y o)(ry:RelV y u)(h:∀w' s',Inv X Á σ H s'->RelV (o.getD .non) w'->Q w' s') :
  wpAny (à X.prog X.w) A (call (.builtin "dict.get") [.ref a,u]) Q E s:=by
 rcases g with⟨kvs,k,e,ey,l⟩|⟨kvs,k,b,e,ey,eb,l⟩
 .subst ey;obtain⟨z,hd,vs,ũ,dd⟩:=Wk I.hok e;refine ϕ PySem.F.slot_dict_get dd.typeIs PySem.F.entry_dict_get (PySem.F.args_dict_get_2 _ _) (meets_dict_get (Zg X.prog X.w) a (Wq ry) hd) ⟨_,dd.mapOf,h _ _ (I.tok _) ?_⟩;rw[l];exact(ũ.val k).getD rfl
 .subst ey;cases (show u=Value.ref b from ry);obtain⟨z,hd,xs,ũ,dd⟩:=J9 I.hok e;refine ϕ PySem.F.slot_dict_get dd.typeIs PySem.F.entry_dict_get (PySem.F.args_dict_get_2 _ _) (meetsH_dict_get (ϭ<|Zg X.prog X.w) a b hd) ⟨ū hu,k,xs,eU I.hok eb,dd,h _ _ (I.tok _) ?_⟩;rw[l];exact(ũ.val k).getD rfl
end
section
variable {X:Cx}
def AI:eM X (.builtin "len") λxs H Q=>∃a kvs,xs=[V.ref a]/\H a=d7 (.dK kvs)/\Q (.int kvs.length) H:=by intro Á s σ H xs us Q I r h;obtain⟨a,kvs,rfl,ha,q⟩:=h;obtain⟨u,rfl,ru⟩:=ZU r;cases ru;exact Rw I (.inl ha) λt s' I'=>⟨.int kvs.length,H,I',⟨t,rfl⟩,q⟩
end
end L2
namespace fY
noncomputable abbrev Ad:=Nat
inductive Val where
 |non|bl (b:Bool)|int (i:Int)|str (s:String)|tup (xs:List Val)|ref (a:Ad)|scr (ns:List Int)|key (i j:Int)
 deriving Inhabited
mutual
noncomputable def Val.eqb:Val->Val->Bool
 |.non,b=>match b with|.non=>d9|_=>ee
 |.bl a,b=>match b with|.bl c=>a==c|_=>ee
 |.int a,b=>match b with|.int c=>a==c|_=>ee
 |.str a,b=>match b with|.str c=>a==c|_=>ee
 |.tup a,b=>match b with|.tup c=>Val.eqs a c|_=>ee
 |.ref a,b=>match b with|.ref c=>a==c|_=>ee
 |.scr a,b=>match b with|.scr c=>a==c|_=>ee
 |.key a b,x=>match x with|.key c d=>a==c&&b==d|_=>ee
noncomputable def Val.eqs:List Val->List Val->Bool
 |[],b=>match b with|[]=>d9|_=>ee
 |x::xs,b=>match b with|y::ys=>Val.eqb x y&&Val.eqs xs ys|_=>ee
end
mutual
theorem Val.eqb_iff:∀{a b:Val},Val.eqb a b=d9↔a=b
 |.non,b=>by cases b<;>simp[Val.eqb]
 |.bl _,b=>by cases b<;>simp[Val.eqb]
 |.int _,b=>by cases b<;>simp[Val.eqb]
 |.str _,b=>by cases b<;>simp[Val.eqb]
 |.tup _,b=>by cases b<;>simp[Val.eqb,Val.eqs_iff]
 |.ref _,b=>by cases b<;>simp[Val.eqb]
 |.scr _,b=>by cases b<;>simp[Val.eqb]
 |.key _ _,b=>by cases b<;>simp[Val.eqb]
theorem Val.eqs_iff:∀{a b:List Val},Val.eqs a b=d9↔a=b
 |[],b=>by cases b<;>simp[Val.eqs]
 |_::_,b=>by cases b<;>simp[Val.eqs,Val.eqb_iff,Val.eqs_iff]
end
noncomputable instance:DecidableEq Val:=λa b=>if h:Val.eqb a b=d9 then isTrue (Val.eqb_iff.mp h)else isFalse λe=>h<|Val.eqb_iff.mpr e
inductive Ob where
 |lst (xs:List Val)|dct (kvs:List<|Val×Val)|ins (C:String) (fs:List<|String×Val)|exc (C:String)|frz (kvs:List<|Val×Val)|dtp (kvs:List<|Val×Val)
 deriving Inhabited
abbrev RG:Val->Option String
 |.str s=>d7 s
 |_=>d8
abbrev oneC(s:String):Option Char:=match s.toList with
 |[c]=>d7 c
 |_=>d8
abbrev GC(i:Int):String:=toString i
abbrev fmtV:Val->Option String
 |.str s=>d7 s
 |.int i=>if i.natAbs<10 ^ 200 then d7 (GC i)else d8
 |_=>d8
noncomputable abbrev Hs:=Ad->Option Ob
@[irreducible] noncomputable def upd(h:Hs)(a:Ad)(o:Ob):Hs:=λb=>if b=a then d7 o else h b
variable {h:Hs} {a:Ad} {o:Ob}
def ej:upd h a o a=d7 o:=by simp[upd]
def ei{b:Ad}(e:b≠a):upd h a o b=h b:=by simp[upd,e]
def eB{u:Ob}:upd (upd h a o) a u=upd h a u:=by funext b;simp only[upd];split<;>rfl
noncomputable abbrev Env:=List<|Option Val
noncomputable abbrev Q1:=Val->Hs->Prop
noncomputable abbrev XQ:=String->Hs->Prop
noncomputable abbrev Fs:=String->List Val->Hs->Q1->XQ->Prop
abbrev lim:Nat:=1000000
variable {α:Type}
@[irreducible] noncomputable def go(o:Option α)(k:α->Prop):Prop:=match o with|some a=>k a|none=>False
@[simp] theorem eC{a:α}{k:α->Prop}:go (d7 a) k=k a:=by unfold go;rfl
@[simp] theorem EB{k:α->Prop}:go d8 k=False:=by unfold go;rfl
def eF{o:Option α}{a:α}{k:α->Prop}(e:o=d7 a)(h:k a):go o k:=by rw[e,eC];exact h
set_option genInjectivity false
inductive Bop where|add|sub|mul|fdiv|mod|pow
inductive Cop where|eq|ne|lt|le|gt|ge|isin|notin|is|isnot|eqE|neE|ntT
inductive Bi where
 |len|int|str|bool|abs|min2|max2|minL|maxL|minD|sum|all|any|sorted|sortedI|sortedSet|lenSet|list|tuple|dict|isi (Ts:List String)|isx (Ts:List String)|isc (C:String)|repr|listRev|listRange|tupRange|dictEnum
inductive Bm where
 |append|extend|pop|popAt|insert|remove|clear|reverse|index|count|dget|dgetD|dpop|dpopD|setdefault|join|split|replace|upper|partition|sidx
inductive Pt where|one (i:Nat)|many (is:List Nat)|nest (i:Nat) (is:List Nat)
mutual
inductive E where
 |cst (v:Val)|var (i:Nat)|glob (x:String) (v:Val)
 |bin (op:Bop) (a b:E)|neg (a:E)|not (a:E)|and (a b:E)|or (a b:E)
 |cmp (op:Cop) (a b:E)|chain (o1 o2:Cop) (a b c:E)
 |call (f:String) (as:Es)|make (C:String) (as:Es)|meth (C m:String) (o:E) (as:Es)|fld (o:E) (f:String)
 |bi (f:Bi) (as:Es)|bm (m:Bm) (o:E) (as:Es)
 |idx (a i:E)|slc (a:E) (lo hi:Oe)|rev (a:E)
 |tup (es:Es)|lst (es:Es)|dct (es:Es)
 |ife (c:Tt) (a b:E)
 |comp (ö:List Nat) (n:Nat) (p:Pt) (it:It) (c:Tt) (e:E)
 |fstr (es:Es)
 |split (o a:E)
 |repl (o:E) (y z:String)
 |key (es:Es)|dctP
inductive Es where|nil|cons (e:E) (es:Es)
inductive Oe where|none|some (e:E)
inductive Tt where|yes|val (e:E)|not (t:Tt)|and (a b:Tt)|or (a b:Tt)
inductive It where
 |seq (e:E)|chars (e:E)|range (a:E)|range2 (a b:E)|enum (e:E)|zip (a b:E)|items (e:E)|rev (e:E)
end
mutual
inductive S where
 |set (p:Pt) (e:E)|setIdx (a i e:E)|setFld (o:E) (f:String) (e:E)
 |augVar (i:Nat) (op:Bop) (e:E)|augFld (o:E) (f:String) (op:Bop) (n:Int)|augIdx (a i:E) (op:Bop) (n:Int)
 |setPair (a i b j e:E)
 |expr (e:E)|ret (e:E)|retN|ite (c:Tt) (a b:Ss)|whl (c:Tt) (b:Ss)|for (p:Pt) (it:It) (b:Ss)|forI (k:Bool) (p:Pt) (e:E) (b:Ss)
 |never|brk|cnt|pass|raise (C:String) (as:Es)|try (t:Option Nat) (e:E) (hs:Hn)
inductive Ss where|nil|cons (s:S) (ss:Ss)
inductive Hn where|nil|cons (C:String) (n:Option Nat) (b:Ss) (r:Hn)
end
set_option genInjectivity true
abbrev ixN(n:Nat)(i:Int):Option Nat:=if 0<=i then(if i<n then d7 i.toNat else d8)else if -(n:Int)<=i then d7 (i+n).toNat else d8
abbrev atI(xs:List α)(i:Int):Option α:=(ixN xs.length i).bind λj=>xs[j]?
abbrev fm(n d:Nat):Option Int->Nat
 |none=>d
 |some i=>if 0<=i then min i.toNat n else(i+n).toNat
abbrev cut(xs:List α)(lo hi:Option Int):List α:=(xs.drop<|fm xs.length 0 lo).take<|fm xs.length xs.length hi - fm xs.length 0 lo
abbrev eR:Option Ob->Option (List Val)
 |some (.lst xs)=>d7 xs
 |_=>d8
@[simp] theorem Xu{xs:List Val}:eR (d7<|.lst xs)=d7 xs:=rfl
abbrev B5(h:Hs):Val->Option (List Val)
 |.ref a=>eR<|h a
 |.tup xs=>d7 xs
 |.scr ns=>d7<|ns.map .int
 |_=>d8
abbrev fT:Option Ob->Option (List<|Val×Val)
 |some (.dct kvs)=>d7 kvs
 |_=>d8
abbrev fb(kvs:List<|Val×Val)(k:Val):Option Val:=(kvs.find? λp=>p.1==k).map (·.2)
abbrev fc(kvs:List<|Val×Val)(k:Val):Bool:=kvs.any λp=>p.1==k
abbrev fe(kvs:List<|Val×Val)(k v:Val):List<|Val×Val:=if fc kvs k then kvs.map λp=>if p.1==k then(k,v)else p else kvs++[(k,v)]
abbrev ff(kvs:List<|Val×Val)(k:Val):List<|Val×Val:=kvs.filter λp=>!(p.1==k)
abbrev eX:Val->Bool
 |.int _=>d9
 |.str _=>d9
 |_=>ee
inductive D where
 |non|bl (b:Bool)|int (i:Int)|str (s:String)|tup (ds:List D)|lst (ds:List D)
 deriving Inhabited
mutual
noncomputable def D.eqv:D->D->Bool
 |.non,.non=>d9
 |.bl a,.bl b=>a==b
 |.bl a,.int i=>(if a then 1 else 0)==i
 |.int i,.bl a=>i==(if a then 1 else 0)
 |.int a,.int b=>a==b
 |.str a,.str b=>a==b
 |.tup a,.tup b=>D.eqvs a b
 |.lst a,.lst b=>D.eqvs a b
 |_,_=>ee
noncomputable def D.eqvs:List D->List D->Bool
 |[],[]=>d9
 |x::xs,y::ys=>D.eqv x y&&D.eqvs xs ys
 |_,_=>ee
end
abbrev dat(h:Hs):Nat->Val->Option D
 |_,.non=>d7 .non
 |_,.bl b=>d7<|.bl b
 |_,.int i=>d7<|.int i
 |_,.str s=>d7<|.str s
 |0,_=>d8
 |n+1,.tup xs=>(xs.mapM<|dat h n).map .tup
 |n+1,.ref a=>(eR<|h a).bind λxs=>(xs.mapM<|dat h n).map .lst
 |n+1,.scr ns=>d7<|.lst<|ns.map .int
 |_+1,.key _ _=>d8
abbrev deep:Nat:=12
abbrev eqV(h:Hs)(v u:Val):Option Bool:=(dat h deep v).bind λd=>(dat h deep u).map λe=>D.eqv d e
abbrev eL:List Val->Option (List Int)
 |[]=>d7 []
 |.int i::xs=>(eL xs).map (i :: ·)
 |_=>d8
abbrev fo:List Int->List Int->Bool
 |[],[]=>ee
 |[],_::_=>d9
 |_::_,[]=>ee
 |x::xs,y::ys=>if x=y then fo xs ys else gg (x<y)
abbrev fq:Val->Val->Option Bool
 |.int i,.int j=>d7<|gg (i<j)
 |.tup xs,.tup ys=>(eL xs).bind λns=>(eL ys).map λms=>fo ns ms
 |_,_=>d8
abbrev inL(h:Hs)(x:Val)(ys:List Val):Option Bool:=(dat h deep x).bind λd=>(ys.mapM<|dat h<|deep - 1).map λds=>ds.any λe=>D.eqv e d
abbrev leV:Val->Val->Option Bool
 |.int i,.int j=>d7<|gg (i<=j)
 |_,_=>d8
abbrev isKeyT:Val->Bool
 |.key _ _=>d9
 |_=>ee
abbrev inV(h:Hs)(v u:Val):Option Bool:=match u with
 |.tup xs=>inL h v xs
 |.ref a=>match h a with
  |some (.lst xs)=>inL h v xs
  |some (.dct kvs)=>if eX v then d7 (fc kvs v)else d8
  |some (.frz kvs)=>if eX v then d7 (fc kvs v)else d8
  |some (.dtp kvs)=>if isKeyT v then d7 (fc kvs v)else d8
  |_=>d8
 |.str t=>(match v with|.str s=>(oneC s).map λc=>gg (c∈t.toList)|_=>d8)
 |_=>d8
abbrev isV(v u:Val):Option Bool:=match u with
 |.non=>d7<|gg (v=.non)
 |.bl b=>d7<|gg (v=.bl b)
 |_=>d8
abbrev asLst(h:Hs):Val->Option (List Val)
 |.ref a=>eR<|h a
 |_=>d8
abbrev eW(h:Hs)(op:Cop)(v u:Val):Option Bool:=match op with
 |.eq=>eqV h v u
 |.ne=>(eqV h v u).map (!·)
 |.lt=>fq v u
 |.gt=>fq u v
 |.le=>leV v u
 |.ge=>leV u v
 |.isin=>inV h v u
 |.notin=>(inV h v u).map (!·)
 |.is=>isV v u
 |.isnot=>(isV v u).map (!·)
 |.eqE=>(asLst h v).bind λxs=>(asLst h u).bind λys=>if ys.isEmpty then d7 xs.isEmpty else d8
 |.neE=>(asLst h v).bind λxs=>(asLst h u).bind λys=>if ys.isEmpty then d7 (!xs.isEmpty)else d8
 |_=>d8
abbrev WK(h:Hs):Val->Option Bool
 |.bl b=>d7 b
 |.int i=>d7<|gg (i≠0)
 |.non=>d7 ee
 |.str s=>if s.length<=lim then d7 (gg (s.length≠0))else d8
 |.tup xs=>d7 (!xs.isEmpty)
 |.scr ns=>d7 (!ns.isEmpty)
 |.ref a=>match h a with
  |some (.lst xs)=>d7 (!xs.isEmpty)
  |some (.dct kvs)=>d7 (!kvs.isEmpty)
  |_=>d8
 |.key _ _=>d8
abbrev mulOk(i j:Int):Prop:=(i.natAbs<2 ^ 64\/j.natAbs<2 ^ 64)\/(i.natAbs<=10 ^ 200/\j.natAbs<=10 ^ 200)
instance (i j:Int):Decidable<|mulOk i j:=inferInstanceAs<|Decidable<|_\/_
@[irreducible] noncomputable def new(h:Hs)(o:Ob)(Q:Q1):Prop:=∀p,h p=d8->Q (.ref p) (upd h p o)
variable {Q:Q1}
def YD(q:∀p,h p=d8->Q (.ref p) (upd h p o)):new h o Q:=by unfold new;exact q
inductive Rs where|val (v:Val)|new (o:Ob)|no
@[irreducible] noncomputable def Rs.wp(r:Rs)(h:Hs)(Q:Q1):Prop:=match r with|.val v=>Q v h|.new o=>fY.new h o Q|.no=>False
@[simp] theorem Rs.wp_val{v:Val}:(Rs.val v).wp h Q=Q v h:=by unfold Rs.wp;rfl
@[simp] theorem Rs.wp_new:(Rs.new o).wp h Q=fY.new h o Q:=by unfold Rs.wp;rfl
@[simp] theorem Rs.wp_no:Rs.no.wp h Q=False:=by unfold Rs.wp;rfl
abbrev Rs.ofO:Option Val->Rs
 |some v=>.val v
 |none=>.no
abbrev Rs.lst(xs:List Val):Rs:=if xs.length<=lim then .new (.lst xs)else .no
abbrev addV(h:Hs):Val->Val->Rs
 |.int i,.int j=>.val<|.int<|i+j
 |.str s,.str t=>if s.length+t.length<=lim then .val (.str<|s++t)else .no
 |.tup xs,.tup ys=>if xs.length+ys.length<=lim then .val (.tup<|xs++ys)else .no
 |.ref a,.ref b=>match h a,h b with
  |some (.lst xs),d7 (.lst ys)=>Rs.lst<|xs++ys
  |_,_=>.no
 |_,_=>.no
abbrev repT(s:String)(n:Nat):String:=ρ (Ø n s.toList).flatten
abbrev mulV(h:Hs):Val->Val->Rs
 |.int i,.int j=>if mulOk i j then .val (.int<|i*j)else .no
 |.ref a,.int k=>match h a with
  |some (.lst xs)=>if -(2 ^ 62)<k/\k<2 ^ 62/\xs.length*k.toNat<=lim then Rs.lst (Ø k.toNat xs).flatten else .no
  |_=>.no
 |.str s,.int k=>if 2<=k/\k<=1000000/\1<=s.length/\s.length*k.toNat<=lim then .val (.str<|repT s k.toNat)else .no
 |_,_=>.no
abbrev intV(f:Int->Int->Rs):Val->Val->Rs
 |.int i,.int j=>f i j
 |_,_=>.no
abbrev binV(h:Hs)(op:Bop)(v u:Val):Rs:=match op with
 |.add=>addV h v u
 |.sub=>intV (λi j=>.val<|.int<|i - j) v u
 |.mul=>mulV h v u
 |.fdiv=>intV (λi j=>if 0<j/\j<1073741824 then .val (.int<|i / j)else .no) v u
 |.mod=>intV (λi j=>if 0<j then .val (.int<|i % j)else .no) v u
 |.pow=>intV (λi j=>if 0<=j/\j<=1000000/\i.natAbs<2 ^ 64 then .val (.int<|i ^ j.toNat)else .no) v u
abbrev fU:Val->Option Int
 |.int i=>d7 i
 |_=>d8
abbrev fu(h:Hs):Val->Val->Option Val
 |.tup xs,.int k=>atI xs k
 |.str s,.int k=>if s.length<=lim then(atI s.toList k).map λc=>.str (ϱ c)else d8
 |.ref a,k=>match h a with
  |some (.lst xs)=>(fU k).bind<|atI xs
  |some (.dct kvs)=>if eX k then fb kvs k else d8
  |some (.frz kvs)=>if eX k then fb kvs k else d8
  |some (.dtp kvs)=>if isKeyT k then fb kvs k else d8
  |_=>d8
 |.scr ns,.int i=>atI (ns.map .int) i
 |_,_=>d8
abbrev fv(h:Hs)(v:Val)(lo hi:Option Int):Rs :=
 match v with
 |.tup xs=>if fm xs.length 0 lo=0/\fm xs.length xs.length hi=xs.length then .val (.tup xs)else .val (.tup<|cut xs lo hi)
 |.ref a=>match eR (h a)with
  |some xs=>.new<|.lst<|cut xs lo hi
  |none=>.no
 |.scr ns=>.new<|.lst<|cut (ns.map .int) lo hi
 |.str s=>if s.length<=lim then .val (.str<|ρ<|cut s.toList lo hi)else .no
 |_=>.no
abbrev sortI(ns:List Int):List Int:=ns.mergeSort λa b=>gg (a<=b)
abbrev blsOf:List Val->Option (List Bool)
 |[]=>d7 []
 |.bl b::xs=>(blsOf xs).map (b :: ·)
 |_=>d8
abbrev minL:List Val->Option Val
 |[]=>d8
 |x::xs=>xs.foldl (λm y=>m.bind λb=>(fq y b).map λc=>if c then y else b)<|d7 x
abbrev maxL:List Val->Option Val
 |[]=>d8
 |x::xs=>xs.foldl (λm y=>m.bind λb=>(fq b y).map λc=>if c then y else b)<|d7 x
abbrev dedup:List Int->List Int
 |[]=>[]
 |x::xs=>x::(dedup xs).filter (· != x)
abbrev fO(c d:String):Bool:=c==d||d == "ShutError" || d == "ValueError" || d == "Exception"
abbrev fW(h:Hs):Val->Option String
 |.non=>d7 "NoneType"
 |.bl _=>d7 "bool"
 |.int _=>d7 "int"
 |.str _=>d7 "str"
 |.tup _=>d7 "tuple"
 |.scr _=>d7 "list"
 |.ref a=>match h a with
  |some (.lst _)=>d7 "list"
  |some (.dct _)=>d7 "dict"
  |_=>d8
 |.key _ _=>d8
abbrev fX(h:Hs)(v:Val)(T:String):Option Bool:=(fW h v).map λt=>t==T||(t == "bool" && T == "int")
abbrev excOf:Option Ob->Option String
 |some (.exc c)=>d7 c
 |_=>d8
abbrev excV(h:Hs):Val->Option String
 |.ref a=>excOf<|h a
 |_=>d8
abbrev isiAny(h:Hs)(v:Val):List String->Option Bool
 |[]=>d7 ee
 |T::Ts=>(fX h v T).bind λb=>(isiAny h v Ts).map (b || ·)
abbrev pairUp:List Val->Option (List<|Val×Val)
 |[]=>d7 []
 |k::v::r=>if eX k then(pairUp r).map ((k,v) :: ·)else d8
 |_=>d8
abbrev putAll(kvs:List<|Val×Val):List (Val×Val)->List (Val×Val)
 |[]=>kvs
 |(k,v)::r=>putAll (fe kvs k v) r
abbrev fA(h:Hs):Val->Rs
 |.ref a=>match h a with
  |some (.lst xs)=>.val<|.int xs.length
  |some (.dct kvs)=>.val<|.int kvs.length
  |_=>.no
 |.tup xs=>.val<|.int xs.length
 |.scr ns=>.val<|.int ns.length
 |.str s=>if s.length<=lim then .val (.int s.length)else .no
 |_=>.no
abbrev absV:Val->Rs
 |.int i=>.val (.int<|if i<0 then -i else i)
 |_=>.no
abbrev eS(f:Val->Rs):List Val->Rs
 |[v]=>f v
 |_=>.no
abbrev biOf2(f:Val->Val->Rs):List Val->Rs
 |[v,u]=>f v u
 |_=>.no
abbrev rowsOf:List Val->Option (List<|List Int)
 |[]=>d7 []
 |.tup xs::r=>(eL xs).bind λns=>(rowsOf r).map (ns :: ·)
 |_=>d8
abbrev minR(b:List Int):List (List Int)->List Int
 |[]=>b
 |y::r=>minR (if fo y b then y else b) r
abbrev fB(h:Hs)(v:Val):Rs:=match v with
 |.ref a=>match (eR<|h a).bind rowsOf with
  |some []=>.val .non
  |some (x::r)=>.val<|.tup<|(minR x r).map .int
  |none=>.no
 |_=>.no
abbrev min2V:Val->Val->Rs
 |.int i,.int j=>.val (.int<|if j<i then j else i)
 |.tup xs,.tup ys=>match eL xs,eL ys with
  |some ns,d7 ms=>.val (if fo ms ns=d9 then .tup ys else .tup xs)
  |_,_=>.no
 |_,_=>.no
abbrev RW(h:Hs):Val->Rs
 |.ref a=>.ofO<|(eR<|h a).bind λxs=>(blsOf xs).map λbs=>.bl<|bs.all id
 |_=>.no
abbrev sortOf(h:Hs):Val->Option (List Int)
 |.ref a=>(eR<|h a).bind eL
 |.scr ns=>d7 ns
 |_=>d8
abbrev keysOf(kvs:List<|Val×Val):Option<|List Int:=eL (kvs.map (·.1))
abbrev sortAny(h:Hs)(v:Val):Option<|List Int:=match v with
 |.ref a=>match h a with
  |some (.lst xs)=>eL xs
  |some (.dct kvs)=>keysOf kvs
  |_=>d8
 |.scr ns=>d7 ns
 |_=>d8
abbrev PU(Ć:List<|List Int):List<|List Int:=Ć.mergeSort λa b=>!fo b a
abbrev LP(h:Hs)(v:Val):Option<|List<|List Int:=match v with
 |.ref a=>(eR<|h a).bind rowsOf
 |_=>d8
abbrev Aq(h:Hs)(v:Val):Rs:=match LP h v with
 |some Ć=>if Ć.length<64/\(Ć.all λr=>!r.isEmpty)=d9 then .new (.lst<|(PU Ć).map λr=>.tup<|r.map .int)else .no
 |none=>.no
abbrev JF(h:Hs)(v:Val):Rs:=match sortAny h v with
 |some ns=>if ns.length<64 then .new (.lst<|(sortI ns).map .int)else .no
 |none=>Aq h v
abbrev biSortedI(h:Hs)(v:Val):Rs:=match sortAny h v with
 |some ns=>if ns.length<64 then .new (.lst<|(sortI ns).map .int)else .no
 |none=>.no
abbrev biLenSet(h:Hs)(v:Val):Rs:=match sortOf h v with
 |some ns=>if ns.length<4000 then .val (.int (dedup ns).length)else .no
 |none=>.no
abbrev toList(h:Hs):Val->Rs
 |.ref a=>match h a with
  |some (.lst xs)=>.new<|.lst xs
  |_=>.no
 |.tup xs=>.new<|.lst xs
 |_=>.no
abbrev MX(h:Hs):Val->Rs
 |.ref a=>match h a with
  |some (.lst xs)=>.val<|.tup xs
  |_=>.no
 |.tup xs=>.val<|.tup xs
 |_=>.no
abbrev minI:List Int->Int
 |[]=>0
 |x::r=>r.foldl (λa b=>if b<a then b else a) x
abbrev maxI:List Int->Int
 |[]=>0
 |x::r=>r.foldl (λa b=>if b > a then b else a) x
abbrev intsAt(h:Hs):Val->Option (List Int)
 |.ref a=>(eR<|h a).bind eL
 |_=>d8
abbrev pairI:Val->Option (Int×Int)
 |.tup [.int i,.int j]=>d7 (i,j)
 |_=>d8
abbrev tupI:Val->Option (List Int)
 |.tup xs=>eL xs
 |_=>d8
abbrev biMinL(h:Hs)(v:Val):Rs:=match pairI v with
 |some p=>.val (.int<|if p.2<p.1 then p.2 else p.1)
 |none=>match (tupI v).or (intsAt h v)with
  |some (x::r)=>.val<|.int<|minI<|x::r
  |_=>match (asLst h v).bind rowsOf with
   |some (x::r)=>.val<|.tup<|(minR x r).map .int
   |_=>.no
abbrev biMaxL(h:Hs)(v:Val):Rs:=match pairI v with
 |some p=>.val (.int<|if p.2 > p.1 then p.2 else p.1)
 |none=>match intsAt h v with
  |some (x::r)=>.val<|.int<|maxI<|x::r
  |_=>.no
abbrev biV(h:Hs)(b:Bi)(vs:List Val):Rs:=match b with
 |.len=>eS (fA h) vs
 |.abs=>eS absV vs
 |.min2=>biOf2 min2V vs
 |.max2=>biOf2 (intV λi j=>.val<|.int<|if j > i then j else i) vs
 |.minL=>eS (biMinL h) vs
 |.maxL=>eS (biMaxL h) vs
 |.minD=>eS (fB h) vs
 |.all=>eS (RW h) vs
 |.sorted=>eS (JF h) vs
 |.sortedI=>eS (biSortedI h) vs
 |.lenSet=>eS (biLenSet h) vs
 |.list=>eS (toList h) vs
 |.tuple=>eS (MX h) vs
 |.isi Ts=>eS (λv=>.ofO<|(isiAny h v Ts).map .bl) vs
 |.isx Ts=>eS (λv=>.ofO<|(excV h v).map λc=>.bl<|Ts.any<|fO c) vs
 |_=>.no
abbrev bmL(h:Hs)(v:Val)(f:Ad->List Val->Option (Val×Hs)):Option<|Val×Hs:=match v with
 |.ref a=>(eR<|h a).bind<|f a
 |_=>d8
abbrev bmD(h:Hs)(v:Val)(f:Ad->List (Val×Val)->Option (Val×Hs)):Option<|Val×Hs:=match v with
 |.ref a=>(fT<|h a).bind<|f a
 |_=>d8
abbrev B3(h:Hs)(vs:List Val)(a:Ad)(xs:List Val):Option<|Val×Hs:=match vs with
 |[v]=>if xs.length<lim then d7 (.non,upd h a<|.lst<|xs++[v])else d8
 |_=>d8
abbrev bmPopAt(h:Hs)(vs:List Val)(a:Ad)(xs:List Val):Option<|Val×Hs:=match vs with
 |[.int i]=>if -(2 ^ 62)<i/\i<2 ^ 62 then(ixN xs.length i).bind λk=>(xs[k]?).map λv=>(v,upd h a<|.lst<|xs.eraseIdx k)else d8
 |_=>d8
abbrev QK(h:Hs)(vs:List Val)(a:Ad)(kvs:List<|Val×Val):Option<|Val×Hs:=match vs with
 |[k]=>if eX k then d7 ((fb kvs k).getD .non,h)else d8
 |_=>d8
abbrev Lh(h:Hs)(vs:List Val)(a:Ad)(kvs:List<|Val×Val):Option<|Val×Hs:=match vs with
 |[k]=>if eX k then(fb kvs k).map λv=>(v,upd h a<|.dct<|ff kvs k)else d8
 |_=>d8
abbrev GO(h:Hs)(vs:List Val)(a:Ad)(kvs:List<|Val×Val):Option<|Val×Hs:=match vs with
 |[k,d]=>if eX k then d7 ((fb kvs k).getD d,upd h a<|.dct<|ff kvs k)else d8
 |_=>d8
abbrev bmV(h:Hs)(m:Bm)(v:Val)(vs:List Val):Option<|Val×Hs:=match m with
 |.append=>bmL h v<|B3 h vs
 |.popAt=>bmL h v<|bmPopAt h vs
 |.dget=>bmD h v<|QK h vs
 |.dpop=>bmD h v<|Lh h vs
 |.dpopD=>bmD h v<|GO h vs
 |_=>d8
abbrev isLst:Option Ob->Bool
 |some (.lst _)=>d9
 |_=>ee
abbrev isDct:Option Ob->Bool
 |some (.dct _)=>d9
 |some (.dtp _)=>d9
 |_=>ee
inductive Ty where|l|d|s|t
abbrev Bm.ty:Bm->Ty
 |.dget=>.d
 |.dgetD=>.d
 |.dpop=>.d
 |.dpopD=>.d
 |.setdefault=>.d
 |.join=>.s
 |.split=>.s
 |.replace=>.s
 |.upper=>.s
 |.partition=>.s
 |.sidx=>.s
 |.index=>.t
 |_=>.l
abbrev Ju(p:Option Ob->Bool)(h:Hs):Val->Bool
 |.ref a=>p<|h a
 |_=>ee
abbrev Pd:Val->Bool
 |.str _=>d9
 |_=>ee
abbrev PQ:Val->Bool
 |.tup _=>d9
 |_=>ee
abbrev bmTy(h:Hs)(m:Bm)(v:Val):Bool:=match m.ty with
 |.l=>Ju isLst h v
 |.d=>Ju isDct h v
 |.s=>Pd v
 |.t=>Ju isLst h v||PQ v
abbrev eV:List (String×Val)->String->Val->List (String×Val)
 |[],f,v=>[(f,v)]
 |(g,x)::r,f,v=>if g=f then(g,v)::r else(g,x)::eV r f v
abbrev getV(env:Env)(i:Nat):Option Val:=match env[i]? with
 |some (d7 v)=>d7 v
 |_=>d8
abbrev fV:Val->Option Bool
 |.bl b=>d7 b
 |_=>d8
abbrev fk:Val->Option Ad
 |.ref a=>d7 a
 |_=>d8
abbrev insOf:Option Ob->Option (String×List (String×Val))
 |some (.ins C fs)=>d7 (C,fs)
 |_=>d8
abbrev tupOf:Val->Option (List Val)
 |.tup xs=>d7 xs
 |_=>d8
abbrev bindL:List Nat->List Val->Env->Option Env
 |[],[],env=>d7 env
 |i::is,x::xs,env=>bindL is xs<|env.set i<|d7 x
 |_,_,_=>d8
abbrev bind(p:Pt)(h:Hs)(v:Val)(env:Env):Option Env :=
 match p with
 |.one i=>d7<|env.set i<|d7 v
 |.many is=>(tupOf v).bind λxs=>bindL is xs env
 |.nest i is=>(tupOf v).bind λxs=>match xs with
  |[x,y]=>(tupOf y).bind λys=>bindL is ys<|env.set i<|d7 x
  |_=>d8
abbrev wComp(st:Hs->Prop)(step:Val->Hs->(Option Val->Hs->Prop)->XQ->Prop):List Val->List Val->Hs->(List Val->Hs->Prop)->XQ->Prop
 |[],Ĭ,h,Q,_=>st h/\Q Ĭ h
 |v::vs,Ĭ,h,Q,X=>st h/\step v h (λr h'=>wComp st step vs (Ĭ++r.toList) h' Q X) X
abbrev enumL:Nat->List Val->List Val
 |_,[]=>[]
 |k,x::xs=>.tup [.int k,x]::enumL (k+1) xs
abbrev itV(h:Hs):Val->Option ((Hs->Prop)×List Val)
 |.tup xs=>d7 (λ_=>True,xs)
 |.scr ns=>d7 (λ_=>True,ns.map .int)
 |.ref a=>(eR<|h a).map λxs=>(λg=>eR (g a)=d7 xs,xs)
 |_=>d8
abbrev itemOf(k:Bool)(p:Val×Val):Val:=if k then p.1 else .tup [p.1,p.2]
abbrev fj(i j:Int):List Val:=(List.range (j - i).toNat).map λ(k:Nat)=>.int<|i+k
abbrev fw(h:Hs)(o k v:Val):Option Hs :=
 match o with
 |.ref p=>match h p with
  |some (.lst xs)=>(fU k).bind λn=>(ixN xs.length n).map λj=>upd h p<|.lst<|xs.set j v
  |some (.dct kvs)=>if eX k/\kvs.length<lim then d7 (upd h p<|.dct<|fe kvs k v)else d8
  |some (.dtp kvs)=>if isKeyT k/\kvs.length<lim then d7 (upd h p<|.dtp<|fe kvs k v)else d8
  |_=>d8
 |_=>d8
abbrev fy(h:Hs)(o:Val)(f:String)(v:Val):Option Hs :=
 match o with
 |.ref p=>match h p with
  |some (.ins C fs)=>if fs.length<900 then d7 (upd h p<|.ins C<|eV fs f v)else d8
  |_=>d8
 |_=>d8
abbrev fx(h:Hs)(o:Val)(f:String):Option Val:=(fk o).bind λa=>(insOf<|h a).bind λp=>p.2.lookup f
abbrev clsV(h:Hs)(o:Val)(m:String):Option String:=(fk o).bind λa=>(insOf<|h a).bind λp=>if(p.2.lookup m).isNone then d7 p.1 else d8
abbrev augV(op:Bop)(x y:Val):Option Val:=match op,x,y with
 |.add,.int i,.int j=>d7<|.int<|i+j
 |.sub,.int i,.int j=>d7<|.int<|i - j
 |_,_,_=>d8
@[irreducible] noncomputable def Ni(F:Hs->(List Val->Hs->Prop)->XQ->Prop)(h:Hs)(Q:Q1)(X:XQ):Prop:=new h (.dct []) λr h1=>go (fk r) λp=>F h1 (λvs h2=>go (pairUp vs) λkvs=>h2 p=d7 (.dct [])/\Q (.ref p) (upd h2 p<|.dct<|putAll [] kvs)) X
mutual
@[reducible] noncomputable def xE(Φ:Fs):E->Env->Hs->Q1->XQ->Prop
 |.cst v,_,h,Q,_=>Q v h
 |.glob _ v,_,h,Q,_=>Q v h
 |.var i,env,h,Q,_=>go (getV env i) λv=>Q v h
 |.bin op a b,env,h,Q,X=>xE Φ a env h (λv h1=>xE Φ b env h1 (λu h2=>(binV h2 op v u).wp h2 Q) X) X
 |.neg a,env,h,Q,X=>xE Φ a env h (λv h1=>go (fU v) λi=>Q (.int (-i)) h1) X
 |.not a,env,h,Q,X=>xE Φ a env h (λv h1=>go (fV v) λb=>Q (.bl (!b)) h1) X
 |.and a b,env,h,Q,X=>xE Φ a env h (λv h1=>go (fV v) λc=>if c=d9 then xE Φ b env h1 Q X else Q (.bl ee) h1) X
 |.or a b,env,h,Q,X=>xE Φ a env h (λv h1=>go (fV v) λc=>if c=d9 then Q (.bl d9) h1 else xE Φ b env h1 Q X) X
 |.cmp op a b,env,h,Q,X=>xE Φ a env h (λv h1=>xE Φ b env h1 (λu h2=>go (eW h2 op v u) λc=>Q (.bl c) h2) X) X
 | .chain o1 o2 a b c,env,h,Q,X=>xE Φ a env h (λv h1=>xE Φ b env h1 (λu h2=>go (eW h2 o1 v u) λk =>
     if k=d9 then xE Φ c env h2 (λw h3=>go (eW h3 o2 u w) λk2=>Q (.bl k2) h3) X else Q (.bl ee) h2) X) X
 |.call f as,env,h,Q,X=>xA Φ as env h (λvs h1=>Φ f vs h1 Q X) X
 |.make C as,env,h,Q,X=>xA Φ as env h (λvs h1=>∀p,h1 p=d8->Φ (C ++ ".__init__") (.ref p::vs) (upd h1 p<|.ins C []) (λv h2=>v=.non/\Q (.ref p) h2) X) X
 |.meth C m o as,env,h,Q,X=>xE Φ o env h (λv h1=>clsV h1 v m=d7 C/\xA Φ as env h1 (λvs h2=>Φ (C ++ "." ++ m) (v::vs) h2 Q X) X) X
 |.fld o f,env,h,Q,X=>xE Φ o env h (λv h1=>go (fx h1 v f) λu=>Q u h1) X
 |.bi f as,env,h,Q,X=>xA Φ as env h (λvs h1=>(biV h1 f vs).wp h1 Q) X
 |.bm m o as,env,h,Q,X=>xE Φ o env h (λv h1=>bmTy h1 m v=d9/\xA Φ as env h1 (λvs h2=>go (bmV h2 m v vs) λr=>Q r.1 r.2) X) X
 |.idx a i,env,h,Q,X=>xE Φ a env h (λv h1=>xE Φ i env h1 (λk h2=>go (fu h2 v k) λu=>Q u h2) X) X
 |.slc a lo hi,env,h,Q,X=>xE Φ a env h (λv h1=>xO Φ lo env h1 (λl h2=>xO Φ hi env h2 (λu h3=>(fv h3 v l u).wp h3 Q) X) X) X
 |.tup es,env,h,Q,X=>xA Φ es env h (λvs h1=>Q (.tup vs) h1) X
 |.lst es,env,h,Q,X=>xA Φ es env h (λvs h1=>new h1 (.lst vs) Q) X
 |.dct es,env,h,Q,X=>Ni (xA Φ es env) h Q X
 |.ife c a b,env,h,Q,X=>xT Φ c env h (λk h1=>if k=d9 then xE Φ a env h1 Q X else xE Φ b env h1 Q X) X
 | .comp ö n p it c e,env,h,Q,X=>xI Φ it env h (λst xs h1=>xs.length<lim/\
     wComp st (λv h2 K X2=>go (bind p h2 v<|Ø n d8++ö.map λj=>(env[j]?).getD d8) λŌ =>
       xT Φ c Ō h2 (λk h3=>if k=d9 then xE Φ e Ō h3 (λu h4=>K (d7 u) h4) X2 else K d8 h3) X2) xs [] h1 (λys h5=>new h5 (.lst ys) Q) λ_ _=>False) X
 |_,_,_,_,_=>False
@[reducible] noncomputable def xA(Φ:Fs):Es->Env->Hs->(List Val->Hs->Prop)->XQ->Prop
 |.nil,_,h,Q,_=>Q [] h
 |.cons e es,env,h,Q,X=>xE Φ e env h (λv h1=>xA Φ es env h1 (λvs h2=>Q (v::vs) h2) X) X
@[reducible] noncomputable def xJ(Φ:Fs):Es->Env->Hs->String->(String->Hs->Prop)->XQ->Prop
 |.nil,_,h,Ĭ,Q,_=>Q Ĭ h
 |.cons e es,env,h,Ĭ,Q,X=>xE Φ e env h (λv h1=>go (fmtV v) λs=>Ĭ.length+s.length<=lim/\xJ Φ es env h1 (Ĭ++s) Q X) X
@[reducible] noncomputable def xO(Φ:Fs):Oe->Env->Hs->(Option Int->Hs->Prop)->XQ->Prop
 |.none,_,h,Q,_=>Q d8 h
 |.some e,env,h,Q,X=>xE Φ e env h (λv h1=>go (fU v) λi=>Q (d7 i) h1) X
@[reducible] noncomputable def xT(Φ:Fs):Tt->Env->Hs->(Bool->Hs->Prop)->XQ->Prop
 |.yes,_,h,Q,_=>Q d9 h
 |.val e,env,h,Q,X=>xE Φ e env h (λv h1=>go (WK h1 v) λk=>Q k h1) X
 |.not a,env,h,Q,X=>xT Φ a env h (λk h1=>Q (!k) h1) X
 |.and a b,env,h,Q,X=>xT Φ a env h (λk h1=>if k=d9 then xT Φ b env h1 Q X else Q ee h1) X
 |.or a b,env,h,Q,X=>xT Φ a env h (λk h1=>if k=d9 then Q d9 h1 else xT Φ b env h1 Q X) X
@[reducible] noncomputable def xI(Φ:Fs):It->Env->Hs->((Hs->Prop)->List Val->Hs->Prop)->XQ->Prop
 |.seq e,env,h,Q,X=>xE Φ e env h (λv h1=>go (itV h1 v) λp=>Q p.1 p.2 h1) X
 |.range a,env,h,Q,X=>xE Φ a env h (λv h1=>go (fU v) λn=>(-(2 ^ 62)<=n/\n<2 ^ 62)/\Q (λ_=>True) (fj 0 n) h1) X
 | .range2 a b,env,h,Q,X=>xE Φ a env h (λv h1=>xE Φ b env h1 (λu h2=>go (fU v) λi=>go (fU u) λj =>
     (-(2 ^ 62)<=i/\i<2 ^ 62/\-(2 ^ 62)<=j/\j<2 ^ 62)/\Q (λ_=>True) (fj i j) h2) X) X
 |.enum e,env,h,Q,X=>xE Φ e env h (λv h1=>go (tupOf v) λxs=>Q (λ_=>True) (enumL 0 xs) h1) X
 |_,_,_,_,_=>False
end
@[reducible] noncomputable def wE:Fs->E->Env->Hs->Q1->XQ->Prop:=xE
@[reducible] noncomputable def wA:Fs->Es->Env->Hs->(List Val->Hs->Prop)->XQ->Prop:=xA
@[reducible] noncomputable def wJ:Fs->Es->Env->Hs->String->(String->Hs->Prop)->XQ->Prop:=xJ
@[reducible] noncomputable def wO:Fs->Oe->Env->Hs->(Option Int->Hs->Prop)->XQ->Prop:=xO
@[reducible] noncomputable def wT:Fs->Tt->Env->Hs->(Bool->Hs->Prop)->XQ->Prop:=xT
@[reducible] noncomputable def wI:Fs->It->Env->Hs->((Hs->Prop)->List Val->Hs->Prop)->XQ->Prop:=xI
def Qp:wE=xE:=by unfold wE;rfl
noncomputable abbrev NQ:=Env->Hs->Prop
noncomputable abbrev EQ:=Env->String->Hs->Prop
abbrev wFor(st:Hs->Prop)(W:Val->Env->Hs->NQ->NQ->Prop)(N:NQ):List Val->Env->Hs->Prop
 |[],env,h=>st h/\N env h
 |v::vs,env,h=>st h/\W v env h (λe g=>wFor st W N vs e g) N
abbrev wWhile(T:Env->Hs->(Bool->Hs->Prop)->Prop)(W:Env->Hs->NQ->NQ->Prop)(N:NQ):Nat->Env->Hs->Prop
 |0,_,_=>False
 |n+1,env,h=>T env h λk h1=>if k=d9 then W env h1 (λe g=>wWhile T W N n e g) N else N env h1
@[reducible] noncomputable def wC(Φ:Fs):E->Env->Hs->Q1->XQ->Prop
 |.call f as,env,h,Q,X=>wA Φ as env h (λvs h1=>Φ f vs h1 Q X) λ_ _=>False
 |.meth C m o as,env,h,Q,X=>wE Φ o env h (λv h1=>clsV h1 v m=d7 C/\wA Φ as env h1 (λvs h2=>Φ (C ++ "." ++ m) (v::vs) h2 Q X) λ_ _=>False) λ_ _=>False
 |_,_,_,_,_=>False
abbrev tryEnv(env:Env):Option Nat->Val->Env
 |none,_=>env
 |some j,v=>env.set j<|d7 v
mutual
@[reducible] noncomputable def xS(Φ:Fs):S->Env->Hs->NQ->Q1->NQ->NQ->EQ->Prop
 |.set p e,env,h,N,_,_,_,X=>wE Φ e env h (λv h1=>go (bind p h1 v env) λŌ=>N Ō h1)<|X env
 |.setIdx a i e,env,h,N,_,_,_,X=>wE Φ e env h (λv h1=>wE Φ a env h1 (λo h2=>wE Φ i env h2 (λk h3=>go (fw h3 o k v) λg=>N env g)<|X env)<|X env)<|X env
 |.setFld o f e,env,h,N,_,_,_,X=>wE Φ e env h (λv h1=>wE Φ o env h1 (λu h2=>go (fy h2 u f v) λg=>N env g)<|X env)<|X env
 |.augFld o f op n,env,h,N,_,_,_,X=>wE Φ o env h (λu h1=>go (fx h1 u f) λx=>go (augV op x<|.int n) λy=>go (fy h1 u f y) λg=>N env g)<|X env
 |.augIdx a i op n,env,h,N,_,_,_,X=>wE Φ a env h (λo h1=>wE Φ i env h1 (λk h2=>go (fu h2 o k) λx=>go (augV op x<|.int n) λy=>go (fw h2 o k y) λg=>N env g)<|X env)<|X env
 |.expr e,env,h,N,_,_,_,X=>wE Φ e env h (λ_ h1=>N env h1)<|X env
 |.ret e,env,h,_,R,_,_,X=>wE Φ e env h R<|X env
 |.retN,_,h,_,R,_,_,_=>R .non h
 |.ite c a b,env,h,N,R,B,C,X=>wT Φ c env h (λk h1=>if k=d9 then xSs Φ a env h1 N R B C X else xSs Φ b env h1 N R B C X)<|X env
 |.whl c b,env,h,N,R,_,_,X=>∃n,wWhile (λe g K=>wT Φ c e g K<|X e) (λe g K M=>xSs Φ b e g K R M K X) N n env h
 |.for p it b,env,h,N,R,_,_,X=>wI Φ it env h (λst xs h1=>wFor st (λv e g K M=>go (bind p g v e) λe2=>xSs Φ b e2 g K R M K X) N xs env h1)<|X env
 | .forI k p e b,env,h,N,R,_,_,X=>wE Φ e env h (λv h1=>go (fk v) λa=>go (fT<|h1 a) λkvs =>
     wFor (λg=>g a=d7 (.frz kvs)) (λv e g K M=>go (bind p g v e) λe2=>xSs Φ b e2 g K (λu g2=>g2 a=d7 (.frz kvs)/\R u (upd g2 a<|.dct kvs)) M K λ_ _ _=>False)
       (λe g=>g a=d7 (.frz kvs)/\N e (upd g a<|.dct kvs)) (kvs.map<|itemOf k) env (upd h1 a<|.frz kvs))<|X env
 |.never,_,_,_,_,_,_,_=>False
 |.raise C as,env,h,_,_,_,_,X=>wA Φ as env h (λ_ h1=>X env C h1)<|X env
 |.try t e hs,env,h,N,R,B,C,X=>wC Φ e env h (λv h1=>N (tryEnv env t v) h1) λc g=>xH Φ hs c env g N R B C
 |_,_,_,_,_,_,_,_=>False
@[reducible] noncomputable def xSs(Φ:Fs):Ss->Env->Hs->NQ->Q1->NQ->NQ->EQ->Prop
 |.nil,env,h,N,_,_,_,_=>N env h
 |.cons s ss,env,h,N,R,B,C,X=>xS Φ s env h (λe g=>xSs Φ ss e g N R B C X) R B C X
@[reducible] noncomputable def xH(Φ:Fs):Hn->String->Env->Hs->NQ->Q1->NQ->NQ->Prop
 |.nil,_,_,_,_,_,_,_=>False
 |.cons K d8 b r,c,env,h,N,R,B,C=>if fO c K=d9 then xSs Φ b env h N R B C (λ_ _ _=>False)else xH Φ r c env h N R B C
 |.cons K (d7 i) b r,c,env,h,N,R,B,C=>if fO c K=d9 then(∀p,h p=d8->xSs Φ b (env.set i<|d7<|.ref p) (upd h p<|.exc c) (λe g=>N (e.set i d8) g) R (λe g=>B (e.set i d8) g) (λe g=>C (e.set i d8) g) λ_ _ _=>False)
  else xH Φ r c env h N R B C
end
@[reducible] noncomputable def wS:Fs->S->Env->Hs->NQ->Q1->NQ->NQ->EQ->Prop:=xS
@[reducible] noncomputable def wSs:Fs->Ss->Env->Hs->NQ->Q1->NQ->NQ->EQ->Prop:=xSs
@[reducible] noncomputable def wH:Fs->Hn->String->Env->Hs->NQ->Q1->NQ->NQ->Prop:=xH
def Iu:wSs=xSs:=by unfold wSs;rfl
def Rf:wH=xH:=by unfold wH;rfl
structure Fn where
 ar:Nat
 sz:Nat
 body:Ss
noncomputable abbrev Pg:=String->Option Fn
class In(P:Pg)(f:String)(d:outParam Fn):Prop where
 eq:P f=d7 d
abbrev Fn.env(d:Fn)(vs:List Val):Env:=vs.map d7++Ø (d.sz - d.ar) d8
abbrev wF0(P:Pg):Nat->Fs
 |0=>λ_ _ _ _ _=>False
 |n+1=>λf vs h Q X=>go (P f) λd=>vs.length=d.ar/\wSs (wF0 P n) d.body (d.env vs) h (λ_ g=>Q .non g) Q (λ_ _=>False) (λ_ _=>False) λ_ c g=>X c g
@[irreducible] noncomputable def wF(P:Pg)(n:Nat):Fs:=wF0 P n
variable {P:Pg} {n:Nat}
def wF_eq:wF P n=wF0 P n:=by unfold wF;rfl
def Zd{f:String}{d:Fn}{vs:List Val}{X:XQ}(e:P f=d7 d)(hl:vs.length=d.ar)
  (q:wSs (wF P n) d.body (d.env vs) h (λ_ g=>Q .non g) Q (λ_ _=>False) (λ_ _=>False) λ_ c g=>X c g):wF P (n+1) f vs h Q X:=by
 rw[wF_eq]at q ⊢;exact eF e ⟨hl,q⟩
section
variable {Φ:Fs}{env:Env}{h:Hs}{Q:Q1}{X:XQ}{a b c e o:E}{as:Es}{v u:Val}
def Hy{i:Nat}(g:getV env i=d7 v)(q:Q v h):wE Φ (.var i) env h Q X:=by rw[Qp];exact eF g q
def P6{f:Bi}(q:wA Φ as env h (λvs h1=>(biV h1 f vs).wp h1 Q) X):wE Φ (.bi f as) env h Q X:=q
variable {es:Es}
def Qv(q:new h (.dct []) λr h1=>go (fk r) λp=>wA Φ es env h1 (λvs h2=>go (pairUp vs) λkvs=>h2 p=d7 (.dct [])/\Q (.ref p) (upd h2 p<|.dct<|putAll [] kvs)) X):wE Φ (.dct es) env h Q X:=by show Ni _ _ _ _;unfold Ni;exact q
variable {QA:List Val->Hs->Prop}{QO:Option Int->Hs->Prop}{QT:Bool->Hs->Prop}{QI:(Hs->Prop)->List Val->Hs->Prop}
def BJ(q:QA [] h):wA Φ .nil env h QA X:=q
def Dj(q:wE Φ e env h (λv h1=>wA Φ es env h1 (λvs h2=>QA (v::vs) h2) X) X):wA Φ (.cons e es) env h QA X:=q
def GY(q:wE Φ e env h (λv h1=>go (WK h1 v) λk=>QT k h1) X):wT Φ (.val e) env h QT X:=q
def HE{t:Tt}(q:wT Φ t env h (λk h1=>QT (!k) h1) X):wT Φ (.not t) env h QT X:=q
def RZ{s t:Tt}(q:wT Φ s env h (λk h1=>if k=d9 then QT d9 h1 else wT Φ t env h1 QT X) X):wT Φ (.or s t) env h QT X:=q
end
section
variable {Φ:Fs}{env:Env}{h:Hs}{N B C:NQ}{R:Q1}{X:EQ}{a b c e o i:E}{as:Es}{v u:Val}{t:Tt}{s1 s2:Ss}{s:S}{p:Pt}{it:It}{hs:Hn}
def PX(q:wT Φ t env h (λk h1=>if k=d9 then wSs Φ s1 env h1 N R B C X else wSs Φ s2 env h1 N R B C X)<|X env):wS Φ (.ite t s1 s2) env h N R B C X:=q
def ZV(q:N env h):wSs Φ .nil env h N R B C X:=q
def Fy{ss:Ss}(q:wS Φ s env h (λe g=>wSs Φ ss e g N R B C X) R B C X):wSs Φ (.cons s ss) env h N R B C X:=q
def Py{K c:String}{k:Nat}{r:Hn}(hc:fO c K=d9)(q:∀p,h p=d8->wSs Φ s1 (env.set k<|d7<|.ref p) (upd h p<|.exc c) (λe g=>N (e.set k d8) g) R (λe g=>B (e.set k d8) g) (λe g=>C (e.set k d8) g) λ_ _ _=>False):wH Φ (.cons K (d7 k) s1 r) c env h N R B C:=by simp only[Iu,Rf]at q ⊢;unfold xH;rw[fZ hc];exact q
end
section
variable {h:Hs}{Q:Q1}{i j k:Int}{a b:Ad}{xs ys:List Val}{v u:Val}{K:Val->Prop}{KB:Bool->Prop}
def wp_val{r:Rs}(e:r=.val v)(q:Q v h):r.wp h Q:=by rw[e,Rs.wp_val];exact q
def wp_new{r:Rs}{o:Ob}(e:r=.new o)(q:new h o Q):r.wp h Q:=by rw[e,Rs.wp_new];exact q
def b_add(q:Q (.int<|i+j) h):(binV h .add (.int i)<|.int j).wp h Q:=wp_val rfl q
def b_sub(q:Q (.int<|i - j) h):(binV h .sub (.int i)<|.int j).wp h Q:=wp_val rfl q
def b_mul(m:mulOk i j)(q:Q (.int<|i*j) h):(binV h .mul (.int i)<|.int j).wp h Q:=wp_val (fZ m) q
def b_fdiv(m:0<j/\j<1073741824)(q:Q (.int<|i / j) h):(binV h .fdiv (.int i)<|.int j).wp h Q:=wp_val (fZ m) q
def b_mod(m:0<j)(q:Q (.int<|i % j) h):(binV h .mod (.int i)<|.int j).wp h Q:=wp_val (fZ m) q
def b_pow(m:0<=j/\j<=1000000/\i.natAbs<2 ^ 64)(q:Q (.int<|i ^ j.toNat) h):(binV h .pow (.int i)<|.int j).wp h Q:=wp_val (fZ m) q
def Ld{z:Int}(m:0<=j/\j<=1000000/\i.natAbs<2 ^ 64)(e:i ^ j.toNat=z)(q:Q (.int z) h):(binV h .pow (.int i)<|.int j).wp h Q:=b_pow m (by rw[e];exact q)
def LV(m:xs.length+ys.length<=lim)(q:Q (.tup<|xs++ys) h):(binV h .add (.tup xs)<|.tup ys).wp h Q:=wp_val (fZ m) q
def YR(e1:h a=d7 (.lst xs))(e2:h b=d7 (.lst ys))(m:(xs++ys).length<=lim)(q:new h (.lst<|xs++ys) Q):(binV h .add (.ref a)<|.ref b).wp h Q:=by refine wp_new ?_ q;show(match h a,h b with|some (.lst xs),d7 (.lst ys)=>Rs.lst (xs++ys)|_,_=>.no:Rs)=_;simp only[e1,e2,Rs.lst];rw[fZ m]
def lsE(e1:h a=d7 (.lst xs)):eR (h a)=d7 xs:=by rw[e1];rfl
variable {kvs:List (Val×Val)}
def dcE(e1:h a=d7 (.dct kvs)):fT (h a)=d7 kvs:=by rw[e1];rfl
def g_int{K:Int->Prop}(q:K i):go (fU<|.int i) K:=eF rfl q
def g_bl{b:Bool}(q:KB b):go (fV<|.bl b) KB:=eF rfl q
def g_ref{K:Ad->Prop}(q:K a):go (fk<|.ref a) K:=eF rfl q
def g_tbl{b:Bool}(q:KB b):go (WK h<|.bl b) KB:=eF rfl q
def R1(q:KB<|gg (i≠0)):go (WK h<|.int i) KB:=eF rfl q
def Sf(e:h a=d7 (.lst xs))(q:KB (!xs.isEmpty)):go (WK h<|.ref a) KB:=eF (by unfold WK;simp only[e]) q
def eK(e:atI xs i=d7 v)(q:K v):go (fu h (.tup xs)<|.int i) K:=eF e q
def ZJ(e1:h a=d7 (.lst xs))(e:atI xs i=d7 v)(q:K v):go (fu h (.ref a)<|.int i) K:=eF (by unfold fu;simp only[e1];exact e) q
def Z2{k:Val}(e1:h a=d7 (.dct kvs))(hk:eX k=d9)(e:fb kvs k=d7 v)(q:K v):go (fu h (.ref a) k) K:=eF (by unfold fu;simp only[e1];rw[fZ hk];exact e) q
variable {ns:List Int}
def Iw(e:atI (ns.map Val.int) i=d7 v)(q:K v):go (fu h (.scr ns)<|.int i) K:=eF e q
def c_lt(q:KB<|gg (i<j)):go (eW h .lt (.int i)<|.int j) KB:=eF rfl q
def c_gt(q:KB<|gg (j<i)):go (eW h .gt (.int i)<|.int j) KB:=eF rfl q
def c_le(q:KB<|gg (i<=j)):go (eW h .le (.int i)<|.int j) KB:=eF rfl q
def c_ge(q:KB<|gg (j<=i)):go (eW h .ge (.int i)<|.int j) KB:=eF rfl q
def Uf:D.eqv (.int i) (.int j)=gg (i=j):=by rw[D.eqv];by_cases e:i=j<;>simp[e]
variable {s:String}
def Hz{t:String}:D.eqv (.str s) (.str t)=gg (s=t):=by rw[D.eqv];by_cases e:s=t<;>simp[e]
def c_eqI(q:KB<|gg (i=j)):go (eW h .eq (.int i)<|.int j) KB:=eF (by show d7 (D.eqv (.int i)<|.int j)=_;rw[Uf]) q
def c_neI(q:KB (!gg (i=j))):go (eW h .ne (.int i)<|.int j) KB:=eF (by show d7 (!D.eqv (.int i) (.int j))=_;rw[Uf]) q
def SR{t:String}(q:KB<|gg (s=t)):go (eW h .eq (.str s)<|.str t) KB:=eF (by show d7 (D.eqv (.str s)<|.str t)=_;rw[Hz]) q
def SS{t:String}(q:KB (!gg (s=t))):go (eW h .ne (.str s)<|.str t) KB:=eF (by show d7 (!D.eqv (.str s) (.str t))=_;rw[Hz]) q
variable {c:Bool}
def ST{d:Bool}(q:KB<|c==d):go (eW h .eq (.bl c)<|.bl d) KB:=eF (by show d7 (D.eqv (.bl c)<|.bl d)=_;rw[D.eqv]) q
def c_isN(q:KB<|gg (v=.non)):go (eW h .is v .non) KB:=eF (by unfold eW;rfl) q
def c_notN(q:KB (!gg (v=.non))):go (eW h .isnot v .non) KB:=eF (by unfold eW;rfl) q
def c_eqE(e1:h a=d7 (.lst xs))(e2:h b=d7 (.lst []))(q:KB xs.isEmpty):go (eW h .eqE (.ref a)<|.ref b) KB:=eF (by show(eR<|h a).bind _=_;rw[e1,Xu];show(eR<|h b).bind _=_;rw[e2,Xu];rfl) q
def c_neE(e1:h a=d7 (.lst xs))(e2:h b=d7 (.lst []))(q:KB (!xs.isEmpty)):go (eW h .neE (.ref a)<|.ref b) KB:=eF (by show(eR<|h a).bind _=_;rw[e1,Xu];show(eR<|h b).bind _=_;rw[e2,Xu];rfl) q
def L5{ms:List Int}(e1:eL xs=d7 ns)(e2:eL ys=d7 ms)(q:KB<|fo ms ns):go (eW h .gt (.tup xs)<|.tup ys) KB:=eF (by show(eL ys).bind _=_;rw[e1,e2];rfl) q
variable {n:Nat} {ĳ:Env}
def Lk{env:Env}{K:Env->Prop}(e:env.set n (d7 v)=ĳ)(q:K ĳ):go (bind (.one n) h v env) K:=by subst e;exact eF rfl q
def IA{is:List Nat}{env:Env}{K:Env->Prop}(e:bindL is xs env=d7 ĳ)(q:K ĳ):go (bind (.many is) h (.tup xs) env) K:=eF e q
def Sb{K:Hs->Prop}(e1:h a=d7 (.lst xs))(e:ixN xs.length i=d7 n)(q:K<|upd h a<|.lst<|xs.set n v):go (fw h (.ref a) (.int i) v) K:=eF (by unfold fw;simp only[e1,fU,ò,e,Ĺ]) q
def Y6{K:Hs->Prop}{k:Val}(e1:h a=d7 (.dct kvs))(m:eX k=d9/\kvs.length<lim)(q:K<|upd h a<|.dct<|fe kvs k v):go (fw h (.ref a) k v) K:=eF (by unfold fw;simp only[e1];rw[fZ m]) q
def WA(e1:h a=d7 (.dct kvs))(hk:eX v=d9)(q:KB<|fc kvs v):go (eW h .isin v<|.ref a) KB:=eF (by show inV h v (.ref a)=_;unfold inV;simp only[e1];rw[fZ hk]) q
def Yk(e1:h a=d7 (.dct kvs))(hk:eX v=d9)(q:KB (!fc kvs v)):go (eW h .notin v<|.ref a) KB:=eF (by show(inV h v<|.ref a).map _=_;unfold inV;simp only[e1];rw[fZ hk];rfl) q
variable {C:String} {f:String}
def YB{fs:List (String×Val)}{K:Hs->Prop}(e1:h a=d7 (.ins C fs))(m:fs.length<900)(q:K<|upd h a<|.ins C<|eV fs f v):go (fy h (.ref a) f v) K:=eF (by unfold fy;simp only[e1];rw[fZ m]) q
def Pn{fs:List (String×Val)}(e1:h a=d7 (.ins C fs))(e:fs.lookup f=d7 v)(q:K v):go (fx h (.ref a) f) K:=eF (by unfold fx fk;simp only[e1,insOf,ò];exact e) q
variable {P:Prop}
def PN{m:String}{fs:List (String×Val)}(e1:h a=d7 (.ins C fs))(e:fs.lookup m=d8)(q:P):clsV h (.ref a) m=d7 C/\P:=⟨by unfold clsV fk;simp only[e1,insOf,ò,e,Option.isNone_none,if_true],q⟩
def ag_add(q:K<|.int<|i+j):go (augV .add (.int i)<|.int j) K:=eF rfl q
def ln_lst(e1:h a=d7 (.lst xs))(q:Q (.int xs.length) h):(biV h .len [.ref a]).wp h Q:=wp_val (by show fA h (.ref a)=_;unfold fA;dsimp only;rw[e1]) q
def ln_scr(q:Q (.int ns.length) h):(biV h .len [.scr ns]).wp h Q:=wp_val rfl q
def ln_tup(q:Q (.int xs.length) h):(biV h .len [.tup xs]).wp h Q:=wp_val rfl q
def ab_int(q:Q (.int<|if i<0 then -i else i) h):(biV h .abs [.int i]).wp h Q:=wp_val rfl q
def MF{bs:List Bool}(e1:h a=d7 (.lst xs))(e2:blsOf xs=d7 bs)(q:Q (.bl<|bs.all id) h):(biV h .all [.ref a]).wp h Q:=wp_val (by show Rs.ofO ((eR<|h a).bind _)=_;rw[lsE e1,ò,e2];rfl) q
def SU{K:String->Prop}(q:K s):go (RG<|.str s) K:=eF rfl q
def Pm{K:Val×Hs->Prop}(e1:h a=d7 (.lst<|v::xs))(q:K (v,upd h a<|.lst xs)):go (bmV h .popAt (.ref a) [.int 0]) K:=eF (by show(eR<|h a).bind (bmPopAt h [.int 0] a)=_;rw[lsE e1];show bmPopAt h [.int 0] a (v::xs)=_;unfold bmPopAt;dsimp only;rw[fZ<|by decide];rw[show ixN (v::xs).length 0=d7 0 by unfold ixN;rw[fZ (by decide),fZ<|by simp];rfl];rfl) q
variable {m:Bm}
def SC(hm:m=.join)(q:P):bmTy h m (.str s)=d9/\P:=⟨by subst hm;rfl,q⟩
def mn2(q:Q (.int<|if j<i then j else i) h):(biV h .min2 [.int i,.int j]).wp h Q:=wp_val rfl q
def mx2(q:Q (.int<|if j > i then j else i) h):(biV h .max2 [.int i,.int j]).wp h Q:=wp_val rfl q
def tp_lst(e1:h a=d7 (.lst xs))(q:Q (.tup xs) h):(biV h .tuple [.ref a]).wp h Q:=wp_val (by show MX h (.ref a)=_;unfold MX;dsimp only;rw[e1]) q
def Sa(q:Q (.tup xs) h):(biV h .tuple [.tup xs]).wp h Q:=wp_val rfl q
def Q8{Ts:List String}(e:isiAny h v Ts=d7 c)(q:Q (.bl c) h):(biV h (.isi Ts) [v]).wp h Q:=wp_val (by show Rs.ofO ((isiAny h v Ts).map .bl)=_;rw[e];rfl) q
def ls_lst(e1:h a=d7 (.lst xs))(q:new h (.lst xs) Q):(biV h .list [.ref a]).wp h Q:=wp_new (by show toList h (.ref a)=_;unfold toList;dsimp only;rw[e1]) q
def SJ(q:new h (.lst xs) Q):(biV h .list [.tup xs]).wp h Q:=wp_new rfl q
variable {lo:Option Int} {hi:Option Int}
def fE(n:¬ (fm xs.length 0 lo=0/\fm xs.length xs.length hi=xs.length))(q:Q (.tup<|cut xs lo hi) h):(fv h (.tup xs) lo hi).wp h Q:=wp_val (by unfold fv;simp only;rw[f8 n]) q
def LS(hm:m.ty=.l\/m.ty=.t)(e:h a=d7 (.lst xs))(q:P):bmTy h m (.ref a)=d9/\P:=⟨by unfold bmTy;rcases hm with hm|hm<;>rw[hm]<;>simp[Ju,e,isLst],q⟩
def Ia(hm:m.ty=.d)(e:h a=d7 (.dct kvs))(q:P):bmTy h m (.ref a)=d9/\P:=⟨by unfold bmTy;rw[hm];simp[Ju,e,isDct],q⟩
abbrev LN:Bi->Bool
 |.sorted=>d9
 |.sortedI=>d9
 |_=>ee
def DA{f:Bi}(hf:LN f=d9)(e:sortAny h v=d7 ns)(m:ns.length<64)(q:new h (.lst<|(sortI ns).map Val.int) Q):(biV h f [v]).wp h Q:=by
 cases f with
 |sorted=>exact wp_new (by show JF h v=_;unfold JF;simp only[e];exact fZ m) q
 |sortedI=>exact wp_new (by show biSortedI h v=_;unfold biSortedI;simp only[e];exact fZ m) q
 |_=>cases hf
def LZ{f:Bi}(e1:h a=d7 (.lst<|ns.map Val.int))(e2:eL (ns.map Val.int)=d7 ns)(m:ns.length<64)(q:new h (.lst<|(sortI ns).map Val.int) Q)(hf:LN f=d9:=by rfl):(biV h f [.ref a]).wp h Q:=DA hf (by unfold sortAny;simp only[e1,e2]) m q
def MN{f:Bi}(e1:h a=d7 (.dct kvs))(e2:keysOf kvs=d7 ns)(m:ns.length<64)(q:new h (.lst<|(sortI ns).map Val.int) Q)(hf:LN f=d9:=by rfl):(biV h f [.ref a]).wp h Q:=DA hf (by unfold sortAny;simp only[e1,e2]) m q
def HQ(e1:h a=d7 (.lst []))(q:Q .non h):(biV h .minD [.ref a]).wp h Q:=wp_val (by show fB h (.ref a)=_;unfold fB;simp only[e1,eR,ò,rowsOf]) q
def Gk{x:List Int}{r:List (List Int)}(e1:h a=d7 (.lst xs))(e2:rowsOf xs=d7 (x::r))(q:Q (.tup<|(minR x r).map Val.int) h):(biV h .minD [.ref a]).wp h Q:=wp_val (by show fB h (.ref a)=_;unfold fB;simp only[e1,eR,ò,e2]) q
def sl_str(n:s.length<=lim)(q:Q (.str<|ρ<|cut s.toList lo hi) h):(fv h (.str s) lo hi).wp h Q:=wp_val (by unfold fv;simp only;rw[fZ n]) q
def sl_lst(e1:h a=d7 (.lst xs))(q:new h (.lst<|cut xs lo hi) Q):(fv h (.ref a) lo hi).wp h Q:=wp_new (by unfold fv;simp only[e1,eR]) q
def SL(q:new h (.lst<|cut (ns.map Val.int) lo hi) Q):(fv h (.scr ns) lo hi).wp h Q:=wp_new rfl q
def Zz{K:Val×Hs->Prop}(e1:h a=d7 (.lst xs))(m:xs.length<lim)(q:K (.non,upd h a<|.lst<|xs++[v])):go (bmV h .append (.ref a) [v]) K:=eF (by show(eR<|h a).bind _=_;rw[lsE e1];exact fZ m) q
def IH{K:Val×Hs->Prop}(e1:h a=d7 (.dct kvs))(hk:eX v=d9)(q:K ((fb kvs v).getD .non,h)):go (bmV h .dget (.ref a) [v]) K:=eF (by show(fT<|h a).bind _=_;rw[dcE e1];exact fZ hk) q
def it_lst{K:(Hs->Prop)×List Val->Prop}(e1:h a=d7 (.lst xs))(q:K (λg=>eR (g a)=d7 xs,xs)):go (itV h<|.ref a) K:=eF (by unfold itV;simp only[e1,eR,Ĺ]) q
def it_scr{K:(Hs->Prop)×List Val->Prop}(q:K (λ_=>True,ns.map Val.int)):go (itV h<|.scr ns) K:=eF rfl q
def it_tup{K:(Hs->Prop)×List Val->Prop}(q:K (λ_=>True,xs)):go (itV h<|.tup xs) K:=eF rfl q
def Sw{K:List Val->Prop}(q:K xs):go (B5 h<|.tup xs) K:=eF rfl q
def RT{K:List Val->Prop}(e1:h a=d7 (.lst xs))(q:K xs):go (B5 h<|.ref a) K:=eF (by unfold B5;simp only[e1,eR]) q
variable {A:Prop} {B:Prop}
def fG(e:c=d9)(q:A):if c=d9 then A else B:=by rw[fZ e];exact q
def fH(e:c=ee)(q:B):if c=d9 then A else B:=by rw[f8<|by rw[e];decide];exact q
def fJ(q:c=d9->A)(r:c=ee->B):if c=d9 then A else B:=by cases c;exact r rfl;exact q rfl
variable {p:Prop}
def fI[Decidable p](q:p->A)(r:¬p->B):if decide p=d9 then A else B:=by
 by_cases e:p
 .rw[fZ<|gb e];exact q e
 .rw[f8<|by simpa using e];exact r e
def Os[Decidable p](q:¬p->A)(r:p->B):if(!decide p)=d9 then A else B:=by
 by_cases e:p
 .rw[f8<|by simpa using e];exact r e
 .rw[fZ<|by simpa using e];exact q e
end
structure Ext(h g:Hs):Prop where
 get:∀{a:Ad}{o:Ob},h a=d7 o->g a=d7 o
variable {h:Hs}
def Ext.refl:Ext h h:=⟨λe=>e⟩
variable {g:Hs}
def Ext.trans{k:Hs}(e:Ext h g)(f:Ext g k):Ext h k:=⟨λx=>f.get<|e.get x⟩
variable {p:Ad} {o:Ob}
def Ext.new(e:h p=d8):Ext h<|upd h p o:=⟨λ{a u} x=>by
  rw[ei<|by intro z;rw[z,e]at x;cases x];exact x⟩
structure ExtB(w:Ad)(h g:Hs):Prop where
 get:∀{a:Ad}{o:Ob},a≠w->h a=d7 o->g a=d7 o
variable {w:Ad}
def ExtB.refl:ExtB w h h:=⟨λ_ e=>e⟩
def ExtB.trans{k:Hs}(e:ExtB w h g)(f:ExtB w g k):ExtB w h k:=⟨λn x=>f.get n<|e.get n x⟩
def ExtB.upd:ExtB w h<|upd h w o:=⟨λn x=>by rw[ei n];exact x⟩
def ExtB.of(e:Ext h g):ExtB w h g:=⟨λ_ x=>e.get x⟩
variable {a:Ad}
def Zb(x:h a=d7 o)(n:h p=d8):a≠p:=by intro z;rw[z,n]at x;cases x
def ne_none'(n:h p=d8)(x:h a=d7 o):a≠p:=Zb x n
def upd_ne'{b:Ad}{r:Option Ob}(n:b≠a)(e:h b=r):upd h a o b=r:=by rw[ei n];exact e
inductive Sm2 {α β:Type}(p:α->β->Prop):Prop|mk (a:α) (b:β) (h:p a b)
inductive Sm3 {α β γ:Type}(p:α->β->γ->Prop):Prop|mk (a:α) (b:β) (c:γ) (h:p a b c)
inductive Sm4 {α β γ δ:Type}(p:α->β->γ->δ->Prop):Prop|mk (a:α) (b:β) (c:γ) (d:δ) (h:p a b c d)
inductive Sm5 {α β γ δ ε:Type}(p:α->β->γ->δ->ε->Prop):Prop|mk (a:α) (b:β) (c:γ) (d:δ) (e:ε) (h:p a b c d e)
inductive Sm6 {α β γ δ ε ζ:Type}(p:α->β->γ->δ->ε->ζ->Prop):Prop|mk (a:α) (b:β) (c:γ) (d:δ) (e:ε) (f:ζ) (h:p a b c d e f)
inductive Cj3 (a b c:Prop):Prop|mk (h1:a) (h2:b) (h3:c)
inductive Cj4 (a b c d:Prop):Prop|mk (h1:a) (h2:b) (h3:c) (h4:d)
inductive Cj5 (a b c d e:Prop):Prop|mk (h1:a) (h2:b) (h3:c) (h4:d) (h5:e)
inductive Cj6 (a b c d e f:Prop):Prop|mk (h1:a) (h2:b) (h3:c) (h4:d) (h5:e) (h6:f)
inductive Cj7 (a b c d e f g:Prop):Prop|mk (h1:a) (h2:b) (h3:c) (h4:d) (h5:e) (h6:f) (h7:g)
variable {st:Hs->Prop} {N:NQ} {xs:List Val}
def Zo{W:Val->Env->Hs->NQ->NQ->Prop}(I:Nat->Env->Hs->Prop){env:Env}(h0:I 0 env h)(ņ:∀i e g,i<=xs.length->I i e g->st g)
  (step:∀i v e g,xs[i]?=d7 v->I i e g->∀K:NQ,(∀e' g',I (i+1) e' g'->K e' g')->W v e g K N) (fin:∀e g,I xs.length e g->N e g):wFor st W N xs env h:=by
 have key:∀(ys:List Val) (i:Nat) e g,xs.drop i=ys->i<=xs.length->I i e g->wFor st W N ys e g:=by
  intro ys;induction ys with
  |nil =>
   intro i e g hd hi hI;have:i=xs.length:=by have:=congrArg List.length hd;simp at this;lia
   subst this;exact⟨ņ _ e g (Í _) hI,fin e g hI⟩
  |cons v vs ih =>
   intro i e g hd hi hI;have Ϙ:i<xs.length:=by have:=congrArg List.length hd;simp at this;lia
   have hv:xs[i]?=d7 v:=by have:=congrArg (λl=>l[0]?) hd;simpa using this
   refine⟨ņ i e g hi hI,step i v e g hv hI _ λe' g' hI'=>ih (i+1) e' g' ?_ (by lia) hI'⟩;have:=congrArg List.tail hd;simpa using this
 exact key xs 0 env h (by simp) (by lia) h0
def XB{T:Env->Hs->(Bool->Hs->Prop)->Prop}{W:Env->Hs->NQ->NQ->Prop}(I:Nat->Env->Hs->Prop){env:Env}{m:Nat}(h0:I m env h)
  (step:∀m e g,I m e g->∀K:NQ,(∀m' e' g',m'<m->I m' e' g'->K e' g')->T e g λk h1=>if k=d9 then W e h1 K N else N e h1):∃n,wWhile T W N n env h:=by
 refine⟨m+1,?_⟩;have key:∀(n m:Nat) e g,m<n->I m e g->wWhile T W N n e g:=by
  intro n;induction n with
  |zero=>intro m e g hm;lia
  |succ n ih=>intro m e g hm hI;exact step m e g hI _ λm' e' g' hm' hI'=>ih m' e' g' (by lia) hI'
 exact key (m+1) m env h (by lia) h0
variable {Q:List Val->Hs->Prop} {X:XQ}
def Zt{step:Val->Hs->(Option Val->Hs->Prop)->XQ->Prop}(I:Nat->List Val->Hs->Prop)(h0:I 0 [] h)(ņ:∀i ys g,i<=xs.length->I i ys g->st g)
  (go:∀i v ys g,xs[i]?=d7 v->I i ys g->∀K,(∀r g',I (i+1) (ys++r.toList) g'->K r g')->step v g K X) (fin:∀ys g,I xs.length ys g->Q ys g):wComp st step xs [] h Q X:=by
 have key:∀(zs:List Val) (i:Nat) ys g,xs.drop i=zs->i<=xs.length->I i ys g->wComp st step zs ys g Q X:=by
  intro zs;induction zs with
  |nil =>
   intro i ys g hd hi hI;have:i=xs.length:=by have:=congrArg List.length hd;simp at this;lia
   subst this;exact⟨ņ _ ys g (Í _) hI,fin ys g hI⟩
  |cons v vs ih =>
   intro i ys g hd hi hI;have Ϙ:i<xs.length:=by have:=congrArg List.length hd;simp at this;lia
   have hv:xs[i]?=d7 v:=by have:=congrArg (λl=>l[0]?) hd;simpa using this
   refine⟨ņ i ys g hi hI,go i v ys g hv hI _ λr g' hI'=>ih (i+1) _ g' ?_ (by lia) hI'⟩;have:=congrArg List.tail hd;simpa using this
 exact key xs 0 [] h (by simp) (by lia) h0
def Yj{step:Val->Hs->(Option Val->Hs->Prop)->XQ->Prop}(f:Val->Option Val)(ņ:st h)
  (go:∀v∈xs,∀K,K (f v) h->step v h K X) (fin:Q (xs.filterMap f) h):wComp st step xs [] h Q X:=by
 have key:∀(zs ys:List Val),(∀v∈zs,v∈xs)->Q (ys++zs.filterMap f) h->wComp st step zs ys h Q X:=by
  intro zs;induction zs with
  |nil=>intro ys _ q;exact⟨ņ,by simpa using q⟩
  |cons v vs ih =>
   intro ys hm q;refine⟨ņ,go v (hm v<|by simp) _<|ih _ (λw hw=>hm w<|by simp[hw]) ?_⟩;cases e:f v with
   |none=>simpa[Ĕ,e]using q
   |some u=>simpa[Ĕ,e]using q
 exact key xs [] (λ_ h=>h) (by simpa using fin)
section
variable {Φ:Fs}{env:Env}{h:Hs}{Q:Q1}{X:XQ}{a b c e o:E}{as:Es}{v u:Val}
variable {es:Es}
def q_e_dct:(wE Φ (.dct es) env h Q X)=(new h (.dct []) λr h1=>go (fk r) λp=>wA Φ es env h1 (λvs h2=>go (pairUp vs) λkvs=>h2 p=d7 (.dct [])/\Q (.ref p) (upd h2 p<|.dct<|putAll [] kvs)) X):=by show Ni _ _ _ _=_;unfold Ni;rfl
variable {QA:List Val->Hs->Prop}{QO:Option Int->Hs->Prop}{QT:Bool->Hs->Prop}{QI:(Hs->Prop)->List Val->Hs->Prop}
def q_a_nil:(wA Φ .nil env h QA X)=(QA [] h):=rfl
def q_a_cons:(wA Φ (.cons e es) env h QA X)=(wE Φ e env h (λv h1=>wA Φ es env h1 (λvs h2=>QA (v::vs) h2) X) X):=rfl
end
section
variable {Φ:Fs}{env:Env}{h:Hs}{N B C:NQ}{R:Q1}{X:EQ}{a b c e o i:E}{as:Es}{v u:Val}{t:Tt}{s1 s2:Ss}{s:S}{p:Pt}{it:It}{hs:Hn}
def q_s_raise{D:String}:(wS Φ (.raise D as) env h N R B C X)=(wA Φ as env h (λ_ h1=>X env D h1)<|X env):=rfl
def q_s_try{t:Option Nat}:(wS Φ (.try t e hs) env h N R B C X)=(wC Φ e env h (λv h1=>N (tryEnv env t v) h1) λc g=>wH Φ hs c env g N R B C):=rfl
def q_h_nil{c:String}:wH Φ .nil c env h N R B C=False:=rfl
variable {r:Hn}
def q_h_none{K c:String}:wH Φ (.cons K d8 s1 r) c env h N R B C=if fO c K=d9 then wSs Φ s1 env h N R B C (λ_ _ _=>False)else wH Φ r c env h N R B C:=rfl
def q_h_some{K c:String}{k:Nat}:wH Φ (.cons K (d7 k) s1 r) c env h N R B C=if fO c K=d9 then(∀p,h p=d8->wSs Φ s1 (env.set k<|d7<|.ref p) (upd h p<|.exc c) (λe g=>N (e.set k d8) g) R (λe g=>B (e.set k d8) g) (λe g=>C (e.set k d8) g) λ_ _ _=>False)else wH Φ r c env h N R B C:=rfl
end
mutual
theorem D.eqv_refl:∀d:D,D.eqv d d=d9
 |.non=>by simp[D.eqv]
 |.bl _=>by simp[D.eqv]
 |.int _=>by simp[D.eqv]
 |.str _=>by simp[D.eqv]
 |.tup ds=>by simp only[D.eqv];exact D.eqvs_refl ds
 |.lst ds=>by simp only[D.eqv];exact D.eqvs_refl ds
theorem D.eqvs_refl:∀ds:List D,D.eqvs ds ds=d9
 |[]=>by simp[D.eqvs]
 |d::ds=>by simp only[D.eqvs,D.eqv_refl d,D.eqvs_refl ds,Bool.and_self]
end
def UO{α:Type}{o:Option α}{k k':α->Prop}(h:go o k)(f:∀a,k a->k' a):go o k':=by
 cases o with
 |none=>rw[EB]at h;exact h.elim
 |some a=>rw[eC]at h ⊢;exact f a h
section
variable {Φ:Fs}{env:Env}{h:Hs}{Q:Q1}{X:XQ}{a:Ad}{v:Val}{kvs:List (Val×Val)}
def IJ(q:∀p,h p=d8->Q (.ref p) (upd h p<|.dct [])):wE Φ (.dct .nil) env h Q X:=by refine Qv<|YD λp hp=>g_ref<|BJ<|eF rfl ⟨ej,?_⟩;rw[eB];exact q p hp
def dw0(q:∀p,h p=d8->Q (.ref p) (upd h p<|.dct [])):Ni (xA Φ .nil env) h Q X:=IJ q
def dw{F:Hs->(List Val->Hs->Prop)->XQ->Prop}(q:new h (.dct []) λr h1=>go (fk r) λp=>F h1 (λvs h2=>go (pairUp vs) λkvs=>h2 p=d7 (.dct [])/\Q (.ref p) (upd h2 p<|.dct<|putAll [] kvs)) X):Ni F h Q X:=by unfold Ni;exact q
def PV{i:Nat}{K:Val->Prop}(g:getV env i=d7 v)(q:K v):go (getV env i) K:=eF g q
def dc_of{K:List (Val×Val)->Prop}(e1:h a=d7 (.dct kvs))(q:K kvs):go (fT<|h a) K:=eF (dcE e1) q
variable {u:Val}
def By{K:Val×Hs->Prop}(e1:h a=d7 (.dct kvs))(hk:eX v=d9)(e2:fb kvs v=d7 u)(q:K (u,upd h a<|.dct<|ff kvs v)):go (bmV h .dpop (.ref a) [v]) K:=eF (by show(fT<|h a).bind _=_;rw[dcE e1];show(if eX v then _ else _)=_;rw[fZ hk,e2];rfl) q
def UT{K:Val×Hs->Prop}(e1:h a=d7 (.dct kvs))(hk:eX v=d9)(q:K ((fb kvs v).getD u,upd h a<|.dct<|ff kvs v)):go (bmV h .dpopD (.ref a) [v,u]) K:=eF (by show(fT<|h a).bind _=_;rw[dcE e1];exact fZ hk) q
end
end fY
namespace Snd
open PySem L2
abbrev KT(K:Frag)(a:È)(xs:List V):Prop :=
 ∃(o:Obj) (ì:Array Â) (n:Nat),K.lookup a=d7 o/\o.cls=.type "tuple"/\o.data=.seq ì n/\ì.size<=Ú/\fR xs ì.toList
abbrev KL(K:Frag)(a:È)(xs:List V):Prop :=
 ∃(o:Obj) (ì:Array Â) (n:Nat),K.lookup a=d7 o/\o.cls=.type "list"/\o.dict=d8/\o.data=.seq ì n/\ì.size<=Ú/\fR xs ì.toList
mutual
inductive RV (K:Frag) (H:Hp):fY.Val->V->Prop
 |non:RV K H .non .non
 |bl (b:Bool):RV K H (.bl b)<|.bl b
 |int (i:Int):RV K H (.int i)<|.int i
 |str (s:String):RV K H (.str s)<|.str<|gh s
 |tup {xs:List fY.Val}{a:È}{vs:List V}:(H a=d7 (.tup vs)\/KT K a vs)->RVs K H xs vs->RV K H (.tup xs) (.ref a)
 |ref (a:È):RV K H (.ref a)<|.ref a
 |scr {ns:List Int}{a:È}:((∃o,H a=d7 (.frz o<|.lst<|ns.map V.int))\/KL K a (ns.map V.int))->RV K H (.scr ns) (.ref a)
 |key {i j:Int}{a:È}:H a=d7 (.tup [.int i,.int j])->RV K H (.key i j) (.ref a)
inductive RVs (K:Frag) (H:Hp):List fY.Val->List V->Prop
 |nil:RVs K H [] []
 |cons {v:fY.Val}{x:V}{vs:List fY.Val}{xs:List V}:RV K H v x->RVs K H vs xs->RVs K H (v::vs) (x::xs)
end
structure eZ(H H':Hp):Prop where
 t:∀a xs,H a=d7 (.tup xs)->H' a=d7 (.tup xs)
 f:∀a o u,H a=d7 (.frz o u)->H' a=d7 (.frz o u)
def eZ.refl(H:Hp):eZ H H:=⟨λ_ _ e=>e,λ_ _ _ e=>e⟩
variable {H:Hp}
def eZ.trans{H1 H2:Hp}(a:eZ H H1)(b:eZ H1 H2):eZ H H2:=⟨λc xs e=>b.t c xs<|a.t c xs e,λc o u e=>b.f c o u<|a.f c o u e⟩
variable {a:È} {o:HO}
def eZ.put(h:∀xs,H a≠d7 (.tup xs))(h2:∀p u,H a≠d7 (.frz p u)):eZ H<|upd H a o:=⟨λb xs e=>by
  rw[ei<|by rintro rfl;exact h xs e];exact e,λb p u e=>by rw[ei<|by rintro rfl;exact h2 p u e];exact e⟩
def eZ.new(h:H a=d8):eZ H<|upd H a o:=eZ.put (λxs e=>by rw[h]at e;cases e) λp u e=>by rw[h]at e;cases e
variable {K:Frag}{H H':Hp}
mutual
theorem RV.keep(k:eZ H H'):∀{v:fY.Val}{x:V},RV K H v x->RV K H' v x
 |_,_,.non=>.non
 |_,_,.bl b=>.bl b
 |_,_,.int i=>.int i
 |_,_,.str s=>.str s
 |_,_,.tup (.inl e) r=>.tup (.inl<|k.t _ _ e)<|RVs.keep k r
 |_,_,.tup (.inr e) r=>.tup (.inr e)<|RVs.keep k r
 |_,_,.ref a=>.ref a
 |_,_,.scr (.inl ⟨o,e⟩)=>.scr<|.inl ⟨o,k.f _ _ _ e⟩
 |_,_,.scr (.inr e)=>.scr<|.inr e
 |_,_,.key e=>.key<|k.t _ _ e
theorem RVs.keep(k:eZ H H'):∀{vs:List fY.Val}{xs:List V},RVs K H vs xs->RVs K H' vs xs
 |_,_,.nil=>.nil
 |_,_,.cons r t=>.cons (RV.keep k r)<|RVs.keep k t
end
def RVs.length:∀{vs:List fY.Val}{xs:List V},RVs K H vs xs->vs.length=xs.length
 |_,_,.nil=>rfl
 |_,_,.cons _ t=>by rw[Ç,Ç,RVs.length t]
def RVs.get:∀{vs:List fY.Val}{xs:List V}{i:Nat}{v:fY.Val},RVs K H vs xs->vs[i]?=d7 v->∃x,xs[i]?=d7 x/\RV K H v x
 |_,_,_,_,.nil,e=>by simp at e
 |_,_,0,_,.cons r _,e=>by simp at e;subst e;exact⟨_,rfl,r⟩
 |_,_,i+1,v,.cons _ t,e=>by obtain⟨x,h1,h2⟩:=RVs.get (i:=i) (v:=v) t (by simpa using e);exact⟨x,by simpa using h1,h2⟩
def RVs.append:∀{vs us:List fY.Val}{xs ys:List V},RVs K H vs xs->RVs K H us ys->RVs K H (vs++us) (xs++ys)
 |_,_,_,_,.nil,h=>h
 |_,_,_,_,.cons r t,h=>.cons r<|RVs.append t h
def RVs.set{v:fY.Val}{x:V}(r:RV K H v x):∀{vs:List fY.Val}{xs:List V}(i:Nat),RVs K H vs xs->RVs K H (vs.set i v) (xs.set i x)
 |_,_,_,.nil=>.nil
 |_,_,0,.cons _ t=>.cons r t
 |_,_,i+1,.cons q t=>.cons q<|RVs.set r i t
def RVs.take:∀{vs:List fY.Val}{xs:List V}(n:Nat),RVs K H vs xs->RVs K H (vs.take n) (xs.take n)
 |_,_,0,_=>.nil
 |_,_,_+1,.nil=>.nil
 |_,_,n+1,.cons r t=>.cons r<|RVs.take n t
def RVs.drop:∀{vs:List fY.Val}{xs:List V}(n:Nat),RVs K H vs xs->RVs K H (vs.drop n) (xs.drop n)
 |_,_,0,r=>r
 |_,_,_+1,.nil=>.nil
 |_,_,n+1,.cons _ t=>RVs.drop n t
variable {vs:List fY.Val} {xs:List V}
def RVs.reverse(r:RVs K H vs xs):RVs K H vs.reverse xs.reverse:=by
 induction r using RVs.rec (motive_1:=λ_ _ _=>True)with
 |nil=>exact .nil
 |cons r t _ ih=>rw[ω,ω];exact ih.append<|.cons r .nil
 |_=>trivial
def RVs.eraseIdx:∀{vs:List fY.Val}{xs:List V}(i:Nat),RVs K H vs xs->RVs K H (vs.eraseIdx i) (xs.eraseIdx i)
 |_,_,_,.nil=>.nil
 |_,_,0,.cons _ t=>t
 |_,_,i+1,.cons q t=>.cons q<|RVs.eraseIdx i t
def RVs.dropLast(r:RVs K H vs xs):RVs K H vs.dropLast xs.dropLast:=by rw[bZ,bZ,r.length];exact r.take _
def Zj{vs:List V}(h:H a=d7 (.tup vs)\/KT K a vs):fQ K H a vs:=by
 rcases h with h|h
 .exact fQ.of h
 .exact .inr h
structure Inf where
 K:Frag
 cl:String->È->Prop
 ins:String->Bool
 xc:String->È->Prop
abbrev W1:fY.Val->Key->Prop
 |.int i,.inl j=>i=j
 |.str s,.inr t=>t=gh s
 |_,_=>False
inductive RKs (K:Frag) (H:Hp):List (fY.Val×fY.Val)->List (Key×V)->Prop
 |nil:RKs K H [] []
 |cons {k v:fY.Val}{c:Key}{x:V}{kvs:List (fY.Val×fY.Val)}{ps:List (Key×V)}:W1 k c->RV K H v x->RKs K H kvs ps->RKs K H ((k,v)::kvs) ((c,x)::ps)
inductive RFs (K:Frag) (H:Hp):List (String×fY.Val)->List (Str×V)->Prop
 |nil:RFs K H [] []
 |cons {f:String}{v:fY.Val}{x:V}{fs:List (String×fY.Val)}{ps:List (Str×V)}:RV K H v x->RFs K H fs ps->RFs K H ((f,v)::fs) ((gh f,x)::ps)
def RKs.keep(k:eZ H H'):∀{kvs:List (fY.Val×fY.Val)}{ps:List (Key×V)},RKs K H kvs ps->RKs K H' kvs ps
 |_,_,.nil=>.nil
 |_,_,.cons a r t=>.cons a (r.keep k)<|RKs.keep k t
inductive RTs (K:Frag) (H:Hp):List (fY.Val×fY.Val)->List (List Key×V)->Prop
 |nil:RTs K H [] []
 |cons {i j:Int}{v:fY.Val}{x:V}{kvs:List (fY.Val×fY.Val)}{ps:List (List Key×V)}:RV K H v x->RTs K H kvs ps->RTs K H ((.key i j,v)::kvs) (([.inl i,.inl j],x)::ps)
def RTs.keep(k:eZ H H'):∀{kvs:List (fY.Val×fY.Val)}{ps:List (List Key×V)},RTs K H kvs ps->RTs K H' kvs ps
 |_,_,.nil=>.nil
 |_,_,.cons r t=>.cons (r.keep k)<|RTs.keep k t
def RFs.keep(k:eZ H H'):∀{fs:List (String×fY.Val)}{ps:List (Str×V)},RFs K H fs ps->RFs K H' fs ps
 |_,_,.nil=>.nil
 |_,_,.cons r t=>.cons (r.keep k)<|RFs.keep k t
abbrev RO(i:Inf)(H:Hp)(a:È):fY.Ob->Prop
 |.lst xs=>∃vs,H a=d7 (.lst vs)/\RVs i.K H xs vs
 |.dct kvs=>∃ps,H a=d7 (.dK ps)/\RKs i.K H kvs ps
 |.ins C fs=>∃c dx ps,i.ins C=d9/\i.cl C c/\H a=d7 (.ins c dx ps)/\RFs i.K H fs ps
 |.exc C=>∃c,i.xc C c/\H a=d7 (xcO a<|.ref c)
 |.frz kvs=>∃o ps,H a=d7 (.frz o<|.dK ps)/\RKs i.K H kvs ps
 |.dtp kvs=>∃ps,H a=d7 (.dT ps)/\RTs i.K H kvs ps
variable {i:Inf}
def RO.there{o:fY.Ob}(r:RO i H a o):∃u,H a=d7 u:=by
 cases o with
 |lst xs=>obtain⟨_,e,_⟩:=r;exact⟨_,e⟩
 |dct kvs=>obtain⟨_,e,_⟩:=r;exact⟨_,e⟩
 |ins C fs=>obtain⟨_,_,_,_,_,e,_⟩:=r;exact⟨_,e⟩
 |exc C=>obtain⟨_,_,e⟩:=r;exact⟨_,e⟩
 |frz kvs=>obtain⟨_,_,e,_⟩:=r;exact⟨_,e⟩
 |dtp kvs=>obtain⟨_,e,_⟩:=r;exact⟨_,e⟩
def RO.move{o:fY.Ob}(r:RO i H a o)(k:eZ H H')(e:H' a=H a):RO i H' a o:=by
 cases o with
 |lst xs=>obtain⟨vs,q,r⟩:=r;exact⟨vs,e.trans q,r.keep k⟩
 |dct kvs=>obtain⟨ps,q,r⟩:=r;exact⟨ps,e.trans q,r.keep k⟩
 |ins C fs=>obtain⟨c,dx,ps,h0,h,q,r⟩:=r;exact⟨c,dx,ps,h0,h,e.trans q,r.keep k⟩
 |exc C=>obtain⟨c,h,q⟩:=r;exact⟨c,h,e.trans q⟩
 |frz kvs=>obtain⟨o,ps,q,r⟩:=r;exact⟨o,ps,e.trans q,r.keep k⟩
 |dtp kvs=>obtain⟨ps,q,r⟩:=r;exact⟨ps,e.trans q,r.keep k⟩
abbrev RH(i:Inf)(G:fY.Hs)(H:Hp):Prop:=∀a o,G a=d7 o->RO i H a o
variable {G:fY.Hs}
def RH.free(r:RH i G H)(e:H a=d8):G a=d8:=by
 cases q:G a with
 |none=>rfl
 |some o=>obtain⟨u,z⟩:=(r a o q).there;rw[e]at z;cases z
def RH.put{o:fY.Ob}{u:HO}(r:RH i G H)(k:eZ H<|upd H a u)(n:RO i (upd H a u) a o):RH i (fY.upd G a o)<|upd H a u:=λb p e=>by
 by_cases hb:b=a
 .subst hb;rw[fY.ej]at e;cases e;exact n
 .rw[fY.ei hb]at e;exact(r b p e).move k<|ei hb
def RH.hid(r:RH i G H)(k:eZ H H')(e:∀a o,G a=d7 o->H' a=H a):RH i G H':=λb p q=>(r b p q).move k (e b p q)
structure REn(K:Frag)(H:Hp)(env:fY.Env)(σ:St):Prop where
 len:env.length=σ.length
 get:∀(i:Nat) (v:fY.Val),env[i]?=d7 (d7 v)->∃x,σ[i]?=d7 (d7 x)/\RV K H v x
variable {σ:St}
def REn.keep{env:fY.Env}(r:REn K H env σ)(k:eZ H H'):REn K H' env σ:=⟨r.len,λi v e=>by
  obtain⟨x,h1,h2⟩:=r.get i v e
  exact⟨x,h1,h2.keep k⟩⟩
def REn.set{env:fY.Env}{v:fY.Val}{x:V}(r:REn K H env σ)(q:RV K H v x)(j:Nat):REn K H (env.set j<|d7 v)<|σ.set j<|d7 x:=⟨by simp[r.len],λi u e=>by
  by_cases hij:j=i
  . subst hij
    rw[Ζ]at e
    cases z:env[j]? with
    |none=>rw[z]at e;cases e
    |some w =>
      rw[z]at e
      cases e
      have hj:j<σ.length:=by rw[<-r.len];exact(Ï.mp z).1
      exact⟨x,Ι hj,q⟩
  . rw[ĩ hij]at e
    obtain⟨y,h1,h2⟩:=r.get i u e
    exact⟨y,by rw[ĩ hij];exact h1,h2⟩⟩
def REn.start{n:Nat}(r:RVs K H vs xs):REn K H (vs.map d7++Ø n d8)<|xs.map d7++Ø n d8:=⟨by simp[r.length],λi v e=>by
  by_cases hi:i<vs.length
  . rw[þ (by simpa using hi),Õ]at e
    cases z:vs[i]? with
    |none=>rw[z]at e;cases e
    |some w =>
      rw[z]at e
      cases e
      obtain⟨x,h1,h2⟩:=r.get z
      exact⟨x,by rw[þ (by rw[À,<-r.length];exact hi),Õ,h1];rfl,h2⟩
  . rw[ă (by simpa using hi),Ņ]at e
    split at e<;>cases e⟩
def RVs.ints{K:Frag}{H:Hp}:∀ns:List Int,RVs K H (ns.map fY.Val.int) (ns.map V.int)
 |[]=>.nil
 |n::ns=>.cons (.int n)<|RVs.ints ns
def Yp{ns:List Int}(h:(∃o,H a=d7 (.frz o<|.lst<|ns.map V.int))\/KL K a (ns.map V.int)):fP K H a<|ns.map V.int:=by
 rcases h with⟨o,h⟩|h
 .exact .inl<|.inr ⟨o,h⟩
 .exact .inr h
variable {i:Inf}{X:Cx}{Φ:fY.Fs}
abbrev XK1(i:Inf)(H:Hp)(Em:fY.XQ):XK:=λcls _ H'=>∃c G' ad,cls=.ref ad/\i.xc c ad/\eZ H H'/\RH i G' H'/\Em c G'
abbrev XOk(X:Cx)(i:Inf)(H:Hp)(Em:fY.XQ):Prop:=XW X<|XK1 i H Em
variable {H:Hp} {H1:Hp} {Em:fY.XQ}
def XK1.go{H':Hp}{cls:Â}{d:Option È}(k:eZ H H1)(h:XK1 i H1 Em cls d H'):XK1 i H Em cls d H':=by obtain⟨c,G',ad,e,q,k',r,m⟩:=h;exact⟨c,G',ad,e,q,k.trans k',r,m⟩
def XOk.go(x:XOk X i H Em)(k:eZ H H1):XOk X i H1 Em:=λÁ σ H0 s H' a cls s' I f e=>x Á σ H0 s H' a cls s' I f (e.go k)
structure Pre(X:Cx)(i:Inf)(σ:St)(H:Hp)(env:fY.Env)(G:fY.Hs)(Em:fY.XQ):Prop where
 en:REn i.K H env σ
 hp:RH i G H
 xo:XOk X i H Em
variable {σ:St} {G:fY.Hs}
def Pre.go{env:fY.Env}{G1:fY.Hs}(p:Pre X i σ H env G Em)(k:eZ H H1)(r:RH i G1 H1):Pre X i σ H1 env G1 Em:=⟨p.en.keep k,r,p.xo.go k⟩
abbrev Cn(i:Inf)(H:Hp)(Q:VK)(Qm:fY.Q1):Prop:=∀v G' H' x,eZ H H'->RH i G' H'->RV i.K H' v x->Qm v G'->Q x H'
variable {Q:VK} {Qm:fY.Q1}
def Cn.go(c:Cn i H Q Qm)(k:eZ H H1):Cn i H1 Q Qm:=λv G' H' x k'=>c v G' H' x (k.trans k')
inductive tEx (X:Cx) (i:Inf) (Φ:fY.Fs) (m:fY.E) (σ:St) (H:Hp) (Q:VK):Prop
 |mk (env:fY.Env) (G:fY.Hs) (Qm:fY.Q1) (Em:fY.XQ) (p:Pre X i σ H env G Em) (w:fY.wE Φ m env G Qm Em) (c:Cn i H Q Qm)
abbrev tE(X:Cx)(i:Inf)(Φ:fY.Fs)(m:fY.E):TE:=tEx X i Φ m
inductive tArx (X:Cx) (i:Inf) (Φ:fY.Fs) (ms:fY.Es) (n:Nat) (σ:St) (H:Hp) (Q:List V->Hp->Prop):Prop
 |mk (env:fY.Env) (G:fY.Hs) (Qm:List fY.Val->fY.Hs->Prop) (Em:fY.XQ) (p:Pre X i σ H env G Em) (w:fY.wA Φ ms env G Qm Em) (c:∀vs G' H' xs,eZ H H'->RH i G' H'->RVs i.K H' vs xs->xs.length=n->Qm vs G'->Q xs H')
abbrev tAr(X:Cx)(i:Inf)(Φ:fY.Fs)(ms:fY.Es)(n:Nat):TA:=tArx X i Φ ms n
inductive tTtx (X:Cx) (i:Inf) (Φ:fY.Fs) (m:fY.Tt) (σ:St) (H:Hp) (Q:Bool->Hp->Prop):Prop
 |mk (env:fY.Env) (G:fY.Hs) (Qm:Bool->fY.Hs->Prop) (Em:fY.XQ) (p:Pre X i σ H env G Em) (w:fY.wT Φ m env G Qm Em) (c:∀b G' H',eZ H H'->RH i G' H'->Qm b G'->Q b H')
abbrev tTt(X:Cx)(i:Inf)(Φ:fY.Fs)(m:fY.Tt):TT:=tTtx X i Φ m
variable {e:Expr}
def _root_.L2.PE.imp{t t':TE}(h:PE X e t)(f:∀σ H Q,t' σ H Q->t σ H Q):PE X e t':=λÁ s σ H Q I q=>h Á s σ H Q I (f σ H Q q)
variable {t':TT}
def _root_.L2.PT.imp{t:TT}(h:PT X e t)(f:∀σ H Q,t' σ H Q->t σ H Q):PT X e t':=λÁ s σ H Q I q=>h Á s σ H Q I (f σ H Q q)
def _root_.L2.PW.imp{t:TT}(h:PW X e t)(f:∀σ H Q,t' σ H Q->t σ H Q):PW X e t':=λwh Á s σ H Q I q=>h wh Á s σ H Q I (f σ H Q q)
variable {es:List Expr}
def _root_.L2.PA.imp{t t':TA}(h:PA X es t)(f:∀σ H Q,t' σ H Q->t σ H Q):PA X es t':=λæ Á s σ H Q I q=>h æ Á s σ H Q I (f σ H Q q)
variable {j:Nat}
def Qy{env:fY.Env}{h:fY.Hs}{Q:fY.Q1}{E:fY.XQ}:(fY.wE Φ (.var j) env h Q E)=(fY.go (fY.getV env j) λv=>Q v h):=rfl
def eC{α:Type}{o:Option α}{k:α->Prop}(h:fY.go o k):∃a,o=d7 a/\k a:=by
 cases o with
 |none=>simp at h
 |some a=>exact⟨a,rfl,by simpa using h⟩
def Bo{env:fY.Env}{v:fY.Val}(h:fY.getV env j=d7 v):env[j]?=d7 (d7 v):=by
 unfold fY.getV at h;split at h
 .rename_i u e;cases h;exact e
 .cases h
variable {æ:Pos}
def QJ{x:Str}(hN:X.N[j]?=d7 x)(hv:Vis X.env.scope x)(hd:(x==("__debug__" : Str))=ee)(aA:(x==("__classdict__" : Str))=ee):PE X (.Name x æ) (tE X i Φ<|.var j) :=
 (IT hN hv hd aA).imp λσ H Q ⟨env,G,Qm,Em,p,w,c⟩=>by rw[Qy]at w;obtain⟨v,e,q⟩:=eC w;obtain⟨y,h1,h2⟩:=p.en.get j v<|Bo e;exact⟨y,h1,c v G H y (eZ.refl H) p.hp h2 q⟩
variable {x:V}
def Jf{v:fY.Val}(h:PE X e<|tC x)(r:∀H,RV i.K H v x):PE X e (tE X i Φ<|.cst v) :=
 h.imp λσ H Q ⟨env,G,Qm,Em,p,w,c⟩=>by exact c v G H x (eZ.refl H) p.hp (r H) w
def IE{y:String}{v:fY.Val}(h:PE X e<|tC x)(r:∀H,RV i.K H v x):PE X e (tE X i Φ<|.glob y v) :=
 h.imp λσ H Q ⟨env,G,Qm,Em,p,w,c⟩=>by exact c v G H x (eZ.refl H) p.hp (r H) w
variable {a:fY.E}
def two{b:fY.E}{env:fY.Env}{F:fY.Val->fY.Val->fY.Hs->Prop}{R:V->V->Hp->Prop}(p:Pre X i σ H env G Em)
  (w:fY.wE Φ a env G (λv G1=>fY.wE Φ b env G1 (λu G2=>F v u G2) Em) Em)
  (h:∀v u G2 H2 x y,eZ H H2->Pre X i σ H2 env G2 Em->RV i.K H2 v x->RV i.K H2 u y->F v u G2->R x y H2):tE X i Φ a σ H λx H1=>tE X i Φ b σ H1 λy H2=>R x y H2 :=
 ⟨env,G,_,Em,p,w,λv G1 H1 x k1 g1 r1 w1=>⟨env,G1,_,Em,p.go k1 g1,w1,λu G2 H2 y k2 g2 r2 w2=>h v u G2 H2 x y (k1.trans k2) ((p.go k1 g1).go k2 g2) (r1.keep k2) r2 w2⟩⟩
def one{env:fY.Env}{F:fY.Val->fY.Hs->Prop}{R:V->Hp->Prop}(p:Pre X i σ H env G Em)
  (w:fY.wE Φ a env G (λv G1=>F v G1) Em) (h:∀v G1 H1 x,eZ H H1->Pre X i σ H1 env G1 Em->RV i.K H1 v x->F v G1->R x H1):tE X i Φ a σ H λx H1=>R x H1 :=
 ⟨env,G,_,Em,p,w,λv G1 H1 x k1 g1 r1 w1=>h v G1 H1 x k1 (p.go k1 g1) r1 w1⟩
abbrev Kh(i:Inf)(op:fY.Bop)(r:R2):Prop:=∀(v u:fY.Val) (G:fY.Hs) (H:Hp) (x y:V) (Q:VK) (Qm:fY.Q1),RH i G H->RV i.K H v x->RV i.K H u y->(fY.binV G op v u).wp G Qm->Cn i H Q Qm->r x y H Q
variable {b:Expr} {ma:fY.E} {mb:fY.E} {r:R2}
def KY{a:Expr}{op:Ψ}{bop:fY.Bop}(ho:OpR X (ł op) r)(hr:Kh i bop r)(ha:PE X a<|tE X i Φ ma)(hb:PE X b<|tE X i Φ mb):PE X (.BinOp a op b æ) (tE X i Φ<|.bin bop ma mb) :=
 (QY ho ha hb).imp λσ H Q ⟨env,G,Qm,Em,p,w,c⟩=>by exact two p w λv u G2 H2 x y k2 p2 rx ry q=>hr v u G2 H2 x y Q Qm p2.hp rx ry q<|c.go k2
abbrev Z5(i:Inf)(op:fY.Cop)(r:R2):Prop:=∀(v u:fY.Val) (G:fY.Hs) (H:Hp) (x y:V) (c:Bool) (Q:VK),RH i G H->RV i.K H v x->RV i.K H u y->fY.eW G op v u=d7 c->Q (.bl c) H->r x y H Q
variable {op:bR} {cop:fY.Cop}
def Q7{a:Expr}(ho:OpR X (ë op) r)(hr:Z5 i cop r)(ha:PE X a<|tE X i Φ ma)(hb:PE X b<|tE X i Φ mb)(hm:ķ op b=ee):PE X (.Compare a [op] [b] æ) (tE X i Φ<|.cmp cop ma mb) :=
 (O8 ho ha hb hm).imp λσ H Q ⟨env,G,Qm,Em,p,w,c⟩=>by
  exact two p w λv u G2 H2 x y k2 p2 rx ry q=>by obtain⟨d,e,q⟩:=eC q;exact hr v u G2 H2 x y d Q p2.hp rx ry e<|c (.bl d) G2 H2 (.bl d) k2 p2.hp (.bl d) q
def LF{a:Expr}(ho:OpR X (ë op) r)(hr:Z5 i cop r)(ha:PE X a<|tE X i Φ ma)(hb:PE X b<|tE X i Φ mb)(hm:ķ op b=ee):PT X (.Compare a [op] [b] æ) (tTt X i Φ<|.val<|.cmp cop ma mb) :=
 (Ul ho ha hb hm).imp λσ H Q ⟨env,G,Qm,Em,p,w,c⟩=>by
  exact two p w λv u G2 H2 x y k2 p2 rx ry q=>by obtain⟨d,e,q⟩:=eC q;obtain⟨d',e',q⟩:=eC q;cases e';exact hr v u G2 H2 x y d _ p2.hp rx ry e ⟨d,rfl,c d G2 H2 k2 p2.hp q⟩
def WG{v:fY.Val}{b:Bool}(h:fY.fV v=d7 b):v=.bl b:=by cases v<;>simp_all [fY.fV]
def ZK{v:fY.Val}{b:Int}(h:fY.fU v=d7 b):v=.int b:=by cases v<;>simp_all [fY.fU]
def JZ{v:fY.Val}{b:fY.Ad}(h:fY.fk v=d7 b):v=.ref b:=by cases v<;>simp_all [fY.fk]
def RV.bl_inv{K:Frag}{b:Bool}(r:RV K H (.bl b) x):x=.bl b:=by cases r;rfl
def RV.int_inv{K:Frag}{b:Int}(r:RV K H (.int b) x):x=.int b:=by cases r;rfl
def RV.ref_inv{K:Frag}{b:È}(r:RV K H (.ref b) x):x=.ref b:=by cases r;rfl
def RV.str_inv{K:Frag}{b:String}(r:RV K H (.str b) x):x=.str (gh b):=by cases r;rfl
def RV.non_inv{K:Frag}(r:RV K H .non x):x=.non:=by cases r;rfl
def Qg{a:Expr}(ha:PE X a<|tE X i Φ ma):PE X (.UnaryOp .Not a æ) (tE X i Φ<|.not ma) :=
 (Po ha).imp λσ H Q ⟨env,G,Qm,Em,p,w,c⟩=>by
  exact one p w λv G1 H1 x k1 p1 r q=>by obtain⟨b,e,q2⟩:=eC q;clear q;cases WG e;exact⟨b,r.bl_inv,c _ G1 H1 _ k1 p1.hp (.bl _) q2⟩
def Qd{a:Expr}(ha:PE X a<|tE X i Φ ma):PE X (.UnaryOp .USub a æ) (tE X i Φ<|.neg ma) :=
 (Rc Pc ha).imp λσ H Q ⟨env,G,Qm,Em,p,w,c⟩=>by
  exact one p w λv G1 H1 x k1 p1 r q=>by obtain⟨b,e,q2⟩:=eC q;clear q;cases ZK e;exact⟨b,r.int_inv,c _ G1 H1 _ k1 p1.hp (.int _) q2⟩
def Qj{a:Expr}{rest:List Expr}(ha:PE X a<|tE X i Φ ma)(hb:PE X (.BoolOp .And (b::rest) æ)<|tE X i Φ mb):PE X (.BoolOp .And (a::b::rest) æ) (tE X i Φ<|.and ma mb) :=
 (HM ha hb).imp λσ H Q ⟨env,G,Qm,Em,p,w,c⟩=>by
  exact one p w λv G1 H1 x k1 p1 r q=>by
   obtain⟨d,e,q2⟩:=eC q;clear q;cases WG e;refine⟨d,r.bl_inv,?_⟩;cases d with
   |true=>exact⟨env,G1,Qm,Em,p1,by simpa using q2,c.go k1⟩
   |false=>simp at q2 ⊢;exact c _ G1 H1 _ k1 p1.hp (.bl _) q2
def So{a:Expr}{rest:List Expr}(ha:PE X a<|tE X i Φ ma)(hb:PE X (.BoolOp .Or (b::rest) æ)<|tE X i Φ mb):PE X (.BoolOp .Or (a::b::rest) æ) (tE X i Φ<|.or ma mb) :=
 (PZ ha hb).imp λσ H Q ⟨env,G,Qm,Em,p,w,c⟩=>by
  exact one p w λv G1 H1 x k1 p1 r q=>by
   obtain⟨d,e,q2⟩:=eC q;clear q;cases WG e;refine⟨d,r.bl_inv,?_⟩;cases d with
   |false=>exact⟨env,G1,Qm,Em,p1,by simpa using q2,c.go k1⟩
   |true=>simp at q2 ⊢;exact c _ G1 H1 _ k1 p1.hp (.bl _) q2
def IV{a:Expr}{ma:fY.Tt}(ha:PT X a<|tTt X i Φ ma):PT X (.UnaryOp .Not a æ) (tTt X i Φ<|.not ma) :=
 (Lc ha).imp λσ H Q ⟨env,G,Qm,Em,p,w,c⟩=>by exact⟨env,G,_,Em,p,w,λb G1 H1 k1 g1 q=>c (!b) G1 H1 k1 g1 q⟩
def Iv{a:Expr}{rest:List Expr}{ma mb:fY.Tt}(ha:PT X a<|tTt X i Φ ma)(hb:PW X (.BoolOp .And (b::rest) æ)<|tTt X i Φ mb):PW X (.BoolOp .And (a::b::rest) æ) (tTt X i Φ<|.and ma mb) :=
 (LC ha hb).imp λσ H Q ⟨env,G,Qm,Em,p,w,c⟩=>by
  refine⟨env,G,_,Em,p,w,λd G1 H1 k1 g1 q=>?_⟩;cases d with
  |true=>exact⟨env,G1,Qm,Em,p.go k1 g1,by simpa using q,λb G2 H2 k2=>c b G2 H2<|k1.trans k2⟩
  |false=>simp at q ⊢;exact c ee G1 H1 k1 g1 q
def RJ{a:Expr}{rest:List Expr}{ma mb:fY.Tt}(ha:PT X a<|tTt X i Φ ma)(hb:PW X (.BoolOp .Or (b::rest) æ)<|tTt X i Φ mb):PW X (.BoolOp .Or (a::b::rest) æ) (tTt X i Φ<|.or ma mb) :=
 (Q6 ha hb).imp λσ H Q ⟨env,G,Qm,Em,p,w,c⟩=>by
  refine⟨env,G,_,Em,p,w,λd G1 H1 k1 g1 q=>?_⟩;cases d with
  |false=>exact⟨env,G1,Qm,Em,p.go k1 g1,by simpa using q,λb G2 H2 k2=>c b G2 H2<|k1.trans k2⟩
  |true=>simp at q ⊢;exact c d9 G1 H1 k1 g1 q
def ET{a:Expr}{ma:fY.Tt}(ha:PT X a<|tTt X i Φ ma):PW X (.BoolOp .And [a] æ)<|tTt X i Φ ma:=ES ha
def IS{a:Expr}{ma:fY.Tt}(ha:PT X a<|tTt X i Φ ma):PW X (.BoolOp .Or [a] æ)<|tTt X i Φ ma:=PF ha
def Qk{c a:Expr}{mc:fY.Tt}(hc:PT X c<|tTt X i Φ mc)(ha:PE X a<|tE X i Φ ma)(hb:PE X b<|tE X i Φ mb):PE X (.IfExp c a b æ) (tE X i Φ<|.ife mc ma mb) :=
 (CK hc ha hb).imp λσ H Q ⟨env,G,Qm,Em,p,w,c⟩=>by
  refine⟨env,G,_,Em,p,w,λd G1 H1 k1 g1 q=>?_⟩;cases d with
  |true=>exact⟨env,G1,Qm,Em,p.go k1 g1,by simpa using q,c.go k1⟩
  |false=>exact⟨env,G1,Qm,Em,p.go k1 g1,by simpa using q,c.go k1⟩
def Ib:PA X []<|tAr X i Φ .nil 0:=fN.imp λσ H Q ⟨env,G,Qm,Em,p,w,c⟩=>by exact c [] G H [] (eZ.refl H) p.hp .nil rfl w
def GI{m:fY.E}{ms:fY.Es}{n:Nat}(he:PE X e<|tE X i Φ m)(hes:PA X es<|tAr X i Φ ms n)(hs:Ì (e::es) X.env=(ee,eval e X.env)::Ì es X.env):PA X (e::es) (tAr X i Φ (.cons m ms)<|n+1) :=
 (Zv he hes hs).imp λσ H Q ⟨env,G,Qm,Em,p,w,c⟩=>by exact⟨env,G,_,Em,p,w,λv G1 H1 x k1 g1 r1 w1=>⟨env,G1,_,Em,p.go k1 g1,w1,λvs G2 H2 xs k2 g2 r2 hn w2=>c (v::vs) G2 H2 (x::xs) (k1.trans k2) g2 (.cons (r1.keep k2) r2) (by rw[Ç,hn]) w2⟩⟩
def ZT:fY.lim<=Ú:=by decide
def YZ{o:fY.Ob}{u:HO}(g:RH i G H)(w:fY.new G o Qm)(c:Cn i H Q Qm)(r:∀p,H p=d8->RO i (upd H p u) p o):∀p,H p=d8->Q (.ref p) (upd H p u):=λp hp=>by unfold fY.new at w;exact c (.ref p) _ _ (.ref p) (eZ.new hp) (g.put (eZ.new hp)<|r p hp) (.ref p) (w p<|g.free hp)
end Snd
namespace HT2
open PySem PySem.Spec PyProof.Rows L2
abbrev Yl:List Int->List Int->Bool
 |[],[]=>ee
 |[],_::_=>ee
 |_::_,[]=>d9
 |x::xs,y::ys=>if x=y then Yl xs ys else gg (x > y)
def D9(A:č)(s:Å)(a:Int)(t:Tok)(c:Int)(u:Tok)(prog:ê)(w:ý)(E:Â->Å->Prop)(Q:Â->Å->Prop)(h:Q (.bool<|gg (a > c)) s) :
  wpAny (à prog w) A (richCompare .Gt (.int a t)<|.int c u) Q E s :=
 (PyProof.Rows.gt_int h:wpAny (à prog w) A (ë .Gt (.int a t)<|.int c u) Q E s)
section
open PySem.SeqAt
open PySem.AutoSeq1 (wpAny_loadPart')
open PySem.MeetsSeq PySem.MeetsSeq2 PySem.MeetsSeq3
def Kv(l b:È)(items Ľ:Array Â)(n n2:Nat)(dd cG:Option È)(sl dF:Array<|Option Â)(ns ms:List Int)(hi:Ė items.toList ns)(hj:Ė Ľ.toList ms) :
  Meets (Builtin.«tuple.__gt__» ⟨[.ref l,.ref b],[]⟩)
   (λ_ R s=>s.heap.get? l=d7 { cls:=.type "tuple",dict:=dd,data:=.seq items n,slots:=sl }/\s.heap.get? b=d7 { cls:=.type "tuple",dict:=cG,data:=.seq Ľ n2,slots:=dF }/\
     R (.ok<|.ret<|.bool<|Yl ns ms) s) :=
 .of_wp λprog w A R s h=>by
  obtain⟨hp,g,d,tk,os⟩:=s;obtain⟨hl,hb,h⟩:=h;have f2:=AutoSeq1.sub_tuple_tuple;have z1:items.size=ns.length:=by rw[<-hi.length];simp
  have z2:Ľ.size=ms.length:=by rw[<-hj.length];simp
  wp_walk using ę hl,ę hb,wpAny_forIn_list _ (λrest b s'=>b.1=d8/\s'=⟨hp,g,d,tk,os⟩/\∃(vs ws:List Â) (cp cX:List Int),rest=vs.zip ws/\
    Ė vs cp/\Ė ws cX/\cp.length+Ľ.size=cX.length+items.size/\R (.ok<|.ret<|.bool<|Yl cp cX) ⟨hp,g,d,tk,os⟩) _
  case turn =>
   rintro⟨y,x⟩ rest b s' ⟨cH,rfl,vs,ws,cp,cX,hz,hvi,hwi,hlen,hR⟩;cases hvi with
   |nil=>rw[ψ]at hz;cases hz
   |cons a t hvi' =>
    cases hwi with
    |nil=>rw[η]at hz;cases hz
    |cons c u hwi' =>
     rw[ň]at hz;injection hz with hyx hrest;injection hyx with hy hx;subst hy hx;rw[Yl]at hR;simp only[Ç]at hlen;obtain⟨e,he,hiff⟩:=HT.eqAt_int A.in1 ⟨hp,g,d,tk,os⟩ a t c u;refine Ã<|he prog w _ _ ?_;cases e with
     |true =>
      rw[fZ<|hiff.mp rfl]at hR
      wp_walk
      exact⟨rfl,rfl,_,_,_,_,hrest,hvi',hwi',by lia,hR⟩
     |false =>
      rw[f8 λq=>gf (hiff.mpr q) ø]at hR;have hri:=D9 A.in1 ⟨hp,g,d,tk,os⟩ a t c u prog w
      wp_walk using hri
      exact⟨_,rfl,by simpa using hR⟩
  case fin =>
   rintro⟨b1,b2⟩ s' ⟨cH,rfl,vs,ws,cp,cX,hz,hvi,hwi,hlen,hR⟩;simp only at cH;subst cH;have hv:Yl cp cX=gg (items.size > Ľ.size):=by
    cases hvi with
    |nil =>
     cases hwi with
     |nil =>simp only[ė]at hlen;rw[Yl];exact(f9<|by lia).symm
     |cons c u hw =>simp only[ė,Ç]at hlen;rw[Yl];exact(f9<|by lia).symm
    |cons a t hv =>
     cases hwi with
     |nil =>simp only[ė,Ç]at hlen;rw[Yl];exact(gb<|by lia).symm
     |cons c u hw =>rw[ň]at hz;cases hz
   rw[hv]at hR
   wp_walk
   exact⟨_,rfl,by simpa[Builtin.Tuple.tupleCompareSizes]using hR⟩
  case h =>exact⟨rfl,rfl,items.toList,Ľ.toList,ns,ms,rfl,hi,hj,by lia,h⟩
end
def OO{prog:ê}{w:ý}{A:č}{E:Â->Å->Prop}{s:Å}{l b:È}{items Ľ:Array Â}{ns ms:List Int}{Q:Â->Å->Prop}(hl:ϙ s.heap l items)(hb:ϙ s.heap b Ľ)(hi:Ė items.toList ns)(hj:Ė Ľ.toList ms)
  (hu:A.units<Ě) (h:Q (.bool<|Yl ns ms) s):wpAny (à prog w) A (ë .Gt (.ref l)<|.ref b) Q E s:=by
 obtain⟨⟨cls,dd,data,sl⟩,ho,hc,n,hd⟩:=id hl;obtain⟨⟨cls2,cG,data2,dF⟩,ho2,hc2,n2,aM⟩:=id hb;simp only at hc hd hc2 aM;subst hc hd hc2 aM;exact dN (op:=.Gt) ⟨_,ho,rfl⟩ ⟨_,ho2,rfl⟩ PySem.F.slot_tuple_gt PySem.F.entry_tuple_gt (PySem.F.args_tuple_gt_2 _ _) (Kv l b items Ľ n n2 dd cG sl dF ns ms hi hj)
  ⟨ho,ho2,show Value.bool (Yl ns ms)≠bT/\Q (.bool<|Yl ns ms) s from ⟨(λx=>nomatch x),h⟩⟩ hu
abbrev rGtT(K:Frag):R2:=λx y H Q=>∃a b ns ms,x=.ref a/\y=.ref b/\fQ K H a (ns.map V.int)/\fQ K H b (ms.map V.int)/\Q (.bl<|Yl ns ms) H
def op_gtT{X:Cx}(hu:X.A.units<Ě):OpR X (ë .Gt)<|rGtT X.K:=by intro Á s σ H x y v u Q I rx ry h;obtain⟨a,b,ns,ms,rfl,rfl,ha,hb,q⟩:=h;cases rx;cases ry;obtain⟨ì,r1,p1,_⟩:=I.tuple ha;obtain⟨al,r2,p2,_⟩:=I.tuple hb;have i1:Ė ì.toArray.toList ns:=Zq r1;have i2:Ė al.toArray.toList ms:=Zq r2;exact OO p1 p2 i1 i2 hu ⟨.bl<|Yl ns ms,H,I,rfl,q⟩
def lexGt_lt:∀(ns ms:List Int),Yl ns ms=HT.lexLt ms ns
 |[],[]=>rfl
 |[],_::_=>rfl
 |_::_,[]=>rfl
 |x::xs,y::ys=>by
  rw[Yl,HT.lexLt_cons,lexGt_lt xs ys];by_cases e:x=y
  .rw[fZ e,fZ e.symm]
  .rw[f8 e,f8 λz=>e z.symm]
end HT2
namespace Snd
open PySem L2
mutual
noncomputable def toD:fY.D->ŗ
 |.non=>.none
 |.bl b=>.bool b
 |.int i=>.int i
 |.str s=>.str<|gh s
 |.tup ds=>.tuple<|toDs ds
 |.lst ds=>.list<|toDs ds
noncomputable def toDs:List fY.D->List ŗ
 |[]=>[]
 |d::ds=>toD d::toDs ds
end
def ofS_inj{s t:String}:gh s=gh t↔s=t:=by
 constructor
 .intro h;rw[Str.ofString_eq_toList,Str.ofString_eq_toList]at h;injection h with h;have h2:s.toList.map Ŗ=t.toList.map Ŗ:=by simpa using congrArg bA h
  have inj:∀{a b:Char},a.toNat=b.toNat->a=b:=λ{a b} e=>Char.ext<|bg e;have:s.toList=t.toList:=by
   revert h2;generalize s.toList=a;generalize t.toList=b;intro h2;induction a generalizing b with
   |nil=>cases b with
    |nil=>rfl
    |cons _ _=>cases h2
   |cons x xs ih=>cases b with
    |nil=>cases h2
    |cons y ys =>simp only[Î,List.cons.injEq]at h2;rw[inj h2.1,ih _ h2.2]
  exact String.toList_inj.mp this
 .rintro rfl;rfl
def Gh(s t:String):(gh s==gh t)=(s==t):=by
 by_cases e:s=t
 .subst e;simp
 .have:gh s≠gh t:=λz=>e<|ofS_inj.mp z;rw[beq_eq_false_iff_ne.mpr this,beq_eq_false_iff_ne.mpr e]
def Am(s:String):PyData.strOk (gh s)=d9:=by
 rw[Str.ofString_eq_toList];unfold PyData.strOk;rw[Array.all_eq_true'];intro n hn;have:n∈s.toList.map Ŗ:=by simpa using hn
 obtain⟨c,_,rfl⟩:=å.mp this;have:=c.valid;have h2:c.toNat=c.val.toNat:=rfl;simp only[UInt32.isValidChar,Nat.isValidChar]at this;simp only[gc];lia
mutual
theorem M6:∀d e:fY.D,ĥ (toD d) (toD e)=fY.D.eqv d e
 |.non,e=>by cases e<;>simp[toD,ĥ,fY.D.eqv]
 |.bl _,e=>by cases e<;>simp[toD,ĥ,fY.D.eqv]
 |.int _,e=>by cases e<;>simp[toD,ĥ,fY.D.eqv]
 |.str s,e=>by cases e<;>simp only[toD,ĥ,fY.D.eqv];exact Gh _ _
 |.tup ds,e=>by cases e<;>simp only[toD,ĥ,fY.D.eqv];exact toDs_eqv _ _
 |.lst ds,e=>by cases e<;>simp only[toD,ĥ,fY.D.eqv];exact toDs_eqv _ _
theorem toDs_eqv:∀ds es:List fY.D,ς (toDs ds) (toDs es)=fY.D.eqvs ds es
 |[],[]=>by simp[toDs,ς,fY.D.eqvs]
 |[],_::_=>by simp[toDs,ς,fY.D.eqvs]
 |_::_,[]=>by simp[toDs,ς,fY.D.eqvs]
 |d::ds,e::es=>by simp only[toDs,ς,fY.D.eqvs,M6 d e,toDs_eqv ds es]
end
mutual
theorem MQ:∀d:fY.D,(toD d).canLay0=d9
 |.non=>by simp[toD,ţ]
 |.bl _=>by simp[toD,ţ]
 |.int _=>by simp[toD,ţ]
 |.str s=>by simp only[toD,ţ];exact Am s
 |.tup ds=>by simp only[toD,ţ];exact toDs_lay ds
 |.lst ds=>by simp only[toD,ţ];exact toDs_lay ds
theorem toDs_lay:∀ds:List fY.D,ŋ (toDs ds)=d9
 |[]=>by simp[toDs,ŋ]
 |d::ds=>by simp only[toDs,ŋ,MQ d,toDs_lay ds,Bool.and_self]
end
section
variable {i:Inf}{G:fY.Hs}{H:Hp}
def As{α β:Type}{f:α->Option β}:∀{xs:List α}{ys:List β},xs.mapM f=d7 ys->List.length xs=ys.length/\∀(n:Nat) (x:α),xs[n]?=d7 x->∃y,ys[n]?=d7 y/\f x=d7 y:=by
 intro xs;induction xs with
 |nil=>intro ys h;simp at h;subst h;exact⟨rfl,λn x e=>by simp at e⟩
 |cons a as ih =>
  intro ys h;rw[ύ]at h;cases e:f a with
  |none=>rw[e]at h;simp at h
  |some b =>
   rw[e]at h;cases e2:as.mapM f with
   |none=>rw[e2]at h;simp at h
   |some bs =>
    rw[e2]at h;simp at h;subst h;obtain⟨h1,h2⟩:=ih e2;refine⟨by simp[h1],λn x hn=>?_⟩;cases n with
    |zero=>simp at hn;subst hn;exact⟨b,rfl,e⟩
    |succ n=>simp at hn ⊢;exact h2 n x hn
def UI{K:Frag}{f:fY.Val->Option fY.D}(hf:∀v d x,f v=d7 d->RV K H v x->IsD K H x (toD d)):∀{vs:List fY.Val}{xs:List V}{ds:List fY.D},vs.mapM f=d7 ds->RVs K H vs xs->IsDs K H xs (toDs ds):=by
 intro vs;induction vs with
 |nil=>intro xs ds h r;simp at h;subst h;cases r;exact .nil
 |cons a as ih =>
  intro xs ds h r;rw[ύ]at h;cases e:f a with
  |none=>rw[e]at h;simp at h
  |some b =>
   rw[e]at h;cases e2:as.mapM f with
   |none=>rw[e2]at h;simp at h
   |some bs =>
    rw[e2]at h;simp at h;subst h;cases r with
    |cons r1 r2=>exact .cons (hf a b _ e r1)<|ih e2 r2
def ZM(g:RH i G H){a:È}{xs:List fY.Val}(e:fY.eR (G a)=d7 xs):∃vs,fP i.K H a vs/\RVs i.K H xs vs:=by
 cases q:G a with
 |none=>rw[q]at e;cases e
 |some o =>
  rw[q]at e;cases o with
  |lst ys=>cases e;obtain⟨vs,h,r⟩:=g a _ q;exact⟨vs,fP.of h,r⟩
  |dct _=>cases e
  |ins _ _=>cases e
  |exc _=>cases e
  |frz _=>cases e
  |dtp _=>cases e
def KQ:∀ns:List Int,toDs (ns.map fY.D.int)=ns.map PyData.int
 |[]=>by simp[toDs]
 |n::ns=>by simp only[Î,toDs,toD,KQ ns]
def Ws(g:RH i G H):∀(n:Nat) (v:fY.Val) (d:fY.D) (x:V),fY.dat G n v=d7 d->RV i.K H v x->IsD i.K H x (toD d):=by
 intro n;induction n with
 |zero =>
  intro v d x e r;cases v with
  |non=>cases r;simp[fY.dat]at e;subst e;rw[toD];exact .non
  |bl b=>cases r;simp[fY.dat]at e;subst e;rw[toD];exact .bl b
  |int b=>cases r;simp[fY.dat]at e;subst e;rw[toD];exact .int b
  |str s=>cases r;simp[fY.dat]at e;subst e;rw[toD];exact .str _
  |tup xs=>simp[fY.dat]at e
  |ref a=>simp[fY.dat]at e
  |scr ns=>simp[fY.dat]at e
  |key _ _=>simp[fY.dat]at e
 |succ n ih =>
  intro v d x e r;cases v with
  |non=>cases r;simp[fY.dat]at e;subst e;rw[toD];exact .non
  |bl b=>cases r;simp[fY.dat]at e;subst e;rw[toD];exact .bl b
  |int b=>cases r;simp[fY.dat]at e;subst e;rw[toD];exact .int b
  |str s=>cases r;simp[fY.dat]at e;subst e;rw[toD];exact .str _
  |tup xs =>
   rw[fY.dat]at e;cases z:xs.mapM (fY.dat G n)with
   |none=>rw[z]at e;cases e
   |some ds =>
    rw[z]at e;cases e;cases r with
    |tup hp hr=>rw[toD];exact .tup (Zj hp)<|UI ih z hr
  |ref a =>
   rw[fY.dat]at e;cases q:fY.eR (G a)with
   |none=>rw[q]at e;cases e
   |some xs =>
    rw[q]at e;simp only[ò]at e;cases z:xs.mapM (fY.dat G n)with
    |none=>rw[z]at e;cases e
    |some ds =>rw[z]at e;cases e;cases r.ref_inv;obtain⟨vs,h1,h2⟩:=ZM g q;rw[toD];exact .lst h1<|UI ih z h2
  |scr ns =>
   simp[fY.dat]at e;subst e;cases r with
   |scr h =>rw[toD,KQ];exact .lst (Yp h)<|IsDs.ints ns
  |key _ _=>simp[fY.dat]at e
def X1{n:Nat}:∀{ds:List fY.D},(∀d∈ds,(toD d).depth<=n)->ĸ (toDs ds)<=n
 |[],_=>by rw[toDs];simp[ĸ]
 |d::ds,h=>by rw[toDs];simp only[ĸ];exact Nat.max_le.mpr ⟨h d (by simp),X1 λe he=>h e<|by simp[he]⟩
def Ma:∀(n:Nat) (v:fY.Val) (d:fY.D),fY.dat G n v=d7 d->(toD d).depth<=n:=by
 have sc:∀(n:Nat) (v:fY.Val) (d:fY.D),(∀xs,v≠.tup xs)->(∀a,v≠.ref a)->(∀ns,v≠.scr ns)->fY.dat G n v=d7 d->(toD d).depth<=n:=by
  intro n v d h1 h2 h3 e;cases v with
  |tup xs=>exact gf rfl<|h1 xs
  |ref a=>exact gf rfl<|h2 a
  |scr ns=>exact gf rfl<|h3 ns
  |key _ _=>cases n<;>simp[fY.dat]at e
  |_=>simp[fY.dat]at e;subst e;simp[toD,PyData.depth]
 have ms:∀(n:Nat),(∀v d,fY.dat G n v=d7 d->(toD d).depth<=n)->∀(xs:List fY.Val) (ds:List fY.D),xs.mapM (fY.dat G n)=d7 ds->ĸ (toDs ds)<=n:=by
  intro n ih xs ds z;refine X1 λd hd=>?_;obtain⟨k,hk⟩:=b9.mp hd;obtain⟨h1,h2⟩:=As z;have Ϙ:k<xs.length:=by rw[h1];exact(Ï.mp hk).1
  obtain⟨y,hy,hf⟩:=h2 k xs[k]<|Ê Ϙ;rw[hk]at hy;cases hy;exact ih _ _ hf
 intro n;induction n with
 |zero =>
  intro v d e;cases v with
  |tup xs=>simp[fY.dat]at e
  |ref a=>simp[fY.dat]at e
  |scr ns=>simp[fY.dat]at e
  |_=>exact sc 0 _ d (by simp) (by simp) (by simp) e
 |succ n ih =>
  intro v d e;cases v with
  |tup xs =>
   rw[fY.dat]at e;cases z:xs.mapM (fY.dat G n)with
   |none=>rw[z]at e;cases e
   |some ds =>rw[z]at e;cases e;rw[toD];exact Ś<|ms n ih xs ds z
  |ref a =>
   rw[fY.dat]at e;cases q:fY.eR (G a)with
   |none=>rw[q]at e;cases e
   |some xs =>
    rw[q]at e;simp only[ò]at e;cases z:xs.mapM (fY.dat G n)with
    |none=>rw[z]at e;cases e
    |some ds =>rw[z]at e;cases e;rw[toD];exact Ś<|ms n ih xs ds z
  |scr ns =>simp[fY.dat]at e;subst e;rw[toD];refine Ś<|ß ?_<|Ň n;refine X1 λd hd=>?_;obtain⟨m,_,rfl⟩:=å.mp hd;simp[toD,PyData.depth]
  |_=>exact sc (n+1) _ d (by simp) (by simp) (by simp) e
def JJ{v:fY.Val}{d:fY.D}(e:fY.dat G fY.deep v=d7 d):SeqAt.shaped (toD d)=d9:=by show((toD d).canLay0&&gg ((toD d).depth<=64))=d9;rw[MQ,gb<|ß (Ma _ _ _ e)<|by decide];rfl
def U1(g:RH i G H){v u:fY.Val}{x y:V}{c:Bool}(rx:RV i.K H v x)(ry:RV i.K H u y)(e:fY.eqV G v u=d7 c):∃d d',IsD i.K H x d/\IsD i.K H y d'/\SeqAt.shaped d=d9/\SeqAt.shaped d'=d9/\ĥ d d'=c:=by
 unfold fY.eqV at e;cases z:fY.dat G fY.deep v with
 |none=>rw[z]at e;cases e
 |some d =>
  cases z2:fY.dat G fY.deep u with
  |none=>rw[z,z2]at e;cases e
  |some d' =>rw[z,z2]at e;cases e;exact⟨_,_,Ws g _ _ _ _ z rx,Ws g _ _ _ _ z2 ry,JJ z,JJ z2,M6 d d'⟩
def RU:Z5 i .eq<|Rr i.K:=by intro v u G H x y c Q g rx ry e q;obtain⟨d,d',h1,h2,h3,h4,h5⟩:=U1 g rx ry e;exact⟨d,d',h1,h2,h3,h4,by rw[h5];exact q⟩
def SO:Z5 i .ne<|Rk i.K:=by
 intro v u G H x y c Q g rx ry e q;have e:(fY.eqV G v u).map (!·)=d7 c:=e;cases z:fY.eqV G v u with
 |none=>rw[z]at e;cases e
 |some b =>rw[z]at e;cases e;obtain⟨d,d',h1,h2,h3,h4,h5⟩:=U1 g rx ry z;exact⟨d,d',h1,h2,h3,h4,by rw[h5];exact q⟩
end
variable {i:Inf}{X:Cx}{Φ:fY.Fs}
def ZF(s:String):(gh s).length=s.length:=by rw[Str.ofString_eq_toList];show(List.map Ŗ s.toList).toArray.size=_;rw[Ë,À];first|rfl|exact bM
def Mz(s t:String):gh (s++t)=gh s++gh t:=by rw[Str.ofString_eq_toList,Str.ofString_eq_toList,Str.ofString_eq_toList];show _=Str.append _ _;unfold Str.append;simp
variable {xs:List fY.Val}
def Ap{o:Option fY.Ob}(h:fY.eR o=d7 xs):o=d7 (.lst xs):=by
 cases o with
 |none=>cases h
 |some o=>cases o with
  |lst ys=>cases h;rfl
  |_=>cases h
variable {p:Prop}
def Zs{α:Type}[Decidable p]{o:Option α}{a:α}(e:(if p then o else d8)=d7 a):p/\o=d7 a:=by
 by_cases q:p
 .rw[fZ q]at e;exact⟨q,e⟩
 .rw[f8 q]at e;cases e
variable {h:fY.Hs} {Q:fY.Q1}
def Ze(w:fY.Rs.no.wp h Q):False:=by rw[fY.Rs.wp_no]at w;exact w
def Zi{v:fY.Val}(w:(fY.Rs.val v).wp h Q):Q v h:=by rw[fY.Rs.wp_val]at w;exact w
def Oi{o:fY.Ob}(w:(fY.Rs.new o).wp h Q):fY.new h o Q:=by rw[fY.Rs.wp_new]at w;exact w
def WX[Decidable p]{r:fY.Rs}(w:(if p then r else .no).wp h Q):p/\r.wp h Q:=by
 by_cases e:p
 .rw[fZ e]at w;exact⟨e,w⟩
 .rw[f8 e]at w;exact(Ze w).elim
variable {u:fY.Val}
def X8{f:Int->Int->fY.Rs}{v:fY.Val}(w:(fY.intV f v u).wp h Q):∃i j,v=.int i/\u=.int j/\(f i j).wp h Q:=by
 cases v with
 |int i=>cases u with
  |int j=>exact⟨i,j,rfl,rfl,w⟩
  |_=>exact(Ze w).elim
 |_=>exact(Ze w).elim
abbrev HF(K:Frag):R2:=λx y H Q=>(rI0 λi j=>.int<|i+j) x y H Q\/(((HD K x y H Q\/G8 K x y H Q)\/P1 x y H Q)\/∃i j,x=.str i/\y=.str j/\i.length+j.length<=Ú/\Q (.str<|i++j) H)
def Ro:OpR X (ł .Add)<|HF X.K:=op_add.or (((op_cat0.or EZ).or Ir).or OQ)
def b_add:Kh i .add<|HF i.K:=by
 intro v u G H x y Q Qm g rx ry w c;cases v<;>cases u<;>first|exact(Ze w).elim|skip
 case int.int a b =>
  replace w:=Zi w
  exact .inl ⟨a,b,rx.int_inv,ry.int_inv,c _ G H _ (eZ.refl H) g (.int _) w⟩
 case str.str a b =>
  obtain⟨h,w⟩:=WX w
  replace w:=Zi w
  refine .inr<|.inr ⟨_,_,rx.str_inv,ry.str_inv,?_,?_⟩
  .rw[ZF,ZF];exact ß h ZT
  .rw[<-Mz];exact c _ G H _ (eZ.refl H) g (.str _) w
 case tup.tup xs ys =>
  obtain⟨h,w⟩:=WX w
  replace w:=Zi w
  .skip
   cases rx with
   |@tup _ p vs hp hr =>
   cases ry with
   |@tup _ q us hq hs =>
   by_cases h0:vs=[]
   .subst h0;have:xs=[]:=ű hr.length;subst this;exact .inr<|.inl<|.inl<|.inl ⟨p,q,us,rfl,rfl,Zj hp,Zj hq,c _ G H _ (eZ.refl H) g (.tup hq hs) w⟩
   refine .inr<|.inl<|.inl<|.inr ⟨p,q,vs,us,rfl,rfl,Zj hp,Zj hq,h0,?_,λz=>?_,λz a ha=>?_⟩
   .rw[<-hr.length,<-hs.length];exact ß h ZT
   .have:ys=[]:=ű (by rw[hs.length,z];rfl);subst this;rw[ð]at w;exact c _ G H _ (eZ.refl H) g (.tup hp hr) w
   .have k:=eZ.new (o:=.tup<|vs++us) ha;refine c _ G _ _ k (g.hid k λb o e=>ei ?_) (.tup (.inl ej)<|(hr.keep k).append<|hs.keep k) w;rintro rfl;rw[g.free ha]at e;cases e
 case ref.ref a b =>
  dsimp only[fY.binV,fY.addV]at w;split at w
  .rename_i xs ys e1 e2;unfold fY.Rs.lst at w;split at w
   .rename_i hl;rw[fY.Rs.wp_new]at w;cases rx.ref_inv;cases ry.ref_inv;obtain⟨vs,h1,r1⟩:=g a _ e1;obtain⟨us,h2,r2⟩:=g b _ e2;refine .inr (.inl<|.inr ⟨a,b,vs,us,rfl,rfl,h1,h2,?_,YZ g w c λp hp=>?_⟩)
    .rw[<-r1.length,<-r2.length,<-Ü];exact ß hl ZT
    .have k:=eZ.new (o:=.lst<|vs++us) hp;exact⟨_,ej,(r1.keep k).append<|r2.keep k⟩
   .exact(Ze w).elim
  .exact(Ze w).elim
def b_sub:Kh i .sub<|rI0 λi j=>.int<|i - j:=by intro v u G H x y Q Qm g rx ry w c;obtain⟨a,b,rfl,rfl,w⟩:=X8 w;exact⟨a,b,rx.int_inv,ry.int_inv,c _ G H _ (eZ.refl H) g (.int _)<|Zi w⟩
def RVs.rep{K:Frag}{H:Hp}{vs:List fY.Val}{xs:List V}(r:RVs K H vs xs):∀n,RVs K H (Ø n vs).flatten (Ø n xs).flatten
 |0=>.nil
 |n+1=>by rw[Č,Č,ľ,ľ];exact r.append<|RVs.rep r n
set_option exponentiation.threshold 2000 in
def Lr{i j:Int}(h:fY.mulOk i j):IntMulOk i j:=by
 rcases h with(h|h)|⟨h1,h2⟩
 .exact .of_left (aa (by lia)<|by lia)
 .exact .of_right (aa (by lia)<|by lia)
 .have e:(10:Nat) ^ 200<2 ^ 1000:=by decide
  exact .of_bits (ß (PyProof.Rows.intBits_le<|Ñ h1 e)<|by decide) (ß (PyProof.Rows.intBits_le<|Ñ h2 e)<|by decide)
def EF(s:String)(n:Nat):PD (gh s) n=gh (fY.repT s n):=by unfold PD fY.repT;rw[Str.ofString_eq_toList,Str.ofString_eq_toList,bN];congr 1;apply dY.mp;rw[KM];simp[List.map_flatten,List.map_replicate]
abbrev HA:R2:=λx y H Q=>rI fY.mulOk (λi j=>.int<|i*j) x y H Q\/(QQ x y H Q\/Hu x y H Q)
def P0:OpR X (ł .Mult) HA:=OpR.or (opI λ_ _ _ _ _ _ _ hc q=>PyProof.Rows.mul_int q<|Lr hc) (op_rep.or FW)
def b_mul:Kh i .mul HA:=by
 intro v u G H x y Q Qm g rx ry w c;cases v<;>cases u<;>first|exact(Ze w).elim|skip
 case int.int a b =>obtain⟨h,w⟩:=WX w;exact .inl ⟨a,b,rx.int_inv,ry.int_inv,h,c _ G H _ (eZ.refl H) g (.int _)<|Zi w⟩
 case ref.int a k =>
  dsimp only[fY.binV,fY.mulV]at w;split at w
  .rename_i xs e1;split at w
   .rename_i hk;unfold fY.Rs.lst at w;split at w
    .rw[fY.Rs.wp_new]at w;cases rx.ref_inv;cases ry.int_inv;obtain⟨vs,h1,r1⟩:=g a _ e1;refine .inr (.inl ⟨a,k,vs,rfl,rfl,h1,by lia,by lia,?_,YZ g w c λp hp=>?_⟩)
     .rw[<-r1.length];exact ß hk.2.2 ZT
     .have kk:=eZ.new (o:=.lst (Ø k.toNat vs).flatten) hp;exact⟨_,ej,(r1.keep kk).rep _⟩
    .exact(Ze w).elim
   .exact(Ze w).elim
  .exact(Ze w).elim
 case str.int a k =>
  obtain⟨hk,w⟩:=WX w
  replace w:=Zi w
  refine .inr (.inr ⟨_,k,rx.str_inv,ry.int_inv,hk.1,hk.2.1,by rw[ZF];exact hk.2.2.1,by rw[ZF];exact hk.2.2.2,?_⟩);rw[EF];exact c _ G H _ (eZ.refl H) g (.str _) w
def b_fdiv:Kh i .fdiv<|rI QX λi j=>.int<|i / j:=by intro v u G H x y Q Qm g rx ry w c;obtain⟨a,b,rfl,rfl,w⟩:=X8 w;obtain⟨h,w⟩:=WX w;exact⟨a,b,rx.int_inv,ry.int_inv,h,c _ G H _ (eZ.refl H) g (.int _)<|Zi w⟩
def b_mod:Kh i .mod<|rI (λ_ j=>0<j) λi j=>.int<|i % j:=by intro v u G H x y Q Qm g rx ry w c;obtain⟨a,b,rfl,rfl,w⟩:=X8 w;obtain⟨h,w⟩:=WX w;exact⟨a,b,rx.int_inv,ry.int_inv,h,c _ G H _ (eZ.refl H) g (.int _)<|Zi w⟩
def b_pow:Kh i .pow<|rI Qc λi j=>.int<|i ^ j.toNat:=by intro v u G H x y Q Qm g rx ry w c;obtain⟨a,b,rfl,rfl,w⟩:=X8 w;obtain⟨h,w⟩:=WX w;exact⟨a,b,rx.int_inv,ry.int_inv,h,c _ G H _ (eZ.refl H) g (.int _)<|Zi w⟩
def Zw{K:Frag}{H:Hp}:∀{xs:List fY.Val}{ns:List Int}{vs:List V},fY.eL xs=d7 ns->RVs K H xs vs->vs=ns.map V.int
 |[],_,_,e,r=>by cases r;cases e;rfl
 |v::xs,_,_,e,r=>by
  cases r with
  |cons r t=>cases v with
   |int k =>
    have e:(fY.eL xs).map (k :: ·)=d7 _:=e;cases z:fY.eL xs with
    |none=>rw[z]at e;cases e
    |some ns=>rw[z]at e;cases e;cases r;rw[Zw z t];rfl
   |_=>cases e
def Jj:∀(ns ms:List Int),fY.fo ns ms=HT.lexLt ns ms
 |[],[]=>rfl
 |[],_::_=>rfl
 |_::_,[]=>rfl
 |x::xs,y::ys=>by rw[fY.fo,HT.lexLt_cons,Jj xs ys]
abbrev Rj(K:Frag):R2:=λx y H Q=>rI0 (λi j=>.bl<|gg (i<j)) x y H Q\/P3 K x y H Q
def Sg(hu:X.A.units<Ě):OpR X (ë .Lt)<|Rj X.K:=op_lt.or (Pe hu)
abbrev Qf(K:Frag):R2:=λx y H Q=>rI0 (λi j=>.bl<|gg (j<i)) x y H Q\/HT2.rGtT K x y H Q
def SB(hu:X.A.units<Ě):OpR X (ë .Gt)<|Qf X.K:=op_gt.or (HT2.op_gtT hu)
variable {H:Hp} {x:V} {c:Bool}
def Ho{K:Frag}{ys:List fY.Val}{y:V}(rx:RV K H (.tup xs) x)(ry:RV K H (.tup ys) y)(e:fY.fq (.tup xs) (.tup ys)=d7 c):∃a b ns ms,x=.ref a/\y=.ref b/\fQ K H a (ns.map V.int)/\fQ K H b (ms.map V.int)/\HT.lexLt ns ms=c:=by
 simp only[fY.fq]at e;cases z1:fY.eL xs with
 |none=>rw[z1]at e;cases e
 |some ns =>
  cases z2:fY.eL ys with
  |none=>rw[z1,z2]at e;cases e
  |some ms =>
   rw[z1,z2]at e;cases e;cases rx with
   |@tup _ p vs hp hr =>
   cases ry with
   |@tup _ q us hq hs =>
   have h1:=Zw z1 hr;have h2:=Zw z2 hs;subst h1 h2;exact⟨p,q,ns,ms,rfl,rfl,Zj hp,Zj hq,(Jj _ _).symm⟩
def c_lt:Z5 i .lt<|Rj i.K:=by
 intro v u G H x y c Q g rx ry e q
 replace e:fY.fq v u=d7 c:=e
 cases v<;>cases u<;>first|(cases e;done)|skip
 case int.int a b=>cases e;exact .inl ⟨a,b,rx.int_inv,ry.int_inv,q⟩
 case tup.tup xs ys =>obtain⟨a,b,ns,ms,h1,h2,h3,h4,h5⟩:=Ho rx ry e;exact .inr ⟨a,b,ns,ms,h1,h2,h3,h4,by rw[h5];exact q⟩
def c_gt:Z5 i .gt<|Qf i.K:=by
 intro v u G H x y c Q g rx ry e q
 replace e:fY.fq u v=d7 c:=e
 cases v<;>cases u<;>first|(cases e;done)|skip
 case int.int a b=>cases e;exact .inl ⟨a,b,rx.int_inv,ry.int_inv,q⟩
 case tup.tup xs ys =>obtain⟨a,b,ns,ms,h1,h2,h3,h4,h5⟩:=Ho ry rx e;exact .inr ⟨b,a,ms,ns,h2,h1,h4,h3,by rw[HT2.lexGt_lt,h5];exact q⟩
def Hc{v:fY.Val}(e:fY.leV v u=d7 c):∃i j,v=.int i/\u=.int j/\gg (i<=j)=c:=by
 cases v with
 |int i=>cases u with
  |int j=>cases e;exact⟨i,j,rfl,rfl,rfl⟩
  |_=>cases e
 |_=>cases e
def c_le:Z5 i .le<|rI0 λi j=>.bl<|gg (i<=j):=by intro v u G H x y c Q g rx ry e q;obtain⟨a,b,rfl,rfl,rfl⟩:=Hc e;exact⟨a,b,rx.int_inv,ry.int_inv,q⟩
def c_ge:Z5 i .ge<|rI0 λi j=>.bl<|gg (j<=i):=by intro v u G H x y c Q g rx ry e q;obtain⟨a,b,rfl,rfl,rfl⟩:=Hc e;exact⟨b,a,rx.int_inv,ry.int_inv,q⟩
def RV.isN{K:Frag}{v:fY.Val}(r:RV K H v x):gg (x=.non)=gg (v=.non):=by cases r<;>simp
variable {a:Expr} {ma:fY.E} {æ:Pos} {p2:Pos} {j:Nat}
def QS(ha:PE X a<|tE X i Φ ma):PE X (.Compare a [.Is] [.Constant .none j p2] æ) (tE X i Φ<|.cmp .is ma<|.cst .non) :=
 (Cd (Cz ha) rfl).imp λσ H Q ⟨env,G,Qm,Em,p,w,c⟩=>by refine one p w λv G1 H1 x k1 p1 r q=>?_;obtain⟨d,e,q2⟩:=eC q;have e:d7 (gg (v=.non))=d7 d:=e;cases e;rw[r.isN];exact c _ G1 H1 _ k1 p1.hp (.bl _) q2
def LR(ha:PE X a<|tE X i Φ ma):PE X (.Compare a [.IsNot] [.Constant .none j p2] æ) (tE X i Φ<|.cmp .isnot ma<|.cst .non) :=
 (Cd (Ue ha) rfl).imp λσ H Q ⟨env,G,Qm,Em,p,w,c⟩=>by refine one p w λv G1 H1 x k1 p1 r q=>?_;obtain⟨d,e,q2⟩:=eC q;have e:d7 (!gg (v=.non))=d7 d:=e;cases e;rw[r.isN];exact c _ G1 H1 _ k1 p1.hp (.bl _) q2
def Lg(ha:PE X a<|tE X i Φ ma):PT X (.Compare a [.Is] [.Constant .none j p2] æ) (tTt X i Φ<|.val<|.cmp .is ma<|.cst .non) :=
 (CA (Cz ha) rfl).imp λσ H Q ⟨env,G,Qm,Em,p,w,c⟩=>by refine one p w λv G1 H1 x k1 p1 r q=>?_;obtain⟨d,e,q2⟩:=eC q;obtain⟨d',e',q3⟩:=eC q2;cases e';have e:d7 (gg (v=.non))=d7 d:=e;cases e;rw[r.isN];exact⟨_,rfl,c _ G1 H1 k1 p1.hp q3⟩
def GH(ha:PE X a<|tE X i Φ ma):PT X (.Compare a [.IsNot] [.Constant .none j p2] æ) (tTt X i Φ<|.val<|.cmp .isnot ma<|.cst .non) :=
 (CA (Ue ha) rfl).imp λσ H Q ⟨env,G,Qm,Em,p,w,c⟩=>by refine one p w λv G1 H1 x k1 p1 r q=>?_;obtain⟨d,e,q2⟩:=eC q;obtain⟨d',e',q3⟩:=eC q2;cases e';have e:d7 (!gg (v=.non))=d7 d:=e;cases e;rw[r.isN];exact⟨_,rfl,c _ G1 H1 k1 p1.hp q3⟩
end Snd
namespace Snd
open PySem L2 PySem.Spec PyProof.Rows
variable {i:Inf}{X:Cx}{Φ:fY.Fs}
def RKs.length{K:Frag}{H:Hp}:∀{kvs:List (fY.Val×fY.Val)}{ps:List (Key×V)},RKs K H kvs ps->kvs.length=ps.length
 |_,_,.nil=>rfl
 |_,_,.cons _ _ t=>by rw[Ç,Ç,RKs.length t]
def W6{k j:fY.Val}{c d:Key}(a:W1 k c)(b:W1 j d):(k==j)=gg (c=d):=by
 have key:k=j↔c=d:=by
  cases k<;>cases c<;>first|(cases a;done)|skip
  .cases j<;>cases d<;>first|(cases b;done)|skip
   .cases a;cases b;simp
   .cases a;cases b;simp
  .cases j<;>cases d<;>first|(cases b;done)|skip
   .cases a;cases b;simp
   .cases a;cases b;simp[ofS_inj]
 by_cases e:k=j
 .rw[gb<|key.mp e,e];simp
 .rw[f9 λz=>e<|key.mpr z];simpa using e
def eU{k:fY.Val}{x:V}{K:Frag}{H:Hp}(h:fY.eX k=d9)(r:RV K H k x):∃c,W1 k c/\x=kV c:=by
 cases k with
 |int n=>cases r.int_inv;exact⟨.inl n,rfl,rfl⟩
 |str s=>cases r.str_inv;exact⟨.inr<|gh s,rfl,rfl⟩
 |_=>cases h
def RKs.look{K:Frag}{H:Hp}{k:fY.Val}{c:Key}(a:W1 k c):∀{kvs:List (fY.Val×fY.Val)}{ps:List (Key×V)},RKs K H kvs ps->
  (∀v,fY.fb kvs k=d7 v->∃x,YG ps c=d7 x/\RV K H v x)/\(fY.fb kvs k=d8->YG ps c=d8)
 |_,_,.nil=>⟨λv e=>(by cases e),λ_=>rfl⟩
 |_,_,.cons (k:=j) (v:=u) (c:=d) (x:=y) (kvs:=kvs) (ps:=ps) b r t=>by
  have ih:=RKs.look a t;have q:=W6 b a;by_cases e:d=c
  .rw[gb e]at q;have e1:fY.fb ((j,u)::kvs) k=d7 u:=by simp[fY.fb,Ę,q]
   rw[e1,Xq e];exact⟨λv z=>(by cases z;exact⟨y,rfl,r⟩),λz=>(by cases z)⟩
  .rw[f9 e]at q;have e1:fY.fb ((j,u)::kvs) k=fY.fb kvs k:=by simp[fY.fb,Ę,q]
   rw[e1,Xz e];exact ih
def RKs.has{K:Frag}{H:Hp}{k:fY.Val}{c:Key}(a:W1 k c):∀{kvs:List (fY.Val×fY.Val)}{ps:List (Key×V)},RKs K H kvs ps->fY.fc kvs k=ps.any λkv=>gg (kv.1=c)
 |_,_,.nil=>rfl
 |_,_,.cons b r t=>by have ih:=RKs.has a t;unfold fY.fc at ih ⊢;rw[Ĩ,Ĩ,ih,W6 b a]
def RKs.app{K:Frag}{H:Hp}{k v:fY.Val}{c:Key}{x:V}(a:W1 k c)(q:RV K H v x):∀{kvs:List (fY.Val×fY.Val)}{ps:List (Key×V)},RKs K H kvs ps->RKs K H (kvs++[(k,v)]) (ps++[(c,x)])
 |_,_,.nil=>.cons a q .nil
 |_,_,.cons b r t=>.cons b r<|RKs.app a q t
def RKs.repl{K:Frag}{H:Hp}{k v:fY.Val}{c:Key}{x:V}(a:W1 k c)(q:RV K H v x):∀{kvs:List (fY.Val×fY.Val)}{ps:List (Key×V)},RKs K H kvs ps->
  RKs K H (kvs.map λp=>if p.1==k then(k,v)else p) (ps.map λkv=>if kv.1=c then(kv.1,x)else kv)
 |_,_,.nil=>.nil
 |_,_,.cons (k:=j) (v:=u) (c:=d) (x:=y) b r t=>by
  have ih:=RKs.repl a q t;have z:=W6 b a;rw[Î,Î];by_cases e:d=c
  .rw[gb e]at z;rw[fZ z,fZ e];exact .cons (e▸a) q ih
  .rw[f9 e]at z;rw[f8 (by rw[z];decide),f8 e];exact .cons b r ih
def RKs.put{K:Frag}{H:Hp}{k v:fY.Val}{c:Key}{x:V}(a:W1 k c)(q:RV K H v x){kvs:List (fY.Val×fY.Val)}{ps:List (Key×V)}(r:RKs K H kvs ps):RKs K H (fY.fe kvs k v)<|L2.fe ps c x:=by
 unfold fY.fe L2.fe;rw[r.has a];by_cases e:(ps.any λkv=>gg (kv.1=c))=d9
 .rw[fZ e,fZ e];exact r.repl a q
 .rw[f8 e,f8 e];exact r.app a q
def RKs.drop{K:Frag}{H:Hp}{k:fY.Val}{c:Key}(a:W1 k c):∀{kvs:List (fY.Val×fY.Val)}{ps:List (Key×V)},RKs K H kvs ps->RKs K H (fY.ff kvs k) (L2.ff ps c)
 |_,_,.nil=>.nil
 |_,_,.cons (k:=j) (v:=u) (c:=d) (x:=y) b r t=>by
  have ih:=RKs.drop a t;have z:=W6 b a;unfold fY.ff L2.ff at ih ⊢;rw[ą,ą];by_cases e:d=c
  .rw[gb e]at z;rw[f8 (by rw[z];decide),f8<|by simpa using e];exact ih
  .rw[f9 e]at z;rw[fZ (by rw[z];rfl),fZ<|by simpa using e];exact .cons b r ih
variable {G:fY.Hs} {H:Hp} {a:È} {kvs':List (fY.Val×fY.Val)}
def MM{kvs:List (fY.Val×fY.Val)}{ps bI:List (Key×V)}(g:RH i G H)(h:H a=d7 (.dK ps))(r:RKs i.K H kvs' bI):eZ H (upd H a<|.dK bI)/\RH i (fY.upd G a<|.dct kvs') (upd H a<|.dK bI):=by
 have k:eZ H<|upd H a<|.dK bI:=eZ.put (λxs e=>by rw[h]at e;cases e) λp u e=>by rw[h]at e;cases e
 exact⟨k,g.put k ⟨bI,ej,r.keep k⟩⟩
def RTs.length{K:Frag}{H:Hp}:∀{kvs:List (fY.Val×fY.Val)}{ps:List (List Key×V)},RTs K H kvs ps->kvs.length=ps.length
 |_,_,.nil=>rfl
 |_,_,.cons _ t=>by rw[Ç,Ç,RTs.length t]
def M5(a b i j:Int):(fY.Val.key a b == .key i j)=gg (([.inl a,.inl b]:List Key)=[.inl i,.inl j]):=by
 by_cases e:a=i/\b=j
 .obtain⟨rfl,rfl⟩:=e;rw[gb rfl];simp
 .rw[f9 λz=>e<|by simpa using z];exact beq_eq_false_iff_ne.mpr λz=>e (by simpa using z)
def RTs.look{K:Frag}{H:Hp}{i j:Int}:∀{kvs:List (fY.Val×fY.Val)}{ps:List (List Key×V)},RTs K H kvs ps->
  (∀v,fY.fb kvs (.key i j)=d7 v->∃x,YG ps [.inl i,.inl j]=d7 x/\RV K H v x)/\(fY.fb kvs (.key i j)=d8->YG ps [.inl i,.inl j]=d8)
 |_,_,.nil=>⟨λv e=>(by cases e),λ_=>rfl⟩
 |_,_,.cons (i:=a) (j:=b) (v:=u) (x:=y) (kvs:=kvs) (ps:=ps) r t=>by
  have ih:=RTs.look (i:=i) (j:=j) t;have q:=M5 a b i j;by_cases e:([.inl a,.inl b]:List Key)=[.inl i,.inl j]
  .rw[gb e]at q;have e1:fY.fb ((.key a b,u)::kvs) (.key i j)=d7 u:=by simp[fY.fb,Ę,q]
   rw[e1,Xq e];exact⟨λv z=>(by cases z;exact⟨y,rfl,r⟩),λz=>(by cases z)⟩
  .rw[f9 e]at q;have e1:fY.fb ((.key a b,u)::kvs) (.key i j)=fY.fb kvs (.key i j):=by simp[fY.fb,Ę,q]
   rw[e1,Xz e];exact ih
def RTs.has{K:Frag}{H:Hp}{i j:Int}:∀{kvs:List (fY.Val×fY.Val)}{ps:List (List Key×V)},RTs K H kvs ps->fY.fc kvs (.key i j)=ps.any λkv=>gg (kv.1=[.inl i,.inl j])
 |_,_,.nil=>rfl
 |_,_,.cons (i:=a) (j:=b) r t=>by have ih:=RTs.has (i:=i) (j:=j) t;unfold fY.fc at ih ⊢;rw[Ĩ,Ĩ,ih,M5 a b i j]
def RTs.app{K:Frag}{H:Hp}{v:fY.Val}{i j:Int}{x:V}(q:RV K H v x):∀{kvs:List (fY.Val×fY.Val)}{ps:List (List Key×V)},RTs K H kvs ps->RTs K H (kvs++[(.key i j,v)]) (ps++[([.inl i,.inl j],x)])
 |_,_,.nil=>.cons q .nil
 |_,_,.cons r t=>.cons r<|RTs.app q t
def RTs.repl{K:Frag}{H:Hp}{v:fY.Val}{i j:Int}{x:V}(q:RV K H v x):∀{kvs:List (fY.Val×fY.Val)}{ps:List (List Key×V)},RTs K H kvs ps->
  RTs K H (kvs.map λp=>if p.1 == .key i j then(.key i j,v)else p) (ps.map λkv=>if kv.1=[.inl i,.inl j]then(kv.1,x)else kv)
 |_,_,.nil=>.nil
 |_,_,.cons (i:=a) (j:=b) (v:=u) (x:=y) r t=>by
  have ih:=RTs.repl (i:=i) (j:=j) q t;have z:=M5 a b i j;rw[Î,Î];by_cases e:([.inl a,.inl b]:List Key)=[.inl i,.inl j]
  .rw[gb e]at z;simp only[z,if_true,e];exact .cons q ih
  .rw[f9 e]at z;simp only[z,e,if_false,Ē];exact .cons r ih
def RTs.put{K:Frag}{H:Hp}{v:fY.Val}{i j:Int}{x:V}(q:RV K H v x){kvs:List (fY.Val×fY.Val)}{ps:List (List Key×V)}(r:RTs K H kvs ps):RTs K H (fY.fe kvs (.key i j) v)<|L2.fe ps [.inl i,.inl j] x:=by
 unfold fY.fe L2.fe;rw[r.has];by_cases e:(ps.any λkv=>gg (kv.1=[.inl i,.inl j]))=d9
 .rw[fZ e,fZ e];exact r.repl q
 .rw[f8 e,f8 e];exact r.app q
def Gp{ps bI:List (List Key×V)}(g:RH i G H)(h:H a=d7 (.dT ps))(r:RTs i.K H kvs' bI):eZ H (upd H a<|.dT bI)/\RH i (fY.upd G a<|.dtp kvs') (upd H a<|.dT bI):=by
 have k:eZ H<|upd H a<|.dT bI:=eZ.put (λxs e=>by rw[h]at e;cases e) λp u e=>by rw[h]at e;cases e
 exact⟨k,g.put k ⟨bI,ej,r.keep k⟩⟩
def Jn{k:fY.Val}{x:V}{K:Frag}{H:Hp}(h:fY.isKeyT k=d9)(r:RV K H k x):∃a b c,k=.key a b/\x=.ref c/\H c=d7 (.tup<|([.inl a,.inl b]:List Key).map kV):=by
 cases k with
 |key a b=>cases r with|key e=>exact⟨a,b,_,rfl,rfl,e⟩
 |_=>cases h
abbrev BI:R2:=λx y H Q=>∃a v,x=.ref a/\DGet H a y (d7 v)/\Q v H
def FI(hu:X.A.units+1<Ě):IxR X BI:=by
 intro ŷ slice Á s σ H x y v u Q I rx ry h hs;obtain⟨a,z,rfl,g,q⟩:=h;cases rx;have hT:=NE I g;unfold cQ;refine Ã ?_;rw[getitemInPython_of_ne hT.not_modules];refine Ã<|wpAny_specialOf hT PySem.F.slot_dict_getitem.lookup ?_;have fin:wpAny (à X.prog X.w) X.A (subscripted slice ee (.ref a) u) (λr au=>wpAny (à X.prog X.w) X.A (letTemporaryGo ŷ (.ref a) r >>= λ_=>pure r) (EP X Á σ Q) X.xe au) X.xe s:=by rw[hs];exact wpAny_operating<|K0 hu I g ry λw' s' I' aH=>Ã<|wpAny_letTemporaryGo<|Ò ⟨_,_,I',aH,q⟩
 first
  |exact Ò<|Ã fin
  |exact Ã<|Ò<|Ã fin
  |exact Ã fin
abbrev FL(b:Bool):R2:=λx y H Q=>∃a o,y=.ref a/\DGet H a x o/\Q (.bl<|b ^^ o.isSome) H
def HK(hu:X.A.units+1<Ě):OpR X (ë .In)<|FL ee:=by intro Á s σ H x y v u Q I rx ry h;obtain⟨a,o,rfl,g,q⟩:=h;cases ry;rw[aK]at q;exact R0 hu I g rx λs' I'=>⟨.bl o.isSome,_,I',rfl,q⟩
def Ll(hu:X.A.units+1<Ě):OpR X (ë .NotIn)<|FL d9:=by intro Á s σ H x y v u Q I rx ry h;obtain⟨a,o,rfl,g,q⟩:=h;cases ry;rw[bj]at q;exact E9 hu I g rx λs' I'=>⟨.bl (!o.isSome),_,I',rfl,q⟩
abbrev G0:V->V->V->Hp->(Hp->Prop)->Prop:=λo y v H Q=>∃a H',o=.ref a/\DPut H a y v H'/\Q H'
def NW(hu:X.A.units+1<Ě):PSet X G0:=by intro Á s σ H o y v ov iv u Q I ro ri rv h;obtain⟨a,H',rfl,g,q⟩:=h;cases ro;exact Ai hu I g ri rv λs' I'=>⟨H',I',q⟩
def PSet.or{r r':V->V->V->Hp->(Hp->Prop)->Prop}(h:PSet X r)(h':PSet X r'):PSet X λo y v H Q=>r o y v H Q\/r' o y v H Q:=by
 intro Á s σ H o y v ov iv u Q I ro ri rv q;rcases q with q|q
 .exact h Á s σ H o y v ov iv u Q I ro ri rv q
 .exact h' Á s σ H o y v ov iv u Q I ro ri rv q
end Snd
namespace Snd
open PySem L2
variable {i:Inf}{X:Cx}{Φ:fY.Fs}
def MU(n:Nat)(k:Int):fY.ixN n k=L2.ixN n k:=rfl
variable {H:Hp} {xs:List fY.Val} {vs:List V}
def W4{K:Frag}{k:Int}{v:fY.Val}(r:RVs K H xs vs)(e:fY.atI xs k=d7 v):∃x,L2.atI vs k=d7 x/\RV K H v x:=by
 unfold fY.atI at e;unfold L2.atI;rw[MU,r.length]at e;cases z:L2.ixN vs.length k with
 |none=>rw[z]at e;cases e
 |some j =>rw[z]at e;obtain⟨x,h1,h2⟩:=r.get (show xs[j]?=d7 v from e);exact⟨x,h1,h2⟩
abbrev Ra(i:Inf)(r:R2):Prop:=∀(v u:fY.Val) (G:fY.Hs) (H:Hp) (x y:V) (w:fY.Val) (Q:VK),RH i G H->RV i.K H v x->RV i.K H u y->fY.fu G v u=d7 w->(∀z,RV i.K H w z->Q z H)->r x y H Q
variable {a:Expr} {ma:fY.E} {æ:Pos}
def Q3{b:Expr}{mb:fY.E}{r:R2}(hr:IxR X r)(ho:Ra i r)(ha:PE X a<|tE X i Φ ma)(hb:PE X b<|tE X i Φ mb)(hs:MH b):PE X (.Subscript a b æ) (tE X i Φ<|.idx ma mb) :=
 (QC hr ha hb hs).imp λσ H Q ⟨env,G,Qm,Em,p,w,c⟩=>by
  exact two p w λv u G2 H2 x y k2 p2 rx ry q=>by obtain⟨z,e,q⟩:=eC q;exact ho v u G2 H2 x y z Q p2.hp rx ry e λt rt=>c z G2 H2 t k2 p2.hp rt q
def FR{s:String}{k:Int}{c:Char}(e:fY.atI s.toList k=d7 c):L2.atI (gh s).cps.toList k=d7 c.toNat:=by
 rw[Str.ofString_eq_toList];show L2.atI (List.map Ŗ s.toList).toArray.toList k=_;unfold fY.atI at e;unfold L2.atI;simp only[À];rw[MU]at e;cases z:L2.ixN s.toList.length k with
 |none=>rw[z]at e;cases e
 |some j =>rw[z]at e;have e:s.toList[j]?=d7 c:=e;show(List.map Ŗ s.toList)[j]?=_;rw[Õ,e];rfl
def OP(c:Char):gh (ϱ c)=⟨#[c.toNat]⟩:=by rw[Str.ofString_eq_toList];simp
abbrev RS(K:Frag):R2:=λx y H Q=>rIx K x y H Q\/BI x y H Q
def Qo:Ra i<|RS i.K:=by
 intro v u G H x y w Q g rx ry e q;cases v with
 |tup xs =>
  cases u with
  |int k =>
   cases rx with
   |tup hp hr =>obtain⟨z,h1,h2⟩:=W4 hr (show fY.atI xs k=d7 w from e);exact .inl<|.inr<|.inl ⟨_,_,k,z,rfl,ry.int_inv,Zj hp,h1,q z h2⟩
  |_=>cases e
 |str s =>
  cases u with
  |int k =>
   simp only[fY.fu]at e;split at e
   .rename_i hl;cases z:fY.atI s.toList k with
    |none=>rw[z]at e;cases e
    |some c =>rw[z]at e;cases e;refine .inl (.inr<|.inr ⟨_,k,_,rx.str_inv,ry.int_inv,by rw[ZF];exact ß hl ZT,FR z,?_⟩);have:=q _<|.str<|ϱ c;rw[OP]at this;exact this
   .cases e
  |_=>cases e
 |ref a =>
  cases rx.ref_inv
  replace e:(match G a with|some (.lst xs)=>(fY.fU u).bind (fY.atI xs)|some (.dct kvs)=>if fY.eX u then fY.fb kvs u else d8|some (.frz kvs)=>if fY.eX u then fY.fb kvs u else d8|some (.dtp kvs)=>if fY.isKeyT u then fY.fb kvs u else d8|_=>d8)=d7 w:=e
  cases z:G a with
  |none=>rw[z]at e;cases e
  |some o =>
   rw[z]at e;cases o with
   |lst xs =>obtain⟨k,hk,e⟩:=á.mp e;cases ZK hk;obtain⟨vs,h1,h2⟩:=g a _ z;obtain⟨t,h3,h4⟩:=W4 h2 e;exact .inl<|.inl ⟨a,vs,k,t,rfl,ry.int_inv,fP.of h1,h3,q t h4⟩
   |dct kvs =>obtain⟨hk,e⟩:=Zs (show(if fY.eX u then fY.fb kvs u else d8)=d7 w from e);obtain⟨ps,h1,h2⟩:=g a _ z;obtain⟨d,kr,rfl⟩:=eU hk ry;obtain⟨t,hx,rv⟩:=(h2.look kr).1 w e;exact .inr ⟨a,t,rfl,by rw[<-hx];exact DGet.k h1,q t rv⟩
   |frz kvs =>obtain⟨hk,e⟩:=Zs (show(if fY.eX u then fY.fb kvs u else d8)=d7 w from e);obtain⟨ob,ps,h1,h2⟩:=g a _ z;obtain⟨d,kr,rfl⟩:=eU hk ry;obtain⟨t,hx,rv⟩:=(h2.look kr).1 w e;exact .inr ⟨a,t,rfl,.inl ⟨ps,d,.inr ⟨ob,h1⟩,rfl,hx.symm⟩,q t rv⟩
   |dtp kvs =>obtain⟨hk,e⟩:=Zs (show(if fY.isKeyT u then fY.fb kvs u else d8)=d7 w from e);obtain⟨ps,h1,h2⟩:=g a _ z;obtain⟨k1,k2,b,rfl,rfl,hb⟩:=Jn hk ry;obtain⟨t,hx,rv⟩:=(h2.look).1 w e;exact .inr ⟨a,t,rfl,by rw[<-hx];exact DGet.t h1 hb,q t rv⟩
   |_=>cases e
 |scr ns =>
  cases u with
  |int k =>
   cases rx with
   |scr h =>obtain⟨t,h3,h4⟩:=W4 (RVs.ints ns) (show fY.atI (ns.map .int) k=d7 w from e);exact .inl<|.inl ⟨_,_,k,t,rfl,ry.int_inv,Yp h,h3,q t h4⟩
  |_=>cases e
 |_=>cases e
abbrev tOx(X:Cx)(i:Inf)(Φ:fY.Fs)(m:fY.Oe):TO:=λσ H Q=>∃env G Qm Em,Pre X i σ H env G Em/\fY.wO Φ m env G Qm Em/\∀k G' H',eZ H H'->RH i G' H'->Qm k G'->Q k H'
def _root_.L2.PO.imp{e:Option Expr}{t t':TO}(h:PO X e t)(f:∀σ H Q,t' σ H Q->t σ H Q):PO X e t':=λÁ s σ H Q I q=>h Á s σ H Q I (f σ H Q q)
def GE:PO X d8<|tOx X i Φ .none:=po_none.imp λσ H Q ⟨env,G,Qm,Em,p,w,c⟩=>by exact c d8 G H (eZ.refl H) p.hp w
def Fv{e:Expr}{m:fY.E}(he:PE X e<|tE X i Φ m):PO X (d7 e)<|tOx X i Φ<|.some m:=(GM he).imp λσ H Q ⟨env,G,Qm,Em,p,w,c⟩=>by
 exact one p w λv G1 H1 x k1 p1 r q=>by obtain⟨b,e,q2⟩:=eC q;cases ZK e;exact⟨b,r.int_inv,c _ G1 H1 k1 p1.hp q2⟩
def Om{K:Frag}(r:RVs K H xs vs)(lo hi:Option Int):RVs K H (fY.cut xs lo hi)<|MT vs lo hi:=by
 have e:∀(n d:Nat) (o:Option Int),fY.fm n d o=HT.sIx n d o:=by
  intro n d o;cases o with
  |none=>rfl
  |some k =>
   show(if 0<=k then min k.toNat n else(k+n).toNat)=(if k<0 then(k+(n:Int)).toNat else min k.toNat n)
   by_cases h:k<0
   .rw[fZ h,f8<|by lia]
   .rw[f8 h,fZ<|by lia]
 unfold fY.cut MT;rw[e,e,r.length];exact(r.drop _).take _
abbrev Rx(i:Inf)(r:V->Option Int->Option Int->Hp->VK->Prop):Prop:=∀(v:fY.Val) (lo hi:Option Int) (G:fY.Hs) (H:Hp) (x:V) (Q:VK) (Qm:fY.Q1),RH i G H->RV i.K H v x->(fY.fv G v lo hi).wp G Qm->Cn i H Q Qm->r x lo hi H Q
def Qw{lo hi:Option Expr}{ml mh:fY.Oe}{r:V->Option Int->Option Int->Hp->VK->Prop}{p2:Pos}(hr:SlR X r)(ho:Rx i r)(ha:PE X a<|tE X i Φ ma)(hl:PO X lo<|tOx X i Φ ml)(hh:PO X hi<|tOx X i Φ mh):PE X (.Subscript a (.Slice lo hi d8 p2) æ) (tE X i Φ<|.slc ma ml mh) :=
 (DZ hr ha hl hh).imp λσ H Q ⟨env,G,Qm,Em,p,w,c⟩=>by
  exact⟨env,G,_,Em,p,w,λv G1 H1 x k1 g1 r1 w1=>⟨env,G1,_,Em,p.go k1 g1,w1,λl G2 H2 k2 g2 w2=>⟨env,G2,_,Em,(p.go k1 g1).go k2 g2,w2,λu G3 H3 k3 g3 w3 =>
    ho v l u G3 H3 x Q Qm g3 ((r1.keep k2).keep k3) w3 (((c.go k1).go k2).go k3)⟩⟩⟩
abbrev Qq(K:Frag):V->Option Int->Option Int->Hp->VK->Prop:=λx lo hi H Q=>Rn K x lo hi H Q\/P7 K x lo hi H Q\/QL x lo hi H Q\/QR K x lo hi H Q
def Si:SlR X<|Qq X.K:=sl_list.or (fE.or<|sl_str.or EG)
def Wl(n d:Nat)(o:Option Int):fY.fm n d o=HT.sIx n d o:=by
 cases o with
 |none=>rfl
 |some k =>
  show(if 0<=k then min k.toNat n else(k+n).toNat)=(if k<0 then(k+(n:Int)).toNat else min k.toNat n)
  by_cases h:k<0
  .rw[fZ h,f8<|by lia]
  .rw[f8 h,fZ<|by lia]
def Nz(n d:Nat)(h:d<=n)(o:Option Int):fY.fm n d o<=n:=by
 cases o with
 |none=>exact h
 |some k =>show(if 0<=k then min k.toNat n else(k+n).toNat)<=n;split<;>lia
def clip_eq(n d:Nat)(h:d<=n)(o:Option Int):(match o with
    |none=>(d:Int)
    | some i=>max 0<|min (if i<0 then i+(n:Int)else i) (n:Int))=(fY.fm n d o:Int):=by
 cases o with
 |none=>rfl
 |some k =>
  show _=(((if 0<=k then min k.toNat n else(k+n).toNat):Nat):Int)
  by_cases hk:k<0
  .rw[f8<|show ¬ 0<=k by lia];simp only[hk,if_true];lia
  .rw[fZ<|show 0<=k by lia];simp only[hk,if_false];lia
def Le(n:Nat)(lo hi:Option Int):PySem.Builtin.Str.strSliceIndices lo hi 1 n=(List.range<|fY.fm n n hi - fY.fm n 0 lo).map λk=>fY.fm n 0 lo+k:=by
 have e1:=clip_eq n 0 (Ň _) lo;have e2:=clip_eq n n (Í _) hi;have e3:PySem.Builtin.Str.strSliceIndices lo hi 1 n=sliceRange (fY.fm n 0 lo:Int) (fY.fm n n hi:Int) 1:=by unfold PySem.Builtin.Str.strSliceIndices;rw[<-e1,<-e2];cases lo<;>cases hi<;>rfl
 rw[e3];unfold sliceRange;have e4:(if(1:Int) > 0 then(if(fY.fm n 0 lo:Int)<(fY.fm n n hi:Int)then((fY.fm n n hi:Int) - (fY.fm n 0 lo:Int)+1 - 1) / 1 else 0)else(if(fY.fm n 0 lo:Int) > (fY.fm n n hi:Int)then((fY.fm n 0 lo:Int) - (fY.fm n n hi:Int) - 1 - 1) / (-1)else 0)).toNat=fY.fm n n hi - fY.fm n 0 lo:=by rw[fZ (by decide),Int.ediv_one];split<;>lia
 show(List.range<|Int.toNat<|if(1:Int) > 0 then _ else _).map _=_;rw[e4];refine Ġ λk _=>?_;lia
def GK(s:String)(lo hi:Option Int):Ac (gh s) lo hi=gh (ρ<|fY.cut s.toList lo hi):=by
 have hl:(gh s).length=s.toList.length:=by rw[ZF,bM]
 have ha:=Nz s.toList.length 0 (Ň _) lo;have hb:=Nz s.toList.length s.toList.length (Í _) hi;have e:=Le s.toList.length lo hi;rw[<-hl]at e;unfold Ac;rw[e];simp only[hl];have ec:(gh s).cps.toList=s.toList.map Ŗ:=by rw[Str.ofString_eq_toList]
 split
 .rename_i z;rw[À,ŧ]at z;have e0:fY.fm s.toList.length 0 lo=0\/s.toList.length=0:=by lia
  have e5:fY.cut s.toList lo hi=s.toList:=by
   unfold fY.cut;rw[z];rcases e0 with e0|e0
   .rw[e0,List.drop_zero,ô]
   .have:s.toList=[]:=Ţ.mp e0;rw[this];simp
  rw[e5,String.ofList_toList]
 .rw[Str.ofString_eq_toList<|ρ _,bN];congr 2;have e3:(λi:Nat=>(gh s).cps[i]?)=λi:Nat=>(s.toList.map Ŗ)[i]?:=by
   funext i;rw[<-ec];simp
  rw[e3];by_cases hab:fY.fm s.toList.length 0 lo<=fY.fm s.toList.length s.toList.length hi
  .rw[PySem.StrLaws.picks _ _ _<|by rw[À];lia];unfold fY.cut;rw[ů,Ϟ]
  .have:fY.fm s.toList.length s.toList.length hi - fY.fm s.toList.length 0 lo=0:=by lia
   unfold fY.cut;rw[this];simp
def QW:Rx i<|Qq i.K:=by
 intro v lo hi G H x Q Qm g r w c;cases v with
 |tup xs =>
  simp only[fY.fv]at w;split at w
  .rename_i hn;rw[fY.Rs.wp_val]at w;cases r with
   |@tup _ a vs hp hr=>exact .inr (.inr<|.inr ⟨a,vs,rfl,Zj hp,by rw[<-Wl,<-Wl,<-hr.length];exact hn,c _ G H _ (eZ.refl H) g (.tup hp hr) w⟩)
  .rename_i hn;rw[fY.Rs.wp_val]at w;cases r with
   |@tup _ a vs hp hr =>refine .inr (.inl ⟨a,vs,rfl,Zj hp,by rw[<-Wl,<-Wl,<-hr.length];exact hn,λp hp'=>?_⟩);have k:=eZ.new (o:=.tup<|MT vs lo hi) hp';refine c _ G _ _ k (g.hid k λb o e=>ei ?_) (.tup (.inl ej)<|Om (hr.keep k) lo hi) w;rintro rfl;rw[g.free hp']at e;cases e
 |ref a =>
  cases r.ref_inv;simp only[fY.fv]at w;cases z:fY.eR (G a)with
  |none=>rw[z]at w;simp at w
  |some xs =>rw[z]at w;rw[fY.Rs.wp_new]at w;obtain⟨vs,h1,h2⟩:=ZM g z;exact .inl ⟨a,vs,rfl,h1,YZ g w c λp hp=>⟨_,ej,Om (h2.keep<|eZ.new hp) lo hi⟩⟩
 |scr ns =>
  simp only[fY.fv,fY.Rs.wp_new]at w;cases r with
  |scr h=>exact .inl ⟨_,_,rfl,Yp h,YZ g w c λp hp=>⟨_,ej,Om (RVs.ints ns) lo hi⟩⟩
 |str s =>
  cases r.str_inv;simp only[fY.fv]at w;split at w
  .rename_i hl;rw[fY.Rs.wp_val]at w;refine .inr (.inr <| .inl ⟨_,rfl,by rw[ZF];exact ß hl (by decide),?_⟩);rw[GK];exact c _ G H _ (eZ.refl H) g (.str _) w
  .simp at w
 |_=>simp[fY.fv]at w
variable {H:Hp} {vs:List fY.Val} {xs:List V} {x:V}
def RVs.app1{K:Frag}{v:fY.Val}(r:RVs K H vs xs)(q:RV K H v x):RVs K H (vs++[v])<|xs++[x]:=r.append (.cons q .nil)
variable {es:List Expr} {ms:fY.Es} {n:Nat} {æ:Pos}
def Qs{k:Nat}(hn:n<=1000)(h:PA X es<|tAr X i Φ ms n):PE X (.Tuple es k æ) (tE X i Φ<|.tup ms) :=
 (DE h).imp λσ H Q ⟨env,G,Qm,Em,p,w,c⟩=>by refine⟨env,G,_,Em,p,w,λvs G1 H1 xs k1 g1 r1 hl w1=>⟨by rw[hl];exact ß hn (by decide),λa ha=>?_⟩⟩;have k:=eZ.new (o:=.tup xs) ha;refine c _ G1 _ _ (k1.trans k) (g1.hid k λb o e=>ei ?_) (.tup (.inl ej)<|r1.keep k) w1;rintro rfl;rw[g1.free ha]at e;cases e
def PR(hn:n<=1000)(h:PA X es<|tAr X i Φ ms n):PE X (.List es æ) (tE X i Φ<|.lst ms) :=
 (LG h).imp λσ H Q ⟨env,G,Qm,Em,p,w,c⟩=>by refine⟨env,G,_,Em,p,w,λvs G1 H1 xs k1 g1 r1 hl w1=>⟨by rw[hl];exact ß hn (by decide),YZ g1 w1 (c.go k1) λa ha=>?_⟩⟩;exact⟨xs,ej,r1.keep<|eZ.new ha⟩
abbrev fM(i:Inf)(f:fY.Bi)(r:List V->Hp->VK->Prop):Prop:=∀(vs:List fY.Val) (G:fY.Hs) (H:Hp) (xs:List V) (Q:VK) (Qm:fY.Q1),RH i G H->RVs i.K H vs xs->(fY.biV G f vs).wp G Qm->Cn i H Q Qm->r xs H Q
variable {f:fY.Bi} {r:List V->Hp->VK->Prop}
def XO(hr:fM i f r):∀σ H Q,tE X i Φ (.bi f ms) σ H Q->tCB r (tAr X i Φ ms n) σ H Q:=λσ H Q ⟨env,G,Qm,Em,p,w,c⟩=>by exact⟨env,G,_,Em,p,w,λvs G1 H1 xs k1 g1 r1 _ w1=>hr vs G1 H1 xs Q Qm g1 r1 w1<|c.go k1⟩
def RVs.inv1{K:Frag}{v:fY.Val}(r:RVs K H [v] xs):∃x,xs=[x]/\RV K H v x:=by cases r with|cons a t=>cases t;exact⟨_,rfl,a⟩
def RVs.inv2{K:Frag}{v u:fY.Val}(r:RVs K H [v,u] xs):∃x y,xs=[x,y]/\RV K H v x/\RV K H u y:=by cases r with|cons a t=>cases t with|cons b t=>cases t;exact⟨_,_,rfl,a,b⟩
def Bn(s:String):(gh s).cps.toList=s.toList.map Ŗ:=by rw[Str.ofString_eq_toList]
variable {h:fY.Hs} {Q:fY.Q1}
def Xs{f:fY.Val->fY.Rs}(w:(fY.eS f vs).wp h Q):∃v,vs=[v]/\(f v).wp h Q:=by
 cases vs with
 |nil=>exact(Ze w).elim
 |cons v vs=>cases vs with
  |nil=>exact⟨v,rfl,w⟩
  |cons _ _=>exact(Ze w).elim
def BG{f:fY.Val->fY.Val->fY.Rs}(w:(fY.biOf2 f vs).wp h Q):∃v u,vs=[v,u]/\(f v u).wp h Q:=by
 cases vs with
 |nil=>exact(Ze w).elim
 |cons v vs=>cases vs with
  |nil=>exact(Ze w).elim
  |cons u us=>cases us with
   |nil=>exact⟨v,u,rfl,w⟩
   |cons _ _=>exact(Ze w).elim
def fM.imp{r':List V->Hp->VK->Prop}(h:fM i f r)(k:∀xs H Q,r xs H Q->r' xs H Q):fM i f r':=λvs G H xs Q Qm g rv w c=>k _ _ _ (h vs G H xs Q Qm g rv w c)
def Fc:fM i .max2 λxs H Q=>∃i j,xs=[.int i,.int j]/\Q (.int<|if j > i then j else i) H:=by intro vs G H xs Q Qm g r w c;obtain⟨v,u,rfl,w⟩:=BG w;obtain⟨a,b,rfl,rfl,w⟩:=X8 w;obtain⟨x,y,rfl,rx,ry⟩:=r.inv2;cases rx.int_inv;cases ry.int_inv;exact⟨a,b,rfl,c _ G H _ (eZ.refl H) g (.int _)<|Zi w⟩
abbrev Rq(o:Option fY.Ob)(f:List fY.Val->fY.Rs):fY.Rs:=match o with
 |some (.lst xs)=>f xs
 |_=>.no
variable {o:Option fY.Ob}
def Nc{f:List fY.Val->fY.Rs}(w:(Rq o f).wp h Q):∃xs,o=d7 (.lst xs)/\(f xs).wp h Q:=by
 cases o with
 |none=>exact(Ze w).elim
 |some o=>cases o with
  |lst xs=>exact⟨xs,rfl,w⟩
  |_=>exact(Ze w).elim
variable {G:fY.Hs}
def FN{Q:VK}{Qm:fY.Q1}{ys:List fY.Val}{us:List V}(g:RH i G H)(r:RVs i.K H ys us)(w:Qm (.tup ys) G)(c:Cn i H Q Qm):∀l,H l=d8->Q (.ref l) (upd H l<|.tup us):=λl hl=>by have k:=eZ.new (o:=.tup us) hl;refine c _ G _ _ k (g.hid k λb o e=>ei ?_) (.tup (.inl ej)<|r.keep k) w;rintro rfl;rw[g.free hl]at e;cases e
def Du:fM i .tuple λxs H Q=>∃p ys,xs=[.ref p]/\((fP i.K H p ys/\∀l,H l=d8->Q (.ref l) (upd H l<|.tup ys))\/(fQ i.K H p ys/\Q (.ref p) H)):=by
 intro vs G H xs Q Qm g r w c;obtain⟨v,rfl,w⟩:=Xs w;obtain⟨x,rfl,rx⟩:=r.inv1;cases v with
 |ref a =>cases rx.ref_inv;obtain⟨ys,e,w⟩:=Nc (f:=λxs=>.val<|.tup xs) w;obtain⟨us,h1,h2⟩:=g a _ e;exact⟨a,us,rfl,.inl ⟨fP.of h1,FN g h2 (Zi w) c⟩⟩
 |tup ys =>
  cases rx with
  |tup hp hr=>exact⟨_,_,rfl,.inr ⟨Zj hp,c _ G H _ (eZ.refl H) g (.tup hp hr)<|Zi w⟩⟩
 |_=>exact(Ze w).elim
abbrev kinds:List String:=["int","bool","str","list","tuple","dict"]
def FD(K:Frag):∀t∈["NoneType","bool","int","str","tuple","list","dict"],∀T∈kinds,PySem.W.kitOne K (.type t) (.type T)=d7 (t==T||(t == "bool" && T == "int")):=by intro t ht T hT;simp only[kinds,Æ,Þ,or_false]at ht hT;rcases ht with rfl|rfl|rfl|rfl|rfl|rfl|rfl<;>rcases hT with rfl|rfl|rfl|rfl|rfl|rfl<;>rfl
def At(g:RH i G H){v:fY.Val}{t:String}(r:RV i.K H v x)(e:fY.fW G v=d7 t):TyV i.K H x (.type t)/\t∈["NoneType","bool","int","str","tuple","list","dict"]:=by
 cases v with
 |non=>cases r;cases e;exact⟨.of .non,by simp⟩
 |bl b=>cases r;cases e;exact⟨.of<|.bl b,by simp⟩
 |int b=>cases r;cases e;exact⟨.of<|.int b,by simp⟩
 |str b=>cases r;cases e;exact⟨.of<|.str _,by simp⟩
 |tup xs=>cases e;cases r with|tup hp hr=>exact⟨.tup<|Zj hp,by simp⟩
 |scr ns=>cases e;cases r with|scr h=>exact⟨.lst<|Yp h,by simp⟩
 |ref a =>
  cases r.ref_inv;simp only[fY.fW]at e;cases q:G a with
  |none=>rw[q]at e;cases e
  |some o =>
   rw[q]at e;cases o with
   |lst xs=>cases e;obtain⟨vs,h1,_⟩:=g a _ q;exact⟨.lst<|fP.of h1,by simp⟩
   |dct kvs=>cases e;obtain⟨ps,h1,_⟩:=g a _ q;exact⟨.of<|.dK h1,by simp⟩
   |ins C fs=>cases e
   |exc C=>cases e
   |frz _=>cases e
   |dtp _=>cases e
 |key _ _=>cases e
def Qe{e:Expr}{m:fY.E}{T:String}{p p2:Pos}(hT:T∈kinds)(he:PE X e<|tE X i Φ m)(hk:X.K=i.K)(hg:Gl X "isinstance")(hm:X.mg "isinstance" = d8)(hg2:Gl X<|gh T)(hm2:X.mg (gh T)=d8)
  (hv2:Ş (gh T)=d7 (.type T)) (hn2:gh T≠"__name__") (aM:(gh T==("__debug__" : Str))=ee) (ņ:Ì [e,.Name (gh T) p2] X.env=(ee,eval e X.env)::Ì [.Name (gh T) p2] X.env) :
  PE X (.Call (.Name "isinstance" p) [e,.Name (gh T) p2] [] æ) (tE X i Φ<|.bi (.isi [T])<|.cons m .nil):=by
 refine(Zy Ec hg hm (by kernel_rfl) (Zv he (Zv (Qb (T:=T) hg2 hm2 hv2 hn2 aM) fN) ņ) (he:=ņ)).imp λσ H Q ⟨env,G,Qm,Em,p,w,c⟩=>?_;refine one p w λv G1 H1 x k1 p1 r q=>?_
 replace q:(fY.Rs.ofO (((fY.fX G1 v T).bind λb=>(fY.isiAny G1 v []).map (b || ·)).map .bl)).wp G1 Qm:=q
 simp only[fY.isiAny,fY.fX]at q;cases z:fY.fW G1 v with
 |none=>rw[z]at q;simp[fY.Rs.ofO]at q
 |some t =>rw[z]at q;simp only[Ĺ,ò,fY.Rs.ofO,fY.Rs.wp_val,be]at q;obtain⟨h1,h2⟩:=At p1.hp r z;refine⟨x,T,.type t,_,rfl,by rw[hk];exact h1,by rw[hk];exact FD _ t h2 T hT,c _ G1 H1 _ k1 p1.hp (.bl _) q⟩
def Ox(h:fY.isLst o=d9):∃xs,o=d7 (.lst xs):=by
 cases o with
 |none=>cases h
 |some o=>cases o with
  |lst xs=>exact⟨xs,rfl⟩
  |_=>cases h
variable {a:È}
def CN{f:fY.Ad->List fY.Val->Option (fY.Val×fY.Hs)}{t:fY.Val×fY.Hs}(e:fY.bmL G (.ref a) f=d7 t):∃xs,G a=d7 (.lst xs)/\f a xs=d7 t:=by obtain⟨xs,h1,h2⟩:=á.mp (show(fY.eR<|G a).bind (f a)=d7 t from e);exact⟨xs,Ap h1,h2⟩
def ML{xs:List fY.Val}{vs:List V}(g:RH i G H)(h:H a=d7 (.lst vs))(ys:List fY.Val)(us:List V)(r:RVs i.K H ys us):eZ H (upd H a<|.lst us)/\RH i (fY.upd G a<|.lst ys) (upd H a<|.lst us):=by
 have k:eZ H<|upd H a<|.lst us:=eZ.put (λxs e=>by rw[h]at e;cases e) λp u e=>by rw[h]at e;cases e
 exact⟨k,g.put k ⟨us,ej,r.keep k⟩⟩
abbrev spF(i:Inf)(P:fY.Pg)(n:Nat)(f:String):Sp:=λvs H Q E=>∃args G Qm Em,RVs i.K H args vs/\RH i G H/\fY.wF P n f args G Qm Em/\Cn i H Q Qm/\∀cls d H',XK1 i H Em cls d H'->E cls d H'
abbrev Dfo(pr:ê)(w:ý)(mg:Str->Option Â)(base:ü)(i:Inf)(P:fY.Pg)(n:Nat)(f:String):Prop :=
 ∃fa fd ps,fi pr w i.K mg base (CX1 pr w) (2*n) fa fd ps (spF i P n f)/\mg (gh f)=d7 (.ref fa)/\PySem.W.keepIn i.K (.ref fa)=d9/\Binds i.K fd ps []
variable {e:Expr} {es:List Expr} {æ:Pos}
def HZ{P:fY.Pg}{n k:Nat}{f:String}{ms:fY.Es}{p:Pos}(hK:X.K=i.K)(D:Dfo X.prog X.w X.mg X.base i P n f)(hr:fh (2*n) X.A)(hg:Gl X<|gh f)(ϗ:(gh f==("__debug__" : Str))=ee)
  (ha:PA X (e::es)<|tAr X i (fY.wF P n) ms k) (he:Ì (e::es) X.env=(ee,eval e X.env)::Ì es X.env) (hpl:(Ċ æ<|Ì es X.env).any (·.1)=ee) :
  PE X (.Call (.Name (gh f) p) (e::es) [] æ) (tE X i (fY.wF P n)<|.call f ms):=by
 obtain⟨fa,fd,ps,F,hm,hk,hb⟩:=D;rw[<-hK]at F hk hb;intro Á s σ H Q I h;obtain⟨env,G,Qm,Em,pr,w,c⟩:=h;refine FM (E:=XK1 i H Em) F hr hg hm hk hb .nil (XW.passes pr.xo) ha ϗ he hpl Á s σ H Q I ⟨env,G,_,Em,pr,w,λvs G1 H1 xs k1 g1 r1 hl w1=>?_⟩;exact⟨vs,G1,Qm,Em,by rw[ð];exact r1,g1,w1,c.go k1,λcls d H' h=>h.go k1⟩
abbrev XKS(i:Inf)(H:Hp)(Xe:fY.EQ):XK:=λcls _ H'=>∃e c G' ad,cls=.ref ad/\i.xc c ad/\eZ H H'/\RH i G' H'/\Xe e c G'
structure PreS(X:Cx)(i:Inf)(σ:St)(H:Hp)(env:fY.Env)(G:fY.Hs)(Xe:fY.EQ):Prop where
 en:REn i.K H env σ
 hp:RH i G H
 xo:XW X<|XKS i H Xe
variable {σ:St} {H:Hp} {H1:Hp} {G:fY.Hs} {Xe:fY.EQ}
def PreS.go{σ1:St}{env env1:fY.Env}{G1:fY.Hs}(p:PreS X i σ H env G Xe)(k:eZ H H1)(r:RH i G1 H1)(e:REn i.K H1 env1 σ1):PreS X i σ1 H1 env1 G1 Xe :=
 ⟨e,r,λÁ σ H0 s H' a cls s' I f ⟨e,c,G',ad,q1,q2,q3,q4⟩=>p.xo Á σ H0 s H' a cls s' I f ⟨e,c,G',ad,q1,q2,k.trans q3,q4⟩⟩
def PreS.pre{env:fY.Env}(p:PreS X i σ H env G Xe):Pre X i σ H env G (Xe env) :=
 ⟨p.en,p.hp,λÁ σ H0 s H' a cls s' I f ⟨c,G',ad,q1,q2,q3,q4⟩=>p.xo Á σ H0 s H' a cls s' I f ⟨env,c,G',ad,q1,q2,q3,q4⟩⟩
structure EOk(i:Inf)(H:Hp)(D:Ends)(N:fY.NQ)(R:fY.Q1)(B C:fY.NQ):Prop where
 nx:∀ĳ Ŀ G' H',eZ H H'->RH i G' H'->REn i.K H' ĳ Ŀ->N ĳ G'->D.nx Ŀ H'
 rt:∀v G' H' x,eZ H H'->RH i G' H'->RV i.K H' v x->R v G'->D.rt x H'
 bk:∀ĳ Ŀ G' H',eZ H H'->RH i G' H'->REn i.K H' ĳ Ŀ->B ĳ G'->D.bk Ŀ H'
 ct:∀ĳ Ŀ G' H',eZ H H'->RH i G' H'->REn i.K H' ĳ Ŀ->C ĳ G'->D.ct Ŀ H'
def EOk.go{D:Ends}{N:fY.NQ}{R:fY.Q1}{B C:fY.NQ}(e:EOk i H D N R B C)(k:eZ H H1):EOk i H1 D N R B C :=
 ⟨λa b c d k'=>e.nx a b c d<|k.trans k',λa b c d k'=>e.rt a b c d<|k.trans k',λa b c d k'=>e.bk a b c d<|k.trans k',λa b c d k'=>e.ct a b c d<|k.trans k'⟩
inductive tStx (X:Cx) (i:Inf) (Φ:fY.Fs) (m:fY.S) (D:Ends) (σ:St) (H:Hp):Prop
 |mk (env:fY.Env) (G:fY.Hs) (N:fY.NQ) (R:fY.Q1) (B C:fY.NQ) (Xe:fY.EQ) (p:PreS X i σ H env G Xe) (w:fY.wS Φ m env G N R B C Xe) (e:EOk i H D N R B C)
abbrev tSt(X:Cx)(i:Inf)(Φ:fY.Fs)(m:fY.S):TS:=tStx X i Φ m
inductive tBlx (X:Cx) (i:Inf) (Φ:fY.Fs) (m:fY.Ss) (D:Ends) (σ:St) (H:Hp):Prop
 |mk (env:fY.Env) (G:fY.Hs) (N:fY.NQ) (R:fY.Q1) (B C:fY.NQ) (Xe:fY.EQ) (p:PreS X i σ H env G Xe) (w:fY.wSs Φ m env G N R B C Xe) (e:EOk i H D N R B C)
abbrev tBl(X:Cx)(i:Inf)(Φ:fY.Fs)(m:fY.Ss):TS:=tBlx X i Φ m
variable {st:Ģ} {t':TS}
def _root_.L2.PS.imp{t:TS}(h:PS X st t)(f:∀D σ H,t' D σ H->t D σ H):PS X st t':=λÁ s σ H D I q=>h Á s σ H D I (f D σ H q)
def _root_.L2.PSs.imp{st:List Ģ}{t:TS}(h:PSs X st t)(f:∀D σ H,t' D σ H->t D σ H):PSs X st t':=λÁ s σ H D I q=>h Á s σ H D I (f D σ H q)
def HN:PSs X []<|tBl X i Φ .nil:=pss_nil.imp λD σ H ⟨env,G,N,R,B,C,Xe,p,w,c⟩=>by exact c.nx env σ G H (eZ.refl H) p.hp p.en w
def EN{sts:List Ģ}{m:fY.S}{ms:fY.Ss}(h1:PS X st<|tSt X i Φ m)(h2:PSs X sts<|tBl X i Φ ms):PSs X (st::sts) (tBl X i Φ<|.cons m ms) :=
 (Do h1 h2).imp λD σ H ⟨env,G,N,R,B,C,Xe,p,w,c⟩=>by exact⟨env,G,_,R,B,C,Xe,p,w,⟨λĳ Ŀ G' H' k g e w'=>⟨ĳ,G',N,R,B,C,Xe,p.go k g e,w',c.go k⟩,c.rt,c.bk,c.ct⟩⟩
variable {m:fY.E}
def Pj(he:PE X e<|tE X i Φ m):PS X (.Return (d7 e) æ) (tSt X i Φ<|.ret m) :=
 (IR he).imp λD σ H ⟨env,G,N,R,B,C,Xe,p,w,c⟩=>by exact⟨env,G,R,Xe env,p.pre,w,c.rt⟩
def E3:PS X (.Return d8 æ) (tSt X i Φ .retN) :=
 ps_retN.imp λD σ H ⟨env,G,N,R,B,C,Xe,p,w,c⟩=>by exact c.rt _ G H _ (eZ.refl H) p.hp .non w
def Fq(he:PE X e<|tE X i Φ m)(hs:Ŕ e d8 æ.line X.env=pure ee):PS X (.Expr e æ) (tSt X i Φ<|.expr m) :=
 (EL he hs).imp λD σ H ⟨env,G,N,R,B,C,Xe,p,w,c⟩=>by exact⟨env,G,_,Xe env,p.pre,w,λv G1 H1 x k1 g1 r1 w1=>c.nx env σ G1 H1 k1 g1 (p.en.keep k1) w1⟩
def LM{t:Expr}{a b:List Ģ}{mt:fY.Tt}{ma mb:fY.Ss}(ht:PT X t<|tTt X i Φ mt)(ha:PSs X a<|tBl X i Φ ma)(hb:PSs X b<|tBl X i Φ mb):PS X (.If t a b æ) (tSt X i Φ<|.ite mt ma mb) :=
 (RE ht ha hb).imp λD σ H ⟨env,G,N,R,B,C,Xe,p,w,c⟩=>by
  refine⟨env,G,_,Xe env,p.pre,w,λd G1 H1 k1 g1 q=>?_⟩;cases d with
  |true=>exact⟨env,G1,N,R,B,C,Xe,p.go k1 g1<|p.en.keep k1,by simpa using q,c.go k1⟩
  |false=>exact⟨env,G1,N,R,B,C,Xe,p.go k1 g1<|p.en.keep k1,by simpa using q,c.go k1⟩
abbrev gPt(i:Inf)(p:fY.Pt):TG:=λx σ H Q=>∃v env G Ō,RV i.K H v x/\RH i G H/\REn i.K H env σ/\fY.bind p G v env=d7 Ō/\∀σ2,REn i.K H Ō σ2->Q σ2 H
variable {tg:Expr}
def _root_.L2.PG.imp{t t':TG}(h:PG X tg t)(f:∀v σ H Q,t' v σ H Q->t v σ H Q):PG X tg t':=λÁ s σ H v u Q I r q=>h Á s σ H v u Q I r (f v σ H Q q)
def _root_.L2.PGs.imp{tg:List Expr}{t t':TGs}(h:PGs X tg t)(f:∀v σ H Q,t' v σ H Q->t v σ H Q):PGs X tg t':=λÁ s σ H v u Q I r q=>h Á s σ H v u Q I r (f v σ H Q q)
variable {x:Str} {j:Nat}
def N3(hN:X.N.Nodup)(hi:X.N[j]?=d7 x)(hx:Loc X.env.scope x)(hf:X.fn x=d9\/X.env.scope.names.lookup x=d7 .local):PG X (.Name x æ) (gPt i<|.one j) :=
 (Uc hN hi hx hf).imp λv σ H Q ⟨u,env,G,Ō,r,g,e,b,h⟩=>by cases b;exact h _<|e.set r j
abbrev C6(i:Inf)(js:List Nat):TGs:=λxs σ H Q=>∃vs env Ō,RVs i.K H vs xs/\REn i.K H env σ/\fY.bindL js vs env=d7 Ō/\∀σ2,REn i.K H Ō σ2->Q σ2 H
def Gc:PGs X []<|C6 i []:=pgs_nil.imp λxs σ H Q ⟨vs,env,Ō,r,e,b,h⟩=>by
 cases vs with
 |nil=>cases r;cases b;exact⟨rfl,h _ e⟩
 |cons _ _=>cases b
variable {js:List Nat}
def DI(hN:X.N.Nodup)(hi:X.N[j]?=d7 x)(hx:Loc X.env.scope x)(hf:X.fn x=d9\/X.env.scope.names.lookup x=d7 .local)(h2:PGs X es<|C6 i js)
  (hs:(ě (.Name x æ::es) X.env).map (·.2)=ŵ (.Name x æ) X.env::(ě es X.env).map (·.2)):PGs X (.Name x æ::es) (C6 i<|j::js) :=
 (JH (Uc hN hi hx hf) h2 hs).imp λxs σ H Q ⟨vs,env,Ō,r,e,b,h⟩=>by
  cases vs with
  |nil=>cases b
  |cons v vs =>
   cases r with
   |cons r t=>exact⟨_,_,rfl,vs,env.set j<|d7 v,Ō,t,e.set r j,b,h⟩
def KP:∀{js:List Nat}{vs:List fY.Val}{env Ō:fY.Env},fY.bindL js vs env=d7 Ō->vs.length=js.length
 |[],[],_,_,_=>rfl
 |j::js,v::vs,env,_,h=>by rw[Ç,Ç,KP<|show fY.bindL js vs (env.set j<|d7 v)=_ from h]
 |[],_::_,_,_,h=>by cases h
 |_::_,[],_,_,h=>by cases h
def Ur{k:Nat}(hK:X.K=i.K)(hc:X.calm=d9)(h:PGs X es<|C6 i js)(hn:(ě es X.env).length=js.length)(ņ:(ě es X.env).findIdx? (·.1)=d8):PG X (.Tuple es k æ) (gPt i<|.many js) :=
 (BV (n:=js.length) hc h hn ņ).imp λv σ H Q ⟨u,env,G,Ō,r,g,e,b,h⟩=>by
  cases u with
  |tup vs =>
   have b:fY.bindL js vs env=d7 Ō:=b;cases r with
   |tup hp hr=>exact⟨_,_,rfl,by rw[hK];exact Zj hp,by rw[<-hr.length];exact KP b,vs,env,Ō,hr,e,b,h⟩
  |_=>cases b
def E0{k k2:Nat}{p1 p2:Pos}(hK:X.K=i.K)(hc:X.calm=d9)(h1:PG X (.Name x p1)<|gPt i<|.one j)(h2:PG X (.Tuple es k2 p2)<|gPt i<|.many js):PG X (.Tuple [.Name x p1,.Tuple es k2 p2] k æ) (gPt i<|.nest j js) :=
 (BV (n:=2) hc (JH h1 (JH h2 pgs_nil rfl) rfl) rfl rfl).imp λv σ H Q ⟨u,env,G,Ō,r,g,e,b,h⟩=>by
  cases u with
  |tup vs =>
   cases vs with
   |nil=>cases b
   |cons x0 vs=>cases vs with
    |nil=>cases b
    |cons y vs=>cases vs with
     |cons _ _=>cases b
     |nil =>
      have b:(fY.tupOf y).bind (λys=>fY.bindL js ys<|env.set j<|d7 x0)=d7 Ō:=b;cases r with
      |tup hp hr =>
       cases hr with
       |cons r0 t=>cases t with
        |cons r1 t =>cases t;exact⟨_,_,rfl,by rw[hK];exact Zj hp,rfl,_,_,rfl,x0,env,G,_,r0,g,e,rfl,λσ2 e2=>⟨_,_,rfl,y,_,G,Ō,r1,g,e2,b,λaW e3=>⟨rfl,h aW e3⟩⟩⟩
  |_=>cases b
def Ii{q:fY.Pt}(he:PE X e<|tE X i Φ m)(hg:PG X tg<|gPt i q)(hs:Ν [tg] e æ.line X.env=pure ee)(hw:Ξ [tg] e X.env=pure d8)
  (h1:(ě [tg] X.env).map (·.2)=[ŵ tg X.env]):PS X (.Assign [tg] e æ) (tSt X i Φ<|.set q m) :=
 (CG he hg hs hw h1).imp λD σ H ⟨env,G,N,R,B,C,Xe,p,w,c⟩=>by refine⟨env,G,_,Xe env,p.pre,w,λv G1 H1 x k1 g1 r1 w1=>?_⟩;obtain⟨Ō,e2,w1⟩:=eC w1;exact⟨v,env,G1,Ō,r1,g1,p.en.keep k1,e2,λσ2 h2=>c.nx Ō σ2 G1 H1 k1 g1 h2 w1⟩
abbrev CC:V->V->V->Hp->(Hp->Prop)->Prop:=λo y v H Q=>Hv o y v H Q\/G0 o y v H Q
def C8{G G3:fY.Hs}{H:Hp}{o k v:fY.Val}{y z x:V}{Q:Hp->Prop}(g:RH i G H)(ry:RV i.K H o y)(rz:RV i.K H k z)(rx:RV i.K H v x)(e:fY.fw G o k v=d7 G3)(c:∀H3,eZ H H3->RH i G3 H3->Q H3):CC y z x H Q:=by
 cases o with
 |ref b =>
  cases ry.ref_inv
  replace e:(match G b with|some (.lst xs)=>(fY.fU k).bind λn=>(fY.ixN xs.length n).map λj=>fY.upd G b (.lst<|xs.set j v)|some (.dct kvs)=>if fY.eX k/\kvs.length<fY.lim then d7 (fY.upd G b<|.dct<|fY.fe kvs k v)else d8|some (.dtp kvs)=>if fY.isKeyT k/\kvs.length<fY.lim then d7 (fY.upd G b<|.dtp<|fY.fe kvs k v)else d8|_=>d8)=d7 G3:=e
  cases z4:G b with
  |none=>rw[z4]at e;cases e
  |some o =>
   rw[z4]at e;cases o with
   |lst xs =>obtain⟨n,hn,e⟩:=á.mp e;obtain⟨jj,hj,rfl⟩:=Ð.mp e;cases ZK hn;cases rz.int_inv;obtain⟨vs,h2,r2⟩:=g b _ z4;rw[MU,r2.length]at hj;obtain⟨k3,g3⟩:=ML (xs:=xs) g h2 (xs.set jj v) (vs.set jj x)<|r2.set rx jj;exact .inl ⟨b,vs,n,jj,rfl,rfl,h2,hj,c _ k3 g3⟩
   |dct kvs =>obtain⟨hk,e⟩:=Zs (show(if fY.eX k/\kvs.length<fY.lim then d7 (fY.upd G b<|.dct<|fY.fe kvs k v)else d8)=d7 G3 from e);cases e;obtain⟨ps,h2,r2⟩:=g b _ z4;obtain⟨d,kr,rfl⟩:=eU hk.1 rz;obtain⟨k3,g3⟩:=MM (kvs:=kvs) g h2<|r2.put kr rx;exact .inr ⟨b,_,rfl,DPut.k h2 (by rw[<-RKs.length r2];exact è hk.2 ZT),c _ k3 g3⟩
   |dtp kvs =>obtain⟨hk,e⟩:=Zs (show(if fY.isKeyT k/\kvs.length<fY.lim then d7 (fY.upd G b<|.dtp<|fY.fe kvs k v)else d8)=d7 G3 from e);cases e;obtain⟨ps,h2,r2⟩:=g b _ z4;obtain⟨a1,a2,d,rfl,rfl,hd⟩:=Jn hk.1 rz;obtain⟨k3,g3⟩:=Gp g h2<|r2.put (i:=a1) (j:=a2) rx;exact .inr ⟨b,_,rfl,DPut.t h2 hd (by rw[<-RTs.length r2];exact è hk.2 ZT),c _ k3 g3⟩
   |_=>cases e
 |_=>cases e
def Ah{a j:Expr}{ma mj:fY.E}{ϋ:Pos}(hK:X.K=i.K)(he:PE X e<|tE X i Φ m)(ha:PE X a<|tE X i Φ ma)(hj:PE X j<|tE X i Φ mj)(hgl:PG X (.Subscript a j ϋ)<|Ql (tE X i Φ ma) (tE X i Φ mj) CC)(hs:Ν [.Subscript a j ϋ] e æ.line X.env=pure ee)(hw:Ξ [.Subscript a j ϋ] e X.env=pure d8)
  (h1:(ě [.Subscript a j ϋ] X.env).map (·.2)=[ŵ (.Subscript a j ϋ) X.env]):PS X (.Assign [.Subscript a j ϋ] e æ) (tSt X i Φ<|.setIdx ma mj m) :=
 (CG he hgl hs hw h1).imp λD σ H ⟨env,G,N,R,B,C,Xe,p,w,c⟩=>by refine⟨env,G,_,Xe env,p.pre,w,λv G1 H1 x k1 g1 r1 w1=>?_⟩;refine two (p.go k1 g1<|p.en.keep k1).pre w1 λo k G2 H2 y z k2 p2 ry rz q=>?_;obtain⟨G3,e3,q⟩:=eC q;exact C8 p2.hp ry rz (r1.keep k2) e3 λH3 k3 g3=>c.nx env σ _ _ ((k1.trans k2).trans k3) g3 (p2.en.keep k3) q
structure ItOk(i:Inf)(H0:Hp)(J:It)(st:fY.Hs->Prop)(xs:List fY.Val):Prop where
 go:∀n G H v,eZ H0 H->RH i G H->st G->xs[n]?=d7 v->J.go n H/\∀x H',J.yld n H x H'->eZ H H'/\RH i G H'/\RV i.K H' v x
 stop:∀n G H,eZ H0 H->RH i G H->st G->xs.length<=n->J.stop n H
abbrev tIt(X:Cx)(i:Inf)(Φ:fY.Fs)(m:fY.It):TI:=λσ H R=>∃env G QI Em,Pre X i σ H env G Em/\fY.wI Φ m env G QI Em/\∀st xs G' H' J,eZ H H'->RH i G' H'->ItOk i H' J st xs->QI st xs G'->R J H'
variable {tg:Expr} {e:Expr}
def _root_.L2.PI.imp{t t':TI}(h:PI X tg e t)(f:∀σ H Q,t' σ H Q->t σ H Q):PI X tg e t':=λÁ s σ H Q I q=>h Á s σ H Q I (f σ H Q q)
abbrev RY(K:Frag)(tl:TE):TI:=λσ H R=>tl σ H λx H1=>∃a,x=.ref a/\(((∃xs,fP K H1 a xs)/\R (Itl K a) H1)\/((∃xs,fQ K H1 a xs)/\R (Itt K a) H1))
def LX{l:Expr}{tl:TE}(hl:PE X l tl):PI X tg l<|RY X.K tl:=by
 intro Á s σ H R I h;refine thn (hl Á s σ H _ I h) λv s1 ⟨x,H1,I1,r1,q1⟩=>?_;obtain⟨a,e,q1⟩:=q1;subst e;cases r1;rcases q1 with⟨⟨xs,hq⟩,q⟩|⟨⟨xs,hq⟩,q⟩
 .obtain⟨ì,rv,p,hz⟩:=I1.list hq;refine Κ p.isList ?_;refine⟨s1.heap.objs.size,[s1.heap.objs.size],_,_,H1,rfl,I1.kept (t':=s1.toks) λb o e=>Ä _ e,AS a _,⟨_,Ö _ rfl,rfl,rfl⟩,λb hb=>?_,q⟩;have e:b=s1.heap.objs.size:=by simpa using hb
  subst e;exact I1.fpOk (Í _)<|I1.hok.fresh<|Í _
 .obtain⟨ì,rv,p,hz⟩:=I1.tuple hq;refine Ő (show s1.heap.IsTuple a ì.toArray from p) ?_;refine⟨s1.heap.objs.size,[s1.heap.objs.size],_,_,H1,rfl,I1.kept (t':=s1.toks) λb o e=>Ä _ e,OZ a _,⟨_,Ö _ rfl,rfl,rfl⟩,λb hb=>?_,q⟩;have e:b=s1.heap.objs.size:=by simpa using hb
  subst e;exact I1.fpOk (Í _)<|I1.hok.fresh<|Í _
variable {H0:Hp} {a:È} {xs:List fY.Val}
def it_lst:ItOk i H0 (Itl i.K a) (λg=>fY.eR (g a)=d7 xs) xs where
 go:=λn G H v _ g e hv=>by obtain⟨vs,h1,h2⟩:=ZM g e;obtain⟨x,h3,h4⟩:=h2.get hv;refine⟨⟨vs,x,h1,h3⟩,λy H' ⟨e1,e2⟩=>?_⟩;subst e1;have:=e2 vs h1;rw[h3]at this;cases this;exact⟨eZ.refl _,g,h4⟩
 stop:=λn G H _ g e hn=>by obtain⟨vs,h1,h2⟩:=ZM g e;exact⟨vs,h1,by rw[<-h2.length];exact hn⟩
def it_tup{vs:List V}(hp:H0 a=d7 (.tup vs)\/KT i.K a vs)(hr:RVs i.K H0 xs vs):ItOk i H0 (Itt i.K a) (λ_=>True) xs where
 go:=λn G H v k g e hv=>by have hp':H a=d7 (.tup vs)\/KT i.K a vs:=hp.imp (k.t _ _) id;obtain⟨x,h3,h4⟩:=(hr.keep k).get hv;refine⟨⟨vs,x,Zj hp',h3⟩,λy H' ⟨e1,e2⟩=>?_⟩;subst e1;have:=e2 vs<|Zj hp';rw[h3]at this;cases this;exact⟨eZ.refl _,g,h4⟩
 stop:=λn G H k g e hn=>by have hp':H a=d7 (.tup vs)\/KT i.K a vs:=hp.imp (k.t _ _) id;exact⟨vs,Zj hp',by rw[<-hr.length];exact hn⟩
def it_scr{ns:List Int}(h:(∃o,H0 a=d7 (.frz o<|.lst<|ns.map V.int))\/KL i.K a (ns.map V.int)):ItOk i H0 (Itl i.K a) (λ_=>True) (ns.map .int) where
 go:=λn G H v k g e hv=>by have h':fP i.K H a<|ns.map V.int:=Yp<|h.imp (λ⟨o,e⟩=>⟨o,k.f _ _ _ e⟩) id;obtain⟨x,h3,h4⟩:=(RVs.ints (K:=i.K) (H:=H) ns).get hv;refine⟨⟨_,x,h',h3⟩,λy H' ⟨e1,e2⟩=>?_⟩;subst e1;have:=e2 _ h';rw[h3]at this;cases this;exact⟨eZ.refl _,g,h4⟩
 stop:=λn G H k g e hn=>⟨_,Yp<|h.imp (λ⟨o,e⟩=>⟨o,k.f _ _ _ e⟩) id,by simpa using hn⟩
def DY{lo hi:Int}{n:Nat}(hn:n=(hi - lo).toNat):ItOk i H0 (Itr lo n) (λ_=>True) (fY.fj lo hi) where
 go:=λk G H v _ g _ hv=>by
  unfold fY.fj at hv;rw[Õ]at hv;have hk:k<(hi - lo).toNat:=by
   by_cases h:k<(hi - lo).toNat
   .exact h
   .rw[Ŭ<|by simpa using h]at hv;cases hv
  rw[List.getElem?_range hk]at hv;cases hv;refine⟨by rw[hn];exact hk,λx H' ⟨e1,e2⟩=>?_⟩;subst e1 e2;exact⟨eZ.refl _,g,.int _⟩
 stop:=λk G H _ g _ hk=>by unfold fY.fj at hk;show n<=k;simp at hk;lia
variable {m:fY.E}
def LL(hK:X.K=i.K)(he:PE X e<|tE X i Φ m):PI X tg e (tIt X i Φ<|.seq m) :=
 (LX he).imp λσ H R ⟨env,G,QI,Em,p,w,c⟩=>by
  refine one p w λv G1 H1 x k1 p1 r q=>?_;obtain⟨⟨st,xs⟩,e1,q2⟩:=eC q;clear q;rw[hK];cases v with
  |tup ys =>
   cases e1;cases r with
   |tup hp hr=>exact⟨_,rfl,.inr ⟨⟨_,Zj hp⟩,c _ _ G1 H1 _ k1 p1.hp (it_tup hp hr) q2⟩⟩
  |scr ns =>
   cases e1;cases r with
   |scr h=>exact⟨_,rfl,.inl ⟨⟨_,Yp h⟩,c _ _ G1 H1 _ k1 p1.hp (it_scr h) q2⟩⟩
  |ref a =>
   cases r.ref_inv;simp only[fY.itV]at e1;cases z:fY.eR (G1 a)with
   |none=>rw[z]at e1;cases e1
   |some ys =>rw[z]at e1;cases e1;obtain⟨vs,h1,h2⟩:=ZM p1.hp z;exact⟨a,rfl,.inl ⟨⟨vs,h1⟩,c _ _ G1 H1 _ k1 p1.hp it_lst q2⟩⟩
  |_=>cases e1
variable {p:Pos} {æ:Pos}
def C5{a:Expr}(hg:Gl X "range")(hm:X.mg "range" = d8)(ha:PE X a<|tE X i Φ m)(hs:Ì [a] X.env=[(ee,eval a X.env)]):PI X tg (.Call (.Name "range" p) [a] [] æ) (tIt X i Φ<|.range m) :=
 (AD hg hm (Zv ha fN<|by rw[hs];rfl) hs).imp λσ H R ⟨env,G,QI,Em,p,w,c⟩=>by refine one p w λv G1 H1 x k1 p1 r q=>?_;obtain⟨n,e1,q2⟩:=eC q;clear q;cases ZK e1;cases r.int_inv;exact⟨n,rfl,q2.1.1,q2.1.2,c _ _ G1 H1 _ k1 p1.hp (DY<|by rw[Int.sub_zero]) q2.2⟩
def Ay{a b:Expr}{ma mb:fY.E}(hg:Gl X "range")(hm:X.mg "range" = d8)(ha:PE X a<|tE X i Φ ma)(hb:PE X b<|tE X i Φ mb)(hs:Ì [a,b] X.env=[(ee,eval a X.env),(ee,eval b X.env)])(hs1:Ì [b] X.env=[(ee,eval b X.env)]) :
  PI X tg (.Call (.Name "range" p) [a,b] [] æ) (tIt X i Φ<|.range2 ma mb) :=
 (Bf hg hm (Zv ha (Zv hb fN<|by rw[hs1];rfl)<|by rw[hs,hs1]) hs hs1).imp λσ H R ⟨env,G,QI,Em,p,w,c⟩=>by refine two p w λv u G1 H1 x y k1 p1 rx ry q=>?_;obtain⟨n,e1,q1⟩:=eC q;obtain⟨m,e2,q2⟩:=eC q1;clear q q1;cases ZK e1;cases ZK e2;cases rx.int_inv;cases ry.int_inv;exact⟨n,m,rfl,q2.1,c _ _ G1 H1 _ k1 p1.hp (DY rfl) q2.2⟩
variable {body:List Ģ} {mb:fY.Ss}
def IL{Ť:Expr}{q:fY.Pt}{mi:fY.It}(hp:Α (à X.prog X.w) X.A X.env X.xe)(hc:X.calm=d9)(hi:PI X tg Ť<|tIt X i Φ mi)(hg:PG X tg<|gPt i q)(hb:PSs X body<|tBl X i Φ mb)
  (hs:∀x,ĕ Ť X.env x=pure x):PS X (.For tg Ť body [] æ) (tSt X i Φ<|.for q mi mb) :=
 (CW hp hc hi hg hb hs).imp λD σ H ⟨env,G,N,R,B,C,Xe,p,w,c⟩=>by
  refine⟨env,G,_,Xe env,p.pre,w,λst xs G1 H1 J k1 g1 it w1=>?_⟩;refine⟨λn m Ŀ H'=>n+m=xs.length/\∃ĳ G',eZ H1 H'/\RH i G' H'/\REn i.K H' ĳ Ŀ/\fY.wFor st (λv e g K M=>fY.go (fY.bind q g v e) λe2=>fY.wSs Φ mb e2 g K R M K Xe) N (xs.drop n) ĳ G',⟨xs.length,by lia,env,G1,eZ.refl _,g1,p.en.keep k1,by simpa using w1⟩,?_⟩;rintro n m Ŀ H' ⟨hnm,ĳ,G',k2,g2,e2,w2⟩;by_cases hn:n<xs.length
  .right;have hd:xs.drop n=xs[n]::xs.drop (n+1):=υ hn;rw[hd]at w2;obtain⟨s2,w2⟩:=w2;have hv:xs[n]?=d7 xs[n]:=Ê hn;obtain⟨a1,a2⟩:=it.go n G' H' xs[n] k2 g2 s2 hv;refine⟨a1,λaW H3=>∃env3 G3,eZ H1 H3/\RH i G3 H3/\REn i.K H3 env3 aW/\fY.wFor st (λv e g K M=>fY.go (fY.bind q g v e) λe2=>fY.wSs Φ mb e2 g K R M K Xe) N (xs.drop<|n+1) env3 G3,λaW H3 h=>⟨m - 1,by lia,by lia,h⟩,λx H3 hy=>?_⟩;obtain⟨k3,g3,r3⟩:=a2 x H3 hy;obtain⟨cA,e4,w4⟩:=eC w2;refine⟨xs[n],ĳ,G',cA,r3,g3,e2.keep k3,e4,λσ4 h4=>?_⟩;have kk:eZ H H3:=(k1.trans k2).trans k3;refine⟨cA,G',_,R,N,_,Xe,p.go kk g3 h4,w4,⟨λaI dG G5 H5 k5 g5 e5 w5=>?_,(c.go kk).rt,(c.go kk).nx,λaI dG G5 H5 k5 g5 e5 w5=>?_⟩⟩
   .exact⟨aI,G5,(k2.trans k3).trans k5,g5,e5,w5⟩
   .exact⟨aI,G5,(k2.trans k3).trans k5,g5,e5,w5⟩
  .left;have hd:xs.drop n=[]:=ŉ (by lia);rw[hd]at w2;exact⟨it.stop n G' H' k2 g2 w2.1 (by lia),c.nx ĳ Ŀ G' H' (k1.trans k2) g2 e2 w2.2⟩
def Ik{t:Expr}{mt:fY.Tt}(hp:Α (à X.prog X.w) X.A X.env X.xe)(ht:PT X t<|tTt X i Φ mt)(hb:PSs X body<|tBl X i Φ mb):PS X (.While t body [] æ) (tSt X i Φ<|.whl mt mb) :=
 (Di hp ht hb).imp λD σ H ⟨env,G,N,R,B,C,Xe,p,w,c⟩=>by
  obtain⟨n,w⟩:=w;refine⟨λm Ŀ H'=>∃ĳ G',eZ H H'/\RH i G' H'/\REn i.K H' ĳ Ŀ/\fY.wWhile (λe g K=>fY.wT Φ mt e g K<|Xe e) (λe g K M=>fY.wSs Φ mb e g K R M K Xe) N m ĳ G',⟨n,env,G,eZ.refl H,p.hp,p.en,w⟩,?_⟩;rintro m Ŀ H' ⟨ĳ,G',k1,g1,e1,w1⟩;cases m with
  |zero=>cases w1
  |succ m =>
   have w1:fY.wT Φ mt ĳ G' _<|Xe ĳ:=w1;have p1:=p.go k1 g1 e1;refine⟨ĳ,G',_,Xe ĳ,p1.pre,w1,λd G2 H2 k2 g2 q=>?_⟩;cases d with
   |true =>refine⟨λaW H3=>∃env3 G3,eZ H H3/\RH i G3 H3/\REn i.K H3 env3 aW/\fY.wWhile (λe g K=>fY.wT Φ mt e g K<|Xe e) (λe g K M=>fY.wSs Φ mb e g K R M K Xe) N m env3 G3,λaW H3 h=>⟨m,Ā _,h⟩,?_⟩;have kk:=k1.trans k2;refine⟨ĳ,G2,_,R,N,_,Xe,p.go kk g2<|e1.keep k2,by simpa using q,⟨λaI dG G5 H5 k5 g5 e5 w5=>⟨aI,G5,kk.trans k5,g5,e5,w5⟩,(c.go kk).rt,(c.go kk).nx,λaI dG G5 H5 k5 g5 e5 w5=>⟨aI,G5,kk.trans k5,g5,e5,w5⟩⟩⟩
   |false=>exact c.nx ĳ Ŀ G2 H2 (k1.trans k2) g2 (e1.keep k2) (by simpa using q)
def LQ:fM i .len λxs H Q=>((∃p ys,xs=[.ref p]/\(fP i.K H p ys\/fQ i.K H p ys)/\Q (.int ys.length) H)\/∃z,xs=[.str z]/\z.length<=Ú/\Q (.int z.length) H)\/∃a kvs,xs=[V.ref a]/\H a=d7 (.dK kvs)/\Q (.int kvs.length) H:=by
 intro vs G H xs Q Qm g r w c;obtain⟨v,rfl,w⟩:=Xs w;obtain⟨x,rfl,rx⟩:=r.inv1;cases v with
 |ref a =>
  cases rx.ref_inv
  replace w:(match G a with|some (.lst xs)=>.val (.int xs.length)|some (.dct kvs)=>.val (.int kvs.length)|_=>.no:fY.Rs).wp G Qm:=w
  cases z:G a with
  |none=>rw[z]at w;exact(Ze w).elim
  |some o =>
   rw[z]at w;cases o with
   |lst ys =>obtain⟨us,h1,h2⟩:=g a _ z;refine .inl<|.inl ⟨a,us,rfl,.inl<|fP.of h1,?_⟩;rw[<-h2.length];exact c _ G H _ (eZ.refl H) g (.int _)<|Zi w
   |dct kvs =>obtain⟨ps,h1,h2⟩:=g a _ z;refine .inr ⟨a,ps,rfl,h1,?_⟩;rw[<-h2.length];exact c _ G H _ (eZ.refl H) g (.int _)<|Zi w
   |_=>exact(Ze w).elim
 |tup ys =>
  cases rx with
  |tup hp hr =>refine .inl<|.inl ⟨_,_,rfl,.inr<|Zj hp,?_⟩;rw[<-hr.length];exact c _ G H _ (eZ.refl H) g (.int _)<|Zi w
 |scr ns =>
  cases rx with
  |scr h =>refine .inl<|.inl ⟨_,_,rfl,.inl<|Yp h,?_⟩;rw[À];exact c _ G H _ (eZ.refl H) g (.int _)<|Zi w
 |str s =>cases rx.str_inv;obtain⟨hl,w⟩:=WX w;refine .inl (.inr ⟨_,rfl,by rw[ZF];exact ß hl ZT,?_⟩);rw[ZF];exact c _ G H _ (eZ.refl H) g (.int _)<|Zi w
 |_=>exact(Ze w).elim
def Fd:fM i .list λxs H Q=>∃p ys,xs=[.ref p]/\(fP i.K H p ys\/fQ i.K H p ys)/\∀l,H l=d8->Q (.ref l) (upd H l<|.lst ys):=by
 intro vs G H xs Q Qm g r w c;obtain⟨v,rfl,w⟩:=Xs w;obtain⟨x,rfl,rx⟩:=r.inv1;cases v with
 |ref a =>cases rx.ref_inv;obtain⟨ys,e,w⟩:=Nc (f:=λxs=>.new<|.lst xs) w;obtain⟨us,h1,h2⟩:=g a _ e;exact⟨a,us,rfl,.inl<|fP.of h1,YZ g (Oi w) c λp hp=>⟨_,ej,h2.keep<|eZ.new hp⟩⟩
 |tup ys =>
  cases rx with
  |tup hp hr=>exact⟨_,_,rfl,.inr<|Zj hp,YZ g (Oi w) c λp hp=>⟨_,ej,hr.keep<|eZ.new hp⟩⟩
 |_=>exact(Ze w).elim
variable {H:Hp}
def AZ{K:Frag}:∀{xs:List fY.Val}{bs:List Bool}{vs:List V},fY.blsOf xs=d7 bs->RVs K H xs vs->vs=bs.map V.bl:=by
 intro xs;induction xs with
 |nil=>intro bs vs e r;cases e;cases r;rfl
 |cons v xs ih =>
  intro bs vs e r;cases v<;>first|(cases e;done)|skip
  case bl b =>
  simp only[fY.blsOf]at e;cases z:fY.blsOf xs with
  |none=>rw[z]at e;cases e
  |some ns=>rw[z]at e;cases e;cases r with|cons a t=>cases a.bl_inv;rw[ih z t];rfl
def HH{o:Option fY.Val}{h:fY.Hs}{Q:fY.Q1}(w:(fY.Rs.ofO o).wp h Q):∃v,o=d7 v/\Q v h:=by
 cases o with
 |none=>exact(Ze w).elim
 |some v=>exact⟨v,rfl,Zi w⟩
def Lo:fM i .all λxs H Q=>∃p,∃bs:List Bool,xs=[.ref p]/\fP i.K H p (bs.map V.bl)/\Q (.bl<|bs.all id) H:=by
 intro vs G H xs Q Qm g r w c;obtain⟨v,rfl,w⟩:=Xs w;obtain⟨x,rfl,rx⟩:=r.inv1;cases v with
 |ref a =>cases rx.ref_inv;obtain⟨v,e,w⟩:=HH w;obtain⟨ys,z,e⟩:=á.mp e;obtain⟨bs,z2,rfl⟩:=Ð.mp e;obtain⟨us,h1,h2⟩:=ZM g z;have:=AZ z2 h2;subst this;exact⟨a,bs,rfl,h1,c _ G H _ (eZ.refl H) g (.bl _) w⟩
 |_=>exact(Ze w).elim
def Ij:fM i .abs λxs H Q=>∃i,xs=[.int i]/\Q (.int<|if i<0 then -i else i) H:=by
 intro vs G H xs Q Qm g r w c;obtain⟨v,rfl,w⟩:=Xs w;obtain⟨x,rfl,rx⟩:=r.inv1;cases v with
 |int a=>cases rx.int_inv;exact⟨a,rfl,c _ G H _ (eZ.refl H) g (.int _)<|Zi w⟩
 |_=>exact(Ze w).elim
set_option exponentiation.threshold 2000 in
def IN{k:Int}(h:k.natAbs<10 ^ 200):k.natAbs.log2<1920:=by
 have e:(10:Nat) ^ 200<2 ^ 1920:=by decide
 by_cases h0:k.natAbs=0
 .rw[h0];decide
 .exact(Nat.log2_lt h0).mpr<|ž h e
def BL(ds:List fY.D)(d:fY.D):(toDs ds).any (λe=>ĥ e<|toD d)=ds.any λe=>fY.D.eqv e d:=by
 induction ds with
 |nil=>rfl
 |cons e es ih=>simp only[toDs,Ĩ,ih,M6]
variable {G:fY.Hs} {y:V} {ys:List fY.Val}
def UN(g:RH i G H){v u:fY.Val}{x:V}{c:Bool}(rx:RV i.K H v x)(e:fY.inL G v ys=d7 c)(hy:∀ds,ys.mapM (fY.dat G<|fY.deep - 1)=d7 ds->IsD i.K H y (.tuple<|toDs ds)\/IsD i.K H y (.list<|toDs ds)) :
  ∃ds d,(IsD i.K H y (.tuple ds)\/IsD i.K H y (.list ds))/\IsD i.K H x d/\ŋ ds=d9/\d.canLay0=d9/\d.depth<=64/\ds.any (λe=>ĥ e d)=c:=by
 unfold fY.inL at e;cases z:fY.dat G fY.deep v with
 |none=>rw[z]at e;cases e
 |some d =>
  rw[z]at e;simp only[ò]at e;cases z2:ys.mapM (fY.dat G<|fY.deep - 1)with
  |none=>rw[z2]at e;cases e
  |some ds =>rw[z2]at e;cases e;exact⟨_,_,hy ds z2,Ws g _ _ _ _ z rx,toDs_lay ds,MQ d,ß (Ma _ _ _ z) (by decide),BL ds d⟩
def Ui(g:RH i G H){u:fY.Val}(ry:RV i.K H u y)(hu:u=.tup ys\/∃a,u=.ref a/\fY.eR (G a)=d7 ys):∀ds,ys.mapM (fY.dat G<|fY.deep - 1)=d7 ds->IsD i.K H y (.tuple<|toDs ds)\/IsD i.K H y (.list<|toDs ds):=by
 intro ds hd;rcases hu with rfl|⟨a,rfl,hl⟩
 .left;have:=Ws g fY.deep (.tup ys) (.tup ds) y (by show Option.map _ (List.mapM (fY.dat G<|fY.deep - 1) ys)=_;rw[hd];rfl) ry;simpa[toD]using this
 .right;have:=Ws g fY.deep (.ref a) (.lst ds) y (by show(fY.eR<|G a).bind _=_;rw[hl];show Option.map _ (List.mapM (fY.dat G<|fY.deep - 1) ys)=_;rw[hd];rfl) ry;simpa[toD]using this
def Iz(s t:String)(c:Char)(h:fY.oneC s=d7 c):(!(Builtin.Str.occurrences (gh t) (gh s) 0 (gh t).length 1).isEmpty)=gg (c∈t.toList):=by
 have e:gh s=⟨#[c.toNat]⟩:=by
  unfold fY.oneC at h;split at h
  .rename_i d hd;cases h;rw[Str.ofString_eq_toList,hd];rfl
  .cases h
 rw[e,StrLaws.found_one,Bn];have inj:∀{a b:Char},a.toNat=b.toNat->a=b:=λ{a b} e=>Char.ext<|bg e;by_cases hc:c∈t.toList
 .rw[gb hc,gc];exact û hc
 .rw[f9 hc,decide_eq_false_iff_not];intro m;obtain⟨d,hd,he⟩:=å.mp m;exact hc<|inj he▸hd
abbrev RF(K:Frag):R2:=λx y H Q=>FL ee x y H Q\/Fk K ee x y H Q\/∃i j,x=.str i/\y=.str j/\Q (.bl (!(Builtin.Str.occurrences j i 0 j.length 1).isEmpty)) H
abbrev QU(K:Frag):R2:=λx y H Q=>FL d9 x y H Q\/Fk K d9 x y H Q\/∃i j,x=.str i/\y=.str j/\Q (.bl (!(!(Builtin.Str.occurrences j i 0 j.length 1).isEmpty))) H
def Sn(hu:X.A.units+65<Ě):OpR X (ë .In)<|RF X.K:=(HK<|by lia).or ((L6 hu).or Aw)
def SH(hu:X.A.units+65<Ě):OpR X (ë .NotIn)<|QU X.K:=(Ll<|by lia).or ((AL hu).or MD)
def Hm{v u:fY.Val}{G:fY.Hs}{H:Hp}{x y:V}{b:Bool}(g:RH i G H)(rx:RV i.K H v x)(ry:RV i.K H u y)(e:fY.inV G v u=d7 b) :
  (∃ds d,(IsD i.K H y (.tuple ds)\/IsD i.K H y (.list ds))/\IsD i.K H x d/\ŋ ds=d9/\d.canLay0=d9/\d.depth<=64/\ds.any (λe=>ĥ e d)=b)\/
  (∃j k,x=.str j/\y=.str k/\(!(Builtin.Str.occurrences k j 0 k.length 1).isEmpty)=b)\/∃a o,y=.ref a/\DGet H a x o/\o.isSome=b:=by
 cases u with
 |tup ys=>exact .inl<|UN (u:=.tup ys) g rx e<|Ui g ry<|.inl rfl
 |ref a =>
  replace e:(match G a with|some (.lst xs)=>fY.inL G v xs|some (.dct kvs)=>if fY.eX v then d7 (fY.fc kvs v)else d8|some (.frz kvs)=>if fY.eX v then d7 (fY.fc kvs v)else d8|some (.dtp kvs)=>if fY.isKeyT v then d7 (fY.fc kvs v)else d8|_=>d8)=d7 b:=e
  cases z:G a with
  |none=>rw[z]at e;cases e
  |some o =>
   rw[z]at e;cases o with
   |lst ys=>exact .inl (UN (u:=.ref a) g rx e<|Ui g ry<|.inr ⟨a,rfl,by rw[z];rfl⟩)
   |dct kvs =>obtain⟨hk,e⟩:=Zs (show(if fY.eX v then d7 (fY.fc kvs v)else d8)=d7 b from e);cases e;obtain⟨ps,h1,h2⟩:=g a _ z;obtain⟨d,kr,rfl⟩:=eU hk rx;exact .inr (.inr ⟨a,_,ry.ref_inv,DGet.k h1,by rw[h2.has kr,Xw]⟩)
   |frz kvs =>obtain⟨hk,e⟩:=Zs (show(if fY.eX v then d7 (fY.fc kvs v)else d8)=d7 b from e);cases e;obtain⟨ob,ps,h1,h2⟩:=g a _ z;obtain⟨d,kr,rfl⟩:=eU hk rx;exact .inr (.inr ⟨a,_,ry.ref_inv,.inl ⟨ps,d,.inr ⟨ob,h1⟩,rfl,rfl⟩,by rw[h2.has kr,Xw]⟩)
   |dtp kvs =>obtain⟨hk,e⟩:=Zs (show(if fY.isKeyT v then d7 (fY.fc kvs v)else d8)=d7 b from e);cases e;obtain⟨ps,h1,h2⟩:=g a _ z;obtain⟨k1,k2,d,rfl,rfl,hd⟩:=Jn hk rx;exact .inr (.inr ⟨a,_,ry.ref_inv,DGet.t h1 hd,by rw[h2.has,Xw]⟩)
   |_=>cases e
 |str t =>
  cases v with
  |str s =>obtain⟨c,z,rfl⟩:=Ð.mp e;exact .inr<|.inl ⟨_,_,rx.str_inv,ry.str_inv,Iz s t c z⟩
  |_=>cases e
 |_=>cases e
def F6{o:Option Bool}{b:Bool}(e:o.map (!·)=d7 b):o=d7 (!b):=by obtain⟨c,z,rfl⟩:=Ð.mp e;rw[z,ϲ]
def SA:Z5 i .isin<|RF i.K:=by
 intro v u G H x y c Q g rx ry e q;rcases Hm g rx ry e with⟨ds,d,h1,h2,h3,h4,h5,h6⟩|⟨j,k,h1,h2,h3⟩|⟨a,o,h1,h2,h3⟩
 .exact .inr (.inl ⟨ds,d,h1,h2,h3,h4,h5,by show Q (.bl<|List.any _ _) H;rw[h6];exact q⟩)
 .exact .inr (.inr ⟨j,k,h1,h2,by rw[h3];exact q⟩)
 .exact .inl ⟨a,o,h1,h2,by rw[h3,aK];exact q⟩
def Sj:Z5 i .notin<|QU i.K:=by
 intro v u G H x y c Q g rx ry e q;rcases Hm g rx ry (F6 e)with⟨ds,d,h1,h2,h3,h4,h5,h6⟩|⟨j,k,h1,h2,h3⟩|⟨a,o,h1,h2,h3⟩
 .exact .inr (.inl ⟨ds,d,h1,h2,h3,h4,h5,by show Q (.bl (!List.any _ _)) H;rw[h6,ϲ];exact q⟩)
 .exact .inr (.inr ⟨j,k,h1,h2,by rw[h3,ϲ];exact q⟩)
 .exact .inl ⟨a,o,h1,h2,by rw[h3,bj,ϲ];exact q⟩
variable {a:Expr} {b:Expr} {d:Expr} {ma:fY.E} {mb:fY.E} {op:bR} {cW:bR} {cop:fY.Cop} {cop':fY.Cop} {r:R2} {r':R2} {æ:Pos}
def GP{md:fY.E}(ho:OpR X (ë op) r)(hr:Z5 i cop r)(ae:OpR X (ë cW) r')(hr':Z5 i cop' r')(ha:PE X a<|tE X i Φ ma)(hb:PE X b<|tE X i Φ mb)(hd:PE X d<|tE X i Φ md)(hm:aS [op,cW] [b,d]=ee) :
  PE X (.Compare a [op,cW] [b,d] æ) (tE X i Φ<|.chain cop cop' ma mb md) :=
 (Cw ho ae ha hb hd hm).imp λσ H Q ⟨env,G,Qm,Em,p,w,k⟩=>by
  exact two p w λv u G2 H2 x y k2 p2 rx ry q=>by
   obtain⟨c,e,q⟩:=eC q;refine hr v u G2 H2 x y c _ p2.hp rx ry e ⟨c,rfl,?_⟩;cases c with
   |true =>
    rw[fZ rfl]at q ⊢;exact one p2 q λt G3 H3 z k3 p3 rz q=>by obtain⟨d2,e2,q⟩:=eC q;exact hr' u t G3 H3 y z d2 Q p3.hp (ry.keep k3) rz e2<|k (.bl d2) G3 H3 (.bl d2) (k2.trans k3) p3.hp (.bl d2) q
   |false =>rw[f8 ø]at q ⊢;exact k _ G2 H2 _ k2 p2.hp (.bl _) q
def Ef{md:fY.E}(ho:OpR X (ë op) r)(hr:Z5 i cop r)(ae:OpR X (ë cW) r')(hr':Z5 i cop' r')(ha:PE X a<|tE X i Φ ma)(hb:PE X b<|tE X i Φ mb)(hd:PE X d<|tE X i Φ md)(hm:aS [op,cW] [b,d]=ee) :
  PT X (.Compare a [op,cW] [b,d] æ) (tTt X i Φ<|.val<|.chain cop cop' ma mb md) :=
 (Bs ho ae ha hb hd hm).imp λσ H Q ⟨env,G,Qm,Em,p,w,k⟩=>by
  exact two p w λv u G2 H2 x y k2 p2 rx ry q=>by
   obtain⟨c,e,q⟩:=eC q;refine hr v u G2 H2 x y c _ p2.hp rx ry e ⟨c,rfl,?_⟩;cases c with
   |true =>
    rw[fZ rfl]at q ⊢;exact one p2 q λt G3 H3 z k3 p3 rz q=>by obtain⟨d2,e2,q⟩:=eC q;obtain⟨d3,e3,q⟩:=eC q;cases e3;exact hr' u t G3 H3 y z d2 _ p3.hp (ry.keep k3) rz e2 ⟨d2,rfl,k d2 G3 H3 (k2.trans k3) p3.hp q⟩
   |false =>rw[f8 ø]at q ⊢;obtain⟨d3,e3,q⟩:=eC q;cases e3;exact⟨ee,rfl,k _ G2 H2 k2 p2.hp q⟩
def D3{st:Ģ}:PS X st<|tSt X i Φ .never:=λÁ s σ H D I ⟨env,G,N,R,B,C,Xe,p,w,c⟩=>by exact w.elim
end Snd
namespace L2
open PySem PySem.Spec PyProof.Rows
def GV{x:V}{xs:List V}{ì:List Â}(hl:(x::xs).length=ì.length):(ì.toArray.size != (#[]:Array Â).size)=d9:=by
 cases ì with
 |nil=>cases hl
 |cons y ys=>simp
section
variable {X:Cx}
abbrev GA(K:Frag)(n:Bool):R2:=λx y H Q=>∃a b xs,x=.ref a/\y=.ref b/\fP K H a xs/\fP K H b []/\Q (.bl<|n ^^ xs.isEmpty) H
def D6(hu:X.A.units+64<Ě):OpR X (ë .Eq)<|GA X.K ee:=by
 intro Á s σ H x y v u Q I rx ry h;obtain⟨a,b,xs,rfl,rfl,ha,hb,q⟩:=h;cases rx;cases ry;obtain⟨ì,rv,pl,_⟩:=I.list ha;obtain⟨al,rv2,pl2,_⟩:=I.list hb;cases rv2;have hl:=rv.length;cases xs with
 |nil =>have:ì=[]:=Ţ.mp hl.symm;subst this;exact SeqAt.RcAt.lists (A:=X.A) (e:=λ_=>d9) pl.isList pl2.isList rfl (by lia) (λj j1 _=>by simp at j1) X.prog X.w X.xe _ ⟨.bl d9,H,I,rfl,q⟩
 |cons x xs =>exact SeqAt.RcAt.lists_lengths (A:=X.A) pl.isList pl2.isList (GV hl) (by lia) X.prog X.w X.xe _ ⟨.bl ee,H,I,rfl,q⟩
def BK(hu:X.A.units+64<Ě):OpR X (ë .NotEq)<|GA X.K d9:=by
 intro Á s σ H x y v u Q I rx ry h;obtain⟨a,b,xs,rfl,rfl,ha,hb,q⟩:=h;cases rx;cases ry;obtain⟨ì,rv,pl,_⟩:=I.list ha;obtain⟨al,rv2,pl2,_⟩:=I.list hb;cases rv2;have hl:=rv.length;cases xs with
 |nil =>have:ì=[]:=Ţ.mp hl.symm;subst this;exact SeqAt.RcNeAt.lists (A:=X.A) (e:=λ_=>d9) pl.isList pl2.isList rfl (by lia) (λj j1 _=>by simp at j1) X.prog X.w X.xe _ ⟨.bl ee,H,I,rfl,q⟩
 |cons x xs =>exact SeqAt.RcNeAt.lists_lengths (A:=X.A) pl.isList pl2.isList (GV hl) (by lia) X.prog X.w X.xe _ ⟨.bl d9,H,I,rfl,q⟩
end
end L2
namespace Snd
open PySem L2
variable {i:Inf}{G:fY.Hs}{H:Hp}
variable {x:V} {xs:List fY.Val}
def WE(g:RH i G H){v:fY.Val}(r:RV i.K H v x)(e:fY.asLst G v=d7 xs):∃a vs,x=.ref a/\fP i.K H a vs/\RVs i.K H xs vs:=by
 cases v with
 |ref a =>cases r;obtain⟨vs,h1,h2⟩:=ZM g e;exact⟨a,vs,rfl,h1,h2⟩
 |_=>cases e
def Nh(g:RH i G H){v u:fY.Val}{y:V}(rx:RV i.K H v x)(ry:RV i.K H u y){c:Bool}{f:List fY.Val->List fY.Val->Option Bool}(e:((fY.asLst G v).bind λxs=>(fY.asLst G u).bind λys=>f xs ys)=d7 c):∃xs ys a b vs us,f xs ys=d7 c/\x=.ref a/\y=.ref b/\fP i.K H a vs/\fP i.K H b us/\RVs i.K H xs vs/\RVs i.K H ys us:=by
 cases z:fY.asLst G v with
 |none=>rw[z]at e;cases e
 |some xs =>
  cases z2:fY.asLst G u with
  |none=>rw[z,z2]at e;cases e
  |some ys =>rw[z,z2]at e;obtain⟨a,vs,h1,h2,h3⟩:=WE g rx z;obtain⟨b,us,k1,k2,k3⟩:=WE g ry z2;exact⟨xs,ys,a,b,vs,us,e,h1,k1,h2,k2,h3,k3⟩
def O4{vs:List V}(h:RVs i.K H xs vs):vs.isEmpty=xs.isEmpty:=by cases h<;>rfl
def c_eqE:Z5 i .eqE<|GA i.K ee:=by
 intro v u G H x y c Q g rx ry e q;obtain⟨xs,ys,a,b,vs,us,e,h1,h2,h3,h4,h5,h6⟩:=Nh g rx ry e;split at e
 .rename_i z;cases e;cases h6 with
  |nil=>exact⟨a,b,vs,h1,h2,h3,h4,by rw[O4 h5,aK];exact q⟩
  |cons _ _=>cases z
 .cases e
def c_neE:Z5 i .neE<|GA i.K d9:=by
 intro v u G H x y c Q g rx ry e q;obtain⟨xs,ys,a,b,vs,us,e,h1,h2,h3,h4,h5,h6⟩:=Nh g rx ry e;split at e
 .rename_i z;cases e;cases h6 with
  |nil=>exact⟨a,b,vs,h1,h2,h3,h4,by rw[O4 h5,bj];exact q⟩
  |cons _ _=>cases z
 .cases e
variable {i:Inf}{X:Cx}{Φ:fY.Fs}
def RVs.strs{K:Frag}{H:Hp}:∀ss:List String,RVs K H (ss.map fY.Val.str) ((ss.map gh).map V.str)
 |[]=>.nil
 |s::ss=>.cons (.str s)<|RVs.strs ss
abbrev tPt(X:Cx)(i:Inf)(Φ:fY.Fs)(m:fY.E):TE:=λσ H Q=>∃env G Qm Em,Pre X i σ H env G Em/\fY.wE Φ m env G Qm Em/\∀v G' H',eZ H H'->RH i G' H'->Qm v G'->∃s,fY.fmtV v=d7 s/\s.length<=fY.lim/\Q (.str<|gh s) H'
abbrev tJs(X:Cx)(i:Inf)(Φ:fY.Fs)(ms:fY.Es):TJ:=λσ H Ĭ Q=>∃env G a Qm Em,Ĭ=gh a/\a.length<=fY.lim/\Pre X i σ H env G Em/\fY.wJ Φ ms env G a Qm Em/\∀s G' H',eZ H H'->RH i G' H'->Qm s G'->Q (gh s) H'
def _root_.L2.PJ.imp{vs:List Expr}{t t':TJ}(h:PJ X vs t)(f:∀σ H Ĭ Q,t' σ H Ĭ Q->t σ H Ĭ Q):PJ X vs t':=λÁ s σ H Ĭ Q I q=>h Á s σ H Ĭ Q I (f σ H Ĭ Q q)
variable {e:Expr} {m:fY.E} {æ:Pos}
def HY(he:PE X e<|tE X i Φ m):PE X (.FormattedValue e (-1) d8 æ) (tPt X i Φ m) :=
 (E2 he).imp λσ H Q ⟨env,G,Qm,Em,p,w,c⟩=>by
  refine⟨env,G,Qm,Em,p,w,λv G1 H1 x k1 g1 r1 w1=>?_⟩;obtain⟨s,e1,hl,q⟩:=c v G1 H1 k1 g1 w1;cases v with
  |str t=>cases e1;cases r1.str_inv;exact .inr ⟨_,rfl,by rw[ZF];exact ß hl ZT,q⟩
  |int n =>
   cases r1.int_inv;simp only[fY.fmtV]at e1;split at e1
   .rename_i hn;cases e1;exact .inl ⟨n,rfl,IN hn,q⟩
   .cases e1
  |_=>cases e1
def Ih{s:String}{j:Nat}:PE X (.Constant (.str<|gh s) j æ) (tPt X i Φ<|.cst<|.str s) :=
 pe_str.imp λσ H Q ⟨env,G,Qm,Em,p,w,c⟩=>by obtain⟨t,e1,hl,q⟩:=c _ G H (eZ.refl H) p.hp w;cases e1;exact q
def LK:PJ X []<|tJs X i Φ .nil:=pj_nil.imp λσ H Ĭ Q ⟨env,G,a,Qm,Em,e,hl,p,w,c⟩=>by subst e;exact⟨by rw[ZF];exact ß hl ZT,c a G H (eZ.refl H) p.hp w⟩
def UU{es:List Expr}{ms:fY.Es}(he:PE X e<|tPt X i Φ m)(hr:PJ X es<|tJs X i Φ ms)(hs:bW (e::es) X.env=eval e X.env::bW es X.env):PJ X (e::es) (tJs X i Φ<|.cons m ms) :=
 (Fj he hr hs).imp λσ H Ĭ Q ⟨env,G,a,Qm,Em,e,hl,p,w,c⟩=>by subst e;refine⟨env,G,_,Em,p,w,λv G1 H1 k1 g1 w1=>?_⟩;obtain⟨s,e1,hl1,w2⟩:=eC w1;clear w1;refine⟨s,e1,by lia,_,rfl,?_,env,G1,a++s,Qm,Em,(Mz a s).symm,by rw[bO];exact hl1,p.go k1 g1,w2,λt G2 H2 k2=>c t G2 H2<|k1.trans k2⟩;rw[<-Mz,ZF,bO];exact ß hl1 ZT
def XF{G:fY.Hs}{H:Hp}{p:È}{o:HO}(g:RH i G H)(hp:H p=d8):RH i G<|upd H p o:=g.hid (eZ.new hp) λb u e=>ei (by rintro rfl;rw[g.free hp]at e;cases e)
abbrev tE0(i:Inf)(Φ:fY.Fs)(m:fY.E):TE:=λσ H Q=>∃env G Qm,REn i.K H env σ/\RH i G H/\fY.wE Φ m env G Qm (λ_ _=>False)/\Cn i H Q Qm
abbrev tT0(i:Inf)(Φ:fY.Fs)(m:fY.Tt):TT:=λσ H Q=>∃env G Qm,REn i.K H env σ/\RH i G H/\fY.wT Φ m env G Qm (λ_ _=>False)/\∀b G' H',eZ H H'->RH i G' H'->Qm b G'->Q b H'
variable {H:Hp}
def Ub:XOk X i H λ_ _=>False:=λÁ σ H0 s H' a cls s' I f ⟨_,_,_,_,_,_,_,z⟩=>z.elim
variable {e:Expr}
def pe0{m:fY.E}(h:PE X e<|tE X i Φ m):PE X e<|tE0 i Φ m:=h.imp λσ H Q ⟨env,G,Qm,r,g,w,c⟩=>⟨env,G,Qm,_,⟨r,g,Ub⟩,w,c⟩
def pt0{m:fY.Tt}(h:PT X e<|tTt X i Φ m):PT X e<|tT0 i Φ m:=h.imp λσ H Q ⟨env,G,Qm,r,g,w,c⟩=>⟨env,G,Qm,_,⟨r,g,Ub⟩,w,c⟩
def _root_.L2.PIfs.imp{es:List Expr}{t t':TT}(h:PIfs X es t)(f:∀σ H Q,t' σ H Q->t σ H Q):PIfs X es t':=λÁ s σ H Q I q=>h Á s σ H Q I (f σ H Q q)
def HX:PIfs X []<|tT0 i Φ .yes:=pifs_nil.imp λσ H Q ⟨env,G,Qm,r,g,w,c⟩=>by exact c d9 G H (eZ.refl H) g w
variable {ö:List Nat}
def FF{K:Frag}{H':Hp}{env:fY.Env}{σ:St}{k:Nat}(r:REn K H env σ)(kp:eZ H H'):REn K H' (Ø k d8++ö.map λj=>(env[j]?).getD d8)<|Ø k d8++OS σ ö:=by
 refine⟨by simp[OS],λn u e=>?_⟩;by_cases hn:n<k
 .rw[þ (by rw[ñ];exact hn),Ņ,fZ hn]at e;cases e
 .rw[ă (by rw[ñ];lia),ñ]at e ⊢;generalize n - k=n at e ⊢;simp only[Õ]at e;cases z:ö[n]? with
  |none=>rw[z]at e;cases e
  |some j =>
   rw[z]at e;simp only[Ĺ,ı]at e;cases z2:env[j]? with
   |none=>rw[z2]at e;cases e
   |some o =>rw[z2]at e;have e:o=d7 u:=e;subst e;obtain⟨y,h1,h2⟩:=r.get j u z2;exact⟨y,by unfold OS;rw[Õ,z];show d7 ((σ[j]?).getD d8)=_;rw[h1];rfl,h2.keep kp⟩
abbrev Oh(k:Nat):fY.Pt->Bool
 |.one j=>gg (j<k)
 |.many js=>js.all λj=>gg (j<k)
 |.nest _ _=>ee
def K7{r:fY.Env}:∀{js:List Nat}{vs:List fY.Val}{l Ō:fY.Env},(js.all λj=>gg (j<l.length))=d9->fY.bindL js vs (l++r)=d7 Ō->∃l',Ō=l'++r/\l'.length=l.length
 |[],[],l,_,_,e=>by cases e;exact⟨l,rfl,rfl⟩
 |j::js,v::vs,l,_,h,e=>by rw[List.all_cons,bAq,gc]at h;have e:fY.bindL js vs ((l++r).set j<|d7 v)=_:=e;rw[cD _ _ h.1]at e;obtain⟨l',h1,h2⟩:=K7 (l:=l.set j<|d7 v) (by rw[Ŵ];exact h.2) e;exact⟨l',h1,by rw[h2,Ŵ]⟩
 |[],_::_,_,_,_,h=>by cases h
 |_::_,[],_,_,_,h=>by cases h
variable {l:fY.Env} {r:fY.Env}
def CY{p:fY.Pt}{G:fY.Hs}{v:fY.Val}{Ō:fY.Env}(h:Oh l.length p=d9)(e:fY.bind p G v (l++r)=d7 Ō):∃l',Ō=l'++r/\l'.length=l.length:=by
 cases p with
 |one j =>have e:d7 ((l++r).set j<|d7 v)=d7 Ō:=e;cases e;exact⟨l.set j<|d7 v,by rw[cD _ _<|of_decide_eq_true h],Ŵ⟩
 |many js =>
  cases v with
  |tup vs=>exact K7 h e
  |_=>cases e
 |nest j js=>cases h
def REn.pre{K:Frag}{τ:St}(q:REn K H (l++r) τ):REn K H (Ø l.length d8++r) τ:=by
 refine⟨by rw[<-q.len];simp,λn u e=>?_⟩;by_cases hn:n<l.length
 .rw[þ (by rw[ñ];exact hn),Ņ,fZ hn]at e;cases e
 .rw[ă (by rw[ñ];lia),ñ]at e;exact q.get n u (by rw[ă<|by lia];exact e)
def UK{k:Nat}{pt:fY.Pt}(hk:Oh k pt=d9){mi:fY.It}{mt:fY.Tt}{me:fY.E}:∀σ H Q,tE X i Φ (.comp ö k pt mi mt me) σ H Q->C3 (tIt X i Φ mi) k ö (gPt i pt) (tT0 i Φ mt) (tE0 i Φ me) σ H Q:=λσ H Q ⟨env,G,Qm,Em,p,w,c⟩=>by
 refine⟨env,G,_,Em,p,w,λst xs G1 H1 J k1 g1 it w1=>?_⟩;obtain⟨hl,w1⟩:=w1;generalize hstep:(λ(v:fY.Val) (h2:fY.Hs) (K:Option fY.Val->fY.Hs->Prop) (X2:fY.XQ)=>fY.go (fY.bind pt h2 v<|Ø k d8++ö.map λj=>(env[j]?).getD d8) λŌ =>
       fY.wT Φ mt Ō h2 (λk h3=>if k=d9 then fY.wE Φ me Ō h3 (λu h4=>K (d7 u) h4) X2 else K d8 h3) X2)=step at w1
 refine⟨λn m ys τ H'=>n+m=xs.length/\ys.length<=n/\REn i.K H' (Ø k d8++ö.map λj=>(env[j]?).getD d8) τ/\∃Ĭ G',eZ H1 H'/\RH i G' H'/\RVs i.K H' Ĭ ys/\fY.wComp st step (xs.drop n) Ĭ G' (λys h5=>fY.new h5 (.lst ys) Qm) (λ_ _=>False),⟨xs.length,by lia,by simp,FF p.en k1,[],G1,eZ.refl _,g1,.nil,by simpa using w1⟩,?_⟩;rintro n m ys τ H' ⟨hnm,hly,en2,Ĭ,G',k2,g2,r2,w2⟩;refine⟨è (Ñ (ß hly<|by lia) hl) ZT,?_⟩;by_cases hn:n<xs.length
 .right;have hd:xs.drop n=xs[n]::xs.drop (n+1):=υ hn;rw[hd]at w2;obtain⟨s2,w2⟩:=w2;have hv:xs[n]?=d7 xs[n]:=Ê hn;obtain⟨a1,a2⟩:=it.go n G' H' xs[n] k2 g2 s2 hv;refine⟨a1,λys3 τ3 H3=>ys3.length<=n+1/\REn i.K H3 (Ø k d8++ö.map λj=>(env[j]?).getD d8) τ3/\∃acc3 G3,eZ H1 H3/\RH i G3 H3/\RVs i.K H3 acc3 ys3/\fY.wComp st step (xs.drop<|n+1) acc3 G3 (λys h5=>fY.new h5 (.lst ys) Qm) (λ_ _=>False),λys3 τ3 H3 h=>⟨m - 1,by lia,by lia,h.1,h.2⟩,λx H3 hy=>?_⟩;obtain⟨k3,g3,r3⟩:=a2 x H3 hy;rw[<-hstep]at w2;obtain⟨cA,e4,w4⟩:=eC w2;rw[hstep]at w4;obtain⟨l',e5,h5⟩:=CY (l:=Ø k d8) (by rw[ñ];exact hk) e4;rw[ñ]at h5;refine⟨xs[n],_,G',cA,r3,g3,en2.keep k3,e4,λτ4 en4=>?_⟩;have Τ:REn i.K H3 (Ø k d8++ö.map λj=>(env[j]?).getD d8) τ4:=by
   rw[e5]at en4;have:=en4.pre;rw[h5]at this;exact this
  refine⟨_,G',_,en4,g3,w4,λd G5 H5 k5 g5 q5=>?_⟩;have kk:=(k2.trans k3).trans k5;cases d with
  |true =>refine⟨_,G5,_,en4.keep k5,g5,by simpa using q5,λu G6 H6 y k6 g6 r6 q6=>?_⟩;exact⟨by simpa using hly,(Τ.keep k5).keep k6,_,G6,kk.trans k6,g6,((((r2.keep k3).keep k5).keep k6).append<|.cons r6 .nil),q6⟩
  |false =>rw[f8 ø]at q5;change if ee=d9 then _ else _;rw[f8 ø];have q5:fY.wComp st step (xs.drop<|n+1) (Ĭ++[]) G5 (λys h5=>fY.new h5 (.lst ys) Qm) λ_ _=>False:=q5;rw[ð]at q5;exact⟨by lia,Τ.keep k5,Ĭ,G5,kk,g5,(r2.keep k3).keep k5,q5⟩
 .left;have hd:xs.drop n=[]:=ŉ (by lia);rw[hd]at w2;refine⟨it.stop n G' H' k2 g2 w2.1 (by lia),?_⟩;exact YZ g2 w2.2 ((c.go k1).go k2) λq hq=>⟨_,ej,r2.keep<|eZ.new hq⟩
abbrev AG(i:Inf)(m:fY.Bm)(r:V->List V->Hp->VK->Prop):Prop:=∀(v:fY.Val) (vs:List fY.Val) (G:fY.Hs) (H:Hp) (x:V) (xs:List V) (t:fY.Val×fY.Hs) (Q:VK) (Qm:fY.Q1),
 RH i G H->RV i.K H v x->RVs i.K H vs xs->fY.bmV G m v vs=d7 t->Qm t.1 t.2->Cn i H Q Qm->r x xs H Q
abbrev Pz(i:Inf)(m:fY.Bm)(T:String):Prop:=∀(v:fY.Val) (G:fY.Hs) (H:Hp) (x:V),RH i G H->RV i.K H v x->fY.bmTy G m v=d9->tyV i.K T x H
variable {m:fY.Bm}
def BY{o e:Expr}{es:List Expr}{name:Str}{Ĳ ŀ:Pos}{T id:String}{r:V->List V->Hp->VK->Prop}{mo:fY.E}{ms:fY.Es}{n:Nat}(hK:X.K=i.K)(pa:PlainAttrs T)(slot:Slot T name id)(hty:dU (.builtin id)=pure (.type "method_descriptor"))(mt:MtR X id r)(hT:Pz i m T)(hr:AG i m r)
  (ho:PE X o<|tE X i Φ mo) (ha:PA X (e::es)<|tAr X i Φ ms n) (am:ģ o name X.env (eval o X.env)=eval o X.env)
  (ao:((Ċ ŀ<|Ì (e::es) X.env).all (λx=>!x.1)&&(Ŝ ŀ<|ĭ [] X.env).all (λx=>x.1.isSome)&&gg ((e::es).length+([]:List aD).length+(if([]:List aD).isEmpty then 0 else 1)<30))=d9)
  (ap:(Ĳ.endLine==ŀ.line)=d9) (hs:Ì (e::es) X.env=(ee,eval e X.env)::Ì es X.env) (cq:(Ċ ŀ<|Ì es X.env).any (·.1)=ee) :
  PE X (.Call (.Attribute o name Ĳ) (e::es) [] ŀ) (tE X i Φ<|.bm m mo ms) :=
 (Qn pa slot hty mt ho ha am ao ap hs cq).imp λσ H Q ⟨env,G,Qm,Em,p,w,c⟩=>by
  refine one p w λv G1 H1 x k1 p1 rv q=>⟨by rw[hK];exact hT v G1 H1 x p1.hp rv q.1,env,G1,_,Em,p1,q.2,λvs G2 H2 xs k2 g2 r2 _ w2=>?_⟩
  obtain⟨t,e,w3⟩:=eC w2;exact hr v vs G2 H2 x xs t Q Qm g2 (rv.keep k2) r2 e w3<|(c.go k1).go k2
def OI{o:Option fY.Ob}(h:fY.isDct o=d9):(∃xs,o=d7 (.dct xs))\/∃xs,o=d7 (.dtp xs):=by
 cases o with
 |none=>cases h
 |some o=>cases o with
  |dct xs=>exact .inl ⟨xs,rfl⟩
  |dtp xs=>exact .inr ⟨xs,rfl⟩
  |_=>cases h
def RI(hm:m.ty=.l):Pz i m "list":=λv G H x g r h=>by
 unfold fY.bmTy at h;rw[hm]at h;cases v with
 |ref a =>cases r.ref_inv;obtain⟨xs,e⟩:=Ox (show fY.isLst (G a)=d9 from h);obtain⟨vs,h1,_⟩:=g a _ e;exact .inl ⟨rfl,vs,fP.of h1⟩
 |_=>cases h
def IM(hm:m.ty=.d):Pz i m "dict":=λv G H x g r h=>by
 unfold fY.bmTy at h;rw[hm]at h;cases v with
 |ref a =>
  cases r.ref_inv;rcases OI (show fY.isDct (G a)=d9 from h)with⟨xs,e⟩|⟨xs,e⟩
  .obtain⟨vs,h1,_⟩:=g a _ e;exact .inr<|.inr<|.inl ⟨rfl,.inl ⟨vs,h1⟩⟩
  .obtain⟨vs,h1,_⟩:=g a _ e;exact .inr<|.inr<|.inl ⟨rfl,.inr ⟨vs,h1⟩⟩
 |_=>cases h
variable {G:fY.Hs}
def Uk{v:fY.Val}{f:fY.Ad->List fY.Val->Option (fY.Val×fY.Hs)}{t:fY.Val×fY.Hs}(e:fY.bmL G v f=d7 t):∃a xs,v=.ref a/\G a=d7 (.lst xs)/\f a xs=d7 t:=by
 cases v with
 |ref a=>obtain⟨xs,h1,h2⟩:=CN e;exact⟨a,xs,rfl,h1,h2⟩
 |_=>cases e
variable {vs:List fY.Val} {α:Type} {a:α}
def Lw{f:fY.Val->Option α}(e:(match vs with|[v]=>f v|_=>d8)=d7 a):∃v,vs=[v]/\f v=d7 a:=by
 cases vs with
 |nil=>cases e
 |cons v vs=>cases vs with
  |nil=>exact⟨v,rfl,e⟩
  |cons _ _=>cases e
def Ps:AG i .append Uh:=λv vs G H x xs t Q Qm g rx rs e q c=>by obtain⟨a,ys,rfl,e4,e3⟩:=Uk e;obtain⟨u,rfl,e3⟩:=Lw e3;obtain⟨hl,e3⟩:=Zs e3;cases e3;cases rx.ref_inv;obtain⟨y,rfl,ry⟩:=rs.inv1;obtain⟨us,h2,r2⟩:=g a _ e4;obtain⟨k3,g3⟩:=ML (xs:=ys) g h2 (ys++[u]) (us++[y])<|r2.app1 ry;exact⟨a,us,y,rfl,rfl,h2,by rw[<-r2.length];exact è hl ZT,c _ _ _ _ k3 g3 .non q⟩
def EV:AG i .popAt Dr:=λv vs G H x xs t Q Qm g rx rs e q c=>by
 obtain⟨a,ys,rfl,e4,e3⟩:=Uk e;unfold fY.bmPopAt at e3;split at e3
 .rename_i n;obtain⟨hn,e3⟩:=Zs e3;obtain⟨k,z,e3⟩:=á.mp e3;obtain⟨yv,z2,rfl⟩:=Ð.mp e3;cases rx.ref_inv;obtain⟨y,rfl,ry⟩:=rs.inv1;cases ry.int_inv;obtain⟨us,h2,r2⟩:=g a _ e4;obtain⟨xv,hx,rv⟩:=r2.get z2;rw[MU,r2.length]at z;obtain⟨s1,s2,s3,s4⟩:=Ms z;obtain⟨k3,g3⟩:=ML (xs:=ys) g h2 (ys.eraseIdx k) (us.eraseIdx k)<|r2.eraseIdx k;exact⟨a,us,n,k,xv,rfl,rfl,h2,by lia,by lia,s1,hx,c _ _ _ _ k3 g3 (rv.keep k3) q⟩
 .cases e3
def Ml{v:fY.Val}{f:fY.Ad->List (fY.Val×fY.Val)->Option (fY.Val×fY.Hs)}{t:fY.Val×fY.Hs}(e:fY.bmD G v f=d7 t):∃a kvs,v=.ref a/\G a=d7 (.dct kvs)/\f a kvs=d7 t:=by
 cases v with
 |ref a =>
  obtain⟨kvs,h1,h2⟩:=á.mp (show(fY.fT<|G a).bind (f a)=d7 t from e);refine⟨a,kvs,rfl,?_,h2⟩;cases z:G a with
  |none=>rw[z]at h1;cases h1
  |some o =>
   rw[z]at h1;cases o with
   |dct ys=>cases h1;rfl
   |_=>cases h1
 |_=>cases e
def SK{f:fY.Val->fY.Val->Option α}(e:(match vs with|[v,u]=>f v u|_=>d8)=d7 a):∃v u,vs=[v,u]/\f v u=d7 a:=by
 cases vs with
 |nil=>cases e
 |cons v vs=>cases vs with
  |nil=>cases e
  |cons u us=>cases us with
   |nil=>exact⟨v,u,rfl,e⟩
   |cons _ _=>cases e
abbrev D7:V->List V->Hp->VK->Prop:=λx vs H Q=>∃a y o,x=.ref a/\vs=[y]/\DGet H a y o/\Q (o.getD .non) H
def DP(hu:X.A.units+1<Ě):MtR X "dict.get" D7:=by intro Á s σ H x vs v us Q I rx rv h;obtain⟨a,y,o,rfl,rfl,d,q⟩:=h;cases rx;obtain⟨u,rfl,ru⟩:=rv.one;exact Ly hu I d ru λw' s' I' aH=>⟨_,_,I',aH,q⟩
abbrev Dt:V->List V->Hp->VK->Prop:=λx vs H Q=>∃a kvs k v more,x=.ref a/\vs=kV k::more/\(more=[]\/∃z,more=[z])/\H a=d7 (.dK kvs)/\YG kvs k=d7 v/\Q v (upd H a<|.dK<|ff kvs k)
def mt_dpop:MtR X "dict.pop" Dt:=by
 intro Á s σ H x vs v us Q I rx rv h;obtain⟨a,kvs,k,y,more,rfl,rfl,hm,hH,l,q⟩:=h;cases rx;rcases hm with rfl|⟨z,rfl⟩
 .obtain⟨u,rfl,ru⟩:=rv.one;exact Hg I hH ru l (.inl rfl) λw' s' I' aH=>⟨_,_,I',aH,q⟩
 .obtain⟨u,t,rfl,ru,rt⟩:=rv.two;exact Hg I hH ru l (.inr ⟨_,rfl⟩) λw' s' I' aH=>⟨_,_,I',aH,q⟩
abbrev B7:V->List V->Hp->VK->Prop:=λx vs H Q=>∃a kvs k z,x=.ref a/\vs=[kV k,z]/\H a=d7 (.dK kvs)/\YG kvs k=d8/\Q z H
def Cr:MtR X "dict.pop" B7:=by intro Á s σ H x vs v us Q I rx rv h;obtain⟨a,kvs,k,z,rfl,rfl,hH,l,q⟩:=h;cases rx;obtain⟨u,t,rfl,ru,rt⟩:=rv.two;exact HP I hH ru l λs' I'=>⟨_,_,I',rt,q⟩
def Ph:AG i .dget D7:=λv vs G H x xs t Q Qm g rx rs e q c=>by
 obtain⟨a,kvs,rfl,e4,e3⟩:=Ml e;obtain⟨k,rfl,e3⟩:=Lw e3;obtain⟨hk,e3⟩:=Zs e3;cases e3;cases rx.ref_inv;obtain⟨y,rfl,ry⟩:=rs.inv1;obtain⟨ps,h2,r2⟩:=g a _ e4;obtain⟨d,kr,rfl⟩:=eU hk ry;refine⟨a,_,_,rfl,rfl,DGet.k (k:=d) h2,?_⟩;obtain⟨l1,l2⟩:=r2.look kr;cases z:fY.fb kvs k with
 |none=>rw[l2 z];rw[z]at q;exact c _ _ _ _ (eZ.refl H) g .non q
 |some u=>obtain⟨x,hx,rv⟩:=l1 u z;rw[hx];rw[z]at q;exact c _ _ _ _ (eZ.refl H) g rv q
def Lm:AG i .dpop Dt:=λv vs G H x xs t Q Qm g rx rs e q c=>by obtain⟨a,kvs,rfl,e4,e3⟩:=Ml e;obtain⟨k,rfl,e3⟩:=Lw e3;obtain⟨hk,e3⟩:=Zs e3;obtain⟨u,z,rfl⟩:=Ð.mp e3;cases rx.ref_inv;obtain⟨y,rfl,ry⟩:=rs.inv1;obtain⟨ps,h2,r2⟩:=g a _ e4;obtain⟨d,kr,rfl⟩:=eU hk ry;obtain⟨x,hx,rv⟩:=(r2.look kr).1 u z;obtain⟨k3,g3⟩:=MM (kvs:=kvs) g h2<|r2.drop kr;exact⟨a,ps,d,x,[],rfl,rfl,.inl rfl,h2,hx,c _ _ _ _ k3 g3 (rv.keep k3) q⟩
def ON{kvs:List (fY.Val×fY.Val)}{k:fY.Val}(h:fY.fb kvs k=d8):fY.ff kvs k=kvs:=by
 unfold fY.ff;rw[cT];intro p hp;have h2:kvs.find? (λp=>p.1==k)=d8:=by unfold fY.fb at h;exact Option.map_eq_none_iff.mp h
 simpa using List.find?_eq_none.mp h2 p hp
def EU:AG i .dpopD λx vs H Q=>Dt x vs H Q\/B7 x vs H Q:=λv vs G H x xs t Q Qm g rx rs e q c=>by
 obtain⟨a,kvs,rfl,e4,e3⟩:=Ml e;obtain⟨k,dv,rfl,e3⟩:=SK e3;obtain⟨hk,e3⟩:=Zs e3;cases e3;cases rx.ref_inv;obtain⟨y,z,rfl,ry,rz⟩:=rs.inv2;obtain⟨ps,h2,r2⟩:=g a _ e4;obtain⟨d,kr,rfl⟩:=eU hk ry;obtain⟨l1,l2⟩:=r2.look kr;cases z:fY.fb kvs k with
 |none =>
  refine .inr ⟨a,ps,d,_,rfl,rfl,h2,l2 z,?_⟩;rw[z,ON z]at q;have e:fY.upd G a (.dct kvs)=G:=by
   funext b;by_cases hb:b=a
   .subst hb;rw[fY.ej,e4]
   .rw[fY.ei hb]
  rw[e]at q;exact c _ _ _ _ (eZ.refl H) g rz q
 |some u =>obtain⟨x,hx,rv⟩:=l1 u z;obtain⟨k3,g3⟩:=MM (kvs:=kvs) g h2<|r2.drop kr;rw[z]at q;exact .inl ⟨a,ps,d,x,_,rfl,rfl,.inr ⟨_,rfl⟩,h2,hx,c _ _ _ _ k3 g3 (rv.keep k3) q⟩
def RFs.look{K:Frag}{H:Hp}{f:String}:∀{fs:List (String×fY.Val)}{ps:List (Str×V)},RFs K H fs ps->
  (∀v,fs.lookup f=d7 v->∃x,ps.lookup (gh f)=d7 x/\RV K H v x)/\(fs.lookup f=d8->ps.lookup (gh f)=d8)
 |_,_,.nil=>⟨λv e=>(by cases e),λ_=>rfl⟩
 |_,_,.cons (f:=g) (v:=u) (x:=y) r t=>by
  have ih:=RFs.look (f:=f) t;rw[ï,ï];by_cases e:f=g
  .subst e;rw[beq_self_eq_true,beq_self_eq_true];exact⟨λv z=>(by cases z;exact⟨y,rfl,r⟩),λz=>(by cases z)⟩
  .rw[show(f==g)=ee by simpa using e,show(gh f==gh g)=ee by rw[beq_eq_false_iff_ne];exact λz=>e<|ofS_inj.mp z];exact ih
def RFs.put{K:Frag}{H:Hp}{f:String}{v:fY.Val}{x:V}(q:RV K H v x):∀{fs:List (String×fY.Val)}{ps:List (Str×V)},RFs K H fs ps->RFs K H (fY.eV fs f v) (L2.eV (gh f) x ps)
 |_,_,.nil=>.cons q .nil
 |_,_,.cons (f:=g) (v:=u) (x:=y) r t=>by
  unfold fY.eV L2.eV;by_cases e:g=f
  .subst e;rw[fZ rfl,fZ rfl];exact .cons q t
  .rw[f8 e,f8 λz=>e<|ofS_inj.mp z];exact .cons r<|RFs.put q t
def RFs.length{K:Frag}{H:Hp}:∀{fs:List (String×fY.Val)}{ps:List (Str×V)},RFs K H fs ps->fs.length=ps.length
 |_,_,.nil=>rfl
 |_,_,.cons _ t=>by rw[Ç,Ç,RFs.length t]
structure FldOk(i:Inf)(f:String):Prop where
 no:∀C c,i.cl C c->NoAttr i.K c (gh f)
structure IC(K:Frag)(C:È):Prop where
 ha:PySem.W.findIn K (.ref C) "__class__" = d7 (d7<|.builtin "object.__class__")
 hn:PySem.W.specialIn K (.builtin "object.__class__") "__get__" = d7 (d7<|.builtin "getset_descriptor.__get__")
 htk:PySem.W.takesIn K (.builtin "object.__class__")=d7 d9
 hm:PySem.W.mroIn K C (.type "object")=d7 d9
structure ClsA(i:Inf):Prop where
 cls:∀C c,i.ins C=d9->i.cl C c->Cls i.K c
 ic:∀C c,i.cl C c->IC i.K c
 un:∀C a b,i.cl C a->i.cl C b->a=b
def Jt{o:Option fY.Ob}{p:String×List (String×fY.Val)}(h:fY.insOf o=d7 p):o=d7 (.ins p.1 p.2):=by
 cases o with
 |none=>cases h
 |some o=>cases o with
  |ins C fs=>cases h;rfl
  |_=>cases h
variable {G:fY.Hs} {f:String}
def Mb{v u:fY.Val}(h:fY.fx G v f=d7 u):∃a C fs,v=.ref a/\G a=d7 (.ins C fs)/\fs.lookup f=d7 u:=by obtain⟨a,h1,h⟩:=á.mp h;obtain⟨p,h2,h3⟩:=á.mp h;exact⟨a,p.1,p.2,JZ h1,Jt h2,h3⟩
variable {o:Expr} {mo:fY.E} {æ:Pos}
def QB(hK:X.K=i.K)(A:ClsA i)(F:FldOk i f)(ho:PE X o<|tE X i Φ mo)(hb:ģ o (gh f) X.env (eval o X.env)=eval o X.env) :
  PE X (.Attribute o (gh f) æ) (tE X i Φ<|.fld mo f) :=
 (HW ho hb).imp λσ H Q ⟨env,G,Qm,Em,p,w,c⟩=>by
  exact one p w λv G1 H1 x k1 p1 r q=>by obtain⟨u,e,q2⟩:=eC q;clear q;obtain⟨a,C,fs,rfl,e2,e3⟩:=Mb e;cases r.ref_inv;obtain⟨c',dx,ps,hi,hc,h1,rf⟩:=p1.hp a _ e2;obtain⟨y,l,ry⟩:=rf.look.1 u e3;exact⟨a,c',dx,ps,y,rfl,h1,by rw[hK];exact A.cls _ _ hi hc,by rw[hK];exact F.no _ _ hc,l,c _ _ _ _ k1 p1.hp ry q2⟩
variable {C:String}
def U5{H:Hp}{a:È}{c' dx:È}{fs:List (String×fY.Val)}{ps aO:List (Str×V)}(g:RH i G H)(hi:i.ins C=d9)(hc:i.cl C c')(h:H a=d7 (.ins c' dx aO))(r:RFs i.K H fs ps) :
  eZ H (upd H a<|.ins c' dx ps)/\RH i (fY.upd G a<|.ins C fs) (upd H a<|.ins c' dx ps):=by
 have k:eZ H<|upd H a<|.ins c' dx ps:=eZ.put (λxs e=>by rw[h]at e;cases e) λp u e=>by rw[h]at e;cases e
 exact⟨k,g.put k ⟨c',dx,ps,hi,hc,ej,r.keep k⟩⟩
def JB{G':fY.Hs}{o v:fY.Val}(h:fY.fy G o f v=d7 G'):∃a C fs,o=.ref a/\G a=d7 (.ins C fs)/\fs.length<900/\G'=fY.upd G a (.ins C<|fY.eV fs f v):=by
 cases o with
 |ref a =>
  unfold fY.fy at h;dsimp only at h;split at h
  .rename_i C fs e;obtain⟨hl,h⟩:=Zs h;cases h;exact⟨a,C,fs,rfl,e,hl,rfl⟩
  .cases h
 |_=>cases h
variable {e:Expr}
def AO{m:fY.E}{Ϲ:Pos}(hK:X.K=i.K)(A:ClsA i)(F:FldOk i f)(ho:PE X o<|tE X i Φ mo)(he:PE X e<|tE X i Φ m)(hs:Ŕ e (d7<|.Attribute o (gh f) Ϲ) æ.line X.env=pure ee) :
  PS X (.Assign [.Attribute o (gh f) Ϲ] e æ) (tSt X i Φ<|.setFld mo f m) :=
 (Pw ho he hs).imp λD σ H ⟨env,G,N,R,B,C,Xe,p,w,c⟩=>by refine one p.pre w λv G1 H1 x k1 p1 r q=>?_;refine one p1 q λu G2 H2 y k2 p2 ry q=>?_;obtain⟨G3,e3,q2⟩:=eC q;clear q;obtain⟨a,D',fs,rfl,e2,hl,rfl⟩:=JB e3;cases ry.ref_inv;obtain⟨c',dx,ps,hi,hc,h1,rf⟩:=p2.hp a _ e2;obtain⟨k3,g3⟩:=U5 p2.hp hi hc h1<|rf.put (f:=f)<|r.keep k2;refine⟨a,c',dx,ps,rfl,h1,by rw[hK];exact A.cls _ _ hi hc,by rw[hK];exact F.no _ _ hc,by rw[<-rf.length];lia,?_⟩;have k:=(k1.trans k2).trans k3;exact c.nx _ _ _ _ k g3 (p.en.keep k) q2
def NF{op:fY.Bop}{x y z:fY.Val}(h:fY.augV op x y=d7 z):∃a b,x=.int a/\y=.int b/\((op=.add/\z=.int (a+b))\/(op=.sub/\z=.int (a - b))):=by
 unfold fY.augV at h;split at h
 .cases h;exact⟨_,_,rfl,rfl,.inl ⟨rfl,rfl⟩⟩
 .cases h;exact⟨_,_,rfl,rfl,.inr ⟨rfl,rfl⟩⟩
 .cases h
abbrev rAS(op:fY.Bop):V->V->Hp->VK->Prop:=λx y H Q=>∃a b,x=.int a/\y=.int b/\((op=.add/\Q (.int<|a+b) H)\/(op=.sub/\Q (.int<|a - b) H))
def A4{op:Ψ}{bop:fY.Bop}{n:Int}{k:Nat}{ck ŀ:Pos}(hK:X.K=i.K)(A:ClsA i)(F:FldOk i f)(hop:DL X op<|rAS bop)(ho:PE X o<|tE X i Φ mo) :
  PS X (.AugAssign (.Attribute o (gh f) ck) op (.Constant (.int n) k ŀ) æ) (tSt X i Φ<|.augFld mo f bop n) :=
 (Ak ho Oq hop).imp λD σ H ⟨env,G,N,R,B,C,Xe,p,w,c⟩=>by
  refine one p.pre w λv G1 H1 x k1 p1 r q=>?_;obtain⟨u,e1,q2⟩:=eC q;clear q;obtain⟨a,C',fs,rfl,e2,e3⟩:=Mb e1;cases r.ref_inv;obtain⟨c',dx,ps,hi,hc,h1,rf⟩:=p1.hp a _ e2;obtain⟨y,l,ry⟩:=rf.look.1 u e3;refine⟨a,c',dx,ps,y,rfl,h1,by rw[hK];exact A.cls _ _ hi hc,by rw[hK];exact F.no _ _ hc,l,?_⟩;obtain⟨z,e4,q3⟩:=eC q2;clear q2;obtain⟨G3,e5,q4⟩:=eC q3;clear q3;obtain⟨n1,n2,rfl,e0,hz⟩:=NF e4;cases e0;cases ry.int_inv;obtain⟨a2,C2,fs2,e6,e7,hl,rfl⟩:=JB e5;cases e6;rw[e2]at e7;cases e7;have fin:∀n:Int,z=.int n->∃dx' dB,H1 a=d7 (.ins c' dx' dB)/\dB.length<1000/\D.nx σ (upd H1 a<|.ins c' dx'<|L2.eV (gh f) (.int n) dB):=λn hn=>by subst hn;obtain⟨k3,g3⟩:=U5 p1.hp hi hc h1<|rf.put (f:=f) (x:=.int n)<|.int n;refine⟨dx,ps,h1,by rw[<-rf.length];lia,?_⟩;exact c.nx _ _ _ _ (k1.trans k3) g3 (p.en.keep<|k1.trans k3) q4
  rcases hz with⟨e,hz⟩|⟨e,hz⟩
  .exact⟨n1,n,rfl,rfl,.inl ⟨e,fin _ hz⟩⟩
  .exact⟨n1,n,rfl,rfl,.inr ⟨e,fin _ hz⟩⟩
abbrev Dfm(pr:ê)(w:ý)(mg:Str->Option Â)(base:ü)(i:Inf)(P:fY.Pg)(n:Nat)(f:String)(fa:È):Prop :=
 ∃fd ps,fi pr w i.K mg base (CX1 pr w) (2*n) fa fd ps (spF i P n f)/\Binds i.K fd ps []
variable {P:fY.Pg} {n:Nat} {es:List Expr} {ms:fY.Es} {p:Pos}
def L7{k:Nat}{Cn:String}{C f:È}(hK:X.K=i.K)(hi:i.ins Cn=d9)(hc:i.cl Cn C)(M:Mk i.K C f)(D:Dfm X.prog X.w X.mg X.base i P n (Cn ++ ".__init__") f)(hr:fh (2*n+1) X.A)
  (hg:Gl X<|gh Cn) (hm:X.mg (gh Cn)=d7 (.ref C)) (ϗ:(gh Cn==("__debug__" : Str))=ee)
  (ha:PA X (e::es)<|tAr X i (fY.wF P n) ms k) (he:Ì (e::es) X.env=(ee,eval e X.env)::Ì es X.env) (hpl:(Ċ æ<|Ì es X.env).any (·.1)=ee) :
  PE X (.Call (.Name (gh Cn) p) (e::es) [] æ) (tE X i (fY.wF P n)<|.make Cn ms):=by
 obtain⟨fd,ps,F,hb⟩:=D;rw[<-hK]at F hb M;intro Á s σ H Q I h;obtain⟨env,G,Qm,Em,pr,w,c⟩:=h;refine GR (E:=XK1 i H Em) M F hr hg hm hb .nil (XW.passes pr.xo) ha ϗ he hpl Á s σ H Q I ⟨env,G,_,Em,pr,w,λvs G1 H1 xs k1 g1 r1 hl w1 x dx hx hd š=>?_⟩;have ka:eZ H1<|upd H1 dx<|.own x:=eZ.new hd;have bP:upd H1 dx (.own x) x=d8:=by rw[ei λz=>š z.symm];exact hx
 have kb:eZ (upd H1 dx<|.own x)<|upd (upd H1 dx<|.own x) x<|.ins C dx []:=eZ.new bP;have g2:RH i G1<|upd H1 dx<|.own x:=XF g1 hd;have g3:RH i (fY.upd G1 x<|.ins Cn [])<|upd (upd H1 dx<|.own x) x<|.ins C dx []:=g2.put kb ⟨C,dx,[],hi,hc,ej,.nil⟩;have k:=ka.trans kb;refine⟨.ref x::vs,_,_,Em,.cons (.ref x) (by rw[ð];exact r1.keep k),g3,w1 x<|g1.free hx,?_,λcls d H' h=>(h.go k).go k1⟩;intro v G' H' y k' g' rv ⟨hv,hq⟩;subst hv;exact⟨rv.non_inv,c _ G' H' _ ((k1.trans k).trans k') g' (.ref x) hq⟩
variable {m:String}
def WL{v:fY.Val}(h:fY.clsV G v m=d7 C):∃a fs,v=.ref a/\G a=d7 (.ins C fs)/\fs.lookup m=d8:=by
 obtain⟨a,h1,h⟩:=á.mp h;obtain⟨p,h2,h3⟩:=á.mp h;have e:=Jt h2;by_cases z:(p.2.lookup m).isNone=d9
 .rw[fZ z]at h3;cases h3;exact⟨a,p.2,JZ h1,e,aF.mp z⟩
 .rw[f8 z]at h3;cases h3
variable {Ĳ:Pos} {pl:Sem Bool}
def Pv{k:Nat}{Cn:String}{C f:È}(hK:X.K=i.K)(hfn:∀c,i.cl Cn c->c=C)(A:Cls i.K C)(M:Meth i.K C (gh m) f)(D:Dfm X.prog X.w X.mg X.base i P n (Cn ++ "." ++ m) f)(hr:fh (2*n) X.A)
  (ho:PE X o<|tE X i (fY.wF P n) mo) (ha:PA X (e::es)<|tAr X i (fY.wF P n) ms k) (he:Ì (e::es) X.env=(ee,eval e X.env)::Ì es X.env) (hpl:(Ċ æ<|Ì es X.env).any (·.1)=ee)
  (ht:eval (.Call (.Attribute o (gh m) Ĳ) (e::es) [] æ) X.env=(do
    let ov<-eval o X.env
    Ÿ Ĳ.atName
    let (f,first)<-Ł [ov] (Ŷ ov (gh m) pl)
    ϥ æ f first (Ċ æ<|Ì (e::es) X.env) (Ŝ æ<|ĭ [] X.env))) :
  PE X (.Call (.Attribute o (gh m) Ĳ) (e::es) [] æ) (tE X i (fY.wF P n)<|.meth Cn m mo ms):=by
 obtain⟨fd,ps,F,hb⟩:=D;rw[<-hK]at F hb M A;intro Á s σ H Q I h;obtain⟨env,G,Qm,Em,pr,w,c⟩:=h;refine Gm (E:=XK1 i H Em) ho A M F hr hb .nil (XW.passes pr.xo) ha he hpl ht Á s σ H Q I<|one pr w λv G1 H1 x k1 p1 rv q=>?_;obtain⟨hq,w1⟩:=q;obtain⟨a,fs,rfl,e2,e3⟩:=WL hq;cases rv.ref_inv;obtain⟨c',dx,bI,hi,hc,h1,rf⟩:=p1.hp a _ e2;cases hfn c' hc;refine⟨a,dx,bI,rfl,h1,rf.look.2 e3,env,G1,_,Em,p1,w1,λvs G2 H2 xs k2 g2 r2 hl w2=>?_⟩;exact⟨.ref a::vs,G2,Qm,Em,.cons (.ref a) (by rw[ð];exact r2),g2,w2,(c.go k1).go k2,λcls d H' h=>(h.go k2).go k1⟩
def F7{Cn:String}{C f:È}(hK:X.K=i.K)(hfn:∀c,i.cl Cn c->c=C)(A:Cls i.K C)(M:Meth i.K C (gh m) f)(D:Dfm X.prog X.w X.mg X.base i P n (Cn ++ "." ++ m) f)(hr:fh (2*n) X.A)
  (ho:PE X o<|tE X i (fY.wF P n) mo)
  (ht:eval (.Call (.Attribute o (gh m) Ĳ) [] [] æ) X.env=(do
    let ov<-eval o X.env
    Ÿ Ĳ.atName
    let (f,first)<-Ł [ov] (Ŷ ov (gh m) pl)
    ϥ æ f first (Ċ æ<|Ì [] X.env) (Ŝ æ<|ĭ [] X.env))) :
  PE X (.Call (.Attribute o (gh m) Ĳ) [] [] æ) (tE X i (fY.wF P n)<|.meth Cn m mo .nil):=by
 obtain⟨fd,ps,F,hb⟩:=D;rw[<-hK]at F hb M A;intro Á s σ H Q I h;obtain⟨env,G,Qm,Em,pr,w,c⟩:=h;refine C4 (E:=XK1 i H Em) ho A M F hr hb .nil (XW.passes pr.xo) ht Á s σ H Q I<|one pr w λv G1 H1 x k1 p1 rv q=>?_;obtain⟨hq,w1⟩:=q;obtain⟨a,fs,rfl,e2,e3⟩:=WL hq;cases rv.ref_inv;obtain⟨c',dx,bI,hi,hc,h1,rf⟩:=p1.hp a _ e2;cases hfn c' hc;refine⟨a,dx,bI,rfl,h1,rf.look.2 e3,?_⟩;exact⟨[.ref a],G1,Qm,Em,.cons (.ref a) .nil,p1.hp,w1,c.go k1,λcls d H' h=>h.go k1⟩
def EI(hK:X.K=i.K)(D:Dfo X.prog X.w X.mg X.base i P n f)(hr:fh (2*n) X.A)(hg:Gl X<|gh f)(ϗ:(gh f==("__debug__" : Str))=ee) :
  PE X (.Call (.Name (gh f) p) [] [] æ) (tE X i (fY.wF P n)<|.call f .nil):=by
 obtain⟨fa,fd,ps,F,hm,hk,hb⟩:=D;rw[<-hK]at F hk hb;intro Á s σ H Q I h;obtain⟨env,G,Qm,Em,pr,w,c⟩:=h;refine BO (E:=XK1 i H Em) F hr hg hm hk hb .nil (XW.passes pr.xo) ϗ Á s σ H Q I ?_;exact⟨[],G,Qm,Em,.nil,pr.hp,w,c,λcls d H' h=>h⟩
abbrev UG(X:Cx)(i:Inf)(Φ:fY.Fs):fY.Es->List (TE×TE)
 |.cons k (.cons v r)=>(tE X i Φ k,tE X i Φ v)::UG X i Φ r
 |_=>[]
abbrev J8:fY.Es->Bool
 |.nil=>d9
 |.cons _ .nil=>ee
 |.cons _ (.cons _ r)=>J8 r
abbrev esL:fY.Es->Nat
 |.nil=>0
 |.cons _ es=>esL es+1
abbrev UV:List V->List (V×V)
 |x::y::r=>(x,y)::UV r
 |_=>[]
def NX:∀(es:fY.Es),J8 es=d9->∀{σ:St}{H:Hp}{env:fY.Env}{G:fY.Hs}{Qm:List fY.Val->fY.Hs->Prop}{Em:fY.XQ}{Q:List (V×V)->Hp->Prop},Pre X i σ H env G Em->fY.wA Φ es env G Qm Em->
  (∀vs G' H' xs,eZ H H'->RH i G' H'->RVs i.K H' vs xs->xs.length=esL es->Qm vs G'->Q (UV xs) H')->MW (UG X i Φ es) σ H Q
 |.nil,_,σ,H,env,G,Qm,Em,Q,p,w,c=>by rw[fY.q_a_nil]at w;exact c [] G H [] (eZ.refl H) p.hp .nil rfl w
 |.cons k .nil,h,_,_,_,_,_,_,_,_,_,_=>by cases h
 |.cons k (.cons v r),h,σ,H,env,G,Qm,Em,Q,p,w,c=>by rw[fY.q_a_cons]at w;refine one p w λa G1 H1 x k1 p1 ra q=>?_;rw[fY.q_a_cons]at q;refine one p1 q λb G2 H2 y k2 p2 rb q2=>?_;refine NX r h p2 q2 λvs G' H' xs k3 g3 rv hl hq=>?_;exact c (a::b::vs) G' H' (x::y::xs) ((k1.trans k2).trans k3) g3 (.cons ((ra.keep k2).keep k3)<|.cons (rb.keep k3) rv) (by rw[Ç,Ç,hl];rfl) hq
def JK{K:Frag}{H:Hp}:∀{vs:List fY.Val}{xs:List V}{kvs:List (fY.Val×fY.Val)},RVs K H vs xs->fY.pairUp vs=d7 kvs->∃ps:List<|Key×V,UV xs=ps.map (λkv=>(kV kv.1,kv.2))/\RKs K H kvs ps/\2*ps.length=xs.length
 |[],_,_,r,e=>by cases r;cases e;exact⟨[],rfl,.nil,rfl⟩
 |[_],_,_,_,e=>by cases e
 |a::b::vs,_,kvs,r,e=>by
  cases r with
  |cons ra r=>cases r with
  |cons rb t =>
  rename_i y _;unfold fY.pairUp at e;split at e
  .rename_i hk;obtain⟨ks,e2,rfl⟩:=Ð.mp e;obtain⟨ps,h1,h2,h3⟩:=JK t e2;obtain⟨c,hc,rfl⟩:=eU hk ra;refine⟨(c,y)::ps,?_,.cons hc rb h2,by rw[Ç,Ç,Ç];lia⟩;show(kV c,y)::UV _=_;rw[h1];rfl
  .cases e
def RKs.merge{K:Frag}{H:Hp}:∀{kvs:List (fY.Val×fY.Val)}{ps:List (Key×V)}{Ĭ:List (fY.Val×fY.Val)}{bs:List (Key×V)},RKs K H Ĭ bs->RKs K H kvs ps->RKs K H (fY.putAll Ĭ kvs) (Xv bs ps)
 |_,_,_,_,r,.nil=>r
 |_,_,Ĭ,bs,r,.cons (k:=k) (v:=v) (c:=c) (x:=x) (kvs:=kvs) (ps:=ps) a q t=>by show RKs K H (fY.putAll (fY.fe Ĭ k v) kvs) (Xv (L2.fe bs c x) ps);exact RKs.merge (RKs.put a q r) t
variable {æ:Pos}
def LO:PE X (.Dict [] [] æ) (tE X i Φ<|.dct .nil) :=
 pe_dnewK.imp λσ H Q ⟨env,G,Qm,Em,p,w,c⟩=>by rw[fY.q_e_dct]at w;unfold fY.new at w;intro a ha;have w1:=w a<|p.hp.free ha;obtain⟨a',e,w2⟩:=eC w1;cases e;rw[fY.q_a_nil]at w2;obtain⟨ks,e2,_,w3⟩:=eC w2;cases e2;rw[fY.eB]at w3;have k:=eZ.new (o:=.dK []) ha;exact c _ _ _ _ k (p.hp.put (o:=.dct []) k ⟨[],ej,.nil⟩) (.ref a) w3
def QN{es:fY.Es}{keys:List (Option Expr)}{Δ:List Expr}(he:J8 es=d9)(h30:esL es<=30)(h:PPs X æ keys Δ<|UG X i Φ es)(hall:keys.all (·.isSome)=d9)(hl:keys.length=Δ.length)(h0:keys≠[])(h15:keys.length<=15):PE X (.Dict keys Δ æ) (tE X i Φ<|.dct es) :=
 (Ft h hall hl h0 h15).imp λσ H Q ⟨env,G,Qm,Em,p,w,c⟩=>by
  rw[fY.q_e_dct]at w;unfold fY.new at w;intro a ha;have w1:=w a<|p.hp.free ha;obtain⟨a',e,w2⟩:=eC w1;cases e;have k:=eZ.new (o:=.dK []) ha;have p2:Pre X i σ (upd H a<|.dK []) env (fY.upd G a<|.dct []) Em:=p.go k<|p.hp.put (o:=.dct []) k ⟨[],ej,.nil⟩;refine NX es he p2 w2 λvs G' H' xs k2 g2 rv hl w3=>?_;obtain⟨ks,e2,e3,w4⟩:=eC w3;obtain⟨ps,e4,r4⟩:=g2 a _ e3;cases r4;obtain⟨qs,h1,h2,h3⟩:=JK rv e2;refine⟨e4,qs,h1,by lia,?_⟩;have k3:eZ H'<|upd H' a<|.dK<|Xv [] qs:=eZ.put (λxs e=>by rw[e4]at e;cases e) λp u e=>by rw[e4]at e;cases e
  exact c _ _ _ _ ((k.trans k2).trans k3) (g2.put (o:=.dct<|fY.putAll [] ks) k3 ⟨_,ej,(RKs.merge .nil h2).keep k3⟩) (.ref a) w4
end Snd
namespace L2
open PySem PySem.Spec PyProof.Rows
section
variable {X:Cx}{Á:List (È×Obj)}{σ:St}{H:Hp}{s:Å}{a:È}{o:Obj}{ps:List (Key×V)}
def Inv.freeze(I:Inv X Á σ H s)(e:H a=d7 (.dK ps))(ho:s.heap.get? a=d7 o):Inv X Á σ (upd H a<|.frz o<|.dK ps) s:=by have h:=I.hok a _ e;exact I.write (t':=s.toks) (x:=a) (e:=a) (h':=s.heap) (by rw[e];exact True.intro) (.inl rfl) (λ_ _ _ q=>q) ⟨o,ho⟩ ⟨ho,h⟩
def Inv.thaw(I:Inv X Á σ H s)(e:H a=d7 (.frz o<|.dK ps))(h0:∀o u,X.H₀ a≠d7 (.frz o u)):Inv X Á σ (upd H a<|.dK ps) s:=by
 have hn:∀b,H b=d8->upd H a (.dK ps) b=d8:=λb z=>by rw[ei<|by rintro rfl;rw[e]at z;cases z];exact z
 have ho:=I.hok a _ e;refine⟨I.ok,I.os,I.bare,⟨I.base.keep,I.base.slot,λb ob q n hx=>hn b<|I.base.free b ob q n hx,I.base.there,λb xs q=>?_,λb ob u q=>?_,λb qs q=>?_⟩,I.loc,I.cell,hn _ I.free,λx c q=>hn _<|I.freeC x c q,λp hp=>?_,λb u q=>?_,I.len⟩
 .have z:=I.base.tups b xs q;rw[ei<|by rintro rfl;rw[e]at z;cases z];exact z
 .have z:=I.base.frzs b ob u q;rw[ei<|by rintro rfl;exact h0 _ _ q];exact z
 .obtain⟨m,z⟩:=I.base.tbls b qs q;exact⟨m,by rw[ei<|by rintro rfl;rw[e]at z;cases z];exact z⟩
 .obtain⟨q1,q2,q3,q4,q5⟩:=I.pin p hp;exact⟨q1,hn _ q2,q3,q4,q5⟩
 .by_cases hb:b=a
  .subst hb;rw[ej]at q;cases q;exact ho.2
  .rw[ei hb]at q;refine(I.hok b u q).stay (λ_ _ _ q=>q) (λc z=>?_) λc xs z=>?_
   .rw[ei<|by rintro rfl;rw[e]at z;cases z];exact z
   .rw[ei<|by rintro rfl;rw[e]at z;cases z];exact z
end
abbrev Ends.thaw(X:Cx)(D:Ends):Ends where
 nx:=λσ H=>∃a o ps,H a=d7 (.frz o<|.dK ps)/\(∀o u,X.H₀ a≠d7 (.frz o u))/\D.nx σ (upd H a<|.dK ps)
 rt:=λv H=>∃a o ps,H a=d7 (.frz o<|.dK ps)/\(∀o u,X.H₀ a≠d7 (.frz o u))/\D.rt v (upd H a<|.dK ps)
 bk:=D.bk
 ct:=D.ct
variable {X:Cx}
def ER{st:Ģ}{t:TS}(h:PS X st t):PS X st λD σ H=>t (D.thaw X) σ H:=λÁ s σ H D I q =>
 thn (h Á s σ H _ I q) λf s' z=>by
  cases f with
  |next =>obtain⟨Ŀ,H',I',a,o,ps,e,h0,q⟩:=z;exact⟨Ŀ,_,I'.thaw e h0,q⟩
  |ret u =>obtain⟨v,Ŀ,H',I',r,a,o,ps,e,h0,q⟩:=z;exact⟨v,Ŀ,_,I'.thaw e h0,r,q⟩
  |brk=>exact z
  |cont=>exact z
abbrev Iti(a:È)(o:Obj)(ps:List<|Key×V):It :=
 ⟨λi H=>H a=d7 (.frz o<|.dK ps)/\i<ps.length,λi H v H'=>∃p k x,v=.ref p/\H p=d8/\ps[i]?=d7 (k,x)/\H'=upd H p (.tup [kV k,x]),λi H=>H a=d7 (.frz o<|.dK ps)/\ps.length<=i⟩
def BM{k:Key}{u:Â}(h:Ki k u=d9):RelV (kV k) u:=by
 rcases Zp h with⟨i,t,rfl,rfl⟩|⟨x,t,rfl,rfl⟩
 .exact⟨t,rfl⟩
 .exact⟨t,rfl⟩
def KV.at:∀{ps:List (Key×V)}{vs:List (Key×Â)}{i:Nat}{k:Key}{x:V},KV ps vs->ps[i]?=d7 (k,x)->∃u,vs[i]?=d7 (k,u)/\RelV x u:=by
 intro ps vs i k x r;unfold KV at r;induction r generalizing i with
 |nil=>intro h;simp at h
 |@cons p q ps qs h t ih =>
  intro e;cases i with
  |zero =>simp at e;subst e;obtain⟨q1,q2⟩:=q;obtain⟨h1,h2⟩:=h;have h1:k=q1:=h1;subst h1;exact⟨q2,rfl,h2⟩
  |succ i=>simpa using ih (by simpa using e)
section
variable {X:Cx}{Á:List (È×Obj)}{σ:St}{H:Hp}{s:Å}{a:È}{o:Obj}{ps:List (Key×V)}{es:Array DictEntry}{ep:Nat}
def Wb(I:Inv X Á σ H s)(e:H a=d7 (.frz o<|.dK ps))(hd:o.data=.dict es ep):∃vs,KV ps vs/\s.heap.DictAt (Zg X.prog X.w) a vs ep:=by
 obtain⟨ho,_,_,vs,ũ,o2,es2,ep2,h1,h2,h3,h4⟩:=(show eN X.prog X.w H s.heap a (.frz o<|.dK ps) from I.hok a _ e)
 rw[ho]at h1;cases h1;rw[hd]at h3;cases h3;exact⟨vs,ũ,o,es,ho,h2,hd,h4⟩
end
variable {P:ê} {w:ý} {es:List Expr} {kk:Nat} {tp:Pos} {ds:Array DictEntry} {ep:Nat} {o:Obj} {ps:List (Key×V)}
def N4{K:Frag}(a it:È)(hd:o.data=.dict ds ep) :
  Turn P w K (.Tuple es kk tp) (Iti a o ps) [it] it (λi h=>∃ok ov,IsItemIter h it a i ps.length ep ok ov) where
 mem:=by simp
 obj:=λi h st b hb=>by
  obtain⟨ok,ov,h1⟩:=st;have q:b=it:=by simpa using hb
  subst q;exact⟨_,h1,λv z=>by cases z⟩
 keep:=λi h h' ⟨ok,ov,h1⟩ k=>⟨ok,ov,k it (by simp) _ h1⟩
 item:=by
  intro X hP hw hK hc i Á s σ H E I hf st hg;subst hP hw hK;obtain⟨e,hi⟩:=hg;obtain⟨ok,ov,h1⟩:=st;obtain⟨vs,ũ,da⟩:=Wb I e hd;have hl:ps.length=vs.length:=ũ.length;have hx:ps[i]?=d7 ps[i]:=Ê hi;obtain⟨u,hu,ru⟩:=ũ.at (k:=ps[i].1) (x:=ps[i].2) hx;rw[hl]at h1;refine wpAny_pyNext_items_item h1 da hu λkey h3 hk hout hT hsz hkeep=>?_;have hfi:=hf it (by simp);have bH:it<s.heap.objs.size:=Ô h1;have nT:s.heap.objs.size≠it:=Ŋ bH;have bz:=I.fpOk (H':=H) (Í s.heap.objs.size) I.fresh;refine⟨.ref s.heap.objs.size,rfl,wpAny_letOwnedTupleGo_items (s:={s with heap:=h3}) hout λh4 he4 hs4=>?_⟩;have I4:Inv X Á σ H {s with heap:=h4,toks:=s.toks}:=I.turnedL (t':=s.toks) (ch:=[it]) (λb ob hb q=>hs4.extBut b ob (λz=>hb<|by simp[z])<|hkeep b ob (λz=>hb<|by simp[z]) q) hf;have hT4:h4.get? s.heap.objs.size=d7 {cls:=.type "tuple",data:=.seq #[key,u]}:=hs4.extBut _ _ nT hT;obtain⟨f0,f1,f2,f3,f4,f5⟩:=bz;have I5:Inv X Á σ (upd H s.heap.objs.size<|.tup [kV ps[i].1,ps[i].2]) {s with heap:=h4,toks:=s.toks}:=I4.track f0 I.sz f1 f4 f5 ⟨by show 2<=Ú;decide,[key,u],.cons (BM hk)<|.cons ru .nil,_,hT4,rfl,_,rfl⟩;refine⟨.ref s.heap.objs.size,_,I5,rfl,⟨s.heap.objs.size,_,_,rfl,f0,hx,rfl⟩,⟨key,u,by rw[hl];exact he4⟩,λb hb=>?_⟩;have q:b=it:=by simpa using hb
  subst q;rw[ei nT.symm];exact hfi.1
 done:=by
  intro X hP hw hK hc i Á s σ H E I hf st hg;subst hP hw hK;obtain⟨e,hi⟩:=hg;obtain⟨ok,ov,h1⟩:=st;obtain⟨vs,ũ,da⟩:=Wb I e hd;have hl:ps.length=vs.length:=ũ.length;rw[hl]at h1 hi;refine wpAny_pyNext_items_end (I.ok.hd hc) h1 da (Ŭ hi) λh' he'=>⟨rfl,?_⟩
  exact I.turnedL (t':=s.toks) (ch:=[it]) (λb ob hb q=>he' b ob (λz=>hb<|by simp[z]) q) hf
 self:=λA i s Q E st h=>by obtain⟨ok,ov,h1⟩:=st;exact PySem.W.kcp_self h1 h
abbrev Itk(a:È)(o:Obj)(ps:List<|Key×V):It :=
 ⟨λi H=>H a=d7 (.frz o<|.dK ps)/\i<ps.length,λi H v H'=>H'=H/\∃k x,ps[i]?=d7 (k,x)/\v=kV k,λi H=>H a=d7 (.frz o<|.dK ps)/\ps.length<=i⟩
variable {tg:Expr}
def AW{K:Frag}(a it:È)(hd:o.data=.dict ds ep) :
  Turn P w K tg (Itk a o ps) [it] it (λi h=>h.IsKeyIter it a i ps.length ep) where
 mem:=by simp
 obj:=λi h st b hb=>by
  obtain⟨ob,h1,_,h2⟩:=st;have q:b=it:=by simpa using hb
  subst q;exact⟨ob,h1,λv z=>by rw[h2]at z;cases z⟩
 keep:=λi h h' st k=>st.at λo e=>k it (by simp) o e
 item:=by intro X hP hw hK hc i Á s σ H E I hf st hg;subst hP hw hK;obtain⟨e,hi⟩:=hg;obtain⟨vs,ũ,da⟩:=Wb I e hd;have hl:ps.length=vs.length:=ũ.length;have hx:ps[i]?=d7 ps[i]:=Ê hi;obtain⟨u,hu,ru⟩:=ũ.at (k:=ps[i].1) (x:=ps[i].2) hx;rw[hl]at st;refine wpAny_pyNext_dict_item st da hu λkey h3 hk st3 hs=>?_;have I3:Inv X Á σ H {s with heap:=h3,toks:=s.toks}:=I.turnedL (t':=s.toks) (ch:=[it]) (λb ob hb q=>hs.extBut b ob (λz=>hb<|by simp[z]) q) hf;obtain⟨ob,ho,a9,hda⟩:=id st3;refine⟨key,rfl,eF (s:={s with heap:=h3,toks:=s.toks}) ho a9 hda (by decide) ⟨kV ps[i].1,H,I3,BM hk,⟨rfl,_,_,hx,rfl⟩,?_,λb hb=>(hf b hb).1⟩⟩;show h3.IsKeyIter it a (i+1) ps.length ep;rw[hl];exact st3
 done:=by
  intro X hP hw hK hc i Á s σ H E I hf st hg;subst hP hw hK;obtain⟨e,hi⟩:=hg;obtain⟨vs,ũ,da⟩:=Wb I e hd;have hl:ps.length=vs.length:=ũ.length;rw[hl]at st hi;refine wpAny_pyNext_dict_end (I.ok.hd hc) st da (Ŭ hi) λh' he'=>⟨rfl,?_⟩
  exact I.turnedL (t':=s.toks) (ch:=[it]) (λb ob hb q=>he' b ob (λz=>hb<|by simp[z]) q) hf
 self:=λA i s Q E st h=>wpAny_pyIter_keyiter st h
abbrev I0(X:Cx)(J:È->Obj->List (Key×V)->It)(td:TE):TI:=λσ H R=>td σ H λx H1=>∃a ps,x=.ref a/\H1 a=d7 (.dK ps)/\∀o,(∀o u,X.H₀ a≠d7 (.frz o u))->R (J a o ps) (upd H1 a<|.frz o<|.dK ps)
variable {d:Expr} {td:TE}
def BA{Ĳ ŀ:Pos}(hd:PE X d td)(am:ģ d "items" X.env (eval d X.env)=eval d X.env)(ap:(Ĳ.endLine==ŀ.line)=d9) :
  PI X (.Tuple es kk tp) (.Call (.Attribute d "items" Ĳ) [] [] ŀ) (I0 X Iti td):=by
 intro Á s σ H R I h;refine wpAny_Call_method0_late am ap<|thn (hd Á s σ H _ I h) λv s1 ⟨x,H1,I1,r1,a,ps,ex,ea,q1⟩=>?_;subst ex;obtain rfl:v=Value.ref a:=r1;obtain⟨t1,t2,t3⟩:=IX I1<|.inl ⟨ps,.inl ea⟩;refine⟨"dict","dict.items",PySem.F.plainAttrs_dict,PySem.F.slot_dict_items,PySem.F.type_dict_items,t1,t2,Calls.callWith_builtin rfl<|PySem.evalArgs_none ?_⟩;obtain⟨z,hsm,vs,ũ,dd⟩:=JE I1.hok ea;refine ϕ PySem.F.slot_dict_items dd.typeIs PySem.F.entry_dict_items (PySem.F.args_dict_items_1 _) (meets_dict_items (Zg X.prog X.w) a hsm) ⟨⟨vs,dd⟩,?_⟩;have I2:Inv X Á σ H1 {s1 with heap:=s1.heap.push {cls:=.type "dict_items",data:=.fields #[.ref a]}}:=I1.kept (t':=s1.toks) λb o e=>Ä _ e;obtain⟨z2,hsm2,vs2,rel2,cG⟩:=JE I2.hok ea;obtain⟨ep,da⟩:=cG.dictAt;refine wpAny_pyIter_items (s:={s1 with heap:=s1.heap.push {cls:=.type "dict_items",data:=.fields #[.ref a]}}) (d:=a) ⟨_,Ö _ rfl,rfl,rfl⟩ da ?_;have I3:=I2.kept (t':=s1.toks) (h':=(s1.heap.push {cls:=.type "dict_items",data:=.fields #[.ref a]}).push {cls:=.type "dict_itemiterator",data:=.fields #[.none,.bool ee,.ref a,.int 0 0,.int vs2.length 0,.int ep 0,.none,.none]}) λb o e=>Ä _ e;obtain⟨ob,ds,ho,_,hdat,_⟩:=da;have I4:=I3.freeze ea<|Ä _ ho;refine⟨_,[_],_,_,_,rfl,I4,N4 a _ hdat,⟨.none,.none,?_⟩,λb hb=>?_,q1 ob λo u z=>by have:=I1.base.frzs a o u z;rw[ea]at this;cases this⟩
 .rw[rel2.length];exact Ö _ rfl
 .have e:b=(s1.heap.push {cls:=.type "dict_items",data:=.fields #[.ref a]}).objs.size:=by simpa using hb
  subst e;have hn:=I2.hok.fresh<|Í (s1.heap.push {cls:=.type "dict_items",data:=.fields #[.ref a]}).objs.size;exact I2.fpOk (Í _) (by rw[ei<|by intro z;rw[z]at hn;rw[ea]at hn;cases hn];exact hn)
def EC(hd:PE X d td):PI X tg d<|I0 X Itk td:=by
 intro Á s σ H R I h;refine thn (hd Á s σ H _ I h) λv s1 ⟨x,H1,I1,r1,a,ps,ex,ea,q1⟩=>?_;subst ex;obtain rfl:v=Value.ref a:=r1;obtain⟨z,hsm,vs,ũ,dd⟩:=JE I1.hok ea;obtain⟨ep,da⟩:=dd.dictAt;refine wpAny_pyIter_dict hsm da ?_;have I2:=I1.kept (t':=s1.toks) (h':=s1.heap.push {cls:=.type "dict_keyiterator",data:=.fields #[.ref a,.int 0 0,.int vs.length 0,.int ep 0]}) λb o e=>Ä _ e;obtain⟨ob,ds,ho,_,hdat,_⟩:=da;have I3:=I2.freeze ea<|Ä _ ho;refine⟨_,[_],_,_,_,rfl,I3,AW a _ hdat,⟨_,Ö _ rfl,rfl,by rw[ũ.length];rfl⟩,λb hb=>?_,q1 ob λo u z=>by have:=I1.base.frzs a o u z;rw[ea]at this;cases this⟩;have e:b=s1.heap.objs.size:=by simpa using hb
 subst e;have hn:=I1.hok.fresh<|Í s1.heap.objs.size;exact I1.fpOk (Í _) (by rw[ei<|by intro z;rw[z]at hn;rw[ea]at hn;cases hn];exact hn)
abbrev TupsH(I S:È)(items:Array Â)(val:Nat->List Int)(h:ü):Prop:=∀i v,items[i]?=d7 v->∃a ì,v=.ref a/\a≠I/\a≠S/\ϙ h a ì/\Ė ì.toList (val i)
def TupsH.keep{I S:È}{items:Array Â}{val:Nat->List Int}{h h':ü}(t:TupsH I S items val h)(k:∀b o,b≠I->b≠S->h.get? b=d7 o->h'.get? b=d7 o):TupsH I S items val h':=λi v e=>by obtain⟨a,ì,h1,h2,h3,⟨o,q1,q2⟩,h5⟩:=t i v e;exact⟨a,ì,h1,h2,h3,⟨o,k a o h2 h3 q1,q2⟩,h5⟩
abbrev btL(val:Nat->List Int)(i j:Nat):Bool:=HT.lexLt (val i)<|val j
section
variable {prog:ê}{w:ý}{A:č}{R:dM->Å->Prop}{I l:È}{items:Array Â}{val:Nat->List Int}{kw:List (Str×Â)}{fp:List È}{St:Nat->ü->Prop}
def Aj(W:Walks prog w A.in1 I fp [I] items.size (λi v=>items[i]?=d7 v) St)(hu:A.units+1<Ě)(S:È)(dI:S≠I)(hSf:S∉fp) :
  ∀(k j:Nat) (s:Å) (vb:Â) (c:Nat),items.size - (j+1)=k->j+1<=items.size->St (j+1) s.heap->TupsH I S items val s.heap->items[đ (btL val) j]?=d7 vb->
  s.heap.get? S=d7 {cls:=.type "list",dict:=d8,data:=.seq #[vb,vb] c,slots:=#[]}->
  (∀v h' tk,items[đ (btL val)<|items.size - 1]?=d7 v->(∀b o,b≠I->b≠S->s.heap.get? b=d7 o->h'.get? b=d7 o)->R (.ok<|.ret v) {s with heap:=h',toks:=tk})->
  codeAny (à prog w) A (.builtin "min.loop" ⟨[.ref I,.none,.ref S],kw⟩) R s:=by
 have ϑ:(toString "min" ++ toString ".loop" : String) = "min.loop":=by decide
 have hSw:S∉[I]:=by simp[dI]
 intro k;induction k with
 |zero =>
  intro j s vb c hk hj ņ hT hPb hS hR;have hin:j+1=items.size:=by lia
  refine ν PySem.F.entry_min_loop ?_;rw[ŭ PySem.F.plain_min_loop _];show wpAny _ A.in1 (ϊ (.ref S) >>= _) _ _ s;refine Ã<|ŝ hS rfl ?_;show wpAny _ A.in1 (tryCatch (Ο<|.ref I) _ >>= _) _ _ s;refine Ã<|Γ<|W.done s _ _ (hin▸ņ) λh' tk bu=>?_;have hS':=bu S _ hSw hS;show wpAny _ A.in1 (updateSeq S (λ_=>#[]) >>= _) _ _ _;refine Ã ?_;refine bC hS' rfl<|Ã<|bo<|Ò ?_;refine hR vb _ tk (by rw[<-hin];exact hPb) λb o hbw hbS e=>(ā _ _<|Ne.symm hbS).trans (bu b o (by simpa using hbw) e)
 |succ k ih =>
  intro j s vb c hk hj ņ hT hPb hS hR;have Ϙ:j+1<items.size:=by lia
  refine ν PySem.F.entry_min_loop ?_;rw[ŭ PySem.F.plain_min_loop _];show wpAny _ A.in1 (ϊ (.ref S) >>= _) _ _ s;refine Ã<|ŝ hS rfl ?_;show wpAny _ A.in1 (tryCatch (Ο<|.ref I) _ >>= _) _ _ s;refine Ã<|Γ<|W.item (j+1) s _ _ Ϙ ņ λv h' tk hP hst' bu=>?_;have hS':=bu S _ hSw hS;have dJ:TupsH I S items val h':=hT.keep λb o h1 _ e=>bu b o (by simpa using h1) e;have hP:items[j+1]?=d7 v:=hP;obtain⟨a,ì,rfl,_,_,pa,ia⟩:=dJ _ _ hP;obtain⟨b0,al,rfl,_,_,pb,ib⟩:=dJ _ _ hPb;show wpAny _ A.in1 (tryCatch (Ł [.ref a,.ref a]<|ë .Lt (.ref a) (.ref b0) >>= _) _ >>= _) _ _ _;refine Ã<|Γ<|ŕ<|Ã<|HT.lt_tupInts pa pb ia ib hu ?_;refine Ã<|ŕ<|ď ?_;refine Ã<|bo<|Ò ?_;cases hb:HT.lexLt (val<|j+1) (val<|đ (btL val) j)with
  |true =>
   have cH:btL val (j+1) (đ (btL val) j)=d9:=hb;simp only[if_true];refine Ã ?_;refine bC hS' rfl<|Ã<|bo ?_;rw[ϑ];refine Ò ⟨ź PySem.F.plain_min_loop _,ih (j+1) _ (.ref a) _ (by lia) Ϙ (W.frame _ _ _ hst' λb hbf o e=>?_) (dJ.keep λb o _ h2 e=>(ā _ _<|Ne.symm h2).trans e) (by simp only[đ,cH,if_true];exact hP) (ō _ hS' rfl)
     λv' h'' tk'' hP' hk''=>?_⟩
   .exact(ā _ _ λh:S=b=>hSf<|by rw[h];exact hbf).trans e
   .exact hR v' h'' tk'' hP' λb o hbw hbS e=>hk'' b o hbw hbS ((ā _ _<|Ne.symm hbS).trans<|bu b o (by simpa using hbw) e)
  |false =>have cH:btL val (j+1) (đ (btL val) j)=ee:=hb;simp only[Ē,if_false];refine Ã<|bo ?_;rw[ϑ];refine Ò ⟨ź PySem.F.plain_min_loop _,ih (j+1) _ (.ref b0) c (by lia) Ϙ hst' dJ (by simp only[đ,cH,Ē,if_false];exact hPb) hS' λv' h'' tk'' hP' hk''=>?_⟩;exact hR v' h'' tk'' hP' λb o hbw hbS e=>hk'' b o hbw hbS (bu b o (by simpa using hbw) e)
variable {s:Å} {c:Nat}
def X5(W:Walks prog w A.in1 I fp [I] items.size (λi v=>items[i]?=d7 v) St)(hu:A.units+1<Ě)(S:È)(dI:S≠I)(hSf:S∉fp)(hn:0<items.size)(ņ:St 0 s.heap)(hT:TupsH I S items val s.heap)
  (hS:s.heap.get? S=d7 {cls:=.type "list",dict:=d8,data:=.seq #[] c,slots:=#[]})
  (hR:∀v h' tk,items[đ (btL val)<|items.size - 1]?=d7 v->(∀b o,b≠I->b≠S->s.heap.get? b=d7 o->h'.get? b=d7 o)->R (.ok<|.ret v) {s with heap:=h',toks:=tk}) :
  codeAny (à prog w) A (.builtin "min.loop" ⟨[.ref I,.none,.ref S],kw⟩) R s:=by
 have ϑ:(toString "min" ++ toString ".loop" : String) = "min.loop":=by decide
 have hSw:S∉[I]:=by simp[dI]
 refine ν PySem.F.entry_min_loop ?_;rw[ŭ PySem.F.plain_min_loop _];show wpAny _ A.in1 (ϊ (.ref S) >>= _) _ _ s;refine Ã<|ŝ hS rfl ?_;show wpAny _ A.in1 (tryCatch (Ο<|.ref I) _ >>= _) _ _ s;refine Ã<|Γ<|W.item 0 s _ _ hn ņ λv h' tk hP hst' bu=>?_;have hS':=bu S _ hSw hS;have dJ:TupsH I S items val h':=hT.keep λb o h1 _ e=>bu b o (by simpa using h1) e;show wpAny _ A.in1 (updateSeq S (λ_=>#[v,v]) >>= _) _ _ _;refine Ã ?_;refine bC hS' rfl ?_;rw[ϑ];refine Ò ⟨ź PySem.F.plain_min_loop _,Aj W hu S dI hSf _ 0 _ v _ rfl hn (W.frame _ _ _ hst' λb hbf o e=>?_) (dJ.keep λb o _ h2 e=>(ā _ _<|Ne.symm h2).trans e) hP (ō _ hS' rfl) λv' h'' tk'' hP' hk''=>?_⟩
 .exact(ā _ _ λh:S=b=>hSf<|by rw[h];exact hbf).trans e
 .exact hR v' h'' tk'' hP' λb o hbw hbS e=>hk'' b o hbw hbS ((ā _ _<|Ne.symm hbS).trans<|bu b o (by simpa using hbw) e)
def AJ(hh:A.handled=d8)(hlI:l≠I)(S:È)(dI:S≠I)(hn:items.size=0){nm:Str}{d:Â}(ņ:s.heap.IsListIter I l 0/\s.heap.IsList l items)
  (hS:s.heap.get? S=d7 {cls:=.type "list",dict:=d8,data:=.seq #[] c,slots:=#[]})
  (hR:∀h' tk,(∀b o,b≠I->s.heap.get? b=d7 o->h'.get? b=d7 o)->R (.ok<|.ret d) {s with heap:=h',toks:=tk}) :
  codeAny (à prog w) A (.builtin "min.loop" ⟨[.ref I,.none,.ref S],[(nm,d)]⟩) R s:=by
 have W:=Walks.list (prog:=prog) (w:=w) (A:=A.in1) hh I l hlI items;refine ν PySem.F.entry_min_loop ?_;rw[ŭ PySem.F.plain_min_loop _];show wpAny _ A.in1 (ϊ (.ref S) >>= _) _ _ s;refine Ã<|ŝ hS rfl ?_;show wpAny _ A.in1 (tryCatch (Ο<|.ref I) _ >>= _) _ _ s;refine Ã (Γ<|W.done s _ _ (by rw[hn];exact ņ) λh' tk bu=>?_);show wpAny _ A.in1 (rule _ >>= λ_=>ret d) _ _ _;exact Ã (bV<|Ò<|hR h' tk λb o hb e=>bu b o (by simpa using hb) e)
end
def Af(a:Â):bY "min" ⟨[a],[(gh "default",.none)]⟩:=by unfold bY;kernel_rfl
def JP(bt:Nat->Nat->Bool):∀k,đ bt k<=k
 |0=>Í _
 |k+1=>by
  unfold đ;split
  .exact Í _
  .exact Nat.le_succ_of_le<|JP bt k
def Wo:∀{xs:List V}{us:List Â}{i:Nat}{u:Â},fR xs us->us[i]?=d7 u->∃x,xs[i]?=d7 x/\RelV x u
 |_,_,_,_,.nil,e=>by simp at e
 |_,_,0,_,.cons r _,e=>by simp at e;subst e;exact⟨_,rfl,r⟩
 |_,_,i+1,_,.cons _ t,e=>by obtain⟨x,h1,h2⟩:=Wo (i:=i) t (by simpa using e);exact⟨x,by simpa using h1,h2⟩
section
variable {X:Cx}
variable {Á:List (È×Obj)} {s:Å} {σ:St} {H:Hp} {a:È} {xs:List V} {Ć:List (List Int)} {Q:VK}
def Ar(hc:X.calm=d9)(hu:X.A.units+1<Ě)(I:Inv X Á σ H s)(hl:fP X.K H a xs)(hr:Ć.length=xs.length)
  (ht:∀i,i<Ć.length->∃p,xs[i]?=d7 (.ref p)/\fQ X.K H p ((Ć.getD i []).map V.int))
  (q0:xs=[]->Q .non H) (q1:xs≠[]->∀x,xs[đ (btL λi=>Ć.getD i [])<|xs.length - 1]?=d7 x->Q x H) :
  wpAny (à X.prog X.w) X.A (call (.builtin "min") [.ref a] [(gh "default",.none)]) (EP X Á σ Q) X.xe s:=by
 have ϑ:(toString "min" ++ toString ".loop" : String) = "min.loop":=by decide
 obtain⟨ì,rv,pl,hz⟩:=I.list hl;have hlen:=rv.length;have bJ:=pl.isList;obtain⟨ol,hol,_⟩:=id bJ;have hll:a<s.heap.objs.size:=Ô hol;refine PyProof.Rows.kmk_tree PySem.F.kind_min PySem.F.plain_min PySem.F.entry_min (Af _) ?_;show wpAny _ X.A.in1 (Builtin.Builtins.bindParams "min" ["key","default"] 0 ⟨[],[(gh "default",.none)]⟩ >>= _) _ _ s;refine Ã (Ϫ (show Builtin.Builtins.bindParams "min" ["key","default"] 0 ⟨[],[(gh "default",.none)]⟩=pure [d8,d7 .none] from rfl) ?_);refine Ã<|Ò ?_;refine Ã<|Κ bJ ?_;refine Ã<|cU ?_<|Ň _;rw[ϑ];have hS:(s.heap.push {cls:=.type "list_iterator",data:=.fields #[.ref a,.int 0 0]}).objs.size=s.heap.objs.size+1:=size_push' ..;have hlI:a≠s.heap.objs.size:=ç hll;have dI:(s.heap.push {cls:=.type "list_iterator",data:=.fields #[.ref a,.int 0 0]}).objs.size≠s.heap.objs.size:=by rw[hS];exact Ŋ<|Ā _
 have hSl:(s.heap.push {cls:=.type "list_iterator",data:=.fields #[.ref a,.int 0 0]}).objs.size≠a:=by rw[hS];exact Ŋ<|Ĉ hll
 have kk:∀b o,s.heap.get? b=d7 o->((s.heap.push {cls:=.type "list_iterator",data:=.fields #[.ref a,.int 0 0]}).push<|Ů "list" #[] 0).get? b=d7 o:=λb o e=>Ä _<|Ä _ e;have gI:((s.heap.push {cls:=.type "list_iterator",data:=.fields #[.ref a,.int 0 0]}).push<|Ů "list" #[] 0).get? s.heap.objs.size=d7 {cls:=.type "list_iterator",data:=.fields #[.ref a,.int 0 0]} :=
  Ä _ (Ö _ rfl)
 have gS:((s.heap.push {cls:=.type "list_iterator",data:=.fields #[.ref a,.int 0 0]}).push<|Ů "list" #[] 0).get? (s.heap.push {cls:=.type "list_iterator",data:=.fields #[.ref a,.int 0 0]}).objs.size=d7 (Ů "list" #[] 0):=Ö _ rfl;have Β:∀b o,s.heap.get? b=d7 o->b≠s.heap.objs.size/\b≠(s.heap.push {cls:=.type "list_iterator",data:=.fields #[.ref a,.int 0 0]}).objs.size:=λb o e=>by have:=Ô e;rw[hS];exact⟨ç this,ç<|Ĉ this⟩
 have ņ:Heap.IsListIter ((s.heap.push {cls:=.type "list_iterator",data:=.fields #[.ref a,.int 0 0]}).push<|Ů "list" #[] 0) s.heap.objs.size a 0/\Heap.IsList ((s.heap.push {cls:=.type "list_iterator",data:=.fields #[.ref a,.int 0 0]}).push<|Ů "list" #[] 0) a ì.toArray:=by refine⟨⟨_,gI,rfl,rfl⟩,?_⟩;obtain⟨o,e,r⟩:=bJ;exact⟨o,kk _ _ e,r⟩
 refine Ò ⟨ź PySem.F.plain_min_loop _,?_⟩;by_cases h0:xs=[]
 .have hi:ì.toArray.size=0:=by rw[Ë,<-hlen,h0];rfl
  refine AJ (I:=s.heap.objs.size) (A:=X.A) (l:=a) (items:=ì.toArray) (I.ok.hd hc) hlI _ dI hi ņ gS λh' tk hk=>?_;exact⟨.non,H,I.kept (t':=tk) λb o e=>hk b o (Β b o e).1<|kk b o e,rfl,q0 h0⟩
 .have hi:0<ì.toArray.size:=by
   rw[Ë,<-hlen];exact Į.mpr h0
  refine X5 (A:=X.A) (items:=ì.toArray) (val:=λi=>Ć.getD i []) (Walks.list (A:=X.A.in1) (I.ok.hd hc) s.heap.objs.size a hlI ì.toArray) hu _ dI (λz=>(Æ.mp z).elim dI λz=>hSl<|Ý.mp z) hi ņ (λi v e=>?_) gS λv h' tk hv hk=>?_
  .have e:ì[i]?=d7 v:=by simpa using e
   have hi':i<Ć.length:=by rw[hr,hlen];exact(Ï.mp e).1
   obtain⟨p,bx,cK⟩:=ht i hi';obtain⟨x,hx,rx⟩:=Wo rv e;rw[bx]at hx;cases hx;obtain rfl:v=Value.ref p:=rx;obtain⟨tt,r2,⟨o2,e2,rest⟩,_⟩:=I.tuple cK;exact⟨p,tt.toArray,rfl,(Β p o2 e2).1,(Β p o2 e2).2,⟨o2,kk _ _ e2,rest⟩,Zq r2⟩
  .have hv:ì[đ (btL λi=>Ć.getD i [])<|xs.length - 1]?=d7 v:=by rw[hlen];simpa using hv
   obtain⟨x,hx,rx⟩:=Wo rv hv;exact⟨x,H,I.kept (t':=tk) λb o e=>hk b o (Β b o e).1 (Β b o e).2<|kk b o e,rx,q1 h0 x hx⟩
def OU(hc:X.calm=d9)(hu:X.A.units+1<Ě)(I:Inv X Á σ H s)(hl:fP X.K H a xs)(hr:Ć.length=xs.length)
  (ht:∀i,i<Ć.length->∃p,xs[i]?=d7 (.ref p)/\fQ X.K H p ((Ć.getD i []).map V.int))
  (h0:xs≠[]) (q1:∀x,xs[đ (btL λi=>Ć.getD i [])<|xs.length - 1]?=d7 x->Q x H) :
  wpAny (à X.prog X.w) X.A (call (.builtin "min") [.ref a]) (EP X Á σ Q) X.xe s:=by
 have ϑ:(toString "min" ++ toString ".loop" : String) = "min.loop":=by decide
 obtain⟨ì,rv,pl,hz⟩:=I.list hl;have hlen:=rv.length;have bJ:=pl.isList;obtain⟨ol,hol,_⟩:=id bJ;have hll:a<s.heap.objs.size:=Ô hol;refine call_function_tree PySem.F.kind_min PySem.F.plain_min PySem.F.entry_min (PySem.F.args_min1 _) ?_;show wpAny _ X.A.in1 (Builtin.Builtins.bindParams "min" ["key","default"] 0 ⟨[],[]⟩ >>= _) _ _ s;refine Ã (Ϫ (show Builtin.Builtins.bindParams "min" ["key","default"] 0 ⟨[],[]⟩=pure [d8,d8] from rfl) ?_);refine Ã<|Ò ?_;refine Ã<|Κ bJ ?_;refine Ã<|cU ?_<|Ň _;rw[ϑ];have hS:(s.heap.push {cls:=.type "list_iterator",data:=.fields #[.ref a,.int 0 0]}).objs.size=s.heap.objs.size+1:=size_push' ..;have hlI:a≠s.heap.objs.size:=ç hll;have dI:(s.heap.push {cls:=.type "list_iterator",data:=.fields #[.ref a,.int 0 0]}).objs.size≠s.heap.objs.size:=by rw[hS];exact Ŋ<|Ā _
 have hSl:(s.heap.push {cls:=.type "list_iterator",data:=.fields #[.ref a,.int 0 0]}).objs.size≠a:=by rw[hS];exact Ŋ<|Ĉ hll
 have kk:∀b o,s.heap.get? b=d7 o->((s.heap.push {cls:=.type "list_iterator",data:=.fields #[.ref a,.int 0 0]}).push<|Ů "list" #[] 0).get? b=d7 o:=λb o e=>Ä _<|Ä _ e;have gI:((s.heap.push {cls:=.type "list_iterator",data:=.fields #[.ref a,.int 0 0]}).push<|Ů "list" #[] 0).get? s.heap.objs.size=d7 {cls:=.type "list_iterator",data:=.fields #[.ref a,.int 0 0]} :=
  Ä _ (Ö _ rfl)
 have gS:((s.heap.push {cls:=.type "list_iterator",data:=.fields #[.ref a,.int 0 0]}).push<|Ů "list" #[] 0).get? (s.heap.push {cls:=.type "list_iterator",data:=.fields #[.ref a,.int 0 0]}).objs.size=d7 (Ů "list" #[] 0):=Ö _ rfl;have Β:∀b o,s.heap.get? b=d7 o->b≠s.heap.objs.size/\b≠(s.heap.push {cls:=.type "list_iterator",data:=.fields #[.ref a,.int 0 0]}).objs.size:=λb o e=>by have:=Ô e;rw[hS];exact⟨ç this,ç<|Ĉ this⟩
 have ņ:Heap.IsListIter ((s.heap.push {cls:=.type "list_iterator",data:=.fields #[.ref a,.int 0 0]}).push<|Ů "list" #[] 0) s.heap.objs.size a 0/\Heap.IsList ((s.heap.push {cls:=.type "list_iterator",data:=.fields #[.ref a,.int 0 0]}).push<|Ů "list" #[] 0) a ì.toArray:=by refine⟨⟨_,gI,rfl,rfl⟩,?_⟩;obtain⟨o,e,r⟩:=bJ;exact⟨o,kk _ _ e,r⟩
 refine Ò ⟨ź PySem.F.plain_min_loop _,?_⟩;have hi:0<ì.toArray.size:=by rw[Ë,<-hlen];exact Į.mpr h0
 refine X5 (A:=X.A) (items:=ì.toArray) (val:=λi=>Ć.getD i []) (Walks.list (A:=X.A.in1) (I.ok.hd hc) s.heap.objs.size a hlI ì.toArray) hu _ dI (λz=>(Æ.mp z).elim dI λz=>hSl<|Ý.mp z) hi ņ (λi v e=>?_) gS λv h' tk hv hk=>?_
 .have e:ì[i]?=d7 v:=by simpa using e
  have hi':i<Ć.length:=by rw[hr,hlen];exact(Ï.mp e).1
  obtain⟨p,bx,cK⟩:=ht i hi';obtain⟨x,hx,rx⟩:=Wo rv e;rw[bx]at hx;cases hx;obtain rfl:v=Value.ref p:=rx;obtain⟨tt,r2,⟨o2,e2,rest⟩,_⟩:=I.tuple cK;exact⟨p,tt.toArray,rfl,(Β p o2 e2).1,(Β p o2 e2).2,⟨o2,kk _ _ e2,rest⟩,Zq r2⟩
 .have hv:ì[đ (btL λi=>Ć.getD i [])<|xs.length - 1]?=d7 v:=by rw[hlen];simpa using hv
  obtain⟨x,hx,rx⟩:=Wo rv hv;exact⟨x,H,I.kept (t':=tk) λb o e=>hk b o (Β b o e).1 (Β b o e).2<|kk b o e,rx,q1 x hx⟩
def Of(hc:X.calm=d9)(hu:X.A.units+1<Ě):eM X (.builtin "min") λxs H Q=>∃p q,∃ns ms:List Int,xs=[.ref p,.ref q]/\fQ X.K H p (ns.map V.int)/\fQ X.K H q (ms.map V.int)/\Q (if HT.lexLt ms ns=d9 then .ref q else .ref p) H:=by
 intro Á s σ H xs us Q I r h;obtain⟨p,q,ns,ms,rfl,hp,hq,q1⟩:=h;obtain⟨u,v,rfl,ru,rv⟩:=WV r;cases ru;cases rv;have ϑ:(toString "min" ++ toString ".loop" : String) = "min.loop":=by decide
 refine call_function_tree PySem.F.kind_min PySem.F.plain_min PySem.F.entry_min (PySem.F.args_min2 _ _) ?_;show wpAny _ X.A.in1 (Builtin.Builtins.bindParams "min" ["key","default"] 0 ⟨[],[]⟩ >>= _) _ _ s;refine Ã (Ϫ (show Builtin.Builtins.bindParams "min" ["key","default"] 0 ⟨[],[]⟩=pure [d8,d8] from rfl) ?_);show wpAny _ X.A.in1 (newTuple [.ref p,.ref q] >>= _) _ _ s;refine Ã<|Đ ?_;have hT:(s.heap.push {cls:=.type "tuple",data:=.seq #[.ref p,.ref q]}).IsTuple s.heap.objs.size #[.ref p,.ref q]:=⟨_,Ö _ rfl,rfl,0,rfl⟩
 refine Ã<|Ő hT ?_;refine Ã<|Đ ?_;rw[ϑ];generalize hg1:s.heap.push {cls:=.type "tuple",data:=.seq #[.ref p,.ref q]}=g1 at hT ⊢;have z1:g1.objs.size=s.heap.objs.size+1:=by rw[<-hg1];exact ń ..
 have k1:∀b o,s.heap.get? b=d7 o->g1.get? b=d7 o:=λb o e=>by rw[<-hg1];exact Ä _ e
 generalize hg2:g1.push {cls:=.type "tuple_iterator",data:=.fields #[.ref s.heap.objs.size,.int 0 0]}=g2;have z2:g2.objs.size=g1.objs.size+1:=by rw[<-hg2];exact ń ..
 have k2:∀b o,g1.get? b=d7 o->g2.get? b=d7 o:=λb o e=>by rw[<-hg2];exact Ä _ e
 have i2:g2.get? g1.objs.size=d7 {cls:=.type "tuple_iterator",data:=.fields #[.ref s.heap.objs.size,.int 0 0]}:=by rw[<-hg2];exact Ö _ rfl
 refine Ò ⟨ź PySem.F.plain_min_loop _,?_⟩;have Β:∀b o,s.heap.get? b=d7 o->b≠g1.objs.size/\b≠g2.objs.size:=λb o e=>by have:=Ô e;exact⟨ç (by rw[z1];exact Ĉ this),ç<|by rw[z2,z1];exact Ĉ<|Ĉ this⟩
 have n1:s.heap.objs.size≠g1.objs.size:=by rw[z1];exact ç<|Ā _
 have n2:g2.objs.size≠g1.objs.size:=by rw[z2];exact Ŋ<|Ā _
 have n3:g2.objs.size≠s.heap.objs.size:=by rw[z2,z1];exact Ŋ<|Ĉ<|Ā _
 refine X5 (A:=X.A) (items:=#[.ref p,.ref q]) (val:=λi=>[ns,ms].getD i []) (Walks.tuple (A:=X.A.in1) (I.ok.hd hc) g1.objs.size s.heap.objs.size n1 #[.ref p,.ref q]) hu g2.objs.size n2 (λz=>(Æ.mp z).elim n2 λz=>n3<|Ý.mp z) (Nat.succ_pos _) ⟨⟨_,Ä _ i2,rfl,rfl⟩,?_⟩ (λi v e=>?_) (Ö _ rfl) λv h' tk hv hk=>?_
 .obtain⟨o,e,r⟩:=hT;exact⟨o,Ä _<|k2 _ _ e,r⟩
 .have key:∀a (ks:List Int),fQ X.K H a (ks.map V.int)->∃b ì,(Value.ref a)=.ref b/\b≠g1.objs.size/\b≠g2.objs.size/\ϙ (g2.push {cls:=.type "list",data:=.seq #[]}) b ì/\Ė ì.toList ks:=λa ks ha=>by
   obtain⟨tt,r2,⟨o2,e2,rest⟩,_⟩:=I.tuple ha;exact⟨a,tt.toArray,rfl,(Β a o2 e2).1,(Β a o2 e2).2,⟨o2,Ä _<|k2 _ _<|k1 _ _ e2,rest⟩,Zq r2⟩
  match i,e with
  |0,e=>cases e;exact key p ns hp
  |1,e=>cases e;exact key q ms hq
  |i+2,e=>simp at e
 .have eb:đ (btL λi=>[ns,ms].getD i []) 1=if HT.lexLt ms ns=d9 then 1 else 0:=rfl;have hv:(#[Value.ref p,Value.ref q]:Array Â)[đ (btL λi=>[ns,ms].getD i []) 1]?=d7 v:=hv;rw[eb]at hv;have I2:=I.kept (t':=tk) (h':=h') λb o e=>hk b o (Β b o e).1 (Β b o e).2<|Ä _<|k2 _ _<|k1 _ _ e;by_cases hl:HT.lexLt ms ns=d9
  .rw[fZ hl]at hv q1;have hv:d7 (Value.ref q)=d7 v:=hv;cases hv;exact⟨.ref q,H,I2,rfl,q1⟩
  .rw[f8 hl]at hv q1;have hv:d7 (Value.ref p)=d7 v:=hv;cases hv;exact⟨.ref p,H,I2,rfl,q1⟩
abbrev RC(K:Frag)(ta:TA):TE:=λσ H Q=>ta σ H λvs H1=>∃a xs,∃Ć:List<|List Int,vs=[.ref a]/\fP K H1 a xs/\Ć.length=xs.length/\
 (∀i,i<Ć.length->∃p,xs[i]?=d7 (.ref p)/\fQ K H1 p ((Ć.getD i []).map V.int))/\(xs=[]->Q .non H1)/\(xs≠[]->∀x,xs[đ (btL λi=>Ć.getD i [])<|xs.length - 1]?=d7 x->Q x H1)
def GB{e:Expr}{ta:TA}{p æ kp kpos:Pos}{kk:Nat}(hc:X.calm=d9)(hu:X.A.units+1<Ě)(hg:Gl X "min")(hm:X.mg "min" = d8)(ha:PA X [e] ta)(hs:Ì [e] X.env=[(ee,eval e X.env)]) :
  PE X (.Call (.Name "min" p) [e] [⟨d7 "default",.Constant .none kk kp,kpos⟩] æ) (RC X.K ta):=by
 intro Á s σ H Q I h;refine Ļ (XY (u:=.builtin "min") I hg hm (by kernel_rfl) ?_);refine PyProof.Rows.callWith_kw (e:=e) (rest:=[]) ?_ (by rw[hs];rfl) (by rw[hs];rfl) rfl rfl;refine thn (ha æ Á s σ H _ I h) λus s1 ⟨vs,H1,I1,r1,a,xs,Ć,ev,hl,hr,ht,q0,q1⟩=>?_;subst ev;obtain⟨u,rfl,ru⟩:=ZU r1;cases ru;refine PyProof.Rows.kws_cons<|thn (BH Á s1 σ H1 (λv H2=>v=.non/\H2=H1) I1 ⟨rfl,rfl⟩) λv s2 ⟨x,H2,I2,r2,e1,e2⟩=>PyProof.Rows.kws_nil ?_;subst e1 e2;obtain rfl:v=Value.none:=r2;exact Ar hc hu I2 hl hr ht q0 q1
def Wc{P:ê}{w:ý}:∀{ns:List Int}{vs:List (Key×Â)}{Ĭ:List Â},vs.map (·.1)=ns.map Sum.inl->Ĭ.length=vs.length->(∀(j:Nat) (v:Â),Ĭ[j]?=d7 v->∃(k:Key) (x:Â),vs[j]?=d7 (k,x)/\(Zg P w).is k v=d9)->Ė Ĭ ns
 |[],[],[],_,_,_=>.nil
 |[],_::_,_,h,_,_=>by cases h
 |_::_,[],_,h,_,_=>by cases h
 |[],[],_::_,_,h,_=>by cases h
 |_::_,_::_,[],_,h,_=>by cases h
 |n::ns,p::vs,u::Ĭ,h1,h2,h3=>by rw[Î,Î]at h1;injection h1 with h1 h1';obtain⟨k,x,e1,e2⟩:=h3 0 u rfl;simp at e1;subst e1;have h1:k=Sum.inl n:=h1;subst h1;obtain⟨t,rfl⟩:∃t,u=Value.int n t:=BM (k:=Sum.inl n) (u:=u) e2;exact .cons n t (Wc (P:=P) (w:=w) h1' (by simpa using h2) λj v e=>by simpa using h3 (j+1) v (by simpa using e))
def MR(hc:X.calm=d9):eM X (.builtin "sorted") (λxs H Q=>∃p kvs,∃ns:List Int,xs=[.ref p]/\Rd H p (.dK kvs)/\kvs.map (·.1)=ns.map Sum.inl/\ns.length<64/\∀l,H l=d8->Q (.ref l) (upd H l<|.lst<|(sortI ns).map V.int)):=by
 intro Á s σ H xs us Q I r h;obtain⟨p,kvs,ns,rfl,hp,hk,h64,q⟩:=h;obtain⟨u,rfl,rx⟩:=ZU r;cases rx;obtain⟨z,hsm,vs,ũ,dd⟩:=Wk I.hok hp;obtain⟨ep,da⟩:=dd.dictAt;have hlen:vs.length=ns.length:=by have:=congrArg List.length hk;simpa[ũ.length]using this
 refine Calls.call_function_entry kind_sorted plain_sorted entry_sorted (args_sorted1 _) ?_;unfold Builtin.«sorted»;refine Ã (m:=checkCount "sorted" 1 1 _)<|Ò ?_;refine Ã (PySem.W.kdu_collect (A:=X.A.in1) (PySem.W.kdl_dict (knd:=Zg X.prog X.w) (kvs:=vs) (ep:=ep) hsm) (I.ok.hd hc) da (by rw[<-ũ.length];exact z) λh' tk Ĭ hkeep hacc=>?_);have hl:Ĭ.toList.length=vs.length:=by rw[ē];exact hacc.1
 refine Ã (cU ?_<|by rw[hl,<-ũ.length];exact z);have hI:Ė Ĭ.toList ns:=Wc (P:=X.prog) (w:=X.w) (by rw[<-ũ.keys];exact hk) hl λj v e=>hacc.2 j v (by rw[<-Ρ];exact e);have hoL:(h'.push<|Ů "list" Ĭ.toList.toArray 0).get? h'.objs.size=d7 (Ů "list" Ĭ.toList.toArray 0):=Ö _ rfl;have I1:Inv X Á σ H {s with heap:=h',toks:=tk}:=I.kept hkeep;refine Ã (ŕ<|ī slot_list_sort ⟨_,hoL,rfl⟩ entry_list_sort (list_sort_tree hoL hI (by rw[hl,hlen];exact h64) λout cp a1 a2 a3=>⟨_,rfl,?_⟩)<|args_list_sort _);have e:=Jp a2 a3;subst e;obtain⟨n,he⟩:=sortedHeap_at (out:=out) hoL;refine Ò ⟨_,rfl,.ref h'.objs.size,_,I1.laid (a:=h'.objs.size) (o:=.lst<|(sortI ns).map V.int) (t':=tk) (λb o e=>?_) (Í _) ?_,rfl,q _<|I1.hok.fresh<|Í _⟩
 .have e:h'.get? b=d7 o:=e;have hb:=Ô e;rw[sortedHeap_old (ç hb)<|by rw[size_push'];exact Ĉ hb];exact Ä _ e
 .exact⟨by rw[À,X7];unfold Ú;lia,out.toList,n,Wx a1,by simpa[Ů]using he⟩
end
end L2
namespace Srt
open PySem.W PyProof.Rows
abbrev ok(n:Nat)(lt:Nat->Nat->Bool){α:Type}:KasT α->(α->Prop)->Prop
 |.ret a,Q=>Q a
 |.ask i j k,Q=>i<n/\j<n/\ok n lt (k<|lt i j) Q
section
variable {n:Nat}{lt:Nat->Nat->Bool}
abbrev K(p:Array Nat)(k:Nat):Nat:=p.getD k 0
structure Good(n:Nat)(p:Array Nat):Prop where
 sz:p.size=n
 pm:p.toList.Perm<|List.range n
variable {p:Array Nat}
def Good.at(g:Good n p)(h0:0<n)(k:Nat):K p k<n:=by
 unfold K;by_cases h:k<p.size
 .have e:p.getD k 0=p[k]:=by simp[Array.getD,h]
  rw[e];have:p[k]∈List.range n:=g.pm.mem_iff.mp (by simp);exact ť.mp this
 .have e:p.getD k 0=0:=by simp[Array.getD,h]
  rw[e];exact h0
def Good.rev(g:Good n p)(i j:Nat):Good n<|kas_rev p i j:=⟨(mirror_size ..).trans g.sz,(Array.perm_iff_toList_perm.mp<|mirror_perm ..).trans g.pm⟩
end
end Srt
namespace L2
open PySem PySem.Spec PyProof.Rows PySem.W
section
variable {prog:ê}{w:ý}{A:č}{E:Â->Å->Prop}{s:Å}
abbrev RowsAt(h:ü)(vs:List Â)(Ć:List<|List Int):Prop:=Ć.length=vs.length/\∀i,i<vs.length->∃p o ì n,vs.getD i Value.none=.ref p/\h.get? p=d7 o/\o.cls=.type "tuple"/\o.data=.seq ì n/\Ė ì.toList (Ć.getD i [])/\Ć.getD i []≠[]
def RowsAt.keep{h h':ü}{vs:List Â}{Ć:List (List Int)}(r:RowsAt h vs Ć)(k:∀b o,h.get? b=d7 o->o.cls=.type "tuple"->h'.get? b=d7 o):RowsAt h' vs Ć:=⟨r.1,λi hi=>by
  obtain⟨p,o,ì,n,h1,h2,h3,h4,h5⟩:=r.2 i hi
  exact⟨p,o,ì,n,h1,k p o h2 h3,h3,h4,h5⟩⟩
end
end L2
namespace Snd
open PySem L2
variable {i:Inf}{X:Cx}{Φ:fY.Fs}
def Ny{H:Hp}:∀{kvs:List (fY.Val×fY.Val)}{ps:List (Key×V)}{ns:List Int},RKs i.K H kvs ps->fY.keysOf kvs=d7 ns->ps.map (·.1)=ns.map Sum.inl
 |_,_,ns,.nil,e=>by have e:d7 []=d7 ns:=e;cases e;rfl
 |(k,v)::kvs,_,ns,.cons (c:=c) hk _ t,e=>by
  have e:fY.eL (k::kvs.map (·.1))=d7 ns:=e;cases k with
  |int j =>
   have e:(fY.eL (kvs.map (·.1))).map (j :: ·)=d7 ns:=e;obtain⟨ms,z,rfl⟩:=Ð.mp e;have ih:=Ny (ns:=ms) t z;cases c with
   |inl l =>have hk:j=l:=hk;subst hk;rw[Î,Î,ih]
   |inr _=>exact(show False from hk).elim
  |_=>cases e
def KH:∀{ys:List fY.Val}{ns:List Int},fY.eL ys=d7 ns->ys=ns.map .int
 |[],_,e=>by cases e;rfl
 |y::ys,ns,e=>by
  cases y with
  |int j =>obtain⟨ms,z,rfl⟩:=Ð.mp (show(fY.eL ys).map (j :: ·)=d7 ns from e);rw[Î,<-KH z]
  |_=>cases e
def JQ{H:Hp}:∀{xs:List fY.Val}{us:List V}{Ć:List (List Int)},RVs i.K H xs us->fY.rowsOf xs=d7 Ć->Ć.length=us.length/\(∀n,n<Ć.length->∃p,us[n]?=d7 (.ref p)/\fQ i.K H p ((Ć.getD n []).map V.int))/\xs=Ć.map λr=>.tup (r.map .int)
 |_,_,Ć,.nil,e=>by have e:d7 []=d7 Ć:=e;cases e;exact⟨rfl,λn h=>gf h<|Nat.not_lt_zero _,rfl⟩
 |v::xs,_,Ć,.cons r t,e=>by
  cases v with
  |tup ys =>
   obtain⟨ns,z1,e⟩:=á.mp (show(fY.eL ys).bind (λns=>(fY.rowsOf xs).map (ns :: ·))=d7 Ć from e);obtain⟨rs,z2,rfl⟩:=Ð.mp e;obtain⟨h1,h2,h3⟩:=JQ t z2;cases r with
   |tup hp hr =>
    have:=Zw z1 hr;subst this;refine⟨by rw[Ç,Ç,h1],λn hn=>?_,?_⟩
    .cases n with
     |zero=>exact⟨_,rfl,Zj hp⟩
     |succ n=>exact h2 n (by simpa using hn)
    .rw[Î,<-h3];have:ys=ns.map .int:=KH z1;rw[this]
  |_=>cases e
def Oo:fM i .sortedI (λxs H Q=>(∃p,∃ns:List Int,xs=[.ref p]/\fP i.K H p (ns.map V.int)/\ns.length<64/\∀l,H l=d8->Q (.ref l) (upd H l<|.lst<|(L2.sortI ns).map V.int))\/
    (∃p kvs,∃ns:List Int,xs=[.ref p]/\Rd H p (.dK kvs)/\kvs.map (·.1)=ns.map Sum.inl/\ns.length<64/\∀l,H l=d8->Q (.ref l) (upd H l<|.lst<|(L2.sortI ns).map V.int))):=by
 intro vs G H xs Q Qm g r w c;obtain⟨v,rfl,w⟩:=Xs w;obtain⟨x,rfl,rx⟩:=r.inv1;have key:∀(ns:List Int),(if ns.length<64 then fY.Rs.new (.lst<|(fY.sortI ns).map .int)else .no).wp G Qm->ns.length<64/\∀l,H l=d8->Q (.ref l) (upd H l<|.lst<|(L2.sortI ns).map V.int):=λns w=>by
  split at w
  .rename_i h64;exact⟨h64,YZ g (Oi w) c λp hp=>⟨_,ej,RVs.ints _⟩⟩
  .exact(Ze w).elim
 cases v with
 |ref a =>
  cases rx.ref_inv
  replace w:(fY.biSortedI G<|.ref a).wp G Qm:=w
  unfold fY.biSortedI fY.sortAny at w;dsimp only at w;cases z:G a with
  |none=>rw[z]at w;exact(Ze w).elim
  |some o =>
   rw[z]at w;cases o with
   |lst ys =>
    cases z2:fY.eL ys with
    |none=>simp only[z2]at w;exact(Ze w).elim
    |some ns =>simp only[z2]at w;obtain⟨us,h1,h2⟩:=g a _ z;have:=Zw z2 h2;subst this;exact .inl ⟨a,ns,rfl,fP.of h1,key ns w⟩
   |dct kvs =>
    cases z2:fY.keysOf kvs with
    |none=>simp only[z2]at w;exact(Ze w).elim
    |some ns =>simp only[z2]at w;obtain⟨ps,h1,h2⟩:=g a _ z;exact .inr ⟨a,ps,ns,rfl,.inl h1,Ny h2 z2,key ns w⟩
   |_=>exact(Ze w).elim
 |scr ns =>
  cases rx with
  |scr h=>exact .inl ⟨_,ns,rfl,Yp h,key ns w⟩
 |_=>exact(Ze w).elim
end Snd
namespace Snd
open PySem L2 PyProof.Rows
variable {i:Inf}{X:Cx}{Φ:fY.Fs}
def K8:∀(ns:List Int) (a:Int),a∈fY.dedup ns↔a∈ns
 |[],a=>Iff.rfl
 |x::xs,a=>by
  have ih:=K8 xs a;unfold fY.dedup;simp only[Æ,ġ,ih];constructor
  .rintro(h|h)
   .exact .inl h
   .exact .inr h.1
  .rintro(h|h)
   .exact .inl h
   .by_cases e:a=x
    .exact .inl e
    .exact .inr ⟨h,by simpa using e⟩
def WP:∀ns:List Int,(fY.dedup ns).Nodup
 |[]=>Ī
 |x::xs=>by unfold fY.dedup;rw[ĉ];refine⟨λh=>?_,List.Nodup.sublist Ϝ<|WP xs⟩;have:=(ġ.mp h).2;simp at this
def Kd:∀(ns Ĭ:List Int),Ĭ.Nodup->(ns.foldl ϖ Ĭ).Nodup/\∀a,a∈ns.foldl ϖ Ĭ↔a∈Ĭ\/a∈ns
 |[],Ĭ,h=>⟨h,λa=>by simp⟩
 |x::xs,Ĭ,h=>by
  have h2:(ϖ Ĭ x).Nodup/\∀a,a∈ϖ Ĭ x↔a∈Ĭ\/a=x:=by
   unfold ϖ;split
   .rename_i hc;have hm:x∈Ĭ:=by simpa using hc
    exact⟨h,λa=>⟨.inl,λz=>z.elim id λe=>e▸hm⟩⟩
   .rename_i hc;have hm:x∉Ĭ:=by simpa using hc
    refine⟨?_,λa=>by simp⟩;rw[é];refine⟨h,by simp,λa ha b hb=>?_⟩;rw[Ý.mp hb];exact λe=>hm<|e▸ha
  obtain⟨h3,h4⟩:=Kd xs (ϖ Ĭ x) h2.1;refine⟨h3,λa=>?_⟩;rw[ļ,h4,h2.2,Æ];constructor
  .rintro((z|z)|z)
   .exact .inl z
   .exact .inr<|.inl z
   .exact .inr<|.inr z
  .rintro(z|z|z)
   .exact .inl<|.inl z
   .exact .inl<|.inr z
   .exact .inr z
def D5(ns:List Int):(firstMet (λi=>ns.getD i 0) ns.length).Perm<|fY.dedup ns:=by
 have e:(List.range ns.length).map (λi=>ns.getD i 0)=ns:=by
  apply List.ext_getElem
  .simp
  .intro k h1 h2;simp at h1;simp[h1]
 unfold firstMet;rw[e];obtain⟨h1,h2⟩:=Kd ns [] Ī;refine(List.perm_ext_iff_of_nodup h1<|WP ns).mpr λa=>?_;rw[h2,K8];simp
def Gr(ns:List Int):(firstMet (λi=>ns.getD i 0) ns.length).length=(fY.dedup ns).length:=(D5 ns).length_eq
def B8{G:fY.Hs}{H:Hp}{v:fY.Val}{x:V}{ns:List Int}(g:RH i G H)(r:RV i.K H v x)(e:fY.sortOf G v=d7 ns):∃p,x=.ref p/\fP i.K H p (ns.map V.int):=by
 cases v with
 |ref a =>obtain⟨ys,z1,z2⟩:=á.mp (show(fY.eR<|G a).bind fY.eL=d7 ns from e);obtain⟨us,h1,h2⟩:=ZM g z1;have:=Zw z2 h2;subst this;exact⟨a,r.ref_inv,h1⟩
 |scr ms =>
  cases e;cases r with
  |scr h=>exact⟨_,rfl,Yp h⟩
 |_=>cases e
def K9:∀{xs:List fY.Val}{k n:Nat}{v:fY.Val},(fY.enumL k xs)[n]?=d7 v->∃x,xs[n]?=d7 x/\v=.tup [.int ((k+n:Nat):Int),x]
 |[],k,n,v,h=>by simp[fY.enumL]at h
 |x::xs,k,0,v,h=>by have h:d7 (fY.Val.tup [.int k,x])=d7 v:=h;cases h;exact⟨x,rfl,rfl⟩
 |x::xs,k,n+1,v,h=>by obtain⟨y,h1,h2⟩:=K9 (xs:=xs) (k:=k+1) (n:=n) (v:=v) (by simpa[fY.enumL]using h);refine⟨y,by simpa using h1,?_⟩;rw[h2,show k+1+n=k+(n+1) by lia]
def K6:∀(xs:List fY.Val) (k:Nat),(fY.enumL k xs).length=xs.length
 |[],_=>rfl
 |x::xs,k=>by show(fY.enumL (k+1) xs).length+1=xs.length+1;rw[K6 xs]
variable {xs:List fY.Val}
def DF{H0:Hp}{a:È}{us:List V}(ha:H0 a=d7 (.tup us)\/KT i.K a us)(ra:RVs i.K H0 xs us):ItOk i H0 (Ite i.K a) (λ_=>True) (fY.enumL 0 xs) where
 go:=λn G H v k g e hv=>by obtain⟨x,hx,rfl⟩:=K9 hv;have h1:fQ i.K H a us:=Zj<|ha.imp (k.t _ _) id;obtain⟨x',h5,h6⟩:=(ra.keep k).get hx;refine⟨⟨us,x',h1,h5⟩,λw H' ⟨p,e1,hp,e2⟩=>?_⟩;subst e1;have:=e2 us x' h1 h5;subst this;have k:=eZ.new (o:=.tup [.int n,x']) hp;refine⟨k,XF g hp,.tup (.inl ej)<|.cons ?_<|.cons (h6.keep k) .nil⟩;rw[ϵ];exact .int _
 stop:=λn G H k g e hn=>by have h1:fQ i.K H a us:=Zj<|ha.imp (k.t _ _) id;exact⟨us,h1,by rw[<-ra.length,<-K6 xs 0];exact hn⟩
def Ol{v:fY.Val}(h:fY.tupOf v=d7 xs):v=.tup xs:=by
 cases v with
 |tup ys=>cases h;rfl
 |_=>cases h
variable {p:Pos} {æ:Pos} {e:Expr} {m:fY.E}
def FG{es:List Expr}{kk:Nat}{tp:Pos}(hK:X.K=i.K)(hg:Gl X "enumerate")(hm:X.mg "enumerate" = d8)(he:PE X e<|tE X i Φ m)(hs:Ì [e] X.env=[(ee,eval e X.env)]) :
  PI X (.Tuple es kk tp) (.Call (.Name "enumerate" p) [e] [] æ) (tIt X i Φ<|.enum m) :=
 (Dw hg hm (Zv he fN hs) hs).imp λσ H R ⟨env,G,QI,Em,p,w,c⟩=>by
  change tE X i Φ m σ H _;refine one p w λv G1 H1 x k1 p1 rx q=>?_;obtain⟨xs,e1,q2⟩:=eC q;clear q;cases Ol e1;rw[hK];cases rx with
  |tup hp hr=>exact⟨_,rfl,⟨_,Zj hp⟩,c _ _ G1 H1 _ k1 p1.hp (DF hp hr) q2⟩
def DD{p2 pos2:Pos}(hc:X.calm=d9)(hK:X.K=i.K)(he:PE X e<|tE X i Φ m)(hg:Gl X "len")(hm:X.mg "len" = d8)(hg2:Gl X "set")(hm2:X.mg "set" = d8)(ņ:Ì [e] X.env=[(ee,eval e X.env)]) :
  PE X (.Call (.Name "len" p) [.Call (.Name "set" p2) [e] [] pos2] [] æ) (tE X i Φ<|.bi .lenSet<|.cons m .nil):=by
 refine(Zy AV hg hm (by kernel_rfl)<|Zv (WC Dp hg2 hm2 (by kernel_rfl) (Zv he fN ņ) (he:=ņ)) fN).imp λσ H Q ⟨env,G,Qm,Em,p,w,c⟩=>?_;change tE X i Φ m σ H _;refine one p w λv G1 H1 x k1 p1 r q=>?_
 replace q:(fY.biLenSet G1 v).wp G1 Qm:=q
 unfold fY.biLenSet at q;cases z:fY.sortOf G1 v with
 |none=>rw[z]at q;exact(Ze q).elim
 |some ns =>
  rw[z]at q;dsimp only at q;split at q
  .rename_i h4;obtain⟨a,rfl,hs⟩:=B8 p1.hp r z;refine⟨a,ns,rfl,by rw[hK];exact hs,h4,hc,λl S n hl hn=>?_⟩;have hn2:=hn.trans<|Gr ns;clear hn;subst hn2;have k2:eZ H1<|upd H1 l<|.set S (fY.dedup ns).length:=eZ.new hl;refine⟨l,S,_,rfl,ej,?_⟩;exact c _ G1 _ _ (k1.trans k2) (XF p1.hp hl) (.int _)<|Zi q
  .exact(Ze q).elim
end Snd
namespace L2
open PySem PySem.Spec PyProof.Rows
open PySem.Builtin
section
variable {prog:ê}{w:ý}{A:č}{E:Â->Å->Prop}
abbrev PairsH(I d:È)(items:Array Â)(aq:List<|Key×Â)(prog:ê)(w:ý)(h:ü):Prop:=∀(i:Nat) (v:Â),items[i]?=d7 v->∃(a:È) (key:Â) (p:Key×Â),v=.ref a/\a≠I/\a≠d/\aq[i]?=d7 p/\ϙ h a #[key,p.2]/\(Zg prog w).is p.1 key=d9
def PairsH.keep{I d:È}{items:Array Â}{aq:List (Key×Â)}{h h':ü}(t:PairsH I d items aq prog w h)(k:∀b o,b≠I->b≠d->h.get? b=d7 o->h'.get? b=d7 o):PairsH I d items aq prog w h':=λi v e=>by obtain⟨a,key,p,h1,h2,h3,h4,⟨o,q1,q2⟩,h5⟩:=t i v e;exact⟨a,key,p,h1,h2,h3,h4,⟨o,k a o h2 h3 q1,q2⟩,h5⟩
end
def KV.all{kvs:List (Key×V)}{aq:List (Key×Â)}(r:KV kvs aq):∀{m:List (Key×V)}{n:List (Key×Â)},KV m n->KV (kvs.foldl (λm p=>fe m p.1 p.2) m) (aq.foldl (λm p=>stored m p.1 p.2) n):=by
 unfold KV at r;induction r with
 |nil=>exact λh=>h
 |cons q t ih =>intro m n h;rename_i a b l1 l2;obtain⟨k,x⟩:=a;obtain⟨k2,u⟩:=b;obtain⟨e,rx⟩:=q;cases (show k=k2 from e);exact ih<|h.put k rx
def NB:entryFor table "list_reverseiterator.__next__" = d7 Builtin.«list_reverseiterator.__next__»:=entryFor_of_tree (by kernel_rfl)
def NG(a:Â):bY "list_reverseiterator.__next__" ⟨[a],[]⟩:=by unfold bY;kernel_rfl
def slot_rnext:Slot "list_reverseiterator" "__next__" "list_reverseiterator.__next__" :=
 .of (owner:="list_reverseiterator") (n:="__next__") (by rw[typeLookup_type,builtinLookup_eq_fast];kernel_rfl) (by decide +kernel) (by decide +kernel) (by decide +kernel)
  (by first|exact .inl (by decide +kernel)|exact .inr<|by decide +kernel) (by rw[isSubtype_type];kernel_rfl)
def Kn:Slot "list_reverseiterator" "__iter__" "list_reverseiterator.__iter__" :=
 .of (owner:="list_reverseiterator") (n:="__iter__") (by rw[typeLookup_type,builtinLookup_eq_fast];kernel_rfl) (by decide +kernel) (by decide +kernel) (by decide +kernel)
  (by first|exact .inl (by decide +kernel)|exact .inr<|by decide +kernel) (by rw[isSubtype_type];kernel_rfl)
def Dy:entryFor table "list_reverseiterator.__iter__" = d7 Builtin.«dict_keyiterator.__iter__» :=
 entryFor_alias (id':="dict_keyiterator.__iter__") (by kernel_rfl) (by first|rfl|decide +kernel|(unfold String.splitOn;simp +decide [String.splitOnAux])) (by decide +kernel) (by kernel_rfl)
def DV(a:Â):bY "list_reverseiterator.__iter__" ⟨[a],[]⟩:=by unfold bY;kernel_rfl
abbrev RevIt(h:ü)(it l:È)(k:Int):Prop:=∃o,h.get? it=d7 o/\o.cls=.type "list_reverseiterator"/\o.data=.fields #[.ref l,.int k 0]
section
variable {prog:ê}{w:ý}{A:č}{E:Â->Å->Prop}{s:Å}
variable {it:È} {l:È}
def RevIt.typeIs{k:Int}(h:RevIt s.heap it l k):s.TypeIs (.ref it) "list_reverseiterator":=by obtain⟨o,h1,h2,_⟩:=h;exact⟨o,h1,h2⟩
variable {Q:Option Â->Å->Prop}
def BP{k:Nat}{items:Array Â}{x:Â}(bH:RevIt s.heap it l k)(hl:s.heap.IsList l items)(hx:items[k]?=d7 x)
  (hQ:∀h',RevIt h' it l ((k:Int) - 1)->Ŧ it s.heap h'->Q (d7 x) {s with heap:=h'}):wpAny (à prog w) A (Ο<|.ref it) Q E s:=by
 have hT:=bH.typeIs;obtain⟨o,ho,hc,hd⟩:=id bH;obtain⟨ol,hol,_,nl,hdl⟩:=hl;unfold Ο;refine Ã<|cS<|Ĝ (name:=gh "__next__") hT slot_rnext<|ī slot_rnext hT NB ?_<|NG _;show wpAny _ _ (dm (.ref it) 1 >>= _) _ _ s;refine Ã<|ħ ho hd (x:=.int k 0) rfl ?_;refine wpAny_ite_split (λhab=>gf hab<|by lia) λ_=>?_;show wpAny _ _ (dm (.ref it) 0 >>= _) _ _ s;refine Ã<|ħ ho hd (x:=.ref l) rfl ?_;show wpAny _ _ (ϊ (.ref l) >>= _) _ _ s;refine Ã<|ŝ hol hdl ?_;simp only[ã,hx];refine Ã (Ϩ ho hd (by simp)<|Ò ⟨x,rfl,Ò<|hQ _ ?_<|Ε ..⟩);exact⟨_,ō _ ho<|cC<|μ hd _,(Obj.cls_mapFields ..).trans hc,by
   rw[μ hd];simp[aR]⟩
def E1(hh:A.handled=d8)(bH:RevIt s.heap it l (-1))(hQ:∀h',Heap.ExtBut it s.heap h'->Q d8 {s with heap:=h'}):wpAny (à prog w) A (Ο<|.ref it) Q E s:=by have hT:=bH.typeIs;obtain⟨o,ho,hc,hd⟩:=id bH;unfold Ο;refine Ã<|cS<|Ĝ (name:=gh "__next__") hT slot_rnext<|ī slot_rnext hT NB ?_<|NG _;show wpAny _ _ (dm (.ref it) 1 >>= _) _ _ s;refine Ã<|ħ ho hd (x:=.int (-1) 0) rfl ?_;refine wpAny_ite_split (λ_=>?_) (λhab=>gf (by decide) hab);refine Ã<|bV ?_;refine Ã ?_;show wpAny _ _ (newExc (.type "StopIteration") [] >>= _) _ _ _;refine Ã ?_;simp only[newExc,newTuple];refine Ã (Đ ?_<|by size_fits);refine Ã (m:=ϩ _ _) (Ϫ (a:=Value.none) (by first|rfl|(simp only[ϩ];rfl)) ?_);refine Đ ?_ (by size_fits);simp only[raiseNew];refine Ã<|wpAny_handled ?_;rw[show A.in1.handled=d8 from hh];refine Ã<|Ò<|wpAny_throw ?_;refine Ã<|wpAny_isInstance (T:="StopIteration") (b:=d9) ⟨_,Ö _ rfl,rfl⟩ isSubtype_stop ?_;exact Ò (hQ _ λb o _ e=>Ä _<|Ä _ e)
def Cg{k:Int}{Q:Â->Å->Prop}(bH:RevIt s.heap it l k)(h:Q (.ref it) s):wpAny (à prog w) A (pyIter<|.ref it) Q E s:=by have hT:=bH.typeIs;refine wpAny_pyIter_slot hT Kn<|ī Kn hT Dy ?_<|DV _;show wpAny _ _ (ret<|.ref it) _ _ s;exact Ò ⟨_,rfl,"list_reverseiterator",_,hT,slot_rnext.lookup,h⟩
end
def Walks.rev{prog:ê}{w:ý}{A:č}(hh:A.handled=d8)(I ax:È)(š:ax≠I)(items:Array Â) :
  Walks prog w A I [I,ax] [I] items.size (λi v=>items[items.size - 1 - i]?=d7 v) (λi h=>RevIt h I ax ((items.size:Int) - 1 - i)/\h.IsList ax items) where
 sub:=λb hb=>by simp at hb;simp[hb]
 frame:=λ_ _ _ st hk=>⟨by obtain⟨o,h1,h2⟩:=st.1;exact⟨o,hk I (by simp) o h1,h2⟩,st.2.at λo e=>hk ax (by simp) o e⟩
 item:=λi s Q E hi st hQ=>by
  have e:(items.size:Int) - 1 - i=((items.size - 1 - i:Nat):Int):=by lia
  rw[e]at st;have Ϙ:items.size - 1 - i<items.size:=by lia
  refine BP st.1 st.2 (x:=items[items.size - 1 - i]) (by simp[Ϙ]) λh' hit' hs'=>?_;exact hQ _ h' s.toks (by simp[Ϙ]) ⟨by rw[show(items.size:Int) - 1 - ((i+1:Nat):Int)=((items.size - 1 - i:Nat):Int) - 1 by lia];exact hit',st.2.extBut hs'.extBut š⟩ λb o hb e=>hs'.extBut b o (λh=>hb<|by simp[h]) e
 done:=λs Q E st hQ=>by rw[show(items.size:Int) - 1 - (items.size:Nat)=-1 by lia]at st;exact E1 hh st.1 λh' he'=>hQ h' s.toks λb o hb e=>he' b o (λh=>hb<|by simp[h]) e
 self:=λ_ _ _ _ st hQ=>Cg st.1 hQ
end L2
namespace Snd
open PySem L2
variable {i:Inf}{X:Cx}
variable {p:Int×Int}
def OK{v:fY.Val}(h:fY.pairI v=d7 p):v=.tup [.int p.1,.int p.2]:=by
 unfold fY.pairI at h;split at h
 .cases h;rfl
 .cases h
variable {H:Hp} {x:V}
def Nn{v:fY.Val}(r:RV i.K H v x)(h:fY.pairI v=d7 p):∃a,x=.ref a/\fQ i.K H a [.int p.1,.int p.2]:=by
 cases OK h;cases r with
 |tup hp hr =>
  cases hr with
  |cons r1 t=>cases t with
   |cons r2 t =>cases t;cases r1.int_inv;cases r2.int_inv;exact⟨_,rfl,Zj hp⟩
def A3:∀{ns:List Int},ns≠[]->fY.minI ns∈ns/\∀a∈ns,fY.minI ns<=a
 |[],h=>gf rfl h
 |x::r,_=>by
  show r.foldl (λa b=>if b<a then b else a) x∈x::r/\∀a∈x::r,r.foldl (λa b=>if b<a then b else a) x<=a;induction r generalizing x with
  |nil=>simp
  |cons y r ih =>
   rw[ļ];obtain⟨h1,h2⟩:=ih (if y<x then y else x) (by simp);refine⟨?_,λa ha=>?_⟩
   .rcases Æ.mp h1 with h1|h1
    .rw[h1];split<;>simp
    .exact Û _<|Û _ h1
   .have h3:=h2 _ î;have h4:(if y<x then y else x)<=x/\(if y<x then y else x)<=y:=by split<;>lia
    rcases Æ.mp ha with rfl|ha
    .exact Ϸ h3 h4.1
    .rcases Æ.mp ha with rfl|ha
     .exact Ϸ h3 h4.2
     .exact h2 a<|Û _ ha
def Az:∀{ns:List Int},ns≠[]->fY.maxI ns∈ns/\∀a∈ns,a<=fY.maxI ns
 |[],h=>gf rfl h
 |x::r,_=>by
  show r.foldl (λa b=>if b > a then b else a) x∈x::r/\∀a∈x::r,a<=r.foldl (λa b=>if b > a then b else a) x;induction r generalizing x with
  |nil=>simp
  |cons y r ih =>
   rw[ļ];obtain⟨h1,h2⟩:=ih (if y > x then y else x) (by simp);refine⟨?_,λa ha=>?_⟩
   .rcases Æ.mp h1 with h1|h1
    .rw[h1];split<;>simp
    .exact Û _<|Û _ h1
   .have h3:=h2 _ î;have h4:x<=(if y > x then y else x)/\y<=(if y > x then y else x):=by split<;>lia
    rcases Æ.mp ha with rfl|ha
    .exact Ϸ h4.1 h3
    .rcases Æ.mp ha with rfl|ha
     .exact Ϸ h4.2 h3
     .exact h2 a<|Û _ ha
def Nb{G:fY.Hs}{v:fY.Val}{ns:List Int}(g:RH i G H)(r:RV i.K H v x)(e:fY.intsAt G v=d7 ns):∃a,x=.ref a/\fP i.K H a (ns.map V.int):=by
 cases v with
 |ref a =>obtain⟨ys,e1,e2⟩:=á.mp (show(fY.eR<|G a).bind fY.eL=d7 ns from e);cases r.ref_inv;obtain⟨us,h1,h2⟩:=ZM g e1;cases Zw e2 h2;exact⟨a,rfl,h1⟩
 |_=>cases e
def EE:fM i .maxL λxs H Q=>(∃p k j,xs=[.ref p]/\fQ i.K H p [.int k,.int j]/\Q (.int<|if j > k then j else k) H)\/∃p,∃ns:List Int,xs=[.ref p]/\fP i.K H p (ns.map V.int)/\ns≠[]/\∀M,M∈ns->(∀a∈ns,a<=M)->Q (.int M) H:=by
 intro vs G H xs Q Qm g r w c;obtain⟨v,rfl,w2⟩:=Xs w;clear w;have w:=w2;clear w2;obtain⟨x,rfl,rx⟩:=r.inv1;unfold fY.biMaxL at w;cases z:fY.pairI v with
 |some p =>rw[z]at w;obtain⟨a,rfl,hs⟩:=Nn rx z;exact .inl ⟨a,p.1,p.2,rfl,hs,c _ G H _ (eZ.refl H) g (.int _)<|Zi w⟩
 |none =>
  rw[z]at w;dsimp only at w;cases z2:fY.intsAt G v with
  |none=>rw[z2]at w;exact(Ze w).elim
  |some ns =>
   rw[z2]at w;cases ns with
   |nil=>exact(Ze w).elim
   |cons n ns =>obtain⟨a,rfl,hs⟩:=Nb g rx z2;refine .inr ⟨a,n::ns,rfl,hs,by simp,λM h1 h2=>?_⟩;have h3:=Az (ns:=n::ns) (by simp);obtain rfl:M=fY.maxI (n::ns):=Int.le_antisymm (h3.2 _ h1)<|h2 _ h3.1;exact c _ G H _ (eZ.refl H) g (.int _)<|Zi w
variable {i:Inf}{X:Cx}{Φ:fY.Fs}
section
variable {K:Frag}{H H':Hp}
structure fL(H H':Hp):Prop where
 t:∀a xs,H a=d7 (.tup xs)->H' a=d7 (.tup xs)
 f:∀a o xs,H a=d7 (.frz o<|.lst xs)->H' a=d7 (.frz o<|.lst xs)
mutual
theorem RV.keepL(k:fL H H'):∀{v:fY.Val}{x:V},RV K H v x->RV K H' v x
 |_,_,.non=>.non
 |_,_,.bl b=>.bl b
 |_,_,.int i=>.int i
 |_,_,.str s=>.str s
 |_,_,.tup (.inl e) r=>.tup (.inl<|k.t _ _ e)<|RVs.keepL k r
 |_,_,.tup (.inr e) r=>.tup (.inr e)<|RVs.keepL k r
 |_,_,.ref a=>.ref a
 |_,_,.scr (.inl ⟨o,e⟩)=>.scr<|.inl ⟨o,k.f _ _ _ e⟩
 |_,_,.scr (.inr e)=>.scr<|.inr e
 |_,_,.key e=>.key<|k.t _ _ e
theorem RVs.keepL(k:fL H H'):∀{vs:List fY.Val}{xs:List V},RVs K H vs xs->RVs K H' vs xs
 |_,_,.nil=>.nil
 |_,_,.cons r t=>.cons (RV.keepL k r)<|RVs.keepL k t
end
def RKs.keepL(k:fL H H'):∀{kvs:List (fY.Val×fY.Val)}{ps:List (Key×V)},RKs K H kvs ps->RKs K H' kvs ps
 |_,_,.nil=>.nil
 |_,_,.cons a r t=>.cons a (r.keepL k)<|RKs.keepL k t
def RTs.keepL(k:fL H H'):∀{kvs:List (fY.Val×fY.Val)}{ps:List (List Key×V)},RTs K H kvs ps->RTs K H' kvs ps
 |_,_,.nil=>.nil
 |_,_,.cons r t=>.cons (r.keepL k)<|RTs.keepL k t
def RFs.keepL(k:fL H H'):∀{fs:List (String×fY.Val)}{ps:List (Str×V)},RFs K H fs ps->RFs K H' fs ps
 |_,_,.nil=>.nil
 |_,_,.cons r t=>.cons (r.keepL k)<|RFs.keepL k t
def REn.keepL{env:fY.Env}{σ:St}(r:REn K H env σ)(k:fL H H'):REn K H' env σ:=⟨r.len,λi v e=>by
  obtain⟨x,h1,h2⟩:=r.get i v e
  exact⟨x,h1,h2.keepL k⟩⟩
variable {a:È}
def RO.moveL{o:fY.Ob}(r:RO i H a o)(k:fL H H')(e:H' a=H a):RO i H' a o:=by
 cases o with
 |lst xs=>obtain⟨vs,q,r⟩:=r;exact⟨vs,e.trans q,r.keepL k⟩
 |dct kvs=>obtain⟨ps,q,r⟩:=r;exact⟨ps,e.trans q,r.keepL k⟩
 |ins C fs=>obtain⟨c,dx,ps,h0,h,q,r⟩:=r;exact⟨c,dx,ps,h0,h,e.trans q,r.keepL k⟩
 |exc C=>obtain⟨c,h,q⟩:=r;exact⟨c,h,e.trans q⟩
 |frz kvs=>obtain⟨o,ps,q,r⟩:=r;exact⟨o,ps,e.trans q,r.keepL k⟩
 |dtp kvs=>obtain⟨ps,q,r⟩:=r;exact⟨ps,e.trans q,r.keepL k⟩
variable {o:Obj} {ps:List (Key×V)}
def XC(e:H a=d7 (.frz o<|.dK ps)):fL H (upd H a<|.dK ps) :=
 ⟨λb xs q=>by rw[ei<|by rintro rfl;rw[e]at q;cases q];exact q,λb p xs q=>by rw[ei<|by rintro rfl;rw[e]at q;cases q];exact q⟩
def RH.thaw{G:fY.Hs}{kvs:List (fY.Val×fY.Val)}(g:RH i G H)(e:H a=d7 (.frz o<|.dK ps))(r:RKs i.K H kvs ps):RH i (fY.upd G a<|.dct kvs)<|upd H a<|.dK ps:=λb p q=>by
 by_cases hb:b=a
 .subst hb;rw[fY.ej]at q;cases q;exact⟨ps,ej,r.keepL<|XC e⟩
 .rw[fY.ei hb]at q;exact(g b p q).moveL (XC e)<|ei hb
def RKs.len:∀{kvs:List (fY.Val×fY.Val)}{ps:List (Key×V)},RKs K H kvs ps->kvs.length=ps.length
 |_,_,.nil=>rfl
 |_,_,.cons _ _ t=>by rw[Ç,Ç,RKs.len t]
def RKs.at:∀{kvs:List (fY.Val×fY.Val)}{ps:List (Key×V)}{n:Nat}{c:Key}{x:V},RKs K H kvs ps->ps[n]?=d7 (c,x)->∃k v,kvs[n]?=d7 (k,v)/\W1 k c/\RV K H v x
 |_,_,n,_,_,.nil,e=>by simp at e
 |_,_,0,_,_,.cons hk r _,e=>by simp at e;obtain⟨rfl,rfl⟩:=e;exact⟨_,_,rfl,hk,r⟩
 |_,_,n+1,_,_,.cons _ _ t,e=>by obtain⟨k,v,h1,h2⟩:=RKs.at (n:=n) t (by simpa using e);exact⟨k,v,by simpa using h1,h2⟩
def CI{k:fY.Val}{c:Key}(h:W1 k c):RV K H k<|kV c:=by
 cases k with
 |int j=>cases c with
  |inl l=>have h:j=l:=h;subst h;exact .int _
  |inr _=>exact(show False from h).elim
 |str s=>cases c with
  |inl _=>exact(show False from h).elim
  |inr t=>have h:t=gh s:=h;subst h;exact .str _
 |_=>exact(show False from h).elim
end
variable {H0:Hp} {a:È} {o:Obj} {ps:List (Key×V)} {kvs:List (fY.Val×fY.Val)}
def Dz(e0:H0 a=d7 (.frz o<|.dK ps))(r0:RKs i.K H0 kvs ps):ItOk i H0 (Iti a o ps) (λg=>g a=d7 (.frz kvs)) (kvs.map<|fY.itemOf ee) where
 go:=λn G H v k g e hv=>by
  have e1:=k.f _ _ _ e0;rw[Õ]at hv;obtain⟨p,hp,rfl⟩:=Ð.mp hv;have hn:n<ps.length:=by rw[<-r0.len];exact(Ï.mp hp).1
  refine⟨⟨e1,hn⟩,λx H' ⟨q,c,y,ex,hq,hy,eH⟩=>?_⟩;subst ex eH;obtain⟨k2,v2,h1,h2,h3⟩:=(r0.keep k).at hy;rw[hp]at h1;cases h1;have kk:eZ H<|upd H q<|.tup [kV c,y]:=eZ.new hq;exact⟨kk,XF g hq,.tup (.inl ej)<|.cons (CI h2)<|.cons (h3.keep kk) .nil⟩
 stop:=λn G H k g e hn=>⟨k.f _ _ _ e0,by rw[<-r0.len];simpa using hn⟩
def F8(e0:H0 a=d7 (.frz o<|.dK ps))(r0:RKs i.K H0 kvs ps):ItOk i H0 (Itk a o ps) (λg=>g a=d7 (.frz kvs)) (kvs.map<|fY.itemOf d9) where
 go:=λn G H v k g e hv=>by
  have e1:=k.f _ _ _ e0;rw[Õ]at hv;obtain⟨p,hp,rfl⟩:=Ð.mp hv;have hn:n<ps.length:=by rw[<-r0.len];exact(Ï.mp hp).1
  refine⟨⟨e1,hn⟩,λx H' ⟨eH,c,y,hy,ex⟩=>?_⟩;subst ex eH;obtain⟨k2,v2,h1,h2,h3⟩:=(r0.keep k).at hy;rw[hp]at h1;cases h1;exact⟨eZ.refl _,g,CI h2⟩
 stop:=λn G H k g e hn=>⟨k.f _ _ _ e0,by rw[<-r0.len];simpa using hn⟩
variable {tg:Expr} {æ:Pos} {body:List Ģ} {q:fY.Pt} {m:fY.E} {mb:fY.Ss}
def UB{Ť:Expr}{kb:Bool}{J:È->Obj->List (Key×V)->It}(hp:Α (à X.prog X.w) X.A X.env X.xe)(hc:X.calm=d9)(hi:PI X tg Ť<|I0 X J<|tE X i Φ m)(hg:PG X tg<|gPt i q)(hb:PSs X body<|tBl X i Φ mb)
  (hs:∀x,ĕ Ť X.env x=pure x) (hJ:∀(H0:Hp) (a:È) (o:Obj) (ps:List<|Key×V) (kvs:List<|fY.Val×fY.Val),H0 a=d7 (.frz o<|.dK ps)->RKs i.K H0 kvs ps->ItOk i H0 (J a o ps) (λg=>g a=d7 (.frz kvs)) (kvs.map<|fY.itemOf kb)) :
  PS X (.For tg Ť body [] æ) (tSt X i Φ<|.forI kb q m mb):=by
 intro Á s σ H D I ⟨env,G,N,R,B,C,Xe,p,w,c⟩;refine ER (CW hp hc hi hg hb hs) Á s σ H D I ?_;refine one p.pre w λv G1 H1 x k1 p1 rx w'=>?_;obtain⟨a,e1,w''⟩:=eC w';obtain⟨kvs,e2,w1⟩:=eC w'';clear w' w'';have ev:v=.ref a:=by
  cases v with
  |ref b=>cases e1;rfl
  |_=>cases e1
 subst ev;cases rx.ref_inv;have eG:G1 a=d7 (.dct kvs):=by
  cases z:G1 a with
  |none=>rw[z]at e2;cases e2
  |some o=>rw[z]at e2;cases o<;>first|(cases e2;rfl)|cases e2
 obtain⟨ps,ha,hr⟩:=p1.hp a _ eG;refine⟨a,ps,rfl,ha,λo h0=>?_⟩;have k2:eZ H1<|upd H1 a<|.frz o<|.dK ps:=eZ.put (λxs z=>by rw[ha]at z;cases z) λp u z=>by rw[ha]at z;cases z
 have g2:RH i (fY.upd G1 a<|.frz kvs)<|upd H1 a<|.frz o<|.dK ps:=p1.hp.put k2 ⟨o,ps,ej,hr.keep k2⟩;have it:=hJ _ a o ps kvs ej<|hr.keep k2;have Τ:∀{H':Hp}{G':fY.Hs},eZ (upd H1 a<|.frz o<|.dK ps) H'->RH i G' H'->H' a=d7 (.frz o<|.dK ps)/\RKs i.K H' kvs ps/\eZ H (upd H' a<|.dK ps):=λ{H' G'} k g=>by
  have e:=k.f a o _ ej;refine⟨e,(hr.keep k2).keep k,λb xs z=>?_,λb o' u z=>?_⟩
  .have z1:=k1.t b xs z;have hb:b≠a:=by rintro rfl;rw[ha]at z1;cases z1
   rw[ei hb];exact k.t b xs (by rw[ei hb];exact z1)
  .have z1:=k1.f b o' u z;have hb:b≠a:=by rintro rfl;rw[ha]at z1;cases z1
   rw[ei hb];exact k.f b o' u (by rw[ei hb];exact z1)
 have fin:∀ĳ Ŀ G' H',eZ (upd H1 a<|.frz o<|.dK ps) H'->RH i G' H'->REn i.K H' ĳ Ŀ->(G' a=d7 (.frz kvs)/\N ĳ (fY.upd G' a<|.dct kvs))->(D.thaw X).nx Ŀ H':=λĳ Ŀ G' H' k g en ⟨_,n⟩=>by obtain⟨b1,b2,b3⟩:=Τ k g;exact⟨a,o,ps,b1,h0,c.nx ĳ Ŀ _ _ b3 (g.thaw b1 b2) (en.keepL<|XC b1) n⟩
 have ret:∀v G' H' x,eZ (upd H1 a<|.frz o<|.dK ps) H'->RH i G' H'->RV i.K H' v x->(G' a=d7 (.frz kvs)/\R v (fY.upd G' a<|.dct kvs))->(D.thaw X).rt x H':=λv G' H' x k g r ⟨_,n⟩=>by obtain⟨b1,b2,b3⟩:=Τ k g;exact⟨a,o,ps,b1,h0,c.rt v _ _ x b3 (g.thaw b1 b2) (r.keepL<|XC b1) n⟩
 have xo:∀Hq,XW X (XKS i Hq λ_ _ _=>False):=λHq=>λ_ _ _ _ _ _ _ _ _ _ ⟨_,_,_,_,_,_,_,_,z⟩=>z.elim;generalize hxs:kvs.map (fY.itemOf kb)=xs at w1 it;generalize ņ:(λg:fY.Hs=>g a=d7 (.frz kvs))=st at w1 it;refine⟨λn m Ŀ H'=>n+m=xs.length/\∃ĳ G',eZ (upd H1 a<|.frz o<|.dK ps) H'/\RH i G' H'/\REn i.K H' ĳ Ŀ/\fY.wFor st (λv e g K M=>fY.go (fY.bind q g v e) λe2=>fY.wSs Φ mb e2 g K (λu g2=>g2 a=d7 (.frz kvs)/\R u (fY.upd g2 a<|.dct kvs)) M K λ_ _ _=>False) (λe g=>g a=d7 (.frz kvs)/\N e (fY.upd g a<|.dct kvs)) (xs.drop n) ĳ G',⟨xs.length,by lia,env,_,eZ.refl _,g2,(p.en.keep k1).keep k2,by simpa using w1⟩,?_⟩;rintro n m Ŀ H' ⟨hnm,ĳ,G',k3,g3,e3,w3⟩;by_cases hn:n<xs.length
 .right;have hd:xs.drop n=xs[n]::xs.drop (n+1):=υ hn;rw[hd]at w3;obtain⟨s2,w3⟩:=w3;have hv:xs[n]?=d7 xs[n]:=Ê hn;obtain⟨a1,a2⟩:=it.go n G' H' xs[n] k3 g3 s2 hv;refine⟨a1,λσ4 H4=>∃cA G4,eZ (upd H1 a<|.frz o<|.dK ps) H4/\RH i G4 H4/\REn i.K H4 cA σ4/\fY.wFor st (λv e g K M=>fY.go (fY.bind q g v e) λe2=>fY.wSs Φ mb e2 g K (λu g2=>g2 a=d7 (.frz kvs)/\R u (fY.upd g2 a<|.dct kvs)) M K λ_ _ _=>False) (λe g=>g a=d7 (.frz kvs)/\N e (fY.upd g a<|.dct kvs)) (xs.drop<|n+1) cA G4,λσ4 H4 h=>⟨m - 1,by lia,by lia,h⟩,λx H4 hy=>?_⟩;obtain⟨k4,g4,r4⟩:=a2 x H4 hy;obtain⟨aI,e5,w5⟩:=eC w3;refine⟨xs[n],ĳ,G',aI,r4,g4,e3.keep k4,e5,λdG h5=>?_⟩;refine⟨aI,G',_,_,_,_,_,⟨h5,g4,xo _⟩,w5,⟨λenv6 σ6 G6 H6 k6 g6 e6 w6=>?_,λv6 G6 H6 x6 k6 g6 r6 w6=>?_,λenv6 σ6 G6 H6 k6 g6 e6 w6=>?_,λenv6 σ6 G6 H6 k6 g6 e6 w6=>?_⟩⟩
  .exact⟨env6,G6,(k3.trans k4).trans k6,g6,e6,w6⟩
  .exact ret v6 G6 H6 x6 ((k3.trans k4).trans k6) g6 r6 w6
  .exact fin env6 σ6 G6 H6 ((k3.trans k4).trans k6) g6 e6 w6
  .exact⟨env6,G6,(k3.trans k4).trans k6,g6,e6,w6⟩
 .left;have hd:xs.drop n=[]:=ŉ (by lia);rw[hd]at w3;exact⟨it.stop n G' H' k3 g3 w3.1 (by lia),fin ĳ Ŀ G' H' k3 g3 e3 w3.2⟩
variable {kk:Nat} {d:Expr}
def ED{es:List Expr}{tp Ĳ ŀ:Pos}(hp:Α (à X.prog X.w) X.A X.env X.xe)(hc:X.calm=d9)(hd:PE X d<|tE X i Φ m)(hg:PG X (.Tuple es kk tp)<|gPt i q)(hb:PSs X body<|tBl X i Φ mb)
  (am:ģ d "items" X.env (eval d X.env)=eval d X.env) (ap:(Ĳ.endLine==ŀ.line)=d9) (hs:∀x,ĕ (.Call (.Attribute d "items" Ĳ) [] [] ŀ) X.env x=pure x) :
  PS X (.For (.Tuple es kk tp) (.Call (.Attribute d "items" Ĳ) [] [] ŀ) body [] æ) (tSt X i Φ<|.forI ee q m mb) :=
 UB hp hc (BA hd am ap) hg hb hs λ_ _ _ _ _ e r=>Dz e r
def EJ(hp:Α (à X.prog X.w) X.A X.env X.xe)(hc:X.calm=d9)(hd:PE X d<|tE X i Φ m)(hg:PG X tg<|gPt i q)(hb:PSs X body<|tBl X i Φ mb)(hs:∀x,ĕ d X.env x=pure x) :
  PS X (.For tg d body [] æ) (tSt X i Φ<|.forI d9 q m mb) :=
 UB hp hc (EC hd) hg hb hs λ_ _ _ _ _ e r=>F8 e r
def Nu(Ć:List<|List Int):∀(k:Nat) (x:List Int) (r:List<|List Int),Ć.take (k+1)=x::r->k<Ć.length->fY.minR x r=Ć.getD (đ (btL λn=>Ć.getD n []) k) []
 |0,x,r,h,hk=>by
  cases Ć with
  |nil=>cases h
  |cons y ys=>simp at h;obtain⟨rfl,rfl⟩:=h;rfl
 |k+1,x,r,h,hk=>by
  cases Ć with
  |nil=>cases h
  |cons y ys =>
   rw[ϝ]at h;injection h with h1 h2;subst h1 h2;have bu:k<ys.length:=by simpa using hk
   have ih:=Nu (y::ys) k y (ys.take k) (by rw[ϝ]) (by simp;lia);have e:ys.take (k+1)=ys.take k++[ys[k]]:=by rw[ő];simp[bu]
   have app:∀(b:List Int) (l:List<|List Int) (z:List Int),fY.minR b (l++[z])=if fY.fo z (fY.minR b l)then z else fY.minR b l:=by
    intro b l z;induction l generalizing b with
    |nil=>rfl
    |cons w l ih=>exact ih _
   rw[e,app,ih];have e2:(y::ys).getD (k+1) []=ys[k]:=by simp[bu]
   show _=(y::ys).getD (if btL (λn=>(y::ys).getD n []) (k+1) (đ (btL λn=>(y::ys).getD n []) k)=d9 then k+1 else đ (btL λn=>(y::ys).getD n []) k) [];have eb:btL (λn=>(y::ys).getD n []) (k+1) (đ (btL λn=>(y::ys).getD n []) k)=fY.fo ys[k] ((y::ys).getD (đ (btL λn=>(y::ys).getD n []) k) []):=by rw[Jj,<-e2];rfl
   rw[eb];cases fY.fo ys[k] ((y::ys).getD (đ (btL λn=>(y::ys).getD n []) k) [])with
   |true=>rw[fZ rfl,fZ rfl,e2]
   |false=>rw[f8 (by decide),f8<|by decide]
def U3{G:fY.Hs}{H:Hp}{xs:List fY.Val}{us:List V}{w:List Int}{r:List (List Int)}{y:V}(h2:RVs i.K H xs us)(h3:(w::r).length=us.length)(h5:xs=(w::r).map λn=>.tup<|n.map .int)(hy:us[đ (btL λn=>(w::r).getD n [])<|us.length - 1]?=d7 y):RV i.K H (.tup<|(fY.minR w r).map .int) y:=by
 rw[Nu (w::r) ((w::r).length - 1) w r (by simp)<|by simp];rw[<-h3]at hy;have Ϙ:đ (btL λn=>(w::r).getD n []) ((w::r).length - 1)<(w::r).length:=by have:=JP (btL λn=>(w::r).getD n [])<|(w::r).length - 1;simp only[Ç]at this ⊢;lia
 generalize hj:đ (btL λn=>(w::r).getD n []) ((w::r).length - 1)=j at hy Ϙ ⊢;have hxj:xs[j]?=d7 (.tup<|((w::r).getD j []).map .int):=by rw[h5,Õ,Ê Ϙ];simp[Ą,Ê Ϙ]
 obtain⟨x2,bP,rx2⟩:=h2.get hxj;rw[hy]at bP;cases bP;exact rx2
abbrev Bw(K:Frag):List V->Hp->VK->Prop:=λxs H Q=>∃a us,∃Ć:List<|List Int,xs=[.ref a]/\fP K H a us/\Ć.length=us.length/\(∀i,i<Ć.length->∃p,us[i]?=d7 (.ref p)/\fQ K H p ((Ć.getD i []).map V.int))/\us≠[]/\∀x,us[đ (btL λi=>Ć.getD i [])<|us.length - 1]?=d7 x->Q x H
def Av(hc:X.calm=d9)(hu:X.A.units+1<Ě):eM X (.builtin "min")<|Bw X.K:=by intro Á s σ H xs us Q I r h;obtain⟨a,us,Ć,rfl,hl,hr,ht,h0,q1⟩:=h;obtain⟨u,rfl,ru⟩:=ZU r;cases ru;exact OU hc hu I hl hr ht h0 q1
def Fu:fM i .min2 λxs H Q=>(∃i j,xs=[.int i,.int j]/\Q (.int<|if j<i then j else i) H)\/∃p q,∃ns ms:List Int,xs=[.ref p,.ref q]/\fQ i.K H p (ns.map V.int)/\fQ i.K H q (ms.map V.int)/\Q (if HT.lexLt ms ns=d9 then .ref q else .ref p) H:=by
 intro vs G H xs Q Qm g r w c;obtain⟨v,u,rfl,w2⟩:=BG w;clear w;have w:(fY.min2V v u).wp G Qm:=w2;clear w2;obtain⟨x,y,rfl,rx,ry⟩:=r.inv2;cases v with
 |int a =>
  cases u with
  |int b =>cases rx.int_inv;cases ry.int_inv;exact .inl ⟨a,b,rfl,c _ G H _ (eZ.refl H) g (.int _)<|Zi w⟩
  |_=>exact(Ze w).elim
 |tup vs =>
  cases u with
  |tup us =>
   have w:(match fY.eL vs,fY.eL us with|some ns,d7 ms=>.val (if fY.fo ms ns=d9 then .tup us else .tup vs)|_,_=>.no:fY.Rs).wp G Qm:=w;cases z1:fY.eL vs with
   |none=>rw[z1]at w;exact(Ze w).elim
   |some ns =>
    cases z2:fY.eL us with
    |none=>rw[z1,z2]at w;exact(Ze w).elim
    |some ms =>
     rw[z1,z2]at w;have w:=Zi w;cases rx with
     |tup hp hr =>
      cases ry with
      |tup hq hs =>
       have rp:=RV.tup hp hr;have rq:=RV.tup hq hs;cases Zw z1 hr;cases Zw z2 hs;refine .inr ⟨_,_,ns,ms,rfl,Zj hp,Zj hq,?_⟩;rw[<-Jj];by_cases hl:fY.fo ms ns=d9
       .rw[fZ hl]at w ⊢;exact c _ G H _ (eZ.refl H) g rq w
       .rw[f8 hl]at w ⊢;exact c _ G H _ (eZ.refl H) g rp w
  |_=>exact(Ze w).elim
 |_=>cases u<;>exact(Ze w).elim
def Gz:fM i .minL λxs H Q=>((∃p,∃ns:List Int,xs=[.ref p]/\fQ i.K H p (ns.map V.int)/\ns≠[]/\∀M,M∈ns->(∀a∈ns,M<=a)->Q (.int M) H)\/∃p,∃ns:List Int,xs=[.ref p]/\fP i.K H p (ns.map V.int)/\ns≠[]/\∀M,M∈ns->(∀a∈ns,M<=a)->Q (.int M) H)\/Bw i.K xs H Q:=by
 intro vs G H xs Q Qm g r w c;obtain⟨v,rfl,w2⟩:=Xs w;clear w;have w:=w2;clear w2;obtain⟨x,rfl,rx⟩:=r.inv1;unfold fY.biMinL at w;cases z:fY.pairI v with
 |some p =>
  rw[z]at w;obtain⟨a,rfl,hs⟩:=Nn rx z;refine .inl (.inl ⟨a,[p.1,p.2],rfl,hs,by simp,λM h1 h2=>?_⟩);have e:M=if p.2<p.1 then p.2 else p.1:=by have a1:=h2 p.1 (by simp);have a2:=h2 p.2 (by simp);simp only[Æ,Þ,or_false]at h1;split<;>lia
  rw[e];exact c _ G H _ (eZ.refl H) g (.int _)<|Zi w
 |none =>
  rw[z]at w;dsimp only at w;have rws:((match (fY.asLst G v).bind fY.rowsOf with|some (x::r)=>.val (.tup<|(fY.minR x r).map .int)|_=>.no:fY.Rs)).wp G Qm->Bw i.K [x] H Q:=λw=>by
   cases z3:(fY.asLst G v).bind fY.rowsOf with
   |none=>rw[z3]at w;exact(Ze w).elim
   |some Ć =>
    rw[z3]at w;cases Ć with
    |nil=>exact(Ze w).elim
    |cons y ys =>obtain⟨zs,z1,z2⟩:=á.mp z3;obtain⟨a,us,rfl,h1,h2⟩:=WE g rx z1;obtain⟨h3,h4,h5⟩:=JQ h2 z2;refine⟨a,us,_,rfl,h1,h3,h4,(λe=>by rw[e]at h3;cases h3),λx hx=>?_⟩;exact c _ G H _ (eZ.refl H) g (U3 (G:=G) h2 h3 h5 hx)<|Zi w
  cases z2:(fY.tupI v).or (fY.intsAt G v)with
  |none=>rw[z2]at w;exact .inr<|rws w
  |some ns =>
   rw[z2]at w;cases ns with
   |nil=>exact .inr<|rws w
   |cons n ns =>
    have fin:∀M,M∈n::ns->(∀a∈n::ns,M<=a)->Q (.int M) H:=λM h1 h2=>by have h3:=A3 (ns:=n::ns) (by simp);obtain rfl:M=fY.minI (n::ns):=Int.le_antisymm (h2 _ h3.1)<|h3.2 _ h1;exact c _ G H _ (eZ.refl H) g (.int _)<|Zi w
    cases v with
    |tup ys =>
     have z3:fY.eL ys=d7 (n::ns):=by
      have z4:(fY.eL ys).or d8=d7 (n::ns):=z2
      rwa [Option.or_none]at z4
     cases rx with
     |tup hp hr =>cases Zw z3 hr;exact .inl (.inl ⟨_,_,rfl,Zj hp,by simp,fin⟩)
    |ref b =>obtain⟨a,rfl,hs⟩:=Nb g rx z2;exact .inl (.inr ⟨a,n::ns,rfl,hs,by simp,fin⟩)
    |_=>cases z2
def IU{e:Expr}{p kp kpos:Pos}(hc:X.calm=d9)(hu:X.A.units+1<Ě)(hK:X.K=i.K)(hg:Gl X "min")(hm:X.mg "min" = d8)(he:PE X e<|tE X i Φ m)(hs:Ì [e] X.env=[(ee,eval e X.env)]) :
  PE X (.Call (.Name "min" p) [e] [⟨d7 "default",.Constant .none kk kp,kpos⟩] æ) (tE X i Φ<|.bi .minD<|.cons m .nil):=by
 refine(GB hc hu hg hm (Zv he fN<|by rw[hs];rfl) hs).imp λσ H Q ⟨env,G,Qm,Em,p,w,c⟩=>?_;change tE X i Φ m σ H _;refine one p w λv G1 H1 x k1 p1 r q=>?_
 replace q:(fY.fB G1 v).wp G1 Qm:=q
 cases v with
 |ref a =>
  cases r.ref_inv;unfold fY.fB at q;dsimp only at q;cases z:(fY.eR<|G1 a).bind fY.rowsOf with
  |none=>rw[z]at q;exact(Ze q).elim
  |some Ć =>
   obtain⟨xs,z1,z2⟩:=á.mp z;obtain⟨us,h1,h2⟩:=ZM p1.hp z1;obtain⟨h3,h4,h5⟩:=JQ h2 z2;rw[z]at q;refine⟨a,us,Ć,rfl,by rw[hK];exact h1,h3,by rw[hK];exact h4,λe0=>?_,λe0 y hy=>?_⟩
   .subst e0;cases Ć with
    |nil=>exact c _ G1 H1 _ k1 p1.hp .non<|Zi q
    |cons _ _=>cases h3
   .cases Ć with
    |nil=>exact gf (Ţ.mp h3.symm) e0
    |cons w r =>exact c _ G1 H1 _ k1 p1.hp (U3 (G:=G1) h2 h3 h5 hy)<|Zi q
 |_=>exact(Ze q).elim
structure Md where
 N:List Str
 sc:ų
 cs:List<|String×fY.Val
 fs:List String
 cm:Bool
 cl:List String
 ms:List<|String×String
 fl:List String
 xs:List String
abbrev Md.nmOf(c:Md)(j:Nat):Str:=c.N.getD j Str.empty
abbrev Md.vis(c:Md)(x:Str):Bool:=match c.sc.names.lookup x with
 |some .local=>d9
 |some .cell=>d9
 |some .free=>d9
 |_=>ee
abbrev Md.loc(c:Md)(x:Str):Bool:=c.sc.names.lookup x==d7 .local||c.sc.names.lookup x==d7 .cell
abbrev Md.gl(c:Md)(x:Str):Bool:=c.sc.names.lookup x==d7 .globalImplicit
abbrev nm(x:Str):Bool:=!(x==("__debug__" : Str)) && !(x==("__classdict__" : Str)) && !(x==("__name__" : Str))
abbrev dE:Expr:=.Name Str.empty ⟨0,0,0,0⟩
abbrev mix:List (Option Expr)->List Expr->List Expr
 |k::ks,v::vs=>k.getD dE::v::mix ks vs
 |_,_=>[]
abbrev sub:Expr->List Expr
 |.BoolOp _ xs _=>xs
 |.BinOp a _ b _=>[a,b]
 |.UnaryOp _ a _=>[a]
 |.IfExp a b c _=>[a,b,c]
 |.Compare a _ bs _=>a::bs
 |.Call f as ks _=>f::(as++ks.map (·.value))
 |.FormattedValue a _ _ _=>[a]
 |.JoinedStr vs _=>vs
 |.Attribute a _ _=>[a]
 |.Subscript a b _=>[a,b]
 |.List es _=>es
 |.Tuple es _ _=>es
 |.Slice a b c _=>[a.getD dE,b.getD dE,c.getD dE]
 |.ListComp e gs _ _=>e::gs.flatMap λg=>g.target::g.iter::g.ifs
 |.Dict ks vs _=>mix ks vs
 |_=>[]
abbrev kid(x:Expr)(j:Nat):Expr:=(sub x).getD j dE
abbrev num:Expr->Nat
 |.Constant _ k _=>k
 |.Tuple _ k _=>k
 |_=>0
abbrev scp:Expr->ų
 |.ListComp _ _ s _=>s
 |_=>default
abbrev kwp:Expr->Pos
 |.Call _ _ (k::_) _=>k.pos
 |_=>⟨0,0,0,0⟩
abbrev OY:fY.Bop->Ψ
 |.add=>.Add
 |.sub=>.Sub
 |.mul=>.Mult
 |.fdiv=>.FloorDiv
 |.mod=>.Mod
 |.pow=>.Pow
abbrev W2:fY.Cop->bR
 |.eq=>.Eq
 |.ne=>.NotEq
 |.lt=>.Lt
 |.le=>.LtE
 |.gt=>.Gt
 |.ge=>.GtE
 |.isin=>.In
 |.notin=>.NotIn
 |.is=>.Is
 |.isnot=>.IsNot
 |.eqE=>.Eq
 |.neE=>.NotEq
 |.ntT=>.IsNot
abbrev Rg:fY.Val->Const
 |.non=>.none
 |.bl b=>.bool b
 |.int i=>.int i
 |.str s=>.str<|gh s
 |_=>.ellipsis
abbrev GZ:fY.Val->Bool
 |.non=>d9
 |.bl _=>d9
 |.int _=>d9
 |.str _=>d9
 |_=>ee
abbrev ZP:fY.E->Bool
 |.and _ _=>d9
 |_=>ee
abbrev YI:fY.E->Bool
 |.or _ _=>d9
 |_=>ee
abbrev Zr:fY.Tt->Bool
 |.and _ _=>d9
 |_=>ee
abbrev ZI:fY.Tt->Bool
 |.or _ _=>d9
 |_=>ee
abbrev rest(b:Bool)(x:Expr):Expr:=match b,x with
 |true,.BoolOp op (_::xs) p=>.BoolOp op xs p
 |_,x=>kid x 1
abbrev flat(b:Bool)(x:Expr):List Expr:=match b with
 |true=>sub x
 |false=>[x]
abbrev Ys:fY.Bi->Str
 |.len=>"len"
 |.int=>"int"
 |.str=>"str"
 |.bool=>"bool"
 |.abs=>"abs"
 |.min2=>"min"
 |.max2=>"max"
 |.minL=>"min"
 |.maxL=>"max"
 |.minD=>"min"
 |.sum=>"sum"
 |.all=>"all"
 |.any=>"any"
 |.sorted=>"sorted"
 |.sortedI=>"sorted"
 |.sortedSet=>"sorted"
 |.lenSet=>"len"
 |.list=>"list"
 |.tuple=>"tuple"
 |.dict=>"dict"
 |.isi _=>"isinstance"
 |.isx _=>"isinstance"
 |.isc _=>"isinstance"
 |.repr=>"repr"
 |.listRev=>"list"
 |.listRange=>"list"
 |.tupRange=>"tuple"
 |.dictEnum=>"dict"
abbrev Qh:fY.Bi->Option Str
 |.sortedSet=>d7 "set"
 |.lenSet=>d7 "set"
 |.listRev=>d7 "reversed"
 |.listRange=>d7 "range"
 |.tupRange=>d7 "range"
 |.dictEnum=>d7 "enumerate"
 |_=>d8
abbrev EY(Ts:List String)(x:Expr):Expr:=match Ts with
 |[T]=>.Name (gh T) x.pos
 |Ts=>.Tuple (Ts.zipIdx.map λp=>.Name (gh p.1) (kid x p.2).pos) (num x) x.pos
abbrev Pu(f:fY.Bi)(as:List Expr)(x:Expr):List Expr:=match Qh f with
 |some y=>[.Call (.Name y (kid (kid x 1) 0).pos) as [] (kid x 1).pos]
 |none=>match f with
  |.isi Ts=>as++[EY Ts<|kid x 2]
  |.isx Ts=>as++[EY Ts<|kid x 2]
  |.isc T=>as++[EY [T]<|kid x 2]
  |_=>as
abbrev Ug(f:fY.Bi)(x:Expr):List Expr:=match Qh f with
 |some _=>(sub<|kid x 1).tail
 |none=>(sub x).tail
abbrev Sh(f:fY.Bi)(x:Expr):List aD:=match f with
 |.minD=>[⟨d7 "default",.Constant .none (num<|kid x 2) (kid x 2).pos,kwp x⟩]
 |_=>[]
abbrev La:fY.Bm->Str
 |.append=>"append"
 |.extend=>"extend"
 |.pop=>"pop"
 |.popAt=>"pop"
 |.insert=>"insert"
 |.remove=>"remove"
 |.clear=>"clear"
 |.reverse=>"reverse"
 |.index=>"index"
 |.count=>"count"
 |.dget=>"get"
 |.dgetD=>"get"
 |.dpop=>"pop"
 |.dpopD=>"pop"
 |.setdefault=>"setdefault"
 |.join=>"join"
 |.split=>"split"
 |.replace=>"replace"
 |.upper=>"upper"
 |.partition=>"partition"
 |.sidx=>"index"
abbrev X9:List Expr->List (Option Expr)
 |k::_::r=>d7 k::X9 r
 |_=>[]
abbrev Bz:List Expr->List Expr
 |_::v::r=>v::Bz r
 |_=>[]
abbrev toP(p:fY.Pt)(c:Md)(x:Expr):Expr:=match p with
 |.one j=>.Name (c.nmOf j) x.pos
 |.many js=>.Tuple (js.zipIdx.map λp=>.Name (c.nmOf p.1) (kid x p.2).pos) (num x) x.pos
 |.nest j js=>.Tuple [.Name (c.nmOf j) (kid x 0).pos,.Tuple (js.zipIdx.map λp=>.Name (c.nmOf p.1) (kid (kid x 1) p.2).pos) (num<|kid x 1) (kid x 1).pos] (num x) x.pos
abbrev nmX:Expr->Str
 |.Name x _=>x
 |_=>Str.empty
abbrev YU:Expr->List Str
 |.Tuple es _ _=>es.map nmX
 |x=>[nmX x]
abbrev Md.blk(c:Md)(sc:ų)(x:List Str)(ö:List Nat):Md :=
 {N:=x++ö.map (λj=>c.N.getD j Str.empty),sc:={sc with names:=sc.names.map λ(n,k)=>if(k == .free&&c.sc.kind == .function&&c.sc.names.lookup n==d7 .cell)then(n,.cell)else(n,k)},cs:=c.cs,fs:=c.fs,cm:=c.cm,cl:=c.cl,ms:=c.ms,fl:=c.fl,xs:=c.xs}
abbrev Ab:fY.E->Bool
 |.cst (.str _)=>d9
 |_=>ee
mutual
noncomputable def toX:fY.E->Md->Expr->Expr
 |.cst v,_,x=>.Constant (Rg v) (num x) x.pos
 |.var j,c,x=>.Name (c.nmOf j) x.pos
 |.glob y _,_,x=>.Name (gh y) x.pos
 |.bin o a b,c,x=>.BinOp (toX a c<|kid x 0) (OY o) (toX b c<|kid x 1) x.pos
 |.neg a,c,x=>.UnaryOp .USub (toX a c<|kid x 0) x.pos
 |.not a,c,x=>.UnaryOp .Not (toX a c<|kid x 0) x.pos
 |.and a b,c,x=>.BoolOp .And (toX a c (kid x 0)::flat (ZP b) (toX b c<|rest (ZP b) x)) x.pos
 |.or a b,c,x=>.BoolOp .Or (toX a c (kid x 0)::flat (YI b) (toX b c<|rest (YI b) x)) x.pos
 |.cmp o a b,c,x=>.Compare (toX a c<|kid x 0) [W2 o] [toX b c<|kid x 1] x.pos
 |.chain o1 o2 a b d,c,x=>.Compare (toX a c<|kid x 0) [W2 o1,W2 o2] [toX b c<|kid x 1,toX d c<|kid x 2] x.pos
 |.call f as,c,x=>.Call (.Name (gh f) (kid x 0).pos) (toA as c (sub x).tail) [] x.pos
 |.make C as,c,x=>.Call (.Name (gh C) (kid x 0).pos) (toA as c (sub x).tail) [] x.pos
 |.meth _ m o as,c,x=>.Call (.Attribute (toX o c<|kid (kid x 0) 0) (gh m) (kid x 0).pos) (toA as c (sub x).tail) [] x.pos
 |.fld o f,c,x=>.Attribute (toX o c<|kid x 0) (gh f) x.pos
 |.bi f as,c,x=>.Call (.Name (Ys f) (kid x 0).pos) (Pu f (toA as c<|Ug f x) x) (Sh f x) x.pos
 |.bm m o as,c,x=>.Call (.Attribute (toX o c<|kid (kid x 0) 0) (La m) (kid x 0).pos) (toA as c (sub x).tail) [] x.pos
 |.idx a b,c,x=>.Subscript (toX a c<|kid x 0) (toX b c<|kid x 1) x.pos
 |.slc a lo hi,c,x=>.Subscript (toX a c<|kid x 0) (.Slice (toO lo c<|kid (kid x 1) 0) (toO hi c<|kid (kid x 1) 1) d8 (kid x 1).pos) x.pos
 |.rev a,c,x=>.Subscript (toX a c<|kid x 0) (.Slice d8 d8 (d7<|.UnaryOp .USub (.Constant (.int 1) (num<|kid (kid (kid x 1) 2) 0) (kid (kid (kid x 1) 2) 0).pos) (kid (kid x 1) 2).pos) (kid x 1).pos) x.pos
 |.tup es,c,x=>.Tuple (toA es c<|sub x) (num x) x.pos
 |.key es,c,x=>.Tuple (toA es c<|sub x) (num x) x.pos
 |.dctP,c,x=>.Dict [] [] x.pos
 |.lst es,c,x=>.List (toA es c<|sub x) x.pos
 |.dct es,c,x=>.Dict (X9<|toA es c<|sub x) (Bz<|toA es c<|sub x) x.pos
 |.ife t a b,c,x=>.IfExp (toT t c<|kid x 0) (toX a c<|kid x 1) (toX b c<|kid x 2) x.pos
 |.comp ö _ p it t e,c,x=>.ListComp (toX e (c.blk (scp x) (YU<|kid x 1) ö)<|kid x 0) [⟨toP p (c.blk (scp x) (YU<|kid x 1) ö)<|kid x 1,toI it c<|kid x 2,toF t (c.blk (scp x) (YU<|kid x 1) ö)<|kid x 3,0⟩] (scp x) x.pos
 |.fstr es,c,x=>.JoinedStr (toJ es c<|sub x) x.pos
 |.split o a,c,x=>.Call (.Attribute (toX o c<|kid (kid x 0) 0) "split" (kid x 0).pos) [toX a c<|kid x 1] [] x.pos
 |.repl o y z,c,x=>.Call (.Attribute (toX o c<|kid (kid x 0) 0) "replace" (kid x 0).pos) [.Constant (.str<|gh y) (num<|kid x 1) (kid x 1).pos,.Constant (.str<|gh z) (num<|kid x 2) (kid x 2).pos] [] x.pos
noncomputable def toA:fY.Es->Md->List Expr->List Expr
 |.nil,_,_=>[]
 |.cons e es,c,xs=>toX e c (xs.headD dE)::toA es c xs.tail
noncomputable def toJ:fY.Es->Md->List Expr->List Expr
 |.nil,_,_=>[]
 |.cons e es,c,xs=>(if Ab e then toX e c (xs.headD dE)else .FormattedValue (toX e c<|kid (xs.headD dE) 0) (-1) d8 (xs.headD dE).pos)::toJ es c xs.tail
noncomputable def toO:fY.Oe->Md->Expr->Option Expr
 |.none,_,_=>d8
 |.some e,c,x=>d7<|toX e c x
noncomputable def toT:fY.Tt->Md->Expr->Expr
 |.yes,_,x=>x
 |.val e,c,x=>toX e c x
 |.not t,c,x=>.UnaryOp .Not (toT t c<|kid x 0) x.pos
 |.and a b,c,x=>.BoolOp .And (toT a c (kid x 0)::flat (Zr b) (toT b c<|rest (Zr b) x)) x.pos
 |.or a b,c,x=>.BoolOp .Or (toT a c (kid x 0)::flat (ZI b) (toT b c<|rest (ZI b) x)) x.pos
noncomputable def toF:fY.Tt->Md->Expr->List Expr
 |.yes,_,_=>[]
 |.val e,c,x=>[toX e c x]
 |.not t,c,x=>[.UnaryOp .Not (toT t c<|kid x 0) x.pos]
 |.and a b,c,x=>[.BoolOp .And (toT a c (kid x 0)::flat (Zr b) (toT b c<|rest (Zr b) x)) x.pos]
 |.or a b,c,x=>[.BoolOp .Or (toT a c (kid x 0)::flat (ZI b) (toT b c<|rest (ZI b) x)) x.pos]
noncomputable def toI:fY.It->Md->Expr->Expr
 |.seq e,c,x=>toX e c x
 |.chars e,c,x=>toX e c x
 |.range a,c,x=>.Call (.Name "range" (kid x 0).pos) [toX a c<|kid x 1] [] x.pos
 |.range2 a b,c,x=>.Call (.Name "range" (kid x 0).pos) [toX a c<|kid x 1,toX b c<|kid x 2] [] x.pos
 |.enum e,c,x=>.Call (.Name "enumerate" (kid x 0).pos) [toX e c<|kid x 1] [] x.pos
 |.zip a b,c,x=>.Call (.Name "zip" (kid x 0).pos) [toX a c<|kid x 1,toX b c<|kid x 2] [] x.pos
 |.items e,c,x=>toX e c x
 |.rev e,c,x=>.Call (.Name "reversed" (kid x 0).pos) [toX e c<|kid x 1] [] x.pos
end
abbrev blts:List Str:=["isinstance","int","bool","str","list","tuple","dict","max","min","range","len","sorted","set","all","any","sum","enumerate","zip","reversed","abs","repr","ValueError"]
structure Kls(X:Cx)(i:Inf)(P:fY.Pg)(n:Nat)(c:Md):Prop where
 A:ClsA i
 F:∀f,c.fl.contains f=d9->FldOk i f
 mkc:∀C,c.cl.contains C=d9->∃a f,i.ins C=d9/\i.cl C a/\Mk i.K a f/\X.mg (gh C)=d7 (.ref a)/\Dfm X.prog X.w X.mg X.base i P n (C ++ ".__init__") f
 mth:∀C m,c.ms.contains (C,m)=d9->∃a f,(∀b,i.cl C b->b=a)/\Cls i.K a/\Meth i.K a (gh m) f/\Dfm X.prog X.w X.mg X.base i P n (C ++ "." ++ m) f
structure Xls(X:Cx)(i:Inf)(c:Md):Prop where
 xc:∀C a,i.xc C a->XCls i.K a/\PySem.W.kitOne i.K (.ref a) (.type "ValueError")=d7 d9
 rs:∀C,c.xs.contains C=d9->∃a,i.xc C a/\PyProof.Rows.OwnCls (gh C) a [.type "ValueError",.type "Exception",.type "BaseException",.type "object"] "ValueError.__new__" X.mg X.base
 kn:∀T,(c.xs.contains T||T == "ShutError")=d9->∃D,X.mg (gh T)=d7 (.ref D)/\∀C a,i.xc C a->PySem.W.kitOne i.K (.ref a) (.ref D)=d7 (fY.fO C T)/\(fY.fO C T=d9->PySem.W.exmOne i.K (.ref a) (.ref D)=d7 d9)
structure Gd(X:Cx)(i:Inf)(P:fY.Pg)(n:Nat)(c:Md):Prop where
 K:X.K=i.K
 N:X.N=c.N
 sc:X.env.scope=c.sc
 nd:c.N.Nodup
 un:X.A.units+200<Ě
 calm:c.cm=d9->X.calm=d9
 room:c.cm=d9->fh (2*n+1) X.A
 bl:∀x∈blts,X.mg x=d8
 dfs:∀f,c.fs.contains f=d9->Dfo X.prog X.w X.mg X.base i P n f
 cst:∀x v,c.cs.lookup x=d7 v->∃u y,X.mg (gh x)=d7 u/\RelV y u/\∀H,RV i.K H v y
 kl:Kls X i P n c
 xl:c.xs≠[]->Xls X i c
variable {X:Cx}{i:Inf}{P:fY.Pg}{n:Nat}{c:Md}
variable {x:Str}
def Gd.gl(g:Gd X i P n c)(h:c.gl x=d9):Gl X x:=by show X.env.scope.names.lookup x=_;rw[g.sc];exact eq_of_beq h
def Gd.vis(g:Gd X i P n c)(h:c.vis x=d9):Vis X.env.scope x:=by
 unfold Vis;rw[g.sc];unfold Md.vis at h;split at h
 .exact .inl (by assumption)
 .exact .inr (.inl<|by assumption)
 .exact .inr (.inr<|by assumption)
 .cases h
def Gd.loc(g:Gd X i P n c)(h:c.loc x=d9):L2.Loc X.env.scope x:=by
 unfold L2.Loc;rw[g.sc];rcases (Bool.or_eq_true ..).mp h with h|h
 .exact .inl<|eq_of_beq h
 .exact .inr<|eq_of_beq h
def Gd.rm(g:Gd X i P n c)(h:c.cm=d9):fh (2*n) X.A:=(g.room h).mono (Ų _)
def Wh(h:nm x=d9):(x==("__debug__" : Str))=ee/\(x==("__classdict__" : Str))=ee/\x≠"__name__":=by simp only[nm,bAq,Ğ]at h;exact⟨h.1.1,h.1.2,by simpa using h.2⟩
def Zm(e:fY.E)(c:Md)(x:Expr)(es:List Expr)(env:Env):Ì (toX e c x::es) env=(ee,eval (toX e c x) env)::Ì es env:=by cases e<;>rfl
def Ch(e:fY.E)(c:Md)(x:Expr):MH<|toX e c x:=by intro o j;cases e<;>rfl
variable {op:bR}
def E4(e:fY.E)(c:Md)(x:Expr):ķ op (toX e c x)=ee:=by cases e<;>rfl
def Lf(e:fY.E)(c:Md)(x:Expr)(env:Env):∀y,ĕ (toX e c x) env y=pure y:=by intro y;cases e<;>rfl
abbrev Yn:Expr->Bool
 |.Call (.Name _ _) [] _ _=>ee
 |_=>d9
variable {e:Expr}
def Yh(h:Yn e=d9)(f:Str)(env:Env):ģ e f env (eval e env)=eval e env:=by
 cases e with
 |Call g as ks p =>
  cases as with
  |cons _ _=>cases g<;>rfl
  |nil=>cases g with
   |Name x q=>cases h
   |_=>rfl
 |_=>rfl
abbrev Za:fY.Es->Nat
 |.nil=>0
 |.cons _ es=>Za es+1
def XH:∀(es:fY.Es) (c:Md) (xs:List Expr),(toA es c xs).length=Za es
 |.nil,_,_=>rfl
 |.cons _ es,c,xs=>by show(toA es c xs.tail).length+1=_;rw[XH es];rfl
def ZR(env:Env)(æ:Pos):∀(es:fY.Es) (c:Md) (xs:List Expr),(Ċ æ<|Ì (toA es c xs) env).any (·.1)=ee
 |.nil,_,_=>rfl
 |.cons e es,c,xs=>by show(Ċ æ<|Ì (toX e c (xs.headD dE)::toA es c xs.tail) env).any (·.1)=ee;rw[Zm];show(ee||(Ċ æ<|Ì (toA es c xs.tail) env).any (·.1))=ee;rw[ZR env æ es];rfl
def Jw(env:Env)(æ:Pos):∀(es:fY.Es) (c:Md) (xs:List Expr),(Ċ æ<|Ì (toA es c xs) env).all (λx=>!x.1)=d9
 |.nil,_,_=>rfl
 |.cons e es,c,xs=>by show(Ċ æ<|Ì (toX e c (xs.headD dE)::toA es c xs.tail) env).all (λx=>!x.1)=d9;rw[Zm];show(d9&&(Ċ æ<|Ì (toA es c xs.tail) env).all (λx=>!x.1))=d9;rw[Jw env æ es];rfl
abbrev ZE:fY.Pt->Bool
 |.one _=>d9
 |_=>ee
def Mo(p:fY.Pt)(x:Expr):((!ZE p)=d9->∃es k q,toP p c x=.Tuple es k q)/\((!ZE p)=ee->∃y q,toP p c x=.Name y q):=by
 cases p with
 |one j=>exact⟨λz=>(by cases z),λ_=>⟨_,_,rfl⟩⟩
 |many js=>exact⟨λ_=>⟨_,_,_,rfl⟩,λz=>(by cases z)⟩
 |nest j js=>exact⟨λ_=>⟨_,_,_,rfl⟩,λz=>(by cases z)⟩
abbrev CP(X:Cx)(c:Md)(j:Nat):Prop:=X.N[j]?=d7 (c.nmOf j)/\L2.Loc X.env.scope (c.nmOf j)/\(X.fn (c.nmOf j)=d9\/X.env.scope.names.lookup (c.nmOf j)=d7 .local)
abbrev HC(q:Nat->Prop):fY.Pt->Prop
 |.one j=>q j
 |.many js=>∀j∈js,q j
 |.nest j js=>q j/\∀k∈js,q k
def MC{X:Cx}{c:Md}(nd:X.N.Nodup)(f:Nat->Pos):∀(js:List Nat) (k:Nat),(∀j∈js,CP X c j)->
  PGs X ((js.zipIdx k).map λp=>.Name (c.nmOf p.1)<|f p.2) (C6 i js)/\(ě ((js.zipIdx k).map λp=>.Name (c.nmOf p.1)<|f p.2) X.env).length=js.length/\(ě ((js.zipIdx k).map λp=>.Name (c.nmOf p.1)<|f p.2) X.env).findIdx? (·.1)=d8
 |[],_,_=>⟨Gc,rfl,rfl⟩
 |j::js,k,h=>by
  obtain⟨h1,h2,h3⟩:=h j (by simp);obtain⟨a1,a2,a3⟩:=MC nd f js (k+1) λl hl=>h l (by simp[hl]);rw[List.zipIdx_cons,Î];refine⟨DI nd h1 h2 h3 a1 rfl,?_,?_⟩
  .show(ě ((js.zipIdx<|k+1).map _) X.env).length+1=js.length+1;rw[a2]
  .show List.findIdx? (·.1) ((ee,ŵ (.Name (c.nmOf j)<|f k) X.env)::ě _ X.env)=d8;rw[List.findIdx?_cons];simp[a3]
def Hh(hK:X.K=i.K)(nd:X.N.Nodup)(hc:X.calm=d9){p:fY.Pt}{x:Expr}(h:HC (CP X c) p):PG X (toP p c x)<|gPt i p:=by
 cases p with
 |one j=>exact N3 nd h.1 h.2.1 h.2.2
 |many js =>obtain⟨a1,a2,a3⟩:=MC nd (λk=>(kid x k).pos) js 0 h;exact Ur hK hc a1 a2 a3
 |nest j js =>obtain⟨h0,h⟩:=h;obtain⟨a1,a2,a3⟩:=MC nd (λk=>(kid (kid x 1) k).pos) js 0 h;exact E0 hK hc (N3 nd h0.1 h0.2.1 h0.2.2)<|Ur hK hc a1 a2 a3
variable {Φ:fY.Fs} {a:fY.E} {b:fY.E} {l:Expr} {æ:Pos}
def QG(g:Gd X i P n c){o:fY.Bop}{r:Expr}(ha:PE X l<|tE X i Φ a)(hb:PE X r<|tE X i Φ b):PE X (.BinOp l (OY o) r æ)<|tE X i Φ<|.bin o a b:=by
 cases o with
 |add=>exact KY Ro (by rw[g.K];exact b_add) ha hb
 |sub=>exact KY PP b_sub ha hb
 |mul=>exact KY P0 b_mul ha hb
 |fdiv=>exact KY Fe b_fdiv ha hb
 |mod=>exact KY IW b_mod ha hb
 |pow=>exact KY Pf b_pow ha hb
abbrev Wi:fY.Cop->Bool
 |.is=>d9
 |.isnot=>d9
 |.ntT=>d9
 |_=>ee
variable {o:fY.Cop}
def Oa(g:Gd X i P n c)(h:Wi o=ee):∃r,OpR X (ë<|W2 o) r/\Z5 i o r:=by
 have u65:X.A.units+65<Ě:=by have:=g.un;lia
 have u64:X.A.units+64<Ě:=by have:=g.un;lia
 have u0:X.A.units<Ě:=by have:=g.un;lia
 cases o with
 |eq=>exact⟨_,Pa u64,by rw[g.K];exact RU⟩
 |ne=>exact⟨_,Ls u64,by rw[g.K];exact SO⟩
 |lt=>exact⟨_,Sg u0,by rw[g.K];exact c_lt⟩
 |le=>exact⟨_,Qi,c_le⟩
 |gt=>exact⟨_,SB u0,by rw[g.K];exact c_gt⟩
 |ge=>exact⟨_,Ry,c_ge⟩
 |isin=>exact⟨_,Sn u65,by rw[g.K];exact SA⟩
 |notin=>exact⟨_,SH u65,by rw[g.K];exact Sj⟩
 |eqE=>exact⟨_,D6 u64,by rw[g.K];exact c_eqE⟩
 |neE=>exact⟨_,BK u64,by rw[g.K];exact c_neE⟩
 |_=>cases h
def Pb{v:fY.Val}{j:Nat}(h:GZ v=d9):PE X (.Constant (Rg v) j æ)<|tE X i Φ<|.cst v:=by
 cases v with
 |non=>exact Jf BH λ_=>.non
 |bl b=>exact Jf Q4 λ_=>.bl _
 |int k=>exact Jf Oq λ_=>.int _
 |str s=>exact Jf pe_str λ_=>.str _
 |_=>cases h
abbrev N1:fY.E->Bool
 |.cst .non=>d9
 |_=>ee
def F4{e:fY.E}(h:N1 e=d9):e=.cst .non:=by
 cases e with
 |cst v=>cases v with
  |non=>rfl
  |_=>cases h
 |_=>cases h
variable {y:Expr}
def B9(hn:∀G v d,fY.eW G o v .non≠d7 d)(ha:PE X l<|tE X i Φ a)(hb:PE X y<|tE X i Φ<|.cst .non)(hm:ķ op y=ee) :
  PE X (.Compare l [op] [y] æ) (tE X i Φ<|.cmp o a<|.cst .non)/\PT X (.Compare l [op] [y] æ) (tTt X i Φ<|.val<|.cmp o a<|.cst .non):=by
 have ho:OpR X (ë op) λ_ _ _ _=>False:=λ_ _ _ _ _ _ _ _ _ _ _ _ h=>h.elim;refine⟨(O8 ho ha hb hm).imp λσ H Q ⟨env,G,Qm,Em,p,w,c⟩=>?_,(Ul ho ha hb hm).imp λσ H Q ⟨env,G,Qm,Em,p,w,c⟩=>?_⟩
 .refine one p w λv G1 H1 x k1 p1 r q=>?_;obtain⟨d,e,_⟩:=eC q;exact gf e<|hn G1 v d
 .refine one p w λv G1 H1 x k1 p1 r q=>?_;obtain⟨d,e,_⟩:=eC q;exact gf e<|hn G1 v d
def Nq(g:Gd X i P n c){x:Expr}(h:(!Wi o||N1 b)=d9)(ha:PE X l<|tE X i Φ a)(hb:PE X (toX b c x)<|tE X i Φ b) :
  PE X (.Compare l [W2 o] [toX b c x] æ) (tE X i Φ<|.cmp o a b)/\PT X (.Compare l [W2 o] [toX b c x] æ) (tTt X i Φ<|.val<|.cmp o a b):=by
 cases z:Wi o with
 |false =>obtain⟨r,h1,h2⟩:=Oa g z;exact⟨Q7 h1 h2 ha hb<|E4 _ _ _,LF h1 h2 ha hb<|E4 _ _ _⟩
 |true =>
  rw[z]at h;cases F4 h;cases o with
  |is=>exact⟨QS ha,Lg ha⟩
  |isnot=>exact⟨LR ha,GH ha⟩
  |ntT=>exact B9 (λG v d e=>by cases v<;>simp[fY.eW,fY.asLst]at e) ha hb<|E4 _ _ _
  |_=>cases z
def JL(g:Gd X i P n c){o1 o2:fY.Cop}{d:fY.E}{x:Expr}(h1:Wi o1=ee)(h2:Wi o2=ee)(ha:PE X l<|tE X i Φ a)(hb:PE X y<|tE X i Φ b)(hd:PE X (toX d c x)<|tE X i Φ d) :
  PE X (.Compare l [W2 o1,W2 o2] [y,toX d c x] æ) (tE X i Φ<|.chain o1 o2 a b d)/\PT X (.Compare l [W2 o1,W2 o2] [y,toX d c x] æ) (tTt X i Φ<|.val<|.chain o1 o2 a b d):=by
 obtain⟨r1,a1,a2⟩:=Oa g h1;obtain⟨r2,b1,b2⟩:=Oa g h2;have hm:aS [W2 o1,W2 o2] [y,toX d c x]=ee:=E4 _ _ _;exact⟨GP a1 a2 b1 b2 ha hb hd hm,Ef a1 a2 b1 b2 ha hb hd hm⟩
def Ig{m:fY.E}(h:PE X e<|tE X i Φ m)(he:∀aj,bQ e X.env aj=(do let v<-aj;Ÿ e.pos;Ł [v] (truthy v)))(hK:X.K=i.K):PT X e<|tTt X i Φ<|.val m:=by
 refine(BS h he).imp λσ H Q ⟨env,G,Qm,Em,p,w,c⟩=>?_;refine one p w λv G1 H1 x k1 p1 r q=>?_;obtain⟨d,e1,q2⟩:=eC q;clear q;refine⟨d,?_,c d G1 H1 k1 p1.hp q2⟩;cases v with
 |non=>cases r;cases e1;rfl
 |bl b=>cases r;cases e1;rfl
 |int b =>
  cases r;cases e1;show gg (b≠0)=(b != 0)
  by_cases e:b=0<;>simp[e]
 |key _ _=>cases e1
 |str b =>
  cases r;obtain⟨hl,e1⟩:=Zs e1;cases e1;refine⟨by rw[ZF];exact ß hl ZT,?_⟩;rw[ZF];by_cases e:b.length=0
  .rw[e];rfl
  .rw[gb e];symm;simpa using (by lia:¬ ((b.length:Int)=0))
 |tup xs =>
  cases e1;cases r with
  |tup hp hr =>refine .inr (.inl ⟨_,by rw[hK];exact Zj hp,?_⟩);cases hr<;>rfl
 |scr ns =>
  cases e1;cases r with
  |scr h =>refine .inl ⟨_,by rw[hK];exact Yp h,?_⟩;cases ns<;>rfl
 |ref a =>
  cases r.ref_inv
  replace e1:(match G1 a with|some (.lst xs)=>d7 (!xs.isEmpty)|some (.dct kvs)=>d7 (!kvs.isEmpty)|_=>d8)=d7 d:=e1
  cases z:G1 a with
  |none=>rw[z]at e1;cases e1
  |some o =>
   rw[z]at e1;cases o with
   |lst xs =>cases e1;obtain⟨vs,h1,h2⟩:=p1.hp a _ z;refine .inl ⟨vs,fP.of h1,?_⟩;cases h2<;>rfl
   |dct kvs =>cases e1;obtain⟨ps,h1,h2⟩:=p1.hp a _ z;refine .inr<|.inr ⟨ps,h1,?_⟩;cases h2<;>rfl
   |_=>cases e1
variable {X:Cx}{i:Inf}{P:fY.Pg}{n:Nat}{c:Md}{Φ:fY.Fs}
variable {C:String}
def Ou{o:Option fY.Ob}(h:fY.excOf o=d7 C):o=d7 (.exc C):=by
 cases o with
 |none=>cases h
 |some o=>cases o with
  |exc D=>cases h;rfl
  |_=>cases h
def U7{G:fY.Hs}{v:fY.Val}(h:fY.excV G v=d7 C):∃a,v=.ref a/\G a=d7 (.exc C):=by
 cases v with
 |ref a=>exact⟨a,rfl,Ou h⟩
 |_=>cases h
variable {m:fY.E} {Ts:List String}
def OC{σ:St}{H:Hp}{Q:VK}{W:VK}(h:tE X i Φ (.bi (.isx Ts)<|.cons m .nil) σ H Q)
  (f:∀C a ad G1 H1,i.xc C ad->H1 a=d7 (xcO a<|.ref ad)->RH i G1 H1->(∀H2,eZ H1 H2->RH i G1 H2->Q (.bl<|Ts.any<|fY.fO C) H2)->W (.ref a) H1):tE X i Φ m σ H W:=by
 obtain⟨env,G,Qm,Em,p,w,c⟩:=h;refine one p w λv G1 H1 x k1 p1 r q=>?_
 replace q:(fY.Rs.ofO<|(fY.excV G1 v).map λc=>.bl<|Ts.any<|fY.fO c).wp G1 Qm:=q
 cases z:fY.excV G1 v with
 |none=>rw[z]at q;simp[fY.Rs.ofO]at q
 |some C =>rw[z]at q;simp only[Ĺ,fY.Rs.ofO,fY.Rs.wp_val]at q;obtain⟨a,rfl,e⟩:=U7 z;cases r.ref_inv;obtain⟨ad,hx,ha⟩:=p1.hp a _ e;exact f C a ad G1 H1 hx ha p1.hp λH2 k2 g2=>c _ G1 H2 _ (k1.trans k2) g2 (.bl _) q
variable {e:Expr} {p:Pos} {p2:Pos} {æ:Pos}
def HV{T:String}{D:È}(Z:Xls X i c)(hk:X.K=i.K)(he:PE X e<|tE X i Φ m)(hg:Gl X "isinstance")(hm:X.mg "isinstance" = d8)(hg2:Gl X<|gh T)(hm2:X.mg (gh T)=d7 (.ref D))
  (hD:∀C a,i.xc C a->PySem.W.kitOne i.K (.ref a) (.ref D)=d7 (fY.fO C T)) (aM:(gh T==("__debug__" : Str))=ee) (ņ:Ì [e,.Name (gh T) p2] X.env=(ee,eval e X.env)::Ì [.Name (gh T) p2] X.env) :
  PE X (.Call (.Name "isinstance" p) [e,.Name (gh T) p2] [] æ) (tE X i Φ<|.bi (.isx [T])<|.cons m .nil):=by
 refine(Zy AR hg hm (by kernel_rfl) (Zv he (Zv (MP (v:=.ref D) hg2 hm2 rfl aM) fN) ņ) (he:=ņ)).imp λσ H Q h=>?_;change tE X i Φ m σ H _;refine OC h λC a ad G1 H1 hx ha g q=>?_;refine⟨a,ad,D,fY.fO C T,rfl,ha,by rw[hk];exact(Z.xc C ad hx).1,by rw[hk];exact hD C ad hx,?_⟩;have:=q H1 (eZ.refl _) g;simpa using this
def II(Z:Xls X i c)(hk:X.K=i.K)(he:PE X e<|tE X i Φ m)(hg:Gl X "isinstance")(hm:X.mg "isinstance" = d8)(hg2:Gl X "ValueError")(hm2:X.mg "ValueError" = d8)
  (ņ:Ì [e,.Name "ValueError" p2] X.env=(ee,eval e X.env)::Ì [.Name "ValueError" p2] X.env) :
  PE X (.Call (.Name "isinstance" p) [e,.Name "ValueError" p2] [] æ) (tE X i Φ<|.bi (.isx ["ValueError"])<|.cons m .nil):=by
 refine(Zy N7 hg hm (by kernel_rfl) (Zv he (Zv (O5 (v:=.ty "ValueError") hg2 hm2 (by kernel_rfl) rfl) fN) ņ) (he:=ņ)).imp λσ H Q h=>?_;change tE X i Φ m σ H _;refine OC h λC a ad G1 H1 hx ha g q=>?_;refine⟨a,ad,"ValueError",d9,rfl,ha,by rw[hk];exact(Z.xc C ad hx).1,by rw[hk];exact(Z.xc C ad hx).2,?_⟩;have:=q H1 (eZ.refl _) g;have e:fY.fO C "ValueError" = d9:=by simp[fY.fO]
 simpa[e]using this
def BU(hT:∀T∈Ts,Gl X (gh T)/\(gh T==("__debug__" : Str))=ee/\∃D,X.mg (gh T)=d7 (.ref D)/\∀C a,i.xc C a->PySem.W.kitOne i.K (.ref a) (.ref D)=d7 (fY.fO C T))(f:Nat->Pos):∀k,∃Ds:List È,
  PA X ((Ts.zipIdx k).map λp=>.Name (gh p.1)<|f p.2) (λ_ H Q=>Q (Ds.map V.ref) H)/\Ds.length=Ts.length/\∀C a,i.xc C a->PySem.W.kitAny i.K (.ref a) (Ds.map Value.ref)=d7 (Ts.any<|fY.fO C):=by
 induction Ts with
 |nil=>exact λ_=>⟨[],fN,rfl,λ_ _ _=>rfl⟩
 |cons T Ts ih =>
  intro k;obtain⟨Ds,h1,h2,h3⟩:=ih (λT h=>hT T<|.tail _ h)<|k+1;obtain⟨q1,q2,D,q3,q4⟩:=hT T<|.head _;refine⟨D::Ds,?_,by rw[Ç,Ç,h2],λC a hx=>?_⟩
  .rw[List.zipIdx_cons,Î];exact Zv (MP (v:=.ref D) q1 q3 rfl q2) h1
  .rw[Î,PySem.W.kitAny,q4 C a hx,Ĩ];cases fY.fO C T with
   |true=>rfl
   |false=>exact h3 C a hx
def Lv{kk:Nat}{f:Nat->Pos}(Z:Xls X i c)(hk:X.K=i.K)(he:PE X e<|tE X i Φ m)(hg:Gl X "isinstance")(hm:X.mg "isinstance" = d8)(hl:Ts.length<=20)
  (hT:∀T∈Ts,Gl X (gh T)/\(gh T==("__debug__" : Str))=ee/\∃D,X.mg (gh T)=d7 (.ref D)/\∀C a,i.xc C a->PySem.W.kitOne i.K (.ref a) (.ref D)=d7 (fY.fO C T))
  (ņ:∀ts,Ì [e,.Tuple ts kk p2] X.env=(ee,eval e X.env)::Ì [.Tuple ts kk p2] X.env) :
  PE X (.Call (.Name "isinstance" p) [e,.Tuple (Ts.zipIdx.map λp=>.Name (gh p.1)<|f p.2) kk p2] [] æ) (tE X i Φ<|.bi (.isx Ts)<|.cons m .nil):=by
 obtain⟨Ds,h1,h2,h3⟩:=BU hT f 0;refine(Zy OM hg hm (by kernel_rfl) (Zv he (Zv (DE h1) fN)<|ņ _) (he:=ņ _)).imp λσ H Q h=>?_;change tE X i Φ m σ H _;refine OC h λC a ad G1 H1 hx ha g q=>?_;refine⟨by rw[À,h2];unfold Ú;lia,λt ht=>?_⟩;have š:a≠t:=λz=>by rw[z,ht]at ha;cases ha
 refine⟨a,ad,t,Ds,Ts.any<|fY.fO C,rfl,by rw[ei š];exact ha,by rw[hk];exact(Z.xc C ad hx).1,ej,by rw[hk];exact h3 C ad hx,?_⟩;exact q _ (eZ.new ht)<|XF g ht
abbrev Md.gn(c:Md)(y:String):Bool:=c.gl (gh y)&&nm (gh y)
abbrev Wm:fY.Bi->Bool
 |.len=>d9
 |.abs=>d9
 |.min2=>d9
 |.max2=>d9
 |.all=>d9
 |.list=>d9
 |.tuple=>d9
 |.minL=>d9
 |.maxL=>d9
 |.sortedI=>d9
 |_=>ee
abbrev Fw:fY.Bi->Option String
 |.isi [T]=>d7 T
 |_=>d8
abbrev B4:fY.Bi->Option (List String)
 |.isx Ts=>d7 Ts
 |_=>d8
abbrev Wr:fY.Bi->Bool
 |.lenSet=>d9
 |_=>ee
abbrev Jl:fY.Bi->Bool
 |_=>ee
abbrev F3:fY.Bi->Str
 |.listRev=>"reversed"
 |.sortedSet=>"set"
 |_=>"range"
abbrev Uw:fY.Bi->Bool
 |_=>ee
abbrev US:fY.Bi->Bool
 |_=>ee
abbrev Nj:fY.Bi->String
 |.isc T=>T
 |_=>""
abbrev M2:fY.Bi->Bool
 |.minD=>d9
 |_=>ee
abbrev BF:fY.Bi->Option (List String)
 |_=>d8
abbrev Md.xn(c:Md)(T:String):Bool:=(c.xs.contains T||T == "ShutError")&&c.gn T
abbrev WB:fY.Bi->Bool
 |.len=>d9
 |.abs=>d9
 |.list=>d9
 |.tuple=>d9
 |_=>ee
abbrev Fh(c:Md)(Ts:List String):Bool:=match Ts with
 |[T]=>c.xn T||(T == "ValueError" && c.gl (gh T))
 |Ts=>Ts.all c.xn&&gg (Ts.length<=20)
abbrev Eh:fY.Bm->Option Nat
 |.append=>d7 1
 |.popAt=>d7 1
 |.dget=>d7 1
 |.dpop=>d7 1
 |.dpopD=>d7 2
 |_=>d8
abbrev O6:fY.Tt->Bool
 |.yes=>d9
 |_=>ee
abbrev OH:fY.E->Bool
 |.var _=>d9
 |.call _ _=>d9
 |.meth _ _ _ _=>d9
 |.bi _ _=>d9
 |.bm _ _ _=>d9
 |.idx _ _=>d9
 |.fld _ _=>d9
 |.glob _ _=>d9
 |_=>ee
abbrev P9:fY.E->Bool
 |.cmp _ _ _=>d9
 |.chain _ _ _ _ _=>d9
 |_=>ee
mutual
noncomputable def okE:fY.E->Md->Expr->Bool
 |.cst v,_,_=>GZ v
 |.var j,c,_=>gg (j<c.N.length)&&c.vis (c.nmOf j)&&nm (c.nmOf j)
 |.glob y v,c,_=>c.gn y&&gg (c.cs.lookup y=d7 v)
 |.bin _ a b,c,x=>okE a c (kid x 0)&&okE b c (kid x 1)
 |.neg a,c,x=>okE a c<|kid x 0
 |.not a,c,x=>okE a c<|kid x 0
 |.and a b,c,x=>okE a c (kid x 0)&&okE b c (rest (ZP b) x)&&(!ZP b||(rest (ZP b) x).pos==x.pos)
 |.or a b,c,x=>okE a c (kid x 0)&&okE b c (rest (YI b) x)&&(!YI b||(rest (YI b) x).pos==x.pos)
 |.cmp o a b,c,x=>okE a c (kid x 0)&&okE b c (kid x 1)&&(!Wi o||N1 b)
 |.chain o1 o2 a b d,c,x=>okE a c (kid x 0)&&okE b c (kid x 1)&&okE d c (kid x 2) && !Wi o1 && !Wi o2
 |.call f as,c,x=>c.gn f&&c.fs.contains f&&c.cm&&okA as c (sub x).tail
 |.make C as,c,x=>c.gn C&&c.cl.contains C&&c.cm&&gg (Za as≠0)&&okA as c (sub x).tail
 |.meth C m o as,c,x=>c.ms.contains (C,m)&&c.cm&&okE o c (kid (kid x 0) 0)&&Yn (toX o c<|kid (kid x 0) 0)&&((kid x 0).pos.endLine==x.pos.line)&&gg (Za as<20)&&okA as c (sub x).tail
 |.fld o f,c,x=>c.fl.contains f&&okE o c (kid x 0)&&Yn (toX o c<|kid x 0)
 | .bi f as,c,x=>(match Fw f with
   |some T=>gg (Za as=1)&&kinds.contains T&&c.gl "isinstance" && c.gl (gh T)
   |none=>match B4 f with
     |some Ts=>gg (Za as=1)&&c.gl "isinstance" && !c.xs.isEmpty&&Fh c Ts
     |none=>match BF f with
       |some Ts=>gg (Za as=1)&&c.gl "isinstance" && Ts.all (λT=>kinds.contains T&&c.gl (gh T))&&gg (Ts.length<=20)
       | none=>if Wr f then gg (Za as=1)&&c.gl "len" && c.gl "set" && c.cm else if Jl f then gg (Za as=1)&&c.gl (Ys f)&&c.gl (F3 f)&&c.cm else if M2 f then gg (Za as=1)&&c.gl "min" && c.cm else if Uw f then gg (Za as=1)&&c.gl "dict" && c.gl "enumerate" && c.cm else if US f then gg (Za as=1)&&c.gl "isinstance" && c.gn (Nj f)&&c.cl.contains (Nj f)else Wm f&&c.gl (Ys f)&&gg (Za as≠0)&&(c.cm||WB f))&&okA as c (Ug f x)
 |.bm m o as,c,x=>gg (Eh m=d7 (Za as))&&okE o c (kid (kid x 0) 0)&&Yn (toX o c<|kid (kid x 0) 0)&&((kid x 0).pos.endLine==x.pos.line)&&okA as c (sub x).tail
 |.idx a b,c,x=>okE a c (kid x 0)&&okE b c (kid x 1)
 |.slc a lo hi,c,x=>okE a c (kid x 0)&&okO lo c (kid (kid x 1) 0)&&okO hi c (kid (kid x 1) 1)
 |.tup es,c,x=>okA es c (sub x)&&gg (Za es<=1000)
 |.lst es,c,x=>okA es c (sub x)&&gg (Za es<=1000)
 |.dct es,c,x=>okA es c (sub x)&&J8 es&&gg (esL es<=30)
 |.ife t a b,c,x=>okT t c (kid x 0)&&okE a c (kid x 1)&&okE b c (kid x 2)
 |.comp ö m p it t e,c,x=>(Oh m p&&(YU<|kid x 1).length==m)&&c.cm&&YA (scp x) c.sc c.N (YU<|kid x 1) ö&&(scp x).kind == .function&&okI it c (kid x 2) (!ZE p)&&okE e (c.blk (scp x) (YU<|kid x 1) ö) (kid x 0)&&(O6 t||okT t (c.blk (scp x) (YU<|kid x 1) ö) (kid x 3))
 |_,_,_=>ee
noncomputable def okA:fY.Es->Md->List Expr->Bool
 |.nil,_,_=>d9
 |.cons e es,c,xs=>okE e c (xs.headD dE)&&okA es c xs.tail
noncomputable def okJ:fY.Es->Md->List Expr->Bool
 |.nil,_,_=>d9
 |.cons e es,c,xs=>(Ab e||okE e c (kid (xs.headD dE) 0))&&okJ es c xs.tail
noncomputable def okO:fY.Oe->Md->Expr->Bool
 |.none,_,_=>d9
 |.some e,c,x=>okE e c x
noncomputable def okT:fY.Tt->Md->Expr->Bool
 |.yes,_,_=>ee
 |.val e,c,x=>okE e c x&&(OH e||P9 e)
 |.not t,c,x=>okT t c<|kid x 0
 |.and a b,c,x=>okT a c (kid x 0)&&okT b c (rest (Zr b) x)&&(!Zr b||(rest (Zr b) x).pos==x.pos)
 |.or a b,c,x=>okT a c (kid x 0)&&okT b c (rest (ZI b) x)&&(!ZI b||(rest (ZI b) x).pos==x.pos)
noncomputable def okI:fY.It->Md->Expr->Bool->Bool
 |.seq e,c,x,_=>okE e c x
 |.range a,c,x,_=>c.gl "range" && okE a c (kid x 1)
 |.range2 a b,c,x,_=>c.gl "range" && okE a c (kid x 1)&&okE b c (kid x 2)
 |.enum e,c,x,t=>t&&c.gl "enumerate" && okE e c (kid x 1)
 |_,_,_,_=>ee
end
variable {X:Cx}{i:Inf}{P:fY.Pg}{n:Nat}{c:Md}
variable {f:fY.Bi} {e:Expr} {es:List Expr} {q:Pos} {p:Pos} {l:Nat}
def EM(g:Gd X i P n c)(hp:Wm f=d9)(cB:(c.cm||WB f)=d9){as:fY.Es}(hg:Gl X<|Ys f)(ha:PA X (e::es)<|tAr X i (fY.wF P n) as l)
  (he:Ì (e::es) X.env=(ee,eval e X.env)::Ì es X.env) (hpl:(Ċ p<|Ì es X.env).any (·.1)=ee):PE X (.Call (.Name (Ys f) q) (e::es) [] p)<|tE X i (fY.wF P n)<|.bi f as:=by
 have hc:WB f=ee->X.calm=d9:=λz=>g.calm (by rw[z,be]at cB;exact cB);cases f with
 |len=>exact(Zy ((call_len_seq.or MJ).or AI) hg (g.bl _<|by simp[blts,Ys]) (by kernel_rfl) ha (he:=he) (hpl:=hpl)).imp (XO<|by rw[g.K];exact LQ)
 |abs=>exact(Zy D4 hg (g.bl _<|by simp[blts,Ys]) (by kernel_rfl) ha (he:=he) (hpl:=hpl)).imp<|XO Ij
 |min2=>exact(Zy ((Bh<|hc rfl).or<|Of (hc rfl) (by have:=g.un;lia)) hg (g.bl _<|by simp[blts,Ys]) (by kernel_rfl) ha (he:=he) (hpl:=hpl)).imp (XO<|by rw[g.K];exact Fu)
 |max2=>exact(Zy (AH<|hc rfl) hg (g.bl _<|by simp[blts,Ys]) (by kernel_rfl) ha (he:=he) (hpl:=hpl)).imp<|XO Fc
 |all=>exact(Zy (Cj<|hc rfl) hg (g.bl _<|by simp[blts,Ys]) (by kernel_rfl) ha (he:=he) (hpl:=hpl)).imp (XO<|by rw[g.K];exact Lo)
 |list=>exact(WC MO hg (g.bl _<|by simp[blts,Ys]) (by kernel_rfl) ha (he:=he) (hpl:=hpl)).imp (XO<|by rw[g.K];exact Fd)
 |minL=>exact(Zy (((OA<|hc rfl).or<|Aa<|hc rfl).or<|Av (hc rfl) (by have:=g.un;lia)) hg (g.bl _<|by simp[blts,Ys]) (by kernel_rfl) ha (he:=he) (hpl:=hpl)).imp (XO<|by rw[g.K];exact Gz)
 |maxL=>exact(Zy ((U9<|hc rfl).or<|AE<|hc rfl) hg (g.bl _<|by simp[blts,Ys]) (by kernel_rfl) ha (he:=he) (hpl:=hpl)).imp (XO<|by rw[g.K];exact EE)
 |sortedI=>exact(Zy (call_sorted.or<|MR<|hc rfl) hg (g.bl _<|by simp[blts,Ys]) (by kernel_rfl) ha (he:=he) (hpl:=hpl)).imp (XO<|by rw[g.K];exact Oo)
 |tuple=>exact(WC Kx hg (g.bl _<|by simp[blts,Ys]) (by kernel_rfl) ha (he:=he) (hpl:=hpl)).imp (XO<|by rw[g.K];exact Du)
 |_=>cases hp
variable {T:String}
def L9(h:Fw f=d7 T):f=.isi [T]:=by
 cases f with
 |isi Ts =>
  cases Ts with
  |nil=>cases h
  |cons a r=>cases r with
   |nil=>cases h;rfl
   |cons _ _=>cases h
 |_=>cases h
variable {m:fY.E} {æ:Pos}
def Dk(g:Gd X i P n c){p2:Pos}(hT:T∈kinds)(h2:c.gl "isinstance" = d9)(h5:c.gl (gh T)=d9)(he:PE X e<|tE X i (fY.wF P n) m)(ņ:Ì [e,.Name (gh T) p2] X.env=(ee,eval e X.env)::Ì [.Name (gh T) p2] X.env) :
  PE X (.Call (.Name "isinstance" p) [e,.Name (gh T) p2] [] æ) (tE X i (fY.wF P n)<|.bi (.isi [T])<|.cons m .nil):=by
 have dJ:=hT;simp only[kinds,Æ,Þ,or_false]at dJ;refine Qe hT he g.K (g.gl h2) (g.bl _<|by simp[blts]) (g.gl h5) ?_ ?_ ?_ ?_ ņ
 .rcases dJ with rfl|rfl|rfl|rfl|rfl|rfl<;>exact g.bl _ (by simp[blts])
 .rcases dJ with rfl|rfl|rfl|rfl|rfl|rfl<;>kernel_rfl
 .rcases dJ with rfl|rfl|rfl|rfl|rfl|rfl<;>decide
 .rcases dJ with rfl|rfl|rfl|rfl|rfl|rfl<;>decide
variable {Ts:List String}
def Ic(h:B4 f=d7 Ts):f=.isx Ts:=by
 cases f with
 |isx Us=>cases h;rfl
 |_=>cases h
def Gd.xnm(g:Gd X i P n c)(hx:c.xs≠[])(h:c.xn T=d9):Gl X (gh T)/\(gh T==("__debug__" : Str))=ee/\∃D,X.mg (gh T)=d7 (.ref D)/\∀C a,i.xc C a->PySem.W.kitOne i.K (.ref a) (.ref D)=d7 (fY.fO C T):=by unfold Md.xn Md.gn at h;rw[bAq,bAq]at h;obtain⟨D,h1,h2⟩:=(g.xl hx).kn T h.1;exact⟨g.gl h.2.1,(Wh h.2.2).1,D,h1,λC a z=>(h2 C a z).1⟩
def BC(g:Gd X i P n c){y:Expr}(h1:c.gl "isinstance" = d9)(hx:c.xs≠[])(h2:Fh c Ts=d9)(he:PE X e<|tE X i (fY.wF P n) m)(ņ:∀{es},Ì (e::es) X.env=(ee,eval e X.env)::Ì es X.env) :
  PE X (.Call (.Name "isinstance" p) [e,EY Ts y] [] æ) (tE X i (fY.wF P n)<|.bi (.isx Ts)<|.cons m .nil):=by
 have many:(Ts.all c.xn&&gg (Ts.length<=20))=d9->PE X (.Call (.Name "isinstance" p) [e,.Tuple (Ts.zipIdx.map λp=>.Name (gh p.1) (kid y p.2).pos) (num y) y.pos] [] æ) (tE X i (fY.wF P n)<|.bi (.isx Ts)<|.cons m .nil):=λh=>by rw[bAq,gc,ó]at h;exact Lv (f:=λk=>(kid y k).pos) (g.xl hx) g.K he (g.gl h1) (g.bl _<|by simp[blts]) h.2 (λT hT=>g.xnm hx<|h.1 T hT) λts=>ņ
 match Ts,h2,many with
 |[],h2,many=>exact many h2
 |[T],h2,many =>
  have h2:(c.xn T||(T == "ValueError" && c.gl (gh T)))=d9:=h2;by_cases hT:c.xn T=d9
  .obtain⟨q1,q2,D,q3,q4⟩:=g.xnm hx hT;exact HV (g.xl hx) g.K he (g.gl h1) (g.bl _<|by simp[blts]) q1 q3 q4 q2 ņ
  .rw[ϰ.mpr hT,Bool.false_or,bAq]at h2;cases eq_of_beq h2.1;exact II (g.xl hx) g.K he (g.gl h1) (g.bl _<|by simp[blts]) (g.gl h2.2) (g.bl _<|by simp[blts]) ņ
 |T::U::Us,h2,many=>exact many h2
variable {o:Expr} {mo:fY.E} {Ĳ:Pos} {ŀ:Pos}
def Dh(g:Gd X i P n c){m:fY.Bm}(h:Eh m=d7 0)(ho:PE X o<|tE X i (fY.wF P n) mo)(hb:∀f,ģ o f X.env (eval o X.env)=eval o X.env)(hl:(Ĳ.endLine==ŀ.line)=d9) :
  PE X (.Call (.Attribute o (La m) Ĳ) [] [] ŀ) (tE X i (fY.wF P n)<|.bm m mo .nil):=by
 cases m with
 |_=>cases h
def GS(g:Gd X i P n c){m:fY.Bm}{k:Nat}(h:Eh m=d7 (k+1)){ms:fY.Es}(ho:PE X o<|tE X i (fY.wF P n) mo)(ha:PA X (e::es)<|tAr X i (fY.wF P n) ms l)(hb:∀f,ģ o f X.env (eval o X.env)=eval o X.env)(hl:(Ĳ.endLine==ŀ.line)=d9)
  (ao:((Ċ ŀ<|Ì (e::es) X.env).all (λx=>!x.1)&&(Ŝ ŀ<|ĭ [] X.env).all (λx=>x.1.isSome)&&gg ((e::es).length+([]:List aD).length+(if([]:List aD).isEmpty then 0 else 1)<30))=d9)
  (hs:Ì (e::es) X.env=(ee,eval e X.env)::Ì es X.env) (hpl:(Ċ ŀ<|Ì es X.env).any (·.1)=ee) :
  PE X (.Call (.Attribute o (La m) Ĳ) (e::es) [] ŀ) (tE X i (fY.wF P n)<|.bm m mo ms):=by
 have u1:X.A.units+1<Ě:=by have:=g.un;lia
 cases m with
 |append=>exact BY g.K PySem.F.plainAttrs_list PySem.F.slot_list_append PySem.F.type_list_append A8 (RI rfl) Ps ho ha (hb _) ao hl hs hpl
 |popAt=>exact BY g.K PySem.F.plainAttrs_list PySem.F.slot_list_pop PySem.F.type_list_pop CO (RI rfl) EV ho ha (hb _) ao hl hs hpl
 |dget=>exact BY g.K PySem.F.plainAttrs_dict PySem.F.slot_dict_get PySem.F.type_dict_get (DP u1) (IM rfl) Ph ho ha (hb _) ao hl hs hpl
 |dpop=>exact BY g.K PySem.F.plainAttrs_dict PySem.F.slot_dict_pop PySem.F.type_dict_pop mt_dpop (IM rfl) Lm ho ha (hb _) ao hl hs hpl
 |dpopD=>exact BY g.K PySem.F.plainAttrs_dict PySem.F.slot_dict_pop PySem.F.type_dict_pop (mt_dpop.or Cr) (IM rfl) EU ho ha (hb _) ao hl hs hpl
 |_=>cases h
variable {sc:ų} {ö:List Nat}
def Gd.blk(g:Gd X i P n c){x:List Str}(hb:YA sc c.sc c.N x ö=d9)(hk:sc.kind=.function)(cl:List<|Str×È)(C:È)(s:Å)(H:Hp)(ex:List È) :
  Gd (Zu X sc (Yb X x ö) cl C s H ex) i P n (c.blk sc x ö) where
 K:=g.K
 N:=by show Yb X x ö=_;unfold Yb;rw[g.N];rfl
 sc:=by show bL sc X.env=_;unfold bL Env.kindOf;rw[g.sc];rfl
 nd:=by have B:=OE g.sc g.N hk hb;have:=B.nd;unfold Yb at this;rw[g.N]at this;exact this
 un:=g.un
 calm:=g.calm
 room:=g.room
 bl:=g.bl
 dfs:=g.dfs
 cst:=g.cst
 kl:=⟨g.kl.A,g.kl.F,g.kl.mkc,g.kl.mth⟩
 xl:=λh=>⟨(g.xl h).xc,(g.xl h).rs,(g.xl h).kn⟩
def Gd.pt(g:Gd X i P n c)(cB:c.cm=d9){xs:List Str}(hb:YA sc c.sc c.N xs ö=d9)(hk:sc.kind=.function){p:fY.Pt}(hp:Oh xs.length p=d9)(x:Expr)(cl:List<|Str×È)(C:È)(s:Å)(H:Hp)(ex:List È) :
  PG (Zu X sc (Yb X xs ö) cl C s H ex) (toP p (c.blk sc xs ö) x) (gPt i p):=by
 have B:=OE g.sc g.N hk hb;have G:=g.blk hb hk cl C s H ex;have key:∀j,j<xs.length->CP (Zu X sc (Yb X xs ö) cl C s H ex) (c.blk sc xs ö) j:=λj hj=>by
  have e:(c.blk sc xs ö).nmOf j=xs[j]:=by unfold Md.nmOf Md.blk;show(xs++_).getD j _=_;rw[Ą,þ hj,Ê hj];rfl
  have lo:=lookup_relabel_local (env:=X.env)<|B.own xs[j]<|İ hj;unfold CP;rw[e];refine⟨?_,.inl lo,.inr lo⟩;show(xs++_)[j]?=_;rw[þ hj,Ê hj]
 refine Hh G.K (by rw[G.N];exact G.nd) (g.calm cB) ?_;cases p with
 |one j=>exact key j<|of_decide_eq_true hp
 |many js=>exact λj hj=>key j<|of_decide_eq_true<|ó.mp hp j hj
 |nest j js=>cases hp
variable {b:fY.E}
def UQ(h:ZP b=d9):∃a d,b=.and a d:=by
 cases b with
 |and a d=>exact⟨a,d,rfl⟩
 |_=>cases h
def CQ(h:YI b=d9):∃a d,b=.or a d:=by
 cases b with
 |or a d=>exact⟨a,d,rfl⟩
 |_=>cases h
def DH{b:fY.Tt}(h:Zr b=d9):∃a d,b=.and a d:=by
 cases b with
 |and a d=>exact⟨a,d,rfl⟩
 |_=>cases h
def E6{b:fY.Tt}(h:ZI b=d9):∃a d,b=.or a d:=by
 cases b with
 |or a d=>exact⟨a,d,rfl⟩
 |_=>cases h
def MG{b:Bool}(h:(!b||p==q)=d9)(hb:b=d9):p=q:=by rw[hb]at h;exact eq_of_beq h
variable {Φ:fY.Fs} {x:Expr}
def B1(hp:(!ZP b||(rest (ZP b) x).pos==x.pos)=d9)(h:PE X (toX b c<|rest (ZP b) x)<|tE X i Φ b):PE X (.BoolOp .And (flat (ZP b)<|toX b c<|rest (ZP b) x) x.pos)<|tE X i Φ b:=by
 cases z:ZP b with
 |false=>rw[z]at h;exact Bu h
 |true =>have e:=MG hp z;rw[z]at e h;obtain⟨a,d,rfl⟩:=UQ z;show PE X (.BoolOp .And (sub<|.BoolOp .And _ (rest d9 x).pos) x.pos) _;rw[<-e];exact h
def FY(hp:(!YI b||(rest (YI b) x).pos==x.pos)=d9)(h:PE X (toX b c<|rest (YI b) x)<|tE X i Φ b):PE X (.BoolOp .Or (flat (YI b)<|toX b c<|rest (YI b) x) x.pos)<|tE X i Φ b:=by
 cases z:YI b with
 |false=>rw[z]at h;exact Bu h
 |true =>have e:=MG hp z;rw[z]at e h;obtain⟨a,d,rfl⟩:=CQ z;show PE X (.BoolOp .Or (sub<|.BoolOp .Or _ (rest d9 x).pos) x.pos) _;rw[<-e];exact h
def KS(b:Bool){e:fY.E}(h:b=ZP e\/b=YI e):∃y ys,flat b (toX e c x)=y::ys:=by
 cases b with
 |false=>exact⟨_,_,rfl⟩
 |true =>
  rcases h with h|h
  .obtain⟨a,d,rfl⟩:=UQ h.symm;exact⟨_,_,rfl⟩
  .obtain⟨a,d,rfl⟩:=CQ h.symm;exact⟨_,_,rfl⟩
variable {i:Inf}{P:fY.Pg}{n:Nat}
variable {X:Cx} {c:Md} {Φ:fY.Fs} {b:fY.Tt} {x:Expr}
def Bg(hp:(!Zr b||(rest (Zr b) x).pos==x.pos)=d9)(h:PT X (toT b c<|rest (Zr b) x)<|tTt X i Φ b)(h2:(Zr b||ZI b)=d9->PW X (toT b c<|rest (Zr b) x) (tTt X i Φ b)) :
  ∃y ys,flat (Zr b) (toT b c<|rest (Zr b) x)=y::ys/\PW X (.BoolOp .And (y::ys) x.pos) (tTt X i Φ b):=by
 cases z:Zr b with
 |false=>rw[z]at h;exact⟨_,_,rfl,ET h⟩
 |true =>have e:=MG hp z;rw[z]at e h2;obtain⟨a,d,rfl⟩:=DH z;refine⟨_,_,rfl,?_⟩;rw[<-e];exact h2 rfl
def Cm(hp:(!ZI b||(rest (ZI b) x).pos==x.pos)=d9)(h:PT X (toT b c<|rest (ZI b) x)<|tTt X i Φ b)(h2:(Zr b||ZI b)=d9->PW X (toT b c<|rest (ZI b) x) (tTt X i Φ b)) :
  ∃y ys,flat (ZI b) (toT b c<|rest (ZI b) x)=y::ys/\PW X (.BoolOp .Or (y::ys) x.pos) (tTt X i Φ b):=by
 cases z:ZI b with
 |false=>rw[z]at h;exact⟨_,_,rfl,IS h⟩
 |true =>have e:=MG hp z;rw[z]at e h2;obtain⟨a,d,rfl⟩:=E6 z;refine⟨_,_,rfl,?_⟩;rw[<-e];exact h2 rfl
variable {e:fY.E}
def Sz(h:Ab e=d9):∃s,e=.cst (.str s):=by
 cases e with
 |cst v=>cases v with
  |str s=>exact⟨s,rfl⟩
  |_=>cases h
 |_=>cases h
variable {ö:List Nat} {p:fY.Pt} {it:fY.It} {æ:Pos}
def KZ(g:Gd X i P n c){mt:fY.Tt}{me:fY.E}{bw Ť aZ:Expr}{x:List Str}{aN:List Expr}{sc:ų}(cB:c.cm=d9)(h1:YA sc c.sc c.N x ö=d9)(hk:sc.kind=.function)(hp:Oh x.length p=d9)
  (hi:PI X aZ Ť<|tIt X i (fY.wF P n) it) (hs:∀y,ĕ Ť X.env y=pure y) (hG:∀cl C s H ex,PG (Zu X sc (Yb X x ö) cl C s H ex) aZ<|gPt i p)
  (hE:∀cl C s H ex,PE (Zu X sc (Yb X x ö) cl C s H ex) bw<|tE0 i (fY.wF P n) me) (hI:∀cl C s H ex,PIfs (Zu X sc (Yb X x ö) cl C s H ex) aN<|tT0 i (fY.wF P n) mt) :
  PE X (.ListComp bw [⟨aZ,Ť,aN,0⟩] sc æ) (tE X i (fY.wF P n)<|.comp ö x.length p it mt me)/\
   ∀(y:Str) (py ϋ:Pos) (j:Nat),X.N[j]?=d7 y->L2.Loc X.env.scope y->(X.fn y=d9\/X.env.scope.names.lookup y=d7 .local)->Ŕ (.ListComp bw [⟨aZ,Ť,aN,0⟩] sc æ) (d7<|.Name y py) ϋ.line X.env=pure d9->PS X (.Assign [.Name y py] (.ListComp bw [⟨aZ,Ť,aN,0⟩] sc æ) ϋ) (tSt X i (fY.wF P n)<|.set (.one j)<|.comp ö x.length p it mt me):=by
 have B:=OE g.sc g.N hk h1;have hc:=g.calm cB;refine⟨(D0 hc B hi hG hI hE hs).imp<|UK hp,λy py ϋ j hj hl hf hsw=>?_⟩;refine(CH (by rw[g.N];exact g.nd) hj hl hc B hi hG hI hE hs hsw hf).imp λD σ H ⟨env,G,N,R,Bk,Ct,Xe,p,w,e⟩=>?_;refine UK hp σ H _ ⟨env,G,_,Xe env,p.pre,w,λv G1 H1 x k1 g1 r1 w1=>?_⟩;obtain⟨Ō,e2,w2⟩:=eC w1;clear w1;cases e2;exact e.nx _ _ G1 H1 k1 g1 ((p.en.keep k1).set r1 j) w2
def N5{j:Nat}(hN:X.N=c.N)(h:j<c.N.length):X.N[j]?=d7 (c.nmOf j):=by rw[hN];unfold Md.nmOf;rw[Ą,Ê h];rfl
def O9{o:Expr}{m:Str}{Ĳ:Pos}{args:List Expr}{env:Env}(hb:ģ o m env (eval o env)=eval o env)(ao:cb (args.length+0) (Ċ æ<|Ì args env) (Ŝ æ<|ĭ [] env)=d9)(hl:(Ĳ.endLine==æ.line)=d9) :
  eval (.Call (.Attribute o m Ĳ) args [] æ) env=(do
    let ov<-eval o env
    Ÿ Ĳ.atName
    let (f,first)<-Ł [ov] (Ŷ ov m<|do return (<-importBound o env).getD d9)
    ϥ æ f first (Ċ æ<|Ì args env) (Ŝ æ<|ĭ [] env)):=by
 show(do
   let ov<-ģ o m env (eval o env)
   Ÿ Ĳ.atName
   methodCall o m Ĳ æ env ov (args.length+0) (Ċ æ<|Ì args env) (Ŝ æ<|ĭ [] env))=_
 rw[hb];unfold methodCall methodCallPos;rw[ao,hl];rfl
def DC(env:Env)(æ:Pos){as:fY.Es}{xs:List Expr}(h:Za as<20):cb ((toA as c xs).length+0) (Ċ æ<|Ì (toA as c xs) env) (Ŝ æ<|ĭ [] env)=d9:=by unfold cb;rw[bAq,bAq,gc,XH];refine⟨⟨Jw env æ as c xs,rfl⟩,?_⟩;show Za as+0+0<30;lia
def P2{m:fY.Tt}(h:O6 m=ee->PT X (toT m c x) (tTt X i (fY.wF P n) m)):PIfs X (toF m c x)<|tT0 i (fY.wF P n) m:=by
 cases m with
 |yes=>exact HX
 |val e=>exact Wv<|pt0<|h rfl
 |not t=>exact Wv<|pt0<|h rfl
 |and a b=>exact Wv<|pt0<|h rfl
 |or a b=>exact Wv<|pt0<|h rfl
def NU(c:Md):∀(es:fY.Es) (xs:List Expr),J8 es=d9->(X9<|toA es c xs).all (·.isSome)=d9/\(X9<|toA es c xs).length=(Bz<|toA es c xs).length/\2*(X9<|toA es c xs).length=esL es
 |.nil,_,_=>⟨rfl,rfl,rfl⟩
 |.cons _ .nil,_,h=>by cases h
 |.cons k (.cons v r),xs,h=>by
  obtain⟨h1,h2,h3⟩:=NU c r xs.tail.tail h;refine⟨?_,?_,?_⟩
  .show(d9&&(X9<|toA r c xs.tail.tail).all (·.isSome))=d9;rw[h1];rfl
  .show(X9<|toA r c xs.tail.tail).length+1=(Bz<|toA r c xs.tail.tail).length+1;rw[h2]
  .show 2*((X9<|toA r c xs.tail.tail).length+1)=esL r+1+1;lia
mutual
theorem eE:∀(m:fY.E) (X:Cx) (c:Md) (x:Expr),Gd X i P n c->okE m c x=d9->PE X (toX m c x) (tE X i (fY.wF P n) m)
 |.cst v,X,c,x,g,h=>Pb h
 |.var j,X,c,x,g,h=>by have h:(gg (j<c.N.length)&&c.vis (c.nmOf j)&&nm (c.nmOf j))=d9:=h;rw[bAq,bAq,gc]at h;obtain⟨q1,q2,_⟩:=Wh h.2;exact QJ (N5 g.N h.1.1) (g.vis h.1.2) q1 q2
 |.glob y v,X,c,x,g,h=>by have h:((c.gl (gh y)&&nm (gh y))&&gg (c.cs.lookup y=d7 v))=d9:=h;rw[bAq,bAq,gc]at h;obtain⟨q1,q2,_⟩:=Wh h.1.2;obtain⟨u,z,e1,e2,e3⟩:=g.cst _ _ h.2;exact IE (MP (g.gl h.1.1) e1 e2 q1) e3
 |.bin o a b,X,c,x,g,h=>by have h:(okE a c (kid x 0)&&okE b c (kid x 1))=d9:=h;rw[bAq]at h;exact QG g (eE a X c _ g h.1)<|eE b X c _ g h.2
 |.neg a,X,c,x,g,h=>Qd<|eE a X c _ g h
 |.not a,X,c,x,g,h=>Qg<|eE a X c _ g h
 |.and a b,X,c,x,g,h=>by have h:(okE a c (kid x 0)&&okE b c (rest (ZP b) x)&&(!ZP b||(rest (ZP b) x).pos==x.pos))=d9:=h;rw[bAq,bAq]at h;have h2:=B1 h.2<|eE b X c _ g h.1.2;obtain⟨y,ys,e⟩:=KS (c:=c) (ZP b) (e:=b) (x:=rest (ZP b) x)<|.inl rfl;show PE X (.BoolOp .And (toX a c (kid x 0)::flat (ZP b) (toX b c<|rest (ZP b) x)) x.pos) _;rw[e]at h2 ⊢;exact Qj (eE a X c _ g h.1.1) h2
 |.or a b,X,c,x,g,h=>by have h:(okE a c (kid x 0)&&okE b c (rest (YI b) x)&&(!YI b||(rest (YI b) x).pos==x.pos))=d9:=h;rw[bAq,bAq]at h;have h2:=FY h.2<|eE b X c _ g h.1.2;obtain⟨y,ys,e⟩:=KS (c:=c) (YI b) (e:=b) (x:=rest (YI b) x)<|.inr rfl;show PE X (.BoolOp .Or (toX a c (kid x 0)::flat (YI b) (toX b c<|rest (YI b) x)) x.pos) _;rw[e]at h2 ⊢;exact So (eE a X c _ g h.1.1) h2
 |.cmp o a b,X,c,x,g,h=>by have h:(okE a c (kid x 0)&&okE b c (kid x 1)&&(!Wi o||N1 b))=d9:=h;rw[bAq,bAq]at h;exact(Nq g h.2 (eE a X c _ g h.1.1)<|eE b X c _ g h.1.2).1
 |.chain o1 o2 a b d,X,c,x,g,h=>by have h:(okE a c (kid x 0)&&okE b c (kid x 1)&&okE d c (kid x 2) && !Wi o1 && !Wi o2)=d9:=h;rw[bAq,bAq,bAq,bAq,Ğ,Ğ]at h;obtain⟨⟨⟨⟨h1,h2⟩,h3⟩,h4⟩,h5⟩:=h;exact(JL g h4 h5 (eE a X c _ g h1) (eE b X c _ g h2)<|eE d X c _ g h3).1
 |.call f as,X,c,x,g,h=>by
  have h:((c.gl (gh f)&&nm (gh f))&&c.fs.contains f&&c.cm&&okA as c (sub x).tail)=d9:=h;rw[bAq,bAq,bAq,bAq]at h;obtain⟨⟨⟨⟨h1,h2⟩,h3⟩,h4⟩,h5⟩:=h;obtain⟨q1,_,_⟩:=Wh h2;have ha:=eA as X c _ g h5;cases as with
  |nil=>exact EI g.K (g.dfs _ h3) (g.rm h4) (g.gl h1) q1
  |cons a as=>exact HZ g.K (g.dfs _ h3) (g.rm h4) (g.gl h1) q1 ha (Zm ..)<|ZR ..
 |.make C as,X,c,x,g,h=>by
  have h:((c.gl (gh C)&&nm (gh C))&&c.cl.contains C&&c.cm&&gg (Za as≠0)&&okA as c (sub x).tail)=d9:=h;rw[bAq,bAq,bAq,bAq,bAq,gc]at h;obtain⟨⟨⟨⟨⟨h1,h2⟩,h3⟩,h4⟩,h6⟩,h5⟩:=h;obtain⟨q1,_,_⟩:=Wh h2;have ha:=eA as X c _ g h5;obtain⟨a,f,i1,i2,M,hm,D⟩:=g.kl.mkc C h3;cases as with
  |nil=>exact gf rfl h6
  |cons b as=>exact L7 g.K i1 i2 M D (g.room h4) (g.gl h1) hm q1 ha (Zm ..)<|ZR ..
 |.meth C m o as,X,c,x,g,h=>by
  have h:(c.ms.contains (C,m)&&c.cm&&okE o c (kid (kid x 0) 0)&&Yn (toX o c<|kid (kid x 0) 0)&&((kid x 0).pos.endLine==x.pos.line)&&gg (Za as<20)&&okA as c (sub x).tail)=d9:=h;rw[bAq,bAq,bAq,bAq,bAq,bAq,gc]at h;obtain⟨⟨⟨⟨⟨⟨h1,h2⟩,h3⟩,h4⟩,h6⟩,h7⟩,h5⟩:=h;have ev:=O9 (m:=gh m) (Yh h4 _ X.env) (DC X.env x.pos (c:=c) (xs:=(sub x).tail) h7) h6;have ha:=eA as X c _ g h5;have ho:=eE o X c _ g h3;obtain⟨a,f,i1,A,M,D⟩:=g.kl.mth C m h1;cases as with
  |nil=>exact F7 g.K i1 A M D (g.rm h2) ho ev
  |cons b as=>exact Pv g.K i1 A M D (g.rm h2) ho ha (Zm ..) (ZR ..) ev
 |.fld o f,X,c,x,g,h=>by have h:(c.fl.contains f&&okE o c (kid x 0)&&Yn (toX o c<|kid x 0))=d9:=h;rw[bAq,bAq]at h;exact QB g.K g.kl.A (g.kl.F _ h.1.1) (eE o X c _ g h.1.2)<|Yh h.2 _ _
 |.bi f as,X,c,x,g,h=>by
  have h:((match Fw f with
    |some T=>gg (Za as=1)&&kinds.contains T&&c.gl "isinstance" && c.gl (gh T)
    |none=>match B4 f with
      |some Ts=>gg (Za as=1)&&c.gl "isinstance" && !c.xs.isEmpty&&Fh c Ts
      |none=>match BF f with
        |some Ts=>gg (Za as=1)&&c.gl "isinstance" && Ts.all (λT=>kinds.contains T&&c.gl (gh T))&&gg (Ts.length<=20)
        | none=>if Wr f then gg (Za as=1)&&c.gl "len" && c.gl "set" && c.cm else if Jl f then gg (Za as=1)&&c.gl (Ys f)&&c.gl (F3 f)&&c.cm else if M2 f then gg (Za as=1)&&c.gl "min" && c.cm else if Uw f then gg (Za as=1)&&c.gl "dict" && c.gl "enumerate" && c.cm else if US f then gg (Za as=1)&&c.gl "isinstance" && c.gn (Nj f)&&c.cl.contains (Nj f)else Wm f&&c.gl (Ys f)&&gg (Za as≠0)&&(c.cm||WB f))&&okA as c (Ug f x))=d9:=h
  rw[bAq]at h;cases z:Fw f with
  |some T =>
   have h1:=h.1;rw[z]at h1;rw[bAq,bAq,bAq,gc]at h1;obtain⟨⟨⟨h1,h2⟩,h3⟩,h4⟩:=h1;cases L9 z;cases as with
   |nil=>cases h1
   |cons a as=>cases as with
    |nil =>have h5:(okE a c _&&d9)=d9:=h.2;rw[bAq]at h5;exact Dk g (Ă.mp h2) h3 h4 (eE a X c _ g h5.1)<|Zm ..
    |cons b as=>exact gf h1 (by simp[Za])
  |none =>
   have h1:=h.1;rw[z]at h1
   replace h1:(match B4 f with
     |some Ts=>gg (Za as=1)&&c.gl "isinstance" && !c.xs.isEmpty&&Fh c Ts
     |none=>match BF f with
       |some Ts=>gg (Za as=1)&&c.gl "isinstance" && Ts.all (λT=>kinds.contains T&&c.gl (gh T))&&gg (Ts.length<=20)
       | none=>if Wr f then gg (Za as=1)&&c.gl "len" && c.gl "set" && c.cm else if Jl f then gg (Za as=1)&&c.gl (Ys f)&&c.gl (F3 f)&&c.cm else if M2 f then gg (Za as=1)&&c.gl "min" && c.cm else if Uw f then gg (Za as=1)&&c.gl "dict" && c.gl "enumerate" && c.cm else if US f then gg (Za as=1)&&c.gl "isinstance" && c.gn (Nj f)&&c.cl.contains (Nj f)else Wm f&&c.gl (Ys f)&&gg (Za as≠0)&&(c.cm||WB f))=d9:=h1
   cases zx:B4 f with
   |some Ts =>
    rw[zx]at h1;rw[bAq,bAq,bAq,gc,Ğ]at h1;obtain⟨⟨⟨h1,h3⟩,h4⟩,h5⟩:=h1;cases Ic zx;cases as with
    |nil=>cases h1
    |cons a as=>cases as with
     |nil =>have h6:(okE a c _&&d9)=d9:=h.2;rw[bAq]at h6;exact BC g h3 (by intro z;rw[z]at h4;cases h4) h5 (eE a X c _ g h6.1)<|Zm ..
     |cons b as=>exact gf h1 (by simp[Za])
   |none =>
    rw[zx]at h1
    replace h1:(match BF f with
      |some Ts=>gg (Za as=1)&&c.gl "isinstance" && Ts.all (λT=>kinds.contains T&&c.gl (gh T))&&gg (Ts.length<=20)
      | none=>if Wr f then gg (Za as=1)&&c.gl "len" && c.gl "set" && c.cm else if Jl f then gg (Za as=1)&&c.gl (Ys f)&&c.gl (F3 f)&&c.cm else if M2 f then gg (Za as=1)&&c.gl "min" && c.cm else if Uw f then gg (Za as=1)&&c.gl "dict" && c.gl "enumerate" && c.cm else if US f then gg (Za as=1)&&c.gl "isinstance" && c.gn (Nj f)&&c.cl.contains (Nj f)else Wm f&&c.gl (Ys f)&&gg (Za as≠0)&&(c.cm||WB f))=d9:=h1
    cases zl:BF f with
    |some Ts=>cases zl
    |none =>
     rw[zl]at h1;dsimp only at h1;split at h1
     .rename_i bJ;have hf:f=.lenSet:=by cases f<;>first|rfl|cases bJ
      subst hf;rw[bAq,bAq,bAq,gc]at h1;obtain⟨⟨⟨h1,h2⟩,h3⟩,h4⟩:=h1;cases as with
      |nil=>cases h1
      |cons a as=>cases as with
       |nil =>have h6:(okE a c _&&d9)=d9:=h.2;rw[bAq]at h6;exact DD (g.calm h4) g.K (eE a X c _ g h6.1) (g.gl h2) (g.bl _<|by simp[blts]) (g.gl h3) (g.bl _<|by simp[blts]) (by rw[Zm];rfl)
       |cons b as=>exact gf h1 (by simp[Za])
     split at h1
     .rename_i _ bJ;exact gf (show ee=d9 from bJ) (by decide)
     split at h1
     .rename_i _ _ bJ;have hf:f=.minD:=by cases f<;>first|rfl|cases bJ
      subst hf;rw[bAq,bAq,gc]at h1;obtain⟨⟨h1,h2⟩,h4⟩:=h1;cases as with
      |nil=>cases h1
      |cons a as=>cases as with
       |nil =>have h6:(okE a c _&&d9)=d9:=h.2;rw[bAq]at h6;exact IU (g.calm h4) (by have:=g.un;lia) g.K (g.gl h2) (g.bl _<|by simp[blts]) (eE a X c _ g h6.1) (by rw[Zm];rfl)
       |cons b as=>exact gf h1 (by simp[Za])
     split at h1
     .rename_i _ _ _ bJ;exact gf (show ee=d9 from bJ) (by decide)
     split at h1
     .rename_i _ _ _ _ bJ;exact gf (show ee=d9 from bJ) (by decide)
     rw[bAq,bAq,bAq,gc]at h1;obtain⟨⟨⟨h1,h2⟩,h3⟩,h4⟩:=h1;have ha:=eA as X c _ g h.2;cases as with
     |nil=>exact gf rfl h3
     |cons a as =>
      have e1:toX (.bi f<|.cons a as) c x=.Call (.Name (Ys f) (kid x 0).pos) (toA (.cons a as) c<|Ug f x) [] x.pos:=by cases f<;>first|(cases h1;done)|rfl
      rw[e1];exact EM g h1 h4 (g.gl h2) ha (Zm ..)<|ZR ..
 |.bm m o as,X,c,x,g,h=>by
  have h:(gg (Eh m=d7 (Za as))&&okE o c (kid (kid x 0) 0)&&Yn (toX o c<|kid (kid x 0) 0)&&((kid x 0).pos.endLine==x.pos.line)&&okA as c (sub x).tail)=d9:=h;rw[bAq,bAq,bAq,bAq,gc]at h;obtain⟨⟨⟨⟨h1,h2⟩,h3⟩,h4⟩,h5⟩:=h;have ha:=eA as X c _ g h5;have ho:=eE o X c _ g h2;cases as with
  |nil=>exact Dh g h1 ho (λf=>Yh h3 f _) h4
  |cons a as =>
   refine GS g h1 ho ha (λf=>Yh h3 f _) h4 ?_ (Zm ..)<|ZR ..;rw[bAq,bAq,gc];refine⟨⟨Jw X.env x.pos (.cons a as) c (sub x).tail,rfl⟩,?_⟩;have e2:(toA (.cons a as) c (sub x).tail).length=Za (.cons a as):=XH ..;have e3:Za (.cons a as)<=2:=by
    have:∀m:fY.Bm,∀k,Eh m=d7 k->k<=2:=by intro m k;cases m<;>intro z<;>first|(cases z;done)|(cases z;decide)
    exact this m _ h1
   show(toA (.cons a as) c (sub x).tail).length+0+0<30;lia
 |.idx a b,X,c,x,g,h=>by have h:(okE a c (kid x 0)&&okE b c (kid x 1))=d9:=h;rw[bAq]at h;exact Q3 (ix_seq.or<|FI (by have:=g.un;lia)) (by rw[g.K];exact Qo) (eE a X c _ g h.1) (eE b X c _ g h.2)<|Ch _ _ _
 |.slc a lo hi,X,c,x,g,h=>by have h:(okE a c (kid x 0)&&okO lo c (kid (kid x 1) 0)&&okO hi c (kid (kid x 1) 1))=d9:=h;rw[bAq,bAq]at h;exact Qw Si (by rw[g.K];exact QW) (eE a X c _ g h.1.1) (eO lo X c _ g h.1.2)<|eO hi X c _ g h.2
 |.tup es,X,c,x,g,h=>by have h:(okA es c (sub x)&&gg (Za es<=1000))=d9:=h;rw[bAq,gc]at h;exact Qs (by rw[XH];exact h.2)<|eA es X c _ g h.1
 |.key es,X,c,x,g,h=>nomatch h
 |.dctP,X,c,x,g,h=>nomatch h
 |.lst es,X,c,x,g,h=>by have h:(okA es c (sub x)&&gg (Za es<=1000))=d9:=h;rw[bAq,gc]at h;exact PR (by rw[XH];exact h.2)<|eA es X c _ g h.1
 |.dct es,X,c,x,g,h=>by
  have h:(okA es c (sub x)&&J8 es&&gg (esL es<=30))=d9:=h;rw[bAq,bAq,gc]at h;obtain⟨⟨h1,h2⟩,h3⟩:=h;have hp:=eD es X c (sub x) x.pos g h1 h2;cases es with
  |nil=>exact LO
  |cons k r=>cases r with
   |nil=>cases h2
   |cons v r =>obtain⟨q1,q2,q3⟩:=NU c (.cons k<|.cons v r) (sub x) h2;refine QN h2 h3 hp q1 q2 (by intro z;cases z) (by rw[<-q3]at h3;lia)
 |.ife t a b,X,c,x,g,h=>by have h:(okT t c (kid x 0)&&okE a c (kid x 1)&&okE b c (kid x 2))=d9:=h;rw[bAq,bAq]at h;exact Qk (eT t X c _ g h.1.1).1 (eE a X c _ g h.1.2)<|eE b X c _ g h.2
 |.comp ö m p it t e,X,c,x,g,h=>by
  have h:((Oh m p&&(YU<|kid x 1).length == m)&&c.cm&&YA (scp x) c.sc c.N (YU<|kid x 1) ö&&(scp x).kind == .function&&okI it c (kid x 2) (!ZE p)&&okE e (c.blk (scp x) (YU<|kid x 1) ö) (kid x 0)&&(O6 t||okT t (c.blk (scp x) (YU<|kid x 1) ö) (kid x 3)))=d9:=h;rw[bAq,bAq,bAq,bAq,bAq,bAq]at h;obtain⟨⟨⟨⟨⟨⟨h1,h2⟩,h3⟩,h4⟩,h5⟩,h6⟩,h7⟩:=h;rw[bAq,beq_iff_eq]at h1;obtain⟨h1,rfl⟩:=h1;have hk:=eq_of_beq h4;obtain⟨t1,t2⟩:=Mo (c:=c.blk (scp x) (YU<|kid x 1) ö) p<|kid x 1;obtain⟨a1,a2⟩:=eI it X c (kid x 2) (toP p (c.blk (scp x) (YU<|kid x 1) ö)<|kid x 1) g (!ZE p) t1 t2 h5;exact(KZ g h2 h3 hk h1 a1 a2 (g.pt h2 h3 hk h1 _)
    (λcl C s H ex=>pe0<|eE e _ _ _ (g.blk h3 hk cl C s H ex) h6) (λcl C s H ex=>P2 λz=>(eT t _ _ _ (g.blk h3 hk cl C s H ex)<|by rw[z]at h7;exact h7).1)).1
 |.fstr es,X,c,x,g,h=>nomatch h
 |.repl _ _ _,X,c,x,g,h=>nomatch h
 |.split o a,X,c,x,g,h=>nomatch h
 |.rev a,X,c,x,g,h=>nomatch h
theorem eD:∀(es:fY.Es) (X:Cx) (c:Md) (xs:List Expr) (æ:Pos),Gd X i P n c->okA es c xs=d9->J8 es=d9->PPs X æ (X9<|toA es c xs) (Bz<|toA es c xs) (UG X i (fY.wF P n) es)
 |.nil,X,c,xs,æ,g,h,he=>GN
 |.cons k .nil,X,c,xs,æ,g,h,he=>by cases he
 |.cons k (.cons v r),X,c,xs,æ,g,h,he=>by have h:(okE k c (xs.headD dE)&&(okE v c (xs.tail.headD dE)&&okA r c xs.tail.tail))=d9:=h;rw[bAq,bAq]at h;exact BQ (eE k X c _ g h.1) (eE v X c _ g h.2.1)<|eD r X c _ æ g h.2.2 he
theorem eA:∀(ms:fY.Es) (X:Cx) (c:Md) (xs:List Expr),Gd X i P n c->okA ms c xs=d9->PA X (toA ms c xs) (tAr X i (fY.wF P n) ms (toA ms c xs).length)
 |.nil,X,c,xs,g,h=>Ib
 |.cons a as,X,c,xs,g,h=>by have h:(okE a c (xs.headD dE)&&okA as c xs.tail)=d9:=h;rw[bAq]at h;exact GI (eE a X c _ g h.1) (eA as X c _ g h.2)<|Zm ..
theorem eJ:∀(ms:fY.Es) (X:Cx) (c:Md) (xs:List Expr),Gd X i P n c->okJ ms c xs=d9->PJ X (toJ ms c xs) (tJs X i (fY.wF P n) ms)
 |.nil,X,c,xs,g,h=>LK
 |.cons a as,X,c,xs,g,h=>by
  have h:((Ab a||okE a c (kid (xs.headD dE) 0))&&okJ as c xs.tail)=d9:=h;rw[bAq]at h;have hr:=eJ as X c _ g h.2;show PJ X ((if Ab a then toX a c (xs.headD dE)else .FormattedValue (toX a c<|kid (xs.headD dE) 0) (-1) d8 (xs.headD dE).pos)::toJ as c xs.tail) _;cases z:Ab a with
  |true =>obtain⟨s,rfl⟩:=Sz z;exact UU Ih hr rfl
  |false =>rw[z]at h;exact UU (HY<|eE a X c _ g h.1) hr rfl
theorem eO:∀(m:fY.Oe) (X:Cx) (c:Md) (x:Expr),Gd X i P n c->okO m c x=d9->PO X (toO m c x) (tOx X i (fY.wF P n) m)
 |.none,X,c,x,g,h=>GE
 |.some e,X,c,x,g,h=>Fv<|eE e X c _ g h
theorem eT:∀(m:fY.Tt) (X:Cx) (c:Md) (x:Expr),Gd X i P n c->okT m c x=d9->PT X (toT m c x) (tTt X i (fY.wF P n) m)/\((Zr m||ZI m)=d9->PW X (toT m c x) (tTt X i (fY.wF P n) m))
 |.yes,X,c,x,g,h=>nomatch h
 |.val e,X,c,x,g,h=>by
  refine⟨?_,λz=>(by cases z)⟩;have h:(okE e c x&&(OH e||P9 e))=d9:=h;rw[bAq]at h;have he:=eE e X c x g h.1;cases z:OH e with
  |true=>exact Ig he (by cases e<;>first|(cases z;done)|exact λ_=>rfl) g.K
  |false =>
   have h2:=h.2;rw[z]at h2;cases e with
   |cmp o a b =>have h:(okE a c (kid x 0)&&okE b c (kid x 1)&&(!Wi o||N1 b))=d9:=h.1;rw[bAq,bAq]at h;exact(Nq g h.2 (eE a X c _ g h.1.1)<|eE b X c _ g h.1.2).2
   |chain o1 o2 a b d =>have h:(okE a c (kid x 0)&&okE b c (kid x 1)&&okE d c (kid x 2) && !Wi o1 && !Wi o2)=d9:=h.1;rw[bAq,bAq,bAq,bAq,Ğ,Ğ]at h;obtain⟨⟨⟨⟨h1,h2⟩,h3⟩,h4⟩,h5⟩:=h;exact(JL g h4 h5 (eE a X c _ g h1) (eE b X c _ g h2)<|eE d X c _ g h3).2
   |_=>cases h2
 |.not t,X,c,x,g,h=>⟨IV (eT t X c _ g h).1,λz=>(by cases z)⟩
 |.and a b,X,c,x,g,h=>by
  have h:(okT a c (kid x 0)&&okT b c (rest (Zr b) x)&&(!Zr b||(rest (Zr b) x).pos==x.pos))=d9:=h;rw[bAq,bAq]at h;have h2:=eT b X c _ g h.1.2;obtain⟨y,ys,e,h3⟩:=Bg h.2 h2.1 h2.2;have h4:PW X (toT (.and a b) c x)<|tTt X i (fY.wF P n)<|.and a b:=by show PW X (.BoolOp .And (toT a c (kid x 0)::flat (Zr b) (toT b c<|rest (Zr b) x)) x.pos) _;rw[e];exact Iv (eT a X c _ g h.1.1).1 h3
  exact⟨h4.pt,λ_=>h4⟩
 |.or a b,X,c,x,g,h=>by
  have h:(okT a c (kid x 0)&&okT b c (rest (ZI b) x)&&(!ZI b||(rest (ZI b) x).pos==x.pos))=d9:=h;rw[bAq,bAq]at h;have h2:=eT b X c _ g h.1.2;obtain⟨y,ys,e,h3⟩:=Cm h.2 h2.1 h2.2;have h4:PW X (toT (.or a b) c x)<|tTt X i (fY.wF P n)<|.or a b:=by show PW X (.BoolOp .Or (toT a c (kid x 0)::flat (ZI b) (toT b c<|rest (ZI b) x)) x.pos) _;rw[e];exact RJ (eT a X c _ g h.1.1).1 h3
  exact⟨h4.pt,λ_=>h4⟩
theorem eI:∀(m:fY.It) (X:Cx) (c:Md) (x tg:Expr),Gd X i P n c->∀(b:Bool),(b=d9->∃es k p,tg=.Tuple es k p)->(b=ee->∃y p,tg=.Name y p)->okI m c x b=d9->PI X tg (toI m c x) (tIt X i (fY.wF P n) m)/\∀y,ĕ (toI m c x) X.env y=pure y
 |.seq e,X,c,x,tg,g,b,t1,t2,h=>⟨LL g.K<|eE e X c _ g h,Lf _ _ _ _⟩
 |.chars e,X,c,x,tg,g,b,t1,t2,h=>nomatch h
 |.range a,X,c,x,tg,g,b,t1,t2,h=>by have h:(c.gl "range" && okE a c (kid x 1))=d9:=h;rw[bAq]at h;exact⟨C5 (g.gl h.1) (g.bl _<|by simp[blts]) (eE a X c _ g h.2)<|Zm ..,λ_=>rfl⟩
 |.range2 a d,X,c,x,tg,g,b,t1,t2,h=>by have h:(c.gl "range" && okE a c (kid x 1)&&okE d c (kid x 2))=d9:=h;rw[bAq,bAq]at h;exact⟨Ay (g.gl h.1.1) (g.bl _<|by simp[blts]) (eE a X c _ g h.1.2) (eE d X c _ g h.2) (by rw[Zm,Zm];rfl)<|Zm ..,λ_=>rfl⟩
 |.zip a d,X,c,x,tg,g,b,t1,t2,h=>nomatch h
 |.enum e,X,c,x,tg,g,b,t1,t2,h=>by have h:(b&&c.gl "enumerate" && okE e c (kid x 1))=d9:=h;rw[bAq,bAq]at h;obtain⟨es,k,p,rfl⟩:=t1 h.1.1;exact⟨FG g.K (g.gl h.1.2) (g.bl _<|by simp[blts]) (eE e X c _ g h.2) (by rw[Zm];rfl),λ_=>rfl⟩
 |.items e,X,c,x,tg,g,b,t1,t2,h=>nomatch h
 |.rev e,_,_,_,_,_,_,_,_,h=>nomatch h
end
def AQ(g:Gd X i P n c){m:Nat}{t:fY.Tt}(h:okE (.comp ö m p it t e) c x=d9) :
  PE X (toX (.comp ö m p it t e) c x) (tE X i (fY.wF P n)<|.comp ö m p it t e)/\
   ∀(y:Str) (py ϋ:Pos) (j:Nat),X.N[j]?=d7 y->L2.Loc X.env.scope y->(X.fn y=d9\/X.env.scope.names.lookup y=d7 .local)->Ŕ (toX (.comp ö m p it t e) c x) (d7<|.Name y py) ϋ.line X.env=pure d9->PS X (.Assign [.Name y py] (toX (.comp ö m p it t e) c x) ϋ) (tSt X i (fY.wF P n)<|.set (.one j)<|.comp ö m p it t e):=by
 have h:((Oh m p&&(YU<|kid x 1).length==m)&&c.cm&&YA (scp x) c.sc c.N (YU<|kid x 1) ö&&(scp x).kind == .function&&okI it c (kid x 2) (!ZE p)&&okE e (c.blk (scp x) (YU<|kid x 1) ö) (kid x 0)&&(O6 t||okT t (c.blk (scp x) (YU<|kid x 1) ö) (kid x 3)))=d9:=h;rw[bAq,bAq,bAq,bAq,bAq,bAq]at h;obtain⟨⟨⟨⟨⟨⟨h1,h2⟩,h3⟩,h4⟩,h5⟩,h6⟩,h7⟩:=h;rw[bAq,beq_iff_eq]at h1;obtain⟨h1,rfl⟩:=h1;have hk:=eq_of_beq h4;obtain⟨t1,t2⟩:=Mo (c:=c.blk (scp x) (YU<|kid x 1) ö) p<|kid x 1;obtain⟨a1,a2⟩:=eI it X c (kid x 2) (toP p (c.blk (scp x) (YU<|kid x 1) ö)<|kid x 1) g (!ZE p) t1 t2 h5;exact KZ g h2 h3 hk h1 a1 a2 (g.pt h2 h3 hk h1 _)
  (λcl C s H ex=>pe0<|eE e _ _ _ (g.blk h3 hk cl C s H ex) h6) (λcl C s H ex=>P2 λz=>(eT t _ _ _ (g.blk h3 hk cl C s H ex)<|by rw[z]at h7;exact h7).1)
abbrev dS:Ģ:=.Pass ⟨0,0,0,0⟩
abbrev stE:Ģ->List Expr
 |.Assign ts v _=>v::ts
 |.AugAssign t _ v _=>[v,t]
 |.For t it _ _ _=>[t,it]
 |.While t _ _ _=>[t]
 |.If t _ _ _=>[t]
 |.Expr e _=>[e]
 |.Return (d7 e) _=>[e]
 |.Raise (d7 e) _ _=>[e]
 |_=>[]
abbrev ke(s:Ģ)(j:Nat):Expr:=(stE s).getD j dE
abbrev stB:Ģ->List Ģ
 |.For _ _ b _ _=>b
 |.While _ b _ _=>b
 |.If _ b _ _=>b
 |.Try b _ _ _ _=>b
 |_=>[]
abbrev stO:Ģ->List Ģ
 |.If _ _ b _=>b
 |_=>[]
abbrev stH:Ģ->List ExceptHandler
 |.Try _ hs _ _ _=>hs
 |_=>[]
abbrev dH:ExceptHandler:=.ExceptHandler d8 d8 [] ⟨0,0,0,0⟩
abbrev hT:ExceptHandler->Expr
 |.ExceptHandler (d7 e) _ _ _=>e
 |_=>dE
abbrev hB:ExceptHandler->List Ģ
 |.ExceptHandler _ _ b _=>b
abbrev hP:ExceptHandler->Pos
 |.ExceptHandler _ _ _ p=>p
abbrev Md.hot(c:Md):Md:={c with cm:=ee}
abbrev ID(t:Option Nat)(e:fY.E)(c:Md)(y:Ģ):Ģ:=match t with
 |none=>.Expr (toX e c<|ke y 0) y.pos
 |some j=>.Assign [.Name (c.nmOf j) (ke y 1).pos] (toX e c<|ke y 0) y.pos
mutual
noncomputable def toS:fY.S->Md->Ģ->Ģ
 |.set p a,c,s=>.Assign [toP p c<|ke s 1] (toX a c<|ke s 0) s.pos
 |.setIdx a j e,c,s=>.Assign [.Subscript (toX a c<|kid (ke s 1) 0) (toX j c<|kid (ke s 1) 1) (ke s 1).pos] (toX e c<|ke s 0) s.pos
 |.setPair a i b j e,c,s=>.Assign [.Tuple [.Subscript (toX a c<|kid (kid (ke s 1) 0) 0) (toX i c<|kid (kid (ke s 1) 0) 1) (kid (ke s 1) 0).pos,.Subscript (toX b c<|kid (kid (ke s 1) 1) 0) (toX j c<|kid (kid (ke s 1) 1) 1) (kid (ke s 1) 1).pos] (num<|ke s 1) (ke s 1).pos] (toX e c<|ke s 0) s.pos
 |.setFld o f e,c,s=>.Assign [.Attribute (toX o c<|kid (ke s 1) 0) (gh f) (ke s 1).pos] (toX e c<|ke s 0) s.pos
 |.augVar j op e,c,s=>.AugAssign (.Name (c.nmOf j) (ke s 1).pos) (OY op) (toX e c<|ke s 0) s.pos
 |.augFld o f op n,c,s=>.AugAssign (.Attribute (toX o c<|kid (ke s 1) 0) (gh f) (ke s 1).pos) (OY op) (.Constant (.int n) (num<|ke s 0) (ke s 0).pos) s.pos
 |.augIdx a j op n,c,s=>.AugAssign (.Subscript (toX a c<|kid (ke s 1) 0) (toX j c<|kid (ke s 1) 1) (ke s 1).pos) (OY op) (.Constant (.int n) (num<|ke s 0) (ke s 0).pos) s.pos
 |.expr e,c,s=>.Expr (toX e c<|ke s 0) s.pos
 |.ret e,c,s=>.Return (d7<|toX e c<|ke s 0) s.pos
 |.retN,_,s=>.Return d8 s.pos
 |.ite t a b,c,s=>.If (toT t c<|ke s 0) (toSs a c<|stB s) (toSs b c<|stO s) s.pos
 |.whl t b,c,s=>.While (toT t c<|ke s 0) (toSs b c<|stB s) [] s.pos
 |.for p it b,c,s=>.For (toP p c<|ke s 0) (toI it c<|ke s 1) (toSs b c<|stB s) [] s.pos
 |.forI d9 p e b,c,s=>.For (toP p c<|ke s 0) (toX e c<|ke s 1) (toSs b c<|stB s) [] s.pos
 |.forI ee p e b,c,s=>.For (toP p c<|ke s 0) (.Call (.Attribute (toX e c<|kid (kid (ke s 1) 0) 0) "items" (kid (ke s 1) 0).pos) [] [] (ke s 1).pos) (toSs b c<|stB s) [] s.pos
 |.brk,_,s=>.Break s.pos
 |.cnt,_,s=>.Continue s.pos
 |.pass,_,s=>.Pass s.pos
 |.raise C as,c,s=>.Raise (d7<|.Call (.Name (gh C) (kid (ke s 0) 0).pos) (toA as c (sub<|ke s 0).tail) [] (ke s 0).pos) d8 s.pos
 |.try t e hs,c,s=>.Try [ID t e c<|(stB s).headD dS] (toH hs c<|stH s) [] [] s.pos
 |_,_,s=>s
noncomputable def toH:fY.Hn->Md->List ExceptHandler->List ExceptHandler
 |.nil,_,_=>[]
 |.cons K nm b r,c,xs=>.ExceptHandler (d7<|.Name (gh K) (hT<|xs.headD dH).pos) (nm.map c.nmOf) (toSs b c.hot<|hB<|xs.headD dH) (hP<|xs.headD dH)::toH r c xs.tail
noncomputable def toSs:fY.Ss->Md->List Ģ->List Ģ
 |.nil,_,_=>[]
 |.cons m ms,c,xs=>toS m c (xs.headD dS)::toSs ms c xs.tail
end
abbrev Hl:fY.E->Bool
 |.idx _ _=>d9
 |.var _=>d9
 |.fld _ _=>d9
 |_=>ee
abbrev M4(c:Md)(j:Nat):Bool:=gg (j<c.N.length)&&c.loc (c.nmOf j)
abbrev okP(p:fY.Pt)(c:Md):Bool:=match p with
 |.one j=>M4 c j
 |.many js=>js.all<|M4 c
 |.nest j js=>M4 c j&&js.all (M4 c)
abbrev Ed:fY.E->Bool
 |.tup _=>d9
 |.key _=>d9
 |_=>ee
abbrev N2:fY.E->Bool
 |.comp _ _ _ _ _ _=>d9
 |_=>ee
abbrev swT(c:Md)(tg v:Expr):Bool:=match v,tg with
 |.ListComp _ _ s æ,.Name t p=>(if c.sc.kind.isAnnotationScope then ScopeKind.function else c.sc.kind) == .function&&c.sc.names.lookup t==d7 .local&&p.line==æ.line && !(s.names.any λ(n,k)=>n==t&&(k == .local||k == .cell))
 |_,_=>ee
abbrev AM:fY.Bop->Bool
 |.add=>d9
 |.sub=>d9
 |_=>ee
abbrev BX:fY.E->Md->Expr->Bool
 |.call f as,c,x=>c.gn f&&c.fs.contains f&&gg (Za as≠0)&&okA as c (sub x).tail
 |.meth C m o as,c,x=>c.ms.contains (C,m)&&okE o c (kid (kid x 0) 0)&&Yn (toX o c<|kid (kid x 0) 0)&&((kid x 0).pos.endLine==x.pos.line)&&gg (Za as<20)&&gg (Za as≠0)&&okA as c (sub x).tail
 |_,_,_=>ee
abbrev R5(c:Md)(j:Nat):Bool:=gg (j<c.N.length)&&c.sc.names.lookup (c.nmOf j)==d7 .local
abbrev L8(c:Md):Option Nat->Bool
 |none=>d9
 |some j=>R5 c j
abbrev Ce(c:Md):Option Nat->Bool
 |none=>d9
 |some j=>M4 c j
abbrev O2:fY.Ss->Bool
 |.nil=>ee
 |_=>d9
abbrev Q9:fY.Hn->Bool
 |.nil=>d9
 |_=>ee
mutual
noncomputable def okS:fY.S->Md->Ģ->Bool
 |.set p a,c,s=>okP p c&&okE a c (ke s 0)&&(ZE p || !Ed a)&&(ZE p||c.cm)
 |.setIdx a j e,c,s=>okE e c (ke s 0)&&okE a c (kid (ke s 1) 0)&&okE j c (kid (ke s 1) 1)
 |.setFld o f e,c,s=>c.fl.contains f&&okE o c (kid (ke s 1) 0)&&okE e c (ke s 0)
 |.augFld o f op _,c,s=>c.fl.contains f&&okE o c (kid (ke s 1) 0)&&AM op
 |.augIdx a j op _,c,s=>okE a c (kid (ke s 1) 0)&&okE j c (kid (ke s 1) 1)&&AM op
 |.expr e,c,s=>okE e c (ke s 0) && !N2 e
 |.ret e,c,s=>okE e c<|ke s 0
 |.retN,_,_=>d9
 |.ite t a b,c,s=>okT t c (ke s 0)&&okSs a c (stB s)&&okSs b c (stO s)
 |.whl t b,c,s=>okT t c (ke s 0)&&okSs b c (stB s)&&c.cm
 |.for p it b,c,s=>okP p c&&okI it c (ke s 1) (!ZE p)&&okSs b c (stB s)&&c.cm
 |.forI d9 p e b,c,s=>okP p c&&Hl e&&okE e c (ke s 1)&&okSs b c (stB s)&&c.cm
 |.forI ee p e b,c,s=>okP p c && !ZE p&&okE e c (kid (kid (ke s 1) 0) 0)&&Yn (toX e c<|kid (kid (ke s 1) 0) 0)&&((kid (ke s 1) 0).pos.endLine==(ke s 1).pos.line)&&okSs b c (stB s)&&c.cm
 |.never,_,_=>d9
 |.raise C as,c,s=>c.gn C&&c.xs.contains C&&c.cm&&gg (Za as≠0)&&gg (Za as<=1000)&&okA as c (sub<|ke s 0).tail
 |.try t e hs,c,s=>BX e c (ke ((stB s).headD dS) 0)&&Ce c t&&okH hs c (stH s)&&c.cm
 |_,_,_=>ee
noncomputable def okH:fY.Hn->Md->List ExceptHandler->Bool
 |.nil,_,_=>ee
 |.cons K nm b r,c,xs=>(c.xs.contains K||K == "ShutError")&&c.gn K && !c.xs.isEmpty&&L8 c nm&&O2 b&&okSs b c.hot (hB<|xs.headD dH)&&Q9 r
noncomputable def okSs:fY.Ss->Md->List Ģ->Bool
 |.nil,_,_=>d9
 |.cons m ms,c,xs=>okS m c (xs.headD dS)&&okSs ms c xs.tail
end
structure Gs(X:Cx)(i:Inf)(P:fY.Pg)(n:Nat)(c:Md):Prop extends Gd X i P n c where
 fn:∀x,c.loc x=d9->X.fn x=d9\/X.env.scope.names.lookup x=d7 .local
 own:c.cm=d9->Α (à X.prog X.w) X.A X.env X.xe
 stk:c.cm=d9->X.stack=X.env::X.outer
variable {X:Cx}{i:Inf}{P:fY.Pg}{n:Nat}{c:Md}
def Gs.nm1(g:Gs X i P n c){j:Nat}(h:M4 c j=d9):X.N[j]?=d7 (c.nmOf j)/\L2.Loc X.env.scope (c.nmOf j)/\(X.fn (c.nmOf j)=d9\/X.env.scope.names.lookup (c.nmOf j)=d7 .local):=by unfold M4 at h;rw[bAq,gc]at h;exact⟨N5 g.N h.1,g.loc h.2,g.fn _ h.2⟩
variable {p:fY.Pt}
def Rp(g:Gs X i P n c)(h:okP p c=d9):HC (CP X c) p:=by
 cases p with
 |one j=>exact g.nm1 h
 |many js=>exact λj hj=>g.nm1<|ó.mp h j hj
 |nest j js =>have h:(M4 c j&&js.all (M4 c))=d9:=h;rw[bAq]at h;exact⟨g.nm1 h.1,λk hk=>g.nm1<|ó.mp h.2 k hk⟩
variable {x:Expr}
def UF(g:Gs X i P n c)(cB:c.cm=d9)(h:okP p c=d9):PG X (toP p c x)<|gPt i p:=Hh g.K (by rw[g.N];exact g.nd) (g.calm cB) (Rp g h)
variable {tg:Expr}
def Jo{l:Nat}{env:Env}(a:fY.E)(x:Expr)(hs:env.scope=c.sc):Ŕ (toX a c x) (d7 tg) l env=pure (swT c tg<|toX a c x):=by
 cases a with
 |comp ö m p it t e =>
  cases tg with
  |Name t q =>unfold Ŕ swT Env.blockKind Env.kindOf;rw[hs];rfl
  |_=>rfl
 |_=>rfl
def LH(p:fY.Pt)(a:fY.E)(x y:Expr)(env:Env)(h:(ZE p || !Ed a)=d9):Ξ [toP p c x] (toX a c y) env=pure d8:=by
 cases p with
 |one j=>cases a<;>rfl
 |many js=>cases a<;>first|rfl|cases h
 |nest j js=>cases a<;>first|rfl|cases h
def B6(p:fY.Pt)(x:Expr)(env:Env):(ě [toP p c x] env).map (·.2)=[ŵ (toP p c x) env]:=by cases p<;>rfl
def LE{a:fY.E}(h:swT c tg (toX a c x)=d9):∃ö m p it t e,a=.comp ö m p it t e:=by
 cases a with
 |comp ö m p it t e=>exact⟨_,_,_,_,_,_,rfl⟩
 |_=>cases h
def GJ(y:fY.E){b:Expr}{æ:Pos}{env:Env}:∀v,ŵ (.Subscript b (toX y c x) æ) env v=(do
    let ov<-Ł [v] (eval b env)
    let iv<-Ł [v,ov] (eval (toX y c x) env)
    Ÿ æ
    Ł [v,ov,iv] (aB ov iv v)
    dL [v,ov,iv] []):=by
 intro v;cases y<;>rfl
def GW{op:fY.Bop}(h:AM op=d9):DL X (OY op)<|rAS op:=by
 cases op with
 |add =>
  intro Á s σ H x y u v Q I rx ry q;obtain⟨a,b,rfl,rfl,q⟩:=q;rcases q with⟨_,q⟩|⟨z,_⟩
  .exact LU Á s σ H _ _ u v Q I rx ry ⟨a,b,rfl,rfl,q⟩
  .cases z
 |sub =>
  intro Á s σ H x y u v Q I rx ry q;obtain⟨a,b,rfl,rfl,q⟩:=q;rcases q with⟨z,_⟩|⟨_,q⟩
  .cases z
  .exact Pq Á s σ H _ _ u v Q I rx ry ⟨a,b,rfl,rfl,q⟩
 |_=>cases h
def Cy:PGet X<|BN X.K:=λÁ s σ H x y v u Q I rx ry h=>by
 obtain⟨p,xs,i,z,rfl,rfl,hq,he,q⟩:=h;cases rx;obtain⟨t,rfl⟩:=ry;obtain⟨ì,r,pl,hz⟩:=I.list hq;obtain⟨j,h1,h2,h3,h4,h5⟩:=Je he;obtain⟨w,ew,aH⟩:=r.get h2;have hl:=r.length;have hn:=Xm;have fin:EP X Á σ Q w s:=⟨z,H,I,aH,q⟩
 by_cases h0:0<=i
 .have hj:i.toNat=j:=by
   rw[bc h0 h5]at h1;exact í h1
  exact wpAny_getItem_list pl.isList h0 (by lia) (by rw[hj];simpa using ew) fin
 .have hj:(i+(ì.toArray.size:Int)).toNat=j:=by
   rw[aC (by lia) h4]at h1;rw[Ë,<-hl];exact í h1
  exact dR pl.isList (by lia) (by rw[Ë]<;>lia) (by lia) (by rw[hj];simpa using ew) fin
def Ea(hu:X.A.units+1<Ě):PGet X BI:=λÁ s σ H x y v u Q I rx ry h=>by obtain⟨a,z,rfl,g,q⟩:=h;cases rx;exact K0 hu I g ry λw s' I' r=>⟨z,H,I',r,q⟩
def PGet.or{r r':R2}(h:PGet X r)(h':PGet X r'):PGet X λx y H Q=>r x y H Q\/r' x y H Q:=λÁ s σ H o j ov jv Q I ro rj q=>by
 rcases q with q|q
 .exact h Á s σ H o j ov jv Q I ro rj q
 .exact h' Á s σ H o j ov jv Q I ro rj q
def Im{G:fY.Hs}{H:Hp}{a:È}{u w:fY.Val}{y:V}{K:Frag}{Q:VK}(g:RH i G H)(ry:RV i.K H u y)(e:fY.fu G (.ref a) u=d7 w)(q:∀z,RV i.K H w z->Q z H):BN K (.ref a) y H Q\/BI (.ref a) y H Q:=by
 replace e:(match G a with|some (.lst xs)=>(fY.fU u).bind (fY.atI xs)|some (.dct kvs)=>if fY.eX u then fY.fb kvs u else d8|some (.frz kvs)=>if fY.eX u then fY.fb kvs u else d8|some (.dtp kvs)=>if fY.isKeyT u then fY.fb kvs u else d8|_=>d8)=d7 w:=e
 cases z:G a with
 |none=>rw[z]at e;cases e
 |some o =>
  rw[z]at e;cases o with
  |lst xs =>obtain⟨k,hk,e⟩:=á.mp e;cases ZK hk;obtain⟨vs,h1,h2⟩:=g a _ z;obtain⟨t,h3,h4⟩:=W4 h2 e;exact .inl ⟨a,vs,k,t,rfl,ry.int_inv,fP.of h1,h3,q t h4⟩
  |dct kvs =>obtain⟨hk,e⟩:=Zs (show(if fY.eX u then fY.fb kvs u else d8)=d7 w from e);obtain⟨ps,h1,h2⟩:=g a _ z;obtain⟨d,kr,rfl⟩:=eU hk ry;obtain⟨t,hx,rv⟩:=(h2.look kr).1 w e;exact .inr ⟨a,t,rfl,by rw[<-hx];exact DGet.k h1,q t rv⟩
  |frz kvs =>obtain⟨hk,e⟩:=Zs (show(if fY.eX u then fY.fb kvs u else d8)=d7 w from e);obtain⟨ob,ps,h1,h2⟩:=g a _ z;obtain⟨d,kr,rfl⟩:=eU hk ry;obtain⟨t,hx,rv⟩:=(h2.look kr).1 w e;exact .inr ⟨a,t,rfl,.inl ⟨ps,d,.inr ⟨ob,h1⟩,rfl,hx.symm⟩,q t rv⟩
  |dtp kvs =>obtain⟨hk,e⟩:=Zs (show(if fY.isKeyT u then fY.fb kvs u else d8)=d7 w from e);obtain⟨ps,h1,h2⟩:=g a _ z;obtain⟨k1,k2,b,rfl,rfl,hb⟩:=Jn hk ry;obtain⟨t,hx,rv⟩:=(h2.look).1 w e;exact .inr ⟨a,t,rfl,by rw[<-hx];exact DGet.t h1 hb,q t rv⟩
  |_=>cases e
def Lz(e:fY.E)(x:Expr):∀ov iv new,augStore (toX e c x) ov iv new=(do Ł [new,ov,iv] (aB ov iv new);dL [new,ov,iv] [];pure .next):=by intro ov iv new;cases e<;>rfl
def A1{Φ:fY.Fs}{a j:Expr}{ma mj:fY.E}{op:fY.Bop}{k:Int}{kk:Nat}{æ ck ŀ:Pos}(hK:X.K=i.K)(hu:X.A.units+1<Ě)(h:AM op=d9)(ha:PE X a<|tE X i Φ ma)(hj:PE X j<|tE X i Φ mj)
  (hs:∀ov iv new,augStore j ov iv new=(do Ł [new,ov,iv] (aB ov iv new);dL [new,ov,iv] [];pure .next)) :
  PS X (.AugAssign (.Subscript a j ck) (OY op) (.Constant (.int k) kk ŀ) æ) (tSt X i Φ<|.augIdx ma mj op k) :=
 (Gf ha hj (PGet.or Cy<|Ea hu) Oq (GW h) (PSet.or NH<|NW hu) hs).imp λD σ H ⟨env,G,N,R,B,C,Xe,p,w,c⟩=>by
  refine one p.pre w λv G1 H1 x k1 p1 rx q=>?_;refine one p1 q λu G2 H2 y k2 p2 ry q=>?_;obtain⟨t,e1,q2⟩:=eC q;clear q;obtain⟨z,e2,q3⟩:=eC q2;clear q2;obtain⟨G3,e3,q4⟩:=eC q3;clear q3;have hr:∃b,v=.ref b:=by
   cases v with
   |ref b=>exact⟨b,rfl⟩
   |_=>cases e3
  obtain⟨b,rfl⟩:=hr;cases rx.ref_inv;have ix2:∀Q:VK,(∀t',RV i.K H2 t t'->Q t' H2)->BN X.K (.ref b) y H2 Q\/BI (.ref b) y H2 Q:=λQ hQ=>Im p2.hp ry e1 hQ;refine ix2 _ λt' rt=>?_;obtain⟨n1,n2,rfl,e0,hz⟩:=NF e2;cases e0;cases rt.int_inv;have fin:∀m:Int,z=.int m->CC (.ref b) y (.int m) H2 λH6=>D.nx σ H6:=λm hm=>by subst hm;exact C8 p2.hp (.ref b) ry (.int m) e3 λH3 k3 g3=>c.nx env σ _ _ ((k1.trans k2).trans k3) g3 (p2.en.keep k3) q4
  rcases hz with⟨eo,hz⟩|⟨eo,hz⟩
  .exact⟨n1,k,rfl,rfl,.inl ⟨eo,fin _ hz⟩⟩
  .exact⟨n1,k,rfl,rfl,.inr ⟨eo,fin _ hz⟩⟩
def Gg(t v:Expr)(p:Pos)(env:Env)(h:(∃a b q,t=.Subscript a b q)\/(∃a b q,t=.Attribute a b q)):Ξ [t] v env=pure d8:=by rcases h with⟨a,b,q,rfl⟩|⟨a,b,q,rfl⟩<;>rfl
variable {a:fY.E} {x:Expr}
def Fi{t:Option Expr}{l:Nat}{env:Env}(h:(!N2 a)=d9):Ŕ (toX a c x) t l env=pure ee:=by
 cases a with
 |comp ö m p it tt e=>cases h
 |_=>rfl
def DB{tg:Expr}(h:∀y q,tg≠.Name y q):swT c tg (toX a c x)=ee:=by
 cases a with
 |comp ö m p it tt e =>
  cases tg with
  |Name y q=>exact gf rfl<|h y q
  |_=>rfl
 |_=>rfl
def LJ(g:Gs X i P n c){p:fY.Pt}(hc:(ZE p||c.cm)=d9)(h:okP p c=d9):PG X (toP p c x)<|gPt i p:=by
 by_cases cB:c.cm=d9
 .exact UF g cB h
 .cases p with
  |one j =>obtain⟨h1,h2,h3⟩:=g.nm1 h;exact N3 (by rw[g.N];exact g.nd) h1 h2 h3
  |many js=>exact gf hc cB
  |nest j js=>exact gf hc cB
def Hk(Y:Cx)(H:Hp):XW Y<|XK1 i H λ_ _=>False:=λ_ _ _ _ _ _ _ _ _ _ ⟨_,_,_,_,_,_,_,z⟩=>z.elim
def Li(Y:Cx)(H:Hp):XW Y<|XKS i H λ_ _ _=>False:=λ_ _ _ _ _ _ _ _ _ _ ⟨_,_,_,_,_,_,_,_,z⟩=>z.elim
variable {Φ:fY.Fs} {e:Expr} {es:List Expr} {ms:fY.Es} {æ:Pos}
def C9{C:String}{a:È}{k:Nat}{np ŀ:Pos}(hc:X.calm=d9)(O:PyProof.Rows.OwnCls (gh C) a [.type "ValueError",.type "Exception",.type "BaseException",.type "object"] "ValueError.__new__" X.mg X.base)(hx:i.xc C a)(hg:Gl X<|gh C)
  (ha:PA X (e::es)<|tAr X i Φ ms k) (hk:k<=1000) (ϗ:(gh C==("__debug__" : Str))=ee) (he:Ì (e::es) X.env=(ee,eval e X.env)::Ì es X.env) (hpl:(Ċ ŀ<|Ì es X.env).any (·.1)=ee) :
  PS X (.Raise (d7<|.Call (.Name (gh C) np) (e::es) [] ŀ) d8 æ) (tSt X i Φ<|.raise C ms):=by
 intro Á s σ H D I ⟨env,G,N,R,B,Cq,Xe,p,w,_⟩;rw[fY.q_s_raise]at w;refine De (E:=XK1 i H<|Xe env) p.pre.xo hc O hg ha ϗ he hpl Á s σ H D I ⟨env,G,_,Xe env,p.pre,w,λvs G1 H1 xs k1 g1 r1 hl w1=>⟨?_,C,G1,a,rfl,hx,k1,g1,w1⟩⟩;rw[hl];unfold Ú;lia
abbrev tB0(i:Inf)(Φ:fY.Fs)(m:fY.Ss):TS:=λD σ H=>∃env G N R B C,REn i.K H env σ/\RH i G H/\fY.wSs Φ m env G N R B C (λ_ _ _=>False)/\EOk i H D N R B C
def P5{Y:Cx}{sts:List Ģ}{m:fY.Ss}(h:PSs Y sts<|tBl Y i Φ m):PSs Y sts (tB0 i Φ m) :=
 h.imp λD σ H ⟨env,G,N,R,B,C,e,g,w,q⟩=>⟨env,G,N,R,B,C,_,⟨e,g,Li Y H⟩,w,q⟩
variable {H:Hp} {σ:St}
def REn.unset{K:Frag}{env:fY.Env}(r:REn K H env σ)(j:Nat):REn K H (env.set j d8)<|σ.set j d8:=⟨by simp[r.len],λi u e=>by
  by_cases hij:j=i
  . subst hij
    rw[Ζ]at e
    cases z:env[j]? with
    |none=>rw[z]at e;cases e
    |some w=>rw[z]at e;cases e
  . rw[ĩ hij]at e
    obtain⟨y,h1,h2⟩:=r.get i u e
    exact⟨y,by rw[ĩ hij];exact h1,h2⟩⟩
abbrev tCx(i:Inf)(Φ:fY.Fs)(m:fY.E):St->Hp->VK->XK->Prop:=λσ H Q E=>∃env G Qm Em,REn i.K H env σ/\RH i G H/\fY.wC Φ m env G Qm Em/\Cn i H Q Qm/\∀cls d H',XK1 i H Em cls d H'->E cls d H'
def FZ{f:String}{k:Nat}{p:Pos}(hK:X.K=i.K)(D:Dfo X.prog X.w X.mg X.base i P n f)(hr:fh (2*n) X.A)(hg:Gl X<|gh f)(ϗ:(gh f==("__debug__" : Str))=ee)
  (ha:PA X.nox (e::es)<|tAr X.nox i (fY.wF P n) ms k) (he:Ì (e::es) X.env=(ee,eval e X.env)::Ì es X.env) (hpl:(Ċ æ<|Ì es X.env).any (·.1)=ee) :
  PCx X (.Call (.Name (gh f) p) (e::es) [] æ) (tCx i (fY.wF P n)<|.call f ms):=by
 obtain⟨fa,fd,ps,F,hm,hk,hb⟩:=D;rw[<-hK]at F hk hb;intro Á s σ H Q E I ⟨env,G,Qm,Em,en,g,w,cn,x⟩;refine Fz ⟨fa,fd,F,hm,hk,hb⟩ hr (Í _) hg ha ϗ he hpl Á s σ H Q E I ?_;exact⟨env,G,_,λ_ _=>False,⟨en,g,Hk X.nox H⟩,w,λvs G1 H1 xs k1 g1 r1 hl w1=>⟨vs,G1,Qm,Em,r1,g1,w1,cn.go k1,λcls d H' h=>x cls d H'<|h.go k1⟩⟩
def FQ{k:Nat}{Cn m:String}{C f:È}{o:Expr}{mo:fY.E}{Ĳ:Pos}{pl:Sem Bool}(hK:X.K=i.K)(hfn:∀c,i.cl Cn c->c=C)(A:Cls i.K C)(M:Meth i.K C (gh m) f)(D:Dfm X.prog X.w X.mg X.base i P n (Cn ++ "." ++ m) f)(hr:fh (2*n) X.A)
  (ho:PE X.nox o<|tE X.nox i (fY.wF P n) mo) (ha:PA X.nox (e::es)<|tAr X.nox i (fY.wF P n) ms k) (he:Ì (e::es) X.env=(ee,eval e X.env)::Ì es X.env) (hpl:(Ċ æ<|Ì es X.env).any (·.1)=ee)
  (ht:eval (.Call (.Attribute o (gh m) Ĳ) (e::es) [] æ) X.env=(do
    let ov<-eval o X.env
    Ÿ Ĳ.atName
    let (f,first)<-Ł [ov] (Ŷ ov (gh m) pl)
    ϥ æ f first (Ċ æ<|Ì (e::es) X.env) (Ŝ æ<|ĭ [] X.env))) :
  PCx X (.Call (.Attribute o (gh m) Ĳ) (e::es) [] æ) (tCx i (fY.wF P n)<|.meth Cn m mo ms):=by
 obtain⟨fd,ps,F,hb⟩:=D;rw[<-hK]at F hb M A;intro Á s σ H Q E I ⟨env,G,Qm,Em,en,g,w,cn,x⟩;refine CL ho A M F hr hb ha he hpl ht Á s σ H Q E I<|one ⟨en,g,Hk X.nox H⟩ w λv G1 H1 y k1 p1 rv q=>?_;obtain⟨hq,w1⟩:=q;obtain⟨a,fs,rfl,e2,e3⟩:=WL hq;cases rv.ref_inv;obtain⟨c',dx,bI,hi,hc,h1,rf⟩:=p1.hp a _ e2;cases hfn c' hc;refine⟨a,dx,bI,rfl,h1,rf.look.2 e3,env,G1,_,λ_ _=>False,p1,w1,λvs G2 H2 xs k2 g2 r2 hl w2=>?_⟩;exact⟨.ref a::vs,G2,Qm,Em,.cons (.ref a) r2,g2,w2,(cn.go k1).go k2,λcls d H' h=>x cls d H'<|(h.go k2).go k1⟩
def Bx{m:fY.E}{t:Option Nat}{hs:fY.Hn}{D:Ends}{E:XK}{env:fY.Env}{G:fY.Hs}{N:fY.NQ}{R:fY.Q1}{B C:fY.NQ}{nx:V->St}(en:REn i.K H env σ)(g:RH i G H)
  (w:fY.wC Φ m env G (λv h1=>N (fY.tryEnv env t v) h1) λc g=>fY.wH Φ hs c env g N R B C) (q:EOk i H D N R B C)
  (hn:∀v x H',eZ H H'->RV i.K H' v x->REn i.K H' (fY.tryEnv env t v) (nx x))
  (hx:∀Cn ad G' H',i.xc Cn ad->eZ H H'->RH i G' H'->fY.wH Φ hs Cn env G' N R B C->E (.ref ad) d8 H') (hd:∀cls d H',E cls d8 H'->E cls d H') :
  tCx i Φ m σ H (λv H'=>D.nx (nx v) H') E:=by
 refine⟨env,G,_,_,en,g,w,λv G' H' x k g' r h=>q.nx _ _ G' H' k g' (hn v x H' k r) h,λcls d H' ⟨Cn,G',ad,e,hc,k,g',h⟩=>?_⟩;subst e;exact hd _ d H'<|hx Cn ad G' H' hc k g' h
variable {m:fY.E} {Da:È} {b:fY.Ss} {body:Ģ} {b0:Ģ} {ϐ:List Ģ} {tp:Pos} {cZ:Pos} {nx:St->V->St}
def IF{t:Option Nat}{K:String}(ņ:X.stack=X.env::X.outer)(hK:X.K=i.K)(hb:PB X [body] λD E σ H=>tCx i Φ m σ H (λv H'=>D.nx (nx σ v) H') E)
  (hn:∀H env σ v x,REn i.K H env σ->RV i.K H v x->REn i.K H (fY.tryEnv env t v) (nx σ x)) (hg:Gl X<|gh K) (hm:X.mg (gh K)=d7 (.ref Da)) (hx:∀C a,i.xc C a->fY.fO C K=d9->PySem.W.exmOne i.K (.ref a) (.ref Da)=d7 d9)
  (hs:∀a,PSs (X.caught a) (b0::ϐ)<|tB0 i Φ b) (ϗ:(gh K==("__debug__" : Str))=ee) :
  PS X (.Try [body] [.ExceptHandler (d7<|.Name (gh K) tp) d8 (b0::ϐ) cZ] [] [] æ) (tSt X i Φ<|.try t m (.cons K d8 b .nil)) :=
 (Ev ņ hb hg hm hs ϗ).imp λD σ H ⟨env,G,N,R,B,C,Xe,p,w,q⟩=>by
  rw[fY.q_s_try]at w;refine Bx (nx:=nx σ) p.en p.hp w q (λv x H' k r=>hn H' env σ v x (p.en.keep k) r) (λCn ad G' H' hc k g' h=>?_) λcls d H' z=>z;rw[fY.q_h_none]at h;by_cases e:fY.fO Cn K=d9
  .rw[fZ e]at h;rw[hK];refine⟨hx Cn ad hc e,λa ha=>⟨env,G',N,R,B,C,?_,XF g' ha,h,(q.go k).go<|eZ.new ha⟩⟩;exact(p.en.keep k).keep<|eZ.new ha
  .rw[f8 e,fY.q_h_nil]at h;exact h.elim
def Gv{t:Option Nat}{K:String}{j:Nat}{y:Str}(ņ:X.stack=X.env::X.outer)(hN:X.N.Nodup)(hj:X.N[j]?=d7 y)(hy:X.env.scope.names.lookup y=d7 .local)(hK:X.K=i.K)(hb:PB X [body] λD E σ H=>tCx i Φ m σ H (λv H'=>D.nx (nx σ v) H') E)
  (hn:∀H env σ v x,REn i.K H env σ->RV i.K H v x->REn i.K H (fY.tryEnv env t v) (nx σ x)) (hg:Gl X<|gh K) (hm:X.mg (gh K)=d7 (.ref Da)) (hx:∀C a,i.xc C a->fY.fO C K=d9->PySem.W.exmOne i.K (.ref a) (.ref Da)=d7 d9)
  (hs:∀a,PSs (X.caught a) (b0::ϐ)<|tB0 i Φ b) (ϗ:(gh K==("__debug__" : Str))=ee) :
  PS X (.Try [body] [.ExceptHandler (d7<|.Name (gh K) tp) (d7 y) (b0::ϐ) cZ] [] [] æ) (tSt X i Φ<|.try t m (.cons K (d7 j) b .nil)) :=
 (IZ ņ hN hj hy hb hg hm hs ϗ).imp λD σ H ⟨env,G,N,R,B,C,Xe,p,w,q⟩=>by
  rw[fY.q_s_try]at w;refine Bx (nx:=nx σ) p.en p.hp w q (λv x H' k r=>hn H' env σ v x (p.en.keep k) r) (λCn ad G' H' hc k g' h=>?_) λcls d H' z=>z;rw[fY.q_h_some]at h;by_cases e:fY.fO Cn K=d9
  .rw[fZ e]at h;rw[hK];refine⟨hx Cn ad hc e,λa ha=>?_⟩;have k2:eZ H'<|upd H' a<|xcO a<|.ref ad:=eZ.new ha;refine⟨_,_,_,R,_,_,((p.en.keep k).keep k2).set (.ref a) j,g'.put (o:=.exc Cn) k2 ⟨ad,hc,ej⟩,h a<|g'.free ha,⟨?_,?_,?_,?_⟩⟩
   .exact λĳ Ŀ G2 H2 k3 g3 r3 n3=>q.nx _ _ G2 H2 ((k.trans k2).trans k3) g3 (r3.unset j) n3
   .exact λv G2 H2 x k3 g3 r3 n3=>q.rt v G2 H2 x ((k.trans k2).trans k3) g3 r3 n3
   .exact λĳ Ŀ G2 H2 k3 g3 r3 n3=>q.bk _ _ G2 H2 ((k.trans k2).trans k3) g3 (r3.unset j) n3
   .exact λĳ Ŀ G2 H2 k3 g3 r3 n3=>q.ct _ _ G2 H2 ((k.trans k2).trans k3) g3 (r3.unset j) n3
  .rw[f8 e,fY.q_h_nil]at h;exact h.elim
def Gd.nox(g:Gd X i P n c):Gd X.nox i P n c :=
 ⟨g.K,g.N,g.sc,g.nd,g.un,g.calm,g.room,g.bl,g.dfs,g.cst,⟨g.kl.A,g.kl.F,g.kl.mkc,g.kl.mth⟩,λh=>⟨(g.xl h).xc,(g.xl h).rs,(g.xl h).kn⟩⟩
def Gs.hot(g:Gs X i P n c)(a:È):Gs (X.caught a) i P n c.hot :=
 {K:=g.K,N:=g.N,sc:=g.sc,nd:=g.nd,un:=g.un,calm:=λz=>(by cases z),room:=λz=>(by cases z),bl:=g.bl,dfs:=g.dfs,cst:=g.cst,kl:=⟨g.kl.A,g.kl.F,g.kl.mkc,g.kl.mth⟩,xl:=λh=>⟨(g.xl h).xc,(g.xl h).rs,(g.xl h).kn⟩,fn:=g.fn,own:=λz=>(by cases z),stk:=λz=>(by cases z)}
def IY(g:Gs X i P n c){t:Option Nat}{y:Ģ}(cB:c.cm=d9)(h:BX m c (ke y 0)=d9)(ht:Ce c t=d9) :
  ∃nx:St->V->St,PB X [ID t m c y] (λD E σ H=>tCx i (fY.wF P n) m σ H (λv H'=>D.nx (nx σ v) H') E)/\∀H env σ v x,REn i.K H env σ->RV i.K H v x->REn i.K H (fY.tryEnv env t v) (nx σ x):=by
 cases m with
 |call f as =>
  have h:((c.gl (gh f)&&nm (gh f))&&c.fs.contains f&&gg (Za as≠0)&&okA as c (sub<|ke y 0).tail)=d9:=h;rw[bAq,bAq,bAq,bAq,gc]at h;obtain⟨⟨⟨⟨h1,h2⟩,h3⟩,h4⟩,h5⟩:=h;cases as with
  |nil=>exact gf rfl h4
  |cons a as =>
   have hc:PCx X (toX (.call f<|.cons a as) c<|ke y 0)<|tCx i (fY.wF P n)<|.call f<|.cons a as:=FZ g.K (g.dfs _ h3) (g.rm cB) (g.gl h1) (Wh h2).1 (eA (.cons a as) X.nox c _ g.toGd.nox h5) (Zm ..)<|ZR ..;cases t with
   |none=>exact⟨λσ _=>σ,U0 hc rfl,λH env σ v x e _=>e⟩
   |some j =>obtain⟨q1,q2,q3⟩:=g.nm1 ht;exact⟨λσ v=>σ.set j<|d7 v,El (by rw[g.N];exact g.nd) q1 q2 hc rfl q3,λH env σ v x e r=>e.set r j⟩
 |meth C m o as =>
  have h:(c.ms.contains (C,m)&&okE o c (kid (kid (ke y 0) 0) 0)&&Yn (toX o c<|kid (kid (ke y 0) 0) 0)&&((kid (ke y 0) 0).pos.endLine==(ke y 0).pos.line)&&gg (Za as<20)&&gg (Za as≠0)&&okA as c (sub<|ke y 0).tail)=d9:=h;rw[bAq,bAq,bAq,bAq,bAq,bAq,gc,gc]at h;obtain⟨⟨⟨⟨⟨⟨h1,h3⟩,h4⟩,h6⟩,h7⟩,h8⟩,h5⟩:=h;cases as with
  |nil=>exact gf rfl h8
  |cons b as =>
   have ev:=O9 (m:=gh m) (Yh h4 _ X.env) (DC X.env (ke y 0).pos (c:=c) (xs:=(sub<|ke y 0).tail) h7) h6;obtain⟨a,f,i1,A,M,D⟩:=g.kl.mth C m h1;have hc:PCx X (toX (.meth C m o<|.cons b as) c<|ke y 0)<|tCx i (fY.wF P n)<|.meth C m o<|.cons b as:=FQ g.K i1 A M D (g.rm cB) (eE o X.nox c _ g.toGd.nox h3) (eA (.cons b as) X.nox c _ g.toGd.nox h5) (Zm ..) (ZR ..) ev;cases t with
   |none=>exact⟨λσ _=>σ,U0 hc rfl,λH env σ v x e _=>e⟩
   |some j =>obtain⟨q1,q2,q3⟩:=g.nm1 ht;exact⟨λσ v=>σ.set j<|d7 v,El (by rw[g.N];exact g.nd) q1 q2 hc rfl q3,λH env σ v x e r=>e.set r j⟩
 |_=>cases h
def FU(h:O2 b=d9)(c:Md)(xs:List Ģ):∃y ys,toSs b c xs=y::ys:=by
 cases b with
 |nil=>cases h
 |cons s ss=>exact⟨_,_,rfl⟩
mutual
theorem sS:∀(m:fY.S) (X:Cx) (c:Md) (s:Ģ),Gs X i P n c->okS m c s=d9->PS X (toS m c s) (tSt X i (fY.wF P n) m)
 |.set p a,X,c,s,g,h=>by
  have h:(okP p c&&okE a c (ke s 0)&&(ZE p || !Ed a)&&(ZE p||c.cm))=d9:=h;rw[bAq,bAq,bAq]at h;obtain⟨⟨⟨h1,h2⟩,h3⟩,h4⟩:=h;by_cases hsw:swT c (toP p c<|ke s 1) (toX a c<|ke s 0)=d9
  .obtain⟨ö,k,pt,it,tt,e,rfl⟩:=LE hsw;cases p with
   |one j =>obtain⟨q1,q2,q3⟩:=g.nm1 h1;exact(AQ g.toGd h2).2 _ _ _ j q1 q2 q3 (by rw[<-hsw];exact Jo (c:=c) (.comp ö k pt it tt e) (ke s 0) g.sc)
   |many js=>cases hsw
   |nest j js=>cases hsw
  .have hp:PG X (toP p c<|ke s 1)<|gPt i p:=LJ g h4 h1;exact Ii (eE a X c _ g.toGd h2) hp (by rw[Ν,Jo a _ g.sc,ϰ.mpr hsw]) (LH p a _ _ _ h3)<|B6 p _ _
 |.setIdx a j e,X,c,s,g,h=>by have h:(okE e c (ke s 0)&&okE a c (kid (ke s 1) 0)&&okE j c (kid (ke s 1) 1))=d9:=h;rw[bAq,bAq]at h;have ha:=eE a X c _ g.toGd h.1.2;have hj:=eE j X c _ g.toGd h.2;exact Ah g.K (eE e X c _ g.toGd h.1.1) ha hj (Iy ha hj (PSet.or NH<|NW (by have:=g.un;lia))<|GJ j) (by rw[Ν,Jo e _ g.sc,DB λy q z=>(by cases z)]) (Gg _ _ (ke s 1).pos _<|.inl ⟨_,_,_,rfl⟩) rfl
 |.setPair a j b k e,X,c,s,g,h=>nomatch h
 |.setFld o f e,X,c,s,g,h=>by have h:(c.fl.contains f&&okE o c (kid (ke s 1) 0)&&okE e c (ke s 0))=d9:=h;rw[bAq,bAq]at h;exact AO g.K g.kl.A (g.kl.F _ h.1.1) (eE o X c _ g.toGd h.1.2) (eE e X c _ g.toGd h.2) (by rw[Jo e _ g.sc,DB λy q z=>(by cases z)])
 |.augVar j op e,X,c,s,g,h=>nomatch h
 |.augFld o f op k,X,c,s,g,h=>by have h:(c.fl.contains f&&okE o c (kid (ke s 1) 0)&&AM op)=d9:=h;rw[bAq,bAq]at h;exact A4 g.K g.kl.A (g.kl.F _ h.1.1) (GW h.2)<|eE o X c _ g.toGd h.1.2
 |.expr e,X,c,s,g,h=>by have h:(okE e c (ke s 0) && !N2 e)=d9:=h;rw[bAq]at h;exact Fq (eE e X c _ g.toGd h.1)<|Fi h.2
 |.ret e,X,c,s,g,h=>Pj<|eE e X c _ g.toGd h
 |.retN,X,c,s,g,h=>E3
 |.ite t a b,X,c,s,g,h=>by have h:(okT t c (ke s 0)&&okSs a c (stB s)&&okSs b c (stO s))=d9:=h;rw[bAq,bAq]at h;exact LM (eT t X c _ g.toGd h.1.1).1 (sSs a X c _ g h.1.2)<|sSs b X c _ g h.2
 |.whl t b,X,c,s,g,h=>by have h:(okT t c (ke s 0)&&okSs b c (stB s)&&c.cm)=d9:=h;rw[bAq,bAq]at h;exact Ik (g.own h.2) (eT t X c _ g.toGd h.1.1).1<|sSs b X c _ g h.1.2
 |.for p it b,X,c,s,g,h=>by have h:(okP p c&&okI it c (ke s 1) (!ZE p)&&okSs b c (stB s)&&c.cm)=d9:=h;rw[bAq,bAq,bAq]at h;obtain⟨⟨⟨h1,h2⟩,h3⟩,h4⟩:=h;obtain⟨t1,t2⟩:=Mo (c:=c) p<|ke s 0;obtain⟨a1,a2⟩:=eI it X c (ke s 1) (toP p c<|ke s 0) g.toGd (!ZE p) t1 t2 h2;exact IL (g.own h4) (g.calm h4) a1 (UF g h4 h1) (sSs b X c _ g h3) a2
 |.forI d9 p e b,X,c,s,g,h=>by have h:(okP p c&&Hl e&&okE e c (ke s 1)&&okSs b c (stB s)&&c.cm)=d9:=h;rw[bAq,bAq,bAq,bAq]at h;obtain⟨⟨⟨⟨h1,h2⟩,h3⟩,h6⟩,h7⟩:=h;refine EJ (g.own h7) (g.calm h7) (eE e X c _ g.toGd h3) (UF g h7 h1) (sSs b X c _ g h6) λ_=>?_;cases e<;>first|rfl|cases h2
 |.forI ee p e b,X,c,s,g,h=>by have h:(okP p c && !ZE p&&okE e c (kid (kid (ke s 1) 0) 0)&&Yn (toX e c<|kid (kid (ke s 1) 0) 0)&&((kid (ke s 1) 0).pos.endLine==(ke s 1).pos.line)&&okSs b c (stB s)&&c.cm)=d9:=h;rw[bAq,bAq,bAq,bAq,bAq,bAq]at h;obtain⟨⟨⟨⟨⟨⟨h1,h2⟩,h3⟩,h4⟩,h5⟩,h6⟩,h7⟩:=h;obtain⟨es,k,q,et⟩:=(Mo (c:=c) p<|ke s 0).1 h2;have hg:=UF (x:=ke s 0) g h7 h1;show PS X (.For (toP p c<|ke s 0) _ _ _ _) _;rw[et]at hg ⊢;exact ED (g.own h7) (g.calm h7) (eE e X c _ g.toGd h3) hg (sSs b X c _ g h6) (Yh h4 _ _) h5 λ_=>rfl
 |.never,X,c,s,g,h=>D3
 |.brk,X,c,s,g,h=>nomatch h
 |.cnt,X,c,s,g,h=>nomatch h
 |.pass,X,c,s,g,h=>nomatch h
 |.raise C as,X,c,s,g,h=>by
  have h:((c.gl (gh C)&&nm (gh C))&&c.xs.contains C&&c.cm&&gg (Za as≠0)&&gg (Za as<=1000)&&okA as c (sub<|ke s 0).tail)=d9:=h;rw[bAq,bAq,bAq,bAq,bAq,bAq,gc,gc]at h;obtain⟨⟨⟨⟨⟨⟨h1,h2⟩,h3⟩,h4⟩,h5⟩,h6⟩,h7⟩:=h;obtain⟨a,hx,O⟩:=(g.xl<|by intro z;rw[z]at h3;cases h3).rs C h3;have ha:=eA as X c _ g.toGd h7;cases as with
  |nil=>exact gf rfl h5
  |cons b as=>exact C9 (g.calm h4) O hx (g.gl h1) ha (by rw[XH];exact h6) (Wh h2).1 (Zm ..)<|ZR ..
 |.try t e (.cons K nm b .nil),X,c,s,g,h=>by
  have h:(BX e c (ke ((stB s).headD dS) 0)&&Ce c t&&((c.xs.contains K||K == "ShutError")&&(c.gl (gh K)&&Snd.nm (gh K)) && !c.xs.isEmpty&&L8 c nm&&O2 b&&okSs b c.hot (hB<|(stH s).headD dH)&&d9)&&c.cm)=d9:=h;simp only[bAq]at h;obtain⟨⟨⟨h1,h2⟩,⟨⟨⟨⟨⟨h3,h4,h5⟩,h6⟩,h7⟩,h8⟩,h9⟩,_⟩,h10⟩:=h;obtain⟨nx,hb,hn⟩:=IY g h10 h1 h2;obtain⟨Da,hm,hk⟩:=(g.xl<|by intro z;rw[z]at h6;cases h6).kn K h3;obtain⟨y0,ys,e0⟩:=FU h8 c.hot<|hB<|(stH s).headD dH;have hs:∀a,PSs (X.caught a) (y0::ys) (tB0 i (fY.wF P n) b):=λa=>by rw[<-e0];exact P5<|sSs b (X.caught a) c.hot _ (g.hot a) h9
  show PS X (.Try [ID t e c<|(stB s).headD dS] [.ExceptHandler (d7<|.Name (gh K) (hT<|(stH s).headD dH).pos) (nm.map c.nmOf) (toSs b c.hot<|hB<|(stH s).headD dH)<|hP<|(stH s).headD dH] [] [] s.pos) _;rw[e0];cases nm with
  |none=>exact IF (g.stk h10) g.K hb hn (g.gl h4) hm (λC a z=>(hk C a z).2) hs (Wh h5).1
  |some j =>have h7:(gg (j<c.N.length)&&c.sc.names.lookup (c.nmOf j)==d7 .local)=d9:=h7;rw[bAq,gc]at h7;exact Gv (g.stk h10) (by rw[g.N];exact g.nd) (N5 g.N h7.1) (by rw[g.sc];exact eq_of_beq h7.2) g.K hb hn (g.gl h4) hm (λC a z=>(hk C a z).2) hs (Wh h5).1
 |.try t e (.cons K nm b<|.cons _ _ _ _),X,c,s,g,h=>by have h:(BX e c (ke ((stB s).headD dS) 0)&&Ce c t&&((c.xs.contains K||K == "ShutError")&&c.gn K && !c.xs.isEmpty&&L8 c nm&&O2 b&&okSs b c.hot (hB<|(stH s).headD dH)&&ee)&&c.cm)=d9:=h;rw[aL,aL,aJ]at h;cases h
 |.try t e .nil,X,c,s,g,h=>by have h:(BX e c (ke ((stB s).headD dS) 0)&&Ce c t&&ee&&c.cm)=d9:=h;rw[aL,aJ]at h;cases h
 |.augIdx a j op k,X,c,s,g,h=>by have h:(okE a c (kid (ke s 1) 0)&&okE j c (kid (ke s 1) 1)&&AM op)=d9:=h;rw[bAq,bAq]at h;exact A1 g.K (by have:=g.un;lia) h.2 (eE a X c _ g.toGd h.1.1) (eE j X c _ g.toGd h.1.2)<|Lz j _
theorem sSs:∀(ms:fY.Ss) (X:Cx) (c:Md) (xs:List Ģ),Gs X i P n c->okSs ms c xs=d9->PSs X (toSs ms c xs) (tBl X i (fY.wF P n) ms)
 |.nil,X,c,xs,g,h=>HN
 |.cons m ms,X,c,xs,g,h=>by have h:(okS m c (xs.headD dS)&&okSs ms c xs.tail)=d9:=h;rw[bAq]at h;exact EN (sS m X c _ g h.1)<|sSs ms X c _ g h.2
end
abbrev OL(N ps:List Str)(sc:ų):Bool :=
 sc.kind == .function && !sc.isCoroutine && !sc.isGenerator&&decide N.Nodup&&(N.take ps.length==ps)&&ps.all (λx=>sc.names.lookup x==d7 .local||sc.names.lookup x==d7 .cell)&&sc.names.all λy=>y.2 != .free
variable {ps:List Str}
def RA{N:List Str}{sc:ų}(h:OL N ps sc=d9):FnScope N ps sc:=by
 simp only[OL,bAq,Ğ,gc,ó]at h;obtain⟨⟨⟨⟨⟨⟨h1,h2⟩,h3⟩,h4⟩,h5⟩,h6⟩,h7⟩:=h;refine⟨eq_of_beq h1,h2,h3,h4,eq_of_beq h5,λx hx=>?_,λy hy=>?_⟩
 .simpa using h6 x hx
 .simpa using h7 y hy
structure Ds where
 st:Ģ
 N:List Str
 ps:List Str
 d:fY.Fn
structure Mt where
 C:String
 m:String
 qual:String
 x:Ds
structure Tb where
 fs:List<|String×Ds
 ms:List Mt
 cs:List<|String×fY.Val
 cl:List String
 fl:List String
 xs:List String
abbrev Tb.md(T:Tb)(x:Ds):Md:={N:=x.N,sc:=Zl x.st,cs:=T.cs,fs:=T.fs.map (·.1),cm:=d9,cl:=T.cl,ms:=T.ms.map λy=>(y.C,y.m),fl:=T.fl,xs:=T.xs}
abbrev Ds.test(T:Tb)(x:Ds):Bool :=
 OL x.N x.ps (Zl x.st)&&okSs x.d.body (T.md x) (ZN x.st)&&x.ps.length==x.d.ar&&x.N.length==x.d.sz&&gg (x.d.ar<=x.d.sz)
structure Ds.Ok(T:Tb)(x:Ds):Prop where
 ok:x.test T=d9
 eq:toSs x.d.body (T.md x) (ZN x.st)=ZN x.st
variable {pr:ê}{wd:ý}{mg:Str->Option Â}{base:ü}{i:Inf}{P:fY.Pg}{T:Tb}
abbrev Dst(K:Frag)(mg:Str->Option Â)(f:String)(x:Ds):Prop:=∃fa fd qual,Fun K (gh f) qual x.st fa fd/\mg (gh f)=d7 (.ref fa)/\Binds K fd x.ps []
structure Mst(i:Inf)(mg:Str->Option Â)(y:Mt)(a fa:È):Prop where
 cl:mg (gh y.C)=d7 (.ref a)
 fn:∃fd,Fun i.K (gh y.m) (gh y.qual) y.x.st fa fd/\Binds i.K fd y.x.ps []
 at_:Meth i.K a (gh y.m) fa
variable {f:String} {fa:È} {fd:ĺ}
def UD:fi pr wd i.K mg base (CX1 pr wd) 0 fa fd ps<|spF i P 0 f:=by
 refine⟨λvs H Q E h=>?_,λA outer s H args us vs Q E hr he hb hv h=>?_⟩
 .obtain⟨_,_,_,_,_,_,w,_⟩:=h;rw[fY.wF_eq]at w;exact w.elim
 .obtain⟨_,_,_,_,_,_,w,_⟩:=h;rw[fY.wF_eq]at w;exact w.elim
variable {n:Nat}
def Ek{vs:List fY.Val}{h:fY.Hs}{Q:fY.Q1}{E:fY.XQ}(q:fY.wF P (n+1) f vs h Q E):∃d,P f=d7 d/\vs.length=d.ar/\fY.wSs (fY.wF P n) d.body (d.env vs) h (λ_ g=>Q .non g) Q (λ_ _=>False) (λ_ _=>False) λ_ c g=>E c g:=by rw[fY.wF_eq]at q;obtain⟨d,e,q1,q2⟩:=eC q;exact⟨d,e,q1,by rw[fY.wF_eq];exact q2⟩
structure Modu(mg:Str->Option Â)(base:ü)(i:Inf)(T:Tb):Prop where
 bl:∀x∈blts,mg x=d8
 cst:∀x v,T.cs.lookup x=d7 v->∃u y,mg (gh x)=d7 u/\RelV y u/\∀H,RV i.K H v y
 A:ClsA i
 F:∀f,T.fl.contains f=d9->FldOk i f
 cl:∀C a,i.cl C a->mg (gh C)=d7 (.ref a)
 mkc:∀C,T.cl.contains C=d9->∃a y f,i.ins C=d9/\i.cl C a/\Mk i.K a f/\y∈T.ms/\y.C=C/\y.m = "__init__"/\Mst i mg y a f
 fs:∀f x,(f,x)∈T.fs->Dst i.K mg f x
 ms:∀y,y∈T.ms->∃a f,Mst i mg y a f/\Cls i.K a
 xc:T.xs≠[]->∀C a,i.xc C a->XCls i.K a/\PySem.W.kitOne i.K (.ref a) (.type "ValueError")=d7 d9
 rs:T.xs≠[]->∀C,T.xs.contains C=d9->∃a,i.xc C a/\PyProof.Rows.OwnCls (gh C) a [.type "ValueError",.type "Exception",.type "BaseException",.type "object"] "ValueError.__new__" mg base
 kn:T.xs≠[]->∀T',(T.xs.contains T'||T' == "ShutError")=d9->∃D,mg (gh T')=d7 (.ref D)/\∀C a,i.xc C a->PySem.W.kitOne i.K (.ref a) (.ref D)=d7 (fY.fO C T')/\(fY.fO C T'=d9->PySem.W.exmOne i.K (.ref a) (.ref D)=d7 d9)
structure Held(pr:ê)(wd:ý)(mg:Str->Option Â)(base:ü)(i:Inf)(P:fY.Pg)(T:Tb)(n:Nat):Prop where
 fs:∀f x,(f,x)∈T.fs->Dfo pr wd mg base i P n f
 ms:∀y a f,y∈T.ms->Mst i mg y a f->Dfm pr wd mg base i P n (y.C ++ "." ++ y.m) f
def fn_succ{x:Ds}{nm qual:Str}(M:Modu mg base i T)(hn:Held pr wd mg base i P T n)(F:Fun i.K nm qual x.st fa fd)(hP:P f=d7 x.d)(ht:x.Ok T):fi pr wd i.K mg base (CX1 pr wd) (2*(n+1)) fa fd x.ps<|spF i P (n+1) f:=by
 obtain⟨ht,heq⟩:=ht;simp only[Ds.test,bAq,gc]at ht;obtain⟨⟨⟨⟨h1,h2⟩,h3⟩,h4⟩,h5⟩:=ht;have h3:=eq_of_beq h3;have h4:=eq_of_beq h4;have S:=RA h1;refine F.ok1 (k:=2*n+1) S (λvs H Q E h=>?_) λΜ A outer s H vs Q E hr dD hw=>?_
 .obtain⟨args,G,Qm,Em,r,g,w,_⟩:=h;obtain⟨d,e,q,_⟩:=Ek w;rw[hP]at e;cases e;rw[<-r.length,q,h3]
 .obtain⟨args,G,Qm,Em,r,g,w,cn,ex⟩:=dD;obtain⟨d,e,q,w⟩:=Ek w;rw[hP]at e;cases e;have gd:Gs (KE (CX1 pr wd) pr wd i.K mg base x.N qual (Zl x.st) fa Μ A outer s H E) i P n (T.md x) :=
   { K:=rfl,N:=rfl,sc:=rfl,nd:=S.nd,un:=(by have:=hr.un;show(A.deeper _).units+200<Ě;lia),calm:=λ_=>rfl,room:=λ_=>hr,bl:=M.bl
     dfs:=λg hg=>(by
       obtain⟨p,hy,e⟩:=å.mp<|Ă.mp hg
       subst e
       exact hn.fs p.1 p.2 hy)
     cst:=M.cst
     kl:=⟨M.A,M.F,λC hC=>(by
       obtain⟨a,y,f,q1,q2,q3,q4,rfl,q6,q7⟩:=M.mkc C hC
       refine⟨a,f,q1,q2,q3,M.cl _ _ q2,?_⟩
       have:=hn.ms y a f q4 q7
       rw[q6]at this
       rwa [show y.C ++ ".__init__" = y.C ++ "." ++ "__init__" by rw[String.append_assoc];rfl]),λC m hC=>(by
       obtain⟨y,hy,e⟩:=å.mp<|Ă.mp hC
       cases e
       obtain⟨a,f,q1,q2⟩:=M.ms y hy
       refine⟨a,f,λb hb=>?_,q2,q1.at_,hn.ms y a f hy q1⟩
       have e1:=M.cl _ _ hb
       rw[q1.cl]at e1
       cases e1
       rfl)⟩
     xl:=λh=>⟨M.xc h,M.rs h,M.kn h⟩
     fn:=λ_ _=>.inl rfl
     own:=λ_=>PassesOwn.leaving
     stk:=λ_=>rfl }
  have hb:=sSs x.d.body _ _ _ gd h2;rw[heq]at hb;refine⟨_,hb,?_⟩;refine⟨x.d.env args,G,(λ_ g=>Qm .non g),Qm,(λ_ _=>False),(λ_ _=>False),(λ_ c g=>Em c g),?_,w,?_⟩
  .refine⟨?_,g,?_⟩
   .have:=REn.start (n:=x.d.sz - x.d.ar) r;unfold L2.start;have e1:x.N.length - vs.length=x.d.sz - x.d.ar:=by rw[h4,<-r.length,q]
    rw[e1];exact this
   .intro Á σ H0 s0 H' a cls s' I fl hx;obtain⟨e,c,G',ad,q1,q2,q3,q4,q5⟩:=hx;exact hw Á σ H0 s0 H' a cls s' I fl<|ex _ _ _ ⟨c,G',ad,q1,q2,q3,q4,q5⟩
  .refine⟨?_,?_,?_,?_⟩
   .intro ĳ Ŀ G' H' k g' e w';exact cn .non G' H' .non k g' .non w'
   .intro v G' H' y k g' rv w';exact cn v G' H' y k g' rv w'
   .intro _ _ _ _ _ _ _ z;exact z.elim
   .intro _ _ _ _ _ _ _ z;exact z.elim
def held_all(M:Modu mg base i T)(hP:∀f x,(f,x)∈T.fs->P f=d7 x.d)(hPm:∀y,y∈T.ms->P (y.C ++ "." ++ y.m)=d7 y.x.d)(ht:∀f x,(f,x)∈T.fs->x.Ok T)(htm:∀y,y∈T.ms->y.x.Ok T):∀n,Held pr wd mg base i P T n:=by
 intro n;induction n with
 |zero =>
  refine⟨λf x h=>?_,λy a f hy S=>?_⟩
  .obtain⟨fa,fd,qual,F,hm,hb⟩:=M.fs f x h;exact⟨fa,fd,x.ps,UD,hm,F.kp,hb⟩
  .obtain⟨fd,F,hb⟩:=S.fn;exact⟨fd,y.x.ps,UD,hb⟩
 |succ n ih =>
  refine⟨λf x h=>?_,λy a f hy S=>?_⟩
  .obtain⟨fa,fd,qual,F,hm,hb⟩:=M.fs f x h;exact⟨fa,fd,x.ps,fn_succ M ih F (hP f x h)<|ht f x h,hm,F.kp,hb⟩
  .obtain⟨fd,F,hb⟩:=S.fn;exact⟨fd,y.x.ps,fn_succ M ih F (hPm y hy)<|htm y hy,hb⟩
end Snd
namespace Hd
open PySem PySem.W PyProof.Rows
abbrev Ja(st:SharedT->Thread->Option (SharedT×Thread))(ok th:Thread->Bool):Nat->SharedT->Thread->Option SharedT
 |0,_,_=>d8
 |n+1,s,t=>match th t with
  |true=>d7 s
  |false=>match ok t with
   |false=>d8
   |true=>match st s t with
    |some (s',t')=>Ja st ok th n s' t'
    |none=>d8
def JX{tb:String->Option Builtin}{p:Program}{w:World}{n₀:Nat}{ann:Option Value}:∀{n:Nat}{s s':SharedT}{t:Thread},Ja (stepT (denote tb) p w) (stepOk n₀ ann) through n s t=d7 s'->topRun tb p w n₀ ann n s.abs t=d7 s'.abs
 |0,_,_,_,h=>by cases h
 |n+1,s,s',t,h=>by
  unfold Ja at h;unfold topRun;cases ht:through t with
  |true=>rw[ht]at h;cases h;rfl
  |false =>
   rw[ht]at h;dsimp only at h ⊢;cases hk:stepOk n₀ ann t with
   |false=>rw[hk]at h;cases h
   |true =>
    rw[hk]at h;dsimp only at h ⊢;cases hs:stepT (denote tb) p w s t with
    |none=>rw[hs]at h;cases h
    |some r =>obtain⟨s2,t2⟩:=r;rw[hs]at h;rw[stepT_spec hs];exact JX h
abbrev J7(P:Params):BT :=
 .node (boot_o_0 P) (.node (boot_o_1 P) (.node (boot_o_3 P) (.node (boot_o_7 P) .nil .nil) .nil)<|.node (boot_o_5 P) (.node (boot_o_9 P) .nil .nil) .nil)
  (.node (boot_o_2 P) (.node (boot_o_4 P) (.node (boot_o_8 P) .nil .nil) .nil)<|.node (boot_o_6 P) (.node (boot_o_10 P) .nil .nil) .nil)
def CB(P:Params):absHeap (J7 P) 11 {}=boot_heap P:=by kernel_rfl
def Bb(P:Params):((boot_heap P).isNs mainGlobals&&(Array.mk []:Array GenState).size==0,(boot_heap P).objs.size,(boot_heap P).nsMap mainGlobals "__annotations__")=(d9,11,d7<|.ref 6):=by
 rw[show @Heap.nsMap=_ from Fast.te8920871248978507458]
 kernel_rfl
abbrev Ha:=Fast.tw10156331382660048174
abbrev Uv:=Fast.tw11892475500146522536
abbrev CZ:=Fast.tw14364793385576792824
abbrev okY:=Fast.tw6613529449190102663
abbrev seenY:=Fast.tw4187177175401517315
abbrev modsY:=Fast.tw5923862056798008813
abbrev runY(p:Program)(N:Nat)(w:World)(os:OsState):Option SharedT:=Ja (Ha (Uv CZ) p w) (okY 11<|d7<|.ref 6) through N ⟨J7 w.params,11,{},Array.mk [],boot_drawn,boot_toks,os⟩<|topStub p
abbrev stY(p:Program)(w:World)(s:SharedT):Bool:=staticsOk (modsY p.main.body) (boot_heap w.params) s.abs.heap&&namesBound p s.abs.heap&&gensDone s.abs&&laidKept (boot_heap w.params) s.abs.heap
def left_of{p q:Program}{loose:List Str}{Xt:Shared->Bool}{α:Type}{Yf:Shared->α}{Ya:World->α}{N:Nat}(e:opening p=plainProg p.main.scope.names)(hN:Nat.ble 600 N=d9)(f:∀s,fenceModules? p s=d7 s)
  (one:∀w os,(runY p N w os).map (stY p w)=d7 d9) (two:∀w os,(runY p N w os).map (λs=>seenY q loose (modsY p.main.body) Xt d9 s.abs)=d7 (openGood q loose)) (three:∀w os,(runY p N w os).map (λs=>Yf s.abs)=d7 (Ya w)) :
  LeftO p q loose Xt Yf Ya N:=by
 intro w;obtain⟨⟨h,gs,d,k,os⟩,e1,e2⟩:=Ð.mp<|boot_open e hN f w;obtain⟨rfl,rfl,rfl,rfl⟩:h=boot_heap w.params/\gs=Array.mk []/\d=boot_drawn/\k=boot_toks:=by simpa using e2
 obtain⟨s,r,l1⟩:=Ð.mp<|one w os;obtain⟨s',r',l2⟩:=Ð.mp<|two w os;cases r.symm.trans r';obtain⟨s',r',l3⟩:=Ð.mp<|three w os;cases r.symm.trans r';obtain⟨z1,z2,z3⟩:_/\_/\_:=by simpa only[ο]using Bb w.params
 unfold stY at l1;unfold runY Ha Uv CZ okY at r;rw[<-Fast.te10156331382660048174,<-Fast.te11892475500146522536,<-Fast.te14364793385576792824,<-Fast.te6613529449190102663]at r;unfold modsY at l1 l2;unfold seenY at l2;rw[<-Fast.te5923862056798008813]at l1 l2;rw[<-Fast.te4187177175401517315]at l2;have r2:=JX r;have ea:(SharedT.mk (J7 w.params) 11 {} (Array.mk []) boot_drawn boot_toks os).abs=⟨boot_heap w.params,Array.mk [],boot_drawn,boot_toks,os⟩:=by show Shared.mk (absHeap _ _ _) _ _ _ _=_;rw[CB]
 rw[ea]at r2;have t:topFrom treeTable p w N ⟨boot_heap w.params,Array.mk [],boot_drawn,boot_toks,os⟩=d7 s.abs:=by unfold topFrom;dsimp only;rw[z1,z2,z3,r2];show(match staticsOk (importedModules p.main.body) (boot_heap w.params) s.abs.heap&&namesBound p s.abs.heap&&gensDone s.abs&&laidKept (boot_heap w.params) s.abs.heap with|true=>_|false=>_)=_;rw[l1]
 unfold openEnds;rw[e1];show(topFrom treeTable p w N _).map _=_;rw[t];exact congrArg d7<|Prod.ext l2 l3
end Hd
namespace Hd
open PySem PySem.W PyProof.Rows L2
abbrev KO:Nat->List Obj->Frag
 |_,[]=>[]
 |i,o::r=>match o with
  |⟨_,_,.freed,_⟩=>KO (i+1) r
  |o=>(i,o)::KO (i+1) r
abbrev ZB(g:Heap):Frag:=KO 0 g.objs.toList
def NZ:∀(l:List Obj) (i a:Nat) (o:Obj),(KO i l).lookup a=d7 o->i<=a/\l[a - i]?=d7 o/\(match d7 o with|some ⟨_,_,.freed,_⟩=>d8|o=>o)=d7 o
 |[],_,_,_,h=>by cases h
 |x::r,i,a,o,h=>by
  have rec1:(KO (i+1) r).lookup a=d7 o->i<=a/\(x::r)[a - i]?=d7 o/\(match d7 o with|some ⟨_,_,.freed,_⟩=>d8|o=>o)=d7 o:=λq=>by obtain⟨h1,h2,h3⟩:=NZ r (i+1) a o q;refine⟨by lia,?_,h3⟩;rw[show a - i=(a - (i+1))+1 by lia,List.getElem?_cons_succ];exact h2
  unfold KO at h;split at h
  .exact rec1 h
  .rename_i c š;rw[ï]at h;split at h
   .rename_i e;cases h;have e:=eq_of_beq e;subst e;refine⟨Í _,by rw[Nat.sub_self];rfl,?_⟩;split
    .rename_i d1 d2 d3 d4;cases d4;exact(š _ _ _ rfl).elim
    .rfl
   .exact rec1 h
def OJ{g:Heap}{a:Addr}{o:Obj}(h:(ZB g).lookup a=d7 o):g.get? a=d7 o:=by obtain⟨_,h2,h3⟩:=NZ _ _ _ _ h;unfold Heap.get?;rw[Nat.sub_zero,Ρ]at h2;rw[h2];exact h3
abbrev CD(K:Frag)(nm:Str):Option<|FuncData×Bool×Bool:=match nsIn K mainGlobals nm with
 |some (d7<|.ref f)=>match K.lookup f with
  |some ⟨_,_,.func fd,_⟩=>d7 ({fd with kwdefaults:=.none,doc:=.none,pyModule:=.none,annotations:=d8,code:=.none,closureTuple:=.none},codeIn K fd.code fd.qualname,keepIn K<|.ref f)
  |_=>d8
 |_=>d8
abbrev Eu(nm:Str)(st:Stmt):Option<|FuncData×Bool×Bool:=d7 (fnOf nm nm (YV st) (ZN st) (Zl st) .none .none .none .none d8 .none .none,d9,d9)
def Pk{K:Frag}{nm:Str}{st:Stmt}(e:CD K nm=Eu nm st):∃fa fd,Fun K nm nm st fa fd/\nsIn K mainGlobals nm=d7 (d7<|.ref fa):=by
 unfold CD at e;split at e
 .rename_i f hf;split at e
  .rename_i oc od fd sl hl;simp only[Eu,ı,ο]at e;obtain⟨e1,e2,e3⟩:=e;obtain⟨n1,n2,n3,n4,n5,n6,n7,n8,n9,n10,n11,n12,n13,n14,n15⟩:=fd;simp only[fnOf,FuncData.mk.injEq]at e1;obtain⟨rfl,rfl,rfl,rfl,rfl,rfl,rfl,rfl,-,-,-,-,-,-,rfl⟩:=e1;exact⟨f,_,Cp hl e2 e3,hf⟩
  .cases e
 .cases e
abbrev Ht(K:Frag)(y:Str):Bool:=match nsIn K mainGlobals y with
 |some d8=>d9
 |_=>ee
def EX{l:OpenLaw}{n k:Nat}{q:Program}{loose:List Str}{XP:(Str->Option Value)->Heap->Prop}{YP:World->Heap->Prop}{d:DefRec}{CX:World->CXT}{x:Str}
  (hn:l.most=d7 n) (hn2:n<=sizeLine) (hdf:d.params.defaults=[]) (hr:fh k callerA)
  (F:∀(w:World) (mg:Str->Option Value) (fa:Addr) (h:Heap),YP w h->h.Ns mainGlobals mg->mg d.name=d7 (.ref fa)->∃(K:Frag) (sp:Sp),K.In h/\
    (∃fd:FuncData,(∀(s:Shared) (u:Value),BindsTo s fd ⟨[u],[]⟩ [(x,u)])/\∀base:Heap,K.In base->base.Ns mainGlobals mg->fi l.prog w K mg base (CX w) k fa fd [x] sp)/\
    ∀(H:Hp) (a:Addr) (ns:List Int),ns.length<=n->LA H->fP K H a (ns.map V.int)->sp [.ref a] H (λv _=>v=.bl d9) λ_ _ _=>False)
  (hCX:∀(w:World) (H:Hp) (s:Shared) (e:Value) (s':Shared),CX w [] H s (λ_ _ _=>False) e s'->False) :
  WalkO q loose XP YP l.row.toRowW d [] (λf vs=>PySem.call f vs):=by
 refine Att.attach_call hn hdf λw s₀ Ħ mg mb fa o pm cd doc a vs ns G Y ho hd aA hmg cY hints hlen hg=>?_;obtain⟨K,sp,KX,⟨fd,hb,hF⟩,dD⟩:=F w mg fa _ Y G.T.g hmg;exact Dn KX G.T.g G.T.b G.T.builtins G.T.nolimit hg cY hints (ß hlen hn2) hr hF hb (λH hO hS=>dD H a ns hlen hO hS) λH e s'=>hCX w H Ħ e s'
abbrev Ew(f:Value->fY.Val->Bool):List Value->List fY.Val->Bool
 |[],[]=>d9
 |u::us,x::xs=>f u x&&Ew f us xs
 |_,_=>ee
abbrev HG(K:Frag):Value->Option (List Value)
 |.ref a=>match K.lookup a with
  |some ⟨.type n,_,.seq us _,_⟩=>if n == "tuple" && gg (us.size<=sizeLine)then d7 us.toList else d8
  |_=>d8
 |_=>d8
abbrev FT(K:Frag):Nat->Value->fY.Val->Bool
 |0,_,_=>ee
 |n+1,u,v=>match v with
  |.non=>(match u with|.none=>d9|_=>ee)
  |.bl b=>(match u with|.bool a=>a==b|_=>ee)
  |.int j=>(match u with|.int i _=>i==j|_=>ee)
  |.str t=>(match u with|.str s _=>Fast.sEq s (gh t)|_=>ee)
  |.tup xs=>(match HG K u with|some us=>Ew (FT K n) us xs|none=>ee)
  |_=>ee
def Ci{K:Frag}{f:Value->fY.Val->Bool}(hf:∀u v,f u v=d9->∃z,RelV z u/\∀H,Snd.RV K H v z):∀(us:List Value) (xs:List fY.Val),Ew f us xs=d9->∃zs,fR zs us/\∀H,Snd.RVs K H xs zs
 |[],[],_=>⟨[],.nil,λ_=>.nil⟩
 |u::us,x::xs,h=>by rw[Ew,bAq]at h;obtain⟨z,r,q⟩:=hf u x h.1;obtain⟨zs,rs,qs⟩:=Ci hf us xs h.2;exact⟨z::zs,.cons r rs,λH=>.cons (q H)<|qs H⟩
 |[],_::_,h=>by cases h
 |_::_,[],h=>by cases h
def Cv{K:Frag}:∀(n:Nat) (u:Value) (v:fY.Val),FT K n u v=d9->∃z,RelV z u/\∀H,Snd.RV K H v z
 |0,_,_,h=>by cases h
 |n+1,u,v,h=>by
  unfold FT at h;cases v with
  |non =>
   dsimp only at h;split at h
   .exact⟨.non,rfl,λ_=>.non⟩
   .cases h
  |bl b =>
   dsimp only at h;split at h
   .cases eq_of_beq h;exact⟨.bl b,rfl,λ_=>.bl b⟩
   .cases h
  |int j =>
   dsimp only at h;split at h
   .cases eq_of_beq h;exact⟨.int j,⟨_,rfl⟩,λ_=>.int j⟩
   .cases h
  |str t =>
   dsimp only at h;split at h
   .cases Fast.sEq_iff.mp h;exact⟨.str<|gh t,⟨_,rfl⟩,λ_=>.str t⟩
   .cases h
  |tup xs =>
   dsimp only at h;split at h
   .rename_i us hu;obtain⟨zs,rs,qs⟩:=Ci (λu v=>Cv n u v) us xs h;unfold HG at hu;split at hu
    .rename_i a;split at hu
     .rename_i nm od ì k sl hl;split at hu
      .rename_i hc;rw[bAq,gc]at hc;cases eq_of_beq hc.1;cases hu;exact⟨.ref a,rfl,λH=>.tup (.inr ⟨_,ì,k,hl,rfl,rfl,hc.2,rs⟩)<|qs H⟩
      .cases hu
     .cases hu
    .cases hu
   .cases h
  |ref a=>cases h
  |scr ns=>cases h
  |key i j=>cases h
abbrev BW(K:Frag)(p:String×fY.Val):Bool:=match nsIn K mainGlobals (gh p.1)with
 |some (d7 u)=>FT K 4 u p.2
 |_=>ee
def Kb{α β:Type}[BEq α][LawfulBEq α]{a:α}{b:β}:∀{l:List (α×β)},l.lookup a=d7 b->(a,b)∈l
 |[],h=>by cases h
 |(x,y)::r,h=>by
  rw[ï]at h;split at h
  .rename_i e;cases h;cases eq_of_beq e;exact .head _
  .exact .tail _<|Kb h
def HR{K:Frag}{mg:Str->Option Value}{h:Heap}{x:Str}{C:Addr}{bmB:List Value}{id:String}(X:K.In h)(hm:mg x=d7 (.ref C))(q:excIn K C bmB id=d9):PyProof.Rows.OwnCls x C bmB id mg h:=by
 constructor
 .exact hm
 have z:=q;unfold excIn at z;split at z
 next dd cd sl ho =>
  split at z
  next C1 bm k0 k1 k2 k3 n k5 em es =>
   rw[bAq,bAq,bAq,bAq,bAq]at z;obtain⟨⟨⟨⟨⟨z1,z2⟩,z3⟩,z4⟩,z5⟩,z6⟩:=z;have z1:=eq_of_beq z1;have z2:=eq_of_beq z2;have z6:=eq_of_beq z6;subst z1 z2;have z3b:cd.hasDel=ee:=by
    cases e:cd.hasDel with
    |false=>rfl
    |true=>rw[e]at z3;cases z3
   have az:sl=#[k0,k1,k2,k3,d7<|.builtin n,k5]:=dY.mp es;have nN:=nsMap_none_of_in X z5 z6;have nI:=Heap.Ns.of_isNs<|isNs_of_in X z5;have tI:=tail_of_in X z4;cases cd;dsimp only at em z3b nN nI;subst em z3b az;exact⟨bm,_,_,_,_,_,_,_,_,_,dd,k0,k1,k2,k3,k5,_,X _ _ ho,nI,nN,tI⟩
  next=>cases z
 next=>cases z
abbrev LI(K:Frag)(f:Addr):Option<|FuncData×Bool×Bool:=match K.lookup f with
 |some ⟨_,_,.func fd,_⟩=>d7 ({fd with kwdefaults:=.none,doc:=.none,pyModule:=.none,annotations:=d8,code:=.none,closureTuple:=.none},codeIn K fd.code fd.qualname,keepIn K<|.ref f)
 |_=>d8
abbrev O0(nm qual:Str)(st:Stmt):Option<|FuncData×Bool×Bool:=d7 (fnOf nm qual (YV st) (ZN st) (Zl st) .none .none .none .none d8 .none .none,d9,d9)
def PL{K:Frag}{nm qual:Str}{st:Stmt}{f:Addr}(e:LI K f=O0 nm qual st):∃fd,Fun K nm qual st f fd:=by
 unfold LI at e;split at e
 .rename_i oc od fd sl hl;simp only[O0,ı,ο]at e;obtain⟨e1,e2,e3⟩:=e;obtain⟨n1,n2,n3,n4,n5,n6,n7,n8,n9,n10,n11,n12,n13,n14,n15⟩:=fd;simp only[fnOf,FuncData.mk.injEq]at e1;obtain⟨rfl,rfl,rfl,rfl,rfl,rfl,rfl,rfl,-,-,-,-,-,-,rfl⟩:=e1;exact⟨_,Cp hl e2 e3⟩
 .cases e
abbrev Kj(K:Frag)(C:String):Option Addr:=match nsIn K mainGlobals (gh C)with
 |some (d7<|.ref a)=>d7 a
 |_=>d8
variable {C:String} {a:Addr}
def Jd{K:Frag}(h:Kj K C=d7 a):nsIn K mainGlobals (gh C)=d7 (d7<|.ref a):=by
 unfold Kj at h;split at h
 .cases h;assumption
 .cases h
structure CV where
 pg:Bool
 hd:Bool
 po:Bool
 sa:Option<|Option Value
abbrev EO(K:Frag)(a:Addr):CV:=⟨plainGet K a Str.empty,hasDictIn K a,plainOver K a,findIn K (.ref a) "__setattr__"⟩
abbrev UR:CV:=⟨d9,d9,d9,d7<|d7<|.builtin "object.__setattr__"⟩
def BD{K:Frag}(h:EO K a=UR):Cls K a:=by simp only[EO,UR,CV.mk.injEq]at h;exact⟨h.1,h.2.1,h.2.2.1,h.2.2.2⟩
structure MV where
 fn:Option<|FuncData×Bool×Bool
 isf:Bool
 cv:CV
abbrev Ck(K:Frag)(y:Snd.Mt):Option MV:=match Kj K y.C with
 |some a=>match findIn K (.ref a) (gh y.m)with
  |some (d7<|.ref f)=>d7 ⟨LI K f,isFn K<|.ref f,EO K a⟩
  |_=>d8
 |none=>d8
abbrev DW(y:Snd.Mt):Option MV:=d7 ⟨O0 (gh y.m) (gh y.qual) y.x.st,d9,UR⟩
def Rv{K:Frag}{y:Snd.Mt}(e:Ck K y=DW y):∃a f fd,nsIn K mainGlobals (gh y.C)=d7 (d7<|.ref a)/\Fun K (gh y.m) (gh y.qual) y.x.st f fd/\Meth K a (gh y.m) f/\Cls K a:=by
 unfold Ck at e;split at e
 .rename_i a ha;split at e
  .rename_i f hf;simp only[DW,ı,MV.mk.injEq]at e;obtain⟨e1,e2,e3⟩:=e;obtain⟨fd,F⟩:=PL e1;exact⟨a,f,fd,Jd ha,F,⟨hf,e2,F.kp⟩,BD e3⟩
  .cases e
 .cases e
structure QV where
 mks:Bool
 kp:Bool
 cv:CV
 fl:List<|Option<|Option Value
 ic:Option (Option Value)×Option (Option Value)×Option Bool×Option Bool
abbrev BB(K:Frag)(fl:List String)(C:String):Option QV:=match Kj K C with
 |some a=>d7 ⟨makesIn K a,keepIn K<|.ref a,EO K a,fl.map λf=>findIn K (.ref a)<|gh f,(findIn K (.ref a) "__class__",specialIn K (.builtin "object.__class__") "__get__",takesIn K<|.builtin "object.__class__",mroIn K a<|.type "object")⟩
 |none=>d8
abbrev BR(fl:List String):Option QV:=d7 ⟨d9,d9,UR,fl.map λ_=>d7 d8,(d7<|d7<|.builtin "object.__class__",d7<|d7<|.builtin "getset_descriptor.__get__",d7 d9,d7 d9)⟩
def Hi{K:Frag}{fl:List String}(e:BB K fl C=BR fl):∃a,nsIn K mainGlobals (gh C)=d7 (d7<|.ref a)/\makesIn K a=d9/\keepIn K (.ref a)=d9/\Cls K a/\(∀f∈fl,NoAttr K a<|gh f)/\Snd.IC K a:=by
 unfold BB at e;split at e
 .rename_i a ha;simp only[BR,ı,QV.mk.injEq,ο]at e;obtain⟨e1,e2,e3,e4,e5,e6,e7,e8⟩:=e;exact⟨a,Jd ha,e1,e2,BD e3,λf hf=>ğ.mp e4 f hf,⟨e5,e6,e7,e8⟩⟩
 .cases e
structure XV where
 ex:Bool
 f1:Option<|Option Value
 f2:Option<|Option Value
 f3:Option<|Option Value
 m1:Option Bool
 m2:Option Bool
 ci:Bool
 ve:Option Bool
 ks:List<|Option<|Option Bool×Option Bool
abbrev Cf(K:Frag)(xs:List String)(C:String):Option XV:=match Kj K C with
 |some a=>d7 ⟨excIn K a [.type "ValueError",.type "Exception",.type "BaseException",.type "object"] "ValueError.__new__",findIn K (.ref a) "__getattribute__",findIn K (.ref a) "__getattr__",findIn K (.ref a) "__class__",mroIn K a<|.type "object",mroIn K a<|.type "BaseException",(clsIn K a).isSome,kitOne K (.ref a)<|.type "ValueError",("ShutError" :: xs).map λT=>(Kj K T).map λD=>(kitOne K (.ref a)<|.ref D,exmOne K (.ref a)<|.ref D)⟩
 |none=>d8
abbrev Ej(xs:List String)(C:String):Option XV:=d7 ⟨d9,d7<|d7<|.builtin "BaseException.__getattribute__",d7 d8,d7<|d7<|.builtin "object.__class__",d7 d9,d7 d9,d9,d7 d9,("ShutError" :: xs).map λT=>d7 (d7<|fY.fO C T,d7<|fY.fO C T)⟩
def B2{K:Frag}{xs:List String}(e:Cf K xs C=Ej xs C):∃a,nsIn K mainGlobals (gh C)=d7 (d7<|.ref a)/\excIn K a [.type "ValueError",.type "Exception",.type "BaseException",.type "object"] "ValueError.__new__" = d9/\XCls K a/\kitOne K (.ref a) (.type "ValueError")=d7 d9/\
  ∀T∈"ShutError" :: xs,∃D,nsIn K mainGlobals (gh T)=d7 (d7<|.ref D)/\kitOne K (.ref a) (.ref D)=d7 (fY.fO C T)/\exmOne K (.ref a) (.ref D)=d7 (fY.fO C T):=by
 unfold Cf at e;split at e
 .rename_i a ha;simp only[Ej,ı,XV.mk.injEq]at e;obtain⟨e1,e2,e3,e4,e5,e6,e7,e8,e9⟩:=e;refine⟨a,Jd ha,e1,⟨e2,e3,e4,e5,e6,e7⟩,e8,λT hT=>?_⟩;have:=ğ.mp e9 T hT;cases z:Kj K T with
  |none=>rw[z]at this;cases this
  |some D =>rw[z]at this;simp only[Ĺ,ı,ο]at this;exact⟨D,Jd z,this.1,this.2⟩
 .cases e
structure View where
 fs:List<|Option<|FuncData×Bool×Bool
 ms:List<|Option MV
 cl:List<|Option QV
 xs:List<|Option XV
 ok:Bool
abbrev view(T:Snd.Tb)(K:Frag):View:=⟨T.fs.map λp=>CD K<|gh p.1,T.ms.map<|Ck K,T.cl.map<|BB K T.fl,T.xs.map<|Cf K T.xs,T.cs.all (BW K)&&Snd.blts.all (Ht K)⟩
abbrev due(T:Snd.Tb):View:=⟨T.fs.map λp=>Eu (gh p.1) p.2.st,T.ms.map DW,T.cl.map λ_=>BR T.fl,T.xs.map<|Ej T.xs,d9⟩
abbrev hook(T:Snd.Tb):Hook where
 α:=View
 obs:=λs=>view T<|ZB s.heap
 val:=λ_=>due T
 says:=λ_ h=>∃g:Heap,view T (ZB g)=due T/\∀b o,g.get? b=d7 o->h.get? b=d7 o
 of:=λ_ s e=>⟨s.heap,e,λ_ _ x=>x⟩
 keeps:=λ_ _ _ ⟨g,e,k⟩ k2=>⟨g,e,λb o x=>k2 b o<|k b o x⟩
abbrev Bd(nm qual:Str)(x:Snd.Ds):Prop:=∀(kV doc pm:Value) (an:Option Addr) (Μ ct:Value) (us:List Value),us.length=x.ps.length->bindArgs (fnOf nm qual (YV x.st) (ZN x.st) (Zl x.st) .none kV doc pm an Μ ct) ⟨us,[]⟩=pure (x.ps.zip us)
abbrev Fa(T:Snd.Tb):Bool:=T.cl.all λC=>T.ms.any λy=>y.C==C&&y.m == "__init__"
def law_walk{l:OpenLaw}{q:Program}{loose:List Str}{XP:(Str->Option Value)->Heap->Prop}{d:DefRec}{T:Snd.Tb}{pg:fY.Pg}{k:Nat}{xl:Snd.Ds}
  (hn:l.most=d7 63) (hdf:d.params.defaults=[]) (hdn:d.name=gh "law") (hr:fh (2*(k+1)) callerA) (hlaw:("law",xl)∈T.fs) (hps:xl.ps=[gh "script"]) (hin:Fa T=d9)
  (tab_pg:∀f x,(f,x)∈T.fs->pg f=d7 x.d) (tab_pm:∀y,y∈T.ms->pg (y.C ++ "." ++ y.m)=d7 y.x.d) (tab_ok:∀f x,(f,x)∈T.fs->x.Ok T) (tab_om:∀y,y∈T.ms->y.x.Ok T)
  (tab_bd:∀f x,(f,x)∈T.fs->Bd (gh f) (gh f) x) (tab_bm:∀y,y∈T.ms->Bd (gh y.m) (gh y.qual) y.x)
  (ok:∀ns:List Int,ns.length<=63->fY.wF pg (k+1) "law" [.scr ns] (λ_=>d8) (λv _=>v=.bl d9) λ_ _=>False) :
  WalkO q loose XP (hook T).says l.row.toRowW d [] (λf vs=>PySem.call f vs):=by
 refine EX (n:=63) (k:=2*(k+1)) (x:=gh "script") (CX:=λw=>CX1 l.prog w) hn (by decide) hdf hr (λw mg fa h Y G hmg=>?_) λ_ _ _ _ _ ⟨_,_,_,_,_,z⟩=>z;obtain⟨g,e,keep⟩:=Y;have X:(ZB g).In h:=λa o z=>keep a o<|OJ z;simp only[view,due,View.mk.injEq]at e;obtain⟨e1,e3,e4,e5,e2⟩:=e;rw[bAq,ó,ó]at e2
 let i:Snd.Inf:=⟨ZB g,λC a=>T.cl.contains C=d9/\mg (gh C)=d7 (.ref a),λC=>T.cl.contains C,λC a=>T.xs.contains C=d9/\mg (gh C)=d7 (.ref a)⟩
 have hF:∀f x,(f,x)∈T.fs->∃fa fd,Fun (ZB g) (gh f) (gh f) x.st fa fd/\mg (gh f)=d7 (.ref fa):=λf x hx=>by obtain⟨fa,fd,F,z⟩:=Pk<|ğ.mp e1 (f,x) hx;exact⟨fa,fd,F,mg_of X G z⟩
 have a9:∀C a,i.cl C a->makesIn (ZB g) a=d9/\keepIn (ZB g) (.ref a)=d9/\Cls (ZB g) a/\(∀f∈T.fl,NoAttr (ZB g) a<|gh f)/\Snd.IC (ZB g) a:=λC a ⟨hc,hm⟩=>by obtain⟨b,z,q⟩:=Hi<|ğ.mp e4 C<|Ă.mp hc;have:=mg_of X G z;rw[hm]at this;cases this;exact q
 have hms:∀y,y∈T.ms->∃a f,Snd.Mst i mg y a f/\Cls i.K a:=λy hy=>by obtain⟨a,f,fd,z,F,M,A⟩:=Rv<|ğ.mp e3 y hy;exact⟨a,f,⟨mg_of X G z,⟨fd,F,F.binds<|tab_bm y hy⟩,M⟩,A⟩
 have hxc:∀C a,i.xc C a->excIn (ZB g) a [.type "ValueError",.type "Exception",.type "BaseException",.type "object"] "ValueError.__new__" = d9/\XCls (ZB g) a/\kitOne (ZB g) (.ref a) (.type "ValueError")=d7 d9/\
   ∀T'∈"ShutError" :: T.xs,∃D,nsIn (ZB g) mainGlobals (gh T')=d7 (d7<|.ref D)/\kitOne (ZB g) (.ref a) (.ref D)=d7 (fY.fO C T')/\exmOne (ZB g) (.ref a) (.ref D)=d7 (fY.fO C T'):=λC a ⟨hc,hm⟩=>by
  obtain⟨b,z,q⟩:=B2<|ğ.mp e5 C<|Ă.mp hc;have:=mg_of X G z;rw[hm]at this;cases this;exact q
 have mod:∀base:Heap,(ZB g).In base->Snd.Modu mg base i T:=λbase Xb =>
  { bl:=λy hy=>by
      have:=e2.2 y hy
      unfold Ht at this
      split at this
      . rename_i z;exact mg_none_of X G z
      . cases this
    cst:=λy v hv=>by
      have:=e2.1 _<|Kb hv
      unfold BW at this
      split at this
      . rename_i u z
        obtain⟨x,r,rv⟩:=Cv 4 u v this
        exact⟨u,x,mg_of X G z,r,rv⟩
      . cases this
    A:=⟨λC a _ z=>(a9 C a z).2.2.1,λC a z=>(a9 C a z).2.2.2.2,λC a b z y=>by have:=z.2.symm.trans y.2;cases this;rfl⟩
    F:=λf hf=>⟨λC a z=>(a9 C a z).2.2.2.1 f<|Ă.mp hf⟩
    cl:=λC a z=>z.2
    mkc:=λC hC=>by
      obtain⟨a,z,_⟩:=Hi<|ğ.mp e4 C<|Ă.mp hC
      have hi:i.cl C a:=⟨hC,mg_of X G z⟩
      obtain⟨y,hy,e⟩:=List.any_eq_true.mp<|ó.mp hin C<|Ă.mp hC
      rw[bAq]at e
      obtain⟨b,f,S,A⟩:=hms y hy
      have h1:=eq_of_beq e.1
      have h2:=eq_of_beq e.2
      have hb:=S.cl
      rw[h1,hi.2]at hb
      cases hb
      refine⟨a,y,f,hC,hi,⟨(a9 C a hi).1,?_,S.at_.fn,(a9 C a hi).2.1⟩,hy,h1,h2,S⟩
      have:=S.at_.at_
      rw[h2]at this
      exact this
    fs:=λf x hx=>by
      obtain⟨fa,fd,F,m⟩:=hF f x hx
      exact⟨fa,fd,_,F,m,F.binds<|tab_bd f x hx⟩
    ms:=hms
    xc:=λ_ C a z=>⟨(hxc C a z).2.1,(hxc C a z).2.2.1⟩
    rs:=λ_ C hC=>by
      obtain⟨a,z,q1,_⟩:=B2<|ğ.mp e5 C<|Ă.mp hC
      exact⟨a,⟨hC,mg_of X G z⟩,HR Xb (mg_of X G z) q1⟩
    kn:=λš T' hT=>by
      have hT2:T'∈"ShutError" :: T.xs:=by
        rcases (Bool.or_eq_true ..).mp hT with z|z
        . exact .tail _<|Ă.mp z
        . cases eq_of_beq z;exact .head _
      obtain⟨C0,hC0⟩:=List.exists_mem_of_ne_nil _ š
      obtain⟨a0,z0,_,_,_,q0⟩:=B2<|ğ.mp e5 C0 hC0
      obtain⟨D,zD,_⟩:=q0 T' hT2
      refine⟨D,mg_of X G zD,λC a z=>?_⟩
      obtain⟨D2,z2,k1,k2⟩:=(hxc C a z).2.2.2 T' hT2
      rw[zD]at z2
      cases z2
      exact⟨k1,λe=>by rw[k2,e]⟩ }
 obtain⟨fl,fd,F,m⟩:=hF "law" xl hlaw;have ef:=hmg.symm.trans<|hdn▸m;cases ef;refine⟨ZB g,Snd.spF i pg (k+1) "law",X,⟨fd,λs u=>?_,λbase Xb _=>?_⟩,λH a ns hl hO hS=>?_⟩
 .have B:=F.ex;obtain⟨oc,od,kV,dc,pm,an,Μ,ct,sl,rfl,lk,aA⟩:=B;have:=tab_bd "law" xl hlaw kV dc pm an Μ ct [u] (by rw[hps];rfl);rw[hps]at this;exact .of_eq this
 .have M:=mod base Xb;have:=Snd.fn_succ (i:=i) (pr:=l.prog) (wd:=w) (base:=base) (mg:=mg) (P:=pg) (n:=k) M (Snd.held_all M tab_pg tab_pm tab_ok tab_om k) F (tab_pg "law" xl hlaw)<|tab_ok "law" xl hlaw;rw[hps]at this;exact this
 .refine⟨[.scr ns],λ_=>d8,λv _=>v=.bl d9,λ_ _=>False,.cons (.scr ?_) .nil,λ_ _ e=>(by cases e),ok ns hl,?_,?_⟩
  .rcases hS with(h|⟨o,h⟩)|h
   .rcases hO a with z|⟨o,xs,z⟩
    .rw[h]at z;cases z
    .rw[h]at z;cases z
   .exact .inl ⟨o,h⟩
   .exact .inr h
  .intro v G' H' x _ _ r e;subst e;exact r.bl_inv
  .rintro cls d H' ⟨_,_,_,_,_,_,_,z⟩;exact z
end Hd
set_option maxRecDepth 20000
set_option maxHeartbeats 2000000
namespace fY
local macro_rules|`(#[$x])=>`(.cons $x .nil)|`(#[$x,$y,*])=>`(.cons $x #[$y,*])
@[reducible] noncomputable def B0(P:Pg)(n:Nat)(d:Fn)(e:Env)(h:Hs)(Q:Q1)(X:XQ):Prop:=wSs (wF P n) d.body e h (λ_ g=>Q .non g) Q (λ_ _=>False) (λ_ _=>False) λ_ c g=>X c g
variable {P:Pg}{n:Nat}{a0 a1 a2 a3 a4 a5 a6 a7:Val}{h:Hs}{Q:Q1}{X:XQ}
local macro_rules|`(↑$n:num)=>`(.cst (.int $n))
local macro_rules|`(⇑$n:num)=>`(.var $n)
noncomputable abbrev T7:Fn:={ar:=1,sz:=1,body:=#[.never]}
noncomputable abbrev Tc:Fn:={ar:=1,sz:=1,body:=#[.ret<|.and (.bi (.isi ["int"]) #[⇑0])<|.not<|.bi (.isi ["bool"]) #[⇑0]]}
noncomputable abbrev Td:Fn:={ar:=3,sz:=3,body:=#[.ret<|.and (.call "is_whole" #[⇑0])<|.chain .le .le ⇑1 ⇑0 ⇑2]}
noncomputable abbrev T3:Fn:={ar:=2,sz:=2,body:=#[.ite (.or (.not<|.val<|.bi (.isi ["list"]) #[⇑0])<|.not<|.val<|.bi (.isi ["list"]) #[⇑1]) #[.raise "NoNet" #[.cst<|.str "bridges and ties are to be told as two lists"]] .nil,.ite (.not<|.val<|.chain .le .le ↑1 (.bi .len #[⇑0])<|.glob "MOST_BRIDGES"<|.int 10) #[.raise "NoNet" #[.cst<|.str "a net has one to ten bridges"]] .nil,.ite (.val<|.cmp .gt (.bi .len #[⇑1])<|.glob "MOST_TIES"<|.int 16) #[.raise "NoNet" #[.cst<|.str "a net has at most sixteen ties"]] .nil,.ite (.not<|.val<|.call "are_bridges" #[⇑0]) #[.raise "NoNet" #[.cst<|.str "bridges are unlike whole numbers from 0 to 999"]] .nil,.ite (.not<|.val<|.bi .all #[.comp [0] 1 (.one 0) (.seq ⇑1) .yes<|.call "is_tie" #[⇑0,⇑1]]) #[.raise "NoNet" #[.cst<|.str "a tie is a tuple of two bridges of the net and a cost from 1 to 1000"]] .nil,.ret<|.tup #[.bi .tuple #[.bi .sortedI #[⇑0]],.bi .tuple #[.comp [] 1 (.one 0) (.seq ⇑1) .yes<|.call "lesser_end_first" #[⇑0]]]]}
noncomputable abbrev Tn:Fn:={ar:=1,sz:=1,body:=#[.ite (.not<|.val<|.bi .all #[.comp [] 1 (.one 0) (.seq ⇑0) .yes<|.call "is_whole_between" #[⇑0,↑0,.glob "GREATEST_NUMBER"<|.int 999]]) #[.ret<|.cst<|.bl ee] .nil,.ret<|.cmp .eq (.bi .lenSet #[⇑0])<|.bi .len #[⇑0]]}
noncomputable abbrev Ta:Fn:={ar:=2,sz:=2,body:=#[.ite (.or (.not<|.val<|.bi (.isi ["tuple"]) #[⇑0])<|.val<|.cmp .ne (.bi .len #[⇑0]) ↑3) #[.ret<|.cst<|.bl ee] .nil,.ite (.or (.not<|.val<|.call "is_whole" #[.idx ⇑0 ↑0])<|.not<|.val<|.call "is_whole" #[.idx ⇑0 ↑1]) #[.ret<|.cst<|.bl ee] .nil,.ite (.or (.val<|.cmp .notin (.idx ⇑0 ↑0) ⇑1)<|.val<|.cmp .notin (.idx ⇑0 ↑1) ⇑1) #[.ret<|.cst<|.bl ee] .nil,.ret<|.and (.cmp .ne (.idx ⇑0 ↑0)<|.idx ⇑0 ↑1)<|.call "is_whole_between" #[.idx ⇑0 ↑2,↑1,.glob "GREATEST_COST"<|.int 1000]]}
noncomputable abbrev T1:Fn:={ar:=1,sz:=1,body:=#[.ret<|.tup #[.bi .min2 #[.idx ⇑0 ↑0,.idx ⇑0 ↑1],.bi .max2 #[.idx ⇑0 ↑0,.idx ⇑0 ↑1],.idx ⇑0 ↑2]]}
noncomputable abbrev T4:Fn:={ar:=2,sz:=5,body:=#[.set (.one 2)<|.lst .nil,.for (.many [3,4]) (.enum<|.idx ⇑0 ↑1) #[.ite (.val<|.cmp .isin ⇑1<|.slc ⇑4 .none<|.some ↑2) #[.expr<|.bm .append ⇑2 #[.tup #[⇑3,.call "far_end" #[⇑4,⇑1],.idx ⇑4 ↑2]]] .nil],.ret ⇑2]}
noncomputable abbrev Tu:Fn:={ar:=2,sz:=2,body:=#[.ret<|.ife (.val<|.cmp .eq (.idx ⇑0 ↑0) ⇑1) (.idx ⇑0 ↑1)<|.idx ⇑0 ↑0]}
noncomputable abbrev T5:Fn:={ar:=2,sz:=2,body:=#[.ret<|.cmp .gt (.idx ⇑0<|.glob "NUMBER"<|.int 0)<|.idx ⇑1<|.glob "NUMBER"<|.int 0]}
noncomputable abbrev To:Fn:={ar:=2,sz:=3,body:=#[.set (.one 2)<|.comp [0] 1 (.one 0) (.seq ⇑1) (.val<|.cmp .lt (.idx ⇑0 ↑0) ⇑1) ⇑0,.ret<|.bi .minD #[⇑2]]}
noncomputable abbrev SV:Fn:={ar:=5,sz:=8,body:=#[.setFld ⇑0 "number" ⇑1,.setFld ⇑0 "life" ⇑2,.setFld ⇑0 "age_let_go" ⇑4,.setFld ⇑0 "ties_by_place"<|.dct .nil,.for (.many [5,6,7]) (.seq ⇑3) #[.setIdx (.fld ⇑0 "ties_by_place") ⇑5<|.tup #[⇑6,⇑7]],.setFld ⇑0 "held_by_place"<|.dct .nil,.setFld ⇑0 "label_now"<|.tup #[⇑1,↑0,.cst .non,.cst .non],.setFld ⇑0 "version" ↑0,.setFld ⇑0 "ticks_had" ↑0]}
noncomputable abbrev S9:Fn:={ar:=1,sz:=1,body:=#[.expr<|.call "_wall" #[↑0]]}
noncomputable abbrev S2:Fn:={ar:=1,sz:=1,body:=#[.ret<|.fld ⇑0 "label_now"]}
noncomputable abbrev S6:Fn:={ar:=1,sz:=1,body:=#[.ret<|.tup #[.fld ⇑0 "life",.fld ⇑0 "version"]]}
noncomputable abbrev SW:Fn:={ar:=2,sz:=2,body:=#[.ret<|.bm .dget (.fld ⇑0 "held_by_place") #[⇑1]]}
noncomputable abbrev TZ:Fn:={ar:=4,sz:=4,body:=#[.ite (.val<|.cmp .notin ⇑1<|.fld ⇑0 "ties_by_place") #[.setIdx (.fld ⇑0 "ties_by_place") ⇑1<|.tup #[⇑2,⇑3]] .nil]}
noncomputable abbrev SZ:Fn:={ar:=2,sz:=2,body:=#[.expr<|.bm .dpopD (.fld ⇑0 "ties_by_place") #[⇑1,.cst .non],.expr<|.bm .dpopD (.fld ⇑0 "held_by_place") #[⇑1,.cst .non]]}
noncomputable abbrev SX:Fn:={ar:=3,sz:=4,body:=#[.ite (.val<|.cmp .notin ⇑1<|.fld ⇑0 "ties_by_place") #[.retN] .nil,.set (.one 3)<|.meth "Bridge" "held" ⇑0 #[⇑1],.ite (.or (.val<|.cmp .is ⇑3<|.cst .non)<|.val<|.call "newer" #[⇑2,.idx ⇑3 ↑0]) #[.setIdx (.fld ⇑0 "held_by_place") ⇑1<|.tup #[⇑2,.idx ⇑2<|.glob "AGE"<|.int 4]] .nil]}
noncomputable abbrev S8:Fn:={ar:=1,sz:=2,body:=#[.expr<|.meth "Bridge" "let_grow_older" ⇑0 .nil,.expr<|.meth "Bridge" "take_label" ⇑0 #[.meth "Bridge" "reckon_label" ⇑0 .nil],.set (.one 1)<|.comp [0] 1 (.one 0) (.seq<|.bi .sortedI #[.fld ⇑0 "ties_by_place"]) .yes<|.tup #[⇑0,.meth "Bridge" "letter_over" ⇑1 #[⇑0]],.augFld ⇑0 "ticks_had" .add 1,.ret ⇑1]}
noncomputable abbrev S3:Fn:={ar:=1,sz:=4,body:=#[.set (.one 1)<|.dct .nil,.forI ee (.many [2,3]) (.fld ⇑0 "held_by_place") #[.ite (.val<|.cmp .lt (.bin .add (.idx ⇑3 ↑1) ↑1)<|.fld ⇑0 "age_let_go") #[.setIdx ⇑1 ⇑2<|.tup #[.idx ⇑3 ↑0,.bin .add (.idx ⇑3 ↑1) ↑1]] .nil],.setFld ⇑0 "held_by_place" ⇑1]}
noncomputable abbrev S5:Fn:={ar:=1,sz:=8,body:=#[.set (.one 1)<|.lst .nil,.forI ee (.many [2,3]) (.fld ⇑0 "held_by_place") #[.set (.many [4,5])<|.idx (.fld ⇑0 "ties_by_place") ⇑2,.expr<|.bm .append ⇑1 #[.tup #[.idx (.idx ⇑3 ↑0)<|.glob "ROOT"<|.int 2,.bin .add (.idx (.idx ⇑3 ↑0)<|.glob "COST"<|.int 3) ⇑5,⇑4,⇑2]]],.set (.one 6)<|.call "best_offer" #[.fld ⇑0 "number",⇑1],.ite (.val<|.cmp .is ⇑6<|.cst .non) #[.ret<|.tup #[.fld ⇑0 "number",↑0,.cst .non,.cst .non]] .nil,.set (.many [7,5,4,2]) ⇑6,.ret<|.tup #[⇑7,⇑5,⇑2,.idx (.idx (.idx (.fld ⇑0 "held_by_place") ⇑2) ↑0)<|.glob "STAMP"<|.int 1]]}
noncomputable abbrev S7:Fn:={ar:=2,sz:=2,body:=#[.ite (.val<|.cmp .ne ⇑1<|.fld ⇑0 "label_now") #[.setFld ⇑0 "label_now" ⇑1,.augFld ⇑0 "version" .add 1] .nil]}
noncomputable abbrev S4:Fn:={ar:=2,sz:=8,body:=#[.set (.many [2,3,4,5])<|.fld ⇑0 "label_now",.set (.one 6)<|.ife (.val<|.cmp .is ⇑4<|.cst .non) ↑0<|.bin .add (.idx (.idx (.fld ⇑0 "held_by_place") ⇑4) ↑1) ↑1,.set (.one 7)<|.tup #[.tup #[.fld ⇑0 "life",.fld ⇑0 "ticks_had"],.meth "Bridge" "stamp" ⇑0 .nil,⇑2,⇑3,⇑6],.ite (.val<|.cmp .eq ⇑1 ⇑4) #[.ret<|.bin .add ⇑7<|.tup #[⇑5,.cst .non]] .nil,.ite (.val<|.meth "Bridge" "is_rested_on" ⇑0 #[⇑1]) #[.ret<|.bin .add ⇑7<|.tup #[.cst .non,.idx (.idx (.idx (.fld ⇑0 "held_by_place") ⇑1) ↑0)<|.glob "STAMP"<|.int 1]] .nil,.ret<|.bin .add ⇑7<|.tup #[.cst .non,.cst .non]]}
noncomputable abbrev S1:Fn:={ar:=2,sz:=3,body:=#[.set (.one 2)<|.meth "Bridge" "held" ⇑0 #[⇑1],.ret<|.and (.cmp .isnot ⇑2<|.cst .non)<|.cmp .eq (.idx (.idx ⇑2 ↑0)<|.glob "RESTS"<|.int 5)<|.meth "Bridge" "stamp" ⇑0 .nil]}
noncomputable abbrev S0:Fn:={ar:=2,sz:=3,body:=#[.set (.one 2)<|.meth "Bridge" "held" ⇑0 #[⇑1],.ite (.or (.val<|.cmp .is ⇑2<|.cst .non)<|.val<|.cmp .ne (.idx (.idx ⇑2 ↑0)<|.glob "AGREES"<|.int 6)<|.meth "Bridge" "stamp" ⇑0 .nil) #[.ret<|.cst<|.bl ee] .nil,.ret<|.cmp .eq (.idx (.idx ⇑2 ↑0)<|.glob "STAMP"<|.int 1)<|.idx (.fld ⇑0 "label_now") ↑3]}
noncomputable abbrev SY:Fn:={ar:=2,sz:=2,body:=#[.ite (.val<|.cmp .notin ⇑1<|.fld ⇑0 "ties_by_place") #[.ret<|.cst<|.str "down"] .nil,.ite (.val<|.cmp .eq ⇑1<|.idx (.fld ⇑0 "label_now") ↑2) #[.ret<|.ife (.val<|.meth "Bridge" "is_agreed_to" ⇑0 #[⇑1]) (.cst<|.str "child")<|.cst<|.str "shut"] .nil,.ret<|.ife (.val<|.meth "Bridge" "is_rested_on" ⇑0 #[⇑1]) (.cst<|.str "parent")<|.cst<|.str "shut"]}
noncomputable abbrev TL:Fn:={ar:=3,sz:=4,body:=#[.setFld ⇑0 "net_made_of" ⇑1,.setFld ⇑0 "greatest_age" ⇑2,.setFld ⇑0 "lives"<|.dct .nil,.setFld ⇑0 "standing"<|.dct .nil,.setFld ⇑0 "ties_fallen"<|.dct .nil,.setFld ⇑0 "letters_on_road"<|.lst .nil,.for (.one 3) (.seq<|.idx ⇑1 ↑0) #[.setIdx (.fld ⇑0 "lives") ⇑3 ↑0,.setIdx (.fld ⇑0 "standing") ⇑3<|.make "Bridge" #[⇑3,↑0,.call "neighbours" #[⇑1,⇑3],⇑2]]]}
noncomputable abbrev Tm:Fn:={ar:=1,sz:=1,body:=#[.expr<|.call "_wall" #[↑1]]}
noncomputable abbrev TR:Fn:={ar:=1,sz:=1,body:=#[.ret<|.fld ⇑0 "net_made_of"]}
noncomputable abbrev TF:Fn:={ar:=1,sz:=1,body:=#[.ret<|.fld ⇑0 "greatest_age"]}
noncomputable abbrev TV:Fn:={ar:=1,sz:=1,body:=#[.ret<|.bi .list #[.fld ⇑0 "letters_on_road"]]}
noncomputable abbrev TN:Fn:={ar:=1,sz:=2,body:=#[.set (.one 1)<|.comp [0] 1 (.one 0) (.seq<|.idx (.fld ⇑0 "net_made_of") ↑0) (.val<|.cmp .notin ⇑0<|.fld ⇑1 "standing") ⇑0,.ret<|.tup #[.bi .tuple #[⇑1],.bi .tuple #[.bi .sortedI #[.fld ⇑0 "ties_fallen"]]]]}
noncomputable abbrev TQ:Fn:={ar:=1,sz:=1,body:=#[.ret<|.comp [0] 1 (.one 0) (.seq<|.bi .sortedI #[.fld ⇑0 "standing"]) .yes<|.tup #[⇑0,.meth "Bridge" "label" (.idx (.fld ⇑1 "standing") ⇑0) .nil]]}
noncomputable abbrev Tw:Fn:={ar:=1,sz:=1,body:=#[.ret<|.comp [0] 1 (.one 0) (.seq<|.bi .sortedI #[.fld ⇑0 "standing"]) .yes<|.tup #[⇑0,.meth "Bridge" "stamp" (.idx (.fld ⇑1 "standing") ⇑0) .nil]]}
noncomputable abbrev TW:Fn:={ar:=2,sz:=2,body:=#[.ret<|.bm .dget (.fld ⇑0 "standing") #[⇑1]]}
noncomputable abbrev TB:Fn:={ar:=2,sz:=5,body:=#[.ite (.not<|.val<|.meth "Yard" "has_tie" ⇑0 #[⇑1]) #[.ret<|.tup #[.cst<|.str "down",.cst<|.str "down"]] .nil,.set (.many [2,3,4])<|.idx (.idx (.fld ⇑0 "net_made_of") ↑1) ⇑1,.ret<|.tup #[.meth "Yard" "end_at" ⇑0 #[⇑2,⇑1],.meth "Yard" "end_at" ⇑0 #[⇑3,⇑1]]]}
noncomputable abbrev TU:Fn:={ar:=3,sz:=3,body:=#[.ite (.val<|.cmp .notin ⇑1<|.fld ⇑0 "standing") #[.ret<|.cst<|.str "down"] .nil,.ret<|.meth "Bridge" "end" (.idx (.fld ⇑0 "standing") ⇑1) #[⇑2]]}
noncomputable abbrev TH:Fn:={ar:=2,sz:=2,body:=#[.ret<|.chain .le .lt ↑0 ⇑1<|.bi .len #[.idx (.fld ⇑0 "net_made_of") ↑1]]}
noncomputable abbrev TM:Fn:={ar:=2,sz:=4,body:=#[.set (.many [2,3])<|.call "read_deed" #[⇑1],.ite (.val<|.cmp .eq ⇑2<|.tup #[.cst<|.str "tick"]) #[.expr<|.meth "Yard" "tick_of" ⇑0 #[⇑3]] #[.ite (.val<|.cmp .eq ⇑2<|.tup #[.cst<|.str "come"]) #[.expr<|.meth "Yard" "come" ⇑0 #[⇑3]] #[.ite (.val<|.cmp .eq ⇑2<|.tup #[.cst<|.str "lost"]) #[.expr<|.meth "Yard" "take_off" ⇑0 #[⇑3]] #[.ite (.val<|.cmp .eq ⇑2<|.tup #[.cst<|.str "fall",.cst<|.str "bridge"]) #[.expr<|.meth "Yard" "fall_of_bridge" ⇑0 #[⇑3]] #[.ite (.val<|.cmp .eq ⇑2<|.tup #[.cst<|.str "fall",.cst<|.str "tie"]) #[.expr<|.meth "Yard" "fall_of_tie" ⇑0 #[⇑3]] #[.ite (.val<|.cmp .eq ⇑2<|.tup #[.cst<|.str "back",.cst<|.str "bridge"]) #[.expr<|.meth "Yard" "back_of_bridge" ⇑0 #[⇑3]] #[.expr<|.meth "Yard" "back_of_tie" ⇑0 #[⇑3]]]]]]]]}
noncomputable abbrev Tk:Fn:={ar:=2,sz:=5,body:=#[.ite (.val<|.cmp .notin ⇑1<|.fld ⇑0 "standing") #[.raise "NoDeed" #[.cst<|.str "no bridge of this number is up"]] .nil,.for (.many [2,3]) (.seq<|.meth "Bridge" "tick" (.idx (.fld ⇑0 "standing") ⇑1) .nil) #[.set (.one 4)<|.call "far_end" #[.idx (.idx (.fld ⇑0 "net_made_of") ↑1) ⇑2,⇑1],.expr<|.bm .append (.fld ⇑0 "letters_on_road") #[.tup #[⇑1,⇑4,⇑2,⇑3]]]]}
noncomputable abbrev TK:Fn:={ar:=2,sz:=6,body:=#[.set (.many [2,3,4,5])<|.meth "Yard" "take_off" ⇑0 #[⇑1],.ite (.val<|.cmp .isin ⇑3<|.fld ⇑0 "standing") #[.expr<|.meth "Bridge" "hear" (.idx (.fld ⇑0 "standing") ⇑3) #[⇑4,⇑5]] .nil]}
noncomputable abbrev Tj:Fn:={ar:=2,sz:=2,body:=#[.ite (.not<|.val<|.chain .le .lt ↑0 ⇑1<|.bi .len #[.fld ⇑0 "letters_on_road"]) #[.raise "NoDeed" #[.cst<|.str "the road has no letter at this place"]] .nil,.ret<|.bm .popAt (.fld ⇑0 "letters_on_road") #[⇑1]]}
noncomputable abbrev TC:Fn:={ar:=2,sz:=2,body:=#[.ite (.val<|.cmp .notin ⇑1<|.fld ⇑0 "standing") #[.raise "NoDeed" #[.cst<|.str "no bridge of this number is up"]] .nil,.expr<|.bm .dpop (.fld ⇑0 "standing") #[⇑1],.expr<|.meth "Yard" "set_ties_of" ⇑0 #[⇑1]]}
noncomputable abbrev TD:Fn:={ar:=2,sz:=2,body:=#[.ite (.or (.not<|.val<|.meth "Yard" "has_tie" ⇑0 #[⇑1])<|.val<|.cmp .isin ⇑1<|.fld ⇑0 "ties_fallen") #[.raise "NoDeed" #[.cst<|.str "no tie of this place stands"]] .nil,.setIdx (.fld ⇑0 "ties_fallen") ⇑1<|.cst<|.bl d9,.expr<|.meth "Yard" "set_tie" ⇑0 #[⇑1]]}
noncomputable abbrev TY:Fn:={ar:=2,sz:=2,body:=#[.ite (.or (.val<|.cmp .notin ⇑1<|.fld ⇑0 "lives")<|.val<|.cmp .isin ⇑1<|.fld ⇑0 "standing") #[.raise "NoDeed" #[.cst<|.str "no bridge of this number has fallen"]] .nil,.augIdx (.fld ⇑0 "lives") ⇑1 .add 1,.setIdx (.fld ⇑0 "standing") ⇑1<|.make "Bridge" #[⇑1,.idx (.fld ⇑0 "lives") ⇑1,.lst .nil,.fld ⇑0 "greatest_age"],.expr<|.meth "Yard" "set_ties_of" ⇑0 #[⇑1]]}
noncomputable abbrev TX:Fn:={ar:=2,sz:=2,body:=#[.ite (.val<|.cmp .notin ⇑1<|.fld ⇑0 "ties_fallen") #[.raise "NoDeed" #[.cst<|.str "no tie of this place has fallen"]] .nil,.expr<|.bm .dpop (.fld ⇑0 "ties_fallen") #[⇑1],.expr<|.meth "Yard" "set_tie" ⇑0 #[⇑1]]}
noncomputable abbrev Tx:Fn:={ar:=2,sz:=5,body:=#[.for (.many [2,3,4]) (.seq<|.call "neighbours" #[.fld ⇑0 "net_made_of",⇑1]) #[.expr<|.meth "Yard" "set_tie" ⇑0 #[⇑2]]]}
noncomputable abbrev Tz:Fn:={ar:=2,sz:=8,body:=#[.set (.many [2,3,4])<|.idx (.idx (.fld ⇑0 "net_made_of") ↑1) ⇑1,.set (.one 5)<|.and (.cmp .notin ⇑1<|.fld ⇑0 "ties_fallen")<|.and (.cmp .isin ⇑2<|.fld ⇑0 "standing")<|.cmp .isin ⇑3<|.fld ⇑0 "standing",.for (.many [6,7]) (.seq<|.tup #[.tup #[⇑2,⇑3],.tup #[⇑3,⇑2]]) #[.ite (.val ⇑5) #[.expr<|.meth "Bridge" "up" (.idx (.fld ⇑0 "standing") ⇑6) #[⇑1,⇑7,⇑4]] #[.ite (.val<|.cmp .isin ⇑6<|.fld ⇑0 "standing") #[.expr<|.meth "Bridge" "down" (.idx (.fld ⇑0 "standing") ⇑6) #[⇑1]] .nil]]]}
noncomputable abbrev T9:Fn:={ar:=3,sz:=5,body:=#[.set (.one 3)<|.make "Yard" #[⇑0,⇑1],.for (.one 4) (.seq ⇑2) #[.expr<|.meth "Yard" "deed" ⇑3 #[⇑4]],.ret ⇑3]}
noncomputable abbrev T6:Fn:={ar:=1,sz:=2,body:=#[.ite (.not<|.val<|.bi (.isi ["tuple"]) #[⇑0]) #[.raise "NoDeed" #[.cst<|.str "a deed is a tuple"]] .nil,.set (.one 1)<|.slc ⇑0 .none<|.some<|.neg ↑1,.ite (.or (.not<|.val<|.bi .all #[.comp [] 1 (.one 0) (.seq ⇑1) .yes<|.bi (.isi ["str"]) #[⇑0]])<|.val<|.cmp .notin ⇑1<|.glob "DEEDS"<|.tup [(.tup [(.str "tick")]),(.tup [(.str "come")]),(.tup [(.str "lost")]),(.tup [(.str "fall"),(.str "bridge")]),(.tup [(.str "fall"),(.str "tie")]),(.tup [(.str "back"),(.str "bridge")]),(.tup [(.str "back"),(.str "tie")])]) #[.raise "NoDeed" #[.cst<|.str "there is no deed of these words"]] .nil,.ite (.not<|.val<|.call "is_whole" #[.idx ⇑0<|.neg ↑1]) #[.raise "NoDeed" #[.cst<|.str "a deed's number is a whole number"]] .nil,.ret<|.tup #[⇑1,.idx ⇑0<|.neg ↑1]]}
noncomputable abbrev T8:Fn:={ar:=4,sz:=4,body:=#[.ite (.not<|.val<|.call "is_whole_between" #[⇑3,↑0,.bi .len #[⇑2]]) #[.raise "NoLine" #[.cst<|.str "there are not so many deeds"]] .nil,.ret<|.call "yard_behind" #[⇑0,⇑1,.slc ⇑2 .none<|.some ⇑3]]}
noncomputable abbrev Ti:Fn:={ar:=1,sz:=6,body:=#[.set (.one 1)<|.lst .nil,.for (.one 2) (.range<|.bi .min2 #[.bi .len #[⇑0],↑80]) #[.set (.one 3)<|.bi .abs #[.idx ⇑0 ⇑2],.ite (.val<|.cmp .lt ⇑3<|.bin .pow ↑10 ↑18) #[.set (.one 4)<|.bin .mod (.bin .mul (.bin .mod (.bin .add (.bin .add ⇑3<|.bin .mul ↑7919 ⇑2) ↑3) ↑2147483647) ↑48271) ↑2147483647,.set (.one 4)<|.bin .mod (.bin .mul ⇑4 ⇑4) ↑2147483629,.expr<|.bm .append ⇑1 #[.bin .mod (.bin .fdiv ⇑4 ↑16) ↑1000],.expr<|.bm .append ⇑1 #[.bin .mod (.bin .fdiv ⇑4 ↑16000) ↑1000],.set (.one 4)<|.bin .mod (.bin .add ⇑4<|.bin .mul ↑40692<|.bin .add ⇑2 ↑7) ↑2147483587,.expr<|.bm .append ⇑1 #[.bin .mod (.bin .fdiv (.bin .mod (.bin .mul ⇑4 ⇑4) ↑2147483647) ↑16) ↑1000]] #[.set (.one 5) ↑0,.whl (.and (.val<|.cmp .ge ⇑3 ↑1000)<|.val<|.cmp .lt ⇑5 ↑60) #[.expr<|.bm .append ⇑1 #[.bin .mod ⇑3 ↑1000],.set (.one 3)<|.bin .fdiv ⇑3 ↑1000,.set (.one 5)<|.bin .add ⇑5 ↑1]]],.ret<|.slc ⇑1 .none<|.some ↑240]}
noncomputable abbrev Tr:Fn:={ar:=2,sz:=2,body:=#[.ite (.val<|.cmp .eqE ⇑0<|.lst .nil) #[.ret ↑0] .nil,.ret<|.bin .mod (.bm .popAt ⇑0 #[↑0]) ⇑1]}
noncomputable abbrev Tl:Fn:={ar:=3,sz:=9,body:=#[.set (.one 3)<|.lst .nil,.for (.one 4) (.range<|.bin .add ↑1<|.call "_law_take" #[⇑0,⇑1]) #[.set (.one 5)<|.call "_law_take" #[⇑0,↑1000],.whl (.val<|.cmp .isin ⇑5 ⇑3) #[.set (.one 5)<|.bin .mod (.bin .add ⇑5 ↑1) ↑1000],.expr<|.bm .append ⇑3 #[⇑5]],.set (.one 6)<|.lst .nil,.for (.one 4) (.range2 ↑1<|.bi .len #[⇑3]) #[.ite (.val<|.cmp .lt (.call "_law_take" #[⇑0,↑6]) ↑5) #[.expr<|.bm .append ⇑6 #[.tup #[.idx ⇑3<|.call "_law_take" #[⇑0,⇑4],.idx ⇑3 ⇑4]]] .nil],.for (.one 4) (.range<|.call "_law_take" #[⇑0,⇑2]) #[.set (.one 7)<|.call "_law_take" #[⇑0,.bi .len #[⇑3]],.ite (.val<|.cmp .gt (.bi .len #[⇑3]) ↑1) #[.expr<|.bm .append ⇑6 #[.tup #[.idx ⇑3 ⇑7,.idx ⇑3<|.bin .sub (.bin .sub ⇑7 ↑1)<|.call "_law_take" #[⇑0,.bin .sub (.bi .len #[⇑3]) ↑1]]]] .nil],.set (.one 8)<|.comp [0] 1 (.one 0) (.seq ⇑6) .yes<|.idx (.lst #[↑1,↑1,↑2,↑3,.bin .add ↑1<|.call "_law_take" #[⇑1,↑1000]])<|.call "_law_take" #[⇑1,↑5],.ret<|.call "make_net" #[⇑3,.comp [6,8] 1 (.one 0) (.range<|.bi .len #[⇑6]) .yes<|.tup #[.bi .minL #[.idx ⇑1 ⇑0],.bi .maxL #[.idx ⇑1 ⇑0],.idx ⇑2 ⇑0]]]}
noncomputable abbrev Tp:Fn:={ar:=1,sz:=3,body:=#[.set (.one 1)<|.comp [] 2 (.many [0,1]) (.seq<|.meth "Yard" "labels" ⇑0 .nil) .yes<|.tup #[.cst<|.str "tick",⇑0],.for (.one 2) (.seq ⇑1) #[.expr<|.meth "Yard" "deed" ⇑0 #[⇑2]],.whl (.val<|.cmp .neE (.meth "Yard" "road" ⇑0 .nil)<|.lst .nil) #[.expr<|.bm .append ⇑1 #[.tup #[.cst<|.str "come",↑0]],.expr<|.meth "Yard" "deed" ⇑0 #[.idx ⇑1<|.neg ↑1]],.ret ⇑1]}
noncomputable abbrev Th:Fn:={ar:=2,sz:=7,body:=#[.set (.one 2)<|.call "_law_take" #[⇑0,↑16],.set (.one 3)<|.comp [] 2 (.many [0,1]) (.seq<|.meth "Yard" "labels" ⇑1 .nil) .yes ⇑0,.set (.one 4)<|.meth "Yard" "down" ⇑1 .nil,.set (.one 5)<|.bi .len #[.meth "Yard" "road" ⇑1 .nil],.set (.one 6)<|.comp [4] 1 (.one 0) (.range<|.bi .len #[.idx (.meth "Yard" "net" ⇑1 .nil) ↑1]) (.val<|.cmp .notin ⇑0<|.idx ⇑1 ↑1) ⇑0,.ite (.and (.val<|.cmp .eq ⇑2 ↑12)<|.val<|.cmp .neE ⇑3<|.lst .nil) #[.ret<|.tup #[.cst<|.str "fall",.cst<|.str "bridge",.idx ⇑3<|.call "_law_take" #[⇑0,.bi .len #[⇑3]]]] .nil,.ite (.and (.val<|.cmp .eq ⇑2 ↑13)<|.val<|.cmp .neE ⇑6<|.lst .nil) #[.ret<|.tup #[.cst<|.str "fall",.cst<|.str "tie",.idx ⇑6<|.call "_law_take" #[⇑0,.bi .len #[⇑6]]]] .nil,.ite (.and (.val<|.cmp .isin ⇑2<|.tup #[↑12,↑13,↑14])<|.val<|.cmp .ne (.idx ⇑4 ↑0)<|.tup .nil) #[.ret<|.tup #[.cst<|.str "back",.cst<|.str "bridge",.idx (.idx ⇑4 ↑0)<|.call "_law_take" #[⇑0,.bi .len #[.idx ⇑4 ↑0]]]] .nil,.ite (.and (.val<|.cmp .isin ⇑2<|.tup #[↑12,↑13,↑14])<|.val<|.cmp .ne (.idx ⇑4 ↑1)<|.tup .nil) #[.ret<|.tup #[.cst<|.str "back",.cst<|.str "tie",.idx (.idx ⇑4 ↑1)<|.call "_law_take" #[⇑0,.bi .len #[.idx ⇑4 ↑1]]]] .nil,.ite (.and (.val<|.cmp .eq ⇑2 ↑11)<|.val<|.cmp .gt ⇑5 ↑0) #[.ret<|.tup #[.cst<|.str "lost",.call "_law_take" #[⇑0,⇑5]]] .nil,.ite (.and (.val<|.cmp .gt ⇑2 ↑5)<|.val<|.cmp .gt ⇑5 ↑0) #[.ret<|.tup #[.cst<|.str "come",.idx (.lst #[↑0,.call "_law_take" #[⇑0,⇑5]])<|.bin .mod ⇑2 ↑2]] .nil,.ite (.val<|.cmp .eqE ⇑3<|.lst .nil) #[.ret<|.tup #[.cst<|.str "back",.cst<|.str "bridge",.idx (.idx ⇑4 ↑0) ↑0]] .nil,.ret<|.tup #[.cst<|.str "tick",.idx ⇑3<|.call "_law_take" #[⇑0,.bi .len #[⇑3]]]]}
noncomputable abbrev Tq:Fn:={ar:=3,sz:=5,body:=#[.set (.one 3)<|.lst .nil,.set (.one 4) ↑0,.whl (.and (.val<|.cmp .neE ⇑0<|.lst .nil)<|.val<|.cmp .lt (.bi .len #[⇑3]) ⇑2) #[.ite (.and (.val<|.cmp .lt ⇑4 ↑6)<|.val<|.cmp .eq (.call "_law_take" #[⇑0,↑7]) ↑6) #[.set (.one 3)<|.bin .add ⇑3<|.call "_law_round_of" #[⇑1],.set (.one 4)<|.bin .add ⇑4 ↑1] #[.expr<|.bm .append ⇑3 #[.call "_law_deed_now" #[⇑0,⇑1]],.expr<|.meth "Yard" "deed" ⇑1 #[.idx ⇑3<|.neg ↑1]]],.ret ⇑3]}
noncomputable abbrev Tf:Fn:={ar:=2,sz:=3,body:=#[.ite (.or (.val<|.cmp .ne (.meth "Yard" "labels" ⇑0 .nil)<|.meth "Yard" "labels" ⇑1 .nil)<|.or (.val<|.cmp .ne (.meth "Yard" "stamps" ⇑0 .nil)<|.meth "Yard" "stamps" ⇑1 .nil)<|.val<|.cmp .ne (.meth "Yard" "down" ⇑0 .nil)<|.meth "Yard" "down" ⇑1 .nil) #[.ret<|.cst<|.bl ee] .nil,.ite (.or (.val<|.cmp .ne (.meth "Yard" "road" ⇑0 .nil)<|.meth "Yard" "road" ⇑1 .nil)<|.or (.val<|.cmp .ne (.meth "Yard" "net" ⇑0 .nil)<|.meth "Yard" "net" ⇑1 .nil)<|.val<|.cmp .ne (.meth "Yard" "greatest" ⇑0 .nil)<|.meth "Yard" "greatest" ⇑1 .nil) #[.ret<|.cst<|.bl ee] .nil,.for (.one 2) (.range<|.bi .len #[.idx (.meth "Yard" "net" ⇑0 .nil) ↑1]) #[.ite (.val<|.cmp .ne (.meth "Yard" "ends" ⇑0 #[⇑2])<|.meth "Yard" "ends" ⇑1 #[⇑2]) #[.ret<|.cst<|.bl ee] .nil],.ret<|.cst<|.bl d9]}
noncomputable abbrev Tv:Fn:={ar:=4,sz:=6,body:=#[.set (.one 4)<|.lst .nil,.try d8 (.call "yard_at" #[⇑0,⇑1,⇑2,⇑3]) (.cons "ShutError" (d7 5) #[.set (.one 4)<|.lst #[.bi (.isx ["NoLine"]) #[⇑5],.bi (.isx ["NoDeed"]) #[⇑5],.bi (.isx ["ValueError"]) #[⇑5]],.expr<|.bm .append ⇑4 #[.bi (.isx ["NoCommand","NoFrame","NoLetter","NoNet","NoOrder"]) #[⇑5]]] .nil),.ret ⇑4]}
noncomputable abbrev Tg:Fn:={ar:=2,sz:=4,body:=#[.set (.one 2)<|.meth "Yard" "down" ⇑1 .nil,.set (.one 3)<|.lst #[.tup #[.cst<|.str "come",.bi .len #[.meth "Yard" "road" ⇑1 .nil]],.tup #[.cst<|.str "lost",.bin .add (.bi .len #[.meth "Yard" "road" ⇑1 .nil]) ↑3],.tup #[.cst<|.str "come",.bin .sub ↑0 ↑1],.tup #[.cst<|.str "tick",↑1000],.tup #[.cst<|.str "tick"]],.set (.one 3)<|.bin .add (.bin .add ⇑3<|.comp [] 1 (.one 0) (.seq<|.idx ⇑2 ↑0) .yes<|.tup #[.cst<|.str "fall",.cst<|.str "bridge",⇑0])<|.comp [] 1 (.one 0) (.seq<|.idx ⇑2 ↑0) .yes<|.tup #[.cst<|.str "tick",⇑0],.set (.one 3)<|.bin .add ⇑3<|.comp [] 2 (.many [0,1]) (.seq<|.meth "Yard" "labels" ⇑1 .nil) .yes<|.tup #[.cst<|.str "back",.cst<|.str "bridge",⇑0],.set (.one 3)<|.bin .add ⇑3<|.comp [2] 1 (.one 0) (.range<|.bi .len #[.idx (.meth "Yard" "net" ⇑1 .nil) ↑1]) (.val<|.cmp .notin ⇑0<|.idx ⇑1 ↑1)<|.tup #[.cst<|.str "back",.cst<|.str "tie",⇑0],.set (.one 3)<|.bin .add (.bin .add ⇑3<|.comp [] 1 (.one 0) (.seq<|.idx ⇑2 ↑1) .yes<|.tup #[.cst<|.str "fall",.cst<|.str "tie",⇑0])<|.lst #[.tup #[.cst<|.str "fall",.cst<|.str "tie",.bi .len #[.idx (.meth "Yard" "net" ⇑1 .nil) ↑1]],.tup #[.cst<|.str "rise",↑0]],.ret<|.idx ⇑3<|.call "_law_take" #[⇑0,.bi .len #[⇑3]]]}
noncomputable abbrev Te:Fn:={ar:=1,sz:=15,body:=#[.set (.one 1)<|.call "_law_draws" #[⇑0],.set (.one 2)<|.bin .add ↑4<|.call "_law_take" #[⇑1,.idx (.lst #[↑13,↑13,↑13,↑197])<|.call "_law_take" #[⇑1,↑4]],.set (.one 3)<|.call "_law_take" #[⇑1,↑1000],.set (.one 4)<|.lst #[.call "_law_take" #[⇑1,↑1000]],.set (.one 5)<|.call "_law_take" #[⇑1,↑1000],.set (.one 6)<|.call "_law_net" #[⇑1,↑4,↑4],.set (.one 7)<|.call "_law_row" #[⇑1,.make "Yard" #[⇑6,⇑2],↑80],.set (.one 3)<|.bin .mod ⇑3<|.bin .add (.bi .len #[⇑7]) ↑1,.set (.one 8)<|.make "Yard" #[⇑6,⇑2],.for (.one 9) (.seq<|.slc ⇑7 .none<|.some ⇑3) #[.expr<|.meth "Yard" "deed" ⇑8 #[⇑9]],.set (.one 10)<|.bi .list #[⇑7],.set (.one 11)<|.call "yard_at" #[⇑6,⇑2,⇑10,⇑3],.ite (.or (.val<|.cmp .ne ⇑10 ⇑7)<|.not<|.val<|.call "_law_alike" #[⇑11,⇑8]) #[.ret<|.cst<|.bl ee] .nil,.set (.one 12)<|.bin .add (.bin .add (.slc ⇑7 .none<|.some ⇑3)<|.lst #[.call "_law_bad_deed" #[⇑4,⇑8]])<|.slc ⇑7 (.some ⇑3) .none,.ite (.not<|.val<|.call "_law_alike" #[.call "yard_at" #[⇑6,⇑2,⇑12,⇑3],⇑8]) #[.ret<|.cst<|.bl ee] .nil,.for (.one 9) (.seq<|.slc ⇑7 (.some ⇑3)<|.some<|.bin .add ⇑3 ↑12) #[.expr<|.meth "Yard" "deed" ⇑11 #[⇑9],.expr<|.meth "Yard" "deed" ⇑8 #[⇑9]],.ite (.not<|.val<|.call "_law_alike" #[⇑11,⇑8]) #[.ret<|.cst<|.bl ee] .nil,.ite (.not<|.val<|.call "_law_alike" #[.call "yard_at" #[⇑6,⇑2,⇑7,↑0],.make "Yard" #[⇑6,⇑2]]) #[.ret<|.cst<|.bl ee] .nil,.for (.one 13) (.seq<|.tup #[.bin .add ⇑3 ↑1,.bin .add (.bin .add ⇑3 ↑1)<|.bin .mod ⇑5<|.bin .sub (.bi .len #[⇑12]) ⇑3,.bi .len #[⇑12]]) #[.ite (.val<|.cmp .ne (.call "_law_told" #[⇑6,⇑2,⇑12,⇑13])<|.lst #[.cst<|.bl ee,.cst<|.bl d9,.cst<|.bl d9,.cst<|.bl ee]) #[.ret<|.cst<|.bl ee] .nil],.set (.one 14)<|.lst #[.cst<|.bl d9,.cst<|.bl ee,.cst<|.bl d9,.cst<|.bl ee],.for (.one 13) (.seq<|.tup #[.bin .sub ↑0 ↑1,.bin .add (.bi .len #[⇑12]) ↑1,.bin .pow ↑10 ↑9,.bin .sub (.bin .sub ↑0 ↑1) ⇑3]) #[.ite (.val<|.cmp .ne (.call "_law_told" #[⇑6,⇑2,⇑12,⇑13]) ⇑14) #[.ret<|.cst<|.bl ee] .nil],.ret<|.cmp .eq (.call "_law_told" #[⇑6,⇑2,⇑7,.bin .add (.bi .len #[⇑7]) ↑1]) ⇑14]}
class Al(P:Pg):Prop where
 c0:P "_wall" = d7 T7
 c1:P "is_whole" = d7 Tc
 c2:P "is_whole_between" = d7 Td
 c3:P "make_net" = d7 T3
 c4:P "are_bridges" = d7 Tn
 c5:P "is_tie" = d7 Ta
 c6:P "lesser_end_first" = d7 T1
 c7:P "neighbours" = d7 T4
 c8:P "far_end" = d7 Tu
 c9:P "newer" = d7 T5
 c10:P "best_offer" = d7 To
 c11:P "Bridge.__init__" = d7 SV
 c12:P "Bridge.twin" = d7 S9
 c13:P "Bridge.label" = d7 S2
 c14:P "Bridge.stamp" = d7 S6
 c15:P "Bridge.held" = d7 SW
 c16:P "Bridge.up" = d7 TZ
 c17:P "Bridge.down" = d7 SZ
 c18:P "Bridge.hear" = d7 SX
 c19:P "Bridge.tick" = d7 S8
 c20:P "Bridge.let_grow_older" = d7 S3
 c21:P "Bridge.reckon_label" = d7 S5
 c22:P "Bridge.take_label" = d7 S7
 c23:P "Bridge.letter_over" = d7 S4
 c24:P "Bridge.is_rested_on" = d7 S1
 c25:P "Bridge.is_agreed_to" = d7 S0
 c26:P "Bridge.end" = d7 SY
 c27:P "Yard.__init__" = d7 TL
 c28:P "Yard.twin" = d7 Tm
 c29:P "Yard.net" = d7 TR
 c30:P "Yard.greatest" = d7 TF
 c31:P "Yard.road" = d7 TV
 c32:P "Yard.down" = d7 TN
 c33:P "Yard.labels" = d7 TQ
 c34:P "Yard.stamps" = d7 Tw
 c35:P "Yard.bridge" = d7 TW
 c36:P "Yard.ends" = d7 TB
 c37:P "Yard.end_at" = d7 TU
 c38:P "Yard.has_tie" = d7 TH
 c39:P "Yard.deed" = d7 TM
 c40:P "Yard.tick_of" = d7 Tk
 c41:P "Yard.come" = d7 TK
 c42:P "Yard.take_off" = d7 Tj
 c43:P "Yard.fall_of_bridge" = d7 TC
 c44:P "Yard.fall_of_tie" = d7 TD
 c45:P "Yard.back_of_bridge" = d7 TY
 c46:P "Yard.back_of_tie" = d7 TX
 c47:P "Yard.set_ties_of" = d7 Tx
 c48:P "Yard.set_tie" = d7 Tz
 c49:P "yard_behind" = d7 T9
 c50:P "read_deed" = d7 T6
 c51:P "yard_at" = d7 T8
 c52:P "_law_draws" = d7 Ti
 c53:P "_law_take" = d7 Tr
 c54:P "_law_net" = d7 Tl
 c55:P "_law_round_of" = d7 Tp
 c56:P "_law_deed_now" = d7 Th
 c57:P "_law_row" = d7 Tq
 c58:P "_law_alike" = d7 Tf
 c59:P "_law_told" = d7 Tv
 c60:P "_law_bad_deed" = d7 Tg
 c61:P "law" = d7 Te
set_option hygiene false in
local macro_rules|`(#check $r:ident $c:ident $d:ident $s:str $a:num $z:num)=>do
 let v:=(Array.range a.getNat).map λi=>Lean.mkIdent (.mkSimple s!"a{i}")
 let e<-(Array.range z.getNat).mapM λi=>if i<a.getNat then `(d7 $(v[i]!))else`(d8)
 `(theorem $r [Al P](q:B0 P n $d [$e,*] h Q X):wF P (n+1) $s [$v,*] h Q X:=Zd $c rfl q)
#check XX Al.c1 Tc "is_whole" 1 1
#check Yq Al.c2 Td "is_whole_between" 3 3
#check Op Al.c3 T3 "make_net" 2 2
#check Kw Al.c4 Tn "are_bridges" 1 1
#check DT Al.c5 Ta "is_tie" 2 2
#check X3 Al.c6 T1 "lesser_end_first" 1 1
#check M3 Al.c7 T4 "neighbours" 2 5
#check Bp Al.c8 Tu "far_end" 2 2
#check Gy Al.c9 T5 "newer" 2 2
#check M7 Al.c10 To "best_offer" 2 3
#check Kr Al.c11 SV "Bridge.__init__" 5 8
#check Km Al.c13 S2 "Bridge.label" 1 1
#check Kg Al.c14 S6 "Bridge.stamp" 1 1
#check Kq Al.c15 SW "Bridge.held" 2 2
#check NR Al.c16 TZ "Bridge.up" 4 4
#check Ku Al.c17 SZ "Bridge.down" 2 2
#check KG Al.c18 SX "Bridge.hear" 3 4
#check Ko Al.c19 S8 "Bridge.tick" 1 2
#check YH Al.c20 S3 "Bridge.let_grow_older" 1 4
#check Xg Al.c21 S5 "Bridge.reckon_label" 1 8
#check XM Al.c22 S7 "Bridge.take_label" 2 2
#check Xr Al.c23 S4 "Bridge.letter_over" 2 8
#check Xf Al.c24 S1 "Bridge.is_rested_on" 2 3
#check Xh Al.c25 S0 "Bridge.is_agreed_to" 2 3
#check MS Al.c26 SY "Bridge.end" 2 2
#check Nr Al.c27 TL "Yard.__init__" 3 4
#check OG Al.c29 TR "Yard.net" 1 1
#check W0 Al.c30 TF "Yard.greatest" 1 1
#check NM Al.c31 TV "Yard.road" 1 1
#check Na Al.c32 TN "Yard.down" 1 2
#check Ky Al.c33 TQ "Yard.labels" 1 1
#check KA Al.c34 Tw "Yard.stamps" 1 1
#check Np Al.c36 TB "Yard.ends" 2 5
#check Kt Al.c37 TU "Yard.end_at" 3 3
#check ZS Al.c38 TH "Yard.has_tie" 2 2
#check WQ Al.c39 TM "Yard.deed" 2 4
#check Xp Al.c40 Tk "Yard.tick_of" 2 5
#check Xl Al.c41 TK "Yard.come" 2 6
#check Xd Al.c42 Tj "Yard.take_off" 2 2
#check ZW Al.c43 TC "Yard.fall_of_bridge" 2 2
#check ZO Al.c44 TD "Yard.fall_of_tie" 2 2
#check ZD Al.c45 TY "Yard.back_of_bridge" 2 2
#check Yr Al.c46 TX "Yard.back_of_tie" 2 2
#check X0 Al.c47 Tx "Yard.set_ties_of" 2 5
#check JC Al.c48 Tz "Yard.set_tie" 2 8
#check Ks Al.c49 T9 "yard_behind" 3 5
#check WS Al.c50 T6 "read_deed" 1 2
#check K3 Al.c51 T8 "yard_at" 4 4
#check NJ Al.c52 Ti "_law_draws" 1 6
#check Ov Al.c53 Tr "_law_take" 2 2
#check AC Al.c54 Tl "_law_net" 3 9
#check J6 Al.c55 Tp "_law_round_of" 1 3
#check J0 Al.c56 Th "_law_deed_now" 2 7
#check Ao Al.c57 Tq "_law_row" 3 5
#check NT Al.c58 Tf "_law_alike" 2 3
#check Oz Al.c59 Tv "_law_told" 4 6
#check JO Al.c60 Tg "_law_bad_deed" 2 4
#check PY Al.c61 Te "law" 1 15
local macro_rules|`(#[$x])=>`(.cons $x .nil)|`(#[$x,$y,*])=>`(.cons $x #[$y,*])
local macro_rules | `(tactic| walk_at "ne")=>`(tactic| first | assumption | (apply Ne.symm; assumption) | ((with_reducible apply ne_none'); (· assumption); (· walk_at "look")) | (apply Ne.symm; (with_reducible apply ne_none'); (· assumption); (· walk_at "look")))
local macro_rules | `(tactic| walk_at "look")=>`(tactic| first | assumption | with_reducible exact ej | ((with_reducible apply upd_ne'); (· walk_at "ne"); (· walk_at "look")) | ((with_reducible apply Ext.get); (· assumption); (· walk_at "look")) | ((with_reducible apply ExtB.get); (· assumption); (· walk_at "ne"); (· walk_at "look")))
local macro_rules | `(tactic| walk_at "ar")=>`(tactic| first | decide | lia | assumption | (simp only [Ç,ė]; decide))
local macro_rules | `(tactic| walk_at "mul")=>`(tactic| first | exact .inl (.inr<|by lia) | exact .inl (.inl<|by lia) | exact .inr ⟨by decide,by decide⟩)
local macro_rules | `(tactic| walk_at "setl")=>`(tactic| first | (simp only [ň,η,ψ,ļ,List.foldl_nil,Ϣ,ϣ]; done) | (simp only [ň,η,ψ,ļ,List.foldl_nil,Ϣ,ϣ]; exact rfl) | exact rfl)
local macro_rules | `(tactic| walk_at "w")=>`(tactic| with_reducible conv=>whnf)
local macro_rules | `(tactic| walk_at "py1")=>do
 let a<-[`dw0,`ab_int,`b_add,`b_sub,`g_int,`g_bl,`g_ref,`g_tbl,`c_lt,`c_gt,`c_le,`c_ge,`c_eqI,`c_neI,`c_isN,`c_notN,`ag_add,`ln_scr,`ln_tup,`mn2,`mx2,`it_tup].toArray.mapM λn=>`(tactic| refine $(Lean.mkIdent n) ?_)
 let c<-[`ln_lst,`tp_lst,`ls_lst,`sl_lst,`it_lst,`dc_of].toArray.mapM λn=>`(tactic| ((with_reducible apply $(Lean.mkIdent n)); (· walk_at "look")))
 `(tactic| first
 |(with_reducible first $[| $a:tactic]*)
 |((with_reducible apply PV);(· exact rfl))
 |((with_reducible apply Lk);(· walk_at "setl"))|((with_reducible apply IA);(· (simp only[bindL,Ϣ,ϣ];exact rfl)))|((with_reducible apply b_mul);(· walk_at "mul"))|((with_reducible apply b_fdiv);(· walk_at "ar"))|((with_reducible apply b_mod);(· walk_at "ar"))|((with_reducible apply Ld);(· walk_at "ar");(· simp only[Int.reduceToNat,Int.reducePow];exact rfl))|((with_reducible apply YR);(· walk_at "look");(· walk_at "look");(· first|(simp only[ac,List.nil_append,Ç,ė];decide)|lia))|((with_reducible apply LV);(· walk_at "ar"))
 |((with_reducible apply eK);(· exact rfl))|((with_reducible apply ZJ);(· walk_at "look");(· exact rfl))
 |((with_reducible apply YB);(· walk_at "look");(· walk_at "ar"))|((with_reducible apply Pn);(· walk_at "look");(· exact rfl))|((with_reducible apply PN);(· walk_at "look");(· exact rfl))
 |((with_reducible apply Q8);(· exact rfl))|((with_reducible apply fE);(· decide))
 | ((with_reducible apply LS);(· first | exact .inl rfl | exact .inr (.inl rfl) | simp);(· walk_at "look")) | ((with_reducible apply Ia);(· first | exact rfl | simp);(· walk_at "look")) | ((with_reducible apply Zz);(· walk_at "look");(· walk_at "ar")) | (first $[| $c:tactic]*))
local macro_rules | `(tactic| fail)=>`(tactic| ((repeat walk_at "py1"); walk_at "w"))
local macro_rules | `(tactic| walk_at "p")=>`(tactic| ((repeat first | walk_at "py1" | refine fG rfl ?_ | refine fH rfl ?_); walk_at "w"))
local macro_rules | `(tactic| exists $e)=>`(tactic| (fail; refine $e ?_))
local macro_rules | `(tactic| refine' $e)=>`(tactic| (fail; refine $e))
section
variable {α:Type}(val:α->Val)
abbrev Zn(kvs:List<|Int×α):List<|Val×Val:=kvs.map λp=>(.int p.1,val p.2)
abbrev ZA(kvs:List<|Int×α)(k:Int)(v:α):List<|Int×α:=if(kvs.lookup k).isSome then kvs.map (λp=>if p.1=k then(k,v)else p)else kvs++[(k,v)]
abbrev Zx(kvs:List<|Int×α)(k:Int):List<|Int×α:=kvs.filter λp=>gg (p.1≠k)
variable {val}
def Jg(a b:Int):(Val.int a==Val.int b)=gg (a=b):=by
 by_cases e:a=b
 .subst e;simp
 .rw[f9 e];exact beq_eq_false_iff_ne.mpr λz=>e (by injection z)
def Z9(kvs:List<|Int×α)(k:Int):fb (Zn val kvs) (.int k)=(kvs.lookup k).map val:=by
 induction kvs with
 |nil=>rfl
 |cons p r ih =>
  unfold fb Zn at ih ⊢;rw[Î,Ę,ï,Jg];by_cases e:p.1=k
  .have:(k==p.1)=d9:=by simp[e]
   simp[e]
  .have h2:(k==p.1)=ee:=by simpa using λz=>e z.symm
   rw[f9 e,h2];exact ih
def Z8(kvs:List<|Int×α)(k:Int):fc (Zn val kvs) (.int k)=(kvs.lookup k).isSome:=by
 induction kvs with
 |nil=>rfl
 |cons p r ih =>
  unfold fc Zn at ih ⊢;rw[Î,Ĩ,ï,Jg];by_cases e:p.1=k
  .simp[e]
  .have h2:(k==p.1)=ee:=by simpa using λz=>e z.symm
   rw[f9 e,h2];exact ih
def Ye(kvs:List<|Int×α)(k:Int)(v:α):fe (Zn val kvs) (.int k) (val v)=Zn val (ZA kvs k v):=by
 unfold fe ZA;rw[Z8];split
 .unfold Zn;rw[ú,ú];refine Ġ λp _=>?_;simp only[bD,Jg];by_cases e:p.1=k
  .simp[e]
  .simp[e]
 .unfold Zn;rw[Ó];rfl
def Wz(kvs:List<|Int×α)(k:Int):ff (Zn val kvs) (.int k)=Zn val (Zx kvs k):=by
 unfold ff Zx Zn;induction kvs with
 |nil=>rfl
 |cons p r ih =>rw[Î,ą,ą,Jg,ih];by_cases e:p.1=k<;>simp[e]
def Wp(ns:List Int):eL (ns.map Val.int)=d7 ns:=by
 induction ns with
 |nil=>rfl
 |cons n ns ih=>show(eL<|ns.map Val.int).map _=_;rw[ih];rfl
def Uo(kvs:List<|Int×α):keysOf (Zn val kvs)=d7 (kvs.map (·.1)):=by unfold keysOf Zn;rw[ú];exact(congrArg eL (ú (f:=λp:Int×α=>p.1) (g:=Val.int) (l:=kvs)).symm).trans (Wp _)
def Kz(kvs:List<|Int×α):(Zn val kvs).length=kvs.length:=by unfold Zn;rw[À]
variable {kvs:List (Int×α)}
def ZC{k:Int}{v:α}(h:kvs.lookup k=d7 v):(k,v)∈kvs:=by
 induction kvs with
 |nil=>cases h
 |cons p r ih =>
  rw[ï]at h;by_cases e:k=p.1
  .have:(k==p.1)=d9:=by simp[e]
   rw[this]at h;cases h;rw[e];exact î
  .have:(k==p.1)=ee:=by simpa using e
   rw[this]at h;exact Û _<|ih h
def ZQ{k:Int}(h:k∈kvs.map (·.1)):∃v,kvs.lookup k=d7 v:=by
 induction kvs with
 |nil=>cases h
 |cons p r ih =>
  rw[ï];by_cases e:k=p.1
  .have:(k==p.1)=d9:=by simp[e]
   rw[this];exact⟨_,rfl⟩
  .have:(k==p.1)=ee:=by simpa using e
   rw[this];rw[Î,Æ]at h;exact ih<|h.resolve_left e
def XG{k:Int}(h:kvs.lookup k=d8):k∉kvs.map (·.1):=λm=>by obtain⟨v,e⟩:=ZQ m;rw[h]at e;cases e
def Jm(nd:(kvs.map (·.1)).Nodup){k:Int}{v:α}(h:(k,v)∈kvs):kvs.lookup k=d7 v:=by
 induction kvs with
 |nil=>cases h
 |cons p r ih =>
  rw[Î,ĉ]at nd;rw[ï];rcases Æ.mp h with e|h
  .subst e;simp
  .have:k≠p.1:=λz=>nd.1 (z▸û (f:=(·.1)) h);have:(k==p.1)=ee:=by simpa using this
   rw[this];exact ih nd.2 h
def Kk(kvs:List<|Int×α)(k:Int)(v:α):(ZA kvs k v).map (·.1)=if(kvs.lookup k).isSome then kvs.map (·.1)else kvs.map (·.1)++[k]:=by
 unfold ZA;split
 .rw[ú];refine Ġ λp _=>?_;simp only[bD];by_cases e:p.1=k<;>simp[e]
 .rw[Ó];rfl
def Wj{k:Int}(v:α)(h:k∉kvs.map (·.1)):ZA kvs k v=kvs++[(k,v)]:=by
 unfold ZA;have:kvs.lookup k=d8:=by
  cases e:kvs.lookup k with
  |none=>rfl
  |some w=>exact gf (û (f:=(·.1))<|ZC e) h
 rw[this];rfl
def WO(nd:(kvs.map (·.1)).Nodup)(k:Int)(v:α):((ZA kvs k v).map (·.1)).Nodup:=by
 rw[Kk];split
 .exact nd
 .rename_i h;have h:kvs.lookup k=d8:=ϸ.mp h;rw[é];refine⟨nd,by simp,λa ha b hb=>?_⟩;rw[Ý.mp hb];exact λe=>XG h<|e▸ha
variable {p:Int×α}
def Jb{k:Int}{v:α}(h:p∈ZA kvs k v):p=(k,v)\/p∈kvs:=by
 unfold ZA at h;split at h
 .obtain⟨q,hq,e⟩:=å.mp h;split at e
  .exact .inl e.symm
  .exact .inr<|e▸hq
 .rcases â.mp h with h|h
  .exact .inr h
  .exact .inl<|Ý.mp h
def NL(kvs:List<|Int×α)(k:Int):(Zx kvs k).Sublist kvs:=Ϝ
def YY(nd:(kvs.map (·.1)).Nodup)(k:Int):((Zx kvs k).map (·.1)).Nodup:=nd.sublist ((NL kvs k).map _)
def GG{k:Int}(h:p∈Zx kvs k):p.1≠k:=by unfold Zx at h;have:=(ġ.mp h).2;simpa using this
end
def Yg:∀{m:Nat}{ns:List Int},ns.Nodup->(∀x∈ns,0<=x/\x<m)->ns.length<=m
 |0,ns,nd,h=>by
  cases ns with
  |nil=>exact Í _
  |cons x xs=>have:=h x î;lia
 |m+1,ns,nd,h=>by
  by_cases hm:(m:Int)∈ns
  .have:=Yg (m:=m) (nd.erase (m:Int)) λx hx=>by
    have h1:=(nd.mem_erase_iff).mp hx;have h2:=h x h1.2;have:=h1.1;lia
   rw[bq hm]at this;lia
  .have:=Yg (m:=m) nd λx hx=>by
    have h2:=h x hx;have:x≠(m:Int):=λe=>hm<|e▸hx;lia
   lia
noncomputable abbrev Pi:=Int×Int
noncomputable abbrev pV(p:Pi):Val:=.tup [.int p.1,.int p.2]
abbrev oV:Option Pi->Val
 |none=>.non
 |some p=>pV p
structure L where
 num:Pi
 st:Pi
 root:Int
 cost:Int
 age:Int
 rests:Option Pi
 agrees:Option Pi
noncomputable abbrev L.v(l:L):Val:=.tup [pV l.num,pV l.st,.int l.root,.int l.cost,.int l.age,oV l.rests,oV l.agrees]
noncomputable abbrev Bl(t:Int×Int):Val:=.tup [.int t.1,.int t.2]
noncomputable abbrev hdV(t:L×Int):Val:=.tup [t.1.v,.int t.2]
structure Lab where
 root:Int
 cost:Int
 up:Option<|Int×Pi
 deriving DecidableEq
abbrev upV:Option (Int×Pi)->Val
 |none=>.non
 |some p=>.int p.1
abbrev rsV:Option (Int×Pi)->Val
 |none=>.non
 |some p=>pV p.2
noncomputable abbrev Lab.v(l:Lab):Val:=.tup [.int l.root,.int l.cost,upV l.up,rsV l.up]
structure Br where
 number:Int
 life:Int
 most:Int
 ties:List<|Int×(Int×Int)
 held:List<|Int×(L×Int)
 label:Lab
 version:Int
 count:Int
abbrev Br.fs(B:Br)(t d:Ad):List<|String×Val:=[("number",.int B.number),("life",.int B.life),("age_let_go",.int B.most),("ties_by_place",.ref t),("held_by_place",.ref d),("label_now",B.label.v),("version",.int B.version),("ticks_had",.int B.count)]
structure eP(h:Hs)(b t d:Ad)(B:Br):Prop where
 ins:h b=d7 (.ins "Bridge" [("number",.int B.number),("life",.int B.life),("age_let_go",.int B.most),("ties_by_place",.ref t),("held_by_place",.ref d),("label_now",B.label.v),("version",.int B.version),("ticks_had",.int B.count)])
 ties:h t=d7 (.dct<|Zn Bl B.ties)
 held:h d=d7 (.dct<|Zn hdV B.held)
 ne:t≠d
variable {h:Hs} {b:Ad} {o:Ob}
def CM{a:Ad}{u:Ob}(ha:h a=d7 o)(hb:h b=d7 u)(ne:o≠u):a≠b:=λe=>by subst e;rw[ha]at hb;exact ne (í hb)
variable {d:Ad} {B:Br}
def eP.nbt{t:Ad}(x:eP h b t d B):b≠t:=CM x.ins x.ties nofun
def eP.nbd{t:Ad}(x:eP h b t d B):b≠d:=CM x.ins x.held nofun
structure Ex(S:List Ad)(h g:Hs):Prop where
 get:∀{a:Ad}{o:Ob},a∉S->h a=d7 o->g a=d7 o
def Ex.refl{S:List Ad}:Ex S h h:=⟨λ_ e=>e⟩
variable {g:Hs}
def Ex.trans{k:Hs}{S:List Ad}(e:Ex S h g)(f:Ex S g k):Ex S h k:=⟨λn x=>f.get n<|e.get n x⟩
def Ex.of{S:List Ad}(e:Ext h g):Ex S h g:=⟨λ_ x=>e.get x⟩
variable {w:Ad}
def Ex.upd{S:List Ad}(m:w∈S):Ex S h<|upd h w o:=⟨λ{a _} n x=>by rw[ei λe:a=w=>n<|by rw[e];exact m];exact x⟩
def Ex.sub{S T:List Ad}(e:Ex S h g)(m:∀a∈S,a∈T):Ex T h g:=⟨λn x=>e.get (λz=>n<|m _ z) x⟩
def Ex.ext(e:Ex [] h g):Ext h g:=⟨λx=>e.get (by simp) x⟩
variable {p:Ad}
def Ex.none(e:Ex [b] h g)(hb:g b≠d8)(hp:g p=d8):h p=d8:=by
 cases z:h p with
 |none=>rfl
 |some o =>
  by_cases hpb:p=b
  .subst hpb;exact gf hp hb
  .rw[e.get (by simpa using hpb) z]at hp;cases hp
def Ex.ofB{S:List Ad}(e:ExtB w h g)(m:w∈S):Ex S h g:=⟨λn x=>e.get (λz=>n<|z▸m) x⟩
def eP.keep{t:Ad}{S:List Ad}(x:eP h b t d B)(e:Ex S h g)(hb:b∉S)(ht:t∉S)(hd:d∉S):eP g b t d B:=⟨e.get hb x.ins,e.get ht x.ties,e.get hd x.held,x.ne⟩
def eP.ext{t:Ad}(x:eP h b t d B)(e:Ext h g):eP g b t d B:=⟨e.get x.ins,e.get x.ties,e.get x.held,x.ne⟩
def nw{Q:Q1}(q:∀p,h p=d8->Q (.ref p) (upd h p o)):new h o Q:=YD q
abbrev YK(most:Int)(held:List<|Int×(L×Int)):List<|Int×(L×Int):=held.filterMap λp=>if p.2.2+1<most then d7 (p.1,(p.2.1,p.2.2+1))else d8
variable {most:Int}
def Au{held:List (Int×(L×Int))}{p:Int×(L×Int)}(h:p∈YK most held):∃a,(p.1,(p.2.1,a))∈held:=by
 obtain⟨q,hq,e⟩:=ſ.mp h;split at e
 .cases e;exact⟨_,hq⟩
 .cases e
def JD(most:Int)(held:List<|Int×(L×Int)):((YK most held).map (·.1)).Sublist (held.map (·.1)):=by
 unfold YK;induction held with
 |nil=>exact ś _
 |cons p r ih =>
  rw[Ĕ];split
  .exact ih.cons _
  .rename_i q e;split at e
   .cases e;exact ih.cons₂ _
   .cases e
def Ae(most:Int)(held:List<|Int×(L×Int)):(YK most held).length<=held.length:=bf _ _
def YO{α β:Type}{f:α->β}:∀{xs:List α}{i:Nat}{q:α},(xs.map f).Nodup->xs[i]?=d7 q->f q∉(xs.take i).map f
 |[],_,_,_,h=>by simp at h
 |x::xs,0,_,_,_=>by simp
 |x::xs,i+1,q,nd,h=>by
  rw[Î,ĉ]at nd;have h:xs[i]?=d7 q:=by simpa using h
  rw[ϝ,Î,Æ,not_or];exact⟨λe=>nd.1<|e▸û (ä h),YO nd.2 h⟩
variable {α:Type} {xs:List α} {i:Nat} {x:α}
def Zf(h:xs[i]?=d7 x):xs.take (i+1)=xs.take i++[x]:=by rw[ő,h];rfl
def ZH{f:α->Val}{v:Val}(h:(xs.map f)[i]?=d7 v):∃x,xs[i]?=d7 x/\v=f x:=by rw[Õ]at h;obtain⟨x,h1,h2⟩:=Ð.mp h;exact⟨x,h1,h2.symm⟩
variable {kvs:List (Int×α)}
def Nw{val:α->Val}{v:Val}(h:((Zn val kvs).map<|itemOf ee)[i]?=d7 v):∃p,kvs[i]?=d7 p/\v=.tup [.int p.1,val p.2]:=by obtain⟨q,h1,rfl⟩:=ZH h;unfold Zn at h1;rw[Õ]at h1;obtain⟨x,h2,rfl⟩:=Ð.mp h1;exact⟨x,h2,rfl⟩
def Hw{val:α->Val}(kvs:List<|Int×α):((Zn val kvs).map<|itemOf ee).length=kvs.length:=by rw[À,Kz]
variable {P:Pg} [Al P] {n:Nat}{h:Hs}{w b t d st a f tt hh:Ad}{S B:Br}{c:Int}{all:List (Int×Int)}{ps:List Int}{Q:Q1}{X:XQ}
def DR(x:eP h b t d B)(k:Q B.label.v h):wF P (n+1) "Bridge.label" [.ref b] h Q X:=by obtain⟨hi,ht,hd,š⟩:=x;refine Km ?_;refine' k
def Xi(x:eP h b t d B)(k:Q (pV (B.life,B.version)) h):wF P (n+1) "Bridge.stamp" [.ref b] h Q X:=by obtain⟨hi,ht,hd,š⟩:=x;refine Kg ?_;refine' k
abbrev hdO:Option (L×Int)->Val
 |none=>.non
 |some p=>hdV p
def MK{p:Int}(x:eP h b t d B)(k:Q (hdO<|B.held.lookup p) h):wF P (n+1) "Bridge.held" [.ref b,.int p] h Q X:=by
 obtain⟨hi,ht,hd,š⟩:=x;refine Kq ?_
 exists IH (v:=.int p) hd rfl
 rw[Z9];cases e:B.held.lookup p with
 |none=>rw[e]at k;exact k
 |some q=>rw[e]at k;exact k
def EH(x:eP h b t d B)(nd:(B.held.map (·.1)).Nodup)(hl:B.held.length<1000)(k:∀d' g,h d'=d8->eP g b t d' {B with held:=YK B.most B.held}->Ex [b] h g->Q .non g):wF P (n+1) "Bridge.let_grow_older" [.ref b] h Q X:=by
 obtain⟨hi,ht,hd,š⟩:=id x;refine YH ?_;fail;intro p hp;have npd:=Zb hd hp;have npb:=Zb hi hp;have npt:=Zb ht hp;have nbd:=x.nbd;refine' Zo (λi e g=>Sm2 λu v=>Cj4 (e=[d7<|.ref b,d7<|.ref p,u,v]) (g p=d7 (.dct<|Zn hdV<|YK B.most<|B.held.take i)) (g d=d7 (.frz<|Zn hdV B.held))<|Ex [d] h g) ⟨d8,d8,rfl,by rw[ei npd.symm];exact ej,ej,?_⟩ ?_ ?_ ?_
 .exact⟨λm e=>by rw[ei λz=>m<|by simp[z],ei<|Zb e hp];exact e⟩
 .rintro i e g hi2 ⟨u,v,rfl,h1,h2,h3⟩;exact h2
 .rintro i v e g hv ⟨u,w,rfl,h1,h2,h3⟩ K hK;obtain⟨q,hq,rfl⟩:=Nw hv;have hi1:=h3.get (by simpa using nbd) hi;obtain⟨pl,l,a⟩:=q;have e1:YK B.most (B.held.take<|i+1)=YK B.most (B.held.take i)++YK B.most [(pl,(l,a))]:=by
   unfold YK;rw[Zf hq,List.filterMap_append]
  refine' fI (λhc=>?_) (λhc=>?_)
  .refine' Y6 (k:=.int pl) h1 ⟨rfl,?_⟩ ?_
   .rw[Kz];have h5:=Ae B.most<|B.held.take i;have h6:(B.held.take i).length<=B.held.length:=ώ _ _;exact Ñ (ß h5 h6) (ž hl<|by decide)
   fail;rw[show Val.tup [l.v,.int<|a+1]=hdV (l,a+1) from rfl,Ye];refine hK _ _ ⟨_,_,rfl,?_,?_,?_⟩
   .rw[ej,e1,Wj]
    .unfold YK;rw[Ĕ,fZ hc];rfl
    .exact λm=>YO nd hq<|(JD _ _).subset m
   .rw[ei npd];exact h2
   .exact⟨λm e=>by rw[ei<|Zb e hp];exact h3.get m e⟩
  .refine' hK _ _ ⟨_,_,rfl,?_,h2,h3⟩;rw[h1,e1];unfold YK;rw[Ĕ,f8 hc];simp
 .rintro e g ⟨u,v,rfl,h1,h2,h3⟩;have hi1:=h3.get (by simpa using nbd) hi;rw[Hw,ô]at h1;refine⟨h2,?_⟩;refine' k p _ hp ⟨ej,?_,?_,npt⟩ ?_
  .rw[ei x.nbt.symm,ei š];exact h3.get (by simpa using š) ht
  .rw[ei npb.symm,ei npd.symm];exact h1
  .refine⟨λ{c o} m e=>?_⟩;rw[ei<|by simpa using m];by_cases aA:c=d
   .subst aA;rw[ej,<-e];exact hd.symm
   .rw[ei aA];exact h3.get (by simpa using aA) e
def Gw(x:α)(xs:List α):atI (x::xs) 0=d7 x:=by unfold atI ixN;rw[fZ (by decide),fZ<|by simp];rfl
abbrev Ww(r:List Int):Val:=.tup<|r.map .int
def D8(Ć:List<|List Int):rowsOf (Ć.map Ww)=d7 Ć:=by
 induction Ć with
 |nil=>rfl
 |cons r rs ih =>show(eL<|r.map .int).bind (λns=>(rowsOf<|rs.map Ww).map (ns :: ·))=_;rw[Wp,ih];rfl
abbrev YX(number:Int)(Ć:List<|List Int):Option<|List Int:=match Ć.filter (λr=>gg (r.headD 0<number))with
 |[]=>d8
 |x::r=>d7<|minR x r
abbrev EW:Option (List Int)->Val
 |none=>.non
 |some r=>Ww r
def Nk:∀(r:List<|List Int) (x:List Int),minR x r∈x::r
 |[],x=>î
 |y::r,x=>by
  show minR (if fo y x then y else x) r∈x::y::r;have h:=Nk r (if fo y x then y else x);rcases Æ.mp h with e|h
  .rw[e];split
   .simp
   .simp
  .simp[h]
variable {number:Int} {Ć:List (List Int)}
def NA{m:List Int}(h:YX number Ć=d7 m):m∈Ć:=by
 unfold YX at h;split at h
 .cases h
 .rename_i x r e;cases h;have:minR x r∈Ć.filter (λr=>gg (r.headD 0<number)):=by rw[e];exact Nk r x
  exact(ġ.mp this).1
variable {l:Ad}
def E5(hl:h l=d7 (.lst<|Ć.map Ww))(h0:∀r∈Ć,r≠[])(hn:Ć.length<1000)(k:∀g,Ext h g->Q (EW<|YX number Ć) g):wF P (n+1) "best_offer" [.int number,.ref l] h Q X:=by
 refine M7 ?_;refine' ⟨by rw[À];exact ž hn (by decide),?_⟩;refine Yj (λv=>match v with|.tup (.int i::xs)=>if i<number then d7 v else d8|_=>d8) (lsE hl) ?_ ?_
 .intro v hv K hK;obtain⟨r,hr,rfl⟩:=å.mp hv;cases r with
  |nil=>exact gf rfl<|h0 _ hr
  |cons i xs =>
   have hK:K (if i<number then d7 (Ww<|i::xs)else d8) h:=hK;rw[show Ww (i::xs)=.tup (.int i::xs.map .int) from rfl]at hK ⊢
   exists eK (Gw _ _)
   refine' fI (λhc=>?_) (λhc=>?_)
   .rw[fZ hc]at hK;refine' hK
   .rw[f8 hc]at hK;exact hK
 .refine YD λp hp=>?_;fail;have e1:(Ć.map Ww).filterMap (λv=>match v with|.tup (.int i::xs)=>if i<number then d7 v else d8|_=>d8)=(Ć.filter λr=>gg (r.headD 0<number)).map Ww:=by
   clear hl k hn;induction Ć with
   |nil=>rfl
   |cons r rs ih =>
    have ih:=ih λr hr=>h0 r<|Û _ hr;cases r with
    |nil=>exact gf rfl<|h0 _ î
    |cons i xs =>
     rw[Î,Ĕ,ą];by_cases hc:i<number
     .simp only[Ww,Î,fZ hc,List.headD_cons,hc,decide_true,if_true]at ih ⊢;rw[ih]
     .simp only[Ww,Î,f8 hc,List.headD_cons,hc,decide_false,Ē,if_false]at ih ⊢;rw[ih]
  rw[e1];have hx:Ext h<|upd h p<|.lst<|(Ć.filter λr=>gg (r.headD 0<number)).map Ww:=Ext.new hp;cases e2:Ć.filter λr=>gg (r.headD 0<number)with
  |nil =>rw[e2]at hx;refine HQ ej ?_;have:=k _ hx;unfold YX at this;rw[e2]at this;exact this
  |cons x r =>rw[e2]at hx;refine Gk ej (D8<|x::r) ?_;have:=k _ hx;unfold YX at this;rw[e2]at this;exact this
abbrev NN(ties:List<|Int×(Int×Int))(p:Int):Int×Int:=(ties.lookup p).getD (0,0)
abbrev Mm(ties:List<|Int×(Int×Int))(q:Int×(L×Int)):List Int:=[q.2.1.root,q.2.1.cost+(NN ties q.1).2,(NN ties q.1).1,q.1]
abbrev M1(ties:List<|Int×(Int×Int))(held:List<|Int×(L×Int)):List<|List Int:=held.map<|Mm ties
abbrev F5(held:List<|Int×(L×Int))(p:Int):Pi:=((held.lookup p).map (·.1.st)).getD (0,0)
abbrev YN(B:Br):Lab:=match YX B.number (M1 B.ties B.held)with
 |none=>⟨B.number,0,d8⟩
 |some m=>⟨m.getD 0 0,m.getD 1 0,d7 (m.getD 3 0,F5 B.held<|m.getD 3 0)⟩
def Ie{ties:List (Int×(Int×Int))}{p:Int}(h:(ties.lookup p).isSome=d9):ties.lookup p=d7 (NN ties p):=by
 unfold NN;cases e:ties.lookup p with
 |none=>rw[e]at h;cases h
 |some v=>rfl
def Bc(x:eP h b t d B)(sub:∀q∈B.held,(B.ties.lookup q.1).isSome=d9)(hn:B.held.length<1000)(k:∀g,Ext h g->Q (YN B).v g):wF P (n+2) "Bridge.reckon_label" [.ref b] h Q X:=by
 obtain⟨hi,ht,hd,š⟩:=id x;refine Xg ?_;refine' YD λp hp=>?_;have npd:=Zb hd hp;have npb:=Zb hi hp;have npt:=Zb ht hp;have nbd:=x.nbd;refine' Zo (λi e g=>Sm4 λu v w z=>Cj4 (e=[d7<|.ref b,d7<|.ref p,u,v,w,z,d8,d8]) (g p=d7 (.lst<|(M1 B.ties<|B.held.take i).map Ww)) (g d=d7 (.frz<|Zn hdV B.held))<|Ex [d] h g) ⟨d8,d8,d8,d8,rfl,by rw[ei npd.symm];exact ej,ej,?_⟩ ?_ ?_ ?_
 .exact⟨λm e=>by rw[ei λz=>m<|by simp[z],ei<|Zb e hp];exact e⟩
 .rintro i e g hi2 ⟨u,v,w,z,rfl,h1,h2,h3⟩;exact h2
 .rintro i v e g hv ⟨u,v,w,z,rfl,h1,h2,h3⟩ K hK;obtain⟨q,hq,rfl⟩:=Nw hv;have hi1:=h3.get (by simpa using nbd) hi;have ht1:=h3.get (by simpa using š) ht;have hs:=Ie<|sub q<|ä hq;obtain⟨pl,l,a⟩:=q;generalize htt:NN B.ties pl=tt at hs;obtain⟨nb,c⟩:=tt;refine' Z2 ht1 rfl (by rw[Z9,hs];rfl) ?_;refine' Zz h1 ?_ ?_
  .rw[À];unfold M1;rw[À];exact Ñ (ώ _ _) (ž hn<|by decide)
  dsimp only;refine' hK _ _ ⟨_,_,_,_,rfl,?_,?_,?_⟩
  .rw[ej,Zf hq];unfold M1 Mm;rw[Ó,Ó,Î,htt];rfl
  .rw[ei npd];exact h2
  .exact⟨λm e=>by rw[ei<|Zb e hp];exact h3.get m e⟩
 .rintro e g ⟨u,v,w,z,rfl,h1,h2,h3⟩;have hi1:=h3.get (by simpa using nbd) hi;have hi2:upd g d (.dct<|Zn hdV B.held) b=_:=upd_ne' nbd hi1;rw[Hw,ô]at h1;have h1':upd g d (.dct<|Zn hdV B.held) p=_:=upd_ne' npd.symm h1;have hx:Ext h<|upd g d<|.dct<|Zn hdV B.held:=⟨λ{c o} e=>by
    by_cases aA:c=d
    . subst aA;rw[ej,<-e];exact hd.symm
    . rw[ei aA];exact h3.get (by simpa using aA) e⟩
  have aM:upd g d (.dct<|Zn hdV B.held) d=_:=ej;refine⟨h2,?_⟩;generalize upd g d (.dct<|Zn hdV B.held)=g2 at hi2 h1' hx aM ⊢;refine' E5 h1' ?_ ?_ λg3 h3=>?_
  .intro r hr;unfold M1 at hr;obtain⟨q,_,rfl⟩:=å.mp hr;unfold Mm;simp
  .unfold M1;rw[À];exact hn
  have hi3:=h3.get hi2;have hd3:=h3.get aM;have kk:=k g3<|hx.trans h3;unfold YN at kk;fail;cases e:YX B.number (M1 B.ties B.held)with
  |none =>rw[e]at kk;simp only[EW];refine fI (λhc=>?_) λhc=>gf trivial hc;refine' kk
  |some m =>rw[e]at kk;have hm:=NA e;unfold M1 at hm;obtain⟨q,hq,rfl⟩:=å.mp hm;refine fI (λhc=>(by simp[EW,Ww]at hc)) λhc=>?_;have hlk:∃y,B.held.lookup q.1=d7 y:=ZQ (û (f:=(·.1)) hq);obtain⟨y,hy⟩:=hlk;unfold Mm at kk ⊢;simp only[EW,Ww,Î,Ź];refine' Z2 hd3 rfl (by rw[Z9,hy];rfl) ?_;fail;unfold F5 at kk;simp only[List.getD_cons_succ,List.getD_cons_zero]at kk;rw[hy]at kk;exact kk
abbrev E8(l:Lab):D:=.tup [.int l.root,.int l.cost,(match l.up with|none=>.non|some p=>.int p.1),(match l.up with|none=>.non|some p=>.tup [.int p.2.1,.int p.2.2])]
def UP(h:Hs)(l:Lab):dat h deep l.v=d7 (E8 l):=by obtain⟨r,c,u⟩:=l;cases u<;>rfl
def IG(h:Hs)(l m:Lab):eqV h l.v m.v=d7 (gg (l=m)):=by
 unfold eqV;rw[UP,UP];show d7 (D.eqv (E8 l)<|E8 m)=_;congr 1;obtain⟨r,c,u⟩:=l;obtain⟨r',c',u'⟩:=m;unfold E8;cases u with
 |none=>cases u' with
  |none=>simp only[D.eqv,D.eqvs,ϟ];by_cases h1:r=r'<;>by_cases h2:c=c'<;>simp[h1,h2]
  |some q=>simp[D.eqv,D.eqvs]
 |some p=>cases u' with
  |none=>simp[D.eqv,D.eqvs]
  |some q =>obtain⟨p1,p2,p3⟩:=p;obtain⟨q1,q2,q3⟩:=q;simp only[D.eqv,D.eqvs,ϟ];by_cases h1:r=r'<;>by_cases h2:c=c'<;>by_cases h3:p1=q1<;>by_cases h4:p2=q2<;>by_cases h5:p3=q3<;>simp[h1,h2,h3,h4,h5]
abbrev taken(B:Br)(l:Lab):Br:=if l=B.label then B else {B with label:=l,version:=B.version+1}
variable {u:Val} {KB:Bool->Prop}
def Yz{v:Val}{c:Bool}(e:eqV h v u=d7 c)(q:KB (!c)):go (eW h .ne v u) KB:=eF (by show(eqV h v u).map _=_;rw[e];rfl) q
def NO{v:Val}{c:Bool}(e:eqV h v u=d7 c)(q:KB c):go (eW h .eq v u) KB:=eF e q
def Ez{l:Lab}(x:eP h b t d B)(k:∀g,eP g b t d (taken B l)->Ex [b] h g->Q .non g):wF P (n+1) "Bridge.take_label" [.ref b,l.v] h Q X:=by
 obtain⟨hi,ht,hd,š⟩:=id x;refine XM ?_
 exists Yz (IG h l B.label)
 fail;unfold taken at k;refine Os (λhc=>?_) λhc=>?_
 .rw[f8 hc]at k;refine' YB ej (show(8:Nat)<900 by decide) ?_;refine' k _ ⟨?_,?_,?_,š⟩ ?_
  .rw[eB,ej];rfl
  .rw[ei x.nbt.symm,ei x.nbt.symm];exact ht
  .rw[ei x.nbd.symm,ei x.nbd.symm];exact hd
  .exact(Ex.upd<|by simp).trans (Ex.upd<|by simp)
 .rw[fZ hc]at k;refine' k h x Ex.refl
def QH(h:Hs)(r:Option Pi)(s:Pi):eqV h (oV r) (pV s)=d7 (gg (r=d7 s)):=by
 obtain⟨s1,s2⟩:=s;cases r with
 |none =>show d7 (D.eqv .non<|.tup [.int s1,.int s2])=_;simp[D.eqv]
 |some p =>obtain⟨p1,p2⟩:=p;show d7 (D.eqv (.tup [.int p1,.int p2])<|.tup [.int s1,.int s2])=_;congr 1;simp only[D.eqv,D.eqvs,ϟ];by_cases h1:p1=s1<;>by_cases h2:p2=s2<;>simp[h1,h2]
abbrev Jq(B:Br)(p:Int):Bool:=match B.held.lookup p with
 |none=>ee
 |some q=>gg (q.1.rests=d7 (B.life,B.version))
def Mi{p:Int}(x:eP h b t d B)(k:Q (.bl<|Jq B p) h):wF P (n+2) "Bridge.is_rested_on" [.ref b,.int p] h Q X:=by
 obtain⟨hi,ht,hd,š⟩:=id x;refine Xf ?_
 exists MK x
 unfold Jq at k;fail;cases e:B.held.lookup p with
 |none =>rw[e]at k;refine Os (λhc=>gf rfl hc) λhc=>?_;exact k
 |some q =>
  rw[e]at k;obtain⟨l,a⟩:=q;refine Os (λhc=>?_) (λhc=>by simp[hdO]at hc);simp only[hdO]
  exists Xi x
  refine NO (QH h _ _) ?_;exact k
abbrev Ey(u:Option<|Int×Pi)(p:Int):Bool:=match u with
 |none=>ee
 |some q=>gg (p=q.1)
abbrev JT(B:Br):Int:=match B.label.up with
 |none=>0
 |some q=>((B.held.lookup q.1).map (·.2)).getD 0+1
abbrev ZG(B:Br)(p:Int):L where
 num:=(B.life,B.count)
 st:=(B.life,B.version)
 root:=B.label.root
 cost:=B.label.cost
 age:=JT B
 rests:=if Ey B.label.up p then B.label.up.map (·.2)else d8
 agrees:=if Ey B.label.up p then d8 else if Jq B p then d7 (F5 B.held p)else d8
def Hx(h:Hs)(p:Int)(u:Option<|Int×Pi):eqV h (.int p) (upV u)=d7 (Ey u p):=by
 cases u with
 |none=>rfl
 |some q =>show d7 (D.eqv (.int p)<|.int q.1)=_;rw[Uf];rfl
def EA{p:Int}(x:eP h b t d B)(hu:∀q,B.label.up=d7 q->(B.held.lookup q.1).isSome=d9)(k:Q (ZG B p).v h):wF P (n+3) "Bridge.letter_over" [.ref b,.int p] h Q X:=by
 obtain⟨hi,ht,hd,š⟩:=id x;refine Xr ?_;fail;have main:wSs (wF P<|n+2) #[.ite (.val<|.cmp .eq (.var 1)<|.var 4) #[.ret<|.bin .add (.var 7)<|.tup #[.var 5,.cst .non]] .nil,.ite (.val<|.meth "Bridge" "is_rested_on" (.var 0) #[.var 1]) #[.ret<|.bin .add (.var 7)<|.tup #[.cst .non,.idx (.idx (.idx (.fld (.var 0) "held_by_place")<|.var 1)<|.cst<|.int 0)<|.glob "STAMP"<|.int 1]] .nil,.ret<|.bin .add (.var 7)<|.tup #[.cst .non,.cst .non]]
   [d7<|.ref b,d7<|.int p,d7<|.int B.label.root,d7<|.int B.label.cost,d7<|upV B.label.up,d7<|rsV B.label.up,d7<|.int<|JT B,d7<|.tup [pV (B.life,B.count),pV (B.life,B.version),.int B.label.root,.int B.label.cost,.int<|JT B]] h (λ_ g=>Q .non g) Q (λ_ _=>False) (λ_ _=>False) λ_ c g=>X c g:=by
  exists NO (Hx h p B.label.up)
  refine' fJ (λhc=>?_) (λhc=>?_)
  .fail;unfold ZG at k;rw[hc]at k;cases e:B.label.up with
   |none=>rw[e]at hc;cases hc
   |some q=>rw[e]at k;exact k
  .exists Mi x
   fail;unfold ZG at k;rw[hc]at k;refine fJ (λhr=>?_) λhr=>?_
   .rw[hr]at k;unfold Jq at hr;cases e:B.held.lookup p with
    |none=>rw[e]at hr;cases hr
    |some q =>obtain⟨l,a⟩:=q;refine' Z2 hd rfl (by rw[Z9,e];rfl) ?_;fail;unfold F5 at k;rw[e]at k;exact k
   .rw[hr]at k;refine' k
 cases e:B.label.up with
 |none =>
  have ea:JT B=0:=by unfold JT;rw[e]
  rw[e,ea]at main;refine fI (λhc=>?_) λhc=>gf rfl hc
  exists Xi x
  walk_at "w"
  repeat (first|exact main|(walk_at "py1";walk_at "w"))
 |some q =>
  obtain⟨y,hy⟩:=õ.mp<|hu q e;have ea:JT B=y.2+1:=by unfold JT;rw[e];dsimp only;rw[hy];rfl
  rw[e,ea]at main;refine fI (λhc=>by cases hc) λhc=>?_;simp only[upV];refine' Z2 hd rfl (by rw[Z9,hy];rfl) ?_
  exists Xi x
  walk_at "w"
  repeat (first|exact main|(walk_at "py1";walk_at "w"))
def GQ{q:Int×Pi}(hq:(YN B).up=d7 q):(B.held.lookup q.1).isSome=d9:=by
 unfold YN at hq;split at hq
 .cases hq
 .rename_i m e;have hm:=NA e;unfold M1 at hm;obtain⟨y,hy,rfl⟩:=å.mp hm;cases hq;obtain⟨v,hv⟩:=ZQ (û (f:=(·.1)) hy);show(B.held.lookup y.1).isSome=d9;rw[hv];rfl
abbrev Br.grown(B:Br):Br:={B with held:=YK B.most B.held}
abbrev Br.told(B:Br):Br:=taken B.grown<|YN B.grown
abbrev Br.ticked(B:Br):Br:={B.told with count:=B.count+1}
abbrev ZZ(B:Br):List Val:=(sortI (B.ties.map (·.1))).map λp=>.tup [.int p,(ZG B p).v]
def Xa(B:Br)(l:Lab):(taken B l).held=B.held/\(taken B l).ties=B.ties/\(taken B l).count=B.count/\(taken B l).label=l/\(taken B l).number=B.number/\(taken B l).life=B.life/\(taken B l).most=B.most:=by
 unfold taken;split
 .rename_i e;exact⟨rfl,rfl,rfl,e.symm,rfl,rfl,rfl⟩
 .exact⟨rfl,rfl,rfl,rfl,rfl,rfl,rfl⟩
structure Br.ok(B:Br):Prop where
 nd:(B.held.map (·.1)).Nodup
 sub:∀q∈B.held,(B.ties.lookup q.1).isSome=d9
 nt:(B.ties.map (·.1)).Nodup
 rg:∀q∈B.ties,0<=q.1/\q.1<16
def Br.ok.tlen(o:B.ok):B.ties.length<=16:=by
 have:=Yg (m:=16) o.nt λx hx=>by obtain⟨q,hq,rfl⟩:=å.mp hx;exact o.rg q hq
 simpa using this
def Br.ok.hlen(o:B.ok):B.held.length<=16:=by
 have:=Yg (m:=16) o.nd λx hx=>by obtain⟨q,hq,rfl⟩:=å.mp hx;obtain⟨v,hv⟩:=õ.mp<|o.sub q hq;exact o.rg _<|ZC hv
 simpa using this
def Br.ok.grown(o:B.ok):B.grown.ok where
 nd:=o.nd.sublist<|JD _ _
 sub:=λq hq=>by obtain⟨a,ha⟩:=Au hq;exact o.sub (q.1,(q.2.1,a)) ha
 nt:=o.nt
 rg:=o.rg
def Br.ok.told(o:B.ok):B.told.ok:=by
 obtain⟨h1,h2,_⟩:=Xa B.grown<|YN B.grown;have g:=o.grown;refine⟨?_,?_,?_,?_⟩
 .show((taken B.grown<|YN B.grown).held.map (·.1)).Nodup;rw[h1];exact g.nd
 .show ∀q∈(taken B.grown<|YN B.grown).held,((taken B.grown<|YN B.grown).ties.lookup q.1).isSome=d9;rw[h1,h2];exact g.sub
 .show((taken B.grown<|YN B.grown).ties.map (·.1)).Nodup;rw[h2];exact g.nt
 .show ∀q∈(taken B.grown<|YN B.grown).ties,_;rw[h2];exact g.rg
def Br.ok.ticked(o:B.ok):B.ticked.ok:=⟨o.told.nd,o.told.sub,o.told.nt,o.told.rg⟩
def GD(x:eP h b t d B)(o:B.ok)(k:∀p d' g,h p=d8->h d'=d8->eP g b t d' B.ticked->g p=d7 (.lst<|ZZ B.told)->Ex [b] h g->p≠d'->Q (.ref p) g):wF P (n+4) "Bridge.tick" [.ref b] h Q X:=by
 obtain⟨hi,ht,hd,š⟩:=id x;have hlen:=o.hlen;refine Ko ?_;refine' EH x o.nd (by lia) λd' g hd' x1 e1=>?_;obtain⟨hi1,ht1,hd1,hne1⟩:=id x1;have og:=o.grown;have x1':eP g b t d' B.grown:=x1;refine' Bc x1' og.sub (by have:=og.hlen;lia) λg2 e2=>?_;have x2:=x1'.ext e2;refine' Ez x2 λg3 x3 e3=>?_;obtain⟨hi3,ht3,hd3,hne3⟩:=id x3;obtain⟨c1,c2,c3,c4,c5,c6,c7⟩:=Xa B.grown<|YN B.grown;have hties:B.told.ties=B.ties:=c2;refine' MN ht3 (Uo _) ?_ (YD λp1 bx=>?_)
 .rw[À];have:=o.tlen;show B.told.ties.length<64;rw[hties];lia
 refine' ⟨?_,?_⟩
 .rw[À,sortI,Υ,À];have:=o.tlen;show B.told.ties.length<lim;rw[hties];exact Ñ this (by decide)
 have x4:=x3.ext (Ext.new (o:=.lst ((sortI ((taken B.grown<|YN B.grown).ties.map (·.1))).map Val.int)) bx);have up:∀q,(taken B.grown<|YN B.grown).label.up=d7 q->((taken B.grown<|YN B.grown).held.lookup q.1).isSome=d9:=λq hq=>by rw[c4]at hq;rw[c1];exact GQ hq
 refine Yj (λv=>match v with|.int i=>d7 (.tup [.int i,(ZG B.told i).v])|_=>d8) (lsE ej) ?_ ?_
 .intro v hv K hK;obtain⟨i,hi,rfl⟩:=å.mp hv;obtain⟨hi4,ht4,hd4,hne4⟩:=id x4;fail;rw[fZ rfl];change wE _ _ [d7<|.int i,d7<|.ref b] _ _ _
  exists EA x4 up
  refine' hK
 .refine YD λp hp=>?_;have x5:=x4.ext<|Ext.new (o:=.lst<|ZZ B.told) hp;have e0:((sortI ((taken B.grown<|YN B.grown).ties.map (·.1))).map Val.int).filterMap (λv=>match v with|.int i=>d7 (.tup [.int i,(ZG B.told i).v])|_=>d8)=ZZ B.told:=by
   rw[θ];unfold ZZ;exact congrFun (List.filterMap_eq_map (f:=λi:Int=>Val.tup [.int i,(ZG B.told i).v])) _
  rw[e0];obtain⟨hi5,ht5,hd5,hne5⟩:=id x5;fail;have c3':(taken B.grown<|YN B.grown).count=B.count:=c3;rw[c3'];have eg:Ex [b] h (upd g3 p1 (.lst ((sortI ((taken B.grown<|YN B.grown).ties.map (·.1))).map Val.int))):=((e1.trans<|.of e2).trans e3).trans<|.of<|Ext.new bx;have hpn:h p=d8:=eg.none (by rw[x4.ins];intro z;cases z) hp;have npb:b≠p:=Zb x4.ins hp;refine k p d' _ hpn hd' ⟨ej,?_,?_,x5.ne⟩ ?_ ?_ (Zb x4.held hp).symm
  .rw[ei x5.nbt.symm];exact x5.ties
  .rw[ei x5.nbd.symm];exact x5.held
  .rw[ei npb.symm];exact ej
  .exact(eg.trans<|.of<|Ext.new hp).trans (Ex.upd<|by simp)
abbrev JA(S:Br)(p:Int)(l:L):Bool:=match S.held.lookup p with
 |none=>d9
 |some q=>fo [q.1.num.1,q.1.num.2] [l.num.1,l.num.2]
abbrev YE(S:Br)(p:Int)(l:L):Br:=if(S.ties.lookup p).isSome then(if JA S p l then {S with held:=ZA S.held p (l,l.age)} else S)else S
abbrev Bt(S:Br)(p:Int):Br:={S with ties:=Zx S.ties p,held:=Zx S.held p}
abbrev upB(S:Br)(p:Int)(c:Int×Int):Br:=if(S.ties.lookup p).isSome then S else {S with ties:=ZA S.ties p c}
variable {q:Int}
def DS{k:Int}{v:α}:(kvs.lookup q).isSome=d9->((ZA kvs k v).lookup q).isSome=d9:=λh=>by
 obtain⟨x,hx⟩:=õ.mp h;have hm:q∈kvs.map (·.1):=û (f:=(·.1))<|ZC hx;have:q∈(ZA kvs k v).map (·.1):=by
  rw[Kk];split
  .exact hm
  .exact Ù _ hm
 obtain⟨y,hy⟩:=ZQ this;rw[hy];rfl
def Br.ok.heard(o:S.ok){p:Int}{l:L}:(YE S p l).ok:=by
 unfold YE;split
 .rename_i h1;split
  .refine⟨WO o.nd _ _,λq hq=>?_,o.nt,o.rg⟩;rcases Jb hq with e|hq
   .rw[e];exact h1
   .exact o.sub q hq
  .exact o
 .exact o
def YL{k:Int}{q:Int×α}(h:q∈Zx kvs k):q∈kvs:=(NL kvs k).subset h
def Ba{k:Int}(h:(kvs.lookup q).isSome=d9)(n:q≠k):((Zx kvs k).lookup q).isSome=d9:=by
 obtain⟨x,hx⟩:=õ.mp h;have:q∈(Zx kvs k).map (·.1):=by refine å.mpr ⟨(q,x),?_,rfl⟩;unfold Zx;exact ġ.mpr ⟨ZC hx,by simpa using n⟩
 obtain⟨y,hy⟩:=ZQ this;rw[hy];rfl
def Br.ok.down(o:S.ok)(p:Int):(Bt S p).ok :=
 ⟨YY o.nd _,λq hq=>Ba (o.sub q<|YL hq)<|GG hq,YY o.nt _,λq hq=>o.rg q<|YL hq⟩
def Br.ok.up(o:S.ok){p:Int}{c:Int×Int}(h0:0<=p)(h1:p<16):(upB S p c).ok:=by
 unfold upB;split
 .exact o
 .refine⟨o.nd,λq hq=>DS<|o.sub q hq,WO o.nt _ _,λq hq=>?_⟩;rcases Jb hq with e|hq
  .rw[e];exact⟨h0,h1⟩
  .exact o.rg q hq
def FP{p:Int}{l:L}(x:eP h b t d B)(o:B.ok)(k:∀g,eP g b t d (YE B p l)->Ex [d] h g->Q .non g):wF P (n+2) "Bridge.hear" [.ref b,.int p,l.v] h Q X:=by
 obtain⟨hi,ht,hd,š⟩:=id x;have hlen:=o.hlen;refine KG ?_
 exists Yk ht rfl
 rw[Z8];fail;unfold YE at k;cases e:(B.ties.lookup p).isSome with
 |false =>rw[e]at k;refine fG rfl ?_;refine' k h x Ex.refl
 |true =>
  rw[e,fZ rfl]at k;refine fH rfl ?_
  exists MK x
  have put:(∀g,eP g b t d {B with held:=ZA B.held p (l,l.age)}->Ex [d] h g->Q .non g)->go (fw h (.ref d) (.int p)<|.tup [l.v,.int l.age]) λg=>Q .non g:=λk=>by refine Y6 hd ⟨rfl,by rw[Kz];exact Ñ hlen<|by decide⟩ ?_;rw[show Val.tup [l.v,.int l.age]=hdV (l,l.age) from rfl,Ye];exact k _ ⟨by rw[ei x.nbd];exact hi,by rw[ei š];exact ht,ej,š⟩ (Ex.upd<|by simp)
  fail;cases e2:B.held.lookup p with
  |none =>
   have et:JA B p l=d9:=by unfold JA;rw[e2]
   rw[et,fZ rfl]at k;refine fI (λhc=>?_) λhc=>gf rfl hc;refine fG rfl ?_;refine' UO (put k) λg q=>by fail;exact q
  |some q =>
   obtain⟨m,ag⟩:=q;have et:JA B p l=fo [m.num.1,m.num.2] [l.num.1,l.num.2]:=by unfold JA;rw[e2]
   rw[et]at k;refine fI (λhc=>by simp[hdO]at hc) λhc=>?_;simp only[hdO]
   exists Gy
   exists L5 (Wp [l.num.1,l.num.2]) (Wp [m.num.1,m.num.2])
   refine' fJ (λhc=>?_) (λhc=>?_)
   .rw[fZ hc]at k;refine' UO (put k) λg q=>by fail;exact q
   .rw[f8<|by rw[hc];decide]at k;refine' k h x Ex.refl
def Ga{p:Int}(x:eP h b t d B)(k:∀g,eP g b t d (Bt B p)->Ex [t,d] h g->Q .non g):wF P (n+1) "Bridge.down" [.ref b,.int p] h Q X:=by
 obtain⟨hi,ht,hd,š⟩:=id x;refine Ku ?_
 exists UT ht rfl
 dsimp only;rw[Wz];have hi2:upd h t (.dct<|Zn Bl<|Zx B.ties p) b=_:=upd_ne' x.nbt hi;have aM:upd h t (.dct<|Zn Bl<|Zx B.ties p) d=_:=upd_ne' š.symm hd
 exists UT aM rfl
 dsimp only;rw[Wz];refine' k _ ⟨by rw[ei x.nbd];exact hi2,by rw[ei š];exact ej,ej,š⟩ ((Ex.upd<|by simp).trans<|Ex.upd<|by simp)
def Q2{p nb:Int}(x:eP h b t d B)(o:B.ok)(k:∀g,eP g b t d (upB B p (nb,c))->Ex [t] h g->Q .non g):wF P (n+1) "Bridge.up" [.ref b,.int p,.int nb,.int c] h Q X:=by
 obtain⟨hi,ht,hd,š⟩:=id x;have hlen:=o.tlen;refine NR ?_
 exists Yk ht rfl
 rw[Z8];fail;unfold upB at k;cases e:(B.ties.lookup p).isSome with
 |true =>rw[e,fZ rfl]at k;refine fH rfl ?_;refine' k h x Ex.refl
 |false =>rw[e,f8<|by decide]at k;refine fG rfl ?_;refine' Y6 ht ⟨rfl,by rw[Kz];exact Ñ hlen<|by decide⟩ ?_;rw[show Val.tup [.int nb,.int c]=Bl (nb,c) from rfl,Ye];refine' k _ ⟨by rw[ei x.nbt];exact hi,ej,by rw[ei š.symm];exact hd,š⟩ (Ex.upd<|by simp)
def RQ(h:Hs)(s:Pi)(u:Option<|Int×Pi):eqV h (pV s) (rsV u)=d7 (gg (u.map (·.2)=d7 s)):=by
 obtain⟨s1,s2⟩:=s;cases u with
 |none =>show d7 (D.eqv (.tup [.int s1,.int s2]) .non)=_;simp[D.eqv]
 |some p =>
  obtain⟨p0,p1,p2⟩:=p;show d7 (D.eqv (.tup [.int s1,.int s2])<|.tup [.int p1,.int p2])=_;congr 1;simp only[D.eqv,D.eqvs,ϟ,Ĺ];by_cases h1:s1=p1
  .subst h1;by_cases h2:s2=p2
   .subst h2;simp
   .have h3:¬ p2=s2:=λz=>h2 z.symm;simp[h2,h3]
  .have h3:¬ p1=s1:=λz=>h1 z.symm;simp[h1,h3]
abbrev N8(B:Br)(p:Int):Bool:=match B.held.lookup p with
 |none=>ee
 |some q=>if q.1.agrees=d7 (B.life,B.version)then gg (B.label.up.map (·.2)=d7 q.1.st)else ee
def Bj{p:Int}(x:eP h b t d B)(k:Q (.bl<|N8 B p) h):wF P (n+2) "Bridge.is_agreed_to" [.ref b,.int p] h Q X:=by
 obtain⟨hi,ht,hd,š⟩:=id x;refine Xh ?_
 exists MK x
 unfold N8 at k;fail;cases e:B.held.lookup p with
 |none =>rw[e]at k;refine fI (λhc=>?_) λhc=>gf rfl hc;refine fG rfl ?_;refine' k
 |some q =>
  rw[e]at k;obtain⟨l,a⟩:=q;refine fI (λhc=>by simp[hdO]at hc) λhc=>?_;simp only[hdO]
  exists Xi x
  refine Yz (QH h _ _) ?_;refine' Os (λhc=>?_) (λhc=>?_)
  .fail;rw[show(match d7 (l,a)with|none=>ee|some q=>if q.1.agrees=d7 (B.life,B.version)then gg (B.label.up.map (·.2)=d7 q.1.st)else ee)=ee from f8 hc]at k;exact k
  .fail;rw[show(match d7 (l,a)with|none=>ee|some q=>if q.1.agrees=d7 (B.life,B.version)then gg (B.label.up.map (·.2)=d7 q.1.st)else ee)=gg (B.label.up.map (·.2)=d7 l.st) from fZ hc]at k;refine NO (RQ h _ _) ?_;exact k
abbrev CT(B:Br)(p:Int):String:=if(B.ties.lookup p).isSome then(if Ey B.label.up p then(if N8 B p then "child" else "shut")else if Jq B p then "parent" else "shut")else "down"
def LB{p:Int}(x:eP h b t d B)(k:Q (.str<|CT B p) h):wF P (n+3) "Bridge.end" [.ref b,.int p] h Q X:=by
 obtain⟨hi,ht,hd,š⟩:=id x;refine MS ?_
 exists Yk ht rfl
 rw[Z8];fail;unfold CT at k;cases e:(B.ties.lookup p).isSome with
 |false =>rw[e]at k;refine fG rfl ?_;refine' k
 |true =>
  rw[e,fZ rfl]at k;refine fH rfl ?_
  exists NO (Hx h p B.label.up)
  refine' fJ (λhc=>?_) (λhc=>?_)
  .rw[hc,fZ rfl]at k
   exists Bj x
   refine' fJ (λhc=>?_) (λhc=>?_)
   .rw[hc]at k;refine' k
   .rw[hc]at k;refine' k
  .rw[hc,f8<|by decide]at k
   exists Mi x
   refine' fJ (λhc=>?_) (λhc=>?_)
   .rw[hc]at k;refine' k
   .rw[hc]at k;refine' k
def Zc(q:∀p g,h p=d8->Ext h g->g p=d7 o->Q (.ref p) g):new h o Q:=YD λp hp=>q p _ hp (Ext.new hp) ej
variable {r:Int}
def Xk(r0:0<=r)(e:xs[r.toNat]?=d7 x):atI xs r=d7 x:=by have:=(Ï.mp e).1;unfold atI ixN;rw[fZ r0,fZ<|by lia];exact e
def BZ(r0:0<=r)(r1:r<xs.length):∃x,xs[r.toNat]?=d7 x/\x∈xs:=by
 have h:r.toNat<xs.length:=by lia
 exact⟨xs[r.toNat],Ê h,İ h⟩
def Mr(r0:0<=r)(r1:r<xs.length):∃x,atI xs r=d7 x/\x∈xs:=by obtain⟨x,h1,h2⟩:=BZ r0 r1;exact⟨x,Xk r0 h1,h2⟩
def Xj:∀ns:List Int,eL (ns.map .int)=d7 ns
 |[]=>rfl
 |n::ns=>by rw[Î,eL,Xj ns];rfl
def Yo:∀bs:List Bool,blsOf (bs.map .bl)=d7 bs
 |[]=>rfl
 |b::bs=>by rw[Î,blsOf,Yo bs];rfl
def mem_dedup{x:Int}:∀{ns:List Int},x∈dedup ns↔x∈ns
 |[]=>by simp[dedup]
 |n::ns=>by rw[dedup,Æ,ġ,mem_dedup,Æ];by_cases h:x=n<;>simp[h]
def M8:∀(ns:List Int),(dedup ns).length<=ns.length
 |[]=>by simp[dedup]
 |n::ns=>by have:=M8 ns;have:=Ŏ (λy=>y != n)<|dedup ns;rw[dedup,Ç,Ç];lia
variable {m:Int}
def YT{v:Val}(h:(fj 0 m)[i]?=d7 v):v=.int i/\(i:Int)<m:=by unfold fj at h;rw[Õ]at h;obtain⟨k,hk,rfl⟩:=Ð.mp h;obtain⟨Ϙ,rfl⟩:=Ï.mp hk;rw[ŧ]at Ϙ;rw[du];exact⟨by rw[Int.zero_add],by lia⟩
def Yv:(fj 0 m).length=m.toNat:=by unfold fj;rw[À,ŧ,Int.sub_zero]
abbrev Brs(ns:List Int):Prop:=∀i∈ns,0<=i/\i<1000
noncomputable abbrev Tie:=Int×Int×Int
abbrev trV(t:Tie):Val:=.tup [.int t.1,.int t.2.1,.int t.2.2]
abbrev LOk(ns:List Int)(t:Tie):Prop:=t.1∈ns/\t.2.1∈ns/\t.1<t.2.1/\1<=t.2.2/\t.2.2<=1000
structure eY(bs:List Int)(ts:List Tie):Prop where
 one:1<=bs.length
 ten:bs.length<=10
 rng:Brs bs
 up:bs.Pairwise (· < ·)
 sixteen:ts.length<=16
 tie:∀t∈ts,LOk bs t
abbrev ZY(bs:List Int)(ts:List Tie):Val:=.tup [.tup<|bs.map .int,.tup<|ts.map trV]
variable {ns:List Int}
def mem_sort{i:Int}:i∈sortI ns↔i∈ns:=(Ń ns _).mem_iff
def Gq(nd:ns.Nodup):(sortI ns).Pairwise (· < ·):=by have p:=Ń ns λa b=>gg (a<=b);have s:(sortI ns).Pairwise λa b=>gg (a<=b)=d9:=bB (λa b c h1 h2=>by simp at *;lia) (λa b=>by simp;lia) ns;have d:(sortI ns).Nodup:=p.nodup_iff.mpr nd;exact(s.and d).imp λ⟨h1,h2⟩=>by simp at h1;lia
def Ln{a b:Int}(h0:0<=a)(h1:a<=b):cut xs (d7 a) (d7 b)=(xs.drop a.toNat).take (b.toNat - a.toNat):=by
 unfold cut fm;dsimp only;rw[fZ h0,fZ<|by lia];by_cases h:a.toNat<=xs.length
 .rw[Š h];by_cases h2:b.toNat<=xs.length
  .rw[Š h2]
  .rw[Nat.min_eq_right<|by lia];rw[į (by rw[Ř];lia),į<|by rw[Ř];lia]
 .rw[ŉ (by lia:xs.length<=min a.toNat xs.length),ŉ (by lia:xs.length<=a.toNat)];simp
def Jx{h:Hs}{d:Nat}:∀ns:List Int,(ns.map Val.int).mapM (dat h d)=d7 (ns.map D.int)
 |[]=>rfl
 |n::ns=>by rw[Î,ύ,Jx ns,Î];cases d<;>rfl
def Ua{i:Int}:∀ns:List Int,((ns.map D.int).any λe=>D.eqv e<|.int i)=gg (i∈ns)
 |[]=>by simp
 |n::ns=>by
  rw[Î,Ĩ,Ua ns,Uf];by_cases h:n=i
  .simp[h]
  .simp[h,Ne.symm h]
def Jk{i:Int}:inL h (.int i) (ns.map .int)=d7 (gg (i∈ns)):=by unfold inL;rw[Jx];exact congrArg d7 (Ua ns)
def Uq(x:Ext h g)(e:h p=d8):Ext h<|upd g p o:=⟨λ{a u} z=>by rw[ei<|Zb z e];exact x.get z⟩
abbrev far(t:Tie)(b:Int):Int:=if t.1=b then t.2.1 else t.1
abbrev fS(b:Int):Nat->List Tie->List Tie
 |_,[]=>[]
 |k,t::r=>if b=t.1\/b=t.2.1 then((k:Int),far t b,t.2.2)::fS b (k+1) r else fS b (k+1) r
def ND{b:Int}{t:Tie}:∀{l:List Tie}{k:Nat},fS b k (l++[t])=fS b k l++(if b=t.1\/b=t.2.1 then [(((k+l.length:Nat):Int),far t b,t.2.2)]else [])
 |[],k=>by show fS b k [t]=_;unfold fS;split<;>rfl
 |u::l,k=>by
  rw[ac,fS,fS,ND,Ç,show k+1+l.length=k+(l.length+1) by lia];by_cases h:b=u.1\/b=u.2.1
  .rw[fZ h,fZ h,ac]
  .rw[f8 h,f8 h]
def UA:∀{xs:List Val}{k i:Nat}{v:Val},(enumL k xs)[i]?=d7 v->∃x,xs[i]?=d7 x/\v=.tup [.int ((k+i:Nat):Int),x]
 |[],_,_,_,e=>by simp[enumL]at e
 |x::xs,k,0,v,e=>by have e:d7 (Val.tup [.int k,x])=d7 v:=e;cases e;exact⟨x,rfl,rfl⟩
 |x::xs,k,i+1,v,e=>by obtain⟨y,h1,h2⟩:=UA (xs:=xs) (k:=k+1) (i:=i) (v:=v) (by simpa[enumL]using e);exact⟨y,by simpa using h1,by rw[h2,show k+1+i=k+(i+1) by lia]⟩
def M9:∀(xs:List Val) (k:Nat),(enumL k xs).length=xs.length
 |[],_=>rfl
 |_::xs,k=>by simp[enumL,M9 xs<|k+1]
def OD{i:Int}(q:KB<|gg (i∈ns)):go (eW h .isin (.int i)<|.tup<|ns.map .int) KB:=eF (by show inV h (.int i) (.tup _)=_;unfold inV;exact Jk) q
def Dx{i:Int}(q:KB (!gg (i∈ns))):go (eW h .notin (.int i)<|.tup<|ns.map .int) KB:=eF (by show(inV h (.int i)<|.tup _).map _=_;unfold inV;simp only[Jk];rfl) q
section
variable {bs:List Int}{ts:List Tie}
def DJ{t:Tie}{b:Int}(k:Q (.int<|far t b) h):wF P (n+1) "far_end" [trV t,.int b] h Q X:=by
 obtain⟨x,y,c⟩:=t;unfold trV;unfold far at k;dsimp only at k ⊢;refine Bp ?_;fail;by_cases e:x=b
 .refine fG (gb e) ?_;rw[fZ e]at k;refine' k
 .refine fH (f9 e) ?_;rw[f8 e]at k;refine' k
def XR{b:Int}(l:ts.length<=16)(k:∀p g,h p=d8->Ext h g->g p=d7 (.lst<|(fS b 0 ts).map trV)->Q (.ref p) g):wF P (n+2) "neighbours" [ZY bs ts,.int b] h Q X:=by
 unfold ZY;refine M3 ?_;refine' Zc λp g0 hp x0 e0=>?_
 exists eF rfl
 have nl:∀l:List Tie,∀k,(fS b k l).length<=l.length:=by
  intro l;induction l with
  |nil=>intro k;exact Í _
  |cons t l ih =>intro k;have:=ih<|k+1;unfold fS;split<;>simp only[Ç]<;>lia
 refine Zo (λi en g=>Sm2 λv3 v4=>Cj3 (en=[d7<|.tup [.tup<|bs.map .int,.tup<|ts.map trV],d7<|.int b,d7<|.ref p,v3,v4]) (Ext h g)<|g p=d7 (.lst<|(fS b 0<|ts.take i).map trV)) ⟨_,_,rfl,x0,e0⟩ (λ_ _ _ _ _=>trivial) ?_ ?_
 .rintro i v en g hv ⟨v3,v4,rfl,x,ep⟩ K hK;obtain⟨y,hy,rfl⟩:=UA hv;rw[Õ]at hy;obtain⟨t,ht,rfl⟩:=Ð.mp hy;have hi:i<ts.length:=(Ï.mp ht).1;have hn:fS b 0 (ts.take<|i+1)=fS b 0 (ts.take i)++(if b=t.1\/b=t.2.1 then [((i:Int),far t b,t.2.2)]else []):=by
   rw[ő,ht];have:=ND (b:=b) (t:=t) (l:=ts.take i) (k:=0);rw[ÿ,Š (by lia),ϵ]at this;exact this
  rw[ϵ];have et:trV t=.tup [.int t.1,.int t.2.1,.int t.2.2]:=rfl;fail;rw[et];refine fE (by simp[fm]) ?_;refine OD (ns:=[t.1,t.2.1]) ?_;refine' fI (λhc=>?_) (λhc=>?_)
  .exists DJ (t:=t)
   fail;have hl:=nl (ts.take i) 0;rw[ÿ]at hl;refine Zz ep (by rw[À,lim];lia) ?_;refine' hK _ _ ⟨_,_,rfl,?_,?_⟩
   .exact Uq x hp
   .have hc:b=t.1\/b=t.2.1:=by simpa using hc
    rw[hn,fZ hc,Ó];exact ej
  .refine' hK _ _ ⟨_,_,rfl,x,?_⟩;have hc:¬ (b=t.1\/b=t.2.1):=by simpa using hc
   rw[hn,f8 hc,ð];exact ep
 .rintro en g ⟨v3,v4,rfl,x,ep⟩;rw[M9,À,ô]at ep;refine' k p g hp x ep
end
abbrev WW(rs:List Tie):List<|Int×(Int×Int):=rs.map λr=>(r.1,r.2)
def UE(rs:List Tie):(WW rs).map (·.1)=rs.map (·.1):=by unfold WW;rw[ú];rfl
abbrev Z6(own life most:Int)(rs:List Tie):Br:=⟨own,life,most,WW rs,[],⟨own,0,d8⟩,0,0⟩
variable {own:Int} {life:Int}
def UJ{rs:List Tie}(hb:h b=d7 (.ins "Bridge" []))(hl:h l=d7 (.lst<|rs.map trV))(nd:(rs.map (·.1)).Nodup)(h16:rs.length<=16)
  (k:∀t d g,h t=d8->h d=d8->eP g b t d (Z6 own life most rs)->Ex [b] h g->Q .non g):wF P (n+1) "Bridge.__init__" [.ref b,.int own,.int life,.ref l,.int most] h Q X:=by
 have nlb:b≠l:=CM hb hl nofun;refine Kr ?_;refine' YB ej (show(1:Nat)<900 by decide) ?_;refine' YB ej (show(2:Nat)<900 by decide) ?_;fail;intro t ht;rw[eB,eB]at ht ⊢;have ntb:b≠t:=Zb ej ht;have nht:h t=d8:=by rw[ei ntb.symm]at ht;exact ht
 have ntl:l≠t:=Zb hl nht;refine' YB (upd_ne' ntb ej) (show(3:Nat)<900 by decide) ?_;fail;have hl1:∀{o1 o2 o3:Ob},upd (upd (upd h b o1) t o2) b o3 l=d7 (.lst<|rs.map trV):=λ{_ _ _}=>by rw[ei nlb.symm,ei ntl,ei nlb.symm];exact hl
 refine Zo (λi e g=>Sm3 λu v w=>Cj4 (e=[d7<|.ref b,d7<|.int own,d7<|.int life,d7<|.ref l,d7<|.int most,u,v,w]) (g b=d7 (.ins "Bridge" [("number",.int own),("life",.int life),("age_let_go",.int most),("ties_by_place",.ref t)])) (g t=d7 (.dct<|Zn Bl<|WW<|rs.take i))<|Ex [b] h g) ⟨d8,d8,d8,rfl,ej,by rw[ei ntb.symm];exact ej,?_⟩ ?_ ?_ ?_
 .refine⟨λ{a o} na e=>?_⟩;have nab:a≠b:=by simpa using na
  rw[ei nab,ei<|Zb e nht,ei nab];exact e
 .rintro i e g _ ⟨u,v,w,rfl,h1,h2,h3⟩;exact lsE (h3.get (by simpa using nlb.symm) hl)
 .rintro i v e g hv ⟨u,v,w,rfl,h1,h2,h3⟩ K hK;obtain⟨r,hp,rfl⟩:=ZH hv;have nk:=YO nd hp;obtain⟨p,nb,c⟩:=r;unfold trV;refine' Y6 (k:=.int p) h2 ⟨rfl,?_⟩ ?_
  .rw[Kz];unfold WW;rw[À];exact Ñ (ß (ώ _ _) h16) (by decide)
  rw[show Val.tup [.int nb,.int c]=Bl (nb,c) from rfl,Ye];refine' hK _ _ ⟨_,_,_,rfl,by rw[ei ntb];exact h1,?_,?_⟩
  .rw[ej,Wj,Zf hp]
   .unfold WW;rw[Ó];rfl
   .rw[UE];exact nk
  .exact⟨λna e=>by rw[ei<|Zb e nht];exact h3.get na e⟩
 .rintro e g ⟨u,v,w,rfl,h1,h2,h3⟩;rw[À,ô]at h2;fail;intro d hd;have ndb:b≠d:=Zb h1 hd;have ndt:t≠d:=Zb h2 hd;have nhd:h d=d8:=h3.none (by rw[h1];intro z;cases z) hd;refine' YB ej (show(5:Nat)<900 by decide) ?_;refine' YB ej (show(6:Nat)<900 by decide) ?_;refine' YB ej (show(7:Nat)<900 by decide) ?_;fail;rw[eB,eB,eB];refine k t d _ nht nhd ⟨ej,?_,?_,ndt⟩ ?_
  .rw[ei ntb.symm,ei ndt];exact h2
  .rw[ei ndb.symm];exact ej
  .exact(h3.trans<|.of<|Ext.new hd).trans (Ex.upd<|by simp)
def JW{b:Int}:∀{l:List Tie}{k:Nat},((fS b k l).map (·.1)).Pairwise (· < ·)/\∀r∈fS b k l,(k:Int)<=r.1/\r.1<(k+l.length:Nat)
 |[],k=>⟨by simp[fS],λr hr=>gf hr<|by simp[fS]⟩
 |t::l,k=>by
  obtain⟨h1,h2⟩:=JW (b:=b) (l:=l) (k:=k+1);unfold fS;split
  .refine⟨?_,λr hr=>?_⟩
   .rw[Î,List.pairwise_cons];refine⟨λx hx=>?_,h1⟩;obtain⟨r,hr,rfl⟩:=å.mp hx;have:=(h2 r hr).1;show(k:Int)<r.1;lia
   .rcases Æ.mp hr with rfl|hr
    .exact⟨Int.le_refl _,by show(k:Int)<((k+(t::l).length:Nat):Int);rw[Ç];lia⟩
    .have:=h2 r hr;rw[Ç];lia
  .refine⟨h1,λr hr=>?_⟩;have:=h2 r hr;rw[Ç];lia
def Uy{b:Int}:∀{l:List Tie}{k:Nat},(fS b k l).length<=l.length
 |[],k=>Í _
 |t::l,k=>by have:=Uy (b:=b) (l:=l) (k:=k+1);unfold fS;split<;>simp only[Ç]<;>lia
structure En where
 num:Int
 b:Ad
 t:Ad
 d:Ad
 B:Br
structure Yd where
 y:Ad
 lv:Ad
 st:Ad
 fl:Ad
 rd:Ad
 bs:List Int
 ts:List Tie
 most:Int
 lives:List<|Int×Int
 es:List En
 fallen:List<|Int×Bool
 road:List<|Int×Int×Int×L
abbrev enA(es:List En):List Ad:=es.flatMap λe=>[e.b,e.t,e.d]
abbrev Yd.adr(Y:Yd):List Ad:=[Y.y,Y.lv,Y.st,Y.fl,Y.rd]++enA Y.es
noncomputable abbrev rfV(a:Ad):Val:=.ref a
noncomputable abbrev rdV(r:Int×Int×Int×L):Val:=.tup [.int r.1,.int r.2.1,.int r.2.2.1,r.2.2.2.v]
abbrev stands(es:List En):List<|Int×Ad:=es.map λe=>(e.num,e.b)
def ZL(es:List En):(stands es).map (·.1)=es.map (·.num):=by unfold stands;rw[ú];rfl
structure eQ(h:Hs)(Y:Yd):Prop where
 ins:h Y.y=d7 (.ins "Yard" [("net_made_of",ZY Y.bs Y.ts),("greatest_age",.int Y.most),("lives",.ref Y.lv),("standing",.ref Y.st),("ties_fallen",.ref Y.fl),("letters_on_road",.ref Y.rd)])
 lives:h Y.lv=d7 (.dct<|Zn Val.int Y.lives)
 stand:h Y.st=d7 (.dct<|Zn rfV<|stands Y.es)
 fallen:h Y.fl=d7 (.dct<|Zn Val.bl Y.fallen)
 road:h Y.rd=d7 (.lst<|Y.road.map rdV)
 brs:∀e∈Y.es,eP h e.b e.t e.d e.B
 nd:Y.adr.Nodup
 key:(Y.es.map (·.num)).Nodup
variable {es:List En} {e:En}
def WM(h:e∈es):e.b∈enA es/\e.t∈enA es/\e.d∈enA es:=by refine⟨?_,?_,?_⟩<;>exact ř.mpr ⟨e,h,by simp⟩
def Wa(es:List En)(e:En):enA (es++[e])=enA es++[e.b,e.t,e.d]:=by unfold enA;rw[cV];simp
variable {Y:Yd}
def eQ.keep{S:List Ad}(x:eQ h Y)(e:Ex S h g)(ds:∀a∈Y.adr,a∉S):eQ g Y:=by have m:∀a∈[Y.y,Y.lv,Y.st,Y.fl,Y.rd],a∉S:=λa ha=>ds a<|Ù _ ha;refine⟨e.get (m _<|by simp) x.ins,e.get (m _<|by simp) x.lives,e.get (m _<|by simp) x.stand,e.get (m _<|by simp) x.fallen,e.get (m _<|by simp) x.road,λb hb=>?_,x.nd,x.key⟩;obtain⟨q1,q2,q3⟩:=WM hb;exact(x.brs b hb).keep e (ds _<|É _ q1) (ds _<|É _ q2) (ds _<|É _ q3)
def eQ.ext(x:eQ h Y)(e:Ext h g):eQ g Y:=x.keep (S:=[]) (.of e) λ_ _=>by simp
def eQ.taken(x:eQ h Y)(ha:a∈Y.adr):h a≠d8:=by
 rcases â.mp ha with ha|ha
 .simp only[Æ,Þ,or_false]at ha;rcases ha with rfl|rfl|rfl|rfl|rfl
  .rw[x.ins];simp
  .rw[x.lives];simp
  .rw[x.stand];simp
  .rw[x.fallen];simp
  .rw[x.road];simp
 .obtain⟨e,he,ha⟩:=ř.mp ha;have:=x.brs e he;simp only[Æ,Þ,or_false]at ha;rcases ha with rfl|rfl|rfl
  .rw[this.ins];simp
  .rw[this.ties];simp
  .rw[this.held];simp
def Yd.sep(nd:Y.adr.Nodup)(ha:a∈[Y.y,Y.lv,Y.st,Y.fl,Y.rd])(hb:b∈enA Y.es):b≠a:=λz=>(é.mp nd).2.2 a ha b hb z.symm
def Yd.five(nd:Y.adr.Nodup):(Y.y≠Y.lv/\Y.y≠Y.st/\Y.y≠Y.fl/\Y.y≠Y.rd)/\(Y.lv≠Y.st/\Y.lv≠Y.fl/\Y.lv≠Y.rd)/\(Y.st≠Y.fl/\Y.st≠Y.rd)/\Y.fl≠Y.rd:=by have:=(é.mp nd).1;simp only[ĉ,Æ,Þ,or_false,not_or,not_false_eq_true,Ī,and_true]at this;obtain⟨⟨a1,a2,a3,a4⟩,⟨b1,b2,b3⟩,⟨c1,c2⟩,d1⟩:=this;exact⟨⟨a1,a2,a3,a4⟩,⟨b1,b2,b3⟩,⟨c1,c2⟩,d1⟩
def eP.off(x:eP h e.b e.t e.d e.B)(he:e∈es)(n:∀b∈enA es,b≠a):eP (upd h a o) e.b e.t e.d e.B:=by obtain⟨q1,q2,q3⟩:=WM he;exact⟨(ei<|n _ q1).trans x.ins,(ei<|n _ q2).trans x.ties,(ei<|n _ q3).trans x.held,x.ne⟩
def eQ.setLives(x:eQ h Y)(l:List<|Int×Int):eQ (upd h Y.lv<|.dct<|Zn Val.int l) {Y with lives:=l}:=by obtain⟨⟨a1,a2,a3,a4⟩,⟨b1,b2,b3⟩,_,_⟩:=Yd.five x.nd;exact⟨(ei a1).trans x.ins,ej,(ei b1.symm).trans x.stand,(ei b2.symm).trans x.fallen,(ei b3.symm).trans x.road,λe he=>(x.brs e he).off he λb hb=>Yd.sep x.nd (by simp) hb,x.nd,x.key⟩
def eQ.setRoad(x:eQ h Y)(l:List<|Int×Int×Int×L):eQ (upd h Y.rd<|.lst<|l.map rdV) {Y with road:=l}:=by obtain⟨⟨a1,a2,a3,a4⟩,⟨b1,b2,b3⟩,⟨c1,c2⟩,d1⟩:=Yd.five x.nd;exact⟨(ei a4).trans x.ins,(ei b3).trans x.lives,(ei c2).trans x.stand,(ei d1).trans x.fallen,ej,λe he=>(x.brs e he).off he λb hb=>Yd.sep x.nd (by simp) hb,x.nd,x.key⟩
def eQ.stands(x:eQ h Y)(hb:eP h e.b e.t e.d e.B)(hn:e.num∉Y.es.map (·.num))(fr:∀a∈[e.b,e.t,e.d],a∉Y.adr):eQ (upd h Y.st<|.dct<|Zn rfV<|stands<|Y.es++[e]) {Y with es:=Y.es++[e]}:=by
 obtain⟨⟨a1,a2,a3,a4⟩,⟨b1,b2,b3⟩,⟨c1,c2⟩,d1⟩:=Yd.five x.nd;have ņ:Y.st∈Y.adr:=Ù _ (by simp);have nb:∀a∈enA (Y.es++[e]),a≠Y.st:=λa ha=>by
  rw[Wa]at ha;rcases â.mp ha with ha|ha
  .exact Yd.sep x.nd (by simp) ha
  .exact λz=>fr a ha<|z▸ņ
 refine⟨(ei a2).trans x.ins,(ei b1).trans x.lives,ej,(ei c1.symm).trans x.fallen,(ei c2.symm).trans x.road,λq hq=>?_,?_,?_⟩
 .refine eP.off ?_ hq nb;rcases â.mp hq with hq|hq
  .exact x.brs q hq
  .rw[Ý.mp hq];exact hb
 .show([Y.y,Y.lv,Y.st,Y.fl,Y.rd]++enA (Y.es++[e])).Nodup;rw[Wa,<-Ď,é];refine⟨x.nd,?_,λa ha b hb z=>fr b hb<|z▸ha⟩;simp[hb.nbt,hb.nbd,hb.ne]
 .show((Y.es++[e]).map (·.num)).Nodup;rw[Ó,é];refine⟨x.key,by simp,λa ha b hb=>?_⟩;have:b=e.num:=by simpa using hb
  rw[this];exact λz=>hn<|z▸ha
def W8{h0:Hs}{fs:List (String×Val)}{f:String}{K:Hs->Prop}(i:g p=d7 (.ins "Yard" fs))(x:Ex [p] h0 g)(hp:h0 p=d8)(ha:g a=d8)(m:fs.length<900)(q:∀g',g' p=d7 (.ins "Yard"<|eV fs f<|.ref a)->g' a=d7 o->Ex [p] h0 g'->Ex [p] g g'->p≠a->h0 a=d8->K g'):go (fy (upd g a o) (.ref p) f<|.ref a) K:=by
 have n:=Zb i ha;have y:Ex [p] g<|upd (upd g a o) p<|.ins "Yard"<|eV fs f<|.ref a:=⟨λ{b u} nb e=>by rw[ei λz=>nb<|by simp[z],ei<|Zb e ha];exact e⟩
 refine YB (upd_ne' n i) m<|q _ ej ((ei n.symm).trans ej) (x.trans y) y n ?_;cases z:h0 a with
 |none=>rfl
 |some u=>rw[x.get (by simpa using n.symm) z]at ha;cases ha
structure YNew(bs:List Int)(ts:List Tie)(most:Int)(Y:Yd):Prop where
 hb:Y.bs=bs
 ht:Y.ts=ts
 hm:Y.most=most
 num:Y.es.map (·.num)=bs
 br:∀e∈Y.es,e.B=Z6 e.num 0 most (fS e.num 0 ts)
 fallen:Y.fallen=[]
 road:Y.road=[]
 lives:Y.lives=bs.map λb=>(b,0)
section
variable {bs:List Int}{ts:List Tie}
def Df(no:eY bs ts)(hp:h p=d8)(k:∀Y g,Y.y=p->eQ g Y->YNew bs ts most Y->(∀a∈Y.adr,h a=d8)->Ext h g->Q .non g):wF P (n+3) "Yard.__init__" [.ref p,ZY bs ts,.int most] (upd h p<|.ins "Yard" []) Q X:=by
 have h10:=no.ten;have h16:=no.sixteen;have hbl:(bs.map Val.int).length=bs.length:=À _;have ndb:bs.Nodup:=no.up.imp λh=>by lia
 refine Nr ?_;refine' YB ej (show(1:Nat)<900 by decide) ?_;rw[eB,eB];have i1:=ej (h:=h) (a:=p) (o:=Ob.ins "Yard"<|eV (eV [] "net_made_of"<|ZY bs ts) "greatest_age"<|.int most);have x1:Ex [p] h<|upd h p<|Ob.ins "Yard"<|eV (eV [] "net_made_of"<|ZY bs ts) "greatest_age"<|.int most:=Ex.upd (by simp);generalize upd h p (Ob.ins "Yard"<|eV (eV [] "net_made_of"<|ZY bs ts) "greatest_age"<|.int most)=g1 at i1 x1 ⊢;fail;intro lv hlv;refine' W8 i1 x1 hp hlv (show(2:Nat)<900 by decide) λg2 i2 lv2 x2 y2 nlv flv=>?_;fail;intro st ņ;refine' W8 i2 x2 hp ņ (show(3:Nat)<900 by decide) λg3 i3 st3 x3 y3 nst fst=>?_;fail;intro fl hfl;refine' W8 i3 x3 hp hfl (show(4:Nat)<900 by decide) λg4 i4 fl4 x4 y4 nfl ffl=>?_;refine' YD λrd hrd=>?_;refine' W8 i4 x4 hp hrd (show(5:Nat)<900 by decide) λg5 i5 rd5 x5 y5 nrd frd=>?_;have q1:lv≠st:=Zb lv2 ņ;have lv3:=y3.get (by simpa using nlv.symm) lv2;have q2:lv≠fl:=Zb lv3 hfl;have q3:st≠fl:=Zb st3 hfl;have lv4:=y4.get (by simpa using nlv.symm) lv3;have st4:=y4.get (by simpa using nst.symm) st3;have q4:lv≠rd:=Zb lv4 hrd;have q5:st≠rd:=Zb st4 hrd;have q6:fl≠rd:=Zb fl4 hrd;have lv5:=y5.get (by simpa using nlv.symm) lv4;have st5:=y5.get (by simpa using nst.symm) st4;have fl5:=y5.get (by simpa using nfl.symm) fl4;have xe:Ext h g5:=⟨λ{a o} e=>x5.get (by simpa using Zb e hp) e⟩
 have Y0:eQ g5 ⟨p,lv,st,fl,rd,bs,ts,most,[],[],[],[]⟩:=⟨i5,lv5,st5,fl5,rd5,(λe he=>gf he Þ),by
   show([p,lv,st,fl,rd]++[]).Nodup
   simp[nlv,nst,nfl,nrd,q1,q2,q3,q4,q5,q6],Ī⟩
 exists eK (xs:=[.tup<|bs.map .int,.tup<|ts.map trV]) (v:=.tup<|bs.map .int) rfl
 refine' Zo (λi en g=>Sm3 λv3 lvs es=>Cj7 (en=[d7<|.ref p,d7<|ZY bs ts,d7<|.int most,v3]) (eQ g ⟨p,lv,st,fl,rd,bs,ts,most,lvs,es,[],[]⟩) (lvs=(bs.take i).map (λb=>(b,0))) (es.map (·.num)=bs.take i) ((∀e∈es,e.B=Z6 e.num 0 most (fS e.num 0 ts))) ((∀a∈[p,lv,st,fl,rd]++enA es,h a=d8))<|Ext h g) ⟨_,[],[],rfl,Y0,rfl,rfl,(λe he=>gf he Þ),?_,xe⟩ (λ_ _ _ _ _=>trivial) ?_ ?_
 .intro a ha;simp only[enA,List.flatMap_nil,ð,Æ,Þ,or_false]at ha;rcases ha with rfl|rfl|rfl|rfl|rfl<;>assumption
 .rintro i v en g hv ⟨v3,lvs,es,rfl,Y,hlv,hnum,hbr,bz,x⟩ K hK;obtain⟨b,hb,rfl⟩:=ZH hv;have hi:i<bs.length:=(Ï.mp hb).1;have hnb:b∉es.map (·.num):=by
   rw[hnum];intro m;have:=YO (f:=id) (by rw[Ϗ];exact ndb) hb;rw[Ϗ]at this;exact this m
  have hll:lvs.length<=10:=by rw[hlv,À,ÿ];lia
  have hkl:b∉lvs.map (·.1):=by rw[hlv,ú,show((λq:Int×Int=>q.1) ∘ λb:Int=>(b,(0:Int)))=id from rfl,Ϗ,<-hnum];exact hnb
  have hesl:es.length<=10:=by rw[<-À (f:=(·.num)) (as:=es),hnum,ÿ];lia
  obtain⟨yi,yl,ys,yf,yr,yb,ynd,yk⟩:=id Y;dsimp only at yi yl ys yf yr yb;refine' Y6 (k:=.int b) yl ⟨rfl,by rw[Kz];exact Ñ hll<|by decide⟩ ?_;rw[Ye (val:=Val.int)];have Y1:=Y.setLives<|ZA lvs b 0;have x1:Ext h<|upd g lv<|.dct<|Zn Val.int<|ZA lvs b 0:=⟨λe=>by rw[ei<|Zb e flv];exact x.get e⟩
  dsimp only at Y1;generalize upd g lv (.dct<|Zn Val.int<|ZA lvs b 0)=g6 at Y1 x1;obtain⟨zi,zl,zs,zf,zr,zb,znd,zk⟩:=id Y1;dsimp only at zi zl zs zf zr zb;refine' XR h16 λpn g7 hpn x7 en=>?_;have Y7:=Y1.ext x7;fail;intro q hq;have nr:=JW (b:=b) (l:=ts) (k:=0);have nl:=Uy (b:=b) (l:=ts) (k:=0);have xq:Ext g7<|upd g7 q<|.ins "Bridge" []:=Ext.new hq;have eq:(upd g7 q<|.ins "Bridge" []) q=d7 (.ins "Bridge" []):=ej;refine UJ (rs:=fS b 0 ts) eq (xq.get en) (nr.1.imp λz=>by lia) (by lia) λt d g8 ht hd ba x8=>?_;have x78:Ext g7 g8:=⟨λ{a o} e=>x8.get (by simpa using Zb e hq)<|xq.get e⟩
  have Y8:=Y7.ext x78;have ht7:g7 t=d8:=by cases z:g7 t with|none=>rfl|some o=>rw[xq.get z]at ht;cases ht
  have hd7:g7 d=d8:=by cases z:g7 d with|none=>rfl|some o=>rw[xq.get z]at hd;cases hd
  refine⟨rfl,?_⟩;obtain⟨wi,wl,ws,wf,wr,wb,wnd,wk⟩:=id Y8;dsimp only at wi wl ws wf wr wb;refine' Y6 (k:=.int b) ws ⟨rfl,by rw[Kz];unfold stands;rw[À];exact Ñ hesl<|by decide⟩ ?_;rw[Ye (val:=rfV),Wj _<|by rw[ZL];exact hnb];have ņ:stands es++[(b,q)]=stands (es++[⟨b,q,t,d,Z6 b 0 most<|fS b 0 ts⟩]):=by unfold stands;rw[Ó];rfl
  rw[ņ];have fr:∀a∈[q,t,d],g7 a=d8:=λa ha=>by simp only[Æ,Þ,or_false]at ha;rcases ha with rfl|rfl|rfl<;>assumption
  have Y9:=Y8.stands (e:=⟨b,q,t,d,Z6 b 0 most<|fS b 0 ts⟩) ba hnb λa ha z=>Y7.taken z<|fr a ha;fail;have x9:Ext h g8:=(x1.trans x7).trans x78;refine hK _ _ ⟨_,_,_,rfl,Y9,?_,?_,?_,?_,⟨λe=>by rw[ei<|Zb e fst];exact x9.get e⟩⟩
  .show ZA lvs b 0=_;rw[Wj _ hkl,hlv,Zf hb,Ó];rfl
  .rw[Ó,hnum,ő,hb];rfl
  .intro e he;rcases â.mp he with he|he
   .exact hbr e he
   .rw[Ý.mp he]
  .intro a ha;rw[Wa,<-Ď]at ha;rcases â.mp ha with ha|ha
   .exact bz a ha
   .cases z:h a with
    |none=>rfl
    |some o=>have:=fr a ha;rw[(x1.trans x7).get z]at this;cases this
 .rintro en g ⟨v3,lvs,es,rfl,Y,hlv,hnum,hbr,bz,x⟩;rw[hbl,ô]at hnum hlv;refine' k _ g rfl Y ⟨rfl,rfl,rfl,hnum,hbr,rfl,rfl,hlv⟩ bz x
end
abbrev Lj(ts:List Tie)(p num:Int):Int:=far (ts[p.toNat]?.getD (0,0,0)) num
abbrev Yu(ts:List Tie)(num:Int)(B:Br):List<|Int×Int×Int×L:=(sortI (B.ties.map (·.1))).map λp=>(num,Lj ts p num,p,ZG B p)
def Xy{num:Int}(h:(stands es).lookup num=d7 b):∃e pre Ĵ,es=pre++e::Ĵ/\e.num=num/\e.b=b:=by have:=ZC h;unfold stands at this;obtain⟨e,he,z⟩:=å.mp this;obtain⟨pre,Ĵ,rfl⟩:=dy he;injection z with z1 z2;exact⟨e,pre,Ĵ,rfl,z1,z2⟩
def YS(pre Ĵ:List En)(e:En):enA (pre++e::Ĵ)=enA pre++([e.b,e.t,e.d]++enA Ĵ):=by unfold enA;rw[cV];rfl
variable {Ĵ:List En}
def eQ.change{pre:List En}(x:eQ h Y)(he:Y.es=pre++e::Ĵ)(ex:Ex [e.b] h g)(hb:eP g e.b t d B)(ft:t=e.t\/h t=d8)(fd:d=e.d\/h d=d8):eQ g {Y with es:=pre++⟨e.num,e.b,t,d,B⟩::Ĵ}:=by
 obtain⟨y,lv,st,fl,rd,bs,ts,most,lives,es,fallen,road⟩:=Y;dsimp only at he;subst he;have hm:e∈pre++e::Ĵ:=by simp
 have heA:=WM hm;have nb:∀a∈[y,lv,st,fl,rd],a∉[e.b]:=λa ha z=>Yd.sep x.nd ha heA.1 (Ý.mp z).symm;have nd0:([y,lv,st,fl,rd]++(enA pre++([e.b,e.t,e.d]++enA Ĵ))).Nodup:=by rw[<-YS];exact x.nd
 have key:∀q∈pre++Ĵ,eP g q.b q.t q.d q.B:=λq hq=>by
  have dC:q∈pre++e::Ĵ:=by
   rcases â.mp hq with z|z
   .exact Ù _ z
   .exact É _<|Û _ z
  have nq:∀a∈[q.b,q.t,q.d],a≠e.b:=λa ha z=>by
   have n1:=(é.mp nd0).2.1;rcases â.mp hq with hq|hq
   .have ha':a∈enA pre:=ř.mpr ⟨q,hq,ha⟩;exact(é.mp n1).2.2 a ha' e.b (by simp) z
   .have ha':a∈enA Ĵ:=ř.mpr ⟨q,hq,ha⟩;have n2:=(é.mp n1).2.1;exact(é.mp n2).2.2 e.b (by simp) a ha' z.symm
  exact(x.brs q dC).keep ex (by simpa using nq _ (by simp)) (by simpa using nq _ (by simp)) (by simpa using nq _ (by simp))
 have tk:∀a∈[y,lv,st,fl,rd]++(enA pre++([e.b,e.t,e.d]++enA Ĵ)),h a≠d8:=λa ha=>x.taken (by show a∈[y,lv,st,fl,rd]++enA (pre++e::Ĵ);rw[YS];exact ha);have fr:∀{a c:Ad},(a=c\/h a=d8)->∀z,z∈[y,lv,st,fl,rd]++(enA pre++([e.b,e.t,e.d]++enA Ĵ))->z≠c->z≠a:=λf z hz nc e=>by
  subst e;rcases f with f|f
  .exact nc f
  .exact tk z hz f
 refine⟨ex.get (nb _<|by simp) x.ins,ex.get (nb _<|by simp) x.lives,?_,ex.get (nb _<|by simp) x.fallen,ex.get (nb _<|by simp) x.road,λq hq=>?_,?_,?_⟩
 .have:=ex.get (nb st<|by simp) x.stand;dsimp only at this ⊢;rw[this];unfold fY.stands;simp
 .dsimp only at hq;rcases â.mp hq with z|z
  .exact key q<|Ù _ z
  .rcases Æ.mp z with rfl|z
   .exact hb
   .exact key q<|É _ z
 .show([y,lv,st,fl,rd]++enA (pre++⟨e.num,e.b,t,d,B⟩::Ĵ)).Nodup;rw[YS];dsimp only;have n1:=é.mp nd0;have n2:=é.mp n1.2.1;have n3:=é.mp n2.2.1;have e3:e.b≠e.t/\e.b≠e.d/\e.t≠e.d:=by
   have:=n3.1;simp only[ĉ,Æ,Þ,or_false,not_or,Ī,and_true,not_false_eq_true]at this;exact⟨this.1.1,this.1.2,this.2⟩
  have out:∀z,z∈[y,lv,st,fl,rd]\/z∈enA pre\/z∈enA Ĵ->z∉[e.b,t,d]:=λz hz m=>by
   have hza:z∈[y,lv,st,fl,rd]++(enA pre++([e.b,e.t,e.d]++enA Ĵ)):=by
    rcases hz with q|q|q
    .exact Ù _ q
    .exact É _<|Ù _ q
    .exact É _<|É _<|É _ q
   have nz:∀c∈[e.b,e.t,e.d],z≠c:=λc hc w=>by
    rcases hz with q|q|q
    .exact n1.2.2 z q c (É _<|Ù _ hc) w
    .exact n2.2.2 z q c (Ù _ hc) w
    .exact n3.2.2 c hc z q w.symm
   simp only[Æ,Þ,or_false]at m;rcases m with m|m|m
   .exact nz e.b (by simp) m
   .exact fr ft z hza (nz e.t<|by simp) m
   .exact fr fd z hza (nz e.d<|by simp) m
  refine é.mpr ⟨n1.1,é.mpr ⟨n2.1,é.mpr ⟨?_,n3.2.1,λa ha b hb z=>out b (.inr<|.inr hb)<|z▸ha⟩,λa ha b hb z=>?_⟩,λa ha b hb z=>?_⟩
  .simp[hb.nbt,hb.nbd,hb.ne]
  .rcases â.mp hb with q|q
   .exact out a (.inr<|.inl ha)<|z▸q
   .exact n2.2.2 a ha b (É _ q) z
  .rcases â.mp hb with q|q
   .exact n1.2.2 a ha b (Ù _ q) z
   .rcases â.mp q with q|q
    .exact out a (.inl ha)<|z▸q
    .exact n1.2.2 a ha b (É _<|É _ q) z
 .have:=x.key;simpa using this
def eQ.inner{pre:List En}(x:eQ h Y)(he:Y.es=pre++e::Ĵ)(ex:Ex [e.b,e.t,e.d] h g)(hb:eP g e.b e.t e.d B):eQ g {Y with es:=pre ++ {e with B:=B} :: Ĵ}:=by
 obtain⟨y,lv,st,fl,rd,bs,ts,most,lives,es,fallen,road⟩:=Y;dsimp only at he;subst he;have nd0:([y,lv,st,fl,rd]++(enA pre++([e.b,e.t,e.d]++enA Ĵ))).Nodup:=by rw[<-YS];exact x.nd
 have n1:=é.mp nd0;have n2:=é.mp n1.2.1;have n3:=é.mp n2.2.1;have nb:∀a∈[y,lv,st,fl,rd],a∉[e.b,e.t,e.d]:=λa ha z=>n1.2.2 a ha a (É _<|Ù _ z) rfl;have key:∀q,q∈pre\/q∈Ĵ->eP g q.b q.t q.d q.B:=λq hq=>by
  have dC:q∈pre++e::Ĵ:=by
   rcases hq with z|z
   .exact Ù _ z
   .exact É _<|Û _ z
  have nq:∀a∈[q.b,q.t,q.d],a∉[e.b,e.t,e.d]:=λa ha z=>by
   rcases hq with hq|hq
   .exact n2.2.2 a (ř.mpr ⟨q,hq,ha⟩) a (Ù _ z) rfl
   .exact n3.2.2 a z a (ř.mpr ⟨q,hq,ha⟩) rfl
  exact(x.brs q dC).keep ex (nq _<|by simp) (nq _<|by simp) (nq _<|by simp)
 refine⟨ex.get (nb _<|by simp) x.ins,ex.get (nb _<|by simp) x.lives,?_,ex.get (nb _<|by simp) x.fallen,ex.get (nb _<|by simp) x.road,λq hq=>?_,?_,?_⟩
 .have:=ex.get (nb st<|by simp) x.stand;dsimp only at this ⊢;rw[this];unfold fY.stands;simp
 .dsimp only at hq;rcases â.mp hq with z|z
  .exact key q<|.inl z
  .rcases Æ.mp z with rfl|z
   .exact hb
   .exact key q<|.inr z
 .show([y,lv,st,fl,rd]++enA (pre ++ {e with B:=B} :: Ĵ)).Nodup;rw[YS];exact nd0
 .have:=x.key;dsimp only at this ⊢;simpa using this
def Px{xs:List Val}{v:Val}{p:Nat}{K:Val×Hs->Prop}(e1:h a=d7 (.lst xs))(e:xs[p]?=d7 v)(m:xs.length<=500000)(q:K (v,upd h a<|.lst<|xs.eraseIdx p)):go (bmV h .popAt (.ref a) [.int p]) K:=by
 have hp:p<xs.length:=(Ï.mp e).1;have h1:-(2 ^ 62)<(p:Int)/\(p:Int)<2 ^ 62:=by
  have:(p:Int)<500000:=by lia
  exact⟨Int.lt_of_lt_of_le (by decide:(-(2 ^ 62):Int)<0)<|d6 p,Int.lt_trans this<|by decide⟩
 have h2:ixN xs.length (p:Int)=d7 p:=by unfold ixN;rw[fZ<|d6 p,fZ (by lia),ã]
 have h3:bmPopAt h [.int p] a xs=d7 (v,upd h a<|.lst<|xs.eraseIdx p):=by unfold bmPopAt;dsimp only;rw[fZ h1,h2];simp only[ò,e,Ĺ]
 exact eF (by show(eR<|h a).bind (bmPopAt h [.int p] a)=_;rw[lsE e1,ò];exact h3) q
def Mc{α β:Type}(f:α->β):∀(l:List α) (i:Nat),(l.map f).eraseIdx i=(l.eraseIdx i).map f
 |[],_=>by simp
 |_::_,0=>by simp
 |x::l,i+1=>by simp[Mc f l i]
section
variable {Y:Yd}{p:Nat}
variable {r:Int×Int×Int×L}
def X6(x:eQ h Y)(hr:Y.road[p]?=d7 r)(hl:Y.road.length<=500000)(k:∀g,eQ g {Y with road:=Y.road.eraseIdx p}->Ex [Y.rd] h g->Q (rdV r) g):wF P (n+1) "Yard.take_off" [.ref Y.y,.int p] h Q X:=by have xi:=x.ins;have xr:=x.road;have hp:p<Y.road.length:=(Ï.mp hr).1;have hrl:(Y.road.map rdV).length=Y.road.length:=À _;refine Xd ?_;fail;refine fG (by simp) ?_;fail;refine fH (by rw[hrl];simpa using hp) ?_;refine' Px xr (by rw[Õ,hr];rfl) (by lia) ?_;rw[Mc];exact k _ (x.setRoad _) (Ex.upd<|by simp)
def FK{pre:List En}(x:eQ h Y)(hr:Y.road[p]?=d7 r)(hl:Y.road.length<=500000)(he:Y.es=pre++e::Ĵ)(hg:r.2.1=e.num)(o:e.B.ok)
  (k:∀g,eQ g {Y with es:=pre ++ {e with B:=YE e.B r.2.2.1 r.2.2.2} :: Ĵ,road:=Y.road.eraseIdx p}->Ex Y.adr h g->Q .non g):wF P (n+3) "Yard.come" [.ref Y.y,.int p] h Q X:=by
 have xi:=x.ins;have hm:e∈Y.es:=by rw[he];simp
 have lk:(stands Y.es).lookup r.2.1=d7 e.b:=by rw[hg];exact Jm (by rw[ZL];exact x.key)<|å.mpr ⟨e,hm,rfl⟩
 refine Xl ?_;refine' X6 x hr hl λg1 y1 x1=>?_;have yi:=y1.ins;have ys:=y1.stand;have ba:=y1.brs e hm;have bi:=ba.ins;dsimp only at yi ys;obtain⟨rs,rg,rt,rl⟩:=r;dsimp only at lk hg k
 exists WA ys rfl
 rw[Z8,lk];walk_at "p";refine Z2 ys rfl (by rw[Z9,lk];rfl) ?_;refine' FP ba o λg2 b2 x2=>?_;have y2:=y1.inner (e:=e) he (x2.sub<|by simp) b2;have mA:=WM hm;refine' k g2 y2 ((x1.sub λa ha=>?_).trans<|x2.sub λa ha=>?_)
 .rw[Ý.mp ha];exact Ù _ (by simp)
 .rw[Ý.mp ha];exact É _ mA.2.2
def DQ(x:eQ h Y)(hr:Y.road[p]?=d7 r)(hl:Y.road.length<=500000)(hg:r.2.1∉Y.es.map (·.num))
  (k:∀g,eQ g {Y with road:=Y.road.eraseIdx p}->Ex Y.adr h g->Q .non g):wF P (n+3) "Yard.come" [.ref Y.y,.int p] h Q X:=by
 have xi:=x.ins;have lk:(stands Y.es).lookup r.2.1=d8:=by
  cases z:(stands Y.es).lookup r.2.1 with
  |none=>rfl
  |some q =>have:=û (f:=(·.1))<|ZC z;rw[ZL]at this;exact gf this hg
 refine Xl ?_;refine' X6 x hr hl λg1 y1 x1=>?_;have yi:=y1.ins;have ys:=y1.stand;dsimp only at yi ys;obtain⟨rs,rg,rt,rl⟩:=r;dsimp only at lk hg k
 exists WA ys rfl
 rw[Z8,lk];walk_at "p";exact k g1 y1 (x1.sub λa ha=>by rw[Ý.mp ha];exact Ù _<|by simp)
end
abbrev Yt(k:Int)(F:Br->Br)(es:List En):List En:=es.map λe=>if e.num=k then {e with B:=F e.B} else e
def Wd{k:Int}{F:Br->Br}:∀{es:List En},k∉es.map (·.num)->Yt k F es=es
 |[],_=>rfl
 |e::es,h=>by rw[Î,Æ,not_or]at h;unfold Yt;rw[Î,f8 λz=>h.1 z.symm];exact congrArg (e :: ·)<|Wd h.2
variable {F:Br->Br}
def NS{pre:List En}(nd:((pre++e::Ĵ).map (·.num)).Nodup):Yt e.num F (pre++e::Ĵ)=pre ++ {e with B:=F e.B} :: Ĵ:=by rw[Ó,Î,é,ĉ]at nd;have h1:Yt e.num F pre=pre:=Wd λz=>nd.2.2 _ z e.num (by simp) rfl;have h2:Yt e.num F Ĵ=Ĵ:=Wd nd.2.1.1;unfold Yt at h1 h2 ⊢;rw[Ó,Î,h1,h2,fZ rfl]
def Nt{k:Int}(es:List En):(Yt k F es).map (·.num)=es.map (·.num):=by unfold Yt;rw[ú];refine Ġ λe _=>?_;show(if e.num=k then({e with B:=F e.B}:En)else e).num=e.num;split<;>rfl
def Nl{k:Int}(es:List En):stands (Yt k F es)=stands es:=by unfold Yt stands;rw[ú];refine Ġ λe _=>?_;show((if e.num=k then({e with B:=F e.B}:En)else e).num,(if e.num=k then({e with B:=F e.B}:En)else e).b)=_;split<;>rfl
def Wn{k:Int}{F:Br->Br}:∀es:List En,enA (Yt k F es)=enA es
 |[]=>rfl
 |e::es=>by have:=Wn (k:=k) (F:=F) es;unfold Yt enA at this ⊢;rw[Î,Ũ,Ũ,this];split<;>rfl
def NY{k:Int}{q:En}(h:q∈Yt k F es):(q∈es/\q.num≠k)\/∃e∈es,e.num=k/\q={e with B:=F e.B}:=by
 obtain⟨e,he,rfl⟩:=å.mp h;by_cases z:e.num=k
 .right;exact⟨e,he,z,by rw[fZ z]⟩
 .left;rw[f8 z];exact⟨he,z⟩
abbrev tieF(on:Bool)(p:Int)(far c:Int)(B:Br):Br:=if on then upB B p (far,c)else Bt B p
abbrev setT(on:Bool)(p:Int)(t:Tie)(es:List En):List En:=Yt t.2.1 (tieF on p t.1 t.2.2)<|Yt t.1 (tieF on p t.2.1 t.2.2) es
abbrev onT(Y:Yd)(p:Int)(t:Tie):Bool:=!(Y.fallen.lookup p).isSome&&(((stands Y.es).lookup t.1).isSome&&((stands Y.es).lookup t.2.1).isSome)
section
variable {Y:Yd}
def eQ.one(x:eQ h Y)(he:e∈Y.es)(ex:Ex [e.b,e.t,e.d] h g)(hb:eP g e.b e.t e.d<|F e.B):eQ g {Y with es:=Yt e.num F Y.es}:=by obtain⟨pre,Ĵ,hs⟩:=dy he;have k:=x.key;rw[hs]at k;rw[hs,NS k];exact x.inner hs ex hb
end
noncomputable abbrev Ge:Ss:=#[.ite (.val<|.var 5) #[.expr<|.meth "Bridge" "up" (.idx (.fld (.var 0) "standing")<|.var 6) #[.var 1,.var 7,.var 4]] #[.ite (.val<|.cmp .isin (.var 6)<|.fld (.var 0) "standing") #[.expr<|.meth "Bridge" "down" (.idx (.fld (.var 0) "standing")<|.var 6) #[.var 1]] .nil]]
section
variable {Y:Yd}
def ME{p:Nat}{t1 t2:Int}{on:Bool}{v6 v7:Option Val}{R:NQ}(x:eQ h Y)(hn:t1≠t2)(gd:∀e∈Y.es,e.B.ok)(hon:∀Η far:Int,(Η=t1/\far=t2\/Η=t2/\far=t1)->on=d9->∃b,(stands Y.es).lookup Η=d7 b)
  (k:∀g e,eQ g {Y with es:=setT on p (t1,t2,c) Y.es}->Ex Y.adr h g->R e g) :
  wFor (λ_=>True) (λv e g K M=>go (bind (.many [6,7]) g v e) λe2=>wSs (wF P<|n+1) Ge e2 g K Q M K λ_ c g=>X c g) R [.tup [.int t1,.int t2],.tup [.int t2,.int t1]] [d7<|.ref Y.y,d7<|.int p,d7<|.int t1,d7<|.int t2,d7<|.int c,d7<|.bl on,v6,v7] h:=by
 refine Zo (λi e g=>∃v6 v7 az,e=[d7<|.ref Y.y,d7<|.int p,d7<|.int t1,d7<|.int t2,d7<|.int c,d7<|.bl on,v6,v7]/\eQ g {Y with es:=az}/\Ex Y.adr h g/\(i=0->az=Y.es)/\(i=1->az=Yt t1 (tieF on p t2 c) Y.es)/\(i=2->az=setT on p (t1,t2,c) Y.es)) ⟨_,_,Y.es,rfl,x,Ex.refl,λ_=>rfl,λz=>(by cases z),λz=>(by cases z)⟩ (λ_ _ _ _ _=>trivial) ?_ ?_
 .rintro i v e g hv ⟨u6,u7,az,rfl,y,xg,q0,q1,q2⟩ K hK;obtain⟨Η,far,rfl,hnf,ņ,heA,hgd,hnext⟩:∃Η far,v=.tup [.int Η,.int far]/\(Η=t1/\far=t2\/Η=t2/\far=t1)/\stands az=stands Y.es/\enA az=enA Y.es/\(∀e∈az,e.num=Η->e.B.ok)/\∀db,db=Yt Η (tieF on p far c) az->(i+1=0->db=Y.es)/\(i+1=1->db=Yt t1 (tieF on p t2 c) Y.es)/\(i+1=2->db=setT on p (t1,t2,c) Y.es):=by
   match i,hv with
   |0,hv =>cases hv;have:=q0 rfl;subst this;exact⟨t1,t2,rfl,.inl ⟨rfl,rfl⟩,rfl,rfl,λe he _=>gd e he,λdb z=>⟨λy=>(by cases y),λ_=>z,λy=>(by cases y)⟩⟩
   |1,hv =>
    cases hv;have:=q1 rfl;subst this;refine⟨t2,t1,rfl,.inr ⟨rfl,rfl⟩,Nl _,Wn _,λe he hz=>?_,λdb z=>⟨λy=>(by cases y),λy=>(by cases y),λ_=>z⟩⟩;rcases NY he with⟨hm,_⟩|⟨q,hq,hq1,hq2⟩
    .exact gd e hm
    .exact gf (by rw[hq2]at hz;exact hq1.symm.trans hz) hn
   |i+2,hv=>simp at hv
  have yi:=y.ins;have ys:=y.stand;dsimp only at yi ys;have step:∀{e:En}{g':Hs},e∈az->e.num=Η->Ex [e.b,e.t,e.d] g g'->eP g' e.b e.t e.d (tieF on p far c e.B)->∀w6 w7,K [d7<|.ref Y.y,d7<|.int p,d7<|.int t1,d7<|.int t2,d7<|.int c,d7<|.bl on,w6,w7] g':=λ{e g'} he š ex hb w6 w7=>by
   have y':=y.one (F:=tieF on p far c) he ex hb;rw[š]at y';have mA:=WM he;refine hK _ _ ⟨w6,w7,_,rfl,y',xg.trans<|ex.sub λa ha=>?_,hnext _ rfl⟩;refine É _ ?_;rw[<-heA];simp only[Æ,Þ,or_false]at ha;rcases ha with rfl|rfl|rfl
   .exact mA.1
   .exact mA.2.1
   .exact mA.2.2
  fail;cases hob:on with
  |true =>
   obtain⟨b,lk⟩:=hon Η far hnf hob;rw[<-ņ]at lk;obtain⟨e,pre,Ĵ,hs,š,hbb⟩:=Xy lk;have hm:e∈az:=by rw[hs];simp
   have ba:=y.brs e hm;have bi:=ba.ins;subst hbb;refine fG rfl ?_;refine' Z2 ys rfl (by rw[Z9,lk];rfl) ?_;refine' Q2 ba (hgd e hm š) λg' b' x'=>?_;fail;rw[<-hob];exact step hm š (x'.sub<|by simp) (by unfold tieF;rw[hob];exact b') _ _
  |false =>
   refine fH rfl ?_
   exists WA ys rfl
   rw[Z8];cases hlk:(stands az).lookup Η with
   |none =>
    walk_at "p";rw[<-hob];refine hK _ _ ⟨_,_,az,rfl,y,xg,hnext az (Wd ?_).symm⟩;have:=XG hlk
    rwa [ZL]at this
   |some b =>
    obtain⟨e,pre,Ĵ,hs,š,hbb⟩:=Xy hlk;have hm:e∈az:=by rw[hs];simp
    have ba:=y.brs e hm;have bi:=ba.ins;subst hbb;walk_at "p";refine Z2 ys rfl (by rw[Z9,hlk];rfl) ?_;refine' Ga ba λg' b' x'=>?_;fail;rw[<-hob];exact step hm š (x'.sub<|by simp) (by unfold tieF;rw[hob];exact b') _ _
 .rintro e g ⟨u6,u7,az,rfl,y,xg,q0,q1,q2⟩;have:=q2 rfl;subst this;exact k _ _ y xg
def WN{p:Nat}{t:Tie}(x:eQ h Y)(et:Y.ts[p]?=d7 t)(hn:t.1≠t.2.1)(gd:∀e∈Y.es,e.B.ok)(k:∀g,eQ g {Y with es:=setT (onT Y p t) p t Y.es}->Ex Y.adr h g->Q .non g):wF P (n+2) "Yard.set_tie" [.ref Y.y,.int p] h Q X:=by
 have xi:=x.ins;have xs:=x.stand;have xf:=x.fallen;obtain⟨t1,t2,c⟩:=t;dsimp only at hn;have fin:onT Y p (t1,t2,c)=onT Y p (t1,t2,c)->∀Η far:Int,(Η=t1/\far=t2\/Η=t2/\far=t1)->onT Y p (t1,t2,c)=d9->∃b,(stands Y.es).lookup Η=d7 b:=λ_ Η far hv ho=>by
  simp only[onT,bAq]at ho;rcases hv with⟨rfl,_⟩|⟨rfl,_⟩
  .exact õ.mp ho.2.1
  .exact õ.mp ho.2.2
 refine JC ?_
 exists eK (xs:=[.tup<|Y.bs.map .int,.tup<|Y.ts.map trV]) (v:=.tup<|Y.ts.map trV) rfl
 refine' eK (v:=.tup [.int t1,.int t2,.int c]) (Xk (by lia)<|by rw[Õ,ã,et];rfl) ?_
 exists Yk xf rfl
 rw[Z8];obtain⟨on,hon⟩:∃on:Bool,on=onT Y p (t1,t2,c):=⟨_,rfl⟩
 rw[<-hon]at k fin;have fin:=fin rfl;cases e1:(Y.fallen.lookup (p:Int)).isSome with
 |true =>
  have z:ee=on:=by rw[hon];unfold onT;rw[e1];rfl
  walk_at "p";rw[z];exact ME x hn gd fin λg e y xg=>by fail;exact k g y xg
 |false =>
  walk_at "p";refine WA xs rfl ?_;rw[Z8];cases e2:((stands Y.es).lookup t1).isSome with
  |false =>
   have z:ee=on:=by rw[hon];unfold onT;rw[e1,e2];rfl
   walk_at "p";rw[z];exact ME x hn gd fin λg e y xg=>by fail;exact k g y xg
  |true =>
   walk_at "p";refine WA xs rfl ?_;rw[Z8];have z:((stands Y.es).lookup t2).isSome=on:=by rw[hon];unfold onT;rw[e1,e2];rfl
   rw[z];refine' ME x hn gd fin λg e y xg=>by fail;exact k g y xg
end
variable {on:Bool}
def Mp{p far:Int}(o:B.ok)(h0:0<=p)(h1:p<16):(tieF on p far c B).ok:=by
 unfold tieF;split
 .exact o.up h0 h1
 .exact o.down p
def UH{k:Int}(gd:∀e∈es,e.B.ok)(hF:∀B,B.ok->(F B).ok):∀e∈Yt k F es,e.B.ok:=λq hq=>by
 rcases NY hq with⟨hm,_⟩|⟨e,he,_,rfl⟩
 .exact gd q hm
 .exact hF _<|gd e he
def GL{p:Int}{t:Tie}(gd:∀e∈es,e.B.ok)(h0:0<=p)(h1:p<16):∀e∈setT on p t es,e.B.ok :=
 UH (UH gd λ_ o=>Mp o h0 h1) λ_ o=>Mp o h0 h1
def Dm{p:Int}{t:Tie}(es:List En):(setT on p t es).map (·.num)=es.map (·.num):=by unfold setT;rw[Nt,Nt]
def Js{p:Int}{t:Tie}(es:List En):enA (setT on p t es)=enA es:=by unfold setT;rw[Wn,Wn]
abbrev ZX(Y:Yd)(l:List Tie):Yd:=l.foldl (λY r=>{Y with es:=setT (onT Y r.1<|Y.ts[r.1.toNat]?.getD (0,0,0)) r.1 (Y.ts[r.1.toNat]?.getD (0,0,0)) Y.es}) Y
def J5(Y:Yd)(l:List Tie)(r:Tie):ZX Y (l++[r])={ZX Y l with es:=setT (onT (ZX Y l) r.1<|(ZX Y l).ts[r.1.toNat]?.getD (0,0,0)) r.1 ((ZX Y l).ts[r.1.toNat]?.getD (0,0,0)) (ZX Y l).es}:=by unfold ZX;rw[List.foldl_append];rfl
structure Same(Y Z:Yd):Prop where
 y:Z.y=Y.y
 lv:Z.lv=Y.lv
 st:Z.st=Y.st
 fl:Z.fl=Y.fl
 rd:Z.rd=Y.rd
 bs:Z.bs=Y.bs
 ts:Z.ts=Y.ts
 most:Z.most=Y.most
 lives:Z.lives=Y.lives
 fallen:Z.fallen=Y.fallen
 road:Z.road=Y.road
 num:Z.es.map (·.num)=Y.es.map (·.num)
 enA:enA Z.es=enA Y.es
variable {Z:Yd}
def Same.adr(s:Same Y Z):Z.adr=Y.adr:=by unfold Yd.adr;rw[s.y,s.lv,s.st,s.fl,s.rd,s.enA]
def Same.refl:Same Y Y:=⟨rfl,rfl,rfl,rfl,rfl,rfl,rfl,rfl,rfl,rfl,rfl,rfl,rfl⟩
variable {W:Yd}
def Same.trans(a:Same Y Z)(b:Same Z W):Same Y W:=⟨b.y.trans a.y,b.lv.trans a.lv,b.st.trans a.st,b.fl.trans a.fl,b.rd.trans a.rd,b.bs.trans a.bs,b.ts.trans a.ts,b.most.trans a.most,b.lives.trans a.lives,b.fallen.trans a.fallen,b.road.trans a.road,b.num.trans a.num,b.enA.trans a.enA⟩
def Same.setT{p:Int}{t:Tie}:Same Y {Y with es:=setT on p t Y.es}:=⟨rfl,rfl,rfl,rfl,rfl,rfl,rfl,rfl,rfl,rfl,rfl,Dm _,Js _⟩
def YW:∀(l:List Tie) (Y:Yd),Same Y (ZX Y l)
 |[],_=>.refl
 |_::l,_=>Same.setT.trans<|YW l _
section
variable {Y:Yd}
def Jz{b:Int}(no:eY Y.bs Y.ts)(x:eQ h Y)(gd:∀e∈Y.es,e.B.ok)(k:∀g,eQ g (ZX Y<|fS b 0 Y.ts)->(∀e∈(ZX Y<|fS b 0 Y.ts).es,e.B.ok)->Ex Y.adr h g->Q .non g):wF P (n+3) "Yard.set_ties_of" [.ref Y.y,.int b] h Q X:=by
 have xi:=x.ins;have h16:=no.sixteen;refine X0 ?_;refine' XR no.sixteen λp g0 hp x0 e0=>?_;fail;have x':=x.ext x0;have npA:p∉Y.adr:=λz=>x.taken z hp;refine Zo (λi e g=>Sm3 λv2 v3 v4=>Cj4 (e=[d7<|.ref Y.y,d7<|.int b,v2,v3,v4]) (eQ g<|ZX Y<|(fS b 0 Y.ts).take i) ((∀e∈(ZX Y<|(fS b 0 Y.ts).take i).es,e.B.ok))<|Ex Y.adr g0 g) ⟨_,_,_,rfl,x',gd,Ex.refl⟩ (λi e g _ ⟨_,_,_,_,_,_,z⟩=>lsE<|z.get npA e0) ?_ ?_
 .rintro i v e g hv ⟨v2,v3,v4,rfl,y,gi,xg⟩ K hK;obtain⟨r,hr,rfl⟩:=ZH hv;have sm:=YW ((fS b 0 Y.ts).take i) Y;have rg:=(JW (b:=b) (l:=Y.ts) (k:=0)).2 r<|ä hr;obtain⟨q,hq⟩:∃q:Nat,r.1=q:=⟨r.1.toNat,by lia⟩
  have hql:q<Y.ts.length:=by lia
  have et:(ZX Y<|(fS b 0 Y.ts).take i).ts[q]?=d7 Y.ts[q]:=by rw[sm.ts];exact Ê hql
  have lo:=no.tie _<|İ hql;have yi:=y.ins;rw[sm.y]at yi;obtain⟨r1,r2,r3⟩:=r;dsimp only at hq;subst hq;unfold trV;fail;rw[<-sm.y];refine WN y et (by have:=lo.2.2.1;lia) gi λg1 y1 xg1=>?_;rw[sm.adr]at xg1;fail;rw[sm.y];refine hK _ _ ⟨_,_,_,rfl,?_,?_,xg.trans xg1⟩
  .rw[Zf hr,J5];dsimp only;rw[ã,et];exact y1
  .rw[Zf hr,J5];dsimp only;rw[ã,et];exact GL gi (by lia) (by lia)
 .rintro e g ⟨v2,v3,v4,rfl,y,gi,xg⟩;rw[À,ô]at y gi;refine' k g y gi ((Ex.of x0).trans xg)
end
abbrev YM(b:Int)(es:List En):List En:=es.filter λe=>gg (e.num≠b)
def Mj(b:Int)(es:List En):Zx (stands es) b=stands (YM b es):=by unfold Zx stands YM;rw[List.filter_map];rfl
def XJ(b:Int)(es:List En):(YM b es).Sublist es:=Ϝ
def Jc{fs:List En}(h:es.Sublist fs):(enA es).Sublist<|enA fs:=by
 induction h with
 |slnil=>exact .slnil
 |cons a _ ih=>unfold enA at ih ⊢;rw[Ũ];exact ih.trans<|List.sublist_append_right _ _
 |cons_cons a _ ih=>unfold enA at ih ⊢;rw[Ũ,Ũ];exact(ś _).append ih
def eQ.drop(x:eQ h Y)(b:Int):eQ (upd h Y.st<|.dct<|Zn rfV<|fY.stands<|YM b Y.es) {Y with es:=YM b Y.es}:=by
 obtain⟨⟨a1,a2,a3,a4⟩,⟨b1,b2,b3⟩,⟨c1,c2⟩,d1⟩:=Yd.five x.nd;have sb:=XJ b Y.es;have nb:∀a∈enA (YM b Y.es),a≠Y.st:=λa ha=>Yd.sep x.nd (by simp)<|(Jc sb).subset ha;refine⟨(ei a2).trans x.ins,(ei b1).trans x.lives,ej,(ei c1.symm).trans x.fallen,(ei c2.symm).trans x.road,λq hq=>(x.brs q<|sb.subset hq).off hq nb,?_,?_⟩
 .exact((ś _).append<|Jc sb).nodup x.nd
 .exact(sb.map _).nodup x.key
def eQ.setFallen(x:eQ h Y)(l:List<|Int×Bool):eQ (upd h Y.fl<|.dct<|Zn Val.bl l) {Y with fallen:=l}:=by obtain⟨⟨a1,a2,a3,a4⟩,⟨b1,b2,b3⟩,⟨c1,c2⟩,d1⟩:=Yd.five x.nd;exact⟨(ei a3).trans x.ins,(ei b2).trans x.lives,(ei c1).trans x.stand,ej,(ei d1.symm).trans x.road,λe he=>(x.brs e he).off he λb hb=>Yd.sep x.nd (by simp) hb,x.nd,x.key⟩
section
variable {Y:Yd}
def Ee{b:Int}(no:eY Y.bs Y.ts)(x:eQ h Y)(gd:∀e∈Y.es,e.B.ok)(hb:b∈Y.es.map (·.num))(k:∀g,eQ g (ZX {Y with es:=YM b Y.es}<|fS b 0 Y.ts)->(∀e∈(ZX {Y with es:=YM b Y.es}<|fS b 0 Y.ts).es,e.B.ok)->Ex Y.adr h g->Q .non g):wF P (n+4) "Yard.fall_of_bridge" [.ref Y.y,.int b] h Q X:=by
 have xi:=x.ins;have xs:=x.stand;obtain⟨a,lk⟩:∃a,(stands Y.es).lookup b=d7 a:=ZQ (by rw[ZL];exact hb);refine ZW ?_
 exists Yk xs rfl
 rw[Z8,lk];walk_at "p";refine By xs rfl (by rw[Z9,lk];rfl) ?_;rw[Wz,Mj];dsimp only;have y1:=x.drop b;have x1:Ex Y.adr h<|upd h Y.st<|.dct<|Zn rfV<|stands<|YM b Y.es:=Ex.upd (Ù _<|by simp);generalize upd h Y.st (.dct<|Zn rfV<|stands<|YM b Y.es)=g1 at y1 x1;have yi:=y1.ins;dsimp only at yi;refine' Jz (Y:={Y with es:=YM b Y.es}) no y1 (λe he=>gd e<|(XJ b Y.es).subset he) λg2 y2 gd2 x2=>?_;refine' k g2 y2 gd2 (x1.trans<|x2.sub λa ha=>?_);exact((ś _).append<|Jc<|XJ b Y.es).subset ha
end
section
variable {Y:Yd}
def Cc{p:Nat}{t:Tie}(no:eY Y.bs Y.ts)(x:eQ h Y)(gd:∀e∈Y.es,e.B.ok)(et:Y.ts[p]?=d7 t)(hf:Y.fallen.lookup (p:Int)=d8)(hl:Y.fallen.length<=100)(k:∀g,eQ g {Y with fallen:=ZA Y.fallen p d9,es:=setT (onT {Y with fallen:=ZA Y.fallen p d9} p t) p t Y.es}->Ex Y.adr h g->Q .non g):wF P (n+3) "Yard.fall_of_tie" [.ref Y.y,.int p] h Q X:=by
 have xi:=x.ins;have xf:=x.fallen;have hp:p<Y.ts.length:=(Ï.mp et).1;have cL:(Y.ts.map trV).length=Y.ts.length:=À _;have lo:=no.tie _<|ä et;refine ZO ?_
 exists ZS
 fail;refine fG (by simp) ?_
 exists eK (xs:=[.tup<|Y.bs.map .int,.tup<|Y.ts.map trV]) (v:=.tup<|Y.ts.map trV) rfl
 fail;refine fH (by rw[cL];simpa using hp) ?_
 exists WA xf rfl
 rw[Z8,hf];walk_at "p";refine Y6 (k:=.int p) xf ⟨rfl,by rw[Kz];exact Ñ hl<|by decide⟩ ?_;rw[Ye (val:=Val.bl)];have y1:=x.setFallen<|ZA Y.fallen p d9;have x1:Ex Y.adr h<|upd h Y.fl<|.dct<|Zn Val.bl<|ZA Y.fallen p d9:=Ex.upd (Ù _<|by simp);generalize upd h Y.fl (.dct<|Zn Val.bl<|ZA Y.fallen p d9)=g1 at y1 x1;have yi:=y1.ins;dsimp only at yi;refine' WN (Y:={Y with fallen:=ZA Y.fallen p d9}) y1 et (by have:=lo.2.2.1;lia) gd λg2 y2 x2=>?_;refine' k g2 y2 (x1.trans x2)
def Dc{p:Nat}{t:Tie}(no:eY Y.bs Y.ts)(x:eQ h Y)(gd:∀e∈Y.es,e.B.ok)(et:Y.ts[p]?=d7 t){v:Bool}(hf:Y.fallen.lookup (p:Int)=d7 v)(k:∀g,eQ g {Y with fallen:=Zx Y.fallen p,es:=setT (onT {Y with fallen:=Zx Y.fallen p} p t) p t Y.es}->Ex Y.adr h g->Q .non g):wF P (n+3) "Yard.back_of_tie" [.ref Y.y,.int p] h Q X:=by
 have xi:=x.ins;have xf:=x.fallen;have lo:=no.tie _<|ä et;refine Yr ?_
 exists Yk xf rfl
 rw[Z8,hf];walk_at "p";refine By xf rfl (by rw[Z9,hf];rfl) ?_;rw[Wz];dsimp only;have y1:=x.setFallen<|Zx Y.fallen p;have x1:Ex Y.adr h<|upd h Y.fl<|.dct<|Zn Val.bl<|Zx Y.fallen p:=Ex.upd (Ù _<|by simp);generalize upd h Y.fl (.dct<|Zn Val.bl<|Zx Y.fallen p)=g1 at y1 x1;have yi:=y1.ins;dsimp only at yi;refine' WN (Y:={Y with fallen:=Zx Y.fallen p}) y1 et (by have:=lo.2.2.1;lia) gd λg2 y2 x2=>?_;refine' k g2 y2 (x1.trans x2)
end
def UL:(Z6 own life most []).ok:=⟨Ī,(λ_ m=>nomatch m),Ī,(λ_ m=>nomatch m)⟩
def AB{k:Int}{v:α}:(ZA kvs k v).lookup k=d7 v:=by
 unfold ZA;split
 .rename_i h;induction kvs with
  |nil=>cases h
  |cons p r ih =>
   rw[Î,ï];by_cases e:p.1=k
   .simp[e]
   .have e2:(k==p.1)=ee:=by simpa using λz=>e z.symm
    rw[ï,e2]at h;simp only[e,if_false,e2];exact ih h
 .rename_i h;have h:kvs.lookup k=d8:=ϸ.mp h;rw[List.lookup_append,h];simp
section
variable {Y:Yd}
def Db{b:Int}(no:eY Y.bs Y.ts)(x:eQ h Y)(gd:∀e∈Y.es,e.B.ok)(hlv:Y.lives.lookup b=d7 life)(hb:b∉Y.es.map (·.num))(hl:Y.lives.length<=100)(hel:Y.es.length<=100)
  (k:∀q t d g,(∀a∈[q,t,d],h a=d8)->eQ g (ZX {Y with lives:=ZA Y.lives b<|life+1,es:=Y.es++[⟨b,q,t,d,Z6 b (life+1) Y.most []⟩]}<|fS b 0 Y.ts)->(∀e∈(ZX {Y with lives:=ZA Y.lives b<|life+1,es:=Y.es++[⟨b,q,t,d,Z6 b (life+1) Y.most []⟩]}<|fS b 0 Y.ts).es,e.B.ok)->Ex Y.adr h g->Q .non g):wF P (n+4) "Yard.back_of_bridge" [.ref Y.y,.int b] h Q X:=by
 have xi:=x.ins;have xs:=x.stand;have xl:=x.lives;have lk:(stands Y.es).lookup b=d8:=by
  cases z:(stands Y.es).lookup b with
  |none=>rfl
  |some q =>have:=û (f:=(·.1))<|ZC z;rw[ZL]at this;exact gf this hb
 refine ZD ?_
 exists Yk xl rfl
 rw[Z8,hlv];walk_at "p";refine WA xs rfl ?_;rw[Z8,lk];walk_at "p";refine Z2 xl rfl (by rw[Z9,hlv];rfl) ?_;refine' Y6 (k:=.int b) xl ⟨rfl,by rw[Kz];exact Ñ hl<|by decide⟩ ?_;rw[Ye (val:=Val.int)];have Y1:=x.setLives<|ZA Y.lives b<|life+1;have x1:Ex Y.adr h<|upd h Y.lv<|.dct<|Zn Val.int<|ZA Y.lives b<|life+1:=Ex.upd (Ù _<|by simp);have keepN:∀{a:Ad},upd h Y.lv (.dct<|Zn Val.int<|ZA Y.lives b<|life+1) a=d8->h a=d8:=λ{a} z=>by
  by_cases e:a=Y.lv
  .rw[e,ej]at z;cases z
  .rwa [ei e]at z
 generalize upd h Y.lv (.dct<|Zn Val.int<|ZA Y.lives b<|life+1)=g1 at Y1 x1 keepN;have zi:=Y1.ins;have zl:=Y1.lives;dsimp only at zi zl;refine' Z2 zl rfl (by rw[Z9,AB];rfl) ?_;refine' Zc λpn g7 hpn x7 en=>?_;have Y7:=Y1.ext x7;have yi7:=Y7.ins;dsimp only at yi7;fail;intro q hq;have xq:Ext g7<|upd g7 q<|.ins "Bridge" []:=Ext.new hq;have eq:(upd g7 q<|.ins "Bridge" []) q=d7 (.ins "Bridge" []):=ej;refine UJ (rs:=[]) eq (xq.get en) (by simp) (by simp) λt d g8 ht hd ba x8=>?_;have x78:Ext g7 g8:=⟨λ{a o} e=>x8.get (by simpa using Zb e hq)<|xq.get e⟩
 have Y8:=Y7.ext x78;have ht7:g7 t=d8:=by cases z:g7 t with|none=>rfl|some o=>rw[xq.get z]at ht;cases ht
 have hd7:g7 d=d8:=by cases z:g7 d with|none=>rfl|some o=>rw[xq.get z]at hd;cases hd
 refine⟨rfl,?_⟩;have wi:=Y8.ins;have ws:=Y8.stand;dsimp only at wi ws;refine' Y6 (k:=.int b) ws ⟨rfl,by rw[Kz];unfold stands;rw[À];exact Ñ hel<|by decide⟩ ?_;rw[Ye (val:=rfV),Wj _<|by rw[ZL];exact hb];have ņ:stands Y.es++[(b,q)]=stands (Y.es++[⟨b,q,t,d,Z6 b (life+1) Y.most []⟩]):=by unfold stands;rw[Ó];rfl
 rw[ņ];have fr:∀a∈[q,t,d],g7 a=d8:=λa ha=>by simp only[Æ,Þ,or_false]at ha;rcases ha with rfl|rfl|rfl<;>assumption
 have fr0:∀a∈[q,t,d],h a=d8:=λa ha=>keepN (by cases z:g1 a with|none=>rfl|some o=>have:=fr a ha;rw[x7.get z]at this;cases this);have Y9:=Y8.stands (e:=⟨b,q,t,d,Z6 b (life+1) Y.most []⟩) ba hb λa ha z=>Y7.taken z<|fr a ha;have x9:Ex Y.adr h<|upd g8 Y.st<|.dct<|Zn rfV<|stands<|Y.es++[⟨b,q,t,d,Z6 b (life+1) Y.most []⟩]:=(x1.trans<|.of<|x7.trans x78).trans (Ex.upd<|Ù _<|by simp);dsimp only at Y9;generalize upd g8 Y.st (.dct<|Zn rfV<|stands<|Y.es++[⟨b,q,t,d,Z6 b (life+1) Y.most []⟩])=g9 at Y9 x9;have vi:=Y9.ins;dsimp only at vi;refine' Jz (Y:={Y with lives:=ZA Y.lives b<|life+1,es:=Y.es++[⟨b,q,t,d,Z6 b (life+1) Y.most []⟩]}) no Y9 (λe he=>?_) λg2 y2 gd2 x2=>?_
 .rcases â.mp he with he|he
  .exact gd e he
  .rw[Ý.mp he];exact UL
 refine' k q t d g2 fr0 y2 gd2 ⟨λ{a o} na ha=>x2.get (λz=>?_)<|x9.get na ha⟩;have z:a∈[Y.y,Y.lv,Y.st,Y.fl,Y.rd]++enA (Y.es++[⟨b,q,t,d,Z6 b (life+1) Y.most []⟩]):=z;rw[Wa,<-Ď]at z;rcases â.mp z with z|z
 .exact na z
 .rw[fr0 a z]at ha;cases ha
end
abbrev wordsL:List<|List String:=[["tick"],["come"],["lost"],["fall","bridge"],["fall","tie"],["back","bridge"],["back","tie"]]
def GF{ws:List String}(hw:ws∈wordsL)(k:∀g,Ext h g->Q (.tup [.tup<|ws.map .str,.int c]) g):wF P (n+2) "read_deed" [.tup<|ws.map .str++[.int c]] h Q X:=by
 have hc:cut (ws.map Val.str++[.int c]) d8 (d7 (-1))=ws.map .str:=by simp only[wordsL,Æ,Þ,or_false]at hw;rcases hw with rfl|rfl|rfl|rfl|rfl|rfl|rfl<;>rfl
 have hlast:atI (ws.map Val.str++[.int c]) (-1)=d7 (.int c):=by simp only[wordsL,Æ,Þ,or_false]at hw;rcases hw with rfl|rfl|rfl|rfl|rfl|rfl|rfl<;>rfl
 have hlen:ws.length<=2:=by simp only[wordsL,Æ,Þ,or_false]at hw;rcases hw with rfl|rfl|rfl|rfl|rfl|rfl|rfl<;>decide
 refine WS ?_;walk_at "p";refine fE (xs:=ws.map Val.str++[.int c]) (lo:=d8) (hi:=d7 (-1)) (by rw[Ü,À];intro z;have:=z.2;unfold fm at this;simp at this;lia) ?_;rw[hc];refine' ⟨Ñ (by rw[À];exact hlen) (by decide),Yj (λ_=>d7<|.bl d9) trivial (λv hv K hK=>?_) ?_⟩
 .obtain⟨u,_,rfl⟩:=å.mp hv;walk_at "p";exact hK
 rw[show(ws.map Val.str).filterMap (λ_=>d7<|Val.bl d9)=(ws.map λ_=>d9).map Val.bl by rw[θ,ú];exact congrFun (Λ (f:=λ_:String=>Val.bl d9)) ws];refine Zc λp1 g1 bx x1 e1=>?_
 exists MF (bs:=ws.map λ_=>d9) e1 (Yo _)
 have ha:(ws.map λ_=>d9).all id=d9:=by simp
 fail;refine fH (by simp) ?_;fail;have hin:∀{h:Hs},eW h .notin (.tup<|ws.map .str) (.tup<|wordsL.map λl=>.tup<|l.map .str)=d7 ee:=λ{h}=>by simp only[wordsL,Æ,Þ,or_false]at hw;rcases hw with rfl|rfl|rfl|rfl|rfl|rfl|rfl<;>rfl
 refine eF (a:=ee) hin ?_;walk_at "p";refine eK hlast ?_
 exists XX
 walk_at "p";refine eK hlast ?_;refine' k g1 x1
inductive Dd where
 |tick (b:Int)|come (b:Int)|lost (b:Int)|fallB (b:Int)|fallT (b:Int)|backB (b:Int)|backT (b:Int)
abbrev Dd.ws:Dd->List String
 |.tick _=>["tick"]|.come _=>["come"]|.lost _=>["lost"]|.fallB _=>["fall","bridge"]|.fallT _=>["fall","tie"]|.backB _=>["back","bridge"]|.backT _=>["back","tie"]
abbrev Dd.num:Dd->Int
 |.tick c=>c|.come c=>c|.lost c=>c|.fallB c=>c|.fallT c=>c|.backB c=>c|.backT c=>c
abbrev Dd.fn:Dd->String
 |.tick _=>"Yard.tick_of" | .come _=>"Yard.come" | .lost _=>"Yard.take_off" | .fallB _=>"Yard.fall_of_bridge" | .fallT _=>"Yard.fall_of_tie" | .backB _=>"Yard.back_of_bridge" | .backT _=>"Yard.back_of_tie"
noncomputable abbrev Dd.v(d:Dd):Val:=.tup<|d.ws.map .str++[.int d.num]
def Dd.words(d:Dd):d.ws∈wordsL:=by cases d<;>simp[Dd.ws,wordsL]
def Ym(x:Ext h g)(hp:g p=d8):h p=d8:=by
 cases z:h p with
 |none=>rfl
 |some o=>rw[x.get z]at hp;cases hp
variable {ts:List Tie}
def FC{i:Int}(h0:0<=i)(h1:i<ts.length):atI (ts.map trV) i=d7 (trV<|ts[i.toNat]?.getD (0,0,0)):=by
 have h2:i.toNat<ts.length:=by lia
 refine Xk h0 ?_;rw[Õ,Ê h2];rfl
def A6{pre:List En}(x:eQ h Y)(he:Y.es=pre++e::Ĵ)(o:e.B.ok)(hp:∀q∈e.B.ties,q.1<Y.ts.length)(hr:Y.road.length<=100000)
  (k:∀d g,eQ g {Y with es:=pre++⟨e.num,e.b,e.t,d,e.B.ticked⟩::Ĵ,road:=Y.road++Yu Y.ts e.num e.B.told}->h d=d8->Ex Y.adr h g->Q .non g):wF P (n+5) "Yard.tick_of" [.ref Y.y,.int e.num] h Q X:=by
 have hm:e∈Y.es:=by rw[he];simp
 have lk:(stands Y.es).lookup e.num=d7 e.b:=Jm (by rw[ZL];exact x.key)<|å.mpr ⟨e,hm,rfl⟩;obtain⟨xi,xl,xs,xf,xr,xb,xnd,xk⟩:=id x;refine Xp ?_
 exists Yk xs rfl
 rw[Z8,lk];walk_at "p";refine Z2 xs rfl (by rw[Z9,lk];rfl) ?_;have ba:=xb e hm;have bi:=ba.ins;refine' GD ba o λp d g1 bx hd1 ba1 ep x1 npd=>?_;have Y1:=x.change he x1 ba1 (.inl rfl)<|.inr hd1;obtain⟨yi,yl,ys,yf,yr,yb,ynd,yk⟩:=id Y1;dsimp only at yi yl ys yf yr yb;have npa:∀a∈Y.adr,a≠p:=λa ha z=>x.taken ha<|z▸bx;have npr:Y.rd≠p:=npa _ (Ù _<|by simp);have hbm:e.b∈Y.adr:=É _ (WM hm).1;have cL:(sortI (e.B.told.ties.map (·.1))).length<=16:=by rw[sortI,Υ,À];exact o.told.tlen
 have htie:∀i∈sortI (e.B.told.ties.map (·.1)),0<=i/\i<Y.ts.length:=λi hi=>by obtain⟨q,hq,rfl⟩:=å.mp<|mem_sort.mp hi;rw[show e.B.told.ties=e.B.ties from (Xa e.B.grown<|YN e.B.grown).2.1]at hq;exact⟨(o.rg q hq).1,hp q hq⟩
 refine' Zo (λi en g=>Sm3 λv2 v3 v4=>Cj4 (en=[d7<|.ref Y.y,d7<|.int e.num,v2,v3,v4]) (eQ g {Y with es:=pre++⟨e.num,e.b,e.t,d,e.B.ticked⟩::Ĵ,road:=Y.road++(Yu Y.ts e.num e.B.told).take i}) (g p=d7 (.lst<|ZZ e.B.told))<|Ex Y.adr h g) ⟨_,_,_,rfl,by rw[List.take_zero,ð];exact Y1,ep,x1.sub λa ha=>by rw[Ý.mp ha];exact hbm⟩ (λi en g _ ⟨_,_,_,_,_,z,_⟩=>lsE z) ?_ ?_
 .rintro i v en g hv ⟨v2,v3,v4,rfl,Yi,ep,xi⟩ K hK;obtain⟨pl,hpl,rfl⟩:=ZH hv;have hplm:=ä hpl;obtain⟨r0,r1⟩:=htie pl hplm;have et:=FC (ts:=Y.ts) r0 r1;obtain⟨zi,zl,zs,zf,zr,zb,znd,zk⟩:=id Yi;dsimp only at zi zl zs zf zr zb;have hil:=(Ï.mp hpl).1
  exists eK (xs:=[.tup<|Y.bs.map .int,.tup<|Y.ts.map trV]) (v:=.tup<|Y.ts.map trV) rfl
  exists eK et
  exists DJ
  refine' Zz zr ?_ ?_
  .rw[À,Ü,ÿ];exact Ñ (by lia:_<=100016) (by decide)
  dsimp only;have es:(Yu Y.ts e.num e.B.told)[i]?=d7 (e.num,Lj Y.ts pl e.num,pl,ZG e.B.told pl):=by unfold Yu;rw[Õ,hpl];rfl
  have Y2:=Yi.setRoad<|Y.road++(Yu Y.ts e.num e.B.told).take (i+1);dsimp only at Y2;have er:(Y.road++(Yu Y.ts e.num e.B.told).take i).map rdV++[rdV (e.num,Lj Y.ts pl e.num,pl,ZG e.B.told pl)]=(Y.road++(Yu Y.ts e.num e.B.told).take (i+1)).map rdV:=by rw[Zf es,<-Ď,Ó (l₂:=[_])];rfl
  have er':(Y.road++(Yu Y.ts e.num e.B.told).take i).map rdV++[.tup [.int e.num,.int<|far (Y.ts[pl.toNat]?.getD (0,0,0)) e.num,.int pl,(ZG e.B.told pl).v]]=(Y.road++(Yu Y.ts e.num e.B.told).take (i+1)).map rdV:=er;rw[er'];refine' hK _ _ ⟨_,_,_,rfl,Y2,(ei npr.symm).trans ep,xi.trans<|Ex.upd<|Ù _<|by simp⟩
 .rintro en g ⟨v2,v3,v4,rfl,Yi,ep,xi⟩;rw[show(ZZ e.B.told).length=(Yu Y.ts e.num e.B.told).length by unfold ZZ Yu;rw[À,À],ô]at Yi;refine' k d g Yi hd1 xi
def Gu{d:Dd}(x:eQ h Y)(k:∀(g:Hs) (Q':Q1),Ext h g->eQ g Y->(∀v g',Q .non g'->Q' v g')->wF P (n+5) d.fn [.ref Y.y,.int d.num] g Q' X):wF P (n+6) "Yard.deed" [.ref Y.y,d.v] h Q X:=by
 have xi0:=x.ins;refine WQ ?_;refine' GF d.words λg1 x1=>?_;have x':=x.ext x1;have xi:=x'.ins;cases d<;>(
   fail
   repeat (first
     |(refine eF (a:=ee) rfl ?_;fail;refine fH rfl ?_;fail)
     | (refine eF (a:=d9) rfl ?_;fail;refine fG rfl ?_;fail))
   refine k g1 _ x1 x' λv g' q=>?_
   refine' q)
structure Yc where
 bs:List Int
 ts:List Tie
 most:Int
 lives:List<|Int×Int
 br:List<|Int×Br
 fallen:List<|Int×Bool
 road:List<|Int×Int×Int×L
abbrev enC(es:List En):List<|Int×Br:=es.map λe=>(e.num,e.B)
abbrev Yd.cc(Y:Yd):Yc:=⟨Y.bs,Y.ts,Y.most,Y.lives,enC Y.es,Y.fallen,Y.road⟩
abbrev upC(k:Int)(F:Br->Br)(l:List<|Int×Br):List<|Int×Br:=l.map λq=>if q.1=k then(q.1,F q.2)else q
abbrev Il(on:Bool)(p:Int)(t:Tie)(l:List<|Int×Br):List<|Int×Br:=upC t.2.1 (tieF on p t.1 t.2.2)<|upC t.1 (tieF on p t.2.1 t.2.2) l
abbrev Yc.tie(C:Yc)(p:Int):Tie:=C.ts[p.toNat]?.getD (0,0,0)
abbrev onC(C:Yc)(p:Int):Bool:=!(C.fallen.lookup p).isSome&&((C.br.lookup (C.tie p).1).isSome&&(C.br.lookup (C.tie p).2.1).isSome)
abbrev Yc.set1(C:Yc)(p:Int):Yc:={C with br:=Il (onC C p) p (C.tie p) C.br}
abbrev Yc.sets(C:Yc)(l:List Tie):Yc:=l.foldl (λC r=>C.set1 r.1) C
def Xo(es:List En):(enC es).map (·.1)=es.map (·.num):=by unfold enC;rw[ú];rfl
def look_iff{k:Int}:(kvs.lookup k).isSome=gg (k∈kvs.map (·.1)):=by
 cases z:kvs.lookup k with
 |none=>exact(f9<|XG z).symm
 |some v=>exact(gb (û (f:=(·.1))<|ZC z)).symm
def Ji{k:Int}(es:List En):enC (Yt k F es)=upC k F (enC es):=by
 unfold enC Yt upC;rw[ú,ú];refine Ġ λe _=>?_;show((if e.num=k then({e with B:=F e.B}:En)else e).num,(if e.num=k then({e with B:=F e.B}:En)else e).B)=if e.num=k then(e.num,F e.B)else(e.num,e.B)
 split<;>rfl
def CS{p:Int}{t:Tie}(es:List En):enC (setT on p t es)=Il on p t (enC es):=by unfold setT Il;rw[Ji,Ji]
def Id{k:Int}:((enC es).lookup k).isSome=((stands es).lookup k).isSome:=look_iff.trans ((decide_eq_decide.mpr<|by rw[Xo,ZL]).trans look_iff.symm)
def RK{p:Int}:onT Y p (Y.ts[p.toNat]?.getD (0,0,0))=onC Y.cc p:=by unfold onT onC;rw[<-Id,<-Id];rfl
def Oc{p:Int}:({Y with es:=setT (onT Y p<|Y.ts[p.toNat]?.getD (0,0,0)) p (Y.ts[p.toNat]?.getD (0,0,0)) Y.es}:Yd).cc=Y.cc.set1 p:=by rw[RK];unfold Yd.cc Yc.set1;dsimp only;rw[CS];rfl
def OX:∀(l:List Tie) (Y:Yd),(ZX Y l).cc=Y.cc.sets l
 |[],_=>rfl
 |r::l,Y=>(OX l _).trans (congrArg (Yc.sets · l)<|Oc (Y:=Y) (p:=r.1))
abbrev step(C:Yc):Dd->Option Yc
 |.tick b=>(C.br.lookup b).map λB=>{C with br:=upC b Br.ticked C.br,road:=C.road++Yu C.ts b B.told}
 |.come p=>if p<0 then d8 else(C.road[p.toNat]?).map λr=>{C with br:=upC r.2.1 (YE · r.2.2.1 r.2.2.2) C.br,road:=C.road.eraseIdx p.toNat}
 |.lost p=>if p<0 then d8 else(C.road[p.toNat]?).map λr=>{C with road:=C.road.eraseIdx p.toNat}
 |.fallB b=>if(C.br.lookup b).isSome then d7 (Yc.sets {C with br:=Zx C.br b}<|fS b 0 C.ts)else d8
 |.fallT p=>if(0<=p/\p<C.ts.length)/\(C.fallen.lookup p).isSome=ee then d7 (Yc.set1 {C with fallen:=ZA C.fallen p d9} p)else d8
 |.backB b=>if(C.br.lookup b).isSome then d8 else(C.lives.lookup b).map λl=>Yc.sets {C with lives:=ZA C.lives b<|l+1,br:=C.br++[(b,Z6 b (l+1) C.most [])]}<|fS b 0 C.ts
 |.backT p=>if(C.fallen.lookup p).isSome then d7 (Yc.set1 {C with fallen:=Zx C.fallen p} p)else d8
structure Bok(m:Nat)(B:Br):Prop where
 ok:B.ok
 pl:∀t∈B.ties,t.1<m
def Bok.ticked{m:Nat}(o:Bok m B):Bok m B.ticked:=⟨o.ok.ticked,λt ht=>o.pl t<|by rwa [show B.ticked.ties=B.ties from (Xa B.grown<|YN B.grown).2.1]at ht⟩
def Bok.heard{m:Nat}(o:Bok m B){p:Int}{l:L}:Bok m<|YE B p l:=⟨o.ok.heard,λt ht=>o.pl t<|by revert ht;unfold YE;split<;>(try split)<;>exact id⟩
def Bok.tieF{m:Nat}(o:Bok m B){p far:Int}(h0:0<=p)(h1:p<m)(hm:m<=16):Bok m<|fY.tieF on p far c B:=⟨Mp o.ok h0 (by lia),λt ht=>by
  unfold fY.tieF at ht
  split at ht
  . unfold upB at ht
    split at ht
    . exact o.pl t ht
    . rcases Jb ht with e|ht
      . rw[e];exact h1
      . exact o.pl t ht
  . exact o.pl t<|YL ht⟩
structure Yc.gd(C:Yc)(N:Nat):Prop where
 no:eY C.bs C.ts
 nd:(C.br.map (·.1)).Nodup
 sub:∀q∈C.br,q.1∈C.bs
 ok:∀q∈C.br,Bok C.ts.length q.2
 lv:C.lives.map (·.1)=C.bs
 fn:(C.fallen.map (·.1)).Nodup
 fr:∀q∈C.fallen,0<=q.1/\q.1<C.ts.length
 len:C.road.length<=16*N
def Jv{k:Int}(l:List<|Int×Br):(upC k F l).map (·.1)=l.map (·.1):=by unfold upC;rw[ú];refine Ġ λe _=>?_;show(if e.1=k then(e.1,F e.2)else e).1=e.1;split<;>rfl
def Go{k:Int}{l:List (Int×Br)}{R:Br->Prop}(h:∀q∈l,R q.2)(hF:∀B,R B->R (F B)):∀q∈upC k F l,R q.2:=λq hq=>by
 obtain⟨e,he,rfl⟩:=å.mp hq;split
 .exact hF _<|h e he
 .exact h e he
def keys_sub{l:List (Int×Br)}{bs:List Int}:(∀q∈l,q.1∈bs)↔∀x∈l.map (·.1),x∈bs:=⟨λh x hx=>by obtain⟨q,hq,rfl⟩:=å.mp hx;exact h q hq,λh q hq=>h _<|û hq⟩
variable {C:Yc} {N:Nat} {M:Nat} {rd:List (Int×Int×Int×L)}
def Yc.gd.upC{k:Int}(g:C.gd N)(hF:∀B,Bok C.ts.length B->Bok C.ts.length (F B))(hr:rd.length<=16*M):({C with br:=fY.upC k F C.br,road:=rd}:Yc).gd M :=
 ⟨g.no,by show((fY.upC k F C.br).map (·.1)).Nodup;rw[Jv];exact g.nd,keys_sub.mpr (by show ∀x∈(fY.upC k F C.br).map (·.1),_;rw[Jv];exact keys_sub.mp g.sub),Go g.ok hF,g.lv,g.fn,g.fr,hr⟩
def Yc.gd.set1{p:Int}(g:C.gd N)(h0:0<=p)(h1:p<C.ts.length):(C.set1 p).gd N :=
 (g.upC (M:=N) (k:=(C.tie p).1) (F:=tieF (onC C p) p (C.tie p).2.1 (C.tie p).2.2) (λ_ o=>o.tieF h0 h1 g.no.sixteen) g.len).upC (λ_ o=>o.tieF h0 h1 g.no.sixteen) g.len
def Yc.gd.sets{N:Nat}:∀{l:List Tie}{C:Yc},C.gd N->(∀r∈l,0<=r.1/\r.1<C.ts.length)->(C.sets l).gd N
 |[],_,g,_=>g
 |r::l,C,g,h=>Yc.gd.sets (l:=l) (C:=C.set1 r.1) (g.set1 (h r<|by simp).1 (h r<|by simp).2) λq hq=>h q (by simp[hq])
def Yc.gd.more(g:C.gd N)(h:N<=M):C.gd M:=⟨g.no,g.nd,g.sub,g.ok,g.lv,g.fn,g.fr,ß g.len<|dq _ h⟩
def JN:∀(l:List Tie) (C:Yc),(C.sets l).bs=C.bs/\(C.sets l).ts=C.ts/\(C.sets l).most=C.most
 |[],_=>⟨rfl,rfl,rfl⟩
 |r::l,C=>JN l<|C.set1 r.1
def DG{b:Int}:∀r∈fS b 0 ts,0<=r.1/\r.1<ts.length:=λr hr=>by have:=(JW (b:=b) (l:=ts) (k:=0)).2 r hr;lia
def keys_look{b:Int}:(C.br.lookup b).isSome=d9↔b∈C.br.map (·.1):=by rw[look_iff];simp
def AK{b:Int}(o:B.ok):(Yu ts b B.told).length<=16:=by unfold Yu;rw[À,sortI,Υ,À];exact o.told.tlen
def FV{D:Yc}{d:Dd}(g:C.gd N)(s:step C d=d7 D):D.gd (N+1)/\D.bs=C.bs/\D.ts=C.ts/\D.most=C.most:=by
 have hlen:=g.len;cases d with
 |tick b =>obtain⟨B,hB,rfl⟩:=Ð.mp s;have ok:B.ok:=(g.ok _<|ZC hB).ok;have:=AK (ts:=C.ts) (b:=b) ok;exact⟨g.upC (λ_ o=>o.ticked) (by rw[Ü];lia),rfl,rfl,rfl⟩
 |come p =>
  dsimp only[step]at s;split at s
  .cases s
  .obtain⟨r,hr,rfl⟩:=Ð.mp s;exact⟨g.upC (λ_ o=>o.heard)<|ß (bE _ _)<|by lia,rfl,rfl,rfl⟩
 |lost p =>
  dsimp only[step]at s;split at s
  .cases s
  .obtain⟨r,hr,rfl⟩:=Ð.mp s;exact⟨⟨g.no,g.nd,g.sub,g.ok,g.lv,g.fn,g.fr,ß (bE _ _)<|by lia⟩,rfl,rfl,rfl⟩
 |fallB b =>
  dsimp only[step]at s;split at s
  .cases s;refine⟨Yc.gd.more (Yc.gd.sets ⟨g.no,YY g.nd b,λq hq=>g.sub q<|YL hq,λq hq=>g.ok q<|YL hq,g.lv,g.fn,g.fr,hlen⟩ DG) (by lia),?_⟩;obtain⟨e1,e2,e3⟩:=JN (fS b 0 C.ts) {C with br:=Zx C.br b};exact⟨e1,e2,e3⟩
  .cases s
 |fallT p =>
  dsimp only[step]at s;split at s
  .rename_i h;cases s;refine⟨Yc.gd.more (Yc.gd.set1 ⟨g.no,g.nd,g.sub,g.ok,g.lv,WO g.fn p d9,λq hq=>?_,hlen⟩ h.1.1 h.1.2) (by lia),rfl,rfl,rfl⟩;rcases Jb hq with e|hq
   .rw[e];exact h.1
   .exact g.fr q hq
  .cases s
 |backB b =>
  dsimp only[step]at s;split at s
  .cases s
  .rename_i h;obtain⟨l,hl,rfl⟩:=Ð.mp s;have hk:(C.lives.lookup b).isSome=d9:=by rw[hl];rfl
   have hb:b∈C.bs:=by rw[<-g.lv];rw[look_iff]at hk;exact of_decide_eq_true hk
   have hn:b∉C.br.map (·.1):=λz=>h<|keys_look.mpr z;refine⟨Yc.gd.more (Yc.gd.sets ⟨g.no,?_,λq hq=>?_,λq hq=>?_,?_,g.fn,g.fr,hlen⟩ DG) (by lia),?_⟩
   .show((C.br++[(b,Z6 b (l+1) C.most [])]).map (·.1)).Nodup;rw[Ó,é];exact⟨g.nd,by simp,λa ha c hc=>by have hc:c=b:=Ý.mp hc;rw[hc];exact λz=>hn<|z▸ha⟩
   .rcases â.mp hq with hq|hq
    .exact g.sub q hq
    .rw[Ý.mp hq];exact hb
   .rcases â.mp hq with hq|hq
    .exact g.ok q hq
    .rw[Ý.mp hq];exact⟨UL,λt ht=>nomatch ht⟩
   .show(ZA C.lives b<|l+1).map (·.1)=_;rw[Kk,fZ hk];exact g.lv
   .exact JN (fS b 0 C.ts) {C with lives:=ZA C.lives b<|l+1,br:=C.br++[(b,Z6 b (l+1) C.most [])]}
 |backT p =>
  dsimp only[step]at s;split at s
  .rename_i h;cases s;obtain⟨v,hv⟩:=õ.mp h;have hp:=g.fr _<|ZC hv;exact⟨Yc.gd.more (Yc.gd.set1 ⟨g.no,g.nd,g.sub,g.ok,g.lv,YY g.fn p,λq hq=>g.fr q<|YL hq,hlen⟩ hp.1 hp.2) (by lia),rfl,rfl,rfl⟩
  .cases s
def WH{b:Int}:(Y.cc.br.lookup b).isSome=((stands Y.es).lookup b).isSome:=Id
def Ux{pre:List En}(he:Y.es=pre++e::Ĵ)(nd:(Y.es.map (·.num)).Nodup):enC (pre++⟨e.num,e.b,t,d,F e.B⟩::Ĵ)=upC e.num F (enC Y.es):=by rw[he]at nd ⊢;rw[<-Ji,NS nd];unfold enC;rw[Ó,Ó];rfl
def Up{pre:List En}(he:Y.es=pre++e::Ĵ)(ht:t=e.t)(hd:d=e.d\/h d=d8):∀a∈({Y with es:=pre++⟨e.num,e.b,t,d,B⟩::Ĵ,road:=rd}:Yd).adr,a∈Y.adr\/h a=d8:=λa ha=>by
 subst ht;unfold Yd.adr at ha ⊢;rw[he,YS];dsimp only at ha;rw[YS]at ha;simp only[â,Æ,Þ,or_false]at ha ⊢;rcases hd with rfl|hd
 .exact .inl ha
 .rcases ha with ha|ha|(rfl|rfl|rfl)|ha
  .exact .inl<|.inl ha
  .exact .inl<|.inr<|.inl ha
  .exact .inl<|.inr<|.inr<|.inl<|.inl rfl
  .exact .inl<|.inr<|.inr<|.inl<|.inr<|.inl rfl
  .exact .inr hd
  .exact .inl<|.inr<|.inr<|.inr ha
def Oy:∀{l bs:List Int},l.Nodup->(∀x∈l,x∈bs)->l.length<=bs.length
 |[],_,_,_=>Ň _
 |a::l,bs,nd,h=>by have ha:=h a (by simp);have:=Oy (l:=l) (bs:=bs.erase a) (ĉ.mp nd).2 λx hx=>(List.mem_erase_of_ne λz:x=a=>(ĉ.mp nd).1<|z▸hx).mpr (h x<|by simp[hx]);rw[bq ha]at this;have:=List.length_pos_of_mem ha;rw[Ç];lia
def W9{p:Int}{β:Type}{f:Int×Int×Int×L->β}(hp:¬(0<=p/\p<Y.road.length)):(if p<0 then d8 else(Y.cc.road[p.toNat]?).map f)=d8:=by
 split
 .rfl
 .rw[show Y.cc.road[p.toNat]?=d8 from Ŭ<|by show Y.road.length<=_;lia];rfl
structure Mv(h:Hs)(Y:Yd)(g:Hs)(Z:Yd):Prop where
 y:Z.y=Y.y
 at_:eQ g Z
 nw:∀a∈Z.adr,a∈Y.adr\/h a=d8
 ex:Ex Y.adr h g
def Mv.refl(x:eQ h Y):Mv h Y h Y:=⟨rfl,x,λ_=>.inl,Ex.refl⟩
def Mv.off(m:Mv h Y g Z)(na:a∉Y.adr)(e:h a=d7 o):a∉Z.adr/\g a=d7 o:=⟨λz=>(m.nw a z).elim na λy=>(by rw[e]at y;cases y),m.ex.get na e⟩
def Mv.trans{f:Hs}(m:Mv h Y g Z)(l:Mv g Z f W):Mv h Y f W:=by
 refine⟨l.y.trans m.y,l.at_,λa ha=>?_,⟨λna e=>let ⟨h1,h2⟩:=m.off na e;l.ex.get h1 h2⟩⟩;rcases l.nw a ha with z|z
 .exact m.nw a z
 .by_cases na:a∈Y.adr
  .exact .inl na
  .cases e:h a with
   |none=>exact .inr rfl
   |some o=>rw[m.ex.get na e]at z;cases z
def Mv.ext{f:Hs}(m:Mv h Y g Z)(x:Ext g f):Mv h Y f Z:=⟨m.y,m.at_.ext x,m.nw,m.ex.trans<|.of x⟩
def Mv.put(m:Mv h Y g Z)(hp:h p=d8)(np:p∉Z.adr):Mv h Y (upd g p o) Z:=⟨m.y,m.at_.keep (S:=[p]) (Ex.upd<|by simp) λa ha z=>np<|Ý.mp z▸ha,m.nw,⟨λna e=>by rw[ei<|Zb e hp];exact m.ex.get na e⟩⟩
def MY{b:Int}(h:(stands es).lookup b=d8):b∉es.map (·.num):=by rw[<-ZL];exact XG h
section
variable {Y:Yd}
def JR{p:Int}(x:eQ h Y)(hp:¬(0<=p/\p<Y.road.length))(k:X "NoDeed" h):wF P (n+1) "Yard.take_off" [.ref Y.y,.int p] h Q X:=by
 have xi:=x.ins;have xr:=x.road;have hrl:(Y.road.map rdV).length=Y.road.length:=À _;refine Xd ?_;refine' fI (λp0=>?_) (λp0=>?_)
 .fail;refine fG (by rw[hrl];simp;lia) ?_;refine' k
 .walk_at "p";exact k
def Yy{d:Dd}(x:eQ h Y)(gd:Y.cc.gd N)(hN:N<=6000)(k:∀(Y':Yd) g',step Y.cc d=d7 Y'.cc->Mv h Y g' Y'->Q .non g')(kx:∀g',step Y.cc d=d8->eQ g' Y->Ext h g'->X "NoDeed" g'):wF P (n+6) "Yard.deed" [.ref Y.y,d.v] h Q X:=by
 refine Gu x λg Q' x1 x' hq=>?_;have no:eY Y.bs Y.ts:=gd.no;have ok:∀e∈Y.es,Bok Y.ts.length e.B:=λe he=>gd.ok (e.num,e.B)<|å.mpr ⟨e,he,rfl⟩;have oks:∀e∈Y.es,e.B.ok:=λe he=>(ok e he).ok;have hl:Y.road.length<=16*N:=gd.len;have key:=x.key;have xi:=x'.ins;have xs:=x'.stand;have xf:=x'.fallen;have xl:=x'.lives;have fin:∀{Y':Yd} {g'},eQ g' Y'->step Y.cc d=d7 Y'.cc->Y'.y=Y.y->(∀a∈Y'.adr,a∈Y.adr\/g a=d8)->Ex Y.adr g g'->∀v,Q' v g':=λ{Y' g'} y s e f ex v=>hq v g'<|k Y' g' s ⟨e,y,λa ha=>(f a ha).imp id λz=>Ym x1 z,(Ex.of x1).trans ex⟩;have bad:step Y.cc d=d8->X "NoDeed" g:=λs=>kx g s x' x1;have h10:Y.lives.length<=10:=by have e:=congrArg List.length gd.lv;rw[À]at e;have:=no.ten;have:Y.cc.bs.length=Y.bs.length:=rfl;have:Y.cc.lives.length=Y.lives.length:=rfl;lia
 have e10:Y.es.length<=10:=by
  have:=Oy gd.nd<|keys_sub.mp gd.sub;have h2:(Y.cc.br.map (·.1)).length=Y.es.length:=by show((enC Y.es).map (·.1)).length=_;rw[Xo,À]
  have:=no.ten;have:Y.cc.bs.length=Y.bs.length:=rfl;lia
 have f16:Y.fallen.length<=16:=by
  have:=Yg (m:=16) gd.fn λx hx=>by obtain⟨q,hq,rfl⟩:=å.mp hx;have:=gd.fr q hq;have:=no.sixteen;have:Y.cc.ts.length=Y.ts.length:=rfl;lia
  rw[À]at this;exact this
 cases d with
 |tick b =>
  show wF P (n+5) "Yard.tick_of" [.ref Y.y,.int b] g Q' X;cases lk:(stands Y.es).lookup b with
  |none =>
   refine Xp ?_
   exists Yk xs rfl
   rw[Z8,lk];walk_at "p";refine bad ?_;have:=WH (Y:=Y) (b:=b);rw[lk]at this;show(Y.cc.br.lookup b).map _=d8;rw[Option.isSome_eq_false_iff.mp this |> aF.mp];rfl
  |some a =>
   obtain⟨e,pre,Ĵ,he,rfl,rfl⟩:=Xy lk;have hm:e∈Y.es:=by rw[he];simp
   refine A6 x' he (oks e hm) (ok e hm).pl (by lia) λd' g2 y2 hd x2=>?_;refine fin y2 ?_ rfl (Up he rfl<|.inr hd) x2 .non;show(Y.cc.br.lookup e.num).map _=_;rw[show Y.cc.br.lookup e.num=d7 e.B from Jm gd.nd<|å.mpr ⟨e,hm,rfl⟩];unfold Yd.cc;dsimp only;rw[Ux (F:=Br.ticked) he key];rfl
 |come p =>
  show wF P (n+5) "Yard.come" [.ref Y.y,.int p] g Q' X;by_cases hp:0<=p/\p<Y.road.length
  .obtain⟨q,rfl⟩:∃q:Nat,p=q:=⟨p.toNat,by lia⟩
   have hr:=Ê (l:=Y.road) (i:=q) (by lia);generalize Y.road[q]'(by lia)=r at hr;have st:step Y.cc (.come q)=d7 {Y.cc with br:=upC r.2.1 (YE · r.2.2.1 r.2.2.2) Y.cc.br,road:=Y.road.eraseIdx q}:=by show(if(q:Int)<0 then d8 else(Y.road[(q:Int).toNat]?).map _)=_;rw[f8 (by lia),ã,hr];rfl
   cases lk:(stands Y.es).lookup r.2.1 with
   |none =>refine DQ x' hr (by lia) (MY lk) λg2 y2 x2=>fin y2 ?_ rfl (λa ha=>.inl ha) x2 .non;rw[st];unfold Yd.cc;dsimp only;rw[<-Ji,Wd<|MY lk]
   |some a =>
    obtain⟨e,pre,Ĵ,he,hn,rfl⟩:=Xy lk;have hm:e∈Y.es:=by rw[he];simp
    refine FK x' hr (by lia) he hn.symm (oks e hm) λg2 y2 x2=>fin y2 ?_ rfl (Up he rfl<|.inl rfl) x2 .non;rw[st];unfold Yd.cc;dsimp only;rw[<-hn,Ux (F:=(YE · r.2.2.1 r.2.2.2)) he key]
  .refine Xl ?_;refine' JR x' hp (bad<|W9 hp)
 |lost p =>
  show wF P (n+5) "Yard.take_off" [.ref Y.y,.int p] g Q' X;by_cases hp:0<=p/\p<Y.road.length
  .obtain⟨q,rfl⟩:∃q:Nat,p=q:=⟨p.toNat,by lia⟩
   have hr:=Ê (l:=Y.road) (i:=q) (by lia);refine X6 x' hr (by lia) λg2 y2 x2=>fin y2 ?_ rfl (λa ha=>.inl ha) (x2.sub λa ha=>by rw[Ý.mp ha];exact Ù _<|by simp) _;show(if(q:Int)<0 then d8 else(Y.road[(q:Int).toNat]?).map _)=_;rw[f8 (by lia),ã,hr];rfl
  .exact JR x' hp<|bad<|W9 hp
 |fallB b =>
  show wF P (n+5) "Yard.fall_of_bridge" [.ref Y.y,.int b] g Q' X;have lc:=WH (Y:=Y) (b:=b);cases lk:(stands Y.es).lookup b with
  |none =>
   rw[lk]at lc;refine ZW ?_
   exists Yk xs rfl
   rw[Z8,lk];walk_at "p";exact bad (f8<|by rw[lc];decide)
  |some a =>
   rw[lk]at lc;refine Ee no x' oks (by rw[<-ZL];exact û (f:=(·.1))<|ZC lk) λg2 y2 gd2 x2=>?_;have sm:=YW (fS b 0 Y.ts) {Y with es:=YM b Y.es};refine fin y2 ?_ sm.y (λa ha=>.inl ?_) x2 .non
   .rw[OX];refine(fZ lc).trans ?_;congr 2;unfold Yd.cc;dsimp only;congr 1;unfold Zx enC YM;rw[List.filter_map];rfl
   .rw[sm.adr]at ha;exact((ś _).append<|Jc<|XJ b Y.es).subset ha
 |fallT p =>
  show wF P (n+5) "Yard.fall_of_tie" [.ref Y.y,.int p] g Q' X;have cL:(Y.ts.map trV).length=Y.ts.length:=À _;by_cases hp:0<=p/\p<Y.ts.length
  .obtain⟨q,rfl⟩:∃q:Nat,p=q:=⟨p.toNat,by lia⟩
   have et:=Ê (l:=Y.ts) (i:=q) (by lia);have eg:Y.ts[(q:Int).toNat]?.getD (0,0,0)=Y.ts[q]'(by lia):=by rw[ã,et];rfl
   cases lk:Y.fallen.lookup (q:Int)with
   |none =>
    refine Cc no x' oks et lk (by lia) λg2 y2 x2=>fin y2 ?_ rfl (λa ha=>.inl ?_) x2 .non
    .refine(fZ ⟨hp,by show(Y.fallen.lookup _).isSome=ee;rw[lk];rfl⟩).trans<|congrArg d7 ?_;have:=Oc (Y:={Y with fallen:=ZA Y.fallen q d9}) (p:=q);dsimp only at this;rw[eg]at this;exact this.symm
    .unfold Yd.adr at ha ⊢;dsimp only at ha
     rwa [Js]at ha
   |some v =>
    refine ZO ?_
    exists ZS
    fail;refine fG (by simp) ?_
    exists eK (xs:=[.tup<|Y.bs.map .int,.tup<|Y.ts.map trV]) (v:=.tup<|Y.ts.map trV) rfl
    fail;refine fH (by rw[cL];simpa using hp.2) ?_
    exists WA xf rfl
    rw[Z8,lk];walk_at "p";exact bad (f8 λz=>by have z:=z.2;have:(Y.fallen.lookup (q:Int)).isSome=ee:=z;rw[lk]at this;cases this)
  .refine ZO ?_
   exists ZS
   fail;have bd:=bad<|f8 λz=>hp z.1;refine fI (λp0=>?_) λp0=>?_
   .exists eK (xs:=[.tup<|Y.bs.map .int,.tup<|Y.ts.map trV]) (v:=.tup<|Y.ts.map trV) rfl
    fail;refine fG (by rw[cL];simp;lia) ?_;walk_at "p";exact bd
   .walk_at "p";exact bd
 |backB b =>
  show wF P (n+5) "Yard.back_of_bridge" [.ref Y.y,.int b] g Q' X;have lc:=WH (Y:=Y) (b:=b);cases ll:Y.lives.lookup b with
  |none =>
   refine ZD ?_
   exists Yk xl rfl
   rw[Z8,ll];fail;walk_at "p";refine bad ?_;dsimp only[step];split
   .rfl
   .show(Y.lives.lookup b).map _=d8;rw[ll];rfl
  |some life =>
   cases lk:(stands Y.es).lookup b with
   |some a =>
    rw[lk]at lc;refine ZD ?_
    exists Yk xl rfl
    rw[Z8,ll];walk_at "p";refine WA xs rfl ?_;rw[Z8,lk];walk_at "p";exact bad<|fZ lc
   |none =>
    rw[lk]at lc;refine Db no x' oks ll (MY lk) (by lia) (by lia) λq t d' g2 fr y2 gd2 x2=>?_;have sm:=YW (fS b 0 Y.ts) {Y with lives:=ZA Y.lives b<|life+1,es:=Y.es++[⟨b,q,t,d',Z6 b (life+1) Y.most []⟩]};refine fin y2 ?_ sm.y (λa ha=>?_) x2 .non
    .rw[OX];refine(f8<|by rw[lc];decide).trans ?_;show(Y.lives.lookup b).map _=_;rw[ll];congr 2;unfold Yd.cc;dsimp only;unfold enC;rw[Ó];rfl
    .rw[sm.adr]at ha;have z:a∈[Y.y,Y.lv,Y.st,Y.fl,Y.rd]++enA (Y.es++[⟨b,q,t,d',Z6 b (life+1) Y.most []⟩]):=ha;rw[Wa,<-Ď]at z;rcases â.mp z with z|z
     .exact .inl z
     .exact .inr<|fr a z
 |backT p =>
  show wF P (n+5) "Yard.back_of_tie" [.ref Y.y,.int p] g Q' X;cases lk:Y.fallen.lookup p with
  |none =>
   refine Yr ?_
   exists Yk xf rfl
   rw[Z8,lk];walk_at "p";exact bad (f8<|by show ¬(Y.fallen.lookup p).isSome=d9;rw[lk];decide)
  |some v =>
   have hp:=gd.fr _<|ZC lk;have cK:p<Y.ts.length:=hp.2;obtain⟨q,rfl⟩:∃q:Nat,p=q:=⟨p.toNat,by have:0<=p:=hp.1;lia⟩
   have et:=Ê (l:=Y.ts) (i:=q) (by lia);have eg:Y.ts[(q:Int).toNat]?.getD (0,0,0)=Y.ts[q]'(by lia):=by rw[ã,et];rfl
   refine Dc no x' oks et lk λg2 y2 x2=>fin y2 ?_ rfl (λa ha=>.inl ?_) x2 .non
   .refine(fZ<|by show(Y.fallen.lookup _).isSome=d9;rw[lk];rfl).trans<|congrArg d7 ?_;have:=Oc (Y:={Y with fallen:=Zx Y.fallen q}) (p:=q);dsimp only at this;rw[eg]at this;exact this.symm
   .unfold Yd.adr at ha ⊢;dsimp only at ha
    rwa [Js]at ha
end
abbrev Yc.at_(C:Yc)(b:Int):Br:=(C.br.lookup b).getD<|Z6 0 0 0 []
abbrev Yc.keys(C:Yc):List Int:=sortI (C.br.map (·.1))
abbrev MZ(C:Yc):List Val:=C.keys.map λb=>.tup [.int b,(C.at_ b).label.v]
abbrev Gn(C:Yc)(b p:Int):String:=if(C.br.lookup b).isSome then CT (C.at_ b) p else "down"
abbrev Yc.ends(C:Yc)(p:Int):String×String:=(Gn C (C.tie p).1 p,Gn C (C.tie p).2.1 p)
abbrev Yc.downs(C:Yc):List Int:=C.bs.filter λb=>!(C.br.lookup b).isSome
abbrev Yc.cuts(C:Yc):List Int:=sortI (C.fallen.map (·.1))
def Yc.gd.ten(g:C.gd N):(C.br.map (·.1)).length<=10:=ß (Oy g.nd<|keys_sub.mp g.sub) g.no.ten
def Yc.gd.f16(g:C.gd N):(C.fallen.map (·.1)).length<=16:=Yg (m:=16) g.fn λx hx=>by obtain⟨q,hq,rfl⟩:=å.mp hx;have:=g.fr q hq;have:=g.no.sixteen;lia
def XA:C.keys.length=(C.br.map (·.1)).length:=(Ń _ _).length_eq
def keys_mem{b:Int}:b∈C.keys↔(C.br.lookup b).isSome=d9:=by unfold Yc.keys;rw[mem_sort,keys_look]
def Nx:C.cuts.length=(C.fallen.map (·.1)).length:=(Ń _ _).length_eq
def eQ.at_(x:eQ h Y){b:Int}(hb:(Y.cc.br.lookup b).isSome=d9):∃e∈Y.es,e.num=b/\(fY.stands Y.es).lookup b=d7 e.b/\Y.cc.at_ b=e.B/\eP h e.b e.t e.d e.B:=by
 rw[WH]at hb;obtain⟨a,ha⟩:=õ.mp hb;obtain⟨e,pre,Ĵ,he,rfl,rfl⟩:=Xy ha;have hm:e∈Y.es:=by rw[he];simp
 refine⟨e,hm,rfl,ha,?_,x.brs e hm⟩;have:(enC Y.es).lookup e.num=d7 e.B:=Jm (by rw[Xo];exact x.key)<|å.mpr ⟨e,hm,rfl⟩;show((enC Y.es).lookup e.num).getD _=_;rw[this];rfl
section
variable {Y:Yd}{N:Nat}
def XE(x:eQ h Y)(k:∀p g,h p=d8->Ext h g->g p=d7 (.lst<|Y.road.map rdV)->Q (.ref p) g):wF P (n+1) "Yard.road" [.ref Y.y] h Q X:=by have xi:=x.ins;have xr:=x.road;refine NM ?_;refine' Zc k
def XI(x:eQ h Y)(k:Q (ZY Y.bs Y.ts) h):wF P (n+1) "Yard.net" [.ref Y.y] h Q X:=by have xi:=x.ins;refine OG ?_;refine' k
def YJ(x:eQ h Y)(gd:Y.cc.gd N)(k:∀p g,h p=d8->Ext h g->g p=d7 (.lst<|MZ Y.cc)->Q (.ref p) g):wF P (n+2) "Yard.labels" [.ref Y.y] h Q X:=by
 have xi:=x.ins;have xs:=x.stand;have ek:(stands Y.es).map (·.1)=Y.cc.br.map (·.1):=(ZL _).trans (Xo _).symm;have h10:=gd.ten;have kl:=XA (C:=Y.cc);refine Ky ?_;refine' MN xs (Uo _) (by rw[ek];lia) (Zc λp1 g1 bx x1 e1=>?_);rw[ek]at e1;have x':=x.ext x1;have xi:=x'.ins;have xs:=x'.stand;refine' ⟨Ñ (by rw[À];show Y.cc.keys.length<=10;lia) (by decide),?_⟩;refine Zt (λi ys g=>g=g1/\ys=(Y.cc.keys.take i).map λb=>.tup [.int b,(Y.cc.at_ b).label.v]) ⟨rfl,rfl⟩ (λi ys g _ ⟨z,_⟩=>by rw[z];exact lsE e1) ?_ ?_
 .rintro i v ys g hv ⟨rfl,rfl⟩ K hK;obtain⟨nm,hnm,rfl⟩:=ZH hv;obtain⟨e,he,en,lk,ea,ba⟩:=x'.at_<|keys_mem.mp<|ä hnm;have bi:=ba.ins;walk_at "p";refine Z2 xs rfl (by rw[Z9,lk];rfl) ?_
  exists DR ba
  refine' hK _ _ ⟨rfl,?_⟩;rw[Zf (xs:=Y.cc.keys) hnm,Ó,<-ea];rfl
 .rintro ys g ⟨rfl,rfl⟩;rw[À,show(sortI (Y.cc.br.map (·.1))).length=Y.cc.keys.length from rfl,ô];exact Zc λp g2 hp x2 ep=>k p g2 (Ym x1 hp) (x1.trans x2) ep
def Wu(x:eQ h Y)(gd:Y.cc.gd N)(k:∀g,Ext h g->Q (.tup [.tup<|Y.cc.downs.map .int,.tup<|Y.cc.cuts.map .int]) g):wF P (n+1) "Yard.down" [.ref Y.y] h Q X:=by
 have xi:=x.ins;have xs:=x.stand;have hbl:(Y.bs.map Val.int).length<=10:=by rw[À];exact gd.no.ten
 refine Na ?_
 exists eK (xs:=[.tup<|Y.bs.map .int,.tup<|Y.ts.map trV]) (v:=.tup<|Y.bs.map .int) rfl
 refine' ⟨Ñ hbl (by decide),Zt (λi ys g=>g=h/\ys=((Y.bs.take i).filter λb=>!(Y.cc.br.lookup b).isSome).map .int) ⟨rfl,rfl⟩ (λ_ _ _ _ _=>trivial) ?_ ?_⟩
 .rintro i v ys g hv ⟨rfl,rfl⟩ K hK;obtain⟨b,hb,rfl⟩:=ZH hv;rw[Zf hb,dz,ą,List.filter_nil]at hK
  exists Yk xs rfl
  rw[Z8,<-WH];refine' fJ (λhc=>?_) (λhc=>?_)
  .refine' hK _ _ ⟨rfl,by rw[hc,fZ rfl,Ó];rfl⟩
  .exact hK _ _ ⟨rfl,by rw[hc,f8 (by decide),ð,cE,ð]⟩
 rintro ys g ⟨rfl,rfl⟩;rw[À,ô];refine Zc λp1 g1 bx x1 e1=>?_;have x':=x.ext x1;have xi:=x'.ins;have xf:=x'.fallen;refine' MN xf (Uo _) (by have:=gd.f16;show(Y.cc.fallen.map (·.1)).length<_;lia) (Zc λp2 g2 cK x2 e2=>?_);refine' k _ (x1.trans x2)
def NK{b p:Int}(x:eQ h Y)(k:Q (.str<|Gn Y.cc b p) h):wF P (n+4) "Yard.end_at" [.ref Y.y,.int b,.int p] h Q X:=by
 have xi:=x.ins;have xs:=x.stand;refine Kt ?_
 exists Yk xs rfl
 rw[Z8,<-WH];fail;unfold Gn at k;cases z:(Y.cc.br.lookup b).isSome with
 |false =>rw[z]at k;walk_at "p";exact k
 |true =>rw[z,fZ rfl]at k;obtain⟨e,he,en,lk,ea,ba⟩:=x.at_ z;have bi:=ba.ins;walk_at "p";refine Z2 xs rfl (by rw[Z9,lk];rfl) ?_;fail;rw[ea]at k;exact LB ba k
def UW{p:Nat}(x:eQ h Y)(hp:p<Y.ts.length)(k:Q (.tup [.str (Y.cc.ends p).1,.str (Y.cc.ends p).2]) h):wF P (n+5) "Yard.ends" [.ref Y.y,.int p] h Q X:=by
 have xi:=x.ins;have cL:(Y.ts.map trV).length=Y.ts.length:=À _;have eg:Y.cc.tie p=Y.ts[p]:=by show Y.ts[(p:Int).toNat]?.getD _=_;rw[ã,Ê hp];rfl
 refine Np ?_
 exists ZS
 fail;refine fG (by simp) ?_
 exists eK (xs:=[.tup<|Y.bs.map .int,.tup<|Y.ts.map trV]) (v:=.tup<|Y.ts.map trV) rfl
 fail;refine fH (by rw[cL];simpa using hp) ?_
 exists eK (xs:=[.tup<|Y.bs.map .int,.tup<|Y.ts.map trV]) (v:=.tup<|Y.ts.map trV) rfl
 refine' eK (v:=trV Y.ts[p]) (Xk (by lia)<|by rw[ã,Õ,Ê hp];rfl) ?_;unfold Yc.ends at k;rw[eg]at k;unfold trV
 exists NK x
 exists NK x
 refine' k
end
def G7{i:Int}(e:h a=d7 (.lst<|ns.map .int))(q:KB (!gg (i∈ns))):go (eW h .notin (.int i)<|.ref a) KB:=eF (by show(inV h (.int i)<|.ref a).map _=_;unfold inV;simp only[e];rw[Jk];rfl) q
def Rm{i:Int}(e:h a=d7 (.lst<|ns.map .int))(q:KB<|gg (i∈ns)):go (eW h .isin (.int i)<|.ref a) KB:=eF (by show inV h (.int i) (.ref a)=_;unfold inV;simp only[e];rw[Jk]) q
def lset(e:h a=d7 (.lst<|ns.map .int))(m:ns.length<4000)(q:Q (.int (dedup ns).length) h):(biV h .lenSet [.ref a]).wp h Q:=wp_val (by show biLenSet h (.ref a)=_;unfold biLenSet sortOf;simp only[e,eR,ò,Xj];rw[fZ m]) q
def KI:∀(ns:List Int),(dedup ns).length=ns.length↔ns.Nodup
 |[]=>by simp[dedup]
 |n::ns=>by
  have h1:=M8 ns;have h2:=Ŏ (λy=>y != n)<|dedup ns;have ih:=KI ns;rw[dedup,Ç,Ç,ĉ];constructor
  .intro h;have h3:(List.filter (λy=>y != n)<|dedup ns).length=(dedup ns).length:=by lia
   have h4:=ϳ.mp h3;refine⟨λhm=>?_,ih.mp<|by lia⟩;have:=h4 n<|mem_dedup.mpr hm;simp at this
  .rintro⟨h3,h4⟩;have h5:=ih.mpr h4;have h6:(List.filter (λy=>y != n)<|dedup ns).length=(dedup ns).length:=ϳ.mpr λy hy=>by
    have:=mem_dedup.mp hy;simp only[bne_iff_ne,ne_eq];rintro rfl;exact h3 this
   lia
abbrev cnt(n0:Int)(ns:List Int)(j:Int):Nat:=(ns.filter λm=>gg (j<=(m - n0) % 1000)).length
def Ip(n0:Int)(ns:List Int)(j:Int):cnt n0 ns (j+1)<=cnt n0 ns j:=by
 unfold cnt;induction ns with
 |nil=>exact Í _
 |cons m r ih =>
  rw[ą,ą];by_cases h1:j+1<=(m - n0) % 1000
  .have h2:j<=(m - n0) % 1000:=by lia
   simp only[h1,h2,decide_true,if_true,Ç];lia
  .by_cases h2:j<=(m - n0) % 1000
   .simp only[h1,h2,decide_true,decide_false,if_true,Ē,if_false,Ç];lia
   .simp only[h1,h2,decide_false,Ē,if_false];exact ih
def Ca{n0 n:Int}:∀{ns:List Int},n∈ns->cnt n0 ns ((n - n0) % 1000+1)+1<=cnt n0 ns ((n - n0) % 1000)
 |[],h=>nomatch h
 |m::r,h=>by
  have hle:=Ip n0 r<|(n - n0) % 1000;unfold cnt at hle ⊢;rw[ą,ą];rcases Æ.mp h with e|h
  .subst e;have h1:¬ (n - n0) % 1000+1<=(n - n0) % 1000:=by lia
   simp only[h1,decide_false,Ē,if_false,Int.le_refl,decide_true,if_true,Ç];lia
  .have ih:=Ca (n0:=n0) h;unfold cnt at ih;by_cases h1:(n - n0) % 1000+1<=(m - n0) % 1000
   .have h2:(n - n0) % 1000<=(m - n0) % 1000:=by lia
    simp only[h1,h2,decide_true,if_true,Ç];lia
   .by_cases h2:(n - n0) % 1000<=(m - n0) % 1000
    .simp only[h1,h2,decide_true,decide_false,if_true,Ē,if_false,Ç];lia
    .simp only[h1,h2,decide_false,Ē,if_false];exact ih
def JM(x:ExtB w h g)(e:h p=d8):ExtB w h<|upd g p o:=⟨λ{a u} n z=>by rw[ei<|Zb z e];exact x.get n z⟩
abbrev TOk(ns:List Int)(t:Tie):Prop:=t.1∈ns/\t.2.1∈ns/\t.1≠t.2.1/\1<=t.2.2/\t.2.2<=1000
abbrev Ot(t:Tie):Tie:=(if t.2.1<t.1 then t.2.1 else t.1,if t.2.1 > t.1 then t.2.1 else t.1,t.2.2)
def F0{t:Tie}(h:TOk ns t):LOk ns<|Ot t:=by
 obtain⟨h1,h2,h3,h4,h5⟩:=h;unfold Ot LOk;by_cases z:t.2.1<t.1
 .rw[fZ z,f8<|by lia];exact⟨h2,h1,z,h4,h5⟩
 .rw[f8 z,fZ<|by lia];exact⟨h1,h2,by show t.1<t.2.1;lia,h4,h5⟩
def isl{xs:List Val}(e:h a=d7 (.lst xs))(q:Q (.bl d9) h):(biV h (.isi ["list"]) [.ref a]).wp h Q:=Q8 (by unfold isiAny isiAny fX fW;simp only[e];rfl) q
def MB{i lo hi:Int}(h1:lo<=i)(h2:i<=hi)(k:Q (.bl d9) h):wF P (n+2) "is_whole_between" [.int i,.int lo,.int hi] h Q X:=by
 refine Yq ?_
 exists XX
 walk_at "p";refine fG (by simpa using h1) ?_;fail;rw[gb h2];exact k
def JI{i:Int}(k:Q (.bl d9) h):wF P (n+1) "is_whole" [.int i] h Q X:=by refine XX ?_;walk_at "p";exact k
def UZ{xs:List Val}:xs.filterMap (λ_=>d7<|Val.bl d9)=(xs.map λ_=>d9).map Val.bl:=by rw[ú];exact congrFun (Λ (f:=Val.bl ∘ λ_=>d9)) xs
def Pl(e:h a=d7 (.lst<|ns.map .int))(l2:ns.length<=10)(hb:Brs ns)(nd:ns.Nodup)(k:∀g,Ext h g->Q (.bl d9) g):wF P (n+3) "are_bridges" [.ref a] h Q X:=by
 refine Kw ?_;have hL:(ns.map Val.int).length=ns.length:=À _;refine' ⟨Ñ (by rw[hL];exact l2) (by decide),Yj (λ_=>d7<|.bl d9) (lsE e) (λv hv K hK=>?_) ?_⟩
 .obtain⟨i,hi,rfl⟩:=å.mp hv;walk_at "p";exact MB (hb i hi).1 (by have:=(hb i hi).2;lia) hK
 rw[UZ];refine Zc λp g hp x ep=>?_
 exists MF ep (Yo _)
 fail;refine fH (by simp) ?_;have e':=x.get e;refine' lset e' (by lia) ?_;fail;have:gg (((dedup ns).length:Int)=((ns.map Val.int).length:Int))=d9:=gb (by rw[hL];have:=(KI ns).mpr nd;lia);rw[this];exact k g x
def LW{t:Tie}(ht:TOk ns t)(e:h b=d7 (.lst<|ns.map .int))(k:Q (.bl d9) h):wF P (n+3) "is_tie" [trV t,.ref b] h Q X:=by
 obtain⟨i,j,c⟩:=t;obtain⟨h1,h2,h3,h4,h5⟩:=ht;unfold trV;dsimp only at h1 h2 h3 h4 h5 ⊢;refine DT ?_;walk_at "p";refine JI ?_;walk_at "p";refine JI ?_;walk_at "p";refine G7 e ?_;fail;refine fH (by simpa using h1) ?_
 exists G7 e
 fail;refine fH (by simpa using h2) ?_;fail;refine fG (by simpa using h3) ?_;refine' MB h4 h5 k
def F1{t:Tie}(k:Q (trV<|Ot t) h):wF P (n+1) "lesser_end_first" [trV t] h Q X:=by obtain⟨i,j,c⟩:=t;unfold trV;refine X3 ?_;refine' k
def F9{zs:List Tie}(eb:h b=d7 (.lst<|ns.map .int))(et:h t=d7 (.lst<|zs.map trV))(l1:1<=ns.length)(l2:ns.length<=10)(hb:Brs ns)(nd:ns.Nodup)(lt:zs.length<=16)(hz:∀z∈zs,TOk ns z)
  (k:∀g,Ext h g->Q (ZY (sortI ns)<|zs.map Ot) g):wF P (n+4) "make_net" [.ref b,.ref t] h Q X:=by
 have hL:(ns.map Val.int).length=ns.length:=À _;have hT:(zs.map trV).length=zs.length:=À _;refine Op ?_;refine Fy<|PX<|RZ<|HE<|GY<|P6<|Dj<|Hy rfl<|BJ<|isl eb<|g_tbl ?_;refine fH rfl ?_;refine HE<|GY<|P6<|Dj<|Hy rfl<|BJ<|isl et<|g_tbl ?_;refine fH rfl ?_;fail;refine fG (by simpa using (by lia:(1:Int)<=(ns.map Val.int).length)) ?_;fail;refine fH (by simpa using (by lia:(ns.length:Int)<=10)) ?_;fail;refine fH (by simpa using (by lia:(zs.length:Int)<=16)) ?_;refine' Pl eb l2 hb nd λg x=>?_;fail;refine fH rfl ?_;have eb':=x.get eb;have et':=x.get et;refine' ⟨Ñ (by rw[hT];exact lt) (by decide),Yj (λ_=>d7<|.bl d9) (lsE et') (λv hv K hK=>?_) ?_⟩
 .obtain⟨z,hz',rfl⟩:=å.mp hv;walk_at "p";exact LW (hz z hz') eb' hK
 rw[UZ];refine Zc λp g2 hp x2 ep=>?_
 exists MF ep (Yo _)
 fail;refine fH (by simp) ?_;have eb2:=x2.get eb';have et2:=x2.get et';refine' LZ eb2 (Xj _) (by lia) ?_;refine Zc λp3 g3 hp3 x3 ep3=>?_;have et3:=x3.get et2;refine' ⟨Ñ (by rw[hT];exact lt) (by decide),Zt (λi ys g=>g=g3/\ys=(zs.take i).map λz=>trV<|Ot z) ⟨rfl,rfl⟩ (λ_ _ g _ z=>by rw[z.1];exact lsE et3) (λi v ys g hv hI K hK=>?_) λys g hI=>?_⟩
 .obtain⟨rfl,rfl⟩:=hI;rw[Õ]at hv;obtain⟨z,hz',rfl⟩:=Ð.mp hv;walk_at "p";refine F1<|hK _ _ ⟨rfl,?_⟩;rw[ő,hz',Ó];rfl
 .obtain⟨rfl,rfl⟩:=hI;rw[hT,ô];refine Zc λp4 g4 hp4 x4 de=>?_;fail;have e:ZY (sortI ns) (zs.map Ot)=.tup [.tup<|(sortI ns).map .int,.tup<|zs.map λz=>trV<|Ot z]:=by unfold ZY;rw[ú];rfl
  rw[e]at k;exact k _<|((x.trans x2).trans x3).trans x4
abbrev Ints(h:Hs)(a:Ad):Prop:=∃ns:List Int,h a=d7 (.lst<|ns.map .int)
def Ints.ne(x:Ints h w)(e:h p=d8):w≠p:=by obtain⟨_,x⟩:=x;exact Zb x e
def Ints.ext(x:Ints h w)(e:Ext h g):Ints g w:=by obtain⟨_,x⟩:=x;exact⟨_,e.get x⟩
def Ints.exb(x:Ints h w)(n:p≠w):Ints (upd h p o) w:=by obtain⟨_,x⟩:=x;exact⟨_,(ei n.symm).trans x⟩
abbrev HB(h:Hs)(a:Ad)(m:Nat):Prop:=∃ns:List Int,h a=d7 (.lst<|ns.map .int)/\ns.length<=m
def DM{v:Val}(h:(fj 1 m)[i]?=d7 v):v=.int (1+i)/\(1+i:Int)<m:=by unfold fj at h;rw[Õ]at h;obtain⟨k,hk,rfl⟩:=Ð.mp h;obtain⟨Ϙ,rfl⟩:=Ï.mp hk;rw[ŧ]at Ϙ;rw[du];exact⟨rfl,by lia⟩
noncomputable abbrev Pr:=Int×Int
abbrev POk(ns:List Int)(p:Pr):Prop:=p.1∈ns/\p.2∈ns/\p.1≠p.2
def Mx{a:Int}(a0:0<=a)(a1:a<ns.length):∃(x:Int) (h:a.toNat<ns.length),atI (ns.map Val.int) a=d7 (.int x)/\x=ns[a.toNat]:=by
 have h:a.toNat<ns.length:=by lia
 exact⟨_,h,Xk a0 (by rw[Õ,Ê h];rfl),rfl⟩
def Fp{a:Int}(a0:0<=a)(a1:a<ns.length)(r0:0<=r)(r1:r<(ns.length:Int) - 1):∃(x:Int) (k:Nat) (h:k<ns.length),atI (ns.map Val.int) (a - 1 - r)=d7 (.int x)/\x=ns[k]/\k≠a.toNat:=by
 by_cases hj:0<=a - 1 - r
 .obtain⟨x,h,e1,e2⟩:=Mx (ns:=ns) hj (by lia);exact⟨x,_,h,e1,e2,by lia⟩
 .have h:(a - 1 - r+ns.length).toNat<ns.length:=by lia
  refine⟨_,_,h,?_,rfl,by lia⟩;unfold atI ixN;rw[f8 hj,À,fZ (by lia),ò,Õ,Ê h];rfl
abbrev tOf(p:Pr)(c:Int):Tie:=(if p.2<p.1 then p.2 else p.1,if p.2 > p.1 then p.2 else p.1,c)
variable {j:Int}
def mnP{i:Int}(q:Q (.int<|if j<i then j else i) h):(biV h .minL [.tup [.int i,.int j]]).wp h Q:=wp_val rfl q
def mxP{i:Int}(q:Q (.int<|if j > i then j else i) h):(biV h .maxL [.tup [.int i,.int j]]).wp h Q:=wp_val rfl q
def Zk(hw:Ints h w)(h1:0<m)(k:∀r g,0<=r->r<m->ExtB w h g->Ints g w->Q (.int r) g):wF P (n+1) "_law_take" [.ref w,.int m] h Q X:=by
 have hw0:=hw;obtain⟨ns,e⟩:=hw;refine Ov ?_;refine' Zc λp g hp x ep=>?_;have e2:=x.get e;refine c_eqE e2 ep ?_;fail;cases ns with
 |nil =>refine fG rfl ?_;refine' k _ _ (by decide) h1 (.of x) (hw0.ext x)
 |cons y xs =>
  refine fH rfl ?_
  exists Pm (v:=.int y) (xs:=xs.map .int) e2
  refine' k _ _ (Χ _<|by lia) (π _ h1) ((ExtB.of x).trans ExtB.upd) ⟨xs,ej⟩
def Dg(h63:ns.length<=63)(k:∀p g,Ints g p->Q (.ref p) g):wF P (n+1) "_law_draws" [.scr ns] h Q X:=by
 refine NJ ?_;refine' YD λdr hdr=>?_;refine' ⟨by split<;>lia,?_⟩;refine Zo (λi e g=>Sm4 λv2 v3 v4 v5=>Cj3 (e=[d7<|.scr ns,d7<|.ref dr,v2,v3,v4,v5]) (HB g dr<|60*i)<|∀a,a≠dr->g a=h a) ⟨d8,d8,d8,d8,rfl,⟨[],by rw[ej];rfl,by simp⟩,λa ha=>ei ha⟩ (λ_ _ _ _ _=>trivial) ?_ ?_
 .rintro i v e g hv ⟨v2,v3,v4,v5,rfl,⟨ms,e1,l1⟩,x1⟩ K hK;obtain⟨rfl,hi⟩:=YT hv;have hi2:i<ns.length:=by split at hi<;>lia
  have hi3:i<80:=by split at hi<;>lia
  have hms:ms.length<=4800:=by lia
  obtain⟨c,hc⟩:∃c,ns[i]?=d7 c:=⟨ns[i],Ê hi2⟩
  refine' Iw (v:=.int c) ?_ ?_
  .unfold atI ixN;rw[fZ (by lia),fZ<|by rw[À];lia];rw[ò,Õ];simp[hc]
  fail;generalize hr:(if c<0 then -c else c)=r;have r0:0<=r:=by rw[<-hr];split<;>lia
  refine fI (λϘ=>?_) λϘ=>?_
  .refine' Zz e1 (by simp[lim];lia) ?_;refine' Zz ej (by simp[lim];lia) ?_;refine' Zz ej (by simp[lim];lia) ?_;refine' hK _ _ ⟨_,_,_,_,rfl,⟨ms++[_,_,_],by show upd _ dr _ dr=_;rw[ej,Ó,Ď,Ď];rfl,by simp;lia⟩,λa ha=>?_⟩;show upd (upd (upd g dr _) dr _) dr _ a=_;rw[ei ha,ei ha,ei ha,x1 a ha]
  .refine' XB (m:=60) (λm e g=>Sm3 λr j v4=>Cj5 (e=[d7<|.scr ns,d7<|.ref dr,d7<|.int i,d7<|.int r,v4,d7<|.int j]) (m+j.toNat=60) (0<=j) (HB g dr<|60*i+j.toNat)<|∀a,a≠dr->g a=h a) ⟨r,0,v4,rfl,rfl,by decide,⟨ms,e1,by lia⟩,x1⟩ ?_;rintro m e g ⟨r,j,v4,rfl,hm,j0,⟨ms,e1,l1⟩,x1⟩ K hK2;refine' fI (λh1=>?_) (λh1=>?_)
   .refine' fI (λh2=>?_) (λh2=>?_)
    .refine' Zz e1 (by simp[lim];lia) ?_;refine' hK2 (m - 1) _ _ (by lia) ⟨_,j+1,v4,rfl,by lia,by lia,⟨ms++[_],by show upd _ dr _ dr=_;rw[ej,Ó];rfl,by simp;lia⟩,λa ha=>?_⟩;show upd g dr _ a=_;rw[ei ha,x1 a ha]
    .refine' hK _ _ ⟨_,_,_,_,rfl,⟨ms,e1,by lia⟩,x1⟩
   .refine fH rfl ?_;refine' hK _ _ ⟨_,_,_,_,rfl,⟨ms,e1,by lia⟩,x1⟩
 .rintro e g ⟨v2,v3,v4,v5,rfl,⟨ms,e1,l1⟩,x1⟩;refine' YD λp hp=>?_;refine k p _ ⟨cut ms d8<|d7 240,?_⟩;rw[ej];unfold cut;rw[À,ů,Ϟ]
def IQ(hw:Ints h w)(k:∀bs ts g,eY bs ts->ExtB w h g->Ints g w->Q (ZY bs ts) g):wF P (n+5) "_law_net" [.ref w,.int 4,.int 4] h Q X:=by
 have hlim:(1000:Nat)<=lim:=by decide
 refine AC ?_;refine' Zc λp g0 hp x0 e0=>?_;have np:p≠w:=λz=>hw.ne hp z.symm;refine' Zk (hw.ext x0) (by decide) λr1 g1 a1 b1 x1 w1=>?_;have e1:=x1.get np e0;have y1:ExtB w h g1:=(ExtB.of x0).trans x1;refine' ⟨⟨by lia,by lia⟩,?_⟩;refine Zo (λi en g=>Sm6 λv3 v4 v5 v6 v7 ns=>Cj7 (en=[d7<|.ref w,d7<|.int 4,d7<|.int 4,d7<|.ref p,v3,v4,v5,v6,v7]) (g p=d7 (.lst<|ns.map .int)) (ns.length=i) (Brs ns) (ns.Nodup) (ExtB w h g)<|Ints g w) ⟨d8,d8,d8,d8,d8,[],rfl,e1,rfl,(λi hi=>gf hi Þ),Ī,y1,w1⟩ (λ_ _ _ _ _=>trivial) ?_ ?_
 .rintro i v en g hv ⟨v3,v4,v5,v6,v7,ns,rfl,ep,hl,hb,nd,x,hr⟩ K hK;obtain⟨rfl,hi⟩:=YT hv;refine' Zk hr (by decide) λq0 gA q1 q2 xB wA=>?_;have eA:=xB.get np ep;have yA:=x.trans xB;refine' XB (m:=cnt q0 ns 0) (λm' en g=>g=gA/\∃q:Int,en=[d7<|.ref w,d7<|.int 4,d7<|.int 4,d7<|.ref p,d7<|.int i,d7<|.int q,v5,v6,v7]/\0<=q/\q<1000/\m'=cnt q0 ns ((q - q0) % 1000)/\(m':Int)+(q - q0) % 1000<=ns.length) ⟨rfl,q0,rfl,q1,q2,by rw[Int.sub_self];rfl,?_⟩ ?_
  .have:=Ŏ (λm=>gg ((0:Int)<=(m - q0) % 1000)) ns;unfold cnt;rw[Int.sub_self];lia
  rintro m' en g ⟨rfl,q,rfl,c1,c2,rfl,hlq⟩ K2 hK2
  exists Rm eA
  refine' fI (λhq=>?_) (λhq=>?_)
  .fail;have hc:=Ca (n0:=q0) hq;have hs:((q+1) % 1000 - q0) % 1000=(q - q0) % 1000+1:=by lia
   refine hK2 (cnt q0 ns<|(q - q0) % 1000+1) _ _ (by lia) ⟨rfl,_,rfl,Χ _ (by decide),π _ (by decide),by rw[hs],?_⟩;rw[hs];lia
  .refine' Zz eA (by rw[À,lim];lia) ?_;refine' hK _ _ ⟨_,_,_,_,_,ns++[q],rfl,by rw[Ó];exact ej,by rw[Ü,hl];rfl,?_,?_,JM yA hp,wA.exb np⟩
   .intro j hj;rcases â.mp hj with hj|hj
    .exact hb j hj
    .rw[Ý.mp hj];exact⟨c1,c2⟩
   .rw[é];exact⟨nd,by simp,λa ha b hb e=>hq<|by rw[<-Ý.mp hb,<-e];exact ha⟩
 .rintro en g ⟨v3,v4,v5,v6,v7,ns,rfl,ep,hl,hb,nd,x,hr⟩;rw[Yv]at hl;have l1:1<=ns.length:=by lia
  have l2:ns.length<=10:=by lia
  have hL:(ns.map Val.int).length=ns.length:=À _;clear hl;refine' Zc λq g2 hq x2 e2=>?_;have nq:q≠w:=λz=>hr.ne hq z.symm;have dC:h q=d8:=by
   cases z:h q with
   |none=>rfl
   |some o=>rw[x.get nq z]at hq;cases hq
  have ep2:=x2.get ep;have npq:p≠q:=Zb ep hq;have y2:ExtB w h g2:=x.trans<|.of x2;refine' ⟨⟨by decide,by decide,by lia,by lia⟩,?_⟩;refine Zo (λi en g=>Sm5 λv3 v4 v6 v7 ps=>Cj7 (en=[d7<|.ref w,d7<|.int 4,d7<|.int 4,d7<|.ref p,v3,v4,d7<|.ref q,v6,v7]) (g p=d7 (.lst<|ns.map .int)) (g q=d7 (.lst<|ps.map pV)) (ps.length<=i) ((∀t∈ps,POk ns t)) (ExtB w h g)<|Ints g w) ⟨_,_,_,_,[],rfl,ep2,e2,Í _,by simp,y2,hr.ext x2⟩ (λ_ _ _ _ _=>trivial) ?_ ?_
  .rintro i v en g hv ⟨v3,v4,v6,v7,ps,rfl,ep,eq,hl,hb,x,hr⟩ K hK;obtain⟨rfl,hi⟩:=DM hv;rw[hL]at hi;refine' Zk hr (by decide) λr3 g3 a3 b3 x3 w3=>?_;have ep3:=x3.get np ep;have eq3:=x3.get nq eq;refine' fI (λhc=>?_) (λhc=>?_)
   .refine' Zk w3 (by lia) λr4 g4 a4 b4 x4 w4=>?_;have de:=x4.get np ep3;have eq4:=x4.get nq eq3;obtain⟨u1,k1,f1,f2⟩:=Mx (ns:=ns) a4 (by lia);refine ZJ de f1 ?_;fail;obtain⟨u2,k2,f3,f4⟩:=Mx (ns:=ns) (a:=1+(i:Int)) (by lia) hi;refine ZJ de f3 ?_;refine' Zz eq4 (by rw[À];lia) ?_;refine' hK _ _ ⟨_,_,_,_,ps++[(u1,u2)],rfl,(ei npq).trans de,by rw[Ó];exact ej,by rw[Ü];exact Ś hl,λt ht=>?_,JM ((x.trans x3).trans x4) dC,w4.exb nq⟩;rcases â.mp ht with ht|ht
    .exact hb t ht
    .rw[Ý.mp ht];refine⟨by rw[f2];exact İ _,by rw[f4];exact İ _,λz=>?_⟩;dsimp only at z;rw[f2,f4]at z;have:=(Ϻ nd).mp z;lia
   .refine' hK _ _ ⟨_,_,_,_,ps,rfl,ep3,eq3,by lia,hb,x.trans x3,w3⟩
  .rintro en g ⟨v3,v4,v6,v7,ps,rfl,ep,eq,hl,hb,x,hr⟩;have hl:ps.length<=9:=by
    unfold fj at hl;rw[À,ŧ,hL]at hl;lia
   refine' Zk hr (by decide) λr3 g3 a3 b3 x3 w3=>?_;have ep3:=x3.get np ep;have eq3:=x3.get nq eq;refine' ⟨⟨by lia,by lia⟩,?_⟩;refine Zo (λi en g=>Sm5 λv3 v4 v6 v7 aO=>Cj7 (en=[d7<|.ref w,d7<|.int 4,d7<|.int 4,d7<|.ref p,v3,v4,d7<|.ref q,v6,v7]) (g p=d7 (.lst<|ns.map .int)) (g q=d7 (.lst<|aO.map pV)) (aO.length<=ps.length+i) ((∀t∈aO,POk ns t)) (ExtB w h g)<|Ints g w) ⟨_,_,_,_,ps,rfl,ep3,eq3,Í _,hb,x.trans x3,w3⟩ (λ_ _ _ _ _=>trivial) ?_ ?_
   .rintro i v en g hv ⟨v3,v4,v6,v7,aO,rfl,ep,eq,hl2,hb,x,hr⟩ K hK;obtain⟨rfl,hi⟩:=YT hv;refine' Zk hr (by lia) λr4 g4 a4 b4 x4 w4=>?_;have de:=x4.get np ep;have eq4:=x4.get nq eq;refine' fI (λhc=>?_) (λhc=>?_)
    .fail;obtain⟨u1,k1,f1,f2⟩:=Mx (ns:=ns) a4 (by lia);refine ZJ de f1 ?_;refine' Zk w4 (by lia) λr5 g5 a5 b5 x5 w5=>?_;have ep5:=x5.get np de;have eq5:=x5.get nq eq4;fail;obtain⟨u2,j,k2,f3,f4,f5⟩:=Fp (ns:=ns) (a:=r4) (r:=r5) a4 (by lia) a5 (by lia);refine ZJ ep5 f3 ?_;refine' Zz eq5 (by rw[À];lia) ?_;refine' hK _ _ ⟨_,_,_,_,aO++[(u1,u2)],rfl,(ei npq).trans ep5,by rw[Ó];exact ej,by rw[Ü];exact Ś hl2,λt ht=>?_,JM ((x.trans x4).trans x5) dC,w5.exb nq⟩;rcases â.mp ht with ht|ht
     .exact hb t ht
     .rw[Ý.mp ht];refine⟨by rw[f2];exact İ _,by rw[f4];exact İ _,λz=>?_⟩;dsimp only at z;rw[f2,f4]at z;have:=(Ϻ nd).mp z;lia
    .refine' hK _ _ ⟨_,_,_,_,aO,rfl,de,eq4,by lia,hb,x.trans x4,w4⟩
   .rintro en g ⟨v3,v4,v6,v7,aO,rfl,ep,eq,hl2,hb,x,hr⟩;rw[Yv]at hl2;have hl2:aO.length<=16:=by lia
    refine' ⟨by show(List.map pV _).length<lim;rw[À];lia,Zt (λi zs g4=>∃cs:List Int,zs=cs.map .int/\cs.length=i/\(∀c∈cs,1<=c/\c<=1000)/\ExtB w g g4/\Ints g4 w) ⟨[],rfl,rfl,by simp,ExtB.refl,hr⟩ (λ_ _ g4 _ ⟨_,_,_,_,x,_⟩=>lsE<|x.get nq eq) (λi v zs g4 hv hI K hK=>?_) λzs g4 hI=>?_⟩
    .obtain⟨cs,rfl,hc,hd,x4,w4⟩:=hI;walk_at "p";refine Zk w4 (by decide) λr5 g5 a5 b5 x5 w5=>?_;refine' Zc λp6 g6 hp6 x6 e6=>?_;have n6:p6≠w:=λz=>w5.ne hp6 z.symm;refine' Zk (w5.ext x6) (by decide) λr7 g7 a7 b7 x7 w7=>?_;obtain⟨v,ev,hv⟩:=Mr (xs:=[Val.int 1,.int 1,.int 2,.int 3,.int<|1+r5]) (r:=r7) a7 b7;have hm:∃m:Int,v=.int m/\1<=m/\m<=1000:=by
      simp only[Æ,Þ,or_false]at hv;rcases hv with rfl|rfl|rfl|rfl|rfl<;>exact⟨_,rfl,by lia,by lia⟩
     obtain⟨m,rfl,m1,m2⟩:=hm;refine ZJ (x7.get n6 e6) ev ?_;refine hK _ _ ⟨cs++[m],by rw[Ó];rfl,by rw[Ü,hc];rfl,λc hcc=>?_,((x4.trans x5).trans<|.of x6).trans x7,w7⟩;rcases â.mp hcc with hcc|hcc
     .exact hd c hcc
     .rw[Ý.mp hcc];exact⟨m1,m2⟩
    obtain⟨cs,rfl,hc,hd,x4,w4⟩:=hI;have hc:cs.length=aO.length:=by rw[hc];exact À _
    refine Zc λpc g5 hpc x5 e5=>?_;have ep5:=x5.get<|x4.get np ep;have eq5:=x5.get<|x4.get nq eq;have w5:=w4.ext x5;fail;rw[À];refine⟨⟨by lia,by lia⟩,?_⟩;refine⟨by rw[Yv];lia,Zt (λi zs g6=>g6=g5/\zs=((ϴ tOf aO cs).take i).map trV) ⟨rfl,rfl⟩ (λ_ _ _ _ _=>trivial) (λi v zs g6 hv hI K hK=>?_) λzs g6 hI=>?_⟩
    .obtain⟨rfl,rfl⟩:=hI;obtain⟨rfl,hi⟩:=YT hv;obtain⟨pr,hpr⟩:∃x,aO[i]?=d7 x:=⟨aO[i]'(by lia),Ê<|by lia⟩
     obtain⟨co,hco⟩:∃x,cs[i]?=d7 x:=⟨cs[i]'(by lia),Ê<|by lia⟩
     have f1:atI (aO.map pV) i=d7 (.tup [.int pr.1,.int pr.2]):=Xk (by lia) (by rw[ã,Õ,hpr];rfl);walk_at "p";refine ZJ eq5 f1 ?_
     exists mnP
     exists ZJ eq5 f1
     exists mxP
     refine' ZJ e5 (v:=.int co) (Xk (by lia)<|by rw[ã,Õ,hco];rfl) ?_;refine' hK _ _ ⟨rfl,?_⟩;have hz:(ϴ tOf aO cs)[i]?=d7 (tOf pr co):=by rw[cf,hpr,hco]
     rw[ő,hz,Ó];rfl
    .obtain⟨rfl,rfl⟩:=hI;have hz:(ϴ tOf aO cs).length=aO.length:=by rw[List.length_zipWith,hc,Nat.min_self]
     rw[Yv,ã,į<|by lia];refine Zc λp7 g7 hp7 x7 e7=>?_;fail;have htok:∀z∈ϴ tOf aO cs,TOk ns z:=λz hz=>by
      obtain⟨i,hi⟩:=b9.mp hz;rw[cf]at hi;cases z1:aO[i]? with
      |none=>rw[z1]at hi;cases hi
      |some pr =>
       cases z2:cs[i]? with
       |none=>rw[z1,z2]at hi;cases hi
       |some co =>
        rw[z1,z2]at hi;cases hi;obtain⟨h1,h2,h3⟩:=hb _<|ä z1;obtain⟨h4,h5⟩:=hd _<|ä z2;unfold tOf TOk;dsimp only;by_cases Ϙ:pr.2<pr.1
        .rw[fZ Ϙ,f8<|by lia];exact⟨h2,h1,by lia,h4,h5⟩
        .rw[f8 Ϙ,fZ<|by lia];exact⟨h1,h2,by lia,h4,h5⟩
     refine F9 (x7.get ep5) e7 l1 l2 ‹Brs ns› nd (by lia) htok λg8 x8=>?_;have hl:(sortI ns).length=ns.length:=(Ń ns _).length_eq;refine k _ _ _ ⟨by lia,by lia,λi hi=>‹Brs ns› i (mem_sort.mp hi),Gq nd,by rw[À];lia,λt ht=>?_⟩ ((x.trans x4).trans<|.of<|(x5.trans x7).trans x8)<|w5.ext<|x7.trans x8;obtain⟨z,hz',rfl⟩:=å.mp ht;obtain⟨q1,q2,q3⟩:=F0<|htok z hz';exact⟨mem_sort.mpr q1,mem_sort.mpr q2,q3⟩
abbrev run:Yc->List Dd->Option Yc
 |C,[]=>d7 C
 |C,d::l=>(step C d).bind λD=>run D l
def We:∀{l m:List Dd}{C:Yc},run C (l++m)=(run C l).bind λD=>run D m
 |[],_,_=>rfl
 |d::l,m,C=>by
  show(step C d).bind (λD=>run D<|l++m)=((step C d).bind λD=>run D l).bind _;cases step C d with
  |none=>rfl
  |some D=>exact We
def Z7{l:List Dd}{d:Dd}{D:Yc}(h:run C l=d7 D):run C (l++[d])=step D d:=by rw[We,h];show(step D d).bind d7=_;cases step D d<;>rfl
def YC:∀{l:List Dd}{C D:Yc}{N:Nat},C.gd N->run C l=d7 D->D.gd (N+l.length)/\D.bs=C.bs/\D.ts=C.ts/\D.most=C.most
 |[],C,D,N,g,h=>by cases h;exact⟨g,rfl,rfl,rfl⟩
 |d::l,C,D,N,g,h=>by obtain⟨E,h1,h2⟩:=á.mp h;obtain⟨g1,e1,e2,e3⟩:=FV g h1;obtain⟨g2,f1,f2,f3⟩:=YC g1 h2;rw[Ç,show N+(l.length+1)=N+1+l.length by lia];exact⟨g2,f1.trans e1,f2.trans e2,f3.trans e3⟩
abbrev M0(bs:List Int)(ts:List Tie)(most:Int):Yc:=⟨bs,ts,most,bs.map λb=>(b,0),bs.map λb=>(b,Z6 b 0 most<|fS b 0 ts),[],[]⟩
def QE{bs:List Int}(nw:YNew bs ts most Y):Y.cc=M0 bs ts most:=by
 have e:enC Y.es=bs.map λb=>(b,Z6 b 0 most<|fS b 0 ts):=by rw[<-nw.num,ú];exact Ġ λe he=>by show(e.num,e.B)=(e.num,_);rw[nw.br e he]
 unfold Yd.cc M0;rw[nw.hb,nw.ht,nw.hm,nw.lives,nw.fallen,nw.road,e]
def FX{b:Int}(h:ts.length<=16):Bok ts.length<|Z6 b life most<|fS b 0 ts:=by
 have r:=JW (b:=b) (l:=ts) (k:=0);have rg:∀q∈WW (fS b 0 ts),0<=q.1/\q.1<ts.length:=λq hq=>by obtain⟨x,hx,rfl⟩:=å.mp hq;have:=r.2 x hx;dsimp only;lia
 refine⟨⟨Ī,(λ_ m=>nomatch m),?_,λq hq=>?_⟩,λq hq=>(rg q hq).2⟩
 .show((WW _).map (·.1)).Nodup;rw[UE];exact r.1.imp λz=>by lia
 .have:=rg q hq;lia
def O3{bs:List Int}(no:eY bs ts):(M0 bs ts most).gd 0:=by
 have e1:(bs.map λb=>(b,Z6 b 0 most<|fS b 0 ts)).map (·.1)=bs:=by rw[ú];exact Ϗ _
 refine⟨no,?_,keys_sub.mpr ?_,λq hq=>?_,?_,Ī,(λ_ m=>nomatch m),Í _⟩
 .show((bs.map λb=>(b,Z6 b 0 most<|fS b 0 ts)).map (·.1)).Nodup;rw[e1];exact no.up.imp λh=>by lia
 .show ∀x∈(bs.map λb=>(b,Z6 b 0 most<|fS b 0 ts)).map (·.1),_;rw[e1];exact λ_=>id
 .obtain⟨b,_,rfl⟩:=å.mp hq;exact FX no.sixteen
 .show(bs.map λb=>(b,(0:Int))).map (·.1)=bs;rw[ú];exact Ϗ _
def KJ{b:Int}(h:b∈C.br.map (·.1)):∃D,step C (.tick b)=d7 D/\D.br.map (·.1)=C.br.map (·.1):=by obtain⟨B,hB⟩:=ZQ h;refine⟨_,by show(C.br.lookup b).map _=_;rw[hB];rfl,Jv _⟩
def AA(h:C.road≠[]):∃D,step C (.come 0)=d7 D/\D.road.length+1=C.road.length:=by
 cases z:C.road with
 |nil=>exact gf z h
 |cons r l =>refine⟨_,by show(if(0:Int)<0 then d8 else(C.road[(0:Int).toNat]?).map _)=_;rw[f8 (by decide),z];rfl,rfl⟩
def Ud(xs:List α)(x:α):atI (xs++[x]) (-1)=d7 x:=by
 unfold atI ixN;rw[f8 (by decide),fZ<|by simp;lia];have:((-1:Int)+((xs++[x]).length:Nat)).toNat=xs.length:=by simp;lia
 rw[ò,this];simp
section
variable {Y:Yd}{N:Nat}
def Wt{bs:List Int}(no:eY bs ts)(hp:h p=d8)(k:∀Y g,Y.y=p->eQ g Y->Y.cc=M0 bs ts most->(∀a∈Y.adr,h a=d8)->Ext h g->Q .non g):wF P (n+3) "Yard.__init__" [.ref p,ZY bs ts,.int most] (upd h p<|.ins "Yard" []) Q X:=Df no hp λY g e y nw f x=>k Y g e y (QE nw) f x
def DX(x:eQ h Y)(gd:Y.cc.gd N)(hN:N<=90)(k:∀Z g p l,Mv h Y g Z->run Y.cc l=d7 Z.cc->l.length<=17*(N+10)->h p=d8->p∉Z.adr->g p=d7 (.lst<|l.map Dd.v)->Q (.ref p) g):wF P (n+7) "_law_round_of" [.ref Y.y] h Q X:=by
 have xi:=x.ins;have h10:=gd.ten;have kl:=XA (C:=Y.cc);refine J6 ?_;refine' YJ x gd λp1 g1 bx x1 e1=>?_;refine' ⟨Ñ (by show(MZ Y.cc).length<=10;unfold MZ;rw[À];lia) (by decide),?_⟩;refine Zt (λi ys g=>g=g1/\ys=((Y.cc.keys.take i).map Dd.tick).map Dd.v) ⟨rfl,rfl⟩ (λi ys g _ ⟨z,_⟩=>by rw[z];exact lsE e1) ?_ ?_
 .rintro i v ys g hv ⟨rfl,rfl⟩ K hK;obtain⟨b,hb,rfl⟩:=ZH hv;walk_at "p";refine hK _ _ ⟨rfl,?_⟩;rw[Zf hb,Ó,Ó];rfl
 rintro ys g ⟨rfl,rfl⟩;rw[show(MZ Y.cc).length=Y.cc.keys.length from À _,ô];refine Zc λp g2 hp x2 e2=>?_;have hp0:h p=d8:=Ym x1 hp;have m2:Mv h Y g2 Y:=(Mv.refl x).ext<|x1.trans x2;have nA:p∉Y.adr:=λz=>x.taken z hp0;refine' Zo (λi en g=>Sm2 λv2 Z=>Cj6 (en=[d7<|.ref Y.y,d7<|.ref p,v2]) (Mv h Y g Z) (p∉Z.adr) (g p=d7 (.lst<|(Y.cc.keys.map Dd.tick).map Dd.v)) (run Y.cc ((Y.cc.keys.take i).map Dd.tick)=d7 Z.cc) (Z.cc.br.map (·.1)=Y.cc.br.map (·.1))) ⟨_,Y,rfl,m2,nA,e2,rfl,rfl⟩ (λ_ _ _ _ ⟨_,_,_,_,_,e,_,_⟩=>lsE e) ?_ ?_
 .rintro i v en g hv ⟨v2,Z,rfl,m,np,ep,hr,hk⟩ K hK;obtain⟨d,hd,rfl⟩:=ZH hv;rw[Õ]at hd;obtain⟨b,hb,rfl⟩:=Ð.mp hd;have hi:=(Ï.mp hb).1;obtain⟨D,hD,hDk⟩:=KJ (C:=Z.cc) (b:=b) (by rw[hk];exact keys_look.mp<|keys_mem.mp<|ä hb);obtain⟨gz,_⟩:=YC gd hr;have zi:=m.at_.ins;rw[m.y]at zi;fail;rw[<-m.y];refine Yy m.at_ gz (by rw[À,ÿ];lia) (λW g3 s mv=>?_) (λg3 s=>by rw[hD]at s;cases s);fail;rw[hD]at s;cases s;have o:=mv.off np ep;rw[m.y];refine hK _ _ ⟨_,W,rfl,m.trans mv,o.1,o.2,?_,hDk.trans hk⟩;rw[Zf hb,Ó];exact(Z7 hr).trans hD
 rintro en g ⟨v2,Z,rfl,m,np,ep,hr,hk⟩;rw[À,À,ô]at hr;obtain⟨gz,_⟩:=YC gd hr;rw[À]at gz;have rl:Z.cc.road.length<=16*(N+10):=ß gz.len (by lia);refine' XB (m:=Z.cc.road.length) (λm' en g=>∃W l,en=[d7<|.ref Y.y,d7<|.ref p,v2]/\Mv h Y g W/\p∉W.adr/\g p=d7 (.lst<|l.map Dd.v)/\run Y.cc l=d7 W.cc/\W.cc.road.length=m'/\l.length+m'<=10+16*(N+10)) ⟨Z,_,rfl,m,np,ep,hr,rfl,by rw[À];lia⟩ ?_;rintro m' en g ⟨W,l,rfl,m,np,ep,hr,hm,hl⟩ K hK;obtain⟨gw,_⟩:=YC gd hr;have zi:=m.at_.ins;rw[m.y]at zi;fail;rw[<-m.y];refine XE m.at_ λp3 g3 hp3 x3 e3=>?_;refine' Zc λp4 g4 hp4 x4 e4=>?_;refine c_neE (x4.get e3) e4 ?_;fail;have m4:=m.ext<|x3.trans x4;have de:=(x3.trans x4).get ep;rw[m.y];refine fJ (λhc=>?_) λhc=>?_
 .have š:W.cc.road≠[]:=λz=>by rw[show W.road=[] from z]at hc;cases hc
  obtain⟨D,hD,hDl⟩:=AA š;refine' Zz de (by rw[À];exact Ñ (by lia:_<=2000)<|by decide) ?_;have m5:=m4.put (o:=.lst<|l.map Dd.v++[.tup [.str "come",.int 0]]) hp0 np;have e5:upd g4 p (.lst<|l.map Dd.v++[.tup [.str "come",.int 0]]) p=d7 (.lst<|(l++[Dd.come 0]).map Dd.v):=by rw[ej,Ó];rfl
  dsimp only;generalize upd g4 p (.lst<|l.map Dd.v++[.tup [.str "come",.int 0]])=g5 at m5 e5 ⊢;have zi:=m5.at_.ins;rw[m.y]at zi;refine' ZJ e5 (v:=Dd.v<|.come 0) (by rw[Ó];exact Ud _ _) ?_;fail;rw[<-m.y];refine Yy m5.at_ gw (by lia) (λV g6 s mv=>?_) (λg6 s=>by rw[hD]at s;cases s);fail;rw[hD]at s;cases s;have o:=mv.off np e5;rw[m.y];exact hK (m' - 1) _ _ (by lia) ⟨V,_,rfl,m5.trans mv,o.1,o.2,(Z7 hr).trans hD,by lia,by rw[Ü,Ķ];lia⟩
 .refine' k W g4 p l m4 hr (by lia) hp0 np de
end
def eQ.extb(x:eQ h Y)(e:ExtB w h g)(nw:w∉Y.adr):eQ g Y:=x.keep (S:=[w]) (Ex.ofB e<|by simp) λa ha z=>nw (Ý.mp z▸ha)
def Uz:eqV h (.tup<|ns.map .int) (.tup [])=d7 (gg (ns=[])):=by
 cases ns with
 |nil=>rfl
 |cons a l =>show((((a::l).map Val.int).mapM<|dat h 11).map D.tup).bind _=_;rw[Jx];rfl
def DK{b:Int}(h:b∈C.keys):(step C<|.fallB b).isSome=d9:=by dsimp only[step];rw[fZ<|keys_mem.mp h];rfl
def FJ{b:Int}(h:b∈C.keys):(step C<|.tick b).isSome=d9:=by obtain⟨D,hD,_⟩:=KJ<|keys_look.mp<|keys_mem.mp h;rw[hD];rfl
def cut_mem{p:Int}:p∈C.cuts↔(C.fallen.lookup p).isSome=d9:=by unfold Yc.cuts;rw[mem_sort,look_iff];simp
def CU{p:Int}(h0:0<=p)(h1:p<C.ts.length)(h:p∉C.cuts):(step C<|.fallT p).isSome=d9:=by dsimp only[step];rw[fZ ⟨⟨h0,h1⟩,by cases z:(C.fallen.lookup p).isSome with|false=>rfl|true=>exact gf (cut_mem.mpr z) h⟩];rfl
def Er{p:Int}(h:p∈C.cuts):(step C<|.backT p).isSome=d9:=by dsimp only[step];rw[fZ<|cut_mem.mp h];rfl
def downs_mem{b:Int}:b∈C.downs↔b∈C.bs/\(C.br.lookup b).isSome=ee:=by unfold Yc.downs;rw[ġ];simp
def NI{b:Int}(g:C.gd N)(h:b∈C.downs):(step C<|.backB b).isSome=d9:=by obtain⟨h1,h2⟩:=downs_mem.mp h;dsimp only[step];rw[f8<|by rw[h2];decide];rw[<-g.lv]at h1;obtain⟨v,hv⟩:=ZQ h1;rw[hv];rfl
def UX(h0:0<=r)(h1:r<C.road.length):(step C<|.lost r).isSome=d9/\(step C<|.come r).isSome=d9:=by have e:=Ê (l:=C.road) (i:=r.toNat) (by lia);dsimp only[step];rw[f8 (by lia),e];exact⟨rfl,by rw[f8<|by lia];rfl⟩
def A9:C.downs.length<=C.bs.length:=Ŏ _ _
abbrev Wy(C:Yc)(m:Nat):List Int:=((List.range m).map λi:Nat=>(i:Int)).filter λp=>!gg (p∈C.cuts)
abbrev tl:Nat->Ss->Ss
 |0,s=>s
 |k+1,.cons _ r=>tl k r
 |_+1,.nil=>.nil
def Be(r0:0<=r)(r1:r<ns.length):∃b∈ns,atI (ns.map Val.int) r=d7 (.int b):=by obtain⟨b,hb,hm⟩:=BZ r0 r1;exact⟨b,hm,Xk r0<|by rw[Õ,hb];rfl⟩
section
variable {Y:Yd}{N:Nat}
def Iq(hw:Ints h w)(x:eQ h Y)(gd:Y.cc.gd N)(nw:w∉Y.adr)(k:∀d g,(step Y.cc d).isSome=d9->ExtB w h g->Ints g w->Q (Dd.v d) g):wF P (n+3) "_law_deed_now" [.ref w,.ref Y.y] h Q X:=by
 have h10:=gd.ten;have kl:=XA (C:=Y.cc);have t16:Y.ts.length<=16:=gd.no.sixteen;have b10:Y.cc.bs.length<=10:=gd.no.ten;have b1:1<=Y.cc.bs.length:=gd.no.one;have cL:(Y.ts.map trV).length=Y.ts.length:=À _;have hc16:=gd.f16;have cl:=Nx (C:=Y.cc);refine J0 ?_;refine' Zk hw (by decide) λway g1 a1 b1' x1 w1=>?_;have y1:=x.extb x1 nw;have yi1:=y1.ins;refine' YJ y1 gd λp2 g2 cK x2 e2=>?_;refine' ⟨Ñ (by show(MZ Y.cc).length<=10;unfold MZ;rw[À];lia) (by decide),?_⟩;refine Zt (λi ys g=>g=g2/\ys=(Y.cc.keys.take i).map .int) ⟨rfl,rfl⟩ (λi ys g _ ⟨z,_⟩=>by rw[z];exact lsE e2) ?_ ?_
 .rintro i v ys g hv ⟨rfl,rfl⟩ K hK;obtain⟨b,hb,rfl⟩:=ZH hv;walk_at "p";refine hK _ _ ⟨rfl,?_⟩;rw[Zf hb,Ó];rfl
 rintro ys g ⟨rfl,rfl⟩;rw[show(MZ Y.cc).length=Y.cc.keys.length from À _,ô];refine Zc λpu g3 hpu x3 eu=>?_;have y3:=y1.ext<|x2.trans x3;have yi3:=y3.ins;refine' Wu y3 gd λg4 x4=>?_;have y4:=y3.ext x4;have yi4:=y4.ins;refine' XE y4 λp5 g5 hp5 x5 e5=>?_;have y5:=y4.ext x5;have yi5:=y5.ins
 exists XI y5
 exists eK (xs:=[.tup<|Y.bs.map .int,.tup<|Y.ts.map trV]) (v:=.tup<|Y.ts.map trV) rfl
 fail;rw[cL];refine⟨⟨by lia,by lia⟩,by rw[Yv];exact Ñ (by lia:_<=16) (by decide),?_⟩;refine Zt (λi ys g=>g=g5/\ys=(Wy Y.cc i).map .int) ⟨rfl,rfl⟩ (λ_ _ _ _ _=>trivial) ?_ ?_
 .rintro i v ys g hv ⟨rfl,rfl⟩ K hK;obtain⟨rfl,hi⟩:=YT hv;have hs:Wy Y.cc (i+1)=Wy Y.cc i++(if(!gg ((i:Int)∈Y.cc.cuts))=d9 then [(i:Int)]else []):=by
   unfold Wy;rw[List.range_succ,Ó,dz,Î,Ź,ą,List.filter_nil]
  exists Dx (ns:=Y.cc.cuts)
  refine' fJ (λhc=>?_) (λhc=>?_)
  .refine' hK _ _ ⟨rfl,by rw[hs,fZ hc,Ó];rfl⟩
  .exact hK _ _ ⟨rfl,by rw[hs,f8 (by rw[hc];decide),ð];simp⟩
 rintro ys g ⟨rfl,rfl⟩;rw[Yv,ã];refine Zc λpt g6 hpt x6 et=>?_;have eu6:=((x4.trans x5).trans x6).get eu;have xx:ExtB w h g6:=(((x1.trans<|.of x2).trans<|.of x3).trans<|.of<|(x4.trans x5).trans x6)
 have w6:=w1.ext<|(((x2.trans x3).trans x4).trans x5).trans x6;have nu:pu≠w:=λz=>by have:=w1.ext x2;exact this.ne hpu z.symm
 have nt:pt≠w:=λz=>by have:=w1.ext<|((x2.trans x3).trans x4).trans x5;exact this.ne hpt z.symm
 have fre:∀p∈Wy Y.cc Y.ts.length,0<=p/\p<Y.cc.ts.length/\p∉Y.cc.cuts:=λp hp=>by obtain⟨h1,h2⟩:=ġ.mp hp;obtain⟨i,hi,rfl⟩:=å.mp h1;have:=ť.mp hi;exact⟨by lia,by show(i:Int)<(Y.ts.length:Nat);lia,by simpa using h2⟩
 have hR:Y.cc.road.length=Y.road.length:=rfl;have rl:(Y.road.map rdV).length=Y.road.length:=À _;have kl2:(Y.cc.keys.map Val.int).length=Y.cc.keys.length:=À _;have fl2:((Wy Y.cc Y.ts.length).map Val.int).length=(Wy Y.cc Y.ts.length).length:=À _;have dl2:(Y.cc.downs.map Val.int).length=Y.cc.downs.length:=À _;have cl2:(Y.cc.cuts.map Val.int).length=Y.cc.cuts.length:=À _;have æ:∀{ns:List Int},(ns.map Val.int).isEmpty=ee->0<ns.length:=λ{ns} hn=>by cases ns with|nil=>cases hn|cons a l=>simp
 let F:Hs->Prop:=λg=>ExtB w h g/\Ints g w/\g pu=d7 (.lst<|Y.cc.keys.map .int)/\g pt=d7 (.lst<|(Wy Y.cc Y.ts.length).map .int)
 have Fx:∀{g g'},F g->Ext g g'->F g':=λ⟨a,b,c,d⟩ e=>⟨a.trans<|.of e,b.ext e,e.get c,e.get d⟩
 have tk:∀{g:Hs}{m:Int}{K:Q1}{X:XQ},F g->0<m->(∀r g,0<=r->r<m->F g->K (.int r) g)->wF P (n+2) "_law_take" [.ref w,.int m] g K X:=λ⟨a,b,c,d⟩ hm q=>Zk b hm λr g a' b' y z=>q r g a' b' ⟨a.trans y,z,y.get nu c,y.get nt d⟩;have go_:∀{d:Dd}{g:Hs},(step Y.cc d).isSome=d9->F g->Q (Dd.v d) g:=λs f=>k _ _ s f.1 f.2.1
 let W:Ss->Prop:=λs=>∀g,F g->wSs (wF P<|n+2) s [d7<|.ref w,d7<|.ref Y.y,d7<|.int way,d7<|.ref pu,d7<|.tup [.tup<|Y.cc.downs.map .int,.tup<|Y.cc.cuts.map .int],d7<|.int (Y.road.length:Nat),d7<|.ref pt] g (λ_ g=>Q .non g) Q (λ_ _=>False) (λ_ _=>False) λ_ c g=>X c g
 have R11:W<|tl 11 Th.body:=λg f=>by
  dsimp only[tl,Th];refine' Zc λpz gz hz xz ez=>?_;have f':=Fx f xz;refine c_eqE f'.2.2.1 ez ?_;refine' fJ (λhc=>?_) (λhc=>?_)
  .have hk:Y.cc.keys=[]:=by cases z:Y.cc.keys with|nil=>rfl|cons a l=>rw[z]at hc;cases hc
   have hd:Y.cc.downs=Y.cc.bs:=cT.mpr λb hb=>by
    cases z:(Y.cc.br.lookup b).isSome with
    |false=>rfl
    |true=>have:=keys_mem.mpr z;rw[hk]at this;cases this
   fail;obtain⟨b,hb,eb⟩:=Be (ns:=Y.cc.downs) (r:=0) (by decide) (by rw[hd];lia);refine eK eb ?_;refine' go_ (NI gd hb) f'
  .have f2:=f'.2.2.1;fail;rw[kl2];refine tk f' (by have:=æ hc;lia) λr g2 r0 r1 f2=>?_;obtain⟨b,hb,eb⟩:=Be (ns:=Y.cc.keys) r0 r1;refine ZJ f2.2.2.1 eb ?_;refine' go_ (FJ hb) f2
 have R10:W<|tl 10 Th.body:=λg f=>by
  dsimp only[tl,Th];refine' fI (λc1=>?_) (λc1=>fH rfl<|ZV<|R11 g f);refine' fI (λc2=>?_) (λc2=>ZV<|R11 g f);refine' tk f c2 λr g2 r0 r1 f2=>?_;refine' Zc λpz gz hz xz ez=>?_;fail;obtain⟨v,hv,em⟩:=Mr (xs:=[Val.int 0,.int r]) (r:=way % 2) (by lia) (by show way % 2<2;lia);refine ZJ ez hv ?_;have:∃q:Int,v=.int q/\0<=q/\q<Y.cc.road.length:=by
   simp only[Æ,Þ,or_false]at em;rcases em with rfl|rfl
   .exact⟨_,rfl,by lia,by lia⟩
   .exact⟨_,rfl,r0,r1⟩
  obtain⟨q,rfl,q0,q1⟩:=this;refine' go_ (UX q0 q1).2 (Fx f2 xz)
 have R9:W<|tl 9 Th.body:=λg f=>by dsimp only[tl,Th];refine' fI (λc1=>?_) (λc1=>fH rfl<|ZV<|R10 g f);refine' fI (λc2=>?_) (λc2=>ZV<|R10 g f);refine' tk f c2 λr g2 r0 r1 f2=>?_;refine' go_ (UX r0 r1).1 f2
 have R8:W<|tl 8 Th.body:=λg f=>by
  dsimp only[tl,Th]
  exists OD (ns:=[12,13,14])
  refine' fI (λc1=>?_) (λc1=>fH rfl<|ZV<|R9 g f)
  exists Yz Uz
  refine' Os (λc2=>?_) (λc2=>ZV<|R9 g f);fail;rw[cl2];refine tk f (by have:=Į.mpr c2;lia) λr g2 r0 r1 f2=>?_;obtain⟨b,hb,eb⟩:=Be (ns:=Y.cc.cuts) r0 r1;refine eK eb ?_;refine' go_ (Er hb) f2
 have R7:W<|tl 7 Th.body:=λg f=>by
  dsimp only[tl,Th]
  exists OD (ns:=[12,13,14])
  refine' fI (λc1=>?_) (λc1=>fH rfl<|ZV<|R8 g f)
  exists Yz Uz
  refine' Os (λc2=>?_) (λc2=>ZV<|R8 g f);fail;rw[dl2];refine tk f (by have:=Į.mpr c2;lia) λr g2 r0 r1 f2=>?_;obtain⟨b,hb,eb⟩:=Be (ns:=Y.cc.downs) r0 r1;refine eK eb ?_;refine' go_ (NI gd hb) f2
 have R6:W<|tl 6 Th.body:=λg f=>by dsimp only[tl,Th];refine' fI (λc1=>?_) (λc1=>fH rfl<|ZV<|R7 g f);refine' Zc λpz gz hz xz ez=>?_;have f':=Fx f xz;refine c_neE f'.2.2.2 ez ?_;refine' fJ (λhc=>?_) (λhc=>ZV<|R7 gz f');have f2:=f'.2.2.2;fail;rw[fl2];refine tk f' (by have:=æ<|Ğ _ |>.mp hc;lia) λr g2 r0 r1 f2=>?_;obtain⟨b,hb,eb⟩:=Be (ns:=Wy Y.cc Y.ts.length) r0 r1;refine ZJ f2.2.2.2 eb ?_;fail;obtain⟨q1,q2,q3⟩:=fre b hb;exact go_ (CU q1 q2 q3) f2
 have f6:F g6:=⟨xx,w6,eu6,et⟩
 rw[rl];refine' fI (λc1=>?_) (λc1=>fH rfl<|ZV<|R6 g6 f6);refine' Zc λpz gz hz xz ez=>?_;have f':=Fx f6 xz;refine c_neE f'.2.2.1 ez ?_;refine' fJ (λhc=>?_) (λhc=>ZV<|R6 gz f');have f2:=f'.2.2.1;fail;rw[kl2];refine tk f' (by have:=æ<|Ğ _ |>.mp hc;lia) λr g2 r0 r1 f2=>?_;obtain⟨b,hb,eb⟩:=Be (ns:=Y.cc.keys) r0 r1;refine ZJ f2.2.2.1 eb ?_;refine' go_ (DK hb) f2
end
structure Mw(w:Ad)(h:Hs)(Y:Yd)(g:Hs)(Z:Yd):Prop where
 y:Z.y=Y.y
 at_:eQ g Z
 nw:∀a∈Z.adr,a∈Y.adr\/h a=d8
 ex:Ex (w::Y.adr) h g
 nz:w∉Z.adr
 iw:Ints g w
def Ints.some_(x:Ints h w):∃o,h w=d7 o:=by obtain⟨_,x⟩:=x;exact⟨_,x⟩
def Mw.fresh(m:Mw w h Y g Z)(e:g p=d8):h p=d8\/p∈Y.adr:=by
 cases z:h p with
 |none=>exact .inl rfl
 |some o =>
  by_cases np:p∈Y.adr
  .exact .inr np
  .rw[m.ex.get (by simp[np,(m.iw.ne e).symm]) z]at e;cases e
def Mw.mv{f:Hs}(m:Mw w h Y g Z)(l:Mv g Z f W):Mw w h Y f W:=by
 obtain⟨o,eo⟩:=m.iw.some_;obtain⟨q1,q2⟩:=l.off m.nz eo;obtain⟨ns,en⟩:=m.iw;refine⟨l.y.trans m.y,l.at_,λa ha=>?_,⟨λna e=>?_⟩,q1,ns,by rw[q2,<-eo,en]⟩
 .rcases l.nw a ha with z|z
  .exact m.nw a z
  .exact(m.fresh z).symm
 .have h2:=m.ex.get na e;exact l.ex.get (λz=>(m.nw _ z).elim (λy=>na<|by simp[y]) λy=>by rw[e]at y;cases y) h2
def Mw.take{f:Hs}(m:Mw w h Y g Z)(x:ExtB w g f)(i:Ints f w):Mw w h Y f Z:=⟨m.y,m.at_.extb x m.nz,m.nw,m.ex.trans<|Ex.ofB x<|by simp,m.nz,i⟩
def Mw.ext{f:Hs}(m:Mw w h Y g Z)(x:Ext g f):Mw w h Y f Z:=m.take (.of x) (m.iw.ext x)
def Mw.put(m:Mw w h Y g Z)(hp:h p=d8\/p∈Y.adr)(np:p∉Z.adr)(nw:p≠w):Mw w h Y (upd g p o) Z:=⟨m.y,m.at_.keep (S:=[p]) (Ex.upd<|by simp) λa ha z=>np<|Ý.mp z▸ha,m.nw,⟨λ{a u} na e=>by rw[ei λz=>hp.elim (λy=>by rw[<-z,e]at y;cases y) λy=>na<|by simp[z,y]];exact m.ex.get na e⟩,m.nz,m.iw.exb nw⟩
section
variable {Y:Yd}{N:Nat}
def LY(hw:Ints h w)(x:eQ h Y)(gd:Y.cc.gd 0)(nw:w∉Y.adr)(k:∀p l C g,run Y.cc l=d7 C->l.length<=2000->p≠w->g p=d7 (.lst<|l.map Dd.v)->Ex (w::Y.adr) h g->Ints g w->Q (.ref p) g):wF P (n+8) "_law_row" [.ref w,.ref Y.y,.int 80] h Q X:=by
 refine Ao ?_;refine' Zc λp g1 hp x1 e1=>?_;have m1:Mw w h Y g1 Y:=⟨rfl,x.ext x1,λ_=>.inl,.of x1,nw,hw.ext x1⟩
 refine' XB (m:=86) (λm en g=>∃(Z:Yd) (l:List Dd) (p:Ad) (r:Int),en=[d7<|.ref w,d7<|.ref Y.y,d7<|.int 80,d7<|.ref p,d7<|.int r]/\Mw w h Y g Z/\p∉Z.adr/\p≠w/\(h p=d8\/p∈Y.adr)/\g p=d7 (.lst<|l.map Dd.v)/\run Y.cc l=d7 Z.cc/\l.length<=2000/\0<=r/\r<=6/\(80 - l.length:Nat)+6 - r.toNat<=m) ⟨Y,[],p,0,rfl,m1,(λz=>x.taken z hp),(λz=>hw.ne hp z.symm),.inl hp,e1,rfl,by decide,by decide,by decide,by decide⟩ ?_;rintro m en g ⟨Z,l,p,r,rfl,mw,np,pw,pf,ep,hr,hl,r0,r6,hm⟩ K hK;obtain⟨ns,ens⟩:=mw.iw;have zi:=mw.at_.ins;rw[mw.y]at zi;have ll:(l.map Dd.v).length=l.length:=À _;obtain⟨gz,_⟩:=YC gd hr;rw[ϵ]at gz;refine' Zc λp2 g2 cK x2 e2=>?_;refine c_neE (x2.get ens) e2 ?_;fail;have m2:=mw.ext x2;have ep2:=x2.get ep;have fin:=k p l _ g2 hr hl pw ep2 m2.ex m2.iw;refine fJ (λhc=>?_) (λhc=>by walk_at "p";exact fin);fail;rw[ll];refine fI (λc2=>?_) (λc2=>by walk_at "p";exact fin);have hl80:l.length<80:=by lia
 have other:∀{N B C:NQ}{g3:Hs},(∀e g,K e g->N e g)->Mw w h Y g3 Z->g3 p=d7 (.lst<|l.map Dd.v)->wSs (wF P<|n+7) #[.expr<|.bm .append (.var 3) #[.call "_law_deed_now" #[.var 0,.var 1]],.expr<|.meth "Yard" "deed" (.var 1) #[.idx (.var 3)<|.neg<|.cst<|.int 1]] [d7<|.ref w,d7<|.ref Y.y,d7<|.int 80,d7<|.ref p,d7<|.int r] g3 N Q B C λ_ c g=>X c g:=λ{N B C g3} hN m3 ep3=>by
  fail;rw[<-mw.y];refine Iq m3.iw m3.at_ gz m3.nz λd g4 hs x4 w4=>?_;obtain⟨D,hD⟩:=õ.mp hs;have m4:=m3.take x4 w4;rw[mw.y];refine' Zz (x4.get pw ep3) (by rw[ll];exact ž hl80<|by decide) ?_;have m5:=m4.put (o:=.lst<|l.map Dd.v++[Dd.v d]) pf np pw;have e5:upd g4 p (.lst<|l.map Dd.v++[Dd.v d]) p=d7 (.lst<|(l++[d]).map Dd.v):=by rw[ej,Ó];rfl
  dsimp only;generalize upd g4 p (.lst<|l.map Dd.v++[Dd.v d])=g5 at m5 e5 ⊢;have zi:=m5.at_.ins;rw[mw.y]at zi;refine' ZJ e5 (v:=Dd.v d) (by rw[Ó];exact Ud _ _) ?_;fail;rw[<-mw.y];refine Yy m5.at_ gz (by lia) (λV g6 s mv=>?_) (λg6 s=>by rw[hD]at s;cases s);fail;have o:=mv.off np e5;rw[mw.y];exact hN _ _ (hK (m - 1) _ _ (by lia) ⟨V,l++[d],p,r,rfl,m5.mv mv,o.1,pw,pf,o.2,(Z7 hr).trans s,by rw[Ü,Ķ];lia,r0,r6,by rw[Ü,Ķ];lia⟩)
 refine' fI (λc3=>?_) (λc3=>?_)
 .refine' Zk m2.iw (by decide) λq g3 q0 q1 x3 w3=>?_;have m3:=m2.take x3 w3;have ep3:=x3.get pw ep2;refine' fI (λc4=>?_) (λc4=>other (λ_ _ q=>ZV q) m3 ep3);fail;rw[<-mw.y];refine DX m3.at_ gz (by lia) λW g4 p4 l4 mv hr4 hl4 hp4 np4 de=>?_;have m4:=m3.mv mv;have o:=mv.off np ep3;rw[mw.y];refine' YR o.2 de (by rw[Ü,ll,À];exact ß (by lia:_<=2000)<|by decide) ?_;refine Zc λp5 g5 hp5 x5 e5=>?_;have m5:=m4.ext x5;refine' hK (m - 1) _ _ (by lia) ⟨W,l++l4,p5,r+1,rfl,m5,(λz=>m4.at_.taken z hp5),(λz=>m4.iw.ne hp5 z.symm),m4.fresh hp5,by rw[e5,Ó],by rw[We,hr];exact hr4,by rw[Ü];lia,by lia,by lia,by rw[Ü];lia⟩
 .fail;refine fH rfl ?_;exact other (λ_ _ q=>ZV q) m2 ep2
end
abbrev flat:Nat->Val->Bool
 |_,.non=>d9
 |_,.bl _=>d9
 |_,.int _=>d9
 |_,.str _=>d9
 |n+1,.tup xs=>xs.all<|flat n
 |_,_=>ee
def Mu{α β:Type}{f:α->Option β}:∀{xs:List α},(∀x∈xs,∃d,f x=d7 d)->∃ds,xs.mapM f=d7 ds
 |[],_=>⟨[],rfl⟩
 |x::xs,h=>by obtain⟨d,hd⟩:=h x (by simp);obtain⟨ds,hds⟩:=Mu (xs:=xs) λy hy=>h y (by simp[hy]);exact⟨d::ds,by rw[ύ,hd,hds];rfl⟩
def Ke{h:Hs}:∀{n:Nat}{v:Val},flat n v=d9->∃d,dat h n v=d7 d
 |0,.non,_=>⟨_,rfl⟩
 |0,.bl _,_=>⟨_,rfl⟩
 |0,.int _,_=>⟨_,rfl⟩
 |0,.str _,_=>⟨_,rfl⟩
 |n+1,.non,_=>⟨_,rfl⟩
 |n+1,.bl _,_=>⟨_,rfl⟩
 |n+1,.int _,_=>⟨_,rfl⟩
 |n+1,.str _,_=>⟨_,rfl⟩
 |n+1,.tup xs,e=>by obtain⟨ds,hds⟩:=Mu (f:=dat h n) (xs:=xs) λx hx=>Ke<|ó.mp e x hx;exact⟨_,by show(xs.mapM<|dat h n).map D.tup=_;rw[hds];rfl⟩
def W5{v:Val}(e:flat 12 v=d9):eqV h v v=d7 d9:=by obtain⟨d,hd⟩:=Ke (h:=h) e;show(dat h 12 v).bind (λd=>(dat h 12 v).map λe=>D.eqv d e)=_;rw[hd];show d7 (D.eqv d d)=_;rw[D.eqv_refl]
def XZ{xs:List Val}(ea:h a=d7 (.lst xs))(eb:h b=d7 (.lst xs))(e:xs.all (flat 11)=d9):eqV h (.ref a) (.ref b)=d7 d9:=by
 obtain⟨ds,hds⟩:=Mu (f:=dat h 11) (xs:=xs) λx hx=>Ke<|ó.mp e x hx;have h1:∀{c:Ad},h c=d7 (.lst xs)->dat h deep (.ref c)=d7 (.lst ds):=λ{c} ec=>by show(eR<|h c).bind (λxs=>(xs.mapM<|dat h 11).map D.lst)=_;rw[ec,Xu,ò,hds];rfl
 unfold eqV;rw[h1 ea,h1 eb];show d7 (D.eqv _ _)=_;rw[D.eqv_refl]
def all_map{α:Type}{f:α->Val}{n:Nat}{xs:List α}(h:∀x∈xs,flat n (f x)=d9):(xs.map f).all (flat n)=d9:=by rw[List.all_map];exact ó.mpr h
def JS{i:Int}:flat n (.int i)=d9:=by cases n<;>rfl
def Fm(d:Dd):flat 11 d.v=d9:=by cases d<;>rfl
def C7(b:Int)(l:Lab):flat 11 (.tup [.int b,l.v])=d9:=by obtain⟨r,c,u⟩:=l;cases u<;>rfl
def Cl(r:Int×Int×Int×L):flat 11 (rdV r)=d9:=by obtain⟨a,b,c,nu,st,ro,co,ag,re,agr⟩:=r;cases re<;>cases agr<;>rfl
def D1(bs:List Int)(ts:List Tie):flat 12 (ZY bs ts)=d9:=by show((bs.map Val.int).all (flat 10)&&((ts.map trV).all (flat 10)&&d9))=d9;rw[all_map λ_ _=>JS,all_map λ_ _=>rfl];rfl
def An(a b:List Int):flat 12 (.tup [.tup<|a.map .int,.tup<|b.map .int])=d9:=by show((a.map Val.int).all (flat 10)&&((b.map Val.int).all (flat 10)&&d9))=d9;rw[all_map λ_ _=>JS,all_map λ_ _=>JS];rfl
abbrev SM(C:Yc):List Val:=C.keys.map λb=>.tup [.int b,pV ((C.at_ b).life,(C.at_ b).version)]
section
variable {Y Z:Yd}{N:Nat}
def KU(x:eQ h Y)(gd:Y.cc.gd N)(k:∀p g,h p=d8->Ext h g->g p=d7 (.lst<|SM Y.cc)->Q (.ref p) g):wF P (n+2) "Yard.stamps" [.ref Y.y] h Q X:=by
 have xi:=x.ins;have xs:=x.stand;have ek:(stands Y.es).map (·.1)=Y.cc.br.map (·.1):=(ZL _).trans (Xo _).symm;have h10:=gd.ten;have kl:=XA (C:=Y.cc);refine KA ?_;refine' MN xs (Uo _) (by rw[ek];lia) (Zc λp1 g1 bx x1 e1=>?_);rw[ek]at e1;have x':=x.ext x1;have xi:=x'.ins;have xs:=x'.stand;refine' ⟨Ñ (by rw[À];show Y.cc.keys.length<=10;lia) (by decide),?_⟩;refine Zt (λi ys g=>g=g1/\ys=(Y.cc.keys.take i).map λb=>.tup [.int b,pV ((Y.cc.at_ b).life,(Y.cc.at_ b).version)]) ⟨rfl,rfl⟩ (λi ys g _ ⟨z,_⟩=>by rw[z];exact lsE e1) ?_ ?_
 .rintro i v ys g hv ⟨rfl,rfl⟩ K hK;obtain⟨nm,hnm,rfl⟩:=ZH hv;obtain⟨e,he,en,lk,ea,ba⟩:=x'.at_<|keys_mem.mp<|ä hnm;have bi:=ba.ins;walk_at "p";refine Z2 xs rfl (by rw[Z9,lk];rfl) ?_
  exists Xi ba
  refine' hK _ _ ⟨rfl,?_⟩;rw[Zf (xs:=Y.cc.keys) hnm,Ó,<-ea];rfl
 .rintro ys g ⟨rfl,rfl⟩;rw[À,show(sortI (Y.cc.br.map (·.1))).length=Y.cc.keys.length from rfl,ô];exact Zc λp g2 hp x2 ep=>k p g2 (Ym x1 hp) (x1.trans x2) ep
def U6(x:eQ h Y)(k:Q (.int Y.most) h):wF P (n+1) "Yard.greatest" [.ref Y.y] h Q X:=by have xi:=x.ins;refine W0 ?_;refine' k
def Wf(x:eQ h Y)(z:eQ h Z)(e:Z.cc=Y.cc)(gd:Y.cc.gd N)(k:∀g,Ext h g->Q (.bl d9) g):wF P (n+6) "_law_alike" [.ref Y.y,.ref Z.y] h Q X:=by
 have gz:Z.cc.gd N:=e▸gd;have eb:Z.bs=Y.bs:=congrArg Yc.bs e;have et:Z.ts=Y.ts:=congrArg Yc.ts e;have em:Z.most=Y.most:=congrArg Yc.most e;have er:Z.road=Y.road:=congrArg Yc.road e;have t16:Y.ts.length<=16:=gd.no.sixteen;have cL:(Y.ts.map trV).length=Y.ts.length:=À _;have xi:=x.ins;have zi:=z.ins;refine NT ?_;refine' YJ x gd λp1 g1 bx x1 e1=>?_;have zi:=(z.ext x1).ins;refine' YJ (z.ext x1) gz λp2 g2 cK x2 e2=>?_;rw[e]at e2;refine Yz (XZ (x2.get e1) e2<|all_map λ_ _=>C7 _ _) ?_;have y2:=x.ext<|x1.trans x2;have z2:=z.ext<|x1.trans x2;have yi:=y2.ins;walk_at "p";refine KU y2 gd λp3 g3 hp3 x3 e3=>?_;have zi:=(z2.ext x3).ins;refine' KU (z2.ext x3) gz λp4 g4 hp4 x4 e4=>?_;rw[e]at e4;refine Yz (XZ (x4.get e3) e4<|all_map λ_ _=>rfl) ?_;have y4:=y2.ext<|x3.trans x4;have z4:=z2.ext<|x3.trans x4;have yi:=y4.ins;walk_at "p";refine Wu y4 gd λg5 x5=>?_;have zi:=(z4.ext x5).ins;refine' Wu (z4.ext x5) gz λg6 x6=>?_;rw[e];refine Yz (W5<|An _ _) ?_;have y6:=y4.ext<|x5.trans x6;have z6:=z4.ext<|x5.trans x6;have yi:=y6.ins;walk_at "p";refine XE y6 λp7 g7 hp7 x7 e7=>?_;have zi:=(z6.ext x7).ins;refine' XE (z6.ext x7) λp8 g8 hp8 x8 e8=>?_;rw[er]at e8;refine Yz (XZ (x8.get e7) e8<|all_map λ_ _=>Cl _) ?_;have y8:=y6.ext<|x7.trans x8;have z8:=z6.ext<|x7.trans x8;have yi:=y8.ins;have zi:=z8.ins;walk_at "p";refine XI y8 ?_
 exists XI z8
 rw[eb,et];refine Yz (W5<|D1 _ _) ?_;walk_at "p";refine U6 y8 ?_
 exists U6 z8
 rw[em];refine Yz (W5 (v:=.int Y.most) rfl) ?_;walk_at "p";refine XI y8 ?_
 exists eK (xs:=[.tup<|Y.bs.map .int,.tup<|Y.ts.map trV]) (v:=.tup<|Y.ts.map trV) rfl
 fail;rw[cL];refine⟨⟨by lia,by lia⟩,?_⟩;refine Zo (λi en g=>g=g8/\∃v,en=[d7<|.ref Y.y,d7<|.ref Z.y,v]) ⟨rfl,_,rfl⟩ (λ_ _ _ _ _=>trivial) ?_ ?_
 .rintro i v en g hv ⟨rfl,v2,rfl⟩ K hK;obtain⟨rfl,hi⟩:=YT hv;refine' UW y8 (by lia) ?_;refine' UW z8 (by rw[et];lia) ?_;rw[e];refine Yz (W5 rfl) ?_;walk_at "p";exact hK _ _ ⟨rfl,_,rfl⟩
 .rintro en g ⟨rfl,v2,rfl⟩;refine' k _ (((x1.trans x2).trans<|x3.trans x4).trans<|(x5.trans x6).trans<|x7.trans x8)
end
abbrev Bad(C:Yc)(v:Val):Prop:=(∃d:Dd,v=d.v/\step C d=d8)\/v=.tup [.str "tick"]\/v=.tup [.str "rise",.int 0]
def Mv.base{f:Hs}(m:Mv g Y f Z)(b:∀a∈Y.adr,h a=d8)(x:Ext h g):Ext h f/\∀a∈Z.adr,h a=d8 :=
 ⟨⟨λ{a o} e=>m.ex.get (λz=>by rw[b a z]at e;cases e)<|x.get e⟩,λa ha=>(m.nw a ha).elim (b a)<|Ym x⟩
section
variable {Y Z:Yd}{N:Nat}
def UM{xs:List Val}{ws:List String}(hs:¬(fm xs.length 0 d8=0/\fm xs.length xs.length (d7 (-1))=xs.length))(hc:cut xs d8 (d7 (-1))=ws.map .str)(hlen:ws.length<=2)(hin:∀h,eW h .notin (.tup<|ws.map .str) (.tup<|wordsL.map λl=>.tup<|l.map .str)=d7 d9)(k:∀g,Ext h g->X "NoDeed" g):wF P (n+2) "read_deed" [.tup xs] h Q X:=by
 refine WS ?_;walk_at "p";refine fE (lo:=d8) (hi:=d7 (-1)) hs ?_;rw[hc];refine' ⟨Ñ (by rw[À];exact hlen) (by decide),Yj (λ_=>d7<|.bl d9) trivial (λv hv K hK=>?_) ?_⟩
 .obtain⟨u,_,rfl⟩:=å.mp hv;walk_at "p";exact hK
 rw[show(ws.map Val.str).filterMap (λ_=>d7<|Val.bl d9)=(ws.map λ_=>d9).map Val.bl by rw[θ,ú];exact congrFun (Λ (f:=λ_:String=>Val.bl d9)) ws];refine Zc λp1 g1 bx x1 e1=>?_
 exists MF (bs:=ws.map λ_=>d9) e1 (Yo _)
 fail;refine fH (by simp) ?_
 exists eF (a:=d9) (hin _)
 walk_at "p";exact k g1 x1
def Lp{v:Val}(x:eQ h Y)(gd:Y.cc.gd N)(hN:N<=6000)(b:Bad Y.cc v)(k:∀g,Ext h g->X "NoDeed" g):wF P (n+6) "Yard.deed" [.ref Y.y,v] h Q X:=by
 rcases b with⟨d,rfl,hd⟩|b
 .exact Yy x gd hN (λ_ _ s=>by rw[hd]at s;cases s) λg _ _ x1=>k g x1
 .refine WQ ?_;rcases b with rfl|rfl
  .refine' UM (ws:=[]) (by decide) rfl (by decide) (λ_=>rfl) k
  .refine' UM (ws:=["rise"]) (by decide) rfl (by decide) (λ_=>rfl) k
variable {pd:Ad}
def AF{bs:List Int}{l:List Dd}{r:List Val}(no:eY bs ts)(ed:h pd=d7 (.lst<|l.map Dd.v++r))(hr:run (M0 bs ts most) l=d7 C)(hl:l.length<=5000)(hb:∀v s,r=v::s->Bad C v)
  (k:r=[]->∀Y g,eQ g Y->Y.cc=C->(∀a∈Y.adr,h a=d8)->Ext h g->Q (.ref Y.y) g) (kx:r≠[]->∀g,Ext h g->X "NoDeed" g):wF P (n+7) "yard_behind" [ZY bs ts,.int most,.ref pd] h Q X:=by
 have g0:=O3 (most:=most) no;refine Ks ?_;fail;intro y hy;refine Wt no hy λY g1 ey y1 ec fr x1=>?_;refine⟨rfl,?_⟩;subst ey;have ed1:=x1.get ed;refine' Zo (λi en g=>Sm2 λv Z=>Cj4 (en=[d7<|ZY bs ts,d7<|.int most,d7<|.ref pd,d7<|.ref Y.y,v]) (Mv g1 Y g Z) (i<=l.length)<|run (M0 bs ts most) (l.take i)=d7 Z.cc) ⟨_,Y,rfl,Mv.refl y1,Ň _,by rw[ec];rfl⟩ (λi en g _ ⟨_,_,_,m,_,_⟩=>lsE<|(m.base fr x1).1.get ed) ?_ ?_
 .rintro i v en g hv ⟨v4,Z,rfl,m,hi,hz⟩ K hK;obtain⟨gz,_⟩:=YC g0 hz;have hN:0+(l.take i).length<=6000:=by rw[ÿ];lia
  have zi:=m.at_.ins;rw[m.y]at zi;fail;rw[<-m.y];by_cases hil:i<l.length
  .have hd:=Ê hil;rw[þ (by rw[À];exact hil),Õ,hd]at hv;cases hv;have hs:∃D,step Z.cc l[i]=d7 D:=by
    have e:=cg (i+1) l;rw[<-e,We]at hr;obtain⟨D,h1,_⟩:=á.mp hr;rw[Zf hd,Z7 hz]at h1;exact⟨D,h1⟩
   obtain⟨D,hD⟩:=hs;refine Yy m.at_ gz hN (λV g3 s mv=>?_) (λg3 s=>by rw[hD]at s;cases s);fail;rw[m.y];refine hK _ _ ⟨_,V,rfl,m.trans mv,hil,?_⟩;rw[Zf hd,Z7 hz,s]
  .have e:i=l.length:=by lia
   subst e;rw[ô,hr]at hz;cases hz;rw[ă (by rw[À];exact Í _),À,Nat.sub_self]at hv;cases r with
   |nil=>cases hv
   |cons u s =>cases hv;exact Lp m.at_ gz hN (hb _ _ rfl) λg3 x3=>kx (by simp) g3<|(m.base fr x1).1.trans x3
 .rintro en g ⟨v4,Z,rfl,m,hi,hz⟩;rw[Ü,À]at hi hz;have er:r=[]:=ű (by lia);subst er;rw[ė,Nat.add_zero,ô,hr]at hz;cases hz;obtain⟨q1,q2⟩:=m.base fr x1;fail;rw[<-m.y];exact k rfl Z g m.at_ rfl q2 q1
variable {vs:List Val}
def Qr{bs:List Int}(ed:h pd=d7 (.lst vs))(hm:¬(0<=m/\m<=vs.length))(kx:X "NoLine" h):wF P (n+8) "yard_at" [ZY bs ts,.int most,.ref pd,.int m] h Q X:=by
 refine K3 ?_
 exists Yq
 exists JI
 walk_at "p";refine fI (λh0=>?_) λh0=>?_
 .fail;rw[f9<|by lia];walk_at "p";exact kx
 .walk_at "p";exact kx
def Um{bs:List Int}{l:List Dd}{r:List Val}(no:eY bs ts)(ed:h pd=d7 (.lst vs))(h0:0<=m)(h1:m<=vs.length)(ev:vs.take m.toNat=l.map Dd.v++r)(hr:run (M0 bs ts most) l=d7 C)(hl:l.length<=5000)(hb:∀v s,r=v::s->Bad C v)
  (k:r=[]->∀Y g,eQ g Y->Y.cc=C->(∀a∈Y.adr,h a=d8)->Ext h g->Q (.ref Y.y) g) (kx:r≠[]->∀g,Ext h g->X "NoDeed" g):wF P (n+8) "yard_at" [ZY bs ts,.int most,.ref pd,.int m] h Q X:=by
 refine K3 ?_
 exists MB h0 h1
 walk_at "p";refine Zc λp2 g2 cK x2 e2=>?_;have ec:cut vs d8 (d7 m)=l.map Dd.v++r:=by rw[<-ev];unfold cut fm;dsimp only;rw[fZ h0,Š<|by lia];rfl
 rw[ec]at e2;refine' AF no e2 hr hl hb (λer Y g y c fr x=>k er Y g y c (λa ha=>Ym x2<|fr a ha)<|x2.trans x) λer g x=>kx er g<|x2.trans x
end
def Z4{d:Dd}(h:step C d=d8):Bad C d.v:=.inl ⟨d,rfl,h⟩
abbrev BadL(C:Yc)(m:Nat)(xs:List Val):Prop:=(∀v∈xs,Bad C v)/\xs.length<=m
variable {ys:List Val}
def BadL.app{m k:Nat}{xs:List Val}(a:BadL C m xs)(b:BadL C k ys):BadL C (m+k)<|xs++ys:=⟨λv hv=>(â.mp hv).elim (a.1 v)<|b.1 v,by rw[Ü];have:=a.2;have:=b.2;lia⟩
def BadL.one{k:Nat}{v:Val}(a:BadL C k ys)(b:Bad C v):BadL C (k+1)<|ys++(d7 v).toList:=a.app ⟨λu hu=>by rw[Option.toList_some,Ý]at hu;rw[hu];exact b,Í _⟩
def Ff{c:String}{Ts:List String}(e:h a=d7 (.exc c))(q:Q (.bl<|Ts.any<|fO c) h):(biV h (.isx Ts) [.ref a]).wp h Q:=wp_val (by show Rs.ofO ((excOf<|h a).map _)=_;rw[e];rfl) q
def Ei{b:Int}(h:(C.br.lookup b).isSome=ee):C.br.lookup b=d8:=by cases z:C.br.lookup b with|none=>rfl|some v=>rw[z]at h;cases h
section
variable {Y Z:Yd}{N:Nat}
def EK(hw:Ints h w)(x:eQ h Y)(gd:Y.cc.gd N)(nw:w∉Y.adr)(k:∀v g,Bad Y.cc v->ExtB w h g->Q v g):wF P (n+3) "_law_bad_deed" [.ref w,.ref Y.y] h Q X:=by
 have h10:=gd.ten;have kl:=XA (C:=Y.cc);have t16:Y.ts.length<=16:=gd.no.sixteen;have b10:Y.cc.bs.length<=10:=gd.no.ten;have cL:(Y.ts.map trV).length=Y.ts.length:=À _;have rl:(Y.road.map rdV).length=Y.road.length:=À _;have hc16:=gd.f16;have cl:=Nx (C:=Y.cc);have dl:=A9 (C:=Y.cc);have dl2:(Y.cc.downs.map Val.int).length=Y.cc.downs.length:=À _;have cl2:(Y.cc.cuts.map Val.int).length=Y.cc.cuts.length:=À _;have xi:=x.ins;have lm:(100:Nat)<lim:=by decide
 refine JO ?_;refine' Wu x gd λg1 x1=>?_;have y1:=x.ext x1;have yi:=y1.ins;refine' XE y1 λp2 g2 cK x2 e2=>?_;have y2:=y1.ext x2;have yi:=y2.ins;refine' XE y2 λp3 g3 hp3 x3 e3=>?_;have y3:=y2.ext x3;have yi:=y3.ins;refine' Zc λp4 g4 hp4 x4 e4=>?_;have y4:=y3.ext x4;have yi:=y4.ins;rw[rl]at e4;have s4:BadL Y.cc 5 [.tup [.str "come",.int (Y.road.length:Nat)],.tup [.str "lost",.int<|(Y.road.length:Nat)+3],.tup [.str "come",.int<|0 - 1],.tup [.str "tick",.int 1000],.tup [.str "tick"]]:=by
  refine⟨λv hv=>?_,by simp⟩;simp only[Æ,Þ,or_false]at hv;rcases hv with rfl|rfl|rfl|rfl|rfl
  .exact Z4 (d:=.come _) (by dsimp only[step];exact W9 (Y:=Y) (p:=(Y.road.length:Nat)) λz=>Int.lt_irrefl _ z.2)
  .exact Z4 (d:=.lost _) (by dsimp only[step];exact W9 (Y:=Y)<|by lia)
  .exact Z4 (d:=.come _) rfl
  .refine Z4 (d:=.tick _) ?_;show(Y.cc.br.lookup 1000).map _=d8;rw[Ei]
   .rfl
   .cases z:(Y.cc.br.lookup 1000).isSome with
    |false=>rfl
    |true=>have:=gd.no.rng _<|keys_sub.mp gd.sub _<|keys_look.mp z;lia
  .exact .inr<|.inl rfl
 have fill:∀{xs:List Val}{m:Nat},BadL Y.cc m xs->m<=100->xs.length<=lim:=λa b=>ß a.2<|Ū<|Ñ b lm;have dn:∀b∈Y.cc.downs,Y.cc.br.lookup b=d8:=λb hb=>Ei (downs_mem.mp hb).2;refine' ⟨Ñ (by show(Y.cc.downs.map Val.int).length<=100;lia) lm,?_⟩;refine Zt (λi ys g=>g=g4/\BadL Y.cc i ys) ⟨rfl,by simp[BadL]⟩ (λ_ _ _ _ _=>trivial) ?_ ?_
 .rintro i v ys g hv ⟨rfl,hb⟩ K hK;obtain⟨b,hm,rfl⟩:=ZH hv;walk_at "p";exact hK _ _ ⟨rfl,hb.one<|Z4 (d:=.fallB b)<|by dsimp only[step];rw[dn b<|ä hm];rfl⟩
 rintro ys g ⟨rfl,s5⟩;rw[dl2]at s5;refine Zc λp5 g5 hp5 x5 e5=>?_;have s6:=s4.app s5;refine' YR (x5.get e4) e5 (fill s6<|by lia) (Zc λp6 g6 hp6 x6 e6=>?_);refine' ⟨Ñ (by show(Y.cc.downs.map Val.int).length<=100;lia) lm,?_⟩;refine Zt (λi ys g=>g=g6/\BadL Y.cc i ys) ⟨rfl,by simp[BadL]⟩ (λ_ _ _ _ _=>trivial) ?_ ?_
 .rintro i v ys g hv ⟨rfl,hb⟩ K hK;obtain⟨b,hm,rfl⟩:=ZH hv;walk_at "p";exact hK _ _ ⟨rfl,hb.one<|Z4 (d:=.tick b)<|by dsimp only[step];rw[dn b<|ä hm];rfl⟩
 rintro ys7 g ⟨rfl,s7⟩;rw[dl2]at s7;refine Zc λp7 g7 hp7 x7 e7=>?_;have s8:=s6.app s7;refine' YR (x7.get e6) e7 (fill s8<|by lia) (Zc λp8 g8 hp8 x8 e8=>?_);have y8:=y4.ext<|(x5.trans x6).trans<|x7.trans x8;have yi:=y8.ins;refine' YJ y8 gd λp9 g9 hp9 x9 e9=>?_;have ll:(MZ Y.cc).length=Y.cc.keys.length:=À _;refine' ⟨Ñ (by show(MZ Y.cc).length<=100;lia) lm,?_⟩;refine Zt (λi ys g=>g=g9/\BadL Y.cc i ys) ⟨rfl,by simp[BadL]⟩ (λi ys g _ ⟨z,_⟩=>by rw[z];exact lsE e9) ?_ ?_
 .rintro i v ys g hv ⟨rfl,hb⟩ K hK;obtain⟨b,hm,rfl⟩:=ZH hv;walk_at "p";exact hK _ _ ⟨rfl,hb.one<|Z4 (d:=.backB b)<|fZ<|keys_mem.mp<|ä hm⟩
 rintro ys10 g ⟨rfl,s10⟩;rw[ll]at s10;refine Zc λp10 g10 hp10 x10 e10=>?_;have s11:=s8.app s10;refine' YR ((x9.trans x10).get e8) e10 (fill s11<|by lia) (Zc λp11 g11 hp11 x11 e11=>?_);have y11:=y8.ext<|(x9.trans x10).trans x11;have yi:=y11.ins
 exists XI y11
 exists eK (xs:=[.tup<|Y.bs.map .int,.tup<|Y.ts.map trV]) (v:=.tup<|Y.ts.map trV) rfl
 fail;rw[cL];refine⟨⟨by lia,by lia⟩,by rw[Yv];exact Ñ (by lia:_<=100) lm,?_⟩;refine Zt (λi ys g=>g=g11/\BadL Y.cc i ys) ⟨rfl,by simp[BadL]⟩ (λ_ _ _ _ _=>trivial) ?_ ?_
 .rintro i v ys g hv ⟨rfl,hb⟩ K hK;obtain⟨rfl,hi⟩:=YT hv
  exists Dx (ns:=Y.cc.cuts)
  refine' Os (λhc=>?_) (λhc=>?_)
  .refine' hK _ _ ⟨rfl,hb.one<|Z4 (d:=.backT (i:Int))<|f8 λz=>hc<|cut_mem.mpr z⟩
  .exact hK _ _ ⟨rfl,by rw[cE,ð];exact⟨hb.1,Nat.le_succ_of_le hb.2⟩⟩
 rintro ys12 g ⟨rfl,s12⟩;rw[Yv,ã]at s12;refine Zc λp12 g12 hp12 x12 e12=>?_;have s13:=s11.app s12;refine' YR (x12.get e11) e12 (fill s13<|by lia) (Zc λp13 g13 hp13 x13 e13=>?_);refine' ⟨Ñ (by show(Y.cc.cuts.map Val.int).length<=100;lia) lm,?_⟩;refine Zt (λi ys g=>g=g13/\BadL Y.cc i ys) ⟨rfl,by simp[BadL]⟩ (λ_ _ _ _ _=>trivial) ?_ ?_
 .rintro i v ys g hv ⟨rfl,hb⟩ K hK;obtain⟨b,hm,rfl⟩:=ZH hv;walk_at "p";exact hK _ _ ⟨rfl,hb.one<|Z4 (d:=.fallT b)<|f8 λz=>by rw[cut_mem.mp<|ä hm]at z;cases z.2⟩
 rintro ys14 g ⟨rfl,s14⟩;rw[cl2]at s14;refine Zc λp14 g14 hp14 x14 e14=>?_;have s15:=s13.app s14;refine' YR (x14.get e13) e14 (fill s15<|by lia) (Zc λp15 g15 hp15 x15 e15=>?_);have y15:=y11.ext<|(x12.trans x13).trans<|x14.trans x15;have yi:=y15.ins
 exists XI y15
 exists eK (xs:=[.tup<|Y.bs.map .int,.tup<|Y.ts.map trV]) (v:=.tup<|Y.ts.map trV) rfl
 fail;rw[cL];refine Zc λp16 g16 hp16 x16 e16=>?_;have s16:BadL Y.cc 2 [.tup [.str "fall",.str "tie",.int (Y.ts.length:Nat)],.tup [.str "rise",.int 0]]:=by
  refine⟨λv hv=>?_,by simp⟩;simp only[Æ,Þ,or_false]at hv;rcases hv with rfl|rfl
  .exact Z4 (d:=.fallT _)<|f8 λz=>Int.lt_irrefl (Y.ts.length:Nat) z.1.2
  .exact .inr<|.inr rfl
 have s17:=s15.app s16;refine YR (x16.get e15) e16 (fill s17<|by lia)<|Zc λp17 g17 hp17 x17 e17=>?_;fail;have xx:Ext h g17:=((((x1.trans x2).trans<|x3.trans x4).trans<|(x5.trans x6).trans<|x7.trans x8).trans<|((x9.trans x10).trans x11).trans<|x12.trans x13).trans<|(x14.trans x15).trans<|x16.trans x17;have w17:=hw.ext xx;have n17:p17≠w:=λz=>(hw.ext<|((((x1.trans x2).trans<|x3.trans x4).trans<|(x5.trans x6).trans<|x7.trans x8).trans<|((x9.trans x10).trans x11).trans<|x12.trans x13).trans<|(x14.trans x15).trans x16).ne hp17 z.symm;refine Zk w17 (by simp only[Ü,Ç];lia) λr g18 r0 r1 x18 w18=>?_;obtain⟨v,ev,mv⟩:=Mr r0 r1;refine ZJ (x18.get n17 e17) ev ?_;exact k v g18 (s17.1 v mv)<|(ExtB.of xx).trans x18
def U4{c:String}{bs:List Int}{pd:Ad}(hc:c = "NoLine"\/c = "NoDeed")(q:∀{Q:Q1}{X:XQ}{g:Hs},Ext h g->(∀g',Ext g g'->X c g')->wF P (n+8) "yard_at" [ZY bs ts,.int most,.ref pd,.int m] g Q X)(k:∀p g,Ext h g->g p=d7 (.lst [.bl<|c == "NoLine",.bl<|c == "NoDeed",.bl d9,.bl ee])->Q (.ref p) g):wF P (n+9) "_law_told" [ZY bs ts,.int most,.ref pd,.int m] h Q X:=by
 refine Oz ?_;refine' Zc λp1 g1 bx x1 e1=>?_;refine' q x1 λg2 x2=>?_;refine Py (by rcases hc with rfl|rfl<;>rfl) λpe hpe=>?_;have e3:upd g2 pe (.exc c) pe=d7 (.exc c):=ej;have x3:Ext g2<|upd g2 pe<|.exc c:=Ext.new hpe;generalize upd g2 pe (.exc c)=g3 at e3 x3
 exists Ff e3
 exists Ff e3
 exists Ff e3
 refine' Zc λp4 g4 hp4 x4 e4=>?_
 exists Ff (x4.get e3)
 fail;have xx:=((x1.trans x2).trans x3)
 refine k p4 _ (Uq (xx.trans x4)<|Ym xx hp4) ?_;rcases hc with rfl|rfl<;>exact ej
end
def Nv{D E:Yc}{l:List Dd}{d:Dd}(hr:run C l=d7 D)(hd:l[i]?=d7 d)(hz:run C (l.take i)=d7 E):∃F,step E d=d7 F:=by rw[<-cg (i+1) l,We]at hr;obtain⟨F,h1,_⟩:=á.mp hr;rw[Zf hd,Z7 hz]at h1;exact⟨F,h1⟩
def NP{a:Int}(h0:0<=a)(h1:a<=xs.length):cut xs d8 (d7 a)=xs.take a.toNat:=by unfold cut fm;dsimp only;rw[fZ h0,Š<|by lia];rfl
def DO{a:Int}(h0:0<=a)(h1:a<=xs.length):cut xs (d7 a) d8=xs.drop a.toNat:=by unfold cut fm;dsimp only;rw[fZ h0,Š<|by lia];exact į (by rw[Ř];lia)
structure Two(g:Hs)(A B:Yd):Prop where
 a:eQ g A
 b:eQ g B
 dj:∀x∈A.adr,x∉B.adr
variable {A:Yd}
def Two.symm{B:Yd}(t:Two g A B):Two g B A:=⟨t.b,t.a,λx hb ha=>t.dj x ha hb⟩
def Two.left{f:Hs}{B A':Yd}(t:Two g A B)(m:Mv g A f A'):Two f A' B:=⟨m.at_,t.b.keep m.ex λa hb ha=>t.dj a ha hb,λx hx hb=>(m.nw x hx).elim (λz=>t.dj x z hb) λz=>t.b.taken hb z⟩
def Two.ext{f:Hs}{B:Yd}(t:Two g A B)(x:Ext g f):Two f A B:=⟨t.a.ext x,t.b.ext x,t.dj⟩
section
variable {Y Z:Yd}{N:Nat}
def law_ok(h63:ns.length<=63)(k:∀g,Q (.bl d9) g):wF P (n+10) "law" [.scr ns] h Q X:=by
 refine PY ?_;refine' Dg h63 λw g1 w1=>?_;refine' Zc λp2 g2 cK x2 e2=>?_;have n2:p2≠w:=λz=>w1.ne cK z.symm;refine' Zk (w1.ext x2) (by decide) λr3 g3 a3 b3 x3 w3=>?_;obtain⟨v,ev,hv⟩:=Mr (xs:=[Val.int 13,.int 13,.int 13,.int 197]) a3 b3;have hm:∃m:Int,v=.int m/\0<m:=by simp only[Æ,Þ,or_false]at hv;rcases hv with rfl|rfl|rfl|rfl<;>exact⟨_,rfl,by decide⟩
 obtain⟨m,rfl,m0⟩:=hm;refine ZJ (x3.get n2 e2) ev ?_;refine' Zk w3 m0 λr4 g4 a4 b4 x4 w4=>?_;refine' Zk w4 (by decide) λat0 g5 a5 b5 x5 w5=>?_;refine' Zk w5 (by decide) λr6 g6 a6 b6 x6 w6=>?_;refine' Zc λpb g7 hpb x7 eb=>?_;have nb:pb≠w:=λz=>w6.ne hpb z.symm;refine' Zk (w6.ext x7) (by decide) λbh g8 a8 b8 x8 w8=>?_;refine' IQ w8 λbs ts g9 no x9 w9=>?_;have eb9:=x9.get nb<|x8.get nb eb;have gd0:=O3 (most:=4+r4) no;fail;intro y hy;refine Wt no hy λY g10 ey y10 ec fr x10=>?_;refine⟨rfl,?_⟩;subst ey;refine' LY (w9.ext x10) y10 (ec▸gd0) (λz=>by obtain⟨o,eo⟩:=w9.some_;rw[fr _ z]at eo;cases eo) λpr l C g11 hr hl npr er ex11 w11=>?_;rw[ec]at hr;have eb11:g11 pb=d7 (.lst [.int r6]):=ex11.get (by simp only[Æ,not_or];exact⟨nb,λz=>by rw[fr _ z]at eb9;cases eb9⟩)<|x10.get eb9;have ll:(l.map Dd.v).length=l.length:=À _;fail;rw[ll];have hat:∃at_:Nat,at0 % ((l.length:Int)+1)=at_/\at_<=l.length:=by have h1:=Χ at0 (b:=(l.length:Int)+1) (by lia);have h2:=π at0 (b:=(l.length:Int)+1) (by lia);exact⟨(at0 % ((l.length:Int)+1)).toNat,by lia,by lia⟩
 obtain⟨at_,eat,hat⟩:=hat;rw[eat];clear ex11 y10 fr x10 x9 x8 x7 x6 x5 x4 x3 x2 e2 eb9 eb;fail;intro y hy;refine Wt no hy λY1 g12 ey y12 ec1 fr1 x12=>?_;refine⟨rfl,?_⟩;subst ey;have er12:=x12.get er;refine' Zc λp13 g13 hp13 x13 e13=>?_;rw[NP (by lia) (by rw[ll];lia),ã,<-ů]at e13;have tl_:(l.take at_).length=at_:=by rw[ÿ];lia
 have y13:=y12.ext x13;refine' Zo (λi en g=>Sm2 λv9 Z=>Cj4 (en=[d7<|.scr ns,d7<|.ref w,d7<|.int<|4+r4,d7<|.int (at_:Nat),d7<|.ref pb,d7<|.int bh,d7<|ZY bs ts,d7<|.ref pr,d7<|.ref Y1.y,v9,d8,d8,d8,d8,d8]) (Mv g13 Y1 g Z) (run (M0 bs ts<|4+r4) (l.take i)=d7 Z.cc)<|i<=at_) ⟨_,Y1,rfl,Mv.refl y13,by rw[ec1];rfl,Ň _⟩ (λi en g _ ⟨_,_,_,m,_,_⟩=>lsE (m.off (λz=>y12.taken z hp13) e13).2) ?_ ?_
 .rintro i v en g hv ⟨v9,Z,rfl,mv,hz,hi⟩ K hK;obtain⟨d,hd,rfl⟩:=ZH hv;have hi:i<at_:=by have:=(Ï.mp hd).1;lia
  rw[dA,fZ hi]at hd;obtain⟨D,hD⟩:=Nv hr hd hz;obtain⟨gz,_⟩:=YC gd0 hz;have zi:=mv.at_.ins;rw[mv.y]at zi;fail;rw[<-mv.y];refine Yy mv.at_ gz (by rw[ÿ];lia) (λV g3 s m3=>?_) (λg3 s=>by rw[hD]at s;cases s);fail;rw[mv.y];exact hK _ _ ⟨_,V,rfl,mv.trans m3,by rw[Zf hd];exact(Z7 hz).trans s,hi⟩
 rintro en g14 ⟨v9,Z,rfl,mv,hz,hi⟩;rw[À,tl_]at hz;obtain⟨gz,_⟩:=YC gd0 hz;obtain⟨x14,fz⟩:=mv.base (λa ha=>fr1 a ha)<|x12.trans x13;have er14:=x14.get er;have eb14:=x14.get eb11;have z14:=mv.at_;rw[<-mv.y];generalize Z=Z1 at *;refine' Zc λph g15 hph x15 eh=>?_;have ev0:(l.map Dd.v).take ((at_:Nat):Int).toNat=(l.take at_).map Dd.v++[]:=by rw[ã,ð,ů]
 have noB:∀{C:Yc}(v:Val) (s:List Val),([]:List Val)=v::s->Bad C v:=λv s e=>by cases e
 refine' Um no eh (by lia) (by rw[ll];lia) ev0 hz (by lia) noB (λ_ Y2 g16 y16 e16 f16 x16=>?_) (λz=>gf rfl z);have t16:Two g16 Y2 Z1:=⟨y16,z14.ext<|x15.trans x16,λa ha hb=>(z14.ext x15).taken hb<|f16 a ha⟩
 have x1516:=x15.trans x16
 exists Yz (XZ (x16.get eh) (x1516.get er14)<|all_map λ_ _=>Fm _)
 walk_at "p";refine Wf t16.a t16.b e16.symm (e16▸gz) λg17 x17=>?_;have t17:=t16.ext x17;have x117:=x1516.trans x17;have er17:=x117.get er14;have eb17:=x117.get eb14;walk_at "p";refine Zc λp18 g18 hp18 x18 e18=>?_;rw[NP (by lia) (by rw[ll];lia),ã,<-ů]at e18;have t18:=t17.ext x18;have npb:pb∉Z1.adr:=λz=>by rw[fz _ z]at eb11;cases eb11
 have npb2:pb∉Y2.adr:=λz=>by have:=f16 _ z;rw[x15.get eb14]at this;cases this
 refine' EK (w:=pb) ⟨[r6],x18.get eb17⟩ t18.b gz npb λbv g19 hbv x19=>?_;have t19:Two g19 Y2 Z1:=⟨t18.a.extb x19 npb2,t18.b.extb x19 npb,t18.dj⟩
 have nbr:pr≠pb:=λz=>by rw[z,eb11]at er;cases l<;>cases er
 have n18:p18≠pb:=λz=>by rw[z,eb17]at hp18;cases hp18
 have er19:=x19.get nbr<|x18.get er17;have e19:=x19.get n18 e18;have lm:(5000:Nat)<lim:=by decide
 refine' Zc λp20 g20 hp20 x20 e20=>?_;refine' YR (x20.get e19) e20 (by rw[Ü,À,tl_];exact Ū<|Ñ (by simp only[Ķ];lia) lm) (Zc λp21 g21 hp21 x21 e21=>?_);have er21:=(x20.trans x21).get er19;refine' Zc λp22 g22 hp22 x22 e22=>?_;rw[DO (by lia) (by rw[ll];lia),ã,<-Ϟ]at e22;have vl:((l.take at_).map Dd.v++[bv]++(l.drop at_).map Dd.v).length=l.length+1:=by rw[Ü,Ü,À,À,Ř,tl_];simp only[Ķ];lia
 refine' Zc λps g23 hps x23 es=>?_;generalize hvs:(l.take at_).map Dd.v++[bv]++(l.drop at_).map Dd.v=vs at es vl;have x1923:=((x20.trans x21).trans x22).trans x23;have t23:=t19.ext x1923;have er23:=x1923.get er19;have ev1:vs.take ((at_:Nat):Int).toNat=(l.take at_).map Dd.v++[]:=by rw[<-hvs,ã,Ď,List.take_append_of_le_length (by rw[À,tl_];exact Í _),ð];exact į (by rw[À,tl_];exact Í _)
 have ev2:∀{m:Int},(at_:Int)<m->∃s,vs.take m.toNat=(l.take at_).map Dd.v++bv::s:=λ{m} hm=>by
  obtain⟨j,hj⟩:∃j,m.toNat=at_+(j+1):=⟨m.toNat - at_ - 1,by lia⟩
  refine⟨((l.drop at_).map Dd.v).take j,?_⟩;have:((l.take at_).map Dd.v).length=at_:=by rw[À,tl_]
  rw[<-hvs,Ď,hj,List.take_append,į (by lia),this,Nat.add_sub_cancel_left];rfl
 refine' Um no es (by lia) (by rw[vl];lia) ev1 hz (by lia) noB (λ_ Y3 g24 y24 e24 f24 x24=>?_) (λz=>gf rfl z);have t24:=t23.ext x24;refine' Wf y24 t24.b e24.symm (e24▸gz) λg25 x25=>?_;have t25:=t24.ext x25;have er25:=(x24.trans x25).get er23;have es25:=(x24.trans x25).get es;have npr1:pr∉Z1.adr:=λz=>by rw[fz _ z]at er;cases er
 have npr2:pr∉Y2.adr:=λz=>by have:=f16 _ z;rw[x15.get er14]at this;cases this
 have nps1:ps∉Z1.adr:=λz=>(t19.ext<|(x20.trans x21).trans x22).b.taken z hps;have nps2:ps∉Y2.adr:=λz=>(t19.ext<|(x20.trans x21).trans x22).a.taken z hps;walk_at "p";refine Zc λp26 g26 hp26 x26 e26=>?_;rw[Ln (by lia) (by lia),ã,show((at_:Int)+12).toNat - at_=12 by lia,<-Ϟ,<-ů]at e26;have n1:p26∉Z1.adr:=λz=>t25.b.taken z hp26;have n2':p26∉Y2.adr:=λz=>t25.a.taken z hp26;refine' Zo (λi en g=>∃v9 A B,en=[d7<|.scr ns,d7<|.ref w,d7<|.int<|4+r4,d7<|.int (at_:Nat),d7<|.ref pb,d7<|.int bh,d7<|ZY bs ts,d7<|.ref pr,d7<|.ref Z1.y,v9,d7<|.ref ph,d7<|.ref Y2.y,d7<|.ref ps,d8,d8]/\Two g A B/\A.y=Y2.y/\B.y=Z1.y/\A.cc=B.cc/\run (M0 bs ts<|4+r4) (l.take<|at_+i)=d7 B.cc/\(∀a∈[pr,ps,p26],a∉A.adr/\a∉B.adr)/\g pr=d7 (.lst<|l.map Dd.v)/\g ps=d7 (.lst vs)/\g p26=d7 (.lst<|((l.drop at_).take 12).map Dd.v)) ⟨_,Y2,Z1,rfl,t25.ext x26,rfl,rfl,e16,hz,(λa ha=>?_),x26.get er25,x26.get es25,e26⟩ (λi en g _ z=>by obtain⟨_,_,_,_,_,_,_,_,_,_,_,_,e⟩:=z;exact lsE e) ?_ ?_
 .simp only[Æ,Þ,or_false]at ha;rcases ha with rfl|rfl|rfl
  .exact⟨npr2,npr1⟩
  .exact⟨nps2,nps1⟩
  .exact⟨n2',n1⟩
 .rintro i v en g hv ⟨v9,A,B,rfl,t,ay,by_,ec,hz,na,e1,e2,e3⟩ K hK;obtain⟨d,hd,rfl⟩:=ZH hv;have hi:i<12:=by have:=(Ï.mp hd).1;rw[ÿ]at this;lia
  rw[dA,fZ hi,List.getElem?_drop]at hd;obtain⟨D,hD⟩:=Nv hr hd hz;obtain⟨gz,_⟩:=YC gd0 hz;have hN:0+(l.take<|at_+i).length<=6000:=by rw[ÿ];lia
  have ai:=t.a.ins;rw[ay]at ai;fail;rw[<-ay];refine Yy t.a (ec▸gz) hN (λV g3 s m3=>?_) (λg3 s=>by rw[ec,hD]at s;cases s);have t3:=t.left m3;have bi:=t3.b.ins;rw[by_]at bi;fail;rw[<-by_];refine Yy t3.b gz hN (λU g4 s4 m4=>?_) (λg4 s=>by rw[hD]at s;cases s);have t4:=(t3.symm.left m4).symm;have keep:∀{p o},p∉A.adr/\p∉B.adr->g p=d7 o->(p∉V.adr/\p∉U.adr)/\g4 p=d7 o:=λhn e=>by have o1:=m3.off hn.1 e;have o2:=m4.off hn.2 o1.2;exact⟨⟨o1.1,o2.1⟩,o2.2⟩
  have k1:=keep (na pr<|by simp) e1;have k2:=keep (na ps<|by simp) e2;have k3:=keep (na p26<|by simp) e3;fail;rw[ay,by_];refine hK _ _ ⟨_,V,U,rfl,t4,m3.y.trans ay,m4.y.trans by_,?_,?_,λa ha=>?_,k1.2,k2.2,k3.2⟩
  .rw[ec,hD]at s;rw[hD]at s4;exact í<|s.symm.trans s4
  .rw[<-Nat.add_assoc,Zf hd];exact(Z7 hz).trans s4
  .simp only[Æ,Þ,or_false]at ha;rcases ha with rfl|rfl|rfl
   .exact k1.1
   .exact k2.1
   .exact k3.1
 rintro en g27 ⟨v9,A,B,rfl,t27,ay,by_,ec2,hz2,na,er27,es27,_⟩;obtain⟨gz2,_⟩:=YC gd0 hz2;have ai:=t27.a.ins;have bi:=t27.b.ins;fail;rw[<-ay,<-by_];refine Wf t27.a t27.b ec2.symm (ec2▸gz2) λg28 x28=>?_;have er28:=x28.get er27;have es28:=x28.get es27;walk_at "p";refine Um (l:=[]) (r:=[]) no er28 (by decide) (by rw[ll];lia) rfl rfl (by simp) noB (λ_ Y4 g29 y29 e29 f29 x29=>?_) λz=>gf rfl z;fail;intro y hy;refine Wt no hy λY5 g30 ey y30 ec5 fr5 x30=>?_;refine⟨rfl,?_⟩;subst ey;refine' Wf (y29.ext x30) y30 (ec5.trans e29.symm) (e29▸gd0) λg31 x31=>?_;have er31:=((x29.trans x30).trans x31).get er28;have es31:=((x29.trans x30).trans x31).get es28;walk_at "p";rw[vl];have bad3:∀{m:Int}{Q:Q1}{g:Hs},g ps=d7 (.lst vs)->(at_:Int)<m->m<=(l.length:Int)+1->(∀p g',Ext g g'->g' p=d7 (.lst [.bl ee,.bl d9,.bl d9,.bl ee])->Q (.ref p) g')->wF P (n+9) "_law_told" [ZY bs ts,.int<|4+r4,.ref ps,.int m] g Q (λc g=>X c g):=λ{m Q g} e h1 h2 q=>by obtain⟨s,hs⟩:=ev2 h1;exact U4 (.inr rfl) (λx kx=>Um no (x.get e) (by lia) (by rw[vl];lia) hs hz (by lia) (λv s e=>by cases e;exact hbv) nofun λ_ g' x'=>kx g' x') q
 have bad4:∀{m:Int}{Q:Q1}{g:Hs}{p:Ad}{us:List Val},g p=d7 (.lst us)->¬(0<=m/\m<=us.length)->(∀p g',Ext g g'->g' p=d7 (.lst [.bl d9,.bl ee,.bl d9,.bl ee])->Q (.ref p) g')->wF P (n+9) "_law_told" [ZY bs ts,.int<|4+r4,.ref p,.int m] g Q (λc g=>X c g):=λ{m Q g p us} e h1 q=>U4 (.inl rfl) (λx kx=>Qr (x.get e) h1<|kx _ ⟨id⟩) q;have m0:=Χ bh (b:=((l.length+1:Nat):Int) - (at_:Nat)) (by lia);have m1:=π bh (b:=((l.length+1:Nat):Int) - (at_:Nat)) (by lia);refine Zo (λi en g=>Sm2 λv9 v13=>Cj3 (en=[d7<|.scr ns,d7<|.ref w,d7<|.int<|4+r4,d7<|.int (at_:Nat),d7<|.ref pb,d7<|.int bh,d7<|ZY bs ts,d7<|.ref pr,d7<|.ref B.y,v9,d7<|.ref ph,d7<|.ref A.y,d7<|.ref ps,v13,d8]) (g pr=d7 (.lst<|l.map Dd.v))<|g ps=d7 (.lst vs)) ⟨_,_,rfl,er31,es31⟩ (λ_ _ _ _ _=>trivial) ?_ ?_
 .rintro i v en g hv ⟨v9,v13,rfl,e1,e2⟩ K hK;have hm:∃m:Int,v=.int m/\(at_:Int)<m/\m<=(l.length:Int)+1:=by
   have:=ä hv;simp only[Æ,Þ,or_false]at this;rcases this with rfl|rfl|rfl<;>exact⟨_,rfl,by lia,by lia⟩
  obtain⟨m,rfl,h1,h2⟩:=hm;refine' bad3 e2 h1 h2 λp g' x' ep=>?_;refine' Zc λp3 g3 hp3 x3 e3=>?_;refine Yz (XZ (x3.get ep) e3 rfl) ?_;walk_at "p";exact hK _ _ ⟨_,_,rfl,(x'.trans x3).get e1,(x'.trans x3).get e2⟩
 rintro en g32 ⟨v9,v13,rfl,er32,es32⟩;refine' Zc λpn g33 hpn x33 en33=>?_;have er33:=x33.get er32;have es33:=x33.get es32;fail;rw[vl];refine Zo (λi en g=>Sm2 λv9 v13=>Cj4 (en=[d7<|.scr ns,d7<|.ref w,d7<|.int<|4+r4,d7<|.int (at_:Nat),d7<|.ref pb,d7<|.int bh,d7<|ZY bs ts,d7<|.ref pr,d7<|.ref B.y,v9,d7<|.ref ph,d7<|.ref A.y,d7<|.ref ps,v13,d7<|.ref pn]) (g pr=d7 (.lst<|l.map Dd.v)) (g ps=d7 (.lst vs))<|g pn=d7 (.lst [.bl d9,.bl ee,.bl d9,.bl ee])) ⟨_,_,rfl,er33,es33,en33⟩ (λ_ _ _ _ _=>trivial) ?_ ?_
 .rintro i v en g hv ⟨v9,v13,rfl,e1,e2,e4⟩ K hK;have hm:∃m:Int,v=.int m/\¬(0<=m/\m<=vs.length):=by
   have:=ä hv;simp only[Æ,Þ,or_false]at this;rcases this with rfl|rfl|rfl|rfl<;>exact⟨_,rfl,by lia⟩
  obtain⟨m,rfl,h1⟩:=hm;refine' bad4 e2 h1 λp g' x' ep=>?_
  exists Yz (XZ ep (x'.get e4) rfl)
  walk_at "p";exact hK _ _ ⟨_,_,rfl,x'.get e1,x'.get e2,x'.get e4⟩
 rintro en g34 ⟨v9,v13,rfl,e1,e2,e4⟩;refine' bad4 e1 (by rw[ll];lia) λp g' x' ep=>?_
 exists NO (XZ ep (x'.get e4) rfl)
 exact k _
end
end fY
set_option maxRecDepth 1000000
set_option maxHeartbeats 0
namespace My
open PySem L2 Snd PySem.W
abbrev top(i:Nat):Stmt:=PySem.Challenge.pw_shutways_k81_yards_at_a_moment.main.body.getD i<|.Pass ⟨0,0,0,0⟩
abbrev inC:Stmt->Nat->Stmt
 |.ClassDef _ _ _ b _ _ _ _ _ _ _,j=>b.getD j<|.Pass ⟨0,0,0,0⟩
 |s,_=>s
abbrev x0:Ds:=⟨top 0,["k"],["k"],fY.T7⟩
abbrev x1:Ds:=⟨top 11,["thing"],["thing"],fY.Tc⟩
abbrev x2:Ds:=⟨top 12,["thing","least","greatest"],["thing","least","greatest"],fY.Td⟩
abbrev x3:Ds:=⟨top 18,["bridges","ties"],["bridges","ties"],fY.T3⟩
abbrev x4:Ds:=⟨top 19,["things"],["things"],fY.Tn⟩
abbrev x5:Ds:=⟨top 20,["thing","bridges"],["thing","bridges"],fY.Ta⟩
abbrev x6:Ds:=⟨top 21,["tie"],["tie"],fY.T1⟩
abbrev x7:Ds:=⟨top 22,["net","bridge","found","place","tie"],["net","bridge"],fY.T4⟩
abbrev x8:Ds:=⟨top 23,["tie","bridge"],["tie","bridge"],fY.Tu⟩
abbrev x9:Ds:=⟨top 32,["one","other"],["one","other"],fY.T5⟩
abbrev x10:Ds:=⟨top 34,["bridge","offers","better"],["bridge","offers"],fY.To⟩
abbrev x11:Ds:=⟨top 40,["net","greatest","deeds","yard","some"],["net","greatest","deeds"],fY.T9⟩
abbrev x12:Ds:=⟨top 41,["some","words"],["some"],fY.T6⟩
abbrev x13:Ds:=⟨top 43,["net","greatest","deeds","many"],["net","greatest","deeds","many"],fY.T8⟩
abbrev x14:Ds:=⟨top 45,["script","draws","k","rest","stir","many"],["script"],fY.Ti⟩
abbrev x15:Ds:=⟨top 46,["draws","many"],["draws","many"],fY.Tr⟩
abbrev x16:Ds:=⟨top 47,["draws","most","extra","numbers","k","number","pairs","at","costs"],["draws","most","extra"],fY.Tl⟩
abbrev x17:Ds:=⟨top 48,["yard","row","some"],["yard"],fY.Tp⟩
abbrev x18:Ds:=⟨top 49,["draws","yard","way","up","down","road","ties"],["draws","yard"],fY.Th⟩
abbrev x19:Ds:=⟨top 50,["draws","yard","most","row","rounds"],["draws","yard","most"],fY.Tq⟩
abbrev x20:Ds:=⟨top 51,["one","other","place"],["one","other"],fY.Tf⟩
abbrev x21:Ds:=⟨top 52,["net","greatest","row","many","kinds","e"],["net","greatest","row","many"],fY.Tv⟩
abbrev x22:Ds:=⟨top 53,["draws","yard","down","some"],["draws","yard"],fY.Tg⟩
abbrev x23:Ds:=⟨top 54,["script","draws","greatest","at","bad","behind","net","row","yard","some","handed","found","spoilt","many","no_line"],["script"],fY.Te⟩
abbrev z0:Ds:=⟨inC (top 36) 0,["self","number","life","ties","greatest","place","neighbour","cost"],["self","number","life","ties","greatest"],fY.SV⟩
abbrev z1:Ds:=⟨inC (top 36) 1,["self"],["self"],fY.S9⟩
abbrev z2:Ds:=⟨inC (top 36) 2,["self"],["self"],fY.S2⟩
abbrev z3:Ds:=⟨inC (top 36) 3,["self"],["self"],fY.S6⟩
abbrev z4:Ds:=⟨inC (top 36) 4,["self","place"],["self","place"],fY.SW⟩
abbrev z5:Ds:=⟨inC (top 36) 5,["self","place","neighbour","cost"],["self","place","neighbour","cost"],fY.TZ⟩
abbrev z6:Ds:=⟨inC (top 36) 6,["self","place"],["self","place"],fY.SZ⟩
abbrev z7:Ds:=⟨inC (top 36) 7,["self","place","letter","held"],["self","place","letter"],fY.SX⟩
abbrev z8:Ds:=⟨inC (top 36) 8,["self","letters"],["self"],fY.S8⟩
abbrev z9:Ds:=⟨inC (top 36) 9,["self","older","place","held"],["self"],fY.S3⟩
abbrev z10:Ds:=⟨inC (top 36) 10,["self","offers","place","held","neighbour","cost","best","root"],["self"],fY.S5⟩
abbrev z11:Ds:=⟨inC (top 36) 11,["self","label"],["self","label"],fY.S7⟩
abbrev z12:Ds:=⟨inC (top 36) 12,["self","place","root","cost","over","rests","age","ahead"],["self","place"],fY.S4⟩
abbrev z13:Ds:=⟨inC (top 36) 13,["self","place","held"],["self","place"],fY.S1⟩
abbrev z14:Ds:=⟨inC (top 36) 14,["self","place","held"],["self","place"],fY.S0⟩
abbrev z15:Ds:=⟨inC (top 36) 15,["self","place"],["self","place"],fY.SY⟩
abbrev z16:Ds:=⟨inC (top 39) 0,["self","net","greatest","number"],["self","net","greatest"],fY.TL⟩
abbrev z17:Ds:=⟨inC (top 39) 1,["self"],["self"],fY.Tm⟩
abbrev z18:Ds:=⟨inC (top 39) 2,["self"],["self"],fY.TR⟩
abbrev z19:Ds:=⟨inC (top 39) 3,["self"],["self"],fY.TF⟩
abbrev z20:Ds:=⟨inC (top 39) 4,["self"],["self"],fY.TV⟩
abbrev z21:Ds:=⟨inC (top 39) 5,["self","fallen"],["self"],fY.TN⟩
abbrev z22:Ds:=⟨inC (top 39) 6,["self"],["self"],fY.TQ⟩
abbrev z23:Ds:=⟨inC (top 39) 7,["self"],["self"],fY.Tw⟩
abbrev z24:Ds:=⟨inC (top 39) 8,["self","number"],["self","number"],fY.TW⟩
abbrev z25:Ds:=⟨inC (top 39) 9,["self","place","one","other","cost"],["self","place"],fY.TB⟩
abbrev z26:Ds:=⟨inC (top 39) 10,["self","number","place"],["self","number","place"],fY.TU⟩
abbrev z27:Ds:=⟨inC (top 39) 11,["self","place"],["self","place"],fY.TH⟩
abbrev z28:Ds:=⟨inC (top 39) 12,["self","some","words","number"],["self","some"],fY.TM⟩
abbrev z29:Ds:=⟨inC (top 39) 13,["self","number","place","letter","goal"],["self","number"],fY.Tk⟩
abbrev z30:Ds:=⟨inC (top 39) 14,["self","place","start","goal","tie","letter"],["self","place"],fY.TK⟩
abbrev z31:Ds:=⟨inC (top 39) 15,["self","place"],["self","place"],fY.Tj⟩
abbrev z32:Ds:=⟨inC (top 39) 16,["self","number"],["self","number"],fY.TC⟩
abbrev z33:Ds:=⟨inC (top 39) 17,["self","place"],["self","place"],fY.TD⟩
abbrev z34:Ds:=⟨inC (top 39) 18,["self","number"],["self","number"],fY.TY⟩
abbrev z35:Ds:=⟨inC (top 39) 19,["self","place"],["self","place"],fY.TX⟩
abbrev z36:Ds:=⟨inC (top 39) 20,["self","number","place","neighbour","cost"],["self","number"],fY.Tx⟩
abbrev z37:Ds:=⟨inC (top 39) 21,["self","place","one","other","cost","stands","near","far"],["self","place"],fY.Tz⟩
abbrev tb:Tb where
 fs:=[("_wall",x0),("is_whole",x1),("is_whole_between",x2),("make_net",x3),("are_bridges",x4),("is_tie",x5),("lesser_end_first",x6),("neighbours",x7),("far_end",x8),("newer",x9),("best_offer",x10),("yard_behind",x11),("read_deed",x12),("yard_at",x13),("_law_draws",x14),("_law_take",x15),("_law_net",x16),("_law_round_of",x17),("_law_deed_now",x18),("_law_row",x19),("_law_alike",x20),("_law_told",x21),("_law_bad_deed",x22),("law",x23)]
 ms:=[⟨"Bridge","__init__","Bridge.__init__",z0⟩,⟨"Bridge","twin","Bridge.twin",z1⟩,⟨"Bridge","label","Bridge.label",z2⟩,⟨"Bridge","stamp","Bridge.stamp",z3⟩,⟨"Bridge","held","Bridge.held",z4⟩,⟨"Bridge","up","Bridge.up",z5⟩,⟨"Bridge","down","Bridge.down",z6⟩,⟨"Bridge","hear","Bridge.hear",z7⟩,⟨"Bridge","tick","Bridge.tick",z8⟩,⟨"Bridge","let_grow_older","Bridge.let_grow_older",z9⟩,⟨"Bridge","reckon_label","Bridge.reckon_label",z10⟩,⟨"Bridge","take_label","Bridge.take_label",z11⟩,⟨"Bridge","letter_over","Bridge.letter_over",z12⟩,⟨"Bridge","is_rested_on","Bridge.is_rested_on",z13⟩,⟨"Bridge","is_agreed_to","Bridge.is_agreed_to",z14⟩,⟨"Bridge","end","Bridge.end",z15⟩,⟨"Yard","__init__","Yard.__init__",z16⟩,⟨"Yard","twin","Yard.twin",z17⟩,⟨"Yard","net","Yard.net",z18⟩,⟨"Yard","greatest","Yard.greatest",z19⟩,⟨"Yard","road","Yard.road",z20⟩,⟨"Yard","down","Yard.down",z21⟩,⟨"Yard","labels","Yard.labels",z22⟩,⟨"Yard","stamps","Yard.stamps",z23⟩,⟨"Yard","bridge","Yard.bridge",z24⟩,⟨"Yard","ends","Yard.ends",z25⟩,⟨"Yard","end_at","Yard.end_at",z26⟩,⟨"Yard","has_tie","Yard.has_tie",z27⟩,⟨"Yard","deed","Yard.deed",z28⟩,⟨"Yard","tick_of","Yard.tick_of",z29⟩,⟨"Yard","come","Yard.come",z30⟩,⟨"Yard","take_off","Yard.take_off",z31⟩,⟨"Yard","fall_of_bridge","Yard.fall_of_bridge",z32⟩,⟨"Yard","fall_of_tie","Yard.fall_of_tie",z33⟩,⟨"Yard","back_of_bridge","Yard.back_of_bridge",z34⟩,⟨"Yard","back_of_tie","Yard.back_of_tie",z35⟩,⟨"Yard","set_ties_of","Yard.set_ties_of",z36⟩,⟨"Yard","set_tie","Yard.set_tie",z37⟩]
 cs:=[("MOST_BRIDGES",(.int 10)),("MOST_TIES",(.int 16)),("GREATEST_NUMBER",(.int 999)),("GREATEST_COST",(.int 1000)),("NUMBER",(.int 0)),("STAMP",(.int 1)),("ROOT",(.int 2)),("COST",(.int 3)),("AGE",(.int 4)),("RESTS",(.int 5)),("AGREES",(.int 6)),("DEEDS",(.tup [(.tup [(.str "tick")]),(.tup [(.str "come")]),(.tup [(.str "lost")]),(.tup [(.str "fall"),(.str "bridge")]),(.tup [(.str "fall"),(.str "tie")]),(.tup [(.str "back"),(.str "bridge")]),(.tup [(.str "back"),(.str "tie")])]))]
 cl:=["Bridge","Yard"]
 fl:=["age_let_go","greatest_age","held_by_place","label_now","letters_on_road","life","lives","net_made_of","number","standing","ticks_had","ties_by_place","ties_fallen","version"]
 xs:=["NoFrame","NoDeed","NoLine","NoCommand","NoOrder","NoNet","NoLetter"]
abbrev pg:fY.Pg:=λf=>(([("_wall",fY.T7),("is_whole",fY.Tc),("is_whole_between",fY.Td),("make_net",fY.T3),("are_bridges",fY.Tn),("is_tie",fY.Ta),("lesser_end_first",fY.T1),("neighbours",fY.T4),("far_end",fY.Tu),("newer",fY.T5),("best_offer",fY.To),("yard_behind",fY.T9),("read_deed",fY.T6),("yard_at",fY.T8),("_law_draws",fY.Ti),("_law_take",fY.Tr),("_law_net",fY.Tl),("_law_round_of",fY.Tp),("_law_deed_now",fY.Th),("_law_row",fY.Tq),("_law_alike",fY.Tf),("_law_told",fY.Tv),("_law_bad_deed",fY.Tg),("law",fY.Te),("Bridge.__init__",fY.SV),("Bridge.twin",fY.S9),("Bridge.label",fY.S2),("Bridge.stamp",fY.S6),("Bridge.held",fY.SW),("Bridge.up",fY.TZ),("Bridge.down",fY.SZ),("Bridge.hear",fY.SX),("Bridge.tick",fY.S8),("Bridge.let_grow_older",fY.S3),("Bridge.reckon_label",fY.S5),("Bridge.take_label",fY.S7),("Bridge.letter_over",fY.S4),("Bridge.is_rested_on",fY.S1),("Bridge.is_agreed_to",fY.S0),("Bridge.end",fY.SY),("Yard.__init__",fY.TL),("Yard.twin",fY.Tm),("Yard.net",fY.TR),("Yard.greatest",fY.TF),("Yard.road",fY.TV),("Yard.down",fY.TN),("Yard.labels",fY.TQ),("Yard.stamps",fY.Tw),("Yard.bridge",fY.TW),("Yard.ends",fY.TB),("Yard.end_at",fY.TU),("Yard.has_tie",fY.TH),("Yard.deed",fY.TM),("Yard.tick_of",fY.Tk),("Yard.come",fY.TK),("Yard.take_off",fY.Tj),("Yard.fall_of_bridge",fY.TC),("Yard.fall_of_tie",fY.TD),("Yard.back_of_bridge",fY.TY),("Yard.back_of_tie",fY.TX),("Yard.set_ties_of",fY.Tx),("Yard.set_tie",fY.Tz)]:List<|String×fY.Fn).lookup f)
instance:fY.Al pg:=by constructor<;>rfl
variable {α:Type} {p:List α->Prop}
def ar1(h:∀a0,p [a0])(us:List α)(e:us.length=1):p us:=match us,e with|[a0],_=>h a0
def ar2(h:∀a0 a1,p [a0,a1])(us:List α)(e:us.length=2):p us:=match us,e with|[a0,a1],_=>h a0 a1
def ar3(h:∀a0 a1 a2,p [a0,a1,a2])(us:List α)(e:us.length=3):p us:=match us,e with|[a0,a1,a2],_=>h a0 a1 a2
def ar4(h:∀a0 a1 a2 a3,p [a0,a1,a2,a3])(us:List α)(e:us.length=4):p us:=match us,e with|[a0,a1,a2,a3],_=>h a0 a1 a2 a3
def ar5(h:∀a0 a1 a2 a3 a4,p [a0,a1,a2,a3,a4])(us:List α)(e:us.length=5):p us:=match us,e with|[a0,a1,a2,a3,a4],_=>h a0 a1 a2 a3 a4
variable {P:String->Ds->Prop}
def mc{f:String}{x:Ds}{l:List (String×Ds)}(h:P f x)(k:∀g y,(g,y)∈l->P g y):∀g y,(g,y)∈(f,x)::l->P g y:=λg y m=>by
 rcases Æ.mp m with e|m
 .cases e;exact h
 .exact k g y m
def mn:∀g y,(g,y)∈([]:List<|String×Ds)->P g y:=λ_ _ m=>nomatch m
def Fg:∀f x,(f,x)∈tb.fs.drop 12->x.Ok tb:=by
 iterate 12 refine mc ⟨by kernel_rfl,by kernel_rfl⟩ ?_
 exact mn
def tab_ok:∀f x,(f,x)∈tb.fs->x.Ok tb:=by
 iterate 12 refine mc ⟨by kernel_rfl,by kernel_rfl⟩ ?_
 exact Fg
def tab_pg:∀f x,(f,x)∈tb.fs->pg f=d7 x.d:=by repeat first|exact mn|refine mc rfl ?_
def tab_bd:∀f x,(f,x)∈tb.fs->Hd.Bd (gh f) (gh f) x:=by repeat first|exact mn|refine mc (λ_ _ _ _ _ _=>(by first|exact ar1 λ_=>rfl|exact ar2 λ_ _=>rfl|exact ar3 λ_ _ _=>rfl|exact ar4 λ_ _ _ _=>rfl|exact ar5 λ_ _ _ _ _=>rfl)) ?_
def md{P:α->Prop}{x:α}{l:List α}(h:P x)(k:∀y,y∈l->P y):∀y,y∈x::l->P y:=λy m=>by
 rcases Æ.mp m with e|m
 .cases e;exact h
 .exact k y m
def me{P:α->Prop}:∀y,y∈([]:List α)->P y:=λ_ m=>nomatch m
def Gi:∀y,y∈tb.ms.drop 36->y.x.Ok tb:=by
 iterate 2 refine md ⟨by kernel_rfl,by kernel_rfl⟩ ?_
 exact me
def FE:∀y,y∈tb.ms.drop 24->y.x.Ok tb:=by
 iterate 12 refine md ⟨by kernel_rfl,by kernel_rfl⟩ ?_
 exact Gi
def Fo:∀y,y∈tb.ms.drop 12->y.x.Ok tb:=by
 iterate 12 refine md ⟨by kernel_rfl,by kernel_rfl⟩ ?_
 exact FE
def tab_om:∀y,y∈tb.ms->y.x.Ok tb:=by
 iterate 12 refine md ⟨by kernel_rfl,by kernel_rfl⟩ ?_
 exact Fo
def tab_pm:∀y,y∈tb.ms->pg (y.C ++ "." ++ y.m)=d7 y.x.d:=by repeat first|exact me|refine md rfl ?_
def tab_bm:∀y,y∈tb.ms->Hd.Bd (gh y.m) (gh y.qual) y.x:=by repeat first|exact me|refine md (λ_ _ _ _ _ _=>(by first|exact ar1 λ_=>rfl|exact ar2 λ_ _=>rfl|exact ar3 λ_ _ _=>rfl|exact ar4 λ_ _ _ _=>rfl|exact ar5 λ_ _ _ _ _=>rfl)) ?_
def law_in:("law",x23)∈tb.fs:=ä (i:=23) rfl
noncomputable abbrev pr:Program:=PySem.Challenge.rw_shutways_k81_yards_at_a_moment.row.prog
noncomputable abbrev vw:Program:=PySem.W.view pr [0,2,3,4,5,6,7,8,9,11,12,14,15,16,17,18,19,20,21,22,23,25,26,27,28,29,30,31,32,34,36,38,39,40,41,43,45,46,47,48,49,50,51,52,53,54]
noncomputable abbrev xt(s:Shared):Bool:=xlAt vw [] s&&recOk (RowW.records PySem.Challenge.rw_shutways_k81_yards_at_a_moment.row.toRowW) s
def said:PySem.Challenge.rw_shutways_k81_yards_at_a_moment.wellSaid=d9:=by rw[Fast.te9446332074065402090];kernel_rfl
def l1:∀w os,(Hd.runY pr 12000 w os).map (Hd.stY pr w)=d7 d9:=λw os=>by kernel_rfl
def l2:∀w os,(Hd.runY pr 12000 w os).map (λs=>Hd.seenY vw [] (Hd.modsY pr.main.body) xt d9 s.abs)=d7 (openGood vw []):=λw os=>by kernel_rfl
def l3:∀w os,(Hd.runY pr 12000 w os).map (λs=>(Hd.hook tb).obs s.abs)=d7 ((Hd.hook tb).val w):=λw os=>by kernel_rfl
def left:LeftO pr vw [] xt (Hd.hook tb).obs (Hd.hook tb).val 12000:=Hd.left_of (by kernel_rfl) rfl (λs=>by kernel_rfl) l1 l2 l3
end My
open PySem PySem.W PyProof.Rows
theorem PySem.Challenge.cw_shutways_k81_yards_at_a_moment_holds : PySem.Challenge.rw_shutways_k81_yards_at_a_moment.Holds := by
 refine holds_law My.said λsaid=>?_;refine holds_open (q:=My.vw) (loose:=[]) (Xt:=My.xt) (XP:=XL My.vw []) (YP:=(Hd.hook My.tb).says) My.left (Hook.of _) (Hook.keeps _) (λs e=>xl_of s (ό.mp e).1) XL.keeps (by rfl) (by rfl) (by rfl) (λs e=>recFacts_of (ό.mp e).2) (by rfl) said (by decide +kernel) ⟨rfl,rfl,rfl,rfl,rfl,by decide +kernel⟩ ?hw ?hc
 case hw=>w_on;w_witness2
 case hc=>exact Hd.law_walk (k:=9) rfl rfl rfl ⟨rfl,by decide,by decide⟩ My.law_in rfl rfl My.tab_pg My.tab_pm My.tab_ok My.tab_om My.tab_bd My.tab_bm λns hl=>fY.law_ok (n:=0) hl λ_=>rfl
