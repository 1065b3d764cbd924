import PyProof.Rows.All
import Wide.All
import OpenK.AllK
import Wide.FinOn
import PyProof.EqAt
import PyProof.EqKinds
import PyProof.TupleCall
import Lean
import PySem.Challenge.RW_shutways_k80_texts_of_no_deeds
set_option Elab.async false
set_option bootstrap.genMatcherCode false
set_option compiler.extract_closed false
set_option genSizeOf false
set_option linter.all false
set_option maxRecDepth 100000
open Array renaming getElem?_eq_some_iff->ļ, length_toList->η, append_assoc->ς, toList_inj->Χ, toList->ϵ, getElem?_toList->ag
open Bool renaming false_ne_true->ú, not_eq_true'->Ċ, false_eq_true->š, eq_false_iff->ũ, or_eq_true->Ż, and_eq_true_iff->ε, not_not->Υ, false_and->Ϟ, or_false->ϰ
open Char renaming toNat->ü
open Classical renaming byContradiction->Ś
open False renaming elim->ĉ
open ForInStep renaming yield->Ġ
open Int renaming toNat_natCast->đ, emod_lt_of_pos->Ģ, emod_nonneg->ķ, natCast_nonneg->Ν
open List renaming length_cons->Å, length_map->È, size_toArray->Ê, replicate->Ë, mem_cons->Î, length_append->Ï, mem_append_right->Ò, map_cons->Ó, all_eq_true->Ú, length_replicate->Û, getElem?_eq_getElem->ß, mem_cons_of_mem->á, append_assoc->â, mem_map->ã, length_nil->ä, mem_cons_self->å, map_append->æ, getElem?_map->í, contains_iff_mem->ï, getElem?_eq_some_iff->ð, mem_singleton->ñ, mem_append->ö, replicate_succ->û, append_inj'->ý, getElem?_append_left->Ă, map_map->ă, getElem?_append_right->ą, lookup_cons->Ć, length_take->ċ, flatten_cons->č, getD_eq_getElem?_getD->Ď, map_inj_left->Đ, find?_cons->Ē, length_drop->Ę, not_mem_nil->ę, getElem?_set_ne->Ĝ, any_cons->Ĩ, map_congr_left->į, getElem?_replicate->İ, zip_cons_cons->Ĳ, foldl_cons->Ĵ, mem_append_left->Ľ, mem_of_getElem?->ľ, cons_append->Ł, filterMap_cons->ł, append_nil->Ņ, drop_eq_nil_of_le->Ŋ, singleton_append->œ, eq_nil_of_length_eq_zero->ŗ, nil_append->Ř, mem_range->ş, zip_nil_right->Š, drop_eq_getElem_cons->Ŧ, zip_nil_left->ŧ, reverse_cons->Ũ, getElem_mem->Ů, getElem?_set_self'->ů, filter_cons->Ű, length_eq_zero_iff->ű, getElem?_set_self->ŵ, nodup_cons->Ź, length_set->ź, length_singleton->ż, sum_cons->υ, map_take->χ, map_drop->ψ, mem_filterMap->Β, take_length->ό, map_id->ϐ, of_mem_zip->ϖ, mapM_cons->ϡ, getElem?_eq_none_iff->Ϥ, eq_of_mem_replicate->ϴ, map_nil->af, length_pos_of_mem->aj, dropLast_eq_take->aB, mem_iff_getElem?->aC, getElem?_eq_none->aD, eq_nil_or_concat->aF, concat_eq_append->aG, set_append_left->aT, getElem?_range->bg, filterMap_map->bz, foldl->bB, set_cons_succ->bD, set_cons_zero->bE, length_range->bT
open List.cons renaming inj->ø
open Nat renaming le_trans->Ç, le_refl->Ø, lt_of_lt_of_le->Þ, add_le_add->ê, ne_of_lt->î, digitChar->ď, lt_of_le_of_lt->ġ, lt_irrefl->ĩ, lt_succ_self->ı, toDigits->ĳ, toDigits_of_lt_base->Ň, toDigits_of_base_le->ň, le_of_lt->ŋ, lt_succ_of_lt->ō, succ_le_succ->Ų, le_succ->ν, min_le_right->ώ, zero_le->ϗ, ne_of_gt->ap, mul_comm->au, le_of_eq->av, lt_trans->aA
open Option renaming bind_some->õ, map_eq_some_iff->ā, bind_eq_some_iff->ĝ, map_some->Ń, isSome_map->Ε, isSome_iff_exists->ϟ, getD_none->bA
open Option.some renaming inj->Ā, injEq->ğ
open Prod.mk renaming injEq->ő
open PyProof.Rows renaming IntsAre->Ĕ, kindOf->ţ, AllBare->ų, IsTup->Ζ, envOfC->Θ, Constant_none->ba, subscriptTail->be, subscriptTail_builtinR->bO
open PySem renaming Value->Á, Shared->Â, wpAny_bind->Ã, Addr->Ä, starEach->Ð, wpAny_pure->Ñ, sizeLine->Ô, model->Ö, compareOp->Ý, Program->à, Heap->ô, World->þ, mainGlobals->ÿ, wpAny_truthy_bool->Ą, Around->ć, wpAny_mono->Ĉ, strIterType->Č, assignEach->ē, wpAny_newObj_type->ĕ, Stmt->Ě, cLine->Ğ, behindInMarks->Ĥ, backTo->Ħ, wpAny_loadPart'->Ī, foldedSetIterable->ī, binaryOp->Ĭ, FuncData->ĭ, wpAny_field->Į, wpAny_execs_nil->ĺ, wpAny_passesOwn->Ļ, PyData->Ŀ, bootBuiltins->ń, wpAny_Call_Name_kw->Ō, swapsWith->Ŏ, wpAny_callSpecial?_slot->ŏ, Scope->ŕ, wpAny_call_entry->ř, attributeBase->ś, sliceBounds->ŝ, letOwnedTupleGo->Ţ, noteFrame->Ū, sysModules->ū, call_meets->Ŭ, argBest->Ŷ, assign->Ÿ, NameKind->ž, getItem->θ, IsPart->ι, typeIs_str->μ, codeAny_builtin->π, pyNext->Η, wpAny_seqItems->Λ, wpAny_tryCatch->Μ, callerA->Τ, intBits_le_64->ϊ, wpAny_holding->ϋ, plainId_quiet->ύ, tupleKind_room_in1->Ϗ, codeAny_mono->Ϙ, Keyword->ϙ, compEnvC->Ϛ, wpAny_loadPart_at->ϛ, valueAt->Ϝ, wpAny_execs_cons->ϥ, PassesOwn->Ϧ, lastMarks->ϧ, noFill_tuple_add->Ϩ, wpAny_letGo->ϲ, wpAny_updateSeq->Ϸ, relabel->ah, isTrue->am, CmpOp->ao, evalEach->aw, wpAny_setField->ay, atKey->az, swapsWithSole->bb, swappedStores->bc, seq_tuple_add->bd, wpAny_comprehension_free->bf, tupleKind->bv, Model->bw, bindC->bx, seqItems?->bC, rawInt->bK, richCompare_meets_room->bL, concat_meets->bM, wpAny_typeOf->bN, typeOf->bP
open PySem.Around renaming under_plainId->Ž, under->ϯ
open PySem.Builtin renaming iter->Ŗ
open PySem.Builtin.Str renaming strSliceIndices->Ť, occurrences->ϱ, partsBetween->bR
open PySem.Code renaming isFrame->ae
open PySem.FuncData.mk renaming injEq->ϳ
open PySem.Heap renaming get?_push_of_some->Ì, lt_size->Õ, get?_push_size->è, get?_update_other->ù, get?_update_self->Œ, SameBut->Ŵ, LeftW->Δ, size_push->Ϡ
open PySem.NameKind renaming free->Ė, cell->bQ
open PySem.Obj renaming mapFields->Γ, data_mapFields->Κ, isFreed_of_fields->aS
open PySem.PyData renaming eqv->ė, depthAll->ĥ, canLayAll0->Ķ, canLay0->ŉ, eqvAll->ť
open PySem.StrLaws renaming join_split->ξ
open PySem.Value renaming builtin->ρ, notImplemented->aq
open PySem.W renaming boot_heap->Ő, Frag->Ş, findIn->Ι, boot_drawn->ϑ, boot_toks->ϩ, SharedT->ai, mg_of->aE, looks_findIn->bS, nsIn->bU, kitOne->bV
open String renaming length_toList->Æ, toList_ofList->É, ofList->Í, singleton->Ù, length_append->Ü, toList_append->é, toList->ì, toList_singleton->ó, ofList_toList->Ŕ
open UInt32.toNat renaming inj->Ŝ
theorem bAq(a b:Bool):((a&&b)=true)=(a=true/\b=true):=Bool.and_eq_true a b
namespace L2
open PySem PySem.Spec PyProof.Rows
noncomputable abbrev Key:=Sum Int Str
noncomputable def Wp:Key->Á->Bool
 |.inl k,v=>Value.isInt k v
 |.inr x,v=>Value.isStrOf x v
noncomputable def GD(w:þ):Key->Int
 |.inl k=>hashInt k
 |.inr x=>hashStr w x
theorem Zr:∀{k:Key}{v:Á},Wp k v=true->(∃i t,k=Sum.inl i/\v=Value.int i t)\/(∃x t,k=Sum.inr x/\v=Value.str x t)
 |.inl i,v,h=>by obtain⟨t,e⟩:=Value.isInt_shape (k:=i) (v:=v) h;exact .inl ⟨i,t,rfl,e⟩
 |.inr x,v,h=>by obtain⟨t,e⟩:=Value.isStrOf_shape (x:=x) (v:=v) h;exact .inr ⟨x,t,rfl,e⟩
theorem NF(i:Int)(t:Tok):Wp (.inl i) (.int i t)=true:=by simp[Wp,Value.isInt]
theorem NG(x:Str)(t:Tok):Wp (.inr x) (.str x t)=true:=by simp[Wp,Value.isStrOf]
theorem DG(a b:Int):decide ((Sum.inl a:Key)=Sum.inl b)=(a==b):=by
 by_cases e:a=b
 .subst e;simp
 .have h:¬ (Sum.inl a:Key)=Sum.inl b:=fun q=>e<|Sum.inl.inj q;rw[decide_eq_false h];exact(beq_eq_false_iff_ne.mpr e).symm
theorem DK(a b:Str):decide ((Sum.inr a:Key)=Sum.inr b)=decide (a=b):=by
 by_cases e:a=b
 .subst e;simp
 .have h:¬ (Sum.inr a:Key)=Sum.inr b:=fun q=>e<|Sum.inr.inj q;rw[decide_eq_false h,decide_eq_false e]
theorem D3(a:Int)(b:Str):decide ((Sum.inl a:Key)=Sum.inr b)=false:=decide_eq_false (fun q=>nomatch q)
theorem Dw(a:Str)(b:Int):decide ((Sum.inr a:Key)=Sum.inl b)=false:=decide_eq_false (fun q=>nomatch q)
noncomputable def Zv(prog:à)(w:þ):PySem.KeyKind prog w Key where
 is:=Wp
 hash:=GD w
 inj:=fun v a b ha hb=>by
  rcases Zr ha with⟨i,t,rfl,rfl⟩|⟨x,t,rfl,rfl⟩
  .rcases Zr hb with⟨j,u,rfl,e⟩|⟨y,u,rfl,e⟩
   .injection e with e1 _;rw[e1]
   .exact nomatch e
  .rcases Zr hb with⟨j,u,rfl,e⟩|⟨y,u,rfl,e⟩
   .exact nomatch e
   .injection e with e1 _;rw[e1]
 byValue:=fun k v h=>by rcases Zr h with⟨i,t,rfl,rfl⟩|⟨x,t,rfl,rfl⟩<;>rfl
 pyHash:=fun hv h=>by
  rcases Zr hv with⟨i,t,rfl,rfl⟩|⟨x,t,rfl,rfl⟩
  .exact wpAny_pyHash_int h
  .exact wpAny_pyHash_str h
 eqBool:=fun hu hv h=>by
  rcases Zr hu with⟨i,t,rfl,rfl⟩|⟨x,t,rfl,rfl⟩
  .rcases Zr hv with⟨j,u,rfl,rfl⟩|⟨y,u,rfl,rfl⟩
   .rw[DG]at h;exact wpAny_eqBool_int h
   .rw[D3]at h;exact SeqAt.EqAt.int_str i t y u _ _ _ _ h
  .rcases Zr hv with⟨j,u,rfl,rfl⟩|⟨y,u,rfl,rfl⟩
   .rw[Dw]at h;exact SeqAt.EqAt.str_int x t j u _ _ _ _ h
   .rw[DK]at h;exact wpAny_eqBool_str h
 «strs»:=fun k x t v h=>by
  rcases Zr h with⟨i,u,rfl,e⟩|⟨y,u,rfl,e⟩
  .exact nomatch e
  .injection e with e1 _;subst e1;cases v<;>rfl
theorem J9(prog:à)(w:þ)(i:Int)(t:Tok):(Zv prog w).is (.inl i) (.int i t)=true:=NF i t
theorem J7(prog:à)(w:þ)(x:Str)(t:Tok):(Zv prog w).is (.inr x) (.str x t)=true:=NG x t
inductive V where
 |non|bl (b:Bool)|int (i:Int)|str (x:Str)|byt (b:Array UInt8)|flt (b:UInt64)|ref (a:Ä)|ty (n:String)
 deriving DecidableEq
def RelV:V->Á->Prop
 |.non,u=>u=Value.none
 |.bl b,u=>u=Value.bool b
 |.int i,u=>∃t,u=Value.int i t
 |.str x,u=>∃t,u=Value.str x t
 |.byt b,u=>∃t,u=Value.bytes b t
 |.flt b,u=>∃t,u=Value.float b t
 |.ref a,u=>u=Value.ref a
 |.ty n,u=>u=Value.type n
abbrev Vals:List V->List Á->Prop:=Paired RelV
theorem Vals.length{xs:List V}{us:List Á}(r:Vals xs us):xs.length=us.length:=Paired.length r
theorem Vals.get:∀{xs:List V}{us:List Á}{i:Nat}{x:V},Vals xs us->xs[i]?=some x->∃u,us[i]?=some u/\RelV x u
 |_,_,_,_,.nil,e=>by simp at e
 |_,_,0,_,.cons r _,e=>by simp at e;subst e;exact⟨_,rfl,r⟩
 |_,_,i+1,x,.cons _ t,e=>by obtain⟨u,h1,h2⟩:=Vals.get (i:=i) (x:=x) t (by simpa using e);exact⟨u,by simpa using h1,h2⟩
theorem Vals.set{x:V}{u:Á}(r:RelV x u):∀{xs:List V}{us:List Á}(i:Nat),Vals xs us->Vals (xs.set i x) (us.set i u)
 |_,_,_,.nil=>.nil
 |_,_,0,.cons _ t=>.cons r t
 |_,_,i+1,.cons q t=>.cons q<|Vals.set r i t
theorem Vals.append:∀{xs ys:List V}{us ws:List Á},Vals xs us->Vals ys ws->Vals (xs++ys) (us++ws)
 |_,_,_,_,.nil,s=>s
 |_,_,_,_,.cons r t,s=>.cons r<|Vals.append t s
theorem Vals.take:∀{xs:List V}{us:List Á}(n:Nat),Vals xs us->Vals (xs.take n) (us.take n)
 |_,_,0,_=>.nil
 |_,_,_+1,.nil=>.nil
 |_,_,n+1,.cons r t=>.cons r<|Vals.take n t
theorem Vals.drop:∀{xs:List V}{us:List Á}(n:Nat),Vals xs us->Vals (xs.drop n) (us.drop n)
 |_,_,0,r=>r
 |_,_,_+1,.nil=>.nil
 |_,_,n+1,.cons _ t=>Vals.drop n t
theorem Vals.none_of:∀{xs:List V}{us:List Á}{i:Nat},Vals xs us->xs[i]?=none->us[i]?=none:=fun{xs us i} r e=>by have h1:=r.length;have h2:xs.length<=i:=Ϥ.mp e;exact Ϥ.mpr (by omega)
def RelO:Option V->Option Á->Prop
 |some v,some u=>RelV v u
 |none,none=>True
 |_,_=>False
def KV{κ:Type}:List (κ×V)->List (κ×Á)->Prop:=Paired fun(p:κ×V) (q:κ×Á)=>p.1=q.1/\RelV p.2 q.2
noncomputable def kV:Key->V
 |.inl i=>.int i
 |.inr x=>.str x
inductive HO where
 |lst (xs:List V)
 |tup (xs:List V)
 |dK (kvs:List<|Key×V)|dT (kvs:List<|List Key×V)
 |set (S:Int->Bool) (n:Nat)
 |ins (C dx:Ä) (fs:List<|Str×V)
 |own (x:Ä)
 |xd (fs:List<|Str×V)
 |met (f x:Ä)
 |rng (lo hi:Int)
 |frz (o:Obj) (u:HO)
 |tbl (ps:Array Á)
 |ext (φ:ô->Prop)
noncomputable abbrev Hp:=Ä->Option HO
noncomputable def upd(H:Hp)(a:Ä)(o:HO):Hp:=fun b=>if b=a then some o else H b
variable {H:Hp} {a:Ä} {o:HO}
theorem upd_same:upd H a o a=some o:=by unfold upd;rw[if_pos rfl]
variable {b:Ä}
theorem upd_ne(h:b≠a):upd H a o b=H b:=by unfold upd;rw[if_neg h]
variable {u:HO}
theorem upd_upd:upd (upd H a o) a u=upd H a u:=by funext b;unfold upd;split<;>rfl
theorem B1(h:H a=some o)(h':H b=some u)(d:o≠u):a≠b:=by intro e;subst e;rw[h]at h';exact d (Ā h')
theorem Zd(h:H a=some o)(h':H b=none):a≠b:=by intro e;subst e;rw[h]at h';cases h'
section
variable (P:à) (w:þ)
def ObjOk(H:Hp)(h:ô)(a:Ä):HO->Prop
 |.lst xs=>xs.length<=Ô/\∃(ò:List Á) (n:Nat),Vals xs ò/\h.get? a=some {cls:=.type "list",data:=.seq ò.toArray n}
 |.tup xs=>xs.length<=Ô/\∃ò:List Á,Vals xs ò/\Ζ h a ò.toArray
 |.dK kvs=>kvs.length<=Ô/\(a==ū)=false/\∃vs,KV kvs vs/\h.DictOf (Zv P w) a vs
 |.dT kvs=>kvs.length<=Ô/\(a==ū)=false/\∃xs:List<|List Key×Ä×Á,
   Paired (fun(p:List Key×V) (q:List Key×Ä×Á)=>p.1=q.1/\H q.2.1=some (.tup<|p.1.map kV)/\RelV p.2 q.2.2) kvs xs/\
   ∃o es ep,h.get? a=some o/\o.ExactDict/\o.data=.dict es ep/\es.toList=xs.map (entryOfKey<|bv<|Zv P w)/\(xs.map (·.1)).Nodup
 |.set S n=>h.SetOf (intKind P w) a S n
 |.ins C dx fs=>H dx=some (.own a)/\fs.length<=1000/\dx≠a/\h.get? a=some (PySem.W.instObj C dx)/\
   ∃mA,h.Ns1 dx mA/\(∀f,RelO (fs.lookup f)<|mA f)/\PySem.Within mA (fs.map (·.1))
 |.own _=>∃o,h.get? a=some o
 |.xd fs=>∃mA,h.Ns1 a mA/\∀f,RelO (fs.lookup f) (mA f)
 |.rng lo hi=>∃t u v,h.get? a=some {cls:=.type "range",data:=.fields #[.int lo t,.int hi u,.int 1 v]}
 |.frz o u=>h.get? a=some o/\ObjOk H h a u
 |.tbl ps=>h.get? a=some {cls:=.none,data:=.fields ps}
 |.met f x=>h.get? a=some (PySem.W.methodObj (.ref f)<|.ref x)
 |.ext φ=>φ h/\(∃o,h.get? a=some o)/\∀h1 h2:ô,φ h1->(∀o,h1.get? a=some o->h2.get? a=some o)->φ h2
def HOk(H:Hp)(h:ô):Prop:=∀a o,H a=some o->ObjOk P w H h a o
end
section
variable {P:à}{w:þ}{H H':Hp}{h h':ô}{a:Ä}{o:HO}
theorem ObjOk.lt(x:ObjOk P w H h a o):a<h.objs.size:=by
 cases o with
 |lst xs=>obtain⟨_,_,_,_,e⟩:=x;exact Õ e
 |tup xs=>obtain⟨_,_,_,p⟩:=x;exact p.lt
 |dK kvs=>obtain⟨_,_,_,_,o,_,_,e,_⟩:=x;exact Õ e
 |dT kvs=>obtain⟨_,_,_,_,o,_,_,e,_⟩:=x;exact Õ e
 |set S n=>obtain⟨o,_,_,_,e,_⟩:=x;exact Õ e
 |ins C dx fs=>obtain⟨_,_,_,e,_⟩:=x;exact Õ e
 |own y=>obtain⟨_,e⟩:=x;exact Õ e
 |xd fs=>obtain⟨_,⟨_,_,_,e,_⟩,_⟩:=x;exact Õ e
 |rng lo hi=>obtain⟨_,_,_,e⟩:=x;exact Õ e
 |frz ob u=>obtain⟨e,_⟩:=x;exact Õ e
 |tbl ps=>exact Õ (show h.get? a=some _ from x)
 |met f y=>exact Õ (show h.get? a=some _ from x)
 |ext φ=>obtain⟨_,⟨_,e⟩,_⟩:=x;exact Õ e
theorem Paired.mapP{α β:Type}{F G:α->β->Prop}:∀{l₁:List α}{l₂:List β},Paired F l₁ l₂->(∀a b,F a b->G a b)->Paired G l₁ l₂
 |_,_,.nil,_=>.nil
 |_,_,.cons r t,f=>.cons (f _ _ r)<|Paired.mapP t f
theorem ObjOk.stay(x:ObjOk P w H h a o)(k:∀b u,(b=a\/H b=some (.own a))->h.get? b=some u->h'.get? b=some u)
  (ho:∀b,H b=some (.own a)->H' b=some (.own a)) (ht:∀b xs,H b=some (.tup xs)->H' b=some (.tup xs)):ObjOk P w H' h' a o:=by
 induction o with
 |lst xs=>obtain⟨z,ò,n,r,e⟩:=x;exact⟨z,ò,n,r,k _ _ (.inl rfl) e⟩
 |tup xs=>obtain⟨z,ò,r,ob,e,c⟩:=x;exact⟨z,ò,r,ob,k _ _ (.inl rfl) e,c⟩
 |dK kvs=>obtain⟨z,y,vs,r,ob,es,ep,e,c⟩:=x;exact⟨z,y,vs,r,ob,es,ep,k _ _ (.inl rfl) e,c⟩
 |dT kvs =>obtain⟨z,y,xs,r,ob,es,ep,e,c⟩:=x;exact⟨z,y,xs,Paired.mapP r fun p q z=>⟨z.1,ht _ _ z.2.1,z.2.2⟩,ob,es,ep,k _ _ (.inl rfl) e,c⟩
 |set S n=>obtain⟨ob,es,ep,t,e,c⟩:=x;exact⟨ob,es,ep,t,k _ _ (.inl rfl) e,c⟩
 |ins C dx fs =>obtain⟨d,z,ne,e,mA,⟨od,es,ep,e2,c⟩,r⟩:=x;exact⟨ho _ d,z,ne,k _ _ (.inl rfl) e,mA,⟨od,es,ep,k _ _ (.inr d) e2,c⟩,r⟩
 |own y=>obtain⟨ob,e⟩:=x;exact⟨ob,k _ _ (.inl rfl) e⟩
 |xd fs=>obtain⟨mA,⟨od,es,ep,e,c⟩,r⟩:=x;exact⟨mA,⟨od,es,ep,k _ _ (.inl rfl) e,c⟩,r⟩
 |rng lo hi=>obtain⟨t,u,v,e⟩:=x;exact⟨t,u,v,k _ _ (.inl rfl) e⟩
 |frz ob u ih=>obtain⟨e,q⟩:=x;exact⟨k _ _ (.inl rfl) e,ih q⟩
 |tbl ps =>have e:h.get? a=some {cls:=.none,data:=.fields ps}:=x;show h'.get? a=some {cls:=.none,data:=.fields ps};exact k a _ (.inl rfl) e
 |met f y =>have e:h.get? a=some (PySem.W.methodObj (.ref f)<|.ref y):=x;show h'.get? a=some (PySem.W.methodObj (.ref f)<|.ref y);exact k a _ (.inl rfl) e
 |ext φ=>obtain⟨p,⟨o,e⟩,st⟩:=x;exact⟨st _ _ p fun o q=>k _ _ (.inl rfl) q,⟨o,k _ _ (.inl rfl) e⟩,st⟩
theorem HOk.lt(x:HOk P w H h)(e:H a=some o):a<h.objs.size:=(x a o e).lt
theorem HOk.fresh(x:HOk P w H h)(e:h.objs.size<=a):H a=none:=by
 cases q:H a with
 |none=>rfl
 |some u=>exact absurd (Þ (x.lt q) e)<|ĩ _
theorem HOk.kept(x:HOk P w H h)(k:∀b u,h.get? b=some u->h'.get? b=some u):HOk P w H h':=fun a o e =>
 (x a o e).stay (fun b u _ q=>k b u q) (fun _ q=>q) fun _ _ q=>q
theorem HOk.laid(x:HOk P w H h)(k:∀b u,h.get? b=some u->h'.get? b=some u)(hp:h.objs.size<=a)(new:ObjOk P w (upd H a o) h' a o):HOk P w (upd H a o) h':=fun b u e=>by
 have hn:=x.fresh hp;by_cases hb:b=a
 .subst hb;rw[upd_same]at e;cases e;exact new
 .rw[upd_ne hb]at e;exact(x b u e).stay (fun c v _ q=>k c v q) (fun c q=>by rw[upd_ne<|Zd q hn];exact q) fun c xs q=>by rw[upd_ne<|Zd q hn];exact q
end
def Rd(H:Hp)(a:Ä)(u:HO):Prop:=H a=some u\/∃o,H a=some (.frz o u)
theorem Rd.of(h:H a=some u):Rd H a u:=.inl h
variable {h:ô}
theorem Rd.ok{P:à}{w:þ}(r:Rd H a u)(x:HOk P w H h):ObjOk P w H h a u:=by
 rcases r with r|⟨o,r⟩
 .exact x a u r
 .obtain⟨_,q⟩:=x a _ r;exact q
def Mut:Option HO->Prop
 |some (.lst _)=>True
 |some (.dK _)=>True
 |some (.dT _)=>True
 |some (.set _ _)=>True
 |some (.ins _ _ _)=>True
 |some (.ext _)=>True
 |_=>False
section
variable {P:à}{w:þ}{H:Hp}{h h':ô}{x e:Ä}{o':HO}
theorem HOk.write(ok:HOk P w H h)(mu:Mut<|H x)(he:e=x\/H e=some (.own x))(k:∀b u,b≠e->h.get? b=some u->h'.get? b=some u)(heo:∃u,h'.get? e=some u)
  (new:ObjOk P w (upd H x o') h' x o'):HOk P w (upd H x o') h':=fun b u q=>by
 have nown:∀c y,H c=some (.own y)->c≠x:=fun c y r z=>by subst z;rw[r]at mu;exact mu
 have ntup:∀c xs,H c=some (.tup xs)->c≠x:=fun c xs r z=>by subst z;rw[r]at mu;exact mu
 by_cases hb:b=x
 .subst hb;rw[upd_same]at q;cases q;exact new
 .rw[upd_ne hb]at q;by_cases hbe:b=e
  .have q':H b=some (.own x):=by
    rcases he with z|z
    .exact absurd (hbe.trans z) hb
    .rw[hbe];exact z
   rw[q]at q';cases q';obtain⟨v,hv⟩:=heo;exact⟨v,by rw[hbe];exact hv⟩
  .refine(ok b u q).stay (fun c v hc r=>k c v ?_ r) (fun c r=>by rw[upd_ne<|nown c b r];exact r) fun c xs r=>by rw[upd_ne<|ntup c xs r];exact r
   rcases hc with rfl|hc
   .exact hbe
   .rintro rfl;rcases he with z|z
    .exact nown c b hc z
    .rw[hc]at z;cases z;exact hb rfl
end
structure Un(fs ex:List Ä)(H H':Hp)(h h':ô):Prop where
 keep:∀b o,h.get? b=some o->H b=none->b∉fs->b∉ex->h'.get? b=some o
 slot:∀b o,h.get? b=some o->H b=none->b∈fs->b∉ex->∃sl,h'.get? b=some {o with slots:=sl}
 free:∀b o,h.get? b=some o->H b=none->b∉ex->H' b=none
 there:∀b o,h.get? b=some o->b∉ex->∃o',h'.get? b=some o'
 tups:∀b xs,H b=some (.tup xs)->H' b=some (.tup xs)
 frzs:∀b o u,H b=some (.frz o u)->H' b=some (.frz o u)
 tbls:∀b ps,H b=some (.tbl ps)->∃more,H' b=some (.tbl<|ps++more)
section
variable {fs fs' ex ex':List Ä}{H H1 H2:Hp}{h h1 h2 h':ô}{a x e:Ä}{o:HO}
theorem Un.any(u:Un fs ex H H1 h h1){ob:Obj}(q:h.get? b=some ob)(n:H b=none)(hx:b∉ex):∃sl,h1.get? b=some {ob with slots:=sl}:=by
 by_cases hb:b∈fs
 .exact u.slot b ob q n hb hx
 .exact⟨ob.slots,u.keep b ob q n hb hx⟩
theorem Un.trans(a:Un fs ex H H1 h h1)(b:Un fs ex H1 H2 h1 h2):Un fs ex H H2 h h2 where
 keep:=fun c ob q n hc hx=>b.keep c ob (a.keep c ob q n hc hx) (a.free c ob q n hx) hc hx
 slot:=fun c ob q n hc hx=>by obtain⟨sl,e1⟩:=a.slot c ob q n hc hx;obtain⟨sl',e2⟩:=b.slot c _ e1 (a.free c ob q n hx) hc hx;exact⟨sl',e2⟩
 free:=fun c ob q n hx=>by obtain⟨o',e1⟩:=a.there c ob q hx;exact b.free c o' e1 (a.free c ob q n hx) hx
 there:=fun c ob q hx=>by obtain⟨o',e1⟩:=a.there c ob q hx;exact b.there c o' e1 hx
 tups:=fun c xs q=>b.tups c xs<|a.tups c xs q
 frzs:=fun c ob xs q=>b.frzs c ob xs<|a.frzs c ob xs q
 tbls:=fun c ps q=>by obtain⟨m1,e1⟩:=a.tbls c ps q;obtain⟨m2,e2⟩:=b.tbls c _ e1;exact⟨m1++m2,by rw[e2,ς]⟩
theorem Un.kept(k:∀b u,h.get? b=some u->h'.get? b=some u):Un fs ex H H h h' :=
 ⟨fun b ob q _ _ _=>k b ob q,fun b ob q _ _ _=>⟨ob.slots,k b ob q⟩,fun _ _ _ n _=>n,fun b ob q _=>⟨ob,k b ob q⟩,fun _ _ q=>q,fun _ _ _ q=>q,fun _ ps q=>⟨#[],by rw[q];simp⟩⟩
theorem Un.refl:Un fs ex H H h h:=Un.kept fun _ _ q=>q
theorem Un.laid(k:∀b u,h.get? b=some u->h'.get? b=some u)(hp:h.objs.size<=a)(hn:H a=none):Un fs ex H (upd H a o) h h' where
 keep:=fun b u q _ _ _=>k b u q
 slot:=fun b u q _ _ _=>⟨u.slots,k b u q⟩
 free:=fun b u q n _=>by rw[upd_ne<|î<|Þ (Õ q) hp];exact n
 there:=fun b u q _=>⟨u,k b u q⟩
 tups:=fun b xs q=>by rw[upd_ne<|Zd q hn];exact q
 frzs:=fun b u xs q=>by rw[upd_ne<|Zd q hn];exact q
 tbls:=fun b ps q=>⟨#[],by rw[upd_ne<|Zd q hn,q];simp⟩
theorem Un.write(mu:Mut<|H x)(he:e=x\/H e=some (.own x))(k:∀b u,b≠e->h.get? b=some u->h'.get? b=some u)(heo:∃u,h'.get? e=some u):Un fs ex H (upd H x o) h h':=by
 have hx:∀b,H b=none->b≠x:=fun b n z=>by subst z;rw[n]at mu;exact mu
 have hb:∀b,H b=none->b≠e:=fun b n z=>by
  subst z;rcases he with r|r
  .exact hx b n r
  .rw[n]at r;cases r
 have hm:∀b u,H b=some u->¬ Mut (some u)->b≠x:=fun b u q nm z=>by subst z;rw[q]at mu;exact nm mu
 refine⟨fun b u q n _ _=>k b u (hb b n) q,fun b u q n _ _=>⟨u.slots,k b u (hb b n) q⟩,fun b u q n _=>by rw[upd_ne<|hx b n];exact n,fun b u q _=>?_,
   fun b xs q=>by rw[upd_ne<|hm b _ q fun z=>z];exact q,fun b u xs q=>by rw[upd_ne<|hm b _ q fun z=>z];exact q,fun b ps q=>⟨#[],by rw[upd_ne<|hm b _ q fun z=>z,q];simp⟩⟩
 by_cases hbe:b=e
 .subst hbe;exact heo
 .exact⟨u,k b u hbe q⟩
theorem Un.mono(u:Un fs ex H H1 h h1)(hs:∀b∈fs,b∈fs')(hx:∀b∈ex,b∈ex'):Un fs' ex' H H1 h h1 :=
 ⟨fun b ob q n hb he=>u.keep b ob q n (fun z=>hb<|hs b z) fun z=>he<|hx b z,fun _ _ q n _ he=>u.any q n fun z=>he<|hx _ z,fun b ob q n he=>u.free b ob q n fun z=>he<|hx b z,fun b ob q he=>u.there b ob q fun z=>he<|hx b z,u.tups,u.frzs,u.tbls⟩
end
noncomputable def trk(h:ô)(H:Hp):List Ä:=(List.range h.objs.size).filter fun a=>(H a).isSome
noncomputable def Jd(h:ô)(H:Hp):ô:=PySem.W.hideAll h<|trk h H
theorem Nt(h:ô)(H:Hp):(Jd h H).objs.size=h.objs.size:=PySem.W.hideAll_size _ _
theorem UP{o:Obj}(e:h.get? b=some o)(n:H b=none):(Jd h H).get? b=some o :=
 PySem.W.hideAll_get _ e fun hm=>by have q:(H b).isSome=true:=(List.mem_filter.mp hm).2;rw[n]at q;simp at q
theorem Bq{o:Obj}(e:(Jd h H).get? b=some o):h.get? b=some o/\H b=none:=by
 have e':h.get? b=some o:=PySem.W.of_hideAll (trk h H) e;refine⟨e',?_⟩;cases q:H b with
 |none=>rfl
 |some x =>have hm:b∈trk h H:=List.mem_filter.mpr ⟨ş.mpr<|Õ e',by simp[q]⟩;have z:(Jd h H).get? b=none:=PySem.W.hideAll_none (trk h H) hm;rw[z]at e;cases e
noncomputable def A1(g h:ô)(L:Ä):List<|Ä×Obj:=(List.range h.objs.size).filterMap fun a=>if a=L\/(g.get? a).isSome=true then none else(h.get? a).map fun o=>(a,o)
noncomputable def rest(g h:ô)(L d:Ä):List<|Ä×Obj:=(A1 g h L).filter fun p=>decide (p.1≠d)
structure Mod(K:PySem.W.Frag)(mg:Str->Option Á)(base:ô):Prop where
 kin:K.In base
 glob:base.Ns ÿ mg
 blt:∃mb,base.Ns builtinsNs mb/\∀x:Str,x≠"__name__"->mb x=ń x
 nolimit:base.NoLimit
structure Cx where
 prog:à
 w:þ
 K:PySem.W.Frag
 mg:Str->Option Á
 base:ô
 A:ć
 N:List Str
 s₀:Â
 H₀:Hp
 env:Env
 outer:List Env
 stack:List Env
 ex:List Ä
 fn:Str->Bool
 calm:Bool
 pn:List<|Ä×Obj
 xe:Á->Â->Prop
noncomputable def frs(l:List Env):List Ä:=l.filterMap (·.frame)
noncomputable abbrev Cx.fs(X:Cx):List Ä:=frs X.outer
def Vis(sc:ŕ)(x:Str):Prop:=sc.names.lookup x=some .local\/sc.names.lookup x=some .cell\/sc.names.lookup x=some .free
def Loc(sc:ŕ)(x:Str):Prop:=sc.names.lookup x=some .local\/sc.names.lookup x=some .cell
def Ha(env:Env)(h:ô)(m:Str->Option Á)(x:Str)(u:Á):Prop :=
 (env.kindOf x=some .local/\m x=some u)\/((env.kindOf x=some .cell\/env.kindOf x=some .free)/\∃c,env.cells.lookup x=some c/\h.IsCell c (some u))
structure Cx.Ok(X:Cx):Prop where
 mod:Mod X.K X.mg X.base
 kind:X.env.scope.kind=.function
 glob:X.env.globals=ÿ
 blt:X.env.builtins=builtinsNs
 above:X.s₀.heap.objs.size<=X.env.locals
 inj:∀x y c,X.env.cells.lookup x=some c->X.env.cells.lookup y=some c->x=y
 has:∀x,(X.env.kindOf x=some .cell\/X.env.kindOf x=some .free)->∃c,X.env.cells.lookup x=some c
 cab:∀x c,X.fn x=true->X.env.cells.lookup x=some c->X.s₀.heap.objs.size<=c
 hd:X.calm=true->X.A.handled=none
 frames:X.A.frames=some X.stack
 stk:X.stack=X.outer\/(X.stack=X.env::X.outer/\X.env.frame=some X.env.locals)
 exf:∀b∈X.ex,b≠X.env.locals/\∀x c,X.env.cells.lookup x=some c->c≠b
 bs:∀b o,X.base.get? b=some o->X.s₀.heap.get? b=some o/\X.H₀ b=none
 bsz:X.base.objs.size<=X.s₀.heap.objs.size
 noex:∀b o,X.base.get? b=some o->b∉X.ex
 exfs:∀b∈X.ex,b∉X.fs
 funs:X.s₀.heap.FunFrames X.base X.outer
 frf:∀b∈X.fs,X.H₀ b=none
structure Inv(X:Cx)(À:List<|Ä×Obj)(σ:List<|Option V)(H:Hp)(s:Â):Prop where
 ok:X.Ok
 os:s.os=X.s₀.os
 bare:ų s.gens
 base:Un X.fs X.ex X.H₀ H X.s₀.heap s.heap
 loc:∃m,s.heap.Ns X.env.locals m/\∀(i:Nat) (x:Str) (v:V),X.N[i]?=some x->σ[i]?=some (some v)->Vis X.env.scope x->∃u,RelV v u/\Ha X.env s.heap m x u
 cell:∀x c,X.env.cells.lookup x=some c->∃v,s.heap.IsCell c v
 free:H X.env.locals=none
 freeC:∀x c,X.env.cells.lookup x=some c->H c=none
 pin:∀p∈X.pn++À,s.heap.get? p.1=some p.2/\H p.1=none/\p.1≠X.env.locals/\p.1∉X.fs/\∀v,p.2.data≠.cell v
 hok:HOk X.prog X.w H s.heap
 len:σ.length=X.N.length
section
variable {X:Cx}{À:List (Ä×Obj)}{σ:List (Option V)}{H H':Hp}{s:Â}{h':ô}
theorem Cx.Ok.nofr(ok:X.Ok){b:Ä}{o:Obj}(e:X.base.get? b=some o):b∉X.fs:=fun hb=>by have:=(ok.funs.mem hb).1;rw[e]at this;cases this
theorem Inv.bs(I:Inv X À σ H s):∀b o,X.base.get? b=some o->s.heap.get? b=some o/\H b=none:=fun b o e =>
 ⟨I.base.keep b o (I.ok.bs b o e).1 (I.ok.bs b o e).2 (I.ok.nofr e)<|I.ok.noex b o e,I.base.free b o (I.ok.bs b o e).1 (I.ok.bs b o e).2<|I.ok.noex b o e⟩
theorem Inv.bk(I:Inv X À σ H s):∀b o,X.base.get? b=some o->s.heap.get? b=some o:=fun b o e=>(I.bs b o e).1
theorem Inv.mod(I:Inv X À σ H s):Mod X.K X.mg X.base:=I.ok.mod
theorem Inv.kIn(I:Inv X À σ H s):X.K.In s.heap:=I.ok.mod.kin.keeps I.bk
theorem Inv.nolimit(I:Inv X À σ H s):s.heap.NoLimit:=I.ok.mod.nolimit.keeps I.bk
theorem Inv.fr(I:Inv X À σ H s):∃m,Fr X.base X.env.locals s.heap m :=
 let ⟨m,hn,_⟩:=I.loc
 ⟨m,hn,I.bk,Ç I.ok.bsz I.ok.above⟩
theorem Inv.lt(I:Inv X À σ H s):X.env.locals<s.heap.objs.size:=let ⟨_,hn,_⟩:=I.loc;hn.lt
theorem Inv.sz(I:Inv X À σ H s):X.s₀.heap.objs.size<=s.heap.objs.size:=Ç I.ok.above (ŋ I.lt)
variable {a:Ä}
theorem Inv.nofs(I:Inv X À σ H s)(h:s.heap.objs.size<=a):a∉X.fs:=fun hb=>by obtain⟨_,o,ho,_⟩:=I.ok.funs.mem hb;exact absurd (Þ (Õ ho)<|Ç I.sz h) (ĩ _)
theorem Inv.cne(I:Inv X À σ H s):∀x c,X.env.cells.lookup x=some c->c≠X.env.locals:=fun x c e z=>by obtain⟨v,o,ho,hd⟩:=I.cell x c e;obtain⟨m,⟨o',es,ep,aH,hd',_⟩,_⟩:=I.loc;rw[z,aH]at ho;cases ho;rw[hd']at hd;cases hd
theorem Inv.funs(I:Inv X À σ H s):s.heap.FunFrames X.base X.outer:=by
 have all:∀(l:List Env),(∀b∈frs l,b∈X.fs)->X.s₀.heap.FunFrames X.base l->s.heap.FunFrames X.base l:=by
  intro l;induction l with
  |nil=>intro _ _;trivial
  |cons env r ih =>intro hs hl;obtain⟨hk,⟨L,o,hf,hn,ho,hd⟩,hr⟩:=hl;have hL:L∈X.fs:=hs L (by unfold frs;rw[ł,hf];exact å);obtain⟨sl,e⟩:=I.base.slot L o ho (I.ok.frf L hL) hL fun z=>I.ok.exfs L z hL;exact⟨hk,⟨L,_,hf,hn,e,hd⟩,ih (fun b hb=>hs b<|by unfold frs;rw[ł,hf];exact á _ hb) hr⟩
 exact all X.outer (fun _ hb=>hb) I.ok.funs
theorem Inv.stack(I:Inv X À σ H s):s.heap.FunFrames X.base X.stack:=by
 rcases I.ok.stk with e|⟨e,hf⟩
 .rw[e];exact I.funs
 .rw[e];obtain⟨m,hn,_⟩:=I.loc;refine .cons (by rw[I.ok.kind];decide) hf hn ?_ I.funs;exact Heap.get?_none_of_le<|Ç I.ok.bsz I.ok.above
theorem Inv.stkSub(I:Inv X À σ H s):∀b∈frs X.stack,b∈X.env.locals::X.fs:=fun b hb=>by
 rcases I.ok.stk with e|⟨e,hf⟩
 .rw[e]at hb;exact á _ hb
 .rw[e]at hb;unfold frs at hb;rw[ł,hf]at hb;exact hb
theorem Inv.stkFree(I:Inv X À σ H s):∀b∈frs X.stack,H b=none:=fun b hb=>by
 rcases Î.mp (I.stkSub b hb)with e|hb
 .rw[e];exact I.free
 .obtain⟨_,o,ho,_⟩:=I.ok.funs.mem hb;exact I.base.free b o ho (I.ok.frf b hb) fun z=>I.ok.exfs b z hb
variable {g':Array GenState} {t':Nat} {d':Drawn} {ch:List Ä}
theorem Inv.step(I:Inv X À σ H s)
  (hch:∀b∈ch,(b∈X.ex\/X.s₀.heap.objs.size<=b)/\b≠X.env.locals/\(∀x c,X.env.cells.lookup x=some c->c≠b)/\∀p∈X.pn++À,p.1≠b)
  (keep:∀b o,b≠X.env.locals->b∉X.fs->b∉ch->s.heap.get? b=some o->H b=none->h'.get? b=some o)
  (slot:∀b o,b≠X.env.locals->b∈X.fs->b∉ch->s.heap.get? b=some o->H b=none->∃sl,h'.get? b=some {o with slots:=sl}) (free:∀b o,b∉ch->s.heap.get? b=some o->H b=none->H' b=none)
  (there:∀b o,b∉ch->s.heap.get? b=some o->∃o',h'.get? b=some o')
  (tups:∀b xs,H b=some (.tup xs)->H' b=some (.tup xs)) (frzs:∀b o u,H b=some (.frz o u)->H' b=some (.frz o u)) (tbls:∀b ps,H b=some (.tbl ps)->∃more,H' b=some (.tbl<|ps++more))
  (ns:∀m,s.heap.Ns X.env.locals m->h'.Ns X.env.locals m) (hok:HOk X.prog X.w H' h') (hg:ų g') :
  Inv X À σ H' {s with heap:=h',gens:=g',drawn:=d',toks:=t'}:=by
 have neL:∀b o,X.s₀.heap.get? b=some o->b≠X.env.locals:=fun b o e=>î<|Þ (Õ e) I.ok.above;have neC:∀b o,X.s₀.heap.get? b=some o->b∉X.ex->b∉ch:=fun b o e hx hb=>by
  rcases (hch b hb).1 with z|z
  .exact hx z
  .exact absurd (Þ (Õ e) z)<|ĩ _
 have cellK:∀x c,X.env.cells.lookup x=some c->∀v,s.heap.IsCell c v->h'.IsCell c v:=fun x c e v ⟨o,ho,hd⟩=>by
  have nch:c∉ch:=fun z=>(hch c z).2.2.1 x c e rfl;by_cases hc:c∈X.fs
  .obtain⟨sl,q⟩:=slot c o (I.cne x c e) hc nch ho<|I.freeC x c e;exact⟨_,q,hd⟩
  .exact⟨o,keep c o (I.cne x c e) hc nch ho<|I.freeC x c e,hd⟩
 refine⟨I.ok,I.os,hg,⟨fun b o e n hb hx=>?_,fun b o e n hb hx=>?_,fun b o e n hx=>?_,fun b o e hx=>?_,fun b xs e=>tups b xs<|I.base.tups b xs e,fun b o xs e=>frzs b o xs<|I.base.frzs b o xs e,fun b ps e=>?_⟩,?_,fun x c e=>?_,?_,fun x c e=>?_,fun p hp=>?_,hok,I.len⟩
 .exact keep b o (neL b o e) hb (neC b o e hx) (I.base.keep b o e n hb hx)<|I.base.free b o e n hx
 .obtain⟨sl,e1⟩:=I.base.slot b o e n hb hx;obtain⟨sl',e2⟩:=slot b _ (neL b o e) hb (neC b o e hx) e1<|I.base.free b o e n hx;exact⟨sl',e2⟩
 .obtain⟨o',e1⟩:=I.base.there b o e hx;exact free b o' (neC b o e hx) e1<|I.base.free b o e n hx
 .obtain⟨o',e1⟩:=I.base.there b o e hx;exact there b o' (neC b o e hx) e1
 .obtain⟨m1,e1⟩:=I.base.tbls b ps e;obtain⟨m2,e2⟩:=tbls b _ e1;exact⟨m1++m2,by rw[e2,ς]⟩
 .obtain⟨m,hn,hl⟩:=I.loc;refine⟨m,ns m hn,fun i x v e1 e2 e3=>?_⟩;obtain⟨u,r,l⟩:=hl i x v e1 e2 e3;refine⟨u,r,?_⟩;rcases l with l|⟨k,c,e,z⟩
  .exact .inl l
  .exact .inr ⟨k,c,e,cellK x c e _ z⟩
 .obtain⟨v,z⟩:=I.cell x c e;exact⟨v,cellK x c e v z⟩
 .obtain⟨m,⟨o,_,_,ho,_⟩,_⟩:=I.loc;exact free _ o (fun z=>(hch _ z).2.1 rfl) ho I.free
 .obtain⟨v,o,ho,hd⟩:=I.cell x c e;exact free c o (fun z=>(hch c z).2.2.1 x c e rfl) ho<|I.freeC x c e
 .obtain⟨e,n,ne,nf,d⟩:=I.pin p hp;have nch:p.1∉ch:=fun z=>(hch p.1 z).2.2.2 p hp rfl;exact⟨keep p.1 p.2 ne nf nch e n,free p.1 p.2 nch e n,ne,nf,d⟩
theorem Inv.un(I:Inv X À σ H s)(u:Un X.fs [] H H' s.heap h')(hok:HOk X.prog X.w H' h'):Inv X À σ H' {s with heap:=h',toks:=t'}:=by
 obtain⟨m,⟨o,es,ep,ho,r⟩,_⟩:=id I.loc;obtain⟨sl,hL⟩:=u.any ho I.free (by simp);exact I.step (g':=s.gens) (d':=s.drawn) (ch:=[]) (fun _ z=>nomatch z) (fun b o _ hb _ e n=>u.keep b o e n hb<|by simp) (fun b o _ hb _ e n=>u.slot b o e n hb<|by simp) (fun b o _ e n=>u.free b o e n<|by simp) (fun b o _ e=>u.there b o e<|by simp) u.tups u.frzs u.tbls (fun m' hm=>by
   obtain⟨o',es',ep',aH,r'⟩:=hm
   rw[ho]at aH;cases aH
   exact⟨_,es',ep',hL,r'⟩) hok I.bare
theorem Inv.call(I:Inv X À σ H s)(u:Un (frs X.stack) ch H H' s.heap h')(hok:HOk X.prog X.w H' h')(hg:ų g')
  (hch:∀b∈ch,(b∈X.ex\/X.s₀.heap.objs.size<=b)/\b≠X.env.locals/\(∀x c,X.env.cells.lookup x=some c->c≠b)/\∀p∈X.pn++À,p.1≠b) :
  Inv X À σ H' {s with heap:=h',gens:=g',drawn:=d',toks:=t'}:=by
 obtain⟨m,⟨o,es,ep,ho,r⟩,_⟩:=id I.loc;obtain⟨sl,hL⟩:=u.any ho I.free fun z=>(hch _ z).2.1 rfl;exact I.step (ch:=ch) hch (fun b o hL hb hc e n=>u.keep b o e n (fun z=>(Î.mp<|I.stkSub b z).elim hL hb) hc) (fun b o _ _ hc e n=>u.any e n hc) (fun b o hc e n=>u.free b o e n hc) (fun b o hc e=>u.there b o e hc) u.tups u.frzs u.tbls (fun m' hm=>by
   obtain⟨o',es',ep',aH,r'⟩:=hm
   rw[ho]at aH;cases aH
   exact⟨_,es',ep',hL,r'⟩) hok hg
theorem Inv.turned{it:Ä}(I:Inv X À σ H s)(k:∀b o,b≠it->s.heap.get? b=some o->h'.get? b=some o)(hn:H it=none)(hL:it≠X.env.locals)
  (h1:it∈X.ex\/X.s₀.heap.objs.size<=it) (h2:∀x c,X.env.cells.lookup x=some c->c≠it) (h3:∀p∈X.pn++À,p.1≠it):Inv X À σ H {s with heap:=h',toks:=t'}:=by
 have nit:∀b u,H b=some u->b≠it:=fun b u e z=>by rw[z,hn]at e;cases e
 refine I.step (g':=s.gens) (d':=s.drawn) (ch:=[it]) (fun b hb=>?_) (fun b o _ _ hc e _=>k b o (fun z=>hc<|by simp[z]) e) (fun b o _ _ hc e _=>⟨o.slots,k b o (fun z=>hc<|by simp[z]) e⟩) (fun _ _ _ _ n=>n)
  (fun b o hc e=>⟨o,k b o (fun z=>hc<|by simp[z]) e⟩) (fun _ _ e=>e) (fun _ _ _ e=>e) (fun b ps e=>⟨#[],by rw[e];simp⟩) (fun m hm=>?_) (fun b u e=>?_) I.bare
 .have e:b=it:=by simpa using hb
  subst e;exact⟨h1,hL,h2,h3⟩
 .obtain⟨o,es,ep,ho,r⟩:=hm;exact⟨o,es,ep,k _ o (Ne.symm hL) ho,r⟩
 .refine(I.hok b u e).stay (fun c v hc q=>k c v ?_ q) (fun _ q=>q) fun _ _ q=>q;rcases hc with z|z
  .rw[z];exact nit b u e
  .exact nit c _ z
theorem Inv.tok(I:Inv X À σ H s)(t:Nat):Inv X À σ H {s with toks:=t}:=I.un (h':=s.heap) (t':=t) Un.refl I.hok
theorem Inv.kept(I:Inv X À σ H s)(k:∀b u,s.heap.get? b=some u->h'.get? b=some u):Inv X À σ H {s with heap:=h',toks:=t'}:=I.un (Un.kept k) (I.hok.kept k)
variable {o:HO}
theorem Inv.laid(I:Inv X À σ H s)(k:∀b u,s.heap.get? b=some u->h'.get? b=some u)(hp:s.heap.objs.size<=a)(new:ObjOk X.prog X.w (upd H a o) h' a o) :
  Inv X À σ (upd H a o) {s with heap:=h',toks:=t'}:=I.un (Un.laid k hp<|I.hok.fresh hp)<|I.hok.laid k hp new
theorem Inv.write{x e:Ä}(I:Inv X À σ H s)(mu:Mut<|H x)(he:e=x\/H e=some (.own x))(k:∀b u,b≠e->s.heap.get? b=some u->h'.get? b=some u)(heo:∃u,h'.get? e=some u)
  (new:ObjOk X.prog X.w (upd H x o) h' x o):Inv X À σ (upd H x o) {s with heap:=h',toks:=t'}:=I.un (Un.write mu he k heo)<|I.hok.write mu he k heo new
theorem Inv.pins_of{pins':List (Ä×Obj)}(I:Inv X À σ H s)(h:∀p∈pins',s.heap.get? p.1=some p.2/\H p.1=none/\p.1≠X.env.locals/\p.1∉X.fs/\∀v,p.2.data≠.cell v):Inv X pins' σ H s :=
 ⟨I.ok,I.os,I.bare,I.base,I.loc,I.cell,I.free,I.freeC,fun p hp=>(ö.mp hp).elim (fun z=>I.pin p<|Ľ _ z)<|h p,I.hok,I.len⟩
variable {i:Nat} {x:Str}
theorem X4{N:List Str}(hN:N.Nodup){j:Nat}(a:N[i]?=some x)(b:N[j]?=some x):i=j:=by obtain⟨h1,e1⟩:=ð.mp a;obtain⟨h2,e2⟩:=ð.mp b;exact(List.getElem_inj hN).mp (e1.trans e2.symm)
variable {M:bw} {A:ć} {v:V} {u:Á} {Q:Unit->Â->Prop}
theorem WI{E:Á->Â->Prop}(I:Inv X À σ H s)(hN:X.N.Nodup)(hi:X.N[i]?=some x)(hx:Loc X.env.scope x)(r:RelV v u)
  (h:∀s',Inv X À (σ.set i<|some v) H s'->(∃a,Ŵ a s.heap s'.heap/\(a=X.env.locals\/X.env.cells.lookup x=some a))->Q () s') (hf:X.fn x=true\/X.env.scope.names.lookup x=some .local:=by first|exact .inl rfl|exact .inr rfl|assumption):wpAny M A (storeName X.env x u) Q E s:=by
 obtain⟨m,hn,hl⟩:=id I.loc;have aI:(X.env.scope.kind == .class||(X.env.scope.kind == .module&&X.env.locals != X.env.globals))=false:=by rw[I.ok.kind];rfl
 have hiσ:i<σ.length:=by rw[I.len];exact(ð.mp hi).1
 have cne:=I.cne;have aU:∀{a:Ä}{h':ô},(∃o,s.heap.get? a=some o/\H a=none)->Ŵ a s.heap h'->HOk X.prog X.w H h':=fun{a h'} ha hs b ob e=>by
  obtain⟨_,_,hfree⟩:=ha;refine(I.hok b ob e).stay (fun c w' hc q=>(hs.2 c ?_).trans q) (fun _ q=>q) fun _ _ q=>q;rintro rfl;rcases hc with rfl|hc
  .rw[hfree]at e;cases e
  .rw[hfree]at hc;cases hc
 rcases hx with hk|hk
 .refine wpAny_storeName_local hk hn (fun h' hn' hs=>?_) aI;obtain⟨oL,_,_,hoL,_⟩:=id hn;refine h _ ⟨I.ok,I.os,I.bare,⟨fun b o e n hb hx=>?_,fun b o e n hb hx=>?_,I.base.free,fun b o e hx=>?_,I.base.tups,I.base.frzs,I.base.tbls⟩,⟨_,hn',fun j y v' e1 e2 e3=>?_⟩,fun y c e=>?_,I.free,I.freeC,fun p hp=>?_,aU ⟨oL,hoL,I.free⟩ hs,by simpa using I.len⟩ ⟨_,hs,.inl rfl⟩
  .exact(hs.2 b<|î<|Þ (Õ e) I.ok.above).trans<|I.base.keep b o e n hb hx
  .obtain⟨sl,e1⟩:=I.base.slot b o e n hb hx;exact⟨sl,(hs.2 b<|î<|Þ (Õ e) I.ok.above).trans e1⟩
  .obtain⟨o',e1⟩:=I.base.there b o e hx;exact⟨o',(hs.2 b<|î<|Þ (Õ e) I.ok.above).trans e1⟩
  .by_cases hj:j=i
   .subst hj;rw[hi]at e1;cases e1;rw[ŵ hiσ]at e2;cases e2;exact⟨u,r,.inl ⟨hk,by simp⟩⟩
   .rw[Ĝ<|Ne.symm hj]at e2;obtain⟨u',r',q⟩:=hl j y v' e1 e2 e3;refine⟨u',r',?_⟩;rcases q with⟨k,e⟩|⟨k,c,e,z⟩
    .refine .inl ⟨k,?_⟩;have:y≠x:=fun e=>hj<|X4 hN e1<|e▸hi;simp[this,e]
    .exact .inr ⟨k,c,e,z.sameBut hs<|cne y c e⟩
  .obtain⟨w',z⟩:=I.cell y c e;exact⟨w',z.sameBut hs<|cne y c e⟩
  .obtain⟨e,n,ne,nf,d⟩:=I.pin p hp;exact⟨(hs.2 p.1 ne).trans e,n,ne,nf,d⟩
 .have hfn:X.fn x=true:=by
   rcases hf with z|z
   .exact z
   .rw[z]at hk;cases hk
  obtain⟨c,hc⟩:=I.ok.has x<|.inl hk;obtain⟨w',z⟩:=I.cell x c hc;refine wpAny_storeName_cell I.ok.kind hk hc z fun h' hc' hs=>?_;obtain⟨oc,hoc,hocd⟩:=id z;refine h {s with heap:=h'} ⟨I.ok,I.os,I.bare,⟨fun b o e n hb hx=>?_,fun b o e n hb hx=>?_,I.base.free,fun b o e hx=>?_,I.base.tups,I.base.frzs,I.base.tbls⟩,⟨m,hn.sameBut hs<|Ne.symm<|cne x c hc,fun j y v' e1 e2 e3=>?_⟩,fun y c' e=>?_,I.free,I.freeC,fun p hp=>?_,aU ⟨oc,hoc,I.freeC x c hc⟩ hs,by simpa using I.len⟩ ⟨c,hs,.inr hc⟩
  .exact(hs.2 b<|î<|Þ (Õ e)<|I.ok.cab x c hfn hc).trans<|I.base.keep b o e n hb hx
  .obtain⟨sl,e1⟩:=I.base.slot b o e n hb hx;exact⟨sl,(hs.2 b<|î<|Þ (Õ e)<|I.ok.cab x c hfn hc).trans e1⟩
  .obtain⟨o',e1⟩:=I.base.there b o e hx;exact⟨o',(hs.2 b<|î<|Þ (Õ e)<|I.ok.cab x c hfn hc).trans e1⟩
  .by_cases hj:j=i
   .subst hj;rw[hi]at e1;cases e1;rw[ŵ hiσ]at e2;cases e2;exact⟨u,r,.inr ⟨.inl hk,c,hc,hc'⟩⟩
   .rw[Ĝ<|Ne.symm hj]at e2;obtain⟨u',r',q⟩:=hl j y v' e1 e2 e3;refine⟨u',r',?_⟩;rcases q with q|⟨k,c',e,z'⟩
    .exact .inl q
    .refine .inr ⟨k,c',e,z'.sameBut hs ?_⟩;rintro rfl;exact hj<|X4 hN e1<|I.ok.inj _ _ _ e hc▸hi
  .by_cases hcc:c'=c
   .subst hcc;exact⟨_,hc'⟩
   .obtain⟨w2,z2⟩:=I.cell y c' e;exact⟨w2,z2.sameBut hs hcc⟩
  .obtain⟨e,n,ne,nf,d⟩:=I.pin p hp;refine⟨(hs.2 p.1 ?_).trans e,n,ne,nf,d⟩;intro q;rw[q,hoc]at e;have q':oc=p.2:=Ā e;exact d w' (by rw[<-q'];exact hocd)
theorem XO{E:Á->Â->Prop}(I:Inv X À σ H s)(hN:X.N.Nodup)(hi:X.N[i]?=some x)(hx:Loc X.env.scope x)(r:RelV v u)
  (h:∀s',Inv X À (σ.set i<|some v) H s'->Q () s') (hf:X.fn x=true\/X.env.scope.names.lookup x=some .local:=by first|exact .inl rfl|exact .inr rfl|assumption):wpAny M A (storeName X.env x u) Q E s :=
 WI I hN hi hx r (fun s' I' _=>h s' I') hf
theorem Inv.call'{s':Â}(I:Inv X À σ H s)(ho:s'.os=s.os)(u:Un (frs X.stack) ch H H' s.heap s'.heap)(hok:HOk X.prog X.w H' s'.heap)(hg:ų s'.gens)
  (hch:∀b∈ch,(b∈X.ex\/X.s₀.heap.objs.size<=b)/\b≠X.env.locals/\(∀x c,X.env.cells.lookup x=some c->c≠b)/\∀p∈X.pn++À,p.1≠b):Inv X À σ H' s':=by
 obtain⟨h',g',d',t',o'⟩:=s';have e:o'=s.os:=ho;subst e;exact I.call (g':=g') (t':=t') (d':=d') u hok hg hch
end
noncomputable abbrev XK:=Á->Option Ä->Hp->Prop
noncomputable abbrev St:=List<|Option V
noncomputable abbrev VK:=V->Hp->Prop
noncomputable abbrev TE:=St->Hp->VK->Prop
noncomputable abbrev TT:=St->Hp->(Bool->Hp->Prop)->Prop
noncomputable abbrev TA:=St->Hp->(List V->Hp->Prop)->Prop
structure Ends where
 nx:St->Hp->Prop
 rt:VK
 bk:St->Hp->Prop:=fun _ _=>False
 ct:St->Hp->Prop:=fun _ _=>False
noncomputable abbrev TS:=Ends->St->Hp->Prop
def EP(X:Cx)(À:List<|Ä×Obj)(σ:St)(Q:VK)(u:Á)(s':Â):Prop:=∃v H',Inv X À σ H' s'/\RelV v u/\Q v H'
def TP(X:Cx)(À:List<|Ä×Obj)(σ:St)(Q:Bool->Hp->Prop)(b:Bool)(s':Â):Prop:=∃H',Inv X À σ H' s'/\Q b H'
def AP(X:Cx)(À:List<|Ä×Obj)(σ:St)(Q:List V->Hp->Prop)(us:List Á)(s':Â):Prop:=∃vs H',Inv X À σ H' s'/\Vals vs us/\Q vs H'
def SP(X:Cx)(À:List<|Ä×Obj)(D:Ends)(f:Flow)(s':Â):Prop :=
 match f with
 |.next=>∃Ĺ H',Inv X À Ĺ H' s'/\D.nx Ĺ H'
 |.brk=>∃Ĺ H',Inv X À Ĺ H' s'/\D.bk Ĺ H'
 |.cont=>∃Ĺ H',Inv X À Ĺ H' s'/\D.ct Ĺ H'
 |.ret u=>∃v Ĺ H',Inv X À Ĺ H' s'/\RelV v u/\D.rt v H'
def PE(X:Cx)(e:Expr)(t:TE):Prop :=
 ∀(À:List<|Ä×Obj) (s:Â) (σ:St) (H:Hp) (Q:VK),Inv X À σ H s->t σ H Q->wpAny (Ö X.prog X.w) X.A (eval e X.env) (EP X À σ Q) X.xe s
def PT(X:Cx)(e:Expr)(t:TT):Prop :=
 ∀(À:List<|Ä×Obj) (s:Â) (σ:St) (H:Hp) (Q:Bool->Hp->Prop),Inv X À σ H s->t σ H Q->wpAny (Ö X.prog X.w) X.A (am e X.env<|eval e X.env) (TP X À σ Q) X.xe s
def PW(X:Cx)(e:Expr)(t:TT):Prop :=
 ∀(ϒ:Sem Á) (À:List<|Ä×Obj) (s:Â) (σ:St) (H:Hp) (Q:Bool->Hp->Prop),Inv X À σ H s->t σ H Q->wpAny (Ö X.prog X.w) X.A (am e X.env ϒ) (TP X À σ Q) X.xe s
theorem PW.pt{X:Cx}{e:Expr}{t:TT}(h:PW X e t):PT X e t:=h _
def PA(X:Cx)(es:List Expr)(t:TA):Prop :=
 ∀(ë:Pos) (À:List<|Ä×Obj) (s:Â) (σ:St) (H:Hp) (Q:List V->Hp->Prop),Inv X À σ H s->t σ H Q->wpAny (Ö X.prog X.w) X.A (spliced<|Ħ ë<|Ð es X.env) (AP X À σ Q) X.xe s
def PS(X:Cx)(st:Ě)(t:TS):Prop :=
 ∀(À:List<|Ä×Obj) (s:Â) (σ:St) (H:Hp) (D:Ends),Inv X À σ H s->t D σ H->wpAny (Ö X.prog X.w) X.A (exec st X.env) (SP X À D) X.xe s
def PSs(X:Cx)(st:List Ě)(t:TS):Prop :=
 ∀(À:List<|Ä×Obj) (s:Â) (σ:St) (H:Hp) (D:Ends),Inv X À σ H s->t D σ H->wpAny (Ö X.prog X.w) X.A (execs st X.env) (SP X À D) X.xe s
theorem thn{α:Type}{t:Sem α}{Q Q':α->Â->Prop}{M:bw}{A:ć}{E:Á->Â->Prop}{s:Â}(h:wpAny M A t Q E s)(hQ:∀a s,Q a s->Q' a s):wpAny M A t Q' E s:=Ĉ h hQ fun _ _ x=>x
section
variable {X:Cx}
variable {À:List (Ä×Obj)} {s:Â} {σ:St} {H:Hp}
theorem bin{a b:Expr}{ta tb:TE}(ha:PE X a ta)(hb:PE X b tb){R:V->V->Hp->Prop}(I:Inv X À σ H s)(h:ta σ H fun x H1=>tb σ H1 fun y H2=>R x y H2)
  {α:Type}{Q:α->Â->Prop}{f:Á->Á->Sem α}
  (hf:∀v u s2 x y H2,Inv X À σ H2 s2->RelV x v->RelV y u->R x y H2->wpAny (Ö X.prog X.w) X.A (f v u) Q X.xe s2) :
  wpAny (Ö X.prog X.w) X.A (eval a X.env) (fun v ě=>wpAny (Ö X.prog X.w) X.A (eval b X.env) (fun u ϸ=>wpAny (Ö X.prog X.w) X.A (f v u) Q X.xe ϸ) X.xe ě) X.xe s:=by
 refine thn (ha À s σ H _ I h) fun v s1 ⟨x,H1,I1,r1,q1⟩=>?_;refine thn (hb À s1 σ H1 _ I1 q1) fun u s2 ⟨y,H2,I2,r2,q2⟩=>?_;exact hf v u s2 x y H2 I2 r1 r2 q2
noncomputable def Hg(i:Nat):TE:=fun σ H Q=>∃v,σ[i]?=some (some v)/\Q v H
noncomputable def tC(v:V):TE:=fun _ H Q=>Q v H
variable {x:Str} {ë:Pos}
theorem C2{i:Nat}(hN:X.N[i]?=some x)(hv:Vis X.env.scope x)(hd:(x==("__debug__" : Str))=false:=by decide)(aV:(x==("__classdict__" : Str))=false:=by decide):PE X (.Name x ë)<|Hg i:=by
 intro À s σ H Q I h;obtain⟨v,e,h⟩:=h;obtain⟨m,hn,hl⟩:=I.loc;obtain⟨u,r,l⟩:=hl i x v hN e hv;have fin:EP X À σ Q u s:=⟨v,H,I,r,h⟩
 rcases l with⟨hk,hm⟩|⟨hk,c,hc,hcell⟩
 .exact wpAny_Name (wpAny_loadName_local I.ok.kind hk hn hm fin) hd
 .rcases hk with hk|hk
  .exact wpAny_Name (wpAny_loadName_cell I.ok.kind hk hc hcell fin) hd
  .exact wpAny_Name (wpAny_loadName_free I.ok.kind hk hc hcell fin aV) hd
theorem Dv{i j ë}:PE X (.Constant (.int i) j ë)<|tC<|.int i:=fun _ _ _ H _ I h=>wpAny_Constant_int ⟨.int i,H,I.tok _,⟨_,rfl⟩,h⟩
theorem Gm{b j ë}:PE X (.Constant (.bool b) j ë)<|tC<|.bl b:=fun _ _ _ H _ I h=>Constant_bool ⟨.bl b,H,I,rfl,h⟩
theorem Ew{j ë}:PE X (.Constant .none j ë)<|tC .non:=fun _ _ _ H _ I h=>ba ⟨.non,H,I,rfl,h⟩
theorem pe_str{x j ë}:PE X (.Constant (.str x) j ë)<|tC<|.str x:=fun _ _ _ H _ I h=>Calls.Constant_str ⟨.str x,H,I.tok _,⟨_,rfl⟩,h⟩
def Gl(X:Cx)(x:Str):Prop:=X.env.kindOf x=some .globalImplicit
variable {u:Á} {Q:Á->Â->Prop}
theorem Z7{E:Á->Â->Prop}(I:Inv X À σ H s)(hg:Gl X x)(hm:X.mg x=some u)(h:Q u s)
  (hd:(x==("__debug__" : Str))=false:=by decide):wpAny (Ö X.prog X.w) X.A (eval (.Name x ë) X.env) Q E s :=
 Calls.Name_function_global I.ok.kind hg (Calls.loadGlobal_global (by rw[I.ok.glob];exact I.mod.glob.keeps I.bk) hm h) hd
theorem W5{E:Á->Â->Prop}(I:Inv X À σ H s)(hg:Gl X x)(hm:X.mg x=none)(hv:ń x=some u)(h:Q u s)
  (hn:x≠"__name__":=by decide) (hd:(x==("__debug__" : Str))=false:=by decide):wpAny (Ö X.prog X.w) X.A (eval (.Name x ë) X.env) Q E s:=by
 obtain⟨mb,h1,h2⟩:=I.mod.blt;exact Calls.Name_function_global I.ok.kind hg (Calls.loadGlobal_builtin (by rw[I.ok.glob];exact I.mod.glob.keeps I.bk) hm (by rw[I.ok.blt];exact h1.keeps I.bk) ((h2 x hn).trans hv) h) hd
variable {v:V}
theorem Jo(hg:Gl X x)(hm:X.mg x=some u)(r:RelV v u)(hd:(x==("__debug__" : Str))=false:=by decide):PE X (.Name x ë) (tC v) :=
 fun _ _ _ H _ I h=>Z7 I hg hm ⟨v,H,I,r,h⟩ hd
theorem Mi(hg:Gl X x)(hm:X.mg x=none)(hv:ń x=some u)(r:RelV v u)(hn:x≠"__name__":=by decide)(hd:(x==("__debug__" : Str))=false:=by decide):PE X (.Name x ë) (tC v) :=
 fun _ _ _ H _ I h=>W5 I hg hm hv ⟨v,H,I,r,h⟩ hn hd
variable {a b:Expr}{ta tb:TE}{ë:Pos}
def PC(X:Cx)(op:ao)(a b:Expr)(t:TE):Prop :=
 ∀(À:List<|Ä×Obj) (s:Â) (σ:St) (H:Hp) (Q:VK),Inv X À σ H s->t σ H Q->
  wpAny (Ö X.prog X.w) X.A (eval a X.env) (fun v ě=>wpAny (Ö X.prog X.w) X.A (eval b X.env) (fun u ϸ=>wpAny (Ö X.prog X.w) X.A (Ý op v u) (EP X À σ Q) X.xe ϸ) X.xe ě) X.xe s
variable {op:ao}
theorem JT(b:Expr)(h:op≠.In)(h2:op≠.NotIn):Ĥ op b=false:=by
 have e1:(op==CmpOp.In)=false:=by cases op<;>first|rfl|exact absurd rfl h
 have e2:(op==CmpOp.NotIn)=false:=by cases op<;>first|rfl|exact absurd rfl h2
 cases b<;>simp[Ĥ,e1,e2]
noncomputable def Hi(ta:TE):TE:=fun σ H Q=>ta σ H fun x H1=>Q (.bl<|decide (x=.non)) H1
noncomputable def Fp(ta:TE):TE:=fun σ H Q=>ta σ H fun x H1=>Q (.bl (!decide (x=.non))) H1
theorem RelV.none_iff{x:V}{v:Á}(r:RelV x v):(v==Value.none)=decide (x=.non):=by
 cases x with
 |non=>cases r;rfl
 |bl _=>cases r;rfl
 |int _=>obtain⟨t,rfl⟩:=r;rfl
 |str _=>obtain⟨t,rfl⟩:=r;rfl
 |byt _=>obtain⟨t,rfl⟩:=r;rfl
 |flt _=>obtain⟨t,rfl⟩:=r;rfl
 |ref _=>cases r;rfl
 |ty _=>cases r;rfl
theorem NV{j bh}(ha:PE X a ta):PC X .Is a (.Constant .none j bh)<|Hi ta:=by intro À s σ H Q I h;refine thn (ha À s σ H _ I h) fun v s1 ⟨x,H1,I1,r1,q1⟩=>?_;exact ba (is_none_gen ⟨.bl _,H1,I1,by rw[r1.none_iff];rfl,q1⟩)
theorem MS{j bh}(ha:PE X a ta):PC X .IsNot a (.Constant .none j bh)<|Fp ta:=by intro À s σ H Q I h;refine thn (ha À s σ H _ I h) fun v s1 ⟨x,H1,I1,r1,q1⟩=>?_;exact ba (isnot_none_gen ⟨.bl _,H1,I1,by rw[r1.none_iff];rfl,q1⟩)
noncomputable def tB(t:TE):TT:=fun σ H Q=>t σ H fun x H1=>∃c,x=.bl c/\Q c H1
theorem N1{t:TE}(h:PC X op a b t)(h1:Ĥ op b=false:=by first|exact JT _ (by decide) (by decide)|rfl):PE X (.Compare a [op] [b] ë) t:=fun À s σ H Q I hw=>wpAny_Compare1 (h À s σ H Q I hw) h1
theorem OB{t:TE}(h:PC X op a b t)(h1:Ĥ op b=false:=by first|exact JT _ (by decide) (by decide)|rfl):PT X (.Compare a [op] [b] ë)<|tB t:=by intro À s σ H Q I hw;refine wpAny_isTrue_Compare1 (thn (h À s σ H _ I hw) fun v s1 h1=>thn h1 fun u s2 h2=>thn h2 fun c s3 ⟨x,H1,I1,r1,q1⟩=>?_) h1;obtain⟨d,rfl,q⟩:=q1;cases r1;exact Ą ⟨H1,I1,q⟩
variable {tA tB':TT}{rest:List Expr}
noncomputable def Hq(t u:TT):TT:=fun σ H Q=>t σ H fun c H1=>if c=true then u σ H1 Q else Q false H1
noncomputable def tOr(t u:TT):TT:=fun σ H Q=>t σ H fun c H1=>if c=true then Q true H1 else u σ H1 Q
noncomputable def G9(t:TT):TT:=fun σ H Q=>t σ H fun c H1=>Q (!c) H1
theorem Ao(ha:PT X a tA):PW X (.BoolOp .And [a] ë) tA:=by
 intro wh À s σ H Q I h;refine isTrue_and<|thn (ha À s σ H Q I h) fun c s1 e=>?_;cases c with
 |true=>exact isTrue_and_nil e
 |false=>exact e
theorem Cy(ha:PT X a tA):PW X (.BoolOp .Or [a] ë) tA:=by
 intro wh À s σ H Q I h;refine isTrue_or<|thn (ha À s σ H Q I h) fun c s1 e=>?_;cases c with
 |false=>exact isTrue_or_nil e
 |true=>exact e
theorem Ev(ha:PT X a tA)(hb:PW X (.BoolOp .And (b::rest) ë) tB'):PW X (.BoolOp .And (a::b::rest) ë)<|Hq tA tB':=by
 intro wh À s σ H Q I h;refine isTrue_and<|thn (ha À s σ H _ I h) fun c s1 ⟨H1,I1,q1⟩=>?_;cases c with
 |true=>exact hb wh À s1 σ H1 Q I1 q1
 |false=>exact⟨H1,I1,q1⟩
theorem FM(ha:PT X a tA)(hb:PW X (.BoolOp .Or (b::rest) ë) tB'):PW X (.BoolOp .Or (a::b::rest) ë)<|tOr tA tB':=by
 intro wh À s σ H Q I h;refine isTrue_or<|thn (ha À s σ H _ I h) fun c s1 ⟨H1,I1,q1⟩=>?_;cases c with
 |true=>exact⟨H1,I1,q1⟩
 |false=>exact hb wh À s1 σ H1 Q I1 q1
theorem Cm(ha:PT X a tA):PT X (.UnaryOp .Not a ë)<|G9 tA:=by intro À s σ H Q I h;exact isTrue_not (ha À s σ H (fun c H1=>Q (!c) H1) I h)
noncomputable def E8(ta tb:TE):TE:=fun σ H Q=>ta σ H fun x H1=>∃c,x=.bl c/\if c=true then tb σ H1 Q else Q (.bl false) H1
noncomputable def Gv(ta tb:TE):TE:=fun σ H Q=>ta σ H fun x H1=>∃c,x=.bl c/\if c=true then Q (.bl true) H1 else tb σ H1 Q
noncomputable def Ft(ta:TE):TE:=fun σ H Q=>ta σ H fun x H1=>∃c,x=.bl c/\Q (.bl (!c)) H1
theorem OK{op}{t:TE}(h:PE X a t):PE X (.BoolOp op [a] ë) t:=fun À s σ H Q I hw=>BoolOp_one (h À s σ H Q I hw)
theorem Dh(ha:PE X a ta)(hb:PE X (.BoolOp .And (b::rest) ë) tb):PE X (.BoolOp .And (a::b::rest) ë)<|E8 ta tb:=by
 intro À s σ H Q I h;refine BoolOp_and<|thn (ha À s σ H _ I h) fun v s1 ⟨x,H1,I1,r1,q1⟩=>?_;obtain⟨c,rfl,q1⟩:=q1;cases r1;refine Ą ?_;cases c with
 |true=>exact hb À s1 σ H1 Q I1 q1
 |false=>exact⟨.bl false,H1,I1,rfl,q1⟩
theorem Gn(ha:PE X a ta)(hb:PE X (.BoolOp .Or (b::rest) ë) tb):PE X (.BoolOp .Or (a::b::rest) ë)<|Gv ta tb:=by
 intro À s σ H Q I h;refine BoolOp_or<|thn (ha À s σ H _ I h) fun v s1 ⟨x,H1,I1,r1,q1⟩=>?_;obtain⟨c,rfl,q1⟩:=q1;cases r1;refine Ą ?_;cases c with
 |false=>exact hb À s1 σ H1 Q I1 q1
 |true=>exact⟨.bl true,H1,I1,rfl,q1⟩
theorem Cd(ha:PE X a ta):PE X (.UnaryOp .Not a ë)<|Ft ta:=by intro À s σ H Q I h;refine UnaryOp_<|thn (ha À s σ H _ I h) fun v s1 ⟨x,H1,I1,r1,q1⟩=>?_;obtain⟨c,rfl,q1⟩:=q1;cases r1;exact not_of (Ą ⟨.bl (!c),H1,I1,rfl,q1⟩)
end
def SqL(K:PySem.W.Frag)(H:Hp)(a:Ä)(xs:List V):Prop :=
 Rd H a (.lst xs)\/
  ∃(o:Obj) (ò:Array Á) (n:Nat),K.lookup a=some o/\o.cls=.type "list"/\o.dict=none/\o.data=.seq ò n/\ò.size<=Ô/\Vals xs ò.toList
def SqT(K:PySem.W.Frag)(H:Hp)(a:Ä)(xs:List V):Prop :=
 Rd H a (.tup xs)\/
  ∃(o:Obj) (ò:Array Á) (n:Nat),K.lookup a=some o/\o.cls=.type "tuple"/\o.data=.seq ò n/\ò.size<=Ô/\Vals xs ò.toList
noncomputable def absV:Á->Option V
 |.none=>some .non
 |.bool b=>some<|.bl b
 |.int i _=>some<|.int i
 |.str x _=>some<|.str x
 |.bytes b _=>some<|.byt b
 |.float b _=>some<|.flt b
 |.ref a=>some<|.ref a
 |.type n=>some<|.ty n
 |_=>none
variable {x:V} {u:Á}
theorem RelV.abs(r:RelV x u):absV u=some x:=by
 cases x with
 |non=>cases r;rfl
 |bl _=>cases r;rfl
 |int _=>obtain⟨t,rfl⟩:=r;rfl
 |str _=>obtain⟨t,rfl⟩:=r;rfl
 |byt _=>obtain⟨t,rfl⟩:=r;rfl
 |flt _=>obtain⟨t,rfl⟩:=r;rfl
 |ref _=>cases r;rfl
 |ty _=>cases r;rfl
theorem RelV.inj{y:V}(r:RelV x u)(q:RelV y u):x=y:=Ā (r.abs.symm.trans q.abs)
theorem Vals.inj:∀{xs ys:List V}{us:List Á},Vals xs us->Vals ys us->xs=ys
 |_,_,_,.nil,.nil=>rfl
 |_,_,_,.cons r t,.cons r' t'=>by rw[r.inj r',Vals.inj t t']
section
variable {X:Cx}{À:List (Ä×Obj)}{σ:St}{H:Hp}{s:Â}{a:Ä}{xs ys:List V}
theorem SqL.of{K:PySem.W.Frag}(h:H a=some (.lst xs)):SqL K H a xs:=.inl (.inl h)
theorem SqT.of{K:PySem.W.Frag}(h:H a=some (.tup xs)):SqT K H a xs:=.inl (.inl h)
theorem Inv.list(I:Inv X À σ H s)(h:SqL X.K H a xs):∃ò:List Á,Vals xs ò/\PlainL s.heap a ò.toArray/\xs.length<=Ô:=by
 rcases h with h|⟨o,ò,n,hk,hc,hd,hs,hz,r⟩
 .obtain⟨z,ò,n,r,e⟩:=h.ok I.hok;exact⟨ò,r,⟨_,n,e,rfl,rfl,rfl⟩,z⟩
 .refine⟨ò.toList,r,⟨o,n,I.kIn a o hk,hc,hd,by simpa using hs⟩,?_⟩;have e:=r.length;simp only[η]at e;omega
theorem Inv.tuple(I:Inv X À σ H s)(h:SqT X.K H a xs):∃ò:List Á,Vals xs ò/\Ζ s.heap a ò.toArray/\xs.length<=Ô:=by
 rcases h with h|⟨o,ò,n,hk,hc,hs,hz,r⟩
 .obtain⟨z,ò,r,p⟩:=h.ok I.hok;exact⟨ò,r,p,z⟩
 .refine⟨ò.toList,r,⟨o,I.kIn a o hk,hc,n,by simpa using hs⟩,?_⟩;have e:=r.length;simp only[η]at e;omega
theorem Inv.list_inj(I:Inv X À σ H s)(h:SqL X.K H a xs)(h':SqL X.K H a ys):xs=ys:=by
 obtain⟨ò,r,⟨o,n,e,_,_,d⟩,_⟩:=I.list h;obtain⟨its',r',⟨o',n',e',_,_,d'⟩,_⟩:=I.list h';rw[e]at e';cases e';rw[d]at d';injection d' with d1 _;have:ò=its':=by simpa using congrArg ϵ d1
 subst this;exact r.inj r'
theorem Inv.tuple_inj(I:Inv X À σ H s)(h:SqT X.K H a xs)(h':SqT X.K H a ys):xs=ys:=by
 obtain⟨ò,r,⟨o,e,_,n,d⟩,_⟩:=I.tuple h;obtain⟨its',r',⟨o',e',_,n',d'⟩,_⟩:=I.tuple h';rw[e]at e';cases e';rw[d]at d';injection d' with d1 _;have:ò=its':=by simpa using congrArg ϵ d1
 subst this;exact r.inj r'
end
noncomputable abbrev Cx.wish(X:Cx)(E:Á->Â->Prop):Cx:={X with xe:=E}
noncomputable abbrev Cx.nox(X:Cx):Cx:=X.wish fun _ _=>False
variable {X:Cx}
theorem Cx.Ok.wish(ok:X.Ok)(E:Á->Â->Prop):(X.wish E).Ok :=
 ⟨ok.mod,ok.kind,ok.glob,ok.blt,ok.above,ok.inj,ok.has,ok.cab,ok.hd,ok.frames,ok.stk,ok.exf,ok.bs,ok.bsz,ok.noex,ok.exfs,ok.funs,ok.frf⟩
theorem Cx.Ok.unwish{E:Á->Â->Prop}(ok:(X.wish E).Ok):X.Ok :=
 ⟨ok.mod,ok.kind,ok.glob,ok.blt,ok.above,ok.inj,ok.has,ok.cab,ok.hd,ok.frames,ok.stk,ok.exf,ok.bs,ok.bsz,ok.noex,ok.exfs,ok.funs,ok.frf⟩
section
variable {X:Cx}{À:List (Ä×Obj)}{σ:St}{H:Hp}{s:Â}{E:Á->Â->Prop}
theorem Inv.wish(I:Inv X À σ H s)(E:Á->Â->Prop):Inv (X.wish E) À σ H s:=⟨I.ok.wish E,I.os,I.bare,I.base,I.loc,I.cell,I.free,I.freeC,I.pin,I.hok,I.len⟩
theorem Inv.unwish(I:Inv (X.wish E) À σ H s):Inv X À σ H s:=⟨I.ok.unwish,I.os,I.bare,I.base,I.loc,I.cell,I.free,I.freeC,I.pin,I.hok,I.len⟩
theorem SP.unwish{D:Ends}{f:Flow}{s':Â}(h:SP (X.wish E) À D f s'):SP X À D f s':=by
 cases f with
 |next=>obtain⟨Ĺ,H',I,q⟩:=h;exact⟨Ĺ,H',I.unwish,q⟩
 |brk=>obtain⟨Ĺ,H',I,q⟩:=h;exact⟨Ĺ,H',I.unwish,q⟩
 |cont=>obtain⟨Ĺ,H',I,q⟩:=h;exact⟨Ĺ,H',I.unwish,q⟩
 |ret u=>obtain⟨v,Ĺ,H',I,r,q⟩:=h;exact⟨v,Ĺ,H',I.unwish,r,q⟩
variable {e:Expr}
theorem PE.nox{t:TE}(h:PE X.nox e t):PE X e t:=fun À s σ H Q I hw =>
 Ĉ (h À s σ H Q (I.wish _) hw) (fun _ _ ⟨v,H',I',r,q⟩=>⟨v,H',I'.unwish,r,q⟩) fun _ _ z=>ĉ z
theorem PT.nox{t:TT}(h:PT X.nox e t):PT X e t:=fun À s σ H Q I hw =>
 Ĉ (h À s σ H Q (I.wish _) hw) (fun _ _ ⟨H',I',q⟩=>⟨H',I'.unwish,q⟩) fun _ _ z=>ĉ z
theorem PSs.nox{st:List Ě}{t:TS}(h:PSs X.nox st t):PSs X st t:=fun À s σ H D I hw =>
 Ĉ (h À s σ H D (I.wish _) hw) (fun _ _ q=>q.unwish) fun _ _ z=>ĉ z
end
section
variable {X:Cx}{st:Ě}{rest:List Ě}{t u:TS}{e:Expr}{te:TE}{ë:Pos}
noncomputable def E4:TS:=fun D σ H=>D.nx σ H
noncomputable def GR(t u:TS):TS:=fun D σ H=>t {D with nx:=u D} σ H
theorem pss_nil:PSs X [] E4:=fun _ _ σ H _ I h=>ĺ ⟨σ,H,I,h⟩
theorem UT(h1:PS X st t)(h2:PSs X rest u):PSs X (st::rest)<|GR t u:=by
 intro À s σ H D I h;refine ϥ<|thn (h1 À s σ H {D with nx:=u D} I h) fun f s1 q=>?_;cases f with
 |next =>obtain⟨Ĺ,H',I',q⟩:=q;exact h2 À s1 Ĺ H' D I' q
 |ret v=>exact q
 |brk=>exact q
 |cont=>exact q
theorem Inv.quiet{À:List (Ä×Obj)}{σ:St}{H:Hp}{s:Â}(I:Inv X À σ H s):interactive X.env=false:=by simp[interactive,I.ok.kind]
noncomputable def FH(te:TE):TS:=fun D σ H=>te σ H fun _ H1=>D.nx σ H1
theorem Au(he:PE X e te)(hs:Ŏ e none ë.line X.env=pure false:=by rfl):PS X (.Expr e ë)<|FH te:=by intro À s σ H D I h;exact wpAny_Expr_any (thn (he À s σ H _ I h) fun v s1 ⟨x,H1,I1,r1,q1⟩=>⟨σ,H1,I1,q1⟩) I.quiet hs
noncomputable def GF(te:TE):TS:=fun D σ H=>te σ H D.rt
theorem Cz(he:PE X e te):PS X (.Return (some e) ë)<|GF te:=by intro À s σ H D I h;exact wpAny_Return_some (thn (he À s σ H _ I h) fun v s1 ⟨x,H1,I1,r1,q1⟩=>⟨x,σ,H1,I1,r1,q1⟩)
noncomputable def GI(c:TT)(t u:TS):TS:=fun D σ H=>c σ H fun b H1=>if b=true then t D σ H1 else u D σ H1
theorem Gg{c:Expr}{a b:List Ě}{tc:TT}(hc:PT X c tc)(ha:PSs X a t)(hb:PSs X b u):PS X (.If c a b ë)<|GI tc t u:=by
 intro À s σ H D I h;refine wpAny_If<|thn (hc À s σ H _ I h) fun d s1 ⟨H1,I1,q1⟩=>?_;cases d with
 |true=>exact ha À s1 σ H1 D I1 q1
 |false=>exact hb À s1 σ H1 D I1 q1
end
noncomputable abbrev TG:=V->St->Hp->(St->Hp->Prop)->Prop
noncomputable abbrev TGs:=List V->St->Hp->(St->Hp->Prop)->Prop
def PG(X:Cx)(Ξ:Expr)(t:TG):Prop :=
 ∀(À:List<|Ä×Obj) (s:Â) (σ:St) (H:Hp) (v:V) (u:Á) (Q:St->Hp->Prop),Inv X À σ H s->RelV v u->t v σ H Q->
  wpAny (Ö X.prog X.w) X.A (Ÿ Ξ X.env u) (fun _ s'=>∃Ĺ H',Inv X À Ĺ H' s'/\Q Ĺ H') X.xe s
def PGs(X:Cx)(ts:List Expr)(t:TGs):Prop :=
 ∀(À:List<|Ä×Obj) (s:Â) (σ:St) (H:Hp) (vs:List V) (us:List Á) (Q:St->Hp->Prop),Inv X À σ H s->Vals vs us->t vs σ H Q->
  wpAny (Ö X.prog X.w) X.A (assignInOrder ((ē ts X.env).map (·.2)) us) (fun _ s'=>∃Ĺ H',Inv X À Ĺ H' s'/\Q Ĺ H') X.xe s
noncomputable abbrev Hr:=V->V->V->Hp->(Hp->Prop)->Prop
def PSet(X:Cx)(t:Hr):Prop :=
 ∀(À:List<|Ä×Obj) (s:Â) (σ:St) (H:Hp) (o i v:V) (ov iv u:Á) (Q:Hp->Prop),Inv X À σ H s->RelV o ov->RelV i iv->RelV v u->t o i v H Q->
  wpAny (Ö X.prog X.w) X.A (setItem ov iv u) (fun _ s'=>∃H',Inv X À σ H' s'/\Q H') X.xe s
section
variable {X:Cx}{ë:Pos}
noncomputable def B8(i:Nat):TG:=fun v σ H Q=>Q (σ.set i<|some v) H
theorem Me{i:Nat}{x:Str}(hN:X.N.Nodup)(hi:X.N[i]?=some x)(hx:Loc X.env.scope x)(hf:X.fn x=true\/X.env.scope.names.lookup x=some .local:=by first|exact .inl rfl|exact .inr rfl|assumption):PG X (.Name x ë)<|B8 i:=by intro À s σ H v u Q I r h;exact wpAny_assign_Name (XO I hN hi hx r (fun s' I'=>⟨_,H,I',h⟩) hf)
noncomputable def Gz:TGs:=fun vs σ H Q=>vs=[]/\Q σ H
noncomputable def Ga(t:TG)(u:TGs):TGs:=fun vs σ H Q=>∃v r,vs=v::r/\t v σ H fun Ĺ H'=>u r Ĺ H' Q
theorem pgs_nil:PGs X [] Gz:=by intro À s σ H vs us Q I r h;obtain⟨e,h⟩:=h;subst e;cases r;exact assignInOrder_nil ⟨σ,H,I,h⟩
variable {e:Expr} {es:List Expr}
theorem Wb{t:TG}{u:TGs}(h1:PG X e t)(h2:PGs X es u)
  (hs:(ē (e::es) X.env).map (·.2)=Ÿ e X.env::(ē es X.env).map (·.2):=by rfl):PGs X (e::es)<|Ga t u:=by
 intro À s σ H vs us Q I r h;obtain⟨v,vr,e1,h⟩:=h;subst e1;cases r with
 |cons r rr =>rw[hs];refine assignInOrder_cons<|thn (h1 À s σ H _ _ _ I r h) fun _ s1 ⟨σ1,H1,I1,q1⟩=>?_;exact h2 À s1 σ1 H1 _ _ Q I1 rr q1
noncomputable def GW(K:PySem.W.Frag)(n:Nat)(t:TGs):TG:=fun v σ H Q=>∃a xs,v=.ref a/\SqT K H a xs/\xs.length=n/\t xs σ H Q
theorem OE{k:Nat}{t:TGs}{n:Nat}(hc:X.calm=true)(h:PGs X es t)
  (hn:(ē es X.env).length=n:=by rfl) (ņ:(ē es X.env).findIdx? (·.1)=none:=by rfl):PG X (.Tuple es k ë)<|GW X.K n t:=by
 intro À s σ H v u Q I r hw;obtain⟨a,xs,e1,hq,hl,hw⟩:=hw;subst e1;cases r;obtain⟨ò,rv,ht,hz⟩:=I.tuple hq;refine assign_Tuple_tuple (I.ok.hd hc) ht (by simp[hn,<-hl,rv.length]) ņ fun h' hx=>?_;have I1:Inv X À σ H {s with heap:=h'}:=I.kept (t':=s.toks) fun b o e=>hx b o (î<|Õ e) e;exact h À _ σ H xs _ Q I1 (by simpa using rv) hw
noncomputable def Fy(te:TE)(g:TG):TS:=fun D σ H=>te σ H fun x H1=>g x σ H1 D.nx
theorem DJ{tg:Expr}{te:TE}{g:TG}(he:PE X e te)(hg:PG X tg g)(hs:bb [tg] e ë.line X.env=pure false:=by rfl)(hw:bc [tg] e X.env=pure none:=by rfl)
  (h1:(ē [tg] X.env).map (·.2)=[Ÿ tg X.env]:=by rfl):PS X (.Assign [tg] e ë)<|Fy te g:=by
 intro À s σ H D I h;refine wpAny_Assign_stores (thn (he À s σ H _ I h) fun v s1 ⟨x,H1,I1,r1,q1⟩=>?_) hs hw;rw[h1];exact thn (hg À s1 σ H1 x v _ I1 r1 q1) fun _ s2 q=>q
def PGet(X:Cx)(t:V->V->Hp->VK->Prop):Prop :=
 ∀(À:List<|Ä×Obj) (s:Â) (σ:St) (H:Hp) (o i:V) (ov iv:Á) (Q:VK),Inv X À σ H s->RelV o ov->RelV i iv->t o i H Q->
  wpAny (Ö X.prog X.w) X.A (θ ov iv) (EP X À σ Q) X.xe s
end
section
variable {X:Cx}{ë:Pos}
noncomputable def CN(c:TT)(tb:TS):TS:=fun D σ H=>∃W:Nat->St->Hp->Prop,(∃m,W m σ H)/\∀m σ H,W m σ H->
 c σ H fun b H1=>if b=true then ∃N:St->Hp->Prop,(∀Ĺ H',N Ĺ H'->∃m',m'<m/\W m' Ĺ H')/\tb {D with nx:=N,ct:=N,bk:=D.nx} σ H1 else D.nx σ H1
theorem O1{c:Expr}{body:List Ě}{tc:TT}{tb:TS}(hp:Ϧ (Ö X.prog X.w) X.A X.env X.xe)(hc:PT X c tc)(hb:PSs X body tb):PS X (.While c body [] ë)<|CN tc tb:=by
 intro À s σ H D I h;obtain⟨W,⟨m0,w0⟩,turn⟩:=h;refine wpAny_While<|codeAny_whileLoop (fun n s'=>∃Ĺ H',Inv X À Ĺ H' s'/\W n Ĺ H') ?_ m0 ⟨σ,H,I,w0⟩;rintro n s1 ⟨σ1,H1,I1,w1⟩;refine Ļ hp<|thn (hc À s1 σ1 H1 _ I1<|turn n σ1 H1 w1) fun b s2 ⟨H2,I2,q2⟩=>?_;cases b with
 |true =>
  obtain⟨N,hN,q2⟩:=q2;rw[if_pos rfl];refine Ļ hp<|thn (hb À s2 σ1 H2 _ I2 q2) fun f s3 q3=>?_;cases f with
  |next =>obtain⟨Ϫ,H3,I3,n3⟩:=q3;obtain⟨m',hm,w3⟩:=hN Ϫ H3 n3;exact⟨m',hm,Ϫ,H3,I3,w3⟩
  |cont =>obtain⟨Ϫ,H3,I3,n3⟩:=q3;obtain⟨m',hm,w3⟩:=hN Ϫ H3 n3;exact⟨m',hm,Ϫ,H3,I3,w3⟩
  |brk=>exact q3
  |ret v=>exact q3
 |false =>rw[if_neg ú];exact ĺ ⟨σ1,H2,I2,q2⟩
end
structure It where
 go:Nat->Hp->Prop
 yld:Nat->Hp->V->Hp->Prop
 stop:Nat->Hp->Prop
def Y4(X:Cx)(À:List<|Ä×Obj)(H:Hp)(b:Ä):Prop :=
 H b=none/\b≠X.env.locals/\b∉X.fs/\(b∈X.ex\/X.s₀.heap.objs.size<=b)/\(∀x c,X.env.cells.lookup x=some c->c≠b)/\∀p∈X.pn++À,p.1≠b
variable {s:Â}
theorem Inv.fpOk{À:List (Ä×Obj)}{σ:St}{H H':Hp}{b:Ä}(I:Inv X À σ H s)(hb:s.heap.objs.size<=b)(hn:H' b=none):Y4 X À H' b:=by
 refine⟨hn,ap<|Þ I.lt hb,I.nofs hb,.inr<|Ç I.sz hb,fun x c e z=>?_,fun p hp z=>?_⟩
 .obtain⟨v,q⟩:=I.cell x c e;exact absurd (Þ q.lt<|by rw[z];exact hb)<|ĩ _
 .exact absurd (Þ (Õ (I.pin p hp).1)<|by rw[z];exact hb)<|ĩ _
structure Turn(P:à)(w:þ)(K:PySem.W.Frag)(tg:Expr)(J:It)(fp:List Ä)(it:Ä)(tn:Nat->ô->Prop):Prop where
 mem:it∈fp
 obj:∀i h,tn i h->∀b∈fp,∃o,h.get? b=some o/\∀v,o.data≠.cell v
 keep:∀i h h',tn i h->(∀b∈fp,∀o,h.get? b=some o->h'.get? b=some o)->tn i h'
 item:∀(X:Cx),X.prog=P->X.w=w->X.K=K->X.calm=true->∀(i:Nat) (À:List<|Ä×Obj) (s:Â) (σ:St) (H:Hp) (E:Á->Â->Prop),Inv X À σ H s->(∀b∈fp,Y4 X À H b)->tn i s.heap->J.go i H->
  wpAny (Ö P w) X.A (Η<|.ref it) (fun r s1=>∃u,r=some u/\
    wpAny (Ö P w) X.A (Ţ tg (.ref it) u) (fun _ s2=>∃x H',Inv X À σ H' s2/\RelV x u/\J.yld i H x H'/\tn (i+1) s2.heap/\∀b∈fp,H' b=none) E s1) E s
 done:∀(X:Cx),X.prog=P->X.w=w->X.K=K->X.calm=true->∀(i:Nat) (À:List<|Ä×Obj) (s:Â) (σ:St) (H:Hp) (E:Á->Â->Prop),Inv X À σ H s->(∀b∈fp,Y4 X À H b)->tn i s.heap->J.stop i H->
  wpAny (Ö P w) X.A (Η<|.ref it) (fun r s1=>r=none/\Inv X À σ H s1) E s
 self:∀(A:ć) (i:Nat) (s:Â) (Q:Á->Â->Prop) (E:Á->Â->Prop),tn i s.heap->Q (.ref it) s->wpAny (Ö P w) A (pyIter<|.ref it) Q E s
noncomputable abbrev TI:=St->Hp->(It->Hp->Prop)->Prop
def PIE(X:Cx)(À:List<|Ä×Obj)(σ:St)(tg:Expr)(R:It->Hp->Prop)(itv:Á)(s2:Â):Prop :=
 ∃(it:Ä) (fp:List Ä) (tn:Nat->ô->Prop) (J:It) (H':Hp),itv=.ref it/\Inv X À σ H' s2/\Turn X.prog X.w X.K tg J fp it tn/\tn 0 s2.heap/\(∀b∈fp,Y4 X À H' b)/\R J H'
def PI(X:Cx)(tg Ŗ:Expr)(wi:TI):Prop :=
 ∀(À:List<|Ä×Obj) (s:Â) (σ:St) (H:Hp) (R:It->Hp->Prop),Inv X À σ H s->wi σ H R->
  wpAny (Ö X.prog X.w) X.A (eval Ŗ X.env) (fun v s1=>wpAny (Ö X.prog X.w) X.A (pyIter v) (PIE X À σ tg R) X.xe s1) X.xe s
variable {tg:Expr}
theorem go_of{M:bw}{A:ć}{E:Á->Â->Prop}{it:Ä}{o:Obj}{n:String}{vs:Array Á}{Q:Unit->Â->Prop}(ho:s.heap.get? it=some o)(hc:o.cls=.type n)(hd:o.data=.fields vs)
  (hn:["enumerate","zip","dict_itemiterator","dict_reverseitemiterator","odict_iterator","itertools.zip_longest","itertools.pairwise"].contains n=false) (hQ:Q () s):wpAny M A (Ţ tg (.ref it) u) Q E s:=by
 unfold Ţ;cases tg<;>first
  |exact Ñ hQ
  | (cases u<;>first
      |exact Ñ hQ
      | (refine Ã (wpAny_load ho ?_)
         rw[hc,hd]
         show wpAny M A (if(["enumerate","zip","dict_itemiterator","dict_reverseitemiterator","odict_iterator","itertools.zip_longest","itertools.pairwise"].contains n&&vs[0]? == some (bK _))=true then _ else _) Q E s
         rw[if_neg<|by intro h;rw[hn,Ϟ]at h;cases h]
         exact Ñ hQ))
noncomputable def Itl(K:PySem.W.Frag)(a:Ä):It :=
 ⟨fun i H=>∃xs x,SqL K H a xs/\xs[i]?=some x,fun i H x H'=>H'=H/\∀xs,SqL K H a xs->xs[i]?=some x,fun i H=>∃xs,SqL K H a xs/\xs.length<=i⟩
noncomputable def Itt(K:PySem.W.Frag)(a:Ä):It :=
 ⟨fun i H=>∃xs x,SqT K H a xs/\xs[i]?=some x,fun i H x H'=>H'=H/\∀xs,SqT K H a xs->xs[i]?=some x,fun i H=>∃xs,SqT K H a xs/\xs.length<=i⟩
noncomputable def Itr(lo:Int)(n:Nat):It:=⟨fun i _=>i<n,fun i H x H'=>H'=H/\x=.int (lo+i),fun i _=>n<=i⟩
variable {P:à} {w:þ}
theorem M9{K:PySem.W.Frag}(a it:Ä):Turn P w K tg (Itl K a) [it] it (fun i h=>h.IsListIter it a i) where
 mem:=by simp
 obj:=fun i h st b hb=>by
  have e:b=it:=by simpa using hb
  subst e;obtain⟨o,e,c,d⟩:=st;exact⟨o,e,fun v z=>by rw[d]at z;cases z⟩
 keep:=fun i h h' st k=>st.at fun o e=>k it (by simp) o e
 item:=by intro X hP hw hK hc i À s σ H E I hf st hg;subst hP hw hK;obtain⟨xs,x,hq,hx⟩:=hg;obtain⟨ò,rv,p,hz⟩:=I.list hq;obtain⟨u,hu,ru⟩:=rv.get hx;obtain⟨f0,f1,f2,f3,f4,f5⟩:=hf it (by simp);refine wpAny_pyNext_list_item st p.isList (x:=u) (by simpa using hu) fun h' aW sb=>?_;have I1:Inv X À σ H {s with heap:=h'}:=I.turned (t':=s.toks) (fun b o hb e=>(sb.2 b hb).trans e) f0 f1 f3 f4 f5;obtain⟨o,e,c,d⟩:=id aW;exact⟨u,rfl,go_of (s:={s with heap:=h'}) e c d (by decide) ⟨x,H,I1,ru,⟨rfl,fun ys hy=>by rw[I.list_inj hy hq];exact hx⟩,aW,fun b hb=>(hf b hb).1⟩⟩
 done:=by intro X hP hw hK hc i À s σ H E I hf st hg;subst hP hw hK;obtain⟨xs,hq,hx⟩:=hg;obtain⟨ò,rv,p,hz⟩:=I.list hq;obtain⟨f0,f1,f2,f3,f4,f5⟩:=hf it (by simp);have hl:=rv.length;exact wpAny_pyNext_list_end (I.ok.hd hc) st p.isList (by simp;omega) fun h' eb=>⟨rfl,I.turned (t':=s.toks) (fun b o hb e=>eb b o hb e) f0 f1 f3 f4 f5⟩
 self:=fun _ _ _ _ _ st h=>wpAny_pyIter_listiter st h
theorem Kt{K:PySem.W.Frag}(a it:Ä):Turn P w K tg (Itt K a) [it] it (fun i h=>h.IsTupleIter it a i) where
 mem:=by simp
 obj:=fun i h st b hb=>by
  have e:b=it:=by simpa using hb
  subst e;obtain⟨o,e,c,d⟩:=st;exact⟨o,e,fun v z=>by rw[d]at z;cases z⟩
 keep:=fun i h h' st k=>st.at fun o e=>k it (by simp) o e
 item:=by intro X hP hw hK hc i À s σ H E I hf st hg;subst hP hw hK;obtain⟨xs,x,hq,hx⟩:=hg;obtain⟨ò,rv,p,hz⟩:=I.tuple hq;obtain⟨u,hu,ru⟩:=rv.get hx;obtain⟨f0,f1,f2,f3,f4,f5⟩:=hf it (by simp);refine wpAny_pyNext_tuple_item st (show s.heap.IsTuple a ò.toArray from p) (x:=u) (by simpa using hu) fun h' aW sb=>?_;have I1:Inv X À σ H {s with heap:=h'}:=I.turned (t':=s.toks) (fun b o hb e=>(sb.2 b hb).trans e) f0 f1 f3 f4 f5;obtain⟨o,e,c,d⟩:=id aW;exact⟨u,rfl,go_of (s:={s with heap:=h'}) e c d (by decide) ⟨x,H,I1,ru,⟨rfl,fun ys hy=>by rw[I.tuple_inj hy hq];exact hx⟩,aW,fun b hb=>(hf b hb).1⟩⟩
 done:=by intro X hP hw hK hc i À s σ H E I hf st hg;subst hP hw hK;obtain⟨xs,hq,hx⟩:=hg;obtain⟨ò,rv,p,hz⟩:=I.tuple hq;obtain⟨f0,f1,f2,f3,f4,f5⟩:=hf it (by simp);have hl:=rv.length;exact wpAny_pyNext_tuple_end (I.ok.hd hc) st (show s.heap.IsTuple a ò.toArray from p) (by simp;omega) fun h' eb=>⟨rfl,I.turned (t':=s.toks) (fun b o hb e=>eb b o hb e) f0 f1 f3 f4 f5⟩
 self:=fun _ _ _ _ _ st h=>wpAny_pyIter_tupleiter st h
theorem KQ{K:PySem.W.Frag}(it:Ä)(lo:Int)(n:Nat):Turn P w K tg (Itr lo n) [it] it (fun i h=>IsRangeIter h it (lo+(i:Nat)*1) ((n:Int) - (i:Nat)) 1) where
 mem:=by simp
 obj:=fun i h st b hb=>by
  have e:b=it:=by simpa using hb
  subst e;exact⟨_,st,fun v z=>by
    have z':Data.fields _=Data.cell v:=z
    cases z'⟩
 keep:=fun i h h' st k=>k it (by simp) _ st
 item:=by intro X hP hw hK hc i À s σ H E I hf st hg;subst hP hw hK;obtain⟨f0,f1,f2,f3,f4,f5⟩:=hf it (by simp);have W:=Walks.range (prog:=X.prog) (w:=X.w) (I.ok.hd hc) it lo 1 n;refine W.item i s _ _ hg st fun v h' tk hv aW kk=>?_;obtain⟨t,rfl⟩:=hv;have I1:Inv X À σ H {s with heap:=h',toks:=tk}:=I.turned (fun b o hb e=>kk b o (by simpa using hb) e) f0 f1 f3 f4 f5;refine⟨_,rfl,go_of (s:={s with heap:=h',toks:=tk}) (n:="range_iterator") aW rfl rfl (by decide) ⟨.int<|lo+i,H,I1,⟨t,?_⟩,⟨rfl,rfl⟩,aW,fun b hb=>(hf b hb).1⟩⟩;rw[Int.mul_one]
 done:=by intro X hP hw hK hc i À s σ H E I hf st hg;subst hP hw hK;obtain⟨f0,f1,f2,f3,f4,f5⟩:=hf it (by simp);exact wpAny_pyNext_range_end (I.ok.hd hc) st (by have:n<=i:=hg;omega) fun h' eb=>⟨rfl,I.turned (t':=s.toks) (fun b o hb e=>eb b o hb e) f0 f1 f3 f4 f5⟩
 self:=fun _ _ _ _ _ st h=>wpAny_pyIter_rangeiter st h
section
variable {X:Cx}{tg:Expr}
variable {À:List (Ä×Obj)} {σ:St} {H:Hp} {s:Â}
theorem OQ{R:It->Hp->Prop}{E:Á->Â->Prop}{lo hi:Int}{t u v:Tok}{tk:Nat}(I:Inv X À σ H s)(h1:-(2 ^ 62)<=lo)(h2:lo<2 ^ 62)(h3:-(2 ^ 62)<=hi)(h4:hi<2 ^ 62)
  (q:R (Itr lo (hi - lo).toNat) H):wpAny (Ö X.prog X.w) X.A (pyIter<|.ref s.heap.objs.size) (PIE X À σ tg R) E {s with heap:=s.heap.push {cls:=.type "range",data:=.fields #[.int lo t,.int hi u,.int 1 v]},toks:=tk}:=by
 refine wpAny_pyIter_range (IsRange.new ..) (small_one h1 h2 h3 h4) ?_;have I1:Inv X À σ H { s with heap:=s.heap.push { cls:=.type "range",data:=.fields #[.int lo t,.int hi u,.int 1 v] },toks:=tk }:=I.kept fun b o e=>Ì _ e;refine⟨(s.heap.push { cls:=.type "range",data:=.fields #[.int lo t,.int hi u,.int 1 v] }).objs.size,[(s.heap.push { cls:=.type "range",data:=.fields #[.int lo t,.int hi u,.int 1 v] }).objs.size],_,_,H,rfl,
   I1.kept (t':=tk) fun b o e=>Ì _ e,KQ _ lo (hi - lo).toNat,?_,fun b hb=>?_,q⟩
 .have e1:lo+((0:Nat):Int)*1=lo:=by simp
  have e2:(((hi - lo).toNat:Nat):Int) - ((0:Nat):Int)=Builtin.Range.rangeSize lo hi 1:=by rw[rangeSize_one];split<;>omega
  show IsRangeIter _ _ (lo+((0:Nat):Int)*1) ((((hi - lo).toNat:Nat):Int) - ((0:Nat):Int)) 1;rw[e1,e2];exact è _ rfl
 .have e:b=(s.heap.push {cls:=.type "range",data:=.fields #[.int lo t,.int hi u,.int 1 v]}).objs.size:=by simpa using hb
  subst e;exact I1.fpOk (Ø _)<|I1.hok.fresh<|Ø _
noncomputable def EF(ta:TA):TI:=fun σ H R=>ta σ H fun vs H1=>∃j:Int,vs=[.int j]/\-(2 ^ 62)<=j/\j<2 ^ 62/\R (Itr 0 j.toNat) H1
variable {ë:Pos}
theorem Nw{a:Expr}{ta:TA}{p:Pos}(hg:Gl X "range")(hm:X.mg "range" = none)(ha:PA X [a] ta)(hs:Ð [a] X.env=[(false,eval a X.env)]:=by rfl):PI X tg (.Call (.Name "range" p) [a] [] ë)<|EF ta:=by
 intro À s σ H R I h;refine Call_<|W5 I hg hm boot_range<|PyProof.Rows.callWith_type1 (thn (ha ë À s σ H _ I h) fun us s1 ⟨vs,H1,I1,r1,q1⟩=>?_) hs rfl;obtain⟨j,e,q1,q2,q⟩:=q1;subst e;cases r1 with
 |cons r rr =>cases rr;obtain⟨t,rfl⟩:=r;exact call_range_1 (OQ I1 (by omega) (by omega) q1 q2<|by simpa using q)
noncomputable def GA(wi:TI)(g:TG)(tb:TS):TS:=fun D σ H=>wi σ H fun J H1=>∃W:Nat->Nat->St->Hp->Prop,(∃m,W 0 m σ H1)/\∀i m σ H,W i m σ H->
 (J.stop i H/\D.nx σ H)\/(J.go i H/\∃N:St->Hp->Prop,(∀Ĺ H',N Ĺ H'->∃m',m'<m/\W (i+1) m' Ĺ H')/\∀x H',J.yld i H x H'->g x σ H' fun σ2 H2=>tb {D with nx:=N,ct:=N,bk:=D.nx} σ2 H2)
noncomputable def Yy(fp:List Ä)(h:ô):List<|Ä×Obj:=fp.filterMap fun b=>(h.get? b).map fun o=>(b,o)
variable {fp:List Ä} {h:ô}
theorem ZF{b:Ä}{o:Obj}(hb:b∈fp)(e:h.get? b=some o):(b,o)∈Yy fp h:=Β.mpr ⟨b,hb,by rw[e];rfl⟩
theorem Wq{p:Ä×Obj}(hp:p∈Yy fp h):p.1∈fp/\h.get? p.1=some p.2:=by
 obtain⟨b,hb,e⟩:=Β.mp hp;cases q:h.get? b with
 |none=>rw[q]at e;cases e
 |some o =>rw[q]at e;have e':(b,o)=p:=Ā e;subst e';exact⟨hb,q⟩
theorem Inv.pinned(I:Inv X À σ H s)(hf:∀b∈fp,Y4 X À H b)(ho:∀b∈fp,∃o,s.heap.get? b=some o/\∀v,o.data≠.cell v):Inv X (À++Yy fp s.heap) σ H s :=
 I.pins_of fun p hp=>(ö.mp hp).elim (fun z=>I.pin p<|Ò _ z) fun z=>by obtain⟨hb,e⟩:=Wq z;obtain⟨f0,f1,f2,_⟩:=hf p.1 hb;obtain⟨o,e',d⟩:=ho p.1 hb;rw[e]at e';cases e';exact⟨e,f0,f1,f2,d⟩
theorem Inv.unpinned{pl:List (Ä×Obj)}(I:Inv X (À++pl) σ H s):Inv X À σ H s:=I.pins_of fun p hp=>I.pin p (Ò _<|Ľ _ hp)
theorem D0{Ŗ:Expr}{body:List Ě}{wi:TI}{g:TG}{tb:TS}(hp:Ϧ (Ö X.prog X.w) X.A X.env X.xe)(hc:X.calm=true)(hi:PI X tg Ŗ wi)(hg:PG X tg g)(hb:PSs X body tb)
  (hs:∀x,ī Ŗ X.env x=pure x:=by intro _;rfl):PS X (.For tg Ŗ body [] ë)<|GA wi g tb:=by
 intro À s σ H D I h;refine wpAny_For (thn (hi À s σ H _ I h) fun v s1 h1=>thn h1 fun itv s2 h2=>?_) hs;obtain⟨it,fp,tn,J,H2,e,I2,T,st2,f2,W,⟨m0,w0⟩,turn⟩:=h2;subst e;have stat:∀{H':Hp},(∀b∈fp,H' b=none)->∀b∈fp,Y4 X À H' b:=fun hn b hb=>⟨hn b hb,(f2 b hb).2⟩
 refine codeAny_forLoop_any (fun n s'=>∃i Ĺ H',Inv X À Ĺ H' s'/\tn i s'.heap/\(∀b∈fp,H' b=none)/\W i n Ĺ H') ?_ m0 ⟨0,σ,H2,I2,st2,fun b hb=>(f2 b hb).1,w0⟩;rintro n s3 ⟨i,Ϫ,H3,I3,st3,fr3,w3⟩;rcases turn i n Ϫ H3 w3 with⟨stop,qn⟩|⟨go,N,hN,step⟩
 .refine Ļ hp<|thn (T.done X rfl rfl rfl hc i À s3 Ϫ H3 X.xe I3 (stat fr3) st3 stop) fun r s4 ⟨hr,I4⟩=>?_;subst hr;exact ĺ ⟨Ϫ,H3,I4,qn⟩
 .refine Ļ hp<|thn (T.item X rfl rfl rfl hc i À s3 Ϫ H3 X.xe I3 (stat fr3) st3 go) fun r s4 ⟨u,hr,h4⟩=>?_;subst hr;refine Ļ hp<|thn h4 fun _ s5 ⟨x,H5,I5,r5,y5,st5,fr5⟩=>?_;have I5':=I5.pinned (stat fr5)<|T.obj _ _ st5;refine Ļ hp<|thn (hg _ s5 Ϫ H5 x u _ I5' r5<|step x H5 y5) fun _ s6 ⟨σ6,H6,I6,q6⟩=>?_;refine Ļ hp<|thn (hb _ s6 σ6 H6 _ I6 q6) fun f s7 q7=>?_;have again:∀{ϫ:St}{H7:Hp},Inv X (À++Yy fp s5.heap) ϫ H7 s7->N ϫ H7->∃m,m<n/\∃i Ĺ H',Inv X À Ĺ H' s7/\tn i s7.heap/\(∀b∈fp,H' b=none)/\W i m Ĺ H':=fun{ϫ H7} I7 n7=>by
   obtain⟨m',hm,w7⟩:=hN ϫ H7 n7;refine⟨m',hm,i+1,ϫ,H7,I7.unpinned,T.keep _ _ _ st5 fun b hb o e=>(I7.pin (b,o)<|Ò _<|Ò _<|ZF hb e).1,fun b hb=>?_,w7⟩;obtain⟨o,e,d⟩:=T.obj _ _ st5 b hb;exact(I7.pin (b,o)<|Ò _<|Ò _<|ZF hb e).2.1
  cases f with
  |next=>obtain⟨ϫ,H7,I7,n7⟩:=q7;exact again I7 n7
  |cont=>obtain⟨ϫ,H7,I7,n7⟩:=q7;exact again I7 n7
  |brk=>obtain⟨ϫ,H7,I7,q7⟩:=q7;exact⟨ϫ,H7,I7.unpinned,q7⟩
  |ret v=>obtain⟨x7,ϫ,H7,I7,r7,q7⟩:=q7;exact⟨x7,ϫ,H7,I7.unpinned,r7,q7⟩
end
noncomputable abbrev R2:=V->V->Hp->VK->Prop
def OpR(X:Cx)(f:Á->Á->Sem Á)(r:R2):Prop :=
 ∀(À:List<|Ä×Obj) (s:Â) (σ:St) (H:Hp) (x y:V) (v u:Á) (Q:VK),Inv X À σ H s->RelV x v->RelV y u->r x y H Q->
  wpAny (Ö X.prog X.w) X.A (f v u) (EP X À σ Q) X.xe s
def UnR(X:Cx)(f:Á->Sem Á)(r:V->Hp->VK->Prop):Prop :=
 ∀(À:List<|Ä×Obj) (s:Â) (σ:St) (H:Hp) (x:V) (v:Á) (Q:VK),Inv X À σ H s->RelV x v->r x H Q->
  wpAny (Ö X.prog X.w) X.A (f v) (EP X À σ Q) X.xe s
def CallR(X:Cx)(f:Á)(r:List V->Hp->VK->Prop):Prop :=
 ∀(À:List<|Ä×Obj) (s:Â) (σ:St) (H:Hp) (xs:List V) (us:List Á) (Q:VK),Inv X À σ H s->Vals xs us->r xs H Q->
  wpAny (Ö X.prog X.w) X.A (call f us) (EP X À σ Q) X.xe s
def HH(X:Cx)(r:V->Hp->(Bool->Hp->Prop)->Prop):Prop :=
 ∀(À:List<|Ä×Obj) (s:Â) (σ:St) (H:Hp) (x:V) (v:Á) (Q:Bool->Hp->Prop),Inv X À σ H s->RelV x v->r x H Q->
  wpAny (Ö X.prog X.w) X.A (truthy v) (TP X À σ Q) X.xe s
noncomputable def tOp(r:R2)(ta tb:TE):TE:=fun σ H Q=>ta σ H fun x H1=>tb σ H1 fun y H2=>r x y H2 Q
noncomputable def tUn(r:V->Hp->VK->Prop)(ta:TE):TE:=fun σ H Q=>ta σ H fun x H1=>r x H1 Q
noncomputable def rI(C:Int->Int->Prop)(g:Int->Int->V):R2:=fun x y H Q=>∃i j,x=.int i/\y=.int j/\C i j/\Q (g i j) H
noncomputable def rI0(g:Int->Int->V):R2:=fun x y H Q=>∃i j,x=.int i/\y=.int j/\Q (g i j) H
def rU(g:Int->V):V->Hp->VK->Prop:=fun x H Q=>∃i,x=.int i/\Q (g i) H
section
variable {X:Cx}{a b c:Expr}{ta tb tc:TE}{ë:Pos}
variable {f:Á->Á->Sem Á}
theorem EB(ha:PE X a ta)(hb:PE X b tb){À:List (Ä×Obj)}{s:Â}{σ:St}{H:Hp}{R:V->V->Hp->Prop}(I:Inv X À σ H s)
  (h:ta σ H fun x H1=>tb σ H1 fun y H2=>R x y H2){Q:Á->Â->Prop} 
  (hf:∀v u s2 x y H2,Inv X À σ H2 s2->RelV x v->RelV y u->R x y H2->wpAny (Ö X.prog X.w) X.A (f v u) Q X.xe s2) :
  wpAny (Ö X.prog X.w) X.A (eval a X.env) (fun v ě=>wpAny (Ö X.prog X.w) X.A (eval b X.env) (fun u ϸ=>wpAny (Ö X.prog X.w) X.A (f v u) Q X.xe ϸ) X.xe ě) X.xe s:=by
 refine thn (ha À s σ H _ I h) fun v s1 ⟨x,H1,I1,r1,q1⟩=>?_;refine thn (hb À s1 σ H1 _ I1 q1) fun u s2 ⟨y,H2,I2,r2,q2⟩=>?_;exact hf v u s2 x y H2 I2 r1 r2 q2
theorem EO{op:Operator}{r:R2}(ho:OpR X (Ĭ op) r)(ha:PE X a ta)(hb:PE X b tb):PE X (.BinOp a op b ë)<|tOp r ta tb:=by intro À s σ H Q I h;exact wpAny_BinOp (EB ha hb I h fun v u s2 x y H2 I2 rx ry q=>ho À s2 σ H2 x y v u Q I2 rx ry q)
theorem Gk{op:UnaryOp}{r:V->Hp->VK->Prop}(ho:UnR X (unaryOp op) r)(ha:PE X a ta):PE X (.UnaryOp op a ë)<|tUn r ta:=by intro À s σ H Q I h;exact UnaryOp_ (thn (ha À s σ H _ I h) fun v s1 ⟨x,H1,I1,r1,q1⟩=>ho À s1 σ H1 x v Q I1 r1 q1)
variable {g:Int->Int->Int}
theorem opI{C:Int->Int->Prop} 
  (rule:∀(i j:Int) (t u:Tok) (s:Â) (Q:Á->Â->Prop) (E:Á->Â->Prop),C i j->Q (.int (g i j) s.toks) {s with toks:=s.toks+1}->wpAny (Ö X.prog X.w) X.A (f (.int i t)<|.int j u) Q E s) :
  OpR X f (rI C fun i j=>.int<|g i j):=by
 intro À s σ H x y v u Q I rx ry h;obtain⟨i,j,rfl,rfl,hc,q⟩:=h;obtain⟨t,rfl⟩:=rx;obtain⟨t',rfl⟩:=ry;exact rule i j t t' s _ _ hc ⟨.int<|g i j,H,I.tok _,⟨_,rfl⟩,q⟩
theorem E1  
  (rule:∀(i j:Int) (t u:Tok) (s:Â) (Q:Á->Â->Prop) (E:Á->Â->Prop),Q (.int (g i j) s.toks) {s with toks:=s.toks+1}->wpAny (Ö X.prog X.w) X.A (f (.int i t)<|.int j u) Q E s) :
  OpR X f (rI0 fun i j=>.int<|g i j):=by
 intro À s σ H x y v u Q I rx ry h;obtain⟨i,j,rfl,rfl,q⟩:=h;obtain⟨t,rfl⟩:=rx;obtain⟨t',rfl⟩:=ry;exact rule i j t t' s _ _ ⟨.int<|g i j,H,I.tok _,⟨_,rfl⟩,q⟩
theorem U5{g:Int->Int->Bool}
  (rule:∀(i j:Int) (t u:Tok) (s:Â) (Q:Á->Â->Prop) (E:Á->Â->Prop),Q (.bool<|g i j) s->wpAny (Ö X.prog X.w) X.A (f (.int i t)<|.int j u) Q E s) :
  OpR X f (rI0 fun i j=>.bl<|g i j):=by
 intro À s σ H x y v u Q I rx ry h;obtain⟨i,j,rfl,rfl,q⟩:=h;obtain⟨t,rfl⟩:=rx;obtain⟨t',rfl⟩:=ry;exact rule i j t t' s _ _ ⟨.bl<|g i j,H,I,rfl,q⟩
def Fz(i j:Int):Prop:=0<j/\j<1073741824
def Fd(i j:Int):Prop:=0<=j/\j<=1000000/\i.natAbs<2 ^ 64
def CMul(i j:Int):Prop:=(-(2 ^ 64)<i/\i<2 ^ 64)\/(-(2 ^ 64)<j/\j<2 ^ 64)
theorem CMul.ok{i j:Int}(h:CMul i j):IntMulOk i j:=by
 rcases h with⟨h1,h2⟩|⟨h1,h2⟩
 .exact .of_left<|ϊ h1 h2
 .exact .of_right<|ϊ h1 h2
theorem op_add:OpR X (Ĭ .Add)<|rI0 fun i j=>.int<|i+j:=E1 fun _ _ _ _ _ _ _ q=>add_int q
theorem Ez:OpR X (Ĭ .Sub)<|rI0 fun i j=>.int<|i - j:=E1 fun _ _ _ _ _ _ _ q=>sub_int q
theorem Ar:OpR X (Ĭ .FloorDiv)<|rI Fz fun i j=>.int<|i / j:=opI fun i j _ _ _ _ _ hc q=>by have h1:(0:Int)<j:=hc.1;have h2:j<1073741824:=hc.2;exact floordiv_int (by omega) (by rw[Int.fdiv_eq_ediv_of_nonneg i<|by omega];exact q) (.inl<|PyProof.noPylong_small<|by omega)
theorem EC:OpR X (Ĭ .Mod)<|rI (fun _ j=>0<j) fun i j=>.int<|i % j:=opI fun i j _ _ _ _ _ hc q=>by have h1:(0:Int)<j:=hc;exact mod_int' (by omega) (by rw[Int.fmod_eq_emod_of_nonneg i<|by omega];exact q)
theorem CA:OpR X (Ĭ .Pow)<|rI Fd fun i j=>.int<|i ^ j.toNat:=opI fun _ _ _ _ _ _ _ hc q=>pow_int_small hc.1 hc.2.1 hc.2.2 q
theorem unI{f:Á->Sem Á}{g:Int->Int}
  (rule:∀(i:Int) (t:Tok) (s:Â) (Q:Á->Â->Prop) (E:Á->Â->Prop),Q (.int (g i) s.toks) {s with toks:=s.toks+1}->wpAny (Ö X.prog X.w) X.A (f<|.int i t) Q E s) :
  UnR X f (rU fun i=>.int<|g i):=by
 intro À s σ H x v Q I rx h;obtain⟨i,rfl,q⟩:=h;obtain⟨t,rfl⟩:=rx;exact rule i t s _ _ ⟨.int<|g i,H,I.tok _,⟨_,rfl⟩,q⟩
theorem DE:UnR X (unaryOp .USub)<|rU fun i=>.int (-i):=unI fun _ _ _ _ _ q=>neg_int q
end
section
variable {X:Cx}{a b c:Expr}{ta tb tc:TE}{ë:Pos}
theorem CI{À:List (Ä×Obj)}{σ:St}{H:Hp}{s:Â}{Q:VK}{k k':Bool}(I:Inv X À σ H s)(q:Q (.bl k) H)(e:k=k'):EP X À σ Q (.bool k') s:=by subst e;exact⟨.bl k,H,I,rfl,q⟩
theorem op_lt:OpR X (Ý .Lt)<|rI0 fun i j=>.bl<|decide (i<j):=U5 fun _ _ _ _ _ _ _ q=>lt_int q
theorem EZ:OpR X (Ý .LtE)<|rI0 fun i j=>.bl<|decide (i<=j):=U5 fun _ _ _ _ _ _ _ q=>le_int q
theorem op_gt:OpR X (Ý .Gt)<|rI0 fun i j=>.bl<|decide (j<i):=U5 fun _ _ _ _ _ _ _ q=>gt_int q
theorem EG:OpR X (Ý .GtE)<|rI0 fun i j=>.bl<|decide (j<=i):=U5 fun _ _ _ _ _ _ _ q=>ge_int q
theorem Nq:OpR X (Ý .In) fun x y H Q=>∃i j,x=.str i/\y=.str j/\Q (.bl (!(Builtin.Str.occurrences j i 0 j.length 1).isEmpty)) H:=by intro À s σ H x y v u Q I rx ry h;obtain⟨i,j,rfl,rfl,q⟩:=h;obtain⟨t,rfl⟩:=rx;obtain⟨t',rfl⟩:=ry;exact in_str (CI I q rfl)
variable {r:R2} {r':R2}
theorem OpR.or{f:Á->Á->Sem Á}(h:OpR X f r)(h':OpR X f r'):OpR X f fun x y H Q=>r x y H Q\/r' x y H Q:=by
 intro À s σ H x y v u Q I rx ry q;rcases q with q|q
 .exact h À s σ H x y v u Q I rx ry q
 .exact h' À s σ H x y v u Q I rx ry q
variable {op:ao}
theorem MN(ho:OpR X (Ý op) r)(ha:PE X a ta)(hb:PE X b tb)(hm:Ĥ op b=false):PE X (.Compare a [op] [b] ë)<|tOp r ta tb:=by intro À s σ H Q I h;exact wpAny_Compare1 (EB ha hb I h fun v u s2 x y H2 I2 rx ry q=>ho À s2 σ H2 x y v u Q I2 rx ry q) hm
noncomputable def BX(t:TE):TT:=fun σ H Q=>t σ H fun x H'=>∃k,x=.bl k/\Q k H'
theorem Mr(ho:OpR X (Ý op) r)(ha:PE X a ta)(hb:PE X b tb)(hm:Ĥ op b=false):PT X (.Compare a [op] [b] ë)<|BX<|tOp r ta tb:=by
 intro À s σ H Q I h;refine wpAny_isTrue_Compare1 (thn (ha À s σ H _ I h) fun v s1 ⟨x,H1,I1,r1,q1⟩=>thn (hb À s1 σ H1 _ I1 q1) fun u s2 ⟨y,H2,I2,r2,q2⟩ =>
   thn (ho À s2 σ H2 x y v u _ I2 r1 r2 q2) fun c s3 ⟨z,H3,I3,r3,k,e,q3⟩=>?_) hm
 subst e;cases r3;exact Ą ⟨H3,I3,q3⟩
noncomputable def OU(r r':R2)(ta tb tc:TE):TE:=fun σ H Q=>ta σ H fun x H1=>tb σ H1 fun y H2=>r x y H2 fun z H3=>∃k,z=.bl k/\
 (if k=true then tc σ H3 fun w' H4=>r' y w' H4 Q else Q (.bl false) H3)
variable {bj:ao}
theorem OH(ho:OpR X (Ý op) r)(aH:OpR X (Ý bj) r')(ha:PE X a ta)(hb:PE X b tb)(hc:PE X c tc)
  (hm:ϧ [op,bj] [b,c]=false:=by with_unfolding_all rfl):PE X (.Compare a [op,bj] [b,c] ë)<|OU r r' ta tb tc:=by
 intro À s σ H Q I h;refine Compare_chain (thn (ha À s σ H _ I h) fun v s1 ⟨x,H1,I1,r1,q1⟩=>chain_link (thn (hb À s1 σ H1 _ I1 q1) fun u s2 ⟨y,H2,I2,r2,q2⟩ =>
   thn (ho À s2 σ H2 x y v u _ I2 r1 r2 q2) fun d s3 ⟨z,H3,I3,r3,k,e,q3⟩=>?_)) hm
 subst e;cases r3;refine Ą ?_;cases k with
 |false=>exact ite_ff ⟨.bl false,H3,I3,rfl,q3⟩
 |true=>exact ite_tt<|chain_last<|thn (hc À s3 σ H3 _ I3 q3) fun w' s4 ⟨z',H4,I4,r4,q4⟩=>aH À s4 σ H4 y z' u w' Q I4 r2 r4 q4
theorem Ui(ho:OpR X (Ý op) r)(aH:OpR X (Ý bj) r')(ha:PE X a ta)(hb:PE X b tb)(hc:PE X c tc)
  (hm:ϧ [op,bj] [b,c]=false:=by with_unfolding_all rfl):PT X (.Compare a [op,bj] [b,c] ë)<|BX<|OU r r' ta tb tc:=by
 intro À s σ H Q I h;refine isTrue_chain (thn (ha À s σ H _ I h) fun v s1 ⟨x,H1,I1,r1,q1⟩=>test_link (thn (hb À s1 σ H1 _ I1 q1) fun u s2 ⟨y,H2,I2,r2,q2⟩ =>
   thn (ho À s2 σ H2 x y v u _ I2 r1 r2 q2) fun d s3 ⟨z,H3,I3,r3,k,e,q3⟩=>?_)) hm
 subst e;cases r3;refine Ą ?_;cases k with
 |false =>obtain⟨k',e',q'⟩:=q3;cases e';exact ite_ff ⟨H3,I3,q'⟩
 |true =>refine ite_tt<|test_last<|thn (hc À s3 σ H3 _ I3 q3) fun w' s4 ⟨z',H4,I4,r4,q4⟩=>thn (aH À s4 σ H4 y z' u w' _ I4 r2 r4 q4) fun d' s5 ⟨z2,H5,I5,r5,k2,e2,q5⟩=>?_;subst e2;cases r5;exact Ą ⟨H5,I5,q5⟩
def EW(K:PySem.W.Frag)(x:V)(H:Hp)(k:Bool):Prop :=
 match x with
 |.non=>k=false
 |.bl b=>k=b
 |.int i=>k=(i != 0)
 |.str y=>y.length<=Ô/\k=((y.length:Int) != 0)
 |.byt y=>y.size<=Ô/\k=((y.size:Int) != 0)
 |.ref p=>(∃xs,SqL K H p xs/\k=!xs.isEmpty)\/(∃xs,SqT K H p xs/\k=!xs.isEmpty)\/∃kvs,H p=some (.dK kvs)/\k=!kvs.isEmpty
 |_=>False
theorem Kv{κ:Type}{kvs:List (κ×V)}{vs:List (κ×Á)}(r:KV kvs vs):(!vs.isEmpty)=!kvs.isEmpty:=by cases r<;>rfl
theorem X0{xs:List V}{ò:List Á}(r:Vals xs ò):(!ò.toArray.isEmpty)=!xs.isEmpty:=by cases r<;>simp
theorem Xf:(Ô:Nat)<2 ^ 63:=by rw[sizeLine_eq];decide
theorem ED:HH X fun x H Q=>∃k,EW X.K x H k/\Q k H:=by
 intro À s σ H x v Q I rx h;obtain⟨k,e,q⟩:=h;have hl:=Xf;have hs:Ô=16777216:=sizeLine_eq;cases x with
 |non =>cases rx;have e':k=false:=e;subst e';exact truthy_none ⟨H,I,q⟩
 |bl b =>cases rx;have e':k=b:=e;subst e';exact Ą ⟨H,I,q⟩
 |int i =>obtain⟨t,rfl⟩:=rx;have e':k=(i != 0):=e;subst e';exact PySem.P.truthy_int ⟨H,I,q⟩
 |str y =>obtain⟨t,rfl⟩:=rx;obtain⟨hy,e'⟩:y.length<=Ô/\k=((y.length:Int) != 0):=e;subst e';exact PySem.P.truthy_str (by omega) ⟨H,I.tok _,q⟩
 |byt y =>obtain⟨t,rfl⟩:=rx;obtain⟨hy,e'⟩:y.size<=Ô/\k=((y.size:Int) != 0):=e;subst e';exact PySem.W.truthy_bytes (by omega) ⟨H,I.tok _,q⟩
 |ref p =>
  cases rx;have e':(∃xs,SqL X.K H p xs/\k=!xs.isEmpty)\/(∃xs,SqT X.K H p xs/\k=!xs.isEmpty)\/∃kvs,H p=some (.dK kvs)/\k=!kvs.isEmpty:=e;rcases e' with⟨xs,hx,e'⟩|⟨xs,hx,e'⟩|⟨kvs,hx,e'⟩
  .subst e';obtain⟨ò,r,pl,hz⟩:=I.list hx;have ģ:=r.length;exact wpAny_truthy_list pl.isList (by simp only[Ê];omega) ⟨H,I.tok _,by rw[X0 r];exact q⟩
  .subst e';obtain⟨ò,r,pl,hz⟩:=I.tuple hx;have ģ:=r.length;exact truthy_tuple pl (by simp only[Ê];omega) ⟨H,I.tok _,by rw[X0 r];exact q⟩
  .subst e';obtain⟨hz,hS,vs,r,m⟩:kvs.length<=Ô/\(p==ū)=false/\∃vs,KV kvs vs/\s.heap.DictOf (Zv X.prog X.w) p vs:=I.hok p _ hx;have ģ:kvs.length=vs.length:=Paired.length r;exact wpAny_truthy_dict hS m (by omega) ⟨H,I.tok _,by rw[Kv r];exact q⟩
 |_=>exact(show False from e).elim
theorem Oj(ha:PE X a ta)(he:∀ϒ,am a X.env ϒ=(do let v<-ϒ;standAt a.pos;holding [v] (truthy v))) :
  PT X a (fun σ H Q=>ta σ H fun x H'=>∃k,EW X.K x H' k/\Q k H'):=by
 intro À s σ H Q I h;exact isTrue_plain (thn (ha À s σ H _ I h) fun v s1 ⟨x,H1,I1,r1,q1⟩=>ED À s1 σ H1 x v Q I1 r1 q1)<|he _
theorem KH:OpR X (Ĭ .Add) fun x y H Q=>∃i j,x=.str i/\y=.str j/\i.length+j.length<=Ô/\Q (.str<|i++j) H:=by intro À s σ H x y v u Q I rx ry h;obtain⟨i,j,rfl,rfl,hz,q⟩:=h;obtain⟨t,rfl⟩:=rx;obtain⟨t',rfl⟩:=ry;exact add_str (fun t' tk=>⟨.str<|i++j,H,I.tok _,⟨_,rfl⟩,q⟩) hz
variable {x:V} {us:List Á}
theorem Ye(r:Vals [x] us):∃u,us=[u]/\RelV x u:=by
 cases r with
 |cons r1 r2=>cases r2;exact⟨_,rfl,r1⟩
theorem WM{y:V}(r:Vals [x,y] us):∃u w',us=[u,w']/\RelV x u/\RelV y w':=by
 cases r with
 |cons r1 r2 =>
  cases r2 with
  |cons r3 r4=>cases r4;exact⟨_,_,rfl,r1,r3⟩
theorem Uj:CallR X (.builtin "abs") fun xs H Q=>∃i,xs=[.int i]/\Q (.int<|if i<0 then -i else i) H:=by intro À s σ H xs us Q I r h;obtain⟨i,rfl,q⟩:=h;obtain⟨u,rfl,t,rfl⟩:=Ye r;exact call_abs_int fun u tk=>⟨.int (if i<0 then -i else i),H,I.tok _,⟨_,rfl⟩,q⟩
theorem Ng(hc:X.calm=true):CallR X (.builtin "min") fun xs H Q=>∃i j,xs=[.int i,.int j]/\Q (.int<|if j<i then j else i) H:=by
 intro À s σ H xs us Q I r h;obtain⟨i,j,rfl,q⟩:=h;obtain⟨u,w',rfl,⟨t,rfl⟩,⟨t',rfl⟩⟩:=WM r;refine min_two_ints (I.ok.hd hc) fun h' tk k=>⟨_,H,I.kept k,?_,q⟩
 by_cases hj:j<i
 .rw[if_pos hj,if_pos hj];exact⟨_,rfl⟩
 .rw[if_neg hj,if_neg hj];exact⟨_,rfl⟩
theorem call_int1:CallR X (.type "int") fun xs H Q=>(∃i,xs=[.int i]/\Q (.int i) H)\/∃k,xs=[.bl k]/\Q (.int<|if k then 1 else 0) H:=by
 intro À s σ H xs us Q I r h;rcases h with⟨i,rfl,q⟩|⟨k,rfl,q⟩
 .obtain⟨u,rfl,t,rfl⟩:=Ye r;exact call_int_int ⟨.int i,H,I,⟨_,rfl⟩,q⟩
 .obtain⟨u,rfl,r1⟩:=Ye r;cases r1;exact call_int_bool ⟨.int (if k then 1 else 0),H,I.tok _,⟨_,rfl⟩,q⟩
theorem call_str_int:CallR X (.type "str") fun xs H Q=>∃i,xs=[.int i]/\i.natAbs.log2<1920/\Q (.str<|toString i) H:=by intro À s σ H xs us Q I r h;obtain⟨i,rfl,hz,q⟩:=h;obtain⟨u,rfl,t,rfl⟩:=Ye r;exact PySem.P.str_of_int hz ⟨.str _,H,I.tok _,⟨_,rfl⟩,q⟩
end
structure ObjM(h:ô)(x dx C:Ä)(mA:Str->Option Á):Prop where
 obj:h.get? x=some (PySem.W.instObj C dx)
 ns:h.Ns1 dx mA
 ne:dx≠x
variable {h:ô} {dx:Ä} {mA:Str->Option Á}
theorem M2(n:h.Ns1 dx mA):∃od,h.get? dx=some od/\∀name,PySem.W.lookIn name od=some (mA name):=by
 obtain⟨o,es,ep,ho,hd,hk,_,hm⟩:=n;refine⟨o,ho,fun name=>?_⟩;have e:=hm name;unfold nsFind findBy at e;rw[<-Array.find?_toList]at e;unfold PySem.W.lookIn;rw[hd];dsimp only;split
 .rename_i y q;rw[q]at e;exact congrArg some e
 .rename_i q;rw[q]at e;have a:es.toList.any (·.refKey)=false:=by
   rw[List.any_eq_false];intro y hy;obtain⟨z,t,hkey⟩:=hk y<|Array.mem_toList_iff.mp hy;simp[DictEntry.refKey,hkey]
  have a':¬ es.toList.any (·.refKey)=true:=by rw[a];exact ú
  rw[if_neg a'];exact congrArg some e
variable {C:Ä}
theorem ObjM.look{x:Ä}(I:ObjM h x dx C mA):∃od,PySem.W.InstAt h x (PySem.W.instObj C dx) C (some od)/\∀name,PySem.W.lookIn name od=some (mA name) :=
 let ⟨od,ho,hl⟩:=M2 I.ns
 ⟨od,⟨I.obj,rfl,rfl,ho⟩,hl⟩
noncomputable def putF(f:Str)(v:V):List (Str×V)->List (Str×V)
 |[]=>[(f,v)]
 |(g,x)::r=>if g=f then(g,v)::r else(g,x)::putF f v r
variable {o:Option Á}
theorem RelO.some_of{v:V}(r:RelO (some v) o):∃u,o=some u/\RelV v u:=by
 cases o with
 |none=>exact(show False from r).elim
 |some u=>exact⟨u,rfl,r⟩
theorem RelO.none_of(r:RelO none o):o=none:=by
 cases o with
 |none=>rfl
 |some u=>exact(show False from r).elim
section
variable {P:à}{w:þ}{H H':Hp}{h h':ô}{a C dx:Ä}{fs fs':List (Str×V)}
theorem Ab(hok:HOk P w H h)(e:H a=some (.ins C dx fs)):∃mA,ObjM h a dx C mA/\(∀f,RelO (fs.lookup f)<|mA f)/\PySem.Within mA (fs.map (·.1))/\fs.length<=1000/\H dx=some (.own a):=by
 obtain⟨d,z,ne,ob,mA,n,r,q⟩:=(show ObjOk P w H h a (.ins C dx fs) from hok a _ e)
 exact⟨mA,⟨ob,n,ne⟩,r,q,z,d⟩
end
structure Cls(K:PySem.W.Frag)(C:Ä):Prop where
 pg:PySem.W.plainGet K C Str.empty=true
 hd:PySem.W.hasDictIn K C=true
 po:PySem.W.plainOver K C=true
 sa:PySem.W.findIn K (.ref C) "__setattr__" = some (some<|.builtin "object.__setattr__")
theorem Cls.get{K:PySem.W.Frag}(c:Cls K C)(f:Str):PySem.W.plainGet K C f=true:=c.pg
def KJ(K:PySem.W.Frag)(C:Ä)(f:Str):Prop:=PySem.W.findIn K (.ref C) f=some none
structure Meth(K:PySem.W.Frag)(C:Ä)(m:Str)(f:Ä):Prop where
 at_:PySem.W.findIn K (.ref C) m=some (some<|.ref f)
 fn:PySem.W.isFn K (.ref f)=true
 kp:PySem.W.keepIn K (.ref f)=true
section
variable {X:Cx}{À:List (Ä×Obj)}{σ:St}{H:Hp}{s:Â}{A:ć}{E:Á->Â->Prop}{Q:Á->Â->Prop}{c:Á}{b:Bool}
inductive TyOf (K:PySem.W.Frag) (H:Hp):V->Á->Prop where
 |non:TyOf K H .non<|.type "NoneType"
 |bl (x:Bool):TyOf K H (.bl x)<|.type "bool"
 |int (i:Int):TyOf K H (.int i)<|.type "int"
 |str (x:Str):TyOf K H (.str x)<|.type "str"
 |flt (x:UInt64):TyOf K H (.flt x)<|.type "float"
 |lst {a:Ä}{xs:List V}(e:H a=some (.lst xs)):TyOf K H (.ref a)<|.type "list"
 |frz {a:Ä}{o:Obj}{xs:List V}(e:H a=some (.frz o<|.lst xs)):TyOf K H (.ref a)<|.type "list"
 |tup {a:Ä}{xs:List V}(e:H a=some (.tup xs)):TyOf K H (.ref a)<|.type "tuple"
 |dK {a:Ä}{kvs:List (Key×V)}(e:H a=some (.dK kvs)):TyOf K H (.ref a)<|.type "dict"
 |dT {a:Ä}{kvs:List (List Key×V)}(e:H a=some (.dT kvs)):TyOf K H (.ref a)<|.type "dict"
 |ins {a C dx:Ä}{fs:List (Str×V)}(e:H a=some (.ins C dx fs)) (cl:Cls K C) (ha:PySem.W.findIn K (.ref C) "__class__" = some (some<|.builtin "object.__class__"))
   (hn:PySem.W.specialIn K (.builtin "object.__class__") "__get__" = some (some<|.builtin "getset_descriptor.__get__")) (htk:PySem.W.takesIn K (.builtin "object.__class__")=some true)
   (hm:PySem.W.mroIn K C (.type "object")=some true):TyOf K H (.ref a)<|.ref C
theorem NC{x:V}{u t:Á}(I:Inv X À σ H s)(rx:RelV x u)(ty:TyOf X.K H x t)(e:PySem.W.kitOne X.K t c=some b)(h:∀tk,Q (.bool b) {s with toks:=tk}) :
  wpAny (Ö X.prog X.w) A (call (.builtin "isinstance") [u,c]) Q E s:=by
 cases ty with
 |non=>cases (show u=Value.none from rx);exact PySem.W.kia_one PySem.W.kitx_none I.kIn True.intro e (fun z=>nomatch z) h
 |bl y=>cases (show u=Value.bool y from rx);exact PySem.W.kia_one PySem.W.kitx_bool I.kIn True.intro e (fun z=>nomatch z) h
 |int i=>obtain⟨t,q⟩:=(show ∃t,u=Value.int i t from rx);cases q;exact PySem.W.kia_one PySem.W.kitx_int I.kIn True.intro e (fun z=>nomatch z) h
 |str y=>obtain⟨t,q⟩:=(show ∃t,u=Value.str y t from rx);cases q;exact PySem.W.kia_one PySem.W.kitx_str I.kIn True.intro e (fun z=>nomatch z) h
 |flt y=>obtain⟨t,q⟩:=(show ∃t,u=Value.float y t from rx);cases q;exact PySem.W.kia_one PySem.W.kitx_float I.kIn True.intro e (fun z=>nomatch z) h
 |@lst a xs ea =>
  cases (show u=Value.ref a from rx);obtain⟨_,_,n,_,h1⟩:=(show ObjOk X.prog X.w H s.heap a (.lst xs) from I.hok a _ ea)
  exact PySem.W.kia_one PySem.W.kitx_list I.kIn ⟨_,h1,rfl⟩ e (fun z=>nomatch z) h
 |@frz a ob xs ea =>
  cases (show u=Value.ref a from rx);obtain⟨_,_,_,n,_,h1⟩:=(show ObjOk X.prog X.w H s.heap a (.frz ob<|.lst xs) from I.hok a _ ea)
  exact PySem.W.kia_one PySem.W.kitx_list I.kIn ⟨_,h1,rfl⟩ e (fun z=>nomatch z) h
 |@tup a xs ea =>
  cases (show u=Value.ref a from rx);obtain⟨_,_,_,p⟩:=(show ObjOk X.prog X.w H s.heap a (.tup xs) from I.hok a _ ea)
  obtain⟨o,h1,h2,_⟩:=p;exact PySem.W.kia_one PySem.W.kitx_tuple I.kIn ⟨o,h1,h2⟩ e (fun z=>nomatch z) h
 |@dK a kvs ea =>
  cases (show u=Value.ref a from rx);obtain⟨_,_,vs,_,p⟩:=(show ObjOk X.prog X.w H s.heap a (.dK kvs) from I.hok a _ ea)
  obtain⟨o,es,ep,h1,h2,_⟩:=p;exact PySem.W.kia_one PySem.W.kitx_dict I.kIn ⟨o,h1,h2.1⟩ e (fun z=>nomatch z) h
 |@dT a kvs ea =>
  cases (show u=Value.ref a from rx);obtain⟨_,_,xs,_,o,es,ep,h1,h2,_⟩:=(show ObjOk X.prog X.w H s.heap a (.dT kvs) from I.hok a _ ea)
  exact PySem.W.kia_one PySem.W.kitx_dict I.kIn ⟨o,h1,h2.1⟩ e (fun z=>nomatch z) h
 |@ins a C dx fs ea cl ha hn htk hm =>cases (show u=Value.ref a from rx);obtain⟨mA,O,_⟩:=Ab I.hok ea;obtain⟨od,J,_⟩:=O.look;exact PySem.W.kia_one (PySem.W.kitx_own (cl.get _) cl.hd ha hn htk hm) I.kIn J e (fun z=>nomatch z) h
end
structure Room(k:Nat)(A:ć):Prop where
 hd:A.handled=none
 dp:A.depth+3*k+5<recursionLimit
 un:A.units+16*k+200<Ğ
variable {j:Nat} {A:ć}
theorem Room.mono{k:Nat}(r:Room k A)(h:j<=k):Room j A:=⟨r.hd,by have:=r.dp;omega,by have:=r.un;omega⟩
theorem Room.deeper{k:Nat}(r:Room (k+1) A)(env:Env):Room k (A.deeper env) :=
 ⟨r.hd,by have:=r.dp;show A.depth+1+3*k+5<_;omega,by have:=r.un;show A.units+3+16*k+200<_;omega⟩
theorem Room.in1{k:Nat}(r:Room (k+1) A):Room k A.in1 :=
 ⟨r.hd,by have:=r.dp;show A.depth+3*k+5<_;omega,by have:=r.un;show A.units+1+16*k+200<_;omega⟩
variable {C:Ä} {us:List Á} {kw:List (Str×Á)}
theorem Kd:(A.under<|.builtin "type.__call__" ⟨.ref C::us,kw⟩).depth=A.depth+1:=by
 first|rfl|simp[ϯ,Code.weight,Code.isCreation,Code.isGuard,Code.isCaller,Code.frames,ae,guardIds]
theorem KC:(A.under<|.builtin "type.__call__" ⟨.ref C::us,kw⟩).units=A.units+1:=by
 first|rfl|simp[ϯ,Code.cUnits,Code.frames,ae]
theorem Room.make{k:Nat}(r:Room (k+1) A)(C:Ä)(us:List Á)(kw:List<|Str×Á):Room k (A.under<|.builtin "type.__call__" ⟨.ref C::us,kw⟩) :=
 ⟨r.hd,by have:=r.dp;rw[Kd];omega,by have:=r.un;rw[KC];omega⟩
theorem Room.depth{k:Nat}(r:Room k A):A.depth<recursionLimit:=by have:=r.dp;omega
theorem Room.units{k:Nat}(r:Room k A):A.units+64<Ğ:=by have:=r.un;omega
noncomputable def F7:TA:=fun _ H Q=>Q [] H
noncomputable def EV(ta:TE)(tr:TA):TA:=fun σ H Q=>ta σ H fun x H1=>tr σ H1 fun xs H2=>Q (x::xs) H2
section
variable {X:Cx}{e:Expr}{es:List Expr}{te:TE}{t:TA}{ë:Pos}
theorem pa_nil:PA X [] F7:=fun _ _ _ _ H Q I h=>Calls.spliced_nil ⟨[],H,I,.nil,h⟩
theorem Zz(ha:PE X e te)(hr:PA X es t)(hs:Ð (e::es) X.env=(false,eval e X.env)::Ð es X.env:=by rfl):PA X (e::es)<|EV te t:=by intro ë À s σ H Q I h;rw[hs];show wpAny _ _ (spliced<|(false,eval e X.env)::Ħ ë (Ð es X.env)) _ _ s;refine Calls.spliced_cons<|thn (ha À s σ H _ I h) fun u s1 ⟨x,H1,I1,r1,q1⟩=>?_;exact thn (hr ë À s1 σ H1 _ I1 q1) fun us s2 ⟨xs,H2,I2,r2,q2⟩=>⟨x::xs,H2,I2,.cons r1 r2,q2⟩
noncomputable def G8(t:TA):TE:=fun σ H Q=>t σ H fun xs H1=>xs.length<=Ô/\∀p,H1 p=none->Q (.ref p) (upd H1 p<|.tup xs)
noncomputable def Hy(t:TA):TE:=fun σ H Q=>t σ H fun xs H1=>xs.length<=Ô/\∀p,H1 p=none->Q (.ref p) (upd H1 p<|.lst xs)
theorem NJ{x1}(h:PA X es t):PE X (.Tuple es x1 ë)<|G8 t:=by intro À s σ H Q I hq;refine wpAny_Tuple_spliced (thn (h ë À s σ H _ I hq) fun us s1 ⟨xs,H1,I1,r,z,q⟩=>⟨by rw[<-r.length];exact z,?_⟩);have hf:H1 s1.heap.objs.size=none:=I1.hok.fresh<|Ø _;refine⟨.ref s1.heap.objs.size,upd H1 s1.heap.objs.size<|.tup xs,I1.laid (t':=s1.toks) (fun b u e=>Ì _ e) (Ø _) ?_,rfl,q _ hf⟩;exact⟨z,us,r,⟨_,è _ rfl,rfl,_,rfl⟩⟩
theorem CQ(h:PA X es t):PE X (.List es ë)<|Hy t:=by intro À s σ H Q I hq;refine wpAny_List_spliced (thn (h ë À s σ H _ I hq) fun us s1 ⟨xs,H1,I1,r,z,q⟩=>⟨by rw[<-r.length];exact z,?_⟩);have hf:H1 s1.heap.objs.size=none:=I1.hok.fresh<|Ø _;refine⟨.ref s1.heap.objs.size,upd H1 s1.heap.objs.size<|.lst xs,I1.laid (t':=s1.toks) (fun b u e=>Ì _ e) (Ø _) ?_,rfl,q _ hf⟩;exact⟨z,us,0,r,è _ rfl⟩
end
noncomputable abbrev Sp:=List V->Hp->VK->XK->Prop
noncomputable abbrev CXT:=List Env->Hp->Â->XK->Á->Â->Prop
structure Env0(P:à)(w:þ)(K:PySem.W.Frag)(mg:Str->Option Á)(base:ô)(A:ć)(outer:List Env)(s:Â)(H:Hp):Prop where
 frames:A.frames=some outer
 mod:Mod K mg base
 bs:∀b o,base.get? b=some o->s.heap.get? b=some o/\H b=none
 bsz:base.objs.size<=s.heap.objs.size
 funs:s.heap.FunFrames base outer
 frf:∀b∈frs outer,H b=none
 hok:HOk P w H s.heap
 bare:ų s.gens
def CE(outer:List Env)(P:à)(w:þ)(H:Hp)(s:Â)(Q:VK)(u:Á)(s':Â):Prop :=
 ∃v H',s'.os=s.os/\ų s'.gens/\Un (frs outer) [] H H' s.heap s'.heap/\HOk P w H' s'.heap/\RelV v u/\Q v H'
def CR(CX:CXT)(outer:List Env)(P:à)(w:þ)(H:Hp)(s:Â)(Q:VK)(E:XK)(r:Result)(s':Â):Prop :=
 match r with
 |.ok (.ret u)=>CE outer P w H s Q u s'
 |.ok _=>False
 |.error e=>CX outer H s E e s'
structure FnOk(P:à)(w:þ)(K:PySem.W.Frag)(mg:Str->Option Á)(base:ô)(CX:CXT)(k:Nat)(f:Ä)(fd:ĭ)(ps:List Str)(sp:Sp):Prop where
 len:∀vs H Q E,sp vs H Q E->vs.length=ps.length
 run:∀(A:ć) (outer:List Env) (s:Â) (H:Hp) (args:Args) (us:List Á) (vs:List V) (Q:VK) (E:XK),Room k A->Env0 P w K mg base A outer s H->BindsTo s fd args (ps.zip us)->Vals vs us->sp vs H Q E->
  codeAny (Ö P w) A (.call (.ref f) args) (CR CX outer P w H s Q E) s
variable {P:à} {w:þ} {mg:Str->Option Á} {base:ô} {CX:CXT} {f:Ä} {fd:ĭ} {ps:List Str} {sp:Sp}
theorem FnOk.mono{K:PySem.W.Frag}{k:Nat}(F:FnOk P w K mg base CX j f fd ps sp)(h:j<=k) :
  FnOk P w K mg base CX k f fd ps sp:=⟨F.len,fun A outer s H args us vs Q E hr=>F.run A outer s H args us vs Q E<|hr.mono h⟩
theorem FnOk.imp{K:PySem.W.Frag}{k:Nat}{sp':Sp}(F:FnOk P w K mg base CX k f fd ps sp)
  (h:∀vs H Q E,sp' vs H Q E->sp vs H Q E):FnOk P w K mg base CX k f fd ps sp' :=
 ⟨fun vs H Q E q=>F.len vs H Q E<|h _ _ _ _ q,fun A outer s H args us vs Q E hr he hb hv hs=>F.run A outer s H args us vs Q E hr he hb hv<|h _ _ _ _ hs⟩
variable {outer:List Env} {s:Â} {H:Hp}
theorem Env0.make{K:PySem.W.Frag}(e:Env0 P w K mg base A outer s H)(C:Ä)(us:List Á)(kw:List<|Str×Á) :
  Env0 P w K mg base (A.under<|.builtin "type.__call__" ⟨.ref C::us,kw⟩) outer s H:=⟨by first|exact e.frames|(simpa[ϯ,Code.envs,ae,pushEnvs]using e.frames),e.mod,e.bs,e.bsz,e.funs,e.frf,e.hok,e.bare⟩
theorem Env0.in1{K:PySem.W.Frag}(e:Env0 P w K mg base A outer s H) :
  Env0 P w K mg base A.in1 outer s H:=⟨e.frames,e.mod,e.bs,e.bsz,e.funs,e.frf,e.hok,e.bare⟩
section
variable {X:Cx}{À:List (Ä×Obj)}{σ:St}{H:Hp}{s s':Â}
theorem Inv.env0(I:Inv X À σ H s):Env0 X.prog X.w X.K X.mg X.base X.A X.stack s H :=
 ⟨I.ok.frames,I.ok.mod,I.bs,Ç I.ok.bsz I.sz,I.stack,I.stkFree,I.hok,I.bare⟩
theorem Inv.after{Q:VK}{u:Á}(I:Inv X À σ H s)(h:CE X.stack X.prog X.w H s Q u s'):EP X À σ Q u s':=by obtain⟨v,H',os,bare,un,hok,r,q⟩:=h;obtain⟨hh,g,d,t,os'⟩:=s';obtain rfl:os'=s.os:=os;exact⟨v,H',I.call (h':=hh) (g':=g) (d':=d) (t':=t) (ch:=[]) un hok bare fun b z=>absurd z<|by simp,r,q⟩
end
noncomputable def Cb(sp:Sp)(dvs:List V)(E:XK)(t:TA):TE:=fun σ H Q=>t σ H fun vs H1=>sp (vs++dvs) H1 Q E
def Binds(K:PySem.W.Frag)(fd:ĭ)(ps:List Str)(ds:List Á):Prop :=
 ∀(s:Â) (us:List Á),K.In s.heap->(us++ds).length=ps.length->BindsTo s fd ⟨us,[]⟩ (ps.zip<|us++ds)
theorem Binds.all{K:PySem.W.Frag}(h:∀us:List Á,us.length=ps.length->bindArgs fd ⟨us,[]⟩=pure (ps.zip us)):Binds K fd ps []:=fun s us _ hl=>by rw[Ņ]at hl ⊢;exact .of_eq (h us hl)
def W2(CX:CXT)(X:Cx)(E:XK):Prop:=∀(À:List<|Ä×Obj) (σ:St) (H:Hp) (s:Â) (e:Á) (s':Â),Inv X À σ H s->CX X.stack H s E e s'->X.xe e s'
section
variable {X:Cx}{CX:CXT}{k:Nat}{f C:Ä}{fd:ĭ}{ps:List Str}{sp:Sp}{dvs:List V}{ds:List Á}{E:XK}{x m:Str}{p ë ο:Pos}{e o:Expr}{es:List Expr}{ta:TE}{t:TA}
theorem UX{À:List (Ä×Obj)}{σ:St}{Q:VK}{vs:List V}(F:FnOk X.prog X.w X.K X.mg X.base CX k f fd ps sp)(hr:Room k X.A)(hb:Binds X.K fd ps ds)(hd:Vals dvs ds)(hx:W2 CX X E)
  (I:Inv X À σ H s) (r:Vals vs us) (h:sp (vs++dvs) H Q E):wpAny (Ö X.prog X.w) X.A (call (.ref f) us) (EP X À σ Q) X.xe s:=by
 have r2:Vals (vs++dvs)<|us++ds:=r.append hd;have hl:(us++ds).length=ps.length:=by rw[<-r2.length];exact F.len _ _ _ _ h
 refine wpAny_call<|Ϙ (F.run X.A X.stack s H ⟨us,[]⟩ (us++ds) (vs++dvs) Q E hr I.env0 (hb s us I.kIn hl) r2 h) fun r s' hq=>?_;cases r with
 |error e=>exact hx À σ H s e s' I hq
 |ok fl =>
  cases fl with
  |ret u=>exact I.after hq
  |next=>exact ĉ hq
  |brk=>exact ĉ hq
  |cont=>exact ĉ hq
theorem AA(F:FnOk X.prog X.w X.K X.mg X.base CX k f fd ps sp)(hr:Room k X.A)(hg:Gl X x)(hm:X.mg x=some (.ref f))(hk:PySem.W.keepIn X.K (.ref f)=true)(hb:Binds X.K fd ps ds)(hd:Vals dvs ds)(hx:W2 CX X E)
  (ha:PA X (e::es) t) (Ο:(x==("__debug__" : Str))=false:=by decide) (he:Ð (e::es) X.env=(false,eval e X.env)::Ð es X.env:=by rfl) (hpl:(Ħ ë<|Ð es X.env).any (·.1)=false:=by rfl) :
  PE X (.Call (.Name x p) (e::es) [] ë) (Cb sp dvs E t):=by
 intro À s σ H Q I h;refine Ō<|Z7 I hg hm ?_ Ο;refine PySem.W.callWith_K (h₀:=X.base) I.ok.mod.kin hk (thn (ha ë À s σ H _ I h) fun us s1 ⟨vs,H1,I1,r,q⟩=>⟨I1.kIn,?_⟩) he hpl;exact UX F hr hb hd hx I1 r q
theorem OC(F:FnOk X.prog X.w X.K X.mg X.base CX k f fd ps sp)(hr:Room k X.A)(hg:Gl X x)(hm:X.mg x=some (.ref f))(hk:PySem.W.keepIn X.K (.ref f)=true)(hb:Binds X.K fd ps ds)(hd:Vals dvs ds)(hx:W2 CX X E)
  (Ο:(x==("__debug__" : Str))=false:=by decide):PE X (.Call (.Name x p) [] [] ë)<|Cb sp dvs E F7:=by
 intro À s σ H Q I h;refine Ō<|Z7 I hg hm ?_ Ο;exact PySem.W.callWith_K0 I.kIn hk<|UX (us:=[]) F hr hb hd hx I .nil h
structure Mk(K:PySem.W.Frag)(C f:Ä):Prop where
 makes:PySem.W.makesIn K C=true
 init:PySem.W.findIn K (.ref C) "__init__" = some (some<|.ref f)
 fn:PySem.W.isFn K (.ref f)=true
 kp:PySem.W.keepIn K (.ref C)=true
end
structure FnScope(N P:List Str)(sc:ŕ):Prop where
 kind:sc.kind=.function
 co:sc.isCoroutine=false
 gen:sc.isGenerator=false
 nd:N.Nodup
 pre:N.take P.length=P
 par:∀x∈P,sc.names.lookup x=some .local\/sc.names.lookup x=some .cell
 nofree:∀y∈sc.names,y.2≠.free
theorem Wo{ţ:Str->Option ž}{x:Str}:∀{binds:List (Str×Á)}{m:Str->Option Á},(∀v,(x,v)∉binds)->bindL ţ binds m x=m x
 |[],_,_=>rfl
 |(n,v)::r,m,h=>by
  unfold bindL;rw[Wo fun w hw=>h w<|á _ hw];split
  .have:x≠n:=by rintro rfl;exact h v å
   simp[this]
  .rfl
theorem Wl{ţ:Str->Option ž}{x:Str}:∀{binds:List (Str×Á)}{m:Str->Option Á},(∀v,(x,v)∉binds)->bx ţ binds m x=m x
 |[],_,_=>rfl
 |(n,v)::r,m,h=>by
  unfold bx;rw[Wl fun w hw=>h w<|á _ hw];split
  .rfl
  .have:x≠n:=by rintro rfl;exact h v å
   simp[this]
theorem WT{ţ:Str->Option ž}{x:Str}{v:Á}:∀{P:List Str}{vs:List Á}{i:Nat}{m:Str->Option Á},P.Nodup->P[i]?=some x->vs[i]?=some v->ţ x=some .local->
  bindL ţ (P.zip vs) m x=some v
 |[],_,_,_,_,h,_,_=>by simp at h
 |_::_,[],_,_,_,_,h,_=>by simp at h
 |p::P,w::vs,0,m,nd,h1,h2,hk=>by simp at h1 h2;subst h1;subst h2;show bindL ţ ((p,w)::P.zip vs) m p=_;unfold bindL;rw[Wo fun v hv=>(Ź.mp nd).1 (ϖ hv).1,if_pos hk];simp
 |p::P,w::vs,i+1,m,nd,h1,h2,hk=>by show bindL ţ ((p,w)::P.zip vs) m x=_;unfold bindL;exact WT (i:=i) (Ź.mp nd).2 (by simpa using h1) (by simpa using h2) hk
theorem WD{ţ:Str->Option ž}{x:Str}{v:Á}:∀{P:List Str}{vs:List Á}{i:Nat}{m:Str->Option Á},P.Nodup->P[i]?=some x->vs[i]?=some v->ţ x≠some .local->
  bx ţ (P.zip vs) m x=some v
 |[],_,_,_,_,h,_,_=>by simp at h
 |_::_,[],_,_,_,_,h,_=>by simp at h
 |p::P,w::vs,0,m,nd,h1,h2,hk=>by simp at h1 h2;subst h1;subst h2;show bx ţ ((p,w)::P.zip vs) m p=_;unfold bx;rw[Wl fun v hv=>(Ź.mp nd).1 (ϖ hv).1,if_neg hk];simp
 |p::P,w::vs,i+1,m,nd,h1,h2,hk=>by show bx ţ ((p,w)::P.zip vs) m x=_;unfold bx;exact WD (i:=i) (Ź.mp nd).2 (by simpa using h1) (by simpa using h2) hk
noncomputable def start(N:List Str)(vs:List V):St:=vs.map some++Ë (N.length - vs.length) none
noncomputable def Wj(CX:CXT)(P:à)(w:þ)(K:PySem.W.Frag)(mg:Str->Option Á)(base:ô)(N:List Str)(qual:Str)(scope:ŕ)(f:Ä)(cd:Á)(A:ć)(outer:List Env)(s:Â)(H:Hp)(E:XK):Cx where
 prog:=P
 w:=w
 K:=K
 mg:=mg
 base:=base
 A:=A.deeper<|Θ qual scope s.heap.objs.size f cd
 N:=N
 s₀:=s
 H₀:=H
 env:=Θ qual scope s.heap.objs.size f cd
 outer:=outer
 stack:=Θ qual scope s.heap.objs.size f cd::outer
 ex:=[]
 calm:=true
 fn:=fun _=>true
 pn:=[]
 xe:=fun e s'=>wpAny (Ö P w) (A.deeper<|Θ qual scope s.heap.objs.size f cd) (leaving (Θ qual scope s.heap.objs.size f cd) e) (fun _ s''=>CX outer H s E e s'') (fun e' s''=>CX outer H s E e' s'') s'
theorem JP{sc:ŕ}{n:Nat}{x:Str}(h:sc.names.lookup x=some .cell):∃c,(cellsFrom n sc.names []).lookup x=some c:=by have q:=PySem.W.cellsFrom_some sc.names n []<|.inl h;exact ϟ.mp q
variable {N:List Str} {qual:Str} {scope:ŕ}
theorem No{K:PySem.W.Frag}{cd:Á}{s1:Â}{E:XK}{vs:List V}
  (S:FnScope N ps scope) (hd:A.handled=none) (e0:Env0 P w K mg base A outer s H) (hl:vs.length=ps.length) (r:Vals vs us)
  (x:InCallC s s.heap.objs.size (bindL (Θ qual scope s.heap.objs.size f cd).kindOf (ps.zip us) fun _=>none) (cellsFrom (s.heap.objs.size+1) scope.names []) (bx (Θ qual scope s.heap.objs.size f cd).kindOf (ps.zip us) fun _=>none) s1) :
  Inv (Wj CX P w K mg base N qual scope f cd A outer s H E) [] (start N vs) H s1:=by
 have hpl:ps.length<=N.length:=by have:=congrArg List.length S.pre;rw[ċ]at this;omega
 obtain⟨h1,tk,rfl,hk⟩:=x.done;have noA:∀b:Ä,b∉(Wj CX P w K mg base N qual scope f cd A outer s H E).ex:=fun b z=>absurd (show b∈([]:List Ä) from z) (by simp);refine⟨⟨e0.mod,S.kind,rfl,rfl,Ø _,fun y z c h1 h2=>?_,fun y hy=>?_,fun y c _ h=>?_,fun _=>hd,Around.frames_deeper e0.frames,.inr ⟨rfl,rfl⟩,fun b z=>absurd z<|noA b,e0.bs,e0.bsz,fun b _ _=>noA b,fun b z=>absurd z<|noA b,e0.funs,e0.frf⟩,
   rfl,e0.bare,Un.kept hk,⟨_,x.toInCall.ns,fun i y v h1 h2 h3=>?_⟩,fun y c h=>⟨_,x.cell y c h⟩,e0.hok.fresh<|Ø _,fun y c h=>?_,fun p hp=>absurd (show p∈([]:List<|Ä×Obj) from hp) (by simp),e0.hok.kept hk,?_⟩
 .exact name_of_addr x.apart (PySem.mem_of_lookup h1)<|PySem.mem_of_lookup h2
 .have hy:scope.names.lookup y=some .cell\/scope.names.lookup y=some .free:=hy;rcases hy with hy|hy
  .exact JP hy
  .exact absurd rfl<|S.nofree _<|PySem.mem_of_lookup hy
 .exact ŋ<|x.above y c<|PySem.mem_of_lookup h
 .have hi:i<vs.length:=by
   unfold start at h2;by_cases hi:i<vs.length
   .exact hi
   .rw[ą<|by simpa using hi]at h2;rw[İ]at h2;split at h2<;>cases h2
  have ha:vs[i]?=some v:=by
   unfold start at h2;rw[Ă (by simpa using hi),í]at h2;cases e:vs[i]? with
   |none=>rw[e]at h2;cases h2
   |some a=>rw[e]at h2;cases h2;rfl
  obtain⟨u,hu,rv⟩:=r.get ha;have hp:ps[i]?=some y:=by rw[<-S.pre,List.getElem?_take_of_lt<|by omega];exact h1
  have ndP:ps.Nodup:=by rw[<-S.pre];exact S.nd.sublist<|List.take_sublist _ _
  refine⟨u,rv,?_⟩;rcases S.par y (ľ hp)with k|k
  .exact .inl ⟨k,WT ndP hp hu k⟩
  .obtain⟨c,e⟩:=JP (n:=s.heap.objs.size+1) k;refine .inr ⟨.inl k,c,e,?_⟩;have q:=x.cell y c e;rw[WD ndP hp hu<|by show scope.names.lookup y≠_;rw[k];decide]at q;exact q
 .exact e0.hok.fresh<|ŋ<|x.above y c<|PySem.mem_of_lookup h
 .unfold start;show _=N.length;rw[Ï,È,Û];omega
theorem B5{K:PySem.W.Frag}{k:Nat}{name:Str}{params:Arguments}{body:List Ě}{dV kV doc pm ŷ ct oc:Á}{an od:Option Ä}
  {osl:Array (Option Á)}   (lk:K.lookup f=some ⟨oc,od,.func<|PySem.W.fnOf name qual params body scope dV kV doc pm an ŷ ct,osl⟩) (aV:PySem.W.codeIn K ŷ qual=true) (S:FnScope N ps scope)
  (len:∀vs H Q E,sp vs H Q E->vs.length=ps.length)
  (Ϲ:∀(A:ć) (outer:List Env) (s:Â) (H:Hp) (vs:List V) (Q:VK) (E:XK),Room k (A.deeper<|Θ qual scope s.heap.objs.size f ŷ)->sp vs H Q E->
    ∃t,PSs (Wj CX P w K mg base N qual scope f ŷ A outer s H E) body t/\t { nx:=fun _ H'=>Q .non H',rt:=Q } (start N vs) H) :
  FnOk P w K mg base CX (k+1) f (PySem.W.fnOf name qual params body scope dV kV doc pm an ŷ ct) ps sp:=by
 refine⟨len,fun A outer s H args us vs Q E hr e0 hb r bF=>?_⟩;have hl:=len _ _ _ _ bF;have KX:K.In s.heap:=e0.mod.kin.keeps fun b o e=>(e0.bs b o e).1;have lim:s.heap.NoLimit:=e0.mod.nolimit.keeps fun b o e=>(e0.bs b o e).1;have hkind:∀y∈ps.zip us,scope.names.lookup y.1=some .local\/(scope.names.lookup y.1=some .cell/\((cellsFrom (s.heap.objs.size+1) scope.names []).lookup y.1).isSome=true):=fun⟨n,v⟩ hy=>by
  rcases S.par n (ϖ hy).1 with q|q
  .exact .inl q
  .exact .inr ⟨q,PySem.W.cellsFrom_some _ _ _<|.inl q⟩
 refine codeAny_call_function hr.depth (KX _ _ lk) rfl S.co S.gen rfl (PySem.W.codeRec_of KX aV)<|hb _ _ _ _ ?_;refine wpAny_newFunctionEnv_cells S.kind hkind fun env he s1 x=>?_;subst he;refine⟨lim.keeps x.toInCall.keep,codeAny_func ?_⟩;obtain⟨t,ht,hq⟩:=Ϲ A outer s H vs Q E (hr.deeper _) bF;have I:Inv (Wj CX P w K mg base N qual scope f ŷ A outer s H E) [] (start N vs) H s1:=No S hr.hd e0 hl r x;refine Ĉ (ht [] s1 (start N vs) H _ I hq) (fun fl s' hs=>?_) fun e s' hs=>hs;have fin:∀{Ĺ:St}{H':Hp}{v:V}{u:Á},Inv (Wj CX P w K mg base N qual scope f ŷ A outer s H E) [] Ĺ H' s'->RelV v u->Q v H'->CE outer P w H s Q u s' :=
  fun{Ĺ H' v u} J rv q=>⟨v,H',J.os,J.bare,J.base,J.hok,rv,q⟩
 cases fl with
 |ret u =>obtain⟨v,Ĺ,H',J,rv,q⟩:=hs;exact fin J rv q
 |next =>obtain⟨Ĺ,H',J,q⟩:=hs;exact fin (v:=V.non) (u:=Value.none) J rfl q
 |brk =>obtain⟨_,_,_,q⟩:=hs;exact ĉ q
 |cont =>obtain⟨_,_,_,q⟩:=hs;exact ĉ q
section
variable {X:Cx}{x:Str}{p ë:Pos}{e:Expr}{es:List Expr}{t:TA}{id T:String}{r:List V->Hp->VK->Prop}
noncomputable def tCB(r:List V->Hp->VK->Prop)(t:TA):TE:=fun σ H Q=>t σ H fun vs H1=>r vs H1 Q
theorem ZJ(hc:CallR X (.builtin id) r)(hg:Gl X x)(hm:X.mg x=none)(hv:ń x=some (.builtin id))(ha:PA X (e::es) t)(hn:x≠"__name__":=by decide)(Ο:(x==("__debug__" : Str))=false:=by decide)
  (he:Ð (e::es) X.env=(false,eval e X.env)::Ð es X.env:=by rfl) (hpl:(Ħ ë<|Ð es X.env).any (·.1)=false:=by rfl):PE X (.Call (.Name x p) (e::es) [] ë)<|tCB r t:=by
 intro À s σ H Q I h;refine Ō<|W5 I hg hm hv ?_ hn Ο;exact PyProof.Rows.callWith_builtin1 (thn (ha ë À s σ H _ I h) fun us s1 ⟨vs,H1,I1,r1,q1⟩=>hc À s1 σ H1 vs us Q I1 r1 q1) he hpl
theorem Xc(hc:CallR X (.type T) r)(hg:Gl X x)(hm:X.mg x=none)(hv:ń x=some (.type T))(ha:PA X (e::es) t)(hn:x≠"__name__":=by decide)(Ο:(x==("__debug__" : Str))=false:=by decide)
  (he:Ð (e::es) X.env=(false,eval e X.env)::Ð es X.env:=by rfl) (hpl:(Ħ ë<|Ð es X.env).any (·.1)=false:=by rfl):PE X (.Call (.Name x p) (e::es) [] ë)<|tCB r t:=by
 intro À s σ H Q I h;refine Ō<|W5 I hg hm hv ?_ hn Ο;exact PyProof.Rows.callWith_type1 (thn (ha ë À s σ H _ I h) fun us s1 ⟨vs,H1,I1,r1,q1⟩=>hc À s1 σ H1 vs us Q I1 r1 q1) he hpl
end
end L2
namespace HT
open PySem PyProof.Rows
noncomputable def lexLt:List Int->List Int->Bool
 |[],[]=>false
 |[],_::_=>true
 |_::_,[]=>false
 |x::xs,y::ys=>if x=y then lexLt xs ys else decide (x<y)
theorem lexLt_cons(x y:Int)(xs ys:List Int):lexLt (x::xs) (y::ys)=if x=y then lexLt xs ys else decide (x<y):=rfl
theorem Wi:lexLt [] []=false:=rfl
theorem XC(y:Int)(ys:List Int):lexLt [] (y::ys)=true:=rfl
theorem Wa(x:Int)(xs:List Int):lexLt (x::xs) []=false:=rfl
theorem eqAt_int(A:ć)(s:Â)(a:Int)(t:Tok)(c:Int)(u:Tok):∃e,SeqAt.EqAt A s (.int a t) (.int c u) e/\(e=true↔a=c) :=
 ⟨(a==c),SeqAt.EqAt.int_int a t c u,by simp⟩
theorem NT(A:ć)(s:Â)(a:Int)(t:Tok)(c:Int)(u:Tok)(prog:à)(w:þ)(E:Á->Â->Prop)(Q:Á->Â->Prop)(h:Q (.bool<|decide (a<c)) s) :
  wpAny (Ö prog w) A (richCompare .Lt (.int a t)<|.int c u) Q E s :=
 (PyProof.Rows.lt_int h:wpAny (Ö prog w) A (Ý .Lt (.int a t)<|.int c u) Q E s)
section
open PySem.SeqAt
open PySem.AutoSeq1 (wpAny_loadPart')
open PySem.MeetsSeq PySem.MeetsSeq2 PySem.MeetsSeq3
theorem Wf(l b:Ä)(items ħ:Array Á)(n n2:Nat)(dd bG:Option Ä)(sl aX:Array<|Option Á)(ns ms:List Int)(hi:Ĕ items.toList ns)(hj:Ĕ ħ.toList ms) :
  Meets (Builtin.«tuple.__lt__» ⟨[.ref l,.ref b],[]⟩)
   (fun _ R s=>s.heap.get? l=some { cls:=.type "tuple",dict:=dd,data:=.seq items n,slots:=sl }/\s.heap.get? b=some { cls:=.type "tuple",dict:=bG,data:=.seq ħ n2,slots:=aX }/\
     R (.ok<|.ret<|.bool<|lexLt ns ms) s) :=
 .of_wp fun prog w A R s h=>by
  obtain⟨hp,g,d,tk,os⟩:=s;obtain⟨hl,hb,h⟩:=h;have f2:=AutoSeq1.sub_tuple_tuple;have z1:items.size=ns.length:=by rw[<-hi.length];simp
  have z2:ħ.size=ms.length:=by rw[<-hj.length];simp
  wp_walk using Ī hl,Ī hb,wpAny_forIn_list _ (fun rest b s'=>b.1=none/\s'=⟨hp,g,d,tk,os⟩/\∃(vs ws:List Á) (bo bp:List Int),rest=vs.zip ws/\
    Ĕ vs bo/\Ĕ ws bp/\bo.length+ħ.size=bp.length+items.size/\R (.ok<|.ret<|.bool<|lexLt bo bp) ⟨hp,g,d,tk,os⟩) _
  case turn =>
   rintro⟨y,x⟩ rest b s' ⟨hb',rfl,vs,ws,bo,bp,hz,hvi,hwi,ģ,hR⟩;cases hvi with
   |nil=>rw[ŧ]at hz;cases hz
   |cons a t hvi' =>
    cases hwi with
    |nil=>rw[Š]at hz;cases hz
    |cons c u hwi' =>
     rw[Ĳ]at hz;injection hz with hyx hrest;injection hyx with hy hx;subst hy hx;rw[lexLt_cons]at hR;simp only[Å]at ģ;obtain⟨e,he,hiff⟩:=eqAt_int A.in1 ⟨hp,g,d,tk,os⟩ a t c u;refine Ã<|he prog w _ _ ?_;cases e with
     |true =>
      rw[if_pos<|hiff.mp rfl]at hR
      wp_walk
      exact⟨rfl,rfl,_,_,_,_,hrest,hvi',hwi',by omega,hR⟩
     |false =>
      rw[if_neg fun q=>absurd (hiff.mpr q) ú]at hR;have hri:=NT A.in1 ⟨hp,g,d,tk,os⟩ a t c u prog w
      wp_walk using hri
      exact⟨_,rfl,by simpa using hR⟩
  case fin =>
   rintro⟨b1,b2⟩ s' ⟨hb',rfl,vs,ws,bo,bp,hz,hvi,hwi,ģ,hR⟩;simp only at hb';subst hb';have hv:lexLt bo bp=decide (items.size<ħ.size):=by
    cases hvi with
    |nil =>
     cases hwi with
     |nil =>simp only[ä]at ģ;rw[Wi];exact(decide_eq_false<|by omega).symm
     |cons c u hw =>simp only[ä,Å]at ģ;rw[XC];exact(decide_eq_true<|by omega).symm
    |cons a t hv =>
     cases hwi with
     |nil =>simp only[ä,Å]at ģ;rw[Wa];exact(decide_eq_false<|by omega).symm
     |cons c u hw =>rw[Ĳ]at hz;cases hz
   rw[hv]at hR
   wp_walk
   exact⟨_,rfl,by simpa[Builtin.Tuple.tupleCompareSizes]using hR⟩
  case h =>exact⟨rfl,rfl,items.toList,ħ.toList,ns,ms,rfl,hi,hj,by omega,h⟩
end
section
variable {prog:à}{w:þ}{A:ć}{E:Á->Â->Prop}{s:Â}
variable {b:Ä} {items:Array Á} {Q:Á->Â->Prop}
theorem lt_tupInts{l:Ä}{ħ:Array Á}{ns ms:List Int}(hl:Ζ s.heap l items)(hb:Ζ s.heap b ħ)(hi:Ĕ items.toList ns)(hj:Ĕ ħ.toList ms)
  (hu:A.units<Ğ) (h:Q (.bool<|lexLt ns ms) s):wpAny (Ö prog w) A (Ý .Lt (.ref l)<|.ref b) Q E s:=by
 obtain⟨⟨cls,dd,data,sl⟩,ho,hc,n,hd⟩:=id hl;obtain⟨⟨cls2,bG,data2,aX⟩,ho2,hc2,n2,aJ⟩:=id hb;simp only at hc hd hc2 aJ;subst hc hd hc2 aJ;exact bL (op:=.Lt) ⟨_,ho,rfl⟩ ⟨_,ho2,rfl⟩ PySem.F.slot_tuple_lt PySem.F.entry_tuple_lt (PySem.F.args_tuple_lt_2 _ _) (Wf l b items ħ n n2 dd bG sl aX ns ms hi hj)
  ⟨ho,ho2,show Value.bool (lexLt ns ms)≠aq/\Q (.bool<|lexLt ns ms) s from ⟨(fun x=>nomatch x),h⟩⟩ hu
theorem cat_tup{t:Ä}{vs ws:List Á}(ht:Ζ s.heap t vs.toArray)(hb:Ζ s.heap b ws.toArray)(hv:vs≠[])
  (h1:ws=[]->Q (.ref t) s) (h2:ws≠[]->Q (.ref s.heap.objs.size) {s with heap:=s.heap.push {cls:=.type "tuple",data:=.seq (vs++ws).toArray}})
  (hsz:vs.length+ws.length<=Ô):wpAny (Ö prog w) A (Ĭ .Add (.ref t)<|.ref b) Q E s:=by
 obtain⟨⟨cls,dd,data,sl⟩,ho,hc,n,hd⟩:=id ht;obtain⟨⟨cls2,bG,data2,aX⟩,ho2,hc2,n2,aJ⟩:=id hb;simp only at hc hd hc2 aJ;subst hc hd hc2 aJ;have e:vs.toArray++ws.toArray=(vs++ws).toArray:=by simp
 by_cases hw:ws=[]
 .exact bM ⟨_,ho,rfl⟩ ⟨_,ho2,rfl⟩ Ϩ bd PySem.F.slot_tuple_add PySem.F.entry_tuple_add (PySem.F.args_tuple_add_2 _ _)
   (tuple_addW1 t b vs.toArray ws.toArray n n2 dd bG sl aX (by simpa using hv)<|by simp[hw]) ⟨ho,ho2,h1 hw⟩
 .refine bM ⟨_,ho,rfl⟩ ⟨_,ho2,rfl⟩ Ϩ bd PySem.F.slot_tuple_add PySem.F.entry_tuple_add (PySem.F.args_tuple_add_2 _ _)
   (tuple_addW2 t b vs.toArray ws.toArray n n2 dd bG sl aX (by simpa using hv) (by simpa using hw)<|by rw[Ê,Ê];exact hsz) ⟨ho,ho2,?_⟩
  rw[e];exact h2 hw
noncomputable def sIx(n d:Nat):Option Int->Nat
 |none=>d
 |some v=>if v<0 then(v+(n:Int)).toNat else min v.toNat n
theorem D7(n d:Nat)(hd:d<=n)(o:Option Int):sIx n d o<=n:=by
 cases o with
 |none=>exact hd
 |some v =>
  show(if v<0 then(v+(n:Int)).toNat else min v.toNat n)<=n;by_cases hv:v<0
  .rw[if_pos hv];omega
  .rw[if_neg hv];exact ώ _ _
theorem clip_eq(v:Int)(n d:Nat):(if v<0 then max (v+(n:Int)) 0 else min v (n:Int))=((sIx n d (some v):Nat):Int):=by
 show(if v<0 then max (v+(n:Int)) 0 else min v (n:Int))=(((if v<0 then(v+(n:Int)).toNat else min v.toNat n):Nat):Int)
 by_cases hv:v<0
 .simp only[if_pos hv];omega
 .simp only[if_neg hv];omega
theorem Ko(lo hi:Option Int)(n:Nat):Builtin.Slice.sliceAdjust lo hi 1 (n:Int)=(((sIx n 0 lo:Nat):Int),((sIx n n hi:Nat):Int)):=by
 have h1:¬ ((1:Int)<0):=by omega
 unfold Builtin.Slice.sliceAdjust;simp only[h1,if_false];refine Prod.ext ?_ ?_
 .cases lo with
  |none=>rfl
  |some v=>exact clip_eq v n 0
 .cases hi with
  |none=>rfl
  |some v=>exact clip_eq v n n
theorem KR(i j:Nat):Builtin.Slice.slicePlaces (i:Int) (j:Int) 1=j - i:=by
 unfold Builtin.Slice.slicePlaces;have h1:(1:Int) > 0:=by omega
 simp only[h1,if_true,Int.ediv_one];split<;>omega
theorem XZ{v:Á}{o:Option Int}{Q:Option Int->Â->Prop}(p:ι v o)(h:Q o s):wpAny (Ö prog w) A (Builtin.Slice.slicePartIndex v) Q E s:=by
 cases p with
 |none=>exact slicePart_none h
 |int i t=>exact slicePart_int h
variable {sl:Ä} {vl:Á} {vu:Á} {lo:Option Int} {hi:Option Int}
theorem Z0{n:Nat}{Q:Int×Int×Nat->Â->Prop}(hs:s.heap.IsSliceOf sl vl vu .none)(pl:ι vl lo)(pu:ι vu hi)
  (h:Q (((sIx n 0 lo:Nat):Int),1,sIx n n hi - sIx n 0 lo) s):wpAny (Ö prog w) A (Builtin.Slice.sliceApplied (.ref sl)<|pure (n:Int)) Q E s:=by
 obtain⟨os,hos,hcs,hds⟩:=id hs;unfold Builtin.Slice.sliceApplied Builtin.Slice.sliceFields;refine Ã<|Ã<|Į hos hds (x:=vl) rfl<|Ã<|Į hos hds (x:=vu) rfl<|Ã<|Į hos hds (x:=.none) rfl<|Ñ ?_;refine Ã<|slicePart_none ?_;show wpAny _ _ (if((1:Int)==0)=true then _ else _) _ _ s;rw[if_neg<|by decide];refine Ã<|XZ pl<|Ã<|XZ pu<|Ã<|Ñ ?_;show wpAny _ _ (match Builtin.Slice.sliceAdjust lo hi 1 (n:Int)with|(lo,hi)=>pure (lo,(1:Int),Builtin.Slice.slicePlaces lo hi 1)) _ _ s;rw[Ko lo hi n];show wpAny _ _ (pure (((sIx n 0 lo:Nat):Int),(1:Int),Builtin.Slice.slicePlaces ((sIx n 0 lo:Nat):Int) ((sIx n n hi:Nat):Int) 1)) _ _ s;rw[KR];exact Ñ h
theorem OP(xs:Array Á)(i k:Nat):((List.range k).filterMap fun(m:Nat)=>xs[((i:Int)+(m:Int)*1).toNat]?).toArray=((xs.toList.drop i).take k).toArray:=by
 have e:(fun(m:Nat)=>xs[((i:Int)+(m:Int)*1).toNat]?)=fun m=>xs[i+m]?:=by
  funext m;have:((i:Int)+(m:Int)*1).toNat=i+m:=by omega
  rw[this]
 rw[e];have:=pick_run xs i k;rw[bz]at this;have e2:((fun x=>xs[x]?) ∘ fun x=>i+x)=fun m=>xs[i+m]?:=rfl;rw[e2]at this;rw[this]
theorem getItem_tuple_cut{t:Ä}(ht:Ζ s.heap t items)(hs:s.heap.IsSliceOf sl vl vu .none)(pl:ι vl lo)(pu:ι vu hi)
  (hw:¬ (sIx items.size 0 lo=0/\sIx items.size items.size hi=items.size))
  (h:Q (.ref s.heap.objs.size) {s with heap:=s.heap.push {cls:=.type "tuple",data:=.seq ((items.toList.drop<|sIx items.size 0 lo).take<|sIx items.size items.size hi - sIx items.size 0 lo).toArray}})
  (hsz:items.size<=Ô):wpAny (Ö prog w) A (θ (.ref t)<|.ref sl) Q E s:=by
 have aY:sizeOk<|.seq ((items.toList.drop<|sIx items.size 0 lo).take<|sIx items.size items.size hi - sIx items.size 0 lo).toArray:=by show((items.toList.drop<|sIx items.size 0 lo).take<|sIx items.size items.size hi - sIx items.size 0 lo).toArray.size<=Ô;rw[Ê,ċ,Ę,η];omega
 have hj:sIx items.size items.size hi<=items.size:=D7 _ _ (Ø _) hi;obtain⟨os,hos,hcs,hds⟩:=id hs;have hTs:s.TypeIs (.ref sl) "slice":=⟨os,hos,hcs⟩
 unfold θ
 try with_reducible refine ϋ ?_
 first|refine Ã (Ñ ?_)|skip
 refine Ã (wpAny_sequenceKey ht.typeIs (by decide) ?_);refine Ã (ŏ (name:=Str.ofString "__getitem__") ht.typeIs PyProof.Rows.slot_tuple_getitem
   (ř PyProof.Rows.slot_tuple_getitem ht.typeIs entry_tuple_getitem ?_<|args_tuple_getitem _ _))
 show wpAny _ _ (Builtin.Tuple.tupleItemsOf (.ref t) >>= _) _ _ s;refine Ã<|tupleItemsOf_ ht ?_;refine Ã<|bN hTs ?_;rw[if_pos<|by decide];refine Ã<|Z0 hs pl pu ?_;have hno:¬ ((((sIx items.size 0 lo:Nat):Int)==0&&(1:Int)==1&&(sIx items.size items.size hi - sIx items.size 0 lo)==items.size)=true):=by intro q;rw[bAq,bAq]at q;have q1:((sIx items.size 0 lo:Nat):Int)=0:=eq_of_beq q.1.1;have q2:sIx items.size items.size hi - sIx items.size 0 lo=items.size:=eq_of_beq q.2;exact hw ⟨by omega,by omega⟩
 show wpAny _ _ (if(((sIx items.size 0 lo:Nat):Int)==0&&(1:Int)==1&&(sIx items.size items.size hi - sIx items.size 0 lo)==items.size)=true then _ else _) _ _ s;rw[if_neg hno,OP]
 first
  |exact Ã (m:=Builtin.Tuple.tupleExact _)<|ĕ (Ñ ⟨_,rfl,Ñ h⟩) aY
  |exact Ã (m:=Builtin.Tuple.tupleExact _)<|ĕ (Ã<|Ñ<|Ñ ⟨_,rfl,Ñ h⟩) aY
  |exact Ã<|Ã (m:=Builtin.Tuple.tupleExact _)<|ĕ (Ñ<|Ñ ⟨_,rfl,Ñ h⟩) aY
  |exact Ã<|Ã (m:=Builtin.Tuple.tupleExact _)<|ĕ (Ñ ⟨_,rfl,Ñ h⟩) aY
end
end HT
namespace L2
open PySem PySem.Spec PyProof.Rows
noncomputable abbrev TO:=St->Hp->(Option Int->Hp->Prop)->Prop
def PO(X:Cx)(e:Option Expr)(t:TO):Prop :=
 ∀(À:List<|Ä×Obj) (s:Â) (σ:St) (H:Hp) (Q:Option Int->Hp->Prop),Inv X À σ H s->t σ H Q->
  wpAny (Ö X.prog X.w) X.A (evalPart e X.env) (fun u s'=>∃o H',Inv X À σ H' s'/\ι u o/\Q o H') X.xe s
noncomputable def Ah:TO:=fun _ H Q=>Q none H
noncomputable def FK(t:TE):TO:=fun σ H Q=>t σ H fun x H1=>∃i,x=.int i/\Q (some i) H1
theorem ZS{ns:List Int}:∀{us:List Á},Vals (ns.map V.int) us->Ĕ us ns:=by
 induction ns with
 |nil=>intro us r;rw[af]at r;cases r;exact .nil
 |cons n ns ih =>
  intro us r;rw[Ó]at r;cases r with
  |cons r1 r2 =>obtain⟨t,e⟩:=r1;subst e;exact .cons n t<|ih r2
section
variable {X:Cx}{e:Expr}{te:TE}{lo hi:Option Expr}{tl th:TO}{ë p2:Pos}
theorem po_none:PO X none Ah:=by intro À s σ H Q I h;rw[evalPart_none];exact Ñ ⟨none,H,I,.none,h⟩
theorem As(h:PE X e te):PO X (some e)<|FK te:=by intro À s σ H Q I hw;rw[evalPart_some];refine thn (h À s σ H _ I hw) fun u s1 ⟨x,H1,I1,r1,q1⟩=>?_;obtain⟨i,rfl,q⟩:=q1;obtain⟨t,rfl⟩:=r1;exact⟨some i,H1,I1,.int i t,q⟩
def SlR(X:Cx)(r:V->Option Int->Option Int->Hp->VK->Prop):Prop :=
 ∀(À:List<|Ä×Obj) (s:Â) (σ:St) (H:Hp) (x:V) (v vl vu:Á) (lo hi:Option Int) (sl:Ä) (Q:VK),Inv X À σ H s->RelV x v->s.heap.IsSliceOf sl vl vu .none->ι vl lo->ι vu hi->r x lo hi H Q->
  ∃T id,typeLookup (.type T) "__getitem__" = pure (some<|.builtin id)/\s.TypeIs v T/\wpAny (Ö X.prog X.w) X.A (θ v<|.ref sl) (EP X À σ Q) X.xe s
variable {r:V->Option Int->Option Int->Hp->VK->Prop}
theorem SlR.or{r':V->Option Int->Option Int->Hp->VK->Prop}(h:SlR X r)(h':SlR X r'):SlR X fun x lo hi H Q=>r x lo hi H Q\/r' x lo hi H Q:=by
 intro À s σ H x v vl vu lo hi sl Q I rx hs pl pu q;rcases q with q|q
 .exact h À s σ H x v vl vu lo hi sl Q I rx hs pl pu q
 .exact h' À s σ H x v vl vu lo hi sl Q I rx hs pl pu q
noncomputable def tSl(r:V->Option Int->Option Int->Hp->VK->Prop)(te:TE)(tl th:TO):TE:=fun σ H Q=>te σ H fun x H1=>tl σ H1 fun l H2=>th σ H2 fun u H3=>r x l u H3 Q
theorem Od(hr:SlR X r)(he:PE X e te)(hl:PO X lo tl)(hu:PO X hi th):PE X (.Subscript e (.Slice lo hi none p2) ë)<|tSl r te tl th:=by intro À s σ H Q I h;refine Subscript_<|thn (he À s σ H _ I h) fun v s1 ⟨x,H1,I1,r1,q1⟩=>?_;refine wpAny_Slice<|thn (hl À s1 σ H1 _ I1 q1) fun vl s2 ⟨l,H2,I2,pl,q2⟩=>thn (hu À s2 σ H2 _ I2 q2) fun vu s3 ⟨u,H3,I3,pu,q3⟩=>?_;rw[evalPart_none];refine Ñ ?_;have I4:Inv X À σ H3 {s3 with heap:=s3.heap.push {cls:=.type "slice",data:=.fields #[vl,vu,.none]}}:=I3.kept (t':=s3.toks) fun b ob q=>Ì _ q;obtain⟨T,id,hT,ht,hg⟩:=hr À {s3 with heap:=s3.heap.push {cls:=.type "slice",data:=.fields #[vl,vu,.none]}} σ H3 x v vl vu l u s3.heap.objs.size Q I4 r1 (Heap.IsSliceOf.new ..) pl pu q3;show wpAny (Ö X.prog X.w) X.A (be e (.Slice lo hi none p2) v<|.ref s3.heap.objs.size) (EP X À σ Q) X.xe {s3 with heap:=s3.heap.push {cls:=.type "slice",data:=.fields #[vl,vu,.none]}};exact tail_any (ops:=[.ref s3.heap.objs.size,v]) ht hT hg (by with_unfolding_all rfl)
noncomputable def Jr(xs:List V)(lo hi:Option Int):List V:=(xs.drop<|HT.sIx xs.length 0 lo).take<|HT.sIx xs.length xs.length hi - HT.sIx xs.length 0 lo
theorem Xh(xs:List V)(lo hi:Option Int):(Jr xs lo hi).length<=xs.length:=by unfold Jr;rw[ċ,Ę];omega
def Gi(K:PySem.W.Frag):V->Option Int->Option Int->Hp->VK->Prop:=fun x lo hi H Q=>∃a xs,x=.ref a/\SqT K H a xs/\
 ¬ (HT.sIx xs.length 0 lo=0/\HT.sIx xs.length xs.length hi=xs.length)/\∀p,H p=none->Q (.ref p) (upd H p<|.tup<|Jr xs lo hi)
theorem sl_tup:SlR X<|Gi X.K:=by
 intro À s σ H x v vl vu lo hi sl Q I rx hs pl pu h;obtain⟨a,xs,rfl,hx,hw,q⟩:=h;cases rx;obtain⟨ò,r,ht,hz⟩:=I.tuple hx;have ģ:ò.toArray.size=xs.length:=by rw[Ê];exact r.length.symm
 refine⟨"tuple",_,PyProof.Rows.slot_tuple_getitem.lookup,ht.typeIs,?_⟩;refine HT.getItem_tuple_cut ht hs pl pu (by rw[ģ];exact hw) ?_ (by rw[ģ];exact hz);rw[ģ];refine⟨.ref s.heap.objs.size,_,I.laid (t':=s.toks) (o:=.tup<|Jr xs lo hi) (fun b ob q=>Ì _ q) (Ø _) ?_,rfl,q _<|I.hok.fresh<|Ø _⟩;exact⟨Ç (Xh xs lo hi) hz,_,(r.drop<|HT.sIx xs.length 0 lo).take<|HT.sIx xs.length xs.length hi - HT.sIx xs.length 0 lo,IsTup.new _ _⟩
noncomputable def FR(K:PySem.W.Frag):R2:=fun x y H Q=>∃a b ns ms,x=.ref a/\y=.ref b/\SqT K H a (ns.map V.int)/\SqT K H b (ms.map V.int)/\Q (.bl<|HT.lexLt ns ms) H
theorem Ey(hu:X.A.units<Ğ):OpR X (Ý .Lt)<|FR X.K:=by intro À s σ H x y v u Q I rx ry h;obtain⟨a,b,ns,ms,rfl,rfl,ha,hb,q⟩:=h;cases rx;cases ry;obtain⟨ò,r1,p1,_⟩:=I.tuple ha;obtain⟨ſ,r2,p2,_⟩:=I.tuple hb;have i1:Ĕ ò.toArray.toList ns:=ZS r1;have i2:Ĕ ſ.toArray.toList ms:=ZS r2;exact HT.lt_tupInts p1 p2 i1 i2 hu ⟨.bl<|HT.lexLt ns ms,H,I,rfl,q⟩
noncomputable def BU(K:PySem.W.Frag):R2:=fun x y H Q=>∃a b xs ys,x=.ref a/\y=.ref b/\SqT K H a xs/\SqT K H b ys/\xs≠[]/\xs.length+ys.length<=Ô/\
 (ys=[]->Q (.ref a) H)/\(ys≠[]->∀p,H p=none->Q (.ref p) (upd H p<|.tup<|xs++ys))
theorem Vals.nil_iff{xs:List V}{us:List Á}(r:Vals xs us):us=[]↔xs=[]:=by
 cases r with
 |nil=>simp
 |cons _ _=>simp
theorem A8:OpR X (Ĭ .Add)<|BU X.K:=by intro À s σ H x y v u Q I rx ry h;obtain⟨a,b,xs,ys,rfl,rfl,ha,hb,hx,hz,q1,q2⟩:=h;cases rx;cases ry;obtain⟨ò,r1,p1,_⟩:=I.tuple ha;obtain⟨ſ,r2,p2,_⟩:=I.tuple hb;refine HT.cat_tup p1 p2 (fun z=>hx<|r1.nil_iff.mp z) (fun z=>⟨.ref a,H,I,rfl,q1<|r2.nil_iff.mp z⟩) (fun z=>?_) (by rw[<-r1.length,<-r2.length];exact hz);refine⟨.ref s.heap.objs.size,_,I.laid (t':=s.toks) (o:=.tup<|xs++ys) (fun b ob q=>Ì _ q) (Ø _) ?_,rfl,q2 (fun w=>z<|r2.nil_iff.mpr w) _<|I.hok.fresh<|Ø _⟩;exact⟨by rw[Ï];exact hz,_,r1.append r2,IsTup.new _ _⟩
end
noncomputable def ixN(n:Nat)(i:Int):Option Nat:=if 0<=i then(if i<n then some i.toNat else none)else if -(n:Int)<=i then some (i+n).toNat else none
variable {α:Type}
noncomputable def atI(xs:List α)(i:Int):Option α:=(ixN xs.length i).bind fun j=>xs[j]?
variable {i:Int}
theorem Mz{n:Nat}{j:Nat}(h:ixN n i=some j):seqIndex? i n=some j/\j<n/\-(n:Int)<=i/\i<n:=by
 unfold ixN at h;by_cases h0:0<=i
 .rw[if_pos h0]at h;by_cases h1:i<n
  .rw[if_pos h1]at h;have e:i.toNat=j:=Ā h;exact⟨by rw[seqIndex_of h0 h1,e],by omega,by omega,h1⟩
  .rw[if_neg h1]at h;cases h
 .rw[if_neg h0]at h;by_cases h1:-(n:Int)<=i
  .rw[if_pos h1]at h;have e:(i+n).toNat=j:=Ā h;exact⟨by rw[seqIndex_neg (by omega) h1,e],by omega,h1,by omega⟩
  .rw[if_neg h1]at h;cases h
theorem Js{xs:List α}{v:α}(h:atI xs i=some v):∃j,seqIndex? i xs.length=some j/\xs[j]?=some v/\j<xs.length/\-(xs.length:Int)<=i/\i<xs.length:=by
 unfold atI at h;cases e:ixN xs.length i with
 |none=>rw[e]at h;cases h
 |some j =>rw[e]at h;obtain⟨h1,h2,h3,h4⟩:=Mz e;exact⟨j,h1,h,h2,h3,h4⟩
def JA(b:Expr):Prop:=∀o i,subscripted b false o i=operate [o,i] (θ o i)
def IxR(X:Cx)(r:R2):Prop :=
 ∀(ω slice:Expr) (À:List<|Ä×Obj) (s:Â) (σ:St) (H:Hp) (x y:V) (v u:Á) (Q:VK),Inv X À σ H s->RelV x v->RelV y u->r x y H Q->
  subscripted slice false v u=operate [v,u] (θ v u)->wpAny (Ö X.prog X.w) X.A (be ω slice v u) (EP X À σ Q) X.xe s
def MtR(X:Cx)(id:String)(r:V->List V->Hp->VK->Prop):Prop :=
 ∀(À:List<|Ä×Obj) (s:Â) (σ:St) (H:Hp) (x:V) (xs:List V) (v:Á) (us:List Á) (Q:VK),Inv X À σ H s->RelV x v->Vals xs us->r x xs H Q->
  wpAny (Ö X.prog X.w) X.A (call (.builtin id)<|v::us) (EP X À σ Q) X.xe s
section
variable {X:Cx}{a b:Expr}{ta tb:TE}{ë:Pos}
variable {r:R2}
theorem IxR.or{r':R2}(h:IxR X r)(h':IxR X r'):IxR X fun x y H Q=>r x y H Q\/r' x y H Q:=by
 intro ω slice À s σ H x y v u Q I rx ry q hs;rcases q with q|q
 .exact h ω slice À s σ H x y v u Q I rx ry q hs
 .exact h' ω slice À s σ H x y v u Q I rx ry q hs
theorem MtR.or{id:String}{r r':V->List V->Hp->VK->Prop}(h:MtR X id r)(h':MtR X id r'):MtR X id fun x xs H Q=>r x xs H Q\/r' x xs H Q:=by
 intro À s σ H x xs v us Q I rx rs q;rcases q with q|q
 .exact h À s σ H x xs v us Q I rx rs q
 .exact h' À s σ H x xs v us Q I rx rs q
theorem Gh(hr:IxR X r)(ha:PE X a ta)(hb:PE X b tb)(hs:JA b):PE X (.Subscript a b ë)<|tOp r ta tb:=by intro À s σ H Q I h;exact Subscript_ (EB ha hb I h fun v u s2 x y H2 I2 rx ry q=>hr a b À s2 σ H2 x y v u Q I2 rx ry q<|hs _ _)
noncomputable def Fk(K:PySem.W.Frag):R2:=fun x y H Q=>∃p xs i v,x=.ref p/\y=.int i/\SqL K H p xs/\atI xs i=some v/\Q v H
noncomputable def FE(K:PySem.W.Frag):R2:=fun x y H Q=>∃p xs i v,x=.ref p/\y=.int i/\SqT K H p xs/\atI xs i=some v/\Q v H
noncomputable def Fo:R2:=fun x y H Q=>∃z i c,x=.str z/\y=.int i/\z.length<=Ô/\atI z.cps.toList i=some c/\Q (.str ⟨#[c]⟩) H
theorem ix_list:IxR X<|Fk X.K:=by
 intro ω slice À s σ H x y v u Q I rx ry h hs;obtain⟨p,xs,i,z,rfl,rfl,hq,he,q⟩:=h;cases rx;obtain⟨t,rfl⟩:=ry;obtain⟨ò,r,pl,hz⟩:=I.list hq;obtain⟨j,h1,h2,h3,h4,h5⟩:=Js he;obtain⟨w,ew,rw'⟩:=r.get h2;have hl:=r.length;have hn:=Xf;have fin:EP X À σ Q w s:=⟨z,H,I,rw',q⟩
 by_cases h0:0<=i
 .have hj:i.toNat=j:=by
   rw[seqIndex_of h0 h5]at h1;exact Ā h1
  exact item_listR pl.isList h0 (by omega) (by rw[hj];simpa using ew) fin hs
 .have hj:(i+(ò.toArray.size:Int)).toNat=j:=by
   rw[seqIndex_neg (by omega) h4]at h1;rw[Ê,<-hl];exact Ā h1
  exact bO (x:=w) pl.isList.typeIs slot_list_getitem.lookup
   (wpAny_getItem_list_neg (Q:=fun r s'=>r=w/\EP X À σ Q r s') pl.isList (by omega) (by rw[Ê]<;>omega) (by omega) (by rw[hj];simpa using ew) ⟨rfl,fin⟩) hs
theorem ix_tup:IxR X<|FE X.K:=by
 intro ω slice À s σ H x y v u Q I rx ry h hs;obtain⟨p,xs,i,z,rfl,rfl,hq,he,q⟩:=h;cases rx;obtain⟨t,rfl⟩:=ry;obtain⟨ò,r,pl,hz⟩:=I.tuple hq;obtain⟨j,h1,h2,h3,h4,h5⟩:=Js he;obtain⟨w,ew,rw'⟩:=r.get h2;have hl:=r.length;have hn:=Xf;have fin:EP X À σ Q w s:=⟨z,H,I,rw',q⟩
 exact bO (x:=w) pl.typeIs slot_tuple_getitem.lookup
  (getItem_tuple (j:=j) (Q:=fun r s'=>r=w/\EP X À σ Q r s') pl (by omega) (by omega) (by rw[Ê,<-hl];exact h1) (by simpa using ew) ⟨rfl,fin⟩) hs
theorem ix_str:IxR X Fo:=by
 intro ω slice À s σ H x y v u Q I rx ry h hs;obtain⟨z,i,c,rfl,rfl,hz,he,q⟩:=h;obtain⟨t,rfl⟩:=rx;obtain⟨t',rfl⟩:=ry;obtain⟨j,h1,h2,h3,h4,h5⟩:=Js he;have hl:z.cps.toList.length=z.length:=by simp[Str.length]
 rw[hl]at h1 h4 h5;have hn:=Xf;exact tail_any (μ s z t) slot_str_getitem.lookup (getItem_str (c:=c) (by
   have e1:decide (i < -(2 ^ 63:Int))=false:=decide_eq_false (by omega)
   have e2:decide (i≥2 ^ 63)=false:=decide_eq_false (by omega)
   rw[e1,e2,ϰ]) (by rw[h1];simpa using h2) ⟨.str ⟨#[c]⟩,H,I.tok _,⟨_,rfl⟩,q⟩) hs
noncomputable def rIx(K:PySem.W.Frag):R2:=fun x y H Q=>Fk K x y H Q\/FE K x y H Q\/Fo x y H Q
theorem ix_seq:IxR X<|rIx X.K:=ix_list.or (ix_tup.or ix_str)
theorem Inv.lst{À:List (Ä×Obj)}{σ:St}{H:Hp}{s:Â}{p:Ä}{xs:List V}(I:Inv X À σ H s)(h:H p=some (.lst xs)) :
  ∃(ò:List Á) (n:Nat),Vals xs ò/\s.heap.get? p=some {cls:=.type "list",data:=.seq ò.toArray n}/\xs.length<=Ô:=by
 obtain⟨z,ò,n,r,e⟩:=I.hok p _ h;exact⟨ò,n,r,e,z⟩
theorem Jx(lo hi:Option Int)(n:Nat):(ŝ lo hi none n).1=((HT.sIx n 0 lo:Nat):Int)/\(ŝ lo hi none n).2.1=((HT.sIx n n hi:Nat):Int)/\(ŝ lo hi none n).2.2=1:=by
 refine⟨?_,?_,rfl⟩
 .cases lo with
  |none=>simp[ŝ,HT.sIx]
  |some i =>
   simp only[ŝ,HT.sIx,bA,show(1:Int) > 0 by decide,if_true];by_cases h:i<0
   .simp only[h,if_true]<;>omega
   .simp only[h,if_false]<;>omega
 .cases hi with
  |none=>simp[ŝ,HT.sIx]
  |some i =>
   simp only[ŝ,HT.sIx,bA,show(1:Int) > 0 by decide,if_true];by_cases h:i<0
   .simp only[h,if_true]<;>omega
   .simp only[h,if_false]<;>omega
theorem Wd(ò:List Á)(lo hi:Option Int):slicePick ò.toArray lo hi none=((ò.drop<|HT.sIx ò.length 0 lo).take<|HT.sIx ò.length ò.length hi - HT.sIx ò.length 0 lo).toArray:=by obtain⟨h1,h2,h3⟩:=Jx lo hi ò.toArray.size;unfold slicePick;rw[h1,h2,h3];simp only[sliceRange_one,pick_run,Ê]<;>rfl
def Fw(K:PySem.W.Frag):V->Option Int->Option Int->Hp->VK->Prop:=fun x lo hi H Q=>∃a xs,x=.ref a/\SqL K H a xs/\∀p,H p=none->Q (.ref p) (upd H p<|.lst<|Jr xs lo hi)
theorem sl_list:SlR X<|Fw X.K:=by intro À s σ H x v vl vu lo hi sl Q I rx hs pl pu h;obtain⟨a,xs,rfl,hx,q⟩:=h;cases rx;obtain⟨ò,r,ht,hz⟩:=I.list hx;have ģ:=r.length;refine⟨"list",_,slot_list_getitem.lookup,ht.isList.typeIs,?_⟩;refine wpAny_getItem_list_slice ht.isList hs pl pu .none (by simp) ?_ (by rw[Ê]<;>omega);rw[Wd,<-ģ];refine⟨.ref s.heap.objs.size,_,I.laid (t':=s.toks) (o:=.lst<|Jr xs lo hi) (fun b ob q=>Ì _ q) (Ø _) ?_,rfl,q _<|I.hok.fresh<|Ø _⟩;exact⟨Ç (Xh xs lo hi) hz,_,0,(r.drop<|HT.sIx xs.length 0 lo).take<|HT.sIx xs.length xs.length hi - HT.sIx xs.length 0 lo,è _ rfl⟩
noncomputable def eqV:V->V->Bool
 |.non,.non=>true
 |.bl a,.bl b=>a==b
 |.bl a,.int b=>(if a then 1 else 0)==b
 |.int a,.bl b=>a==(if b then 1 else 0)
 |.int a,.int b=>a==b
 |.str a,.str b=>a==b
 |_,_=>false
noncomputable def inV(x:V)(xs:List V):Bool:=xs.any fun y=>eqV y x
theorem Ju:OpR X (Ý .NotIn) fun x y H Q=>∃i j,x=.str i/\y=.str j/\Q (.bl (!(!(Builtin.Str.occurrences j i 0 j.length 1).isEmpty))) H:=by intro À s σ H x y v u Q I rx ry h;obtain⟨i,j,rfl,rfl,q⟩:=h;obtain⟨t,rfl⟩:=rx;obtain⟨t',rfl⟩:=ry;exact notIn_str ⟨.bl _,H,I,rfl,q⟩
theorem call_len_seq:CallR X (.builtin "len") fun xs H Q=>∃p ys,xs=[.ref p]/\(SqL X.K H p ys\/SqT X.K H p ys)/\Q (.int ys.length) H:=by
 intro À s σ H xs us Q I r h;obtain⟨p,ys,rfl,hq,q⟩:=h;obtain⟨u,rfl,rx⟩:=Ye r;cases rx;have hn:=Xf;rcases hq with hq|hq
 .obtain⟨ò,r',pl,hz⟩:=I.list hq;have ģ:=r'.length;exact Calls.call_len_list pl.isList (by simp only[Ê]<;>omega) ⟨.int ys.length,H,I.tok _,⟨s.toks+1,by rw[Ê,ģ]⟩,q⟩
 .obtain⟨ò,r',pl,hz⟩:=I.tuple hq;have ģ:=r'.length;exact len_tuple pl (by simp only[Ê]<;>omega) ⟨.int ys.length,H,I.tok _,⟨s.toks+1,by rw[Ê,ģ]⟩,q⟩
theorem Jy:CallR X (.builtin "len") fun xs H Q=>∃z,xs=[.str z]/\z.length<=Ô/\Q (.int z.length) H:=by intro À s σ H xs us Q I r h;obtain⟨z,rfl,hz,q⟩:=h;obtain⟨u,rfl,t,rfl⟩:=Ye r;have hn:=Xf;exact len_str (by omega) ⟨.int z.length,H,I.tok _,⟨_,rfl⟩,q⟩
theorem CallR.or{f:Á}{r r':List V->Hp->VK->Prop}(h:CallR X f r)(h':CallR X f r'):CallR X f fun xs H Q=>r xs H Q\/r' xs H Q:=by
 intro À s σ H xs us Q I rs q;rcases q with q|q
 .exact h À s σ H xs us Q I rs q
 .exact h' À s σ H xs us Q I rs q
theorem Wk:CallR X (.type "tuple") fun xs H Q=>∃p ys,xs=[.ref p]/\((SqL X.K H p ys/\∀l,H l=none->Q (.ref l) (upd H l<|.tup ys))\/(SqT X.K H p ys/\Q (.ref p) H)):=by
 intro À s σ H xs us Q I r h;obtain⟨p,ys,rfl,h⟩:=h;obtain⟨u,rfl,rx⟩:=Ye r;cases rx;rcases h with⟨hq,q⟩|⟨hq,q⟩
 .obtain⟨ò,r',pl,hz⟩:=I.list hq;have ģ:=r'.length;refine call_tuple_list pl.isList (fun h' kp=>?_) (by simp only[Ê]<;>omega);have I1:Inv X À σ H {s with heap:=h'}:=I.kept (t':=s.toks) kp;have I2:Inv X À σ (upd H h'.objs.size<|.tup ys) {s with heap:=h'.push {cls:=.type "tuple",data:=.seq ò.toArray}} :=
   I1.laid (t':=s.toks) (fun b o e=>Ì _ e) (Ø _) (show ObjOk X.prog X.w _ _ _ (.tup ys) from ⟨hz,ò,r',IsTup.new _ _⟩)
  exact⟨.ref h'.objs.size,_,I2,rfl,q _<|I1.hok.fresh<|Ø _⟩
 .obtain⟨ò,r',pl,hz⟩:=I.tuple hq;exact call_tuple_same pl ⟨.ref p,H,I,rfl,q⟩
def tyV(K:PySem.W.Frag)(T:String)(x:V)(H:Hp):Prop:=match x with
 |.str _=>T = "str"
 |.int _=>T = "int"
 |.ref p=>(T = "list"/\∃xs,SqL K H p xs)\/(T = "tuple"/\∃o,K.lookup p=some o/\o.cls=.type "tuple"/\o.dict=none)\/
   (T = "dict"/\((∃kvs,H p=some (.dK kvs))\/∃kvs,H p=some (.dT kvs)))\/(T = "set"/\∃S n,H p=some (.set S n))
 |_=>False
theorem Dj{À:List (Ä×Obj)}{σ:St}{H:Hp}{s:Â}{T:String}{x:V}{v:Á}(I:Inv X À σ H s)(r:RelV x v)(ty:tyV X.K T x H) :
  s.TypeIs v T/\∀a,v=.ref a->∃ob,s.heap.get? a=some ob/\ob.dict=none:=by
 cases x with
 |str z =>obtain⟨t,rfl⟩:=r;cases (show T = "str" from ty);exact⟨μ s z t,fun _ e=>nomatch e⟩
 |int i =>obtain⟨t,rfl⟩:=r;cases (show T = "int" from ty);exact⟨typeIs_int s i t,fun _ e=>nomatch e⟩
 |ref p =>
  cases r;rcases ty with⟨rfl,xs,hq⟩|⟨rfl,o,hk,hc,hd⟩|⟨rfl,hk⟩|⟨rfl,S,n,hk⟩
  .obtain⟨ò,_,pl,_⟩:=I.list hq;refine⟨pl.isList.typeIs,fun a e=>?_⟩;cases e;obtain⟨o,n,e,c,hd,_⟩:=pl;exact⟨o,e,hd⟩
  .refine⟨⟨o,I.kIn p o hk,hc⟩,fun a e=>?_⟩;cases e;exact⟨o,I.kIn _ o hk,hd⟩
  .have z:∃o,s.heap.get? p=some o/\o.ExactDict:=by
    rcases hk with⟨kvs,hk⟩|⟨kvs,hk⟩
    .obtain⟨_,_,_,_,o,_,_,e,ex,_⟩:=I.hok p _ hk;exact⟨o,e,ex⟩
    .obtain⟨_,_,_,_,o,_,_,e,ex,_⟩:=I.hok p _ hk;exact⟨o,e,ex⟩
   obtain⟨o,e,ex⟩:=z;refine⟨⟨o,e,ex.1⟩,fun a e2=>?_⟩;cases e2;exact⟨o,e,ex.2.1⟩
  .obtain⟨o,_,_,_,e,ex,_⟩:=I.hok p _ hk;refine⟨⟨o,e,ex.1⟩,fun a e2=>?_⟩;cases e2;exact⟨o,e,ex.2.1⟩
 |_=>exact ĉ ty
noncomputable def tBM(K:PySem.W.Frag)(T:String)(r:V->List V->Hp->VK->Prop)(to:TE)(t:TA):TE:=fun σ H Q=>to σ H fun x H1=>tyV K T x H1/\t σ H1 fun xs H2=>r x xs H2 Q
variable {o e:Expr}{es:List Expr}{to:TE}{t:TA}{name:Str}{ο ŀ:Pos}{T id:String}{r:V->List V->Hp->VK->Prop}
theorem BV(pa:PlainAttrs T)(slot:Slot T name id)(hty:bP (.builtin id)=pure (.type "method_descriptor"))(hm:MtR X id r)(ho:PE X o to)(ha:PA X (e::es) t)
  (Ϻ:ś o name X.env (eval o X.env)=eval o X.env:=by rfl)
  (aK:((Ħ ŀ<|Ð (e::es) X.env).all (fun x=>!x.1)&&(backToKw ŀ<|keywordEach [] X.env).all (fun x=>x.1.isSome)
    && decide ((e::es).length+([]:List ϙ).length+(if([]:List ϙ).isEmpty then 0 else 1)<30))=true:=by rfl)
  (aa:(ο.endLine==ŀ.line)=true:=by rfl) (hs:Ð (e::es) X.env=(false,eval e X.env)::Ð es X.env:=by rfl) (aL:(Ħ ŀ<|Ð es X.env).any (·.1)=false:=by rfl) :
  PE X (.Call (.Attribute o name ο) (e::es) [] ŀ) (tBM X.K T r to t):=by
 intro À s σ H Q I h;refine wpAny_Call_method_late Ϻ aK aa rfl<|thn (ho À s σ H _ I h) fun v s1 ⟨x,H1,I1,r1,ty,q1⟩=>?_;obtain⟨h1,h2⟩:=Dj I1 r1 ty;refine⟨T,id,pa,slot,hty,h1,h2,?_⟩;have hA:=ha ŀ À s1 σ H1 _ I1 q1;rw[hs]at hA ⊢;refine Calls.callWith_builtin (by show(false||(Ħ ŀ<|Ð es X.env).any (·.1))=false;rw[aL]<;>rfl)<|Calls.evalArgs_plain ?_;exact thn hA fun us s2 ⟨vs,H2,I2,r2,q2⟩=>hm À s2 σ H2 x vs v us Q I2 r1 r2 q2
/- xs.append(e),list.index on a module's tuple .. are MtR facts of 06m -/
end
def MtM(X:Cx)(id:String)(r:V->List V->Hp->VK->Prop):Prop :=
 ∀(À:List<|Ä×Obj) (s:Â) (σ:St) (H:Hp) (x:V) (xs:List V) (v:Á) (us:List Á) (Q:VK),Inv X À σ H s->RelV x v->Vals xs us->r x xs H Q->
  wpAny (Ö X.prog X.w) X.A (call (.builtin id)<|v::us) (EP X À σ Q) X.xe s
theorem Vals.one:∀{x:V}{us:List Á},Vals [x] us->∃u,us=[u]/\RelV x u
 |_,_,.cons r .nil=>⟨_,rfl,r⟩
theorem Vals.two:∀{x y:V}{us:List Á},Vals [x,y] us->∃u v,us=[u,v]/\RelV x u/\RelV y v
 |_,_,_,.cons r (.cons q .nil)=>⟨_,_,rfl,r,q⟩
theorem Vals.zero:∀{us:List Á},Vals [] us->us=[]
 |_,.nil=>rfl
variable {xs:List V} {us:List Á}
theorem Vals.dropLast(h:Vals xs us):Vals xs.dropLast us.dropLast:=by
 induction h with
 |nil=>exact .nil
 |cons r t ih =>
  cases t with
  |nil=>exact .nil
  |cons q t'=>exact .cons r ih
theorem Vals.eraseIdx:∀{xs:List V}{us:List Á}(i:Nat),Vals xs us->Vals (xs.eraseIdx i) (us.eraseIdx i)
 |_,_,_,.nil=>.nil
 |_,_,0,.cons _ t=>t
 |_,_,i+1,.cons r t=>.cons r<|Vals.eraseIdx i t
theorem Vals.reverse(h:Vals xs us):Vals xs.reverse us.reverse:=by
 induction h with
 |nil=>exact .nil
 |cons r t ih=>rw[Ũ,Ũ];exact Vals.append ih<|.cons r .nil
theorem Vals.rep{xs:List V}{us:List Á}(h:Vals xs us):∀k:Nat,Vals (Ë k xs).flatten (Ë k us).flatten
 |0=>.nil
 |k+1=>by rw[û,û,č,č];exact Vals.append h<|Vals.rep h k
theorem Wr{α:Type}:∀(l:List α) (i:Nat),(l.eraseIdx i).length<=l.length
 |[],_=>Ø _
 |_::_,0=>ν _
 |_::r,i+1=>Ų<|Wr r i
theorem WN(ò:List Á):∀(k:Nat) (ĵ:List Á),
  bB (fun x1 x2=>x1++x2) ĵ.toArray (Ë k ò.toArray)=(ĵ++(Ë k ò).flatten).toArray
 |0,ĵ=>by simp
 |k+1,ĵ=>by
  have e:ĵ.toArray++ò.toArray=(ĵ++ò).toArray:=by simp
  have e2:(ĵ++ò)++(Ë k ò).flatten=ĵ++(Ë (k+1) ò).flatten:=by rw[û,č,â]
  rw[<-e2,<-WN ò k (ĵ++ò),<-e,û,Ĵ]
section
variable {X:Cx}{À:List (Ä×Obj)}{σ:St}{H:Hp}{s:Â}{l b:Ä}{xs ys zs:List V}
variable {ò:List Á} {n:Nat} {t':Nat}
theorem Inv.lset{its':List Á}{f:Array Á->Array Á}(I:Inv X À σ H s)(hH:H l=some (.lst xs))
  (e:s.heap.get? l=some {cls:=.type "list",data:=.seq ò.toArray n}) (hf:f ò.toArray=its'.toArray) (hv:Vals ys its') (hz:ys.length<=Ô) :
  Inv X À σ (upd H l<|.lst ys) {s with heap:=s.heap.update l<|Obj.mapSeq f,toks:=t'}:=by
 have q:=PySem.IsL.update e f;rw[hf]at q;refine I.write (x:=l) (e:=l) (by rw[hH];exact trivial) (.inl rfl) (fun b' u hb hu=>(ù s.heap (Obj.mapSeq f)<|Ne.symm hb).trans hu) ⟨_,q⟩ ?_;exact⟨hz,its',_,hv,q⟩
theorem Inv.lnew(I:Inv X À σ H s)(hv:Vals ys ò)(hz:ys.length<=Ô) :
  Inv X À σ (upd H s.heap.objs.size<|.lst ys) {s with heap:=s.heap.push {cls:=.type "list",data:=.seq ò.toArray},toks:=t'} :=
 I.laid (fun _ _ q=>Ì _ q) (Ø _) ⟨hz,ò,0,hv,è _ rfl⟩
theorem Inv.fresh(I:Inv X À σ H s):H s.heap.objs.size=none:=I.hok.fresh (Ø _)
theorem Inv.lstM(I:Inv X À σ H s)(hH:H l=some (.lst xs)):xs.length<=Ô/\∃(ò:List Á) (n:Nat),Vals xs ò/\xs.length=ò.length/\s.heap.get? l=some {cls:=.type "list",data:=.seq ò.toArray n}:=by obtain⟨z,ò,n,r,e⟩:=I.hok l _ hH;exact⟨z,ò,n,r,r.length,e⟩
theorem N2(h:n<=Ô):Builtin.List.listTooLong n=false:=by unfold Builtin.List.listTooLong;exact decide_eq_false (by omega)
end
section
variable {X:Cx}
def Mc:V->List V->Hp->VK->Prop:=fun x vs H Q=>∃l xs y,x=.ref l/\vs=[y]/\H l=some (.lst xs)/\xs.length<Ô/\Q .non (upd H l<|.lst<|xs++[y])
theorem M1:MtM X "list.append" Mc:=by intro À s σ H x vs v us Q I rx rv h;obtain⟨l,xs,y,rfl,rfl,hH,hz,q⟩:=h;cases rx;obtain⟨u,rfl,ru⟩:=rv.one;obtain⟨z,ò,n,r,hl,e⟩:=I.lstM hH;refine Ŭ F.slot_list_append ⟨_,e,rfl⟩ F.entry_list_append (F.args_list_append_2 _ _) (PySem.list_append l ò.toArray n u<|by rw[Ê];omega) ⟨e,?_⟩;refine⟨.non,_,I.lset (its':=ò++[u]) hH e (by simp) (r.append<|.cons ru .nil) ?_,rfl,q⟩;rw[Ï,ż];omega
def Of:V->List V->Hp->VK->Prop:=fun x vs H Q=>∃l xs i k y,x=.ref l/\vs=[.int i]/\H l=some (.lst xs)/\-(2 ^ 63)<=i/\i<2 ^ 63/\seqIndex? i xs.length=some k/\xs[k]?=some y/\Q y (upd H l<|.lst<|xs.eraseIdx k)
theorem Uh:MtM X "list.pop" Of:=by
 intro À s σ H x vs v us Q I rx rv h;obtain⟨l,xs,i,k,y,rfl,rfl,hH,h1,h2,hk,hy,q⟩:=h;cases rx;obtain⟨u,rfl,ru⟩:=rv.one;obtain⟨t,rfl⟩:=ru;obtain⟨z,ò,n,r,hl,e⟩:=I.lstM hH;obtain⟨w,hw,rw'⟩:=r.get hy;refine Ŭ F.slot_list_pop ⟨_,e,rfl⟩ F.entry_list_pop (F.args_list_pop_2 _ _)
  (MeetsSeq.list_pop_at l ò.toArray n i t k w (fitsIndex_both h1 h2) (by rw[Ê,<-hl];exact hk) (by rw[<-ag];exact hw)<|by rw[Ê];omega) ⟨e,?_⟩
 refine⟨y,_,I.lset (its':=ò.eraseIdx k) hH e ?_ (r.eraseIdx k) ?_,rw',q⟩
 .show ò.toArray.eraseIdxIfInBounds k=(ò.eraseIdx k).toArray;rw[List.eraseIdxIfInBounds_toArray]
 .have:=Wr xs k;omega
noncomputable def E0:R2:=fun x y H Q=>∃l b xs zs,x=.ref l/\y=.ref b/\H l=some (.lst xs)/\H b=some (.lst zs)/\xs.length+zs.length<=Ô/\∀p,H p=none->Q (.ref p) (upd H p<|.lst<|xs++zs)
theorem CD:OpR X (Ĭ .Add) E0:=by
 intro À s σ H x y v u Q I rx ry h;obtain⟨l,b,xs,zs,rfl,rfl,hH,hB,hz,q⟩:=h;cases rx;cases ry;obtain⟨z,ò,n,r,hl,e⟩:=I.lstM hH;obtain⟨z2,ſ,n2,r2,hl2,e2⟩:=I.lstM hB;refine PySem.P.add_list e e2 ?_ (by rw[Ê,Ê];omega);have ea:ò.toArray++ſ.toArray=(ò++ſ).toArray:=by simp
 rw[ea];exact⟨.ref _,_,I.lnew (t':=s.toks) (r.append r2) (by rw[Ï];omega),rfl,q _ I.fresh⟩
noncomputable def Fc:R2:=fun x y H Q=>∃l k xs,x=.ref l/\y=.int k/\H l=some (.lst xs)/\-(2 ^ 63)<=k/\k<2 ^ 63/\xs.length*k.toNat<=Ô/\
 ∀p,H p=none->Q (.ref p) (upd H p<|.lst (Ë k.toNat xs).flatten)
theorem Ax{α:Type}(xs:List α)(k:Nat):(Ë k xs).flatten.length=k*xs.length:=by
 induction k with
 |zero=>simp
 |succ k ih=>rw[û,č,Ï,ih,Nat.succ_mul,Nat.add_comm]
theorem op_rep:OpR X (Ĭ .Mult) Fc:=by
 intro À s σ H x y v u Q I rx ry h;obtain⟨l,k,xs,rfl,rfl,hH,h1,h2,hz,q⟩:=h;cases rx;obtain⟨t,rfl⟩:=ry;obtain⟨z,ò,n,r,hl,e⟩:=I.lstM hH;have ģ:ò.toArray.size*k.toNat<=Ô:=by rw[Ê,<-hl];exact hz
 have hcap:¬ ò.toArray.size*k.toNat > (2 ^ 63 - 1) / 8:=by
  have:(Ô:Nat)<=(2 ^ 63 - 1) / 8:=by decide
  omega
 have hfit:¬ (!Builtin.List.listFitsIndex k)=true:=by rw[fitsIndex_both h1 h2];exact ú
 have hlong:¬ Builtin.List.listTooLong (ò.toArray.size*k.toNat)=true:=by rw[N2 ģ];exact ú
 have hnew:bB (fun x1 x2=>x1++x2) #[] (Ë (if ò.toArray.isEmpty=true then 0 else k.toNat) ò.toArray)=(Ë k.toNat ò).flatten.toArray:=by
  have f0:∀m:Nat,bB (fun x1 x2=>x1++x2) #[] (Ë m ò.toArray)=(Ë m ò).flatten.toArray:=fun m=>by have:=WN ò m [];rw[Ř]at this;exact this
  rw[f0];cases ò with
  |nil=>simp
  |cons a r'=>rw[if_neg<|by simp]
 refine wpAny_binaryOp_repeat_ref (T:="list") (U:="int") (by decide) ⟨_,e,rfl⟩ (fun s'=>typeIs_int s' k t) noFill_list_mul F.fills_int_mul F.slot_int_rmul repeat_list F.slot_int_index.lookup
  (Ŭ F.slot_int_rmul (typeIs_int s k t) F.entry_int_rmul (F.args_int_rmul_2 _ _) (int___rmul___int_list k t l ò.toArray n)
    ⟨e,rfl,⟨_,e,rfl⟩,Ŭ F.slot_list_mul ⟨_,e,rfl⟩ F.entry_list_mul (F.args_list_mul_2 _ _) (AutoListH.list___mul___list_int_3 l ò.toArray n k t hfit hcap hlong) ⟨e,?_⟩⟩)
 rw[hnew];exact⟨.ref _,_,I.lnew (t':=s.toks) (r.rep k.toNat) (by rw[Ax,au];exact hz),rfl,q _ I.fresh⟩
end
end L2
namespace Att
open PySem PySem.W PySem.Calls PyProof.Rows
variable {P:Params} {h:ô}
theorem Xn:∀(ns:List Int) (vs:List Á),WellAll P h vs (ns.map WData.int)->Ĕ vs ns:=by
 intro ns;induction ns with
 |nil =>intro vs w;rw[af]at w;cases w;exact .nil
 |cons n ns ih =>
  intro vs w;rw[Ó]at w;cases w with
  |cons a b =>cases a;exact .cons _ _<|ih _ b
variable {l:OpenLaw} {n:Nat}
theorem Nx(hn:l.most=some n){args:List WData}{ϓ:List Á}
  (hpre:l.row.toRowW.claim.pre args=true) (hwl:WellAll P h ϓ args) :
  ∃a vs ns,ϓ=[Value.ref a]/\args=[WData.list<|ns.map WData.int]/\h.get? a=some {cls:=.type "list",data:=.seq vs.toArray}/\Ĕ vs ns/\ns.length<=n:=by
 have hsh:WShape.hasAll [] args [.list .int]=true:=(pre_splitW hpre).1;have hc:l.pre.holds [] {args:=args}=true:=(pre_splitW hpre).2;obtain⟨d,r,rfl,h1,h2⟩:=hasAllW_cons hsh;obtain rfl:=hasAllW_nil h2;obtain⟨xs,rfl,h3⟩:=hasW_list h1;obtain⟨ns,rfl⟩:=items_int h3;have ģ:ns.length<=n:=by
  unfold OpenLaw.pre at hc;have h4:(WTm.not<|.lt (.lit<|.int (n:Int))<|.len<|.arg 0).holds [] {args:=[.list<|ns.map .int]}=true:=by have h4:=(holds_andW hc).1;rw[hn]at h4;exact h4
  have h5:=condW_of h4<|w_not<|w_lt w_lit<|w_len_list<|w_arg rfl;rw[È]at h5;refine Nat.le_of_not_lt fun q=>?_;have q':(n:Int)<((ns.length:Nat):Int):=by omega
  first
   |(rw[decide_eq_true q']at h5;exact absurd h5<|by decide)
   |(simp at h5;omega)
 cases hwl with
 |cons w1 w2 =>
  cases w2;cases w1 with
  |list ho hall=>exact⟨_,_,ns,rfl,rfl,ho,Xn ns _ hall,ģ⟩
theorem Nu(l:OpenLaw)(args:List WData):l.row.toRowW.claim.post args (.bool true) args=true :=
 postW_of (r:=l.row.toRowW) (X:=(true==true))
  (show WShape.has [] (.bool true) .bool=true by first|rfl|decide|simp[WShape.has,WShape.arms,WShape.armsAll])
  (show(WTm.eq .res<|.lit<|.bool true).value [] {args:=args,res:=some<|.bool true,after:=args}=some (.bool<|true==true) from w_eq_bool (w_res rfl) w_lit) rfl
theorem attach_call{q:à}{loose:List Str}{XP:(Str->Option Á)->ô->Prop}{YP:þ->ô->Prop}{d:DefRec}
  (hn:l.most=some n) (hdf:d.params.defaults=[])
  (call:∀(w:þ) (s₀ ě:Â) (mg mb:Str->Option Á) (fa:Ä) (o:Obj) (pm cd doc:Á) (a:Ä) (vs:List Á) (ns:List Int),
    Ground q loose [] XP w s₀ mg mb ě.heap->YP w ě.heap->
    ě.heap.get? fa=some o->o.data=.func (docDef d.name d.params d.body d.scope pm cd doc)->ě.heap.CodeRec cd d.name->mg d.name=some (.ref fa)->
    ě.heap.get? a=some {cls:=.type "list",data:=.seq vs.toArray}->Ĕ vs ns->ns.length<=n->ě.gens=#[]->
    codeAny (Ö l.prog w) Τ (.call (.ref fa) ⟨[.ref a],[]⟩) (fun r s'=>r=.ok (.ret<|.bool true)/\OldK ě.heap s'.heap/\s'.os=ě.os/\ų s'.gens) ě) :
  WalkO q loose XP YP l.row.toRowW d [] (fun f vs=>PySem.call f vs):=by
 intro w s₀ ě mg mb G Y fa o pm cd doc dV kV ho hd aV hD hmg hg args ϓ as hpre hlay hrd hwl hlo;obtain rfl:dV=.none:=Dflts.none hD hdf;obtain rfl:kV=.none:=Dflts.noKw hD;obtain⟨a,vs,ns,rfl,rfl,bq,hints,ģ⟩:=Nx hn hpre hwl;refine enter_call<|Ϙ (call w s₀ ě mg mb fa o pm cd doc a vs ns G Y ho (fd_plain hd) aV hmg bq hints ģ hg) fun r s' hq=>?_;obtain⟨rfl,h2,h3,h4⟩:=hq;exact⟨.inl ⟨.bool true,.bool true,[],rfl,fun _=>rfl,.bool true,Nu l _,fun _=>⟨List.Pairwise.nil,fun _ hm=>(nomatch hm)⟩⟩,h2,h3,h4⟩
end Att
namespace L2
open PySem PySem.Spec PyProof.Rows
theorem Wz:∀{vs:List Á}{ns:List Int},Ĕ vs ns->Vals (ns.map V.int) vs
 |_,_,.nil=>.nil
 |_,_,.cons n t h=>.cons ⟨t,rfl⟩<|Wz h
def CW(H:Hp):Prop:=∀b,H b=none\/∃o xs,H b=some (.frz o<|.lst xs)
theorem UO{P:à}{w:þ}{K:PySem.W.Frag}{mg mb:Str->Option Á}{CX:CXT}{k:Nat}{fa a:Ä}{fd:ĭ}{x:Str}{sp:Sp}{ě:Â}{vs:List Á}{ns:List Int}
  (KX:K.In ě.heap) (hns:ě.heap.Ns ÿ mg) (hb:ě.heap.Ns builtinsNs mb) (hbb:∀x:Str,x≠"__name__"->mb x=ń x) (hlim:ě.heap.NoLimit) (hg:ě.gens=#[])
  (ha:ě.heap.get? a=some {cls:=.type "list",data:=.seq vs.toArray}) (hi:Ĕ vs ns) (hl:ns.length<=Ô) (hr:Room k Τ)
  (F:∀base:ô,K.In base->base.Ns ÿ mg->FnOk P w K mg base CX k fa fd [x] sp) (hbind:∀(s:Â) (u:Á),BindsTo s fd ⟨[u],[]⟩ [(x,u)])
  (bF:∀H:Hp,CW H->SqL K H a (ns.map V.int)->sp [.ref a] H (fun v _=>v=.bl true) fun _ _ _=>False)
  (hCX:∀H e s',CX [] H ě (fun _ _ _=>False) e s'->False) :
  codeAny (Ö P w) Τ (.call (.ref fa) ⟨[.ref a],[]⟩) (fun r s'=>r=.ok (.ret<|.bool true)/\OldK ě.heap s'.heap/\s'.os=ě.os/\ų s'.gens) ě:=by
 have rv:=Wz hi;have lenV:=hi.length;have core:∀H:Hp,CW H->SqL K H a (ns.map V.int)->HOk P w H ě.heap->(∀b,H b≠none->b=a)->(H a≠none->K.lookup a=none)->
   codeAny (Ö P w) Τ (.call (.ref fa) ⟨[.ref a],[]⟩) (fun r s'=>r=.ok (.ret<|.bool true)/\OldK ě.heap s'.heap/\s'.os=ě.os/\ų s'.gens) ě:=by
  intro H hO hS hok hA hK;have aZ:∀{b:Ä}{o:Obj},ě.heap.get? b=some o->H b=none->(Jd ě.heap H).get? b=some o:=fun e n=>UP e n;have noA:∀{b:Ä}{o:Obj}{es:Array DictEntry}{ep:Nat},ě.heap.get? b=some o->o.data=.dict es ep->H b=none:=fun{b o es ep} e d=>by
   cases q:H b with
   |none=>rfl
   |some u =>have e':b=a:=hA b (by rw[q];simp);subst e';rw[ha]at e;cases e;have d':Data.seq vs.toArray _=Data.dict es ep:=d;cases d'
  have nsK:∀{b:Ä}{m:Str->Option Á},ě.heap.Ns b m->(Jd ě.heap H).Ns b m:=fun{b m} ⟨o,es,ep,e,d,r⟩=>⟨o,es,ep,aZ e<|noA e d,d,r⟩
  have hKb:K.In<|Jd ě.heap H:=fun b o e=>aZ (KX b o e) (by
    cases q:H b with
    |none=>rfl
    |some u =>
      have e':b=a:=hA b (by rw[q];simp)
      subst e'
      rw[hK<|by rw[q];simp]at e;cases e)
  have hM:Mod K mg<|Jd ě.heap H:=⟨hKb,nsK hns,⟨mb,nsK hb,hbb⟩,let ⟨mc,h1,h2⟩:=hlim;⟨mc,nsK h1,h2⟩⟩
  have e0:Env0 P w K mg (Jd ě.heap H) Τ [] ě H:=⟨rfl,hM,fun b o e=>Bq e,av<|Nt _ _,trivial,fun b hb=>absurd (show b∈([]:List Ä) from hb) (by simp),hok,.of_eq hg⟩
  refine Ϙ ((F _ hKb<|nsK hns).run Τ [] ě H ⟨[.ref a],[]⟩ [.ref a] [.ref a] _ _ hr e0 (hbind ě<|.ref a) (.cons rfl .nil)<|bF H hO hS) fun r s' h=>?_;cases r with
  |error e=>exact(hCX H e s' h).elim
  |ok fl =>
   cases fl with
   |next=>exact ĉ h
   |brk=>exact ĉ h
   |cont=>exact ĉ h
   |ret u =>
    obtain⟨v,H',os,bare,un,hok',r',q⟩:=h;have q':v=.bl true:=q;subst q';obtain rfl:u=Value.bool true:=r';refine⟨rfl,OldK.of_keep fun b o e=>?_,os,bare⟩;cases q:H b with
    |none=>exact un.keep b o e q (by intro z;exact absurd (show b∈([]:List Ä) from z)<|by simp) (by simp)
    |some u =>
     rcases hO b with z|⟨ob,xs,z⟩
     .rw[q]at z;cases z
     .have z2:=un.frzs b ob _ z;obtain⟨e1,_⟩:=hok b _ z;obtain⟨e2,_⟩:=hok' b _ z2;rw[e]at e1;cases e1;exact e2
 cases hk:K.lookup a with
 |some o =>have e:=KX a o hk;rw[ha]at e;cases e;refine core (fun _=>none) (fun _=>.inl rfl) (.inr ⟨_,vs.toArray,_,hk,rfl,rfl,rfl,by rw[Ê,lenV];exact hl,by simpa using rv⟩) (fun b u z=>by have z':(none:Option HO)=some u:=z;cases z') (fun b z=>absurd rfl z) fun z=>absurd rfl z
 |none =>
  refine core (fun b=>if b=a then some (.frz {cls:=.type "list",data:=.seq vs.toArray}<|.lst<|ns.map V.int)else none) (fun b=>?_) (.inl<|.inr ⟨{cls:=.type "list",data:=.seq vs.toArray},if_pos rfl⟩) (fun b u z=>?_) (fun b z=>?_) fun _=>hk
  .by_cases hb:b=a
   .exact .inr ⟨_,_,if_pos hb⟩
   .exact .inl<|if_neg hb
  .by_cases hb:b=a
   .have z':=(if_pos hb).symm.trans z;cases z';subst hb;exact⟨ha,by rw[È];exact hl,vs,_,rv,ha⟩
   .have z':=(if_neg hb).symm.trans z;cases z'
  .by_cases hb:b=a
   .exact hb
   .exact absurd (if_neg hb) z
noncomputable def Z9(s:Ě):Arguments:=match s with
 |.FunctionDef _ a _ _ _ _ _ _ _ _=>a
 |_=>{posonlyargs:=[],args:=[],vararg:=none,kwonlyargs:=[],kw_defaults:=[],kwarg:=none,defaults:=[]}
noncomputable def Zy(s:Ě):List Ě:=match s with
 |.FunctionDef _ _ b _ _ _ _ _ _ _=>b
 |_=>[]
noncomputable def Zi(s:Ě):ŕ:=match s with
 |.FunctionDef _ _ _ _ _ _ sc _ _ _=>sc
 |_=>{kind:=.function,names:=[],isGenerator:=false,isCoroutine:=false}
noncomputable abbrev CX0:CXT:=fun _ _ _ _ _ _=>False
structure Fun(K:PySem.W.Frag)(x qual:Str)(st:Ě)(f:Ä)(fd:ĭ):Prop where
 ex:∃(oc:Á) (od:Option Ä) (kV doc pm:Á) (an:Option Ä) (ŷ ct:Á) (osl:Array<|Option Á),
  fd=PySem.W.fnOf x qual (Z9 st) (Zy st) (Zi st) .none kV doc pm an ŷ ct/\K.lookup f=some ⟨oc,od,.func fd,osl⟩/\PySem.W.codeIn K ŷ qual=true
 kp:PySem.W.keepIn K (.ref f)=true
section
variable {P:à}{w:þ}{K:PySem.W.Frag}{mg:Str->Option Á}{base:ô}
variable {x:Str} {qual:Str} {st:Ě} {f:Ä} {fd:ĭ} {ps:List Str}
theorem Fun.ok{N:List Str}{k:Nat}{sp:Sp}(F:Fun K x qual st f fd)(S:FnScope N ps<|Zi st)(len:∀vs H Q E,sp vs H Q E->vs.length=ps.length)
  (Ϲ:∀(ŷ:Á) (A:ć) (outer:List Env) (s:Â) (H:Hp) (vs:List V) (Q:VK) (E:XK),Room k (A.deeper<|Θ qual (Zi st) s.heap.objs.size f ŷ)->sp vs H Q E->
    ∃t,PSs (Wj CX0 P w K mg base N qual (Zi st) f ŷ A outer s H E).nox (Zy st) t/\t { nx:=fun _ H'=>Q .non H',rt:=Q } (start N vs) H):FnOk P w K mg base CX0 (k+1) f fd ps sp:=by
 obtain⟨oc,od,kV,doc,pm,an,ŷ,ct,osl,rfl,lk,aV⟩:=F.ex;refine B5 lk aV S len fun A outer s H vs Q E hr bF=>?_;obtain⟨t,h,q⟩:=Ϲ ŷ A outer s H vs Q E hr bF;exact⟨t,h.nox,q⟩
theorem Fun.binds(F:Fun K x qual st f fd)
  (h:∀(kV doc pm:Á) (an:Option Ä) (ŷ ct:Á) (us:List Á),us.length=ps.length->bindArgs (PySem.W.fnOf x qual (Z9 st) (Zy st) (Zi st) .none kV doc pm an ŷ ct) ⟨us,[]⟩=pure (ps.zip us)):Binds K fd ps []:=by
 obtain⟨oc,od,kV,doc,pm,an,ŷ,ct,osl,rfl,lk,aV⟩:=F.ex;exact .all<|h kV doc pm an ŷ ct
theorem N5{oc:Á}{od an:Option Ä}{osl:Array (Option Á)}{kV doc pm ŷ ct:Á}(l:K.lookup f=some ⟨oc,od,.func<|PySem.W.fnOf x qual (Z9 st) (Zy st) (Zi st) .none kV doc pm an ŷ ct,osl⟩)
  (c:PySem.W.codeIn K ŷ qual=true) (k:PySem.W.keepIn K (.ref f)=true):Fun K x qual st f<|PySem.W.fnOf x qual (Z9 st) (Zy st) (Zi st) .none kV doc pm an ŷ ct:=⟨⟨oc,od,kV,doc,pm,an,ŷ,ct,osl,rfl,l,c⟩,k⟩
end
def Same(H H':Hp):Prop:=∀b o,H b=some o->H' b=some o
theorem Same.refl(H:Hp):Same H H:=fun _ _ h=>h
variable {H:Hp}
theorem Same.trans{H1 H2:Hp}(a:Same H H1)(b:Same H1 H2):Same H H2:=fun c o h=>b c o (a c o h)
variable {H':Hp}
theorem Same.free(e:Same H H'){l:Ä}(h:H' l=Option.none):H l=Option.none:=by
 cases q:H l with
 |none=>rfl
 |some o =>rw[e l o q]at h;cases h
theorem Same.seq{K:PySem.W.Frag}{a:Ä}{xs:List V}(e:Same H H')(h:SqL K H a xs):SqL K H' a xs:=by
 rcases h with(h|⟨o,h⟩)|h
 .exact .inl<|.inl<|e _ _ h
 .exact .inl<|.inr ⟨o,e _ _ h⟩
 .exact .inr h
end L2
set_option maxHeartbeats 4000000
namespace L2
open PySem PySem.Spec PyProof.Rows
variable {P:à} {w:þ} {H:Hp} {h:ô}
theorem HOk.track{a:Ä}{o:HO}(x:HOk P w H h)(hn:H a=none)(new:ObjOk P w (upd H a o) h a o):HOk P w (upd H a o) h:=fun b u e=>by
 by_cases hb:b=a
 .subst hb;rw[upd_same]at e;cases e;exact new
 .rw[upd_ne hb]at e;exact(x b u e).stay (fun c v _ q=>q) (fun c q=>by rw[upd_ne<|Zd q hn];exact q) fun c xs q=>by rw[upd_ne<|Zd q hn];exact q
theorem HOk.same{h':ô}{C:Ä}(x:HOk P w H h)(hn:H C=none)(hs:Ŵ C h h'):HOk P w H h':=fun b u e=>by
 refine(x b u e).stay (fun c v hc q=>hs.extBut c v ?_ q) (fun _ q=>q) fun _ _ q=>q;rcases hc with z|z
 .rw[z];exact Zd e hn
 .exact Zd z hn
noncomputable def Ze(X:Cx)(scope:ŕ)(N':List Str)(cl:List<|Str×Ä)(C:Ä)(s:Â)(H:Hp)(ex:List Ä)(xe:Á->Â->Prop):Cx where
 prog:=X.prog
 w:=X.w
 K:=X.K
 mg:=X.mg
 base:=X.base
 A:=X.A
 N:=N'
 s₀:=s
 H₀:=H
 env:=Ϛ scope cl C X.env
 outer:=X.stack
 stack:=X.stack
 ex:=ex
 fn:=fun _=>false
 calm:=X.calm
 pn:=[]
 xe:=xe
noncomputable def ZC(X:Cx)(x:List Str)(ç:List Nat):List Str:=x++ç.map fun j=>X.N.getD j Str.empty
noncomputable def K1(σ:St)(ç:List Nat):St:=ç.map fun j=>(σ[j]?).getD none
structure BlkOk(X:Cx)(scope:ŕ)(x:List Str)(ç:List Nat):Prop where
 kind:scope.kind=.function
 nocell:∀y∈scope.names,y.2≠.cell
 locs:∀y∈scope.names,y.2=.local->scope.names.lookup y.1=some .local
 own:∀y∈x,scope.names.lookup y=some .local
 frees:∀y∈scope.names,y.2=.free->X.env.kindOf y.1=some .cell
 cap:∀j∈ç,(X.N[j]?).isSome=true/\X.env.kindOf (X.N.getD j Str.empty)=some .cell/\scope.names.lookup (X.N.getD j Str.empty)=some .free
 nd:(ZC X x ç).Nodup
theorem Z5{env:Env}:∀(names:List<|Str×ž) (ĵ:List<|Str×Ä),(∀y∈names,y.2=.free->∃c,env.cells.lookup y.1=some c)->(∀x c,ĵ.lookup x=some c->env.cells.lookup x=some c)->
  ∃cl,(forIn names ĵ fun(p:Str×ž) (r:List<|Str×Ä)=>(do
    if(p.2 == Ė)=true then do let a<-cellOf env p.1;pure (Ġ<|(p.1,a)::r)else pure (Ġ r):Sem _))=pure cl/\
   (∀x c,cl.lookup x=some c->env.cells.lookup x=some c)/\(∀x c,ĵ.lookup x=some c->∃c',cl.lookup x=some c')/\∀x,(x,Ė)∈names->∃c,cl.lookup x=some c
 |[],ĵ,_,ha=>⟨ĵ,rfl,ha,fun x c h=>⟨c,h⟩,fun x h=>nomatch h⟩
 |(n,k)::r,ĵ,hn,ha=>by
  by_cases hk:k=.free
  .subst hk;obtain⟨c,hc⟩:=hn (n,.free) å rfl;have ha':∀x d,(((n,c)::ĵ:List<|Str×Ä)).lookup x=some d->env.cells.lookup x=some d:=fun x d h=>by
    rw[Ć]at h;cases e:x==n with
    |true =>
     rw[e]at h;have:x=n:=by simpa using e
     subst this;cases h;exact hc
    |false=>rw[e]at h;exact ha x d h
   obtain⟨cl,h1,h2,h3,h4⟩:=Z5 r ((n,c)::ĵ) (fun y hy=>hn y<|á _ hy) ha';refine⟨cl,?_,h2,fun x d h=>?_,fun x hx=>?_⟩
   .rw[List.forIn_cons];have e:cellOf env n=pure c:=by unfold cellOf;rw[hc]
    simp only[beq_self_eq_true,if_true,e];exact h1
   .by_cases hx:x=n
    .subst hx;exact h3 x c (by rw[Ć];simp)
    .exact h3 x d (by rw[Ć,beq_false_of_ne hx];exact h)
   .rcases Î.mp hx with e|hx
    .cases e;exact h3 _ c (by rw[Ć];simp)
    .exact h4 x hx
  .have hb:(k==Ė)=false:=by simpa using hk
   obtain⟨cl,h1,h2,h3,h4⟩:=Z5 r ĵ (fun y hy=>hn y<|á _ hy) ha;refine⟨cl,?_,h2,h3,fun x hx=>?_⟩
   .rw[List.forIn_cons];simp only[hb,š,if_false];exact h1
   .rcases Î.mp hx with e|hx
    .cases e;exact absurd rfl hk
    .exact h4 x hx
theorem ZI{env:Env}:∀{names:List (Str×ž)}{x:Str}{k:ž},(names.map fun(n,k)=>if(k==Ė&&env.scope.kind == .function&&env.kindOf n==some .cell)then(n,bQ)else(n,k)).lookup x=some k->
  (∃k0,(x,k0)∈names/\names.lookup x=some k0/\(k0=k\/(k0=.free/\k=.cell)))
 |[],_,_,h=>by simp at h
 |(n,k0)::r,x,k,h=>by
  rw[Ó,Ć]at h;cases hx:x==n with
  |true =>
   have e:x=n:=by simpa using hx
   subst e;refine⟨k0,å,by rw[Ć];simp,?_⟩;by_cases hc:(k0==Ė&&env.scope.kind == .function&&env.kindOf x==some .cell)=true
   .rw[if_pos hc]at h;simp at h;have:k0=.free:=by
     simp only[bAq]at hc;simpa using hc.1.1
    exact .inr ⟨this,h.symm⟩
   .rw[if_neg hc]at h;simp at h;exact .inl h
  |false =>
   have h':(r.map fun(n,k)=>if(k==Ė&&env.scope.kind == .function&&env.kindOf n==some .cell)then(n,bQ)else(n,k)).lookup x=some k:=by
    by_cases hc:(k0==Ė&&env.scope.kind == .function&&env.kindOf n==some .cell)=true
    .rw[if_pos hc]at h;simpa[hx]using h
    .rw[if_neg hc]at h;simpa[hx]using h
   obtain⟨k1,a,b,c⟩:=ZI h';exact⟨k1,á _ a,by rw[Ć,hx];exact b,c⟩
def PIfs(X:Cx)(ϝ:List Expr)(t:TT):Prop :=
 ∀(À:List<|Ä×Obj) (s:Â) (σ:St) (H:Hp) (Q:Bool->Hp->Prop),Inv X À σ H s->t σ H Q->
  wpAny (Ö X.prog X.w) X.A (forIn ϝ true fun c r=>if r=true then do let ok<-am c X.env (eval c X.env);pure (Ġ ok)else pure (Ġ r)) (TP X À σ Q) X.xe s
noncomputable def GY:TT:=fun _ H Q=>Q true H
variable {X:Cx}
theorem pifs_nil:PIfs X [] GY:=fun _ _ _ H _ I h=>wpAny_tests_nil ⟨H,I,h⟩
theorem YT{c:Expr}{t:TT}(h:PT X c t):PIfs X [c] t:=fun À s σ H Q I hq=>wpAny_tests_one (h À s σ H Q I hq)
def BC(J:It)(tg:TG)(tc:TT)(te:TE)(Fin:List V->Hp->Prop)(W:Nat->Nat->List V->St->Hp->Prop):Prop :=
 ∀i m ys τ H,W i m ys τ H->ys.length<Ô/\((J.stop i H/\Fin ys H)\/(J.go i H/\∃N:List V->St->Hp->Prop,(∀ys' τ' H',N ys' τ' H'->∃m',m'<m/\W (i+1) m' ys' τ' H')/\∀x H',J.yld i H x H'->
   tg x τ H' fun τ' H1=>tc τ' H1 fun b H2=>if b=true then te τ' H2 fun y H3=>N (ys++[y]) τ' H3 else N ys τ' H2))
section
variable {X:Cx}{À:List (Ä×Obj)}{σ:St}{H2:Hp}{s2:Â}
variable {scope:ŕ} {x:List Str} {ç:List Nat} {cl:List (Str×Ä)} {fp:List Ä}
theorem Na{s3:Â}{D:Ä}{h1:ô}{tk:Nat}{m:Str->Option Á}(B:BlkOk X scope x ç)(I2:Inv X À σ H2 s2)(f2:∀b∈fp,Y4 X À H2 b)
  (c1:∀x c,cl.lookup x=some c->X.env.cells.lookup x=some c) (c2:∀x,(x,Ė)∈scope.names->∃c,cl.lookup x=some c)
  (I3:Inv X À σ H2 s3) (hD:D=s2.heap.objs.size) (h3:s3.heap.objs.size=D+1) (Ρ:∀b o,s3.heap.get? b=some o->h1.get? b=some o) (hfp:∀b∈fp,b<s2.heap.objs.size)
  (hn:h1.Ns s3.heap.objs.size m){xe:Á->Â->Prop} :
  Inv (Ze X scope (ZC X x ç) cl s3.heap.objs.size s3 H2 (D::fp) xe) [] (Ë x.length none++K1 σ ç) H2 {s3 with heap:=h1,toks:=tk}:=by
 have neD:∀b o,s2.heap.get? b=some o->b≠D:=fun b o e=>by rw[hD];exact î<|Õ e
 have exlt:∀b∈D::fp,b<s3.heap.objs.size:=fun b hb=>by
  rw[h3];rcases Î.mp hb with e|hb
  .rw[e];exact ı _
  .exact ō (by rw[hD];exact hfp b hb)
 have keeps:=I3.hok.kept (h':=h1) Ρ;refine⟨⟨I2.mod,B.kind,I2.ok.glob,I2.ok.blt,Ø _,fun y z c e1 e2=>?_,fun y hy=>?_,fun y c e _=>(by cases e),fun hc=>I2.ok.hd hc,I2.ok.frames,.inl rfl,fun b hb=>?_,fun b o e=>?_,?_,fun b o e hb=>?_,fun b hb hf=>?_,I3.stack,fun b hb=>I2.stkFree b hb⟩,
   rfl,I3.bare,Un.kept Ρ,⟨m,hn,fun i y v e1 e2 e3=>?_⟩,fun y c e=>?_,I3.hok.fresh<|Ø _,fun y c e=>I3.freeC y c<|c1 y c e,fun p hp=>(nomatch hp),keeps,?_⟩
 .exact I2.ok.inj y z c (c1 y c e1)<|c1 z c e2
 .have hy:(ah scope X.env).names.lookup y=some .cell\/(ah scope X.env).names.lookup y=some .free:=hy;rcases hy with hy|hy
  .obtain⟨k0,a,b,c⟩:=ZI hy;rcases c with c|⟨c,_⟩
   .subst c;exact absurd rfl<|B.nocell _ a
   .subst c;exact c2 y a
  .obtain⟨k0,a,b,c⟩:=ZI hy;rcases c with c|⟨_,c⟩
   .subst c;exact c2 y a
   .cases c
 .refine⟨î<|exlt b hb,fun y c e z=>?_⟩;have e':=c1 y c e;rcases Î.mp hb with q|q
  .obtain⟨v,o,ho,_⟩:=I2.cell y c e';exact neD c o ho<|z.trans q
  .exact(f2 b q).2.2.2.2.1 y c e' z
 .exact I3.bs b o e
 .exact Ç I2.ok.bsz (Ç I2.sz<|show s2.heap.objs.size<=s3.heap.objs.size by rw[h3,hD];exact ν _)
 .rcases Î.mp hb with q|q
  .exact neD b o (I2.bk b o e) q
  .rcases (f2 b q).2.2.2.1 with z|z
   .exact I2.ok.noex b o e z
   .exact absurd (Þ (Õ (I2.ok.bs b o e).1) z)<|ĩ _
 .have hf:b∈frs X.stack:=hf;rcases Î.mp (I2.stkSub b hf)with z|z
  .rcases Î.mp hb with q|q
   .exact absurd I2.lt (by rw[<-z,q,hD];exact ĩ _)
   .exact(f2 b q).2.1 z
  .rcases Î.mp hb with q|q
   .exact I2.nofs (a:=b) (by rw[q,hD];exact Ø _) z
   .exact(f2 b q).2.2.1 z
 .by_cases hik:i<x.length
  .rw[Ă (by rw[Û];exact hik),İ,if_pos hik]at e2;cases e2
  .have e1:(x++ç.map fun j=>X.N.getD j Str.empty)[i]?=some y:=e1;rw[ą<|by omega]at e1;rw[ą (by rw[Û];omega),Û]at e2;generalize i - x.length=j at e1 e2;have e2:(ç.map fun j=>(σ[j]?).getD none)[j]?=some (some v):=e2;rw[í]at e1 e2;cases hj:ç[j]? with
   |none=>rw[hj]at e1;cases e1
   |some q =>
    rw[hj]at e1 e2;have e1':X.N.getD q Str.empty=y:=Ā e1;have e2':(σ[q]?).getD none=some v:=Ā e2;obtain⟨hs,hk,hsc⟩:=B.cap q<|ľ hj;obtain⟨y',hy'⟩:=ϟ.mp hs;have ey:y'=y:=by rw[<-e1',Ď,hy'];rfl
    subst ey;have es:σ[q]?=some (some v):=by
     cases hq:σ[q]? with
     |none=>rw[hq]at e2';cases e2'
     |some o=>rw[hq]at e2';exact congrArg some e2'
    rw[e1']at hk hsc;obtain⟨m2,_,hl⟩:=I3.loc;have br:X.env.scope.names.lookup y'=some .cell:=hk;obtain⟨u,r,l⟩:=hl q y' v hy' es<|.inr<|.inl br;refine⟨u,r,.inr ⟨?_,?_⟩⟩
    .rcases e3 with e3|e3|e3
     .obtain⟨k0,a,b,c⟩:=ZI (show(ah scope X.env).names.lookup y'=some .local from e3);rw[hsc]at b;cases b;rcases c with c|⟨_,c⟩<;>cases c
     .exact .inl e3
     .exact .inr e3
    .rcases l with⟨l,_⟩|⟨_,c,hc,z⟩
     .rw[hk]at l;cases l
     .obtain⟨c',hc'⟩:=c2 y'<|PySem.mem_of_lookup hsc;have ec:c'=c:=Ā<|(c1 y' c' hc').symm.trans hc;subst ec;obtain⟨o,ho,hd⟩:=z;exact⟨c',hc',o,Ρ c' o ho,hd⟩
 .obtain⟨v,o,ho,hd⟩:=I3.cell y c<|c1 y c e;exact⟨v,o,Ρ c o ho,hd⟩
 .show _=(ZC X x ç).length;unfold ZC K1;rw[Ï,Ï,È,È,Û]
theorem Yv{env:Env}(h:∀y∈scope.names,y.2=.free->∃c,env.cells.lookup y.1=some c) :
  ∃cl,closureFor scope env=pure cl/\(∀x c,cl.lookup x=some c->env.cells.lookup x=some c)/\∀x,(x,Ė)∈scope.names->∃c,cl.lookup x=some c:=by
 obtain⟨cl,h1,h2,_,h4⟩:=Z5 (env:=env) scope.names [] h fun x c e=>nomatch e;refine⟨cl,?_,h2,h4⟩;simp only[closureFor];have e:(forIn scope.names ([]:List<|Str×Ä) fun x r =>
     (match x with
     | (name,kind)=>if(kind == Ė)=true then do let a<-cellOf env name;pure (Ġ<|(name,a)::r)else pure (Ġ r):Sem<|ForInStep<|List<|Str×Ä))=pure cl:=h1
 first
  |(rw[e];rfl)
  |(refine Eq.trans (congrArg (· >>= pure) ?_) (rfl:(pure cl >>= pure:Sem _)=pure cl);exact e)
variable {Ϭ:Expr} {Ŗ:Expr} {ϝ:List Expr} {ë:Pos}
theorem JH{prog:à}{A:ć}{R:Result->Â->Prop}{s:Â}{Ξ:Expr}{it ĵ:Á}{env:Env}(I:Nat->Â->Prop){EX:Á->Â->Prop}(hEX:∀x s',EX x s'->notedBy (Ö prog w) A env (fun x s'=>R (.error x) s') x s')
  (turn:∀n s,I n s->wpAny (Ö prog w) A (Η it) (fun r ě=>match r with
    |none=>R (.ok .next) ě
    | some v=>wpAny (Ö prog w) A (Ţ Ξ it v) (fun _ ě=>wpAny (Ö prog w) A (Ÿ Ξ env v) (fun _ ϸ =>
        wpAny (Ö prog w) A (forIn ϝ true fun c r=>if r=true then do let ok<-am c env (eval c env);pure (Ġ ok)else pure (Ġ r)) (fun ok ϔ =>
          if ok=true then wpAny (Ö prog w) A (eval Ϭ env) (fun x s₄ =>
            wpAny (Ö prog w) A (call (.builtin "list.append") [ĵ,x]) (fun _ s₅=>∃m,m<n/\I m s₅) (fun _ _=>False) s₄) EX ϔ
          else ∃m,m<n/\I m ϔ) EX ϸ) EX ě) (fun _ _=>False) ě) (fun _ _=>False) s)
  (n:Nat) (h:I n s) :
  codeAny (Ö prog w) A (.compLoop (.ListComp Ϭ [⟨Ξ,Ŗ,ϝ,0⟩] scope ë) 0 it ĵ env) R s:=by
 refine codeAny_loop rfl I (fun n s hI=>?_) n h;show wpAny _ A ((compTurn (.ListComp Ϭ [⟨Ξ,Ŗ,ϝ,0⟩] scope ë) 0 it ĵ env).onRaise fun x=>do Ū x env;theTreesLotGoes x) _ _ s;refine wpAny_noted ?_;rw[compTurn_list];refine Ã<|wpAny_standAt<|Ã<|Ĉ (turn n s hI) (fun r ě ϭ=>?_) fun _ _ h'=>h'.elim;cases r with
 |none=>exact Ñ ϭ
 |some v =>
  refine Ã<|Ĉ ϭ (fun _ ě ϭ=>?_) fun _ _ h'=>h'.elim;refine Ã<|Ĉ ϭ (fun _ ϸ h₂=>Ã<|Ĉ h₂ (fun ok ϔ h₃=>?_) hEX) hEX;cases ok with
  |false=>exact Ñ ⟨rfl,h₃⟩
  |true =>exact Ã<|Ã<|Ĉ h₃ (fun x s₄ h₄=>Ã<|Ĉ h₄ (fun _ s₅ h₅=>Ñ<|Ñ ⟨rfl,h₅⟩) fun _ _ h'=>h'.elim) hEX
theorem WS{Ϣ:Expr}{tg:TG}{it:Ä}{tn:Nat->ô->Prop}{J:It}{tc:TT}{te:TE}{Fin:List V->Hp->Prop}{W:Nat->Nat->List V->St->Hp->Prop}{E:Á->Â->Prop}
  {RR:Á->Ä->Result->Â->Prop}{m0:Nat}{xe:Ä->Â->List Ä->Á->Â->Prop}(hc:X.calm=true) (B:BlkOk X scope x ç) (I2:Inv X À σ H2 s2) (T:Turn X.prog X.w X.K Ϣ J fp it tn) (st2:tn 0 s2.heap) (f2:∀b∈fp,Y4 X À H2 b)
  (c1:∀x c,cl.lookup x=some c->X.env.cells.lookup x=some c) (c2:∀x,(x,Ė)∈scope.names->∃c,cl.lookup x=some c)
  (hI:∀cl C s ex,PIfs (Ze X scope (ZC X x ç) cl C s H2 ex<|xe C s ex) ϝ tc) (hE:∀cl C s ex,PE (Ze X scope (ZC X x ç) cl C s H2 ex<|xe C s ex) Ϭ te)
  (hG:∀cl C s H ex xe,PG (Ze X scope (ZC X x ç) cl C s H ex xe) Ϣ tg) (w0:W 0 m0 [] (Ë x.length none++K1 σ ç) H2) (cw:BC J tg tc te Fin W)
  (hRR:∀D C s' H' ys m,H' D=none->s'.heap.Ns C m->Y4 X À (upd H' D<|.lst ys) C->Inv X À σ (upd H' D<|.lst ys) s'->Fin ys H'->RR (.ref D) C (.ok .next) s')
  (hErr:∀(s3:Â),s3.os=s2.os->s3.heap.objs.size=s2.heap.objs.size+1->(∀b o,s2.heap.get? b=some o->s3.heap.get? b=some o)->∀v s',xe s3.heap.objs.size s3 (s2.heap.objs.size::fp) v s'->notedBy (Ö X.prog X.w) X.A (Ϛ scope cl s3.heap.objs.size X.env) (fun v s'=>RR (.ref s2.heap.objs.size) s3.heap.objs.size (.error v) s') v s') :
  wpAny (Ö X.prog X.w) X.A (newList []) (fun ĵ ϔ=>wpAny (Ö X.prog X.w) X.A (newFunctionEnv scope X.env.globals cl [] X.env.qual none .none<|some X.env) (fun cenv s₄ =>
    codeAny (Ö X.prog X.w) X.A (.compStart (.ListComp Ϭ [⟨Ϣ,Ŗ,ϝ,0⟩] scope ë) 0 (.ref it) ĵ { cenv with scope:=ah scope X.env }) (RR ĵ cenv.locals) s₄) E ϔ) E s2:=by
 refine ĕ (wpAny_newFunctionEnv B.nocell (by intro y hy;simp at hy) (fun ϭ aM aN=>?_) B.kind);dsimp only at aM aN ⊢;have hfp:∀b∈fp,b<s2.heap.objs.size:=fun b hb=>by obtain⟨o,e,_⟩:=T.obj _ _ st2 b hb;exact Õ e
 have I3:Inv X À σ H2 {s2 with heap:=s2.heap.push {cls:=.type "list",dict:=none,data:=.seq ([]:List Á).toArray}}:=I2.kept (t':=s2.toks) fun b o e=>Ì _ e;have h3:(s2.heap.push {cls:=.type "list",dict:=none,data:=.seq ([]:List Á).toArray}).objs.size=s2.heap.objs.size+1:=Ϡ ..;have bq:(s2.heap.push {cls:=.type "list",dict:=none,data:=.seq ([]:List Á).toArray}).get? s2.heap.objs.size=some {cls:=.type "list",dict:=none,data:=.seq ([]:List Á).toArray}:=è _ rfl;have δ:∀b o,s2.heap.get? b=some o->(s2.heap.push {cls:=.type "list",dict:=none,data:=.seq ([]:List Á).toArray}).get? b=some o:=fun b o e=>Ì _ e;generalize hH3:s2.heap.push {cls:=.type "list",dict:=none,data:=.seq ([]:List Á).toArray}=h3' at aM aN I3 h3 bq δ ⊢;have Ρ:∀b o,h3'.get? b=some o->ϭ.get? b=some o:=fun b o e=>aN.extBut b o (î<|Õ e)<|Ì _ e;have hDC:s2.heap.objs.size≠h3'.objs.size:=by rw[h3];exact î<|ı _
 have IB:=Na (cl:=cl) (fp:=fp) (s3:={s2 with heap:=h3'}) (D:=s2.heap.objs.size) (h1:=ϭ) (tk:=s2.toks+([]:List<|Str×Á).length) (xe:=xe h3'.objs.size {s2 with heap:=h3'}<|s2.heap.objs.size::fp) B I2 f2 c1 c2 I3 rfl h3 Ρ hfp aM;have hErr':=hErr {s2 with heap:=h3'} rfl h3 δ;generalize hY:Ze X scope (ZC X x ç) cl h3'.objs.size {s2 with heap:=h3'} H2 (s2.heap.objs.size::fp) (xe h3'.objs.size {s2 with heap:=h3'}<|s2.heap.objs.size::fp)=Y at IB;have yP:Y.prog=X.prog:=by rw[<-hY];rfl
 have yw:Y.w=X.w:=by rw[<-hY];rfl
 have yK:Y.K=X.K:=by rw[<-hY];rfl
 have yA:Y.A=X.A:=by rw[<-hY];rfl
 have yc:Y.calm=true:=by rw[<-hY];exact hc
 have yenv:Y.env=Ϛ scope cl h3'.objs.size X.env:=by rw[<-hY];rfl
 have hIY:PIfs Y ϝ tc:=by rw[<-hY];exact hI _ _ _ _
 have hEY:PE Y Ϭ te:=by rw[<-hY];exact hE _ _ _ _
 have yxe:Y.xe=xe h3'.objs.size {s2 with heap:=h3'} (s2.heap.objs.size::fp):=by rw[<-hY];rfl
 have ypn:Y.pn=[]:=by rw[<-hY];rfl
 have hgN:PG Y Ϣ tg:=by rw[<-hY];exact hG _ _ _ _ _ _
 have fD:∀{H':Hp},H' s2.heap.objs.size=none->Y4 Y [] H' s2.heap.objs.size:=fun{H'} hn=>by
  refine⟨hn,?_,?_,?_,?_,fun p hp=>?_⟩
  .rw[yenv];exact hDC
  .exact IB.ok.exfs _ (by rw[<-hY];exact å)
  .exact .inl (by rw[<-hY];exact å)
  .exact fun y c e=>(IB.ok.exf _<|by rw[<-hY];exact å).2 y c e
  .rw[ypn]at hp;exact nomatch hp
 have fF:∀{H':Hp},(∀b∈fp,H' b=none)->∀b∈fp,Y4 Y [] H' b:=fun{H'} hn b hb=>by
  have hm:b∈Y.ex:=by rw[<-hY];exact á _ hb
  refine⟨hn b hb,?_,IB.ok.exfs b hm,.inl hm,fun y c e=>(IB.ok.exf b hm).2 y c e,fun p hp=>?_⟩
  .exact(IB.ok.exf b hm).1
  .rw[ypn]at hp;exact nomatch hp
 have acc0:ϭ.PlainList s2.heap.objs.size ([]:List Á).toArray:=⟨0,by exact Ρ _ _ bq⟩
 have loop:∀ϔ:Â,ϔ={s2 with heap:=ϭ,toks:=s2.toks+([]:List<|Str×Á).length}->
   codeAny (Ö X.prog X.w) X.A (.compLoop (.ListComp Ϭ [⟨Ϣ,Ŗ,ϝ,0⟩] scope ë) 0 (.ref it) (.ref s2.heap.objs.size)<|Ϛ scope cl h3'.objs.size X.env) (RR (.ref s2.heap.objs.size) h3'.objs.size) ϔ:=by
  rintro ϔ rfl;refine JH (fun n s'=>∃i ys ò τ H',Inv Y [] τ H' s'/\tn i s'.heap/\(∀b∈fp,H' b=none)/\H' s2.heap.objs.size=none/\Vals ys ò/\s'.heap.PlainList s2.heap.objs.size ò.toArray/\W i n ys τ H') (EX:=Y.xe) (fun v s' e=>hErr' v s'<|by rw[yxe]at e;exact e) ?_ m0
   ⟨0,[],[],_,H2,IB,T.keep _ _ _ st2 fun b hb o e=>Ρ _ _<|δ _ _ e,fun b hb=>(f2 b hb).1,I2.fresh,.nil,acc0,w0⟩
  rintro n s3 ⟨i,ys,ò,τ,H3,I3',st3,fr3,frD,rv,pl,w3⟩;have cv:∀{α:Type}{f:Sem α}{Q Q':α->Â->Prop}{s:Â},wpAny (Ö Y.prog Y.w) Y.A f Q Y.xe s->(∀a s',Q a s'->Q' a s')->wpAny (Ö X.prog X.w) X.A f Q' Y.xe s:=fun{α f Q Q' s} h hq=>by rw[yP,yw,yA]at h;exact Ĉ h hq fun _ _ e=>e
  have cvX:∀{α:Type}{f:Sem α}{Q Q':α->Â->Prop}{s:Â},wpAny (Ö X.prog X.w) Y.A f Q (fun _ _=>False) s->(∀a s',Q a s'->Q' a s')->wpAny (Ö X.prog X.w) X.A f Q' (fun _ _=>False) s:=fun{α f Q Q' s} h hq=>by rw[yA]at h;exact Ĉ h hq fun _ _ e=>e
  obtain⟨nD,hD3⟩:=id pl;have plD:∀b∈[s2.heap.objs.size],∃o,s3.heap.get? b=some o/\∀v,o.data≠.cell v:=fun b hb=>by
   have e:b=s2.heap.objs.size:=by simpa using hb
   subst e;exact⟨_,hD3,fun v z=>by cases z⟩
  have IP:=I3'.pinned (fp:=[s2.heap.objs.size]) (fun b hb=>by
    have e:b=s2.heap.objs.size:=by simpa using hb
    subst e
    exact fD frD) plD
  have memD:=ZF (fp:=[s2.heap.objs.size]) (ñ.mpr rfl) hD3;have fF':∀b∈fp,Y4 Y ([]++Yy [s2.heap.objs.size] s3.heap) H3 b:=fun b hb=>by
   obtain⟨q1,q2,q3,q4,q5,q6⟩:=fF fr3 b hb;refine⟨q1,q2,q3,q4,q5,fun p hp=>?_⟩;rw[ypn]at hp;obtain⟨ak,_⟩:=Wq (show p∈Yy [s2.heap.objs.size] s3.heap by simpa using hp);have e:p.1=s2.heap.objs.size:=by simpa using ak
   rw[e];exact(î<|hfp b hb).symm
  obtain⟨hys,h|⟨go,N,hN,step⟩⟩:=cw i n ys τ H3 w3
  .obtain⟨stop,fin⟩:=h;refine cvX (T.done Y yP yw yK yc i _ s3 _ H3 _ IP fF' st3 stop) fun r s4 ⟨hr,I4⟩=>?_;subst hr;obtain⟨m4,hm4,_⟩:=I4.loc;rw[yenv]at hm4;have ϕ:Un (frs X.stack) (s2.heap.objs.size::fp) H2 H3 h3' s4.heap:=by
    have:=I4.base;rw[<-hY]at this;exact this
   have hok4:HOk X.prog X.w H3 s4.heap:=by have:=I4.hok;rw[yP,yw]at this;exact this
   have pl4:=(I4.pin _<|Ò _<|Ò _ memD).1;have nC:H3 h3'.objs.size=none:=by have:=I4.free;rw[yenv]at this;exact this
   have ģ:ys.length<=Ô:=ŋ hys;have osEq:s4.os=s2.os:=by have:=I4.os;rw[<-hY]at this;exact this
   have neD:∀b o,s2.heap.get? b=some o->b≠s2.heap.objs.size:=fun b o e=>î<|Õ e;have al:∀b o,s2.heap.get? b=some o->b∉fp->b∉s2.heap.objs.size::fp:=fun b o e hb z=>(Î.mp z).elim (neD b o e) hb;have hokN:HOk X.prog X.w (upd H3 s2.heap.objs.size<|.lst ys) s4.heap:=hok4.track frD ⟨ģ,ò,nD,rv,pl4⟩;have U:Un (frs X.stack) fp H2 (upd H3 s2.heap.objs.size<|.lst ys) s2.heap s4.heap:=by
    refine⟨fun b o e hn hf hx=>ϕ.keep b o (δ b o e) hn hf<|al b o e hx,fun b o e hn hf hx=>ϕ.slot b o (δ b o e) hn hf<|al b o e hx,fun b o e hn hx=>?_,fun b o e hx=>ϕ.there b o (δ b o e)<|al b o e hx,fun b xs e=>?_,fun b o xs e=>?_,fun b ps e=>?_⟩
    .rw[upd_ne<|neD b o e];exact ϕ.free b o (δ b o e) hn<|al b o e hx
    .have q:=ϕ.tups b xs e;rw[upd_ne<|Zd q frD];exact q
    .have q:=ϕ.frzs b o xs e;rw[upd_ne<|Zd q frD];exact q
    .obtain⟨more,q⟩:=ϕ.tbls b ps e;exact⟨more,by rw[upd_ne<|Zd q frD];exact q⟩
   have I5:Inv X À σ (upd H3 s2.heap.objs.size<|.lst ys) s4:=I2.call' (ch:=fp) osEq U hokN I4.bare fun b hb=>by obtain⟨_,q2,_,q4,q5,q6⟩:=f2 b hb;exact⟨q4,q2,q5,q6⟩
   exact hRR _ _ _ _ _ m4 frD hm4 (I2.fpOk (ŋ<|by rw[h3];exact ı _)<|by rw[upd_ne hDC.symm];exact nC) I5 fin
  .refine cvX (T.item Y yP yw yK yc i _ s3 _ H3 _ IP fF' st3 go) fun r s4 ⟨u,hr,h4⟩=>?_;subst hr;refine cvX h4 fun _ s5 ⟨y,H5,I5,r5,y5,st5,fr5⟩=>?_;have frD5:H5 s2.heap.objs.size=none:=(I5.pin _<|Ò _<|Ò _ memD).2.1;have hD5:=(I5.pin _<|Ò _<|Ò _ memD).1;have I5p:=I5.unpinned.pinned (fp:=s2.heap.objs.size::fp) (fun b hb=>by
     rcases Î.mp hb with e|hb
     . subst e;exact fD frD5
     . exact fF fr5 b hb) (fun b hb=>by
     rcases Î.mp hb with e|hb
     . subst e;exact⟨_,hD5,fun v z=>by cases z⟩
     . exact T.obj _ _ st5 b hb)
   have memD5:=ZF (fp:=s2.heap.objs.size::fp) å hD5;rw[<-yenv];refine cv (hgN _ s5 _ H5 y u _ I5p r5<|step y H5 y5) fun _ s6 ⟨σ6,H6,I6,q6⟩=>?_;have Α:∀{m':Nat}{ϫ:St}{H7:Hp}{s7:Â}{ys':List V}{its':List Á},Inv Y [] ϫ H7 s7->tn (i+1) s7.heap->(∀b∈fp,H7 b=none)->H7 s2.heap.objs.size=none->Vals ys' its'->s7.heap.PlainList s2.heap.objs.size its'.toArray->m'<n/\W (i+1) m' ys' ϫ H7->
     ∃m,m<n/\∃i ys ò τ H',Inv Y [] τ H' s7/\tn i s7.heap/\(∀b∈fp,H' b=none)/\H' s2.heap.objs.size=none/\Vals ys ò/\s7.heap.PlainList s2.heap.objs.size ò.toArray/\W i m ys τ H' :=
    fun{m' ϫ H7 s7 ys' its'} J1 st7 fr7 fd7 rv7 pl7 wm=>⟨m',wm.1,i+1,ys',its',ϫ,H7,J1,st7,fr7,fd7,rv7,pl7,wm.2⟩
   have stay:∀{ϫ:St}{H7:Hp}{s7:Â},Inv Y ([]++Yy (s2.heap.objs.size::fp) s5.heap) ϫ H7 s7->tn (i+1) s7.heap/\(∀b∈fp,H7 b=none)/\H7 s2.heap.objs.size=none/\s7.heap.get? s2.heap.objs.size=some {cls:=.type "list",data:=.seq ò.toArray nD}:=by intro ϫ H7 s7 J1;refine⟨T.keep _ _ _ st5 fun b hb o e=>(J1.pin (b,o)<|Ò _<|Ò _<|ZF (á _ hb) e).1,fun b hb=>?_,(J1.pin _<|Ò _<|Ò _ memD5).2.1,(J1.pin _<|Ò _<|Ò _ memD5).1⟩;obtain⟨o,e,d⟩:=T.obj _ _ st5 b hb;exact(J1.pin (b,o)<|Ò _<|Ò _<|ZF (á _ hb) e).2.1
   refine cv (hIY _ s6 _ H6 _ I6 q6) fun ok s7 ⟨H7,I7,q7⟩=>?_;cases ok with
   |false =>rw[if_neg<|by decide]at q7;rw[if_neg<|by decide];obtain⟨m',wm⟩:=hN _ _ _ q7;obtain⟨a1,a2,a3,a4⟩:=stay I7;exact Α I7.unpinned a1 a2 a3 rv ⟨nD,a4⟩ wm
   |true =>
    rw[if_pos rfl]at q7;rw[if_pos rfl];refine cv (hEY _ s7 _ H7 _ I7 q7) fun z s8 ⟨vz,H8,I8,rz,wm⟩=>?_;obtain⟨m',wm⟩:=hN _ _ _ wm;obtain⟨a1,a2,a3,a4⟩:=stay I8;have ģ:=rv.length;refine wpAny_list_append_plain (hsz:=by rw[Ê];omega) (⟨nD,a4⟩:s8.heap.PlainList _ ò.toArray) fun h9 hl9 hs9=>?_;obtain⟨q1,q2,q3,q4,q5,q6⟩:=fD a3;have I9:Inv Y [] _ H8 {s8 with heap:=h9}:=I8.unpinned.turned (t':=s8.toks) (fun b o hb e=>hs9.extBut b o hb e) q1 q2 q4 q5 q6;refine Α I9 (T.keep _ _ _ a1 fun b hb o e=>hs9.extBut b o (î<|hfp b hb) e) a2 a3 (its':=ò++[z]) (rv.append<|.cons rz .nil) ?_ wm;have e:ò.toArray.push z=(ò++[z]).toArray:=by simp
    rw[e]at hl9;exact hl9
 exact codeAny_compStart_list (loop _ rfl)<|T.self _ 0 _ _ _ (T.keep _ _ _ st2 fun b hb o e=>Ρ _ _<|δ _ _ e)<|loop _ rfl
end
mutual
inductive IsD (K:PySem.W.Frag) (H:Hp):V->Ŀ->Prop
 |non:IsD K H .non .none
 |bl (b:Bool):IsD K H (.bl b)<|.bool b
 |int (i:Int):IsD K H (.int i)<|.int i
 |str (x:Str):IsD K H (.str x)<|.str x
 |lst {a:Ä}{xs:List V}{ds:List Ŀ}:SqL K H a xs->IsDs K H xs ds->IsD K H (.ref a) (.list ds)
 |tup {a:Ä}{xs:List V}{ds:List Ŀ}:SqT K H a xs->IsDs K H xs ds->IsD K H (.ref a) (.tuple ds)
inductive IsDs (K:PySem.W.Frag) (H:Hp):List V->List Ŀ->Prop
 |nil:IsDs K H [] []
 |cons {x:V}{xs:List V}{d:Ŀ}{ds:List Ŀ}:IsD K H x d->IsDs K H xs ds->IsDs K H (x::xs) (d::ds)
end
section
variable {X:Cx}{À:List (Ä×Obj)}{σ:St}{H:Hp}{s:Â}
mutual
theorem IsD.reads(I:Inv X À σ H s):∀{v:V}{d:Ŀ}{u:Á},IsD X.K H v d->RelV v u->∃as,Reads s.heap u d as
 |_,_,_,.non,r=>by cases r;exact⟨_,.none⟩
 |_,_,_,.bl b,r=>by cases r;exact⟨_,.bool b⟩
 |_,_,_,.int i,r=>by obtain⟨t,rfl⟩:=r;exact⟨_,.int i t⟩
 |_,_,_,.str x,r=>by obtain⟨t,rfl⟩:=r;exact⟨_,.str x t⟩
 |_,_,_,.lst q qs,r=>by cases r;obtain⟨ò,rv,⟨o,n,e,c,_,d⟩,_⟩:=I.list q;obtain⟨as,ra⟩:=IsDs.reads I qs rv;exact⟨_,.list e c d<|by simpa using ra⟩
 |_,_,_,.tup q qs,r=>by cases r;obtain⟨ò,rv,⟨o,e,c,n,d⟩,_⟩:=I.tuple q;obtain⟨as,ra⟩:=IsDs.reads I qs rv;exact⟨_,.tuple e c d<|by simpa using ra⟩
theorem IsDs.reads(I:Inv X À σ H s):∀{vs:List V}{ds:List Ŀ}{us:List Á},IsDs X.K H vs ds->Vals vs us->∃as,ReadsAll s.heap us ds as
 |_,_,_,.nil,.nil=>⟨_,.nil⟩
 |_,_,_,.cons q qs,.cons r rs=>by obtain⟨as,ra⟩:=IsD.reads I q r;obtain⟨bs,rb⟩:=IsDs.reads I qs rs;exact⟨_,.cons ra rb⟩
end
end
variable {H:Hp}
theorem Same.sqT{K:PySem.W.Frag}{H':Hp}{a:Ä}{xs:List V}(e:Same H H')(h:SqT K H a xs):SqT K H' a xs:=by
 rcases h with(h|⟨o,h⟩)|h
 .exact .inl<|.inl<|e _ _ h
 .exact .inl<|.inr ⟨o,e _ _ h⟩
 .exact .inr h
mutual
theorem IsD.same{K:PySem.W.Frag}{H H':Hp}(e:Same H H'):∀{v:V}{d:Ŀ},IsD K H v d->IsD K H' v d
 |_,_,.non=>.non
 |_,_,.bl b=>.bl b
 |_,_,.int i=>.int i
 |_,_,.str x=>.str x
 |_,_,.lst q qs=>.lst (e.seq q)<|IsDs.same e qs
 |_,_,.tup q qs=>.tup (e.sqT q)<|IsDs.same e qs
theorem IsDs.same{K:PySem.W.Frag}{H H':Hp}(e:Same H H'):∀{vs:List V}{ds:List Ŀ},IsDs K H vs ds->IsDs K H' vs ds
 |_,_,.nil=>.nil
 |_,_,.cons q qs=>.cons (IsD.same e q)<|IsDs.same e qs
end
theorem IsDs.ints{K:PySem.W.Frag}{H:Hp}:∀ns:List Int,IsDs K H (ns.map V.int) (ns.map PyData.int)
 |[]=>.nil
 |n::ns=>.cons (.int n)<|IsDs.ints ns
theorem IsDs.length{K:PySem.W.Frag}{H:Hp}:∀{vs:List V}{ds:List Ŀ},IsDs K H vs ds->vs.length=ds.length
 |_,_,.nil=>rfl
 |_,_,.cons _ t=>by rw[Å,Å,IsDs.length t]
theorem IsDs.get{K:PySem.W.Frag}{H:Hp}:∀{vs:List V}{ds:List Ŀ}{i:Nat}{v:V},IsDs K H vs ds->vs[i]?=some v->∃d,ds[i]?=some d/\IsD K H v d
 |_,_,_,_,.nil,e=>by simp at e
 |_,_,0,_,.cons q _,e=>by simp at e;subst e;exact⟨_,rfl,q⟩
 |_,_,i+1,v,.cons _ t,e=>by obtain⟨d,h1,h2⟩:=IsDs.get (i:=i) (v:=v) t (by simpa using e);exact⟨d,by simpa using h1,h2⟩
theorem IsDs.append{K:PySem.W.Frag}{H:Hp}:∀{xs ys:List V}{ds es:List Ŀ},IsDs K H xs ds->IsDs K H ys es->IsDs K H (xs++ys) (ds++es)
 |_,_,_,_,.nil,h=>h
 |_,_,_,_,.cons q t,h=>.cons q<|IsDs.append t h
section
variable {X:Cx}
noncomputable def F3(K:PySem.W.Frag):R2:=fun x y H Q=>∃d e,IsD K H x d/\IsD K H y e/\SeqAt.shaped d=true/\SeqAt.shaped e=true/\Q (.bl<|ė d e) H
noncomputable def CG(K:PySem.W.Frag):R2:=fun x y H Q=>∃d e,IsD K H x d/\IsD K H y e/\SeqAt.shaped d=true/\SeqAt.shaped e=true/\Q (.bl (!ė d e)) H
theorem DH(hu:X.A.units+64<Ğ):OpR X (Ý .Eq)<|F3 X.K:=by intro À s σ H x y v u Q I rx ry h;obtain⟨d,e,hd,he,sd,se,q⟩:=h;obtain⟨as,ra⟩:=hd.reads I rx;obtain⟨bs,rb⟩:=he.reads I ry;exact SeqAt.compareEq_shaped ra rb sd se hu ⟨.bl _,H,I,rfl,q⟩
theorem Oy(hu:X.A.units+64<Ğ):OpR X (Ý .NotEq)<|CG X.K:=by intro À s σ H x y v u Q I rx ry h;obtain⟨d,e,hd,he,sd,se,q⟩:=h;obtain⟨as,ra⟩:=hd.reads I rx;obtain⟨bs,rb⟩:=he.reads I ry;exact SeqAt.compareNe_shaped ra rb sd se hu ⟨.bl _,H,I,rfl,q⟩
inductive TyV (K:PySem.W.Frag) (H:Hp):V->Á->Prop
 |of {x:V}{t:Á}:TyOf K H x t->TyV K H x t
 |tup {a:Ä}{xs:List V}:SqT K H a xs->TyV K H (.ref a) (.type "tuple")
 |lst {a:Ä}{xs:List V}:SqL K H a xs->TyV K H (.ref a) (.type "list")
theorem TyV.int{K:PySem.W.Frag}(i:Int):TyV K H (.int i)<|.type "int":=.of (.int i)
theorem Uz:CallR X (.builtin "isinstance") fun xs H Q=>∃x T t b,xs=[x,.ty T]/\TyV X.K H x t/\PySem.W.kitOne X.K t (.type T)=some b/\Q (.bl b) H:=by
 intro À s σ H xs us Q I r h;obtain⟨x,T,t,b,rfl,ty,e,q⟩:=h;obtain⟨u,v,rfl,ru,rv⟩:=WM r;cases rv;cases ty with
 |of ty=>exact NC I ru ty e fun tk=>⟨.bl b,H,I.tok tk,rfl,q⟩
 |tup hq =>cases ru;obtain⟨ò,_,⟨o,h1,h2,_⟩,_⟩:=I.tuple hq;exact PySem.W.kia_one PySem.W.kitx_tuple I.kIn ⟨o,h1,h2⟩ e (fun z=>nomatch z) fun tk=>⟨.bl b,H,I.tok tk,rfl,q⟩
 |lst hq =>cases ru;obtain⟨ò,_,⟨o,n,h1,h2,_⟩,_⟩:=I.list hq;exact PySem.W.kia_one PySem.W.kitx_list I.kIn ⟨o,h1,h2⟩ e (fun z=>nomatch z) fun tk=>⟨.bl b,H,I.tok tk,rfl,q⟩
theorem Oi(hc:X.calm=true):CallR X (.builtin "all") fun xs H Q=>∃p,∃bs:List Bool,xs=[.ref p]/\SqL X.K H p (bs.map V.bl)/\Q (.bl<|bs.all id) H:=by
 intro À s σ H xs us Q I r h;obtain⟨p,bs,rfl,hq,q⟩:=h;obtain⟨u,rfl,rx⟩:=Ye r;cases rx;obtain⟨ò,rv,pl,hz⟩:=I.list hq;have ģ:=rv.length;rw[È]at ģ;have a8:p<s.heap.objs.size:=by obtain⟨o,n,e,_⟩:=pl;exact Õ e
 refine call_all_walk<|wpAny_pyIter_list pl.isList ?_;refine⟨s.heap.objs.size,_,_,ò.toArray.size,_,_,fun i=>bs.getD i true,rfl,Walks.list (A:=X.A.in1) (I.ok.hd hc) s.heap.objs.size p (î a8) ò.toArray,⟨⟨_,è _ rfl,rfl,rfl⟩,pl.isList.push _⟩,?_,fun h' tk hk=>?_⟩
 .intro i v s' Q' E' hP hQ;have hP:ò[i]?=some v:=by simpa using hP
  have hb:(bs.map V.bl)[i]?=some (.bl<|bs.getD i true):=by
   have hi:i<bs.length:=by have:=(ð.mp hP).1;omega
   rw[í,Ď];simp[hi]
  obtain⟨u,hu,ru⟩:=rv.get hb;rw[hP]at hu;cases hu;cases ru;exact Ą hQ
 .have e:(List.range ò.toArray.size).all (fun i=>bs.getD i true)=bs.all id:=by
   rw[Ê,<-ģ,Bool.eq_iff_iff,Ú,Ú];constructor
   .intro h b hb;obtain⟨i,hi,rfl⟩:=List.mem_iff_getElem.mp hb;have:=h i<|ş.mpr hi;rw[Ď,ß hi]at this;exact this
   .intro h i hi;have hi:=ş.mp hi;rw[Ď,ß hi];exact h _<|Ů hi
  rw[e];refine⟨.bl _,H,I.kept (t':=tk) fun b o e=>hk b o (fun hm=>?_)<|Ì _ e,rfl,q⟩;have:b=s.heap.objs.size:=by simpa using hm
  exact absurd (this▸Õ e)<|ĩ _
noncomputable def sortI(ns:List Int):List Int:=ns.mergeSort fun a b=>decide (a<=b)
end
structure Bl(mg:Str->Option Á):Prop where
 len:mg "len" = none
 isinstance:mg "isinstance" = none
 int:mg "int" = none
 bool:mg "bool" = none
 list:mg "list" = none
 tuple:mg "tuple" = none
 set:mg "set" = none
 all:mg "all" = none
 sorted:mg "sorted" = none
 min:mg "min" = none
 max:mg "max" = none
 range:mg "range" = none
 enumerate:mg "enumerate" = none
 sum:mg "sum" = none
 str:mg "str" = none
 dict:mg "dict" = none
section
variable {X:Cx}{x:Str}{p ë:Pos}{e:Expr}{es:List Expr}{t:TA}
theorem FW{T:String}(hg:Gl X x)(hm:X.mg x=none)(hv:ń x=some (.type T))(hn:x≠"__name__":=by decide)(hd:(x==("__debug__" : Str))=false:=by decide):PE X (.Name x ë)<|tC<|.ty T:=Mi hg hm hv rfl hn hd
end
noncomputable def ZU(scope sc:ŕ)(N:List Str)(x:List Str)(ç:List Nat):Bool :=
 scope.names.all (fun y=>y.2 != .cell)&&scope.names.all (fun y=>y.2 != .local||scope.names.lookup y.1==some .local)&&x.all (fun y=>scope.names.lookup y==some .local) &&
 scope.names.all (fun y=>y.2 != .free||sc.names.lookup y.1==some .cell) &&
 ç.all (fun j=>decide (j<N.length)&&sc.names.lookup (N.getD j Str.empty)==some .cell&&scope.names.lookup (N.getD j Str.empty)==some .free)&&decide (x++ç.map fun j=>N.getD j Str.empty).Nodup
theorem KI{X:Cx}{scope sc:ŕ}{x:List Str}{ç:List Nat}{N:List Str}(hsc:X.env.scope=sc)(hN:X.N=N)(hk:scope.kind=.function)(h:ZU scope sc N x ç=true):BlkOk X scope x ç:=by
 unfold ZU at h;simp only[bAq]at h;obtain⟨⟨⟨⟨⟨h1,h2⟩,h3⟩,h4⟩,h5⟩,h6⟩:=h;rw[Ú]at h1 h2 h4 h5;refine⟨hk,fun y hy=>by simpa using h1 y hy,fun y hy e=>?_,fun y hy=>by simpa using Ú.mp h3 y hy,fun y hy e=>?_,fun j hj=>?_,?_⟩
 .have:=h2 y hy;rw[e]at this;simpa using this
 .have:=h4 y hy;rw[e]at this;show X.env.scope.names.lookup y.1=_;rw[hsc];simpa using this
 .have:=h5 j hj;simp only[bAq,decide_eq_true_eq,beq_iff_eq]at this;obtain⟨⟨a,b⟩,c⟩:=this;refine⟨?_,?_,?_⟩
  .rw[hN,ß a];rfl
  .show X.env.scope.names.lookup _=_;rw[hsc,hN];exact b
  .rw[hN];exact c
 .unfold ZC;rw[hN];exact of_decide_eq_true h6
def Keep(r:Ä)(H H':Hp):Prop:=∀b o,H b=some o->b≠r->H' b=some o
variable {H:Hp} {H':Hp}
theorem Same.keep(e:Same H H')(r:Ä):Keep r H H':=fun b o h _=>e b o h
theorem Keep.refl(r:Ä)(H:Hp):Keep r H H:=fun _ _ h _=>h
variable {r:Ä}
theorem Keep.trans{H1 H2:Hp}(a:Keep r H H1)(b:Keep r H1 H2):Keep r H H2:=fun c o h n=>b c o (a c o h n) n
theorem Keep.upd{o:HO}:Keep r H<|L2.upd H r o:=fun b u h n=>by rw[upd_ne n];exact h
theorem Keep.free(e:Keep r H H'){l:Ä}(hr:∃o,H' r=some o)(h:H' l=Option.none):H l=Option.none:=by
 cases q:H l with
 |none=>rfl
 |some o =>
  by_cases hl:l=r
  .subst hl;obtain⟨o',z⟩:=hr;rw[h]at z;cases z
  .rw[e l o q hl]at h;cases h
mutual
noncomputable def KM:Ŀ->Bool
 |.list _=>false
 |.tuple xs=>noLists xs
 |.dict _=>false
 |_=>true
noncomputable def noLists:List Ŀ->Bool
 |[]=>true
 |x::xs=>KM x&&noLists xs
end
variable {a:Ä} {xs:List V}
theorem SqT.keep{K:PySem.W.Frag}{zs:List V}(k:Keep r H H')(hr:H r=some (.lst zs))(h:SqT K H a xs):SqT K H' a xs:=by
 rcases h with(h|⟨o,h⟩)|h
 .exact .inl (.inl<|k _ _ h<|B1 h hr<|by intro z;cases z)
 .exact .inl (.inr ⟨o,k _ _ h<|B1 h hr<|by intro z;cases z⟩)
 .exact .inr h
theorem SqL.keep{K:PySem.W.Frag}(k:Keep r H H')(hr:a≠r)(h:SqL K H a xs):SqL K H' a xs:=by
 rcases h with(h|⟨o,h⟩)|h
 .exact .inl<|.inl<|k _ _ h hr
 .exact .inl<|.inr ⟨o,k _ _ h hr⟩
 .exact .inr h
mutual
theorem IsD.keep{K:PySem.W.Frag}{r:Ä}{H H':Hp}{zs:List V}(k:Keep r H H')(hr:H r=some (.lst zs)):∀{v:V}{d:Ŀ},IsD K H v d->KM d=true->IsD K H' v d
 |_,_,.non,_=>.non
 |_,_,.bl b,_=>.bl b
 |_,_,.int i,_=>.int i
 |_,_,.str x,_=>.str x
 |_,_,.lst q qs,h=>by cases h
 |_,_,.tup q qs,h=>.tup (q.keep k hr)<|IsDs.keep k hr qs h
theorem IsDs.keep{K:PySem.W.Frag}{r:Ä}{H H':Hp}{zs:List V}(k:Keep r H H')(hr:H r=some (.lst zs)):∀{vs:List V}{ds:List Ŀ},IsDs K H vs ds->noLists ds=true->IsDs K H' vs ds
 |_,_,.nil,_=>.nil
 |_,_,.cons q qs,h=>by have h':=ε.mp (show(KM _&&noLists _)=true from h);exact .cons (IsD.keep k hr q h'.1)<|IsDs.keep k hr qs h'.2
end
noncomputable abbrev Tie:=Int×Int×Int
noncomputable def Hm(t:Tie):Ŀ:=.tuple [.int t.1,.int t.2.1,.int t.2.2]
theorem IsD.tie{K:PySem.W.Frag}{x y c:Int}(h:SqT K H a [.int x,.int y,.int c]):IsD K H (.ref a)<|Hm (x,y,c):=.tup h (.cons (.int x)<|.cons (.int y)<|.cons (.int c) .nil)
variable {c:Bool} {A:Prop} {B:Prop}
theorem ifT(e:c=true)(h:A):if c=true then A else B:=by rw[if_pos e];exact h
theorem ifF(e:c=false)(h:B):if c=true then A else B:=by rw[e,if_neg ú];exact h
structure BrOk(ns:List Int):Prop where
 one:1<=ns.length
 ten:ns.length<=10
 rng:∀n∈ns,0<=n/\n<=999
 nd:ns.Nodup
noncomputable def mn(x y:Int):Int:=if y<x then y else x
section
variable {X:Cx}(K:PySem.W.Frag) (h:X.K=K)
include h
end
open AutoSeq1 (wpAny_loadPart') in
section
variable {X:Cx}{À:List (Ä×Obj)}{σ:St}{H:Hp}{s:Â}{h':ô}
theorem Inv.track{T:Ä}{o:HO}(I:Inv X À σ H s)(hT:H T=none)(h0:X.s₀.heap.objs.size<=T)(hL:T≠X.env.locals)(hcl:∀x c,X.env.cells.lookup x=some c->c≠T)(hp:∀p∈X.pn++À,p.1≠T)
  (new:ObjOk X.prog X.w (upd H T o) s.heap T o):Inv X À σ (upd H T o) s:=by
 have neT:∀b ob,X.s₀.heap.get? b=some ob->b≠T:=fun b ob e=>î<|Þ (Õ e) h0;refine⟨I.ok,I.os,I.bare,⟨I.base.keep,I.base.slot,fun b ob e n hx=>?_,I.base.there,fun b xs e=>?_,fun b ob xs e=>?_,fun b ps e=>?_⟩,I.loc,I.cell,?_,fun x c e=>?_,fun p hpp=>?_,I.hok.track hT new,I.len⟩
 .rw[upd_ne<|neT b ob e];exact I.base.free b ob e n hx
 .have q:=I.base.tups b xs e;rw[upd_ne<|Zd q hT];exact q
 .have q:=I.base.frzs b ob xs e;rw[upd_ne<|Zd q hT];exact q
 .obtain⟨m,q⟩:=I.base.tbls b ps e;exact⟨m,by rw[upd_ne<|Zd q hT];exact q⟩
 .rw[upd_ne hL.symm];exact I.free
 .rw[upd_ne<|hcl x c e];exact I.freeC x c e
 .obtain⟨a,b,c,d,e⟩:=I.pin p hpp;exact⟨a,by rw[upd_ne<|hp p hpp];exact b,c,d,e⟩
end
end L2
namespace L2
open PySem PySem.Spec PyProof.Rows
open PySem.Builtin PySem.Builtin.Str
noncomputable abbrev TJ:=St->Hp->Str->(Str->Hp->Prop)->Prop
def PJ(X:Cx)(vs:List Expr)(t:TJ):Prop :=
 ∀(À:List<|Ä×Obj) (s:Â) (σ:St) (H:Hp) (ĵ:Str) (Q:Str->Hp->Prop),Inv X À σ H s->t σ H ĵ Q->
  Joins (Ö X.prog X.w) X.A X.xe (aw vs X.env) ĵ (fun out s1=>∃H1,Inv X À σ H1 s1/\out.length<=Ô/\Q out H1) s
noncomputable def GZ:TJ:=fun _ H ĵ Q=>ĵ.length<=Ô/\Q ĵ H
noncomputable def FS(te:TE)(tr:TJ):TJ:=fun σ H ĵ Q=>te σ H fun x H1=>∃y,x=.str y/\(ĵ++y).length<=Ô/\tr σ H1 (ĵ++y) Q
section
variable {X:Cx}{e:Expr}{es:List Expr}{te:TE}{tr:TJ}{ë:Pos}
theorem pj_nil:PJ X [] GZ:=fun À s σ H ĵ Q I h=>⟨H,I,h.1,h.2⟩
theorem BB(he:PE X e te)(hr:PJ X es tr)(hs:aw (e::es) X.env=eval e X.env::aw es X.env:=by rfl):PJ X (e::es)<|FS te tr:=by intro À s σ H ĵ Q I h;rw[hs];show wpAny _ _ _ _ _ _;refine thn (he À s σ H _ I h) fun v s1 ⟨x,H1,I1,r1,y,e1,hz,q1⟩=>?_;subst e1;obtain⟨t,rfl⟩:=r1;exact⟨y,t,rfl,hz,hr À s1 σ H1 (ĵ++y) Q I1 q1⟩
theorem Joins.imp{M:bw}{A:ć}{E:Á->Â->Prop}:∀{ps:List (Sem Á)}{ĵ:Str}{Q Q':Str->Â->Prop}{s:Â},(∀o s,Q o s->Q' o s)->Joins M A E ps ĵ Q s->Joins M A E ps ĵ Q' s
 |[],_,_,_,_,f,h=>f _ _ h
 |_::_,_,_,_,_,f,h=>thn h fun v s1 ⟨y,t,e,hz,hr⟩=>⟨y,t,e,hz,Joins.imp f hr⟩
end
theorem Mb:∀{ys:List Str}{us:List Á},Vals (ys.map V.str) us->StrsAre us ys
 |[],_,.nil=>.nil
 |y::ys,_,.cons r rs=>by obtain⟨t,rfl⟩:=r;exact .cons y t<|Mb rs
theorem WA:∀l:List<|Str×Tok,Vals ((l.map (·.1)).map V.str) (strValues l)
 |[]=>.nil
 |p::l=>.cons ⟨p.2,rfl⟩<|WA l
section
variable {X:Cx}
def B7(K:PySem.W.Frag):V->List V->Hp->VK->Prop:=fun x vs H Q=>∃ŭ p,∃ys:List Str,x=.str ŭ/\vs=[.ref p]/\SqL K H p (ys.map V.str)/\(ys.map (·.length)).sum+ys.length*ŭ.length<=16777216/\Q (.str<|Txt.join ŭ ys) H
theorem A0:MtR X "str.join"<|B7 X.K:=by intro À s σ H x vs v us Q I rx rv h;obtain⟨ŭ,p,ys,rfl,rfl,hq,hz,q⟩:=h;obtain⟨t,rfl⟩:=rx;obtain⟨u,rfl,ru⟩:=rv.one;cases ru;obtain⟨ò,r,pl,_⟩:=I.list hq;exact join_list pl.isList (by simpa using Mb r) hz fun t' k=>⟨.str _,H,I.tok k,⟨_,rfl⟩,q⟩
def Ed:V->List V->Hp->VK->Prop:=fun x vs H Q=>∃z c,x=.str z/\vs=[.str ⟨#[c]⟩]/\z.length+2<=Ô/\∀p,H p=none->Q (.ref p) (upd H p<|.lst<|(Txt.split z ⟨#[c]⟩).map V.str)
theorem Nr(z:Str)(c:Nat):(Txt.split z ⟨#[c]⟩).length<=z.length+1:=by
 have h:=ξ z ⟨#[c]⟩;have g:∀ps:List Str,ps.length<=(Str.join ⟨#[c]⟩ ps).length+1:=by
  intro ps;induction ps with
  |nil=>exact ϗ _
  |cons p r ih =>
   cases r with
   |nil=>show 1<=_+1;omega
   |cons p' r =>show(p'::r).length+1<=(p++(⟨#[c]⟩:Str)++Str.join ⟨#[c]⟩ (p'::r)).length+1;rw[strLen_append,strLen_append];have:(⟨#[c]⟩:Str).length=1:=rfl;omega
 have:=g<|Txt.split z ⟨#[c]⟩;rw[h]at this;exact this
theorem Uk:MtR X "str.split" Ed:=by
 intro À s σ H x vs v us Q I rx rv h;obtain⟨z,c,rfl,rfl,hz,q⟩:=h;obtain⟨t,rfl⟩:=rx;obtain⟨u,rfl,t',rfl⟩:=rv.one;have few:=Nr z c;have fin:∀(l:List<|Str×Tok) (k:Nat),l.map (·.1)=Txt.split z ⟨#[c]⟩->EP X À σ Q (.ref s.heap.objs.size) {s with heap:=s.heap.push {cls:=.type "list",data:=.seq (strValues l).toArray},toks:=k}:=fun l k e=>by have hv:=WA l;rw[e]at hv;exact⟨.ref s.heap.objs.size,_,I.lnew (t':=k) hv (by rw[È];omega),rfl,q _ I.fresh⟩
 have hy:((⟨#[c]⟩:Str).length==0)=false:=rfl;cases h1:(decide (z.length<(⟨#[c]⟩:Str).length)||decide (strKind z<strKind ⟨#[c]⟩))with
 |true=>exact Ŭ F.slot_str_split (μ _ _ _) F.entry_str_split (F.args_str_split_2 _ _) (meets_str_split_cannot_occur z ⟨#[c]⟩ t t' h1)<|fin [(z,t)] s.toks (if_pos h1).symm
 |false =>
  cases hf:(ϱ z ⟨#[c]⟩ 0 z.length<|z.length+1).isEmpty with
  |true=>exact Ŭ F.slot_str_split (μ _ _ _) F.entry_str_split (F.args_str_split_2 _ _) (meets_str_split_not_found z ⟨#[c]⟩ t t' h1 hy hf)<|fin [(z,t)] s.toks ((if_neg<|ne_true_of_eq_false h1).trans<|if_pos hf).symm
  |false =>have es:Txt.split z ⟨#[c]⟩=bR z (ϱ z ⟨#[c]⟩ 0 z.length<|z.length+1) (⟨#[c]⟩:Str).length:=(if_neg<|ne_true_of_eq_false h1).trans<|if_neg<|ne_true_of_eq_false hf;rw[es]at few;refine Ŭ F.slot_str_split (μ _ _ _) F.entry_str_split (F.args_str_split_2 _ _) (meets_str_split_sep z ⟨#[c]⟩ t t' h1 hy hf (by omega)<|by omega) ?_;have g:=fin (numbered s.toks<|bR z (ϱ z ⟨#[c]⟩ 0 z.length<|z.length+1) (⟨#[c]⟩:Str).length) (s.toks+(bR z (ϱ z ⟨#[c]⟩ 0 z.length<|z.length+1) (⟨#[c]⟩:Str).length).length)<|(numbered_texts _ _).trans es.symm;rw[<-strsFrom_eq]at g;exact g
end
noncomputable def Its(z:Str):It:=⟨fun i _=>i<z.length,fun i H x H'=>H'=H/\∃c,z.cps.toList[i]?=some c/\x=.str ⟨#[c]⟩,fun i _=>z.length<=i⟩
variable {x:Str} {px:Pos}
theorem OV{P:à}{w:þ}{K:PySem.W.Frag}(it:Ä)(z:Str)(t:Tok):Turn P w K (.Name x px) (Its z) [it] it (fun i h=>h.IsStrIter it (Č z) z t i) where
 mem:=by simp
 obj:=fun i h st b hb=>by
  have e:b=it:=by simpa using hb
  subst e;obtain⟨o,e,c,d⟩:=st;exact⟨o,e,fun v q=>by rw[d]at q;cases q⟩
 keep:=fun i h h' st k=>let ⟨o,ho,r⟩:=st;⟨o,k it (by simp) o ho,r⟩
 item:=by
  intro X hP hw hK hc i À s σ H E I hf st hg;subst hP hw hK;obtain⟨f0,f1,f2,f3,f4,f5⟩:=hf it (by simp);have hi:i<z.cps.size:=hg;obtain⟨c,hcx⟩:∃c,z.cps[i]?=some c:=⟨z.cps[i],by simp[hi]⟩
  have fin:∀h':ô,h'.IsStrIter it (Č z) z t (i+1)->Ŵ it s.heap h'->∃u,(some<|Value.str ⟨#[c]⟩ s.toks)=some u/\wpAny (Ö X.prog X.w) X.A (Ţ (.Name x px) (.ref it) u) (fun _ s2=>∃x' H',Inv X À σ H' s2/\RelV x' u/\(Its z).yld i H x' H'/\s2.heap.IsStrIter it (Č z) z t (i+1)/\∀b∈[it],H' b=none) E {s with heap:=h',toks:=s.toks+1}:=fun h' aW sb =>
   ⟨_,rfl,Ñ ⟨.str ⟨#[c]⟩,H,I.turned (t':=s.toks+1) (fun b o hb e=>(sb.2 b hb).trans e) f0 f1 f3 f4 f5,⟨_,rfl⟩,⟨rfl,c,by simpa using hcx,rfl⟩,aW,fun b hb=>(hf b hb).1⟩⟩
  cases ha:z.cps.all (· < 128)with
  |true =>
   have et:Č z = "str_ascii_iterator":=by unfold Č;rw[ha];rfl
   rw[et]at st;exact wpAny_pyNext_ascii_item st hcx fun h' aW sb=>fin h' (by rw[et];exact aW) sb
  |false =>
   have et:Č z = "str_iterator":=by unfold Č;rw[ha];rfl
   rw[et]at st;exact wpAny_pyNext_wide_item st hcx fun h' aW sb=>fin h' (by rw[et];exact aW) sb
 done:=by
  intro X hP hw hK hc i À s σ H E I hf st hg;subst hP hw hK;obtain⟨f0,f1,f2,f3,f4,f5⟩:=hf it (by simp);have hi:z.cps.size<=i:=hg;have hcx:z.cps[i]?=none:=by simp[hi]
  have fin:∀h':ô,Heap.ExtBut it s.heap h'->(none:Option Á)=none/\Inv X À σ H {s with heap:=h'}:=fun h' eb=>⟨rfl,I.turned (t':=s.toks) (fun b o hb e=>eb b o hb e) f0 f1 f3 f4 f5⟩
  cases ha:z.cps.all (· < 128)with
  |true =>
   have et:Č z = "str_ascii_iterator":=by unfold Č;rw[ha];rfl
   rw[et]at st;exact wpAny_pyNext_ascii_end (I.ok.hd hc) st hcx fin
  |false =>
   have et:Č z = "str_iterator":=by unfold Č;rw[ha];rfl
   rw[et]at st;exact wpAny_pyNext_wide_end (I.ok.hd hc) st hcx fin
 self:=fun A i s Q E st h=>by
  cases ha:z.cps.all (· < 128)with
  |true =>
   have et:Č z = "str_ascii_iterator":=by unfold Č;rw[ha];rfl
   rw[et]at st;exact wpAny_pyIter_striter_ascii st h
  |false =>
   have et:Č z = "str_iterator":=by unfold Č;rw[ha];rfl
   rw[et]at st;exact wpAny_pyIter_striter_wide st h
section
variable {X:Cx}
noncomputable def Hj(tl:TE):TI:=fun σ H R=>tl σ H fun x H1=>∃z,x=.str z/\R (Its z) H1
theorem Di{l:Expr}{tl:TE}(hl:PE X l tl):PI X (.Name x px) l<|Hj tl:=by
 intro À s σ H R I h;refine thn (hl À s σ H _ I h) fun v s1 ⟨y,H1,I1,r1,z,e,q⟩=>?_;subst e;obtain⟨t,rfl⟩:=r1;refine wpAny_pyIter_strU ⟨s1.heap.objs.size,[s1.heap.objs.size],_,_,H1,rfl,I1.kept (t':=s1.toks) fun b o e=>Ì _ e,OV _ z t,⟨_,è _ rfl,rfl,rfl⟩,fun b hb=>?_,q⟩;have e:b=s1.heap.objs.size:=by simpa using hb
 subst e;exact I1.fpOk (Ø _)<|I1.hok.fresh<|Ø _
end
noncomputable def Zg(x:Str):List Nat:=x.cps.toList
variable {x:Str}
theorem Wy{y:Str}(h:Zg x=Zg y):x=y:=Str.ext' (Χ.mp h)
theorem Yr(x y:Str):Zg (x++y)=Zg x++Zg y:=PySem.W.KT.app_list x y
noncomputable def jl(c:Nat):List (List Nat)->List Nat
 |[]=>[]
 |[x]=>x
 |x::y::r=>x++c::jl c (y::r)
theorem YB(c:Nat):∀ps:List Str,Zg (Str.join ⟨#[c]⟩ ps)=jl c (ps.map Zg)
 |[]=>rfl
 |[x]=>rfl
 |x::y::r=>by show Zg (x++(⟨#[c]⟩:Str)++Str.join ⟨#[c]⟩ (y::r))=Zg x++c::jl c ((y::r).map Zg);rw[Yr,Yr,YB c<|y::r,â];rfl
theorem MG{c:Nat}:∀{a b A B:List Nat},c∉a->c∉b->a++c::A=b++c::B->a=b/\A=B
 |[],[],_,_,_,_,h=>⟨rfl,(ø h).2⟩
 |[],y::b,_,_,_,hb,h=>absurd (ø h).1 (fun e=>hb<|by rw[e];exact å)
 |x::a,[],_,_,ha,_,h=>absurd (ø h).1 (fun e=>ha<|by rw[<-e];exact å)
 |x::a,y::b,A,B,ha,hb,h=>by obtain⟨e1,e2⟩:=ø h;obtain⟨e3,e4⟩:=MG (fun z=>ha<|á _ z) (fun z=>hb<|á _ z) e2;exact⟨by rw[e1,e3],e4⟩
variable {c:Nat}
theorem Ow{x y:List Nat}{r:List (List Nat)}:c∈jl c (x::y::r):=by show c∈x++c::jl c (y::r);simp
theorem NY{c:Nat}:∀{ps qs:List (List Nat)},ps≠[]->qs≠[]->(∀p∈ps,c∉p)->(∀q∈qs,c∉q)->jl c ps=jl c qs->ps=qs
 |[],_,h,_,_,_,_=>absurd rfl h
 |_,[],_,h,_,_,_=>absurd rfl h
 |[x],[y],_,_,_,_,h=>by rw[show x=y from h]
 |[x],y::z::r,_,_,hp,_,h=>absurd (show c∈x by rw[show x=jl c (y::z::r) from h];exact Ow)<|hp x å
 |x::z::r,[y],_,_,_,hq,h=>absurd (show c∈y by rw[show y=jl c (x::z::r) from h.symm];exact Ow)<|hq y å
 |x::y::r,x'::y'::r',_,_,hp,hq,h=>by obtain⟨e1,e2⟩:=MG (hp x å) (hq x' å) (show x++c::jl c (y::r)=x'++c::jl c (y'::r') from h);rw[e1,NY (by simp) (by simp) (fun p hp'=>hp p<|á _ hp') (fun q hq'=>hq q<|á _ hq') e2]
theorem Xa(c:Nat):∀l:List Nat,cnt c l=(l.count c:Int)
 |[]=>by simp[cnt_nil]
 |x::l=>by
  rw[cnt_cons,Xa c l,List.count_cons];by_cases e:x=c
  .subst e;simp<;>omega
  .have e':¬ c=x:=fun z=>e z.symm;simp[e,e']
theorem JJ(c:Nat):∀ps:List<|List Nat,ps≠[]->(jl c ps).count c+1=(ps.map<|List.count c).sum+ps.length
 |[],h=>absurd rfl h
 |[x],_=>by simp[jl]
 |x::y::r,_=>by have ih:=JJ c (y::r) (by simp);show(x++c::jl c (y::r)).count c+1=_;rw[List.count_append,List.count_cons_self,Ó,υ,Å];omega
theorem Ky:∀p∈Txt.split x ⟨#[c]⟩,c∉Zg p:=by
 have h1:=split_len x c;have h2:=YB c<|Txt.split x ⟨#[c]⟩;rw[ξ]at h2;rw[Xa]at h1;have Ψ:(Txt.split x ⟨#[c]⟩).map Zg≠[]:=by
  intro e;have:(Txt.split x ⟨#[c]⟩).length=0:=by rw[<-È (f:=Zg),e];rfl
  omega
 have h3:=JJ c _ Ψ;rw[<-h2,È]at h3;have h4:(x.cps.toList.count c)=(Zg x).count c:=rfl;have h5:(((Txt.split x ⟨#[c]⟩).map Zg).map<|List.count c).sum=0:=by omega
 intro p hp hc;have h6:List.count c (Zg p)∈((Txt.split x ⟨#[c]⟩).map Zg).map (List.count c):=ã.mpr ⟨Zg p,ã.mpr ⟨p,hp,rfl⟩,rfl⟩;have h7:∀(l:List Nat) (k:Nat),k∈l->k<=l.sum:=by
  intro l;induction l with
  |nil=>intro k h;cases h
  |cons a l ih =>
   intro k h;rw[υ];rcases Î.mp h with e|h
   .omega
   .have:=ih k h;omega
 have h8:=h7 _ _ h6;have h9:=List.count_pos_iff.mpr hc;omega
theorem O6{ps:List Str}(Ψ:ps≠[])(hf:∀p∈ps,c∉Zg p)(h:Zg x=jl c (ps.map Zg)):Txt.split x ⟨#[c]⟩=ps:=by
 have h2:=YB c<|Txt.split x ⟨#[c]⟩;rw[ξ]at h2;have hs:(Txt.split x ⟨#[c]⟩).map Zg≠[]:=by
  intro e;have h1:=split_len x c;rw[Xa]at h1;have:(Txt.split x ⟨#[c]⟩).length=0:=by rw[<-È (f:=Zg),e];rfl
  omega
 have e:=NY hs (by simpa using Ψ) (fun p hp=>by obtain⟨q,hq,rfl⟩:=ã.mp hp;exact Ky q hq) (fun p hp=>by obtain⟨q,hq,rfl⟩:=ã.mp hp;exact hf q hq)<|h2.symm.trans h;have inj:∀{as bs:List Str},as.map Zg=bs.map Zg->as=bs:=by
  intro as;induction as with
  |nil=>intro bs h;cases bs with|nil=>rfl|cons b bs=>cases h
  |cons a as ih =>
   intro bs h;cases bs with
   |nil=>cases h
   |cons b bs =>rw[Ó,Ó]at h;obtain⟨h1,h2⟩:=ø h;rw[Wy h1,ih h2]
 exact inj e
noncomputable def dg(n:Int):Str:=Str.ofString<|toString n
noncomputable def NE(m:Nat):List Nat:=(ĳ 10 m).map ü
theorem Oa(m:Nat):Zg (dg (m:Int))=NE m:=PySem.W.KIN.signs_num m
noncomputable def BM(m:Nat):Bool:=decide (1<=(NE m).length)&&decide ((NE m).length<=4)&&(NE m).all (fun c=>decide (48<=c)&&decide (c<=57))&&(if m=0 then NE m==[48]else(NE m).head? != some 48)
theorem Ba:(List.range 1001).all BM=true:=by decide +kernel
structure FigOk(n:Int):Prop where
 one:1<=(Zg<|dg n).length
 four:(Zg<|dg n).length<=4
 fig:∀c∈Zg (dg n),48<=c/\c<=57
 nought:n=0->Zg (dg n)=[48]
 first:n≠0->(Zg<|dg n).head?≠some 48
theorem Dq{n:Int}(h0:0<=n)(h1:n<=1000):FigOk n:=by
 obtain⟨m,rfl⟩:∃m:Nat,n=(m:Int):=⟨n.toNat,by omega⟩
 have h:=Ú.mp Ba m (ş.mpr<|by omega);unfold BM at h;simp only[bAq,decide_eq_true_eq]at h;obtain⟨⟨⟨a,b⟩,c⟩,d⟩:=h;rw[<-Oa]at a b c d;refine⟨a,b,fun k hk=>?_,fun e=>?_,fun e=>?_⟩
 .have:=Ú.mp c k hk;simpa using this
 .have e:m=0:=by omega
  rw[if_pos e]at d;simpa using d
 .have e:¬ m=0:=by omega
  rw[if_neg e]at d;simpa using d
noncomputable def wT:Str:="tie"
noncomputable def nl:Str:="\n"
noncomputable def fl(ls:List Str):List Nat:=(ls.map fun l=>Zg l++[10]).flatten
variable {n:Int}
theorem BrOk.fig{bs:List Int}(h:BrOk bs)(hn:n∈bs):FigOk n:=Dq (h.rng n hn).1 (by have:=(h.rng n hn).2;omega)
theorem FigOk.no(h:FigOk n){c:Nat}(hc:c<48):c∉Zg (dg n):=fun m=>by have:=(h.fig c m).1;omega
theorem Bz(x:Str)(ps:List Str):Txt.join x ps=Str.join x ps:=StrLaws.glued_eq_join x ps
end L2
namespace L2
open PySem PySem.Spec PyProof.Rows
variable {P:à} {w:þ} {H:Hp} {h:ô} {a:Ä}
theorem ObjOk.obj{o:HO}(x:ObjOk P w H h a o):∃u,h.get? a=some u:=by
 cases o with
 |lst xs=>obtain⟨_,_,_,_,e⟩:=x;exact⟨_,e⟩
 |tup xs=>obtain⟨_,_,_,ob,e,_⟩:=x;exact⟨_,e⟩
 |dK kvs=>obtain⟨_,_,_,_,o,_,_,e,_⟩:=x;exact⟨_,e⟩
 |dT kvs=>obtain⟨_,_,_,_,o,_,_,e,_⟩:=x;exact⟨_,e⟩
 |set S n=>obtain⟨o,_,_,_,e,_⟩:=x;exact⟨_,e⟩
 |ins C dx fs=>obtain⟨_,_,_,e,_⟩:=x;exact⟨_,e⟩
 |own y=>exact x
 |xd fs=>obtain⟨_,⟨_,_,_,e,_⟩,_⟩:=x;exact⟨_,e⟩
 |rng lo hi=>obtain⟨_,_,_,e⟩:=x;exact⟨_,e⟩
 |frz ob u=>exact⟨_,x.1⟩
 |tbl ps=>exact⟨_,(show h.get? a=some _ from x)⟩
 |met f y=>exact⟨_,(show h.get? a=some _ from x)⟩
 |ext φ=>exact x.2.1
theorem HOk.none_of(x:HOk P w H h)(e:h.get? a=none):H a=none:=by
 cases q:H a with
 |none=>rfl
 |some u =>obtain⟨ob,z⟩:=(x a u q).obj;rw[e]at z;cases z
def Jm(h:ô)(a:Ä)(cls:Á)(T:Option Ä):Prop :=
 ∃oe vs a0,h.get? a=some oe/\oe.cls=cls/\oe.data=.fields vs/\vs[0]?=some a0/\
  match T with
  |none=>vs[1]?=some .none
  |some T=>vs[1]?=some (.ref T)/\T≠a/\∃oT ts fl,h.get? T=some oT/\oT.data=.fields ts/\ts[3]?=some fl
structure Fl(P:à)(w:þ)(l:List Env)(H:Hp)(s:Â)(H':Hp)(a:Ä)(cls:Á)(s':Â):Prop where
 os:s'.os=s.os
 bare:ų s'.gens
 un:Un (frs l) [] H H' s.heap s'.heap
 hok:HOk P w H' s'.heap
 na:s.heap.get? a=none
 ha:H' a=none
 ex:∃T,Jm s'.heap a cls T/\∀t,T=some t->s.heap.get? t=none/\H' t=none
noncomputable def CX1(P:à)(w:þ):CXT:=fun l H s E e s'=>∃a cls H',e=.ref a/\Fl P w l H s H' a cls s'/\E cls none H'
def XW(X:Cx)(E:XK):Prop:=∀(À:List<|Ä×Obj) (σ:St) (H:Hp) (s:Â) (H':Hp) (a:Ä) (cls:Á) (s':Â),
 Inv X À σ H s->Fl X.prog X.w X.stack H s H' a cls s'->E cls none H'->X.xe (.ref a) s'
theorem XW.passes{X:Cx}{E:XK}(h:XW X E):W2 (CX1 X.prog X.w) X E:=fun À σ H s e s' I ⟨a,cls,H',z,f,q⟩=>by subst z;exact h À σ H s H' a cls s' I f q
section
variable {M:bw}{A:ć}{E:Á->Â->Prop}{s:Â}{B:ô}{env:Env}{outer:List Env}{L a:Ä}{cls:Á}{T:Option Ä}{Q:Unit->Â->Prop}
noncomputable def Yd(h:ô)(l:List Env)(a:Ä)(T:Option Ä):ô:=PySem.W.hideAll h<|a::(T.toList++frs l)
theorem ZT(h:ô)(l:List Env)(a:Ä)(T:Option Ä):(Yd h l a T).StaysIn h:=fun b o e=>PySem.W.of_hideAll _ e
theorem YI{l:List Env}(a:Ä)(T:Option Ä)(hl:h.FunFrames B l):h.FunFrames (Yd h l a T) l :=
 PySem.W.funFrames_hide hl fun e he b hb=>á _<|Ò _<|Β.mpr ⟨e,he,hb⟩
theorem Mm(h:ô)(l:List Env)(a:Ä)(T:Option Ä):(Yd h l a T).get? a=none:=PySem.W.hideAll_none _ å
theorem Jg(h:ô)(l:List Env)(a t:Ä):(Yd h l a<|some t).get? t=none:=PySem.W.hideAll_none _ (á _<|Ľ _<|by simp)
theorem WP(bH:A.frames=some (env::outer))(hf:env.frame=some L)(hl:s.heap.FunFrames B<|env::outer)(hx:Jm s.heap a cls T)
  (fin:∀h' a0,Heap.NotedW (Yd s.heap (env::outer) a T) (env::outer) a cls a0 (bK L) s.heap h'->Q () {s with heap:=h'}):wpAny M A (Ū (.ref a) env) Q E s:=by
 obtain⟨oe,vs,a0,he,hc,hd,h0,ht⟩:=hx;have fin:=fun h'=>fin h' a0;cases T with
 |none =>subst hc;unfold Ū;simp only[hf];refine Ã<|Į he hd ht ?_;rw[if_neg<|by decide];exact wpAny_entryW bH (YI a none hl) hf he (ZT _ _ _ _) (Mm _ _ _ _) hd (ļ.mp ht).1 h0 fin
 |some t =>
  obtain⟨h1,Ψ,oT,ts,fl,e1,e2,e3⟩:=ht;by_cases c:fl=bK L
  .subst c;have tr:s.heap.TracedAtW (Yd s.heap (env::outer) a<|some t) a cls a0<|bK L:=⟨oe,vs,t,oT,ts,he,⟨hc,h0⟩,hd,h1,Jg _ _ _ _,Ψ,e1,e2,e3⟩
   exact wpAny_noteFrame_againW hf tr<|fin _ ⟨ZT _ _ _ _,YI a (some t) hl,tr,fun b o e nf=>⟨o.slots,e⟩⟩
  .subst hc;unfold Ū;simp only[hf];refine Ã<|Į he hd h1 ?_;rw[if_pos<|by simp];refine Ã<|Į e1 e2 e3 ?_;rw[if_neg<|by simpa using c];refine Ã<|ay e1 e2 (ļ.mp e3).1 ?_;have off:∀b,b≠t->(s.heap.update t (Γ (·.setIfInBounds 3 Value.none))).get? b=s.heap.get? b:=fun b hb=>ù _ _ hb.symm;have nr:∀b o,s.heap.get? b=some o->(∀vs,o.data≠.fields vs)->b≠t:=fun b o hb nf z=>by
    rw[z,e1]at hb;cases hb;exact nf ts e2
   have bn:=Jg s.heap (env::outer) a t;exact wpAny_entryW bH ((YI a (some t) hl).of_keeps fun b o hb nf=>⟨o,(off b<|nr b o hb nf).trans hb,rfl⟩) hf ((off a Ψ.symm).trans he) (fun b o hbo=>(off b fun z=>by rw[z,bn]at hbo;cases hbo).trans<|ZT _ _ _ _ b o hbo) (Mm _ _ _ _) hd (ļ.mp h1).1 h0 fun h' ⟨x1,x2,x3,x4⟩=>fin h' ⟨x1,x2,x3,fun b o hb nf=>x4 b o ((off b<|nr b o hb nf).trans hb) nf⟩
theorem Y0(bH:A.frames=some (env::outer))(hf:env.frame=some L)(hl:s.heap.FunFrames B<|env::outer)(hx:Jm s.heap a cls T)
  (h:∀h' a0,Δ (Yd s.heap (env::outer) a T) (env::outer) a cls a0 s.heap h'->Q () {s with heap:=h'}):wpAny M A (Ū (.ref a) env) (fun _ s2=>wpAny M A (setFlight (.ref a) none) Q E s2) E s :=
 WP bH hf hl hx fun h' a0 ⟨k1,k2,k3,k4⟩=>wpAny_setFlight_noneW k1 k2 k3 fun h2 j1 j2 j3 j4=>h h2 a0 ⟨j1,j2,j3,fun b o e nf=>by
   obtain⟨sl,e2⟩:=k4 b o e nf
   exact⟨sl,j4 b _ e2 nf⟩⟩
theorem Kr(bH:A.frames=some (env::outer))(hf:env.frame=some L)(hl:s.heap.FunFrames B<|env::outer)(hx:Jm s.heap a cls T)
  (h:∀h' a0,Δ (Yd s.heap (env::outer) a T) (env::outer) a cls a0 s.heap h'->Q () {s with heap:=h'}):wpAny M A (leaving env<|.ref a) Q E s:=Ã<|Y0 bH hf hl hx h
end
variable {l:List Env} {H':Hp} {s:Â} {s':Â} {cls:Á} {a0:Á} {h':ô} {B:ô} {T:Option Ä}
theorem Fl.noted{fl:Á}(f:Fl P w l H s H' a cls s')(hT:∀t,T=some t->s.heap.get? t=none/\H' t=none)
  (hl:s'.heap.FunFrames B l) (bH:∀b∈frs l,H' b=none) (z:Heap.NotedW (Yd s'.heap l a T) l a cls a0 fl s'.heap h'):Fl P w l H s H' a cls {s' with heap:=h'}:=by
 obtain⟨k1,k2,k3,k4⟩:=z;have inb:∀b o,s'.heap.get? b=some o->b≠a->(∀t,T=some t->b≠t)->b∉frs l->h'.get? b=some o:=fun b o e na nt nf=>k1 b o (PySem.W.hideAll_get _ e (by
   intro m
   rcases Î.mp m with m|m
   . exact na m
   . rcases ö.mp m with m|m
     . cases T with
       |none=>cases m
       |some t=>exact nt t rfl (by simpa using m)
     . exact nf m))
 have slot:∀b o,s'.heap.get? b=some o->b∈frs l->∃sl,h'.get? b=some {o with slots:=sl}:=fun b o e hb=>by obtain⟨_,o2,e2,nf⟩:=hl.mem hb;rw[e]at e2;cases e2;exact k4 b o e nf
 have Ρ:∀b o,s.heap.get? b=some o->b≠a/\∀t,T=some t->b≠t:=fun b o e=>⟨(fun z=>by rw[z,f.na]at e;cases e),(fun t ht z=>by rw[z,(hT t ht).1]at e;cases e)⟩
 refine⟨f.os,f.bare,⟨fun b o e n nf _=>?_,fun b o e n hb _=>?_,f.un.free,fun b o e _=>?_,f.un.tups,f.un.frzs,f.un.tbls⟩,?_,f.na,f.ha,?_⟩
 .exact inb b o (f.un.keep b o e n nf<|by simp) (Ρ b o e).1 (Ρ b o e).2 nf
 .obtain⟨sl,e1⟩:=f.un.slot b o e n hb (by simp);obtain⟨sl',e2⟩:=slot b _ e1 hb;exact⟨sl',e2⟩
 .obtain⟨o1,e1⟩:=f.un.there b o e (by simp);by_cases hb:b∈frs l
  .obtain⟨sl,e2⟩:=slot b _ e1 hb;exact⟨_,e2⟩
  .exact⟨o1,inb b o1 e1 (Ρ b o e).1 (Ρ b o e).2 hb⟩
 .intro b u e;have good:∀c v,H' c=some v->∀ob,s'.heap.get? c=some ob->h'.get? c=some ob:=fun c v ec ob eo =>
   inb c ob eo (fun z=>by rw[z,f.ha]at ec;cases ec) (fun t ht z=>by rw[z,(hT t ht).2]at ec;cases ec) fun m=>by rw[bH c m]at ec;cases ec
  refine(f.hok b u e).stay (fun c v hc q=>?_) (fun _ q=>q) fun _ _ q=>q;rcases hc with z|z
  .rw[z]at q ⊢;exact good b u e v q
  .exact good c _ z v q
 .obtain⟨oe,vs,t',oT,ts,e1,⟨e2,e3⟩,e4,e5,e6,e7,e8,e9,e10⟩:=k3;refine⟨some t',⟨oe,vs,a0,e1,e2,e4,e3,e5,e7,oT,ts,fl,e8,e9,e10⟩,fun t ht=>?_⟩;cases ht;have hid:∀o,s'.heap.get? t'=some o->T=some t':=fun o e=>by
   have al:¬ (t'∉(a::(T.toList++frs l))):=fun m=>by have q:(Yd s'.heap l a T).get? t'=some o:=PySem.W.hideAll_get _ e m;rw[e6]at q;cases q
   have m:=Classical.not_not.mp al;rcases Î.mp m with m|m
   .exact absurd m e7
   .rcases ö.mp m with m|m
    .cases T with
     |none=>cases m
     |some t=>rw[show t'=t by simpa using m]
    .obtain⟨_,o2,q,nf⟩:=k2.mem m;rw[e8]at q;cases q;exact absurd e9<|nf ts
  constructor
  .cases q:s.heap.get? t' with
   |none=>rfl
   |some o =>obtain⟨o1,q1⟩:=f.un.there t' o q (by simp);have:=(hT t'<|hid o1 q1).1;rw[q]at this;cases this
  .cases q:H' t' with
   |none=>rfl
   |some u =>obtain⟨o1,q1⟩:=(f.hok t' u q).obj;have:=(hT t'<|hid o1 q1).2;rw[q]at this;cases this
theorem Fl.left(f:Fl P w l H s H' a cls s')(hT:∀t,T=some t->s.heap.get? t=none/\H' t=none)
  (hl:s'.heap.FunFrames B l) (bH:∀b∈frs l,H' b=none) (z:Δ (Yd s'.heap l a T) l a cls a0 s'.heap h'):Fl P w l H s H' a cls {s' with heap:=h'}:=f.noted (fl:=.none) hT hl bH z
section
variable {P:à}{w:þ}{K:PySem.W.Frag}{mg:Str->Option Á}{base:ô}
variable {X:Cx} {H:Hp} {s:Â}
theorem Inv.raised{À:List (Ä×Obj)}{σ:St}{H':Hp}{s':Â}{a:Ä}{cls:Á}(I:Inv X À σ H s)(f:Fl X.prog X.w X.stack H s H' a cls s'):Inv X À σ H' s' :=
 I.call' (ch:=[]) f.os f.un f.hok f.bare (fun b z=>absurd z<|by simp)
theorem Yz(ok:X.Ok)(h:X.stack=X.env::X.outer):X.env.frame=some X.env.locals:=by
 rcases ok.stk with e|e
 .rw[h]at e;exact absurd (congrArg List.length e) (by simp)
 .exact e.2
variable {N:List Str} {qual:Str} {f:Ä}
theorem Dx{scope:ŕ}{cd:Á}{A:ć}{outer:List Env}{E:XK}:XW (Wj (CX1 P w) P w K mg base N qual scope f cd A outer s H E) E:=by
 intro À σ H2 s2 H' a cls s' I f q;have J:=I.raised f;obtain⟨T,hx,hT⟩:=f.ex;show wpAny _ _ (leaving _ _) _ _ _;refine Kr (outer:=outer) J.ok.frames (Yz J.ok rfl) J.stack hx fun h' a0 z=>?_;have f2:=f.left hT J.stack J.stkFree z;have J2:=I.raised f2;have Α:∀b,s2.heap.get? b=none->s.heap.get? b=none:=fun b e=>by
  cases z:s.heap.get? b with
  |none=>rfl
  |some o =>obtain⟨o',e'⟩:=I.base.there b o z (by intro m;cases m);rw[e]at e';cases e'
 obtain⟨T2,bt,hT2⟩:=f2.ex;exact⟨a,cls,H',rfl,⟨J2.os,J2.bare,J2.base,J2.hok,Α a f2.na,f2.ha,T2,bt,fun t ht=>⟨Α t (hT2 t ht).1,(hT2 t ht).2⟩⟩,q⟩
theorem Fun.ok1{x:Str}{st:Ě}{fd:ĭ}{ps:List Str}{k:Nat}{sp:Sp}(F:Fun K x qual st f fd)(S:FnScope N ps<|Zi st)(len:∀vs H Q E,sp vs H Q E->vs.length=ps.length)
  (Ϲ:∀(ŷ:Á) (A:ć) (outer:List Env) (s:Â) (H:Hp) (vs:List V) (Q:VK) (E:XK),Room k (A.deeper<|Θ qual (Zi st) s.heap.objs.size f ŷ)->sp vs H Q E->
    XW (Wj (CX1 P w) P w K mg base N qual (Zi st) f ŷ A outer s H E) E->
    ∃t,PSs (Wj (CX1 P w) P w K mg base N qual (Zi st) f ŷ A outer s H E) (Zy st) t/\t { nx:=fun _ H'=>Q .non H',rt:=Q } (start N vs) H):FnOk P w K mg base (CX1 P w) (k+1) f fd ps sp:=by
 obtain⟨oc,od,kV,doc,pm,an,ŷ,ct,osl,rfl,lk,aV⟩:=F.ex;exact B5 lk aV S len fun A outer s H vs Q E hr bF=>Ϲ ŷ A outer s H vs Q E hr bF Dx
def Gu(P:à)(w:þ)(K:PySem.W.Frag)(mg:Str->Option Á)(base:ô)(k:Nat)(x:Str)(ps:List Str)(sp:Sp):Prop :=
 ∃f fd,FnOk P w K mg base (CX1 P w) k f fd ps sp/\mg x=some (.ref f)/\PySem.W.keepIn K (.ref f)=true/\Binds K fd ps []
end
section
variable {X:Cx}{x:Str}{p ë np ŀ:Pos}{e:Expr}{es:List Expr}{t:TA}{E:XK}{C:Ä}{bm:List Á}
noncomputable def CB(C:Ä)(t:TA)(E:XK):TS:=fun _ σ H=>t σ H fun vs H1=>vs.length<=Ô/\E (.ref C) none H1
theorem Ul(hw:XW X E)(hc:X.calm=true)(O:OwnCls x C [.type "ValueError",.type "Exception",.type "BaseException",.type "object"] "ValueError.__new__" X.mg X.base)(hg:Gl X x)(ha:PA X (e::es) t)(Ο:(x==("__debug__" : Str))=false:=by decide)
  (he:Ð (e::es) X.env=(false,eval e X.env)::Ð es X.env:=by rfl) (hpl:(Ħ ŀ<|Ð es X.env).any (·.1)=false:=by rfl) :
  PS X (.Raise (some<|.Call (.Name x np) (e::es) [] ŀ) none ë) (CB C t E):=by
 intro À s σ H D I h;obtain⟨tl,N,nm,q,bs,hdct,sn,sub,ab,col,dd,k0,k1,k2,k3,k5,mN,hC,hN,hni,T⟩:=O.obj;refine wpAny_Raise_call_subU (C:=C) (nm:=nm) (q:=q) (N:=N) (bs:=bs) (bm:=tl) (hdct:=hdct) (sn:=sn) (sub:=sub) (ab:=ab) (col:=col) (dd:=dd) (k0:=k0) (k1:=k1) (k2:=k2) (k3:=k3) (k5:=k5) (mN:=mN)
  PySem.F.excBase_ValueError rfl PySem.F.excBase_ValueError (T.hasType PySem.F.excBase_ValueError.hasBase) (I.ok.hd hc) (by rw[he];show(false||(Ħ ŀ<|Ð es X.env).any (·.1))=false;rw[hpl];rfl) hni (Z7 I hg O.bound ⟨rfl,?_⟩ Ο)
 have hA:=ha ŀ À s σ H _ I h;rw[he]at hA ⊢;refine Calls.evalArgs_plain (thn hA fun us s2 ⟨vs,H2,I2,r2,q2⟩=>⟨rfl,by rw[<-r2.length];exact q2.1,I2.bk _ _ hC,hN.keeps I2.bk,T.keeps I2.bk,fun h' a hm=>?_⟩);obtain⟨tt,ht,_,_⟩:=hm.there;refine hw À σ H2 s2 H2 a (.ref C) {s2 with heap:=h'} I2 ⟨rfl,I2.bare,Un.kept hm.keeps,I2.hok.kept hm.keeps,hm.new,I2.hok.none_of hm.new,none,?_,fun _ z=>by cases z⟩ q2.2;exact⟨_,_,.ref tt,ht,rfl,rfl,rfl,rfl⟩
end
def XP(X:Cx)(À:List<|Ä×Obj)(σ:St)(E:XK)(v:Á)(s':Â):Prop :=
 ∃a cls H1 H' s1,v=.ref a/\Inv X À σ H1 s1/\Fl X.prog X.w X.stack H1 s1 H' a cls s'/\E cls none H'
def PCx(X:Cx)(e:Expr)(t:St->Hp->VK->XK->Prop):Prop :=
 ∀(À:List<|Ä×Obj) (s:Â) (σ:St) (H:Hp) (Q:VK) (E:XK),Inv X À σ H s->t σ H Q E->wpAny (Ö X.prog X.w) X.A (eval e X.env) (EP X À σ Q) (XP X À σ E) s
def PB(X:Cx)(body:List Ě)(t:Ends->XK->St->Hp->Prop):Prop :=
 ∀(À:List<|Ä×Obj) (s:Â) (σ:St) (H:Hp) (D:Ends) (E:XK),Inv X À σ H s->t D E σ H->wpAny (Ö X.prog X.w) X.A (execs body X.env) (SP X À D) (XP X À σ E) s
section
variable {X:Cx}{x:Str}{p ë:Pos}{e c:Expr}{es:List Expr}{t:TA}
def tC1(sp:Sp)(t:TA):St->Hp->VK->XK->Prop:=fun σ H Q E=>t σ H fun vs H1=>sp vs H1 Q E
theorem Az{k k':Nat}{ps:List Str}{sp:Sp}(D:Gu X.prog X.w X.K X.mg X.base k x ps sp)(hr:Room k' X.A)(hk:k<=k')(hg:Gl X x)(ha:PA X.nox (e::es) t)(Ο:(x==("__debug__" : Str))=false:=by decide)
  (he:Ð (e::es) X.env=(false,eval e X.env)::Ð es X.env:=by rfl) (hpl:(Ħ ë<|Ð es X.env).any (·.1)=false:=by rfl):PCx X (.Call (.Name x p) (e::es) [] ë)<|tC1 sp t:=by
 obtain⟨f,fd,F,hm,hkp,hb⟩:=D;intro À s σ H Q E I h;refine Ō<|Z7 I hg hm ?_ Ο;refine PySem.W.callWith_K (h₀:=X.base) I.ok.mod.kin hkp (Ĉ (ha ë À s σ H _ (I.wish _) h) (fun us s1 ⟨vs,H1,I1,r,q⟩=>⟨I1.unwish.kIn,?_⟩) fun _ _ z=>ĉ z) he hpl;have I2:=I1.unwish;have hl:(us++[]).length=ps.length:=by rw[Ņ,<-r.length];exact F.len _ _ _ _ q
 have hbd:=hb s1 us I2.kIn hl;rw[Ņ]at hbd;refine wpAny_call<|Ϙ (F.run X.A X.stack s1 H1 ⟨us,[]⟩ us vs Q E (hr.mono hk) I2.env0 hbd r q) fun r s' hq=>?_;cases r with
 |error e =>obtain⟨a,cls,H',z,f,q'⟩:=hq;exact⟨a,cls,H1,H',s1,z,I2,f,q'⟩
 |ok fl =>
  cases fl with
  |ret u=>exact I2.after hq
  |next=>exact ĉ hq
  |brk=>exact ĉ hq
  |cont=>exact ĉ hq
variable {tc:St->Hp->VK->XK->Prop}
theorem AZ(hc:PCx X c tc)(hs:Ŏ c none ë.line X.env=pure false:=by rfl):PB X [.Expr c ë] fun D E σ H=>tc σ H (fun _ H'=>D.nx σ H') E:=by intro À s σ H D E I h;refine ϥ<|wpAny_Expr_any (thn (hc À s σ H _ E I h) fun v s1 ⟨x,H1,I1,r1,q1⟩=>?_) I.quiet hs;exact ĺ ⟨σ,H1,I1,q1⟩
theorem Ek{i:Nat}{bh:Pos}(hN:X.N.Nodup)(hi:X.N[i]?=some x)(hx:Loc X.env.scope x)(hc:PCx X c tc)(hs:Ŏ c (some<|.Name x bh) ë.line X.env=pure false:=by rfl)
  (hf:X.fn x=true\/X.env.scope.names.lookup x=some .local:=by first|exact .inl rfl|exact .inr rfl|assumption):PB X [.Assign [.Name x bh] c ë] fun D E σ H=>tc σ H (fun v H'=>D.nx (σ.set i<|some v) H') E:=by
 intro À s σ H D E I h;refine ϥ<|wpAny_Assign_Name (thn (hc À s σ H _ E I h) fun v s1 ⟨y,H1,I1,r1,q1⟩=>?_) hs;exact XO I1 hN hi hx r1 (fun s2 I2=>ĺ ⟨_,H1,I2,q1⟩) hf
end
noncomputable def xcO(a:Ä)(cls:Á):HO:=.ext fun h=>∃o vs,h.get? a=some o/\o.cls=cls/\o.data=.fields vs
noncomputable abbrev Cx.caught(X:Cx)(a:Ä):Cx:={X with A:=X.A.mark<|some<|.ref a,calm:=false,xe:=fun _ _=>False}
section
variable {X:Cx}{À:List (Ä×Obj)}{σ:St}{H H':Hp}{s s':Â}{a:Ä}{cls:Á}
theorem Inv.caught(I:Inv X À σ H s)(a:Ä):Inv (X.caught a) À σ H s :=
 ⟨⟨I.ok.mod,I.ok.kind,I.ok.glob,I.ok.blt,I.ok.above,I.ok.inj,I.ok.has,I.ok.cab,fun z=>Bool.noConfusion z,I.ok.frames,I.ok.stk,I.ok.exf,I.ok.bs,I.ok.bsz,I.ok.noex,I.ok.exfs,I.ok.funs,I.ok.frf⟩,I.os,I.bare,I.base,I.loc,I.cell,I.free,I.freeC,I.pin,I.hok,I.len⟩
theorem Inv.uncaught(I:Inv (X.caught a) À σ H s)(ok:X.Ok):Inv X À σ H s:=⟨ok,I.os,I.bare,I.base,I.loc,I.cell,I.free,I.freeC,I.pin,I.hok,I.len⟩
variable {l:List Env}
theorem Fl.hold{P:à}{w:þ}(f:Fl P w l H s H' a cls s')(h0:HOk P w H s.heap):s'.os=s.os/\Un (frs l) [] H (upd H' a<|xcO a cls) s.heap s'.heap/\HOk P w (upd H' a<|xcO a cls) s'.heap:=by
 have na:∀b o,s.heap.get? b=some o->b≠a:=fun b o e z=>by rw[z,f.na]at e;cases e
 have nH:∀b o,H b=some o->b≠a:=fun b o e z=>by rw[z,h0.none_of f.na]at e;cases e
 have nH':∀b o,H' b=some o->b≠a:=fun b o e z=>by rw[z,f.ha]at e;cases e
 refine⟨f.os,⟨f.un.keep,f.un.slot,fun b o e n hx=>?_,f.un.there,fun b xs e=>?_,fun b o u e=>?_,fun b ps e=>?_⟩,fun b u e=>?_⟩
 .rw[upd_ne<|na b o e];exact f.un.free b o e n hx
 .rw[upd_ne<|nH b _ e];exact f.un.tups b xs e
 .rw[upd_ne<|nH b _ e];exact f.un.frzs b o u e
 .rw[upd_ne<|nH b _ e];exact f.un.tbls b ps e
 .by_cases hb:b=a
  .subst hb;rw[upd_same]at e;cases e;obtain⟨T,⟨oe,vs,a0,he,hc,hd,_⟩,_⟩:=f.ex;exact⟨⟨oe,vs,he,hc,hd⟩,⟨oe,he⟩,fun h1 h2 ⟨o,vs,e1,e2,e3⟩ k=>⟨o,vs,k o e1,e2,e3⟩⟩
  .rw[upd_ne hb]at e;exact(f.hok b u e).stay (fun _ _ _ q=>q) (fun c q=>by rw[upd_ne<|nH' c _ q];exact q) fun c xs q=>by rw[upd_ne<|nH' c _ q];exact q
variable {B:ô}
theorem MK{a0:Á}{h h':ô}(z:Δ B l a cls a0 h h'):∃t,Jm h' a cls (some t):=by obtain⟨_,_,⟨oe,vs,t,oT,ts,e1,⟨e2,e3⟩,e4,e5,e6,e7,e8,e9,e10⟩,_⟩:=z;exact⟨t,oe,vs,a0,e1,e2,e4,e3,e5,e7,oT,ts,.none,e8,e9,e10⟩
theorem Xg{M:bw}{A:ć}{E:Á->Â->Prop}{Q:Unit->Â->Prop}{t:Ä}(hl:s.heap.FunFrames B l)(hx:Jm s.heap a cls<|some t)
  (h:∀h' a0,Δ (Yd s.heap l a<|some t) l a cls a0 s.heap h'->Q () {s with heap:=h'}):wpAny M A (setFlight (.ref a) none) Q E s:=by
 obtain⟨oe,vs,a0,he,hc,hd,h0,h1,Ψ,oT,ts,fl,e1,e2,e3⟩:=hx;exact wpAny_setFlight_noneW (ZT _ _ _ _) (YI a (some t) hl) ⟨oe,vs,t,oT,ts,he,⟨hc,h0⟩,hd,h1,Jg _ _ _ _,Ψ,e1,e2,e3⟩ fun h2 j1 j2 j3 j4 =>
  h h2 a0 ⟨j1,j2,j3,fun b o e nf=>⟨o.slots,j4 b o e nf⟩⟩
end
section
variable {X:Cx}{À:List (Ä×Obj)}{σ:St}{H H':Hp}{s s':Â}{a:Ä}{cls:Á}
theorem Jf{h:ô}{T:Option Ä}{t:Ä}(x:Jm h a cls T)(y:Jm h a cls<|some t):T=some t:=by
 obtain⟨oe,vs,a0,he,hc,hd,h0,ht⟩:=x;obtain⟨oe',vs',a0',he',hc',hd',h0',h1',_⟩:=y;rw[he]at he';cases he';rw[hd]at hd';cases hd';cases T with
 |none=>rw[show vs[1]?=some Value.none from ht]at h1';cases h1'
 |some u =>rw[ht.1]at h1';cases h1';rfl
theorem Yp{M:bw}{A:ć}{E:Á->Â->Prop}{Q:Unit->Â->Prop}{i:Nat}{n:Str}{ë:Pos}(I:Inv X À σ H s)(hN:X.N.Nodup)(hi:X.N[i]?=some n)(hn:X.env.scope.names.lookup n=some .local)
  (h:∀s',Inv X À (σ.set i none) H s'->Q () s'):wpAny M A (do bindName X.env n .none;unbindBehindTheSuite X.env n ë) Q E s:=by
 obtain⟨m,hm,hl⟩:=id I.loc;have aI:(X.env.scope.kind == .class||(X.env.scope.kind == .module&&X.env.locals != X.env.globals))=false:=by rw[I.ok.kind];rfl
 refine wpAny_nameGoes_keeps hn hm aI fun h' v hn' sb=>h _ ?_;have neL:∀b o,X.s₀.heap.get? b=some o->b≠X.env.locals:=fun b o e=>î<|Þ (Õ e) I.ok.above;have same:∀b,b≠X.env.locals->h'.get? b=s.heap.get? b:=fun b hb=>sb.2 b hb;refine⟨I.ok,I.os,I.bare,⟨fun b o e n hb hx=>?_,fun b o e n hb hx=>?_,I.base.free,fun b o e hx=>?_,I.base.tups,I.base.frzs,I.base.tbls⟩,⟨_,hn',fun j x u e1 e2 e3=>?_⟩,fun x c e=>?_,I.free,I.freeC,fun p hp=>?_,fun b u e=>?_,by rw[ź];exact I.len⟩
 .exact(same b<|neL b o e).trans<|I.base.keep b o e n hb hx
 .obtain⟨sl,e1⟩:=I.base.slot b o e n hb hx;exact⟨sl,(same b<|neL b o e).trans e1⟩
 .obtain⟨o',e1⟩:=I.base.there b o e hx;exact⟨o',(same b<|neL b o e).trans e1⟩
 .have hji:j≠i:=by
   intro z;subst z;rw[ů ]at e2;cases q:σ[j]? with
   |none=>rw[q]at e2;cases e2
   |some _=>rw[q]at e2;cases e2
  rw[Ĝ<|Ne.symm hji]at e2;obtain⟨w,r,l⟩:=hl j x u e1 e2 e3;refine⟨w,r,?_⟩;have xn:x≠n:=fun z=>hji (X4 hN (by rw[<-z];exact e1) hi);rcases l with⟨l1,l2⟩|⟨k,c,e,o,ho,hd⟩
  .exact .inl ⟨l1,by show(if x=n then v else m x)=some w;rw[if_neg xn];exact l2⟩
  .exact .inr ⟨k,c,e,o,(same c<|I.cne x c e).trans ho,hd⟩
 .obtain⟨v,o,ho,hd⟩:=I.cell x c e;exact⟨v,o,(same c<|I.cne x c e).trans ho,hd⟩
 .obtain⟨e,n,ne,nf,d⟩:=I.pin p hp;exact⟨(same p.1 ne).trans e,n,ne,nf,d⟩
 .have nl:∀c v,H c=some v->c≠X.env.locals:=fun c v q z=>by rw[z,I.free]at q;cases q
  refine(I.hok b u e).stay (fun c v hc q=>?_) (fun _ q=>q) fun _ _ q=>q;rcases hc with z|z
  .rw[z]at q ⊢;exact(same b<|nl b u e).trans q
  .exact(same c<|nl c _ z).trans q
end
noncomputable def O9(i:Nat)(D:Ends):Ends:={nx:=fun σ H=>D.nx (σ.set i none) H,rt:=D.rt,bk:=fun σ H=>D.bk (σ.set i none) H,ct:=fun σ H=>D.ct (σ.set i none) H}
noncomputable def G7(K:PySem.W.Frag)(C:Á)(i:Nat)(tb:Ends->XK->St->Hp->Prop)(ts:TS):TS:=fun D σ H =>
 tb D (fun cls _ H'=>PySem.W.exmOne K cls C=some true/\∀a,H' a=none->ts (O9 i D) (σ.set i<|some<|.ref a) (upd H' a<|xcO a cls)) σ H
section
variable {X:Cx}{body ζ:List Ě}{b₀:Ě}{T n:Str}{tp aO ë:Pos}{C:Á}{i:Nat}{tb:Ends->XK->St->Hp->Prop}{ts:TS}
theorem DB(ņ:X.stack=X.env::X.outer)(hN:X.N.Nodup)(hi:X.N[i]?=some n)(hn:X.env.scope.names.lookup n=some .local)(hb:PB X body tb)(hg:Gl X T)(hm:X.mg T=some C)(hs:∀a,PSs (X.caught a) (b₀::ζ) ts)(Ο:(T==("__debug__" : Str))=false:=by decide) :
  PS X (.Try body [.ExceptHandler (some<|.Name T tp) (some n) (b₀::ζ) aO] [] [] ë) (G7 X.K C i tb ts):=by
 intro À s σ H D I h;refine wpAny_Try_except<|Ĉ (hb À s σ H D _ I h) (fun f s1 q=>?_) fun v s' hx=>?_
 .cases f with
  |next=>exact ĺ q
  |brk=>exact q
  |cont=>exact q
  |ret u=>exact q
 obtain⟨a,cls,H1,H',s1,rfl,I1,f,aI,hk⟩:=hx;have J:=I1.raised f;obtain⟨T0,hx,hT⟩:=f.ex;have aP:=Yz I.ok ņ;have bI:=J.stack;have jfr:=J.stkFree;have fr:=I.ok.frames;rw[ņ]at bI jfr fr;have Α:∀{s2:Â},Fl X.prog X.w (X.env::X.outer) H1 s1 H' a cls s2->Fl X.prog X.w X.stack H1 s1 H' a cls s2:=fun z=>by rw[ņ];exact z
 have f':Fl X.prog X.w (X.env::X.outer) H1 s1 H' a cls s':=by rw[<-ņ];exact f
 refine Y0 fr aP bI hx fun h' a0 z=>?_;have f2:=f'.left hT bI jfr z;obtain⟨T2,bt,hT2⟩:=f2.ex;obtain⟨t,hx2'⟩:=MK z;have et:=Jf bt hx2';subst et;have J2:=I1.raised<|Α f2;have aQ:=J2.stack;rw[ņ]at aQ;obtain⟨oe,vs,b0,he,hc,_⟩:=id bt;have LT:PySem.W.Looks (Ö X.prog X.w) h' (bP<|.ref a) cls:=by subst hc;exact(PySem.W.Looks.ld he).andThen .now
 refine wpAny_handleBy_cons (codeAny_handlers_test<|Z7 (X:=X.caught a) (J2.caught a) hg hm ((PySem.W.exm_one J2.kIn LT aI).here ?_) Ο) (by intro q;cases q);refine codeAny_handlers_suite_as<|Xg aQ bt fun h3 a1 z3=>?_;have f3:=f2.left hT2 aQ jfr z3;obtain⟨os3,un3,hok3⟩:=(Α f3).hold I1.hok;have J3:Inv X À σ (upd H' a<|xcO a cls) {s' with heap:=h3}:=I1.call' (ch:=[]) os3 un3 hok3 f3.bare (fun b z=>absurd z<|by simp);refine XO (X:=X.caught a) (J3.caught a) hN hi (.inl hn) (show RelV (.ref a) (.ref a) from rfl) (fun s4 I4=>?_)<|.inr hn;refine Ĉ (hs a À s4 _ _ (O9 i D) I4<|hk a f3.ha) (fun fl s5 q5=>?_) fun _ _ z=>ĉ z;cases fl with
 |next =>obtain⟨σ5,H5,I5,q⟩:=q5;exact Yp (I5.uncaught I.ok) hN hi hn fun s6 I6=>⟨_,H5,I6,q⟩
 |brk =>obtain⟨σ5,H5,I5,q⟩:=q5;exact Yp (I5.uncaught I.ok) hN hi hn fun s6 I6=>⟨_,H5,I6,q⟩
 |cont =>obtain⟨σ5,H5,I5,q⟩:=q5;exact Yp (I5.uncaught I.ok) hN hi hn fun s6 I6=>⟨_,H5,I6,q⟩
 |ret u =>obtain⟨v,σ5,H5,I5,r,q⟩:=q5;exact Yp (I5.uncaught I.ok) hN hi hn fun s6 I6=>⟨v,_,H5,I6,r,q⟩
end
end L2
namespace L2
open PySem PySem.Spec PySem.W PySem.Calls PyProof.Rows PySem.Builtin PySem.Builtin.ObjectAttr PySem.Builtin.Getset_descriptor
section
variable {prog:à}{w:þ}{A:ć}{E:Á->Â->Prop}{K:Ş}{h:ô}{g:Array GenState}{d:Drawn}{t:Nat}{os:OsState}{a C:Ä}{o:Obj}
structure XCls(K:Ş)(C:Ä):Prop where
 ga:Ι K (.ref C) "__getattribute__" = some (some<|.builtin "BaseException.__getattribute__")
 gr:Ι K (.ref C) "__getattr__" = some none
 cl:Ι K (.ref C) "__class__" = some (some<|.builtin "object.__class__")
 mo:mroIn K C (.type "object")=some true
 mb:mroIn K C (.type "BaseException")=some true
 ci:(clsIn K C).isSome=true
variable {R:Result->Â->Prop}
theorem D9(X:K.In h)(hx:h.get? a=some o)(hc:o.cls=.ref C)(Z:XCls K C)(hq:R (.ok<|.ret<|.ref C) ⟨h,g,d,t,os⟩) :
  codeAny (Ö prog w) A (.call (.builtin "getset_descriptor.__get__") ⟨[.builtin "object.__class__",.ref a,.ref C],[]⟩) R ⟨h,g,d,t,os⟩:=by
 have L0:Looks (Ö prog w) h (bP<|.ref a)<|.ref C:=hc▸(Looks.ld hx).andThen .now;have L1:=looks_mroIn (M:=Ö prog w) X Z.mo;refine codeAny_call_builtin KF.slot_gs.plain KF.entry_gs<|KF.slot_gs.check _ _ _ _ _ _ _ _ KF.type_class (KF.args_gs _ _ _) ?_;unfold Builtin.«getset_descriptor.__get__» descrGet;rw[dga_obj];refine Ã<|Ñ ?_;unfold descrGetter descrCheckInstance descrNameAndClass isInstance;simp only[KF.owner_class]
 repeat lk
 refine⟨Code.quiet_builtin _ (by decide +kernel),π KF.entry_class ?_⟩;unfold Builtin.«object.__class__» shownTypeOf
 repeat lk
 exact hq
variable {tk:Tok}
theorem Oc{Q:Fin->Â->Prop}(X:K.In h)(hx:h.get? a=some o)(hc:o.cls=.ref C)(Z:XCls K C)(hq:Q (.done<|.ret<|.ref C) ⟨h,g,d,t,os⟩) :
  wpAny (Ö prog w) A (Builtin.«object.__getattribute__» ⟨[.ref a,.str "__class__" tk],[]⟩) Q E ⟨h,g,d,t,os⟩:=by
 have L0:Looks (Ö prog w) h (bP<|.ref a)<|.ref C:=hc▸(Looks.ld hx).andThen .now;have L1:=bS (M:=Ö prog w) X Z.cl;have hT5:(⟨h,g,d,t,os⟩:Â).TypeIs (.builtin "object.__class__") "getset_descriptor":=F.typeOf_object_class;have f5:=F.typeOf_object_class;have f6:=F.slot_gs_get.lookup;have f7:=F.slot_gs_set.lookup
 repeat (any_goals (first|assumption|(with_reducible refine Looks.at L0 ?_)|(with_reducible refine Looks.at L1 ?_)|(with_reducible refine ϛ hx ?_;rw[hc])|wp_step))
 refine D9 X hx hc Z ?_
 repeat (any_goals (first|assumption|wp_step))
theorem Uo{nameV:Á}{M:bw}{Q:Unit->Â->Prop}(X:K.In h)(hx:h.get? a=some o)(hc:o.cls=.ref C)(Z:XCls K C)(hq:Q () ⟨h,g,d,t,os⟩) :
  wpAny M A (checkBuiltinCall "BaseException.__getattribute__" ⟨[.ref a,nameV],[]⟩) Q E ⟨h,g,d,t,os⟩:=by
 have hk:builtinKind "BaseException.__getattribute__" = some .slot:=by decide +kernel
 have hsplit:splitId "BaseException.__getattribute__" = some ("BaseException","__getattribute__"):=by decide +kernel
 have L1:=looks_mroIn (M:=M) X Z.mb;have ha:=F.args_bexc_ga (.ref a) nameV;simp only[checkBuiltinCall,hk,hsplit];refine Ã ?_;unfold isInstance
 repeat (first|(with_reducible refine ϛ hx ?_;rw[hc])|(with_reducible refine Looks.at L1 ?_)|wp_step)
 exact hq
theorem An(X:K.In h)(hx:h.get? a=some o)(hc:o.cls=.ref C)(Z:XCls K C)(hq:R (.ok<|.ret<|.ref C) ⟨h,g,d,t,os⟩) :
  codeAny (Ö prog w) A (.call (.builtin "BaseException.__getattribute__") ⟨[.ref a,.str "__class__" tk],[]⟩) R ⟨h,g,d,t,os⟩ :=
 codeAny_call_builtin PySem.F.excAttr_ValueError.ga.plain F.entry_bexc_ga (Uo X hx hc Z<|Oc X hx hc Z hq)
end
section
variable {prog:à}{w:þ}{A:ć}{E:Á->Â->Prop}{K:Ş}{h:ô}{g:Array GenState}{d:Drawn}{t:Nat}{os:OsState}{a C:Ä}{o:Obj}
theorem EM{tk:Tok}{fill:Bool}{Q:Á->Â->Prop}(X:K.In h)(hx:h.get? a=some o)(hc:o.cls=.ref C)(Z:XCls K C)(hq:Q (.ref C) ⟨h,g,d,t,os⟩) :
  wpAny (Ö prog w) A (getAttrBy (.ref a) (.str "__class__" tk) fill) Q E ⟨h,g,d,t,os⟩:=by
 have f3:=PySem.F.excAttr_ValueError.ga.bind<|.ref a;have L1:=bS (M:=Ö prog w) X Z.ga;have L2:=bS (M:=Ö prog w) X Z.gr;have bt:(ρ "BaseException.__getattribute__" == ρ "object.__getattribute__")=false:=by decide +kernel
 have hx1:(onTheHeap (Value.ref C)&&ρ "BaseException.__getattribute__" == ρ "object.__getattribute__")=false:=by rw[bt];rfl
 repeat (any_goals (first|assumption|(with_reducible refine ϛ hx ?_;rw[hc])|(with_reducible refine Looks.at L1 ?_)|(with_reducible refine Looks.at L2 ?_)|wp_step))
 refine An X hx hc Z ?_
 repeat (any_goals (first|assumption|wp_step))
theorem Bh{Q:Option Á->Â->Prop}(X:K.In h)(hx:h.get? a=some o)(hc:o.cls=.ref C)(Z:XCls K C)(hq:Q (some<|.ref C) ⟨h,g,d,t+1,os⟩) :
  wpAny (Ö prog w) A (getAttr? (.ref a) "__class__") Q E ⟨h,g,d,t,os⟩:=by
 unfold getAttr? getAttrBy?
 repeat (any_goals (first|assumption|with_reducible apply EM X hx hc Z|wp_step))
theorem X3(Z:XCls K C):KitX K (.ref a) (.ref C) (fun h=>∃o vs,h.get? a=some o/\o.cls=.ref C/\o.data=.fields vs) where
 ty:=fun _ _ _ ⟨o,vs,e,c,_⟩=>c▸(Looks.ld e).andThen .now
 it:=fun _ _ X _=>by
  have hcD:=Z.ci;unfold clsIn at hcD;split at hcD
  .rename_i c' d' cd' sl' ho;intro A' Q' E' s' k q;unfold isType loadHead;exact Ã<|wpAny_loadPart (k _ _<|X _ _ ho)<|Ñ q
  .cases hcD
 ne:=fun h tp dd ò n sl X htp=>by
  have hcD:=Z.ci;refine ũ.mpr fun q=>?_;have e:C=tp:=Value.ref.inj<|beq_iff_eq.mp q;subst e;unfold clsIn at hcD;split at hcD
  .rename_i c' d' cd' sl' ho;have z:=(X _ _ ho).symm.trans htp;cases z
  .cases hcD
 ca:=fun{_ _ _ _ _ s} X ⟨o,vs,e,c,_⟩ k=>by obtain⟨h,g,d,t,os⟩:=s;exact Bh X e c Z k
end
end L2
namespace L2
open PySem PySem.Spec PyProof.Rows
section
variable {X:Cx}
theorem Kp{À:List (Ä×Obj)}{σ:St}{H:Hp}{s:Â}{a:Ä}{cls:Á}(I:Inv X À σ H s)(e:H a=some (xcO a cls)):∃o vs,s.heap.get? a=some o/\o.cls=cls/\o.data=.fields vs :=
 (show ObjOk X.prog X.w H s.heap a (xcO a cls) from I.hok a _ e).1
theorem Nj:CallR X (.builtin "isinstance") fun xs H Q=>∃a C D b,xs=[.ref a,.ref D]/\H a=some (xcO a<|.ref C)/\XCls X.K C/\PySem.W.kitOne X.K (.ref C) (.ref D)=some b/\Q (.bl b) H:=by intro À s σ H xs us Q I r h;obtain⟨a,C,D,b,rfl,ha,Z,e,q⟩:=h;obtain⟨u,v,rfl,ru,rv⟩:=WM r;cases ru;cases rv;exact PySem.W.kia_one (X3 Z) I.kIn (Kp I ha) e (fun z=>nomatch z) fun tk=>⟨.bl b,H,I.tok tk,rfl,q⟩
theorem Kc:CallR X (.builtin "isinstance") fun xs H Q=>∃a C T b,xs=[.ref a,.ty T]/\H a=some (xcO a<|.ref C)/\XCls X.K C/\PySem.W.kitOne X.K (.ref C) (.type T)=some b/\Q (.bl b) H:=by intro À s σ H xs us Q I r h;obtain⟨a,C,T,b,rfl,ha,Z,e,q⟩:=h;obtain⟨u,v,rfl,ru,rv⟩:=WM r;cases ru;cases rv;exact PySem.W.kia_one (X3 Z) I.kIn (Kp I ha) e (fun z=>nomatch z) fun tk=>⟨.bl b,H,I.tok tk,rfl,q⟩
theorem ML:∀{Cs:List Ä}{us:List Á},Vals (Cs.map V.ref) us->us=Cs.map Value.ref
 |[],_,.nil=>rfl
 |C::Cs,_,.cons r rs=>by rw[Ó,<-ML rs];exact congrArg (· :: _) r
theorem KD:CallR X (.builtin "isinstance") fun xs H Q=>∃a C p,∃Cs:List Ä,∃b,xs=[.ref a,.ref p]/\H a=some (xcO a<|.ref C)/\XCls X.K C/\H p=some (.tup<|Cs.map V.ref)/\PySem.W.kitAny X.K (.ref C) (Cs.map Value.ref)=some b/\Q (.bl b) H:=by intro À s σ H xs us Q I r h;obtain⟨a,C,p,Cs,b,rfl,ha,Z,hp,e,q⟩:=h;obtain⟨u,v,rfl,ru,rv⟩:=WM r;cases ru;cases rv;obtain⟨ò,r',⟨⟨oc,od,dt,sl⟩,e1,c1,n,d1⟩,hz⟩:=I.tuple<|SqT.of hp;simp only at c1 d1;subst c1 d1;have:=ML r';subst this;exact PySem.W.kia_tup (X3 Z) I.kIn (Kp I ha) e1 e (fun z=>nomatch z) fun tk=>⟨.bl b,H,I.tok tk,rfl,q⟩
theorem We:CallR X (.type "int") fun xs H Q=>∃z n,xs=[.str z]/\PySem.intText? z=some n/\z.length<=640/\Q (.int n) H:=by intro À s σ H xs us Q I r h;obtain⟨z,n,rfl,e,hl,q⟩:=h;obtain⟨u,rfl,t,rfl⟩:=Ye r;exact PySem.W.KIN.call_text e hl ⟨.int n,H,I.tok _,⟨_,rfl⟩,q⟩
end
noncomputable def FB(K:PySem.W.Frag)(C:Á)(tb:Ends->XK->St->Hp->Prop)(ts:TS):TS:=fun D σ H =>
 tb D (fun cls _ H'=>PySem.W.exmOne K cls C=some true/\∀a,H' a=none->ts D σ (upd H' a<|xcO a cls)) σ H
section
variable {X:Cx}{body ζ:List Ě}{b₀:Ě}{T:Str}{tp aO ë:Pos}{C:Á}{tb:Ends->XK->St->Hp->Prop}{ts:TS}
theorem AF(ņ:X.stack=X.env::X.outer)(hb:PB X body tb)(hg:Gl X T)(hm:X.mg T=some C)(hs:∀a,PSs (X.caught a) (b₀::ζ) ts)(Ο:(T==("__debug__" : Str))=false:=by decide) :
  PS X (.Try body [.ExceptHandler (some<|.Name T tp) none (b₀::ζ) aO] [] [] ë) (FB X.K C tb ts):=by
 intro À s σ H D I h;refine wpAny_Try_except<|Ĉ (hb À s σ H D _ I h) (fun f s1 q=>?_) fun v s' hx=>?_
 .cases f with
  |next=>exact ĺ q
  |brk=>exact q
  |cont=>exact q
  |ret u=>exact q
 obtain⟨a,cls,H1,H',s1,rfl,I1,f,aI,hk⟩:=hx;have J:=I1.raised f;obtain⟨T0,hx,hT⟩:=f.ex;have aP:=Yz I.ok ņ;have bI:=J.stack;have jfr:=J.stkFree;have fr:=I.ok.frames;rw[ņ]at bI jfr fr;have Α:∀{s2:Â},Fl X.prog X.w (X.env::X.outer) H1 s1 H' a cls s2->Fl X.prog X.w X.stack H1 s1 H' a cls s2:=fun z=>by rw[ņ];exact z
 have f':Fl X.prog X.w (X.env::X.outer) H1 s1 H' a cls s':=by rw[<-ņ];exact f
 refine Y0 fr aP bI hx fun h' a0 z=>?_;have f2:=f'.left hT bI jfr z;obtain⟨T2,bt,hT2⟩:=f2.ex;obtain⟨t,hx2'⟩:=MK z;have et:=Jf bt hx2';subst et;have J2:=I1.raised<|Α f2;have aQ:=J2.stack;rw[ņ]at aQ;obtain⟨oe,vs,b0,he,hc,_⟩:=id bt;have LT:PySem.W.Looks (Ö X.prog X.w) h' (bP<|.ref a) cls:=by subst hc;exact(PySem.W.Looks.ld he).andThen .now
 refine wpAny_handleBy_cons (codeAny_handlers_test<|Z7 (X:=X.caught a) (J2.caught a) hg hm ((PySem.W.exm_one J2.kIn LT aI).here ?_) Ο) (by intro q;cases q);refine codeAny_handlers_suite<|Xg aQ bt fun h3 a1 z3=>?_;have f3:=f2.left hT2 aQ jfr z3;obtain⟨os3,un3,hok3⟩:=(Α f3).hold I1.hok;have J3:Inv X À σ (upd H' a<|xcO a cls) {s' with heap:=h3}:=I1.call' (ch:=[]) os3 un3 hok3 f3.bare (fun b z=>absurd z<|by simp);refine Ĉ (hs a À _ _ _ D (J3.caught a)<|hk a f3.ha) (fun fl s5 q5=>?_) fun _ _ z=>ĉ z;cases fl with
 |next =>obtain⟨σ5,H5,I5,q⟩:=q5;exact⟨_,H5,I5.uncaught I.ok,q⟩
 |brk =>obtain⟨σ5,H5,I5,q⟩:=q5;exact⟨_,H5,I5.uncaught I.ok,q⟩
 |cont =>obtain⟨σ5,H5,I5,q⟩:=q5;exact⟨_,H5,I5.uncaught I.ok,q⟩
 |ret u =>obtain⟨v,σ5,H5,I5,r,q⟩:=q5;exact⟨v,_,H5,I5.uncaught I.ok,r,q⟩
end
theorem UZ{e:Á}{env env':Env}(h:env.frame=env'.frame):Ū e env=Ū e env':=by unfold Ū PySem.frameOf;rw[h]
variable {fp:List Ä} {H':Hp} {h2:ô} {h1:ô} {h':ô}
theorem Un.blk{fs:List Ä}{D:Ä}{H2 H1:Hp}{h3:ô}(u:Un fs (D::fp) H2 H1 h3 h1)(f:Un fs [] H1 H' h1 h')(Ρ:∀b o,h2.get? b=some o->h3.get? b=some o)(hD:h2.get? D=none):Un fs fp H2 H' h2 h':=by
 have al:∀b o,h2.get? b=some o->b∉fp->b∉D::fp:=fun b o e hb z=>by
  rcases Î.mp z with z|z
  .rw[z,hD]at e;cases e
  .exact hb z
 refine⟨fun b o e n nf nx=>?_,fun b o e n nf nx=>?_,fun b o e n nx=>?_,fun b o e nx=>?_,fun b xs e=>f.tups b xs<|u.tups b xs e,fun b o v e=>f.frzs b o v<|u.frzs b o v e,fun b ps e=>?_⟩
 .exact f.keep b o (u.keep b o (Ρ b o e) n nf<|al b o e nx) (u.free b o (Ρ b o e) n<|al b o e nx) nf (by simp)
 .obtain⟨sl,e1⟩:=u.slot b o (Ρ b o e) n nf<|al b o e nx;obtain⟨aX,e2⟩:=f.slot b _ e1 (u.free b o (Ρ b o e) n<|al b o e nx) nf (by simp);exact⟨aX,e2⟩
 .obtain⟨o1,e1⟩:=u.there b o (Ρ b o e)<|al b o e nx;exact f.free b o1 e1 (u.free b o (Ρ b o e) n<|al b o e nx) (by simp)
 .obtain⟨o1,e1⟩:=u.there b o (Ρ b o e)<|al b o e nx;exact f.there b o1 e1 (by simp)
 .obtain⟨m1,e1⟩:=u.tbls b ps e;obtain⟨m2,e2⟩:=f.tbls b _ e1;exact⟨m1++m2,by rw[e2,ς]⟩
variable {ex:List Ä} {H:Hp} {h:ô}
theorem Un.at{fs:List Ä}(u:Un fs ex H H' h h1)(k:∀b o,h.get? b=some o->b∉ex->h2.get? b=h1.get? b):Un fs ex H H' h h2 :=
 ⟨fun b o e n nf nx=>(k b o e nx).trans<|u.keep b o e n nf nx,fun b o e n nf nx=>by rw[k b o e nx];exact u.slot b o e n nf nx,u.free,fun b o e nx=>by rw[k b o e nx];exact u.there b o e nx,u.tups,u.frzs,u.tbls⟩
theorem HOk.off{P:à}{w:þ}(x:HOk P w H h)(k:∀c v,H c≠none->h.get? c=some v->h'.get? c=some v):HOk P w H h':=fun b u e=>by
 refine(x b u e).stay (fun c v hc q=>k c v ?_ q) (fun _ q=>q) fun _ _ q=>q;rcases hc with z|z
 .rw[z,e];simp
 .rw[z];simp
def Mp(X:Cx)(E:XK)(H2:Hp)(C:Ä)(s:Â)(ex:List Ä):Á->Â->Prop:=fun v s'=>∃a cls H1 s1 H',v=.ref a/\s1.os=s.os/\Un (frs X.stack) ex H2 H1 s.heap s1.heap/\(∃m,s1.heap.Ns C m)/\H1 C=none/\Fl X.prog X.w X.stack H1 s1 H' a cls s'/\E cls none H'
variable {scope:ŕ} {cl:List (Str×Ä)}
theorem Jz{X:Cx}{N':List Str}{C:Ä}{s:Â}{E:XK}:XW (Ze X scope N' cl C s H ex<|Mp X E H C s ex) E:=fun À τ H1 s1 H' a cls s' I f q =>
 ⟨a,cls,H1,s1,H',rfl,I.os,I.base,let ⟨m,hm,_⟩:=I.loc;⟨m,hm⟩,I.free,f,q⟩
def Top(X:Cx):Prop:=∃env' out,X.stack=env'::out/\env'.frame=X.env.frame
noncomputable def Uv(X:Cx)(wi:TI)(k:Nat)(ç:List Nat)(tg:TG)(tc:XK->TT)(te:XK->TE):TE:=fun σ H Q=>wi σ H fun J H1=>∃E,XW X E/\∃W:Nat->Nat->List V->St->Hp->Prop,(∃m,W 0 m [] (Ë k none++K1 σ ç) H1)/\
 BC J tg (tc E) (te E) (fun ys H=>∀p,H p=none->Q (.ref p) (upd H p<|.lst ys)) W
section
variable {X:Cx}{À:List (Ä×Obj)}{σ:St}{H2:Hp}{s2:Â}
theorem Mo{E:XK}{s3 s':Â}{v ĵ:Á}{use:Option (Á->Sem Unit)}{Q:Á->Â->Prop}(I2:Inv X À σ H2 s2)(f2:∀b∈fp,Y4 X À H2 b)(top:Top X)(xw:XW X E)
  (o3:s3.os=s2.os) (z3:s3.heap.objs.size=s2.heap.objs.size+1) (δ:∀b o,s2.heap.get? b=some o->s3.heap.get? b=some o) (h:Mp X E H2 s3.heap.objs.size s3 (s2.heap.objs.size::fp) v s') :
  notedBy (Ö X.prog X.w) X.A (Ϛ scope cl s3.heap.objs.size X.env) (fun v s'=>compPost (Ö X.prog X.w) X.A X.xe use Q ĵ s3.heap.objs.size (.error v) s') v s':=by
 obtain⟨a,cls,H1,s1,H',rfl,o1,u1,⟨m,hm⟩,fC,f,q⟩:=h;obtain⟨env',out,ņ,hfe⟩:=top;have szn:∀b o,s2.heap.get? b=some o->b<s2.heap.objs.size:=fun b o e=>Õ e;have hD:s2.heap.get? s2.heap.objs.size=none:=by
  cases z:s2.heap.get? s2.heap.objs.size with
  |none=>rfl
  |some o=>exact absurd (szn _ o z)<|ĩ _
 have ch:∀b∈fp,(b∈X.ex\/X.s₀.heap.objs.size<=b)/\b≠X.env.locals/\(∀x c,X.env.cells.lookup x=some c->c≠b)/\∀p∈X.pn++À,p.1≠b:=fun b hb=>by obtain⟨_,q2,_,q4,q5,q6⟩:=f2 b hb;exact⟨q4,q2,q5,q6⟩
 have I':Inv X À σ H' s':=I2.call' (ch:=fp) (f.os.trans<|o1.trans o3) (u1.blk f.un δ hD) f.hok f.bare ch;have cfr:s3.heap.objs.size∉frs X.stack:=fun z=>by
  rcases Î.mp (I2.stkSub _ z)with z|z
  .have lt:=I2.lt;rw[<-z,z3]at lt;exact absurd lt<|Nat.not_lt_of_le<|ν _
  .exact I2.nofs (a:=s3.heap.objs.size) (by rw[z3];omega) z
 have bH:X.A.frames=some (env'::out):=by rw[<-ņ];exact I2.ok.frames
 have bI:=I'.stack;have jfr:=I'.stkFree;obtain⟨T,hx,hT⟩:=f.ex;have hf:∃L,env'.frame=some L:=by rw[ņ]at bI;obtain⟨_,⟨L,_,hL,_⟩,_⟩:=bI;exact⟨L,hL⟩
 obtain⟨L,hf⟩:=hf;unfold notedBy;rw[UZ (env:=Ϛ scope cl s3.heap.objs.size X.env) (env':=env') hfe.symm];refine WP bH hf (ņ▸bI) hx fun h'' a0 z=>?_;have g:=f.noted hT bI jfr (by rw[ņ];exact z);obtain⟨_,_,⟨oe,vs,t,oT,ts,e1,⟨e2,e3⟩,e4,e5,_,e7,e8,e9,e10⟩,_⟩:=z;have gx:Jm h'' a cls<|some t:=⟨oe,vs,a0,e1,e2,e4,e3,e5,e7,oT,ts,_,e8,e9,e10⟩
 obtain⟨T2,bt,hT2⟩:=g.ex;have eT:=Jf bt gx;obtain⟨t1,tH⟩:=hT2 t eT;obtain⟨oC,eC⟩:∃o,s1.heap.get? s3.heap.objs.size=some o:=let ⟨_,_,_,ho,_⟩:=hm;⟨_,ho⟩;have CH:H' s3.heap.objs.size=none:=g.un.free _ oC eC fC (by simp);have nCa:a≠s3.heap.objs.size:=fun z=>by have:=g.na;rw[z,eC]at this;cases this
 have nCt:t≠s3.heap.objs.size:=fun z=>by rw[z,eC]at t1;cases t1
 refine⟨m,hm.at fun o e=>g.un.keep _ o e fC cfr (by simp),fun h3 hs cenv _=>?_⟩;have a3:h3.get? a=some oe:=(hs.2 a nCa).trans e1;have t3:h3.get? t=some oT:=(hs.2 t nCt).trans e8;have lt3:=(ļ.mp e10).1;unfold PySem.passOn;refine Ã<|Į a3 e4 e5 ?_;rw[if_neg<|by simp];refine Ã ?_;unfold setFlight;refine Ã<|Į a3 e4 e5 ?_;rw[if_pos<|by simp];refine ay t3 e9 lt3<|wpAny_throw ?_;generalize (cenv.frame.elim Value.none fun f=>bK f)=fl;have d4:=Κ e9 (·.setIfInBounds 3 fl);have t4:=Œ (Γ (·.setIfInBounds 3 fl)) t3<|aS d4;have off4:∀b,b≠t->(h3.update t (Γ (·.setIfInBounds 3 fl))).get? b=h3.get? b:=fun b hb=>ù _ _ hb.symm;generalize h3.update t (Γ (·.setIfInBounds 3 fl))=h4 at t4 off4 ⊢;have at4:∀b,b≠t->b≠s3.heap.objs.size->h4.get? b=h''.get? b:=fun b n1 n2=>(off4 b n1).trans<|hs.2 b n2;have hok4:HOk X.prog X.w H' h4:=g.hok.off fun c v hc e=>(at4 c (fun z=>hc<|z▸tH) fun z=>hc<|z▸CH).trans e;have hide:∀b o,h4.get? b=some o->b≠a->b≠t->(PySem.W.hideAll h4 [a,t]).get? b=some o:=fun b o e n1 n2=>PySem.W.hideAll_get _ e (by simp[n1,n2]);have hokS:HOk X.prog X.w H'<|PySem.W.hideAll h4 [a,t]:=hok4.off fun c v hc e=>hide c v e (fun z=>hc<|z▸g.ha) fun z=>hc<|z▸tH;have U:=u1.blk g.un δ hD;have US:Un (frs X.stack) fp H2 H' s2.heap<|PySem.W.hideAll h4 [a,t]:=U.at fun b o e nx=>by
  obtain⟨o',eo⟩:=U.there b o e nx;have al:b∉s2.heap.objs.size::fp:=fun z=>by
   rcases Î.mp z with z|z
   .rw[z,hD]at e;cases e
   .exact nx z
  obtain⟨o1',eo1⟩:=u1.there b o (δ b o e) al;have na:b≠a:=fun z=>by have:=g.na;rw[<-z,eo1]at this;cases this
  have nt:b≠t:=fun z=>by rw[<-z,eo1]at t1;cases t1
  have nC:b≠s3.heap.objs.size:=fun z=>by have:=szn b o e;rw[z,z3]at this;exact absurd this<|Nat.not_lt_of_le<|ν _
  have:=(at4 b nt nC).trans eo;exact(hide b o' this na nt).trans eo.symm
 have IS:Inv X À σ H' {s' with heap:=PySem.W.hideAll h4 [a,t]}:=I2.call' (ch:=fp) (f.os.trans<|o1.trans o3) US hokS f.bare ch;refine xw À σ H' _ H' a cls _ IS ⟨rfl,f.bare,⟨fun b o e _ _ _=>PySem.W.of_hideAll _ e,fun b o e _ _ _=>⟨o.slots,PySem.W.of_hideAll _ e⟩,fun _ _ _ n _=>n,fun b o e _=>⟨o,PySem.W.of_hideAll _ e⟩,fun _ _ e=>e,fun _ _ _ e=>e,fun b ps e=>⟨#[],by rw[e];simp⟩⟩,hok4,PySem.W.hideAll_none _ (by simp),g.ha,some t,⟨oe,vs,a0,(off4 a e7.symm).trans a3,e2,e4,e3,e5,e7,_,_,fl,t4,d4,by simp[lt3]⟩,fun t' e=>by cases e;exact⟨PySem.W.hideAll_none _ (by simp),tH⟩⟩ q
variable {x:List Str} {Ϣ:Expr} {tg:TG} {ç:List Nat} {Ϭ:Expr} {Ŗ:Expr} {ϝ:List Expr} {ë:Pos} {wi:TI} {tc:XK->TT} {te:XK->TE}
theorem OX(top:Top X)(hc:X.calm=true)(B:BlkOk X scope x ç)(hi:PI X Ϣ Ŗ wi)(hG:∀cl C s H ex xe,PG (Ze X scope (ZC X x ç) cl C s H ex xe) Ϣ tg)
  (hI:∀cl C s H ex xe E,XW (Ze X scope (ZC X x ç) cl C s H ex xe) E->PIfs (Ze X scope (ZC X x ç) cl C s H ex xe) ϝ (tc E)) (hE:∀cl C s H ex xe E,XW (Ze X scope (ZC X x ç) cl C s H ex xe) E->PE (Ze X scope (ZC X x ç) cl C s H ex xe) Ϭ (te E))
  (hs:∀x,ī Ŗ X.env x=pure x:=by intro _;rfl):PE X (.ListComp Ϭ [⟨Ϣ,Ŗ,ϝ,0⟩] scope ë)<|Uv X wi x.length ç tg tc te:=by
 intro À s σ H Q I h;obtain⟨cl,hcl,c1,c2⟩:=Yv (scope:=scope) (env:=X.env) fun y hy e=>I.ok.has y.1<|.inl<|B.frees y hy e;rw[eval_ListComp];refine bf (use:=none) rfl hs hcl B.kind B.locs<|thn (hi À s σ H _ I h) fun v s1 h1=>thn h1 fun itv s2 h2=>?_;obtain⟨it,fp,tn,J,H2,e,I2,T,st2,f2,E,xw,W,⟨m0,w0⟩,cw⟩:=h2;subst e;refine WS (RR:=fun ĵ C=>compPost (Ö X.prog X.w) X.A X.xe none (EP X À σ Q) ĵ C) (xe:=fun C s ex=>Mp X E H2 C s ex) hc B I2 T st2 f2 c1 c2 (fun cl C s ex=>hI cl C s H2 ex _ E Jz) (fun cl C s ex=>hE cl C s H2 ex _ E Jz) hG w0 cw ?_ fun s3 o3 z3 δ v s' h=>Mo I2 f2 top xw o3 z3 δ h;intro D C s' H' ys m hD hn fC I' fin;obtain⟨q1,q2,q3,q4,q5,q6⟩:=fC;exact⟨m,hn,fun h' hs'=>⟨.ref D,_,I'.turned (t':=s'.toks) (fun b o hb e=>hs'.extBut b o hb e) q1 q2 q4 q5 q6,rfl,fin D hD⟩⟩
theorem Ug{y:Str}{py:Pos}{i:Nat}{Ϯ:Pos}(top:Top X)(hN:X.N.Nodup)(hi':X.N[i]?=some y)(hy:Loc X.env.scope y)(hc:X.calm=true)(B:BlkOk X scope x ç)(hi:PI X Ϣ Ŗ wi)(hG:∀cl C s H ex xe,PG (Ze X scope (ZC X x ç) cl C s H ex xe) Ϣ tg)
  (hI:∀cl C s H ex xe E,XW (Ze X scope (ZC X x ç) cl C s H ex xe) E->PIfs (Ze X scope (ZC X x ç) cl C s H ex xe) ϝ (tc E)) (hE:∀cl C s H ex xe E,XW (Ze X scope (ZC X x ç) cl C s H ex xe) E->PE (Ze X scope (ZC X x ç) cl C s H ex xe) Ϭ (te E))
  (hs:∀x,ī Ŗ X.env x=pure x:=by intro _;rfl)
  (hsw:Ŏ (.ListComp Ϭ [⟨Ϣ,Ŗ,ϝ,0⟩] scope ë) (some<|.Name y py) Ϯ.line X.env=pure true:=by rfl)
  (hf:X.fn y=true\/X.env.scope.names.lookup y=some .local:=by first|exact .inl rfl|exact .inr rfl|assumption) :
  PS X (.Assign [.Name y py] (.ListComp Ϭ [⟨Ϣ,Ŗ,ϝ,0⟩] scope ë) Ϯ) (Fy (Uv X wi x.length ç tg tc te)<|B8 i):=by
 intro À s σ H D I h;obtain⟨cl,hcl,c1,c2⟩:=Yv (scope:=scope) (env:=X.env) fun y hy e=>I.ok.has y.1<|.inl<|B.frees y hy e;rw[exec_Assign_Name_used _ _ _ _ hsw];refine Ã<|wpAny_standAt<|Ã ?_;show wpAny _ X.A (do let _<-comprehension (.ListComp Ϭ [⟨Ϣ,Ŗ,ϝ,0⟩] scope ë) scope X.env _ (newList []) false (eval Ŗ X.env) (some<|Ÿ (.Name y py) X.env)) _ _ s;refine Ã (Ĉ (bf (use:=some<|Ÿ (.Name y py) X.env) (Q:=fun _ s'=>SP X À D .next s') rfl hs hcl B.kind B.locs
   (thn (hi À s σ H _ I h) fun v s1 h1=>thn h1 fun itv s2 h2=>?_)) (fun _ s' hq=>Ñ<|Ñ hq) fun _ _ e=>e)
 obtain⟨it,fp,tn,J,H2,e,I2,T,st2,f2,E,xw,W,⟨m0,w0⟩,cw⟩:=h2;subst e;refine WS (RR:=fun ĵ C=>compPost (Ö X.prog X.w) X.A X.xe (some<|Ÿ (.Name y py) X.env) (fun _ s'=>SP X À D .next s') ĵ C) (xe:=fun C s ex=>Mp X E H2 C s ex) hc B I2 T st2 f2 c1 c2 (fun cl C s ex=>hI cl C s H2 ex _ E Jz) (fun cl C s ex=>hE cl C s H2 ex _ E Jz) hG w0 cw ?_ fun s3 o3 z3 δ v s' h=>Mo I2 f2 top xw o3 z3 δ h;intro Dd C s' H' ys m hD hn fC I' fin;obtain⟨q1,q2,q3,q4,q5,q6⟩:=fC;show wpAny _ _ (Ÿ (.Name y py) X.env<|.ref Dd) _ _ _;refine wpAny_assign_Name<|WI I' hN hi' hy (v:=.ref Dd) rfl (fun s2 I2 ⟨a,hs2,ha⟩=>?_) hf;have ne:C≠a:=by
  rcases ha with z|z
  .rw[z];exact q2
  .exact(q5 y a z).symm
 refine⟨m,hn.sameBut hs2 ne,fun h' hs'=>?_⟩;exact⟨_,_,I2.turned (t':=s2.toks) (fun b o hb e=>hs'.extBut b o hb e) q1 q2 q4 q5 q6,fin Dd hD⟩
end
end L2
namespace L2
open PySem PySem.Spec PyProof.Rows
open PySem.Builtin PySem.Builtin.Str
noncomputable def MW(z:Str)(lo hi:Option Int):Str:=if(Ť lo hi 1 z.length).length=z.length then z else⟨((Ť lo hi 1 z.length).filterMap (z.cps[·]?)).toArray⟩
theorem UA(z:Str)(lo hi:Option Int):(MW z lo hi).length<=z.length:=by
 unfold MW;split
 .exact Ø _
 .show((Ť lo hi 1 z.length).filterMap (z.cps[·]?)).toArray.size<=_;rw[Ê];exact Ç (List.length_filterMap_le _ _)<|indices_len_le lo hi z.length
section
variable {X:Cx}
def Gb:V->Option Int->Option Int->Hp->VK->Prop:=fun x lo hi H Q=>∃z,x=.str z/\z.length<=Ô/\Q (.str<|MW z lo hi) H
theorem MJ{v:Á}{lo:Option Int}(h:ι v lo):∃l:Option<|Int×Tok,v=partValue l/\l.map (·.1)=lo:=by
 cases h with
 |none=>exact⟨none,rfl,rfl⟩
 |int i t=>exact⟨some (i,t),rfl,rfl⟩
theorem sl_str:SlR X Gb:=by
 intro À s σ H x v vl vu lo hi sl Q I rx hs pl pu h;obtain⟨z,rfl,hz,q⟩:=h;obtain⟨t,rfl⟩:=rx;refine⟨"str",_,slot_str_getitem.lookup,μ s z t,?_⟩;obtain⟨l,rfl,el⟩:=MJ pl;obtain⟨u,rfl,eu⟩:=MJ pu;have hs':s.heap.IsSlice sl l u none:=hs;refine wpAny_getItem_str_slice hs' rfl ?_;have e:sliceMade z t l u none=if(Ť lo hi 1 z.length).length=z.length then .val (.str z t)else .str ⟨((Ť lo hi 1 z.length).filterMap (z.cps[·]?)).toArray⟩:=by unfold sliceMade slicePicked;rw[el,eu];simp
 rw[e];have cl:=UA z lo hi;unfold MW at q cl;split
 .rename_i hh;rw[if_pos hh]at q;exact⟨.str z,H,I,⟨t,rfl⟩,q⟩
 .rename_i hh;rw[if_neg hh]at q cl;exact⟨Ç cl hz,.str _,H,I.tok _,⟨_,rfl⟩,q⟩
end
section
variable {X:Cx}
theorem Mw(z:Str):∀(n:Nat) (a:Array Nat),((Ë n z.cps).foldl (· ++ ·) a).size=a.size+n*z.cps.size
 |0,a=>by simp
 |n+1,a=>by rw[û,Ĵ,Mw z n,Array.size_append,Nat.succ_mul];omega
theorem Vals.ins{xs:List V}{us:List Á}{y:V}{u:Á}(r:Vals xs us)(ry:RelV y u)(k:Nat):Vals (xs.take k++y::xs.drop k)<|us.take k++u::us.drop k:=(r.take k).append (.cons ry<|r.drop k)
end
end L2
namespace L2
open PySem PySem.Spec PyProof.Rows
section
variable {X:Cx}(K:PySem.W.Frag) (h:X.K=K)
include h
end
end L2
namespace HT
open PySem PyProof.Rows
open PySem.SeqAt
open PySem.AutoSeq1 (wpAny_loadPart')
open PySem.MeetsSeq PySem.MeetsSeq2 PySem.MeetsSeq3
section
variable {prog:à}{w:þ}{A:ć}{E:Á->Â->Prop}{s:Â}
theorem getItem_tuple_whole{t sl:Ä}{items:Array Á}{vl vu:Á}{lo hi:Option Int}{Q:Á->Â->Prop}(ht:Ζ s.heap t items)(hs:s.heap.IsSliceOf sl vl vu .none)(pl:ι vl lo)(pu:ι vu hi)
  (hw:sIx items.size 0 lo=0/\sIx items.size items.size hi=items.size)
  (h:Q (.ref t) s):wpAny (Ö prog w) A (θ (.ref t)<|.ref sl) Q E s:=by
 obtain⟨os,hos,hcs,hds⟩:=id hs;have hTs:s.TypeIs (.ref sl) "slice":=⟨os,hos,hcs⟩
 unfold θ
 try with_reducible refine ϋ ?_
 first|refine Ã (Ñ ?_)|skip
 refine Ã (wpAny_sequenceKey ht.typeIs (by decide) ?_);refine Ã (ŏ (name:=Str.ofString "__getitem__") ht.typeIs PyProof.Rows.slot_tuple_getitem
   (ř PyProof.Rows.slot_tuple_getitem ht.typeIs entry_tuple_getitem ?_<|args_tuple_getitem _ _))
 show wpAny _ _ (Builtin.Tuple.tupleItemsOf (.ref t) >>= _) _ _ s;refine Ã<|tupleItemsOf_ ht ?_;refine Ã<|bN hTs ?_;rw[if_pos<|by decide];refine Ã<|Z0 hs pl pu ?_;have hyes:(((sIx items.size 0 lo:Nat):Int)==0&&(1:Int)==1&&(sIx items.size items.size hi - sIx items.size 0 lo)==items.size)=true:=by rw[hw.1,hw.2];simp
 show wpAny _ _ (if(((sIx items.size 0 lo:Nat):Int)==0&&(1:Int)==1&&(sIx items.size items.size hi - sIx items.size 0 lo)==items.size)=true then _ else _) _ _ s;rw[if_pos hyes];refine Ã ?_;unfold Builtin.Tuple.tupleIsExact;refine Ã<|bN ht.typeIs<|Ñ ?_;rw[if_pos<|by decide]
 first
  |exact Ã<|Ñ<|Ñ ⟨_,rfl,Ñ h⟩
  |exact Ã<|wpAny_rule<|Ñ ⟨_,rfl,Ñ h⟩
  |exact Ñ ⟨_,rfl,Ñ h⟩
end
end HT
namespace L2
open PySem PySem.Spec PyProof.Rows
section
variable {X:Cx}
def EL(K:PySem.W.Frag):V->Option Int->Option Int->Hp->VK->Prop:=fun x lo hi H Q=>∃a xs,x=.ref a/\SqT K H a xs/\(HT.sIx xs.length 0 lo=0/\HT.sIx xs.length xs.length hi=xs.length)/\Q (.ref a) H
theorem Ac:SlR X<|EL X.K:=by
 intro À s σ H x v vl vu lo hi sl Q I rx hs pl pu h;obtain⟨a,xs,rfl,hx,hw,q⟩:=h;cases rx;obtain⟨ò,r,ht,hz⟩:=I.tuple hx;have ģ:ò.toArray.size=xs.length:=by rw[Ê];exact r.length.symm
 refine⟨"tuple",_,PyProof.Rows.slot_tuple_getitem.lookup,ht.typeIs,?_⟩;exact HT.getItem_tuple_whole ht hs pl pu (by rw[ģ];exact hw) ⟨.ref a,H,I,rfl,q⟩
end
end L2
namespace L2
open PySem PySem.Spec PyProof.Rows
open PySem.Builtin PySem.Builtin.Str
section
variable {X:Cx}
noncomputable def D6(z:Str)(n:Nat):Str:=⟨(Ë n z.cps).foldl (· ++ ·) #[]⟩
theorem WO(z:Array Nat):∀(n:Nat) (a:Array Nat),((Ë n z).foldl (· ++ ·) a).toList=a.toList++(Ë n z.toList).flatten
 |0,a=>by simp
 |n+1,a=>by rw[û,Ĵ,WO z n,û,č,Array.toList_append,â]
noncomputable def BR:R2:=fun x y H Q=>∃z k,x=.str z/\y=.int k/\2<=k/\k<=1000000/\1<=z.length/\z.length*k.toNat<=1000000/\Q (.str<|D6 z k.toNat) H
theorem A6:OpR X (Ĭ .Mult) BR:=by
 intro À s σ H x y v u Q I rx ry h;obtain⟨z,k,rfl,rfl,h2,h6,h1,hz,q⟩:=h;obtain⟨t,rfl⟩:=rx;obtain⟨t',rfl⟩:=ry;have big:(1000000:Nat)<=Ô:=by decide
 have nb:(k==1||z.length==0)=false:=by have e1:(k==1)=false:=beq_false_of_ne (by omega);have e2:(z.length==0)=false:=beq_false_of_ne (by omega);rw[e1,e2];rfl
 have zl:z.length<=1000000:=by have:z.length*1<=z.length*k.toNat:=Nat.mul_le_mul_left _ (by omega);omega
 have hr:(decide (k < -(2 ^ 63:Int))||decide (k≥2 ^ 63))=false:=by rw[decide_eq_false (by omega),decide_eq_false<|by omega];rfl
 have hb:¬ k<1->(k==1||z.length==0)=false->¬ ((z.length:Int) > (2 ^ 63 - 1) / k):=fun _ _=>by have:(1000000:Int)<=(2 ^ 63 - 1) / k:=(Int.le_ediv_iff_mul_le<|by omega).mpr (by omega);omega
 have hl:¬ k<1->(k==1||z.length==0)=false->tooLong (z.length*k.toNat)=false:=fun _ _=>by unfold tooLong;exact decide_eq_false (by omega)
 refine P.mul_str hr hb hl ?_;rw[if_neg (by omega),if_neg<|by rw[nb];exact ú];have el:(⟨(Ë k.toNat z.cps).foldl (· ++ ·) #[]⟩:Str).length=z.length*k.toNat:=by show((Ë k.toNat z.cps).foldl (· ++ ·) #[]).size=_;rw[Mw,au z.length];simp[Str.length]
 exact⟨by rw[el];omega,.str _,H,I.tok _,⟨_,rfl⟩,q⟩
variable {c y z a b:Str}{k1 k2 k3:Nat}{p1 p2 p3 p4 pa pb ο ŀ:Pos}
end
end L2
namespace L2
open PySem PySem.Spec PyProof.Rows
section
variable {X:Cx}
noncomputable def BE(K:PySem.W.Frag):R2:=fun x y H Q=>∃a b ys,x=.ref a/\y=.ref b/\SqT K H a []/\SqT K H b ys/\Q (.ref b) H
theorem op_cat0:OpR X (Ĭ .Add)<|BE X.K:=by
 intro À s σ H x y v u Q I rx ry h;obtain⟨a,b,ys,rfl,rfl,ha,hb,q⟩:=h;cases rx;cases ry;obtain⟨ò,r1,p1,_⟩:=I.tuple ha;obtain⟨ſ,r2,p2,_⟩:=I.tuple hb;cases r1;obtain⟨⟨cls,dd,data,sl⟩,ho,hc,n,hd⟩:=id p1;obtain⟨⟨cls2,bG,data2,aX⟩,ho2,hc2,n2,aJ⟩:=id p2;simp only at hc hd hc2 aJ;subst hc hd hc2 aJ;exact bM ⟨_,ho,rfl⟩ ⟨_,ho2,rfl⟩ Ϩ bd PySem.F.slot_tuple_add PySem.F.entry_tuple_add (PySem.F.args_tuple_add_2 _ _)
  (tuple_addW0 a b _ _ n n2 dd bG sl aX rfl) ⟨ho,ho2,.ref b,H,I,rfl,q⟩
end
mutual
inductive SamV (K:PySem.W.Frag) (H:Hp):Nat->V->V->Prop
 |non {n:Nat}:SamV K H n .non .non
 |bl {n:Nat}(b:Bool):SamV K H n (.bl b)<|.bl b
 |int {n:Nat}(i:Int):SamV K H n (.int i)<|.int i
 |str {n:Nat}(x:Str):SamV K H n (.str x)<|.str x
 |ref {n:Nat}(a:Ä):SamV K H n (.ref a)<|.ref a
 |lst {n:Nat}{a b:Ä}{xs ys:List V}:SqL K H a xs->SqL K H b ys->SamVs K H n xs ys->SamV K H (n+1) (.ref a) (.ref b)
 |tup {n:Nat}{a b:Ä}{xs ys:List V}:SqT K H a xs->SqT K H b ys->SamVs K H n xs ys->SamV K H (n+1) (.ref a) (.ref b)
inductive SamVs (K:PySem.W.Frag) (H:Hp):Nat->List V->List V->Prop
 |nil {n:Nat}:SamVs K H n [] []
 |cons {n:Nat}{x y:V}{xs ys:List V}:SamV K H n x y->SamVs K H n xs ys->SamVs K H n (x::xs) (y::ys)
end
theorem JB(n:Nat):(List.range n).all (fun _=>true)=true:=by simp
theorem SamVs.length{K:PySem.W.Frag}{H:Hp}:∀{n:Nat}{xs ys:List V},SamVs K H n xs ys->xs.length=ys.length
 |_,_,_,.nil=>rfl
 |_,_,_,.cons _ t=>by rw[Å,Å,SamVs.length t]
section
variable {X:Cx}{À:List (Ä×Obj)}{σ:St}{H:Hp}{s:Â}
mutual
theorem SamV.eqAt(I:Inv X À σ H s):∀{n:Nat}{x y:V}{u v:Á}{A:ć},SamV X.K H n x y->RelV x u->RelV y v->A.units+n<Ğ->SeqAt.EqAt A s u v true
 |_,_,_,_,_,A,.non,r,q,_=>by cases r;cases q;exact SeqAt.EqAt.same _
 |_,_,_,_,_,A,.bl b,r,q,_=>by cases r;cases q;exact SeqAt.EqAt.same _
 |_,_,_,_,_,A,.int i,r,q,_=>by
  obtain⟨t,rfl⟩:=r;obtain⟨t',rfl⟩:=q;have:=SeqAt.EqAt.int_int (A:=A) (s:=s) i t i t'
  rwa [beq_self_eq_true]at this
 |_,_,_,_,_,A,.str x,r,q,_=>by
  obtain⟨t,rfl⟩:=r;obtain⟨t',rfl⟩:=q;have:=SeqAt.EqAt.str_str (A:=A) (s:=s) x t x t'
  rwa [beq_self_eq_true]at this
 |_,_,_,_,_,A,.ref a,r,q,_=>by cases r;cases q;exact SeqAt.EqAt.same _
 |n+1,_,_,_,_,A,.lst (a:=a) (b:=b) ha hb hs,r,q,hu=>by
  cases r;cases q;by_cases hab:a=b
  .subst hab;exact SeqAt.EqAt.same _
  .obtain⟨ò,rv,pl,_⟩:=I.list ha;obtain⟨ſ,rv2,pl2,_⟩:=I.list hb;have hl:=hs.length;have h1:=rv.length;have h2:=rv2.length;have hz:ò.toArray.size=ſ.toArray.size:=by rw[Ê,Ê,<-h1,<-h2,hl]
   have:=SeqAt.RcAt.lists (A:=A) (e:=fun _=>true) pl.isList pl2.isList hz (by omega) fun j j1 j2=>SamVs.eqAt I hs rv rv2 (A:=A.in1) (by have:A.in1.units=A.units+1:=rfl;omega) j j1 j2;rw[JB]at this;exact SeqAt.EqAt.of_refs hab this
 |n+1,_,_,_,_,A,.tup (a:=a) (b:=b) ha hb hs,r,q,hu=>by
  cases r;cases q;by_cases hab:a=b
  .subst hab;exact SeqAt.EqAt.same _
  .obtain⟨ò,rv,pl,_⟩:=I.tuple ha;obtain⟨ſ,rv2,pl2,_⟩:=I.tuple hb;have hl:=hs.length;have h1:=rv.length;have h2:=rv2.length;have hz:ò.toArray.size=ſ.toArray.size:=by rw[Ê,Ê,<-h1,<-h2,hl]
   have:=SeqAt.RcAt.tuples (A:=A) (e:=fun _=>true) (show s.heap.IsTuple a ò.toArray from pl) (show s.heap.IsTuple b ſ.toArray from pl2) (by omega) fun j j1 j2=>SamVs.eqAt I hs rv rv2 (A:=A.in1) (by have:A.in1.units=A.units+1:=rfl;omega) j j1 j2;rw[JB,hz,beq_self_eq_true,Bool.and_self]at this;exact SeqAt.EqAt.of_refs hab this
theorem SamVs.eqAt(I:Inv X À σ H s):∀{n:Nat}{xs ys:List V}{us vs:List Á}{A:ć},SamVs X.K H n xs ys->Vals xs us->Vals ys vs->A.units+n<Ğ->∀(j:Nat) (j1:j<us.toArray.size) (j2:j<vs.toArray.size),SeqAt.EqAt A s us.toArray[j] vs.toArray[j] true
 |_,_,_,_,_,_,.nil,.nil,_,_,j,j1,_=>by simp at j1
 |_,_,_,_,_,_,.cons h t,.cons r rs,.cons q qs,hu,0,_,_=>by simpa using SamV.eqAt I h r q hu
 |_,_,_,_,_,_,.cons h t,.cons r rs,.cons q qs,hu,j+1,j1,j2=>by have:=SamVs.eqAt I t rs qs hu j (by simpa using j1) (by simpa using j2);simpa using this
end
end
section
variable {X:Cx}
noncomputable def Cu(K:PySem.W.Frag):R2:=fun x y H Q=>∃a b xs ys,x=.ref a/\y=.ref b/\SqL K H a xs/\SqL K H b ys/\SamVs K H 8 xs ys/\Q (.bl false) H
theorem CP(hu:X.A.units+64<Ğ):OpR X (Ý .NotEq)<|Cu X.K:=by
 intro À s σ H x y v u Q I rx ry h;obtain⟨a,b,xs,ys,rfl,rfl,ha,hb,hs,q⟩:=h;cases rx;cases ry;obtain⟨ò,rv,pl,_⟩:=I.list ha;obtain⟨ſ,rv2,pl2,_⟩:=I.list hb;have hz:ò.toArray.size=ſ.toArray.size:=by rw[Ê,Ê,<-rv.length,<-rv2.length,hs.length]
 have:=SeqAt.RcNeAt.lists (A:=X.A) (e:=fun _=>true) pl.isList pl2.isList hz (by omega) fun j j1 j2=>hs.eqAt I rv rv2 (A:=X.A.in1) (by have:X.A.in1.units=X.A.units+1:=rfl;omega) j j1 j2;rw[JB]at this;exact this X.prog X.w X.xe _ ⟨.bl false,H,I,rfl,q⟩
end
def ZSt(z TI TO i1 i2 a b:Ä)(i:Nat)(h:ô):Prop:=IsZip h z TI TO .none/\IsPair h TI (.ref i1) (.ref i2)/\(∃u v,IsPair h TO u v)/\h.IsListIter i1 a i/\h.IsListIter i2 b i
variable {z:Ä} {i1:Ä} {i2:Ä} {a:Ä} {b:Ä} {i:Nat} {h:ô}
theorem ZSt.keep{TI TO:Ä}{h':ô}(st:ZSt z TI TO i1 i2 a b i h)(k:∀c∈[z,TI,TO,i1,i2],∀o,h.get? c=some o->h'.get? c=some o):ZSt z TI TO i1 i2 a b i h':=by obtain⟨h1,h2,⟨u,v,h3⟩,h4,h5⟩:=st;exact⟨k z (by simp) _ h1,k TI (by simp) _ h2,⟨u,v,k TO (by simp) _ h3⟩,h4.at fun o q=>k i1 (by simp) o q,h5.at fun o q=>k i2 (by simp) o q⟩
theorem ZSt.obj{TI TO:Ä}(st:ZSt z TI TO i1 i2 a b i h):∀c∈[z,TI,TO,i1,i2],∃o,h.get? c=some o/\(∀v,o.data≠.cell v)/\o.cls≠.type "list":=by
 obtain⟨h1,h2,⟨u,v,h3⟩,⟨o4,e4,c4,d4⟩,⟨o5,e5,c5,d5⟩⟩:=st;intro c hc;simp only[Î,ę,or_false]at hc;rcases hc with rfl|rfl|rfl|rfl|rfl
 .exact⟨_,h1,(fun v z=>(by cases z)),(show Value.type "zip"≠.type "list" by decide)⟩
 .exact⟨_,h2,(fun v z=>(by cases z)),(show Value.type "tuple"≠.type "list" by decide)⟩
 .exact⟨_,h3,(fun v z=>(by cases z)),(show Value.type "tuple"≠.type "list" by decide)⟩
 .exact⟨_,e4,(fun v z=>(by rw[d4]at z;cases z)),(by rw[c4];decide)⟩
 .exact⟨_,e5,(fun v z=>(by rw[d5]at z;cases z)),(by rw[c5];decide)⟩
section
variable {X:Cx}
theorem Jh:CallR X (.type "str") fun xs H Q=>∃z,xs=[.str z]/\Q (.str z) H:=by intro À s σ H xs us Q I r h;obtain⟨z,rfl,q⟩:=h;obtain⟨u,rfl,t,rfl⟩:=Ye r;exact PySem.P.str_of_str ⟨.str _,H,I,⟨_,rfl⟩,q⟩
noncomputable def EI(te:TE):TE:=fun σ H Q=>te σ H fun x H1=>(∃i,x=.int i/\i.natAbs.log2<1920/\Q (.str<|toString i) H1)\/∃z,x=.str z/\z.length<=Ô/\Q (.str z) H1
theorem AR{e:Expr}{te:TE}{ë:Pos}(he:PE X e te):PE X (.FormattedValue e (-1) none ë)<|EI te:=by
 intro À s σ H Q I h;refine wpAny_FormattedValue_plain<|thn (he À s σ H _ I h) fun v s1 ⟨x,H1,I1,r1,q1⟩=>?_;rcases q1 with⟨i,e1,hd,q1⟩|⟨z,e1,hz,q1⟩
 .subst e1;obtain⟨t,rfl⟩:=r1;exact wpAny_formatField_int hd ⟨.str _,H1,I1.tok _,⟨_,rfl⟩,q1⟩
 .subst e1;obtain⟨t,rfl⟩:=r1;exact wpAny_formatField_str ⟨.str _,H1,I1,⟨_,rfl⟩,q1⟩ ⟨.str _,H1,I1.tok _,⟨_,rfl⟩,q1⟩ hz
noncomputable def Bb(K:PySem.W.Frag)(neg:Bool):R2:=fun x y H Q=>∃ds d,(IsD K H y (.tuple ds)\/IsD K H y (.list ds))/\IsD K H x d/\Ķ ds=true/\d.canLay0=true/\d.depth<=64/\Q (.bl<|if neg then !ds.any (fun e=>ė e d)else ds.any fun e=>ė e d) H
theorem Dl(hu:X.A.units+65<Ğ):OpR X (Ý .In)<|Bb X.K false:=by
 intro À s σ H x y v u Q I rx ry h;obtain⟨ds,d,hd,he,sd,se,hdp,q⟩:=h;obtain⟨bs,rb⟩:=he.reads I rx;have hr:X.A.units+1+min (ĥ ds) d.depth<Ğ:=by have:min (ĥ ds) d.depth<=d.depth:=ώ _ _;omega
 rcases hd with hd|hd
 .obtain⟨as,ra⟩:=hd.reads I ry;exact SeqAt.in_tuple_reads ra rb sd se hr ⟨.bl _,H,I,rfl,q⟩
 .obtain⟨as,ra⟩:=hd.reads I ry;exact SeqAt.in_list_reads ra rb sd se hr ⟨.bl _,H,I,rfl,q⟩
theorem Np(hu:X.A.units+65<Ğ):OpR X (Ý .NotIn)<|Bb X.K true:=by
 intro À s σ H x y v u Q I rx ry h;obtain⟨ds,d,hd,he,sd,se,hdp,q⟩:=h;obtain⟨bs,rb⟩:=he.reads I rx;have hr:X.A.units+1+min (ĥ ds) d.depth<Ğ:=by have:min (ĥ ds) d.depth<=d.depth:=ώ _ _;omega
 rcases hd with hd|hd
 .obtain⟨as,ra⟩:=hd.reads I ry;exact SeqAt.notIn_tuple_reads ra rb sd se hr ⟨.bl _,H,I,rfl,q⟩
 .obtain⟨as,ra⟩:=hd.reads I ry;exact SeqAt.notIn_list_reads ra rb sd se hr ⟨.bl _,H,I,rfl,q⟩
end
def ZSy(z TI TO i1 i2 a b:Ä)(i:Nat)(h:ô):Prop:=IsZip h z TI TO .none/\IsPair h TI (.ref i1) (.ref i2)/\(∃u v,IsPair h TO u v)/\h.IsTupleIter i1 a i/\h.IsTupleIter i2 b i
variable {z:Ä} {i1:Ä} {i2:Ä} {a:Ä} {b:Ä} {i:Nat} {h:ô}
theorem ZSy.keep{TI TO:Ä}{h':ô}(st:ZSy z TI TO i1 i2 a b i h)(k:∀c∈[z,TI,TO,i1,i2],∀o,h.get? c=some o->h'.get? c=some o):ZSy z TI TO i1 i2 a b i h':=by obtain⟨h1,h2,⟨u,v,h3⟩,h4,h5⟩:=st;exact⟨k z (by simp) _ h1,k TI (by simp) _ h2,⟨u,v,k TO (by simp) _ h3⟩,h4.at fun o q=>k i1 (by simp) o q,h5.at fun o q=>k i2 (by simp) o q⟩
theorem ZSy.obj{TI TO:Ä}(st:ZSy z TI TO i1 i2 a b i h):∀c∈[z,TI,TO,i1,i2],∃o,h.get? c=some o/\∀v,o.data≠.cell v:=by
 obtain⟨h1,h2,⟨u,v,h3⟩,⟨o4,e4,c4,d4⟩,⟨o5,e5,c5,d5⟩⟩:=st;intro c hc;simp only[Î,ę,or_false]at hc;rcases hc with rfl|rfl|rfl|rfl|rfl
 .exact⟨_,h1,fun v z=>by cases z⟩
 .exact⟨_,h2,fun v z=>by cases z⟩
 .exact⟨_,h3,fun v z=>by cases z⟩
 .exact⟨_,e4,fun v z=>by rw[d4]at z;cases z⟩
 .exact⟨_,e5,fun v z=>by rw[d5]at z;cases z⟩
section
variable {κ:Type} [DecidableEq κ]
noncomputable def Yu(kvs:List<|κ×V)(k:κ):Option V:=(kvs.find? fun kv=>decide (kv.1=k)).map (·.2)
noncomputable def putK(kvs:List<|κ×V)(k:κ)(v:V):List (κ×V) :=
 if(kvs.any fun kv=>decide (kv.1=k))=true then kvs.map (fun kv=>if kv.1=k then(kv.1,v)else kv)else kvs++[(k,v)]
noncomputable def dropK(kvs:List<|κ×V)(k:κ):List<|κ×V:=kvs.filter fun kv=>decide (kv.1≠k)
variable {p:κ×V} {r:List (κ×V)}
theorem Ym{k:κ}(e:p.1=k):Yu (p::r) k=some p.2:=by simp[Yu,Ē,e]
theorem Yi{k:κ}(e:¬ p.1=k):Yu (p::r) k=Yu r k:=by simp[Yu,Ē,e]
theorem Yh(k:κ):∀kvs:List<|κ×V,(kvs.any fun kv=>decide (kv.1=k))=(Yu kvs k).isSome
 |[]=>rfl
 |p::r=>by
  rw[Ĩ];by_cases e:p.1=k
  .simp only[Ym e,decide_eq_true e,Bool.true_or,Option.isSome_some]
  .rw[Yi e,decide_eq_false e,Bool.false_or];exact Yh k r
variable {o:Option V} {u:Option Á}
theorem RelO.isSome_eq(r:RelO o u):o.isSome=u.isSome:=by
 cases o with
 |none=>cases u with
  |none=>rfl
  |some _=>exact(show False from r).elim
 |some _=>cases u with
  |none=>exact(show False from r).elim
  |some _=>rfl
theorem RelO.getD{d:V}{d':Á}(r:RelO o u)(rd:RelV d d'):RelV (o.getD d)<|u.getD d':=by
 cases o with
 |none=>cases u with
  |none=>exact rd
  |some _=>exact(show False from r).elim
 |some _=>cases u with
  |none=>exact(show False from r).elim
  |some _=>exact r
variable {kvs:List (κ×V)} {vs:List (κ×Á)}
theorem KV.val(r:KV kvs vs)(k:κ):RelO (Yu kvs k)<|Ϝ vs k:=by
 unfold KV at r;induction r with
 |nil=>exact True.intro
 |@cons p q ps qs h t ih =>
  obtain⟨h1,h2⟩:=h;by_cases e:p.1=k
  .have e':q.1=k:=h1.symm.trans e;have b:Ϝ (q::qs) k=some q.2:=by simp[Ϝ,Ē,e']
   rw[Ym e,b];exact h2
  .have e':¬ q.1=k:=fun z=>e<|h1.trans z;have b:Ϝ (q::qs) k=Ϝ qs k:=by simp[Ϝ,Ē,e']
   rw[Yi e,b];exact ih
theorem KV.any(r:KV kvs vs)(k:κ):(kvs.any fun kv=>decide (kv.1=k))=vs.any fun kv=>decide (kv.1=k):=by
 unfold KV at r;induction r with
 |nil=>rfl
 |cons h t ih=>rw[Ĩ,Ĩ,ih,h.1]
variable {y:V}
theorem KV.repl(r:KV kvs vs)(k:κ){u:Á}(ry:RelV y u) :
  KV (kvs.map fun kv=>if kv.1=k then(kv.1,y)else kv) (vs.map fun kv=>if kv.1=k then(kv.1,u)else kv):=by
 unfold KV at r ⊢;induction r with
 |nil=>exact .nil
 |@cons p q ps qs h t ih =>
  rw[Ó,Ó];refine .cons ?_ ih;obtain⟨h1,h2⟩:=h;by_cases e:p.1=k
  .rw[if_pos e,if_pos<|h1.symm.trans e];exact⟨h1,ry⟩
  .rw[if_neg e,if_neg fun z=>e<|h1.trans z];exact⟨h1,h2⟩
theorem KV.put(r:KV kvs vs)(k:κ){u:Á}(ry:RelV y u):KV (putK kvs k y)<|stored vs k u:=by
 unfold putK stored;rw[r.any k];by_cases e:(vs.any fun kv=>decide (kv.1=k))=true
 .rw[if_pos e,if_pos e];exact r.repl k ry
 .rw[if_neg e,if_neg e];exact Paired.snoc r ⟨rfl,ry⟩
theorem KV.drop(r:KV kvs vs)(k:κ):KV (dropK kvs k)<|without vs k:=by
 unfold KV at r ⊢;unfold dropK without;induction r with
 |nil=>exact .nil
 |@cons p q ps qs h t ih =>
  obtain⟨h1,h2⟩:=h;rw[Ű,Ű];by_cases e:p.1=k
  .have a:¬ decide (p.1≠k)=true:=by simp[e]
   have b:¬ decide (q.1≠k)=true:=by simp[h1.symm.trans e]
   rw[if_neg a,if_neg b];exact ih
  .have e':¬ q.1=k:=fun z=>e<|h1.trans z;have a:decide (p.1≠k)=true:=by simp[e]
   have b:decide (q.1≠k)=true:=by simp[e']
   rw[if_pos a,if_pos b];exact .cons ⟨h1,h2⟩ ih
theorem KV.length(r:KV kvs vs):kvs.length=vs.length:=Paired.length r
end
variable {u:Á}
theorem MB{P:à}{w:þ}{k:Key}(r:RelV (kV k) u):(Zv P w).is k u=true:=by
 cases k with
 |inl i=>obtain⟨t,e⟩:=(show ∃t,u=Value.int i t from r);subst e;exact J9 P w i t
 |inr x=>obtain⟨t,e⟩:=(show ∃t,u=Value.str x t from r);subst e;exact J7 P w x t
theorem WQ{P:à}{w:þ}:∀{ks:List Key}{us:List Á},Vals (ks.map kV) us->ItemsAre (Zv P w) ks us
 |[],_,r=>by rw[af]at r;cases r;exact .nil
 |k::ks,_,r=>by
  rw[Ó]at r;cases r with
  |cons h t=>exact .cons (MB h)<|WQ t
abbrev KTd(H:Hp):List (List Key×V)->List (List Key×Ä×Á)->Prop:=Paired fun p q=>p.1=q.1/\H q.2.1=some (.tup<|p.1.map kV)/\RelV p.2 q.2.2
variable {H:Hp} {kvs:List (List Key×V)} {xs:List (List Key×Ä×Á)}
theorem KTd.val(r:KTd H kvs xs)(k:List Key):RelO (Yu kvs k) ((az xs k).map (·.2)):=by
 induction r with
 |nil=>exact True.intro
 |@cons p q ps qs h t ih =>
  obtain⟨h1,_,h2⟩:=h;by_cases e:p.1=k
  .have e':q.1=k:=h1.symm.trans e;have b:az (q::qs) k=some q.2:=by simp[az,Ē,e']
   rw[Ym e,b];exact h2
  .have e':¬ q.1=k:=fun z=>e<|h1.trans z;have b:az (q::qs) k=az qs k:=by simp[az,Ē,e']
   rw[Yi e,b];exact ih
variable {y:V}
theorem KTd.repl(r:KTd H kvs xs)(k:List Key)(ry:RelV y u) :
  KTd H (kvs.map fun kv=>if kv.1=k then(kv.1,y)else kv) (xs.map<|putAt k u):=by
 induction r with
 |nil=>exact .nil
 |@cons p q ps qs h t ih =>
  rw[Ó,Ó];refine .cons ?_ ih;obtain⟨h1,h2,h3⟩:=h;unfold putAt;by_cases e:p.1=k
  .rw[if_pos e,if_pos<|h1.symm.trans e];exact⟨h1,h2,ry⟩
  .rw[if_neg e,if_neg fun z=>e<|h1.trans z];exact⟨h1,h2,h3⟩
variable {b:Ä}
theorem KTd.put(r:KTd H kvs xs)(k:List Key)(hb:H b=some (.tup<|k.map kV))(ry:RelV y u) :
  KTd H (putK kvs k y) (storedH xs k b u):=by
 have e:(kvs.any fun kv=>decide (kv.1=k))=(az xs k).isSome:=by rw[Yh,(r.val k).isSome_eq,Ε]
 unfold putK storedH;rw[e];by_cases q:(az xs k).isSome=true
 .rw[if_pos q,if_pos q];exact r.repl k ry
 .rw[if_neg q,if_neg q];exact Paired.snoc r ⟨rfl,hb,ry⟩
theorem KTd.keeps{H':Hp}(r:KTd H kvs xs)(ht:∀b ys,H b=some (.tup ys)->H' b=some (.tup ys)):KTd H' kvs xs :=
 Paired.mapP r fun _ _ z=>⟨z.1,ht _ _ z.2.1,z.2.2⟩
section
variable {P:à}{w:þ}{H:Hp}{h:ô}{a:Ä}
theorem BW{u:HO}(ok:HOk P w H h)(e:Rd H a u):ObjOk P w H h a u:=e.ok ok
theorem WE{kvs:List (Key×V)}(ok:HOk P w H h)(e:Rd H a<|.dK kvs):kvs.length<=Ô/\(a==ū)=false/\∃vs,KV kvs vs/\h.DictOf (Zv P w) a vs :=
 show ObjOk P w H h a (.dK kvs) from BW ok e
theorem E7{kvs:List (Key×V)}(ok:HOk P w H h)(e:H a=some (.dK kvs)):kvs.length<=Ô/\(a==ū)=false/\∃vs,KV kvs vs/\h.DictOf (Zv P w) a vs:=WE ok (.inl e)
theorem key_of{ks:List Key}(ok:HOk P w H h)(e:H a=some (.tup<|ks.map kV)):(bv<|Zv P w).is h ks a:=by
 obtain⟨_,ò,r,o,h1,h2,n,h3⟩:=(show ObjOk P w H h a (.tup<|ks.map kV) from ok a _ e)
 exact⟨o,ò.toArray,n,h1,h2,h3,by simpa using WQ r⟩
theorem MD(ok:HOk P w H h)(e:Rd H a<|.dT kvs):kvs.length<=Ô/\(a==ū)=false/\
  ∃xs,KTd H kvs xs/\h.DictOfH (bv<|Zv P w) a xs:=by
 obtain⟨z,y,xs,r,o,es,ep,h1,h2,h3,h4,h5⟩:=(show ObjOk P w H h a (.dT kvs) from BW ok e)
 refine⟨z,y,xs,r,o,es,ep,h1,h2,h3,h4,fun x hx=>?_,h5⟩;have all:∀{l:List (List Key×V)}{m:List (List Key×Ä×Á)},KTd H l m->∀x∈m,(bv<|Zv P w).is h x.1 x.2.1:=by
  intro l m q;induction q with
  |nil=>intro x hx;exact nomatch hx
  |@cons p q ps qs hq t ih =>
   intro x hx;rcases Î.mp hx with e|hx
   .subst e;exact key_of ok (by rw[<-hq.1];exact hq.2.1)
   .exact ih x hx
 exact all r x hx
end
def DGet(H:Hp)(a:Ä)(y:V)(r:Option V):Prop :=
 (∃kvs k,Rd H a (.dK kvs)/\y=kV k/\r=Yu kvs k)\/∃kvs k b,Rd H a (.dT kvs)/\y=.ref b/\H b=some (.tup<|k.map kV)/\r=Yu kvs k
def DPut(H:Hp)(a:Ä)(y v:V)(H':Hp):Prop :=
 (∃kvs k,H a=some (.dK kvs)/\y=kV k/\kvs.length<Ô/\H'=upd H a (.dK<|putK kvs k v))\/
 ∃kvs k b,H a=some (.dT kvs)/\y=.ref b/\H b=some (.tup<|k.map kV)/\kvs.length<Ô/\H'=upd H a (.dT<|putK kvs k v)
theorem DGet.k{H:Hp}{a:Ä}{kvs:List (Key×V)}{k:Key}(e:H a=some (.dK kvs)):DGet H a (kV k)<|Yu kvs k:=.inl ⟨kvs,k,.inl e,rfl,rfl⟩
variable {a:Ä}
theorem DGet.t{k:List Key}(e:H a=some (.dT kvs))(eb:H b=some (.tup<|k.map kV)):DGet H a (.ref b)<|Yu kvs k:=.inr ⟨kvs,k,b,.inl e,rfl,eb,rfl⟩
theorem DPut.k{H:Hp}{a:Ä}{kvs:List (Key×V)}{k:Key}{v:V}(e:H a=some (.dK kvs))(hl:kvs.length<Ô):DPut H a (kV k) v<|upd H a<|.dK<|putK kvs k v:=.inl ⟨kvs,k,e,rfl,hl,rfl⟩
theorem DPut.t{k:List Key}{v:V}(e:H a=some (.dT kvs))(eb:H b=some (.tup<|k.map kV))(hl:kvs.length<Ô) :
  DPut H a (.ref b) v (upd H a<|.dT<|putK kvs k v):=.inr ⟨kvs,k,b,e,rfl,eb,hl,rfl⟩
section
variable {X:Cx}{À:List (Ä×Obj)}{σ:St}{H:Hp}{s:Â}{a:Ä}{y v:V}{u r:Á}{o:Option V}{A:ć}{E:Á->Â->Prop}
theorem Inv.big(I:Inv X À σ H s):ū<s.heap.objs.size:=by have h:ÿ<s.heap.objs.size:=(I.mod.glob.keeps I.bk).lt;exact aA (by decide) h
variable {Q:Á->Â->Prop}
theorem Nd(hu:A.units+1<Ğ)(I:Inv X À σ H s)(g:DGet H a y<|some v)(ry:RelV y u)(h:∀w' s',Inv X À σ H s'->RelV v w'->Q w' s') :
  wpAny (Ö X.prog X.w) A (θ (.ref a) u) Q E s:=by
 rcases g with⟨kvs,k,e,ey,l⟩|⟨kvs,k,b,e,ey,eb,l⟩
 .subst ey;obtain⟨z,hd,vs,rel,dd⟩:=WE I.hok e;obtain⟨w',hw,rw'⟩:=RelO.some_of (v:=v) (o:=Ϝ vs k) (by rw[l];exact rel.val k);exact wpAny_getItem_of (MB ry) dd.mapOf hw<|h w' _ (I.tok _) rw'
 .subst ey;cases (show u=Value.ref b from ry);obtain⟨z,hd,xs,rel,dd⟩:=MD I.hok e;obtain⟨w',hw,rw'⟩:=RelO.some_of (v:=v) (o:=(az xs k).map (·.2)) (by rw[l];exact rel.val k);obtain⟨p,hp,hp2⟩:=ā.mp hw;refine wpAny_getItem_heap (Ϗ hu) (key_of I.hok eb) dd hp ?_;rw[hp2];exact h w' _ (I.tok _) rw'
theorem GK(hu:A.units+1<Ğ)(I:Inv X À σ H s)(g:DGet H a y o)(ry:RelV y u)(h:∀s',Inv X À σ H s'->Q (.bool o.isSome) s') :
  wpAny (Ö X.prog X.w) A (Ý .In u<|.ref a) Q E s:=by
 rcases g with⟨kvs,k,e,ey,l⟩|⟨kvs,k,b,e,ey,eb,l⟩
 .subst ey;obtain⟨z,hd,vs,rel,dd⟩:=WE I.hok e;refine wpAny_in_of (MB ry) hd dd.mapOf ?_;rw[<-(rel.val k).isSome_eq,<-l];exact h _<|I.tok _
 .subst ey;cases (show u=Value.ref b from ry);obtain⟨z,hd,xs,rel,dd⟩:=MD I.hok e;refine wpAny_in_heap (Ϗ hu) (key_of I.hok eb) hd dd ?_;have q:=(rel.val k).isSome_eq;rw[Ε]at q;rw[<-q,<-l];exact h _<|I.tok _
theorem U1(hu:A.units+1<Ğ)(I:Inv X À σ H s)(g:DGet H a y o)(ry:RelV y u)(h:∀s',Inv X À σ H s'->Q (.bool (!o.isSome)) s') :
  wpAny (Ö X.prog X.w) A (Ý .NotIn u<|.ref a) Q E s:=by
 rcases g with⟨kvs,k,e,ey,l⟩|⟨kvs,k,b,e,ey,eb,l⟩
 .subst ey;obtain⟨z,hd,vs,rel,dd⟩:=WE I.hok e;refine wpAny_notIn_of (MB ry) hd dd.mapOf ?_;rw[<-(rel.val k).isSome_eq,<-l];exact h _<|I.tok _
 .subst ey;cases (show u=Value.ref b from ry);obtain⟨z,hd,xs,rel,dd⟩:=MD I.hok e;refine wpAny_notIn_heap (Ϗ hu) (key_of I.hok eb) hd dd ?_;have q:=(rel.val k).isSome_eq;rw[Ε]at q;rw[<-q,<-l];exact h _<|I.tok _
end
section
variable {X:Cx}{À:List (Ä×Obj)}{σ:St}{H:Hp}{s:Â}{a:Ä}{kvs:List (Key×V)}{k:Key}{u:Á}{A:ć}{E:Á->Â->Prop}
theorem F8{Q:Á->Â->Prop}(I:Inv X À σ H s)(e:Rd H a<|.dK kvs)(h:∀t s',Inv X À σ H s'->Q (.int kvs.length t) s'):wpAny (Ö X.prog X.w) A (call (.builtin "len") [.ref a]) Q E s:=by obtain⟨z,hd,vs,rel,dd⟩:=WE I.hok e;refine call_len_dict hd dd (by rw[<-rel.length];rw[sizeLine_eq]at z;omega) ?_;rw[<-rel.length];exact h _ _ (I.tok _)
end
theorem J5{X:Cx}{À:List (Ä×Obj)}{σ:St}{s:Â}{o:Option V}(I:Inv X À σ H s)(g:DGet H a y o):s.TypeIs (.ref a) "dict":=by
 rcases g with⟨kvs,k,e,_,_⟩|⟨kvs,k,b,e,_,_,_⟩
 .obtain⟨_,_,vs,_,dd⟩:=WE I.hok e;exact dd.typeIs
 .obtain⟨_,_,xs,_,dd⟩:=MD I.hok e;exact dd.typeIs
section
variable {X:Cx}
theorem Ny:CallR X (.builtin "len") fun xs H Q=>∃a kvs,xs=[V.ref a]/\H a=some (.dK kvs)/\Q (.int kvs.length) H:=by intro À s σ H xs us Q I r h;obtain⟨a,kvs,rfl,ha,q⟩:=h;obtain⟨u,rfl,ru⟩:=Ye r;cases ru;exact F8 I (.inl ha) fun t s' I'=>⟨.int kvs.length,H,I',⟨t,rfl⟩,q⟩
end
end L2
namespace Own
noncomputable abbrev Ad:=Nat
inductive Val where
 |non|bl (b:Bool)|int (i:Int)|str (s:String)|tup (xs:List Val)|ref (a:Ad)|scr (ns:List Int)|key (i j:Int)
 deriving Inhabited
mutual
noncomputable def Val.eqb:Val->Val->Bool
 |.non,.non=>true
 |.bl a,.bl b=>a==b
 |.int a,.int b=>a==b
 |.str a,.str b=>a==b
 |.tup a,.tup b=>Val.eqs a b
 |.ref a,.ref b=>a==b
 |.scr a,.scr b=>a==b
 |.key a b,.key c d=>a==c&&b==d
 |_,_=>false
noncomputable def Val.eqs:List Val->List Val->Bool
 |[],[]=>true
 |x::xs,y::ys=>Val.eqb x y&&Val.eqs xs ys
 |_,_=>false
end
mutual
theorem Val.eqb_iff:∀{a b:Val},Val.eqb a b=true↔a=b
 |.non,b=>by cases b<;>simp[Val.eqb]
 |.bl _,b=>by cases b<;>simp[Val.eqb]
 |.int _,b=>by cases b<;>simp[Val.eqb]
 |.str _,b=>by cases b<;>simp[Val.eqb]
 |.tup _,b=>by cases b<;>simp[Val.eqb,Val.eqs_iff]
 |.ref _,b=>by cases b<;>simp[Val.eqb]
 |.scr _,b=>by cases b<;>simp[Val.eqb]
 |.key _ _,b=>by cases b<;>simp[Val.eqb]
theorem Val.eqs_iff:∀{a b:List Val},Val.eqs a b=true↔a=b
 |[],b=>by cases b<;>simp[Val.eqs]
 |_::_,b=>by cases b<;>simp[Val.eqs,Val.eqb_iff,Val.eqs_iff]
end
noncomputable instance:DecidableEq Val:=fun a b=>if h:Val.eqb a b=true then isTrue (Val.eqb_iff.mp h)else isFalse fun e=>h<|Val.eqb_iff.mpr e
inductive Ob where
 |lst (xs:List Val)|dct (kvs:List<|Val×Val)|ins (C:String) (fs:List<|String×Val)|exc (C:String)|frz (kvs:List<|Val×Val)|dtp (kvs:List<|Val×Val)
 deriving Inhabited
noncomputable def joinC(ŭ:List Char):List (List Char)->List Char
 |[]=>[]
 |[x]=>x
 |x::y::r=>x++(ŭ++joinC ŭ (y::r))
noncomputable def joinS(ŭ:String)(xs:List String):String:=Í<|joinC ŭ.toList<|xs.map ì
noncomputable def splitC(c:Char):List Char->List (List Char)
 |[]=>[[]]
 |x::xs=>if x=c then []::splitC c xs else match splitC c xs with
  |[]=>[[x]]
  |y::ys=>(x::y)::ys
noncomputable def splitS(c:Char)(s:String):List String:=(splitC c s.toList).map Í
noncomputable def figB(c:Char):Bool:=decide (48<=c.toNat)&&decide (c.toNat<=57)
noncomputable def decN(l:List Char):Nat:=l.foldl (fun a c=>10*a+(c.toNat - 48)) 0
noncomputable def strsOf:List Val->Option (List String)
 |[]=>some []
 |.str s::xs=>(strsOf xs).map (s :: ·)
 |_=>none
noncomputable def asStr:Val->Option String
 |.str s=>some s
 |_=>none
noncomputable def oneC(s:String):Option Char:=match s.toList with
 |[c]=>some c
 |_=>none
noncomputable def Zf(i:Int):String:=toString i
noncomputable def fmtV:Val->Option String
 |.str s=>some s
 |.int i=>if i.natAbs<10 ^ 200 then some (Zf i)else none
 |_=>none
noncomputable abbrev Hs:=Ad->Option Ob
@[irreducible] noncomputable def upd(h:Hs)(a:Ad)(o:Ob):Hs:=fun b=>if b=a then some o else h b
variable {h:Hs} {a:Ad} {o:Ob}
theorem upd_same:upd h a o a=some o:=by simp[upd]
theorem upd_ne{b:Ad}(e:b≠a):upd h a o b=h b:=by simp[upd,e]
theorem upd_upd{u:Ob}:upd (upd h a o) a u=upd h a u:=by funext b;simp only[upd];split<;>rfl
noncomputable abbrev Env:=List<|Option Val
noncomputable abbrev Q1:=Val->Hs->Prop
noncomputable abbrev XQ:=String->Hs->Prop
noncomputable abbrev Fs:=String->List Val->Hs->Q1->XQ->Prop
noncomputable def lim:Nat:=1000000
variable {α:Type}
@[irreducible] noncomputable def go(o:Option α)(k:α->Prop):Prop:=match o with|some a=>k a|none=>False
@[simp] theorem go_some{a:α}{k:α->Prop}:go (some a) k=k a:=by unfold go;rfl
@[simp] theorem Gr{k:α->Prop}:go none k=False:=by unfold go;rfl
theorem go_of{o:Option α}{a:α}{k:α->Prop}(e:o=some a)(h:k a):go o k:=by rw[e,go_some];exact h
inductive Bop where|add|sub|mul|fdiv|mod|pow
inductive Cop where|eq|ne|lt|le|gt|ge|isin|notin|is|isnot|nes|eqE|neE|ntT|neX
inductive Bi where
 |len|int|str|bool|abs|min2|max2|minL|maxL|minD|sum|all|any|sorted|sortedI|sortedSet|lenSet|list|tuple|dict|isi (Ts:List String)|isx (Ts:List String)|isc (C:String)|repr|listRev|listRange|tupRange|dictEnum
inductive Bm where
 |append|extend|pop|popAt|insert|remove|clear|reverse|index|count|dget|dgetD|dpop|dpopD|setdefault|join|split|replace|upper|partition|sidx
inductive Pt where|one (i:Nat)|many (is:List Nat)|nest (i:Nat) (is:List Nat)
mutual
inductive E where
 |cst (v:Val)|var (i:Nat)|glob (x:String) (v:Val)
 |bin (op:Bop) (a b:E)|neg (a:E)|not (a:E)|and (a b:E)|or (a b:E)
 |cmp (op:Cop) (a b:E)|chain (o1 o2:Cop) (a b c:E)
 |call (f:String) (as:Es)|make (C:String) (as:Es)|meth (C m:String) (o:E) (as:Es)|fld (o:E) (f:String)
 |bi (f:Bi) (as:Es)|bm (m:Bm) (o:E) (as:Es)
 |idx (a i:E)|slc (a:E) (lo hi:Oe)|rev (a:E)
 |tup (es:Es)|lst (es:Es)|dct (es:Es)
 |ife (c:Tt) (a b:E)
 |comp (ç:List Nat) (n:Nat) (p:Pt) (it:It) (c:Tt) (e:E)
 |fstr (es:Es)
 |split (o a:E)
 |repl (o:E) (y z:String)
 |key (es:Es)|dctP
inductive Es where|nil|cons (e:E) (es:Es)
inductive Oe where|none|some (e:E)
inductive Tt where|yes|val (e:E)|not (t:Tt)|and (a b:Tt)|or (a b:Tt)
inductive It where
 |seq (e:E)|chars (e:E)|range (a:E)|range2 (a b:E)|enum (e:E)|zip (a b:E)|items (e:E)|rev (e:E)
end
mutual
inductive S where
 |set (p:Pt) (e:E)|setIdx (a i e:E)|setFld (o:E) (f:String) (e:E)
 |augVar (i:Nat) (op:Bop) (e:E)|augFld (o:E) (f:String) (op:Bop) (n:Int)|augIdx (a i:E) (op:Bop) (n:Int)
 |setPair (a i b j e:E)
 |expr (e:E)|ret (e:E)|retN|ite (c:Tt) (a b:Ss)|whl (c:Tt) (b:Ss)|for (p:Pt) (it:It) (b:Ss)|forI (k:Bool) (p:Pt) (e:E) (b:Ss)
 |never|brk|cnt|pass|raise (C:String) (as:Es)|try (t:Option Nat) (e:E) (hs:Hn)
inductive Ss where|nil|cons (s:S) (ss:Ss)
inductive Hn where|nil|cons (C:String) (n:Option Nat) (b:Ss) (r:Hn)
end
noncomputable def ixN(n:Nat)(i:Int):Option Nat:=if 0<=i then(if i<n then some i.toNat else none)else if -(n:Int)<=i then some (i+n).toNat else none
noncomputable def atI(xs:List α)(i:Int):Option α:=(ixN xs.length i).bind fun j=>xs[j]?
noncomputable def cutAt(n d:Nat):Option Int->Nat
 |none=>d
 |some i=>if 0<=i then min i.toNat n else(i+n).toNat
noncomputable def cut(xs:List α)(lo hi:Option Int):List α:=(xs.drop<|cutAt xs.length 0 lo).take<|cutAt xs.length xs.length hi - cutAt xs.length 0 lo
noncomputable def lsOf:Option Ob->Option (List Val)
 |some (.lst xs)=>some xs
 |_=>none
@[simp] theorem YM{xs:List Val}:lsOf (some<|.lst xs)=some xs:=rfl
noncomputable def XG(h:Hs):Val->Option (List Val)
 |.ref a=>lsOf<|h a
 |.tup xs=>some xs
 |.scr ns=>some<|ns.map .int
 |_=>none
noncomputable def UU:Option Ob->Option (List<|Val×Val)
 |some (.dct kvs)=>some kvs
 |_=>none
noncomputable def lookK(kvs:List<|Val×Val)(k:Val):Option Val:=(kvs.find? fun p=>p.1==k).map (·.2)
noncomputable def hasK(kvs:List<|Val×Val)(k:Val):Bool:=kvs.any fun p=>p.1==k
noncomputable def putK(kvs:List<|Val×Val)(k v:Val):List<|Val×Val:=if hasK kvs k then kvs.map fun p=>if p.1==k then(k,v)else p else kvs++[(k,v)]
noncomputable def dropK(kvs:List<|Val×Val)(k:Val):List<|Val×Val:=kvs.filter fun p=>!(p.1==k)
noncomputable def isKey:Val->Bool
 |.int _=>true
 |.str _=>true
 |_=>false
inductive D where
 |non|bl (b:Bool)|int (i:Int)|str (s:String)|tup (ds:List D)|lst (ds:List D)
 deriving Inhabited
mutual
noncomputable def D.eqv:D->D->Bool
 |.non,.non=>true
 |.bl a,.bl b=>a==b
 |.bl a,.int i=>(if a then 1 else 0)==i
 |.int i,.bl a=>i==(if a then 1 else 0)
 |.int a,.int b=>a==b
 |.str a,.str b=>a==b
 |.tup a,.tup b=>D.eqvs a b
 |.lst a,.lst b=>D.eqvs a b
 |_,_=>false
noncomputable def D.eqvs:List D->List D->Bool
 |[],[]=>true
 |x::xs,y::ys=>D.eqv x y&&D.eqvs xs ys
 |_,_=>false
end
noncomputable def dat(h:Hs):Nat->Val->Option D
 |_,.non=>some .non
 |_,.bl b=>some<|.bl b
 |_,.int i=>some<|.int i
 |_,.str s=>some<|.str s
 |0,_=>none
 |n+1,.tup xs=>(xs.mapM<|dat h n).map .tup
 |n+1,.ref a=>(lsOf<|h a).bind fun xs=>(xs.mapM<|dat h n).map .lst
 |n+1,.scr ns=>some<|.lst<|ns.map .int
 |_+1,.key _ _=>none
noncomputable def deep:Nat:=12
noncomputable def eqV(h:Hs)(v u:Val):Option Bool:=(dat h deep v).bind fun d=>(dat h deep u).map fun e=>D.eqv d e
noncomputable def intsOf:List Val->Option (List Int)
 |[]=>some []
 |.int i::xs=>(intsOf xs).map (i :: ·)
 |_=>none
noncomputable def lexI:List Int->List Int->Bool
 |[],[]=>false
 |[],_::_=>true
 |_::_,[]=>false
 |x::xs,y::ys=>if x=y then lexI xs ys else decide (x<y)
noncomputable def ltV:Val->Val->Option Bool
 |.int i,.int j=>some<|decide (i<j)
 |.tup xs,.tup ys=>(intsOf xs).bind fun ns=>(intsOf ys).map fun ms=>lexI ns ms
 |_,_=>none
noncomputable def inL(h:Hs)(x:Val)(ys:List Val):Option Bool:=(dat h deep x).bind fun d=>(ys.mapM<|dat h<|deep - 1).map fun ds=>ds.any fun e=>D.eqv e d
noncomputable def leV:Val->Val->Option Bool
 |.int i,.int j=>some<|decide (i<=j)
 |_,_=>none
noncomputable def isKeyT:Val->Bool
 |.key _ _=>true
 |_=>false
noncomputable def inV(h:Hs)(v u:Val):Option Bool:=match u with
 |.tup xs=>inL h v xs
 |.ref a=>match h a with
  |some (.lst xs)=>inL h v xs
  |some (.dct kvs)=>if isKey v then some (hasK kvs v)else none
  |some (.frz kvs)=>if isKey v then some (hasK kvs v)else none
  |some (.dtp kvs)=>if isKeyT v then some (hasK kvs v)else none
  |_=>none
 |.str t=>(match v with|.str s=>(oneC s).map fun c=>decide (c∈t.toList)|_=>none)
 |_=>none
noncomputable def isV(v u:Val):Option Bool:=match u with
 |.non=>some<|decide (v=.non)
 |.bl b=>some<|decide (v=.bl b)
 |_=>none
noncomputable def samL(f:Val->Val->Bool):List Val->List Val->Bool
 |[],[]=>true
 |x::xs,y::ys=>f x y&&samL f xs ys
 |_,_=>false
noncomputable def sam(h:Hs):Nat->Val->Val->Bool
 |_,.non,.non=>true
 |_,.bl a,.bl b=>a==b
 |_,.int a,.int b=>a==b
 |_,.str a,.str b=>a==b
 |0,.ref a,.ref b=>a==b
 |n+1,.tup xs,.tup ys=>samL (sam h n) xs ys
 | n+1,.ref a,.ref b=>a == b||(match lsOf (h a),lsOf (h b)with
   |some xs,some ys=>samL (sam h n) xs ys
   | _,_=>false)
 |_,_,_=>false
noncomputable def asLst(h:Hs):Val->Option (List Val)
 |.ref a=>lsOf<|h a
 |_=>none
noncomputable def noPairs:Option Ob->Bool
 |some (.dct [])=>true
 |_=>false
noncomputable def sam0(h:Hs)(v u:Val):Bool:=(match asLst h v,asLst h u with
    |some xs,some ys=>samL (sam h 8) xs ys
    |_,_=>false)||(match v,u with
    |.ref a,.ref b=>a==b&&noPairs (h a)
    | _,_=>false)
noncomputable def cmpV(h:Hs)(op:Cop)(v u:Val):Option Bool:=match op with
 |.eq=>eqV h v u
 |.ne=>(eqV h v u).map (!·)
 |.lt=>ltV v u
 |.gt=>ltV u v
 |.le=>leV v u
 |.ge=>leV u v
 |.isin=>inV h v u
 |.notin=>(inV h v u).map (!·)
 |.is=>isV v u
 |.isnot=>(isV v u).map (!·)
 |.nes=>(asLst h v).bind fun xs=>(asLst h u).bind fun ys=>if samL (sam h 8) xs ys then some false else none
 |.eqE=>(asLst h v).bind fun xs=>(asLst h u).bind fun ys=>if ys.isEmpty then some xs.isEmpty else none
 |.neE=>(asLst h v).bind fun xs=>(asLst h u).bind fun ys=>if ys.isEmpty then some (!xs.isEmpty)else none
 |.neX=>if sam0 h v u=true then some false else(eqV h v u).map (!·)
 |.ntT=>match v,u with
  |.bl a,.bl b=>some<|a != b
  |_,_=>none
noncomputable def X1(h:Hs):Val->Option Bool
 |.bl b=>some b
 |.int i=>some<|decide (i≠0)
 |.non=>some false
 |.str s=>if s.length<=lim then some (decide (s.length≠0))else none
 |.tup xs=>some (!xs.isEmpty)
 |.scr ns=>some (!ns.isEmpty)
 |.ref a=>match h a with
  |some (.lst xs)=>some (!xs.isEmpty)
  |some (.dct kvs)=>some (!kvs.isEmpty)
  |_=>none
 |.key _ _=>none
def mulOk(i j:Int):Prop:=(i.natAbs<2 ^ 64\/j.natAbs<2 ^ 64)\/(i.natAbs<=10 ^ 200/\j.natAbs<=10 ^ 200)
instance (i j:Int):Decidable<|mulOk i j:=inferInstanceAs<|Decidable<|_\/_
@[irreducible] noncomputable def new(h:Hs)(o:Ob)(Q:Q1):Prop:=∀p,h p=none->Q (.ref p) (upd h p o)
variable {Q:Q1}
theorem Zn(q:∀p,h p=none->Q (.ref p) (upd h p o)):new h o Q:=by unfold new;exact q
inductive Rs where|val (v:Val)|new (o:Ob)|no
@[irreducible] noncomputable def Rs.wp(r:Rs)(h:Hs)(Q:Q1):Prop:=match r with|.val v=>Q v h|.new o=>Own.new h o Q|.no=>False
@[simp] theorem Rs.wp_val{v:Val}:(Rs.val v).wp h Q=Q v h:=by unfold Rs.wp;rfl
@[simp] theorem Rs.wp_new:(Rs.new o).wp h Q=Own.new h o Q:=by unfold Rs.wp;rfl
@[simp] theorem Rs.wp_no:Rs.no.wp h Q=False:=by unfold Rs.wp;rfl
noncomputable def Rs.ofO:Option Val->Rs
 |some v=>.val v
 |none=>.no
noncomputable def Rs.lst(xs:List Val):Rs:=if xs.length<=lim then .new (.lst xs)else .no
noncomputable def addV(h:Hs):Val->Val->Rs
 |.int i,.int j=>.val<|.int<|i+j
 |.str s,.str t=>if s.length+t.length<=lim then .val (.str<|s++t)else .no
 |.tup xs,.tup ys=>if xs.length+ys.length<=lim then .val (.tup<|xs++ys)else .no
 |.ref a,.ref b=>match h a,h b with
  |some (.lst xs),some (.lst ys)=>Rs.lst<|xs++ys
  |_,_=>.no
 |_,_=>.no
noncomputable def repT(s:String)(n:Nat):String:=Í (Ë n s.toList).flatten
noncomputable def mulV(h:Hs):Val->Val->Rs
 |.int i,.int j=>if mulOk i j then .val (.int<|i*j)else .no
 |.ref a,.int k=>match h a with
  |some (.lst xs)=>if -(2 ^ 62)<k/\k<2 ^ 62/\xs.length*k.toNat<=lim then Rs.lst (Ë k.toNat xs).flatten else .no
  |_=>.no
 |.str s,.int k=>if 2<=k/\k<=1000000/\1<=s.length/\s.length*k.toNat<=lim then .val (.str<|repT s k.toNat)else .no
 |_,_=>.no
noncomputable def intV(f:Int->Int->Rs):Val->Val->Rs
 |.int i,.int j=>f i j
 |_,_=>.no
noncomputable def binV(h:Hs)(op:Bop)(v u:Val):Rs:=match op with
 |.add=>addV h v u
 |.sub=>intV (fun i j=>.val<|.int<|i - j) v u
 |.mul=>mulV h v u
 |.fdiv=>intV (fun i j=>if 0<j/\j<1073741824 then .val (.int<|i / j)else .no) v u
 |.mod=>intV (fun i j=>if 0<j then .val (.int<|i % j)else .no) v u
 |.pow=>intV (fun i j=>if 0<=j/\j<=1000000/\i.natAbs<2 ^ 64 then .val (.int<|i ^ j.toNat)else .no) v u
noncomputable def asInt:Val->Option Int
 |.int i=>some i
 |_=>none
noncomputable def idxV(h:Hs):Val->Val->Option Val
 |.tup xs,.int k=>atI xs k
 |.str s,.int k=>if s.length<=lim then(atI s.toList k).map fun c=>.str (Ù c)else none
 |.ref a,k=>match h a with
  |some (.lst xs)=>(asInt k).bind<|atI xs
  |some (.dct kvs)=>if isKey k then lookK kvs k else none
  |some (.frz kvs)=>if isKey k then lookK kvs k else none
  |some (.dtp kvs)=>if isKeyT k then lookK kvs k else none
  |_=>none
 |.scr ns,.int i=>atI (ns.map .int) i
 |_,_=>none
noncomputable def slcV(h:Hs)(v:Val)(lo hi:Option Int):Rs :=
 match v with
 |.tup xs=>if cutAt xs.length 0 lo=0/\cutAt xs.length xs.length hi=xs.length then .val (.tup xs)else .val (.tup<|cut xs lo hi)
 |.ref a=>match lsOf (h a)with
  |some xs=>.new<|.lst<|cut xs lo hi
  |none=>.no
 |.scr ns=>.new<|.lst<|cut (ns.map .int) lo hi
 |.str s=>if s.length<=lim then .val (.str<|Í<|cut s.toList lo hi)else .no
 |_=>.no
noncomputable def sortI(ns:List Int):List Int:=ns.mergeSort fun a b=>decide (a<=b)
noncomputable def blsOf:List Val->Option (List Bool)
 |[]=>some []
 |.bl b::xs=>(blsOf xs).map (b :: ·)
 |_=>none
noncomputable def minL:List Val->Option Val
 |[]=>none
 |x::xs=>xs.foldl (fun m y=>m.bind fun b=>(ltV y b).map fun c=>if c then y else b)<|some x
noncomputable def maxL:List Val->Option Val
 |[]=>none
 |x::xs=>xs.foldl (fun m y=>m.bind fun b=>(ltV b y).map fun c=>if c then y else b)<|some x
noncomputable def N4:List Int->List Int
 |[]=>[]
 |x::xs=>x::(N4 xs).filter (· != x)
noncomputable def excSub(c d:String):Bool:=c==d||d == "ShutError" || d == "ValueError" || d == "Exception"
noncomputable def kindV(h:Hs):Val->Option String
 |.non=>some "NoneType"
 |.bl _=>some "bool"
 |.int _=>some "int"
 |.str _=>some "str"
 |.tup _=>some "tuple"
 |.scr _=>some "list"
 |.ref a=>match h a with
  |some (.lst _)=>some "list"
  |some (.dct _)=>some "dict"
  |_=>none
 |.key _ _=>none
noncomputable def isiV(h:Hs)(v:Val)(T:String):Option Bool:=(kindV h v).map fun t=>t==T||(t == "bool" && T == "int")
noncomputable def excOf:Option Ob->Option String
 |some (.exc c)=>some c
 |_=>none
noncomputable def excV(h:Hs):Val->Option String
 |.ref a=>excOf<|h a
 |_=>none
noncomputable def GV(h:Hs)(C:String):Val->Option Val
 |.ref a=>match h a with
  |some (.ins D _)=>if D=C then some (.bl true)else none
  |_=>none
 |_=>none
noncomputable def isiAny(h:Hs)(v:Val):List String->Option Bool
 |[]=>some false
 |T::Ts=>(isiV h v T).bind fun b=>(isiAny h v Ts).map (b || ·)
noncomputable def Mf(h:Hs):List Val->Option (List<|Val×Val)
 |[]=>some []
 |v::vs=>match v with
  |.tup [k,x]=>if isKey k then(Mf h vs).map ((k,x) :: ·)else none
  |_=>none
noncomputable def Jl:List Val->Option (List<|Val×Val)
 |[]=>some []
 |k::v::r=>if isKey k then(Jl r).map ((k,v) :: ·)else none
 |_=>none
noncomputable def XR(kvs:List<|Val×Val):List (Val×Val)->List (Val×Val)
 |[]=>kvs
 |(k,v)::r=>XR (putK kvs k v) r
noncomputable def lenV(h:Hs):Val->Rs
 |.ref a=>match h a with
  |some (.lst xs)=>.val<|.int xs.length
  |some (.dct kvs)=>.val<|.int kvs.length
  |_=>.no
 |.tup xs=>.val<|.int xs.length
 |.scr ns=>.val<|.int ns.length
 |.str s=>if s.length<=lim then .val (.int s.length)else .no
 |_=>.no
noncomputable def EH:Val->Rs
 |.int i=>.val<|.int i
 |.bl b=>.val (.int<|if b then 1 else 0)
 |.str s=>if s.length<=640/\s.toList≠[]/\s.toList.all figB=true then .val (.int<|decN s.toList)else .no
 |_=>.no
noncomputable def C5:Val->Rs
 |.bl b=>.val<|.bl b
 |_=>.no
noncomputable def Fv:Val->Rs
 |.str s=>.val<|.str s
 |.int i=>if i.natAbs<10 ^ 200 then .val (.str<|Zf i)else .no
 |_=>.no
noncomputable def absV:Val->Rs
 |.int i=>.val (.int<|if i<0 then -i else i)
 |_=>.no
noncomputable def biOf1(f:Val->Rs):List Val->Rs
 |[v]=>f v
 |_=>.no
noncomputable def biOf2(f:Val->Val->Rs):List Val->Rs
 |[v,u]=>f v u
 |_=>.no
noncomputable def Jc:List Val->Option (List<|List Int)
 |[]=>some []
 |.tup xs::r=>(intsOf xs).bind fun ns=>(Jc r).map (ns :: ·)
 |_=>none
noncomputable def Er(b:List Int):List (List Int)->List Int
 |[]=>b
 |y::r=>Er (if lexI y b then y else b) r
noncomputable def DF(h:Hs)(v:Val):Rs:=match v with
 |.ref a=>match (lsOf<|h a).bind Jc with
  |some []=>.val .non
  |some (x::r)=>.val<|.tup<|(Er x r).map .int
  |none=>.no
 |_=>.no
noncomputable def min2V:Val->Val->Rs
 |.int i,.int j=>.val (.int<|if j<i then j else i)
 |.tup xs,.tup ys=>match intsOf xs,intsOf ys with
  |some ns,some ms=>.val (if lexI ms ns=true then .tup ys else .tup xs)
  |_,_=>.no
 |_,_=>.no
noncomputable def HE(h:Hs):Val->Rs
 |.ref a=>.ofO<|(lsOf<|h a).bind fun xs=>(blsOf xs).map fun bs=>.bl<|bs.any id
 |_=>.no
noncomputable def GC(h:Hs):Val->Rs
 |.ref a=>.ofO<|(lsOf<|h a).bind fun xs=>(blsOf xs).map fun bs=>.bl<|bs.all id
 |_=>.no
noncomputable def O3(h:Hs):Val->Option (List Int)
 |.ref a=>(lsOf<|h a).bind intsOf
 |.scr ns=>some ns
 |_=>none
noncomputable def DW(kvs:List<|Val×Val):Option<|List Int:=intsOf (kvs.map (·.1))
noncomputable def K2(h:Hs)(v:Val):Option<|List Int:=match v with
 |.ref a=>match h a with
  |some (.lst xs)=>intsOf xs
  |some (.dct kvs)=>DW kvs
  |_=>none
 |.scr ns=>some ns
 |_=>none
noncomputable def FA(Ω:List<|List Int):List<|List Int:=Ω.mergeSort fun a b=>!lexI b a
noncomputable def Dm(h:Hs)(v:Val):Option<|List<|List Int:=match v with
 |.ref a=>(lsOf<|h a).bind Jc
 |_=>none
noncomputable def Nf(h:Hs)(v:Val):Rs:=match Dm h v with
 |some Ω=>if Ω.length<64/\(Ω.all fun r=>!r.isEmpty)=true then .new (.lst<|(FA Ω).map fun r=>.tup<|r.map .int)else .no
 |none=>.no
noncomputable def NS(h:Hs)(v:Val):Rs:=match K2 h v with
 |some ns=>if ns.length<64 then .new (.lst<|(sortI ns).map .int)else .no
 |none=>Nf h v
noncomputable def Nv(h:Hs)(v:Val):Rs:=match K2 h v with
 |some ns=>if ns.length<64 then .new (.lst<|(sortI ns).map .int)else .no
 |none=>.no
noncomputable def JO(h:Hs)(v:Val):Rs:=match O3 h v with
 |some ns=>if ns.length<64 then .new (.lst<|(sortI<|N4 ns).map .int)else .no
 |none=>.no
noncomputable def UJ(h:Hs)(v:Val):Rs:=match O3 h v with
 |some ns=>if ns.length<4000 then .val (.int (N4 ns).length)else .no
 |none=>.no
noncomputable def toList(h:Hs):Val->Rs
 |.ref a=>match h a with
  |some (.lst xs)=>.new<|.lst xs
  |_=>.no
 |.tup xs=>.new<|.lst xs
 |_=>.no
noncomputable def W1(h:Hs):Val->Rs
 |.ref a=>match h a with
  |some (.lst xs)=>.val<|.tup xs
  |_=>.no
 |.tup xs=>.val<|.tup xs
 |_=>.no
noncomputable def Dn(h:Hs):Val->Rs
 |.ref a=>match h a with
  |some (.dct kvs)=>.new<|.dct kvs
  |some (.lst xs)=>match Mf h xs with
   |some kvs=>.new<|.dct<|XR [] kvs
   |none=>.no
  |_=>.no
 |_=>.no
noncomputable def BN:Nat->List Val->List (Val×Val)
 |_,[]=>[]
 |k,x::xs=>(.int (k:Nat),x)::BN (k+1) xs
noncomputable def AJ:Val->Rs
 |.tup xs=>.new<|.dct<|BN 0 xs
 |_=>.no
noncomputable def Gw:List Int->Int
 |[]=>0
 |x::r=>r.foldl (fun a b=>if b<a then b else a) x
noncomputable def Hv:List Int->Int
 |[]=>0
 |x::r=>r.foldl (fun a b=>if b > a then b else a) x
noncomputable def Ut(h:Hs):Val->Option (List Int)
 |.ref a=>(lsOf<|h a).bind intsOf
 |_=>none
noncomputable def NI:Val->Option (Int×Int)
 |.tup [.int i,.int j]=>some (i,j)
 |_=>none
noncomputable def Nh(h:Hs)(v:Val):Rs:=match asLst h v with
 |some xs=>.new<|.lst xs.reverse
 |none=>.no
noncomputable def DL:Val->Rs
 |.int k=>if 0<=k/\k<=1000 then .new (.lst<|(List.range k.toNat).map fun n=>.int (n:Nat))else .no
 |_=>.no
noncomputable def Ej:Val->Rs
 |.int k=>if 0<=k/\k<=1000 then .val (.tup<|(List.range k.toNat).map fun n=>.int (n:Nat))else .no
 |_=>.no
noncomputable def Hh:Val->Option (List Int)
 |.tup xs=>intsOf xs
 |_=>none
noncomputable def DX(h:Hs)(v:Val):Rs:=match NI v with
 |some p=>.val (.int<|if p.2<p.1 then p.2 else p.1)
 |none=>match (Hh v).or (Ut h v)with
  |some (x::r)=>.val<|.int<|Gw<|x::r
  |_=>match (asLst h v).bind Jc with
   |some (x::r)=>.val<|.tup<|(Er x r).map .int
   |_=>.no
noncomputable def CF(h:Hs)(v:Val):Rs:=match NI v with
 |some p=>.val (.int<|if p.2 > p.1 then p.2 else p.1)
 |none=>match Ut h v with
  |some (x::r)=>.val<|.int<|Hv<|x::r
  |_=>.no
noncomputable def biV(h:Hs)(b:Bi)(vs:List Val):Rs:=match b with
 |.len=>biOf1 (lenV h) vs
 |.int=>biOf1 EH vs
 |.str=>biOf1 Fv vs
 |.bool=>biOf1 C5 vs
 |.abs=>biOf1 absV vs
 |.min2=>biOf2 min2V vs
 |.max2=>biOf2 (intV fun i j=>.val<|.int<|if j > i then j else i) vs
 |.minL=>biOf1 (DX h) vs
 |.maxL=>biOf1 (CF h) vs
 |.minD=>biOf1 (DF h) vs
 |.sum=>biOf1 (fun v=>.ofO<|(XG h v).bind fun xs=>(intsOf xs).map fun ns=>.int ns.sum) vs
 |.all=>biOf1 (GC h) vs
 |.any=>biOf1 (HE h) vs
 |.sorted=>biOf1 (NS h) vs
 |.sortedI=>biOf1 (Nv h) vs
 |.sortedSet=>biOf1 (JO h) vs
 |.lenSet=>biOf1 (UJ h) vs
 |.list=>biOf1 (toList h) vs
 |.tuple=>biOf1 (W1 h) vs
 |.dict=>biOf1 (Dn h) vs
 |.isi Ts=>biOf1 (fun v=>.ofO<|(isiAny h v Ts).map .bl) vs
 |.isx Ts=>biOf1 (fun v=>.ofO<|(excV h v).map fun c=>.bl<|Ts.any<|excSub c) vs
 |.isc C=>biOf1 (fun v=>.ofO<|GV h C v) vs
 |.repr=>.no
 |.listRev=>biOf1 (Nh h) vs
 |.listRange=>biOf1 DL vs
 |.tupRange=>biOf1 Ej vs
 |.dictEnum=>biOf1 AJ vs
noncomputable def bmL(h:Hs)(v:Val)(f:Ad->List Val->Option (Val×Hs)):Option<|Val×Hs:=match v with
 |.ref a=>(lsOf<|h a).bind<|f a
 |_=>none
noncomputable def bmD(h:Hs)(v:Val)(f:Ad->List (Val×Val)->Option (Val×Hs)):Option<|Val×Hs:=match v with
 |.ref a=>(UU<|h a).bind<|f a
 |_=>none
noncomputable def NM(h:Hs)(vs:List Val)(a:Ad)(xs:List Val):Option<|Val×Hs:=match vs with
 |[v]=>if xs.length<lim then some (.non,upd h a<|.lst<|xs++[v])else none
 |_=>none
noncomputable def UV(h:Hs)(vs:List Val)(a:Ad)(xs:List Val):Option<|Val×Hs:=match vs with
 |[.ref b]=>(lsOf<|h b).bind fun ys=>if xs.length+ys.length<=lim then some (.non,upd h a<|.lst<|xs++ys)else none
 |_=>none
noncomputable def EN(h:Hs)(vs:List Val)(a:Ad)(xs:List Val):Option<|Val×Hs:=match vs with
 |[]=>(xs[xs.length - 1]?).map fun v=>(v,upd h a<|.lst xs.dropLast)
 |_=>none
noncomputable def bmPopAt(h:Hs)(vs:List Val)(a:Ad)(xs:List Val):Option<|Val×Hs:=match vs with
 |[.int i]=>if -(2 ^ 62)<i/\i<2 ^ 62 then(ixN xs.length i).bind fun k=>(xs[k]?).map fun v=>(v,upd h a<|.lst<|xs.eraseIdx k)else none
 |_=>none
noncomputable def Ud(h:Hs)(vs:List Val)(a:Ad)(xs:List Val):Option<|Val×Hs:=match vs with
 |[.int i,v]=>if 0<=i/\i<=xs.length/\xs.length<lim then some (.non,upd h a<|.lst<|xs.take i.toNat++v::xs.drop i.toNat)else none
 |_=>none
noncomputable def OT(h:Hs)(vs:List Val)(a:Ad)(xs:List Val):Option<|Val×Hs:=match vs with
 |[.int i]=>(intsOf xs).bind fun ns=>if i∈ns then some (.non,upd h a<|.lst<|(ns.erase i).map .int)else none
 |_=>none
noncomputable def A2(h:Hs)(vs:List Val)(a:Ad)(xs:List Val):Option<|Val×Hs:=match vs with
 |[]=>some (.non,upd h a<|.lst [])
 |_=>none
noncomputable def MZ(h:Hs)(vs:List Val)(a:Ad)(xs:List Val):Option<|Val×Hs:=match vs with
 |[]=>some (.non,upd h a<|.lst xs.reverse)
 |_=>none
noncomputable def bmJoin(h:Hs)(v:Val)(vs:List Val):Option<|Val×Hs:=match v,vs with
 |.str ŭ,[.ref a]=>(lsOf<|h a).bind fun xs=>(strsOf xs).bind fun ss=>if(ss.map String.length).sum+ss.length*ŭ.length<=lim then some (.str<|joinS ŭ ss,h)else none
 |_,_=>none
noncomputable def Aq(h:Hs)(v:Val)(vs:List Val):Option<|Val×Hs:=match vs with
 |[.int i]=>((XG h v).bind intsOf).bind fun ns=>if i∈ns then some (.int<|ns.idxOf i,h)else none
 |_=>none
noncomputable def ES(h:Hs)(vs:List Val)(a:Ad)(kvs:List<|Val×Val):Option<|Val×Hs:=match vs with
 |[k]=>if isKey k then some ((lookK kvs k).getD .non,h)else none
 |_=>none
noncomputable def DQ(h:Hs)(vs:List Val)(a:Ad)(kvs:List<|Val×Val):Option<|Val×Hs:=match vs with
 |[k,d]=>if isKey k then some ((lookK kvs k).getD d,h)else none
 |_=>none
noncomputable def HG(h:Hs):Val->Option (List<|Val×Val)
 |.ref a=>match h a with
  |some (.dtp kvs)=>some kvs
  |_=>none
 |_=>none
noncomputable def DC(h:Hs)(vs:List Val)(kvs:List<|Val×Val):Option<|Val×Hs:=match vs with
 |[k,d]=>if isKeyT k then some ((lookK kvs k).getD d,h)else none
 |_=>none
noncomputable def D4(h:Hs)(v:Val)(vs:List Val):Option<|Val×Hs:=match HG h v with
 |some kvs=>DC h vs kvs
 |none=>bmD h v<|DQ h vs
noncomputable def EE(h:Hs)(vs:List Val)(a:Ad)(kvs:List<|Val×Val):Option<|Val×Hs:=match vs with
 |[k]=>if isKey k then(lookK kvs k).map fun v=>(v,upd h a<|.dct<|dropK kvs k)else none
 |_=>none
noncomputable def Bg(h:Hs)(vs:List Val)(a:Ad)(kvs:List<|Val×Val):Option<|Val×Hs:=match vs with
 |[k,d]=>if isKey k then some ((lookK kvs k).getD d,upd h a<|.dct<|dropK kvs k)else none
 |_=>none
noncomputable def Dt(h:Hs)(v:Val)(vs:List Val):Option<|Val×Hs:=match v,vs with
 |.str t,[.str s]=>if t = "0123456789" then(oneC s).bind fun c=>if figB c=true then some (.int ((c.toNat - 48:Nat):Int),h)else none else none
 |_,_=>none
noncomputable def bmV(h:Hs)(m:Bm)(v:Val)(vs:List Val):Option<|Val×Hs:=match m with
 |.append=>bmL h v<|NM h vs
 |.extend=>bmL h v<|UV h vs
 |.pop=>bmL h v<|EN h vs
 |.popAt=>bmL h v<|bmPopAt h vs
 |.insert=>bmL h v<|Ud h vs
 |.remove=>bmL h v<|OT h vs
 |.clear=>bmL h v<|A2 h vs
 |.reverse=>bmL h v<|MZ h vs
 |.index=>Aq h v vs
 |.join=>bmJoin h v vs
 |.sidx=>Dt h v vs
 |.dget=>bmD h v<|ES h vs
 |.dgetD=>D4 h v vs
 |.dpop=>bmD h v<|EE h vs
 |.dpopD=>bmD h v<|Bg h vs
 |.count=>none
 |.setdefault=>none
 |.split=>none
 |.replace=>none
 |.upper=>none
 |.partition=>none
noncomputable def isLst:Option Ob->Bool
 |some (.lst _)=>true
 |_=>false
noncomputable def BL:Option Ob->Bool
 |some (.dct _)=>true
 |some (.dtp _)=>true
 |_=>false
inductive Ty where|l|d|s|t
noncomputable def Bm.ty:Bm->Ty
 |.dget=>.d
 |.dgetD=>.d
 |.dpop=>.d
 |.dpopD=>.d
 |.setdefault=>.d
 |.join=>.s
 |.split=>.s
 |.replace=>.s
 |.upper=>.s
 |.partition=>.s
 |.sidx=>.s
 |.index=>.t
 |_=>.l
noncomputable def XX(p:Option Ob->Bool)(h:Hs):Val->Bool
 |.ref a=>p<|h a
 |_=>false
noncomputable def C6:Val->Bool
 |.str _=>true
 |_=>false
noncomputable def Df:Val->Bool
 |.tup _=>true
 |_=>false
noncomputable def bmTy(h:Hs)(m:Bm)(v:Val):Bool:=match m.ty with
 |.l=>XX isLst h v
 |.d=>XX BL h v
 |.s=>C6 v
 |.t=>XX isLst h v||Df v
noncomputable def putF:List (String×Val)->String->Val->List (String×Val)
 |[],f,v=>[(f,v)]
 |(g,x)::r,f,v=>if g=f then(g,v)::r else(g,x)::putF r f v
noncomputable def getV(env:Env)(i:Nat):Option Val:=match env[i]? with
 |some (some v)=>some v
 |_=>none
noncomputable def asBl:Val->Option Bool
 |.bl b=>some b
 |_=>none
noncomputable def Yk:Val->Option Ad
 |.ref a=>some a
 |_=>none
noncomputable def MH:Option Ob->Option (String×List (String×Val))
 |some (.ins C fs)=>some (C,fs)
 |_=>none
noncomputable def Fe:Val->Option (Val×Val)
 |.tup [x,y]=>some (x,y)
 |_=>none
noncomputable def tupOf:Val->Option (List Val)
 |.tup xs=>some xs
 |_=>none
noncomputable def bindL:List Nat->List Val->Env->Option Env
 |[],[],env=>some env
 |i::is,x::xs,env=>bindL is xs<|env.set i<|some x
 |_,_,_=>none
noncomputable def bind(p:Pt)(h:Hs)(v:Val)(env:Env):Option Env :=
 match p with
 |.one i=>some<|env.set i<|some v
 |.many is=>(tupOf v).bind fun xs=>bindL is xs env
 |.nest i is=>(tupOf v).bind fun xs=>match xs with
  |[x,y]=>(tupOf y).bind fun ys=>bindL is ys<|env.set i<|some x
  |_=>none
def wComp(st:Hs->Prop)(step:Val->Hs->(Option Val->Hs->Prop)->XQ->Prop):List Val->List Val->Hs->(List Val->Hs->Prop)->XQ->Prop
 |[],ĵ,h,Q,_=>st h/\Q ĵ h
 |v::vs,ĵ,h,Q,X=>st h/\step v h (fun r h'=>wComp st step vs (ĵ++r.toList) h' Q X) X
noncomputable def Ca:Nat->List Val->List Val
 |_,[]=>[]
 |k,x::xs=>.tup [.int k,x]::Ca (k+1) xs
noncomputable def Eg:List Val->List Val->List Val
 |x::xs,y::ys=>.tup [x,y]::Eg xs ys
 |_,_=>[]
noncomputable def strL(s:String):List Val:=s.toList.map fun c=>.str<|Ù c
noncomputable def itV(h:Hs):Val->Option ((Hs->Prop)×List Val)
 |.tup xs=>some (fun _=>True,xs)
 |.scr ns=>some (fun _=>True,ns.map .int)
 |.ref a=>(lsOf<|h a).map fun xs=>(fun g=>lsOf (g a)=some xs,xs)
 |_=>none
noncomputable def GH(h:Hs):Val->Val->Option ((Hs->Prop)×List Val)
 |.tup xs,.tup ys=>some (fun _=>True,Eg xs ys)
 |.ref p,.ref q=>(lsOf<|h p).bind fun xs=>(lsOf<|h q).map fun ys=>(fun g=>lsOf (g p)=some xs/\lsOf (g q)=some ys,Eg xs ys)
 |_,_=>none
noncomputable def UW(k:Bool)(p:Val×Val):Val:=if k then p.1 else .tup [p.1,p.2]
noncomputable def rangeV(i j:Int):List Val:=(List.range (j - i).toNat).map fun(k:Nat)=>.int<|i+k
noncomputable def Nk(h:Hs)(o k v:Val):Option Hs :=
 match o with
 |.ref p=>match h p with
  |some (.lst xs)=>(asInt k).bind fun n=>(ixN xs.length n).map fun j=>upd h p<|.lst<|xs.set j v
  |some (.dct kvs)=>if isKey k/\kvs.length<lim then some (upd h p<|.dct<|putK kvs k v)else none
  |some (.dtp kvs)=>if isKeyT k/\kvs.length<lim then some (upd h p<|.dtp<|putK kvs k v)else none
  |_=>none
 |_=>none
noncomputable def K4(h:Hs)(o:Val)(f:String)(v:Val):Option Hs :=
 match o with
 |.ref p=>match h p with
  |some (.ins C fs)=>if fs.length<900 then some (upd h p<|.ins C<|putF fs f v)else none
  |_=>none
 |_=>none
noncomputable def AS(h:Hs)(o:Val)(f:String):Option Val:=(Yk o).bind fun a=>(MH<|h a).bind fun p=>p.2.lookup f
noncomputable def Bs(h:Hs)(o:Val)(m:String):Option String:=(Yk o).bind fun a=>(MH<|h a).bind fun p=>if(p.2.lookup m).isNone then some p.1 else none
noncomputable def Ag(op:Bop)(x y:Val):Option Val:=match op,x,y with
 |.add,.int i,.int j=>some<|.int<|i+j
 |.sub,.int i,.int j=>some<|.int<|i - j
 |_,_,_=>none
@[irreducible] noncomputable def MX(F:Hs->(List Val->Hs->Prop)->XQ->Prop)(h:Hs)(Q:Q1)(X:XQ):Prop:=new h (.dct []) fun r h1=>go (Yk r) fun p=>F h1 (fun vs h2=>go (Jl vs) fun kvs=>h2 p=some (.dct [])/\Q (.ref p) (upd h2 p<|.dct<|XR [] kvs)) X
mutual
@[reducible] noncomputable def xE(Φ:Fs):E->Env->Hs->Q1->XQ->Prop
 |.cst v,_,h,Q,_=>Q v h
 |.glob _ v,_,h,Q,_=>Q v h
 |.var i,env,h,Q,_=>go (getV env i) fun v=>Q v h
 |.bin op a b,env,h,Q,X=>xE Φ a env h (fun v h1=>xE Φ b env h1 (fun u h2=>(binV h2 op v u).wp h2 Q) X) X
 |.neg a,env,h,Q,X=>xE Φ a env h (fun v h1=>go (asInt v) fun i=>Q (.int (-i)) h1) X
 |.not a,env,h,Q,X=>xE Φ a env h (fun v h1=>go (asBl v) fun b=>Q (.bl (!b)) h1) X
 |.and a b,env,h,Q,X=>xE Φ a env h (fun v h1=>go (asBl v) fun c=>if c=true then xE Φ b env h1 Q X else Q (.bl false) h1) X
 |.or a b,env,h,Q,X=>xE Φ a env h (fun v h1=>go (asBl v) fun c=>if c=true then Q (.bl true) h1 else xE Φ b env h1 Q X) X
 |.cmp op a b,env,h,Q,X=>xE Φ a env h (fun v h1=>xE Φ b env h1 (fun u h2=>go (cmpV h2 op v u) fun c=>Q (.bl c) h2) X) X
 | .chain o1 o2 a b c,env,h,Q,X=>xE Φ a env h (fun v h1=>xE Φ b env h1 (fun u h2=>go (cmpV h2 o1 v u) fun k =>
     if k=true then xE Φ c env h2 (fun w h3=>go (cmpV h3 o2 u w) fun k2=>Q (.bl k2) h3) X else Q (.bl false) h2) X) X
 |.call f as,env,h,Q,X=>xA Φ as env h (fun vs h1=>Φ f vs h1 Q X) X
 |.make C as,env,h,Q,X=>xA Φ as env h (fun vs h1=>∀p,h1 p=none->Φ (C ++ ".__init__") (.ref p::vs) (upd h1 p<|.ins C []) (fun v h2=>v=.non/\Q (.ref p) h2) X) X
 |.meth C m o as,env,h,Q,X=>xE Φ o env h (fun v h1=>Bs h1 v m=some C/\xA Φ as env h1 (fun vs h2=>Φ (C ++ "." ++ m) (v::vs) h2 Q X) X) X
 |.fld o f,env,h,Q,X=>xE Φ o env h (fun v h1=>go (AS h1 v f) fun u=>Q u h1) X
 |.bi f as,env,h,Q,X=>xA Φ as env h (fun vs h1=>(biV h1 f vs).wp h1 Q) X
 |.bm m o as,env,h,Q,X=>xE Φ o env h (fun v h1=>bmTy h1 m v=true/\xA Φ as env h1 (fun vs h2=>go (bmV h2 m v vs) fun r=>Q r.1 r.2) X) X
 |.idx a i,env,h,Q,X=>xE Φ a env h (fun v h1=>xE Φ i env h1 (fun k h2=>go (idxV h2 v k) fun u=>Q u h2) X) X
 |.slc a lo hi,env,h,Q,X=>xE Φ a env h (fun v h1=>xO Φ lo env h1 (fun l h2=>xO Φ hi env h2 (fun u h3=>(slcV h3 v l u).wp h3 Q) X) X) X
 |.rev a,env,h,Q,X=>xE Φ a env h (fun v h1=>go (Yk v) fun p=>go (lsOf<|h1 p) fun xs=>new h1 (.lst xs.reverse) Q) X
 |.tup es,env,h,Q,X=>xA Φ es env h (fun vs h1=>Q (.tup vs) h1) X
 |.key es,env,h,Q,X=>xA Φ es env h (fun vs h1=>go (NI<|.tup vs) fun p=>Q (.key p.1 p.2) h1) X
 |.dctP,env,h,Q,X=>new h (.dtp []) Q
 |.lst es,env,h,Q,X=>xA Φ es env h (fun vs h1=>new h1 (.lst vs) Q) X
 |.dct es,env,h,Q,X=>MX (xA Φ es env) h Q X
 |.ife c a b,env,h,Q,X=>xT Φ c env h (fun k h1=>if k=true then xE Φ a env h1 Q X else xE Φ b env h1 Q X) X
 | .comp ç n p it c e,env,h,Q,X=>xI Φ it env h (fun st xs h1=>xs.length<lim/\
     wComp st (fun v h2 K X2=>go (bind p h2 v<|Ë n none++ç.map fun j=>(env[j]?).getD none) fun ĸ =>
       xT Φ c ĸ h2 (fun k h3=>if k=true then xE Φ e ĸ h3 (fun u h4=>K (some u) h4) X2 else K none h3) X2) xs [] h1 (fun ys h5=>new h5 (.lst ys) Q) X) X
 |.fstr es,env,h,Q,X=>xJ Φ es env h "" (fun s h1=>Q (.str s) h1) X
 |.split o a,env,h,Q,X=>xE Φ o env h (fun v h1=>go (asStr v) fun s=>xE Φ a env h1 (fun u h2=>go ((asStr u).bind oneC) fun c=>s.length+2<=lim/\new h2 (.lst<|(splitS c s).map .str) Q) X) X
 |.repl o y z,env,h,Q,X=>xE Φ o env h (fun v h1=>go (asStr v) fun s=>go (oneC y) fun c=>(s.length<=lim/\z.length<=8/\y≠z)/\Q (.str<|joinS z<|splitS c s) h1) X
@[reducible] noncomputable def xA(Φ:Fs):Es->Env->Hs->(List Val->Hs->Prop)->XQ->Prop
 |.nil,_,h,Q,_=>Q [] h
 |.cons e es,env,h,Q,X=>xE Φ e env h (fun v h1=>xA Φ es env h1 (fun vs h2=>Q (v::vs) h2) X) X
@[reducible] noncomputable def xJ(Φ:Fs):Es->Env->Hs->String->(String->Hs->Prop)->XQ->Prop
 |.nil,_,h,ĵ,Q,_=>Q ĵ h
 |.cons e es,env,h,ĵ,Q,X=>xE Φ e env h (fun v h1=>go (fmtV v) fun s=>ĵ.length+s.length<=lim/\xJ Φ es env h1 (ĵ++s) Q X) X
@[reducible] noncomputable def xO(Φ:Fs):Oe->Env->Hs->(Option Int->Hs->Prop)->XQ->Prop
 |.none,_,h,Q,_=>Q none h
 |.some e,env,h,Q,X=>xE Φ e env h (fun v h1=>go (asInt v) fun i=>Q (some i) h1) X
@[reducible] noncomputable def xT(Φ:Fs):Tt->Env->Hs->(Bool->Hs->Prop)->XQ->Prop
 |.yes,_,h,Q,_=>Q true h
 |.val e,env,h,Q,X=>xE Φ e env h (fun v h1=>go (X1 h1 v) fun k=>Q k h1) X
 |.not a,env,h,Q,X=>xT Φ a env h (fun k h1=>Q (!k) h1) X
 |.and a b,env,h,Q,X=>xT Φ a env h (fun k h1=>if k=true then xT Φ b env h1 Q X else Q false h1) X
 |.or a b,env,h,Q,X=>xT Φ a env h (fun k h1=>if k=true then Q true h1 else xT Φ b env h1 Q X) X
@[reducible] noncomputable def xI(Φ:Fs):It->Env->Hs->((Hs->Prop)->List Val->Hs->Prop)->XQ->Prop
 |.seq e,env,h,Q,X=>xE Φ e env h (fun v h1=>go (itV h1 v) fun p=>Q p.1 p.2 h1) X
 |.chars e,env,h,Q,X=>xE Φ e env h (fun v h1=>go (asStr v) fun s=>Q (fun _=>True) (strL s) h1) X
 |.range a,env,h,Q,X=>xE Φ a env h (fun v h1=>go (asInt v) fun n=>(-(2 ^ 62)<=n/\n<2 ^ 62)/\Q (fun _=>True) (rangeV 0 n) h1) X
 | .range2 a b,env,h,Q,X=>xE Φ a env h (fun v h1=>xE Φ b env h1 (fun u h2=>go (asInt v) fun i=>go (asInt u) fun j =>
     (-(2 ^ 62)<=i/\i<2 ^ 62/\-(2 ^ 62)<=j/\j<2 ^ 62)/\Q (fun _=>True) (rangeV i j) h2) X) X
 |.enum e,env,h,Q,X=>xE Φ e env h (fun v h1=>go (tupOf v) fun xs=>Q (fun _=>True) (Ca 0 xs) h1) X
 |.zip a b,env,h,Q,X=>xE Φ a env h (fun v h1=>xE Φ b env h1 (fun u h2=>go (GH h2 v u) fun p=>Q p.1 p.2 h2) X) X
 |.items e,env,h,Q,X=>xE Φ e env h (fun v h1=>go (Yk v) fun a=>go (UU<|h1 a) fun kvs=>Q (fun g=>g a=some (.frz kvs)) (kvs.map<|UW true)<|upd h1 a<|.frz kvs) X
 |.rev e,env,h,Q,X=>xE Φ e env h (fun v h1=>go (XG h1 v) fun xs=>Q (fun g=>XG g v=some xs) xs.reverse h1) X
end
@[reducible] noncomputable def wE:Fs->E->Env->Hs->Q1->XQ->Prop:=xE
@[reducible] noncomputable def wA:Fs->Es->Env->Hs->(List Val->Hs->Prop)->XQ->Prop:=xA
@[reducible] noncomputable def wJ:Fs->Es->Env->Hs->String->(String->Hs->Prop)->XQ->Prop:=xJ
@[reducible] noncomputable def wO:Fs->Oe->Env->Hs->(Option Int->Hs->Prop)->XQ->Prop:=xO
@[reducible] noncomputable def wT:Fs->Tt->Env->Hs->(Bool->Hs->Prop)->XQ->Prop:=xT
@[reducible] noncomputable def wI:Fs->It->Env->Hs->((Hs->Prop)->List Val->Hs->Prop)->XQ->Prop:=xI
noncomputable abbrev NQ:=Env->Hs->Prop
noncomputable abbrev EQ:=Env->String->Hs->Prop
def wFor(st:Hs->Prop)(W:Val->Env->Hs->NQ->NQ->Prop)(N:NQ):List Val->Env->Hs->Prop
 |[],env,h=>st h/\N env h
 |v::vs,env,h=>st h/\W v env h (fun e g=>wFor st W N vs e g) N
def wWhile(T:Env->Hs->(Bool->Hs->Prop)->Prop)(W:Env->Hs->NQ->NQ->Prop)(N:NQ):Nat->Env->Hs->Prop
 |0,_,_=>False
 |n+1,env,h=>T env h fun k h1=>if k=true then W env h1 (fun e g=>wWhile T W N n e g) N else N env h1
@[reducible] noncomputable def wC(Φ:Fs):E->Env->Hs->Q1->XQ->Prop
 |.call f as,env,h,Q,X=>wA Φ as env h (fun vs h1=>Φ f vs h1 Q X) fun _ _=>False
 |.meth C m o as,env,h,Q,X=>wE Φ o env h (fun v h1=>Bs h1 v m=some C/\wA Φ as env h1 (fun vs h2=>Φ (C ++ "." ++ m) (v::vs) h2 Q X) fun _ _=>False) fun _ _=>False
 |_,_,_,_,_=>False
noncomputable def tryEnv(env:Env):Option Nat->Val->Env
 |none,_=>env
 |some j,v=>env.set j<|some v
mutual
@[reducible] noncomputable def xS(Φ:Fs):S->Env->Hs->NQ->Q1->NQ->NQ->EQ->Prop
 |.set p e,env,h,N,_,_,_,X=>wE Φ e env h (fun v h1=>go (bind p h1 v env) fun ĸ=>N ĸ h1)<|X env
 |.setIdx a i e,env,h,N,_,_,_,X=>wE Φ e env h (fun v h1=>wE Φ a env h1 (fun o h2=>wE Φ i env h2 (fun k h3=>go (Nk h3 o k v) fun g=>N env g)<|X env)<|X env)<|X env
 |.setFld o f e,env,h,N,_,_,_,X=>wE Φ e env h (fun v h1=>wE Φ o env h1 (fun u h2=>go (K4 h2 u f v) fun g=>N env g)<|X env)<|X env
 |.augVar i op e,env,h,N,_,_,_,X=>go (getV env i) fun x=>wE Φ e env h (fun v h1=>go (Ag op x v) fun y=>N (env.set i<|some y) h1)<|X env
 |.augFld o f op n,env,h,N,_,_,_,X=>wE Φ o env h (fun u h1=>go (AS h1 u f) fun x=>go (Ag op x<|.int n) fun y=>go (K4 h1 u f y) fun g=>N env g)<|X env
 |.augIdx a i op n,env,h,N,_,_,_,X=>wE Φ a env h (fun o h1=>wE Φ i env h1 (fun k h2=>go (idxV h2 o k) fun x=>go (Ag op x<|.int n) fun y=>go (Nk h2 o k y) fun g=>N env g)<|X env)<|X env
 | .setPair a i b j e,env,h,N,_,_,_,X=>wE Φ e env h (fun v h1=>go (Fe v) fun p=>wE Φ a env h1 (fun o h2=>wE Φ i env h2 (fun k h3=>go (Nk h3 o k p.1) fun g =>
     wE Φ b env g (fun o2 h4=>wE Φ j env h4 (fun k2 h5=>go (Nk h5 o2 k2 p.2) fun g2=>N env g2)<|X env) (X env))<|X env)<|X env)<|X env
 |.expr e,env,h,N,_,_,_,X=>wE Φ e env h (fun _ h1=>N env h1)<|X env
 |.ret e,env,h,_,R,_,_,X=>wE Φ e env h R<|X env
 |.retN,_,h,_,R,_,_,_=>R .non h
 |.ite c a b,env,h,N,R,B,C,X=>wT Φ c env h (fun k h1=>if k=true then xSs Φ a env h1 N R B C X else xSs Φ b env h1 N R B C X)<|X env
 |.whl c b,env,h,N,R,_,_,X=>∃n,wWhile (fun e g K=>wT Φ c e g K<|X e) (fun e g K M=>xSs Φ b e g K R M K X) N n env h
 |.for p it b,env,h,N,R,_,_,X=>wI Φ it env h (fun st xs h1=>wFor st (fun v e g K M=>go (bind p g v e) fun e2=>xSs Φ b e2 g K R M K X) N xs env h1)<|X env
 | .forI k p e b,env,h,N,R,_,_,X=>wE Φ e env h (fun v h1=>go (Yk v) fun a=>go (UU<|h1 a) fun kvs =>
     wFor (fun g=>g a=some (.frz kvs)) (fun v e g K M=>go (bind p g v e) fun e2=>xSs Φ b e2 g K (fun u g2=>g2 a=some (.frz kvs)/\R u (upd g2 a<|.dct kvs)) M K fun _ _ _=>False)
       (fun e g=>g a=some (.frz kvs)/\N e (upd g a<|.dct kvs)) (kvs.map<|UW k) env (upd h1 a<|.frz kvs))<|X env
 |.never,_,_,_,_,_,_,_=>False
 |.brk,env,h,_,_,B,_,_=>B env h
 |.cnt,env,h,_,_,_,C,_=>C env h
 |.pass,env,h,N,_,_,_,_=>N env h
 |.raise C as,env,h,_,_,_,_,X=>wA Φ as env h (fun _ h1=>X env C h1)<|X env
 |.try t e hs,env,h,N,R,B,C,X=>wC Φ e env h (fun v h1=>N (tryEnv env t v) h1) fun c g=>xH Φ hs c env g N R B C
@[reducible] noncomputable def xSs(Φ:Fs):Ss->Env->Hs->NQ->Q1->NQ->NQ->EQ->Prop
 |.nil,env,h,N,_,_,_,_=>N env h
 |.cons s ss,env,h,N,R,B,C,X=>xS Φ s env h (fun e g=>xSs Φ ss e g N R B C X) R B C X
@[reducible] noncomputable def xH(Φ:Fs):Hn->String->Env->Hs->NQ->Q1->NQ->NQ->Prop
 |.nil,_,_,_,_,_,_,_=>False
 |.cons K none b r,c,env,h,N,R,B,C=>if excSub c K=true then xSs Φ b env h N R B C (fun _ _ _=>False)else xH Φ r c env h N R B C
 |.cons K (some i) b r,c,env,h,N,R,B,C=>if excSub c K=true then(∀p,h p=none->xSs Φ b (env.set i<|some<|.ref p) (upd h p<|.exc c) (fun e g=>N (e.set i none) g) R (fun e g=>B (e.set i none) g) (fun e g=>C (e.set i none) g) fun _ _ _=>False)
  else xH Φ r c env h N R B C
end
@[reducible] noncomputable def wS:Fs->S->Env->Hs->NQ->Q1->NQ->NQ->EQ->Prop:=xS
@[reducible] noncomputable def wSs:Fs->Ss->Env->Hs->NQ->Q1->NQ->NQ->EQ->Prop:=xSs
@[reducible] noncomputable def wH:Fs->Hn->String->Env->Hs->NQ->Q1->NQ->NQ->Prop:=xH
theorem D8:wSs=xSs:=by unfold wSs;rfl
theorem Fg:wH=xH:=by unfold wH;rfl
structure Fn where
 ar:Nat
 sz:Nat
 body:Ss
noncomputable abbrev Pg:=String->Option Fn
class In(P:Pg)(f:String)(d:outParam Fn):Prop where
 eq:P f=some d
noncomputable def Fn.env(d:Fn)(vs:List Val):Env:=vs.map some++Ë (d.sz - d.ar) none
noncomputable def wF0(P:Pg):Nat->Fs
 |0=>fun _ _ _ _ _=>False
 |n+1=>fun f vs h Q X=>go (P f) fun d=>vs.length=d.ar/\wSs (wF0 P n) d.body (d.env vs) h (fun _ g=>Q .non g) Q (fun _ _=>False) (fun _ _=>False) fun _ c g=>X c g
@[irreducible] noncomputable def wF(P:Pg)(n:Nat):Fs:=wF0 P n
variable {P:Pg} {n:Nat}
theorem wF_eq:wF P n=wF0 P n:=by unfold wF;rfl
theorem Z1{f:String}{d:Fn}{vs:List Val}{X:XQ}(e:P f=some d)(hl:vs.length=d.ar)
  (q:wSs (wF P n) d.body (d.env vs) h (fun _ g=>Q .non g) Q (fun _ _=>False) (fun _ _=>False) fun _ c g=>X c g):wF P (n+1) f vs h Q X:=by
 rw[wF_eq]at q ⊢;exact go_of e ⟨hl,q⟩
section
variable {Φ:Fs}{env:Env}{h:Hs}{Q:Q1}{X:XQ}{a b c e o:E}{as:Es}{v u:Val}
theorem Gj{es:Es}(q:new h (.dct []) fun r h1=>go (Yk r) fun p=>wA Φ es env h1 (fun vs h2=>go (Jl vs) fun kvs=>h2 p=some (.dct [])/\Q (.ref p) (upd h2 p<|.dct<|XR [] kvs)) X):wE Φ (.dct es) env h Q X:=by show MX _ _ _ _;unfold MX;exact q
variable {QA:List Val->Hs->Prop}{QO:Option Int->Hs->Prop}{QT:Bool->Hs->Prop}{QI:(Hs->Prop)->List Val->Hs->Prop}
theorem FC(q:QA [] h):wA Φ .nil env h QA X:=q
end
section
variable {Φ:Fs}{env:Env}{h:Hs}{N B C:NQ}{R:Q1}{X:EQ}{a b c e o i:E}{as:Es}{v u:Val}{t:Tt}{s1 s2:Ss}{s:S}{p:Pt}{it:It}{hs:Hn}
theorem Dk{K c:String}{k:Nat}{r:Hn}(hc:excSub c K=true)(q:∀p,h p=none->wSs Φ s1 (env.set k<|some<|.ref p) (upd h p<|.exc c) (fun e g=>N (e.set k none) g) R (fun e g=>B (e.set k none) g) (fun e g=>C (e.set k none) g) fun _ _ _=>False):wH Φ (.cons K (some k) s1 r) c env h N R B C:=by simp only[D8,Fg]at q ⊢;unfold xH;rw[if_pos hc];exact q
end
section
variable {h:Hs}{Q:Q1}{i j k:Int}{a b:Ad}{xs ys:List Val}{v u:Val}{K:Val->Prop}{KB:Bool->Prop}
theorem wp_val{r:Rs}(e:r=.val v)(q:Q v h):r.wp h Q:=by rw[e,Rs.wp_val];exact q
theorem wp_new{r:Rs}{o:Ob}(e:r=.new o)(q:new h o Q):r.wp h Q:=by rw[e,Rs.wp_new];exact q
theorem b_add(q:Q (.int<|i+j) h):(binV h .add (.int i)<|.int j).wp h Q:=wp_val rfl q
theorem b_sub(q:Q (.int<|i - j) h):(binV h .sub (.int i)<|.int j).wp h Q:=wp_val rfl q
theorem b_mul(m:mulOk i j)(q:Q (.int<|i*j) h):(binV h .mul (.int i)<|.int j).wp h Q:=wp_val (if_pos m) q
theorem b_fdiv(m:0<j/\j<1073741824)(q:Q (.int<|i / j) h):(binV h .fdiv (.int i)<|.int j).wp h Q:=wp_val (if_pos m) q
theorem b_mod(m:0<j)(q:Q (.int<|i % j) h):(binV h .mod (.int i)<|.int j).wp h Q:=wp_val (if_pos m) q
theorem b_pow(m:0<=j/\j<=1000000/\i.natAbs<2 ^ 64)(q:Q (.int<|i ^ j.toNat) h):(binV h .pow (.int i)<|.int j).wp h Q:=wp_val (if_pos m) q
theorem Ec{z:Int}(m:0<=j/\j<=1000000/\i.natAbs<2 ^ 64)(e:i ^ j.toNat=z)(q:Q (.int z) h):(binV h .pow (.int i)<|.int j).wp h Q:=b_pow m (by rw[e];exact q)
theorem KG(m:xs.length+ys.length<=lim)(q:Q (.tup<|xs++ys) h):(binV h .add (.tup xs)<|.tup ys).wp h Q:=wp_val (if_pos m) q
variable {s:String}
theorem Zp{t:String}(m:s.length+t.length<=lim)(q:Q (.str<|s++t) h):(binV h .add (.str s)<|.str t).wp h Q:=wp_val (if_pos m) q
theorem ZV(e1:h a=some (.lst xs))(e2:h b=some (.lst ys))(m:(xs++ys).length<=lim)(q:new h (.lst<|xs++ys) Q):(binV h .add (.ref a)<|.ref b).wp h Q:=by refine wp_new ?_ q;show(match h a,h b with|some (.lst xs),some (.lst ys)=>Rs.lst (xs++ys)|_,_=>.no:Rs)=_;simp only[e1,e2,Rs.lst];rw[if_pos m]
theorem lsE(e1:h a=some (.lst xs)):lsOf (h a)=some xs:=by rw[e1];rfl
variable {kvs:List (Val×Val)}
theorem dcE(e1:h a=some (.dct kvs)):UU (h a)=some kvs:=by rw[e1];rfl
theorem g_int{K:Int->Prop}(q:K i):go (asInt<|.int i) K:=go_of rfl q
theorem g_bl{b:Bool}(q:KB b):go (asBl<|.bl b) KB:=go_of rfl q
theorem Fx{K:Ad->Prop}(q:K a):go (Yk<|.ref a) K:=go_of rfl q
theorem g_tbl{b:Bool}(q:KB b):go (X1 h<|.bl b) KB:=go_of rfl q
theorem Hu(q:KB<|decide (i≠0)):go (X1 h<|.int i) KB:=go_of rfl q
theorem HI(e:h a=some (.lst xs))(q:KB (!xs.isEmpty)):go (X1 h<|.ref a) KB:=go_of (by unfold X1;simp only[e]) q
theorem ix_tup(e:atI xs i=some v)(q:K v):go (idxV h (.tup xs)<|.int i) K:=go_of e q
theorem ZL(e1:h a=some (.lst xs))(e:atI xs i=some v)(q:K v):go (idxV h (.ref a)<|.int i) K:=go_of (by unfold idxV;simp only[e1];exact e) q
variable {ns:List Int}
theorem Dg(e:atI (ns.map Val.int) i=some v)(q:K v):go (idxV h (.scr ns)<|.int i) K:=go_of e q
theorem c_lt(q:KB<|decide (i<j)):go (cmpV h .lt (.int i)<|.int j) KB:=go_of rfl q
theorem c_gt(q:KB<|decide (j<i)):go (cmpV h .gt (.int i)<|.int j) KB:=go_of rfl q
theorem c_le(q:KB<|decide (i<=j)):go (cmpV h .le (.int i)<|.int j) KB:=go_of rfl q
theorem c_ge(q:KB<|decide (j<=i)):go (cmpV h .ge (.int i)<|.int j) KB:=go_of rfl q
theorem BQ:D.eqv (.int i) (.int j)=decide (i=j):=by rw[D.eqv];by_cases e:i=j<;>simp[e]
theorem B9{t:String}:D.eqv (.str s) (.str t)=decide (s=t):=by rw[D.eqv];by_cases e:s=t<;>simp[e]
theorem c_eqI(q:KB<|decide (i=j)):go (cmpV h .eq (.int i)<|.int j) KB:=go_of (by show some (D.eqv (.int i)<|.int j)=_;rw[BQ]) q
theorem c_neI(q:KB (!decide (i=j))):go (cmpV h .ne (.int i)<|.int j) KB:=go_of (by show some (!D.eqv (.int i) (.int j))=_;rw[BQ]) q
theorem c_eqS{t:String}(q:KB<|decide (s=t)):go (cmpV h .eq (.str s)<|.str t) KB:=go_of (by show some (D.eqv (.str s)<|.str t)=_;rw[B9]) q
theorem c_neS{t:String}(q:KB (!decide (s=t))):go (cmpV h .ne (.str s)<|.str t) KB:=go_of (by show some (!D.eqv (.str s) (.str t))=_;rw[B9]) q
variable {c:Bool}
theorem HL{d:Bool}(q:KB<|c==d):go (cmpV h .eq (.bl c)<|.bl d) KB:=go_of (by show some (D.eqv (.bl c)<|.bl d)=_;rw[D.eqv]) q
theorem HJ(q:KB<|decide (v=.non)):go (cmpV h .is v .non) KB:=go_of (by unfold cmpV;rfl) q
theorem GO(q:KB (!decide (v=.non))):go (cmpV h .isnot v .non) KB:=go_of (by unfold cmpV;rfl) q
theorem c_neX(n:sam0 h v u=false)(e:eqV h v u=some c)(q:KB (!c)):go (cmpV h .neX v u) KB:=go_of (by show(if sam0 h v u=true then some false else(eqV h v u).map (!·))=_;rw[n,e];rfl) q
theorem c_nes(e1:h a=some (.lst xs))(e2:h b=some (.lst ys))(e:samL (sam h 8) xs ys=true)(q:KB false):go (cmpV h .nes (.ref a)<|.ref b) KB:=go_of (by show(lsOf<|h a).bind _=_;rw[e1,YM];show(lsOf<|h b).bind _=_;rw[e2,YM];show(if _ then _ else _)=_;rw[if_pos e]) q
variable {n:Nat} {env':Env}
theorem Ci{env:Env}{K:Env->Prop}(e:env.set n (some v)=env')(q:K env'):go (bind (.one n) h v env) K:=by subst e;exact go_of rfl q
theorem Hx{is:List Nat}{env:Env}{K:Env->Prop}(e:bindL is xs env=some env')(q:K env'):go (bind (.many is) h (.tup xs) env) K:=go_of e q
theorem Hf{K:Hs->Prop}(e1:h a=some (.lst xs))(e:ixN xs.length i=some n)(q:K<|upd h a<|.lst<|xs.set n v):go (Nk h (.ref a) (.int i) v) K:=go_of (by unfold Nk;simp only[e1,asInt,õ,e,Ń]) q
variable {C:String} {f:String}
theorem GG{fs:List (String×Val)}{K:Hs->Prop}(e1:h a=some (.ins C fs))(m:fs.length<900)(q:K<|upd h a<|.ins C<|putF fs f v):go (K4 h (.ref a) f v) K:=go_of (by unfold K4;simp only[e1];rw[if_pos m]) q
theorem GE{fs:List (String×Val)}(e1:h a=some (.ins C fs))(e:fs.lookup f=some v)(q:K v):go (AS h (.ref a) f) K:=go_of (by unfold AS Yk;simp only[e1,MH,õ];exact e) q
variable {P:Prop}
theorem GM{m:String}{fs:List (String×Val)}(e1:h a=some (.ins C fs))(e:fs.lookup m=none)(q:P):Bs h (.ref a) m=some C/\P:=⟨by unfold Bs Yk;simp only[e1,MH,õ,e,Option.isNone_none,if_true],q⟩
theorem Hl(q:K<|.int<|i+j):go (Ag .add (.int i)<|.int j) K:=go_of rfl q
theorem ln_lst(e1:h a=some (.lst xs))(q:Q (.int xs.length) h):(biV h .len [.ref a]).wp h Q:=wp_val (by show lenV h (.ref a)=_;unfold lenV;dsimp only;rw[e1]) q
theorem ln_scr(q:Q (.int ns.length) h):(biV h .len [.scr ns]).wp h Q:=wp_val rfl q
theorem HF(q:Q (.int xs.length) h):(biV h .len [.tup xs]).wp h Q:=wp_val rfl q
theorem XN(m:s.length<=lim)(q:Q (.int s.length) h):(biV h .len [.str s]).wp h Q:=wp_val (if_pos m) q
theorem Hz(q:Q (.str s) h):(biV h .str [.str s]).wp h Q:=wp_val rfl q
theorem NO(m:i.natAbs<10 ^ 200)(q:Q (.str<|Zf i) h):(biV h .str [.int i]).wp h Q:=wp_val (if_pos m) q
theorem in_str(m:s.length<=640/\s.toList≠[]/\s.toList.all figB=true)(q:Q (.int<|decN s.toList) h):(biV h .int [.str s]).wp h Q:=wp_val (if_pos m) q
theorem ab_int(q:Q (.int<|if i<0 then -i else i) h):(biV h .abs [.int i]).wp h Q:=wp_val rfl q
theorem O8{bs:List Bool}(e1:h a=some (.lst xs))(e2:blsOf xs=some bs)(q:Q (.bl<|bs.all id) h):(biV h .all [.ref a]).wp h Q:=wp_val (by show Rs.ofO ((lsOf<|h a).bind _)=_;rw[lsE e1,õ,e2];rfl) q
theorem g_str{K:String->Prop}(q:K s):go (asStr<|.str s) K:=go_of rfl q
theorem Ee{K:Val×Hs->Prop}{ŭ:String}{ss:List String}(e1:h a=some (.lst xs))(e2:strsOf xs=some ss)(m:(ss.map String.length).sum+ss.length*ŭ.length<=lim)(q:K (.str<|joinS ŭ ss,h)):go (bmV h .join (.str ŭ) [.ref a]) K:=go_of (by show(lsOf<|h a).bind _=_;rw[lsE e1,õ,e2,õ,if_pos m]) q
theorem Co{K:Val×Hs->Prop}(e1:h a=some (.lst<|v::xs))(q:K (v,upd h a<|.lst xs)):go (bmV h .popAt (.ref a) [.int 0]) K:=go_of (by show(lsOf<|h a).bind (bmPopAt h [.int 0] a)=_;rw[lsE e1];show bmPopAt h [.int 0] a (v::xs)=_;unfold bmPopAt;dsimp only;rw[if_pos<|by decide];rw[show ixN (v::xs).length 0=some 0 by unfold ixN;rw[if_pos (by decide),if_pos<|by simp];rfl];rfl) q
variable {m:Bm}
theorem CT(hm:m=.join)(q:P):bmTy h m (.str s)=true/\P:=⟨by subst hm;rfl,q⟩
theorem BS{t:String}{c:Char}(e:oneC s=some c)(q:KB<|decide (c∈t.toList)):go (cmpV h .isin (.str s)<|.str t) KB:=go_of (by show(oneC s).map _=_;rw[e];rfl) q
theorem KP(m:2<=k/\k<=1000000/\1<=s.length/\s.length*k.toNat<=lim)(q:Q (.str<|repT s k.toNat) h):(binV h .mul (.str s)<|.int k).wp h Q:=wp_val (if_pos m) q
theorem Hw(q:Q (.int i) h):(biV h .int [.int i]).wp h Q:=wp_val rfl q
theorem in_bl(q:Q (.int<|if c then 1 else 0) h):(biV h .int [.bl c]).wp h Q:=wp_val rfl q
theorem mn2(q:Q (.int<|if j<i then j else i) h):(biV h .min2 [.int i,.int j]).wp h Q:=wp_val rfl q
theorem mx2(q:Q (.int<|if j > i then j else i) h):(biV h .max2 [.int i,.int j]).wp h Q:=wp_val rfl q
theorem tp_lst(e1:h a=some (.lst xs))(q:Q (.tup xs) h):(biV h .tuple [.ref a]).wp h Q:=wp_val (by show W1 h (.ref a)=_;unfold W1;dsimp only;rw[e1]) q
theorem GQ(q:Q (.tup xs) h):(biV h .tuple [.tup xs]).wp h Q:=wp_val rfl q
theorem HM{Ts:List String}(e:isiAny h v Ts=some c)(q:Q (.bl c) h):(biV h (.isi Ts) [v]).wp h Q:=wp_val (by show Rs.ofO ((isiAny h v Ts).map .bl)=_;rw[e];rfl) q
theorem Gx(e1:h a=some (.lst xs))(q:new h (.lst xs) Q):(biV h .list [.ref a]).wp h Q:=wp_new (by show toList h (.ref a)=_;unfold toList;dsimp only;rw[e1]) q
theorem HD(q:new h (.lst xs) Q):(biV h .list [.tup xs]).wp h Q:=wp_new rfl q
variable {lo:Option Int} {hi:Option Int}
theorem sl_tup(n:¬ (cutAt xs.length 0 lo=0/\cutAt xs.length xs.length hi=xs.length))(q:Q (.tup<|cut xs lo hi) h):(slcV h (.tup xs) lo hi).wp h Q:=wp_val (by unfold slcV;simp only;rw[if_neg n]) q
theorem Eo(hm:m.ty=.l\/m.ty=.t)(e:h a=some (.lst xs))(q:P):bmTy h m (.ref a)=true/\P:=⟨by unfold bmTy;rcases hm with hm|hm<;>rw[hm]<;>simp[XX,e,isLst],q⟩
theorem Ht(hm:m.ty=.d)(e:h a=some (.dct kvs))(q:P):bmTy h m (.ref a)=true/\P:=⟨by unfold bmTy;rw[hm];simp[XX,e,BL],q⟩
theorem sl_str(n:s.length<=lim)(q:Q (.str<|Í<|cut s.toList lo hi) h):(slcV h (.str s) lo hi).wp h Q:=wp_val (by unfold slcV;simp only;rw[if_pos n]) q
theorem sl_lst(e1:h a=some (.lst xs))(q:new h (.lst<|cut xs lo hi) Q):(slcV h (.ref a) lo hi).wp h Q:=wp_new (by unfold slcV;simp only[e1,lsOf]) q
theorem G0(q:new h (.lst<|cut (ns.map Val.int) lo hi) Q):(slcV h (.scr ns) lo hi).wp h Q:=wp_new rfl q
theorem ZY{K:Val×Hs->Prop}(e1:h a=some (.lst xs))(m:xs.length<lim)(q:K (.non,upd h a<|.lst<|xs++[v])):go (bmV h .append (.ref a) [v]) K:=go_of (by show(lsOf<|h a).bind _=_;rw[lsE e1];exact if_pos m) q
theorem it_lst{K:(Hs->Prop)×List Val->Prop}(e1:h a=some (.lst xs))(q:K (fun g=>lsOf (g a)=some xs,xs)):go (itV h<|.ref a) K:=go_of (by unfold itV;simp only[e1,lsOf,Ń]) q
theorem it_scr{K:(Hs->Prop)×List Val->Prop}(q:K (fun _=>True,ns.map Val.int)):go (itV h<|.scr ns) K:=go_of rfl q
theorem it_tup{K:(Hs->Prop)×List Val->Prop}(q:K (fun _=>True,xs)):go (itV h<|.tup xs) K:=go_of rfl q
theorem HB{K:List Val->Prop}(q:K xs):go (XG h<|.tup xs) K:=go_of rfl q
theorem GU{K:List Val->Prop}(e1:h a=some (.lst xs))(q:K xs):go (XG h<|.ref a) K:=go_of (by unfold XG;simp only[e1,lsOf]) q
variable {A:Prop} {B:Prop}
theorem ifT(e:c=true)(q:A):if c=true then A else B:=by rw[if_pos e];exact q
theorem ifF(e:c=false)(q:B):if c=true then A else B:=by rw[if_neg<|by rw[e];decide];exact q
variable {p:Prop}
theorem ifP[Decidable p](q:p->A)(r:¬p->B):if decide p=true then A else B:=by
 by_cases e:p
 .rw[if_pos<|decide_eq_true e];exact q e
 .rw[if_neg<|by simpa using e];exact r e
theorem FL[Decidable p](q:¬p->A)(r:p->B):if(!decide p)=true then A else B:=by
 by_cases e:p
 .rw[if_neg<|by simpa using e];exact r e
 .rw[if_pos<|by simpa using e];exact q e
end
structure Ext(h g:Hs):Prop where
 get:∀{a:Ad}{o:Ob},h a=some o->g a=some o
variable {h:Hs}
theorem Ext.refl:Ext h h:=⟨fun e=>e⟩
variable {g:Hs}
theorem Ext.trans{k:Hs}(e:Ext h g)(f:Ext g k):Ext h k:=⟨fun x=>f.get<|e.get x⟩
variable {p:Ad} {o:Ob}
theorem Ext.new(e:h p=none):Ext h<|upd h p o:=⟨fun{a u} x=>by
  rw[upd_ne<|by intro z;rw[z,e]at x;cases x];exact x⟩
structure ExtB(w:Ad)(h g:Hs):Prop where
 get:∀{a:Ad}{o:Ob},a≠w->h a=some o->g a=some o
variable {w:Ad}
theorem ExtB.refl:ExtB w h h:=⟨fun _ e=>e⟩
theorem ExtB.trans{k:Hs}(e:ExtB w h g)(f:ExtB w g k):ExtB w h k:=⟨fun n x=>f.get n<|e.get n x⟩
theorem ExtB.upd:ExtB w h<|upd h w o:=⟨fun n x=>by rw[upd_ne n];exact x⟩
theorem ExtB.of(e:Ext h g):ExtB w h g:=⟨fun _ x=>e.get x⟩
variable {a:Ad}
theorem Ys(x:h a=some o)(n:h p=none):a≠p:=by intro z;rw[z,n]at x;cases x
theorem ne_none'(n:h p=none)(x:h a=some o):a≠p:=Ys x n
theorem upd_ne'{b:Ad}{r:Option Ob}(n:b≠a)(e:h b=r):upd h a o b=r:=by rw[upd_ne n];exact e
variable {st:Hs->Prop} {N:NQ} {xs:List Val}
theorem AT{W:Val->Env->Hs->NQ->NQ->Prop}(I:Nat->Env->Hs->Prop){env:Env}(h0:I 0 env h)(ņ:∀i e g,i<=xs.length->I i e g->st g)
  (step:∀i v e g,xs[i]?=some v->I i e g->∀K:NQ,(∀e' g',I (i+1) e' g'->K e' g')->W v e g K N) (fin:∀e g,I xs.length e g->N e g):wFor st W N xs env h:=by
 have key:∀(ys:List Val) (i:Nat) e g,xs.drop i=ys->i<=xs.length->I i e g->wFor st W N ys e g:=by
  intro ys;induction ys with
  |nil =>
   intro i e g hd hi hI;have:i=xs.length:=by have:=congrArg List.length hd;simp at this;omega
   subst this;exact⟨ņ _ e g (Ø _) hI,fin e g hI⟩
  |cons v vs ih =>
   intro i e g hd hi hI;have a8:i<xs.length:=by have:=congrArg List.length hd;simp at this;omega
   have hv:xs[i]?=some v:=by have:=congrArg (fun l=>l[0]?) hd;simpa using this
   refine⟨ņ i e g hi hI,step i v e g hv hI _ fun e' g' hI'=>ih (i+1) e' g' ?_ (by omega) hI'⟩;have:=congrArg List.tail hd;simpa using this
 exact key xs 0 env h (by simp) (by omega) h0
theorem WJ{T:Env->Hs->(Bool->Hs->Prop)->Prop}{W:Env->Hs->NQ->NQ->Prop}(I:Nat->Env->Hs->Prop){env:Env}{m:Nat}(h0:I m env h)
  (step:∀m e g,I m e g->∀K:NQ,(∀m' e' g',m'<m->I m' e' g'->K e' g')->T e g fun k h1=>if k=true then W e h1 K N else N e h1):∃n,wWhile T W N n env h:=by
 refine⟨m+1,?_⟩;have key:∀(n m:Nat) e g,m<n->I m e g->wWhile T W N n e g:=by
  intro n;induction n with
  |zero=>intro m e g hm;omega
  |succ n ih=>intro m e g hm hI;exact step m e g hI _ fun m' e' g' hm' hI'=>ih m' e' g' (by omega) hI'
 exact key (m+1) m env h (by omega) h0
variable {Q:List Val->Hs->Prop} {X:XQ}
theorem YW{step:Val->Hs->(Option Val->Hs->Prop)->XQ->Prop}(I:Nat->List Val->Hs->Prop)(h0:I 0 [] h)(ņ:∀i ys g,i<=xs.length->I i ys g->st g)
  (go:∀i v ys g,xs[i]?=some v->I i ys g->∀K,(∀r g',I (i+1) (ys++r.toList) g'->K r g')->step v g K X) (fin:∀ys g,I xs.length ys g->Q ys g):wComp st step xs [] h Q X:=by
 have key:∀(zs:List Val) (i:Nat) ys g,xs.drop i=zs->i<=xs.length->I i ys g->wComp st step zs ys g Q X:=by
  intro zs;induction zs with
  |nil =>
   intro i ys g hd hi hI;have:i=xs.length:=by have:=congrArg List.length hd;simp at this;omega
   subst this;exact⟨ņ _ ys g (Ø _) hI,fin ys g hI⟩
  |cons v vs ih =>
   intro i ys g hd hi hI;have a8:i<xs.length:=by have:=congrArg List.length hd;simp at this;omega
   have hv:xs[i]?=some v:=by have:=congrArg (fun l=>l[0]?) hd;simpa using this
   refine⟨ņ i ys g hi hI,go i v ys g hv hI _ fun r g' hI'=>ih (i+1) _ g' ?_ (by omega) hI'⟩;have:=congrArg List.tail hd;simpa using this
 exact key xs 0 [] h (by simp) (by omega) h0
theorem Wt{step:Val->Hs->(Option Val->Hs->Prop)->XQ->Prop}(f:Val->Option Val)(ņ:st h)
  (go:∀v∈xs,∀K,K (f v) h->step v h K X) (fin:Q (xs.filterMap f) h):wComp st step xs [] h Q X:=by
 have key:∀(zs ys:List Val),(∀v∈zs,v∈xs)->Q (ys++zs.filterMap f) h->wComp st step zs ys h Q X:=by
  intro zs;induction zs with
  |nil=>intro ys _ q;exact⟨ņ,by simpa using q⟩
  |cons v vs ih =>
   intro ys hm q;refine⟨ņ,go v (hm v<|by simp) _<|ih _ (fun w hw=>hm w<|by simp[hw]) ?_⟩;cases e:f v with
   |none=>simpa[ł,e]using q
   |some u=>simpa[ł,e]using q
 exact key xs [] (fun _ h=>h) (by simpa using fin)
section
variable {Φ:Fs}{env:Env}{h:Hs}{N B C:NQ}{R:Q1}{X:EQ}{a b c e o i:E}{as:Es}{v u:Val}{t:Tt}{s1 s2:Ss}{s:S}{p:Pt}{it:It}{hs:Hn}
theorem q_s_raise{D:String}:(wS Φ (.raise D as) env h N R B C X)=(wA Φ as env h (fun _ h1=>X env D h1)<|X env):=rfl
theorem q_s_try{t:Option Nat}:(wS Φ (.try t e hs) env h N R B C X)=(wC Φ e env h (fun v h1=>N (tryEnv env t v) h1) fun c g=>wH Φ hs c env g N R B C):=rfl
theorem q_h_nil{c:String}:wH Φ .nil c env h N R B C=False:=rfl
variable {r:Hn}
theorem q_h_none{K c:String}:wH Φ (.cons K none s1 r) c env h N R B C=if excSub c K=true then wSs Φ s1 env h N R B C (fun _ _ _=>False)else wH Φ r c env h N R B C:=rfl
theorem q_h_some{K c:String}{k:Nat}:wH Φ (.cons K (some k) s1 r) c env h N R B C=if excSub c K=true then(∀p,h p=none->wSs Φ s1 (env.set k<|some<|.ref p) (upd h p<|.exc c) (fun e g=>N (e.set k none) g) R (fun e g=>B (e.set k none) g) (fun e g=>C (e.set k none) g) fun _ _ _=>False)else wH Φ r c env h N R B C:=rfl
end
theorem splitC_ne(c:Char):∀l,splitC c l≠[]
 |[]=>by simp[splitC]
 |x::xs=>by
  unfold splitC;split
  .simp
  .split<;>simp
theorem Yj{c:Char}:∀{p:List Char}{r:List Char},c∉p->splitC c (p++c::r)=p::splitC c r
 |[],r,_=>by simp[splitC]
 |x::p,r,h=>by have hx:x≠c:=fun e=>h (by simp[e]);have ih:=Yj (c:=c) (p:=p) (r:=r) fun m=>h (by simp[m]);rw[Ł,splitC,if_neg hx,ih]
theorem Xj{c:Char}:∀{p:List Char},c∉p->splitC c p=[p]
 |[],_=>by simp[splitC]
 |x::p,h=>by have hx:x≠c:=fun e=>h (by simp[e]);rw[splitC,if_neg hx,Xj (c:=c) (p:=p) fun m=>h<|by simp[m]]
theorem XH{c:Char}:∀{ps:List (List Char)},ps≠[]->(∀p∈ps,c∉p)->splitC c (joinC [c] ps)=ps
 |[],h,_=>absurd rfl h
 |[p],_,h=>by rw[joinC];exact Xj (h p<|by simp)
 |p::q::r,_,h=>by rw[joinC,œ,Yj<|h p<|by simp,XH (by simp) fun x hx=>h x<|by simp[hx]]
variable {c:Char} {ŭ:String} {ss:List String}
theorem JG(hs:ŭ.toList=[c])(h0:ss≠[])(h:∀s∈ss,c∉s.toList):splitS c (joinS ŭ ss)=ss:=by
 unfold splitS joinS;rw[É,hs,XH (by simpa using h0) (by simpa using h),ă]
 conv=>rhs;rw[<-ϐ ss]
 exact į fun s _=>Ŕ
theorem joinS_toList:(joinS ŭ ss).toList=joinC ŭ.toList (ss.map ì):=É
theorem WF:∀ps:List<|List Char,joinC [] ps=ps.flatten
 |[]=>rfl
 |[p]=>by simp[joinC]
 |p::q::r=>by rw[joinC,Ř,WF<|q::r];simp
theorem KA(ss:List String):(joinS "" ss).toList=(ss.map ì).flatten:=by rw[joinS_toList];exact WF _
theorem Xk{c:Char}:∀{ps:List (List Char)},(∀p∈ps,c∉p)->splitC c ((ps.map (· ++ [c])).flatten)=ps++[[]]
 |[],_=>rfl
 |p::r,h=>by rw[Ó,č,â,œ,Yj<|h p<|by simp,Xk fun x hx=>h x (by simp[hx]),Ł]
theorem Yl(c:Char):oneC (Ù c)=some c:=by unfold oneC;rw[ó]
theorem Zb(n:Nat):(Zf (n:Int)).toList=ĳ 10 n:=É
theorem Yc{d:Nat}(h:d<10):(ď d).toNat=48+d:=by
 have:d=0\/d=1\/d=2\/d=3\/d=4\/d=5\/d=6\/d=7\/d=8\/d=9:=by omega
 rcases this with rfl|rfl|rfl|rfl|rfl|rfl|rfl|rfl|rfl|rfl<;>rfl
theorem YJ{P:Nat->Prop}(h0:∀n,n<10->P n)(h1:∀n,10<=n->P (n / 10)->P n):∀n,P n:=by
 intro n;induction n using Nat.strongRecOn with
 |_ n ih =>
  by_cases h:n<10
  .exact h0 n h
  .exact h1 n (by omega) (ih _<|by omega)
theorem YF:∀n,∀c∈ĳ 10 n,figB c=true:=by
 refine YJ (fun n h c hc=>?_) fun n h ih c hc=>?_
 .rw[Ň h]at hc;cases ñ.mp hc;unfold figB;rw[Yc h];simp;omega
 .rw[ň (by decide) h]at hc;rcases ö.mp hc with hc|hc
  .exact ih c hc
  .cases ñ.mp hc;unfold figB;rw[Yc<|Nat.mod_lt _<|by decide];simp;omega
theorem O4(l:List Char)(c:Char):decN (l++[c])=10*decN l+(c.toNat - 48):=by unfold decN;rw[List.foldl_append];rfl
theorem WU:∀n,decN (ĳ 10 n)=n:=by
 refine YJ (fun n h=>?_) fun n h ih=>?_
 .rw[Ň h];show 10*0+((ď n).toNat - 48)=n;rw[Yc h];omega
 .rw[ň (by decide) h,O4,ih,Yc<|Nat.mod_lt _<|by decide];omega
theorem Mn(n:Nat):ĳ 10 n≠[]:=by
 revert n;refine YJ (fun n h=>?_) fun n h ih=>?_
 .rw[Ň h];simp
 .rw[ň (by decide) h];simp
theorem Wn:∀n,0<n->∃d l,ĳ 10 n=ď d::l/\0<d/\d<10:=by
 refine YJ (fun n h h0=>?_) fun n h ih h0=>?_
 .rw[Ň h];exact⟨n,[],rfl,h0,h⟩
 .obtain⟨d,l,e,h1,h2⟩:=ih (by omega);rw[ň (by decide) h,e];exact⟨d,_,rfl,h1,h2⟩
theorem N3{n k:Nat}(hk:0<k)(h:n<10 ^ k):(ĳ 10 n).length<=k:=(Nat.length_toDigits_le_iff (by decide) hk).mpr h
theorem JZ(n:Nat):1<=(ĳ 10 n).length:=by have:=Mn n;have:(ĳ 10 n).length≠0:=fun e=>this<|ű.mp e;omega
theorem WZ(h:figB c=true):c∈"0123456789".toList:=by
 unfold figB at h;simp only[bAq,decide_eq_true_eq]at h;have key:∀k:Nat,k<10->c.toNat=48+k->c=ď k:=fun k hk e=>by apply Char.ext;apply Ŝ;show c.toNat=(ď k).toNat;rw[Yc hk,e]
 obtain⟨k,hk,e⟩:∃k,k<10/\c.toNat=48+k:=⟨c.toNat - 48,by omega,by omega⟩
 rw[key k hk e];have:k=0\/k=1\/k=2\/k=3\/k=4\/k=5\/k=6\/k=7\/k=8\/k=9:=by omega
 rcases this with rfl|rfl|rfl|rfl|rfl|rfl|rfl|rfl|rfl|rfl<;>decide
theorem Yg{α β γ:Type}{f:α->β}{g:β->Option γ}{k:α->γ}:∀{xs:List α},(∀x∈xs,g (f x)=some (k x))->(xs.map f).mapM g=some (xs.map k)
 |[],_=>by simp
 |x::xs,h=>by rw[Ó,ϡ,h x (by simp),Yg fun y hy=>h y<|by simp[hy]];rfl
theorem X8:∀ss:List String,strsOf (ss.map .str)=some ss
 |[]=>rfl
 |s::ss=>by rw[Ó,strsOf,X8 ss];rfl
theorem YZ:∀bs:List Bool,blsOf (bs.map .bl)=some bs
 |[]=>rfl
 |s::ss=>by rw[Ó,blsOf,YZ ss];rfl
section
variable {Φ:Fs}{env:Env}{h:Hs}{Q:Q1}{X:XQ}{a:Ad}{v:Val}{kvs:List (Val×Val)}
theorem Cj(q:∀p,h p=none->Q (.ref p) (upd h p<|.dct [])):wE Φ (.dct .nil) env h Q X:=by refine Gj<|Zn fun p hp=>Fx<|FC<|go_of rfl ⟨upd_same,?_⟩;rw[upd_upd];exact q p hp
theorem dw0(q:∀p,h p=none->Q (.ref p) (upd h p<|.dct [])):MX (xA Φ .nil env) h Q X:=Cj q
theorem dw{F:Hs->(List Val->Hs->Prop)->XQ->Prop}(q:new h (.dct []) fun r h1=>go (Yk r) fun p=>F h1 (fun vs h2=>go (Jl vs) fun kvs=>h2 p=some (.dct [])/\Q (.ref p) (upd h2 p<|.dct<|XR [] kvs)) X):MX F h Q X:=by unfold MX;exact q
theorem EK{i:Nat}{K:Val->Prop}(g:getV env i=some v)(q:K v):go (getV env i) K:=go_of g q
theorem HK{K:List (Val×Val)->Prop}(e1:h a=some (.dct kvs))(q:K kvs):go (UU<|h a) K:=go_of (dcE e1) q
end
end Own
namespace Snd
open PySem L2
def KT(K:PySem.W.Frag)(a:Ä)(xs:List V):Prop :=
 ∃(o:Obj) (ò:Array Á) (n:Nat),K.lookup a=some o/\o.cls=.type "tuple"/\o.data=.seq ò n/\ò.size<=Ô/\Vals xs ò.toList
def KL(K:PySem.W.Frag)(a:Ä)(xs:List V):Prop :=
 ∃(o:Obj) (ò:Array Á) (n:Nat),K.lookup a=some o/\o.cls=.type "list"/\o.dict=none/\o.data=.seq ò n/\ò.size<=Ô/\Vals xs ò.toList
mutual
inductive RV (K:PySem.W.Frag) (H:Hp):Own.Val->V->Prop
 |non:RV K H .non .non
 |bl (b:Bool):RV K H (.bl b)<|.bl b
 |int (i:Int):RV K H (.int i)<|.int i
 |str (s:String):RV K H (.str s)<|.str<|Str.ofString s
 |tup {xs:List Own.Val}{a:Ä}{vs:List V}:(H a=some (.tup vs)\/KT K a vs)->RVs K H xs vs->RV K H (.tup xs) (.ref a)
 |ref (a:Ä):RV K H (.ref a)<|.ref a
 |scr {ns:List Int}{a:Ä}:((∃o,H a=some (.frz o<|.lst<|ns.map V.int))\/KL K a (ns.map V.int))->RV K H (.scr ns) (.ref a)
 |key {i j:Int}{a:Ä}:H a=some (.tup [.int i,.int j])->RV K H (.key i j) (.ref a)
inductive RVs (K:PySem.W.Frag) (H:Hp):List Own.Val->List V->Prop
 |nil:RVs K H [] []
 |cons {v:Own.Val}{x:V}{vs:List Own.Val}{xs:List V}:RV K H v x->RVs K H vs xs->RVs K H (v::vs) (x::xs)
end
structure Keep(H H':Hp):Prop where
 t:∀a xs,H a=some (.tup xs)->H' a=some (.tup xs)
 f:∀a o u,H a=some (.frz o u)->H' a=some (.frz o u)
theorem Keep.refl(H:Hp):Keep H H:=⟨fun _ _ e=>e,fun _ _ _ e=>e⟩
variable {H:Hp}
theorem Keep.trans{H1 H2:Hp}(a:Keep H H1)(b:Keep H1 H2):Keep H H2:=⟨fun c xs e=>b.t c xs<|a.t c xs e,fun c o u e=>b.f c o u<|a.f c o u e⟩
variable {a:Ä} {o:HO}
theorem Keep.put(h:∀xs,H a≠some (.tup xs))(h2:∀p u,H a≠some (.frz p u)):Keep H<|upd H a o:=⟨fun b xs e=>by
  rw[upd_ne<|by rintro rfl;exact h xs e];exact e,fun b p u e=>by rw[upd_ne<|by rintro rfl;exact h2 p u e];exact e⟩
theorem Keep.new(h:H a=none):Keep H<|upd H a o:=Keep.put (fun xs e=>by rw[h]at e;cases e) fun p u e=>by rw[h]at e;cases e
variable {K:PySem.W.Frag}{H H':Hp}
mutual
theorem RV.keep(k:Keep H H'):∀{v:Own.Val}{x:V},RV K H v x->RV K H' v x
 |_,_,.non=>.non
 |_,_,.bl b=>.bl b
 |_,_,.int i=>.int i
 |_,_,.str s=>.str s
 |_,_,.tup (.inl e) r=>.tup (.inl<|k.t _ _ e)<|RVs.keep k r
 |_,_,.tup (.inr e) r=>.tup (.inr e)<|RVs.keep k r
 |_,_,.ref a=>.ref a
 |_,_,.scr (.inl ⟨o,e⟩)=>.scr<|.inl ⟨o,k.f _ _ _ e⟩
 |_,_,.scr (.inr e)=>.scr<|.inr e
 |_,_,.key e=>.key<|k.t _ _ e
theorem RVs.keep(k:Keep H H'):∀{vs:List Own.Val}{xs:List V},RVs K H vs xs->RVs K H' vs xs
 |_,_,.nil=>.nil
 |_,_,.cons r t=>.cons (RV.keep k r)<|RVs.keep k t
end
theorem RVs.length:∀{vs:List Own.Val}{xs:List V},RVs K H vs xs->vs.length=xs.length
 |_,_,.nil=>rfl
 |_,_,.cons _ t=>by rw[Å,Å,RVs.length t]
theorem RVs.get:∀{vs:List Own.Val}{xs:List V}{i:Nat}{v:Own.Val},RVs K H vs xs->vs[i]?=some v->∃x,xs[i]?=some x/\RV K H v x
 |_,_,_,_,.nil,e=>by simp at e
 |_,_,0,_,.cons r _,e=>by simp at e;subst e;exact⟨_,rfl,r⟩
 |_,_,i+1,v,.cons _ t,e=>by obtain⟨x,h1,h2⟩:=RVs.get (i:=i) (v:=v) t (by simpa using e);exact⟨x,by simpa using h1,h2⟩
theorem RVs.append:∀{vs us:List Own.Val}{xs ys:List V},RVs K H vs xs->RVs K H us ys->RVs K H (vs++us) (xs++ys)
 |_,_,_,_,.nil,h=>h
 |_,_,_,_,.cons r t,h=>.cons r<|RVs.append t h
theorem RVs.set{v:Own.Val}{x:V}(r:RV K H v x):∀{vs:List Own.Val}{xs:List V}(i:Nat),RVs K H vs xs->RVs K H (vs.set i v) (xs.set i x)
 |_,_,_,.nil=>.nil
 |_,_,0,.cons _ t=>.cons r t
 |_,_,i+1,.cons q t=>.cons q<|RVs.set r i t
theorem RVs.take:∀{vs:List Own.Val}{xs:List V}(n:Nat),RVs K H vs xs->RVs K H (vs.take n) (xs.take n)
 |_,_,0,_=>.nil
 |_,_,_+1,.nil=>.nil
 |_,_,n+1,.cons r t=>.cons r<|RVs.take n t
theorem RVs.drop:∀{vs:List Own.Val}{xs:List V}(n:Nat),RVs K H vs xs->RVs K H (vs.drop n) (xs.drop n)
 |_,_,0,r=>r
 |_,_,_+1,.nil=>.nil
 |_,_,n+1,.cons _ t=>RVs.drop n t
variable {vs:List Own.Val} {xs:List V}
theorem RVs.reverse(r:RVs K H vs xs):RVs K H vs.reverse xs.reverse:=by
 induction r using RVs.rec (motive_1:=fun _ _ _=>True)with
 |nil=>exact .nil
 |cons r t _ ih=>rw[Ũ,Ũ];exact ih.append<|.cons r .nil
 |_=>trivial
theorem RVs.eraseIdx:∀{vs:List Own.Val}{xs:List V}(i:Nat),RVs K H vs xs->RVs K H (vs.eraseIdx i) (xs.eraseIdx i)
 |_,_,_,.nil=>.nil
 |_,_,0,.cons _ t=>t
 |_,_,i+1,.cons q t=>.cons q<|RVs.eraseIdx i t
theorem RVs.dropLast(r:RVs K H vs xs):RVs K H vs.dropLast xs.dropLast:=by rw[aB,aB,r.length];exact r.take _
theorem Zk{vs:List V}(h:H a=some (.tup vs)\/KT K a vs):SqT K H a vs:=by
 rcases h with h|h
 .exact SqT.of h
 .exact .inr h
structure Inf where
 K:PySem.W.Frag
 cl:String->Ä->Prop
 ins:String->Bool
 xc:String->Ä->Prop
def XJ:Own.Val->Key->Prop
 |.int i,.inl j=>i=j
 |.str s,.inr t=>t=Str.ofString s
 |_,_=>False
inductive RKs (K:PySem.W.Frag) (H:Hp):List (Own.Val×Own.Val)->List (Key×V)->Prop
 |nil:RKs K H [] []
 |cons {k v:Own.Val}{c:Key}{x:V}{kvs:List (Own.Val×Own.Val)}{ps:List (Key×V)}:XJ k c->RV K H v x->RKs K H kvs ps->RKs K H ((k,v)::kvs) ((c,x)::ps)
inductive RFs (K:PySem.W.Frag) (H:Hp):List (String×Own.Val)->List (Str×V)->Prop
 |nil:RFs K H [] []
 |cons {f:String}{v:Own.Val}{x:V}{fs:List (String×Own.Val)}{ps:List (Str×V)}:RV K H v x->RFs K H fs ps->RFs K H ((f,v)::fs) ((Str.ofString f,x)::ps)
theorem RKs.keep(k:Keep H H'):∀{kvs:List (Own.Val×Own.Val)}{ps:List (Key×V)},RKs K H kvs ps->RKs K H' kvs ps
 |_,_,.nil=>.nil
 |_,_,.cons a r t=>.cons a (r.keep k)<|RKs.keep k t
inductive RTs (K:PySem.W.Frag) (H:Hp):List (Own.Val×Own.Val)->List (List Key×V)->Prop
 |nil:RTs K H [] []
 |cons {i j:Int}{v:Own.Val}{x:V}{kvs:List (Own.Val×Own.Val)}{ps:List (List Key×V)}:RV K H v x->RTs K H kvs ps->RTs K H ((.key i j,v)::kvs) (([.inl i,.inl j],x)::ps)
theorem RTs.keep(k:Keep H H'):∀{kvs:List (Own.Val×Own.Val)}{ps:List (List Key×V)},RTs K H kvs ps->RTs K H' kvs ps
 |_,_,.nil=>.nil
 |_,_,.cons r t=>.cons (r.keep k)<|RTs.keep k t
theorem RFs.keep(k:Keep H H'):∀{fs:List (String×Own.Val)}{ps:List (Str×V)},RFs K H fs ps->RFs K H' fs ps
 |_,_,.nil=>.nil
 |_,_,.cons r t=>.cons (r.keep k)<|RFs.keep k t
def RO(i:Inf)(H:Hp)(a:Ä):Own.Ob->Prop
 |.lst xs=>∃vs,H a=some (.lst vs)/\RVs i.K H xs vs
 |.dct kvs=>∃ps,H a=some (.dK ps)/\RKs i.K H kvs ps
 |.ins C fs=>∃c dx ps,i.ins C=true/\i.cl C c/\H a=some (.ins c dx ps)/\RFs i.K H fs ps
 |.exc C=>∃c,i.xc C c/\H a=some (xcO a<|.ref c)
 |.frz kvs=>∃o ps,H a=some (.frz o<|.dK ps)/\RKs i.K H kvs ps
 |.dtp kvs=>∃ps,H a=some (.dT ps)/\RTs i.K H kvs ps
variable {i:Inf}
theorem RO.there{o:Own.Ob}(r:RO i H a o):∃u,H a=some u:=by
 cases o with
 |lst xs=>obtain⟨_,e,_⟩:=r;exact⟨_,e⟩
 |dct kvs=>obtain⟨_,e,_⟩:=r;exact⟨_,e⟩
 |ins C fs=>obtain⟨_,_,_,_,_,e,_⟩:=r;exact⟨_,e⟩
 |exc C=>obtain⟨_,_,e⟩:=r;exact⟨_,e⟩
 |frz kvs=>obtain⟨_,_,e,_⟩:=r;exact⟨_,e⟩
 |dtp kvs=>obtain⟨_,e,_⟩:=r;exact⟨_,e⟩
theorem RO.move{o:Own.Ob}(r:RO i H a o)(k:Keep H H')(e:H' a=H a):RO i H' a o:=by
 cases o with
 |lst xs=>obtain⟨vs,q,r⟩:=r;exact⟨vs,e.trans q,r.keep k⟩
 |dct kvs=>obtain⟨ps,q,r⟩:=r;exact⟨ps,e.trans q,r.keep k⟩
 |ins C fs=>obtain⟨c,dx,ps,h0,h,q,r⟩:=r;exact⟨c,dx,ps,h0,h,e.trans q,r.keep k⟩
 |exc C=>obtain⟨c,h,q⟩:=r;exact⟨c,h,e.trans q⟩
 |frz kvs=>obtain⟨o,ps,q,r⟩:=r;exact⟨o,ps,e.trans q,r.keep k⟩
 |dtp kvs=>obtain⟨ps,q,r⟩:=r;exact⟨ps,e.trans q,r.keep k⟩
def RH(i:Inf)(G:Own.Hs)(H:Hp):Prop:=∀a o,G a=some o->RO i H a o
variable {G:Own.Hs}
theorem RH.free(r:RH i G H)(e:H a=none):G a=none:=by
 cases q:G a with
 |none=>rfl
 |some o=>obtain⟨u,z⟩:=(r a o q).there;rw[e]at z;cases z
theorem RH.put{o:Own.Ob}{u:HO}(r:RH i G H)(k:Keep H<|upd H a u)(n:RO i (upd H a u) a o):RH i (Own.upd G a o)<|upd H a u:=fun b p e=>by
 by_cases hb:b=a
 .subst hb;rw[Own.upd_same]at e;cases e;exact n
 .rw[Own.upd_ne hb]at e;exact(r b p e).move k<|upd_ne hb
theorem RH.hid(r:RH i G H)(k:Keep H H')(e:∀a o,G a=some o->H' a=H a):RH i G H':=fun b p q=>(r b p q).move k (e b p q)
structure REn(K:PySem.W.Frag)(H:Hp)(env:Own.Env)(σ:St):Prop where
 len:env.length=σ.length
 get:∀(i:Nat) (v:Own.Val),env[i]?=some (some v)->∃x,σ[i]?=some (some x)/\RV K H v x
variable {σ:St}
theorem REn.keep{env:Own.Env}(r:REn K H env σ)(k:Keep H H'):REn K H' env σ:=⟨r.len,fun i v e=>by
  obtain⟨x,h1,h2⟩:=r.get i v e
  exact⟨x,h1,h2.keep k⟩⟩
theorem REn.set{env:Own.Env}{v:Own.Val}{x:V}(r:REn K H env σ)(q:RV K H v x)(j:Nat):REn K H (env.set j<|some v)<|σ.set j<|some x:=⟨by simp[r.len],fun i u e=>by
  by_cases hij:j=i
  . subst hij
    rw[ů]at e
    cases z:env[j]? with
    |none=>rw[z]at e;cases e
    |some w =>
      rw[z]at e
      cases e
      have hj:j<σ.length:=by rw[<-r.len];exact(ð.mp z).1
      exact⟨x,ŵ hj,q⟩
  . rw[Ĝ hij]at e
    obtain⟨y,h1,h2⟩:=r.get i u e
    exact⟨y,by rw[Ĝ hij];exact h1,h2⟩⟩
theorem REn.start{n:Nat}(r:RVs K H vs xs):REn K H (vs.map some++Ë n none)<|xs.map some++Ë n none:=⟨by simp[r.length],fun i v e=>by
  by_cases hi:i<vs.length
  . rw[Ă (by simpa using hi),í]at e
    cases z:vs[i]? with
    |none=>rw[z]at e;cases e
    |some w =>
      rw[z]at e
      cases e
      obtain⟨x,h1,h2⟩:=r.get z
      exact⟨x,by rw[Ă (by rw[È,<-r.length];exact hi),í,h1];rfl,h2⟩
  . rw[ą (by simpa using hi),İ]at e
    split at e<;>cases e⟩
theorem RVs.ints{K:PySem.W.Frag}{H:Hp}:∀ns:List Int,RVs K H (ns.map Own.Val.int) (ns.map V.int)
 |[]=>.nil
 |n::ns=>.cons (.int n)<|RVs.ints ns
theorem Z3{ns:List Int}(h:(∃o,H a=some (.frz o<|.lst<|ns.map V.int))\/KL K a (ns.map V.int)):SqL K H a<|ns.map V.int:=by
 rcases h with⟨o,h⟩|h
 .exact .inl<|.inr ⟨o,h⟩
 .exact .inr h
variable {i:Inf}{X:Cx}{Φ:Own.Fs}
noncomputable def XK1(i:Inf)(H:Hp)(Em:Own.XQ):XK:=fun cls _ H'=>∃c G' ad,cls=.ref ad/\i.xc c ad/\Keep H H'/\RH i G' H'/\Em c G'
def XOk(X:Cx)(i:Inf)(H:Hp)(Em:Own.XQ):Prop:=XW X<|XK1 i H Em
variable {H:Hp} {H1:Hp} {Em:Own.XQ}
theorem XK1.go{H':Hp}{cls:Á}{d:Option Ä}(k:Keep H H1)(h:XK1 i H1 Em cls d H'):XK1 i H Em cls d H':=by obtain⟨c,G',ad,e,q,k',r,m⟩:=h;exact⟨c,G',ad,e,q,k.trans k',r,m⟩
theorem XOk.go(x:XOk X i H Em)(k:Keep H H1):XOk X i H1 Em:=fun À σ H0 s H' a cls s' I f e=>x À σ H0 s H' a cls s' I f (e.go k)
structure Pre(X:Cx)(i:Inf)(σ:St)(H:Hp)(env:Own.Env)(G:Own.Hs)(Em:Own.XQ):Prop where
 en:REn i.K H env σ
 hp:RH i G H
 xo:XOk X i H Em
variable {σ:St} {G:Own.Hs}
theorem Pre.go{env:Own.Env}{G1:Own.Hs}(p:Pre X i σ H env G Em)(k:Keep H H1)(r:RH i G1 H1):Pre X i σ H1 env G1 Em:=⟨p.en.keep k,r,p.xo.go k⟩
def Cn(i:Inf)(H:Hp)(Q:VK)(Qm:Own.Q1):Prop:=∀v G' H' x,Keep H H'->RH i G' H'->RV i.K H' v x->Qm v G'->Q x H'
variable {Q:VK} {Qm:Own.Q1}
theorem Cn.go(c:Cn i H Q Qm)(k:Keep H H1):Cn i H1 Q Qm:=fun v G' H' x k'=>c v G' H' x (k.trans k')
inductive tEx (X:Cx) (i:Inf) (Φ:Own.Fs) (m:Own.E) (σ:St) (H:Hp) (Q:VK):Prop
 |mk (env:Own.Env) (G:Own.Hs) (Qm:Own.Q1) (Em:Own.XQ) (p:Pre X i σ H env G Em) (w:Own.wE Φ m env G Qm Em) (c:Cn i H Q Qm)
noncomputable def tE(X:Cx)(i:Inf)(Φ:Own.Fs)(m:Own.E):TE:=tEx X i Φ m
inductive tArx (X:Cx) (i:Inf) (Φ:Own.Fs) (ms:Own.Es) (n:Nat) (σ:St) (H:Hp) (Q:List V->Hp->Prop):Prop
 |mk (env:Own.Env) (G:Own.Hs) (Qm:List Own.Val->Own.Hs->Prop) (Em:Own.XQ) (p:Pre X i σ H env G Em) (w:Own.wA Φ ms env G Qm Em) (c:∀vs G' H' xs,Keep H H'->RH i G' H'->RVs i.K H' vs xs->xs.length=n->Qm vs G'->Q xs H')
noncomputable def tAr(X:Cx)(i:Inf)(Φ:Own.Fs)(ms:Own.Es)(n:Nat):TA:=tArx X i Φ ms n
inductive tTtx (X:Cx) (i:Inf) (Φ:Own.Fs) (m:Own.Tt) (σ:St) (H:Hp) (Q:Bool->Hp->Prop):Prop
 |mk (env:Own.Env) (G:Own.Hs) (Qm:Bool->Own.Hs->Prop) (Em:Own.XQ) (p:Pre X i σ H env G Em) (w:Own.wT Φ m env G Qm Em) (c:∀b G' H',Keep H H'->RH i G' H'->Qm b G'->Q b H')
noncomputable def tTt(X:Cx)(i:Inf)(Φ:Own.Fs)(m:Own.Tt):TT:=tTtx X i Φ m
variable {e:Expr}
theorem _root_.L2.PE.imp{t t':TE}(h:PE X e t)(f:∀σ H Q,t' σ H Q->t σ H Q):PE X e t':=fun À s σ H Q I q=>h À s σ H Q I (f σ H Q q)
variable {t':TT}
theorem _root_.L2.PT.imp{t:TT}(h:PT X e t)(f:∀σ H Q,t' σ H Q->t σ H Q):PT X e t':=fun À s σ H Q I q=>h À s σ H Q I (f σ H Q q)
theorem _root_.L2.PW.imp{t:TT}(h:PW X e t)(f:∀σ H Q,t' σ H Q->t σ H Q):PW X e t':=fun wh À s σ H Q I q=>h wh À s σ H Q I (f σ H Q q)
variable {es:List Expr}
theorem _root_.L2.PA.imp{t t':TA}(h:PA X es t)(f:∀σ H Q,t' σ H Q->t σ H Q):PA X es t':=fun ë À s σ H Q I q=>h ë À s σ H Q I (f σ H Q q)
variable {j:Nat}
theorem Fa{env:Own.Env}{h:Own.Hs}{Q:Own.Q1}{E:Own.XQ}:(Own.wE Φ (.var j) env h Q E)=(Own.go (Own.getV env j) fun v=>Q v h):=rfl
theorem go_some{α:Type}{o:Option α}{k:α->Prop}(h:Own.go o k):∃a,o=some a/\k a:=by
 cases o with
 |none=>simp at h
 |some a=>exact⟨a,rfl,by simpa using h⟩
variable {v:Own.Val}
theorem M4{env:Own.Env}(h:Own.getV env j=some v):env[j]?=some (some v):=by
 unfold Own.getV at h;split at h
 .rename_i u e;cases h;exact e
 .cases h
variable {ë:Pos}
theorem F0{x:Str}(hN:X.N[j]?=some x)(hv:Vis X.env.scope x)(hd:(x==("__debug__" : Str))=false)(aV:(x==("__classdict__" : Str))=false):PE X (.Name x ë) (tE X i Φ<|.var j) :=
 (C2 hN hv hd aV).imp fun σ H Q ⟨env,G,Qm,Em,p,w,c⟩=>by rw[Fa]at w;obtain⟨v,e,q⟩:=go_some w;obtain⟨y,h1,h2⟩:=p.en.get j v<|M4 e;exact⟨y,h1,c v G H y (Keep.refl H) p.hp h2 q⟩
variable {x:V}
theorem Xq(h:PE X e<|tC x)(r:∀H,RV i.K H v x):PE X e (tE X i Φ<|.cst v) :=
 h.imp fun σ H Q ⟨env,G,Qm,Em,p,w,c⟩=>by exact c v G H x (Keep.refl H) p.hp (r H) w
theorem DO{y:String}(h:PE X e<|tC x)(r:∀H,RV i.K H v x):PE X e (tE X i Φ<|.glob y v) :=
 h.imp fun σ H Q ⟨env,G,Qm,Em,p,w,c⟩=>by exact c v G H x (Keep.refl H) p.hp (r H) w
variable {a:Own.E}
theorem two{b:Own.E}{env:Own.Env}{F:Own.Val->Own.Val->Own.Hs->Prop}{R:V->V->Hp->Prop}(p:Pre X i σ H env G Em)
  (w:Own.wE Φ a env G (fun v G1=>Own.wE Φ b env G1 (fun u G2=>F v u G2) Em) Em)
  (h:∀v u G2 H2 x y,Keep H H2->Pre X i σ H2 env G2 Em->RV i.K H2 v x->RV i.K H2 u y->F v u G2->R x y H2):tE X i Φ a σ H fun x H1=>tE X i Φ b σ H1 fun y H2=>R x y H2 :=
 ⟨env,G,_,Em,p,w,fun v G1 H1 x k1 g1 r1 w1=>⟨env,G1,_,Em,p.go k1 g1,w1,fun u G2 H2 y k2 g2 r2 w2=>h v u G2 H2 x y (k1.trans k2) ((p.go k1 g1).go k2 g2) (r1.keep k2) r2 w2⟩⟩
theorem one{env:Own.Env}{F:Own.Val->Own.Hs->Prop}{R:V->Hp->Prop}(p:Pre X i σ H env G Em)
  (w:Own.wE Φ a env G (fun v G1=>F v G1) Em) (h:∀v G1 H1 x,Keep H H1->Pre X i σ H1 env G1 Em->RV i.K H1 v x->F v G1->R x H1):tE X i Φ a σ H fun x H1=>R x H1 :=
 ⟨env,G,_,Em,p,w,fun v G1 H1 x k1 g1 r1 w1=>h v G1 H1 x k1 (p.go k1 g1) r1 w1⟩
def XT(i:Inf)(op:Own.Bop)(r:R2):Prop:=∀(v u:Own.Val) (G:Own.Hs) (H:Hp) (x y:V) (Q:VK) (Qm:Own.Q1),RH i G H->RV i.K H v x->RV i.K H u y->(Own.binV G op v u).wp G Qm->Cn i H Q Qm->r x y H Q
variable {b:Expr} {ma:Own.E} {mb:Own.E} {r:R2}
theorem WG{a:Expr}{op:Operator}{bop:Own.Bop}(ho:OpR X (Ĭ op) r)(hr:XT i bop r)(ha:PE X a<|tE X i Φ ma)(hb:PE X b<|tE X i Φ mb):PE X (.BinOp a op b ë) (tE X i Φ<|.bin bop ma mb) :=
 (EO ho ha hb).imp fun σ H Q ⟨env,G,Qm,Em,p,w,c⟩=>by exact two p w fun v u G2 H2 x y k2 p2 rx ry q=>hr v u G2 H2 x y Q Qm p2.hp rx ry q<|c.go k2
def ZK(i:Inf)(op:Own.Cop)(r:R2):Prop:=∀(v u:Own.Val) (G:Own.Hs) (H:Hp) (x y:V) (c:Bool) (Q:VK),RH i G H->RV i.K H v x->RV i.K H u y->Own.cmpV G op v u=some c->Q (.bl c) H->r x y H Q
variable {op:ao} {cop:Own.Cop}
theorem FT{a:Expr}(ho:OpR X (Ý op) r)(hr:ZK i cop r)(ha:PE X a<|tE X i Φ ma)(hb:PE X b<|tE X i Φ mb)(hm:Ĥ op b=false):PE X (.Compare a [op] [b] ë) (tE X i Φ<|.cmp cop ma mb) :=
 (MN ho ha hb hm).imp fun σ H Q ⟨env,G,Qm,Em,p,w,c⟩=>by
  exact two p w fun v u G2 H2 x y k2 p2 rx ry q=>by obtain⟨d,e,q⟩:=go_some q;exact hr v u G2 H2 x y d Q p2.hp rx ry e<|c (.bl d) G2 H2 (.bl d) k2 p2.hp (.bl d) q
theorem Et{a:Expr}(ho:OpR X (Ý op) r)(hr:ZK i cop r)(ha:PE X a<|tE X i Φ ma)(hb:PE X b<|tE X i Φ mb)(hm:Ĥ op b=false):PT X (.Compare a [op] [b] ë) (tTt X i Φ<|.val<|.cmp cop ma mb) :=
 (Mr ho ha hb hm).imp fun σ H Q ⟨env,G,Qm,Em,p,w,c⟩=>by
  exact two p w fun v u G2 H2 x y k2 p2 rx ry q=>by obtain⟨d,e,q⟩:=go_some q;obtain⟨d',e',q⟩:=go_some q;cases e';exact hr v u G2 H2 x y d _ p2.hp rx ry e ⟨d,rfl,c d G2 H2 k2 p2.hp q⟩
theorem Y6{b:Bool}(h:Own.asBl v=some b):v=.bl b:=by cases v<;>simp_all [Own.asBl]
theorem Z8{b:Int}(h:Own.asInt v=some b):v=.int b:=by cases v<;>simp_all [Own.asInt]
theorem RV.bl_inv{K:PySem.W.Frag}{b:Bool}(r:RV K H (.bl b) x):x=.bl b:=by cases r;rfl
theorem RV.int_inv{K:PySem.W.Frag}{b:Int}(r:RV K H (.int b) x):x=.int b:=by cases r;rfl
theorem RV.ref_inv{K:PySem.W.Frag}{b:Ä}(r:RV K H (.ref b) x):x=.ref b:=by cases r;rfl
theorem RV.str_inv{K:PySem.W.Frag}{b:String}(r:RV K H (.str b) x):x=.str (Str.ofString b):=by cases r;rfl
theorem EU{a:Expr}(ha:PE X a<|tE X i Φ ma):PE X (.UnaryOp .Not a ë) (tE X i Φ<|.not ma) :=
 (Cd ha).imp fun σ H Q ⟨env,G,Qm,Em,p,w,c⟩=>by
  exact one p w fun v G1 H1 x k1 p1 r q=>by obtain⟨b,e,q2⟩:=go_some q;clear q;cases Y6 e;exact⟨b,r.bl_inv,c _ G1 H1 _ k1 p1.hp (.bl _) q2⟩
theorem F9{a:Expr}(ha:PE X a<|tE X i Φ ma):PE X (.UnaryOp .USub a ë) (tE X i Φ<|.neg ma) :=
 (Gk DE ha).imp fun σ H Q ⟨env,G,Qm,Em,p,w,c⟩=>by
  exact one p w fun v G1 H1 x k1 p1 r q=>by obtain⟨b,e,q2⟩:=go_some q;clear q;cases Z8 e;exact⟨b,r.int_inv,c _ G1 H1 _ k1 p1.hp (.int _) q2⟩
theorem E5{a:Expr}{rest:List Expr}(ha:PE X a<|tE X i Φ ma)(hb:PE X (.BoolOp .And (b::rest) ë)<|tE X i Φ mb):PE X (.BoolOp .And (a::b::rest) ë) (tE X i Φ<|.and ma mb) :=
 (Dh ha hb).imp fun σ H Q ⟨env,G,Qm,Em,p,w,c⟩=>by
  exact one p w fun v G1 H1 x k1 p1 r q=>by
   obtain⟨d,e,q2⟩:=go_some q;clear q;cases Y6 e;refine⟨d,r.bl_inv,?_⟩;cases d with
   |true=>exact⟨env,G1,Qm,Em,p1,by simpa using q2,c.go k1⟩
   |false=>simp at q2 ⊢;exact c _ G1 H1 _ k1 p1.hp (.bl _) q2
theorem Hk{a:Expr}{rest:List Expr}(ha:PE X a<|tE X i Φ ma)(hb:PE X (.BoolOp .Or (b::rest) ë)<|tE X i Φ mb):PE X (.BoolOp .Or (a::b::rest) ë) (tE X i Φ<|.or ma mb) :=
 (Gn ha hb).imp fun σ H Q ⟨env,G,Qm,Em,p,w,c⟩=>by
  exact one p w fun v G1 H1 x k1 p1 r q=>by
   obtain⟨d,e,q2⟩:=go_some q;clear q;cases Y6 e;refine⟨d,r.bl_inv,?_⟩;cases d with
   |false=>exact⟨env,G1,Qm,Em,p1,by simpa using q2,c.go k1⟩
   |true=>simp at q2 ⊢;exact c _ G1 H1 _ k1 p1.hp (.bl _) q2
theorem DR{a:Expr}{ma:Own.Tt}(ha:PT X a<|tTt X i Φ ma):PT X (.UnaryOp .Not a ë) (tTt X i Φ<|.not ma) :=
 (Cm ha).imp fun σ H Q ⟨env,G,Qm,Em,p,w,c⟩=>by exact⟨env,G,_,Em,p,w,fun b G1 H1 k1 g1 q=>c (!b) G1 H1 k1 g1 q⟩
theorem C3{a:Expr}{rest:List Expr}{ma mb:Own.Tt}(ha:PT X a<|tTt X i Φ ma)(hb:PW X (.BoolOp .And (b::rest) ë)<|tTt X i Φ mb):PW X (.BoolOp .And (a::b::rest) ë) (tTt X i Φ<|.and ma mb) :=
 (Ev ha hb).imp fun σ H Q ⟨env,G,Qm,Em,p,w,c⟩=>by
  refine⟨env,G,_,Em,p,w,fun d G1 H1 k1 g1 q=>?_⟩;cases d with
  |true=>exact⟨env,G1,Qm,Em,p.go k1 g1,by simpa using q,fun b G2 H2 k2=>c b G2 H2<|k1.trans k2⟩
  |false=>simp at q ⊢;exact c false G1 H1 k1 g1 q
theorem Fm{a:Expr}{rest:List Expr}{ma mb:Own.Tt}(ha:PT X a<|tTt X i Φ ma)(hb:PW X (.BoolOp .Or (b::rest) ë)<|tTt X i Φ mb):PW X (.BoolOp .Or (a::b::rest) ë) (tTt X i Φ<|.or ma mb) :=
 (FM ha hb).imp fun σ H Q ⟨env,G,Qm,Em,p,w,c⟩=>by
  refine⟨env,G,_,Em,p,w,fun d G1 H1 k1 g1 q=>?_⟩;cases d with
  |false=>exact⟨env,G1,Qm,Em,p.go k1 g1,by simpa using q,fun b G2 H2 k2=>c b G2 H2<|k1.trans k2⟩
  |true=>simp at q ⊢;exact c true G1 H1 k1 g1 q
theorem Am{a:Expr}{ma:Own.Tt}(ha:PT X a<|tTt X i Φ ma):PW X (.BoolOp .And [a] ë)<|tTt X i Φ ma:=Ao ha
theorem Ef{a:Expr}{ma:Own.Tt}(ha:PT X a<|tTt X i Φ ma):PW X (.BoolOp .Or [a] ë)<|tTt X i Φ ma:=Cy ha
theorem Dy:PA X []<|tAr X i Φ .nil 0:=pa_nil.imp fun σ H Q ⟨env,G,Qm,Em,p,w,c⟩=>by exact c [] G H [] (Keep.refl H) p.hp .nil rfl w
theorem Bf{m:Own.E}{ms:Own.Es}{n:Nat}(he:PE X e<|tE X i Φ m)(hes:PA X es<|tAr X i Φ ms n)(hs:Ð (e::es) X.env=(false,eval e X.env)::Ð es X.env):PA X (e::es) (tAr X i Φ (.cons m ms)<|n+1) :=
 (Zz he hes hs).imp fun σ H Q ⟨env,G,Qm,Em,p,w,c⟩=>by exact⟨env,G,_,Em,p,w,fun v G1 H1 x k1 g1 r1 w1=>⟨env,G1,_,Em,p.go k1 g1,w1,fun vs G2 H2 xs k2 g2 r2 hn w2=>c (v::vs) G2 H2 (x::xs) (k1.trans k2) g2 (.cons (r1.keep k2) r2) (by rw[Å,hn]) w2⟩⟩
theorem ZE:Own.lim<=Ô:=by decide
theorem YC{o:Own.Ob}{u:HO}(g:RH i G H)(w:Own.new G o Qm)(c:Cn i H Q Qm)(r:∀p,H p=none->RO i (upd H p u) p o):∀p,H p=none->Q (.ref p) (upd H p u):=fun p hp=>by unfold Own.new at w;exact c (.ref p) _ _ (.ref p) (Keep.new hp) (g.put (Keep.new hp)<|r p hp) (.ref p) (w p<|g.free hp)
end Snd
namespace HT2
open PySem PySem.Spec PyProof.Rows L2
noncomputable def ZQ:List Int->List Int->Bool
 |[],[]=>false
 |[],_::_=>false
 |_::_,[]=>true
 |x::xs,y::ys=>if x=y then ZQ xs ys else decide (x > y)
theorem Uu(A:ć)(s:Â)(a:Int)(t:Tok)(c:Int)(u:Tok)(prog:à)(w:þ)(E:Á->Â->Prop)(Q:Á->Â->Prop)(h:Q (.bool<|decide (a > c)) s) :
  wpAny (Ö prog w) A (richCompare .Gt (.int a t)<|.int c u) Q E s :=
 (PyProof.Rows.gt_int h:wpAny (Ö prog w) A (Ý .Gt (.int a t)<|.int c u) Q E s)
section
open PySem.SeqAt
open PySem.AutoSeq1 (wpAny_loadPart')
open PySem.MeetsSeq PySem.MeetsSeq2 PySem.MeetsSeq3
theorem Wg(l b:Ä)(items ħ:Array Á)(n n2:Nat)(dd bG:Option Ä)(sl aX:Array<|Option Á)(ns ms:List Int)(hi:Ĕ items.toList ns)(hj:Ĕ ħ.toList ms) :
  Meets (Builtin.«tuple.__gt__» ⟨[.ref l,.ref b],[]⟩)
   (fun _ R s=>s.heap.get? l=some { cls:=.type "tuple",dict:=dd,data:=.seq items n,slots:=sl }/\s.heap.get? b=some { cls:=.type "tuple",dict:=bG,data:=.seq ħ n2,slots:=aX }/\
     R (.ok<|.ret<|.bool<|ZQ ns ms) s) :=
 .of_wp fun prog w A R s h=>by
  obtain⟨hp,g,d,tk,os⟩:=s;obtain⟨hl,hb,h⟩:=h;have f2:=AutoSeq1.sub_tuple_tuple;have z1:items.size=ns.length:=by rw[<-hi.length];simp
  have z2:ħ.size=ms.length:=by rw[<-hj.length];simp
  wp_walk using Ī hl,Ī hb,wpAny_forIn_list _ (fun rest b s'=>b.1=none/\s'=⟨hp,g,d,tk,os⟩/\∃(vs ws:List Á) (bo bp:List Int),rest=vs.zip ws/\
    Ĕ vs bo/\Ĕ ws bp/\bo.length+ħ.size=bp.length+items.size/\R (.ok<|.ret<|.bool<|ZQ bo bp) ⟨hp,g,d,tk,os⟩) _
  case turn =>
   rintro⟨y,x⟩ rest b s' ⟨hb',rfl,vs,ws,bo,bp,hz,hvi,hwi,ģ,hR⟩;cases hvi with
   |nil=>rw[ŧ]at hz;cases hz
   |cons a t hvi' =>
    cases hwi with
    |nil=>rw[Š]at hz;cases hz
    |cons c u hwi' =>
     rw[Ĳ]at hz;injection hz with hyx hrest;injection hyx with hy hx;subst hy hx;rw[ZQ]at hR;simp only[Å]at ģ;obtain⟨e,he,hiff⟩:=HT.eqAt_int A.in1 ⟨hp,g,d,tk,os⟩ a t c u;refine Ã<|he prog w _ _ ?_;cases e with
     |true =>
      rw[if_pos<|hiff.mp rfl]at hR
      wp_walk
      exact⟨rfl,rfl,_,_,_,_,hrest,hvi',hwi',by omega,hR⟩
     |false =>
      rw[if_neg fun q=>absurd (hiff.mpr q) ú]at hR;have hri:=Uu A.in1 ⟨hp,g,d,tk,os⟩ a t c u prog w
      wp_walk using hri
      exact⟨_,rfl,by simpa using hR⟩
  case fin =>
   rintro⟨b1,b2⟩ s' ⟨hb',rfl,vs,ws,bo,bp,hz,hvi,hwi,ģ,hR⟩;simp only at hb';subst hb';have hv:ZQ bo bp=decide (items.size > ħ.size):=by
    cases hvi with
    |nil =>
     cases hwi with
     |nil =>simp only[ä]at ģ;rw[ZQ];exact(decide_eq_false<|by omega).symm
     |cons c u hw =>simp only[ä,Å]at ģ;rw[ZQ];exact(decide_eq_false<|by omega).symm
    |cons a t hv =>
     cases hwi with
     |nil =>simp only[ä,Å]at ģ;rw[ZQ];exact(decide_eq_true<|by omega).symm
     |cons c u hw =>rw[Ĳ]at hz;cases hz
   rw[hv]at hR
   wp_walk
   exact⟨_,rfl,by simpa[Builtin.Tuple.tupleCompareSizes]using hR⟩
  case h =>exact⟨rfl,rfl,items.toList,ħ.toList,ns,ms,rfl,hi,hj,by omega,h⟩
end
theorem Kh{prog:à}{w:þ}{A:ć}{E:Á->Â->Prop}{s:Â}{l b:Ä}{items ħ:Array Á}{ns ms:List Int}{Q:Á->Â->Prop}(hl:Ζ s.heap l items)(hb:Ζ s.heap b ħ)(hi:Ĕ items.toList ns)(hj:Ĕ ħ.toList ms)
  (hu:A.units<Ğ) (h:Q (.bool<|ZQ ns ms) s):wpAny (Ö prog w) A (Ý .Gt (.ref l)<|.ref b) Q E s:=by
 obtain⟨⟨cls,dd,data,sl⟩,ho,hc,n,hd⟩:=id hl;obtain⟨⟨cls2,bG,data2,aX⟩,ho2,hc2,n2,aJ⟩:=id hb;simp only at hc hd hc2 aJ;subst hc hd hc2 aJ;exact bL (op:=.Gt) ⟨_,ho,rfl⟩ ⟨_,ho2,rfl⟩ PySem.F.slot_tuple_gt PySem.F.entry_tuple_gt (PySem.F.args_tuple_gt_2 _ _) (Wg l b items ħ n n2 dd bG sl aX ns ms hi hj)
  ⟨ho,ho2,show Value.bool (ZQ ns ms)≠aq/\Q (.bool<|ZQ ns ms) s from ⟨(fun x=>nomatch x),h⟩⟩ hu
noncomputable def rGtT(K:PySem.W.Frag):R2:=fun x y H Q=>∃a b ns ms,x=.ref a/\y=.ref b/\SqT K H a (ns.map V.int)/\SqT K H b (ms.map V.int)/\Q (.bl<|ZQ ns ms) H
theorem op_gtT{X:Cx}(hu:X.A.units<Ğ):OpR X (Ý .Gt)<|rGtT X.K:=by intro À s σ H x y v u Q I rx ry h;obtain⟨a,b,ns,ms,rfl,rfl,ha,hb,q⟩:=h;cases rx;cases ry;obtain⟨ò,r1,p1,_⟩:=I.tuple ha;obtain⟨ſ,r2,p2,_⟩:=I.tuple hb;have i1:Ĕ ò.toArray.toList ns:=ZS r1;have i2:Ĕ ſ.toArray.toList ms:=ZS r2;exact Kh p1 p2 i1 i2 hu ⟨.bl<|ZQ ns ms,H,I,rfl,q⟩
theorem lexGt_lt:∀(ns ms:List Int),ZQ ns ms=HT.lexLt ms ns
 |[],[]=>rfl
 |[],_::_=>rfl
 |_::_,[]=>rfl
 |x::xs,y::ys=>by
  rw[ZQ,HT.lexLt_cons,lexGt_lt xs ys];by_cases e:x=y
  .rw[if_pos e,if_pos e.symm]
  .rw[if_neg e,if_neg fun z=>e z.symm]
end HT2
namespace Snd
open PySem L2
mutual
noncomputable def toD:Own.D->Ŀ
 |.non=>.none
 |.bl b=>.bool b
 |.int i=>.int i
 |.str s=>.str<|Str.ofString s
 |.tup ds=>.tuple<|toDs ds
 |.lst ds=>.list<|toDs ds
noncomputable def toDs:List Own.D->List Ŀ
 |[]=>[]
 |d::ds=>toD d::toDs ds
end
theorem ofS_inj{s t:String}:Str.ofString s=Str.ofString t↔s=t:=by
 constructor
 .intro h;rw[Str.ofString_eq_toList,Str.ofString_eq_toList]at h;injection h with h;have h2:s.toList.map ü=t.toList.map ü:=by simpa using congrArg ϵ h
  have inj:∀{a b:Char},a.toNat=b.toNat->a=b:=fun{a b} e=>Char.ext<|Ŝ e;have:s.toList=t.toList:=by
   revert h2;generalize s.toList=a;generalize t.toList=b;intro h2;induction a generalizing b with
   |nil=>cases b with
    |nil=>rfl
    |cons _ _=>cases h2
   |cons x xs ih=>cases b with
    |nil=>cases h2
    |cons y ys =>simp only[Ó,List.cons.injEq]at h2;rw[inj h2.1,ih _ h2.2]
  exact String.toList_inj.mp this
 .rintro rfl;rfl
theorem A7(s t:String):(Str.ofString s==Str.ofString t)=(s==t):=by
 by_cases e:s=t
 .subst e;simp
 .have:Str.ofString s≠Str.ofString t:=fun z=>e<|ofS_inj.mp z;rw[beq_eq_false_iff_ne.mpr this,beq_eq_false_iff_ne.mpr e]
theorem NA(s:String):PyData.strOk (Str.ofString s)=true:=by
 rw[Str.ofString_eq_toList];unfold PyData.strOk;rw[Array.all_eq_true'];intro n hn;have:n∈s.toList.map ü:=by simpa using hn
 obtain⟨c,_,rfl⟩:=ã.mp this;have:=c.valid;have h2:c.toNat=c.val.toNat:=rfl;simp only[UInt32.isValidChar,Nat.isValidChar]at this;simp only[decide_eq_true_eq];omega
mutual
theorem Ji:∀d e:Own.D,ė (toD d) (toD e)=Own.D.eqv d e
 |.non,e=>by cases e<;>simp[toD,ė,Own.D.eqv]
 |.bl _,e=>by cases e<;>simp[toD,ė,Own.D.eqv]
 |.int _,e=>by cases e<;>simp[toD,ė,Own.D.eqv]
 |.str s,e=>by cases e<;>simp only[toD,ė,Own.D.eqv];exact A7 _ _
 |.tup ds,e=>by cases e<;>simp only[toD,ė,Own.D.eqv];exact toDs_eqv _ _
 |.lst ds,e=>by cases e<;>simp only[toD,ė,Own.D.eqv];exact toDs_eqv _ _
theorem toDs_eqv:∀ds es:List Own.D,ť (toDs ds) (toDs es)=Own.D.eqvs ds es
 |[],[]=>by simp[toDs,ť,Own.D.eqvs]
 |[],_::_=>by simp[toDs,ť,Own.D.eqvs]
 |_::_,[]=>by simp[toDs,ť,Own.D.eqvs]
 |d::ds,e::es=>by simp only[toDs,ť,Own.D.eqvs,Ji d e,toDs_eqv ds es]
end
mutual
theorem Jt:∀d:Own.D,(toD d).canLay0=true
 |.non=>by simp[toD,ŉ]
 |.bl _=>by simp[toD,ŉ]
 |.int _=>by simp[toD,ŉ]
 |.str s=>by simp only[toD,ŉ];exact NA s
 |.tup ds=>by simp only[toD,ŉ];exact toDs_lay ds
 |.lst ds=>by simp only[toD,ŉ];exact toDs_lay ds
theorem toDs_lay:∀ds:List Own.D,Ķ (toDs ds)=true
 |[]=>by simp[toDs,Ķ]
 |d::ds=>by simp only[toDs,Ķ,Jt d,toDs_lay ds,Bool.and_self]
end
section
variable {i:Inf}{G:Own.Hs}{H:Hp}
theorem MU{α β:Type}{f:α->Option β}:∀{xs:List α}{ys:List β},xs.mapM f=some ys->List.length xs=ys.length/\∀(n:Nat) (x:α),xs[n]?=some x->∃y,ys[n]?=some y/\f x=some y:=by
 intro xs;induction xs with
 |nil=>intro ys h;simp at h;subst h;exact⟨rfl,fun n x e=>by simp at e⟩
 |cons a as ih =>
  intro ys h;rw[ϡ]at h;cases e:f a with
  |none=>rw[e]at h;simp at h
  |some b =>
   rw[e]at h;cases e2:as.mapM f with
   |none=>rw[e2]at h;simp at h
   |some bs =>
    rw[e2]at h;simp at h;subst h;obtain⟨h1,h2⟩:=ih e2;refine⟨by simp[h1],fun n x hn=>?_⟩;cases n with
    |zero=>simp at hn;subst hn;exact⟨b,rfl,e⟩
    |succ n=>simp at hn ⊢;exact h2 n x hn
theorem Mu{K:PySem.W.Frag}{f:Own.Val->Option Own.D}(hf:∀v d x,f v=some d->RV K H v x->IsD K H x (toD d)):∀{vs:List Own.Val}{xs:List V}{ds:List Own.D},vs.mapM f=some ds->RVs K H vs xs->IsDs K H xs (toDs ds):=by
 intro vs;induction vs with
 |nil=>intro xs ds h r;simp at h;subst h;cases r;exact .nil
 |cons a as ih =>
  intro xs ds h r;rw[ϡ]at h;cases e:f a with
  |none=>rw[e]at h;simp at h
  |some b =>
   rw[e]at h;cases e2:as.mapM f with
   |none=>rw[e2]at h;simp at h
   |some bs =>
    rw[e2]at h;simp at h;subst h;cases r with
    |cons r1 r2=>exact .cons (hf a b _ e r1)<|ih e2 r2
theorem Zx(g:RH i G H){a:Ä}{xs:List Own.Val}(e:Own.lsOf (G a)=some xs):∃vs,SqL i.K H a vs/\RVs i.K H xs vs:=by
 cases q:G a with
 |none=>rw[q]at e;cases e
 |some o =>
  rw[q]at e;cases o with
  |lst ys=>cases e;obtain⟨vs,h,r⟩:=g a _ q;exact⟨vs,SqL.of h,r⟩
  |dct _=>cases e
  |ins _ _=>cases e
  |exc _=>cases e
  |frz _=>cases e
  |dtp _=>cases e
theorem Ww:∀ns:List Int,toDs (ns.map Own.D.int)=ns.map PyData.int
 |[]=>by simp[toDs]
 |n::ns=>by simp only[Ó,toDs,toD,Ww ns]
theorem YS(g:RH i G H):∀(n:Nat) (v:Own.Val) (d:Own.D) (x:V),Own.dat G n v=some d->RV i.K H v x->IsD i.K H x (toD d):=by
 intro n;induction n with
 |zero =>
  intro v d x e r;cases v with
  |non=>cases r;simp[Own.dat]at e;subst e;rw[toD];exact .non
  |bl b=>cases r;simp[Own.dat]at e;subst e;rw[toD];exact .bl b
  |int b=>cases r;simp[Own.dat]at e;subst e;rw[toD];exact .int b
  |str s=>cases r;simp[Own.dat]at e;subst e;rw[toD];exact .str _
  |tup xs=>simp[Own.dat]at e
  |ref a=>simp[Own.dat]at e
  |scr ns=>simp[Own.dat]at e
  |key _ _=>simp[Own.dat]at e
 |succ n ih =>
  intro v d x e r;cases v with
  |non=>cases r;simp[Own.dat]at e;subst e;rw[toD];exact .non
  |bl b=>cases r;simp[Own.dat]at e;subst e;rw[toD];exact .bl b
  |int b=>cases r;simp[Own.dat]at e;subst e;rw[toD];exact .int b
  |str s=>cases r;simp[Own.dat]at e;subst e;rw[toD];exact .str _
  |tup xs =>
   rw[Own.dat]at e;cases z:xs.mapM (Own.dat G n)with
   |none=>rw[z]at e;cases e
   |some ds =>
    rw[z]at e;cases e;cases r with
    |tup hp hr=>rw[toD];exact .tup (Zk hp)<|Mu ih z hr
  |ref a =>
   rw[Own.dat]at e;cases q:Own.lsOf (G a)with
   |none=>rw[q]at e;cases e
   |some xs =>
    rw[q]at e;simp only[õ]at e;cases z:xs.mapM (Own.dat G n)with
    |none=>rw[z]at e;cases e
    |some ds =>rw[z]at e;cases e;cases r.ref_inv;obtain⟨vs,h1,h2⟩:=Zx g q;rw[toD];exact .lst h1<|Mu ih z h2
  |scr ns =>
   simp[Own.dat]at e;subst e;cases r with
   |scr h =>rw[toD,Ww];exact .lst (Z3 h)<|IsDs.ints ns
  |key _ _=>simp[Own.dat]at e
theorem Yx{n:Nat}:∀{ds:List Own.D},(∀d∈ds,(toD d).depth<=n)->ĥ (toDs ds)<=n
 |[],_=>by rw[toDs];simp[ĥ]
 |d::ds,h=>by rw[toDs];simp only[ĥ];exact Nat.max_le.mpr ⟨h d (by simp),Yx fun e he=>h e<|by simp[he]⟩
theorem Wv:∀(n:Nat) (v:Own.Val) (d:Own.D),Own.dat G n v=some d->(toD d).depth<=n:=by
 have sc:∀(n:Nat) (v:Own.Val) (d:Own.D),(∀xs,v≠.tup xs)->(∀a,v≠.ref a)->(∀ns,v≠.scr ns)->Own.dat G n v=some d->(toD d).depth<=n:=by
  intro n v d h1 h2 h3 e;cases v with
  |tup xs=>exact absurd rfl<|h1 xs
  |ref a=>exact absurd rfl<|h2 a
  |scr ns=>exact absurd rfl<|h3 ns
  |key _ _=>cases n<;>simp[Own.dat]at e
  |_=>simp[Own.dat]at e;subst e;simp[toD,PyData.depth]
 have ms:∀(n:Nat),(∀v d,Own.dat G n v=some d->(toD d).depth<=n)->∀(xs:List Own.Val) (ds:List Own.D),xs.mapM (Own.dat G n)=some ds->ĥ (toDs ds)<=n:=by
  intro n ih xs ds z;refine Yx fun d hd=>?_;obtain⟨k,hk⟩:=aC.mp hd;obtain⟨h1,h2⟩:=MU z;have a8:k<xs.length:=by rw[h1];exact(ð.mp hk).1
  obtain⟨y,hy,hf⟩:=h2 k xs[k]<|ß a8;rw[hk]at hy;cases hy;exact ih _ _ hf
 intro n;induction n with
 |zero =>
  intro v d e;cases v with
  |tup xs=>simp[Own.dat]at e
  |ref a=>simp[Own.dat]at e
  |scr ns=>simp[Own.dat]at e
  |_=>exact sc 0 _ d (by simp) (by simp) (by simp) e
 |succ n ih =>
  intro v d e;cases v with
  |tup xs =>
   rw[Own.dat]at e;cases z:xs.mapM (Own.dat G n)with
   |none=>rw[z]at e;cases e
   |some ds =>rw[z]at e;cases e;rw[toD];exact Ų<|ms n ih xs ds z
  |ref a =>
   rw[Own.dat]at e;cases q:Own.lsOf (G a)with
   |none=>rw[q]at e;cases e
   |some xs =>
    rw[q]at e;simp only[õ]at e;cases z:xs.mapM (Own.dat G n)with
    |none=>rw[z]at e;cases e
    |some ds =>rw[z]at e;cases e;rw[toD];exact Ų<|ms n ih xs ds z
  |scr ns =>simp[Own.dat]at e;subst e;rw[toD];refine Ų<|Ç ?_<|ϗ n;refine Yx fun d hd=>?_;obtain⟨m,_,rfl⟩:=ã.mp hd;simp[toD,PyData.depth]
  |_=>exact sc (n+1) _ d (by simp) (by simp) (by simp) e
variable {v:Own.Val}
theorem XS{d:Own.D}(e:Own.dat G Own.deep v=some d):SeqAt.shaped (toD d)=true:=by show((toD d).canLay0&&decide ((toD d).depth<=64))=true;rw[Jt,decide_eq_true<|Ç (Wv _ _ _ e)<|by decide];rfl
theorem MP(g:RH i G H){u:Own.Val}{x y:V}{c:Bool}(rx:RV i.K H v x)(ry:RV i.K H u y)(e:Own.eqV G v u=some c):∃d d',IsD i.K H x d/\IsD i.K H y d'/\SeqAt.shaped d=true/\SeqAt.shaped d'=true/\ė d d'=c:=by
 unfold Own.eqV at e;cases z:Own.dat G Own.deep v with
 |none=>rw[z]at e;cases e
 |some d =>
  cases z2:Own.dat G Own.deep u with
  |none=>rw[z,z2]at e;cases e
  |some d' =>rw[z,z2]at e;cases e;exact⟨_,_,YS g _ _ _ _ z rx,YS g _ _ _ _ z2 ry,XS z,XS z2,Ji d d'⟩
theorem GL:ZK i .eq<|F3 i.K:=by intro v u G H x y c Q g rx ry e q;obtain⟨d,d',h1,h2,h3,h4,h5⟩:=MP g rx ry e;exact⟨d,d',h1,h2,h3,h4,by rw[h5];exact q⟩
theorem Fu:ZK i .ne<|CG i.K:=by
 intro v u G H x y c Q g rx ry e q;have e:(Own.eqV G v u).map (!·)=some c:=e;cases z:Own.eqV G v u with
 |none=>rw[z]at e;cases e
 |some b =>rw[z]at e;cases e;obtain⟨d,d',h1,h2,h3,h4,h5⟩:=MP g rx ry z;exact⟨d,d',h1,h2,h3,h4,by rw[h5];exact q⟩
end
variable {i:Inf}{X:Cx}{Φ:Own.Fs}
theorem Zh(s:String):(Str.ofString s).length=s.length:=by rw[Str.ofString_eq_toList];show(List.map ü s.toList).toArray.size=_;rw[Ê,È];first|rfl|exact Æ
theorem W3(s t:String):Str.ofString (s++t)=Str.ofString s++Str.ofString t:=by rw[Str.ofString_eq_toList,Str.ofString_eq_toList,Str.ofString_eq_toList];show _=Str.append _ _;unfold Str.append;simp
variable {xs:List Own.Val}
theorem Nc{o:Option Own.Ob}(h:Own.lsOf o=some xs):o=some (.lst xs):=by
 cases o with
 |none=>cases h
 |some o=>cases o with
  |lst ys=>cases h;rfl
  |_=>cases h
variable {p:Prop}
theorem ZH{α:Type}[Decidable p]{o:Option α}{a:α}(e:(if p then o else none)=some a):p/\o=some a:=by
 by_cases q:p
 .rw[if_pos q]at e;exact⟨q,e⟩
 .rw[if_neg q]at e;cases e
variable {h:Own.Hs} {Q:Own.Q1}
theorem Zm(w:Own.Rs.no.wp h Q):False:=by rw[Own.Rs.wp_no]at w;exact w
variable {v:Own.Val}
theorem Zj(w:(Own.Rs.val v).wp h Q):Q v h:=by rw[Own.Rs.wp_val]at w;exact w
theorem Yw[Decidable p]{r:Own.Rs}(w:(if p then r else .no).wp h Q):p/\r.wp h Q:=by
 by_cases e:p
 .rw[if_pos e]at w;exact⟨e,w⟩
 .rw[if_neg e]at w;exact(Zm w).elim
variable {u:Own.Val}
theorem Xv{f:Int->Int->Own.Rs}(w:(Own.intV f v u).wp h Q):∃i j,v=.int i/\u=.int j/\(f i j).wp h Q:=by
 cases v with
 |int i=>cases u with
  |int j=>exact⟨i,j,rfl,rfl,w⟩
  |_=>exact(Zm w).elim
 |_=>exact(Zm w).elim
noncomputable def B4(K:PySem.W.Frag):R2:=fun x y H Q=>(rI0 fun i j=>.int<|i+j) x y H Q\/(((BE K x y H Q\/BU K x y H Q)\/E0 x y H Q)\/∃i j,x=.str i/\y=.str j/\i.length+j.length<=Ô/\Q (.str<|i++j) H)
theorem FN:OpR X (Ĭ .Add)<|B4 X.K:=op_add.or (((op_cat0.or A8).or CD).or KH)
theorem b_add:XT i .add<|B4 i.K:=by
 intro v u G H x y Q Qm g rx ry w c;cases v<;>cases u<;>first|exact(Zm w).elim|skip
 case int.int a b =>
  replace w:=Zj w
  exact .inl ⟨a,b,rx.int_inv,ry.int_inv,c _ G H _ (Keep.refl H) g (.int _) w⟩
 case str.str a b =>
  obtain⟨h,w⟩:=Yw w
  replace w:=Zj w
  refine .inr<|.inr ⟨_,_,rx.str_inv,ry.str_inv,?_,?_⟩
  .rw[Zh,Zh];exact Ç h ZE
  .rw[<-W3];exact c _ G H _ (Keep.refl H) g (.str _) w
 case tup.tup xs ys =>
  obtain⟨h,w⟩:=Yw w
  replace w:=Zj w
  .skip
   cases rx with
   |@tup _ p vs hp hr =>
   cases ry with
   |@tup _ q us hq hs =>
   by_cases h0:vs=[]
   .subst h0;have:xs=[]:=ŗ hr.length;subst this;exact .inr<|.inl<|.inl<|.inl ⟨p,q,us,rfl,rfl,Zk hp,Zk hq,c _ G H _ (Keep.refl H) g (.tup hq hs) w⟩
   refine .inr<|.inl<|.inl<|.inr ⟨p,q,vs,us,rfl,rfl,Zk hp,Zk hq,h0,?_,fun z=>?_,fun z a ha=>?_⟩
   .rw[<-hr.length,<-hs.length];exact Ç h ZE
   .have:ys=[]:=ŗ (by rw[hs.length,z];rfl);subst this;rw[Ņ]at w;exact c _ G H _ (Keep.refl H) g (.tup hp hr) w
   .have k:=Keep.new (o:=.tup<|vs++us) ha;refine c _ G _ _ k (g.hid k fun b o e=>upd_ne ?_) (.tup (.inl upd_same)<|(hr.keep k).append<|hs.keep k) w;rintro rfl;rw[g.free ha]at e;cases e
 case ref.ref a b =>
  dsimp only[Own.binV,Own.addV]at w;split at w
  .rename_i xs ys e1 e2;unfold Own.Rs.lst at w;split at w
   .rename_i hl;rw[Own.Rs.wp_new]at w;cases rx.ref_inv;cases ry.ref_inv;obtain⟨vs,h1,r1⟩:=g a _ e1;obtain⟨us,h2,r2⟩:=g b _ e2;refine .inr (.inl<|.inr ⟨a,b,vs,us,rfl,rfl,h1,h2,?_,YC g w c fun p hp=>?_⟩)
    .rw[<-r1.length,<-r2.length,<-Ï];exact Ç hl ZE
    .have k:=Keep.new (o:=.lst<|vs++us) hp;exact⟨_,upd_same,(r1.keep k).append<|r2.keep k⟩
   .exact(Zm w).elim
  .exact(Zm w).elim
theorem b_sub:XT i .sub<|rI0 fun i j=>.int<|i - j:=by intro v u G H x y Q Qm g rx ry w c;obtain⟨a,b,rfl,rfl,w⟩:=Xv w;exact⟨a,b,rx.int_inv,ry.int_inv,c _ G H _ (Keep.refl H) g (.int _)<|Zj w⟩
theorem RVs.rep{K:PySem.W.Frag}{H:Hp}{vs:List Own.Val}{xs:List V}(r:RVs K H vs xs):∀n,RVs K H (Ë n vs).flatten (Ë n xs).flatten
 |0=>.nil
 |n+1=>by rw[û,û,č,č];exact r.append<|RVs.rep r n
set_option exponentiation.threshold 2000 in
theorem CM{i j:Int}(h:Own.mulOk i j):IntMulOk i j:=by
 rcases h with(h|h)|⟨h1,h2⟩
 .exact .of_left (ϊ (by omega)<|by omega)
 .exact .of_right (ϊ (by omega)<|by omega)
 .have e:(10:Nat) ^ 200<2 ^ 1000:=by decide
  exact .of_bits (Ç (PyProof.Rows.intBits_le<|ġ h1 e)<|by decide) (Ç (PyProof.Rows.intBits_le<|ġ h2 e)<|by decide)
theorem AN(s:String)(n:Nat):D6 (Str.ofString s) n=Str.ofString (Own.repT s n):=by unfold D6 Own.repT;rw[Str.ofString_eq_toList,Str.ofString_eq_toList,É];congr 1;apply Χ.mp;rw[WO];simp[List.map_flatten,List.map_replicate]
noncomputable def BF:R2:=fun x y H Q=>rI Own.mulOk (fun i j=>.int<|i*j) x y H Q\/(Fc x y H Q\/BR x y H Q)
theorem E3:OpR X (Ĭ .Mult) BF:=OpR.or (opI fun _ _ _ _ _ _ _ hc q=>PyProof.Rows.mul_int q<|CM hc) (op_rep.or A6)
theorem b_mul:XT i .mul BF:=by
 intro v u G H x y Q Qm g rx ry w c;cases v<;>cases u<;>first|exact(Zm w).elim|skip
 case int.int a b =>obtain⟨h,w⟩:=Yw w;exact .inl ⟨a,b,rx.int_inv,ry.int_inv,h,c _ G H _ (Keep.refl H) g (.int _)<|Zj w⟩
 case ref.int a k =>
  dsimp only[Own.binV,Own.mulV]at w;split at w
  .rename_i xs e1;split at w
   .rename_i hk;unfold Own.Rs.lst at w;split at w
    .rw[Own.Rs.wp_new]at w;cases rx.ref_inv;cases ry.int_inv;obtain⟨vs,h1,r1⟩:=g a _ e1;refine .inr (.inl ⟨a,k,vs,rfl,rfl,h1,by omega,by omega,?_,YC g w c fun p hp=>?_⟩)
     .rw[<-r1.length];exact Ç hk.2.2 ZE
     .have kk:=Keep.new (o:=.lst (Ë k.toNat vs).flatten) hp;exact⟨_,upd_same,(r1.keep kk).rep _⟩
    .exact(Zm w).elim
   .exact(Zm w).elim
  .exact(Zm w).elim
 case str.int a k =>
  obtain⟨hk,w⟩:=Yw w
  replace w:=Zj w
  refine .inr (.inr ⟨_,k,rx.str_inv,ry.int_inv,hk.1,hk.2.1,by rw[Zh];exact hk.2.2.1,by rw[Zh];exact hk.2.2.2,?_⟩);rw[AN];exact c _ G H _ (Keep.refl H) g (.str _) w
theorem b_fdiv:XT i .fdiv<|rI Fz fun i j=>.int<|i / j:=by intro v u G H x y Q Qm g rx ry w c;obtain⟨a,b,rfl,rfl,w⟩:=Xv w;obtain⟨h,w⟩:=Yw w;exact⟨a,b,rx.int_inv,ry.int_inv,h,c _ G H _ (Keep.refl H) g (.int _)<|Zj w⟩
theorem b_mod:XT i .mod<|rI (fun _ j=>0<j) fun i j=>.int<|i % j:=by intro v u G H x y Q Qm g rx ry w c;obtain⟨a,b,rfl,rfl,w⟩:=Xv w;obtain⟨h,w⟩:=Yw w;exact⟨a,b,rx.int_inv,ry.int_inv,h,c _ G H _ (Keep.refl H) g (.int _)<|Zj w⟩
theorem b_pow:XT i .pow<|rI Fd fun i j=>.int<|i ^ j.toNat:=by intro v u G H x y Q Qm g rx ry w c;obtain⟨a,b,rfl,rfl,w⟩:=Xv w;obtain⟨h,w⟩:=Yw w;exact⟨a,b,rx.int_inv,ry.int_inv,h,c _ G H _ (Keep.refl H) g (.int _)<|Zj w⟩
theorem ZR{K:PySem.W.Frag}{H:Hp}:∀{xs:List Own.Val}{ns:List Int}{vs:List V},Own.intsOf xs=some ns->RVs K H xs vs->vs=ns.map V.int
 |[],_,_,e,.nil=>by cases e;rfl
 |.int k::xs,_,_,e,.cons r t=>by
  simp only[Own.intsOf]at e;cases z:Own.intsOf xs with
  |none=>rw[z]at e;cases e
  |some ns=>rw[z]at e;cases e;cases r;rw[ZR z t];rfl
 |.non::_,_,_,e,_=>by cases e
 |.bl _::_,_,_,e,_=>by cases e
 |.str _::_,_,_,e,_=>by cases e
 |.tup _::_,_,_,e,_=>by cases e
 |.ref _::_,_,_,e,_=>by cases e
 |.scr _::_,_,_,e,_=>by cases e
theorem Jn:∀(ns ms:List Int),Own.lexI ns ms=HT.lexLt ns ms
 |[],[]=>rfl
 |[],_::_=>rfl
 |_::_,[]=>rfl
 |x::xs,y::ys=>by rw[Own.lexI,HT.lexLt_cons,Jn xs ys]
noncomputable def E6(K:PySem.W.Frag):R2:=fun x y H Q=>rI0 (fun i j=>.bl<|decide (i<j)) x y H Q\/FR K x y H Q
theorem G4(hu:X.A.units<Ğ):OpR X (Ý .Lt)<|E6 X.K:=op_lt.or (Ey hu)
noncomputable def Ff(K:PySem.W.Frag):R2:=fun x y H Q=>rI0 (fun i j=>.bl<|decide (j<i)) x y H Q\/HT2.rGtT K x y H Q
theorem Ho(hu:X.A.units<Ğ):OpR X (Ý .Gt)<|Ff X.K:=op_gt.or (HT2.op_gtT hu)
variable {H:Hp} {x:V} {c:Bool}
theorem BY{K:PySem.W.Frag}{ys:List Own.Val}{y:V}(rx:RV K H (.tup xs) x)(ry:RV K H (.tup ys) y)(e:Own.ltV (.tup xs) (.tup ys)=some c):∃a b ns ms,x=.ref a/\y=.ref b/\SqT K H a (ns.map V.int)/\SqT K H b (ms.map V.int)/\HT.lexLt ns ms=c:=by
 simp only[Own.ltV]at e;cases z1:Own.intsOf xs with
 |none=>rw[z1]at e;cases e
 |some ns =>
  cases z2:Own.intsOf ys with
  |none=>rw[z1,z2]at e;cases e
  |some ms =>
   rw[z1,z2]at e;cases e;cases rx with
   |@tup _ p vs hp hr =>
   cases ry with
   |@tup _ q us hq hs =>
   have h1:=ZR z1 hr;have h2:=ZR z2 hs;subst h1 h2;exact⟨p,q,ns,ms,rfl,rfl,Zk hp,Zk hq,(Jn _ _).symm⟩
theorem c_lt:ZK i .lt<|E6 i.K:=by
 intro v u G H x y c Q g rx ry e q
 replace e:Own.ltV v u=some c:=e
 cases v<;>cases u<;>first|(cases e;done)|skip
 case int.int a b=>cases e;exact .inl ⟨a,b,rx.int_inv,ry.int_inv,q⟩
 case tup.tup xs ys =>obtain⟨a,b,ns,ms,h1,h2,h3,h4,h5⟩:=BY rx ry e;exact .inr ⟨a,b,ns,ms,h1,h2,h3,h4,by rw[h5];exact q⟩
theorem c_gt:ZK i .gt<|Ff i.K:=by
 intro v u G H x y c Q g rx ry e q
 replace e:Own.ltV u v=some c:=e
 cases v<;>cases u<;>first|(cases e;done)|skip
 case int.int a b=>cases e;exact .inl ⟨a,b,rx.int_inv,ry.int_inv,q⟩
 case tup.tup xs ys =>obtain⟨a,b,ns,ms,h1,h2,h3,h4,h5⟩:=BY ry rx e;exact .inr ⟨b,a,ms,ns,h2,h1,h4,h3,by rw[HT2.lexGt_lt,h5];exact q⟩
theorem B3(e:Own.leV v u=some c):∃i j,v=.int i/\u=.int j/\decide (i<=j)=c:=by
 cases v with
 |int i=>cases u with
  |int j=>cases e;exact⟨i,j,rfl,rfl,rfl⟩
  |_=>cases e
 |_=>cases e
theorem c_le:ZK i .le<|rI0 fun i j=>.bl<|decide (i<=j):=by intro v u G H x y c Q g rx ry e q;obtain⟨a,b,rfl,rfl,rfl⟩:=B3 e;exact⟨a,b,rx.int_inv,ry.int_inv,q⟩
theorem c_ge:ZK i .ge<|rI0 fun i j=>.bl<|decide (j<=i):=by intro v u G H x y c Q g rx ry e q;obtain⟨a,b,rfl,rfl,rfl⟩:=B3 e;exact⟨b,a,rx.int_inv,ry.int_inv,q⟩
theorem RV.isN{K:PySem.W.Frag}(r:RV K H v x):decide (x=.non)=decide (v=.non):=by cases r<;>simp
variable {a:Expr} {ma:Own.E} {ë:Pos} {p2:Pos} {j:Nat}
theorem Fh(ha:PE X a<|tE X i Φ ma):PE X (.Compare a [.Is] [.Constant .none j p2] ë) (tE X i Φ<|.cmp .is ma<|.cst .non) :=
 (N1 (NV ha) rfl).imp fun σ H Q ⟨env,G,Qm,Em,p,w,c⟩=>by refine one p w fun v G1 H1 x k1 p1 r q=>?_;obtain⟨d,e,q2⟩:=go_some q;have e:some (decide (v=.non))=some d:=e;cases e;rw[r.isN];exact c _ G1 H1 _ k1 p1.hp (.bl _) q2
theorem Du(ha:PE X a<|tE X i Φ ma):PE X (.Compare a [.IsNot] [.Constant .none j p2] ë) (tE X i Φ<|.cmp .isnot ma<|.cst .non) :=
 (N1 (MS ha) rfl).imp fun σ H Q ⟨env,G,Qm,Em,p,w,c⟩=>by refine one p w fun v G1 H1 x k1 p1 r q=>?_;obtain⟨d,e,q2⟩:=go_some q;have e:some (!decide (v=.non))=some d:=e;cases e;rw[r.isN];exact c _ G1 H1 _ k1 p1.hp (.bl _) q2
theorem Ei(ha:PE X a<|tE X i Φ ma):PT X (.Compare a [.Is] [.Constant .none j p2] ë) (tTt X i Φ<|.val<|.cmp .is ma<|.cst .non) :=
 (OB (NV ha) rfl).imp fun σ H Q ⟨env,G,Qm,Em,p,w,c⟩=>by refine one p w fun v G1 H1 x k1 p1 r q=>?_;obtain⟨d,e,q2⟩:=go_some q;obtain⟨d',e',q3⟩:=go_some q2;cases e';have e:some (decide (v=.non))=some d:=e;cases e;rw[r.isN];exact⟨_,rfl,c _ G1 H1 k1 p1.hp q3⟩
theorem AD(ha:PE X a<|tE X i Φ ma):PT X (.Compare a [.IsNot] [.Constant .none j p2] ë) (tTt X i Φ<|.val<|.cmp .isnot ma<|.cst .non) :=
 (OB (MS ha) rfl).imp fun σ H Q ⟨env,G,Qm,Em,p,w,c⟩=>by refine one p w fun v G1 H1 x k1 p1 r q=>?_;obtain⟨d,e,q2⟩:=go_some q;obtain⟨d',e',q3⟩:=go_some q2;cases e';have e:some (!decide (v=.non))=some d:=e;cases e;rw[r.isN];exact⟨_,rfl,c _ G1 H1 k1 p1.hp q3⟩
end Snd
namespace Snd
open PySem L2 PySem.Spec PyProof.Rows
variable {i:Inf}{X:Cx}{Φ:Own.Fs}
theorem RKs.length{K:PySem.W.Frag}{H:Hp}:∀{kvs:List (Own.Val×Own.Val)}{ps:List (Key×V)},RKs K H kvs ps->kvs.length=ps.length
 |_,_,.nil=>rfl
 |_,_,.cons _ _ t=>by rw[Å,Å,RKs.length t]
theorem Xx{k j:Own.Val}{c d:Key}(a:XJ k c)(b:XJ j d):(k==j)=decide (c=d):=by
 have key:k=j↔c=d:=by
  cases k<;>cases c<;>first|(cases a;done)|skip
  .cases j<;>cases d<;>first|(cases b;done)|skip
   .cases a;cases b;simp
   .cases a;cases b;simp
  .cases j<;>cases d<;>first|(cases b;done)|skip
   .cases a;cases b;simp
   .cases a;cases b;simp[ofS_inj]
 by_cases e:k=j
 .rw[decide_eq_true<|key.mp e,e];simp
 .rw[decide_eq_false fun z=>e<|key.mpr z];simpa using e
theorem key_of{k:Own.Val}{x:V}{K:PySem.W.Frag}{H:Hp}(h:Own.isKey k=true)(r:RV K H k x):∃c,XJ k c/\x=kV c:=by
 cases k with
 |int n=>cases r.int_inv;exact⟨.inl n,rfl,rfl⟩
 |str s=>cases r.str_inv;exact⟨.inr<|Str.ofString s,rfl,rfl⟩
 |_=>cases h
theorem RKs.look{K:PySem.W.Frag}{H:Hp}{k:Own.Val}{c:Key}(a:XJ k c):∀{kvs:List (Own.Val×Own.Val)}{ps:List (Key×V)},RKs K H kvs ps->
  (∀v,Own.lookK kvs k=some v->∃x,Yu ps c=some x/\RV K H v x)/\(Own.lookK kvs k=none->Yu ps c=none)
 |_,_,.nil=>⟨fun v e=>(by cases e),fun _=>rfl⟩
 |_,_,.cons (k:=j) (v:=u) (c:=d) (x:=y) (kvs:=kvs) (ps:=ps) b r t=>by
  have ih:=RKs.look a t;have q:=Xx b a;by_cases e:d=c
  .rw[decide_eq_true e]at q;have e1:Own.lookK ((j,u)::kvs) k=some u:=by simp[Own.lookK,Ē,q]
   rw[e1,Ym e];exact⟨fun v z=>(by cases z;exact⟨y,rfl,r⟩),fun z=>(by cases z)⟩
  .rw[decide_eq_false e]at q;have e1:Own.lookK ((j,u)::kvs) k=Own.lookK kvs k:=by simp[Own.lookK,Ē,q]
   rw[e1,Yi e];exact ih
theorem RKs.has{K:PySem.W.Frag}{H:Hp}{k:Own.Val}{c:Key}(a:XJ k c):∀{kvs:List (Own.Val×Own.Val)}{ps:List (Key×V)},RKs K H kvs ps->Own.hasK kvs k=ps.any fun kv=>decide (kv.1=c)
 |_,_,.nil=>rfl
 |_,_,.cons b r t=>by have ih:=RKs.has a t;unfold Own.hasK at ih ⊢;rw[Ĩ,Ĩ,ih,Xx b a]
theorem RKs.app{K:PySem.W.Frag}{H:Hp}{k v:Own.Val}{c:Key}{x:V}(a:XJ k c)(q:RV K H v x):∀{kvs:List (Own.Val×Own.Val)}{ps:List (Key×V)},RKs K H kvs ps->RKs K H (kvs++[(k,v)]) (ps++[(c,x)])
 |_,_,.nil=>.cons a q .nil
 |_,_,.cons b r t=>.cons b r<|RKs.app a q t
theorem RKs.repl{K:PySem.W.Frag}{H:Hp}{k v:Own.Val}{c:Key}{x:V}(a:XJ k c)(q:RV K H v x):∀{kvs:List (Own.Val×Own.Val)}{ps:List (Key×V)},RKs K H kvs ps->
  RKs K H (kvs.map fun p=>if p.1==k then(k,v)else p) (ps.map fun kv=>if kv.1=c then(kv.1,x)else kv)
 |_,_,.nil=>.nil
 |_,_,.cons (k:=j) (v:=u) (c:=d) (x:=y) b r t=>by
  have ih:=RKs.repl a q t;have z:=Xx b a;rw[Ó,Ó];by_cases e:d=c
  .rw[decide_eq_true e]at z;rw[if_pos z,if_pos e];exact .cons (e▸a) q ih
  .rw[decide_eq_false e]at z;rw[if_neg (by rw[z];decide),if_neg e];exact .cons b r ih
theorem RKs.put{K:PySem.W.Frag}{H:Hp}{k v:Own.Val}{c:Key}{x:V}(a:XJ k c)(q:RV K H v x){kvs:List (Own.Val×Own.Val)}{ps:List (Key×V)}(r:RKs K H kvs ps):RKs K H (Own.putK kvs k v)<|L2.putK ps c x:=by
 unfold Own.putK L2.putK;rw[r.has a];by_cases e:(ps.any fun kv=>decide (kv.1=c))=true
 .rw[if_pos e,if_pos e];exact r.repl a q
 .rw[if_neg e,if_neg e];exact r.app a q
theorem RKs.drop{K:PySem.W.Frag}{H:Hp}{k:Own.Val}{c:Key}(a:XJ k c):∀{kvs:List (Own.Val×Own.Val)}{ps:List (Key×V)},RKs K H kvs ps->RKs K H (Own.dropK kvs k) (L2.dropK ps c)
 |_,_,.nil=>.nil
 |_,_,.cons (k:=j) (v:=u) (c:=d) (x:=y) b r t=>by
  have ih:=RKs.drop a t;have z:=Xx b a;unfold Own.dropK L2.dropK at ih ⊢;rw[Ű,Ű];by_cases e:d=c
  .rw[decide_eq_true e]at z;rw[if_neg (by rw[z];decide),if_neg<|by simpa using e];exact ih
  .rw[decide_eq_false e]at z;rw[if_pos (by rw[z];rfl),if_pos<|by simpa using e];exact .cons b r ih
theorem RTs.length{K:PySem.W.Frag}{H:Hp}:∀{kvs:List (Own.Val×Own.Val)}{ps:List (List Key×V)},RTs K H kvs ps->kvs.length=ps.length
 |_,_,.nil=>rfl
 |_,_,.cons _ t=>by rw[Å,Å,RTs.length t]
theorem Jq(a b i j:Int):(Own.Val.key a b == .key i j)=decide (([.inl a,.inl b]:List Key)=[.inl i,.inl j]):=by
 by_cases e:a=i/\b=j
 .obtain⟨rfl,rfl⟩:=e;rw[decide_eq_true rfl];simp
 .rw[decide_eq_false fun z=>e<|by simpa using z];exact beq_eq_false_iff_ne.mpr fun z=>e (by simpa using z)
theorem RTs.look{K:PySem.W.Frag}{H:Hp}{i j:Int}:∀{kvs:List (Own.Val×Own.Val)}{ps:List (List Key×V)},RTs K H kvs ps->
  (∀v,Own.lookK kvs (.key i j)=some v->∃x,Yu ps [.inl i,.inl j]=some x/\RV K H v x)/\(Own.lookK kvs (.key i j)=none->Yu ps [.inl i,.inl j]=none)
 |_,_,.nil=>⟨fun v e=>(by cases e),fun _=>rfl⟩
 |_,_,.cons (i:=a) (j:=b) (v:=u) (x:=y) (kvs:=kvs) (ps:=ps) r t=>by
  have ih:=RTs.look (i:=i) (j:=j) t;have q:=Jq a b i j;by_cases e:([.inl a,.inl b]:List Key)=[.inl i,.inl j]
  .rw[decide_eq_true e]at q;have e1:Own.lookK ((.key a b,u)::kvs) (.key i j)=some u:=by simp[Own.lookK,Ē,q]
   rw[e1,Ym e];exact⟨fun v z=>(by cases z;exact⟨y,rfl,r⟩),fun z=>(by cases z)⟩
  .rw[decide_eq_false e]at q;have e1:Own.lookK ((.key a b,u)::kvs) (.key i j)=Own.lookK kvs (.key i j):=by simp[Own.lookK,Ē,q]
   rw[e1,Yi e];exact ih
theorem RTs.has{K:PySem.W.Frag}{H:Hp}{i j:Int}:∀{kvs:List (Own.Val×Own.Val)}{ps:List (List Key×V)},RTs K H kvs ps->Own.hasK kvs (.key i j)=ps.any fun kv=>decide (kv.1=[.inl i,.inl j])
 |_,_,.nil=>rfl
 |_,_,.cons (i:=a) (j:=b) r t=>by have ih:=RTs.has (i:=i) (j:=j) t;unfold Own.hasK at ih ⊢;rw[Ĩ,Ĩ,ih,Jq a b i j]
theorem RTs.app{K:PySem.W.Frag}{H:Hp}{v:Own.Val}{i j:Int}{x:V}(q:RV K H v x):∀{kvs:List (Own.Val×Own.Val)}{ps:List (List Key×V)},RTs K H kvs ps->RTs K H (kvs++[(.key i j,v)]) (ps++[([.inl i,.inl j],x)])
 |_,_,.nil=>.cons q .nil
 |_,_,.cons r t=>.cons r<|RTs.app q t
theorem RTs.repl{K:PySem.W.Frag}{H:Hp}{v:Own.Val}{i j:Int}{x:V}(q:RV K H v x):∀{kvs:List (Own.Val×Own.Val)}{ps:List (List Key×V)},RTs K H kvs ps->
  RTs K H (kvs.map fun p=>if p.1 == .key i j then(.key i j,v)else p) (ps.map fun kv=>if kv.1=[.inl i,.inl j]then(kv.1,x)else kv)
 |_,_,.nil=>.nil
 |_,_,.cons (i:=a) (j:=b) (v:=u) (x:=y) r t=>by
  have ih:=RTs.repl (i:=i) (j:=j) q t;have z:=Jq a b i j;rw[Ó,Ó];by_cases e:([.inl a,.inl b]:List Key)=[.inl i,.inl j]
  .rw[decide_eq_true e]at z;simp only[z,if_true,e];exact .cons q ih
  .rw[decide_eq_false e]at z;simp only[z,e,if_false,š];exact .cons r ih
theorem RTs.put{K:PySem.W.Frag}{H:Hp}{v:Own.Val}{i j:Int}{x:V}(q:RV K H v x){kvs:List (Own.Val×Own.Val)}{ps:List (List Key×V)}(r:RTs K H kvs ps):RTs K H (Own.putK kvs (.key i j) v)<|L2.putK ps [.inl i,.inl j] x:=by
 unfold Own.putK L2.putK;rw[r.has];by_cases e:(ps.any fun kv=>decide (kv.1=[.inl i,.inl j]))=true
 .rw[if_pos e,if_pos e];exact r.repl q
 .rw[if_neg e,if_neg e];exact r.app q
theorem K6{k:Own.Val}{x:V}{K:PySem.W.Frag}{H:Hp}(h:Own.isKeyT k=true)(r:RV K H k x):∃a b c,k=.key a b/\x=.ref c/\H c=some (.tup<|([.inl a,.inl b]:List Key).map kV):=by
 cases k with
 |key a b=>cases r with|key e=>exact⟨a,b,_,rfl,rfl,e⟩
 |_=>cases h
noncomputable def FG:R2:=fun x y H Q=>∃a v,x=.ref a/\DGet H a y (some v)/\Q v H
theorem AE(hu:X.A.units+1<Ğ):IxR X FG:=by
 intro ω slice À s σ H x y v u Q I rx ry h hs;obtain⟨a,z,rfl,g,q⟩:=h;cases rx;have hT:=J5 I g;unfold be;refine Ã ?_;rw[getitemInPython_of_ne hT.not_modules];refine Ã<|wpAny_specialOf hT PySem.F.slot_dict_getitem.lookup ?_;have fin:wpAny (Ö X.prog X.w) X.A (subscripted slice false (.ref a) u) (fun r ϔ=>wpAny (Ö X.prog X.w) X.A (letTemporaryGo ω (.ref a) r >>= fun _=>pure r) (EP X À σ Q) X.xe ϔ) X.xe s:=by rw[hs];exact wpAny_operating<|Nd hu I g ry fun w' s' I' rw'=>Ã<|wpAny_letTemporaryGo<|Ñ ⟨_,_,I',rw',q⟩
 first
  |exact Ñ<|Ã fin
  |exact Ã<|Ñ<|Ã fin
  |exact Ã fin
noncomputable def AB(b:Bool):R2:=fun x y H Q=>∃a o,y=.ref a/\DGet H a x o/\Q (.bl<|b ^^ o.isSome) H
theorem Cp(hu:X.A.units+1<Ğ):OpR X (Ý .In)<|AB false:=by intro À s σ H x y v u Q I rx ry h;obtain⟨a,o,rfl,g,q⟩:=h;cases ry;rw[Bool.false_xor]at q;exact GK hu I g rx fun s' I'=>⟨.bl o.isSome,_,I',rfl,q⟩
theorem Cf(hu:X.A.units+1<Ğ):OpR X (Ý .NotIn)<|AB true:=by intro À s σ H x y v u Q I rx ry h;obtain⟨a,o,rfl,g,q⟩:=h;cases ry;rw[Bool.true_xor]at q;exact U1 hu I g rx fun s' I'=>⟨.bl (!o.isSome),_,I',rfl,q⟩
theorem PSet.or{r r':V->V->V->Hp->(Hp->Prop)->Prop}(h:PSet X r)(h':PSet X r'):PSet X fun o y v H Q=>r o y v H Q\/r' o y v H Q:=by
 intro À s σ H o y v ov iv u Q I ro ri rv q;rcases q with q|q
 .exact h À s σ H o y v ov iv u Q I ro ri rv q
 .exact h' À s σ H o y v ov iv u Q I ro ri rv q
end Snd
namespace Snd
open PySem L2
variable {i:Inf}{X:Cx}{Φ:Own.Fs}
theorem Kx(n:Nat)(k:Int):Own.ixN n k=L2.ixN n k:=rfl
variable {H:Hp} {xs:List Own.Val} {vs:List V}
theorem Jk{K:PySem.W.Frag}{k:Int}{v:Own.Val}(r:RVs K H xs vs)(e:Own.atI xs k=some v):∃x,L2.atI vs k=some x/\RV K H v x:=by
 unfold Own.atI at e;unfold L2.atI;rw[Kx,r.length]at e;cases z:L2.ixN vs.length k with
 |none=>rw[z]at e;cases e
 |some j =>rw[z]at e;obtain⟨x,h1,h2⟩:=r.get (show xs[j]?=some v from e);exact⟨x,h1,h2⟩
def FV(i:Inf)(r:R2):Prop:=∀(v u:Own.Val) (G:Own.Hs) (H:Hp) (x y:V) (w:Own.Val) (Q:VK),RH i G H->RV i.K H v x->RV i.K H u y->Own.idxV G v u=some w->(∀z,RV i.K H w z->Q z H)->r x y H Q
variable {a:Expr} {ma:Own.E} {ë:Pos}
theorem Fj{b:Expr}{mb:Own.E}{r:R2}(hr:IxR X r)(ho:FV i r)(ha:PE X a<|tE X i Φ ma)(hb:PE X b<|tE X i Φ mb)(hs:JA b):PE X (.Subscript a b ë) (tE X i Φ<|.idx ma mb) :=
 (Gh hr ha hb hs).imp fun σ H Q ⟨env,G,Qm,Em,p,w,c⟩=>by
  exact two p w fun v u G2 H2 x y k2 p2 rx ry q=>by obtain⟨z,e,q⟩:=go_some q;exact ho v u G2 H2 x y z Q p2.hp rx ry e fun t rt=>c z G2 H2 t k2 p2.hp rt q
theorem AH{s:String}{k:Int}{c:Char}(e:Own.atI s.toList k=some c):L2.atI (Str.ofString s).cps.toList k=some c.toNat:=by
 rw[Str.ofString_eq_toList];show L2.atI (List.map ü s.toList).toArray.toList k=_;unfold Own.atI at e;unfold L2.atI;simp only[È];rw[Kx]at e;cases z:L2.ixN s.toList.length k with
 |none=>rw[z]at e;cases e
 |some j =>rw[z]at e;have e:s.toList[j]?=some c:=e;show(List.map ü s.toList)[j]?=_;rw[í,e];rfl
theorem XA(c:Char):Str.ofString (Ù c)=⟨#[c.toNat]⟩:=by rw[Str.ofString_eq_toList];simp
noncomputable def Hb(K:PySem.W.Frag):R2:=fun x y H Q=>rIx K x y H Q\/FG x y H Q
theorem F6:FV i<|Hb i.K:=by
 intro v u G H x y w Q g rx ry e q;cases v with
 |tup xs =>
  cases u with
  |int k =>
   cases rx with
   |tup hp hr =>obtain⟨z,h1,h2⟩:=Jk hr (show Own.atI xs k=some w from e);exact .inl<|.inr<|.inl ⟨_,_,k,z,rfl,ry.int_inv,Zk hp,h1,q z h2⟩
  |_=>cases e
 |str s =>
  cases u with
  |int k =>
   simp only[Own.idxV]at e;split at e
   .rename_i hl;cases z:Own.atI s.toList k with
    |none=>rw[z]at e;cases e
    |some c =>rw[z]at e;cases e;refine .inl (.inr<|.inr ⟨_,k,_,rx.str_inv,ry.int_inv,by rw[Zh];exact Ç hl ZE,AH z,?_⟩);have:=q _<|.str<|Ù c;rw[XA]at this;exact this
   .cases e
  |_=>cases e
 |ref a =>
  cases rx.ref_inv
  replace e:(match G a with|some (.lst xs)=>(Own.asInt u).bind (Own.atI xs)|some (.dct kvs)=>if Own.isKey u then Own.lookK kvs u else none|some (.frz kvs)=>if Own.isKey u then Own.lookK kvs u else none|some (.dtp kvs)=>if Own.isKeyT u then Own.lookK kvs u else none|_=>none)=some w:=e
  cases z:G a with
  |none=>rw[z]at e;cases e
  |some o =>
   rw[z]at e;cases o with
   |lst xs =>obtain⟨k,hk,e⟩:=ĝ.mp e;cases Z8 hk;obtain⟨vs,h1,h2⟩:=g a _ z;obtain⟨t,h3,h4⟩:=Jk h2 e;exact .inl<|.inl ⟨a,vs,k,t,rfl,ry.int_inv,SqL.of h1,h3,q t h4⟩
   |dct kvs =>obtain⟨hk,e⟩:=ZH (show(if Own.isKey u then Own.lookK kvs u else none)=some w from e);obtain⟨ps,h1,h2⟩:=g a _ z;obtain⟨d,kr,rfl⟩:=key_of hk ry;obtain⟨t,hx,rv⟩:=(h2.look kr).1 w e;exact .inr ⟨a,t,rfl,by rw[<-hx];exact DGet.k h1,q t rv⟩
   |frz kvs =>obtain⟨hk,e⟩:=ZH (show(if Own.isKey u then Own.lookK kvs u else none)=some w from e);obtain⟨ob,ps,h1,h2⟩:=g a _ z;obtain⟨d,kr,rfl⟩:=key_of hk ry;obtain⟨t,hx,rv⟩:=(h2.look kr).1 w e;exact .inr ⟨a,t,rfl,.inl ⟨ps,d,.inr ⟨ob,h1⟩,rfl,hx.symm⟩,q t rv⟩
   |dtp kvs =>obtain⟨hk,e⟩:=ZH (show(if Own.isKeyT u then Own.lookK kvs u else none)=some w from e);obtain⟨ps,h1,h2⟩:=g a _ z;obtain⟨k1,k2,b,rfl,rfl,hb⟩:=K6 hk ry;obtain⟨t,hx,rv⟩:=(h2.look).1 w e;exact .inr ⟨a,t,rfl,by rw[<-hx];exact DGet.t h1 hb,q t rv⟩
   |_=>cases e
 |scr ns =>
  cases u with
  |int k =>
   cases rx with
   |scr h =>obtain⟨t,h3,h4⟩:=Jk (RVs.ints ns) (show Own.atI (ns.map .int) k=some w from e);exact .inl<|.inl ⟨_,_,k,t,rfl,ry.int_inv,Z3 h,h3,q t h4⟩
  |_=>cases e
 |_=>cases e
noncomputable def tOx(X:Cx)(i:Inf)(Φ:Own.Fs)(m:Own.Oe):TO:=fun σ H Q=>∃env G Qm Em,Pre X i σ H env G Em/\Own.wO Φ m env G Qm Em/\∀k G' H',Keep H H'->RH i G' H'->Qm k G'->Q k H'
theorem _root_.L2.PO.imp{e:Option Expr}{t t':TO}(h:PO X e t)(f:∀σ H Q,t' σ H Q->t σ H Q):PO X e t':=fun À s σ H Q I q=>h À s σ H Q I (f σ H Q q)
theorem Bx:PO X none<|tOx X i Φ .none:=po_none.imp fun σ H Q ⟨env,G,Qm,Em,p,w,c⟩=>by exact c none G H (Keep.refl H) p.hp w
theorem AY{e:Expr}{m:Own.E}(he:PE X e<|tE X i Φ m):PO X (some e)<|tOx X i Φ<|.some m:=(As he).imp fun σ H Q ⟨env,G,Qm,Em,p,w,c⟩=>by
 exact one p w fun v G1 H1 x k1 p1 r q=>by obtain⟨b,e,q2⟩:=go_some q;cases Z8 e;exact⟨b,r.int_inv,c _ G1 H1 k1 p1.hp q2⟩
theorem KU{K:PySem.W.Frag}(r:RVs K H xs vs)(lo hi:Option Int):RVs K H (Own.cut xs lo hi)<|Jr vs lo hi:=by
 have e:∀(n d:Nat) (o:Option Int),Own.cutAt n d o=HT.sIx n d o:=by
  intro n d o;cases o with
  |none=>rfl
  |some k =>
   show(if 0<=k then min k.toNat n else(k+n).toNat)=(if k<0 then(k+(n:Int)).toNat else min k.toNat n)
   by_cases h:k<0
   .rw[if_pos h,if_neg<|by omega]
   .rw[if_neg h,if_pos<|by omega]
 unfold Own.cut Jr;rw[e,e,r.length];exact(r.drop _).take _
def F5(i:Inf)(r:V->Option Int->Option Int->Hp->VK->Prop):Prop:=∀(v:Own.Val) (lo hi:Option Int) (G:Own.Hs) (H:Hp) (x:V) (Q:VK) (Qm:Own.Q1),RH i G H->RV i.K H v x->(Own.slcV G v lo hi).wp G Qm->Cn i H Q Qm->r x lo hi H Q
theorem FD{lo hi:Option Expr}{ml mh:Own.Oe}{r:V->Option Int->Option Int->Hp->VK->Prop}{p2:Pos}(hr:SlR X r)(ho:F5 i r)(ha:PE X a<|tE X i Φ ma)(hl:PO X lo<|tOx X i Φ ml)(hh:PO X hi<|tOx X i Φ mh):PE X (.Subscript a (.Slice lo hi none p2) ë) (tE X i Φ<|.slc ma ml mh) :=
 (Od hr ha hl hh).imp fun σ H Q ⟨env,G,Qm,Em,p,w,c⟩=>by
  exact⟨env,G,_,Em,p,w,fun v G1 H1 x k1 g1 r1 w1=>⟨env,G1,_,Em,p.go k1 g1,w1,fun l G2 H2 k2 g2 w2=>⟨env,G2,_,Em,(p.go k1 g1).go k2 g2,w2,fun u G3 H3 k3 g3 w3 =>
    ho v l u G3 H3 x Q Qm g3 ((r1.keep k2).keep k3) w3 (((c.go k1).go k2).go k3)⟩⟩⟩
def EY(K:PySem.W.Frag):V->Option Int->Option Int->Hp->VK->Prop:=fun x lo hi H Q=>Fw K x lo hi H Q\/Gi K x lo hi H Q\/Gb x lo hi H Q\/EL K x lo hi H Q
theorem HC:SlR X<|EY X.K:=sl_list.or (sl_tup.or<|sl_str.or Ac)
theorem YK(n d:Nat)(o:Option Int):Own.cutAt n d o=HT.sIx n d o:=by
 cases o with
 |none=>rfl
 |some k =>
  show(if 0<=k then min k.toNat n else(k+n).toNat)=(if k<0 then(k+(n:Int)).toNat else min k.toNat n)
  by_cases h:k<0
  .rw[if_pos h,if_neg<|by omega]
  .rw[if_neg h,if_pos<|by omega]
theorem JQ(n d:Nat)(h:d<=n)(o:Option Int):Own.cutAt n d o<=n:=by
 cases o with
 |none=>exact h
 |some k =>show(if 0<=k then min k.toNat n else(k+n).toNat)<=n;split<;>omega
theorem clip_eq(n d:Nat)(h:d<=n)(o:Option Int):(match o with
    |none=>(d:Int)
    | some i=>max 0<|min (if i<0 then i+(n:Int)else i) (n:Int))=(Own.cutAt n d o:Int):=by
 cases o with
 |none=>rfl
 |some k =>
  show _=(((if 0<=k then min k.toNat n else(k+n).toNat):Nat):Int)
  by_cases hk:k<0
  .rw[if_neg<|show ¬ 0<=k by omega];simp only[hk,if_true];omega
  .rw[if_pos<|show 0<=k by omega];simp only[hk,if_false];omega
theorem DM(n:Nat)(lo hi:Option Int):PySem.Builtin.Str.strSliceIndices lo hi 1 n=(List.range<|Own.cutAt n n hi - Own.cutAt n 0 lo).map fun k=>Own.cutAt n 0 lo+k:=by
 have e1:=clip_eq n 0 (ϗ _) lo;have e2:=clip_eq n n (Ø _) hi;have e3:PySem.Builtin.Str.strSliceIndices lo hi 1 n=sliceRange (Own.cutAt n 0 lo:Int) (Own.cutAt n n hi:Int) 1:=by unfold PySem.Builtin.Str.strSliceIndices;rw[<-e1,<-e2];cases lo<;>cases hi<;>rfl
 rw[e3];unfold sliceRange;have e4:(if(1:Int) > 0 then(if(Own.cutAt n 0 lo:Int)<(Own.cutAt n n hi:Int)then((Own.cutAt n n hi:Int) - (Own.cutAt n 0 lo:Int)+1 - 1) / 1 else 0)else(if(Own.cutAt n 0 lo:Int) > (Own.cutAt n n hi:Int)then((Own.cutAt n 0 lo:Int) - (Own.cutAt n n hi:Int) - 1 - 1) / (-1)else 0)).toNat=Own.cutAt n n hi - Own.cutAt n 0 lo:=by rw[if_pos (by decide),Int.ediv_one];split<;>omega
 show(List.range<|Int.toNat<|if(1:Int) > 0 then _ else _).map _=_;rw[e4];refine į fun k _=>?_;omega
theorem U9(s:String)(lo hi:Option Int):MW (Str.ofString s) lo hi=Str.ofString (Í<|Own.cut s.toList lo hi):=by
 have hl:(Str.ofString s).length=s.toList.length:=by rw[Zh,Æ]
 have ha:=JQ s.toList.length 0 (ϗ _) lo;have hb:=JQ s.toList.length s.toList.length (Ø _) hi;have e:=DM s.toList.length lo hi;rw[<-hl]at e;unfold MW;rw[e];simp only[hl];have ec:(Str.ofString s).cps.toList=s.toList.map ü:=by rw[Str.ofString_eq_toList]
 split
 .rename_i z;rw[È,bT]at z;have e0:Own.cutAt s.toList.length 0 lo=0\/s.toList.length=0:=by omega
  have e5:Own.cut s.toList lo hi=s.toList:=by
   unfold Own.cut;rw[z];rcases e0 with e0|e0
   .rw[e0,List.drop_zero,ό]
   .have:s.toList=[]:=ű.mp e0;rw[this];simp
  rw[e5,Ŕ]
 .rw[Str.ofString_eq_toList<|Í _,É];congr 2;have e3:(fun i:Nat=>(Str.ofString s).cps[i]?)=fun i:Nat=>(s.toList.map ü)[i]?:=by
   funext i;rw[<-ec];simp
  rw[e3];by_cases hab:Own.cutAt s.toList.length 0 lo<=Own.cutAt s.toList.length s.toList.length hi
  .rw[PySem.StrLaws.picks _ _ _<|by rw[È];omega];unfold Own.cut;rw[χ,ψ]
  .have:Own.cutAt s.toList.length s.toList.length hi - Own.cutAt s.toList.length 0 lo=0:=by omega
   unfold Own.cut;rw[this];simp
theorem ET:F5 i<|EY i.K:=by
 intro v lo hi G H x Q Qm g r w c;cases v with
 |tup xs =>
  simp only[Own.slcV]at w;split at w
  .rename_i hn;rw[Own.Rs.wp_val]at w;cases r with
   |@tup _ a vs hp hr=>exact .inr (.inr<|.inr ⟨a,vs,rfl,Zk hp,by rw[<-YK,<-YK,<-hr.length];exact hn,c _ G H _ (Keep.refl H) g (.tup hp hr) w⟩)
  .rename_i hn;rw[Own.Rs.wp_val]at w;cases r with
   |@tup _ a vs hp hr =>refine .inr (.inl ⟨a,vs,rfl,Zk hp,by rw[<-YK,<-YK,<-hr.length];exact hn,fun p hp'=>?_⟩);have k:=Keep.new (o:=.tup<|Jr vs lo hi) hp';refine c _ G _ _ k (g.hid k fun b o e=>upd_ne ?_) (.tup (.inl upd_same)<|KU (hr.keep k) lo hi) w;rintro rfl;rw[g.free hp']at e;cases e
 |ref a =>
  cases r.ref_inv;simp only[Own.slcV]at w;cases z:Own.lsOf (G a)with
  |none=>rw[z]at w;simp at w
  |some xs =>rw[z]at w;rw[Own.Rs.wp_new]at w;obtain⟨vs,h1,h2⟩:=Zx g z;exact .inl ⟨a,vs,rfl,h1,YC g w c fun p hp=>⟨_,upd_same,KU (h2.keep<|Keep.new hp) lo hi⟩⟩
 |scr ns =>
  simp only[Own.slcV,Own.Rs.wp_new]at w;cases r with
  |scr h=>exact .inl ⟨_,_,rfl,Z3 h,YC g w c fun p hp=>⟨_,upd_same,KU (RVs.ints ns) lo hi⟩⟩
 |str s =>
  cases r.str_inv;simp only[Own.slcV]at w;split at w
  .rename_i hl;rw[Own.Rs.wp_val]at w;refine .inr (.inr <| .inl ⟨_,rfl,by rw[Zh];exact Ç hl (by decide),?_⟩);rw[U9];exact c _ G H _ (Keep.refl H) g (.str _) w
  .simp at w
 |_=>simp[Own.slcV]at w
variable {H:Hp} {vs:List Own.Val} {xs:List V} {v:Own.Val} {x:V}
theorem RVs.app1{K:PySem.W.Frag}(r:RVs K H vs xs)(q:RV K H v x):RVs K H (vs++[v])<|xs++[x]:=r.append (.cons q .nil)
variable {es:List Expr} {ms:Own.Es} {n:Nat} {ë:Pos}
theorem Gq{k:Nat}(hn:n<=1000)(h:PA X es<|tAr X i Φ ms n):PE X (.Tuple es k ë) (tE X i Φ<|.tup ms) :=
 (NJ h).imp fun σ H Q ⟨env,G,Qm,Em,p,w,c⟩=>by refine⟨env,G,_,Em,p,w,fun vs G1 H1 xs k1 g1 r1 hl w1=>⟨by rw[hl];exact Ç hn (by decide),fun a ha=>?_⟩⟩;have k:=Keep.new (o:=.tup xs) ha;refine c _ G1 _ _ (k1.trans k) (g1.hid k fun b o e=>upd_ne ?_) (.tup (.inl upd_same)<|r1.keep k) w1;rintro rfl;rw[g1.free ha]at e;cases e
theorem FI(hn:n<=1000)(h:PA X es<|tAr X i Φ ms n):PE X (.List es ë) (tE X i Φ<|.lst ms) :=
 (CQ h).imp fun σ H Q ⟨env,G,Qm,Em,p,w,c⟩=>by refine⟨env,G,_,Em,p,w,fun vs G1 H1 xs k1 g1 r1 hl w1=>⟨by rw[hl];exact Ç hn (by decide),YC g1 w1 (c.go k1) fun a ha=>?_⟩⟩;exact⟨xs,upd_same,r1.keep<|Keep.new ha⟩
def BiOk(i:Inf)(f:Own.Bi)(r:List V->Hp->VK->Prop):Prop:=∀(vs:List Own.Val) (G:Own.Hs) (H:Hp) (xs:List V) (Q:VK) (Qm:Own.Q1),RH i G H->RVs i.K H vs xs->(Own.biV G f vs).wp G Qm->Cn i H Q Qm->r xs H Q
variable {f:Own.Bi} {r:List V->Hp->VK->Prop}
theorem XF(hr:BiOk i f r):∀σ H Q,tE X i Φ (.bi f ms) σ H Q->tCB r (tAr X i Φ ms n) σ H Q:=fun σ H Q ⟨env,G,Qm,Em,p,w,c⟩=>by exact⟨env,G,_,Em,p,w,fun vs G1 H1 xs k1 g1 r1 _ w1=>hr vs G1 H1 xs Q Qm g1 r1 w1<|c.go k1⟩
theorem RVs.inv1{K:PySem.W.Frag}(r:RVs K H [v] xs):∃x,xs=[x]/\RV K H v x:=by cases r with|cons a t=>cases t;exact⟨_,rfl,a⟩
theorem RVs.inv2{K:PySem.W.Frag}{u:Own.Val}(r:RVs K H [v,u] xs):∃x y,xs=[x,y]/\RV K H v x/\RV K H u y:=by cases r with|cons a t=>cases t with|cons b t=>cases t;exact⟨_,_,rfl,a,b⟩
theorem Yo(s:String):(Str.ofString s).cps.toList=s.toList.map ü:=by rw[Str.ofString_eq_toList]
theorem Ml:∀(l:List Char) (a:Nat),(l.map ü).foldl (fun ĵ c=>ĵ*10+(c - 48)) a=l.foldl (fun a c=>10*a+(c.toNat - 48)) a
 |[],_=>rfl
 |c::l,a=>by rw[Ó,Ĵ,Ĵ,Ml l,au a 10]
theorem Aj{s:String}(h1:s.toList≠[])(h2:s.toList.all Own.figB=true)(h3:s.length<=640):PySem.intText? (Str.ofString s)=some ((Own.decN s.toList:Nat):Int):=by
 have hc:=Yo s;rw[intText_digits (x:=Str.ofString s)]
 .rw[hc];unfold NumText.digitsVal Own.decN;rw[Ml]
 .rw[hc];intro c hm;obtain⟨d,hd,rfl⟩:=ã.mp hm;have:=Ú.mp h2 d hd;unfold Own.figB at this;simpa using this
 .rw[hc];simpa using h1
 .rw[Zh];omega
variable {h:Own.Hs} {Q:Own.Q1}
theorem Y7{f:Own.Val->Own.Rs}(w:(Own.biOf1 f vs).wp h Q):∃v,vs=[v]/\(f v).wp h Q:=by
 cases vs with
 |nil=>exact(Zm w).elim
 |cons v vs=>cases vs with
  |nil=>exact⟨v,rfl,w⟩
  |cons _ _=>exact(Zm w).elim
theorem D1{f:Own.Val->Own.Val->Own.Rs}(w:(Own.biOf2 f vs).wp h Q):∃v u,vs=[v,u]/\(f v u).wp h Q:=by
 cases vs with
 |nil=>exact(Zm w).elim
 |cons v vs=>cases vs with
  |nil=>exact(Zm w).elim
  |cons u us=>cases us with
   |nil=>exact⟨v,u,rfl,w⟩
   |cons _ _=>exact(Zm w).elim
theorem BiOk.imp{r':List V->Hp->VK->Prop}(h:BiOk i f r)(k:∀xs H Q,r xs H Q->r' xs H Q):BiOk i f r':=fun vs G H xs Q Qm g rv w c=>k _ _ _ (h vs G H xs Q Qm g rv w c)
theorem DS:BiOk i .int fun xs H Q=>((∃i,xs=[.int i]/\Q (.int i) H)\/∃k,xs=[.bl k]/\Q (.int<|if k then 1 else 0) H)\/∃z n,xs=[.str z]/\PySem.intText? z=some n/\z.length<=640/\Q (.int n) H:=by
 intro vs G H xs Q Qm g r w c;obtain⟨v,rfl,w⟩:=Y7 w;obtain⟨x,rfl,rx⟩:=r.inv1;cases v with
 |int k=>cases rx.int_inv;exact .inl<|.inl ⟨k,rfl,c _ G H _ (Keep.refl H) g (.int _)<|Zj w⟩
 |bl k=>cases rx.bl_inv;exact .inl<|.inr ⟨k,rfl,c _ G H _ (Keep.refl H) g (.int _)<|Zj w⟩
 |str s =>cases rx.str_inv;obtain⟨hl,w⟩:=Yw w;exact .inr ⟨_,_,rfl,Aj hl.2.1 hl.2.2 hl.1,by rw[Zh];exact hl.1,c _ G H _ (Keep.refl H) g (.int _)<|Zj w⟩
 |_=>exact(Zm w).elim
noncomputable def EJ(o:Option Own.Ob)(f:List Own.Val->Own.Rs):Own.Rs:=match o with
 |some (.lst xs)=>f xs
 |_=>.no
variable {o:Option Own.Ob}
theorem Ue{f:List Own.Val->Own.Rs}(w:(EJ o f).wp h Q):∃xs,o=some (.lst xs)/\(f xs).wp h Q:=by
 cases o with
 |none=>exact(Zm w).elim
 |some o=>cases o with
  |lst xs=>exact⟨xs,rfl,w⟩
  |_=>exact(Zm w).elim
variable {G:Own.Hs}
theorem Ae{Q:VK}{Qm:Own.Q1}{ys:List Own.Val}{us:List V}(g:RH i G H)(r:RVs i.K H ys us)(w:Qm (.tup ys) G)(c:Cn i H Q Qm):∀l,H l=none->Q (.ref l) (upd H l<|.tup us):=fun l hl=>by have k:=Keep.new (o:=.tup us) hl;refine c _ G _ _ k (g.hid k fun b o e=>upd_ne ?_) (.tup (.inl upd_same)<|r.keep k) w;rintro rfl;rw[g.free hl]at e;cases e
theorem UY:BiOk i .tuple fun xs H Q=>∃p ys,xs=[.ref p]/\((SqL i.K H p ys/\∀l,H l=none->Q (.ref l) (upd H l<|.tup ys))\/(SqT i.K H p ys/\Q (.ref p) H)):=by
 intro vs G H xs Q Qm g r w c;obtain⟨v,rfl,w⟩:=Y7 w;obtain⟨x,rfl,rx⟩:=r.inv1;cases v with
 |ref a =>cases rx.ref_inv;obtain⟨ys,e,w⟩:=Ue (f:=fun xs=>.val<|.tup xs) w;obtain⟨us,h1,h2⟩:=g a _ e;exact⟨a,us,rfl,.inl ⟨SqL.of h1,Ae g h2 (Zj w) c⟩⟩
 |tup ys =>
  cases rx with
  |tup hp hr=>exact⟨_,_,rfl,.inr ⟨Zk hp,c _ G H _ (Keep.refl H) g (.tup hp hr)<|Zj w⟩⟩
 |_=>exact(Zm w).elim
noncomputable def kinds:List String:=["int","bool","str","list","tuple","dict"]
theorem AV(K:PySem.W.Frag):∀t∈["NoneType","bool","int","str","tuple","list","dict"],∀T∈kinds,PySem.W.kitOne K (.type t) (.type T)=some (t==T||(t == "bool" && T == "int")):=by intro t ht T hT;simp only[kinds,Î,ę,or_false]at ht hT;rcases ht with rfl|rfl|rfl|rfl|rfl|rfl|rfl<;>rcases hT with rfl|rfl|rfl|rfl|rfl|rfl<;>rfl
theorem Nm(g:RH i G H){t:String}(r:RV i.K H v x)(e:Own.kindV G v=some t):TyV i.K H x (.type t)/\t∈["NoneType","bool","int","str","tuple","list","dict"]:=by
 cases v with
 |non=>cases r;cases e;exact⟨.of .non,by simp⟩
 |bl b=>cases r;cases e;exact⟨.of<|.bl b,by simp⟩
 |int b=>cases r;cases e;exact⟨.of<|.int b,by simp⟩
 |str b=>cases r;cases e;exact⟨.of<|.str _,by simp⟩
 |tup xs=>cases e;cases r with|tup hp hr=>exact⟨.tup<|Zk hp,by simp⟩
 |scr ns=>cases e;cases r with|scr h=>exact⟨.lst<|Z3 h,by simp⟩
 |ref a =>
  cases r.ref_inv;simp only[Own.kindV]at e;cases q:G a with
  |none=>rw[q]at e;cases e
  |some o =>
   rw[q]at e;cases o with
   |lst xs=>cases e;obtain⟨vs,h1,_⟩:=g a _ q;exact⟨.lst<|SqL.of h1,by simp⟩
   |dct kvs=>cases e;obtain⟨ps,h1,_⟩:=g a _ q;exact⟨.of<|.dK h1,by simp⟩
   |ins C fs=>cases e
   |exc C=>cases e
   |frz _=>cases e
   |dtp _=>cases e
 |key _ _=>cases e
theorem F4{e:Expr}{m:Own.E}{T:String}{p p2:Pos}(hT:T∈kinds)(he:PE X e<|tE X i Φ m)(hk:X.K=i.K)(hg:Gl X "isinstance")(hm:X.mg "isinstance" = none)(hg2:Gl X<|Str.ofString T)(hm2:X.mg (Str.ofString T)=none)
  (hv2:ń (Str.ofString T)=some (.type T)) (hn2:Str.ofString T≠"__name__") (aJ:(Str.ofString T==("__debug__" : Str))=false) (ņ:Ð [e,.Name (Str.ofString T) p2] X.env=(false,eval e X.env)::Ð [.Name (Str.ofString T) p2] X.env) :
  PE X (.Call (.Name "isinstance" p) [e,.Name (Str.ofString T) p2] [] ë) (tE X i Φ<|.bi (.isi [T])<|.cons m .nil):=by
 refine(ZJ Uz hg hm (by kernel_rfl) (Zz he (Zz (FW (T:=T) hg2 hm2 hv2 hn2 aJ) pa_nil) ņ) (he:=ņ)).imp fun σ H Q ⟨env,G,Qm,Em,p,w,c⟩=>?_;refine one p w fun v G1 H1 x k1 p1 r q=>?_
 replace q:(Own.Rs.ofO (((Own.isiV G1 v T).bind fun b=>(Own.isiAny G1 v []).map (b || ·)).map .bl)).wp G1 Qm:=q
 simp only[Own.isiAny,Own.isiV]at q;cases z:Own.kindV G1 v with
 |none=>rw[z]at q;simp[Own.Rs.ofO]at q
 |some t =>rw[z]at q;simp only[Ń,õ,Own.Rs.ofO,Own.Rs.wp_val,ϰ]at q;obtain⟨h1,h2⟩:=Nm p1.hp r z;refine⟨x,T,.type t,_,rfl,by rw[hk];exact h1,by rw[hk];exact AV _ t h2 T hT,c _ G1 H1 _ k1 p1.hp (.bl _) q⟩
theorem Kb(h:Own.isLst o=true):∃xs,o=some (.lst xs):=by
 cases o with
 |none=>cases h
 |some o=>cases o with
  |lst xs=>exact⟨xs,rfl⟩
  |_=>cases h
variable {a:Ä}
theorem UL{f:Own.Ad->List Own.Val->Option (Own.Val×Own.Hs)}{t:Own.Val×Own.Hs}(e:Own.bmL G (.ref a) f=some t):∃xs,G a=some (.lst xs)/\f a xs=some t:=by obtain⟨xs,h1,h2⟩:=ĝ.mp (show(Own.lsOf<|G a).bind (f a)=some t from e);exact⟨xs,Nc h1,h2⟩
theorem K3{xs:List Own.Val}{vs:List V}(g:RH i G H)(h:H a=some (.lst vs))(ys:List Own.Val)(us:List V)(r:RVs i.K H ys us):Keep H (upd H a<|.lst us)/\RH i (Own.upd G a<|.lst ys) (upd H a<|.lst us):=by
 have k:Keep H<|upd H a<|.lst us:=Keep.put (fun xs e=>by rw[h]at e;cases e) fun p u e=>by rw[h]at e;cases e
 exact⟨k,g.put k ⟨us,upd_same,r.keep k⟩⟩
noncomputable def spF(i:Inf)(P:Own.Pg)(n:Nat)(f:String):Sp:=fun vs H Q E=>∃args G Qm Em,RVs i.K H args vs/\RH i G H/\Own.wF P n f args G Qm Em/\Cn i H Q Qm/\∀cls d H',XK1 i H Em cls d H'->E cls d H'
def Dfo(pr:à)(w:þ)(mg:Str->Option Á)(base:ô)(i:Inf)(P:Own.Pg)(n:Nat)(f:String):Prop :=
 ∃fa fd ps,FnOk pr w i.K mg base (CX1 pr w) (2*n) fa fd ps (spF i P n f)/\mg (Str.ofString f)=some (.ref fa)/\PySem.W.keepIn i.K (.ref fa)=true/\Binds i.K fd ps []
variable {e:Expr} {es:List Expr} {ë:Pos}
theorem Cr{P:Own.Pg}{n k:Nat}{f:String}{ms:Own.Es}{p:Pos}(hK:X.K=i.K)(D:Dfo X.prog X.w X.mg X.base i P n f)(hr:Room (2*n) X.A)(hg:Gl X<|Str.ofString f)(Ο:(Str.ofString f==("__debug__" : Str))=false)
  (ha:PA X (e::es)<|tAr X i (Own.wF P n) ms k) (he:Ð (e::es) X.env=(false,eval e X.env)::Ð es X.env) (hpl:(Ħ ë<|Ð es X.env).any (·.1)=false) :
  PE X (.Call (.Name (Str.ofString f) p) (e::es) [] ë) (tE X i (Own.wF P n)<|.call f ms):=by
 obtain⟨fa,fd,ps,F,hm,hk,hb⟩:=D;rw[<-hK]at F hk hb;intro À s σ H Q I h;obtain⟨env,G,Qm,Em,pr,w,c⟩:=h;refine AA (E:=XK1 i H Em) F hr hg hm hk hb .nil (XW.passes pr.xo) ha Ο he hpl À s σ H Q I ⟨env,G,_,Em,pr,w,fun vs G1 H1 xs k1 g1 r1 hl w1=>?_⟩;exact⟨vs,G1,Qm,Em,by rw[Ņ];exact r1,g1,w1,c.go k1,fun cls d H' h=>h.go k1⟩
noncomputable def XKS(i:Inf)(H:Hp)(Xe:Own.EQ):XK:=fun cls _ H'=>∃e c G' ad,cls=.ref ad/\i.xc c ad/\Keep H H'/\RH i G' H'/\Xe e c G'
structure PreS(X:Cx)(i:Inf)(σ:St)(H:Hp)(env:Own.Env)(G:Own.Hs)(Xe:Own.EQ):Prop where
 en:REn i.K H env σ
 hp:RH i G H
 xo:XW X<|XKS i H Xe
variable {σ:St} {H:Hp} {H1:Hp} {G:Own.Hs} {Xe:Own.EQ}
theorem PreS.go{σ1:St}{env env1:Own.Env}{G1:Own.Hs}(p:PreS X i σ H env G Xe)(k:Keep H H1)(r:RH i G1 H1)(e:REn i.K H1 env1 σ1):PreS X i σ1 H1 env1 G1 Xe :=
 ⟨e,r,fun À σ H0 s H' a cls s' I f ⟨e,c,G',ad,q1,q2,q3,q4⟩=>p.xo À σ H0 s H' a cls s' I f ⟨e,c,G',ad,q1,q2,k.trans q3,q4⟩⟩
theorem PreS.pre{env:Own.Env}(p:PreS X i σ H env G Xe):Pre X i σ H env G (Xe env) :=
 ⟨p.en,p.hp,fun À σ H0 s H' a cls s' I f ⟨c,G',ad,q1,q2,q3,q4⟩=>p.xo À σ H0 s H' a cls s' I f ⟨env,c,G',ad,q1,q2,q3,q4⟩⟩
structure EOk(i:Inf)(H:Hp)(D:Ends)(N:Own.NQ)(R:Own.Q1)(B C:Own.NQ):Prop where
 nx:∀env' Ĺ G' H',Keep H H'->RH i G' H'->REn i.K H' env' Ĺ->N env' G'->D.nx Ĺ H'
 rt:∀v G' H' x,Keep H H'->RH i G' H'->RV i.K H' v x->R v G'->D.rt x H'
 bk:∀env' Ĺ G' H',Keep H H'->RH i G' H'->REn i.K H' env' Ĺ->B env' G'->D.bk Ĺ H'
 ct:∀env' Ĺ G' H',Keep H H'->RH i G' H'->REn i.K H' env' Ĺ->C env' G'->D.ct Ĺ H'
theorem EOk.go{D:Ends}{N:Own.NQ}{R:Own.Q1}{B C:Own.NQ}(e:EOk i H D N R B C)(k:Keep H H1):EOk i H1 D N R B C :=
 ⟨fun a b c d k'=>e.nx a b c d<|k.trans k',fun a b c d k'=>e.rt a b c d<|k.trans k',fun a b c d k'=>e.bk a b c d<|k.trans k',fun a b c d k'=>e.ct a b c d<|k.trans k'⟩
inductive tStx (X:Cx) (i:Inf) (Φ:Own.Fs) (m:Own.S) (D:Ends) (σ:St) (H:Hp):Prop
 |mk (env:Own.Env) (G:Own.Hs) (N:Own.NQ) (R:Own.Q1) (B C:Own.NQ) (Xe:Own.EQ) (p:PreS X i σ H env G Xe) (w:Own.wS Φ m env G N R B C Xe) (e:EOk i H D N R B C)
noncomputable def tSt(X:Cx)(i:Inf)(Φ:Own.Fs)(m:Own.S):TS:=tStx X i Φ m
inductive tBlx (X:Cx) (i:Inf) (Φ:Own.Fs) (m:Own.Ss) (D:Ends) (σ:St) (H:Hp):Prop
 |mk (env:Own.Env) (G:Own.Hs) (N:Own.NQ) (R:Own.Q1) (B C:Own.NQ) (Xe:Own.EQ) (p:PreS X i σ H env G Xe) (w:Own.wSs Φ m env G N R B C Xe) (e:EOk i H D N R B C)
noncomputable def tBl(X:Cx)(i:Inf)(Φ:Own.Fs)(m:Own.Ss):TS:=tBlx X i Φ m
variable {st:Ě} {t':TS}
theorem _root_.L2.PS.imp{t:TS}(h:PS X st t)(f:∀D σ H,t' D σ H->t D σ H):PS X st t':=fun À s σ H D I q=>h À s σ H D I (f D σ H q)
theorem _root_.L2.PSs.imp{st:List Ě}{t:TS}(h:PSs X st t)(f:∀D σ H,t' D σ H->t D σ H):PSs X st t':=fun À s σ H D I q=>h À s σ H D I (f D σ H q)
theorem Eu:PSs X []<|tBl X i Φ .nil:=pss_nil.imp fun D σ H ⟨env,G,N,R,B,C,Xe,p,w,c⟩=>by exact c.nx env σ G H (Keep.refl H) p.hp p.en w
theorem AQ{sts:List Ě}{m:Own.S}{ms:Own.Ss}(h1:PS X st<|tSt X i Φ m)(h2:PSs X sts<|tBl X i Φ ms):PSs X (st::sts) (tBl X i Φ<|.cons m ms) :=
 (UT h1 h2).imp fun D σ H ⟨env,G,N,R,B,C,Xe,p,w,c⟩=>by exact⟨env,G,_,R,B,C,Xe,p,w,⟨fun env' Ĺ G' H' k g e w'=>⟨env',G',N,R,B,C,Xe,p.go k g e,w',c.go k⟩,c.rt,c.bk,c.ct⟩⟩
variable {m:Own.E}
theorem El(he:PE X e<|tE X i Φ m):PS X (.Return (some e) ë) (tSt X i Φ<|.ret m) :=
 (Cz he).imp fun D σ H ⟨env,G,N,R,B,C,Xe,p,w,c⟩=>by exact⟨env,G,R,Xe env,p.pre,w,c.rt⟩
theorem AL(he:PE X e<|tE X i Φ m)(hs:Ŏ e none ë.line X.env=pure false):PS X (.Expr e ë) (tSt X i Φ<|.expr m) :=
 (Au he hs).imp fun D σ H ⟨env,G,N,R,B,C,Xe,p,w,c⟩=>by exact⟨env,G,_,Xe env,p.pre,w,fun v G1 H1 x k1 g1 r1 w1=>c.nx env σ G1 H1 k1 g1 (p.en.keep k1) w1⟩
theorem DD{t:Expr}{a b:List Ě}{mt:Own.Tt}{ma mb:Own.Ss}(ht:PT X t<|tTt X i Φ mt)(ha:PSs X a<|tBl X i Φ ma)(hb:PSs X b<|tBl X i Φ mb):PS X (.If t a b ë) (tSt X i Φ<|.ite mt ma mb) :=
 (Gg ht ha hb).imp fun D σ H ⟨env,G,N,R,B,C,Xe,p,w,c⟩=>by
  refine⟨env,G,_,Xe env,p.pre,w,fun d G1 H1 k1 g1 q=>?_⟩;cases d with
  |true=>exact⟨env,G1,N,R,B,C,Xe,p.go k1 g1<|p.en.keep k1,by simpa using q,c.go k1⟩
  |false=>exact⟨env,G1,N,R,B,C,Xe,p.go k1 g1<|p.en.keep k1,by simpa using q,c.go k1⟩
noncomputable def gPt(i:Inf)(p:Own.Pt):TG:=fun x σ H Q=>∃v env G ĸ,RV i.K H v x/\RH i G H/\REn i.K H env σ/\Own.bind p G v env=some ĸ/\∀σ2,REn i.K H ĸ σ2->Q σ2 H
variable {tg:Expr}
theorem _root_.L2.PG.imp{t t':TG}(h:PG X tg t)(f:∀v σ H Q,t' v σ H Q->t v σ H Q):PG X tg t':=fun À s σ H v u Q I r q=>h À s σ H v u Q I r (f v σ H Q q)
theorem _root_.L2.PGs.imp{tg:List Expr}{t t':TGs}(h:PGs X tg t)(f:∀v σ H Q,t' v σ H Q->t v σ H Q):PGs X tg t':=fun À s σ H v u Q I r q=>h À s σ H v u Q I r (f v σ H Q q)
variable {x:Str} {j:Nat}
theorem Kn(hN:X.N.Nodup)(hi:X.N[j]?=some x)(hx:Loc X.env.scope x)(hf:X.fn x=true\/X.env.scope.names.lookup x=some .local):PG X (.Name x ë) (gPt i<|.one j) :=
 (Me hN hi hx hf).imp fun v σ H Q ⟨u,env,G,ĸ,r,g,e,b,h⟩=>by cases b;exact h _<|e.set r j
noncomputable def OY(i:Inf)(js:List Nat):TGs:=fun xs σ H Q=>∃vs env ĸ,RVs i.K H vs xs/\REn i.K H env σ/\Own.bindL js vs env=some ĸ/\∀σ2,REn i.K H ĸ σ2->Q σ2 H
theorem A5:PGs X []<|OY i []:=pgs_nil.imp fun xs σ H Q ⟨vs,env,ĸ,r,e,b,h⟩=>by
 cases vs with
 |nil=>cases r;cases b;exact⟨rfl,h _ e⟩
 |cons _ _=>cases b
variable {js:List Nat}
theorem O2(hN:X.N.Nodup)(hi:X.N[j]?=some x)(hx:Loc X.env.scope x)(hf:X.fn x=true\/X.env.scope.names.lookup x=some .local)(h2:PGs X es<|OY i js)
  (hs:(ē (.Name x ë::es) X.env).map (·.2)=Ÿ (.Name x ë) X.env::(ē es X.env).map (·.2)):PGs X (.Name x ë::es) (OY i<|j::js) :=
 (Wb (Me hN hi hx hf) h2 hs).imp fun xs σ H Q ⟨vs,env,ĸ,r,e,b,h⟩=>by
  cases vs with
  |nil=>cases b
  |cons v vs =>
   cases r with
   |cons r t=>exact⟨_,_,rfl,vs,env.set j<|some v,ĸ,t,e.set r j,b,h⟩
theorem WR:∀{js:List Nat}{vs:List Own.Val}{env ĸ:Own.Env},Own.bindL js vs env=some ĸ->vs.length=js.length
 |[],[],_,_,_=>rfl
 |j::js,v::vs,env,_,h=>by rw[Å,Å,WR<|show Own.bindL js vs (env.set j<|some v)=_ from h]
 |[],_::_,_,_,h=>by cases h
 |_::_,[],_,_,h=>by cases h
theorem MA{k:Nat}(hK:X.K=i.K)(hc:X.calm=true)(h:PGs X es<|OY i js)(hn:(ē es X.env).length=js.length)(ņ:(ē es X.env).findIdx? (·.1)=none):PG X (.Tuple es k ë) (gPt i<|.many js) :=
 (OE (n:=js.length) hc h hn ņ).imp fun v σ H Q ⟨u,env,G,ĸ,r,g,e,b,h⟩=>by
  cases u with
  |tup vs =>
   have b:Own.bindL js vs env=some ĸ:=b;cases r with
   |tup hp hr=>exact⟨_,_,rfl,by rw[hK];exact Zk hp,by rw[<-hr.length];exact WR b,vs,env,ĸ,hr,e,b,h⟩
  |_=>cases b
theorem Bv{k k2:Nat}{p1 p2:Pos}(hK:X.K=i.K)(hc:X.calm=true)(h1:PG X (.Name x p1)<|gPt i<|.one j)(h2:PG X (.Tuple es k2 p2)<|gPt i<|.many js):PG X (.Tuple [.Name x p1,.Tuple es k2 p2] k ë) (gPt i<|.nest j js) :=
 (OE (n:=2) hc (Wb h1 (Wb h2 pgs_nil rfl) rfl) rfl rfl).imp fun v σ H Q ⟨u,env,G,ĸ,r,g,e,b,h⟩=>by
  cases u with
  |tup vs =>
   cases vs with
   |nil=>cases b
   |cons x0 vs=>cases vs with
    |nil=>cases b
    |cons y vs=>cases vs with
     |cons _ _=>cases b
     |nil =>
      have b:(Own.tupOf y).bind (fun ys=>Own.bindL js ys<|env.set j<|some x0)=some ĸ:=b;cases r with
      |tup hp hr =>
       cases hr with
       |cons r0 t=>cases t with
        |cons r1 t =>cases t;exact⟨_,_,rfl,by rw[hK];exact Zk hp,rfl,_,_,rfl,x0,env,G,_,r0,g,e,rfl,fun σ2 e2=>⟨_,_,rfl,y,_,G,ĸ,r1,g,e2,b,fun Ϫ e3=>⟨rfl,h Ϫ e3⟩⟩⟩
  |_=>cases b
theorem CJ{q:Own.Pt}(he:PE X e<|tE X i Φ m)(hg:PG X tg<|gPt i q)(hs:bb [tg] e ë.line X.env=pure false)(hw:bc [tg] e X.env=pure none)
  (h1:(ē [tg] X.env).map (·.2)=[Ÿ tg X.env]):PS X (.Assign [tg] e ë) (tSt X i Φ<|.set q m) :=
 (DJ he hg hs hw h1).imp fun D σ H ⟨env,G,N,R,B,C,Xe,p,w,c⟩=>by refine⟨env,G,_,Xe env,p.pre,w,fun v G1 H1 x k1 g1 r1 w1=>?_⟩;obtain⟨ĸ,e2,w1⟩:=go_some w1;exact⟨v,env,G1,ĸ,r1,g1,p.en.keep k1,e2,fun σ2 h2=>c.nx ĸ σ2 G1 H1 k1 g1 h2 w1⟩
structure ItOk(i:Inf)(H0:Hp)(J:It)(st:Own.Hs->Prop)(xs:List Own.Val):Prop where
 go:∀n G H v,Keep H0 H->RH i G H->st G->xs[n]?=some v->J.go n H/\∀x H',J.yld n H x H'->Keep H H'/\RH i G H'/\RV i.K H' v x
 stop:∀n G H,Keep H0 H->RH i G H->st G->xs.length<=n->J.stop n H
noncomputable def tIt(X:Cx)(i:Inf)(Φ:Own.Fs)(m:Own.It):TI:=fun σ H R=>∃env G QI Em,Pre X i σ H env G Em/\Own.wI Φ m env G QI Em/\∀st xs G' H' J,Keep H H'->RH i G' H'->ItOk i H' J st xs->QI st xs G'->R J H'
variable {tg:Expr} {e:Expr}
theorem _root_.L2.PI.imp{t t':TI}(h:PI X tg e t)(f:∀σ H Q,t' σ H Q->t σ H Q):PI X tg e t':=fun À s σ H Q I q=>h À s σ H Q I (f σ H Q q)
noncomputable def GS(K:PySem.W.Frag)(tl:TE):TI:=fun σ H R=>tl σ H fun x H1=>∃a,x=.ref a/\(((∃xs,SqL K H1 a xs)/\R (Itl K a) H1)\/((∃xs,SqT K H1 a xs)/\R (Itt K a) H1))
theorem Ep{l:Expr}{tl:TE}(hl:PE X l tl):PI X tg l<|GS X.K tl:=by
 intro À s σ H R I h;refine thn (hl À s σ H _ I h) fun v s1 ⟨x,H1,I1,r1,q1⟩=>?_;obtain⟨a,e,q1⟩:=q1;subst e;cases r1;rcases q1 with⟨⟨xs,hq⟩,q⟩|⟨⟨xs,hq⟩,q⟩
 .obtain⟨ò,rv,p,hz⟩:=I1.list hq;refine wpAny_pyIter_list p.isList ?_;refine⟨s1.heap.objs.size,[s1.heap.objs.size],_,_,H1,rfl,I1.kept (t':=s1.toks) fun b o e=>Ì _ e,M9 a _,⟨_,è _ rfl,rfl,rfl⟩,fun b hb=>?_,q⟩;have e:b=s1.heap.objs.size:=by simpa using hb
  subst e;exact I1.fpOk (Ø _)<|I1.hok.fresh<|Ø _
 .obtain⟨ò,rv,p,hz⟩:=I1.tuple hq;refine wpAny_pyIter_tuple (show s1.heap.IsTuple a ò.toArray from p) ?_;refine⟨s1.heap.objs.size,[s1.heap.objs.size],_,_,H1,rfl,I1.kept (t':=s1.toks) fun b o e=>Ì _ e,Kt a _,⟨_,è _ rfl,rfl,rfl⟩,fun b hb=>?_,q⟩;have e:b=s1.heap.objs.size:=by simpa using hb
  subst e;exact I1.fpOk (Ø _)<|I1.hok.fresh<|Ø _
variable {H0:Hp} {a:Ä} {xs:List Own.Val}
theorem it_lst:ItOk i H0 (Itl i.K a) (fun g=>Own.lsOf (g a)=some xs) xs where
 go:=fun n G H v _ g e hv=>by obtain⟨vs,h1,h2⟩:=Zx g e;obtain⟨x,h3,h4⟩:=h2.get hv;refine⟨⟨vs,x,h1,h3⟩,fun y H' ⟨e1,e2⟩=>?_⟩;subst e1;have:=e2 vs h1;rw[h3]at this;cases this;exact⟨Keep.refl _,g,h4⟩
 stop:=fun n G H _ g e hn=>by obtain⟨vs,h1,h2⟩:=Zx g e;exact⟨vs,h1,by rw[<-h2.length];exact hn⟩
theorem it_tup{vs:List V}(hp:H0 a=some (.tup vs)\/KT i.K a vs)(hr:RVs i.K H0 xs vs):ItOk i H0 (Itt i.K a) (fun _=>True) xs where
 go:=fun n G H v k g e hv=>by have hp':H a=some (.tup vs)\/KT i.K a vs:=hp.imp (k.t _ _) id;obtain⟨x,h3,h4⟩:=(hr.keep k).get hv;refine⟨⟨vs,x,Zk hp',h3⟩,fun y H' ⟨e1,e2⟩=>?_⟩;subst e1;have:=e2 vs<|Zk hp';rw[h3]at this;cases this;exact⟨Keep.refl _,g,h4⟩
 stop:=fun n G H k g e hn=>by have hp':H a=some (.tup vs)\/KT i.K a vs:=hp.imp (k.t _ _) id;exact⟨vs,Zk hp',by rw[<-hr.length];exact hn⟩
theorem it_scr{ns:List Int}(h:(∃o,H0 a=some (.frz o<|.lst<|ns.map V.int))\/KL i.K a (ns.map V.int)):ItOk i H0 (Itl i.K a) (fun _=>True) (ns.map .int) where
 go:=fun n G H v k g e hv=>by have h':SqL i.K H a<|ns.map V.int:=Z3<|h.imp (fun⟨o,e⟩=>⟨o,k.f _ _ _ e⟩) id;obtain⟨x,h3,h4⟩:=(RVs.ints (K:=i.K) (H:=H) ns).get hv;refine⟨⟨_,x,h',h3⟩,fun y H' ⟨e1,e2⟩=>?_⟩;subst e1;have:=e2 _ h';rw[h3]at this;cases this;exact⟨Keep.refl _,g,h4⟩
 stop:=fun n G H k g e hn=>⟨_,Z3<|h.imp (fun⟨o,e⟩=>⟨o,k.f _ _ _ e⟩) id,by simpa using hn⟩
theorem CY{lo hi:Int}{n:Nat}(hn:n=(hi - lo).toNat):ItOk i H0 (Itr lo n) (fun _=>True) (Own.rangeV lo hi) where
 go:=fun k G H v _ g _ hv=>by
  unfold Own.rangeV at hv;rw[í]at hv;have hk:k<(hi - lo).toNat:=by
   by_cases h:k<(hi - lo).toNat
   .exact h
   .rw[aD<|by simpa using h]at hv;cases hv
  rw[bg hk]at hv;cases hv;refine⟨by rw[hn];exact hk,fun x H' ⟨e1,e2⟩=>?_⟩;subst e1 e2;exact⟨Keep.refl _,g,.int _⟩
 stop:=fun k G H _ g _ hk=>by unfold Own.rangeV at hk;show n<=k;simp at hk;omega
variable {m:Own.E}
theorem DZ(hK:X.K=i.K)(he:PE X e<|tE X i Φ m):PI X tg e (tIt X i Φ<|.seq m) :=
 (Ep he).imp fun σ H R ⟨env,G,QI,Em,p,w,c⟩=>by
  refine one p w fun v G1 H1 x k1 p1 r q=>?_;obtain⟨⟨st,xs⟩,e1,q2⟩:=go_some q;clear q;rw[hK];cases v with
  |tup ys =>
   cases e1;cases r with
   |tup hp hr=>exact⟨_,rfl,.inr ⟨⟨_,Zk hp⟩,c _ _ G1 H1 _ k1 p1.hp (it_tup hp hr) q2⟩⟩
  |scr ns =>
   cases e1;cases r with
   |scr h=>exact⟨_,rfl,.inl ⟨⟨_,Z3 h⟩,c _ _ G1 H1 _ k1 p1.hp (it_scr h) q2⟩⟩
  |ref a =>
   cases r.ref_inv;simp only[Own.itV]at e1;cases z:Own.lsOf (G1 a)with
   |none=>rw[z]at e1;cases e1
   |some ys =>rw[z]at e1;cases e1;obtain⟨vs,h1,h2⟩:=Zx p1.hp z;exact⟨a,rfl,.inl ⟨⟨vs,h1⟩,c _ _ G1 H1 _ k1 p1.hp it_lst q2⟩⟩
  |_=>cases e1
variable {ë:Pos}
theorem NU{a:Expr}{p:Pos}(hg:Gl X "range")(hm:X.mg "range" = none)(ha:PE X a<|tE X i Φ m)(hs:Ð [a] X.env=[(false,eval a X.env)]):PI X tg (.Call (.Name "range" p) [a] [] ë) (tIt X i Φ<|.range m) :=
 (Nw hg hm (Zz ha pa_nil<|by rw[hs];rfl) hs).imp fun σ H R ⟨env,G,QI,Em,p,w,c⟩=>by refine one p w fun v G1 H1 x k1 p1 r q=>?_;obtain⟨n,e1,q2⟩:=go_some q;clear q;cases Z8 e1;cases r.int_inv;exact⟨n,rfl,q2.1.1,q2.1.2,c _ _ G1 H1 _ k1 p1.hp (CY<|by rw[Int.sub_zero]) q2.2⟩
variable {body:List Ě} {mb:Own.Ss}
theorem CU{Ŗ:Expr}{q:Own.Pt}{mi:Own.It}(hp:Ϧ (Ö X.prog X.w) X.A X.env X.xe)(hc:X.calm=true)(hi:PI X tg Ŗ<|tIt X i Φ mi)(hg:PG X tg<|gPt i q)(hb:PSs X body<|tBl X i Φ mb)
  (hs:∀x,ī Ŗ X.env x=pure x):PS X (.For tg Ŗ body [] ë) (tSt X i Φ<|.for q mi mb) :=
 (D0 hp hc hi hg hb hs).imp fun D σ H ⟨env,G,N,R,B,C,Xe,p,w,c⟩=>by
  refine⟨env,G,_,Xe env,p.pre,w,fun st xs G1 H1 J k1 g1 it w1=>?_⟩;refine⟨fun n m Ĺ H'=>n+m=xs.length/\∃env' G',Keep H1 H'/\RH i G' H'/\REn i.K H' env' Ĺ/\Own.wFor st (fun v e g K M=>Own.go (Own.bind q g v e) fun e2=>Own.wSs Φ mb e2 g K R M K Xe) N (xs.drop n) env' G',⟨xs.length,by omega,env,G1,Keep.refl _,g1,p.en.keep k1,by simpa using w1⟩,?_⟩;rintro n m Ĺ H' ⟨hnm,env',G',k2,g2,e2,w2⟩;by_cases hn:n<xs.length
  .right;have hd:xs.drop n=xs[n]::xs.drop (n+1):=Ŧ hn;rw[hd]at w2;obtain⟨s2,w2⟩:=w2;have hv:xs[n]?=some xs[n]:=ß hn;obtain⟨a1,a2⟩:=it.go n G' H' xs[n] k2 g2 s2 hv;refine⟨a1,fun Ϫ H3=>∃env3 G3,Keep H1 H3/\RH i G3 H3/\REn i.K H3 env3 Ϫ/\Own.wFor st (fun v e g K M=>Own.go (Own.bind q g v e) fun e2=>Own.wSs Φ mb e2 g K R M K Xe) N (xs.drop<|n+1) env3 G3,fun Ϫ H3 h=>⟨m - 1,by omega,by omega,h⟩,fun x H3 hy=>?_⟩;obtain⟨k3,g3,r3⟩:=a2 x H3 hy;obtain⟨env4,e4,w4⟩:=go_some w2;refine⟨xs[n],env',G',env4,r3,g3,e2.keep k3,e4,fun σ4 h4=>?_⟩;have kk:Keep H H3:=(k1.trans k2).trans k3;refine⟨env4,G',_,R,N,_,Xe,p.go kk g3 h4,w4,⟨fun aR σ5 G5 H5 k5 g5 e5 w5=>?_,(c.go kk).rt,(c.go kk).nx,fun aR σ5 G5 H5 k5 g5 e5 w5=>?_⟩⟩
   .exact⟨aR,G5,(k2.trans k3).trans k5,g5,e5,w5⟩
   .exact⟨aR,G5,(k2.trans k3).trans k5,g5,e5,w5⟩
  .left;have hd:xs.drop n=[]:=Ŋ (by omega);rw[hd]at w2;exact⟨it.stop n G' H' k2 g2 w2.1 (by omega),c.nx env' Ĺ G' H' (k1.trans k2) g2 e2 w2.2⟩
theorem Ce{t:Expr}{mt:Own.Tt}(hp:Ϧ (Ö X.prog X.w) X.A X.env X.xe)(ht:PT X t<|tTt X i Φ mt)(hb:PSs X body<|tBl X i Φ mb):PS X (.While t body [] ë) (tSt X i Φ<|.whl mt mb) :=
 (O1 hp ht hb).imp fun D σ H ⟨env,G,N,R,B,C,Xe,p,w,c⟩=>by
  obtain⟨n,w⟩:=w;refine⟨fun m Ĺ H'=>∃env' G',Keep H H'/\RH i G' H'/\REn i.K H' env' Ĺ/\Own.wWhile (fun e g K=>Own.wT Φ mt e g K<|Xe e) (fun e g K M=>Own.wSs Φ mb e g K R M K Xe) N m env' G',⟨n,env,G,Keep.refl H,p.hp,p.en,w⟩,?_⟩;rintro m Ĺ H' ⟨env',G',k1,g1,e1,w1⟩;cases m with
  |zero=>cases w1
  |succ m =>
   have w1:Own.wT Φ mt env' G' _<|Xe env':=w1;have p1:=p.go k1 g1 e1;refine⟨env',G',_,Xe env',p1.pre,w1,fun d G2 H2 k2 g2 q=>?_⟩;cases d with
   |true =>refine⟨fun Ϫ H3=>∃env3 G3,Keep H H3/\RH i G3 H3/\REn i.K H3 env3 Ϫ/\Own.wWhile (fun e g K=>Own.wT Φ mt e g K<|Xe e) (fun e g K M=>Own.wSs Φ mb e g K R M K Xe) N m env3 G3,fun Ϫ H3 h=>⟨m,ı _,h⟩,?_⟩;have kk:=k1.trans k2;refine⟨env',G2,_,R,N,_,Xe,p.go kk g2<|e1.keep k2,by simpa using q,⟨fun aR σ5 G5 H5 k5 g5 e5 w5=>⟨aR,G5,kk.trans k5,g5,e5,w5⟩,(c.go kk).rt,(c.go kk).nx,fun aR σ5 G5 H5 k5 g5 e5 w5=>⟨aR,G5,kk.trans k5,g5,e5,w5⟩⟩⟩
   |false=>exact c.nx env' Ĺ G2 H2 (k1.trans k2) g2 (e1.keep k2) (by simpa using q)
theorem DY:BiOk i .len fun xs H Q=>((∃p ys,xs=[.ref p]/\(SqL i.K H p ys\/SqT i.K H p ys)/\Q (.int ys.length) H)\/∃z,xs=[.str z]/\z.length<=Ô/\Q (.int z.length) H)\/∃a kvs,xs=[V.ref a]/\H a=some (.dK kvs)/\Q (.int kvs.length) H:=by
 intro vs G H xs Q Qm g r w c;obtain⟨v,rfl,w⟩:=Y7 w;obtain⟨x,rfl,rx⟩:=r.inv1;cases v with
 |ref a =>
  cases rx.ref_inv
  replace w:(match G a with|some (.lst xs)=>.val (.int xs.length)|some (.dct kvs)=>.val (.int kvs.length)|_=>.no:Own.Rs).wp G Qm:=w
  cases z:G a with
  |none=>rw[z]at w;exact(Zm w).elim
  |some o =>
   rw[z]at w;cases o with
   |lst ys =>obtain⟨us,h1,h2⟩:=g a _ z;refine .inl<|.inl ⟨a,us,rfl,.inl<|SqL.of h1,?_⟩;rw[<-h2.length];exact c _ G H _ (Keep.refl H) g (.int _)<|Zj w
   |dct kvs =>obtain⟨ps,h1,h2⟩:=g a _ z;refine .inr ⟨a,ps,rfl,h1,?_⟩;rw[<-h2.length];exact c _ G H _ (Keep.refl H) g (.int _)<|Zj w
   |_=>exact(Zm w).elim
 |tup ys =>
  cases rx with
  |tup hp hr =>refine .inl<|.inl ⟨_,_,rfl,.inr<|Zk hp,?_⟩;rw[<-hr.length];exact c _ G H _ (Keep.refl H) g (.int _)<|Zj w
 |scr ns =>
  cases rx with
  |scr h =>refine .inl<|.inl ⟨_,_,rfl,.inl<|Z3 h,?_⟩;rw[È];exact c _ G H _ (Keep.refl H) g (.int _)<|Zj w
 |str s =>cases rx.str_inv;obtain⟨hl,w⟩:=Yw w;refine .inl (.inr ⟨_,rfl,by rw[Zh];exact Ç hl ZE,?_⟩);rw[Zh];exact c _ G H _ (Keep.refl H) g (.int _)<|Zj w
 |_=>exact(Zm w).elim
variable {H:Hp}
theorem Ni{K:PySem.W.Frag}:∀{xs:List Own.Val}{bs:List Bool}{vs:List V},Own.blsOf xs=some bs->RVs K H xs vs->vs=bs.map V.bl:=by
 intro xs;induction xs with
 |nil=>intro bs vs e r;cases e;cases r;rfl
 |cons v xs ih =>
  intro bs vs e r;cases v<;>first|(cases e;done)|skip
  case bl b =>
  simp only[Own.blsOf]at e;cases z:Own.blsOf xs with
  |none=>rw[z]at e;cases e
  |some ns=>rw[z]at e;cases e;cases r with|cons a t=>cases a.bl_inv;rw[ih z t];rfl
theorem Kg{K:PySem.W.Frag}:∀{xs:List Own.Val}{bs:List String}{vs:List V},Own.strsOf xs=some bs->RVs K H xs vs->vs=(bs.map Str.ofString).map V.str:=by
 intro xs;induction xs with
 |nil=>intro bs vs e r;cases e;cases r;rfl
 |cons v xs ih =>
  intro bs vs e r;cases v<;>first|(cases e;done)|skip
  case str b =>
  simp only[Own.strsOf]at e;cases z:Own.strsOf xs with
  |none=>rw[z]at e;cases e
  |some ns=>rw[z]at e;cases e;cases r with|cons a t=>cases a.str_inv;rw[ih z t];rfl
theorem DN{o:Option Own.Val}{h:Own.Hs}{Q:Own.Q1}(w:(Own.Rs.ofO o).wp h Q):∃v,o=some v/\Q v h:=by
 cases o with
 |none=>exact(Zm w).elim
 |some v=>exact⟨v,rfl,Zj w⟩
theorem CK:BiOk i .all fun xs H Q=>∃p,∃bs:List Bool,xs=[.ref p]/\SqL i.K H p (bs.map V.bl)/\Q (.bl<|bs.all id) H:=by
 intro vs G H xs Q Qm g r w c;obtain⟨v,rfl,w⟩:=Y7 w;obtain⟨x,rfl,rx⟩:=r.inv1;cases v with
 |ref a =>cases rx.ref_inv;obtain⟨v,e,w⟩:=DN w;obtain⟨ys,z,e⟩:=ĝ.mp e;obtain⟨bs,z2,rfl⟩:=ā.mp e;obtain⟨us,h1,h2⟩:=Zx g z;have:=Ni z2 h2;subst this;exact⟨a,bs,rfl,h1,c _ G H _ (Keep.refl H) g (.bl _) w⟩
 |_=>exact(Zm w).elim
theorem Cl:BiOk i .abs fun xs H Q=>∃i,xs=[.int i]/\Q (.int<|if i<0 then -i else i) H:=by
 intro vs G H xs Q Qm g r w c;obtain⟨v,rfl,w⟩:=Y7 w;obtain⟨x,rfl,rx⟩:=r.inv1;cases v with
 |int a=>cases rx.int_inv;exact⟨a,rfl,c _ G H _ (Keep.refl H) g (.int _)<|Zj w⟩
 |_=>exact(Zm w).elim
set_option exponentiation.threshold 2000 in
theorem Ov{k:Int}(h:k.natAbs<10 ^ 200):k.natAbs.log2<1920:=by
 have e:(10:Nat) ^ 200<2 ^ 1920:=by decide
 by_cases h0:k.natAbs=0
 .rw[h0];decide
 .exact(Nat.log2_lt h0).mpr<|aA h e
theorem Dc:BiOk i .str fun xs H Q=>(∃i,xs=[.int i]/\i.natAbs.log2<1920/\Q (.str<|toString i) H)\/∃z,xs=[.str z]/\Q (.str z) H:=by
 intro vs G H xs Q Qm g r w c;obtain⟨v,rfl,w⟩:=Y7 w;obtain⟨x,rfl,rx⟩:=r.inv1;cases v with
 |int a =>cases rx.int_inv;obtain⟨hl,w⟩:=Yw w;exact .inl ⟨a,rfl,Ov hl,c _ G H _ (Keep.refl H) g (.str _)<|Zj w⟩
 |str s=>cases rx.str_inv;exact .inr ⟨_,rfl,c _ G H _ (Keep.refl H) g (.str _)<|Zj w⟩
 |_=>exact(Zm w).elim
theorem O0(ds:List Own.D)(d:Own.D):(toDs ds).any (fun e=>ė e<|toD d)=ds.any fun e=>Own.D.eqv e d:=by
 induction ds with
 |nil=>rfl
 |cons e es ih=>simp only[toDs,Ĩ,ih,Ji]
variable {G:Own.Hs} {y:V} {ys:List Own.Val}
theorem Mg(g:RH i G H){v u:Own.Val}{x:V}{c:Bool}(rx:RV i.K H v x)(e:Own.inL G v ys=some c)(hy:∀ds,ys.mapM (Own.dat G<|Own.deep - 1)=some ds->IsD i.K H y (.tuple<|toDs ds)\/IsD i.K H y (.list<|toDs ds)) :
  ∃ds d,(IsD i.K H y (.tuple ds)\/IsD i.K H y (.list ds))/\IsD i.K H x d/\Ķ ds=true/\d.canLay0=true/\d.depth<=64/\ds.any (fun e=>ė e d)=c:=by
 unfold Own.inL at e;cases z:Own.dat G Own.deep v with
 |none=>rw[z]at e;cases e
 |some d =>
  rw[z]at e;simp only[õ]at e;cases z2:ys.mapM (Own.dat G<|Own.deep - 1)with
  |none=>rw[z2]at e;cases e
  |some ds =>rw[z2]at e;cases e;exact⟨_,_,hy ds z2,YS g _ _ _ _ z rx,toDs_lay ds,Jt d,Ç (Wv _ _ _ z) (by decide),O0 ds d⟩
theorem K9(g:RH i G H){u:Own.Val}(ry:RV i.K H u y)(hu:u=.tup ys\/∃a,u=.ref a/\Own.lsOf (G a)=some ys):∀ds,ys.mapM (Own.dat G<|Own.deep - 1)=some ds->IsD i.K H y (.tuple<|toDs ds)\/IsD i.K H y (.list<|toDs ds):=by
 intro ds hd;rcases hu with rfl|⟨a,rfl,hl⟩
 .left;have:=YS g Own.deep (.tup ys) (.tup ds) y (by show Option.map _ (List.mapM (Own.dat G<|Own.deep - 1) ys)=_;rw[hd];rfl) ry;simpa[toD]using this
 .right;have:=YS g Own.deep (.ref a) (.lst ds) y (by show(Own.lsOf<|G a).bind _=_;rw[hl];show Option.map _ (List.mapM (Own.dat G<|Own.deep - 1) ys)=_;rw[hd];rfl) ry;simpa[toD]using this
theorem Dz(s t:String)(c:Char)(h:Own.oneC s=some c):(!(Builtin.Str.occurrences (Str.ofString t) (Str.ofString s) 0 (Str.ofString t).length 1).isEmpty)=decide (c∈t.toList):=by
 have e:Str.ofString s=⟨#[c.toNat]⟩:=by
  unfold Own.oneC at h;split at h
  .rename_i d hd;cases h;rw[Str.ofString_eq_toList,hd];rfl
  .cases h
 rw[e,StrLaws.found_one,Yo];have inj:∀{a b:Char},a.toNat=b.toNat->a=b:=fun{a b} e=>Char.ext<|Ŝ e;by_cases hc:c∈t.toList
 .rw[decide_eq_true hc,decide_eq_true_eq];exact List.mem_map_of_mem hc
 .rw[decide_eq_false hc,decide_eq_false_iff_not];intro m;obtain⟨d,hd,he⟩:=ã.mp m;exact hc<|inj he▸hd
noncomputable def Gp(K:PySem.W.Frag):R2:=fun x y H Q=>AB false x y H Q\/Bb K false x y H Q\/∃i j,x=.str i/\y=.str j/\Q (.bl (!(Builtin.Str.occurrences j i 0 j.length 1).isEmpty)) H
noncomputable def Fi(K:PySem.W.Frag):R2:=fun x y H Q=>AB true x y H Q\/Bb K true x y H Q\/∃i j,x=.str i/\y=.str j/\Q (.bl (!(!(Builtin.Str.occurrences j i 0 j.length 1).isEmpty))) H
theorem He(hu:X.A.units+65<Ğ):OpR X (Ý .In)<|Gp X.K:=(Cp<|by omega).or ((Dl hu).or Nq)
theorem GP(hu:X.A.units+65<Ğ):OpR X (Ý .NotIn)<|Fi X.K:=(Cf<|by omega).or ((Np hu).or Ju)
theorem BG{v u:Own.Val}{G:Own.Hs}{H:Hp}{x y:V}{b:Bool}(g:RH i G H)(rx:RV i.K H v x)(ry:RV i.K H u y)(e:Own.inV G v u=some b) :
  (∃ds d,(IsD i.K H y (.tuple ds)\/IsD i.K H y (.list ds))/\IsD i.K H x d/\Ķ ds=true/\d.canLay0=true/\d.depth<=64/\ds.any (fun e=>ė e d)=b)\/
  (∃j k,x=.str j/\y=.str k/\(!(Builtin.Str.occurrences k j 0 k.length 1).isEmpty)=b)\/∃a o,y=.ref a/\DGet H a x o/\o.isSome=b:=by
 cases u with
 |tup ys=>exact .inl<|Mg (u:=.tup ys) g rx e<|K9 g ry<|.inl rfl
 |ref a =>
  replace e:(match G a with|some (.lst xs)=>Own.inL G v xs|some (.dct kvs)=>if Own.isKey v then some (Own.hasK kvs v)else none|some (.frz kvs)=>if Own.isKey v then some (Own.hasK kvs v)else none|some (.dtp kvs)=>if Own.isKeyT v then some (Own.hasK kvs v)else none|_=>none)=some b:=e
  cases z:G a with
  |none=>rw[z]at e;cases e
  |some o =>
   rw[z]at e;cases o with
   |lst ys=>exact .inl (Mg (u:=.ref a) g rx e<|K9 g ry<|.inr ⟨a,rfl,by rw[z];rfl⟩)
   |dct kvs =>obtain⟨hk,e⟩:=ZH (show(if Own.isKey v then some (Own.hasK kvs v)else none)=some b from e);cases e;obtain⟨ps,h1,h2⟩:=g a _ z;obtain⟨d,kr,rfl⟩:=key_of hk rx;exact .inr (.inr ⟨a,_,ry.ref_inv,DGet.k h1,by rw[h2.has kr,Yh]⟩)
   |frz kvs =>obtain⟨hk,e⟩:=ZH (show(if Own.isKey v then some (Own.hasK kvs v)else none)=some b from e);cases e;obtain⟨ob,ps,h1,h2⟩:=g a _ z;obtain⟨d,kr,rfl⟩:=key_of hk rx;exact .inr (.inr ⟨a,_,ry.ref_inv,.inl ⟨ps,d,.inr ⟨ob,h1⟩,rfl,rfl⟩,by rw[h2.has kr,Yh]⟩)
   |dtp kvs =>obtain⟨hk,e⟩:=ZH (show(if Own.isKeyT v then some (Own.hasK kvs v)else none)=some b from e);cases e;obtain⟨ps,h1,h2⟩:=g a _ z;obtain⟨k1,k2,d,rfl,rfl,hd⟩:=K6 hk rx;exact .inr (.inr ⟨a,_,ry.ref_inv,DGet.t h1 hd,by rw[h2.has,Yh]⟩)
   |_=>cases e
 |str t =>
  cases v with
  |str s =>obtain⟨c,z,rfl⟩:=ā.mp e;exact .inr<|.inl ⟨_,_,rx.str_inv,ry.str_inv,Dz s t c z⟩
  |_=>cases e
 |_=>cases e
theorem Bn{o:Option Bool}{b:Bool}(e:o.map (!·)=some b):o=some (!b):=by obtain⟨c,z,rfl⟩:=ā.mp e;rw[z,Υ]
theorem Hc:ZK i .isin<|Gp i.K:=by
 intro v u G H x y c Q g rx ry e q;rcases BG g rx ry e with⟨ds,d,h1,h2,h3,h4,h5,h6⟩|⟨j,k,h1,h2,h3⟩|⟨a,o,h1,h2,h3⟩
 .exact .inr (.inl ⟨ds,d,h1,h2,h3,h4,h5,by show Q (.bl<|List.any _ _) H;rw[h6];exact q⟩)
 .exact .inr (.inr ⟨j,k,h1,h2,by rw[h3];exact q⟩)
 .exact .inl ⟨a,o,h1,h2,by rw[h3,Bool.false_xor];exact q⟩
theorem HA:ZK i .notin<|Fi i.K:=by
 intro v u G H x y c Q g rx ry e q;rcases BG g rx ry (Bn e)with⟨ds,d,h1,h2,h3,h4,h5,h6⟩|⟨j,k,h1,h2,h3⟩|⟨a,o,h1,h2,h3⟩
 .exact .inr (.inl ⟨ds,d,h1,h2,h3,h4,h5,by show Q (.bl (!List.any _ _)) H;rw[h6,Υ];exact q⟩)
 .exact .inr (.inr ⟨j,k,h1,h2,by rw[h3,Υ];exact q⟩)
 .exact .inl ⟨a,o,h1,h2,by rw[h3,Bool.true_xor,Υ];exact q⟩
variable {a:Expr} {b:Expr} {d:Expr} {ma:Own.E} {mb:Own.E} {op:ao} {bj:ao} {cop:Own.Cop} {cop':Own.Cop} {r:R2} {r':R2} {ë:Pos}
theorem AU{md:Own.E}(ho:OpR X (Ý op) r)(hr:ZK i cop r)(aH:OpR X (Ý bj) r')(hr':ZK i cop' r')(ha:PE X a<|tE X i Φ ma)(hb:PE X b<|tE X i Φ mb)(hd:PE X d<|tE X i Φ md)(hm:ϧ [op,bj] [b,d]=false) :
  PE X (.Compare a [op,bj] [b,d] ë) (tE X i Φ<|.chain cop cop' ma mb md) :=
 (OH ho aH ha hb hd hm).imp fun σ H Q ⟨env,G,Qm,Em,p,w,k⟩=>by
  exact two p w fun v u G2 H2 x y k2 p2 rx ry q=>by
   obtain⟨c,e,q⟩:=go_some q;refine hr v u G2 H2 x y c _ p2.hp rx ry e ⟨c,rfl,?_⟩;cases c with
   |true =>
    rw[if_pos rfl]at q ⊢;exact one p2 q fun t G3 H3 z k3 p3 rz q=>by obtain⟨d2,e2,q⟩:=go_some q;exact hr' u t G3 H3 y z d2 Q p3.hp (ry.keep k3) rz e2<|k (.bl d2) G3 H3 (.bl d2) (k2.trans k3) p3.hp (.bl d2) q
   |false =>rw[if_neg ú]at q ⊢;exact k _ G2 H2 _ k2 p2.hp (.bl _) q
theorem N9{md:Own.E}(ho:OpR X (Ý op) r)(hr:ZK i cop r)(aH:OpR X (Ý bj) r')(hr':ZK i cop' r')(ha:PE X a<|tE X i Φ ma)(hb:PE X b<|tE X i Φ mb)(hd:PE X d<|tE X i Φ md)(hm:ϧ [op,bj] [b,d]=false) :
  PT X (.Compare a [op,bj] [b,d] ë) (tTt X i Φ<|.val<|.chain cop cop' ma mb md) :=
 (Ui ho aH ha hb hd hm).imp fun σ H Q ⟨env,G,Qm,Em,p,w,k⟩=>by
  exact two p w fun v u G2 H2 x y k2 p2 rx ry q=>by
   obtain⟨c,e,q⟩:=go_some q;refine hr v u G2 H2 x y c _ p2.hp rx ry e ⟨c,rfl,?_⟩;cases c with
   |true =>
    rw[if_pos rfl]at q ⊢;exact one p2 q fun t G3 H3 z k3 p3 rz q=>by obtain⟨d2,e2,q⟩:=go_some q;obtain⟨d3,e3,q⟩:=go_some q;cases e3;exact hr' u t G3 H3 y z d2 _ p3.hp (ry.keep k3) rz e2 ⟨d2,rfl,k d2 G3 H3 (k2.trans k3) p3.hp q⟩
   |false =>rw[if_neg ú]at q ⊢;obtain⟨d3,e3,q⟩:=go_some q;cases e3;exact⟨false,rfl,k _ G2 H2 k2 p2.hp q⟩
theorem Up{st:Ě}:PS X st<|tSt X i Φ .never:=fun À s σ H D I ⟨env,G,N,R,B,C,Xe,p,w,c⟩=>by exact w.elim
variable {i:Inf}{G:Own.Hs}{H:Hp}
theorem YG{n:Nat}(ih:∀(v u:Own.Val) (x y:V),Own.sam G n v u=true->RV i.K H v x->RV i.K H u y->SamV i.K H n x y):∀{vs us:List Own.Val}{xs ys:List V},Own.samL (Own.sam G n) vs us=true->RVs i.K H vs xs->RVs i.K H us ys->SamVs i.K H n xs ys
 |[],[],_,_,_,.nil,.nil=>.nil
 |v::vs,u::us,_,_,e,.cons r rs,.cons q qs=>by rw[Own.samL,bAq]at e;exact .cons (ih _ _ _ _ e.1 r q)<|YG ih e.2 rs qs
 |[],_::_,_,_,e,_,_=>by cases e
 |_::_,[],_,_,e,_,_=>by cases e
theorem U0(g:RH i G H):∀(n:Nat) (v u:Own.Val) (x y:V),Own.sam G n v u=true->RV i.K H v x->RV i.K H u y->SamV i.K H n x y:=by
 intro n;induction n with
 |zero =>
  intro v u x y e r q;cases v with
  |non=>cases u with
   |non=>cases r;cases q;exact .non
   |_=>cases e
  |bl b=>cases u with
   |bl c=>cases r;cases q;have:=eq_of_beq e;subst this;exact .bl _
   |_=>cases e
  |int b=>cases u with
   |int c=>cases r;cases q;have:=eq_of_beq e;subst this;exact .int _
   |_=>cases e
  |str b=>cases u with
   |str c=>cases r;cases q;have:=eq_of_beq e;subst this;exact .str _
   |_=>cases e
  |ref b=>cases u with
   |ref c=>cases r;cases q;have:=eq_of_beq e;subst this;exact .ref _
   |_=>cases e
  |_=>cases e
 |succ n ih =>
  intro v u x y e r q;cases v with
  |non=>cases u with
   |non=>cases r;cases q;exact .non
   |_=>cases e
  |bl b=>cases u with
   |bl c=>cases r;cases q;have:=eq_of_beq e;subst this;exact .bl _
   |_=>cases e
  |int b=>cases u with
   |int c=>cases r;cases q;have:=eq_of_beq e;subst this;exact .int _
   |_=>cases e
  |str b=>cases u with
   |str c=>cases r;cases q;have:=eq_of_beq e;subst this;exact .str _
   |_=>cases e
  |tup xs=>cases u with
   |tup ys =>
    cases r with
    |tup hp hr=>cases q with
     |tup hp2 hr2=>exact .tup (Zk hp) (Zk hp2)<|YG ih e hr hr2
   |_=>cases e
  |ref b=>cases u with
   |ref c =>
    cases r;cases q;rw[Own.sam,Ż]at e;rcases e with e|e
    .have:=eq_of_beq e;subst this;exact .ref _
    .cases z:Own.lsOf (G b)with
     |none=>rw[z]at e;cases e
     |some xs =>
      cases z2:Own.lsOf (G c)with
      |none=>rw[z,z2]at e;cases e
      |some ys =>rw[z,z2]at e;obtain⟨vs,h1,h2⟩:=Zx g z;obtain⟨us,h3,h4⟩:=Zx g z2;exact .lst h1 h3<|YG ih e h2 h4
   |_=>cases e
  |scr ns=>cases u<;>cases e
  |key _ _=>cases u<;>cases e
variable {v:Own.Val} {x:V}
theorem WH(g:RH i G H){xs:List Own.Val}(r:RV i.K H v x)(e:Own.asLst G v=some xs):∃a vs,x=.ref a/\SqL i.K H a vs/\RVs i.K H xs vs:=by
 cases v with
 |ref a =>cases r;obtain⟨vs,h1,h2⟩:=Zx g e;exact⟨a,vs,rfl,h1,h2⟩
 |_=>cases e
theorem UR(g:RH i G H){u:Own.Val}{y:V}(rx:RV i.K H v x)(ry:RV i.K H u y){c:Bool}{f:List Own.Val->List Own.Val->Option Bool}(e:((Own.asLst G v).bind fun xs=>(Own.asLst G u).bind fun ys=>f xs ys)=some c):∃xs ys a b vs us,f xs ys=some c/\x=.ref a/\y=.ref b/\SqL i.K H a vs/\SqL i.K H b us/\RVs i.K H xs vs/\RVs i.K H ys us:=by
 cases z:Own.asLst G v with
 |none=>rw[z]at e;cases e
 |some xs =>
  cases z2:Own.asLst G u with
  |none=>rw[z,z2]at e;cases e
  |some ys =>rw[z,z2]at e;obtain⟨a,vs,h1,h2,h3⟩:=WH g rx z;obtain⟨b,us,k1,k2,k3⟩:=WH g ry z2;exact⟨xs,ys,a,b,vs,us,e,h1,k1,h2,k2,h3,k3⟩
theorem c_nes:ZK i .nes<|Cu i.K:=by
 intro v u G H x y c Q g rx ry e q;obtain⟨xs,ys,a,b,vs,us,e,h1,h2,h3,h4,h5,h6⟩:=UR g rx ry e;split at e
 .rename_i z;cases e;exact⟨a,b,vs,us,h1,h2,h3,h4,YG (U0 g 8) z h5 h6,q⟩
 .cases e
end Snd
namespace L2
open PySem PySem.Spec PyProof.Rows
variable {X:Cx}
noncomputable def rD0:R2:=fun x y H Q=>∃a,x=.ref a/\y=.ref a/\H a=some (.dK [])/\Q (.bl false) H
theorem Bu(hu:X.A.units<Ğ):OpR X (Ý .NotEq) rD0:=by intro À s σ H x y v u Q I rx ry h;obtain⟨a,rfl,rfl,ha,q⟩:=h;cases rx;cases ry;obtain⟨z,hd,vs,rel,dd⟩:=E7 I.hok ha;cases rel;exact PySem.W.keq_ne (r:=true) hd hd dd dd hu (fun _=>.nil) ⟨.bl false,H,I,rfl,q⟩
noncomputable def FF(K:PySem.W.Frag):R2:=fun x y H Q=>Cu K x y H Q\/CG K x y H Q\/rD0 x y H Q
theorem Ex(hu:X.A.units+64<Ğ):OpR X (Ý .NotEq)<|FF X.K:=by
 intro À s σ H x y v u Q I rx ry h;rcases h with h|h|h
 .exact CP hu À s σ H x y v u Q I rx ry h
 .exact Oy hu À s σ H x y v u Q I rx ry h
 .exact Bu (by omega) À s σ H x y v u Q I rx ry h
end L2
namespace Snd
open PySem L2
variable {i:Inf}
theorem c_neX:ZK i .neX<|FF i.K:=by
 intro v u G H x y c Q g rx ry e q;change(if Own.sam0 G v u=true then some false else(Own.eqV G v u).map (!·))=some c at e;split at e
 .rename_i z;cases e;unfold Own.sam0 at z;rw[Ż]at z;rcases z with z|z
  .cases z1:Own.asLst G v with
   |none=>rw[z1]at z;cases z
   |some xs =>
    cases z2:Own.asLst G u with
    |none=>rw[z1,z2]at z;cases z
    |some ys =>rw[z1,z2]at z;exact .inl (c_nes v u G H x y false Q g rx ry (by show(Own.asLst G v).bind _=_;rw[z1,z2];exact if_pos z) q)
  .refine .inr<|.inr ?_;cases v with
   |ref a=>cases u with
    |ref b =>
     cases rx.ref_inv;cases ry.ref_inv;change(a==b&&Own.noPairs (G a))=true at z;rw[bAq]at z;cases eq_of_beq z.1;have z:=z.2;cases w:G a with
     |none=>rw[w]at z;cases z
     |some o =>
      rw[w]at z;cases o with
      |dct kvs=>cases kvs with
       |nil =>obtain⟨us,h1,h2⟩:=g a _ w;cases h2;exact⟨a,rfl,rfl,h1,q⟩
       |cons _ _=>cases z
      |_=>cases z
    |_=>cases z
   |_=>cases u<;>cases z
 .exact .inr<|.inl<|Fu v u G H x y c Q g rx ry e q
variable {i:Inf}{X:Cx}{Φ:Own.Fs}
theorem Z2(s:String):Zg (Str.ofString s)=s.toList.map ü:=Yo s
theorem JN(ŭ:String):∀ss:List String,Zg (Str.join (Str.ofString ŭ)<|ss.map Str.ofString)=(Own.joinC ŭ.toList<|ss.map ì).map ü
 |[]=>rfl
 |[x]=>Z2 x
 |x::y::r=>by show Zg (Str.ofString x++Str.ofString ŭ++Str.join (Str.ofString ŭ) ((y::r).map Str.ofString))=_;rw[Yr,Yr,JN ŭ<|y::r,Z2,Z2];simp only[Ó,Own.joinC,æ,â]
theorem N6(ŭ:String)(ss:List String):Txt.join (Str.ofString ŭ) (ss.map Str.ofString)=Str.ofString (Own.joinS ŭ ss):=by rw[Bz];apply Wy;rw[JN,Z2,Own.joinS_toList]
theorem U6(ss:List String):((ss.map Str.ofString).map (·.length)).sum=(ss.map String.length).sum:=by rw[ă];congr 1;exact į fun s _=>Zh s
theorem JW(c:Char):∀l:List Char,jl c.toNat ((Own.splitC c l).map<|List.map ü)=l.map ü
 |[]=>rfl
 |x::xs=>by
  have ih:=JW c xs;have Ψ:=Own.splitC_ne c xs;unfold Own.splitC;cases z:Own.splitC c xs with
  |nil=>exact absurd z Ψ
  |cons y ys =>
   rw[z]at ih;by_cases hx:x=c
   .subst hx;rw[if_pos rfl];show []++x.toNat::jl x.toNat ((y::ys).map _)=_;rw[ih];rfl
   .rw[if_neg hx];cases ys with
    |nil=>have ih:y.map ü=xs.map ü:=ih;show(x::y).map ü=_;rw[Ó,ih,Ó]
    |cons y2 ys =>have ih:y.map ü++c.toNat::jl c.toNat ((y2::ys).map _)=xs.map ü:=ih;show(x::y).map ü++c.toNat::jl c.toNat ((y2::ys).map _)=_;rw[Ó,Ł,ih,Ó]
theorem JR(c:Char):∀(l:List Char),∀p∈Own.splitC c l,c∉p
 |[]=>fun p hp=>by unfold Own.splitC at hp;cases ñ.mp hp;simp
 |x::xs=>fun p hp=>by
  have ih:=JR c xs;unfold Own.splitC at hp;by_cases hx:x=c
  .rw[if_pos hx]at hp;rcases Î.mp hp with rfl|hp
   .simp
   .exact ih p hp
  .rw[if_neg hx]at hp;cases z:Own.splitC c xs with
   |nil =>rw[z]at hp;cases ñ.mp hp;simpa using fun e=>hx e.symm
   |cons y ys =>
    rw[z]at hp ih;rcases Î.mp hp with rfl|hp
    .intro m;rcases Î.mp m with e|m
     .exact hx e.symm
     .exact ih y (by simp) m
    .exact ih p (by simp[hp])
theorem NH(s:String)(c:Char):Txt.split (Str.ofString s) ⟨#[c.toNat]⟩=(Own.splitS c s).map Str.ofString:=by
 have inj:∀{a b:Char},a.toNat=b.toNat->a=b:=fun{a b} e=>Char.ext<|Ŝ e;have e1:((Own.splitS c s).map Str.ofString).map Zg=(Own.splitC c s.toList).map (List.map ü):=by unfold Own.splitS;rw[ă,ă];exact į fun l _=>by show Zg (Str.ofString<|Í l)=_;rw[Z2,É]
 refine O6 ?_ (fun p hp=>?_) ?_
 .intro e;have:(Own.splitC c s.toList).length=0:=by
   have:=congrArg List.length e;simpa[Own.splitS]using this
  exact Own.splitC_ne c _<|ű.mp this
 .obtain⟨q,hq,rfl⟩:=ã.mp hp;unfold Own.splitS at hq;obtain⟨l,hl,rfl⟩:=ã.mp hq;rw[Z2,É];intro m;obtain⟨d,hd,he⟩:=ã.mp m;exact JR c _ l hl<|inj he▸hd
 .rw[e1,JW,Z2]
theorem Ol{t:String}{c:Char}(h:Own.oneC t=some c):Str.ofString t=⟨#[c.toNat]⟩:=by
 unfold Own.oneC at h;split at h
 .rename_i d hd;cases h;rw[Str.ofString_eq_toList,hd];rfl
 .cases h
variable {s:String}
theorem YE{v:Own.Val}(h:Own.asStr v=some s):v=.str s:=by cases v<;>simp_all [Own.asStr]
theorem RVs.strs{K:PySem.W.Frag}{H:Hp}:∀ss:List String,RVs K H (ss.map Own.Val.str) ((ss.map Str.ofString).map V.str)
 |[]=>.nil
 |s::ss=>.cons (.str s)<|RVs.strs ss
variable {e:Expr} {m:Own.E}
theorem AX{o:Expr}{mo:Own.E}{ο ŀ:Pos}(ho:PE X o<|tE X i Φ mo)(he:PE X e<|tE X i Φ m)(Ϻ:ś o "split" X.env (eval o X.env)=eval o X.env)(aa:(ο.endLine==ŀ.line)=true)
  (ņ:Ð [e] X.env=(false,eval e X.env)::Ð [] X.env):PE X (.Call (.Attribute o "split" ο) [e] [] ŀ)<|tE X i Φ<|.split mo m:=by
 refine(BV PySem.F.plainAttrs_str PySem.F.slot_str_split PySem.F.type_str_split Uk ho (Zz he pa_nil ņ) Ϻ (by rw[ņ];rfl) aa ņ).imp fun σ H Q ⟨env,G,Qm,Em,p,w,c⟩=>?_;refine one p w fun v G1 H1 x k1 p1 r q=>?_;obtain⟨s,e1,q2⟩:=go_some q;clear q;cases YE e1;cases r.str_inv;refine⟨rfl,?_⟩;refine one p1 q2 fun u G2 H2 y k2 p2 ry q=>?_;obtain⟨d,e2,q3⟩:=go_some q;clear q;have q:=q3;clear q3;cases z:Own.asStr u with
 |none=>rw[z]at e2;cases e2
 |some t =>rw[z]at e2;have e2:Own.oneC t=some d:=e2;cases YE z;cases ry.str_inv;refine⟨_,d.toNat,rfl,by rw[Ol e2],by rw[Zh];exact Ç q.1 ZE,?_⟩;rw[NH];exact YC p2.hp q.2 ((c.go k1).go k2) fun p hp=>⟨_,upd_same,RVs.strs _⟩
noncomputable def tPt(X:Cx)(i:Inf)(Φ:Own.Fs)(m:Own.E):TE:=fun σ H Q=>∃env G Qm Em,Pre X i σ H env G Em/\Own.wE Φ m env G Qm Em/\∀v G' H',Keep H H'->RH i G' H'->Qm v G'->∃s,Own.fmtV v=some s/\s.length<=Own.lim/\Q (.str<|Str.ofString s) H'
noncomputable def tJs(X:Cx)(i:Inf)(Φ:Own.Fs)(ms:Own.Es):TJ:=fun σ H ĵ Q=>∃env G a Qm Em,ĵ=Str.ofString a/\a.length<=Own.lim/\Pre X i σ H env G Em/\Own.wJ Φ ms env G a Qm Em/\∀s G' H',Keep H H'->RH i G' H'->Qm s G'->Q (Str.ofString s) H'
theorem _root_.L2.PJ.imp{vs:List Expr}{t t':TJ}(h:PJ X vs t)(f:∀σ H ĵ Q,t' σ H ĵ Q->t σ H ĵ Q):PJ X vs t':=fun À s σ H ĵ Q I q=>h À s σ H ĵ Q I (f σ H ĵ Q q)
variable {ë:Pos}
theorem EA(he:PE X e<|tE X i Φ m):PE X (.FormattedValue e (-1) none ë) (tPt X i Φ m) :=
 (AR he).imp fun σ H Q ⟨env,G,Qm,Em,p,w,c⟩=>by
  refine⟨env,G,Qm,Em,p,w,fun v G1 H1 x k1 g1 r1 w1=>?_⟩;obtain⟨s,e1,hl,q⟩:=c v G1 H1 k1 g1 w1;cases v with
  |str t=>cases e1;cases r1.str_inv;exact .inr ⟨_,rfl,by rw[Zh];exact Ç hl ZE,q⟩
  |int n =>
   cases r1.int_inv;simp only[Own.fmtV]at e1;split at e1
   .rename_i hn;cases e1;exact .inl ⟨n,rfl,Ov hn,q⟩
   .cases e1
  |_=>cases e1
theorem DT{j:Nat}:PE X (.Constant (.str<|Str.ofString s) j ë) (tPt X i Φ<|.cst<|.str s) :=
 pe_str.imp fun σ H Q ⟨env,G,Qm,Em,p,w,c⟩=>by obtain⟨t,e1,hl,q⟩:=c _ G H (Keep.refl H) p.hp w;cases e1;exact q
theorem CC:PJ X []<|tJs X i Φ .nil:=pj_nil.imp fun σ H ĵ Q ⟨env,G,a,Qm,Em,e,hl,p,w,c⟩=>by subst e;exact⟨by rw[Zh];exact Ç hl ZE,c a G H (Keep.refl H) p.hp w⟩
theorem K8{es:List Expr}{ms:Own.Es}(he:PE X e<|tPt X i Φ m)(hr:PJ X es<|tJs X i Φ ms)(hs:aw (e::es) X.env=eval e X.env::aw es X.env):PJ X (e::es) (tJs X i Φ<|.cons m ms) :=
 (BB he hr hs).imp fun σ H ĵ Q ⟨env,G,a,Qm,Em,e,hl,p,w,c⟩=>by subst e;refine⟨env,G,_,Em,p,w,fun v G1 H1 k1 g1 w1=>?_⟩;obtain⟨s,e1,hl1,w2⟩:=go_some w1;clear w1;refine⟨s,e1,by omega,_,rfl,?_,env,G1,a++s,Qm,Em,(W3 a s).symm,by rw[Ü];exact hl1,p.go k1 g1,w2,fun t G2 H2 k2=>c t G2 H2<|k1.trans k2⟩;rw[<-W3,Zh,Ü];exact Ç hl1 ZE
theorem Mv{G:Own.Hs}{H:Hp}{p:Ä}{o:HO}(g:RH i G H)(hp:H p=none):RH i G<|upd H p o:=g.hid (Keep.new hp) fun b u e=>upd_ne (by rintro rfl;rw[g.free hp]at e;cases e)
theorem UF{H0:Hp}:ItOk i H0 (Its<|Str.ofString s) (fun _=>True) (Own.strL s) where
 go:=fun n G H v _ g e hv=>by
  unfold Own.strL at hv;rw[í]at hv;cases z:s.toList[n]? with
  |none=>rw[z]at hv;cases hv
  |some d =>
   rw[z]at hv;cases hv;have hn:n<s.length:=by rw[<-Æ];exact(ð.mp z).1
   refine⟨by show n<(Str.ofString s).length;rw[Zh];exact hn,fun w H' ⟨e1,d',e2,e3⟩=>?_⟩;subst e1 e3;rw[Yo,í,z]at e2;cases e2;refine⟨Keep.refl _,g,?_⟩;have:=fun H=>RV.str (K:=i.K) (H:=H)<|Ù d;simp only[XA]at this;exact this _
 stop:=fun n G H _ g e hn=>by show(Str.ofString s).length<=n;rw[Zh,<-Æ];simpa[Own.strL]using hn
theorem OA{x:Str}{px:Pos}(he:PE X e<|tE X i Φ m):PI X (.Name x px) e (tIt X i Φ<|.chars m) :=
 (Di he).imp fun σ H R ⟨env,G,QI,Em,p,w,c⟩=>by refine one p w fun v G1 H1 x k1 p1 r q=>?_;obtain⟨s,e1,q2⟩:=go_some q;clear q;cases YE e1;cases r.str_inv;exact⟨_,rfl,c _ _ G1 H1 _ k1 p1.hp UF q2⟩
noncomputable def tE0(i:Inf)(Φ:Own.Fs)(m:Own.E)(E:XK):TE:=fun σ H Q=>∃env G Qm Em,REn i.K H env σ/\RH i G H/\(∀cls H',XK1 i H Em cls none H'->E cls none H')/\Own.wE Φ m env G Qm Em/\Cn i H Q Qm
noncomputable def tT0(i:Inf)(Φ:Own.Fs)(m:Own.Tt)(E:XK):TT:=fun σ H Q=>∃env G Qm Em,REn i.K H env σ/\RH i G H/\(∀cls H',XK1 i H Em cls none H'->E cls none H')/\Own.wT Φ m env G Qm Em/\∀b G' H',Keep H H'->RH i G' H'->Qm b G'->Q b H'
variable {H:Hp}
theorem NK{E:XK}{Em:Own.XQ}(xw:XW X E)(h:∀cls H',XK1 i H Em cls none H'->E cls none H'):XOk X i H Em:=fun À σ H0 s H' a cls s' I f e=>xw À σ H0 s H' a cls s' I f (h cls H' e)
variable {e:Expr}
theorem pe0{m:Own.E}{E:XK}(xw:XW X E)(h:PE X e<|tE X i Φ m):PE X e<|tE0 i Φ m E:=h.imp fun σ H Q ⟨env,G,Qm,Em,r,g,x,w,c⟩=>⟨env,G,Qm,Em,⟨r,g,NK xw x⟩,w,c⟩
theorem pt0{m:Own.Tt}{E:XK}(xw:XW X E)(h:PT X e<|tTt X i Φ m):PT X e<|tT0 i Φ m E:=h.imp fun σ H Q ⟨env,G,Qm,Em,r,g,x,w,c⟩=>⟨env,G,Qm,Em,⟨r,g,NK xw x⟩,w,c⟩
theorem _root_.L2.PIfs.imp{es:List Expr}{t t':TT}(h:PIfs X es t)(f:∀σ H Q,t' σ H Q->t σ H Q):PIfs X es t':=fun À s σ H Q I q=>h À s σ H Q I (f σ H Q q)
theorem Eb{E:XK}:PIfs X []<|tT0 i Φ .yes E:=pifs_nil.imp fun σ H Q ⟨env,G,Qm,Em,r,g,_,w,c⟩=>by exact c true G H (Keep.refl H) g w
variable {ç:List Nat}
theorem U4{K:PySem.W.Frag}{H':Hp}{env:Own.Env}{σ:St}{k:Nat}(r:REn K H env σ)(kp:Keep H H'):REn K H' (Ë k none++ç.map fun j=>(env[j]?).getD none)<|Ë k none++K1 σ ç:=by
 refine⟨by simp[K1],fun n u e=>?_⟩;by_cases hn:n<k
 .rw[Ă (by rw[Û];exact hn),İ,if_pos hn]at e;cases e
 .rw[ą (by rw[Û];omega),Û]at e ⊢;generalize n - k=n at e ⊢;simp only[í]at e;cases z:ç[n]? with
  |none=>rw[z]at e;cases e
  |some j =>
   rw[z]at e;simp only[Ń,ğ]at e;cases z2:env[j]? with
   |none=>rw[z2]at e;cases e
   |some o =>rw[z2]at e;have e:o=some u:=e;subst e;obtain⟨y,h1,h2⟩:=r.get j u z2;exact⟨y,by unfold K1;rw[í,z];show some ((σ[j]?).getD none)=_;rw[h1];rfl,h2.keep kp⟩
noncomputable def KZ(k:Nat):Own.Pt->Bool
 |.one j=>decide (j<k)
 |.many js=>js.all fun j=>decide (j<k)
 |.nest _ _=>false
theorem WV{r:Own.Env}:∀{js:List Nat}{vs:List Own.Val}{l ĸ:Own.Env},(js.all fun j=>decide (j<l.length))=true->Own.bindL js vs (l++r)=some ĸ->∃l',ĸ=l'++r/\l'.length=l.length
 |[],[],l,_,_,e=>by cases e;exact⟨l,rfl,rfl⟩
 |j::js,v::vs,l,_,h,e=>by rw[List.all_cons,bAq,decide_eq_true_eq]at h;have e:Own.bindL js vs ((l++r).set j<|some v)=_:=e;rw[aT _ _ h.1]at e;obtain⟨l',h1,h2⟩:=WV (l:=l.set j<|some v) (by rw[ź];exact h.2) e;exact⟨l',h1,by rw[h2,ź]⟩
 |[],_::_,_,_,_,h=>by cases h
 |_::_,[],_,_,_,h=>by cases h
variable {l:Own.Env} {r:Own.Env}
theorem Ou{p:Own.Pt}{G:Own.Hs}{v:Own.Val}{ĸ:Own.Env}(h:KZ l.length p=true)(e:Own.bind p G v (l++r)=some ĸ):∃l',ĸ=l'++r/\l'.length=l.length:=by
 cases p with
 |one j =>have e:some ((l++r).set j<|some v)=some ĸ:=e;cases e;exact⟨l.set j<|some v,by rw[aT _ _<|of_decide_eq_true h],ź⟩
 |many js =>
  cases v with
  |tup vs=>exact WV h e
  |_=>cases e
 |nest j js=>cases h
theorem REn.pre{K:PySem.W.Frag}{τ:St}(q:REn K H (l++r) τ):REn K H (Ë l.length none++r) τ:=by
 refine⟨by rw[<-q.len];simp,fun n u e=>?_⟩;by_cases hn:n<l.length
 .rw[Ă (by rw[Û];exact hn),İ,if_pos hn]at e;cases e
 .rw[ą (by rw[Û];omega),Û]at e;exact q.get n u (by rw[ą<|by omega];exact e)
theorem MM{k:Nat}{pt:Own.Pt}(hk:KZ k pt=true){mi:Own.It}{mt:Own.Tt}{me:Own.E}:∀σ H Q,tE X i Φ (.comp ç k pt mi mt me) σ H Q->Uv X (tIt X i Φ mi) k ç (gPt i pt) (tT0 i Φ mt) (tE0 i Φ me) σ H Q:=fun σ H Q ⟨env,G,Qm,Em,p,w,c⟩=>by
 refine⟨env,G,_,Em,p,w,fun st xs G1 H1 J k1 g1 it w1=>?_⟩;obtain⟨hl,w1⟩:=w1;generalize hstep:(fun(v:Own.Val) (h2:Own.Hs) (K:Option Own.Val->Own.Hs->Prop) (X2:Own.XQ)=>Own.go (Own.bind pt h2 v<|Ë k none++ç.map fun j=>(env[j]?).getD none) fun ĸ =>
       Own.wT Φ mt ĸ h2 (fun k h3=>if k=true then Own.wE Φ me ĸ h3 (fun u h4=>K (some u) h4) X2 else K none h3) X2)=step at w1
 refine⟨XK1 i H1 Em,p.xo.go k1,fun n m ys τ H'=>n+m=xs.length/\ys.length<=n/\REn i.K H' (Ë k none++ç.map fun j=>(env[j]?).getD none) τ/\∃ĵ G',Keep H1 H'/\RH i G' H'/\RVs i.K H' ĵ ys/\Own.wComp st step (xs.drop n) ĵ G' (fun ys h5=>Own.new h5 (.lst ys) Qm) Em,⟨xs.length,by omega,by simp,U4 p.en k1,[],G1,Keep.refl _,g1,.nil,by simpa using w1⟩,?_⟩;rintro n m ys τ H' ⟨hnm,hly,en2,ĵ,G',k2,g2,r2,w2⟩;refine⟨Þ (ġ (Ç hly<|by omega) hl) ZE,?_⟩;by_cases hn:n<xs.length
 .right;have hd:xs.drop n=xs[n]::xs.drop (n+1):=Ŧ hn;rw[hd]at w2;obtain⟨s2,w2⟩:=w2;have hv:xs[n]?=some xs[n]:=ß hn;obtain⟨a1,a2⟩:=it.go n G' H' xs[n] k2 g2 s2 hv;refine⟨a1,fun ys3 τ3 H3=>ys3.length<=n+1/\REn i.K H3 (Ë k none++ç.map fun j=>(env[j]?).getD none) τ3/\∃acc3 G3,Keep H1 H3/\RH i G3 H3/\RVs i.K H3 acc3 ys3/\Own.wComp st step (xs.drop<|n+1) acc3 G3 (fun ys h5=>Own.new h5 (.lst ys) Qm) Em,fun ys3 τ3 H3 h=>⟨m - 1,by omega,by omega,h.1,h.2⟩,fun x H3 hy=>?_⟩;obtain⟨k3,g3,r3⟩:=a2 x H3 hy;rw[<-hstep]at w2;obtain⟨env4,e4,w4⟩:=go_some w2;rw[hstep]at w4;obtain⟨l',e5,h5⟩:=Ou (l:=Ë k none) (by rw[Û];exact hk) e4;rw[Û]at h5;refine⟨xs[n],_,G',env4,r3,g3,en2.keep k3,e4,fun τ4 en4=>?_⟩;have Α:REn i.K H3 (Ë k none++ç.map fun j=>(env[j]?).getD none) τ4:=by
   rw[e5]at en4;have:=en4.pre;rw[h5]at this;exact this
  refine⟨_,G',_,Em,en4,g3,fun _ _=>XK1.go<|k2.trans k3,w4,fun d G5 H5 k5 g5 q5=>?_⟩;have kk:=(k2.trans k3).trans k5;cases d with
  |true =>refine⟨_,G5,_,Em,en4.keep k5,g5,fun _ _=>XK1.go kk,by simpa using q5,fun u G6 H6 y k6 g6 r6 q6=>?_⟩;exact⟨by simpa using hly,(Α.keep k5).keep k6,_,G6,kk.trans k6,g6,((((r2.keep k3).keep k5).keep k6).append<|.cons r6 .nil),q6⟩
  |false =>rw[if_neg ú]at q5;change if false=true then _ else _;rw[if_neg ú];have q5:Own.wComp st step (xs.drop<|n+1) (ĵ++[]) G5 (fun ys h5=>Own.new h5 (.lst ys) Qm) Em:=q5;rw[Ņ]at q5;exact⟨by omega,Α.keep k5,ĵ,G5,kk,g5,(r2.keep k3).keep k5,q5⟩
 .left;have hd:xs.drop n=[]:=Ŋ (by omega);rw[hd]at w2;refine⟨it.stop n G' H' k2 g2 w2.1 (by omega),?_⟩;exact YC g2 w2.2 ((c.go k1).go k2) fun q hq=>⟨_,upd_same,r2.keep<|Keep.new hq⟩
def AC(i:Inf)(m:Own.Bm)(r:V->List V->Hp->VK->Prop):Prop:=∀(v:Own.Val) (vs:List Own.Val) (G:Own.Hs) (H:Hp) (x:V) (xs:List V) (t:Own.Val×Own.Hs) (Q:VK) (Qm:Own.Q1),
 RH i G H->RV i.K H v x->RVs i.K H vs xs->Own.bmV G m v vs=some t->Qm t.1 t.2->Cn i H Q Qm->r x xs H Q
def Dp(i:Inf)(m:Own.Bm)(T:String):Prop:=∀(v:Own.Val) (G:Own.Hs) (H:Hp) (x:V),RH i G H->RV i.K H v x->Own.bmTy G m v=true->tyV i.K T x H
variable {m:Own.Bm}
theorem DV{o e:Expr}{es:List Expr}{name:Str}{ο ŀ:Pos}{T id:String}{r:V->List V->Hp->VK->Prop}{mo:Own.E}{ms:Own.Es}{n:Nat}(hK:X.K=i.K)(pa:PlainAttrs T)(slot:Slot T name id)(hty:bP (.builtin id)=pure (.type "method_descriptor"))(mt:MtR X id r)(hT:Dp i m T)(hr:AC i m r)
  (ho:PE X o<|tE X i Φ mo) (ha:PA X (e::es)<|tAr X i Φ ms n) (Ϻ:ś o name X.env (eval o X.env)=eval o X.env)
  (aK:((Ħ ŀ<|Ð (e::es) X.env).all (fun x=>!x.1)&&(backToKw ŀ<|keywordEach [] X.env).all (fun x=>x.1.isSome)&&decide ((e::es).length+([]:List ϙ).length+(if([]:List ϙ).isEmpty then 0 else 1)<30))=true)
  (aa:(ο.endLine==ŀ.line)=true) (hs:Ð (e::es) X.env=(false,eval e X.env)::Ð es X.env) (aL:(Ħ ŀ<|Ð es X.env).any (·.1)=false) :
  PE X (.Call (.Attribute o name ο) (e::es) [] ŀ) (tE X i Φ<|.bm m mo ms) :=
 (BV pa slot hty mt ho ha Ϻ aK aa hs aL).imp fun σ H Q ⟨env,G,Qm,Em,p,w,c⟩=>by
  refine one p w fun v G1 H1 x k1 p1 rv q=>⟨by rw[hK];exact hT v G1 H1 x p1.hp rv q.1,env,G1,_,Em,p1,q.2,fun vs G2 H2 xs k2 g2 r2 _ w2=>?_⟩
  obtain⟨t,e,w3⟩:=go_some w2;exact hr v vs G2 H2 x xs t Q Qm g2 (rv.keep k2) r2 e w3<|(c.go k1).go k2
theorem FO(hm:m.ty=.l):Dp i m "list":=fun v G H x g r h=>by
 unfold Own.bmTy at h;rw[hm]at h;cases v with
 |ref a =>cases r.ref_inv;obtain⟨xs,e⟩:=Kb (show Own.isLst (G a)=true from h);obtain⟨vs,h1,_⟩:=g a _ e;exact .inl ⟨rfl,vs,SqL.of h1⟩
 |_=>cases h
theorem GX(hm:m.ty=.s):Dp i m "str":=fun v G H x g r h=>by
 unfold Own.bmTy at h;rw[hm]at h;cases v with
 |str a=>cases r.str_inv;exact rfl
 |_=>cases h
theorem MR{G:Own.Hs}{v:Own.Val}{f:Own.Ad->List Own.Val->Option (Own.Val×Own.Hs)}{t:Own.Val×Own.Hs}(e:Own.bmL G v f=some t):∃a xs,v=.ref a/\G a=some (.lst xs)/\f a xs=some t:=by
 cases v with
 |ref a=>obtain⟨xs,h1,h2⟩:=UL e;exact⟨a,xs,rfl,h1,h2⟩
 |_=>cases e
theorem GT{vs:List Own.Val}{α:Type}{f:Own.Val->Option α}{a:α}(e:(match vs with|[v]=>f v|_=>none)=some a):∃v,vs=[v]/\f v=some a:=by
 cases vs with
 |nil=>cases e
 |cons v vs=>cases vs with
  |nil=>exact⟨v,rfl,e⟩
  |cons _ _=>cases e
theorem C7:AC i .append Mc:=fun v vs G H x xs t Q Qm g rx rs e q c=>by obtain⟨a,ys,rfl,e4,e3⟩:=MR e;obtain⟨u,rfl,e3⟩:=GT e3;obtain⟨hl,e3⟩:=ZH e3;cases e3;cases rx.ref_inv;obtain⟨y,rfl,ry⟩:=rs.inv1;obtain⟨us,h2,r2⟩:=g a _ e4;obtain⟨k3,g3⟩:=K3 (xs:=ys) g h2 (ys++[u]) (us++[y])<|r2.app1 ry;exact⟨a,us,y,rfl,rfl,h2,by rw[<-r2.length];exact Þ hl ZE,c _ _ _ _ k3 g3 .non q⟩
theorem AM:AC i .popAt Of:=fun v vs G H x xs t Q Qm g rx rs e q c=>by
 obtain⟨a,ys,rfl,e4,e3⟩:=MR e;unfold Own.bmPopAt at e3;split at e3
 .rename_i n;obtain⟨hn,e3⟩:=ZH e3;obtain⟨k,z,e3⟩:=ĝ.mp e3;obtain⟨yv,z2,rfl⟩:=ā.mp e3;cases rx.ref_inv;obtain⟨y,rfl,ry⟩:=rs.inv1;cases ry.int_inv;obtain⟨us,h2,r2⟩:=g a _ e4;obtain⟨xv,hx,rv⟩:=r2.get z2;rw[Kx,r2.length]at z;obtain⟨s1,s2,s3,s4⟩:=Mz z;obtain⟨k3,g3⟩:=K3 (xs:=ys) g h2 (ys.eraseIdx k) (us.eraseIdx k)<|r2.eraseIdx k;exact⟨a,us,n,k,xv,rfl,rfl,h2,by omega,by omega,s1,hx,c _ _ _ _ k3 g3 (rv.keep k3) q⟩
 .cases e3
theorem FY:AC i .join<|B7 i.K:=fun v vs G H x xs t Q Qm g rx rs e q c=>by
 replace e:Own.bmJoin G v vs=some t:=e
 unfold Own.bmJoin at e;split at e
 .rename_i ŭ a;obtain⟨ys,z,e⟩:=ĝ.mp e;obtain⟨ss,z2,e⟩:=ĝ.mp e;obtain⟨hl,e⟩:=ZH e;cases e;cases rx.str_inv;obtain⟨y,rfl,ry⟩:=rs.inv1;cases ry.ref_inv;obtain⟨us,h1,h2⟩:=Zx g z;have:=Kg z2 h2;subst this;refine⟨_,a,ss.map Str.ofString,rfl,rfl,h1,?_,?_⟩
  .rw[U6,È,Zh];exact Ç hl (by decide)
  .rw[N6];exact c _ _ _ _ (Keep.refl H) g (.str _) q
 .cases e
theorem RFs.look{K:PySem.W.Frag}{H:Hp}{f:String}:∀{fs:List (String×Own.Val)}{ps:List (Str×V)},RFs K H fs ps->
  (∀v,fs.lookup f=some v->∃x,ps.lookup (Str.ofString f)=some x/\RV K H v x)/\(fs.lookup f=none->ps.lookup (Str.ofString f)=none)
 |_,_,.nil=>⟨fun v e=>(by cases e),fun _=>rfl⟩
 |_,_,.cons (f:=g) (v:=u) (x:=y) r t=>by
  have ih:=RFs.look (f:=f) t;rw[Ć,Ć];by_cases e:f=g
  .subst e;rw[beq_self_eq_true,beq_self_eq_true];exact⟨fun v z=>(by cases z;exact⟨y,rfl,r⟩),fun z=>(by cases z)⟩
  .rw[show(f==g)=false by simpa using e,show(Str.ofString f==Str.ofString g)=false by rw[beq_eq_false_iff_ne];exact fun z=>e<|ofS_inj.mp z];exact ih
theorem RFs.put{K:PySem.W.Frag}{H:Hp}{f:String}{v:Own.Val}{x:V}(q:RV K H v x):∀{fs:List (String×Own.Val)}{ps:List (Str×V)},RFs K H fs ps->RFs K H (Own.putF fs f v) (L2.putF (Str.ofString f) x ps)
 |_,_,.nil=>.cons q .nil
 |_,_,.cons (f:=g) (v:=u) (x:=y) r t=>by
  unfold Own.putF L2.putF;by_cases e:g=f
  .subst e;rw[if_pos rfl,if_pos rfl];exact .cons q t
  .rw[if_neg e,if_neg fun z=>e<|ofS_inj.mp z];exact .cons r<|RFs.put q t
theorem RFs.length{K:PySem.W.Frag}{H:Hp}:∀{fs:List (String×Own.Val)}{ps:List (Str×V)},RFs K H fs ps->fs.length=ps.length
 |_,_,.nil=>rfl
 |_,_,.cons _ t=>by rw[Å,Å,RFs.length t]
structure FldOk(i:Inf)(f:String):Prop where
 no:∀C c,i.cl C c->KJ i.K c (Str.ofString f)
structure IC(K:PySem.W.Frag)(C:Ä):Prop where
 ha:PySem.W.findIn K (.ref C) "__class__" = some (some<|.builtin "object.__class__")
 hn:PySem.W.specialIn K (.builtin "object.__class__") "__get__" = some (some<|.builtin "getset_descriptor.__get__")
 htk:PySem.W.takesIn K (.builtin "object.__class__")=some true
 hm:PySem.W.mroIn K C (.type "object")=some true
structure ClsA(i:Inf):Prop where
 cls:∀C c,i.ins C=true->i.cl C c->Cls i.K c
 ic:∀C c,i.cl C c->IC i.K c
 un:∀C a b,i.cl C a->i.cl C b->a=b
def Dfm(pr:à)(w:þ)(mg:Str->Option Á)(base:ô)(i:Inf)(P:Own.Pg)(n:Nat)(f:String)(fa:Ä):Prop :=
 ∃fd ps,FnOk pr w i.K mg base (CX1 pr w) (2*n) fa fd ps (spF i P n f)/\Binds i.K fd ps []
theorem Be{P:Own.Pg}{n:Nat}{f:String}{p ë:Pos}(hK:X.K=i.K)(D:Dfo X.prog X.w X.mg X.base i P n f)(hr:Room (2*n) X.A)(hg:Gl X<|Str.ofString f)(Ο:(Str.ofString f==("__debug__" : Str))=false) :
  PE X (.Call (.Name (Str.ofString f) p) [] [] ë) (tE X i (Own.wF P n)<|.call f .nil):=by
 obtain⟨fa,fd,ps,F,hm,hk,hb⟩:=D;rw[<-hK]at F hk hb;intro À s σ H Q I h;obtain⟨env,G,Qm,Em,pr,w,c⟩:=h;refine OC (E:=XK1 i H Em) F hr hg hm hk hb .nil (XW.passes pr.xo) Ο À s σ H Q I ?_;exact⟨[],G,Qm,Em,.nil,pr.hp,w,c,fun cls d H' h=>h⟩
end Snd
namespace L2
open PySem PySem.Spec PyProof.Rows
theorem KV.at:∀{ps:List (Key×V)}{vs:List (Key×Á)}{i:Nat}{k:Key}{x:V},KV ps vs->ps[i]?=some (k,x)->∃u,vs[i]?=some (k,u)/\RelV x u:=by
 intro ps vs i k x r;unfold KV at r;induction r generalizing i with
 |nil=>intro h;simp at h
 |@cons p q ps qs h t ih =>
  intro e;cases i with
  |zero =>simp at e;subst e;obtain⟨q1,q2⟩:=q;obtain⟨h1,h2⟩:=h;have h1:k=q1:=h1;subst h1;exact⟨q2,rfl,h2⟩
  |succ i=>simpa using ih (by simpa using e)
def TupsH(I S:Ä)(items:Array Á)(val:Nat->List Int)(h:ô):Prop:=∀i v,items[i]?=some v->∃a ò,v=.ref a/\a≠I/\a≠S/\Ζ h a ò/\Ĕ ò.toList (val i)
theorem TupsH.keep{I S:Ä}{items:Array Á}{val:Nat->List Int}{h h':ô}(t:TupsH I S items val h)(k:∀b o,b≠I->b≠S->h.get? b=some o->h'.get? b=some o):TupsH I S items val h':=fun i v e=>by obtain⟨a,ò,h1,h2,h3,⟨o,q1,q2⟩,h5⟩:=t i v e;exact⟨a,ò,h1,h2,h3,⟨o,k a o h2 h3 q1,q2⟩,h5⟩
noncomputable def btL(val:Nat->List Int)(i j:Nat):Bool:=HT.lexLt (val i)<|val j
section
variable {prog:à}{w:þ}{A:ć}{R:Result->Â->Prop}{I l:Ä}{items:Array Á}{val:Nat->List Int}{kw:List (Str×Á)}{fp:List Ä}{St:Nat->ô->Prop}
theorem Nn(W:Walks prog w A.in1 I fp [I] items.size (fun i v=>items[i]?=some v) St)(hu:A.units+1<Ğ)(S:Ä)(hSI:S≠I)(hSf:S∉fp) :
  ∀(k j:Nat) (s:Â) (vb:Á) (c:Nat),items.size - (j+1)=k->j+1<=items.size->St (j+1) s.heap->TupsH I S items val s.heap->items[Ŷ (btL val) j]?=some vb->
  s.heap.get? S=some {cls:=.type "list",dict:=none,data:=.seq #[vb,vb] c,slots:=#[]}->
  (∀v h' tk,items[Ŷ (btL val)<|items.size - 1]?=some v->(∀b o,b≠I->b≠S->s.heap.get? b=some o->h'.get? b=some o)->R (.ok<|.ret v) {s with heap:=h',toks:=tk})->
  codeAny (Ö prog w) A (.builtin "min.loop" ⟨[.ref I,.none,.ref S],kw⟩) R s:=by
 have ϣ:(toString "min" ++ toString ".loop" : String) = "min.loop":=by decide
 have hSw:S∉[I]:=by simp[hSI]
 intro k;induction k with
 |zero =>
  intro j s vb c hk hj ņ hT hPb hS hR;have hin:j+1=items.size:=by omega
  refine π PySem.F.entry_min_loop ?_;rw[Ž PySem.F.plain_min_loop _];show wpAny _ A.in1 (bC (.ref S) >>= _) _ _ s;refine Ã<|Λ hS rfl ?_;show wpAny _ A.in1 (tryCatch (Η<|.ref I) _ >>= _) _ _ s;refine Ã<|Μ<|W.done s _ _ (hin▸ņ) fun h' tk br=>?_;have hS':=br S _ hSw hS;show wpAny _ A.in1 (updateSeq S (fun _=>#[]) >>= _) _ _ _;refine Ã ?_;refine Ϸ hS' rfl<|Ã<|ϲ<|Ñ ?_;refine hR vb _ tk (by rw[<-hin];exact hPb) fun b o hbw hbS e=>(ù _ _<|Ne.symm hbS).trans (br b o (by simpa using hbw) e)
 |succ k ih =>
  intro j s vb c hk hj ņ hT hPb hS hR;have a8:j+1<items.size:=by omega
  refine π PySem.F.entry_min_loop ?_;rw[Ž PySem.F.plain_min_loop _];show wpAny _ A.in1 (bC (.ref S) >>= _) _ _ s;refine Ã<|Λ hS rfl ?_;show wpAny _ A.in1 (tryCatch (Η<|.ref I) _ >>= _) _ _ s;refine Ã<|Μ<|W.item (j+1) s _ _ a8 ņ fun v h' tk hP hst' br=>?_;have hS':=br S _ hSw hS;have bJ:TupsH I S items val h':=hT.keep fun b o h1 _ e=>br b o (by simpa using h1) e;have hP:items[j+1]?=some v:=hP;obtain⟨a,ò,rfl,_,_,pa,ia⟩:=bJ _ _ hP;obtain⟨b0,ſ,rfl,_,_,pb,ib⟩:=bJ _ _ hPb;show wpAny _ A.in1 (tryCatch (holding [.ref a,.ref a]<|Ý .Lt (.ref a) (.ref b0) >>= _) _ >>= _) _ _ _;refine Ã<|Μ<|ϋ<|Ã<|HT.lt_tupInts pa pb ia ib hu ?_;refine Ã<|ϋ<|Ą ?_;refine Ã<|ϲ<|Ñ ?_;cases hb:HT.lexLt (val<|j+1) (val<|Ŷ (btL val) j)with
  |true =>
   have hb':btL val (j+1) (Ŷ (btL val) j)=true:=hb;simp only[if_true];refine Ã ?_;refine Ϸ hS' rfl<|Ã<|ϲ ?_;rw[ϣ];refine Ñ ⟨ύ PySem.F.plain_min_loop _,ih (j+1) _ (.ref a) _ (by omega) a8 (W.frame _ _ _ hst' fun b hbf o e=>?_) (bJ.keep fun b o _ h2 e=>(ù _ _<|Ne.symm h2).trans e) (by simp only[Ŷ,hb',if_true];exact hP) (Œ _ hS' rfl)
     fun v' h'' tk'' hP' hk''=>?_⟩
   .exact(ù _ _ fun h:S=b=>hSf<|by rw[h];exact hbf).trans e
   .exact hR v' h'' tk'' hP' fun b o hbw hbS e=>hk'' b o hbw hbS ((ù _ _<|Ne.symm hbS).trans<|br b o (by simpa using hbw) e)
  |false =>have hb':btL val (j+1) (Ŷ (btL val) j)=false:=hb;simp only[š,if_false];refine Ã<|ϲ ?_;rw[ϣ];refine Ñ ⟨ύ PySem.F.plain_min_loop _,ih (j+1) _ (.ref b0) c (by omega) a8 hst' bJ (by simp only[Ŷ,hb',š,if_false];exact hPb) hS' fun v' h'' tk'' hP' hk''=>?_⟩;exact hR v' h'' tk'' hP' fun b o hbw hbS e=>hk'' b o hbw hbS (br b o (by simpa using hbw) e)
theorem Kz(W:Walks prog w A.in1 I fp [I] items.size (fun i v=>items[i]?=some v) St)(hu:A.units+1<Ğ)(S:Ä)(hSI:S≠I)(hSf:S∉fp)(hn:0<items.size){s:Â}{c:Nat}(ņ:St 0 s.heap)(hT:TupsH I S items val s.heap)
  (hS:s.heap.get? S=some {cls:=.type "list",dict:=none,data:=.seq #[] c,slots:=#[]})
  (hR:∀v h' tk,items[Ŷ (btL val)<|items.size - 1]?=some v->(∀b o,b≠I->b≠S->s.heap.get? b=some o->h'.get? b=some o)->R (.ok<|.ret v) {s with heap:=h',toks:=tk}) :
  codeAny (Ö prog w) A (.builtin "min.loop" ⟨[.ref I,.none,.ref S],kw⟩) R s:=by
 have ϣ:(toString "min" ++ toString ".loop" : String) = "min.loop":=by decide
 have hSw:S∉[I]:=by simp[hSI]
 refine π PySem.F.entry_min_loop ?_;rw[Ž PySem.F.plain_min_loop _];show wpAny _ A.in1 (bC (.ref S) >>= _) _ _ s;refine Ã<|Λ hS rfl ?_;show wpAny _ A.in1 (tryCatch (Η<|.ref I) _ >>= _) _ _ s;refine Ã<|Μ<|W.item 0 s _ _ hn ņ fun v h' tk hP hst' br=>?_;have hS':=br S _ hSw hS;have bJ:TupsH I S items val h':=hT.keep fun b o h1 _ e=>br b o (by simpa using h1) e;show wpAny _ A.in1 (updateSeq S (fun _=>#[v,v]) >>= _) _ _ _;refine Ã ?_;refine Ϸ hS' rfl ?_;rw[ϣ];refine Ñ ⟨ύ PySem.F.plain_min_loop _,Nn W hu S hSI hSf _ 0 _ v _ rfl hn (W.frame _ _ _ hst' fun b hbf o e=>?_) (bJ.keep fun b o _ h2 e=>(ù _ _<|Ne.symm h2).trans e) hP (Œ _ hS' rfl) fun v' h'' tk'' hP' hk''=>?_⟩
 .exact(ù _ _ fun h:S=b=>hSf<|by rw[h];exact hbf).trans e
 .exact hR v' h'' tk'' hP' fun b o hbw hbS e=>hk'' b o hbw hbS ((ù _ _<|Ne.symm hbS).trans<|br b o (by simpa using hbw) e)
end
section
variable {X:Cx}
theorem Ke(hc:X.calm=true)(hu:X.A.units+1<Ğ):CallR X (.builtin "min") fun xs H Q=>∃p q,∃ns ms:List Int,xs=[.ref p,.ref q]/\SqT X.K H p (ns.map V.int)/\SqT X.K H q (ms.map V.int)/\Q (if HT.lexLt ms ns=true then .ref q else .ref p) H:=by
 intro À s σ H xs us Q I r h;obtain⟨p,q,ns,ms,rfl,hp,hq,q1⟩:=h;obtain⟨u,v,rfl,ru,rv⟩:=WM r;cases ru;cases rv;have ϣ:(toString "min" ++ toString ".loop" : String) = "min.loop":=by decide
 refine call_function_tree PySem.F.kind_min PySem.F.plain_min PySem.F.entry_min (PySem.F.args_min2 _ _) ?_;show wpAny _ X.A.in1 (Builtin.Builtins.bindParams "min" ["key","default"] 0 ⟨[],[]⟩ >>= _) _ _ s;refine Ã (wpAny_of_eq (show Builtin.Builtins.bindParams "min" ["key","default"] 0 ⟨[],[]⟩=pure [none,none] from rfl) ?_);show wpAny _ X.A.in1 (newTuple [.ref p,.ref q] >>= _) _ _ s;refine Ã<|ĕ ?_;have hT:(s.heap.push {cls:=.type "tuple",data:=.seq #[.ref p,.ref q]}).IsTuple s.heap.objs.size #[.ref p,.ref q]:=⟨_,è _ rfl,rfl,0,rfl⟩
 refine Ã<|wpAny_pyIter_tuple hT ?_;refine Ã<|ĕ ?_;rw[ϣ];generalize hg1:s.heap.push {cls:=.type "tuple",data:=.seq #[.ref p,.ref q]}=g1 at hT ⊢;have z1:g1.objs.size=s.heap.objs.size+1:=by rw[<-hg1];exact Ϡ ..
 have k1:∀b o,s.heap.get? b=some o->g1.get? b=some o:=fun b o e=>by rw[<-hg1];exact Ì _ e
 generalize hg2:g1.push {cls:=.type "tuple_iterator",data:=.fields #[.ref s.heap.objs.size,.int 0 0]}=g2;have z2:g2.objs.size=g1.objs.size+1:=by rw[<-hg2];exact Ϡ ..
 have k2:∀b o,g1.get? b=some o->g2.get? b=some o:=fun b o e=>by rw[<-hg2];exact Ì _ e
 have i2:g2.get? g1.objs.size=some {cls:=.type "tuple_iterator",data:=.fields #[.ref s.heap.objs.size,.int 0 0]}:=by rw[<-hg2];exact è _ rfl
 refine Ñ ⟨ύ PySem.F.plain_min_loop _,?_⟩;have Ρ:∀b o,s.heap.get? b=some o->b≠g1.objs.size/\b≠g2.objs.size:=fun b o e=>by have:=Õ e;exact⟨î (by rw[z1];exact ō this),î<|by rw[z2,z1];exact ō<|ō this⟩
 have n1:s.heap.objs.size≠g1.objs.size:=by rw[z1];exact î<|ı _
 have n2:g2.objs.size≠g1.objs.size:=by rw[z2];exact ap<|ı _
 have n3:g2.objs.size≠s.heap.objs.size:=by rw[z2,z1];exact ap<|ō<|ı _
 refine Kz (A:=X.A) (items:=#[.ref p,.ref q]) (val:=fun i=>[ns,ms].getD i []) (Walks.tuple (A:=X.A.in1) (I.ok.hd hc) g1.objs.size s.heap.objs.size n1 #[.ref p,.ref q]) hu g2.objs.size n2 (fun z=>(Î.mp z).elim n2 fun z=>n3<|ñ.mp z) (Nat.succ_pos _) ⟨⟨_,Ì _ i2,rfl,rfl⟩,?_⟩ (fun i v e=>?_) (è _ rfl) fun v h' tk hv hk=>?_
 .obtain⟨o,e,r⟩:=hT;exact⟨o,Ì _<|k2 _ _ e,r⟩
 .have key:∀a (ks:List Int),SqT X.K H a (ks.map V.int)->∃b ò,(Value.ref a)=.ref b/\b≠g1.objs.size/\b≠g2.objs.size/\Ζ (g2.push {cls:=.type "list",data:=.seq #[]}) b ò/\Ĕ ò.toList ks:=fun a ks ha=>by
   obtain⟨tt,r2,⟨o2,e2,rest⟩,_⟩:=I.tuple ha;exact⟨a,tt.toArray,rfl,(Ρ a o2 e2).1,(Ρ a o2 e2).2,⟨o2,Ì _<|k2 _ _<|k1 _ _ e2,rest⟩,ZS r2⟩
  match i,e with
  |0,e=>cases e;exact key p ns hp
  |1,e=>cases e;exact key q ms hq
  |i+2,e=>simp at e
 .have eb:Ŷ (btL fun i=>[ns,ms].getD i []) 1=if HT.lexLt ms ns=true then 1 else 0:=rfl;have hv:(#[Value.ref p,Value.ref q]:Array Á)[Ŷ (btL fun i=>[ns,ms].getD i []) 1]?=some v:=hv;rw[eb]at hv;have I2:=I.kept (t':=tk) (h':=h') fun b o e=>hk b o (Ρ b o e).1 (Ρ b o e).2<|Ì _<|k2 _ _<|k1 _ _ e;by_cases hl:HT.lexLt ms ns=true
  .rw[if_pos hl]at hv q1;have hv:some (Value.ref q)=some v:=hv;cases hv;exact⟨.ref q,H,I2,rfl,q1⟩
  .rw[if_neg hl]at hv q1;have hv:some (Value.ref p)=some v:=hv;cases hv;exact⟨.ref p,H,I2,rfl,q1⟩
end
end L2
namespace Srt
open PySem.W PyProof.Rows
def ok(n:Nat)(lt:Nat->Nat->Bool){α:Type}:KasT α->(α->Prop)->Prop
 |.ret a,Q=>Q a
 |.ask i j k,Q=>i<n/\j<n/\ok n lt (k<|lt i j) Q
section
variable {n:Nat}{lt:Nat->Nat->Bool}
def K(p:Array Nat)(k:Nat):Nat:=p.getD k 0
structure Good(n:Nat)(p:Array Nat):Prop where
 sz:p.size=n
 pm:p.toList.Perm<|List.range n
variable {p:Array Nat}
theorem Good.at(g:Good n p)(h0:0<n)(k:Nat):K p k<n:=by
 unfold K;by_cases h:k<p.size
 .have e:p.getD k 0=p[k]:=by simp[Array.getD,h]
  rw[e];have:p[k]∈List.range n:=g.pm.mem_iff.mp (by simp);exact ş.mp this
 .have e:p.getD k 0=0:=by simp[Array.getD,h]
  rw[e];exact h0
theorem Good.rev(g:Good n p)(i j:Nat):Good n<|kas_rev p i j:=⟨(mirror_size ..).trans g.sz,(Array.perm_iff_toList_perm.mp<|mirror_perm ..).trans g.pm⟩
end
end Srt
namespace L2
open PySem PySem.Spec PyProof.Rows PySem.W
section
variable {prog:à}{w:þ}{A:ć}{E:Á->Â->Prop}{s:Â}
def RowsAt(h:ô)(vs:List Á)(Ω:List<|List Int):Prop:=Ω.length=vs.length/\∀i,i<vs.length->∃p o ò n,vs.getD i Value.none=.ref p/\h.get? p=some o/\o.cls=.type "tuple"/\o.data=.seq ò n/\Ĕ ò.toList (Ω.getD i [])/\Ω.getD i []≠[]
theorem RowsAt.keep{h h':ô}{vs:List Á}{Ω:List (List Int)}(r:RowsAt h vs Ω)(k:∀b o,h.get? b=some o->o.cls=.type "tuple"->h'.get? b=some o):RowsAt h' vs Ω:=⟨r.1,fun i hi=>by
  obtain⟨p,o,ò,n,h1,h2,h3,h4,h5⟩:=r.2 i hi
  exact⟨p,o,ò,n,h1,k p o h2 h3,h3,h4,h5⟩⟩
end
end L2
namespace L2
open PySem PySem.Spec PyProof.Rows
open PySem.Builtin
section
variable {prog:à}{w:þ}{A:ć}{E:Á->Â->Prop}
def PairsH(I d:Ä)(items:Array Á)(ϓ:List<|Key×Á)(prog:à)(w:þ)(h:ô):Prop:=∀(i:Nat) (v:Á),items[i]?=some v->∃(a:Ä) (key:Á) (p:Key×Á),v=.ref a/\a≠I/\a≠d/\ϓ[i]?=some p/\Ζ h a #[key,p.2]/\(Zv prog w).is p.1 key=true
theorem PairsH.keep{I d:Ä}{items:Array Á}{ϓ:List (Key×Á)}{h h':ô}(t:PairsH I d items ϓ prog w h)(k:∀b o,b≠I->b≠d->h.get? b=some o->h'.get? b=some o):PairsH I d items ϓ prog w h':=fun i v e=>by obtain⟨a,key,p,h1,h2,h3,h4,⟨o,q1,q2⟩,h5⟩:=t i v e;exact⟨a,key,p,h1,h2,h3,h4,⟨o,k a o h2 h3 q1,q2⟩,h5⟩
end
theorem KV.all{kvs:List (Key×V)}{ϓ:List (Key×Á)}(r:KV kvs ϓ):∀{m:List (Key×V)}{n:List (Key×Á)},KV m n->KV (kvs.foldl (fun m p=>putK m p.1 p.2) m) (ϓ.foldl (fun m p=>stored m p.1 p.2) n):=by
 unfold KV at r;induction r with
 |nil=>exact fun h=>h
 |cons q t ih =>intro m n h;rename_i a b l1 l2;obtain⟨k,x⟩:=a;obtain⟨k2,u⟩:=b;obtain⟨e,rx⟩:=q;cases (show k=k2 from e);exact ih<|h.put k rx
theorem JK:entryFor table "list_reverseiterator.__next__" = some Builtin.«list_reverseiterator.__next__»:=entryFor_of_tree (by kernel_rfl)
theorem JX(a:Á):argsOk "list_reverseiterator.__next__" ⟨[a],[]⟩:=by unfold argsOk;kernel_rfl
theorem slot_rnext:Slot "list_reverseiterator" "__next__" "list_reverseiterator.__next__" :=
 .of (owner:="list_reverseiterator") (n:="__next__") (by rw[typeLookup_type,builtinLookup_eq_fast];kernel_rfl) (by decide +kernel) (by decide +kernel) (by decide +kernel)
  (by first|exact .inl (by decide +kernel)|exact .inr<|by decide +kernel) (by rw[isSubtype_type];kernel_rfl)
theorem XE:Slot "list_reverseiterator" "__iter__" "list_reverseiterator.__iter__" :=
 .of (owner:="list_reverseiterator") (n:="__iter__") (by rw[typeLookup_type,builtinLookup_eq_fast];kernel_rfl) (by decide +kernel) (by decide +kernel) (by decide +kernel)
  (by first|exact .inl (by decide +kernel)|exact .inr<|by decide +kernel) (by rw[isSubtype_type];kernel_rfl)
theorem Oq:entryFor table "list_reverseiterator.__iter__" = some Builtin.«dict_keyiterator.__iter__» :=
 entryFor_alias (id':="dict_keyiterator.__iter__") (by kernel_rfl) (by first|rfl|decide +kernel|(unfold String.splitOn;simp +decide [String.splitOnAux])) (by decide +kernel) (by kernel_rfl)
theorem Oh(a:Á):argsOk "list_reverseiterator.__iter__" ⟨[a],[]⟩:=by unfold argsOk;kernel_rfl
def RevIt(h:ô)(it l:Ä)(k:Int):Prop:=∃o,h.get? it=some o/\o.cls=.type "list_reverseiterator"/\o.data=.fields #[.ref l,.int k 0]
section
variable {prog:à}{w:þ}{A:ć}{E:Á->Â->Prop}{s:Â}
variable {it:Ä} {l:Ä}
theorem RevIt.typeIs{k:Int}(h:RevIt s.heap it l k):s.TypeIs (.ref it) "list_reverseiterator":=by obtain⟨o,h1,h2,_⟩:=h;exact⟨o,h1,h2⟩
variable {Q:Option Á->Â->Prop}
theorem OR{k:Nat}{items:Array Á}{x:Á}(hit:RevIt s.heap it l k)(hl:s.heap.IsList l items)(hx:items[k]?=some x)
  (hQ:∀h',RevIt h' it l ((k:Int) - 1)->Ŵ it s.heap h'->Q (some x) {s with heap:=h'}):wpAny (Ö prog w) A (Η<|.ref it) Q E s:=by
 have hT:=hit.typeIs;obtain⟨o,ho,hc,hd⟩:=id hit;obtain⟨ol,hol,_,nl,hdl⟩:=hl;unfold Η;refine Ã<|wpAny_attempt<|ŏ (name:=Str.ofString "__next__") hT slot_rnext<|ř slot_rnext hT JK ?_<|JX _;show wpAny _ _ (field (.ref it) 1 >>= _) _ _ s;refine Ã<|Į ho hd (x:=.int k 0) rfl ?_;refine wpAny_ite_split (fun hab=>absurd hab<|by omega) fun _=>?_;show wpAny _ _ (field (.ref it) 0 >>= _) _ _ s;refine Ã<|Į ho hd (x:=.ref l) rfl ?_;show wpAny _ _ (bC (.ref l) >>= _) _ _ s;refine Ã<|Λ hol hdl ?_;simp only[đ,hx];refine Ã (ay ho hd (by simp)<|Ñ ⟨x,rfl,Ñ<|hQ _ ?_<|Heap.SameBut.update ..⟩);exact⟨_,Œ _ ho<|aS<|Κ hd _,(Obj.cls_mapFields ..).trans hc,by
   rw[Κ hd];simp[bK]⟩
theorem Bw(hh:A.handled=none)(hit:RevIt s.heap it l (-1))(hQ:∀h',Heap.ExtBut it s.heap h'->Q none {s with heap:=h'}):wpAny (Ö prog w) A (Η<|.ref it) Q E s:=by have hT:=hit.typeIs;obtain⟨o,ho,hc,hd⟩:=id hit;unfold Η;refine Ã<|wpAny_attempt<|ŏ (name:=Str.ofString "__next__") hT slot_rnext<|ř slot_rnext hT JK ?_<|JX _;show wpAny _ _ (field (.ref it) 1 >>= _) _ _ s;refine Ã<|Į ho hd (x:=.int (-1) 0) rfl ?_;refine wpAny_ite_split (fun _=>?_) (fun hab=>absurd (by decide) hab);refine Ã<|wpAny_rule ?_;refine Ã ?_;show wpAny _ _ (newExc (.type "StopIteration") [] >>= _) _ _ _;refine Ã ?_;simp only[newExc,newTuple];refine Ã (ĕ ?_<|by size_fits);refine Ã (m:=firstArgMember _ _) (wpAny_of_eq (a:=Value.none) (by first|rfl|(simp only[firstArgMember];rfl)) ?_);refine ĕ ?_ (by size_fits);simp only[raiseNew];refine Ã<|wpAny_handled ?_;rw[show A.in1.handled=none from hh];refine Ã<|Ñ<|wpAny_throw ?_;refine Ã<|wpAny_isInstance (T:="StopIteration") (b:=true) ⟨_,è _ rfl,rfl⟩ isSubtype_stop ?_;exact Ñ (hQ _ fun b o _ e=>Ì _<|Ì _ e)
theorem NW{k:Int}{Q:Á->Â->Prop}(hit:RevIt s.heap it l k)(h:Q (.ref it) s):wpAny (Ö prog w) A (pyIter<|.ref it) Q E s:=by have hT:=hit.typeIs;refine wpAny_pyIter_slot hT XE<|ř XE hT Oq ?_<|Oh _;show wpAny _ _ (ret<|.ref it) _ _ s;exact Ñ ⟨_,rfl,"list_reverseiterator",_,hT,slot_rnext.lookup,h⟩
end
theorem Walks.rev{prog:à}{w:þ}{A:ć}(hh:A.handled=none)(I ax:Ä)(Ψ:ax≠I)(items:Array Á) :
  Walks prog w A I [I,ax] [I] items.size (fun i v=>items[items.size - 1 - i]?=some v) (fun i h=>RevIt h I ax ((items.size:Int) - 1 - i)/\h.IsList ax items) where
 sub:=fun b hb=>by simp at hb;simp[hb]
 frame:=fun _ _ _ st hk=>⟨by obtain⟨o,h1,h2⟩:=st.1;exact⟨o,hk I (by simp) o h1,h2⟩,st.2.at fun o e=>hk ax (by simp) o e⟩
 item:=fun i s Q E hi st hQ=>by
  have e:(items.size:Int) - 1 - i=((items.size - 1 - i:Nat):Int):=by omega
  rw[e]at st;have a8:items.size - 1 - i<items.size:=by omega
  refine OR st.1 st.2 (x:=items[items.size - 1 - i]) (by simp[a8]) fun h' hit' hs'=>?_;exact hQ _ h' s.toks (by simp[a8]) ⟨by rw[show(items.size:Int) - 1 - ((i+1:Nat):Int)=((items.size - 1 - i:Nat):Int) - 1 by omega];exact hit',st.2.extBut hs'.extBut Ψ⟩ fun b o hb e=>hs'.extBut b o (fun h=>hb<|by simp[h]) e
 done:=fun s Q E st hQ=>by rw[show(items.size:Int) - 1 - (items.size:Nat)=-1 by omega]at st;exact Bw hh st.1 fun h' he'=>hQ h' s.toks fun b o hb e=>he' b o (fun h=>hb<|by simp[h]) e
 self:=fun _ _ _ _ st hQ=>NW st.1 hQ
end L2
namespace Snd
open PySem L2
variable {i:Inf}{X:Cx}{Φ:Own.Fs}
section
variable {K:PySem.W.Frag}{H H':Hp}
theorem RKs.len:∀{kvs:List (Own.Val×Own.Val)}{ps:List (Key×V)},RKs K H kvs ps->kvs.length=ps.length
 |_,_,.nil=>rfl
 |_,_,.cons _ _ t=>by rw[Å,Å,RKs.len t]
theorem RKs.at:∀{kvs:List (Own.Val×Own.Val)}{ps:List (Key×V)}{n:Nat}{c:Key}{x:V},RKs K H kvs ps->ps[n]?=some (c,x)->∃k v,kvs[n]?=some (k,v)/\XJ k c/\RV K H v x
 |_,_,n,_,_,.nil,e=>by simp at e
 |_,_,0,_,_,.cons hk r _,e=>by simp at e;obtain⟨rfl,rfl⟩:=e;exact⟨_,_,rfl,hk,r⟩
 |_,_,n+1,_,_,.cons _ _ t,e=>by obtain⟨k,v,h1,h2⟩:=RKs.at (n:=n) t (by simpa using e);exact⟨k,v,by simpa using h1,h2⟩
end
theorem A3:BiOk i .min2 fun xs H Q=>(∃i j,xs=[.int i,.int j]/\Q (.int<|if j<i then j else i) H)\/∃p q,∃ns ms:List Int,xs=[.ref p,.ref q]/\SqT i.K H p (ns.map V.int)/\SqT i.K H q (ms.map V.int)/\Q (if HT.lexLt ms ns=true then .ref q else .ref p) H:=by
 intro vs G H xs Q Qm g r w c;obtain⟨v,u,rfl,w2⟩:=D1 w;clear w;have w:(Own.min2V v u).wp G Qm:=w2;clear w2;obtain⟨x,y,rfl,rx,ry⟩:=r.inv2;cases v with
 |int a =>
  cases u with
  |int b =>cases rx.int_inv;cases ry.int_inv;exact .inl ⟨a,b,rfl,c _ G H _ (Keep.refl H) g (.int _)<|Zj w⟩
  |_=>exact(Zm w).elim
 |tup vs =>
  cases u with
  |tup us =>
   have w:(match Own.intsOf vs,Own.intsOf us with|some ns,some ms=>.val (if Own.lexI ms ns=true then .tup us else .tup vs)|_,_=>.no:Own.Rs).wp G Qm:=w;cases z1:Own.intsOf vs with
   |none=>rw[z1]at w;exact(Zm w).elim
   |some ns =>
    cases z2:Own.intsOf us with
    |none=>rw[z1,z2]at w;exact(Zm w).elim
    |some ms =>
     rw[z1,z2]at w;have w:=Zj w;cases rx with
     |tup hp hr =>
      cases ry with
      |tup hq hs =>
       have rp:=RV.tup hp hr;have rq:=RV.tup hq hs;cases ZR z1 hr;cases ZR z2 hs;refine .inr ⟨_,_,ns,ms,rfl,Zk hp,Zk hq,?_⟩;rw[<-Jn];by_cases hl:Own.lexI ms ns=true
       .rw[if_pos hl]at w ⊢;exact c _ G H _ (Keep.refl H) g rq w
       .rw[if_neg hl]at w ⊢;exact c _ G H _ (Keep.refl H) g rp w
  |_=>exact(Zm w).elim
 |_=>cases u<;>exact(Zm w).elim
structure Md where
 N:List Str
 sc:ŕ
 cs:List<|String×Own.Val
 fs:List String
 cm:Bool
 cl:List String
 ms:List<|String×String
 fl:List String
 xs:List String
noncomputable def Md.nmOf(c:Md)(j:Nat):Str:=c.N.getD j Str.empty
noncomputable def Md.vis(c:Md)(x:Str):Bool:=match c.sc.names.lookup x with
 |some .local=>true
 |some .cell=>true
 |some .free=>true
 |_=>false
noncomputable def Md.loc(c:Md)(x:Str):Bool:=c.sc.names.lookup x==some .local||c.sc.names.lookup x==some .cell
noncomputable def Md.gl(c:Md)(x:Str):Bool:=c.sc.names.lookup x==some .globalImplicit
noncomputable def nm(x:Str):Bool:=!(x==("__debug__" : Str)) && !(x==("__classdict__" : Str)) && !(x==("__name__" : Str))
noncomputable def dE:Expr:=.Name Str.empty ⟨0,0,0,0⟩
noncomputable def mix:List (Option Expr)->List Expr->List Expr
 |k::ks,v::vs=>k.getD dE::v::mix ks vs
 |_,_=>[]
noncomputable def sub:Expr->List Expr
 |.BoolOp _ xs _=>xs
 |.BinOp a _ b _=>[a,b]
 |.UnaryOp _ a _=>[a]
 |.IfExp a b c _=>[a,b,c]
 |.Compare a _ bs _=>a::bs
 |.Call f as ks _=>f::(as++ks.map (·.value))
 |.FormattedValue a _ _ _=>[a]
 |.JoinedStr vs _=>vs
 |.Attribute a _ _=>[a]
 |.Subscript a b _=>[a,b]
 |.List es _=>es
 |.Tuple es _ _=>es
 |.Slice a b c _=>[a.getD dE,b.getD dE,c.getD dE]
 |.ListComp e gs _ _=>e::gs.flatMap fun g=>g.target::g.iter::g.ifs
 |.Dict ks vs _=>mix ks vs
 |_=>[]
noncomputable def kid(x:Expr)(j:Nat):Expr:=(sub x).getD j dE
noncomputable def num:Expr->Nat
 |.Constant _ k _=>k
 |.Tuple _ k _=>k
 |_=>0
noncomputable def scp:Expr->ŕ
 |.ListComp _ _ s _=>s
 |_=>default
noncomputable def kwp:Expr->Pos
 |.Call _ _ (k::_) _=>k.pos
 |_=>⟨0,0,0,0⟩
noncomputable def UN:Own.Bop->Operator
 |.add=>.Add
 |.sub=>.Sub
 |.mul=>.Mult
 |.fdiv=>.FloorDiv
 |.mod=>.Mod
 |.pow=>.Pow
noncomputable def Xm:Own.Cop->ao
 |.eq=>.Eq
 |.ne=>.NotEq
 |.lt=>.Lt
 |.le=>.LtE
 |.gt=>.Gt
 |.ge=>.GtE
 |.isin=>.In
 |.notin=>.NotIn
 |.is=>.Is
 |.isnot=>.IsNot
 |.nes=>.NotEq
 |.neX=>.NotEq
 |.eqE=>.Eq
 |.neE=>.NotEq
 |.ntT=>.IsNot
noncomputable def FX:Own.Val->Const
 |.non=>.none
 |.bl b=>.bool b
 |.int i=>.int i
 |.str s=>.str<|Str.ofString s
 |_=>.ellipsis
noncomputable def BI:Own.Val->Bool
 |.non=>true
 |.bl _=>true
 |.int _=>true
 |.str _=>true
 |_=>false
noncomputable def ZB:Own.E->Bool
 |.and _ _=>true
 |_=>false
noncomputable def ZZ:Own.E->Bool
 |.or _ _=>true
 |_=>false
noncomputable def Zo:Own.Tt->Bool
 |.and _ _=>true
 |_=>false
noncomputable def Zt:Own.Tt->Bool
 |.or _ _=>true
 |_=>false
noncomputable def rest(b:Bool)(x:Expr):Expr:=match b,x with
 |true,.BoolOp op (_::xs) p=>.BoolOp op xs p
 |_,x=>kid x 1
noncomputable def YA(b:Bool)(x:Expr):List Expr:=match b with
 |true=>sub x
 |false=>[x]
noncomputable def Yb:Own.Bi->Str
 |.len=>"len"
 |.int=>"int"
 |.str=>"str"
 |.bool=>"bool"
 |.abs=>"abs"
 |.min2=>"min"
 |.max2=>"max"
 |.minL=>"min"
 |.maxL=>"max"
 |.minD=>"min"
 |.sum=>"sum"
 |.all=>"all"
 |.any=>"any"
 |.sorted=>"sorted"
 |.sortedI=>"sorted"
 |.sortedSet=>"sorted"
 |.lenSet=>"len"
 |.list=>"list"
 |.tuple=>"tuple"
 |.dict=>"dict"
 |.isi _=>"isinstance"
 |.isx _=>"isinstance"
 |.isc _=>"isinstance"
 |.repr=>"repr"
 |.listRev=>"list"
 |.listRange=>"list"
 |.tupRange=>"tuple"
 |.dictEnum=>"dict"
noncomputable def Go:Own.Bi->Option Str
 |.sortedSet=>some "set"
 |.lenSet=>some "set"
 |.listRev=>some "reversed"
 |.listRange=>some "range"
 |.tupRange=>some "range"
 |.dictEnum=>some "enumerate"
 |_=>none
noncomputable def A4(Ts:List String)(x:Expr):Expr:=match Ts with
 |[T]=>.Name (Str.ofString T) x.pos
 |Ts=>.Tuple (Ts.zipIdx.map fun p=>.Name (Str.ofString p.1) (kid x p.2).pos) (num x) x.pos
noncomputable def Db(f:Own.Bi)(as:List Expr)(x:Expr):List Expr:=match Go f with
 |some y=>[.Call (.Name y (kid (kid x 1) 0).pos) as [] (kid x 1).pos]
 |none=>match f with
  |.isi Ts=>as++[A4 Ts<|kid x 2]
  |.isx Ts=>as++[A4 Ts<|kid x 2]
  |.isc T=>as++[A4 [T]<|kid x 2]
  |_=>as
noncomputable def ME(f:Own.Bi)(x:Expr):List Expr:=match Go f with
 |some _=>(sub<|kid x 1).tail
 |none=>(sub x).tail
noncomputable def GJ(f:Own.Bi)(x:Expr):List ϙ:=match f with
 |.minD=>[⟨some "default",.Constant .none (num<|kid x 2) (kid x 2).pos,kwp x⟩]
 |_=>[]
noncomputable def Ea:Own.Bm->Str
 |.append=>"append"
 |.extend=>"extend"
 |.pop=>"pop"
 |.popAt=>"pop"
 |.insert=>"insert"
 |.remove=>"remove"
 |.clear=>"clear"
 |.reverse=>"reverse"
 |.index=>"index"
 |.count=>"count"
 |.dget=>"get"
 |.dgetD=>"get"
 |.dpop=>"pop"
 |.dpopD=>"pop"
 |.setdefault=>"setdefault"
 |.join=>"join"
 |.split=>"split"
 |.replace=>"replace"
 |.upper=>"upper"
 |.partition=>"partition"
 |.sidx=>"index"
noncomputable def BH:List Expr->List (Option Expr)
 |k::_::r=>some k::BH r
 |_=>[]
noncomputable def E9:List Expr->List Expr
 |_::v::r=>v::E9 r
 |_=>[]
noncomputable def toP(p:Own.Pt)(c:Md)(x:Expr):Expr:=match p with
 |.one j=>.Name (c.nmOf j) x.pos
 |.many js=>.Tuple (js.zipIdx.map fun p=>.Name (c.nmOf p.1) (kid x p.2).pos) (num x) x.pos
 |.nest j js=>.Tuple [.Name (c.nmOf j) (kid x 0).pos,.Tuple (js.zipIdx.map fun p=>.Name (c.nmOf p.1) (kid (kid x 1) p.2).pos) (num<|kid x 1) (kid x 1).pos] (num x) x.pos
noncomputable def nmX:Expr->Str
 |.Name x _=>x
 |_=>Str.empty
noncomputable def Z6:Expr->List Str
 |.Tuple es _ _=>es.map nmX
 |x=>[nmX x]
noncomputable def Md.blk(c:Md)(sc:ŕ)(x:List Str)(ç:List Nat):Md :=
 {N:=x++ç.map (fun j=>c.N.getD j Str.empty),sc:={sc with names:=sc.names.map fun(n,k)=>if(k == .free&&c.sc.kind == .function&&c.sc.names.lookup n==some .cell)then(n,.cell)else(n,k)},cs:=c.cs,fs:=c.fs,cm:=c.cm,cl:=c.cl,ms:=c.ms,fl:=c.fl,xs:=c.xs}
noncomputable def ND:Own.E->Bool
 |.cst (.str _)=>true
 |_=>false
mutual
noncomputable def toX:Own.E->Md->Expr->Expr
 |.cst v,_,x=>.Constant (FX v) (num x) x.pos
 |.var j,c,x=>.Name (c.nmOf j) x.pos
 |.glob y _,_,x=>.Name (Str.ofString y) x.pos
 |.bin o a b,c,x=>.BinOp (toX a c<|kid x 0) (UN o) (toX b c<|kid x 1) x.pos
 |.neg a,c,x=>.UnaryOp .USub (toX a c<|kid x 0) x.pos
 |.not a,c,x=>.UnaryOp .Not (toX a c<|kid x 0) x.pos
 |.and a b,c,x=>.BoolOp .And (toX a c (kid x 0)::YA (ZB b) (toX b c<|rest (ZB b) x)) x.pos
 |.or a b,c,x=>.BoolOp .Or (toX a c (kid x 0)::YA (ZZ b) (toX b c<|rest (ZZ b) x)) x.pos
 |.cmp o a b,c,x=>.Compare (toX a c<|kid x 0) [Xm o] [toX b c<|kid x 1] x.pos
 |.chain o1 o2 a b d,c,x=>.Compare (toX a c<|kid x 0) [Xm o1,Xm o2] [toX b c<|kid x 1,toX d c<|kid x 2] x.pos
 |.call f as,c,x=>.Call (.Name (Str.ofString f) (kid x 0).pos) (toA as c (sub x).tail) [] x.pos
 |.make C as,c,x=>.Call (.Name (Str.ofString C) (kid x 0).pos) (toA as c (sub x).tail) [] x.pos
 |.meth _ m o as,c,x=>.Call (.Attribute (toX o c<|kid (kid x 0) 0) (Str.ofString m) (kid x 0).pos) (toA as c (sub x).tail) [] x.pos
 |.fld o f,c,x=>.Attribute (toX o c<|kid x 0) (Str.ofString f) x.pos
 |.bi f as,c,x=>.Call (.Name (Yb f) (kid x 0).pos) (Db f (toA as c<|ME f x) x) (GJ f x) x.pos
 |.bm m o as,c,x=>.Call (.Attribute (toX o c<|kid (kid x 0) 0) (Ea m) (kid x 0).pos) (toA as c (sub x).tail) [] x.pos
 |.idx a b,c,x=>.Subscript (toX a c<|kid x 0) (toX b c<|kid x 1) x.pos
 |.slc a lo hi,c,x=>.Subscript (toX a c<|kid x 0) (.Slice (toO lo c<|kid (kid x 1) 0) (toO hi c<|kid (kid x 1) 1) none (kid x 1).pos) x.pos
 |.rev a,c,x=>.Subscript (toX a c<|kid x 0) (.Slice none none (some<|.UnaryOp .USub (.Constant (.int 1) (num<|kid (kid (kid x 1) 2) 0) (kid (kid (kid x 1) 2) 0).pos) (kid (kid x 1) 2).pos) (kid x 1).pos) x.pos
 |.tup es,c,x=>.Tuple (toA es c<|sub x) (num x) x.pos
 |.key es,c,x=>.Tuple (toA es c<|sub x) (num x) x.pos
 |.dctP,c,x=>.Dict [] [] x.pos
 |.lst es,c,x=>.List (toA es c<|sub x) x.pos
 |.dct es,c,x=>.Dict (BH<|toA es c<|sub x) (E9<|toA es c<|sub x) x.pos
 |.ife t a b,c,x=>.IfExp (toT t c<|kid x 0) (toX a c<|kid x 1) (toX b c<|kid x 2) x.pos
 |.comp ç _ p it t e,c,x=>.ListComp (toX e (c.blk (scp x) (Z6<|kid x 1) ç)<|kid x 0) [⟨toP p (c.blk (scp x) (Z6<|kid x 1) ç)<|kid x 1,toI it c<|kid x 2,toF t (c.blk (scp x) (Z6<|kid x 1) ç)<|kid x 3,0⟩] (scp x) x.pos
 |.fstr es,c,x=>.JoinedStr (toJ es c<|sub x) x.pos
 |.split o a,c,x=>.Call (.Attribute (toX o c<|kid (kid x 0) 0) "split" (kid x 0).pos) [toX a c<|kid x 1] [] x.pos
 |.repl o y z,c,x=>.Call (.Attribute (toX o c<|kid (kid x 0) 0) "replace" (kid x 0).pos) [.Constant (.str<|Str.ofString y) (num<|kid x 1) (kid x 1).pos,.Constant (.str<|Str.ofString z) (num<|kid x 2) (kid x 2).pos] [] x.pos
noncomputable def toA:Own.Es->Md->List Expr->List Expr
 |.nil,_,_=>[]
 |.cons e es,c,xs=>toX e c (xs.headD dE)::toA es c xs.tail
noncomputable def toJ:Own.Es->Md->List Expr->List Expr
 |.nil,_,_=>[]
 |.cons e es,c,xs=>(if ND e then toX e c (xs.headD dE)else .FormattedValue (toX e c<|kid (xs.headD dE) 0) (-1) none (xs.headD dE).pos)::toJ es c xs.tail
noncomputable def toO:Own.Oe->Md->Expr->Option Expr
 |.none,_,_=>none
 |.some e,c,x=>some<|toX e c x
noncomputable def toT:Own.Tt->Md->Expr->Expr
 |.yes,_,x=>x
 |.val e,c,x=>toX e c x
 |.not t,c,x=>.UnaryOp .Not (toT t c<|kid x 0) x.pos
 |.and a b,c,x=>.BoolOp .And (toT a c (kid x 0)::YA (Zo b) (toT b c<|rest (Zo b) x)) x.pos
 |.or a b,c,x=>.BoolOp .Or (toT a c (kid x 0)::YA (Zt b) (toT b c<|rest (Zt b) x)) x.pos
noncomputable def toF:Own.Tt->Md->Expr->List Expr
 |.yes,_,_=>[]
 |.val e,c,x=>[toX e c x]
 |.not t,c,x=>[.UnaryOp .Not (toT t c<|kid x 0) x.pos]
 |.and a b,c,x=>[.BoolOp .And (toT a c (kid x 0)::YA (Zo b) (toT b c<|rest (Zo b) x)) x.pos]
 |.or a b,c,x=>[.BoolOp .Or (toT a c (kid x 0)::YA (Zt b) (toT b c<|rest (Zt b) x)) x.pos]
noncomputable def toI:Own.It->Md->Expr->Expr
 |.seq e,c,x=>toX e c x
 |.chars e,c,x=>toX e c x
 |.range a,c,x=>.Call (.Name "range" (kid x 0).pos) [toX a c<|kid x 1] [] x.pos
 |.range2 a b,c,x=>.Call (.Name "range" (kid x 0).pos) [toX a c<|kid x 1,toX b c<|kid x 2] [] x.pos
 |.enum e,c,x=>.Call (.Name "enumerate" (kid x 0).pos) [toX e c<|kid x 1] [] x.pos
 |.zip a b,c,x=>.Call (.Name "zip" (kid x 0).pos) [toX a c<|kid x 1,toX b c<|kid x 2] [] x.pos
 |.items e,c,x=>toX e c x
 |.rev e,c,x=>.Call (.Name "reversed" (kid x 0).pos) [toX e c<|kid x 1] [] x.pos
end
noncomputable def blts:List Str:=["isinstance","int","bool","str","list","tuple","dict","max","min","range","len","sorted","set","all","any","sum","enumerate","zip","reversed","abs","repr","ValueError"]
structure Kls(X:Cx)(i:Inf)(P:Own.Pg)(n:Nat)(c:Md):Prop where
 A:ClsA i
 F:∀f,c.fl.contains f=true->FldOk i f
 mkc:∀C,c.cl.contains C=true->∃a f,i.ins C=true/\i.cl C a/\Mk i.K a f/\X.mg (Str.ofString C)=some (.ref a)/\Dfm X.prog X.w X.mg X.base i P n (C ++ ".__init__") f
 mth:∀C m,c.ms.contains (C,m)=true->∃a f,(∀b,i.cl C b->b=a)/\Cls i.K a/\Meth i.K a (Str.ofString m) f/\Dfm X.prog X.w X.mg X.base i P n (C ++ "." ++ m) f
structure Xls(X:Cx)(i:Inf)(c:Md):Prop where
 xc:∀C a,i.xc C a->XCls i.K a/\PySem.W.kitOne i.K (.ref a) (.type "ValueError")=some true
 rs:∀C,c.xs.contains C=true->∃a,i.xc C a/\PyProof.Rows.OwnCls (Str.ofString C) a [.type "ValueError",.type "Exception",.type "BaseException",.type "object"] "ValueError.__new__" X.mg X.base
 kn:∀T,(c.xs.contains T||T == "ShutError")=true->∃D,X.mg (Str.ofString T)=some (.ref D)/\∀C a,i.xc C a->PySem.W.kitOne i.K (.ref a) (.ref D)=some (Own.excSub C T)/\(Own.excSub C T=true->PySem.W.exmOne i.K (.ref a) (.ref D)=some true)
structure Gd(X:Cx)(i:Inf)(P:Own.Pg)(n:Nat)(c:Md):Prop where
 K:X.K=i.K
 N:X.N=c.N
 sc:X.env.scope=c.sc
 nd:c.N.Nodup
 un:X.A.units+200<Ğ
 calm:c.cm=true->X.calm=true
 room:c.cm=true->Room (2*n+1) X.A
 bl:∀x∈blts,X.mg x=none
 dfs:∀f,c.fs.contains f=true->Dfo X.prog X.w X.mg X.base i P n f
 cst:∀x v,c.cs.lookup x=some v->∃u y,X.mg (Str.ofString x)=some u/\RelV y u/\∀H,RV i.K H v y
 kl:Kls X i P n c
 xl:c.xs≠[]->Xls X i c
 top:Top X
variable {X:Cx}{i:Inf}{P:Own.Pg}{n:Nat}{c:Md}
variable {x:Str}
theorem Gd.gl(g:Gd X i P n c)(h:c.gl x=true):Gl X x:=by show X.env.scope.names.lookup x=_;rw[g.sc];exact eq_of_beq h
theorem Gd.vis(g:Gd X i P n c)(h:c.vis x=true):Vis X.env.scope x:=by
 unfold Vis;rw[g.sc];unfold Md.vis at h;split at h
 .exact .inl (by assumption)
 .exact .inr (.inl<|by assumption)
 .exact .inr (.inr<|by assumption)
 .cases h
theorem Gd.loc(g:Gd X i P n c)(h:c.loc x=true):L2.Loc X.env.scope x:=by
 unfold L2.Loc;rw[g.sc];rcases (Ż ..).mp h with h|h
 .exact .inl<|eq_of_beq h
 .exact .inr<|eq_of_beq h
theorem Gd.rm(g:Gd X i P n c)(h:c.cm=true):Room (2*n) X.A:=(g.room h).mono (ν _)
theorem Xl(h:nm x=true):(x==("__debug__" : Str))=false/\(x==("__classdict__" : Str))=false/\x≠"__name__":=by simp only[nm,bAq,Ċ]at h;exact⟨h.1.1,h.1.2,by simpa using h.2⟩
theorem ZA(e:Own.E)(c:Md)(x:Expr)(es:List Expr)(env:Env):Ð (toX e c x::es) env=(false,eval (toX e c x) env)::Ð es env:=by cases e<;>rfl
theorem UG(e:Own.E)(c:Md)(x:Expr):JA<|toX e c x:=by intro o j;cases e<;>rfl
variable {op:ao}
theorem Ks(e:Own.E)(c:Md)(x:Expr):Ĥ op (toX e c x)=false:=by cases e<;>rfl
theorem Ot(e:Own.E)(c:Md)(x:Expr)(env:Env):∀y,ī (toX e c x) env y=pure y:=by intro y;cases e<;>rfl
noncomputable def X9:Expr->Bool
 |.Call (.Name _ _) [] _ _=>false
 |_=>true
variable {e:Expr}
theorem Y2(h:X9 e=true)(f:Str)(env:Env):ś e f env (eval e env)=eval e env:=by
 cases e with
 |Call g as ks p =>
  cases as with
  |cons _ _=>cases g<;>rfl
  |nil=>cases g with
   |Name x q=>cases h
   |_=>rfl
 |_=>rfl
noncomputable def Za:Own.Es->Nat
 |.nil=>0
 |.cons _ es=>Za es+1
theorem YY:∀(es:Own.Es) (c:Md) (xs:List Expr),(toA es c xs).length=Za es
 |.nil,_,_=>rfl
 |.cons _ es,c,xs=>by show(toA es c xs.tail).length+1=_;rw[YY es];rfl
theorem ZW(env:Env)(ë:Pos):∀(es:Own.Es) (c:Md) (xs:List Expr),(Ħ ë<|Ð (toA es c xs) env).any (·.1)=false
 |.nil,_,_=>rfl
 |.cons e es,c,xs=>by show(Ħ ë<|Ð (toX e c (xs.headD dE)::toA es c xs.tail) env).any (·.1)=false;rw[ZA];show(false||(Ħ ë<|Ð (toA es c xs.tail) env).any (·.1))=false;rw[ZW env ë es];rfl
theorem J8(env:Env)(ë:Pos):∀(es:Own.Es) (c:Md) (xs:List Expr),(Ħ ë<|Ð (toA es c xs) env).all (fun x=>!x.1)=true
 |.nil,_,_=>rfl
 |.cons e es,c,xs=>by show(Ħ ë<|Ð (toX e c (xs.headD dE)::toA es c xs.tail) env).all (fun x=>!x.1)=true;rw[ZA];show(true&&(Ħ ë<|Ð (toA es c xs.tail) env).all (fun x=>!x.1))=true;rw[J8 env ë es];rfl
noncomputable def Zw:Own.Pt->Bool
 |.one _=>true
 |_=>false
theorem Kw(p:Own.Pt)(x:Expr):((!Zw p)=true->∃es k q,toP p c x=.Tuple es k q)/\((!Zw p)=false->∃y q,toP p c x=.Name y q):=by
 cases p with
 |one j=>exact⟨fun z=>(by cases z),fun _=>⟨_,_,rfl⟩⟩
 |many js=>exact⟨fun _=>⟨_,_,_,rfl⟩,fun z=>(by cases z)⟩
 |nest j js=>exact⟨fun _=>⟨_,_,_,rfl⟩,fun z=>(by cases z)⟩
def ON(X:Cx)(c:Md)(j:Nat):Prop:=X.N[j]?=some (c.nmOf j)/\L2.Loc X.env.scope (c.nmOf j)/\(X.fn (c.nmOf j)=true\/X.env.scope.names.lookup (c.nmOf j)=some .local)
def Cc(q:Nat->Prop):Own.Pt->Prop
 |.one j=>q j
 |.many js=>∀j∈js,q j
 |.nest j js=>q j/\∀k∈js,q k
theorem W0{X:Cx}{c:Md}(nd:X.N.Nodup)(f:Nat->Pos):∀(js:List Nat) (k:Nat),(∀j∈js,ON X c j)->
  PGs X ((js.zipIdx k).map fun p=>.Name (c.nmOf p.1)<|f p.2) (OY i js)/\(ē ((js.zipIdx k).map fun p=>.Name (c.nmOf p.1)<|f p.2) X.env).length=js.length/\(ē ((js.zipIdx k).map fun p=>.Name (c.nmOf p.1)<|f p.2) X.env).findIdx? (·.1)=none
 |[],_,_=>⟨A5,rfl,rfl⟩
 |j::js,k,h=>by
  obtain⟨h1,h2,h3⟩:=h j (by simp);obtain⟨a1,a2,a3⟩:=W0 nd f js (k+1) fun l hl=>h l (by simp[hl]);rw[List.zipIdx_cons,Ó];refine⟨O2 nd h1 h2 h3 a1 rfl,?_,?_⟩
  .show(ē ((js.zipIdx<|k+1).map _) X.env).length+1=js.length+1;rw[a2]
  .show List.findIdx? (·.1) ((false,Ÿ (.Name (c.nmOf j)<|f k) X.env)::ē _ X.env)=none;rw[List.findIdx?_cons];simp[a3]
theorem BO(hK:X.K=i.K)(nd:X.N.Nodup)(hc:X.calm=true){p:Own.Pt}{x:Expr}(h:Cc (ON X c) p):PG X (toP p c x)<|gPt i p:=by
 cases p with
 |one j=>exact Kn nd h.1 h.2.1 h.2.2
 |many js =>obtain⟨a1,a2,a3⟩:=W0 nd (fun k=>(kid x k).pos) js 0 h;exact MA hK hc a1 a2 a3
 |nest j js =>obtain⟨h0,h⟩:=h;obtain⟨a1,a2,a3⟩:=W0 nd (fun k=>(kid (kid x 1) k).pos) js 0 h;exact Bv hK hc (Kn nd h0.1 h0.2.1 h0.2.2)<|MA hK hc a1 a2 a3
variable {Φ:Own.Fs} {a:Own.E} {b:Own.E} {l:Expr} {ë:Pos}
theorem FQ(g:Gd X i P n c){o:Own.Bop}{r:Expr}(ha:PE X l<|tE X i Φ a)(hb:PE X r<|tE X i Φ b):PE X (.BinOp l (UN o) r ë)<|tE X i Φ<|.bin o a b:=by
 cases o with
 |add=>exact WG FN (by rw[g.K];exact b_add) ha hb
 |sub=>exact WG Ez b_sub ha hb
 |mul=>exact WG E3 b_mul ha hb
 |fdiv=>exact WG Ar b_fdiv ha hb
 |mod=>exact WG EC b_mod ha hb
 |pow=>exact WG CA b_pow ha hb
noncomputable def YR:Own.Cop->Bool
 |.is=>true
 |.isnot=>true
 |.ntT=>true
 |.neE=>true
 |.eqE=>true
 |.nes=>true
 |_=>false
variable {o:Own.Cop}
theorem Kq(g:Gd X i P n c)(h:YR o=false):∃r,OpR X (Ý<|Xm o) r/\ZK i o r:=by
 have u65:X.A.units+65<Ğ:=by have:=g.un;omega
 have u64:X.A.units+64<Ğ:=by have:=g.un;omega
 have u0:X.A.units<Ğ:=by have:=g.un;omega
 cases o with
 |eq=>exact⟨_,DH u64,by rw[g.K];exact GL⟩
 |ne=>exact⟨_,Oy u64,by rw[g.K];exact Fu⟩
 |lt=>exact⟨_,G4 u0,by rw[g.K];exact c_lt⟩
 |le=>exact⟨_,EZ,c_le⟩
 |gt=>exact⟨_,Ho u0,by rw[g.K];exact c_gt⟩
 |ge=>exact⟨_,EG,c_ge⟩
 |isin=>exact⟨_,He u65,by rw[g.K];exact Hc⟩
 |notin=>exact⟨_,GP u65,by rw[g.K];exact HA⟩
 |neX=>exact⟨_,Ex u64,by rw[g.K];exact c_neX⟩
 |_=>cases h
theorem Ck{v:Own.Val}{j:Nat}(h:BI v=true):PE X (.Constant (FX v) j ë)<|tE X i Φ<|.cst v:=by
 cases v with
 |non=>exact Xq Ew fun _=>.non
 |bl b=>exact Xq Gm fun _=>.bl _
 |int k=>exact Xq Dv fun _=>.int _
 |str s=>exact Xq pe_str fun _=>.str _
 |_=>cases h
noncomputable def JU:Own.E->Bool
 |.cst .non=>true
 |_=>false
theorem By{e:Own.E}(h:JU e=true):e=.cst .non:=by
 cases e with
 |cst v=>cases v with
  |non=>rfl
  |_=>cases h
 |_=>cases h
variable {y:Expr}
theorem YQ(hn:∀G v d,Own.cmpV G o v .non≠some d)(ha:PE X l<|tE X i Φ a)(hb:PE X y<|tE X i Φ<|.cst .non)(hm:Ĥ op y=false) :
  PE X (.Compare l [op] [y] ë) (tE X i Φ<|.cmp o a<|.cst .non)/\PT X (.Compare l [op] [y] ë) (tTt X i Φ<|.val<|.cmp o a<|.cst .non):=by
 have ho:OpR X (Ý op) fun _ _ _ _=>False:=fun _ _ _ _ _ _ _ _ _ _ _ _ h=>h.elim;refine⟨(MN ho ha hb hm).imp fun σ H Q ⟨env,G,Qm,Em,p,w,c⟩=>?_,(Mr ho ha hb hm).imp fun σ H Q ⟨env,G,Qm,Em,p,w,c⟩=>?_⟩
 .refine one p w fun v G1 H1 x k1 p1 r q=>?_;obtain⟨d,e,_⟩:=go_some q;exact absurd e<|hn G1 v d
 .refine one p w fun v G1 H1 x k1 p1 r q=>?_;obtain⟨d,e,_⟩:=go_some q;exact absurd e<|hn G1 v d
theorem JL(g:Gd X i P n c){x:Expr}(h:(!YR o||JU b)=true)(ha:PE X l<|tE X i Φ a)(hb:PE X (toX b c x)<|tE X i Φ b) :
  PE X (.Compare l [Xm o] [toX b c x] ë) (tE X i Φ<|.cmp o a b)/\PT X (.Compare l [Xm o] [toX b c x] ë) (tTt X i Φ<|.val<|.cmp o a b):=by
 cases z:YR o with
 |false =>obtain⟨r,h1,h2⟩:=Kq g z;exact⟨FT h1 h2 ha hb<|Ks _ _ _,Et h1 h2 ha hb<|Ks _ _ _⟩
 |true =>
  rw[z]at h;cases By h;cases o with
  |is=>exact⟨Fh ha,Ei ha⟩
  |isnot=>exact⟨Du ha,AD ha⟩
  |ntT=>exact YQ (fun G v d e=>by cases v<;>simp[Own.cmpV,Own.asLst]at e) ha hb<|Ks _ _ _
  |neE=>exact YQ (fun G v d e=>by cases v<;>simp[Own.cmpV,Own.asLst]at e) ha hb<|Ks _ _ _
  |eqE=>exact YQ (fun G v d e=>by cases v<;>simp[Own.cmpV,Own.asLst]at e) ha hb<|Ks _ _ _
  |nes=>exact YQ (fun G v d e=>by cases v<;>simp[Own.cmpV,Own.asLst]at e) ha hb<|Ks _ _ _
  |_=>cases z
theorem XB(g:Gd X i P n c){o1 o2:Own.Cop}{d:Own.E}{x:Expr}(h1:YR o1=false)(h2:YR o2=false)(ha:PE X l<|tE X i Φ a)(hb:PE X y<|tE X i Φ b)(hd:PE X (toX d c x)<|tE X i Φ d) :
  PE X (.Compare l [Xm o1,Xm o2] [y,toX d c x] ë) (tE X i Φ<|.chain o1 o2 a b d)/\PT X (.Compare l [Xm o1,Xm o2] [y,toX d c x] ë) (tTt X i Φ<|.val<|.chain o1 o2 a b d):=by
 obtain⟨r1,a1,a2⟩:=Kq g h1;obtain⟨r2,b1,b2⟩:=Kq g h2;have hm:ϧ [Xm o1,Xm o2] [y,toX d c x]=false:=Ks _ _ _;exact⟨AU a1 a2 b1 b2 ha hb hd hm,N9 a1 a2 b1 b2 ha hb hd hm⟩
theorem DA{m:Own.E}(h:PE X e<|tE X i Φ m)(he:∀ϒ,am e X.env ϒ=(do let v<-ϒ;standAt e.pos;holding [v] (truthy v)))(hK:X.K=i.K):PT X e<|tTt X i Φ<|.val m:=by
 refine(Oj h he).imp fun σ H Q ⟨env,G,Qm,Em,p,w,c⟩=>?_;refine one p w fun v G1 H1 x k1 p1 r q=>?_;obtain⟨d,e1,q2⟩:=go_some q;clear q;refine⟨d,?_,c d G1 H1 k1 p1.hp q2⟩;cases v with
 |non=>cases r;cases e1;rfl
 |bl b=>cases r;cases e1;rfl
 |int b =>
  cases r;cases e1;show decide (b≠0)=(b != 0)
  by_cases e:b=0<;>simp[e]
 |key _ _=>cases e1
 |str b =>
  cases r;obtain⟨hl,e1⟩:=ZH e1;cases e1;refine⟨by rw[Zh];exact Ç hl ZE,?_⟩;rw[Zh];by_cases e:b.length=0
  .rw[e];rfl
  .rw[decide_eq_true e];symm;simpa using (by omega:¬ ((b.length:Int)=0))
 |tup xs =>
  cases e1;cases r with
  |tup hp hr =>refine .inr (.inl ⟨_,by rw[hK];exact Zk hp,?_⟩);cases hr<;>rfl
 |scr ns =>
  cases e1;cases r with
  |scr h =>refine .inl ⟨_,by rw[hK];exact Z3 h,?_⟩;cases ns<;>rfl
 |ref a =>
  cases r.ref_inv
  replace e1:(match G1 a with|some (.lst xs)=>some (!xs.isEmpty)|some (.dct kvs)=>some (!kvs.isEmpty)|_=>none)=some d:=e1
  cases z:G1 a with
  |none=>rw[z]at e1;cases e1
  |some o =>
   rw[z]at e1;cases o with
   |lst xs =>cases e1;obtain⟨vs,h1,h2⟩:=p1.hp a _ z;refine .inl ⟨vs,SqL.of h1,?_⟩;cases h2<;>rfl
   |dct kvs =>cases e1;obtain⟨ps,h1,h2⟩:=p1.hp a _ z;refine .inr<|.inr ⟨ps,h1,?_⟩;cases h2<;>rfl
   |_=>cases e1
variable {X:Cx}{i:Inf}{P:Own.Pg}{n:Nat}{c:Md}{Φ:Own.Fs}
variable {C:String}
theorem KN{o:Option Own.Ob}(h:Own.excOf o=some C):o=some (.exc C):=by
 cases o with
 |none=>cases h
 |some o=>cases o with
  |exc D=>cases h;rfl
  |_=>cases h
theorem Nz{G:Own.Hs}{v:Own.Val}(h:Own.excV G v=some C):∃a,v=.ref a/\G a=some (.exc C):=by
 cases v with
 |ref a=>exact⟨a,rfl,KN h⟩
 |_=>cases h
variable {m:Own.E} {Ts:List String}
theorem Ku{σ:St}{H:Hp}{Q:VK}{W:VK}(h:tE X i Φ (.bi (.isx Ts)<|.cons m .nil) σ H Q)
  (f:∀C a ad G1 H1,i.xc C ad->H1 a=some (xcO a<|.ref ad)->RH i G1 H1->(∀H2,Keep H1 H2->RH i G1 H2->Q (.bl<|Ts.any<|Own.excSub C) H2)->W (.ref a) H1):tE X i Φ m σ H W:=by
 obtain⟨env,G,Qm,Em,p,w,c⟩:=h;refine one p w fun v G1 H1 x k1 p1 r q=>?_
 replace q:(Own.Rs.ofO<|(Own.excV G1 v).map fun c=>.bl<|Ts.any<|Own.excSub c).wp G1 Qm:=q
 cases z:Own.excV G1 v with
 |none=>rw[z]at q;simp[Own.Rs.ofO]at q
 |some C =>rw[z]at q;simp only[Ń,Own.Rs.ofO,Own.Rs.wp_val]at q;obtain⟨a,rfl,e⟩:=Nz z;cases r.ref_inv;obtain⟨ad,hx,ha⟩:=p1.hp a _ e;exact f C a ad G1 H1 hx ha p1.hp fun H2 k2 g2=>c _ G1 H2 _ (k1.trans k2) g2 (.bl _) q
variable {e:Expr} {p:Pos} {p2:Pos} {ë:Pos}
theorem En{T:String}{D:Ä}(Z:Xls X i c)(hk:X.K=i.K)(he:PE X e<|tE X i Φ m)(hg:Gl X "isinstance")(hm:X.mg "isinstance" = none)(hg2:Gl X<|Str.ofString T)(hm2:X.mg (Str.ofString T)=some (.ref D))
  (hD:∀C a,i.xc C a->PySem.W.kitOne i.K (.ref a) (.ref D)=some (Own.excSub C T)) (aJ:(Str.ofString T==("__debug__" : Str))=false) (ņ:Ð [e,.Name (Str.ofString T) p2] X.env=(false,eval e X.env)::Ð [.Name (Str.ofString T) p2] X.env) :
  PE X (.Call (.Name "isinstance" p) [e,.Name (Str.ofString T) p2] [] ë) (tE X i Φ<|.bi (.isx [T])<|.cons m .nil):=by
 refine(ZJ Nj hg hm (by kernel_rfl) (Zz he (Zz (Jo (v:=.ref D) hg2 hm2 rfl aJ) pa_nil) ņ) (he:=ņ)).imp fun σ H Q h=>?_;change tE X i Φ m σ H _;refine Ku h fun C a ad G1 H1 hx ha g q=>?_;refine⟨a,ad,D,Own.excSub C T,rfl,ha,by rw[hk];exact(Z.xc C ad hx).1,by rw[hk];exact hD C ad hx,?_⟩;have:=q H1 (Keep.refl _) g;simpa using this
theorem Eh(Z:Xls X i c)(hk:X.K=i.K)(he:PE X e<|tE X i Φ m)(hg:Gl X "isinstance")(hm:X.mg "isinstance" = none)(hg2:Gl X "ValueError")(hm2:X.mg "ValueError" = none)
  (ņ:Ð [e,.Name "ValueError" p2] X.env=(false,eval e X.env)::Ð [.Name "ValueError" p2] X.env) :
  PE X (.Call (.Name "isinstance" p) [e,.Name "ValueError" p2] [] ë) (tE X i Φ<|.bi (.isx ["ValueError"])<|.cons m .nil):=by
 refine(ZJ Kc hg hm (by kernel_rfl) (Zz he (Zz (Mi (v:=.ty "ValueError") hg2 hm2 (by kernel_rfl) rfl) pa_nil) ņ) (he:=ņ)).imp fun σ H Q h=>?_;change tE X i Φ m σ H _;refine Ku h fun C a ad G1 H1 hx ha g q=>?_;refine⟨a,ad,"ValueError",true,rfl,ha,by rw[hk];exact(Z.xc C ad hx).1,by rw[hk];exact(Z.xc C ad hx).2,?_⟩;have:=q H1 (Keep.refl _) g;have e:Own.excSub C "ValueError" = true:=by simp[Own.excSub]
 simpa[e]using this
theorem Og(hT:∀T∈Ts,Gl X (Str.ofString T)/\(Str.ofString T==("__debug__" : Str))=false/\∃D,X.mg (Str.ofString T)=some (.ref D)/\∀C a,i.xc C a->PySem.W.kitOne i.K (.ref a) (.ref D)=some (Own.excSub C T))(f:Nat->Pos):∀k,∃Ds:List Ä,
  PA X ((Ts.zipIdx k).map fun p=>.Name (Str.ofString p.1)<|f p.2) (fun _ H Q=>Q (Ds.map V.ref) H)/\Ds.length=Ts.length/\∀C a,i.xc C a->PySem.W.kitAny i.K (.ref a) (Ds.map Value.ref)=some (Ts.any<|Own.excSub C):=by
 induction Ts with
 |nil=>exact fun _=>⟨[],pa_nil,rfl,fun _ _ _=>rfl⟩
 |cons T Ts ih =>
  intro k;obtain⟨Ds,h1,h2,h3⟩:=ih (fun T h=>hT T<|.tail _ h)<|k+1;obtain⟨q1,q2,D,q3,q4⟩:=hT T<|.head _;refine⟨D::Ds,?_,by rw[Å,Å,h2],fun C a hx=>?_⟩
  .rw[List.zipIdx_cons,Ó];exact Zz (Jo (v:=.ref D) q1 q3 rfl q2) h1
  .rw[Ó,PySem.W.kitAny,q4 C a hx,Ĩ];cases Own.excSub C T with
   |true=>rfl
   |false=>exact h3 C a hx
theorem C8{kk:Nat}{f:Nat->Pos}(Z:Xls X i c)(hk:X.K=i.K)(he:PE X e<|tE X i Φ m)(hg:Gl X "isinstance")(hm:X.mg "isinstance" = none)(hl:Ts.length<=20)
  (hT:∀T∈Ts,Gl X (Str.ofString T)/\(Str.ofString T==("__debug__" : Str))=false/\∃D,X.mg (Str.ofString T)=some (.ref D)/\∀C a,i.xc C a->PySem.W.kitOne i.K (.ref a) (.ref D)=some (Own.excSub C T))
  (ņ:∀ts,Ð [e,.Tuple ts kk p2] X.env=(false,eval e X.env)::Ð [.Tuple ts kk p2] X.env) :
  PE X (.Call (.Name "isinstance" p) [e,.Tuple (Ts.zipIdx.map fun p=>.Name (Str.ofString p.1)<|f p.2) kk p2] [] ë) (tE X i Φ<|.bi (.isx Ts)<|.cons m .nil):=by
 obtain⟨Ds,h1,h2,h3⟩:=Og hT f 0;refine(ZJ KD hg hm (by kernel_rfl) (Zz he (Zz (NJ h1) pa_nil)<|ņ _) (he:=ņ _)).imp fun σ H Q h=>?_;change tE X i Φ m σ H _;refine Ku h fun C a ad G1 H1 hx ha g q=>?_;refine⟨by rw[È,h2];unfold Ô;omega,fun t ht=>?_⟩;have Ψ:a≠t:=fun z=>by rw[z,ht]at ha;cases ha
 refine⟨a,ad,t,Ds,Ts.any<|Own.excSub C,rfl,by rw[upd_ne Ψ];exact ha,by rw[hk];exact(Z.xc C ad hx).1,upd_same,by rw[hk];exact h3 C ad hx,?_⟩;exact q _ (Keep.new ht)<|Mv g ht
noncomputable def Md.gn(c:Md)(y:String):Bool:=c.gl (Str.ofString y)&&nm (Str.ofString y)
noncomputable def YX:Own.Bi->Bool
 |.len=>true
 |.int=>true
 |.str=>true
 |.abs=>true
 |.min2=>true
 |.all=>true
 |.tuple=>true
 |_=>false
noncomputable def Bp:Own.Bi->Option String
 |.isi [T]=>some T
 |_=>none
noncomputable def NL:Own.Bi->Option (List String)
 |.isx Ts=>some Ts
 |_=>none
noncomputable def YN:Own.Bi->Bool
 |_=>false
noncomputable def Xw:Own.Bi->Bool
 |_=>false
noncomputable def Br:Own.Bi->Str
 |.listRev=>"reversed"
 |.sortedSet=>"set"
 |_=>"range"
noncomputable def K5:Own.Bi->Bool
 |_=>false
noncomputable def MO:Own.Bi->Bool
 |_=>false
noncomputable def JS:Own.Bi->String
 |.isc T=>T
 |_=>""
noncomputable def WY:Own.Bi->Bool
 |_=>false
noncomputable def NP:Own.Bi->Option (List String)
 |_=>none
noncomputable def Md.xn(c:Md)(T:String):Bool:=(c.xs.contains T||T == "ShutError")&&c.gn T
noncomputable def Y1:Own.Bi->Bool
 |.len=>true
 |.int=>true
 |.str=>true
 |.abs=>true
 |.tuple=>true
 |_=>false
noncomputable def Bc(c:Md)(Ts:List String):Bool:=match Ts with
 |[T]=>c.xn T||(T == "ValueError" && c.gl (Str.ofString T))
 |Ts=>Ts.all c.xn&&decide (Ts.length<=20)
noncomputable def UE:Own.Bm->Option Nat
 |.append=>some 1
 |.popAt=>some 1
 |.join=>some 1
 |_=>none
noncomputable def MF:Own.Tt->Bool
 |.yes=>true
 |_=>false
noncomputable def Kl:Own.E->Bool
 |.var _=>true
 |.call _ _=>true
 |.meth _ _ _ _=>true
 |.bi _ _=>true
 |.bm _ _ _=>true
 |.idx _ _=>true
 |.fld _ _=>true
 |.glob _ _=>true
 |_=>false
noncomputable def F2:Own.E->Bool
 |.cmp _ _ _=>true
 |.chain _ _ _ _ _=>true
 |_=>false
mutual
noncomputable def okE:Own.E->Md->Expr->Bool
 |.cst v,_,_=>BI v
 |.var j,c,_=>decide (j<c.N.length)&&c.vis (c.nmOf j)&&nm (c.nmOf j)
 |.glob y v,c,_=>c.gn y&&decide (c.cs.lookup y=some v)
 |.bin _ a b,c,x=>okE a c (kid x 0)&&okE b c (kid x 1)
 |.neg a,c,x=>okE a c<|kid x 0
 |.not a,c,x=>okE a c<|kid x 0
 |.and a b,c,x=>okE a c (kid x 0)&&okE b c (rest (ZB b) x)&&(!ZB b||(rest (ZB b) x).pos==x.pos)
 |.or a b,c,x=>okE a c (kid x 0)&&okE b c (rest (ZZ b) x)&&(!ZZ b||(rest (ZZ b) x).pos==x.pos)
 |.cmp o a b,c,x=>okE a c (kid x 0)&&okE b c (kid x 1)&&(!YR o||JU b)
 |.chain o1 o2 a b d,c,x=>okE a c (kid x 0)&&okE b c (kid x 1)&&okE d c (kid x 2) && !YR o1 && !YR o2
 |.call f as,c,x=>c.gn f&&c.fs.contains f&&c.cm&&okA as c (sub x).tail
 | .bi f as,c,x=>(match Bp f with
   |some T=>decide (Za as=1)&&kinds.contains T&&c.gl "isinstance" && c.gl (Str.ofString T)
   |none=>match NL f with
     |some Ts=>decide (Za as=1)&&c.gl "isinstance" && !c.xs.isEmpty&&Bc c Ts
     |none=>match NP f with
       |some Ts=>decide (Za as=1)&&c.gl "isinstance" && Ts.all (fun T=>kinds.contains T&&c.gl (Str.ofString T))&&decide (Ts.length<=20)
       | none=>if YN f then decide (Za as=1)&&c.gl "len" && c.gl "set" && c.cm else if Xw f then decide (Za as=1)&&c.gl (Yb f)&&c.gl (Br f)&&c.cm else if WY f then decide (Za as=1)&&c.gl "min" && c.cm else if K5 f then decide (Za as=1)&&c.gl "dict" && c.gl "enumerate" && c.cm else if MO f then decide (Za as=1)&&c.gl "isinstance" && c.gn (JS f)&&c.cl.contains (JS f)else YX f&&c.gl (Yb f)&&decide (Za as≠0)&&(c.cm||Y1 f))&&okA as c (ME f x)
 |.bm m o as,c,x=>decide (UE m=some (Za as))&&okE o c (kid (kid x 0) 0)&&X9 (toX o c<|kid (kid x 0) 0)&&((kid x 0).pos.endLine==x.pos.line)&&okA as c (sub x).tail
 |.idx a b,c,x=>okE a c (kid x 0)&&okE b c (kid x 1)
 |.slc a lo hi,c,x=>okE a c (kid x 0)&&okO lo c (kid (kid x 1) 0)&&okO hi c (kid (kid x 1) 1)
 |.tup es,c,x=>okA es c (sub x)&&decide (Za es<=1000)
 |.lst es,c,x=>okA es c (sub x)&&decide (Za es<=1000)
 |.comp ç m p it t e,c,x=>(KZ m p&&(Z6<|kid x 1).length==m)&&c.cm&&ZU (scp x) c.sc c.N (Z6<|kid x 1) ç&&(scp x).kind == .function&&okI it c (kid x 2) (!Zw p)&&okE e (c.blk (scp x) (Z6<|kid x 1) ç) (kid x 0)&&(MF t||okT t (c.blk (scp x) (Z6<|kid x 1) ç) (kid x 3))
 |.split o a,c,x=>okE o c (kid (kid x 0) 0)&&X9 (toX o c<|kid (kid x 0) 0)&&((kid x 0).pos.endLine==x.pos.line)&&okE a c (kid x 1)
 |_,_,_=>false
noncomputable def okA:Own.Es->Md->List Expr->Bool
 |.nil,_,_=>true
 |.cons e es,c,xs=>okE e c (xs.headD dE)&&okA es c xs.tail
noncomputable def okJ:Own.Es->Md->List Expr->Bool
 |.nil,_,_=>true
 |.cons e es,c,xs=>(ND e||okE e c (kid (xs.headD dE) 0))&&okJ es c xs.tail
noncomputable def okO:Own.Oe->Md->Expr->Bool
 |.none,_,_=>true
 |.some e,c,x=>okE e c x
noncomputable def okT:Own.Tt->Md->Expr->Bool
 |.yes,_,_=>false
 |.val e,c,x=>okE e c x&&(Kl e||F2 e)
 |.not t,c,x=>okT t c<|kid x 0
 |.and a b,c,x=>okT a c (kid x 0)&&okT b c (rest (Zo b) x)&&(!Zo b||(rest (Zo b) x).pos==x.pos)
 |.or a b,c,x=>okT a c (kid x 0)&&okT b c (rest (Zt b) x)&&(!Zt b||(rest (Zt b) x).pos==x.pos)
noncomputable def okI:Own.It->Md->Expr->Bool->Bool
 |.seq e,c,x,_=>okE e c x
 |.chars e,c,x,b=>okE e c x && !b
 |.range a,c,x,_=>c.gl "range" && okE a c (kid x 1)
 |_,_,_,_=>false
end
variable {X:Cx}{i:Inf}{P:Own.Pg}{n:Nat}{c:Md}
variable {f:Own.Bi} {e:Expr} {es:List Expr} {q:Pos} {p:Pos} {l:Nat}
theorem U3(g:Gd X i P n c)(hp:YX f=true)(a9:(c.cm||Y1 f)=true){as:Own.Es}(hg:Gl X<|Yb f)(ha:PA X (e::es)<|tAr X i (Own.wF P n) as l)
  (he:Ð (e::es) X.env=(false,eval e X.env)::Ð es X.env) (hpl:(Ħ p<|Ð es X.env).any (·.1)=false):PE X (.Call (.Name (Yb f) q) (e::es) [] p)<|tE X i (Own.wF P n)<|.bi f as:=by
 have hc:Y1 f=false->X.calm=true:=fun z=>g.calm (by rw[z,ϰ]at a9;exact a9);cases f with
 |len=>exact(ZJ ((call_len_seq.or Jy).or Ny) hg (g.bl _<|by simp[blts,Yb]) (by kernel_rfl) ha (he:=he) (hpl:=hpl)).imp (XF<|by rw[g.K];exact DY)
 |int=>exact(Xc (call_int1.or We) hg (g.bl _<|by simp[blts,Yb]) (by kernel_rfl) ha (he:=he) (hpl:=hpl)).imp<|XF DS
 |str=>exact(Xc (call_str_int.or Jh) hg (g.bl _<|by simp[blts,Yb]) (by kernel_rfl) ha (he:=he) (hpl:=hpl)).imp<|XF Dc
 |abs=>exact(ZJ Uj hg (g.bl _<|by simp[blts,Yb]) (by kernel_rfl) ha (he:=he) (hpl:=hpl)).imp<|XF Cl
 |min2=>exact(ZJ ((Ng<|hc rfl).or<|Ke (hc rfl) (by have:=g.un;omega)) hg (g.bl _<|by simp[blts,Yb]) (by kernel_rfl) ha (he:=he) (hpl:=hpl)).imp (XF<|by rw[g.K];exact A3)
 |all=>exact(ZJ (Oi<|hc rfl) hg (g.bl _<|by simp[blts,Yb]) (by kernel_rfl) ha (he:=he) (hpl:=hpl)).imp (XF<|by rw[g.K];exact CK)
 |tuple=>exact(Xc Wk hg (g.bl _<|by simp[blts,Yb]) (by kernel_rfl) ha (he:=he) (hpl:=hpl)).imp (XF<|by rw[g.K];exact UY)
 |_=>cases hp
variable {T:String}
theorem Cv(h:Bp f=some T):f=.isi [T]:=by
 cases f with
 |isi Ts =>
  cases Ts with
  |nil=>cases h
  |cons a r=>cases r with
   |nil=>cases h;rfl
   |cons _ _=>cases h
 |_=>cases h
variable {m:Own.E} {ë:Pos}
theorem N8(g:Gd X i P n c){p2:Pos}(hT:T∈kinds)(h2:c.gl "isinstance" = true)(h5:c.gl (Str.ofString T)=true)(he:PE X e<|tE X i (Own.wF P n) m)(ņ:Ð [e,.Name (Str.ofString T) p2] X.env=(false,eval e X.env)::Ð [.Name (Str.ofString T) p2] X.env) :
  PE X (.Call (.Name "isinstance" p) [e,.Name (Str.ofString T) p2] [] ë) (tE X i (Own.wF P n)<|.bi (.isi [T])<|.cons m .nil):=by
 have bJ:=hT;simp only[kinds,Î,ę,or_false]at bJ;refine F4 hT he g.K (g.gl h2) (g.bl _<|by simp[blts]) (g.gl h5) ?_ ?_ ?_ ?_ ņ
 .rcases bJ with rfl|rfl|rfl|rfl|rfl|rfl<;>exact g.bl _ (by simp[blts])
 .rcases bJ with rfl|rfl|rfl|rfl|rfl|rfl<;>kernel_rfl
 .rcases bJ with rfl|rfl|rfl|rfl|rfl|rfl<;>decide
 .rcases bJ with rfl|rfl|rfl|rfl|rfl|rfl<;>decide
variable {Ts:List String}
theorem Ch(h:NL f=some Ts):f=.isx Ts:=by
 cases f with
 |isx Us=>cases h;rfl
 |_=>cases h
theorem Gd.xnm(g:Gd X i P n c)(hx:c.xs≠[])(h:c.xn T=true):Gl X (Str.ofString T)/\(Str.ofString T==("__debug__" : Str))=false/\∃D,X.mg (Str.ofString T)=some (.ref D)/\∀C a,i.xc C a->PySem.W.kitOne i.K (.ref a) (.ref D)=some (Own.excSub C T):=by unfold Md.xn Md.gn at h;rw[bAq,bAq]at h;obtain⟨D,h1,h2⟩:=(g.xl hx).kn T h.1;exact⟨g.gl h.2.1,(Xl h.2.2).1,D,h1,fun C a z=>(h2 C a z).1⟩
theorem Os(g:Gd X i P n c){y:Expr}(h1:c.gl "isinstance" = true)(hx:c.xs≠[])(h2:Bc c Ts=true)(he:PE X e<|tE X i (Own.wF P n) m)(ņ:∀{es},Ð (e::es) X.env=(false,eval e X.env)::Ð es X.env) :
  PE X (.Call (.Name "isinstance" p) [e,A4 Ts y] [] ë) (tE X i (Own.wF P n)<|.bi (.isx Ts)<|.cons m .nil):=by
 have many:(Ts.all c.xn&&decide (Ts.length<=20))=true->PE X (.Call (.Name "isinstance" p) [e,.Tuple (Ts.zipIdx.map fun p=>.Name (Str.ofString p.1) (kid y p.2).pos) (num y) y.pos] [] ë) (tE X i (Own.wF P n)<|.bi (.isx Ts)<|.cons m .nil):=fun h=>by rw[bAq,decide_eq_true_eq,Ú]at h;exact C8 (f:=fun k=>(kid y k).pos) (g.xl hx) g.K he (g.gl h1) (g.bl _<|by simp[blts]) h.2 (fun T hT=>g.xnm hx<|h.1 T hT) fun ts=>ņ
 match Ts,h2,many with
 |[],h2,many=>exact many h2
 |[T],h2,many =>
  have h2:(c.xn T||(T == "ValueError" && c.gl (Str.ofString T)))=true:=h2;by_cases hT:c.xn T=true
  .obtain⟨q1,q2,D,q3,q4⟩:=g.xnm hx hT;exact En (g.xl hx) g.K he (g.gl h1) (g.bl _<|by simp[blts]) q1 q3 q4 q2 ņ
  .rw[ũ.mpr hT,Bool.false_or,bAq]at h2;cases eq_of_beq h2.1;exact Eh (g.xl hx) g.K he (g.gl h1) (g.bl _<|by simp[blts]) (g.gl h2.2) (g.bl _<|by simp[blts]) ņ
 |T::U::Us,h2,many=>exact many h2
variable {o:Expr} {mo:Own.E} {ο:Pos} {ŀ:Pos}
theorem UB(g:Gd X i P n c){m:Own.Bm}(h:UE m=some 0)(ho:PE X o<|tE X i (Own.wF P n) mo)(hb:∀f,ś o f X.env (eval o X.env)=eval o X.env)(hl:(ο.endLine==ŀ.line)=true) :
  PE X (.Call (.Attribute o (Ea m) ο) [] [] ŀ) (tE X i (Own.wF P n)<|.bm m mo .nil):=by
 cases m with
 |_=>cases h
theorem BA(g:Gd X i P n c){m:Own.Bm}{k:Nat}(h:UE m=some (k+1)){ms:Own.Es}(ho:PE X o<|tE X i (Own.wF P n) mo)(ha:PA X (e::es)<|tAr X i (Own.wF P n) ms l)(hb:∀f,ś o f X.env (eval o X.env)=eval o X.env)(hl:(ο.endLine==ŀ.line)=true)
  (aK:((Ħ ŀ<|Ð (e::es) X.env).all (fun x=>!x.1)&&(backToKw ŀ<|keywordEach [] X.env).all (fun x=>x.1.isSome)&&decide ((e::es).length+([]:List ϙ).length+(if([]:List ϙ).isEmpty then 0 else 1)<30))=true)
  (hs:Ð (e::es) X.env=(false,eval e X.env)::Ð es X.env) (hpl:(Ħ ŀ<|Ð es X.env).any (·.1)=false) :
  PE X (.Call (.Attribute o (Ea m) ο) (e::es) [] ŀ) (tE X i (Own.wF P n)<|.bm m mo ms):=by
 have u1:X.A.units+1<Ğ:=by have:=g.un;omega
 cases m with
 |append=>exact DV g.K PySem.F.plainAttrs_list PySem.F.slot_list_append PySem.F.type_list_append M1 (FO rfl) C7 ho ha (hb _) aK hl hs hpl
 |popAt=>exact DV g.K PySem.F.plainAttrs_list PySem.F.slot_list_pop PySem.F.type_list_pop Uh (FO rfl) AM ho ha (hb _) aK hl hs hpl
 |join=>exact DV g.K PySem.F.plainAttrs_str PySem.F.slot_str_join PySem.F.type_str_join (by rw[<-g.K];exact A0) (GX rfl) FY ho ha (hb _) aK hl hs hpl
 |_=>cases h
variable {sc:ŕ} {ç:List Nat}
theorem Gd.blk(g:Gd X i P n c){x:List Str}(hb:ZU sc c.sc c.N x ç=true)(hk:sc.kind=.function)(cl:List<|Str×Ä)(C:Ä)(s:Â)(H:Hp)(ex:List Ä)(xe:Á->Â->Prop) :
  Gd (Ze X sc (ZC X x ç) cl C s H ex xe) i P n (c.blk sc x ç) where
 K:=g.K
 N:=by show ZC X x ç=_;unfold ZC;rw[g.N];rfl
 sc:=by show ah sc X.env=_;unfold ah Env.kindOf;rw[g.sc];rfl
 nd:=by have B:=KI g.sc g.N hk hb;have:=B.nd;unfold ZC at this;rw[g.N]at this;exact this
 un:=g.un
 calm:=g.calm
 room:=g.room
 bl:=g.bl
 dfs:=g.dfs
 cst:=g.cst
 kl:=⟨g.kl.A,g.kl.F,g.kl.mkc,g.kl.mth⟩
 xl:=fun h=>⟨(g.xl h).xc,(g.xl h).rs,(g.xl h).kn⟩
 top:=g.top
theorem Gd.pt(g:Gd X i P n c)(a9:c.cm=true){xs:List Str}(hb:ZU sc c.sc c.N xs ç=true)(hk:sc.kind=.function){p:Own.Pt}(hp:KZ xs.length p=true)(x:Expr)(cl:List<|Str×Ä)(C:Ä)(s:Â)(H:Hp)(ex:List Ä)(xe:Á->Â->Prop) :
  PG (Ze X sc (ZC X xs ç) cl C s H ex xe) (toP p (c.blk sc xs ç) x) (gPt i p):=by
 have B:=KI g.sc g.N hk hb;have G:=g.blk hb hk cl C s H ex xe;have key:∀j,j<xs.length->ON (Ze X sc (ZC X xs ç) cl C s H ex xe) (c.blk sc xs ç) j:=fun j hj=>by
  have e:(c.blk sc xs ç).nmOf j=xs[j]:=by unfold Md.nmOf Md.blk;show(xs++_).getD j _=_;rw[Ď,Ă hj,ß hj];rfl
  have lo:=lookup_relabel_local (env:=X.env)<|B.own xs[j]<|Ů hj;unfold ON;rw[e];refine⟨?_,.inl lo,.inr lo⟩;show(xs++_)[j]?=_;rw[Ă hj,ß hj]
 refine BO G.K (by rw[G.N];exact G.nd) (g.calm a9) ?_;cases p with
 |one j=>exact key j<|of_decide_eq_true hp
 |many js=>exact fun j hj=>key j<|of_decide_eq_true<|Ú.mp hp j hj
 |nest j js=>cases hp
variable {b:Own.E}
theorem K7(h:ZB b=true):∃a d,b=.and a d:=by
 cases b with
 |and a d=>exact⟨a,d,rfl⟩
 |_=>cases h
theorem NZ(h:ZZ b=true):∃a d,b=.or a d:=by
 cases b with
 |or a d=>exact⟨a,d,rfl⟩
 |_=>cases h
theorem Op{b:Own.Tt}(h:Zo b=true):∃a d,b=.and a d:=by
 cases b with
 |and a d=>exact⟨a,d,rfl⟩
 |_=>cases h
theorem Af{b:Own.Tt}(h:Zt b=true):∃a d,b=.or a d:=by
 cases b with
 |or a d=>exact⟨a,d,rfl⟩
 |_=>cases h
theorem Jv{b:Bool}(h:(!b||p==q)=true)(hb:b=true):p=q:=by rw[hb]at h;exact eq_of_beq h
variable {Φ:Own.Fs} {x:Expr}
theorem NX(hp:(!ZB b||(rest (ZB b) x).pos==x.pos)=true)(h:PE X (toX b c<|rest (ZB b) x)<|tE X i Φ b):PE X (.BoolOp .And (YA (ZB b)<|toX b c<|rest (ZB b) x) x.pos)<|tE X i Φ b:=by
 cases z:ZB b with
 |false=>rw[z]at h;exact OK h
 |true =>have e:=Jv hp z;rw[z]at e h;obtain⟨a,d,rfl⟩:=K7 z;show PE X (.BoolOp .And (sub<|.BoolOp .And _ (rest true x).pos) x.pos) _;rw[<-e];exact h
theorem AG(hp:(!ZZ b||(rest (ZZ b) x).pos==x.pos)=true)(h:PE X (toX b c<|rest (ZZ b) x)<|tE X i Φ b):PE X (.BoolOp .Or (YA (ZZ b)<|toX b c<|rest (ZZ b) x) x.pos)<|tE X i Φ b:=by
 cases z:ZZ b with
 |false=>rw[z]at h;exact OK h
 |true =>have e:=Jv hp z;rw[z]at e h;obtain⟨a,d,rfl⟩:=NZ z;show PE X (.BoolOp .Or (sub<|.BoolOp .Or _ (rest true x).pos) x.pos) _;rw[<-e];exact h
theorem WC(b:Bool){e:Own.E}(h:b=ZB e\/b=ZZ e):∃y ys,YA b (toX e c x)=y::ys:=by
 cases b with
 |false=>exact⟨_,_,rfl⟩
 |true =>
  rcases h with h|h
  .obtain⟨a,d,rfl⟩:=K7 h.symm;exact⟨_,_,rfl⟩
  .obtain⟨a,d,rfl⟩:=NZ h.symm;exact⟨_,_,rfl⟩
variable {i:Inf}{P:Own.Pg}{n:Nat}
variable {X:Cx} {c:Md} {Φ:Own.Fs} {b:Own.Tt} {x:Expr}
theorem NB(hp:(!Zo b||(rest (Zo b) x).pos==x.pos)=true)(h:PT X (toT b c<|rest (Zo b) x)<|tTt X i Φ b)(h2:(Zo b||Zt b)=true->PW X (toT b c<|rest (Zo b) x) (tTt X i Φ b)) :
  ∃y ys,YA (Zo b) (toT b c<|rest (Zo b) x)=y::ys/\PW X (.BoolOp .And (y::ys) x.pos) (tTt X i Φ b):=by
 cases z:Zo b with
 |false=>rw[z]at h;exact⟨_,_,rfl,Am h⟩
 |true =>have e:=Jv hp z;rw[z]at e h2;obtain⟨a,d,rfl⟩:=Op z;refine⟨_,_,rfl,?_⟩;rw[<-e];exact h2 rfl
theorem Ur(hp:(!Zt b||(rest (Zt b) x).pos==x.pos)=true)(h:PT X (toT b c<|rest (Zt b) x)<|tTt X i Φ b)(h2:(Zo b||Zt b)=true->PW X (toT b c<|rest (Zt b) x) (tTt X i Φ b)) :
  ∃y ys,YA (Zt b) (toT b c<|rest (Zt b) x)=y::ys/\PW X (.BoolOp .Or (y::ys) x.pos) (tTt X i Φ b):=by
 cases z:Zt b with
 |false=>rw[z]at h;exact⟨_,_,rfl,Ef h⟩
 |true =>have e:=Jv hp z;rw[z]at e h2;obtain⟨a,d,rfl⟩:=Af z;refine⟨_,_,rfl,?_⟩;rw[<-e];exact h2 rfl
variable {e:Own.E}
theorem GB(h:ND e=true):∃s,e=.cst (.str s):=by
 cases e with
 |cst v=>cases v with
  |str s=>exact⟨s,rfl⟩
  |_=>cases h
 |_=>cases h
variable {ç:List Nat} {p:Own.Pt} {it:Own.It}
theorem Wm(g:Gd X i P n c){mt:Own.Tt}{me:Own.E}{Ϭ Ŗ Ϣ:Expr}{x:List Str}{ë:Pos}{ϝ:List Expr}{sc:ŕ}(a9:c.cm=true)(h1:ZU sc c.sc c.N x ç=true)(hk:sc.kind=.function)(hp:KZ x.length p=true)
  (hi:PI X Ϣ Ŗ<|tIt X i (Own.wF P n) it) (hs:∀y,ī Ŗ X.env y=pure y) (hG:∀cl C s H ex xe,PG (Ze X sc (ZC X x ç) cl C s H ex xe) Ϣ<|gPt i p)
  (hE:∀cl C s H ex xe E,XW (Ze X sc (ZC X x ç) cl C s H ex xe) E->PE (Ze X sc (ZC X x ç) cl C s H ex xe) Ϭ (tE0 i (Own.wF P n) me E)) (hI:∀cl C s H ex xe E,XW (Ze X sc (ZC X x ç) cl C s H ex xe) E->PIfs (Ze X sc (ZC X x ç) cl C s H ex xe) ϝ (tT0 i (Own.wF P n) mt E)) :
  PE X (.ListComp Ϭ [⟨Ϣ,Ŗ,ϝ,0⟩] sc ë) (tE X i (Own.wF P n)<|.comp ç x.length p it mt me)/\
   ∀(y:Str) (py Ϯ:Pos) (j:Nat),X.N[j]?=some y->L2.Loc X.env.scope y->(X.fn y=true\/X.env.scope.names.lookup y=some .local)->Ŏ (.ListComp Ϭ [⟨Ϣ,Ŗ,ϝ,0⟩] sc ë) (some<|.Name y py) Ϯ.line X.env=pure true->PS X (.Assign [.Name y py] (.ListComp Ϭ [⟨Ϣ,Ŗ,ϝ,0⟩] sc ë) Ϯ) (tSt X i (Own.wF P n)<|.set (.one j)<|.comp ç x.length p it mt me):=by
 have B:=KI g.sc g.N hk h1;have hc:=g.calm a9;refine⟨(OX g.top hc B hi hG hI hE hs).imp<|MM hp,fun y py Ϯ j hj hl hf hsw=>?_⟩;refine(Ug g.top (by rw[g.N];exact g.nd) hj hl hc B hi hG hI hE hs hsw hf).imp fun D σ H ⟨env,G,N,R,Bk,Ct,Xe,p,w,e⟩=>?_;refine MM hp σ H _ ⟨env,G,_,Xe env,p.pre,w,fun v G1 H1 x k1 g1 r1 w1=>?_⟩;obtain⟨ĸ,e2,w2⟩:=go_some w1;clear w1;cases e2;exact e.nx _ _ G1 H1 k1 g1 ((p.en.keep k1).set r1 j) w2
theorem Kk{j:Nat}(hN:X.N=c.N)(h:j<c.N.length):X.N[j]?=some (c.nmOf j):=by rw[hN];unfold Md.nmOf;rw[Ď,ß h];rfl
theorem FP{m:Own.Tt}{E:XK}(xw:XW X E)(h:MF m=false->PT X (toT m c x) (tTt X i (Own.wF P n) m)):PIfs X (toF m c x)<|tT0 i (Own.wF P n) m E:=by
 cases m with
 |yes=>exact Eb
 |val e=>exact YT<|pt0 xw<|h rfl
 |not t=>exact YT<|pt0 xw<|h rfl
 |and a b=>exact YT<|pt0 xw<|h rfl
 |or a b=>exact YT<|pt0 xw<|h rfl
mutual
theorem eE:∀(m:Own.E) (X:Cx) (c:Md) (x:Expr),Gd X i P n c->okE m c x=true->PE X (toX m c x) (tE X i (Own.wF P n) m)
 |.cst v,X,c,x,g,h=>Ck h
 |.var j,X,c,x,g,h=>by have h:(decide (j<c.N.length)&&c.vis (c.nmOf j)&&nm (c.nmOf j))=true:=h;rw[bAq,bAq,decide_eq_true_eq]at h;obtain⟨q1,q2,_⟩:=Xl h.2;exact F0 (Kk g.N h.1.1) (g.vis h.1.2) q1 q2
 |.glob y v,X,c,x,g,h=>by have h:((c.gl (Str.ofString y)&&nm (Str.ofString y))&&decide (c.cs.lookup y=some v))=true:=h;rw[bAq,bAq,decide_eq_true_eq]at h;obtain⟨q1,q2,_⟩:=Xl h.1.2;obtain⟨u,z,e1,e2,e3⟩:=g.cst _ _ h.2;exact DO (Jo (g.gl h.1.1) e1 e2 q1) e3
 |.bin o a b,X,c,x,g,h=>by have h:(okE a c (kid x 0)&&okE b c (kid x 1))=true:=h;rw[bAq]at h;exact FQ g (eE a X c _ g h.1)<|eE b X c _ g h.2
 |.neg a,X,c,x,g,h=>F9<|eE a X c _ g h
 |.not a,X,c,x,g,h=>EU<|eE a X c _ g h
 |.and a b,X,c,x,g,h=>by have h:(okE a c (kid x 0)&&okE b c (rest (ZB b) x)&&(!ZB b||(rest (ZB b) x).pos==x.pos))=true:=h;rw[bAq,bAq]at h;have h2:=NX h.2<|eE b X c _ g h.1.2;obtain⟨y,ys,e⟩:=WC (c:=c) (ZB b) (e:=b) (x:=rest (ZB b) x)<|.inl rfl;show PE X (.BoolOp .And (toX a c (kid x 0)::YA (ZB b) (toX b c<|rest (ZB b) x)) x.pos) _;rw[e]at h2 ⊢;exact E5 (eE a X c _ g h.1.1) h2
 |.or a b,X,c,x,g,h=>by have h:(okE a c (kid x 0)&&okE b c (rest (ZZ b) x)&&(!ZZ b||(rest (ZZ b) x).pos==x.pos))=true:=h;rw[bAq,bAq]at h;have h2:=AG h.2<|eE b X c _ g h.1.2;obtain⟨y,ys,e⟩:=WC (c:=c) (ZZ b) (e:=b) (x:=rest (ZZ b) x)<|.inr rfl;show PE X (.BoolOp .Or (toX a c (kid x 0)::YA (ZZ b) (toX b c<|rest (ZZ b) x)) x.pos) _;rw[e]at h2 ⊢;exact Hk (eE a X c _ g h.1.1) h2
 |.cmp o a b,X,c,x,g,h=>by have h:(okE a c (kid x 0)&&okE b c (kid x 1)&&(!YR o||JU b))=true:=h;rw[bAq,bAq]at h;exact(JL g h.2 (eE a X c _ g h.1.1)<|eE b X c _ g h.1.2).1
 |.chain o1 o2 a b d,X,c,x,g,h=>by have h:(okE a c (kid x 0)&&okE b c (kid x 1)&&okE d c (kid x 2) && !YR o1 && !YR o2)=true:=h;rw[bAq,bAq,bAq,bAq,Ċ,Ċ]at h;obtain⟨⟨⟨⟨h1,h2⟩,h3⟩,h4⟩,h5⟩:=h;exact(XB g h4 h5 (eE a X c _ g h1) (eE b X c _ g h2)<|eE d X c _ g h3).1
 |.call f as,X,c,x,g,h=>by
  have h:((c.gl (Str.ofString f)&&nm (Str.ofString f))&&c.fs.contains f&&c.cm&&okA as c (sub x).tail)=true:=h;rw[bAq,bAq,bAq,bAq]at h;obtain⟨⟨⟨⟨h1,h2⟩,h3⟩,h4⟩,h5⟩:=h;obtain⟨q1,_,_⟩:=Xl h2;have ha:=eA as X c _ g h5;cases as with
  |nil=>exact Be g.K (g.dfs _ h3) (g.rm h4) (g.gl h1) q1
  |cons a as=>exact Cr g.K (g.dfs _ h3) (g.rm h4) (g.gl h1) q1 ha (ZA ..)<|ZW ..
 |.make C as,X,c,x,g,h=>nomatch h
 |.meth C m o as,X,c,x,g,h=>nomatch h
 |.fld o f,X,c,x,g,h=>nomatch h
 |.bi f as,X,c,x,g,h=>by
  have h:((match Bp f with
    |some T=>decide (Za as=1)&&kinds.contains T&&c.gl "isinstance" && c.gl (Str.ofString T)
    |none=>match NL f with
      |some Ts=>decide (Za as=1)&&c.gl "isinstance" && !c.xs.isEmpty&&Bc c Ts
      |none=>match NP f with
        |some Ts=>decide (Za as=1)&&c.gl "isinstance" && Ts.all (fun T=>kinds.contains T&&c.gl (Str.ofString T))&&decide (Ts.length<=20)
        | none=>if YN f then decide (Za as=1)&&c.gl "len" && c.gl "set" && c.cm else if Xw f then decide (Za as=1)&&c.gl (Yb f)&&c.gl (Br f)&&c.cm else if WY f then decide (Za as=1)&&c.gl "min" && c.cm else if K5 f then decide (Za as=1)&&c.gl "dict" && c.gl "enumerate" && c.cm else if MO f then decide (Za as=1)&&c.gl "isinstance" && c.gn (JS f)&&c.cl.contains (JS f)else YX f&&c.gl (Yb f)&&decide (Za as≠0)&&(c.cm||Y1 f))&&okA as c (ME f x))=true:=h
  rw[bAq]at h;cases z:Bp f with
  |some T =>
   have h1:=h.1;rw[z]at h1;rw[bAq,bAq,bAq,decide_eq_true_eq]at h1;obtain⟨⟨⟨h1,h2⟩,h3⟩,h4⟩:=h1;cases Cv z;cases as with
   |nil=>cases h1
   |cons a as=>cases as with
    |nil =>have h5:(okE a c _&&true)=true:=h.2;rw[bAq]at h5;exact N8 g (ï.mp h2) h3 h4 (eE a X c _ g h5.1)<|ZA ..
    |cons b as=>exact absurd h1 (by simp[Za])
  |none =>
   have h1:=h.1;rw[z]at h1
   replace h1:(match NL f with
     |some Ts=>decide (Za as=1)&&c.gl "isinstance" && !c.xs.isEmpty&&Bc c Ts
     |none=>match NP f with
       |some Ts=>decide (Za as=1)&&c.gl "isinstance" && Ts.all (fun T=>kinds.contains T&&c.gl (Str.ofString T))&&decide (Ts.length<=20)
       | none=>if YN f then decide (Za as=1)&&c.gl "len" && c.gl "set" && c.cm else if Xw f then decide (Za as=1)&&c.gl (Yb f)&&c.gl (Br f)&&c.cm else if WY f then decide (Za as=1)&&c.gl "min" && c.cm else if K5 f then decide (Za as=1)&&c.gl "dict" && c.gl "enumerate" && c.cm else if MO f then decide (Za as=1)&&c.gl "isinstance" && c.gn (JS f)&&c.cl.contains (JS f)else YX f&&c.gl (Yb f)&&decide (Za as≠0)&&(c.cm||Y1 f))=true:=h1
   cases zx:NL f with
   |some Ts =>
    rw[zx]at h1;rw[bAq,bAq,bAq,decide_eq_true_eq,Ċ]at h1;obtain⟨⟨⟨h1,h3⟩,h4⟩,h5⟩:=h1;cases Ch zx;cases as with
    |nil=>cases h1
    |cons a as=>cases as with
     |nil =>have h6:(okE a c _&&true)=true:=h.2;rw[bAq]at h6;exact Os g h3 (by intro z;rw[z]at h4;cases h4) h5 (eE a X c _ g h6.1)<|ZA ..
     |cons b as=>exact absurd h1 (by simp[Za])
   |none =>
    rw[zx]at h1
    replace h1:(match NP f with
      |some Ts=>decide (Za as=1)&&c.gl "isinstance" && Ts.all (fun T=>kinds.contains T&&c.gl (Str.ofString T))&&decide (Ts.length<=20)
      | none=>if YN f then decide (Za as=1)&&c.gl "len" && c.gl "set" && c.cm else if Xw f then decide (Za as=1)&&c.gl (Yb f)&&c.gl (Br f)&&c.cm else if WY f then decide (Za as=1)&&c.gl "min" && c.cm else if K5 f then decide (Za as=1)&&c.gl "dict" && c.gl "enumerate" && c.cm else if MO f then decide (Za as=1)&&c.gl "isinstance" && c.gn (JS f)&&c.cl.contains (JS f)else YX f&&c.gl (Yb f)&&decide (Za as≠0)&&(c.cm||Y1 f))=true:=h1
    cases zl:NP f with
    |some Ts=>cases zl
    |none =>
     rw[zl]at h1;dsimp only at h1;split at h1
     .rename_i hls;exact absurd (show false=true from hls) (by decide)
     split at h1
     .rename_i _ hls;exact absurd (show false=true from hls) (by decide)
     split at h1
     .rename_i _ _ hls;exact absurd (show false=true from hls) (by decide)
     split at h1
     .rename_i _ _ _ hls;exact absurd (show false=true from hls) (by decide)
     split at h1
     .rename_i _ _ _ _ hls;exact absurd (show false=true from hls) (by decide)
     rw[bAq,bAq,bAq,decide_eq_true_eq]at h1;obtain⟨⟨⟨h1,h2⟩,h3⟩,h4⟩:=h1;have ha:=eA as X c _ g h.2;cases as with
     |nil=>exact absurd rfl h3
     |cons a as =>
      have e1:toX (.bi f<|.cons a as) c x=.Call (.Name (Yb f) (kid x 0).pos) (toA (.cons a as) c<|ME f x) [] x.pos:=by cases f<;>first|(cases h1;done)|rfl
      rw[e1];exact U3 g h1 h4 (g.gl h2) ha (ZA ..)<|ZW ..
 |.bm m o as,X,c,x,g,h=>by
  have h:(decide (UE m=some (Za as))&&okE o c (kid (kid x 0) 0)&&X9 (toX o c<|kid (kid x 0) 0)&&((kid x 0).pos.endLine==x.pos.line)&&okA as c (sub x).tail)=true:=h;rw[bAq,bAq,bAq,bAq,decide_eq_true_eq]at h;obtain⟨⟨⟨⟨h1,h2⟩,h3⟩,h4⟩,h5⟩:=h;have ha:=eA as X c _ g h5;have ho:=eE o X c _ g h2;cases as with
  |nil=>exact UB g h1 ho (fun f=>Y2 h3 f _) h4
  |cons a as =>
   refine BA g h1 ho ha (fun f=>Y2 h3 f _) h4 ?_ (ZA ..)<|ZW ..;rw[bAq,bAq,decide_eq_true_eq];refine⟨⟨J8 X.env x.pos (.cons a as) c (sub x).tail,rfl⟩,?_⟩;have e2:(toA (.cons a as) c (sub x).tail).length=Za (.cons a as):=YY ..;have e3:Za (.cons a as)<=2:=by
    have:∀m:Own.Bm,∀k,UE m=some k->k<=2:=by intro m k;cases m<;>intro z<;>first|(cases z;done)|(cases z;decide)
    exact this m _ h1
   show(toA (.cons a as) c (sub x).tail).length+0+0<30;omega
 |.idx a b,X,c,x,g,h=>by have h:(okE a c (kid x 0)&&okE b c (kid x 1))=true:=h;rw[bAq]at h;exact Fj (ix_seq.or<|AE (by have:=g.un;omega)) (by rw[g.K];exact F6) (eE a X c _ g h.1) (eE b X c _ g h.2)<|UG _ _ _
 |.slc a lo hi,X,c,x,g,h=>by have h:(okE a c (kid x 0)&&okO lo c (kid (kid x 1) 0)&&okO hi c (kid (kid x 1) 1))=true:=h;rw[bAq,bAq]at h;exact FD HC (by rw[g.K];exact ET) (eE a X c _ g h.1.1) (eO lo X c _ g h.1.2)<|eO hi X c _ g h.2
 |.tup es,X,c,x,g,h=>by have h:(okA es c (sub x)&&decide (Za es<=1000))=true:=h;rw[bAq,decide_eq_true_eq]at h;exact Gq (by rw[YY];exact h.2)<|eA es X c _ g h.1
 |.key es,X,c,x,g,h=>nomatch h
 |.dctP,X,c,x,g,h=>nomatch h
 |.lst es,X,c,x,g,h=>by have h:(okA es c (sub x)&&decide (Za es<=1000))=true:=h;rw[bAq,decide_eq_true_eq]at h;exact FI (by rw[YY];exact h.2)<|eA es X c _ g h.1
 |.dct es,X,c,x,g,h=>nomatch h
 |.ife t a b,X,c,x,g,h=>nomatch h
 |.comp ç m p it t e,X,c,x,g,h=>by
  have h:((KZ m p&&(Z6<|kid x 1).length == m)&&c.cm&&ZU (scp x) c.sc c.N (Z6<|kid x 1) ç&&(scp x).kind == .function&&okI it c (kid x 2) (!Zw p)&&okE e (c.blk (scp x) (Z6<|kid x 1) ç) (kid x 0)&&(MF t||okT t (c.blk (scp x) (Z6<|kid x 1) ç) (kid x 3)))=true:=h;rw[bAq,bAq,bAq,bAq,bAq,bAq]at h;obtain⟨⟨⟨⟨⟨⟨h1,h2⟩,h3⟩,h4⟩,h5⟩,h6⟩,h7⟩:=h;rw[bAq,beq_iff_eq]at h1;obtain⟨h1,rfl⟩:=h1;have hk:=eq_of_beq h4;obtain⟨t1,t2⟩:=Kw (c:=c.blk (scp x) (Z6<|kid x 1) ç) p<|kid x 1;obtain⟨a1,a2⟩:=eI it X c (kid x 2) (toP p (c.blk (scp x) (Z6<|kid x 1) ç)<|kid x 1) g (!Zw p) t1 t2 h5;exact(Wm g h2 h3 hk h1 a1 a2 (g.pt h2 h3 hk h1 _)
    (fun cl C s H ex xe E xw=>pe0 xw<|eE e _ _ _ (g.blk h3 hk cl C s H ex xe) h6) (fun cl C s H ex xe E xw=>FP xw fun z=>(eT t _ _ _ (g.blk h3 hk cl C s H ex xe)<|by rw[z]at h7;exact h7).1)).1
 |.fstr es,X,c,x,g,h=>nomatch h
 |.repl _ _ _,X,c,x,g,h=>nomatch h
 |.split o a,X,c,x,g,h=>by have h:(okE o c (kid (kid x 0) 0)&&X9 (toX o c<|kid (kid x 0) 0)&&((kid x 0).pos.endLine==x.pos.line)&&okE a c (kid x 1))=true:=h;rw[bAq,bAq,bAq]at h;exact AX (eE o X c _ g h.1.1.1) (eE a X c _ g h.2) (Y2 h.1.1.2 _ _) h.1.2<|ZA ..
 |.rev a,X,c,x,g,h=>nomatch h
theorem eA:∀(ms:Own.Es) (X:Cx) (c:Md) (xs:List Expr),Gd X i P n c->okA ms c xs=true->PA X (toA ms c xs) (tAr X i (Own.wF P n) ms (toA ms c xs).length)
 |.nil,X,c,xs,g,h=>Dy
 |.cons a as,X,c,xs,g,h=>by have h:(okE a c (xs.headD dE)&&okA as c xs.tail)=true:=h;rw[bAq]at h;exact Bf (eE a X c _ g h.1) (eA as X c _ g h.2)<|ZA ..
theorem eJ:∀(ms:Own.Es) (X:Cx) (c:Md) (xs:List Expr),Gd X i P n c->okJ ms c xs=true->PJ X (toJ ms c xs) (tJs X i (Own.wF P n) ms)
 |.nil,X,c,xs,g,h=>CC
 |.cons a as,X,c,xs,g,h=>by
  have h:((ND a||okE a c (kid (xs.headD dE) 0))&&okJ as c xs.tail)=true:=h;rw[bAq]at h;have hr:=eJ as X c _ g h.2;show PJ X ((if ND a then toX a c (xs.headD dE)else .FormattedValue (toX a c<|kid (xs.headD dE) 0) (-1) none (xs.headD dE).pos)::toJ as c xs.tail) _;cases z:ND a with
  |true =>obtain⟨s,rfl⟩:=GB z;exact K8 DT hr rfl
  |false =>rw[z]at h;exact K8 (EA<|eE a X c _ g h.1) hr rfl
theorem eO:∀(m:Own.Oe) (X:Cx) (c:Md) (x:Expr),Gd X i P n c->okO m c x=true->PO X (toO m c x) (tOx X i (Own.wF P n) m)
 |.none,X,c,x,g,h=>Bx
 |.some e,X,c,x,g,h=>AY<|eE e X c _ g h
theorem eT:∀(m:Own.Tt) (X:Cx) (c:Md) (x:Expr),Gd X i P n c->okT m c x=true->PT X (toT m c x) (tTt X i (Own.wF P n) m)/\((Zo m||Zt m)=true->PW X (toT m c x) (tTt X i (Own.wF P n) m))
 |.yes,X,c,x,g,h=>nomatch h
 |.val e,X,c,x,g,h=>by
  refine⟨?_,fun z=>(by cases z)⟩;have h:(okE e c x&&(Kl e||F2 e))=true:=h;rw[bAq]at h;have he:=eE e X c x g h.1;cases z:Kl e with
  |true=>exact DA he (by cases e<;>first|(cases z;done)|exact fun _=>rfl) g.K
  |false =>
   have h2:=h.2;rw[z]at h2;cases e with
   |cmp o a b =>have h:(okE a c (kid x 0)&&okE b c (kid x 1)&&(!YR o||JU b))=true:=h.1;rw[bAq,bAq]at h;exact(JL g h.2 (eE a X c _ g h.1.1)<|eE b X c _ g h.1.2).2
   |chain o1 o2 a b d =>have h:(okE a c (kid x 0)&&okE b c (kid x 1)&&okE d c (kid x 2) && !YR o1 && !YR o2)=true:=h.1;rw[bAq,bAq,bAq,bAq,Ċ,Ċ]at h;obtain⟨⟨⟨⟨h1,h2⟩,h3⟩,h4⟩,h5⟩:=h;exact(XB g h4 h5 (eE a X c _ g h1) (eE b X c _ g h2)<|eE d X c _ g h3).2
   |_=>cases h2
 |.not t,X,c,x,g,h=>⟨DR (eT t X c _ g h).1,fun z=>(by cases z)⟩
 |.and a b,X,c,x,g,h=>by
  have h:(okT a c (kid x 0)&&okT b c (rest (Zo b) x)&&(!Zo b||(rest (Zo b) x).pos==x.pos))=true:=h;rw[bAq,bAq]at h;have h2:=eT b X c _ g h.1.2;obtain⟨y,ys,e,h3⟩:=NB h.2 h2.1 h2.2;have h4:PW X (toT (.and a b) c x)<|tTt X i (Own.wF P n)<|.and a b:=by show PW X (.BoolOp .And (toT a c (kid x 0)::YA (Zo b) (toT b c<|rest (Zo b) x)) x.pos) _;rw[e];exact C3 (eT a X c _ g h.1.1).1 h3
  exact⟨h4.pt,fun _=>h4⟩
 |.or a b,X,c,x,g,h=>by
  have h:(okT a c (kid x 0)&&okT b c (rest (Zt b) x)&&(!Zt b||(rest (Zt b) x).pos==x.pos))=true:=h;rw[bAq,bAq]at h;have h2:=eT b X c _ g h.1.2;obtain⟨y,ys,e,h3⟩:=Ur h.2 h2.1 h2.2;have h4:PW X (toT (.or a b) c x)<|tTt X i (Own.wF P n)<|.or a b:=by show PW X (.BoolOp .Or (toT a c (kid x 0)::YA (Zt b) (toT b c<|rest (Zt b) x)) x.pos) _;rw[e];exact Fm (eT a X c _ g h.1.1).1 h3
  exact⟨h4.pt,fun _=>h4⟩
theorem eI:∀(m:Own.It) (X:Cx) (c:Md) (x tg:Expr),Gd X i P n c->∀(b:Bool),(b=true->∃es k p,tg=.Tuple es k p)->(b=false->∃y p,tg=.Name y p)->okI m c x b=true->PI X tg (toI m c x) (tIt X i (Own.wF P n) m)/\∀y,ī (toI m c x) X.env y=pure y
 |.seq e,X,c,x,tg,g,b,t1,t2,h=>⟨DZ g.K<|eE e X c _ g h,Ot _ _ _ _⟩
 |.chars e,X,c,x,tg,g,b,t1,t2,h=>by have h:(okE e c x && !b)=true:=h;rw[bAq,Ċ]at h;obtain⟨y,p,rfl⟩:=t2 h.2;exact⟨OA<|eE e X c _ g h.1,Ot _ _ _ _⟩
 |.range a,X,c,x,tg,g,b,t1,t2,h=>by have h:(c.gl "range" && okE a c (kid x 1))=true:=h;rw[bAq]at h;exact⟨NU (g.gl h.1) (g.bl _<|by simp[blts]) (eE a X c _ g h.2)<|ZA ..,fun _=>rfl⟩
 |.range2 a d,X,c,x,tg,g,b,t1,t2,h=>nomatch h
 |.zip a d,X,c,x,tg,g,b,t1,t2,h=>nomatch h
 |.enum e,X,c,x,tg,g,b,t1,t2,h=>nomatch h
 |.items e,X,c,x,tg,g,b,t1,t2,h=>nomatch h
 |.rev e,_,_,_,_,_,_,_,_,h=>nomatch h
end
theorem MY(g:Gd X i P n c){m:Nat}{t:Own.Tt}(h:okE (.comp ç m p it t e) c x=true) :
  PE X (toX (.comp ç m p it t e) c x) (tE X i (Own.wF P n)<|.comp ç m p it t e)/\
   ∀(y:Str) (py Ϯ:Pos) (j:Nat),X.N[j]?=some y->L2.Loc X.env.scope y->(X.fn y=true\/X.env.scope.names.lookup y=some .local)->Ŏ (toX (.comp ç m p it t e) c x) (some<|.Name y py) Ϯ.line X.env=pure true->PS X (.Assign [.Name y py] (toX (.comp ç m p it t e) c x) Ϯ) (tSt X i (Own.wF P n)<|.set (.one j)<|.comp ç m p it t e):=by
 have h:((KZ m p&&(Z6<|kid x 1).length==m)&&c.cm&&ZU (scp x) c.sc c.N (Z6<|kid x 1) ç&&(scp x).kind == .function&&okI it c (kid x 2) (!Zw p)&&okE e (c.blk (scp x) (Z6<|kid x 1) ç) (kid x 0)&&(MF t||okT t (c.blk (scp x) (Z6<|kid x 1) ç) (kid x 3)))=true:=h;rw[bAq,bAq,bAq,bAq,bAq,bAq]at h;obtain⟨⟨⟨⟨⟨⟨h1,h2⟩,h3⟩,h4⟩,h5⟩,h6⟩,h7⟩:=h;rw[bAq,beq_iff_eq]at h1;obtain⟨h1,rfl⟩:=h1;have hk:=eq_of_beq h4;obtain⟨t1,t2⟩:=Kw (c:=c.blk (scp x) (Z6<|kid x 1) ç) p<|kid x 1;obtain⟨a1,a2⟩:=eI it X c (kid x 2) (toP p (c.blk (scp x) (Z6<|kid x 1) ç)<|kid x 1) g (!Zw p) t1 t2 h5;exact Wm g h2 h3 hk h1 a1 a2 (g.pt h2 h3 hk h1 _)
  (fun cl C s H ex xe E xw=>pe0 xw<|eE e _ _ _ (g.blk h3 hk cl C s H ex xe) h6) (fun cl C s H ex xe E xw=>FP xw fun z=>(eT t _ _ _ (g.blk h3 hk cl C s H ex xe)<|by rw[z]at h7;exact h7).1)
noncomputable def dS:Ě:=.Pass ⟨0,0,0,0⟩
noncomputable def stE:Ě->List Expr
 |.Assign ts v _=>v::ts
 |.AugAssign t _ v _=>[v,t]
 |.For t it _ _ _=>[t,it]
 |.While t _ _ _=>[t]
 |.If t _ _ _=>[t]
 |.Expr e _=>[e]
 |.Return (some e) _=>[e]
 |.Raise (some e) _ _=>[e]
 |_=>[]
noncomputable def ke(s:Ě)(j:Nat):Expr:=(stE s).getD j dE
noncomputable def stB:Ě->List Ě
 |.For _ _ b _ _=>b
 |.While _ b _ _=>b
 |.If _ b _ _=>b
 |.Try b _ _ _ _=>b
 |_=>[]
noncomputable def stO:Ě->List Ě
 |.If _ _ b _=>b
 |_=>[]
noncomputable def stH:Ě->List ExceptHandler
 |.Try _ hs _ _ _=>hs
 |_=>[]
noncomputable def dH:ExceptHandler:=.ExceptHandler none none [] ⟨0,0,0,0⟩
noncomputable def hT:ExceptHandler->Expr
 |.ExceptHandler (some e) _ _ _=>e
 |_=>dE
noncomputable def hB:ExceptHandler->List Ě
 |.ExceptHandler _ _ b _=>b
noncomputable def hP:ExceptHandler->Pos
 |.ExceptHandler _ _ _ p=>p
noncomputable def Md.hot(c:Md):Md:={c with cm:=false}
noncomputable def DP(t:Option Nat)(e:Own.E)(c:Md)(y:Ě):Ě:=match t with
 |none=>.Expr (toX e c<|ke y 0) y.pos
 |some j=>.Assign [.Name (c.nmOf j) (ke y 1).pos] (toX e c<|ke y 0) y.pos
mutual
noncomputable def toS:Own.S->Md->Ě->Ě
 |.set p a,c,s=>.Assign [toP p c<|ke s 1] (toX a c<|ke s 0) s.pos
 |.setIdx a j e,c,s=>.Assign [.Subscript (toX a c<|kid (ke s 1) 0) (toX j c<|kid (ke s 1) 1) (ke s 1).pos] (toX e c<|ke s 0) s.pos
 |.setPair a i b j e,c,s=>.Assign [.Tuple [.Subscript (toX a c<|kid (kid (ke s 1) 0) 0) (toX i c<|kid (kid (ke s 1) 0) 1) (kid (ke s 1) 0).pos,.Subscript (toX b c<|kid (kid (ke s 1) 1) 0) (toX j c<|kid (kid (ke s 1) 1) 1) (kid (ke s 1) 1).pos] (num<|ke s 1) (ke s 1).pos] (toX e c<|ke s 0) s.pos
 |.setFld o f e,c,s=>.Assign [.Attribute (toX o c<|kid (ke s 1) 0) (Str.ofString f) (ke s 1).pos] (toX e c<|ke s 0) s.pos
 |.augVar j op e,c,s=>.AugAssign (.Name (c.nmOf j) (ke s 1).pos) (UN op) (toX e c<|ke s 0) s.pos
 |.augFld o f op n,c,s=>.AugAssign (.Attribute (toX o c<|kid (ke s 1) 0) (Str.ofString f) (ke s 1).pos) (UN op) (.Constant (.int n) (num<|ke s 0) (ke s 0).pos) s.pos
 |.augIdx a j op n,c,s=>.AugAssign (.Subscript (toX a c<|kid (ke s 1) 0) (toX j c<|kid (ke s 1) 1) (ke s 1).pos) (UN op) (.Constant (.int n) (num<|ke s 0) (ke s 0).pos) s.pos
 |.expr e,c,s=>.Expr (toX e c<|ke s 0) s.pos
 |.ret e,c,s=>.Return (some<|toX e c<|ke s 0) s.pos
 |.retN,_,s=>.Return none s.pos
 |.ite t a b,c,s=>.If (toT t c<|ke s 0) (toSs a c<|stB s) (toSs b c<|stO s) s.pos
 |.whl t b,c,s=>.While (toT t c<|ke s 0) (toSs b c<|stB s) [] s.pos
 |.for p it b,c,s=>.For (toP p c<|ke s 0) (toI it c<|ke s 1) (toSs b c<|stB s) [] s.pos
 |.forI true p e b,c,s=>.For (toP p c<|ke s 0) (toX e c<|ke s 1) (toSs b c<|stB s) [] s.pos
 |.forI false p e b,c,s=>.For (toP p c<|ke s 0) (.Call (.Attribute (toX e c<|kid (kid (ke s 1) 0) 0) "items" (kid (ke s 1) 0).pos) [] [] (ke s 1).pos) (toSs b c<|stB s) [] s.pos
 |.brk,_,s=>.Break s.pos
 |.cnt,_,s=>.Continue s.pos
 |.pass,_,s=>.Pass s.pos
 |.raise C as,c,s=>.Raise (some<|.Call (.Name (Str.ofString C) (kid (ke s 0) 0).pos) (toA as c (sub<|ke s 0).tail) [] (ke s 0).pos) none s.pos
 |.try t e hs,c,s=>.Try [DP t e c<|(stB s).headD dS] (toH hs c<|stH s) [] [] s.pos
 |_,_,s=>s
noncomputable def toH:Own.Hn->Md->List ExceptHandler->List ExceptHandler
 |.nil,_,_=>[]
 |.cons K nm b r,c,xs=>.ExceptHandler (some<|.Name (Str.ofString K) (hT<|xs.headD dH).pos) (nm.map c.nmOf) (toSs b c.hot<|hB<|xs.headD dH) (hP<|xs.headD dH)::toH r c xs.tail
noncomputable def toSs:Own.Ss->Md->List Ě->List Ě
 |.nil,_,_=>[]
 |.cons m ms,c,xs=>toS m c (xs.headD dS)::toSs ms c xs.tail
end
noncomputable def JC(c:Md)(j:Nat):Bool:=decide (j<c.N.length)&&c.loc (c.nmOf j)
noncomputable def okP(p:Own.Pt)(c:Md):Bool:=match p with
 |.one j=>JC c j
 |.many js=>js.all<|JC c
 |.nest j js=>JC c j&&js.all (JC c)
noncomputable def Um:Own.E->Bool
 |.tup _=>true
 |.key _=>true
 |_=>false
noncomputable def K0:Own.E->Bool
 |.comp _ _ _ _ _ _=>true
 |_=>false
noncomputable def swT(c:Md)(tg v:Expr):Bool:=match v,tg with
 |.ListComp _ _ s ë,.Name t p=>(if c.sc.kind.isAnnotationScope then ScopeKind.function else c.sc.kind) == .function&&c.sc.names.lookup t==some .local&&p.line==ë.line && !(s.names.any fun(n,k)=>n==t&&(k == .local||k == .cell))
 |_,_=>false
noncomputable def CZ:Own.E->Md->Expr->Bool
 |.call f as,c,x=>c.gn f&&c.fs.contains f&&decide (Za as≠0)&&okA as c (sub x).tail
 |_,_,_=>false
noncomputable def GN(c:Md)(j:Nat):Bool:=decide (j<c.N.length)&&c.sc.names.lookup (c.nmOf j)==some .local
noncomputable def ER(c:Md):Option Nat->Bool
 |none=>true
 |some j=>GN c j
noncomputable def D5(c:Md):Option Nat->Bool
 |none=>true
 |some j=>JC c j
noncomputable def Om:Own.Ss->Bool
 |.nil=>false
 |_=>true
noncomputable def BJ:Own.Hn->Bool
 |.nil=>true
 |_=>false
mutual
noncomputable def okS:Own.S->Md->Ě->Bool
 |.set p a,c,s=>okP p c&&okE a c (ke s 0)&&(Zw p || !Um a)&&(Zw p||c.cm)
 |.expr e,c,s=>okE e c (ke s 0) && !K0 e
 |.ret e,c,s=>okE e c<|ke s 0
 |.ite t a b,c,s=>okT t c (ke s 0)&&okSs a c (stB s)&&okSs b c (stO s)
 |.whl t b,c,s=>okT t c (ke s 0)&&okSs b c (stB s)&&c.cm
 |.for p it b,c,s=>okP p c&&okI it c (ke s 1) (!Zw p)&&okSs b c (stB s)&&c.cm
 |.never,_,_=>true
 |.raise C as,c,s=>c.gn C&&c.xs.contains C&&c.cm&&decide (Za as≠0)&&decide (Za as<=1000)&&okA as c (sub<|ke s 0).tail
 |.try t e hs,c,s=>CZ e c (ke ((stB s).headD dS) 0)&&D5 c t&&okH hs c (stH s)&&c.cm
 |_,_,_=>false
noncomputable def okH:Own.Hn->Md->List ExceptHandler->Bool
 |.nil,_,_=>false
 |.cons K nm b r,c,xs=>(c.xs.contains K||K == "ShutError")&&c.gn K && !c.xs.isEmpty&&ER c nm&&Om b&&okSs b c.hot (hB<|xs.headD dH)&&BJ r
noncomputable def okSs:Own.Ss->Md->List Ě->Bool
 |.nil,_,_=>true
 |.cons m ms,c,xs=>okS m c (xs.headD dS)&&okSs ms c xs.tail
end
structure Gs(X:Cx)(i:Inf)(P:Own.Pg)(n:Nat)(c:Md):Prop extends Gd X i P n c where
 fn:∀x,c.loc x=true->X.fn x=true\/X.env.scope.names.lookup x=some .local
 own:c.cm=true->Ϧ (Ö X.prog X.w) X.A X.env X.xe
 stk:c.cm=true->X.stack=X.env::X.outer
variable {X:Cx}{i:Inf}{P:Own.Pg}{n:Nat}{c:Md}
theorem Gs.nm1(g:Gs X i P n c){j:Nat}(h:JC c j=true):X.N[j]?=some (c.nmOf j)/\L2.Loc X.env.scope (c.nmOf j)/\(X.fn (c.nmOf j)=true\/X.env.scope.names.lookup (c.nmOf j)=some .local):=by unfold JC at h;rw[bAq,decide_eq_true_eq]at h;exact⟨Kk g.N h.1,g.loc h.2,g.fn _ h.2⟩
variable {p:Own.Pt}
theorem FZ(g:Gs X i P n c)(h:okP p c=true):Cc (ON X c) p:=by
 cases p with
 |one j=>exact g.nm1 h
 |many js=>exact fun j hj=>g.nm1<|Ú.mp h j hj
 |nest j js =>have h:(JC c j&&js.all (JC c))=true:=h;rw[bAq]at h;exact⟨g.nm1 h.1,fun k hk=>g.nm1<|Ú.mp h.2 k hk⟩
variable {x:Expr}
theorem BP(g:Gs X i P n c)(a9:c.cm=true)(h:okP p c=true):PG X (toP p c x)<|gPt i p:=BO g.K (by rw[g.N];exact g.nd) (g.calm a9) (FZ g h)
variable {tg:Expr}
theorem MQ{l:Nat}{env:Env}(a:Own.E)(x:Expr)(hs:env.scope=c.sc):Ŏ (toX a c x) (some tg) l env=pure (swT c tg<|toX a c x):=by
 cases a with
 |comp ç m p it t e =>
  cases tg with
  |Name t q =>unfold Ŏ swT Env.blockKind Env.kindOf;rw[hs];rfl
  |_=>rfl
 |_=>rfl
theorem Dr(p:Own.Pt)(a:Own.E)(x y:Expr)(env:Env)(h:(Zw p || !Um a)=true):bc [toP p c x] (toX a c y) env=pure none:=by
 cases p with
 |one j=>cases a<;>rfl
 |many js=>cases a<;>first|rfl|cases h
 |nest j js=>cases a<;>first|rfl|cases h
theorem UQ(p:Own.Pt)(x:Expr)(env:Env):(ē [toP p c x] env).map (·.2)=[Ÿ (toP p c x) env]:=by cases p<;>rfl
theorem Do{a:Own.E}(h:swT c tg (toX a c x)=true):∃ç m p it t e,a=.comp ç m p it t e:=by
 cases a with
 |comp ç m p it t e=>exact⟨_,_,_,_,_,_,rfl⟩
 |_=>cases h
theorem PGet.or{r r':R2}(h:PGet X r)(h':PGet X r'):PGet X fun x y H Q=>r x y H Q\/r' x y H Q:=fun À s σ H o j ov jv Q I ro rj q=>by
 rcases q with q|q
 .exact h À s σ H o j ov jv Q I ro rj q
 .exact h' À s σ H o j ov jv Q I ro rj q
theorem U2{a:Own.E}{t:Option Expr}{l:Nat}{env:Env}(h:(!K0 a)=true):Ŏ (toX a c x) t l env=pure false:=by
 cases a with
 |comp ç m p it tt e=>cases h
 |_=>rfl
theorem Cg(g:Gs X i P n c){p:Own.Pt}(hc:(Zw p||c.cm)=true)(h:okP p c=true):PG X (toP p c x)<|gPt i p:=by
 by_cases a9:c.cm=true
 .exact BP g a9 h
 .cases p with
  |one j =>obtain⟨h1,h2,h3⟩:=g.nm1 h;exact Kn (by rw[g.N];exact g.nd) h1 h2 h3
  |many js=>exact absurd hc a9
  |nest j js=>exact absurd hc a9
theorem FJ(Y:Cx)(H:Hp):XW Y<|XK1 i H fun _ _=>False:=fun _ _ _ _ _ _ _ _ _ _ ⟨_,_,_,_,_,_,_,z⟩=>z.elim
theorem C4(Y:Cx)(H:Hp):XW Y<|XKS i H fun _ _ _=>False:=fun _ _ _ _ _ _ _ _ _ _ ⟨_,_,_,_,_,_,_,_,z⟩=>z.elim
variable {Φ:Own.Fs} {e:Expr} {es:List Expr} {ms:Own.Es} {ë:Pos}
theorem Ua{C:String}{a:Ä}{k:Nat}{np ŀ:Pos}(hc:X.calm=true)(O:PyProof.Rows.OwnCls (Str.ofString C) a [.type "ValueError",.type "Exception",.type "BaseException",.type "object"] "ValueError.__new__" X.mg X.base)(hx:i.xc C a)(hg:Gl X<|Str.ofString C)
  (ha:PA X (e::es)<|tAr X i Φ ms k) (hk:k<=1000) (Ο:(Str.ofString C==("__debug__" : Str))=false) (he:Ð (e::es) X.env=(false,eval e X.env)::Ð es X.env) (hpl:(Ħ ŀ<|Ð es X.env).any (·.1)=false) :
  PS X (.Raise (some<|.Call (.Name (Str.ofString C) np) (e::es) [] ŀ) none ë) (tSt X i Φ<|.raise C ms):=by
 intro À s σ H D I ⟨env,G,N,R,B,Cq,Xe,p,w,_⟩;rw[Own.q_s_raise]at w;refine Ul (E:=XK1 i H<|Xe env) p.pre.xo hc O hg ha Ο he hpl À s σ H D I ⟨env,G,_,Xe env,p.pre,w,fun vs G1 H1 xs k1 g1 r1 hl w1=>⟨?_,C,G1,a,rfl,hx,k1,g1,w1⟩⟩;rw[hl];unfold Ô;omega
noncomputable def tB0(i:Inf)(Φ:Own.Fs)(m:Own.Ss):TS:=fun D σ H=>∃env G N R B C,REn i.K H env σ/\RH i G H/\Own.wSs Φ m env G N R B C (fun _ _ _=>False)/\EOk i H D N R B C
theorem Gf{Y:Cx}{sts:List Ě}{m:Own.Ss}(h:PSs Y sts<|tBl Y i Φ m):PSs Y sts (tB0 i Φ m) :=
 h.imp fun D σ H ⟨env,G,N,R,B,C,e,g,w,q⟩=>⟨env,G,N,R,B,C,_,⟨e,g,C4 Y H⟩,w,q⟩
variable {H:Hp} {σ:St}
theorem REn.unset{K:PySem.W.Frag}{env:Own.Env}(r:REn K H env σ)(j:Nat):REn K H (env.set j none)<|σ.set j none:=⟨by simp[r.len],fun i u e=>by
  by_cases hij:j=i
  . subst hij
    rw[ů]at e
    cases z:env[j]? with
    |none=>rw[z]at e;cases e
    |some w=>rw[z]at e;cases e
  . rw[Ĝ hij]at e
    obtain⟨y,h1,h2⟩:=r.get i u e
    exact⟨y,by rw[Ĝ hij];exact h1,h2⟩⟩
def tCx(i:Inf)(Φ:Own.Fs)(m:Own.E):St->Hp->VK->XK->Prop:=fun σ H Q E=>∃env G Qm Em,REn i.K H env σ/\RH i G H/\Own.wC Φ m env G Qm Em/\Cn i H Q Qm/\∀cls d H',XK1 i H Em cls d H'->E cls d H'
theorem Av{f:String}{k:Nat}{p:Pos}(hK:X.K=i.K)(D:Dfo X.prog X.w X.mg X.base i P n f)(hr:Room (2*n) X.A)(hg:Gl X<|Str.ofString f)(Ο:(Str.ofString f==("__debug__" : Str))=false)
  (ha:PA X.nox (e::es)<|tAr X.nox i (Own.wF P n) ms k) (he:Ð (e::es) X.env=(false,eval e X.env)::Ð es X.env) (hpl:(Ħ ë<|Ð es X.env).any (·.1)=false) :
  PCx X (.Call (.Name (Str.ofString f) p) (e::es) [] ë) (tCx i (Own.wF P n)<|.call f ms):=by
 obtain⟨fa,fd,ps,F,hm,hk,hb⟩:=D;rw[<-hK]at F hk hb;intro À s σ H Q E I ⟨env,G,Qm,Em,en,g,w,cn,x⟩;refine Az ⟨fa,fd,F,hm,hk,hb⟩ hr (Ø _) hg ha Ο he hpl À s σ H Q E I ?_;exact⟨env,G,_,fun _ _=>False,⟨en,g,FJ X.nox H⟩,w,fun vs G1 H1 xs k1 g1 r1 hl w1=>⟨vs,G1,Qm,Em,r1,g1,w1,cn.go k1,fun cls d H' h=>x cls d H'<|h.go k1⟩⟩
theorem O5{m:Own.E}{t:Option Nat}{hs:Own.Hn}{D:Ends}{E:XK}{env:Own.Env}{G:Own.Hs}{N:Own.NQ}{R:Own.Q1}{B C:Own.NQ}{nx:V->St}(en:REn i.K H env σ)(g:RH i G H)
  (w:Own.wC Φ m env G (fun v h1=>N (Own.tryEnv env t v) h1) fun c g=>Own.wH Φ hs c env g N R B C) (q:EOk i H D N R B C)
  (hn:∀v x H',Keep H H'->RV i.K H' v x->REn i.K H' (Own.tryEnv env t v) (nx x))
  (hx:∀Cn ad G' H',i.xc Cn ad->Keep H H'->RH i G' H'->Own.wH Φ hs Cn env G' N R B C->E (.ref ad) none H') (hd:∀cls d H',E cls none H'->E cls d H') :
  tCx i Φ m σ H (fun v H'=>D.nx (nx v) H') E:=by
 refine⟨env,G,_,_,en,g,w,fun v G' H' x k g' r h=>q.nx _ _ G' H' k g' (hn v x H' k r) h,fun cls d H' ⟨Cn,G',ad,e,hc,k,g',h⟩=>?_⟩;subst e;exact hd _ d H'<|hx Cn ad G' H' hc k g' h
variable {m:Own.E} {Da:Ä} {b:Own.Ss} {body:Ě} {b0:Ě} {ζ:List Ě} {tp:Pos} {aO:Pos} {nx:St->V->St}
theorem DI{t:Option Nat}{K:String}(ņ:X.stack=X.env::X.outer)(hK:X.K=i.K)(hb:PB X [body] fun D E σ H=>tCx i Φ m σ H (fun v H'=>D.nx (nx σ v) H') E)
  (hn:∀H env σ v x,REn i.K H env σ->RV i.K H v x->REn i.K H (Own.tryEnv env t v) (nx σ x)) (hg:Gl X<|Str.ofString K) (hm:X.mg (Str.ofString K)=some (.ref Da)) (hx:∀C a,i.xc C a->Own.excSub C K=true->PySem.W.exmOne i.K (.ref a) (.ref Da)=some true)
  (hs:∀a,PSs (X.caught a) (b0::ζ)<|tB0 i Φ b) (Ο:(Str.ofString K==("__debug__" : Str))=false) :
  PS X (.Try [body] [.ExceptHandler (some<|.Name (Str.ofString K) tp) none (b0::ζ) aO] [] [] ë) (tSt X i Φ<|.try t m (.cons K none b .nil)) :=
 (AF ņ hb hg hm hs Ο).imp fun D σ H ⟨env,G,N,R,B,C,Xe,p,w,q⟩=>by
  rw[Own.q_s_try]at w;refine O5 (nx:=nx σ) p.en p.hp w q (fun v x H' k r=>hn H' env σ v x (p.en.keep k) r) (fun Cn ad G' H' hc k g' h=>?_) fun cls d H' z=>z;rw[Own.q_h_none]at h;by_cases e:Own.excSub Cn K=true
  .rw[if_pos e]at h;rw[hK];refine⟨hx Cn ad hc e,fun a ha=>⟨env,G',N,R,B,C,?_,Mv g' ha,h,(q.go k).go<|Keep.new ha⟩⟩;exact(p.en.keep k).keep<|Keep.new ha
  .rw[if_neg e,Own.q_h_nil]at h;exact h.elim
theorem Bo{t:Option Nat}{K:String}{j:Nat}{y:Str}(ņ:X.stack=X.env::X.outer)(hN:X.N.Nodup)(hj:X.N[j]?=some y)(hy:X.env.scope.names.lookup y=some .local)(hK:X.K=i.K)(hb:PB X [body] fun D E σ H=>tCx i Φ m σ H (fun v H'=>D.nx (nx σ v) H') E)
  (hn:∀H env σ v x,REn i.K H env σ->RV i.K H v x->REn i.K H (Own.tryEnv env t v) (nx σ x)) (hg:Gl X<|Str.ofString K) (hm:X.mg (Str.ofString K)=some (.ref Da)) (hx:∀C a,i.xc C a->Own.excSub C K=true->PySem.W.exmOne i.K (.ref a) (.ref Da)=some true)
  (hs:∀a,PSs (X.caught a) (b0::ζ)<|tB0 i Φ b) (Ο:(Str.ofString K==("__debug__" : Str))=false) :
  PS X (.Try [body] [.ExceptHandler (some<|.Name (Str.ofString K) tp) (some y) (b0::ζ) aO] [] [] ë) (tSt X i Φ<|.try t m (.cons K (some j) b .nil)) :=
 (DB ņ hN hj hy hb hg hm hs Ο).imp fun D σ H ⟨env,G,N,R,B,C,Xe,p,w,q⟩=>by
  rw[Own.q_s_try]at w;refine O5 (nx:=nx σ) p.en p.hp w q (fun v x H' k r=>hn H' env σ v x (p.en.keep k) r) (fun Cn ad G' H' hc k g' h=>?_) fun cls d H' z=>z;rw[Own.q_h_some]at h;by_cases e:Own.excSub Cn K=true
  .rw[if_pos e]at h;rw[hK];refine⟨hx Cn ad hc e,fun a ha=>?_⟩;have k2:Keep H'<|upd H' a<|xcO a<|.ref ad:=Keep.new ha;refine⟨_,_,_,R,_,_,((p.en.keep k).keep k2).set (.ref a) j,g'.put (o:=.exc Cn) k2 ⟨ad,hc,upd_same⟩,h a<|g'.free ha,⟨?_,?_,?_,?_⟩⟩
   .exact fun env' Ĺ G2 H2 k3 g3 r3 n3=>q.nx _ _ G2 H2 ((k.trans k2).trans k3) g3 (r3.unset j) n3
   .exact fun v G2 H2 x k3 g3 r3 n3=>q.rt v G2 H2 x ((k.trans k2).trans k3) g3 r3 n3
   .exact fun env' Ĺ G2 H2 k3 g3 r3 n3=>q.bk _ _ G2 H2 ((k.trans k2).trans k3) g3 (r3.unset j) n3
   .exact fun env' Ĺ G2 H2 k3 g3 r3 n3=>q.ct _ _ G2 H2 ((k.trans k2).trans k3) g3 (r3.unset j) n3
  .rw[if_neg e,Own.q_h_nil]at h;exact h.elim
theorem Gd.nox(g:Gd X i P n c):Gd X.nox i P n c :=
 ⟨g.K,g.N,g.sc,g.nd,g.un,g.calm,g.room,g.bl,g.dfs,g.cst,⟨g.kl.A,g.kl.F,g.kl.mkc,g.kl.mth⟩,fun h=>⟨(g.xl h).xc,(g.xl h).rs,(g.xl h).kn⟩,g.top⟩
theorem Gs.hot(g:Gs X i P n c)(a:Ä):Gs (X.caught a) i P n c.hot :=
 {K:=g.K,N:=g.N,sc:=g.sc,nd:=g.nd,un:=g.un,calm:=fun z=>(by cases z),room:=fun z=>(by cases z),bl:=g.bl,dfs:=g.dfs,cst:=g.cst,kl:=⟨g.kl.A,g.kl.F,g.kl.mkc,g.kl.mth⟩,xl:=fun h=>⟨(g.xl h).xc,(g.xl h).rs,(g.xl h).kn⟩,top:=g.top,fn:=g.fn,own:=fun z=>(by cases z),stk:=fun z=>(by cases z)}
theorem DU(g:Gs X i P n c){t:Option Nat}{y:Ě}(a9:c.cm=true)(h:CZ m c (ke y 0)=true)(ht:D5 c t=true) :
  ∃nx:St->V->St,PB X [DP t m c y] (fun D E σ H=>tCx i (Own.wF P n) m σ H (fun v H'=>D.nx (nx σ v) H') E)/\∀H env σ v x,REn i.K H env σ->RV i.K H v x->REn i.K H (Own.tryEnv env t v) (nx σ x):=by
 cases m with
 |call f as =>
  have h:((c.gl (Str.ofString f)&&nm (Str.ofString f))&&c.fs.contains f&&decide (Za as≠0)&&okA as c (sub<|ke y 0).tail)=true:=h;rw[bAq,bAq,bAq,bAq,decide_eq_true_eq]at h;obtain⟨⟨⟨⟨h1,h2⟩,h3⟩,h4⟩,h5⟩:=h;cases as with
  |nil=>exact absurd rfl h4
  |cons a as =>
   have hc:PCx X (toX (.call f<|.cons a as) c<|ke y 0)<|tCx i (Own.wF P n)<|.call f<|.cons a as:=Av g.K (g.dfs _ h3) (g.rm a9) (g.gl h1) (Xl h2).1 (eA (.cons a as) X.nox c _ g.toGd.nox h5) (ZA ..)<|ZW ..;cases t with
   |none=>exact⟨fun σ _=>σ,AZ hc rfl,fun H env σ v x e _=>e⟩
   |some j =>obtain⟨q1,q2,q3⟩:=g.nm1 ht;exact⟨fun σ v=>σ.set j<|some v,Ek (by rw[g.N];exact g.nd) q1 q2 hc rfl q3,fun H env σ v x e r=>e.set r j⟩
 |_=>cases h
theorem U7(h:Om b=true)(c:Md)(xs:List Ě):∃y ys,toSs b c xs=y::ys:=by
 cases b with
 |nil=>cases h
 |cons s ss=>exact⟨_,_,rfl⟩
mutual
theorem sS:∀(m:Own.S) (X:Cx) (c:Md) (s:Ě),Gs X i P n c->okS m c s=true->PS X (toS m c s) (tSt X i (Own.wF P n) m)
 |.set p a,X,c,s,g,h=>by
  have h:(okP p c&&okE a c (ke s 0)&&(Zw p || !Um a)&&(Zw p||c.cm))=true:=h;rw[bAq,bAq,bAq]at h;obtain⟨⟨⟨h1,h2⟩,h3⟩,h4⟩:=h;by_cases hsw:swT c (toP p c<|ke s 1) (toX a c<|ke s 0)=true
  .obtain⟨ç,k,pt,it,tt,e,rfl⟩:=Do hsw;cases p with
   |one j =>obtain⟨q1,q2,q3⟩:=g.nm1 h1;exact(MY g.toGd h2).2 _ _ _ j q1 q2 q3 (by rw[<-hsw];exact MQ (c:=c) (.comp ç k pt it tt e) (ke s 0) g.sc)
   |many js=>cases hsw
   |nest j js=>cases hsw
  .have hp:PG X (toP p c<|ke s 1)<|gPt i p:=Cg g h4 h1;exact CJ (eE a X c _ g.toGd h2) hp (by rw[bb,MQ a _ g.sc,ũ.mpr hsw]) (Dr p a _ _ _ h3)<|UQ p _ _
 |.setIdx a j e,X,c,s,g,h=>nomatch h
 |.setPair a j b k e,X,c,s,g,h=>nomatch h
 |.setFld o f e,X,c,s,g,h=>nomatch h
 |.augVar j op e,X,c,s,g,h=>nomatch h
 |.augFld o f op k,X,c,s,g,h=>nomatch h
 |.expr e,X,c,s,g,h=>by have h:(okE e c (ke s 0) && !K0 e)=true:=h;rw[bAq]at h;exact AL (eE e X c _ g.toGd h.1)<|U2 h.2
 |.ret e,X,c,s,g,h=>El<|eE e X c _ g.toGd h
 |.retN,X,c,s,g,h=>nomatch h
 |.ite t a b,X,c,s,g,h=>by have h:(okT t c (ke s 0)&&okSs a c (stB s)&&okSs b c (stO s))=true:=h;rw[bAq,bAq]at h;exact DD (eT t X c _ g.toGd h.1.1).1 (sSs a X c _ g h.1.2)<|sSs b X c _ g h.2
 |.whl t b,X,c,s,g,h=>by have h:(okT t c (ke s 0)&&okSs b c (stB s)&&c.cm)=true:=h;rw[bAq,bAq]at h;exact Ce (g.own h.2) (eT t X c _ g.toGd h.1.1).1<|sSs b X c _ g h.1.2
 |.for p it b,X,c,s,g,h=>by have h:(okP p c&&okI it c (ke s 1) (!Zw p)&&okSs b c (stB s)&&c.cm)=true:=h;rw[bAq,bAq,bAq]at h;obtain⟨⟨⟨h1,h2⟩,h3⟩,h4⟩:=h;obtain⟨t1,t2⟩:=Kw (c:=c) p<|ke s 0;obtain⟨a1,a2⟩:=eI it X c (ke s 1) (toP p c<|ke s 0) g.toGd (!Zw p) t1 t2 h2;exact CU (g.own h4) (g.calm h4) a1 (BP g h4 h1) (sSs b X c _ g h3) a2
 |.forI true p e b,X,c,s,g,h=>nomatch h
 |.forI false p e b,X,c,s,g,h=>nomatch h
 |.never,X,c,s,g,h=>Up
 |.brk,X,c,s,g,h=>nomatch h
 |.cnt,X,c,s,g,h=>nomatch h
 |.pass,X,c,s,g,h=>nomatch h
 |.raise C as,X,c,s,g,h=>by
  have h:((c.gl (Str.ofString C)&&nm (Str.ofString C))&&c.xs.contains C&&c.cm&&decide (Za as≠0)&&decide (Za as<=1000)&&okA as c (sub<|ke s 0).tail)=true:=h;rw[bAq,bAq,bAq,bAq,bAq,bAq,decide_eq_true_eq,decide_eq_true_eq]at h;obtain⟨⟨⟨⟨⟨⟨h1,h2⟩,h3⟩,h4⟩,h5⟩,h6⟩,h7⟩:=h;obtain⟨a,hx,O⟩:=(g.xl<|by intro z;rw[z]at h3;cases h3).rs C h3;have ha:=eA as X c _ g.toGd h7;cases as with
  |nil=>exact absurd rfl h5
  |cons b as=>exact Ua (g.calm h4) O hx (g.gl h1) ha (by rw[YY];exact h6) (Xl h2).1 (ZA ..)<|ZW ..
 |.try t e (.cons K nm b .nil),X,c,s,g,h=>by
  have h:(CZ e c (ke ((stB s).headD dS) 0)&&D5 c t&&((c.xs.contains K||K == "ShutError")&&(c.gl (Str.ofString K)&&Snd.nm (Str.ofString K)) && !c.xs.isEmpty&&ER c nm&&Om b&&okSs b c.hot (hB<|(stH s).headD dH)&&true)&&c.cm)=true:=h;simp only[bAq]at h;obtain⟨⟨⟨h1,h2⟩,⟨⟨⟨⟨⟨h3,h4,h5⟩,h6⟩,h7⟩,h8⟩,h9⟩,_⟩,h10⟩:=h;obtain⟨nx,hb,hn⟩:=DU g h10 h1 h2;obtain⟨Da,hm,hk⟩:=(g.xl<|by intro z;rw[z]at h6;cases h6).kn K h3;obtain⟨y0,ys,e0⟩:=U7 h8 c.hot<|hB<|(stH s).headD dH;have hs:∀a,PSs (X.caught a) (y0::ys) (tB0 i (Own.wF P n) b):=fun a=>by rw[<-e0];exact Gf<|sSs b (X.caught a) c.hot _ (g.hot a) h9
  show PS X (.Try [DP t e c<|(stB s).headD dS] [.ExceptHandler (some<|.Name (Str.ofString K) (hT<|(stH s).headD dH).pos) (nm.map c.nmOf) (toSs b c.hot<|hB<|(stH s).headD dH)<|hP<|(stH s).headD dH] [] [] s.pos) _;rw[e0];cases nm with
  |none=>exact DI (g.stk h10) g.K hb hn (g.gl h4) hm (fun C a z=>(hk C a z).2) hs (Xl h5).1
  |some j =>have h7:(decide (j<c.N.length)&&c.sc.names.lookup (c.nmOf j)==some .local)=true:=h7;rw[bAq,decide_eq_true_eq]at h7;exact Bo (g.stk h10) (by rw[g.N];exact g.nd) (Kk g.N h7.1) (by rw[g.sc];exact eq_of_beq h7.2) g.K hb hn (g.gl h4) hm (fun C a z=>(hk C a z).2) hs (Xl h5).1
 |.try t e (.cons K nm b<|.cons _ _ _ _),X,c,s,g,h=>by simp only[okS,okH,BJ,Bool.and_false,Ϟ]at h;cases h
 |.try t e .nil,X,c,s,g,h=>by simp only[okS,okH,Bool.and_false,Ϟ]at h;cases h
 |.augIdx a j op k,X,c,s,g,h=>nomatch h
theorem sSs:∀(ms:Own.Ss) (X:Cx) (c:Md) (xs:List Ě),Gs X i P n c->okSs ms c xs=true->PSs X (toSs ms c xs) (tBl X i (Own.wF P n) ms)
 |.nil,X,c,xs,g,h=>Eu
 |.cons m ms,X,c,xs,g,h=>by have h:(okS m c (xs.headD dS)&&okSs ms c xs.tail)=true:=h;rw[bAq]at h;exact AQ (sS m X c _ g h.1)<|sSs ms X c _ g h.2
end
noncomputable def KY(N ps:List Str)(sc:ŕ):Bool :=
 sc.kind == .function && !sc.isCoroutine && !sc.isGenerator&&decide N.Nodup&&(N.take ps.length==ps)&&ps.all (fun x=>sc.names.lookup x==some .local||sc.names.lookup x==some .cell)&&sc.names.all fun y=>y.2 != .free
variable {ps:List Str}
theorem F1{N:List Str}{sc:ŕ}(h:KY N ps sc=true):FnScope N ps sc:=by
 simp only[KY,bAq,Ċ,decide_eq_true_eq,Ú]at h;obtain⟨⟨⟨⟨⟨⟨h1,h2⟩,h3⟩,h4⟩,h5⟩,h6⟩,h7⟩:=h;refine⟨eq_of_beq h1,h2,h3,h4,eq_of_beq h5,fun x hx=>?_,fun y hy=>?_⟩
 .simpa using h6 x hx
 .simpa using h7 y hy
structure Ds where
 st:Ě
 N:List Str
 ps:List Str
 d:Own.Fn
structure Mt where
 C:String
 m:String
 qual:String
 x:Ds
structure Tb where
 fs:List<|String×Ds
 ms:List Mt
 cs:List<|String×Own.Val
 cl:List String
 fl:List String
 xs:List String
noncomputable def Tb.md(T:Tb)(x:Ds):Md:={N:=x.N,sc:=Zi x.st,cs:=T.cs,fs:=T.fs.map (·.1),cm:=true,cl:=T.cl,ms:=T.ms.map fun y=>(y.C,y.m),fl:=T.fl,xs:=T.xs}
noncomputable def Ds.test(T:Tb)(x:Ds):Bool :=
 KY x.N x.ps (Zi x.st)&&okSs x.d.body (T.md x) (Zy x.st)&&x.ps.length==x.d.ar&&x.N.length==x.d.sz&&decide (x.d.ar<=x.d.sz)
structure Ds.Ok(T:Tb)(x:Ds):Prop where
 ok:x.test T=true
 eq:toSs x.d.body (T.md x) (Zy x.st)=Zy x.st
variable {pr:à}{wd:þ}{mg:Str->Option Á}{base:ô}{i:Inf}{P:Own.Pg}{T:Tb}
def Dst(K:PySem.W.Frag)(mg:Str->Option Á)(f:String)(x:Ds):Prop:=∃fa fd qual,Fun K (Str.ofString f) qual x.st fa fd/\mg (Str.ofString f)=some (.ref fa)/\Binds K fd x.ps []
structure Mst(i:Inf)(mg:Str->Option Á)(y:Mt)(a fa:Ä):Prop where
 cl:mg (Str.ofString y.C)=some (.ref a)
 fn:∃fd,Fun i.K (Str.ofString y.m) (Str.ofString y.qual) y.x.st fa fd/\Binds i.K fd y.x.ps []
 at_:Meth i.K a (Str.ofString y.m) fa
variable {f:String} {fa:Ä} {fd:ĭ}
theorem MC:FnOk pr wd i.K mg base (CX1 pr wd) 0 fa fd ps<|spF i P 0 f:=by
 refine⟨fun vs H Q E h=>?_,fun A outer s H args us vs Q E hr he hb hv h=>?_⟩
 .obtain⟨_,_,_,_,_,_,w,_⟩:=h;rw[Own.wF_eq]at w;exact w.elim
 .obtain⟨_,_,_,_,_,_,w,_⟩:=h;rw[Own.wF_eq]at w;exact w.elim
variable {n:Nat}
theorem NR{vs:List Own.Val}{h:Own.Hs}{Q:Own.Q1}{E:Own.XQ}(q:Own.wF P (n+1) f vs h Q E):∃d,P f=some d/\vs.length=d.ar/\Own.wSs (Own.wF P n) d.body (d.env vs) h (fun _ g=>Q .non g) Q (fun _ _=>False) (fun _ _=>False) fun _ c g=>E c g:=by rw[Own.wF_eq]at q;obtain⟨d,e,q1,q2⟩:=go_some q;exact⟨d,e,q1,by rw[Own.wF_eq];exact q2⟩
structure Modu(mg:Str->Option Á)(base:ô)(i:Inf)(T:Tb):Prop where
 bl:∀x∈blts,mg x=none
 cst:∀x v,T.cs.lookup x=some v->∃u y,mg (Str.ofString x)=some u/\RelV y u/\∀H,RV i.K H v y
 A:ClsA i
 F:∀f,T.fl.contains f=true->FldOk i f
 cl:∀C a,i.cl C a->mg (Str.ofString C)=some (.ref a)
 mkc:∀C,T.cl.contains C=true->∃a y f,i.ins C=true/\i.cl C a/\Mk i.K a f/\y∈T.ms/\y.C=C/\y.m = "__init__"/\Mst i mg y a f
 fs:∀f x,(f,x)∈T.fs->Dst i.K mg f x
 ms:∀y,y∈T.ms->∃a f,Mst i mg y a f/\Cls i.K a
 xc:T.xs≠[]->∀C a,i.xc C a->XCls i.K a/\PySem.W.kitOne i.K (.ref a) (.type "ValueError")=some true
 rs:T.xs≠[]->∀C,T.xs.contains C=true->∃a,i.xc C a/\PyProof.Rows.OwnCls (Str.ofString C) a [.type "ValueError",.type "Exception",.type "BaseException",.type "object"] "ValueError.__new__" mg base
 kn:T.xs≠[]->∀T',(T.xs.contains T'||T' == "ShutError")=true->∃D,mg (Str.ofString T')=some (.ref D)/\∀C a,i.xc C a->PySem.W.kitOne i.K (.ref a) (.ref D)=some (Own.excSub C T')/\(Own.excSub C T'=true->PySem.W.exmOne i.K (.ref a) (.ref D)=some true)
structure Held(pr:à)(wd:þ)(mg:Str->Option Á)(base:ô)(i:Inf)(P:Own.Pg)(T:Tb)(n:Nat):Prop where
 fs:∀f x,(f,x)∈T.fs->Dfo pr wd mg base i P n f
 ms:∀y a f,y∈T.ms->Mst i mg y a f->Dfm pr wd mg base i P n (y.C ++ "." ++ y.m) f
theorem fn_succ{x:Ds}{nm qual:Str}(M:Modu mg base i T)(hn:Held pr wd mg base i P T n)(F:Fun i.K nm qual x.st fa fd)(hP:P f=some x.d)(ht:x.Ok T):FnOk pr wd i.K mg base (CX1 pr wd) (2*(n+1)) fa fd x.ps<|spF i P (n+1) f:=by
 obtain⟨ht,heq⟩:=ht;simp only[Ds.test,bAq,decide_eq_true_eq]at ht;obtain⟨⟨⟨⟨h1,h2⟩,h3⟩,h4⟩,h5⟩:=ht;have h3:=eq_of_beq h3;have h4:=eq_of_beq h4;have S:=F1 h1;refine F.ok1 (k:=2*n+1) S (fun vs H Q E h=>?_) fun ŷ A outer s H vs Q E hr bF hw=>?_
 .obtain⟨args,G,Qm,Em,r,g,w,_⟩:=h;obtain⟨d,e,q,_⟩:=NR w;rw[hP]at e;cases e;rw[<-r.length,q,h3]
 .obtain⟨args,G,Qm,Em,r,g,w,cn,ex⟩:=bF;obtain⟨d,e,q,w⟩:=NR w;rw[hP]at e;cases e;have gd:Gs (Wj (CX1 pr wd) pr wd i.K mg base x.N qual (Zi x.st) fa ŷ A outer s H E) i P n (T.md x) :=
   { K:=rfl,N:=rfl,sc:=rfl,nd:=S.nd,un:=(by have:=hr.un;show(A.deeper _).units+200<Ğ;omega),calm:=fun _=>rfl,room:=fun _=>hr,bl:=M.bl
     dfs:=fun g hg=>(by
       obtain⟨p,hy,e⟩:=ã.mp<|ï.mp hg
       subst e
       exact hn.fs p.1 p.2 hy)
     cst:=M.cst
     kl:=⟨M.A,M.F,fun C hC=>(by
       obtain⟨a,y,f,q1,q2,q3,q4,rfl,q6,q7⟩:=M.mkc C hC
       refine⟨a,f,q1,q2,q3,M.cl _ _ q2,?_⟩
       have:=hn.ms y a f q4 q7
       rw[q6]at this
       rwa [show y.C ++ ".__init__" = y.C ++ "." ++ "__init__" by rw[String.append_assoc];rfl]),fun C m hC=>(by
       obtain⟨y,hy,e⟩:=ã.mp<|ï.mp hC
       cases e
       obtain⟨a,f,q1,q2⟩:=M.ms y hy
       refine⟨a,f,fun b hb=>?_,q2,q1.at_,hn.ms y a f hy q1⟩
       have e1:=M.cl _ _ hb
       rw[q1.cl]at e1
       cases e1
       rfl)⟩
     xl:=fun h=>⟨M.xc h,M.rs h,M.kn h⟩
     top:=⟨_,_,rfl,rfl⟩
     fn:=fun _ _=>.inl rfl
     own:=fun _=>PassesOwn.leaving
     stk:=fun _=>rfl }
  have hb:=sSs x.d.body _ _ _ gd h2;rw[heq]at hb;refine⟨_,hb,?_⟩;refine⟨x.d.env args,G,(fun _ g=>Qm .non g),Qm,(fun _ _=>False),(fun _ _=>False),(fun _ c g=>Em c g),?_,w,?_⟩
  .refine⟨?_,g,?_⟩
   .have:=REn.start (n:=x.d.sz - x.d.ar) r;unfold L2.start;have e1:x.N.length - vs.length=x.d.sz - x.d.ar:=by rw[h4,<-r.length,q]
    rw[e1];exact this
   .intro À σ H0 s0 H' a cls s' I fl hx;obtain⟨e,c,G',ad,q1,q2,q3,q4,q5⟩:=hx;exact hw À σ H0 s0 H' a cls s' I fl<|ex _ _ _ ⟨c,G',ad,q1,q2,q3,q4,q5⟩
  .refine⟨?_,?_,?_,?_⟩
   .intro env' Ĺ G' H' k g' e w';exact cn .non G' H' .non k g' .non w'
   .intro v G' H' y k g' rv w';exact cn v G' H' y k g' rv w'
   .intro _ _ _ _ _ _ _ z;exact z.elim
   .intro _ _ _ _ _ _ _ z;exact z.elim
theorem held_all(M:Modu mg base i T)(hP:∀f x,(f,x)∈T.fs->P f=some x.d)(hPm:∀y,y∈T.ms->P (y.C ++ "." ++ y.m)=some y.x.d)(ht:∀f x,(f,x)∈T.fs->x.Ok T)(htm:∀y,y∈T.ms->y.x.Ok T):∀n,Held pr wd mg base i P T n:=by
 intro n;induction n with
 |zero =>
  refine⟨fun f x h=>?_,fun y a f hy S=>?_⟩
  .obtain⟨fa,fd,qual,F,hm,hb⟩:=M.fs f x h;exact⟨fa,fd,x.ps,MC,hm,F.kp,hb⟩
  .obtain⟨fd,F,hb⟩:=S.fn;exact⟨fd,y.x.ps,MC,hb⟩
 |succ n ih =>
  refine⟨fun f x h=>?_,fun y a f hy S=>?_⟩
  .obtain⟨fa,fd,qual,F,hm,hb⟩:=M.fs f x h;exact⟨fa,fd,x.ps,fn_succ M ih F (hP f x h)<|ht f x h,hm,F.kp,hb⟩
  .obtain⟨fd,F,hb⟩:=S.fn;exact⟨fd,y.x.ps,fn_succ M ih F (hPm y hy)<|htm y hy,hb⟩
end Snd
namespace Hd
open PySem PySem.W PyProof.Rows
noncomputable def Xr(st:SharedT->Thread->Option (SharedT×Thread))(ok th:Thread->Bool):Nat->SharedT->Thread->Option SharedT
 |0,_,_=>none
 |n+1,s,t=>match th t with
  |true=>some s
  |false=>match ok t with
   |false=>none
   |true=>match st s t with
    |some (s',t')=>Xr st ok th n s' t'
    |none=>none
theorem X7{tb:String->Option Builtin}{p:Program}{w:World}{n₀:Nat}{ann:Option Value}:∀{n:Nat}{s s':SharedT}{t:Thread},Xr (stepT (denote tb) p w) (stepOk n₀ ann) through n s t=some s'->topRun tb p w n₀ ann n s.abs t=some s'.abs
 |0,_,_,_,h=>by cases h
 |n+1,s,s',t,h=>by
  unfold Xr at h;unfold topRun;cases ht:through t with
  |true=>rw[ht]at h;cases h;rfl
  |false =>
   rw[ht]at h;dsimp only at h ⊢;cases hk:stepOk n₀ ann t with
   |false=>rw[hk]at h;cases h
   |true =>
    rw[hk]at h;dsimp only at h ⊢;cases hs:stepT (denote tb) p w s t with
    |none=>rw[hs]at h;cases h
    |some r =>obtain⟨s2,t2⟩:=r;rw[hs]at h;rw[stepT_spec hs];exact X7 h
noncomputable def X5(P:Params):BT :=
 .node (boot_o_0 P) (.node (boot_o_1 P) (.node (boot_o_3 P) (.node (boot_o_7 P) .nil .nil) .nil)<|.node (boot_o_5 P) (.node (boot_o_9 P) .nil .nil) .nil)
  (.node (boot_o_2 P) (.node (boot_o_4 P) (.node (boot_o_8 P) .nil .nil) .nil)<|.node (boot_o_6 P) (.node (boot_o_10 P) .nil .nil) .nil)
theorem OJ(P:Params):absHeap (X5 P) 11 {}=boot_heap P:=by kernel_rfl
theorem Nb(P:Params):((boot_heap P).isNs mainGlobals&&(Array.mk []:Array GenState).size==0,(boot_heap P).objs.size,(boot_heap P).nsMap mainGlobals "__annotations__")=(true,11,some<|.ref 6):=by
 rw[show @Heap.nsMap=_ from Fast.te8920871248978507458]
 kernel_rfl
noncomputable def BZ:=Fast.tw10156331382660048174
noncomputable def Mh:=Fast.tw11892475500146522536
noncomputable def OL:=Fast.tw14364793385576792824
noncomputable def okY:=Fast.tw6613529449190102663
noncomputable def B6:=Fast.tw4187177175401517315
noncomputable def OO:=Fast.tw5923862056798008813
variable {α:Type}
noncomputable def MI(p q:Program)(loose:List Str)(Xt:Shared->Bool)(Yf:Shared->α)(h0:Heap)(s:SharedT) :=
 ((staticsOk (OO p.main.body) h0 s.abs.heap&&namesBound p s.abs.heap&&gensDone s.abs&&laidKept h0 s.abs.heap),B6 q loose (OO p.main.body) Xt true s.abs,Yf s.abs)
theorem left_of{p q:Program}{loose:List Str}{Xt:Shared->Bool}{Yf:Shared->α}{Ya:World->α}{N:Nat}(e:opening p=plainProg p.main.scope.names)(hN:Nat.ble 600 N=true)(f:∀s,fenceModules? p s=some s)
  (one:∀(w:World) (os:OsState),(Xr (BZ (Mh OL) p w) (okY 11<|some<|.ref 6) through N ⟨X5 w.params,11,{},Array.mk [],boot_drawn,boot_toks,os⟩<|topStub p).map (MI p q loose Xt Yf<|boot_heap w.params)=some (true,openGood q loose,Ya w)) :
  LeftO p q loose Xt Yf Ya N:=by
 intro w;obtain⟨⟨h,gs,d,k,os⟩,e1,e2⟩:=ā.mp<|boot_open e hN f w;obtain⟨rfl,rfl,rfl,rfl⟩:h=boot_heap w.params/\gs=Array.mk []/\d=boot_drawn/\k=boot_toks:=by simpa using e2
 obtain⟨s,r,z⟩:=ā.mp<|one w os;obtain⟨z1,z2,z3⟩:_/\_/\_:=by simpa only[ő]using Nb w.params
 obtain⟨l1,l2,l3⟩:_/\_/\_:=by simpa only[MI,ő]using z
 unfold BZ Mh OL okY at r;rw[<-Fast.te10156331382660048174,<-Fast.te11892475500146522536,<-Fast.te14364793385576792824,<-Fast.te6613529449190102663]at r;unfold OO at l1 l2;unfold B6 at l2;rw[<-Fast.te5923862056798008813]at l1 l2;rw[<-Fast.te4187177175401517315]at l2;have r2:=X7 r;have ea:(SharedT.mk (X5 w.params) 11 {} (Array.mk []) boot_drawn boot_toks os).abs=⟨boot_heap w.params,Array.mk [],boot_drawn,boot_toks,os⟩:=by show Shared.mk (absHeap _ _ _) _ _ _ _=_;rw[OJ]
 rw[ea]at r2;have t:topFrom treeTable p w N ⟨boot_heap w.params,Array.mk [],boot_drawn,boot_toks,os⟩=some s.abs:=by unfold topFrom;dsimp only;rw[z1,z2,z3,r2];show(match staticsOk (importedModules p.main.body) (boot_heap w.params) s.abs.heap&&namesBound p s.abs.heap&&gensDone s.abs&&laidKept (boot_heap w.params) s.abs.heap with|true=>_|false=>_)=_;rw[l1]
 unfold openEnds;rw[e1];show(topFrom treeTable p w N _).map _=_;rw[t];exact congrArg some<|Prod.ext l2 l3
end Hd
namespace Hd
open PySem PySem.W PyProof.Rows L2
noncomputable def WK:Nat->List Obj->Frag
 |_,[]=>[]
 |i,o::r=>match o with
  |⟨_,_,.freed,_⟩=>WK (i+1) r
  |o=>(i,o)::WK (i+1) r
noncomputable def Zs(g:Heap):Frag:=WK 0 g.objs.toList
theorem Ka:∀(l:List Obj) (i a:Nat) (o:Obj),(WK i l).lookup a=some o->i<=a/\l[a - i]?=some o/\(match some o with|some ⟨_,_,.freed,_⟩=>none|o=>o)=some o
 |[],_,_,_,h=>by cases h
 |x::r,i,a,o,h=>by
  have rec1:(WK (i+1) r).lookup a=some o->i<=a/\(x::r)[a - i]?=some o/\(match some o with|some ⟨_,_,.freed,_⟩=>none|o=>o)=some o:=fun q=>by obtain⟨h1,h2,h3⟩:=Ka r (i+1) a o q;refine⟨by omega,?_,h3⟩;rw[show a - i=(a - (i+1))+1 by omega,List.getElem?_cons_succ];exact h2
  unfold WK at h;split at h
  .exact rec1 h
  .rename_i c Ψ;rw[Ć]at h;split at h
   .rename_i e;cases h;have e:=eq_of_beq e;subst e;refine⟨Ø _,by rw[Nat.sub_self];rfl,?_⟩;split
    .rename_i d1 d2 d3 d4;cases d4;exact(Ψ _ _ _ rfl).elim
    .rfl
   .exact rec1 h
theorem Kf{g:Heap}{a:Addr}{o:Obj}(h:(Zs g).lookup a=some o):g.get? a=some o:=by obtain⟨_,h2,h3⟩:=Ka _ _ _ _ h;unfold Heap.get?;rw[Nat.sub_zero,ag]at h2;rw[h2];exact h3
noncomputable def OI(K:Frag)(nm:Str):Option<|FuncData×Bool×Bool:=match nsIn K mainGlobals nm with
 |some (some<|.ref f)=>match K.lookup f with
  |some ⟨_,_,.func fd,_⟩=>some ({fd with kwdefaults:=.none,doc:=.none,pyModule:=.none,annotations:=none,code:=.none,closureTuple:=.none},codeIn K fd.code fd.qualname,keepIn K<|.ref f)
  |_=>none
 |_=>none
noncomputable def O7(nm:Str)(st:Stmt):Option<|FuncData×Bool×Bool:=some (fnOf nm nm (Z9 st) (Zy st) (Zi st) .none .none .none .none none .none .none,true,true)
theorem C9{K:Frag}{nm:Str}{st:Stmt}(e:OI K nm=O7 nm st):∃fa fd,Fun K nm nm st fa fd/\nsIn K mainGlobals nm=some (some<|.ref fa):=by
 unfold OI at e;split at e
 .rename_i f hf;split at e
  .rename_i oc od fd sl hl;simp only[O7,ğ,ő]at e;obtain⟨e1,e2,e3⟩:=e;obtain⟨n1,n2,n3,n4,n5,n6,n7,n8,n9,n10,n11,n12,n13,n14,n15⟩:=fd;simp only[fnOf,FuncData.mk.injEq]at e1;obtain⟨rfl,rfl,rfl,rfl,rfl,rfl,rfl,rfl,-,-,-,-,-,-,rfl⟩:=e1;exact⟨f,_,N5 hl e2 e3,hf⟩
  .cases e
 .cases e
noncomputable def BK(K:Frag)(y:Str):Bool:=match nsIn K mainGlobals y with
 |some none=>true
 |_=>false
theorem AK{l:OpenLaw}{n k:Nat}{q:Program}{loose:List Str}{XP:(Str->Option Value)->Heap->Prop}{YP:World->Heap->Prop}{d:DefRec}{CX:World->CXT}{x:Str}
  (hn:l.most=some n) (hn2:n<=sizeLine) (hdf:d.params.defaults=[]) (hr:Room k callerA)
  (F:∀(w:World) (mg:Str->Option Value) (fa:Addr) (h:Heap),YP w h->h.Ns mainGlobals mg->mg d.name=some (.ref fa)->∃(K:Frag) (sp:Sp),K.In h/\
    (∃fd:FuncData,(∀(s:Shared) (u:Value),BindsTo s fd ⟨[u],[]⟩ [(x,u)])/\∀base:Heap,K.In base->base.Ns mainGlobals mg->FnOk l.prog w K mg base (CX w) k fa fd [x] sp)/\
    ∀(H:Hp) (a:Addr) (ns:List Int),ns.length<=n->CW H->SqL K H a (ns.map V.int)->sp [.ref a] H (fun v _=>v=.bl true) fun _ _ _=>False)
  (hCX:∀(w:World) (H:Hp) (s:Shared) (e:Value) (s':Shared),CX w [] H s (fun _ _ _=>False) e s'->False) :
  WalkO q loose XP YP l.row.toRowW d [] (fun f vs=>PySem.call f vs):=by
 refine Att.attach_call hn hdf fun w s₀ ě mg mb fa o pm cd doc a vs ns G Y ho hd aV hmg bq hints ģ hg=>?_;obtain⟨K,sp,KX,⟨fd,hb,hF⟩,bF⟩:=F w mg fa _ Y G.T.g hmg;exact UO KX G.T.g G.T.b G.T.builtins G.T.nolimit hg bq hints (Ç ģ hn2) hr hF hb (fun H hO hS=>bF H a ns ģ hO hS) fun H e s'=>hCX w H ě e s'
noncomputable def AW(f:Value->Own.Val->Bool):List Value->List Own.Val->Bool
 |[],[]=>true
 |u::us,x::xs=>f u x&&AW f us xs
 |_,_=>false
noncomputable def B2(K:Frag):Value->Option (List Value)
 |.ref a=>match K.lookup a with
  |some ⟨.type n,_,.seq us _,_⟩=>if n == "tuple" && decide (us.size<=sizeLine)then some us.toList else none
  |_=>none
 |_=>none
noncomputable def U8(K:Frag):Nat->Value->Own.Val->Bool
 |0,_,_=>false
 |n+1,u,v=>match v with
  |.non=>(match u with|.none=>true|_=>false)
  |.bl b=>(match u with|.bool a=>a==b|_=>false)
  |.int j=>(match u with|.int i _=>i==j|_=>false)
  |.str t=>(match u with|.str s _=>Fast.sEq s (Str.ofString t)|_=>false)
  |.tup xs=>(match B2 K u with|some us=>AW (U8 K n) us xs|none=>false)
  |_=>false
theorem On{K:Frag}{f:Value->Own.Val->Bool}(hf:∀u v,f u v=true->∃z,RelV z u/\∀H,Snd.RV K H v z):∀(us:List Value) (xs:List Own.Val),AW f us xs=true->∃zs,Vals zs us/\∀H,Snd.RVs K H xs zs
 |[],[],_=>⟨[],.nil,fun _=>.nil⟩
 |u::us,x::xs,h=>by rw[AW,bAq]at h;obtain⟨z,r,q⟩:=hf u x h.1;obtain⟨zs,rs,qs⟩:=On hf us xs h.2;exact⟨z::zs,.cons r rs,fun H=>.cons (q H)<|qs H⟩
 |[],_::_,h=>by cases h
 |_::_,[],h=>by cases h
theorem Uw{K:Frag}:∀(n:Nat) (u:Value) (v:Own.Val),U8 K n u v=true->∃z,RelV z u/\∀H,Snd.RV K H v z
 |0,_,_,h=>by cases h
 |n+1,u,v,h=>by
  unfold U8 at h;cases v with
  |non =>
   dsimp only at h;split at h
   .exact⟨.non,rfl,fun _=>.non⟩
   .cases h
  |bl b =>
   dsimp only at h;split at h
   .cases eq_of_beq h;exact⟨.bl b,rfl,fun _=>.bl b⟩
   .cases h
  |int j =>
   dsimp only at h;split at h
   .cases eq_of_beq h;exact⟨.int j,⟨_,rfl⟩,fun _=>.int j⟩
   .cases h
  |str t =>
   dsimp only at h;split at h
   .cases Fast.sEq_iff.mp h;exact⟨.str<|Str.ofString t,⟨_,rfl⟩,fun _=>.str t⟩
   .cases h
  |tup xs =>
   dsimp only at h;split at h
   .rename_i us hu;obtain⟨zs,rs,qs⟩:=On (fun u v=>Uw n u v) us xs h;unfold B2 at hu;split at hu
    .rename_i a;split at hu
     .rename_i nm od ò k sl hl;split at hu
      .rename_i hc;rw[bAq,decide_eq_true_eq]at hc;cases eq_of_beq hc.1;cases hu;exact⟨.ref a,rfl,fun H=>.tup (.inr ⟨_,ò,k,hl,rfl,rfl,hc.2,rs⟩)<|qs H⟩
      .cases hu
     .cases hu
    .cases hu
   .cases h
  |ref a=>cases h
  |scr ns=>cases h
  |key i j=>cases h
noncomputable def Uy(K:Frag)(p:String×Own.Val):Bool:=match nsIn K mainGlobals (Str.ofString p.1)with
 |some (some u)=>U8 K 4 u p.2
 |_=>false
theorem XI{α β:Type}[BEq α][LawfulBEq α]{a:α}{b:β}:∀{l:List (α×β)},l.lookup a=some b->(a,b)∈l
 |[],h=>by cases h
 |(x,y)::r,h=>by
  rw[Ć]at h;split at h
  .rename_i e;cases h;cases eq_of_beq e;exact .head _
  .exact .tail _<|XI h
theorem CS{K:Frag}{mg:Str->Option Value}{h:Heap}{x:Str}{C:Addr}{bmB:List Value}{id:String}(X:K.In h)(hm:mg x=some (.ref C))(q:excIn K C bmB id=true):PyProof.Rows.OwnCls x C bmB id mg h:=by
 constructor
 .exact hm
 have z:=q;unfold excIn at z;split at z
 next dd cd sl ho =>
  split at z
  next C1 bm k0 k1 k2 k3 n k5 em es =>
   rw[bAq,bAq,bAq,bAq,bAq]at z;obtain⟨⟨⟨⟨⟨z1,z2⟩,z3⟩,z4⟩,z5⟩,z6⟩:=z;have z1:=eq_of_beq z1;have z2:=eq_of_beq z2;have z6:=eq_of_beq z6;subst z1 z2;have z3b:cd.hasDel=false:=by
    cases e:cd.hasDel with
    |false=>rfl
    |true=>rw[e]at z3;cases z3
   have es':sl=#[k0,k1,k2,k3,some<|.builtin n,k5]:=Χ.mp es;have nN:=nsMap_none_of_in X z5 z6;have nI:=Heap.Ns.of_isNs<|isNs_of_in X z5;have tI:=tail_of_in X z4;cases cd;dsimp only at em z3b nN nI;subst em z3b es';exact⟨bm,_,_,_,_,_,_,_,_,_,dd,k0,k1,k2,k3,k5,_,X _ _ ho,nI,nN,tI⟩
  next=>cases z
 next=>cases z
noncomputable def CO(K:Frag)(f:Addr):Option<|FuncData×Bool×Bool:=match K.lookup f with
 |some ⟨_,_,.func fd,_⟩=>some ({fd with kwdefaults:=.none,doc:=.none,pyModule:=.none,annotations:=none,code:=.none,closureTuple:=.none},codeIn K fd.code fd.qualname,keepIn K<|.ref f)
 |_=>none
noncomputable def KO(nm qual:Str)(st:Stmt):Option<|FuncData×Bool×Bool:=some (fnOf nm qual (Z9 st) (Zy st) (Zi st) .none .none .none .none none .none .none,true,true)
theorem De{K:Frag}{nm qual:Str}{st:Stmt}{f:Addr}(e:CO K f=KO nm qual st):∃fd,Fun K nm qual st f fd:=by
 unfold CO at e;split at e
 .rename_i oc od fd sl hl;simp only[KO,ğ,ő]at e;obtain⟨e1,e2,e3⟩:=e;obtain⟨n1,n2,n3,n4,n5,n6,n7,n8,n9,n10,n11,n12,n13,n14,n15⟩:=fd;simp only[fnOf,FuncData.mk.injEq]at e1;obtain⟨rfl,rfl,rfl,rfl,rfl,rfl,rfl,rfl,-,-,-,-,-,-,rfl⟩:=e1;exact⟨_,N5 hl e2 e3⟩
 .cases e
noncomputable def XY(K:Frag)(C:String):Option Addr:=match nsIn K mainGlobals (Str.ofString C)with
 |some (some<|.ref a)=>some a
 |_=>none
variable {C:String} {a:Addr}
theorem Xs{K:Frag}(h:XY K C=some a):nsIn K mainGlobals (Str.ofString C)=some (some<|.ref a):=by
 unfold XY at h;split at h
 .cases h;assumption
 .cases h
structure CV where
 pg:Bool
 hd:Bool
 po:Bool
 sa:Option<|Option Value
noncomputable def Bj(K:Frag)(a:Addr):CV:=⟨plainGet K a Str.empty,hasDictIn K a,plainOver K a,findIn K (.ref a) "__setattr__"⟩
noncomputable def Mx:CV:=⟨true,true,true,some<|some<|.builtin "object.__setattr__"⟩
theorem N7{K:Frag}(h:Bj K a=Mx):Cls K a:=by simp only[Bj,Mx,CV.mk.injEq]at h;exact⟨h.1,h.2.1,h.2.2.1,h.2.2.2⟩
structure MV where
 fn:Option<|FuncData×Bool×Bool
 isf:Bool
 cv:CV
noncomputable def Ub(K:Frag)(y:Snd.Mt):Option MV:=match XY K y.C with
 |some a=>match findIn K (.ref a) (Str.ofString y.m)with
  |some (some<|.ref f)=>some ⟨CO K f,isFn K<|.ref f,Bj K a⟩
  |_=>none
 |none=>none
noncomputable def OZ(y:Snd.Mt):Option MV:=some ⟨KO (Str.ofString y.m) (Str.ofString y.qual) y.x.st,true,Mx⟩
theorem Fq{K:Frag}{y:Snd.Mt}(e:Ub K y=OZ y):∃a f fd,nsIn K mainGlobals (Str.ofString y.C)=some (some<|.ref a)/\Fun K (Str.ofString y.m) (Str.ofString y.qual) y.x.st f fd/\Meth K a (Str.ofString y.m) f/\Cls K a:=by
 unfold Ub at e;split at e
 .rename_i a ha;split at e
  .rename_i f hf;simp only[OZ,ğ,MV.mk.injEq]at e;obtain⟨e1,e2,e3⟩:=e;obtain⟨fd,F⟩:=De e1;exact⟨a,f,fd,Xs ha,F,⟨hf,e2,F.kp⟩,N7 e3⟩
  .cases e
 .cases e
structure QV where
 mks:Bool
 kp:Bool
 cv:CV
 fl:List<|Option<|Option Value
 ic:Option (Option Value)×Option (Option Value)×Option Bool×Option Bool
noncomputable def OF(K:Frag)(fl:List String)(C:String):Option QV:=match XY K C with
 |some a=>some ⟨makesIn K a,keepIn K<|.ref a,Bj K a,fl.map fun f=>findIn K (.ref a)<|Str.ofString f,(findIn K (.ref a) "__class__",specialIn K (.builtin "object.__class__") "__get__",takesIn K<|.builtin "object.__class__",mroIn K a<|.type "object")⟩
 |none=>none
noncomputable def Ox(fl:List String):Option QV:=some ⟨true,true,Mx,fl.map fun _=>some none,(some<|some<|.builtin "object.__class__",some<|some<|.builtin "getset_descriptor.__get__",some true,some true)⟩
theorem BD{K:Frag}{fl:List String}(e:OF K fl C=Ox fl):∃a,nsIn K mainGlobals (Str.ofString C)=some (some<|.ref a)/\makesIn K a=true/\keepIn K (.ref a)=true/\Cls K a/\(∀f∈fl,KJ K a<|Str.ofString f)/\Snd.IC K a:=by
 unfold OF at e;split at e
 .rename_i a ha;simp only[Ox,ğ,QV.mk.injEq,ő]at e;obtain⟨e1,e2,e3,e4,e5,e6,e7,e8⟩:=e;exact⟨a,Xs ha,e1,e2,N7 e3,fun f hf=>Đ.mp e4 f hf,⟨e5,e6,e7,e8⟩⟩
 .cases e
structure XV where
 ex:Bool
 f1:Option<|Option Value
 f2:Option<|Option Value
 f3:Option<|Option Value
 m1:Option Bool
 m2:Option Bool
 ci:Bool
 ve:Option Bool
 ks:List<|Option<|Option Bool×Option Bool
noncomputable def UC(K:Frag)(xs:List String)(C:String):Option XV:=match XY K C with
 |some a=>some ⟨excIn K a [.type "ValueError",.type "Exception",.type "BaseException",.type "object"] "ValueError.__new__",findIn K (.ref a) "__getattribute__",findIn K (.ref a) "__getattr__",findIn K (.ref a) "__class__",mroIn K a<|.type "object",mroIn K a<|.type "BaseException",(clsIn K a).isSome,kitOne K (.ref a)<|.type "ValueError",("ShutError" :: xs).map fun T=>(XY K T).map fun D=>(kitOne K (.ref a)<|.ref D,exmOne K (.ref a)<|.ref D)⟩
 |none=>none
noncomputable def UK(xs:List String)(C:String):Option XV:=some ⟨true,some<|some<|.builtin "BaseException.__getattribute__",some none,some<|some<|.builtin "object.__class__",some true,some true,true,some true,("ShutError" :: xs).map fun T=>some (some<|Own.excSub C T,some<|Own.excSub C T)⟩
theorem UD{K:Frag}{xs:List String}(e:UC K xs C=UK xs C):∃a,nsIn K mainGlobals (Str.ofString C)=some (some<|.ref a)/\excIn K a [.type "ValueError",.type "Exception",.type "BaseException",.type "object"] "ValueError.__new__" = true/\XCls K a/\kitOne K (.ref a) (.type "ValueError")=some true/\
  ∀T∈"ShutError" :: xs,∃D,nsIn K mainGlobals (Str.ofString T)=some (some<|.ref D)/\kitOne K (.ref a) (.ref D)=some (Own.excSub C T)/\exmOne K (.ref a) (.ref D)=some (Own.excSub C T):=by
 unfold UC at e;split at e
 .rename_i a ha;simp only[UK,ğ,XV.mk.injEq]at e;obtain⟨e1,e2,e3,e4,e5,e6,e7,e8,e9⟩:=e;refine⟨a,Xs ha,e1,⟨e2,e3,e4,e5,e6,e7⟩,e8,fun T hT=>?_⟩;have:=Đ.mp e9 T hT;cases z:XY K T with
  |none=>rw[z]at this;cases this
  |some D =>rw[z]at this;simp only[Ń,ğ,ő]at this;exact⟨D,Xs z,this.1,this.2⟩
 .cases e
structure View where
 fs:List<|Option<|FuncData×Bool×Bool
 ms:List<|Option MV
 cl:List<|Option QV
 xs:List<|Option XV
 ok:Bool
noncomputable def view(T:Snd.Tb)(K:Frag):View:=⟨T.fs.map fun p=>OI K<|Str.ofString p.1,T.ms.map<|Ub K,T.cl.map<|OF K T.fl,T.xs.map<|UC K T.xs,T.cs.all (Uy K)&&Snd.blts.all (BK K)⟩
noncomputable def due(T:Snd.Tb):View:=⟨T.fs.map fun p=>O7 (Str.ofString p.1) p.2.st,T.ms.map OZ,T.cl.map fun _=>Ox T.fl,T.xs.map<|UK T.xs,true⟩
noncomputable def hook(T:Snd.Tb):Hook where
 α:=View
 obs:=fun s=>view T<|Zs s.heap
 val:=fun _=>due T
 says:=fun _ h=>∃g:Heap,view T (Zs g)=due T/\∀b o,g.get? b=some o->h.get? b=some o
 of:=fun _ s e=>⟨s.heap,e,fun _ _ x=>x⟩
 keeps:=fun _ _ _ ⟨g,e,k⟩ k2=>⟨g,e,fun b o x=>k2 b o<|k b o x⟩
def Bd(nm qual:Str)(x:Snd.Ds):Prop:=∀(kV doc pm:Value) (an:Option Addr) (ŷ ct:Value) (us:List Value),us.length=x.ps.length->bindArgs (fnOf nm qual (Z9 x.st) (Zy x.st) (Zi x.st) .none kV doc pm an ŷ ct) ⟨us,[]⟩=pure (x.ps.zip us)
noncomputable def Ai(T:Snd.Tb):Bool:=T.cl.all fun C=>T.ms.any fun y=>y.C==C&&y.m == "__init__"
theorem law_walk{l:OpenLaw}{q:Program}{loose:List Str}{XP:(Str->Option Value)->Heap->Prop}{d:DefRec}{T:Snd.Tb}{pg:Own.Pg}{k:Nat}{xl:Snd.Ds}
  (hn:l.most=some 63) (hdf:d.params.defaults=[]) (hdn:d.name=Str.ofString "law") (hr:Room (2*(k+1)) callerA) (hlaw:("law",xl)∈T.fs) (hps:xl.ps=[Str.ofString "script"]) (hin:Ai T=true)
  (tab_pg:∀f x,(f,x)∈T.fs->pg f=some x.d) (tab_pm:∀y,y∈T.ms->pg (y.C ++ "." ++ y.m)=some y.x.d) (tab_ok:∀f x,(f,x)∈T.fs->x.Ok T) (tab_om:∀y,y∈T.ms->y.x.Ok T)
  (tab_bd:∀f x,(f,x)∈T.fs->Bd (Str.ofString f) (Str.ofString f) x) (tab_bm:∀y,y∈T.ms->Bd (Str.ofString y.m) (Str.ofString y.qual) y.x)
  (ok:∀ns:List Int,ns.length<=63->Own.wF pg (k+1) "law" [.scr ns] (fun _=>none) (fun v _=>v=.bl true) fun _ _=>False) :
  WalkO q loose XP (hook T).says l.row.toRowW d [] (fun f vs=>PySem.call f vs):=by
 refine AK (n:=63) (k:=2*(k+1)) (x:=Str.ofString "script") (CX:=fun w=>CX1 l.prog w) hn (by decide) hdf hr (fun w mg fa h Y G hmg=>?_) fun _ _ _ _ _ ⟨_,_,_,_,_,z⟩=>z;obtain⟨g,e,keep⟩:=Y;have X:(Zs g).In h:=fun a o z=>keep a o<|Kf z;simp only[view,due,View.mk.injEq]at e;obtain⟨e1,e3,e4,e5,e2⟩:=e;rw[bAq,Ú,Ú]at e2
 let i:Snd.Inf:=⟨Zs g,fun C a=>T.cl.contains C=true/\mg (Str.ofString C)=some (.ref a),fun C=>T.cl.contains C,fun C a=>T.xs.contains C=true/\mg (Str.ofString C)=some (.ref a)⟩
 have hF:∀f x,(f,x)∈T.fs->∃fa fd,Fun (Zs g) (Str.ofString f) (Str.ofString f) x.st fa fd/\mg (Str.ofString f)=some (.ref fa):=fun f x hx=>by obtain⟨fa,fd,F,z⟩:=C9<|Đ.mp e1 (f,x) hx;exact⟨fa,fd,F,mg_of X G z⟩
 have hcl:∀C a,i.cl C a->makesIn (Zs g) a=true/\keepIn (Zs g) (.ref a)=true/\Cls (Zs g) a/\(∀f∈T.fl,KJ (Zs g) a<|Str.ofString f)/\Snd.IC (Zs g) a:=fun C a ⟨hc,hm⟩=>by obtain⟨b,z,q⟩:=BD<|Đ.mp e4 C<|ï.mp hc;have:=mg_of X G z;rw[hm]at this;cases this;exact q
 have hms:∀y,y∈T.ms->∃a f,Snd.Mst i mg y a f/\Cls i.K a:=fun y hy=>by obtain⟨a,f,fd,z,F,M,A⟩:=Fq<|Đ.mp e3 y hy;exact⟨a,f,⟨mg_of X G z,⟨fd,F,F.binds<|tab_bm y hy⟩,M⟩,A⟩
 have hxc:∀C a,i.xc C a->excIn (Zs g) a [.type "ValueError",.type "Exception",.type "BaseException",.type "object"] "ValueError.__new__" = true/\XCls (Zs g) a/\kitOne (Zs g) (.ref a) (.type "ValueError")=some true/\
   ∀T'∈"ShutError" :: T.xs,∃D,nsIn (Zs g) mainGlobals (Str.ofString T')=some (some<|.ref D)/\kitOne (Zs g) (.ref a) (.ref D)=some (Own.excSub C T')/\exmOne (Zs g) (.ref a) (.ref D)=some (Own.excSub C T'):=fun C a ⟨hc,hm⟩=>by
  obtain⟨b,z,q⟩:=UD<|Đ.mp e5 C<|ï.mp hc;have:=mg_of X G z;rw[hm]at this;cases this;exact q
 have mod:∀base:Heap,(Zs g).In base->Snd.Modu mg base i T:=fun base Xb =>
  { bl:=fun y hy=>by
      have:=e2.2 y hy
      unfold BK at this
      split at this
      . rename_i z;exact mg_none_of X G z
      . cases this
    cst:=fun y v hv=>by
      have:=e2.1 _<|XI hv
      unfold Uy at this
      split at this
      . rename_i u z
        obtain⟨x,r,rv⟩:=Uw 4 u v this
        exact⟨u,x,mg_of X G z,r,rv⟩
      . cases this
    A:=⟨fun C a _ z=>(hcl C a z).2.2.1,fun C a z=>(hcl C a z).2.2.2.2,fun C a b z y=>by have:=z.2.symm.trans y.2;cases this;rfl⟩
    F:=fun f hf=>⟨fun C a z=>(hcl C a z).2.2.2.1 f<|ï.mp hf⟩
    cl:=fun C a z=>z.2
    mkc:=fun C hC=>by
      obtain⟨a,z,_⟩:=BD<|Đ.mp e4 C<|ï.mp hC
      have hi:i.cl C a:=⟨hC,mg_of X G z⟩
      obtain⟨y,hy,e⟩:=List.any_eq_true.mp<|Ú.mp hin C<|ï.mp hC
      rw[bAq]at e
      obtain⟨b,f,S,A⟩:=hms y hy
      have h1:=eq_of_beq e.1
      have h2:=eq_of_beq e.2
      have hb:=S.cl
      rw[h1,hi.2]at hb
      cases hb
      refine⟨a,y,f,hC,hi,⟨(hcl C a hi).1,?_,S.at_.fn,(hcl C a hi).2.1⟩,hy,h1,h2,S⟩
      have:=S.at_.at_
      rw[h2]at this
      exact this
    fs:=fun f x hx=>by
      obtain⟨fa,fd,F,m⟩:=hF f x hx
      exact⟨fa,fd,_,F,m,F.binds<|tab_bd f x hx⟩
    ms:=hms
    xc:=fun _ C a z=>⟨(hxc C a z).2.1,(hxc C a z).2.2.1⟩
    rs:=fun _ C hC=>by
      obtain⟨a,z,q1,_⟩:=UD<|Đ.mp e5 C<|ï.mp hC
      exact⟨a,⟨hC,mg_of X G z⟩,CS Xb (mg_of X G z) q1⟩
    kn:=fun Ψ T' hT=>by
      have hT2:T'∈"ShutError" :: T.xs:=by
        rcases (Ż ..).mp hT with z|z
        . exact .tail _<|ï.mp z
        . cases eq_of_beq z;exact .head _
      obtain⟨C0,hC0⟩:=List.exists_mem_of_ne_nil _ Ψ
      obtain⟨a0,z0,_,_,_,q0⟩:=UD<|Đ.mp e5 C0 hC0
      obtain⟨D,zD,_⟩:=q0 T' hT2
      refine⟨D,mg_of X G zD,fun C a z=>?_⟩
      obtain⟨D2,z2,k1,k2⟩:=(hxc C a z).2.2.2 T' hT2
      rw[zD]at z2
      cases z2
      exact⟨k1,fun e=>by rw[k2,e]⟩ }
 obtain⟨fl,fd,F,m⟩:=hF "law" xl hlaw;have ef:=hmg.symm.trans<|hdn▸m;cases ef;refine⟨Zs g,Snd.spF i pg (k+1) "law",X,⟨fd,fun s u=>?_,fun base Xb _=>?_⟩,fun H a ns hl hO hS=>?_⟩
 .have B:=F.ex;obtain⟨oc,od,kV,dc,pm,an,ŷ,ct,sl,rfl,lk,aV⟩:=B;have:=tab_bd "law" xl hlaw kV dc pm an ŷ ct [u] (by rw[hps];rfl);rw[hps]at this;exact .of_eq this
 .have M:=mod base Xb;have:=Snd.fn_succ (i:=i) (pr:=l.prog) (wd:=w) (base:=base) (mg:=mg) (P:=pg) (n:=k) M (Snd.held_all M tab_pg tab_pm tab_ok tab_om k) F (tab_pg "law" xl hlaw)<|tab_ok "law" xl hlaw;rw[hps]at this;exact this
 .refine⟨[.scr ns],fun _=>none,fun v _=>v=.bl true,fun _ _=>False,.cons (.scr ?_) .nil,fun _ _ e=>(by cases e),ok ns hl,?_,?_⟩
  .rcases hS with(h|⟨o,h⟩)|h
   .rcases hO a with z|⟨o,xs,z⟩
    .rw[h]at z;cases z
    .rw[h]at z;cases z
   .exact .inl ⟨o,h⟩
   .exact .inr h
  .intro v G' H' x _ _ r e;subst e;exact r.bl_inv
  .rintro cls d H' ⟨_,_,_,_,_,_,_,z⟩;exact z
end Hd
set_option maxRecDepth 20000
set_option maxHeartbeats 2000000
namespace Own
local macro_rules|`(#[$x])=>`(.cons $x .nil)|`(#[$x,$y,*])=>`(.cons $x #[$y,*])
abbrev B0(P:Pg)(n:Nat)(d:Fn)(e:Env)(h:Hs)(Q:Q1)(X:XQ):Prop:=wSs (wF P n) d.body e h (fun _ g=>Q .non g) Q (fun _ _=>False) (fun _ _=>False) fun _ c g=>X c g
variable {P:Pg}{n:Nat}{a0 a1 a2 a3 a4 a5 a6 a7:Val}{h:Hs}{Q:Q1}{X:XQ}
noncomputable abbrev HZ:Fn:={ar:=2,sz:=2,body:=#[.ite (.not<|.val<|.chain .le .le (.cst<|.int 1) (.bi .len #[.var 0])<|.var 1) #[.ret<|.cst<|.bl false] .nil,.ite (.not<|.val<|.bi .all #[.comp [] 1 (.one 0) (.chars<|.var 0) .yes<|.cmp .isin (.var 0)<|.glob "FIGURES"<|.str "0123456789"]) #[.ret<|.cst<|.bl false] .nil,.ret<|.or (.cmp .eq (.var 0)<|.cst<|.str "0")<|.cmp .ne (.idx (.var 0)<|.cst<|.int 0)<|.cst<|.str "0"]}
noncomputable abbrev H9:Fn:={ar:=1,sz:=2,body:=#[.set (.one 1)<|.split (.var 0) (.cst<|.str "\n"),.ite (.val<|.cmp .ne (.idx (.var 1)<|.neg<|.cst<|.int 1)<|.cst<|.str "") #[.raise "NoLine" #[.cst<|.str "the last line has no line feed behind it"]] .nil,.ret<|.comp [] 1 (.one 0) (.seq<|.slc (.var 1) .none<|.some<|.neg<|.cst<|.int 1) .yes<|.call "read_line" #[.var 0]]}
noncomputable abbrev IZ:Fn:={ar:=1,sz:=2,body:=#[.set (.one 1)<|.split (.var 0) (.cst<|.str " "),.ite (.or (.val<|.cmp .notin (.bi .tuple #[.slc (.var 1) .none<|.some<|.neg<|.cst<|.int 1])<|.glob "DEEDS"<|.tup [(.tup [(.str "tick")]),(.tup [(.str "come")]),(.tup [(.str "lost")]),(.tup [(.str "fall"),(.str "bridge")]),(.tup [(.str "fall"),(.str "tie")]),(.tup [(.str "back"),(.str "bridge")]),(.tup [(.str "back"),(.str "tie")])])<|.not<|.val<|.call "is_numeral" #[.idx (.var 1)<|.neg<|.cst<|.int 1,.glob "MOST_FIGURES"<|.int 6]) #[.raise "NoLine" #[.cst<|.str "no deed is written so"]] .nil,.ret<|.bin .add (.bi .tuple #[.slc (.var 1) .none<|.some<|.neg<|.cst<|.int 1])<|.tup #[.bi .int #[.idx (.var 1)<|.neg<|.cst<|.int 1]]]}
noncomputable abbrev HU:Fn:={ar:=1,sz:=6,body:=#[.set (.one 1)<|.lst .nil,.for (.one 2) (.range<|.bi .min2 #[.bi .len #[.var 0],.cst<|.int 80]) #[.set (.one 3)<|.bi .abs #[.idx (.var 0)<|.var 2],.ite (.val<|.cmp .lt (.var 3)<|.bin .pow (.cst<|.int 10)<|.cst<|.int 18) #[.set (.one 4)<|.bin .mod (.bin .mul (.bin .mod (.bin .add (.bin .add (.var 3)<|.bin .mul (.cst<|.int 7919)<|.var 2)<|.cst<|.int 3)<|.cst<|.int 2147483647)<|.cst<|.int 48271)<|.cst<|.int 2147483647,.set (.one 4)<|.bin .mod (.bin .mul (.var 4)<|.var 4)<|.cst<|.int 2147483629,.expr<|.bm .append (.var 1) #[.bin .mod (.bin .fdiv (.var 4)<|.cst<|.int 16)<|.cst<|.int 1000],.expr<|.bm .append (.var 1) #[.bin .mod (.bin .fdiv (.var 4)<|.cst<|.int 16000)<|.cst<|.int 1000],.set (.one 4)<|.bin .mod (.bin .add (.var 4)<|.bin .mul (.cst<|.int 40692)<|.bin .add (.var 2)<|.cst<|.int 7)<|.cst<|.int 2147483587,.expr<|.bm .append (.var 1) #[.bin .mod (.bin .fdiv (.bin .mod (.bin .mul (.var 4)<|.var 4)<|.cst<|.int 2147483647)<|.cst<|.int 16)<|.cst<|.int 1000]] #[.set (.one 5)<|.cst<|.int 0,.whl (.and (.val<|.cmp .ge (.var 3)<|.cst<|.int 1000)<|.val<|.cmp .lt (.var 5)<|.cst<|.int 60) #[.expr<|.bm .append (.var 1) #[.bin .mod (.var 3)<|.cst<|.int 1000],.set (.one 3)<|.bin .fdiv (.var 3)<|.cst<|.int 1000,.set (.one 5)<|.bin .add (.var 5)<|.cst<|.int 1]]],.ret<|.slc (.var 1) .none<|.some<|.cst<|.int 240]}
noncomputable abbrev HV:Fn:={ar:=2,sz:=2,body:=#[.ite (.val<|.cmp .eq (.var 0)<|.lst .nil) #[.ret<|.cst<|.int 0] .nil,.ret<|.bin .mod (.bm .popAt (.var 0) #[.cst<|.int 0])<|.var 1]}
noncomputable abbrev HR:Fn:={ar:=1,sz:=2,body:=#[.set (.one 1)<|.call "_law_take" #[.var 0,.cst<|.int 4],.ite (.val<|.cmp .eq (.var 1)<|.cst<|.int 0) #[.ret<|.call "_law_take" #[.var 0,.cst<|.int 10]] .nil,.ite (.val<|.cmp .eq (.var 1)<|.cst<|.int 1) #[.ret<|.idx (.lst #[.cst<|.int 999999,.cst<|.int 999,.cst<|.int 100000,.cst<|.int 10,.cst<|.int 99,.cst<|.int 0])<|.call "_law_take" #[.var 0,.cst<|.int 6]] .nil,.ret<|.bin .add (.bin .mul (.call "_law_take" #[.var 0,.cst<|.int 1000])<|.cst<|.int 1000)<|.call "_law_take" #[.var 0,.cst<|.int 1000]]}
noncomputable abbrev HX:Fn:={ar:=1,sz:=3,body:=#[.set (.one 1)<|.call "_law_take" #[.var 0,.cst<|.int 7],.set (.one 2)<|.call "_law_number" #[.var 0],.ite (.val<|.cmp .lt (.var 1)<|.cst<|.int 3) #[.ret<|.tup #[.idx (.lst #[.cst<|.str "tick",.cst<|.str "come",.cst<|.str "lost"])<|.var 1,.var 2]] .nil,.ret<|.tup #[.idx (.lst #[.cst<|.str "fall",.cst<|.str "back"])<|.bin .mod (.var 1)<|.cst<|.int 2,.idx (.lst #[.cst<|.str "bridge",.cst<|.str "tie"])<|.bin .mod (.bin .fdiv (.var 1)<|.cst<|.int 2)<|.cst<|.int 2,.var 2]]}
noncomputable abbrev HQ:Fn:={ar:=1,sz:=3,body:=#[.set (.one 1)<|.cst<|.str "",.for (.one 2) (.seq<|.slc (.var 0) .none<|.some<|.neg<|.cst<|.int 1) #[.set (.one 1)<|.bin .add (.bin .add (.var 1)<|.var 2)<|.cst<|.str " "],.ret<|.bin .add (.var 1)<|.bi .str #[.idx (.var 0)<|.neg<|.cst<|.int 1]]}
noncomputable abbrev HW:Fn:={ar:=0,sz:=1,body:=#[.set (.one 0)<|.lst #[.cst<|.str "",.cst<|.str " ",.cst<|.str "tick",.cst<|.str "tick ",.cst<|.str "tick 3 ",.cst<|.str " tick 3",.cst<|.str "tick  3",.cst<|.str "tick 3 4",.cst<|.str "tick -1",.cst<|.str "tick 03",.cst<|.str "tick 00"],.set (.one 0)<|.bin .add (.var 0)<|.lst #[.cst<|.str "tick 1000000",.cst<|.str "tick +1",.cst<|.str "tick 1_0",.cst<|.str "tick x",.cst<|.str "Tick 3",.cst<|.str "TICK 3",.cst<|.str "ticks 3",.cst<|.str "tick3",.cst<|.str "3 tick"],.set (.one 0)<|.bin .add (.var 0)<|.lst #[.cst<|.str "come",.cst<|.str "come -0",.cst<|.str "come 0 0",.cst<|.str "come bridge 0",.cst<|.str "lost",.cst<|.str "lost tie 0",.cst<|.str "lost 0x1",.cst<|.str "lose 0"],.set (.one 0)<|.bin .add (.var 0)<|.lst #[.cst<|.str "fall",.cst<|.str "fall 3",.cst<|.str "fall bridge",.cst<|.str "fall tie",.cst<|.str "fall bridge 03",.cst<|.str "fall tie -1",.cst<|.str "fall bridges 3"],.set (.one 0)<|.bin .add (.var 0)<|.lst #[.cst<|.str "fall ties 0",.cst<|.str "fall  bridge 3",.cst<|.str "fall bridge  3",.cst<|.str "fall bridge 3 ",.cst<|.str "fall tie 0 0",.cst<|.str "fall Bridge 3"],.set (.one 0)<|.bin .add (.var 0)<|.lst #[.cst<|.str "fall tick 3",.cst<|.str "fall letter 0",.cst<|.str "fall bridge tie 0",.cst<|.str "fall tie 1000000",.cst<|.str "tie fall 0",.cst<|.str "Fall tie 0"],.set (.one 0)<|.bin .add (.var 0)<|.lst #[.cst<|.str "back",.cst<|.str "back 0",.cst<|.str "back bridge",.cst<|.str "back tie x",.cst<|.str "back tie 00",.cst<|.str "backs tie 0",.cst<|.str "back tie 0 1"],.set (.one 0)<|.bin .add (.var 0)<|.lst #[.cst<|.str "fall tie 0 come 0",.cst<|.str "back bridge 3 tick 0"],.set (.one 0)<|.bin .add (.var 0)<|.lst #[.cst<|.str "lost 1.0",.cst<|.str "back 0 tie",.bin .add (.cst<|.str "come ")<|.bin .mul (.cst<|.str "9")<|.cst<|.int 5000,.bin .add (.cst<|.str "fall tie ")<|.bin .mul (.cst<|.str "1")<|.cst<|.int 5000],.ret<|.bin .add (.var 0)<|.lst #[.cst<|.str "quiet 3",.cst<|.str "net 4",.cst<|.str "ways",.cst<|.str "arrive 0",.cst<|.str "tick 0 tick 0",.cst<|.str "tick 3,",.cst<|.str "tick, 3",.cst<|.str "tick 3;come 0"]]}
noncomputable abbrev HN:Fn:={ar:=2,sz:=4,body:=#[.set (.one 2)<|.lst #[.cst<|.str "tick",.cst<|.str "come",.cst<|.str "lost",.cst<|.str "fall bridge",.cst<|.str "fall tie",.cst<|.str "back bridge",.cst<|.str "back tie"],.set (.one 3)<|.lst #[.cst<|.str "00",.cst<|.str "01",.cst<|.str "1000000",.cst<|.str "-1",.cst<|.str "+1",.cst<|.str "1.0",.cst<|.str "x",.cst<|.str "",.bin .mul (.cst<|.str "7")<|.cst<|.int 5000,.cst<|.str "1_0",.cst<|.str "0 0",.cst<|.str " 0",.cst<|.str "0 ",.cst<|.str "000000"],.ret<|.bin .add (.bin .add (.idx (.var 2)<|.bin .mod (.var 0)<|.cst<|.int 7)<|.cst<|.str " ")<|.idx (.var 3)<|.bin .mod (.var 1)<|.cst<|.int 14]}
noncomputable abbrev HP:Fn:={ar:=2,sz:=5,body:=#[.set (.one 3)<|.comp [0] 1 (.one 0) (.range<|.bin .sub (.bi .len #[.var 0])<|.cst<|.int 1) (.val<|.cmp .eq (.idx (.var 1)<|.var 0)<|.cst<|.str "\n")<|.var 0,.set (.one 4)<|.comp [0] 1 (.one 0) (.range<|.bi .len #[.var 0]) (.val<|.cmp .eq (.idx (.var 1)<|.var 0)<|.cst<|.str " ")<|.var 0,.ite (.and (.val<|.cmp .eq (.bin .mod (.var 1)<|.cst<|.int 2)<|.cst<|.int 0)<|.val<|.cmp .ne (.var 3)<|.lst .nil) #[.set (.one 2)<|.idx (.var 3)<|.bin .mod (.bin .fdiv (.var 1)<|.cst<|.int 2)<|.bi .len #[.var 3],.ret<|.bin .add (.bin .add (.slc (.var 0) .none<|.some<|.var 2)<|.cst<|.str " ")<|.slc (.var 0) (.some<|.bin .add (.var 2)<|.cst<|.int 1) .none] .nil,.set (.one 2)<|.idx (.var 4)<|.bin .mod (.bin .fdiv (.var 1)<|.cst<|.int 2)<|.bi .len #[.var 4],.ret<|.bin .add (.bin .add (.slc (.var 0) .none<|.some<|.var 2)<|.cst<|.str "\n")<|.slc (.var 0) (.some<|.bin .add (.var 2)<|.cst<|.int 1) .none]}
noncomputable abbrev HS:Fn:={ar:=1,sz:=3,body:=#[.set (.one 1)<|.cst<|.int 0,.try none (.call "read_deeds" #[.var 0]) (.cons "ShutError" (some 2) #[.set (.one 1)<|.bi .int #[.and (.bi (.isx ["NoLine"]) #[.var 2])<|.bi (.isx ["ValueError"]) #[.var 2]],.set (.one 1)<|.bin .sub (.var 1)<|.bin .mul (.cst<|.int 2)<|.bi .int #[.bi (.isx ["NoCommand","NoDeed","NoFrame","NoLetter","NoNet","NoOrder"]) #[.var 2]]] .nil),.ret<|.cmp .eq (.var 1)<|.cst<|.int 1]}
noncomputable abbrev HY:Fn:={ar:=1,sz:=11,body:=#[.set (.one 1)<|.call "_law_draws" #[.var 0],.set (.one 2)<|.call "_law_take" #[.var 1,.cst<|.int 8],.set (.one 3)<|.call "_law_take" #[.var 1,.cst<|.int 1000],.set (.one 4)<|.call "_law_take" #[.var 1,.cst<|.int 1000],.set (.one 5)<|.lst .nil,.whl (.and (.val<|.cmp .ne (.var 1)<|.lst .nil)<|.val<|.cmp .lt (.bi .len #[.var 5])<|.cst<|.int 20) #[.expr<|.bm .append (.var 5) #[.bin .add (.call "_law_line" #[.call "_law_any_deed" #[.var 1]])<|.cst<|.str "\n"]],.ite (.val<|.cmp .ne (.bi .len #[.call "read_deeds" #[.bm .join (.cst<|.str "") #[.var 5]]])<|.bi .len #[.var 5]) #[.ret<|.cst<|.bl false] .nil,.set (.one 6)<|.bin .mod (.var 3)<|.bin .add (.bi .len #[.var 5])<|.cst<|.int 1,.ite (.and (.val<|.cmp .eq (.var 2)<|.cst<|.int 4)<|.val<|.cmp .ne (.var 5)<|.lst .nil) #[.ret<|.call "_law_refused" #[.slc (.bm .join (.cst<|.str "") #[.var 5]) .none<|.some<|.neg<|.cst<|.int 1]] .nil,.ite (.val<|.cmp .eq (.var 2)<|.cst<|.int 5) #[.set (.one 7)<|.bm .join (.cst<|.str "") #[.var 5],.set (.one 6)<|.bin .mod (.var 3)<|.bin .add (.bi .len #[.var 7])<|.cst<|.int 1,.set (.one 8)<|.idx (.cst<|.str "ABXYZ_-+.,;:#'\x22*/|!&@^=<>~`$()[]{}")<|.bin .mod (.var 4)<|.cst<|.int 34,.ret<|.call "_law_refused" #[.bin .add (.bin .add (.slc (.var 7) .none<|.some<|.var 6)<|.var 8)<|.slc (.var 7) (.some<|.var 6) .none]] .nil,.ite (.and (.val<|.cmp .eq (.var 2)<|.cst<|.int 6)<|.val<|.cmp .ne (.var 5)<|.lst .nil) #[.ret<|.call "_law_refused" #[.call "_law_joined" #[.bm .join (.cst<|.str "") #[.var 5],.var 4]]] .nil,.set (.one 9)<|.call "_law_bad_lines" .nil,.set (.one 10)<|.idx (.var 9)<|.bin .mod (.var 4)<|.bi .len #[.var 9],.ite (.val<|.cmp .eq (.var 2)<|.cst<|.int 7) #[.set (.one 10)<|.call "_law_bad_number" #[.var 4,.var 3]] .nil,.ret<|.call "_law_refused" #[.bin .add (.bin .add (.bin .add (.bm .join (.cst<|.str "") #[.slc (.var 5) .none<|.some<|.var 6])<|.var 10)<|.cst<|.str "\n")<|.bm .join (.cst<|.str "") #[.slc (.var 5) (.some<|.var 6) .none]]]}
class Al(P:Pg):Prop where
 c0:P "is_numeral" = some HZ
 c1:P "read_deeds" = some H9
 c2:P "read_line" = some IZ
 c3:P "_law_draws" = some HU
 c4:P "_law_take" = some HV
 c5:P "_law_number" = some HR
 c6:P "_law_any_deed" = some HX
 c7:P "_law_line" = some HQ
 c8:P "_law_bad_lines" = some HW
 c9:P "_law_bad_number" = some HN
 c10:P "_law_joined" = some HP
 c11:P "_law_refused" = some HS
 c12:P "law" = some HY
theorem YU[I:Al P](q:B0 P n HZ [some a0,some a1] h Q X):wF P (n+1) "is_numeral" [a0,a1] h Q X:=Z1 I.c0 rfl q
theorem YV[I:Al P](q:B0 P n H9 [some a0,none] h Q X):wF P (n+1) "read_deeds" [a0] h Q X:=Z1 I.c1 rfl q
theorem Xi[I:Al P](q:B0 P n IZ [some a0,none] h Q X):wF P (n+1) "read_line" [a0] h Q X:=Z1 I.c2 rfl q
theorem J0[I:Al P](q:B0 P n HU [some a0,none,none,none,none,none] h Q X):wF P (n+1) "_law_draws" [a0] h Q X:=Z1 I.c3 rfl q
theorem KE[I:Al P](q:B0 P n HV [some a0,some a1] h Q X):wF P (n+1) "_law_take" [a0,a1] h Q X:=Z1 I.c4 rfl q
theorem Jj[I:Al P](q:B0 P n HR [some a0,none] h Q X):wF P (n+1) "_law_number" [a0] h Q X:=Z1 I.c5 rfl q
theorem X6[I:Al P](q:B0 P n HX [some a0,none,none] h Q X):wF P (n+1) "_law_any_deed" [a0] h Q X:=Z1 I.c6 rfl q
theorem Ki[I:Al P](q:B0 P n HQ [some a0,none,none] h Q X):wF P (n+1) "_law_line" [a0] h Q X:=Z1 I.c7 rfl q
theorem Xo[I:Al P](q:B0 P n HW [none] h Q X):wF P (n+1) "_law_bad_lines" [] h Q X:=Z1 I.c8 rfl q
theorem Y5[I:Al P](q:B0 P n HN [some a0,some a1,none,none] h Q X):wF P (n+1) "_law_bad_number" [a0,a1] h Q X:=Z1 I.c9 rfl q
theorem W4[I:Al P](q:B0 P n HP [some a0,some a1,none,none,none] h Q X):wF P (n+1) "_law_joined" [a0,a1] h Q X:=Z1 I.c10 rfl q
theorem Wh[I:Al P](q:B0 P n HS [some a0,none,none] h Q X):wF P (n+1) "_law_refused" [a0] h Q X:=Z1 I.c11 rfl q
theorem Gc[I:Al P](q:B0 P n HY [some a0,none,none,none,none,none,none,none,none,none,none] h Q X):wF P (n+1) "law" [a0] h Q X:=Z1 I.c12 rfl q
local macro_rules|`(#[$x])=>`(.cons $x .nil)|`(#[$x,$y,*])=>`(.cons $x #[$y,*])
local macro_rules | `(tactic| walk_at "ne")=>`(tactic| first | assumption | (apply Ne.symm; assumption) | ((with_reducible apply ne_none'); (· assumption); (· walk_at "look")) | (apply Ne.symm; (with_reducible apply ne_none'); (· assumption); (· walk_at "look")))
local macro_rules | `(tactic| walk_at "look")=>`(tactic| first | assumption | with_reducible exact upd_same | ((with_reducible apply upd_ne'); (· walk_at "ne"); (· walk_at "look")) | ((with_reducible apply Ext.get); (· assumption); (· walk_at "look")) | ((with_reducible apply ExtB.get); (· assumption); (· walk_at "ne"); (· walk_at "look")))
local macro_rules | `(tactic| walk_at "ar")=>`(tactic| first | decide | omega | assumption | (simp only [Å,ä]; decide))
local macro_rules | `(tactic| walk_at "mul")=>`(tactic| first | exact .inl (.inr<|by omega) | exact .inl (.inl<|by omega) | exact .inr ⟨by decide,by decide⟩)
local macro_rules | `(tactic| walk_at "setl")=>`(tactic| first | (simp only [Ĳ,Š,ŧ,Ĵ,List.foldl_nil,bD,bE]; done) | (simp only [Ĳ,Š,ŧ,Ĵ,List.foldl_nil,bD,bE]; exact rfl) | exact rfl)
local macro_rules | `(tactic| walk_at "w")=>`(tactic| with_reducible conv=>whnf)
local macro_rules | `(tactic| walk_at "py1")=>do
 let a<-[`g_str,`ab_int,`b_add,`b_sub,`g_int,`g_bl,`g_tbl,`c_lt,`c_le,`c_ge,`c_eqI,`c_neI,`c_eqS,`c_neS,`ln_scr,`in_bl,`mn2,`it_tup].toArray.mapM fun n=>`(tactic| refine $(Lean.mkIdent n) ?_)
 let c<-[`ln_lst,`tp_lst,`sl_lst,`it_lst].toArray.mapM fun n=>`(tactic| ((with_reducible apply $(Lean.mkIdent n)); (· walk_at "look")))
 `(tactic| first
 |(with_reducible first $[| $a:tactic]*|refine CT rfl ?_)
 |((with_reducible apply EK);(· exact rfl))
 |((with_reducible apply Ci);(· walk_at "setl"))|((with_reducible apply b_mul);(· walk_at "mul"))|((with_reducible apply b_fdiv);(· walk_at "ar"))|((with_reducible apply b_mod);(· walk_at "ar"))|((with_reducible apply Ec);(· walk_at "ar");(· simp only[Int.reduceToNat,Int.reducePow];exact rfl))|((with_reducible apply ZV);(· walk_at "look");(· walk_at "look");(· first|(simp only[Ł,Ř,Å,ä];decide)|omega))|((with_reducible apply KG);(· walk_at "ar"))
 |((with_reducible apply ix_tup);(· exact rfl))|((with_reducible apply ZL);(· walk_at "look");(· exact rfl))
 |((with_reducible apply sl_tup);(· decide))
 | ((with_reducible apply Eo);(· first | exact .inl rfl | exact .inr (.inl rfl) | simp);(· walk_at "look")) | ((with_reducible apply ZY);(· walk_at "look");(· walk_at "ar")) | (first $[| $c:tactic]*))
local macro_rules | `(tactic| walk_at "py")=>`(tactic| ((repeat walk_at "py1"); walk_at "w"))
local macro_rules | `(tactic| walk_at "p")=>`(tactic| ((repeat first | walk_at "py1" | refine ifT rfl ?_ | refine ifF rfl ?_); walk_at "w"))
local macro_rules | `(tactic| exists $e)=>`(tactic| (walk_at "py"; refine $e ?_))
local macro_rules | `(tactic| refine' $e)=>`(tactic| (walk_at "py"; refine $e))
variable {h:Hs} {v:Val} {u:Val} {c:Bool} {KB:Bool->Prop}
theorem Ge(e:eqV h v u=some c)(q:KB c):go (cmpV h .eq v u) KB:=go_of e q
theorem Mq(e:eqV h v u=some c)(q:KB (!c)):go (cmpV h .ne v u) KB:=go_of (by show(eqV h v u).map _=_;rw[e];rfl) q
variable {st:Hs->Prop} {W:Val->Env->Hs->NQ->NQ->Prop} {N:NQ}
theorem Jb{vs:List Val}{env:Env}(s:st h)(q:W v env h (fun e g=>wFor st W N vs e g) N):wFor st W N (v::vs) env h:=⟨s,q⟩
theorem OG{env:Env}(s:st h)(q:N env h):wFor st W N [] env h:=⟨s,q⟩
def Ints(h:Hs)(a:Ad):Prop:=∃ns:List Int,h a=some (.lst<|ns.map .int)
variable {w:Ad} {p:Ad}
theorem Ints.ne(x:Ints h w)(e:h p=none):w≠p:=by obtain⟨_,x⟩:=x;exact Ys x e
theorem Ints.ext{g:Hs}(x:Ints h w)(e:Ext h g):Ints g w:=by obtain⟨_,x⟩:=x;exact⟨_,e.get x⟩
variable {a:Ad} {ns:List Int} {n:Nat}
theorem JE(e:h a=some (.lst<|ns.map .int)):dat h (n+1) (.ref a)=some (.lst<|ns.map .int):=by show(lsOf<|h a).bind _=_;rw[e];show Option.map _ ((ns.map Val.int).mapM<|dat h n)=_;rw[Yg (k:=D.int) fun x _=>by cases n<;>rfl];rfl
theorem KS(e:h a=some (.lst<|ns.map .int))(e2:h p=some (.lst [])):eqV h (.ref a) (.ref p)=some ns.isEmpty:=by
 unfold eqV;rw[show deep=11+1 from rfl,JE e,JE (ns:=[])<|by rw[e2];rfl];cases ns with
 |nil=>simp[D.eqv,D.eqvs]
 |cons x xs=>simp[D.eqv,D.eqvs]
structure Dd where
 ws:List String
 n:Nat
noncomputable def deedWords:List<|List String:=[["tick"],["come"],["lost"],["fall","bridge"],["fall","tie"],["back","bridge"],["back","tie"]]
structure Dd.ok(d:Dd):Prop where
 w:d.ws∈deedWords
 n:d.n<1000000
variable {s:Nat}
theorem Wc{ws:List String}(h:ws∈deedWords)(hs:s<1000000):(Dd.mk ws s).ok:=⟨h,hs⟩
noncomputable def Dd.val(d:Dd):Val:=.tup<|d.ws.map .str++[.int d.n]
noncomputable def Dd.parts(d:Dd):List String:=d.ws++[Zf d.n]
noncomputable def Dd.line(d:Dd):String:=joinS " " d.parts
noncomputable def Zc(ds:List Dd):String:=joinS ""<|ds.map fun d=>d.line ++ "\n"
theorem YO(h:n<1000000):(Zf n).length<=6:=by rw[<-Æ,Zb];exact N3 (by decide) h
theorem Ux{c:Char}(hc:figB c=false):c∉(Zf n).toList:=by rw[Zb];intro m;have:=YF n c m;rw[hc]at this;cases this
variable {d:Dd}
theorem Dd.cases(h:d.ok){p:List String->Prop}(h1:∀ws∈deedWords,p ws):p d.ws:=h1 _ h.w
theorem Bt:∀ws∈deedWords,∀w∈ws,' '∉w.toList/\'\n'∉w.toList/\w.length<=6:=by decide
theorem Ja:∀ws∈deedWords,ws.length<=2/\ws≠[]:=by decide
theorem Dd.ok.free(h:d.ok):∀w∈d.parts,' '∉w.toList/\'\n'∉w.toList/\w.length<=6:=by
 intro w hw;rcases ö.mp hw with hw|hw
 .exact Bt _ h.w w hw
 .cases ñ.mp hw;exact⟨Ux (by decide),Ux (by decide),YO h.n⟩
theorem Dd.ok.len(h:d.ok):d.parts.length<=3:=by have:=(Ja _ h.w).1;unfold Dd.parts;simp;omega
theorem UM{xs:List String}{k:Nat}(h:∀x∈xs,x.length<=k):(xs.map String.length).sum<=xs.length*k:=by
 induction xs with
 |nil=>simp
 |cons x xs ih =>have h1:=h x (by simp);have h2:=ih fun y hy=>h y (by simp[hy]);simp only[Ó,υ,Å,Nat.add_mul];omega
theorem Ws(ŭ:List Char):∀ps:List<|List Char,(joinC ŭ ps).length<=(ps.map List.length).sum+ps.length*ŭ.length
 |[]=>by simp[joinC]
 |[p]=>by simp[joinC]
 |p::q::r=>by have:=Ws ŭ<|q::r;simp only[joinC,Ï,Ó,υ,Å,Nat.add_mul]at this ⊢;omega
theorem Wu(ŭ:String)(ss:List String):(joinS ŭ ss).length<=(ss.map String.length).sum+ss.length*ŭ.length:=by
 have:=Ws ŭ.toList<|ss.map ì;rw[<-joinS_toList,Æ,Æ,ă,È]at this;have e:(List.length ∘ ì)=String.length:=by funext s;exact Æ
 rw[e]at this;exact this
theorem Dd.ok.line_len(h:d.ok):d.line.length<=30:=by
 have h1:=Wu " " d.parts;have h2:=UM (k:=6) fun x hx=>(h.free x hx).2.2;have h3:=h.len;have h4:(" " : String).length=1:=by decide
 rw[h4,Nat.mul_one]at h1;unfold Dd.line;omega
theorem Dd.ok.line_no(h:d.ok):'\n'∉d.line.toList:=by
 unfold Dd.line;rw[joinS_toList];have key:∀ps:List<|List Char,(∀p∈ps,'\n'∉p)->'\n'∉joinC (" " : String).toList ps:=by
  intro ps;induction ps with
  |nil=>intro _;simp[joinC]
  |cons p r ih =>
   intro hp;cases r with
   |nil=>simpa[joinC]using hp p (by simp)
   |cons q r =>have:=ih fun x hx=>hp x (by simp[hx]);simp only[joinC,ö,not_or];exact⟨hp p (by simp),by decide,this⟩
 refine key _ fun p hp=>?_;obtain⟨w,hw,rfl⟩:=ã.mp hp;exact(h.free w hw).2.1
theorem YD(h:d.ok):splitS ' ' d.line=d.parts:=JG (by decide) (by unfold Dd.parts; simp) fun s hs=>(h.free s hs).1
variable {ds:List Dd}
theorem XM(h:∀d∈ds,d.ok):splitS '\n' (Zc ds)=ds.map Dd.line++[""]:=by
 unfold splitS Zc;rw[KA,ă];have e:ds.map (ì ∘ fun d=>d.line ++ "\n")=(ds.map fun d=>d.line.toList).map (· ++ ['\n']):=by rw[ă];exact į fun d _=>é
 rw[show(List.map (ì ∘ fun d=>d.line ++ "\n") ds)=(ds.map fun d=>d.line.toList).map (· ++ ['\n']) from e,Xk fun p hp=>by
   obtain⟨d,hd,rfl⟩:=ã.mp hp
   exact(h d hd).line_no]
 rw[æ,ă];have e2:List.map (Í ∘ fun d=>d.line.toList) ds=ds.map Dd.line:=į fun d _=>Ŕ;rw[e2];rfl
theorem Xy(h:∀d∈ds,d.ok)(hl:ds.length<=2000):((ds.map fun d=>d.line ++ "\n").map String.length).sum+(ds.map fun d=>d.line ++ "\n").length*("" : String).length<=100000:=by
 have h1:=UM (xs:=ds.map fun d=>d.line ++ "\n") (k:=31) fun x hx=>by
  obtain⟨d,hd,rfl⟩:=ã.mp hx;have:=(h d hd).line_len;rw[Ü];have:("\n" : String).length=1:=by decide
  omega
 rw[È]at h1;have:("" : String).length=0:=by decide
 rw[È,this];omega
theorem Yq(h:∀d∈ds,d.ok)(hl:ds.length<=2000):(Zc ds).length<=100000:=Ç (Wu _ _) (Xy h hl)
noncomputable def Dd.dat(d:Dd):D:=.tup<|d.ws.map .str++[.int d.n]
variable {α:Type}
theorem ZX(xs:List α)(x:α):cut (xs++[x]) none (some (-1))=xs:=by
 have e1:cutAt (xs++[x]).length (xs++[x]).length (some (-1))=xs.length:=by unfold cutAt;show(if(0:Int)<=-1 then _ else _)=_;rw[if_neg<|by decide];simp;omega
 unfold cut;rw[e1];show List.take (xs.length - 0) (List.drop 0<|xs++[x])=xs;simp
theorem YL(xs:List α)(x:α):atI (xs++[x]) (-1)=some x:=by
 unfold atI ixN;rw[if_neg (by decide),if_pos<|by simp;omega];have:((-1:Int)+((xs++[x]).length:Nat)).toNat=xs.length:=by simp;omega
 rw[õ,this];simp
variable {P:Pg} [Al P] {n:Nat}{h:Hs}{w:Ad}{Q:Q1}{X:XQ}
variable {m:Int}
theorem ZN(hw:Ints h w)(h1:0<m)(k:∀r g,0<=r->r<m->ExtB w h g->Ints g w->Q (.int r) g):wF P (n+1) "_law_take" [.ref w,.int m] h Q X:=by
 have hw0:=hw;obtain⟨ns,e⟩:=hw;refine KE ?_;refine' Zn fun p hp=>?_;have Ψ:=hw0.ne hp;have e2:upd h p (.lst []) w=some (.lst<|ns.map .int):=by walk_at "look"
 refine Ge (KS e2 upd_same) ?_;walk_at "py";cases ns with
 |nil =>refine ifT rfl ?_;refine' k _ _ (by decide) h1 (.of<|Ext.new hp) (hw0.ext<|Ext.new hp)
 |cons x xs =>
  refine ifF rfl ?_
  exists Co (v:=.int x) (xs:=xs.map .int) e2
  refine' k _ _ (ķ _<|by omega) (Ģ _ h1) ((ExtB.of<|Ext.new hp).trans ExtB.upd) ⟨xs,upd_same⟩
theorem M7(hw:Ints h w)(k:∀r:Nat,∀g,r<1000000->ExtB w h g->Ints g w->Q (.int r) g):wF P (n+2) "_law_number" [.ref w] h Q X:=by
 have fin:∀(r:Int) g,0<=r->r<1000000->ExtB w h g->Ints g w->Q (.int r) g:=fun r g r0 r1 e w=>by have:=k r.toNat g (by omega) e w;rw[Int.toNat_of_nonneg r0]at this;exact this
 refine Jj ?_;refine' ZN hw (by decide) fun r g r0 r1 e1 w1=>?_;refine' ifP (fun hc=>?_) (fun hc=>?_)<;>walk_at "py"
 .exact ZN w1 (by decide) fun r g r0 r1 e2 w2=>fin _ _ r0 (by omega) (e1.trans e2) w2
 refine ifP (fun hc=>?_) (fun hc=>?_)<;>walk_at "py"
 .refine Zn fun p hp=>?_;have Ψ:=w1.ne hp;refine' ZN (w1.ext<|Ext.new hp) (by decide) fun r g2 r0 r1 e2 w2=>?_;have:r=0\/r=1\/r=2\/r=3\/r=4\/r=5:=by omega
  rcases this with rfl|rfl|rfl|rfl|rfl|rfl<;>walk_at "py"<;>exact fin _ _ (by omega) (by omega) ((e1.trans<|.of<|Ext.new hp).trans e2) w2
 .refine ZN w1 (by decide) fun r g2 r0 r1 e2 w2=>?_;refine' ZN w2 (by decide) fun s g3 s0 s1 e3 w3=>?_;refine' fin _ _ (by omega) (by omega) ((e1.trans e2).trans e3) w3
theorem JV(hw:Ints h w)(k:∀d:Dd,∀g,d.ok->ExtB w h g->Ints g w->Q d.val g):wF P (n+3) "_law_any_deed" [.ref w] h Q X:=by
 refine X6 ?_;refine' ZN hw (by decide) fun r g r0 r1 e1 w1=>?_;refine' M7 w1 fun s g2 s1 e2 w2=>?_;refine' ifP (fun hc=>?_) (fun hc=>?_)<;>walk_at "py"
 .refine Zn fun p hp=>?_;have e3:ExtB w h<|upd g2 p<|.lst [.str "tick",.str "come",.str "lost"]:=(e1.trans e2).trans<|.of<|Ext.new hp;have w3:=w2.ext<|Ext.new (o:=.lst [.str "tick",.str "come",.str "lost"]) hp;have:r=0\/r=1\/r=2:=by omega
  rcases this with rfl|rfl|rfl<;>walk_at "py"
  .exact k ⟨["tick"],s⟩ _ (Wc (by decide) s1) e3 w3
  .exact k ⟨["come"],s⟩ _ (Wc (by decide) s1) e3 w3
  .exact k ⟨["lost"],s⟩ _ (Wc (by decide) s1) e3 w3
 .refine Zn fun p hp=>?_;have:r=3\/r=4\/r=5\/r=6:=by omega
  rcases this with rfl|rfl|rfl|rfl<;>walk_at "py"<;>refine Zn fun q hq=>?_<;>walk_at "py"
  .exact k ⟨["back","tie"],s⟩ _ (Wc (by decide) s1) ((e1.trans e2).trans<|.of<|(Ext.new hp).trans<|Ext.new hq)<|w2.ext<|(Ext.new hp).trans<|Ext.new hq
  .exact k ⟨["fall","bridge"],s⟩ _ (Wc (by decide) s1) ((e1.trans e2).trans<|.of<|(Ext.new hp).trans<|Ext.new hq)<|w2.ext<|(Ext.new hp).trans<|Ext.new hq
  .exact k ⟨["back","bridge"],s⟩ _ (Wc (by decide) s1) ((e1.trans e2).trans<|.of<|(Ext.new hp).trans<|Ext.new hq)<|w2.ext<|(Ext.new hp).trans<|Ext.new hq
  .exact k ⟨["fall","tie"],s⟩ _ (Wc (by decide) s1) ((e1.trans e2).trans<|.of<|(Ext.new hp).trans<|Ext.new hq)<|w2.ext<|(Ext.new hp).trans<|Ext.new hq
theorem Fb(a t:String) : "" ++ a ++ " " ++ t=joinS " " [a,t]:=by apply String.ext;rw[joinS_toList];simp[joinC,é]
theorem FU(a b t:String) : "" ++ a ++ " " ++ b ++ " " ++ t=joinS " " [a,b,t]:=by apply String.ext;rw[joinS_toList];simp[joinC,é]
theorem WB(h:s<1000000):(s:Int).natAbs<10 ^ 200:=by
 have:(1000000:Nat)<10 ^ 200:=by decide
 show s<_;exact aA h this
theorem AO(hd:d.ok)(k:Q (.str d.line) h):wF P (n+1) "_law_line" [d.val] h Q X:=by
 have ģ:=YO hd.n;have key:∀ws∈deedWords,(∃a,ws=[a]/\a.length<=6)\/∃a b,ws=[a,b]/\a.length<=6/\b.length<=6:=by
  intro ws hw;simp only[deedWords,Î,ę,or_false]at hw;rcases hw with rfl|rfl|rfl|rfl|rfl|rfl|rfl
  .exact .inl ⟨_,rfl,by decide⟩
  .exact .inl ⟨_,rfl,by decide⟩
  .exact .inl ⟨_,rfl,by decide⟩
  .exact .inr ⟨_,_,rfl,by decide,by decide⟩
  .exact .inr ⟨_,_,rfl,by decide,by decide⟩
  .exact .inr ⟨_,_,rfl,by decide,by decide⟩
  .exact .inr ⟨_,_,rfl,by decide,by decide⟩
 obtain⟨ws,s⟩:=d;have hs:s<1000000:=hd.n;have ģ:(Zf s).length<=6:=ģ;have l0:("" : String).length=0:=by decide
 have l1:(" " : String).length=1:=by decide
 refine Ki ?_;rcases key ws hd.w with⟨a,e,ha⟩|⟨a,b,e,ha,hb⟩
 .have e:ws=[a]:=e;subst e;have k:Q (.str<|joinS " " [a,Zf s]) h:=k;show wSs _ _ [some<|.tup [.str a,.int s],none,none] h _ _ _ _ _;refine' sl_tup (show ¬(cutAt 2 0 none=0/\cutAt 2 2 (some (-1))=2) by decide) ?_
  exists Jb trivial
  refine' Zp (by simp only[l0,lim];omega) ?_;refine' Zp (by simp only[Ü,l0,l1,lim];omega) ?_
  exists OG trivial
  exists NO (WB hs)
  refine Zp (by simp only[Ü,l0,l1,lim];omega) ?_;rw[Fb];exact k
 .have e:ws=[a,b]:=e;subst e;have k:Q (.str<|joinS " " [a,b,Zf s]) h:=k;show wSs _ _ [some<|.tup [.str a,.str b,.int s],none,none] h _ _ _ _ _;refine' sl_tup (show ¬(cutAt 3 0 none=0/\cutAt 3 3 (some (-1))=3) by decide) ?_
  exists Jb trivial
  refine' Zp (by simp only[l0,lim];omega) ?_;refine' Zp (by simp only[Ü,l0,l1,lim];omega) ?_
  exists Jb trivial
  refine' Zp (by simp only[Ü,l0,l1,lim];omega) ?_;refine' Zp (by simp only[Ü,l0,l1,lim];omega) ?_
  exists OG trivial
  exists NO (WB hs)
  refine Zp (by simp only[Ü,l0,l1,lim];omega) ?_;rw[FU];exact k
theorem take_succ{α:Type}{xs:List α}{i:Nat}{x:α}(h:xs[i]?=some x):xs.take (i+1)=xs.take i++[x]:=by rw[List.take_succ,h];rfl
theorem Mj(x:α)(xs:List α):atI (x::xs) 0=some x:=by unfold atI ixN;rw[if_pos (by decide),if_pos<|by simp];rfl
theorem num_zero:Zf s = "0"↔s=0:=by
 constructor
 .intro e;have h1:=WU s;rw[<-Zb,e]at h1;exact h1.symm
 .rintro rfl;decide
theorem KW(hs:s<1000000)(k:∀g,Ext h g->Q (.bl true) g):wF P (n+1) "is_numeral" [.str<|Zf s,.int 6] h Q X:=by
 have hl:=YO hs;have h1:1<=(Zf s).length:=by rw[<-Æ,Zb];exact JZ s
 refine YU ?_;refine' XN (by rw[lim];omega) ?_;walk_at "py";refine ifT (by simpa using (by omega:(1:Int)<=(Zf s).length)) ?_;walk_at "py";refine ifF (by simpa using (by omega:((Zf s).length:Int)<=6)) ?_;refine' ⟨by unfold strL;rw[È,Æ,lim];omega,?_⟩;refine Wt (fun _=>some<|.bl true) trivial (fun v hv K hK=>?_) ?_
 .unfold strL at hv;obtain⟨c,hc,rfl⟩:=ã.mp hv;have hm:c∈"0123456789".toList:=WZ (YF s c<|by rw[<-Zb];exact hc);walk_at "p";refine BS (Yl c) ?_;rw[decide_eq_true hm];exact hK
 refine Zn fun q hq=>?_;walk_at "py";have eb:(strL<|Zf s).filterMap (fun _=>some<|Val.bl true)=((strL<|Zf s).map fun _=>true).map Val.bl:=by rw[ă];show List.filterMap (fun x=>some<|(Val.bl ∘ fun(_:Val)=>true) x) _=_;exact congrFun List.filterMap_eq_map' _
 rw[eb];refine O8 upd_same (YZ _) ?_;walk_at "py";refine ifF (by simp) ?_;walk_at "py";by_cases h0:s=0
 .subst h0;refine ifT (by decide) ?_;exact k _<|Ext.new hq
 .refine ifF (by simpa using fun e=>h0<|num_zero.mp e) ?_;walk_at "py";obtain⟨d,l,e,d0,d9⟩:=Wn s (by omega);refine go_of (a:=.str<|Ù<|ď d) ?_ ?_
  .show(if(Zf s).length<=lim then(atI (Zf s).toList 0).map _ else none)=_;rw[if_pos (by rw[lim];omega),Zb,e,Mj];rfl
  walk_at "py";have Ψ:Ù (ď d)≠"0":=by
   intro e2;have e3:[ď d]=['0']:=by have:=congrArg ì e2;rw[ó]at this;simpa using this
   have e5:ď d = '0':=(ø e3).1;have e4:(ď d).toNat=48:=by rw[e5];rfl
   rw[Yc d9]at e4;omega
  rw[decide_eq_false Ψ];exact k _<|Ext.new hq
theorem OM:∀ws∈deedWords,∀h:Hs,cmpV h .notin (.tup<|ws.map .str) (.tup [(.tup [(.str "tick")]),(.tup [(.str "come")]),(.tup [(.str "lost")]),(.tup [(.str "fall"),(.str "bridge")]),(.tup [(.str "fall"),(.str "tie")]),(.tup [(.str "back"),(.str "bridge")]),(.tup [(.str "back"),(.str "tie")])])=some false:=by intro ws hw h;simp only[deedWords,Î,ę,or_false]at hw;rcases hw with rfl|rfl|rfl|rfl|rfl|rfl|rfl<;>rfl
theorem Wx(d:Dd):cut (d.parts.map Val.str) none (some (-1))=d.ws.map .str:=by unfold Dd.parts;rw[æ];exact ZX _ _
theorem J4(d:Dd):atI (d.parts.map Val.str) (-1)=some (.str<|Zf d.n):=by unfold Dd.parts;rw[æ];exact YL _ _
theorem Jp(hd:d.ok)(k:∀g,Ext h g->Q d.val g):wF P (n+2) "read_line" [.str d.line] h Q X:=by
 have hl:=hd.line_len;have hn:=hd.n;refine Xi ?_
 refine' go_of (a:=' ') (by rfl) ⟨by rw [lim]; omega,?_⟩
 rw[YD hd];refine Zn fun p hp=>?_;walk_at "py";rw[Wx];refine Zn fun q hq=>?_;have hpq:p≠q:=by walk_at "ne"
 exists go_of (OM _ hd.w _)
 walk_at "p";refine ZL (xs:=d.parts.map .str) (by walk_at "look") (J4 d) ?_;refine' KW hn fun g3 x3=>?_;walk_at "py";refine ifF rfl ?_;have hp3:g3 p=some (.lst<|d.parts.map .str):=x3.get (by walk_at "look");walk_at "py";rw[Wx];refine Zn fun r hr=>?_;have hpr:p≠r:=Ys hp3 hr;refine' ZL (xs:=d.parts.map .str) (by walk_at "look") (J4 d) ?_;refine' in_str ⟨by have:=YO hn;omega,by rw[Zb];exact Mn _,by rw[Zb,Ú];exact YF _⟩ ?_;refine' KG (by have:=(Ja _ hd.w).1;simp[lim];omega) ?_;rw[Zb,WU];exact k _<|(((Ext.new hp).trans<|Ext.new hq).trans x3).trans<|Ext.new hr
theorem AI(hd:∀d∈ds,d.ok)(hl:ds.length<=2000)(k:∀p g,h p=none->Ext h g->g p=some (.lst<|ds.map Dd.val)->Q (.ref p) g):wF P (n+3) "read_deeds" [.str<|Zc ds] h Q X:=by
 have htl:=Yq hd hl;refine YV ?_;refine' go_of (a:='\n') (by rfl) ⟨by rw[lim];omega,?_⟩;rw[XM hd,æ];refine Zn fun p hp=>?_
 exists ZL upd_same (YL _ _)
 walk_at "py";refine ifF (by decide) ?_;walk_at "py";rw[show(ds.map Dd.line).map Val.str++([""].map Val.str)=(ds.map Dd.line).map Val.str++[Val.str ""] from rfl,ZX];refine Zn fun q hq=>?_;walk_at "py";rw[ă]at hq ⊢;refine⟨by rw[È,lim];omega,?_⟩;refine YW (fun i ys g=>ys=(ds.take i).map Dd.val/\Ext (upd (upd h p<|.lst<|ds.map (Val.str ∘ Dd.line)++[Val.str ""]) q<|.lst<|ds.map<|Val.str ∘ Dd.line) g) ⟨by simp,Ext.refl⟩ (fun i ys g _ hI=>by show lsOf (g q)=_;rw[hI.2.get upd_same];rfl) ?_ ?_
 .rintro i v ys g hv ⟨rfl,x1⟩ K hK;rw[í]at hv;obtain⟨d,hdi,rfl⟩:=ā.mp hv;walk_at "p";refine Jp (hd d<|ľ hdi) fun g2 x2=>?_;refine hK _ _ ⟨?_,x1.trans x2⟩;rw[take_succ hdi,æ];rfl
 .rintro ys g ⟨rfl,x1⟩;rw[È,ό];refine Zn fun r hr=>?_;have x2:Ext h g:=((Ext.new hp).trans<|Ext.new hq).trans x1;have hr0:h r=none:=by
   cases z:h r with
   |none=>rfl
   |some o=>rw[x2.get z]at hr;cases hr
  exact k r _ hr0 (x2.trans<|Ext.new hr) upd_same
variable {i:Nat}
theorem W7(h:(rangeV 0 m)[i]?=some v):v=.int i/\(i:Int)<m:=by
 unfold rangeV at h;rw[í]at h;have hk:i<(m - 0).toNat:=by
  by_cases hi:i<(m - 0).toNat
  .exact hi
  .rw[aD<|by simpa using hi]at h;cases h
 rw[bg hk]at h;cases h;exact⟨by show Val.int (0+(i:Int))=_;rw[Int.zero_add],by omega⟩
def IntsL(h:Hs)(a:Ad)(m:Nat):Prop:=∃ns:List Int,h a=some (.lst<|ns.map .int)/\ns.length<=m
theorem IntsL.app{m:Nat}{x:Int}(hl:ns.length<=m):IntsL (upd h a<|.lst<|ns.map Val.int++[.int x]) a<|m+1:=⟨ns++[x],by rw[upd_same,æ];rfl,by simp;exact hl⟩
theorem Uf(h63:ns.length<=63)(k:∀p g,h p=none->Ints g p->Q (.ref p) g):wF P (n+1) "_law_draws" [.scr ns] h Q X:=by
 refine J0 ?_;refine' Zn fun dr hdr=>?_;refine' ⟨by split<;>omega,?_⟩;refine AT (fun i e g=>∃v2 v3 v4 v5,e=[some<|.scr ns,some<|.ref dr,v2,v3,v4,v5]/\IntsL g dr (60*i)/\∀a,a≠dr->g a=h a) ⟨none,none,none,none,rfl,⟨[],by rw[upd_same];rfl,by simp⟩,fun a ha=>upd_ne ha⟩ (fun _ _ _ _ _=>trivial) ?_ ?_
 .rintro i v e g hv ⟨v2,v3,v4,v5,rfl,⟨ms,e1,l1⟩,x1⟩ K hK;obtain⟨rfl,hi⟩:=W7 hv;have hi2:i<ns.length:=by split at hi<;>omega
  have hi3:i<80:=by split at hi<;>omega
  have hms:ms.length<=4800:=by omega
  obtain⟨c,hc⟩:∃c,ns[i]?=some c:=⟨ns[i],ß hi2⟩
  refine' Dg (v:=.int c) ?_ ?_
  .unfold atI ixN;rw[if_pos (by omega),if_pos<|by rw[È];omega];rw[õ,í];simp[hc]
  walk_at "py";generalize hr:(if c<0 then -c else c)=r;have r0:0<=r:=by rw[<-hr];split<;>omega
  refine ifP (fun a8=>?_) fun a8=>?_
  .refine' ZY e1 (by simp[lim];omega) ?_;refine' ZY upd_same (by simp[lim];omega) ?_;refine' ZY upd_same (by simp[lim];omega) ?_;refine' hK _ _ ⟨_,_,_,_,rfl,⟨ms++[_,_,_],by show upd _ dr _ dr=_;rw[upd_same,æ,â,â];rfl,by simp;omega⟩,fun a ha=>?_⟩;show upd (upd (upd g dr _) dr _) dr _ a=_;rw[upd_ne ha,upd_ne ha,upd_ne ha,x1 a ha]
  .refine' WJ (m:=60) (fun m e g=>∃r j v4,e=[some<|.scr ns,some<|.ref dr,some<|.int i,some<|.int r,v4,some<|.int j]/\m+j.toNat=60/\0<=j/\IntsL g dr (60*i+j.toNat)/\∀a,a≠dr->g a=h a) ⟨r,0,v4,rfl,rfl,by decide,⟨ms,e1,by omega⟩,x1⟩ ?_;rintro m e g ⟨r,j,v4,rfl,hm,j0,⟨ms,e1,l1⟩,x1⟩ K hK2;refine' ifP (fun h1=>?_) (fun h1=>?_)
   .refine' ifP (fun h2=>?_) (fun h2=>?_)
    .refine' ZY e1 (by simp[lim];omega) ?_;refine' hK2 (m - 1) _ _ (by omega) ⟨_,j+1,v4,rfl,by omega,by omega,⟨ms++[_],by show upd _ dr _ dr=_;rw[upd_same,æ];rfl,by simp;omega⟩,fun a ha=>?_⟩;show upd g dr _ a=_;rw[upd_ne ha,x1 a ha]
    .refine' hK _ _ ⟨_,_,_,_,rfl,⟨ms,e1,by omega⟩,x1⟩
   .refine ifF rfl ?_;refine' hK _ _ ⟨_,_,_,_,rfl,⟨ms,e1,by omega⟩,x1⟩
 .rintro e g ⟨v2,v3,v4,v5,rfl,⟨ms,e1,l1⟩,x1⟩;refine' Zn fun p hp=>?_;have hpd:p≠dr:=fun z=>by rw[z,e1]at hp;cases hp
  refine k p _ (by rw[<-x1 p hpd];exact hp) ⟨cut ms none<|some 240,?_⟩;rw[upd_same];unfold cut;rw[È,χ,ψ]
theorem Zl{c:Char}:∀{a:List Char},splitC c a≠[]
 |[]=>by simp[splitC]
 |x::a=>by
  unfold splitC;split
  .simp
  .split<;>simp
theorem Zu{c:Char}:∀{a b:List Char},splitC c (a++c::b)=splitC c a++splitC c b
 |[],b=>by simp[splitC]
 |x::a,b=>by
  rw[Ł,splitC,splitC,Zu (a:=a) (b:=b)];by_cases e:x=c
  .rw[if_pos e,if_pos e];rfl
  .rw[if_neg e,if_neg e];cases z:splitC c a with
   |nil=>exact absurd z Zl
   |cons y ys=>rfl
theorem ZG{c:Char}:∀{a:List Char},c∉a->splitC c a=[a]
 |[],_=>rfl
 |x::a,h=>by rw[splitC,if_neg fun e=>h<|by simp[e],ZG fun z=>h<|by simp[z]]
theorem ZO{c:Char}{x y:List Char}{B:List (List Char)}:∀{a b:List Char}{A:List (List Char)},splitC c a=A++[x]->splitC c b=y::B->splitC c (a++b)=A++(x++y)::B
 |[],b,A,h1,h2=>by
  cases A with
  |nil=>cases h1;exact h2
  |cons z A=>have:=congrArg List.length h1;simp[splitC]at this
 |z::a,b,A,h1,h2=>by
  rw[Ł,splitC];rw[splitC]at h1;by_cases e:z=c
  .rw[if_pos e]at h1 ⊢;cases A with
   |nil =>have:splitC c a=[]:=(ø h1).2;exact absurd this Zl
   |cons w A =>obtain⟨e1,e2⟩:=ø h1;rw[ZO e2 h2,<-e1];rfl
  .rw[if_neg e]at h1 ⊢;cases q:splitC c a with
   |nil=>exact absurd q Zl
   |cons u us =>
    rw[q]at h1;cases A with
    |nil =>obtain⟨e1,e2⟩:=ø h1;rw[ZO (A:=[]) (x:=u) (by rw[q,e2];rfl) h2,<-e1];rfl
    |cons w A =>obtain⟨e1,e2⟩:=ø h1;rw[ZO (A:=u::A) (by rw[q,e2];rfl) h2,<-e1];rfl
theorem Yt{c x:Char}:∀{a:List Char},x∈a->x=c\/∃l∈splitC c a,x∈l
 |[],h=>by cases h
 |y::a,h=>by
  rw[splitC];by_cases e:y=c
  .rw[if_pos e];rcases Î.mp h with h|h
   .exact .inl<|h.trans e
   .rcases Yt (c:=c) h with h|⟨l,h1,h2⟩
    .exact .inl h
    .exact .inr ⟨l,by simp[h1],h2⟩
  .rw[if_neg e];cases z:splitC c a with
   |nil=>exact absurd z Zl
   |cons u us =>
    rcases Î.mp h with h|h
    .exact .inr ⟨y::u,by simp,by simp[h]⟩
    .rcases Yt (c:=c) h with h|⟨l,h1,h2⟩
     .exact .inl h
     .rw[z]at h1;rcases Î.mp h1 with h1|h1
      .exact .inr ⟨y::u,by simp,by rw[h1]at h2;simp[h2]⟩
      .exact .inr ⟨l,by simp[h1],h2⟩
theorem snoc{l:List α}(h:l≠[]):∃a x,l=a++[x]:=⟨l.dropLast,l.getLast h,(List.dropLast_concat_getLast h).symm⟩
noncomputable def wordsC:List<|List<|List Char:=deedWords.map fun l=>l.map ì
noncomputable def ZD(w:List Char):Bool:=decide (1<=w.length)&&(decide (w.length<=6)&&(w.all figB&&(w==['0']||w.head? != some '0')))
def Good(l:List Char):Prop:=∃ws w,splitC ' ' l=ws ++ [w]/\ws∈wordsC/\ZD w=true
def Xp(t:List Char):Prop:=∃ls,splitC '\n' t=ls++[[]]/\∀l∈ls,Good l
noncomputable def NN(l:List Char):Bool:=wordsC.contains (splitC ' ' l).dropLast && ZD ((splitC ' ' l).getLast?.getD [])
variable {l:List Char}
theorem UI(h:Good l):NN l=true:=by obtain⟨ws,w,h1,h2,h3⟩:=h;unfold NN;rw[h1,List.dropLast_concat,List.getLast?_concat];simp[h2,h3]
theorem Good.ne(h:Good l):l≠[]:=fun e=>by subst e;exact absurd (UI h) (by decide)
theorem XD{w:List Char}(h:ZD w=true):∀c∈w,figB c=true:=by unfold ZD at h;simp only[bAq,Ú]at h;exact h.2.2.1
theorem Xu{w:List Char}(h:ZD w=true):1<=w.length/\w.length<=6:=by unfold ZD at h;simp only[bAq,decide_eq_true_eq]at h;exact⟨h.1,h.2.1⟩
noncomputable def sgn(c:Char):Bool:="abcdefghijklmnopqrstuvwxyz 0123456789".toList.contains c
theorem Ap{c:Char}(h:figB c=true):sgn c=true:=by
 have:=WZ h;unfold sgn;rw[ï];have:∀c∈"0123456789".toList,c∈"abcdefghijklmnopqrstuvwxyz 0123456789".toList:=by decide
 exact this c ‹_›
theorem M5:∀ws∈wordsC,∀w∈ws,∀c∈w,sgn c=true:=by decide
theorem Good.sgn(h:Good l):∀c∈l,Own.sgn c=true:=fun c hc=>by
 obtain⟨ws,w,h1,h2,h3⟩:=h
 rcases Yt (c:=' ') hc with e | ⟨u,h4,h5⟩
 .rw[e];decide
 .rw[h1]at h4;rcases ö.mp h4 with h4|h4
  .exact M5 ws h2 u h4 c h5
  .rw[ñ.mp h4]at h5;exact Ap<|XD h3 c h5
theorem M3{t:List Char}{c:Char}(h:c∈t)(h1:c≠'\n')(h2:sgn c=false):¬Xp t:=fun⟨ls,e,hl⟩=>by
 rcases Yt (c:='\n') h with z|⟨l,h3,h4⟩
 .exact h1 z
 .rw[e]at h3;rcases ö.mp h3 with h3|h3
  .rw[(hl l h3).sgn c h4]at h2;cases h2
  .rw[ñ.mp h3]at h4;cases h4
variable {b:List Char}
theorem MT{a:List Char}(hl:'\n'∉l)(hg:¬Good l)(ha:a=[]\/∃a',a=a'++['\n']):¬Xp (a++l ++ '\n'::b):=fun⟨ls,e,h⟩=>by
 rw[Zu]at e;have m:l∈splitC '\n' (a++l):=by
  rcases ha with rfl|⟨a',rfl⟩
  .rw[Ř,ZG hl];simp
  .rw[â,œ,Zu,ZG hl];simp
 obtain⟨B,y,hB⟩:=snoc<|Zl (c:='\n') (a:=b);rw[hB,<-â]at e;have:=(ý e rfl).1;exact hg (h l<|by rw[<-this];simp[m])
theorem Oz{a:List Char}(h:l≠[])(hl:'\n'∉l)(ha:a=[]\/∃a',a=a'++['\n']):¬Xp (a++l):=fun⟨ls,e,_⟩=>by
 rcases ha with rfl|⟨a',rfl⟩
 .rw[Ř,ZG hl]at e;have:[l]=[[]]:=by
   have h0:ls=[]:=by have:=congrArg List.length e;simpa using this
   rw[h0]at e;exact e
  exact h (ø this).1
 .rw[â,œ,Zu,ZG hl]at e;exact h<|List.singleton_inj.mp (ý e rfl).2
theorem Y9:∀ws∈wordsC,1<=ws.length/\ws.length<=2:=by decide
theorem M0:∀ws∈wordsC,∀w∈ws,ZD w=false:=by decide
theorem KK{a:List Char}(h:Xp<|a ++ '\n' :: b)(hb:b≠[]):¬Xp (a ++ ' ' :: b):=fun⟨ls,e,g⟩=>by
 obtain⟨ks,e0,g0⟩:=h;rw[Zu]at e0;obtain⟨A,x,hA⟩:=snoc<|Zl (c:='\n') (a:=a);cases z:splitC '\n' b with
 |nil=>exact absurd z Zl
 |cons y B =>
  rw[hA,z]at e0;have gx:Good x:=by obtain⟨B',w,hB⟩:=snoc (l:=y::B) (by simp);rw[hB,<-â]at e0;exact g0 x (by rw[<-(ý e0 rfl).1];simp)
  have gy:Good y:=by
   cases B with
   |nil =>
    have ey:y=[]:=by have:=(ý (t₁:=[y]) (t₂:=[[]]) e0 rfl).2;exact(ø this).1
    subst ey;have:b=[]:=by
     cases b with
     |nil=>rfl
     |cons u us =>
      rw[splitC]at z;split at z
      .have:=(ø z).2;exact absurd this Zl
      .split at z<;>simp at z
    exact absurd this hb
   |cons u us =>obtain⟨B',w,hB⟩:=snoc (l:=u::us) (by simp);rw[hB,show A++[x]++y::(B'++[w])=(A++[x]++y::B')++[w] by simp]at e0;exact g0 y (by rw[<-(ý e0 rfl).1];simp)
  have zz:splitC '\n' (' ' :: b)=(' ' :: y) :: B:=by rw [splitC,if_neg (by decide),z]
  rw[ZO hA zz]at e
  have ng:¬Good (x ++ ' ' :: y):=fun⟨ws,w,h1,h2,h3⟩=>by
   obtain⟨w1,v1,q1,r1,_⟩:=gx;obtain⟨w2,v2,q2,r2,_⟩:=gy;rw[Zu,q1,q2]at h1;have:=congrArg List.length h1;simp only[Ï,Å,ä]at this;have:=(Y9 ws h2).2;have:=(Y9 w1 r1).1;have:=(Y9 w2 r2).1;omega
  cases B with
  |nil =>
   have:=(ý (t₁:=[x ++ ' ' :: y]) (t₂:=[[]]) e rfl).2
   simp at this
  |cons u us =>
   obtain⟨B',w,hB⟩:=snoc (l:=u::us) (by simp)
   rw [hB,show A ++ (x ++ ' ' :: y) :: (B' ++ [w])=(A ++ (x ++ ' ' :: y) :: B') ++ [w] by simp] at e
   exact ng (g _<|by rw[<-(ý e rfl).1];simp)
theorem M8{a:List Char}(h:Xp<|a ++ ' ' :: b):¬Xp (a ++ '\n' :: b):=fun⟨ls,e,g⟩=>by
 obtain⟨ks,e0,g0⟩:=h;obtain⟨A,x,hA⟩:=snoc<|Zl (c:='\n') (a:=a);cases z:splitC '\n' b with
 |nil=>exact absurd z Zl
 |cons y B =>
  have zz:splitC '\n' (' ' :: b)=(' ' :: y) :: B:=by rw [splitC,if_neg (by decide),z]
  rw[ZO hA zz]at e0;rw[Zu,hA,z]at e;have gx:Good x:=by obtain⟨B',w,hB⟩:=snoc (l:=y::B) (by simp);rw[hB,<-â]at e;exact g x (by rw[<-(ý e rfl).1];simp)
  have gm:Good<|x ++ ' ' :: y:=by
   cases B with
   |nil =>
    have:=(ý (t₁:=[x ++ ' ' :: y]) (t₂:=[[]]) e0 rfl).2
    simp at this
   |cons u us =>
    obtain⟨B',w,hB⟩:=snoc (l:=u::us) (by simp)
    rw [hB,show A ++ (x ++ ' ' :: y) :: (B' ++ [w])=(A ++ (x ++ ' ' :: y) :: B') ++ [w] by simp] at e0
    exact g0 _ (by rw[<-(ý e0 rfl).1];simp)
  obtain⟨w1,v1,q1,r1,n1⟩:=gx;obtain⟨ws,w,h1,h2,h3⟩:=gm
  obtain ⟨C,v,hC⟩:=snoc<|Zl (c:=' ') (a:=y)
  rw[Zu,q1,hC,<-â]at h1;have:=(ý h1 rfl).1;have:=M0 ws h2 v1 (by rw[<-this];simp);rw[n1]at this;cases this
theorem OW{c:Char}(h:c∈"0123456789".toList):figB c=true:=by
 have:c∈['0','1','2','3','4','5','6','7','8','9']:=h
 simp only[Î,ę,or_false]at this;rcases this with rfl|rfl|rfl|rfl|rfl|rfl|rfl|rfl|rfl|rfl<;>rfl
theorem JI(xs:List String):dat h (n+1) (.tup<|xs.map .str)=some (.tup<|xs.map .str):=by show((xs.map Val.str).mapM<|dat h n).map D.tup=_;rw[Yg (k:=D.str) fun x _=>by cases n<;>rfl];rfl
theorem Y3:∀a b:List String,D.eqvs (a.map .str) (b.map .str)=decide (a=b)
 |[],[]=>by simp[D.eqvs]
 |[],_::_=>by simp[D.eqvs]
 |_::_,[]=>by simp[D.eqvs]
 |x::a,y::b=>by
  rw[Ó,Ó,D.eqvs,Y3 a b];show((x==y)&&_)=_;by_cases e:x=y
  .subst e;simp
  .simp[e]
theorem WX(xs:List String):cmpV h .notin (.tup<|xs.map .str) (.tup<|deedWords.map fun l=>.tup<|l.map .str)=some (!decide (xs∈deedWords)):=by
 have e:inL h (.tup<|xs.map .str) (deedWords.map fun l=>.tup<|l.map .str)=some (decide (xs∈deedWords)):=by
  unfold inL;rw[show dat h deep (.tup<|xs.map .str)=some (.tup<|xs.map .str) from JI xs,Yg (g:=dat h<|deep - 1) (k:=fun l:List String=>D.tup<|l.map .str) fun l _=>JI (n:=10) l];show some ((deedWords.map fun l=>D.tup<|l.map .str).any fun e=>D.eqv e<|.tup<|xs.map .str)=_;rw[List.any_map];congr 1;rw[Bool.eq_iff_iff,List.any_eq_true,decide_eq_true_eq];constructor
  .rintro⟨l,hl,e⟩;have e:D.eqvs (l.map .str) (xs.map .str)=true:=e;rw[Y3,decide_eq_true_eq]at e;exact e▸hl
  .intro hx;refine⟨xs,hx,?_⟩;show D.eqvs (xs.map .str) (xs.map .str)=true;rw[Y3];simp
 show(inL h _ _).map _=_;rw[e];rfl
theorem Zq{o:Ob}(q:∀p g,h p=none->Ext h g->g p=some o->Q (.ref p) g):new h o Q:=Zn fun p hp=>q p _ hp (Ext.new hp) upd_same
theorem CL{c:String}{Ts:List String}(e:h a=some (.exc c))(q:Q (.bl<|Ts.any<|excSub c) h):(biV h (.isx Ts) [.ref a]).wp h Q:=wp_val (by show Rs.ofO ((excOf<|h a).map _)=_;rw[e];rfl) q
theorem words_in{ws:List (List Char)}:ws∈wordsC↔ws.map Í∈deedWords:=by
 unfold wordsC;rw[ã];constructor
 .rintro⟨l,hl,rfl⟩;rw[ă,show Í ∘ ì=id from funext fun s=>Ŕ,ϐ];exact hl
 .intro hl;exact⟨_,hl,by rw[ă,show ì ∘ Í=id from funext fun s=>É,ϐ]⟩
theorem ZP{c:Char}:∀{a:List Char},∀l∈splitC c a,l.length<=a.length
 |[],l,h=>by simp[splitC]at h;simp[h]
 |x::a,l,h=>by
  rw[splitC]at h;split at h
  .rcases Î.mp h with h|h
   .simp[h]
   .have:=ZP l h;simp only[Å];omega
  .cases z:splitC c a with
   |nil=>exact absurd z Zl
   |cons u us =>
    rw[z]at h;rcases Î.mp h with h|h
    .have:=ZP (a:=a) u (by rw[z];simp);rw[h];simp only[Å];omega
    .have:=ZP (a:=a) l (by rw[z];simp[h]);simp only[Å];omega
theorem Yn{c:Char}:∀{a:List Char},(splitC c a).length<=a.length+1
 |[]=>by simp[splitC]
 |x::a=>by
  have:=Yn (c:=c) (a:=a);rw[splitC];split
  .simp only[Å];omega
  .cases z:splitC c a with
   |nil=>exact absurd z Zl
   |cons u us=>rw[z]at this;simp only[Å]at this ⊢;omega
noncomputable def WL(v:Val):Option Val:=match v with
 | .str t=>some<|.bl<|decide (t.toList.headD ' '∈"0123456789".toList)
 |_=>none
theorem JM{s:String}(hl:s.length<lim)(k:∀g,Ext h g->Q (.bl<|ZD s.toList) g):wF P (n+1) "is_numeral" [.str s,.int 6] h Q X:=by
 have k1:ZD s.toList=true->∀g,Ext h g->Q (.bl true) g:=fun e=>by rw[e]at k;exact k
 have k0:ZD s.toList=false->∀g,Ext h g->Q (.bl false) g:=fun e=>by rw[e]at k;exact k
 have sl:s.toList.length=s.length:=Æ;refine YU ?_
 exists XN (ŋ hl)
 walk_at "py";by_cases h1:(1:Int)<=s.length
 .refine ifT (by simpa using h1) ?_;walk_at "py";by_cases h2:(s.length:Int)<=6
  .refine ifF (by simpa using h2) ?_;refine' ⟨by unfold strL;rw[È,Æ];exact hl,?_⟩;refine Wt WL trivial (fun v hv K hK=>?_) ?_
   .unfold strL at hv;obtain⟨c,hc,rfl⟩:=ã.mp hv;walk_at "p";refine BS (Yl c) ?_;have:WL (.str<|Ù c)=some (.bl<|decide (c∈"0123456789".toList)):=by unfold WL;dsimp only;rw[ó];rfl
    rw[this]at hK;exact hK
   refine Zn fun q hq=>?_;walk_at "py";have eb:(strL s).filterMap WL=(s.toList.map fun c=>decide (c∈"0123456789".toList)).map Val.bl:=by unfold strL;rw[bz,ă];rw[<-List.filterMap_eq_map];congr 1;funext c;show WL (.str<|Ù c)=_;unfold WL;dsimp only;rw[ó];rfl
   rw[eb];refine O8 upd_same (YZ _) ?_;walk_at "py";by_cases ha:∀c∈s.toList,figB c=true
   .refine ifF (by simp only[Bool.not_eq_false',Ú,ã,id];rintro x ⟨c,hc,rfl⟩;exact decide_eq_true<|WZ<|ha c hc) ?_;walk_at "py";have Ψ:s.toList≠[]:=fun e=>by
     have:s.length=0:=by rw[<-Æ,e];rfl
     omega
    by_cases h0:s = "0"
    .subst h0;refine ifT (by decide) ?_;exact k1 (by decide) _<|Ext.new hq
    .refine ifF (by simpa using h0) ?_;walk_at "py";cases z:s.toList with
     |nil=>exact absurd z Ψ
     |cons x xs =>
      refine go_of (a:=.str<|Ù x) ?_ ?_
      .show(if s.length<=lim then(atI s.toList 0).map _ else none)=_;rw[if_pos<|ŋ hl,z,Mj];rfl
      walk_at "py";by_cases hx:x = '0'
      .subst hx;refine k0 ?_ _<|Ext.new hq;have n0:s.toList≠['0']:=fun e=>h0<|String.ext<|e.trans rfl;rw[z]at n0;unfold ZD;rw[z];simp;intro _ _ _ y;exact n0 (by rw[y])
      .have hs:Ù x≠"0":=fun e=>by
        have:=congrArg ì e;rw[ó]at this;exact hx (ø this).1
       rw[decide_eq_false hs];refine k1 ?_ _<|Ext.new hq;have a2:=Ú.mpr ha;unfold ZD;rw[a2,z,<-z,sl];simp[hx,z,show 1<=s.length by omega,show s.length<=6 by omega]
   .refine ifT (by
       simp only[Ċ]
       rw[ũ]
       intro e
       rw[Ú]at e
       exact ha fun c hc=>OW<|by simpa using e _ (ã.mpr ⟨c,hc,rfl⟩)) ?_
    refine' k0 (by cases z:ZD s.toList with|false=>rfl|true=>exact absurd (XD z) ha) _ (Ext.new hq)
  .refine ifT (by simpa using h2) ?_;refine' k0 (by cases z:ZD s.toList with|false=>rfl|true=>have:=Xu z;omega) _ Ext.refl
 .refine ifF (by simpa using h1) ?_;walk_at "p";exact k0 (by cases z:ZD s.toList with|false=>rfl|true=>have:=Xu z;omega) _ Ext.refl
theorem Uc{s:String}(hl:s.length<=300000)(k1:Good s.toList->∀v g,Ext h g->Q v g)(k0:¬Good s.toList->∀g,Ext h g->X "NoLine" g):wF P (n+2) "read_line" [.str s] h Q X:=by
 obtain ⟨ws,w,e⟩:=snoc<|Zl (c:=' ') (a:=s.toList)
 have sl:s.toList.length=s.length:=Æ;have hwl:(Í w).length<=300000:=by
  have:=ZP (c:=' ') (a:=s.toList) w (by rw [e]; simp)
  rw[<-Æ,É];omega
 have hm:ws.length<=300000:=by
  have:=Yn (c:=' ') (a:=s.toList)
  rw[e,Ï,ż]at this;omega
 have es:(splitS ' ' s).map Val.str=(ws.map Í).map Val.str ++ [.str<|Í w]:=by unfold splitS; rw [e,æ,æ]; rfl
 have gd:Good s.toList↔ws∈wordsC/\ZD w=true:=by
  constructor
  .rintro⟨ws',w',e',h1,h2⟩;rw[e]at e';obtain⟨q1,q2⟩:=ý e' rfl;rw[q1,(ø q2).1];exact⟨h1,h2⟩
  .exact fun z=>⟨ws,w,e,z.1,z.2⟩
 refine Xi ?_
 refine' go_of (a:=' ') (by rfl) ⟨by rw [lim]; omega,?_⟩
 rw[es];refine Zn fun p hp=>?_;walk_at "py";rw[ZX];refine Zn fun q hq=>?_;have hpq:p≠q:=by walk_at "ne"
 exists go_of (WX<|ws.map Í)
 walk_at "py";have x1:=(Ext.new (o:=.lst<|(ws.map Í).map Val.str++[.str<|Í w]) hp).trans<|Ext.new (o:=.lst<|(ws.map Í).map Val.str) hq;refine FL (fun hc=>?_) fun hc=>?_
 .walk_at "p";refine' k0 (fun z=>hc<|words_in.mp (gd.mp z).1) _ x1
 .refine' ZL (xs:=(ws.map Í).map Val.str++[.str<|Í w]) (by walk_at "look") (YL _ _) ?_;refine' JM (ġ hwl<|by decide) fun g3 x3=>?_;rw[É];have x4:=x1.trans x3;have hp3:g3 p=some (.lst<|(ws.map Í).map Val.str++[.str<|Í w]):=x3.get (by walk_at "look");walk_at "py";cases z:ZD w with
  |false =>refine ifT rfl ?_;walk_at "p";exact k0 (fun y=>by have:=(gd.mp y).2;rw[z]at this;cases this) _ x4
  |true =>refine ifF rfl ?_;walk_at "py";walk_at "py";rw[ZX];refine Zn fun r hr=>?_;have hpr:p≠r:=Ys hp3 hr;refine' ZL (xs:=(ws.map Í).map Val.str++[.str<|Í w]) (by walk_at "look") (YL _ _) ?_;walk_at "py";have n6:=Xu z;refine in_str ⟨by rw[<-Æ,É];omega,by rw[É];intro y;rw[y]at n6;simp at n6,by rw[É];exact Ú.mpr<|XD z⟩ ?_;refine' KG (by have:=(Ja _ hc).1;simp only[È,Å,ä]at this ⊢;simp[lim];omega) ?_;exact k1 (gd.mpr ⟨words_in.mpr hc,z⟩) _ _<|x4.trans<|Ext.new hr
theorem Oo{s:String}(hl:s.length<=300000)(hn:¬Xp s.toList)(k:∀g,X "NoLine" g):wF P (n+3) "read_deeds" [.str s] h Q X:=by
 obtain⟨ls,l,e⟩:=snoc<|Zl (c:='\n') (a:=s.toList);have sl:s.toList.length=s.length:=Æ;have hm:ls.length<=300000:=by have:=Yn (c:='\n') (a:=s.toList);rw[e,Ï,ż]at this;omega
 have es:(splitS '\n' s).map Val.str=(ls.map Í).map Val.str++[.str<|Í l]:=by unfold splitS;rw[e,æ,æ];rfl
 refine YV ?_;refine' go_of (a:='\n') (by rfl) ⟨by rw[lim];omega,?_⟩;rw[es];refine Zn fun p hp=>?_
 exists ZL upd_same (YL _ _)
 refine' FL (fun hc=>?_) (fun hc=>?_)
 .walk_at "p";exact k _
 have el:l=[]:=by have:=congrArg ì hc;rwa [É]at this
 subst el;have bad:∃a∈ls,¬Good a:=Ś fun z=>hn ⟨ls,e,fun a ha=>Ś fun y=>z ⟨a,ha,y⟩⟩;walk_at "py";walk_at "py";rw[ZX];refine Zq fun q g1 hq x1 e1=>?_;refine' ⟨by rw[È,È];exact ġ hm (by decide),?_⟩;refine YW (fun i ys g=>Ext g1 g/\∀a∈ls.take i,Good a) ⟨Ext.refl,by simp⟩ (fun i ys g _ hI=>by show lsOf (g q)=_;rw[hI.1.get e1];rfl) ?_ ?_
 .rintro i v ys g hv ⟨x2,hg⟩ K hK;rw[ă,í]at hv;obtain⟨a,ha,rfl⟩:=ā.mp hv;have hal:(Í a).length<=300000:=by
   have:=ZP (c:='\n') (a:=s.toList) a (by rw[e];simp[ľ ha]);rw[<-Æ,É];omega
  walk_at "p";refine Uc hal (fun z u g2 x3=>?_) fun _ g2 _=>k g2;rw[É]at z;refine hK _ _ ⟨x2.trans x3,fun b hb=>?_⟩;rw[take_succ ha]at hb;rcases ö.mp hb with hb|hb
  .exact hg b hb
  .rw[ñ.mp hb];exact z
 .rintro ys g ⟨_,hg⟩;rw[È,È,ό]at hg;obtain⟨a,ha,hb⟩:=bad;exact absurd (hg a ha) hb
theorem Z4{s:String}(hl:s.length<=300000)(hn:¬Xp s.toList)(k:∀g,Q (.bl true) g):wF P (n+4) "_law_refused" [.str s] h Q X:=by
 refine Wh ?_;refine' Oo hl hn fun g=>?_;refine Dk (by decide) fun p hp=>?_;have ep:upd g p (.exc "NoLine") p=some (.exc "NoLine"):=upd_same;generalize upd g p (.exc "NoLine")=g1 at ep;walk_at "py"
 exists CL ep
 walk_at "p";walk_at "p";refine CL ep ?_;walk_at "p";walk_at "p";refine CL ep ?_;walk_at "p";walk_at "p";exact k _
theorem N0(h:n<1000000):ZD (Zf n).toList=true:=by
 have h1:1<=(Zf n).toList.length:=by rw[Zb];exact JZ n
 have h2:(Zf n).toList.length<=6:=by rw[Æ];exact YO h
 have h3:(Zf n).toList.all figB=true:=by rw[Zb,Ú];exact YF _
 unfold ZD;rw[decide_eq_true h1,decide_eq_true h2,h3];by_cases h0:n=0
 .subst h0;decide
 .obtain⟨d,l,e,d0,d9⟩:=Wn n (by omega);rw[Zb,e];have:ď d≠'0':=fun e5=>by
   have e4:(ď d).toNat=48:=by rw[e5];rfl
   rw[Yc d9]at e4;omega
  simp[this]
theorem Je:∀{a:List (List Char)}{b:List String},a.map Í=b->a=b.map ì
 |a,b,h=>by rw[<-h,ă,show ì ∘ Í=id from funext fun s=>É,ϐ]
theorem WW(h:d.ok):Good d.line.toList:=by
 have e:splitC ' ' d.line.toList=d.parts.map ì:=Je<|YD h
 unfold Dd.parts at e;rw[æ]at e;exact⟨_,_,e,ã.mpr ⟨d.ws,h.w,rfl⟩,N0 h.n⟩
theorem M6(h:∀d∈ds,d.ok):Xp (Zc ds).toList:=by have e:splitC '\n' (Zc ds).toList=(ds.map Dd.line++[""]).map ì:=Je<|XM h;rw[æ]at e;refine⟨_,e,fun l hl=>?_⟩;rw[ă]at hl;obtain⟨d,hd,rfl⟩:=ã.mp hl;exact WW (h d hd)
theorem Xd(ds:List Dd)(d:Dd):(Zc<|ds++[d]).toList=(Zc ds).toList++(d.line.toList++['\n']):=by unfold Zc;rw[KA,KA];simp[é]
theorem JD(ds:List Dd):(Zc ds).toList=[]\/∃a,(Zc ds).toList=a++['\n']:=by
 rcases aF ds with rfl|⟨r,d,rfl⟩
 .exact .inl rfl
 .rw[aG,Xd,<-â];exact .inr ⟨_,rfl⟩
theorem Kj(h:d.ok):' '∈d.line.toList:=by
 have e:splitC ' ' d.line.toList=d.parts.map ì:=Je<|YD h
 refine Ś fun z=>?_;rw[ZG z]at e;have:=congrArg List.length e;have hw:=(Ja _ h.w).2;unfold Dd.parts at this;simp only[È,Ï,Å,ä]at this;have:d.ws.length=0:=by omega
 exact hw<|ŗ this
structure BadS(s:String):Prop where
 nl:'\n'∉s.toList
 ng:¬Good s.toList
 len:s.length<=6000
noncomputable def Aw(s:String):Bool:=!s.toList.contains '\n'&&(!NN s.toList&&decide (s.length<=6000))
theorem W6{s:String}(h:Aw s=true):BadS s:=by unfold Aw at h;simp only[bAq,Ċ,decide_eq_true_eq]at h;exact⟨(fun z=>by rw[ï.mpr z]at h;exact absurd h.1<|by decide),(fun z=>by rw[UI z]at h;exact absurd h.2.1<|by decide),h.2.2⟩
theorem Xz(c:Char)(n:Nat):(repT (Ù c) n).toList=Ë n c:=by
 unfold repT;rw[É,ó];induction n with
 |zero=>rfl
 |succ n ih=>rw[û,č,ih];rfl
theorem XU{s:String}{c:Char}(hs:'\n'∉s.toList)(hl:s.length<=20)(h1:c≠'\n')(h2:c≠' '):BadS<|s ++ " " ++ repT (Ù c) 5000:=by
 have e:(s ++ " " ++ repT (Ù c) 5000).toList=s.toList ++ ' ' :: Ë 5000 c:=by
  rw[é,é,Xz,â];rfl
 refine⟨?_,?_,?_⟩
 .rw[e];intro z;rcases ö.mp z with z|z
  .exact hs z
  .rcases Î.mp z with z|z
   .exact absurd z (by decide)
   .exact h1 (ϴ z).symm
 .rw[e];rintro⟨ws,w,q1,q2,q3⟩;rw[Zu,ZG (a:=Ë 5000 c) fun z=>h2 (ϴ z).symm]at q1;have:=(Xu q3).2;rw[<-(ø (ý q1 rfl).2).1,Û]at this;omega
 .rw[<-Æ,e,Ï,Å,Û,Æ];omega
def Uq(v:Val):Prop:=∃s,v=.str s/\BadS s
noncomputable def Gy:Val->Bool
 |.str s=>Aw s
 |_=>false
variable {xs:List Val}
theorem ZM(h:xs.all Gy=true):∀v∈xs,Uq v:=fun v hv=>by
 have:=Ú.mp h v hv;cases v with
 |str s=>exact⟨s,rfl,W6 this⟩
 |_=>cases this
variable {ys:List Val}
theorem UH(h:∀v∈xs,Uq v)(k:∀v∈ys,Uq v):∀v∈xs++ys,Uq v:=fun v hv=>(ö.mp hv).elim (h v) (k v)
structure Bl(m:Nat)(xs:List Val):Prop where
 l1:1<=xs.length
 l2:xs.length<=m
 b:∀v∈xs,Uq v
theorem Bl.app{m k:Nat}(a:Bl m xs)(b:Bl k ys):Bl (m+k)<|xs++ys:=⟨by rw[Ï];have:=a.l1;omega,by rw[Ï];have:=a.l2;have:=b.l2;omega,UH a.b b.b⟩
variable {r:Int}
theorem J6{xs:List α}(r0:0<=r)(r1:r<xs.length):∃x,atI xs r=some x/\x∈xs:=by
 have h:r.toNat<xs.length:=by omega
 refine⟨xs[r.toNat],?_,Ů h⟩;unfold atI ixN;rw[if_pos r0,if_pos<|by omega];exact ß h
theorem Aa(k:∀p g xs,Ext h g->g p=some (.lst xs)->Bl 200 xs->Q (.ref p) g):wF P (n+1) "_law_bad_lines" [] h Q X:=by
 have lm:∀{m:Nat}{xs:List Val},Bl m xs->m<=200->xs.length<=lim:=fun a b=>Ç a.l2 (Ç b<|by decide);refine Xo ?_;walk_at "py";refine' Zq fun p0 g0 hp0 x0 e0=>?_;obtain⟨xs,e0,b0⟩:∃xs,g0 p0=some (.lst xs)/\Bl 20 xs:=⟨_,e0,by decide,by decide,ZM<|by decide⟩
 walk_at "py";refine' Zq fun q g hq x e=>?_;refine ZV (x.get e0) e (Ç (by rw[Ï];have:=b0.l2;simp only[Å,ä];omega:_<=200)<|by decide)<|Zq fun p1 g1 ak x1 e1=>?_;obtain⟨xs,e0,b0⟩:∃xs,g1 p1=some (.lst xs)/\Bl 32 xs:=⟨_,e1,b0.app (k:=12) ⟨by decide,by decide,ZM<|by decide⟩⟩
 have x0:=(x0.trans x).trans x1;walk_at "py";refine' Zq fun q g hq x e=>?_;refine ZV (x.get e0) e (Ç (by rw[Ï];have:=b0.l2;simp only[Å,ä];omega:_<=200)<|by decide)<|Zq fun p1 g1 ak x1 e1=>?_;obtain⟨xs,e0,b0⟩:∃xs,g1 p1=some (.lst xs)/\Bl 44 xs:=⟨_,e1,b0.app (k:=12) ⟨by decide,by decide,ZM<|by decide⟩⟩
 have x0:=(x0.trans x).trans x1;walk_at "py";refine' Zq fun q g hq x e=>?_;refine ZV (x.get e0) e (Ç (by rw[Ï];have:=b0.l2;simp only[Å,ä];omega:_<=200)<|by decide)<|Zq fun p1 g1 ak x1 e1=>?_;obtain⟨xs,e0,b0⟩:∃xs,g1 p1=some (.lst xs)/\Bl 56 xs:=⟨_,e1,b0.app (k:=12) ⟨by decide,by decide,ZM<|by decide⟩⟩
 have x0:=(x0.trans x).trans x1;walk_at "py";refine' Zq fun q g hq x e=>?_;refine ZV (x.get e0) e (Ç (by rw[Ï];have:=b0.l2;simp only[Å,ä];omega:_<=200)<|by decide)<|Zq fun p1 g1 ak x1 e1=>?_;obtain⟨xs,e0,b0⟩:∃xs,g1 p1=some (.lst xs)/\Bl 68 xs:=⟨_,e1,b0.app (k:=12) ⟨by decide,by decide,ZM<|by decide⟩⟩
 have x0:=(x0.trans x).trans x1;walk_at "py";refine' Zq fun q g hq x e=>?_;refine ZV (x.get e0) e (Ç (by rw[Ï];have:=b0.l2;simp only[Å,ä];omega:_<=200)<|by decide)<|Zq fun p1 g1 ak x1 e1=>?_;obtain⟨xs,e0,b0⟩:∃xs,g1 p1=some (.lst xs)/\Bl 80 xs:=⟨_,e1,b0.app (k:=12) ⟨by decide,by decide,ZM<|by decide⟩⟩
 have x0:=(x0.trans x).trans x1;walk_at "py";refine' Zq fun q g hq x e=>?_;refine ZV (x.get e0) e (Ç (by rw[Ï];have:=b0.l2;simp only[Å,ä];omega:_<=200)<|by decide)<|Zq fun p1 g1 ak x1 e1=>?_;obtain⟨xs,e0,b0⟩:∃xs,g1 p1=some (.lst xs)/\Bl 92 xs:=⟨_,e1,b0.app (k:=12) ⟨by decide,by decide,ZM<|by decide⟩⟩
 have x0:=(x0.trans x).trans x1;walk_at "py";refine' Zq fun q g hq x e=>?_;refine ZV (x.get e0) e (Ç (by rw[Ï];have:=b0.l2;simp only[Å,ä];omega:_<=200)<|by decide)<|Zq fun p1 g1 ak x1 e1=>?_;obtain⟨xs,e0,b0⟩:∃xs,g1 p1=some (.lst xs)/\Bl 104 xs:=⟨_,e1,b0.app (k:=12) ⟨by decide,by decide,ZM<|by decide⟩⟩
 have x0:=(x0.trans x).trans x1;walk_at "py";refine' KP (by decide) ?_;walk_at "py";have l9:∀c:Char,(repT (Ù c) 5000).length=5000:=fun c=>by rw[<-Æ,Xz,Û]
 refine Zp (Ç (show _<=5+5000 by have:=l9 '9';exact ê (by decide)<|av this)<|by decide) ?_;refine' KP (by decide) ?_;refine' Zp (Ç (show _<=9+5000 by have:=l9 '1';exact ê (by decide)<|av this)<|by decide) ?_;refine' Zq fun q g hq x e=>?_;refine ZV (x.get e0) e (Ç (by rw[Ï];have:=b0.l2;simp only[Å,ä];omega:_<=200)<|by decide)<|Zq fun p1 g1 ak x1 e1=>?_;have bl:Bl 12 [Val.str "lost 1.0",.str "back 0 tie",.str<|"come " ++ repT "9" 5000,.str<|"fall tie " ++ repT "1" 5000]:=⟨by decide,by decide,fun v hv=>by
   simp only[Î,ę,or_false]at hv
   rcases hv with rfl|rfl|rfl|rfl
   . exact⟨_,rfl,W6<|by decide⟩
   . exact⟨_,rfl,W6<|by decide⟩
   . exact⟨_,rfl,XU (s:="come") (c:='9') (by decide) (by decide) (by decide)<|by decide⟩
   . exact⟨_,rfl,XU (s:="fall tie") (c:='1') (by decide) (by decide) (by decide)<|by decide⟩⟩
 obtain⟨xs,e0,b0⟩:∃xs,g1 p1=some (.lst xs)/\Bl 116 xs:=⟨_,e1,b0.app bl⟩
 have x0:=(x0.trans x).trans x1;walk_at "py";refine' Zq fun q g hq x e=>?_;refine ZV (x.get e0) e (Ç (by rw[Ï];have:=b0.l2;simp only[Å,ä];omega:_<=200)<|by decide)<|Zq fun p1 g1 ak x1 e1=>?_;have b1:=b0.app (k:=12) (ys:=[Val.str "quiet 3",.str "net 4",.str "ways",.str "arrive 0",.str "tick 0 tick 0",.str "tick 3,",.str "tick, 3",.str "tick 3;come 0"]) ⟨by decide,by decide,ZM<|by decide⟩;exact k p1 g1 _ ((x0.trans x).trans x1) e1 ⟨b1.l1,Ç b1.l2 (by decide),b1.b⟩
noncomputable def headsL:List String:=["tick","come","lost","fall bridge","fall tie","back bridge","back tie"]
noncomputable def OS:List String:=["00","01","1000000","-1","+1","1.0","x","","1_0","0 0"," 0","0 ","000000"]
theorem Km:∀a∈headsL,∀b∈OS,Aw (a ++ " " ++ b)=true:=by decide
theorem OD:∀a∈headsL,'\n'∉a.toList/\a.length<=20:=by decide
def At(l:List Char)(c:Char)(m:Int)(is:List Int):Prop:=∀i∈is,0<=i/\i<m/\l[i.toNat]?=some c
theorem JY{c:Char}(h:l[i]?=some c):l=l.take i++c::l.drop (i+1):=by obtain⟨hi,e⟩:=ð.mp h;rw[<-e,<-Ŧ hi,List.take_append_drop]
theorem Y8{xs:List α}:cut xs none (some (i:Int))=xs.take i:=by unfold cut cutAt;simp only[Option.getD];rw[if_pos<|Ν i,đ];simp
theorem YH{xs:List α}:cut xs (some (i:Int)) none=xs.drop i:=by
 unfold cut cutAt;simp only[Option.getD];rw[if_pos<|Ν i,đ];by_cases z:i<=xs.length
 .rw[Nat.min_eq_left z];exact List.take_of_length_le (by rw[Ę];omega)
 .rw[Ŋ (by omega:xs.length<=min i xs.length),Ŋ (by omega:xs.length<=i)];simp
theorem Jw:(rangeV 0 m).length=m.toNat:=by unfold rangeV;rw[È,bT,Int.sub_zero]
variable {x:Char}
theorem ix_str{s:String}{K:Val->Prop}(hl:s.length<=lim)(e:s.toList[i]?=some x)(q:K<|.str<|Ù x):go (idxV h (.str s)<|.int i) K:=by
 refine go_of (a:=.str<|Ù x) ?_ q;show(if s.length<=lim then(atI s.toList i).map _ else none)=_;rw[if_pos hl];have hi:=(ð.mp e).1;have:atI s.toList (i:Int)=some x:=by unfold atI ixN;rw[if_pos<|Ν i,if_pos (by omega),đ];exact e
 rw[this];rfl
theorem one_eq{c:Char}:(Ù x=Ù c)↔x=c:=by
 constructor
 .intro e;have:=congrArg ì e;rw[ó,ó]at this;exact(ø this).1
 .rintro rfl;rfl
theorem Ay{a b:Int}(k:∀s g,BadS s->Ext h g->Q (.str s) g):wF P (n+1) "_law_bad_number" [.int a,.int b] h Q X:=by
 refine Y5 ?_;walk_at "py";refine' Zq fun p1 g1 ak x1 e1=>?_;walk_at "py";refine' KP (by decide) ?_;refine' Zq fun p2 g2 hp2 x2 e2=>?_;obtain⟨R,hR⟩:∃R,R=repT "7" (5000:Int).toNat:=⟨_,rfl⟩
 rw[<-hR]at e2;have e1':=x2.get e1;obtain⟨u,hu,um⟩:=J6 (xs:=headsL.map Val.str) (r:=a % 7) (by omega) (by show _<((7:Nat):Int);omega);obtain⟨v,hv,vm⟩:=J6 (xs:=[Val.str "00",.str "01",.str "1000000",.str "-1",.str "+1",.str "1.0",.str "x",.str "",.str R,.str "1_0",.str "0 0",.str " 0",.str "0 ",.str "000000"]) (r:=b % 14) (by omega) (by show _<((14:Nat):Int);omega);obtain⟨s,hs,rfl⟩:=ã.mp um;obtain⟨s1,s2⟩:=OD s hs;walk_at "py"
 exists ZL e1' hu
 refine' Zp (Ç (ê s2 (by decide:_<=1))<|by decide) ?_
 exists ZL e2 hv
 have key:∃r,v=.str r/\r.length<=5000/\BadS (s ++ " " ++ r):=by
  have sh:∀r∈OS,∃r',Val.str r=.str r'/\r'.length<=5000/\BadS (s ++ " " ++ r'):=fun r hr=>⟨r,rfl,Ç ((by decide:∀r∈OS,r.length<=10) r hr) (by decide),W6<|Km s hs r hr⟩
  have lg:∃r',Val.str R=.str r'/\r'.length<=5000/\BadS (s ++ " " ++ r'):=⟨R,rfl,by rw[hR];show(repT (Ù '7') 5000).length<=_;rw[<-Æ,Xz,Û];exact Ø _,by rw[hR];exact XU (c:='7') s1 s2 (by decide)<|by decide⟩
  simp only[Î,ę,or_false]at vm;rcases vm with rfl|rfl|rfl|rfl|rfl|rfl|rfl|rfl|rfl|rfl|rfl|rfl|rfl|rfl
  .exact sh _ (by decide)
  .exact sh _ (by decide)
  .exact sh _ (by decide)
  .exact sh _ (by decide)
  .exact sh _ (by decide)
  .exact sh _ (by decide)
  .exact sh _ (by decide)
  .exact sh _ (by decide)
  .exact lg
  .exact sh _ (by decide)
  .exact sh _ (by decide)
  .exact sh _ (by decide)
  .exact sh _ (by decide)
  .exact sh _ (by decide)
 obtain⟨r,rfl,hr,bs⟩:=key;have hl2:(s ++ " ").length<=21:=by rw[Ü];exact ê s2 (show(" " : String).length<=1 by decide)
 refine Zp (Ç (ê hl2 hr)<|by decide) ?_;refine' k _ g2 bs (x1.trans x2)
theorem Nl{s:String}{c:Int}(hl:s.length<=100000)(hf:Xp s.toList)(hb:' '∈s.toList)(k:∀t g,¬Xp t.toList->t.length<=200000->Q (.str t) g):wF P (n+1) "_law_joined" [.str s,.int c] h Q X:=by
 have hL:s.length<=lim:=Ç hl (by decide);have sl:s.toList.length=s.length:=Æ;have aO:0<s.length:=by rw[<-sl];exact aj hb
 refine W4 ?_
 exists XN hL
 refine' ⟨⟨by omega,by omega⟩,by rw[Jw];exact ġ (by omega:_<=100000) (by decide),?_⟩;refine YW (fun i ys g=>g=h/\∃is:List Int,ys=is.map .int/\At s.toList '\n' ((s.length:Int) - 1) is/\∀j:Nat,j<i->s.toList[j]?=some '\n'->(j:Int)∈is) ⟨rfl,[],rfl,(fun i hi=>by cases hi),fun j hj=>absurd hj<|Nat.not_lt_zero j⟩ (fun _ _ _ _ _=>trivial) ?_ ?_
 .rintro i v ys g hv ⟨rfl,is,rfl,ha,hc⟩ K hK;obtain⟨rfl,hi⟩:=W7 hv;have hi2:i<s.toList.length:=by omega
  have ex:=ß hi2;generalize s.toList[i]=x at ex
  exists ix_str hL ex
  refine' ifP (fun hd=>?_) (fun hd=>?_)
  .have hx:x = '\n':=one_eq.mp hd;subst hx;refine' hK _ _ ⟨rfl,is++[(i:Int)],by rw[æ];rfl,fun j hj=>?_,fun j hj ej=>?_⟩
   .rcases ö.mp hj with hj|hj
    .exact ha j hj
    .rw[ñ.mp hj];exact⟨by omega,hi,by rw[đ];exact ex⟩
   .by_cases z:j=i
    .subst z;simp
    .exact Ľ _ (hc j (by omega) ej)
  .refine hK _ _ ⟨rfl,is,by simp,ha,fun j hj ej=>?_⟩;by_cases z:j=i
   .subst z;rw[ex]at ej;exact absurd (one_eq.mpr<|Ā ej) hd
   .exact hc j (by omega) ej
 rintro ys g ⟨rfl,fs,rfl,ha,_⟩;refine Zq fun p1 g1 ak x1 e1=>?_
 exists XN hL
 refine' ⟨⟨by omega,by omega⟩,by rw[Jw];exact ġ (by omega:_<=100000) (by decide),?_⟩
 refine YW (fun i ys g=>g=g1/\∃is:List Int,ys=is.map .int/\At s.toList ' ' (s.length:Int) is/\∀j:Nat,j < i->s.toList[j]?=some ' '->(j:Int)∈is) ⟨rfl,[],rfl,(fun i hi=>by cases hi),fun j hj=>absurd hj<|Nat.not_lt_zero j⟩ (fun _ _ _ _ _=>trivial) ?_ ?_
 .rintro i v ys g hv ⟨rfl,is,rfl,ha,hc⟩ K hK;obtain⟨rfl,hi⟩:=W7 hv;have hi2:i<s.toList.length:=by omega
  have ex:=ß hi2;generalize s.toList[i]=x at ex
  exists ix_str hL ex
  refine' ifP (fun hd=>?_) (fun hd=>?_)
  .have hx:x = ' ':=one_eq.mp hd
   subst hx;refine' hK _ _ ⟨rfl,is++[(i:Int)],by rw[æ];rfl,fun j hj=>?_,fun j hj ej=>?_⟩
   .rcases ö.mp hj with hj|hj
    .exact ha j hj
    .rw[ñ.mp hj];exact⟨by omega,hi,by rw[đ];exact ex⟩
   .by_cases z:j=i
    .subst z;simp
    .exact Ľ _ (hc j (by omega) ej)
  .refine hK _ _ ⟨rfl,is,by simp,ha,fun j hj ej=>?_⟩;by_cases z:j=i
   .subst z;rw[ex]at ej;exact absurd (one_eq.mpr<|Ā ej) hd
   .exact hc j (by omega) ej
 rintro ys g ⟨rfl,bl,rfl,hbl,hbc⟩;rw[Jw,đ]at hbc;refine Zq fun p2 g2 hp2 x2 e2=>?_;have e1':=x2.get e1;have Ψ:0<bl.length:=by obtain⟨j,hj⟩:=aC.mp hb;exact aj (hbc j (by rw[<-sl];exact(ð.mp hj).1) hj)
 have last:∀{g:Hs}{K:NQ},g p2=some (.lst<|bl.map Val.int)->wSs (wF P n) #[.set (.one 2)<|.idx (.var 4)<|.bin .mod (.bin .fdiv (.var 1)<|.cst<|.int 2)<|.bi .len #[.var 4],.ret<|.bin .add (.bin .add (.slc (.var 0) .none<|.some<|.var 2)<|.cst<|.str "\n")<|.slc (.var 0) (.some<|.bin .add (.var 2)<|.cst<|.int 1) .none] [some<|.str s,some<|.int c,none,some<|.ref p1,some<|.ref p2] g (fun _ g=>Q .non g) Q (fun _ _=>False) (fun _ _=>False) fun _ c g=>X c g:=fun{g K} E2=>by
  have bll:(bl.map Val.int).length=bl.length:=È _;walk_at "py";walk_at "py";obtain⟨v,hv,vm⟩:=J6 (xs:=bl.map Val.int) (r:=c / 2 % ((bl.map Val.int).length:Int)) (ķ _<|by rw[È];omega) (Ģ _<|by rw[È];omega);obtain⟨i,im,rfl⟩:=ã.mp vm;obtain⟨i0,i1,ie⟩:=hbl i im;obtain⟨j,rfl⟩:∃j:Nat,i=j:=⟨i.toNat,by omega⟩
  rw[đ]at ie;have e:=JY ie;refine ZL E2 hv ?_;walk_at "py"
  exists sl_str hL
  refine' Zp (Ç (ê (show _<=100000 by rw[<-Æ,É,Y8,ċ];omega)<|show("\n" : String).length<=1 by decide)<|by decide) ?_
  exists sl_str hL
  walk_at "py";rw[Y8,show(j:Int)+1=((j+1:Nat):Int) by omega,YH];have l1:(Í (s.toList.take j) ++ "\n").length<=100001:=by rw[<-Æ,é,É,Ï,ċ];exact ê (by omega) (show("\n" : String).toList.length<=1 by decide)
  have l2:(Í<|s.toList.drop<|j+1).length<=99999:=by rw[<-Æ,É,Ę];omega
  refine Zp (Ç (ê l1 l2)<|by decide) ?_;refine' k _ _ ?_ (by rw[Ü];omega);rw[show(Í (s.toList.take j) ++ "\n" ++ Í (s.toList.drop<|j+1)).toList=s.toList.take j ++ '\n'::s.toList.drop (j+1) by simp only[é,É,â];rfl];rw[e]at hf;exact M8 hf
 walk_at "py";refine' ifP (fun hd=>?_) (fun hd=>?_)
 .walk_at "py";refine' Zq fun p3 g3 hp3 x3 e3=>?_;have e1'':=x3.get e1';refine Mq (KS e1'' e3) ?_;walk_at "py";cases fs with
  |nil =>refine ifF rfl ?_;exact last (K:=fun _ _=>True)<|x3.get e2
  |cons f0 fr =>
   refine ifT rfl ?_;have fll:((f0::fr).map Val.int).length=fr.length+1:=by simp
   walk_at "py";walk_at "py";obtain⟨v,hv,vm⟩:=J6 (xs:=(f0::fr).map Val.int) (r:=c / 2 % (((f0::fr).map Val.int).length:Int)) (ķ _<|by rw[fll];omega) (Ģ _<|by rw[fll];omega);obtain⟨i,im,rfl⟩:=ã.mp vm;obtain⟨i0,i1,ie⟩:=ha i im;obtain⟨j,rfl⟩:∃j:Nat,i=j:=⟨i.toNat,by omega⟩
   rw[đ]at ie;have e:=JY ie;refine ZL e1'' hv ?_;walk_at "py"
   exists sl_str hL
   refine' Zp (Ç (ê (show _<=100000 by rw[<-Æ,É,Y8,ċ];omega)<|show(" " : String).length<=1 by decide)<|by decide) ?_
   exists sl_str hL
   walk_at "py";rw[Y8,show(j:Int)+1=((j+1:Nat):Int) by omega,YH];have l1:(Í (s.toList.take j) ++ " ").length<=100001:=by rw[<-Æ,é,É,Ï,ċ];exact ê (by omega) (show(" " : String).toList.length<=1 by decide)
   have l2:(Í<|s.toList.drop<|j+1).length<=99999:=by rw[<-Æ,É,Ę];omega
   refine Zp (Ç (ê l1 l2)<|by decide) ?_;refine' k _ _ ?_ (by rw[Ü];omega)
   rw [show (Í (s.toList.take j) ++ " " ++ Í (s.toList.drop<|j + 1)).toList=s.toList.take j ++ ' ' :: s.toList.drop (j + 1) by simp only [é,É,â]; rfl]
   rw[e]at hf;exact KK hf (fun z=>by have:=congrArg List.length z;rw[Ę]at this;simp at this;omega)
 .refine ifF rfl ?_;exact last (K:=fun _ _=>True) e2
noncomputable def tl:Nat->Ss->Ss
 |0,s=>s
 |n+1,.cons _ s=>tl n s
 |_+1,s=>s
noncomputable def lnL(ds:List Dd):List String:=ds.map fun d=>d.line ++ "\n"
theorem Ms{ss:List String}(e:h a=some (.lst<|ss.map .str))(e2:h p=some (.lst [])):eqV h (.ref a) (.ref p)=some ss.isEmpty:=by
 have h1:dat h deep (.ref a)=some (.lst<|ss.map .str):=by show(lsOf<|h a).bind (fun xs=>(xs.mapM<|dat h 11).map D.lst)=_;rw[e,YM,õ,Yg (g:=dat h 11) (k:=D.str) fun x _=>rfl];rfl
 have h2:dat h deep (.ref p)=some (.lst []):=by show(lsOf<|h p).bind (fun xs=>(xs.mapM<|dat h 11).map D.lst)=_;rw[e2,YM,õ];rfl
 unfold eqV;rw[h1,h2];cases ss<;>rfl
theorem Ak:∀c∈"ABXYZ_-+.,;:#'\x22*/|!&@^=<>~`$()[]{}".toList,c≠'\n'/\sgn c=false:=by decide
theorem JF{β:Type}(f:α->β)(xs:List α)(lo hi:Option Int):cut (xs.map f) lo hi=(cut xs lo hi).map f:=by unfold cut;rw[È,χ,ψ]
theorem A9{xs:List α}{lo hi:Option Int}:(cut xs lo hi).length<=xs.length:=by unfold cut;rw[ċ,Ę];omega
theorem Cw{s:String}{K:Val->Prop}(hl:s.length<=lim)(r0:0<=r)(r1:r<s.length)(q:∀x∈s.toList,K<|.str<|Ù x):go (idxV h (.str s)<|.int r) K:=by
 obtain⟨j,rfl⟩:∃j:Nat,r=j:=⟨r.toNat,by omega⟩
 have hj:j<s.toList.length:=by rw[Æ];omega
 exact ix_str hl (ß hj)<|q _<|Ů hj
theorem Ma{dr ln:Ad}{way wh wc:Int}(hd:∀d∈ds,d.ok)(hl:ds.length<=20)(w0:0<=wh)(c0:0<=wc)(k:∀g,Q (.bl true) g)(er:h ln=some (.lst<|(lnL ds).map .str)):wSs (wF P<|n+4) (tl 6 HY.body) [some<|.scr ns,some<|.ref dr,some<|.int way,some<|.int wh,some<|.int wc,some<|.ref ln,none,none,none,none,none] h (fun _ g=>Q .non g) Q (fun _ _=>False) (fun _ _=>False) fun _ c g=>X c g:=by
 have l2:(lnL ds).length=ds.length:=È _;have l3:((lnL ds).map Val.str).length=ds.length:=by rw[È,l2]
 have tlen:=Yq hd (by omega:ds.length<=2000);have tb:=Xy hd (by omega:ds.length<=2000);have jn:∀{g:Hs}{a:Ad}{es:List Dd}{K:Val×Hs->Prop},(∀d∈es,d.ok)->es.length<=20->g a=some (.lst<|(lnL es).map .str)->K (.str<|Zc es,g)->go (bmV g .join (.str "") [.ref a]) K:=fun he hn ea q=>Ee ea (X8 _) (Ç (Xy he<|by omega)<|by decide) q
 let V:Option Val->Option Val->Option Val->Option Val->Option Val->Env:=fun a b c d e=>[some<|.scr ns,some<|.ref dr,some<|.int way,some<|.int wh,some<|.int wc,some<|.ref ln,a,b,c,d,e]
 let W:Ss->Env->Hs->Prop:=fun s e g=>wSs (wF P<|n+4) s e g (fun _ g=>Q .non g) Q (fun _ _=>False) (fun _ _=>False) fun _ c g=>X c g
 have at0:0<=wh % ((ds.length:Int)+1)/\wh % ((ds.length:Int)+1)<(ds.length:Int)+1:=⟨ķ _ (by omega),Ģ _<|by omega⟩
 obtain⟨m,hm⟩:∃m:Nat,wh % ((ds.length:Int)+1)=m:=⟨(wh % ((ds.length:Int)+1)).toNat,by omega⟩
 have W14:∀{g:Hs}{a b c:Option Val}{s:String},g ln=some (.lst<|(lnL ds).map .str)->BadS s->W (tl 14 HY.body) (V (some<|.int m) a b c<|some<|.str s) g:=fun{g a b c s} er bs=>by
  dsimp only[tl,HY,W,V];walk_at "py";refine' Zq fun p1 g1 ak x1 e1=>?_;rw[JF,Y8,show(lnL ds).take m=lnL (ds.take m) from (χ ..).symm]at e1;have bu:=x1.get er;have h1:∀d∈ds.take m,d.ok:=fun d hd'=>hd d<|List.mem_of_mem_take hd';have h2:∀d∈ds.drop m,d.ok:=fun d hd'=>hd d<|List.mem_of_mem_drop hd';have n1:(ds.take m).length<=20:=by rw[ċ];omega
  have n2:(ds.drop m).length<=20:=by rw[Ę];omega
  have t1:=Yq h1 (by omega);have t2:=Yq h2 (by omega)
  exists jn h1 n1 e1
  refine' Zp (Ç (ê t1 bs.len)<|by decide) ?_;walk_at "py";have q1:(Zc (ds.take m)++s).length<=106000:=by rw[Ü];have:=bs.len;omega
  refine Zp (Ç (ê q1<|show("\n" : String).length<=1 by decide)<|by decide) ?_;refine' Zq fun p2 g2 hp2 x2 e2=>?_;rw[JF,YH,show(lnL ds).drop m=lnL (ds.drop m) from (ψ ..).symm]at e2
  exists jn h2 n2 e2
  walk_at "py";have q2:(Zc (ds.take m)++s ++ "\n").length<=106001:=by rw[Ü];exact ê q1 (show("\n" : String).length<=1 by decide)
  have q3:=ê q2 t2;refine Zp (Ç q3<|by decide) ?_;refine' Z4 (by rw[Ü (s:=Zc (ds.take m)++s ++ "\n")];omega) ?_ k;rw[show(Zc (ds.take m)++s ++ "\n" ++ Zc (ds.drop m)).toList=(Zc<|ds.take m).toList++s.toList ++ '\n'::(Zc<|ds.drop m).toList by simp only[é,â];rfl];exact MT bs.nl bs.ng<|JD _
 have W11:∀{g:Hs},g ln=some (.lst<|(lnL ds).map .str)->W (tl 11 HY.body) (V (some<|.int m) none none none none) g:=fun{g} er=>by
  dsimp only[tl,HY,W,V];refine' Aa fun p1 g1 xs x1 e1 bl=>?_;have bu:=x1.get er;have hx:=bl.l1;obtain⟨v,hv,vm⟩:=J6 (xs:=xs) (r:=wc % (xs.length:Int)) (ķ _<|by omega) (Ģ _<|by omega);obtain⟨s,rfl,bs⟩:=bl.b v vm;walk_at "py"
  exists ZL e1 hv
  refine' ifP (fun hc=>?_) (fun hc=>?_)
  .walk_at "py";refine' Ay fun s2 g2 b2 x2=>?_;have:=W14 (a:=none) (b:=none) (c:=some<|.ref p1) (x2.get bu) b2
   repeat (first|exact this|walk_at "py1")
  .exact W14 bu bs
 have ac:∀{xs:List String},xs=lnL ds->xs.isEmpty=false->∃r d,ds=r++[d]:=fun{xs} e h=>by
  rcases aF ds with z|⟨r,d,z⟩
  .rw[e,z]at h;cases h
  .exact⟨r,d,by rw[z,aG]⟩
 have W10:∀{g:Hs},g ln=some (.lst<|(lnL ds).map .str)->W (tl 10 HY.body) (V (some<|.int m) none none none none) g:=fun{g} er=>by
  dsimp only[tl,HY,W,V];refine' ifP (fun hc=>?_) (fun hc=>?_)
  .walk_at "py";refine' Zq fun p1 g1 ak x1 e1=>?_;have bu:=x1.get er;refine Mq (Ms bu e1) ?_;walk_at "py";cases z:(lnL ds).isEmpty with
   |true=>exact W11 bu
   |false =>
    obtain⟨r,d,e⟩:=ac rfl z
    have hbk:' '∈(Zc ds).toList:=by
     rw[e,Xd];have:=Kj (hd d<|by rw[e];simp);simp[this]
    walk_at "p"
    exists jn hd hl bu
    refine' Nl tlen (M6 hd) hbk fun t g2 nf nl=>?_;refine' Z4 (by omega) nf k
  .exact W11 er
 have W9:∀{g:Hs},g ln=some (.lst<|(lnL ds).map .str)->W (tl 9 HY.body) (V (some<|.int m) none none none none) g:=fun{g} er=>by
  dsimp only[tl,HY,W,V];refine' ifP (fun hc=>?_) (fun hc=>?_)
  .have sl:(Zc ds).toList.length=(Zc ds).length:=Æ;have hL:(Zc ds).length<=lim:=Ç tlen (by decide);have a0:0<=wh % (((Zc ds).length:Int)+1)/\wh % (((Zc ds).length:Int)+1)<((Zc ds).length:Int)+1:=⟨ķ _ (by omega),Ģ _<|by omega⟩
   walk_at "py"
   exists jn hd hl er
   walk_at "py"
   exists XN hL
   walk_at "py";obtain⟨j,hj⟩:∃j:Nat,wh % (((Zc ds).length:Int)+1)=j:=⟨(wh % (((Zc ds).length:Int)+1)).toNat,by omega⟩
   rw[hj];refine Cw (by decide) (ķ _<|by decide) (Ģ _<|by decide) fun x hx=>?_;obtain⟨x1,x2⟩:=Ak x hx
   exists sl_str hL
   walk_at "py";have one:(Ù x).length<=1:=by rw[<-Æ,ó];exact Ø _
   have q1:(Í<|cut (Zc ds).toList none<|some (j:Int)).length<=100000:=by rw[<-Æ,É,Y8,ċ];omega
   refine Zp (Ç (ê q1 one)<|by decide) ?_
   exists sl_str hL
   walk_at "py";have q2:(Í (cut (Zc ds).toList none<|some (j:Int))++Ù x).length<=100001:=by rw[Ü];exact ê q1 one
   have q3:(Í<|cut (Zc ds).toList (some (j:Int)) none).length<=100000:=by rw[<-Æ,É,YH,Ę];omega
   refine Zp (Ç (ê q2 q3)<|by decide) ?_;refine' Z4 (by rw[Ü];omega) (M3 (c:=x) ?_ x1 x2) k;rw[é,é,ó];simp
  .exact W10 er
 have W8:∀{g:Hs},g ln=some (.lst<|(lnL ds).map .str)->W (tl 8 HY.body) (V (some<|.int m) none none none none) g:=fun{g} er=>by
  dsimp only[tl,HY,W,V];refine' ifP (fun hc=>?_) (fun hc=>?_)
  .walk_at "py";refine' Zq fun p1 g1 ak x1 e1=>?_;have bu:=x1.get er;refine Mq (Ms bu e1) ?_;walk_at "py";cases z:(lnL ds).isEmpty with
   |true=>exact W9 bu
   |false =>
    obtain⟨r,d,e⟩:=ac rfl z;have hdo:=hd d (by rw[e];simp);have hL:(Zc ds).length<=lim:=Ç tlen (by decide);walk_at "p"
    exists jn hd hl bu
    exists sl_str hL
    walk_at "py";have ec:cut (Zc ds).toList none (some (-1))=(Zc r).toList++d.line.toList:=by rw[e,Xd,<-â,ZX]
    rw[ec];refine Z4 ?_ ?_ k
    .rw[<-Æ,É,<-ec];have:=A9 (xs:=(Zc ds).toList) (lo:=none) (hi:=some (-1));rw[Æ]at this;omega
    .rw[É];exact Oz (WW hdo).ne hdo.line_no<|JD r
  .exact W9 er
 dsimp only[tl,HY]
 exists jn hd hl er
 refine' AI hd (by omega) fun p1 g1 ak x1 e1=>?_;have bu:=x1.get er;walk_at "py";rw[È,l3];refine ifF (by simp) ?_;have e8:W (tl 8 HY.body) (V (some<|.int<|wh % ((((lnL ds).map Val.str).length:Int)+1)) none none none none) g1:=by rw[l3,hm];exact W8 bu
 walk_at "w"
 repeat (first|exact e8|walk_at "py1")
theorem law_ok(h63:ns.length<=63)(k:∀g,Q (.bl true) g):wF P (n+5) "law" [.scr ns] h Q X:=by
 refine Gc ?_;refine' Uf h63 fun dr g1 hdr i1=>?_;refine' ZN i1 (by decide) fun way g2 _ _ x2 i2=>?_;refine' ZN i2 (by decide) fun wh g3 w0 _ x3 i3=>?_;refine' ZN i3 (by decide) fun wc g4 c0 _ x4 i4=>?_;refine' Zn fun ln hln=>?_;have hdw:=i4.ne hln;refine' WJ (m:=20) (fun m e g=>∃ds:List Dd,e=[some<|.scr ns,some<|.ref dr,some<|.int way,some<|.int wh,some<|.int wc,some<|.ref ln,none,none,none,none,none]/\m+ds.length=20/\(∀d∈ds,d.ok)/\g ln=some (.lst<|(lnL ds).map .str)/\Ints g dr) ⟨[],rfl,rfl,by simp,by rw[upd_same];rfl,i4.ext<|Ext.new hln⟩ ?_;rintro m e g ⟨ds,rfl,hm,hd,er,i3⟩ K hK;obtain⟨zs,ez⟩:=i3;refine' Zn fun p hp=>?_;have hdp:dr≠p:=Ys ez hp;have hrp:ln≠p:=Ys er hp;refine Mq (KS (ns:=zs) (upd_ne' hdp ez) upd_same) ?_;walk_at "py";cases zs with
 |nil =>refine ifF rfl ?_;refine ifF rfl ?_;exact Ma hd (by omega) w0 c0 k<|upd_ne' hrp er
 |cons z zs =>
  refine ifT rfl ?_;refine' ifP (fun hc=>?_) (fun hc=>?_)
  .refine' JV (P:=P) ⟨z::zs,upd_ne' hdp ez⟩ fun d g4 hok x4 i4=>?_;have hrd:ln≠dr:=fun z=>hdw z.symm;have er4:g4 ln=some (.lst<|(lnL ds).map .str):=x4.get hrd (upd_ne' hrp er)
   exists AO hok
   walk_at "py";have:=hok.line_len;refine Zp (Ç (ê this<|show("\n" : String).length<=1 by decide)<|by decide) ?_;refine' ZY er4 (by rw[È];unfold lnL;rw[È,lim];omega) ?_;walk_at "py";unfold lnL at hc;rw[È,È]at hc;refine hK (m - 1) _ _ (by omega) ⟨ds++[d],rfl,by simp;omega,fun x hx=>?_,by show upd _ ln _ ln=_;rw[upd_same];unfold lnL;rw[æ,æ];rfl,?_⟩
   .rcases ö.mp hx with hx|hx
    .exact hd x hx
    .cases ñ.mp hx;exact hok
   .obtain⟨ys,ey⟩:=i4;exact⟨ys,by show upd _ ln _ dr=_;rw[upd_ne hdw];exact ey⟩
  .exact Ma hd (by omega) w0 c0 k<|upd_ne' hrp er
end Own
set_option maxRecDepth 1000000
set_option maxHeartbeats 0
namespace My
open PySem L2 Snd PySem.W
noncomputable def top(i:Nat):Stmt:=PySem.Challenge.pw_shutways_k80_texts_of_no_deeds.main.body.getD i<|.Pass ⟨0,0,0,0⟩
noncomputable def x0:Ds:=⟨top 11,["word","most_figures"],["word","most_figures"],Own.HZ⟩
noncomputable def x1:Ds:=⟨top 15,["text","lines"],["text"],Own.H9⟩
noncomputable def x2:Ds:=⟨top 16,["line","words"],["line"],Own.IZ⟩
noncomputable def x3:Ds:=⟨top 18,["script","draws","k","rest","stir","many"],["script"],Own.HU⟩
noncomputable def x4:Ds:=⟨top 19,["draws","many"],["draws","many"],Own.HV⟩
noncomputable def x5:Ds:=⟨top 20,["draws","way"],["draws"],Own.HR⟩
noncomputable def x6:Ds:=⟨top 21,["draws","way","number"],["draws"],Own.HX⟩
noncomputable def x7:Ds:=⟨top 22,["some","text","part"],["some"],Own.HQ⟩
noncomputable def x8:Ds:=⟨top 23,["some"],[],Own.HW⟩
noncomputable def x9:Ds:=⟨top 24,["first","second","heads","ends"],["first","second"],Own.HN⟩
noncomputable def x10:Ds:=⟨top 25,["text","first","at","feeds","blanks"],["text","first"],Own.HP⟩
noncomputable def x11:Ds:=⟨top 26,["text","told","e"],["text"],Own.HS⟩
noncomputable def x12:Ds:=⟨top 27,["script","draws","way","where","which","lines","at","text","sign","some","bad"],["script"],Own.HY⟩
noncomputable def tb:Tb where
 fs:=[("is_numeral",x0),("read_deeds",x1),("read_line",x2),("_law_draws",x3),("_law_take",x4),("_law_number",x5),("_law_any_deed",x6),("_law_line",x7),("_law_bad_lines",x8),("_law_bad_number",x9),("_law_joined",x10),("_law_refused",x11),("law",x12)]
 ms:=[]
 cs:=[("FIGURES",(.str "0123456789")),("DEEDS",(.tup [(.tup [(.str "tick")]),(.tup [(.str "come")]),(.tup [(.str "lost")]),(.tup [(.str "fall"),(.str "bridge")]),(.tup [(.str "fall"),(.str "tie")]),(.tup [(.str "back"),(.str "bridge")]),(.tup [(.str "back"),(.str "tie")])])),("MOST_FIGURES",(.int 6))]
 cl:=[]
 fl:=[]
 xs:=["NoOrder","NoLine","NoFrame","NoCommand","NoNet","NoLetter","NoDeed"]
noncomputable def pg:Own.Pg:=fun f=>(([("is_numeral",Own.HZ),("read_deeds",Own.H9),("read_line",Own.IZ),("_law_draws",Own.HU),("_law_take",Own.HV),("_law_number",Own.HR),("_law_any_deed",Own.HX),("_law_line",Own.HQ),("_law_bad_lines",Own.HW),("_law_bad_number",Own.HN),("_law_joined",Own.HP),("_law_refused",Own.HS),("law",Own.HY)]:List<|String×Own.Fn).lookup f)
instance:Own.Al pg:=⟨rfl,rfl,rfl,rfl,rfl,rfl,rfl,rfl,rfl,rfl,rfl,rfl,rfl⟩
variable {α:Type} {p:List α->Prop}
theorem ar0(h:p [])(us:List α)(e:us.length=0):p us:=match us,e with|[],_=>h
theorem ar1(h:∀a0,p [a0])(us:List α)(e:us.length=1):p us:=match us,e with|[a0],_=>h a0
theorem ar2(h:∀a0 a1,p [a0,a1])(us:List α)(e:us.length=2):p us:=match us,e with|[a0,a1],_=>h a0 a1
variable {P:String->Ds->Prop}
theorem mc{f:String}{x:Ds}{l:List (String×Ds)}(h:P f x)(k:∀g y,(g,y)∈l->P g y):∀g y,(g,y)∈(f,x)::l->P g y:=fun g y m=>by
 rcases Î.mp m with e|m
 .cases e;exact h
 .exact k g y m
theorem mn:∀g y,(g,y)∈([]:List<|String×Ds)->P g y:=fun _ _ m=>nomatch m
theorem tab_ok:∀f x,(f,x)∈tb.fs->x.Ok tb:=mc ⟨by kernel_rfl,by kernel_rfl⟩ (mc ⟨by kernel_rfl,by kernel_rfl⟩<|mc ⟨by kernel_rfl,by kernel_rfl⟩<|mc ⟨by kernel_rfl,by kernel_rfl⟩<|mc ⟨by kernel_rfl,by kernel_rfl⟩<|mc ⟨by kernel_rfl,by kernel_rfl⟩<|mc ⟨by kernel_rfl,by kernel_rfl⟩<|mc ⟨by kernel_rfl,by kernel_rfl⟩<|mc ⟨by kernel_rfl,by kernel_rfl⟩<|mc ⟨by kernel_rfl,by kernel_rfl⟩<|mc ⟨by kernel_rfl,by kernel_rfl⟩<|mc ⟨by kernel_rfl,by kernel_rfl⟩<|mc ⟨by kernel_rfl,by kernel_rfl⟩<|mn)
theorem tab_pg:∀f x,(f,x)∈tb.fs->pg f=some x.d:=mc rfl (mc rfl<|mc rfl<|mc rfl<|mc rfl<|mc rfl<|mc rfl<|mc rfl<|mc rfl<|mc rfl<|mc rfl<|mc rfl<|mc rfl<|mn)
theorem tab_bd:∀f x,(f,x)∈tb.fs->Hd.Bd (Str.ofString f) (Str.ofString f) x:=mc (fun _ _ _ _ _ _=>ar2 fun _ _=>rfl) (mc (fun _ _ _ _ _ _=>ar1 fun _=>rfl)<|mc (fun _ _ _ _ _ _=>ar1 fun _=>rfl)<|mc (fun _ _ _ _ _ _=>ar1 fun _=>rfl)<|mc (fun _ _ _ _ _ _=>ar2 fun _ _=>rfl)<|mc (fun _ _ _ _ _ _=>ar1 fun _=>rfl)<|mc (fun _ _ _ _ _ _=>ar1 fun _=>rfl)<|mc (fun _ _ _ _ _ _=>ar1 fun _=>rfl)<|mc (fun _ _ _ _ _ _=>ar0 rfl)<|mc (fun _ _ _ _ _ _=>ar2 fun _ _=>rfl)<|mc (fun _ _ _ _ _ _=>ar2 fun _ _=>rfl)<|mc (fun _ _ _ _ _ _=>ar1 fun _=>rfl)<|mc (fun _ _ _ _ _ _=>ar1 fun _=>rfl)<|mn)
theorem tab_om:∀y,y∈tb.ms->y.x.Ok tb:=fun _ h=>nomatch h
theorem tab_pm:∀y,y∈tb.ms->pg (y.C ++ "." ++ y.m)=some y.x.d:=fun _ h=>nomatch h
theorem tab_bm:∀y,y∈tb.ms->Hd.Bd (Str.ofString y.m) (Str.ofString y.qual) y.x:=fun _ h=>nomatch h
theorem law_in:("law",x12)∈tb.fs:=ľ (i:=12) rfl
noncomputable abbrev pr:Program:=PySem.Challenge.rw_shutways_k80_texts_of_no_deeds.row.prog
noncomputable abbrev vw:Program:=PySem.W.view pr [1,2,3,4,5,6,7,8,10,11,12,14,15,16,18,19,20,21,22,23,24,25,26,27]
noncomputable abbrev xt(s:Shared):Bool:=xlAt vw [] s&&recOk (RowW.records PySem.Challenge.rw_shutways_k80_texts_of_no_deeds.row.toRowW) s
theorem said:PySem.Challenge.rw_shutways_k80_texts_of_no_deeds.wellSaid=true:=by rw[Fast.te9446332074065402090];kernel_rfl
theorem left:LeftO pr vw [] xt (Hd.hook tb).obs (Hd.hook tb).val 12000:=Hd.left_of (by kernel_rfl) rfl (fun s=>by kernel_rfl) fun w os=>by kernel_rfl
end My
open PySem PySem.W PyProof.Rows
theorem PySem.Challenge.cw_shutways_k80_texts_of_no_deeds_holds : PySem.Challenge.rw_shutways_k80_texts_of_no_deeds.Holds := by
 refine holds_law My.said fun said=>?_;refine holds_open (q:=My.vw) (loose:=[]) (Xt:=My.xt) (XP:=XL My.vw []) (YP:=(Hd.hook My.tb).says) My.left (Hook.of _) (Hook.keeps _) (fun s e=>xl_of s (ε.mp e).1) XL.keeps (by rfl) (by rfl) (by rfl) (fun s e=>recFacts_of (ε.mp e).2) (by rfl) said (by decide +kernel) ⟨rfl,rfl,rfl,rfl,rfl,by decide +kernel⟩ ?hw ?hc
 case hw=>w_on;w_witness2
 case hc=>exact Hd.law_walk (k:=4) rfl rfl rfl ⟨rfl,by decide,by decide⟩ My.law_in rfl rfl My.tab_pg My.tab_pm My.tab_ok My.tab_om My.tab_bd My.tab_bm fun ns hl=>Own.law_ok (n:=0) hl fun _=>rfl
