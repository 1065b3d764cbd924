import PyProof.Rows.All
import Wide.All
import OpenK.AllK
import Wide.FinOn
import PyProof.EqAt
import PyProof.EqKinds
import PyProof.TupleCall
import Lean
import PySem.Challenge.RW_shutways_k83_whole_why_ends_are_so
set_option Elab.async false
set_option bootstrap.genMatcherCode false
set_option compiler.extract_closed false
set_option genSizeOf false
local macro_rules|`(command|def $x:declId $b:bracketedBinder*:$t $v:declVal)=>`(command|theorem $x:declId $b:bracketedBinder*:$t $v:declVal)
local macro_rules|`(command|abbrev $x:declId $s:optDeclSig $v:declVal)=>`(command|noncomputable def $x:declId $s:optDeclSig $v:declVal)
set_option linter.all false
set_option maxRecDepth 100000
open PySem.Str renaming ofString->fo
open Decidable renaming decide->fm
open Option renaming some->df, none->dg
open Bool renaming true->dh, false->di
open PySem.W (Frag)
open Array renaming getElem?_toList->Š, length_toList->ů, getElem?_eq_some_iff->ų, toList->aX, toList_inj->cX
open Bool renaming false_ne_true->ø, false_eq_true->Ĉ, not_eq_true'->Ĝ, and_eq_true_iff->Ŏ, and_true->ũ, true_and->ſ, not_not->Ϟ, eq_iff_iff->Ϻ, false_xor->aq, or_false->aN, true_xor->aP
open Char renaming toNat->ō
open False renaming elim->Ĵ
open ForInStep renaming yield->Ī
open Function renaming comp_apply->bb
open Int renaming toNat_natCast->ò, le_refl->Ξ, natCast_nonneg->ϗ, mul_nonneg->aD, le_ediv_iff_mul_le->bD, sub_zero->bG, ediv_lt_iff_lt_mul->bH, mul_one->ce, add_mul->ck, one_mul->cp, le_of_lt_add_one->cq, emod_lt_of_pos->de
open List renaming length_map->À, mem_cons->Æ, length_cons->Ç, mem_append_right->È, size_toArray->É, getElem?_eq_getElem->Ê, map_cons->Í, getElem?_eq_some_iff->Î, map_append->Ð, mem_singleton->Ñ, replicate->Õ, mem_append_left->Ö, getElem?_map->Ø, not_mem_nil->Û, mem_map->Þ, mem_cons_of_mem->ß, mem_append->à, lookup_cons->á, length_append->ã, nodup_append->ä, mem_of_getElem?->è, filterMap_cons->ê, mem_cons_self->ñ, take_length->ó, map_map->ô, length_replicate->õ, all_eq_true->ù, filter_cons->ú, mem_map_of_mem->û, contains_iff_mem->ý, append_nil->þ, length_range->Ā, getElem?_append_left->ā, mem_filter->ă, nodup_cons->Ą, replicate_succ->ą, getElem?_append_right->ć, getD_eq_getElem?_getD->ĉ, nodup_nil->Ċ, map_congr_left->č, find?_cons->đ, length_take->Ĕ, mem_range->ę, append_assoc->ě, map_inj_left->ĝ, length_nil->ğ, length_filter_le->Ģ, getElem_mem->ĥ, any_cons->Ħ, foldl_cons->İ, flatten_cons->ĳ, mergeSort_perm->ĺ, getElem?_replicate->ļ, mapM_cons->Ľ, zip_cons_cons->Ŀ, take_add_one->ŉ, mem_flatMap->Ő, drop_eq_getElem_cons->Œ, length_eq_zero_iff->ŗ, flatMap_cons->Ŝ, length_singleton->Ť, getElem?_eq_none->ť, getElem?_set_ne->Ū, lookup->ū, map_nil->Ų, mem_filterMap->ŵ, zip_nil_right->Ŷ, zip_nil_left->ż, length_filterMap_le->ž, getElem?_set_self->ξ, drop_eq_nil_of_le->π, length_set->ω, length_mergeSort->Β, length_take_le'->Η, map_id->Θ, filter_eq_self->Χ, length_pos_iff->Ω, filter_sublist->ϊ, take_succ_cons->ϋ, filterMap_map->ύ, set_cons_succ->ώ, set_cons_zero->Ϗ, filter_append->ϐ, lookup_append->ϑ, length_filter_eq_length_iff->ϟ, zipWith->Ϡ, eraseIdxIfInBounds_toArray->ϡ, getElem_inj->Ϥ, any_eq_true->ϧ, cons_append->Ϩ, eq_nil_of_length_eq_zero->ϭ, of_mem_zip->Ϲ, filter_nil->aa, nodup_iff_pairwise_ne->au, length_erase_of_mem->aS, pairwise_mergeSort->aZ, getElem?_cons_succ->a9, length_eraseIdx_le->bc, pairwise_lt_range->bo, filterMap_eq_map'->bp, mem_iff_getElem?->bF, getElem?_zipWith->bK, set_append_left->bW, flatMap_append->cr, foldl->cF, getElem_range->cI, append_of_mem->cJ, pairwise_map->cY
open List.Sublist renaming refl->œ
open Nat renaming le_refl->Ï, lt_of_le_of_lt->Ò, le_trans->Ô, lt_of_lt_of_le->å, ne_of_lt->ì, lt_succ_self->Č, lt_irrefl->Ď, lt_succ_of_lt->ĵ, zero_le->ŏ, succ_le_succ->ő, le_succ->Ŭ, lt_trans->Ŵ, le_of_lt->ρ, ne_of_gt->χ, zero_add->Α, min_le_right->ϫ, mul_comm->bA, mul_le_mul_left->cH
open Option renaming map_eq_some_iff->Ë, bind_eq_some_iff->æ, bind_some->í, isSome_iff_exists->î, map_some->į, isSome_map->Ř, getD_some->š, not_isSome_iff_eq_none->ŧ, map_map->ab, isNone_iff_eq_none->al, isSome_some->bV, toList_none->bX, getD_none->cD
open Option.some renaming inj->ï, injEq->Ĩ
open Prod.mk renaming injEq->Ź
open PyProof.Rows renaming IntsAre->Ě, kindOf->ŷ, AllBare->μ, step_dedup->Ο, seqObj->ϕ, IsTup->ϣ, subscriptTail->ϥ, envOfC->Ϫ, Constant_none->ca, subscriptTail_builtinR->cT
open PySem renaming Value->Â, wpAny_bind->Ã, Shared->Å, Addr->Ì, starEach->Ó, wpAny_pure->Ù, sizeLine->Ü, model->â, compareOp->é, Program->ë, mainGlobals->ÿ, World->Ă, wpAny_truthy_bool->Ć, Heap->ċ, foldedSetIterable->ď, argBest->Đ, backTo->Ē, attributeBase->ē, wpAny_loadPart'->ĕ, assignEach->Ė, sliceBounds->Ę, Around->Ğ, cLine->Ĥ, behindInMarks->ī, keywordEach->Ĭ, Stmt->ĭ, binaryOp->Ķ, FuncData->ķ, wpAny_field->ĸ, wpAny_newObj_type->Ĺ, wpAny_callSpecial?_slot->ŀ, sysModules->ń, wpAny_mono->Ņ, holding->ņ, wpAny_Call_Name_kw->Ň, wpAny_pyIter_tuple->ň, wpAny_passesOwn->Ŋ, wpAny_holding->ŋ, bootBuiltins->Ŕ, wpAny_call_entry->ŕ, backToKw->ś, tupleKind_room_in1->Ş, swapsWith->ş, wpAny_seqItems->Ũ, Scope->Ů, assign->Ű, PassesOwn->Ž, wpAny_tryCatch->η, standAt->ο, swapsWithSole->ς, swappedStores->υ, IsPart->ψ, Operator->Γ, getMethod->Δ, NameKind->Ε, getItem->Ι, Keyword->Κ, valueAt->Λ, call_meetsIn->Μ, sliceRange->Ν, letOwnedTupleGo->Υ, codeAny_builtin->Ψ, sizeLine_eq->ϒ, PyData->ϔ, tupleKind->ϙ, callerA->Ϛ, seqItems?->ϛ, plainId_quiet->Ϧ, call_meets->Ϭ, setItem->ae, codeAny_mono->af, seqIndex_neg->ah, slot_list_getitem->ai, wpAny_pyIter_list->aj, pyNext->az, lastMarks->aA, noFill_tuple_add->aB, noteFrame->aC, seqIndex_of->aM, wpAny_letGo->aQ, wpAny_execs_nil->aY, wpAny_updateSeq->a8, relabel->bf, isTrue->bu, CmpOp->bv, rawInt->bw, callWith->bx, wpAny_setField->bB, evalEach->bC, atKey->bE, methodCallForm->bI, wpAny_standAt->cb, seq_tuple_add->cf, wpAny_getItem_list_slice->cg, wpAny_comprehension_free->cj, bindC->cC, slicePick->cE, release->cP, richCompare_meets_room->cQ, concat_meets->cR, wpAny_typeOf->cS, wpAny_getItem_list_neg->cU
open PySem.Around renaming under_plainId->Ŧ, under->aL
open PySem.Builtin renaming iter->Ś
open PySem.Builtin.Str renaming strSliceIndices->Ÿ
open PySem.Code renaming isFrame->be
open PySem.FuncData.mk renaming injEq->aR
open PySem.Heap renaming get?_push_of_some->Ä, lt_size->Ú, get?_push_size->Ý, get?_update_other->ü, size_push->Ō, get?_update_self->ţ, SameBut->ν, LeftW->cG
open PySem.Heap.SameBut renaming update->ak
open PySem.NameKind renaming free->Ġ, cell->cV
open PySem.Obj renaming mapSeq->ϓ, data_mapFields->cW
open PySem.PyData renaming eqv->ġ, depthAll->Į, canLayAll0->Ł, canLay0->ř, eqvAll->Ż
open PySem.Value renaming notImplemented->bz
open PySem.Value.type renaming inj->Ϝ
open PySem.W renaming boot_heap->Ŗ, findIn->ϖ, boot_drawn->Ϯ, SharedT->am, boot_toks->aE, mg_of->bJ, nsIn->cZ, kitOne->db
open String renaming ofList->ź, singleton->ϝ, length_toList->bg, toList_ofList->bh, length_append->bj
open UInt32.toNat renaming inj->aO
def bAq(a b:Bool):((a&&b)=dh)=(a=dh/\b=dh):=Bool.and_eq_true a b
abbrev ff:=@if_pos
abbrev fg:=@if_neg
abbrev fh:=@decide_eq_false
abbrev fi:=@decide_eq_true
abbrev fj:=@decide_eq_true_eq
@[reducible] noncomputable def fk:=@absurd
local macro_rules|`(tactic|let $p:term:=$e)=>do
 let k:=`Lean.Parser.Tactic
 let n(c:Lean.Name)(a:Array Lean.Syntax):Lean.Syntax:=.node .none (k++c) a
 let m(s:Lean.Syntax):=if s.isIdent then n `rcasesPat.one #[s]else if s.isOfKind ``Lean.Parser.Term.hole then n `rcasesPat.ignore #[s[0]]else if s.isOfKind ``Lean.Parser.Term.anonymousCtor then n `rcasesPat.tuple #[s[0],Lean.mkNullNode (s[1].getArgs.map λx=>if x.isAtom then x else n `rcasesPatLo #[n `rcasesPatMed #[Lean.mkNullNode #[x]],Lean.mkNullNode]),s[2]]else s
 `(tactic|obtain $(⟨n `rcasesPatMed #[Lean.mkNullNode #[p.raw.rewriteBottomUp m]]⟩):rcasesPatMed:=$e)
local macro_rules|`(command|instance $x:declId:$t $v:declVal)=>do
 if t.raw.getId != `Fn then Lean.Macro.throwUnsupported
 `(command|noncomputable abbrev $x:declId:$t $v:declVal)
local macro_rules|`(⇑$h)=>`(by simpa using $h)
namespace L2
open PySem PySem.Spec PyProof.Rows
noncomputable abbrev Key:=Sum Int Str
abbrev Ja:Key->Â->Bool
 |.inl k,v=>Value.isInt k v
 |.inr x,v=>Value.isStrOf x v
abbrev Rq(w:Ă):Key->Int
 |.inl k=>hashInt k
 |.inr x=>hashStr w x
def Zo:∀{k:Key}{v:Â},Ja k v=dh->(∃i t,k=Sum.inl i/\v=Value.int i t)\/(∃x t,k=Sum.inr x/\v=Value.str x t)
 |.inl i,v,h=>by let⟨t,e⟩:=Value.isInt_shape (k:=i) (v:=v) h;exact .inl ⟨i,t,rfl,e⟩
 |.inr x,v,h=>by let⟨t,e⟩:=Value.isStrOf_shape (x:=x) (v:=v) h;exact .inr ⟨x,t,rfl,e⟩
def Aq(i:Int)(t:Tok):Ja (.inl i) (.int i t)=dh:=by simp[Ja,Value.isInt]
def A4(x:Str)(t:Tok):Ja (.inr x) (.str x t)=dh:=by simp[Ja,Value.isStrOf]
def L5(a b:Int):fm ((Sum.inl a:Key)=Sum.inl b)=(a==b):=by
 by_cases e:a=b
 .subst e;simp
 .have h:¬ (Sum.inl a:Key)=Sum.inl b:=λq=>e<|Sum.inl.inj q;rw[fh h];exact(beq_eq_false_iff_ne.mpr e).symm
def Ih(a b:Str):fm ((Sum.inr a:Key)=Sum.inr b)=fm (a=b):=by
 by_cases e:a=b
 .subst e;simp
 .have h:¬ (Sum.inr a:Key)=Sum.inr b:=λq=>e<|Sum.inr.inj q;rw[fh h,fh e]
def HB(a:Int)(b:Str):fm ((Sum.inl a:Key)=Sum.inr b)=di:=fh (λq=>nomatch q)
def Lo(a:Str)(b:Int):fm ((Sum.inr a:Key)=Sum.inl b)=di:=fh (λq=>nomatch q)
abbrev Zf(prog:ë)(w:Ă):PySem.KeyKind prog w Key where
 is:=Ja
 hash:=Rq w
 inj:=λv a b ha hb=>by
  rcases Zo ha with⟨i,t,rfl,rfl⟩|⟨x,t,rfl,rfl⟩
  .rcases Zo hb with⟨j,u,rfl,e⟩|⟨y,u,rfl,e⟩
   .injection e with e1 _;rw[e1]
   .exact nomatch e
  .rcases Zo hb with⟨j,u,rfl,e⟩|⟨y,u,rfl,e⟩
   .exact nomatch e
   .injection e with e1 _;rw[e1]
 byValue:=λk v h=>by rcases Zo h with⟨i,t,rfl,rfl⟩|⟨x,t,rfl,rfl⟩<;>rfl
 pyHash:=λhv h=>by
  rcases Zo hv with⟨i,t,rfl,rfl⟩|⟨x,t,rfl,rfl⟩
  .exact wpAny_pyHash_int h
  .exact wpAny_pyHash_str h
 eqBool:=λhu hv h=>by
  rcases Zo hu with⟨i,t,rfl,rfl⟩|⟨x,t,rfl,rfl⟩
  .rcases Zo hv with⟨j,u,rfl,rfl⟩|⟨y,u,rfl,rfl⟩
   .rw[L5]at h;exact wpAny_eqBool_int h
   .rw[HB]at h;exact SeqAt.EqAt.int_str i t y u _ _ _ _ h
  .rcases Zo hv with⟨j,u,rfl,rfl⟩|⟨y,u,rfl,rfl⟩
   .rw[Lo]at h;exact SeqAt.EqAt.str_int x t j u _ _ _ _ h
   .rw[Ih]at h;exact wpAny_eqBool_str h
 «strs»:=λk x t v h=>by
  rcases Zo h with⟨i,u,rfl,e⟩|⟨y,u,rfl,e⟩
  .exact nomatch e
  .injection e with e1 _;subst e1;cases v<;>rfl
def Nw(prog:ë)(w:Ă)(i:Int)(t:Tok):(Zf prog w).is (.inl i) (.int i t)=dh:=Aq i t
def NE(prog:ë)(w:Ă)(x:Str)(t:Tok):(Zf prog w).is (.inr x) (.str x t)=dh:=A4 x t
inductive V where
 |non|bl (b:Bool)|int (i:Int)|str (x:Str)|byt (b:Array UInt8)|flt (b:UInt64)|ref (a:Ì)|ty (n:String)
 deriving DecidableEq
abbrev RelV:V->Â->Prop
 |.non,u=>u=Value.none
 |.bl b,u=>u=Value.bool b
 |.int i,u=>∃t,u=Value.int i t
 |.str x,u=>∃t,u=Value.str x t
 |.byt b,u=>∃t,u=Value.bytes b t
 |.flt b,u=>∃t,u=Value.float b t
 |.ref a,u=>u=Value.ref a
 |.ty n,u=>u=Value.type n
@[reducible] noncomputable def eV:List V->List Â->Prop:=Paired RelV
def eV.length{xs:List V}{us:List Â}(r:eV xs us):xs.length=us.length:=Paired.length r
def eV.get:∀{xs:List V}{us:List Â}{i:Nat}{x:V},eV xs us->xs[i]?=df x->∃u,us[i]?=df u/\RelV x u
 |_,_,_,_,.nil,e=>by simp at e
 |_,_,0,_,.cons r _,e=>by simp at e;subst e;exact⟨_,rfl,r⟩
 |_,_,i+1,x,.cons _ t,e=>by let⟨u,h1,h2⟩:=eV.get (i:=i) (x:=x) t ⇑e;exact⟨u,⇑h1,h2⟩
def eV.set{x:V}{u:Â}(r:RelV x u):∀{xs:List V}{us:List Â}(i:Nat),eV xs us->eV (xs.set i x) (us.set i u)
 |_,_,_,.nil=>.nil
 |_,_,0,.cons _ t=>.cons r t
 |_,_,i+1,.cons q t=>.cons q<|eV.set r i t
def eV.append:∀{xs ys:List V}{us ws:List Â},eV xs us->eV ys ws->eV (xs++ys) (us++ws)
 |_,_,_,_,.nil,s=>s
 |_,_,_,_,.cons r t,s=>.cons r<|eV.append t s
def eV.take:∀{xs:List V}{us:List Â}(n:Nat),eV xs us->eV (xs.take n) (us.take n)
 |_,_,0,_=>.nil
 |_,_,_+1,.nil=>.nil
 |_,_,n+1,.cons r t=>.cons r<|eV.take n t
def eV.drop:∀{xs:List V}{us:List Â}(n:Nat),eV xs us->eV (xs.drop n) (us.drop n)
 |_,_,0,r=>r
 |_,_,_+1,.nil=>.nil
 |_,_,n+1,.cons _ t=>eV.drop n t
abbrev dW:Option V->Option Â->Prop
 |some v,df u=>RelV v u
 |none,dg=>True
 |_,_=>False
abbrev KV{κ:Type}:List (κ×V)->List (κ×Â)->Prop:=Paired λ(p:κ×V) (q:κ×Â)=>p.1=q.1/\RelV p.2 q.2
abbrev kV:Key->V
 |.inl i=>.int i
 |.inr x=>.str x
inductive HO where
 |lst (xs:List V)
 |tup (xs:List V)
 |dK (kvs:List<|Key×V)|dT (kvs:List<|List Key×V)
 |set (S:Int->Bool) (n:Nat)
 |ins (C dx:Ì) (fs:List<|Str×V)
 |own (x:Ì)
 |xd (fs:List<|Str×V)
 |met (f x:Ì)
 |rng (lo hi:Int)
 |frz (o:Obj) (u:HO)
 |tbl (ps:Array Â)
 |ext (φ:ċ->Prop)
noncomputable abbrev Hp:=Ì->Option HO
abbrev upd(H:Hp)(a:Ì)(o:HO):Hp:=λb=>if b=a then df o else H b
variable {H:Hp} {a:Ì} {o:HO}
def dk:upd H a o a=df o:=by unfold upd;rw[ff rfl]
variable {b:Ì}
def dj(h:b≠a):upd H a o b=H b:=by unfold upd;rw[fg h]
variable {u:HO}
def dm:upd (upd H a o) a u=upd H a u:=by funext b;unfold upd;split<;>rfl
def Rg(h:H a=df o)(h':H b=df u)(d:o≠u):a≠b:=by intro e;subst e;rw[h]at h';exact d (ï h')
def Zj(h:H a=df o)(h':H b=dg):a≠b:=by intro e;subst e;rw[h]at h';cases h'
section
variable (P:ë) (w:Ă)
abbrev dB(H:Hp)(h:ċ)(a:Ì):HO->Prop
 |.lst xs=>xs.length<=Ü/\∃(ð:List Â) (n:Nat),eV xs ð/\h.get? a=df {cls:=.type "list",data:=.seq ð.toArray n}
 |.tup xs=>xs.length<=Ü/\∃ð:List Â,eV xs ð/\ϣ h a ð.toArray
 |.dK kvs=>kvs.length<=Ü/\(a==ń)=di/\∃vs,KV kvs vs/\h.DictOf (Zf P w) a vs
 |.dT kvs=>kvs.length<=Ü/\(a==ń)=di/\∃xs:List<|List Key×Ì×Â,
   Paired (λ(p:List Key×V) (q:List Key×Ì×Â)=>p.1=q.1/\H q.2.1=df (.tup<|p.1.map kV)/\RelV p.2 q.2.2) kvs xs/\
   ∃o es ep,h.get? a=df o/\o.ExactDict/\o.data=.dict es ep/\es.toList=xs.map (entryOfKey<|ϙ<|Zf P w)/\(xs.map (·.1)).Nodup
 |.set S n=>h.SetOf (intKind P w) a S n
 |.ins C dx fs=>H dx=df (.own a)/\fs.length<=1000/\dx≠a/\h.get? a=df (PySem.W.instObj C dx)/\
   ∃mA,h.Ns1 dx mA/\(∀f,dW (fs.lookup f)<|mA f)/\PySem.Within mA (fs.map (·.1))
 |.own _=>∃o,h.get? a=df o
 |.xd fs=>∃mA,h.Ns1 a mA/\∀f,dW (fs.lookup f) (mA f)
 |.rng lo hi=>∃t u v,h.get? a=df {cls:=.type "range",data:=.fields #[.int lo t,.int hi u,.int 1 v]}
 |.frz o u=>h.get? a=df o/\dB H h a u
 |.tbl ps=>h.get? a=df {cls:=.none,data:=.fields ps}
 |.met f x=>h.get? a=df (PySem.W.methodObj (.ref f)<|.ref x)
 |.ext φ=>φ h/\(∃o,h.get? a=df o)/\∀h1 h2:ċ,φ h1->(∀o,h1.get? a=df o->h2.get? a=df o)->φ h2
abbrev HOk(H:Hp)(h:ċ):Prop:=∀a o,H a=df o->dB P w H h a o
end
section
variable {P:ë}{w:Ă}{H H':Hp}{h h':ċ}{a:Ì}{o:HO}
def dB.lt(x:dB P w H h a o):a<h.objs.size:=by
 cases o with
 |lst xs=>let⟨_,_,_,_,e⟩:=x;exact Ú e
 |tup xs=>let⟨_,_,_,p⟩:=x;exact p.lt
 |dK kvs=>let⟨_,_,_,_,o,_,_,e,_⟩:=x;exact Ú e
 |dT kvs=>let⟨_,_,_,_,o,_,_,e,_⟩:=x;exact Ú e
 |set S n=>let⟨o,_,_,_,e,_⟩:=x;exact Ú e
 |ins C dx fs=>let⟨_,_,_,e,_⟩:=x;exact Ú e
 |own y=>let⟨_,e⟩:=x;exact Ú e
 |xd fs=>let⟨_,⟨_,_,_,e,_⟩,_⟩:=x;exact Ú e
 |rng lo hi=>let⟨_,_,_,e⟩:=x;exact Ú e
 |frz ob u=>let⟨e,_⟩:=x;exact Ú e
 |tbl ps=>exact Ú (show h.get? a=df _ from x)
 |met f y=>exact Ú (show h.get? a=df _ from x)
 |ext φ=>let⟨_,⟨_,e⟩,_⟩:=x;exact Ú e
def Paired.mapP{α β:Type}{F G:α->β->Prop}:∀{l₁:List α}{l₂:List β},Paired F l₁ l₂->(∀a b,F a b->G a b)->Paired G l₁ l₂
 |_,_,.nil,_=>.nil
 |_,_,.cons r t,f=>.cons (f _ _ r)<|Paired.mapP t f
def dB.stay(x:dB P w H h a o)(k:∀b u,(b=a\/H b=df (.own a))->h.get? b=df u->h'.get? b=df u)
  (ho:∀b,H b=df (.own a)->H' b=df (.own a)) (ht:∀b xs,H b=df (.tup xs)->H' b=df (.tup xs)):dB P w H' h' a o:=by
 induction o with
 |lst xs=>let⟨z,ð,n,r,e⟩:=x;exact⟨z,ð,n,r,k _ _ (.inl rfl) e⟩
 |tup xs=>let⟨z,ð,r,ob,e,c⟩:=x;exact⟨z,ð,r,ob,k _ _ (.inl rfl) e,c⟩
 |dK kvs=>let⟨z,y,vs,r,ob,es,ep,e,c⟩:=x;exact⟨z,y,vs,r,ob,es,ep,k _ _ (.inl rfl) e,c⟩
 |dT kvs =>let⟨z,y,xs,r,ob,es,ep,e,c⟩:=x;exact⟨z,y,xs,Paired.mapP r λp q z=>⟨z.1,ht _ _ z.2.1,z.2.2⟩,ob,es,ep,k _ _ (.inl rfl) e,c⟩
 |set S n=>let⟨ob,es,ep,t,e,c⟩:=x;exact⟨ob,es,ep,t,k _ _ (.inl rfl) e,c⟩
 |ins C dx fs =>let⟨d,z,ne,e,mA,⟨od,es,ep,e2,c⟩,r⟩:=x;exact⟨ho _ d,z,ne,k _ _ (.inl rfl) e,mA,⟨od,es,ep,k _ _ (.inr d) e2,c⟩,r⟩
 |own y=>let⟨ob,e⟩:=x;exact⟨ob,k _ _ (.inl rfl) e⟩
 |xd fs=>let⟨mA,⟨od,es,ep,e,c⟩,r⟩:=x;exact⟨mA,⟨od,es,ep,k _ _ (.inl rfl) e,c⟩,r⟩
 |rng lo hi=>let⟨t,u,v,e⟩:=x;exact⟨t,u,v,k _ _ (.inl rfl) e⟩
 |frz ob u ih=>let⟨e,q⟩:=x;exact⟨k _ _ (.inl rfl) e,ih q⟩
 |tbl ps =>have e:h.get? a=df {cls:=.none,data:=.fields ps}:=x;show h'.get? a=df {cls:=.none,data:=.fields ps};exact k a _ (.inl rfl) e
 |met f y =>have e:h.get? a=df (PySem.W.methodObj (.ref f)<|.ref y):=x;show h'.get? a=df (PySem.W.methodObj (.ref f)<|.ref y);exact k a _ (.inl rfl) e
 |ext φ=>let⟨p,⟨o,e⟩,st⟩:=x;exact⟨st _ _ p λo q=>k _ _ (.inl rfl) q,⟨o,k _ _ (.inl rfl) e⟩,st⟩
def HOk.lt(x:HOk P w H h)(e:H a=df o):a<h.objs.size:=(x a o e).lt
def HOk.fresh(x:HOk P w H h)(e:h.objs.size<=a):H a=dg:=by
 cases q:H a with
 |none=>rfl
 |some u=>exact fk (å (x.lt q) e)<|Ď _
def HOk.kept(x:HOk P w H h)(k:∀b u,h.get? b=df u->h'.get? b=df u):HOk P w H h':=λa o e =>
 (x a o e).stay (λb u _ q=>k b u q) (λ_ q=>q) λ_ _ q=>q
def HOk.laid(x:HOk P w H h)(k:∀b u,h.get? b=df u->h'.get? b=df u)(hp:h.objs.size<=a)(new:dB P w (upd H a o) h' a o):HOk P w (upd H a o) h':=λb u e=>by
 have hn:=x.fresh hp;by_cases hb:b=a
 .subst hb;rw[dk]at e;cases e;exact new
 .rw[dj hb]at e;exact(x b u e).stay (λc v _ q=>k c v q) (λc q=>by rw[dj<|Zj q hn];exact q) λc xs q=>by rw[dj<|Zj q hn];exact q
end
abbrev Rd(H:Hp)(a:Ì)(u:HO):Prop:=H a=df u\/∃o,H a=df (.frz o u)
variable {h:ċ}
def Rd.ok{P:ë}{w:Ă}(r:Rd H a u)(x:HOk P w H h):dB P w H h a u:=by
 rcases r with r|⟨o,r⟩
 .exact x a u r
 .obtain⟨_,q⟩:=x a _ r;exact q
abbrev Mut:Option HO->Prop
 |some (.lst _)=>True
 |some (.dK _)=>True
 |some (.dT _)=>True
 |some (.set _ _)=>True
 |some (.ins _ _ _)=>True
 |some (.ext _)=>True
 |_=>False
section
variable {P:ë}{w:Ă}{H:Hp}{h h':ċ}{x e:Ì}{o':HO}
def HOk.write(ok:HOk P w H h)(mu:Mut<|H x)(he:e=x\/H e=df (.own x))(k:∀b u,b≠e->h.get? b=df u->h'.get? b=df u)(heo:∃u,h'.get? e=df u)
  (new:dB P w (upd H x o') h' x o'):HOk P w (upd H x o') h':=λb u q=>by
 have nown:∀c y,H c=df (.own y)->c≠x:=λc y r z=>by subst z;rw[r]at mu;exact mu
 have ntup:∀c xs,H c=df (.tup xs)->c≠x:=λc xs r z=>by subst z;rw[r]at mu;exact mu
 by_cases hb:b=x
 .subst hb;rw[dk]at q;cases q;exact new
 .rw[dj hb]at q;by_cases hbe:b=e
  .have q':H b=df (.own x):=by
    rcases he with z|z
    .exact fk (hbe.trans z) hb
    .rw[hbe];exact z
   rw[q]at q';cases q';let⟨v,hv⟩:=heo;exact⟨v,by rw[hbe];exact hv⟩
  .refine(ok b u q).stay (λc v hc r=>k c v ?_ r) (λc r=>by rw[dj<|nown c b r];exact r) λc xs r=>by rw[dj<|ntup c xs r];exact r
   rcases hc with rfl|hc
   .exact hbe
   .rintro rfl;rcases he with z|z
    .exact nown c b hc z
    .rw[hc]at z;cases z;exact hb rfl
end
structure Un(fs ex:List Ì)(H H':Hp)(h h':ċ):Prop where
 keep:∀b o,h.get? b=df o->H b=dg->b∉fs->b∉ex->h'.get? b=df o
 slot:∀b o,h.get? b=df o->H b=dg->b∈fs->b∉ex->∃sl,h'.get? b=df {o with slots:=sl}
 free:∀b o,h.get? b=df o->H b=dg->b∉ex->H' b=dg
 there:∀b o,h.get? b=df o->b∉ex->∃o',h'.get? b=df o'
 tups:∀b xs,H b=df (.tup xs)->H' b=df (.tup xs)
 frzs:∀b o u,H b=df (.frz o u)->H' b=df (.frz o u)
 tbls:∀b ps,H b=df (.tbl ps)->∃more,H' b=df (.tbl<|ps++more)
section
variable {fs fs' ex ex':List Ì}{H H1 H2:Hp}{h h1 h2 h':ċ}{a x e:Ì}{o:HO}
def Un.any(u:Un fs ex H H1 h h1){ob:Obj}(q:h.get? b=df ob)(n:H b=dg)(hx:b∉ex):∃sl,h1.get? b=df {ob with slots:=sl}:=by
 by_cases hb:b∈fs
 .exact u.slot b ob q n hb hx
 .exact⟨ob.slots,u.keep b ob q n hb hx⟩
def Un.kept(k:∀b u,h.get? b=df u->h'.get? b=df u):Un fs ex H H h h' :=
 ⟨λb ob q _ _ _=>k b ob q,λb ob q _ _ _=>⟨ob.slots,k b ob q⟩,λ_ _ _ n _=>n,λb ob q _=>⟨ob,k b ob q⟩,λ_ _ q=>q,λ_ _ _ q=>q,λ_ ps q=>⟨#[],by rw[q];simp⟩⟩
def Un.refl:Un fs ex H H h h:=Un.kept λ_ _ q=>q
def Un.laid(k:∀b u,h.get? b=df u->h'.get? b=df u)(hp:h.objs.size<=a)(hn:H a=dg):Un fs ex H (upd H a o) h h' where
 keep:=λb u q _ _ _=>k b u q
 slot:=λb u q _ _ _=>⟨u.slots,k b u q⟩
 free:=λb u q n _=>by rw[dj<|ì<|å (Ú q) hp];exact n
 there:=λb u q _=>⟨u,k b u q⟩
 tups:=λb xs q=>by rw[dj<|Zj q hn];exact q
 frzs:=λb u xs q=>by rw[dj<|Zj q hn];exact q
 tbls:=λb ps q=>⟨#[],by rw[dj<|Zj q hn,q];simp⟩
def Un.write(mu:Mut<|H x)(he:e=x\/H e=df (.own x))(k:∀b u,b≠e->h.get? b=df u->h'.get? b=df u)(heo:∃u,h'.get? e=df u):Un fs ex H (upd H x o) h h':=by
 have hx:∀b,H b=dg->b≠x:=λb n z=>by subst z;rw[n]at mu;exact mu
 have hb:∀b,H b=dg->b≠e:=λb n z=>by
  subst z;rcases he with r|r
  .exact hx b n r
  .rw[n]at r;cases r
 have hm:∀b u,H b=df u->¬ Mut (df u)->b≠x:=λb u q nm z=>by subst z;rw[q]at mu;exact nm mu
 refine⟨λb u q n _ _=>k b u (hb b n) q,λb u q n _ _=>⟨u.slots,k b u (hb b n) q⟩,λb u q n _=>by rw[dj<|hx b n];exact n,λb u q _=>?_,
   λb xs q=>by rw[dj<|hm b _ q λz=>z];exact q,λb u xs q=>by rw[dj<|hm b _ q λz=>z];exact q,λb ps q=>⟨#[],by rw[dj<|hm b _ q λz=>z,q];simp⟩⟩
 by_cases hbe:b=e
 .subst hbe;exact heo
 .exact⟨u,k b u hbe q⟩
end
abbrev trk(h:ċ)(H:Hp):List Ì:=(List.range h.objs.size).filter λa=>(H a).isSome
abbrev MJ(h:ċ)(H:Hp):ċ:=PySem.W.hideAll h<|trk h H
def Ba(h:ċ)(H:Hp):(MJ h H).objs.size=h.objs.size:=PySem.W.hideAll_size _ _
def C4{o:Obj}(e:h.get? b=df o)(n:H b=dg):(MJ h H).get? b=df o :=
 PySem.W.hideAll_get _ e λhm=>by have q:(H b).isSome=dh:=(ă.mp hm).2;rw[n]at q;simp at q
def EO{o:Obj}(e:(MJ h H).get? b=df o):h.get? b=df o/\H b=dg:=by
 have e':h.get? b=df o:=PySem.W.of_hideAll (trk h H) e;refine⟨e',?_⟩;cases q:H b with
 |none=>rfl
 |some x =>have hm:b∈trk h H:=ă.mpr ⟨ę.mpr<|Ú e',by simp[q]⟩;have z:(MJ h H).get? b=dg:=PySem.W.hideAll_none (trk h H) hm;rw[z]at e;cases e
abbrev FW(g h:ċ)(L:Ì):List<|Ì×Obj:=(List.range h.objs.size).filterMap λa=>if a=L\/(g.get? a).isSome=dh then dg else(h.get? a).map λo=>(a,o)
abbrev rest(g h:ċ)(L d:Ì):List<|Ì×Obj:=(FW g h L).filter λp=>fm (p.1≠d)
structure Mod(K:Frag)(mg:Str->Option Â)(base:ċ):Prop where
 kin:K.In base
 glob:base.Ns ÿ mg
 blt:∃mb,base.Ns builtinsNs mb/\∀x:Str,x≠"__name__"->mb x=Ŕ x
 nolimit:base.NoLimit
structure Cx where
 prog:ë
 w:Ă
 K:Frag
 mg:Str->Option Â
 base:ċ
 A:Ğ
 N:List Str
 s₀:Å
 H₀:Hp
 env:Env
 outer:List Env
 stack:List Env
 ex:List Ì
 fn:Str->Bool
 calm:Bool
 pn:List<|Ì×Obj
 xe:Â->Å->Prop
abbrev frs(l:List Env):List Ì:=l.filterMap (·.frame)
noncomputable abbrev Cx.fs(X:Cx):List Ì:=frs X.outer
abbrev Vis(sc:Ů)(x:Str):Prop:=sc.names.lookup x=df .local\/sc.names.lookup x=df .cell\/sc.names.lookup x=df .free
abbrev Loc(sc:Ů)(x:Str):Prop:=sc.names.lookup x=df .local\/sc.names.lookup x=df .cell
abbrev Rw(env:Env)(h:ċ)(m:Str->Option Â)(x:Str)(u:Â):Prop :=
 (env.kindOf x=df .local/\m x=df u)\/((env.kindOf x=df .cell\/env.kindOf x=df .free)/\∃c,env.cells.lookup x=df c/\h.IsCell c (df u))
structure Cx.Ok(X:Cx):Prop where
 mod:Mod X.K X.mg X.base
 kind:X.env.scope.kind=.function
 glob:X.env.globals=ÿ
 blt:X.env.builtins=builtinsNs
 above:X.s₀.heap.objs.size<=X.env.locals
 inj:∀x y c,X.env.cells.lookup x=df c->X.env.cells.lookup y=df c->x=y
 has:∀x,(X.env.kindOf x=df .cell\/X.env.kindOf x=df .free)->∃c,X.env.cells.lookup x=df c
 cab:∀x c,X.fn x=dh->X.env.cells.lookup x=df c->X.s₀.heap.objs.size<=c
 hd:X.calm=dh->X.A.handled=dg
 frames:X.A.frames=df X.stack
 stk:X.stack=X.outer\/(X.stack=X.env::X.outer/\X.env.frame=df X.env.locals)
 exf:∀b∈X.ex,b≠X.env.locals/\∀x c,X.env.cells.lookup x=df c->c≠b
 bs:∀b o,X.base.get? b=df o->X.s₀.heap.get? b=df o/\X.H₀ b=dg
 bsz:X.base.objs.size<=X.s₀.heap.objs.size
 noex:∀b o,X.base.get? b=df o->b∉X.ex
 exfs:∀b∈X.ex,b∉X.fs
 funs:X.s₀.heap.FunFrames X.base X.outer
 frf:∀b∈X.fs,X.H₀ b=dg
structure Inv(X:Cx)(Á:List<|Ì×Obj)(σ:List<|Option V)(H:Hp)(s:Å):Prop where
 ok:X.Ok
 os:s.os=X.s₀.os
 bare:μ s.gens
 base:Un X.fs X.ex X.H₀ H X.s₀.heap s.heap
 loc:∃m,s.heap.Ns X.env.locals m/\∀(i:Nat) (x:Str) (v:V),X.N[i]?=df x->σ[i]?=df (df v)->Vis X.env.scope x->∃u,RelV v u/\Rw X.env s.heap m x u
 cell:∀x c,X.env.cells.lookup x=df c->∃v,s.heap.IsCell c v
 free:H X.env.locals=dg
 freeC:∀x c,X.env.cells.lookup x=df c->H c=dg
 pin:∀p∈X.pn++Á,s.heap.get? p.1=df p.2/\H p.1=dg/\p.1≠X.env.locals/\p.1∉X.fs/\∀v,p.2.data≠.cell v
 hok:HOk X.prog X.w H s.heap
 len:σ.length=X.N.length
section
variable {X:Cx}{Á:List (Ì×Obj)}{σ:List (Option V)}{H H':Hp}{s:Å}{h':ċ}
def Cx.Ok.nofr(ok:X.Ok){b:Ì}{o:Obj}(e:X.base.get? b=df o):b∉X.fs:=λhb=>by have:=(ok.funs.mem hb).1;rw[e]at this;cases this
def Inv.bs(I:Inv X Á σ H s):∀b o,X.base.get? b=df o->s.heap.get? b=df o/\H b=dg:=λb o e =>
 ⟨I.base.keep b o (I.ok.bs b o e).1 (I.ok.bs b o e).2 (I.ok.nofr e)<|I.ok.noex b o e,I.base.free b o (I.ok.bs b o e).1 (I.ok.bs b o e).2<|I.ok.noex b o e⟩
def Inv.bk(I:Inv X Á σ H s):∀b o,X.base.get? b=df o->s.heap.get? b=df o:=λb o e=>(I.bs b o e).1
def Inv.mod(I:Inv X Á σ H s):Mod X.K X.mg X.base:=I.ok.mod
def Inv.kIn(I:Inv X Á σ H s):X.K.In s.heap:=I.ok.mod.kin.keeps I.bk
def Inv.lt(I:Inv X Á σ H s):X.env.locals<s.heap.objs.size:=let ⟨_,hn,_⟩:=I.loc;hn.lt
def Inv.sz(I:Inv X Á σ H s):X.s₀.heap.objs.size<=s.heap.objs.size:=Ô I.ok.above (ρ I.lt)
variable {a:Ì}
def Inv.nofs(I:Inv X Á σ H s)(h:s.heap.objs.size<=a):a∉X.fs:=λhb=>by let⟨_,o,ho,_⟩:=I.ok.funs.mem hb;exact fk (å (Ú ho)<|Ô I.sz h) (Ď _)
def Inv.cne(I:Inv X Á σ H s):∀x c,X.env.cells.lookup x=df c->c≠X.env.locals:=λx c e z=>by let⟨v,o,ho,hd⟩:=I.cell x c e;let⟨m,⟨o',es,ep,ϩ,hd',_⟩,_⟩:=I.loc;rw[z,ϩ]at ho;cases ho;rw[hd']at hd;cases hd
def Inv.funs(I:Inv X Á σ H s):s.heap.FunFrames X.base X.outer:=by
 have all:∀(l:List Env),(∀b∈frs l,b∈X.fs)->X.s₀.heap.FunFrames X.base l->s.heap.FunFrames X.base l:=by
  intro l;induction l with
  |nil=>intro _ _;trivial
  |cons env r ih =>intro hs hl;let⟨hk,⟨L,o,hf,hn,ho,hd⟩,hr⟩:=hl;have hL:L∈X.fs:=hs L (by unfold frs;rw[ê,hf];exact ñ);let⟨sl,e⟩:=I.base.slot L o ho (I.ok.frf L hL) hL λz=>I.ok.exfs L z hL;exact⟨hk,⟨L,_,hf,hn,e,hd⟩,ih (λb hb=>hs b<|by unfold frs;rw[ê,hf];exact ß _ hb) hr⟩
 exact all X.outer (λ_ hb=>hb) I.ok.funs
def Inv.stack(I:Inv X Á σ H s):s.heap.FunFrames X.base X.stack:=by
 rcases I.ok.stk with e|⟨e,hf⟩
 .rw[e];exact I.funs
 .rw[e];let⟨m,hn,_⟩:=I.loc;refine .cons (by rw[I.ok.kind];decide) hf hn ?_ I.funs;exact Heap.get?_none_of_le<|Ô I.ok.bsz I.ok.above
def Inv.stkSub(I:Inv X Á σ H s):∀b∈frs X.stack,b∈X.env.locals::X.fs:=λb hb=>by
 rcases I.ok.stk with e|⟨e,hf⟩
 .rw[e]at hb;exact ß _ hb
 .rw[e]at hb;unfold frs at hb;rw[ê,hf]at hb;exact hb
def Inv.stkFree(I:Inv X Á σ H s):∀b∈frs X.stack,H b=dg:=λb hb=>by
 rcases Æ.mp (I.stkSub b hb)with e|hb
 .rw[e];exact I.free
 .obtain⟨_,o,ho,_⟩:=I.ok.funs.mem hb;exact I.base.free b o ho (I.ok.frf b hb) λz=>I.ok.exfs b z hb
variable {g':Array GenState} {t':Nat} {d':Drawn} {ch:List Ì}
def Inv.step(I:Inv X Á σ H s)
  (hch:∀b∈ch,(b∈X.ex\/X.s₀.heap.objs.size<=b)/\b≠X.env.locals/\(∀x c,X.env.cells.lookup x=df c->c≠b)/\∀p∈X.pn++Á,p.1≠b)
  (keep:∀b o,b≠X.env.locals->b∉X.fs->b∉ch->s.heap.get? b=df o->H b=dg->h'.get? b=df o)
  (slot:∀b o,b≠X.env.locals->b∈X.fs->b∉ch->s.heap.get? b=df o->H b=dg->∃sl,h'.get? b=df {o with slots:=sl}) (free:∀b o,b∉ch->s.heap.get? b=df o->H b=dg->H' b=dg)
  (there:∀b o,b∉ch->s.heap.get? b=df o->∃o',h'.get? b=df o')
  (tups:∀b xs,H b=df (.tup xs)->H' b=df (.tup xs)) (frzs:∀b o u,H b=df (.frz o u)->H' b=df (.frz o u)) (tbls:∀b ps,H b=df (.tbl ps)->∃more,H' b=df (.tbl<|ps++more))
  (ns:∀m,s.heap.Ns X.env.locals m->h'.Ns X.env.locals m) (hok:HOk X.prog X.w H' h') (hg:μ g') :
  Inv X Á σ H' {s with heap:=h',gens:=g',drawn:=d',toks:=t'}:=by
 have neL:∀b o,X.s₀.heap.get? b=df o->b≠X.env.locals:=λb o e=>ì<|å (Ú e) I.ok.above;have neC:∀b o,X.s₀.heap.get? b=df o->b∉X.ex->b∉ch:=λb o e hx hb=>by
  rcases (hch b hb).1 with z|z
  .exact hx z
  .exact fk (å (Ú e) z)<|Ď _
 have cellK:∀x c,X.env.cells.lookup x=df c->∀v,s.heap.IsCell c v->h'.IsCell c v:=λx c e v ⟨o,ho,hd⟩=>by
  have nch:c∉ch:=λz=>(hch c z).2.2.1 x c e rfl;by_cases hc:c∈X.fs
  .obtain⟨sl,q⟩:=slot c o (I.cne x c e) hc nch ho<|I.freeC x c e;exact⟨_,q,hd⟩
  .exact⟨o,keep c o (I.cne x c e) hc nch ho<|I.freeC x c e,hd⟩
 refine⟨I.ok,I.os,hg,⟨λb o e n hb hx=>?_,λb o e n hb hx=>?_,λb o e n hx=>?_,λb o e hx=>?_,λb xs e=>tups b xs<|I.base.tups b xs e,λb o xs e=>frzs b o xs<|I.base.frzs b o xs e,λb ps e=>?_⟩,?_,λx c e=>?_,?_,λx c e=>?_,λp hp=>?_,hok,I.len⟩
 .exact keep b o (neL b o e) hb (neC b o e hx) (I.base.keep b o e n hb hx)<|I.base.free b o e n hx
 .obtain⟨sl,e1⟩:=I.base.slot b o e n hb hx;let⟨sl',e2⟩:=slot b _ (neL b o e) hb (neC b o e hx) e1<|I.base.free b o e n hx;exact⟨sl',e2⟩
 .obtain⟨o',e1⟩:=I.base.there b o e hx;exact free b o' (neC b o e hx) e1<|I.base.free b o e n hx
 .obtain⟨o',e1⟩:=I.base.there b o e hx;exact there b o' (neC b o e hx) e1
 .obtain⟨m1,e1⟩:=I.base.tbls b ps e;let⟨m2,e2⟩:=tbls b _ e1;exact⟨m1++m2,by rw[e2,Array.append_assoc]⟩
 .obtain⟨m,hn,hl⟩:=I.loc;refine⟨m,ns m hn,λi x v e1 e2 e3=>?_⟩;let⟨u,r,l⟩:=hl i x v e1 e2 e3;refine⟨u,r,?_⟩;rcases l with l|⟨k,c,e,z⟩
  .exact .inl l
  .exact .inr ⟨k,c,e,cellK x c e _ z⟩
 .obtain⟨v,z⟩:=I.cell x c e;exact⟨v,cellK x c e v z⟩
 .obtain⟨m,⟨o,_,_,ho,_⟩,_⟩:=I.loc;exact free _ o (λz=>(hch _ z).2.1 rfl) ho I.free
 .obtain⟨v,o,ho,hd⟩:=I.cell x c e;exact free c o (λz=>(hch c z).2.2.1 x c e rfl) ho<|I.freeC x c e
 .obtain⟨e,n,ne,nf,d⟩:=I.pin p hp;have nch:p.1∉ch:=λz=>(hch p.1 z).2.2.2 p hp rfl;exact⟨keep p.1 p.2 ne nf nch e n,free p.1 p.2 nch e n,ne,nf,d⟩
def Inv.un(I:Inv X Á σ H s)(u:Un X.fs [] H H' s.heap h')(hok:HOk X.prog X.w H' h'):Inv X Á σ H' {s with heap:=h',toks:=t'}:=by
 let⟨m,⟨o,es,ep,ho,r⟩,_⟩:=id I.loc;let⟨sl,hL⟩:=u.any ho I.free (by simp);exact I.step (g':=s.gens) (d':=s.drawn) (ch:=[]) (λ_ z=>nomatch z) (λb o _ hb _ e n=>u.keep b o e n hb<|by simp) (λb o _ hb _ e n=>u.slot b o e n hb<|by simp) (λb o _ e n=>u.free b o e n<|by simp) (λb o _ e=>u.there b o e<|by simp) u.tups u.frzs u.tbls (λm' hm=>by
   let⟨o',ac,ep',ϩ,r'⟩:=hm
   rw[ho]at ϩ;cases ϩ
   exact⟨_,ac,ep',hL,r'⟩) hok I.bare
def Inv.call(I:Inv X Á σ H s)(u:Un (frs X.stack) ch H H' s.heap h')(hok:HOk X.prog X.w H' h')(hg:μ g')
  (hch:∀b∈ch,(b∈X.ex\/X.s₀.heap.objs.size<=b)/\b≠X.env.locals/\(∀x c,X.env.cells.lookup x=df c->c≠b)/\∀p∈X.pn++Á,p.1≠b) :
  Inv X Á σ H' {s with heap:=h',gens:=g',drawn:=d',toks:=t'}:=by
 let⟨m,⟨o,es,ep,ho,r⟩,_⟩:=id I.loc;let⟨sl,hL⟩:=u.any ho I.free λz=>(hch _ z).2.1 rfl;exact I.step (ch:=ch) hch (λb o hL hb hc e n=>u.keep b o e n (λz=>(Æ.mp<|I.stkSub b z).elim hL hb) hc) (λb o _ _ hc e n=>u.any e n hc) (λb o hc e n=>u.free b o e n hc) (λb o hc e=>u.there b o e hc) u.tups u.frzs u.tbls (λm' hm=>by
   let⟨o',ac,ep',ϩ,r'⟩:=hm
   rw[ho]at ϩ;cases ϩ
   exact⟨_,ac,ep',hL,r'⟩) hok hg
def Inv.turned{it:Ì}(I:Inv X Á σ H s)(k:∀b o,b≠it->s.heap.get? b=df o->h'.get? b=df o)(hn:H it=dg)(hL:it≠X.env.locals)
  (h1:it∈X.ex\/X.s₀.heap.objs.size<=it) (h2:∀x c,X.env.cells.lookup x=df c->c≠it) (h3:∀p∈X.pn++Á,p.1≠it):Inv X Á σ H {s with heap:=h',toks:=t'}:=by
 have nit:∀b u,H b=df u->b≠it:=λb u e z=>by rw[z,hn]at e;cases e
 refine I.step (g':=s.gens) (d':=s.drawn) (ch:=[it]) (λb hb=>?_) (λb o _ _ hc e _=>k b o (λz=>hc<|by simp[z]) e) (λb o _ _ hc e _=>⟨o.slots,k b o (λz=>hc<|by simp[z]) e⟩) (λ_ _ _ _ n=>n)
  (λb o hc e=>⟨o,k b o (λz=>hc<|by simp[z]) e⟩) (λ_ _ e=>e) (λ_ _ _ e=>e) (λb ps e=>⟨#[],by rw[e];simp⟩) (λm hm=>?_) (λb u e=>?_) I.bare
 .have e:b=it:=⇑hb
  subst e;exact⟨h1,hL,h2,h3⟩
 .obtain⟨o,es,ep,ho,r⟩:=hm;exact⟨o,es,ep,k _ o (Ne.symm hL) ho,r⟩
 .refine(I.hok b u e).stay (λc v hc q=>k c v ?_ q) (λ_ q=>q) λ_ _ q=>q;rcases hc with z|z
  .rw[z];exact nit b u e
  .exact nit c _ z
def Inv.tok(I:Inv X Á σ H s)(t:Nat):Inv X Á σ H {s with toks:=t}:=I.un (h':=s.heap) (t':=t) Un.refl I.hok
def Inv.kept(I:Inv X Á σ H s)(k:∀b u,s.heap.get? b=df u->h'.get? b=df u):Inv X Á σ H {s with heap:=h',toks:=t'}:=I.un (Un.kept k) (I.hok.kept k)
variable {o:HO}
def Inv.laid(I:Inv X Á σ H s)(k:∀b u,s.heap.get? b=df u->h'.get? b=df u)(hp:s.heap.objs.size<=a)(new:dB X.prog X.w (upd H a o) h' a o) :
  Inv X Á σ (upd H a o) {s with heap:=h',toks:=t'}:=I.un (Un.laid k hp<|I.hok.fresh hp)<|I.hok.laid k hp new
def Inv.write{x e:Ì}(I:Inv X Á σ H s)(mu:Mut<|H x)(he:e=x\/H e=df (.own x))(k:∀b u,b≠e->s.heap.get? b=df u->h'.get? b=df u)(heo:∃u,h'.get? e=df u)
  (new:dB X.prog X.w (upd H x o) h' x o):Inv X Á σ (upd H x o) {s with heap:=h',toks:=t'}:=I.un (Un.write mu he k heo)<|I.hok.write mu he k heo new
def Inv.pins_of{pins':List (Ì×Obj)}(I:Inv X Á σ H s)(h:∀p∈pins',s.heap.get? p.1=df p.2/\H p.1=dg/\p.1≠X.env.locals/\p.1∉X.fs/\∀v,p.2.data≠.cell v):Inv X pins' σ H s :=
 ⟨I.ok,I.os,I.bare,I.base,I.loc,I.cell,I.free,I.freeC,λp hp=>(à.mp hp).elim (λz=>I.pin p<|Ö _ z)<|h p,I.hok,I.len⟩
variable {i:Nat} {x:Str}
def Nv{N:List Str}(hN:N.Nodup){j:Nat}(a:N[i]?=df x)(b:N[j]?=df x):i=j:=by let⟨h1,e1⟩:=Î.mp a;let⟨h2,e2⟩:=Î.mp b;exact(Ϥ hN).mp (e1.trans e2.symm)
variable {M:Model} {A:Ğ} {u:Â} {Q:Unit->Å->Prop}
def Kx{E:Â->Å->Prop}{v:V}(I:Inv X Á σ H s)(hN:X.N.Nodup)(hi:X.N[i]?=df x)(hx:Loc X.env.scope x)(r:RelV v u)
  (h:∀s',Inv X Á (σ.set i<|df v) H s'->(∃a,ν a s.heap s'.heap/\(a=X.env.locals\/X.env.cells.lookup x=df a))->Q () s') (hf:X.fn x=dh\/X.env.scope.names.lookup x=df .local:=by first|exact .inl rfl|exact .inr rfl|assumption):wpAny M A (storeName X.env x u) Q E s:=by
 let⟨m,hn,hl⟩:=id I.loc;have hcls:(X.env.scope.kind == .class||(X.env.scope.kind == .module&&X.env.locals != X.env.globals))=di:=by rw[I.ok.kind];rfl
 have hiσ:i<σ.length:=by rw[I.len];exact(Î.mp hi).1
 have cne:=I.cne;have bY:∀{a:Ì}{h':ċ},(∃o,s.heap.get? a=df o/\H a=dg)->ν a s.heap h'->HOk X.prog X.w H h':=λ{a h'} ha hs b ob e=>by
  let⟨_,_,hfree⟩:=ha;refine(I.hok b ob e).stay (λc w' hc q=>(hs.2 c ?_).trans q) (λ_ q=>q) λ_ _ q=>q;rintro rfl;rcases hc with rfl|hc
  .rw[hfree]at e;cases e
  .rw[hfree]at hc;cases hc
 rcases hx with hk|hk
 .refine wpAny_storeName_local hk hn (λh' hn' hs=>?_) hcls;let⟨oL,_,_,hoL,_⟩:=id hn;refine h _ ⟨I.ok,I.os,I.bare,⟨λb o e n hb hx=>?_,λb o e n hb hx=>?_,I.base.free,λb o e hx=>?_,I.base.tups,I.base.frzs,I.base.tbls⟩,⟨_,hn',λj y v' e1 e2 e3=>?_⟩,λy c e=>?_,I.free,I.freeC,λp hp=>?_,bY ⟨oL,hoL,I.free⟩ hs,by simpa using I.len⟩ ⟨_,hs,.inl rfl⟩
  .exact(hs.2 b<|ì<|å (Ú e) I.ok.above).trans<|I.base.keep b o e n hb hx
  .obtain⟨sl,e1⟩:=I.base.slot b o e n hb hx;exact⟨sl,(hs.2 b<|ì<|å (Ú e) I.ok.above).trans e1⟩
  .obtain⟨o',e1⟩:=I.base.there b o e hx;exact⟨o',(hs.2 b<|ì<|å (Ú e) I.ok.above).trans e1⟩
  .by_cases hj:j=i
   .subst hj;rw[hi]at e1;cases e1;rw[ξ hiσ]at e2;cases e2;exact⟨u,r,.inl ⟨hk,by simp⟩⟩
   .rw[Ū<|Ne.symm hj]at e2;let⟨u',r',q⟩:=hl j y v' e1 e2 e3;refine⟨u',r',?_⟩;rcases q with⟨k,e⟩|⟨k,c,e,z⟩
    .refine .inl ⟨k,?_⟩;have:y≠x:=λe=>hj<|Nv hN e1<|e▸hi;simp[this,e]
    .exact .inr ⟨k,c,e,z.sameBut hs<|cne y c e⟩
  .obtain⟨w',z⟩:=I.cell y c e;exact⟨w',z.sameBut hs<|cne y c e⟩
  .obtain⟨e,n,ne,nf,d⟩:=I.pin p hp;exact⟨(hs.2 p.1 ne).trans e,n,ne,nf,d⟩
 .have hfn:X.fn x=dh:=by
   rcases hf with z|z
   .exact z
   .rw[z]at hk;cases hk
  let⟨c,hc⟩:=I.ok.has x<|.inl hk;let⟨w',z⟩:=I.cell x c hc;refine wpAny_storeName_cell I.ok.kind hk hc z λh' hc' hs=>?_;let⟨oc,hoc,hocd⟩:=id z;refine h {s with heap:=h'} ⟨I.ok,I.os,I.bare,⟨λb o e n hb hx=>?_,λb o e n hb hx=>?_,I.base.free,λb o e hx=>?_,I.base.tups,I.base.frzs,I.base.tbls⟩,⟨m,hn.sameBut hs<|Ne.symm<|cne x c hc,λj y v' e1 e2 e3=>?_⟩,λy c' e=>?_,I.free,I.freeC,λp hp=>?_,bY ⟨oc,hoc,I.freeC x c hc⟩ hs,by simpa using I.len⟩ ⟨c,hs,.inr hc⟩
  .exact(hs.2 b<|ì<|å (Ú e)<|I.ok.cab x c hfn hc).trans<|I.base.keep b o e n hb hx
  .obtain⟨sl,e1⟩:=I.base.slot b o e n hb hx;exact⟨sl,(hs.2 b<|ì<|å (Ú e)<|I.ok.cab x c hfn hc).trans e1⟩
  .obtain⟨o',e1⟩:=I.base.there b o e hx;exact⟨o',(hs.2 b<|ì<|å (Ú e)<|I.ok.cab x c hfn hc).trans e1⟩
  .by_cases hj:j=i
   .subst hj;rw[hi]at e1;cases e1;rw[ξ hiσ]at e2;cases e2;exact⟨u,r,.inr ⟨.inl hk,c,hc,hc'⟩⟩
   .rw[Ū<|Ne.symm hj]at e2;let⟨u',r',q⟩:=hl j y v' e1 e2 e3;refine⟨u',r',?_⟩;rcases q with q|⟨k,c',e,z'⟩
    .exact .inl q
    .refine .inr ⟨k,c',e,z'.sameBut hs ?_⟩;rintro rfl;exact hj<|Nv hN e1<|I.ok.inj _ _ _ e hc▸hi
  .by_cases hcc:c'=c
   .subst hcc;exact⟨_,hc'⟩
   .obtain⟨w2,z2⟩:=I.cell y c' e;exact⟨w2,z2.sameBut hs hcc⟩
  .obtain⟨e,n,ne,nf,d⟩:=I.pin p hp;refine⟨(hs.2 p.1 ?_).trans e,n,ne,nf,d⟩;intro q;rw[q,hoc]at e;have q':oc=p.2:=ï e;exact d w' (by rw[<-q'];exact hocd)
def BO{E:Â->Å->Prop}{v:V}(I:Inv X Á σ H s)(hN:X.N.Nodup)(hi:X.N[i]?=df x)(hx:Loc X.env.scope x)(r:RelV v u)
  (h:∀s',Inv X Á (σ.set i<|df v) H s'->Q () s') (hf:X.fn x=dh\/X.env.scope.names.lookup x=df .local:=by first|exact .inl rfl|exact .inr rfl|assumption):wpAny M A (storeName X.env x u) Q E s :=
 Kx I hN hi hx r (λs' I' _=>h s' I') hf
def Inv.call'{s':Å}(I:Inv X Á σ H s)(ho:s'.os=s.os)(u:Un (frs X.stack) ch H H' s.heap s'.heap)(hok:HOk X.prog X.w H' s'.heap)(hg:μ s'.gens)
  (hch:∀b∈ch,(b∈X.ex\/X.s₀.heap.objs.size<=b)/\b≠X.env.locals/\(∀x c,X.env.cells.lookup x=df c->c≠b)/\∀p∈X.pn++Á,p.1≠b):Inv X Á σ H' s':=by
 let⟨h',g',d',t',o'⟩:=s';have e:o'=s.os:=ho;subst e;exact I.call (g':=g') (t':=t') (d':=d') u hok hg hch
end
noncomputable abbrev XK:=Â->Option Ì->Hp->Prop
noncomputable abbrev St:=List<|Option V
noncomputable abbrev VK:=V->Hp->Prop
noncomputable abbrev TE:=St->Hp->VK->Prop
noncomputable abbrev TT:=St->Hp->(Bool->Hp->Prop)->Prop
noncomputable abbrev TA:=St->Hp->(List V->Hp->Prop)->Prop
structure Ends where
 nx:St->Hp->Prop
 rt:VK
 bk:St->Hp->Prop:=λ_ _=>False
 ct:St->Hp->Prop:=λ_ _=>False
noncomputable abbrev TS:=Ends->St->Hp->Prop
inductive EP (X:Cx) (Á:List<|Ì×Obj) (σ:St) (Q:VK) (u:Â) (s':Å):Prop
 |mk (v:V) (H':Hp) (i:Inv X Á σ H' s') (r:RelV v u) (q:Q v H')
abbrev TP(X:Cx)(Á:List<|Ì×Obj)(σ:St)(Q:Bool->Hp->Prop)(b:Bool)(s':Å):Prop:=∃H',Inv X Á σ H' s'/\Q b H'
inductive AP (X:Cx) (Á:List<|Ì×Obj) (σ:St) (Q:List V->Hp->Prop) (us:List Â) (s':Å):Prop
 |mk (vs:List V) (H':Hp) (i:Inv X Á σ H' s') (r:eV vs us) (q:Q vs H')
abbrev SP(X:Cx)(Á:List<|Ì×Obj)(D:Ends)(f:Flow)(s':Å):Prop :=
 match f with
 |.next=>∃Ń H',Inv X Á Ń H' s'/\D.nx Ń H'
 |.brk=>∃Ń H',Inv X Á Ń H' s'/\D.bk Ń H'
 |.cont=>∃Ń H',Inv X Á Ń H' s'/\D.ct Ń H'
 |.ret u=>∃v Ń H',Inv X Á Ń H' s'/\RelV v u/\D.rt v H'
abbrev PE(X:Cx)(e:Expr)(t:TE):Prop :=
 ∀(Á:List<|Ì×Obj) (s:Å) (σ:St) (H:Hp) (Q:VK),Inv X Á σ H s->t σ H Q->wpAny (â X.prog X.w) X.A (eval e X.env) (EP X Á σ Q) X.xe s
abbrev PT(X:Cx)(e:Expr)(t:TT):Prop :=
 ∀(Á:List<|Ì×Obj) (s:Å) (σ:St) (H:Hp) (Q:Bool->Hp->Prop),Inv X Á σ H s->t σ H Q->wpAny (â X.prog X.w) X.A (bu e X.env<|eval e X.env) (TP X Á σ Q) X.xe s
abbrev PW(X:Cx)(e:Expr)(t:TT):Prop :=
 ∀(ϯ:Sem Â) (Á:List<|Ì×Obj) (s:Å) (σ:St) (H:Hp) (Q:Bool->Hp->Prop),Inv X Á σ H s->t σ H Q->wpAny (â X.prog X.w) X.A (bu e X.env ϯ) (TP X Á σ Q) X.xe s
def PW.pt{X:Cx}{e:Expr}{t:TT}(h:PW X e t):PT X e t:=h _
abbrev PA(X:Cx)(es:List Expr)(t:TA):Prop :=
 ∀(ç:Pos) (Á:List<|Ì×Obj) (s:Å) (σ:St) (H:Hp) (Q:List V->Hp->Prop),Inv X Á σ H s->t σ H Q->wpAny (â X.prog X.w) X.A (spliced<|Ē ç<|Ó es X.env) (AP X Á σ Q) X.xe s
abbrev PS(X:Cx)(st:ĭ)(t:TS):Prop :=
 ∀(Á:List<|Ì×Obj) (s:Å) (σ:St) (H:Hp) (D:Ends),Inv X Á σ H s->t D σ H->wpAny (â X.prog X.w) X.A (exec st X.env) (SP X Á D) X.xe s
abbrev PSs(X:Cx)(st:List ĭ)(t:TS):Prop :=
 ∀(Á:List<|Ì×Obj) (s:Å) (σ:St) (H:Hp) (D:Ends),Inv X Á σ H s->t D σ H->wpAny (â X.prog X.w) X.A (execs st X.env) (SP X Á D) X.xe s
def thn{α:Type}{t:Sem α}{Q Q':α->Å->Prop}{M:Model}{A:Ğ}{E:Â->Å->Prop}{s:Å}(h:wpAny M A t Q E s)(hQ:∀a s,Q a s->Q' a s):wpAny M A t Q' E s:=Ņ h hQ λ_ _ x=>x
section
variable {X:Cx}
variable {Á:List (Ì×Obj)} {s:Å} {σ:St} {H:Hp}
def bin{a b:Expr}{ta tb:TE}(ha:PE X a ta)(hb:PE X b tb){R:V->V->Hp->Prop}(I:Inv X Á σ H s)(h:ta σ H λx H1=>tb σ H1 λy H2=>R x y H2)
  {α:Type}{Q:α->Å->Prop}{f:Â->Â->Sem α}
  (hf:∀v u s2 x y H2,Inv X Á σ H2 s2->RelV x v->RelV y u->R x y H2->wpAny (â X.prog X.w) X.A (f v u) Q X.xe s2) :
  wpAny (â X.prog X.w) X.A (eval a X.env) (λv ģ=>wpAny (â X.prog X.w) X.A (eval b X.env) (λu bd=>wpAny (â X.prog X.w) X.A (f v u) Q X.xe bd) X.xe ģ) X.xe s:=by
 refine thn (ha Á s σ H _ I h) λv s1 ⟨x,H1,I1,r1,q1⟩=>?_;refine thn (hb Á s1 σ H1 _ I1 q1) λu s2 ⟨y,H2,I2,r2,q2⟩=>?_;exact hf v u s2 x y H2 I2 r1 r2 q2
abbrev RG(i:Nat):TE:=λσ H Q=>∃v,σ[i]?=df (df v)/\Q v H
abbrev tC(v:V):TE:=λ_ H Q=>Q v H
variable {x:Str} {ç:Pos}
def Ln{i:Nat}(hN:X.N[i]?=df x)(hv:Vis X.env.scope x)(hd:(x==("__debug__" : Str))=di:=by decide)(av:(x==("__classdict__" : Str))=di:=by decide):PE X (.Name x ç)<|RG i:=by
 intro Á s σ H Q I h;let⟨v,e,h⟩:=h;let⟨m,hn,hl⟩:=I.loc;let⟨u,r,l⟩:=hl i x v hN e hv;have fin:EP X Á σ Q u s:=⟨v,H,I,r,h⟩
 rcases l with⟨hk,hm⟩|⟨hk,c,hc,hcell⟩
 .exact wpAny_Name (wpAny_loadName_local I.ok.kind hk hn hm fin) hd
 .rcases hk with hk|hk
  .exact wpAny_Name (wpAny_loadName_cell I.ok.kind hk hc hcell fin) hd
  .exact wpAny_Name (wpAny_loadName_free I.ok.kind hk hc hcell fin av) hd
def OP{i j ç}:PE X (.Constant (.int i) j ç)<|tC<|.int i:=λ_ _ _ H _ I h=>wpAny_Constant_int ⟨.int i,H,I.tok _,⟨_,rfl⟩,h⟩
def P0{b j ç}:PE X (.Constant (.bool b) j ç)<|tC<|.bl b:=λ_ _ _ H _ I h=>Constant_bool ⟨.bl b,H,I,rfl,h⟩
def CF{j ç}:PE X (.Constant .none j ç)<|tC .non:=λ_ _ _ H _ I h=>ca ⟨.non,H,I,rfl,h⟩
def pe_str{x j ç}:PE X (.Constant (.str x) j ç)<|tC<|.str x:=λ_ _ _ H _ I h=>Calls.Constant_str ⟨.str x,H,I.tok _,⟨_,rfl⟩,h⟩
abbrev Gl(X:Cx)(x:Str):Prop:=X.env.kindOf x=df .globalImplicit
variable {u:Â} {Q:Â->Å->Prop}
def W3{E:Â->Å->Prop}(I:Inv X Á σ H s)(hg:Gl X x)(hm:X.mg x=df u)(h:Q u s)
  (hd:(x==("__debug__" : Str))=di:=by decide):wpAny (â X.prog X.w) X.A (eval (.Name x ç) X.env) Q E s :=
 Calls.Name_function_global I.ok.kind hg (Calls.loadGlobal_global (by rw[I.ok.glob];exact I.mod.glob.keeps I.bk) hm h) hd
def XI{E:Â->Å->Prop}(I:Inv X Á σ H s)(hg:Gl X x)(hm:X.mg x=dg)(hv:Ŕ x=df u)(h:Q u s)
  (hn:x≠"__name__":=by decide) (hd:(x==("__debug__" : Str))=di:=by decide):wpAny (â X.prog X.w) X.A (eval (.Name x ç) X.env) Q E s:=by
 let⟨mb,h1,h2⟩:=I.mod.blt;exact Calls.Name_function_global I.ok.kind hg (Calls.loadGlobal_builtin (by rw[I.ok.glob];exact I.mod.glob.keeps I.bk) hm (by rw[I.ok.blt];exact h1.keeps I.bk) ((h2 x hn).trans hv) h) hd
def FC{v:V}(hg:Gl X x)(hm:X.mg x=df u)(r:RelV v u)(hd:(x==("__debug__" : Str))=di:=by decide):PE X (.Name x ç) (tC v) :=
 λ_ _ _ H _ I h=>W3 I hg hm ⟨v,H,I,r,h⟩ hd
def Fu{v:V}(hg:Gl X x)(hm:X.mg x=dg)(hv:Ŕ x=df u)(r:RelV v u)(hn:x≠"__name__":=by decide)(hd:(x==("__debug__" : Str))=di:=by decide):PE X (.Name x ç) (tC v) :=
 λ_ _ _ H _ I h=>XI I hg hm hv ⟨v,H,I,r,h⟩ hn hd
variable {a b:Expr}{ta tb:TE}{ç:Pos}
abbrev PC(X:Cx)(op:bv)(a b:Expr)(t:TE):Prop :=
 ∀(Á:List<|Ì×Obj) (s:Å) (σ:St) (H:Hp) (Q:VK),Inv X Á σ H s->t σ H Q->
  wpAny (â X.prog X.w) X.A (eval a X.env) (λv ģ=>wpAny (â X.prog X.w) X.A (eval b X.env) (λu bd=>wpAny (â X.prog X.w) X.A (é op v u) (EP X Á σ Q) X.xe bd) X.xe ģ) X.xe s
variable {op:bv}
def No(b:Expr)(h:op≠.In)(h2:op≠.NotIn):ī op b=di:=by
 have e1:(op==CmpOp.In)=di:=by cases op<;>first|rfl|exact fk rfl h
 have e2:(op==CmpOp.NotIn)=di:=by cases op<;>first|rfl|exact fk rfl h2
 cases b<;>simp[ī,e1,e2]
abbrev Rm(ta:TE):TE:=λσ H Q=>ta σ H λx H1=>Q (.bl<|fm (x=.non)) H1
abbrev Pl(ta:TE):TE:=λσ H Q=>ta σ H λx H1=>Q (.bl (!fm (x=.non))) H1
def RelV.none_iff{x:V}{v:Â}(r:RelV x v):(v==Value.none)=fm (x=.non):=by
 cases x with
 |non=>cases r;rfl
 |bl _=>cases r;rfl
 |int _=>let⟨t,rfl⟩:=r;rfl
 |str _=>let⟨t,rfl⟩:=r;rfl
 |byt _=>let⟨t,rfl⟩:=r;rfl
 |flt _=>let⟨t,rfl⟩:=r;rfl
 |ref _=>cases r;rfl
 |ty _=>cases r;rfl
def B4{j aF}(ha:PE X a ta):PC X .Is a (.Constant .none j aF)<|Rm ta:=by intro Á s σ H Q I h;refine thn (ha Á s σ H _ I h) λv s1 ⟨x,H1,I1,r1,q1⟩=>?_;exact ca (is_none_gen ⟨.bl _,H1,I1,by rw[r1.none_iff];rfl,q1⟩)
def O5{j aF}(ha:PE X a ta):PC X .IsNot a (.Constant .none j aF)<|Pl ta:=by intro Á s σ H Q I h;refine thn (ha Á s σ H _ I h) λv s1 ⟨x,H1,I1,r1,q1⟩=>?_;exact ca (isnot_none_gen ⟨.bl _,H1,I1,by rw[r1.none_iff];rfl,q1⟩)
abbrev tB(t:TE):TT:=λσ H Q=>t σ H λx H1=>∃c,x=.bl c/\Q c H1
def CC{t:TE}(h:PC X op a b t)(h1:ī op b=di:=by first|exact No _ (by decide) (by decide)|rfl):PE X (.Compare a [op] [b] ç) t:=λÁ s σ H Q I hw=>wpAny_Compare1 (h Á s σ H Q I hw) h1
def DU{t:TE}(h:PC X op a b t)(h1:ī op b=di:=by first|exact No _ (by decide) (by decide)|rfl):PT X (.Compare a [op] [b] ç)<|tB t:=by intro Á s σ H Q I hw;refine wpAny_isTrue_Compare1 (thn (h Á s σ H _ I hw) λv s1 h1=>thn h1 λu s2 h2=>thn h2 λc s3 ⟨x,H1,I1,r1,q1⟩=>?_) h1;let⟨d,rfl,q⟩:=q1;cases r1;exact Ć ⟨H1,I1,q⟩
variable {tA tB':TT}{rest:List Expr}
abbrev RD(t u:TT):TT:=λσ H Q=>t σ H λc H1=>if c=dh then u σ H1 Q else Q di H1
abbrev tOr(t u:TT):TT:=λσ H Q=>t σ H λc H1=>if c=dh then Q dh H1 else u σ H1 Q
abbrev Ru(t:TT):TT:=λσ H Q=>t σ H λc H1=>Q (!c) H1
def Fp(ha:PT X a tA):PW X (.BoolOp .And [a] ç) tA:=by
 intro wh Á s σ H Q I h;refine isTrue_and<|thn (ha Á s σ H Q I h) λc s1 e=>?_;cases c with
 |true=>exact isTrue_and_nil e
 |false=>exact e
def LO(ha:PT X a tA):PW X (.BoolOp .Or [a] ç) tA:=by
 intro wh Á s σ H Q I h;refine isTrue_or<|thn (ha Á s σ H Q I h) λc s1 e=>?_;cases c with
 |false=>exact isTrue_or_nil e
 |true=>exact e
def HG(ha:PT X a tA)(hb:PW X (.BoolOp .And (b::rest) ç) tB'):PW X (.BoolOp .And (a::b::rest) ç)<|RD tA tB':=by
 intro wh Á s σ H Q I h;refine isTrue_and<|thn (ha Á s σ H _ I h) λc s1 ⟨H1,I1,q1⟩=>?_;cases c with
 |true=>exact hb wh Á s1 σ H1 Q I1 q1
 |false=>exact⟨H1,I1,q1⟩
def Q3(ha:PT X a tA)(hb:PW X (.BoolOp .Or (b::rest) ç) tB'):PW X (.BoolOp .Or (a::b::rest) ç)<|tOr tA tB':=by
 intro wh Á s σ H Q I h;refine isTrue_or<|thn (ha Á s σ H _ I h) λc s1 ⟨H1,I1,q1⟩=>?_;cases c with
 |true=>exact⟨H1,I1,q1⟩
 |false=>exact hb wh Á s1 σ H1 Q I1 q1
def Lw(ha:PT X a tA):PT X (.UnaryOp .Not a ç)<|Ru tA:=by intro Á s σ H Q I h;exact isTrue_not (ha Á s σ H (λc H1=>Q (!c) H1) I h)
abbrev QY(ta tb:TE):TE:=λσ H Q=>ta σ H λx H1=>∃c,x=.bl c/\if c=dh then tb σ H1 Q else Q (.bl di) H1
abbrev Rz(ta tb:TE):TE:=λσ H Q=>ta σ H λx H1=>∃c,x=.bl c/\if c=dh then Q (.bl dh) H1 else tb σ H1 Q
abbrev QW(ta:TE):TE:=λσ H Q=>ta σ H λx H1=>∃c,x=.bl c/\Q (.bl (!c)) H1
def CA{op}{t:TE}(h:PE X a t):PE X (.BoolOp op [a] ç) t:=λÁ s σ H Q I hw=>BoolOp_one (h Á s σ H Q I hw)
def LH(ha:PE X a ta)(hb:PE X (.BoolOp .And (b::rest) ç) tb):PE X (.BoolOp .And (a::b::rest) ç)<|QY ta tb:=by
 intro Á s σ H Q I h;refine BoolOp_and<|thn (ha Á s σ H _ I h) λv s1 ⟨x,H1,I1,r1,q1⟩=>?_;let⟨c,rfl,q1⟩:=q1;cases r1;refine Ć ?_;cases c with
 |true=>exact hb Á s1 σ H1 Q I1 q1
 |false=>exact⟨.bl di,H1,I1,rfl,q1⟩
def Pf(ha:PE X a ta)(hb:PE X (.BoolOp .Or (b::rest) ç) tb):PE X (.BoolOp .Or (a::b::rest) ç)<|Rz ta tb:=by
 intro Á s σ H Q I h;refine BoolOp_or<|thn (ha Á s σ H _ I h) λv s1 ⟨x,H1,I1,r1,q1⟩=>?_;let⟨c,rfl,q1⟩:=q1;cases r1;refine Ć ?_;cases c with
 |false=>exact hb Á s1 σ H1 Q I1 q1
 |true=>exact⟨.bl dh,H1,I1,rfl,q1⟩
def HC(ha:PE X a ta):PE X (.UnaryOp .Not a ç)<|QW ta:=by intro Á s σ H Q I h;refine UnaryOp_<|thn (ha Á s σ H _ I h) λv s1 ⟨x,H1,I1,r1,q1⟩=>?_;let⟨c,rfl,q1⟩:=q1;cases r1;exact not_of (Ć ⟨.bl (!c),H1,I1,rfl,q1⟩)
abbrev tIf(t:TT)(ta tb:TE):TE:=λσ H Q=>t σ H λc H1=>if c=dh then ta σ H1 Q else tb σ H1 Q
def BJ{c:Expr}(hc:PT X c tA)(ha:PE X a ta)(hb:PE X b tb):PE X (.IfExp c a b ç)<|tIf tA ta tb:=by
 intro Á s σ H Q I h;refine wpAny_IfExp<|thn (hc Á s σ H _ I h) λd s1 ⟨H1,I1,q1⟩=>?_;cases d with
 |true=>exact ha Á s1 σ H1 Q I1 q1
 |false=>exact hb Á s1 σ H1 Q I1 q1
end
abbrev eS(K:Frag)(H:Hp)(a:Ì)(xs:List V):Prop :=
 Rd H a (.lst xs)\/
  ∃(o:Obj) (ð:Array Â) (n:Nat),K.lookup a=df o/\o.cls=.type "list"/\o.dict=dg/\o.data=.seq ð n/\ð.size<=Ü/\eV xs ð.toList
abbrev eU(K:Frag)(H:Hp)(a:Ì)(xs:List V):Prop :=
 Rd H a (.tup xs)\/
  ∃(o:Obj) (ð:Array Â) (n:Nat),K.lookup a=df o/\o.cls=.type "tuple"/\o.data=.seq ð n/\ð.size<=Ü/\eV xs ð.toList
abbrev absV:Â->Option V
 |.none=>df .non
 |.bool b=>df<|.bl b
 |.int i _=>df<|.int i
 |.str x _=>df<|.str x
 |.bytes b _=>df<|.byt b
 |.float b _=>df<|.flt b
 |.ref a=>df<|.ref a
 |.type n=>df<|.ty n
 |_=>dg
variable {x:V} {u:Â}
def RelV.abs(r:RelV x u):absV u=df x:=by
 cases x with
 |non=>cases r;rfl
 |bl _=>cases r;rfl
 |int _=>let⟨t,rfl⟩:=r;rfl
 |str _=>let⟨t,rfl⟩:=r;rfl
 |byt _=>let⟨t,rfl⟩:=r;rfl
 |flt _=>let⟨t,rfl⟩:=r;rfl
 |ref _=>cases r;rfl
 |ty _=>cases r;rfl
def RelV.inj{y:V}(r:RelV x u)(q:RelV y u):x=y:=ï (r.abs.symm.trans q.abs)
def eV.inj:∀{xs ys:List V}{us:List Â},eV xs us->eV ys us->xs=ys
 |_,_,_,.nil,.nil=>rfl
 |_,_,_,.cons r t,.cons r' t'=>by rw[r.inj r',eV.inj t t']
section
variable {X:Cx}{Á:List (Ì×Obj)}{σ:St}{H:Hp}{s:Å}{a:Ì}{xs ys:List V}
def eS.of{K:Frag}(h:H a=df (.lst xs)):eS K H a xs:=.inl (.inl h)
def eU.of{K:Frag}(h:H a=df (.tup xs)):eU K H a xs:=.inl (.inl h)
def Inv.list(I:Inv X Á σ H s)(h:eS X.K H a xs):∃ð:List Â,eV xs ð/\PlainL s.heap a ð.toArray/\xs.length<=Ü:=by
 rcases h with h|⟨o,ð,n,hk,hc,hd,hs,hz,r⟩
 .obtain⟨z,ð,n,r,e⟩:=h.ok I.hok;exact⟨ð,r,⟨_,n,e,rfl,rfl,rfl⟩,z⟩
 .refine⟨ð.toList,r,⟨o,n,I.kIn a o hk,hc,hd,⇑hs⟩,?_⟩;have e:=r.length;simp only[ů]at e;lia
def Inv.tuple(I:Inv X Á σ H s)(h:eU X.K H a xs):∃ð:List Â,eV xs ð/\ϣ s.heap a ð.toArray/\xs.length<=Ü:=by
 rcases h with h|⟨o,ð,n,hk,hc,hs,hz,r⟩
 .obtain⟨z,ð,r,p⟩:=h.ok I.hok;exact⟨ð,r,p,z⟩
 .refine⟨ð.toList,r,⟨o,I.kIn a o hk,hc,n,⇑hs⟩,?_⟩;have e:=r.length;simp only[ů]at e;lia
def Inv.list_inj(I:Inv X Á σ H s)(h:eS X.K H a xs)(h':eS X.K H a ys):xs=ys:=by
 let⟨ð,r,⟨o,n,e,_,_,d⟩,_⟩:=I.list h;let⟨its',r',⟨o',n',e',_,_,d'⟩,_⟩:=I.list h';rw[e]at e';cases e';rw[d]at d';injection d' with d1 _;have:ð=its':=by simpa using congrArg aX d1
 subst this;exact r.inj r'
def Inv.tuple_inj(I:Inv X Á σ H s)(h:eU X.K H a xs)(h':eU X.K H a ys):xs=ys:=by
 let⟨ð,r,⟨o,e,_,n,d⟩,_⟩:=I.tuple h;let⟨its',r',⟨o',e',_,n',d'⟩,_⟩:=I.tuple h';rw[e]at e';cases e';rw[d]at d';injection d' with d1 _;have:ð=its':=by simpa using congrArg aX d1
 subst this;exact r.inj r'
end
section
variable {X:Cx}{st:ĭ}{rest:List ĭ}{t u:TS}{e:Expr}{te:TE}{ç:Pos}
abbrev Qa:TS:=λD σ H=>D.nx σ H
abbrev Rl(t u:TS):TS:=λD σ H=>t {D with nx:=u D} σ H
def pss_nil:PSs X [] Qa:=λ_ _ σ H _ I h=>aY ⟨σ,H,I,h⟩
def Cw(h1:PS X st t)(h2:PSs X rest u):PSs X (st::rest)<|Rl t u:=by
 intro Á s σ H D I h;refine wpAny_execs_cons<|thn (h1 Á s σ H {D with nx:=u D} I h) λf s1 q=>?_;cases f with
 |next =>let⟨Ń,H',I',q⟩:=q;exact h2 Á s1 Ń H' D I' q
 |ret v=>exact q
 |brk=>exact q
 |cont=>exact q
def Inv.quiet{Á:List (Ì×Obj)}{σ:St}{H:Hp}{s:Å}(I:Inv X Á σ H s):interactive X.env=di:=by simp[interactive,I.ok.kind]
abbrev PK(te:TE):TS:=λD σ H=>te σ H λ_ H1=>D.nx σ H1
def Gy(he:PE X e te)(hs:ş e dg ç.line X.env=pure di:=by rfl):PS X (.Expr e ç)<|PK te:=by intro Á s σ H D I h;exact wpAny_Expr_any (thn (he Á s σ H _ I h) λv s1 ⟨x,H1,I1,r1,q1⟩=>⟨σ,H1,I1,q1⟩) I.quiet hs
abbrev RL(te:TE):TS:=λD σ H=>te σ H D.rt
def HN(he:PE X e te):PS X (.Return (df e) ç)<|RL te:=by intro Á s σ H D I h;exact wpAny_Return_some (thn (he Á s σ H _ I h) λv s1 ⟨x,H1,I1,r1,q1⟩=>⟨x,σ,H1,I1,r1,q1⟩)
abbrev Q2:TS:=λD _ H=>D.rt .non H
def ps_retN:PS X (.Return dg ç) Q2:=λ_ _ σ H _ I h=>wpAny_Return_none ⟨.non,σ,H,I,rfl,h⟩
abbrev RF(c:TT)(t u:TS):TS:=λD σ H=>c σ H λb H1=>if b=dh then t D σ H1 else u D σ H1
def PU{c:Expr}{a b:List ĭ}{tc:TT}(hc:PT X c tc)(ha:PSs X a t)(hb:PSs X b u):PS X (.If c a b ç)<|RF tc t u:=by
 intro Á s σ H D I h;refine wpAny_If<|thn (hc Á s σ H _ I h) λd s1 ⟨H1,I1,q1⟩=>?_;cases d with
 |true=>exact ha Á s1 σ H1 D I1 q1
 |false=>exact hb Á s1 σ H1 D I1 q1
end
noncomputable abbrev TG:=V->St->Hp->(St->Hp->Prop)->Prop
noncomputable abbrev TGs:=List V->St->Hp->(St->Hp->Prop)->Prop
abbrev PG(X:Cx)(Ϙ:Expr)(t:TG):Prop :=
 ∀(Á:List<|Ì×Obj) (s:Å) (σ:St) (H:Hp) (v:V) (u:Â) (Q:St->Hp->Prop),Inv X Á σ H s->RelV v u->t v σ H Q->
  wpAny (â X.prog X.w) X.A (Ű Ϙ X.env u) (λ_ s'=>∃Ń H',Inv X Á Ń H' s'/\Q Ń H') X.xe s
abbrev PGs(X:Cx)(ts:List Expr)(t:TGs):Prop :=
 ∀(Á:List<|Ì×Obj) (s:Å) (σ:St) (H:Hp) (vs:List V) (us:List Â) (Q:St->Hp->Prop),Inv X Á σ H s->eV vs us->t vs σ H Q->
  wpAny (â X.prog X.w) X.A (assignInOrder ((Ė ts X.env).map (·.2)) us) (λ_ s'=>∃Ń H',Inv X Á Ń H' s'/\Q Ń H') X.xe s
noncomputable abbrev DQ:=V->V->V->Hp->(Hp->Prop)->Prop
abbrev PSet(X:Cx)(t:DQ):Prop :=
 ∀(Á:List<|Ì×Obj) (s:Å) (σ:St) (H:Hp) (o i v:V) (ov iv u:Â) (Q:Hp->Prop),Inv X Á σ H s->RelV o ov->RelV i iv->RelV v u->t o i v H Q->
  wpAny (â X.prog X.w) X.A (ae ov iv u) (λ_ s'=>∃H',Inv X Á σ H' s'/\Q H') X.xe s
noncomputable abbrev TIp:=V->V->Hp->VK->Prop
abbrev PIp(X:Cx)(op:Γ)(t:TIp):Prop :=
 ∀(Á:List<|Ì×Obj) (s:Å) (σ:St) (H:Hp) (x y:V) (v u:Â) (Q:VK),Inv X Á σ H s->RelV x v->RelV y u->t x y H Q->
  wpAny (â X.prog X.w) X.A (inplaceOp op v u) (EP X Á σ Q) X.xe s
section
variable {X:Cx}{ç:Pos}
abbrev G0(i:Nat):TG:=λv σ H Q=>Q (σ.set i<|df v) H
def Uo{i:Nat}{x:Str}(hN:X.N.Nodup)(hi:X.N[i]?=df x)(hx:Loc X.env.scope x)(hf:X.fn x=dh\/X.env.scope.names.lookup x=df .local:=by first|exact .inl rfl|exact .inr rfl|assumption):PG X (.Name x ç)<|G0 i:=by intro Á s σ H v u Q I r h;exact wpAny_assign_Name (BO I hN hi hx r (λs' I'=>⟨_,H,I',h⟩) hf)
abbrev RJ:TGs:=λvs σ H Q=>vs=[]/\Q σ H
abbrev QH(t:TG)(u:TGs):TGs:=λvs σ H Q=>∃v r,vs=v::r/\t v σ H λŃ H'=>u r Ń H' Q
def pgs_nil:PGs X [] RJ:=by intro Á s σ H vs us Q I r h;let⟨e,h⟩:=h;subst e;cases r;exact assignInOrder_nil ⟨σ,H,I,h⟩
variable {e:Expr} {es:List Expr}
def Jr{t:TG}{u:TGs}(h1:PG X e t)(h2:PGs X es u)
  (hs:(Ė (e::es) X.env).map (·.2)=Ű e X.env::(Ė es X.env).map (·.2):=by rfl):PGs X (e::es)<|QH t u:=by
 intro Á s σ H vs us Q I r h;let⟨v,vr,e1,h⟩:=h;subst e1;cases r with
 |cons r rr =>rw[hs];refine assignInOrder_cons<|thn (h1 Á s σ H _ _ _ I r h) λ_ s1 ⟨σ1,H1,I1,q1⟩=>?_;exact h2 Á s1 σ1 H1 _ _ Q I1 rr q1
abbrev Sc(K:Frag)(n:Nat)(t:TGs):TG:=λv σ H Q=>∃a xs,v=.ref a/\eU K H a xs/\xs.length=n/\t xs σ H Q
def Cs{k:Nat}{t:TGs}{n:Nat}(hc:X.calm=dh)(h:PGs X es t)
  (hn:(Ė es X.env).length=n:=by rfl) (ŭ:(Ė es X.env).findIdx? (·.1)=dg:=by rfl):PG X (.Tuple es k ç)<|Sc X.K n t:=by
 intro Á s σ H v u Q I r hw;let⟨a,xs,e1,hq,hl,hw⟩:=hw;subst e1;cases r;let⟨ð,rv,ht,hz⟩:=I.tuple hq;refine assign_Tuple_tuple (I.ok.hd hc) ht (by simp[hn,<-hl,rv.length]) ŭ λh' hx=>?_;have I1:Inv X Á σ H {s with heap:=h'}:=I.kept (t':=s.toks) λb o e=>hx b o (ì<|Ú e) e;exact h Á _ σ H xs _ Q I1 ⇑rv hw
abbrev QX(to ti:TE)(t:DQ):TG:=λv σ H Q=>to σ H λo H1=>ti σ H1 λi H2=>t o i v H2 λH3=>Q σ H3
variable {o:Expr} {i:Expr} {to:TE} {ti:TE}
def Hz{t:DQ}(ho:PE X o to)(hi:PE X i ti)(hs:PSet X t)
  (ha:∀v,Ű (.Subscript o i ç) X.env v=(do
    let ov<-ņ [v] (eval o X.env)
    let iv<-ņ [v,ov] (eval i X.env)
    ο ç
    ņ [v,ov,iv] (ae ov iv v)
    cP [v,ov,iv] []):=by intro _;rfl):PG X (.Subscript o i ç)<|QX to ti t:=by
 intro Á s σ H v u Q I r h;rw[ha];refine Ã<|ŋ<|thn (ho Á s σ H _ I h) λov s1 ⟨x,H1,I1,r1,q1⟩=>?_;refine Ã<|ŋ<|thn (hi Á s1 σ H1 _ I1 q1) λiv s2 ⟨y,H2,I2,r2,q2⟩=>?_;refine Ã<|cb<|Ã<|ŋ<|thn (hs Á s2 σ H2 x y v ov iv u _ I2 r1 r2 r q2) λ_ s3 ⟨H3,I3,q3⟩=>?_;exact wpAny_release ⟨σ,H3,I3,q3⟩
abbrev Q4(te:TE)(g:TG):TS:=λD σ H=>te σ H λx H1=>g x σ H1 D.nx
variable {te:TE}
def CY{tg:Expr}{g:TG}(he:PE X e te)(hg:PG X tg g)(hs:ς [tg] e ç.line X.env=pure di:=by rfl)(hw:υ [tg] e X.env=pure dg:=by rfl)
  (h1:(Ė [tg] X.env).map (·.2)=[Ű tg X.env]:=by rfl):PS X (.Assign [tg] e ç)<|Q4 te g:=by
 intro Á s σ H D I h;refine wpAny_Assign_stores (thn (he Á s σ H _ I h) λv s1 ⟨x,H1,I1,r1,q1⟩=>?_) hs hw;rw[h1];exact thn (hg Á s1 σ H1 x v _ I1 r1 q1) λ_ s2 q=>q
abbrev Pu(to ti te:TE)(tget:V->V->Hp->VK->Prop)(tip:TIp)(tset:DQ):TS:=λD σ H=>to σ H λo H1=>ti σ H1 λi H2=>tget o i H2 λx H3=>te σ H3 λy H4=>tip x y H4 λz H5=>tset o i z H5 λH6=>D.nx σ H6
abbrev PGet(X:Cx)(t:V->V->Hp->VK->Prop):Prop :=
 ∀(Á:List<|Ì×Obj) (s:Å) (σ:St) (H:Hp) (o i:V) (ov iv:Â) (Q:VK),Inv X Á σ H s->RelV o ov->RelV i iv->t o i H Q->
  wpAny (â X.prog X.w) X.A (Ι ov iv) (EP X Á σ Q) X.xe s
def ED{tget:V->V->Hp->VK->Prop}{tip:TIp}{tset:DQ}{op:Γ}{bL:Pos}(ho:PE X o to)(hi:PE X i ti)(hg:PGet X tget)(he:PE X e te)(hp:PIp X op tip)(hs:PSet X tset)
  (ha:∀ov iv new,augStore i ov iv new=(do ņ [new,ov,iv] (ae ov iv new);cP [new,ov,iv] [];pure .next):=by intros;rfl):PS X (.AugAssign (.Subscript o i bL) op e ç)<|Pu to ti te tget tip tset:=by
 intro Á s σ H D I h;refine wpAny_AugAssign_SubscriptAny (thn (ho Á s σ H _ I h) λov s1 ⟨x1,H1,I1,r1,q1⟩=>?_) ha;refine thn (hi Á s1 σ H1 _ I1 q1) λiv s2 ⟨x2,H2,I2,r2,q2⟩=>?_;refine thn (hg Á s2 σ H2 x1 x2 ov iv _ I2 r1 r2 q2) λό s3 ⟨x3,H3,I3,r3,q3⟩=>?_;refine thn (he Á s3 σ H3 _ I3 q3) λv s4 ⟨x4,H4,I4,r4,q4⟩=>?_;refine thn (hp Á s4 σ H4 x3 x4 ό v _ I4 r3 r4 q4) λnew s5 ⟨x5,H5,I5,r5,q5⟩=>?_;exact thn (hs Á s5 σ H5 x1 x2 x5 ov iv new _ I5 r1 r2 r5 q5) λ_ s6 ⟨H6,I6,q6⟩=>⟨σ,H6,I6,q6⟩
end
section
variable {X:Cx}{ç:Pos}
abbrev Iz(c:TT)(tb:TS):TS:=λD σ H=>∃W:Nat->St->Hp->Prop,(∃m,W m σ H)/\∀m σ H,W m σ H->
 c σ H λb H1=>if b=dh then ∃N:St->Hp->Prop,(∀Ń H',N Ń H'->∃m',m'<m/\W m' Ń H')/\tb {D with nx:=N,ct:=N,bk:=D.nx} σ H1 else D.nx σ H1
def DZ{c:Expr}{body:List ĭ}{tc:TT}{tb:TS}(hp:Ž (â X.prog X.w) X.A X.env X.xe)(hc:PT X c tc)(hb:PSs X body tb):PS X (.While c body [] ç)<|Iz tc tb:=by
 intro Á s σ H D I h;let⟨W,⟨m0,w0⟩,turn⟩:=h;refine wpAny_While<|codeAny_whileLoop (λn s'=>∃Ń H',Inv X Á Ń H' s'/\W n Ń H') ?_ m0 ⟨σ,H,I,w0⟩;rintro n s1 ⟨σ1,H1,I1,w1⟩;refine Ŋ hp<|thn (hc Á s1 σ1 H1 _ I1<|turn n σ1 H1 w1) λb s2 ⟨H2,I2,q2⟩=>?_;cases b with
 |true =>
  let⟨N,hN,q2⟩:=q2;rw[ff rfl];refine Ŋ hp<|thn (hb Á s2 σ1 H2 _ I2 q2) λf s3 q3=>?_;cases f with
  |next =>let⟨aG,H3,I3,n3⟩:=q3;let⟨m',hm,w3⟩:=hN aG H3 n3;exact⟨m',hm,aG,H3,I3,w3⟩
  |cont =>let⟨aG,H3,I3,n3⟩:=q3;let⟨m',hm,w3⟩:=hN aG H3 n3;exact⟨m',hm,aG,H3,I3,w3⟩
  |brk=>exact q3
  |ret v=>exact q3
 |false =>rw[fg ø];exact aY ⟨σ1,H2,I2,q2⟩
end
structure It where
 go:Nat->Hp->Prop
 yld:Nat->Hp->V->Hp->Prop
 stop:Nat->Hp->Prop
abbrev Wp(X:Cx)(Á:List<|Ì×Obj)(H:Hp)(b:Ì):Prop :=
 H b=dg/\b≠X.env.locals/\b∉X.fs/\(b∈X.ex\/X.s₀.heap.objs.size<=b)/\(∀x c,X.env.cells.lookup x=df c->c≠b)/\∀p∈X.pn++Á,p.1≠b
variable {s:Å}
def Inv.fpOk{X:Cx}{Á:List (Ì×Obj)}{σ:St}{H H':Hp}{b:Ì}(I:Inv X Á σ H s)(hb:s.heap.objs.size<=b)(hn:H' b=dg):Wp X Á H' b:=by
 refine⟨hn,χ<|å I.lt hb,I.nofs hb,.inr<|Ô I.sz hb,λx c e z=>?_,λp hp z=>?_⟩
 .obtain⟨v,q⟩:=I.cell x c e;exact fk (å q.lt<|by rw[z];exact hb)<|Ď _
 .exact fk (å (Ú (I.pin p hp).1)<|by rw[z];exact hb)<|Ď _
structure Turn(P:ë)(w:Ă)(K:Frag)(tg:Expr)(J:It)(fp:List Ì)(it:Ì)(tn:Nat->ċ->Prop):Prop where
 mem:it∈fp
 obj:∀i h,tn i h->∀b∈fp,∃o,h.get? b=df o/\∀v,o.data≠.cell v
 keep:∀i h h',tn i h->(∀b∈fp,∀o,h.get? b=df o->h'.get? b=df o)->tn i h'
 item:∀(X:Cx),X.prog=P->X.w=w->X.K=K->X.calm=dh->∀(i:Nat) (Á:List<|Ì×Obj) (s:Å) (σ:St) (H:Hp) (E:Â->Å->Prop),Inv X Á σ H s->(∀b∈fp,Wp X Á H b)->tn i s.heap->J.go i H->
  wpAny (â P w) X.A (az<|.ref it) (λr s1=>∃u,r=df u/\
    wpAny (â P w) X.A (Υ tg (.ref it) u) (λ_ s2=>∃x H',Inv X Á σ H' s2/\RelV x u/\J.yld i H x H'/\tn (i+1) s2.heap/\∀b∈fp,H' b=dg) E s1) E s
 done:∀(X:Cx),X.prog=P->X.w=w->X.K=K->X.calm=dh->∀(i:Nat) (Á:List<|Ì×Obj) (s:Å) (σ:St) (H:Hp) (E:Â->Å->Prop),Inv X Á σ H s->(∀b∈fp,Wp X Á H b)->tn i s.heap->J.stop i H->
  wpAny (â P w) X.A (az<|.ref it) (λr s1=>r=dg/\Inv X Á σ H s1) E s
 self:∀(A:Ğ) (i:Nat) (s:Å) (Q:Â->Å->Prop) (E:Â->Å->Prop),tn i s.heap->Q (.ref it) s->wpAny (â P w) A (pyIter<|.ref it) Q E s
noncomputable abbrev TI:=St->Hp->(It->Hp->Prop)->Prop
abbrev PIE(X:Cx)(Á:List<|Ì×Obj)(σ:St)(tg:Expr)(R:It->Hp->Prop)(itv:Â)(s2:Å):Prop :=
 ∃(it:Ì) (fp:List Ì) (tn:Nat->ċ->Prop) (J:It) (H':Hp),itv=.ref it/\Inv X Á σ H' s2/\Turn X.prog X.w X.K tg J fp it tn/\tn 0 s2.heap/\(∀b∈fp,Wp X Á H' b)/\R J H'
abbrev PI(X:Cx)(tg Ś:Expr)(wi:TI):Prop :=
 ∀(Á:List<|Ì×Obj) (s:Å) (σ:St) (H:Hp) (R:It->Hp->Prop),Inv X Á σ H s->wi σ H R->
  wpAny (â X.prog X.w) X.A (eval Ś X.env) (λv s1=>wpAny (â X.prog X.w) X.A (pyIter v) (PIE X Á σ tg R) X.xe s1) X.xe s
variable {tg:Expr}
def du{M:Model}{A:Ğ}{E:Â->Å->Prop}{it:Ì}{o:Obj}{n:String}{vs:Array Â}{Q:Unit->Å->Prop}(ho:s.heap.get? it=df o)(hc:o.cls=.type n)(hd:o.data=.fields vs)
  (hn:["enumerate","zip","dict_itemiterator","dict_reverseitemiterator","odict_iterator","itertools.zip_longest","itertools.pairwise"].contains n=di) (hQ:Q () s):wpAny M A (Υ tg (.ref it) u) Q E s:=by
 unfold Υ;cases tg<;>first
  |exact Ù hQ
  | (cases u<;>first
      |exact Ù hQ
      | (refine Ã (wpAny_load ho ?_)
         rw[hc,hd]
         show wpAny M A (if(["enumerate","zip","dict_itemiterator","dict_reverseitemiterator","odict_iterator","itertools.zip_longest","itertools.pairwise"].contains n&&vs[0]? == df (bw _))=dh then _ else _) Q E s
         rw[fg<|by intro h;rw[hn,Bool.false_and]at h;cases h]
         exact Ù hQ))
abbrev Itl(K:Frag)(a:Ì):It :=
 ⟨λi H=>∃xs x,eS K H a xs/\xs[i]?=df x,λi H x H'=>H'=H/\∀xs,eS K H a xs->xs[i]?=df x,λi H=>∃xs,eS K H a xs/\xs.length<=i⟩
abbrev Itt(K:Frag)(a:Ì):It :=
 ⟨λi H=>∃xs x,eU K H a xs/\xs[i]?=df x,λi H x H'=>H'=H/\∀xs,eU K H a xs->xs[i]?=df x,λi H=>∃xs,eU K H a xs/\xs.length<=i⟩
abbrev Itr(lo:Int)(n:Nat):It:=⟨λi _=>i<n,λi H x H'=>H'=H/\x=.int (lo+i),λi _=>n<=i⟩
variable {P:ë} {w:Ă}
def Bj{K:Frag}(a it:Ì):Turn P w K tg (Itl K a) [it] it (λi h=>h.IsListIter it a i) where
 mem:=by simp
 obj:=λi h st b hb=>by
  have e:b=it:=⇑hb
  subst e;let⟨o,e,c,d⟩:=st;exact⟨o,e,λv z=>by rw[d]at z;cases z⟩
 keep:=λi h h' st k=>st.at λo e=>k it (by simp) o e
 item:=by intro X hP hw hK hc i Á s σ H E I hf st hg;subst hP hw hK;let⟨xs,x,hq,hx⟩:=hg;let⟨ð,rv,p,hz⟩:=I.list hq;let⟨u,hu,ru⟩:=rv.get hx;let⟨f0,f1,f2,f3,f4,f5⟩:=hf it (by simp);refine wpAny_pyNext_list_item st p.isList (x:=u) ⇑hu λh' st' sb=>?_;have I1:Inv X Á σ H {s with heap:=h'}:=I.turned (t':=s.toks) (λb o hb e=>(sb.2 b hb).trans e) f0 f1 f3 f4 f5;let⟨o,e,c,d⟩:=id st';exact⟨u,rfl,du (s:={s with heap:=h'}) e c d (by decide) ⟨x,H,I1,ru,⟨rfl,λys hy=>by rw[I.list_inj hy hq];exact hx⟩,st',λb hb=>(hf b hb).1⟩⟩
 done:=by intro X hP hw hK hc i Á s σ H E I hf st hg;subst hP hw hK;let⟨xs,hq,hx⟩:=hg;let⟨ð,rv,p,hz⟩:=I.list hq;let⟨f0,f1,f2,f3,f4,f5⟩:=hf it (by simp);have hl:=rv.length;exact wpAny_pyNext_list_end (I.ok.hd hc) st p.isList (by simp;lia) λh' eb=>⟨rfl,I.turned (t':=s.toks) (λb o hb e=>eb b o hb e) f0 f1 f3 f4 f5⟩
 self:=λ_ _ _ _ _ st h=>wpAny_pyIter_listiter st h
def Ov{K:Frag}(a it:Ì):Turn P w K tg (Itt K a) [it] it (λi h=>h.IsTupleIter it a i) where
 mem:=by simp
 obj:=λi h st b hb=>by
  have e:b=it:=⇑hb
  subst e;let⟨o,e,c,d⟩:=st;exact⟨o,e,λv z=>by rw[d]at z;cases z⟩
 keep:=λi h h' st k=>st.at λo e=>k it (by simp) o e
 item:=by intro X hP hw hK hc i Á s σ H E I hf st hg;subst hP hw hK;let⟨xs,x,hq,hx⟩:=hg;let⟨ð,rv,p,hz⟩:=I.tuple hq;let⟨u,hu,ru⟩:=rv.get hx;let⟨f0,f1,f2,f3,f4,f5⟩:=hf it (by simp);refine wpAny_pyNext_tuple_item st (show s.heap.IsTuple a ð.toArray from p) (x:=u) ⇑hu λh' st' sb=>?_;have I1:Inv X Á σ H {s with heap:=h'}:=I.turned (t':=s.toks) (λb o hb e=>(sb.2 b hb).trans e) f0 f1 f3 f4 f5;let⟨o,e,c,d⟩:=id st';exact⟨u,rfl,du (s:={s with heap:=h'}) e c d (by decide) ⟨x,H,I1,ru,⟨rfl,λys hy=>by rw[I.tuple_inj hy hq];exact hx⟩,st',λb hb=>(hf b hb).1⟩⟩
 done:=by intro X hP hw hK hc i Á s σ H E I hf st hg;subst hP hw hK;let⟨xs,hq,hx⟩:=hg;let⟨ð,rv,p,hz⟩:=I.tuple hq;let⟨f0,f1,f2,f3,f4,f5⟩:=hf it (by simp);have hl:=rv.length;exact wpAny_pyNext_tuple_end (I.ok.hd hc) st (show s.heap.IsTuple a ð.toArray from p) (by simp;lia) λh' eb=>⟨rfl,I.turned (t':=s.toks) (λb o hb e=>eb b o hb e) f0 f1 f3 f4 f5⟩
 self:=λ_ _ _ _ _ st h=>wpAny_pyIter_tupleiter st h
def Of{K:Frag}(it:Ì)(lo:Int)(n:Nat):Turn P w K tg (Itr lo n) [it] it (λi h=>IsRangeIter h it (lo+(i:Nat)*1) ((n:Int) - (i:Nat)) 1) where
 mem:=by simp
 obj:=λi h st b hb=>by
  have e:b=it:=⇑hb
  subst e;exact⟨_,st,λv z=>by
    have z':Data.fields _=Data.cell v:=z
    cases z'⟩
 keep:=λi h h' st k=>k it (by simp) _ st
 item:=by intro X hP hw hK hc i Á s σ H E I hf st hg;subst hP hw hK;let⟨f0,f1,f2,f3,f4,f5⟩:=hf it (by simp);have W:=Walks.range (prog:=X.prog) (w:=X.w) (I.ok.hd hc) it lo 1 n;refine W.item i s _ _ hg st λv h' tk hv st' kk=>?_;let⟨t,rfl⟩:=hv;have I1:Inv X Á σ H {s with heap:=h',toks:=tk}:=I.turned (λb o hb e=>kk b o ⇑hb e) f0 f1 f3 f4 f5;refine⟨_,rfl,du (s:={s with heap:=h',toks:=tk}) (n:="range_iterator") st' rfl rfl (by decide) ⟨.int<|lo+i,H,I1,⟨t,?_⟩,⟨rfl,rfl⟩,st',λb hb=>(hf b hb).1⟩⟩;rw[ce]
 done:=by intro X hP hw hK hc i Á s σ H E I hf st hg;subst hP hw hK;let⟨f0,f1,f2,f3,f4,f5⟩:=hf it (by simp);exact wpAny_pyNext_range_end (I.ok.hd hc) st (by have:n<=i:=hg;lia) λh' eb=>⟨rfl,I.turned (t':=s.toks) (λb o hb e=>eb b o hb e) f0 f1 f3 f4 f5⟩
 self:=λ_ _ _ _ _ st h=>wpAny_pyIter_rangeiter st h
section
variable {X:Cx}{tg:Expr}
variable {Á:List (Ì×Obj)} {σ:St} {H:Hp} {s:Å}
def NX{R:It->Hp->Prop}{E:Â->Å->Prop}{lo hi:Int}{t u v:Tok}{tk:Nat}(I:Inv X Á σ H s)(h1:-(2 ^ 62)<=lo)(h2:lo<2 ^ 62)(h3:-(2 ^ 62)<=hi)(h4:hi<2 ^ 62)
  (q:R (Itr lo (hi - lo).toNat) H):wpAny (â X.prog X.w) X.A (pyIter<|.ref s.heap.objs.size) (PIE X Á σ tg R) E {s with heap:=s.heap.push {cls:=.type "range",data:=.fields #[.int lo t,.int hi u,.int 1 v]},toks:=tk}:=by
 refine wpAny_pyIter_range (IsRange.new ..) (small_one h1 h2 h3 h4) ?_;have I1:Inv X Á σ H { s with heap:=s.heap.push { cls:=.type "range",data:=.fields #[.int lo t,.int hi u,.int 1 v] },toks:=tk }:=I.kept λb o e=>Ä _ e;refine⟨(s.heap.push { cls:=.type "range",data:=.fields #[.int lo t,.int hi u,.int 1 v] }).objs.size,[(s.heap.push { cls:=.type "range",data:=.fields #[.int lo t,.int hi u,.int 1 v] }).objs.size],_,_,H,rfl,
   I1.kept (t':=tk) λb o e=>Ä _ e,Of _ lo (hi - lo).toNat,?_,λb hb=>?_,q⟩
 .have e1:lo+((0:Nat):Int)*1=lo:=by simp
  have e2:(((hi - lo).toNat:Nat):Int) - ((0:Nat):Int)=Builtin.Range.rangeSize lo hi 1:=by rw[rangeSize_one];split<;>lia
  show IsRangeIter _ _ (lo+((0:Nat):Int)*1) ((((hi - lo).toNat:Nat):Int) - ((0:Nat):Int)) 1;rw[e1,e2];exact Ý _ rfl
 .have e:b=(s.heap.push {cls:=.type "range",data:=.fields #[.int lo t,.int hi u,.int 1 v]}).objs.size:=⇑hb
  subst e;exact I1.fpOk (Ï _)<|I1.hok.fresh<|Ï _
abbrev Rf(ta:TA):TI:=λσ H R=>ta σ H λvs H1=>∃j:Int,vs=[.int j]/\-(2 ^ 62)<=j/\j<2 ^ 62/\R (Itr 0 j.toNat) H1
abbrev Qu(ta:TA):TI:=λσ H R=>ta σ H λvs H1=>∃i j:Int,vs=[.int i,.int j]/\(-(2 ^ 62)<=i/\i<2 ^ 62/\-(2 ^ 62)<=j/\j<2 ^ 62)/\R (Itr i (j - i).toNat) H1
variable {a:Expr} {ta:TA} {p:Pos} {ç:Pos}
def AI(hg:Gl X "range")(hm:X.mg "range" = dg)(ha:PA X [a] ta)(hs:Ó [a] X.env=[(di,eval a X.env)]:=by rfl):PI X tg (.Call (.Name "range" p) [a] [] ç)<|Rf ta:=by
 intro Á s σ H R I h;refine Call_<|XI I hg hm boot_range<|PyProof.Rows.callWith_type1 (thn (ha ç Á s σ H _ I h) λus s1 ⟨vs,H1,I1,r1,q1⟩=>?_) hs rfl;let⟨j,e,q1,q2,q⟩:=q1;subst e;cases r1 with
 |cons r rr =>cases rr;let⟨t,rfl⟩:=r;exact call_range_1 (NX I1 (by lia) (by lia) q1 q2<|by simpa using q)
def Bq{b:Expr}(hg:Gl X "range")(hm:X.mg "range" = dg)(ha:PA X [a,b] ta)(hs:Ó [a,b] X.env=[(di,eval a X.env),(di,eval b X.env)]:=by rfl)(hs2:Ó [b] X.env=[(di,eval b X.env)]:=by rfl) :
  PI X tg (.Call (.Name "range" p) [a,b] [] ç) (Qu ta):=by
 intro Á s σ H R I h;refine Call_ (XI I hg hm boot_range<|PyProof.Rows.callWith_type1 (thn (ha ç Á s σ H _ I h) λus s1 ⟨vs,H1,I1,r1,q1⟩=>?_) (by rw[hs,hs2])<|by rw[hs2];rfl);let⟨i,j,e,⟨q1,q2,q3,q4⟩,q⟩:=q1;subst e;cases r1 with
 |cons r rr =>
  cases rr with
  |cons r' rr =>cases rr;let⟨t,rfl⟩:=r;let⟨t',rfl⟩:=r';exact call_range_2<|NX I1 q1 q2 q3 q4 q
abbrev RA(wi:TI)(g:TG)(tb:TS):TS:=λD σ H=>wi σ H λJ H1=>∃W:Nat->Nat->St->Hp->Prop,(∃m,W 0 m σ H1)/\∀i m σ H,W i m σ H->
 (J.stop i H/\D.nx σ H)\/(J.go i H/\∃N:St->Hp->Prop,(∀Ń H',N Ń H'->∃m',m'<m/\W (i+1) m' Ń H')/\∀x H',J.yld i H x H'->g x σ H' λσ2 H2=>tb {D with nx:=N,ct:=N,bk:=D.nx} σ2 H2)
abbrev XE(fp:List Ì)(h:ċ):List<|Ì×Obj:=fp.filterMap λb=>(h.get? b).map λo=>(b,o)
variable {fp:List Ì} {h:ċ}
def ZV{b:Ì}{o:Obj}(hb:b∈fp)(e:h.get? b=df o):(b,o)∈XE fp h:=ŵ.mpr ⟨b,hb,by rw[e];rfl⟩
def KY{p:Ì×Obj}(hp:p∈XE fp h):p.1∈fp/\h.get? p.1=df p.2:=by
 let⟨b,hb,e⟩:=ŵ.mp hp;cases q:h.get? b with
 |none=>rw[q]at e;cases e
 |some o =>rw[q]at e;have e':(b,o)=p:=ï e;subst e';exact⟨hb,q⟩
def Inv.pinned(I:Inv X Á σ H s)(hf:∀b∈fp,Wp X Á H b)(ho:∀b∈fp,∃o,s.heap.get? b=df o/\∀v,o.data≠.cell v):Inv X (Á++XE fp s.heap) σ H s :=
 I.pins_of λp hp=>(à.mp hp).elim (λz=>I.pin p<|È _ z) λz=>by let⟨hb,e⟩:=KY z;let⟨f0,f1,f2,_⟩:=hf p.1 hb;let⟨o,e',d⟩:=ho p.1 hb;rw[e]at e';cases e';exact⟨e,f0,f1,f2,d⟩
def Inv.unpinned{pl:List (Ì×Obj)}(I:Inv X (Á++pl) σ H s):Inv X Á σ H s:=I.pins_of λp hp=>I.pin p (È _<|Ö _ hp)
def Cp{Ś:Expr}{body:List ĭ}{wi:TI}{g:TG}{tb:TS}(hp:Ž (â X.prog X.w) X.A X.env X.xe)(hc:X.calm=dh)(hi:PI X tg Ś wi)(hg:PG X tg g)(hb:PSs X body tb)
  (hs:∀x,ď Ś X.env x=pure x:=by intro _;rfl):PS X (.For tg Ś body [] ç)<|RA wi g tb:=by
 intro Á s σ H D I h;refine wpAny_For (thn (hi Á s σ H _ I h) λv s1 h1=>thn h1 λitv s2 h2=>?_) hs;let⟨it,fp,tn,J,H2,e,I2,T,st2,f2,W,⟨m0,w0⟩,turn⟩:=h2;subst e;have stat:∀{H':Hp},(∀b∈fp,H' b=dg)->∀b∈fp,Wp X Á H' b:=λhn b hb=>⟨hn b hb,(f2 b hb).2⟩
 refine codeAny_forLoop_any (λn s'=>∃i Ń H',Inv X Á Ń H' s'/\tn i s'.heap/\(∀b∈fp,H' b=dg)/\W i n Ń H') ?_ m0 ⟨0,σ,H2,I2,st2,λb hb=>(f2 b hb).1,w0⟩;rintro n s3 ⟨i,aG,H3,I3,st3,fr3,w3⟩;rcases turn i n aG H3 w3 with⟨stop,qn⟩|⟨go,N,hN,step⟩
 .refine Ŋ hp<|thn (T.done X rfl rfl rfl hc i Á s3 aG H3 X.xe I3 (stat fr3) st3 stop) λr s4 ⟨hr,I4⟩=>?_;subst hr;exact aY ⟨aG,H3,I4,qn⟩
 .refine Ŋ hp<|thn (T.item X rfl rfl rfl hc i Á s3 aG H3 X.xe I3 (stat fr3) st3 go) λr s4 ⟨u,hr,h4⟩=>?_;subst hr;refine Ŋ hp<|thn h4 λ_ s5 ⟨x,H5,I5,r5,y5,st5,fr5⟩=>?_;have I5':=I5.pinned (stat fr5)<|T.obj _ _ st5;refine Ŋ hp<|thn (hg _ s5 aG H5 x u _ I5' r5<|step x H5 y5) λ_ s6 ⟨σ6,H6,I6,q6⟩=>?_;refine Ŋ hp<|thn (hb _ s6 σ6 H6 _ I6 q6) λf s7 q7=>?_;have again:∀{aH:St}{H7:Hp},Inv X (Á++XE fp s5.heap) aH H7 s7->N aH H7->∃m,m<n/\∃i Ń H',Inv X Á Ń H' s7/\tn i s7.heap/\(∀b∈fp,H' b=dg)/\W i m Ń H':=λ{aH H7} I7 n7=>by
   let⟨m',hm,w7⟩:=hN aH H7 n7;refine⟨m',hm,i+1,aH,H7,I7.unpinned,T.keep _ _ _ st5 λb hb o e=>(I7.pin (b,o)<|È _<|È _<|ZV hb e).1,λb hb=>?_,w7⟩;let⟨o,e,d⟩:=T.obj _ _ st5 b hb;exact(I7.pin (b,o)<|È _<|È _<|ZV hb e).2.1
  cases f with
  |next=>let⟨aH,H7,I7,n7⟩:=q7;exact again I7 n7
  |cont=>let⟨aH,H7,I7,n7⟩:=q7;exact again I7 n7
  |brk=>let⟨aH,H7,I7,q7⟩:=q7;exact⟨aH,H7,I7.unpinned,q7⟩
  |ret v=>let⟨x7,aH,H7,I7,r7,q7⟩:=q7;exact⟨x7,aH,H7,I7.unpinned,r7,q7⟩
end
noncomputable abbrev R2:=V->V->Hp->VK->Prop
abbrev OpR(X:Cx)(f:Â->Â->Sem Â)(r:R2):Prop :=
 ∀(Á:List<|Ì×Obj) (s:Å) (σ:St) (H:Hp) (x y:V) (v u:Â) (Q:VK),Inv X Á σ H s->RelV x v->RelV y u->r x y H Q->
  wpAny (â X.prog X.w) X.A (f v u) (EP X Á σ Q) X.xe s
abbrev UnR(X:Cx)(f:Â->Sem Â)(r:V->Hp->VK->Prop):Prop :=
 ∀(Á:List<|Ì×Obj) (s:Å) (σ:St) (H:Hp) (x:V) (v:Â) (Q:VK),Inv X Á σ H s->RelV x v->r x H Q->
  wpAny (â X.prog X.w) X.A (f v) (EP X Á σ Q) X.xe s
abbrev dA(X:Cx)(f:Â)(r:List V->Hp->VK->Prop):Prop :=
 ∀(Á:List<|Ì×Obj) (s:Å) (σ:St) (H:Hp) (xs:List V) (us:List Â) (Q:VK),Inv X Á σ H s->eV xs us->r xs H Q->
  wpAny (â X.prog X.w) X.A (call f us) (EP X Á σ Q) X.xe s
abbrev RS(X:Cx)(r:V->Hp->(Bool->Hp->Prop)->Prop):Prop :=
 ∀(Á:List<|Ì×Obj) (s:Å) (σ:St) (H:Hp) (x:V) (v:Â) (Q:Bool->Hp->Prop),Inv X Á σ H s->RelV x v->r x H Q->
  wpAny (â X.prog X.w) X.A (truthy v) (TP X Á σ Q) X.xe s
abbrev tOp(r:R2)(ta tb:TE):TE:=λσ H Q=>ta σ H λx H1=>tb σ H1 λy H2=>r x y H2 Q
abbrev tUn(r:V->Hp->VK->Prop)(ta:TE):TE:=λσ H Q=>ta σ H λx H1=>r x H1 Q
abbrev rI(C:Int->Int->Prop)(g:Int->Int->V):R2:=λx y H Q=>∃i j,x=.int i/\y=.int j/\C i j/\Q (g i j) H
abbrev rI0(g:Int->Int->V):R2:=λx y H Q=>∃i j,x=.int i/\y=.int j/\Q (g i j) H
abbrev rU(g:Int->V):V->Hp->VK->Prop:=λx H Q=>∃i,x=.int i/\Q (g i) H
section
variable {X:Cx}{a b c:Expr}{ta tb tc:TE}{ç:Pos}
variable {f:Â->Â->Sem Â}
def Hu(ha:PE X a ta)(hb:PE X b tb){Á:List (Ì×Obj)}{s:Å}{σ:St}{H:Hp}{R:V->V->Hp->Prop}(I:Inv X Á σ H s)
  (h:ta σ H λx H1=>tb σ H1 λy H2=>R x y H2){Q:Â->Å->Prop} 
  (hf:∀v u s2 x y H2,Inv X Á σ H2 s2->RelV x v->RelV y u->R x y H2->wpAny (â X.prog X.w) X.A (f v u) Q X.xe s2) :
  wpAny (â X.prog X.w) X.A (eval a X.env) (λv ģ=>wpAny (â X.prog X.w) X.A (eval b X.env) (λu bd=>wpAny (â X.prog X.w) X.A (f v u) Q X.xe bd) X.xe ģ) X.xe s:=by
 refine thn (ha Á s σ H _ I h) λv s1 ⟨x,H1,I1,r1,q1⟩=>?_;refine thn (hb Á s1 σ H1 _ I1 q1) λu s2 ⟨y,H2,I2,r2,q2⟩=>?_;exact hf v u s2 x y H2 I2 r1 r2 q2
def Pq{op:Γ}{r:R2}(ho:OpR X (Ķ op) r)(ha:PE X a ta)(hb:PE X b tb):PE X (.BinOp a op b ç)<|tOp r ta tb:=by intro Á s σ H Q I h;exact wpAny_BinOp (Hu ha hb I h λv u s2 x y H2 I2 rx ry q=>ho Á s2 σ H2 x y v u Q I2 rx ry q)
def QD{op:UnaryOp}{r:V->Hp->VK->Prop}(ho:UnR X (unaryOp op) r)(ha:PE X a ta):PE X (.UnaryOp op a ç)<|tUn r ta:=by intro Á s σ H Q I h;exact UnaryOp_ (thn (ha Á s σ H _ I h) λv s1 ⟨x,H1,I1,r1,q1⟩=>ho Á s1 σ H1 x v Q I1 r1 q1)
variable {g:Int->Int->Int}
def opI{C:Int->Int->Prop} 
  (rule:∀(i j:Int) (t u:Tok) (s:Å) (Q:Â->Å->Prop) (E:Â->Å->Prop),C i j->Q (.int (g i j) s.toks) {s with toks:=s.toks+1}->wpAny (â X.prog X.w) X.A (f (.int i t)<|.int j u) Q E s) :
  OpR X f (rI C λi j=>.int<|g i j):=by
 intro Á s σ H x y v u Q I rx ry h;let⟨i,j,rfl,rfl,hc,q⟩:=h;let⟨t,rfl⟩:=rx;let⟨t',rfl⟩:=ry;exact rule i j t t' s _ _ hc ⟨.int<|g i j,H,I.tok _,⟨_,rfl⟩,q⟩
def QS  
  (rule:∀(i j:Int) (t u:Tok) (s:Å) (Q:Â->Å->Prop) (E:Â->Å->Prop),Q (.int (g i j) s.toks) {s with toks:=s.toks+1}->wpAny (â X.prog X.w) X.A (f (.int i t)<|.int j u) Q E s) :
  OpR X f (rI0 λi j=>.int<|g i j):=by
 intro Á s σ H x y v u Q I rx ry h;let⟨i,j,rfl,rfl,q⟩:=h;let⟨t,rfl⟩:=rx;let⟨t',rfl⟩:=ry;exact rule i j t t' s _ _ ⟨.int<|g i j,H,I.tok _,⟨_,rfl⟩,q⟩
def Ef{g:Int->Int->Bool}
  (rule:∀(i j:Int) (t u:Tok) (s:Å) (Q:Â->Å->Prop) (E:Â->Å->Prop),Q (.bool<|g i j) s->wpAny (â X.prog X.w) X.A (f (.int i t)<|.int j u) Q E s) :
  OpR X f (rI0 λi j=>.bl<|g i j):=by
 intro Á s σ H x y v u Q I rx ry h;let⟨i,j,rfl,rfl,q⟩:=h;let⟨t,rfl⟩:=rx;let⟨t',rfl⟩:=ry;exact rule i j t t' s _ _ ⟨.bl<|g i j,H,I,rfl,q⟩
abbrev QE(i j:Int):Prop:=0<j/\j<1073741824
abbrev P8(i j:Int):Prop:=0<=j/\j<=1000000/\i.natAbs<2 ^ 64
def op_add:OpR X (Ķ .Add)<|rI0 λi j=>.int<|i+j:=QS λ_ _ _ _ _ _ _ q=>add_int q
def LJ:OpR X (Ķ .Sub)<|rI0 λi j=>.int<|i - j:=QS λ_ _ _ _ _ _ _ q=>sub_int q
def EV:OpR X (Ķ .FloorDiv)<|rI QE λi j=>.int<|i / j:=opI λi j _ _ _ _ _ hc q=>by have h1:(0:Int)<j:=hc.1;have h2:j<1073741824:=hc.2;exact floordiv_int (by lia) (by rw[Int.fdiv_eq_ediv_of_nonneg i<|by lia];exact q) (.inl<|PyProof.noPylong_small<|by lia)
def Iw:OpR X (Ķ .Mod)<|rI (λ_ j=>0<j) λi j=>.int<|i % j:=opI λi j _ _ _ _ _ hc q=>by have h1:(0:Int)<j:=hc;exact mod_int' (by lia) (by rw[Int.fmod_eq_emod_of_nonneg i<|by lia];exact q)
def Ls:OpR X (Ķ .Pow)<|rI P8 λi j=>.int<|i ^ j.toNat:=opI λ_ _ _ _ _ _ _ hc q=>pow_int_small hc.1 hc.2.1 hc.2.2 q
def unI{f:Â->Sem Â}{g:Int->Int}
  (rule:∀(i:Int) (t:Tok) (s:Å) (Q:Â->Å->Prop) (E:Â->Å->Prop),Q (.int (g i) s.toks) {s with toks:=s.toks+1}->wpAny (â X.prog X.w) X.A (f<|.int i t) Q E s) :
  UnR X f (rU λi=>.int<|g i):=by
 intro Á s σ H x v Q I rx h;let⟨i,rfl,q⟩:=h;let⟨t,rfl⟩:=rx;exact rule i t s _ _ ⟨.int<|g i,H,I.tok _,⟨_,rfl⟩,q⟩
def HJ:UnR X (unaryOp .USub)<|rU λi=>.int (-i):=unI λ_ _ _ _ _ q=>neg_int q
end
section
variable {X:Cx}{a b c:Expr}{ta tb tc:TE}{ç:Pos}
def H9{Á:List (Ì×Obj)}{σ:St}{H:Hp}{s:Å}{Q:VK}{k k':Bool}(I:Inv X Á σ H s)(q:Q (.bl k) H)(e:k=k'):EP X Á σ Q (.bool k') s:=by subst e;exact⟨.bl k,H,I,rfl,q⟩
def op_lt:OpR X (é .Lt)<|rI0 λi j=>.bl<|fm (i<j):=Ef λ_ _ _ _ _ _ _ q=>lt_int q
def Qv:OpR X (é .LtE)<|rI0 λi j=>.bl<|fm (i<=j):=Ef λ_ _ _ _ _ _ _ q=>le_int q
def op_gt:OpR X (é .Gt)<|rI0 λi j=>.bl<|fm (j<i):=Ef λ_ _ _ _ _ _ _ q=>gt_int q
def Rc:OpR X (é .GtE)<|rI0 λi j=>.bl<|fm (j<=i):=Ef λ_ _ _ _ _ _ _ q=>ge_int q
def Av:OpR X (é .In) λx y H Q=>∃i j,x=.str i/\y=.str j/\Q (.bl (!(Builtin.Str.occurrences j i 0 j.length 1).isEmpty)) H:=by intro Á s σ H x y v u Q I rx ry h;let⟨i,j,rfl,rfl,q⟩:=h;let⟨t,rfl⟩:=rx;let⟨t',rfl⟩:=ry;exact in_str (H9 I q rfl)
variable {r:R2} {r':R2}
def OpR.or{f:Â->Â->Sem Â}(h:OpR X f r)(h':OpR X f r'):OpR X f λx y H Q=>r x y H Q\/r' x y H Q:=by
 intro Á s σ H x y v u Q I rx ry q;rcases q with q|q
 .exact h Á s σ H x y v u Q I rx ry q
 .exact h' Á s σ H x y v u Q I rx ry q
variable {op:bv}
def Ub(ho:OpR X (é op) r)(ha:PE X a ta)(hb:PE X b tb)(hm:ī op b=di):PE X (.Compare a [op] [b] ç)<|tOp r ta tb:=by intro Á s σ H Q I h;exact wpAny_Compare1 (Hu ha hb I h λv u s2 x y H2 I2 rx ry q=>ho Á s2 σ H2 x y v u Q I2 rx ry q) hm
abbrev GC(t:TE):TT:=λσ H Q=>t σ H λx H'=>∃k,x=.bl k/\Q k H'
def UA(ho:OpR X (é op) r)(ha:PE X a ta)(hb:PE X b tb)(hm:ī op b=di):PT X (.Compare a [op] [b] ç)<|GC<|tOp r ta tb:=by
 intro Á s σ H Q I h;refine wpAny_isTrue_Compare1 (thn (ha Á s σ H _ I h) λv s1 ⟨x,H1,I1,r1,q1⟩=>thn (hb Á s1 σ H1 _ I1 q1) λu s2 ⟨y,H2,I2,r2,q2⟩ =>
   thn (ho Á s2 σ H2 x y v u _ I2 r1 r2 q2) λc s3 ⟨z,H3,I3,r3,k,e,q3⟩=>?_) hm
 subst e;cases r3;exact Ć ⟨H3,I3,q3⟩
abbrev D8(r r':R2)(ta tb tc:TE):TE:=λσ H Q=>ta σ H λx H1=>tb σ H1 λy H2=>r x y H2 λz H3=>∃k,z=.bl k/\
 (if k=dh then tc σ H3 λw' H4=>r' y w' H4 Q else Q (.bl di) H3)
variable {cu:bv}
def Cv(ho:OpR X (é op) r)(ϩ:OpR X (é cu) r')(ha:PE X a ta)(hb:PE X b tb)(hc:PE X c tc)
  (hm:aA [op,cu] [b,c]=di:=by with_unfolding_all rfl):PE X (.Compare a [op,cu] [b,c] ç)<|D8 r r' ta tb tc:=by
 intro Á s σ H Q I h;refine Compare_chain (thn (ha Á s σ H _ I h) λv s1 ⟨x,H1,I1,r1,q1⟩=>chain_link (thn (hb Á s1 σ H1 _ I1 q1) λu s2 ⟨y,H2,I2,r2,q2⟩ =>
   thn (ho Á s2 σ H2 x y v u _ I2 r1 r2 q2) λd s3 ⟨z,H3,I3,r3,k,e,q3⟩=>?_)) hm
 subst e;cases r3;refine Ć ?_;cases k with
 |false=>exact ite_ff ⟨.bl di,H3,I3,rfl,q3⟩
 |true=>exact ite_tt<|chain_last<|thn (hc Á s3 σ H3 _ I3 q3) λw' s4 ⟨z',H4,I4,r4,q4⟩=>ϩ Á s4 σ H4 y z' u w' Q I4 r2 r4 q4
def CW(ho:OpR X (é op) r)(ϩ:OpR X (é cu) r')(ha:PE X a ta)(hb:PE X b tb)(hc:PE X c tc)
  (hm:aA [op,cu] [b,c]=di:=by with_unfolding_all rfl):PT X (.Compare a [op,cu] [b,c] ç)<|GC<|D8 r r' ta tb tc:=by
 intro Á s σ H Q I h;refine isTrue_chain (thn (ha Á s σ H _ I h) λv s1 ⟨x,H1,I1,r1,q1⟩=>test_link (thn (hb Á s1 σ H1 _ I1 q1) λu s2 ⟨y,H2,I2,r2,q2⟩ =>
   thn (ho Á s2 σ H2 x y v u _ I2 r1 r2 q2) λd s3 ⟨z,H3,I3,r3,k,e,q3⟩=>?_)) hm
 subst e;cases r3;refine Ć ?_;cases k with
 |false =>let⟨k',e',q'⟩:=q3;cases e';exact ite_ff ⟨H3,I3,q'⟩
 |true =>refine ite_tt<|test_last<|thn (hc Á s3 σ H3 _ I3 q3) λw' s4 ⟨z',H4,I4,r4,q4⟩=>thn (ϩ Á s4 σ H4 y z' u w' _ I4 r2 r4 q4) λd' s5 ⟨z2,H5,I5,r5,k2,e2,q5⟩=>?_;subst e2;cases r5;exact Ć ⟨H5,I5,q5⟩
abbrev QP(K:Frag)(x:V)(H:Hp)(k:Bool):Prop :=
 match x with
 |.non=>k=di
 |.bl b=>k=b
 |.int i=>k=(i != 0)
 |.str y=>y.length<=Ü/\k=((y.length:Int) != 0)
 |.byt y=>y.size<=Ü/\k=((y.size:Int) != 0)
 |.ref p=>(∃xs,eS K H p xs/\k=!xs.isEmpty)\/(∃xs,eU K H p xs/\k=!xs.isEmpty)\/∃kvs,H p=df (.dK kvs)/\k=!kvs.isEmpty
 |_=>False
def OL{κ:Type}{kvs:List (κ×V)}{vs:List (κ×Â)}(r:KV kvs vs):(!vs.isEmpty)=!kvs.isEmpty:=by cases r<;>rfl
def JP{xs:List V}{ð:List Â}(r:eV xs ð):(!ð.toArray.isEmpty)=!xs.isEmpty:=by cases r<;>simp
def Xl:(Ü:Nat)<2 ^ 63:=by rw[ϒ];decide
def Le:RS X λx H Q=>∃k,QP X.K x H k/\Q k H:=by
 intro Á s σ H x v Q I rx h;let⟨k,e,q⟩:=h;have hl:=Xl;have hs:Ü=16777216:=ϒ;cases x with
 |non =>cases rx;have e':k=di:=e;subst e';exact truthy_none ⟨H,I,q⟩
 |bl b =>cases rx;have e':k=b:=e;subst e';exact Ć ⟨H,I,q⟩
 |int i =>let⟨t,rfl⟩:=rx;have e':k=(i != 0):=e;subst e';exact PySem.P.truthy_int ⟨H,I,q⟩
 |str y =>let⟨t,rfl⟩:=rx;obtain⟨hy,e'⟩:y.length<=Ü/\k=((y.length:Int) != 0):=e;subst e';exact PySem.P.truthy_str (by lia) ⟨H,I.tok _,q⟩
 |byt y =>let⟨t,rfl⟩:=rx;obtain⟨hy,e'⟩:y.size<=Ü/\k=((y.size:Int) != 0):=e;subst e';exact PySem.W.truthy_bytes (by lia) ⟨H,I.tok _,q⟩
 |ref p =>
  cases rx;have e':(∃xs,eS X.K H p xs/\k=!xs.isEmpty)\/(∃xs,eU X.K H p xs/\k=!xs.isEmpty)\/∃kvs,H p=df (.dK kvs)/\k=!kvs.isEmpty:=e;rcases e' with⟨xs,hx,e'⟩|⟨xs,hx,e'⟩|⟨kvs,hx,e'⟩
  .subst e';let⟨ð,r,pl,hz⟩:=I.list hx;have hlen:=r.length;exact wpAny_truthy_list pl.isList (by simp only[É];lia) ⟨H,I.tok _,by rw[JP r];exact q⟩
  .subst e';let⟨ð,r,pl,hz⟩:=I.tuple hx;have hlen:=r.length;exact truthy_tuple pl (by simp only[É];lia) ⟨H,I.tok _,by rw[JP r];exact q⟩
  .subst e';obtain⟨hz,hS,vs,r,m⟩:kvs.length<=Ü/\(p==ń)=di/\∃vs,KV kvs vs/\s.heap.DictOf (Zf X.prog X.w) p vs:=I.hok p _ hx;have hlen:kvs.length=vs.length:=Paired.length r;exact wpAny_truthy_dict hS m (by lia) ⟨H,I.tok _,by rw[OL r];exact q⟩
 |_=>exact(show False from e).elim
def DH(ha:PE X a ta)(he:∀ϯ,bu a X.env ϯ=(do let v<-ϯ;ο a.pos;ņ [v] (truthy v))) :
  PT X a (λσ H Q=>ta σ H λx H'=>∃k,QP X.K x H' k/\Q k H'):=by
 intro Á s σ H Q I h;exact isTrue_plain (thn (ha Á s σ H _ I h) λv s1 ⟨x,H1,I1,r1,q1⟩=>Le Á s1 σ H1 x v Q I1 r1 q1)<|he _
def OX:OpR X (Ķ .Add) λx y H Q=>∃i j,x=.str i/\y=.str j/\i.length+j.length<=Ü/\Q (.str<|i++j) H:=by intro Á s σ H x y v u Q I rx ry h;let⟨i,j,rfl,rfl,hz,q⟩:=h;let⟨t,rfl⟩:=rx;let⟨t',rfl⟩:=ry;exact add_str (λt' tk=>⟨.str<|i++j,H,I.tok _,⟨_,rfl⟩,q⟩) hz
variable {x:V} {us:List Â}
def ZM(r:eV [x] us):∃u,us=[u]/\RelV x u:=by
 cases r with
 |cons r1 r2=>cases r2;exact⟨_,rfl,r1⟩
def UL{y:V}(r:eV [x,y] us):∃u w',us=[u,w']/\RelV x u/\RelV y w':=by
 cases r with
 |cons r1 r2 =>
  cases r2 with
  |cons r3 r4=>cases r4;exact⟨_,_,rfl,r1,r3⟩
def BY:dA X (.builtin "abs") λxs H Q=>∃i,xs=[.int i]/\Q (.int<|if i<0 then -i else i) H:=by intro Á s σ H xs us Q I r h;let⟨i,rfl,q⟩:=h;let⟨u,rfl,t,rfl⟩:=ZM r;exact call_abs_int λu tk=>⟨.int (if i<0 then -i else i),H,I.tok _,⟨_,rfl⟩,q⟩
def AG(hc:X.calm=dh):dA X (.builtin "max") λxs H Q=>∃i j,xs=[.int i,.int j]/\Q (.int<|if j > i then j else i) H:=by
 intro Á s σ H xs us Q I r h;let⟨i,j,rfl,q⟩:=h;let⟨u,w',rfl,⟨t,rfl⟩,⟨t',rfl⟩⟩:=UL r;refine max_two_ints (I.ok.hd hc) λh' tk k=>⟨_,H,I.kept k,?_,q⟩
 by_cases hj:j > i
 .rw[ff hj,ff hj];exact⟨_,rfl⟩
 .rw[fg hj,fg hj];exact⟨_,rfl⟩
def AX(hc:X.calm=dh):dA X (.builtin "min") λxs H Q=>∃i j,xs=[.int i,.int j]/\Q (.int<|if j<i then j else i) H:=by
 intro Á s σ H xs us Q I r h;let⟨i,j,rfl,q⟩:=h;let⟨u,w',rfl,⟨t,rfl⟩,⟨t',rfl⟩⟩:=UL r;refine min_two_ints (I.ok.hd hc) λh' tk k=>⟨_,H,I.kept k,?_,q⟩
 by_cases hj:j<i
 .rw[ff hj,ff hj];exact⟨_,rfl⟩
 .rw[fg hj,fg hj];exact⟨_,rfl⟩
def call_int1:dA X (.type "int") λxs H Q=>(∃i,xs=[.int i]/\Q (.int i) H)\/∃k,xs=[.bl k]/\Q (.int<|if k then 1 else 0) H:=by
 intro Á s σ H xs us Q I r h;rcases h with⟨i,rfl,q⟩|⟨k,rfl,q⟩
 .obtain⟨u,rfl,t,rfl⟩:=ZM r;exact call_int_int ⟨.int i,H,I,⟨_,rfl⟩,q⟩
 .obtain⟨u,rfl,r1⟩:=ZM r;cases r1;exact call_int_bool ⟨.int (if k then 1 else 0),H,I.tok _,⟨_,rfl⟩,q⟩
end
structure ObjM(h:ċ)(x dx C:Ì)(mA:Str->Option Â):Prop where
 obj:h.get? x=df (PySem.W.instObj C dx)
 ns:h.Ns1 dx mA
 ne:dx≠x
variable {h:ċ} {dx:Ì} {mA:Str->Option Â}
def Bn(n:h.Ns1 dx mA):∃od,h.get? dx=df od/\∀name,PySem.W.lookIn name od=df (mA name):=by
 let⟨o,es,ep,ho,hd,hk,_,hm⟩:=n;refine⟨o,ho,λname=>?_⟩;have e:=hm name;unfold nsFind findBy at e;rw[<-Array.find?_toList]at e;unfold PySem.W.lookIn;rw[hd];dsimp only;split
 .rename_i y q;rw[q]at e;exact congrArg df e
 .rename_i q;rw[q]at e;have a:es.toList.any (·.refKey)=di:=by
   rw[List.any_eq_false];intro y hy;let⟨z,t,hkey⟩:=hk y<|Array.mem_toList_iff.mp hy;simp[DictEntry.refKey,hkey]
  have a':¬ es.toList.any (·.refKey)=dh:=by rw[a];exact ø
  rw[fg a'];exact congrArg df e
variable {C:Ì}
def ObjM.look{x:Ì}(I:ObjM h x dx C mA):∃od,PySem.W.InstAt h x (PySem.W.instObj C dx) C (df od)/\∀name,PySem.W.lookIn name od=df (mA name) :=
 let ⟨od,ho,hl⟩:=Bn I.ns
 ⟨od,⟨I.obj,rfl,rfl,ho⟩,hl⟩
section
variable {prog:ë}{w:Ă}{A:Ğ}{E:Â->Å->Prop}{s:Å}{K:Frag}{x dx C f:Ì}{mA:Str->Option Â}{name:Str}{v:Â}
def E5{expr:Bool}{Q:Â->Å->Prop}(X:K.In s.heap)(I:ObjM s.heap x dx C mA)(hg:PySem.W.plainGet K C name=dh)(hh:PySem.W.hasDictIn K C=dh)
  (ha:PySem.W.findIn K (.ref C) name=df dg) (hv:mA name=df v) (hv':PySem.W.handedIn v=dh) (h:Q v {s with toks:=s.toks+1}) :
  wpAny (â prog w) A (getAttr (.ref x) name expr) Q E s:=by
 let⟨od,J,hl⟩:=I.look;exact PySem.W.get_value X J (PySem.W.plainGet_of hg).1 (PySem.W.findObj_own hh ha rfl<|by rw[hl,hv]) hv' h
def C6{pl:Sem Bool}{Q:Â×List Â->Å->Prop}(X:K.In s.heap)(I:ObjM s.heap x dx C mA)(hg:PySem.W.plainGet K C name=dh)
  (hf:PySem.W.findIn K (.ref C) name=df (df<|.ref f)) (ht:PySem.W.isFn K (.ref f)=dh) (hv:mA name=dg) (h:Q (.ref f,[.ref x]) s) :
  wpAny (â prog w) A (Δ (.ref x) name pl) Q E s:=by
 let⟨od,J,hl⟩:=I.look;exact PySem.W.method_fn X J (PySem.W.plainGet_of hg).1 (PySem.W.plainGet_of hg).2 hf (beq_iff_eq.mp ht) (by show(PySem.W.lookIn name od).map (·.isSome)=df di;rw[hl,hv];rfl) h
def EM{ns:List Str}{Q:Unit->Å->Prop}(X:K.In s.heap)(I:ObjM s.heap x dx C mA)
  (hs:PySem.W.findIn K (.ref C) "__setattr__" = df (df<|.builtin "object.__setattr__")) (hp:PySem.W.plainOver K C=dh) (ht:PySem.W.takerIn K C name=df dg) (hh:PySem.W.hasDictIn K C=dh)
  (hw:PySem.Within mA ns) (hsz:ns.length<=Ü)
  (h:∀h',ObjM h' x dx C (λy=>if y=name then df v else mA y)->ν dx s.heap h'->Q () {s with heap:=h',toks:=s.toks+2}) :
  wpAny (â prog w) A (setAttr (.ref x) name v) Q E s:=by
 let⟨od,J,hl⟩:=I.look;refine PySem.W.set_plain X J hs<|PySem.W.osa_open (s:={s with toks:=s.toks+1}) (r:=dg) X J hp ht λb=>?_;let⟨cd,hc,hd'⟩:=PySem.W.any_some hh;have hx:s.heap.get? x=df ⟨.ref C,df dx,.plain,#[]⟩:=I.obj;refine Ã<|Ù<|Ã<|Ã<|wpAny_loadPart hx<|Ã<|PySem.W.Looks.here (s:={s with toks:=s.toks+1}) (PySem.W.looks_clsIn X hc) ?_;rw[hd'];refine Ù (a:=df dx)<|Ã<|Ù<|Ã ?_;refine wpAny_nsSet1 (s:={s with toks:=s.toks+1}) I.ns λh' hn2 hs2=>?_;let⟨oD,esD,epD,hoD,hdD,hcD⟩:=hn2.count<|PySem.Within.cons name v hw;refine Ã (wpAny_lookBehind hoD (by rw[hdD];exact pastItsLine_dict<|Ô hcD<|by rw[Ç];lia) ?_);exact Ù<|h _ ⟨(hs2.2 _<|Ne.symm I.ne).trans I.obj,hn2,I.ne⟩ hs2
def DP{R:Result->Å->Prop}{vs:List Â}{kw:List (Str×Â)}(X:K.In s.heap)(hm:PySem.W.makesIn K C=dh)
  (hi:PySem.W.findIn K (.ref C) "__init__" = df (df<|.ref f)) (hf:PySem.W.typeIn K (.ref f)=df (.type "function"))
  (h:codeAny (â prog w) (A.under<|.builtin "type.__call__" ⟨.ref C::vs,kw⟩) (.call (.ref f) ⟨.ref (s.heap.objs.size+1)::vs,kw⟩) (PySem.W.InitBack (s.heap.objs.size+1) R)
    { s with heap:=(s.heap.push PySem.W.emptyDict).push (PySem.W.instObj C s.heap.objs.size) }) :
  codeAny (â prog w) A (.call (.ref C) ⟨vs,kw⟩) R s:=by
 let⟨hh,g,d,t,os⟩:=s;exact PySem.W.make_core (PySem.W.makes_of X hm) (PySem.W.looks_findIn X hi) (λself=>PySem.W.bind_fn X self hf) (.inl rfl) h
end
abbrev dJ(f:Str)(v:V):List (Str×V)->List (Str×V)
 |[]=>[(f,v)]
 |(g,x)::r=>if g=f then(g,v)::r else(g,x)::dJ f v r
def WF(f g:Str)(v:V):∀fs:List<|Str×V,(dJ f v fs).lookup g=if g=f then df v else fs.lookup g
 |[]=>by
  show ū g [(f,v)]=_;by_cases h:g=f
  .have hb:(g==f)=dh:=beq_iff_eq.mpr h;simp only[ū,hb,ff h]
  .have hb:(g==f)=di:=beq_eq_false_iff_ne.mpr h;simp only[ū,hb,fg h]
 |(k,x)::r=>by
  have ih:=WF f g v r;rw[show dJ f v ((k,x)::r)=(if k=f then(k,v)::r else(k,x)::dJ f v r) from rfl];by_cases hk:k=f
  .rw[ff hk];by_cases h:g=k
   .have hb:(g==k)=dh:=beq_iff_eq.mpr h;simp only[ū,hb,ff<|h.trans hk]
   .have hb:(g==k)=di:=beq_eq_false_iff_ne.mpr h;simp only[ū,hb,fg λe:g=f=>h<|e.trans hk.symm]
  .rw[fg hk];by_cases h:g=k
   .have hb:(g==k)=dh:=beq_iff_eq.mpr h;simp only[ū,hb,fg λe:g=f=>hk<|h.symm.trans e]
   .have hb:(g==k)=di:=beq_eq_false_iff_ne.mpr h;simp only[ū,hb];exact ih
def Ws(f:Str)(v:V):∀fs:List<|Str×V,f∈(dJ f v fs).map (·.1)/\∀g,g∈fs.map (·.1)->g∈(dJ f v fs).map (·.1)
 |[]=>⟨by simp[dJ],λg h=>by simp at h⟩
 |(k,x)::r=>by
  let⟨i1,i2⟩:=Ws f v r;rw[show dJ f v ((k,x)::r)=(if k=f then(k,v)::r else(k,x)::dJ f v r) from rfl];by_cases hk:k=f
  .rw[ff hk];subst hk;exact⟨by simp,λg h=>⇑h⟩
  .rw[fg hk];refine⟨?_,λg h=>?_⟩
   .rw[Í];exact ß _ i1
   .rw[Í]at h ⊢;rcases Æ.mp h with e|e
    .exact Æ.mpr<|.inl e
    .exact ß _<|i2 g e
def WB(f:Str)(v:V):∀fs:List<|Str×V,(dJ f v fs).length<=fs.length+1
 |[]=>by simp[dJ]
 |(k,x)::r=>by
  have ih:=WB f v r;rw[show dJ f v ((k,x)::r)=(if k=f then(k,v)::r else(k,x)::dJ f v r) from rfl];by_cases hk:k=f
  .rw[ff hk,Ç,Ç];lia
  .rw[fg hk,Ç,Ç];lia
variable {o:Option Â}
def dW.some_of{v:V}(r:dW (df v) o):∃u,o=df u/\RelV v u:=by
 cases o with
 |none=>exact(show False from r).elim
 |some u=>exact⟨u,rfl,r⟩
def dW.none_of(r:dW dg o):o=dg:=by
 cases o with
 |none=>rfl
 |some u=>exact(show False from r).elim
variable {u:Â}
def AK{v:V}(r:RelV v u):PySem.W.handedIn u=dh:=by
 cases v with
 |non=>cases (show u=Value.none from r);rfl
 |bl b=>cases (show u=Value.bool b from r);rfl
 |int i=>let⟨t,e⟩:=(show ∃t,u=Value.int i t from r);cases e;rfl
 |str x=>let⟨t,e⟩:=(show ∃t,u=Value.str x t from r);cases e;rfl
 |byt b=>let⟨t,e⟩:=(show ∃t,u=Value.bytes b t from r);cases e;rfl
 |flt b=>let⟨t,e⟩:=(show ∃t,u=Value.float b t from r);cases e;rfl
 |ref a=>cases (show u=Value.ref a from r);rfl
 |ty n=>cases (show u=Value.type n from r);rfl
section
variable {P:ë}{w:Ă}{H H':Hp}{h h':ċ}{a C dx:Ì}{fs fs':List (Str×V)}
def W1(hok:HOk P w H h)(e:H a=df (.ins C dx fs)):∃mA,ObjM h a dx C mA/\(∀f,dW (fs.lookup f)<|mA f)/\PySem.Within mA (fs.map (·.1))/\fs.length<=1000/\H dx=df (.own a):=by
 let⟨d,z,ne,ob,mA,n,r,q⟩:=(show dB P w H h a (.ins C dx fs) from hok a _ e)
 exact⟨mA,⟨ob,n,ne⟩,r,q,z,d⟩
end
structure Cls(K:Frag)(C:Ì):Prop where
 pg:PySem.W.plainGet K C Str.empty=dh
 hd:PySem.W.hasDictIn K C=dh
 po:PySem.W.plainOver K C=dh
 sa:PySem.W.findIn K (.ref C) "__setattr__" = df (df<|.builtin "object.__setattr__")
def Cls.get{K:Frag}(c:Cls K C)(f:Str):PySem.W.plainGet K C f=dh:=c.pg
abbrev NoAttr(K:Frag)(C:Ì)(f:Str):Prop:=PySem.W.findIn K (.ref C) f=df dg
def NoAttr.taker{K:Frag}{f:Str}(n:NoAttr K C f):PySem.W.takerIn K C f=df dg:=by unfold PySem.W.takerIn;rw[show PySem.W.findIn K (.ref C) f=df dg from n];rfl
structure Meth(K:Frag)(C:Ì)(m:Str)(f:Ì):Prop where
 at_:PySem.W.findIn K (.ref C) m=df (df<|.ref f)
 fn:PySem.W.isFn K (.ref f)=dh
 kp:PySem.W.keepIn K (.ref f)=dh
section
variable {X:Cx}{Á:List (Ì×Obj)}{σ:St}{H:Hp}{s:Å}{a C dx:Ì}{fs:List (Str×V)}{f:Str}{v:V}{A:Ğ}{E:Â->Å->Prop}
variable {Q:Â->Å->Prop}
def JW{b:Bool}(I:Inv X Á σ H s)(e:H a=df (.ins C dx fs))(c:Cls X.K C)(n:NoAttr X.K C f)(l:fs.lookup f=df v)
  (h:∀u s',Inv X Á σ H s'->RelV v u->Q u s'):wpAny (â X.prog X.w) A (getAttr (.ref a) f b) Q E s:=by
 let⟨mA,O,r,_,_,_⟩:=W1 I.hok e;let⟨u,hu,ru⟩:=dW.some_of (v:=v) (o:=mA f) (by rw[<-l];exact r f);exact E5 I.kIn O (c.get f) c.hd n hu (AK ru)<|h u _ (I.tok _) ru
def JK{m:Str}{g:Ì}{pl:Sem Bool}{Q:Â×List Â->Å->Prop}(I:Inv X Á σ H s)(e:H a=df (.ins C dx fs))(c:Cls X.K C)(k:Meth X.K C m g)(l:fs.lookup m=dg)
  (h:Q (.ref g,[.ref a]) s):wpAny (â X.prog X.w) A (Δ (.ref a) m pl) Q E s:=by
 let⟨mA,O,r,_,_,_⟩:=W1 I.hok e;have hn:mA m=dg:=dW.none_of (by rw[<-l];exact r m);exact C6 I.kIn O (c.get m) k.at_ k.fn hn h
def Jn{y:V}{Q:Unit->Å->Prop}(I:Inv X Á σ H s)(e:H a=df (.ins C dx fs))(c:Cls X.K C)(n:NoAttr X.K C f)(hl:fs.length<1000)(ry:RelV y u)
  (h:∀s',Inv X Á σ (upd H a<|.ins C dx<|dJ f y fs) s'->Q () s'):wpAny (â X.prog X.w) A (setAttr (.ref a) f u) Q E s:=by
 let⟨mA,O,r,wi,_,ho⟩:=W1 I.hok e;have hz:(fs.map (·.1)).length<=Ü:=by rw[À,ϒ];lia
 refine EM I.kIn O c.sa c.po n.taker c.hd wi hz λh' O' sb=>h _ ?_;have hd:∃o,h'.get? dx=df o:=let ⟨o,_,_,e',_⟩:=O'.ns;⟨o,e'⟩;refine I.write (x:=a) (e:=dx) (by rw[e];exact True.intro) (.inr ho) (λb q hb z=>(sb.2 b hb).trans z) hd ?_;refine⟨by rw[dj O.ne];exact ho,?_,O.ne,O'.obj,_,O'.ns,λg=>?_,λg hg=>?_⟩
 .have:=WB f y fs;lia
 .show dW ((dJ f y fs).lookup g) (if g=f then df u else mA g);rw[WF];by_cases q:g=f
  .rw[ff q,ff q];exact ry
  .rw[fg q,fg q];exact r g
 .by_cases q:g=f
  .rw[q];exact(Ws f y fs).1
  .refine(Ws f y fs).2 g<|wi g λz=>hg ?_;show(if g=f then df u else mA g)=dg;rw[fg q];exact z
def Inv.made(I:Inv X Á σ H s):Inv X Á σ (upd (upd H s.heap.objs.size<|.own<|s.heap.objs.size+1) (s.heap.objs.size+1)<|.ins C s.heap.objs.size [])
  {s with heap:=(s.heap.push PySem.W.emptyDict).push (PySem.W.instObj C s.heap.objs.size)}:=by
 have e1:(s.heap.push PySem.W.emptyDict).get? s.heap.objs.size=df PySem.W.emptyDict:=Ý s.heap rfl;have e2:((s.heap.push PySem.W.emptyDict).push<|PySem.W.instObj C s.heap.objs.size).get? (s.heap.objs.size+1)=df (PySem.W.instObj C s.heap.objs.size):=by
  have:=Ý (s.heap.push PySem.W.emptyDict) (o:=PySem.W.instObj C s.heap.objs.size) rfl
  rwa [Ō]at this
 have e3:(s.heap.push PySem.W.emptyDict).Ns s.heap.objs.size λ_=>dg:=⟨PySem.W.emptyDict,#[],_,e1,rfl,(λe he=>fk he<|by simp),λ_=>rfl⟩
 have I1:=I.laid (a:=s.heap.objs.size) (o:=.own<|s.heap.objs.size+1) (h':=s.heap.push PySem.W.emptyDict) (t':=s.toks) (λb u q=>Ä _ q) (Ï _) ⟨_,e1⟩;refine I1.laid (a:=s.heap.objs.size+1) (o:=.ins C s.heap.objs.size []) (t':=s.toks) (λb u q=>Ä _ q) (Nat.le_of_eq<|Ō _ _) ?_;have ne:s.heap.objs.size≠s.heap.objs.size+1:=ì<|Č _;refine⟨by rw[dj ne,dk],ŏ _,ne,e2,λ_=>dg,(Heap.Ns1.of_empty e3).at λo q=>Ä _ q,λ_=>True.intro,λy hy=>fk rfl hy⟩
def EB{prog:ë}{w:Ă}{env:Env}{e:Expr}{ç:Pos}(hb:ē e f env (eval e env)=eval e env)
  (h:wpAny (â prog w) A (eval e env) (λo ģ=>wpAny (â prog w) A (getAttr o f dh) Q E ģ) E s):wpAny (â prog w) A (eval (.Attribute e f ç) env) Q E s :=
 Attribute_any_ h (by rw[arm_eval_Attribute,hb])
end
abbrev RQ(K:Frag)(ta:TE)(f:Str):TE:=λσ H Q=>ta σ H λx H1=>∃a C dx fs v,x=.ref a/\H1 a=df (.ins C dx fs)/\Cls K C/\NoAttr K C f/\fs.lookup f=df v/\Q v H1
abbrev RU(K:Frag)(ta tv:TE)(f:Str):TS:=λD σ H=>tv σ H λy H1=>ta σ H1 λx H2=>∃a C dx fs,x=.ref a/\H2 a=df (.ins C dx fs)/\Cls K C/\NoAttr K C f/\fs.length<1000/\
 D.nx σ (upd H2 a<|.ins C dx<|dJ f y fs)
abbrev Cd(X:Cx)(op:Γ)(rd:V->V->Hp->VK->Prop):Prop :=
 ∀(Á:List<|Ì×Obj) (s:Å) (σ:St) (H:Hp) (x y:V) (u v:Â) (Q:VK),Inv X Á σ H s->RelV x u->RelV y v->rd x y H Q->wpAny (â X.prog X.w) X.A (inplaceOp op u v) (EP X Á σ Q) X.xe s
abbrev Gp(K:Frag)(ta tv:TE)(rd:V->V->Hp->VK->Prop)(f:Str):TS:=λD σ H=>ta σ H λx H1=>∃a C dx fs v,x=.ref a/\H1 a=df (.ins C dx fs)/\Cls K C/\NoAttr K C f/\fs.lookup f=df v/\
 tv σ H1 λy H2=>rd v y H2 λz H3=>∃dx' fs',H3 a=df (.ins C dx' fs')/\fs'.length<1000/\D.nx σ (upd H3 a<|.ins C dx'<|dJ f z fs')
section
variable {X:Cx}{o e ű:Expr}{f:Str}{ç aF bL:Pos}{ta tv:TE}
def HK(he:PE X e ta)(hb:ē e f X.env (eval e X.env)=eval e X.env):PE X (.Attribute e f ç)<|RQ X.K ta f:=by intro Á s σ H Q I h;refine EB hb<|thn (he Á s σ H _ I h) λu s1 ⟨x,H1,I1,rx,a,C,dx,fs,v,ex,ea,c,n,l,q⟩=>?_;subst ex;obtain rfl:u=Value.ref a:=rx;exact JW I1 ea c n l λu' s2 I2 ru=>⟨v,H1,I2,ru,q⟩
def HE(ha:PE X o ta)(hv:PE X ű tv)(hs:ş ű (df<|.Attribute o f aF) ç.line X.env=pure di):PS X (.Assign [.Attribute o f aF] ű ç)<|RU X.K ta tv f:=by intro Á s σ H D I h;refine plainObj_wpAny_Assign_Attribute (thn (hv Á s σ H _ I h) λu s1 ⟨y,H1,I1,ry,q⟩=>thn (ha Á s1 σ H1 _ I1 q) λov s2 ⟨x,H2,I2,rx,a,C,dx,fs,ex,ea,c,n,l,q2⟩=>?_) hs;subst ex;obtain rfl:ov=Value.ref a:=rx;exact Jn I2 ea c n l ry λs3 I3=>⟨σ,_,I3,q2⟩
def Ai{op:Γ}{rd:V->V->Hp->VK->Prop}(ha:PE X o ta)(hv:PE X ű tv)(hop:Cd X op rd):PS X (.AugAssign (.Attribute o f bL) op ű ç)<|Gp X.K ta tv rd f:=by intro Á s σ H D I h;refine wpAny_AugAssign_AttributeAny<|thn (ha Á s σ H _ I h) λov s1 ⟨x,H1,I1,rx,a,C,dx,fs,v,ex,ea,c,n,l,q⟩=>?_;subst ex;obtain rfl:ov=Value.ref a:=rx;refine JW I1 ea c n l λu s2 I2 ru=>thn (hv Á s2 σ H1 _ I2 q) λw3 s3 ⟨y,H2,I3,ry,q3⟩=>thn (hop Á s3 σ H2 v y u w3 _ I3 ru ry q3) λw4 s4 ⟨z,H3,I4,rz,dx',fs',ea',l',q4⟩=>?_;exact Jn I4 ea' c n l' rz λs5 I5=>⟨σ,_,I5,q4⟩
abbrev Rj:V->V->Hp->VK->Prop:=λx y H Q=>∃i j,x=.int i/\y=.int j/\Q (.int<|i+j) H
abbrev RZ:V->V->Hp->VK->Prop:=λx y H Q=>∃i j,x=.int i/\y=.int j/\Q (.int<|i - j) H
def Pe:Cd X .Add Rj:=by
 rintro Á s σ H x y u v Q I rx ry ⟨i,j,rfl,rfl,q⟩;let⟨t,rfl⟩:=(show ∃t,u=Value.int i t from rx)
 let⟨t',rfl⟩:=(show ∃t',v=Value.int j t' from ry)
 exact PyProof.Rows.iadd_int ⟨.int<|i+j,H,I.tok _,⟨_,rfl⟩,q⟩
def LR:Cd X .Sub RZ:=by
 rintro Á s σ H x y u v Q I rx ry ⟨i,j,rfl,rfl,q⟩;let⟨t,rfl⟩:=(show ∃t,u=Value.int i t from rx)
 let⟨t',rfl⟩:=(show ∃t',v=Value.int j t' from ry)
 exact PyProof.Rows.isub_int ⟨.int<|i - j,H,I.tok _,⟨_,rfl⟩,q⟩
end
section
variable {X:Cx}{Á:List (Ì×Obj)}{σ:St}{H:Hp}{s:Å}{A:Ğ}{E:Â->Å->Prop}{Q:Â->Å->Prop}{c:Â}{b:Bool}
inductive eN (K:Frag) (H:Hp):V->Â->Prop where
 |non:eN K H .non<|.type "NoneType"
 |bl (x:Bool):eN K H (.bl x)<|.type "bool"
 |int (i:Int):eN K H (.int i)<|.type "int"
 |str (x:Str):eN K H (.str x)<|.type "str"
 |flt (x:UInt64):eN K H (.flt x)<|.type "float"
 |lst {a:Ì}{xs:List V}(e:H a=df (.lst xs)):eN K H (.ref a)<|.type "list"
 |frz {a:Ì}{o:Obj}{xs:List V}(e:H a=df (.frz o<|.lst xs)):eN K H (.ref a)<|.type "list"
 |tup {a:Ì}{xs:List V}(e:H a=df (.tup xs)):eN K H (.ref a)<|.type "tuple"
 |dK {a:Ì}{kvs:List (Key×V)}(e:H a=df (.dK kvs)):eN K H (.ref a)<|.type "dict"
 |dT {a:Ì}{kvs:List (List Key×V)}(e:H a=df (.dT kvs)):eN K H (.ref a)<|.type "dict"
 |ins {a C dx:Ì}{fs:List (Str×V)}(e:H a=df (.ins C dx fs)) (cl:Cls K C) (ha:PySem.W.findIn K (.ref C) "__class__" = df (df<|.builtin "object.__class__"))
   (hn:PySem.W.specialIn K (.builtin "object.__class__") "__get__" = df (df<|.builtin "getset_descriptor.__get__")) (htk:PySem.W.takesIn K (.builtin "object.__class__")=df dh)
   (hm:PySem.W.mroIn K C (.type "object")=df dh):eN K H (.ref a)<|.ref C
def Ah{x:V}{t:Â}(I:Inv X Á σ H s)(rx:RelV x u)(ty:eN X.K H x t)(e:PySem.W.kitOne X.K t c=df b)(h:∀tk,Q (.bool b) {s with toks:=tk}) :
  wpAny (â X.prog X.w) A (call (.builtin "isinstance") [u,c]) Q E s:=by
 cases ty with
 |non=>cases (show u=Value.none from rx);exact PySem.W.kia_one PySem.W.kitx_none I.kIn True.intro e (λz=>nomatch z) h
 |bl y=>cases (show u=Value.bool y from rx);exact PySem.W.kia_one PySem.W.kitx_bool I.kIn True.intro e (λz=>nomatch z) h
 |int i=>let⟨t,q⟩:=(show ∃t,u=Value.int i t from rx);cases q;exact PySem.W.kia_one PySem.W.kitx_int I.kIn True.intro e (λz=>nomatch z) h
 |str y=>let⟨t,q⟩:=(show ∃t,u=Value.str y t from rx);cases q;exact PySem.W.kia_one PySem.W.kitx_str I.kIn True.intro e (λz=>nomatch z) h
 |flt y=>let⟨t,q⟩:=(show ∃t,u=Value.float y t from rx);cases q;exact PySem.W.kia_one PySem.W.kitx_float I.kIn True.intro e (λz=>nomatch z) h
 |@lst a xs ea =>
  cases (show u=Value.ref a from rx);let⟨_,_,n,_,h1⟩:=(show dB X.prog X.w H s.heap a (.lst xs) from I.hok a _ ea)
  exact PySem.W.kia_one PySem.W.kitx_list I.kIn ⟨_,h1,rfl⟩ e (λz=>nomatch z) h
 |@frz a ob xs ea =>
  cases (show u=Value.ref a from rx);let⟨_,_,_,n,_,h1⟩:=(show dB X.prog X.w H s.heap a (.frz ob<|.lst xs) from I.hok a _ ea)
  exact PySem.W.kia_one PySem.W.kitx_list I.kIn ⟨_,h1,rfl⟩ e (λz=>nomatch z) h
 |@tup a xs ea =>
  cases (show u=Value.ref a from rx);let⟨_,_,_,p⟩:=(show dB X.prog X.w H s.heap a (.tup xs) from I.hok a _ ea)
  let⟨o,h1,h2,_⟩:=p;exact PySem.W.kia_one PySem.W.kitx_tuple I.kIn ⟨o,h1,h2⟩ e (λz=>nomatch z) h
 |@dK a kvs ea =>
  cases (show u=Value.ref a from rx);let⟨_,_,vs,_,p⟩:=(show dB X.prog X.w H s.heap a (.dK kvs) from I.hok a _ ea)
  let⟨o,es,ep,h1,h2,_⟩:=p;exact PySem.W.kia_one PySem.W.kitx_dict I.kIn ⟨o,h1,h2.1⟩ e (λz=>nomatch z) h
 |@dT a kvs ea =>
  cases (show u=Value.ref a from rx);let⟨_,_,xs,_,o,es,ep,h1,h2,_⟩:=(show dB X.prog X.w H s.heap a (.dT kvs) from I.hok a _ ea)
  exact PySem.W.kia_one PySem.W.kitx_dict I.kIn ⟨o,h1,h2.1⟩ e (λz=>nomatch z) h
 |@ins a C dx fs ea cl ha hn htk hm =>cases (show u=Value.ref a from rx);let⟨mA,O,_⟩:=W1 I.hok ea;let⟨od,J,_⟩:=O.look;exact PySem.W.kia_one (PySem.W.kitx_own (cl.get _) cl.hd ha hn htk hm) I.kIn J e (λz=>nomatch z) h
end
structure dX(k:Nat)(A:Ğ):Prop where
 hd:A.handled=dg
 dp:A.depth+3*k+5<recursionLimit
 un:A.units+16*k+200<Ĥ
variable {A:Ğ}
def dX.mono{j k:Nat}(r:dX k A)(h:j<=k):dX j A:=⟨r.hd,by have:=r.dp;lia,by have:=r.un;lia⟩
def dX.deeper{k:Nat}(r:dX (k+1) A)(env:Env):dX k (A.deeper env) :=
 ⟨r.hd,by have:=r.dp;show A.depth+1+3*k+5<_;lia,by have:=r.un;show A.units+3+16*k+200<_;lia⟩
variable {C:Ì} {us:List Â} {kw:List (Str×Â)}
def OF:(A.under<|.builtin "type.__call__" ⟨.ref C::us,kw⟩).depth=A.depth+1:=by
 first|rfl|simp[aL,Code.weight,Code.isCreation,Code.isGuard,Code.isCaller,Code.frames,be,guardIds]
def Ot:(A.under<|.builtin "type.__call__" ⟨.ref C::us,kw⟩).units=A.units+1:=by
 first|rfl|simp[aL,Code.cUnits,Code.frames,be]
def dX.make{k:Nat}(r:dX (k+1) A)(C:Ì)(us:List Â)(kw:List<|Str×Â):dX k (A.under<|.builtin "type.__call__" ⟨.ref C::us,kw⟩) :=
 ⟨r.hd,by have:=r.dp;rw[OF];lia,by have:=r.un;rw[Ot];lia⟩
def dX.depth{k:Nat}(r:dX k A):A.depth<recursionLimit:=by have:=r.dp;lia
abbrev LM:TA:=λ_ H Q=>Q [] H
abbrev Pv(ta:TE)(tr:TA):TA:=λσ H Q=>ta σ H λx H1=>tr σ H1 λxs H2=>Q (x::xs) H2
section
variable {X:Cx}{e:Expr}{es:List Expr}{te:TE}{t:TA}{ç:Pos}
def eQ:PA X [] LM:=λ_ _ _ _ H Q I h=>Calls.spliced_nil ⟨[],H,I,.nil,h⟩
def ZY(ha:PE X e te)(hr:PA X es t)(hs:Ó (e::es) X.env=(di,eval e X.env)::Ó es X.env:=by rfl):PA X (e::es)<|Pv te t:=by intro ç Á s σ H Q I h;rw[hs];show wpAny _ _ (spliced<|(di,eval e X.env)::Ē ç (Ó es X.env)) _ _ s;refine Calls.spliced_cons<|thn (ha Á s σ H _ I h) λu s1 ⟨x,H1,I1,r1,q1⟩=>?_;exact thn (hr ç Á s1 σ H1 _ I1 q1) λus s2 ⟨xs,H2,I2,r2,q2⟩=>⟨x::xs,H2,I2,.cons r1 r2,q2⟩
abbrev Rn(t:TA):TE:=λσ H Q=>t σ H λxs H1=>xs.length<=Ü/\∀p,H1 p=dg->Q (.ref p) (upd H1 p<|.tup xs)
abbrev RC(t:TA):TE:=λσ H Q=>t σ H λxs H1=>xs.length<=Ü/\∀p,H1 p=dg->Q (.ref p) (upd H1 p<|.lst xs)
def LC{x1}(h:PA X es t):PE X (.Tuple es x1 ç)<|Rn t:=by intro Á s σ H Q I hq;refine wpAny_Tuple_spliced (thn (h ç Á s σ H _ I hq) λus s1 ⟨xs,H1,I1,r,z,q⟩=>⟨by rw[<-r.length];exact z,?_⟩);have hf:H1 s1.heap.objs.size=dg:=I1.hok.fresh<|Ï _;refine⟨.ref s1.heap.objs.size,upd H1 s1.heap.objs.size<|.tup xs,I1.laid (t':=s1.toks) (λb u e=>Ä _ e) (Ï _) ?_,rfl,q _ hf⟩;exact⟨z,us,r,⟨_,Ý _ rfl,rfl,_,rfl⟩⟩
def Iy(h:PA X es t):PE X (.List es ç)<|RC t:=by intro Á s σ H Q I hq;refine wpAny_List_spliced (thn (h ç Á s σ H _ I hq) λus s1 ⟨xs,H1,I1,r,z,q⟩=>⟨by rw[<-r.length];exact z,?_⟩);have hf:H1 s1.heap.objs.size=dg:=I1.hok.fresh<|Ï _;refine⟨.ref s1.heap.objs.size,upd H1 s1.heap.objs.size<|.lst xs,I1.laid (t':=s1.toks) (λb u e=>Ä _ e) (Ï _) ?_,rfl,q _ hf⟩;exact⟨z,us,0,r,Ý _ rfl⟩
end
noncomputable abbrev Sp:=List V->Hp->VK->XK->Prop
noncomputable abbrev CXT:=List Env->Hp->Å->XK->Â->Å->Prop
structure Env0(P:ë)(w:Ă)(K:Frag)(mg:Str->Option Â)(base:ċ)(A:Ğ)(outer:List Env)(s:Å)(H:Hp):Prop where
 frames:A.frames=df outer
 mod:Mod K mg base
 bs:∀b o,base.get? b=df o->s.heap.get? b=df o/\H b=dg
 bsz:base.objs.size<=s.heap.objs.size
 funs:s.heap.FunFrames base outer
 frf:∀b∈frs outer,H b=dg
 hok:HOk P w H s.heap
 bare:μ s.gens
abbrev CE(outer:List Env)(P:ë)(w:Ă)(H:Hp)(s:Å)(Q:VK)(u:Â)(s':Å):Prop :=
 ∃v H',s'.os=s.os/\μ s'.gens/\Un (frs outer) [] H H' s.heap s'.heap/\HOk P w H' s'.heap/\RelV v u/\Q v H'
abbrev CR(CX:CXT)(outer:List Env)(P:ë)(w:Ă)(H:Hp)(s:Å)(Q:VK)(E:XK)(r:Result)(s':Å):Prop :=
 match r with
 |.ok (.ret u)=>CE outer P w H s Q u s'
 |.ok _=>False
 |.error e=>CX outer H s E e s'
structure dY(P:ë)(w:Ă)(K:Frag)(mg:Str->Option Â)(base:ċ)(CX:CXT)(k:Nat)(f:Ì)(fd:ķ)(ps:List Str)(sp:Sp):Prop where
 len:∀vs H Q E,sp vs H Q E->vs.length=ps.length
 run:∀(A:Ğ) (outer:List Env) (s:Å) (H:Hp) (args:Args) (us:List Â) (vs:List V) (Q:VK) (E:XK),dX k A->Env0 P w K mg base A outer s H->BindsTo s fd args (ps.zip us)->eV vs us->sp vs H Q E->
  codeAny (â P w) A (.call (.ref f) args) (CR CX outer P w H s Q E) s
variable {P:ë} {w:Ă} {mg:Str->Option Â} {base:ċ} {outer:List Env} {s:Å} {H:Hp}
def Env0.make{K:Frag}(e:Env0 P w K mg base A outer s H)(C:Ì)(us:List Â)(kw:List<|Str×Â) :
  Env0 P w K mg base (A.under<|.builtin "type.__call__" ⟨.ref C::us,kw⟩) outer s H:=⟨by first|exact e.frames|(simpa[aL,Code.envs,be,pushEnvs]using e.frames),e.mod,e.bs,e.bsz,e.funs,e.frf,e.hok,e.bare⟩
section
variable {X:Cx}{Á:List (Ì×Obj)}{σ:St}{H:Hp}{s s':Å}
def Inv.env0(I:Inv X Á σ H s):Env0 X.prog X.w X.K X.mg X.base X.A X.stack s H :=
 ⟨I.ok.frames,I.ok.mod,I.bs,Ô I.ok.bsz I.sz,I.stack,I.stkFree,I.hok,I.bare⟩
def Inv.after{Q:VK}{u:Â}(I:Inv X Á σ H s)(h:CE X.stack X.prog X.w H s Q u s'):EP X Á σ Q u s':=by let⟨v,H',os,bare,un,hok,r,q⟩:=h;let⟨hh,g,d,t,os'⟩:=s';obtain rfl:os'=s.os:=os;exact⟨v,H',I.call (h':=hh) (g':=g) (d':=d) (t':=t) (ch:=[]) un hok bare λb z=>fk z<|by simp,r,q⟩
end
abbrev GV(sp:Sp)(ϰ:List V)(E:XK)(t:TA):TE:=λσ H Q=>t σ H λvs H1=>sp (vs++ϰ) H1 Q E
abbrev GX(C:Ì)(m:Str)(sp:Sp)(ϰ:List V)(E:XK)(ta:TE)(t:TA):TE:=λσ H Q=>ta σ H λx H1=>∃a dx fs,x=.ref a/\H1 a=df (.ins C dx fs)/\fs.lookup m=dg/\
 t σ H1 λvs H2=>sp (x::(vs++ϰ)) H2 Q E
abbrev Po(C:Ì)(sp:Sp)(ϰ:List V)(E:XK)(t:TA):TE:=λσ H Q=>t σ H λvs H1=>∀x dx,H1 x=dg->H1 dx=dg->dx≠x->
 sp (.ref x::(vs++ϰ)) (upd (upd H1 dx<|.own x) x<|.ins C dx []) (λv H2=>v=.non/\Q (.ref x) H2) E
abbrev Binds(K:Frag)(fd:ķ)(ps:List Str)(ds:List Â):Prop :=
 ∀(s:Å) (us:List Â),K.In s.heap->(us++ds).length=ps.length->BindsTo s fd ⟨us,[]⟩ (ps.zip<|us++ds)
variable {ps:List Str}
def Binds.all{K:Frag}{fd:ķ}(h:∀us:List Â,us.length=ps.length->bindArgs fd ⟨us,[]⟩=pure (ps.zip us)):Binds K fd ps []:=λs us _ hl=>by rw[þ]at hl ⊢;exact .of_eq (h us hl)
abbrev Y4(CX:CXT)(X:Cx)(E:XK):Prop:=∀(Á:List<|Ì×Obj) (σ:St) (H:Hp) (s:Å) (e:Â) (s':Å),Inv X Á σ H s->CX X.stack H s E e s'->X.xe e s'
section
variable {X:Cx}{CX:CXT}{k:Nat}{f C:Ì}{fd:ķ}{ps:List Str}{sp:Sp}{ϰ:List V}{ds:List Â}{E:XK}{x m:Str}{p ç Ļ:Pos}{e o:Expr}{es:List Expr}{ta:TE}{t:TA}
variable {Á:List (Ì×Obj)} {σ:St} {Q:VK} {vs:List V}
def Ml(F:dY X.prog X.w X.K X.mg X.base CX k f fd ps sp)(hr:dX k X.A)(hb:Binds X.K fd ps ds)(hd:eV ϰ ds)(hx:Y4 CX X E)
  (I:Inv X Á σ H s) (r:eV vs us) (h:sp (vs++ϰ) H Q E):wpAny (â X.prog X.w) X.A (call (.ref f) us) (EP X Á σ Q) X.xe s:=by
 have r2:eV (vs++ϰ)<|us++ds:=r.append hd;have hl:(us++ds).length=ps.length:=by rw[<-r2.length];exact F.len _ _ _ _ h
 refine wpAny_call<|af (F.run X.A X.stack s H ⟨us,[]⟩ (us++ds) (vs++ϰ) Q E hr I.env0 (hb s us I.kIn hl) r2 h) λr s' hq=>?_;cases r with
 |error e=>exact hx Á σ H s e s' I hq
 |ok fl =>
  cases fl with
  |ret u=>exact I.after hq
  |next=>exact Ĵ hq
  |brk=>exact Ĵ hq
  |cont=>exact Ĵ hq
def Fk(F:dY X.prog X.w X.K X.mg X.base CX k f fd ps sp)(hr:dX k X.A)(hg:Gl X x)(hm:X.mg x=df (.ref f))(hk:PySem.W.keepIn X.K (.ref f)=dh)(hb:Binds X.K fd ps ds)(hd:eV ϰ ds)(hx:Y4 CX X E)
  (ha:PA X (e::es) t) (bM:(x==("__debug__" : Str))=di:=by decide) (he:Ó (e::es) X.env=(di,eval e X.env)::Ó es X.env:=by rfl) (hpl:(Ē ç<|Ó es X.env).any (·.1)=di:=by rfl) :
  PE X (.Call (.Name x p) (e::es) [] ç) (GV sp ϰ E t):=by
 intro Á s σ H Q I h;refine Ň<|W3 I hg hm ?_ bM;refine PySem.W.callWith_K (h₀:=X.base) I.ok.mod.kin hk (thn (ha ç Á s σ H _ I h) λus s1 ⟨vs,H1,I1,r,q⟩=>⟨I1.kIn,?_⟩) he hpl;exact Ml F hr hb hd hx I1 r q
def Cf(F:dY X.prog X.w X.K X.mg X.base CX k f fd ps sp)(hr:dX k X.A)(hg:Gl X x)(hm:X.mg x=df (.ref f))(hk:PySem.W.keepIn X.K (.ref f)=dh)(hb:Binds X.K fd ps ds)(hd:eV ϰ ds)(hx:Y4 CX X E)
  (bM:(x==("__debug__" : Str))=di:=by decide):PE X (.Call (.Name x p) [] [] ç)<|GV sp ϰ E LM:=by
 intro Á s σ H Q I h;refine Ň<|W3 I hg hm ?_ bM;exact PySem.W.callWith_K0 I.kIn hk<|Ml (us:=[]) F hr hb hd hx I .nil h
variable {pl:Sem Bool}
def EX(he:PE X o ta)(c:Cls X.K C)(hm:Meth X.K C m f)(F:dY X.prog X.w X.K X.mg X.base CX k f fd ps sp)(hr:dX k X.A)(hb:Binds X.K fd ps ds)(hd:eV ϰ ds)(hx:Y4 CX X E)(ha:PA X (e::es) t)
  (ŭ:Ó (e::es) X.env=(di,eval e X.env)::Ó es X.env:=by rfl) (hpl:(Ē ç<|Ó es X.env).any (·.1)=di:=by rfl)
  (ht:eval (.Call (.Attribute o m Ļ) (e::es) [] ç) X.env=(do
    let ov<-eval o X.env
    ο Ļ.atName
    let (f,first)<-ņ [ov] (Δ ov m pl)
    bx ç f first (Ē ç<|Ó (e::es) X.env) (ś ç<|Ĭ [] X.env)):=by rfl) :
  PE X (.Call (.Attribute o m Ļ) (e::es) [] ç) (GX C m sp ϰ E ta t):=by
 intro Á s σ H Q I h;refine PySem.W.methodCall_KW (pl:=pl) (thn (he Á s σ H _ I h) λu s1 ⟨x,H1,I1,rx,a,dx,fs,ex,ea,l,q⟩=>?_) ht;subst ex;obtain rfl:u=Value.ref a:=rx;refine JK I1 ea c hm l ?_;refine PySem.W.callWith_K (first:=[.ref a]) (h₀:=X.base) I.ok.mod.kin hm.kp (thn (ha ç Á s1 σ H1 _ I1 q) λus s2 ⟨vs,H2,I2,r,q2⟩=>⟨I2.kIn,?_⟩) ŭ hpl;exact Ml (us:=.ref a::us) (vs:=.ref a::vs) F hr hb hd hx I2 (.cons rfl r) q2
def Dx(he:PE X o ta)(c:Cls X.K C)(hm:Meth X.K C m f)(F:dY X.prog X.w X.K X.mg X.base CX k f fd ps sp)(hr:dX k X.A)(hb:Binds X.K fd ps ds)(hd:eV ϰ ds)(hx:Y4 CX X E)
  (ht:eval (.Call (.Attribute o m Ļ) [] [] ç) X.env=(do
    let ov<-eval o X.env
    ο Ļ.atName
    let (f,first)<-ņ [ov] (Δ ov m pl)
    bx ç f first (Ē ç<|Ó [] X.env) (ś ç<|Ĭ [] X.env)):=by rfl) :
  PE X (.Call (.Attribute o m Ļ) [] [] ç) (GX C m sp ϰ E ta LM):=by
 intro Á s σ H Q I h;refine PySem.W.methodCall_KW (pl:=pl) (thn (he Á s σ H _ I h) λu s1 ⟨x,H1,I1,rx,a,dx,fs,ex,ea,l,q⟩=>?_) ht;subst ex;obtain rfl:u=Value.ref a:=rx;refine JK I1 ea c hm l ?_;exact PySem.W.callWith_K0 (first:=[.ref a]) I1.kIn hm.kp<|Ml (us:=[.ref a]) (vs:=[.ref a]) F hr hb hd hx I1 (.cons rfl .nil) q
structure Mk(K:Frag)(C f:Ì):Prop where
 makes:PySem.W.makesIn K C=dh
 init:PySem.W.findIn K (.ref C) "__init__" = df (df<|.ref f)
 fn:PySem.W.isFn K (.ref f)=dh
 kp:PySem.W.keepIn K (.ref C)=dh
def Db(M:Mk X.K C f)(F:dY X.prog X.w X.K X.mg X.base CX k f fd ps sp)(hr:dX (k+1) X.A)(hb:Binds X.K fd ps ds)(hd:eV ϰ ds)
  (hx:Y4 CX X E) (I:Inv X Á σ H s) (r:eV vs us)
  (h:∀x dx,H x=dg->H dx=dg->dx≠x->sp (.ref x::(vs++ϰ)) (upd (upd H dx<|.own x) x<|.ins C dx []) (λv H2=>v=.non/\Q (.ref x) H2) E) :
  wpAny (â X.prog X.w) X.A (call (.ref C) us) (EP X Á σ Q) X.xe s:=by
 have hq:=h (s.heap.objs.size+1) s.heap.objs.size (I.hok.fresh<|Ŭ _) (I.hok.fresh<|Ï _)<|ì<|Č _;have I2:=Inv.made (C:=C) I;have r2:eV (V.ref (s.heap.objs.size+1)::(vs++ϰ))<|Value.ref (s.heap.objs.size+1)::(us++ds):=.cons rfl<|r.append hd;have hl:(Value.ref (s.heap.objs.size+1)::us++ds).length=ps.length:=by have e:=r2.length;rw[F.len _ _ _ _ hq]at e;exact e.symm
 refine wpAny_call (DP (f:=f) I.kIn M.makes M.init (beq_iff_eq.mp M.fn) (af (F.run _ X.stack _ _ ⟨Value.ref (s.heap.objs.size+1)::us,[]⟩ (Value.ref (s.heap.objs.size+1)::(us++ds)) _ _ E (hr.make C us [])
   (I2.env0.make C us []) (hb _ (Value.ref (s.heap.objs.size+1)::us) I2.kIn hl) r2 hq) λr s' cK=>?_))
 cases r with
 |error e=>exact hx Á σ _ _ e s' I2 cK
 |ok fl =>
  cases fl with
  |ret u =>let⟨v,H',I3,rv,ev,q3⟩:=I2.after cK;subst ev;exact⟨rv,⟨V.ref<|s.heap.objs.size+1,H',I3,rfl,q3⟩⟩
  |next=>exact Ĵ cK
  |brk=>exact Ĵ cK
  |cont=>exact Ĵ cK
def EU(M:Mk X.K C f)(F:dY X.prog X.w X.K X.mg X.base CX k f fd ps sp)(hr:dX (k+1) X.A)(hg:Gl X x)(hm:X.mg x=df (.ref C))(hb:Binds X.K fd ps ds)(hd:eV ϰ ds)(hx:Y4 CX X E)
  (ha:PA X (e::es) t) (bM:(x==("__debug__" : Str))=di:=by decide) (he:Ó (e::es) X.env=(di,eval e X.env)::Ó es X.env:=by rfl) (hpl:(Ē ç<|Ó es X.env).any (·.1)=di:=by rfl) :
  PE X (.Call (.Name x p) (e::es) [] ç) (Po C sp ϰ E t):=by
 intro Á s σ H Q I h;refine Ň<|W3 I hg hm ?_ bM;refine PySem.W.callWith_K (h₀:=X.base) I.ok.mod.kin M.kp (thn (ha ç Á s σ H _ I h) λus s1 ⟨vs,H1,I1,r,q⟩=>⟨I1.kIn,?_⟩) he hpl;exact Db M F hr hb hd hx I1 r q
end
structure FnScope(N P:List Str)(sc:Ů):Prop where
 kind:sc.kind=.function
 co:sc.isCoroutine=di
 gen:sc.isGenerator=di
 nd:N.Nodup
 pre:N.take P.length=P
 par:∀x∈P,sc.names.lookup x=df .local\/sc.names.lookup x=df .cell
 nofree:∀y∈sc.names,y.2≠.free
def KO{ŷ:Str->Option Ε}{x:Str}:∀{binds:List (Str×Â)}{m:Str->Option Â},(∀v,(x,v)∉binds)->bindL ŷ binds m x=m x
 |[],_,_=>rfl
 |(n,v)::r,m,h=>by
  unfold bindL;rw[KO λw hw=>h w<|ß _ hw];split
  .have:x≠n:=by rintro rfl;exact h v ñ
   simp[this]
  .rfl
def KK{ŷ:Str->Option Ε}{x:Str}:∀{binds:List (Str×Â)}{m:Str->Option Â},(∀v,(x,v)∉binds)->cC ŷ binds m x=m x
 |[],_,_=>rfl
 |(n,v)::r,m,h=>by
  unfold cC;rw[KK λw hw=>h w<|ß _ hw];split
  .rfl
  .have:x≠n:=by rintro rfl;exact h v ñ
   simp[this]
def Ko{ŷ:Str->Option Ε}{x:Str}{v:Â}:∀{P:List Str}{vs:List Â}{i:Nat}{m:Str->Option Â},P.Nodup->P[i]?=df x->vs[i]?=df v->ŷ x=df .local->
  bindL ŷ (P.zip vs) m x=df v
 |[],_,_,_,_,h,_,_=>by simp at h
 |_::_,[],_,_,_,_,h,_=>by simp at h
 |p::P,w::vs,0,m,nd,h1,h2,hk=>by simp at h1 h2;subst h1;subst h2;show bindL ŷ ((p,w)::P.zip vs) m p=_;unfold bindL;rw[KO λv hv=>(Ą.mp nd).1 (Ϲ hv).1,ff hk];simp
 |p::P,w::vs,i+1,m,nd,h1,h2,hk=>by show bindL ŷ ((p,w)::P.zip vs) m x=_;unfold bindL;exact Ko (i:=i) (Ą.mp nd).2 ⇑h1 ⇑h2 hk
def Kw{ŷ:Str->Option Ε}{x:Str}{v:Â}:∀{P:List Str}{vs:List Â}{i:Nat}{m:Str->Option Â},P.Nodup->P[i]?=df x->vs[i]?=df v->ŷ x≠df .local->
  cC ŷ (P.zip vs) m x=df v
 |[],_,_,_,_,h,_,_=>by simp at h
 |_::_,[],_,_,_,_,h,_=>by simp at h
 |p::P,w::vs,0,m,nd,h1,h2,hk=>by simp at h1 h2;subst h1;subst h2;show cC ŷ ((p,w)::P.zip vs) m p=_;unfold cC;rw[KK λv hv=>(Ą.mp nd).1 (Ϲ hv).1,fg hk];simp
 |p::P,w::vs,i+1,m,nd,h1,h2,hk=>by show cC ŷ ((p,w)::P.zip vs) m x=_;unfold cC;exact Kw (i:=i) (Ą.mp nd).2 ⇑h1 ⇑h2 hk
abbrev start(N:List Str)(vs:List V):St:=vs.map df++Õ (N.length - vs.length) dg
abbrev Mu(CX:CXT)(P:ë)(w:Ă)(K:Frag)(mg:Str->Option Â)(base:ċ)(N:List Str)(qual:Str)(scope:Ů)(f:Ì)(cd:Â)(A:Ğ)(outer:List Env)(s:Å)(H:Hp)(E:XK):Cx where
 prog:=P
 w:=w
 K:=K
 mg:=mg
 base:=base
 A:=A.deeper<|Ϫ qual scope s.heap.objs.size f cd
 N:=N
 s₀:=s
 H₀:=H
 env:=Ϫ qual scope s.heap.objs.size f cd
 outer:=outer
 stack:=Ϫ qual scope s.heap.objs.size f cd::outer
 ex:=[]
 calm:=dh
 fn:=λ_=>dh
 pn:=[]
 xe:=λe s'=>wpAny (â P w) (A.deeper<|Ϫ qual scope s.heap.objs.size f cd) (leaving (Ϫ qual scope s.heap.objs.size f cd) e) (λ_ s''=>CX outer H s E e s'') (λe' s''=>CX outer H s E e' s'') s'
def NK{sc:Ů}{n:Nat}{x:Str}(h:sc.names.lookup x=df .cell):∃c,(cellsFrom n sc.names []).lookup x=df c:=by have q:=PySem.W.cellsFrom_some sc.names n []<|.inl h;exact î.mp q
variable {CX:CXT} {N:List Str} {qual:Str} {scope:Ů} {f:Ì}
def U8{K:Frag}{cd:Â}{s1:Å}{E:XK}{vs:List V}
  (S:FnScope N ps scope) (hd:A.handled=dg) (e0:Env0 P w K mg base A outer s H) (hl:vs.length=ps.length) (r:eV vs us)
  (x:InCallC s s.heap.objs.size (bindL (Ϫ qual scope s.heap.objs.size f cd).kindOf (ps.zip us) λ_=>dg) (cellsFrom (s.heap.objs.size+1) scope.names []) (cC (Ϫ qual scope s.heap.objs.size f cd).kindOf (ps.zip us) λ_=>dg) s1) :
  Inv (Mu CX P w K mg base N qual scope f cd A outer s H E) [] (start N vs) H s1:=by
 have hpl:ps.length<=N.length:=by have:=congrArg List.length S.pre;rw[Ĕ]at this;lia
 let⟨h1,tk,rfl,hk⟩:=x.done;have noA:∀b:Ì,b∉(Mu CX P w K mg base N qual scope f cd A outer s H E).ex:=λb z=>fk (show b∈([]:List Ì) from z) (by simp);refine⟨⟨e0.mod,S.kind,rfl,rfl,Ï _,λy z c h1 h2=>?_,λy hy=>?_,λy c _ h=>?_,λ_=>hd,Around.frames_deeper e0.frames,.inr ⟨rfl,rfl⟩,λb z=>fk z<|noA b,e0.bs,e0.bsz,λb _ _=>noA b,λb z=>fk z<|noA b,e0.funs,e0.frf⟩,
   rfl,e0.bare,Un.kept hk,⟨_,x.toInCall.ns,λi y v h1 h2 h3=>?_⟩,λy c h=>⟨_,x.cell y c h⟩,e0.hok.fresh<|Ï _,λy c h=>?_,λp hp=>fk (show p∈([]:List<|Ì×Obj) from hp) (by simp),e0.hok.kept hk,?_⟩
 .exact name_of_addr x.apart (PySem.mem_of_lookup h1)<|PySem.mem_of_lookup h2
 .have hy:scope.names.lookup y=df .cell\/scope.names.lookup y=df .free:=hy;rcases hy with hy|hy
  .exact NK hy
  .exact fk rfl<|S.nofree _<|PySem.mem_of_lookup hy
 .exact ρ<|x.above y c<|PySem.mem_of_lookup h
 .have hi:i<vs.length:=by
   unfold start at h2;by_cases hi:i<vs.length
   .exact hi
   .rw[ć<|by simpa using hi]at h2;rw[ļ]at h2;split at h2<;>cases h2
  have ha:vs[i]?=df v:=by
   unfold start at h2;rw[ā ⇑hi,Ø]at h2;cases e:vs[i]? with
   |none=>rw[e]at h2;cases h2
   |some a=>rw[e]at h2;cases h2;rfl
  let⟨u,hu,rv⟩:=r.get ha;have hp:ps[i]?=df y:=by rw[<-S.pre,List.getElem?_take_of_lt<|by lia];exact h1
  have ndP:ps.Nodup:=by rw[<-S.pre];exact S.nd.sublist<|List.take_sublist _ _
  refine⟨u,rv,?_⟩;rcases S.par y (è hp)with k|k
  .exact .inl ⟨k,Ko ndP hp hu k⟩
  .obtain⟨c,e⟩:=NK (n:=s.heap.objs.size+1) k;refine .inr ⟨.inl k,c,e,?_⟩;have q:=x.cell y c e;rw[Kw ndP hp hu<|by show scope.names.lookup y≠_;rw[k];decide]at q;exact q
 .exact e0.hok.fresh<|ρ<|x.above y c<|PySem.mem_of_lookup h
 .unfold start;show _=N.length;rw[ã,À,õ];lia
def Ph{K:Frag}{k:Nat}{name:Str}{params:Arguments}{body:List ĭ}{dV kV doc pm Ρ ct oc:Â}{an od:Option Ì}
  {osl:Array (Option Â)}  {sp:Sp}(lk:K.lookup f=df ⟨oc,od,.func<|PySem.W.fnOf name qual params body scope dV kV doc pm an Ρ ct,osl⟩) (av:PySem.W.codeIn K Ρ qual=dh) (S:FnScope N ps scope)
  (len:∀vs H Q E,sp vs H Q E->vs.length=ps.length)
  (hbody:∀(A:Ğ) (outer:List Env) (s:Å) (H:Hp) (vs:List V) (Q:VK) (E:XK),dX k (A.deeper<|Ϫ qual scope s.heap.objs.size f Ρ)->sp vs H Q E->
    ∃t,PSs (Mu CX P w K mg base N qual scope f Ρ A outer s H E) body t/\t { nx:=λ_ H'=>Q .non H',rt:=Q } (start N vs) H) :
  dY P w K mg base CX (k+1) f (PySem.W.fnOf name qual params body scope dV kV doc pm an Ρ ct) ps sp:=by
 refine⟨len,λA outer s H args us vs Q E hr e0 hb r hsp=>?_⟩;have hl:=len _ _ _ _ hsp;have KX:K.In s.heap:=e0.mod.kin.keeps λb o e=>(e0.bs b o e).1;have lim:s.heap.NoLimit:=e0.mod.nolimit.keeps λb o e=>(e0.bs b o e).1;have hkind:∀y∈ps.zip us,scope.names.lookup y.1=df .local\/(scope.names.lookup y.1=df .cell/\((cellsFrom (s.heap.objs.size+1) scope.names []).lookup y.1).isSome=dh):=λ⟨n,v⟩ hy=>by
  rcases S.par n (Ϲ hy).1 with q|q
  .exact .inl q
  .exact .inr ⟨q,PySem.W.cellsFrom_some _ _ _<|.inl q⟩
 refine codeAny_call_function hr.depth (KX _ _ lk) rfl S.co S.gen rfl (PySem.W.codeRec_of KX av)<|hb _ _ _ _ ?_;refine wpAny_newFunctionEnv_cells S.kind hkind λenv he s1 x=>?_;subst he;refine⟨lim.keeps x.toInCall.keep,codeAny_func ?_⟩;let⟨t,ht,hq⟩:=hbody A outer s H vs Q E (hr.deeper _) hsp;have I:Inv (Mu CX P w K mg base N qual scope f Ρ A outer s H E) [] (start N vs) H s1:=U8 S hr.hd e0 hl r x;refine Ņ (ht [] s1 (start N vs) H _ I hq) (λfl s' hs=>?_) λe s' hs=>hs;have fin:∀{Ń:St}{H':Hp}{v:V}{u:Â},Inv (Mu CX P w K mg base N qual scope f Ρ A outer s H E) [] Ń H' s'->RelV v u->Q v H'->CE outer P w H s Q u s' :=
  λ{Ń H' v u} J rv q=>⟨v,H',J.os,J.bare,J.base,J.hok,rv,q⟩
 cases fl with
 |ret u =>let⟨v,Ń,H',J,rv,q⟩:=hs;exact fin J rv q
 |next =>let⟨Ń,H',J,q⟩:=hs;exact fin (v:=V.non) (u:=Value.none) J rfl q
 |brk =>let⟨_,_,_,q⟩:=hs;exact Ĵ q
 |cont =>let⟨_,_,_,q⟩:=hs;exact Ĵ q
section
variable {X:Cx}{x:Str}{p ç:Pos}{e:Expr}{es:List Expr}{t:TA}{id T:String}{r:List V->Hp->VK->Prop}
abbrev tCB(r:List V->Hp->VK->Prop)(t:TA):TE:=λσ H Q=>t σ H λvs H1=>r vs H1 Q
def ZC(hc:dA X (.builtin id) r)(hg:Gl X x)(hm:X.mg x=dg)(hv:Ŕ x=df (.builtin id))(ha:PA X (e::es) t)(hn:x≠"__name__":=by decide)(bM:(x==("__debug__" : Str))=di:=by decide)
  (he:Ó (e::es) X.env=(di,eval e X.env)::Ó es X.env:=by rfl) (hpl:(Ē ç<|Ó es X.env).any (·.1)=di:=by rfl):PE X (.Call (.Name x p) (e::es) [] ç)<|tCB r t:=by
 intro Á s σ H Q I h;refine Ň<|XI I hg hm hv ?_ hn bM;exact PyProof.Rows.callWith_builtin1 (thn (ha ç Á s σ H _ I h) λus s1 ⟨vs,H1,I1,r1,q1⟩=>hc Á s1 σ H1 vs us Q I1 r1 q1) he hpl
def Xq(hc:dA X (.type T) r)(hg:Gl X x)(hm:X.mg x=dg)(hv:Ŕ x=df (.type T))(ha:PA X (e::es) t)(hn:x≠"__name__":=by decide)(bM:(x==("__debug__" : Str))=di:=by decide)
  (he:Ó (e::es) X.env=(di,eval e X.env)::Ó es X.env:=by rfl) (hpl:(Ē ç<|Ó es X.env).any (·.1)=di:=by rfl):PE X (.Call (.Name x p) (e::es) [] ç)<|tCB r t:=by
 intro Á s σ H Q I h;refine Ň<|XI I hg hm hv ?_ hn bM;exact PyProof.Rows.callWith_type1 (thn (ha ç Á s σ H _ I h) λus s1 ⟨vs,H1,I1,r1,q1⟩=>hc Á s1 σ H1 vs us Q I1 r1 q1) he hpl
end
end L2
namespace HT
open PySem PyProof.Rows
abbrev lexLt:List Int->List Int->Bool
 |[],[]=>di
 |[],_::_=>dh
 |_::_,[]=>di
 |x::xs,y::ys=>if x=y then lexLt xs ys else fm (x<y)
def lexLt_cons(x y:Int)(xs ys:List Int):lexLt (x::xs) (y::ys)=if x=y then lexLt xs ys else fm (x<y):=rfl
def Kl:lexLt [] []=di:=rfl
def Jd(y:Int)(ys:List Int):lexLt [] (y::ys)=dh:=rfl
def J0(x:Int)(xs:List Int):lexLt (x::xs) []=di:=rfl
def eqAt_int(A:Ğ)(s:Å)(a:Int)(t:Tok)(c:Int)(u:Tok):∃e,SeqAt.EqAt A s (.int a t) (.int c u) e/\(e=dh↔a=c) :=
 ⟨(a==c),SeqAt.EqAt.int_int a t c u,by simp⟩
def B6(A:Ğ)(s:Å)(a:Int)(t:Tok)(c:Int)(u:Tok)(prog:ë)(w:Ă)(E:Â->Å->Prop)(Q:Â->Å->Prop)(h:Q (.bool<|fm (a<c)) s) :
  wpAny (â prog w) A (richCompare .Lt (.int a t)<|.int c u) Q E s :=
 (PyProof.Rows.lt_int h:wpAny (â prog w) A (é .Lt (.int a t)<|.int c u) Q E s)
section
open PySem.SeqAt
open PySem.AutoSeq1 (wpAny_loadPart')
open PySem.MeetsSeq PySem.MeetsSeq2 PySem.MeetsSeq3
def Kj(l b:Ì)(items ı:Array Â)(n n2:Nat)(dd bZ:Option Ì)(sl cL:Array<|Option Â)(ns ms:List Int)(hi:Ě items.toList ns)(hj:Ě ı.toList ms) :
  Meets (Builtin.«tuple.__lt__» ⟨[.ref l,.ref b],[]⟩)
   (λ_ R s=>s.heap.get? l=df { cls:=.type "tuple",dict:=dd,data:=.seq items n,slots:=sl }/\s.heap.get? b=df { cls:=.type "tuple",dict:=bZ,data:=.seq ı n2,slots:=cL }/\
     R (.ok<|.ret<|.bool<|lexLt ns ms) s) :=
 .of_wp λprog w A R s h=>by
  let⟨hp,g,d,tk,os⟩:=s;let⟨hl,hb,h⟩:=h;have f2:=AutoSeq1.sub_tuple_tuple;have z1:items.size=ns.length:=by rw[<-hi.length];simp
  have z2:ı.size=ms.length:=by rw[<-hj.length];simp
  wp_walk using ĕ hl,ĕ hb,wpAny_forIn_list _ (λrest b s'=>b.1=dg/\s'=⟨hp,g,d,tk,os⟩/\∃(vs ws:List Â) (bN cx:List Int),rest=vs.zip ws/\
    Ě vs bN/\Ě ws cx/\bN.length+ı.size=cx.length+items.size/\R (.ok<|.ret<|.bool<|lexLt bN cx) ⟨hp,g,d,tk,os⟩) _
  case turn =>
   rintro⟨y,x⟩ rest b s' ⟨b6,rfl,vs,ws,bN,cx,hz,hvi,hwi,hlen,hR⟩;cases hvi with
   |nil=>rw[ż]at hz;cases hz
   |cons a t hvi' =>
    cases hwi with
    |nil=>rw[Ŷ]at hz;cases hz
    |cons c u hwi' =>
     rw[Ŀ]at hz;injection hz with hyx hrest;injection hyx with hy hx;subst hy hx;rw[lexLt_cons]at hR;simp only[Ç]at hlen;let⟨e,he,hiff⟩:=eqAt_int A.in1 ⟨hp,g,d,tk,os⟩ a t c u;refine Ã<|he prog w _ _ ?_;cases e with
     |true =>
      rw[ff<|hiff.mp rfl]at hR
      wp_walk
      exact⟨rfl,rfl,_,_,_,_,hrest,hvi',hwi',by lia,hR⟩
     |false =>
      rw[fg λq=>fk (hiff.mpr q) ø]at hR;have hri:=B6 A.in1 ⟨hp,g,d,tk,os⟩ a t c u prog w
      wp_walk using hri
      exact⟨_,rfl,⇑hR⟩
  case fin =>
   rintro⟨b1,b2⟩ s' ⟨b6,rfl,vs,ws,bN,cx,hz,hvi,hwi,hlen,hR⟩;simp only at b6;subst b6;have hv:lexLt bN cx=fm (items.size<ı.size):=by
    cases hvi with
    |nil =>
     cases hwi with
     |nil =>simp only[ğ]at hlen;rw[Kl];exact(fh<|by lia).symm
     |cons c u hw =>simp only[ğ,Ç]at hlen;rw[Jd];exact(fi<|by lia).symm
    |cons a t hv =>
     cases hwi with
     |nil =>simp only[ğ,Ç]at hlen;rw[J0];exact(fh<|by lia).symm
     |cons c u hw =>rw[Ŀ]at hz;cases hz
   rw[hv]at hR
   wp_walk
   exact⟨_,rfl,by simpa[Builtin.Tuple.tupleCompareSizes]using hR⟩
  case h =>exact⟨rfl,rfl,items.toList,ı.toList,ns,ms,rfl,hi,hj,by lia,h⟩
end
section
variable {prog:ë}{w:Ă}{A:Ğ}{E:Â->Å->Prop}{s:Å}
variable {b:Ì} {items:Array Â} {Q:Â->Å->Prop}
def lt_tupInts{l:Ì}{ı:Array Â}{ns ms:List Int}(hl:ϣ s.heap l items)(hb:ϣ s.heap b ı)(hi:Ě items.toList ns)(hj:Ě ı.toList ms)
  (hu:A.units<Ĥ) (h:Q (.bool<|lexLt ns ms) s):wpAny (â prog w) A (é .Lt (.ref l)<|.ref b) Q E s:=by
 let⟨⟨cls,dd,data,sl⟩,ho,hc,n,hd⟩:=id hl;let⟨⟨cls2,bZ,data2,cL⟩,ho2,hc2,n2,aT⟩:=id hb;simp only at hc hd hc2 aT;subst hc hd hc2 aT;exact cQ (op:=.Lt) ⟨_,ho,rfl⟩ ⟨_,ho2,rfl⟩ PySem.F.slot_tuple_lt PySem.F.entry_tuple_lt (PySem.F.args_tuple_lt_2 _ _) (Kj l b items ı n n2 dd bZ sl cL ns ms hi hj)
  ⟨ho,ho2,show Value.bool (lexLt ns ms)≠bz/\Q (.bool<|lexLt ns ms) s from ⟨(λx=>nomatch x),h⟩⟩ hu
def cat_tup{t:Ì}{vs ws:List Â}(ht:ϣ s.heap t vs.toArray)(hb:ϣ s.heap b ws.toArray)(hv:vs≠[])
  (h1:ws=[]->Q (.ref t) s) (h2:ws≠[]->Q (.ref s.heap.objs.size) {s with heap:=s.heap.push {cls:=.type "tuple",data:=.seq (vs++ws).toArray}})
  (hsz:vs.length+ws.length<=Ü):wpAny (â prog w) A (Ķ .Add (.ref t)<|.ref b) Q E s:=by
 let⟨⟨cls,dd,data,sl⟩,ho,hc,n,hd⟩:=id ht;let⟨⟨cls2,bZ,data2,cL⟩,ho2,hc2,n2,aT⟩:=id hb;simp only at hc hd hc2 aT;subst hc hd hc2 aT;have e:vs.toArray++ws.toArray=(vs++ws).toArray:=by simp
 by_cases hw:ws=[]
 .exact cR ⟨_,ho,rfl⟩ ⟨_,ho2,rfl⟩ aB cf PySem.F.slot_tuple_add PySem.F.entry_tuple_add (PySem.F.args_tuple_add_2 _ _)
   (tuple_addW1 t b vs.toArray ws.toArray n n2 dd bZ sl cL ⇑hv<|by simp[hw]) ⟨ho,ho2,h1 hw⟩
 .refine cR ⟨_,ho,rfl⟩ ⟨_,ho2,rfl⟩ aB cf PySem.F.slot_tuple_add PySem.F.entry_tuple_add (PySem.F.args_tuple_add_2 _ _)
   (tuple_addW2 t b vs.toArray ws.toArray n n2 dd bZ sl cL ⇑hv ⇑hw<|by rw[É,É];exact hsz) ⟨ho,ho2,?_⟩
  rw[e];exact h2 hw
abbrev sIx(n d:Nat):Option Int->Nat
 |none=>d
 |some v=>if v<0 then(v+(n:Int)).toNat else min v.toNat n
def IX(n d:Nat)(hd:d<=n)(o:Option Int):sIx n d o<=n:=by
 cases o with
 |none=>exact hd
 |some v =>
  show(if v<0 then(v+(n:Int)).toNat else min v.toNat n)<=n;by_cases hv:v<0
  .rw[ff hv];lia
  .rw[fg hv];exact ϫ _ _
def clip_eq(v:Int)(n d:Nat):(if v<0 then max (v+(n:Int)) 0 else min v (n:Int))=((sIx n d (df v):Nat):Int):=by
 show(if v<0 then max (v+(n:Int)) 0 else min v (n:Int))=(((if v<0 then(v+(n:Int)).toNat else min v.toNat n):Nat):Int)
 by_cases hv:v<0
 .simp only[ff hv];lia
 .simp only[fg hv];lia
def N6(lo hi:Option Int)(n:Nat):Builtin.Slice.sliceAdjust lo hi 1 (n:Int)=(((sIx n 0 lo:Nat):Int),((sIx n n hi:Nat):Int)):=by
 have h1:¬ ((1:Int)<0):=by lia
 unfold Builtin.Slice.sliceAdjust;simp only[h1,if_false];refine Prod.ext ?_ ?_
 .cases lo with
  |none=>rfl
  |some v=>exact clip_eq v n 0
 .cases hi with
  |none=>rfl
  |some v=>exact clip_eq v n n
def O0(i j:Nat):Builtin.Slice.slicePlaces (i:Int) (j:Int) 1=j - i:=by
 unfold Builtin.Slice.slicePlaces;have h1:(1:Int) > 0:=by lia
 simp only[h1,if_true,Int.ediv_one];split<;>lia
def JN{v:Â}{o:Option Int}{Q:Option Int->Å->Prop}(p:ψ v o)(h:Q o s):wpAny (â prog w) A (Builtin.Slice.slicePartIndex v) Q E s:=by
 cases p with
 |none=>exact slicePart_none h
 |int i t=>exact slicePart_int h
variable {sl:Ì} {vl:Â} {vu:Â} {lo:Option Int} {hi:Option Int}
def Yz{n:Nat}{Q:Int×Int×Nat->Å->Prop}(hs:s.heap.IsSliceOf sl vl vu .none)(pl:ψ vl lo)(pu:ψ vu hi)
  (h:Q (((sIx n 0 lo:Nat):Int),1,sIx n n hi - sIx n 0 lo) s):wpAny (â prog w) A (Builtin.Slice.sliceApplied (.ref sl)<|pure (n:Int)) Q E s:=by
 let⟨os,hos,hcs,hds⟩:=id hs;unfold Builtin.Slice.sliceApplied Builtin.Slice.sliceFields;refine Ã<|Ã<|ĸ hos hds (x:=vl) rfl<|Ã<|ĸ hos hds (x:=vu) rfl<|Ã<|ĸ hos hds (x:=.none) rfl<|Ù ?_;refine Ã<|slicePart_none ?_;show wpAny _ _ (if((1:Int)==0)=dh then _ else _) _ _ s;rw[fg<|by decide];refine Ã<|JN pl<|Ã<|JN pu<|Ã<|Ù ?_;show wpAny _ _ (match Builtin.Slice.sliceAdjust lo hi 1 (n:Int)with|(lo,hi)=>pure (lo,(1:Int),Builtin.Slice.slicePlaces lo hi 1)) _ _ s;rw[N6 lo hi n];show wpAny _ _ (pure (((sIx n 0 lo:Nat):Int),(1:Int),Builtin.Slice.slicePlaces ((sIx n 0 lo:Nat):Int) ((sIx n n hi:Nat):Int) 1)) _ _ s;rw[O0];exact Ù h
def BR(xs:Array Â)(i k:Nat):((List.range k).filterMap λ(m:Nat)=>xs[((i:Int)+(m:Int)*1).toNat]?).toArray=((xs.toList.drop i).take k).toArray:=by
 have e:(λ(m:Nat)=>xs[((i:Int)+(m:Int)*1).toNat]?)=λm=>xs[i+m]?:=by
  funext m;have:((i:Int)+(m:Int)*1).toNat=i+m:=by lia
  rw[this]
 rw[e];have:=pick_run xs i k;rw[ύ]at this;have e2:((λx=>xs[x]?) ∘ λx=>i+x)=λm=>xs[i+m]?:=rfl;rw[e2]at this;rw[this]
def getItem_tuple_cut{t:Ì}(ht:ϣ s.heap t items)(hs:s.heap.IsSliceOf sl vl vu .none)(pl:ψ vl lo)(pu:ψ vu hi)
  (hw:¬ (sIx items.size 0 lo=0/\sIx items.size items.size hi=items.size))
  (h:Q (.ref s.heap.objs.size) {s with heap:=s.heap.push {cls:=.type "tuple",data:=.seq ((items.toList.drop<|sIx items.size 0 lo).take<|sIx items.size items.size hi - sIx items.size 0 lo).toArray}})
  (hsz:items.size<=Ü):wpAny (â prog w) A (Ι (.ref t)<|.ref sl) Q E s:=by
 have b8:sizeOk<|.seq ((items.toList.drop<|sIx items.size 0 lo).take<|sIx items.size items.size hi - sIx items.size 0 lo).toArray:=by show((items.toList.drop<|sIx items.size 0 lo).take<|sIx items.size items.size hi - sIx items.size 0 lo).toArray.size<=Ü;rw[É,Ĕ,List.length_drop,ů];lia
 have hj:sIx items.size items.size hi<=items.size:=IX _ _ (Ï _) hi;let⟨os,hos,hcs,hds⟩:=id hs;have hTs:s.TypeIs (.ref sl) "slice":=⟨os,hos,hcs⟩
 unfold Ι
 try with_reducible refine ŋ ?_
 first|refine Ã (Ù ?_)|skip
 refine Ã (wpAny_sequenceKey ht.typeIs (by decide) ?_);refine Ã (ŀ (name:=fo "__getitem__") ht.typeIs PyProof.Rows.slot_tuple_getitem
   (ŕ PyProof.Rows.slot_tuple_getitem ht.typeIs entry_tuple_getitem ?_<|args_tuple_getitem _ _))
 show wpAny _ _ (Builtin.Tuple.tupleItemsOf (.ref t) >>= _) _ _ s;refine Ã<|tupleItemsOf_ ht ?_;refine Ã<|cS hTs ?_;rw[ff<|by decide];refine Ã<|Yz hs pl pu ?_;have hno:¬ ((((sIx items.size 0 lo:Nat):Int)==0&&(1:Int)==1&&(sIx items.size items.size hi - sIx items.size 0 lo)==items.size)=dh):=by intro q;rw[bAq,bAq]at q;have q1:((sIx items.size 0 lo:Nat):Int)=0:=eq_of_beq q.1.1;have q2:sIx items.size items.size hi - sIx items.size 0 lo=items.size:=eq_of_beq q.2;exact hw ⟨by lia,by lia⟩
 show wpAny _ _ (if(((sIx items.size 0 lo:Nat):Int)==0&&(1:Int)==1&&(sIx items.size items.size hi - sIx items.size 0 lo)==items.size)=dh then _ else _) _ _ s;rw[fg hno,BR]
 first
  |exact Ã (m:=Builtin.Tuple.tupleExact _)<|Ĺ (Ù ⟨_,rfl,Ù h⟩) b8
  |exact Ã (m:=Builtin.Tuple.tupleExact _)<|Ĺ (Ã<|Ù<|Ù ⟨_,rfl,Ù h⟩) b8
  |exact Ã<|Ã (m:=Builtin.Tuple.tupleExact _)<|Ĺ (Ù<|Ù ⟨_,rfl,Ù h⟩) b8
  |exact Ã<|Ã (m:=Builtin.Tuple.tupleExact _)<|Ĺ (Ù ⟨_,rfl,Ù h⟩) b8
end
end HT
namespace L2
open PySem PySem.Spec PyProof.Rows
noncomputable abbrev TO:=St->Hp->(Option Int->Hp->Prop)->Prop
abbrev PO(X:Cx)(e:Option Expr)(t:TO):Prop :=
 ∀(Á:List<|Ì×Obj) (s:Å) (σ:St) (H:Hp) (Q:Option Int->Hp->Prop),Inv X Á σ H s->t σ H Q->
  wpAny (â X.prog X.w) X.A (evalPart e X.env) (λu s'=>∃o H',Inv X Á σ H' s'/\ψ u o/\Q o H') X.xe s
abbrev Gr:TO:=λ_ H Q=>Q dg H
abbrev P6(t:TE):TO:=λσ H Q=>t σ H λx H1=>∃i,x=.int i/\Q (df i) H1
def ZJ{ns:List Int}:∀{us:List Â},eV (ns.map V.int) us->Ě us ns:=by
 induction ns with
 |nil=>intro us r;rw[Ų]at r;cases r;exact .nil
 |cons n ns ih =>
  intro us r;rw[Í]at r;cases r with
  |cons r1 r2 =>let⟨t,e⟩:=r1;subst e;exact .cons n t<|ih r2
section
variable {X:Cx}{e:Expr}{te:TE}{lo hi:Option Expr}{tl th:TO}{ç p2:Pos}
def po_none:PO X dg Gr:=by intro Á s σ H Q I h;rw[evalPart_none];exact Ù ⟨dg,H,I,.none,h⟩
def Fi(h:PE X e te):PO X (df e)<|P6 te:=by intro Á s σ H Q I hw;rw[evalPart_some];refine thn (h Á s σ H _ I hw) λu s1 ⟨x,H1,I1,r1,q1⟩=>?_;let⟨i,rfl,q⟩:=q1;let⟨t,rfl⟩:=r1;exact⟨df i,H1,I1,.int i t,q⟩
abbrev SlR(X:Cx)(r:V->Option Int->Option Int->Hp->VK->Prop):Prop :=
 ∀(Á:List<|Ì×Obj) (s:Å) (σ:St) (H:Hp) (x:V) (v vl vu:Â) (lo hi:Option Int) (sl:Ì) (Q:VK),Inv X Á σ H s->RelV x v->s.heap.IsSliceOf sl vl vu .none->ψ vl lo->ψ vu hi->r x lo hi H Q->
  ∃T id,typeLookup (.type T) "__getitem__" = pure (df<|.builtin id)/\s.TypeIs v T/\wpAny (â X.prog X.w) X.A (Ι v<|.ref sl) (EP X Á σ Q) X.xe s
variable {r:V->Option Int->Option Int->Hp->VK->Prop}
def SlR.or{r':V->Option Int->Option Int->Hp->VK->Prop}(h:SlR X r)(h':SlR X r'):SlR X λx lo hi H Q=>r x lo hi H Q\/r' x lo hi H Q:=by
 intro Á s σ H x v vl vu lo hi sl Q I rx hs pl pu q;rcases q with q|q
 .exact h Á s σ H x v vl vu lo hi sl Q I rx hs pl pu q
 .exact h' Á s σ H x v vl vu lo hi sl Q I rx hs pl pu q
abbrev tSl(r:V->Option Int->Option Int->Hp->VK->Prop)(te:TE)(tl th:TO):TE:=λσ H Q=>te σ H λx H1=>tl σ H1 λl H2=>th σ H2 λu H3=>r x l u H3 Q
def CI(hr:SlR X r)(he:PE X e te)(hl:PO X lo tl)(hu:PO X hi th):PE X (.Subscript e (.Slice lo hi dg p2) ç)<|tSl r te tl th:=by intro Á s σ H Q I h;refine Subscript_<|thn (he Á s σ H _ I h) λv s1 ⟨x,H1,I1,r1,q1⟩=>?_;refine wpAny_Slice<|thn (hl Á s1 σ H1 _ I1 q1) λvl s2 ⟨l,H2,I2,pl,q2⟩=>thn (hu Á s2 σ H2 _ I2 q2) λvu s3 ⟨u,H3,I3,pu,q3⟩=>?_;rw[evalPart_none];refine Ù ?_;have I4:Inv X Á σ H3 {s3 with heap:=s3.heap.push {cls:=.type "slice",data:=.fields #[vl,vu,.none]}}:=I3.kept (t':=s3.toks) λb ob q=>Ä _ q;let⟨T,id,hT,ht,hg⟩:=hr Á {s3 with heap:=s3.heap.push {cls:=.type "slice",data:=.fields #[vl,vu,.none]}} σ H3 x v vl vu l u s3.heap.objs.size Q I4 r1 (Heap.IsSliceOf.new ..) pl pu q3;show wpAny (â X.prog X.w) X.A (ϥ e (.Slice lo hi dg p2) v<|.ref s3.heap.objs.size) (EP X Á σ Q) X.xe {s3 with heap:=s3.heap.push {cls:=.type "slice",data:=.fields #[vl,vu,.none]}};exact tail_any (ops:=[.ref s3.heap.objs.size,v]) ht hT hg (by with_unfolding_all rfl)
abbrev K5(xs:List V)(lo hi:Option Int):List V:=(xs.drop<|HT.sIx xs.length 0 lo).take<|HT.sIx xs.length xs.length hi - HT.sIx xs.length 0 lo
def WE(xs:List V)(lo hi:Option Int):(K5 xs lo hi).length<=xs.length:=by unfold K5;rw[Ĕ,List.length_drop];lia
abbrev Qk(K:Frag):V->Option Int->Option Int->Hp->VK->Prop:=λx lo hi H Q=>∃a xs,x=.ref a/\eU K H a xs/\
 ¬ (HT.sIx xs.length 0 lo=0/\HT.sIx xs.length xs.length hi=xs.length)/\∀p,H p=dg->Q (.ref p) (upd H p<|.tup<|K5 xs lo hi)
def eC:SlR X<|Qk X.K:=by
 intro Á s σ H x v vl vu lo hi sl Q I rx hs pl pu h;let⟨a,xs,rfl,hx,hw,q⟩:=h;cases rx;let⟨ð,r,ht,hz⟩:=I.tuple hx;have hlen:ð.toArray.size=xs.length:=by rw[É];exact r.length.symm
 refine⟨"tuple",_,PyProof.Rows.slot_tuple_getitem.lookup,ht.typeIs,?_⟩;refine HT.getItem_tuple_cut ht hs pl pu (by rw[hlen];exact hw) ?_ (by rw[hlen];exact hz);rw[hlen];refine⟨.ref s.heap.objs.size,_,I.laid (t':=s.toks) (o:=.tup<|K5 xs lo hi) (λb ob q=>Ä _ q) (Ï _) ?_,rfl,q _<|I.hok.fresh<|Ï _⟩;exact⟨Ô (WE xs lo hi) hz,_,(r.drop<|HT.sIx xs.length 0 lo).take<|HT.sIx xs.length xs.length hi - HT.sIx xs.length 0 lo,IsTup.new _ _⟩
abbrev QL(K:Frag):R2:=λx y H Q=>∃a b ns ms,x=.ref a/\y=.ref b/\eU K H a (ns.map V.int)/\eU K H b (ms.map V.int)/\Q (.bl<|HT.lexLt ns ms) H
def Hv(hu:X.A.units<Ĥ):OpR X (é .Lt)<|QL X.K:=by intro Á s σ H x y v u Q I rx ry h;let⟨a,b,ns,ms,rfl,rfl,ha,hb,q⟩:=h;cases rx;cases ry;let⟨ð,r1,p1,_⟩:=I.tuple ha;let⟨ϱ,r2,p2,_⟩:=I.tuple hb;have i1:Ě ð.toArray.toList ns:=ZJ r1;have i2:Ě ϱ.toArray.toList ms:=ZJ r2;exact HT.lt_tupInts p1 p2 i1 i2 hu ⟨.bl<|HT.lexLt ns ms,H,I,rfl,q⟩
abbrev Hi(K:Frag):R2:=λx y H Q=>∃a b xs ys,x=.ref a/\y=.ref b/\eU K H a xs/\eU K H b ys/\xs≠[]/\xs.length+ys.length<=Ü/\
 (ys=[]->Q (.ref a) H)/\(ys≠[]->∀p,H p=dg->Q (.ref p) (upd H p<|.tup<|xs++ys))
def eV.nil_iff{xs:List V}{us:List Â}(r:eV xs us):us=[]↔xs=[]:=by
 cases r with
 |nil=>simp
 |cons _ _=>simp
def FB:OpR X (Ķ .Add)<|Hi X.K:=by intro Á s σ H x y v u Q I rx ry h;let⟨a,b,xs,ys,rfl,rfl,ha,hb,hx,hz,q1,q2⟩:=h;cases rx;cases ry;let⟨ð,r1,p1,_⟩:=I.tuple ha;let⟨ϱ,r2,p2,_⟩:=I.tuple hb;refine HT.cat_tup p1 p2 (λz=>hx<|r1.nil_iff.mp z) (λz=>⟨.ref a,H,I,rfl,q1<|r2.nil_iff.mp z⟩) (λz=>?_) (by rw[<-r1.length,<-r2.length];exact hz);refine⟨.ref s.heap.objs.size,_,I.laid (t':=s.toks) (o:=.tup<|xs++ys) (λb ob q=>Ä _ q) (Ï _) ?_,rfl,q2 (λw=>z<|r2.nil_iff.mpr w) _<|I.hok.fresh<|Ï _⟩;exact⟨by rw[ã];exact hz,_,r1.append r2,IsTup.new _ _⟩
end
abbrev ixN(n:Nat)(i:Int):Option Nat:=if 0<=i then(if i<n then df i.toNat else dg)else if -(n:Int)<=i then df (i+n).toNat else dg
variable {α:Type}
abbrev atI(xs:List α)(i:Int):Option α:=(ixN xs.length i).bind λj=>xs[j]?
variable {n:Nat} {i:Int}
def Mf{j:Nat}(h:ixN n i=df j):seqIndex? i n=df j/\j<n/\-(n:Int)<=i/\i<n:=by
 unfold ixN at h;by_cases h0:0<=i
 .rw[ff h0]at h;by_cases h1:i<n
  .rw[ff h1]at h;have e:i.toNat=j:=ï h;exact⟨by rw[aM h0 h1,e],by lia,by lia,h1⟩
  .rw[fg h1]at h;cases h
 .rw[fg h0]at h;by_cases h1:-(n:Int)<=i
  .rw[ff h1]at h;have e:(i+n).toNat=j:=ï h;exact⟨by rw[ah (by lia) h1,e],by lia,h1,by lia⟩
  .rw[fg h1]at h;cases h
def W4{xs:List α}{v:α}(h:atI xs i=df v):∃j,seqIndex? i xs.length=df j/\xs[j]?=df v/\j<xs.length/\-(xs.length:Int)<=i/\i<xs.length:=by
 unfold atI at h;cases e:ixN xs.length i with
 |none=>rw[e]at h;cases h
 |some j =>rw[e]at h;let⟨h1,h2,h3,h4⟩:=Mf e;exact⟨j,h1,h,h2,h3,h4⟩
abbrev MT(b:Expr):Prop:=∀o i,subscripted b di o i=operate [o,i] (Ι o i)
abbrev IxR(X:Cx)(r:R2):Prop :=
 ∀(ű slice:Expr) (Á:List<|Ì×Obj) (s:Å) (σ:St) (H:Hp) (x y:V) (v u:Â) (Q:VK),Inv X Á σ H s->RelV x v->RelV y u->r x y H Q->
  subscripted slice di v u=operate [v,u] (Ι v u)->wpAny (â X.prog X.w) X.A (ϥ ű slice v u) (EP X Á σ Q) X.xe s
abbrev MtR(X:Cx)(id:String)(r:V->List V->Hp->VK->Prop):Prop :=
 ∀(Á:List<|Ì×Obj) (s:Å) (σ:St) (H:Hp) (x:V) (xs:List V) (v:Â) (us:List Â) (Q:VK),Inv X Á σ H s->RelV x v->eV xs us->r x xs H Q->
  wpAny (â X.prog X.w) X.A (call (.builtin id)<|v::us) (EP X Á σ Q) X.xe s
section
variable {X:Cx}{a b:Expr}{ta tb:TE}{ç:Pos}
variable {r:R2}
def IxR.or{r':R2}(h:IxR X r)(h':IxR X r'):IxR X λx y H Q=>r x y H Q\/r' x y H Q:=by
 intro ű slice Á s σ H x y v u Q I rx ry q hs;rcases q with q|q
 .exact h ű slice Á s σ H x y v u Q I rx ry q hs
 .exact h' ű slice Á s σ H x y v u Q I rx ry q hs
def MtR.or{id:String}{r r':V->List V->Hp->VK->Prop}(h:MtR X id r)(h':MtR X id r'):MtR X id λx xs H Q=>r x xs H Q\/r' x xs H Q:=by
 intro Á s σ H x xs v us Q I rx rs q;rcases q with q|q
 .exact h Á s σ H x xs v us Q I rx rs q
 .exact h' Á s σ H x xs v us Q I rx rs q
def P5(hr:IxR X r)(ha:PE X a ta)(hb:PE X b tb)(hs:MT b):PE X (.Subscript a b ç)<|tOp r ta tb:=by intro Á s σ H Q I h;exact Subscript_ (Hu ha hb I h λv u s2 x y H2 I2 rx ry q=>hr a b Á s2 σ H2 x y v u Q I2 rx ry q<|hs _ _)
abbrev Dk(K:Frag):R2:=λx y H Q=>∃p xs i v,x=.ref p/\y=.int i/\eS K H p xs/\atI xs i=df v/\Q v H
abbrev Pn(K:Frag):R2:=λx y H Q=>∃p xs i v,x=.ref p/\y=.int i/\eU K H p xs/\atI xs i=df v/\Q v H
abbrev Pk:R2:=λx y H Q=>∃z i c,x=.str z/\y=.int i/\z.length<=Ü/\atI z.cps.toList i=df c/\Q (.str ⟨#[c]⟩) H
def ix_list:IxR X<|Dk X.K:=by
 intro ű slice Á s σ H x y v u Q I rx ry h hs;let⟨p,xs,i,z,rfl,rfl,hq,he,q⟩:=h;cases rx;let⟨t,rfl⟩:=ry;let⟨ð,r,pl,hz⟩:=I.list hq;let⟨j,h1,h2,h3,h4,h5⟩:=W4 he;let⟨w,ew,ao⟩:=r.get h2;have hl:=r.length;have hn:=Xl;have fin:EP X Á σ Q w s:=⟨z,H,I,ao,q⟩
 by_cases h0:0<=i
 .have hj:i.toNat=j:=by
   rw[aM h0 h5]at h1;exact ï h1
  exact item_listR pl.isList h0 (by lia) (by rw[hj];simpa using ew) fin hs
 .have hj:(i+(ð.toArray.size:Int)).toNat=j:=by
   rw[ah (by lia) h4]at h1;rw[É,<-hl];exact ï h1
  exact cT (x:=w) pl.isList.typeIs ai.lookup
   (cU (Q:=λr s'=>r=w/\EP X Á σ Q r s') pl.isList (by lia) (by rw[É]<;>lia) (by lia) (by rw[hj];simpa using ew) ⟨rfl,fin⟩) hs
def dy:IxR X<|Pn X.K:=by
 intro ű slice Á s σ H x y v u Q I rx ry h hs;let⟨p,xs,i,z,rfl,rfl,hq,he,q⟩:=h;cases rx;let⟨t,rfl⟩:=ry;let⟨ð,r,pl,hz⟩:=I.tuple hq;let⟨j,h1,h2,h3,h4,h5⟩:=W4 he;let⟨w,ew,ao⟩:=r.get h2;have hl:=r.length;have hn:=Xl;have fin:EP X Á σ Q w s:=⟨z,H,I,ao,q⟩
 exact cT (x:=w) pl.typeIs slot_tuple_getitem.lookup
  (getItem_tuple (j:=j) (Q:=λr s'=>r=w/\EP X Á σ Q r s') pl (by lia) (by lia) (by rw[É,<-hl];exact h1) ⇑ew ⟨rfl,fin⟩) hs
def Im:IxR X Pk:=by
 intro ű slice Á s σ H x y v u Q I rx ry h hs;let⟨z,i,c,rfl,rfl,hz,he,q⟩:=h;let⟨t,rfl⟩:=rx;let⟨t',rfl⟩:=ry;let⟨j,h1,h2,h3,h4,h5⟩:=W4 he;have hl:z.cps.toList.length=z.length:=by simp[Str.length]
 rw[hl]at h1 h4 h5;have hn:=Xl;exact tail_any (typeIs_str s z t) slot_str_getitem.lookup (getItem_str (c:=c) (by
   have e1:fm (i < -(2 ^ 63:Int))=di:=fh (by lia)
   have e2:fm (i≥2 ^ 63)=di:=fh (by lia)
   rw[e1,e2,aN]) (by rw[h1];simpa using h2) ⟨.str ⟨#[c]⟩,H,I.tok _,⟨_,rfl⟩,q⟩) hs
abbrev rIx(K:Frag):R2:=λx y H Q=>Dk K x y H Q\/Pn K x y H Q\/Pk x y H Q
def ix_seq:IxR X<|rIx X.K:=ix_list.or (dy.or Im)
def On(ð:List Â)(n j:Nat)(u:Â):ϓ (·.setIfInBounds j u) {cls:=.type "list",data:=.seq ð.toArray n}={cls:=.type "list",data:=.seq (ð.set j u).toArray n}:=by simp[ϓ]
def Inv.lst{Á:List (Ì×Obj)}{σ:St}{H:Hp}{s:Å}{p:Ì}{xs:List V}(I:Inv X Á σ H s)(h:H p=df (.lst xs)) :
  ∃(ð:List Â) (n:Nat),eV xs ð/\s.heap.get? p=df {cls:=.type "list",data:=.seq ð.toArray n}/\xs.length<=Ü:=by
 let⟨z,ð,n,r,e⟩:=I.hok p _ h;exact⟨ð,n,r,e,z⟩
variable {Á:List (Ì×Obj)} {σ:St} {H:Hp} {s:Å}
def Inv.lstUpd{p:Ì}{xs ys:List V}{ð its':List Â}{n':Nat}{f:Obj->Obj}(I:Inv X Á σ H s)(h:H p=df (.lst xs))
  (ho:s.heap.get? p=df {cls:=.type "list",data:=.seq ð.toArray n}) (hf:f {cls:=.type "list",data:=.seq ð.toArray n}={cls:=.type "list",data:=.seq its'.toArray n'}) (r:eV ys its') (hz:ys.length<=Ü) (t:Nat) :
  Inv X Á σ (upd H p<|.lst ys) {s with heap:=s.heap.update p f,toks:=t}:=by
 have e:(s.heap.update p f).get? p=df {cls:=.type "list",data:=.seq its'.toArray n'}:=by rw[ţ f ho (by rw[hf]<;>rfl),hf]
 refine I.write (x:=p) (e:=p) (by rw[h];trivial) (.inl rfl) (λb u hb q=>(ü _ _<|Ne.symm hb).trans q) ⟨_,e⟩ ?_;exact⟨hz,its',n',r,e⟩
abbrev GP:V->V->V->Hp->(Hp->Prop)->Prop:=λo i v H Q=>∃p xs k j,o=.ref p/\i=.int k/\H p=df (.lst xs)/\ixN xs.length k=df j/\Q (upd H p<|.lst<|xs.set j v)
def M7:PSet X GP:=by
 intro Á s σ H o i v ov iv u Q I ro ri rv h;let⟨p,xs,k,j,rfl,rfl,hp,hj,q⟩:=h;cases ro;let⟨t,rfl⟩:=ri;let⟨ð,n,r,ho,hz⟩:=I.lst hp;let⟨h1,h2,h3,h4⟩:=Mf hj;have hl:=r.length;have hn:=Xl;have I':Inv X Á σ (upd H p<|.lst<|xs.set j v) {s with heap:=s.heap.update p (ϓ (·.setIfInBounds j u))} :=
  I.lstUpd hp ho (On ð n j u) (r.set rv j) (by rw[ω];exact hz) s.toks
 by_cases h0:0<=k
 .have hk:k.toNat=j:=by
   rw[aM h0 h4]at h1;exact ï h1
  exact PySem.W.ki_setAt ho h0 (by lia) (by rw[É,<-hl];exact h4) (by rw[hk];exact⟨_,I',q⟩)
 .have hk:(k+(ð.toArray.size:Int)).toNat=j:=by
   rw[ah (by lia) h3]at h1;rw[É,<-hl];exact ï h1
  exact PySem.W.ki_setBack ho (by lia) (by rw[É,<-hl];exact h3) (by lia) (by rw[hk];exact⟨_,I',q⟩)
def MI(lo hi:Option Int)(n:Nat):(Ę lo hi dg n).1=((HT.sIx n 0 lo:Nat):Int)/\(Ę lo hi dg n).2.1=((HT.sIx n n hi:Nat):Int)/\(Ę lo hi dg n).2.2=1:=by
 refine⟨?_,?_,rfl⟩
 .cases lo with
  |none=>simp[Ę,HT.sIx]
  |some i =>
   simp only[Ę,HT.sIx,cD,show(1:Int) > 0 by decide,if_true];by_cases h:i<0
   .simp only[h,if_true]<;>lia
   .simp only[h,if_false]<;>lia
 .cases hi with
  |none=>simp[Ę,HT.sIx]
  |some i =>
   simp only[Ę,HT.sIx,cD,show(1:Int) > 0 by decide,if_true];by_cases h:i<0
   .simp only[h,if_true]<;>lia
   .simp only[h,if_false]<;>lia
def Kk(ð:List Â)(lo hi:Option Int):cE ð.toArray lo hi dg=((ð.drop<|HT.sIx ð.length 0 lo).take<|HT.sIx ð.length ð.length hi - HT.sIx ð.length 0 lo).toArray:=by let⟨h1,h2,h3⟩:=MI lo hi ð.toArray.size;unfold cE;rw[h1,h2,h3];simp only[sliceRange_one,pick_run,É]<;>rfl
abbrev Qr(K:Frag):V->Option Int->Option Int->Hp->VK->Prop:=λx lo hi H Q=>∃a xs,x=.ref a/\eS K H a xs/\∀p,H p=dg->Q (.ref p) (upd H p<|.lst<|K5 xs lo hi)
def sl_list:SlR X<|Qr X.K:=by intro Á s σ H x v vl vu lo hi sl Q I rx hs pl pu h;let⟨a,xs,rfl,hx,q⟩:=h;cases rx;let⟨ð,r,ht,hz⟩:=I.list hx;have hlen:=r.length;refine⟨"list",_,ai.lookup,ht.isList.typeIs,?_⟩;refine cg ht.isList hs pl pu .none (by simp) ?_ (by rw[É]<;>lia);rw[Kk,<-hlen];refine⟨.ref s.heap.objs.size,_,I.laid (t':=s.toks) (o:=.lst<|K5 xs lo hi) (λb ob q=>Ä _ q) (Ï _) ?_,rfl,q _<|I.hok.fresh<|Ï _⟩;exact⟨Ô (WE xs lo hi) hz,_,0,(r.drop<|HT.sIx xs.length 0 lo).take<|HT.sIx xs.length xs.length hi - HT.sIx xs.length 0 lo,Ý _ rfl⟩
abbrev eqV:V->V->Bool
 |.non,.non=>dh
 |.bl a,.bl b=>a==b
 |.bl a,.int b=>(if a then 1 else 0)==b
 |.int a,.bl b=>a==(if b then 1 else 0)
 |.int a,.int b=>a==b
 |.str a,.str b=>a==b
 |_,_=>di
abbrev inV(x:V)(xs:List V):Bool:=xs.any λy=>eqV y x
def ML:OpR X (é .NotIn) λx y H Q=>∃i j,x=.str i/\y=.str j/\Q (.bl (!(!(Builtin.Str.occurrences j i 0 j.length 1).isEmpty))) H:=by intro Á s σ H x y v u Q I rx ry h;let⟨i,j,rfl,rfl,q⟩:=h;let⟨t,rfl⟩:=rx;let⟨t',rfl⟩:=ry;exact notIn_str ⟨.bl _,H,I,rfl,q⟩
def call_len_seq:dA X (.builtin "len") λxs H Q=>∃p ys,xs=[.ref p]/\(eS X.K H p ys\/eU X.K H p ys)/\Q (.int ys.length) H:=by
 intro Á s σ H xs us Q I r h;let⟨p,ys,rfl,hq,q⟩:=h;let⟨u,rfl,rx⟩:=ZM r;cases rx;have hn:=Xl;rcases hq with hq|hq
 .obtain⟨ð,r',pl,hz⟩:=I.list hq;have hlen:=r'.length;exact Calls.call_len_list pl.isList (by simp only[É]<;>lia) ⟨.int ys.length,H,I.tok _,⟨s.toks+1,by rw[É,hlen]⟩,q⟩
 .obtain⟨ð,r',pl,hz⟩:=I.tuple hq;have hlen:=r'.length;exact len_tuple pl (by simp only[É]<;>lia) ⟨.int ys.length,H,I.tok _,⟨s.toks+1,by rw[É,hlen]⟩,q⟩
def MC:dA X (.builtin "len") λxs H Q=>∃z,xs=[.str z]/\z.length<=Ü/\Q (.int z.length) H:=by intro Á s σ H xs us Q I r h;let⟨z,rfl,hz,q⟩:=h;let⟨u,rfl,t,rfl⟩:=ZM r;have hn:=Xl;exact len_str (by lia) ⟨.int z.length,H,I.tok _,⟨_,rfl⟩,q⟩
def dA.or{f:Â}{r r':List V->Hp->VK->Prop}(h:dA X f r)(h':dA X f r'):dA X f λxs H Q=>r xs H Q\/r' xs H Q:=by
 intro Á s σ H xs us Q I rs q;rcases q with q|q
 .exact h Á s σ H xs us Q I rs q
 .exact h' Á s σ H xs us Q I rs q
def MQ:dA X (.type "list") λxs H Q=>∃p ys,xs=[.ref p]/\(eS X.K H p ys\/eU X.K H p ys)/\∀l,H l=dg->Q (.ref l) (upd H l<|.lst ys):=by
 intro Á s σ H xs us Q I r h;let⟨p,ys,rfl,hq,q⟩:=h;let⟨u,rfl,rx⟩:=ZM r;cases rx;have fin:∀(ð:List Â),eV ys ð->ys.length<=Ü->∀(h':ċ) (c':Nat),(∀b o',s.heap.get? b=df o'->h'.get? b=df o')->
   h'.get? s.heap.objs.size=df {cls:=.type "list",dict:=dg,data:=.seq ð.toArray c',slots:=#[]}->EP X Á σ Q (.ref s.heap.objs.size) {s with heap:=h'}:=λð r' hz h' c' kp e =>
  ⟨.ref s.heap.objs.size,_,I.laid (t':=s.toks) kp (Ï _) (show dB X.prog X.w _ h' _ (.lst ys) from ⟨hz,ð,c',r',e⟩),rfl,q _<|I.hok.fresh<|Ï _⟩
 rcases hq with hq|hq
 .obtain⟨ð,r',pl,hz⟩:=I.list hq;have hlen:=r'.length;let⟨o,ho,hc,n,hd⟩:=pl.isList;exact call_list_seq p (.inl rfl) ho hc hd (λh' c' kp e=>fin ð r' hz h' c' kp e) (by simp only[É]<;>lia)
 .obtain⟨ð,r',pl,hz⟩:=I.tuple hq;have hlen:=r'.length;let⟨o,ho,hc,n,hd⟩:=pl;exact call_list_seq p (.inr rfl) ho hc hd (λh' c' kp e=>fin ð r' hz h' c' kp e) (by simp only[É]<;>lia)
def Kb:dA X (.type "tuple") λxs H Q=>∃p ys,xs=[.ref p]/\((eS X.K H p ys/\∀l,H l=dg->Q (.ref l) (upd H l<|.tup ys))\/(eU X.K H p ys/\Q (.ref p) H)):=by
 intro Á s σ H xs us Q I r h;let⟨p,ys,rfl,h⟩:=h;let⟨u,rfl,rx⟩:=ZM r;cases rx;rcases h with⟨hq,q⟩|⟨hq,q⟩
 .obtain⟨ð,r',pl,hz⟩:=I.list hq;have hlen:=r'.length;refine call_tuple_list pl.isList (λh' kp=>?_) (by simp only[É]<;>lia);have I1:Inv X Á σ H {s with heap:=h'}:=I.kept (t':=s.toks) kp;have I2:Inv X Á σ (upd H h'.objs.size<|.tup ys) {s with heap:=h'.push {cls:=.type "tuple",data:=.seq ð.toArray}} :=
   I1.laid (t':=s.toks) (λb o e=>Ä _ e) (Ï _) (show dB X.prog X.w _ _ _ (.tup ys) from ⟨hz,ð,r',IsTup.new _ _⟩)
  exact⟨.ref h'.objs.size,_,I2,rfl,q _<|I1.hok.fresh<|Ï _⟩
 .obtain⟨ð,r',pl,hz⟩:=I.tuple hq;exact call_tuple_same pl ⟨.ref p,H,I,rfl,q⟩
abbrev tyV(K:Frag)(T:String)(x:V)(H:Hp):Prop:=match x with
 |.str _=>T = "str"
 |.int _=>T = "int"
 |.ref p=>(T = "list"/\∃xs,eS K H p xs)\/(T = "tuple"/\∃o,K.lookup p=df o/\o.cls=.type "tuple"/\o.dict=dg)\/
   (T = "dict"/\((∃kvs,H p=df (.dK kvs))\/∃kvs,H p=df (.dT kvs)))\/(T = "set"/\∃S n,H p=df (.set S n))
 |_=>False
def IL{T:String}{x:V}{v:Â}(I:Inv X Á σ H s)(r:RelV x v)(ty:tyV X.K T x H) :
  s.TypeIs v T/\∀a,v=.ref a->∃ob,s.heap.get? a=df ob/\ob.dict=dg:=by
 cases x with
 |str z =>let⟨t,rfl⟩:=r;cases (show T = "str" from ty);exact⟨typeIs_str s z t,λ_ e=>nomatch e⟩
 |int i =>let⟨t,rfl⟩:=r;cases (show T = "int" from ty);exact⟨typeIs_int s i t,λ_ e=>nomatch e⟩
 |ref p =>
  cases r;rcases ty with⟨rfl,xs,hq⟩|⟨rfl,o,hk,hc,hd⟩|⟨rfl,hk⟩|⟨rfl,S,n,hk⟩
  .obtain⟨ð,_,pl,_⟩:=I.list hq;refine⟨pl.isList.typeIs,λa e=>?_⟩;cases e;let⟨o,n,e,c,hd,_⟩:=pl;exact⟨o,e,hd⟩
  .refine⟨⟨o,I.kIn p o hk,hc⟩,λa e=>?_⟩;cases e;exact⟨o,I.kIn _ o hk,hd⟩
  .have z:∃o,s.heap.get? p=df o/\o.ExactDict:=by
    rcases hk with⟨kvs,hk⟩|⟨kvs,hk⟩
    .obtain⟨_,_,_,_,o,_,_,e,ex,_⟩:=I.hok p _ hk;exact⟨o,e,ex⟩
    .obtain⟨_,_,_,_,o,_,_,e,ex,_⟩:=I.hok p _ hk;exact⟨o,e,ex⟩
   let⟨o,e,ex⟩:=z;refine⟨⟨o,e,ex.1⟩,λa e2=>?_⟩;cases e2;exact⟨o,e,ex.2.1⟩
  .obtain⟨o,_,_,_,e,ex,_⟩:=I.hok p _ hk;refine⟨⟨o,e,ex.1⟩,λa e2=>?_⟩;cases e2;exact⟨o,e,ex.2.1⟩
 |_=>exact Ĵ ty
abbrev tBM(K:Frag)(T:String)(r:V->List V->Hp->VK->Prop)(to:TE)(t:TA):TE:=λσ H Q=>to σ H λx H1=>tyV K T x H1/\t σ H1 λxs H2=>r x xs H2 Q
variable {o e:Expr}{es:List Expr}{to:TE}{t:TA}{name:Str}{Ļ ľ:Pos}{T id:String}{r:V->List V->Hp->VK->Prop}
def Q8(pa:PlainAttrs T)(slot:Slot T name id)(hty:typeOf (.builtin id)=pure (.type "method_descriptor"))(hm:MtR X id r)(ho:PE X o to)(ha:PA X (e::es) t)
  (ϲ:ē o name X.env (eval o X.env)=eval o X.env:=by rfl)
  (Ϣ:((Ē ľ<|Ó (e::es) X.env).all (λx=>!x.1)&&(ś ľ<|Ĭ [] X.env).all (λx=>x.1.isSome)
    && fm ((e::es).length+([]:List Κ).length+(if([]:List Κ).isEmpty then 0 else 1)<30))=dh:=by rfl)
  (ϳ:(Ļ.endLine==ľ.line)=dh:=by rfl) (hs:Ó (e::es) X.env=(di,eval e X.env)::Ó es X.env:=by rfl) (bO:(Ē ľ<|Ó es X.env).any (·.1)=di:=by rfl) :
  PE X (.Call (.Attribute o name Ļ) (e::es) [] ľ) (tBM X.K T r to t):=by
 intro Á s σ H Q I h;refine wpAny_Call_method_late ϲ Ϣ ϳ rfl<|thn (ho Á s σ H _ I h) λv s1 ⟨x,H1,I1,r1,ty,q1⟩=>?_;let⟨h1,h2⟩:=IL I1 r1 ty;refine⟨T,id,pa,slot,hty,h1,h2,?_⟩;have hA:=ha ľ Á s1 σ H1 _ I1 q1;rw[hs]at hA ⊢;refine Calls.callWith_builtin (by show(di||(Ē ľ<|Ó es X.env).any (·.1))=di;rw[bO]<;>rfl)<|Calls.evalArgs_plain ?_;exact thn hA λus s2 ⟨vs,H2,I2,r2,q2⟩=>hm Á s2 σ H2 x vs v us Q I2 r1 r2 q2
/- xs.append(e),list.index on a module's tuple .. are MtR facts of 06m -/
end
abbrev MtM(X:Cx)(id:String)(r:V->List V->Hp->VK->Prop):Prop :=
 ∀(Á:List<|Ì×Obj) (s:Å) (σ:St) (H:Hp) (x:V) (xs:List V) (v:Â) (us:List Â) (Q:VK),Inv X Á σ H s->RelV x v->eV xs us->r x xs H Q->
  wpAny (â X.prog X.w) X.A (call (.builtin id)<|v::us) (EP X Á σ Q) X.xe s
variable {x:V} {us:List Â}
def eV.one(r:eV [x] us):∃u,us=[u]/\RelV x u:=ZM r
def eV.two{y:V}(r:eV [x,y] us):∃u v,us=[u,v]/\RelV x u/\RelV y v:=UL r
def eV.eraseIdx:∀{xs:List V}{us:List Â}(i:Nat),eV xs us->eV (xs.eraseIdx i) (us.eraseIdx i)
 |_,_,_,.nil=>.nil
 |_,_,0,.cons _ t=>t
 |_,_,i+1,.cons r t=>.cons r<|eV.eraseIdx i t
def eV.rep{xs:List V}{us:List Â}(h:eV xs us):∀k:Nat,eV (Õ k xs).flatten (Õ k us).flatten
 |0=>.nil
 |k+1=>by rw[ą,ą,ĳ,ĳ];exact eV.append h<|eV.rep h k
def Wo{α:Type}:∀(l:List α) (i:Nat),(l.eraseIdx i).length<=l.length
 |[],_=>Ï _
 |_::_,0=>Ŭ _
 |_::r,i+1=>ő<|Wo r i
def KR(ð:List Â):∀(k:Nat) (ħ:List Â),
  cF (λx1 x2=>x1++x2) ħ.toArray (Õ k ð.toArray)=(ħ++(Õ k ð).flatten).toArray
 |0,ħ=>by simp
 |k+1,ħ=>by
  have e:ħ.toArray++ð.toArray=(ħ++ð).toArray:=by simp
  have e2:(ħ++ð)++(Õ k ð).flatten=ħ++(Õ (k+1) ð).flatten:=by rw[ą,ĳ,ě]
  rw[<-e2,<-KR ð k (ħ++ð),<-e,ą,İ]
section
variable {X:Cx}{Á:List (Ì×Obj)}{σ:St}{H:Hp}{s:Å}{l b:Ì}{xs ys zs:List V}
variable {ð:List Â} {n:Nat} {t':Nat}
def Inv.lset{its':List Â}{f:Array Â->Array Â}(I:Inv X Á σ H s)(hH:H l=df (.lst xs))
  (e:s.heap.get? l=df {cls:=.type "list",data:=.seq ð.toArray n}) (hf:f ð.toArray=its'.toArray) (hv:eV ys its') (hz:ys.length<=Ü) :
  Inv X Á σ (upd H l<|.lst ys) {s with heap:=s.heap.update l<|ϓ f,toks:=t'}:=by
 have q:=PySem.IsL.update e f;rw[hf]at q;refine I.write (x:=l) (e:=l) (by rw[hH];exact trivial) (.inl rfl) (λb' u hb hu=>(ü s.heap (ϓ f)<|Ne.symm hb).trans hu) ⟨_,q⟩ ?_;exact⟨hz,its',_,hv,q⟩
def Inv.lnew(I:Inv X Á σ H s)(hv:eV ys ð)(hz:ys.length<=Ü) :
  Inv X Á σ (upd H s.heap.objs.size<|.lst ys) {s with heap:=s.heap.push {cls:=.type "list",data:=.seq ð.toArray},toks:=t'} :=
 I.laid (λ_ _ q=>Ä _ q) (Ï _) ⟨hz,ð,0,hv,Ý _ rfl⟩
def Inv.fresh(I:Inv X Á σ H s):H s.heap.objs.size=dg:=I.hok.fresh (Ï _)
def Inv.lstM(I:Inv X Á σ H s)(hH:H l=df (.lst xs)):xs.length<=Ü/\∃(ð:List Â) (n:Nat),eV xs ð/\xs.length=ð.length/\s.heap.get? l=df {cls:=.type "list",data:=.seq ð.toArray n}:=by let⟨z,ð,n,r,e⟩:=I.hok l _ hH;exact⟨z,ð,n,r,r.length,e⟩
def BQ(h:n<=Ü):Builtin.List.listTooLong n=di:=by unfold Builtin.List.listTooLong;exact fh (by lia)
end
section
variable {X:Cx}
abbrev UV:V->List V->Hp->VK->Prop:=λx vs H Q=>∃l xs y,x=.ref l/\vs=[y]/\H l=df (.lst xs)/\xs.length<Ü/\Q .non (upd H l<|.lst<|xs++[y])
def Aj:MtM X "list.append" UV:=by intro Á s σ H x vs v us Q I rx rv h;let⟨l,xs,y,rfl,rfl,hH,hz,q⟩:=h;cases rx;let⟨u,rfl,ru⟩:=rv.one;let⟨z,ð,n,r,hl,e⟩:=I.lstM hH;refine Ϭ F.slot_list_append ⟨_,e,rfl⟩ F.entry_list_append (F.args_list_append_2 _ _) (PySem.list_append l ð.toArray n u<|by rw[É];lia) ⟨e,?_⟩;refine⟨.non,_,I.lset (its':=ð++[u]) hH e (by simp) (r.append<|.cons ru .nil) ?_,rfl,q⟩;rw[ã,Ť];lia
abbrev D9:V->List V->Hp->VK->Prop:=λx vs H Q=>∃l xs i k y,x=.ref l/\vs=[.int i]/\H l=df (.lst xs)/\-(2 ^ 63)<=i/\i<2 ^ 63/\seqIndex? i xs.length=df k/\xs[k]?=df y/\Q y (upd H l<|.lst<|xs.eraseIdx k)
def Dm:MtM X "list.pop" D9:=by
 intro Á s σ H x vs v us Q I rx rv h;let⟨l,xs,i,k,y,rfl,rfl,hH,h1,h2,hk,hy,q⟩:=h;cases rx;let⟨u,rfl,ru⟩:=rv.one;let⟨t,rfl⟩:=ru;let⟨z,ð,n,r,hl,e⟩:=I.lstM hH;let⟨w,hw,ao⟩:=r.get hy;refine Ϭ F.slot_list_pop ⟨_,e,rfl⟩ F.entry_list_pop (F.args_list_pop_2 _ _)
  (MeetsSeq.list_pop_at l ð.toArray n i t k w (fitsIndex_both h1 h2) (by rw[É,<-hl];exact hk) (by rw[<-Š];exact hw)<|by rw[É];lia) ⟨e,?_⟩
 refine⟨y,_,I.lset (its':=ð.eraseIdx k) hH e ?_ (r.eraseIdx k) ?_,ao,q⟩
 .show ð.toArray.eraseIdxIfInBounds k=(ð.eraseIdx k).toArray;rw[ϡ]
 .have:=Wo xs k;lia
abbrev PX:R2:=λx y H Q=>∃l b xs zs,x=.ref l/\y=.ref b/\H l=df (.lst xs)/\H b=df (.lst zs)/\xs.length+zs.length<=Ü/\∀p,H p=dg->Q (.ref p) (upd H p<|.lst<|xs++zs)
def Ik:OpR X (Ķ .Add) PX:=by
 intro Á s σ H x y v u Q I rx ry h;let⟨l,b,xs,zs,rfl,rfl,hH,hB,hz,q⟩:=h;cases rx;cases ry;let⟨z,ð,n,r,hl,e⟩:=I.lstM hH;let⟨z2,ϱ,n2,r2,hl2,e2⟩:=I.lstM hB;refine PySem.P.add_list e e2 ?_ (by rw[É,É];lia);have ea:ð.toArray++ϱ.toArray=(ð++ϱ).toArray:=by simp
 rw[ea];exact⟨.ref _,_,I.lnew (t':=s.toks) (r.append r2) (by rw[ã];lia),rfl,q _ I.fresh⟩
abbrev QJ:R2:=λx y H Q=>∃l k xs,x=.ref l/\y=.int k/\H l=df (.lst xs)/\-(2 ^ 63)<=k/\k<2 ^ 63/\xs.length*k.toNat<=Ü/\
 ∀p,H p=dg->Q (.ref p) (upd H p<|.lst (Õ k.toNat xs).flatten)
def FU{α:Type}(xs:List α)(k:Nat):(Õ k xs).flatten.length=k*xs.length:=by
 induction k with
 |zero=>simp
 |succ k ih=>rw[ą,ĳ,ã,ih,Nat.succ_mul,Nat.add_comm]
def op_rep:OpR X (Ķ .Mult) QJ:=by
 intro Á s σ H x y v u Q I rx ry h;let⟨l,k,xs,rfl,rfl,hH,h1,h2,hz,q⟩:=h;cases rx;let⟨t,rfl⟩:=ry;let⟨z,ð,n,r,hl,e⟩:=I.lstM hH;have hlen:ð.toArray.size*k.toNat<=Ü:=by rw[É,<-hl];exact hz
 have hcap:¬ ð.toArray.size*k.toNat > (2 ^ 63 - 1) / 8:=by
  have:(Ü:Nat)<=(2 ^ 63 - 1) / 8:=by decide
  lia
 have hfit:¬ (!Builtin.List.listFitsIndex k)=dh:=by rw[fitsIndex_both h1 h2];exact ø
 have hlong:¬ Builtin.List.listTooLong (ð.toArray.size*k.toNat)=dh:=by rw[BQ hlen];exact ø
 have hnew:cF (λx1 x2=>x1++x2) #[] (Õ (if ð.toArray.isEmpty=dh then 0 else k.toNat) ð.toArray)=(Õ k.toNat ð).flatten.toArray:=by
  have f0:∀m:Nat,cF (λx1 x2=>x1++x2) #[] (Õ m ð.toArray)=(Õ m ð).flatten.toArray:=λm=>by have:=KR ð m [];rw[List.nil_append]at this;exact this
  rw[f0];cases ð with
  |nil=>simp
  |cons a r'=>rw[fg<|by simp]
 refine wpAny_binaryOp_repeat_ref (T:="list") (U:="int") (by decide) ⟨_,e,rfl⟩ (λs'=>typeIs_int s' k t) noFill_list_mul F.fills_int_mul F.slot_int_rmul repeat_list F.slot_int_index.lookup
  (Ϭ F.slot_int_rmul (typeIs_int s k t) F.entry_int_rmul (F.args_int_rmul_2 _ _) (int___rmul___int_list k t l ð.toArray n)
    ⟨e,rfl,⟨_,e,rfl⟩,Ϭ F.slot_list_mul ⟨_,e,rfl⟩ F.entry_list_mul (F.args_list_mul_2 _ _) (AutoListH.list___mul___list_int_3 l ð.toArray n k t hfit hcap hlong) ⟨e,?_⟩⟩)
 rw[hnew];exact⟨.ref _,_,I.lnew (t':=s.toks) (r.rep k.toNat) (by rw[FU,bA];exact hz),rfl,q _ I.fresh⟩
end
end L2
namespace Att
open PySem PySem.W PySem.Calls PyProof.Rows
variable {P:Params} {h:ċ}
def WG:∀(ns:List Int) (vs:List Â),WellAll P h vs (ns.map WData.int)->Ě vs ns:=by
 intro ns;induction ns with
 |nil =>intro vs w;rw[Ų]at w;cases w;exact .nil
 |cons n ns ih =>
  intro vs w;rw[Í]at w;cases w with
  |cons a b =>cases a;exact .cons _ _<|ih _ b
variable {l:OpenLaw} {n:Nat}
def Ag(hn:l.most=df n){args:List WData}{vals:List Â}
  (hpre:l.row.toRowW.claim.pre args=dh) (hwl:WellAll P h vals args) :
  ∃a vs ns,vals=[Value.ref a]/\args=[WData.list<|ns.map WData.int]/\h.get? a=df {cls:=.type "list",data:=.seq vs.toArray}/\Ě vs ns/\ns.length<=n:=by
 have hsh:WShape.hasAll [] args [.list .int]=dh:=(pre_splitW hpre).1;have hc:l.pre.holds [] {args:=args}=dh:=(pre_splitW hpre).2;let⟨d,r,rfl,h1,h2⟩:=hasAllW_cons hsh;obtain rfl:=hasAllW_nil h2;let⟨xs,rfl,h3⟩:=hasW_list h1;let⟨ns,rfl⟩:=items_int h3;have hlen:ns.length<=n:=by
  unfold OpenLaw.pre at hc;have h4:(WTm.not<|.lt (.lit<|.int (n:Int))<|.len<|.arg 0).holds [] {args:=[.list<|ns.map .int]}=dh:=by have h4:=(holds_andW hc).1;rw[hn]at h4;exact h4
  have h5:=condW_of h4<|w_not<|w_lt w_lit<|w_len_list<|w_arg rfl;rw[À]at h5;refine Nat.le_of_not_lt λq=>?_;have q':(n:Int)<((ns.length:Nat):Int):=by lia
  first
   |(rw[fi q']at h5;exact fk h5<|by decide)
   |(simp at h5;lia)
 cases hwl with
 |cons w1 w2 =>
  cases w2;cases w1 with
  |list ho hall=>exact⟨_,_,ns,rfl,rfl,ho,WG ns _ hall,hlen⟩
def Af(l:OpenLaw)(args:List WData):l.row.toRowW.claim.post args (.bool dh) args=dh :=
 postW_of (r:=l.row.toRowW) (X:=(dh==dh))
  (show WShape.has [] (.bool dh) .bool=dh by first|rfl|decide|simp[WShape.has,WShape.arms,WShape.armsAll])
  (show(WTm.eq .res<|.lit<|.bool dh).value [] {args:=args,res:=df<|.bool dh,after:=args}=df (.bool<|dh==dh) from w_eq_bool (w_res rfl) w_lit) rfl
def attach_call{q:ë}{loose:List Str}{XP:(Str->Option Â)->ċ->Prop}{YP:Ă->ċ->Prop}{d:DefRec}
  (hn:l.most=df n) (hdf:d.params.defaults=[])
  (call:∀(w:Ă) (s₀ ģ:Å) (mg mb:Str->Option Â) (fa:Ì) (o:Obj) (pm cd doc:Â) (a:Ì) (vs:List Â) (ns:List Int),
    Ground q loose [] XP w s₀ mg mb ģ.heap->YP w ģ.heap->
    ģ.heap.get? fa=df o->o.data=.func (docDef d.name d.params d.body d.scope pm cd doc)->ģ.heap.CodeRec cd d.name->mg d.name=df (.ref fa)->
    ģ.heap.get? a=df {cls:=.type "list",data:=.seq vs.toArray}->Ě vs ns->ns.length<=n->ģ.gens=#[]->
    codeAny (â l.prog w) Ϛ (.call (.ref fa) ⟨[.ref a],[]⟩) (λr s'=>r=.ok (.ret<|.bool dh)/\OldK ģ.heap s'.heap/\s'.os=ģ.os/\μ s'.gens) ģ) :
  WalkO q loose XP YP l.row.toRowW d [] (λf vs=>PySem.call f vs):=by
 intro w s₀ ģ mg mb G Y fa o pm cd doc dV kV ho hd av hD hmg hg args vals as hpre hlay hrd hwl hlo;obtain rfl:dV=.none:=Dflts.none hD hdf;obtain rfl:kV=.none:=Dflts.noKw hD;let⟨a,vs,ns,rfl,rfl,cy,hints,hlen⟩:=Ag hn hpre hwl;refine enter_call<|af (call w s₀ ģ mg mb fa o pm cd doc a vs ns G Y ho (fd_plain hd) av hmg cy hints hlen hg) λr s' hq=>?_;let⟨rfl,h2,h3,h4⟩:=hq;exact⟨.inl ⟨.bool dh,.bool dh,[],rfl,λ_=>rfl,.bool dh,Af l _,λ_=>⟨List.Pairwise.nil,λ_ hm=>(nomatch hm)⟩⟩,h2,h3,h4⟩
end Att
namespace L2
open PySem PySem.Spec PyProof.Rows
def Wm:∀{vs:List Â}{ns:List Int},Ě vs ns->eV (ns.map V.int) vs
 |_,_,.nil=>.nil
 |_,_,.cons n t h=>.cons ⟨t,rfl⟩<|Wm h
abbrev LG(H:Hp):Prop:=∀b,H b=dg\/∃o xs,H b=df (.frz o<|.lst xs)
def Bu{P:ë}{w:Ă}{K:Frag}{mg mb:Str->Option Â}{CX:CXT}{k:Nat}{fa a:Ì}{fd:ķ}{x:Str}{sp:Sp}{ģ:Å}{vs:List Â}{ns:List Int}
  (KX:K.In ģ.heap) (hns:ģ.heap.Ns ÿ mg) (hb:ģ.heap.Ns builtinsNs mb) (hbb:∀x:Str,x≠"__name__"->mb x=Ŕ x) (hlim:ģ.heap.NoLimit) (hg:ģ.gens=#[])
  (ha:ģ.heap.get? a=df {cls:=.type "list",data:=.seq vs.toArray}) (hi:Ě vs ns) (hl:ns.length<=Ü) (hr:dX k Ϛ)
  (F:∀base:ċ,K.In base->base.Ns ÿ mg->dY P w K mg base CX k fa fd [x] sp) (hbind:∀(s:Å) (u:Â),BindsTo s fd ⟨[u],[]⟩ [(x,u)])
  (hsp:∀H:Hp,LG H->eS K H a (ns.map V.int)->sp [.ref a] H (λv _=>v=.bl dh) λ_ _ _=>False)
  (hCX:∀H e s',CX [] H ģ (λ_ _ _=>False) e s'->False) :
  codeAny (â P w) Ϛ (.call (.ref fa) ⟨[.ref a],[]⟩) (λr s'=>r=.ok (.ret<|.bool dh)/\OldK ģ.heap s'.heap/\s'.os=ģ.os/\μ s'.gens) ģ:=by
 have rv:=Wm hi;have ej:=hi.length;have core:∀H:Hp,LG H->eS K H a (ns.map V.int)->HOk P w H ģ.heap->(∀b,H b≠dg->b=a)->(H a≠dg->K.lookup a=dg)->
   codeAny (â P w) Ϛ (.call (.ref fa) ⟨[.ref a],[]⟩) (λr s'=>r=.ok (.ret<|.bool dh)/\OldK ģ.heap s'.heap/\s'.os=ģ.os/\μ s'.gens) ģ:=by
  intro H hO hS hok hA hK;have b9:∀{b:Ì}{o:Obj},ģ.heap.get? b=df o->H b=dg->(MJ ģ.heap H).get? b=df o:=λe n=>C4 e n;have noA:∀{b:Ì}{o:Obj}{es:Array DictEntry}{ep:Nat},ģ.heap.get? b=df o->o.data=.dict es ep->H b=dg:=λ{b o es ep} e d=>by
   cases q:H b with
   |none=>rfl
   |some u =>have e':b=a:=hA b (by rw[q];simp);subst e';rw[ha]at e;cases e;have d':Data.seq vs.toArray _=Data.dict es ep:=d;cases d'
  have nsK:∀{b:Ì}{m:Str->Option Â},ģ.heap.Ns b m->(MJ ģ.heap H).Ns b m:=λ{b m} ⟨o,es,ep,e,d,r⟩=>⟨o,es,ep,b9 e<|noA e d,d,r⟩
  have hKb:K.In<|MJ ģ.heap H:=λb o e=>b9 (KX b o e) (by
    cases q:H b with
    |none=>rfl
    |some u =>
      have e':b=a:=hA b (by rw[q];simp)
      subst e'
      rw[hK<|by rw[q];simp]at e;cases e)
  have hM:Mod K mg<|MJ ģ.heap H:=⟨hKb,nsK hns,⟨mb,nsK hb,hbb⟩,let ⟨mc,h1,h2⟩:=hlim;⟨mc,nsK h1,h2⟩⟩
  have e0:Env0 P w K mg (MJ ģ.heap H) Ϛ [] ģ H:=⟨rfl,hM,λb o e=>EO e,Nat.le_of_eq<|Ba _ _,trivial,λb hb=>fk (show b∈([]:List Ì) from hb) (by simp),hok,.of_eq hg⟩
  refine af ((F _ hKb<|nsK hns).run Ϛ [] ģ H ⟨[.ref a],[]⟩ [.ref a] [.ref a] _ _ hr e0 (hbind ģ<|.ref a) (.cons rfl .nil)<|hsp H hO hS) λr s' h=>?_;cases r with
  |error e=>exact(hCX H e s' h).elim
  |ok fl =>
   cases fl with
   |next=>exact Ĵ h
   |brk=>exact Ĵ h
   |cont=>exact Ĵ h
   |ret u =>
    let⟨v,H',os,bare,un,hok',r',q⟩:=h;have q':v=.bl dh:=q;subst q';obtain rfl:u=Value.bool dh:=r';refine⟨rfl,OldK.of_keep λb o e=>?_,os,bare⟩;cases q:H b with
    |none=>exact un.keep b o e q (by intro z;exact fk (show b∈([]:List Ì) from z)<|by simp) (by simp)
    |some u =>
     rcases hO b with z|⟨ob,xs,z⟩
     .rw[q]at z;cases z
     .have z2:=un.frzs b ob _ z;let⟨e1,_⟩:=hok b _ z;let⟨e2,_⟩:=hok' b _ z2;rw[e]at e1;cases e1;exact e2
 cases hk:K.lookup a with
 |some o =>have e:=KX a o hk;rw[ha]at e;cases e;refine core (λ_=>dg) (λ_=>.inl rfl) (.inr ⟨_,vs.toArray,_,hk,rfl,rfl,rfl,by rw[É,ej];exact hl,⇑rv⟩) (λb u z=>by have z':(dg:Option HO)=df u:=z;cases z') (λb z=>fk rfl z) λz=>fk rfl z
 |none =>
  refine core (λb=>if b=a then df (.frz {cls:=.type "list",data:=.seq vs.toArray}<|.lst<|ns.map V.int)else dg) (λb=>?_) (.inl<|.inr ⟨{cls:=.type "list",data:=.seq vs.toArray},ff rfl⟩) (λb u z=>?_) (λb z=>?_) λ_=>hk
  .by_cases hb:b=a
   .exact .inr ⟨_,_,ff hb⟩
   .exact .inl<|fg hb
  .by_cases hb:b=a
   .have z':=(ff hb).symm.trans z;cases z';subst hb;exact⟨ha,by rw[À];exact hl,vs,_,rv,ha⟩
   .have z':=(fg hb).symm.trans z;cases z'
  .by_cases hb:b=a
   .exact hb
   .exact fk (fg hb) z
abbrev YE(s:ĭ):Arguments:=match s with
 |.FunctionDef _ a _ _ _ _ _ _ _ _=>a
 |_=>{posonlyargs:=[],args:=[],vararg:=dg,kwonlyargs:=[],kw_defaults:=[],kwarg:=dg,defaults:=[]}
abbrev ZR(s:ĭ):List ĭ:=match s with
 |.FunctionDef _ _ b _ _ _ _ _ _ _=>b
 |_=>[]
abbrev Zt(s:ĭ):Ů:=match s with
 |.FunctionDef _ _ _ _ _ _ sc _ _ _=>sc
 |_=>{kind:=.function,names:=[],isGenerator:=di,isCoroutine:=di}
structure Fun(K:Frag)(x qual:Str)(st:ĭ)(f:Ì)(fd:ķ):Prop where
 ex:∃(oc:Â) (od:Option Ì) (kV doc pm:Â) (an:Option Ì) (Ρ ct:Â) (osl:Array<|Option Â),
  fd=PySem.W.fnOf x qual (YE st) (ZR st) (Zt st) .none kV doc pm an Ρ ct/\K.lookup f=df ⟨oc,od,.func fd,osl⟩/\PySem.W.codeIn K Ρ qual=dh
 kp:PySem.W.keepIn K (.ref f)=dh
section
variable {P:ë}{w:Ă}{K:Frag}{mg:Str->Option Â}{base:ċ}
variable {x:Str} {qual:Str} {st:ĭ} {f:Ì}
def Fun.binds{fd:ķ}{ps:List Str}(F:Fun K x qual st f fd)
  (h:∀(kV doc pm:Â) (an:Option Ì) (Ρ ct:Â) (us:List Â),us.length=ps.length->bindArgs (PySem.W.fnOf x qual (YE st) (ZR st) (Zt st) .none kV doc pm an Ρ ct) ⟨us,[]⟩=pure (ps.zip us)):Binds K fd ps []:=by
 let⟨oc,od,kV,doc,pm,an,Ρ,ct,osl,rfl,lk,av⟩:=F.ex;exact .all<|h kV doc pm an Ρ ct
def D4{oc:Â}{od an:Option Ì}{osl:Array (Option Â)}{kV doc pm Ρ ct:Â}(l:K.lookup f=df ⟨oc,od,.func<|PySem.W.fnOf x qual (YE st) (ZR st) (Zt st) .none kV doc pm an Ρ ct,osl⟩)
  (c:PySem.W.codeIn K Ρ qual=dh) (k:PySem.W.keepIn K (.ref f)=dh):Fun K x qual st f<|PySem.W.fnOf x qual (YE st) (ZR st) (Zt st) .none kV doc pm an Ρ ct:=⟨⟨oc,od,kV,doc,pm,an,Ρ,ct,osl,rfl,l,c⟩,k⟩
end
abbrev Same(H H':Hp):Prop:=∀b o,H b=df o->H' b=df o
def Same.refl(H:Hp):Same H H:=λ_ _ h=>h
def Same.trans{H H1 H2:Hp}(a:Same H H1)(b:Same H1 H2):Same H H2:=λc o h=>b c o (a c o h)
end L2
set_option maxHeartbeats 4000000
namespace L2
open PySem PySem.Spec PyProof.Rows
variable {w:Ă}
def HOk.track{P:ë}{H:Hp}{h:ċ}{a:Ì}{o:HO}(x:HOk P w H h)(hn:H a=dg)(new:dB P w (upd H a o) h a o):HOk P w (upd H a o) h:=λb u e=>by
 by_cases hb:b=a
 .subst hb;rw[dk]at e;cases e;exact new
 .rw[dj hb]at e;exact(x b u e).stay (λc v _ q=>q) (λc q=>by rw[dj<|Zj q hn];exact q) λc xs q=>by rw[dj<|Zj q hn];exact q
abbrev Zu(X:Cx)(scope:Ů)(N':List Str)(cl:List<|Str×Ì)(C:Ì)(s:Å)(H:Hp)(ex:List Ì):Cx where
 prog:=X.prog
 w:=X.w
 K:=X.K
 mg:=X.mg
 base:=X.base
 A:=X.A
 N:=N'
 s₀:=s
 H₀:=H
 env:=compEnvC scope cl C X.env
 outer:=X.stack
 stack:=X.stack
 ex:=ex
 fn:=λ_=>di
 calm:=X.calm
 pn:=[]
 xe:=λ_ _=>False
abbrev Z7(X:Cx)(x:List Str)(ö:List Nat):List Str:=x++ö.map λj=>X.N.getD j Str.empty
abbrev OT(σ:St)(ö:List Nat):St:=ö.map λj=>(σ[j]?).getD dg
structure BlkOk(X:Cx)(scope:Ů)(x:List Str)(ö:List Nat):Prop where
 kind:scope.kind=.function
 nocell:∀y∈scope.names,y.2≠.cell
 locs:∀y∈scope.names,y.2=.local->scope.names.lookup y.1=df .local
 own:∀y∈x,scope.names.lookup y=df .local
 frees:∀y∈scope.names,y.2=.free->X.env.kindOf y.1=df .cell
 cap:∀j∈ö,(X.N[j]?).isSome=dh/\X.env.kindOf (X.N.getD j Str.empty)=df .cell/\scope.names.lookup (X.N.getD j Str.empty)=df .free
 nd:(Z7 X x ö).Nodup
def YG{env:Env}:∀(names:List<|Str×Ε) (ħ:List<|Str×Ì),(∀y∈names,y.2=.free->∃c,env.cells.lookup y.1=df c)->(∀x c,ħ.lookup x=df c->env.cells.lookup x=df c)->
  ∃cl,(forIn names ħ λ(p:Str×Ε) (r:List<|Str×Ì)=>(do
    if(p.2 == Ġ)=dh then do let a<-cellOf env p.1;pure (Ī<|(p.1,a)::r)else pure (Ī r):Sem _))=pure cl/\
   (∀x c,cl.lookup x=df c->env.cells.lookup x=df c)/\(∀x c,ħ.lookup x=df c->∃c',cl.lookup x=df c')/\∀x,(x,Ġ)∈names->∃c,cl.lookup x=df c
 |[],ħ,_,ha=>⟨ħ,rfl,ha,λx c h=>⟨c,h⟩,λx h=>nomatch h⟩
 |(n,k)::r,ħ,hn,ha=>by
  by_cases hk:k=.free
  .subst hk;let⟨c,hc⟩:=hn (n,.free) ñ rfl;have ha':∀x d,(((n,c)::ħ:List<|Str×Ì)).lookup x=df d->env.cells.lookup x=df d:=λx d h=>by
    rw[á]at h;cases e:x==n with
    |true =>
     rw[e]at h;have:x=n:=⇑e
     subst this;cases h;exact hc
    |false=>rw[e]at h;exact ha x d h
   let⟨cl,h1,h2,h3,h4⟩:=YG r ((n,c)::ħ) (λy hy=>hn y<|ß _ hy) ha';refine⟨cl,?_,h2,λx d h=>?_,λx hx=>?_⟩
   .rw[List.forIn_cons];have e:cellOf env n=pure c:=by unfold cellOf;rw[hc]
    simp only[beq_self_eq_true,if_true,e];exact h1
   .by_cases hx:x=n
    .subst hx;exact h3 x c (by rw[á];simp)
    .exact h3 x d (by rw[á,beq_false_of_ne hx];exact h)
   .rcases Æ.mp hx with e|hx
    .cases e;exact h3 _ c (by rw[á];simp)
    .exact h4 x hx
  .have hb:(k==Ġ)=di:=⇑hk
   let⟨cl,h1,h2,h3,h4⟩:=YG r ħ (λy hy=>hn y<|ß _ hy) ha;refine⟨cl,?_,h2,h3,λx hx=>?_⟩
   .rw[List.forIn_cons];simp only[hb,Ĉ,if_false];exact h1
   .rcases Æ.mp hx with e|hx
    .cases e;exact fk rfl hk
    .exact h4 x hx
def ZZ{env:Env}:∀{names:List (Str×Ε)}{x:Str}{k:Ε},(names.map λ(n,k)=>if(k==Ġ&&env.scope.kind == .function&&env.kindOf n==df .cell)then(n,cV)else(n,k)).lookup x=df k->
  (∃k0,(x,k0)∈names/\names.lookup x=df k0/\(k0=k\/(k0=.free/\k=.cell)))
 |[],_,_,h=>by simp at h
 |(n,k0)::r,x,k,h=>by
  rw[Í,á]at h;cases hx:x==n with
  |true =>
   have e:x=n:=⇑hx
   subst e;refine⟨k0,ñ,by rw[á];simp,?_⟩;by_cases hc:(k0==Ġ&&env.scope.kind == .function&&env.kindOf x==df .cell)=dh
   .rw[ff hc]at h;simp at h;have:k0=.free:=by
     simp only[bAq]at hc;simpa using hc.1.1
    exact .inr ⟨this,h.symm⟩
   .rw[fg hc]at h;simp at h;exact .inl h
  |false =>
   have h':(r.map λ(n,k)=>if(k==Ġ&&env.scope.kind == .function&&env.kindOf n==df .cell)then(n,cV)else(n,k)).lookup x=df k:=by
    by_cases hc:(k0==Ġ&&env.scope.kind == .function&&env.kindOf n==df .cell)=dh
    .rw[ff hc]at h;simpa[hx]using h
    .rw[fg hc]at h;simpa[hx]using h
   let⟨k1,a,b,c⟩:=ZZ h';exact⟨k1,ß _ a,by rw[á,hx];exact b,c⟩
abbrev PIfs(X:Cx)(aw:List Expr)(t:TT):Prop :=
 ∀(Á:List<|Ì×Obj) (s:Å) (σ:St) (H:Hp) (Q:Bool->Hp->Prop),Inv X Á σ H s->t σ H Q->
  wpAny (â X.prog X.w) X.A (forIn aw dh λc r=>if r=dh then do let ok<-bu c X.env (eval c X.env);pure (Ī ok)else pure (Ī r)) (TP X Á σ Q) X.xe s
abbrev Sf:TT:=λ_ H Q=>Q dh H
variable {X:Cx}
def pifs_nil:PIfs X [] Sf:=λ_ _ _ H _ I h=>wpAny_tests_nil ⟨H,I,h⟩
def X6{c:Expr}{t:TT}(h:PT X c t):PIfs X [c] t:=λÁ s σ H Q I hq=>wpAny_tests_one (h Á s σ H Q I hq)
abbrev Hc(J:It)(tg:TG)(tc:TT)(te:TE)(Fin:List V->Hp->Prop)(W:Nat->Nat->List V->St->Hp->Prop):Prop :=
 ∀i m ys τ H,W i m ys τ H->ys.length<Ü/\((J.stop i H/\Fin ys H)\/(J.go i H/\∃N:List V->St->Hp->Prop,(∀ys' τ' H',N ys' τ' H'->∃m',m'<m/\W (i+1) m' ys' τ' H')/\∀x H',J.yld i H x H'->
   tg x τ H' λτ' H1=>tc τ' H1 λb H2=>if b=dh then te τ' H2 λy H3=>N (ys++[y]) τ' H3 else N ys τ' H2))
abbrev DY(wi:TI)(k:Nat)(ö:List Nat)(tg:TG)(tc:TT)(te:TE):TE:=λσ H Q=>wi σ H λJ H1=>∃W:Nat->Nat->List V->St->Hp->Prop,(∃m,W 0 m [] (Õ k dg++OT σ ö) H1)/\
 Hc J tg tc te (λys H=>∀p,H p=dg->Q (.ref p) (upd H p<|.lst ys)) W
section
variable {X:Cx}{Á:List (Ì×Obj)}{σ:St}{H2:Hp}{s2:Å}
variable {scope:Ů} {x:List Str} {ö:List Nat} {cl:List (Str×Ì)} {fp:List Ì}
def Bf{s3:Å}{D:Ì}{h1:ċ}{tk:Nat}{m:Str->Option Â}(B:BlkOk X scope x ö)(I2:Inv X Á σ H2 s2)(f2:∀b∈fp,Wp X Á H2 b)
  (c1:∀x c,cl.lookup x=df c->X.env.cells.lookup x=df c) (c2:∀x,(x,Ġ)∈scope.names->∃c,cl.lookup x=df c)
  (I3:Inv X Á σ H2 s3) (hD:D=s2.heap.objs.size) (h3:s3.heap.objs.size=D+1) (ό:∀b o,s3.heap.get? b=df o->h1.get? b=df o) (hfp:∀b∈fp,b<s2.heap.objs.size)
  (hn:h1.Ns s3.heap.objs.size m) :
  Inv (Zu X scope (Z7 X x ö) cl s3.heap.objs.size s3 H2<|D::fp) [] (Õ x.length dg++OT σ ö) H2 {s3 with heap:=h1,toks:=tk}:=by
 have neD:∀b o,s2.heap.get? b=df o->b≠D:=λb o e=>by rw[hD];exact ì<|Ú e
 have exlt:∀b∈D::fp,b<s3.heap.objs.size:=λb hb=>by
  rw[h3];rcases Æ.mp hb with e|hb
  .rw[e];exact Č _
  .exact ĵ (by rw[hD];exact hfp b hb)
 have keeps:=I3.hok.kept (h':=h1) ό;refine⟨⟨I2.mod,B.kind,I2.ok.glob,I2.ok.blt,Ï _,λy z c e1 e2=>?_,λy hy=>?_,λy c e _=>(by cases e),λhc=>I2.ok.hd hc,I2.ok.frames,.inl rfl,λb hb=>?_,λb o e=>?_,?_,λb o e hb=>?_,λb hb hf=>?_,I3.stack,λb hb=>I2.stkFree b hb⟩,
   rfl,I3.bare,Un.kept ό,⟨m,hn,λi y v e1 e2 e3=>?_⟩,λy c e=>?_,I3.hok.fresh<|Ï _,λy c e=>I3.freeC y c<|c1 y c e,λp hp=>(nomatch hp),keeps,?_⟩
 .exact I2.ok.inj y z c (c1 y c e1)<|c1 z c e2
 .have hy:(bf scope X.env).names.lookup y=df .cell\/(bf scope X.env).names.lookup y=df .free:=hy;rcases hy with hy|hy
  .obtain⟨k0,a,b,c⟩:=ZZ hy;rcases c with c|⟨c,_⟩
   .subst c;exact fk rfl<|B.nocell _ a
   .subst c;exact c2 y a
  .obtain⟨k0,a,b,c⟩:=ZZ hy;rcases c with c|⟨_,c⟩
   .subst c;exact c2 y a
   .cases c
 .refine⟨ì<|exlt b hb,λy c e z=>?_⟩;have e':=c1 y c e;rcases Æ.mp hb with q|q
  .obtain⟨v,o,ho,_⟩:=I2.cell y c e';exact neD c o ho<|z.trans q
  .exact(f2 b q).2.2.2.2.1 y c e' z
 .exact I3.bs b o e
 .exact Ô I2.ok.bsz (Ô I2.sz<|show s2.heap.objs.size<=s3.heap.objs.size by rw[h3,hD];exact Ŭ _)
 .rcases Æ.mp hb with q|q
  .exact neD b o (I2.bk b o e) q
  .rcases (f2 b q).2.2.2.1 with z|z
   .exact I2.ok.noex b o e z
   .exact fk (å (Ú (I2.ok.bs b o e).1) z)<|Ď _
 .have hf:b∈frs X.stack:=hf;rcases Æ.mp (I2.stkSub b hf)with z|z
  .rcases Æ.mp hb with q|q
   .exact fk I2.lt (by rw[<-z,q,hD];exact Ď _)
   .exact(f2 b q).2.1 z
  .rcases Æ.mp hb with q|q
   .exact I2.nofs (a:=b) (by rw[q,hD];exact Ï _) z
   .exact(f2 b q).2.2.1 z
 .by_cases hik:i<x.length
  .rw[ā (by rw[õ];exact hik),ļ,ff hik]at e2;cases e2
  .have e1:(x++ö.map λj=>X.N.getD j Str.empty)[i]?=df y:=e1;rw[ć<|by lia]at e1;rw[ć (by rw[õ];lia),õ]at e2;generalize i - x.length=j at e1 e2;have e2:(ö.map λj=>(σ[j]?).getD dg)[j]?=df (df v):=e2;rw[Ø]at e1 e2;cases hj:ö[j]? with
   |none=>rw[hj]at e1;cases e1
   |some q =>
    rw[hj]at e1 e2;have e1':X.N.getD q Str.empty=y:=ï e1;have e2':(σ[q]?).getD dg=df v:=ï e2;let⟨hs,hk,hsc⟩:=B.cap q<|è hj;let⟨y',hy'⟩:=î.mp hs;have ey:y'=y:=by rw[<-e1',ĉ,hy'];rfl
    subst ey;have es:σ[q]?=df (df v):=by
     cases hq:σ[q]? with
     |none=>rw[hq]at e2';cases e2'
     |some o=>rw[hq]at e2';exact congrArg df e2'
    rw[e1']at hk hsc;let⟨m2,_,hl⟩:=I3.loc;have aU:X.env.scope.names.lookup y'=df .cell:=hk;let⟨u,r,l⟩:=hl q y' v hy' es<|.inr<|.inl aU;refine⟨u,r,.inr ⟨?_,?_⟩⟩
    .rcases e3 with e3|e3|e3
     .obtain⟨k0,a,b,c⟩:=ZZ (show(bf scope X.env).names.lookup y'=df .local from e3);rw[hsc]at b;cases b;rcases c with c|⟨_,c⟩<;>cases c
     .exact .inl e3
     .exact .inr e3
    .rcases l with⟨l,_⟩|⟨_,c,hc,z⟩
     .rw[hk]at l;cases l
     .obtain⟨c',hc'⟩:=c2 y'<|PySem.mem_of_lookup hsc;have ec:c'=c:=ï<|(c1 y' c' hc').symm.trans hc;subst ec;let⟨o,ho,hd⟩:=z;exact⟨c',hc',o,ό c' o ho,hd⟩
 .obtain⟨v,o,ho,hd⟩:=I3.cell y c<|c1 y c e;exact⟨v,o,ό c o ho,hd⟩
 .show _=(Z7 X x ö).length;unfold Z7 OT;rw[ã,ã,À,À,õ]
def XB{env:Env}(h:∀y∈scope.names,y.2=.free->∃c,env.cells.lookup y.1=df c) :
  ∃cl,closureFor scope env=pure cl/\(∀x c,cl.lookup x=df c->env.cells.lookup x=df c)/\∀x,(x,Ġ)∈scope.names->∃c,cl.lookup x=df c:=by
 let⟨cl,h1,h2,_,h4⟩:=YG (env:=env) scope.names [] h λx c e=>nomatch e;refine⟨cl,?_,h2,h4⟩;simp only[closureFor];have e:(forIn scope.names ([]:List<|Str×Ì) λx r =>
     (match x with
     | (name,kind)=>if(kind == Ġ)=dh then do let a<-cellOf env name;pure (Ī<|(name,a)::r)else pure (Ī r):Sem<|ForInStep<|List<|Str×Ì))=pure cl:=h1
 first
  |(rw[e];rfl)
  |(refine Eq.trans (congrArg (· >>= pure) ?_) (rfl:(pure cl >>= pure:Sem _)=pure cl);exact e)
variable {aV:Expr} {Ś:Expr} {aw:List Expr} {ç:Pos}
def M9{prog:ë}{A:Ğ}{R:Result->Å->Prop}{s:Å}{Ϙ:Expr}{it ħ:Â}{env:Env}(I:Nat->Å->Prop)
  (turn:∀n s,I n s->wpAny (â prog w) A (az it) (λr ģ=>match r with
    |none=>R (.ok .next) ģ
    | some v=>wpAny (â prog w) A (Υ Ϙ it v) (λ_ ģ=>wpAny (â prog w) A (Ű Ϙ env v) (λ_ bd =>
        wpAny (â prog w) A (forIn aw dh λc r=>if r=dh then do let ok<-bu c env (eval c env);pure (Ī ok)else pure (Ī r)) (λok ϴ =>
          if ok=dh then wpAny (â prog w) A (eval aV env) (λx s₄ =>
            wpAny (â prog w) A (call (.builtin "list.append") [ħ,x]) (λ_ s₅=>∃m,m<n/\I m s₅) (λ_ _=>False) s₄) (λ_ _=>False) ϴ
          else ∃m,m<n/\I m ϴ) (λ_ _=>False) bd) (λ_ _=>False) ģ) (λ_ _=>False) ģ) (λ_ _=>False) s)
  (n:Nat) (h:I n s) :
  codeAny (â prog w) A (.compLoop (.ListComp aV [⟨Ϙ,Ś,aw,0⟩] scope ç) 0 it ħ env) R s:=by
 refine codeAny_loop rfl I (λn s hI=>?_) n h;show wpAny _ A ((compTurn (.ListComp aV [⟨Ϙ,Ś,aw,0⟩] scope ç) 0 it ħ env).onRaise λx=>do aC x env;theTreesLotGoes x) _ _ s;refine wpAny_noted ?_;rw[compTurn_list];refine Ã<|cb<|Ã<|Ņ (turn n s hI) (λr ģ aI=>?_) λ_ _ h'=>h'.elim;cases r with
 |none=>exact Ù aI
 |some v =>
  refine Ã<|Ņ aI (λ_ ģ aI=>?_) λ_ _ h'=>h'.elim;refine Ã<|Ņ aI (λ_ bd h₂=>Ã<|Ņ h₂ (λok ϴ h₃=>?_) λ_ _ h'=>h'.elim) λ_ _ h'=>h'.elim;cases ok with
  |false=>exact Ù ⟨rfl,h₃⟩
  |true =>exact Ã<|Ã<|Ņ h₃ (λx s₄ h₄=>Ã<|Ņ h₄ (λ_ s₅ h₅=>Ù<|Ù ⟨rfl,h₅⟩) λ_ _ h'=>h'.elim) λ_ _ h'=>h'.elim
variable {aJ:Expr} {tg:TG} {tc:TT} {te:TE}
def KH{it:Ì}{tn:Nat->ċ->Prop}{J:It}{Fin:List V->Hp->Prop}{W:Nat->Nat->List V->St->Hp->Prop}{E:Â->Å->Prop}
  {RR:Â->Ì->Result->Å->Prop}{m0:Nat}(hc:X.calm=dh) (B:BlkOk X scope x ö) (I2:Inv X Á σ H2 s2) (T:Turn X.prog X.w X.K aJ J fp it tn) (st2:tn 0 s2.heap) (f2:∀b∈fp,Wp X Á H2 b)
  (c1:∀x c,cl.lookup x=df c->X.env.cells.lookup x=df c) (c2:∀x,(x,Ġ)∈scope.names->∃c,cl.lookup x=df c)
  (hI:∀cl C s H ex,PIfs (Zu X scope (Z7 X x ö) cl C s H ex) aw tc) (hE:∀cl C s H ex,PE (Zu X scope (Z7 X x ö) cl C s H ex) aV te)
  (hG:∀cl C s H ex,PG (Zu X scope (Z7 X x ö) cl C s H ex) aJ tg) (w0:W 0 m0 [] (Õ x.length dg++OT σ ö) H2) (cw:Hc J tg tc te Fin W)
  (hRR:∀D C s' H' ys m,H' D=dg->s'.heap.Ns C m->Wp X Á (upd H' D<|.lst ys) C->Inv X Á σ (upd H' D<|.lst ys) s'->Fin ys H'->RR (.ref D) C (.ok .next) s') :
  wpAny (â X.prog X.w) X.A (newList []) (λħ ϴ=>wpAny (â X.prog X.w) X.A (newFunctionEnv scope X.env.globals cl [] X.env.qual dg .none<|df X.env) (λcenv s₄ =>
    codeAny (â X.prog X.w) X.A (.compStart (.ListComp aV [⟨aJ,Ś,aw,0⟩] scope ç) 0 (.ref it) ħ { cenv with scope:=bf scope X.env }) (RR ħ cenv.locals) s₄) E ϴ) E s2:=by
 refine Ĺ (wpAny_newFunctionEnv B.nocell (by intro y hy;simp at hy) (λaI bP bQ=>?_) B.kind);dsimp only at bP bQ ⊢;have hfp:∀b∈fp,b<s2.heap.objs.size:=λb hb=>by let⟨o,e,_⟩:=T.obj _ _ st2 b hb;exact Ú e
 have I3:Inv X Á σ H2 {s2 with heap:=s2.heap.push {cls:=.type "list",dict:=dg,data:=.seq ([]:List Â).toArray}}:=I2.kept (t':=s2.toks) λb o e=>Ä _ e;have h3:(s2.heap.push {cls:=.type "list",dict:=dg,data:=.seq ([]:List Â).toArray}).objs.size=s2.heap.objs.size+1:=Ō ..;have cy:(s2.heap.push {cls:=.type "list",dict:=dg,data:=.seq ([]:List Â).toArray}).get? s2.heap.objs.size=df {cls:=.type "list",dict:=dg,data:=.seq ([]:List Â).toArray}:=Ý _ rfl;have bR:∀b o,s2.heap.get? b=df o->(s2.heap.push {cls:=.type "list",dict:=dg,data:=.seq ([]:List Â).toArray}).get? b=df o:=λb o e=>Ä _ e;generalize hH3:s2.heap.push {cls:=.type "list",dict:=dg,data:=.seq ([]:List Â).toArray}=h3' at bP bQ I3 h3 cy bR ⊢;have ό:∀b o,h3'.get? b=df o->aI.get? b=df o:=λb o e=>bQ.extBut b o (ì<|Ú e)<|Ä _ e;have hDC:s2.heap.objs.size≠h3'.objs.size:=by rw[h3];exact ì<|Č _
 have IB:=Bf (cl:=cl) (fp:=fp) (s3:={s2 with heap:=h3'}) (D:=s2.heap.objs.size) (h1:=aI) (tk:=s2.toks+([]:List<|Str×Â).length) B I2 f2 c1 c2 I3 rfl h3 ό hfp bP;generalize hY:Zu X scope (Z7 X x ö) cl h3'.objs.size {s2 with heap:=h3'} H2 (s2.heap.objs.size::fp)=Y at IB;have yP:Y.prog=X.prog:=by rw[<-hY];rfl
 have yw:Y.w=X.w:=by rw[<-hY];rfl
 have yK:Y.K=X.K:=by rw[<-hY];rfl
 have yA:Y.A=X.A:=by rw[<-hY];rfl
 have yc:Y.calm=dh:=by rw[<-hY];exact hc
 have yenv:Y.env=compEnvC scope cl h3'.objs.size X.env:=by rw[<-hY];rfl
 have hIY:PIfs Y aw tc:=by rw[<-hY];exact hI _ _ _ _ _
 have hEY:PE Y aV te:=by rw[<-hY];exact hE _ _ _ _ _
 have yxe:Y.xe=λ_ _=>False:=by rw[<-hY];rfl
 have ypn:Y.pn=[]:=by rw[<-hY];rfl
 have hgN:PG Y aJ tg:=by rw[<-hY];exact hG _ _ _ _ _
 have fD:∀{H':Hp},H' s2.heap.objs.size=dg->Wp Y [] H' s2.heap.objs.size:=λ{H'} hn=>by
  refine⟨hn,?_,?_,?_,?_,λp hp=>?_⟩
  .rw[yenv];exact hDC
  .exact IB.ok.exfs _ (by rw[<-hY];exact ñ)
  .exact .inl (by rw[<-hY];exact ñ)
  .exact λy c e=>(IB.ok.exf _<|by rw[<-hY];exact ñ).2 y c e
  .rw[ypn]at hp;exact nomatch hp
 have fF:∀{H':Hp},(∀b∈fp,H' b=dg)->∀b∈fp,Wp Y [] H' b:=λ{H'} hn b hb=>by
  have hm:b∈Y.ex:=by rw[<-hY];exact ß _ hb
  refine⟨hn b hb,?_,IB.ok.exfs b hm,.inl hm,λy c e=>(IB.ok.exf b hm).2 y c e,λp hp=>?_⟩
  .exact(IB.ok.exf b hm).1
  .rw[ypn]at hp;exact nomatch hp
 have acc0:aI.PlainList s2.heap.objs.size ([]:List Â).toArray:=⟨0,by exact ό _ _ cy⟩
 have loop:∀ϴ:Å,ϴ={s2 with heap:=aI,toks:=s2.toks+([]:List<|Str×Â).length}->
   codeAny (â X.prog X.w) X.A (.compLoop (.ListComp aV [⟨aJ,Ś,aw,0⟩] scope ç) 0 (.ref it) (.ref s2.heap.objs.size)<|compEnvC scope cl h3'.objs.size X.env) (RR (.ref s2.heap.objs.size) h3'.objs.size) ϴ:=by
  rintro ϴ rfl;refine M9 (λn s'=>∃i ys ð τ H',Inv Y [] τ H' s'/\tn i s'.heap/\(∀b∈fp,H' b=dg)/\H' s2.heap.objs.size=dg/\eV ys ð/\s'.heap.PlainList s2.heap.objs.size ð.toArray/\W i n ys τ H') ?_ m0
   ⟨0,[],[],_,H2,IB,T.keep _ _ _ st2 λb hb o e=>ό _ _<|bR _ _ e,λb hb=>(f2 b hb).1,I2.fresh,.nil,acc0,w0⟩
  rintro n s3 ⟨i,ys,ð,τ,H3,I3',st3,fr3,frD,rv,pl,w3⟩;have cv:∀{α:Type}{f:Sem α}{Q Q':α->Å->Prop}{s:Å},wpAny (â Y.prog Y.w) Y.A f Q Y.xe s->(∀a s',Q a s'->Q' a s')->wpAny (â X.prog X.w) X.A f Q' (λ_ _=>False) s:=λ{α f Q Q' s} h hq=>by rw[yP,yw,yA,yxe]at h;exact Ņ h hq λ_ _ e=>e
  have cvX:∀{α:Type}{f:Sem α}{Q Q':α->Å->Prop}{s:Å},wpAny (â X.prog X.w) Y.A f Q (λ_ _=>False) s->(∀a s',Q a s'->Q' a s')->wpAny (â X.prog X.w) X.A f Q' (λ_ _=>False) s:=λ{α f Q Q' s} h hq=>by rw[yA]at h;exact Ņ h hq λ_ _ e=>e
  let⟨nD,hD3⟩:=id pl;have plD:∀b∈[s2.heap.objs.size],∃o,s3.heap.get? b=df o/\∀v,o.data≠.cell v:=λb hb=>by
   have e:b=s2.heap.objs.size:=⇑hb
   subst e;exact⟨_,hD3,λv z=>by cases z⟩
  have IP:=I3'.pinned (fp:=[s2.heap.objs.size]) (λb hb=>by
    have e:b=s2.heap.objs.size:=⇑hb
    subst e
    exact fD frD) plD
  have memD:=ZV (fp:=[s2.heap.objs.size]) (Ñ.mpr rfl) hD3;have fF':∀b∈fp,Wp Y ([]++XE [s2.heap.objs.size] s3.heap) H3 b:=λb hb=>by
   let⟨q1,q2,q3,q4,q5,q6⟩:=fF fr3 b hb;refine⟨q1,q2,q3,q4,q5,λp hp=>?_⟩;rw[ypn]at hp;let⟨bq,_⟩:=KY (show p∈XE [s2.heap.objs.size] s3.heap by simpa using hp);have e:p.1=s2.heap.objs.size:=⇑bq
   rw[e];exact(ì<|hfp b hb).symm
  obtain⟨hys,h|⟨go,N,hN,step⟩⟩:=cw i n ys τ H3 w3
  .obtain⟨stop,fin⟩:=h;refine cvX (T.done Y yP yw yK yc i _ s3 _ H3 _ IP fF' st3 stop) λr s4 ⟨hr,I4⟩=>?_;subst hr;let⟨m4,hm4,_⟩:=I4.loc;rw[yenv]at hm4;have ϵ:Un (frs X.stack) (s2.heap.objs.size::fp) H2 H3 h3' s4.heap:=by
    have:=I4.base;rw[<-hY]at this;exact this
   have hok4:HOk X.prog X.w H3 s4.heap:=by have:=I4.hok;rw[yP,yw]at this;exact this
   have pl4:=(I4.pin _<|È _<|È _ memD).1;have nC:H3 h3'.objs.size=dg:=by have:=I4.free;rw[yenv]at this;exact this
   have hlen:ys.length<=Ü:=ρ hys;have osEq:s4.os=s2.os:=by have:=I4.os;rw[<-hY]at this;exact this
   have neD:∀b o,s2.heap.get? b=df o->b≠s2.heap.objs.size:=λb o e=>ì<|Ú e;have nin:∀b o,s2.heap.get? b=df o->b∉fp->b∉s2.heap.objs.size::fp:=λb o e hb z=>(Æ.mp z).elim (neD b o e) hb;have hokN:HOk X.prog X.w (upd H3 s2.heap.objs.size<|.lst ys) s4.heap:=hok4.track frD ⟨hlen,ð,nD,rv,pl4⟩;have U:Un (frs X.stack) fp H2 (upd H3 s2.heap.objs.size<|.lst ys) s2.heap s4.heap:=by
    refine⟨λb o e hn hf hx=>ϵ.keep b o (bR b o e) hn hf<|nin b o e hx,λb o e hn hf hx=>ϵ.slot b o (bR b o e) hn hf<|nin b o e hx,λb o e hn hx=>?_,λb o e hx=>ϵ.there b o (bR b o e)<|nin b o e hx,λb xs e=>?_,λb o xs e=>?_,λb ps e=>?_⟩
    .rw[dj<|neD b o e];exact ϵ.free b o (bR b o e) hn<|nin b o e hx
    .have q:=ϵ.tups b xs e;rw[dj<|Zj q frD];exact q
    .have q:=ϵ.frzs b o xs e;rw[dj<|Zj q frD];exact q
    .obtain⟨more,q⟩:=ϵ.tbls b ps e;exact⟨more,by rw[dj<|Zj q frD];exact q⟩
   have I5:Inv X Á σ (upd H3 s2.heap.objs.size<|.lst ys) s4:=I2.call' (ch:=fp) osEq U hokN I4.bare λb hb=>by let⟨_,q2,_,q4,q5,q6⟩:=f2 b hb;exact⟨q4,q2,q5,q6⟩
   exact hRR _ _ _ _ _ m4 frD hm4 (I2.fpOk (ρ<|by rw[h3];exact Č _)<|by rw[dj hDC.symm];exact nC) I5 fin
  .refine cvX (T.item Y yP yw yK yc i _ s3 _ H3 _ IP fF' st3 go) λr s4 ⟨u,hr,h4⟩=>?_;subst hr;refine cvX h4 λ_ s5 ⟨y,H5,I5,r5,y5,st5,fr5⟩=>?_;have frD5:H5 s2.heap.objs.size=dg:=(I5.pin _<|È _<|È _ memD).2.1;have hD5:=(I5.pin _<|È _<|È _ memD).1;have I5p:=I5.unpinned.pinned (fp:=s2.heap.objs.size::fp) (λb hb=>by
     rcases Æ.mp hb with e|hb
     . subst e;exact fD frD5
     . exact fF fr5 b hb) (λb hb=>by
     rcases Æ.mp hb with e|hb
     . subst e;exact⟨_,hD5,λv z=>by cases z⟩
     . exact T.obj _ _ st5 b hb)
   have memD5:=ZV (fp:=s2.heap.objs.size::fp) ñ hD5;rw[<-yenv];refine cv (hgN _ s5 _ H5 y u _ I5p r5<|step y H5 y5) λ_ s6 ⟨σ6,H6,I6,q6⟩=>?_;have Ϸ:∀{m':Nat}{aH:St}{H7:Hp}{s7:Å}{ys':List V}{its':List Â},Inv Y [] aH H7 s7->tn (i+1) s7.heap->(∀b∈fp,H7 b=dg)->H7 s2.heap.objs.size=dg->eV ys' its'->s7.heap.PlainList s2.heap.objs.size its'.toArray->m'<n/\W (i+1) m' ys' aH H7->
     ∃m,m<n/\∃i ys ð τ H',Inv Y [] τ H' s7/\tn i s7.heap/\(∀b∈fp,H' b=dg)/\H' s2.heap.objs.size=dg/\eV ys ð/\s7.heap.PlainList s2.heap.objs.size ð.toArray/\W i m ys τ H' :=
    λ{m' aH H7 s7 ys' its'} J1 st7 fr7 fd7 rv7 pl7 wm=>⟨m',wm.1,i+1,ys',its',aH,H7,J1,st7,fr7,fd7,rv7,pl7,wm.2⟩
   have stay:∀{aH:St}{H7:Hp}{s7:Å},Inv Y ([]++XE (s2.heap.objs.size::fp) s5.heap) aH H7 s7->tn (i+1) s7.heap/\(∀b∈fp,H7 b=dg)/\H7 s2.heap.objs.size=dg/\s7.heap.get? s2.heap.objs.size=df {cls:=.type "list",data:=.seq ð.toArray nD}:=by intro aH H7 s7 J1;refine⟨T.keep _ _ _ st5 λb hb o e=>(J1.pin (b,o)<|È _<|È _<|ZV (ß _ hb) e).1,λb hb=>?_,(J1.pin _<|È _<|È _ memD5).2.1,(J1.pin _<|È _<|È _ memD5).1⟩;let⟨o,e,d⟩:=T.obj _ _ st5 b hb;exact(J1.pin (b,o)<|È _<|È _<|ZV (ß _ hb) e).2.1
   refine cv (hIY _ s6 _ H6 _ I6 q6) λok s7 ⟨H7,I7,q7⟩=>?_;cases ok with
   |false =>rw[fg<|by decide]at q7;rw[fg<|by decide];let⟨m',wm⟩:=hN _ _ _ q7;let⟨a1,a2,a3,a4⟩:=stay I7;exact Ϸ I7.unpinned a1 a2 a3 rv ⟨nD,a4⟩ wm
   |true =>
    rw[ff rfl]at q7;rw[ff rfl];refine cv (hEY _ s7 _ H7 _ I7 q7) λz s8 ⟨vz,H8,I8,rz,wm⟩=>?_;let⟨m',wm⟩:=hN _ _ _ wm;let⟨a1,a2,a3,a4⟩:=stay I8;have hlen:=rv.length;refine wpAny_list_append_plain (hsz:=by rw[É];lia) (⟨nD,a4⟩:s8.heap.PlainList _ ð.toArray) λh9 hl9 hs9=>?_;let⟨q1,q2,q3,q4,q5,q6⟩:=fD a3;have I9:Inv Y [] _ H8 {s8 with heap:=h9}:=I8.unpinned.turned (t':=s8.toks) (λb o hb e=>hs9.extBut b o hb e) q1 q2 q4 q5 q6;refine Ϸ I9 (T.keep _ _ _ a1 λb hb o e=>hs9.extBut b o (ì<|hfp b hb) e) a2 a3 (its':=ð++[z]) (rv.append<|.cons rz .nil) ?_ wm;have e:ð.toArray.push z=(ð++[z]).toArray:=by simp
    rw[e]at hl9;exact hl9
 exact codeAny_compStart_list (loop _ rfl)<|T.self _ 0 _ _ _ (T.keep _ _ _ st2 λb hb o e=>ό _ _<|bR _ _ e)<|loop _ rfl
variable {wi:TI}
def DA(hc:X.calm=dh)(B:BlkOk X scope x ö)(hi:PI X aJ Ś wi)(hG:∀cl C s H ex,PG (Zu X scope (Z7 X x ö) cl C s H ex) aJ tg)
  (hI:∀cl C s H ex,PIfs (Zu X scope (Z7 X x ö) cl C s H ex) aw tc) (hE:∀cl C s H ex,PE (Zu X scope (Z7 X x ö) cl C s H ex) aV te)
  (hs:∀x,ď Ś X.env x=pure x:=by intro _;rfl):PE X (.ListComp aV [⟨aJ,Ś,aw,0⟩] scope ç)<|DY wi x.length ö tg tc te:=by
 intro Á s σ H Q I h;let⟨cl,aK,c1,c2⟩:=XB (scope:=scope) (env:=X.env) λy hy e=>I.ok.has y.1<|.inl<|B.frees y hy e;rw[eval_ListComp];refine cj (use:=dg) rfl hs aK B.kind B.locs<|thn (hi Á s σ H _ I h) λv s1 h1=>thn h1 λitv s2 h2=>?_;let⟨it,fp,tn,J,H2,e,I2,T,st2,f2,W,⟨m0,w0⟩,cw⟩:=h2;subst e;refine KH (RR:=λħ C=>compPost (â X.prog X.w) X.A X.xe dg (EP X Á σ Q) ħ C) hc B I2 T st2 f2 c1 c2 hI hE hG w0 cw ?_;intro D C s' H' ys m hD hn fC I' fin;let⟨q1,q2,q3,q4,q5,q6⟩:=fC;exact⟨m,hn,λh' hs'=>⟨.ref D,_,I'.turned (t':=s'.toks) (λb o hb e=>hs'.extBut b o hb e) q1 q2 q4 q5 q6,rfl,fin D hD⟩⟩
def Dn{y:Str}{py:Pos}{i:Nat}{Ζ:Pos}(hN:X.N.Nodup)(hi':X.N[i]?=df y)(hy:Loc X.env.scope y)(hc:X.calm=dh)(B:BlkOk X scope x ö)(hi:PI X aJ Ś wi)(hG:∀cl C s H ex,PG (Zu X scope (Z7 X x ö) cl C s H ex) aJ tg)
  (hI:∀cl C s H ex,PIfs (Zu X scope (Z7 X x ö) cl C s H ex) aw tc) (hE:∀cl C s H ex,PE (Zu X scope (Z7 X x ö) cl C s H ex) aV te)
  (hs:∀x,ď Ś X.env x=pure x:=by intro _;rfl)
  (hsw:ş (.ListComp aV [⟨aJ,Ś,aw,0⟩] scope ç) (df<|.Name y py) Ζ.line X.env=pure dh:=by rfl)
  (hf:X.fn y=dh\/X.env.scope.names.lookup y=df .local:=by first|exact .inl rfl|exact .inr rfl|assumption) :
  PS X (.Assign [.Name y py] (.ListComp aV [⟨aJ,Ś,aw,0⟩] scope ç) Ζ) (Q4 (DY wi x.length ö tg tc te)<|G0 i):=by
 intro Á s σ H D I h;let⟨cl,aK,c1,c2⟩:=XB (scope:=scope) (env:=X.env) λy hy e=>I.ok.has y.1<|.inl<|B.frees y hy e;rw[exec_Assign_Name_used _ _ _ _ hsw];refine Ã<|cb<|Ã ?_;show wpAny _ X.A (do let _<-comprehension (.ListComp aV [⟨aJ,Ś,aw,0⟩] scope ç) scope X.env _ (newList []) di (eval Ś X.env) (df<|Ű (.Name y py) X.env)) _ _ s;refine Ã (Ņ (cj (use:=df<|Ű (.Name y py) X.env) (Q:=λ_ s'=>SP X Á D .next s') rfl hs aK B.kind B.locs
   (thn (hi Á s σ H _ I h) λv s1 h1=>thn h1 λitv s2 h2=>?_)) (λ_ s' hq=>Ù<|Ù hq) λ_ _ e=>e)
 let⟨it,fp,tn,J,H2,e,I2,T,st2,f2,W,⟨m0,w0⟩,cw⟩:=h2;subst e;refine KH (RR:=λħ C=>compPost (â X.prog X.w) X.A X.xe (df<|Ű (.Name y py) X.env) (λ_ s'=>SP X Á D .next s') ħ C) hc B I2 T st2 f2 c1 c2 hI hE hG w0 cw ?_;intro Dd C s' H' ys m hD hn fC I' fin;let⟨q1,q2,q3,q4,q5,q6⟩:=fC;show wpAny _ _ (Ű (.Name y py) X.env<|.ref Dd) _ _ _;refine wpAny_assign_Name<|Kx I' hN hi' hy (v:=.ref Dd) rfl (λs2 I2 ⟨a,hs2,ha⟩=>?_) hf;have ne:C≠a:=by
  rcases ha with z|z
  .rw[z];exact q2
  .exact(q5 y a z).symm
 refine⟨m,hn.sameBut hs2 ne,λh' hs'=>?_⟩;exact⟨_,_,I2.turned (t':=s2.toks) (λb o hb e=>hs'.extBut b o hb e) q1 q2 q4 q5 q6,fin Dd hD⟩
end
mutual
inductive IsD (K:Frag) (H:Hp):V->ϔ->Prop
 |non:IsD K H .non .none
 |bl (b:Bool):IsD K H (.bl b)<|.bool b
 |int (i:Int):IsD K H (.int i)<|.int i
 |str (x:Str):IsD K H (.str x)<|.str x
 |lst {a:Ì}{xs:List V}{ds:List ϔ}:eS K H a xs->IsDs K H xs ds->IsD K H (.ref a) (.list ds)
 |tup {a:Ì}{xs:List V}{ds:List ϔ}:eU K H a xs->IsDs K H xs ds->IsD K H (.ref a) (.tuple ds)
inductive IsDs (K:Frag) (H:Hp):List V->List ϔ->Prop
 |nil:IsDs K H [] []
 |cons {x:V}{xs:List V}{d:ϔ}{ds:List ϔ}:IsD K H x d->IsDs K H xs ds->IsDs K H (x::xs) (d::ds)
end
section
variable {X:Cx}{Á:List (Ì×Obj)}{σ:St}{H:Hp}{s:Å}
mutual
theorem IsD.reads(I:Inv X Á σ H s):∀{v:V}{d:ϔ}{u:Â},IsD X.K H v d->RelV v u->∃as,Reads s.heap u d as
 |_,_,_,.non,r=>by cases r;exact⟨_,.none⟩
 |_,_,_,.bl b,r=>by cases r;exact⟨_,.bool b⟩
 |_,_,_,.int i,r=>by let⟨t,rfl⟩:=r;exact⟨_,.int i t⟩
 |_,_,_,.str x,r=>by let⟨t,rfl⟩:=r;exact⟨_,.str x t⟩
 |_,_,_,.lst q qs,r=>by cases r;let⟨ð,rv,⟨o,n,e,c,_,d⟩,_⟩:=I.list q;let⟨as,ra⟩:=IsDs.reads I qs rv;exact⟨_,.list e c d<|by simpa using ra⟩
 |_,_,_,.tup q qs,r=>by cases r;let⟨ð,rv,⟨o,e,c,n,d⟩,_⟩:=I.tuple q;let⟨as,ra⟩:=IsDs.reads I qs rv;exact⟨_,.tuple e c d<|by simpa using ra⟩
theorem IsDs.reads(I:Inv X Á σ H s):∀{vs:List V}{ds:List ϔ}{us:List Â},IsDs X.K H vs ds->eV vs us->∃as,ReadsAll s.heap us ds as
 |_,_,_,.nil,.nil=>⟨_,.nil⟩
 |_,_,_,.cons q qs,.cons r rs=>by let⟨as,ra⟩:=IsD.reads I q r;let⟨bs,rb⟩:=IsDs.reads I qs rs;exact⟨_,.cons ra rb⟩
end
end
def IsDs.ints{K:Frag}{H:Hp}:∀ns:List Int,IsDs K H (ns.map V.int) (ns.map PyData.int)
 |[]=>.nil
 |n::ns=>.cons (.int n)<|IsDs.ints ns
section
variable {X:Cx}
abbrev Qq(K:Frag):R2:=λx y H Q=>∃d e,IsD K H x d/\IsD K H y e/\SeqAt.shaped d=dh/\SeqAt.shaped e=dh/\Q (.bl<|ġ d e) H
abbrev PB(K:Frag):R2:=λx y H Q=>∃d e,IsD K H x d/\IsD K H y e/\SeqAt.shaped d=dh/\SeqAt.shaped e=dh/\Q (.bl (!ġ d e)) H
def Pb(hu:X.A.units+64<Ĥ):OpR X (é .Eq)<|Qq X.K:=by intro Á s σ H x y v u Q I rx ry h;let⟨d,e,hd,he,sd,se,q⟩:=h;let⟨as,ra⟩:=hd.reads I rx;let⟨bs,rb⟩:=he.reads I ry;exact SeqAt.compareEq_shaped ra rb sd se hu ⟨.bl _,H,I,rfl,q⟩
def II(hu:X.A.units+64<Ĥ):OpR X (é .NotEq)<|PB X.K:=by intro Á s σ H x y v u Q I rx ry h;let⟨d,e,hd,he,sd,se,q⟩:=h;let⟨as,ra⟩:=hd.reads I rx;let⟨bs,rb⟩:=he.reads I ry;exact SeqAt.compareNe_shaped ra rb sd se hu ⟨.bl _,H,I,rfl,q⟩
inductive TyV (K:Frag) (H:Hp):V->Â->Prop
 |of {x:V}{t:Â}:eN K H x t->TyV K H x t
 |tup {a:Ì}{xs:List V}:eU K H a xs->TyV K H (.ref a) (.type "tuple")
 |lst {a:Ì}{xs:List V}:eS K H a xs->TyV K H (.ref a) (.type "list")
def Bt:dA X (.builtin "isinstance") λxs H Q=>∃x T t b,xs=[x,.ty T]/\TyV X.K H x t/\PySem.W.kitOne X.K t (.type T)=df b/\Q (.bl b) H:=by
 intro Á s σ H xs us Q I r h;let⟨x,T,t,b,rfl,ty,e,q⟩:=h;let⟨u,v,rfl,ru,rv⟩:=UL r;cases rv;cases ty with
 |of ty=>exact Ah I ru ty e λtk=>⟨.bl b,H,I.tok tk,rfl,q⟩
 |tup hq =>cases ru;let⟨ð,_,⟨o,h1,h2,_⟩,_⟩:=I.tuple hq;exact PySem.W.kia_one PySem.W.kitx_tuple I.kIn ⟨o,h1,h2⟩ e (λz=>nomatch z) λtk=>⟨.bl b,H,I.tok tk,rfl,q⟩
 |lst hq =>cases ru;let⟨ð,_,⟨o,n,h1,h2,_⟩,_⟩:=I.list hq;exact PySem.W.kia_one PySem.W.kitx_list I.kIn ⟨o,h1,h2⟩ e (λz=>nomatch z) λtk=>⟨.bl b,H,I.tok tk,rfl,q⟩
def BW(hc:X.calm=dh):dA X (.builtin "all") λxs H Q=>∃p,∃bs:List Bool,xs=[.ref p]/\eS X.K H p (bs.map V.bl)/\Q (.bl<|bs.all id) H:=by
 intro Á s σ H xs us Q I r h;let⟨p,bs,rfl,hq,q⟩:=h;let⟨u,rfl,rx⟩:=ZM r;cases rx;let⟨ð,rv,pl,hz⟩:=I.list hq;have hlen:=rv.length;rw[À]at hlen;have Τ:p<s.heap.objs.size:=by let⟨o,n,e,_⟩:=pl;exact Ú e
 refine call_all_walk<|aj pl.isList ?_;refine⟨s.heap.objs.size,_,_,ð.toArray.size,_,_,λi=>bs.getD i dh,rfl,Walks.list (A:=X.A.in1) (I.ok.hd hc) s.heap.objs.size p (ì Τ) ð.toArray,⟨⟨_,Ý _ rfl,rfl,rfl⟩,pl.isList.push _⟩,?_,λh' tk hk=>?_⟩
 .intro i v s' Q' E' hP hQ;have hP:ð[i]?=df v:=⇑hP
  have hb:(bs.map V.bl)[i]?=df (.bl<|bs.getD i dh):=by
   have hi:i<bs.length:=by have:=(Î.mp hP).1;lia
   rw[Ø,ĉ];simp[hi]
  let⟨u,hu,ru⟩:=rv.get hb;rw[hP]at hu;cases hu;cases ru;exact Ć hQ
 .have e:(List.range ð.toArray.size).all (λi=>bs.getD i dh)=bs.all id:=by
   rw[É,<-hlen,Ϻ,ù,ù];constructor
   .intro h b hb;let⟨i,hi,rfl⟩:=List.mem_iff_getElem.mp hb;have:=h i<|ę.mpr hi;rw[ĉ,Ê hi]at this;exact this
   .intro h i hi;have hi:=ę.mp hi;rw[ĉ,Ê hi];exact h _<|ĥ hi
  rw[e];refine⟨.bl _,H,I.kept (t':=tk) λb o e=>hk b o (λhm=>?_)<|Ä _ e,rfl,q⟩;have:b=s.heap.objs.size:=⇑hm
  exact fk (this▸Ú e)<|Ď _
abbrev sortI(ns:List Int):List Int:=ns.mergeSort λa b=>fm (a<=b)
def JY(ns:List Int):(sortI ns).Perm ns:=ĺ ns _
def C5(ns:List Int):(sortI ns).Pairwise (·<=·):=by have h:=aZ (le:=λa b:Int=>fm (a<=b)) (λa b c h1 h2=>by simp at *;lia) (λa b=>by simp;lia) ns;exact h.imp λh=>⇑h
def Ji{ns ms:List Int}(hp:ms.Perm ns)(hs:ms.Pairwise (·<=·)):ms=sortI ns:=PySem.W.ksm_same (hp.trans (JY ns).symm) hs (C5 ns)
def Wk(ns:List Int):(sortI ns).length=ns.length:=(JY ns).length_eq
def Wb:∀{vs:List Â}{ns:List Int},Ě vs ns->eV (ns.map V.int) vs:=Wm
def call_sorted:dA X (.builtin "sorted") λxs H Q=>∃p,∃ns:List Int,xs=[.ref p]/\eS X.K H p (ns.map V.int)/\ns.length<64/\∀l,H l=dg->Q (.ref l) (upd H l<|.lst<|(sortI ns).map V.int):=by intro Á s σ H xs us Q I r h;let⟨p,ns,rfl,hq,h64,q⟩:=h;let⟨u,rfl,rx⟩:=ZM r;cases rx;let⟨ð,rv,pl,hz⟩:=I.list hq;have hlen:=rv.length;rw[À]at hlen;refine sorted_ints pl.isList (ZJ rv) (by lia) λout bN a1 a2 a3=>?_;have e:=Ji a2 a3;subst e;let⟨n,he⟩:=sortedAll_at s.heap ð out;refine⟨.ref<|s.heap.objs.size+1,_,I.laid (a:=s.heap.objs.size+1) (o:=.lst<|(sortI ns).map V.int) (t':=s.toks) (λb o e=>sortedAll_old e) (Ŭ _) ?_,rfl,q _<|I.hok.fresh<|Ŭ _⟩;exact⟨by rw[À,Wk];rw[À]at hz;exact hz,out.toList,n,Wb a1,by simpa[ϕ]using he⟩
def Ed:dA X (.type "set") (λxs H Q=>∃p,∃ns:List Int,xs=[.ref p]/\eS X.K H p (ns.map V.int)/\ns.length<4000/\X.calm=dh/\
    ∀l S n,H l=dg->n=(firstMet (λi=>ns.getD i 0) ns.length).length->Q (.ref l) (upd H l<|.set S n)):=by
 intro Á s σ H xs us Q I r h;let⟨p,ns,rfl,hq,h4,hc,q⟩:=h;let⟨u,rfl,rx⟩:=ZM r;cases rx;let⟨ð,rv,pl,hz⟩:=I.list hq;have hlen:=rv.length;rw[À]at hlen;refine call_set_list (I.ok.hd hc) pl.isList (by simpa using ZJ rv) (by rw[É];show ð.length+1<4096;lia) λh' tk hS hk=>?_;refine⟨.ref s.heap.objs.size,_,I.laid (a:=s.heap.objs.size) (o:=.set _ _) (t':=tk) (λb o e=>hk b o (Ú e) e) (Ï _) hS,rfl,q _ _ _ (I.hok.fresh<|Ï _) ?_⟩;rw[É,hlen]
def Am:dA X (.builtin "len") λxs H Q=>∃p S n,xs=[.ref p]/\H p=df (.set S n)/\Q (.int n) H:=by
 intro Á s σ H xs us Q I r h;let⟨p,S,n,rfl,hq,q⟩:=h;let⟨u,rfl,rx⟩:=ZM r;cases rx;let⟨o,es,ep,t,e,hex,hd,_,_,hb,hf,hn⟩:=(show dB X.prog X.w H s.heap p (.set S n) from I.hok p _ hq)
 subst hn;exact call_len_set e hex hd hf (by have:es.size<4096:=hb;lia) ⟨.int _,H,I.tok _,⟨_,rfl⟩,q⟩
def Wy{Á:List (Ì×Obj)}{σ:St}{H:Hp}{s:Å}{p:Ì}{i j:Int}(I:Inv X Á σ H s)(hq:eU X.K H p [.int i,.int j]) :
  ∃ð:List Â,ð.length=2/\ϣ s.heap p ð.toArray/\p<s.heap.objs.size/\∀k v,ð[k]?=df v->∃t,v=Value.int ([i,j].getD k 0) t:=by
 let⟨ð,rv,pl,hz⟩:=I.tuple hq;refine⟨ð,rv.length.symm,pl,?_,λk v hv=>?_⟩
 .obtain⟨o,e,_⟩:=pl;exact Ú e
 .have hk:k<2:=by
   have:=(Î.mp hv).1;rw[<-rv.length]at this;exact this
  have hb:([V.int i,V.int j]:List V)[k]?=df (.int<|[i,j].getD k 0):=by
   match k,hk with
   |0,_=>rfl
   |1,_=>rfl
  let⟨u,hu,ru⟩:=rv.get hb;rw[hv]at hu;cases hu;exact ru
def Ar(hc:X.calm=dh):dA X (.builtin "min") λxs H Q=>∃p i j,xs=[.ref p]/\eU X.K H p [.int i,.int j]/\Q (.int<|if j<i then j else i) H:=by
 intro Á s σ H xs us Q I r h;let⟨p,i,j,rfl,hq,q⟩:=h;let⟨u,rfl,rx⟩:=ZM r;cases rx;let⟨ð,hl,pl,Τ,hv⟩:=Wy I hq;refine call_min_walk (ň (show s.heap.IsTuple p ð.toArray from pl) ?_);refine⟨s.heap.objs.size,_,_,ð.toArray.size,_,_,λa b=>fm ([i,j].getD a 0<[i,j].getD b 0),rfl,Walks.tuple (A:=X.A.in1) (I.ok.hd hc) s.heap.objs.size p (ì Τ) ð.toArray,⟨⟨_,Ý _ rfl,rfl,rfl⟩,?_⟩,?_,?_,?_,λv h' tk hP hk=>?_⟩
 .obtain⟨o,e,r⟩:=pl;exact⟨o,Ä _ e,r⟩
 .intro b hb;show b<(s.heap.push _).objs.size;rw[Ō];rcases Æ.mp hb with e|hb
  .rw[e];exact Č _
  .have:b=p:=⇑hb
   rw[this];exact ĵ Τ
 .rw[É,hl];decide
 .exact CmpOf.ints_lt (λk=>[i,j].getD k 0) λk v hP=>hv k v ⇑hP
 .rw[É,hl]at hP;have hP:ð[Đ (λa b=>fm ([i,j].getD a 0<[i,j].getD b 0)) 1]?=df v:=⇑hP
  let⟨t,rfl⟩:=hv _ _ hP;have e:([i,j].getD (Đ (λa b=>fm ([i,j].getD a 0<[i,j].getD b 0)) 1) 0)=if j<i then j else i:=by
   unfold Đ;show([i,j].getD (if fm (j<i)=dh then 1 else 0) 0)=_;by_cases hji:j<i
   .simp[hji]
   .simp[hji]
  rw[e];refine⟨.int _,H,I.kept (t':=tk) λb o e=>hk b o (λhm=>?_)<|Ä _ e,⟨_,rfl⟩,q⟩;have:b=s.heap.objs.size:=⇑hm
  exact fk (this▸Ú e)<|Ď _
def AV(hc:X.calm=dh):dA X (.builtin "max") λxs H Q=>∃p i j,xs=[.ref p]/\eU X.K H p [.int i,.int j]/\Q (.int<|if j > i then j else i) H:=by
 intro Á s σ H xs us Q I r h;let⟨p,i,j,rfl,hq,q⟩:=h;let⟨u,rfl,rx⟩:=ZM r;cases rx;let⟨ð,hl,pl,Τ,hv⟩:=Wy I hq;refine call_max_walk (ň (show s.heap.IsTuple p ð.toArray from pl) ?_);refine⟨s.heap.objs.size,_,_,ð.toArray.size,_,_,λa b=>fm ([i,j].getD a 0 > [i,j].getD b 0),rfl,Walks.tuple (A:=X.A.in1) (I.ok.hd hc) s.heap.objs.size p (ì Τ) ð.toArray,⟨⟨_,Ý _ rfl,rfl,rfl⟩,?_⟩,?_,?_,?_,λv h' tk hP hk=>?_⟩
 .obtain⟨o,e,r⟩:=pl;exact⟨o,Ä _ e,r⟩
 .intro b hb;show b<(s.heap.push _).objs.size;rw[Ō];rcases Æ.mp hb with e|hb
  .rw[e];exact Č _
  .have:b=p:=⇑hb
   rw[this];exact ĵ Τ
 .rw[É,hl];decide
 .exact CmpOf.ints_gt (λk=>[i,j].getD k 0) λk v hP=>hv k v ⇑hP
 .rw[É,hl]at hP;have hP:ð[Đ (λa b=>fm ([i,j].getD a 0 > [i,j].getD b 0)) 1]?=df v:=⇑hP
  let⟨t,rfl⟩:=hv _ _ hP;have e:([i,j].getD (Đ (λa b=>fm ([i,j].getD a 0 > [i,j].getD b 0)) 1) 0)=if j > i then j else i:=by
   unfold Đ;show([i,j].getD (if fm (j > i)=dh then 1 else 0) 0)=_;by_cases hji:j > i
   .have h2:i<j:=hji;simp[h2]
   .have h2:¬ i<j:=hji;simp[h2]
  rw[e];refine⟨.int _,H,I.kept (t':=tk) λb o e=>hk b o (λhm=>?_)<|Ä _ e,⟨_,rfl⟩,q⟩;have:b=s.heap.objs.size:=⇑hm
  exact fk (this▸Ú e)<|Ď _
end
section
variable {X:Cx}{x:Str}{p ç:Pos}{e:Expr}{es:List Expr}{t:TA}
def Py{T:String}(hg:Gl X x)(hm:X.mg x=dg)(hv:Ŕ x=df (.type T))(hn:x≠"__name__":=by decide)(hd:(x==("__debug__" : Str))=di:=by decide):PE X (.Name x ç)<|tC<|.ty T:=Fu hg hm hv rfl hn hd
end
abbrev Yk(scope sc:Ů)(N:List Str)(x:List Str)(ö:List Nat):Bool :=
 scope.names.all (λy=>y.2 != .cell)&&scope.names.all (λy=>y.2 != .local||scope.names.lookup y.1==df .local)&&x.all (λy=>scope.names.lookup y==df .local) &&
 scope.names.all (λy=>y.2 != .free||sc.names.lookup y.1==df .cell) &&
 ö.all (λj=>fm (j<N.length)&&sc.names.lookup (N.getD j Str.empty)==df .cell&&scope.names.lookup (N.getD j Str.empty)==df .free)&&fm (x++ö.map λj=>N.getD j Str.empty).Nodup
def ON{X:Cx}{scope sc:Ů}{x:List Str}{ö:List Nat}{N:List Str}(hsc:X.env.scope=sc)(hN:X.N=N)(hk:scope.kind=.function)(h:Yk scope sc N x ö=dh):BlkOk X scope x ö:=by
 unfold Yk at h;simp only[bAq]at h;let⟨⟨⟨⟨⟨h1,h2⟩,h3⟩,h4⟩,h5⟩,h6⟩:=h;rw[ù]at h1 h2 h4 h5;refine⟨hk,λy hy=>by simpa using h1 y hy,λy hy e=>?_,λy hy=>by simpa using ù.mp h3 y hy,λy hy e=>?_,λj hj=>?_,?_⟩
 .have:=h2 y hy;rw[e]at this;simpa using this
 .have:=h4 y hy;rw[e]at this;show X.env.scope.names.lookup y.1=_;rw[hsc];simpa using this
 .have:=h5 j hj;simp only[bAq,fj,beq_iff_eq]at this;let⟨⟨a,b⟩,c⟩:=this;refine⟨?_,?_,?_⟩
  .rw[hN,Ê a];rfl
  .show X.env.scope.names.lookup _=_;rw[hsc,hN];exact b
  .rw[hN];exact c
 .unfold Z7;rw[hN];exact of_decide_eq_true h6
abbrev dO(r:Ì)(H H':Hp):Prop:=∀b o,H b=df o->b≠r->H' b=df o
def dO.refl(r:Ì)(H:Hp):dO r H H:=λ_ _ h _=>h
def dO.trans{r:Ì}{H H1 H2:Hp}(a:dO r H H1)(b:dO r H1 H2):dO r H H2:=λc o h n=>b c o (a c o h n) n
noncomputable abbrev Tie:=Int×Int×Int
variable {c:Bool} {A:Prop} {B:Prop}
def eF(e:c=dh)(h:A):if c=dh then A else B:=by rw[ff e];exact h
def eK(e:c=di)(h:B):if c=dh then A else B:=by rw[e,fg ø];exact h
structure BrOk(ns:List Int):Prop where
 one:1<=ns.length
 ten:ns.length<=10
 rng:∀n∈ns,0<=n/\n<=999
 nd:ns.Nodup
structure TieOk(ns:List Int)(t:Tie):Prop where
 a:t.1∈ns
 b:t.2.1∈ns
 ne:t.1≠t.2.1
 lo:1<=t.2.2
 hi:t.2.2<=1000
structure TsOk(ns:List Int)(ts:List Tie):Prop where
 few:ts.length<=16
 each:∀t∈ts,TieOk ns t
abbrev mn(x y:Int):Int:=if y<x then y else x
section
variable {X:Cx}(K:Frag) (h:X.K=K)
include h
end
section
variable {prog:ë}{w:Ă}{A:Ğ}{E:Â->Å->Prop}{s:Å}
variable {it:Ì} {i:Nat} {items:Array Â} {Q:Â->Å->Prop}
def OI{t:Ì}{x:Â}(hit:s.heap.IsTupleIter it t i)(ht:s.heap.IsTuple t items)(hx:items[i]?=df x)
  (hQ:∀h',h'.IsTupleIter it t (i+1)->ν it s.heap h'->Q x {s with heap:=h'}):wpAny (â prog w) A (Builtin.SmallTypes.nextOf<|.ref it) Q E s:=by
 let⟨o,ho,hc,hd⟩:=id hit;let⟨ot,hot,_,nt,hdt⟩:=ht;unfold Builtin.SmallTypes.nextOf;refine Ã<|ŀ (name:=fo "__next__") hit.typeIs F.slot_tuple_iterator_next<|ŕ F.slot_tuple_iterator_next hit.typeIs F.entry_tuple_iterator_next ?_<|F.args_tuple_iterator_next_1 _;show wpAny _ _ (field (.ref it) 0 >>= _) _ _ s;refine Ã<|ĸ ho hd (x:=.ref t) rfl ?_;show wpAny _ _ (if(Value.ref t==Value.none)=dh then _ else _) _ _ s;rw[fg<|show ¬ ((Value.ref t==Value.none)=dh) from ø];show wpAny _ _ (field (.ref it) 1 >>= _) _ _ s;refine Ã<|ĸ ho hd (x:=.int i 0) rfl ?_;show wpAny _ _ (ϛ (.ref t) >>= _) _ _ s;refine Ã<|Ũ hot hdt ?_;simp only[ò,hx];refine Ã (bB ho hd (by simp)<|Ù ⟨x,rfl,Ù<|hQ _ ⟨_,ţ _ ho<|Obj.isFreed_of_fields<|cW hd _,(Obj.cls_mapFields ..).trans hc,?_⟩<|ak ..⟩);rw[cW hd];simp[bw]
def K3{t:Ì}(hh:A.handled=dg)(hit:s.heap.IsTupleIter it t i)(ht:s.heap.IsTuple t items)(hx:items[i]?=dg)
  (hE:∀h' e,Heap.ExtBut it s.heap h'->(∃o,h'.get? e=df o/\o.cls=.type "StopIteration")->E (.ref e) {s with heap:=h'}):wpAny (â prog w) A (Builtin.SmallTypes.nextOf<|.ref it) Q E s:=by
 let⟨o,ho,hc,hd⟩:=id hit;let⟨ot,hot,_,nt,hdt⟩:=ht;unfold Builtin.SmallTypes.nextOf;refine Ã<|ŀ (name:=fo "__next__") hit.typeIs F.slot_tuple_iterator_next<|ŕ F.slot_tuple_iterator_next hit.typeIs F.entry_tuple_iterator_next ?_<|F.args_tuple_iterator_next_1 _;show wpAny _ _ (field (.ref it) 0 >>= _) _ _ s;refine Ã<|ĸ ho hd (x:=.ref t) rfl ?_;show wpAny _ _ (if(Value.ref t==Value.none)=dh then _ else _) _ _ s;rw[fg<|show ¬ ((Value.ref t==Value.none)=dh) from ø];show wpAny _ _ (field (.ref it) 1 >>= _) _ _ s;refine Ã<|ĸ ho hd (x:=.int i 0) rfl ?_;show wpAny _ _ (ϛ (.ref t) >>= _) _ _ s;refine Ã<|Ũ hot hdt ?_;simp only[ò,hx];refine Ã (wpAny_rule<|Ã<|bB ho hd (by simp) ?_);show wpAny _ _ (newExc (.type "StopIteration") [] >>= _) _ _ _;refine Ã ?_;simp only[newExc,newTuple];refine Ã (Ĺ (Ã (m:=firstArgMember _ _)<|wpAny_of_eq (a:=Value.none) (by first|rfl|(simp only[firstArgMember];rfl))<|Ĺ ?_<|by size_fits)<|by size_fits);simp only[raiseNew];refine Ã<|wpAny_handled ?_
 first
 |rw[show A.in1.handled=dg from hh]
 |rw[hh]
 exact Ã<|Ù<|wpAny_throw<|hE _ _ (((ak ..).extBut.push _).push _) ⟨_,Ý _ rfl,rfl⟩
end
variable {prog:ë} {w:Ă} {A:Ğ}
def Ig(hh:A.handled=dg)(it t:Ì)(Ţ:t≠it)(items:Array Â) :
  Draws prog w A it [it,t] items.size (λi v=>items[i]?=df v) (λi h=>h.IsTupleIter it t i/\h.IsTuple t items) where
 live:=λ_ _ st=>let ⟨o,ho,_⟩:=st.1;⟨o,ho⟩
 frame:=λ_ _ _ st hk=>⟨st.1.at λo e=>hk it (by simp) o e,st.2.at λo e=>hk t (by simp) o e⟩
 item:=λi s Q E hi st hQ=>OI st.1 st.2 (x:=items[i]) (by simp[hi]) λh' hit' hs'=>hQ _ h' s.toks (by simp[hi]) ⟨hit',st.2.extBut hs'.extBut Ţ⟩ hs'
 done:=λs Q E st hE=>K3 hh st.1 st.2 (by simp) hE
open AutoSeq1 (wpAny_loadPart') in
def Lz(l:Ì)(items:Array Â)(n:Nat)(dct:Option Ì)(sl:Array<|Option Â) :
  Meets (Builtin.«enumerate.__new__» ⟨[.type "enumerate",.ref l],[]⟩) (λ_ R s=>s.heap.get? l=df { cls:=.type "tuple",dict:=dct,data:=.seq items n,slots:=sl }/\
    R (.ok<|.ret<|.ref (s.heap.push {cls:=.type "tuple_iterator",data:=.fields #[.ref l,.int 0 0]}).objs.size)
      { s with heap:=(s.heap.push { cls:=.type "tuple_iterator",data:=.fields #[.ref l,.int 0 0] }).push { cls:=.type "enumerate",data:=.fields #[.none,.bool di,.ref s.heap.objs.size,bw 0,.none,.none] } }) :=
 .of_wp λprog w A R s h=>by
  let⟨hp,g,d,tk,os⟩:=s;let⟨hl,h⟩:=h;have hsub:=sub_enumerate;have hL:Heap.IsTuple (Shared.heap ⟨hp,g,d,tk,os⟩) l items:=⟨_,hl,rfl,n,rfl⟩
  wp_walk using ĕ hl
  refine wpAny_stack_any λst=>Ù ?_;split
  .rename_i c _ _ _ _ _;cases (c==Value.type "enumerate")<;>(wp_walk using ĕ hl,ň hL;exact⟨_,rfl,h⟩)
  .wp_walk using ĕ hl,ň hL;exact⟨_,rfl,h⟩
def OW{E:Â->Å->Prop}{s:Å}{l:Ì}{items:Array Â}{Q:Â->Å->Prop}(hL:s.heap.IsTuple l items)
  (h:∀h',IsEnum h' (s.heap.objs.size+1) s.heap.objs.size 0 .none->h'.IsTupleIter s.heap.objs.size l 0->(∀b o,s.heap.get? b=df o->h'.get? b=df o)->Q (.ref<|s.heap.objs.size+1) {s with heap:=h'}) :
  wpAny (â prog w) A (call (.type "enumerate") [.ref l]) Q E s:=by
 let⟨⟨c,dct,dt,sl⟩,hl,hc,n,hd⟩:=hL;simp only at hc hd;subst hc hd;refine callType_new F.called_enumerate (by decide) (F.typeCall_enumerate_1 _) (F.newCall_enumerate_1 _) (λobj=>F.args_object_init_2 obj _) F.entry_enumerate_new (Lz l items n dct sl) ⟨hl,?_⟩;have hz:(s.heap.push {cls:=.type "tuple_iterator",data:=.fields #[.ref l,.int 0 0]}).objs.size=s.heap.objs.size+1:=Ō ..;have hg:=Ý (s.heap.push {cls:=.type "tuple_iterator",data:=.fields #[.ref l,.int 0 0]}) (o:={cls:=.type "enumerate",data:=.fields #[.none,.bool di,.ref s.heap.objs.size,bw 0,.none,.none]}) rfl;rw[hz]at hg;show _/\_;rw[hz];exact⟨⟨_,hg,rfl⟩,h _ hg ⟨_,Ä _<|Ý _ rfl,rfl,rfl⟩ λb o x=>Ä _<|Ä _ x⟩
section
variable {X:Cx}{Á:List (Ì×Obj)}{σ:St}{H:Hp}{s:Å}{h':ċ}
def Inv.turnedL{t':Nat}{ch:List Ì}(I:Inv X Á σ H s)(k:∀b o,b∉ch->s.heap.get? b=df o->h'.get? b=df o)(hc:∀b∈ch,Wp X Á H b):Inv X Á σ H {s with heap:=h',toks:=t'}:=by
 have nit:∀b u,H b=df u->b∉ch:=λb u e z=>by rw[(hc b z).1]at e;cases e
 refine I.step (g':=s.gens) (d':=s.drawn) (ch:=ch) (λb hb=>?_) (λb o _ _ hcb e _=>k b o hcb e) (λb o _ _ hcb e _=>⟨o.slots,k b o hcb e⟩) (λ_ _ _ _ n=>n)
  (λb o hcb e=>⟨o,k b o hcb e⟩) (λ_ _ e=>e) (λ_ _ _ e=>e) (λb ps e=>⟨#[],by rw[e];simp⟩) (λm hm=>?_) (λb u e=>?_) I.bare
 .obtain⟨_,q2,_,q4,q5,q6⟩:=hc b hb;exact⟨q4,q2,q5,q6⟩
 .obtain⟨o,es,ep,ho,r⟩:=hm;exact⟨o,es,ep,k _ o (λz=>(hc _ z).2.1 rfl) ho,r⟩
 .refine(I.hok b u e).stay (λc v hcc q=>k c v ?_ q) (λ_ q=>q) λ_ _ q=>q;rcases hcc with z|z
  .rw[z];exact nit b u e
  .exact nit c _ z
def Inv.track{T:Ì}{o:HO}(I:Inv X Á σ H s)(hT:H T=dg)(h0:X.s₀.heap.objs.size<=T)(hL:T≠X.env.locals)(aK:∀x c,X.env.cells.lookup x=df c->c≠T)(hp:∀p∈X.pn++Á,p.1≠T)
  (new:dB X.prog X.w (upd H T o) s.heap T o):Inv X Á σ (upd H T o) s:=by
 have neT:∀b ob,X.s₀.heap.get? b=df ob->b≠T:=λb ob e=>ì<|å (Ú e) h0;refine⟨I.ok,I.os,I.bare,⟨I.base.keep,I.base.slot,λb ob e n hx=>?_,I.base.there,λb xs e=>?_,λb ob xs e=>?_,λb ps e=>?_⟩,I.loc,I.cell,?_,λx c e=>?_,λp hpp=>?_,I.hok.track hT new,I.len⟩
 .rw[dj<|neT b ob e];exact I.base.free b ob e n hx
 .have q:=I.base.tups b xs e;rw[dj<|Zj q hT];exact q
 .have q:=I.base.frzs b ob xs e;rw[dj<|Zj q hT];exact q
 .obtain⟨m,q⟩:=I.base.tbls b ps e;exact⟨m,by rw[dj<|Zj q hT];exact q⟩
 .rw[dj hL.symm];exact I.free
 .rw[dj<|aK x c e];exact I.freeC x c e
 .obtain⟨a,b,c,d,e⟩:=I.pin p hpp;exact⟨a,by rw[dj<|hp p hpp];exact b,c,d,e⟩
end
abbrev Ite(K:Frag)(a:Ì):It :=
 ⟨λi H=>∃xs x,eU K H a xs/\xs[i]?=df x,λi H v H'=>∃p,v=.ref p/\H p=dg/\∀xs x,eU K H a xs->xs[i]?=df x->H'=upd H p (.tup [.int i,x]),λi H=>∃xs,eU K H a xs/\xs.length<=i⟩
variable {es:List Expr} {kk:Nat} {tp:Pos}
def N1{P:ë}{K:Frag}(a it e:Ì)(Ţ:e≠it) :
  Turn P w K (.Tuple es kk tp) (Ite K a) [e,it] e (λi h=>(∃ό,IsEnum h e it i ό)/\h.IsTupleIter it a i) where
 mem:=by simp
 obj:=λi h st b hb=>by
  let⟨⟨ό,h1⟩,o2,e2,_,d2⟩:=st;rcases Æ.mp hb with q|q
  .subst q;exact⟨_,h1,λv z=>by cases z⟩
  .have q:b=it:=⇑q
   subst q;exact⟨o2,e2,λv z=>by rw[d2]at z;cases z⟩
 keep:=λi h h' st k=>⟨let ⟨ό,h1⟩:=st.1;⟨ό,k e (by simp) _ h1⟩,st.2.at λo q=>k it (by simp) o q⟩
 item:=by
  intro X hP hw hK hc i Á s σ H E I hf st hg;subst hP hw hK;let⟨xs,x,hq,hx⟩:=hg;let⟨ð,rv,pl,hz⟩:=I.tuple hq;let⟨u,hu,ru⟩:=rv.get hx;have hsz:=rv.length;have hi:i<ð.toArray.size:=by rw[É];exact(Î.mp hu).1
  let⟨⟨ό,h1⟩,h2⟩:=st;have hfi:=hf it (by simp);have hai:a≠it:=λz=>by let⟨o,ho,aK,_⟩:=h2;let⟨o',ϩ,hcl',_⟩:=pl;rw[z,ho]at ϩ;cases ϩ;rw[aK]at hcl';exact fk (Ϝ hcl') (by decide)
  have hae:e∉[it,a]:=λz=>by
   rcases Æ.mp z with z|z
   .exact Ţ z
   .have z:e=a:=⇑z
    let⟨o',ϩ,hcl',_⟩:=pl;rw[<-z,h1]at ϩ;cases ϩ;exact fk (Ϝ hcl') (by decide)
  refine wpAny_pyNext_enum_itemD (Ig (A:=X.A.in1) (I.ok.hd hc) it a hai ð.toArray) h1 ⟨h2,pl⟩ hi Ţ hae λv h3 tk hv hout hst3 hT _ hk=>?_;have ev:v=u:=by
   have hv:ð[i]?=df v:=⇑hv
   rw[hu]at hv;exact(ï hv).symm
  subst ev;have nT:∀b∈[e,it],s.heap.objs.size≠b:=λb hb z=>by
   rcases Æ.mp hb with q|q
   .exact fk (Ú h1) (by rw[<-q,<-z];exact Ď _)
   .have q:b=it:=⇑q
    let⟨o,ho,_⟩:=h2;exact fk (Ú ho) (by rw[<-q,<-z];exact Ď _)
  have aW:=I.fpOk (H':=H) (Ï s.heap.objs.size) I.fresh;refine⟨.ref s.heap.objs.size,rfl,wpAny_letOwnedTupleGo_enum hout λh4 he4 hs4=>?_⟩;have I4:Inv X Á σ H {s with heap:=h4,toks:=tk+1}:=I.turnedL (t':=tk+1) (ch:=[e,it]) (λb o hb q=>hs4.extBut b o (λz=>hb<|by simp[z])<|hk b o (λz=>hb<|by simp[z]) (λz=>hb<|by simp[z]) q) hf;have hT4:h4.get? s.heap.objs.size=df {cls:=.type "tuple",data:=.seq #[.int i tk,v]}:=hs4.extBut _ _ (nT e<|by simp) hT;let⟨f0,f1,f2,f3,f4,f5⟩:=aW;have I5:Inv X Á σ (upd H s.heap.objs.size<|.tup [.int i,x]) {s with heap:=h4,toks:=tk+1}:=I4.track f0 I.sz f1 f4 f5 ⟨by show 2<=Ü;decide,[.int i tk,v],.cons ⟨tk,rfl⟩<|.cons ru .nil,_,hT4,rfl,_,rfl⟩;refine⟨.ref s.heap.objs.size,_,I5,rfl,⟨s.heap.objs.size,rfl,f0,λys y hy hyi=>?_⟩,⟨⟨v,⇑he4⟩,hst3.1.at λo q=>hs4.extBut it o (Ne.symm Ţ) q⟩,λb hb=>?_⟩
  .have ey:ys=xs:=I.tuple_inj hy hq;rw[ey,hx]at hyi;rw[ï hyi]
  .rw[dj (nT b hb).symm];exact(hf b hb).1
 done:=by
  intro X hP hw hK hc i Á s σ H E I hf st hg;subst hP hw hK;let⟨xs,hq,hx⟩:=hg;let⟨ð,rv,pl,hz⟩:=I.tuple hq;have hl:=rv.length;let⟨⟨ό,h1⟩,h2⟩:=st;have hai:a≠it:=λz=>by let⟨o,ho,aK,_⟩:=h2;let⟨o',ϩ,hcl',_⟩:=pl;rw[z,ho]at ϩ;cases ϩ;rw[aK]at hcl';exact fk (Ϝ hcl') (by decide)
  have hT:s.TypeIs (.ref e) "enumerate":=⟨_,h1,rfl⟩
  unfold az;refine Ã<|wpAny_attempt<|ŀ (name:=fo "__next__") hT F.slot_enumerate_next<|ŕ F.slot_enumerate_next hT F.entry_enumerate_next ?_<|F.args_enumerate_next_1 _;show wpAny _ _ (field (.ref e) 2 >>= _) _ _ _;refine Ã<|ĸ h1 rfl (x:=.ref it) rfl ?_;refine Ã (K3 (A:=X.A.in1) (I.ok.hd hc) h2 pl (by simp;lia) λh' x he' hx'=>?_);let⟨o,ho,aK⟩:=hx';refine Ã<|wpAny_isInstance (T:="StopIteration") (b:=dh) ⟨o,ho,aK⟩ isSubtype_stop<|Ù ⟨rfl,?_⟩;exact I.turnedL (t':=s.toks) (ch:=[it]) (λb ob hb q=>he' b ob (λz=>hb<|by simp[z]) q) λb hb=>hf b<|ß _ hb
 self:=λA i s Q E st h=>by let⟨⟨ό,h1⟩,_⟩:=st;exact wpAny_pyIter_enum h1 h
section
variable {X:Cx}
abbrev IM(K:Frag)(ta:TA):TI:=λσ H R=>ta σ H λvs H1=>∃a,vs=[.ref a]/\(∃xs,eU K H1 a xs)/\R (Ite K a) H1
def CJ{p ç:Pos}{e:Expr}{ta:TA}(hg:Gl X "enumerate")(hm:X.mg "enumerate" = dg)(ha:PA X [e] ta)(hs:Ó [e] X.env=[(di,eval e X.env)]:=by rfl) :
  PI X (.Tuple es kk tp) (.Call (.Name "enumerate" p) [e] [] ç) (IM X.K ta):=by
 intro Á s σ H R I h;refine Call_ (XI (u:=.type "enumerate") I hg hm (by kernel_rfl)<|PyProof.Rows.callWith_type1 (T:="enumerate") (thn (ha ç Á s σ H _ I h) λus s1 ⟨vs,H1,I1,r1,q1⟩=>?_) hs rfl);let⟨a,e1,⟨xs,hq⟩,q⟩:=q1;subst e1;let⟨u,rfl,ru⟩:=ZM r1;cases ru;let⟨ð,rv,pl,hz⟩:=I1.tuple hq;refine OW pl λh2 he2 hi2 hk2=>?_;have I2:Inv X Á σ H1 {s1 with heap:=h2}:=I1.kept (t':=s1.toks) hk2;refine wpAny_pyIter_enum he2 ⟨s1.heap.objs.size+1,[s1.heap.objs.size+1,s1.heap.objs.size],_,_,H1,rfl,I2,N1 a s1.heap.objs.size (s1.heap.objs.size+1)<|χ<|Č _,⟨⟨_,he2⟩,hi2⟩,λb hb=>?_,q⟩;have b6:s1.heap.objs.size<=b:=by
  rcases Æ.mp hb with z|z
  .rw[z];exact Ŭ _
  .have z:b=s1.heap.objs.size:=⇑z
   rw[z];exact Ï _
 exact I1.fpOk b6<|I1.hok.fresh b6
def A3(hc:X.calm=dh):dA X (.builtin "sum") λxs H Q=>∃p i j,xs=[.ref p]/\eU X.K H p [.int i,.int j]/\Q (.int<|i+j) H:=by
 intro Á s σ H xs us Q I r h;let⟨p,i,j,rfl,hq,q⟩:=h;let⟨u,rfl,rx⟩:=ZM r;cases rx;let⟨ð,hl,pl,Τ,hv⟩:=Wy I hq;refine call_sum_walkAnyS (ň (show s.heap.IsTuple p ð.toArray from pl) ?_);have W:=(Walks.tuple (prog:=X.prog) (w:=X.w) (A:=X.A.in1) (I.ok.hd hc) s.heap.objs.size p (ì Τ) ð.toArray).toS;refine⟨s.heap.objs.size,_,_,_,ð.toArray.size,_,_,λk=>[i,j].getD k 0,rfl,W,⟨⟨_,Ý _ rfl,rfl,rfl⟩,?_⟩,?_,λk v hP=>hv k v ⇑hP,λs' t' hm=>?_⟩
 .obtain⟨o,e,r⟩:=pl;exact⟨o,Ä _ e,r⟩
 .intro b hb;show b<(s.heap.push _).objs.size;rw[Ō];rcases Æ.mp hb with e|hb
  .rw[e];exact Č _
  .have:b=p:=⇑hb
   rw[this];exact ĵ Τ
 .have e:preSum (λk=>[i,j].getD k 0) ð.toArray.size=i+j:=by
   rw[É,hl];show 0+i+j=i+j;lia
  rw[e];let⟨h1,h2,h3,h4,h5⟩:=hm;have I2:Inv X Á σ H { s with heap:=s'.heap,toks:=s'.toks }:=I.kept (t':=s'.toks) λb o e=>h1 b o (λz=>by
    have z:b=s.heap.objs.size:=⇑z
    exact fk (z▸Ú e)<|Ď _)<|Ä _ e
  have es:s'={s with heap:=s'.heap,toks:=s'.toks}:=by let⟨hh,gg,dd,tt,oo⟩:=s';simp only at h2 h3 h4 ⊢;subst h2 h3 h4;rfl
  rw[es];exact⟨.int _,H,I2,⟨_,rfl⟩,q⟩
end
end L2
namespace L2
open PySem PySem.Spec PyProof.Rows
open PySem.Builtin PySem.Builtin.Str
noncomputable abbrev TJ:=St->Hp->Str->(Str->Hp->Prop)->Prop
abbrev PJ(X:Cx)(vs:List Expr)(t:TJ):Prop :=
 ∀(Á:List<|Ì×Obj) (s:Å) (σ:St) (H:Hp) (ħ:Str) (Q:Str->Hp->Prop),Inv X Á σ H s->t σ H ħ Q->
  Joins (â X.prog X.w) X.A X.xe (bC vs X.env) ħ (λout s1=>∃H1,Inv X Á σ H1 s1/\out.length<=Ü/\Q out H1) s
abbrev Rv:TJ:=λ_ H ħ Q=>ħ.length<=Ü/\Q ħ H
abbrev Qw(te:TE)(tr:TJ):TJ:=λσ H ħ Q=>te σ H λx H1=>∃y,x=.str y/\(ħ++y).length<=Ü/\tr σ H1 (ħ++y) Q
section
variable {X:Cx}{e:Expr}{es:List Expr}{te:TE}{tr:TJ}{ç:Pos}
def pj_nil:PJ X [] Rv:=λÁ s σ H ħ Q I h=>⟨H,I,h.1,h.2⟩
def Fg(he:PE X e te)(hr:PJ X es tr)(hs:bC (e::es) X.env=eval e X.env::bC es X.env:=by rfl):PJ X (e::es)<|Qw te tr:=by intro Á s σ H ħ Q I h;rw[hs];show wpAny _ _ _ _ _ _;refine thn (he Á s σ H _ I h) λv s1 ⟨x,H1,I1,r1,y,e1,hz,q1⟩=>?_;subst e1;let⟨t,rfl⟩:=r1;exact⟨y,t,rfl,hz,hr Á s1 σ H1 (ħ++y) Q I1 q1⟩
def Joins.imp{M:Model}{A:Ğ}{E:Â->Å->Prop}:∀{ps:List (Sem Â)}{ħ:Str}{Q Q':Str->Å->Prop}{s:Å},(∀o s,Q o s->Q' o s)->Joins M A E ps ħ Q s->Joins M A E ps ħ Q' s
 |[],_,_,_,_,f,h=>f _ _ h
 |_::_,_,_,_,_,f,h=>thn h λv s1 ⟨y,t,e,hz,hr⟩=>⟨y,t,e,hz,Joins.imp f hr⟩
end
abbrev wT:Str:="tie"
structure dN(bs:List Int)(ts:List Tie):Prop where
 br:BrOk bs
 ti:TsOk bs ts
 so:sortI bs=bs
 lo:ts.map loT=ts
end L2
namespace L2
open PySem PySem.Spec PyProof.Rows
variable {P:ë} {w:Ă} {H:Hp} {h:ċ} {a:Ì}
def dB.obj{o:HO}(x:dB P w H h a o):∃u,h.get? a=df u:=by
 cases o with
 |lst xs=>let⟨_,_,_,_,e⟩:=x;exact⟨_,e⟩
 |tup xs=>let⟨_,_,_,ob,e,_⟩:=x;exact⟨_,e⟩
 |dK kvs=>let⟨_,_,_,_,o,_,_,e,_⟩:=x;exact⟨_,e⟩
 |dT kvs=>let⟨_,_,_,_,o,_,_,e,_⟩:=x;exact⟨_,e⟩
 |set S n=>let⟨o,_,_,_,e,_⟩:=x;exact⟨_,e⟩
 |ins C dx fs=>let⟨_,_,_,e,_⟩:=x;exact⟨_,e⟩
 |own y=>exact x
 |xd fs=>let⟨_,⟨_,_,_,e,_⟩,_⟩:=x;exact⟨_,e⟩
 |rng lo hi=>let⟨_,_,_,e⟩:=x;exact⟨_,e⟩
 |frz ob u=>exact⟨_,x.1⟩
 |tbl ps=>exact⟨_,(show h.get? a=df _ from x)⟩
 |met f y=>exact⟨_,(show h.get? a=df _ from x)⟩
 |ext φ=>exact x.2.1
abbrev FQ(h:ċ)(a:Ì)(cls:Â)(T:Option Ì):Prop :=
 ∃oe vs a0,h.get? a=df oe/\oe.cls=cls/\oe.data=.fields vs/\vs[0]?=df a0/\
  match T with
  |none=>vs[1]?=df .none
  |some T=>vs[1]?=df (.ref T)/\T≠a/\∃oT ts fl,h.get? T=df oT/\oT.data=.fields ts/\ts[3]?=df fl
structure Fl(P:ë)(w:Ă)(l:List Env)(H:Hp)(s:Å)(H':Hp)(a:Ì)(cls:Â)(s':Å):Prop where
 os:s'.os=s.os
 bare:μ s'.gens
 un:Un (frs l) [] H H' s.heap s'.heap
 hok:HOk P w H' s'.heap
 na:s.heap.get? a=dg
 ha:H' a=dg
 ex:∃T,FQ s'.heap a cls T/\∀t,T=df t->s.heap.get? t=dg/\H' t=dg
abbrev CX1(P:ë)(w:Ă):CXT:=λl H s E e s'=>∃a cls H',e=.ref a/\Fl P w l H s H' a cls s'/\E cls dg H'
abbrev XW(X:Cx)(E:XK):Prop:=∀(Á:List<|Ì×Obj) (σ:St) (H:Hp) (s:Å) (H':Hp) (a:Ì) (cls:Â) (s':Å),
 Inv X Á σ H s->Fl X.prog X.w X.stack H s H' a cls s'->E cls dg H'->X.xe (.ref a) s'
def XW.passes{X:Cx}{E:XK}(h:XW X E):Y4 (CX1 X.prog X.w) X E:=λÁ σ H s e s' I ⟨a,cls,H',z,f,q⟩=>by subst z;exact h Á σ H s H' a cls s' I f q
section
variable {M:Model}{A:Ğ}{E:Â->Å->Prop}{s:Å}{B:ċ}{env:Env}{outer:List Env}{L a:Ì}{cls:Â}{T:Option Ì}{Q:Unit->Å->Prop}
abbrev Xc(h:ċ)(l:List Env)(a:Ì)(T:Option Ì):ċ:=PySem.W.hideAll h<|a::(T.toList++frs l)
def Xk(h:ċ)(l:List Env)(a:Ì)(T:Option Ì):(Xc h l a T).StaysIn h:=λb o e=>PySem.W.of_hideAll _ e
def JQ{l:List Env}(a:Ì)(T:Option Ì)(hl:h.FunFrames B l):h.FunFrames (Xc h l a T) l :=
 PySem.W.funFrames_hide hl λe he b hb=>ß _<|È _<|ŵ.mpr ⟨e,he,hb⟩
def Ug(h:ċ)(l:List Env)(a:Ì)(T:Option Ì):(Xc h l a T).get? a=dg:=PySem.W.hideAll_none _ ñ
def Um(h:ċ)(l:List Env)(a t:Ì):(Xc h l a<|df t).get? t=dg:=PySem.W.hideAll_none _ (ß _<|Ö _<|by simp)
def Ap(aW:A.frames=df (env::outer))(hf:env.frame=df L)(hl:s.heap.FunFrames B<|env::outer)(hx:FQ s.heap a cls T)
  (fin:∀h' a0,Heap.NotedW (Xc s.heap (env::outer) a T) (env::outer) a cls a0 (bw L) s.heap h'->Q () {s with heap:=h'}):wpAny M A (aC (.ref a) env) Q E s:=by
 let⟨oe,vs,a0,he,hc,hd,h0,ht⟩:=hx;have fin:=λh'=>fin h' a0;cases T with
 |none =>subst hc;unfold aC;simp only[hf];refine Ã<|ĸ he hd ht ?_;rw[fg<|by decide];exact wpAny_entryW aW (JQ a dg hl) hf he (Xk _ _ _ _) (Ug _ _ _ _) hd (ų.mp ht).1 h0 fin
 |some t =>
  let⟨h1,Ţ,oT,ts,fl,e1,e2,e3⟩:=ht;by_cases c:fl=bw L
  .subst c;have tr:s.heap.TracedAtW (Xc s.heap (env::outer) a<|df t) a cls a0<|bw L:=⟨oe,vs,t,oT,ts,he,⟨hc,h0⟩,hd,h1,Um _ _ _ _,Ţ,e1,e2,e3⟩
   exact wpAny_noteFrame_againW hf tr<|fin _ ⟨Xk _ _ _ _,JQ a (df t) hl,tr,λb o e nf=>⟨o.slots,e⟩⟩
  .subst hc;unfold aC;simp only[hf];refine Ã<|ĸ he hd h1 ?_;rw[ff<|by simp];refine Ã<|ĸ e1 e2 e3 ?_;rw[fg<|by simpa using c];refine Ã<|bB e1 e2 (ų.mp e3).1 ?_;have off:∀b,b≠t->(s.heap.update t (Obj.mapFields (·.setIfInBounds 3 Value.none))).get? b=s.heap.get? b:=λb hb=>ü _ _ hb.symm;have nr:∀b o,s.heap.get? b=df o->(∀vs,o.data≠.fields vs)->b≠t:=λb o hb nf z=>by
    rw[z,e1]at hb;cases hb;exact nf ts e2
   have bn:=Um s.heap (env::outer) a t;exact wpAny_entryW aW ((JQ a (df t) hl).of_keeps λb o hb nf=>⟨o,(off b<|nr b o hb nf).trans hb,rfl⟩) hf ((off a Ţ.symm).trans he) (λb o hbo=>(off b λz=>by rw[z,bn]at hbo;cases hbo).trans<|Xk _ _ _ _ b o hbo) (Ug _ _ _ _) hd (ų.mp h1).1 h0 λh' ⟨x1,x2,x3,x4⟩=>fin h' ⟨x1,x2,x3,λb o hb nf=>x4 b o ((off b<|nr b o hb nf).trans hb) nf⟩
def A8(aW:A.frames=df (env::outer))(hf:env.frame=df L)(hl:s.heap.FunFrames B<|env::outer)(hx:FQ s.heap a cls T)
  (h:∀h' a0,cG (Xc s.heap (env::outer) a T) (env::outer) a cls a0 s.heap h'->Q () {s with heap:=h'}):wpAny M A (aC (.ref a) env) (λ_ s2=>wpAny M A (setFlight (.ref a) dg) Q E s2) E s :=
 Ap aW hf hl hx λh' a0 ⟨k1,k2,k3,k4⟩=>wpAny_setFlight_noneW k1 k2 k3 λh2 j1 j2 j3 j4=>h h2 a0 ⟨j1,j2,j3,λb o e nf=>by
   let⟨sl,e2⟩:=k4 b o e nf
   exact⟨sl,j4 b _ e2 nf⟩⟩
def OV(aW:A.frames=df (env::outer))(hf:env.frame=df L)(hl:s.heap.FunFrames B<|env::outer)(hx:FQ s.heap a cls T)
  (h:∀h' a0,cG (Xc s.heap (env::outer) a T) (env::outer) a cls a0 s.heap h'->Q () {s with heap:=h'}):wpAny M A (leaving env<|.ref a) Q E s:=Ã<|A8 aW hf hl hx h
end
variable {l:List Env} {H':Hp} {s:Å} {s':Å} {cls:Â} {a0:Â} {h':ċ} {B:ċ} {T:Option Ì}
def Fl.noted{fl:Â}(f:Fl P w l H s H' a cls s')(hT:∀t,T=df t->s.heap.get? t=dg/\H' t=dg)
  (hl:s'.heap.FunFrames B l) (aW:∀b∈frs l,H' b=dg) (z:Heap.NotedW (Xc s'.heap l a T) l a cls a0 fl s'.heap h'):Fl P w l H s H' a cls {s' with heap:=h'}:=by
 let⟨k1,k2,k3,k4⟩:=z;have inb:∀b o,s'.heap.get? b=df o->b≠a->(∀t,T=df t->b≠t)->b∉frs l->h'.get? b=df o:=λb o e na nt nf=>k1 b o (PySem.W.hideAll_get _ e (by
   intro m
   rcases Æ.mp m with m|m
   . exact na m
   . rcases à.mp m with m|m
     . cases T with
       |none=>cases m
       |some t=>exact nt t rfl ⇑m
     . exact nf m))
 have slot:∀b o,s'.heap.get? b=df o->b∈frs l->∃sl,h'.get? b=df {o with slots:=sl}:=λb o e hb=>by let⟨_,o2,e2,nf⟩:=hl.mem hb;rw[e]at e2;cases e2;exact k4 b o e nf
 have ό:∀b o,s.heap.get? b=df o->b≠a/\∀t,T=df t->b≠t:=λb o e=>⟨(λz=>by rw[z,f.na]at e;cases e),(λt ht z=>by rw[z,(hT t ht).1]at e;cases e)⟩
 refine⟨f.os,f.bare,⟨λb o e n nf _=>?_,λb o e n hb _=>?_,f.un.free,λb o e _=>?_,f.un.tups,f.un.frzs,f.un.tbls⟩,?_,f.na,f.ha,?_⟩
 .exact inb b o (f.un.keep b o e n nf<|by simp) (ό b o e).1 (ό b o e).2 nf
 .obtain⟨sl,e1⟩:=f.un.slot b o e n hb (by simp);let⟨sl',e2⟩:=slot b _ e1 hb;exact⟨sl',e2⟩
 .obtain⟨o1,e1⟩:=f.un.there b o e (by simp);by_cases hb:b∈frs l
  .obtain⟨sl,e2⟩:=slot b _ e1 hb;exact⟨_,e2⟩
  .exact⟨o1,inb b o1 e1 (ό b o e).1 (ό b o e).2 hb⟩
 .intro b u e;have good:∀c v,H' c=df v->∀ob,s'.heap.get? c=df ob->h'.get? c=df ob:=λc v ec ob eo =>
   inb c ob eo (λz=>by rw[z,f.ha]at ec;cases ec) (λt ht z=>by rw[z,(hT t ht).2]at ec;cases ec) λm=>by rw[aW c m]at ec;cases ec
  refine(f.hok b u e).stay (λc v hc q=>?_) (λ_ q=>q) λ_ _ q=>q;rcases hc with z|z
  .rw[z]at q ⊢;exact good b u e v q
  .exact good c _ z v q
 .obtain⟨oe,vs,t',oT,ts,e1,⟨e2,e3⟩,e4,e5,e6,e7,e8,e9,e10⟩:=k3;refine⟨df t',⟨oe,vs,a0,e1,e2,e4,e3,e5,e7,oT,ts,fl,e8,e9,e10⟩,λt ht=>?_⟩;cases ht;have hid:∀o,s'.heap.get? t'=df o->T=df t':=λo e=>by
   have nin:¬ (t'∉(a::(T.toList++frs l))):=λm=>by have q:(Xc s'.heap l a T).get? t'=df o:=PySem.W.hideAll_get _ e m;rw[e6]at q;cases q
   have m:=Classical.not_not.mp nin;rcases Æ.mp m with m|m
   .exact fk m e7
   .rcases à.mp m with m|m
    .cases T with
     |none=>cases m
     |some t=>rw[show t'=t by simpa using m]
    .obtain⟨_,o2,q,nf⟩:=k2.mem m;rw[e8]at q;cases q;exact fk e9<|nf ts
  constructor
  .cases q:s.heap.get? t' with
   |none=>rfl
   |some o =>let⟨o1,q1⟩:=f.un.there t' o q (by simp);have:=(hT t'<|hid o1 q1).1;rw[q]at this;cases this
  .cases q:H' t' with
   |none=>rfl
   |some u =>let⟨o1,q1⟩:=(f.hok t' u q).obj;have:=(hT t'<|hid o1 q1).2;rw[q]at this;cases this
def Fl.left(f:Fl P w l H s H' a cls s')(hT:∀t,T=df t->s.heap.get? t=dg/\H' t=dg)
  (hl:s'.heap.FunFrames B l) (aW:∀b∈frs l,H' b=dg) (z:cG (Xc s'.heap l a T) l a cls a0 s'.heap h'):Fl P w l H s H' a cls {s' with heap:=h'}:=f.noted (fl:=.none) hT hl aW z
section
variable {P:ë}{w:Ă}{K:Frag}{mg:Str->Option Â}{base:ċ}
variable {X:Cx} {H:Hp} {s:Å}
def Inv.raised{Á:List (Ì×Obj)}{σ:St}{H':Hp}{s':Å}{a:Ì}{cls:Â}(I:Inv X Á σ H s)(f:Fl X.prog X.w X.stack H s H' a cls s'):Inv X Á σ H' s' :=
 I.call' (ch:=[]) f.os f.un f.hok f.bare (λb z=>fk z<|by simp)
def Ox(ok:X.Ok)(h:X.stack=X.env::X.outer):X.env.frame=df X.env.locals:=by
 rcases ok.stk with e|e
 .rw[h]at e;exact fk (congrArg List.length e) (by simp)
 .exact e.2
variable {N:List Str} {qual:Str} {f:Ì}
def La{scope:Ů}{cd:Â}{A:Ğ}{outer:List Env}{E:XK}:XW (Mu (CX1 P w) P w K mg base N qual scope f cd A outer s H E) E:=by
 intro Á σ H2 s2 H' a cls s' I f q;have J:=I.raised f;let⟨T,hx,hT⟩:=f.ex;show wpAny _ _ (leaving _ _) _ _ _;refine OV (outer:=outer) J.ok.frames (Ox J.ok rfl) J.stack hx λh' a0 z=>?_;have f2:=f.left hT J.stack J.stkFree z;have J2:=I.raised f2;have Ϸ:∀b,s2.heap.get? b=dg->s.heap.get? b=dg:=λb e=>by
  cases z:s.heap.get? b with
  |none=>rfl
  |some o =>let⟨o',e'⟩:=I.base.there b o z (by intro m;cases m);rw[e]at e';cases e'
 let⟨T2,hx2,hT2⟩:=f2.ex;exact⟨a,cls,H',rfl,⟨J2.os,J2.bare,J2.base,J2.hok,Ϸ a f2.na,f2.ha,T2,hx2,λt ht=>⟨Ϸ t (hT2 t ht).1,(hT2 t ht).2⟩⟩,q⟩
def Fun.ok1{x:Str}{st:ĭ}{fd:ķ}{ps:List Str}{k:Nat}{sp:Sp}(F:Fun K x qual st f fd)(S:FnScope N ps<|Zt st)(len:∀vs H Q E,sp vs H Q E->vs.length=ps.length)
  (hbody:∀(Ρ:Â) (A:Ğ) (outer:List Env) (s:Å) (H:Hp) (vs:List V) (Q:VK) (E:XK),dX k (A.deeper<|Ϫ qual (Zt st) s.heap.objs.size f Ρ)->sp vs H Q E->
    XW (Mu (CX1 P w) P w K mg base N qual (Zt st) f Ρ A outer s H E) E->
    ∃t,PSs (Mu (CX1 P w) P w K mg base N qual (Zt st) f Ρ A outer s H E) (ZR st) t/\t { nx:=λ_ H'=>Q .non H',rt:=Q } (start N vs) H):dY P w K mg base (CX1 P w) (k+1) f fd ps sp:=by
 let⟨oc,od,kV,doc,pm,an,Ρ,ct,osl,rfl,lk,av⟩:=F.ex;exact Ph lk av S len λA outer s H vs Q E hr hsp=>hbody Ρ A outer s H vs Q E hr hsp La
end
abbrev XP(X:Cx)(Á:List<|Ì×Obj)(σ:St)(E:XK)(v:Â)(s':Å):Prop :=
 ∃a cls H1 H' s1,v=.ref a/\Inv X Á σ H1 s1/\Fl X.prog X.w X.stack H1 s1 H' a cls s'/\E cls dg H'
abbrev xcO(a:Ì)(cls:Â):HO:=.ext λh=>∃o vs,h.get? a=df o/\o.cls=cls/\o.data=.fields vs
end L2
namespace L2
open PySem PySem.Spec PySem.W PySem.Calls PyProof.Rows PySem.Builtin PySem.Builtin.ObjectAttr PySem.Builtin.Getset_descriptor
section
variable {prog:ë}{w:Ă}{A:Ğ}{E:Â->Å->Prop}{K:Frag}{h:ċ}{g:Array GenState}{d:Drawn}{t:Nat}{os:OsState}{a C:Ì}{o:Obj}
structure XCls(K:Frag)(C:Ì):Prop where
 ga:ϖ K (.ref C) "__getattribute__" = df (df<|.builtin "BaseException.__getattribute__")
 gr:ϖ K (.ref C) "__getattr__" = df dg
 cl:ϖ K (.ref C) "__class__" = df (df<|.builtin "object.__class__")
 mo:mroIn K C (.type "object")=df dh
 mb:mroIn K C (.type "BaseException")=df dh
 ci:(clsIn K C).isSome=dh
end
end L2
namespace L2
open PySem PySem.Spec PyProof.Rows
section
variable {X:Cx}
def J9:dA X (.type "int") λxs H Q=>∃z n,xs=[.str z]/\PySem.intText? z=df n/\z.length<=640/\Q (.int n) H:=by intro Á s σ H xs us Q I r h;let⟨z,n,rfl,e,hl,q⟩:=h;let⟨u,rfl,t,rfl⟩:=ZM r;exact PySem.W.KIN.call_text e hl ⟨.int n,H,I.tok _,⟨_,rfl⟩,q⟩
end
end L2
namespace L2
open PySem PySem.Spec PyProof.Rows
open PySem.Builtin PySem.Builtin.Str
abbrev A1(z:Str)(lo hi:Option Int):Str:=if(Ÿ lo hi 1 z.length).length=z.length then z else⟨((Ÿ lo hi 1 z.length).filterMap (z.cps[·]?)).toArray⟩
def Du(z:Str)(lo hi:Option Int):(A1 z lo hi).length<=z.length:=by
 unfold A1;split
 .exact Ï _
 .show((Ÿ lo hi 1 z.length).filterMap (z.cps[·]?)).toArray.size<=_;rw[É];exact Ô (ž _ _)<|indices_len_le lo hi z.length
section
variable {X:Cx}
abbrev Px:V->Option Int->Option Int->Hp->VK->Prop:=λx lo hi H Q=>∃z,x=.str z/\z.length<=Ü/\Q (.str<|A1 z lo hi) H
def UI{v:Â}{lo:Option Int}(h:ψ v lo):∃l:Option<|Int×Tok,v=partValue l/\l.map (·.1)=lo:=by
 cases h with
 |none=>exact⟨dg,rfl,rfl⟩
 |int i t=>exact⟨df (i,t),rfl,rfl⟩
def sl_str:SlR X Px:=by
 intro Á s σ H x v vl vu lo hi sl Q I rx hs pl pu h;let⟨z,rfl,hz,q⟩:=h;let⟨t,rfl⟩:=rx;refine⟨"str",_,slot_str_getitem.lookup,typeIs_str s z t,?_⟩;let⟨l,rfl,el⟩:=UI pl;let⟨u,rfl,eu⟩:=UI pu;have hs':s.heap.IsSlice sl l u dg:=hs;refine wpAny_getItem_str_slice hs' rfl ?_;have e:sliceMade z t l u dg=if(Ÿ lo hi 1 z.length).length=z.length then .val (.str z t)else .str ⟨((Ÿ lo hi 1 z.length).filterMap (z.cps[·]?)).toArray⟩:=by unfold sliceMade slicePicked;rw[el,eu];simp
 rw[e];have cl:=Du z lo hi;unfold A1 at q cl;split
 .rename_i hh;rw[ff hh]at q;exact⟨.str z,H,I,⟨t,rfl⟩,q⟩
 .rename_i hh;rw[fg hh]at q cl;exact⟨Ô cl hz,.str _,H,I.tok _,⟨_,rfl⟩,q⟩
end
section
variable {X:Cx}
def UH(z:Str):∀(n:Nat) (a:Array Nat),((Õ n z.cps).foldl (· ++ ·) a).size=a.size+n*z.cps.size
 |0,a=>by simp
 |n+1,a=>by rw[ą,İ,UH z n,Array.size_append,Nat.succ_mul];lia
end
end L2
namespace L2
open PySem PySem.Spec PyProof.Rows
section
variable {X:Cx}(K:Frag) (h:X.K=K)
include h
end
end L2
namespace HT
open PySem PyProof.Rows
open PySem.SeqAt
open PySem.AutoSeq1 (wpAny_loadPart')
open PySem.MeetsSeq PySem.MeetsSeq2 PySem.MeetsSeq3
section
variable {prog:ë}{w:Ă}{A:Ğ}{E:Â->Å->Prop}{s:Å}
def getItem_tuple_whole{t sl:Ì}{items:Array Â}{vl vu:Â}{lo hi:Option Int}{Q:Â->Å->Prop}(ht:ϣ s.heap t items)(hs:s.heap.IsSliceOf sl vl vu .none)(pl:ψ vl lo)(pu:ψ vu hi)
  (hw:sIx items.size 0 lo=0/\sIx items.size items.size hi=items.size)
  (h:Q (.ref t) s):wpAny (â prog w) A (Ι (.ref t)<|.ref sl) Q E s:=by
 let⟨os,hos,hcs,hds⟩:=id hs;have hTs:s.TypeIs (.ref sl) "slice":=⟨os,hos,hcs⟩
 unfold Ι
 try with_reducible refine ŋ ?_
 first|refine Ã (Ù ?_)|skip
 refine Ã (wpAny_sequenceKey ht.typeIs (by decide) ?_);refine Ã (ŀ (name:=fo "__getitem__") ht.typeIs PyProof.Rows.slot_tuple_getitem
   (ŕ PyProof.Rows.slot_tuple_getitem ht.typeIs entry_tuple_getitem ?_<|args_tuple_getitem _ _))
 show wpAny _ _ (Builtin.Tuple.tupleItemsOf (.ref t) >>= _) _ _ s;refine Ã<|tupleItemsOf_ ht ?_;refine Ã<|cS hTs ?_;rw[ff<|by decide];refine Ã<|Yz hs pl pu ?_;have hyes:(((sIx items.size 0 lo:Nat):Int)==0&&(1:Int)==1&&(sIx items.size items.size hi - sIx items.size 0 lo)==items.size)=dh:=by rw[hw.1,hw.2];simp
 show wpAny _ _ (if(((sIx items.size 0 lo:Nat):Int)==0&&(1:Int)==1&&(sIx items.size items.size hi - sIx items.size 0 lo)==items.size)=dh then _ else _) _ _ s;rw[ff hyes];refine Ã ?_;unfold Builtin.Tuple.tupleIsExact;refine Ã<|cS ht.typeIs<|Ù ?_;rw[ff<|by decide]
 first
  |exact Ã<|Ù<|Ù ⟨_,rfl,Ù h⟩
  |exact Ã<|wpAny_rule<|Ù ⟨_,rfl,Ù h⟩
  |exact Ù ⟨_,rfl,Ù h⟩
end
end HT
namespace L2
open PySem PySem.Spec PyProof.Rows
section
variable {X:Cx}
abbrev Q5(K:Frag):V->Option Int->Option Int->Hp->VK->Prop:=λx lo hi H Q=>∃a xs,x=.ref a/\eU K H a xs/\(HT.sIx xs.length 0 lo=0/\HT.sIx xs.length xs.length hi=xs.length)/\Q (.ref a) H
def Gi:SlR X<|Q5 X.K:=by
 intro Á s σ H x v vl vu lo hi sl Q I rx hs pl pu h;let⟨a,xs,rfl,hx,hw,q⟩:=h;cases rx;let⟨ð,r,ht,hz⟩:=I.tuple hx;have hlen:ð.toArray.size=xs.length:=by rw[É];exact r.length.symm
 refine⟨"tuple",_,PyProof.Rows.slot_tuple_getitem.lookup,ht.typeIs,?_⟩;exact HT.getItem_tuple_whole ht hs pl pu (by rw[hlen];exact hw) ⟨.ref a,H,I,rfl,q⟩
end
end L2
namespace L2
open PySem PySem.Spec PyProof.Rows
open PySem.Builtin PySem.Builtin.Str
section
variable {X:Cx}
abbrev Ht(z:Str)(n:Nat):Str:=⟨(Õ n z.cps).foldl (· ++ ·) #[]⟩
def KW(z:Array Nat):∀(n:Nat) (a:Array Nat),((Õ n z).foldl (· ++ ·) a).toList=a.toList++(Õ n z.toList).flatten
 |0,a=>by simp
 |n+1,a=>by rw[ą,İ,KW z n,ą,ĳ,Array.toList_append,ě]
abbrev Hb:R2:=λx y H Q=>∃z k,x=.str z/\y=.int k/\2<=k/\k<=1000000/\1<=z.length/\z.length*k.toNat<=1000000/\Q (.str<|Ht z k.toNat) H
def Fz:OpR X (Ķ .Mult) Hb:=by
 intro Á s σ H x y v u Q I rx ry h;let⟨z,k,rfl,rfl,h2,h6,h1,hz,q⟩:=h;let⟨t,rfl⟩:=rx;let⟨t',rfl⟩:=ry;have big:(1000000:Nat)<=Ü:=by decide
 have nb:(k==1||z.length==0)=di:=by have e1:(k==1)=di:=beq_false_of_ne (by lia);have e2:(z.length==0)=di:=beq_false_of_ne (by lia);rw[e1,e2];rfl
 have zl:z.length<=1000000:=by have:z.length*1<=z.length*k.toNat:=cH _ (by lia);lia
 have hr:(fm (k < -(2 ^ 63:Int))||fm (k≥2 ^ 63))=di:=by rw[fh (by lia),fh<|by lia];rfl
 have hb:¬ k<1->(k==1||z.length==0)=di->¬ ((z.length:Int) > (2 ^ 63 - 1) / k):=λ_ _=>by have:(1000000:Int)<=(2 ^ 63 - 1) / k:=(bD<|by lia).mpr (by lia);lia
 have hl:¬ k<1->(k==1||z.length==0)=di->tooLong (z.length*k.toNat)=di:=λ_ _=>by unfold tooLong;exact fh (by lia)
 refine P.mul_str hr hb hl ?_;rw[fg (by lia),fg<|by rw[nb];exact ø];have el:(⟨(Õ k.toNat z.cps).foldl (· ++ ·) #[]⟩:Str).length=z.length*k.toNat:=by show((Õ k.toNat z.cps).foldl (· ++ ·) #[]).size=_;rw[UH,bA z.length];simp[Str.length]
 exact⟨by rw[el];lia,.str _,H,I.tok _,⟨_,rfl⟩,q⟩
variable {c y z a b:Str}{k1 k2 k3:Nat}{p1 p2 p3 p4 pa pb Ļ ľ:Pos}
end
end L2
namespace L2
open PySem PySem.Spec PyProof.Rows
section
variable {X:Cx}
abbrev GL(K:Frag):R2:=λx y H Q=>∃a b ys,x=.ref a/\y=.ref b/\eU K H a []/\eU K H b ys/\Q (.ref b) H
def op_cat0:OpR X (Ķ .Add)<|GL X.K:=by
 intro Á s σ H x y v u Q I rx ry h;let⟨a,b,ys,rfl,rfl,ha,hb,q⟩:=h;cases rx;cases ry;let⟨ð,r1,p1,_⟩:=I.tuple ha;let⟨ϱ,r2,p2,_⟩:=I.tuple hb;cases r1;let⟨⟨cls,dd,data,sl⟩,ho,hc,n,hd⟩:=id p1;let⟨⟨cls2,bZ,data2,cL⟩,ho2,hc2,n2,aT⟩:=id p2;simp only at hc hd hc2 aT;subst hc hd hc2 aT;exact cR ⟨_,ho,rfl⟩ ⟨_,ho2,rfl⟩ aB cf PySem.F.slot_tuple_add PySem.F.entry_tuple_add (PySem.F.args_tuple_add_2 _ _)
  (tuple_addW0 a b _ _ n n2 dd bZ sl cL rfl) ⟨ho,ho2,.ref b,H,I,rfl,q⟩
end
section
variable {X:Cx}
abbrev Qc(te:TE):TE:=λσ H Q=>te σ H λx H1=>(∃i,x=.int i/\i.natAbs.log2<1920/\Q (.str<|toString i) H1)\/∃z,x=.str z/\z.length<=Ü/\Q (.str z) H1
def Fy{e:Expr}{te:TE}{ç:Pos}(he:PE X e te):PE X (.FormattedValue e (-1) dg ç)<|Qc te:=by
 intro Á s σ H Q I h;refine wpAny_FormattedValue_plain<|thn (he Á s σ H _ I h) λv s1 ⟨x,H1,I1,r1,q1⟩=>?_;rcases q1 with⟨i,e1,hd,q1⟩|⟨z,e1,hz,q1⟩
 .subst e1;let⟨t,rfl⟩:=r1;exact wpAny_formatField_int hd ⟨.str _,H1,I1.tok _,⟨_,rfl⟩,q1⟩
 .subst e1;let⟨t,rfl⟩:=r1;exact wpAny_formatField_str ⟨.str _,H1,I1,⟨_,rfl⟩,q1⟩ ⟨.str _,H1,I1.tok _,⟨_,rfl⟩,q1⟩ hz
abbrev Fe(K:Frag)(neg:Bool):R2:=λx y H Q=>∃ds d,(IsD K H y (.tuple ds)\/IsD K H y (.list ds))/\IsD K H x d/\Ł ds=dh/\d.canLay0=dh/\d.depth<=64/\Q (.bl<|if neg then !ds.any (λe=>ġ e d)else ds.any λe=>ġ e d) H
def LW(hu:X.A.units+65<Ĥ):OpR X (é .In)<|Fe X.K di:=by
 intro Á s σ H x y v u Q I rx ry h;let⟨ds,d,hd,he,sd,se,hdp,q⟩:=h;let⟨bs,rb⟩:=he.reads I rx;have hr:X.A.units+1+min (Į ds) d.depth<Ĥ:=by have:min (Į ds) d.depth<=d.depth:=ϫ _ _;lia
 rcases hd with hd|hd
 .obtain⟨as,ra⟩:=hd.reads I ry;exact SeqAt.in_tuple_reads ra rb sd se hr ⟨.bl _,H,I,rfl,q⟩
 .obtain⟨as,ra⟩:=hd.reads I ry;exact SeqAt.in_list_reads ra rb sd se hr ⟨.bl _,H,I,rfl,q⟩
def Bl(hu:X.A.units+65<Ĥ):OpR X (é .NotIn)<|Fe X.K dh:=by
 intro Á s σ H x y v u Q I rx ry h;let⟨ds,d,hd,he,sd,se,hdp,q⟩:=h;let⟨bs,rb⟩:=he.reads I rx;have hr:X.A.units+1+min (Į ds) d.depth<Ĥ:=by have:min (Į ds) d.depth<=d.depth:=ϫ _ _;lia
 rcases hd with hd|hd
 .obtain⟨as,ra⟩:=hd.reads I ry;exact SeqAt.notIn_tuple_reads ra rb sd se hr ⟨.bl _,H,I,rfl,q⟩
 .obtain⟨as,ra⟩:=hd.reads I ry;exact SeqAt.notIn_list_reads ra rb sd se hr ⟨.bl _,H,I,rfl,q⟩
end
section
variable {κ:Type} [DecidableEq κ]
abbrev Yt(kvs:List<|κ×V)(k:κ):Option V:=(kvs.find? λkv=>fm (kv.1=k)).map (·.2)
abbrev dR(kvs:List<|κ×V)(k:κ)(v:V):List (κ×V) :=
 if(kvs.any λkv=>fm (kv.1=k))=dh then kvs.map (λkv=>if kv.1=k then(kv.1,v)else kv)else kvs++[(k,v)]
abbrev dU(kvs:List<|κ×V)(k:κ):List<|κ×V:=kvs.filter λkv=>fm (kv.1≠k)
variable {p:κ×V} {r:List (κ×V)}
def YY{k:κ}(e:p.1=k):Yt (p::r) k=df p.2:=by simp[Yt,đ,e]
def YX{k:κ}(e:¬ p.1=k):Yt (p::r) k=Yt r k:=by simp[Yt,đ,e]
def Y6(k:κ):∀kvs:List<|κ×V,(kvs.any λkv=>fm (kv.1=k))=(Yt kvs k).isSome
 |[]=>rfl
 |p::r=>by
  rw[Ħ];by_cases e:p.1=k
  .simp only[YY e,fi e,Bool.true_or,bV]
  .rw[YX e,fh e,Bool.false_or];exact Y6 k r
def YZ(kvs:List<|κ×V)(k:κ)(v:V):(dR kvs k v).length<=kvs.length+1:=by
 unfold dR;split
 .rw[À];lia
 .rw[ã,Ç,ğ];lia
variable {o:Option V} {u:Option Â}
def dW.isSome_eq(r:dW o u):o.isSome=u.isSome:=by
 cases o with
 |none=>cases u with
  |none=>rfl
  |some _=>exact(show False from r).elim
 |some _=>cases u with
  |none=>exact(show False from r).elim
  |some _=>rfl
def dW.getD{d:V}{d':Â}(r:dW o u)(rd:RelV d d'):RelV (o.getD d)<|u.getD d':=by
 cases o with
 |none=>cases u with
  |none=>exact rd
  |some _=>exact(show False from r).elim
 |some _=>cases u with
  |none=>exact(show False from r).elim
  |some _=>exact r
variable {kvs:List (κ×V)} {vs:List (κ×Â)}
def KV.val(r:KV kvs vs)(k:κ):dW (Yt kvs k)<|Λ vs k:=by
 unfold KV at r;induction r with
 |nil=>exact True.intro
 |@cons p q ps qs h t ih =>
  let⟨h1,h2⟩:=h;by_cases e:p.1=k
  .have e':q.1=k:=h1.symm.trans e;have b:Λ (q::qs) k=df q.2:=by simp[Λ,đ,e']
   rw[YY e,b];exact h2
  .have e':¬ q.1=k:=λz=>e<|h1.trans z;have b:Λ (q::qs) k=Λ qs k:=by simp[Λ,đ,e']
   rw[YX e,b];exact ih
def KV.any(r:KV kvs vs)(k:κ):(kvs.any λkv=>fm (kv.1=k))=vs.any λkv=>fm (kv.1=k):=by
 unfold KV at r;induction r with
 |nil=>rfl
 |cons h t ih=>rw[Ħ,Ħ,ih,h.1]
variable {y:V}
def KV.repl(r:KV kvs vs)(k:κ){u:Â}(ry:RelV y u) :
  KV (kvs.map λkv=>if kv.1=k then(kv.1,y)else kv) (vs.map λkv=>if kv.1=k then(kv.1,u)else kv):=by
 unfold KV at r ⊢;induction r with
 |nil=>exact .nil
 |@cons p q ps qs h t ih =>
  rw[Í,Í];refine .cons ?_ ih;let⟨h1,h2⟩:=h;by_cases e:p.1=k
  .rw[ff e,ff<|h1.symm.trans e];exact⟨h1,ry⟩
  .rw[fg e,fg λz=>e<|h1.trans z];exact⟨h1,h2⟩
def KV.put(r:KV kvs vs)(k:κ){u:Â}(ry:RelV y u):KV (dR kvs k y)<|stored vs k u:=by
 unfold dR stored;rw[r.any k];by_cases e:(vs.any λkv=>fm (kv.1=k))=dh
 .rw[ff e,ff e];exact r.repl k ry
 .rw[fg e,fg e];exact Paired.snoc r ⟨rfl,ry⟩
def KV.drop(r:KV kvs vs)(k:κ):KV (dU kvs k)<|without vs k:=by
 unfold KV at r ⊢;unfold dU without;induction r with
 |nil=>exact .nil
 |@cons p q ps qs h t ih =>
  let⟨h1,h2⟩:=h;rw[ú,ú];by_cases e:p.1=k
  .have a:¬ fm (p.1≠k)=dh:=by simp[e]
   have b:¬ fm (q.1≠k)=dh:=by simp[h1.symm.trans e]
   rw[fg a,fg b];exact ih
  .have e':¬ q.1=k:=λz=>e<|h1.trans z;have a:fm (p.1≠k)=dh:=by simp[e]
   have b:fm (q.1≠k)=dh:=by simp[e']
   rw[ff a,ff b];exact .cons ⟨h1,h2⟩ ih
def KV.keys(r:KV kvs vs):kvs.map (·.1)=vs.map (·.1):=by
 unfold KV at r;induction r with
 |nil=>rfl
 |cons h t ih=>rw[Í,Í,ih,h.1]
def KV.length(r:KV kvs vs):kvs.length=vs.length:=Paired.length r
def CM(kvs:List<|κ×V)(k:κ):(dU kvs k).length<=kvs.length:=Ģ _ _
end
variable {P:ë} {w:Ă} {u:Â}
def Wd{k:Key}(r:RelV (kV k) u):(Zf P w).is k u=dh:=by
 cases k with
 |inl i=>let⟨t,e⟩:=(show ∃t,u=Value.int i t from r);subst e;exact Nw P w i t
 |inr x=>let⟨t,e⟩:=(show ∃t,u=Value.str x t from r);subst e;exact NE P w x t
def KU{P:ë}{w:Ă}:∀{ks:List Key}{us:List Â},eV (ks.map kV) us->ItemsAre (Zf P w) ks us
 |[],_,r=>by rw[Ų]at r;cases r;exact .nil
 |k::ks,_,r=>by
  rw[Í]at r;cases r with
  |cons h t=>exact .cons (Wd h)<|KU t
@[reducible] noncomputable def KTd(H:Hp):List (List Key×V)->List (List Key×Ì×Â)->Prop:=Paired λp q=>p.1=q.1/\H q.2.1=df (.tup<|p.1.map kV)/\RelV p.2 q.2.2
variable {H:Hp} {kvs:List (List Key×V)} {xs:List (List Key×Ì×Â)}
def KTd.val(r:KTd H kvs xs)(k:List Key):dW (Yt kvs k) ((bE xs k).map (·.2)):=by
 induction r with
 |nil=>exact True.intro
 |@cons p q ps qs h t ih =>
  let⟨h1,_,h2⟩:=h;by_cases e:p.1=k
  .have e':q.1=k:=h1.symm.trans e;have b:bE (q::qs) k=df q.2:=by simp[bE,đ,e']
   rw[YY e,b];exact h2
  .have e':¬ q.1=k:=λz=>e<|h1.trans z;have b:bE (q::qs) k=bE qs k:=by simp[bE,đ,e']
   rw[YX e,b];exact ih
variable {y:V}
def KTd.repl(r:KTd H kvs xs)(k:List Key)(ry:RelV y u) :
  KTd H (kvs.map λkv=>if kv.1=k then(kv.1,y)else kv) (xs.map<|putAt k u):=by
 induction r with
 |nil=>exact .nil
 |@cons p q ps qs h t ih =>
  rw[Í,Í];refine .cons ?_ ih;let⟨h1,h2,h3⟩:=h;unfold putAt;by_cases e:p.1=k
  .rw[ff e,ff<|h1.symm.trans e];exact⟨h1,h2,ry⟩
  .rw[fg e,fg λz=>e<|h1.trans z];exact⟨h1,h2,h3⟩
variable {b:Ì}
def KTd.put(r:KTd H kvs xs)(k:List Key)(hb:H b=df (.tup<|k.map kV))(ry:RelV y u) :
  KTd H (dR kvs k y) (storedH xs k b u):=by
 have e:(kvs.any λkv=>fm (kv.1=k))=(bE xs k).isSome:=by rw[Y6,(r.val k).isSome_eq,Ř]
 unfold dR storedH;rw[e];by_cases q:(bE xs k).isSome=dh
 .rw[ff q,ff q];exact r.repl k ry
 .rw[fg q,fg q];exact Paired.snoc r ⟨rfl,hb,ry⟩
variable {H':Hp}
def KTd.keeps(r:KTd H kvs xs)(ht:∀b ys,H b=df (.tup ys)->H' b=df (.tup ys)):KTd H' kvs xs :=
 Paired.mapP r λ_ _ z=>⟨z.1,ht _ _ z.2.1,z.2.2⟩
section
variable {P:ë}{w:Ă}{H:Hp}{h:ċ}{a:Ì}
def G8{u:HO}(ok:HOk P w H h)(e:Rd H a u):dB P w H h a u:=e.ok ok
def Wf{kvs:List (Key×V)}(ok:HOk P w H h)(e:Rd H a<|.dK kvs):kvs.length<=Ü/\(a==ń)=di/\∃vs,KV kvs vs/\h.DictOf (Zf P w) a vs :=
 show dB P w H h a (.dK kvs) from G8 ok e
def Jx{kvs:List (Key×V)}(ok:HOk P w H h)(e:H a=df (.dK kvs)):kvs.length<=Ü/\(a==ń)=di/\∃vs,KV kvs vs/\h.DictOf (Zf P w) a vs:=Wf ok (.inl e)
def dI{ks:List Key}(ok:HOk P w H h)(e:H a=df (.tup<|ks.map kV)):(ϙ<|Zf P w).is h ks a:=by
 let⟨_,ð,r,o,h1,h2,n,h3⟩:=(show dB P w H h a (.tup<|ks.map kV) from ok a _ e)
 exact⟨o,ð.toArray,n,h1,h2,h3,by simpa using KU r⟩
def JG(ok:HOk P w H h)(e:Rd H a<|.dT kvs):kvs.length<=Ü/\(a==ń)=di/\
  ∃xs,KTd H kvs xs/\h.DictOfH (ϙ<|Zf P w) a xs:=by
 let⟨z,y,xs,r,o,es,ep,h1,h2,h3,h4,h5⟩:=(show dB P w H h a (.dT kvs) from G8 ok e)
 refine⟨z,y,xs,r,o,es,ep,h1,h2,h3,h4,λx hx=>?_,h5⟩;have all:∀{l:List (List Key×V)}{m:List (List Key×Ì×Â)},KTd H l m->∀x∈m,(ϙ<|Zf P w).is h x.1 x.2.1:=by
  intro l m q;induction q with
  |nil=>intro x hx;exact nomatch hx
  |@cons p q ps qs hq t ih =>
   intro x hx;rcases Æ.mp hx with e|hx
   .subst e;exact dI ok (by rw[<-hq.1];exact hq.2.1)
   .exact ih x hx
 exact all r x hx
def P3(ok:HOk P w H h)(e:H a=df (.dT kvs)):kvs.length<=Ü/\(a==ń)=di/\
  ∃xs,KTd H kvs xs/\h.DictOfH (ϙ<|Zf P w) a xs:=JG ok<|.inl e
end
abbrev DGet(H:Hp)(a:Ì)(y:V)(r:Option V):Prop :=
 (∃kvs k,Rd H a (.dK kvs)/\y=kV k/\r=Yt kvs k)\/∃kvs k b,Rd H a (.dT kvs)/\y=.ref b/\H b=df (.tup<|k.map kV)/\r=Yt kvs k
abbrev DPut(H:Hp)(a:Ì)(y v:V)(H':Hp):Prop :=
 (∃kvs k,H a=df (.dK kvs)/\y=kV k/\kvs.length<Ü/\H'=upd H a (.dK<|dR kvs k v))\/
 ∃kvs k b,H a=df (.dT kvs)/\y=.ref b/\H b=df (.tup<|k.map kV)/\kvs.length<Ü/\H'=upd H a (.dT<|dR kvs k v)
def DGet.k{H:Hp}{a:Ì}{kvs:List (Key×V)}{k:Key}(e:H a=df (.dK kvs)):DGet H a (kV k)<|Yt kvs k:=.inl ⟨kvs,k,.inl e,rfl,rfl⟩
variable {a:Ì}
def DGet.t{k:List Key}(e:H a=df (.dT kvs))(eb:H b=df (.tup<|k.map kV)):DGet H a (.ref b)<|Yt kvs k:=.inr ⟨kvs,k,b,.inl e,rfl,eb,rfl⟩
def DPut.k{H:Hp}{a:Ì}{kvs:List (Key×V)}{k:Key}{v:V}(e:H a=df (.dK kvs))(hl:kvs.length<Ü):DPut H a (kV k) v<|upd H a<|.dK<|dR kvs k v:=.inl ⟨kvs,k,e,rfl,hl,rfl⟩
def DPut.t{k:List Key}{v:V}(e:H a=df (.dT kvs))(eb:H b=df (.tup<|k.map kV))(hl:kvs.length<Ü) :
  DPut H a (.ref b) v (upd H a<|.dT<|dR kvs k v):=.inr ⟨kvs,k,b,e,rfl,eb,hl,rfl⟩
section
variable {X:Cx}{Á:List (Ì×Obj)}{σ:St}{H:Hp}{s:Å}{a:Ì}{y v:V}{u r:Â}{o:Option V}{A:Ğ}{E:Â->Å->Prop}
def Inv.big(I:Inv X Á σ H s):ń<s.heap.objs.size:=by have h:ÿ<s.heap.objs.size:=(I.mod.glob.keeps I.bk).lt;exact Ŵ (by decide) h
variable {Q:Â->Å->Prop}
def KJ(hu:A.units+1<Ĥ)(I:Inv X Á σ H s)(g:DGet H a y<|df v)(ry:RelV y u)(h:∀w' s',Inv X Á σ H s'->RelV v w'->Q w' s') :
  wpAny (â X.prog X.w) A (Ι (.ref a) u) Q E s:=by
 rcases g with⟨kvs,k,e,ey,l⟩|⟨kvs,k,b,e,ey,eb,l⟩
 .subst ey;let⟨z,hd,vs,ŝ,dd⟩:=Wf I.hok e;let⟨w',hw,ao⟩:=dW.some_of (v:=v) (o:=Λ vs k) (by rw[l];exact ŝ.val k);exact wpAny_getItem_of (Wd ry) dd.mapOf hw<|h w' _ (I.tok _) ao
 .subst ey;cases (show u=Value.ref b from ry);let⟨z,hd,xs,ŝ,dd⟩:=JG I.hok e;let⟨w',hw,ao⟩:=dW.some_of (v:=v) (o:=(bE xs k).map (·.2)) (by rw[l];exact ŝ.val k);let⟨p,hp,cM⟩:=Ë.mp hw;refine wpAny_getItem_heap (Ş hu) (dI I.hok eb) dd hp ?_;rw[cM];exact h w' _ (I.tok _) ao
def Ri(hu:A.units+1<Ĥ)(I:Inv X Á σ H s)(g:DGet H a y o)(ry:RelV y u)(h:∀s',Inv X Á σ H s'->Q (.bool o.isSome) s') :
  wpAny (â X.prog X.w) A (é .In u<|.ref a) Q E s:=by
 rcases g with⟨kvs,k,e,ey,l⟩|⟨kvs,k,b,e,ey,eb,l⟩
 .subst ey;let⟨z,hd,vs,ŝ,dd⟩:=Wf I.hok e;refine wpAny_in_of (Wd ry) hd dd.mapOf ?_;rw[<-(ŝ.val k).isSome_eq,<-l];exact h _<|I.tok _
 .subst ey;cases (show u=Value.ref b from ry);let⟨z,hd,xs,ŝ,dd⟩:=JG I.hok e;refine wpAny_in_heap (Ş hu) (dI I.hok eb) hd dd ?_;have q:=(ŝ.val k).isSome_eq;rw[Ř]at q;rw[<-q,<-l];exact h _<|I.tok _
def FH(hu:A.units+1<Ĥ)(I:Inv X Á σ H s)(g:DGet H a y o)(ry:RelV y u)(h:∀s',Inv X Á σ H s'->Q (.bool (!o.isSome)) s') :
  wpAny (â X.prog X.w) A (é .NotIn u<|.ref a) Q E s:=by
 rcases g with⟨kvs,k,e,ey,l⟩|⟨kvs,k,b,e,ey,eb,l⟩
 .subst ey;let⟨z,hd,vs,ŝ,dd⟩:=Wf I.hok e;refine wpAny_notIn_of (Wd ry) hd dd.mapOf ?_;rw[<-(ŝ.val k).isSome_eq,<-l];exact h _<|I.tok _
 .subst ey;cases (show u=Value.ref b from ry);let⟨z,hd,xs,ŝ,dd⟩:=JG I.hok e;refine wpAny_notIn_heap (Ş hu) (dI I.hok eb) hd dd ?_;have q:=(ŝ.val k).isSome_eq;rw[Ř]at q;rw[<-q,<-l];exact h _<|I.tok _
variable {h':ċ}
def WT{t':Nat}{ob:HO}(I:Inv X Á σ H s)(mu:Mut<|H a)(hs:ν a s.heap h')(he:∃q,h'.get? a=df q)(new:dB X.prog X.w (upd H a ob) h' a ob) :
  Inv X Á σ (upd H a ob) {s with heap:=h',toks:=t'} :=
 I.write (x:=a) (e:=a) mu (.inl rfl) (λb q hb z=>(hs.2 b hb).trans z) he new
def OG{kvs:List (Key×V)}{vs:List (Key×Â)}(z:kvs.length<=Ü)(hd:(a==ń)=di)(ŝ:KV kvs vs)(dd:h'.DictOf (Zf P w) a vs) :
  dB P w H' h' a (.dK kvs):=⟨z,hd,vs,ŝ,dd⟩
def AR{Q:Unit->Å->Prop}(hu:A.units+1<Ĥ)(I:Inv X Á σ H s)(g:DPut H a y v H')(ry:RelV y u)(rv:RelV v r)(h:∀s',Inv X Á σ H' s'->Q () s') :
  wpAny (â X.prog X.w) A (ae (.ref a) u r) Q E s:=by
 rcases g with⟨kvs,k,e,ey,l,eH⟩|⟨kvs,k,b,e,ey,eb,l,eH⟩
 .subst ey eH;let⟨z,hd,vs,ŝ,dd⟩:=Jx I.hok e;have hz:vs.length<=Ü:=by rw[<-ŝ.length];exact z
  have hl:(dR kvs k v).length<=Ü:=by have:=YZ kvs k v;lia
  refine wpAny_setItem_pairs (hsz:=hz) (Wd ry) dd λh' dd' hs=>h _ ?_;have he:∃q,h'.get? a=df q:=let ⟨q,_,_,hq,_⟩:=dd';⟨q,hq⟩;exact WT I (by rw[e];exact True.intro) hs he<|OG hl hd (ŝ.put k rv) dd'
 .subst ey eH;cases (show u=Value.ref b from ry);let⟨z,hd,xs,ŝ,dd⟩:=P3 I.hok e;have hz:xs.length<=Ü:=by rw[<-Paired.length ŝ];exact z
  have hl:(dR kvs k v).length<=Ü:=by have:=YZ kvs k v;lia
  refine wpAny_setItem_heap (hsz:=hz) (Ş hu) (dI I.hok eb) dd λh' dd' hs=>h _ ?_;let⟨q,es,ep,hq,h2,h3,h4,_,h5⟩:=dd';refine WT I (by rw[e];exact True.intro) hs ⟨q,hq⟩ ⟨hl,hd,_,(ŝ.put k eb rv).keeps λc ys ec=>?_,q,es,ep,hq,h2,h3,h4,h5⟩;rw[dj<|Rg ec e λz=>nomatch z];exact ec
end
section
variable {X:Cx}{Á:List (Ì×Obj)}{σ:St}{H:Hp}{s:Å}{a:Ì}{kvs:List (Key×V)}{k:Key}{u:Â}{A:Ğ}{E:Â->Å->Prop}
variable {Q:Â->Å->Prop}
def GQ{v:V}{more:List Â}(I:Inv X Á σ H s)(e:H a=df (.dK kvs))(ry:RelV (kV k) u)(l:Yt kvs k=df v)(hm:more=[]\/∃x,more=[x])
  (h:∀w' s',Inv X Á σ (upd H a<|.dK<|dU kvs k) s'->RelV v w'->Q w' s'):wpAny (â X.prog X.w) A (call (.builtin "dict.pop")<|.ref a::u::more) Q E s:=by
 let⟨z,hd,vs,ŝ,dd⟩:=Jx I.hok e;let⟨w',hw,ao⟩:=dW.some_of (v:=v) (o:=Λ vs k) (by rw[<-l];exact ŝ.val k);have hp:(keyPart u).isSome=dh:=by
  cases k with
  |inl i=>let⟨t,q⟩:=(show ∃t,u=Value.int i t from ry);subst q;rfl
  |inr x=>let⟨t,q⟩:=(show ∃t,u=Value.str x t from ry);subst q;rfl
 have ha:argsOk "dict.pop" ⟨.ref a::u::more,[]⟩:=by
  rcases hm with q|⟨x,q⟩
  .subst q;exact PySem.F.args_dict_pop_2 _ _
  .subst q;exact PySem.F.args_dict_pop_3 _ _ _
 refine Μ PySem.F.slot_dict_pop dd.typeIs PySem.F.entry_dict_pop ha (meets_dict_pop_there (Zf X.prog X.w) a (Wd ry) more hm hp)
  ⟨vs,w',dd,by rw[<-ŝ.length];exact z,hw,λh' dd' hs=>h w' _ ?_ ao⟩
 have he:∃q,h'.get? a=df q:=let ⟨q,_,_,hq,_⟩:=dd';⟨q,hq⟩;exact WT I (by rw[e];exact True.intro) hs he<|OG (Ô (CM kvs k) z) hd (ŝ.drop k) dd'
def HU{r:Â}(I:Inv X Á σ H s)(e:H a=df (.dK kvs))(ry:RelV (kV k) u)(l:Yt kvs k=dg)(h:∀s',Inv X Á σ H s'->Q r s') :
  wpAny (â X.prog X.w) A (call (.builtin "dict.pop") [.ref a,u,r]) Q E s:=by
 let⟨z,hd,vs,ŝ,dd⟩:=Jx I.hok e;have hn:Λ vs k=dg:=dW.none_of (by rw[<-l];exact ŝ.val k);have hp:(keyPart u).isSome=dh:=by
  cases k with
  |inl i=>let⟨t,q⟩:=(show ∃t,u=Value.int i t from ry);subst q;rfl
  |inr x=>let⟨t,q⟩:=(show ∃t,u=Value.str x t from ry);subst q;rfl
 exact Μ PySem.F.slot_dict_pop dd.typeIs PySem.F.entry_dict_pop (PySem.F.args_dict_pop_3 _ _ _) (meets_dict_pop_default (Zf X.prog X.w) a (Wd ry) hd hp r) ⟨vs,dd,hn,h _<|I.tok _⟩
def Qp(I:Inv X Á σ H s)(e:Rd H a<|.dK kvs)(h:∀t s',Inv X Á σ H s'->Q (.int kvs.length t) s'):wpAny (â X.prog X.w) A (call (.builtin "len") [.ref a]) Q E s:=by let⟨z,hd,vs,ŝ,dd⟩:=Wf I.hok e;refine call_len_dict hd dd (by rw[<-ŝ.length];rw[ϒ]at z;lia) ?_;rw[<-ŝ.length];exact h _ _ (I.tok _)
end
variable {X:Cx} {Á:List (Ì×Obj)} {σ:St} {s:Å}
def NF{o:Option V}(I:Inv X Á σ H s)(g:DGet H a y o):s.TypeIs (.ref a) "dict":=by
 rcases g with⟨kvs,k,e,_,_⟩|⟨kvs,k,b,e,_,_,_⟩
 .obtain⟨_,_,vs,_,dd⟩:=Wf I.hok e;exact dd.typeIs
 .obtain⟨_,_,xs,_,dd⟩:=JG I.hok e;exact dd.typeIs
def NL(h:ċ)(hb:ń<h.objs.size):dB P w H (h.push {cls:=.type "dict",data:=.dict #[]}) h.objs.size (.dK []) :=
 ⟨ŏ _,beq_eq_false_iff_ne.mpr<|Ne.symm<|ì hb,[],.nil,Heap.DictOf.new h⟩
abbrev Lf:TE:=λ_ H Q=>∀p,H p=dg->Q (.ref p) (upd H p<|.dK [])
section
variable {X:Cx}{ç:Pos}
def pe_dnewK:PE X (.Dict [] [] ç) Lf:=λÁ s σ H Q I h =>
 wpAny_Dict_empty ⟨.ref s.heap.objs.size,_,I.laid (a:=s.heap.objs.size) (o:=.dK []) (t':=s.toks) (λ_ _ q=>Ä _ q) (Ï _)<|NL s.heap I.big,rfl,h _<|I.hok.fresh<|Ï _⟩
end
abbrev MN:List (TE×TE)->St->Hp->(List (V×V)->Hp->Prop)->Prop
 |[],_,H,Q=>Q [] H
 |(tk,tv)::r,σ,H,Q=>tk σ H λx H1=>tv σ H1 λy H2=>MN r σ H2 λps H3=>Q ((x,y)::ps) H3
@[reducible] noncomputable def VV:List (V×V)->List (Â×Â)->Prop:=Paired λp q=>RelV p.1 q.1/\RelV p.2 q.2
abbrev PPs(X:Cx)(ç:Pos)(keys:List<|Option Expr)(θ:List Expr)(trs:List<|TE×TE):Prop :=
 ∀(Á:List<|Ì×Obj) (s:Å) (σ:St) (H:Hp) (Q:List (V×V)->Hp->Prop),Inv X Á σ H s->MN trs σ H Q->
  wpAny (â X.prog X.w) X.A (evalPairs<|pairTrees keys θ X.env ç) (λvs s'=>∃ps H',Inv X Á σ H' s'/\VV ps vs/\Q ps H') X.xe s
variable {ç:Pos}
def Gw:PPs X ç [] [] []:=λÁ s σ H Q I h=>pairTrees_nil_walk ⟨[],H,I,.nil,h⟩
variable {trs:List (TE×TE)}
def CK{k v:Expr}{ks:List (Option Expr)}{vs:List Expr}{tk tv:TE}(hk:PE X k tk)(hv:PE X v tv)(hr:PPs X ç ks vs trs) :
  PPs X ç (df k::ks) (v::vs) ((tk,tv)::trs):=λÁ s σ H Q I h =>
 pairTrees_cons_walk (thn (hk Á s σ H _ I h) λu s1 ⟨x,H1,I1,rx,q1⟩=>thn (hv Á s1 σ H1 _ I1 q1) λw2 s2 ⟨y,H2,I2,ry,q2⟩ =>
   thn (hr Á s2 σ H2 _ I2 q2) λws s3 ⟨ps,H3,I3,ŝ,q3⟩=>⟨(x,y)::ps,H3,I3,.cons ⟨rx,ry⟩ ŝ,q3⟩)
abbrev Y5(kvs more:List<|Key×V):List<|Key×V:=more.foldl (λħ kv=>dR ħ kv.1 kv.2) kvs
def KV.merge:∀{more:List (Key×V)}{rs:List (Key×Â)}{kvs:List (Key×V)}{vs:List (Key×Â)},KV more rs->KV kvs vs->KV (Y5 kvs more) (merged vs rs):=by
 intro more rs kvs vs r;unfold KV at r;induction r generalizing kvs vs with
 |nil=>intro q;exact q
 |@cons p q ps qs h t ih =>
  intro r0;have e:KV (dR kvs p.1 p.2)<|stored vs q.1 q.2:=by have:=r0.put p.1 h.2;rw[<-h.1];exact this
  exact ih e
def Xy:∀(more kvs:List<|Key×V),(Y5 kvs more).length<=kvs.length+more.length
 |[],kvs=>by show kvs.length<=kvs.length+0;lia
 |p::r,kvs=>by have h1:=Xy r<|dR kvs p.1 p.2;have h2:=YZ kvs p.1 p.2;show(Y5 (dR kvs p.1 p.2) r).length<=_;rw[Ç];lia
def Jt{P:ë}{w:Ă}:∀{kvs:List (Key×V)}{ws:List (Â×Â)},VV (kvs.map λkv=>(kV kv.1,kv.2)) ws->∃rs,Carries (Zf P w) ws rs/\KV kvs rs
 |[],_,r=>by rw[Ų]at r;cases r;exact⟨[],True.intro,.nil⟩
 |p::kvs,_,r=>by
  rw[Í]at r;cases r with
  |@cons a b as bs h t =>let⟨rs,c,q⟩:=Jt (P:=P) (w:=w) t;let⟨b1,b2⟩:=b;exact⟨(p.1,b2)::rs,⟨Wd h.1,rfl,c⟩,.cons ⟨rfl,h.2⟩ q⟩
abbrev QC(trs:List<|TE×TE):TE:=λσ H Q=>∀p,H p=dg->MN trs σ (upd H p<|.dK []) λps H2=>H2 p=df (.dK [])/\∃kvs:List<|Key×V,ps=kvs.map (λkv=>(kV kv.1,kv.2))/\kvs.length<=15/\Q (.ref p) (upd H2 p<|.dK<|Y5 [] kvs)
def E9{keys:List (Option Expr)}{θ:List Expr}(h:PPs X ç keys θ trs)(hall:keys.all (·.isSome)=dh)(hl:keys.length=θ.length)(h0:keys≠[])
  (h15:keys.length<=15):PE X (.Dict keys θ ç)<|QC trs:=by
 intro Á s σ H Q I q;have hn:=I.hok.fresh<|Ï s.heap.objs.size;have I1:=I.laid (a:=s.heap.objs.size) (o:=.dK []) (h':=s.heap.push {cls:=.type "dict",data:=.dict #[]}) (t':=s.toks) (λ_ _ q=>Ä _ q) (Ï _)<|NL s.heap I.big;refine wpAny_Dict_walk (knd:=Zf X.prog X.w) hall hl h0 h15<|thn (h Á _ σ _ _ I1<|q _ hn) λws s2 ⟨ps,H2,I2,ŝ,e,kvs,ep,lk,q2⟩=>?_;subst ep;let⟨rs,c,rk⟩:=Jt (P:=X.prog) (w:=X.w) ŝ;let⟨z,hd,vs0,r0,dd⟩:=Jx I2.hok e;cases r0;refine⟨rs,c,dd,λh' dd' hs=>⟨.ref s.heap.objs.size,_,?_,rfl,q2⟩⟩;have hz:(Y5 [] kvs).length<=Ü:=by have h1:=Xy kvs [];rw[ğ]at h1;rw[ϒ];lia
 have he:∃q,h'.get? s.heap.objs.size=df q:=let ⟨q,_,_,hq,_⟩:=dd';⟨q,hq⟩;exact WT I2 (by rw[e];exact True.intro) hs he<|OG hz hd (rk.merge .nil) dd'
structure M2(X:Cx)(o:Expr)(m:Str)(Ļ:Pos)(e f:Expr)(ľ:Pos):Prop where
 base:ē o m X.env (eval o X.env)=eval o X.env
 few:((Ē ľ<|Ó [e,f] X.env).all (λx=>!x.1)&&(ś ľ<|Ĭ [] X.env).all (λx=>x.1.isSome)
   && fm (([e,f]:List Expr).length+([]:List Κ).length+(if([]:List Κ).isEmpty then 0 else 1)<30))=dh
 line:(Ļ.endLine==ľ.line)=dh
 trees:Ē ľ (Ó [e,f] X.env)=[(di,eval e X.env),(di,eval f X.env)]
abbrev Sb(H:Hp)(a:Ì):Prop:=(∃kvs,Rd H a<|.dK kvs)\/∃kvs,Rd H a (.dT kvs)
def Ie(I:Inv X Á σ H s)(d:Sb H a) :
  s.TypeIs (.ref a) "dict"/\(∀b,Value.ref a=.ref b->∃ob,s.heap.get? b=df ob/\ob.dict=dg)/\(a==ń)=di:=by
 rcases d with⟨kvs,e⟩|⟨kvs,e⟩
 .obtain⟨_,hd,vs,_,dd⟩:=Wf I.hok e;refine⟨dd.typeIs,λb q=>?_,hd⟩;cases q;let⟨ob,_,_,h1,h2,_⟩:=dd;exact⟨ob,h1,h2.2.1⟩
 .obtain⟨_,hd,xs,_,dd⟩:=JG I.hok e;refine⟨dd.typeIs,λb q=>?_,hd⟩;cases q;let⟨ob,_,_,h1,h2,_⟩:=dd;exact⟨ob,h1,h2.2.1⟩
section
variable {X:Cx}{Á:List (Ì×Obj)}{σ:St}{H:Hp}{s:Å}{a:Ì}{y d:V}{u r:Â}{o:Option V}{A:Ğ}{E:Â->Å->Prop}
def IS{Q:Â->Å->Prop}(hu:A.units+1<Ĥ)(I:Inv X Á σ H s)(g:DGet H a y o)(ry:RelV y u)(h:∀w' s',Inv X Á σ H s'->RelV (o.getD .non) w'->Q w' s') :
  wpAny (â X.prog X.w) A (call (.builtin "dict.get") [.ref a,u]) Q E s:=by
 rcases g with⟨kvs,k,e,ey,l⟩|⟨kvs,k,b,e,ey,eb,l⟩
 .subst ey;let⟨z,hd,vs,ŝ,dd⟩:=Wf I.hok e;refine Μ PySem.F.slot_dict_get dd.typeIs PySem.F.entry_dict_get (PySem.F.args_dict_get_2 _ _) (meets_dict_get (Zf X.prog X.w) a (Wd ry) hd) ⟨_,dd.mapOf,h _ _ (I.tok _) ?_⟩;rw[l];exact(ŝ.val k).getD rfl
 .subst ey;cases (show u=Value.ref b from ry);let⟨z,hd,xs,ŝ,dd⟩:=JG I.hok e;refine Μ PySem.F.slot_dict_get dd.typeIs PySem.F.entry_dict_get (PySem.F.args_dict_get_2 _ _) (meetsH_dict_get (ϙ<|Zf X.prog X.w) a b hd) ⟨Ş hu,k,xs,dI I.hok eb,dd,h _ _ (I.tok _) ?_⟩;rw[l];exact(ŝ.val k).getD rfl
end
section
variable {X:Cx}
def Bb:dA X (.builtin "len") λxs H Q=>∃a kvs,xs=[V.ref a]/\H a=df (.dK kvs)/\Q (.int kvs.length) H:=by intro Á s σ H xs us Q I r h;let⟨a,kvs,rfl,ha,q⟩:=h;let⟨u,rfl,ru⟩:=ZM r;cases ru;exact Qp I (.inl ha) λt s' I'=>⟨.int kvs.length,H,I',⟨t,rfl⟩,q⟩
end
end L2
namespace O
noncomputable abbrev Ad:=Nat
inductive Val where
 |non|bl (b:Bool)|int (i:Int)|str (s:String)|tup (xs:List Val)|ref (a:Ad)|scr (ns:List Int)|key (i j:Int)
 deriving Inhabited
mutual
noncomputable def Val.eqb:Val->Val->Bool
 |.non,b=>match b with|.non=>dh|_=>di
 |.bl a,b=>match b with|.bl c=>a==c|_=>di
 |.int a,b=>match b with|.int c=>a==c|_=>di
 |.str a,b=>match b with|.str c=>a==c|_=>di
 |.tup a,b=>match b with|.tup c=>Val.eqs a c|_=>di
 |.ref a,b=>match b with|.ref c=>a==c|_=>di
 |.scr a,b=>match b with|.scr c=>a==c|_=>di
 |.key a b,x=>match x with|.key c d=>a==c&&b==d|_=>di
noncomputable def Val.eqs:List Val->List Val->Bool
 |[],b=>match b with|[]=>dh|_=>di
 |x::xs,b=>match b with|y::ys=>Val.eqb x y&&Val.eqs xs ys|_=>di
end
mutual
theorem Val.eqb_iff:∀{a b:Val},Val.eqb a b=dh↔a=b
 |.non,b=>by cases b<;>simp[Val.eqb]
 |.bl _,b=>by cases b<;>simp[Val.eqb]
 |.int _,b=>by cases b<;>simp[Val.eqb]
 |.str _,b=>by cases b<;>simp[Val.eqb]
 |.tup _,b=>by cases b<;>simp[Val.eqb,Val.eqs_iff]
 |.ref _,b=>by cases b<;>simp[Val.eqb]
 |.scr _,b=>by cases b<;>simp[Val.eqb]
 |.key _ _,b=>by cases b<;>simp[Val.eqb]
theorem Val.eqs_iff:∀{a b:List Val},Val.eqs a b=dh↔a=b
 |[],b=>by cases b<;>simp[Val.eqs]
 |_::_,b=>by cases b<;>simp[Val.eqs,Val.eqb_iff,Val.eqs_iff]
end
noncomputable instance:DecidableEq Val:=λa b=>if h:Val.eqb a b=dh then isTrue (Val.eqb_iff.mp h)else isFalse λe=>h<|Val.eqb_iff.mpr e
inductive Ob where
 |lst (xs:List Val)|dct (kvs:List<|Val×Val)|ins (C:String) (fs:List<|String×Val)|exc (C:String)|frz (kvs:List<|Val×Val)|dtp (kvs:List<|Val×Val)
 deriving Inhabited
abbrev figB(c:Char):Bool:=fm (48<=c.toNat)&&fm (c.toNat<=57)
abbrev decN(l:List Char):Nat:=l.foldl (λa c=>10*a+(c.toNat - 48)) 0
abbrev QQ:Val->Option String
 |.str s=>df s
 |_=>dg
abbrev oneC(s:String):Option Char:=match s.toList with
 |[c]=>df c
 |_=>dg
abbrev F1(i:Int):String:=toString i
abbrev fmtV:Val->Option String
 |.str s=>df s
 |.int i=>if i.natAbs<10 ^ 200 then df (F1 i)else dg
 |_=>dg
noncomputable abbrev Hs:=Ad->Option Ob
@[irreducible] noncomputable def upd(h:Hs)(a:Ad)(o:Ob):Hs:=λb=>if b=a then df o else h b
variable {h:Hs} {a:Ad} {o:Ob}
def dk:upd h a o a=df o:=by simp[upd]
def dj{b:Ad}(e:b≠a):upd h a o b=h b:=by simp[upd,e]
def dm{u:Ob}:upd (upd h a o) a u=upd h a u:=by funext b;simp only[upd];split<;>rfl
noncomputable abbrev Env:=List<|Option Val
noncomputable abbrev Q1:=Val->Hs->Prop
noncomputable abbrev XQ:=String->Hs->Prop
noncomputable abbrev Fs:=String->List Val->Hs->Q1->XQ->Prop
abbrev lim:Nat:=1000000
variable {α:Type}
@[irreducible] noncomputable def go(o:Option α)(k:α->Prop):Prop:=match o with|some a=>k a|none=>False
@[simp] theorem dq{a:α}{k:α->Prop}:go (df a) k=k a:=by unfold go;rfl
@[simp] theorem FN{k:α->Prop}:go dg k=False:=by unfold go;rfl
def du{o:Option α}{a:α}{k:α->Prop}(e:o=df a)(h:k a):go o k:=by rw[e,dq];exact h
set_option genInjectivity false
inductive Bop where|add|sub|mul|fdiv|mod|pow
inductive Cop where|eq|ne|lt|le|gt|ge|isin|notin|is|isnot|eqE|neE|ntT
inductive Bi where
 |len|int|str|bool|abs|min2|max2|minL|maxL|minD|sum|all|any|sorted|sortedI|sortedSet|lenSet|list|tuple|dict|isi (Ts:List String)|isx (Ts:List String)|isc (C:String)|repr|listRev|listRange|tupRange|dictEnum|minP|maxP|listD
inductive Bm where
 |append|extend|pop|popAt|insert|remove|clear|reverse|index|count|dget|dgetD|dpop|dpopD|setdefault|join|split|replace|upper|partition|sidx
inductive Pt where|one (i:Nat)|many (is:List Nat)|nest (i:Nat) (is:List Nat)
mutual
inductive E where
 |cst (v:Val)|var (i:Nat)|glob (x:String) (v:Val)
 |bin (op:Bop) (a b:E)|neg (a:E)|not (a:E)|and (a b:E)|or (a b:E)
 |cmp (op:Cop) (a b:E)|chain (o1 o2:Cop) (a b c:E)
 |call (f:String) (as:Es)|make (C:String) (as:Es)|meth (C m:String) (o:E) (as:Es)|fld (o:E) (f:String)
 |bi (f:Bi) (as:Es)|bm (m:Bm) (o:E) (as:Es)
 |idx (a i:E)|slc (a:E) (lo hi:Oe)|rev (a:E)|pick (a:E) (lo hi:Oe) (st:E)
 |tup (es:Es)|lst (es:Es)|dct (es:Es)
 |ife (c:Tt) (a b:E)
 |comp (ö:List Nat) (n:Nat) (p:Pt) (it:It) (c:Tt) (e:E)
 |fstr (es:Es)
 |split (o a:E)
 |repl (o:E) (y z:String)
 |key (es:Es)|dctP
inductive Es where|nil|cons (e:E) (es:Es)
inductive Oe where|none|some (e:E)
inductive Tt where|yes|val (e:E)|not (t:Tt)|and (a b:Tt)|or (a b:Tt)
inductive It where
 |seq (e:E)|chars (e:E)|range (a:E)|range2 (a b:E)|enum (e:E)|zip (a b:E)|items (e:E)|rev (e:E)
end
mutual
inductive S where
 |set (p:Pt) (e:E)|setIdx (a i e:E)|setFld (o:E) (f:String) (e:E)
 |augVar (i:Nat) (op:Bop) (e:E)|augFld (o:E) (f:String) (op:Bop) (n:Int)|augIdx (a i:E) (op:Bop) (n:Int)
 |setPair (a i b j e:E)
 |expr (e:E)|ret (e:E)|retN|ite (c:Tt) (a b:Ss)|whl (c:Tt) (b:Ss)|for (p:Pt) (it:It) (b:Ss)|forI (k:Bool) (p:Pt) (e:E) (b:Ss)
 |never|brk|cnt|pass|raise (C:String) (as:Es)|try (t:Option Nat) (e:E) (hs:Hn)
inductive Ss where|nil|cons (s:S) (ss:Ss)
inductive Hn where|nil|cons (C:String) (n:Option Nat) (b:Ss) (r:Hn)
end
set_option genInjectivity true
abbrev ixN(n:Nat)(i:Int):Option Nat:=if 0<=i then(if i<n then df i.toNat else dg)else if -(n:Int)<=i then df (i+n).toNat else dg
abbrev atI(xs:List α)(i:Int):Option α:=(ixN xs.length i).bind λj=>xs[j]?
abbrev d5(n d:Nat):Option Int->Nat
 |none=>d
 |some i=>if 0<=i then min i.toNat n else(i+n).toNat
abbrev cut(xs:List α)(lo hi:Option Int):List α:=(xs.drop<|d5 xs.length 0 lo).take<|d5 xs.length xs.length hi - d5 xs.length 0 lo
abbrev pickL(ix:List Nat)(xs:List α):List α:=ix.filterMap λi=>xs[i]?
abbrev dF:Option Ob->Option (List Val)
 |some (.lst xs)=>df xs
 |_=>dg
@[simp] theorem Z9{xs:List Val}:dF (df<|.lst xs)=df xs:=rfl
abbrev Cc(h:Hs):Val->Option (List Val)
 |.ref a=>dF<|h a
 |.tup xs=>df xs
 |.scr ns=>df<|ns.map .int
 |_=>dg
abbrev lsA(h:Hs):Val->Option (List Val)
 |.ref a=>dF<|h a
 |.scr ns=>df<|ns.map .int
 |_=>dg
abbrev eX:Option Ob->Option (List<|Val×Val)
 |some (.dct kvs)=>df kvs
 |_=>dg
abbrev dP(kvs:List<|Val×Val)(k:Val):Option Val:=(kvs.find? λp=>p.1==k).map (·.2)
abbrev dQ(kvs:List<|Val×Val)(k:Val):Bool:=kvs.any λp=>p.1==k
abbrev dR(kvs:List<|Val×Val)(k v:Val):List<|Val×Val:=if dQ kvs k then kvs.map λp=>if p.1==k then(k,v)else p else kvs++[(k,v)]
abbrev dU(kvs:List<|Val×Val)(k:Val):List<|Val×Val:=kvs.filter λp=>!(p.1==k)
abbrev dM:Val->Bool
 |.int _=>dh
 |.str _=>dh
 |_=>di
inductive D where
 |non|bl (b:Bool)|int (i:Int)|str (s:String)|tup (ds:List D)|lst (ds:List D)
 deriving Inhabited
mutual
noncomputable def D.eqv:D->D->Bool
 |.non,.non=>dh
 |.bl a,.bl b=>a==b
 |.bl a,.int i=>(if a then 1 else 0)==i
 |.int i,.bl a=>i==(if a then 1 else 0)
 |.int a,.int b=>a==b
 |.str a,.str b=>a==b
 |.tup a,.tup b=>D.eqvs a b
 |.lst a,.lst b=>D.eqvs a b
 |_,_=>di
noncomputable def D.eqvs:List D->List D->Bool
 |[],[]=>dh
 |x::xs,y::ys=>D.eqv x y&&D.eqvs xs ys
 |_,_=>di
end
abbrev dat(h:Hs):Nat->Val->Option D
 |_,.non=>df .non
 |_,.bl b=>df<|.bl b
 |_,.int i=>df<|.int i
 |_,.str s=>df<|.str s
 |0,_=>dg
 |n+1,.tup xs=>(xs.mapM<|dat h n).map .tup
 |n+1,.ref a=>(dF<|h a).bind λxs=>(xs.mapM<|dat h n).map .lst
 |n+1,.scr ns=>df<|.lst<|ns.map .int
 |_+1,.key _ _=>dg
abbrev deep:Nat:=12
abbrev eqV(h:Hs)(v u:Val):Option Bool:=(dat h deep v).bind λd=>(dat h deep u).map λe=>D.eqv d e
abbrev dz:List Val->Option (List Int)
 |[]=>df []
 |.int i::xs=>(dz xs).map (i :: ·)
 |_=>dg
abbrev d6:List Int->List Int->Bool
 |[],[]=>di
 |[],_::_=>dh
 |_::_,[]=>di
 |x::xs,y::ys=>if x=y then d6 xs ys else fm (x<y)
abbrev d7:Val->Val->Option Bool
 |.int i,.int j=>df<|fm (i<j)
 |.tup xs,.tup ys=>(dz xs).bind λns=>(dz ys).map λms=>d6 ns ms
 |_,_=>dg
abbrev inL(h:Hs)(x:Val)(ys:List Val):Option Bool:=(dat h deep x).bind λd=>(ys.mapM<|dat h<|deep - 1).map λds=>ds.any λe=>D.eqv e d
abbrev leV:Val->Val->Option Bool
 |.int i,.int j=>df<|fm (i<=j)
 |_,_=>dg
abbrev isKeyT:Val->Bool
 |.key _ _=>dh
 |_=>di
abbrev inV(h:Hs)(v u:Val):Option Bool:=match u with
 |.tup xs=>inL h v xs
 |.ref a=>match h a with
  |some (.lst xs)=>inL h v xs
  |some (.dct kvs)=>if dM v then df (dQ kvs v)else dg
  |some (.frz kvs)=>if dM v then df (dQ kvs v)else dg
  |some (.dtp kvs)=>if isKeyT v then df (dQ kvs v)else dg
  |_=>dg
 |.str t=>(match v with|.str s=>(oneC s).map λc=>fm (c∈t.toList)|_=>dg)
 |_=>dg
abbrev isV(v u:Val):Option Bool:=match u with
 |.non=>df<|fm (v=.non)
 |.bl b=>df<|fm (v=.bl b)
 |_=>dg
abbrev asLst(h:Hs):Val->Option (List Val)
 |.ref a=>dF<|h a
 |_=>dg
abbrev dL(h:Hs)(op:Cop)(v u:Val):Option Bool:=match op with
 |.eq=>eqV h v u
 |.ne=>(eqV h v u).map (!·)
 |.lt=>d7 v u
 |.gt=>d7 u v
 |.le=>leV v u
 |.ge=>leV u v
 |.isin=>inV h v u
 |.notin=>(inV h v u).map (!·)
 |.is=>isV v u
 |.isnot=>(isV v u).map (!·)
 |.eqE=>(asLst h v).bind λxs=>(asLst h u).bind λys=>if ys.isEmpty then df xs.isEmpty else dg
 |.neE=>(asLst h v).bind λxs=>(asLst h u).bind λys=>if ys.isEmpty then df (!xs.isEmpty)else dg
 |_=>dg
abbrev Wq(h:Hs):Val->Option Bool
 |.bl b=>df b
 |.int i=>df<|fm (i≠0)
 |.non=>df di
 |.str s=>if s.length<=lim then df (fm (s.length≠0))else dg
 |.tup xs=>df (!xs.isEmpty)
 |.scr ns=>df (!ns.isEmpty)
 |.ref a=>match h a with
  |some (.lst xs)=>df (!xs.isEmpty)
  |some (.dct kvs)=>df (!kvs.isEmpty)
  |_=>dg
 |.key _ _=>dg
abbrev mulOk(i j:Int):Prop:=(i.natAbs<2 ^ 64\/j.natAbs<2 ^ 64)\/(i.natAbs<=10 ^ 200/\j.natAbs<=10 ^ 200)
instance (i j:Int):Decidable<|mulOk i j:=inferInstanceAs<|Decidable<|_\/_
@[irreducible] noncomputable def new(h:Hs)(o:Ob)(Q:Q1):Prop:=∀p,h p=dg->Q (.ref p) (upd h p o)
variable {Q:Q1}
def Yl(q:∀p,h p=dg->Q (.ref p) (upd h p o)):new h o Q:=by unfold new;exact q
inductive Rs where|val (v:Val)|new (o:Ob)|no
@[irreducible] noncomputable def Rs.wp(r:Rs)(h:Hs)(Q:Q1):Prop:=match r with|.val v=>Q v h|.new o=>O.new h o Q|.no=>False
@[simp] theorem Rs.wp_val{v:Val}:(Rs.val v).wp h Q=Q v h:=by unfold Rs.wp;rfl
@[simp] theorem Rs.wp_new:(Rs.new o).wp h Q=O.new h o Q:=by unfold Rs.wp;rfl
@[simp] theorem Rs.wp_no:Rs.no.wp h Q=False:=by unfold Rs.wp;rfl
abbrev Rs.ofO:Option Val->Rs
 |some v=>.val v
 |none=>.no
abbrev Rs.lst(xs:List Val):Rs:=if xs.length<=lim then .new (.lst xs)else .no
abbrev addV(h:Hs):Val->Val->Rs
 |.int i,.int j=>.val<|.int<|i+j
 |.str s,.str t=>if s.length+t.length<=lim then .val (.str<|s++t)else .no
 |.tup xs,.tup ys=>if xs.length+ys.length<=lim then .val (.tup<|xs++ys)else .no
 |.ref a,.ref b=>match h a,h b with
  |some (.lst xs),df (.lst ys)=>Rs.lst<|xs++ys
  |_,_=>.no
 |_,_=>.no
abbrev repT(s:String)(n:Nat):String:=ź (Õ n s.toList).flatten
abbrev mulV(h:Hs):Val->Val->Rs
 |.int i,.int j=>if mulOk i j then .val (.int<|i*j)else .no
 |.ref a,.int k=>match h a with
  |some (.lst xs)=>if -(2 ^ 62)<k/\k<2 ^ 62/\xs.length*k.toNat<=lim then Rs.lst (Õ k.toNat xs).flatten else .no
  |_=>.no
 |.str s,.int k=>if 2<=k/\k<=1000000/\1<=s.length/\s.length*k.toNat<=lim then .val (.str<|repT s k.toNat)else .no
 |_,_=>.no
abbrev intV(f:Int->Int->Rs):Val->Val->Rs
 |.int i,.int j=>f i j
 |_,_=>.no
abbrev binV(h:Hs)(op:Bop)(v u:Val):Rs:=match op with
 |.add=>addV h v u
 |.sub=>intV (λi j=>.val<|.int<|i - j) v u
 |.mul=>mulV h v u
 |.fdiv=>intV (λi j=>if 0<j/\j<1073741824 then .val (.int<|i / j)else .no) v u
 |.mod=>intV (λi j=>if 0<j then .val (.int<|i % j)else .no) v u
 |.pow=>intV (λi j=>if 0<=j/\j<=1000000/\i.natAbs<2 ^ 64 then .val (.int<|i ^ j.toNat)else .no) v u
abbrev eY:Val->Option Int
 |.int i=>df i
 |_=>dg
abbrev d8(h:Hs):Val->Val->Option Val
 |.tup xs,.int k=>atI xs k
 |.str s,.int k=>if s.length<=lim then(atI s.toList k).map λc=>.str (ϝ c)else dg
 |.ref a,k=>match h a with
  |some (.lst xs)=>(eY k).bind<|atI xs
  |some (.dct kvs)=>if dM k then dP kvs k else dg
  |some (.frz kvs)=>if dM k then dP kvs k else dg
  |some (.dtp kvs)=>if isKeyT k then dP kvs k else dg
  |_=>dg
 |.scr ns,.int i=>atI (ns.map .int) i
 |_,_=>dg
abbrev d9(h:Hs)(v:Val)(lo hi:Option Int):Rs :=
 match v with
 |.tup xs=>if d5 xs.length 0 lo=0/\d5 xs.length xs.length hi=xs.length then .val (.tup xs)else .val (.tup<|cut xs lo hi)
 |.ref a=>match dF (h a)with
  |some xs=>.new<|.lst<|cut xs lo hi
  |none=>.no
 |.scr ns=>.new<|.lst<|cut (ns.map .int) lo hi
 |.str s=>if s.length<=lim then .val (.str<|ź<|cut s.toList lo hi)else .no
 |_=>.no
abbrev sortI(ns:List Int):List Int:=ns.mergeSort λa b=>fm (a<=b)
abbrev blsOf:List Val->Option (List Bool)
 |[]=>df []
 |.bl b::xs=>(blsOf xs).map (b :: ·)
 |_=>dg
abbrev minL:List Val->Option Val
 |[]=>dg
 |x::xs=>xs.foldl (λm y=>m.bind λb=>(d7 y b).map λc=>if c then y else b)<|df x
abbrev maxL:List Val->Option Val
 |[]=>dg
 |x::xs=>xs.foldl (λm y=>m.bind λb=>(d7 b y).map λc=>if c then y else b)<|df x
abbrev dedup:List Int->List Int
 |[]=>[]
 |x::xs=>x::(dedup xs).filter (· != x)
abbrev eR(c d:String):Bool:=c==d||d == "ShutError" || d == "ValueError" || d == "Exception"
abbrev fb(h:Hs):Val->Option String
 |.non=>df "NoneType"
 |.bl _=>df "bool"
 |.int _=>df "int"
 |.str _=>df "str"
 |.tup _=>df "tuple"
 |.scr _=>df "list"
 |.ref a=>match h a with
  |some (.lst _)=>df "list"
  |some (.dct _)=>df "dict"
  |_=>dg
 |.key _ _=>dg
abbrev fc(h:Hs)(v:Val)(T:String):Option Bool:=(fb h v).map λt=>t==T||(t == "bool" && T == "int")
abbrev isiAny(h:Hs)(v:Val):List String->Option Bool
 |[]=>df di
 |T::Ts=>(fc h v T).bind λb=>(isiAny h v Ts).map (b || ·)
abbrev pairUp:List Val->Option (List<|Val×Val)
 |[]=>df []
 |k::v::r=>if dM k then(pairUp r).map ((k,v) :: ·)else dg
 |_=>dg
abbrev putAll(kvs:List<|Val×Val):List (Val×Val)->List (Val×Val)
 |[]=>kvs
 |(k,v)::r=>putAll (dR kvs k v) r
abbrev ej(h:Hs):Val->Rs
 |.ref a=>match h a with
  |some (.lst xs)=>.val<|.int xs.length
  |some (.dct kvs)=>.val<|.int kvs.length
  |_=>.no
 |.tup xs=>.val<|.int xs.length
 |.scr ns=>.val<|.int ns.length
 |.str s=>if s.length<=lim then .val (.int s.length)else .no
 |_=>.no
abbrev PL:Val->Rs
 |.int i=>.val<|.int i
 |.bl b=>.val (.int<|if b then 1 else 0)
 |.str s=>if s.length<=640/\s.toList≠[]/\s.toList.all figB=dh then .val (.int<|decN s.toList)else .no
 |_=>.no
abbrev absV:Val->Rs
 |.int i=>.val (.int<|if i<0 then -i else i)
 |_=>.no
abbrev dG(f:Val->Rs):List Val->Rs
 |[v]=>f v
 |_=>.no
abbrev biOf2(f:Val->Val->Rs):List Val->Rs
 |[v,u]=>f v u
 |_=>.no
abbrev rowsOf:List Val->Option (List<|List Int)
 |[]=>df []
 |.tup xs::r=>(dz xs).bind λns=>(rowsOf r).map (ns :: ·)
 |_=>dg
abbrev minR(b:List Int):List (List Int)->List Int
 |[]=>b
 |y::r=>minR (if d6 y b then y else b) r
abbrev eB(h:Hs)(v:Val):Rs:=match v with
 |.ref a=>match (dF<|h a).bind rowsOf with
  |some []=>.val .non
  |some (x::r)=>.val<|.tup<|(minR x r).map .int
  |none=>.no
 |_=>.no
abbrev R3(h:Hs):Val->Rs
 |.ref a=>.ofO<|(dF<|h a).bind λxs=>(blsOf xs).map λbs=>.bl<|bs.all id
 |_=>.no
abbrev sortOf(h:Hs):Val->Option (List Int)
 |.ref a=>(dF<|h a).bind dz
 |.scr ns=>df ns
 |_=>dg
abbrev keysOf(kvs:List<|Val×Val):Option<|List Int:=dz (kvs.map (·.1))
abbrev sortAny(h:Hs)(v:Val):Option<|List Int:=match v with
 |.ref a=>match h a with
  |some (.lst xs)=>dz xs
  |some (.dct kvs)=>keysOf kvs
  |_=>dg
 |.scr ns=>df ns
 |_=>dg
abbrev Ra(ė:List<|List Int):List<|List Int:=ė.mergeSort λa b=>!d6 b a
abbrev Hx(h:Hs)(v:Val):Option<|List<|List Int:=match v with
 |.ref a=>(dF<|h a).bind rowsOf
 |_=>dg
abbrev AC(h:Hs)(v:Val):Rs:=match Hx h v with
 |some ė=>if ė.length<64/\(ė.all λr=>!r.isEmpty)=dh then .new (.lst<|(Ra ė).map λr=>.tup<|r.map .int)else .no
 |none=>.no
abbrev Jf(h:Hs)(v:Val):Rs:=match sortAny h v with
 |some ns=>if ns.length<64 then .new (.lst<|(sortI ns).map .int)else .no
 |none=>AC h v
abbrev biSortedI(h:Hs)(v:Val):Rs:=match sortAny h v with
 |some ns=>if ns.length<64 then .new (.lst<|(sortI ns).map .int)else .no
 |none=>.no
abbrev biLenSet(h:Hs)(v:Val):Rs:=match sortOf h v with
 |some ns=>if ns.length<4000 then .val (.int (dedup ns).length)else .no
 |none=>.no
abbrev toList(h:Hs):Val->Rs
 |.ref a=>match h a with
  |some (.lst xs)=>.new<|.lst xs
  |_=>.no
 |.tup xs=>.new<|.lst xs
 |_=>.no
abbrev Mq(h:Hs):Val->Rs
 |.ref a=>match h a with
  |some (.lst xs)=>.val<|.tup xs
  |_=>.no
 |.tup xs=>.val<|.tup xs
 |_=>.no
abbrev pairI:Val->Option (Int×Int)
 |.tup [.int i,.int j]=>df (i,j)
 |_=>dg
abbrev biMinP(v:Val):Rs:=match pairI v with
 |some p=>.val (.int<|if p.2<p.1 then p.2 else p.1)
 |none=>.no
abbrev biSumP(v:Val):Rs:=match pairI v with
 |some p=>.val<|.int<|p.1+p.2
 |none=>.no
abbrev biMaxP(v:Val):Rs:=match pairI v with
 |some p=>.val (.int<|if p.2 > p.1 then p.2 else p.1)
 |none=>.no
abbrev biV(h:Hs)(b:Bi)(vs:List Val):Rs:=match b with
 |.len=>dG (ej h) vs
 |.int=>dG PL vs
 |.abs=>dG absV vs
 |.min2=>biOf2 (intV λi j=>.val<|.int<|if j<i then j else i) vs
 |.max2=>biOf2 (intV λi j=>.val<|.int<|if j > i then j else i) vs
 |.minP=>dG biMinP vs
 |.maxP=>dG biMaxP vs
 |.minD=>dG (eB h) vs
 |.sum=>dG biSumP vs
 |.all=>dG (R3 h) vs
 |.sorted=>dG (Jf h) vs
 |.sortedI=>dG (biSortedI h) vs
 |.lenSet=>dG (biLenSet h) vs
 |.list=>dG (toList h) vs
 |.tuple=>dG (Mq h) vs
 |.isi Ts=>dG (λv=>.ofO<|(isiAny h v Ts).map .bl) vs
 |_=>.no
abbrev bmL(h:Hs)(v:Val)(f:Ad->List Val->Option (Val×Hs)):Option<|Val×Hs:=match v with
 |.ref a=>(dF<|h a).bind<|f a
 |_=>dg
abbrev bmD(h:Hs)(v:Val)(f:Ad->List (Val×Val)->Option (Val×Hs)):Option<|Val×Hs:=match v with
 |.ref a=>(eX<|h a).bind<|f a
 |_=>dg
abbrev BX(h:Hs)(vs:List Val)(a:Ad)(xs:List Val):Option<|Val×Hs:=match vs with
 |[v]=>if xs.length<lim then df (.non,upd h a<|.lst<|xs++[v])else dg
 |_=>dg
abbrev bmPopAt(h:Hs)(vs:List Val)(a:Ad)(xs:List Val):Option<|Val×Hs:=match vs with
 |[.int i]=>if -(2 ^ 62)<i/\i<2 ^ 62 then(ixN xs.length i).bind λk=>(xs[k]?).map λv=>(v,upd h a<|.lst<|xs.eraseIdx k)else dg
 |_=>dg
abbrev bmRemove(h:Hs)(vs:List Val)(a:Ad)(xs:List Val):Option<|Val×Hs:=match vs with
 |[.int i]=>(dz xs).bind λns=>if i∈ns then df (.non,upd h a<|.lst<|(ns.erase i).map .int)else dg
 |_=>dg
abbrev PR(h:Hs)(vs:List Val)(a:Ad)(kvs:List<|Val×Val):Option<|Val×Hs:=match vs with
 |[k]=>if dM k then df ((dP kvs k).getD .non,h)else dg
 |_=>dg
abbrev HR(h:Hs)(vs:List Val)(a:Ad)(kvs:List<|Val×Val):Option<|Val×Hs:=match vs with
 |[k]=>if dM k then(dP kvs k).map λv=>(v,upd h a<|.dct<|dU kvs k)else dg
 |_=>dg
abbrev EN(h:Hs)(vs:List Val)(a:Ad)(kvs:List<|Val×Val):Option<|Val×Hs:=match vs with
 |[k,d]=>if dM k then df ((dP kvs k).getD d,upd h a<|.dct<|dU kvs k)else dg
 |_=>dg
abbrev bmV(h:Hs)(m:Bm)(v:Val)(vs:List Val):Option<|Val×Hs:=match m with
 |.append=>bmL h v<|BX h vs
 |.popAt=>bmL h v<|bmPopAt h vs
 |.remove=>bmL h v<|bmRemove h vs
 |.dget=>bmD h v<|PR h vs
 |.dpop=>bmD h v<|HR h vs
 |.dpopD=>bmD h v<|EN h vs
 |_=>dg
abbrev isLst:Option Ob->Bool
 |some (.lst _)=>dh
 |_=>di
abbrev isDct:Option Ob->Bool
 |some (.dct _)=>dh
 |some (.dtp _)=>dh
 |_=>di
inductive Ty where|l|d|s|t
abbrev Bm.ty:Bm->Ty
 |.dget=>.d
 |.dgetD=>.d
 |.dpop=>.d
 |.dpopD=>.d
 |.setdefault=>.d
 |.join=>.s
 |.split=>.s
 |.replace=>.s
 |.upper=>.s
 |.partition=>.s
 |.sidx=>.s
 |.index=>.t
 |_=>.l
abbrev Jm(p:Option Ob->Bool)(h:Hs):Val->Bool
 |.ref a=>p<|h a
 |_=>di
abbrev Lg:Val->Bool
 |.str _=>dh
 |_=>di
abbrev Lm:Val->Bool
 |.tup _=>dh
 |_=>di
abbrev bmTy(h:Hs)(m:Bm)(v:Val):Bool:=match m.ty with
 |.l=>Jm isLst h v
 |.d=>Jm isDct h v
 |.s=>Lg v
 |.t=>Jm isLst h v||Lm v
abbrev dJ:List (String×Val)->String->Val->List (String×Val)
 |[],f,v=>[(f,v)]
 |(g,x)::r,f,v=>if g=f then(g,v)::r else(g,x)::dJ r f v
abbrev getV(env:Env)(i:Nat):Option Val:=match env[i]? with
 |some (df v)=>df v
 |_=>dg
abbrev eZ:Val->Option Bool
 |.bl b=>df b
 |_=>dg
abbrev d0:Val->Option Ad
 |.ref a=>df a
 |_=>dg
abbrev insOf:Option Ob->Option (String×List (String×Val))
 |some (.ins C fs)=>df (C,fs)
 |_=>dg
abbrev tupOf:Val->Option (List Val)
 |.tup xs=>df xs
 |_=>dg
abbrev bindL:List Nat->List Val->Env->Option Env
 |[],[],env=>df env
 |i::is,x::xs,env=>bindL is xs<|env.set i<|df x
 |_,_,_=>dg
abbrev bind(p:Pt)(h:Hs)(v:Val)(env:Env):Option Env :=
 match p with
 |.one i=>df<|env.set i<|df v
 |.many is=>(tupOf v).bind λxs=>bindL is xs env
 |.nest i is=>(tupOf v).bind λxs=>match xs with
  |[x,y]=>(tupOf y).bind λys=>bindL is ys<|env.set i<|df x
  |_=>dg
abbrev wComp(st:Hs->Prop)(step:Val->Hs->(Option Val->Hs->Prop)->XQ->Prop):List Val->List Val->Hs->(List Val->Hs->Prop)->XQ->Prop
 |[],ħ,h,Q,_=>st h/\Q ħ h
 |v::vs,ħ,h,Q,X=>st h/\step v h (λr h'=>wComp st step vs (ħ++r.toList) h' Q X) X
abbrev enumL:Nat->List Val->List Val
 |_,[]=>[]
 |k,x::xs=>.tup [.int k,x]::enumL (k+1) xs
abbrev itV(h:Hs):Val->Option ((Hs->Prop)×List Val)
 |.tup xs=>df (λ_=>True,xs)
 |.scr ns=>df (λ_=>True,ns.map .int)
 |.ref a=>(dF<|h a).map λxs=>(λg=>dF (g a)=df xs,xs)
 |_=>dg
abbrev itemOf(k:Bool)(p:Val×Val):Val:=if k then p.1 else .tup [p.1,p.2]
abbrev dZ(i j:Int):List Val:=(List.range (j - i).toNat).map λ(k:Nat)=>.int<|i+k
abbrev ed(h:Hs)(o k v:Val):Option Hs :=
 match o with
 |.ref p=>match h p with
  |some (.lst xs)=>(eY k).bind λn=>(ixN xs.length n).map λj=>upd h p<|.lst<|xs.set j v
  |some (.dct kvs)=>if dM k/\kvs.length<lim then df (upd h p<|.dct<|dR kvs k v)else dg
  |some (.dtp kvs)=>if isKeyT k/\kvs.length<lim then df (upd h p<|.dtp<|dR kvs k v)else dg
  |_=>dg
 |_=>dg
abbrev ei(h:Hs)(o:Val)(f:String)(v:Val):Option Hs :=
 match o with
 |.ref p=>match h p with
  |some (.ins C fs)=>if fs.length<900 then df (upd h p<|.ins C<|dJ fs f v)else dg
  |_=>dg
 |_=>dg
abbrev ee(h:Hs)(o:Val)(f:String):Option Val:=(d0 o).bind λa=>(insOf<|h a).bind λp=>p.2.lookup f
abbrev clsV(h:Hs)(o:Val)(m:String):Option String:=(d0 o).bind λa=>(insOf<|h a).bind λp=>if(p.2.lookup m).isNone then df p.1 else dg
abbrev augV(op:Bop)(x y:Val):Option Val:=match op,x,y with
 |.add,.int i,.int j=>df<|.int<|i+j
 |.sub,.int i,.int j=>df<|.int<|i - j
 |_,_,_=>dg
@[irreducible] noncomputable def M5(F:Hs->(List Val->Hs->Prop)->XQ->Prop)(h:Hs)(Q:Q1)(X:XQ):Prop:=new h (.dct []) λr h1=>go (d0 r) λp=>F h1 (λvs h2=>go (pairUp vs) λkvs=>h2 p=df (.dct [])/\Q (.ref p) (upd h2 p<|.dct<|putAll [] kvs)) X
mutual
@[reducible] noncomputable def xE(Φ:Fs):E->Env->Hs->Q1->XQ->Prop
 |.cst v,_,h,Q,_=>Q v h
 |.glob _ v,_,h,Q,_=>Q v h
 |.var i,env,h,Q,_=>go (getV env i) λv=>Q v h
 |.bin op a b,env,h,Q,X=>xE Φ a env h (λv h1=>xE Φ b env h1 (λu h2=>(binV h2 op v u).wp h2 Q) X) X
 |.neg a,env,h,Q,X=>xE Φ a env h (λv h1=>go (eY v) λi=>Q (.int (-i)) h1) X
 |.not a,env,h,Q,X=>xE Φ a env h (λv h1=>go (eZ v) λb=>Q (.bl (!b)) h1) X
 |.and a b,env,h,Q,X=>xE Φ a env h (λv h1=>go (eZ v) λc=>if c=dh then xE Φ b env h1 Q X else Q (.bl di) h1) X
 |.or a b,env,h,Q,X=>xE Φ a env h (λv h1=>go (eZ v) λc=>if c=dh then Q (.bl dh) h1 else xE Φ b env h1 Q X) X
 |.cmp op a b,env,h,Q,X=>xE Φ a env h (λv h1=>xE Φ b env h1 (λu h2=>go (dL h2 op v u) λc=>Q (.bl c) h2) X) X
 | .chain o1 o2 a b c,env,h,Q,X=>xE Φ a env h (λv h1=>xE Φ b env h1 (λu h2=>go (dL h2 o1 v u) λk =>
     if k=dh then xE Φ c env h2 (λw h3=>go (dL h3 o2 u w) λk2=>Q (.bl k2) h3) X else Q (.bl di) h2) X) X
 |.call f as,env,h,Q,X=>xA Φ as env h (λvs h1=>Φ f vs h1 Q X) X
 |.make C as,env,h,Q,X=>xA Φ as env h (λvs h1=>∀p,h1 p=dg->Φ (C ++ ".__init__") (.ref p::vs) (upd h1 p<|.ins C []) (λv h2=>v=.non/\Q (.ref p) h2) X) X
 |.meth C m o as,env,h,Q,X=>xE Φ o env h (λv h1=>clsV h1 v m=df C/\xA Φ as env h1 (λvs h2=>Φ (C ++ "." ++ m) (v::vs) h2 Q X) X) X
 |.fld o f,env,h,Q,X=>xE Φ o env h (λv h1=>go (ee h1 v f) λu=>Q u h1) X
 |.bi f as,env,h,Q,X=>xA Φ as env h (λvs h1=>(biV h1 f vs).wp h1 Q) X
 |.bm m o as,env,h,Q,X=>xE Φ o env h (λv h1=>bmTy h1 m v=dh/\xA Φ as env h1 (λvs h2=>go (bmV h2 m v vs) λr=>Q r.1 r.2) X) X
 |.idx a i,env,h,Q,X=>xE Φ a env h (λv h1=>xE Φ i env h1 (λk h2=>go (d8 h2 v k) λu=>Q u h2) X) X
 |.slc a lo hi,env,h,Q,X=>xE Φ a env h (λv h1=>xO Φ lo env h1 (λl h2=>xO Φ hi env h2 (λu h3=>(d9 h3 v l u).wp h3 Q) X) X) X
 |.pick a lo hi st,env,h,Q,X=>xE Φ a env h (λv h1=>xO Φ lo env h1 (λ_ h2=>xO Φ hi env h2 (λ_ h3=>xE Φ st env h3 (λk h4=>go (eY k) λj=>j≠0/\go (lsA h4 v) λxs=>∀ix:List Nat,ix.Nodup->ix.length<=xs.length->new h4 (.lst<|pickL ix xs) Q) X) X) X) X
 |.tup es,env,h,Q,X=>xA Φ es env h (λvs h1=>Q (.tup vs) h1) X
 |.lst es,env,h,Q,X=>xA Φ es env h (λvs h1=>new h1 (.lst vs) Q) X
 |.dct es,env,h,Q,X=>M5 (xA Φ es env) h Q X
 |.ife c a b,env,h,Q,X=>xT Φ c env h (λk h1=>if k=dh then xE Φ a env h1 Q X else xE Φ b env h1 Q X) X
 | .comp ö n p it c e,env,h,Q,X=>xI Φ it env h (λst xs h1=>xs.length<lim/\
     wComp st (λv h2 K X2=>go (bind p h2 v<|Õ n dg++ö.map λj=>(env[j]?).getD dg) λł =>
       xT Φ c ł h2 (λk h3=>if k=dh then xE Φ e ł h3 (λu h4=>K (df u) h4) X2 else K dg h3) X2) xs [] h1 (λys h5=>new h5 (.lst ys) Q) λ_ _=>False) X
 |_,_,_,_,_=>False
@[reducible] noncomputable def xA(Φ:Fs):Es->Env->Hs->(List Val->Hs->Prop)->XQ->Prop
 |.nil,_,h,Q,_=>Q [] h
 |.cons e es,env,h,Q,X=>xE Φ e env h (λv h1=>xA Φ es env h1 (λvs h2=>Q (v::vs) h2) X) X
@[reducible] noncomputable def xJ(Φ:Fs):Es->Env->Hs->String->(String->Hs->Prop)->XQ->Prop
 |.nil,_,h,ħ,Q,_=>Q ħ h
 |.cons e es,env,h,ħ,Q,X=>xE Φ e env h (λv h1=>go (fmtV v) λs=>ħ.length+s.length<=lim/\xJ Φ es env h1 (ħ++s) Q X) X
@[reducible] noncomputable def xO(Φ:Fs):Oe->Env->Hs->(Option Int->Hs->Prop)->XQ->Prop
 |.none,_,h,Q,_=>Q dg h
 |.some e,env,h,Q,X=>xE Φ e env h (λv h1=>go (eY v) λi=>Q (df i) h1) X
@[reducible] noncomputable def xT(Φ:Fs):Tt->Env->Hs->(Bool->Hs->Prop)->XQ->Prop
 |.yes,_,h,Q,_=>Q dh h
 |.val e,env,h,Q,X=>xE Φ e env h (λv h1=>go (Wq h1 v) λk=>Q k h1) X
 |.not a,env,h,Q,X=>xT Φ a env h (λk h1=>Q (!k) h1) X
 |.and a b,env,h,Q,X=>xT Φ a env h (λk h1=>if k=dh then xT Φ b env h1 Q X else Q di h1) X
 |.or a b,env,h,Q,X=>xT Φ a env h (λk h1=>if k=dh then Q dh h1 else xT Φ b env h1 Q X) X
@[reducible] noncomputable def xI(Φ:Fs):It->Env->Hs->((Hs->Prop)->List Val->Hs->Prop)->XQ->Prop
 |.seq e,env,h,Q,X=>xE Φ e env h (λv h1=>go (itV h1 v) λp=>Q p.1 p.2 h1) X
 |.range a,env,h,Q,X=>xE Φ a env h (λv h1=>go (eY v) λn=>(-(2 ^ 62)<=n/\n<2 ^ 62)/\Q (λ_=>True) (dZ 0 n) h1) X
 | .range2 a b,env,h,Q,X=>xE Φ a env h (λv h1=>xE Φ b env h1 (λu h2=>go (eY v) λi=>go (eY u) λj =>
     (-(2 ^ 62)<=i/\i<2 ^ 62/\-(2 ^ 62)<=j/\j<2 ^ 62)/\Q (λ_=>True) (dZ i j) h2) X) X
 |.enum e,env,h,Q,X=>xE Φ e env h (λv h1=>go (tupOf v) λxs=>Q (λ_=>True) (enumL 0 xs) h1) X
 |_,_,_,_,_=>False
end
@[reducible] noncomputable def wE:Fs->E->Env->Hs->Q1->XQ->Prop:=xE
@[reducible] noncomputable def wA:Fs->Es->Env->Hs->(List Val->Hs->Prop)->XQ->Prop:=xA
@[reducible] noncomputable def wJ:Fs->Es->Env->Hs->String->(String->Hs->Prop)->XQ->Prop:=xJ
@[reducible] noncomputable def wO:Fs->Oe->Env->Hs->(Option Int->Hs->Prop)->XQ->Prop:=xO
@[reducible] noncomputable def wT:Fs->Tt->Env->Hs->(Bool->Hs->Prop)->XQ->Prop:=xT
@[reducible] noncomputable def wI:Fs->It->Env->Hs->((Hs->Prop)->List Val->Hs->Prop)->XQ->Prop:=xI
def QU:wE=xE:=by unfold wE;rfl
noncomputable abbrev NQ:=Env->Hs->Prop
noncomputable abbrev EQ:=Env->String->Hs->Prop
abbrev wFor(st:Hs->Prop)(W:Val->Env->Hs->NQ->NQ->Prop)(N:NQ):List Val->Env->Hs->Prop
 |[],env,h=>st h/\N env h
 |v::vs,env,h=>st h/\W v env h (λe g=>wFor st W N vs e g) N
abbrev wWhile(T:Env->Hs->(Bool->Hs->Prop)->Prop)(W:Env->Hs->NQ->NQ->Prop)(N:NQ):Nat->Env->Hs->Prop
 |0,_,_=>False
 |n+1,env,h=>T env h λk h1=>if k=dh then W env h1 (λe g=>wWhile T W N n e g) N else N env h1
mutual
@[reducible] noncomputable def xS(Φ:Fs):S->Env->Hs->NQ->Q1->NQ->NQ->EQ->Prop
 |.set p e,env,h,N,_,_,_,X=>wE Φ e env h (λv h1=>go (bind p h1 v env) λł=>N ł h1)<|X env
 |.setIdx a i e,env,h,N,_,_,_,X=>wE Φ e env h (λv h1=>wE Φ a env h1 (λo h2=>wE Φ i env h2 (λk h3=>go (ed h3 o k v) λg=>N env g)<|X env)<|X env)<|X env
 |.setFld o f e,env,h,N,_,_,_,X=>wE Φ e env h (λv h1=>wE Φ o env h1 (λu h2=>go (ei h2 u f v) λg=>N env g)<|X env)<|X env
 |.augFld o f op n,env,h,N,_,_,_,X=>wE Φ o env h (λu h1=>go (ee h1 u f) λx=>go (augV op x<|.int n) λy=>go (ei h1 u f y) λg=>N env g)<|X env
 |.augIdx a i op n,env,h,N,_,_,_,X=>wE Φ a env h (λo h1=>wE Φ i env h1 (λk h2=>go (d8 h2 o k) λx=>go (augV op x<|.int n) λy=>go (ed h2 o k y) λg=>N env g)<|X env)<|X env
 |.expr e,env,h,N,_,_,_,X=>wE Φ e env h (λ_ h1=>N env h1)<|X env
 |.ret e,env,h,_,R,_,_,X=>wE Φ e env h R<|X env
 |.retN,_,h,_,R,_,_,_=>R .non h
 |.ite c a b,env,h,N,R,B,C,X=>wT Φ c env h (λk h1=>if k=dh then xSs Φ a env h1 N R B C X else xSs Φ b env h1 N R B C X)<|X env
 |.whl c b,env,h,N,R,_,_,X=>∃n,wWhile (λe g K=>wT Φ c e g K<|X e) (λe g K M=>xSs Φ b e g K R M K X) N n env h
 |.for p it b,env,h,N,R,_,_,X=>wI Φ it env h (λst xs h1=>wFor st (λv e g K M=>go (bind p g v e) λe2=>xSs Φ b e2 g K R M K X) N xs env h1)<|X env
 | .forI k p e b,env,h,N,R,_,_,X=>wE Φ e env h (λv h1=>go (d0 v) λa=>go (eX<|h1 a) λkvs =>
     wFor (λg=>g a=df (.frz kvs)) (λv e g K M=>go (bind p g v e) λe2=>xSs Φ b e2 g K (λu g2=>g2 a=df (.frz kvs)/\R u (upd g2 a<|.dct kvs)) M K λ_ _ _=>False)
       (λe g=>g a=df (.frz kvs)/\N e (upd g a<|.dct kvs)) (kvs.map<|itemOf k) env (upd h1 a<|.frz kvs))<|X env
 |.never,_,_,_,_,_,_,_=>False
 |_,_,_,_,_,_,_,_=>False
@[reducible] noncomputable def xSs(Φ:Fs):Ss->Env->Hs->NQ->Q1->NQ->NQ->EQ->Prop
 |.nil,env,h,N,_,_,_,_=>N env h
 |.cons s ss,env,h,N,R,B,C,X=>xS Φ s env h (λe g=>xSs Φ ss e g N R B C X) R B C X
@[reducible] noncomputable def xH(Φ:Fs):Hn->String->Env->Hs->NQ->Q1->NQ->NQ->Prop
 |.nil,_,_,_,_,_,_,_=>False
 |.cons K dg b r,c,env,h,N,R,B,C=>if eR c K=dh then xSs Φ b env h N R B C (λ_ _ _=>False)else xH Φ r c env h N R B C
 |.cons K (df i) b r,c,env,h,N,R,B,C=>if eR c K=dh then(∀p,h p=dg->xSs Φ b (env.set i<|df<|.ref p) (upd h p<|.exc c) (λe g=>N (e.set i dg) g) R (λe g=>B (e.set i dg) g) (λe g=>C (e.set i dg) g) λ_ _ _=>False)
  else xH Φ r c env h N R B C
end
@[reducible] noncomputable def wS:Fs->S->Env->Hs->NQ->Q1->NQ->NQ->EQ->Prop:=xS
@[reducible] noncomputable def wSs:Fs->Ss->Env->Hs->NQ->Q1->NQ->NQ->EQ->Prop:=xSs
structure Fn where
 ar:Nat
 sz:Nat
 body:Ss
noncomputable abbrev Pg:=String->Option Fn
class In(P:Pg)(f:String)(d:outParam Fn):Prop where
 eq:P f=df d
abbrev Fn.env(d:Fn)(vs:List Val):Env:=vs.map df++Õ (d.sz - d.ar) dg
abbrev wF0(P:Pg):Nat->Fs
 |0=>λ_ _ _ _ _=>False
 |n+1=>λf vs h Q X=>go (P f) λd=>vs.length=d.ar/\wSs (wF0 P n) d.body (d.env vs) h (λ_ g=>Q .non g) Q (λ_ _=>False) (λ_ _=>False) λ_ c g=>X c g
@[irreducible] noncomputable def wF(P:Pg)(n:Nat):Fs:=wF0 P n
variable {P:Pg} {n:Nat}
def wF_eq:wF P n=wF0 P n:=by unfold wF;rfl
def Zb{f:String}{d:Fn}{vs:List Val}{X:XQ}(e:P f=df d)(hl:vs.length=d.ar)
  (q:wSs (wF P n) d.body (d.env vs) h (λ_ g=>Q .non g) Q (λ_ _=>False) (λ_ _=>False) λ_ c g=>X c g):wF P (n+1) f vs h Q X:=by
 rw[wF_eq]at q ⊢;exact du e ⟨hl,q⟩
section
variable {Φ:Fs}{env:Env}{h:Hs}{Q:Q1}{X:XQ}{a b c e o:E}{as:Es}{v u:Val}
def GG{i:Nat}(g:getV env i=df v)(q:Q v h):wE Φ (.var i) env h Q X:=by rw[QU];exact du g q
def Pw{f:Bi}(q:wA Φ as env h (λvs h1=>(biV h1 f vs).wp h1 Q) X):wE Φ (.bi f as) env h Q X:=q
def GT{a:Ad}{xs:List Val}(e:h a=df (.lst xs))(q:∀ix:List Nat,ix.Nodup->ix.length<=xs.length->new h (.lst<|pickL ix xs) Q):go (lsA h<|.ref a) λxs=>∀ix:List Nat,ix.Nodup->ix.length<=xs.length->new h (.lst<|pickL ix xs) Q:=du (by show dF (h a)=_;rw[e];rfl) q
variable {es:Es}
def Qf(q:new h (.dct []) λr h1=>go (d0 r) λp=>wA Φ es env h1 (λvs h2=>go (pairUp vs) λkvs=>h2 p=df (.dct [])/\Q (.ref p) (upd h2 p<|.dct<|putAll [] kvs)) X):wE Φ (.dct es) env h Q X:=by show M5 _ _ _ _;unfold M5;exact q
variable {QA:List Val->Hs->Prop}{QO:Option Int->Hs->Prop}{QT:Bool->Hs->Prop}{QI:(Hs->Prop)->List Val->Hs->Prop}
def DX(q:QA [] h):wA Φ .nil env h QA X:=q
def BF(q:wE Φ e env h (λv h1=>wA Φ es env h1 (λvs h2=>QA (v::vs) h2) X) X):wA Φ (.cons e es) env h QA X:=q
def GY(q:wE Φ e env h (λv h1=>go (Wq h1 v) λk=>QT k h1) X):wT Φ (.val e) env h QT X:=q
def GK{t:Tt}(q:wT Φ t env h (λk h1=>QT (!k) h1) X):wT Φ (.not t) env h QT X:=q
def Sh{s t:Tt}(q:wT Φ s env h (λk h1=>if k=dh then QT dh h1 else wT Φ t env h1 QT X) X):wT Φ (.or s t) env h QT X:=q
end
section
variable {Φ:Fs}{env:Env}{h:Hs}{N B C:NQ}{R:Q1}{X:EQ}{a b c e o i:E}{as:Es}{v u:Val}{t:Tt}{s1 s2:Ss}{s:S}{p:Pt}{it:It}{hs:Hn}
def Q0(q:wT Φ t env h (λk h1=>if k=dh then wSs Φ s1 env h1 N R B C X else wSs Φ s2 env h1 N R B C X)<|X env):wS Φ (.ite t s1 s2) env h N R B C X:=q
def ZP(q:N env h):wSs Φ .nil env h N R B C X:=q
def Ek{ss:Ss}(q:wS Φ s env h (λe g=>wSs Φ ss e g N R B C X) R B C X):wSs Φ (.cons s ss) env h N R B C X:=q
end
section
variable {h:Hs}{Q:Q1}{i j k:Int}{a b:Ad}{xs ys:List Val}{v u:Val}{K:Val->Prop}{KB:Bool->Prop}
def wp_val{r:Rs}(e:r=.val v)(q:Q v h):r.wp h Q:=by rw[e,Rs.wp_val];exact q
def wp_new{r:Rs}{o:Ob}(e:r=.new o)(q:new h o Q):r.wp h Q:=by rw[e,Rs.wp_new];exact q
def b_add(q:Q (.int<|i+j) h):(binV h .add (.int i)<|.int j).wp h Q:=wp_val rfl q
def b_sub(q:Q (.int<|i - j) h):(binV h .sub (.int i)<|.int j).wp h Q:=wp_val rfl q
def b_mul(m:mulOk i j)(q:Q (.int<|i*j) h):(binV h .mul (.int i)<|.int j).wp h Q:=wp_val (ff m) q
def b_fdiv(m:0<j/\j<1073741824)(q:Q (.int<|i / j) h):(binV h .fdiv (.int i)<|.int j).wp h Q:=wp_val (ff m) q
def b_mod(m:0<j)(q:Q (.int<|i % j) h):(binV h .mod (.int i)<|.int j).wp h Q:=wp_val (ff m) q
def b_pow(m:0<=j/\j<=1000000/\i.natAbs<2 ^ 64)(q:Q (.int<|i ^ j.toNat) h):(binV h .pow (.int i)<|.int j).wp h Q:=wp_val (ff m) q
def Ii{z:Int}(m:0<=j/\j<=1000000/\i.natAbs<2 ^ 64)(e:i ^ j.toNat=z)(q:Q (.int z) h):(binV h .pow (.int i)<|.int j).wp h Q:=b_pow m (by rw[e];exact q)
def Lc(m:xs.length+ys.length<=lim)(q:Q (.tup<|xs++ys) h):(binV h .add (.tup xs)<|.tup ys).wp h Q:=wp_val (ff m) q
def Ck(e1:h a=df (.lst xs))(e2:h b=df (.lst ys))(m:(xs++ys).length<=lim)(q:new h (.lst<|xs++ys) Q):(binV h .add (.ref a)<|.ref b).wp h Q:=by refine wp_new ?_ q;show(match h a,h b with|some (.lst xs),df (.lst ys)=>Rs.lst (xs++ys)|_,_=>.no:Rs)=_;simp only[e1,e2,Rs.lst];rw[ff m]
def lsE(e1:h a=df (.lst xs)):dF (h a)=df xs:=by rw[e1];rfl
variable {kvs:List (Val×Val)}
def dcE(e1:h a=df (.dct kvs)):eX (h a)=df kvs:=by rw[e1];rfl
def g_int{K:Int->Prop}(q:K i):go (eY<|.int i) K:=du rfl q
def g_bl{b:Bool}(q:KB b):go (eZ<|.bl b) KB:=du rfl q
def g_ref{K:Ad->Prop}(q:K a):go (d0<|.ref a) K:=du rfl q
def g_tbl{b:Bool}(q:KB b):go (Wq h<|.bl b) KB:=du rfl q
def Sd(q:KB<|fm (i≠0)):go (Wq h<|.int i) KB:=du rfl q
def Rr(e:h a=df (.lst xs))(q:KB (!xs.isEmpty)):go (Wq h<|.ref a) KB:=du (by unfold Wq;simp only[e]) q
def dy(e:atI xs i=df v)(q:K v):go (d8 h (.tup xs)<|.int i) K:=du e q
def ZB(e1:h a=df (.lst xs))(e:atI xs i=df v)(q:K v):go (d8 h (.ref a)<|.int i) K:=du (by unfold d8;simp only[e1];exact e) q
def Z3{k:Val}(e1:h a=df (.dct kvs))(hk:dM k=dh)(e:dP kvs k=df v)(q:K v):go (d8 h (.ref a) k) K:=du (by unfold d8;simp only[e1];rw[ff hk];exact e) q
variable {ns:List Int}
def Ix(e:atI (ns.map Val.int) i=df v)(q:K v):go (d8 h (.scr ns)<|.int i) K:=du e q
def c_lt(q:KB<|fm (i<j)):go (dL h .lt (.int i)<|.int j) KB:=du rfl q
def c_gt(q:KB<|fm (j<i)):go (dL h .gt (.int i)<|.int j) KB:=du rfl q
def c_le(q:KB<|fm (i<=j)):go (dL h .le (.int i)<|.int j) KB:=du rfl q
def c_ge(q:KB<|fm (j<=i)):go (dL h .ge (.int i)<|.int j) KB:=du rfl q
def NJ:D.eqv (.int i) (.int j)=fm (i=j):=by rw[D.eqv];by_cases e:i=j<;>simp[e]
variable {s:String}
def GS{t:String}:D.eqv (.str s) (.str t)=fm (s=t):=by rw[D.eqv];by_cases e:s=t<;>simp[e]
def c_eqI(q:KB<|fm (i=j)):go (dL h .eq (.int i)<|.int j) KB:=du (by show df (D.eqv (.int i)<|.int j)=_;rw[NJ]) q
def c_neI(q:KB (!fm (i=j))):go (dL h .ne (.int i)<|.int j) KB:=du (by show df (!D.eqv (.int i) (.int j))=_;rw[NJ]) q
def c_eqS{t:String}(q:KB<|fm (s=t)):go (dL h .eq (.str s)<|.str t) KB:=du (by show df (D.eqv (.str s)<|.str t)=_;rw[GS]) q
def c_neS{t:String}(q:KB (!fm (s=t))):go (dL h .ne (.str s)<|.str t) KB:=du (by show df (!D.eqv (.str s) (.str t))=_;rw[GS]) q
variable {c:Bool}
def Sl{d:Bool}(q:KB<|c==d):go (dL h .eq (.bl c)<|.bl d) KB:=du (by show df (D.eqv (.bl c)<|.bl d)=_;rw[D.eqv]) q
def c_isN(q:KB<|fm (v=.non)):go (dL h .is v .non) KB:=du (by unfold dL;rfl) q
def c_notN(q:KB (!fm (v=.non))):go (dL h .isnot v .non) KB:=du (by unfold dL;rfl) q
def c_eqE(e1:h a=df (.lst xs))(e2:h b=df (.lst []))(q:KB xs.isEmpty):go (dL h .eqE (.ref a)<|.ref b) KB:=du (by show(dF<|h a).bind _=_;rw[e1,Z9];show(dF<|h b).bind _=_;rw[e2,Z9];rfl) q
def c_neE(e1:h a=df (.lst xs))(e2:h b=df (.lst []))(q:KB (!xs.isEmpty)):go (dL h .neE (.ref a)<|.ref b) KB:=du (by show(dF<|h a).bind _=_;rw[e1,Z9];show(dF<|h b).bind _=_;rw[e2,Z9];rfl) q
def L3{ms:List Int}(e1:dz xs=df ns)(e2:dz ys=df ms)(q:KB<|d6 ms ns):go (dL h .gt (.tup xs)<|.tup ys) KB:=du (by show(dz ys).bind _=_;rw[e1,e2];rfl) q
variable {n:Nat} {Ĳ:Env}
def Hr{env:Env}{K:Env->Prop}(e:env.set n (df v)=Ĳ)(q:K Ĳ):go (bind (.one n) h v env) K:=by subst e;exact du rfl q
def Ip{is:List Nat}{env:Env}{K:Env->Prop}(e:bindL is xs env=df Ĳ)(q:K Ĳ):go (bind (.many is) h (.tup xs) env) K:=du e q
def R5{K:Hs->Prop}(e1:h a=df (.lst xs))(e:ixN xs.length i=df n)(q:K<|upd h a<|.lst<|xs.set n v):go (ed h (.ref a) (.int i) v) K:=du (by unfold ed;simp only[e1,eY,í,e,į]) q
def YD{K:Hs->Prop}{k:Val}(e1:h a=df (.dct kvs))(m:dM k=dh/\kvs.length<lim)(q:K<|upd h a<|.dct<|dR kvs k v):go (ed h (.ref a) k v) K:=du (by unfold ed;simp only[e1];rw[ff m]) q
def JF(e1:h a=df (.dct kvs))(hk:dM v=dh)(q:KB<|dQ kvs v):go (dL h .isin v<|.ref a) KB:=du (by show inV h v (.ref a)=_;unfold inV;simp only[e1];rw[ff hk]) q
def X8(e1:h a=df (.dct kvs))(hk:dM v=dh)(q:KB (!dQ kvs v)):go (dL h .notin v<|.ref a) KB:=du (by show(inV h v<|.ref a).map _=_;unfold inV;simp only[e1];rw[ff hk];rfl) q
variable {C:String} {f:String}
def Ym{fs:List (String×Val)}{K:Hs->Prop}(e1:h a=df (.ins C fs))(m:fs.length<900)(q:K<|upd h a<|.ins C<|dJ fs f v):go (ei h (.ref a) f v) K:=du (by unfold ei;simp only[e1];rw[ff m]) q
def Ld{fs:List (String×Val)}(e1:h a=df (.ins C fs))(e:fs.lookup f=df v)(q:K v):go (ee h (.ref a) f) K:=du (by unfold ee d0;simp only[e1,insOf,í];exact e) q
variable {P:Prop}
def Ij{m:String}{fs:List (String×Val)}(e1:h a=df (.ins C fs))(e:fs.lookup m=dg)(q:P):clsV h (.ref a) m=df C/\P:=⟨by unfold clsV d0;simp only[e1,insOf,í,e,Option.isNone_none,if_true],q⟩
def ag_add(q:K<|.int<|i+j):go (augV .add (.int i)<|.int j) K:=du rfl q
def ln_lst(e1:h a=df (.lst xs))(q:Q (.int xs.length) h):(biV h .len [.ref a]).wp h Q:=wp_val (by show ej h (.ref a)=_;unfold ej;dsimp only;rw[e1]) q
def ln_scr(q:Q (.int ns.length) h):(biV h .len [.scr ns]).wp h Q:=wp_val rfl q
def ln_tup(q:Q (.int xs.length) h):(biV h .len [.tup xs]).wp h Q:=wp_val rfl q
def in_str(m:s.length<=640/\s.toList≠[]/\s.toList.all figB=dh)(q:Q (.int<|decN s.toList) h):(biV h .int [.str s]).wp h Q:=wp_val (ff m) q
def ab_int(q:Q (.int<|if i<0 then -i else i) h):(biV h .abs [.int i]).wp h Q:=wp_val rfl q
def N5{bs:List Bool}(e1:h a=df (.lst xs))(e2:blsOf xs=df bs)(q:Q (.bl<|bs.all id) h):(biV h .all [.ref a]).wp h Q:=wp_val (by show Rs.ofO ((dF<|h a).bind _)=_;rw[lsE e1,í,e2];rfl) q
def Sk{K:String->Prop}(q:K s):go (QQ<|.str s) K:=du rfl q
def Iu{K:Val×Hs->Prop}(e1:h a=df (.lst<|v::xs))(q:K (v,upd h a<|.lst xs)):go (bmV h .popAt (.ref a) [.int 0]) K:=du (by show(dF<|h a).bind (bmPopAt h [.int 0] a)=_;rw[lsE e1];show bmPopAt h [.int 0] a (v::xs)=_;unfold bmPopAt;dsimp only;rw[ff<|by decide];rw[show ixN (v::xs).length 0=df 0 by unfold ixN;rw[ff (by decide),ff<|by simp];rfl];rfl) q
variable {m:Bm}
def RN(hm:m=.join)(q:P):bmTy h m (.str s)=dh/\P:=⟨by subst hm;rfl,q⟩
def IE(q:Q (.int<|i+j) h):(biV h .sum [.tup [.int i,.int j]]).wp h Q:=wp_val rfl q
def RP(q:Q (.int i) h):(biV h .int [.int i]).wp h Q:=wp_val rfl q
def in_bl(q:Q (.int<|if c then 1 else 0) h):(biV h .int [.bl c]).wp h Q:=wp_val rfl q
def mn2(q:Q (.int<|if j<i then j else i) h):(biV h .min2 [.int i,.int j]).wp h Q:=wp_val rfl q
def mx2(q:Q (.int<|if j > i then j else i) h):(biV h .max2 [.int i,.int j]).wp h Q:=wp_val rfl q
def tp_lst(e1:h a=df (.lst xs))(q:Q (.tup xs) h):(biV h .tuple [.ref a]).wp h Q:=wp_val (by show Mq h (.ref a)=_;unfold Mq;dsimp only;rw[e1]) q
def RY(q:Q (.tup xs) h):(biV h .tuple [.tup xs]).wp h Q:=wp_val rfl q
def P9{Ts:List String}(e:isiAny h v Ts=df c)(q:Q (.bl c) h):(biV h (.isi Ts) [v]).wp h Q:=wp_val (by show Rs.ofO ((isiAny h v Ts).map .bl)=_;rw[e];rfl) q
def ls_lst(e1:h a=df (.lst xs))(q:new h (.lst xs) Q):(biV h .list [.ref a]).wp h Q:=wp_new (by show toList h (.ref a)=_;unfold toList;dsimp only;rw[e1]) q
def RX(q:new h (.lst xs) Q):(biV h .list [.tup xs]).wp h Q:=wp_new rfl q
variable {lo:Option Int} {hi:Option Int}
def AM{α:Type}{xs:List α}(n:d5 xs.length 0 lo=0/\d5 xs.length xs.length hi=xs.length):cut xs lo hi=xs:=by unfold cut;rw[n.1,n.2,List.drop_zero,Nat.sub_zero,ó]
def Uk(q:Q (.tup<|cut xs lo hi) h):(d9 h (.tup xs) lo hi).wp h Q:=by
 unfold d9;dsimp only;split
 .rename_i n;rw[AM n]at q;exact wp_val rfl q
 .exact wp_val rfl q
def eC(n:¬ (d5 xs.length 0 lo=0/\d5 xs.length xs.length hi=xs.length))(q:Q (.tup<|cut xs lo hi) h):(d9 h (.tup xs) lo hi).wp h Q:=wp_val (by unfold d9;simp only;rw[fg n]) q
def L6(hm:m.ty=.l\/m.ty=.t)(e:h a=df (.lst xs))(q:P):bmTy h m (.ref a)=dh/\P:=⟨by unfold bmTy;rcases hm with hm|hm<;>rw[hm]<;>simp[Jm,e,isLst],q⟩
def Hl(hm:m.ty=.d)(e:h a=df (.dct kvs))(q:P):bmTy h m (.ref a)=dh/\P:=⟨by unfold bmTy;rw[hm];simp[Jm,e,isDct],q⟩
abbrev IR:Bi->Bool
 |.sorted=>dh
 |.sortedI=>dh
 |_=>di
def Bw{f:Bi}(hf:IR f=dh)(e:sortAny h v=df ns)(m:ns.length<64)(q:new h (.lst<|(sortI ns).map Val.int) Q):(biV h f [v]).wp h Q:=by
 cases f with
 |sorted=>exact wp_new (by show Jf h v=_;unfold Jf;simp only[e];exact ff m) q
 |sortedI=>exact wp_new (by show biSortedI h v=_;unfold biSortedI;simp only[e];exact ff m) q
 |_=>cases hf
def IK{f:Bi}(e1:h a=df (.lst<|ns.map Val.int))(e2:dz (ns.map Val.int)=df ns)(m:ns.length<64)(q:new h (.lst<|(sortI ns).map Val.int) Q)(hf:IR f=dh:=by rfl):(biV h f [.ref a]).wp h Q:=Bw hf (by unfold sortAny;simp only[e1,e2]) m q
def ME{f:Bi}(e1:h a=df (.dct kvs))(e2:keysOf kvs=df ns)(m:ns.length<64)(q:new h (.lst<|(sortI ns).map Val.int) Q)(hf:IR f=dh:=by rfl):(biV h f [.ref a]).wp h Q:=Bw hf (by unfold sortAny;simp only[e1,e2]) m q
def Pa(e1:h a=df (.lst []))(q:Q .non h):(biV h .minD [.ref a]).wp h Q:=wp_val (by show eB h (.ref a)=_;unfold eB;simp only[e1,dF,í,rowsOf]) q
def ER{x:List Int}{r:List (List Int)}(e1:h a=df (.lst xs))(e2:rowsOf xs=df (x::r))(q:Q (.tup<|(minR x r).map Val.int) h):(biV h .minD [.ref a]).wp h Q:=wp_val (by show eB h (.ref a)=_;unfold eB;simp only[e1,dF,í,e2]) q
def sl_str(n:s.length<=lim)(q:Q (.str<|ź<|cut s.toList lo hi) h):(d9 h (.str s) lo hi).wp h Q:=wp_val (by unfold d9;simp only;rw[ff n]) q
def sl_lst(e1:h a=df (.lst xs))(q:new h (.lst<|cut xs lo hi) Q):(d9 h (.ref a) lo hi).wp h Q:=wp_new (by unfold d9;simp only[e1,dF]) q
def Sj(q:new h (.lst<|cut (ns.map Val.int) lo hi) Q):(d9 h (.scr ns) lo hi).wp h Q:=wp_new rfl q
def Zp{K:Val×Hs->Prop}(e1:h a=df (.lst xs))(m:xs.length<lim)(q:K (.non,upd h a<|.lst<|xs++[v])):go (bmV h .append (.ref a) [v]) K:=du (by show(dF<|h a).bind _=_;rw[lsE e1];exact ff m) q
def CS{K:Val×Hs->Prop}(e1:h a=df (.dct kvs))(hk:dM v=dh)(q:K ((dP kvs v).getD .non,h)):go (bmV h .dget (.ref a) [v]) K:=du (by show(eX<|h a).bind _=_;rw[dcE e1];exact ff hk) q
def it_lst{K:(Hs->Prop)×List Val->Prop}(e1:h a=df (.lst xs))(q:K (λg=>dF (g a)=df xs,xs)):go (itV h<|.ref a) K:=du (by unfold itV;simp only[e1,dF,į]) q
def it_scr{K:(Hs->Prop)×List Val->Prop}(q:K (λ_=>True,ns.map Val.int)):go (itV h<|.scr ns) K:=du rfl q
def it_tup{K:(Hs->Prop)×List Val->Prop}(q:K (λ_=>True,xs)):go (itV h<|.tup xs) K:=du rfl q
def R4{K:List Val->Prop}(q:K xs):go (Cc h<|.tup xs) K:=du rfl q
def R1{K:List Val->Prop}(e1:h a=df (.lst xs))(q:K xs):go (Cc h<|.ref a) K:=du (by unfold Cc;simp only[e1,dF]) q
variable {A:Prop} {B:Prop}
def eF(e:c=dh)(q:A):if c=dh then A else B:=by rw[ff e];exact q
def eK(e:c=di)(q:B):if c=dh then A else B:=by rw[fg<|by rw[e];decide];exact q
def eM(q:c=dh->A)(r:c=di->B):if c=dh then A else B:=by cases c;exact r rfl;exact q rfl
variable {p:Prop}
def eL[Decidable p](q:p->A)(r:¬p->B):if decide p=dh then A else B:=by
 by_cases e:p
 .rw[ff<|fi e];exact q e
 .rw[fg<|by simpa using e];exact r e
def Mi[Decidable p](q:¬p->A)(r:p->B):if(!decide p)=dh then A else B:=by
 by_cases e:p
 .rw[fg<|by simpa using e];exact r e
 .rw[ff<|by simpa using e];exact q e
end
structure Ext(h g:Hs):Prop where
 get:∀{a:Ad}{o:Ob},h a=df o->g a=df o
variable {h:Hs}
def Ext.refl:Ext h h:=⟨λe=>e⟩
variable {g:Hs}
def Ext.trans{k:Hs}(e:Ext h g)(f:Ext g k):Ext h k:=⟨λx=>f.get<|e.get x⟩
variable {p:Ad} {o:Ob}
def Ext.new(e:h p=dg):Ext h<|upd h p o:=⟨λ{a u} x=>by
  rw[dj<|by intro z;rw[z,e]at x;cases x];exact x⟩
structure ExtB(w:Ad)(h g:Hs):Prop where
 get:∀{a:Ad}{o:Ob},a≠w->h a=df o->g a=df o
variable {w:Ad}
def ExtB.refl:ExtB w h h:=⟨λ_ e=>e⟩
def ExtB.trans{k:Hs}(e:ExtB w h g)(f:ExtB w g k):ExtB w h k:=⟨λn x=>f.get n<|e.get n x⟩
def ExtB.upd:ExtB w h<|upd h w o:=⟨λn x=>by rw[dj n];exact x⟩
def ExtB.of(e:Ext h g):ExtB w h g:=⟨λ_ x=>e.get x⟩
variable {a:Ad}
def Za(x:h a=df o)(n:h p=dg):a≠p:=by intro z;rw[z,n]at x;cases x
def ne_none'(n:h p=dg)(x:h a=df o):a≠p:=Za x n
def upd_ne'{b:Ad}{r:Option Ob}(n:b≠a)(e:h b=r):upd h a o b=r:=by rw[dj n];exact e
inductive Sm1 {α:Type}(p:α->Prop):Prop|mk (a:α) (h:p a)
inductive Sm2 {α β:Type}(p:α->β->Prop):Prop|mk (a:α) (b:β) (h:p a b)
inductive Sm3 {α β γ:Type}(p:α->β->γ->Prop):Prop|mk (a:α) (b:β) (c:γ) (h:p a b c)
inductive Sm4 {α β γ δ:Type}(p:α->β->γ->δ->Prop):Prop|mk (a:α) (b:β) (c:γ) (d:δ) (h:p a b c d)
inductive Sm5 {α β γ δ ε:Type}(p:α->β->γ->δ->ε->Prop):Prop|mk (a:α) (b:β) (c:γ) (d:δ) (e:ε) (h:p a b c d e)
inductive Sm6 {α β γ δ ε ζ:Type}(p:α->β->γ->δ->ε->ζ->Prop):Prop|mk (a:α) (b:β) (c:γ) (d:δ) (e:ε) (f:ζ) (h:p a b c d e f)
inductive Cj2 (a b:Prop):Prop|mk (h1:a) (h2:b)
inductive Cj3 (a b c:Prop):Prop|mk (h1:a) (h2:b) (h3:c)
inductive Cj4 (a b c d:Prop):Prop|mk (h1:a) (h2:b) (h3:c) (h4:d)
inductive Cj5 (a b c d e:Prop):Prop|mk (h1:a) (h2:b) (h3:c) (h4:d) (h5:e)
inductive Cj6 (a b c d e f:Prop):Prop|mk (h1:a) (h2:b) (h3:c) (h4:d) (h5:e) (h6:f)
inductive Cj7 (a b c d e f g:Prop):Prop|mk (h1:a) (h2:b) (h3:c) (h4:d) (h5:e) (h6:f) (h7:g)
variable {st:Hs->Prop} {N:NQ} {xs:List Val}
def Zr{W:Val->Env->Hs->NQ->NQ->Prop}(I:Nat->Env->Hs->Prop){env:Env}(h0:I 0 env h)(ŭ:∀i e g,i<=xs.length->I i e g->st g)
  (step:∀i v e g,xs[i]?=df v->I i e g->∀K:NQ,(∀e' g',I (i+1) e' g'->K e' g')->W v e g K N) (fin:∀e g,I xs.length e g->N e g):wFor st W N xs env h:=by
 have key:∀(ys:List Val) (i:Nat) e g,xs.drop i=ys->i<=xs.length->I i e g->wFor st W N ys e g:=by
  intro ys;induction ys with
  |nil =>
   intro i e g hd hi hI;have:i=xs.length:=by have:=congrArg List.length hd;simp at this;lia
   subst this;exact⟨ŭ _ e g (Ï _) hI,fin e g hI⟩
  |cons v vs ih =>
   intro i e g hd hi hI;have Τ:i<xs.length:=by have:=congrArg List.length hd;simp at this;lia
   have hv:xs[i]?=df v:=by have:=congrArg (λl=>l[0]?) hd;simpa using this
   refine⟨ŭ i e g hi hI,step i v e g hv hI _ λe' g' hI'=>ih (i+1) e' g' ?_ (by lia) hI'⟩;have:=congrArg List.tail hd;simpa using this
 exact key xs 0 env h (by simp) (by lia) h0
def Yv{T:Env->Hs->(Bool->Hs->Prop)->Prop}{W:Env->Hs->NQ->NQ->Prop}(I:Nat->Env->Hs->Prop){env:Env}{m:Nat}(h0:I m env h)
  (step:∀m e g,I m e g->∀K:NQ,(∀m' e' g',m'<m->I m' e' g'->K e' g')->T e g λk h1=>if k=dh then W e h1 K N else N e h1):∃n,wWhile T W N n env h:=by
 refine⟨m+1,?_⟩;have key:∀(n m:Nat) e g,m<n->I m e g->wWhile T W N n e g:=by
  intro n;induction n with
  |zero=>intro m e g hm;lia
  |succ n ih=>intro m e g hm hI;exact step m e g hI _ λm' e' g' hm' hI'=>ih m' e' g' (by lia) hI'
 exact key (m+1) m env h (by lia) h0
variable {Q:List Val->Hs->Prop} {X:XQ}
def ZH{step:Val->Hs->(Option Val->Hs->Prop)->XQ->Prop}(I:Nat->List Val->Hs->Prop)(h0:I 0 [] h)(ŭ:∀i ys g,i<=xs.length->I i ys g->st g)
  (go:∀i v ys g,xs[i]?=df v->I i ys g->∀K,(∀r g',I (i+1) (ys++r.toList) g'->K r g')->step v g K X) (fin:∀ys g,I xs.length ys g->Q ys g):wComp st step xs [] h Q X:=by
 have key:∀(zs:List Val) (i:Nat) ys g,xs.drop i=zs->i<=xs.length->I i ys g->wComp st step zs ys g Q X:=by
  intro zs;induction zs with
  |nil =>
   intro i ys g hd hi hI;have:i=xs.length:=by have:=congrArg List.length hd;simp at this;lia
   subst this;exact⟨ŭ _ ys g (Ï _) hI,fin ys g hI⟩
  |cons v vs ih =>
   intro i ys g hd hi hI;have Τ:i<xs.length:=by have:=congrArg List.length hd;simp at this;lia
   have hv:xs[i]?=df v:=by have:=congrArg (λl=>l[0]?) hd;simpa using this
   refine⟨ŭ i ys g hi hI,go i v ys g hv hI _ λr g' hI'=>ih (i+1) _ g' ?_ (by lia) hI'⟩;have:=congrArg List.tail hd;simpa using this
 exact key xs 0 [] h (by simp) (by lia) h0
def Yw{step:Val->Hs->(Option Val->Hs->Prop)->XQ->Prop}(f:Val->Option Val)(ŭ:st h)
  (go:∀v∈xs,∀K,K (f v) h->step v h K X) (fin:Q (xs.filterMap f) h):wComp st step xs [] h Q X:=by
 have key:∀(zs ys:List Val),(∀v∈zs,v∈xs)->Q (ys++zs.filterMap f) h->wComp st step zs ys h Q X:=by
  intro zs;induction zs with
  |nil=>intro ys _ q;exact⟨ŭ,⇑q⟩
  |cons v vs ih =>
   intro ys hm q;refine⟨ŭ,go v (hm v<|by simp) _<|ih _ (λw hw=>hm w<|by simp[hw]) ?_⟩;cases e:f v with
   |none=>simpa[ê,e]using q
   |some u=>simpa[ê,e]using q
 exact key xs [] (λ_ h=>h) ⇑fin
section
variable {Φ:Fs}{env:Env}{h:Hs}{Q:Q1}{X:XQ}{a b c e o:E}{as:Es}{v u:Val}
variable {es:Es}
def q_e_dct:(wE Φ (.dct es) env h Q X)=(new h (.dct []) λr h1=>go (d0 r) λp=>wA Φ es env h1 (λvs h2=>go (pairUp vs) λkvs=>h2 p=df (.dct [])/\Q (.ref p) (upd h2 p<|.dct<|putAll [] kvs)) X):=by show M5 _ _ _ _=_;unfold M5;rfl
variable {QA:List Val->Hs->Prop}{QO:Option Int->Hs->Prop}{QT:Bool->Hs->Prop}{QI:(Hs->Prop)->List Val->Hs->Prop}
def q_a_nil:(wA Φ .nil env h QA X)=(QA [] h):=rfl
def q_a_cons:(wA Φ (.cons e es) env h QA X)=(wE Φ e env h (λv h1=>wA Φ es env h1 (λvs h2=>QA (v::vs) h2) X) X):=rfl
end
mutual
theorem D.eqv_refl:∀d:D,D.eqv d d=dh
 |.non=>by simp[D.eqv]
 |.bl _=>by simp[D.eqv]
 |.int _=>by simp[D.eqv]
 |.str _=>by simp[D.eqv]
 |.tup ds=>by simp only[D.eqv];exact D.eqvs_refl ds
 |.lst ds=>by simp only[D.eqv];exact D.eqvs_refl ds
theorem D.eqvs_refl:∀ds:List D,D.eqvs ds ds=dh
 |[]=>by simp[D.eqvs]
 |d::ds=>by simp only[D.eqvs,D.eqv_refl d,D.eqvs_refl ds,Bool.and_self]
end
def UK{α:Type}{o:Option α}{k k':α->Prop}(h:go o k)(f:∀a,k a->k' a):go o k':=by
 cases o with
 |none=>rw[FN]at h;exact h.elim
 |some a=>rw[dq]at h ⊢;exact f a h
section
variable {Φ:Fs}{env:Env}{h:Hs}{Q:Q1}{X:XQ}{a:Ad}{v:Val}{kvs:List (Val×Val)}
def LS(q:∀p,h p=dg->Q (.ref p) (upd h p<|.dct [])):wE Φ (.dct .nil) env h Q X:=by refine Qf<|Yl λp hp=>g_ref<|DX<|du rfl ⟨dk,?_⟩;rw[dm];exact q p hp
def dw0(q:∀p,h p=dg->Q (.ref p) (upd h p<|.dct [])):M5 (xA Φ .nil env) h Q X:=LS q
def dw{F:Hs->(List Val->Hs->Prop)->XQ->Prop}(q:new h (.dct []) λr h1=>go (d0 r) λp=>F h1 (λvs h2=>go (pairUp vs) λkvs=>h2 p=df (.dct [])/\Q (.ref p) (upd h2 p<|.dct<|putAll [] kvs)) X):M5 F h Q X:=by unfold M5;exact q
def QZ{i:Nat}{K:Val->Prop}(g:getV env i=df v)(q:K v):go (getV env i) K:=du g q
def dc_of{K:List (Val×Val)->Prop}(e1:h a=df (.dct kvs))(q:K kvs):go (eX<|h a) K:=du (dcE e1) q
variable {u:Val}
def D7{K:Val×Hs->Prop}(e1:h a=df (.dct kvs))(hk:dM v=dh)(e2:dP kvs v=df u)(q:K (u,upd h a<|.dct<|dU kvs v)):go (bmV h .dpop (.ref a) [v]) K:=du (by show(eX<|h a).bind _=_;rw[dcE e1];show(if dM v then _ else _)=_;rw[ff hk,e2];rfl) q
def UY{K:Val×Hs->Prop}(e1:h a=df (.dct kvs))(hk:dM v=dh)(q:K ((dP kvs v).getD u,upd h a<|.dct<|dU kvs v)):go (bmV h .dpopD (.ref a) [v,u]) K:=du (by show(eX<|h a).bind _=_;rw[dcE e1];exact ff hk) q
end
end O
namespace Snd
open PySem L2
abbrev KT(K:Frag)(a:Ì)(xs:List V):Prop :=
 ∃(o:Obj) (ð:Array Â) (n:Nat),K.lookup a=df o/\o.cls=.type "tuple"/\o.data=.seq ð n/\ð.size<=Ü/\eV xs ð.toList
abbrev KL(K:Frag)(a:Ì)(xs:List V):Prop :=
 ∃(o:Obj) (ð:Array Â) (n:Nat),K.lookup a=df o/\o.cls=.type "list"/\o.dict=dg/\o.data=.seq ð n/\ð.size<=Ü/\eV xs ð.toList
mutual
inductive RV (K:Frag) (H:Hp):O.Val->V->Prop
 |non:RV K H .non .non
 |bl (b:Bool):RV K H (.bl b)<|.bl b
 |int (i:Int):RV K H (.int i)<|.int i
 |str (s:String):RV K H (.str s)<|.str<|fo s
 |tup {xs:List O.Val}{a:Ì}{vs:List V}:(H a=df (.tup vs)\/KT K a vs)->RVs K H xs vs->RV K H (.tup xs) (.ref a)
 |ref (a:Ì):RV K H (.ref a)<|.ref a
 |scr {ns:List Int}{a:Ì}:((∃o,H a=df (.frz o<|.lst<|ns.map V.int))\/KL K a (ns.map V.int))->RV K H (.scr ns) (.ref a)
 |key {i j:Int}{a:Ì}:H a=df (.tup [.int i,.int j])->RV K H (.key i j) (.ref a)
inductive RVs (K:Frag) (H:Hp):List O.Val->List V->Prop
 |nil:RVs K H [] []
 |cons {v:O.Val}{x:V}{vs:List O.Val}{xs:List V}:RV K H v x->RVs K H vs xs->RVs K H (v::vs) (x::xs)
end
structure dO(H H':Hp):Prop where
 t:∀a xs,H a=df (.tup xs)->H' a=df (.tup xs)
 f:∀a o u,H a=df (.frz o u)->H' a=df (.frz o u)
def dO.refl(H:Hp):dO H H:=⟨λ_ _ e=>e,λ_ _ _ e=>e⟩
variable {H:Hp}
def dO.trans{H1 H2:Hp}(a:dO H H1)(b:dO H1 H2):dO H H2:=⟨λc xs e=>b.t c xs<|a.t c xs e,λc o u e=>b.f c o u<|a.f c o u e⟩
variable {a:Ì} {o:HO}
def dO.put(h:∀xs,H a≠df (.tup xs))(h2:∀p u,H a≠df (.frz p u)):dO H<|upd H a o:=⟨λb xs e=>by
  rw[dj<|by rintro rfl;exact h xs e];exact e,λb p u e=>by rw[dj<|by rintro rfl;exact h2 p u e];exact e⟩
def dO.new(h:H a=dg):dO H<|upd H a o:=dO.put (λxs e=>by rw[h]at e;cases e) λp u e=>by rw[h]at e;cases e
variable {K:Frag}{H H':Hp}
mutual
theorem RV.keep(k:dO H H'):∀{v:O.Val}{x:V},RV K H v x->RV K H' v x
 |_,_,.non=>.non
 |_,_,.bl b=>.bl b
 |_,_,.int i=>.int i
 |_,_,.str s=>.str s
 |_,_,.tup (.inl e) r=>.tup (.inl<|k.t _ _ e)<|RVs.keep k r
 |_,_,.tup (.inr e) r=>.tup (.inr e)<|RVs.keep k r
 |_,_,.ref a=>.ref a
 |_,_,.scr (.inl ⟨o,e⟩)=>.scr<|.inl ⟨o,k.f _ _ _ e⟩
 |_,_,.scr (.inr e)=>.scr<|.inr e
 |_,_,.key e=>.key<|k.t _ _ e
theorem RVs.keep(k:dO H H'):∀{vs:List O.Val}{xs:List V},RVs K H vs xs->RVs K H' vs xs
 |_,_,.nil=>.nil
 |_,_,.cons r t=>.cons (RV.keep k r)<|RVs.keep k t
end
def RVs.length:∀{vs:List O.Val}{xs:List V},RVs K H vs xs->vs.length=xs.length
 |_,_,.nil=>rfl
 |_,_,.cons _ t=>by rw[Ç,Ç,RVs.length t]
def RVs.get:∀{vs:List O.Val}{xs:List V}{i:Nat}{v:O.Val},RVs K H vs xs->vs[i]?=df v->∃x,xs[i]?=df x/\RV K H v x
 |_,_,_,_,.nil,e=>by simp at e
 |_,_,0,_,.cons r _,e=>by simp at e;subst e;exact⟨_,rfl,r⟩
 |_,_,i+1,v,.cons _ t,e=>by let⟨x,h1,h2⟩:=RVs.get (i:=i) (v:=v) t ⇑e;exact⟨x,⇑h1,h2⟩
def RVs.append:∀{vs us:List O.Val}{xs ys:List V},RVs K H vs xs->RVs K H us ys->RVs K H (vs++us) (xs++ys)
 |_,_,_,_,.nil,h=>h
 |_,_,_,_,.cons r t,h=>.cons r<|RVs.append t h
def RVs.set{v:O.Val}{x:V}(r:RV K H v x):∀{vs:List O.Val}{xs:List V}(i:Nat),RVs K H vs xs->RVs K H (vs.set i v) (xs.set i x)
 |_,_,_,.nil=>.nil
 |_,_,0,.cons _ t=>.cons r t
 |_,_,i+1,.cons q t=>.cons q<|RVs.set r i t
def RVs.take:∀{vs:List O.Val}{xs:List V}(n:Nat),RVs K H vs xs->RVs K H (vs.take n) (xs.take n)
 |_,_,0,_=>.nil
 |_,_,_+1,.nil=>.nil
 |_,_,n+1,.cons r t=>.cons r<|RVs.take n t
def RVs.drop:∀{vs:List O.Val}{xs:List V}(n:Nat),RVs K H vs xs->RVs K H (vs.drop n) (xs.drop n)
 |_,_,0,r=>r
 |_,_,_+1,.nil=>.nil
 |_,_,n+1,.cons _ t=>RVs.drop n t
def RVs.eraseIdx:∀{vs:List O.Val}{xs:List V}(i:Nat),RVs K H vs xs->RVs K H (vs.eraseIdx i) (xs.eraseIdx i)
 |_,_,_,.nil=>.nil
 |_,_,0,.cons _ t=>t
 |_,_,i+1,.cons q t=>.cons q<|RVs.eraseIdx i t
def Zl{vs:List V}(h:H a=df (.tup vs)\/KT K a vs):eU K H a vs:=by
 rcases h with h|h
 .exact eU.of h
 .exact .inr h
structure Inf where
 K:Frag
 cl:String->Ì->Prop
 ins:String->Bool
 xc:String->Ì->Prop
abbrev WK:O.Val->Key->Prop
 |.int i,.inl j=>i=j
 |.str s,.inr t=>t=fo s
 |_,_=>False
inductive RKs (K:Frag) (H:Hp):List (O.Val×O.Val)->List (Key×V)->Prop
 |nil:RKs K H [] []
 |cons {k v:O.Val}{c:Key}{x:V}{kvs:List (O.Val×O.Val)}{ps:List (Key×V)}:WK k c->RV K H v x->RKs K H kvs ps->RKs K H ((k,v)::kvs) ((c,x)::ps)
inductive RFs (K:Frag) (H:Hp):List (String×O.Val)->List (Str×V)->Prop
 |nil:RFs K H [] []
 |cons {f:String}{v:O.Val}{x:V}{fs:List (String×O.Val)}{ps:List (Str×V)}:RV K H v x->RFs K H fs ps->RFs K H ((f,v)::fs) ((fo f,x)::ps)
def RKs.keep(k:dO H H'):∀{kvs:List (O.Val×O.Val)}{ps:List (Key×V)},RKs K H kvs ps->RKs K H' kvs ps
 |_,_,.nil=>.nil
 |_,_,.cons a r t=>.cons a (r.keep k)<|RKs.keep k t
inductive RTs (K:Frag) (H:Hp):List (O.Val×O.Val)->List (List Key×V)->Prop
 |nil:RTs K H [] []
 |cons {i j:Int}{v:O.Val}{x:V}{kvs:List (O.Val×O.Val)}{ps:List (List Key×V)}:RV K H v x->RTs K H kvs ps->RTs K H ((.key i j,v)::kvs) (([.inl i,.inl j],x)::ps)
def RTs.keep(k:dO H H'):∀{kvs:List (O.Val×O.Val)}{ps:List (List Key×V)},RTs K H kvs ps->RTs K H' kvs ps
 |_,_,.nil=>.nil
 |_,_,.cons r t=>.cons (r.keep k)<|RTs.keep k t
def RFs.keep(k:dO H H'):∀{fs:List (String×O.Val)}{ps:List (Str×V)},RFs K H fs ps->RFs K H' fs ps
 |_,_,.nil=>.nil
 |_,_,.cons r t=>.cons (r.keep k)<|RFs.keep k t
abbrev RO(i:Inf)(H:Hp)(a:Ì):O.Ob->Prop
 |.lst xs=>∃vs,H a=df (.lst vs)/\RVs i.K H xs vs
 |.dct kvs=>∃ps,H a=df (.dK ps)/\RKs i.K H kvs ps
 |.ins C fs=>∃c dx ps,i.ins C=dh/\i.cl C c/\H a=df (.ins c dx ps)/\RFs i.K H fs ps
 |.exc C=>∃c,i.xc C c/\H a=df (xcO a<|.ref c)
 |.frz kvs=>∃o ps,H a=df (.frz o<|.dK ps)/\RKs i.K H kvs ps
 |.dtp kvs=>∃ps,H a=df (.dT ps)/\RTs i.K H kvs ps
variable {i:Inf}
def RO.there{o:O.Ob}(r:RO i H a o):∃u,H a=df u:=by
 cases o with
 |lst xs=>let⟨_,e,_⟩:=r;exact⟨_,e⟩
 |dct kvs=>let⟨_,e,_⟩:=r;exact⟨_,e⟩
 |ins C fs=>let⟨_,_,_,_,_,e,_⟩:=r;exact⟨_,e⟩
 |exc C=>let⟨_,_,e⟩:=r;exact⟨_,e⟩
 |frz kvs=>let⟨_,_,e,_⟩:=r;exact⟨_,e⟩
 |dtp kvs=>let⟨_,e,_⟩:=r;exact⟨_,e⟩
def RO.move{o:O.Ob}(r:RO i H a o)(k:dO H H')(e:H' a=H a):RO i H' a o:=by
 cases o with
 |lst xs=>let⟨vs,q,r⟩:=r;exact⟨vs,e.trans q,r.keep k⟩
 |dct kvs=>let⟨ps,q,r⟩:=r;exact⟨ps,e.trans q,r.keep k⟩
 |ins C fs=>let⟨c,dx,ps,h0,h,q,r⟩:=r;exact⟨c,dx,ps,h0,h,e.trans q,r.keep k⟩
 |exc C=>let⟨c,h,q⟩:=r;exact⟨c,h,e.trans q⟩
 |frz kvs=>let⟨o,ps,q,r⟩:=r;exact⟨o,ps,e.trans q,r.keep k⟩
 |dtp kvs=>let⟨ps,q,r⟩:=r;exact⟨ps,e.trans q,r.keep k⟩
abbrev RH(i:Inf)(G:O.Hs)(H:Hp):Prop:=∀a o,G a=df o->RO i H a o
variable {G:O.Hs}
def RH.free(r:RH i G H)(e:H a=dg):G a=dg:=by
 cases q:G a with
 |none=>rfl
 |some o=>let⟨u,z⟩:=(r a o q).there;rw[e]at z;cases z
def RH.put{o:O.Ob}{u:HO}(r:RH i G H)(k:dO H<|upd H a u)(n:RO i (upd H a u) a o):RH i (O.upd G a o)<|upd H a u:=λb p e=>by
 by_cases hb:b=a
 .subst hb;rw[O.dk]at e;cases e;exact n
 .rw[O.dj hb]at e;exact(r b p e).move k<|dj hb
def RH.hid(r:RH i G H)(k:dO H H')(e:∀a o,G a=df o->H' a=H a):RH i G H':=λb p q=>(r b p q).move k (e b p q)
structure REn(K:Frag)(H:Hp)(env:O.Env)(σ:St):Prop where
 len:env.length=σ.length
 get:∀(i:Nat) (v:O.Val),env[i]?=df (df v)->∃x,σ[i]?=df (df x)/\RV K H v x
variable {σ:St}
def REn.keep{env:O.Env}(r:REn K H env σ)(k:dO H H'):REn K H' env σ:=⟨r.len,λi v e=>by
  let⟨x,h1,h2⟩:=r.get i v e
  exact⟨x,h1,h2.keep k⟩⟩
def REn.set{env:O.Env}{v:O.Val}{x:V}(r:REn K H env σ)(q:RV K H v x)(j:Nat):REn K H (env.set j<|df v)<|σ.set j<|df x:=⟨by simp[r.len],λi u e=>by
  by_cases hij:j=i
  . subst hij
    rw[List.getElem?_set_self']at e
    cases z:env[j]? with
    |none=>rw[z]at e;cases e
    |some w =>
      rw[z]at e
      cases e
      have hj:j<σ.length:=by rw[<-r.len];exact(Î.mp z).1
      exact⟨x,ξ hj,q⟩
  . rw[Ū hij]at e
    let⟨y,h1,h2⟩:=r.get i u e
    exact⟨y,by rw[Ū hij];exact h1,h2⟩⟩
def REn.start{vs:List O.Val}{xs:List V}{n:Nat}(r:RVs K H vs xs):REn K H (vs.map df++Õ n dg)<|xs.map df++Õ n dg:=⟨by simp[r.length],λi v e=>by
  by_cases hi:i<vs.length
  . rw[ā ⇑hi,Ø]at e
    cases z:vs[i]? with
    |none=>rw[z]at e;cases e
    |some w =>
      rw[z]at e
      cases e
      let⟨x,h1,h2⟩:=r.get z
      exact⟨x,by rw[ā (by rw[À,<-r.length];exact hi),Ø,h1];rfl,h2⟩
  . rw[ć ⇑hi,ļ]at e
    split at e<;>cases e⟩
def RVs.ints{K:Frag}{H:Hp}:∀ns:List Int,RVs K H (ns.map O.Val.int) (ns.map V.int)
 |[]=>.nil
 |n::ns=>.cons (.int n)<|RVs.ints ns
def Z2{ns:List Int}(h:(∃o,H a=df (.frz o<|.lst<|ns.map V.int))\/KL K a (ns.map V.int)):eS K H a<|ns.map V.int:=by
 rcases h with⟨o,h⟩|h
 .exact .inl<|.inr ⟨o,h⟩
 .exact .inr h
variable {i:Inf}{X:Cx}{Φ:O.Fs}
abbrev XK1(i:Inf)(H:Hp)(Em:O.XQ):XK:=λcls _ H'=>∃c G' ad,cls=.ref ad/\i.xc c ad/\dO H H'/\RH i G' H'/\Em c G'
abbrev XOk(X:Cx)(i:Inf)(H:Hp)(Em:O.XQ):Prop:=XW X<|XK1 i H Em
variable {H:Hp} {H1:Hp} {Em:O.XQ}
def XK1.go{H':Hp}{cls:Â}{d:Option Ì}(k:dO H H1)(h:XK1 i H1 Em cls d H'):XK1 i H Em cls d H':=by let⟨c,G',ad,e,q,k',r,m⟩:=h;exact⟨c,G',ad,e,q,k.trans k',r,m⟩
def XOk.go(x:XOk X i H Em)(k:dO H H1):XOk X i H1 Em:=λÁ σ H0 s H' a cls s' I f e=>x Á σ H0 s H' a cls s' I f (e.go k)
structure Pre(X:Cx)(i:Inf)(σ:St)(H:Hp)(env:O.Env)(G:O.Hs)(Em:O.XQ):Prop where
 en:REn i.K H env σ
 hp:RH i G H
 xo:XOk X i H Em
variable {σ:St} {G:O.Hs}
def Pre.go{env:O.Env}{G1:O.Hs}(p:Pre X i σ H env G Em)(k:dO H H1)(r:RH i G1 H1):Pre X i σ H1 env G1 Em:=⟨p.en.keep k,r,p.xo.go k⟩
abbrev Cn(i:Inf)(H:Hp)(Q:VK)(Qm:O.Q1):Prop:=∀v G' H' x,dO H H'->RH i G' H'->RV i.K H' v x->Qm v G'->Q x H'
variable {Q:VK} {Qm:O.Q1}
def Cn.go(c:Cn i H Q Qm)(k:dO H H1):Cn i H1 Q Qm:=λv G' H' x k'=>c v G' H' x (k.trans k')
inductive tEx (X:Cx) (i:Inf) (Φ:O.Fs) (m:O.E) (σ:St) (H:Hp) (Q:VK):Prop
 |mk (env:O.Env) (G:O.Hs) (Qm:O.Q1) (Em:O.XQ) (p:Pre X i σ H env G Em) (w:O.wE Φ m env G Qm Em) (c:Cn i H Q Qm)
abbrev tE(X:Cx)(i:Inf)(Φ:O.Fs)(m:O.E):TE:=tEx X i Φ m
inductive tArx (X:Cx) (i:Inf) (Φ:O.Fs) (ms:O.Es) (n:Nat) (σ:St) (H:Hp) (Q:List V->Hp->Prop):Prop
 |mk (env:O.Env) (G:O.Hs) (Qm:List O.Val->O.Hs->Prop) (Em:O.XQ) (p:Pre X i σ H env G Em) (w:O.wA Φ ms env G Qm Em) (c:∀vs G' H' xs,dO H H'->RH i G' H'->RVs i.K H' vs xs->xs.length=n->Qm vs G'->Q xs H')
abbrev tAr(X:Cx)(i:Inf)(Φ:O.Fs)(ms:O.Es)(n:Nat):TA:=tArx X i Φ ms n
inductive tTtx (X:Cx) (i:Inf) (Φ:O.Fs) (m:O.Tt) (σ:St) (H:Hp) (Q:Bool->Hp->Prop):Prop
 |mk (env:O.Env) (G:O.Hs) (Qm:Bool->O.Hs->Prop) (Em:O.XQ) (p:Pre X i σ H env G Em) (w:O.wT Φ m env G Qm Em) (c:∀b G' H',dO H H'->RH i G' H'->Qm b G'->Q b H')
abbrev tTt(X:Cx)(i:Inf)(Φ:O.Fs)(m:O.Tt):TT:=tTtx X i Φ m
variable {e:Expr}
def _root_.L2.PE.imp{t t':TE}(h:PE X e t)(f:∀σ H Q,t' σ H Q->t σ H Q):PE X e t':=λÁ s σ H Q I q=>h Á s σ H Q I (f σ H Q q)
variable {t':TT}
def _root_.L2.PT.imp{t:TT}(h:PT X e t)(f:∀σ H Q,t' σ H Q->t σ H Q):PT X e t':=λÁ s σ H Q I q=>h Á s σ H Q I (f σ H Q q)
def _root_.L2.PW.imp{t:TT}(h:PW X e t)(f:∀σ H Q,t' σ H Q->t σ H Q):PW X e t':=λwh Á s σ H Q I q=>h wh Á s σ H Q I (f σ H Q q)
variable {es:List Expr}
def _root_.L2.PA.imp{t t':TA}(h:PA X es t)(f:∀σ H Q,t' σ H Q->t σ H Q):PA X es t':=λç Á s σ H Q I q=>h ç Á s σ H Q I (f σ H Q q)
variable {j:Nat}
def P1{env:O.Env}{h:O.Hs}{Q:O.Q1}{E:O.XQ}:(O.wE Φ (.var j) env h Q E)=(O.go (O.getV env j) λv=>Q v h):=rfl
def dq{α:Type}{o:Option α}{k:α->Prop}(h:O.go o k):∃a,o=df a/\k a:=by
 cases o with
 |none=>simp at h
 |some a=>exact⟨a,rfl,⇑h⟩
def AD{env:O.Env}{v:O.Val}(h:O.getV env j=df v):env[j]?=df (df v):=by
 unfold O.getV at h;split at h
 .rename_i u e;cases h;exact e
 .cases h
variable {ç:Pos}
def Qd{x:Str}(hN:X.N[j]?=df x)(hv:Vis X.env.scope x)(hd:(x==("__debug__" : Str))=di)(av:(x==("__classdict__" : Str))=di):PE X (.Name x ç) (tE X i Φ<|.var j) :=
 (Ln hN hv hd av).imp λσ H Q ⟨env,G,Qm,Em,p,w,c⟩=>by rw[P1]at w;let⟨v,e,q⟩:=dq w;let⟨y,h1,h2⟩:=p.en.get j v<|AD e;exact⟨y,h1,c v G H y (dO.refl H) p.hp h2 q⟩
variable {x:V}
def WQ{v:O.Val}(h:PE X e<|tC x)(r:∀H,RV i.K H v x):PE X e (tE X i Φ<|.cst v) :=
 h.imp λσ H Q ⟨env,G,Qm,Em,p,w,c⟩=>by exact c v G H x (dO.refl H) p.hp (r H) w
def LV{y:String}{v:O.Val}(h:PE X e<|tC x)(r:∀H,RV i.K H v x):PE X e (tE X i Φ<|.glob y v) :=
 h.imp λσ H Q ⟨env,G,Qm,Em,p,w,c⟩=>by exact c v G H x (dO.refl H) p.hp (r H) w
variable {a:O.E}
def two{b:O.E}{env:O.Env}{F:O.Val->O.Val->O.Hs->Prop}{R:V->V->Hp->Prop}(p:Pre X i σ H env G Em)
  (w:O.wE Φ a env G (λv G1=>O.wE Φ b env G1 (λu G2=>F v u G2) Em) Em)
  (h:∀v u G2 H2 x y,dO H H2->Pre X i σ H2 env G2 Em->RV i.K H2 v x->RV i.K H2 u y->F v u G2->R x y H2):tE X i Φ a σ H λx H1=>tE X i Φ b σ H1 λy H2=>R x y H2 :=
 ⟨env,G,_,Em,p,w,λv G1 H1 x k1 g1 r1 w1=>⟨env,G1,_,Em,p.go k1 g1,w1,λu G2 H2 y k2 g2 r2 w2=>h v u G2 H2 x y (k1.trans k2) ((p.go k1 g1).go k2 g2) (r1.keep k2) r2 w2⟩⟩
def one{env:O.Env}{F:O.Val->O.Hs->Prop}{R:V->Hp->Prop}(p:Pre X i σ H env G Em)
  (w:O.wE Φ a env G (λv G1=>F v G1) Em) (h:∀v G1 H1 x,dO H H1->Pre X i σ H1 env G1 Em->RV i.K H1 v x->F v G1->R x H1):tE X i Φ a σ H λx H1=>R x H1 :=
 ⟨env,G,_,Em,p,w,λv G1 H1 x k1 g1 r1 w1=>h v G1 H1 x k1 (p.go k1 g1) r1 w1⟩
abbrev J3(i:Inf)(op:O.Bop)(r:R2):Prop:=∀(v u:O.Val) (G:O.Hs) (H:Hp) (x y:V) (Q:VK) (Qm:O.Q1),RH i G H->RV i.K H v x->RV i.K H u y->(O.binV G op v u).wp G Qm->Cn i H Q Qm->r x y H Q
variable {b:Expr} {ma:O.E} {mb:O.E} {r:R2}
def KQ{a:Expr}{op:Γ}{bop:O.Bop}(ho:OpR X (Ķ op) r)(hr:J3 i bop r)(ha:PE X a<|tE X i Φ ma)(hb:PE X b<|tE X i Φ mb):PE X (.BinOp a op b ç) (tE X i Φ<|.bin bop ma mb) :=
 (Pq ho ha hb).imp λσ H Q ⟨env,G,Qm,Em,p,w,c⟩=>by exact two p w λv u G2 H2 x y k2 p2 rx ry q=>hr v u G2 H2 x y Q Qm p2.hp rx ry q<|c.go k2
abbrev Z0(i:Inf)(op:O.Cop)(r:R2):Prop:=∀(v u:O.Val) (G:O.Hs) (H:Hp) (x y:V) (c:Bool) (Q:VK),RH i G H->RV i.K H v x->RV i.K H u y->O.dL G op v u=df c->Q (.bl c) H->r x y H Q
variable {op:bv} {cop:O.Cop}
def Qt{a:Expr}(ho:OpR X (é op) r)(hr:Z0 i cop r)(ha:PE X a<|tE X i Φ ma)(hb:PE X b<|tE X i Φ mb)(hm:ī op b=di):PE X (.Compare a [op] [b] ç) (tE X i Φ<|.cmp cop ma mb) :=
 (Ub ho ha hb hm).imp λσ H Q ⟨env,G,Qm,Em,p,w,c⟩=>by
  exact two p w λv u G2 H2 x y k2 p2 rx ry q=>by let⟨d,e,q⟩:=dq q;exact hr v u G2 H2 x y d Q p2.hp rx ry e<|c (.bl d) G2 H2 (.bl d) k2 p2.hp (.bl d) q
def HQ{a:Expr}(ho:OpR X (é op) r)(hr:Z0 i cop r)(ha:PE X a<|tE X i Φ ma)(hb:PE X b<|tE X i Φ mb)(hm:ī op b=di):PT X (.Compare a [op] [b] ç) (tTt X i Φ<|.val<|.cmp cop ma mb) :=
 (UA ho ha hb hm).imp λσ H Q ⟨env,G,Qm,Em,p,w,c⟩=>by
  exact two p w λv u G2 H2 x y k2 p2 rx ry q=>by let⟨d,e,q⟩:=dq q;let⟨d',e',q⟩:=dq q;cases e';exact hr v u G2 H2 x y d _ p2.hp rx ry e ⟨d,rfl,c d G2 H2 k2 p2.hp q⟩
def Wu{v:O.Val}{b:Bool}(h:O.eZ v=df b):v=.bl b:=by cases v<;>simp_all [O.eZ]
def Zy{v:O.Val}{b:Int}(h:O.eY v=df b):v=.int b:=by cases v<;>simp_all [O.eY]
def Jy{v:O.Val}{b:O.Ad}(h:O.d0 v=df b):v=.ref b:=by cases v<;>simp_all [O.d0]
def RV.bl_inv{K:Frag}{b:Bool}(r:RV K H (.bl b) x):x=.bl b:=by cases r;rfl
def RV.int_inv{K:Frag}{b:Int}(r:RV K H (.int b) x):x=.int b:=by cases r;rfl
def RV.ref_inv{K:Frag}{b:Ì}(r:RV K H (.ref b) x):x=.ref b:=by cases r;rfl
def RV.str_inv{K:Frag}{b:String}(r:RV K H (.str b) x):x=.str (fo b):=by cases r;rfl
def RV.non_inv{K:Frag}(r:RV K H .non x):x=.non:=by cases r;rfl
def Q7{a:Expr}(ha:PE X a<|tE X i Φ ma):PE X (.UnaryOp .Not a ç) (tE X i Φ<|.not ma) :=
 (HC ha).imp λσ H Q ⟨env,G,Qm,Em,p,w,c⟩=>by
  exact one p w λv G1 H1 x k1 p1 r q=>by let⟨b,e,q2⟩:=dq q;clear q;cases Wu e;exact⟨b,r.bl_inv,c _ G1 H1 _ k1 p1.hp (.bl _) q2⟩
def Pp{a:Expr}(ha:PE X a<|tE X i Φ ma):PE X (.UnaryOp .USub a ç) (tE X i Φ<|.neg ma) :=
 (QD HJ ha).imp λσ H Q ⟨env,G,Qm,Em,p,w,c⟩=>by
  exact one p w λv G1 H1 x k1 p1 r q=>by let⟨b,e,q2⟩:=dq q;clear q;cases Zy e;exact⟨b,r.int_inv,c _ G1 H1 _ k1 p1.hp (.int _) q2⟩
def P4{a:Expr}{rest:List Expr}(ha:PE X a<|tE X i Φ ma)(hb:PE X (.BoolOp .And (b::rest) ç)<|tE X i Φ mb):PE X (.BoolOp .And (a::b::rest) ç) (tE X i Φ<|.and ma mb) :=
 (LH ha hb).imp λσ H Q ⟨env,G,Qm,Em,p,w,c⟩=>by
  exact one p w λv G1 H1 x k1 p1 r q=>by
   let⟨d,e,q2⟩:=dq q;clear q;cases Wu e;refine⟨d,r.bl_inv,?_⟩;cases d with
   |true=>exact⟨env,G1,Qm,Em,p1,⇑q2,c.go k1⟩
   |false=>simp at q2 ⊢;exact c _ G1 H1 _ k1 p1.hp (.bl _) q2
def Sg{a:Expr}{rest:List Expr}(ha:PE X a<|tE X i Φ ma)(hb:PE X (.BoolOp .Or (b::rest) ç)<|tE X i Φ mb):PE X (.BoolOp .Or (a::b::rest) ç) (tE X i Φ<|.or ma mb) :=
 (Pf ha hb).imp λσ H Q ⟨env,G,Qm,Em,p,w,c⟩=>by
  exact one p w λv G1 H1 x k1 p1 r q=>by
   let⟨d,e,q2⟩:=dq q;clear q;cases Wu e;refine⟨d,r.bl_inv,?_⟩;cases d with
   |false=>exact⟨env,G1,Qm,Em,p1,⇑q2,c.go k1⟩
   |true=>simp at q2 ⊢;exact c _ G1 H1 _ k1 p1.hp (.bl _) q2
def LN{a:Expr}{ma:O.Tt}(ha:PT X a<|tTt X i Φ ma):PT X (.UnaryOp .Not a ç) (tTt X i Φ<|.not ma) :=
 (Lw ha).imp λσ H Q ⟨env,G,Qm,Em,p,w,c⟩=>by exact⟨env,G,_,Em,p,w,λb G1 H1 k1 g1 q=>c (!b) G1 H1 k1 g1 q⟩
def Ic{a:Expr}{rest:List Expr}{ma mb:O.Tt}(ha:PT X a<|tTt X i Φ ma)(hb:PW X (.BoolOp .And (b::rest) ç)<|tTt X i Φ mb):PW X (.BoolOp .And (a::b::rest) ç) (tTt X i Φ<|.and ma mb) :=
 (HG ha hb).imp λσ H Q ⟨env,G,Qm,Em,p,w,c⟩=>by
  refine⟨env,G,_,Em,p,w,λd G1 H1 k1 g1 q=>?_⟩;cases d with
  |true=>exact⟨env,G1,Qm,Em,p.go k1 g1,⇑q,λb G2 H2 k2=>c b G2 H2<|k1.trans k2⟩
  |false=>simp at q ⊢;exact c di G1 H1 k1 g1 q
def QK{a:Expr}{rest:List Expr}{ma mb:O.Tt}(ha:PT X a<|tTt X i Φ ma)(hb:PW X (.BoolOp .Or (b::rest) ç)<|tTt X i Φ mb):PW X (.BoolOp .Or (a::b::rest) ç) (tTt X i Φ<|.or ma mb) :=
 (Q3 ha hb).imp λσ H Q ⟨env,G,Qm,Em,p,w,c⟩=>by
  refine⟨env,G,_,Em,p,w,λd G1 H1 k1 g1 q=>?_⟩;cases d with
  |false=>exact⟨env,G1,Qm,Em,p.go k1 g1,⇑q,λb G2 H2 k2=>c b G2 H2<|k1.trans k2⟩
  |true=>simp at q ⊢;exact c dh G1 H1 k1 g1 q
def E1{a:Expr}{ma:O.Tt}(ha:PT X a<|tTt X i Φ ma):PW X (.BoolOp .And [a] ç)<|tTt X i Φ ma:=Fp ha
def Hw{a:Expr}{ma:O.Tt}(ha:PT X a<|tTt X i Φ ma):PW X (.BoolOp .Or [a] ç)<|tTt X i Φ ma:=LO ha
def Qh{c a:Expr}{mc:O.Tt}(hc:PT X c<|tTt X i Φ mc)(ha:PE X a<|tE X i Φ ma)(hb:PE X b<|tE X i Φ mb):PE X (.IfExp c a b ç) (tE X i Φ<|.ife mc ma mb) :=
 (BJ hc ha hb).imp λσ H Q ⟨env,G,Qm,Em,p,w,c⟩=>by
  refine⟨env,G,_,Em,p,w,λd G1 H1 k1 g1 q=>?_⟩;cases d with
  |true=>exact⟨env,G1,Qm,Em,p.go k1 g1,⇑q,c.go k1⟩
  |false=>exact⟨env,G1,Qm,Em,p.go k1 g1,⇑q,c.go k1⟩
def L4:PA X []<|tAr X i Φ .nil 0:=eQ.imp λσ H Q ⟨env,G,Qm,Em,p,w,c⟩=>by exact c [] G H [] (dO.refl H) p.hp .nil rfl w
def FS{m:O.E}{ms:O.Es}{n:Nat}(he:PE X e<|tE X i Φ m)(hes:PA X es<|tAr X i Φ ms n)(hs:Ó (e::es) X.env=(di,eval e X.env)::Ó es X.env):PA X (e::es) (tAr X i Φ (.cons m ms)<|n+1) :=
 (ZY he hes hs).imp λσ H Q ⟨env,G,Qm,Em,p,w,c⟩=>by exact⟨env,G,_,Em,p,w,λv G1 H1 x k1 g1 r1 w1=>⟨env,G1,_,Em,p.go k1 g1,w1,λvs G2 H2 xs k2 g2 r2 hn w2=>c (v::vs) G2 H2 (x::xs) (k1.trans k2) g2 (.cons (r1.keep k2) r2) (by rw[Ç,hn]) w2⟩⟩
def ZT:O.lim<=Ü:=by decide
def Yn{o:O.Ob}{u:HO}(g:RH i G H)(w:O.new G o Qm)(c:Cn i H Q Qm)(r:∀p,H p=dg->RO i (upd H p u) p o):∀p,H p=dg->Q (.ref p) (upd H p u):=λp hp=>by unfold O.new at w;exact c (.ref p) _ _ (.ref p) (dO.new hp) (g.put (dO.new hp)<|r p hp) (.ref p) (w p<|g.free hp)
end Snd
namespace HT2
open PySem PySem.Spec PyProof.Rows L2
abbrev Yb:List Int->List Int->Bool
 |[],[]=>di
 |[],_::_=>di
 |_::_,[]=>dh
 |x::xs,y::ys=>if x=y then Yb xs ys else fm (x > y)
def CG(A:Ğ)(s:Å)(a:Int)(t:Tok)(c:Int)(u:Tok)(prog:ë)(w:Ă)(E:Â->Å->Prop)(Q:Â->Å->Prop)(h:Q (.bool<|fm (a > c)) s) :
  wpAny (â prog w) A (richCompare .Gt (.int a t)<|.int c u) Q E s :=
 (PyProof.Rows.gt_int h:wpAny (â prog w) A (é .Gt (.int a t)<|.int c u) Q E s)
section
open PySem.SeqAt
open PySem.AutoSeq1 (wpAny_loadPart')
open PySem.MeetsSeq PySem.MeetsSeq2 PySem.MeetsSeq3
def Ke(l b:Ì)(items ı:Array Â)(n n2:Nat)(dd bZ:Option Ì)(sl cL:Array<|Option Â)(ns ms:List Int)(hi:Ě items.toList ns)(hj:Ě ı.toList ms) :
  Meets (Builtin.«tuple.__gt__» ⟨[.ref l,.ref b],[]⟩)
   (λ_ R s=>s.heap.get? l=df { cls:=.type "tuple",dict:=dd,data:=.seq items n,slots:=sl }/\s.heap.get? b=df { cls:=.type "tuple",dict:=bZ,data:=.seq ı n2,slots:=cL }/\
     R (.ok<|.ret<|.bool<|Yb ns ms) s) :=
 .of_wp λprog w A R s h=>by
  let⟨hp,g,d,tk,os⟩:=s;let⟨hl,hb,h⟩:=h;have f2:=AutoSeq1.sub_tuple_tuple;have z1:items.size=ns.length:=by rw[<-hi.length];simp
  have z2:ı.size=ms.length:=by rw[<-hj.length];simp
  wp_walk using ĕ hl,ĕ hb,wpAny_forIn_list _ (λrest b s'=>b.1=dg/\s'=⟨hp,g,d,tk,os⟩/\∃(vs ws:List Â) (bN cx:List Int),rest=vs.zip ws/\
    Ě vs bN/\Ě ws cx/\bN.length+ı.size=cx.length+items.size/\R (.ok<|.ret<|.bool<|Yb bN cx) ⟨hp,g,d,tk,os⟩) _
  case turn =>
   rintro⟨y,x⟩ rest b s' ⟨b6,rfl,vs,ws,bN,cx,hz,hvi,hwi,hlen,hR⟩;cases hvi with
   |nil=>rw[ż]at hz;cases hz
   |cons a t hvi' =>
    cases hwi with
    |nil=>rw[Ŷ]at hz;cases hz
    |cons c u hwi' =>
     rw[Ŀ]at hz;injection hz with hyx hrest;injection hyx with hy hx;subst hy hx;rw[Yb]at hR;simp only[Ç]at hlen;let⟨e,he,hiff⟩:=HT.eqAt_int A.in1 ⟨hp,g,d,tk,os⟩ a t c u;refine Ã<|he prog w _ _ ?_;cases e with
     |true =>
      rw[ff<|hiff.mp rfl]at hR
      wp_walk
      exact⟨rfl,rfl,_,_,_,_,hrest,hvi',hwi',by lia,hR⟩
     |false =>
      rw[fg λq=>fk (hiff.mpr q) ø]at hR;have hri:=CG A.in1 ⟨hp,g,d,tk,os⟩ a t c u prog w
      wp_walk using hri
      exact⟨_,rfl,⇑hR⟩
  case fin =>
   rintro⟨b1,b2⟩ s' ⟨b6,rfl,vs,ws,bN,cx,hz,hvi,hwi,hlen,hR⟩;simp only at b6;subst b6;have hv:Yb bN cx=fm (items.size > ı.size):=by
    cases hvi with
    |nil =>
     cases hwi with
     |nil =>simp only[ğ]at hlen;rw[Yb];exact(fh<|by lia).symm
     |cons c u hw =>simp only[ğ,Ç]at hlen;rw[Yb];exact(fh<|by lia).symm
    |cons a t hv =>
     cases hwi with
     |nil =>simp only[ğ,Ç]at hlen;rw[Yb];exact(fi<|by lia).symm
     |cons c u hw =>rw[Ŀ]at hz;cases hz
   rw[hv]at hR
   wp_walk
   exact⟨_,rfl,by simpa[Builtin.Tuple.tupleCompareSizes]using hR⟩
  case h =>exact⟨rfl,rfl,items.toList,ı.toList,ns,ms,rfl,hi,hj,by lia,h⟩
end
def Ow{prog:ë}{w:Ă}{A:Ğ}{E:Â->Å->Prop}{s:Å}{l b:Ì}{items ı:Array Â}{ns ms:List Int}{Q:Â->Å->Prop}(hl:ϣ s.heap l items)(hb:ϣ s.heap b ı)(hi:Ě items.toList ns)(hj:Ě ı.toList ms)
  (hu:A.units<Ĥ) (h:Q (.bool<|Yb ns ms) s):wpAny (â prog w) A (é .Gt (.ref l)<|.ref b) Q E s:=by
 let⟨⟨cls,dd,data,sl⟩,ho,hc,n,hd⟩:=id hl;let⟨⟨cls2,bZ,data2,cL⟩,ho2,hc2,n2,aT⟩:=id hb;simp only at hc hd hc2 aT;subst hc hd hc2 aT;exact cQ (op:=.Gt) ⟨_,ho,rfl⟩ ⟨_,ho2,rfl⟩ PySem.F.slot_tuple_gt PySem.F.entry_tuple_gt (PySem.F.args_tuple_gt_2 _ _) (Ke l b items ı n n2 dd bZ sl cL ns ms hi hj)
  ⟨ho,ho2,show Value.bool (Yb ns ms)≠bz/\Q (.bool<|Yb ns ms) s from ⟨(λx=>nomatch x),h⟩⟩ hu
abbrev rGtT(K:Frag):R2:=λx y H Q=>∃a b ns ms,x=.ref a/\y=.ref b/\eU K H a (ns.map V.int)/\eU K H b (ms.map V.int)/\Q (.bl<|Yb ns ms) H
def op_gtT{X:Cx}(hu:X.A.units<Ĥ):OpR X (é .Gt)<|rGtT X.K:=by intro Á s σ H x y v u Q I rx ry h;let⟨a,b,ns,ms,rfl,rfl,ha,hb,q⟩:=h;cases rx;cases ry;let⟨ð,r1,p1,_⟩:=I.tuple ha;let⟨ϱ,r2,p2,_⟩:=I.tuple hb;have i1:Ě ð.toArray.toList ns:=ZJ r1;have i2:Ě ϱ.toArray.toList ms:=ZJ r2;exact Ow p1 p2 i1 i2 hu ⟨.bl<|Yb ns ms,H,I,rfl,q⟩
def lexGt_lt:∀(ns ms:List Int),Yb ns ms=HT.lexLt ms ns
 |[],[]=>rfl
 |[],_::_=>rfl
 |_::_,[]=>rfl
 |x::xs,y::ys=>by
  rw[Yb,HT.lexLt_cons,lexGt_lt xs ys];by_cases e:x=y
  .rw[ff e,ff e.symm]
  .rw[fg e,fg λz=>e z.symm]
end HT2
namespace Snd
open PySem L2
mutual
noncomputable def toD:O.D->ϔ
 |.non=>.none
 |.bl b=>.bool b
 |.int i=>.int i
 |.str s=>.str<|fo s
 |.tup ds=>.tuple<|toDs ds
 |.lst ds=>.list<|toDs ds
noncomputable def toDs:List O.D->List ϔ
 |[]=>[]
 |d::ds=>toD d::toDs ds
end
def ofS_inj{s t:String}:fo s=fo t↔s=t:=by
 constructor
 .intro h;rw[Str.ofString_eq_toList,Str.ofString_eq_toList]at h;injection h with h;have h2:s.toList.map ō=t.toList.map ō:=by simpa using congrArg aX h
  have inj:∀{a b:Char},a.toNat=b.toNat->a=b:=λ{a b} e=>Char.ext<|aO e;have:s.toList=t.toList:=by
   revert h2;generalize s.toList=a;generalize t.toList=b;intro h2;induction a generalizing b with
   |nil=>cases b with
    |nil=>rfl
    |cons _ _=>cases h2
   |cons x xs ih=>cases b with
    |nil=>cases h2
    |cons y ys =>simp only[Í,List.cons.injEq]at h2;rw[inj h2.1,ih _ h2.2]
  exact String.toList_inj.mp this
 .rintro rfl;rfl
def F6(s t:String):(fo s==fo t)=(s==t):=by
 by_cases e:s=t
 .subst e;simp
 .have:fo s≠fo t:=λz=>e<|ofS_inj.mp z;rw[beq_eq_false_iff_ne.mpr this,beq_eq_false_iff_ne.mpr e]
def Be(s:String):PyData.strOk (fo s)=dh:=by
 rw[Str.ofString_eq_toList];unfold PyData.strOk;rw[Array.all_eq_true'];intro n hn;have:n∈s.toList.map ō:=⇑hn
 let⟨c,_,rfl⟩:=Þ.mp this;have:=c.valid;have h2:c.toNat=c.val.toNat:=rfl;simp only[UInt32.isValidChar,Nat.isValidChar]at this;simp only[fj];lia
mutual
theorem Mp:∀d e:O.D,ġ (toD d) (toD e)=O.D.eqv d e
 |.non,e=>by cases e<;>simp[toD,ġ,O.D.eqv]
 |.bl _,e=>by cases e<;>simp[toD,ġ,O.D.eqv]
 |.int _,e=>by cases e<;>simp[toD,ġ,O.D.eqv]
 |.str s,e=>by cases e<;>simp only[toD,ġ,O.D.eqv];exact F6 _ _
 |.tup ds,e=>by cases e<;>simp only[toD,ġ,O.D.eqv];exact toDs_eqv _ _
 |.lst ds,e=>by cases e<;>simp only[toD,ġ,O.D.eqv];exact toDs_eqv _ _
theorem toDs_eqv:∀ds es:List O.D,Ż (toDs ds) (toDs es)=O.D.eqvs ds es
 |[],[]=>by simp[toDs,Ż,O.D.eqvs]
 |[],_::_=>by simp[toDs,Ż,O.D.eqvs]
 |_::_,[]=>by simp[toDs,Ż,O.D.eqvs]
 |d::ds,e::es=>by simp only[toDs,Ż,O.D.eqvs,Mp d e,toDs_eqv ds es]
end
mutual
theorem K6:∀d:O.D,(toD d).canLay0=dh
 |.non=>by simp[toD,ř]
 |.bl _=>by simp[toD,ř]
 |.int _=>by simp[toD,ř]
 |.str s=>by simp only[toD,ř];exact Be s
 |.tup ds=>by simp only[toD,ř];exact toDs_lay ds
 |.lst ds=>by simp only[toD,ř];exact toDs_lay ds
theorem toDs_lay:∀ds:List O.D,Ł (toDs ds)=dh
 |[]=>by simp[toDs,Ł]
 |d::ds=>by simp only[toDs,Ł,K6 d,toDs_lay ds,Bool.and_self]
end
section
variable {i:Inf}{G:O.Hs}{H:Hp}
def A2{α β:Type}{f:α->Option β}:∀{xs:List α}{ys:List β},xs.mapM f=df ys->List.length xs=ys.length/\∀(n:Nat) (x:α),xs[n]?=df x->∃y,ys[n]?=df y/\f x=df y:=by
 intro xs;induction xs with
 |nil=>intro ys h;simp at h;subst h;exact⟨rfl,λn x e=>by simp at e⟩
 |cons a as ih =>
  intro ys h;rw[Ľ]at h;cases e:f a with
  |none=>rw[e]at h;simp at h
  |some b =>
   rw[e]at h;cases e2:as.mapM f with
   |none=>rw[e2]at h;simp at h
   |some bs =>
    rw[e2]at h;simp at h;subst h;let⟨h1,h2⟩:=ih e2;refine⟨by simp[h1],λn x hn=>?_⟩;cases n with
    |zero=>simp at hn;subst hn;exact⟨b,rfl,e⟩
    |succ n=>simp at hn ⊢;exact h2 n x hn
def Uj{K:Frag}{f:O.Val->Option O.D}(hf:∀v d x,f v=df d->RV K H v x->IsD K H x (toD d)):∀{vs:List O.Val}{xs:List V}{ds:List O.D},vs.mapM f=df ds->RVs K H vs xs->IsDs K H xs (toDs ds):=by
 intro vs;induction vs with
 |nil=>intro xs ds h r;simp at h;subst h;cases r;exact .nil
 |cons a as ih =>
  intro xs ds h r;rw[Ľ]at h;cases e:f a with
  |none=>rw[e]at h;simp at h
  |some b =>
   rw[e]at h;cases e2:as.mapM f with
   |none=>rw[e2]at h;simp at h
   |some bs =>
    rw[e2]at h;simp at h;subst h;cases r with
    |cons r1 r2=>exact .cons (hf a b _ e r1)<|ih e2 r2
def ZI(g:RH i G H){a:Ì}{xs:List O.Val}(e:O.dF (G a)=df xs):∃vs,eS i.K H a vs/\RVs i.K H xs vs:=by
 cases q:G a with
 |none=>rw[q]at e;cases e
 |some o =>
  rw[q]at e;cases o with
  |lst ys=>cases e;let⟨vs,h,r⟩:=g a _ q;exact⟨vs,eS.of h,r⟩
  |dct _=>cases e
  |ins _ _=>cases e
  |exc _=>cases e
  |frz _=>cases e
  |dtp _=>cases e
def KI:∀ns:List Int,toDs (ns.map O.D.int)=ns.map PyData.int
 |[]=>by simp[toDs]
 |n::ns=>by simp only[Í,toDs,toD,KI ns]
def X7(g:RH i G H):∀(n:Nat) (v:O.Val) (d:O.D) (x:V),O.dat G n v=df d->RV i.K H v x->IsD i.K H x (toD d):=by
 intro n;induction n with
 |zero =>
  intro v d x e r;cases v with
  |non=>cases r;simp[O.dat]at e;subst e;rw[toD];exact .non
  |bl b=>cases r;simp[O.dat]at e;subst e;rw[toD];exact .bl b
  |int b=>cases r;simp[O.dat]at e;subst e;rw[toD];exact .int b
  |str s=>cases r;simp[O.dat]at e;subst e;rw[toD];exact .str _
  |tup xs=>simp[O.dat]at e
  |ref a=>simp[O.dat]at e
  |scr ns=>simp[O.dat]at e
  |key _ _=>simp[O.dat]at e
 |succ n ih =>
  intro v d x e r;cases v with
  |non=>cases r;simp[O.dat]at e;subst e;rw[toD];exact .non
  |bl b=>cases r;simp[O.dat]at e;subst e;rw[toD];exact .bl b
  |int b=>cases r;simp[O.dat]at e;subst e;rw[toD];exact .int b
  |str s=>cases r;simp[O.dat]at e;subst e;rw[toD];exact .str _
  |tup xs =>
   rw[O.dat]at e;cases z:xs.mapM (O.dat G n)with
   |none=>rw[z]at e;cases e
   |some ds =>
    rw[z]at e;cases e;cases r with
    |tup hp hr=>rw[toD];exact .tup (Zl hp)<|Uj ih z hr
  |ref a =>
   rw[O.dat]at e;cases q:O.dF (G a)with
   |none=>rw[q]at e;cases e
   |some xs =>
    rw[q]at e;simp only[í]at e;cases z:xs.mapM (O.dat G n)with
    |none=>rw[z]at e;cases e
    |some ds =>rw[z]at e;cases e;cases r.ref_inv;let⟨vs,h1,h2⟩:=ZI g q;rw[toD];exact .lst h1<|Uj ih z h2
  |scr ns =>
   simp[O.dat]at e;subst e;cases r with
   |scr h =>rw[toD,KI];exact .lst (Z2 h)<|IsDs.ints ns
  |key _ _=>simp[O.dat]at e
def XM{n:Nat}:∀{ds:List O.D},(∀d∈ds,(toD d).depth<=n)->Į (toDs ds)<=n
 |[],_=>by rw[toDs];simp[Į]
 |d::ds,h=>by rw[toDs];simp only[Į];exact Nat.max_le.mpr ⟨h d (by simp),XM λe he=>h e<|by simp[he]⟩
def KD:∀(n:Nat) (v:O.Val) (d:O.D),O.dat G n v=df d->(toD d).depth<=n:=by
 have sc:∀(n:Nat) (v:O.Val) (d:O.D),(∀xs,v≠.tup xs)->(∀a,v≠.ref a)->(∀ns,v≠.scr ns)->O.dat G n v=df d->(toD d).depth<=n:=by
  intro n v d h1 h2 h3 e;cases v with
  |tup xs=>exact fk rfl<|h1 xs
  |ref a=>exact fk rfl<|h2 a
  |scr ns=>exact fk rfl<|h3 ns
  |key _ _=>cases n<;>simp[O.dat]at e
  |_=>simp[O.dat]at e;subst e;simp[toD,PyData.depth]
 have ms:∀(n:Nat),(∀v d,O.dat G n v=df d->(toD d).depth<=n)->∀(xs:List O.Val) (ds:List O.D),xs.mapM (O.dat G n)=df ds->Į (toDs ds)<=n:=by
  intro n ih xs ds z;refine XM λd hd=>?_;let⟨k,hk⟩:=bF.mp hd;let⟨h1,h2⟩:=A2 z;have Τ:k<xs.length:=by rw[h1];exact(Î.mp hk).1
  let⟨y,hy,hf⟩:=h2 k xs[k]<|Ê Τ;rw[hk]at hy;cases hy;exact ih _ _ hf
 intro n;induction n with
 |zero =>
  intro v d e;cases v with
  |tup xs=>simp[O.dat]at e
  |ref a=>simp[O.dat]at e
  |scr ns=>simp[O.dat]at e
  |_=>exact sc 0 _ d (by simp) (by simp) (by simp) e
 |succ n ih =>
  intro v d e;cases v with
  |tup xs =>
   rw[O.dat]at e;cases z:xs.mapM (O.dat G n)with
   |none=>rw[z]at e;cases e
   |some ds =>rw[z]at e;cases e;rw[toD];exact ő<|ms n ih xs ds z
  |ref a =>
   rw[O.dat]at e;cases q:O.dF (G a)with
   |none=>rw[q]at e;cases e
   |some xs =>
    rw[q]at e;simp only[í]at e;cases z:xs.mapM (O.dat G n)with
    |none=>rw[z]at e;cases e
    |some ds =>rw[z]at e;cases e;rw[toD];exact ő<|ms n ih xs ds z
  |scr ns =>simp[O.dat]at e;subst e;rw[toD];refine ő<|Ô ?_<|ŏ n;refine XM λd hd=>?_;let⟨m,_,rfl⟩:=Þ.mp hd;simp[toD,PyData.depth]
  |_=>exact sc (n+1) _ d (by simp) (by simp) (by simp) e
def Jp{v:O.Val}{d:O.D}(e:O.dat G O.deep v=df d):SeqAt.shaped (toD d)=dh:=by show((toD d).canLay0&&fm ((toD d).depth<=64))=dh;rw[K6,fi<|Ô (KD _ _ _ e)<|by decide];rfl
def Up(g:RH i G H){v u:O.Val}{x y:V}{c:Bool}(rx:RV i.K H v x)(ry:RV i.K H u y)(e:O.eqV G v u=df c):∃d d',IsD i.K H x d/\IsD i.K H y d'/\SeqAt.shaped d=dh/\SeqAt.shaped d'=dh/\ġ d d'=c:=by
 unfold O.eqV at e;cases z:O.dat G O.deep v with
 |none=>rw[z]at e;cases e
 |some d =>
  cases z2:O.dat G O.deep u with
  |none=>rw[z,z2]at e;cases e
  |some d' =>rw[z,z2]at e;cases e;exact⟨_,_,X7 g _ _ _ _ z rx,X7 g _ _ _ _ z2 ry,Jp z,Jp z2,Mp d d'⟩
def Se:Z0 i .eq<|Qq i.K:=by intro v u G H x y c Q g rx ry e q;let⟨d,d',h1,h2,h3,h4,h5⟩:=Up g rx ry e;exact⟨d,d',h1,h2,h3,h4,by rw[h5];exact q⟩
def RM:Z0 i .ne<|PB i.K:=by
 intro v u G H x y c Q g rx ry e q;have e:(O.eqV G v u).map (!·)=df c:=e;cases z:O.eqV G v u with
 |none=>rw[z]at e;cases e
 |some b =>rw[z]at e;cases e;let⟨d,d',h1,h2,h3,h4,h5⟩:=Up g rx ry z;exact⟨d,d',h1,h2,h3,h4,by rw[h5];exact q⟩
end
variable {i:Inf}{X:Cx}{Φ:O.Fs}
def Zv(s:String):(fo s).length=s.length:=by rw[Str.ofString_eq_toList];show(List.map ō s.toList).toArray.size=_;rw[É,À];first|rfl|exact bg
def K8(s t:String):fo (s++t)=fo s++fo t:=by rw[Str.ofString_eq_toList,Str.ofString_eq_toList,Str.ofString_eq_toList];show _=Str.append _ _;unfold Str.append;simp
variable {xs:List O.Val}
def AN{o:Option O.Ob}(h:O.dF o=df xs):o=df (.lst xs):=by
 cases o with
 |none=>cases h
 |some o=>cases o with
  |lst ys=>cases h;rfl
  |_=>cases h
variable {p:Prop}
def Zn{α:Type}[Decidable p]{o:Option α}{a:α}(e:(if p then o else dg)=df a):p/\o=df a:=by
 by_cases q:p
 .rw[ff q]at e;exact⟨q,e⟩
 .rw[fg q]at e;cases e
variable {h:O.Hs} {Q:O.Q1}
def Zh(w:O.Rs.no.wp h Q):False:=by rw[O.Rs.wp_no]at w;exact w
def Zg{v:O.Val}(w:(O.Rs.val v).wp h Q):Q v h:=by rw[O.Rs.wp_val]at w;exact w
def N8{o:O.Ob}(w:(O.Rs.new o).wp h Q):O.new h o Q:=by rw[O.Rs.wp_new]at w;exact w
def XY[Decidable p]{r:O.Rs}(w:(if p then r else .no).wp h Q):p/\r.wp h Q:=by
 by_cases e:p
 .rw[ff e]at w;exact⟨e,w⟩
 .rw[fg e]at w;exact(Zh w).elim
variable {u:O.Val}
def Xs{f:Int->Int->O.Rs}{v:O.Val}(w:(O.intV f v u).wp h Q):∃i j,v=.int i/\u=.int j/\(f i j).wp h Q:=by
 cases v with
 |int i=>cases u with
  |int j=>exact⟨i,j,rfl,rfl,w⟩
  |_=>exact(Zh w).elim
 |_=>exact(Zh w).elim
abbrev Ha(K:Frag):R2:=λx y H Q=>(rI0 λi j=>.int<|i+j) x y H Q\/(((GL K x y H Q\/Hi K x y H Q)\/PX x y H Q)\/∃i j,x=.str i/\y=.str j/\i.length+j.length<=Ü/\Q (.str<|i++j) H)
def Qn:OpR X (Ķ .Add)<|Ha X.K:=op_add.or (((op_cat0.or FB).or Ik).or OX)
def b_add:J3 i .add<|Ha i.K:=by
 intro v u G H x y Q Qm g rx ry w c;cases v<;>cases u<;>first|exact(Zh w).elim|skip
 case int.int a b =>
  replace w:=Zg w
  exact .inl ⟨a,b,rx.int_inv,ry.int_inv,c _ G H _ (dO.refl H) g (.int _) w⟩
 case str.str a b =>
  let⟨h,w⟩:=XY w
  replace w:=Zg w
  refine .inr<|.inr ⟨_,_,rx.str_inv,ry.str_inv,?_,?_⟩
  .rw[Zv,Zv];exact Ô h ZT
  .rw[<-K8];exact c _ G H _ (dO.refl H) g (.str _) w
 case tup.tup xs ys =>
  let⟨h,w⟩:=XY w
  replace w:=Zg w
  .skip
   cases rx with
   |@tup _ p vs hp hr =>
   cases ry with
   |@tup _ q us hq hs =>
   by_cases h0:vs=[]
   .subst h0;have:xs=[]:=ϭ hr.length;subst this;exact .inr<|.inl<|.inl<|.inl ⟨p,q,us,rfl,rfl,Zl hp,Zl hq,c _ G H _ (dO.refl H) g (.tup hq hs) w⟩
   refine .inr<|.inl<|.inl<|.inr ⟨p,q,vs,us,rfl,rfl,Zl hp,Zl hq,h0,?_,λz=>?_,λz a ha=>?_⟩
   .rw[<-hr.length,<-hs.length];exact Ô h ZT
   .have:ys=[]:=ϭ (by rw[hs.length,z];rfl);subst this;rw[þ]at w;exact c _ G H _ (dO.refl H) g (.tup hp hr) w
   .have k:=dO.new (o:=.tup<|vs++us) ha;refine c _ G _ _ k (g.hid k λb o e=>dj ?_) (.tup (.inl dk)<|(hr.keep k).append<|hs.keep k) w;rintro rfl;rw[g.free ha]at e;cases e
 case ref.ref a b =>
  dsimp only[O.binV,O.addV]at w;split at w
  .rename_i xs ys e1 e2;unfold O.Rs.lst at w;split at w
   .rename_i hl;rw[O.Rs.wp_new]at w;cases rx.ref_inv;cases ry.ref_inv;let⟨vs,h1,r1⟩:=g a _ e1;let⟨us,h2,r2⟩:=g b _ e2;refine .inr (.inl<|.inr ⟨a,b,vs,us,rfl,rfl,h1,h2,?_,Yn g w c λp hp=>?_⟩)
    .rw[<-r1.length,<-r2.length,<-ã];exact Ô hl ZT
    .have k:=dO.new (o:=.lst<|vs++us) hp;exact⟨_,dk,(r1.keep k).append<|r2.keep k⟩
   .exact(Zh w).elim
  .exact(Zh w).elim
def b_sub:J3 i .sub<|rI0 λi j=>.int<|i - j:=by intro v u G H x y Q Qm g rx ry w c;let⟨a,b,rfl,rfl,w⟩:=Xs w;exact⟨a,b,rx.int_inv,ry.int_inv,c _ G H _ (dO.refl H) g (.int _)<|Zg w⟩
def RVs.rep{K:Frag}{H:Hp}{vs:List O.Val}{xs:List V}(r:RVs K H vs xs):∀n,RVs K H (Õ n vs).flatten (Õ n xs).flatten
 |0=>.nil
 |n+1=>by rw[ą,ą,ĳ,ĳ];exact r.append<|RVs.rep r n
set_option exponentiation.threshold 2000 in
def Li{i j:Int}(h:O.mulOk i j):IntMulOk i j:=by
 rcases h with(h|h)|⟨h1,h2⟩
 .exact .of_left (intBits_le_64 (by lia)<|by lia)
 .exact .of_right (intBits_le_64 (by lia)<|by lia)
 .have e:(10:Nat) ^ 200<2 ^ 1000:=by decide
  exact .of_bits (Ô (PyProof.Rows.intBits_le<|Ò h1 e)<|by decide) (Ô (PyProof.Rows.intBits_le<|Ò h2 e)<|by decide)
def EJ(s:String)(n:Nat):Ht (fo s) n=fo (O.repT s n):=by unfold Ht O.repT;rw[Str.ofString_eq_toList,Str.ofString_eq_toList,bh];congr 1;apply cX.mp;rw[KW];simp[List.map_flatten,List.map_replicate]
abbrev GU:R2:=λx y H Q=>rI O.mulOk (λi j=>.int<|i*j) x y H Q\/(QJ x y H Q\/Hb x y H Q)
def Qb:OpR X (Ķ .Mult) GU:=OpR.or (opI λ_ _ _ _ _ _ _ hc q=>PyProof.Rows.mul_int q<|Li hc) (op_rep.or Fz)
def b_mul:J3 i .mul GU:=by
 intro v u G H x y Q Qm g rx ry w c;cases v<;>cases u<;>first|exact(Zh w).elim|skip
 case int.int a b =>let⟨h,w⟩:=XY w;exact .inl ⟨a,b,rx.int_inv,ry.int_inv,h,c _ G H _ (dO.refl H) g (.int _)<|Zg w⟩
 case ref.int a k =>
  dsimp only[O.binV,O.mulV]at w;split at w
  .rename_i xs e1;split at w
   .rename_i hk;unfold O.Rs.lst at w;split at w
    .rw[O.Rs.wp_new]at w;cases rx.ref_inv;cases ry.int_inv;let⟨vs,h1,r1⟩:=g a _ e1;refine .inr (.inl ⟨a,k,vs,rfl,rfl,h1,by lia,by lia,?_,Yn g w c λp hp=>?_⟩)
     .rw[<-r1.length];exact Ô hk.2.2 ZT
     .have kk:=dO.new (o:=.lst (Õ k.toNat vs).flatten) hp;exact⟨_,dk,(r1.keep kk).rep _⟩
    .exact(Zh w).elim
   .exact(Zh w).elim
  .exact(Zh w).elim
 case str.int a k =>
  let⟨hk,w⟩:=XY w
  replace w:=Zg w
  refine .inr (.inr ⟨_,k,rx.str_inv,ry.int_inv,hk.1,hk.2.1,by rw[Zv];exact hk.2.2.1,by rw[Zv];exact hk.2.2.2,?_⟩);rw[EJ];exact c _ G H _ (dO.refl H) g (.str _) w
def b_fdiv:J3 i .fdiv<|rI QE λi j=>.int<|i / j:=by intro v u G H x y Q Qm g rx ry w c;let⟨a,b,rfl,rfl,w⟩:=Xs w;let⟨h,w⟩:=XY w;exact⟨a,b,rx.int_inv,ry.int_inv,h,c _ G H _ (dO.refl H) g (.int _)<|Zg w⟩
def b_mod:J3 i .mod<|rI (λ_ j=>0<j) λi j=>.int<|i % j:=by intro v u G H x y Q Qm g rx ry w c;let⟨a,b,rfl,rfl,w⟩:=Xs w;let⟨h,w⟩:=XY w;exact⟨a,b,rx.int_inv,ry.int_inv,h,c _ G H _ (dO.refl H) g (.int _)<|Zg w⟩
def b_pow:J3 i .pow<|rI P8 λi j=>.int<|i ^ j.toNat:=by intro v u G H x y Q Qm g rx ry w c;let⟨a,b,rfl,rfl,w⟩:=Xs w;let⟨h,w⟩:=XY w;exact⟨a,b,rx.int_inv,ry.int_inv,h,c _ G H _ (dO.refl H) g (.int _)<|Zg w⟩
def ZL{K:Frag}{H:Hp}:∀{xs:List O.Val}{ns:List Int}{vs:List V},O.dz xs=df ns->RVs K H xs vs->vs=ns.map V.int
 |[],_,_,e,r=>by cases r;cases e;rfl
 |v::xs,_,_,e,r=>by
  cases r with
  |cons r t=>cases v with
   |int k =>
    have e:(O.dz xs).map (k :: ·)=df _:=e;cases z:O.dz xs with
    |none=>rw[z]at e;cases e
    |some ns=>rw[z]at e;cases e;cases r;rw[ZL z t];rfl
   |_=>cases e
def Mj:∀(ns ms:List Int),O.d6 ns ms=HT.lexLt ns ms
 |[],[]=>rfl
 |[],_::_=>rfl
 |_::_,[]=>rfl
 |x::xs,y::ys=>by rw[O.d6,HT.lexLt_cons,Mj xs ys]
abbrev PD(K:Frag):R2:=λx y H Q=>rI0 (λi j=>.bl<|fm (i<j)) x y H Q\/QL K x y H Q
def Sa(hu:X.A.units<Ĥ):OpR X (é .Lt)<|PD X.K:=op_lt.or (Hv hu)
abbrev PM(K:Frag):R2:=λx y H Q=>rI0 (λi j=>.bl<|fm (j<i)) x y H Q\/HT2.rGtT K x y H Q
def RT(hu:X.A.units<Ĥ):OpR X (é .Gt)<|PM X.K:=op_gt.or (HT2.op_gtT hu)
variable {H:Hp} {x:V} {c:Bool}
def Hj{K:Frag}{ys:List O.Val}{y:V}(rx:RV K H (.tup xs) x)(ry:RV K H (.tup ys) y)(e:O.d7 (.tup xs) (.tup ys)=df c):∃a b ns ms,x=.ref a/\y=.ref b/\eU K H a (ns.map V.int)/\eU K H b (ms.map V.int)/\HT.lexLt ns ms=c:=by
 simp only[O.d7]at e;cases z1:O.dz xs with
 |none=>rw[z1]at e;cases e
 |some ns =>
  cases z2:O.dz ys with
  |none=>rw[z1,z2]at e;cases e
  |some ms =>
   rw[z1,z2]at e;cases e;cases rx with
   |@tup _ p vs hp hr =>
   cases ry with
   |@tup _ q us hq hs =>
   have h1:=ZL z1 hr;have h2:=ZL z2 hs;subst h1 h2;exact⟨p,q,ns,ms,rfl,rfl,Zl hp,Zl hq,(Mj _ _).symm⟩
def c_lt:Z0 i .lt<|PD i.K:=by
 intro v u G H x y c Q g rx ry e q
 replace e:O.d7 v u=df c:=e
 cases v<;>cases u<;>first|(cases e;done)|skip
 case int.int a b=>cases e;exact .inl ⟨a,b,rx.int_inv,ry.int_inv,q⟩
 case tup.tup xs ys =>let⟨a,b,ns,ms,h1,h2,h3,h4,h5⟩:=Hj rx ry e;exact .inr ⟨a,b,ns,ms,h1,h2,h3,h4,by rw[h5];exact q⟩
def c_gt:Z0 i .gt<|PM i.K:=by
 intro v u G H x y c Q g rx ry e q
 replace e:O.d7 u v=df c:=e
 cases v<;>cases u<;>first|(cases e;done)|skip
 case int.int a b=>cases e;exact .inl ⟨a,b,rx.int_inv,ry.int_inv,q⟩
 case tup.tup xs ys =>let⟨a,b,ns,ms,h1,h2,h3,h4,h5⟩:=Hj ry rx e;exact .inr ⟨b,a,ms,ns,h2,h1,h4,h3,by rw[HT2.lexGt_lt,h5];exact q⟩
def GH{v:O.Val}(e:O.leV v u=df c):∃i j,v=.int i/\u=.int j/\fm (i<=j)=c:=by
 cases v with
 |int i=>cases u with
  |int j=>cases e;exact⟨i,j,rfl,rfl,rfl⟩
  |_=>cases e
 |_=>cases e
def c_le:Z0 i .le<|rI0 λi j=>.bl<|fm (i<=j):=by intro v u G H x y c Q g rx ry e q;let⟨a,b,rfl,rfl,rfl⟩:=GH e;exact⟨a,b,rx.int_inv,ry.int_inv,q⟩
def c_ge:Z0 i .ge<|rI0 λi j=>.bl<|fm (j<=i):=by intro v u G H x y c Q g rx ry e q;let⟨a,b,rfl,rfl,rfl⟩:=GH e;exact⟨b,a,rx.int_inv,ry.int_inv,q⟩
def RV.isN{K:Frag}{v:O.Val}(r:RV K H v x):fm (x=.non)=fm (v=.non):=by cases r<;>simp
variable {a:Expr} {ma:O.E} {ç:Pos} {p2:Pos} {j:Nat}
def Re(ha:PE X a<|tE X i Φ ma):PE X (.Compare a [.Is] [.Constant .none j p2] ç) (tE X i Φ<|.cmp .is ma<|.cst .non) :=
 (CC (B4 ha) rfl).imp λσ H Q ⟨env,G,Qm,Em,p,w,c⟩=>by refine one p w λv G1 H1 x k1 p1 r q=>?_;let⟨d,e,q2⟩:=dq q;have e:df (fm (v=.non))=df d:=e;cases e;rw[r.isN];exact c _ G1 H1 _ k1 p1.hp (.bl _) q2
def Ly(ha:PE X a<|tE X i Φ ma):PE X (.Compare a [.IsNot] [.Constant .none j p2] ç) (tE X i Φ<|.cmp .isnot ma<|.cst .non) :=
 (CC (O5 ha) rfl).imp λσ H Q ⟨env,G,Qm,Em,p,w,c⟩=>by refine one p w λv G1 H1 x k1 p1 r q=>?_;let⟨d,e,q2⟩:=dq q;have e:df (!fm (v=.non))=df d:=e;cases e;rw[r.isN];exact c _ G1 H1 _ k1 p1.hp (.bl _) q2
def IZ(ha:PE X a<|tE X i Φ ma):PT X (.Compare a [.Is] [.Constant .none j p2] ç) (tTt X i Φ<|.val<|.cmp .is ma<|.cst .non) :=
 (DU (B4 ha) rfl).imp λσ H Q ⟨env,G,Qm,Em,p,w,c⟩=>by refine one p w λv G1 H1 x k1 p1 r q=>?_;let⟨d,e,q2⟩:=dq q;let⟨d',e',q3⟩:=dq q2;cases e';have e:df (fm (v=.non))=df d:=e;cases e;rw[r.isN];exact⟨_,rfl,c _ G1 H1 k1 p1.hp q3⟩
def E0(ha:PE X a<|tE X i Φ ma):PT X (.Compare a [.IsNot] [.Constant .none j p2] ç) (tTt X i Φ<|.val<|.cmp .isnot ma<|.cst .non) :=
 (DU (O5 ha) rfl).imp λσ H Q ⟨env,G,Qm,Em,p,w,c⟩=>by refine one p w λv G1 H1 x k1 p1 r q=>?_;let⟨d,e,q2⟩:=dq q;let⟨d',e',q3⟩:=dq q2;cases e';have e:df (!fm (v=.non))=df d:=e;cases e;rw[r.isN];exact⟨_,rfl,c _ G1 H1 k1 p1.hp q3⟩
end Snd
namespace Snd
open PySem L2 PySem.Spec PyProof.Rows
variable {i:Inf}{X:Cx}{Φ:O.Fs}
def RKs.length{K:Frag}{H:Hp}:∀{kvs:List (O.Val×O.Val)}{ps:List (Key×V)},RKs K H kvs ps->kvs.length=ps.length
 |_,_,.nil=>rfl
 |_,_,.cons _ _ t=>by rw[Ç,Ç,RKs.length t]
def W0{k j:O.Val}{c d:Key}(a:WK k c)(b:WK j d):(k==j)=fm (c=d):=by
 have key:k=j↔c=d:=by
  cases k<;>cases c<;>first|(cases a;done)|skip
  .cases j<;>cases d<;>first|(cases b;done)|skip
   .cases a;cases b;simp
   .cases a;cases b;simp
  .cases j<;>cases d<;>first|(cases b;done)|skip
   .cases a;cases b;simp
   .cases a;cases b;simp[ofS_inj]
 by_cases e:k=j
 .rw[fi<|key.mp e,e];simp
 .rw[fh λz=>e<|key.mpr z];simpa using e
def dI{k:O.Val}{x:V}{K:Frag}{H:Hp}(h:O.dM k=dh)(r:RV K H k x):∃c,WK k c/\x=kV c:=by
 cases k with
 |int n=>cases r.int_inv;exact⟨.inl n,rfl,rfl⟩
 |str s=>cases r.str_inv;exact⟨.inr<|fo s,rfl,rfl⟩
 |_=>cases h
def RKs.look{K:Frag}{H:Hp}{k:O.Val}{c:Key}(a:WK k c):∀{kvs:List (O.Val×O.Val)}{ps:List (Key×V)},RKs K H kvs ps->
  (∀v,O.dP kvs k=df v->∃x,Yt ps c=df x/\RV K H v x)/\(O.dP kvs k=dg->Yt ps c=dg)
 |_,_,.nil=>⟨λv e=>(by cases e),λ_=>rfl⟩
 |_,_,.cons (k:=j) (v:=u) (c:=d) (x:=y) (kvs:=kvs) (ps:=ps) b r t=>by
  have ih:=RKs.look a t;have q:=W0 b a;by_cases e:d=c
  .rw[fi e]at q;have e1:O.dP ((j,u)::kvs) k=df u:=by simp[O.dP,đ,q]
   rw[e1,YY e];exact⟨λv z=>(by cases z;exact⟨y,rfl,r⟩),λz=>(by cases z)⟩
  .rw[fh e]at q;have e1:O.dP ((j,u)::kvs) k=O.dP kvs k:=by simp[O.dP,đ,q]
   rw[e1,YX e];exact ih
def RKs.has{K:Frag}{H:Hp}{k:O.Val}{c:Key}(a:WK k c):∀{kvs:List (O.Val×O.Val)}{ps:List (Key×V)},RKs K H kvs ps->O.dQ kvs k=ps.any λkv=>fm (kv.1=c)
 |_,_,.nil=>rfl
 |_,_,.cons b r t=>by have ih:=RKs.has a t;unfold O.dQ at ih ⊢;rw[Ħ,Ħ,ih,W0 b a]
def RKs.app{K:Frag}{H:Hp}{k v:O.Val}{c:Key}{x:V}(a:WK k c)(q:RV K H v x):∀{kvs:List (O.Val×O.Val)}{ps:List (Key×V)},RKs K H kvs ps->RKs K H (kvs++[(k,v)]) (ps++[(c,x)])
 |_,_,.nil=>.cons a q .nil
 |_,_,.cons b r t=>.cons b r<|RKs.app a q t
def RKs.repl{K:Frag}{H:Hp}{k v:O.Val}{c:Key}{x:V}(a:WK k c)(q:RV K H v x):∀{kvs:List (O.Val×O.Val)}{ps:List (Key×V)},RKs K H kvs ps->
  RKs K H (kvs.map λp=>if p.1==k then(k,v)else p) (ps.map λkv=>if kv.1=c then(kv.1,x)else kv)
 |_,_,.nil=>.nil
 |_,_,.cons (k:=j) (v:=u) (c:=d) (x:=y) b r t=>by
  have ih:=RKs.repl a q t;have z:=W0 b a;rw[Í,Í];by_cases e:d=c
  .rw[fi e]at z;rw[ff z,ff e];exact .cons (e▸a) q ih
  .rw[fh e]at z;rw[fg (by rw[z];decide),fg e];exact .cons b r ih
def RKs.put{K:Frag}{H:Hp}{k v:O.Val}{c:Key}{x:V}(a:WK k c)(q:RV K H v x){kvs:List (O.Val×O.Val)}{ps:List (Key×V)}(r:RKs K H kvs ps):RKs K H (O.dR kvs k v)<|L2.dR ps c x:=by
 unfold O.dR L2.dR;rw[r.has a];by_cases e:(ps.any λkv=>fm (kv.1=c))=dh
 .rw[ff e,ff e];exact r.repl a q
 .rw[fg e,fg e];exact r.app a q
def RKs.drop{K:Frag}{H:Hp}{k:O.Val}{c:Key}(a:WK k c):∀{kvs:List (O.Val×O.Val)}{ps:List (Key×V)},RKs K H kvs ps->RKs K H (O.dU kvs k) (L2.dU ps c)
 |_,_,.nil=>.nil
 |_,_,.cons (k:=j) (v:=u) (c:=d) (x:=y) b r t=>by
  have ih:=RKs.drop a t;have z:=W0 b a;unfold O.dU L2.dU at ih ⊢;rw[ú,ú];by_cases e:d=c
  .rw[fi e]at z;rw[fg (by rw[z];decide),fg<|by simpa using e];exact ih
  .rw[fh e]at z;rw[ff (by rw[z];rfl),ff<|by simpa using e];exact .cons b r ih
variable {G:O.Hs} {H:Hp} {a:Ì} {kvs':List (O.Val×O.Val)}
def MO{kvs:List (O.Val×O.Val)}{ps bS:List (Key×V)}(g:RH i G H)(h:H a=df (.dK ps))(r:RKs i.K H kvs' bS):dO H (upd H a<|.dK bS)/\RH i (O.upd G a<|.dct kvs') (upd H a<|.dK bS):=by
 have k:dO H<|upd H a<|.dK bS:=dO.put (λxs e=>by rw[h]at e;cases e) λp u e=>by rw[h]at e;cases e
 exact⟨k,g.put k ⟨bS,dk,r.keep k⟩⟩
def RTs.length{K:Frag}{H:Hp}:∀{kvs:List (O.Val×O.Val)}{ps:List (List Key×V)},RTs K H kvs ps->kvs.length=ps.length
 |_,_,.nil=>rfl
 |_,_,.cons _ t=>by rw[Ç,Ç,RTs.length t]
def MA(a b i j:Int):(O.Val.key a b == .key i j)=fm (([.inl a,.inl b]:List Key)=[.inl i,.inl j]):=by
 by_cases e:a=i/\b=j
 .obtain⟨rfl,rfl⟩:=e;rw[fi rfl];simp
 .rw[fh λz=>e<|by simpa using z];exact beq_eq_false_iff_ne.mpr λz=>e ⇑z
def RTs.look{K:Frag}{H:Hp}{i j:Int}:∀{kvs:List (O.Val×O.Val)}{ps:List (List Key×V)},RTs K H kvs ps->
  (∀v,O.dP kvs (.key i j)=df v->∃x,Yt ps [.inl i,.inl j]=df x/\RV K H v x)/\(O.dP kvs (.key i j)=dg->Yt ps [.inl i,.inl j]=dg)
 |_,_,.nil=>⟨λv e=>(by cases e),λ_=>rfl⟩
 |_,_,.cons (i:=a) (j:=b) (v:=u) (x:=y) (kvs:=kvs) (ps:=ps) r t=>by
  have ih:=RTs.look (i:=i) (j:=j) t;have q:=MA a b i j;by_cases e:([.inl a,.inl b]:List Key)=[.inl i,.inl j]
  .rw[fi e]at q;have e1:O.dP ((.key a b,u)::kvs) (.key i j)=df u:=by simp[O.dP,đ,q]
   rw[e1,YY e];exact⟨λv z=>(by cases z;exact⟨y,rfl,r⟩),λz=>(by cases z)⟩
  .rw[fh e]at q;have e1:O.dP ((.key a b,u)::kvs) (.key i j)=O.dP kvs (.key i j):=by simp[O.dP,đ,q]
   rw[e1,YX e];exact ih
def RTs.has{K:Frag}{H:Hp}{i j:Int}:∀{kvs:List (O.Val×O.Val)}{ps:List (List Key×V)},RTs K H kvs ps->O.dQ kvs (.key i j)=ps.any λkv=>fm (kv.1=[.inl i,.inl j])
 |_,_,.nil=>rfl
 |_,_,.cons (i:=a) (j:=b) r t=>by have ih:=RTs.has (i:=i) (j:=j) t;unfold O.dQ at ih ⊢;rw[Ħ,Ħ,ih,MA a b i j]
def RTs.app{K:Frag}{H:Hp}{v:O.Val}{i j:Int}{x:V}(q:RV K H v x):∀{kvs:List (O.Val×O.Val)}{ps:List (List Key×V)},RTs K H kvs ps->RTs K H (kvs++[(.key i j,v)]) (ps++[([.inl i,.inl j],x)])
 |_,_,.nil=>.cons q .nil
 |_,_,.cons r t=>.cons r<|RTs.app q t
def RTs.repl{K:Frag}{H:Hp}{v:O.Val}{i j:Int}{x:V}(q:RV K H v x):∀{kvs:List (O.Val×O.Val)}{ps:List (List Key×V)},RTs K H kvs ps->
  RTs K H (kvs.map λp=>if p.1 == .key i j then(.key i j,v)else p) (ps.map λkv=>if kv.1=[.inl i,.inl j]then(kv.1,x)else kv)
 |_,_,.nil=>.nil
 |_,_,.cons (i:=a) (j:=b) (v:=u) (x:=y) r t=>by
  have ih:=RTs.repl (i:=i) (j:=j) q t;have z:=MA a b i j;rw[Í,Í];by_cases e:([.inl a,.inl b]:List Key)=[.inl i,.inl j]
  .rw[fi e]at z;simp only[z,if_true,e];exact .cons q ih
  .rw[fh e]at z;simp only[z,e,if_false,Ĉ];exact .cons r ih
def RTs.put{K:Frag}{H:Hp}{v:O.Val}{i j:Int}{x:V}(q:RV K H v x){kvs:List (O.Val×O.Val)}{ps:List (List Key×V)}(r:RTs K H kvs ps):RTs K H (O.dR kvs (.key i j) v)<|L2.dR ps [.inl i,.inl j] x:=by
 unfold O.dR L2.dR;rw[r.has];by_cases e:(ps.any λkv=>fm (kv.1=[.inl i,.inl j]))=dh
 .rw[ff e,ff e];exact r.repl q
 .rw[fg e,fg e];exact r.app q
def ES{ps bS:List (List Key×V)}(g:RH i G H)(h:H a=df (.dT ps))(r:RTs i.K H kvs' bS):dO H (upd H a<|.dT bS)/\RH i (O.upd G a<|.dtp kvs') (upd H a<|.dT bS):=by
 have k:dO H<|upd H a<|.dT bS:=dO.put (λxs e=>by rw[h]at e;cases e) λp u e=>by rw[h]at e;cases e
 exact⟨k,g.put k ⟨bS,dk,r.keep k⟩⟩
def WO{k:O.Val}{x:V}{K:Frag}{H:Hp}(h:O.isKeyT k=dh)(r:RV K H k x):∃a b c,k=.key a b/\x=.ref c/\H c=df (.tup<|([.inl a,.inl b]:List Key).map kV):=by
 cases k with
 |key a b=>cases r with|key e=>exact⟨a,b,_,rfl,rfl,e⟩
 |_=>cases h
abbrev C7:R2:=λx y H Q=>∃a v,x=.ref a/\DGet H a y (df v)/\Q v H
def Eg(hu:X.A.units+1<Ĥ):IxR X C7:=by
 intro ű slice Á s σ H x y v u Q I rx ry h hs;let⟨a,z,rfl,g,q⟩:=h;cases rx;have hT:=NF I g;unfold ϥ;refine Ã ?_;rw[getitemInPython_of_ne hT.not_modules];refine Ã<|wpAny_specialOf hT PySem.F.slot_dict_getitem.lookup ?_;have fin:wpAny (â X.prog X.w) X.A (subscripted slice di (.ref a) u) (λr ϴ=>wpAny (â X.prog X.w) X.A (letTemporaryGo ű (.ref a) r >>= λ_=>pure r) (EP X Á σ Q) X.xe ϴ) X.xe s:=by rw[hs];exact wpAny_operating<|KJ hu I g ry λw' s' I' ao=>Ã<|wpAny_letTemporaryGo<|Ù ⟨_,_,I',ao,q⟩
 first
  |exact Ù<|Ã fin
  |exact Ã<|Ù<|Ã fin
  |exact Ã fin
abbrev Eu(b:Bool):R2:=λx y H Q=>∃a o,y=.ref a/\DGet H a x o/\Q (.bl<|b ^^ o.isSome) H
def IT(hu:X.A.units+1<Ĥ):OpR X (é .In)<|Eu di:=by intro Á s σ H x y v u Q I rx ry h;let⟨a,o,rfl,g,q⟩:=h;cases ry;rw[aq]at q;exact Ri hu I g rx λs' I'=>⟨.bl o.isSome,_,I',rfl,q⟩
def Hy(hu:X.A.units+1<Ĥ):OpR X (é .NotIn)<|Eu dh:=by intro Á s σ H x y v u Q I rx ry h;let⟨a,o,rfl,g,q⟩:=h;cases ry;rw[aP]at q;exact FH hu I g rx λs' I'=>⟨.bl (!o.isSome),_,I',rfl,q⟩
abbrev Hk:V->V->V->Hp->(Hp->Prop)->Prop:=λo y v H Q=>∃a H',o=.ref a/\DPut H a y v H'/\Q H'
def NC(hu:X.A.units+1<Ĥ):PSet X Hk:=by intro Á s σ H o y v ov iv u Q I ro ri rv h;let⟨a,H',rfl,g,q⟩:=h;cases ro;exact AR hu I g ri rv λs' I'=>⟨H',I',q⟩
def PSet.or{r r':V->V->V->Hp->(Hp->Prop)->Prop}(h:PSet X r)(h':PSet X r'):PSet X λo y v H Q=>r o y v H Q\/r' o y v H Q:=by
 intro Á s σ H o y v ov iv u Q I ro ri rv q;rcases q with q|q
 .exact h Á s σ H o y v ov iv u Q I ro ri rv q
 .exact h' Á s σ H o y v ov iv u Q I ro ri rv q
end Snd
namespace Snd
open PySem L2
variable {i:Inf}{X:Cx}{Φ:O.Fs}
def Mo(n:Nat)(k:Int):O.ixN n k=L2.ixN n k:=rfl
variable {H:Hp} {xs:List O.Val} {vs:List V}
def WW{K:Frag}{k:Int}{v:O.Val}(r:RVs K H xs vs)(e:O.atI xs k=df v):∃x,L2.atI vs k=df x/\RV K H v x:=by
 unfold O.atI at e;unfold L2.atI;rw[Mo,r.length]at e;cases z:L2.ixN vs.length k with
 |none=>rw[z]at e;cases e
 |some j =>rw[z]at e;let⟨x,h1,h2⟩:=r.get (show xs[j]?=df v from e);exact⟨x,h1,h2⟩
abbrev Qy(i:Inf)(r:R2):Prop:=∀(v u:O.Val) (G:O.Hs) (H:Hp) (x y:V) (w:O.Val) (Q:VK),RH i G H->RV i.K H v x->RV i.K H u y->O.d8 G v u=df w->(∀z,RV i.K H w z->Q z H)->r x y H Q
variable {a:Expr} {ma:O.E} {ç:Pos}
def Pm{b:Expr}{mb:O.E}{r:R2}(hr:IxR X r)(ho:Qy i r)(ha:PE X a<|tE X i Φ ma)(hb:PE X b<|tE X i Φ mb)(hs:MT b):PE X (.Subscript a b ç) (tE X i Φ<|.idx ma mb) :=
 (P5 hr ha hb hs).imp λσ H Q ⟨env,G,Qm,Em,p,w,c⟩=>by
  exact two p w λv u G2 H2 x y k2 p2 rx ry q=>by let⟨z,e,q⟩:=dq q;exact ho v u G2 H2 x y z Q p2.hp rx ry e λt rt=>c z G2 H2 t k2 p2.hp rt q
def E6{s:String}{k:Int}{c:Char}(e:O.atI s.toList k=df c):L2.atI (fo s).cps.toList k=df c.toNat:=by
 rw[Str.ofString_eq_toList];show L2.atI (List.map ō s.toList).toArray.toList k=_;unfold O.atI at e;unfold L2.atI;simp only[À];rw[Mo]at e;cases z:L2.ixN s.toList.length k with
 |none=>rw[z]at e;cases e
 |some j =>rw[z]at e;have e:s.toList[j]?=df c:=e;show(List.map ō s.toList)[j]?=_;rw[Ø,e];rfl
def N2(c:Char):fo (ϝ c)=⟨#[c.toNat]⟩:=by rw[Str.ofString_eq_toList];simp
abbrev Rp(K:Frag):R2:=λx y H Q=>rIx K x y H Q\/C7 x y H Q
def PP:Qy i<|Rp i.K:=by
 intro v u G H x y w Q g rx ry e q;cases v with
 |tup xs =>
  cases u with
  |int k =>
   cases rx with
   |tup hp hr =>let⟨z,h1,h2⟩:=WW hr (show O.atI xs k=df w from e);exact .inl<|.inr<|.inl ⟨_,_,k,z,rfl,ry.int_inv,Zl hp,h1,q z h2⟩
  |_=>cases e
 |str s =>
  cases u with
  |int k =>
   simp only[O.d8]at e;split at e
   .rename_i hl;cases z:O.atI s.toList k with
    |none=>rw[z]at e;cases e
    |some c =>rw[z]at e;cases e;refine .inl (.inr<|.inr ⟨_,k,_,rx.str_inv,ry.int_inv,by rw[Zv];exact Ô hl ZT,E6 z,?_⟩);have:=q _<|.str<|ϝ c;rw[N2]at this;exact this
   .cases e
  |_=>cases e
 |ref a =>
  cases rx.ref_inv
  replace e:(match G a with|some (.lst xs)=>(O.eY u).bind (O.atI xs)|some (.dct kvs)=>if O.dM u then O.dP kvs u else dg|some (.frz kvs)=>if O.dM u then O.dP kvs u else dg|some (.dtp kvs)=>if O.isKeyT u then O.dP kvs u else dg|_=>dg)=df w:=e
  cases z:G a with
  |none=>rw[z]at e;cases e
  |some o =>
   rw[z]at e;cases o with
   |lst xs =>let⟨k,hk,e⟩:=æ.mp e;cases Zy hk;let⟨vs,h1,h2⟩:=g a _ z;let⟨t,h3,h4⟩:=WW h2 e;exact .inl<|.inl ⟨a,vs,k,t,rfl,ry.int_inv,eS.of h1,h3,q t h4⟩
   |dct kvs =>let⟨hk,e⟩:=Zn (show(if O.dM u then O.dP kvs u else dg)=df w from e);let⟨ps,h1,h2⟩:=g a _ z;let⟨d,kr,rfl⟩:=dI hk ry;let⟨t,hx,rv⟩:=(h2.look kr).1 w e;exact .inr ⟨a,t,rfl,by rw[<-hx];exact DGet.k h1,q t rv⟩
   |frz kvs =>let⟨hk,e⟩:=Zn (show(if O.dM u then O.dP kvs u else dg)=df w from e);let⟨ob,ps,h1,h2⟩:=g a _ z;let⟨d,kr,rfl⟩:=dI hk ry;let⟨t,hx,rv⟩:=(h2.look kr).1 w e;exact .inr ⟨a,t,rfl,.inl ⟨ps,d,.inr ⟨ob,h1⟩,rfl,hx.symm⟩,q t rv⟩
   |dtp kvs =>let⟨hk,e⟩:=Zn (show(if O.isKeyT u then O.dP kvs u else dg)=df w from e);let⟨ps,h1,h2⟩:=g a _ z;let⟨k1,k2,b,rfl,rfl,hb⟩:=WO hk ry;let⟨t,hx,rv⟩:=(h2.look).1 w e;exact .inr ⟨a,t,rfl,by rw[<-hx];exact DGet.t h1 hb,q t rv⟩
   |_=>cases e
 |scr ns =>
  cases u with
  |int k =>
   cases rx with
   |scr h =>let⟨t,h3,h4⟩:=WW (RVs.ints ns) (show O.atI (ns.map .int) k=df w from e);exact .inl<|.inl ⟨_,_,k,t,rfl,ry.int_inv,Z2 h,h3,q t h4⟩
  |_=>cases e
 |_=>cases e
abbrev tOx(X:Cx)(i:Inf)(Φ:O.Fs)(m:O.Oe):TO:=λσ H Q=>∃env G Qm Em,Pre X i σ H env G Em/\O.wO Φ m env G Qm Em/\∀k G' H',dO H H'->RH i G' H'->Qm k G'->Q k H'
def _root_.L2.PO.imp{e:Option Expr}{t t':TO}(h:PO X e t)(f:∀σ H Q,t' σ H Q->t σ H Q):PO X e t':=λÁ s σ H Q I q=>h Á s σ H Q I (f σ H Q q)
def FT:PO X dg<|tOx X i Φ .none:=po_none.imp λσ H Q ⟨env,G,Qm,Em,p,w,c⟩=>by exact c dg G H (dO.refl H) p.hp w
def E7{e:Expr}{m:O.E}(he:PE X e<|tE X i Φ m):PO X (df e)<|tOx X i Φ<|.some m:=(Fi he).imp λσ H Q ⟨env,G,Qm,Em,p,w,c⟩=>by
 exact one p w λv G1 H1 x k1 p1 r q=>by let⟨b,e,q2⟩:=dq q;cases Zy e;exact⟨b,r.int_inv,c _ G1 H1 k1 p1.hp q2⟩
def Oi{K:Frag}(r:RVs K H xs vs)(lo hi:Option Int):RVs K H (O.cut xs lo hi)<|K5 vs lo hi:=by
 have e:∀(n d:Nat) (o:Option Int),O.d5 n d o=HT.sIx n d o:=by
  intro n d o;cases o with
  |none=>rfl
  |some k =>
   show(if 0<=k then min k.toNat n else(k+n).toNat)=(if k<0 then(k+(n:Int)).toNat else min k.toNat n)
   by_cases h:k<0
   .rw[ff h,fg<|by lia]
   .rw[fg h,ff<|by lia]
 unfold O.cut K5;rw[e,e,r.length];exact(r.drop _).take _
abbrev Ps(i:Inf)(r:V->Option Int->Option Int->Hp->VK->Prop):Prop:=∀(v:O.Val) (lo hi:Option Int) (G:O.Hs) (H:Hp) (x:V) (Q:VK) (Qm:O.Q1),RH i G H->RV i.K H v x->(O.d9 G v lo hi).wp G Qm->Cn i H Q Qm->r x lo hi H Q
def Q9{lo hi:Option Expr}{ml mh:O.Oe}{r:V->Option Int->Option Int->Hp->VK->Prop}{p2:Pos}(hr:SlR X r)(ho:Ps i r)(ha:PE X a<|tE X i Φ ma)(hl:PO X lo<|tOx X i Φ ml)(hh:PO X hi<|tOx X i Φ mh):PE X (.Subscript a (.Slice lo hi dg p2) ç) (tE X i Φ<|.slc ma ml mh) :=
 (CI hr ha hl hh).imp λσ H Q ⟨env,G,Qm,Em,p,w,c⟩=>by
  exact⟨env,G,_,Em,p,w,λv G1 H1 x k1 g1 r1 w1=>⟨env,G1,_,Em,p.go k1 g1,w1,λl G2 H2 k2 g2 w2=>⟨env,G2,_,Em,(p.go k1 g1).go k2 g2,w2,λu G3 H3 k3 g3 w3 =>
    ho v l u G3 H3 x Q Qm g3 ((r1.keep k2).keep k3) w3 (((c.go k1).go k2).go k3)⟩⟩⟩
abbrev Qi(K:Frag):V->Option Int->Option Int->Hp->VK->Prop:=λx lo hi H Q=>Qr K x lo hi H Q\/Qk K x lo hi H Q\/Px x lo hi H Q\/Q5 K x lo hi H Q
def RI:SlR X<|Qi X.K:=sl_list.or (eC.or<|sl_str.or Gi)
def Wa(n d:Nat)(o:Option Int):O.d5 n d o=HT.sIx n d o:=by
 cases o with
 |none=>rfl
 |some k =>
  show(if 0<=k then min k.toNat n else(k+n).toNat)=(if k<0 then(k+(n:Int)).toNat else min k.toNat n)
  by_cases h:k<0
  .rw[ff h,fg<|by lia]
  .rw[fg h,ff<|by lia]
def NB(n d:Nat)(h:d<=n)(o:Option Int):O.d5 n d o<=n:=by
 cases o with
 |none=>exact h
 |some k =>show(if 0<=k then min k.toNat n else(k+n).toNat)<=n;split<;>lia
def clip_eq(n d:Nat)(h:d<=n)(o:Option Int):(match o with
    |none=>(d:Int)
    | some i=>max 0<|min (if i<0 then i+(n:Int)else i) (n:Int))=(O.d5 n d o:Int):=by
 cases o with
 |none=>rfl
 |some k =>
  show _=(((if 0<=k then min k.toNat n else(k+n).toNat):Nat):Int)
  by_cases hk:k<0
  .rw[fg<|show ¬ 0<=k by lia];simp only[hk,if_true];lia
  .rw[ff<|show 0<=k by lia];simp only[hk,if_false];lia
def LP(n:Nat)(lo hi:Option Int):PySem.Builtin.Str.strSliceIndices lo hi 1 n=(List.range<|O.d5 n n hi - O.d5 n 0 lo).map λk=>O.d5 n 0 lo+k:=by
 have e1:=clip_eq n 0 (ŏ _) lo;have e2:=clip_eq n n (Ï _) hi;have e3:PySem.Builtin.Str.strSliceIndices lo hi 1 n=Ν (O.d5 n 0 lo:Int) (O.d5 n n hi:Int) 1:=by unfold PySem.Builtin.Str.strSliceIndices;rw[<-e1,<-e2];cases lo<;>cases hi<;>rfl
 rw[e3];unfold Ν;have e4:(if(1:Int) > 0 then(if(O.d5 n 0 lo:Int)<(O.d5 n n hi:Int)then((O.d5 n n hi:Int) - (O.d5 n 0 lo:Int)+1 - 1) / 1 else 0)else(if(O.d5 n 0 lo:Int) > (O.d5 n n hi:Int)then((O.d5 n 0 lo:Int) - (O.d5 n n hi:Int) - 1 - 1) / (-1)else 0)).toNat=O.d5 n n hi - O.d5 n 0 lo:=by rw[ff (by decide),Int.ediv_one];split<;>lia
 show(List.range<|Int.toNat<|if(1:Int) > 0 then _ else _).map _=_;rw[e4];refine č λk _=>?_;lia
def Ga(s:String)(lo hi:Option Int):A1 (fo s) lo hi=fo (ź<|O.cut s.toList lo hi):=by
 have hl:(fo s).length=s.toList.length:=by rw[Zv,bg]
 have ha:=NB s.toList.length 0 (ŏ _) lo;have hb:=NB s.toList.length s.toList.length (Ï _) hi;have e:=LP s.toList.length lo hi;rw[<-hl]at e;unfold A1;rw[e];simp only[hl];have ec:(fo s).cps.toList=s.toList.map ō:=by rw[Str.ofString_eq_toList]
 split
 .rename_i z;rw[À,Ā]at z;have e0:O.d5 s.toList.length 0 lo=0\/s.toList.length=0:=by lia
  have e5:O.cut s.toList lo hi=s.toList:=by
   unfold O.cut;rw[z];rcases e0 with e0|e0
   .rw[e0,List.drop_zero,ó]
   .have:s.toList=[]:=ŗ.mp e0;rw[this];simp
  rw[e5,String.ofList_toList]
 .rw[Str.ofString_eq_toList<|ź _,bh];congr 2;have e3:(λi:Nat=>(fo s).cps[i]?)=λi:Nat=>(s.toList.map ō)[i]?:=by
   funext i;rw[<-ec];simp
  rw[e3];by_cases hab:O.d5 s.toList.length 0 lo<=O.d5 s.toList.length s.toList.length hi
  .rw[PySem.StrLaws.picks _ _ _<|by rw[À];lia];unfold O.cut;rw[List.map_take,List.map_drop]
  .have:O.d5 s.toList.length s.toList.length hi - O.d5 s.toList.length 0 lo=0:=by lia
   unfold O.cut;rw[this];simp
def QG:Ps i<|Qi i.K:=by
 intro v lo hi G H x Q Qm g r w c;cases v with
 |tup xs =>
  simp only[O.d9]at w;split at w
  .rename_i hn;rw[O.Rs.wp_val]at w;cases r with
   |@tup _ a vs hp hr=>exact .inr (.inr<|.inr ⟨a,vs,rfl,Zl hp,by rw[<-Wa,<-Wa,<-hr.length];exact hn,c _ G H _ (dO.refl H) g (.tup hp hr) w⟩)
  .rename_i hn;rw[O.Rs.wp_val]at w;cases r with
   |@tup _ a vs hp hr =>refine .inr (.inl ⟨a,vs,rfl,Zl hp,by rw[<-Wa,<-Wa,<-hr.length];exact hn,λp hp'=>?_⟩);have k:=dO.new (o:=.tup<|K5 vs lo hi) hp';refine c _ G _ _ k (g.hid k λb o e=>dj ?_) (.tup (.inl dk)<|Oi (hr.keep k) lo hi) w;rintro rfl;rw[g.free hp']at e;cases e
 |ref a =>
  cases r.ref_inv;simp only[O.d9]at w;cases z:O.dF (G a)with
  |none=>rw[z]at w;simp at w
  |some xs =>rw[z]at w;rw[O.Rs.wp_new]at w;let⟨vs,h1,h2⟩:=ZI g z;exact .inl ⟨a,vs,rfl,h1,Yn g w c λp hp=>⟨_,dk,Oi (h2.keep<|dO.new hp) lo hi⟩⟩
 |scr ns =>
  simp only[O.d9,O.Rs.wp_new]at w;cases r with
  |scr h=>exact .inl ⟨_,_,rfl,Z2 h,Yn g w c λp hp=>⟨_,dk,Oi (RVs.ints ns) lo hi⟩⟩
 |str s =>
  cases r.str_inv;simp only[O.d9]at w;split at w
  .rename_i hl;rw[O.Rs.wp_val]at w;refine .inr (.inr <| .inl ⟨_,rfl,by rw[Zv];exact Ô hl (by decide),?_⟩);rw[Ga];exact c _ G H _ (dO.refl H) g (.str _) w
  .simp at w
 |_=>simp[O.d9]at w
variable {H:Hp} {vs:List O.Val} {xs:List V} {x:V}
def RVs.app1{K:Frag}{v:O.Val}(r:RVs K H vs xs)(q:RV K H v x):RVs K H (vs++[v])<|xs++[x]:=r.append (.cons q .nil)
variable {es:List Expr} {ms:O.Es} {n:Nat} {ç:Pos}
def PY{k:Nat}(hn:n<=1000)(h:PA X es<|tAr X i Φ ms n):PE X (.Tuple es k ç) (tE X i Φ<|.tup ms) :=
 (LC h).imp λσ H Q ⟨env,G,Qm,Em,p,w,c⟩=>by refine⟨env,G,_,Em,p,w,λvs G1 H1 xs k1 g1 r1 hl w1=>⟨by rw[hl];exact Ô hn (by decide),λa ha=>?_⟩⟩;have k:=dO.new (o:=.tup xs) ha;refine c _ G1 _ _ (k1.trans k) (g1.hid k λb o e=>dj ?_) (.tup (.inl dk)<|r1.keep k) w1;rintro rfl;rw[g1.free ha]at e;cases e
def PZ(hn:n<=1000)(h:PA X es<|tAr X i Φ ms n):PE X (.List es ç) (tE X i Φ<|.lst ms) :=
 (Iy h).imp λσ H Q ⟨env,G,Qm,Em,p,w,c⟩=>by refine⟨env,G,_,Em,p,w,λvs G1 H1 xs k1 g1 r1 hl w1=>⟨by rw[hl];exact Ô hn (by decide),Yn g1 w1 (c.go k1) λa ha=>?_⟩⟩;exact⟨xs,dk,r1.keep<|dO.new ha⟩
abbrev Wt(i:Inf)(f:O.Bi)(r:List V->Hp->VK->Prop):Prop:=∀(vs:List O.Val) (G:O.Hs) (H:Hp) (xs:List V) (Q:VK) (Qm:O.Q1),RH i G H->RVs i.K H vs xs->(O.biV G f vs).wp G Qm->Cn i H Q Qm->r xs H Q
def YR{f:O.Bi}{r:List V->Hp->VK->Prop}(hr:Wt i f r):∀σ H Q,tE X i Φ (.bi f ms) σ H Q->tCB r (tAr X i Φ ms n) σ H Q:=λσ H Q ⟨env,G,Qm,Em,p,w,c⟩=>by exact⟨env,G,_,Em,p,w,λvs G1 H1 xs k1 g1 r1 _ w1=>hr vs G1 H1 xs Q Qm g1 r1 w1<|c.go k1⟩
def RVs.inv1{K:Frag}{v:O.Val}(r:RVs K H [v] xs):∃x,xs=[x]/\RV K H v x:=by cases r with|cons a t=>cases t;exact⟨_,rfl,a⟩
def RVs.inv2{K:Frag}{v u:O.Val}(r:RVs K H [v,u] xs):∃x y,xs=[x,y]/\RV K H v x/\RV K H u y:=by cases r with|cons a t=>cases t with|cons b t=>cases t;exact⟨_,_,rfl,a,b⟩
def Kr(s:String):(fo s).cps.toList=s.toList.map ō:=by rw[Str.ofString_eq_toList]
def Uh:∀(l:List Char) (a:Nat),(l.map ō).foldl (λħ c=>ħ*10+(c - 48)) a=l.foldl (λa c=>10*a+(c.toNat - 48)) a
 |[],_=>rfl
 |c::l,a=>by rw[Í,İ,İ,Uh l,bA a 10]
def FD{s:String}(h1:s.toList≠[])(h2:s.toList.all O.figB=dh)(h3:s.length<=640):PySem.intText? (fo s)=df ((O.decN s.toList:Nat):Int):=by
 have hc:=Kr s;rw[intText_digits (x:=fo s)]
 .rw[hc];unfold NumText.digitsVal O.decN;rw[Uh]
 .rw[hc];intro c hm;let⟨d,hd,rfl⟩:=Þ.mp hm;have:=ù.mp h2 d hd;unfold O.figB at this;simpa using this
 .rw[hc];simpa using h1
 .rw[Zv];lia
variable {h:O.Hs} {Q:O.Q1}
def Yo{f:O.Val->O.Rs}(w:(O.dG f vs).wp h Q):∃v,vs=[v]/\(f v).wp h Q:=by
 cases vs with
 |nil=>exact(Zh w).elim
 |cons v vs=>cases vs with
  |nil=>exact⟨v,rfl,w⟩
  |cons _ _=>exact(Zh w).elim
def C3{f:O.Val->O.Val->O.Rs}(w:(O.biOf2 f vs).wp h Q):∃v u,vs=[v,u]/\(f v u).wp h Q:=by
 cases vs with
 |nil=>exact(Zh w).elim
 |cons v vs=>cases vs with
  |nil=>exact(Zh w).elim
  |cons u us=>cases us with
   |nil=>exact⟨v,u,rfl,w⟩
   |cons _ _=>exact(Zh w).elim
def Iq:Wt i .int λxs H Q=>((∃i,xs=[.int i]/\Q (.int i) H)\/∃k,xs=[.bl k]/\Q (.int<|if k then 1 else 0) H)\/∃z n,xs=[.str z]/\PySem.intText? z=df n/\z.length<=640/\Q (.int n) H:=by
 intro vs G H xs Q Qm g r w c;let⟨v,rfl,w⟩:=Yo w;let⟨x,rfl,rx⟩:=r.inv1;cases v with
 |int k=>cases rx.int_inv;exact .inl<|.inl ⟨k,rfl,c _ G H _ (dO.refl H) g (.int _)<|Zg w⟩
 |bl k=>cases rx.bl_inv;exact .inl<|.inr ⟨k,rfl,c _ G H _ (dO.refl H) g (.int _)<|Zg w⟩
 |str s =>cases rx.str_inv;let⟨hl,w⟩:=XY w;exact .inr ⟨_,_,rfl,FD hl.2.1 hl.2.2 hl.1,by rw[Zv];exact hl.1,c _ G H _ (dO.refl H) g (.int _)<|Zg w⟩
 |_=>exact(Zh w).elim
def FI:Wt i .max2 λxs H Q=>∃i j,xs=[.int i,.int j]/\Q (.int<|if j > i then j else i) H:=by intro vs G H xs Q Qm g r w c;let⟨v,u,rfl,w⟩:=C3 w;let⟨a,b,rfl,rfl,w⟩:=Xs w;let⟨x,y,rfl,rx,ry⟩:=r.inv2;cases rx.int_inv;cases ry.int_inv;exact⟨a,b,rfl,c _ G H _ (dO.refl H) g (.int _)<|Zg w⟩
def E3:Wt i .min2 λxs H Q=>∃i j,xs=[.int i,.int j]/\Q (.int<|if j<i then j else i) H:=by intro vs G H xs Q Qm g r w c;let⟨v,u,rfl,w⟩:=C3 w;let⟨a,b,rfl,rfl,w⟩:=Xs w;let⟨x,y,rfl,rx,ry⟩:=r.inv2;cases rx.int_inv;cases ry.int_inv;exact⟨a,b,rfl,c _ G H _ (dO.refl H) g (.int _)<|Zg w⟩
abbrev Pz(o:Option O.Ob)(f:List O.Val->O.Rs):O.Rs:=match o with
 |some (.lst xs)=>f xs
 |_=>.no
variable {o:Option O.Ob}
def M1{f:List O.Val->O.Rs}(w:(Pz o f).wp h Q):∃xs,o=df (.lst xs)/\(f xs).wp h Q:=by
 cases o with
 |none=>exact(Zh w).elim
 |some o=>cases o with
  |lst xs=>exact⟨xs,rfl,w⟩
  |_=>exact(Zh w).elim
variable {G:O.Hs}
def Fw{Q:VK}{Qm:O.Q1}{ys:List O.Val}{us:List V}(g:RH i G H)(r:RVs i.K H ys us)(w:Qm (.tup ys) G)(c:Cn i H Q Qm):∀l,H l=dg->Q (.ref l) (upd H l<|.tup us):=λl hl=>by have k:=dO.new (o:=.tup us) hl;refine c _ G _ _ k (g.hid k λb o e=>dj ?_) (.tup (.inl dk)<|r.keep k) w;rintro rfl;rw[g.free hl]at e;cases e
def Cl:Wt i .tuple λxs H Q=>∃p ys,xs=[.ref p]/\((eS i.K H p ys/\∀l,H l=dg->Q (.ref l) (upd H l<|.tup ys))\/(eU i.K H p ys/\Q (.ref p) H)):=by
 intro vs G H xs Q Qm g r w c;let⟨v,rfl,w⟩:=Yo w;let⟨x,rfl,rx⟩:=r.inv1;cases v with
 |ref a =>cases rx.ref_inv;let⟨ys,e,w⟩:=M1 (f:=λxs=>.val<|.tup xs) w;let⟨us,h1,h2⟩:=g a _ e;exact⟨a,us,rfl,.inl ⟨eS.of h1,Fw g h2 (Zg w) c⟩⟩
 |tup ys =>
  cases rx with
  |tup hp hr=>exact⟨_,_,rfl,.inr ⟨Zl hp,c _ G H _ (dO.refl H) g (.tup hp hr)<|Zg w⟩⟩
 |_=>exact(Zh w).elim
abbrev kinds:List String:=["int","bool","str","list","tuple","dict"]
def Fc(K:Frag):∀t∈["NoneType","bool","int","str","tuple","list","dict"],∀T∈kinds,PySem.W.kitOne K (.type t) (.type T)=df (t==T||(t == "bool" && T == "int")):=by intro t ht T hT;simp only[kinds,Æ,Û,or_false]at ht hT;rcases ht with rfl|rfl|rfl|rfl|rfl|rfl|rfl<;>rcases hT with rfl|rfl|rfl|rfl|rfl|rfl<;>rfl
def Bg(g:RH i G H){v:O.Val}{t:String}(r:RV i.K H v x)(e:O.fb G v=df t):TyV i.K H x (.type t)/\t∈["NoneType","bool","int","str","tuple","list","dict"]:=by
 cases v with
 |non=>cases r;cases e;exact⟨.of .non,by simp⟩
 |bl b=>cases r;cases e;exact⟨.of<|.bl b,by simp⟩
 |int b=>cases r;cases e;exact⟨.of<|.int b,by simp⟩
 |str b=>cases r;cases e;exact⟨.of<|.str _,by simp⟩
 |tup xs=>cases e;cases r with|tup hp hr=>exact⟨.tup<|Zl hp,by simp⟩
 |scr ns=>cases e;cases r with|scr h=>exact⟨.lst<|Z2 h,by simp⟩
 |ref a =>
  cases r.ref_inv;simp only[O.fb]at e;cases q:G a with
  |none=>rw[q]at e;cases e
  |some o =>
   rw[q]at e;cases o with
   |lst xs=>cases e;let⟨vs,h1,_⟩:=g a _ q;exact⟨.lst<|eS.of h1,by simp⟩
   |dct kvs=>cases e;let⟨ps,h1,_⟩:=g a _ q;exact⟨.of<|.dK h1,by simp⟩
   |ins C fs=>cases e
   |exc C=>cases e
   |frz _=>cases e
   |dtp _=>cases e
 |key _ _=>cases e
def Qo{e:Expr}{m:O.E}{T:String}{p p2:Pos}(hT:T∈kinds)(he:PE X e<|tE X i Φ m)(hk:X.K=i.K)(hg:Gl X "isinstance")(hm:X.mg "isinstance" = dg)(hg2:Gl X<|fo T)(hm2:X.mg (fo T)=dg)
  (hv2:Ŕ (fo T)=df (.type T)) (hn2:fo T≠"__name__") (aT:(fo T==("__debug__" : Str))=di) (ŭ:Ó [e,.Name (fo T) p2] X.env=(di,eval e X.env)::Ó [.Name (fo T) p2] X.env) :
  PE X (.Call (.Name "isinstance" p) [e,.Name (fo T) p2] [] ç) (tE X i Φ<|.bi (.isi [T])<|.cons m .nil):=by
 refine(ZC Bt hg hm (by kernel_rfl) (ZY he (ZY (Py (T:=T) hg2 hm2 hv2 hn2 aT) eQ) ŭ) (he:=ŭ)).imp λσ H Q ⟨env,G,Qm,Em,p,w,c⟩=>?_;refine one p w λv G1 H1 x k1 p1 r q=>?_
 replace q:(O.Rs.ofO (((O.fc G1 v T).bind λb=>(O.isiAny G1 v []).map (b || ·)).map .bl)).wp G1 Qm:=q
 simp only[O.isiAny,O.fc]at q;cases z:O.fb G1 v with
 |none=>rw[z]at q;simp[O.Rs.ofO]at q
 |some t =>rw[z]at q;simp only[į,í,O.Rs.ofO,O.Rs.wp_val,aN]at q;let⟨h1,h2⟩:=Bg p1.hp r z;refine⟨x,T,.type t,_,rfl,by rw[hk];exact h1,by rw[hk];exact Fc _ t h2 T hT,c _ G1 H1 _ k1 p1.hp (.bl _) q⟩
def Ou(h:O.isLst o=dh):∃xs,o=df (.lst xs):=by
 cases o with
 |none=>cases h
 |some o=>cases o with
  |lst xs=>exact⟨xs,rfl⟩
  |_=>cases h
variable {a:Ì}
def DE{f:O.Ad->List O.Val->Option (O.Val×O.Hs)}{t:O.Val×O.Hs}(e:O.bmL G (.ref a) f=df t):∃xs,G a=df (.lst xs)/\f a xs=df t:=by let⟨xs,h1,h2⟩:=æ.mp (show(O.dF<|G a).bind (f a)=df t from e);exact⟨xs,AN h1,h2⟩
def WN{xs:List O.Val}{vs:List V}(g:RH i G H)(h:H a=df (.lst vs))(ys:List O.Val)(us:List V)(r:RVs i.K H ys us):dO H (upd H a<|.lst us)/\RH i (O.upd G a<|.lst ys) (upd H a<|.lst us):=by
 have k:dO H<|upd H a<|.lst us:=dO.put (λxs e=>by rw[h]at e;cases e) λp u e=>by rw[h]at e;cases e
 exact⟨k,g.put k ⟨us,dk,r.keep k⟩⟩
abbrev spF(i:Inf)(P:O.Pg)(n:Nat)(f:String):Sp:=λvs H Q E=>∃args G Qm Em,RVs i.K H args vs/\RH i G H/\O.wF P n f args G Qm Em/\Cn i H Q Qm/\∀cls d H',XK1 i H Em cls d H'->E cls d H'
abbrev Dfo(pr:ë)(w:Ă)(mg:Str->Option Â)(base:ċ)(i:Inf)(P:O.Pg)(n:Nat)(f:String):Prop :=
 ∃fa fd ps,dY pr w i.K mg base (CX1 pr w) (2*n) fa fd ps (spF i P n f)/\mg (fo f)=df (.ref fa)/\PySem.W.keepIn i.K (.ref fa)=dh/\Binds i.K fd ps []
variable {e:Expr} {es:List Expr} {ç:Pos}
def HX{P:O.Pg}{n k:Nat}{f:String}{ms:O.Es}{p:Pos}(hK:X.K=i.K)(D:Dfo X.prog X.w X.mg X.base i P n f)(hr:dX (2*n) X.A)(hg:Gl X<|fo f)(bM:(fo f==("__debug__" : Str))=di)
  (ha:PA X (e::es)<|tAr X i (O.wF P n) ms k) (he:Ó (e::es) X.env=(di,eval e X.env)::Ó es X.env) (hpl:(Ē ç<|Ó es X.env).any (·.1)=di) :
  PE X (.Call (.Name (fo f) p) (e::es) [] ç) (tE X i (O.wF P n)<|.call f ms):=by
 let⟨fa,fd,ps,F,hm,hk,hb⟩:=D;rw[<-hK]at F hk hb;intro Á s σ H Q I h;let⟨env,G,Qm,Em,pr,w,c⟩:=h;refine Fk (E:=XK1 i H Em) F hr hg hm hk hb .nil (XW.passes pr.xo) ha bM he hpl Á s σ H Q I ⟨env,G,_,Em,pr,w,λvs G1 H1 xs k1 g1 r1 hl w1=>?_⟩;exact⟨vs,G1,Qm,Em,by rw[þ];exact r1,g1,w1,c.go k1,λcls d H' h=>h.go k1⟩
abbrev XKS(i:Inf)(H:Hp)(Xe:O.EQ):XK:=λcls _ H'=>∃e c G' ad,cls=.ref ad/\i.xc c ad/\dO H H'/\RH i G' H'/\Xe e c G'
structure PreS(X:Cx)(i:Inf)(σ:St)(H:Hp)(env:O.Env)(G:O.Hs)(Xe:O.EQ):Prop where
 en:REn i.K H env σ
 hp:RH i G H
 xo:XW X<|XKS i H Xe
variable {σ:St} {H:Hp} {H1:Hp} {G:O.Hs} {Xe:O.EQ}
def PreS.go{σ1:St}{env env1:O.Env}{G1:O.Hs}(p:PreS X i σ H env G Xe)(k:dO H H1)(r:RH i G1 H1)(e:REn i.K H1 env1 σ1):PreS X i σ1 H1 env1 G1 Xe :=
 ⟨e,r,λÁ σ H0 s H' a cls s' I f ⟨e,c,G',ad,q1,q2,q3,q4⟩=>p.xo Á σ H0 s H' a cls s' I f ⟨e,c,G',ad,q1,q2,k.trans q3,q4⟩⟩
def PreS.pre{env:O.Env}(p:PreS X i σ H env G Xe):Pre X i σ H env G (Xe env) :=
 ⟨p.en,p.hp,λÁ σ H0 s H' a cls s' I f ⟨c,G',ad,q1,q2,q3,q4⟩=>p.xo Á σ H0 s H' a cls s' I f ⟨env,c,G',ad,q1,q2,q3,q4⟩⟩
structure EOk(i:Inf)(H:Hp)(D:Ends)(N:O.NQ)(R:O.Q1)(B C:O.NQ):Prop where
 nx:∀Ĳ Ń G' H',dO H H'->RH i G' H'->REn i.K H' Ĳ Ń->N Ĳ G'->D.nx Ń H'
 rt:∀v G' H' x,dO H H'->RH i G' H'->RV i.K H' v x->R v G'->D.rt x H'
 bk:∀Ĳ Ń G' H',dO H H'->RH i G' H'->REn i.K H' Ĳ Ń->B Ĳ G'->D.bk Ń H'
 ct:∀Ĳ Ń G' H',dO H H'->RH i G' H'->REn i.K H' Ĳ Ń->C Ĳ G'->D.ct Ń H'
def EOk.go{D:Ends}{N:O.NQ}{R:O.Q1}{B C:O.NQ}(e:EOk i H D N R B C)(k:dO H H1):EOk i H1 D N R B C :=
 ⟨λa b c d k'=>e.nx a b c d<|k.trans k',λa b c d k'=>e.rt a b c d<|k.trans k',λa b c d k'=>e.bk a b c d<|k.trans k',λa b c d k'=>e.ct a b c d<|k.trans k'⟩
inductive tStx (X:Cx) (i:Inf) (Φ:O.Fs) (m:O.S) (D:Ends) (σ:St) (H:Hp):Prop
 |mk (env:O.Env) (G:O.Hs) (N:O.NQ) (R:O.Q1) (B C:O.NQ) (Xe:O.EQ) (p:PreS X i σ H env G Xe) (w:O.wS Φ m env G N R B C Xe) (e:EOk i H D N R B C)
abbrev tSt(X:Cx)(i:Inf)(Φ:O.Fs)(m:O.S):TS:=tStx X i Φ m
inductive tBlx (X:Cx) (i:Inf) (Φ:O.Fs) (m:O.Ss) (D:Ends) (σ:St) (H:Hp):Prop
 |mk (env:O.Env) (G:O.Hs) (N:O.NQ) (R:O.Q1) (B C:O.NQ) (Xe:O.EQ) (p:PreS X i σ H env G Xe) (w:O.wSs Φ m env G N R B C Xe) (e:EOk i H D N R B C)
abbrev tBl(X:Cx)(i:Inf)(Φ:O.Fs)(m:O.Ss):TS:=tBlx X i Φ m
variable {st:ĭ} {t':TS}
def _root_.L2.PS.imp{t:TS}(h:PS X st t)(f:∀D σ H,t' D σ H->t D σ H):PS X st t':=λÁ s σ H D I q=>h Á s σ H D I (f D σ H q)
def _root_.L2.PSs.imp{st:List ĭ}{t:TS}(h:PSs X st t)(f:∀D σ H,t' D σ H->t D σ H):PSs X st t':=λÁ s σ H D I q=>h Á s σ H D I (f D σ H q)
def Lv:PSs X []<|tBl X i Φ .nil:=pss_nil.imp λD σ H ⟨env,G,N,R,B,C,Xe,p,w,c⟩=>by exact c.nx env σ G H (dO.refl H) p.hp p.en w
def Gf{sts:List ĭ}{m:O.S}{ms:O.Ss}(h1:PS X st<|tSt X i Φ m)(h2:PSs X sts<|tBl X i Φ ms):PSs X (st::sts) (tBl X i Φ<|.cons m ms) :=
 (Cw h1 h2).imp λD σ H ⟨env,G,N,R,B,C,Xe,p,w,c⟩=>by exact⟨env,G,_,R,B,C,Xe,p,w,⟨λĲ Ń G' H' k g e w'=>⟨Ĳ,G',N,R,B,C,Xe,p.go k g e,w',c.go k⟩,c.rt,c.bk,c.ct⟩⟩
variable {m:O.E}
def LZ(he:PE X e<|tE X i Φ m):PS X (.Return (df e) ç) (tSt X i Φ<|.ret m) :=
 (HN he).imp λD σ H ⟨env,G,N,R,B,C,Xe,p,w,c⟩=>by exact⟨env,G,R,Xe env,p.pre,w,c.rt⟩
def FM:PS X (.Return dg ç) (tSt X i Φ .retN) :=
 ps_retN.imp λD σ H ⟨env,G,N,R,B,C,Xe,p,w,c⟩=>by exact c.rt _ G H _ (dO.refl H) p.hp .non w
def F7(he:PE X e<|tE X i Φ m)(hs:ş e dg ç.line X.env=pure di):PS X (.Expr e ç) (tSt X i Φ<|.expr m) :=
 (Gy he hs).imp λD σ H ⟨env,G,N,R,B,C,Xe,p,w,c⟩=>by exact⟨env,G,_,Xe env,p.pre,w,λv G1 H1 x k1 g1 r1 w1=>c.nx env σ G1 H1 k1 g1 (p.en.keep k1) w1⟩
def HM{t:Expr}{a b:List ĭ}{mt:O.Tt}{ma mb:O.Ss}(ht:PT X t<|tTt X i Φ mt)(ha:PSs X a<|tBl X i Φ ma)(hb:PSs X b<|tBl X i Φ mb):PS X (.If t a b ç) (tSt X i Φ<|.ite mt ma mb) :=
 (PU ht ha hb).imp λD σ H ⟨env,G,N,R,B,C,Xe,p,w,c⟩=>by
  refine⟨env,G,_,Xe env,p.pre,w,λd G1 H1 k1 g1 q=>?_⟩;cases d with
  |true=>exact⟨env,G1,N,R,B,C,Xe,p.go k1 g1<|p.en.keep k1,⇑q,c.go k1⟩
  |false=>exact⟨env,G1,N,R,B,C,Xe,p.go k1 g1<|p.en.keep k1,⇑q,c.go k1⟩
abbrev gPt(i:Inf)(p:O.Pt):TG:=λx σ H Q=>∃v env G ł,RV i.K H v x/\RH i G H/\REn i.K H env σ/\O.bind p G v env=df ł/\∀σ2,REn i.K H ł σ2->Q σ2 H
variable {tg:Expr}
def _root_.L2.PG.imp{t t':TG}(h:PG X tg t)(f:∀v σ H Q,t' v σ H Q->t v σ H Q):PG X tg t':=λÁ s σ H v u Q I r q=>h Á s σ H v u Q I r (f v σ H Q q)
def _root_.L2.PGs.imp{tg:List Expr}{t t':TGs}(h:PGs X tg t)(f:∀v σ H Q,t' v σ H Q->t v σ H Q):PGs X tg t':=λÁ s σ H v u Q I r q=>h Á s σ H v u Q I r (f v σ H Q q)
variable {x:Str} {j:Nat}
def Os(hN:X.N.Nodup)(hi:X.N[j]?=df x)(hx:Loc X.env.scope x)(hf:X.fn x=dh\/X.env.scope.names.lookup x=df .local):PG X (.Name x ç) (gPt i<|.one j) :=
 (Uo hN hi hx hf).imp λv σ H Q ⟨u,env,G,ł,r,g,e,b,h⟩=>by cases b;exact h _<|e.set r j
abbrev Dq(i:Inf)(js:List Nat):TGs:=λxs σ H Q=>∃vs env ł,RVs i.K H vs xs/\REn i.K H env σ/\O.bindL js vs env=df ł/\∀σ2,REn i.K H ł σ2->Q σ2 H
def Ew:PGs X []<|Dq i []:=pgs_nil.imp λxs σ H Q ⟨vs,env,ł,r,e,b,h⟩=>by
 cases vs with
 |nil=>cases r;cases b;exact⟨rfl,h _ e⟩
 |cons _ _=>cases b
variable {js:List Nat}
def BM(hN:X.N.Nodup)(hi:X.N[j]?=df x)(hx:Loc X.env.scope x)(hf:X.fn x=dh\/X.env.scope.names.lookup x=df .local)(h2:PGs X es<|Dq i js)
  (hs:(Ė (.Name x ç::es) X.env).map (·.2)=Ű (.Name x ç) X.env::(Ė es X.env).map (·.2)):PGs X (.Name x ç::es) (Dq i<|j::js) :=
 (Jr (Uo hN hi hx hf) h2 hs).imp λxs σ H Q ⟨vs,env,ł,r,e,b,h⟩=>by
  cases vs with
  |nil=>cases b
  |cons v vs =>
   cases r with
   |cons r t=>exact⟨_,_,rfl,vs,env.set j<|df v,ł,t,e.set r j,b,h⟩
def K1:∀{js:List Nat}{vs:List O.Val}{env ł:O.Env},O.bindL js vs env=df ł->vs.length=js.length
 |[],[],_,_,_=>rfl
 |j::js,v::vs,env,_,h=>by rw[Ç,Ç,K1<|show O.bindL js vs (env.set j<|df v)=_ from h]
 |[],_::_,_,_,h=>by cases h
 |_::_,[],_,_,h=>by cases h
def U6{k:Nat}(hK:X.K=i.K)(hc:X.calm=dh)(h:PGs X es<|Dq i js)(hn:(Ė es X.env).length=js.length)(ŭ:(Ė es X.env).findIdx? (·.1)=dg):PG X (.Tuple es k ç) (gPt i<|.many js) :=
 (Cs (n:=js.length) hc h hn ŭ).imp λv σ H Q ⟨u,env,G,ł,r,g,e,b,h⟩=>by
  cases u with
  |tup vs =>
   have b:O.bindL js vs env=df ł:=b;cases r with
   |tup hp hr=>exact⟨_,_,rfl,by rw[hK];exact Zl hp,by rw[<-hr.length];exact K1 b,vs,env,ł,hr,e,b,h⟩
  |_=>cases b
def E2{k k2:Nat}{p1 p2:Pos}(hK:X.K=i.K)(hc:X.calm=dh)(h1:PG X (.Name x p1)<|gPt i<|.one j)(h2:PG X (.Tuple es k2 p2)<|gPt i<|.many js):PG X (.Tuple [.Name x p1,.Tuple es k2 p2] k ç) (gPt i<|.nest j js) :=
 (Cs (n:=2) hc (Jr h1 (Jr h2 pgs_nil rfl) rfl) rfl rfl).imp λv σ H Q ⟨u,env,G,ł,r,g,e,b,h⟩=>by
  cases u with
  |tup vs =>
   cases vs with
   |nil=>cases b
   |cons x0 vs=>cases vs with
    |nil=>cases b
    |cons y vs=>cases vs with
     |cons _ _=>cases b
     |nil =>
      have b:(O.tupOf y).bind (λys=>O.bindL js ys<|env.set j<|df x0)=df ł:=b;cases r with
      |tup hp hr =>
       cases hr with
       |cons r0 t=>cases t with
        |cons r1 t =>cases t;exact⟨_,_,rfl,by rw[hK];exact Zl hp,rfl,_,_,rfl,x0,env,G,_,r0,g,e,rfl,λσ2 e2=>⟨_,_,rfl,y,_,G,ł,r1,g,e2,b,λaG e3=>⟨rfl,h aG e3⟩⟩⟩
  |_=>cases b
def Lh{q:O.Pt}(he:PE X e<|tE X i Φ m)(hg:PG X tg<|gPt i q)(hs:ς [tg] e ç.line X.env=pure di)(hw:υ [tg] e X.env=pure dg)
  (h1:(Ė [tg] X.env).map (·.2)=[Ű tg X.env]):PS X (.Assign [tg] e ç) (tSt X i Φ<|.set q m) :=
 (CY he hg hs hw h1).imp λD σ H ⟨env,G,N,R,B,C,Xe,p,w,c⟩=>by refine⟨env,G,_,Xe env,p.pre,w,λv G1 H1 x k1 g1 r1 w1=>?_⟩;let⟨ł,e2,w1⟩:=dq w1;exact⟨v,env,G1,ł,r1,g1,p.en.keep k1,e2,λσ2 h2=>c.nx ł σ2 G1 H1 k1 g1 h2 w1⟩
abbrev BZ:V->V->V->Hp->(Hp->Prop)->Prop:=λo y v H Q=>GP o y v H Q\/Hk o y v H Q
def D6{G G3:O.Hs}{H:Hp}{o k v:O.Val}{y z x:V}{Q:Hp->Prop}(g:RH i G H)(ry:RV i.K H o y)(rz:RV i.K H k z)(rx:RV i.K H v x)(e:O.ed G o k v=df G3)(c:∀H3,dO H H3->RH i G3 H3->Q H3):BZ y z x H Q:=by
 cases o with
 |ref b =>
  cases ry.ref_inv
  replace e:(match G b with|some (.lst xs)=>(O.eY k).bind λn=>(O.ixN xs.length n).map λj=>O.upd G b (.lst<|xs.set j v)|some (.dct kvs)=>if O.dM k/\kvs.length<O.lim then df (O.upd G b<|.dct<|O.dR kvs k v)else dg|some (.dtp kvs)=>if O.isKeyT k/\kvs.length<O.lim then df (O.upd G b<|.dtp<|O.dR kvs k v)else dg|_=>dg)=df G3:=e
  cases z4:G b with
  |none=>rw[z4]at e;cases e
  |some o =>
   rw[z4]at e;cases o with
   |lst xs =>let⟨n,hn,e⟩:=æ.mp e;let⟨jj,hj,rfl⟩:=Ë.mp e;cases Zy hn;cases rz.int_inv;let⟨vs,h2,r2⟩:=g b _ z4;rw[Mo,r2.length]at hj;let⟨k3,g3⟩:=WN (xs:=xs) g h2 (xs.set jj v) (vs.set jj x)<|r2.set rx jj;exact .inl ⟨b,vs,n,jj,rfl,rfl,h2,hj,c _ k3 g3⟩
   |dct kvs =>let⟨hk,e⟩:=Zn (show(if O.dM k/\kvs.length<O.lim then df (O.upd G b<|.dct<|O.dR kvs k v)else dg)=df G3 from e);cases e;let⟨ps,h2,r2⟩:=g b _ z4;let⟨d,kr,rfl⟩:=dI hk.1 rz;let⟨k3,g3⟩:=MO (kvs:=kvs) g h2<|r2.put kr rx;exact .inr ⟨b,_,rfl,DPut.k h2 (by rw[<-RKs.length r2];exact å hk.2 ZT),c _ k3 g3⟩
   |dtp kvs =>let⟨hk,e⟩:=Zn (show(if O.isKeyT k/\kvs.length<O.lim then df (O.upd G b<|.dtp<|O.dR kvs k v)else dg)=df G3 from e);cases e;let⟨ps,h2,r2⟩:=g b _ z4;let⟨a1,a2,d,rfl,rfl,hd⟩:=WO hk.1 rz;let⟨k3,g3⟩:=ES g h2<|r2.put (i:=a1) (j:=a2) rx;exact .inr ⟨b,_,rfl,DPut.t h2 hd (by rw[<-RTs.length r2];exact å hk.2 ZT),c _ k3 g3⟩
   |_=>cases e
 |_=>cases e
def AY{a j:Expr}{ma mj:O.E}{Ζ:Pos}(hK:X.K=i.K)(he:PE X e<|tE X i Φ m)(ha:PE X a<|tE X i Φ ma)(hj:PE X j<|tE X i Φ mj)(hgl:PG X (.Subscript a j Ζ)<|QX (tE X i Φ ma) (tE X i Φ mj) BZ)(hs:ς [.Subscript a j Ζ] e ç.line X.env=pure di)(hw:υ [.Subscript a j Ζ] e X.env=pure dg)
  (h1:(Ė [.Subscript a j Ζ] X.env).map (·.2)=[Ű (.Subscript a j Ζ) X.env]):PS X (.Assign [.Subscript a j Ζ] e ç) (tSt X i Φ<|.setIdx ma mj m) :=
 (CY he hgl hs hw h1).imp λD σ H ⟨env,G,N,R,B,C,Xe,p,w,c⟩=>by refine⟨env,G,_,Xe env,p.pre,w,λv G1 H1 x k1 g1 r1 w1=>?_⟩;refine two (p.go k1 g1<|p.en.keep k1).pre w1 λo k G2 H2 y z k2 p2 ry rz q=>?_;let⟨G3,e3,q⟩:=dq q;exact D6 p2.hp ry rz (r1.keep k2) e3 λH3 k3 g3=>c.nx env σ _ _ ((k1.trans k2).trans k3) g3 (p2.en.keep k3) q
structure ItOk(i:Inf)(H0:Hp)(J:It)(st:O.Hs->Prop)(xs:List O.Val):Prop where
 go:∀n G H v,dO H0 H->RH i G H->st G->xs[n]?=df v->J.go n H/\∀x H',J.yld n H x H'->dO H H'/\RH i G H'/\RV i.K H' v x
 stop:∀n G H,dO H0 H->RH i G H->st G->xs.length<=n->J.stop n H
abbrev tIt(X:Cx)(i:Inf)(Φ:O.Fs)(m:O.It):TI:=λσ H R=>∃env G QI Em,Pre X i σ H env G Em/\O.wI Φ m env G QI Em/\∀st xs G' H' J,dO H H'->RH i G' H'->ItOk i H' J st xs->QI st xs G'->R J H'
variable {tg:Expr} {e:Expr}
def _root_.L2.PI.imp{t t':TI}(h:PI X tg e t)(f:∀σ H Q,t' σ H Q->t σ H Q):PI X tg e t':=λÁ s σ H Q I q=>h Á s σ H Q I (f σ H Q q)
abbrev RW(K:Frag)(tl:TE):TI:=λσ H R=>tl σ H λx H1=>∃a,x=.ref a/\(((∃xs,eS K H1 a xs)/\R (Itl K a) H1)\/((∃xs,eU K H1 a xs)/\R (Itt K a) H1))
def HZ{l:Expr}{tl:TE}(hl:PE X l tl):PI X tg l<|RW X.K tl:=by
 intro Á s σ H R I h;refine thn (hl Á s σ H _ I h) λv s1 ⟨x,H1,I1,r1,q1⟩=>?_;let⟨a,e,q1⟩:=q1;subst e;cases r1;rcases q1 with⟨⟨xs,hq⟩,q⟩|⟨⟨xs,hq⟩,q⟩
 .obtain⟨ð,rv,p,hz⟩:=I1.list hq;refine aj p.isList ?_;refine⟨s1.heap.objs.size,[s1.heap.objs.size],_,_,H1,rfl,I1.kept (t':=s1.toks) λb o e=>Ä _ e,Bj a _,⟨_,Ý _ rfl,rfl,rfl⟩,λb hb=>?_,q⟩;have e:b=s1.heap.objs.size:=⇑hb
  subst e;exact I1.fpOk (Ï _)<|I1.hok.fresh<|Ï _
 .obtain⟨ð,rv,p,hz⟩:=I1.tuple hq;refine ň (show s1.heap.IsTuple a ð.toArray from p) ?_;refine⟨s1.heap.objs.size,[s1.heap.objs.size],_,_,H1,rfl,I1.kept (t':=s1.toks) λb o e=>Ä _ e,Ov a _,⟨_,Ý _ rfl,rfl,rfl⟩,λb hb=>?_,q⟩;have e:b=s1.heap.objs.size:=⇑hb
  subst e;exact I1.fpOk (Ï _)<|I1.hok.fresh<|Ï _
variable {H0:Hp} {a:Ì} {xs:List O.Val}
def it_lst:ItOk i H0 (Itl i.K a) (λg=>O.dF (g a)=df xs) xs where
 go:=λn G H v _ g e hv=>by let⟨vs,h1,h2⟩:=ZI g e;let⟨x,h3,h4⟩:=h2.get hv;refine⟨⟨vs,x,h1,h3⟩,λy H' ⟨e1,e2⟩=>?_⟩;subst e1;have:=e2 vs h1;rw[h3]at this;cases this;exact⟨dO.refl _,g,h4⟩
 stop:=λn G H _ g e hn=>by let⟨vs,h1,h2⟩:=ZI g e;exact⟨vs,h1,by rw[<-h2.length];exact hn⟩
def it_tup{vs:List V}(hp:H0 a=df (.tup vs)\/KT i.K a vs)(hr:RVs i.K H0 xs vs):ItOk i H0 (Itt i.K a) (λ_=>True) xs where
 go:=λn G H v k g e hv=>by have hp':H a=df (.tup vs)\/KT i.K a vs:=hp.imp (k.t _ _) id;let⟨x,h3,h4⟩:=(hr.keep k).get hv;refine⟨⟨vs,x,Zl hp',h3⟩,λy H' ⟨e1,e2⟩=>?_⟩;subst e1;have:=e2 vs<|Zl hp';rw[h3]at this;cases this;exact⟨dO.refl _,g,h4⟩
 stop:=λn G H k g e hn=>by have hp':H a=df (.tup vs)\/KT i.K a vs:=hp.imp (k.t _ _) id;exact⟨vs,Zl hp',by rw[<-hr.length];exact hn⟩
def it_scr{ns:List Int}(h:(∃o,H0 a=df (.frz o<|.lst<|ns.map V.int))\/KL i.K a (ns.map V.int)):ItOk i H0 (Itl i.K a) (λ_=>True) (ns.map .int) where
 go:=λn G H v k g e hv=>by have h':eS i.K H a<|ns.map V.int:=Z2<|h.imp (λ⟨o,e⟩=>⟨o,k.f _ _ _ e⟩) id;let⟨x,h3,h4⟩:=(RVs.ints (K:=i.K) (H:=H) ns).get hv;refine⟨⟨_,x,h',h3⟩,λy H' ⟨e1,e2⟩=>?_⟩;subst e1;have:=e2 _ h';rw[h3]at this;cases this;exact⟨dO.refl _,g,h4⟩
 stop:=λn G H k g e hn=>⟨_,Z2<|h.imp (λ⟨o,e⟩=>⟨o,k.f _ _ _ e⟩) id,⇑hn⟩
def CN{lo hi:Int}{n:Nat}(hn:n=(hi - lo).toNat):ItOk i H0 (Itr lo n) (λ_=>True) (O.dZ lo hi) where
 go:=λk G H v _ g _ hv=>by
  unfold O.dZ at hv;rw[Ø]at hv;have hk:k<(hi - lo).toNat:=by
   by_cases h:k<(hi - lo).toNat
   .exact h
   .rw[ť<|by simpa using h]at hv;cases hv
  rw[List.getElem?_range hk]at hv;cases hv;refine⟨by rw[hn];exact hk,λx H' ⟨e1,e2⟩=>?_⟩;subst e1 e2;exact⟨dO.refl _,g,.int _⟩
 stop:=λk G H _ g _ hk=>by unfold O.dZ at hk;show n<=k;simp at hk;lia
variable {m:O.E}
def LX(hK:X.K=i.K)(he:PE X e<|tE X i Φ m):PI X tg e (tIt X i Φ<|.seq m) :=
 (HZ he).imp λσ H R ⟨env,G,QI,Em,p,w,c⟩=>by
  refine one p w λv G1 H1 x k1 p1 r q=>?_;let⟨⟨st,xs⟩,e1,q2⟩:=dq q;clear q;rw[hK];cases v with
  |tup ys =>
   cases e1;cases r with
   |tup hp hr=>exact⟨_,rfl,.inr ⟨⟨_,Zl hp⟩,c _ _ G1 H1 _ k1 p1.hp (it_tup hp hr) q2⟩⟩
  |scr ns =>
   cases e1;cases r with
   |scr h=>exact⟨_,rfl,.inl ⟨⟨_,Z2 h⟩,c _ _ G1 H1 _ k1 p1.hp (it_scr h) q2⟩⟩
  |ref a =>
   cases r.ref_inv;simp only[O.itV]at e1;cases z:O.dF (G1 a)with
   |none=>rw[z]at e1;cases e1
   |some ys =>rw[z]at e1;cases e1;let⟨vs,h1,h2⟩:=ZI p1.hp z;exact⟨a,rfl,.inl ⟨⟨vs,h1⟩,c _ _ G1 H1 _ k1 p1.hp it_lst q2⟩⟩
  |_=>cases e1
variable {p:Pos} {ç:Pos}
def BN{a:Expr}(hg:Gl X "range")(hm:X.mg "range" = dg)(ha:PE X a<|tE X i Φ m)(hs:Ó [a] X.env=[(di,eval a X.env)]):PI X tg (.Call (.Name "range" p) [a] [] ç) (tIt X i Φ<|.range m) :=
 (AI hg hm (ZY ha eQ<|by rw[hs];rfl) hs).imp λσ H R ⟨env,G,QI,Em,p,w,c⟩=>by refine one p w λv G1 H1 x k1 p1 r q=>?_;let⟨n,e1,q2⟩:=dq q;clear q;cases Zy e1;cases r.int_inv;exact⟨n,rfl,q2.1.1,q2.1.2,c _ _ G1 H1 _ k1 p1.hp (CN<|by rw[bG]) q2.2⟩
def Bs{a b:Expr}{ma mb:O.E}(hg:Gl X "range")(hm:X.mg "range" = dg)(ha:PE X a<|tE X i Φ ma)(hb:PE X b<|tE X i Φ mb)(hs:Ó [a,b] X.env=[(di,eval a X.env),(di,eval b X.env)])(hs1:Ó [b] X.env=[(di,eval b X.env)]) :
  PI X tg (.Call (.Name "range" p) [a,b] [] ç) (tIt X i Φ<|.range2 ma mb) :=
 (Bq hg hm (ZY ha (ZY hb eQ<|by rw[hs1];rfl)<|by rw[hs,hs1]) hs hs1).imp λσ H R ⟨env,G,QI,Em,p,w,c⟩=>by refine two p w λv u G1 H1 x y k1 p1 rx ry q=>?_;let⟨n,e1,q1⟩:=dq q;let⟨m,e2,q2⟩:=dq q1;clear q q1;cases Zy e1;cases Zy e2;cases rx.int_inv;cases ry.int_inv;exact⟨n,m,rfl,q2.1,c _ _ G1 H1 _ k1 p1.hp (CN rfl) q2.2⟩
variable {body:List ĭ} {mb:O.Ss}
def Ia{Ś:Expr}{q:O.Pt}{mi:O.It}(hp:Ž (â X.prog X.w) X.A X.env X.xe)(hc:X.calm=dh)(hi:PI X tg Ś<|tIt X i Φ mi)(hg:PG X tg<|gPt i q)(hb:PSs X body<|tBl X i Φ mb)
  (hs:∀x,ď Ś X.env x=pure x):PS X (.For tg Ś body [] ç) (tSt X i Φ<|.for q mi mb) :=
 (Cp hp hc hi hg hb hs).imp λD σ H ⟨env,G,N,R,B,C,Xe,p,w,c⟩=>by
  refine⟨env,G,_,Xe env,p.pre,w,λst xs G1 H1 J k1 g1 it w1=>?_⟩;refine⟨λn m Ń H'=>n+m=xs.length/\∃Ĳ G',dO H1 H'/\RH i G' H'/\REn i.K H' Ĳ Ń/\O.wFor st (λv e g K M=>O.go (O.bind q g v e) λe2=>O.wSs Φ mb e2 g K R M K Xe) N (xs.drop n) Ĳ G',⟨xs.length,by lia,env,G1,dO.refl _,g1,p.en.keep k1,⇑w1⟩,?_⟩;rintro n m Ń H' ⟨hnm,Ĳ,G',k2,g2,e2,w2⟩;by_cases hn:n<xs.length
  .right;have hd:xs.drop n=xs[n]::xs.drop (n+1):=Œ hn;rw[hd]at w2;let⟨s2,w2⟩:=w2;have hv:xs[n]?=df xs[n]:=Ê hn;let⟨a1,a2⟩:=it.go n G' H' xs[n] k2 g2 s2 hv;refine⟨a1,λaG H3=>∃env3 G3,dO H1 H3/\RH i G3 H3/\REn i.K H3 env3 aG/\O.wFor st (λv e g K M=>O.go (O.bind q g v e) λe2=>O.wSs Φ mb e2 g K R M K Xe) N (xs.drop<|n+1) env3 G3,λaG H3 h=>⟨m - 1,by lia,by lia,h⟩,λx H3 hy=>?_⟩;let⟨k3,g3,r3⟩:=a2 x H3 hy;let⟨bT,e4,w4⟩:=dq w2;refine⟨xs[n],Ĳ,G',bT,r3,g3,e2.keep k3,e4,λσ4 h4=>?_⟩;have kk:dO H H3:=(k1.trans k2).trans k3;refine⟨bT,G',_,R,N,_,Xe,p.go kk g3 h4,w4,⟨λap σ5 G5 H5 k5 g5 e5 w5=>?_,(c.go kk).rt,(c.go kk).nx,λap σ5 G5 H5 k5 g5 e5 w5=>?_⟩⟩
   .exact⟨ap,G5,(k2.trans k3).trans k5,g5,e5,w5⟩
   .exact⟨ap,G5,(k2.trans k3).trans k5,g5,e5,w5⟩
  .left;have hd:xs.drop n=[]:=π (by lia);rw[hd]at w2;exact⟨it.stop n G' H' k2 g2 w2.1 (by lia),c.nx Ĳ Ń G' H' (k1.trans k2) g2 e2 w2.2⟩
def IF{t:Expr}{mt:O.Tt}(hp:Ž (â X.prog X.w) X.A X.env X.xe)(ht:PT X t<|tTt X i Φ mt)(hb:PSs X body<|tBl X i Φ mb):PS X (.While t body [] ç) (tSt X i Φ<|.whl mt mb) :=
 (DZ hp ht hb).imp λD σ H ⟨env,G,N,R,B,C,Xe,p,w,c⟩=>by
  let⟨n,w⟩:=w;refine⟨λm Ń H'=>∃Ĳ G',dO H H'/\RH i G' H'/\REn i.K H' Ĳ Ń/\O.wWhile (λe g K=>O.wT Φ mt e g K<|Xe e) (λe g K M=>O.wSs Φ mb e g K R M K Xe) N m Ĳ G',⟨n,env,G,dO.refl H,p.hp,p.en,w⟩,?_⟩;rintro m Ń H' ⟨Ĳ,G',k1,g1,e1,w1⟩;cases m with
  |zero=>cases w1
  |succ m =>
   have w1:O.wT Φ mt Ĳ G' _<|Xe Ĳ:=w1;have p1:=p.go k1 g1 e1;refine⟨Ĳ,G',_,Xe Ĳ,p1.pre,w1,λd G2 H2 k2 g2 q=>?_⟩;cases d with
   |true =>refine⟨λaG H3=>∃env3 G3,dO H H3/\RH i G3 H3/\REn i.K H3 env3 aG/\O.wWhile (λe g K=>O.wT Φ mt e g K<|Xe e) (λe g K M=>O.wSs Φ mb e g K R M K Xe) N m env3 G3,λaG H3 h=>⟨m,Č _,h⟩,?_⟩;have kk:=k1.trans k2;refine⟨Ĳ,G2,_,R,N,_,Xe,p.go kk g2<|e1.keep k2,⇑q,⟨λap σ5 G5 H5 k5 g5 e5 w5=>⟨ap,G5,kk.trans k5,g5,e5,w5⟩,(c.go kk).rt,(c.go kk).nx,λap σ5 G5 H5 k5 g5 e5 w5=>⟨ap,G5,kk.trans k5,g5,e5,w5⟩⟩⟩
   |false=>exact c.nx Ĳ Ń G2 H2 (k1.trans k2) g2 (e1.keep k2) ⇑q
def LT:Wt i .len λxs H Q=>((∃p ys,xs=[.ref p]/\(eS i.K H p ys\/eU i.K H p ys)/\Q (.int ys.length) H)\/∃z,xs=[.str z]/\z.length<=Ü/\Q (.int z.length) H)\/∃a kvs,xs=[V.ref a]/\H a=df (.dK kvs)/\Q (.int kvs.length) H:=by
 intro vs G H xs Q Qm g r w c;let⟨v,rfl,w⟩:=Yo w;let⟨x,rfl,rx⟩:=r.inv1;cases v with
 |ref a =>
  cases rx.ref_inv
  replace w:(match G a with|some (.lst xs)=>.val (.int xs.length)|some (.dct kvs)=>.val (.int kvs.length)|_=>.no:O.Rs).wp G Qm:=w
  cases z:G a with
  |none=>rw[z]at w;exact(Zh w).elim
  |some o =>
   rw[z]at w;cases o with
   |lst ys =>let⟨us,h1,h2⟩:=g a _ z;refine .inl<|.inl ⟨a,us,rfl,.inl<|eS.of h1,?_⟩;rw[<-h2.length];exact c _ G H _ (dO.refl H) g (.int _)<|Zg w
   |dct kvs =>let⟨ps,h1,h2⟩:=g a _ z;refine .inr ⟨a,ps,rfl,h1,?_⟩;rw[<-h2.length];exact c _ G H _ (dO.refl H) g (.int _)<|Zg w
   |_=>exact(Zh w).elim
 |tup ys =>
  cases rx with
  |tup hp hr =>refine .inl<|.inl ⟨_,_,rfl,.inr<|Zl hp,?_⟩;rw[<-hr.length];exact c _ G H _ (dO.refl H) g (.int _)<|Zg w
 |scr ns =>
  cases rx with
  |scr h =>refine .inl<|.inl ⟨_,_,rfl,.inl<|Z2 h,?_⟩;rw[À];exact c _ G H _ (dO.refl H) g (.int _)<|Zg w
 |str s =>cases rx.str_inv;let⟨hl,w⟩:=XY w;refine .inl (.inr ⟨_,rfl,by rw[Zv];exact Ô hl ZT,?_⟩);rw[Zv];exact c _ G H _ (dO.refl H) g (.int _)<|Zg w
 |_=>exact(Zh w).elim
def FL:Wt i .list λxs H Q=>∃p ys,xs=[.ref p]/\(eS i.K H p ys\/eU i.K H p ys)/\∀l,H l=dg->Q (.ref l) (upd H l<|.lst ys):=by
 intro vs G H xs Q Qm g r w c;let⟨v,rfl,w⟩:=Yo w;let⟨x,rfl,rx⟩:=r.inv1;cases v with
 |ref a =>cases rx.ref_inv;let⟨ys,e,w⟩:=M1 (f:=λxs=>.new<|.lst xs) w;let⟨us,h1,h2⟩:=g a _ e;exact⟨a,us,rfl,.inl<|eS.of h1,Yn g (N8 w) c λp hp=>⟨_,dk,h2.keep<|dO.new hp⟩⟩
 |tup ys =>
  cases rx with
  |tup hp hr=>exact⟨_,_,rfl,.inr<|Zl hp,Yn g (N8 w) c λp hp=>⟨_,dk,hr.keep<|dO.new hp⟩⟩
 |_=>exact(Zh w).elim
variable {H:Hp}
def A6{K:Frag}:∀{xs:List O.Val}{bs:List Bool}{vs:List V},O.blsOf xs=df bs->RVs K H xs vs->vs=bs.map V.bl:=by
 intro xs;induction xs with
 |nil=>intro bs vs e r;cases e;cases r;rfl
 |cons v xs ih =>
  intro bs vs e r;cases v<;>first|(cases e;done)|skip
  case bl b =>
  simp only[O.blsOf]at e;cases z:O.blsOf xs with
  |none=>rw[z]at e;cases e
  |some ns=>rw[z]at e;cases e;cases r with|cons a t=>cases a.bl_inv;rw[ih z t];rfl
def LL{o:Option O.Val}{h:O.Hs}{Q:O.Q1}(w:(O.Rs.ofO o).wp h Q):∃v,o=df v/\Q v h:=by
 cases o with
 |none=>exact(Zh w).elim
 |some v=>exact⟨v,rfl,Zg w⟩
def LQ:Wt i .all λxs H Q=>∃p,∃bs:List Bool,xs=[.ref p]/\eS i.K H p (bs.map V.bl)/\Q (.bl<|bs.all id) H:=by
 intro vs G H xs Q Qm g r w c;let⟨v,rfl,w⟩:=Yo w;let⟨x,rfl,rx⟩:=r.inv1;cases v with
 |ref a =>cases rx.ref_inv;let⟨v,e,w⟩:=LL w;let⟨ys,z,e⟩:=æ.mp e;let⟨bs,z2,rfl⟩:=Ë.mp e;let⟨us,h1,h2⟩:=ZI g z;have:=A6 z2 h2;subst this;exact⟨a,bs,rfl,h1,c _ G H _ (dO.refl H) g (.bl _) w⟩
 |_=>exact(Zh w).elim
def LI:Wt i .abs λxs H Q=>∃i,xs=[.int i]/\Q (.int<|if i<0 then -i else i) H:=by
 intro vs G H xs Q Qm g r w c;let⟨v,rfl,w⟩:=Yo w;let⟨x,rfl,rx⟩:=r.inv1;cases v with
 |int a=>cases rx.int_inv;exact⟨a,rfl,c _ G H _ (dO.refl H) g (.int _)<|Zg w⟩
 |_=>exact(Zh w).elim
set_option exponentiation.threshold 2000 in
def IW{k:Int}(h:k.natAbs<10 ^ 200):k.natAbs.log2<1920:=by
 have e:(10:Nat) ^ 200<2 ^ 1920:=by decide
 by_cases h0:k.natAbs=0
 .rw[h0];decide
 .exact(Nat.log2_lt h0).mpr<|Ŵ h e
def DW(ds:List O.D)(d:O.D):(toDs ds).any (λe=>ġ e<|toD d)=ds.any λe=>O.D.eqv e d:=by
 induction ds with
 |nil=>rfl
 |cons e es ih=>simp only[toDs,Ħ,ih,Mp]
variable {G:O.Hs} {y:V} {ys:List O.Val}
def Us(g:RH i G H){v u:O.Val}{x:V}{c:Bool}(rx:RV i.K H v x)(e:O.inL G v ys=df c)(hy:∀ds,ys.mapM (O.dat G<|O.deep - 1)=df ds->IsD i.K H y (.tuple<|toDs ds)\/IsD i.K H y (.list<|toDs ds)) :
  ∃ds d,(IsD i.K H y (.tuple ds)\/IsD i.K H y (.list ds))/\IsD i.K H x d/\Ł ds=dh/\d.canLay0=dh/\d.depth<=64/\ds.any (λe=>ġ e d)=c:=by
 unfold O.inL at e;cases z:O.dat G O.deep v with
 |none=>rw[z]at e;cases e
 |some d =>
  rw[z]at e;simp only[í]at e;cases z2:ys.mapM (O.dat G<|O.deep - 1)with
  |none=>rw[z2]at e;cases e
  |some ds =>rw[z2]at e;cases e;exact⟨_,_,hy ds z2,X7 g _ _ _ _ z rx,toDs_lay ds,K6 d,Ô (KD _ _ _ z) (by decide),DW ds d⟩
def O6(g:RH i G H){u:O.Val}(ry:RV i.K H u y)(hu:u=.tup ys\/∃a,u=.ref a/\O.dF (G a)=df ys):∀ds,ys.mapM (O.dat G<|O.deep - 1)=df ds->IsD i.K H y (.tuple<|toDs ds)\/IsD i.K H y (.list<|toDs ds):=by
 intro ds hd;rcases hu with rfl|⟨a,rfl,hl⟩
 .left;have:=X7 g O.deep (.tup ys) (.tup ds) y (by show Option.map _ (List.mapM (O.dat G<|O.deep - 1) ys)=_;rw[hd];rfl) ry;simpa[toD]using this
 .right;have:=X7 g O.deep (.ref a) (.lst ds) y (by show(O.dF<|G a).bind _=_;rw[hl];show Option.map _ (List.mapM (O.dat G<|O.deep - 1) ys)=_;rw[hd];rfl) ry;simpa[toD]using this
def LU(s t:String)(c:Char)(h:O.oneC s=df c):(!(Builtin.Str.occurrences (fo t) (fo s) 0 (fo t).length 1).isEmpty)=fm (c∈t.toList):=by
 have e:fo s=⟨#[c.toNat]⟩:=by
  unfold O.oneC at h;split at h
  .rename_i d hd;cases h;rw[Str.ofString_eq_toList,hd];rfl
  .cases h
 rw[e,StrLaws.found_one,Kr];have inj:∀{a b:Char},a.toNat=b.toNat->a=b:=λ{a b} e=>Char.ext<|aO e;by_cases hc:c∈t.toList
 .rw[fi hc,fj];exact û hc
 .rw[fh hc,decide_eq_false_iff_not];intro m;let⟨d,hd,he⟩:=Þ.mp m;exact hc<|inj he▸hd
abbrev Qg(K:Frag):R2:=λx y H Q=>Eu di x y H Q\/Fe K di x y H Q\/∃i j,x=.str i/\y=.str j/\Q (.bl (!(Builtin.Str.occurrences j i 0 j.length 1).isEmpty)) H
abbrev Qz(K:Frag):R2:=λx y H Q=>Eu dh x y H Q\/Fe K dh x y H Q\/∃i j,x=.str i/\y=.str j/\Q (.bl (!(!(Builtin.Str.occurrences j i 0 j.length 1).isEmpty))) H
def RE(hu:X.A.units+65<Ĥ):OpR X (é .In)<|Qg X.K:=(IT<|by lia).or ((LW hu).or Av)
def R0(hu:X.A.units+65<Ĥ):OpR X (é .NotIn)<|Qz X.K:=(Hy<|by lia).or ((Bl hu).or ML)
def GO{v u:O.Val}{G:O.Hs}{H:Hp}{x y:V}{b:Bool}(g:RH i G H)(rx:RV i.K H v x)(ry:RV i.K H u y)(e:O.inV G v u=df b) :
  (∃ds d,(IsD i.K H y (.tuple ds)\/IsD i.K H y (.list ds))/\IsD i.K H x d/\Ł ds=dh/\d.canLay0=dh/\d.depth<=64/\ds.any (λe=>ġ e d)=b)\/
  (∃j k,x=.str j/\y=.str k/\(!(Builtin.Str.occurrences k j 0 k.length 1).isEmpty)=b)\/∃a o,y=.ref a/\DGet H a x o/\o.isSome=b:=by
 cases u with
 |tup ys=>exact .inl<|Us (u:=.tup ys) g rx e<|O6 g ry<|.inl rfl
 |ref a =>
  replace e:(match G a with|some (.lst xs)=>O.inL G v xs|some (.dct kvs)=>if O.dM v then df (O.dQ kvs v)else dg|some (.frz kvs)=>if O.dM v then df (O.dQ kvs v)else dg|some (.dtp kvs)=>if O.isKeyT v then df (O.dQ kvs v)else dg|_=>dg)=df b:=e
  cases z:G a with
  |none=>rw[z]at e;cases e
  |some o =>
   rw[z]at e;cases o with
   |lst ys=>exact .inl (Us (u:=.ref a) g rx e<|O6 g ry<|.inr ⟨a,rfl,by rw[z];rfl⟩)
   |dct kvs =>let⟨hk,e⟩:=Zn (show(if O.dM v then df (O.dQ kvs v)else dg)=df b from e);cases e;let⟨ps,h1,h2⟩:=g a _ z;let⟨d,kr,rfl⟩:=dI hk rx;exact .inr (.inr ⟨a,_,ry.ref_inv,DGet.k h1,by rw[h2.has kr,Y6]⟩)
   |frz kvs =>let⟨hk,e⟩:=Zn (show(if O.dM v then df (O.dQ kvs v)else dg)=df b from e);cases e;let⟨ob,ps,h1,h2⟩:=g a _ z;let⟨d,kr,rfl⟩:=dI hk rx;exact .inr (.inr ⟨a,_,ry.ref_inv,.inl ⟨ps,d,.inr ⟨ob,h1⟩,rfl,rfl⟩,by rw[h2.has kr,Y6]⟩)
   |dtp kvs =>let⟨hk,e⟩:=Zn (show(if O.isKeyT v then df (O.dQ kvs v)else dg)=df b from e);cases e;let⟨ps,h1,h2⟩:=g a _ z;let⟨k1,k2,d,rfl,rfl,hd⟩:=WO hk rx;exact .inr (.inr ⟨a,_,ry.ref_inv,DGet.t h1 hd,by rw[h2.has,Y6]⟩)
   |_=>cases e
 |str t =>
  cases v with
  |str s =>let⟨c,z,rfl⟩:=Ë.mp e;exact .inr<|.inl ⟨_,_,rx.str_inv,ry.str_inv,LU s t c z⟩
  |_=>cases e
 |_=>cases e
def F8{o:Option Bool}{b:Bool}(e:o.map (!·)=df b):o=df (!b):=by let⟨c,z,rfl⟩:=Ë.mp e;rw[z,Ϟ]
def Rt:Z0 i .isin<|Qg i.K:=by
 intro v u G H x y c Q g rx ry e q;rcases GO g rx ry e with⟨ds,d,h1,h2,h3,h4,h5,h6⟩|⟨j,k,h1,h2,h3⟩|⟨a,o,h1,h2,h3⟩
 .exact .inr (.inl ⟨ds,d,h1,h2,h3,h4,h5,by show Q (.bl<|List.any _ _) H;rw[h6];exact q⟩)
 .exact .inr (.inr ⟨j,k,h1,h2,by rw[h3];exact q⟩)
 .exact .inl ⟨a,o,h1,h2,by rw[h3,aq];exact q⟩
def RK:Z0 i .notin<|Qz i.K:=by
 intro v u G H x y c Q g rx ry e q;rcases GO g rx ry (F8 e)with⟨ds,d,h1,h2,h3,h4,h5,h6⟩|⟨j,k,h1,h2,h3⟩|⟨a,o,h1,h2,h3⟩
 .exact .inr (.inl ⟨ds,d,h1,h2,h3,h4,h5,by show Q (.bl (!List.any _ _)) H;rw[h6,Ϟ];exact q⟩)
 .exact .inr (.inr ⟨j,k,h1,h2,by rw[h3,Ϟ];exact q⟩)
 .exact .inl ⟨a,o,h1,h2,by rw[h3,aP,Ϟ];exact q⟩
variable {a:Expr} {b:Expr} {d:Expr} {ma:O.E} {mb:O.E} {op:bv} {cu:bv} {cop:O.Cop} {cop':O.Cop} {r:R2} {r':R2} {ç:Pos}
def Fh{md:O.E}(ho:OpR X (é op) r)(hr:Z0 i cop r)(ϩ:OpR X (é cu) r')(hr':Z0 i cop' r')(ha:PE X a<|tE X i Φ ma)(hb:PE X b<|tE X i Φ mb)(hd:PE X d<|tE X i Φ md)(hm:aA [op,cu] [b,d]=di) :
  PE X (.Compare a [op,cu] [b,d] ç) (tE X i Φ<|.chain cop cop' ma mb md) :=
 (Cv ho ϩ ha hb hd hm).imp λσ H Q ⟨env,G,Qm,Em,p,w,k⟩=>by
  exact two p w λv u G2 H2 x y k2 p2 rx ry q=>by
   let⟨c,e,q⟩:=dq q;refine hr v u G2 H2 x y c _ p2.hp rx ry e ⟨c,rfl,?_⟩;cases c with
   |true =>
    rw[ff rfl]at q ⊢;exact one p2 q λt G3 H3 z k3 p3 rz q=>by let⟨d2,e2,q⟩:=dq q;exact hr' u t G3 H3 y z d2 Q p3.hp (ry.keep k3) rz e2<|k (.bl d2) G3 H3 (.bl d2) (k2.trans k3) p3.hp (.bl d2) q
   |false =>rw[fg ø]at q ⊢;exact k _ G2 H2 _ k2 p2.hp (.bl _) q
def DO{md:O.E}(ho:OpR X (é op) r)(hr:Z0 i cop r)(ϩ:OpR X (é cu) r')(hr':Z0 i cop' r')(ha:PE X a<|tE X i Φ ma)(hb:PE X b<|tE X i Φ mb)(hd:PE X d<|tE X i Φ md)(hm:aA [op,cu] [b,d]=di) :
  PT X (.Compare a [op,cu] [b,d] ç) (tTt X i Φ<|.val<|.chain cop cop' ma mb md) :=
 (CW ho ϩ ha hb hd hm).imp λσ H Q ⟨env,G,Qm,Em,p,w,k⟩=>by
  exact two p w λv u G2 H2 x y k2 p2 rx ry q=>by
   let⟨c,e,q⟩:=dq q;refine hr v u G2 H2 x y c _ p2.hp rx ry e ⟨c,rfl,?_⟩;cases c with
   |true =>
    rw[ff rfl]at q ⊢;exact one p2 q λt G3 H3 z k3 p3 rz q=>by let⟨d2,e2,q⟩:=dq q;let⟨d3,e3,q⟩:=dq q;cases e3;exact hr' u t G3 H3 y z d2 _ p3.hp (ry.keep k3) rz e2 ⟨d2,rfl,k d2 G3 H3 (k2.trans k3) p3.hp q⟩
   |false =>rw[fg ø]at q ⊢;let⟨d3,e3,q⟩:=dq q;cases e3;exact⟨di,rfl,k _ G2 H2 k2 p2.hp q⟩
def Dw{st:ĭ}:PS X st<|tSt X i Φ .never:=λÁ s σ H D I ⟨env,G,N,R,B,C,Xe,p,w,c⟩=>by exact w.elim
end Snd
namespace L2
open PySem PySem.Spec PyProof.Rows
def GZ{x:V}{xs:List V}{ð:List Â}(hl:(x::xs).length=ð.length):(ð.toArray.size != (#[]:Array Â).size)=dh:=by
 cases ð with
 |nil=>cases hl
 |cons y ys=>simp
section
variable {X:Cx}
abbrev Eh(K:Frag)(n:Bool):R2:=λx y H Q=>∃a b xs,x=.ref a/\y=.ref b/\eS K H a xs/\eS K H b []/\Q (.bl<|n ^^ xs.isEmpty) H
def DL(hu:X.A.units+64<Ĥ):OpR X (é .Eq)<|Eh X.K di:=by
 intro Á s σ H x y v u Q I rx ry h;let⟨a,b,xs,rfl,rfl,ha,hb,q⟩:=h;cases rx;cases ry;let⟨ð,rv,pl,_⟩:=I.list ha;let⟨ϱ,rv2,pl2,_⟩:=I.list hb;cases rv2;have hl:=rv.length;cases xs with
 |nil =>have:ð=[]:=ŗ.mp hl.symm;subst this;exact SeqAt.RcAt.lists (A:=X.A) (e:=λ_=>dh) pl.isList pl2.isList rfl (by lia) (λj j1 _=>by simp at j1) X.prog X.w X.xe _ ⟨.bl dh,H,I,rfl,q⟩
 |cons x xs =>exact SeqAt.RcAt.lists_lengths (A:=X.A) pl.isList pl2.isList (GZ hl) (by lia) X.prog X.w X.xe _ ⟨.bl di,H,I,rfl,q⟩
def Cu(hu:X.A.units+64<Ĥ):OpR X (é .NotEq)<|Eh X.K dh:=by
 intro Á s σ H x y v u Q I rx ry h;let⟨a,b,xs,rfl,rfl,ha,hb,q⟩:=h;cases rx;cases ry;let⟨ð,rv,pl,_⟩:=I.list ha;let⟨ϱ,rv2,pl2,_⟩:=I.list hb;cases rv2;have hl:=rv.length;cases xs with
 |nil =>have:ð=[]:=ŗ.mp hl.symm;subst this;exact SeqAt.RcNeAt.lists (A:=X.A) (e:=λ_=>dh) pl.isList pl2.isList rfl (by lia) (λj j1 _=>by simp at j1) X.prog X.w X.xe _ ⟨.bl di,H,I,rfl,q⟩
 |cons x xs =>exact SeqAt.RcNeAt.lists_lengths (A:=X.A) pl.isList pl2.isList (GZ hl) (by lia) X.prog X.w X.xe _ ⟨.bl dh,H,I,rfl,q⟩
end
end L2
namespace Snd
open PySem L2
variable {i:Inf}{G:O.Hs}{H:Hp}
variable {x:V} {xs:List O.Val}
def Ky(g:RH i G H){v:O.Val}(r:RV i.K H v x)(e:O.asLst G v=df xs):∃a vs,x=.ref a/\eS i.K H a vs/\RVs i.K H xs vs:=by
 cases v with
 |ref a =>cases r;let⟨vs,h1,h2⟩:=ZI g e;exact⟨a,vs,rfl,h1,h2⟩
 |_=>cases e
def N0(g:RH i G H){v u:O.Val}{y:V}(rx:RV i.K H v x)(ry:RV i.K H u y){c:Bool}{f:List O.Val->List O.Val->Option Bool}(e:((O.asLst G v).bind λxs=>(O.asLst G u).bind λys=>f xs ys)=df c):∃xs ys a b vs us,f xs ys=df c/\x=.ref a/\y=.ref b/\eS i.K H a vs/\eS i.K H b us/\RVs i.K H xs vs/\RVs i.K H ys us:=by
 cases z:O.asLst G v with
 |none=>rw[z]at e;cases e
 |some xs =>
  cases z2:O.asLst G u with
  |none=>rw[z,z2]at e;cases e
  |some ys =>rw[z,z2]at e;let⟨a,vs,h1,h2,h3⟩:=Ky g rx z;let⟨b,us,k1,k2,k3⟩:=Ky g ry z2;exact⟨xs,ys,a,b,vs,us,e,h1,k1,h2,k2,h3,k3⟩
def UW{vs:List V}(h:RVs i.K H xs vs):vs.isEmpty=xs.isEmpty:=by cases h<;>rfl
def c_eqE:Z0 i .eqE<|Eh i.K di:=by
 intro v u G H x y c Q g rx ry e q;let⟨xs,ys,a,b,vs,us,e,h1,h2,h3,h4,h5,h6⟩:=N0 g rx ry e;split at e
 .rename_i z;cases e;cases h6 with
  |nil=>exact⟨a,b,vs,h1,h2,h3,h4,by rw[UW h5,aq];exact q⟩
  |cons _ _=>cases z
 .cases e
def c_neE:Z0 i .neE<|Eh i.K dh:=by
 intro v u G H x y c Q g rx ry e q;let⟨xs,ys,a,b,vs,us,e,h1,h2,h3,h4,h5,h6⟩:=N0 g rx ry e;split at e
 .rename_i z;cases e;cases h6 with
  |nil=>exact⟨a,b,vs,h1,h2,h3,h4,by rw[UW h5,aP];exact q⟩
  |cons _ _=>cases z
 .cases e
variable {i:Inf}{X:Cx}{Φ:O.Fs}
abbrev tPt(X:Cx)(i:Inf)(Φ:O.Fs)(m:O.E):TE:=λσ H Q=>∃env G Qm Em,Pre X i σ H env G Em/\O.wE Φ m env G Qm Em/\∀v G' H',dO H H'->RH i G' H'->Qm v G'->∃s,O.fmtV v=df s/\s.length<=O.lim/\Q (.str<|fo s) H'
abbrev tJs(X:Cx)(i:Inf)(Φ:O.Fs)(ms:O.Es):TJ:=λσ H ħ Q=>∃env G a Qm Em,ħ=fo a/\a.length<=O.lim/\Pre X i σ H env G Em/\O.wJ Φ ms env G a Qm Em/\∀s G' H',dO H H'->RH i G' H'->Qm s G'->Q (fo s) H'
def _root_.L2.PJ.imp{vs:List Expr}{t t':TJ}(h:PJ X vs t)(f:∀σ H ħ Q,t' σ H ħ Q->t σ H ħ Q):PJ X vs t':=λÁ s σ H ħ Q I q=>h Á s σ H ħ Q I (f σ H ħ Q q)
variable {e:Expr} {m:O.E} {ç:Pos}
def LF(he:PE X e<|tE X i Φ m):PE X (.FormattedValue e (-1) dg ç) (tPt X i Φ m) :=
 (Fy he).imp λσ H Q ⟨env,G,Qm,Em,p,w,c⟩=>by
  refine⟨env,G,Qm,Em,p,w,λv G1 H1 x k1 g1 r1 w1=>?_⟩;let⟨s,e1,hl,q⟩:=c v G1 H1 k1 g1 w1;cases v with
  |str t=>cases e1;cases r1.str_inv;exact .inr ⟨_,rfl,by rw[Zv];exact Ô hl ZT,q⟩
  |int n =>
   cases r1.int_inv;simp only[O.fmtV]at e1;split at e1
   .rename_i hn;cases e1;exact .inl ⟨n,rfl,IW hn,q⟩
   .cases e1
  |_=>cases e1
def Hm{s:String}{j:Nat}:PE X (.Constant (.str<|fo s) j ç) (tPt X i Φ<|.cst<|.str s) :=
 pe_str.imp λσ H Q ⟨env,G,Qm,Em,p,w,c⟩=>by let⟨t,e1,hl,q⟩:=c _ G H (dO.refl H) p.hp w;cases e1;exact q
def HV:PJ X []<|tJs X i Φ .nil:=pj_nil.imp λσ H ħ Q ⟨env,G,a,Qm,Em,e,hl,p,w,c⟩=>by subst e;exact⟨by rw[Zv];exact Ô hl ZT,c a G H (dO.refl H) p.hp w⟩
def O9{es:List Expr}{ms:O.Es}(he:PE X e<|tPt X i Φ m)(hr:PJ X es<|tJs X i Φ ms)(hs:bC (e::es) X.env=eval e X.env::bC es X.env):PJ X (e::es) (tJs X i Φ<|.cons m ms) :=
 (Fg he hr hs).imp λσ H ħ Q ⟨env,G,a,Qm,Em,e,hl,p,w,c⟩=>by subst e;refine⟨env,G,_,Em,p,w,λv G1 H1 k1 g1 w1=>?_⟩;let⟨s,e1,hl1,w2⟩:=dq w1;clear w1;refine⟨s,e1,by lia,_,rfl,?_,env,G1,a++s,Qm,Em,(K8 a s).symm,by rw[bj];exact hl1,p.go k1 g1,w2,λt G2 H2 k2=>c t G2 H2<|k1.trans k2⟩;rw[<-K8,Zv,bj];exact Ô hl1 ZT
def WX{G:O.Hs}{H:Hp}{p:Ì}{o:HO}(g:RH i G H)(hp:H p=dg):RH i G<|upd H p o:=g.hid (dO.new hp) λb u e=>dj (by rintro rfl;rw[g.free hp]at e;cases e)
abbrev tE0(i:Inf)(Φ:O.Fs)(m:O.E):TE:=λσ H Q=>∃env G Qm,REn i.K H env σ/\RH i G H/\O.wE Φ m env G Qm (λ_ _=>False)/\Cn i H Q Qm
abbrev tT0(i:Inf)(Φ:O.Fs)(m:O.Tt):TT:=λσ H Q=>∃env G Qm,REn i.K H env σ/\RH i G H/\O.wT Φ m env G Qm (λ_ _=>False)/\∀b G' H',dO H H'->RH i G' H'->Qm b G'->Q b H'
variable {H:Hp}
def UC:XOk X i H λ_ _=>False:=λÁ σ H0 s H' a cls s' I f ⟨_,_,_,_,_,_,_,z⟩=>z.elim
variable {e:Expr}
def pe0{m:O.E}(h:PE X e<|tE X i Φ m):PE X e<|tE0 i Φ m:=h.imp λσ H Q ⟨env,G,Qm,r,g,w,c⟩=>⟨env,G,Qm,_,⟨r,g,UC⟩,w,c⟩
def pt0{m:O.Tt}(h:PT X e<|tTt X i Φ m):PT X e<|tT0 i Φ m:=h.imp λσ H Q ⟨env,G,Qm,r,g,w,c⟩=>⟨env,G,Qm,_,⟨r,g,UC⟩,w,c⟩
def _root_.L2.PIfs.imp{es:List Expr}{t t':TT}(h:PIfs X es t)(f:∀σ H Q,t' σ H Q->t σ H Q):PIfs X es t':=λÁ s σ H Q I q=>h Á s σ H Q I (f σ H Q q)
def Pc:PIfs X []<|tT0 i Φ .yes:=pifs_nil.imp λσ H Q ⟨env,G,Qm,r,g,w,c⟩=>by exact c dh G H (dO.refl H) g w
variable {ö:List Nat}
def Gm{K:Frag}{H':Hp}{env:O.Env}{σ:St}{k:Nat}(r:REn K H env σ)(kp:dO H H'):REn K H' (Õ k dg++ö.map λj=>(env[j]?).getD dg)<|Õ k dg++OT σ ö:=by
 refine⟨by simp[OT],λn u e=>?_⟩;by_cases hn:n<k
 .rw[ā (by rw[õ];exact hn),ļ,ff hn]at e;cases e
 .rw[ć (by rw[õ];lia),õ]at e ⊢;generalize n - k=n at e ⊢;simp only[Ø]at e;cases z:ö[n]? with
  |none=>rw[z]at e;cases e
  |some j =>
   rw[z]at e;simp only[į,Ĩ]at e;cases z2:env[j]? with
   |none=>rw[z2]at e;cases e
   |some o =>rw[z2]at e;have e:o=df u:=e;subst e;let⟨y,h1,h2⟩:=r.get j u z2;exact⟨y,by unfold OT;rw[Ø,z];show df ((σ[j]?).getD dg)=_;rw[h1];rfl,h2.keep kp⟩
abbrev OZ(k:Nat):O.Pt->Bool
 |.one j=>fm (j<k)
 |.many js=>js.all λj=>fm (j<k)
 |.nest _ _=>di
def Kq{r:O.Env}:∀{js:List Nat}{vs:List O.Val}{l ł:O.Env},(js.all λj=>fm (j<l.length))=dh->O.bindL js vs (l++r)=df ł->∃l',ł=l'++r/\l'.length=l.length
 |[],[],l,_,_,e=>by cases e;exact⟨l,rfl,rfl⟩
 |j::js,v::vs,l,_,h,e=>by rw[List.all_cons,bAq,fj]at h;have e:O.bindL js vs ((l++r).set j<|df v)=_:=e;rw[bW _ _ h.1]at e;let⟨l',h1,h2⟩:=Kq (l:=l.set j<|df v) (by rw[ω];exact h.2) e;exact⟨l',h1,by rw[h2,ω]⟩
 |[],_::_,_,_,_,h=>by cases h
 |_::_,[],_,_,_,h=>by cases h
variable {l:O.Env} {r:O.Env}
def Do{p:O.Pt}{G:O.Hs}{v:O.Val}{ł:O.Env}(h:OZ l.length p=dh)(e:O.bind p G v (l++r)=df ł):∃l',ł=l'++r/\l'.length=l.length:=by
 cases p with
 |one j =>have e:df ((l++r).set j<|df v)=df ł:=e;cases e;exact⟨l.set j<|df v,by rw[bW _ _<|of_decide_eq_true h],ω⟩
 |many js =>
  cases v with
  |tup vs=>exact Kq h e
  |_=>cases e
 |nest j js=>cases h
def REn.pre{K:Frag}{τ:St}(q:REn K H (l++r) τ):REn K H (Õ l.length dg++r) τ:=by
 refine⟨by rw[<-q.len];simp,λn u e=>?_⟩;by_cases hn:n<l.length
 .rw[ā (by rw[õ];exact hn),ļ,ff hn]at e;cases e
 .rw[ć (by rw[õ];lia),õ]at e;exact q.get n u (by rw[ć<|by lia];exact e)
def Ui{k:Nat}{pt:O.Pt}(hk:OZ k pt=dh){mi:O.It}{mt:O.Tt}{me:O.E}:∀σ H Q,tE X i Φ (.comp ö k pt mi mt me) σ H Q->DY (tIt X i Φ mi) k ö (gPt i pt) (tT0 i Φ mt) (tE0 i Φ me) σ H Q:=λσ H Q ⟨env,G,Qm,Em,p,w,c⟩=>by
 refine⟨env,G,_,Em,p,w,λst xs G1 H1 J k1 g1 it w1=>?_⟩;let⟨hl,w1⟩:=w1;generalize hstep:(λ(v:O.Val) (h2:O.Hs) (K:Option O.Val->O.Hs->Prop) (X2:O.XQ)=>O.go (O.bind pt h2 v<|Õ k dg++ö.map λj=>(env[j]?).getD dg) λł =>
       O.wT Φ mt ł h2 (λk h3=>if k=dh then O.wE Φ me ł h3 (λu h4=>K (df u) h4) X2 else K dg h3) X2)=step at w1
 refine⟨λn m ys τ H'=>n+m=xs.length/\ys.length<=n/\REn i.K H' (Õ k dg++ö.map λj=>(env[j]?).getD dg) τ/\∃ħ G',dO H1 H'/\RH i G' H'/\RVs i.K H' ħ ys/\O.wComp st step (xs.drop n) ħ G' (λys h5=>O.new h5 (.lst ys) Qm) (λ_ _=>False),⟨xs.length,by lia,by simp,Gm p.en k1,[],G1,dO.refl _,g1,.nil,⇑w1⟩,?_⟩;rintro n m ys τ H' ⟨hnm,hly,en2,ħ,G',k2,g2,r2,w2⟩;refine⟨å (Ò (Ô hly<|by lia) hl) ZT,?_⟩;by_cases hn:n<xs.length
 .right;have hd:xs.drop n=xs[n]::xs.drop (n+1):=Œ hn;rw[hd]at w2;let⟨s2,w2⟩:=w2;have hv:xs[n]?=df xs[n]:=Ê hn;let⟨a1,a2⟩:=it.go n G' H' xs[n] k2 g2 s2 hv;refine⟨a1,λys3 τ3 H3=>ys3.length<=n+1/\REn i.K H3 (Õ k dg++ö.map λj=>(env[j]?).getD dg) τ3/\∃acc3 G3,dO H1 H3/\RH i G3 H3/\RVs i.K H3 acc3 ys3/\O.wComp st step (xs.drop<|n+1) acc3 G3 (λys h5=>O.new h5 (.lst ys) Qm) (λ_ _=>False),λys3 τ3 H3 h=>⟨m - 1,by lia,by lia,h.1,h.2⟩,λx H3 hy=>?_⟩;let⟨k3,g3,r3⟩:=a2 x H3 hy;rw[<-hstep]at w2;let⟨bT,e4,w4⟩:=dq w2;rw[hstep]at w4;let⟨l',e5,h5⟩:=Do (l:=Õ k dg) (by rw[õ];exact hk) e4;rw[õ]at h5;refine⟨xs[n],_,G',bT,r3,g3,en2.keep k3,e4,λτ4 en4=>?_⟩;have Ϸ:REn i.K H3 (Õ k dg++ö.map λj=>(env[j]?).getD dg) τ4:=by
   rw[e5]at en4;have:=en4.pre;rw[h5]at this;exact this
  refine⟨_,G',_,en4,g3,w4,λd G5 H5 k5 g5 q5=>?_⟩;have kk:=(k2.trans k3).trans k5;cases d with
  |true =>refine⟨_,G5,_,en4.keep k5,g5,⇑q5,λu G6 H6 y k6 g6 r6 q6=>?_⟩;exact⟨⇑hly,(Ϸ.keep k5).keep k6,_,G6,kk.trans k6,g6,((((r2.keep k3).keep k5).keep k6).append<|.cons r6 .nil),q6⟩
  |false =>rw[fg ø]at q5;change if di=dh then _ else _;rw[fg ø];have q5:O.wComp st step (xs.drop<|n+1) (ħ++[]) G5 (λys h5=>O.new h5 (.lst ys) Qm) λ_ _=>False:=q5;rw[þ]at q5;exact⟨by lia,Ϸ.keep k5,ħ,G5,kk,g5,(r2.keep k3).keep k5,q5⟩
 .left;have hd:xs.drop n=[]:=π (by lia);rw[hd]at w2;refine⟨it.stop n G' H' k2 g2 w2.1 (by lia),?_⟩;exact Yn g2 w2.2 ((c.go k1).go k2) λq hq=>⟨_,dk,r2.keep<|dO.new hq⟩
abbrev OS(i:Inf)(m:O.Bm)(r:V->List V->Hp->VK->Prop):Prop:=∀(v:O.Val) (vs:List O.Val) (G:O.Hs) (H:Hp) (x:V) (xs:List V) (t:O.Val×O.Hs) (Q:VK) (Qm:O.Q1),
 RH i G H->RV i.K H v x->RVs i.K H vs xs->O.bmV G m v vs=df t->Qm t.1 t.2->Cn i H Q Qm->r x xs H Q
abbrev ID(i:Inf)(m:O.Bm)(T:String):Prop:=∀(v:O.Val) (G:O.Hs) (H:Hp) (x:V),RH i G H->RV i.K H v x->O.bmTy G m v=dh->tyV i.K T x H
variable {m:O.Bm}
def AA{o e:Expr}{es:List Expr}{name:Str}{Ļ ľ:Pos}{T id:String}{r:V->List V->Hp->VK->Prop}{mo:O.E}{ms:O.Es}{n:Nat}(hK:X.K=i.K)(pa:PlainAttrs T)(slot:Slot T name id)(hty:typeOf (.builtin id)=pure (.type "method_descriptor"))(mt:MtR X id r)(hT:ID i m T)(hr:OS i m r)
  (ho:PE X o<|tE X i Φ mo) (ha:PA X (e::es)<|tAr X i Φ ms n) (ϲ:ē o name X.env (eval o X.env)=eval o X.env)
  (Ϣ:((Ē ľ<|Ó (e::es) X.env).all (λx=>!x.1)&&(ś ľ<|Ĭ [] X.env).all (λx=>x.1.isSome)&&fm ((e::es).length+([]:List Κ).length+(if([]:List Κ).isEmpty then 0 else 1)<30))=dh)
  (ϳ:(Ļ.endLine==ľ.line)=dh) (hs:Ó (e::es) X.env=(di,eval e X.env)::Ó es X.env) (bO:(Ē ľ<|Ó es X.env).any (·.1)=di) :
  PE X (.Call (.Attribute o name Ļ) (e::es) [] ľ) (tE X i Φ<|.bm m mo ms) :=
 (Q8 pa slot hty mt ho ha ϲ Ϣ ϳ hs bO).imp λσ H Q ⟨env,G,Qm,Em,p,w,c⟩=>by
  refine one p w λv G1 H1 x k1 p1 rv q=>⟨by rw[hK];exact hT v G1 H1 x p1.hp rv q.1,env,G1,_,Em,p1,q.2,λvs G2 H2 xs k2 g2 r2 _ w2=>?_⟩
  let⟨t,e,w3⟩:=dq w2;exact hr v vs G2 H2 x xs t Q Qm g2 (rv.keep k2) r2 e w3<|(c.go k1).go k2
def OQ{o:Option O.Ob}(h:O.isDct o=dh):(∃xs,o=df (.dct xs))\/∃xs,o=df (.dtp xs):=by
 cases o with
 |none=>cases h
 |some o=>cases o with
  |dct xs=>exact .inl ⟨xs,rfl⟩
  |dtp xs=>exact .inr ⟨xs,rfl⟩
  |_=>cases h
def IA(hm:m.ty=.l):ID i m "list":=λv G H x g r h=>by
 unfold O.bmTy at h;rw[hm]at h;cases v with
 |ref a =>cases r.ref_inv;let⟨xs,e⟩:=Ou (show O.isLst (G a)=dh from h);let⟨vs,h1,_⟩:=g a _ e;exact .inl ⟨rfl,vs,eS.of h1⟩
 |_=>cases h
def LK(hm:m.ty=.d):ID i m "dict":=λv G H x g r h=>by
 unfold O.bmTy at h;rw[hm]at h;cases v with
 |ref a =>
  cases r.ref_inv;rcases OQ (show O.isDct (G a)=dh from h)with⟨xs,e⟩|⟨xs,e⟩
  .obtain⟨vs,h1,_⟩:=g a _ e;exact .inr<|.inr<|.inl ⟨rfl,.inl ⟨vs,h1⟩⟩
  .obtain⟨vs,h1,_⟩:=g a _ e;exact .inr<|.inr<|.inl ⟨rfl,.inr ⟨vs,h1⟩⟩
 |_=>cases h
variable {G:O.Hs}
def MX{v:O.Val}{f:O.Ad->List O.Val->Option (O.Val×O.Hs)}{t:O.Val×O.Hs}(e:O.bmL G v f=df t):∃a xs,v=.ref a/\G a=df (.lst xs)/\f a xs=df t:=by
 cases v with
 |ref a=>let⟨xs,h1,h2⟩:=DE e;exact⟨a,xs,rfl,h1,h2⟩
 |_=>cases e
variable {vs:List O.Val} {α:Type} {a:α}
def Io{f:O.Val->Option α}(e:(match vs with|[v]=>f v|_=>dg)=df a):∃v,vs=[v]/\f v=df a:=by
 cases vs with
 |nil=>cases e
 |cons v vs=>cases vs with
  |nil=>exact⟨v,rfl,e⟩
  |cons _ _=>cases e
def Lb:OS i .append UV:=λv vs G H x xs t Q Qm g rx rs e q c=>by let⟨a,ys,rfl,e4,e3⟩:=MX e;let⟨u,rfl,e3⟩:=Io e3;let⟨hl,e3⟩:=Zn e3;cases e3;cases rx.ref_inv;let⟨y,rfl,ry⟩:=rs.inv1;let⟨us,h2,r2⟩:=g a _ e4;let⟨k3,g3⟩:=WN (xs:=ys) g h2 (ys++[u]) (us++[y])<|r2.app1 ry;exact⟨a,us,y,rfl,rfl,h2,by rw[<-r2.length];exact å hl ZT,c _ _ _ _ k3 g3 .non q⟩
def Ge:OS i .popAt D9:=λv vs G H x xs t Q Qm g rx rs e q c=>by
 let⟨a,ys,rfl,e4,e3⟩:=MX e;unfold O.bmPopAt at e3;split at e3
 .rename_i n;let⟨hn,e3⟩:=Zn e3;let⟨k,z,e3⟩:=æ.mp e3;let⟨yv,z2,rfl⟩:=Ë.mp e3;cases rx.ref_inv;let⟨y,rfl,ry⟩:=rs.inv1;cases ry.int_inv;let⟨us,h2,r2⟩:=g a _ e4;let⟨xv,hx,rv⟩:=r2.get z2;rw[Mo,r2.length]at z;let⟨s1,s2,s3,s4⟩:=Mf z;let⟨k3,g3⟩:=WN (xs:=ys) g h2 (ys.eraseIdx k) (us.eraseIdx k)<|r2.eraseIdx k;exact⟨a,us,n,k,xv,rfl,rfl,h2,by lia,by lia,s1,hx,c _ _ _ _ k3 g3 (rv.keep k3) q⟩
 .cases e3
def Mb{v:O.Val}{f:O.Ad->List (O.Val×O.Val)->Option (O.Val×O.Hs)}{t:O.Val×O.Hs}(e:O.bmD G v f=df t):∃a kvs,v=.ref a/\G a=df (.dct kvs)/\f a kvs=df t:=by
 cases v with
 |ref a =>
  let⟨kvs,h1,h2⟩:=æ.mp (show(O.eX<|G a).bind (f a)=df t from e);refine⟨a,kvs,rfl,?_,h2⟩;cases z:G a with
  |none=>rw[z]at h1;cases h1
  |some o =>
   rw[z]at h1;cases o with
   |dct ys=>cases h1;rfl
   |_=>cases h1
 |_=>cases e
def Ry{f:O.Val->O.Val->Option α}(e:(match vs with|[v,u]=>f v u|_=>dg)=df a):∃v u,vs=[v,u]/\f v u=df a:=by
 cases vs with
 |nil=>cases e
 |cons v vs=>cases vs with
  |nil=>cases e
  |cons u us=>cases us with
   |nil=>exact⟨v,u,rfl,e⟩
   |cons _ _=>cases e
abbrev DB:V->List V->Hp->VK->Prop:=λx vs H Q=>∃a y o,x=.ref a/\vs=[y]/\DGet H a y o/\Q (o.getD .non) H
def Dy(hu:X.A.units+1<Ĥ):MtR X "dict.get" DB:=by intro Á s σ H x vs v us Q I rx rv h;let⟨a,y,o,rfl,rfl,d,q⟩:=h;cases rx;let⟨u,rfl,ru⟩:=rv.one;exact IS hu I d ru λw' s' I' ao=>⟨_,_,I',ao,q⟩
abbrev DJ:V->List V->Hp->VK->Prop:=λx vs H Q=>∃a kvs k v more,x=.ref a/\vs=kV k::more/\(more=[]\/∃z,more=[z])/\H a=df (.dK kvs)/\Yt kvs k=df v/\Q v (upd H a<|.dK<|dU kvs k)
def mt_dpop:MtR X "dict.pop" DJ:=by
 intro Á s σ H x vs v us Q I rx rv h;let⟨a,kvs,k,y,more,rfl,rfl,hm,hH,l,q⟩:=h;cases rx;rcases hm with rfl|⟨z,rfl⟩
 .obtain⟨u,rfl,ru⟩:=rv.one;exact GQ I hH ru l (.inl rfl) λw' s' I' ao=>⟨_,_,I',ao,q⟩
 .obtain⟨u,t,rfl,ru,rt⟩:=rv.two;exact GQ I hH ru l (.inr ⟨_,rfl⟩) λw' s' I' ao=>⟨_,_,I',ao,q⟩
abbrev Da:V->List V->Hp->VK->Prop:=λx vs H Q=>∃a kvs k z,x=.ref a/\vs=[kV k,z]/\H a=df (.dK kvs)/\Yt kvs k=dg/\Q z H
def Co:MtR X "dict.pop" Da:=by intro Á s σ H x vs v us Q I rx rv h;let⟨a,kvs,k,z,rfl,rfl,hH,l,q⟩:=h;cases rx;let⟨u,t,rfl,ru,rt⟩:=rv.two;exact HU I hH ru l λs' I'=>⟨_,_,I',rt,q⟩
def L8:OS i .dget DB:=λv vs G H x xs t Q Qm g rx rs e q c=>by
 let⟨a,kvs,rfl,e4,e3⟩:=Mb e;let⟨k,rfl,e3⟩:=Io e3;let⟨hk,e3⟩:=Zn e3;cases e3;cases rx.ref_inv;let⟨y,rfl,ry⟩:=rs.inv1;let⟨ps,h2,r2⟩:=g a _ e4;let⟨d,kr,rfl⟩:=dI hk ry;refine⟨a,_,_,rfl,rfl,DGet.k (k:=d) h2,?_⟩;let⟨l1,l2⟩:=r2.look kr;cases z:O.dP kvs k with
 |none=>rw[l2 z];rw[z]at q;exact c _ _ _ _ (dO.refl H) g .non q
 |some u=>let⟨x,hx,rv⟩:=l1 u z;rw[hx];rw[z]at q;exact c _ _ _ _ (dO.refl H) g rv q
def Lr:OS i .dpop DJ:=λv vs G H x xs t Q Qm g rx rs e q c=>by let⟨a,kvs,rfl,e4,e3⟩:=Mb e;let⟨k,rfl,e3⟩:=Io e3;let⟨hk,e3⟩:=Zn e3;let⟨u,z,rfl⟩:=Ë.mp e3;cases rx.ref_inv;let⟨y,rfl,ry⟩:=rs.inv1;let⟨ps,h2,r2⟩:=g a _ e4;let⟨d,kr,rfl⟩:=dI hk ry;let⟨x,hx,rv⟩:=(r2.look kr).1 u z;let⟨k3,g3⟩:=MO (kvs:=kvs) g h2<|r2.drop kr;exact⟨a,ps,d,x,[],rfl,rfl,.inl rfl,h2,hx,c _ _ _ _ k3 g3 (rv.keep k3) q⟩
def Oh{kvs:List (O.Val×O.Val)}{k:O.Val}(h:O.dP kvs k=dg):O.dU kvs k=kvs:=by
 unfold O.dU;rw[Χ];intro p hp;have h2:kvs.find? (λp=>p.1==k)=dg:=by unfold O.dP at h;exact Option.map_eq_none_iff.mp h
 simpa using List.find?_eq_none.mp h2 p hp
def Gc:OS i .dpopD λx vs H Q=>DJ x vs H Q\/Da x vs H Q:=λv vs G H x xs t Q Qm g rx rs e q c=>by
 let⟨a,kvs,rfl,e4,e3⟩:=Mb e;let⟨k,dv,rfl,e3⟩:=Ry e3;let⟨hk,e3⟩:=Zn e3;cases e3;cases rx.ref_inv;let⟨y,z,rfl,ry,rz⟩:=rs.inv2;let⟨ps,h2,r2⟩:=g a _ e4;let⟨d,kr,rfl⟩:=dI hk ry;let⟨l1,l2⟩:=r2.look kr;cases z:O.dP kvs k with
 |none =>
  refine .inr ⟨a,ps,d,_,rfl,rfl,h2,l2 z,?_⟩;rw[z,Oh z]at q;have e:O.upd G a (.dct kvs)=G:=by
   funext b;by_cases hb:b=a
   .subst hb;rw[O.dk,e4]
   .rw[O.dj hb]
  rw[e]at q;exact c _ _ _ _ (dO.refl H) g rz q
 |some u =>let⟨x,hx,rv⟩:=l1 u z;let⟨k3,g3⟩:=MO (kvs:=kvs) g h2<|r2.drop kr;rw[z]at q;exact .inl ⟨a,ps,d,x,_,rfl,rfl,.inr ⟨_,rfl⟩,h2,hx,c _ _ _ _ k3 g3 (rv.keep k3) q⟩
end Snd
namespace L2
open PySem PySem.Spec PyProof.Rows
section
variable {X:Cx}
def Ut:∀{ns:List Int}{us:List Â},eV (ns.map V.int) us->PySem.W.kf_ints us=dh
 |[],_,.nil=>rfl
 |_::ns,_,.cons ⟨_,e⟩ r=>by subst e;unfold PySem.W.kf_ints;exact Ut (ns:=ns) r
def Ec{i:Int}:∀{ns:List Int}{us:List Â},eV (ns.map V.int) us->i∈ns->∃j,PySem.W.kf_at i us=df j/\ns.erase i=ns.eraseIdx j
 |[],_,_,h=>nomatch h
 |n::ns,_,.cons ⟨t,e⟩ r,h=>by
  subst e;by_cases e:n=i
  .subst e;exact⟨0,by simp[PySem.W.kf_at,isInt],by simp⟩
  .obtain⟨j,h1,h2⟩:=Ec r<|(Æ.mp h).resolve_left<|Ne.symm e;have e2:(n==i)=di:=⇑e
   refine⟨j+1,?_,by simp[List.erase_cons,e,h2]⟩;simp[PySem.W.kf_at,isInt,e2,h1]
def DV:∀(ns:List Int) (j:Nat),(ns.eraseIdx j).map V.int=(ns.map V.int).eraseIdx j
 |[],_=>rfl
 |_::_,0=>rfl
 |_::ns,j+1=>congrArg (_ :: ·)<|DV ns j
abbrev Ux:V->List V->Hp->VK->Prop:=λx vs H Q=>∃(l:Ì) (ns:List Int) (i:Int),x=.ref l/\vs=[.int i]/\H l=df (.lst<|ns.map V.int)/\i∈ns/\Q .non (upd H l<|.lst<|(ns.erase i).map V.int)
def Az:MtM X "list.remove" Ux:=by
 intro Á s σ H x vs v us Q I rx rv h;let⟨l,ns,i,rfl,rfl,hH,hm,q⟩:=h;cases rx;let⟨u,rfl,ru⟩:=rv.one;let⟨t,rfl⟩:=ru;let⟨z,ð,n,r,hl,e⟩:=I.lstM hH;let⟨j,hj,he⟩:=Ec r hm;let⟨a,b,c⟩:=PySem.W.kf_at_spec hj;refine Ϭ F.slot_list_remove ⟨_,e,rfl⟩ F.entry_list_remove (F.args_list_remove_2 _ _)
  (MeetsSeq.list_remove l ð.toArray n (.int i t) (isInt i) (λy hy=>PySem.W.kf_eq (Ut r) y<|by simpa using hy) j ⇑a ⇑b (λm hm h2=>by simpa using c m ⇑hm h2)<|by rw[É];lia) ⟨e,?_⟩
 rw[he]at q;refine⟨.non,_,I.lset (its':=ð.eraseIdx j) hH e ?_ (by rw[DV];exact r.eraseIdx j) ?_,rfl,q⟩
 .show ð.toArray.eraseIdxIfInBounds j=(ð.eraseIdx j).toArray;rw[ϡ]
 .have:=Wo ns j;rw[À]at z ⊢;lia
end
end L2
namespace Snd
open PySem L2 PyProof.Rows
variable {i:Inf}
def LE:OS i .remove Ux:=λv vs G H x xs t Q Qm g rx rs e q c=>by
 let⟨a,ys,rfl,e4,e3⟩:=MX e;unfold O.bmRemove at e3;split at e3
 .rename_i n;let⟨ns,z,e3⟩:=æ.mp e3;let⟨hn,e3⟩:=Zn e3;cases e3;cases rx.ref_inv;let⟨y,rfl,ry⟩:=rs.inv1;cases ry.int_inv;let⟨us,h2,r2⟩:=g a _ e4;cases ZL z r2;let⟨k3,g3⟩:=WN (xs:=ys) g h2 ((ns.erase n).map .int) ((ns.erase n).map V.int)<|RVs.ints _;exact⟨a,ns,n,rfl,rfl,h2,hn,c _ _ _ _ k3 g3 .non q⟩
 .cases e3
end Snd
namespace Snd
open PySem L2
variable {i:Inf}{X:Cx}{Φ:O.Fs}
def RFs.look{K:Frag}{H:Hp}{f:String}:∀{fs:List (String×O.Val)}{ps:List (Str×V)},RFs K H fs ps->
  (∀v,fs.lookup f=df v->∃x,ps.lookup (fo f)=df x/\RV K H v x)/\(fs.lookup f=dg->ps.lookup (fo f)=dg)
 |_,_,.nil=>⟨λv e=>(by cases e),λ_=>rfl⟩
 |_,_,.cons (f:=g) (v:=u) (x:=y) r t=>by
  have ih:=RFs.look (f:=f) t;rw[á,á];by_cases e:f=g
  .subst e;rw[beq_self_eq_true,beq_self_eq_true];exact⟨λv z=>(by cases z;exact⟨y,rfl,r⟩),λz=>(by cases z)⟩
  .rw[show(f==g)=di by simpa using e,show(fo f==fo g)=di by rw[beq_eq_false_iff_ne];exact λz=>e<|ofS_inj.mp z];exact ih
def RFs.put{K:Frag}{H:Hp}{f:String}{v:O.Val}{x:V}(q:RV K H v x):∀{fs:List (String×O.Val)}{ps:List (Str×V)},RFs K H fs ps->RFs K H (O.dJ fs f v) (L2.dJ (fo f) x ps)
 |_,_,.nil=>.cons q .nil
 |_,_,.cons (f:=g) (v:=u) (x:=y) r t=>by
  unfold O.dJ L2.dJ;by_cases e:g=f
  .subst e;rw[ff rfl,ff rfl];exact .cons q t
  .rw[fg e,fg λz=>e<|ofS_inj.mp z];exact .cons r<|RFs.put q t
def RFs.length{K:Frag}{H:Hp}:∀{fs:List (String×O.Val)}{ps:List (Str×V)},RFs K H fs ps->fs.length=ps.length
 |_,_,.nil=>rfl
 |_,_,.cons _ t=>by rw[Ç,Ç,RFs.length t]
structure FldOk(i:Inf)(f:String):Prop where
 no:∀C c,i.cl C c->NoAttr i.K c (fo f)
structure IC(K:Frag)(C:Ì):Prop where
 ha:PySem.W.findIn K (.ref C) "__class__" = df (df<|.builtin "object.__class__")
 hn:PySem.W.specialIn K (.builtin "object.__class__") "__get__" = df (df<|.builtin "getset_descriptor.__get__")
 htk:PySem.W.takesIn K (.builtin "object.__class__")=df dh
 hm:PySem.W.mroIn K C (.type "object")=df dh
structure ClsA(i:Inf):Prop where
 cls:∀C c,i.ins C=dh->i.cl C c->Cls i.K c
 ic:∀C c,i.cl C c->IC i.K c
 un:∀C a b,i.cl C a->i.cl C b->a=b
def Ju{o:Option O.Ob}{p:String×List (String×O.Val)}(h:O.insOf o=df p):o=df (.ins p.1 p.2):=by
 cases o with
 |none=>cases h
 |some o=>cases o with
  |ins C fs=>cases h;rfl
  |_=>cases h
variable {G:O.Hs} {f:String}
def Ks{v u:O.Val}(h:O.ee G v f=df u):∃a C fs,v=.ref a/\G a=df (.ins C fs)/\fs.lookup f=df u:=by let⟨a,h1,h⟩:=æ.mp h;let⟨p,h2,h3⟩:=æ.mp h;exact⟨a,p.1,p.2,Jy h1,Ju h2,h3⟩
variable {o:Expr} {mo:O.E} {ç:Pos}
def PQ(hK:X.K=i.K)(A:ClsA i)(F:FldOk i f)(ho:PE X o<|tE X i Φ mo)(hb:ē o (fo f) X.env (eval o X.env)=eval o X.env) :
  PE X (.Attribute o (fo f) ç) (tE X i Φ<|.fld mo f) :=
 (HK ho hb).imp λσ H Q ⟨env,G,Qm,Em,p,w,c⟩=>by
  exact one p w λv G1 H1 x k1 p1 r q=>by let⟨u,e,q2⟩:=dq q;clear q;let⟨a,C,fs,rfl,e2,e3⟩:=Ks e;cases r.ref_inv;let⟨c',dx,ps,hi,hc,h1,rf⟩:=p1.hp a _ e2;let⟨y,l,ry⟩:=rf.look.1 u e3;exact⟨a,c',dx,ps,y,rfl,h1,by rw[hK];exact A.cls _ _ hi hc,by rw[hK];exact F.no _ _ hc,l,c _ _ _ _ k1 p1.hp ry q2⟩
variable {C:String}
def U0{H:Hp}{a:Ì}{c' dx:Ì}{fs:List (String×O.Val)}{ps ax:List (Str×V)}(g:RH i G H)(hi:i.ins C=dh)(hc:i.cl C c')(h:H a=df (.ins c' dx ax))(r:RFs i.K H fs ps) :
  dO H (upd H a<|.ins c' dx ps)/\RH i (O.upd G a<|.ins C fs) (upd H a<|.ins c' dx ps):=by
 have k:dO H<|upd H a<|.ins c' dx ps:=dO.put (λxs e=>by rw[h]at e;cases e) λp u e=>by rw[h]at e;cases e
 exact⟨k,g.put k ⟨c',dx,ps,hi,hc,dk,r.keep k⟩⟩
def JL{G':O.Hs}{o v:O.Val}(h:O.ei G o f v=df G'):∃a C fs,o=.ref a/\G a=df (.ins C fs)/\fs.length<900/\G'=O.upd G a (.ins C<|O.dJ fs f v):=by
 cases o with
 |ref a =>
  unfold O.ei at h;dsimp only at h;split at h
  .rename_i C fs e;let⟨hl,h⟩:=Zn h;cases h;exact⟨a,C,fs,rfl,e,hl,rfl⟩
  .cases h
 |_=>cases h
variable {e:Expr}
def Ay{m:O.E}{aF:Pos}(hK:X.K=i.K)(A:ClsA i)(F:FldOk i f)(ho:PE X o<|tE X i Φ mo)(he:PE X e<|tE X i Φ m)(hs:ş e (df<|.Attribute o (fo f) aF) ç.line X.env=pure di) :
  PS X (.Assign [.Attribute o (fo f) aF] e ç) (tSt X i Φ<|.setFld mo f m) :=
 (HE ho he hs).imp λD σ H ⟨env,G,N,R,B,C,Xe,p,w,c⟩=>by refine one p.pre w λv G1 H1 x k1 p1 r q=>?_;refine one p1 q λu G2 H2 y k2 p2 ry q=>?_;let⟨G3,e3,q2⟩:=dq q;clear q;let⟨a,D',fs,rfl,e2,hl,rfl⟩:=JL e3;cases ry.ref_inv;let⟨c',dx,ps,hi,hc,h1,rf⟩:=p2.hp a _ e2;let⟨k3,g3⟩:=U0 p2.hp hi hc h1<|rf.put (f:=f)<|r.keep k2;refine⟨a,c',dx,ps,rfl,h1,by rw[hK];exact A.cls _ _ hi hc,by rw[hK];exact F.no _ _ hc,by rw[<-rf.length];lia,?_⟩;have k:=(k1.trans k2).trans k3;exact c.nx _ _ _ _ k g3 (p.en.keep k) q2
def Ny{op:O.Bop}{x y z:O.Val}(h:O.augV op x y=df z):∃a b,x=.int a/\y=.int b/\((op=.add/\z=.int (a+b))\/(op=.sub/\z=.int (a - b))):=by
 unfold O.augV at h;split at h
 .cases h;exact⟨_,_,rfl,rfl,.inl ⟨rfl,rfl⟩⟩
 .cases h;exact⟨_,_,rfl,rfl,.inr ⟨rfl,rfl⟩⟩
 .cases h
abbrev rAS(op:O.Bop):V->V->Hp->VK->Prop:=λx y H Q=>∃a b,x=.int a/\y=.int b/\((op=.add/\Q (.int<|a+b) H)\/(op=.sub/\Q (.int<|a - b) H))
def U9{op:Γ}{bop:O.Bop}{n:Int}{k:Nat}{bL ľ:Pos}(hK:X.K=i.K)(A:ClsA i)(F:FldOk i f)(hop:Cd X op<|rAS bop)(ho:PE X o<|tE X i Φ mo) :
  PS X (.AugAssign (.Attribute o (fo f) bL) op (.Constant (.int n) k ľ) ç) (tSt X i Φ<|.augFld mo f bop n) :=
 (Ai ho OP hop).imp λD σ H ⟨env,G,N,R,B,C,Xe,p,w,c⟩=>by
  refine one p.pre w λv G1 H1 x k1 p1 r q=>?_;let⟨u,e1,q2⟩:=dq q;clear q;let⟨a,C',fs,rfl,e2,e3⟩:=Ks e1;cases r.ref_inv;let⟨c',dx,ps,hi,hc,h1,rf⟩:=p1.hp a _ e2;let⟨y,l,ry⟩:=rf.look.1 u e3;refine⟨a,c',dx,ps,y,rfl,h1,by rw[hK];exact A.cls _ _ hi hc,by rw[hK];exact F.no _ _ hc,l,?_⟩;let⟨z,e4,q3⟩:=dq q2;clear q2;let⟨G3,e5,q4⟩:=dq q3;clear q3;let⟨n1,n2,rfl,e0,hz⟩:=Ny e4;cases e0;cases ry.int_inv;let⟨a2,C2,fs2,e6,e7,hl,rfl⟩:=JL e5;cases e6;rw[e2]at e7;cases e7;have fin:∀n:Int,z=.int n->∃dx' fs',H1 a=df (.ins c' dx' fs')/\fs'.length<1000/\D.nx σ (upd H1 a<|.ins c' dx'<|L2.dJ (fo f) (.int n) fs'):=λn hn=>by subst hn;let⟨k3,g3⟩:=U0 p1.hp hi hc h1<|rf.put (f:=f) (x:=.int n)<|.int n;refine⟨dx,ps,h1,by rw[<-rf.length];lia,?_⟩;exact c.nx _ _ _ _ (k1.trans k3) g3 (p.en.keep<|k1.trans k3) q4
  rcases hz with⟨e,hz⟩|⟨e,hz⟩
  .exact⟨n1,n,rfl,rfl,.inl ⟨e,fin _ hz⟩⟩
  .exact⟨n1,n,rfl,rfl,.inr ⟨e,fin _ hz⟩⟩
abbrev Dfm(pr:ë)(w:Ă)(mg:Str->Option Â)(base:ċ)(i:Inf)(P:O.Pg)(n:Nat)(f:String)(fa:Ì):Prop :=
 ∃fd ps,dY pr w i.K mg base (CX1 pr w) (2*n) fa fd ps (spF i P n f)/\Binds i.K fd ps []
variable {P:O.Pg} {n:Nat} {es:List Expr} {ms:O.Es} {p:Pos}
def IJ{k:Nat}{Cn:String}{C f:Ì}(hK:X.K=i.K)(hi:i.ins Cn=dh)(hc:i.cl Cn C)(M:Mk i.K C f)(D:Dfm X.prog X.w X.mg X.base i P n (Cn ++ ".__init__") f)(hr:dX (2*n+1) X.A)
  (hg:Gl X<|fo Cn) (hm:X.mg (fo Cn)=df (.ref C)) (bM:(fo Cn==("__debug__" : Str))=di)
  (ha:PA X (e::es)<|tAr X i (O.wF P n) ms k) (he:Ó (e::es) X.env=(di,eval e X.env)::Ó es X.env) (hpl:(Ē ç<|Ó es X.env).any (·.1)=di) :
  PE X (.Call (.Name (fo Cn) p) (e::es) [] ç) (tE X i (O.wF P n)<|.make Cn ms):=by
 let⟨fd,ps,F,hb⟩:=D;rw[<-hK]at F hb M;intro Á s σ H Q I h;let⟨env,G,Qm,Em,pr,w,c⟩:=h;refine EU (E:=XK1 i H Em) M F hr hg hm hb .nil (XW.passes pr.xo) ha bM he hpl Á s σ H Q I ⟨env,G,_,Em,pr,w,λvs G1 H1 xs k1 g1 r1 hl w1 x dx hx hd Ţ=>?_⟩;have ka:dO H1<|upd H1 dx<|.own x:=dO.new hd;have hx2:upd H1 dx (.own x) x=dg:=by rw[dj λz=>Ţ z.symm];exact hx
 have kb:dO (upd H1 dx<|.own x)<|upd (upd H1 dx<|.own x) x<|.ins C dx []:=dO.new hx2;have g2:RH i G1<|upd H1 dx<|.own x:=WX g1 hd;have g3:RH i (O.upd G1 x<|.ins Cn [])<|upd (upd H1 dx<|.own x) x<|.ins C dx []:=g2.put kb ⟨C,dx,[],hi,hc,dk,.nil⟩;have k:=ka.trans kb;refine⟨.ref x::vs,_,_,Em,.cons (.ref x) (by rw[þ];exact r1.keep k),g3,w1 x<|g1.free hx,?_,λcls d H' h=>(h.go k).go k1⟩;intro v G' H' y k' g' rv ⟨hv,hq⟩;subst hv;exact⟨rv.non_inv,c _ G' H' _ ((k1.trans k).trans k') g' (.ref x) hq⟩
variable {m:String}
def KF{v:O.Val}(h:O.clsV G v m=df C):∃a fs,v=.ref a/\G a=df (.ins C fs)/\fs.lookup m=dg:=by
 let⟨a,h1,h⟩:=æ.mp h;let⟨p,h2,h3⟩:=æ.mp h;have e:=Ju h2;by_cases z:(p.2.lookup m).isNone=dh
 .rw[ff z]at h3;cases h3;exact⟨a,p.2,Jy h1,e,al.mp z⟩
 .rw[fg z]at h3;cases h3
variable {Ļ:Pos} {pl:Sem Bool}
def IN{k:Nat}{Cn:String}{C f:Ì}(hK:X.K=i.K)(hfn:∀c,i.cl Cn c->c=C)(A:Cls i.K C)(M:Meth i.K C (fo m) f)(D:Dfm X.prog X.w X.mg X.base i P n (Cn ++ "." ++ m) f)(hr:dX (2*n) X.A)
  (ho:PE X o<|tE X i (O.wF P n) mo) (ha:PA X (e::es)<|tAr X i (O.wF P n) ms k) (he:Ó (e::es) X.env=(di,eval e X.env)::Ó es X.env) (hpl:(Ē ç<|Ó es X.env).any (·.1)=di)
  (ht:eval (.Call (.Attribute o (fo m) Ļ) (e::es) [] ç) X.env=(do
    let ov<-eval o X.env
    ο Ļ.atName
    let (f,first)<-ņ [ov] (Δ ov (fo m) pl)
    bx ç f first (Ē ç<|Ó (e::es) X.env) (ś ç<|Ĭ [] X.env))) :
  PE X (.Call (.Attribute o (fo m) Ļ) (e::es) [] ç) (tE X i (O.wF P n)<|.meth Cn m mo ms):=by
 let⟨fd,ps,F,hb⟩:=D;rw[<-hK]at F hb M A;intro Á s σ H Q I h;let⟨env,G,Qm,Em,pr,w,c⟩:=h;refine EX (E:=XK1 i H Em) ho A M F hr hb .nil (XW.passes pr.xo) ha he hpl ht Á s σ H Q I<|one pr w λv G1 H1 x k1 p1 rv q=>?_;let⟨hq,w1⟩:=q;let⟨a,fs,rfl,e2,e3⟩:=KF hq;cases rv.ref_inv;let⟨c',dx,bS,hi,hc,h1,rf⟩:=p1.hp a _ e2;cases hfn c' hc;refine⟨a,dx,bS,rfl,h1,rf.look.2 e3,env,G1,_,Em,p1,w1,λvs G2 H2 xs k2 g2 r2 hl w2=>?_⟩;exact⟨.ref a::vs,G2,Qm,Em,.cons (.ref a) (by rw[þ];exact r2),g2,w2,(c.go k1).go k2,λcls d H' h=>(h.go k2).go k1⟩
def Ez{Cn:String}{C f:Ì}(hK:X.K=i.K)(hfn:∀c,i.cl Cn c->c=C)(A:Cls i.K C)(M:Meth i.K C (fo m) f)(D:Dfm X.prog X.w X.mg X.base i P n (Cn ++ "." ++ m) f)(hr:dX (2*n) X.A)
  (ho:PE X o<|tE X i (O.wF P n) mo)
  (ht:eval (.Call (.Attribute o (fo m) Ļ) [] [] ç) X.env=(do
    let ov<-eval o X.env
    ο Ļ.atName
    let (f,first)<-ņ [ov] (Δ ov (fo m) pl)
    bx ç f first (Ē ç<|Ó [] X.env) (ś ç<|Ĭ [] X.env))) :
  PE X (.Call (.Attribute o (fo m) Ļ) [] [] ç) (tE X i (O.wF P n)<|.meth Cn m mo .nil):=by
 let⟨fd,ps,F,hb⟩:=D;rw[<-hK]at F hb M A;intro Á s σ H Q I h;let⟨env,G,Qm,Em,pr,w,c⟩:=h;refine Dx (E:=XK1 i H Em) ho A M F hr hb .nil (XW.passes pr.xo) ht Á s σ H Q I<|one pr w λv G1 H1 x k1 p1 rv q=>?_;let⟨hq,w1⟩:=q;let⟨a,fs,rfl,e2,e3⟩:=KF hq;cases rv.ref_inv;let⟨c',dx,bS,hi,hc,h1,rf⟩:=p1.hp a _ e2;cases hfn c' hc;refine⟨a,dx,bS,rfl,h1,rf.look.2 e3,?_⟩;exact⟨[.ref a],G1,Qm,Em,.cons (.ref a) .nil,p1.hp,w1,c.go k1,λcls d H' h=>h.go k1⟩
def EA(hK:X.K=i.K)(D:Dfo X.prog X.w X.mg X.base i P n f)(hr:dX (2*n) X.A)(hg:Gl X<|fo f)(bM:(fo f==("__debug__" : Str))=di) :
  PE X (.Call (.Name (fo f) p) [] [] ç) (tE X i (O.wF P n)<|.call f .nil):=by
 let⟨fa,fd,ps,F,hm,hk,hb⟩:=D;rw[<-hK]at F hk hb;intro Á s σ H Q I h;let⟨env,G,Qm,Em,pr,w,c⟩:=h;refine Cf (E:=XK1 i H Em) F hr hg hm hk hb .nil (XW.passes pr.xo) bM Á s σ H Q I ?_;exact⟨[],G,Qm,Em,.nil,pr.hp,w,c,λcls d H' h=>h⟩
abbrev Uy(X:Cx)(i:Inf)(Φ:O.Fs):O.Es->List (TE×TE)
 |.cons k (.cons v r)=>(tE X i Φ k,tE X i Φ v)::Uy X i Φ r
 |_=>[]
abbrev Jg:O.Es->Bool
 |.nil=>dh
 |.cons _ .nil=>di
 |.cons _ (.cons _ r)=>Jg r
abbrev esL:O.Es->Nat
 |.nil=>0
 |.cons _ es=>esL es+1
abbrev Uz:List V->List (V×V)
 |x::y::r=>(x,y)::Uz r
 |_=>[]
def ND:∀(es:O.Es),Jg es=dh->∀{σ:St}{H:Hp}{env:O.Env}{G:O.Hs}{Qm:List O.Val->O.Hs->Prop}{Em:O.XQ}{Q:List (V×V)->Hp->Prop},Pre X i σ H env G Em->O.wA Φ es env G Qm Em->
  (∀vs G' H' xs,dO H H'->RH i G' H'->RVs i.K H' vs xs->xs.length=esL es->Qm vs G'->Q (Uz xs) H')->MN (Uy X i Φ es) σ H Q
 |.nil,_,σ,H,env,G,Qm,Em,Q,p,w,c=>by rw[O.q_a_nil]at w;exact c [] G H [] (dO.refl H) p.hp .nil rfl w
 |.cons k .nil,h,_,_,_,_,_,_,_,_,_,_=>by cases h
 |.cons k (.cons v r),h,σ,H,env,G,Qm,Em,Q,p,w,c=>by rw[O.q_a_cons]at w;refine one p w λa G1 H1 x k1 p1 ra q=>?_;rw[O.q_a_cons]at q;refine one p1 q λb G2 H2 y k2 p2 rb q2=>?_;refine ND r h p2 q2 λvs G' H' xs k3 g3 rv hl hq=>?_;exact c (a::b::vs) G' H' (x::y::xs) ((k1.trans k2).trans k3) g3 (.cons ((ra.keep k2).keep k3)<|.cons (rb.keep k3) rv) (by rw[Ç,Ç,hl];rfl) hq
def Jj{K:Frag}{H:Hp}:∀{vs:List O.Val}{xs:List V}{kvs:List (O.Val×O.Val)},RVs K H vs xs->O.pairUp vs=df kvs->∃ps:List<|Key×V,Uz xs=ps.map (λkv=>(kV kv.1,kv.2))/\RKs K H kvs ps/\2*ps.length=xs.length
 |[],_,_,r,e=>by cases r;cases e;exact⟨[],rfl,.nil,rfl⟩
 |[_],_,_,_,e=>by cases e
 |a::b::vs,_,kvs,r,e=>by
  cases r with
  |cons ra r=>cases r with
  |cons rb t =>
  rename_i y _;unfold O.pairUp at e;split at e
  .rename_i hk;let⟨ks,e2,rfl⟩:=Ë.mp e;let⟨ps,h1,h2,h3⟩:=Jj t e2;let⟨c,hc,rfl⟩:=dI hk ra;refine⟨(c,y)::ps,?_,.cons hc rb h2,by rw[Ç,Ç,Ç];lia⟩;show(kV c,y)::Uz _=_;rw[h1];rfl
  .cases e
def RKs.merge{K:Frag}{H:Hp}:∀{kvs:List (O.Val×O.Val)}{ps:List (Key×V)}{ħ:List (O.Val×O.Val)}{bs:List (Key×V)},RKs K H ħ bs->RKs K H kvs ps->RKs K H (O.putAll ħ kvs) (Y5 bs ps)
 |_,_,_,_,r,.nil=>r
 |_,_,ħ,bs,r,.cons (k:=k) (v:=v) (c:=c) (x:=x) (kvs:=kvs) (ps:=ps) a q t=>by show RKs K H (O.putAll (O.dR ħ k v) kvs) (Y5 (L2.dR bs c x) ps);exact RKs.merge (RKs.put a q r) t
variable {ç:Pos}
def IH:PE X (.Dict [] [] ç) (tE X i Φ<|.dct .nil) :=
 pe_dnewK.imp λσ H Q ⟨env,G,Qm,Em,p,w,c⟩=>by rw[O.q_e_dct]at w;unfold O.new at w;intro a ha;have w1:=w a<|p.hp.free ha;let⟨a',e,w2⟩:=dq w1;cases e;rw[O.q_a_nil]at w2;let⟨ks,e2,_,w3⟩:=dq w2;cases e2;rw[O.dm]at w3;have k:=dO.new (o:=.dK []) ha;exact c _ _ _ _ k (p.hp.put (o:=.dct []) k ⟨[],dk,.nil⟩) (.ref a) w3
def Qs{es:O.Es}{keys:List (Option Expr)}{θ:List Expr}(he:Jg es=dh)(h30:esL es<=30)(h:PPs X ç keys θ<|Uy X i Φ es)(hall:keys.all (·.isSome)=dh)(hl:keys.length=θ.length)(h0:keys≠[])(h15:keys.length<=15):PE X (.Dict keys θ ç) (tE X i Φ<|.dct es) :=
 (E9 h hall hl h0 h15).imp λσ H Q ⟨env,G,Qm,Em,p,w,c⟩=>by
  rw[O.q_e_dct]at w;unfold O.new at w;intro a ha;have w1:=w a<|p.hp.free ha;let⟨a',e,w2⟩:=dq w1;cases e;have k:=dO.new (o:=.dK []) ha;have p2:Pre X i σ (upd H a<|.dK []) env (O.upd G a<|.dct []) Em:=p.go k<|p.hp.put (o:=.dct []) k ⟨[],dk,.nil⟩;refine ND es he p2 w2 λvs G' H' xs k2 g2 rv hl w3=>?_;let⟨ks,e2,e3,w4⟩:=dq w3;let⟨ps,e4,r4⟩:=g2 a _ e3;cases r4;let⟨qs,h1,h2,h3⟩:=Jj rv e2;refine⟨e4,qs,h1,by lia,?_⟩;have k3:dO H'<|upd H' a<|.dK<|Y5 [] qs:=dO.put (λxs e=>by rw[e4]at e;cases e) λp u e=>by rw[e4]at e;cases e
  exact c _ _ _ _ ((k.trans k2).trans k3) (g2.put (o:=.dct<|O.putAll [] ks) k3 ⟨_,dk,(RKs.merge .nil h2).keep k3⟩) (.ref a) w4
end Snd
namespace L2
open PySem PySem.Spec PyProof.Rows
section
variable {X:Cx}{Á:List (Ì×Obj)}{σ:St}{H:Hp}{s:Å}{a:Ì}{o:Obj}{ps:List (Key×V)}
def Inv.freeze(I:Inv X Á σ H s)(e:H a=df (.dK ps))(ho:s.heap.get? a=df o):Inv X Á σ (upd H a<|.frz o<|.dK ps) s:=by have h:=I.hok a _ e;exact I.write (t':=s.toks) (x:=a) (e:=a) (h':=s.heap) (by rw[e];exact True.intro) (.inl rfl) (λ_ _ _ q=>q) ⟨o,ho⟩ ⟨ho,h⟩
def Inv.thaw(I:Inv X Á σ H s)(e:H a=df (.frz o<|.dK ps))(h0:∀o u,X.H₀ a≠df (.frz o u)):Inv X Á σ (upd H a<|.dK ps) s:=by
 have hn:∀b,H b=dg->upd H a (.dK ps) b=dg:=λb z=>by rw[dj<|by rintro rfl;rw[e]at z;cases z];exact z
 have ho:=I.hok a _ e;refine⟨I.ok,I.os,I.bare,⟨I.base.keep,I.base.slot,λb ob q n hx=>hn b<|I.base.free b ob q n hx,I.base.there,λb xs q=>?_,λb ob u q=>?_,λb qs q=>?_⟩,I.loc,I.cell,hn _ I.free,λx c q=>hn _<|I.freeC x c q,λp hp=>?_,λb u q=>?_,I.len⟩
 .have z:=I.base.tups b xs q;rw[dj<|by rintro rfl;rw[e]at z;cases z];exact z
 .have z:=I.base.frzs b ob u q;rw[dj<|by rintro rfl;exact h0 _ _ q];exact z
 .obtain⟨m,z⟩:=I.base.tbls b qs q;exact⟨m,by rw[dj<|by rintro rfl;rw[e]at z;cases z];exact z⟩
 .obtain⟨q1,q2,q3,q4,q5⟩:=I.pin p hp;exact⟨q1,hn _ q2,q3,q4,q5⟩
 .by_cases hb:b=a
  .subst hb;rw[dk]at q;cases q;exact ho.2
  .rw[dj hb]at q;refine(I.hok b u q).stay (λ_ _ _ q=>q) (λc z=>?_) λc xs z=>?_
   .rw[dj<|by rintro rfl;rw[e]at z;cases z];exact z
   .rw[dj<|by rintro rfl;rw[e]at z;cases z];exact z
end
abbrev Ends.thaw(X:Cx)(D:Ends):Ends where
 nx:=λσ H=>∃a o ps,H a=df (.frz o<|.dK ps)/\(∀o u,X.H₀ a≠df (.frz o u))/\D.nx σ (upd H a<|.dK ps)
 rt:=λv H=>∃a o ps,H a=df (.frz o<|.dK ps)/\(∀o u,X.H₀ a≠df (.frz o u))/\D.rt v (upd H a<|.dK ps)
 bk:=D.bk
 ct:=D.ct
variable {X:Cx}
def Gg{st:ĭ}{t:TS}(h:PS X st t):PS X st λD σ H=>t (D.thaw X) σ H:=λÁ s σ H D I q =>
 thn (h Á s σ H _ I q) λf s' z=>by
  cases f with
  |next =>let⟨Ń,H',I',a,o,ps,e,h0,q⟩:=z;exact⟨Ń,_,I'.thaw e h0,q⟩
  |ret u =>let⟨v,Ń,H',I',r,a,o,ps,e,h0,q⟩:=z;exact⟨v,Ń,_,I'.thaw e h0,r,q⟩
  |brk=>exact z
  |cont=>exact z
abbrev Iti(a:Ì)(o:Obj)(ps:List<|Key×V):It :=
 ⟨λi H=>H a=df (.frz o<|.dK ps)/\i<ps.length,λi H v H'=>∃p k x,v=.ref p/\H p=dg/\ps[i]?=df (k,x)/\H'=upd H p (.tup [kV k,x]),λi H=>H a=df (.frz o<|.dK ps)/\ps.length<=i⟩
def D3{k:Key}{u:Â}(h:Ja k u=dh):RelV (kV k) u:=by
 rcases Zo h with⟨i,t,rfl,rfl⟩|⟨x,t,rfl,rfl⟩
 .exact⟨t,rfl⟩
 .exact⟨t,rfl⟩
def KV.at:∀{ps:List (Key×V)}{vs:List (Key×Â)}{i:Nat}{k:Key}{x:V},KV ps vs->ps[i]?=df (k,x)->∃u,vs[i]?=df (k,u)/\RelV x u:=by
 intro ps vs i k x r;unfold KV at r;induction r generalizing i with
 |nil=>intro h;simp at h
 |@cons p q ps qs h t ih =>
  intro e;cases i with
  |zero =>simp at e;subst e;let⟨q1,q2⟩:=q;let⟨h1,h2⟩:=h;have h1:k=q1:=h1;subst h1;exact⟨q2,rfl,h2⟩
  |succ i=>simpa using ih ⇑e
section
variable {X:Cx}{Á:List (Ì×Obj)}{σ:St}{H:Hp}{s:Å}{a:Ì}{o:Obj}{ps:List (Key×V)}{es:Array DictEntry}{ep:Nat}
def We(I:Inv X Á σ H s)(e:H a=df (.frz o<|.dK ps))(hd:o.data=.dict es ep):∃vs,KV ps vs/\s.heap.DictAt (Zf X.prog X.w) a vs ep:=by
 let⟨ho,_,_,vs,ŝ,o2,es2,ep2,h1,h2,h3,h4⟩:=(show dB X.prog X.w H s.heap a (.frz o<|.dK ps) from I.hok a _ e)
 rw[ho]at h1;cases h1;rw[hd]at h3;cases h3;exact⟨vs,ŝ,o,es,ho,h2,hd,h4⟩
end
variable {P:ë} {w:Ă} {es:List Expr} {kk:Nat} {tp:Pos} {ds:Array DictEntry} {ep:Nat} {o:Obj} {ps:List (Key×V)}
def Og{K:Frag}(a it:Ì)(hd:o.data=.dict ds ep) :
  Turn P w K (.Tuple es kk tp) (Iti a o ps) [it] it (λi h=>∃ok ov,IsItemIter h it a i ps.length ep ok ov) where
 mem:=by simp
 obj:=λi h st b hb=>by
  let⟨ok,ov,h1⟩:=st;have q:b=it:=⇑hb
  subst q;exact⟨_,h1,λv z=>by cases z⟩
 keep:=λi h h' ⟨ok,ov,h1⟩ k=>⟨ok,ov,k it (by simp) _ h1⟩
 item:=by
  intro X hP hw hK hc i Á s σ H E I hf st hg;subst hP hw hK;let⟨e,hi⟩:=hg;let⟨ok,ov,h1⟩:=st;let⟨vs,ŝ,da⟩:=We I e hd;have hl:ps.length=vs.length:=ŝ.length;have hx:ps[i]?=df ps[i]:=Ê hi;let⟨u,hu,ru⟩:=ŝ.at (k:=ps[i].1) (x:=ps[i].2) hx;rw[hl]at h1;refine wpAny_pyNext_items_item h1 da hu λkey h3 hk hout hT hsz hkeep=>?_;have hfi:=hf it (by simp);have hit:it<s.heap.objs.size:=Ú h1;have nT:s.heap.objs.size≠it:=χ hit;have aW:=I.fpOk (H':=H) (Ï s.heap.objs.size) I.fresh;refine⟨.ref s.heap.objs.size,rfl,wpAny_letOwnedTupleGo_items (s:={s with heap:=h3}) hout λh4 he4 hs4=>?_⟩;have I4:Inv X Á σ H {s with heap:=h4,toks:=s.toks}:=I.turnedL (t':=s.toks) (ch:=[it]) (λb ob hb q=>hs4.extBut b ob (λz=>hb<|by simp[z])<|hkeep b ob (λz=>hb<|by simp[z]) q) hf;have hT4:h4.get? s.heap.objs.size=df {cls:=.type "tuple",data:=.seq #[key,u]}:=hs4.extBut _ _ nT hT;let⟨f0,f1,f2,f3,f4,f5⟩:=aW;have I5:Inv X Á σ (upd H s.heap.objs.size<|.tup [kV ps[i].1,ps[i].2]) {s with heap:=h4,toks:=s.toks}:=I4.track f0 I.sz f1 f4 f5 ⟨by show 2<=Ü;decide,[key,u],.cons (D3 hk)<|.cons ru .nil,_,hT4,rfl,_,rfl⟩;refine⟨.ref s.heap.objs.size,_,I5,rfl,⟨s.heap.objs.size,_,_,rfl,f0,hx,rfl⟩,⟨key,u,by rw[hl];exact he4⟩,λb hb=>?_⟩;have q:b=it:=⇑hb
  subst q;rw[dj nT.symm];exact hfi.1
 done:=by
  intro X hP hw hK hc i Á s σ H E I hf st hg;subst hP hw hK;let⟨e,hi⟩:=hg;let⟨ok,ov,h1⟩:=st;let⟨vs,ŝ,da⟩:=We I e hd;have hl:ps.length=vs.length:=ŝ.length;rw[hl]at h1 hi;refine wpAny_pyNext_items_end (I.ok.hd hc) h1 da (ť hi) λh' he'=>⟨rfl,?_⟩
  exact I.turnedL (t':=s.toks) (ch:=[it]) (λb ob hb q=>he' b ob (λz=>hb<|by simp[z]) q) hf
 self:=λA i s Q E st h=>by let⟨ok,ov,h1⟩:=st;exact PySem.W.kcp_self h1 h
abbrev Itk(a:Ì)(o:Obj)(ps:List<|Key×V):It :=
 ⟨λi H=>H a=df (.frz o<|.dK ps)/\i<ps.length,λi H v H'=>H'=H/\∃k x,ps[i]?=df (k,x)/\v=kV k,λi H=>H a=df (.frz o<|.dK ps)/\ps.length<=i⟩
variable {tg:Expr}
def A9{K:Frag}(a it:Ì)(hd:o.data=.dict ds ep) :
  Turn P w K tg (Itk a o ps) [it] it (λi h=>h.IsKeyIter it a i ps.length ep) where
 mem:=by simp
 obj:=λi h st b hb=>by
  let⟨ob,h1,_,h2⟩:=st;have q:b=it:=⇑hb
  subst q;exact⟨ob,h1,λv z=>by rw[h2]at z;cases z⟩
 keep:=λi h h' st k=>st.at λo e=>k it (by simp) o e
 item:=by intro X hP hw hK hc i Á s σ H E I hf st hg;subst hP hw hK;let⟨e,hi⟩:=hg;let⟨vs,ŝ,da⟩:=We I e hd;have hl:ps.length=vs.length:=ŝ.length;have hx:ps[i]?=df ps[i]:=Ê hi;let⟨u,hu,ru⟩:=ŝ.at (k:=ps[i].1) (x:=ps[i].2) hx;rw[hl]at st;refine wpAny_pyNext_dict_item st da hu λkey h3 hk st3 hs=>?_;have I3:Inv X Á σ H {s with heap:=h3,toks:=s.toks}:=I.turnedL (t':=s.toks) (ch:=[it]) (λb ob hb q=>hs.extBut b ob (λz=>hb<|by simp[z]) q) hf;let⟨ob,ho,aK,hda⟩:=id st3;refine⟨key,rfl,du (s:={s with heap:=h3,toks:=s.toks}) ho aK hda (by decide) ⟨kV ps[i].1,H,I3,D3 hk,⟨rfl,_,_,hx,rfl⟩,?_,λb hb=>(hf b hb).1⟩⟩;show h3.IsKeyIter it a (i+1) ps.length ep;rw[hl];exact st3
 done:=by
  intro X hP hw hK hc i Á s σ H E I hf st hg;subst hP hw hK;let⟨e,hi⟩:=hg;let⟨vs,ŝ,da⟩:=We I e hd;have hl:ps.length=vs.length:=ŝ.length;rw[hl]at st hi;refine wpAny_pyNext_dict_end (I.ok.hd hc) st da (ť hi) λh' he'=>⟨rfl,?_⟩
  exact I.turnedL (t':=s.toks) (ch:=[it]) (λb ob hb q=>he' b ob (λz=>hb<|by simp[z]) q) hf
 self:=λA i s Q E st h=>wpAny_pyIter_keyiter st h
abbrev Lu(X:Cx)(J:Ì->Obj->List (Key×V)->It)(td:TE):TI:=λσ H R=>td σ H λx H1=>∃a ps,x=.ref a/\H1 a=df (.dK ps)/\∀o,(∀o u,X.H₀ a≠df (.frz o u))->R (J a o ps) (upd H1 a<|.frz o<|.dK ps)
variable {d:Expr} {td:TE}
def Ea{Ļ ľ:Pos}(hd:PE X d td)(ϲ:ē d "items" X.env (eval d X.env)=eval d X.env)(ϳ:(Ļ.endLine==ľ.line)=dh) :
  PI X (.Tuple es kk tp) (.Call (.Attribute d "items" Ļ) [] [] ľ) (Lu X Iti td):=by
 intro Á s σ H R I h;refine wpAny_Call_method0_late ϲ ϳ<|thn (hd Á s σ H _ I h) λv s1 ⟨x,H1,I1,r1,a,ps,ex,ea,q1⟩=>?_;subst ex;obtain rfl:v=Value.ref a:=r1;let⟨t1,t2,t3⟩:=Ie I1<|.inl ⟨ps,.inl ea⟩;refine⟨"dict","dict.items",PySem.F.plainAttrs_dict,PySem.F.slot_dict_items,PySem.F.type_dict_items,t1,t2,Calls.callWith_builtin rfl<|PySem.evalArgs_none ?_⟩;let⟨z,hsm,vs,ŝ,dd⟩:=Jx I1.hok ea;refine Μ PySem.F.slot_dict_items dd.typeIs PySem.F.entry_dict_items (PySem.F.args_dict_items_1 _) (meets_dict_items (Zf X.prog X.w) a hsm) ⟨⟨vs,dd⟩,?_⟩;have I2:Inv X Á σ H1 {s1 with heap:=s1.heap.push {cls:=.type "dict_items",data:=.fields #[.ref a]}}:=I1.kept (t':=s1.toks) λb o e=>Ä _ e;let⟨z2,hsm2,vs2,rel2,bZ⟩:=Jx I2.hok ea;let⟨ep,da⟩:=bZ.dictAt;refine wpAny_pyIter_items (s:={s1 with heap:=s1.heap.push {cls:=.type "dict_items",data:=.fields #[.ref a]}}) (d:=a) ⟨_,Ý _ rfl,rfl,rfl⟩ da ?_;have I3:=I2.kept (t':=s1.toks) (h':=(s1.heap.push {cls:=.type "dict_items",data:=.fields #[.ref a]}).push {cls:=.type "dict_itemiterator",data:=.fields #[.none,.bool di,.ref a,.int 0 0,.int vs2.length 0,.int ep 0,.none,.none]}) λb o e=>Ä _ e;let⟨ob,ds,ho,_,hdat,_⟩:=da;have I4:=I3.freeze ea<|Ä _ ho;refine⟨_,[_],_,_,_,rfl,I4,Og a _ hdat,⟨.none,.none,?_⟩,λb hb=>?_,q1 ob λo u z=>by have:=I1.base.frzs a o u z;rw[ea]at this;cases this⟩
 .rw[rel2.length];exact Ý _ rfl
 .have e:b=(s1.heap.push {cls:=.type "dict_items",data:=.fields #[.ref a]}).objs.size:=⇑hb
  subst e;have hn:=I2.hok.fresh<|Ï (s1.heap.push {cls:=.type "dict_items",data:=.fields #[.ref a]}).objs.size;exact I2.fpOk (Ï _) (by rw[dj<|by intro z;rw[z]at hn;rw[ea]at hn;cases hn];exact hn)
def EH(hd:PE X d td):PI X tg d<|Lu X Itk td:=by
 intro Á s σ H R I h;refine thn (hd Á s σ H _ I h) λv s1 ⟨x,H1,I1,r1,a,ps,ex,ea,q1⟩=>?_;subst ex;obtain rfl:v=Value.ref a:=r1;let⟨z,hsm,vs,ŝ,dd⟩:=Jx I1.hok ea;let⟨ep,da⟩:=dd.dictAt;refine wpAny_pyIter_dict hsm da ?_;have I2:=I1.kept (t':=s1.toks) (h':=s1.heap.push {cls:=.type "dict_keyiterator",data:=.fields #[.ref a,.int 0 0,.int vs.length 0,.int ep 0]}) λb o e=>Ä _ e;let⟨ob,ds,ho,_,hdat,_⟩:=da;have I3:=I2.freeze ea<|Ä _ ho;refine⟨_,[_],_,_,_,rfl,I3,A9 a _ hdat,⟨_,Ý _ rfl,rfl,by rw[ŝ.length];rfl⟩,λb hb=>?_,q1 ob λo u z=>by have:=I1.base.frzs a o u z;rw[ea]at this;cases this⟩;have e:b=s1.heap.objs.size:=⇑hb
 subst e;have hn:=I1.hok.fresh<|Ï s1.heap.objs.size;exact I1.fpOk (Ï _) (by rw[dj<|by intro z;rw[z]at hn;rw[ea]at hn;cases hn];exact hn)
abbrev TupsH(I S:Ì)(items:Array Â)(val:Nat->List Int)(h:ċ):Prop:=∀i v,items[i]?=df v->∃a ð,v=.ref a/\a≠I/\a≠S/\ϣ h a ð/\Ě ð.toList (val i)
def TupsH.keep{I S:Ì}{items:Array Â}{val:Nat->List Int}{h h':ċ}(t:TupsH I S items val h)(k:∀b o,b≠I->b≠S->h.get? b=df o->h'.get? b=df o):TupsH I S items val h':=λi v e=>by let⟨a,ð,h1,h2,h3,⟨o,q1,q2⟩,h5⟩:=t i v e;exact⟨a,ð,h1,h2,h3,⟨o,k a o h2 h3 q1,q2⟩,h5⟩
abbrev btL(val:Nat->List Int)(i j:Nat):Bool:=HT.lexLt (val i)<|val j
section
variable {prog:ë}{w:Ă}{A:Ğ}{R:Result->Å->Prop}{I l:Ì}{items:Array Â}{val:Nat->List Int}{kw:List (Str×Â)}{fp:List Ì}{St:Nat->ċ->Prop}
def AT(W:Walks prog w A.in1 I fp [I] items.size (λi v=>items[i]?=df v) St)(hu:A.units+1<Ĥ)(S:Ì)(hSI:S≠I)(hSf:S∉fp) :
  ∀(k j:Nat) (s:Å) (vb:Â) (c:Nat),items.size - (j+1)=k->j+1<=items.size->St (j+1) s.heap->TupsH I S items val s.heap->items[Đ (btL val) j]?=df vb->
  s.heap.get? S=df {cls:=.type "list",dict:=dg,data:=.seq #[vb,vb] c,slots:=#[]}->
  (∀v h' tk,items[Đ (btL val)<|items.size - 1]?=df v->(∀b o,b≠I->b≠S->s.heap.get? b=df o->h'.get? b=df o)->R (.ok<|.ret v) {s with heap:=h',toks:=tk})->
  codeAny (â prog w) A (.builtin "min.loop" ⟨[.ref I,.none,.ref S],kw⟩) R s:=by
 have ay:(toString "min" ++ toString ".loop" : String) = "min.loop":=by decide
 have hSw:S∉[I]:=by simp[hSI]
 intro k;induction k with
 |zero =>
  intro j s vb c hk hj ŭ hT hPb hS hR;have hin:j+1=items.size:=by lia
  refine Ψ PySem.F.entry_min_loop ?_;rw[Ŧ PySem.F.plain_min_loop _];show wpAny _ A.in1 (ϛ (.ref S) >>= _) _ _ s;refine Ã<|Ũ hS rfl ?_;show wpAny _ A.in1 (tryCatch (az<|.ref I) _ >>= _) _ _ s;refine Ã<|η<|W.done s _ _ (hin▸ŭ) λh' tk aU=>?_;have hS':=aU S _ hSw hS;show wpAny _ A.in1 (updateSeq S (λ_=>#[]) >>= _) _ _ _;refine Ã ?_;refine a8 hS' rfl<|Ã<|aQ<|Ù ?_;refine hR vb _ tk (by rw[<-hin];exact hPb) λb o hbw hbS e=>(ü _ _<|Ne.symm hbS).trans (aU b o ⇑hbw e)
 |succ k ih =>
  intro j s vb c hk hj ŭ hT hPb hS hR;have Τ:j+1<items.size:=by lia
  refine Ψ PySem.F.entry_min_loop ?_;rw[Ŧ PySem.F.plain_min_loop _];show wpAny _ A.in1 (ϛ (.ref S) >>= _) _ _ s;refine Ã<|Ũ hS rfl ?_;show wpAny _ A.in1 (tryCatch (az<|.ref I) _ >>= _) _ _ s;refine Ã<|η<|W.item (j+1) s _ _ Τ ŭ λv h' tk hP hst' aU=>?_;have hS':=aU S _ hSw hS;have cN:TupsH I S items val h':=hT.keep λb o h1 _ e=>aU b o ⇑h1 e;have hP:items[j+1]?=df v:=hP;let⟨a,ð,rfl,_,_,pa,ia⟩:=cN _ _ hP;let⟨b0,ϱ,rfl,_,_,pb,ib⟩:=cN _ _ hPb;show wpAny _ A.in1 (tryCatch (ņ [.ref a,.ref a]<|é .Lt (.ref a) (.ref b0) >>= _) _ >>= _) _ _ _;refine Ã<|η<|ŋ<|Ã<|HT.lt_tupInts pa pb ia ib hu ?_;refine Ã<|ŋ<|Ć ?_;refine Ã<|aQ<|Ù ?_;cases hb:HT.lexLt (val<|j+1) (val<|Đ (btL val) j)with
  |true =>
   have b6:btL val (j+1) (Đ (btL val) j)=dh:=hb;simp only[if_true];refine Ã ?_;refine a8 hS' rfl<|Ã<|aQ ?_;rw[ay];refine Ù ⟨Ϧ PySem.F.plain_min_loop _,ih (j+1) _ (.ref a) _ (by lia) Τ (W.frame _ _ _ hst' λb hbf o e=>?_) (cN.keep λb o _ h2 e=>(ü _ _<|Ne.symm h2).trans e) (by simp only[Đ,b6,if_true];exact hP) (ţ _ hS' rfl)
     λv' h'' tk'' hP' hk''=>?_⟩
   .exact(ü _ _ λh:S=b=>hSf<|by rw[h];exact hbf).trans e
   .exact hR v' h'' tk'' hP' λb o hbw hbS e=>hk'' b o hbw hbS ((ü _ _<|Ne.symm hbS).trans<|aU b o ⇑hbw e)
  |false =>have b6:btL val (j+1) (Đ (btL val) j)=di:=hb;simp only[Ĉ,if_false];refine Ã<|aQ ?_;rw[ay];refine Ù ⟨Ϧ PySem.F.plain_min_loop _,ih (j+1) _ (.ref b0) c (by lia) Τ hst' cN (by simp only[Đ,b6,Ĉ,if_false];exact hPb) hS' λv' h'' tk'' hP' hk''=>?_⟩;exact hR v' h'' tk'' hP' λb o hbw hbS e=>hk'' b o hbw hbS (aU b o ⇑hbw e)
variable {s:Å} {c:Nat}
def Om(W:Walks prog w A.in1 I fp [I] items.size (λi v=>items[i]?=df v) St)(hu:A.units+1<Ĥ)(S:Ì)(hSI:S≠I)(hSf:S∉fp)(hn:0<items.size)(ŭ:St 0 s.heap)(hT:TupsH I S items val s.heap)
  (hS:s.heap.get? S=df {cls:=.type "list",dict:=dg,data:=.seq #[] c,slots:=#[]})
  (hR:∀v h' tk,items[Đ (btL val)<|items.size - 1]?=df v->(∀b o,b≠I->b≠S->s.heap.get? b=df o->h'.get? b=df o)->R (.ok<|.ret v) {s with heap:=h',toks:=tk}) :
  codeAny (â prog w) A (.builtin "min.loop" ⟨[.ref I,.none,.ref S],kw⟩) R s:=by
 have ay:(toString "min" ++ toString ".loop" : String) = "min.loop":=by decide
 have hSw:S∉[I]:=by simp[hSI]
 refine Ψ PySem.F.entry_min_loop ?_;rw[Ŧ PySem.F.plain_min_loop _];show wpAny _ A.in1 (ϛ (.ref S) >>= _) _ _ s;refine Ã<|Ũ hS rfl ?_;show wpAny _ A.in1 (tryCatch (az<|.ref I) _ >>= _) _ _ s;refine Ã<|η<|W.item 0 s _ _ hn ŭ λv h' tk hP hst' aU=>?_;have hS':=aU S _ hSw hS;have cN:TupsH I S items val h':=hT.keep λb o h1 _ e=>aU b o ⇑h1 e;show wpAny _ A.in1 (updateSeq S (λ_=>#[v,v]) >>= _) _ _ _;refine Ã ?_;refine a8 hS' rfl ?_;rw[ay];refine Ù ⟨Ϧ PySem.F.plain_min_loop _,AT W hu S hSI hSf _ 0 _ v _ rfl hn (W.frame _ _ _ hst' λb hbf o e=>?_) (cN.keep λb o _ h2 e=>(ü _ _<|Ne.symm h2).trans e) hP (ţ _ hS' rfl) λv' h'' tk'' hP' hk''=>?_⟩
 .exact(ü _ _ λh:S=b=>hSf<|by rw[h];exact hbf).trans e
 .exact hR v' h'' tk'' hP' λb o hbw hbS e=>hk'' b o hbw hbS ((ü _ _<|Ne.symm hbS).trans<|aU b o ⇑hbw e)
def As(hh:A.handled=dg)(hlI:l≠I)(S:Ì)(hSI:S≠I)(hn:items.size=0){nm:Str}{d:Â}(ŭ:s.heap.IsListIter I l 0/\s.heap.IsList l items)
  (hS:s.heap.get? S=df {cls:=.type "list",dict:=dg,data:=.seq #[] c,slots:=#[]})
  (hR:∀h' tk,(∀b o,b≠I->s.heap.get? b=df o->h'.get? b=df o)->R (.ok<|.ret d) {s with heap:=h',toks:=tk}) :
  codeAny (â prog w) A (.builtin "min.loop" ⟨[.ref I,.none,.ref S],[(nm,d)]⟩) R s:=by
 have W:=Walks.list (prog:=prog) (w:=w) (A:=A.in1) hh I l hlI items;refine Ψ PySem.F.entry_min_loop ?_;rw[Ŧ PySem.F.plain_min_loop _];show wpAny _ A.in1 (ϛ (.ref S) >>= _) _ _ s;refine Ã<|Ũ hS rfl ?_;show wpAny _ A.in1 (tryCatch (az<|.ref I) _ >>= _) _ _ s;refine Ã (η<|W.done s _ _ (by rw[hn];exact ŭ) λh' tk aU=>?_);show wpAny _ A.in1 (rule _ >>= λ_=>ret d) _ _ _;exact Ã (wpAny_rule<|Ù<|hR h' tk λb o hb e=>aU b o ⇑hb e)
end
def AB(a:Â):argsOk "min" ⟨[a],[(fo "default",.none)]⟩:=by unfold argsOk;kernel_rfl
def Jz(bt:Nat->Nat->Bool):∀k,Đ bt k<=k
 |0=>Ï _
 |k+1=>by
  unfold Đ;split
  .exact Ï _
  .exact Nat.le_succ_of_le<|Jz bt k
def K7:∀{xs:List V}{us:List Â}{i:Nat}{u:Â},eV xs us->us[i]?=df u->∃x,xs[i]?=df x/\RelV x u
 |_,_,_,_,.nil,e=>by simp at e
 |_,_,0,_,.cons r _,e=>by simp at e;subst e;exact⟨_,rfl,r⟩
 |_,_,i+1,_,.cons _ t,e=>by let⟨x,h1,h2⟩:=K7 (i:=i) t ⇑e;exact⟨x,⇑h1,h2⟩
section
variable {X:Cx}
def Bh{Á:List (Ì×Obj)}{s:Å}{σ:St}{H:Hp}{a:Ì}{xs:List V}{ė:List (List Int)}{Q:VK}(hc:X.calm=dh)(hu:X.A.units+1<Ĥ)(I:Inv X Á σ H s)(hl:eS X.K H a xs)(hr:ė.length=xs.length)
  (ht:∀i,i<ė.length->∃p,xs[i]?=df (.ref p)/\eU X.K H p ((ė.getD i []).map V.int))
  (q0:xs=[]->Q .non H) (q1:xs≠[]->∀x,xs[Đ (btL λi=>ė.getD i [])<|xs.length - 1]?=df x->Q x H) :
  wpAny (â X.prog X.w) X.A (call (.builtin "min") [.ref a] [(fo "default",.none)]) (EP X Á σ Q) X.xe s:=by
 have ay:(toString "min" ++ toString ".loop" : String) = "min.loop":=by decide
 let⟨ð,rv,pl,hz⟩:=I.list hl;have hlen:=rv.length;have cz:=pl.isList;let⟨ol,hol,_⟩:=id cz;have hll:a<s.heap.objs.size:=Ú hol;refine PyProof.Rows.kmk_tree PySem.F.kind_min PySem.F.plain_min PySem.F.entry_min (AB _) ?_;show wpAny _ X.A.in1 (Builtin.Builtins.bindParams "min" ["key","default"] 0 ⟨[],[(fo "default",.none)]⟩ >>= _) _ _ s;refine Ã (wpAny_of_eq (show Builtin.Builtins.bindParams "min" ["key","default"] 0 ⟨[],[(fo "default",.none)]⟩=pure [dg,df .none] from rfl) ?_);refine Ã<|Ù ?_;refine Ã<|aj cz ?_;refine Ã<|wpAny_newList ?_<|ŏ _;rw[ay];have hS:(s.heap.push {cls:=.type "list_iterator",data:=.fields #[.ref a,.int 0 0]}).objs.size=s.heap.objs.size+1:=size_push' ..;have hlI:a≠s.heap.objs.size:=ì hll;have hSI:(s.heap.push {cls:=.type "list_iterator",data:=.fields #[.ref a,.int 0 0]}).objs.size≠s.heap.objs.size:=by rw[hS];exact χ<|Č _
 have hSl:(s.heap.push {cls:=.type "list_iterator",data:=.fields #[.ref a,.int 0 0]}).objs.size≠a:=by rw[hS];exact χ<|ĵ hll
 have kk:∀b o,s.heap.get? b=df o->((s.heap.push {cls:=.type "list_iterator",data:=.fields #[.ref a,.int 0 0]}).push<|ϕ "list" #[] 0).get? b=df o:=λb o e=>Ä _<|Ä _ e;have gI:((s.heap.push {cls:=.type "list_iterator",data:=.fields #[.ref a,.int 0 0]}).push<|ϕ "list" #[] 0).get? s.heap.objs.size=df {cls:=.type "list_iterator",data:=.fields #[.ref a,.int 0 0]} :=
  Ä _ (Ý _ rfl)
 have gS:((s.heap.push {cls:=.type "list_iterator",data:=.fields #[.ref a,.int 0 0]}).push<|ϕ "list" #[] 0).get? (s.heap.push {cls:=.type "list_iterator",data:=.fields #[.ref a,.int 0 0]}).objs.size=df (ϕ "list" #[] 0):=Ý _ rfl;have ό:∀b o,s.heap.get? b=df o->b≠s.heap.objs.size/\b≠(s.heap.push {cls:=.type "list_iterator",data:=.fields #[.ref a,.int 0 0]}).objs.size:=λb o e=>by have:=Ú e;rw[hS];exact⟨ì this,ì<|ĵ this⟩
 have ŭ:Heap.IsListIter ((s.heap.push {cls:=.type "list_iterator",data:=.fields #[.ref a,.int 0 0]}).push<|ϕ "list" #[] 0) s.heap.objs.size a 0/\Heap.IsList ((s.heap.push {cls:=.type "list_iterator",data:=.fields #[.ref a,.int 0 0]}).push<|ϕ "list" #[] 0) a ð.toArray:=by refine⟨⟨_,gI,rfl,rfl⟩,?_⟩;let⟨o,e,r⟩:=cz;exact⟨o,kk _ _ e,r⟩
 refine Ù ⟨Ϧ PySem.F.plain_min_loop _,?_⟩;by_cases h0:xs=[]
 .have hi:ð.toArray.size=0:=by rw[É,<-hlen,h0];rfl
  refine As (I:=s.heap.objs.size) (A:=X.A) (l:=a) (items:=ð.toArray) (I.ok.hd hc) hlI _ hSI hi ŭ gS λh' tk hk=>?_;exact⟨.non,H,I.kept (t':=tk) λb o e=>hk b o (ό b o e).1<|kk b o e,rfl,q0 h0⟩
 .have hi:0<ð.toArray.size:=by
   rw[É,<-hlen];exact Ω.mpr h0
  refine Om (A:=X.A) (items:=ð.toArray) (val:=λi=>ė.getD i []) (Walks.list (A:=X.A.in1) (I.ok.hd hc) s.heap.objs.size a hlI ð.toArray) hu _ hSI (λz=>(Æ.mp z).elim hSI λz=>hSl<|Ñ.mp z) hi ŭ (λi v e=>?_) gS λv h' tk hv hk=>?_
  .have e:ð[i]?=df v:=⇑e
   have hi':i<ė.length:=by rw[hr,hlen];exact(Î.mp e).1
   let⟨p,bq,cM⟩:=ht i hi';let⟨x,hx,rx⟩:=K7 rv e;rw[bq]at hx;cases hx;obtain rfl:v=Value.ref p:=rx;let⟨tt,r2,⟨o2,e2,rest⟩,_⟩:=I.tuple cM;exact⟨p,tt.toArray,rfl,(ό p o2 e2).1,(ό p o2 e2).2,⟨o2,kk _ _ e2,rest⟩,ZJ r2⟩
  .have hv:ð[Đ (btL λi=>ė.getD i [])<|xs.length - 1]?=df v:=by rw[hlen];simpa using hv
   let⟨x,hx,rx⟩:=K7 rv hv;exact⟨x,H,I.kept (t':=tk) λb o e=>hk b o (ό b o e).1 (ό b o e).2<|kk b o e,rx,q1 h0 x hx⟩
abbrev QN(K:Frag)(ta:TA):TE:=λσ H Q=>ta σ H λvs H1=>∃a xs,∃ė:List<|List Int,vs=[.ref a]/\eS K H1 a xs/\ė.length=xs.length/\
 (∀i,i<ė.length->∃p,xs[i]?=df (.ref p)/\eU K H1 p ((ė.getD i []).map V.int))/\(xs=[]->Q .non H1)/\(xs≠[]->∀x,xs[Đ (btL λi=>ė.getD i [])<|xs.length - 1]?=df x->Q x H1)
def Ev{e:Expr}{ta:TA}{p ç kp kpos:Pos}{kk:Nat}(hc:X.calm=dh)(hu:X.A.units+1<Ĥ)(hg:Gl X "min")(hm:X.mg "min" = dg)(ha:PA X [e] ta)(hs:Ó [e] X.env=[(di,eval e X.env)]) :
  PE X (.Call (.Name "min" p) [e] [⟨df "default",.Constant .none kk kp,kpos⟩] ç) (QN X.K ta):=by
 intro Á s σ H Q I h;refine Ň (XI (u:=.builtin "min") I hg hm (by kernel_rfl) ?_);refine PyProof.Rows.callWith_kw (e:=e) (rest:=[]) ?_ (by rw[hs];rfl) (by rw[hs];rfl) rfl rfl;refine thn (ha ç Á s σ H _ I h) λus s1 ⟨vs,H1,I1,r1,a,xs,ė,ev,hl,hr,ht,q0,q1⟩=>?_;subst ev;let⟨u,rfl,ru⟩:=ZM r1;cases ru;refine PyProof.Rows.kws_cons<|thn (CF Á s1 σ H1 (λv H2=>v=.non/\H2=H1) I1 ⟨rfl,rfl⟩) λv s2 ⟨x,H2,I2,r2,e1,e2⟩=>PyProof.Rows.kws_nil ?_;subst e1 e2;obtain rfl:v=Value.none:=r2;exact Bh hc hu I2 hl hr ht q0 q1
def Wh{P:ë}{w:Ă}:∀{ns:List Int}{vs:List (Key×Â)}{ħ:List Â},vs.map (·.1)=ns.map Sum.inl->ħ.length=vs.length->(∀(j:Nat) (v:Â),ħ[j]?=df v->∃(k:Key) (x:Â),vs[j]?=df (k,x)/\(Zf P w).is k v=dh)->Ě ħ ns
 |[],[],[],_,_,_=>.nil
 |[],_::_,_,h,_,_=>by cases h
 |_::_,[],_,h,_,_=>by cases h
 |[],[],_::_,_,h,_=>by cases h
 |_::_,_::_,[],_,h,_=>by cases h
 |n::ns,p::vs,u::ħ,h1,h2,h3=>by rw[Í,Í]at h1;injection h1 with h1 h1';let⟨k,x,e1,e2⟩:=h3 0 u rfl;simp at e1;subst e1;have h1:k=Sum.inl n:=h1;subst h1;obtain⟨t,rfl⟩:∃t,u=Value.int n t:=D3 (k:=Sum.inl n) (u:=u) e2;exact .cons n t (Wh (P:=P) (w:=w) h1' ⇑h2 λj v e=>by simpa using h3 (j+1) v ⇑e)
def MW(hc:X.calm=dh):dA X (.builtin "sorted") (λxs H Q=>∃p kvs,∃ns:List Int,xs=[.ref p]/\Rd H p (.dK kvs)/\kvs.map (·.1)=ns.map Sum.inl/\ns.length<64/\∀l,H l=dg->Q (.ref l) (upd H l<|.lst<|(sortI ns).map V.int)):=by
 intro Á s σ H xs us Q I r h;let⟨p,kvs,ns,rfl,hp,hk,h64,q⟩:=h;let⟨u,rfl,rx⟩:=ZM r;cases rx;let⟨z,hsm,vs,ŝ,dd⟩:=Wf I.hok hp;let⟨ep,da⟩:=dd.dictAt;have hlen:vs.length=ns.length:=by have:=congrArg List.length hk;simpa[ŝ.length]using this
 refine Calls.call_function_entry kind_sorted plain_sorted entry_sorted (args_sorted1 _) ?_;unfold Builtin.«sorted»;refine Ã (m:=checkCount "sorted" 1 1 _)<|Ù ?_;refine Ã (PySem.W.kdu_collect (A:=X.A.in1) (PySem.W.kdl_dict (knd:=Zf X.prog X.w) (kvs:=vs) (ep:=ep) hsm) (I.ok.hd hc) da (by rw[<-ŝ.length];exact z) λh' tk ħ hkeep hacc=>?_);have hl:ħ.toList.length=vs.length:=by rw[ů];exact hacc.1
 refine Ã (wpAny_newList ?_<|by rw[hl,<-ŝ.length];exact z);have hI:Ě ħ.toList ns:=Wh (P:=X.prog) (w:=X.w) (by rw[<-ŝ.keys];exact hk) hl λj v e=>hacc.2 j v (by rw[<-Š];exact e);have hoL:(h'.push<|ϕ "list" ħ.toList.toArray 0).get? h'.objs.size=df (ϕ "list" ħ.toList.toArray 0):=Ý _ rfl;have I1:Inv X Á σ H {s with heap:=h',toks:=tk}:=I.kept hkeep;refine Ã (ŋ<|ŕ slot_list_sort ⟨_,hoL,rfl⟩ entry_list_sort (list_sort_tree hoL hI (by rw[hl,hlen];exact h64) λout bN a1 a2 a3=>⟨_,rfl,?_⟩)<|args_list_sort _);have e:=Ji a2 a3;subst e;let⟨n,he⟩:=sortedHeap_at (out:=out) hoL;refine Ù ⟨_,rfl,.ref h'.objs.size,_,I1.laid (a:=h'.objs.size) (o:=.lst<|(sortI ns).map V.int) (t':=tk) (λb o e=>?_) (Ï _) ?_,rfl,q _<|I1.hok.fresh<|Ï _⟩
 .have e:h'.get? b=df o:=e;have hb:=Ú e;rw[sortedHeap_old (ì hb)<|by rw[size_push'];exact ĵ hb];exact Ä _ e
 .exact⟨by rw[À,Wk];unfold Ü;lia,out.toList,n,Wb a1,by simpa[ϕ]using he⟩
end
end L2
namespace Srt
open PySem.W PyProof.Rows
abbrev ok(n:Nat)(lt:Nat->Nat->Bool){α:Type}:KasT α->(α->Prop)->Prop
 |.ret a,Q=>Q a
 |.ask i j k,Q=>i<n/\j<n/\ok n lt (k<|lt i j) Q
section
variable {n:Nat}{lt:Nat->Nat->Bool}
abbrev K(p:Array Nat)(k:Nat):Nat:=p.getD k 0
end
end Srt
namespace Snd
open PySem L2
variable {i:Inf}{X:Cx}{Φ:O.Fs}
def NH{H:Hp}:∀{kvs:List (O.Val×O.Val)}{ps:List (Key×V)}{ns:List Int},RKs i.K H kvs ps->O.keysOf kvs=df ns->ps.map (·.1)=ns.map Sum.inl
 |_,_,ns,.nil,e=>by have e:df []=df ns:=e;cases e;rfl
 |(k,v)::kvs,_,ns,.cons (c:=c) hk _ t,e=>by
  have e:O.dz (k::kvs.map (·.1))=df ns:=e;cases k with
  |int j =>
   have e:(O.dz (kvs.map (·.1))).map (j :: ·)=df ns:=e;let⟨ms,z,rfl⟩:=Ë.mp e;have ih:=NH (ns:=ms) t z;cases c with
   |inl l =>have hk:j=l:=hk;subst hk;rw[Í,Í,ih]
   |inr _=>exact(show False from hk).elim
  |_=>cases e
def Kn:∀{ys:List O.Val}{ns:List Int},O.dz ys=df ns->ys=ns.map .int
 |[],_,e=>by cases e;rfl
 |y::ys,ns,e=>by
  cases y with
  |int j =>let⟨ms,z,rfl⟩:=Ë.mp (show(O.dz ys).map (j :: ·)=df ns from e);rw[Í,<-Kn z]
  |_=>cases e
def Np{H:Hp}:∀{xs:List O.Val}{us:List V}{ė:List (List Int)},RVs i.K H xs us->O.rowsOf xs=df ė->ė.length=us.length/\(∀n,n<ė.length->∃p,us[n]?=df (.ref p)/\eU i.K H p ((ė.getD n []).map V.int))/\xs=ė.map λr=>.tup (r.map .int)
 |_,_,ė,.nil,e=>by have e:df []=df ė:=e;cases e;exact⟨rfl,λn h=>fk h<|Nat.not_lt_zero _,rfl⟩
 |v::xs,_,ė,.cons r t,e=>by
  cases v with
  |tup ys =>
   let⟨ns,z1,e⟩:=æ.mp (show(O.dz ys).bind (λns=>(O.rowsOf xs).map (ns :: ·))=df ė from e);let⟨rs,z2,rfl⟩:=Ë.mp e;let⟨h1,h2,h3⟩:=Np t z2;cases r with
   |tup hp hr =>
    have:=ZL z1 hr;subst this;refine⟨by rw[Ç,Ç,h1],λn hn=>?_,?_⟩
    .cases n with
     |zero=>exact⟨_,rfl,Zl hp⟩
     |succ n=>exact h2 n ⇑hn
    .rw[Í,<-h3];have:ys=ns.map .int:=Kn z1;rw[this]
  |_=>cases e
def Oa:Wt i .sortedI (λxs H Q=>(∃p,∃ns:List Int,xs=[.ref p]/\eS i.K H p (ns.map V.int)/\ns.length<64/\∀l,H l=dg->Q (.ref l) (upd H l<|.lst<|(L2.sortI ns).map V.int))\/
    (∃p kvs,∃ns:List Int,xs=[.ref p]/\Rd H p (.dK kvs)/\kvs.map (·.1)=ns.map Sum.inl/\ns.length<64/\∀l,H l=dg->Q (.ref l) (upd H l<|.lst<|(L2.sortI ns).map V.int))):=by
 intro vs G H xs Q Qm g r w c;let⟨v,rfl,w⟩:=Yo w;let⟨x,rfl,rx⟩:=r.inv1;have key:∀(ns:List Int),(if ns.length<64 then O.Rs.new (.lst<|(O.sortI ns).map .int)else .no).wp G Qm->ns.length<64/\∀l,H l=dg->Q (.ref l) (upd H l<|.lst<|(L2.sortI ns).map V.int):=λns w=>by
  split at w
  .rename_i h64;exact⟨h64,Yn g (N8 w) c λp hp=>⟨_,dk,RVs.ints _⟩⟩
  .exact(Zh w).elim
 cases v with
 |ref a =>
  cases rx.ref_inv
  replace w:(O.biSortedI G<|.ref a).wp G Qm:=w
  unfold O.biSortedI O.sortAny at w;dsimp only at w;cases z:G a with
  |none=>rw[z]at w;exact(Zh w).elim
  |some o =>
   rw[z]at w;cases o with
   |lst ys =>
    cases z2:O.dz ys with
    |none=>simp only[z2]at w;exact(Zh w).elim
    |some ns =>simp only[z2]at w;let⟨us,h1,h2⟩:=g a _ z;have:=ZL z2 h2;subst this;exact .inl ⟨a,ns,rfl,eS.of h1,key ns w⟩
   |dct kvs =>
    cases z2:O.keysOf kvs with
    |none=>simp only[z2]at w;exact(Zh w).elim
    |some ns =>simp only[z2]at w;let⟨ps,h1,h2⟩:=g a _ z;exact .inr ⟨a,ps,ns,rfl,.inl h1,NH h2 z2,key ns w⟩
   |_=>exact(Zh w).elim
 |scr ns =>
  cases rx with
  |scr h=>exact .inl ⟨_,ns,rfl,Z2 h,key ns w⟩
 |_=>exact(Zh w).elim
end Snd
namespace L2
open PySem PySem.Spec PyProof.Rows
section
variable {X:Cx}{e:Expr}{te:TE}{lo hi:Option Expr}{st:Expr}{tl th:TO}{ts:TE}{ç p2:Pos}
def KG{xs:List V}{us:List Â}(r:eV xs us):∀ix:List Nat,eV (O.pickL ix xs) (O.pickL ix us)
 |[]=>.nil
 |k::ix=>by
  have h:(xs[k]?=dg/\us[k]?=dg)\/∃x u,xs[k]?=df x/\us[k]?=df u/\RelV x u:=by
   clear ix;induction r generalizing k with
   |nil=>exact .inl ⟨rfl,rfl⟩
   |cons r1 r2 ih =>
    cases k with
    |zero=>exact .inr ⟨_,_,rfl,rfl,r1⟩
    |succ k=>exact ih k
  have ih:=KG r ix;unfold O.pickL at ih ⊢;rcases h with⟨h1,h2⟩|⟨x,u,h1,h2,h3⟩
  .rw[ê,ê,h1,h2];exact ih
  .rw[ê,ê,h1,h2];exact .cons h3 ih
def Dc{a b k:Int}{n:Nat}(hk:k≠0)(h1:0<k->0<=a/\b<=n)(h2:k<0->a<n/\-1<=b):(Ν a b k).Nodup/\(Ν a b k).length<=n:=by
 unfold Ν;dsimp only;rcases Int.lt_or_gt_of_ne hk with hk|hk
 .obtain⟨h3,h4⟩:=h2 hk;rw[fg<|by lia];by_cases hs:a > b
  .rw[ff hs];have hd:∀j:Nat,j<((a - b - k - 1) / -k).toNat->(j:Int) * -k<=a - b - 1:=λj hj=>by
    have h5:((j:Int)+1)<=(a - b - k - 1) / -k:=by lia
    have h6:=(bD (by lia:0 < -k)).mp h5;have h7:((j:Int)+1) * -k=(j:Int) * -k + -k:=by rw[ck,cp]
    lia
   refine⟨?_,?_⟩
   .rw[au,cY];refine List.Pairwise.imp_of_mem ?_ bo;intro i j hi hj hij e;have d1:=hd i<|ę.mp hi;have d2:=hd j<|ę.mp hj;have e1:k*(i:Int)=-((i:Int) * -k):=by rw[Int.mul_neg,Int.neg_neg,Int.mul_comm]
    have e2:k*(j:Int)=-((j:Int) * -k):=by rw[Int.mul_neg,Int.neg_neg,Int.mul_comm]
    have e3:(i:Int) * -k<(j:Int) * -k:=Int.mul_lt_mul_of_pos_right (by lia) (by lia);rw[e1,e2]at e;lia
   .rw[À,Ā];have:(a - b - k - 1) / -k<=a - b:=by
     refine cq ((bH (by lia:0 < -k)).mpr ?_);have:(a - b+1) * -k=(a - b)*(-k - 1)+(a - b) + -k:=by rw[ck,Int.mul_sub,ce,cp];lia
     have:0<=(a - b)*(-k - 1):=aD (by lia) (by lia);lia
    lia
  .rw[fg hs];exact⟨Ċ,ŏ _⟩
 .obtain⟨h3,h4⟩:=h1 hk;rw[ff hk];by_cases hs:a<b
  .rw[ff hs];refine⟨?_,?_⟩
   .rw[au,cY];refine List.Pairwise.imp ?_ bo;intro i j hij e;have e3:k*(i:Int)<k*(j:Int):=Int.mul_lt_mul_of_pos_left (by lia) hk;have e4:0<=k*(i:Int):=aD (by lia) (by lia);lia
   .rw[À,Ā];have:(b - a+k - 1) / k<=b - a:=by
     refine cq<|(bH hk).mpr ?_;have:(b - a+1)*k=(b - a)*(k - 1)+(b - a)+k:=by rw[ck,Int.mul_sub,ce,cp];lia
     have:0<=(b - a)*(k - 1):=aD (by lia) (by lia);lia
    lia
  .rw[fg hs];exact⟨Ċ,ŏ _⟩
def EE{items:Array Â}{lo hi:Option Int}{k:Int}(hk:k≠0):∃ix:List Nat,ix.Nodup/\ix.length<=items.size/\cE items lo hi (df k)=(O.pickL ix items.toList).toArray:=by
 refine⟨Ν (Ę lo hi (df k) items.size).fst (Ę lo hi (df k) items.size).snd.fst (Ę lo hi (df k) items.size).snd.snd,?_⟩;have hb:(Ę lo hi (df k) items.size).snd.snd=k:=rfl;rw[hb,<-and_assoc];refine⟨Dc hk (λh=>⟨?_,?_⟩) λh=>⟨?_,?_⟩,?_⟩
 .unfold Ę;dsimp only[š];rw[ff h];cases lo with
  |none=>exact Ξ _
  |some i=>dsimp only;rw[ff h];lia
 .unfold Ę;dsimp only[š];cases hi with
  |none=>dsimp only;rw[ff h];exact Ξ _
  |some i=>dsimp only;rw[ff h];lia
 .unfold Ę;dsimp only[š];cases lo with
  |none=>dsimp only;rw[fg<|by lia];lia
  |some i=>dsimp only;rw[fg<|by lia];lia
 .unfold Ę;dsimp only[š];cases hi with
  |none=>dsimp only;rw[fg<|by lia];exact Ξ _
  |some i=>dsimp only;rw[fg<|by lia];lia
 .unfold cE O.pickL;rw[hb];simp only[Š]
abbrev Rb(K:Frag)(te:TE)(tl th:TO)(ts:TE):TE:=λσ H Q=>te σ H λx H1=>tl σ H1 λl H2=>th σ H2 λu H3=>ts σ H3 λk H4=>∃a xs j,x=.ref a/\k=.int j/\j≠0/\eS K H4 a xs/\∀ix:List Nat,ix.Nodup->ix.length<=xs.length->∀p,H4 p=dg->Q (.ref p) (upd H4 p<|.lst<|O.pickL ix xs)
def Gk(he:PE X e te)(hl:PO X lo tl)(hu:PO X hi th)(hs:PE X st ts):PE X (.Subscript e (.Slice lo hi (df st) p2) ç)<|Rb X.K te tl th ts:=by
 intro Á s σ H Q I h;refine Subscript_<|thn (he Á s σ H _ I h) λv s1 ⟨x,H1,I1,r1,q1⟩=>?_;refine wpAny_Slice (thn (hl Á s1 σ H1 _ I1 q1) λvl s2 ⟨l,H2,I2,pl,q2⟩=>thn (hu Á s2 σ H2 _ I2 q2) λvu s3 ⟨u,H3,I3,pu,q3⟩=>(by
 rw[evalPart_some]
 refine thn (hs Á s3 σ H3 _ I3 q3) λvk s4 ⟨k,H4,I4,rk,q4⟩=>?_
 let⟨a,xs,j,rfl,rfl,hj,hx,q⟩:=q4
 cases r1
 let⟨tk,rfl⟩:=rk
 have pk:ψ (.int j tk)<|df j:=.int j tk
 have I5:Inv X Á σ H4 {s4 with heap:=s4.heap.push {cls:=.type "slice",data:=.fields #[vl,vu,.int j tk]}}:=I4.kept (t':=s4.toks) λb ob q=>Ä _ q
 let⟨ð,r,ht,hz⟩:=I5.list hx
 have hlen:=r.length
 let⟨ix,n1,n2,n3⟩:=EE (items:=ð.toArray) (lo:=l) (hi:=u) hj
 rw[É,<-hlen]at n2
 show wpAny (â X.prog X.w) X.A (ϥ e (.Slice lo hi (df st) p2) (.ref a)<|.ref s4.heap.objs.size) (EP X Á σ Q) X.xe {s4 with heap:=s4.heap.push {cls:=.type "slice",data:=.fields #[vl,vu,.int j tk]}}
 refine tail_any (ops:=[.ref a,.ref s4.heap.objs.size]) ht.isList.typeIs ai.lookup ?_ (by with_unfolding_all rfl)
 refine cg ht.isList (Heap.IsSliceOf.new ..) pl pu pk (λz=>hj<|ï z) ?_ (by rw[É]<;>lia)
 rw[n3]
 refine⟨.ref _,_,I5.laid (a:=_) (t':=s4.toks) (o:=.lst<|O.pickL ix xs) (λb ob q=>Ä _ q) (Ï _) ?_,rfl,q ix n1 n2 _<|I5.hok.fresh<|Ï _⟩
 exact⟨Ô (Ô (ž _ _) n2) hz,O.pickL ix ð,0,KG r ix,Ý _ rfl⟩))
end
end L2
namespace Snd
open PySem L2
variable {i:Inf}{X:Cx}{Φ:O.Fs}
def Nc{K:Frag}{H:Hp}{xs:List O.Val}{us:List V}(r:RVs K H xs us):∀ix:List Nat,RVs K H (O.pickL ix xs) (O.pickL ix us)
 |[]=>.nil
 |k::ix=>by
  have ih:=Nc r ix;unfold O.pickL at ih ⊢;cases h1:xs[k]? with
  |none =>
   have h2:us[k]?=dg:=by rw[List.getElem?_eq_none_iff]at h1 ⊢;rw[<-r.length];exact h1
   rw[ê,ê,h1,h2];exact ih
  |some x =>let⟨u,h2,h3⟩:=r.get h1;rw[ê,ê,h1,h2];exact .cons h3 ih
def Ft{G:O.Hs}{H:Hp}(g:RH i G H){v:O.Val}{x:V}{xs:List O.Val}(e:O.lsA G v=df xs)(r:RV i.K H v x):∃a vs,x=.ref a/\eS i.K H a vs/\RVs i.K H xs vs:=by
 cases v with
 |ref a =>cases r.ref_inv;let⟨vs,h1,h2⟩:=ZI g (show O.dF (G a)=df xs from e);exact⟨a,vs,rfl,h1,h2⟩
 |scr ns =>
  cases e;cases r with
  |scr h=>exact⟨_,_,rfl,Z2 h,RVs.ints ns⟩
 |_=>cases e
def HW{a:Expr}{lo hi:Option Expr}{st:Expr}{ma ms:O.E}{ml mh:O.Oe}{p2 ç:Pos}(hK:X.K=i.K)(ha:PE X a<|tE X i Φ ma)(hl:PO X lo<|tOx X i Φ ml)(hh:PO X hi<|tOx X i Φ mh)(hs:PE X st<|tE X i Φ ms):PE X (.Subscript a (.Slice lo hi (df st) p2) ç) (tE X i Φ<|.pick ma ml mh ms) :=
 (Gk ha hl hh hs).imp λσ H Q ⟨env,G,Qm,Em,p,w,c⟩=>by
  exact⟨env,G,_,Em,p,w,λv G1 H1 x k1 g1 r1 w1=>⟨env,G1,_,Em,p.go k1 g1,w1,λl G2 H2 k2 g2 w2=>⟨env,G2,_,Em,(p.go k1 g1).go k2 g2,w2,λu G3 H3 k3 g3 w3=>⟨env,G3,_,Em,((p.go k1 g1).go k2 g2).go k3 g3,w3,λk G4 H4 y k4 g4 ry w4=>by
    let⟨j,e1,w5⟩:=dq w4
    let⟨hj,w6⟩:=w5
    let⟨xs,e2,w7⟩:=dq w6
    let⟨b,us,hx,hsq,rr⟩:=Ft g4 e2<|((r1.keep k2).keep k3).keep k4
    exact⟨b,us,j,hx,(by cases Zy e1;exact ry.int_inv),hj,by rw[hK];exact hsq,λix n1 n2=>Yn g4 (w7 ix n1<|by rw[rr.length];exact n2) ((((c.go k1).go k2).go k3).go k4) λp hp=>⟨_,dk,(Nc rr ix).keep<|dO.new hp⟩⟩⟩⟩⟩⟩
end Snd
namespace Snd
open PySem L2 PyProof.Rows
variable {i:Inf}{X:Cx}{Φ:O.Fs}
def KM:∀(ns:List Int) (a:Int),a∈O.dedup ns↔a∈ns
 |[],a=>Iff.rfl
 |x::xs,a=>by
  have ih:=KM xs a;unfold O.dedup;simp only[Æ,ă,ih];constructor
  .rintro(h|h)
   .exact .inl h
   .exact .inr h.1
  .rintro(h|h)
   .exact .inl h
   .by_cases e:a=x
    .exact .inl e
    .exact .inr ⟨h,⇑e⟩
def WA:∀ns:List Int,(O.dedup ns).Nodup
 |[]=>Ċ
 |x::xs=>by unfold O.dedup;rw[Ą];refine⟨λh=>?_,List.Nodup.sublist ϊ<|WA xs⟩;have:=(ă.mp h).2;simp at this
def JR:∀(ns ħ:List Int),ħ.Nodup->(ns.foldl Ο ħ).Nodup/\∀a,a∈ns.foldl Ο ħ↔a∈ħ\/a∈ns
 |[],ħ,h=>⟨h,λa=>by simp⟩
 |x::xs,ħ,h=>by
  have h2:(Ο ħ x).Nodup/\∀a,a∈Ο ħ x↔a∈ħ\/a=x:=by
   unfold Ο;split
   .rename_i hc;have hm:x∈ħ:=⇑hc
    exact⟨h,λa=>⟨.inl,λz=>z.elim id λe=>e▸hm⟩⟩
   .rename_i hc;have hm:x∉ħ:=⇑hc
    refine⟨?_,λa=>by simp⟩;rw[ä];refine⟨h,by simp,λa ha b hb=>?_⟩;rw[Ñ.mp hb];exact λe=>hm<|e▸ha
  let⟨h3,h4⟩:=JR xs (Ο ħ x) h2.1;refine⟨h3,λa=>?_⟩;rw[İ,h4,h2.2,Æ];constructor
  .rintro((z|z)|z)
   .exact .inl z
   .exact .inr<|.inl z
   .exact .inr<|.inr z
  .rintro(z|z|z)
   .exact .inl<|.inl z
   .exact .inl<|.inr z
   .exact .inr z
def CQ(ns:List Int):(firstMet (λi=>ns.getD i 0) ns.length).Perm<|O.dedup ns:=by
 have e:(List.range ns.length).map (λi=>ns.getD i 0)=ns:=by
  apply List.ext_getElem
  .simp
  .intro k h1 h2;simp at h1;simp[h1]
 unfold firstMet;rw[e];let⟨h1,h2⟩:=JR ns [] Ċ;refine(List.perm_ext_iff_of_nodup h1<|WA ns).mpr λa=>?_;rw[h2,KM];simp
def EL(ns:List Int):(firstMet (λi=>ns.getD i 0) ns.length).length=(O.dedup ns).length:=(CQ ns).length_eq
def Cj{G:O.Hs}{H:Hp}{v:O.Val}{x:V}{ns:List Int}(g:RH i G H)(r:RV i.K H v x)(e:O.sortOf G v=df ns):∃p,x=.ref p/\eS i.K H p (ns.map V.int):=by
 cases v with
 |ref a =>let⟨ys,z1,z2⟩:=æ.mp (show(O.dF<|G a).bind O.dz=df ns from e);let⟨us,h1,h2⟩:=ZI g z1;have:=ZL z2 h2;subst this;exact⟨a,r.ref_inv,h1⟩
 |scr ms =>
  cases e;cases r with
  |scr h=>exact⟨_,rfl,Z2 h⟩
 |_=>cases e
def Kv:∀{xs:List O.Val}{k n:Nat}{v:O.Val},(O.enumL k xs)[n]?=df v->∃x,xs[n]?=df x/\v=.tup [.int ((k+n:Nat):Int),x]
 |[],k,n,v,h=>by simp[O.enumL]at h
 |x::xs,k,0,v,h=>by have h:df (O.Val.tup [.int k,x])=df v:=h;cases h;exact⟨x,rfl,rfl⟩
 |x::xs,k,n+1,v,h=>by let⟨y,h1,h2⟩:=Kv (xs:=xs) (k:=k+1) (n:=n) (v:=v) (by simpa[O.enumL]using h);refine⟨y,⇑h1,?_⟩;rw[h2,show k+1+n=k+(n+1) by lia]
def KP:∀(xs:List O.Val) (k:Nat),(O.enumL k xs).length=xs.length
 |[],_=>rfl
 |x::xs,k=>by show(O.enumL (k+1) xs).length+1=xs.length+1;rw[KP xs]
variable {xs:List O.Val}
def DR{H0:Hp}{a:Ì}{us:List V}(ha:H0 a=df (.tup us)\/KT i.K a us)(ra:RVs i.K H0 xs us):ItOk i H0 (Ite i.K a) (λ_=>True) (O.enumL 0 xs) where
 go:=λn G H v k g e hv=>by let⟨x,hx,rfl⟩:=Kv hv;have h1:eU i.K H a us:=Zl<|ha.imp (k.t _ _) id;let⟨x',h5,h6⟩:=(ra.keep k).get hx;refine⟨⟨us,x',h1,h5⟩,λw H' ⟨p,e1,hp,e2⟩=>?_⟩;subst e1;have:=e2 us x' h1 h5;subst this;have k:=dO.new (o:=.tup [.int n,x']) hp;refine⟨k,WX g hp,.tup (.inl dk)<|.cons ?_<|.cons (h6.keep k) .nil⟩;rw[Α];exact .int _
 stop:=λn G H k g e hn=>by have h1:eU i.K H a us:=Zl<|ha.imp (k.t _ _) id;exact⟨us,h1,by rw[<-ra.length,<-KP xs 0];exact hn⟩
def OM{v:O.Val}(h:O.tupOf v=df xs):v=.tup xs:=by
 cases v with
 |tup ys=>cases h;rfl
 |_=>cases h
variable {p:Pos} {ç:Pos} {e:Expr} {m:O.E}
def Er{es:List Expr}{kk:Nat}{tp:Pos}(hK:X.K=i.K)(hg:Gl X "enumerate")(hm:X.mg "enumerate" = dg)(he:PE X e<|tE X i Φ m)(hs:Ó [e] X.env=[(di,eval e X.env)]) :
  PI X (.Tuple es kk tp) (.Call (.Name "enumerate" p) [e] [] ç) (tIt X i Φ<|.enum m) :=
 (CJ hg hm (ZY he eQ hs) hs).imp λσ H R ⟨env,G,QI,Em,p,w,c⟩=>by
  change tE X i Φ m σ H _;refine one p w λv G1 H1 x k1 p1 rx q=>?_;let⟨xs,e1,q2⟩:=dq q;clear q;cases OM e1;rw[hK];cases rx with
  |tup hp hr=>exact⟨_,rfl,⟨_,Zl hp⟩,c _ _ G1 H1 _ k1 p1.hp (DR hp hr) q2⟩
def BV{p2 pos2:Pos}(hc:X.calm=dh)(hK:X.K=i.K)(he:PE X e<|tE X i Φ m)(hg:Gl X "len")(hm:X.mg "len" = dg)(hg2:Gl X "set")(hm2:X.mg "set" = dg)(ŭ:Ó [e] X.env=[(di,eval e X.env)]) :
  PE X (.Call (.Name "len" p) [.Call (.Name "set" p2) [e] [] pos2] [] ç) (tE X i Φ<|.bi .lenSet<|.cons m .nil):=by
 refine(ZC Am hg hm (by kernel_rfl)<|ZY (Xq Ed hg2 hm2 (by kernel_rfl) (ZY he eQ ŭ) (he:=ŭ)) eQ).imp λσ H Q ⟨env,G,Qm,Em,p,w,c⟩=>?_;change tE X i Φ m σ H _;refine one p w λv G1 H1 x k1 p1 r q=>?_
 replace q:(O.biLenSet G1 v).wp G1 Qm:=q
 unfold O.biLenSet at q;cases z:O.sortOf G1 v with
 |none=>rw[z]at q;exact(Zh q).elim
 |some ns =>
  rw[z]at q;dsimp only at q;split at q
  .rename_i h4;let⟨a,rfl,hs⟩:=Cj p1.hp r z;refine⟨a,ns,rfl,by rw[hK];exact hs,h4,hc,λl S n hl hn=>?_⟩;have hn2:=hn.trans<|EL ns;clear hn;subst hn2;have k2:dO H1<|upd H1 l<|.set S (O.dedup ns).length:=dO.new hl;refine⟨l,S,_,rfl,dk,?_⟩;exact c _ G1 _ _ (k1.trans k2) (WX p1.hp hl) (.int _)<|Zg q
  .exact(Zh q).elim
end Snd
namespace Snd
open PySem L2
variable {i:Inf}{X:Cx}
variable {p:Int×Int}
def Oz{v:O.Val}(h:O.pairI v=df p):v=.tup [.int p.1,.int p.2]:=by
 unfold O.pairI at h;split at h
 .cases h;rfl
 .cases h
def JX{H:Hp}{v:O.Val}{x:V}(r:RV i.K H v x)(h:O.pairI v=df p):∃a,x=.ref a/\eU i.K H a [.int p.1,.int p.2]:=by
 cases Oz h;cases r with
 |tup hp hr =>
  cases hr with
  |cons r1 t=>cases t with
   |cons r2 t =>cases t;cases r1.int_inv;cases r2.int_inv;exact⟨_,rfl,Zl hp⟩
def Fq:Wt i .minP λxs H Q=>∃p k j,xs=[.ref p]/\eU i.K H p [.int k,.int j]/\Q (.int<|if j<k then j else k) H:=by
 intro vs G H xs Q Qm g r w c;let⟨v,rfl,w2⟩:=Yo w;let⟨x,rfl,rx⟩:=r.inv1;unfold O.biMinP at w2;cases z:O.pairI v with
 |some p =>rw[z]at w2;let⟨a,rfl,hs⟩:=JX rx z;exact⟨a,p.1,p.2,rfl,hs,c _ G H _ (dO.refl H) g (.int _)<|Zg w2⟩
 |none=>rw[z]at w2;exact(Zh w2).elim
def Fb:Wt i .sum λxs H Q=>∃p k j,xs=[.ref p]/\eU i.K H p [.int k,.int j]/\Q (.int<|k+j) H:=by
 intro vs G H xs Q Qm g r w c;let⟨v,rfl,w2⟩:=Yo w;let⟨x,rfl,rx⟩:=r.inv1;unfold O.biSumP at w2;cases z:O.pairI v with
 |some p =>rw[z]at w2;let⟨a,rfl,hs⟩:=JX rx z;exact⟨a,p.1,p.2,rfl,hs,c _ G H _ (dO.refl H) g (.int _)<|Zg w2⟩
 |none=>rw[z]at w2;exact(Zh w2).elim
def F3:Wt i .maxP λxs H Q=>∃p k j,xs=[.ref p]/\eU i.K H p [.int k,.int j]/\Q (.int<|if j > k then j else k) H:=by
 intro vs G H xs Q Qm g r w c;let⟨v,rfl,w2⟩:=Yo w;let⟨x,rfl,rx⟩:=r.inv1;unfold O.biMaxP at w2;cases z:O.pairI v with
 |some p =>rw[z]at w2;let⟨a,rfl,hs⟩:=JX rx z;exact⟨a,p.1,p.2,rfl,hs,c _ G H _ (dO.refl H) g (.int _)<|Zg w2⟩
 |none=>rw[z]at w2;exact(Zh w2).elim
variable {i:Inf}{X:Cx}{Φ:O.Fs}
section
variable {K:Frag}{H H':Hp}
structure eP(H H':Hp):Prop where
 t:∀a xs,H a=df (.tup xs)->H' a=df (.tup xs)
 f:∀a o xs,H a=df (.frz o<|.lst xs)->H' a=df (.frz o<|.lst xs)
mutual
theorem RV.keepL(k:eP H H'):∀{v:O.Val}{x:V},RV K H v x->RV K H' v x
 |_,_,.non=>.non
 |_,_,.bl b=>.bl b
 |_,_,.int i=>.int i
 |_,_,.str s=>.str s
 |_,_,.tup (.inl e) r=>.tup (.inl<|k.t _ _ e)<|RVs.keepL k r
 |_,_,.tup (.inr e) r=>.tup (.inr e)<|RVs.keepL k r
 |_,_,.ref a=>.ref a
 |_,_,.scr (.inl ⟨o,e⟩)=>.scr<|.inl ⟨o,k.f _ _ _ e⟩
 |_,_,.scr (.inr e)=>.scr<|.inr e
 |_,_,.key e=>.key<|k.t _ _ e
theorem RVs.keepL(k:eP H H'):∀{vs:List O.Val}{xs:List V},RVs K H vs xs->RVs K H' vs xs
 |_,_,.nil=>.nil
 |_,_,.cons r t=>.cons (RV.keepL k r)<|RVs.keepL k t
end
def RKs.keepL(k:eP H H'):∀{kvs:List (O.Val×O.Val)}{ps:List (Key×V)},RKs K H kvs ps->RKs K H' kvs ps
 |_,_,.nil=>.nil
 |_,_,.cons a r t=>.cons a (r.keepL k)<|RKs.keepL k t
def RTs.keepL(k:eP H H'):∀{kvs:List (O.Val×O.Val)}{ps:List (List Key×V)},RTs K H kvs ps->RTs K H' kvs ps
 |_,_,.nil=>.nil
 |_,_,.cons r t=>.cons (r.keepL k)<|RTs.keepL k t
def RFs.keepL(k:eP H H'):∀{fs:List (String×O.Val)}{ps:List (Str×V)},RFs K H fs ps->RFs K H' fs ps
 |_,_,.nil=>.nil
 |_,_,.cons r t=>.cons (r.keepL k)<|RFs.keepL k t
def REn.keepL{env:O.Env}{σ:St}(r:REn K H env σ)(k:eP H H'):REn K H' env σ:=⟨r.len,λi v e=>by
  let⟨x,h1,h2⟩:=r.get i v e
  exact⟨x,h1,h2.keepL k⟩⟩
variable {a:Ì}
def RO.moveL{o:O.Ob}(r:RO i H a o)(k:eP H H')(e:H' a=H a):RO i H' a o:=by
 cases o with
 |lst xs=>let⟨vs,q,r⟩:=r;exact⟨vs,e.trans q,r.keepL k⟩
 |dct kvs=>let⟨ps,q,r⟩:=r;exact⟨ps,e.trans q,r.keepL k⟩
 |ins C fs=>let⟨c,dx,ps,h0,h,q,r⟩:=r;exact⟨c,dx,ps,h0,h,e.trans q,r.keepL k⟩
 |exc C=>let⟨c,h,q⟩:=r;exact⟨c,h,e.trans q⟩
 |frz kvs=>let⟨o,ps,q,r⟩:=r;exact⟨o,ps,e.trans q,r.keepL k⟩
 |dtp kvs=>let⟨ps,q,r⟩:=r;exact⟨ps,e.trans q,r.keepL k⟩
variable {o:Obj} {ps:List (Key×V)}
def Xv(e:H a=df (.frz o<|.dK ps)):eP H (upd H a<|.dK ps) :=
 ⟨λb xs q=>by rw[dj<|by rintro rfl;rw[e]at q;cases q];exact q,λb p xs q=>by rw[dj<|by rintro rfl;rw[e]at q;cases q];exact q⟩
def RH.thaw{G:O.Hs}{kvs:List (O.Val×O.Val)}(g:RH i G H)(e:H a=df (.frz o<|.dK ps))(r:RKs i.K H kvs ps):RH i (O.upd G a<|.dct kvs)<|upd H a<|.dK ps:=λb p q=>by
 by_cases hb:b=a
 .subst hb;rw[O.dk]at q;cases q;exact⟨ps,dk,r.keepL<|Xv e⟩
 .rw[O.dj hb]at q;exact(g b p q).moveL (Xv e)<|dj hb
def RKs.len:∀{kvs:List (O.Val×O.Val)}{ps:List (Key×V)},RKs K H kvs ps->kvs.length=ps.length
 |_,_,.nil=>rfl
 |_,_,.cons _ _ t=>by rw[Ç,Ç,RKs.len t]
def RKs.at:∀{kvs:List (O.Val×O.Val)}{ps:List (Key×V)}{n:Nat}{c:Key}{x:V},RKs K H kvs ps->ps[n]?=df (c,x)->∃k v,kvs[n]?=df (k,v)/\WK k c/\RV K H v x
 |_,_,n,_,_,.nil,e=>by simp at e
 |_,_,0,_,_,.cons hk r _,e=>by simp at e;let⟨rfl,rfl⟩:=e;exact⟨_,_,rfl,hk,r⟩
 |_,_,n+1,_,_,.cons _ _ t,e=>by let⟨k,v,h1,h2⟩:=RKs.at (n:=n) t ⇑e;exact⟨k,v,⇑h1,h2⟩
def DD{k:O.Val}{c:Key}(h:WK k c):RV K H k<|kV c:=by
 cases k with
 |int j=>cases c with
  |inl l=>have h:j=l:=h;subst h;exact .int _
  |inr _=>exact(show False from h).elim
 |str s=>cases c with
  |inl _=>exact(show False from h).elim
  |inr t=>have h:t=fo s:=h;subst h;exact .str _
 |_=>exact(show False from h).elim
end
variable {H0:Hp} {a:Ì} {o:Obj} {ps:List (Key×V)} {kvs:List (O.Val×O.Val)}
def Df(e0:H0 a=df (.frz o<|.dK ps))(r0:RKs i.K H0 kvs ps):ItOk i H0 (Iti a o ps) (λg=>g a=df (.frz kvs)) (kvs.map<|O.itemOf di) where
 go:=λn G H v k g e hv=>by
  have e1:=k.f _ _ _ e0;rw[Ø]at hv;let⟨p,hp,rfl⟩:=Ë.mp hv;have hn:n<ps.length:=by rw[<-r0.len];exact(Î.mp hp).1
  refine⟨⟨e1,hn⟩,λx H' ⟨q,c,y,ex,hq,hy,eH⟩=>?_⟩;subst ex eH;let⟨k2,v2,h1,h2,h3⟩:=(r0.keep k).at hy;rw[hp]at h1;cases h1;have kk:dO H<|upd H q<|.tup [kV c,y]:=dO.new hq;exact⟨kk,WX g hq,.tup (.inl dk)<|.cons (DD h2)<|.cons (h3.keep kk) .nil⟩
 stop:=λn G H k g e hn=>⟨k.f _ _ _ e0,by rw[<-r0.len];simpa using hn⟩
def EC(e0:H0 a=df (.frz o<|.dK ps))(r0:RKs i.K H0 kvs ps):ItOk i H0 (Itk a o ps) (λg=>g a=df (.frz kvs)) (kvs.map<|O.itemOf dh) where
 go:=λn G H v k g e hv=>by
  have e1:=k.f _ _ _ e0;rw[Ø]at hv;let⟨p,hp,rfl⟩:=Ë.mp hv;have hn:n<ps.length:=by rw[<-r0.len];exact(Î.mp hp).1
  refine⟨⟨e1,hn⟩,λx H' ⟨eH,c,y,hy,ex⟩=>?_⟩;subst ex eH;let⟨k2,v2,h1,h2,h3⟩:=(r0.keep k).at hy;rw[hp]at h1;cases h1;exact⟨dO.refl _,g,DD h2⟩
 stop:=λn G H k g e hn=>⟨k.f _ _ _ e0,by rw[<-r0.len];simpa using hn⟩
variable {tg:Expr} {ç:Pos} {body:List ĭ} {q:O.Pt} {m:O.E} {mb:O.Ss}
def O4{Ś:Expr}{kb:Bool}{J:Ì->Obj->List (Key×V)->It}(hp:Ž (â X.prog X.w) X.A X.env X.xe)(hc:X.calm=dh)(hi:PI X tg Ś<|Lu X J<|tE X i Φ m)(hg:PG X tg<|gPt i q)(hb:PSs X body<|tBl X i Φ mb)
  (hs:∀x,ď Ś X.env x=pure x) (hJ:∀(H0:Hp) (a:Ì) (o:Obj) (ps:List<|Key×V) (kvs:List<|O.Val×O.Val),H0 a=df (.frz o<|.dK ps)->RKs i.K H0 kvs ps->ItOk i H0 (J a o ps) (λg=>g a=df (.frz kvs)) (kvs.map<|O.itemOf kb)) :
  PS X (.For tg Ś body [] ç) (tSt X i Φ<|.forI kb q m mb):=by
 intro Á s σ H D I ⟨env,G,N,R,B,C,Xe,p,w,c⟩;refine Gg (Cp hp hc hi hg hb hs) Á s σ H D I ?_;refine one p.pre w λv G1 H1 x k1 p1 rx w'=>?_;let⟨a,e1,w''⟩:=dq w';let⟨kvs,e2,w1⟩:=dq w'';clear w' w'';have ev:v=.ref a:=by
  cases v with
  |ref b=>cases e1;rfl
  |_=>cases e1
 subst ev;cases rx.ref_inv;have eG:G1 a=df (.dct kvs):=by
  cases z:G1 a with
  |none=>rw[z]at e2;cases e2
  |some o=>rw[z]at e2;cases o<;>first|(cases e2;rfl)|cases e2
 let⟨ps,ha,hr⟩:=p1.hp a _ eG;refine⟨a,ps,rfl,ha,λo h0=>?_⟩;have k2:dO H1<|upd H1 a<|.frz o<|.dK ps:=dO.put (λxs z=>by rw[ha]at z;cases z) λp u z=>by rw[ha]at z;cases z
 have g2:RH i (O.upd G1 a<|.frz kvs)<|upd H1 a<|.frz o<|.dK ps:=p1.hp.put k2 ⟨o,ps,dk,hr.keep k2⟩;have it:=hJ _ a o ps kvs dk<|hr.keep k2;have Ϸ:∀{H':Hp}{G':O.Hs},dO (upd H1 a<|.frz o<|.dK ps) H'->RH i G' H'->H' a=df (.frz o<|.dK ps)/\RKs i.K H' kvs ps/\dO H (upd H' a<|.dK ps):=λ{H' G'} k g=>by
  have e:=k.f a o _ dk;refine⟨e,(hr.keep k2).keep k,λb xs z=>?_,λb o' u z=>?_⟩
  .have z1:=k1.t b xs z;have hb:b≠a:=by rintro rfl;rw[ha]at z1;cases z1
   rw[dj hb];exact k.t b xs (by rw[dj hb];exact z1)
  .have z1:=k1.f b o' u z;have hb:b≠a:=by rintro rfl;rw[ha]at z1;cases z1
   rw[dj hb];exact k.f b o' u (by rw[dj hb];exact z1)
 have fin:∀Ĳ Ń G' H',dO (upd H1 a<|.frz o<|.dK ps) H'->RH i G' H'->REn i.K H' Ĳ Ń->(G' a=df (.frz kvs)/\N Ĳ (O.upd G' a<|.dct kvs))->(D.thaw X).nx Ń H':=λĲ Ń G' H' k g en ⟨_,n⟩=>by let⟨b1,b2,b3⟩:=Ϸ k g;exact⟨a,o,ps,b1,h0,c.nx Ĳ Ń _ _ b3 (g.thaw b1 b2) (en.keepL<|Xv b1) n⟩
 have ret:∀v G' H' x,dO (upd H1 a<|.frz o<|.dK ps) H'->RH i G' H'->RV i.K H' v x->(G' a=df (.frz kvs)/\R v (O.upd G' a<|.dct kvs))->(D.thaw X).rt x H':=λv G' H' x k g r ⟨_,n⟩=>by let⟨b1,b2,b3⟩:=Ϸ k g;exact⟨a,o,ps,b1,h0,c.rt v _ _ x b3 (g.thaw b1 b2) (r.keepL<|Xv b1) n⟩
 have xo:∀Hq,XW X (XKS i Hq λ_ _ _=>False):=λHq=>λ_ _ _ _ _ _ _ _ _ _ ⟨_,_,_,_,_,_,_,_,z⟩=>z.elim;generalize hxs:kvs.map (O.itemOf kb)=xs at w1 it;generalize ŭ:(λg:O.Hs=>g a=df (.frz kvs))=st at w1 it;refine⟨λn m Ń H'=>n+m=xs.length/\∃Ĳ G',dO (upd H1 a<|.frz o<|.dK ps) H'/\RH i G' H'/\REn i.K H' Ĳ Ń/\O.wFor st (λv e g K M=>O.go (O.bind q g v e) λe2=>O.wSs Φ mb e2 g K (λu g2=>g2 a=df (.frz kvs)/\R u (O.upd g2 a<|.dct kvs)) M K λ_ _ _=>False) (λe g=>g a=df (.frz kvs)/\N e (O.upd g a<|.dct kvs)) (xs.drop n) Ĳ G',⟨xs.length,by lia,env,_,dO.refl _,g2,(p.en.keep k1).keep k2,⇑w1⟩,?_⟩;rintro n m Ń H' ⟨hnm,Ĳ,G',k3,g3,e3,w3⟩;by_cases hn:n<xs.length
 .right;have hd:xs.drop n=xs[n]::xs.drop (n+1):=Œ hn;rw[hd]at w3;let⟨s2,w3⟩:=w3;have hv:xs[n]?=df xs[n]:=Ê hn;let⟨a1,a2⟩:=it.go n G' H' xs[n] k3 g3 s2 hv;refine⟨a1,λσ4 H4=>∃bT G4,dO (upd H1 a<|.frz o<|.dK ps) H4/\RH i G4 H4/\REn i.K H4 bT σ4/\O.wFor st (λv e g K M=>O.go (O.bind q g v e) λe2=>O.wSs Φ mb e2 g K (λu g2=>g2 a=df (.frz kvs)/\R u (O.upd g2 a<|.dct kvs)) M K λ_ _ _=>False) (λe g=>g a=df (.frz kvs)/\N e (O.upd g a<|.dct kvs)) (xs.drop<|n+1) bT G4,λσ4 H4 h=>⟨m - 1,by lia,by lia,h⟩,λx H4 hy=>?_⟩;let⟨k4,g4,r4⟩:=a2 x H4 hy;let⟨ap,e5,w5⟩:=dq w3;refine⟨xs[n],Ĳ,G',ap,r4,g4,e3.keep k4,e5,λσ5 h5=>?_⟩;refine⟨ap,G',_,_,_,_,_,⟨h5,g4,xo _⟩,w5,⟨λenv6 σ6 G6 H6 k6 g6 e6 w6=>?_,λv6 G6 H6 x6 k6 g6 r6 w6=>?_,λenv6 σ6 G6 H6 k6 g6 e6 w6=>?_,λenv6 σ6 G6 H6 k6 g6 e6 w6=>?_⟩⟩
  .exact⟨env6,G6,(k3.trans k4).trans k6,g6,e6,w6⟩
  .exact ret v6 G6 H6 x6 ((k3.trans k4).trans k6) g6 r6 w6
  .exact fin env6 σ6 G6 H6 ((k3.trans k4).trans k6) g6 e6 w6
  .exact⟨env6,G6,(k3.trans k4).trans k6,g6,e6,w6⟩
 .left;have hd:xs.drop n=[]:=π (by lia);rw[hd]at w3;exact⟨it.stop n G' H' k3 g3 w3.1 (by lia),fin Ĳ Ń G' H' k3 g3 e3 w3.2⟩
variable {kk:Nat} {d:Expr}
def Gx{es:List Expr}{tp Ļ ľ:Pos}(hp:Ž (â X.prog X.w) X.A X.env X.xe)(hc:X.calm=dh)(hd:PE X d<|tE X i Φ m)(hg:PG X (.Tuple es kk tp)<|gPt i q)(hb:PSs X body<|tBl X i Φ mb)
  (ϲ:ē d "items" X.env (eval d X.env)=eval d X.env) (ϳ:(Ļ.endLine==ľ.line)=dh) (hs:∀x,ď (.Call (.Attribute d "items" Ļ) [] [] ľ) X.env x=pure x) :
  PS X (.For (.Tuple es kk tp) (.Call (.Attribute d "items" Ļ) [] [] ľ) body [] ç) (tSt X i Φ<|.forI di q m mb) :=
 O4 hp hc (Ea hd ϲ ϳ) hg hb hs λ_ _ _ _ _ e r=>Df e r
def EI(hp:Ž (â X.prog X.w) X.A X.env X.xe)(hc:X.calm=dh)(hd:PE X d<|tE X i Φ m)(hg:PG X tg<|gPt i q)(hb:PSs X body<|tBl X i Φ mb)(hs:∀x,ď d X.env x=pure x) :
  PS X (.For tg d body [] ç) (tSt X i Φ<|.forI dh q m mb) :=
 O4 hp hc (EH hd) hg hb hs λ_ _ _ _ _ e r=>EC e r
def NV(ė:List<|List Int):∀(k:Nat) (x:List Int) (r:List<|List Int),ė.take (k+1)=x::r->k<ė.length->O.minR x r=ė.getD (Đ (btL λn=>ė.getD n []) k) []
 |0,x,r,h,hk=>by
  cases ė with
  |nil=>cases h
  |cons y ys=>simp at h;let⟨rfl,rfl⟩:=h;rfl
 |k+1,x,r,h,hk=>by
  cases ė with
  |nil=>cases h
  |cons y ys =>
   rw[ϋ]at h;injection h with h1 h2;subst h1 h2;have aU:k<ys.length:=⇑hk
   have ih:=NV (y::ys) k y (ys.take k) (by rw[ϋ]) (by simp;lia);have e:ys.take (k+1)=ys.take k++[ys[k]]:=by rw[ŉ];simp[aU]
   have app:∀(b:List Int) (l:List<|List Int) (z:List Int),O.minR b (l++[z])=if O.d6 z (O.minR b l)then z else O.minR b l:=by
    intro b l z;induction l generalizing b with
    |nil=>rfl
    |cons w l ih=>exact ih _
   rw[e,app,ih];have e2:(y::ys).getD (k+1) []=ys[k]:=by simp[aU]
   show _=(y::ys).getD (if btL (λn=>(y::ys).getD n []) (k+1) (Đ (btL λn=>(y::ys).getD n []) k)=dh then k+1 else Đ (btL λn=>(y::ys).getD n []) k) [];have eb:btL (λn=>(y::ys).getD n []) (k+1) (Đ (btL λn=>(y::ys).getD n []) k)=O.d6 ys[k] ((y::ys).getD (Đ (btL λn=>(y::ys).getD n []) k) []):=by rw[Mj,<-e2];rfl
   rw[eb];cases O.d6 ys[k] ((y::ys).getD (Đ (btL λn=>(y::ys).getD n []) k) [])with
   |true=>rw[ff rfl,ff rfl,e2]
   |false=>rw[fg (by decide),fg<|by decide]
def F5{G:O.Hs}{H:Hp}{xs:List O.Val}{us:List V}{w:List Int}{r:List (List Int)}{y:V}(h2:RVs i.K H xs us)(h3:(w::r).length=us.length)(h5:xs=(w::r).map λn=>.tup<|n.map .int)(hy:us[Đ (btL λn=>(w::r).getD n [])<|us.length - 1]?=df y):RV i.K H (.tup<|(O.minR w r).map .int) y:=by
 rw[NV (w::r) ((w::r).length - 1) w r (by simp)<|by simp];rw[<-h3]at hy;have Τ:Đ (btL λn=>(w::r).getD n []) ((w::r).length - 1)<(w::r).length:=by have:=Jz (btL λn=>(w::r).getD n [])<|(w::r).length - 1;simp only[Ç]at this ⊢;lia
 generalize hj:Đ (btL λn=>(w::r).getD n []) ((w::r).length - 1)=j at hy Τ ⊢;have hxj:xs[j]?=df (.tup<|((w::r).getD j []).map .int):=by rw[h5,Ø,Ê Τ];simp[ĉ,Ê Τ]
 let⟨x2,hx2,rx2⟩:=h2.get hxj;rw[hy]at hx2;cases hx2;exact rx2
def Lq{e:Expr}{p kp kpos:Pos}(hc:X.calm=dh)(hu:X.A.units+1<Ĥ)(hK:X.K=i.K)(hg:Gl X "min")(hm:X.mg "min" = dg)(he:PE X e<|tE X i Φ m)(hs:Ó [e] X.env=[(di,eval e X.env)]) :
  PE X (.Call (.Name "min" p) [e] [⟨df "default",.Constant .none kk kp,kpos⟩] ç) (tE X i Φ<|.bi .minD<|.cons m .nil):=by
 refine(Ev hc hu hg hm (ZY he eQ<|by rw[hs];rfl) hs).imp λσ H Q ⟨env,G,Qm,Em,p,w,c⟩=>?_;change tE X i Φ m σ H _;refine one p w λv G1 H1 x k1 p1 r q=>?_
 replace q:(O.eB G1 v).wp G1 Qm:=q
 cases v with
 |ref a =>
  cases r.ref_inv;unfold O.eB at q;dsimp only at q;cases z:(O.dF<|G1 a).bind O.rowsOf with
  |none=>rw[z]at q;exact(Zh q).elim
  |some ė =>
   let⟨xs,z1,z2⟩:=æ.mp z;let⟨us,h1,h2⟩:=ZI p1.hp z1;let⟨h3,h4,h5⟩:=Np h2 z2;rw[z]at q;refine⟨a,us,ė,rfl,by rw[hK];exact h1,h3,by rw[hK];exact h4,λe0=>?_,λe0 y hy=>?_⟩
   .subst e0;cases ė with
    |nil=>exact c _ G1 H1 _ k1 p1.hp .non<|Zg q
    |cons _ _=>cases h3
   .cases ė with
    |nil=>exact fk (ŗ.mp h3.symm) e0
    |cons w r =>exact c _ G1 H1 _ k1 p1.hp (F5 (G:=G1) h2 h3 h5 hy)<|Zg q
 |_=>exact(Zh q).elim
structure Md where
 N:List Str
 sc:Ů
 cs:List<|String×O.Val
 fs:List String
 cm:Bool
 cl:List String
 ms:List<|String×String
 fl:List String
 xs:List String
abbrev Md.nmOf(c:Md)(j:Nat):Str:=c.N.getD j Str.empty
abbrev Md.vis(c:Md)(x:Str):Bool:=match c.sc.names.lookup x with
 |some .local=>dh
 |some .cell=>dh
 |some .free=>dh
 |_=>di
abbrev Md.loc(c:Md)(x:Str):Bool:=c.sc.names.lookup x==df .local||c.sc.names.lookup x==df .cell
abbrev Md.gl(c:Md)(x:Str):Bool:=c.sc.names.lookup x==df .globalImplicit
abbrev nm(x:Str):Bool:=!(x==("__debug__" : Str)) && !(x==("__classdict__" : Str)) && !(x==("__name__" : Str))
abbrev dE:Expr:=.Name Str.empty ⟨0,0,0,0⟩
abbrev mix:List (Option Expr)->List Expr->List Expr
 |k::ks,v::vs=>k.getD dE::v::mix ks vs
 |_,_=>[]
abbrev sub:Expr->List Expr
 |.BoolOp _ xs _=>xs
 |.BinOp a _ b _=>[a,b]
 |.UnaryOp _ a _=>[a]
 |.IfExp a b c _=>[a,b,c]
 |.Compare a _ bs _=>a::bs
 |.Call f as ks _=>f::(as++ks.map (·.value))
 |.FormattedValue a _ _ _=>[a]
 |.JoinedStr vs _=>vs
 |.Attribute a _ _=>[a]
 |.Subscript a b _=>[a,b]
 |.List es _=>es
 |.Tuple es _ _=>es
 |.Slice a b c _=>[a.getD dE,b.getD dE,c.getD dE]
 |.ListComp e gs _ _=>e::gs.flatMap λg=>g.target::g.iter::g.ifs
 |.Dict ks vs _=>mix ks vs
 |_=>[]
abbrev kid(x:Expr)(j:Nat):Expr:=(sub x).getD j dE
abbrev num:Expr->Nat
 |.Constant _ k _=>k
 |.Tuple _ k _=>k
 |_=>0
abbrev scp:Expr->Ů
 |.ListComp _ _ s _=>s
 |_=>default
abbrev kwp:Expr->Pos
 |.Call _ _ (k::_) _=>k.pos
 |_=>⟨0,0,0,0⟩
abbrev Oj:O.Bop->Γ
 |.add=>.Add
 |.sub=>.Sub
 |.mul=>.Mult
 |.fdiv=>.FloorDiv
 |.mod=>.Mod
 |.pow=>.Pow
abbrev WI:O.Cop->bv
 |.eq=>.Eq
 |.ne=>.NotEq
 |.lt=>.Lt
 |.le=>.LtE
 |.gt=>.Gt
 |.ge=>.GtE
 |.isin=>.In
 |.notin=>.NotIn
 |.is=>.Is
 |.isnot=>.IsNot
 |.eqE=>.Eq
 |.neE=>.NotEq
 |.ntT=>.IsNot
abbrev Qe:O.Val->Const
 |.non=>.none
 |.bl b=>.bool b
 |.int i=>.int i
 |.str s=>.str<|fo s
 |_=>.ellipsis
abbrev G9:O.Val->Bool
 |.non=>dh
 |.bl _=>dh
 |.int _=>dh
 |.str _=>dh
 |_=>di
abbrev ZO:O.E->Bool
 |.and _ _=>dh
 |_=>di
abbrev YA:O.E->Bool
 |.or _ _=>dh
 |_=>di
abbrev Zq:O.Tt->Bool
 |.and _ _=>dh
 |_=>di
abbrev ZD:O.Tt->Bool
 |.or _ _=>dh
 |_=>di
abbrev rest(b:Bool)(x:Expr):Expr:=match b,x with
 |true,.BoolOp op (_::xs) p=>.BoolOp op xs p
 |_,x=>kid x 1
abbrev flat(b:Bool)(x:Expr):List Expr:=match b with
 |true=>sub x
 |false=>[x]
abbrev Z5:O.Bi->Str
 |.len=>"len"
 |.int=>"int"
 |.str=>"str"
 |.bool=>"bool"
 |.abs=>"abs"
 |.min2=>"min"
 |.max2=>"max"
 |.minL=>"min"
 |.maxL=>"max"
 |.minP=>"min"
 |.maxP=>"max"
 |.minD=>"min"
 |.sum=>"sum"
 |.all=>"all"
 |.any=>"any"
 |.sorted=>"sorted"
 |.sortedI=>"sorted"
 |.sortedSet=>"sorted"
 |.lenSet=>"len"
 |.list=>"list"
 |.tuple=>"tuple"
 |.dict=>"dict"
 |.isi _=>"isinstance"
 |.isx _=>"isinstance"
 |.isc _=>"isinstance"
 |.repr=>"repr"
 |.listRev=>"list"
 |.listRange=>"list"
 |.tupRange=>"tuple"
 |.dictEnum=>"dict"
 |.listD=>"list"
abbrev Qx:O.Bi->Option Str
 |.sortedSet=>df "set"
 |.lenSet=>df "set"
 |.listRev=>df "reversed"
 |.listRange=>df "range"
 |.tupRange=>df "range"
 |.dictEnum=>df "enumerate"
 |_=>dg
abbrev LA(Ts:List String)(x:Expr):Expr:=match Ts with
 |[T]=>.Name (fo T) x.pos
 |Ts=>.Tuple (Ts.zipIdx.map λp=>.Name (fo p.1) (kid x p.2).pos) (num x) x.pos
abbrev IQ(f:O.Bi)(as:List Expr)(x:Expr):List Expr:=match Qx f with
 |some y=>[.Call (.Name y (kid (kid x 1) 0).pos) as [] (kid x 1).pos]
 |none=>match f with
  |.isi Ts=>as++[LA Ts<|kid x 2]
  |.isx Ts=>as++[LA Ts<|kid x 2]
  |.isc T=>as++[LA [T]<|kid x 2]
  |_=>as
abbrev UN(f:O.Bi)(x:Expr):List Expr:=match Qx f with
 |some _=>(sub<|kid x 1).tail
 |none=>(sub x).tail
abbrev Rk(f:O.Bi)(x:Expr):List Κ:=match f with
 |.minD=>[⟨df "default",.Constant .none (num<|kid x 2) (kid x 2).pos,kwp x⟩]
 |_=>[]
abbrev Il:O.Bm->Str
 |.append=>"append"
 |.extend=>"extend"
 |.pop=>"pop"
 |.popAt=>"pop"
 |.insert=>"insert"
 |.remove=>"remove"
 |.clear=>"clear"
 |.reverse=>"reverse"
 |.index=>"index"
 |.count=>"count"
 |.dget=>"get"
 |.dgetD=>"get"
 |.dpop=>"pop"
 |.dpopD=>"pop"
 |.setdefault=>"setdefault"
 |.join=>"join"
 |.split=>"split"
 |.replace=>"replace"
 |.upper=>"upper"
 |.partition=>"partition"
 |.sidx=>"index"
abbrev XZ:List Expr->List (Option Expr)
 |k::_::r=>df k::XZ r
 |_=>[]
abbrev Dv:List Expr->List Expr
 |_::v::r=>v::Dv r
 |_=>[]
abbrev toP(p:O.Pt)(c:Md)(x:Expr):Expr:=match p with
 |.one j=>.Name (c.nmOf j) x.pos
 |.many js=>.Tuple (js.zipIdx.map λp=>.Name (c.nmOf p.1) (kid x p.2).pos) (num x) x.pos
 |.nest j js=>.Tuple [.Name (c.nmOf j) (kid x 0).pos,.Tuple (js.zipIdx.map λp=>.Name (c.nmOf p.1) (kid (kid x 1) p.2).pos) (num<|kid x 1) (kid x 1).pos] (num x) x.pos
abbrev nmX:Expr->Str
 |.Name x _=>x
 |_=>Str.empty
abbrev YB:Expr->List Str
 |.Tuple es _ _=>es.map nmX
 |x=>[nmX x]
abbrev Md.blk(c:Md)(sc:Ů)(x:List Str)(ö:List Nat):Md :=
 {N:=x++ö.map (λj=>c.N.getD j Str.empty),sc:={sc with names:=sc.names.map λ(n,k)=>if(k == .free&&c.sc.kind == .function&&c.sc.names.lookup n==df .cell)then(n,.cell)else(n,k)},cs:=c.cs,fs:=c.fs,cm:=c.cm,cl:=c.cl,ms:=c.ms,fl:=c.fl,xs:=c.xs}
abbrev Ab:O.E->Bool
 |.cst (.str _)=>dh
 |_=>di
mutual
noncomputable def toX:O.E->Md->Expr->Expr
 |.cst v,_,x=>.Constant (Qe v) (num x) x.pos
 |.var j,c,x=>.Name (c.nmOf j) x.pos
 |.glob y _,_,x=>.Name (fo y) x.pos
 |.bin o a b,c,x=>.BinOp (toX a c<|kid x 0) (Oj o) (toX b c<|kid x 1) x.pos
 |.neg a,c,x=>.UnaryOp .USub (toX a c<|kid x 0) x.pos
 |.not a,c,x=>.UnaryOp .Not (toX a c<|kid x 0) x.pos
 |.and a b,c,x=>.BoolOp .And (toX a c (kid x 0)::flat (ZO b) (toX b c<|rest (ZO b) x)) x.pos
 |.or a b,c,x=>.BoolOp .Or (toX a c (kid x 0)::flat (YA b) (toX b c<|rest (YA b) x)) x.pos
 |.cmp o a b,c,x=>.Compare (toX a c<|kid x 0) [WI o] [toX b c<|kid x 1] x.pos
 |.chain o1 o2 a b d,c,x=>.Compare (toX a c<|kid x 0) [WI o1,WI o2] [toX b c<|kid x 1,toX d c<|kid x 2] x.pos
 |.call f as,c,x=>.Call (.Name (fo f) (kid x 0).pos) (toA as c (sub x).tail) [] x.pos
 |.make C as,c,x=>.Call (.Name (fo C) (kid x 0).pos) (toA as c (sub x).tail) [] x.pos
 |.meth _ m o as,c,x=>.Call (.Attribute (toX o c<|kid (kid x 0) 0) (fo m) (kid x 0).pos) (toA as c (sub x).tail) [] x.pos
 |.fld o f,c,x=>.Attribute (toX o c<|kid x 0) (fo f) x.pos
 |.bi f as,c,x=>.Call (.Name (Z5 f) (kid x 0).pos) (IQ f (toA as c<|UN f x) x) (Rk f x) x.pos
 |.bm m o as,c,x=>.Call (.Attribute (toX o c<|kid (kid x 0) 0) (Il m) (kid x 0).pos) (toA as c (sub x).tail) [] x.pos
 |.idx a b,c,x=>.Subscript (toX a c<|kid x 0) (toX b c<|kid x 1) x.pos
 |.slc a lo hi,c,x=>.Subscript (toX a c<|kid x 0) (.Slice (toO lo c<|kid (kid x 1) 0) (toO hi c<|kid (kid x 1) 1) dg (kid x 1).pos) x.pos
 |.rev a,c,x=>.Subscript (toX a c<|kid x 0) (.Slice dg dg (df<|.UnaryOp .USub (.Constant (.int 1) (num<|kid (kid (kid x 1) 2) 0) (kid (kid (kid x 1) 2) 0).pos) (kid (kid x 1) 2).pos) (kid x 1).pos) x.pos
 |.pick a lo hi st,c,x=>.Subscript (toX a c<|kid x 0) (.Slice (toO lo c<|kid (kid x 1) 0) (toO hi c<|kid (kid x 1) 1) (df<|toX st c<|kid (kid x 1) 2) (kid x 1).pos) x.pos
 |.tup es,c,x=>.Tuple (toA es c<|sub x) (num x) x.pos
 |.key es,c,x=>.Tuple (toA es c<|sub x) (num x) x.pos
 |.dctP,c,x=>.Dict [] [] x.pos
 |.lst es,c,x=>.List (toA es c<|sub x) x.pos
 |.dct es,c,x=>.Dict (XZ<|toA es c<|sub x) (Dv<|toA es c<|sub x) x.pos
 |.ife t a b,c,x=>.IfExp (toT t c<|kid x 0) (toX a c<|kid x 1) (toX b c<|kid x 2) x.pos
 |.comp ö _ p it t e,c,x=>.ListComp (toX e (c.blk (scp x) (YB<|kid x 1) ö)<|kid x 0) [⟨toP p (c.blk (scp x) (YB<|kid x 1) ö)<|kid x 1,toI it c<|kid x 2,toF t (c.blk (scp x) (YB<|kid x 1) ö)<|kid x 3,0⟩] (scp x) x.pos
 |.fstr es,c,x=>.JoinedStr (toJ es c<|sub x) x.pos
 |.split o a,c,x=>.Call (.Attribute (toX o c<|kid (kid x 0) 0) "split" (kid x 0).pos) [toX a c<|kid x 1] [] x.pos
 |.repl o y z,c,x=>.Call (.Attribute (toX o c<|kid (kid x 0) 0) "replace" (kid x 0).pos) [.Constant (.str<|fo y) (num<|kid x 1) (kid x 1).pos,.Constant (.str<|fo z) (num<|kid x 2) (kid x 2).pos] [] x.pos
noncomputable def toA:O.Es->Md->List Expr->List Expr
 |.nil,_,_=>[]
 |.cons e es,c,xs=>toX e c (xs.headD dE)::toA es c xs.tail
noncomputable def toJ:O.Es->Md->List Expr->List Expr
 |.nil,_,_=>[]
 |.cons e es,c,xs=>(if Ab e then toX e c (xs.headD dE)else .FormattedValue (toX e c<|kid (xs.headD dE) 0) (-1) dg (xs.headD dE).pos)::toJ es c xs.tail
noncomputable def toO:O.Oe->Md->Expr->Option Expr
 |.none,_,_=>dg
 |.some e,c,x=>df<|toX e c x
noncomputable def toT:O.Tt->Md->Expr->Expr
 |.yes,_,x=>x
 |.val e,c,x=>toX e c x
 |.not t,c,x=>.UnaryOp .Not (toT t c<|kid x 0) x.pos
 |.and a b,c,x=>.BoolOp .And (toT a c (kid x 0)::flat (Zq b) (toT b c<|rest (Zq b) x)) x.pos
 |.or a b,c,x=>.BoolOp .Or (toT a c (kid x 0)::flat (ZD b) (toT b c<|rest (ZD b) x)) x.pos
noncomputable def toF:O.Tt->Md->Expr->List Expr
 |.yes,_,_=>[]
 |.val e,c,x=>[toX e c x]
 |.not t,c,x=>[.UnaryOp .Not (toT t c<|kid x 0) x.pos]
 |.and a b,c,x=>[.BoolOp .And (toT a c (kid x 0)::flat (Zq b) (toT b c<|rest (Zq b) x)) x.pos]
 |.or a b,c,x=>[.BoolOp .Or (toT a c (kid x 0)::flat (ZD b) (toT b c<|rest (ZD b) x)) x.pos]
noncomputable def toI:O.It->Md->Expr->Expr
 |.seq e,c,x=>toX e c x
 |.chars e,c,x=>toX e c x
 |.range a,c,x=>.Call (.Name "range" (kid x 0).pos) [toX a c<|kid x 1] [] x.pos
 |.range2 a b,c,x=>.Call (.Name "range" (kid x 0).pos) [toX a c<|kid x 1,toX b c<|kid x 2] [] x.pos
 |.enum e,c,x=>.Call (.Name "enumerate" (kid x 0).pos) [toX e c<|kid x 1] [] x.pos
 |.zip a b,c,x=>.Call (.Name "zip" (kid x 0).pos) [toX a c<|kid x 1,toX b c<|kid x 2] [] x.pos
 |.items e,c,x=>toX e c x
 |.rev e,c,x=>.Call (.Name "reversed" (kid x 0).pos) [toX e c<|kid x 1] [] x.pos
end
abbrev blts:List Str:=["isinstance","int","bool","str","list","tuple","dict","max","min","range","len","sorted","set","all","any","sum","enumerate","zip","reversed","abs","repr","ValueError"]
structure Kls(X:Cx)(i:Inf)(P:O.Pg)(n:Nat)(c:Md):Prop where
 A:ClsA i
 F:∀f,c.fl.contains f=dh->FldOk i f
 mkc:∀C,c.cl.contains C=dh->∃a f,i.ins C=dh/\i.cl C a/\Mk i.K a f/\X.mg (fo C)=df (.ref a)/\Dfm X.prog X.w X.mg X.base i P n (C ++ ".__init__") f
 mth:∀C m,c.ms.contains (C,m)=dh->∃a f,(∀b,i.cl C b->b=a)/\Cls i.K a/\Meth i.K a (fo m) f/\Dfm X.prog X.w X.mg X.base i P n (C ++ "." ++ m) f
structure Xls(X:Cx)(i:Inf)(c:Md):Prop where
 xc:∀C a,i.xc C a->XCls i.K a/\PySem.W.kitOne i.K (.ref a) (.type "ValueError")=df dh
 rs:∀C,c.xs.contains C=dh->∃a,i.xc C a/\PyProof.Rows.OwnCls (fo C) a [.type "ValueError",.type "Exception",.type "BaseException",.type "object"] "ValueError.__new__" X.mg X.base
 kn:∀T,(c.xs.contains T||T == "ShutError")=dh->∃D,X.mg (fo T)=df (.ref D)/\∀C a,i.xc C a->PySem.W.kitOne i.K (.ref a) (.ref D)=df (O.eR C T)/\(O.eR C T=dh->PySem.W.exmOne i.K (.ref a) (.ref D)=df dh)
structure Gd(X:Cx)(i:Inf)(P:O.Pg)(n:Nat)(c:Md):Prop where
 K:X.K=i.K
 N:X.N=c.N
 sc:X.env.scope=c.sc
 nd:c.N.Nodup
 un:X.A.units+200<Ĥ
 calm:c.cm=dh->X.calm=dh
 room:c.cm=dh->dX (2*n+1) X.A
 bl:∀x∈blts,X.mg x=dg
 dfs:∀f,c.fs.contains f=dh->Dfo X.prog X.w X.mg X.base i P n f
 cst:∀x v,c.cs.lookup x=df v->∃u y,X.mg (fo x)=df u/\RelV y u/\∀H,RV i.K H v y
 kl:Kls X i P n c
 xl:c.xs≠[]->Xls X i c
variable {X:Cx}{i:Inf}{P:O.Pg}{n:Nat}{c:Md}
variable {x:Str}
def Gd.gl(g:Gd X i P n c)(h:c.gl x=dh):Gl X x:=by show X.env.scope.names.lookup x=_;rw[g.sc];exact eq_of_beq h
def Gd.vis(g:Gd X i P n c)(h:c.vis x=dh):Vis X.env.scope x:=by
 unfold Vis;rw[g.sc];unfold Md.vis at h;split at h
 .exact .inl (by assumption)
 .exact .inr (.inl<|by assumption)
 .exact .inr (.inr<|by assumption)
 .cases h
def Gd.loc(g:Gd X i P n c)(h:c.loc x=dh):L2.Loc X.env.scope x:=by
 unfold L2.Loc;rw[g.sc];rcases (Bool.or_eq_true ..).mp h with h|h
 .exact .inl<|eq_of_beq h
 .exact .inr<|eq_of_beq h
def Gd.rm(g:Gd X i P n c)(h:c.cm=dh):dX (2*n) X.A:=(g.room h).mono (Ŭ _)
def UB(h:nm x=dh):(x==("__debug__" : Str))=di/\(x==("__classdict__" : Str))=di/\x≠"__name__":=by simp only[nm,bAq,Ĝ]at h;exact⟨h.1.1,h.1.2,⇑h.2⟩
def Zw(e:O.E)(c:Md)(x:Expr)(es:List Expr)(env:Env):Ó (toX e c x::es) env=(di,eval (toX e c x) env)::Ó es env:=by cases e<;>rfl
def BI(e:O.E)(c:Md)(x:Expr):MT<|toX e c x:=by intro o j;cases e<;>rfl
variable {op:bv}
def Fm(e:O.E)(c:Md)(x:Expr):ī op (toX e c x)=di:=by cases e<;>rfl
def IV(e:O.E)(c:Md)(x:Expr)(env:Env):∀y,ď (toX e c x) env y=pure y:=by intro y;cases e<;>rfl
abbrev YI:Expr->Bool
 |.Call (.Name _ _) [] _ _=>di
 |_=>dh
variable {e:Expr}
def Ys(h:YI e=dh)(f:Str)(env:Env):ē e f env (eval e env)=eval e env:=by
 cases e with
 |Call g as ks p =>
  cases as with
  |cons _ _=>cases g<;>rfl
  |nil=>cases g with
   |Name x q=>cases h
   |_=>rfl
 |_=>rfl
abbrev Zd:O.Es->Nat
 |.nil=>0
 |.cons _ es=>Zd es+1
def XS:∀(es:O.Es) (c:Md) (xs:List Expr),(toA es c xs).length=Zd es
 |.nil,_,_=>rfl
 |.cons _ es,c,xs=>by show(toA es c xs.tail).length+1=_;rw[XS es];rfl
def Yy(env:Env)(ç:Pos):∀(es:O.Es) (c:Md) (xs:List Expr),(Ē ç<|Ó (toA es c xs) env).any (·.1)=di
 |.nil,_,_=>rfl
 |.cons e es,c,xs=>by show(Ē ç<|Ó (toX e c (xs.headD dE)::toA es c xs.tail) env).any (·.1)=di;rw[Zw];show(di||(Ē ç<|Ó (toA es c xs.tail) env).any (·.1))=di;rw[Yy env ç es];rfl
def JU(env:Env)(ç:Pos):∀(es:O.Es) (c:Md) (xs:List Expr),(Ē ç<|Ó (toA es c xs) env).all (λx=>!x.1)=dh
 |.nil,_,_=>rfl
 |.cons e es,c,xs=>by show(Ē ç<|Ó (toX e c (xs.headD dE)::toA es c xs.tail) env).all (λx=>!x.1)=dh;rw[Zw];show(dh&&(Ē ç<|Ó (toA es c xs.tail) env).all (λx=>!x.1))=dh;rw[JU env ç es];rfl
abbrev ZA:O.Pt->Bool
 |.one _=>dh
 |_=>di
def Me(p:O.Pt)(x:Expr):((!ZA p)=dh->∃es k q,toP p c x=.Tuple es k q)/\((!ZA p)=di->∃y q,toP p c x=.Name y q):=by
 cases p with
 |one j=>exact⟨λz=>(by cases z),λ_=>⟨_,_,rfl⟩⟩
 |many js=>exact⟨λ_=>⟨_,_,_,rfl⟩,λz=>(by cases z)⟩
 |nest j js=>exact⟨λ_=>⟨_,_,_,rfl⟩,λz=>(by cases z)⟩
abbrev DF(X:Cx)(c:Md)(j:Nat):Prop:=X.N[j]?=df (c.nmOf j)/\L2.Loc X.env.scope (c.nmOf j)/\(X.fn (c.nmOf j)=dh\/X.env.scope.names.lookup (c.nmOf j)=df .local)
abbrev GM(q:Nat->Prop):O.Pt->Prop
 |.one j=>q j
 |.many js=>∀j∈js,q j
 |.nest j js=>q j/\∀k∈js,q k
def K9{X:Cx}{c:Md}(nd:X.N.Nodup)(f:Nat->Pos):∀(js:List Nat) (k:Nat),(∀j∈js,DF X c j)->
  PGs X ((js.zipIdx k).map λp=>.Name (c.nmOf p.1)<|f p.2) (Dq i js)/\(Ė ((js.zipIdx k).map λp=>.Name (c.nmOf p.1)<|f p.2) X.env).length=js.length/\(Ė ((js.zipIdx k).map λp=>.Name (c.nmOf p.1)<|f p.2) X.env).findIdx? (·.1)=dg
 |[],_,_=>⟨Ew,rfl,rfl⟩
 |j::js,k,h=>by
  let⟨h1,h2,h3⟩:=h j (by simp);let⟨a1,a2,a3⟩:=K9 nd f js (k+1) λl hl=>h l (by simp[hl]);rw[List.zipIdx_cons,Í];refine⟨BM nd h1 h2 h3 a1 rfl,?_,?_⟩
  .show(Ė ((js.zipIdx<|k+1).map _) X.env).length+1=js.length+1;rw[a2]
  .show List.findIdx? (·.1) ((di,Ű (.Name (c.nmOf j)<|f k) X.env)::Ė _ X.env)=dg;rw[List.findIdx?_cons];simp[a3]
def Hg(hK:X.K=i.K)(nd:X.N.Nodup)(hc:X.calm=dh){p:O.Pt}{x:Expr}(h:GM (DF X c) p):PG X (toP p c x)<|gPt i p:=by
 cases p with
 |one j=>exact Os nd h.1 h.2.1 h.2.2
 |many js =>let⟨a1,a2,a3⟩:=K9 nd (λk=>(kid x k).pos) js 0 h;exact U6 hK hc a1 a2 a3
 |nest j js =>let⟨h0,h⟩:=h;let⟨a1,a2,a3⟩:=K9 nd (λk=>(kid (kid x 1) k).pos) js 0 h;exact E2 hK hc (Os nd h0.1 h0.2.1 h0.2.2)<|U6 hK hc a1 a2 a3
variable {Φ:O.Fs} {a:O.E} {b:O.E} {l:Expr} {ç:Pos}
def Ql(g:Gd X i P n c){o:O.Bop}{r:Expr}(ha:PE X l<|tE X i Φ a)(hb:PE X r<|tE X i Φ b):PE X (.BinOp l (Oj o) r ç)<|tE X i Φ<|.bin o a b:=by
 cases o with
 |add=>exact KQ Qn (by rw[g.K];exact b_add) ha hb
 |sub=>exact KQ LJ b_sub ha hb
 |mul=>exact KQ Qb b_mul ha hb
 |fdiv=>exact KQ EV b_fdiv ha hb
 |mod=>exact KQ Iw b_mod ha hb
 |pow=>exact KQ Ls b_pow ha hb
abbrev XU:O.Cop->Bool
 |.is=>dh
 |.isnot=>dh
 |.ntT=>dh
 |_=>di
variable {o:O.Cop}
def Oq(g:Gd X i P n c)(h:XU o=di):∃r,OpR X (é<|WI o) r/\Z0 i o r:=by
 have u65:X.A.units+65<Ĥ:=by have:=g.un;lia
 have u64:X.A.units+64<Ĥ:=by have:=g.un;lia
 have u0:X.A.units<Ĥ:=by have:=g.un;lia
 cases o with
 |eq=>exact⟨_,Pb u64,by rw[g.K];exact Se⟩
 |ne=>exact⟨_,II u64,by rw[g.K];exact RM⟩
 |lt=>exact⟨_,Sa u0,by rw[g.K];exact c_lt⟩
 |le=>exact⟨_,Qv,c_le⟩
 |gt=>exact⟨_,RT u0,by rw[g.K];exact c_gt⟩
 |ge=>exact⟨_,Rc,c_ge⟩
 |isin=>exact⟨_,RE u65,by rw[g.K];exact Rt⟩
 |notin=>exact⟨_,R0 u65,by rw[g.K];exact RK⟩
 |eqE=>exact⟨_,DL u64,by rw[g.K];exact c_eqE⟩
 |neE=>exact⟨_,Cu u64,by rw[g.K];exact c_neE⟩
 |_=>cases h
def HF{v:O.Val}{j:Nat}(h:G9 v=dh):PE X (.Constant (Qe v) j ç)<|tE X i Φ<|.cst v:=by
 cases v with
 |non=>exact WQ CF λ_=>.non
 |bl b=>exact WQ P0 λ_=>.bl _
 |int k=>exact WQ OP λ_=>.int _
 |str s=>exact WQ pe_str λ_=>.str _
 |_=>cases h
abbrev NU:O.E->Bool
 |.cst .non=>dh
 |_=>di
def Fd{e:O.E}(h:NU e=dh):e=.cst .non:=by
 cases e with
 |cst v=>cases v with
  |non=>rfl
  |_=>cases h
 |_=>cases h
variable {y:Expr}
def CH(hn:∀G v d,O.dL G o v .non≠df d)(ha:PE X l<|tE X i Φ a)(hb:PE X y<|tE X i Φ<|.cst .non)(hm:ī op y=di) :
  PE X (.Compare l [op] [y] ç) (tE X i Φ<|.cmp o a<|.cst .non)/\PT X (.Compare l [op] [y] ç) (tTt X i Φ<|.val<|.cmp o a<|.cst .non):=by
 have ho:OpR X (é op) λ_ _ _ _=>False:=λ_ _ _ _ _ _ _ _ _ _ _ _ h=>h.elim;refine⟨(Ub ho ha hb hm).imp λσ H Q ⟨env,G,Qm,Em,p,w,c⟩=>?_,(UA ho ha hb hm).imp λσ H Q ⟨env,G,Qm,Em,p,w,c⟩=>?_⟩
 .refine one p w λv G1 H1 x k1 p1 r q=>?_;let⟨d,e,_⟩:=dq q;exact fk e<|hn G1 v d
 .refine one p w λv G1 H1 x k1 p1 r q=>?_;let⟨d,e,_⟩:=dq q;exact fk e<|hn G1 v d
def Nk(g:Gd X i P n c){x:Expr}(h:(!XU o||NU b)=dh)(ha:PE X l<|tE X i Φ a)(hb:PE X (toX b c x)<|tE X i Φ b) :
  PE X (.Compare l [WI o] [toX b c x] ç) (tE X i Φ<|.cmp o a b)/\PT X (.Compare l [WI o] [toX b c x] ç) (tTt X i Φ<|.val<|.cmp o a b):=by
 cases z:XU o with
 |false =>let⟨r,h1,h2⟩:=Oq g z;exact⟨Qt h1 h2 ha hb<|Fm _ _ _,HQ h1 h2 ha hb<|Fm _ _ _⟩
 |true =>
  rw[z]at h;cases Fd h;cases o with
  |is=>exact⟨Re ha,IZ ha⟩
  |isnot=>exact⟨Ly ha,E0 ha⟩
  |ntT=>exact CH (λG v d e=>by cases v<;>simp[O.dL,O.asLst]at e) ha hb<|Fm _ _ _
  |_=>cases z
def JM(g:Gd X i P n c){o1 o2:O.Cop}{d:O.E}{x:Expr}(h1:XU o1=di)(h2:XU o2=di)(ha:PE X l<|tE X i Φ a)(hb:PE X y<|tE X i Φ b)(hd:PE X (toX d c x)<|tE X i Φ d) :
  PE X (.Compare l [WI o1,WI o2] [y,toX d c x] ç) (tE X i Φ<|.chain o1 o2 a b d)/\PT X (.Compare l [WI o1,WI o2] [y,toX d c x] ç) (tTt X i Φ<|.val<|.chain o1 o2 a b d):=by
 let⟨r1,a1,a2⟩:=Oq g h1;let⟨r2,b1,b2⟩:=Oq g h2;have hm:aA [WI o1,WI o2] [y,toX d c x]=di:=Fm _ _ _;exact⟨Fh a1 a2 b1 b2 ha hb hd hm,DO a1 a2 b1 b2 ha hb hd hm⟩
def IU{m:O.E}(h:PE X e<|tE X i Φ m)(he:∀ϯ,bu e X.env ϯ=(do let v<-ϯ;ο e.pos;ņ [v] (truthy v)))(hK:X.K=i.K):PT X e<|tTt X i Φ<|.val m:=by
 refine(DH h he).imp λσ H Q ⟨env,G,Qm,Em,p,w,c⟩=>?_;refine one p w λv G1 H1 x k1 p1 r q=>?_;let⟨d,e1,q2⟩:=dq q;clear q;refine⟨d,?_,c d G1 H1 k1 p1.hp q2⟩;cases v with
 |non=>cases r;cases e1;rfl
 |bl b=>cases r;cases e1;rfl
 |int b =>
  cases r;cases e1;show fm (b≠0)=(b != 0)
  by_cases e:b=0<;>simp[e]
 |key _ _=>cases e1
 |str b =>
  cases r;let⟨hl,e1⟩:=Zn e1;cases e1;refine⟨by rw[Zv];exact Ô hl ZT,?_⟩;rw[Zv];by_cases e:b.length=0
  .rw[e];rfl
  .rw[fi e];symm;simpa using (by lia:¬ ((b.length:Int)=0))
 |tup xs =>
  cases e1;cases r with
  |tup hp hr =>refine .inr (.inl ⟨_,by rw[hK];exact Zl hp,?_⟩);cases hr<;>rfl
 |scr ns =>
  cases e1;cases r with
  |scr h =>refine .inl ⟨_,by rw[hK];exact Z2 h,?_⟩;cases ns<;>rfl
 |ref a =>
  cases r.ref_inv
  replace e1:(match G1 a with|some (.lst xs)=>df (!xs.isEmpty)|some (.dct kvs)=>df (!kvs.isEmpty)|_=>dg)=df d:=e1
  cases z:G1 a with
  |none=>rw[z]at e1;cases e1
  |some o =>
   rw[z]at e1;cases o with
   |lst xs =>cases e1;let⟨vs,h1,h2⟩:=p1.hp a _ z;refine .inl ⟨vs,eS.of h1,?_⟩;cases h2<;>rfl
   |dct kvs =>cases e1;let⟨ps,h1,h2⟩:=p1.hp a _ z;refine .inr<|.inr ⟨ps,h1,?_⟩;cases h2<;>rfl
   |_=>cases e1
abbrev Md.gn(c:Md)(y:String):Bool:=c.gl (fo y)&&nm (fo y)
abbrev XR:O.Bi->Bool
 |.len=>dh
 |.int=>dh
 |.abs=>dh
 |.min2=>dh
 |.max2=>dh
 |.all=>dh
 |.list=>dh
 |.tuple=>dh
 |.minP=>dh
 |.sum=>dh
 |.maxP=>dh
 |.sortedI=>dh
 |_=>di
abbrev Gj:O.Bi->Option String
 |.isi [T]=>df T
 |_=>dg
abbrev FA:O.Bi->Option (List String)
 |_=>dg
abbrev X5:O.Bi->Bool
 |.lenSet=>dh
 |_=>di
abbrev WZ:O.Bi->Bool
 |_=>di
abbrev Ep:O.Bi->Str
 |.listRev=>"reversed"
 |.sortedSet=>"set"
 |_=>"range"
abbrev US:O.Bi->Bool
 |_=>di
abbrev U1:O.Bi->Bool
 |_=>di
abbrev Nz:O.Bi->String
 |.isc T=>T
 |_=>""
abbrev Mh:O.Bi->Bool
 |.minD=>dh
 |_=>di
abbrev B5:O.Bi->Option (List String)
 |_=>dg
abbrev Md.xn(c:Md)(T:String):Bool:=(c.xs.contains T||T == "ShutError")&&c.gn T
abbrev Wr:O.Bi->Bool
 |.len=>dh
 |.int=>dh
 |.abs=>dh
 |.list=>dh
 |.tuple=>dh
 |_=>di
abbrev IY(c:Md)(Ts:List String):Bool:=match Ts with
 |[T]=>c.xn T||(T == "ValueError" && c.gl (fo T))
 |Ts=>Ts.all c.xn&&fm (Ts.length<=20)
abbrev Dr:O.Bm->Option Nat
 |.append=>df 1
 |.popAt=>df 1
 |.remove=>df 1
 |.dget=>df 1
 |.dpop=>df 1
 |.dpopD=>df 2
 |_=>dg
abbrev UO:O.Tt->Bool
 |.yes=>dh
 |_=>di
abbrev OU:O.E->Bool
 |.var _=>dh
 |.call _ _=>dh
 |.meth _ _ _ _=>dh
 |.bi _ _=>dh
 |.bm _ _ _=>dh
 |.idx _ _=>dh
 |.fld _ _=>dh
 |.glob _ _=>dh
 |_=>di
abbrev Qj:O.E->Bool
 |.cmp _ _ _=>dh
 |.chain _ _ _ _ _=>dh
 |_=>di
mutual
noncomputable def okE:O.E->Md->Expr->Bool
 |.cst v,_,_=>G9 v
 |.var j,c,_=>fm (j<c.N.length)&&c.vis (c.nmOf j)&&nm (c.nmOf j)
 |.glob y v,c,_=>c.gn y&&fm (c.cs.lookup y=df v)
 |.bin _ a b,c,x=>okE a c (kid x 0)&&okE b c (kid x 1)
 |.neg a,c,x=>okE a c<|kid x 0
 |.not a,c,x=>okE a c<|kid x 0
 |.and a b,c,x=>okE a c (kid x 0)&&okE b c (rest (ZO b) x)&&(!ZO b||(rest (ZO b) x).pos==x.pos)
 |.or a b,c,x=>okE a c (kid x 0)&&okE b c (rest (YA b) x)&&(!YA b||(rest (YA b) x).pos==x.pos)
 |.cmp o a b,c,x=>okE a c (kid x 0)&&okE b c (kid x 1)&&(!XU o||NU b)
 |.chain o1 o2 a b d,c,x=>okE a c (kid x 0)&&okE b c (kid x 1)&&okE d c (kid x 2) && !XU o1 && !XU o2
 |.call f as,c,x=>c.gn f&&c.fs.contains f&&c.cm&&okA as c (sub x).tail
 |.make C as,c,x=>c.gn C&&c.cl.contains C&&c.cm&&fm (Zd as≠0)&&okA as c (sub x).tail
 |.meth C m o as,c,x=>c.ms.contains (C,m)&&c.cm&&okE o c (kid (kid x 0) 0)&&YI (toX o c<|kid (kid x 0) 0)&&((kid x 0).pos.endLine==x.pos.line)&&fm (Zd as<20)&&okA as c (sub x).tail
 |.fld o f,c,x=>c.fl.contains f&&okE o c (kid x 0)&&YI (toX o c<|kid x 0)
 | .bi f as,c,x=>(match Gj f with
   |some T=>fm (Zd as=1)&&kinds.contains T&&c.gl "isinstance" && c.gl (fo T)
   |none=>match FA f with
     |some Ts=>fm (Zd as=1)&&c.gl "isinstance" && !c.xs.isEmpty&&IY c Ts
     |none=>match B5 f with
       |some Ts=>fm (Zd as=1)&&c.gl "isinstance" && Ts.all (λT=>kinds.contains T&&c.gl (fo T))&&fm (Ts.length<=20)
       | none=>if X5 f then fm (Zd as=1)&&c.gl "len" && c.gl "set" && c.cm else if WZ f then fm (Zd as=1)&&c.gl (Z5 f)&&c.gl (Ep f)&&c.cm else if Mh f then fm (Zd as=1)&&c.gl "min" && c.cm else if US f then fm (Zd as=1)&&c.gl "dict" && c.gl "enumerate" && c.cm else if U1 f then fm (Zd as=1)&&c.gl "isinstance" && c.gn (Nz f)&&c.cl.contains (Nz f)else XR f&&c.gl (Z5 f)&&fm (Zd as≠0)&&(c.cm||Wr f))&&okA as c (UN f x)
 |.bm m o as,c,x=>fm (Dr m=df (Zd as))&&okE o c (kid (kid x 0) 0)&&YI (toX o c<|kid (kid x 0) 0)&&((kid x 0).pos.endLine==x.pos.line)&&okA as c (sub x).tail
 |.idx a b,c,x=>okE a c (kid x 0)&&okE b c (kid x 1)
 |.slc a lo hi,c,x=>okE a c (kid x 0)&&okO lo c (kid (kid x 1) 0)&&okO hi c (kid (kid x 1) 1)
 |.tup es,c,x=>okA es c (sub x)&&fm (Zd es<=1000)
 |.lst es,c,x=>okA es c (sub x)&&fm (Zd es<=1000)
 |.pick a lo hi st,c,x=>okE a c (kid x 0)&&okO lo c (kid (kid x 1) 0)&&okO hi c (kid (kid x 1) 1)&&okE st c (kid (kid x 1) 2)
 |.dct es,c,x=>okA es c (sub x)&&Jg es&&fm (esL es<=30)
 |.ife t a b,c,x=>okT t c (kid x 0)&&okE a c (kid x 1)&&okE b c (kid x 2)
 |.comp ö m p it t e,c,x=>(OZ m p&&(YB<|kid x 1).length==m)&&c.cm&&Yk (scp x) c.sc c.N (YB<|kid x 1) ö&&(scp x).kind == .function&&okI it c (kid x 2) (!ZA p)&&okE e (c.blk (scp x) (YB<|kid x 1) ö) (kid x 0)&&(UO t||okT t (c.blk (scp x) (YB<|kid x 1) ö) (kid x 3))
 |_,_,_=>di
noncomputable def okA:O.Es->Md->List Expr->Bool
 |.nil,_,_=>dh
 |.cons e es,c,xs=>okE e c (xs.headD dE)&&okA es c xs.tail
noncomputable def okJ:O.Es->Md->List Expr->Bool
 |.nil,_,_=>dh
 |.cons e es,c,xs=>(Ab e||okE e c (kid (xs.headD dE) 0))&&okJ es c xs.tail
noncomputable def okO:O.Oe->Md->Expr->Bool
 |.none,_,_=>dh
 |.some e,c,x=>okE e c x
noncomputable def okT:O.Tt->Md->Expr->Bool
 |.yes,_,_=>di
 |.val e,c,x=>okE e c x&&(OU e||Qj e)
 |.not t,c,x=>okT t c<|kid x 0
 |.and a b,c,x=>okT a c (kid x 0)&&okT b c (rest (Zq b) x)&&(!Zq b||(rest (Zq b) x).pos==x.pos)
 |.or a b,c,x=>okT a c (kid x 0)&&okT b c (rest (ZD b) x)&&(!ZD b||(rest (ZD b) x).pos==x.pos)
noncomputable def okI:O.It->Md->Expr->Bool->Bool
 |.seq e,c,x,_=>okE e c x
 |.range a,c,x,_=>c.gl "range" && okE a c (kid x 1)
 |.range2 a b,c,x,_=>c.gl "range" && okE a c (kid x 1)&&okE b c (kid x 2)
 |.enum e,c,x,t=>t&&c.gl "enumerate" && okE e c (kid x 1)
 |_,_,_,_=>di
end
variable {X:Cx}{i:Inf}{P:O.Pg}{n:Nat}{c:Md}
variable {f:O.Bi} {e:Expr} {es:List Expr} {q:Pos} {p:Pos} {l:Nat}
def EF(g:Gd X i P n c)(hp:XR f=dh)(cO:(c.cm||Wr f)=dh){as:O.Es}(hg:Gl X<|Z5 f)(ha:PA X (e::es)<|tAr X i (O.wF P n) as l)
  (he:Ó (e::es) X.env=(di,eval e X.env)::Ó es X.env) (hpl:(Ē p<|Ó es X.env).any (·.1)=di):PE X (.Call (.Name (Z5 f) q) (e::es) [] p)<|tE X i (O.wF P n)<|.bi f as:=by
 have hc:Wr f=di->X.calm=dh:=λz=>g.calm (by rw[z,aN]at cO;exact cO);cases f with
 |len=>exact(ZC ((call_len_seq.or MC).or Bb) hg (g.bl _<|by simp[blts,Z5]) (by kernel_rfl) ha (he:=he) (hpl:=hpl)).imp (YR<|by rw[g.K];exact LT)
 |int=>exact(Xq (call_int1.or J9) hg (g.bl _<|by simp[blts,Z5]) (by kernel_rfl) ha (he:=he) (hpl:=hpl)).imp<|YR Iq
 |abs=>exact(ZC BY hg (g.bl _<|by simp[blts,Z5]) (by kernel_rfl) ha (he:=he) (hpl:=hpl)).imp<|YR LI
 |min2=>exact(ZC (AX<|hc rfl) hg (g.bl _<|by simp[blts,Z5]) (by kernel_rfl) ha (he:=he) (hpl:=hpl)).imp<|YR E3
 |sum=>exact(ZC (A3<|hc rfl) hg (g.bl _<|by simp[blts,Z5]) (by kernel_rfl) ha (he:=he) (hpl:=hpl)).imp (YR<|by rw[g.K];exact Fb)
 |minP=>exact(ZC (Ar<|hc rfl) hg (g.bl _<|by simp[blts,Z5]) (by kernel_rfl) ha (he:=he) (hpl:=hpl)).imp (YR<|by rw[g.K];exact Fq)
 |maxP=>exact(ZC (AV<|hc rfl) hg (g.bl _<|by simp[blts,Z5]) (by kernel_rfl) ha (he:=he) (hpl:=hpl)).imp (YR<|by rw[g.K];exact F3)
 |max2=>exact(ZC (AG<|hc rfl) hg (g.bl _<|by simp[blts,Z5]) (by kernel_rfl) ha (he:=he) (hpl:=hpl)).imp<|YR FI
 |all=>exact(ZC (BW<|hc rfl) hg (g.bl _<|by simp[blts,Z5]) (by kernel_rfl) ha (he:=he) (hpl:=hpl)).imp (YR<|by rw[g.K];exact LQ)
 |list=>exact(Xq MQ hg (g.bl _<|by simp[blts,Z5]) (by kernel_rfl) ha (he:=he) (hpl:=hpl)).imp (YR<|by rw[g.K];exact FL)
 |sortedI=>exact(ZC (call_sorted.or<|MW<|hc rfl) hg (g.bl _<|by simp[blts,Z5]) (by kernel_rfl) ha (he:=he) (hpl:=hpl)).imp (YR<|by rw[g.K];exact Oa)
 |tuple=>exact(Xq Kb hg (g.bl _<|by simp[blts,Z5]) (by kernel_rfl) ha (he:=he) (hpl:=hpl)).imp (YR<|by rw[g.K];exact Cl)
 |_=>cases hp
variable {T:String}
def Pd(h:Gj f=df T):f=.isi [T]:=by
 cases f with
 |isi Ts =>
  cases Ts with
  |nil=>cases h
  |cons a r=>cases r with
   |nil=>cases h;rfl
   |cons _ _=>cases h
 |_=>cases h
def Cm(g:Gd X i P n c){m:O.E}{p2 ç:Pos}(hT:T∈kinds)(h2:c.gl "isinstance" = dh)(h5:c.gl (fo T)=dh)(he:PE X e<|tE X i (O.wF P n) m)(ŭ:Ó [e,.Name (fo T) p2] X.env=(di,eval e X.env)::Ó [.Name (fo T) p2] X.env) :
  PE X (.Call (.Name "isinstance" p) [e,.Name (fo T) p2] [] ç) (tE X i (O.wF P n)<|.bi (.isi [T])<|.cons m .nil):=by
 have cN:=hT;simp only[kinds,Æ,Û,or_false]at cN;refine Qo hT he g.K (g.gl h2) (g.bl _<|by simp[blts]) (g.gl h5) ?_ ?_ ?_ ?_ ŭ
 .rcases cN with rfl|rfl|rfl|rfl|rfl|rfl<;>exact g.bl _ (by simp[blts])
 .rcases cN with rfl|rfl|rfl|rfl|rfl|rfl<;>kernel_rfl
 .rcases cN with rfl|rfl|rfl|rfl|rfl|rfl<;>decide
 .rcases cN with rfl|rfl|rfl|rfl|rfl|rfl<;>decide
variable {m:O.Bm} {o:Expr} {mo:O.E} {Ļ:Pos} {ľ:Pos}
def DN(g:Gd X i P n c)(h:Dr m=df 0)(ho:PE X o<|tE X i (O.wF P n) mo)(hb:∀f,ē o f X.env (eval o X.env)=eval o X.env)(hl:(Ļ.endLine==ľ.line)=dh) :
  PE X (.Call (.Attribute o (Il m) Ļ) [] [] ľ) (tE X i (O.wF P n)<|.bm m mo .nil):=by
 cases m with
 |_=>cases h
def FV(g:Gd X i P n c){k:Nat}(h:Dr m=df (k+1)){ms:O.Es}(ho:PE X o<|tE X i (O.wF P n) mo)(ha:PA X (e::es)<|tAr X i (O.wF P n) ms l)(hb:∀f,ē o f X.env (eval o X.env)=eval o X.env)(hl:(Ļ.endLine==ľ.line)=dh)
  (Ϣ:((Ē ľ<|Ó (e::es) X.env).all (λx=>!x.1)&&(ś ľ<|Ĭ [] X.env).all (λx=>x.1.isSome)&&fm ((e::es).length+([]:List Κ).length+(if([]:List Κ).isEmpty then 0 else 1)<30))=dh)
  (hs:Ó (e::es) X.env=(di,eval e X.env)::Ó es X.env) (hpl:(Ē ľ<|Ó es X.env).any (·.1)=di) :
  PE X (.Call (.Attribute o (Il m) Ļ) (e::es) [] ľ) (tE X i (O.wF P n)<|.bm m mo ms):=by
 have u1:X.A.units+1<Ĥ:=by have:=g.un;lia
 cases m with
 |append=>exact AA g.K PySem.F.plainAttrs_list PySem.F.slot_list_append PySem.F.type_list_append Aj (IA rfl) Lb ho ha (hb _) Ϣ hl hs hpl
 |popAt=>exact AA g.K PySem.F.plainAttrs_list PySem.F.slot_list_pop PySem.F.type_list_pop Dm (IA rfl) Ge ho ha (hb _) Ϣ hl hs hpl
 |remove=>exact AA g.K PySem.F.plainAttrs_list PySem.F.slot_list_remove PySem.F.type_list_remove Az (IA rfl) LE ho ha (hb _) Ϣ hl hs hpl
 |dget=>exact AA g.K PySem.F.plainAttrs_dict PySem.F.slot_dict_get PySem.F.type_dict_get (Dy u1) (LK rfl) L8 ho ha (hb _) Ϣ hl hs hpl
 |dpop=>exact AA g.K PySem.F.plainAttrs_dict PySem.F.slot_dict_pop PySem.F.type_dict_pop mt_dpop (LK rfl) Lr ho ha (hb _) Ϣ hl hs hpl
 |dpopD=>exact AA g.K PySem.F.plainAttrs_dict PySem.F.slot_dict_pop PySem.F.type_dict_pop (mt_dpop.or Co) (LK rfl) Gc ho ha (hb _) Ϣ hl hs hpl
 |_=>cases h
variable {sc:Ů} {ö:List Nat}
def Gd.blk(g:Gd X i P n c){x:List Str}(hb:Yk sc c.sc c.N x ö=dh)(hk:sc.kind=.function)(cl:List<|Str×Ì)(C:Ì)(s:Å)(H:Hp)(ex:List Ì) :
  Gd (Zu X sc (Z7 X x ö) cl C s H ex) i P n (c.blk sc x ö) where
 K:=g.K
 N:=by show Z7 X x ö=_;unfold Z7;rw[g.N];rfl
 sc:=by show bf sc X.env=_;unfold bf Env.kindOf;rw[g.sc];rfl
 nd:=by have B:=ON g.sc g.N hk hb;have:=B.nd;unfold Z7 at this;rw[g.N]at this;exact this
 un:=g.un
 calm:=g.calm
 room:=g.room
 bl:=g.bl
 dfs:=g.dfs
 cst:=g.cst
 kl:=⟨g.kl.A,g.kl.F,g.kl.mkc,g.kl.mth⟩
 xl:=λh=>⟨(g.xl h).xc,(g.xl h).rs,(g.xl h).kn⟩
def Gd.pt(g:Gd X i P n c)(cO:c.cm=dh){xs:List Str}(hb:Yk sc c.sc c.N xs ö=dh)(hk:sc.kind=.function){p:O.Pt}(hp:OZ xs.length p=dh)(x:Expr)(cl:List<|Str×Ì)(C:Ì)(s:Å)(H:Hp)(ex:List Ì) :
  PG (Zu X sc (Z7 X xs ö) cl C s H ex) (toP p (c.blk sc xs ö) x) (gPt i p):=by
 have B:=ON g.sc g.N hk hb;have G:=g.blk hb hk cl C s H ex;have key:∀j,j<xs.length->DF (Zu X sc (Z7 X xs ö) cl C s H ex) (c.blk sc xs ö) j:=λj hj=>by
  have e:(c.blk sc xs ö).nmOf j=xs[j]:=by unfold Md.nmOf Md.blk;show(xs++_).getD j _=_;rw[ĉ,ā hj,Ê hj];rfl
  have lo:=lookup_relabel_local (env:=X.env)<|B.own xs[j]<|ĥ hj;unfold DF;rw[e];refine⟨?_,.inl lo,.inr lo⟩;show(xs++_)[j]?=_;rw[ā hj,Ê hj]
 refine Hg G.K (by rw[G.N];exact G.nd) (g.calm cO) ?_;cases p with
 |one j=>exact key j<|of_decide_eq_true hp
 |many js=>exact λj hj=>key j<|of_decide_eq_true<|ù.mp hp j hj
 |nest j js=>cases hp
variable {b:O.E}
def UE(h:ZO b=dh):∃a d,b=.and a d:=by
 cases b with
 |and a d=>exact⟨a,d,rfl⟩
 |_=>cases h
def DM(h:YA b=dh):∃a d,b=.or a d:=by
 cases b with
 |or a d=>exact⟨a,d,rfl⟩
 |_=>cases h
def B7{b:O.Tt}(h:Zq b=dh):∃a d,b=.and a d:=by
 cases b with
 |and a d=>exact⟨a,d,rfl⟩
 |_=>cases h
def Fv{b:O.Tt}(h:ZD b=dh):∃a d,b=.or a d:=by
 cases b with
 |or a d=>exact⟨a,d,rfl⟩
 |_=>cases h
def Mx{b:Bool}(h:(!b||p==q)=dh)(hb:b=dh):p=q:=by rw[hb]at h;exact eq_of_beq h
variable {Φ:O.Fs} {x:Expr}
def Bx(hp:(!ZO b||(rest (ZO b) x).pos==x.pos)=dh)(h:PE X (toX b c<|rest (ZO b) x)<|tE X i Φ b):PE X (.BoolOp .And (flat (ZO b)<|toX b c<|rest (ZO b) x) x.pos)<|tE X i Φ b:=by
 cases z:ZO b with
 |false=>rw[z]at h;exact CA h
 |true =>have e:=Mx hp z;rw[z]at e h;let⟨a,d,rfl⟩:=UE z;show PE X (.BoolOp .And (sub<|.BoolOp .And _ (rest dh x).pos) x.pos) _;rw[<-e];exact h
def Gh(hp:(!YA b||(rest (YA b) x).pos==x.pos)=dh)(h:PE X (toX b c<|rest (YA b) x)<|tE X i Φ b):PE X (.BoolOp .Or (flat (YA b)<|toX b c<|rest (YA b) x) x.pos)<|tE X i Φ b:=by
 cases z:YA b with
 |false=>rw[z]at h;exact CA h
 |true =>have e:=Mx hp z;rw[z]at e h;let⟨a,d,rfl⟩:=DM z;show PE X (.BoolOp .Or (sub<|.BoolOp .Or _ (rest dh x).pos) x.pos) _;rw[<-e];exact h
def Kp(b:Bool){e:O.E}(h:b=ZO e\/b=YA e):∃y ys,flat b (toX e c x)=y::ys:=by
 cases b with
 |false=>exact⟨_,_,rfl⟩
 |true =>
  rcases h with h|h
  .obtain⟨a,d,rfl⟩:=UE h.symm;exact⟨_,_,rfl⟩
  .obtain⟨a,d,rfl⟩:=DM h.symm;exact⟨_,_,rfl⟩
variable {i:Inf}{P:O.Pg}{n:Nat}
variable {X:Cx} {c:Md} {Φ:O.Fs} {b:O.Tt} {x:Expr}
def AW(hp:(!Zq b||(rest (Zq b) x).pos==x.pos)=dh)(h:PT X (toT b c<|rest (Zq b) x)<|tTt X i Φ b)(h2:(Zq b||ZD b)=dh->PW X (toT b c<|rest (Zq b) x) (tTt X i Φ b)) :
  ∃y ys,flat (Zq b) (toT b c<|rest (Zq b) x)=y::ys/\PW X (.BoolOp .And (y::ys) x.pos) (tTt X i Φ b):=by
 cases z:Zq b with
 |false=>rw[z]at h;exact⟨_,_,rfl,E1 h⟩
 |true =>have e:=Mx hp z;rw[z]at e h2;let⟨a,d,rfl⟩:=B7 z;refine⟨_,_,rfl,?_⟩;rw[<-e];exact h2 rfl
def BL(hp:(!ZD b||(rest (ZD b) x).pos==x.pos)=dh)(h:PT X (toT b c<|rest (ZD b) x)<|tTt X i Φ b)(h2:(Zq b||ZD b)=dh->PW X (toT b c<|rest (ZD b) x) (tTt X i Φ b)) :
  ∃y ys,flat (ZD b) (toT b c<|rest (ZD b) x)=y::ys/\PW X (.BoolOp .Or (y::ys) x.pos) (tTt X i Φ b):=by
 cases z:ZD b with
 |false=>rw[z]at h;exact⟨_,_,rfl,Hw h⟩
 |true =>have e:=Mx hp z;rw[z]at e h2;let⟨a,d,rfl⟩:=Fv z;refine⟨_,_,rfl,?_⟩;rw[<-e];exact h2 rfl
variable {e:O.E}
def Rh(h:Ab e=dh):∃s,e=.cst (.str s):=by
 cases e with
 |cst v=>cases v with
  |str s=>exact⟨s,rfl⟩
  |_=>cases h
 |_=>cases h
variable {ö:List Nat} {p:O.Pt} {it:O.It} {ç:Pos}
def Kz(g:Gd X i P n c){mt:O.Tt}{me:O.E}{aV Ś aJ:Expr}{x:List Str}{aw:List Expr}{sc:Ů}(cO:c.cm=dh)(h1:Yk sc c.sc c.N x ö=dh)(hk:sc.kind=.function)(hp:OZ x.length p=dh)
  (hi:PI X aJ Ś<|tIt X i (O.wF P n) it) (hs:∀y,ď Ś X.env y=pure y) (hG:∀cl C s H ex,PG (Zu X sc (Z7 X x ö) cl C s H ex) aJ<|gPt i p)
  (hE:∀cl C s H ex,PE (Zu X sc (Z7 X x ö) cl C s H ex) aV<|tE0 i (O.wF P n) me) (hI:∀cl C s H ex,PIfs (Zu X sc (Z7 X x ö) cl C s H ex) aw<|tT0 i (O.wF P n) mt) :
  PE X (.ListComp aV [⟨aJ,Ś,aw,0⟩] sc ç) (tE X i (O.wF P n)<|.comp ö x.length p it mt me)/\
   ∀(y:Str) (py Ζ:Pos) (j:Nat),X.N[j]?=df y->L2.Loc X.env.scope y->(X.fn y=dh\/X.env.scope.names.lookup y=df .local)->ş (.ListComp aV [⟨aJ,Ś,aw,0⟩] sc ç) (df<|.Name y py) Ζ.line X.env=pure dh->PS X (.Assign [.Name y py] (.ListComp aV [⟨aJ,Ś,aw,0⟩] sc ç) Ζ) (tSt X i (O.wF P n)<|.set (.one j)<|.comp ö x.length p it mt me):=by
 have B:=ON g.sc g.N hk h1;have hc:=g.calm cO;refine⟨(DA hc B hi hG hI hE hs).imp<|Ui hp,λy py Ζ j hj hl hf hsw=>?_⟩;refine(Dn (by rw[g.N];exact g.nd) hj hl hc B hi hG hI hE hs hsw hf).imp λD σ H ⟨env,G,N,R,Bk,Ct,Xe,p,w,e⟩=>?_;refine Ui hp σ H _ ⟨env,G,_,Xe env,p.pre,w,λv G1 H1 x k1 g1 r1 w1=>?_⟩;let⟨ł,e2,w2⟩:=dq w1;clear w1;cases e2;exact e.nx _ _ G1 H1 k1 g1 ((p.en.keep k1).set r1 j) w2
def Cb{j:Nat}(hN:X.N=c.N)(h:j<c.N.length):X.N[j]?=df (c.nmOf j):=by rw[hN];unfold Md.nmOf;rw[ĉ,Ê h];rfl
def FO{o:Expr}{m:Str}{Ļ:Pos}{args:List Expr}{env:Env}(hb:ē o m env (eval o env)=eval o env)(Ϣ:bI (args.length+0) (Ē ç<|Ó args env) (ś ç<|Ĭ [] env)=dh)(hl:(Ļ.endLine==ç.line)=dh) :
  eval (.Call (.Attribute o m Ļ) args [] ç) env=(do
    let ov<-eval o env
    ο Ļ.atName
    let (f,first)<-ņ [ov] (Δ ov m<|do return (<-importBound o env).getD dh)
    bx ç f first (Ē ç<|Ó args env) (ś ç<|Ĭ [] env)):=by
 show(do
   let ov<-ē o m env (eval o env)
   ο Ļ.atName
   methodCall o m Ļ ç env ov (args.length+0) (Ē ç<|Ó args env) (ś ç<|Ĭ [] env))=_
 rw[hb];unfold methodCall methodCallPos;rw[Ϣ,hl];rfl
def HH(env:Env)(ç:Pos){as:O.Es}{xs:List Expr}(h:Zd as<20):bI ((toA as c xs).length+0) (Ē ç<|Ó (toA as c xs) env) (ś ç<|Ĭ [] env)=dh:=by unfold bI;rw[bAq,bAq,fj,XS];refine⟨⟨JU env ç as c xs,rfl⟩,?_⟩;show Zd as+0+0<30;lia
def QR{m:O.Tt}(h:UO m=di->PT X (toT m c x) (tTt X i (O.wF P n) m)):PIfs X (toF m c x)<|tT0 i (O.wF P n) m:=by
 cases m with
 |yes=>exact Pc
 |val e=>exact X6<|pt0<|h rfl
 |not t=>exact X6<|pt0<|h rfl
 |and a b=>exact X6<|pt0<|h rfl
 |or a b=>exact X6<|pt0<|h rfl
def Nd(c:Md):∀(es:O.Es) (xs:List Expr),Jg es=dh->(XZ<|toA es c xs).all (·.isSome)=dh/\(XZ<|toA es c xs).length=(Dv<|toA es c xs).length/\2*(XZ<|toA es c xs).length=esL es
 |.nil,_,_=>⟨rfl,rfl,rfl⟩
 |.cons _ .nil,_,h=>by cases h
 |.cons k (.cons v r),xs,h=>by
  let⟨h1,h2,h3⟩:=Nd c r xs.tail.tail h;refine⟨?_,?_,?_⟩
  .show(dh&&(XZ<|toA r c xs.tail.tail).all (·.isSome))=dh;rw[h1];rfl
  .show(XZ<|toA r c xs.tail.tail).length+1=(Dv<|toA r c xs.tail.tail).length+1;rw[h2]
  .show 2*((XZ<|toA r c xs.tail.tail).length+1)=esL r+1+1;lia
mutual
theorem eE:∀(m:O.E) (X:Cx) (c:Md) (x:Expr),Gd X i P n c->okE m c x=dh->PE X (toX m c x) (tE X i (O.wF P n) m)
 |.cst v,X,c,x,g,h=>HF h
 |.var j,X,c,x,g,h=>by have h:(fm (j<c.N.length)&&c.vis (c.nmOf j)&&nm (c.nmOf j))=dh:=h;rw[bAq,bAq,fj]at h;let⟨q1,q2,_⟩:=UB h.2;exact Qd (Cb g.N h.1.1) (g.vis h.1.2) q1 q2
 |.glob y v,X,c,x,g,h=>by have h:((c.gl (fo y)&&nm (fo y))&&fm (c.cs.lookup y=df v))=dh:=h;rw[bAq,bAq,fj]at h;let⟨q1,q2,_⟩:=UB h.1.2;let⟨u,z,e1,e2,e3⟩:=g.cst _ _ h.2;exact LV (FC (g.gl h.1.1) e1 e2 q1) e3
 |.bin o a b,X,c,x,g,h=>by have h:(okE a c (kid x 0)&&okE b c (kid x 1))=dh:=h;rw[bAq]at h;exact Ql g (eE a X c _ g h.1)<|eE b X c _ g h.2
 |.neg a,X,c,x,g,h=>Pp<|eE a X c _ g h
 |.not a,X,c,x,g,h=>Q7<|eE a X c _ g h
 |.and a b,X,c,x,g,h=>by have h:(okE a c (kid x 0)&&okE b c (rest (ZO b) x)&&(!ZO b||(rest (ZO b) x).pos==x.pos))=dh:=h;rw[bAq,bAq]at h;have h2:=Bx h.2<|eE b X c _ g h.1.2;let⟨y,ys,e⟩:=Kp (c:=c) (ZO b) (e:=b) (x:=rest (ZO b) x)<|.inl rfl;show PE X (.BoolOp .And (toX a c (kid x 0)::flat (ZO b) (toX b c<|rest (ZO b) x)) x.pos) _;rw[e]at h2 ⊢;exact P4 (eE a X c _ g h.1.1) h2
 |.or a b,X,c,x,g,h=>by have h:(okE a c (kid x 0)&&okE b c (rest (YA b) x)&&(!YA b||(rest (YA b) x).pos==x.pos))=dh:=h;rw[bAq,bAq]at h;have h2:=Gh h.2<|eE b X c _ g h.1.2;let⟨y,ys,e⟩:=Kp (c:=c) (YA b) (e:=b) (x:=rest (YA b) x)<|.inr rfl;show PE X (.BoolOp .Or (toX a c (kid x 0)::flat (YA b) (toX b c<|rest (YA b) x)) x.pos) _;rw[e]at h2 ⊢;exact Sg (eE a X c _ g h.1.1) h2
 |.cmp o a b,X,c,x,g,h=>by have h:(okE a c (kid x 0)&&okE b c (kid x 1)&&(!XU o||NU b))=dh:=h;rw[bAq,bAq]at h;exact(Nk g h.2 (eE a X c _ g h.1.1)<|eE b X c _ g h.1.2).1
 |.chain o1 o2 a b d,X,c,x,g,h=>by have h:(okE a c (kid x 0)&&okE b c (kid x 1)&&okE d c (kid x 2) && !XU o1 && !XU o2)=dh:=h;rw[bAq,bAq,bAq,bAq,Ĝ,Ĝ]at h;let⟨⟨⟨⟨h1,h2⟩,h3⟩,h4⟩,h5⟩:=h;exact(JM g h4 h5 (eE a X c _ g h1) (eE b X c _ g h2)<|eE d X c _ g h3).1
 |.call f as,X,c,x,g,h=>by
  have h:((c.gl (fo f)&&nm (fo f))&&c.fs.contains f&&c.cm&&okA as c (sub x).tail)=dh:=h;rw[bAq,bAq,bAq,bAq]at h;let⟨⟨⟨⟨h1,h2⟩,h3⟩,h4⟩,h5⟩:=h;let⟨q1,_,_⟩:=UB h2;have ha:=eA as X c _ g h5;cases as with
  |nil=>exact EA g.K (g.dfs _ h3) (g.rm h4) (g.gl h1) q1
  |cons a as=>exact HX g.K (g.dfs _ h3) (g.rm h4) (g.gl h1) q1 ha (Zw ..)<|Yy ..
 |.make C as,X,c,x,g,h=>by
  have h:((c.gl (fo C)&&nm (fo C))&&c.cl.contains C&&c.cm&&fm (Zd as≠0)&&okA as c (sub x).tail)=dh:=h;rw[bAq,bAq,bAq,bAq,bAq,fj]at h;let⟨⟨⟨⟨⟨h1,h2⟩,h3⟩,h4⟩,h6⟩,h5⟩:=h;let⟨q1,_,_⟩:=UB h2;have ha:=eA as X c _ g h5;let⟨a,f,i1,i2,M,hm,D⟩:=g.kl.mkc C h3;cases as with
  |nil=>exact fk rfl h6
  |cons b as=>exact IJ g.K i1 i2 M D (g.room h4) (g.gl h1) hm q1 ha (Zw ..)<|Yy ..
 |.meth C m o as,X,c,x,g,h=>by
  have h:(c.ms.contains (C,m)&&c.cm&&okE o c (kid (kid x 0) 0)&&YI (toX o c<|kid (kid x 0) 0)&&((kid x 0).pos.endLine==x.pos.line)&&fm (Zd as<20)&&okA as c (sub x).tail)=dh:=h;rw[bAq,bAq,bAq,bAq,bAq,bAq,fj]at h;let⟨⟨⟨⟨⟨⟨h1,h2⟩,h3⟩,h4⟩,h6⟩,h7⟩,h5⟩:=h;have ev:=FO (m:=fo m) (Ys h4 _ X.env) (HH X.env x.pos (c:=c) (xs:=(sub x).tail) h7) h6;have ha:=eA as X c _ g h5;have ho:=eE o X c _ g h3;let⟨a,f,i1,A,M,D⟩:=g.kl.mth C m h1;cases as with
  |nil=>exact Ez g.K i1 A M D (g.rm h2) ho ev
  |cons b as=>exact IN g.K i1 A M D (g.rm h2) ho ha (Zw ..) (Yy ..) ev
 |.fld o f,X,c,x,g,h=>by have h:(c.fl.contains f&&okE o c (kid x 0)&&YI (toX o c<|kid x 0))=dh:=h;rw[bAq,bAq]at h;exact PQ g.K g.kl.A (g.kl.F _ h.1.1) (eE o X c _ g h.1.2)<|Ys h.2 _ _
 |.bi f as,X,c,x,g,h=>by
  have h:((match Gj f with
    |some T=>fm (Zd as=1)&&kinds.contains T&&c.gl "isinstance" && c.gl (fo T)
    |none=>match FA f with
      |some Ts=>fm (Zd as=1)&&c.gl "isinstance" && !c.xs.isEmpty&&IY c Ts
      |none=>match B5 f with
        |some Ts=>fm (Zd as=1)&&c.gl "isinstance" && Ts.all (λT=>kinds.contains T&&c.gl (fo T))&&fm (Ts.length<=20)
        | none=>if X5 f then fm (Zd as=1)&&c.gl "len" && c.gl "set" && c.cm else if WZ f then fm (Zd as=1)&&c.gl (Z5 f)&&c.gl (Ep f)&&c.cm else if Mh f then fm (Zd as=1)&&c.gl "min" && c.cm else if US f then fm (Zd as=1)&&c.gl "dict" && c.gl "enumerate" && c.cm else if U1 f then fm (Zd as=1)&&c.gl "isinstance" && c.gn (Nz f)&&c.cl.contains (Nz f)else XR f&&c.gl (Z5 f)&&fm (Zd as≠0)&&(c.cm||Wr f))&&okA as c (UN f x))=dh:=h
  rw[bAq]at h;cases z:Gj f with
  |some T =>
   have h1:=h.1;rw[z]at h1;rw[bAq,bAq,bAq,fj]at h1;let⟨⟨⟨h1,h2⟩,h3⟩,h4⟩:=h1;cases Pd z;cases as with
   |nil=>cases h1
   |cons a as=>cases as with
    |nil =>have h5:(okE a c _&&dh)=dh:=h.2;rw[bAq]at h5;exact Cm g (ý.mp h2) h3 h4 (eE a X c _ g h5.1)<|Zw ..
    |cons b as=>exact fk h1 (by simp[Zd])
  |none =>
   have h1:=h.1;rw[z]at h1
   replace h1:(match FA f with
     |some Ts=>fm (Zd as=1)&&c.gl "isinstance" && !c.xs.isEmpty&&IY c Ts
     |none=>match B5 f with
       |some Ts=>fm (Zd as=1)&&c.gl "isinstance" && Ts.all (λT=>kinds.contains T&&c.gl (fo T))&&fm (Ts.length<=20)
       | none=>if X5 f then fm (Zd as=1)&&c.gl "len" && c.gl "set" && c.cm else if WZ f then fm (Zd as=1)&&c.gl (Z5 f)&&c.gl (Ep f)&&c.cm else if Mh f then fm (Zd as=1)&&c.gl "min" && c.cm else if US f then fm (Zd as=1)&&c.gl "dict" && c.gl "enumerate" && c.cm else if U1 f then fm (Zd as=1)&&c.gl "isinstance" && c.gn (Nz f)&&c.cl.contains (Nz f)else XR f&&c.gl (Z5 f)&&fm (Zd as≠0)&&(c.cm||Wr f))=dh:=h1
   cases zx:FA f with
   |some Ts=>cases zx
   |none =>
    rw[zx]at h1
    replace h1:(match B5 f with
      |some Ts=>fm (Zd as=1)&&c.gl "isinstance" && Ts.all (λT=>kinds.contains T&&c.gl (fo T))&&fm (Ts.length<=20)
      | none=>if X5 f then fm (Zd as=1)&&c.gl "len" && c.gl "set" && c.cm else if WZ f then fm (Zd as=1)&&c.gl (Z5 f)&&c.gl (Ep f)&&c.cm else if Mh f then fm (Zd as=1)&&c.gl "min" && c.cm else if US f then fm (Zd as=1)&&c.gl "dict" && c.gl "enumerate" && c.cm else if U1 f then fm (Zd as=1)&&c.gl "isinstance" && c.gn (Nz f)&&c.cl.contains (Nz f)else XR f&&c.gl (Z5 f)&&fm (Zd as≠0)&&(c.cm||Wr f))=dh:=h1
    cases zl:B5 f with
    |some Ts=>cases zl
    |none =>
     rw[zl]at h1;dsimp only at h1;split at h1
     .rename_i cz;have hf:f=.lenSet:=by cases f<;>first|rfl|cases cz
      subst hf;rw[bAq,bAq,bAq,fj]at h1;let⟨⟨⟨h1,h2⟩,h3⟩,h4⟩:=h1;cases as with
      |nil=>cases h1
      |cons a as=>cases as with
       |nil =>have h6:(okE a c _&&dh)=dh:=h.2;rw[bAq]at h6;exact BV (g.calm h4) g.K (eE a X c _ g h6.1) (g.gl h2) (g.bl _<|by simp[blts]) (g.gl h3) (g.bl _<|by simp[blts]) (by rw[Zw];rfl)
       |cons b as=>exact fk h1 (by simp[Zd])
     split at h1
     .rename_i _ cz;exact fk (show di=dh from cz) (by decide)
     split at h1
     .rename_i _ _ cz;have hf:f=.minD:=by cases f<;>first|rfl|cases cz
      subst hf;rw[bAq,bAq,fj]at h1;let⟨⟨h1,h2⟩,h4⟩:=h1;cases as with
      |nil=>cases h1
      |cons a as=>cases as with
       |nil =>have h6:(okE a c _&&dh)=dh:=h.2;rw[bAq]at h6;exact Lq (g.calm h4) (by have:=g.un;lia) g.K (g.gl h2) (g.bl _<|by simp[blts]) (eE a X c _ g h6.1) (by rw[Zw];rfl)
       |cons b as=>exact fk h1 (by simp[Zd])
     split at h1
     .rename_i _ _ _ cz;exact fk (show di=dh from cz) (by decide)
     split at h1
     .rename_i _ _ _ _ cz;exact fk (show di=dh from cz) (by decide)
     rw[bAq,bAq,bAq,fj]at h1;let⟨⟨⟨h1,h2⟩,h3⟩,h4⟩:=h1;have ha:=eA as X c _ g h.2;cases as with
     |nil=>exact fk rfl h3
     |cons a as =>
      have e1:toX (.bi f<|.cons a as) c x=.Call (.Name (Z5 f) (kid x 0).pos) (toA (.cons a as) c<|UN f x) [] x.pos:=by cases f<;>first|(cases h1;done)|rfl
      rw[e1];exact EF g h1 h4 (g.gl h2) ha (Zw ..)<|Yy ..
 |.bm m o as,X,c,x,g,h=>by
  have h:(fm (Dr m=df (Zd as))&&okE o c (kid (kid x 0) 0)&&YI (toX o c<|kid (kid x 0) 0)&&((kid x 0).pos.endLine==x.pos.line)&&okA as c (sub x).tail)=dh:=h;rw[bAq,bAq,bAq,bAq,fj]at h;let⟨⟨⟨⟨h1,h2⟩,h3⟩,h4⟩,h5⟩:=h;have ha:=eA as X c _ g h5;have ho:=eE o X c _ g h2;cases as with
  |nil=>exact DN g h1 ho (λf=>Ys h3 f _) h4
  |cons a as =>
   refine FV g h1 ho ha (λf=>Ys h3 f _) h4 ?_ (Zw ..)<|Yy ..;rw[bAq,bAq,fj];refine⟨⟨JU X.env x.pos (.cons a as) c (sub x).tail,rfl⟩,?_⟩;have e2:(toA (.cons a as) c (sub x).tail).length=Zd (.cons a as):=XS ..;have e3:Zd (.cons a as)<=2:=by
    have:∀m:O.Bm,∀k,Dr m=df k->k<=2:=by intro m k;cases m<;>intro z<;>first|(cases z;done)|(cases z;decide)
    exact this m _ h1
   show(toA (.cons a as) c (sub x).tail).length+0+0<30;lia
 |.idx a b,X,c,x,g,h=>by have h:(okE a c (kid x 0)&&okE b c (kid x 1))=dh:=h;rw[bAq]at h;exact Pm (ix_seq.or<|Eg (by have:=g.un;lia)) (by rw[g.K];exact PP) (eE a X c _ g h.1) (eE b X c _ g h.2)<|BI _ _ _
 |.slc a lo hi,X,c,x,g,h=>by have h:(okE a c (kid x 0)&&okO lo c (kid (kid x 1) 0)&&okO hi c (kid (kid x 1) 1))=dh:=h;rw[bAq,bAq]at h;exact Q9 RI (by rw[g.K];exact QG) (eE a X c _ g h.1.1) (eO lo X c _ g h.1.2)<|eO hi X c _ g h.2
 |.tup es,X,c,x,g,h=>by have h:(okA es c (sub x)&&fm (Zd es<=1000))=dh:=h;rw[bAq,fj]at h;exact PY (by rw[XS];exact h.2)<|eA es X c _ g h.1
 |.key es,X,c,x,g,h=>nomatch h
 |.dctP,X,c,x,g,h=>nomatch h
 |.lst es,X,c,x,g,h=>by have h:(okA es c (sub x)&&fm (Zd es<=1000))=dh:=h;rw[bAq,fj]at h;exact PZ (by rw[XS];exact h.2)<|eA es X c _ g h.1
 |.dct es,X,c,x,g,h=>by
  have h:(okA es c (sub x)&&Jg es&&fm (esL es<=30))=dh:=h;rw[bAq,bAq,fj]at h;let⟨⟨h1,h2⟩,h3⟩:=h;have hp:=eD es X c (sub x) x.pos g h1 h2;cases es with
  |nil=>exact IH
  |cons k r=>cases r with
   |nil=>cases h2
   |cons v r =>let⟨q1,q2,q3⟩:=Nd c (.cons k<|.cons v r) (sub x) h2;refine Qs h2 h3 hp q1 q2 (by intro z;cases z) (by rw[<-q3]at h3;lia)
 |.ife t a b,X,c,x,g,h=>by have h:(okT t c (kid x 0)&&okE a c (kid x 1)&&okE b c (kid x 2))=dh:=h;rw[bAq,bAq]at h;exact Qh (eT t X c _ g h.1.1).1 (eE a X c _ g h.1.2)<|eE b X c _ g h.2
 |.comp ö m p it t e,X,c,x,g,h=>by
  have h:((OZ m p&&(YB<|kid x 1).length == m)&&c.cm&&Yk (scp x) c.sc c.N (YB<|kid x 1) ö&&(scp x).kind == .function&&okI it c (kid x 2) (!ZA p)&&okE e (c.blk (scp x) (YB<|kid x 1) ö) (kid x 0)&&(UO t||okT t (c.blk (scp x) (YB<|kid x 1) ö) (kid x 3)))=dh:=h;rw[bAq,bAq,bAq,bAq,bAq,bAq]at h;let⟨⟨⟨⟨⟨⟨h1,h2⟩,h3⟩,h4⟩,h5⟩,h6⟩,h7⟩:=h;rw[bAq,beq_iff_eq]at h1;let⟨h1,rfl⟩:=h1;have hk:=eq_of_beq h4;let⟨t1,t2⟩:=Me (c:=c.blk (scp x) (YB<|kid x 1) ö) p<|kid x 1;let⟨a1,a2⟩:=eI it X c (kid x 2) (toP p (c.blk (scp x) (YB<|kid x 1) ö)<|kid x 1) g (!ZA p) t1 t2 h5;exact(Kz g h2 h3 hk h1 a1 a2 (g.pt h2 h3 hk h1 _)
    (λcl C s H ex=>pe0<|eE e _ _ _ (g.blk h3 hk cl C s H ex) h6) (λcl C s H ex=>QR λz=>(eT t _ _ _ (g.blk h3 hk cl C s H ex)<|by rw[z]at h7;exact h7).1)).1
 |.fstr es,X,c,x,g,h=>nomatch h
 |.repl _ _ _,X,c,x,g,h=>nomatch h
 |.split o a,X,c,x,g,h=>nomatch h
 |.rev a,X,c,x,g,h=>nomatch h
 |.pick a lo hi st,X,c,x,g,h=>by have h:(okE a c (kid x 0)&&okO lo c (kid (kid x 1) 0)&&okO hi c (kid (kid x 1) 1)&&okE st c (kid (kid x 1) 2))=dh:=h;rw[bAq,bAq,bAq]at h;exact HW g.K (eE a X c _ g h.1.1.1) (eO lo X c _ g h.1.1.2) (eO hi X c _ g h.1.2)<|eE st X c _ g h.2
theorem eD:∀(es:O.Es) (X:Cx) (c:Md) (xs:List Expr) (ç:Pos),Gd X i P n c->okA es c xs=dh->Jg es=dh->PPs X ç (XZ<|toA es c xs) (Dv<|toA es c xs) (Uy X i (O.wF P n) es)
 |.nil,X,c,xs,ç,g,h,he=>Gw
 |.cons k .nil,X,c,xs,ç,g,h,he=>by cases he
 |.cons k (.cons v r),X,c,xs,ç,g,h,he=>by have h:(okE k c (xs.headD dE)&&(okE v c (xs.tail.headD dE)&&okA r c xs.tail.tail))=dh:=h;rw[bAq,bAq]at h;exact CK (eE k X c _ g h.1) (eE v X c _ g h.2.1)<|eD r X c _ ç g h.2.2 he
theorem eA:∀(ms:O.Es) (X:Cx) (c:Md) (xs:List Expr),Gd X i P n c->okA ms c xs=dh->PA X (toA ms c xs) (tAr X i (O.wF P n) ms (toA ms c xs).length)
 |.nil,X,c,xs,g,h=>L4
 |.cons a as,X,c,xs,g,h=>by have h:(okE a c (xs.headD dE)&&okA as c xs.tail)=dh:=h;rw[bAq]at h;exact FS (eE a X c _ g h.1) (eA as X c _ g h.2)<|Zw ..
theorem eJ:∀(ms:O.Es) (X:Cx) (c:Md) (xs:List Expr),Gd X i P n c->okJ ms c xs=dh->PJ X (toJ ms c xs) (tJs X i (O.wF P n) ms)
 |.nil,X,c,xs,g,h=>HV
 |.cons a as,X,c,xs,g,h=>by
  have h:((Ab a||okE a c (kid (xs.headD dE) 0))&&okJ as c xs.tail)=dh:=h;rw[bAq]at h;have hr:=eJ as X c _ g h.2;show PJ X ((if Ab a then toX a c (xs.headD dE)else .FormattedValue (toX a c<|kid (xs.headD dE) 0) (-1) dg (xs.headD dE).pos)::toJ as c xs.tail) _;cases z:Ab a with
  |true =>let⟨s,rfl⟩:=Rh z;exact O9 Hm hr rfl
  |false =>rw[z]at h;exact O9 (LF<|eE a X c _ g h.1) hr rfl
theorem eO:∀(m:O.Oe) (X:Cx) (c:Md) (x:Expr),Gd X i P n c->okO m c x=dh->PO X (toO m c x) (tOx X i (O.wF P n) m)
 |.none,X,c,x,g,h=>FT
 |.some e,X,c,x,g,h=>E7<|eE e X c _ g h
theorem eT:∀(m:O.Tt) (X:Cx) (c:Md) (x:Expr),Gd X i P n c->okT m c x=dh->PT X (toT m c x) (tTt X i (O.wF P n) m)/\((Zq m||ZD m)=dh->PW X (toT m c x) (tTt X i (O.wF P n) m))
 |.yes,X,c,x,g,h=>nomatch h
 |.val e,X,c,x,g,h=>by
  refine⟨?_,λz=>(by cases z)⟩;have h:(okE e c x&&(OU e||Qj e))=dh:=h;rw[bAq]at h;have he:=eE e X c x g h.1;cases z:OU e with
  |true=>exact IU he (by cases e<;>first|(cases z;done)|exact λ_=>rfl) g.K
  |false =>
   have h2:=h.2;rw[z]at h2;cases e with
   |cmp o a b =>have h:(okE a c (kid x 0)&&okE b c (kid x 1)&&(!XU o||NU b))=dh:=h.1;rw[bAq,bAq]at h;exact(Nk g h.2 (eE a X c _ g h.1.1)<|eE b X c _ g h.1.2).2
   |chain o1 o2 a b d =>have h:(okE a c (kid x 0)&&okE b c (kid x 1)&&okE d c (kid x 2) && !XU o1 && !XU o2)=dh:=h.1;rw[bAq,bAq,bAq,bAq,Ĝ,Ĝ]at h;let⟨⟨⟨⟨h1,h2⟩,h3⟩,h4⟩,h5⟩:=h;exact(JM g h4 h5 (eE a X c _ g h1) (eE b X c _ g h2)<|eE d X c _ g h3).2
   |_=>cases h2
 |.not t,X,c,x,g,h=>⟨LN (eT t X c _ g h).1,λz=>(by cases z)⟩
 |.and a b,X,c,x,g,h=>by
  have h:(okT a c (kid x 0)&&okT b c (rest (Zq b) x)&&(!Zq b||(rest (Zq b) x).pos==x.pos))=dh:=h;rw[bAq,bAq]at h;have h2:=eT b X c _ g h.1.2;let⟨y,ys,e,h3⟩:=AW h.2 h2.1 h2.2;have h4:PW X (toT (.and a b) c x)<|tTt X i (O.wF P n)<|.and a b:=by show PW X (.BoolOp .And (toT a c (kid x 0)::flat (Zq b) (toT b c<|rest (Zq b) x)) x.pos) _;rw[e];exact Ic (eT a X c _ g h.1.1).1 h3
  exact⟨h4.pt,λ_=>h4⟩
 |.or a b,X,c,x,g,h=>by
  have h:(okT a c (kid x 0)&&okT b c (rest (ZD b) x)&&(!ZD b||(rest (ZD b) x).pos==x.pos))=dh:=h;rw[bAq,bAq]at h;have h2:=eT b X c _ g h.1.2;let⟨y,ys,e,h3⟩:=BL h.2 h2.1 h2.2;have h4:PW X (toT (.or a b) c x)<|tTt X i (O.wF P n)<|.or a b:=by show PW X (.BoolOp .Or (toT a c (kid x 0)::flat (ZD b) (toT b c<|rest (ZD b) x)) x.pos) _;rw[e];exact QK (eT a X c _ g h.1.1).1 h3
  exact⟨h4.pt,λ_=>h4⟩
theorem eI:∀(m:O.It) (X:Cx) (c:Md) (x tg:Expr),Gd X i P n c->∀(b:Bool),(b=dh->∃es k p,tg=.Tuple es k p)->(b=di->∃y p,tg=.Name y p)->okI m c x b=dh->PI X tg (toI m c x) (tIt X i (O.wF P n) m)/\∀y,ď (toI m c x) X.env y=pure y
 |.seq e,X,c,x,tg,g,b,t1,t2,h=>⟨LX g.K<|eE e X c _ g h,IV _ _ _ _⟩
 |.chars e,X,c,x,tg,g,b,t1,t2,h=>nomatch h
 |.range a,X,c,x,tg,g,b,t1,t2,h=>by have h:(c.gl "range" && okE a c (kid x 1))=dh:=h;rw[bAq]at h;exact⟨BN (g.gl h.1) (g.bl _<|by simp[blts]) (eE a X c _ g h.2)<|Zw ..,λ_=>rfl⟩
 |.range2 a d,X,c,x,tg,g,b,t1,t2,h=>by have h:(c.gl "range" && okE a c (kid x 1)&&okE d c (kid x 2))=dh:=h;rw[bAq,bAq]at h;exact⟨Bs (g.gl h.1.1) (g.bl _<|by simp[blts]) (eE a X c _ g h.1.2) (eE d X c _ g h.2) (by rw[Zw,Zw];rfl)<|Zw ..,λ_=>rfl⟩
 |.zip a d,X,c,x,tg,g,b,t1,t2,h=>nomatch h
 |.enum e,X,c,x,tg,g,b,t1,t2,h=>by have h:(b&&c.gl "enumerate" && okE e c (kid x 1))=dh:=h;rw[bAq,bAq]at h;let⟨es,k,p,rfl⟩:=t1 h.1.1;exact⟨Er g.K (g.gl h.1.2) (g.bl _<|by simp[blts]) (eE e X c _ g h.2) (by rw[Zw];rfl),λ_=>rfl⟩
 |.items e,X,c,x,tg,g,b,t1,t2,h=>nomatch h
 |.rev e,_,_,_,_,_,_,_,_,h=>nomatch h
end
def Bp(g:Gd X i P n c){m:Nat}{t:O.Tt}(h:okE (.comp ö m p it t e) c x=dh) :
  PE X (toX (.comp ö m p it t e) c x) (tE X i (O.wF P n)<|.comp ö m p it t e)/\
   ∀(y:Str) (py Ζ:Pos) (j:Nat),X.N[j]?=df y->L2.Loc X.env.scope y->(X.fn y=dh\/X.env.scope.names.lookup y=df .local)->ş (toX (.comp ö m p it t e) c x) (df<|.Name y py) Ζ.line X.env=pure dh->PS X (.Assign [.Name y py] (toX (.comp ö m p it t e) c x) Ζ) (tSt X i (O.wF P n)<|.set (.one j)<|.comp ö m p it t e):=by
 have h:((OZ m p&&(YB<|kid x 1).length==m)&&c.cm&&Yk (scp x) c.sc c.N (YB<|kid x 1) ö&&(scp x).kind == .function&&okI it c (kid x 2) (!ZA p)&&okE e (c.blk (scp x) (YB<|kid x 1) ö) (kid x 0)&&(UO t||okT t (c.blk (scp x) (YB<|kid x 1) ö) (kid x 3)))=dh:=h;rw[bAq,bAq,bAq,bAq,bAq,bAq]at h;let⟨⟨⟨⟨⟨⟨h1,h2⟩,h3⟩,h4⟩,h5⟩,h6⟩,h7⟩:=h;rw[bAq,beq_iff_eq]at h1;let⟨h1,rfl⟩:=h1;have hk:=eq_of_beq h4;let⟨t1,t2⟩:=Me (c:=c.blk (scp x) (YB<|kid x 1) ö) p<|kid x 1;let⟨a1,a2⟩:=eI it X c (kid x 2) (toP p (c.blk (scp x) (YB<|kid x 1) ö)<|kid x 1) g (!ZA p) t1 t2 h5;exact Kz g h2 h3 hk h1 a1 a2 (g.pt h2 h3 hk h1 _)
  (λcl C s H ex=>pe0<|eE e _ _ _ (g.blk h3 hk cl C s H ex) h6) (λcl C s H ex=>QR λz=>(eT t _ _ _ (g.blk h3 hk cl C s H ex)<|by rw[z]at h7;exact h7).1)
abbrev dS:ĭ:=.Pass ⟨0,0,0,0⟩
abbrev stE:ĭ->List Expr
 |.Assign ts v _=>v::ts
 |.AugAssign t _ v _=>[v,t]
 |.For t it _ _ _=>[t,it]
 |.While t _ _ _=>[t]
 |.If t _ _ _=>[t]
 |.Expr e _=>[e]
 |.Return (df e) _=>[e]
 |.Raise (df e) _ _=>[e]
 |_=>[]
abbrev ke(s:ĭ)(j:Nat):Expr:=(stE s).getD j dE
abbrev stB:ĭ->List ĭ
 |.For _ _ b _ _=>b
 |.While _ b _ _=>b
 |.If _ b _ _=>b
 |.Try b _ _ _ _=>b
 |_=>[]
abbrev stO:ĭ->List ĭ
 |.If _ _ b _=>b
 |_=>[]
abbrev stH:ĭ->List ExceptHandler
 |.Try _ hs _ _ _=>hs
 |_=>[]
abbrev dH:ExceptHandler:=.ExceptHandler dg dg [] ⟨0,0,0,0⟩
abbrev hT:ExceptHandler->Expr
 |.ExceptHandler (df e) _ _ _=>e
 |_=>dE
abbrev hB:ExceptHandler->List ĭ
 |.ExceptHandler _ _ b _=>b
abbrev hP:ExceptHandler->Pos
 |.ExceptHandler _ _ _ p=>p
abbrev Md.hot(c:Md):Md:={c with cm:=di}
abbrev Rx(t:Option Nat)(e:O.E)(c:Md)(y:ĭ):ĭ:=match t with
 |none=>.Expr (toX e c<|ke y 0) y.pos
 |some j=>.Assign [.Name (c.nmOf j) (ke y 1).pos] (toX e c<|ke y 0) y.pos
mutual
noncomputable def toS:O.S->Md->ĭ->ĭ
 |.set p a,c,s=>.Assign [toP p c<|ke s 1] (toX a c<|ke s 0) s.pos
 |.setIdx a j e,c,s=>.Assign [.Subscript (toX a c<|kid (ke s 1) 0) (toX j c<|kid (ke s 1) 1) (ke s 1).pos] (toX e c<|ke s 0) s.pos
 |.setPair a i b j e,c,s=>.Assign [.Tuple [.Subscript (toX a c<|kid (kid (ke s 1) 0) 0) (toX i c<|kid (kid (ke s 1) 0) 1) (kid (ke s 1) 0).pos,.Subscript (toX b c<|kid (kid (ke s 1) 1) 0) (toX j c<|kid (kid (ke s 1) 1) 1) (kid (ke s 1) 1).pos] (num<|ke s 1) (ke s 1).pos] (toX e c<|ke s 0) s.pos
 |.setFld o f e,c,s=>.Assign [.Attribute (toX o c<|kid (ke s 1) 0) (fo f) (ke s 1).pos] (toX e c<|ke s 0) s.pos
 |.augVar j op e,c,s=>.AugAssign (.Name (c.nmOf j) (ke s 1).pos) (Oj op) (toX e c<|ke s 0) s.pos
 |.augFld o f op n,c,s=>.AugAssign (.Attribute (toX o c<|kid (ke s 1) 0) (fo f) (ke s 1).pos) (Oj op) (.Constant (.int n) (num<|ke s 0) (ke s 0).pos) s.pos
 |.augIdx a j op n,c,s=>.AugAssign (.Subscript (toX a c<|kid (ke s 1) 0) (toX j c<|kid (ke s 1) 1) (ke s 1).pos) (Oj op) (.Constant (.int n) (num<|ke s 0) (ke s 0).pos) s.pos
 |.expr e,c,s=>.Expr (toX e c<|ke s 0) s.pos
 |.ret e,c,s=>.Return (df<|toX e c<|ke s 0) s.pos
 |.retN,_,s=>.Return dg s.pos
 |.ite t a b,c,s=>.If (toT t c<|ke s 0) (toSs a c<|stB s) (toSs b c<|stO s) s.pos
 |.whl t b,c,s=>.While (toT t c<|ke s 0) (toSs b c<|stB s) [] s.pos
 |.for p it b,c,s=>.For (toP p c<|ke s 0) (toI it c<|ke s 1) (toSs b c<|stB s) [] s.pos
 |.forI dh p e b,c,s=>.For (toP p c<|ke s 0) (toX e c<|ke s 1) (toSs b c<|stB s) [] s.pos
 |.forI di p e b,c,s=>.For (toP p c<|ke s 0) (.Call (.Attribute (toX e c<|kid (kid (ke s 1) 0) 0) "items" (kid (ke s 1) 0).pos) [] [] (ke s 1).pos) (toSs b c<|stB s) [] s.pos
 |.brk,_,s=>.Break s.pos
 |.cnt,_,s=>.Continue s.pos
 |.pass,_,s=>.Pass s.pos
 |.raise C as,c,s=>.Raise (df<|.Call (.Name (fo C) (kid (ke s 0) 0).pos) (toA as c (sub<|ke s 0).tail) [] (ke s 0).pos) dg s.pos
 |.try t e hs,c,s=>.Try [Rx t e c<|(stB s).headD dS] (toH hs c<|stH s) [] [] s.pos
 |_,_,s=>s
noncomputable def toH:O.Hn->Md->List ExceptHandler->List ExceptHandler
 |.nil,_,_=>[]
 |.cons K nm b r,c,xs=>.ExceptHandler (df<|.Name (fo K) (hT<|xs.headD dH).pos) (nm.map c.nmOf) (toSs b c.hot<|hB<|xs.headD dH) (hP<|xs.headD dH)::toH r c xs.tail
noncomputable def toSs:O.Ss->Md->List ĭ->List ĭ
 |.nil,_,_=>[]
 |.cons m ms,c,xs=>toS m c (xs.headD dS)::toSs ms c xs.tail
end
abbrev GN:O.E->Bool
 |.idx _ _=>dh
 |.var _=>dh
 |.fld _ _=>dh
 |_=>di
abbrev Nj(c:Md)(j:Nat):Bool:=fm (j<c.N.length)&&c.loc (c.nmOf j)
abbrev okP(p:O.Pt)(c:Md):Bool:=match p with
 |.one j=>Nj c j
 |.many js=>js.all<|Nj c
 |.nest j js=>Nj c j&&js.all (Nj c)
abbrev Dg:O.E->Bool
 |.tup _=>dh
 |.key _=>dh
 |_=>di
abbrev Oy:O.E->Bool
 |.comp _ _ _ _ _ _=>dh
 |_=>di
abbrev swT(c:Md)(tg v:Expr):Bool:=match v,tg with
 |.ListComp _ _ s ç,.Name t p=>(if c.sc.kind.isAnnotationScope then ScopeKind.function else c.sc.kind) == .function&&c.sc.names.lookup t==df .local&&p.line==ç.line && !(s.names.any λ(n,k)=>n==t&&(k == .local||k == .cell))
 |_,_=>di
abbrev Ak:O.Bop->Bool
 |.add=>dh
 |.sub=>dh
 |_=>di
abbrev Si(c:Md)(j:Nat):Bool:=fm (j<c.N.length)&&c.sc.names.lookup (c.nmOf j)==df .local
abbrev RB(c:Md):Option Nat->Bool
 |none=>dh
 |some j=>Si c j
abbrev QF:O.Ss->Bool
 |.nil=>di
 |_=>dh
abbrev Q6:O.Hn->Bool
 |.nil=>dh
 |_=>di
mutual
noncomputable def okS:O.S->Md->ĭ->Bool
 |.set p a,c,s=>okP p c&&okE a c (ke s 0)&&(ZA p || !Dg a)&&(ZA p||c.cm)
 |.setIdx a j e,c,s=>okE e c (ke s 0)&&okE a c (kid (ke s 1) 0)&&okE j c (kid (ke s 1) 1)
 |.setFld o f e,c,s=>c.fl.contains f&&okE o c (kid (ke s 1) 0)&&okE e c (ke s 0)
 |.augFld o f op _,c,s=>c.fl.contains f&&okE o c (kid (ke s 1) 0)&&Ak op
 |.augIdx a j op _,c,s=>okE a c (kid (ke s 1) 0)&&okE j c (kid (ke s 1) 1)&&Ak op
 |.expr e,c,s=>okE e c (ke s 0) && !Oy e
 |.ret e,c,s=>okE e c<|ke s 0
 |.retN,_,_=>dh
 |.ite t a b,c,s=>okT t c (ke s 0)&&okSs a c (stB s)&&okSs b c (stO s)
 |.whl t b,c,s=>okT t c (ke s 0)&&okSs b c (stB s)&&c.cm
 |.for p it b,c,s=>okP p c&&okI it c (ke s 1) (!ZA p)&&okSs b c (stB s)&&c.cm
 |.forI dh p e b,c,s=>okP p c&&GN e&&okE e c (ke s 1)&&okSs b c (stB s)&&c.cm
 |.forI di p e b,c,s=>okP p c && !ZA p&&okE e c (kid (kid (ke s 1) 0) 0)&&YI (toX e c<|kid (kid (ke s 1) 0) 0)&&((kid (ke s 1) 0).pos.endLine==(ke s 1).pos.line)&&okSs b c (stB s)&&c.cm
 |.never,_,_=>dh
 |_,_,_=>di
noncomputable def okH:O.Hn->Md->List ExceptHandler->Bool
 |.nil,_,_=>di
 |.cons K nm b r,c,xs=>(c.xs.contains K||K == "ShutError")&&c.gn K && !c.xs.isEmpty&&RB c nm&&QF b&&okSs b c.hot (hB<|xs.headD dH)&&Q6 r
noncomputable def okSs:O.Ss->Md->List ĭ->Bool
 |.nil,_,_=>dh
 |.cons m ms,c,xs=>okS m c (xs.headD dS)&&okSs ms c xs.tail
end
structure Gs(X:Cx)(i:Inf)(P:O.Pg)(n:Nat)(c:Md):Prop extends Gd X i P n c where
 fn:∀x,c.loc x=dh->X.fn x=dh\/X.env.scope.names.lookup x=df .local
 own:c.cm=dh->Ž (â X.prog X.w) X.A X.env X.xe
 stk:c.cm=dh->X.stack=X.env::X.outer
variable {X:Cx}{i:Inf}{P:O.Pg}{n:Nat}{c:Md}
def Gs.nm1(g:Gs X i P n c){j:Nat}(h:Nj c j=dh):X.N[j]?=df (c.nmOf j)/\L2.Loc X.env.scope (c.nmOf j)/\(X.fn (c.nmOf j)=dh\/X.env.scope.names.lookup (c.nmOf j)=df .local):=by unfold Nj at h;rw[bAq,fj]at h;exact⟨Cb g.N h.1,g.loc h.2,g.fn _ h.2⟩
variable {p:O.Pt}
def QM(g:Gs X i P n c)(h:okP p c=dh):GM (DF X c) p:=by
 cases p with
 |one j=>exact g.nm1 h
 |many js=>exact λj hj=>g.nm1<|ù.mp h j hj
 |nest j js =>have h:(Nj c j&&js.all (Nj c))=dh:=h;rw[bAq]at h;exact⟨g.nm1 h.1,λk hk=>g.nm1<|ù.mp h.2 k hk⟩
variable {x:Expr}
def U7(g:Gs X i P n c)(cO:c.cm=dh)(h:okP p c=dh):PG X (toP p c x)<|gPt i p:=Hg g.K (by rw[g.N];exact g.nd) (g.calm cO) (QM g h)
variable {tg:Expr}
def W5{l:Nat}{env:Env}(a:O.E)(x:Expr)(hs:env.scope=c.sc):ş (toX a c x) (df tg) l env=pure (swT c tg<|toX a c x):=by
 cases a with
 |comp ö m p it t e =>
  cases tg with
  |Name t q =>unfold ş swT Env.blockKind Env.kindOf;rw[hs];rfl
  |_=>rfl
 |_=>rfl
def HI(p:O.Pt)(a:O.E)(x y:Expr)(env:Env)(h:(ZA p || !Dg a)=dh):υ [toP p c x] (toX a c y) env=pure dg:=by
 cases p with
 |one j=>cases a<;>rfl
 |many js=>cases a<;>first|rfl|cases h
 |nest j js=>cases a<;>first|rfl|cases h
def Dp(p:O.Pt)(x:Expr)(env:Env):(Ė [toP p c x] env).map (·.2)=[Ű (toP p c x) env]:=by cases p<;>rfl
def L1{a:O.E}(h:swT c tg (toX a c x)=dh):∃ö m p it t e,a=.comp ö m p it t e:=by
 cases a with
 |comp ö m p it t e=>exact⟨_,_,_,_,_,_,rfl⟩
 |_=>cases h
def EK(y:O.E){b:Expr}{ç:Pos}{env:Env}:∀v,Ű (.Subscript b (toX y c x) ç) env v=(do
    let ov<-ņ [v] (eval b env)
    let iv<-ņ [v,ov] (eval (toX y c x) env)
    ο ç
    ņ [v,ov,iv] (ae ov iv v)
    cP [v,ov,iv] []):=by
 intro v;cases y<;>rfl
def GE{op:O.Bop}(h:Ak op=dh):Cd X (Oj op)<|rAS op:=by
 cases op with
 |add =>
  intro Á s σ H x y u v Q I rx ry q;let⟨a,b,rfl,rfl,q⟩:=q;rcases q with⟨_,q⟩|⟨z,_⟩
  .exact Pe Á s σ H _ _ u v Q I rx ry ⟨a,b,rfl,rfl,q⟩
  .cases z
 |sub =>
  intro Á s σ H x y u v Q I rx ry q;let⟨a,b,rfl,rfl,q⟩:=q;rcases q with⟨z,_⟩|⟨_,q⟩
  .cases z
  .exact LR Á s σ H _ _ u v Q I rx ry ⟨a,b,rfl,rfl,q⟩
 |_=>cases h
def Cy:PGet X<|Dk X.K:=λÁ s σ H x y v u Q I rx ry h=>by
 let⟨p,xs,i,z,rfl,rfl,hq,he,q⟩:=h;cases rx;let⟨t,rfl⟩:=ry;let⟨ð,r,pl,hz⟩:=I.list hq;let⟨j,h1,h2,h3,h4,h5⟩:=W4 he;let⟨w,ew,ao⟩:=r.get h2;have hl:=r.length;have hn:=Xl;have fin:EP X Á σ Q w s:=⟨z,H,I,ao,q⟩
 by_cases h0:0<=i
 .have hj:i.toNat=j:=by
   rw[aM h0 h5]at h1;exact ï h1
  exact wpAny_getItem_list pl.isList h0 (by lia) (by rw[hj];simpa using ew) fin
 .have hj:(i+(ð.toArray.size:Int)).toNat=j:=by
   rw[ah (by lia) h4]at h1;rw[É,<-hl];exact ï h1
  exact cU pl.isList (by lia) (by rw[É]<;>lia) (by lia) (by rw[hj];simpa using ew) fin
def Cq(hu:X.A.units+1<Ĥ):PGet X C7:=λÁ s σ H x y v u Q I rx ry h=>by let⟨a,z,rfl,g,q⟩:=h;cases rx;exact KJ hu I g ry λw s' I' r=>⟨z,H,I',r,q⟩
def PGet.or{r r':R2}(h:PGet X r)(h':PGet X r'):PGet X λx y H Q=>r x y H Q\/r' x y H Q:=λÁ s σ H o j ov jv Q I ro rj q=>by
 rcases q with q|q
 .exact h Á s σ H o j ov jv Q I ro rj q
 .exact h' Á s σ H o j ov jv Q I ro rj q
def L9{G:O.Hs}{H:Hp}{a:Ì}{u w:O.Val}{y:V}{K:Frag}{Q:VK}(g:RH i G H)(ry:RV i.K H u y)(e:O.d8 G (.ref a) u=df w)(q:∀z,RV i.K H w z->Q z H):Dk K (.ref a) y H Q\/C7 (.ref a) y H Q:=by
 replace e:(match G a with|some (.lst xs)=>(O.eY u).bind (O.atI xs)|some (.dct kvs)=>if O.dM u then O.dP kvs u else dg|some (.frz kvs)=>if O.dM u then O.dP kvs u else dg|some (.dtp kvs)=>if O.isKeyT u then O.dP kvs u else dg|_=>dg)=df w:=e
 cases z:G a with
 |none=>rw[z]at e;cases e
 |some o =>
  rw[z]at e;cases o with
  |lst xs =>let⟨k,hk,e⟩:=æ.mp e;cases Zy hk;let⟨vs,h1,h2⟩:=g a _ z;let⟨t,h3,h4⟩:=WW h2 e;exact .inl ⟨a,vs,k,t,rfl,ry.int_inv,eS.of h1,h3,q t h4⟩
  |dct kvs =>let⟨hk,e⟩:=Zn (show(if O.dM u then O.dP kvs u else dg)=df w from e);let⟨ps,h1,h2⟩:=g a _ z;let⟨d,kr,rfl⟩:=dI hk ry;let⟨t,hx,rv⟩:=(h2.look kr).1 w e;exact .inr ⟨a,t,rfl,by rw[<-hx];exact DGet.k h1,q t rv⟩
  |frz kvs =>let⟨hk,e⟩:=Zn (show(if O.dM u then O.dP kvs u else dg)=df w from e);let⟨ob,ps,h1,h2⟩:=g a _ z;let⟨d,kr,rfl⟩:=dI hk ry;let⟨t,hx,rv⟩:=(h2.look kr).1 w e;exact .inr ⟨a,t,rfl,.inl ⟨ps,d,.inr ⟨ob,h1⟩,rfl,hx.symm⟩,q t rv⟩
  |dtp kvs =>let⟨hk,e⟩:=Zn (show(if O.isKeyT u then O.dP kvs u else dg)=df w from e);let⟨ps,h1,h2⟩:=g a _ z;let⟨k1,k2,b,rfl,rfl,hb⟩:=WO hk ry;let⟨t,hx,rv⟩:=(h2.look).1 w e;exact .inr ⟨a,t,rfl,by rw[<-hx];exact DGet.t h1 hb,q t rv⟩
  |_=>cases e
def HY(e:O.E)(x:Expr):∀ov iv new,augStore (toX e c x) ov iv new=(do ņ [new,ov,iv] (ae ov iv new);cP [new,ov,iv] [];pure .next):=by intro ov iv new;cases e<;>rfl
def Au{Φ:O.Fs}{a j:Expr}{ma mj:O.E}{op:O.Bop}{k:Int}{kk:Nat}{ç bL ľ:Pos}(hK:X.K=i.K)(hu:X.A.units+1<Ĥ)(h:Ak op=dh)(ha:PE X a<|tE X i Φ ma)(hj:PE X j<|tE X i Φ mj)
  (hs:∀ov iv new,augStore j ov iv new=(do ņ [new,ov,iv] (ae ov iv new);cP [new,ov,iv] [];pure .next)) :
  PS X (.AugAssign (.Subscript a j bL) (Oj op) (.Constant (.int k) kk ľ) ç) (tSt X i Φ<|.augIdx ma mj op k) :=
 (ED ha hj (PGet.or Cy<|Cq hu) OP (GE h) (PSet.or M7<|NC hu) hs).imp λD σ H ⟨env,G,N,R,B,C,Xe,p,w,c⟩=>by
  refine one p.pre w λv G1 H1 x k1 p1 rx q=>?_;refine one p1 q λu G2 H2 y k2 p2 ry q=>?_;let⟨t,e1,q2⟩:=dq q;clear q;let⟨z,e2,q3⟩:=dq q2;clear q2;let⟨G3,e3,q4⟩:=dq q3;clear q3;have hr:∃b,v=.ref b:=by
   cases v with
   |ref b=>exact⟨b,rfl⟩
   |_=>cases e3
  let⟨b,rfl⟩:=hr;cases rx.ref_inv;have ix2:∀Q:VK,(∀t',RV i.K H2 t t'->Q t' H2)->Dk X.K (.ref b) y H2 Q\/C7 (.ref b) y H2 Q:=λQ hQ=>L9 p2.hp ry e1 hQ;refine ix2 _ λt' rt=>?_;let⟨n1,n2,rfl,e0,hz⟩:=Ny e2;cases e0;cases rt.int_inv;have fin:∀m:Int,z=.int m->BZ (.ref b) y (.int m) H2 λH6=>D.nx σ H6:=λm hm=>by subst hm;exact D6 p2.hp (.ref b) ry (.int m) e3 λH3 k3 g3=>c.nx env σ _ _ ((k1.trans k2).trans k3) g3 (p2.en.keep k3) q4
  rcases hz with⟨eo,hz⟩|⟨eo,hz⟩
  .exact⟨n1,k,rfl,rfl,.inl ⟨eo,fin _ hz⟩⟩
  .exact⟨n1,k,rfl,rfl,.inr ⟨eo,fin _ hz⟩⟩
def E4(t v:Expr)(p:Pos)(env:Env)(h:(∃a b q,t=.Subscript a b q)\/(∃a b q,t=.Attribute a b q)):υ [t] v env=pure dg:=by rcases h with⟨a,b,q,rfl⟩|⟨a,b,q,rfl⟩<;>rfl
variable {a:O.E} {x:Expr}
def Gb{t:Option Expr}{l:Nat}{env:Env}(h:(!Oy a)=dh):ş (toX a c x) t l env=pure di:=by
 cases a with
 |comp ö m p it tt e=>cases h
 |_=>rfl
def Cg{tg:Expr}(h:∀y q,tg≠.Name y q):swT c tg (toX a c x)=di:=by
 cases a with
 |comp ö m p it tt e =>
  cases tg with
  |Name y q=>exact fk rfl<|h y q
  |_=>rfl
 |_=>rfl
def Ll(g:Gs X i P n c){p:O.Pt}(hc:(ZA p||c.cm)=dh)(h:okP p c=dh):PG X (toP p c x)<|gPt i p:=by
 by_cases cO:c.cm=dh
 .exact U7 g cO h
 .cases p with
  |one j =>let⟨h1,h2,h3⟩:=g.nm1 h;exact Os (by rw[g.N];exact g.nd) h1 h2 h3
  |many js=>exact fk hc cO
  |nest j js=>exact fk hc cO
mutual
theorem sS:∀(m:O.S) (X:Cx) (c:Md) (s:ĭ),Gs X i P n c->okS m c s=dh->PS X (toS m c s) (tSt X i (O.wF P n) m)
 |.set p a,X,c,s,g,h=>by
  have h:(okP p c&&okE a c (ke s 0)&&(ZA p || !Dg a)&&(ZA p||c.cm))=dh:=h;rw[bAq,bAq,bAq]at h;let⟨⟨⟨h1,h2⟩,h3⟩,h4⟩:=h;by_cases hsw:swT c (toP p c<|ke s 1) (toX a c<|ke s 0)=dh
  .obtain⟨ö,k,pt,it,tt,e,rfl⟩:=L1 hsw;cases p with
   |one j =>let⟨q1,q2,q3⟩:=g.nm1 h1;exact(Bp g.toGd h2).2 _ _ _ j q1 q2 q3 (by rw[<-hsw];exact W5 (c:=c) (.comp ö k pt it tt e) (ke s 0) g.sc)
   |many js=>cases hsw
   |nest j js=>cases hsw
  .have hp:PG X (toP p c<|ke s 1)<|gPt i p:=Ll g h4 h1;exact Lh (eE a X c _ g.toGd h2) hp (by rw[ς,W5 a _ g.sc,Bool.eq_false_iff.mpr hsw]) (HI p a _ _ _ h3)<|Dp p _ _
 |.setIdx a j e,X,c,s,g,h=>by have h:(okE e c (ke s 0)&&okE a c (kid (ke s 1) 0)&&okE j c (kid (ke s 1) 1))=dh:=h;rw[bAq,bAq]at h;have ha:=eE a X c _ g.toGd h.1.2;have hj:=eE j X c _ g.toGd h.2;exact AY g.K (eE e X c _ g.toGd h.1.1) ha hj (Hz ha hj (PSet.or M7<|NC (by have:=g.un;lia))<|EK j) (by rw[ς,W5 e _ g.sc,Cg λy q z=>(by cases z)]) (E4 _ _ (ke s 1).pos _<|.inl ⟨_,_,_,rfl⟩) rfl
 |.setPair a j b k e,X,c,s,g,h=>nomatch h
 |.setFld o f e,X,c,s,g,h=>by have h:(c.fl.contains f&&okE o c (kid (ke s 1) 0)&&okE e c (ke s 0))=dh:=h;rw[bAq,bAq]at h;exact Ay g.K g.kl.A (g.kl.F _ h.1.1) (eE o X c _ g.toGd h.1.2) (eE e X c _ g.toGd h.2) (by rw[W5 e _ g.sc,Cg λy q z=>(by cases z)])
 |.augVar j op e,X,c,s,g,h=>nomatch h
 |.augFld o f op k,X,c,s,g,h=>by have h:(c.fl.contains f&&okE o c (kid (ke s 1) 0)&&Ak op)=dh:=h;rw[bAq,bAq]at h;exact U9 g.K g.kl.A (g.kl.F _ h.1.1) (GE h.2)<|eE o X c _ g.toGd h.1.2
 |.expr e,X,c,s,g,h=>by have h:(okE e c (ke s 0) && !Oy e)=dh:=h;rw[bAq]at h;exact F7 (eE e X c _ g.toGd h.1)<|Gb h.2
 |.ret e,X,c,s,g,h=>LZ<|eE e X c _ g.toGd h
 |.retN,X,c,s,g,h=>FM
 |.ite t a b,X,c,s,g,h=>by have h:(okT t c (ke s 0)&&okSs a c (stB s)&&okSs b c (stO s))=dh:=h;rw[bAq,bAq]at h;exact HM (eT t X c _ g.toGd h.1.1).1 (sSs a X c _ g h.1.2)<|sSs b X c _ g h.2
 |.whl t b,X,c,s,g,h=>by have h:(okT t c (ke s 0)&&okSs b c (stB s)&&c.cm)=dh:=h;rw[bAq,bAq]at h;exact IF (g.own h.2) (eT t X c _ g.toGd h.1.1).1<|sSs b X c _ g h.1.2
 |.for p it b,X,c,s,g,h=>by have h:(okP p c&&okI it c (ke s 1) (!ZA p)&&okSs b c (stB s)&&c.cm)=dh:=h;rw[bAq,bAq,bAq]at h;let⟨⟨⟨h1,h2⟩,h3⟩,h4⟩:=h;let⟨t1,t2⟩:=Me (c:=c) p<|ke s 0;let⟨a1,a2⟩:=eI it X c (ke s 1) (toP p c<|ke s 0) g.toGd (!ZA p) t1 t2 h2;exact Ia (g.own h4) (g.calm h4) a1 (U7 g h4 h1) (sSs b X c _ g h3) a2
 |.forI dh p e b,X,c,s,g,h=>by have h:(okP p c&&GN e&&okE e c (ke s 1)&&okSs b c (stB s)&&c.cm)=dh:=h;rw[bAq,bAq,bAq,bAq]at h;let⟨⟨⟨⟨h1,h2⟩,h3⟩,h6⟩,h7⟩:=h;refine EI (g.own h7) (g.calm h7) (eE e X c _ g.toGd h3) (U7 g h7 h1) (sSs b X c _ g h6) λ_=>?_;cases e<;>first|rfl|cases h2
 |.forI di p e b,X,c,s,g,h=>by have h:(okP p c && !ZA p&&okE e c (kid (kid (ke s 1) 0) 0)&&YI (toX e c<|kid (kid (ke s 1) 0) 0)&&((kid (ke s 1) 0).pos.endLine==(ke s 1).pos.line)&&okSs b c (stB s)&&c.cm)=dh:=h;rw[bAq,bAq,bAq,bAq,bAq,bAq]at h;let⟨⟨⟨⟨⟨⟨h1,h2⟩,h3⟩,h4⟩,h5⟩,h6⟩,h7⟩:=h;let⟨es,k,q,et⟩:=(Me (c:=c) p<|ke s 0).1 h2;have hg:=U7 (x:=ke s 0) g h7 h1;show PS X (.For (toP p c<|ke s 0) _ _ _ _) _;rw[et]at hg ⊢;exact Gx (g.own h7) (g.calm h7) (eE e X c _ g.toGd h3) hg (sSs b X c _ g h6) (Ys h4 _ _) h5 λ_=>rfl
 |.never,X,c,s,g,h=>Dw
 |.brk,X,c,s,g,h=>nomatch h
 |.cnt,X,c,s,g,h=>nomatch h
 |.pass,X,c,s,g,h=>nomatch h
 |.raise C as,X,c,s,g,h=>nomatch h
 |.try t e (.cons K nm b .nil),X,c,s,g,h=>nomatch h
 |.try t e (.cons K nm b<|.cons _ _ _ _),X,c,s,g,h=>nomatch h
 |.try t e .nil,X,c,s,g,h=>nomatch h
 |.augIdx a j op k,X,c,s,g,h=>by have h:(okE a c (kid (ke s 1) 0)&&okE j c (kid (ke s 1) 1)&&Ak op)=dh:=h;rw[bAq,bAq]at h;exact Au g.K (by have:=g.un;lia) h.2 (eE a X c _ g.toGd h.1.1) (eE j X c _ g.toGd h.1.2)<|HY j _
theorem sSs:∀(ms:O.Ss) (X:Cx) (c:Md) (xs:List ĭ),Gs X i P n c->okSs ms c xs=dh->PSs X (toSs ms c xs) (tBl X i (O.wF P n) ms)
 |.nil,X,c,xs,g,h=>Lv
 |.cons m ms,X,c,xs,g,h=>by have h:(okS m c (xs.headD dS)&&okSs ms c xs.tail)=dh:=h;rw[bAq]at h;exact Gf (sS m X c _ g h.1)<|sSs ms X c _ g h.2
end
abbrev OD(N ps:List Str)(sc:Ů):Bool :=
 sc.kind == .function && !sc.isCoroutine && !sc.isGenerator&&decide N.Nodup&&(N.take ps.length==ps)&&ps.all (λx=>sc.names.lookup x==df .local||sc.names.lookup x==df .cell)&&sc.names.all λy=>y.2 != .free
variable {ps:List Str}
def P7{N:List Str}{sc:Ů}(h:OD N ps sc=dh):FnScope N ps sc:=by
 simp only[OD,bAq,Ĝ,fj,ù]at h;let⟨⟨⟨⟨⟨⟨h1,h2⟩,h3⟩,h4⟩,h5⟩,h6⟩,h7⟩:=h;refine⟨eq_of_beq h1,h2,h3,h4,eq_of_beq h5,λx hx=>?_,λy hy=>?_⟩
 .simpa using h6 x hx
 .simpa using h7 y hy
structure Ds where
 st:ĭ
 N:List Str
 ps:List Str
 d:O.Fn
structure Mt where
 C:String
 m:String
 qual:String
 x:Ds
structure Tb where
 fs:List<|String×Ds
 ms:List Mt
 cs:List<|String×O.Val
 cl:List String
 fl:List String
 xs:List String
abbrev Tb.md(T:Tb)(x:Ds):Md:={N:=x.N,sc:=Zt x.st,cs:=T.cs,fs:=T.fs.map (·.1),cm:=dh,cl:=T.cl,ms:=T.ms.map λy=>(y.C,y.m),fl:=T.fl,xs:=T.xs}
abbrev Ds.test(T:Tb)(x:Ds):Bool :=
 OD x.N x.ps (Zt x.st)&&okSs x.d.body (T.md x) (ZR x.st)&&x.ps.length==x.d.ar&&x.N.length==x.d.sz&&fm (x.d.ar<=x.d.sz)
structure Ds.Ok(T:Tb)(x:Ds):Prop where
 ok:x.test T=dh
 eq:toSs x.d.body (T.md x) (ZR x.st)=ZR x.st
variable {pr:ë}{wd:Ă}{mg:Str->Option Â}{base:ċ}{i:Inf}{P:O.Pg}{T:Tb}
abbrev Dst(K:Frag)(mg:Str->Option Â)(f:String)(x:Ds):Prop:=∃fa fd qual,Fun K (fo f) qual x.st fa fd/\mg (fo f)=df (.ref fa)/\Binds K fd x.ps []
structure Mst(i:Inf)(mg:Str->Option Â)(y:Mt)(a fa:Ì):Prop where
 cl:mg (fo y.C)=df (.ref a)
 fn:∃fd,Fun i.K (fo y.m) (fo y.qual) y.x.st fa fd/\Binds i.K fd y.x.ps []
 at_:Meth i.K a (fo y.m) fa
variable {f:String} {fa:Ì} {fd:ķ}
def Uu:dY pr wd i.K mg base (CX1 pr wd) 0 fa fd ps<|spF i P 0 f:=by
 refine⟨λvs H Q E h=>?_,λA outer s H args us vs Q E hr he hb hv h=>?_⟩
 .obtain⟨_,_,_,_,_,_,w,_⟩:=h;rw[O.wF_eq]at w;exact w.elim
 .obtain⟨_,_,_,_,_,_,w,_⟩:=h;rw[O.wF_eq]at w;exact w.elim
variable {n:Nat}
def BD{vs:List O.Val}{h:O.Hs}{Q:O.Q1}{E:O.XQ}(q:O.wF P (n+1) f vs h Q E):∃d,P f=df d/\vs.length=d.ar/\O.wSs (O.wF P n) d.body (d.env vs) h (λ_ g=>Q .non g) Q (λ_ _=>False) (λ_ _=>False) λ_ c g=>E c g:=by rw[O.wF_eq]at q;let⟨d,e,q1,q2⟩:=dq q;exact⟨d,e,q1,by rw[O.wF_eq];exact q2⟩
structure Modu(mg:Str->Option Â)(base:ċ)(i:Inf)(T:Tb):Prop where
 bl:∀x∈blts,mg x=dg
 cst:∀x v,T.cs.lookup x=df v->∃u y,mg (fo x)=df u/\RelV y u/\∀H,RV i.K H v y
 A:ClsA i
 F:∀f,T.fl.contains f=dh->FldOk i f
 cl:∀C a,i.cl C a->mg (fo C)=df (.ref a)
 mkc:∀C,T.cl.contains C=dh->∃a y f,i.ins C=dh/\i.cl C a/\Mk i.K a f/\y∈T.ms/\y.C=C/\y.m = "__init__"/\Mst i mg y a f
 fs:∀f x,(f,x)∈T.fs->Dst i.K mg f x
 ms:∀y,y∈T.ms->∃a f,Mst i mg y a f/\Cls i.K a
 xc:T.xs≠[]->∀C a,i.xc C a->XCls i.K a/\PySem.W.kitOne i.K (.ref a) (.type "ValueError")=df dh
 rs:T.xs≠[]->∀C,T.xs.contains C=dh->∃a,i.xc C a/\PyProof.Rows.OwnCls (fo C) a [.type "ValueError",.type "Exception",.type "BaseException",.type "object"] "ValueError.__new__" mg base
 kn:T.xs≠[]->∀T',(T.xs.contains T'||T' == "ShutError")=dh->∃D,mg (fo T')=df (.ref D)/\∀C a,i.xc C a->PySem.W.kitOne i.K (.ref a) (.ref D)=df (O.eR C T')/\(O.eR C T'=dh->PySem.W.exmOne i.K (.ref a) (.ref D)=df dh)
structure Held(pr:ë)(wd:Ă)(mg:Str->Option Â)(base:ċ)(i:Inf)(P:O.Pg)(T:Tb)(n:Nat):Prop where
 fs:∀f x,(f,x)∈T.fs->Dfo pr wd mg base i P n f
 ms:∀y a f,y∈T.ms->Mst i mg y a f->Dfm pr wd mg base i P n (y.C ++ "." ++ y.m) f
def fn_succ{x:Ds}{nm qual:Str}(M:Modu mg base i T)(hn:Held pr wd mg base i P T n)(F:Fun i.K nm qual x.st fa fd)(hP:P f=df x.d)(ht:x.Ok T):dY pr wd i.K mg base (CX1 pr wd) (2*(n+1)) fa fd x.ps<|spF i P (n+1) f:=by
 let⟨ht,heq⟩:=ht;simp only[Ds.test,bAq,fj]at ht;let⟨⟨⟨⟨h1,h2⟩,h3⟩,h4⟩,h5⟩:=ht;have h3:=eq_of_beq h3;have h4:=eq_of_beq h4;have S:=P7 h1;refine F.ok1 (k:=2*n+1) S (λvs H Q E h=>?_) λΡ A outer s H vs Q E hr hsp hw=>?_
 .obtain⟨args,G,Qm,Em,r,g,w,_⟩:=h;let⟨d,e,q,_⟩:=BD w;rw[hP]at e;cases e;rw[<-r.length,q,h3]
 .obtain⟨args,G,Qm,Em,r,g,w,cn,ex⟩:=hsp;let⟨d,e,q,w⟩:=BD w;rw[hP]at e;cases e;have gd:Gs (Mu (CX1 pr wd) pr wd i.K mg base x.N qual (Zt x.st) fa Ρ A outer s H E) i P n (T.md x) :=
   { K:=rfl,N:=rfl,sc:=rfl,nd:=S.nd,un:=(by have:=hr.un;show(A.deeper _).units+200<Ĥ;lia),calm:=λ_=>rfl,room:=λ_=>hr,bl:=M.bl
     dfs:=λg hg=>(by
       let⟨p,hy,e⟩:=Þ.mp<|ý.mp hg
       subst e
       exact hn.fs p.1 p.2 hy)
     cst:=M.cst
     kl:=⟨M.A,M.F,λC hC=>(by
       let⟨a,y,f,q1,q2,q3,q4,rfl,q6,q7⟩:=M.mkc C hC
       refine⟨a,f,q1,q2,q3,M.cl _ _ q2,?_⟩
       have:=hn.ms y a f q4 q7
       rw[q6]at this
       rwa [show y.C ++ ".__init__" = y.C ++ "." ++ "__init__" by rw[String.append_assoc];rfl]),λC m hC=>(by
       let⟨y,hy,e⟩:=Þ.mp<|ý.mp hC
       cases e
       let⟨a,f,q1,q2⟩:=M.ms y hy
       refine⟨a,f,λb hb=>?_,q2,q1.at_,hn.ms y a f hy q1⟩
       have e1:=M.cl _ _ hb
       rw[q1.cl]at e1
       cases e1
       rfl)⟩
     xl:=λh=>⟨M.xc h,M.rs h,M.kn h⟩
     fn:=λ_ _=>.inl rfl
     own:=λ_=>PassesOwn.leaving
     stk:=λ_=>rfl }
  have hb:=sSs x.d.body _ _ _ gd h2;rw[heq]at hb;refine⟨_,hb,?_⟩;refine⟨x.d.env args,G,(λ_ g=>Qm .non g),Qm,(λ_ _=>False),(λ_ _=>False),(λ_ c g=>Em c g),?_,w,?_⟩
  .refine⟨?_,g,?_⟩
   .have:=REn.start (n:=x.d.sz - x.d.ar) r;unfold L2.start;have e1:x.N.length - vs.length=x.d.sz - x.d.ar:=by rw[h4,<-r.length,q]
    rw[e1];exact this
   .intro Á σ H0 s0 H' a cls s' I fl hx;let⟨e,c,G',ad,q1,q2,q3,q4,q5⟩:=hx;exact hw Á σ H0 s0 H' a cls s' I fl<|ex _ _ _ ⟨c,G',ad,q1,q2,q3,q4,q5⟩
  .refine⟨?_,?_,?_,?_⟩
   .intro Ĳ Ń G' H' k g' e w';exact cn .non G' H' .non k g' .non w'
   .intro v G' H' y k g' rv w';exact cn v G' H' y k g' rv w'
   .intro _ _ _ _ _ _ _ z;exact z.elim
   .intro _ _ _ _ _ _ _ z;exact z.elim
def held_all(M:Modu mg base i T)(hP:∀f x,(f,x)∈T.fs->P f=df x.d)(hPm:∀y,y∈T.ms->P (y.C ++ "." ++ y.m)=df y.x.d)(ht:∀f x,(f,x)∈T.fs->x.Ok T)(htm:∀y,y∈T.ms->y.x.Ok T):∀n,Held pr wd mg base i P T n:=by
 intro n;induction n with
 |zero =>
  refine⟨λf x h=>?_,λy a f hy S=>?_⟩
  .obtain⟨fa,fd,qual,F,hm,hb⟩:=M.fs f x h;exact⟨fa,fd,x.ps,Uu,hm,F.kp,hb⟩
  .obtain⟨fd,F,hb⟩:=S.fn;exact⟨fd,y.x.ps,Uu,hb⟩
 |succ n ih =>
  refine⟨λf x h=>?_,λy a f hy S=>?_⟩
  .obtain⟨fa,fd,qual,F,hm,hb⟩:=M.fs f x h;exact⟨fa,fd,x.ps,fn_succ M ih F (hP f x h)<|ht f x h,hm,F.kp,hb⟩
  .obtain⟨fd,F,hb⟩:=S.fn;exact⟨fd,y.x.ps,fn_succ M ih F (hPm y hy)<|htm y hy,hb⟩
end Snd
namespace Hd
open PySem PySem.W PyProof.Rows
abbrev WP(st:SharedT->Thread->Option (SharedT×Thread))(ok th:Thread->Bool):Nat->SharedT->Thread->Option SharedT
 |0,_,_=>dg
 |n+1,s,t=>match th t with
  |true=>df s
  |false=>match ok t with
   |false=>dg
   |true=>match st s t with
    |some (s',t')=>WP st ok th n s' t'
    |none=>dg
def JH{tb:String->Option Builtin}{p:Program}{w:World}{n₀:Nat}{ann:Option Value}:∀{n:Nat}{s s':SharedT}{t:Thread},WP (stepT (denote tb) p w) (stepOk n₀ ann) through n s t=df s'->topRun tb p w n₀ ann n s.abs t=df s'.abs
 |0,_,_,_,h=>by cases h
 |n+1,s,s',t,h=>by
  unfold WP at h;unfold topRun;cases ht:through t with
  |true=>rw[ht]at h;cases h;rfl
  |false =>
   rw[ht]at h;dsimp only at h ⊢;cases hk:stepOk n₀ ann t with
   |false=>rw[hk]at h;cases h
   |true =>
    rw[hk]at h;dsimp only at h ⊢;cases hs:stepT (denote tb) p w s t with
    |none=>rw[hs]at h;cases h
    |some r =>let⟨s2,t2⟩:=r;rw[hs]at h;rw[stepT_spec hs];exact JH h
abbrev Jl(P:Params):BT :=
 .node (boot_o_0 P) (.node (boot_o_1 P) (.node (boot_o_3 P) (.node (boot_o_7 P) .nil .nil) .nil)<|.node (boot_o_5 P) (.node (boot_o_9 P) .nil .nil) .nil)
  (.node (boot_o_2 P) (.node (boot_o_4 P) (.node (boot_o_8 P) .nil .nil) .nil)<|.node (boot_o_6 P) (.node (boot_o_10 P) .nil .nil) .nil)
def BE(P:Params):absHeap (Jl P) 11 {}=boot_heap P:=by kernel_rfl
def Ae(P:Params):((boot_heap P).isNs mainGlobals&&(Array.mk []:Array GenState).size==0,(boot_heap P).objs.size,(boot_heap P).nsMap mainGlobals "__annotations__")=(dh,11,df<|.ref 6):=by
 rw[show @Heap.nsMap=_ from Fast.te8920871248978507458]
 kernel_rfl
abbrev Hf:=Fast.tw10156331382660048174
abbrev U3:=Fast.tw11892475500146522536
abbrev CT:=Fast.tw14364793385576792824
abbrev okY:=Fast.tw6613529449190102663
abbrev seenY:=Fast.tw4187177175401517315
abbrev modsY:=Fast.tw5923862056798008813
abbrev runY(p:Program)(N:Nat)(w:World)(os:OsState):Option SharedT:=WP (Hf (U3 CT) p w) (okY 11<|df<|.ref 6) through N ⟨Jl w.params,11,{},Array.mk [],boot_drawn,boot_toks,os⟩<|topStub p
abbrev stY(p:Program)(w:World)(s:SharedT):Bool:=staticsOk (modsY p.main.body) (boot_heap w.params) s.abs.heap&&namesBound p s.abs.heap&&gensDone s.abs&&laidKept (boot_heap w.params) s.abs.heap
def left_of{p q:Program}{loose:List Str}{Xt:Shared->Bool}{α:Type}{Yf:Shared->α}{Ya:World->α}{N:Nat}(e:opening p=plainProg p.main.scope.names)(hN:Nat.ble 600 N=dh)(f:∀s,fenceModules? p s=df s)
  (one:∀w os,(runY p N w os).map (stY p w)=df dh) (two:∀w os,(runY p N w os).map (λs=>seenY q loose (modsY p.main.body) Xt dh s.abs)=df (openGood q loose)) (three:∀w os,(runY p N w os).map (λs=>Yf s.abs)=df (Ya w)) :
  LeftO p q loose Xt Yf Ya N:=by
 intro w;let⟨⟨h,gs,d,k,os⟩,e1,e2⟩:=Ë.mp<|boot_open e hN f w;obtain⟨rfl,rfl,rfl,rfl⟩:h=boot_heap w.params/\gs=Array.mk []/\d=boot_drawn/\k=boot_toks:=⇑e2
 let⟨s,r,l1⟩:=Ë.mp<|one w os;let⟨s',r',l2⟩:=Ë.mp<|two w os;cases r.symm.trans r';let⟨s',r',l3⟩:=Ë.mp<|three w os;cases r.symm.trans r';obtain⟨z1,z2,z3⟩:_/\_/\_:=by simpa only[Ź]using Ae w.params
 unfold stY at l1;unfold runY Hf U3 CT okY at r;rw[<-Fast.te10156331382660048174,<-Fast.te11892475500146522536,<-Fast.te14364793385576792824,<-Fast.te6613529449190102663]at r;unfold modsY at l1 l2;unfold seenY at l2;rw[<-Fast.te5923862056798008813]at l1 l2;rw[<-Fast.te4187177175401517315]at l2;have r2:=JH r;have ea:(SharedT.mk (Jl w.params) 11 {} (Array.mk []) boot_drawn boot_toks os).abs=⟨boot_heap w.params,Array.mk [],boot_drawn,boot_toks,os⟩:=by show Shared.mk (absHeap _ _ _) _ _ _ _=_;rw[BE]
 rw[ea]at r2;have t:topFrom treeTable p w N ⟨boot_heap w.params,Array.mk [],boot_drawn,boot_toks,os⟩=df s.abs:=by unfold topFrom;dsimp only;rw[z1,z2,z3,r2];show(match staticsOk (importedModules p.main.body) (boot_heap w.params) s.abs.heap&&namesBound p s.abs.heap&&gensDone s.abs&&laidKept (boot_heap w.params) s.abs.heap with|true=>_|false=>_)=_;rw[l1]
 unfold openEnds;rw[e1];show(topFrom treeTable p w N _).map _=_;rw[t];exact congrArg df<|Prod.ext l2 l3
end Hd
namespace Hd
open PySem PySem.W PyProof.Rows L2
abbrev KA:Nat->List Obj->Frag
 |_,[]=>[]
 |i,o::r=>match o with
  |⟨_,_,.freed,_⟩=>KA (i+1) r
  |o=>(i,o)::KA (i+1) r
abbrev Zz(g:Heap):Frag:=KA 0 g.objs.toList
def Nl:∀(l:List Obj) (i a:Nat) (o:Obj),(KA i l).lookup a=df o->i<=a/\l[a - i]?=df o/\(match df o with|some ⟨_,_,.freed,_⟩=>dg|o=>o)=df o
 |[],_,_,_,h=>by cases h
 |x::r,i,a,o,h=>by
  have rec1:(KA (i+1) r).lookup a=df o->i<=a/\(x::r)[a - i]?=df o/\(match df o with|some ⟨_,_,.freed,_⟩=>dg|o=>o)=df o:=λq=>by let⟨h1,h2,h3⟩:=Nl r (i+1) a o q;refine⟨by lia,?_,h3⟩;rw[show a - i=(a - (i+1))+1 by lia,a9];exact h2
  unfold KA at h;split at h
  .exact rec1 h
  .rename_i c Ţ;rw[á]at h;split at h
   .rename_i e;cases h;have e:=eq_of_beq e;subst e;refine⟨Ï _,by rw[Nat.sub_self];rfl,?_⟩;split
    .rename_i d1 d2 d3 d4;cases d4;exact(Ţ _ _ _ rfl).elim
    .rfl
   .exact rec1 h
def OJ{g:Heap}{a:Addr}{o:Obj}(h:(Zz g).lookup a=df o):g.get? a=df o:=by let⟨_,h2,h3⟩:=Nl _ _ _ _ h;unfold Heap.get?;rw[Nat.sub_zero,Š]at h2;rw[h2];exact h3
abbrev BC(K:Frag)(nm:Str):Option<|FuncData×Bool×Bool:=match nsIn K mainGlobals nm with
 |some (df<|.ref f)=>match K.lookup f with
  |some ⟨_,_,.func fd,_⟩=>df ({fd with kwdefaults:=.none,doc:=.none,pyModule:=.none,annotations:=dg,code:=.none,closureTuple:=.none},codeIn K fd.code fd.qualname,keepIn K<|.ref f)
  |_=>dg
 |_=>dg
abbrev By(nm:Str)(st:Stmt):Option<|FuncData×Bool×Bool:=df (fnOf nm nm (YE st) (ZR st) (Zt st) .none .none .none .none dg .none .none,dh,dh)
def Lx{K:Frag}{nm:Str}{st:Stmt}(e:BC K nm=By nm st):∃fa fd,Fun K nm nm st fa fd/\nsIn K mainGlobals nm=df (df<|.ref fa):=by
 unfold BC at e;split at e
 .rename_i f hf;split at e
  .rename_i oc od fd sl hl;simp only[By,Ĩ,Ź]at e;let⟨e1,e2,e3⟩:=e;let⟨n1,n2,n3,n4,n5,n6,n7,n8,n9,n10,n11,n12,n13,n14,n15⟩:=fd;simp only[fnOf,FuncData.mk.injEq]at e1;obtain⟨rfl,rfl,rfl,rfl,rfl,rfl,rfl,rfl,-,-,-,-,-,-,rfl⟩:=e1;exact⟨f,_,D4 hl e2 e3,hf⟩
  .cases e
 .cases e
abbrev GR(K:Frag)(y:Str):Bool:=match nsIn K mainGlobals y with
 |some dg=>dh
 |_=>di
def EG{l:OpenLaw}{n k:Nat}{q:Program}{loose:List Str}{XP:(Str->Option Value)->Heap->Prop}{YP:World->Heap->Prop}{d:DefRec}{CX:World->CXT}{x:Str}
  (hn:l.most=df n) (hn2:n<=sizeLine) (hdf:d.params.defaults=[]) (hr:dX k callerA)
  (F:∀(w:World) (mg:Str->Option Value) (fa:Addr) (h:Heap),YP w h->h.Ns mainGlobals mg->mg d.name=df (.ref fa)->∃(K:Frag) (sp:Sp),K.In h/\
    (∃fd:FuncData,(∀(s:Shared) (u:Value),BindsTo s fd ⟨[u],[]⟩ [(x,u)])/\∀base:Heap,K.In base->base.Ns mainGlobals mg->dY l.prog w K mg base (CX w) k fa fd [x] sp)/\
    ∀(H:Hp) (a:Addr) (ns:List Int),ns.length<=n->LG H->eS K H a (ns.map V.int)->sp [.ref a] H (λv _=>v=.bl dh) λ_ _ _=>False)
  (hCX:∀(w:World) (H:Hp) (s:Shared) (e:Value) (s':Shared),CX w [] H s (λ_ _ _=>False) e s'->False) :
  WalkO q loose XP YP l.row.toRowW d [] (λf vs=>PySem.call f vs):=by
 refine Att.attach_call hn hdf λw s₀ ģ mg mb fa o pm cd doc a vs ns G Y ho hd av hmg cy hints hlen hg=>?_;let⟨K,sp,KX,⟨fd,hb,hF⟩,hsp⟩:=F w mg fa _ Y G.T.g hmg;exact Bu KX G.T.g G.T.b G.T.builtins G.T.nolimit hg cy hints (Ô hlen hn2) hr hF hb (λH hO hS=>hsp H a ns hlen hO hS) λH e s'=>hCX w H ģ e s'
abbrev Fr(f:Value->O.Val->Bool):List Value->List O.Val->Bool
 |[],[]=>dh
 |u::us,x::xs=>f u x&&Fr f us xs
 |_,_=>di
abbrev GD(K:Frag):Value->Option (List Value)
 |.ref a=>match K.lookup a with
  |some ⟨.type n,_,.seq us _,_⟩=>if n == "tuple" && fm (us.size<=sizeLine)then df us.toList else dg
  |_=>dg
 |_=>dg
abbrev Fa(K:Frag):Nat->Value->O.Val->Bool
 |0,_,_=>di
 |n+1,u,v=>match v with
  |.non=>(match u with|.none=>dh|_=>di)
  |.bl b=>(match u with|.bool a=>a==b|_=>di)
  |.int j=>(match u with|.int i _=>i==j|_=>di)
  |.str t=>(match u with|.str s _=>Fast.sEq s (fo t)|_=>di)
  |.tup xs=>(match GD K u with|some us=>Fr (Fa K n) us xs|none=>di)
  |_=>di
def CZ{K:Frag}{f:Value->O.Val->Bool}(hf:∀u v,f u v=dh->∃z,RelV z u/\∀H,Snd.RV K H v z):∀(us:List Value) (xs:List O.Val),Fr f us xs=dh->∃zs,eV zs us/\∀H,Snd.RVs K H xs zs
 |[],[],_=>⟨[],.nil,λ_=>.nil⟩
 |u::us,x::xs,h=>by rw[Fr,bAq]at h;let⟨z,r,q⟩:=hf u x h.1;let⟨zs,rs,qs⟩:=CZ hf us xs h.2;exact⟨z::zs,.cons r rs,λH=>.cons (q H)<|qs H⟩
 |[],_::_,h=>by cases h
 |_::_,[],h=>by cases h
def BP{K:Frag}:∀(n:Nat) (u:Value) (v:O.Val),Fa K n u v=dh->∃z,RelV z u/\∀H,Snd.RV K H v z
 |0,_,_,h=>by cases h
 |n+1,u,v,h=>by
  unfold Fa at h;cases v with
  |non =>
   dsimp only at h;split at h
   .exact⟨.non,rfl,λ_=>.non⟩
   .cases h
  |bl b =>
   dsimp only at h;split at h
   .cases eq_of_beq h;exact⟨.bl b,rfl,λ_=>.bl b⟩
   .cases h
  |int j =>
   dsimp only at h;split at h
   .cases eq_of_beq h;exact⟨.int j,⟨_,rfl⟩,λ_=>.int j⟩
   .cases h
  |str t =>
   dsimp only at h;split at h
   .cases Fast.sEq_iff.mp h;exact⟨.str<|fo t,⟨_,rfl⟩,λ_=>.str t⟩
   .cases h
  |tup xs =>
   dsimp only at h;split at h
   .rename_i us hu;let⟨zs,rs,qs⟩:=CZ (λu v=>BP n u v) us xs h;unfold GD at hu;split at hu
    .rename_i a;split at hu
     .rename_i nm od ð k sl hl;split at hu
      .rename_i hc;rw[bAq,fj]at hc;cases eq_of_beq hc.1;cases hu;exact⟨.ref a,rfl,λH=>.tup (.inr ⟨_,ð,k,hl,rfl,rfl,hc.2,rs⟩)<|qs H⟩
      .cases hu
     .cases hu
    .cases hu
   .cases h
  |ref a=>cases h
  |scr ns=>cases h
  |key i j=>cases h
abbrev Dj(K:Frag)(p:String×O.Val):Bool:=match nsIn K mainGlobals (fo p.1)with
 |some (df u)=>Fa K 4 u p.2
 |_=>di
def Jq{α β:Type}[BEq α][LawfulBEq α]{a:α}{b:β}:∀{l:List (α×β)},l.lookup a=df b->(a,b)∈l
 |[],h=>by cases h
 |(x,y)::r,h=>by
  rw[á]at h;split at h
  .rename_i e;cases h;cases eq_of_beq e;exact .head _
  .exact .tail _<|Jq h
def Ho{K:Frag}{mg:Str->Option Value}{h:Heap}{x:Str}{C:Addr}{bmB:List Value}{id:String}(X:K.In h)(hm:mg x=df (.ref C))(q:excIn K C bmB id=dh):PyProof.Rows.OwnCls x C bmB id mg h:=by
 constructor
 .exact hm
 have z:=q;unfold excIn at z;split at z
 next dd cd sl ho =>
  split at z
  next C1 bm k0 k1 k2 k3 n k5 em es =>
   rw[bAq,bAq,bAq,bAq,bAq]at z;let⟨⟨⟨⟨⟨z1,z2⟩,z3⟩,z4⟩,z5⟩,z6⟩:=z;have z1:=eq_of_beq z1;have z2:=eq_of_beq z2;have z6:=eq_of_beq z6;subst z1 z2;have z3b:cd.hasDel=di:=by
    cases e:cd.hasDel with
    |false=>rfl
    |true=>rw[e]at z3;cases z3
   have ac:sl=#[k0,k1,k2,k3,df<|.builtin n,k5]:=cX.mp es;have nN:=nsMap_none_of_in X z5 z6;have nI:=Heap.Ns.of_isNs<|isNs_of_in X z5;have tI:=tail_of_in X z4;cases cd;dsimp only at em z3b nN nI;subst em z3b ac;exact⟨bm,_,_,_,_,_,_,_,_,_,dd,k0,k1,k2,k3,k5,_,X _ _ ho,nI,nN,tI⟩
  next=>cases z
 next=>cases z
abbrev Id(K:Frag)(f:Addr):Option<|FuncData×Bool×Bool:=match K.lookup f with
 |some ⟨_,_,.func fd,_⟩=>df ({fd with kwdefaults:=.none,doc:=.none,pyModule:=.none,annotations:=dg,code:=.none,closureTuple:=.none},codeIn K fd.code fd.qualname,keepIn K<|.ref f)
 |_=>dg
abbrev OE(nm qual:Str)(st:Stmt):Option<|FuncData×Bool×Bool:=df (fnOf nm qual (YE st) (ZR st) (Zt st) .none .none .none .none dg .none .none,dh,dh)
def HP{K:Frag}{nm qual:Str}{st:Stmt}{f:Addr}(e:Id K f=OE nm qual st):∃fd,Fun K nm qual st f fd:=by
 unfold Id at e;split at e
 .rename_i oc od fd sl hl;simp only[OE,Ĩ,Ź]at e;let⟨e1,e2,e3⟩:=e;let⟨n1,n2,n3,n4,n5,n6,n7,n8,n9,n10,n11,n12,n13,n14,n15⟩:=fd;simp only[fnOf,FuncData.mk.injEq]at e1;obtain⟨rfl,rfl,rfl,rfl,rfl,rfl,rfl,rfl,-,-,-,-,-,-,rfl⟩:=e1;exact⟨_,D4 hl e2 e3⟩
 .cases e
abbrev JT(K:Frag)(C:String):Option Addr:=match nsIn K mainGlobals (fo C)with
 |some (df<|.ref a)=>df a
 |_=>dg
variable {C:String} {a:Addr}
def WV{K:Frag}(h:JT K C=df a):nsIn K mainGlobals (fo C)=df (df<|.ref a):=by
 unfold JT at h;split at h
 .cases h;assumption
 .cases h
structure CV where
 pg:Bool
 hd:Bool
 po:Bool
 sa:Option<|Option Value
abbrev Eo(K:Frag)(a:Addr):CV:=⟨plainGet K a Str.empty,hasDictIn K a,plainOver K a,findIn K (.ref a) "__setattr__"⟩
abbrev Ur:CV:=⟨dh,dh,dh,df<|df<|.builtin "object.__setattr__"⟩
def CP{K:Frag}(h:Eo K a=Ur):Cls K a:=by simp only[Eo,Ur,CV.mk.injEq]at h;exact⟨h.1,h.2.1,h.2.2.1,h.2.2.2⟩
structure MV where
 fn:Option<|FuncData×Bool×Bool
 isf:Bool
 cv:CV
abbrev D1(K:Frag)(y:Snd.Mt):Option MV:=match JT K y.C with
 |some a=>match findIn K (.ref a) (fo y.m)with
  |some (df<|.ref f)=>df ⟨Id K f,isFn K<|.ref f,Eo K a⟩
  |_=>dg
 |none=>dg
abbrev DI(y:Snd.Mt):Option MV:=df ⟨OE (fo y.m) (fo y.qual) y.x.st,dh,Ur⟩
def Pj{K:Frag}{y:Snd.Mt}(e:D1 K y=DI y):∃a f fd,nsIn K mainGlobals (fo y.C)=df (df<|.ref a)/\Fun K (fo y.m) (fo y.qual) y.x.st f fd/\Meth K a (fo y.m) f/\Cls K a:=by
 unfold D1 at e;split at e
 .rename_i a ha;split at e
  .rename_i f hf;simp only[DI,Ĩ,MV.mk.injEq]at e;let⟨e1,e2,e3⟩:=e;let⟨fd,F⟩:=HP e1;exact⟨a,f,fd,WV ha,F,⟨hf,e2,F.kp⟩,CP e3⟩
  .cases e
 .cases e
structure QV where
 mks:Bool
 kp:Bool
 cv:CV
 fl:List<|Option<|Option Value
 ic:Option (Option Value)×Option (Option Value)×Option Bool×Option Bool
abbrev DT(K:Frag)(fl:List String)(C:String):Option QV:=match JT K C with
 |some a=>df ⟨makesIn K a,keepIn K<|.ref a,Eo K a,fl.map λf=>findIn K (.ref a)<|fo f,(findIn K (.ref a) "__class__",specialIn K (.builtin "object.__class__") "__get__",takesIn K<|.builtin "object.__class__",mroIn K a<|.type "object")⟩
 |none=>dg
abbrev Cz(fl:List String):Option QV:=df ⟨dh,dh,Ur,fl.map λ_=>df dg,(df<|df<|.builtin "object.__class__",df<|df<|.builtin "getset_descriptor.__get__",df dh,df dh)⟩
def G7{K:Frag}{fl:List String}(e:DT K fl C=Cz fl):∃a,nsIn K mainGlobals (fo C)=df (df<|.ref a)/\makesIn K a=dh/\keepIn K (.ref a)=dh/\Cls K a/\(∀f∈fl,NoAttr K a<|fo f)/\Snd.IC K a:=by
 unfold DT at e;split at e
 .rename_i a ha;simp only[Cz,Ĩ,QV.mk.injEq,Ź]at e;let⟨e1,e2,e3,e4,e5,e6,e7,e8⟩:=e;exact⟨a,WV ha,e1,e2,CP e3,λf hf=>ĝ.mp e4 f hf,⟨e5,e6,e7,e8⟩⟩
 .cases e
structure XV where
 ex:Bool
 f1:Option<|Option Value
 f2:Option<|Option Value
 f3:Option<|Option Value
 m1:Option Bool
 m2:Option Bool
 ci:Bool
 ve:Option Bool
 ks:List<|Option<|Option Bool×Option Bool
abbrev Dl(K:Frag)(xs:List String)(C:String):Option XV:=match JT K C with
 |some a=>df ⟨excIn K a [.type "ValueError",.type "Exception",.type "BaseException",.type "object"] "ValueError.__new__",findIn K (.ref a) "__getattribute__",findIn K (.ref a) "__getattr__",findIn K (.ref a) "__class__",mroIn K a<|.type "object",mroIn K a<|.type "BaseException",(clsIn K a).isSome,kitOne K (.ref a)<|.type "ValueError",("ShutError" :: xs).map λT=>(JT K T).map λD=>(kitOne K (.ref a)<|.ref D,exmOne K (.ref a)<|.ref D)⟩
 |none=>dg
abbrev Ci(xs:List String)(C:String):Option XV:=df ⟨dh,df<|df<|.builtin "BaseException.__getattribute__",df dg,df<|df<|.builtin "object.__class__",df dh,df dh,dh,df dh,("ShutError" :: xs).map λT=>df (df<|O.eR C T,df<|O.eR C T)⟩
def BA{K:Frag}{xs:List String}(e:Dl K xs C=Ci xs C):∃a,nsIn K mainGlobals (fo C)=df (df<|.ref a)/\excIn K a [.type "ValueError",.type "Exception",.type "BaseException",.type "object"] "ValueError.__new__" = dh/\XCls K a/\kitOne K (.ref a) (.type "ValueError")=df dh/\
  ∀T∈"ShutError" :: xs,∃D,nsIn K mainGlobals (fo T)=df (df<|.ref D)/\kitOne K (.ref a) (.ref D)=df (O.eR C T)/\exmOne K (.ref a) (.ref D)=df (O.eR C T):=by
 unfold Dl at e;split at e
 .rename_i a ha;simp only[Ci,Ĩ,XV.mk.injEq]at e;let⟨e1,e2,e3,e4,e5,e6,e7,e8,e9⟩:=e;refine⟨a,WV ha,e1,⟨e2,e3,e4,e5,e6,e7⟩,e8,λT hT=>?_⟩;have:=ĝ.mp e9 T hT;cases z:JT K T with
  |none=>rw[z]at this;cases this
  |some D =>rw[z]at this;simp only[į,Ĩ,Ź]at this;exact⟨D,WV z,this.1,this.2⟩
 .cases e
structure View where
 fs:List<|Option<|FuncData×Bool×Bool
 ms:List<|Option MV
 cl:List<|Option QV
 xs:List<|Option XV
 ok:Bool
abbrev view(T:Snd.Tb)(K:Frag):View:=⟨T.fs.map λp=>BC K<|fo p.1,T.ms.map<|D1 K,T.cl.map<|DT K T.fl,T.xs.map<|Dl K T.xs,T.cs.all (Dj K)&&Snd.blts.all (GR K)⟩
abbrev due(T:Snd.Tb):View:=⟨T.fs.map λp=>By (fo p.1) p.2.st,T.ms.map DI,T.cl.map λ_=>Cz T.fl,T.xs.map<|Ci T.xs,dh⟩
abbrev hook(T:Snd.Tb):Hook where
 α:=View
 obs:=λs=>view T<|Zz s.heap
 val:=λ_=>due T
 says:=λ_ h=>∃g:Heap,view T (Zz g)=due T/\∀b o,g.get? b=df o->h.get? b=df o
 of:=λ_ s e=>⟨s.heap,e,λ_ _ x=>x⟩
 keeps:=λ_ _ _ ⟨g,e,k⟩ k2=>⟨g,e,λb o x=>k2 b o<|k b o x⟩
abbrev Bd(nm qual:Str)(x:Snd.Ds):Prop:=∀(kV doc pm:Value) (an:Option Addr) (Ρ ct:Value) (us:List Value),us.length=x.ps.length->bindArgs (fnOf nm qual (YE x.st) (ZR x.st) (Zt x.st) .none kV doc pm an Ρ ct) ⟨us,[]⟩=pure (x.ps.zip us)
abbrev Et(T:Snd.Tb):Bool:=T.cl.all λC=>T.ms.any λy=>y.C==C&&y.m == "__init__"
def law_walk{l:OpenLaw}{q:Program}{loose:List Str}{XP:(Str->Option Value)->Heap->Prop}{d:DefRec}{T:Snd.Tb}{pg:O.Pg}{k:Nat}{xl:Snd.Ds}
  (hn:l.most=df 63) (hdf:d.params.defaults=[]) (hdn:d.name=fo "law") (hr:dX (2*(k+1)) callerA) (hlaw:("law",xl)∈T.fs) (hps:xl.ps=[fo "script"]) (hin:Et T=dh)
  (tab_pg:∀f x,(f,x)∈T.fs->pg f=df x.d) (tab_pm:∀y,y∈T.ms->pg (y.C ++ "." ++ y.m)=df y.x.d) (tab_ok:∀f x,(f,x)∈T.fs->x.Ok T) (tab_om:∀y,y∈T.ms->y.x.Ok T)
  (tab_bd:∀f x,(f,x)∈T.fs->Bd (fo f) (fo f) x) (tab_bm:∀y,y∈T.ms->Bd (fo y.m) (fo y.qual) y.x)
  (ok:∀ns:List Int,ns.length<=63->O.wF pg (k+1) "law" [.scr ns] (λ_=>dg) (λv _=>v=.bl dh) λ_ _=>False) :
  WalkO q loose XP (hook T).says l.row.toRowW d [] (λf vs=>PySem.call f vs):=by
 refine EG (n:=63) (k:=2*(k+1)) (x:=fo "script") (CX:=λw=>CX1 l.prog w) hn (by decide) hdf hr (λw mg fa h Y G hmg=>?_) λ_ _ _ _ _ ⟨_,_,_,_,_,z⟩=>z;let⟨g,e,keep⟩:=Y;have X:(Zz g).In h:=λa o z=>keep a o<|OJ z;simp only[view,due,View.mk.injEq]at e;let⟨e1,e3,e4,e5,e2⟩:=e;rw[bAq,ù,ù]at e2
 let i:Snd.Inf:=⟨Zz g,λC a=>T.cl.contains C=dh/\mg (fo C)=df (.ref a),λC=>T.cl.contains C,λC a=>T.xs.contains C=dh/\mg (fo C)=df (.ref a)⟩
 have hF:∀f x,(f,x)∈T.fs->∃fa fd,Fun (Zz g) (fo f) (fo f) x.st fa fd/\mg (fo f)=df (.ref fa):=λf x hx=>by let⟨fa,fd,F,z⟩:=Lx<|ĝ.mp e1 (f,x) hx;exact⟨fa,fd,F,mg_of X G z⟩
 have aK:∀C a,i.cl C a->makesIn (Zz g) a=dh/\keepIn (Zz g) (.ref a)=dh/\Cls (Zz g) a/\(∀f∈T.fl,NoAttr (Zz g) a<|fo f)/\Snd.IC (Zz g) a:=λC a ⟨hc,hm⟩=>by let⟨b,z,q⟩:=G7<|ĝ.mp e4 C<|ý.mp hc;have:=mg_of X G z;rw[hm]at this;cases this;exact q
 have hms:∀y,y∈T.ms->∃a f,Snd.Mst i mg y a f/\Cls i.K a:=λy hy=>by let⟨a,f,fd,z,F,M,A⟩:=Pj<|ĝ.mp e3 y hy;exact⟨a,f,⟨mg_of X G z,⟨fd,F,F.binds<|tab_bm y hy⟩,M⟩,A⟩
 have hxc:∀C a,i.xc C a->excIn (Zz g) a [.type "ValueError",.type "Exception",.type "BaseException",.type "object"] "ValueError.__new__" = dh/\XCls (Zz g) a/\kitOne (Zz g) (.ref a) (.type "ValueError")=df dh/\
   ∀T'∈"ShutError" :: T.xs,∃D,nsIn (Zz g) mainGlobals (fo T')=df (df<|.ref D)/\kitOne (Zz g) (.ref a) (.ref D)=df (O.eR C T')/\exmOne (Zz g) (.ref a) (.ref D)=df (O.eR C T'):=λC a ⟨hc,hm⟩=>by
  let⟨b,z,q⟩:=BA<|ĝ.mp e5 C<|ý.mp hc;have:=mg_of X G z;rw[hm]at this;cases this;exact q
 have mod:∀base:Heap,(Zz g).In base->Snd.Modu mg base i T:=λbase Xb =>
  { bl:=λy hy=>by
      have:=e2.2 y hy
      unfold GR at this
      split at this
      . rename_i z;exact mg_none_of X G z
      . cases this
    cst:=λy v hv=>by
      have:=e2.1 _<|Jq hv
      unfold Dj at this
      split at this
      . rename_i u z
        let⟨x,r,rv⟩:=BP 4 u v this
        exact⟨u,x,mg_of X G z,r,rv⟩
      . cases this
    A:=⟨λC a _ z=>(aK C a z).2.2.1,λC a z=>(aK C a z).2.2.2.2,λC a b z y=>by have:=z.2.symm.trans y.2;cases this;rfl⟩
    F:=λf hf=>⟨λC a z=>(aK C a z).2.2.2.1 f<|ý.mp hf⟩
    cl:=λC a z=>z.2
    mkc:=λC hC=>by
      let⟨a,z,_⟩:=G7<|ĝ.mp e4 C<|ý.mp hC
      have hi:i.cl C a:=⟨hC,mg_of X G z⟩
      let⟨y,hy,e⟩:=ϧ.mp<|ù.mp hin C<|ý.mp hC
      rw[bAq]at e
      let⟨b,f,S,A⟩:=hms y hy
      have h1:=eq_of_beq e.1
      have h2:=eq_of_beq e.2
      have hb:=S.cl
      rw[h1,hi.2]at hb
      cases hb
      refine⟨a,y,f,hC,hi,⟨(aK C a hi).1,?_,S.at_.fn,(aK C a hi).2.1⟩,hy,h1,h2,S⟩
      have:=S.at_.at_
      rw[h2]at this
      exact this
    fs:=λf x hx=>by
      let⟨fa,fd,F,m⟩:=hF f x hx
      exact⟨fa,fd,_,F,m,F.binds<|tab_bd f x hx⟩
    ms:=hms
    xc:=λ_ C a z=>⟨(hxc C a z).2.1,(hxc C a z).2.2.1⟩
    rs:=λ_ C hC=>by
      let⟨a,z,q1,_⟩:=BA<|ĝ.mp e5 C<|ý.mp hC
      exact⟨a,⟨hC,mg_of X G z⟩,Ho Xb (mg_of X G z) q1⟩
    kn:=λŢ T' hT=>by
      have hT2:T'∈"ShutError" :: T.xs:=by
        rcases (Bool.or_eq_true ..).mp hT with z|z
        . exact .tail _<|ý.mp z
        . cases eq_of_beq z;exact .head _
      let⟨C0,hC0⟩:=List.exists_mem_of_ne_nil _ Ţ
      let⟨a0,z0,_,_,_,q0⟩:=BA<|ĝ.mp e5 C0 hC0
      let⟨D,zD,_⟩:=q0 T' hT2
      refine⟨D,mg_of X G zD,λC a z=>?_⟩
      let⟨D2,z2,k1,k2⟩:=(hxc C a z).2.2.2 T' hT2
      rw[zD]at z2
      cases z2
      exact⟨k1,λe=>by rw[k2,e]⟩ }
 let⟨fl,fd,F,m⟩:=hF "law" xl hlaw;have ef:=hmg.symm.trans<|hdn▸m;cases ef;refine⟨Zz g,Snd.spF i pg (k+1) "law",X,⟨fd,λs u=>?_,λbase Xb _=>?_⟩,λH a ns hl hO hS=>?_⟩
 .have B:=F.ex;let⟨oc,od,kV,dc,pm,an,Ρ,ct,sl,rfl,lk,av⟩:=B;have:=tab_bd "law" xl hlaw kV dc pm an Ρ ct [u] (by rw[hps];rfl);rw[hps]at this;exact .of_eq this
 .have M:=mod base Xb;have:=Snd.fn_succ (i:=i) (pr:=l.prog) (wd:=w) (base:=base) (mg:=mg) (P:=pg) (n:=k) M (Snd.held_all M tab_pg tab_pm tab_ok tab_om k) F (tab_pg "law" xl hlaw)<|tab_ok "law" xl hlaw;rw[hps]at this;exact this
 .refine⟨[.scr ns],λ_=>dg,λv _=>v=.bl dh,λ_ _=>False,.cons (.scr ?_) .nil,λ_ _ e=>(by cases e),ok ns hl,?_,?_⟩
  .rcases hS with(h|⟨o,h⟩)|h
   .rcases hO a with z|⟨o,xs,z⟩
    .rw[h]at z;cases z
    .rw[h]at z;cases z
   .exact .inl ⟨o,h⟩
   .exact .inr h
  .intro v G' H' x _ _ r e;subst e;exact r.bl_inv
  .rintro cls d H' ⟨_,_,_,_,_,_,_,z⟩;exact z
end Hd
set_option maxRecDepth 20000
set_option maxHeartbeats 2000000
namespace O
local macro_rules|`(#[$x])=>`(.cons $x .nil)|`(#[$x,$y,*])=>`(.cons $x #[$y,*])
@[reducible] noncomputable def B0(P:Pg)(n:Nat)(d:Fn)(e:Env)(h:Hs)(Q:Q1)(X:XQ):Prop:=wSs (wF P n) d.body e h (λ_ g=>Q .non g) Q (λ_ _=>False) (λ_ _=>False) λ_ c g=>X c g
variable {P:Pg}{n:Nat}{a0 a1 a2 a3 a4 a5 a6 a7:Val}{h:Hs}{Q:Q1}{X:XQ}
local macro_rules|`(↑$n:num)=>`(.cst (.int $n))
local macro_rules|`(⇑$n:num)=>`(.var $n)
instance S2:Fn:={ar:=1,sz:=1,body:=#[.ret<|.and (.bi (.isi ["int"]) #[⇑0])<|.not<|.bi (.isi ["bool"]) #[⇑0]]}
instance S3:Fn:={ar:=3,sz:=3,body:=#[.ret<|.and (.call "is_whole" #[⇑0])<|.chain .le .le ⇑1 ⇑0 ⇑2]}
instance TD:Fn:={ar:=2,sz:=2,body:=#[.ite (.or (.not<|.val<|.bi (.isi ["list"]) #[⇑0])<|.not<|.val<|.bi (.isi ["list"]) #[⇑1]) #[.never] .nil,.ite (.not<|.val<|.chain .le .le ↑1 (.bi .len #[⇑0])<|.glob "MOST_BRIDGES"<|.int 10) #[.never] .nil,.ite (.val<|.cmp .gt (.bi .len #[⇑1])<|.glob "MOST_TIES"<|.int 16) #[.never] .nil,.ite (.not<|.val<|.call "are_bridges" #[⇑0]) #[.never] .nil,.ite (.not<|.val<|.bi .all #[.comp [0] 1 (.one 0) (.seq ⇑1) .yes<|.call "is_tie" #[⇑0,⇑1]]) #[.never] .nil,.ret<|.tup #[.bi .tuple #[.bi .sortedI #[⇑0]],.bi .tuple #[.comp [] 1 (.one 0) (.seq ⇑1) .yes<|.call "lesser_end_first" #[⇑0]]]]}
instance Sr:Fn:={ar:=1,sz:=1,body:=#[.ite (.not<|.val<|.bi .all #[.comp [] 1 (.one 0) (.seq ⇑0) .yes<|.call "is_whole_between" #[⇑0,↑0,.glob "GREATEST_NUMBER"<|.int 999]]) #[.ret<|.cst<|.bl di] .nil,.ret<|.cmp .eq (.bi .lenSet #[⇑0])<|.bi .len #[⇑0]]}
instance S1:Fn:={ar:=2,sz:=2,body:=#[.ite (.or (.not<|.val<|.bi (.isi ["tuple"]) #[⇑0])<|.val<|.cmp .ne (.bi .len #[⇑0]) ↑3) #[.ret<|.cst<|.bl di] .nil,.ite (.or (.not<|.val<|.call "is_whole" #[.idx ⇑0 ↑0])<|.not<|.val<|.call "is_whole" #[.idx ⇑0 ↑1]) #[.ret<|.cst<|.bl di] .nil,.ite (.or (.val<|.cmp .notin (.idx ⇑0 ↑0) ⇑1)<|.val<|.cmp .notin (.idx ⇑0 ↑1) ⇑1) #[.ret<|.cst<|.bl di] .nil,.ret<|.and (.cmp .ne (.idx ⇑0 ↑0)<|.idx ⇑0 ↑1)<|.call "is_whole_between" #[.idx ⇑0 ↑2,↑1,.glob "GREATEST_COST"<|.int 1000]]}
instance TC:Fn:={ar:=1,sz:=1,body:=#[.ret<|.tup #[.bi .min2 #[.idx ⇑0 ↑0,.idx ⇑0 ↑1],.bi .max2 #[.idx ⇑0 ↑0,.idx ⇑0 ↑1],.idx ⇑0 ↑2]]}
instance TF:Fn:={ar:=2,sz:=5,body:=#[.set (.one 2)<|.lst .nil,.for (.many [3,4]) (.enum<|.idx ⇑0 ↑1) #[.ite (.val<|.cmp .isin ⇑1<|.slc ⇑4 .none<|.some ↑2) #[.expr<|.bm .append ⇑2 #[.tup #[⇑3,.call "far_end" #[⇑4,⇑1],.idx ⇑4 ↑2]]] .nil],.ret ⇑2]}
instance S0:Fn:={ar:=2,sz:=2,body:=#[.ret<|.ife (.val<|.cmp .eq (.idx ⇑0 ↑0) ⇑1) (.idx ⇑0 ↑1)<|.idx ⇑0 ↑0]}
instance TH:Fn:={ar:=2,sz:=2,body:=#[.ret<|.cmp .gt (.idx ⇑0<|.glob "NUMBER"<|.int 0)<|.idx ⇑1<|.glob "NUMBER"<|.int 0]}
instance Sv:Fn:={ar:=2,sz:=3,body:=#[.set (.one 2)<|.comp [0] 1 (.one 0) (.seq ⇑1) (.val<|.cmp .lt (.idx ⇑0 ↑0) ⇑1) ⇑0,.ret<|.bi .minD #[⇑2]]}
instance SJ:Fn:={ar:=5,sz:=8,body:=#[.setFld ⇑0 "number" ⇑1,.setFld ⇑0 "life" ⇑2,.setFld ⇑0 "age_let_go" ⇑4,.setFld ⇑0 "ties_by_place"<|.dct .nil,.for (.many [5,6,7]) (.seq ⇑3) #[.setIdx (.fld ⇑0 "ties_by_place") ⇑5<|.tup #[⇑6,⇑7]],.setFld ⇑0 "held_by_place"<|.dct .nil,.setFld ⇑0 "label_now"<|.tup #[⇑1,↑0,.cst .non,.cst .non],.setFld ⇑0 "version" ↑0,.setFld ⇑0 "ticks_had" ↑0]}
instance SN:Fn:={ar:=1,sz:=1,body:=#[.ret<|.fld ⇑0 "label_now"]}
instance SB:Fn:={ar:=1,sz:=1,body:=#[.ret<|.tup #[.fld ⇑0 "life",.fld ⇑0 "version"]]}
instance SW:Fn:={ar:=2,sz:=2,body:=#[.ret<|.bm .dget (.fld ⇑0 "held_by_place") #[⇑1]]}
instance SF:Fn:={ar:=4,sz:=4,body:=#[.ite (.val<|.cmp .notin ⇑1<|.fld ⇑0 "ties_by_place") #[.setIdx (.fld ⇑0 "ties_by_place") ⇑1<|.tup #[⇑2,⇑3]] .nil]}
instance SZ:Fn:={ar:=2,sz:=2,body:=#[.expr<|.bm .dpopD (.fld ⇑0 "ties_by_place") #[⇑1,.cst .non],.expr<|.bm .dpopD (.fld ⇑0 "held_by_place") #[⇑1,.cst .non]]}
instance SX:Fn:={ar:=3,sz:=4,body:=#[.ite (.val<|.cmp .notin ⇑1<|.fld ⇑0 "ties_by_place") #[.retN] .nil,.set (.one 3)<|.meth "Bridge" "held" ⇑0 #[⇑1],.ite (.or (.val<|.cmp .is ⇑3<|.cst .non)<|.val<|.call "newer" #[⇑2,.idx ⇑3 ↑0]) #[.setIdx (.fld ⇑0 "held_by_place") ⇑1<|.tup #[⇑2,.idx ⇑2<|.glob "AGE"<|.int 4]] .nil]}
instance SE:Fn:={ar:=1,sz:=2,body:=#[.expr<|.meth "Bridge" "let_grow_older" ⇑0 .nil,.expr<|.meth "Bridge" "take_label" ⇑0 #[.meth "Bridge" "reckon_label" ⇑0 .nil],.set (.one 1)<|.comp [0] 1 (.one 0) (.seq<|.bi .sortedI #[.fld ⇑0 "ties_by_place"]) .yes<|.tup #[⇑0,.meth "Bridge" "letter_over" ⇑1 #[⇑0]],.augFld ⇑0 "ticks_had" .add 1,.ret ⇑1]}
instance SO:Fn:={ar:=1,sz:=4,body:=#[.set (.one 1)<|.dct .nil,.forI di (.many [2,3]) (.fld ⇑0 "held_by_place") #[.ite (.val<|.cmp .lt (.bin .add (.idx ⇑3 ↑1) ↑1)<|.fld ⇑0 "age_let_go") #[.setIdx ⇑1 ⇑2<|.tup #[.idx ⇑3 ↑0,.bin .add (.idx ⇑3 ↑1) ↑1]] .nil],.setFld ⇑0 "held_by_place" ⇑1]}
instance SA:Fn:={ar:=1,sz:=8,body:=#[.set (.one 1)<|.lst .nil,.forI di (.many [2,3]) (.fld ⇑0 "held_by_place") #[.set (.many [4,5])<|.idx (.fld ⇑0 "ties_by_place") ⇑2,.expr<|.bm .append ⇑1 #[.tup #[.idx (.idx ⇑3 ↑0)<|.glob "ROOT"<|.int 2,.bin .add (.idx (.idx ⇑3 ↑0)<|.glob "COST"<|.int 3) ⇑5,⇑4,⇑2]]],.set (.one 6)<|.call "best_offer" #[.fld ⇑0 "number",⇑1],.ite (.val<|.cmp .is ⇑6<|.cst .non) #[.ret<|.tup #[.fld ⇑0 "number",↑0,.cst .non,.cst .non]] .nil,.set (.many [7,5,4,2]) ⇑6,.ret<|.tup #[⇑7,⇑5,⇑2,.idx (.idx (.idx (.fld ⇑0 "held_by_place") ⇑2) ↑0)<|.glob "STAMP"<|.int 1]]}
instance SC:Fn:={ar:=2,sz:=2,body:=#[.ite (.val<|.cmp .ne ⇑1<|.fld ⇑0 "label_now") #[.setFld ⇑0 "label_now" ⇑1,.augFld ⇑0 "version" .add 1] .nil]}
instance SU:Fn:={ar:=2,sz:=8,body:=#[.set (.many [2,3,4,5])<|.fld ⇑0 "label_now",.set (.one 6)<|.ife (.val<|.cmp .is ⇑4<|.cst .non) ↑0<|.bin .add (.idx (.idx (.fld ⇑0 "held_by_place") ⇑4) ↑1) ↑1,.set (.one 7)<|.tup #[.tup #[.fld ⇑0 "life",.fld ⇑0 "ticks_had"],.meth "Bridge" "stamp" ⇑0 .nil,⇑2,⇑3,⇑6],.ite (.val<|.cmp .eq ⇑1 ⇑4) #[.ret<|.bin .add ⇑7<|.tup #[⇑5,.cst .non]] .nil,.ite (.val<|.meth "Bridge" "is_rested_on" ⇑0 #[⇑1]) #[.ret<|.bin .add ⇑7<|.tup #[.cst .non,.idx (.idx (.idx (.fld ⇑0 "held_by_place") ⇑1) ↑0)<|.glob "STAMP"<|.int 1]] .nil,.ret<|.bin .add ⇑7<|.tup #[.cst .non,.cst .non]]}
instance SM:Fn:={ar:=2,sz:=3,body:=#[.set (.one 2)<|.meth "Bridge" "held" ⇑0 #[⇑1],.ret<|.and (.cmp .isnot ⇑2<|.cst .non)<|.cmp .eq (.idx (.idx ⇑2 ↑0)<|.glob "RESTS"<|.int 5)<|.meth "Bridge" "stamp" ⇑0 .nil]}
instance SK:Fn:={ar:=2,sz:=3,body:=#[.set (.one 2)<|.meth "Bridge" "held" ⇑0 #[⇑1],.ite (.or (.val<|.cmp .is ⇑2<|.cst .non)<|.val<|.cmp .ne (.idx (.idx ⇑2 ↑0)<|.glob "AGREES"<|.int 6)<|.meth "Bridge" "stamp" ⇑0 .nil) #[.ret<|.cst<|.bl di] .nil,.ret<|.cmp .eq (.idx (.idx ⇑2 ↑0)<|.glob "STAMP"<|.int 1)<|.idx (.fld ⇑0 "label_now") ↑3]}
instance SY:Fn:={ar:=2,sz:=2,body:=#[.ite (.val<|.cmp .notin ⇑1<|.fld ⇑0 "ties_by_place") #[.ret<|.cst<|.str "down"] .nil,.ite (.val<|.cmp .eq ⇑1<|.idx (.fld ⇑0 "label_now") ↑2) #[.ret<|.ife (.val<|.meth "Bridge" "is_agreed_to" ⇑0 #[⇑1]) (.cst<|.str "child")<|.cst<|.str "shut"] .nil,.ret<|.ife (.val<|.meth "Bridge" "is_rested_on" ⇑0 #[⇑1]) (.cst<|.str "parent")<|.cst<|.str "shut"]}
instance Sz:Fn:={ar:=3,sz:=4,body:=#[.setFld ⇑0 "net_made_of" ⇑1,.setFld ⇑0 "greatest_age" ⇑2,.setFld ⇑0 "lives"<|.dct .nil,.setFld ⇑0 "standing"<|.dct .nil,.setFld ⇑0 "ties_fallen"<|.dct .nil,.setFld ⇑0 "letters_on_road"<|.lst .nil,.for (.one 3) (.seq<|.idx ⇑1 ↑0) #[.setIdx (.fld ⇑0 "lives") ⇑3 ↑0,.setIdx (.fld ⇑0 "standing") ⇑3<|.make "Bridge" #[⇑3,↑0,.call "neighbours" #[⇑1,⇑3],⇑2]]]}
instance Sx:Fn:={ar:=1,sz:=1,body:=#[.ret<|.fld ⇑0 "net_made_of"]}
instance Sw:Fn:={ar:=1,sz:=1,body:=#[.ret<|.bi .list #[.fld ⇑0 "letters_on_road"]]}
instance SR:Fn:={ar:=1,sz:=2,body:=#[.set (.one 1)<|.comp [0] 1 (.one 0) (.seq<|.idx (.fld ⇑0 "net_made_of") ↑0) (.val<|.cmp .notin ⇑0<|.fld ⇑1 "standing") ⇑0,.ret<|.tup #[.bi .tuple #[⇑1],.bi .tuple #[.bi .sortedI #[.fld ⇑0 "ties_fallen"]]]]}
instance Sy:Fn:={ar:=1,sz:=1,body:=#[.ret<|.comp [0] 1 (.one 0) (.seq<|.bi .sortedI #[.fld ⇑0 "standing"]) .yes<|.tup #[⇑0,.meth "Bridge" "label" (.idx (.fld ⇑1 "standing") ⇑0) .nil]]}
instance So:Fn:={ar:=1,sz:=1,body:=#[.ret<|.comp [0] 1 (.one 0) (.seq<|.bi .sortedI #[.fld ⇑0 "standing"]) .yes<|.tup #[⇑0,.meth "Bridge" "stamp" (.idx (.fld ⇑1 "standing") ⇑0) .nil]]}
instance SI:Fn:={ar:=2,sz:=2,body:=#[.ret<|.bm .dget (.fld ⇑0 "standing") #[⇑1]]}
instance SV:Fn:={ar:=2,sz:=2,body:=#[.ret<|.chain .le .lt ↑0 ⇑1<|.bi .len #[.idx (.fld ⇑0 "net_made_of") ↑1]]}
instance SQ:Fn:={ar:=2,sz:=4,body:=#[.set (.many [2,3])<|.call "read_deed" #[⇑1],.ite (.val<|.cmp .eq ⇑2<|.tup #[.cst<|.str "tick"]) #[.expr<|.meth "Yard" "tick_of" ⇑0 #[⇑3]] #[.ite (.val<|.cmp .eq ⇑2<|.tup #[.cst<|.str "come"]) #[.expr<|.meth "Yard" "come" ⇑0 #[⇑3]] #[.ite (.val<|.cmp .eq ⇑2<|.tup #[.cst<|.str "lost"]) #[.expr<|.meth "Yard" "take_off" ⇑0 #[⇑3]] #[.ite (.val<|.cmp .eq ⇑2<|.tup #[.cst<|.str "fall",.cst<|.str "bridge"]) #[.expr<|.meth "Yard" "fall_of_bridge" ⇑0 #[⇑3]] #[.ite (.val<|.cmp .eq ⇑2<|.tup #[.cst<|.str "fall",.cst<|.str "tie"]) #[.expr<|.meth "Yard" "fall_of_tie" ⇑0 #[⇑3]] #[.ite (.val<|.cmp .eq ⇑2<|.tup #[.cst<|.str "back",.cst<|.str "bridge"]) #[.expr<|.meth "Yard" "back_of_bridge" ⇑0 #[⇑3]] #[.expr<|.meth "Yard" "back_of_tie" ⇑0 #[⇑3]]]]]]]]}
instance Sq:Fn:={ar:=2,sz:=5,body:=#[.ite (.val<|.cmp .notin ⇑1<|.fld ⇑0 "standing") #[.never] .nil,.for (.many [2,3]) (.seq<|.meth "Bridge" "tick" (.idx (.fld ⇑0 "standing") ⇑1) .nil) #[.set (.one 4)<|.call "far_end" #[.idx (.idx (.fld ⇑0 "net_made_of") ↑1) ⇑2,⇑1],.expr<|.bm .append (.fld ⇑0 "letters_on_road") #[.tup #[⇑1,⇑4,⇑2,⇑3]]]]}
instance SL:Fn:={ar:=2,sz:=6,body:=#[.set (.many [2,3,4,5])<|.meth "Yard" "take_off" ⇑0 #[⇑1],.ite (.val<|.cmp .isin ⇑3<|.fld ⇑0 "standing") #[.expr<|.meth "Bridge" "hear" (.idx (.fld ⇑0 "standing") ⇑3) #[⇑4,⇑5]] .nil]}
instance Su:Fn:={ar:=2,sz:=2,body:=#[.ite (.not<|.val<|.chain .le .lt ↑0 ⇑1<|.bi .len #[.fld ⇑0 "letters_on_road"]) #[.never] .nil,.ret<|.bm .popAt (.fld ⇑0 "letters_on_road") #[⇑1]]}
instance SS:Fn:={ar:=2,sz:=2,body:=#[.ite (.val<|.cmp .notin ⇑1<|.fld ⇑0 "standing") #[.never] .nil,.expr<|.bm .dpop (.fld ⇑0 "standing") #[⇑1],.expr<|.meth "Yard" "set_ties_of" ⇑0 #[⇑1]]}
instance ST:Fn:={ar:=2,sz:=2,body:=#[.ite (.or (.not<|.val<|.meth "Yard" "has_tie" ⇑0 #[⇑1])<|.val<|.cmp .isin ⇑1<|.fld ⇑0 "ties_fallen") #[.never] .nil,.setIdx (.fld ⇑0 "ties_fallen") ⇑1<|.cst<|.bl dh,.expr<|.meth "Yard" "set_tie" ⇑0 #[⇑1]]}
instance SG:Fn:={ar:=2,sz:=2,body:=#[.ite (.or (.val<|.cmp .notin ⇑1<|.fld ⇑0 "lives")<|.val<|.cmp .isin ⇑1<|.fld ⇑0 "standing") #[.never] .nil,.augIdx (.fld ⇑0 "lives") ⇑1 .add 1,.setIdx (.fld ⇑0 "standing") ⇑1<|.make "Bridge" #[⇑1,.idx (.fld ⇑0 "lives") ⇑1,.lst .nil,.fld ⇑0 "greatest_age"],.expr<|.meth "Yard" "set_ties_of" ⇑0 #[⇑1]]}
instance SH:Fn:={ar:=2,sz:=2,body:=#[.ite (.val<|.cmp .notin ⇑1<|.fld ⇑0 "ties_fallen") #[.never] .nil,.expr<|.bm .dpop (.fld ⇑0 "ties_fallen") #[⇑1],.expr<|.meth "Yard" "set_tie" ⇑0 #[⇑1]]}
instance Sn:Fn:={ar:=2,sz:=5,body:=#[.for (.many [2,3,4]) (.seq<|.call "neighbours" #[.fld ⇑0 "net_made_of",⇑1]) #[.expr<|.meth "Yard" "set_tie" ⇑0 #[⇑2]]]}
instance Sm:Fn:={ar:=2,sz:=8,body:=#[.set (.many [2,3,4])<|.idx (.idx (.fld ⇑0 "net_made_of") ↑1) ⇑1,.set (.one 5)<|.and (.cmp .notin ⇑1<|.fld ⇑0 "ties_fallen")<|.and (.cmp .isin ⇑2<|.fld ⇑0 "standing")<|.cmp .isin ⇑3<|.fld ⇑0 "standing",.for (.many [6,7]) (.seq<|.tup #[.tup #[⇑2,⇑3],.tup #[⇑3,⇑2]]) #[.ite (.val ⇑5) #[.expr<|.meth "Bridge" "up" (.idx (.fld ⇑0 "standing") ⇑6) #[⇑1,⇑7,⇑4]] #[.ite (.val<|.cmp .isin ⇑6<|.fld ⇑0 "standing") #[.expr<|.meth "Bridge" "down" (.idx (.fld ⇑0 "standing") ⇑6) #[⇑1]] .nil]]]}
instance TL:Fn:={ar:=1,sz:=2,body:=#[.ite (.not<|.val<|.bi (.isi ["tuple"]) #[⇑0]) #[.never] .nil,.set (.one 1)<|.slc ⇑0 .none<|.some<|.neg ↑1,.ite (.or (.not<|.val<|.bi .all #[.comp [] 1 (.one 0) (.seq ⇑1) .yes<|.bi (.isi ["str"]) #[⇑0]])<|.val<|.cmp .notin ⇑1<|.glob "DEEDS"<|.tup [(.tup [(.str "tick")]),(.tup [(.str "come")]),(.tup [(.str "lost")]),(.tup [(.str "fall"),(.str "bridge")]),(.tup [(.str "fall"),(.str "tie")]),(.tup [(.str "back"),(.str "bridge")]),(.tup [(.str "back"),(.str "tie")])]) #[.never] .nil,.ite (.not<|.val<|.call "is_whole" #[.idx ⇑0<|.neg ↑1]) #[.never] .nil,.ret<|.tup #[⇑1,.idx ⇑0<|.neg ↑1]]}
instance TQ:Fn:={ar:=2,sz:=4,body:=#[.set (.one 2)<|.meth "Bridge" "end" ⇑0 #[⇑1],.ite (.val<|.cmp .ne ⇑2<|.cst<|.str "shut") #[.ret ⇑2] .nil,.set (.one 3)<|.meth "Bridge" "held" ⇑0 #[⇑1],.ite (.val<|.cmp .is ⇑3<|.cst .non) #[.ret<|.cst<|.str "no letter"] .nil,.ite (.val<|.cmp .ne ⇑1<|.idx (.meth "Bridge" "label" ⇑0 .nil) ↑2) #[.ret<|.cst<|.str "not rested on"] .nil,.ret<|.ife (.val<|.cmp .eq (.idx (.idx ⇑3 ↑0)<|.glob "AGREES"<|.int 6)<|.meth "Bridge" "stamp" ⇑0 .nil) (.cst<|.str "elder")<|.cst<|.str "not agreed"]}
instance S7:Fn:={ar:=1,sz:=6,body:=#[.set (.one 1)<|.lst .nil,.for (.one 2) (.range<|.bi .min2 #[.bi .len #[⇑0],↑80]) #[.set (.one 3)<|.bi .abs #[.idx ⇑0 ⇑2],.ite (.val<|.cmp .lt ⇑3<|.bin .pow ↑10 ↑18) #[.set (.one 4)<|.bin .mod (.bin .mul (.bin .mod (.bin .add (.bin .add ⇑3<|.bin .mul ↑7919 ⇑2) ↑3) ↑2147483647) ↑48271) ↑2147483647,.set (.one 4)<|.bin .mod (.bin .mul ⇑4 ⇑4) ↑2147483629,.expr<|.bm .append ⇑1 #[.bin .mod (.bin .fdiv ⇑4 ↑16) ↑1000],.expr<|.bm .append ⇑1 #[.bin .mod (.bin .fdiv ⇑4 ↑16000) ↑1000],.set (.one 4)<|.bin .mod (.bin .add ⇑4<|.bin .mul ↑40692<|.bin .add ⇑2 ↑7) ↑2147483587,.expr<|.bm .append ⇑1 #[.bin .mod (.bin .fdiv (.bin .mod (.bin .mul ⇑4 ⇑4) ↑2147483647) ↑16) ↑1000]] #[.set (.one 5) ↑0,.whl (.and (.val<|.cmp .ge ⇑3 ↑1000)<|.val<|.cmp .lt ⇑5 ↑60) #[.expr<|.bm .append ⇑1 #[.bin .mod ⇑3 ↑1000],.set (.one 3)<|.bin .fdiv ⇑3 ↑1000,.set (.one 5)<|.bin .add ⇑5 ↑1]]],.ret<|.slc ⇑1 .none<|.some ↑240]}
instance TN:Fn:={ar:=2,sz:=2,body:=#[.ite (.val<|.cmp .eqE ⇑0<|.lst .nil) #[.ret ↑0] .nil,.ret<|.bin .mod (.bm .popAt ⇑0 #[↑0]) ⇑1]}
instance TY:Fn:={ar:=3,sz:=9,body:=#[.set (.one 3)<|.lst .nil,.for (.one 4) (.range<|.bin .add ↑1<|.call "_law_take" #[⇑0,⇑1]) #[.set (.one 5)<|.call "_law_take" #[⇑0,↑1000],.whl (.val<|.cmp .isin ⇑5 ⇑3) #[.set (.one 5)<|.bin .mod (.bin .add ⇑5 ↑1) ↑1000],.expr<|.bm .append ⇑3 #[⇑5]],.set (.one 6)<|.lst .nil,.for (.one 4) (.range2 ↑1<|.bi .len #[⇑3]) #[.ite (.val<|.cmp .lt (.call "_law_take" #[⇑0,↑6]) ↑5) #[.expr<|.bm .append ⇑6 #[.tup #[.idx ⇑3<|.call "_law_take" #[⇑0,⇑4],.idx ⇑3 ⇑4]]] .nil],.for (.one 4) (.range<|.call "_law_take" #[⇑0,⇑2]) #[.set (.one 7)<|.call "_law_take" #[⇑0,.bi .len #[⇑3]],.ite (.val<|.cmp .gt (.bi .len #[⇑3]) ↑1) #[.expr<|.bm .append ⇑6 #[.tup #[.idx ⇑3 ⇑7,.idx ⇑3<|.bin .sub (.bin .sub ⇑7 ↑1)<|.call "_law_take" #[⇑0,.bin .sub (.bi .len #[⇑3]) ↑1]]]] .nil],.set (.one 8)<|.comp [0] 1 (.one 0) (.seq ⇑6) .yes<|.idx (.lst #[↑1,↑1,↑2,↑3,.bin .add ↑1<|.call "_law_take" #[⇑1,↑1000]])<|.call "_law_take" #[⇑1,↑5],.ret<|.call "make_net" #[⇑3,.comp [6,8] 1 (.one 0) (.range<|.bi .len #[⇑6]) .yes<|.tup #[.bi .minP #[.idx ⇑1 ⇑0],.bi .maxP #[.idx ⇑1 ⇑0],.idx ⇑2 ⇑0]]]}
instance TK:Fn:={ar:=1,sz:=3,body:=#[.set (.one 1)<|.comp [] 2 (.many [0,1]) (.seq<|.meth "Yard" "labels" ⇑0 .nil) .yes<|.tup #[.cst<|.str "tick",⇑0],.for (.one 2) (.seq ⇑1) #[.expr<|.meth "Yard" "deed" ⇑0 #[⇑2]],.whl (.val<|.cmp .neE (.meth "Yard" "road" ⇑0 .nil)<|.lst .nil) #[.expr<|.bm .append ⇑1 #[.tup #[.cst<|.str "come",↑0]],.expr<|.meth "Yard" "deed" ⇑0 #[.idx ⇑1<|.neg ↑1]],.ret ⇑1]}
instance S6:Fn:={ar:=2,sz:=7,body:=#[.set (.one 2)<|.call "_law_take" #[⇑0,↑16],.set (.one 3)<|.comp [] 2 (.many [0,1]) (.seq<|.meth "Yard" "labels" ⇑1 .nil) .yes ⇑0,.set (.one 4)<|.meth "Yard" "down" ⇑1 .nil,.set (.one 5)<|.bi .len #[.meth "Yard" "road" ⇑1 .nil],.set (.one 6)<|.comp [4] 1 (.one 0) (.range<|.bi .len #[.idx (.meth "Yard" "net" ⇑1 .nil) ↑1]) (.val<|.cmp .notin ⇑0<|.idx ⇑1 ↑1) ⇑0,.ite (.and (.val<|.cmp .eq ⇑2 ↑12)<|.val<|.cmp .neE ⇑3<|.lst .nil) #[.ret<|.tup #[.cst<|.str "fall",.cst<|.str "bridge",.idx ⇑3<|.call "_law_take" #[⇑0,.bi .len #[⇑3]]]] .nil,.ite (.and (.val<|.cmp .eq ⇑2 ↑13)<|.val<|.cmp .neE ⇑6<|.lst .nil) #[.ret<|.tup #[.cst<|.str "fall",.cst<|.str "tie",.idx ⇑6<|.call "_law_take" #[⇑0,.bi .len #[⇑6]]]] .nil,.ite (.and (.val<|.cmp .isin ⇑2<|.tup #[↑12,↑13,↑14])<|.val<|.cmp .ne (.idx ⇑4 ↑0)<|.tup .nil) #[.ret<|.tup #[.cst<|.str "back",.cst<|.str "bridge",.idx (.idx ⇑4 ↑0)<|.call "_law_take" #[⇑0,.bi .len #[.idx ⇑4 ↑0]]]] .nil,.ite (.and (.val<|.cmp .isin ⇑2<|.tup #[↑12,↑13,↑14])<|.val<|.cmp .ne (.idx ⇑4 ↑1)<|.tup .nil) #[.ret<|.tup #[.cst<|.str "back",.cst<|.str "tie",.idx (.idx ⇑4 ↑1)<|.call "_law_take" #[⇑0,.bi .len #[.idx ⇑4 ↑1]]]] .nil,.ite (.and (.val<|.cmp .eq ⇑2 ↑11)<|.val<|.cmp .gt ⇑5 ↑0) #[.ret<|.tup #[.cst<|.str "lost",.call "_law_take" #[⇑0,⇑5]]] .nil,.ite (.and (.val<|.cmp .gt ⇑2 ↑5)<|.val<|.cmp .gt ⇑5 ↑0) #[.ret<|.tup #[.cst<|.str "come",.idx (.lst #[↑0,.call "_law_take" #[⇑0,⇑5]])<|.bin .mod ⇑2 ↑2]] .nil,.ite (.val<|.cmp .eqE ⇑3<|.lst .nil) #[.ret<|.tup #[.cst<|.str "back",.cst<|.str "bridge",.idx (.idx ⇑4 ↑0) ↑0]] .nil,.ret<|.tup #[.cst<|.str "tick",.idx ⇑3<|.call "_law_take" #[⇑0,.bi .len #[⇑3]]]]}
instance TM:Fn:={ar:=3,sz:=5,body:=#[.set (.one 3)<|.lst .nil,.set (.one 4) ↑0,.whl (.and (.val<|.cmp .neE ⇑0<|.lst .nil)<|.val<|.cmp .lt (.bi .len #[⇑3]) ⇑2) #[.ite (.and (.val<|.cmp .lt ⇑4 ↑6)<|.val<|.cmp .eq (.call "_law_take" #[⇑0,↑7]) ↑6) #[.set (.one 3)<|.bin .add ⇑3<|.call "_law_round_of" #[⇑1],.set (.one 4)<|.bin .add ⇑4 ↑1] #[.expr<|.bm .append ⇑3 #[.call "_law_deed_now" #[⇑0,⇑1]],.expr<|.meth "Yard" "deed" ⇑1 #[.idx ⇑3<|.neg ↑1]]],.ret ⇑3]}
instance TU:Fn:={ar:=2,sz:=5,body:=#[.set (.one 2)<|.meth "Bridge" "held" ⇑0 #[⇑1],.ite (.val<|.cmp .is ⇑2<|.cst .non) #[.ret<|.cst<|.str "no letter"] .nil,.set (.one 3)<|.meth "Bridge" "stamp" ⇑0 .nil,.set (.one 4)<|.meth "Bridge" "label" ⇑0 .nil,.ite (.val<|.cmp .ne (.idx ⇑4 ↑2) ⇑1) #[.ret<|.idx (.lst #[.cst<|.str "not rested on",.cst<|.str "parent"])<|.bi .int #[.cmp .eq (.idx (.idx ⇑2 ↑0) ↑5) ⇑3]] .nil,.ite (.val<|.cmp .ne (.idx (.idx ⇑2 ↑0) ↑6) ⇑3) #[.ret<|.cst<|.str "not agreed"] .nil,.ret<|.idx (.lst #[.cst<|.str "elder",.cst<|.str "child"])<|.bi .int #[.cmp .eq (.idx (.idx ⇑2 ↑0) ↑1)<|.idx ⇑4 ↑3]]}
instance S8:Fn:={ar:=3,sz:=5,body:=#[.set (.one 3)<|.call "why_end" #[⇑0,⇑1],.set (.one 4) ⇑2,.ite (.val<|.cmp .notin ⇑2<|.tup #[.cst<|.str "child",.cst<|.str "parent",.cst<|.str "down"]) #[.set (.one 4)<|.cst<|.str "shut"] .nil,.ret<|.and (.bi (.isi ["str"]) #[⇑3])<|.and (.cmp .eq ⇑3 ⇑2)<|.cmp .eq (.meth "Bridge" "end" ⇑0 #[⇑1]) ⇑4]}
instance TB:Fn:={ar:=2,sz:=5,body:=#[.set (.one 2)<|.idx (.meth "Yard" "net" ⇑0 .nil) ↑1,.set (.one 3)<|.meth "Yard" "down" ⇑0 .nil,.set (.one 4)<|.comp [1,2,3] 1 (.one 0) (.range<|.bi .len #[⇑2]) (.and (.val<|.cmp .isin ⇑1<|.slc (.idx ⇑2 ⇑0) .none<|.some ↑2)<|.val<|.cmp .notin ⇑0<|.idx ⇑3 ↑1) ⇑0,.ret<|.comp [1,2,3] 1 (.one 0) (.seq ⇑4) (.val<|.cmp .notin (.bin .sub (.bi .sum #[.slc (.idx ⇑2 ⇑0) .none<|.some ↑2]) ⇑1)<|.idx ⇑3 ↑0) ⇑0]}
instance TW:Fn:={ar:=1,sz:=7,body:=#[.set (.one 1)<|.idx (.meth "Yard" "net" ⇑0 .nil) ↑1,.for (.many [2,3]) (.seq<|.meth "Yard" "labels" ⇑0 .nil) #[.set (.one 4)<|.meth "Yard" "bridge" ⇑0 #[⇑2],.set (.one 5)<|.call "_law_up" #[⇑0,⇑2],.for (.one 6) (.range<|.bin .add (.bi .len #[⇑1]) ↑1) #[.ite (.val<|.cmp .isin ⇑6 ⇑5) #[.ite (.not<|.val<|.call "_law_is_so" #[⇑4,⇑6,.call "_law_told" #[⇑4,⇑6]]) #[.ret<|.cst<|.bl di] .nil] #[.ite (.val<|.cmp .ne (.call "why_end" #[⇑4,⇑6])<|.cst<|.str "down") #[.ret<|.cst<|.bl di] .nil]]],.ret<|.cst<|.bl dh]}
instance TZ:Fn:={ar:=1,sz:=4,body:=#[.set (.one 1)<|.lst .nil,.for (.many [2,3]) (.seq<|.meth "Yard" "labels" ⇑0 .nil) #[.expr<|.bm .append ⇑1 #[.comp [0,2] 1 (.one 0) (.seq<|.call "_law_up" #[⇑0,⇑2]) .yes<|.meth "Bridge" "held" (.meth "Yard" "bridge" ⇑1 #[⇑2]) #[⇑0]]],.ret<|.tup #[.bi .list #[.meth "Yard" "labels" ⇑0 .nil],.bi .list #[.meth "Yard" "stamps" ⇑0 .nil],.bi .list #[.meth "Yard" "road" ⇑0 .nil],⇑1]]}
instance TX:Fn:={ar:=2,sz:=3,body:=#[.set (.one 2)<|.call "_law_take" #[⇑0,↑4],.ite (.val<|.cmp .eq ⇑2 ↑0) #[.ret<|.cst .non] .nil,.ite (.val<|.cmp .lt ⇑2 ↑3) #[.ret ⇑1] .nil,.ret<|.tup #[.call "_law_take" #[⇑0,↑3],.call "_law_take" #[⇑0,↑4]]]}
instance S9:Fn:={ar:=2,sz:=5,body:=#[.set (.one 2)<|.tup #[.call "_law_take" #[⇑0,↑2],.call "_law_take" #[⇑0,↑9]],.set (.one 3)<|.tup #[.call "_law_take" #[⇑0,↑2],.call "_law_take" #[⇑0,↑3]],.set (.one 4)<|.call "_law_pair" #[⇑0,⇑1],.ret<|.tup #[⇑2,⇑3,.call "_law_take" #[⇑0,↑8],.call "_law_take" #[⇑0,↑4],.call "_law_take" #[⇑0,↑3],⇑4,.call "_law_pair" #[⇑0,⇑1]]]}
instance S5:Fn:={ar:=1,sz:=9,body:=#[.set (.one 2)<|.comp [] 1 (.one 0) (.range<|.bin .add ↑1<|.call "_law_take" #[⇑0,↑3]) .yes<|.tup #[⇑0,.bin .add ↑3<|.bin .mul ↑3 ⇑0,.bin .add ↑1 ⇑0],.set (.one 3)<|.make "Bridge" #[↑5,.call "_law_take" #[⇑0,↑3],⇑2,.bin .add ↑4<|.call "_law_take" #[⇑0,↑8]],.set (.one 4)<|.comp [] 1 (.one 0) (.seq ⇑2) .yes<|.idx ⇑0 ↑0,.set (.one 5) ↑0,.whl (.or (.val<|.cmp .lt ⇑5 ↑2)<|.and (.val<|.cmp .neE ⇑0<|.lst .nil)<|.val<|.cmp .lt ⇑5 ↑30) #[.set (.one 6)<|.call "_law_take" #[⇑0,↑8],.set (.one 1)<|.call "_law_take" #[⇑0,↑4],.ite (.val<|.cmp .lt ⇑6 ↑4) #[.expr<|.meth "Bridge" "hear" ⇑3 #[⇑1,.call "_law_letter" #[⇑0,.meth "Bridge" "stamp" ⇑3 .nil]]] #[.ite (.val<|.cmp .lt ⇑6 ↑7) #[.expr<|.meth "Bridge" "tick" ⇑3 .nil] #[.ite (.val<|.cmp .isin ⇑1 ⇑4) #[.expr<|.meth "Bridge" "down" ⇑3 #[⇑1],.expr<|.bm .remove ⇑4 #[⇑1]] #[.ite (.val<|.cmp .lt ⇑1<|.bi .len #[⇑2]) #[.expr<|.meth "Bridge" "up" ⇑3 #[⇑1,.idx (.idx ⇑2 ⇑1) ↑1,.idx (.idx ⇑2 ⇑1) ↑2],.expr<|.bm .append ⇑4 #[⇑1]] .nil]]],.for (.one 7) (.range ↑4) #[.set (.one 8)<|.cst<|.str "down",.ite (.val<|.cmp .isin ⇑7 ⇑4) #[.set (.one 8)<|.call "_law_told" #[⇑3,⇑7]] .nil,.ite (.or (.val<|.cmp .ne (.call "why_end" #[⇑3,⇑7]) ⇑8)<|.and (.val<|.cmp .lt ⇑7<|.bi .len #[⇑2])<|.not<|.val<|.call "_law_is_so" #[⇑3,⇑7,⇑8]) #[.ret<|.cst<|.bl di] .nil],.set (.one 5)<|.bin .add ⇑5 ↑1],.ret<|.cst<|.bl dh]}
instance S4:Fn:={ar:=1,sz:=8,body:=#[.set (.one 1)<|.call "_law_draws" #[⇑0],.set (.one 2)<|.bin .add ↑4<|.call "_law_take" #[⇑1,.idx (.lst #[↑13,↑13,↑13,↑197])<|.call "_law_take" #[⇑1,↑4]],.ite (.not<|.val<|.call "_law_alone" #[.pick ⇑1 (.some ↑1) .none ↑2]) #[.ret<|.cst<|.bl di] .nil,.set (.one 1)<|.pick ⇑1 .none .none ↑2,.set (.one 3)<|.call "_law_net" #[⇑1,↑4,↑4],.set (.one 4)<|.call "_law_row" #[⇑1,.make "Yard" #[⇑3,⇑2],↑50],.set (.one 5)<|.make "Yard" #[⇑3,⇑2],.ite (.not<|.val<|.call "_law_right" #[⇑5]) #[.ret<|.cst<|.bl di] .nil,.for (.one 6) (.seq ⇑4) #[.expr<|.meth "Yard" "deed" ⇑5 #[⇑6],.set (.one 7)<|.call "_law_look" #[⇑5],.ite (.or (.not<|.val<|.call "_law_right" #[⇑5])<|.val<|.cmp .ne (.call "_law_look" #[⇑5]) ⇑7) #[.ret<|.cst<|.bl di] .nil],.ret<|.cst<|.bl dh]}
class Al(P:Pg):Prop where
 c0:P "is_whole" = df S2
 c1:P "is_whole_between" = df S3
 c2:P "make_net" = df TD
 c3:P "are_bridges" = df Sr
 c4:P "is_tie" = df S1
 c5:P "lesser_end_first" = df TC
 c6:P "neighbours" = df TF
 c7:P "far_end" = df S0
 c8:P "newer" = df TH
 c9:P "best_offer" = df Sv
 c10:P "Bridge.__init__" = df SJ
 c11:P "Bridge.label" = df SN
 c12:P "Bridge.stamp" = df SB
 c13:P "Bridge.held" = df SW
 c14:P "Bridge.up" = df SF
 c15:P "Bridge.down" = df SZ
 c16:P "Bridge.hear" = df SX
 c17:P "Bridge.tick" = df SE
 c18:P "Bridge.let_grow_older" = df SO
 c19:P "Bridge.reckon_label" = df SA
 c20:P "Bridge.take_label" = df SC
 c21:P "Bridge.letter_over" = df SU
 c22:P "Bridge.is_rested_on" = df SM
 c23:P "Bridge.is_agreed_to" = df SK
 c24:P "Bridge.end" = df SY
 c25:P "Yard.__init__" = df Sz
 c26:P "Yard.net" = df Sx
 c27:P "Yard.road" = df Sw
 c28:P "Yard.down" = df SR
 c29:P "Yard.labels" = df Sy
 c30:P "Yard.stamps" = df So
 c31:P "Yard.bridge" = df SI
 c32:P "Yard.has_tie" = df SV
 c33:P "Yard.deed" = df SQ
 c34:P "Yard.tick_of" = df Sq
 c35:P "Yard.come" = df SL
 c36:P "Yard.take_off" = df Su
 c37:P "Yard.fall_of_bridge" = df SS
 c38:P "Yard.fall_of_tie" = df ST
 c39:P "Yard.back_of_bridge" = df SG
 c40:P "Yard.back_of_tie" = df SH
 c41:P "Yard.set_ties_of" = df Sn
 c42:P "Yard.set_tie" = df Sm
 c43:P "read_deed" = df TL
 c44:P "why_end" = df TQ
 c45:P "_law_draws" = df S7
 c46:P "_law_take" = df TN
 c47:P "_law_net" = df TY
 c48:P "_law_round_of" = df TK
 c49:P "_law_deed_now" = df S6
 c50:P "_law_row" = df TM
 c51:P "_law_told" = df TU
 c52:P "_law_is_so" = df S8
 c53:P "_law_up" = df TB
 c54:P "_law_right" = df TW
 c55:P "_law_look" = df TZ
 c56:P "_law_pair" = df TX
 c57:P "_law_letter" = df S9
 c58:P "_law_alone" = df S5
 c59:P "law" = df S4
set_option hygiene false in
local macro_rules|`(#check $r:ident $c:ident $d:ident $s:str $a:num $z:num)=>do
 let v:=(Array.range a.getNat).map λi=>Lean.mkIdent (.mkSimple s!"a{i}")
 let e<-(Array.range z.getNat).mapM λi=>if i<a.getNat then `(df $(v[i]!))else`(dg)
 `(theorem $r [Al P](q:B0 P n $d [$e,*] h Q X):wF P (n+1) $s [$v,*] h Q X:=Zb $c rfl q)
#check XJ Al.c0 S2 "is_whole" 1 1
#check XG Al.c1 S3 "is_whole_between" 3 3
#check N4 Al.c2 TD "make_net" 2 2
#check Kd Al.c3 Sr "are_bridges" 1 1
#check De Al.c4 S1 "is_tie" 2 2
#check XD Al.c5 TC "lesser_end_first" 1 1
#check MS Al.c6 TF "neighbours" 2 5
#check Bc Al.c7 S0 "far_end" 2 2
#check FG Al.c8 TH "newer" 2 2
#check Mc Al.c9 Sv "best_offer" 2 3
#check Kc Al.c10 SJ "Bridge.__init__" 5 8
#check JS Al.c11 SN "Bridge.label" 1 1
#check JE Al.c12 SB "Bridge.stamp" 1 1
#check Ka Al.c13 SW "Bridge.held" 2 2
#check Nn Al.c14 SF "Bridge.up" 4 4
#check Ki Al.c15 SZ "Bridge.down" 2 2
#check J7 Al.c16 SX "Bridge.hear" 3 4
#check J8 Al.c17 SE "Bridge.tick" 1 2
#check Yu Al.c18 SO "Bridge.let_grow_older" 1 4
#check YV Al.c19 SA "Bridge.reckon_label" 1 8
#check Xx Al.c20 SC "Bridge.take_label" 2 2
#check Y3 Al.c21 SU "Bridge.letter_over" 2 8
#check YU Al.c22 SM "Bridge.is_rested_on" 2 3
#check YS Al.c23 SK "Bridge.is_agreed_to" 2 3
#check Mm Al.c24 SY "Bridge.end" 2 2
#check Nq Al.c25 Sz "Yard.__init__" 3 4
#check OA Al.c26 Sx "Yard.net" 1 1
#check Nx Al.c27 Sw "Yard.road" 1 1
#check NZ Al.c28 SR "Yard.down" 1 2
#check Kg Al.c29 Sy "Yard.labels" 1 1
#check J5 Al.c30 So "Yard.stamps" 1 1
#check Kh Al.c31 SI "Yard.bridge" 2 2
#check Jv Al.c32 SV "Yard.has_tie" 2 2
#check M3 Al.c33 SQ "Yard.deed" 2 4
#check JB Al.c34 Sq "Yard.tick_of" 2 5
#check WC Al.c35 SL "Yard.come" 2 6
#check WJ Al.c36 Su "Yard.take_off" 2 2
#check YW Al.c37 SS "Yard.fall_of_bridge" 2 2
#check XC Al.c38 ST "Yard.fall_of_tie" 2 2
#check YT Al.c39 SG "Yard.back_of_bridge" 2 2
#check XH Al.c40 SH "Yard.back_of_tie" 2 2
#check XF Al.c41 Sn "Yard.set_ties_of" 2 5
#check JV Al.c42 Sm "Yard.set_tie" 2 8
#check NI Al.c43 TL "read_deed" 1 2
#check AU Al.c44 TQ "why_end" 2 4
#check NS Al.c45 S7 "_law_draws" 1 6
#check OO Al.c46 TN "_law_take" 2 2
#check A0 Al.c47 TY "_law_net" 3 9
#check Jk Al.c48 TK "_law_round_of" 1 3
#check JA Al.c49 S6 "_law_deed_now" 2 7
#check Aa Al.c50 TM "_law_row" 3 5
#check OY Al.c51 TU "_law_told" 2 5
#check M6 Al.c52 S8 "_law_is_so" 3 5
#check BB Al.c53 TB "_law_up" 2 5
#check Nm Al.c54 TW "_law_right" 1 7
#check Oc Al.c55 TZ "_law_look" 1 4
#check OR Al.c56 TX "_law_pair" 2 3
#check Ma Al.c57 S9 "_law_letter" 2 5
#check Ng Al.c58 S5 "_law_alone" 1 9
#check PV Al.c59 S4 "law" 1 8
local macro_rules|`(#[$x])=>`(.cons $x .nil)|`(#[$x,$y,*])=>`(.cons $x #[$y,*])
local macro_rules | `(tactic| walk_at "ne")=>`(tactic| first | assumption | (apply Ne.symm; assumption) | ((with_reducible apply ne_none'); (· assumption); (· walk_at "look")) | (apply Ne.symm; (with_reducible apply ne_none'); (· assumption); (· walk_at "look")))
local macro_rules | `(tactic| walk_at "look")=>`(tactic| first | assumption | with_reducible exact dk | ((with_reducible apply upd_ne'); (· walk_at "ne"); (· walk_at "look")) | ((with_reducible apply Ext.get); (· assumption); (· walk_at "look")) | ((with_reducible apply ExtB.get); (· assumption); (· walk_at "ne"); (· walk_at "look")))
local macro_rules | `(tactic| walk_at "ar")=>`(tactic| first | decide | lia | assumption | (simp only [Ç,ğ]; decide))
local macro_rules | `(tactic| walk_at "mul")=>`(tactic| first | exact .inl (.inr<|by lia) | exact .inl (.inl<|by lia) | exact .inr ⟨by decide,by decide⟩)
local macro_rules | `(tactic| walk_at "setl")=>`(tactic| first | (simp only [Ŀ,Ŷ,ż,İ,List.foldl_nil,ώ,Ϗ]; done) | (simp only [Ŀ,Ŷ,ż,İ,List.foldl_nil,ώ,Ϗ]; exact rfl) | exact rfl)
local macro_rules | `(tactic| walk_at "w")=>`(tactic| with_reducible conv=>whnf)
local macro_rules | `(tactic| walk_at "py1")=>do
 let a<-[`dw0,`ab_int,`b_add,`b_sub,`g_int,`g_bl,`g_ref,`g_tbl,`c_lt,`c_gt,`c_le,`c_ge,`c_eqI,`c_neI,`c_eqS,`c_neS,`c_isN,`c_notN,`ag_add,`ln_scr,`ln_tup,`in_bl,`mn2,`mx2,`it_tup].toArray.mapM λn=>`(tactic| refine $(Lean.mkIdent n) ?_)
 let c<-[`ln_lst,`tp_lst,`ls_lst,`sl_lst,`it_lst,`dc_of].toArray.mapM λn=>`(tactic| ((with_reducible apply $(Lean.mkIdent n)); (· walk_at "look")))
 `(tactic| first
 |(with_reducible first $[| $a:tactic]*)
 |((with_reducible apply QZ);(· exact rfl))
 |((with_reducible apply Hr);(· walk_at "setl"))|((with_reducible apply Ip);(· (simp only[bindL,ώ,Ϗ];exact rfl)))|((with_reducible apply b_mul);(· walk_at "mul"))|((with_reducible apply b_fdiv);(· walk_at "ar"))|((with_reducible apply b_mod);(· walk_at "ar"))|((with_reducible apply Ii);(· walk_at "ar");(· simp only[Int.reduceToNat,Int.reducePow];exact rfl))|((with_reducible apply Ck);(· walk_at "look");(· walk_at "look");(· first|(simp only[Ϩ,List.nil_append,Ç,ğ];decide)|lia))|((with_reducible apply Lc);(· walk_at "ar"))
 |((with_reducible apply dy);(· exact rfl))|((with_reducible apply ZB);(· walk_at "look");(· exact rfl))
 |((with_reducible apply Ym);(· walk_at "look");(· walk_at "ar"))|((with_reducible apply Ld);(· walk_at "look");(· exact rfl))|((with_reducible apply Ij);(· walk_at "look");(· exact rfl))
 |((with_reducible apply P9);(· exact rfl))|((with_reducible apply eC);(· decide))
 | ((with_reducible apply L6);(· first | exact .inl rfl | exact .inr (.inl rfl) | simp);(· walk_at "look")) | ((with_reducible apply Hl);(· first | exact rfl | simp);(· walk_at "look")) | ((with_reducible apply Zp);(· walk_at "look");(· walk_at "ar")) | (first $[| $c:tactic]*))
local macro_rules | `(tactic| fail)=>`(tactic| ((repeat walk_at "py1"); walk_at "w"))
local macro_rules | `(tactic| walk_at "p")=>`(tactic| ((repeat first | walk_at "py1" | refine eF rfl ?_ | refine eK rfl ?_); walk_at "w"))
local macro_rules | `(tactic| exists $e)=>`(tactic| (fail; refine $e ?_))
local macro_rules | `(tactic| refine' $e)=>`(tactic| (fail; refine $e))
section
variable {α:Type}(val:α->Val)
abbrev Zm(kvs:List<|Int×α):List<|Val×Val:=kvs.map λp=>(.int p.1,val p.2)
abbrev Zs(kvs:List<|Int×α)(k:Int)(v:α):List<|Int×α:=if(kvs.lookup k).isSome then kvs.map (λp=>if p.1=k then(k,v)else p)else kvs++[(k,v)]
abbrev Zk(kvs:List<|Int×α)(k:Int):List<|Int×α:=kvs.filter λp=>fm (p.1≠k)
variable {val}
def WY(a b:Int):(Val.int a==Val.int b)=fm (a=b):=by
 by_cases e:a=b
 .subst e;simp
 .rw[fh e];exact beq_eq_false_iff_ne.mpr λz=>e (by injection z)
def Z4(kvs:List<|Int×α)(k:Int):dP (Zm val kvs) (.int k)=(kvs.lookup k).map val:=by
 induction kvs with
 |nil=>rfl
 |cons p r ih =>
  unfold dP Zm at ih ⊢;rw[Í,đ,á,WY];by_cases e:p.1=k
  .have:(k==p.1)=dh:=by simp[e]
   simp[e]
  .have h2:(k==p.1)=di:=by simpa using λz=>e z.symm
   rw[fh e,h2];exact ih
def Xf(kvs:List<|Int×α)(k:Int):dQ (Zm val kvs) (.int k)=(kvs.lookup k).isSome:=by
 induction kvs with
 |nil=>rfl
 |cons p r ih =>
  unfold dQ Zm at ih ⊢;rw[Í,Ħ,á,WY];by_cases e:p.1=k
  .simp[e]
  .have h2:(k==p.1)=di:=by simpa using λz=>e z.symm
   rw[fh e,h2];exact ih
def Z6(kvs:List<|Int×α)(k:Int)(v:α):dR (Zm val kvs) (.int k) (val v)=Zm val (Zs kvs k v):=by
 unfold dR Zs;rw[Xf];split
 .unfold Zm;rw[ô,ô];refine č λp _=>?_;simp only[bb,WY];by_cases e:p.1=k
  .simp[e]
  .simp[e]
 .unfold Zm;rw[Ð];rfl
def X3(kvs:List<|Int×α)(k:Int):dU (Zm val kvs) (.int k)=Zm val (Zk kvs k):=by
 unfold dU Zk Zm;induction kvs with
 |nil=>rfl
 |cons p r ih =>rw[Í,ú,ú,WY,ih];by_cases e:p.1=k<;>simp[e]
def X0(ns:List Int):dz (ns.map Val.int)=df ns:=by
 induction ns with
 |nil=>rfl
 |cons n ns ih=>show(dz<|ns.map Val.int).map _=_;rw[ih];rfl
def O8(kvs:List<|Int×α):keysOf (Zm val kvs)=df (kvs.map (·.1)):=by unfold keysOf Zm;rw[ô];exact(congrArg dz (ô (f:=λp:Int×α=>p.1) (g:=Val.int) (l:=kvs)).symm).trans (X0 _)
def J6(kvs:List<|Int×α):(Zm val kvs).length=kvs.length:=by unfold Zm;rw[À]
variable {kvs:List (Int×α)}
def Zx{k:Int}{v:α}(h:kvs.lookup k=df v):(k,v)∈kvs:=by
 induction kvs with
 |nil=>cases h
 |cons p r ih =>
  rw[á]at h;by_cases e:k=p.1
  .have:(k==p.1)=dh:=by simp[e]
   rw[this]at h;cases h;rw[e];exact ñ
  .have:(k==p.1)=di:=⇑e
   rw[this]at h;exact ß _<|ih h
def ZN{k:Int}(h:k∈kvs.map (·.1)):∃v,kvs.lookup k=df v:=by
 induction kvs with
 |nil=>cases h
 |cons p r ih =>
  rw[á];by_cases e:k=p.1
  .have:(k==p.1)=dh:=by simp[e]
   rw[this];exact⟨_,rfl⟩
  .have:(k==p.1)=di:=⇑e
   rw[this];rw[Í,Æ]at h;exact ih<|h.resolve_left e
def Xw{k:Int}(h:kvs.lookup k=dg):k∉kvs.map (·.1):=λm=>by let⟨v,e⟩:=ZN m;rw[h]at e;cases e
def W7(nd:(kvs.map (·.1)).Nodup){k:Int}{v:α}(h:(k,v)∈kvs):kvs.lookup k=df v:=by
 induction kvs with
 |nil=>cases h
 |cons p r ih =>
  rw[Í,Ą]at nd;rw[á];rcases Æ.mp h with e|h
  .subst e;simp
  .have:k≠p.1:=λz=>nd.1 (z▸û (f:=(·.1)) h);have:(k==p.1)=di:=⇑this
   rw[this];exact ih nd.2 h
def Wg(kvs:List<|Int×α)(k:Int)(v:α):(Zs kvs k v).map (·.1)=if(kvs.lookup k).isSome then kvs.map (·.1)else kvs.map (·.1)++[k]:=by
 unfold Zs;split
 .rw[ô];refine č λp _=>?_;simp only[bb];by_cases e:p.1=k<;>simp[e]
 .rw[Ð];rfl
def XX{k:Int}(v:α)(h:k∉kvs.map (·.1)):Zs kvs k v=kvs++[(k,v)]:=by
 unfold Zs;have:kvs.lookup k=dg:=by
  cases e:kvs.lookup k with
  |none=>rfl
  |some w=>exact fk (û (f:=(·.1))<|Zx e) h
 rw[this];rfl
def Wx(nd:(kvs.map (·.1)).Nodup)(k:Int)(v:α):((Zs kvs k v).map (·.1)).Nodup:=by
 rw[Wg];split
 .exact nd
 .rename_i h;have h:kvs.lookup k=dg:=ŧ.mp h;rw[ä];refine⟨nd,by simp,λa ha b hb=>?_⟩;rw[Ñ.mp hb];exact λe=>Xw h<|e▸ha
variable {p:Int×α}
def W2{k:Int}{v:α}(h:p∈Zs kvs k v):p=(k,v)\/p∈kvs:=by
 unfold Zs at h;split at h
 .obtain⟨q,hq,e⟩:=Þ.mp h;split at e
  .exact .inl e.symm
  .exact .inr<|e▸hq
 .rcases à.mp h with h|h
  .exact .inr h
  .exact .inl<|Ñ.mp h
def NO(kvs:List<|Int×α)(k:Int):(Zk kvs k).Sublist kvs:=ϊ
def YC(nd:(kvs.map (·.1)).Nodup)(k:Int):((Zk kvs k).map (·.1)).Nodup:=nd.sublist ((NO kvs k).map _)
def FX{k:Int}(h:p∈Zk kvs k):p.1≠k:=by unfold Zk at h;have:=(ă.mp h).2;simpa using this
end
def Z8:∀{m:Nat}{ns:List Int},ns.Nodup->(∀x∈ns,0<=x/\x<m)->ns.length<=m
 |0,ns,nd,h=>by
  cases ns with
  |nil=>exact Ï _
  |cons x xs=>have:=h x ñ;lia
 |m+1,ns,nd,h=>by
  by_cases hm:(m:Int)∈ns
  .have:=Z8 (m:=m) (nd.erase (m:Int)) λx hx=>by
    have h1:=(nd.mem_erase_iff).mp hx;have h2:=h x h1.2;have:=h1.1;lia
   rw[aS hm]at this;lia
  .have:=Z8 (m:=m) nd λx hx=>by
    have h2:=h x hx;have:x≠(m:Int):=λe=>hm<|e▸hx;lia
   lia
noncomputable abbrev Pi:=Int×Int
noncomputable abbrev pV(p:Pi):Val:=.tup [.int p.1,.int p.2]
abbrev oV:Option Pi->Val
 |none=>.non
 |some p=>pV p
structure L where
 num:Pi
 st:Pi
 root:Int
 cost:Int
 age:Int
 rests:Option Pi
 agrees:Option Pi
noncomputable abbrev L.v(l:L):Val:=.tup [pV l.num,pV l.st,.int l.root,.int l.cost,.int l.age,oV l.rests,oV l.agrees]
noncomputable abbrev AF(t:Int×Int):Val:=.tup [.int t.1,.int t.2]
noncomputable abbrev hdV(t:L×Int):Val:=.tup [t.1.v,.int t.2]
structure Lab where
 root:Int
 cost:Int
 up:Option<|Int×Pi
 deriving DecidableEq
abbrev upV:Option (Int×Pi)->Val
 |none=>.non
 |some p=>.int p.1
abbrev rsV:Option (Int×Pi)->Val
 |none=>.non
 |some p=>pV p.2
noncomputable abbrev Lab.v(l:Lab):Val:=.tup [.int l.root,.int l.cost,upV l.up,rsV l.up]
structure Br where
 number:Int
 life:Int
 most:Int
 ties:List<|Int×(Int×Int)
 held:List<|Int×(L×Int)
 label:Lab
 version:Int
 count:Int
structure dC(h:Hs)(b t d:Ad)(B:Br):Prop where
 ins:h b=df (.ins "Bridge" [("number",.int B.number),("life",.int B.life),("age_let_go",.int B.most),("ties_by_place",.ref t),("held_by_place",.ref d),("label_now",B.label.v),("version",.int B.version),("ticks_had",.int B.count)])
 ties:h t=df (.dct<|Zm AF B.ties)
 held:h d=df (.dct<|Zm hdV B.held)
 ne:t≠d
variable {h:Hs} {b:Ad} {o:Ob}
def BK{a:Ad}{u:Ob}(ha:h a=df o)(hb:h b=df u)(ne:o≠u):a≠b:=λe=>by subst e;rw[ha]at hb;exact ne (ï hb)
variable {d:Ad} {B:Br}
def dC.nbt{t:Ad}(x:dC h b t d B):b≠t:=BK x.ins x.ties nofun
def dC.nbd{t:Ad}(x:dC h b t d B):b≠d:=BK x.ins x.held nofun
structure Ex(S:List Ad)(h g:Hs):Prop where
 get:∀{a:Ad}{o:Ob},a∉S->h a=df o->g a=df o
def Ex.refl{S:List Ad}:Ex S h h:=⟨λ_ e=>e⟩
variable {g:Hs}
def Ex.trans{k:Hs}{S:List Ad}(e:Ex S h g)(f:Ex S g k):Ex S h k:=⟨λn x=>f.get n<|e.get n x⟩
def Ex.of{S:List Ad}(e:Ext h g):Ex S h g:=⟨λ_ x=>e.get x⟩
variable {w:Ad}
def Ex.upd{S:List Ad}(m:w∈S):Ex S h<|upd h w o:=⟨λ{a _} n x=>by rw[dj λe:a=w=>n<|by rw[e];exact m];exact x⟩
def Ex.sub{S T:List Ad}(e:Ex S h g)(m:∀a∈S,a∈T):Ex T h g:=⟨λn x=>e.get (λz=>n<|m _ z) x⟩
variable {p:Ad}
def Ex.none(e:Ex [b] h g)(hb:g b≠dg)(hp:g p=dg):h p=dg:=by
 cases z:h p with
 |none=>rfl
 |some o =>
  by_cases hpb:p=b
  .subst hpb;exact fk hp hb
  .rw[e.get ⇑hpb z]at hp;cases hp
def Ex.ofB{S:List Ad}(e:ExtB w h g)(m:w∈S):Ex S h g:=⟨λn x=>e.get (λz=>n<|z▸m) x⟩
def dC.keep{t:Ad}{S:List Ad}(x:dC h b t d B)(e:Ex S h g)(hb:b∉S)(ht:t∉S)(hd:d∉S):dC g b t d B:=⟨e.get hb x.ins,e.get ht x.ties,e.get hd x.held,x.ne⟩
def dC.ext{t:Ad}(x:dC h b t d B)(e:Ext h g):dC g b t d B:=⟨e.get x.ins,e.get x.ties,e.get x.held,x.ne⟩
def nw{Q:Q1}(q:∀p,h p=dg->Q (.ref p) (upd h p o)):new h o Q:=Yl q
abbrev Yr(most:Int)(held:List<|Int×(L×Int)):List<|Int×(L×Int):=held.filterMap λp=>if p.2.2+1<most then df (p.1,(p.2.1,p.2.2+1))else dg
variable {most:Int}
def AH{held:List (Int×(L×Int))}{p:Int×(L×Int)}(h:p∈Yr most held):∃a,(p.1,(p.2.1,a))∈held:=by
 let⟨q,hq,e⟩:=ŵ.mp h;split at e
 .cases e;exact⟨_,hq⟩
 .cases e
def JI(most:Int)(held:List<|Int×(L×Int)):((Yr most held).map (·.1)).Sublist (held.map (·.1)):=by
 unfold Yr;induction held with
 |nil=>exact œ _
 |cons p r ih =>
  rw[ê];split
  .exact ih.cons _
  .rename_i q e;split at e
   .cases e;exact ih.cons₂ _
   .cases e
def Aw(most:Int)(held:List<|Int×(L×Int)):(Yr most held).length<=held.length:=ž _ _
def YJ{α β:Type}{f:α->β}:∀{xs:List α}{i:Nat}{q:α},(xs.map f).Nodup->xs[i]?=df q->f q∉(xs.take i).map f
 |[],_,_,_,h=>by simp at h
 |x::xs,0,_,_,_=>by simp
 |x::xs,i+1,q,nd,h=>by
  rw[Í,Ą]at nd;have h:xs[i]?=df q:=⇑h
  rw[ϋ,Í,Æ,not_or];exact⟨λe=>nd.1<|e▸û (è h),YJ nd.2 h⟩
variable {α:Type} {xs:List α} {i:Nat} {x:α}
def Zi(h:xs[i]?=df x):xs.take (i+1)=xs.take i++[x]:=by rw[ŉ,h];rfl
def ZK{f:α->Val}{v:Val}(h:(xs.map f)[i]?=df v):∃x,xs[i]?=df x/\v=f x:=by rw[Ø]at h;let⟨x,h1,h2⟩:=Ë.mp h;exact⟨x,h1,h2.symm⟩
variable {kvs:List (Int×α)}
def Nr{val:α->Val}{v:Val}(h:((Zm val kvs).map<|itemOf di)[i]?=df v):∃p,kvs[i]?=df p/\v=.tup [.int p.1,val p.2]:=by let⟨q,h1,rfl⟩:=ZK h;unfold Zm at h1;rw[Ø]at h1;let⟨x,h2,rfl⟩:=Ë.mp h1;exact⟨x,h2,rfl⟩
def GJ{val:α->Val}(kvs:List<|Int×α):((Zm val kvs).map<|itemOf di).length=kvs.length:=by rw[À,J6]
variable {P:Pg} [Al P] {n:Nat}{h:Hs}{w b t d st a f tt hh:Ad}{S B:Br}{c:Int}{all:List (Int×Int)}{ps:List Int}{Q:Q1}{X:XQ}
def Jo(x:dC h b t d B)(k:Q B.label.v h):wF P (n+1) "Bridge.label" [.ref b] h Q X:=by let⟨hi,ht,hd,Ţ⟩:=x;refine JS ?_;refine' k
def Z1(x:dC h b t d B)(k:Q (pV (B.life,B.version)) h):wF P (n+1) "Bridge.stamp" [.ref b] h Q X:=by let⟨hi,ht,hd,Ţ⟩:=x;refine JE ?_;refine' k
abbrev hdO:Option (L×Int)->Val
 |none=>.non
 |some p=>hdV p
def Xu{p:Int}(x:dC h b t d B)(k:Q (hdO<|B.held.lookup p) h):wF P (n+1) "Bridge.held" [.ref b,.int p] h Q X:=by
 let⟨hi,ht,hd,Ţ⟩:=x;refine Ka ?_
 exists CS (v:=.int p) hd rfl
 rw[Z4];cases e:B.held.lookup p with
 |none=>rw[e]at k;exact k
 |some q=>rw[e]at k;exact k
def FP(x:dC h b t d B)(nd:(B.held.map (·.1)).Nodup)(hl:B.held.length<1000)(k:∀d' g,h d'=dg->dC g b t d' {B with held:=Yr B.most B.held}->Ex [b] h g->Q .non g):wF P (n+1) "Bridge.let_grow_older" [.ref b] h Q X:=by
 let⟨hi,ht,hd,Ţ⟩:=id x;refine Yu ?_;fail;intro p hp;have npd:=Za hd hp;have npb:=Za hi hp;have npt:=Za ht hp;have nbd:=x.nbd;refine' Zr (λi e g=>Sm2 λu v=>Cj4 (e=[df<|.ref b,df<|.ref p,u,v]) (g p=df (.dct<|Zm hdV<|Yr B.most<|B.held.take i)) (g d=df (.frz<|Zm hdV B.held))<|Ex [d] h g) ⟨dg,dg,rfl,by rw[dj npd.symm];exact dk,dk,?_⟩ ?_ ?_ ?_
 .exact⟨λm e=>by rw[dj λz=>m<|by simp[z],dj<|Za e hp];exact e⟩
 .rintro i e g hi2 ⟨u,v,rfl,h1,h2,h3⟩;exact h2
 .rintro i v e g hv ⟨u,w,rfl,h1,h2,h3⟩ K hK;let⟨q,hq,rfl⟩:=Nr hv;have hi1:=h3.get ⇑nbd hi;let⟨pl,l,a⟩:=q;have e1:Yr B.most (B.held.take<|i+1)=Yr B.most (B.held.take i)++Yr B.most [(pl,(l,a))]:=by
   unfold Yr;rw[Zi hq,List.filterMap_append]
  refine' eL (λhc=>?_) (λhc=>?_)
  .refine' YD (k:=.int pl) h1 ⟨rfl,?_⟩ ?_
   .rw[J6];have h5:=Aw B.most<|B.held.take i;have h6:(B.held.take i).length<=B.held.length:=Η _ _;exact Ò (Ô h5 h6) (Ŵ hl<|by decide)
   fail;rw[show Val.tup [l.v,.int<|a+1]=hdV (l,a+1) from rfl,Z6];refine hK _ _ ⟨_,_,rfl,?_,?_,?_⟩
   .rw[dk,e1,XX]
    .unfold Yr;rw[ê,ff hc];rfl
    .exact λm=>YJ nd hq<|(JI _ _).subset m
   .rw[dj npd];exact h2
   .exact⟨λm e=>by rw[dj<|Za e hp];exact h3.get m e⟩
  .refine' hK _ _ ⟨_,_,rfl,?_,h2,h3⟩;rw[h1,e1];unfold Yr;rw[ê,fg hc];simp
 .rintro e g ⟨u,v,rfl,h1,h2,h3⟩;have hi1:=h3.get ⇑nbd hi;rw[GJ,ó]at h1;refine⟨h2,?_⟩;refine' k p _ hp ⟨dk,?_,?_,npt⟩ ?_
  .rw[dj x.nbt.symm,dj Ţ];exact h3.get ⇑Ţ ht
  .rw[dj npb.symm,dj npd.symm];exact h1
  .refine⟨λ{c o} m e=>?_⟩;rw[dj<|by simpa using m];by_cases av:c=d
   .subst av;rw[dk,<-e];exact hd.symm
   .rw[dj av];exact h3.get ⇑av e
def EZ(x:α)(xs:List α):atI (x::xs) 0=df x:=by unfold atI ixN;rw[ff (by decide),ff<|by simp];rfl
abbrev X9(r:List Int):Val:=.tup<|r.map .int
def Dt(ė:List<|List Int):rowsOf (ė.map X9)=df ė:=by
 induction ė with
 |nil=>rfl
 |cons r rs ih =>show(dz<|r.map .int).bind (λns=>(rowsOf<|rs.map X9).map (ns :: ·))=_;rw[X0,ih];rfl
abbrev YN(number:Int)(ė:List<|List Int):Option<|List Int:=match ė.filter (λr=>fm (r.headD 0<number))with
 |[]=>dg
 |x::r=>df<|minR x r
abbrev FF:Option (List Int)->Val
 |none=>.non
 |some r=>X9 r
def NG:∀(r:List<|List Int) (x:List Int),minR x r∈x::r
 |[],x=>ñ
 |y::r,x=>by
  show minR (if d6 y x then y else x) r∈x::y::r;have h:=NG r (if d6 y x then y else x);rcases Æ.mp h with e|h
  .rw[e];split
   .simp
   .simp
  .simp[h]
variable {number:Int} {ė:List (List Int)}
def Nh{m:List Int}(h:YN number ė=df m):m∈ė:=by
 unfold YN at h;split at h
 .cases h
 .rename_i x r e;cases h;have:minR x r∈ė.filter (λr=>fm (r.headD 0<number)):=by rw[e];exact NG r x
  exact(ă.mp this).1
variable {l:Ad}
def Fj(hl:h l=df (.lst<|ė.map X9))(h0:∀r∈ė,r≠[])(hn:ė.length<1000)(k:∀g,Ext h g->Q (FF<|YN number ė) g):wF P (n+1) "best_offer" [.int number,.ref l] h Q X:=by
 refine Mc ?_;refine' ⟨by rw[À];exact Ŵ hn (by decide),?_⟩;refine Yw (λv=>match v with|.tup (.int i::xs)=>if i<number then df v else dg|_=>dg) (lsE hl) ?_ ?_
 .intro v hv K hK;let⟨r,hr,rfl⟩:=Þ.mp hv;cases r with
  |nil=>exact fk rfl<|h0 _ hr
  |cons i xs =>
   have hK:K (if i<number then df (X9<|i::xs)else dg) h:=hK;rw[show X9 (i::xs)=.tup (.int i::xs.map .int) from rfl]at hK ⊢
   exists dy (EZ _ _)
   refine' eL (λhc=>?_) (λhc=>?_)
   .rw[ff hc]at hK;refine' hK
   .rw[fg hc]at hK;exact hK
 .refine Yl λp hp=>?_;fail;have e1:(ė.map X9).filterMap (λv=>match v with|.tup (.int i::xs)=>if i<number then df v else dg|_=>dg)=(ė.filter λr=>fm (r.headD 0<number)).map X9:=by
   clear hl k hn;induction ė with
   |nil=>rfl
   |cons r rs ih =>
    have ih:=ih λr hr=>h0 r<|ß _ hr;cases r with
    |nil=>exact fk rfl<|h0 _ ñ
    |cons i xs =>
     rw[Í,ê,ú];by_cases hc:i<number
     .simp only[X9,Í,ff hc,List.headD_cons,hc,decide_true,if_true]at ih ⊢;rw[ih]
     .simp only[X9,Í,fg hc,List.headD_cons,hc,decide_false,Ĉ,if_false]at ih ⊢;rw[ih]
  rw[e1];have hx:Ext h<|upd h p<|.lst<|(ė.filter λr=>fm (r.headD 0<number)).map X9:=Ext.new hp;cases e2:ė.filter λr=>fm (r.headD 0<number)with
  |nil =>rw[e2]at hx;refine Pa dk ?_;have:=k _ hx;unfold YN at this;rw[e2]at this;exact this
  |cons x r =>rw[e2]at hx;refine ER dk (Dt<|x::r) ?_;have:=k _ hx;unfold YN at this;rw[e2]at this;exact this
abbrev Na(ties:List<|Int×(Int×Int))(p:Int):Int×Int:=(ties.lookup p).getD (0,0)
abbrev MM(ties:List<|Int×(Int×Int))(q:Int×(L×Int)):List Int:=[q.2.1.root,q.2.1.cost+(Na ties q.1).2,(Na ties q.1).1,q.1]
abbrev Mz(ties:List<|Int×(Int×Int))(held:List<|Int×(L×Int)):List<|List Int:=held.map<|MM ties
abbrev Go(held:List<|Int×(L×Int))(p:Int):Pi:=((held.lookup p).map (·.1.st)).getD (0,0)
abbrev Ye(B:Br):Lab:=match YN B.number (Mz B.ties B.held)with
 |none=>⟨B.number,0,dg⟩
 |some m=>⟨m.getD 0 0,m.getD 1 0,df (m.getD 3 0,Go B.held<|m.getD 3 0)⟩
def LB{ties:List (Int×(Int×Int))}{p:Int}(h:(ties.lookup p).isSome=dh):ties.lookup p=df (Na ties p):=by
 unfold Na;cases e:ties.lookup p with
 |none=>rw[e]at h;cases h
 |some v=>rfl
def Ax(x:dC h b t d B)(sub:∀q∈B.held,(B.ties.lookup q.1).isSome=dh)(hn:B.held.length<1000)(k:∀g,Ext h g->Q (Ye B).v g):wF P (n+2) "Bridge.reckon_label" [.ref b] h Q X:=by
 let⟨hi,ht,hd,Ţ⟩:=id x;refine YV ?_;refine' Yl λp hp=>?_;have npd:=Za hd hp;have npb:=Za hi hp;have npt:=Za ht hp;have nbd:=x.nbd;refine' Zr (λi e g=>Sm4 λu v w z=>Cj4 (e=[df<|.ref b,df<|.ref p,u,v,w,z,dg,dg]) (g p=df (.lst<|(Mz B.ties<|B.held.take i).map X9)) (g d=df (.frz<|Zm hdV B.held))<|Ex [d] h g) ⟨dg,dg,dg,dg,rfl,by rw[dj npd.symm];exact dk,dk,?_⟩ ?_ ?_ ?_
 .exact⟨λm e=>by rw[dj λz=>m<|by simp[z],dj<|Za e hp];exact e⟩
 .rintro i e g hi2 ⟨u,v,w,z,rfl,h1,h2,h3⟩;exact h2
 .rintro i v e g hv ⟨u,v,w,z,rfl,h1,h2,h3⟩ K hK;let⟨q,hq,rfl⟩:=Nr hv;have hi1:=h3.get ⇑nbd hi;have ht1:=h3.get ⇑Ţ ht;have hs:=LB<|sub q<|è hq;let⟨pl,l,a⟩:=q;generalize htt:Na B.ties pl=tt at hs;let⟨nb,c⟩:=tt;refine' Z3 ht1 rfl (by rw[Z4,hs];rfl) ?_;refine' Zp h1 ?_ ?_
  .rw[À];unfold Mz;rw[À];exact Ò (Η _ _) (Ŵ hn<|by decide)
  dsimp only;refine' hK _ _ ⟨_,_,_,_,rfl,?_,?_,?_⟩
  .rw[dk,Zi hq];unfold Mz MM;rw[Ð,Ð,Í,htt];rfl
  .rw[dj npd];exact h2
  .exact⟨λm e=>by rw[dj<|Za e hp];exact h3.get m e⟩
 .rintro e g ⟨u,v,w,z,rfl,h1,h2,h3⟩;have hi1:=h3.get ⇑nbd hi;have hi2:upd g d (.dct<|Zm hdV B.held) b=_:=upd_ne' nbd hi1;rw[GJ,ó]at h1;have h1':upd g d (.dct<|Zm hdV B.held) p=_:=upd_ne' npd.symm h1;have hx:Ext h<|upd g d<|.dct<|Zm hdV B.held:=⟨λ{c o} e=>by
    by_cases av:c=d
    . subst av;rw[dk,<-e];exact hd.symm
    . rw[dj av];exact h3.get ⇑av e⟩
  have aT:upd g d (.dct<|Zm hdV B.held) d=_:=dk;refine⟨h2,?_⟩;generalize upd g d (.dct<|Zm hdV B.held)=g2 at hi2 h1' hx aT ⊢;refine' Fj h1' ?_ ?_ λg3 h3=>?_
  .intro r hr;unfold Mz at hr;let⟨q,_,rfl⟩:=Þ.mp hr;unfold MM;simp
  .unfold Mz;rw[À];exact hn
  have hi3:=h3.get hi2;have hd3:=h3.get aT;have kk:=k g3<|hx.trans h3;unfold Ye at kk;fail;cases e:YN B.number (Mz B.ties B.held)with
  |none =>rw[e]at kk;simp only[FF];refine eL (λhc=>?_) λhc=>fk trivial hc;refine' kk
  |some m =>rw[e]at kk;have hm:=Nh e;unfold Mz at hm;let⟨q,hq,rfl⟩:=Þ.mp hm;refine eL (λhc=>(by simp[FF,X9]at hc)) λhc=>?_;have hlk:∃y,B.held.lookup q.1=df y:=ZN (û (f:=(·.1)) hq);let⟨y,hy⟩:=hlk;unfold MM at kk ⊢;simp only[FF,X9,Í,Ų];refine' Z3 hd3 rfl (by rw[Z4,hy];rfl) ?_;fail;unfold Go at kk;simp only[List.getD_cons_succ,List.getD_cons_zero]at kk;rw[hy]at kk;exact kk
abbrev EY(l:Lab):D:=.tup [.int l.root,.int l.cost,(match l.up with|none=>.non|some p=>.int p.1),(match l.up with|none=>.non|some p=>.tup [.int p.2.1,.int p.2.2])]
def Uf(h:Hs)(l:Lab):dat h deep l.v=df (EY l):=by let⟨r,c,u⟩:=l;cases u<;>rfl
def Lp(h:Hs)(l m:Lab):eqV h l.v m.v=df (fm (l=m)):=by
 unfold eqV;rw[Uf,Uf];show df (D.eqv (EY l)<|EY m)=_;congr 1;let⟨r,c,u⟩:=l;let⟨r',c',u'⟩:=m;unfold EY;cases u with
 |none=>cases u' with
  |none=>simp only[D.eqv,D.eqvs,ũ];by_cases h1:r=r'<;>by_cases h2:c=c'<;>simp[h1,h2]
  |some q=>simp[D.eqv,D.eqvs]
 |some p=>cases u' with
  |none=>simp[D.eqv,D.eqvs]
  |some q =>let⟨p1,p2,p3⟩:=p;let⟨q1,q2,q3⟩:=q;simp only[D.eqv,D.eqvs,ũ];by_cases h1:r=r'<;>by_cases h2:c=c'<;>by_cases h3:p1=q1<;>by_cases h4:p2=q2<;>by_cases h5:p3=q3<;>simp[h1,h2,h3,h4,h5]
abbrev taken(B:Br)(l:Lab):Br:=if l=B.label then B else {B with label:=l,version:=B.version+1}
variable {u:Val} {KB:Bool->Prop}
def WD{v:Val}{c:Bool}(e:eqV h v u=df c)(q:KB (!c)):go (dL h .ne v u) KB:=du (by show(eqV h v u).map _=_;rw[e];rfl) q
def JC{v:Val}{c:Bool}(e:eqV h v u=df c)(q:KB c):go (dL h .eq v u) KB:=du e q
def FY{l:Lab}(x:dC h b t d B)(k:∀g,dC g b t d (taken B l)->Ex [b] h g->Q .non g):wF P (n+1) "Bridge.take_label" [.ref b,l.v] h Q X:=by
 let⟨hi,ht,hd,Ţ⟩:=id x;refine Xx ?_
 exists WD (Lp h l B.label)
 fail;unfold taken at k;refine Mi (λhc=>?_) λhc=>?_
 .rw[fg hc]at k;refine' Ym dk (show(8:Nat)<900 by decide) ?_;refine' k _ ⟨?_,?_,?_,Ţ⟩ ?_
  .rw[dm,dk];rfl
  .rw[dj x.nbt.symm,dj x.nbt.symm];exact ht
  .rw[dj x.nbd.symm,dj x.nbd.symm];exact hd
  .exact(Ex.upd<|by simp).trans (Ex.upd<|by simp)
 .rw[ff hc]at k;refine' k h x Ex.refl
def An(h:Hs)(r:Option Pi)(s:Pi):eqV h (oV r) (pV s)=df (fm (r=df s)):=by
 let⟨s1,s2⟩:=s;cases r with
 |none =>show df (D.eqv .non<|.tup [.int s1,.int s2])=_;simp[D.eqv]
 |some p =>let⟨p1,p2⟩:=p;show df (D.eqv (.tup [.int p1,.int p2])<|.tup [.int s1,.int s2])=_;congr 1;simp only[D.eqv,D.eqvs,ũ];by_cases h1:p1=s1<;>by_cases h2:p2=s2<;>simp[h1,h2]
abbrev Wv(B:Br)(p:Int):Bool:=match B.held.lookup p with
 |none=>di
 |some q=>fm (q.1.rests=df (B.life,B.version))
def KE{p:Int}(x:dC h b t d B)(k:Q (.bl<|Wv B p) h):wF P (n+2) "Bridge.is_rested_on" [.ref b,.int p] h Q X:=by
 let⟨hi,ht,hd,Ţ⟩:=id x;refine YU ?_
 exists Xu x
 unfold Wv at k;fail;cases e:B.held.lookup p with
 |none =>rw[e]at k;refine Mi (λhc=>fk rfl hc) λhc=>?_;exact k
 |some q =>
  rw[e]at k;let⟨l,a⟩:=q;refine Mi (λhc=>?_) (λhc=>by simp[hdO]at hc);simp only[hdO]
  exists Z1 x
  refine JC (An h _ _) ?_;exact k
abbrev W9(u:Option<|Int×Pi)(p:Int):Bool:=match u with
 |none=>di
 |some q=>fm (p=q.1)
abbrev Jw(B:Br):Int:=match B.label.up with
 |none=>0
 |some q=>((B.held.lookup q.1).map (·.2)).getD 0+1
abbrev ZE(B:Br)(p:Int):L where
 num:=(B.life,B.count)
 st:=(B.life,B.version)
 root:=B.label.root
 cost:=B.label.cost
 age:=Jw B
 rests:=if W9 B.label.up p then B.label.up.map (·.2)else dg
 agrees:=if W9 B.label.up p then dg else if Wv B p then df (Go B.held p)else dg
def DS(h:Hs)(p:Int)(u:Option<|Int×Pi):eqV h (.int p) (upV u)=df (W9 u p):=by
 cases u with
 |none=>rfl
 |some q =>show df (D.eqv (.int p)<|.int q.1)=_;rw[NJ];rfl
def FK{p:Int}(x:dC h b t d B)(hu:∀q,B.label.up=df q->(B.held.lookup q.1).isSome=dh)(k:Q (ZE B p).v h):wF P (n+3) "Bridge.letter_over" [.ref b,.int p] h Q X:=by
 let⟨hi,ht,hd,Ţ⟩:=id x;refine Y3 ?_;fail;have bU:wSs (wF P<|n+2) #[.ite (.val<|.cmp .eq (.var 1)<|.var 4) #[.ret<|.bin .add (.var 7)<|.tup #[.var 5,.cst .non]] .nil,.ite (.val<|.meth "Bridge" "is_rested_on" (.var 0) #[.var 1]) #[.ret<|.bin .add (.var 7)<|.tup #[.cst .non,.idx (.idx (.idx (.fld (.var 0) "held_by_place")<|.var 1)<|.cst<|.int 0)<|.glob "STAMP"<|.int 1]] .nil,.ret<|.bin .add (.var 7)<|.tup #[.cst .non,.cst .non]]
   [df<|.ref b,df<|.int p,df<|.int B.label.root,df<|.int B.label.cost,df<|upV B.label.up,df<|rsV B.label.up,df<|.int<|Jw B,df<|.tup [pV (B.life,B.count),pV (B.life,B.version),.int B.label.root,.int B.label.cost,.int<|Jw B]] h (λ_ g=>Q .non g) Q (λ_ _=>False) (λ_ _=>False) λ_ c g=>X c g:=by
  exists JC (DS h p B.label.up)
  refine' eM (λhc=>?_) (λhc=>?_)
  .fail;unfold ZE at k;rw[hc]at k;cases e:B.label.up with
   |none=>rw[e]at hc;cases hc
   |some q=>rw[e]at k;exact k
  .exists KE x
   fail;unfold ZE at k;rw[hc]at k;refine eM (λhr=>?_) λhr=>?_
   .rw[hr]at k;unfold Wv at hr;cases e:B.held.lookup p with
    |none=>rw[e]at hr;cases hr
    |some q =>let⟨l,a⟩:=q;refine' Z3 hd rfl (by rw[Z4,e];rfl) ?_;fail;unfold Go at k;rw[e]at k;exact k
   .rw[hr]at k;refine' k
 cases e:B.label.up with
 |none =>
  have ea:Jw B=0:=by unfold Jw;rw[e]
  rw[e,ea]at bU;refine eL (λhc=>?_) λhc=>fk rfl hc
  exists Z1 x
  walk_at "w"
  repeat (first|exact bU|(walk_at "py1";walk_at "w"))
 |some q =>
  let⟨y,hy⟩:=î.mp<|hu q e;have ea:Jw B=y.2+1:=by unfold Jw;rw[e];dsimp only;rw[hy];rfl
  rw[e,ea]at bU;refine eL (λhc=>by cases hc) λhc=>?_;simp only[upV];refine' Z3 hd rfl (by rw[Z4,hy];rfl) ?_
  exists Z1 x
  walk_at "w"
  repeat (first|exact bU|(walk_at "py1";walk_at "w"))
def FZ{q:Int×Pi}(hq:(Ye B).up=df q):(B.held.lookup q.1).isSome=dh:=by
 unfold Ye at hq;split at hq
 .cases hq
 .rename_i m e;have hm:=Nh e;unfold Mz at hm;let⟨y,hy,rfl⟩:=Þ.mp hm;cases hq;let⟨v,hv⟩:=ZN (û (f:=(·.1)) hy);show(B.held.lookup y.1).isSome=dh;rw[hv];rfl
abbrev Br.grown(B:Br):Br:={B with held:=Yr B.most B.held}
abbrev Br.told(B:Br):Br:=taken B.grown<|Ye B.grown
abbrev Br.ticked(B:Br):Br:={B.told with count:=B.count+1}
abbrev ZX(B:Br):List Val:=(sortI (B.ties.map (·.1))).map λp=>.tup [.int p,(ZE B p).v]
def ZW(B:Br)(l:Lab):(taken B l).held=B.held/\(taken B l).ties=B.ties/\(taken B l).count=B.count/\(taken B l).label=l/\(taken B l).number=B.number/\(taken B l).life=B.life/\(taken B l).most=B.most:=by
 unfold taken;split
 .rename_i e;exact⟨rfl,rfl,rfl,e.symm,rfl,rfl,rfl⟩
 .exact⟨rfl,rfl,rfl,rfl,rfl,rfl,rfl⟩
structure Br.ok(B:Br):Prop where
 nd:(B.held.map (·.1)).Nodup
 sub:∀q∈B.held,(B.ties.lookup q.1).isSome=dh
 nt:(B.ties.map (·.1)).Nodup
 rg:∀q∈B.ties,0<=q.1/\q.1<16
def Br.ok.tlen(o:B.ok):B.ties.length<=16:=by
 have:=Z8 (m:=16) o.nt λx hx=>by let⟨q,hq,rfl⟩:=Þ.mp hx;exact o.rg q hq
 simpa using this
def Br.ok.hlen(o:B.ok):B.held.length<=16:=by
 have:=Z8 (m:=16) o.nd λx hx=>by let⟨q,hq,rfl⟩:=Þ.mp hx;let⟨v,hv⟩:=î.mp<|o.sub q hq;exact o.rg _<|Zx hv
 simpa using this
def Br.ok.grown(o:B.ok):B.grown.ok where
 nd:=o.nd.sublist<|JI _ _
 sub:=λq hq=>by let⟨a,ha⟩:=AH hq;exact o.sub (q.1,(q.2.1,a)) ha
 nt:=o.nt
 rg:=o.rg
def Br.ok.told(o:B.ok):B.told.ok:=by
 let⟨h1,h2,_⟩:=ZW B.grown<|Ye B.grown;have g:=o.grown;refine⟨?_,?_,?_,?_⟩
 .show((taken B.grown<|Ye B.grown).held.map (·.1)).Nodup;rw[h1];exact g.nd
 .show ∀q∈(taken B.grown<|Ye B.grown).held,((taken B.grown<|Ye B.grown).ties.lookup q.1).isSome=dh;rw[h1,h2];exact g.sub
 .show((taken B.grown<|Ye B.grown).ties.map (·.1)).Nodup;rw[h2];exact g.nt
 .show ∀q∈(taken B.grown<|Ye B.grown).ties,_;rw[h2];exact g.rg
def Br.ok.ticked(o:B.ok):B.ticked.ok:=⟨o.told.nd,o.told.sub,o.told.nt,o.told.rg⟩
def Ue(x:dC h b t d B)(o:B.ok)(k:∀p d' g,h p=dg->h d'=dg->dC g b t d' B.ticked->g p=df (.lst<|ZX B.told)->Ex [b] h g->p≠d'->Q (.ref p) g):wF P (n+4) "Bridge.tick" [.ref b] h Q X:=by
 let⟨hi,ht,hd,Ţ⟩:=id x;have hlen:=o.hlen;refine J8 ?_;refine' FP x o.nd (by lia) λd' g hd' x1 e1=>?_;let⟨hi1,ht1,hd1,hne1⟩:=id x1;have og:=o.grown;have x1':dC g b t d' B.grown:=x1;refine' Ax x1' og.sub (by have:=og.hlen;lia) λg2 e2=>?_;have x2:=x1'.ext e2;refine' FY x2 λg3 x3 e3=>?_;let⟨hi3,ht3,hd3,hne3⟩:=id x3;let⟨c1,c2,c3,c4,c5,c6,c7⟩:=ZW B.grown<|Ye B.grown;have hties:B.told.ties=B.ties:=c2;refine' ME ht3 (O8 _) ?_ (Yl λp1 bq=>?_)
 .rw[À];have:=o.tlen;show B.told.ties.length<64;rw[hties];lia
 refine' ⟨?_,?_⟩
 .rw[À,sortI,Β,À];have:=o.tlen;show B.told.ties.length<lim;rw[hties];exact Ò this (by decide)
 have x4:=x3.ext (Ext.new (o:=.lst ((sortI ((taken B.grown<|Ye B.grown).ties.map (·.1))).map Val.int)) bq);have up:∀q,(taken B.grown<|Ye B.grown).label.up=df q->((taken B.grown<|Ye B.grown).held.lookup q.1).isSome=dh:=λq hq=>by rw[c4]at hq;rw[c1];exact FZ hq
 refine Yw (λv=>match v with|.int i=>df (.tup [.int i,(ZE B.told i).v])|_=>dg) (lsE dk) ?_ ?_
 .intro v hv K hK;let⟨i,hi,rfl⟩:=Þ.mp hv;let⟨hi4,ht4,hd4,hne4⟩:=id x4;fail;rw[ff rfl];change wE _ _ [df<|.int i,df<|.ref b] _ _ _
  exists FK x4 up
  refine' hK
 .refine Yl λp hp=>?_;have x5:=x4.ext<|Ext.new (o:=.lst<|ZX B.told) hp;have e0:((sortI ((taken B.grown<|Ye B.grown).ties.map (·.1))).map Val.int).filterMap (λv=>match v with|.int i=>df (.tup [.int i,(ZE B.told i).v])|_=>dg)=ZX B.told:=by
   rw[ύ];unfold ZX;exact congrFun (List.filterMap_eq_map (f:=λi:Int=>Val.tup [.int i,(ZE B.told i).v])) _
  rw[e0];let⟨hi5,ht5,hd5,hne5⟩:=id x5;fail;have c3':(taken B.grown<|Ye B.grown).count=B.count:=c3;rw[c3'];have eg:Ex [b] h (upd g3 p1 (.lst ((sortI ((taken B.grown<|Ye B.grown).ties.map (·.1))).map Val.int))):=((e1.trans<|.of e2).trans e3).trans<|.of<|Ext.new bq;have hpn:h p=dg:=eg.none (by rw[x4.ins];intro z;cases z) hp;have npb:b≠p:=Za x4.ins hp;refine k p d' _ hpn hd' ⟨dk,?_,?_,x5.ne⟩ ?_ ?_ (Za x4.held hp).symm
  .rw[dj x5.nbt.symm];exact x5.ties
  .rw[dj x5.nbd.symm];exact x5.held
  .rw[dj npb.symm];exact dk
  .exact(eg.trans<|.of<|Ext.new hp).trans (Ex.upd<|by simp)
abbrev JJ(S:Br)(p:Int)(l:L):Bool:=match S.held.lookup p with
 |none=>dh
 |some q=>d6 [q.1.num.1,q.1.num.2] [l.num.1,l.num.2]
abbrev ZQ(S:Br)(p:Int)(l:L):Br:=if(S.ties.lookup p).isSome then(if JJ S p l then {S with held:=Zs S.held p (l,l.age)} else S)else S
abbrev K0(S:Br)(p:Int):Br:={S with ties:=Zk S.ties p,held:=Zk S.held p}
abbrev upB(S:Br)(p:Int)(c:Int×Int):Br:=if(S.ties.lookup p).isSome then S else {S with ties:=Zs S.ties p c}
variable {q:Int}
def Dz{k:Int}{v:α}:(kvs.lookup q).isSome=dh->((Zs kvs k v).lookup q).isSome=dh:=λh=>by
 let⟨x,hx⟩:=î.mp h;have hm:q∈kvs.map (·.1):=û (f:=(·.1))<|Zx hx;have:q∈(Zs kvs k v).map (·.1):=by
  rw[Wg];split
  .exact hm
  .exact Ö _ hm
 let⟨y,hy⟩:=ZN this;rw[hy];rfl
def Br.ok.heard(o:S.ok){p:Int}{l:L}:(ZQ S p l).ok:=by
 unfold ZQ;split
 .rename_i h1;split
  .refine⟨Wx o.nd _ _,λq hq=>?_,o.nt,o.rg⟩;rcases W2 hq with e|hq
   .rw[e];exact h1
   .exact o.sub q hq
  .exact o
 .exact o
def Yx{k:Int}{q:Int×α}(h:q∈Zk kvs k):q∈kvs:=(NO kvs k).subset h
def Bo{k:Int}(h:(kvs.lookup q).isSome=dh)(n:q≠k):((Zk kvs k).lookup q).isSome=dh:=by
 let⟨x,hx⟩:=î.mp h;have:q∈(Zk kvs k).map (·.1):=by refine Þ.mpr ⟨(q,x),?_,rfl⟩;unfold Zk;exact ă.mpr ⟨Zx hx,⇑n⟩
 let⟨y,hy⟩:=ZN this;rw[hy];rfl
def Br.ok.down(o:S.ok)(p:Int):(K0 S p).ok :=
 ⟨YC o.nd _,λq hq=>Bo (o.sub q<|Yx hq)<|FX hq,YC o.nt _,λq hq=>o.rg q<|Yx hq⟩
def Br.ok.up(o:S.ok){p:Int}{c:Int×Int}(h0:0<=p)(h1:p<16):(upB S p c).ok:=by
 unfold upB;split
 .exact o
 .refine⟨o.nd,λq hq=>Dz<|o.sub q hq,Wx o.nt _ _,λq hq=>?_⟩;rcases W2 hq with e|hq
  .rw[e];exact⟨h0,h1⟩
  .exact o.rg q hq
def UZ{p:Int}{l:L}(x:dC h b t d B)(o:B.ok)(k:∀g,dC g b t d (ZQ B p l)->Ex [d] h g->Q .non g):wF P (n+2) "Bridge.hear" [.ref b,.int p,l.v] h Q X:=by
 let⟨hi,ht,hd,Ţ⟩:=id x;have hlen:=o.hlen;refine J7 ?_
 exists X8 ht rfl
 rw[Xf];fail;unfold ZQ at k;cases e:(B.ties.lookup p).isSome with
 |false =>rw[e]at k;refine eF rfl ?_;refine' k h x Ex.refl
 |true =>
  rw[e,ff rfl]at k;refine eK rfl ?_
  exists Xu x
  have put:(∀g,dC g b t d {B with held:=Zs B.held p (l,l.age)}->Ex [d] h g->Q .non g)->go (ed h (.ref d) (.int p)<|.tup [l.v,.int l.age]) λg=>Q .non g:=λk=>by refine YD hd ⟨rfl,by rw[J6];exact Ò hlen<|by decide⟩ ?_;rw[show Val.tup [l.v,.int l.age]=hdV (l,l.age) from rfl,Z6];exact k _ ⟨by rw[dj x.nbd];exact hi,by rw[dj Ţ];exact ht,dk,Ţ⟩ (Ex.upd<|by simp)
  fail;cases e2:B.held.lookup p with
  |none =>
   have et:JJ B p l=dh:=by unfold JJ;rw[e2]
   rw[et,ff rfl]at k;refine eL (λhc=>?_) λhc=>fk rfl hc;refine eF rfl ?_;refine' UK (put k) λg q=>by fail;exact q
  |some q =>
   let⟨m,ag⟩:=q;have et:JJ B p l=d6 [m.num.1,m.num.2] [l.num.1,l.num.2]:=by unfold JJ;rw[e2]
   rw[et]at k;refine eL (λhc=>by simp[hdO]at hc) λhc=>?_;simp only[hdO]
   exists FG
   exists L3 (X0 [l.num.1,l.num.2]) (X0 [m.num.1,m.num.2])
   refine' eM (λhc=>?_) (λhc=>?_)
   .rw[ff hc]at k;refine' UK (put k) λg q=>by fail;exact q
   .rw[fg<|by rw[hc];decide]at k;refine' k h x Ex.refl
def Ul{p:Int}(x:dC h b t d B)(k:∀g,dC g b t d (K0 B p)->Ex [t,d] h g->Q .non g):wF P (n+1) "Bridge.down" [.ref b,.int p] h Q X:=by
 let⟨hi,ht,hd,Ţ⟩:=id x;refine Ki ?_
 exists UY ht rfl
 dsimp only;rw[X3];have hi2:upd h t (.dct<|Zm AF<|Zk B.ties p) b=_:=upd_ne' x.nbt hi;have aT:upd h t (.dct<|Zm AF<|Zk B.ties p) d=_:=upd_ne' Ţ.symm hd
 exists UY aT rfl
 dsimp only;rw[X3];refine' k _ ⟨by rw[dj x.nbd];exact hi2,by rw[dj Ţ];exact dk,dk,Ţ⟩ ((Ex.upd<|by simp).trans<|Ex.upd<|by simp)
def GW{p nb:Int}(x:dC h b t d B)(o:B.ok)(k:∀g,dC g b t d (upB B p (nb,c))->Ex [t] h g->Q .non g):wF P (n+1) "Bridge.up" [.ref b,.int p,.int nb,.int c] h Q X:=by
 let⟨hi,ht,hd,Ţ⟩:=id x;have hlen:=o.tlen;refine Nn ?_
 exists X8 ht rfl
 rw[Xf];fail;unfold upB at k;cases e:(B.ties.lookup p).isSome with
 |true =>rw[e,ff rfl]at k;refine eK rfl ?_;refine' k h x Ex.refl
 |false =>rw[e,fg<|by decide]at k;refine eF rfl ?_;refine' YD ht ⟨rfl,by rw[J6];exact Ò hlen<|by decide⟩ ?_;rw[show Val.tup [.int nb,.int c]=AF (nb,c) from rfl,Z6];refine' k _ ⟨by rw[dj x.nbt];exact hi,dk,by rw[dj Ţ.symm];exact hd,Ţ⟩ (Ex.upd<|by simp)
def Ro(h:Hs)(s:Pi)(u:Option<|Int×Pi):eqV h (pV s) (rsV u)=df (fm (u.map (·.2)=df s)):=by
 let⟨s1,s2⟩:=s;cases u with
 |none =>show df (D.eqv (.tup [.int s1,.int s2]) .non)=_;simp[D.eqv]
 |some p =>
  let⟨p0,p1,p2⟩:=p;show df (D.eqv (.tup [.int s1,.int s2])<|.tup [.int p1,.int p2])=_;congr 1;simp only[D.eqv,D.eqvs,ũ,į];by_cases h1:s1=p1
  .subst h1;by_cases h2:s2=p2
   .subst h2;simp
   .have h3:¬ p2=s2:=λz=>h2 z.symm;simp[h2,h3]
  .have h3:¬ p1=s1:=λz=>h1 z.symm;simp[h1,h3]
abbrev Mn(B:Br)(p:Int):Bool:=match B.held.lookup p with
 |none=>di
 |some q=>if q.1.agrees=df (B.life,B.version)then fm (B.label.up.map (·.2)=df q.1.st)else di
def AO{p:Int}(x:dC h b t d B)(k:Q (.bl<|Mn B p) h):wF P (n+2) "Bridge.is_agreed_to" [.ref b,.int p] h Q X:=by
 let⟨hi,ht,hd,Ţ⟩:=id x;refine YS ?_
 exists Xu x
 unfold Mn at k;fail;cases e:B.held.lookup p with
 |none =>rw[e]at k;refine eL (λhc=>?_) λhc=>fk rfl hc;refine eF rfl ?_;refine' k
 |some q =>
  rw[e]at k;let⟨l,a⟩:=q;refine eL (λhc=>by simp[hdO]at hc) λhc=>?_;simp only[hdO]
  exists Z1 x
  refine WD (An h _ _) ?_;refine' Mi (λhc=>?_) (λhc=>?_)
  .fail;rw[show(match df (l,a)with|none=>di|some q=>if q.1.agrees=df (B.life,B.version)then fm (B.label.up.map (·.2)=df q.1.st)else di)=di from fg hc]at k;exact k
  .fail;rw[show(match df (l,a)with|none=>di|some q=>if q.1.agrees=df (B.life,B.version)then fm (B.label.up.map (·.2)=df q.1.st)else di)=fm (B.label.up.map (·.2)=df l.st) from ff hc]at k;refine JC (Ro h _ _) ?_;exact k
abbrev Xz(B:Br)(p:Int):String:=if(B.ties.lookup p).isSome then(if W9 B.label.up p then(if Mn B p then "child" else "shut")else if Wv B p then "parent" else "shut")else "down"
def Ol{p:Int}(x:dC h b t d B)(k:Q (.str<|Xz B p) h):wF P (n+3) "Bridge.end" [.ref b,.int p] h Q X:=by
 let⟨hi,ht,hd,Ţ⟩:=id x;refine Mm ?_
 exists X8 ht rfl
 rw[Xf];fail;unfold Xz at k;cases e:(B.ties.lookup p).isSome with
 |false =>rw[e]at k;refine eF rfl ?_;refine' k
 |true =>
  rw[e,ff rfl]at k;refine eK rfl ?_
  exists JC (DS h p B.label.up)
  refine' eM (λhc=>?_) (λhc=>?_)
  .rw[hc,ff rfl]at k
   exists AO x
   refine' eM (λhc=>?_) (λhc=>?_)
   .rw[hc]at k;refine' k
   .rw[hc]at k;refine' k
  .rw[hc,fg<|by decide]at k
   exists KE x
   refine' eM (λhc=>?_) (λhc=>?_)
   .rw[hc]at k;refine' k
   .rw[hc]at k;refine' k
def Ze(q:∀p g,h p=dg->Ext h g->g p=df o->Q (.ref p) g):new h o Q:=Yl λp hp=>q p _ hp (Ext.new hp) dk
variable {r:Int}
def Xi(r0:0<=r)(e:xs[r.toNat]?=df x):atI xs r=df x:=by have:=(Î.mp e).1;unfold atI ixN;rw[ff r0,ff<|by lia];exact e
def N3(r0:0<=r)(r1:r<xs.length):∃x,xs[r.toNat]?=df x/\x∈xs:=by
 have h:r.toNat<xs.length:=by lia
 exact⟨xs[r.toNat],Ê h,ĥ h⟩
def Od(r0:0<=r)(r1:r<xs.length):∃x,atI xs r=df x/\x∈xs:=by let⟨x,h1,h2⟩:=N3 r0 r1;exact⟨x,Xi r0 h1,h2⟩
def Yh:∀ns:List Int,dz (ns.map .int)=df ns
 |[]=>rfl
 |n::ns=>by rw[Í,dz,Yh ns];rfl
def YF:∀bs:List Bool,blsOf (bs.map .bl)=df bs
 |[]=>rfl
 |b::bs=>by rw[Í,blsOf,YF bs];rfl
def mem_dedup{x:Int}:∀{ns:List Int},x∈dedup ns↔x∈ns
 |[]=>by simp[dedup]
 |n::ns=>by rw[dedup,Æ,ă,mem_dedup,Æ];by_cases h:x=n<;>simp[h]
def NN:∀(ns:List Int),(dedup ns).length<=ns.length
 |[]=>by simp[dedup]
 |n::ns=>by have:=NN ns;have:=Ģ (λy=>y != n)<|dedup ns;rw[dedup,Ç,Ç];lia
variable {m:Int}
def YO{v:Val}(h:(dZ 0 m)[i]?=df v):v=.int i/\(i:Int)<m:=by unfold dZ at h;rw[Ø]at h;let⟨k,hk,rfl⟩:=Ë.mp h;let⟨Τ,rfl⟩:=Î.mp hk;rw[Ā]at Τ;rw[cI];exact⟨by rw[Int.zero_add],by lia⟩
def Xo:(dZ 0 m).length=m.toNat:=by unfold dZ;rw[À,Ā,bG]
abbrev Brs(ns:List Int):Prop:=∀i∈ns,0<=i/\i<1000
noncomputable abbrev Tie:=Int×Int×Int
abbrev trV(t:Tie):Val:=.tup [.int t.1,.int t.2.1,.int t.2.2]
abbrev LOk(ns:List Int)(t:Tie):Prop:=t.1∈ns/\t.2.1∈ns/\t.1<t.2.1/\1<=t.2.2/\t.2.2<=1000
structure dN(bs:List Int)(ts:List Tie):Prop where
 one:1<=bs.length
 ten:bs.length<=10
 rng:Brs bs
 up:bs.Pairwise (· < ·)
 sixteen:ts.length<=16
 tie:∀t∈ts,LOk bs t
abbrev Xg(bs:List Int)(ts:List Tie):Val:=.tup [.tup<|bs.map .int,.tup<|ts.map trV]
variable {ns:List Int}
def mem_sort{i:Int}:i∈sortI ns↔i∈ns:=(ĺ ns _).mem_iff
def F0(nd:ns.Nodup):(sortI ns).Pairwise (· < ·):=by have p:=ĺ ns λa b=>fm (a<=b);have s:(sortI ns).Pairwise λa b=>fm (a<=b)=dh:=aZ (λa b c h1 h2=>by simp at *;lia) (λa b=>by simp;lia) ns;have d:(sortI ns).Nodup:=p.nodup_iff.mpr nd;exact(s.and d).imp λ⟨h1,h2⟩=>by simp at h1;lia
def OB{st:Hs->Prop}{step:Val->Hs->(Option Val->Hs->Prop)->XQ->Prop}{Q:List Val->Hs->Prop}{f:α->Val}{l:List α}(p:α->Bool)(v:α->Val)(ŭ:st h)(go:∀x∈l,∀K,(p x=dh->K (df<|v x) h)->(p x=di->K dg h)->step (f x) h K X)(fin:Q ((l.filter p).map v) h):wComp st step (l.map f) [] h Q X:=by
 refine ZH (λi ys g=>g=h/\ys=((l.take i).filter p).map v) ⟨rfl,rfl⟩ (λ_ _ _ _ z=>z.1▸ŭ) ?_ ?_
 .rintro i u ys g hv ⟨rfl,rfl⟩ K hK;let⟨x,hx,rfl⟩:=ZK hv;rw[Zi hx,ϐ,ú,aa]at hK;exact go x (è hx) K (λe=>hK _ _ ⟨rfl,by rw[e,ff rfl,Ð];rfl⟩) λe=>hK _ _ ⟨rfl,by rw[e,fg (by decide),þ,bX,þ]⟩
 .rintro ys g ⟨rfl,rfl⟩;rw[À,ó];exact fin
def N9{st:Hs->Prop}{step:Val->Hs->(Option Val->Hs->Prop)->XQ->Prop}{Q:List Val->Hs->Prop}{f:α->Val}{l:List α}(v:α->Val)(ŭ:st h)(go:∀x∈l,∀K,K (df<|v x) h->step (f x) h K X)(fin:Q (l.map v) h):wComp st step (l.map f) [] h Q X:=OB (λ_=>dh) v ŭ (λx hx K h1 _=>go x hx K<|h1 rfl) (by rw[Χ.mpr λ_ _=>rfl];exact fin)
def GI(m:Nat):dZ 0 (m:Int)=(List.range m).map λi:Nat=>.int i:=by unfold dZ;rw[bG,ò];exact č λi _=>by rw[Int.zero_add]
def J4{h:Hs}{d:Nat}:∀ns:List Int,(ns.map Val.int).mapM (dat h d)=df (ns.map D.int)
 |[]=>rfl
 |n::ns=>by rw[Í,Ľ,J4 ns,Í];cases d<;>rfl
def Uc{i:Int}:∀ns:List Int,((ns.map D.int).any λe=>D.eqv e<|.int i)=fm (i∈ns)
 |[]=>by simp
 |n::ns=>by
  rw[Í,Ħ,Uc ns,NJ];by_cases h:n=i
  .simp[h]
  .simp[h,Ne.symm h]
def WM{i:Int}:inL h (.int i) (ns.map .int)=df (fm (i∈ns)):=by unfold inL;rw[J4];exact congrArg df (Uc ns)
def Ud(x:Ext h g)(e:h p=dg):Ext h<|upd g p o:=⟨λ{a u} z=>by rw[dj<|Za z e];exact x.get z⟩
abbrev far(t:Tie)(b:Int):Int:=if t.1=b then t.2.1 else t.1
abbrev eW(b:Int):Nat->List Tie->List Tie
 |_,[]=>[]
 |k,t::r=>if b=t.1\/b=t.2.1 then((k:Int),far t b,t.2.2)::eW b (k+1) r else eW b (k+1) r
def NA{b:Int}{t:Tie}:∀{l:List Tie}{k:Nat},eW b k (l++[t])=eW b k l++(if b=t.1\/b=t.2.1 then [(((k+l.length:Nat):Int),far t b,t.2.2)]else [])
 |[],k=>by show eW b k [t]=_;unfold eW;split<;>rfl
 |u::l,k=>by
  rw[Ϩ,eW,eW,NA,Ç,show k+1+l.length=k+(l.length+1) by lia];by_cases h:b=u.1\/b=u.2.1
  .rw[ff h,ff h,Ϩ]
  .rw[fg h,fg h]
def UD:∀{xs:List Val}{k i:Nat}{v:Val},(enumL k xs)[i]?=df v->∃x,xs[i]?=df x/\v=.tup [.int ((k+i:Nat):Int),x]
 |[],_,_,_,e=>by simp[enumL]at e
 |x::xs,k,0,v,e=>by have e:df (Val.tup [.int k,x])=df v:=e;cases e;exact⟨x,rfl,rfl⟩
 |x::xs,k,i+1,v,e=>by let⟨y,h1,h2⟩:=UD (xs:=xs) (k:=k+1) (i:=i) (v:=v) (by simpa[enumL]using e);exact⟨y,⇑h1,by rw[h2,show k+1+i=k+(i+1) by lia]⟩
def NY:∀(xs:List Val) (k:Nat),(enumL k xs).length=xs.length
 |[],_=>rfl
 |_::xs,k=>by simp[enumL,NY xs<|k+1]
def Ms{i:Int}(q:KB<|fm (i∈ns)):go (dL h .isin (.int i)<|.tup<|ns.map .int) KB:=du (by show inV h (.int i) (.tup _)=_;unfold inV;exact WM) q
def N7{i:Int}(q:KB (!fm (i∈ns))):go (dL h .notin (.int i)<|.tup<|ns.map .int) KB:=du (by show(inV h (.int i)<|.tup _).map _=_;unfold inV;simp only[WM];rfl) q
section
variable {bs:List Int}{ts:List Tie}
def CO{t:Tie}{b:Int}(k:Q (.int<|far t b) h):wF P (n+1) "far_end" [trV t,.int b] h Q X:=by
 let⟨x,y,c⟩:=t;unfold trV;unfold far at k;dsimp only at k ⊢;refine Bc ?_;fail;by_cases e:x=b
 .refine eF (fi e) ?_;rw[ff e]at k;refine' k
 .refine eK (fh e) ?_;rw[fg e]at k;refine' k
def XA{b:Int}(l:ts.length<=16)(k:∀p g,h p=dg->Ext h g->g p=df (.lst<|(eW b 0 ts).map trV)->Q (.ref p) g):wF P (n+2) "neighbours" [Xg bs ts,.int b] h Q X:=by
 unfold Xg;refine MS ?_;refine' Ze λp g0 hp x0 e0=>?_
 exists du rfl
 have nl:∀l:List Tie,∀k,(eW b k l).length<=l.length:=by
  intro l;induction l with
  |nil=>intro k;exact Ï _
  |cons t l ih =>intro k;have:=ih<|k+1;unfold eW;split<;>simp only[Ç]<;>lia
 refine Zr (λi en g=>Sm2 λv3 v4=>Cj3 (en=[df<|.tup [.tup<|bs.map .int,.tup<|ts.map trV],df<|.int b,df<|.ref p,v3,v4]) (Ext h g)<|g p=df (.lst<|(eW b 0<|ts.take i).map trV)) ⟨_,_,rfl,x0,e0⟩ (λ_ _ _ _ _=>trivial) ?_ ?_
 .rintro i v en g hv ⟨v3,v4,rfl,x,ep⟩ K hK;let⟨y,hy,rfl⟩:=UD hv;rw[Ø]at hy;let⟨t,ht,rfl⟩:=Ë.mp hy;have hi:i<ts.length:=(Î.mp ht).1;have hn:eW b 0 (ts.take<|i+1)=eW b 0 (ts.take i)++(if b=t.1\/b=t.2.1 then [((i:Int),far t b,t.2.2)]else []):=by
   rw[ŉ,ht];have:=NA (b:=b) (t:=t) (l:=ts.take i) (k:=0);rw[Ĕ,Nat.min_eq_left (by lia),Α]at this;exact this
  rw[Α];have et:trV t=.tup [.int t.1,.int t.2.1,.int t.2.2]:=rfl;fail;rw[et];refine eC (by simp[d5]) ?_;refine Ms (ns:=[t.1,t.2.1]) ?_;refine' eL (λhc=>?_) (λhc=>?_)
  .exists CO (t:=t)
   fail;have hl:=nl (ts.take i) 0;rw[Ĕ]at hl;refine Zp ep (by rw[À,lim];lia) ?_;refine' hK _ _ ⟨_,_,rfl,?_,?_⟩
   .exact Ud x hp
   .have hc:b=t.1\/b=t.2.1:=⇑hc
    rw[hn,ff hc,Ð];exact dk
  .refine' hK _ _ ⟨_,_,rfl,x,?_⟩;have hc:¬ (b=t.1\/b=t.2.1):=⇑hc
   rw[hn,fg hc,þ];exact ep
 .rintro en g ⟨v3,v4,rfl,x,ep⟩;rw[NY,À,ó]at ep;refine' k p g hp x ep
end
abbrev YQ(rs:List Tie):List<|Int×(Int×Int):=rs.map λr=>(r.1,r.2)
def Wl(rs:List Tie):(YQ rs).map (·.1)=rs.map (·.1):=by unfold YQ;rw[ô];rfl
abbrev ZG(own life most:Int)(rs:List Tie):Br:=⟨own,life,most,YQ rs,[],⟨own,0,dg⟩,0,0⟩
variable {own:Int} {life:Int}
def MU{rs:List Tie}(hb:h b=df (.ins "Bridge" []))(hl:h l=df (.lst<|rs.map trV))(nd:(rs.map (·.1)).Nodup)(h16:rs.length<=16)
  (k:∀t d g,h t=dg->h d=dg->dC g b t d (ZG own life most rs)->Ex [b] h g->Q .non g):wF P (n+1) "Bridge.__init__" [.ref b,.int own,.int life,.ref l,.int most] h Q X:=by
 have nlb:b≠l:=BK hb hl nofun;refine Kc ?_;refine' Ym dk (show(1:Nat)<900 by decide) ?_;refine' Ym dk (show(2:Nat)<900 by decide) ?_;fail;intro t ht;rw[dm,dm]at ht ⊢;have ntb:b≠t:=Za dk ht;have nht:h t=dg:=by rw[dj ntb.symm]at ht;exact ht
 have ntl:l≠t:=Za hl nht;refine' Ym (upd_ne' ntb dk) (show(3:Nat)<900 by decide) ?_;fail;have hl1:∀{o1 o2 o3:Ob},upd (upd (upd h b o1) t o2) b o3 l=df (.lst<|rs.map trV):=λ{_ _ _}=>by rw[dj nlb.symm,dj ntl,dj nlb.symm];exact hl
 refine Zr (λi e g=>Sm3 λu v w=>Cj4 (e=[df<|.ref b,df<|.int own,df<|.int life,df<|.ref l,df<|.int most,u,v,w]) (g b=df (.ins "Bridge" [("number",.int own),("life",.int life),("age_let_go",.int most),("ties_by_place",.ref t)])) (g t=df (.dct<|Zm AF<|YQ<|rs.take i))<|Ex [b] h g) ⟨dg,dg,dg,rfl,dk,by rw[dj ntb.symm];exact dk,?_⟩ ?_ ?_ ?_
 .refine⟨λ{a o} na e=>?_⟩;have nab:a≠b:=⇑na
  rw[dj nab,dj<|Za e nht,dj nab];exact e
 .rintro i e g _ ⟨u,v,w,rfl,h1,h2,h3⟩;exact lsE (h3.get (by simpa using nlb.symm) hl)
 .rintro i v e g hv ⟨u,v,w,rfl,h1,h2,h3⟩ K hK;let⟨r,hp,rfl⟩:=ZK hv;have nk:=YJ nd hp;let⟨p,nb,c⟩:=r;unfold trV;refine' YD (k:=.int p) h2 ⟨rfl,?_⟩ ?_
  .rw[J6];unfold YQ;rw[À];exact Ò (Ô (Η _ _) h16) (by decide)
  rw[show Val.tup [.int nb,.int c]=AF (nb,c) from rfl,Z6];refine' hK _ _ ⟨_,_,_,rfl,by rw[dj ntb];exact h1,?_,?_⟩
  .rw[dk,XX,Zi hp]
   .unfold YQ;rw[Ð];rfl
   .rw[Wl];exact nk
  .exact⟨λna e=>by rw[dj<|Za e nht];exact h3.get na e⟩
 .rintro e g ⟨u,v,w,rfl,h1,h2,h3⟩;rw[À,ó]at h2;fail;intro d hd;have ndb:b≠d:=Za h1 hd;have ndt:t≠d:=Za h2 hd;have nhd:h d=dg:=h3.none (by rw[h1];intro z;cases z) hd;refine' Ym dk (show(5:Nat)<900 by decide) ?_;refine' Ym dk (show(6:Nat)<900 by decide) ?_;refine' Ym dk (show(7:Nat)<900 by decide) ?_;fail;rw[dm,dm,dm];refine k t d _ nht nhd ⟨dk,?_,?_,ndt⟩ ?_
  .rw[dj ntb.symm,dj ndt];exact h2
  .rw[dj ndb.symm];exact dk
  .exact(h3.trans<|.of<|Ext.new hd).trans (Ex.upd<|by simp)
def JD{b:Int}:∀{l:List Tie}{k:Nat},((eW b k l).map (·.1)).Pairwise (· < ·)/\∀r∈eW b k l,(k:Int)<=r.1/\r.1<(k+l.length:Nat)
 |[],k=>⟨by simp[eW],λr hr=>fk hr<|by simp[eW]⟩
 |t::l,k=>by
  let⟨h1,h2⟩:=JD (b:=b) (l:=l) (k:=k+1);unfold eW;split
  .refine⟨?_,λr hr=>?_⟩
   .rw[Í,List.pairwise_cons];refine⟨λx hx=>?_,h1⟩;let⟨r,hr,rfl⟩:=Þ.mp hx;have:=(h2 r hr).1;show(k:Int)<r.1;lia
   .rcases Æ.mp hr with rfl|hr
    .exact⟨Ξ _,by show(k:Int)<((k+(t::l).length:Nat):Int);rw[Ç];lia⟩
    .have:=h2 r hr;rw[Ç];lia
  .refine⟨h1,λr hr=>?_⟩;have:=h2 r hr;rw[Ç];lia
def U5{b:Int}:∀{l:List Tie}{k:Nat},(eW b k l).length<=l.length
 |[],k=>Ï _
 |t::l,k=>by have:=U5 (b:=b) (l:=l) (k:=k+1);unfold eW;split<;>simp only[Ç]<;>lia
structure En where
 num:Int
 b:Ad
 t:Ad
 d:Ad
 B:Br
structure Yd where
 y:Ad
 lv:Ad
 st:Ad
 fl:Ad
 rd:Ad
 bs:List Int
 ts:List Tie
 most:Int
 lives:List<|Int×Int
 es:List En
 fallen:List<|Int×Bool
 road:List<|Int×Int×Int×L
abbrev enA(es:List En):List Ad:=es.flatMap λe=>[e.b,e.t,e.d]
abbrev Yd.adr(Y:Yd):List Ad:=[Y.y,Y.lv,Y.st,Y.fl,Y.rd]++enA Y.es
noncomputable abbrev rfV(a:Ad):Val:=.ref a
noncomputable abbrev rdV(r:Int×Int×Int×L):Val:=.tup [.int r.1,.int r.2.1,.int r.2.2.1,r.2.2.2.v]
abbrev stands(es:List En):List<|Int×Ad:=es.map λe=>(e.num,e.b)
def ZF(es:List En):(stands es).map (·.1)=es.map (·.num):=by unfold stands;rw[ô];rfl
structure dD(h:Hs)(Y:Yd):Prop where
 ins:h Y.y=df (.ins "Yard" [("net_made_of",Xg Y.bs Y.ts),("greatest_age",.int Y.most),("lives",.ref Y.lv),("standing",.ref Y.st),("ties_fallen",.ref Y.fl),("letters_on_road",.ref Y.rd)])
 lives:h Y.lv=df (.dct<|Zm Val.int Y.lives)
 stand:h Y.st=df (.dct<|Zm rfV<|stands Y.es)
 fallen:h Y.fl=df (.dct<|Zm Val.bl Y.fallen)
 road:h Y.rd=df (.lst<|Y.road.map rdV)
 brs:∀e∈Y.es,dC h e.b e.t e.d e.B
 nd:Y.adr.Nodup
 key:(Y.es.map (·.num)).Nodup
variable {es:List En} {e:En}
def Ww(h:e∈es):e.b∈enA es/\e.t∈enA es/\e.d∈enA es:=by refine⟨?_,?_,?_⟩<;>exact Ő.mpr ⟨e,h,by simp⟩
def Wc(es:List En)(e:En):enA (es++[e])=enA es++[e.b,e.t,e.d]:=by unfold enA;rw[cr];simp
variable {Y:Yd}
def dD.keep{S:List Ad}(x:dD h Y)(e:Ex S h g)(ds:∀a∈Y.adr,a∉S):dD g Y:=by have m:∀a∈[Y.y,Y.lv,Y.st,Y.fl,Y.rd],a∉S:=λa ha=>ds a<|Ö _ ha;refine⟨e.get (m _<|by simp) x.ins,e.get (m _<|by simp) x.lives,e.get (m _<|by simp) x.stand,e.get (m _<|by simp) x.fallen,e.get (m _<|by simp) x.road,λb hb=>?_,x.nd,x.key⟩;let⟨q1,q2,q3⟩:=Ww hb;exact(x.brs b hb).keep e (ds _<|È _ q1) (ds _<|È _ q2) (ds _<|È _ q3)
def dD.ext(x:dD h Y)(e:Ext h g):dD g Y:=x.keep (S:=[]) (.of e) λ_ _=>by simp
def dD.taken(x:dD h Y)(ha:a∈Y.adr):h a≠dg:=by
 rcases à.mp ha with ha|ha
 .simp only[Æ,Û,or_false]at ha;rcases ha with rfl|rfl|rfl|rfl|rfl
  .rw[x.ins];simp
  .rw[x.lives];simp
  .rw[x.stand];simp
  .rw[x.fallen];simp
  .rw[x.road];simp
 .obtain⟨e,he,ha⟩:=Ő.mp ha;have:=x.brs e he;simp only[Æ,Û,or_false]at ha;rcases ha with rfl|rfl|rfl
  .rw[this.ins];simp
  .rw[this.ties];simp
  .rw[this.held];simp
def Yd.sep(nd:Y.adr.Nodup)(ha:a∈[Y.y,Y.lv,Y.st,Y.fl,Y.rd])(hb:b∈enA Y.es):b≠a:=λz=>(ä.mp nd).2.2 a ha b hb z.symm
def Yd.five(nd:Y.adr.Nodup):(Y.y≠Y.lv/\Y.y≠Y.st/\Y.y≠Y.fl/\Y.y≠Y.rd)/\(Y.lv≠Y.st/\Y.lv≠Y.fl/\Y.lv≠Y.rd)/\(Y.st≠Y.fl/\Y.st≠Y.rd)/\Y.fl≠Y.rd:=by have:=(ä.mp nd).1;simp only[Ą,Æ,Û,or_false,not_or,not_false_eq_true,Ċ,and_true]at this;let⟨⟨a1,a2,a3,a4⟩,⟨b1,b2,b3⟩,⟨c1,c2⟩,d1⟩:=this;exact⟨⟨a1,a2,a3,a4⟩,⟨b1,b2,b3⟩,⟨c1,c2⟩,d1⟩
def dC.off(x:dC h e.b e.t e.d e.B)(he:e∈es)(n:∀b∈enA es,b≠a):dC (upd h a o) e.b e.t e.d e.B:=by let⟨q1,q2,q3⟩:=Ww he;exact⟨(dj<|n _ q1).trans x.ins,(dj<|n _ q2).trans x.ties,(dj<|n _ q3).trans x.held,x.ne⟩
def dD.setLives(x:dD h Y)(l:List<|Int×Int):dD (upd h Y.lv<|.dct<|Zm Val.int l) {Y with lives:=l}:=by let⟨⟨a1,a2,a3,a4⟩,⟨b1,b2,b3⟩,_,_⟩:=Yd.five x.nd;exact⟨(dj a1).trans x.ins,dk,(dj b1.symm).trans x.stand,(dj b2.symm).trans x.fallen,(dj b3.symm).trans x.road,λe he=>(x.brs e he).off he λb hb=>Yd.sep x.nd (by simp) hb,x.nd,x.key⟩
def dD.setRoad(x:dD h Y)(l:List<|Int×Int×Int×L):dD (upd h Y.rd<|.lst<|l.map rdV) {Y with road:=l}:=by let⟨⟨a1,a2,a3,a4⟩,⟨b1,b2,b3⟩,⟨c1,c2⟩,d1⟩:=Yd.five x.nd;exact⟨(dj a4).trans x.ins,(dj b3).trans x.lives,(dj c2).trans x.stand,(dj d1).trans x.fallen,dk,λe he=>(x.brs e he).off he λb hb=>Yd.sep x.nd (by simp) hb,x.nd,x.key⟩
def dD.stands(x:dD h Y)(hb:dC h e.b e.t e.d e.B)(hn:e.num∉Y.es.map (·.num))(fr:∀a∈[e.b,e.t,e.d],a∉Y.adr):dD (upd h Y.st<|.dct<|Zm rfV<|stands<|Y.es++[e]) {Y with es:=Y.es++[e]}:=by
 let⟨⟨a1,a2,a3,a4⟩,⟨b1,b2,b3⟩,⟨c1,c2⟩,d1⟩:=Yd.five x.nd;have ŭ:Y.st∈Y.adr:=Ö _ (by simp);have nb:∀a∈enA (Y.es++[e]),a≠Y.st:=λa ha=>by
  rw[Wc]at ha;rcases à.mp ha with ha|ha
  .exact Yd.sep x.nd (by simp) ha
  .exact λz=>fr a ha<|z▸ŭ
 refine⟨(dj a2).trans x.ins,(dj b1).trans x.lives,dk,(dj c1.symm).trans x.fallen,(dj c2.symm).trans x.road,λq hq=>?_,?_,?_⟩
 .refine dC.off ?_ hq nb;rcases à.mp hq with hq|hq
  .exact x.brs q hq
  .rw[Ñ.mp hq];exact hb
 .show([Y.y,Y.lv,Y.st,Y.fl,Y.rd]++enA (Y.es++[e])).Nodup;rw[Wc,<-ě,ä];refine⟨x.nd,?_,λa ha b hb z=>fr b hb<|z▸ha⟩;simp[hb.nbt,hb.nbd,hb.ne]
 .show((Y.es++[e]).map (·.num)).Nodup;rw[Ð,ä];refine⟨x.key,by simp,λa ha b hb=>?_⟩;have:b=e.num:=⇑hb
  rw[this];exact λz=>hn<|z▸ha
def WU{h0:Hs}{fs:List (String×Val)}{f:String}{K:Hs->Prop}(i:g p=df (.ins "Yard" fs))(x:Ex [p] h0 g)(hp:h0 p=dg)(ha:g a=dg)(m:fs.length<900)(q:∀g',g' p=df (.ins "Yard"<|dJ fs f<|.ref a)->g' a=df o->Ex [p] h0 g'->Ex [p] g g'->p≠a->h0 a=dg->K g'):go (ei (upd g a o) (.ref p) f<|.ref a) K:=by
 have n:=Za i ha;have y:Ex [p] g<|upd (upd g a o) p<|.ins "Yard"<|dJ fs f<|.ref a:=⟨λ{b u} nb e=>by rw[dj λz=>nb<|by simp[z],dj<|Za e ha];exact e⟩
 refine Ym (upd_ne' n i) m<|q _ dk ((dj n.symm).trans dk) (x.trans y) y n ?_;cases z:h0 a with
 |none=>rfl
 |some u=>rw[x.get (by simpa using n.symm) z]at ha;cases ha
structure YNew(bs:List Int)(ts:List Tie)(most:Int)(Y:Yd):Prop where
 hb:Y.bs=bs
 ht:Y.ts=ts
 hm:Y.most=most
 num:Y.es.map (·.num)=bs
 br:∀e∈Y.es,e.B=ZG e.num 0 most (eW e.num 0 ts)
 fallen:Y.fallen=[]
 road:Y.road=[]
 lives:Y.lives=bs.map λb=>(b,0)
section
variable {bs:List Int}{ts:List Tie}
def BU(no:dN bs ts)(hp:h p=dg)(k:∀Y g,Y.y=p->dD g Y->YNew bs ts most Y->(∀a∈Y.adr,h a=dg)->Ext h g->Q .non g):wF P (n+3) "Yard.__init__" [.ref p,Xg bs ts,.int most] (upd h p<|.ins "Yard" []) Q X:=by
 have h10:=no.ten;have h16:=no.sixteen;have hbl:(bs.map Val.int).length=bs.length:=À _;have ndb:bs.Nodup:=no.up.imp λh=>by lia
 refine Nq ?_;refine' Ym dk (show(1:Nat)<900 by decide) ?_;rw[dm,dm];have i1:=dk (h:=h) (a:=p) (o:=Ob.ins "Yard"<|dJ (dJ [] "net_made_of"<|Xg bs ts) "greatest_age"<|.int most);have x1:Ex [p] h<|upd h p<|Ob.ins "Yard"<|dJ (dJ [] "net_made_of"<|Xg bs ts) "greatest_age"<|.int most:=Ex.upd (by simp);generalize upd h p (Ob.ins "Yard"<|dJ (dJ [] "net_made_of"<|Xg bs ts) "greatest_age"<|.int most)=g1 at i1 x1 ⊢;fail;intro lv hlv;refine' WU i1 x1 hp hlv (show(2:Nat)<900 by decide) λg2 i2 lv2 x2 y2 nlv flv=>?_;fail;intro st ŭ;refine' WU i2 x2 hp ŭ (show(3:Nat)<900 by decide) λg3 i3 st3 x3 y3 nst fst=>?_;fail;intro fl hfl;refine' WU i3 x3 hp hfl (show(4:Nat)<900 by decide) λg4 i4 fl4 x4 y4 nfl ffl=>?_;refine' Yl λrd hrd=>?_;refine' WU i4 x4 hp hrd (show(5:Nat)<900 by decide) λg5 i5 rd5 x5 y5 nrd frd=>?_;have q1:lv≠st:=Za lv2 ŭ;have lv3:=y3.get (by simpa using nlv.symm) lv2;have q2:lv≠fl:=Za lv3 hfl;have q3:st≠fl:=Za st3 hfl;have lv4:=y4.get (by simpa using nlv.symm) lv3;have st4:=y4.get (by simpa using nst.symm) st3;have q4:lv≠rd:=Za lv4 hrd;have q5:st≠rd:=Za st4 hrd;have q6:fl≠rd:=Za fl4 hrd;have lv5:=y5.get (by simpa using nlv.symm) lv4;have st5:=y5.get (by simpa using nst.symm) st4;have fl5:=y5.get (by simpa using nfl.symm) fl4;have xe:Ext h g5:=⟨λ{a o} e=>x5.get (by simpa using Za e hp) e⟩
 have Y0:dD g5 ⟨p,lv,st,fl,rd,bs,ts,most,[],[],[],[]⟩:=⟨i5,lv5,st5,fl5,rd5,(λe he=>fk he Û),by
   show([p,lv,st,fl,rd]++[]).Nodup
   simp[nlv,nst,nfl,nrd,q1,q2,q3,q4,q5,q6],Ċ⟩
 exists dy (xs:=[.tup<|bs.map .int,.tup<|ts.map trV]) (v:=.tup<|bs.map .int) rfl
 refine' Zr (λi en g=>Sm3 λv3 lvs es=>Cj7 (en=[df<|.ref p,df<|Xg bs ts,df<|.int most,v3]) (dD g ⟨p,lv,st,fl,rd,bs,ts,most,lvs,es,[],[]⟩) (lvs=(bs.take i).map (λb=>(b,0))) (es.map (·.num)=bs.take i) ((∀e∈es,e.B=ZG e.num 0 most (eW e.num 0 ts))) ((∀a∈[p,lv,st,fl,rd]++enA es,h a=dg))<|Ext h g) ⟨_,[],[],rfl,Y0,rfl,rfl,(λe he=>fk he Û),?_,xe⟩ (λ_ _ _ _ _=>trivial) ?_ ?_
 .intro a ha;simp only[enA,List.flatMap_nil,þ,Æ,Û,or_false]at ha;rcases ha with rfl|rfl|rfl|rfl|rfl<;>assumption
 .rintro i v en g hv ⟨v3,lvs,es,rfl,Y,hlv,hnum,hbr,aW,x⟩ K hK;let⟨b,hb,rfl⟩:=ZK hv;have hi:i<bs.length:=(Î.mp hb).1;have hnb:b∉es.map (·.num):=by
   rw[hnum];intro m;have:=YJ (f:=id) (by rw[Θ];exact ndb) hb;rw[Θ]at this;exact this m
  have hll:lvs.length<=10:=by rw[hlv,À,Ĕ];lia
  have hkl:b∉lvs.map (·.1):=by rw[hlv,ô,show((λq:Int×Int=>q.1) ∘ λb:Int=>(b,(0:Int)))=id from rfl,Θ,<-hnum];exact hnb
  have hesl:es.length<=10:=by rw[<-À (f:=(·.num)) (as:=es),hnum,Ĕ];lia
  let⟨yi,yl,ys,yf,yr,yb,ynd,yk⟩:=id Y;dsimp only at yi yl ys yf yr yb;refine' YD (k:=.int b) yl ⟨rfl,by rw[J6];exact Ò hll<|by decide⟩ ?_;rw[Z6 (val:=Val.int)];have Y1:=Y.setLives<|Zs lvs b 0;have x1:Ext h<|upd g lv<|.dct<|Zm Val.int<|Zs lvs b 0:=⟨λe=>by rw[dj<|Za e flv];exact x.get e⟩
  dsimp only at Y1;generalize upd g lv (.dct<|Zm Val.int<|Zs lvs b 0)=g6 at Y1 x1;let⟨zi,zl,zs,zf,zr,zb,znd,zk⟩:=id Y1;dsimp only at zi zl zs zf zr zb;refine' XA h16 λpn g7 hpn x7 en=>?_;have Y7:=Y1.ext x7;fail;intro q hq;have nr:=JD (b:=b) (l:=ts) (k:=0);have nl:=U5 (b:=b) (l:=ts) (k:=0);have xq:Ext g7<|upd g7 q<|.ins "Bridge" []:=Ext.new hq;have eq:(upd g7 q<|.ins "Bridge" []) q=df (.ins "Bridge" []):=dk;refine MU (rs:=eW b 0 ts) eq (xq.get en) (nr.1.imp λz=>by lia) (by lia) λt d g8 ht hd ba x8=>?_;have x78:Ext g7 g8:=⟨λ{a o} e=>x8.get (by simpa using Za e hq)<|xq.get e⟩
  have Y8:=Y7.ext x78;have ht7:g7 t=dg:=by cases z:g7 t with|none=>rfl|some o=>rw[xq.get z]at ht;cases ht
  have hd7:g7 d=dg:=by cases z:g7 d with|none=>rfl|some o=>rw[xq.get z]at hd;cases hd
  refine⟨rfl,?_⟩;let⟨wi,wl,ws,wf,wr,wb,wnd,wk⟩:=id Y8;dsimp only at wi wl ws wf wr wb;refine' YD (k:=.int b) ws ⟨rfl,by rw[J6];unfold stands;rw[À];exact Ò hesl<|by decide⟩ ?_;rw[Z6 (val:=rfV),XX _<|by rw[ZF];exact hnb];have ŭ:stands es++[(b,q)]=stands (es++[⟨b,q,t,d,ZG b 0 most<|eW b 0 ts⟩]):=by unfold stands;rw[Ð];rfl
  rw[ŭ];have fr:∀a∈[q,t,d],g7 a=dg:=λa ha=>by simp only[Æ,Û,or_false]at ha;rcases ha with rfl|rfl|rfl<;>assumption
  have Y9:=Y8.stands (e:=⟨b,q,t,d,ZG b 0 most<|eW b 0 ts⟩) ba hnb λa ha z=>Y7.taken z<|fr a ha;fail;have x9:Ext h g8:=(x1.trans x7).trans x78;refine hK _ _ ⟨_,_,_,rfl,Y9,?_,?_,?_,?_,⟨λe=>by rw[dj<|Za e fst];exact x9.get e⟩⟩
  .show Zs lvs b 0=_;rw[XX _ hkl,hlv,Zi hb,Ð];rfl
  .rw[Ð,hnum,ŉ,hb];rfl
  .intro e he;rcases à.mp he with he|he
   .exact hbr e he
   .rw[Ñ.mp he]
  .intro a ha;rw[Wc,<-ě]at ha;rcases à.mp ha with ha|ha
   .exact aW a ha
   .cases z:h a with
    |none=>rfl
    |some o=>have:=fr a ha;rw[(x1.trans x7).get z]at this;cases this
 .rintro en g ⟨v3,lvs,es,rfl,Y,hlv,hnum,hbr,aW,x⟩;rw[hbl,ó]at hnum hlv;refine' k _ g rfl Y ⟨rfl,rfl,rfl,hnum,hbr,rfl,rfl,hlv⟩ aW x
end
abbrev IG(ts:List Tie)(p num:Int):Int:=far (ts[p.toNat]?.getD (0,0,0)) num
abbrev Yj(ts:List Tie)(num:Int)(B:Br):List<|Int×Int×Int×L:=(sortI (B.ties.map (·.1))).map λp=>(num,IG ts p num,p,ZE B p)
def Xh{num:Int}(h:(stands es).lookup num=df b):∃e pre ĩ,es=pre++e::ĩ/\e.num=num/\e.b=b:=by have:=Zx h;unfold stands at this;let⟨e,he,z⟩:=Þ.mp this;let⟨pre,ĩ,rfl⟩:=cJ he;injection z with z1 z2;exact⟨e,pre,ĩ,rfl,z1,z2⟩
def YK(pre ĩ:List En)(e:En):enA (pre++e::ĩ)=enA pre++([e.b,e.t,e.d]++enA ĩ):=by unfold enA;rw[cr];rfl
variable {ĩ:List En}
def dD.change{pre:List En}(x:dD h Y)(he:Y.es=pre++e::ĩ)(ex:Ex [e.b] h g)(hb:dC g e.b t d B)(ft:t=e.t\/h t=dg)(fd:d=e.d\/h d=dg):dD g {Y with es:=pre++⟨e.num,e.b,t,d,B⟩::ĩ}:=by
 let⟨y,lv,st,fl,rd,bs,ts,most,lives,es,fallen,road⟩:=Y;dsimp only at he;subst he;have hm:e∈pre++e::ĩ:=by simp
 have heA:=Ww hm;have nb:∀a∈[y,lv,st,fl,rd],a∉[e.b]:=λa ha z=>Yd.sep x.nd ha heA.1 (Ñ.mp z).symm;have nd0:([y,lv,st,fl,rd]++(enA pre++([e.b,e.t,e.d]++enA ĩ))).Nodup:=by rw[<-YK];exact x.nd
 have key:∀q∈pre++ĩ,dC g q.b q.t q.d q.B:=λq hq=>by
  have cK:q∈pre++e::ĩ:=by
   rcases à.mp hq with z|z
   .exact Ö _ z
   .exact È _<|ß _ z
  have nq:∀a∈[q.b,q.t,q.d],a≠e.b:=λa ha z=>by
   have n1:=(ä.mp nd0).2.1;rcases à.mp hq with hq|hq
   .have ha':a∈enA pre:=Ő.mpr ⟨q,hq,ha⟩;exact(ä.mp n1).2.2 a ha' e.b (by simp) z
   .have ha':a∈enA ĩ:=Ő.mpr ⟨q,hq,ha⟩;have n2:=(ä.mp n1).2.1;exact(ä.mp n2).2.2 e.b (by simp) a ha' z.symm
  exact(x.brs q cK).keep ex (by simpa using nq _ (by simp)) (by simpa using nq _ (by simp)) (by simpa using nq _ (by simp))
 have tk:∀a∈[y,lv,st,fl,rd]++(enA pre++([e.b,e.t,e.d]++enA ĩ)),h a≠dg:=λa ha=>x.taken (by show a∈[y,lv,st,fl,rd]++enA (pre++e::ĩ);rw[YK];exact ha);have fr:∀{a c:Ad},(a=c\/h a=dg)->∀z,z∈[y,lv,st,fl,rd]++(enA pre++([e.b,e.t,e.d]++enA ĩ))->z≠c->z≠a:=λf z hz nc e=>by
  subst e;rcases f with f|f
  .exact nc f
  .exact tk z hz f
 refine⟨ex.get (nb _<|by simp) x.ins,ex.get (nb _<|by simp) x.lives,?_,ex.get (nb _<|by simp) x.fallen,ex.get (nb _<|by simp) x.road,λq hq=>?_,?_,?_⟩
 .have:=ex.get (nb st<|by simp) x.stand;dsimp only at this ⊢;rw[this];unfold O.stands;simp
 .dsimp only at hq;rcases à.mp hq with z|z
  .exact key q<|Ö _ z
  .rcases Æ.mp z with rfl|z
   .exact hb
   .exact key q<|È _ z
 .show([y,lv,st,fl,rd]++enA (pre++⟨e.num,e.b,t,d,B⟩::ĩ)).Nodup;rw[YK];dsimp only;have n1:=ä.mp nd0;have n2:=ä.mp n1.2.1;have n3:=ä.mp n2.2.1;have e3:e.b≠e.t/\e.b≠e.d/\e.t≠e.d:=by
   have:=n3.1;simp only[Ą,Æ,Û,or_false,not_or,Ċ,and_true,not_false_eq_true]at this;exact⟨this.1.1,this.1.2,this.2⟩
  have out:∀z,z∈[y,lv,st,fl,rd]\/z∈enA pre\/z∈enA ĩ->z∉[e.b,t,d]:=λz hz m=>by
   have hza:z∈[y,lv,st,fl,rd]++(enA pre++([e.b,e.t,e.d]++enA ĩ)):=by
    rcases hz with q|q|q
    .exact Ö _ q
    .exact È _<|Ö _ q
    .exact È _<|È _<|È _ q
   have nz:∀c∈[e.b,e.t,e.d],z≠c:=λc hc w=>by
    rcases hz with q|q|q
    .exact n1.2.2 z q c (È _<|Ö _ hc) w
    .exact n2.2.2 z q c (Ö _ hc) w
    .exact n3.2.2 c hc z q w.symm
   simp only[Æ,Û,or_false]at m;rcases m with m|m|m
   .exact nz e.b (by simp) m
   .exact fr ft z hza (nz e.t<|by simp) m
   .exact fr fd z hza (nz e.d<|by simp) m
  refine ä.mpr ⟨n1.1,ä.mpr ⟨n2.1,ä.mpr ⟨?_,n3.2.1,λa ha b hb z=>out b (.inr<|.inr hb)<|z▸ha⟩,λa ha b hb z=>?_⟩,λa ha b hb z=>?_⟩
  .simp[hb.nbt,hb.nbd,hb.ne]
  .rcases à.mp hb with q|q
   .exact out a (.inr<|.inl ha)<|z▸q
   .exact n2.2.2 a ha b (È _ q) z
  .rcases à.mp hb with q|q
   .exact n1.2.2 a ha b (Ö _ q) z
   .rcases à.mp q with q|q
    .exact out a (.inl ha)<|z▸q
    .exact n1.2.2 a ha b (È _<|È _ q) z
 .have:=x.key;simpa using this
def dD.inner{pre:List En}(x:dD h Y)(he:Y.es=pre++e::ĩ)(ex:Ex [e.b,e.t,e.d] h g)(hb:dC g e.b e.t e.d B):dD g {Y with es:=pre ++ {e with B:=B} :: ĩ}:=by
 let⟨y,lv,st,fl,rd,bs,ts,most,lives,es,fallen,road⟩:=Y;dsimp only at he;subst he;have nd0:([y,lv,st,fl,rd]++(enA pre++([e.b,e.t,e.d]++enA ĩ))).Nodup:=by rw[<-YK];exact x.nd
 have n1:=ä.mp nd0;have n2:=ä.mp n1.2.1;have n3:=ä.mp n2.2.1;have nb:∀a∈[y,lv,st,fl,rd],a∉[e.b,e.t,e.d]:=λa ha z=>n1.2.2 a ha a (È _<|Ö _ z) rfl;have key:∀q,q∈pre\/q∈ĩ->dC g q.b q.t q.d q.B:=λq hq=>by
  have cK:q∈pre++e::ĩ:=by
   rcases hq with z|z
   .exact Ö _ z
   .exact È _<|ß _ z
  have nq:∀a∈[q.b,q.t,q.d],a∉[e.b,e.t,e.d]:=λa ha z=>by
   rcases hq with hq|hq
   .exact n2.2.2 a (Ő.mpr ⟨q,hq,ha⟩) a (Ö _ z) rfl
   .exact n3.2.2 a z a (Ő.mpr ⟨q,hq,ha⟩) rfl
  exact(x.brs q cK).keep ex (nq _<|by simp) (nq _<|by simp) (nq _<|by simp)
 refine⟨ex.get (nb _<|by simp) x.ins,ex.get (nb _<|by simp) x.lives,?_,ex.get (nb _<|by simp) x.fallen,ex.get (nb _<|by simp) x.road,λq hq=>?_,?_,?_⟩
 .have:=ex.get (nb st<|by simp) x.stand;dsimp only at this ⊢;rw[this];unfold O.stands;simp
 .dsimp only at hq;rcases à.mp hq with z|z
  .exact key q<|.inl z
  .rcases Æ.mp z with rfl|z
   .exact hb
   .exact key q<|.inr z
 .show([y,lv,st,fl,rd]++enA (pre ++ {e with B:=B} :: ĩ)).Nodup;rw[YK];exact nd0
 .have:=x.key;dsimp only at this ⊢;simpa using this
def LD{xs:List Val}{v:Val}{p:Nat}{K:Val×Hs->Prop}(e1:h a=df (.lst xs))(e:xs[p]?=df v)(m:xs.length<=500000)(q:K (v,upd h a<|.lst<|xs.eraseIdx p)):go (bmV h .popAt (.ref a) [.int p]) K:=by
 have hp:p<xs.length:=(Î.mp e).1;have h1:-(2 ^ 62)<(p:Int)/\(p:Int)<2 ^ 62:=by
  have:(p:Int)<500000:=by lia
  exact⟨Int.lt_of_lt_of_le (by decide:(-(2 ^ 62):Int)<0)<|ϗ p,Int.lt_trans this<|by decide⟩
 have h2:ixN xs.length (p:Int)=df p:=by unfold ixN;rw[ff<|ϗ p,ff (by lia),ò]
 have h3:bmPopAt h [.int p] a xs=df (v,upd h a<|.lst<|xs.eraseIdx p):=by unfold bmPopAt;dsimp only;rw[ff h1,h2];simp only[í,e,į]
 exact du (by show(dF<|h a).bind (bmPopAt h [.int p] a)=_;rw[lsE e1,í];exact h3) q
def KZ{α β:Type}(f:α->β):∀(l:List α) (i:Nat),(l.map f).eraseIdx i=(l.eraseIdx i).map f
 |[],_=>by simp
 |_::_,0=>by simp
 |x::l,i+1=>by simp[KZ f l i]
section
variable {Y:Yd}{p:Nat}
variable {r:Int×Int×Int×L}
def XN(x:dD h Y)(hr:Y.road[p]?=df r)(hl:Y.road.length<=500000)(k:∀g,dD g {Y with road:=Y.road.eraseIdx p}->Ex [Y.rd] h g->Q (rdV r) g):wF P (n+1) "Yard.take_off" [.ref Y.y,.int p] h Q X:=by have xi:=x.ins;have xr:=x.road;have hp:p<Y.road.length:=(Î.mp hr).1;have hrl:(Y.road.map rdV).length=Y.road.length:=À _;refine WJ ?_;fail;refine eF (by simp) ?_;fail;refine eK (by rw[hrl];simpa using hp) ?_;refine' LD xr (by rw[Ø,hr];rfl) (by lia) ?_;rw[KZ];exact k _ (x.setRoad _) (Ex.upd<|by simp)
def Fo{pre:List En}(x:dD h Y)(hr:Y.road[p]?=df r)(hl:Y.road.length<=500000)(he:Y.es=pre++e::ĩ)(hg:r.2.1=e.num)(o:e.B.ok)
  (k:∀g,dD g {Y with es:=pre ++ {e with B:=ZQ e.B r.2.2.1 r.2.2.2} :: ĩ,road:=Y.road.eraseIdx p}->Ex Y.adr h g->Q .non g):wF P (n+3) "Yard.come" [.ref Y.y,.int p] h Q X:=by
 have xi:=x.ins;have hm:e∈Y.es:=by rw[he];simp
 have lk:(stands Y.es).lookup r.2.1=df e.b:=by rw[hg];exact W7 (by rw[ZF];exact x.key)<|Þ.mpr ⟨e,hm,rfl⟩
 refine WC ?_;refine' XN x hr hl λg1 y1 x1=>?_;have yi:=y1.ins;have ys:=y1.stand;have ba:=y1.brs e hm;have bi:=ba.ins;dsimp only at yi ys;let⟨rs,rg,rt,rl⟩:=r;dsimp only at lk hg k
 exists JF ys rfl
 rw[Xf,lk];walk_at "p";refine Z3 ys rfl (by rw[Z4,lk];rfl) ?_;refine' UZ ba o λg2 b2 x2=>?_;have y2:=y1.inner (e:=e) he (x2.sub<|by simp) b2;have mA:=Ww hm;refine' k g2 y2 ((x1.sub λa ha=>?_).trans<|x2.sub λa ha=>?_)
 .rw[Ñ.mp ha];exact Ö _ (by simp)
 .rw[Ñ.mp ha];exact È _ mA.2.2
def CD(x:dD h Y)(hr:Y.road[p]?=df r)(hl:Y.road.length<=500000)(hg:r.2.1∉Y.es.map (·.num))
  (k:∀g,dD g {Y with road:=Y.road.eraseIdx p}->Ex Y.adr h g->Q .non g):wF P (n+3) "Yard.come" [.ref Y.y,.int p] h Q X:=by
 have xi:=x.ins;have lk:(stands Y.es).lookup r.2.1=dg:=by
  cases z:(stands Y.es).lookup r.2.1 with
  |none=>rfl
  |some q =>have:=û (f:=(·.1))<|Zx z;rw[ZF]at this;exact fk this hg
 refine WC ?_;refine' XN x hr hl λg1 y1 x1=>?_;have yi:=y1.ins;have ys:=y1.stand;dsimp only at yi ys;let⟨rs,rg,rt,rl⟩:=r;dsimp only at lk hg k
 exists JF ys rfl
 rw[Xf,lk];walk_at "p";exact k g1 y1 (x1.sub λa ha=>by rw[Ñ.mp ha];exact Ö _<|by simp)
end
abbrev Yg(k:Int)(F:Br->Br)(es:List En):List En:=es.map λe=>if e.num=k then {e with B:=F e.B} else e
def Wj{k:Int}{F:Br->Br}:∀{es:List En},k∉es.map (·.num)->Yg k F es=es
 |[],_=>rfl
 |e::es,h=>by rw[Í,Æ,not_or]at h;unfold Yg;rw[Í,fg λz=>h.1 z.symm];exact congrArg (e :: ·)<|Wj h.2
variable {F:Br->Br}
def NT{pre:List En}(nd:((pre++e::ĩ).map (·.num)).Nodup):Yg e.num F (pre++e::ĩ)=pre ++ {e with B:=F e.B} :: ĩ:=by rw[Ð,Í,ä,Ą]at nd;have h1:Yg e.num F pre=pre:=Wj λz=>nd.2.2 _ z e.num (by simp) rfl;have h2:Yg e.num F ĩ=ĩ:=Wj nd.2.1.1;unfold Yg at h1 h2 ⊢;rw[Ð,Í,h1,h2,ff rfl]
def NR{k:Int}(es:List En):(Yg k F es).map (·.num)=es.map (·.num):=by unfold Yg;rw[ô];refine č λe _=>?_;show(if e.num=k then({e with B:=F e.B}:En)else e).num=e.num;split<;>rfl
def Nb{k:Int}(es:List En):stands (Yg k F es)=stands es:=by unfold Yg stands;rw[ô];refine č λe _=>?_;show((if e.num=k then({e with B:=F e.B}:En)else e).num,(if e.num=k then({e with B:=F e.B}:En)else e).b)=_;split<;>rfl
def X1{k:Int}{F:Br->Br}:∀es:List En,enA (Yg k F es)=enA es
 |[]=>rfl
 |e::es=>by have:=X1 (k:=k) (F:=F) es;unfold Yg enA at this ⊢;rw[Í,Ŝ,Ŝ,this];split<;>rfl
def MY{k:Int}{q:En}(h:q∈Yg k F es):(q∈es/\q.num≠k)\/∃e∈es,e.num=k/\q={e with B:=F e.B}:=by
 let⟨e,he,rfl⟩:=Þ.mp h;by_cases z:e.num=k
 .right;exact⟨e,he,z,by rw[ff z]⟩
 .left;rw[fg z];exact⟨he,z⟩
abbrev tieF(on:Bool)(p:Int)(far c:Int)(B:Br):Br:=if on then upB B p (far,c)else K0 B p
abbrev setT(on:Bool)(p:Int)(t:Tie)(es:List En):List En:=Yg t.2.1 (tieF on p t.1 t.2.2)<|Yg t.1 (tieF on p t.2.1 t.2.2) es
abbrev onT(Y:Yd)(p:Int)(t:Tie):Bool:=!(Y.fallen.lookup p).isSome&&(((stands Y.es).lookup t.1).isSome&&((stands Y.es).lookup t.2.1).isSome)
section
variable {Y:Yd}
def dD.one(x:dD h Y)(he:e∈Y.es)(ex:Ex [e.b,e.t,e.d] h g)(hb:dC g e.b e.t e.d<|F e.B):dD g {Y with es:=Yg e.num F Y.es}:=by let⟨pre,ĩ,hs⟩:=cJ he;have k:=x.key;rw[hs]at k;rw[hs,NT k];exact x.inner hs ex hb
end
noncomputable abbrev Ei:Ss:=#[.ite (.val<|.var 5) #[.expr<|.meth "Bridge" "up" (.idx (.fld (.var 0) "standing")<|.var 6) #[.var 1,.var 7,.var 4]] #[.ite (.val<|.cmp .isin (.var 6)<|.fld (.var 0) "standing") #[.expr<|.meth "Bridge" "down" (.idx (.fld (.var 0) "standing")<|.var 6) #[.var 1]] .nil]]
section
variable {Y:Yd}
def MF{p:Nat}{t1 t2:Int}{on:Bool}{v6 v7:Option Val}{R:NQ}(x:dD h Y)(hn:t1≠t2)(gd:∀e∈Y.es,e.B.ok)(hon:∀ι far:Int,(ι=t1/\far=t2\/ι=t2/\far=t1)->on=dh->∃b,(stands Y.es).lookup ι=df b)
  (k:∀g e,dD g {Y with es:=setT on p (t1,t2,c) Y.es}->Ex Y.adr h g->R e g) :
  wFor (λ_=>True) (λv e g K M=>go (bind (.many [6,7]) g v e) λe2=>wSs (wF P<|n+1) Ei e2 g K Q M K λ_ c g=>X c g) R [.tup [.int t1,.int t2],.tup [.int t2,.int t1]] [df<|.ref Y.y,df<|.int p,df<|.int t1,df<|.int t2,df<|.int c,df<|.bl on,v6,v7] h:=by
 refine Zr (λi e g=>∃v6 v7 ac,e=[df<|.ref Y.y,df<|.int p,df<|.int t1,df<|.int t2,df<|.int c,df<|.bl on,v6,v7]/\dD g {Y with es:=ac}/\Ex Y.adr h g/\(i=0->ac=Y.es)/\(i=1->ac=Yg t1 (tieF on p t2 c) Y.es)/\(i=2->ac=setT on p (t1,t2,c) Y.es)) ⟨_,_,Y.es,rfl,x,Ex.refl,λ_=>rfl,λz=>(by cases z),λz=>(by cases z)⟩ (λ_ _ _ _ _=>trivial) ?_ ?_
 .rintro i v e g hv ⟨u6,u7,ac,rfl,y,xg,q0,q1,q2⟩ K hK;obtain⟨ι,far,rfl,hnf,ŭ,heA,hgd,hnext⟩:∃ι far,v=.tup [.int ι,.int far]/\(ι=t1/\far=t2\/ι=t2/\far=t1)/\stands ac=stands Y.es/\enA ac=enA Y.es/\(∀e∈ac,e.num=ι->e.B.ok)/\∀cA,cA=Yg ι (tieF on p far c) ac->(i+1=0->cA=Y.es)/\(i+1=1->cA=Yg t1 (tieF on p t2 c) Y.es)/\(i+1=2->cA=setT on p (t1,t2,c) Y.es):=by
   match i,hv with
   |0,hv =>cases hv;have:=q0 rfl;subst this;exact⟨t1,t2,rfl,.inl ⟨rfl,rfl⟩,rfl,rfl,λe he _=>gd e he,λcA z=>⟨λy=>(by cases y),λ_=>z,λy=>(by cases y)⟩⟩
   |1,hv =>
    cases hv;have:=q1 rfl;subst this;refine⟨t2,t1,rfl,.inr ⟨rfl,rfl⟩,Nb _,X1 _,λe he hz=>?_,λcA z=>⟨λy=>(by cases y),λy=>(by cases y),λ_=>z⟩⟩;rcases MY he with⟨hm,_⟩|⟨q,hq,hq1,hq2⟩
    .exact gd e hm
    .exact fk (by rw[hq2]at hz;exact hq1.symm.trans hz) hn
   |i+2,hv=>simp at hv
  have yi:=y.ins;have ys:=y.stand;dsimp only at yi ys;have step:∀{e:En}{g':Hs},e∈ac->e.num=ι->Ex [e.b,e.t,e.d] g g'->dC g' e.b e.t e.d (tieF on p far c e.B)->∀w6 w7,K [df<|.ref Y.y,df<|.int p,df<|.int t1,df<|.int t2,df<|.int c,df<|.bl on,w6,w7] g':=λ{e g'} he Ţ ex hb w6 w7=>by
   have y':=y.one (F:=tieF on p far c) he ex hb;rw[Ţ]at y';have mA:=Ww he;refine hK _ _ ⟨w6,w7,_,rfl,y',xg.trans<|ex.sub λa ha=>?_,hnext _ rfl⟩;refine È _ ?_;rw[<-heA];simp only[Æ,Û,or_false]at ha;rcases ha with rfl|rfl|rfl
   .exact mA.1
   .exact mA.2.1
   .exact mA.2.2
  fail;cases hob:on with
  |true =>
   let⟨b,lk⟩:=hon ι far hnf hob;rw[<-ŭ]at lk;let⟨e,pre,ĩ,hs,Ţ,hbb⟩:=Xh lk;have hm:e∈ac:=by rw[hs];simp
   have ba:=y.brs e hm;have bi:=ba.ins;subst hbb;refine eF rfl ?_;refine' Z3 ys rfl (by rw[Z4,lk];rfl) ?_;refine' GW ba (hgd e hm Ţ) λg' b' x'=>?_;fail;rw[<-hob];exact step hm Ţ (x'.sub<|by simp) (by unfold tieF;rw[hob];exact b') _ _
  |false =>
   refine eK rfl ?_
   exists JF ys rfl
   rw[Xf];cases hlk:(stands ac).lookup ι with
   |none =>
    walk_at "p";rw[<-hob];refine hK _ _ ⟨_,_,ac,rfl,y,xg,hnext ac (Wj ?_).symm⟩;have:=Xw hlk
    rwa [ZF]at this
   |some b =>
    let⟨e,pre,ĩ,hs,Ţ,hbb⟩:=Xh hlk;have hm:e∈ac:=by rw[hs];simp
    have ba:=y.brs e hm;have bi:=ba.ins;subst hbb;walk_at "p";refine Z3 ys rfl (by rw[Z4,hlk];rfl) ?_;refine' Ul ba λg' b' x'=>?_;fail;rw[<-hob];exact step hm Ţ (x'.sub<|by simp) (by unfold tieF;rw[hob];exact b') _ _
 .rintro e g ⟨u6,u7,ac,rfl,y,xg,q0,q1,q2⟩;have:=q2 rfl;subst this;exact k _ _ y xg
def Wn{p:Nat}{t:Tie}(x:dD h Y)(et:Y.ts[p]?=df t)(hn:t.1≠t.2.1)(gd:∀e∈Y.es,e.B.ok)(k:∀g,dD g {Y with es:=setT (onT Y p t) p t Y.es}->Ex Y.adr h g->Q .non g):wF P (n+2) "Yard.set_tie" [.ref Y.y,.int p] h Q X:=by
 have xi:=x.ins;have xs:=x.stand;have xf:=x.fallen;let⟨t1,t2,c⟩:=t;dsimp only at hn;have fin:onT Y p (t1,t2,c)=onT Y p (t1,t2,c)->∀ι far:Int,(ι=t1/\far=t2\/ι=t2/\far=t1)->onT Y p (t1,t2,c)=dh->∃b,(stands Y.es).lookup ι=df b:=λ_ ι far hv ho=>by
  simp only[onT,bAq]at ho;rcases hv with⟨rfl,_⟩|⟨rfl,_⟩
  .exact î.mp ho.2.1
  .exact î.mp ho.2.2
 refine JV ?_
 exists dy (xs:=[.tup<|Y.bs.map .int,.tup<|Y.ts.map trV]) (v:=.tup<|Y.ts.map trV) rfl
 refine' dy (v:=.tup [.int t1,.int t2,.int c]) (Xi (by lia)<|by rw[Ø,ò,et];rfl) ?_
 exists X8 xf rfl
 rw[Xf];obtain⟨on,hon⟩:∃on:Bool,on=onT Y p (t1,t2,c):=⟨_,rfl⟩
 rw[<-hon]at k fin;have fin:=fin rfl;cases e1:(Y.fallen.lookup (p:Int)).isSome with
 |true =>
  have z:di=on:=by rw[hon];unfold onT;rw[e1];rfl
  walk_at "p";rw[z];exact MF x hn gd fin λg e y xg=>by fail;exact k g y xg
 |false =>
  walk_at "p";refine JF xs rfl ?_;rw[Xf];cases e2:((stands Y.es).lookup t1).isSome with
  |false =>
   have z:di=on:=by rw[hon];unfold onT;rw[e1,e2];rfl
   walk_at "p";rw[z];exact MF x hn gd fin λg e y xg=>by fail;exact k g y xg
  |true =>
   walk_at "p";refine JF xs rfl ?_;rw[Xf];have z:((stands Y.es).lookup t2).isSome=on:=by rw[hon];unfold onT;rw[e1,e2];rfl
   rw[z];refine' MF x hn gd fin λg e y xg=>by fail;exact k g y xg
end
variable {on:Bool}
def MB{p far:Int}(o:B.ok)(h0:0<=p)(h1:p<16):(tieF on p far c B).ok:=by
 unfold tieF;split
 .exact o.up h0 h1
 .exact o.down p
def UF{k:Int}(gd:∀e∈es,e.B.ok)(hF:∀B,B.ok->(F B).ok):∀e∈Yg k F es,e.B.ok:=λq hq=>by
 rcases MY hq with⟨hm,_⟩|⟨e,he,_,rfl⟩
 .exact gd q hm
 .exact hF _<|gd e he
def ET{p:Int}{t:Tie}(gd:∀e∈es,e.B.ok)(h0:0<=p)(h1:p<16):∀e∈setT on p t es,e.B.ok :=
 UF (UF gd λ_ o=>MB o h0 h1) λ_ o=>MB o h0 h1
def DC{p:Int}{t:Tie}(es:List En):(setT on p t es).map (·.num)=es.map (·.num):=by unfold setT;rw[NR,NR]
def Jb{p:Int}{t:Tie}(es:List En):enA (setT on p t es)=enA es:=by unfold setT;rw[X1,X1]
abbrev ZU(Y:Yd)(l:List Tie):Yd:=l.foldl (λY r=>{Y with es:=setT (onT Y r.1<|Y.ts[r.1.toNat]?.getD (0,0,0)) r.1 (Y.ts[r.1.toNat]?.getD (0,0,0)) Y.es}) Y
def JO(Y:Yd)(l:List Tie)(r:Tie):ZU Y (l++[r])={ZU Y l with es:=setT (onT (ZU Y l) r.1<|(ZU Y l).ts[r.1.toNat]?.getD (0,0,0)) r.1 ((ZU Y l).ts[r.1.toNat]?.getD (0,0,0)) (ZU Y l).es}:=by unfold ZU;rw[List.foldl_append];rfl
structure Same(Y Z:Yd):Prop where
 y:Z.y=Y.y
 lv:Z.lv=Y.lv
 st:Z.st=Y.st
 fl:Z.fl=Y.fl
 rd:Z.rd=Y.rd
 bs:Z.bs=Y.bs
 ts:Z.ts=Y.ts
 most:Z.most=Y.most
 lives:Z.lives=Y.lives
 fallen:Z.fallen=Y.fallen
 road:Z.road=Y.road
 num:Z.es.map (·.num)=Y.es.map (·.num)
 enA:enA Z.es=enA Y.es
variable {Z:Yd}
def Same.adr(s:Same Y Z):Z.adr=Y.adr:=by unfold Yd.adr;rw[s.y,s.lv,s.st,s.fl,s.rd,s.enA]
def Same.refl:Same Y Y:=⟨rfl,rfl,rfl,rfl,rfl,rfl,rfl,rfl,rfl,rfl,rfl,rfl,rfl⟩
variable {W:Yd}
def Same.trans(a:Same Y Z)(b:Same Z W):Same Y W:=⟨b.y.trans a.y,b.lv.trans a.lv,b.st.trans a.st,b.fl.trans a.fl,b.rd.trans a.rd,b.bs.trans a.bs,b.ts.trans a.ts,b.most.trans a.most,b.lives.trans a.lives,b.fallen.trans a.fallen,b.road.trans a.road,b.num.trans a.num,b.enA.trans a.enA⟩
def Same.setT{p:Int}{t:Tie}:Same Y {Y with es:=setT on p t Y.es}:=⟨rfl,rfl,rfl,rfl,rfl,rfl,rfl,rfl,rfl,rfl,rfl,DC _,Jb _⟩
def YH:∀(l:List Tie) (Y:Yd),Same Y (ZU Y l)
 |[],_=>.refl
 |_::l,_=>Same.setT.trans<|YH l _
section
variable {Y:Yd}
def Js{b:Int}(no:dN Y.bs Y.ts)(x:dD h Y)(gd:∀e∈Y.es,e.B.ok)(k:∀g,dD g (ZU Y<|eW b 0 Y.ts)->(∀e∈(ZU Y<|eW b 0 Y.ts).es,e.B.ok)->Ex Y.adr h g->Q .non g):wF P (n+3) "Yard.set_ties_of" [.ref Y.y,.int b] h Q X:=by
 have xi:=x.ins;have h16:=no.sixteen;refine XF ?_;refine' XA no.sixteen λp g0 hp x0 e0=>?_;fail;have x':=x.ext x0;have npA:p∉Y.adr:=λz=>x.taken z hp;refine Zr (λi e g=>Sm3 λv2 v3 v4=>Cj4 (e=[df<|.ref Y.y,df<|.int b,v2,v3,v4]) (dD g<|ZU Y<|(eW b 0 Y.ts).take i) ((∀e∈(ZU Y<|(eW b 0 Y.ts).take i).es,e.B.ok))<|Ex Y.adr g0 g) ⟨_,_,_,rfl,x',gd,Ex.refl⟩ (λi e g _ ⟨_,_,_,_,_,_,z⟩=>lsE<|z.get npA e0) ?_ ?_
 .rintro i v e g hv ⟨v2,v3,v4,rfl,y,gi,xg⟩ K hK;let⟨r,hr,rfl⟩:=ZK hv;have sm:=YH ((eW b 0 Y.ts).take i) Y;have rg:=(JD (b:=b) (l:=Y.ts) (k:=0)).2 r<|è hr;obtain⟨q,hq⟩:∃q:Nat,r.1=q:=⟨r.1.toNat,by lia⟩
  have hql:q<Y.ts.length:=by lia
  have et:(ZU Y<|(eW b 0 Y.ts).take i).ts[q]?=df Y.ts[q]:=by rw[sm.ts];exact Ê hql
  have lo:=no.tie _<|ĥ hql;have yi:=y.ins;rw[sm.y]at yi;let⟨r1,r2,r3⟩:=r;dsimp only at hq;subst hq;unfold trV;fail;rw[<-sm.y];refine Wn y et (by have:=lo.2.2.1;lia) gi λg1 y1 xg1=>?_;rw[sm.adr]at xg1;fail;rw[sm.y];refine hK _ _ ⟨_,_,_,rfl,?_,?_,xg.trans xg1⟩
  .rw[Zi hr,JO];dsimp only;rw[ò,et];exact y1
  .rw[Zi hr,JO];dsimp only;rw[ò,et];exact ET gi (by lia) (by lia)
 .rintro e g ⟨v2,v3,v4,rfl,y,gi,xg⟩;rw[À,ó]at y gi;refine' k g y gi ((Ex.of x0).trans xg)
end
abbrev Yq(b:Int)(es:List En):List En:=es.filter λe=>fm (e.num≠b)
def MP(b:Int)(es:List En):Zk (stands es) b=stands (Yq b es):=by unfold Zk stands Yq;rw[List.filter_map];rfl
def Xp(b:Int)(es:List En):(Yq b es).Sublist es:=ϊ
def W8{fs:List En}(h:es.Sublist fs):(enA es).Sublist<|enA fs:=by
 induction h with
 |slnil=>exact .slnil
 |cons a _ ih=>unfold enA at ih ⊢;rw[Ŝ];exact ih.trans<|List.sublist_append_right _ _
 |cons_cons a _ ih=>unfold enA at ih ⊢;rw[Ŝ,Ŝ];exact(œ _).append ih
def dD.drop(x:dD h Y)(b:Int):dD (upd h Y.st<|.dct<|Zm rfV<|O.stands<|Yq b Y.es) {Y with es:=Yq b Y.es}:=by
 let⟨⟨a1,a2,a3,a4⟩,⟨b1,b2,b3⟩,⟨c1,c2⟩,d1⟩:=Yd.five x.nd;have sb:=Xp b Y.es;have nb:∀a∈enA (Yq b Y.es),a≠Y.st:=λa ha=>Yd.sep x.nd (by simp)<|(W8 sb).subset ha;refine⟨(dj a2).trans x.ins,(dj b1).trans x.lives,dk,(dj c1.symm).trans x.fallen,(dj c2.symm).trans x.road,λq hq=>(x.brs q<|sb.subset hq).off hq nb,?_,?_⟩
 .exact((œ _).append<|W8 sb).nodup x.nd
 .exact(sb.map _).nodup x.key
def dD.setFallen(x:dD h Y)(l:List<|Int×Bool):dD (upd h Y.fl<|.dct<|Zm Val.bl l) {Y with fallen:=l}:=by let⟨⟨a1,a2,a3,a4⟩,⟨b1,b2,b3⟩,⟨c1,c2⟩,d1⟩:=Yd.five x.nd;exact⟨(dj a3).trans x.ins,(dj b2).trans x.lives,(dj c1).trans x.stand,dk,(dj d1.symm).trans x.road,λe he=>(x.brs e he).off he λb hb=>Yd.sep x.nd (by simp) hb,x.nd,x.key⟩
section
variable {Y:Yd}
def Ce{b:Int}(no:dN Y.bs Y.ts)(x:dD h Y)(gd:∀e∈Y.es,e.B.ok)(hb:b∈Y.es.map (·.num))(k:∀g,dD g (ZU {Y with es:=Yq b Y.es}<|eW b 0 Y.ts)->(∀e∈(ZU {Y with es:=Yq b Y.es}<|eW b 0 Y.ts).es,e.B.ok)->Ex Y.adr h g->Q .non g):wF P (n+4) "Yard.fall_of_bridge" [.ref Y.y,.int b] h Q X:=by
 have xi:=x.ins;have xs:=x.stand;obtain⟨a,lk⟩:∃a,(stands Y.es).lookup b=df a:=ZN (by rw[ZF];exact hb);refine YW ?_
 exists X8 xs rfl
 rw[Xf,lk];walk_at "p";refine D7 xs rfl (by rw[Z4,lk];rfl) ?_;rw[X3,MP];dsimp only;have y1:=x.drop b;have x1:Ex Y.adr h<|upd h Y.st<|.dct<|Zm rfV<|stands<|Yq b Y.es:=Ex.upd (Ö _<|by simp);generalize upd h Y.st (.dct<|Zm rfV<|stands<|Yq b Y.es)=g1 at y1 x1;have yi:=y1.ins;dsimp only at yi;refine' Js (Y:={Y with es:=Yq b Y.es}) no y1 (λe he=>gd e<|(Xp b Y.es).subset he) λg2 y2 gd2 x2=>?_;refine' k g2 y2 gd2 (x1.trans<|x2.sub λa ha=>?_);exact((œ _).append<|W8<|Xp b Y.es).subset ha
end
section
variable {Y:Yd}
def CB{p:Nat}{t:Tie}(no:dN Y.bs Y.ts)(x:dD h Y)(gd:∀e∈Y.es,e.B.ok)(et:Y.ts[p]?=df t)(hf:Y.fallen.lookup (p:Int)=dg)(hl:Y.fallen.length<=100)(k:∀g,dD g {Y with fallen:=Zs Y.fallen p dh,es:=setT (onT {Y with fallen:=Zs Y.fallen p dh} p t) p t Y.es}->Ex Y.adr h g->Q .non g):wF P (n+3) "Yard.fall_of_tie" [.ref Y.y,.int p] h Q X:=by
 have xi:=x.ins;have xf:=x.fallen;have hp:p<Y.ts.length:=(Î.mp et).1;have htl:(Y.ts.map trV).length=Y.ts.length:=À _;have lo:=no.tie _<|è et;refine XC ?_
 exists Jv
 fail;refine eF (by simp) ?_
 exists dy (xs:=[.tup<|Y.bs.map .int,.tup<|Y.ts.map trV]) (v:=.tup<|Y.ts.map trV) rfl
 fail;refine eK (by rw[htl];simpa using hp) ?_
 exists JF xf rfl
 rw[Xf,hf];walk_at "p";refine YD (k:=.int p) xf ⟨rfl,by rw[J6];exact Ò hl<|by decide⟩ ?_;rw[Z6 (val:=Val.bl)];have y1:=x.setFallen<|Zs Y.fallen p dh;have x1:Ex Y.adr h<|upd h Y.fl<|.dct<|Zm Val.bl<|Zs Y.fallen p dh:=Ex.upd (Ö _<|by simp);generalize upd h Y.fl (.dct<|Zm Val.bl<|Zs Y.fallen p dh)=g1 at y1 x1;have yi:=y1.ins;dsimp only at yi;refine' Wn (Y:={Y with fallen:=Zs Y.fallen p dh}) y1 et (by have:=lo.2.2.1;lia) gd λg2 y2 x2=>?_;refine' k g2 y2 (x1.trans x2)
def Ca{p:Nat}{t:Tie}(no:dN Y.bs Y.ts)(x:dD h Y)(gd:∀e∈Y.es,e.B.ok)(et:Y.ts[p]?=df t){v:Bool}(hf:Y.fallen.lookup (p:Int)=df v)(k:∀g,dD g {Y with fallen:=Zk Y.fallen p,es:=setT (onT {Y with fallen:=Zk Y.fallen p} p t) p t Y.es}->Ex Y.adr h g->Q .non g):wF P (n+3) "Yard.back_of_tie" [.ref Y.y,.int p] h Q X:=by
 have xi:=x.ins;have xf:=x.fallen;have lo:=no.tie _<|è et;refine XH ?_
 exists X8 xf rfl
 rw[Xf,hf];walk_at "p";refine D7 xf rfl (by rw[Z4,hf];rfl) ?_;rw[X3];dsimp only;have y1:=x.setFallen<|Zk Y.fallen p;have x1:Ex Y.adr h<|upd h Y.fl<|.dct<|Zm Val.bl<|Zk Y.fallen p:=Ex.upd (Ö _<|by simp);generalize upd h Y.fl (.dct<|Zm Val.bl<|Zk Y.fallen p)=g1 at y1 x1;have yi:=y1.ins;dsimp only at yi;refine' Wn (Y:={Y with fallen:=Zk Y.fallen p}) y1 et (by have:=lo.2.2.1;lia) gd λg2 y2 x2=>?_;refine' k g2 y2 (x1.trans x2)
end
def UU:(ZG own life most []).ok:=⟨Ċ,(λ_ m=>nomatch m),Ċ,(λ_ m=>nomatch m)⟩
def AQ{k:Int}{v:α}:(Zs kvs k v).lookup k=df v:=by
 unfold Zs;split
 .rename_i h;induction kvs with
  |nil=>cases h
  |cons p r ih =>
   rw[Í,á];by_cases e:p.1=k
   .simp[e]
   .have e2:(k==p.1)=di:=by simpa using λz=>e z.symm
    rw[á,e2]at h;simp only[e,if_false,e2];exact ih h
 .rename_i h;have h:kvs.lookup k=dg:=ŧ.mp h;rw[ϑ,h];simp
section
variable {Y:Yd}
def C8{b:Int}(no:dN Y.bs Y.ts)(x:dD h Y)(gd:∀e∈Y.es,e.B.ok)(hlv:Y.lives.lookup b=df life)(hb:b∉Y.es.map (·.num))(hl:Y.lives.length<=100)(hel:Y.es.length<=100)
  (k:∀q t d g,(∀a∈[q,t,d],h a=dg)->dD g (ZU {Y with lives:=Zs Y.lives b<|life+1,es:=Y.es++[⟨b,q,t,d,ZG b (life+1) Y.most []⟩]}<|eW b 0 Y.ts)->(∀e∈(ZU {Y with lives:=Zs Y.lives b<|life+1,es:=Y.es++[⟨b,q,t,d,ZG b (life+1) Y.most []⟩]}<|eW b 0 Y.ts).es,e.B.ok)->Ex Y.adr h g->Q .non g):wF P (n+4) "Yard.back_of_bridge" [.ref Y.y,.int b] h Q X:=by
 have xi:=x.ins;have xs:=x.stand;have xl:=x.lives;have lk:(stands Y.es).lookup b=dg:=by
  cases z:(stands Y.es).lookup b with
  |none=>rfl
  |some q =>have:=û (f:=(·.1))<|Zx z;rw[ZF]at this;exact fk this hb
 refine YT ?_
 exists X8 xl rfl
 rw[Xf,hlv];walk_at "p";refine JF xs rfl ?_;rw[Xf,lk];walk_at "p";refine Z3 xl rfl (by rw[Z4,hlv];rfl) ?_;refine' YD (k:=.int b) xl ⟨rfl,by rw[J6];exact Ò hl<|by decide⟩ ?_;rw[Z6 (val:=Val.int)];have Y1:=x.setLives<|Zs Y.lives b<|life+1;have x1:Ex Y.adr h<|upd h Y.lv<|.dct<|Zm Val.int<|Zs Y.lives b<|life+1:=Ex.upd (Ö _<|by simp);have keepN:∀{a:Ad},upd h Y.lv (.dct<|Zm Val.int<|Zs Y.lives b<|life+1) a=dg->h a=dg:=λ{a} z=>by
  by_cases e:a=Y.lv
  .rw[e,dk]at z;cases z
  .rwa [dj e]at z
 generalize upd h Y.lv (.dct<|Zm Val.int<|Zs Y.lives b<|life+1)=g1 at Y1 x1 keepN;have zi:=Y1.ins;have zl:=Y1.lives;dsimp only at zi zl;refine' Z3 zl rfl (by rw[Z4,AQ];rfl) ?_;refine' Ze λpn g7 hpn x7 en=>?_;have Y7:=Y1.ext x7;have yi7:=Y7.ins;dsimp only at yi7;fail;intro q hq;have xq:Ext g7<|upd g7 q<|.ins "Bridge" []:=Ext.new hq;have eq:(upd g7 q<|.ins "Bridge" []) q=df (.ins "Bridge" []):=dk;refine MU (rs:=[]) eq (xq.get en) (by simp) (by simp) λt d g8 ht hd ba x8=>?_;have x78:Ext g7 g8:=⟨λ{a o} e=>x8.get (by simpa using Za e hq)<|xq.get e⟩
 have Y8:=Y7.ext x78;have ht7:g7 t=dg:=by cases z:g7 t with|none=>rfl|some o=>rw[xq.get z]at ht;cases ht
 have hd7:g7 d=dg:=by cases z:g7 d with|none=>rfl|some o=>rw[xq.get z]at hd;cases hd
 refine⟨rfl,?_⟩;have wi:=Y8.ins;have ws:=Y8.stand;dsimp only at wi ws;refine' YD (k:=.int b) ws ⟨rfl,by rw[J6];unfold stands;rw[À];exact Ò hel<|by decide⟩ ?_;rw[Z6 (val:=rfV),XX _<|by rw[ZF];exact hb];have ŭ:stands Y.es++[(b,q)]=stands (Y.es++[⟨b,q,t,d,ZG b (life+1) Y.most []⟩]):=by unfold stands;rw[Ð];rfl
 rw[ŭ];have fr:∀a∈[q,t,d],g7 a=dg:=λa ha=>by simp only[Æ,Û,or_false]at ha;rcases ha with rfl|rfl|rfl<;>assumption
 have fr0:∀a∈[q,t,d],h a=dg:=λa ha=>keepN (by cases z:g1 a with|none=>rfl|some o=>have:=fr a ha;rw[x7.get z]at this;cases this);have Y9:=Y8.stands (e:=⟨b,q,t,d,ZG b (life+1) Y.most []⟩) ba hb λa ha z=>Y7.taken z<|fr a ha;have x9:Ex Y.adr h<|upd g8 Y.st<|.dct<|Zm rfV<|stands<|Y.es++[⟨b,q,t,d,ZG b (life+1) Y.most []⟩]:=(x1.trans<|.of<|x7.trans x78).trans (Ex.upd<|Ö _<|by simp);dsimp only at Y9;generalize upd g8 Y.st (.dct<|Zm rfV<|stands<|Y.es++[⟨b,q,t,d,ZG b (life+1) Y.most []⟩])=g9 at Y9 x9;have vi:=Y9.ins;dsimp only at vi;refine' Js (Y:={Y with lives:=Zs Y.lives b<|life+1,es:=Y.es++[⟨b,q,t,d,ZG b (life+1) Y.most []⟩]}) no Y9 (λe he=>?_) λg2 y2 gd2 x2=>?_
 .rcases à.mp he with he|he
  .exact gd e he
  .rw[Ñ.mp he];exact UU
 refine' k q t d g2 fr0 y2 gd2 ⟨λ{a o} na ha=>x2.get (λz=>?_)<|x9.get na ha⟩;have z:a∈[Y.y,Y.lv,Y.st,Y.fl,Y.rd]++enA (Y.es++[⟨b,q,t,d,ZG b (life+1) Y.most []⟩]):=z;rw[Wc,<-ě]at z;rcases à.mp z with z|z
 .exact na z
 .rw[fr0 a z]at ha;cases ha
end
abbrev wordsL:List<|List String:=[["tick"],["come"],["lost"],["fall","bridge"],["fall","tie"],["back","bridge"],["back","tie"]]
def EW{ws:List String}(hw:ws∈wordsL)(k:∀g,Ext h g->Q (.tup [.tup<|ws.map .str,.int c]) g):wF P (n+2) "read_deed" [.tup<|ws.map .str++[.int c]] h Q X:=by
 have hc:cut (ws.map Val.str++[.int c]) dg (df (-1))=ws.map .str:=by simp only[wordsL,Æ,Û,or_false]at hw;rcases hw with rfl|rfl|rfl|rfl|rfl|rfl|rfl<;>rfl
 have hlast:atI (ws.map Val.str++[.int c]) (-1)=df (.int c):=by simp only[wordsL,Æ,Û,or_false]at hw;rcases hw with rfl|rfl|rfl|rfl|rfl|rfl|rfl<;>rfl
 have hlen:ws.length<=2:=by simp only[wordsL,Æ,Û,or_false]at hw;rcases hw with rfl|rfl|rfl|rfl|rfl|rfl|rfl<;>decide
 refine NI ?_;walk_at "p";refine eC (xs:=ws.map Val.str++[.int c]) (lo:=dg) (hi:=df (-1)) (by rw[ã,À];intro z;have:=z.2;unfold d5 at this;simp at this;lia) ?_;rw[hc];refine' ⟨Ò (by rw[À];exact hlen) (by decide),Yw (λ_=>df<|.bl dh) trivial (λv hv K hK=>?_) ?_⟩
 .obtain⟨u,_,rfl⟩:=Þ.mp hv;walk_at "p";exact hK
 rw[show(ws.map Val.str).filterMap (λ_=>df<|Val.bl dh)=(ws.map λ_=>dh).map Val.bl by rw[ύ,ô];exact congrFun (bp (f:=λ_:String=>Val.bl dh)) ws];refine Ze λp1 g1 bq x1 e1=>?_
 exists N5 (bs:=ws.map λ_=>dh) e1 (YF _)
 have ha:(ws.map λ_=>dh).all id=dh:=by simp
 fail;refine eK (by simp) ?_;fail;have hin:∀{h:Hs},dL h .notin (.tup<|ws.map .str) (.tup<|wordsL.map λl=>.tup<|l.map .str)=df di:=λ{h}=>by simp only[wordsL,Æ,Û,or_false]at hw;rcases hw with rfl|rfl|rfl|rfl|rfl|rfl|rfl<;>rfl
 refine du (a:=di) hin ?_;walk_at "p";refine dy hlast ?_
 exists XJ
 walk_at "p";refine dy hlast ?_;refine' k g1 x1
inductive Dd where
 |tick (b:Int)|come (b:Int)|lost (b:Int)|fallB (b:Int)|fallT (b:Int)|backB (b:Int)|backT (b:Int)
abbrev Dd.ws:Dd->List String
 |.tick _=>["tick"]|.come _=>["come"]|.lost _=>["lost"]|.fallB _=>["fall","bridge"]|.fallT _=>["fall","tie"]|.backB _=>["back","bridge"]|.backT _=>["back","tie"]
abbrev Dd.num:Dd->Int
 |.tick c=>c|.come c=>c|.lost c=>c|.fallB c=>c|.fallT c=>c|.backB c=>c|.backT c=>c
abbrev Dd.fn:Dd->String
 |.tick _=>"Yard.tick_of" | .come _=>"Yard.come" | .lost _=>"Yard.take_off" | .fallB _=>"Yard.fall_of_bridge" | .fallT _=>"Yard.fall_of_tie" | .backB _=>"Yard.back_of_bridge" | .backT _=>"Yard.back_of_tie"
noncomputable abbrev Dd.v(d:Dd):Val:=.tup<|d.ws.map .str++[.int d.num]
def Dd.words(d:Dd):d.ws∈wordsL:=by cases d<;>simp[Dd.ws,wordsL]
def Xd(x:Ext h g)(hp:g p=dg):h p=dg:=by
 cases z:h p with
 |none=>rfl
 |some o=>rw[x.get z]at hp;cases hp
variable {ts:List Tie}
def Ua{i:Int}(h0:0<=i)(h1:i<ts.length):atI (ts.map trV) i=df (trV<|ts[i.toNat]?.getD (0,0,0)):=by
 have h2:i.toNat<ts.length:=by lia
 refine Xi h0 ?_;rw[Ø,Ê h2];rfl
def Ao{pre:List En}(x:dD h Y)(he:Y.es=pre++e::ĩ)(o:e.B.ok)(hp:∀q∈e.B.ties,q.1<Y.ts.length)(hr:Y.road.length<=100000)
  (k:∀d g,dD g {Y with es:=pre++⟨e.num,e.b,e.t,d,e.B.ticked⟩::ĩ,road:=Y.road++Yj Y.ts e.num e.B.told}->h d=dg->Ex Y.adr h g->Q .non g):wF P (n+5) "Yard.tick_of" [.ref Y.y,.int e.num] h Q X:=by
 have hm:e∈Y.es:=by rw[he];simp
 have lk:(stands Y.es).lookup e.num=df e.b:=W7 (by rw[ZF];exact x.key)<|Þ.mpr ⟨e,hm,rfl⟩;let⟨xi,xl,xs,xf,xr,xb,xnd,xk⟩:=id x;refine JB ?_
 exists X8 xs rfl
 rw[Xf,lk];walk_at "p";refine Z3 xs rfl (by rw[Z4,lk];rfl) ?_;have ba:=xb e hm;have bi:=ba.ins;refine' Ue ba o λp d g1 bq hd1 ba1 ep x1 npd=>?_;have Y1:=x.change he x1 ba1 (.inl rfl)<|.inr hd1;let⟨yi,yl,ys,yf,yr,yb,ynd,yk⟩:=id Y1;dsimp only at yi yl ys yf yr yb;have npa:∀a∈Y.adr,a≠p:=λa ha z=>x.taken ha<|z▸bq;have npr:Y.rd≠p:=npa _ (Ö _<|by simp);have hbm:e.b∈Y.adr:=È _ (Ww hm).1;have htl:(sortI (e.B.told.ties.map (·.1))).length<=16:=by rw[sortI,Β,À];exact o.told.tlen
 have htie:∀i∈sortI (e.B.told.ties.map (·.1)),0<=i/\i<Y.ts.length:=λi hi=>by let⟨q,hq,rfl⟩:=Þ.mp<|mem_sort.mp hi;rw[show e.B.told.ties=e.B.ties from (ZW e.B.grown<|Ye e.B.grown).2.1]at hq;exact⟨(o.rg q hq).1,hp q hq⟩
 refine' Zr (λi en g=>Sm3 λv2 v3 v4=>Cj4 (en=[df<|.ref Y.y,df<|.int e.num,v2,v3,v4]) (dD g {Y with es:=pre++⟨e.num,e.b,e.t,d,e.B.ticked⟩::ĩ,road:=Y.road++(Yj Y.ts e.num e.B.told).take i}) (g p=df (.lst<|ZX e.B.told))<|Ex Y.adr h g) ⟨_,_,_,rfl,by rw[List.take_zero,þ];exact Y1,ep,x1.sub λa ha=>by rw[Ñ.mp ha];exact hbm⟩ (λi en g _ ⟨_,_,_,_,_,z,_⟩=>lsE z) ?_ ?_
 .rintro i v en g hv ⟨v2,v3,v4,rfl,Yi,ep,xi⟩ K hK;let⟨pl,hpl,rfl⟩:=ZK hv;have hplm:=è hpl;let⟨r0,r1⟩:=htie pl hplm;have et:=Ua (ts:=Y.ts) r0 r1;let⟨zi,zl,zs,zf,zr,zb,znd,zk⟩:=id Yi;dsimp only at zi zl zs zf zr zb;have hil:=(Î.mp hpl).1
  exists dy (xs:=[.tup<|Y.bs.map .int,.tup<|Y.ts.map trV]) (v:=.tup<|Y.ts.map trV) rfl
  exists dy et
  exists CO
  refine' Zp zr ?_ ?_
  .rw[À,ã,Ĕ];exact Ò (by lia:_<=100016) (by decide)
  dsimp only;have es:(Yj Y.ts e.num e.B.told)[i]?=df (e.num,IG Y.ts pl e.num,pl,ZE e.B.told pl):=by unfold Yj;rw[Ø,hpl];rfl
  have Y2:=Yi.setRoad<|Y.road++(Yj Y.ts e.num e.B.told).take (i+1);dsimp only at Y2;have er:(Y.road++(Yj Y.ts e.num e.B.told).take i).map rdV++[rdV (e.num,IG Y.ts pl e.num,pl,ZE e.B.told pl)]=(Y.road++(Yj Y.ts e.num e.B.told).take (i+1)).map rdV:=by rw[Zi es,<-ě,Ð (l₂:=[_])];rfl
  have er':(Y.road++(Yj Y.ts e.num e.B.told).take i).map rdV++[.tup [.int e.num,.int<|far (Y.ts[pl.toNat]?.getD (0,0,0)) e.num,.int pl,(ZE e.B.told pl).v]]=(Y.road++(Yj Y.ts e.num e.B.told).take (i+1)).map rdV:=er;rw[er'];refine' hK _ _ ⟨_,_,_,rfl,Y2,(dj npr.symm).trans ep,xi.trans<|Ex.upd<|Ö _<|by simp⟩
 .rintro en g ⟨v2,v3,v4,rfl,Yi,ep,xi⟩;rw[show(ZX e.B.told).length=(Yj Y.ts e.num e.B.told).length by unfold ZX Yj;rw[À,À],ó]at Yi;refine' k d g Yi hd1 xi
def Gv{d:Dd}(x:dD h Y)(k:∀(g:Hs) (Q':Q1),Ext h g->dD g Y->(∀v g',Q .non g'->Q' v g')->wF P (n+5) d.fn [.ref Y.y,.int d.num] g Q' X):wF P (n+6) "Yard.deed" [.ref Y.y,d.v] h Q X:=by
 have xi0:=x.ins;refine M3 ?_;refine' EW d.words λg1 x1=>?_;have x':=x.ext x1;have xi:=x'.ins;cases d<;>(
   fail
   repeat (first
     |(refine du (a:=di) rfl ?_;fail;refine eK rfl ?_;fail)
     | (refine du (a:=dh) rfl ?_;fail;refine eF rfl ?_;fail))
   refine k g1 _ x1 x' λv g' q=>?_
   refine' q)
structure Yc where
 bs:List Int
 ts:List Tie
 most:Int
 lives:List<|Int×Int
 br:List<|Int×Br
 fallen:List<|Int×Bool
 road:List<|Int×Int×Int×L
abbrev enC(es:List En):List<|Int×Br:=es.map λe=>(e.num,e.B)
abbrev Yd.cc(Y:Yd):Yc:=⟨Y.bs,Y.ts,Y.most,Y.lives,enC Y.es,Y.fallen,Y.road⟩
abbrev upC(k:Int)(F:Br->Br)(l:List<|Int×Br):List<|Int×Br:=l.map λq=>if q.1=k then(q.1,F q.2)else q
abbrev BS(on:Bool)(p:Int)(t:Tie)(l:List<|Int×Br):List<|Int×Br:=upC t.2.1 (tieF on p t.1 t.2.2)<|upC t.1 (tieF on p t.2.1 t.2.2) l
abbrev Yc.tie(C:Yc)(p:Int):Tie:=C.ts[p.toNat]?.getD (0,0,0)
abbrev onC(C:Yc)(p:Int):Bool:=!(C.fallen.lookup p).isSome&&((C.br.lookup (C.tie p).1).isSome&&(C.br.lookup (C.tie p).2.1).isSome)
abbrev Yc.set1(C:Yc)(p:Int):Yc:={C with br:=BS (onC C p) p (C.tie p) C.br}
abbrev Yc.sets(C:Yc)(l:List Tie):Yc:=l.foldl (λC r=>C.set1 r.1) C
def Xj(es:List En):(enC es).map (·.1)=es.map (·.num):=by unfold enC;rw[ô];rfl
def look_iff{k:Int}:(kvs.lookup k).isSome=fm (k∈kvs.map (·.1)):=by
 cases z:kvs.lookup k with
 |none=>exact(fh<|Xw z).symm
 |some v=>exact(fi (û (f:=(·.1))<|Zx z)).symm
def WS{k:Int}(es:List En):enC (Yg k F es)=upC k F (enC es):=by
 unfold enC Yg upC;rw[ô,ô];refine č λe _=>?_;show((if e.num=k then({e with B:=F e.B}:En)else e).num,(if e.num=k then({e with B:=F e.B}:En)else e).B)=if e.num=k then(e.num,F e.B)else(e.num,e.B)
 split<;>rfl
def Ch{p:Int}{t:Tie}(es:List En):enC (setT on p t es)=BS on p t (enC es):=by unfold setT BS;rw[WS,WS]
def I0{k:Int}:((enC es).lookup k).isSome=((stands es).lookup k).isSome:=look_iff.trans ((decide_eq_decide.mpr<|by rw[Xj,ZF]).trans look_iff.symm)
def PF{p:Int}:onT Y p (Y.ts[p.toNat]?.getD (0,0,0))=onC Y.cc p:=by unfold onT onC;rw[<-I0,<-I0];rfl
def OH{p:Int}:({Y with es:=setT (onT Y p<|Y.ts[p.toNat]?.getD (0,0,0)) p (Y.ts[p.toNat]?.getD (0,0,0)) Y.es}:Yd).cc=Y.cc.set1 p:=by rw[PF];unfold Yd.cc Yc.set1;dsimp only;rw[Ch];rfl
def OC:∀(l:List Tie) (Y:Yd),(ZU Y l).cc=Y.cc.sets l
 |[],_=>rfl
 |r::l,Y=>(OC l _).trans (congrArg (Yc.sets · l)<|OH (Y:=Y) (p:=r.1))
abbrev step(C:Yc):Dd->Option Yc
 |.tick b=>(C.br.lookup b).map λB=>{C with br:=upC b Br.ticked C.br,road:=C.road++Yj C.ts b B.told}
 |.come p=>if p<0 then dg else(C.road[p.toNat]?).map λr=>{C with br:=upC r.2.1 (ZQ · r.2.2.1 r.2.2.2) C.br,road:=C.road.eraseIdx p.toNat}
 |.lost p=>if p<0 then dg else(C.road[p.toNat]?).map λr=>{C with road:=C.road.eraseIdx p.toNat}
 |.fallB b=>if(C.br.lookup b).isSome then df (Yc.sets {C with br:=Zk C.br b}<|eW b 0 C.ts)else dg
 |.fallT p=>if(0<=p/\p<C.ts.length)/\(C.fallen.lookup p).isSome=di then df (Yc.set1 {C with fallen:=Zs C.fallen p dh} p)else dg
 |.backB b=>if(C.br.lookup b).isSome then dg else(C.lives.lookup b).map λl=>Yc.sets {C with lives:=Zs C.lives b<|l+1,br:=C.br++[(b,ZG b (l+1) C.most [])]}<|eW b 0 C.ts
 |.backT p=>if(C.fallen.lookup p).isSome then df (Yc.set1 {C with fallen:=Zk C.fallen p} p)else dg
structure Bok(m:Nat)(B:Br):Prop where
 ok:B.ok
 pl:∀t∈B.ties,t.1<m
def Bok.ticked{m:Nat}(o:Bok m B):Bok m B.ticked:=⟨o.ok.ticked,λt ht=>o.pl t<|by rwa [show B.ticked.ties=B.ties from (ZW B.grown<|Ye B.grown).2.1]at ht⟩
def Bok.heard{m:Nat}(o:Bok m B){p:Int}{l:L}:Bok m<|ZQ B p l:=⟨o.ok.heard,λt ht=>o.pl t<|by revert ht;unfold ZQ;split<;>(try split)<;>exact id⟩
def Bok.tieF{m:Nat}(o:Bok m B){p far:Int}(h0:0<=p)(h1:p<m)(hm:m<=16):Bok m<|O.tieF on p far c B:=⟨MB o.ok h0 (by lia),λt ht=>by
  unfold O.tieF at ht
  split at ht
  . unfold upB at ht
    split at ht
    . exact o.pl t ht
    . rcases W2 ht with e|ht
      . rw[e];exact h1
      . exact o.pl t ht
  . exact o.pl t<|Yx ht⟩
structure Yc.gd(C:Yc)(N:Nat):Prop where
 no:dN C.bs C.ts
 nd:(C.br.map (·.1)).Nodup
 sub:∀q∈C.br,q.1∈C.bs
 ok:∀q∈C.br,Bok C.ts.length q.2
 lv:C.lives.map (·.1)=C.bs
 fn:(C.fallen.map (·.1)).Nodup
 fr:∀q∈C.fallen,0<=q.1/\q.1<C.ts.length
 len:C.road.length<=16*N
def Jh{k:Int}(l:List<|Int×Br):(upC k F l).map (·.1)=l.map (·.1):=by unfold upC;rw[ô];refine č λe _=>?_;show(if e.1=k then(e.1,F e.2)else e).1=e.1;split<;>rfl
def F9{k:Int}{l:List (Int×Br)}{R:Br->Prop}(h:∀q∈l,R q.2)(hF:∀B,R B->R (F B)):∀q∈upC k F l,R q.2:=λq hq=>by
 let⟨e,he,rfl⟩:=Þ.mp hq;split
 .exact hF _<|h e he
 .exact h e he
def keys_sub{l:List (Int×Br)}{bs:List Int}:(∀q∈l,q.1∈bs)↔∀x∈l.map (·.1),x∈bs:=⟨λh x hx=>by let⟨q,hq,rfl⟩:=Þ.mp hx;exact h q hq,λh q hq=>h _<|û hq⟩
variable {C:Yc} {N:Nat} {M:Nat} {rd:List (Int×Int×Int×L)}
def Yc.gd.upC{k:Int}(g:C.gd N)(hF:∀B,Bok C.ts.length B->Bok C.ts.length (F B))(hr:rd.length<=16*M):({C with br:=O.upC k F C.br,road:=rd}:Yc).gd M :=
 ⟨g.no,by show((O.upC k F C.br).map (·.1)).Nodup;rw[Jh];exact g.nd,keys_sub.mpr (by show ∀x∈(O.upC k F C.br).map (·.1),_;rw[Jh];exact keys_sub.mp g.sub),F9 g.ok hF,g.lv,g.fn,g.fr,hr⟩
def Yc.gd.set1{p:Int}(g:C.gd N)(h0:0<=p)(h1:p<C.ts.length):(C.set1 p).gd N :=
 (g.upC (M:=N) (k:=(C.tie p).1) (F:=tieF (onC C p) p (C.tie p).2.1 (C.tie p).2.2) (λ_ o=>o.tieF h0 h1 g.no.sixteen) g.len).upC (λ_ o=>o.tieF h0 h1 g.no.sixteen) g.len
def Yc.gd.sets{N:Nat}:∀{l:List Tie}{C:Yc},C.gd N->(∀r∈l,0<=r.1/\r.1<C.ts.length)->(C.sets l).gd N
 |[],_,g,_=>g
 |r::l,C,g,h=>Yc.gd.sets (l:=l) (C:=C.set1 r.1) (g.set1 (h r<|by simp).1 (h r<|by simp).2) λq hq=>h q (by simp[hq])
def Yc.gd.more(g:C.gd N)(h:N<=M):C.gd M:=⟨g.no,g.nd,g.sub,g.ok,g.lv,g.fn,g.fr,Ô g.len<|cH _ h⟩
def Jc:∀(l:List Tie) (C:Yc),(C.sets l).bs=C.bs/\(C.sets l).ts=C.ts/\(C.sets l).most=C.most
 |[],_=>⟨rfl,rfl,rfl⟩
 |r::l,C=>Jc l<|C.set1 r.1
def OK{b:Int}:∀r∈eW b 0 ts,0<=r.1/\r.1<ts.length:=λr hr=>by have:=(JD (b:=b) (l:=ts) (k:=0)).2 r hr;lia
def keys_look{b:Int}:(C.br.lookup b).isSome=dh↔b∈C.br.map (·.1):=by rw[look_iff];simp
def AJ{b:Int}(o:B.ok):(Yj ts b B.told).length<=16:=by unfold Yj;rw[À,sortI,Β,À];exact o.told.tlen
def UR{D:Yc}{d:Dd}(g:C.gd N)(s:step C d=df D):D.gd (N+1)/\D.bs=C.bs/\D.ts=C.ts/\D.most=C.most:=by
 have hlen:=g.len;cases d with
 |tick b =>let⟨B,hB,rfl⟩:=Ë.mp s;have ok:B.ok:=(g.ok _<|Zx hB).ok;have:=AJ (ts:=C.ts) (b:=b) ok;exact⟨g.upC (λ_ o=>o.ticked) (by rw[ã];lia),rfl,rfl,rfl⟩
 |come p =>
  dsimp only[step]at s;split at s
  .cases s
  .obtain⟨r,hr,rfl⟩:=Ë.mp s;exact⟨g.upC (λ_ o=>o.heard)<|Ô (bc _ _)<|by lia,rfl,rfl,rfl⟩
 |lost p =>
  dsimp only[step]at s;split at s
  .cases s
  .obtain⟨r,hr,rfl⟩:=Ë.mp s;exact⟨⟨g.no,g.nd,g.sub,g.ok,g.lv,g.fn,g.fr,Ô (bc _ _)<|by lia⟩,rfl,rfl,rfl⟩
 |fallB b =>
  dsimp only[step]at s;split at s
  .cases s;refine⟨Yc.gd.more (Yc.gd.sets ⟨g.no,YC g.nd b,λq hq=>g.sub q<|Yx hq,λq hq=>g.ok q<|Yx hq,g.lv,g.fn,g.fr,hlen⟩ OK) (by lia),?_⟩;let⟨e1,e2,e3⟩:=Jc (eW b 0 C.ts) {C with br:=Zk C.br b};exact⟨e1,e2,e3⟩
  .cases s
 |fallT p =>
  dsimp only[step]at s;split at s
  .rename_i h;cases s;refine⟨Yc.gd.more (Yc.gd.set1 ⟨g.no,g.nd,g.sub,g.ok,g.lv,Wx g.fn p dh,λq hq=>?_,hlen⟩ h.1.1 h.1.2) (by lia),rfl,rfl,rfl⟩;rcases W2 hq with e|hq
   .rw[e];exact h.1
   .exact g.fr q hq
  .cases s
 |backB b =>
  dsimp only[step]at s;split at s
  .cases s
  .rename_i h;let⟨l,hl,rfl⟩:=Ë.mp s;have hk:(C.lives.lookup b).isSome=dh:=by rw[hl];rfl
   have hb:b∈C.bs:=by rw[<-g.lv];rw[look_iff]at hk;exact of_decide_eq_true hk
   have hn:b∉C.br.map (·.1):=λz=>h<|keys_look.mpr z;refine⟨Yc.gd.more (Yc.gd.sets ⟨g.no,?_,λq hq=>?_,λq hq=>?_,?_,g.fn,g.fr,hlen⟩ OK) (by lia),?_⟩
   .show((C.br++[(b,ZG b (l+1) C.most [])]).map (·.1)).Nodup;rw[Ð,ä];exact⟨g.nd,by simp,λa ha c hc=>by have hc:c=b:=Ñ.mp hc;rw[hc];exact λz=>hn<|z▸ha⟩
   .rcases à.mp hq with hq|hq
    .exact g.sub q hq
    .rw[Ñ.mp hq];exact hb
   .rcases à.mp hq with hq|hq
    .exact g.ok q hq
    .rw[Ñ.mp hq];exact⟨UU,λt ht=>nomatch ht⟩
   .show(Zs C.lives b<|l+1).map (·.1)=_;rw[Wg,ff hk];exact g.lv
   .exact Jc (eW b 0 C.ts) {C with lives:=Zs C.lives b<|l+1,br:=C.br++[(b,ZG b (l+1) C.most [])]}
 |backT p =>
  dsimp only[step]at s;split at s
  .rename_i h;cases s;let⟨v,hv⟩:=î.mp h;have hp:=g.fr _<|Zx hv;exact⟨Yc.gd.more (Yc.gd.set1 ⟨g.no,g.nd,g.sub,g.ok,g.lv,YC g.fn p,λq hq=>g.fr q<|Yx hq,hlen⟩ hp.1 hp.2) (by lia),rfl,rfl,rfl⟩
  .cases s
def Je{b:Int}:(Y.cc.br.lookup b).isSome=((stands Y.es).lookup b).isSome:=I0
def O3{pre:List En}(he:Y.es=pre++e::ĩ)(nd:(Y.es.map (·.num)).Nodup):enC (pre++⟨e.num,e.b,t,d,F e.B⟩::ĩ)=upC e.num F (enC Y.es):=by rw[he]at nd ⊢;rw[<-WS,NT nd];unfold enC;rw[Ð,Ð];rfl
def UX{pre:List En}(he:Y.es=pre++e::ĩ)(ht:t=e.t)(hd:d=e.d\/h d=dg):∀a∈({Y with es:=pre++⟨e.num,e.b,t,d,B⟩::ĩ,road:=rd}:Yd).adr,a∈Y.adr\/h a=dg:=λa ha=>by
 subst ht;unfold Yd.adr at ha ⊢;rw[he,YK];dsimp only at ha;rw[YK]at ha;simp only[à,Æ,Û,or_false]at ha ⊢;rcases hd with rfl|hd
 .exact .inl ha
 .rcases ha with ha|ha|(rfl|rfl|rfl)|ha
  .exact .inl<|.inl ha
  .exact .inl<|.inr<|.inl ha
  .exact .inl<|.inr<|.inr<|.inl<|.inl rfl
  .exact .inl<|.inr<|.inr<|.inl<|.inr<|.inl rfl
  .exact .inr hd
  .exact .inl<|.inr<|.inr<|.inr ha
def MG:∀{l bs:List Int},l.Nodup->(∀x∈l,x∈bs)->l.length<=bs.length
 |[],_,_,_=>ŏ _
 |a::l,bs,nd,h=>by have ha:=h a (by simp);have:=MG (l:=l) (bs:=bs.erase a) (Ą.mp nd).2 λx hx=>(List.mem_erase_of_ne λz:x=a=>(Ą.mp nd).1<|z▸hx).mpr (h x<|by simp[hx]);rw[aS ha]at this;have:=List.length_pos_of_mem ha;rw[Ç];lia
def Uq{p:Int}{β:Type}{f:Int×Int×Int×L->β}(hp:¬(0<=p/\p<Y.road.length)):(if p<0 then dg else(Y.cc.road[p.toNat]?).map f)=dg:=by
 split
 .rfl
 .rw[show Y.cc.road[p.toNat]?=dg from ť<|by show Y.road.length<=_;lia];rfl
structure Mv(h:Hs)(Y:Yd)(g:Hs)(Z:Yd):Prop where
 y:Z.y=Y.y
 at_:dD g Z
 nw:∀a∈Z.adr,a∈Y.adr\/h a=dg
 ex:Ex Y.adr h g
def Mv.refl(x:dD h Y):Mv h Y h Y:=⟨rfl,x,λ_=>.inl,Ex.refl⟩
def Mv.off(m:Mv h Y g Z)(na:a∉Y.adr)(e:h a=df o):a∉Z.adr/\g a=df o:=⟨λz=>(m.nw a z).elim na λy=>(by rw[e]at y;cases y),m.ex.get na e⟩
def Mv.trans{f:Hs}(m:Mv h Y g Z)(l:Mv g Z f W):Mv h Y f W:=by
 refine⟨l.y.trans m.y,l.at_,λa ha=>?_,⟨λna e=>let ⟨h1,h2⟩:=m.off na e;l.ex.get h1 h2⟩⟩;rcases l.nw a ha with z|z
 .exact m.nw a z
 .by_cases na:a∈Y.adr
  .exact .inl na
  .cases e:h a with
   |none=>exact .inr rfl
   |some o=>rw[m.ex.get na e]at z;cases z
def Mv.ext{f:Hs}(m:Mv h Y g Z)(x:Ext g f):Mv h Y f Z:=⟨m.y,m.at_.ext x,m.nw,m.ex.trans<|.of x⟩
def Mv.put(m:Mv h Y g Z)(hp:h p=dg)(np:p∉Z.adr):Mv h Y (upd g p o) Z:=⟨m.y,m.at_.keep (S:=[p]) (Ex.upd<|by simp) λa ha z=>np<|Ñ.mp z▸ha,m.nw,⟨λna e=>by rw[dj<|Za e hp];exact m.ex.get na e⟩⟩
def MR{b:Int}(h:(stands es).lookup b=dg):b∉es.map (·.num):=by rw[<-ZF];exact Xw h
section
variable {Y:Yd}
def WR{d:Dd}(x:dD h Y)(gd:Y.cc.gd N)(hN:N<=6000)(sd:(step Y.cc d).isSome=dh)(k:∀(Y':Yd) g',step Y.cc d=df Y'.cc->Mv h Y g' Y'->Q .non g'):wF P (n+6) "Yard.deed" [.ref Y.y,d.v] h Q X:=by
 refine Gv x λg Q' x1 x' hq=>?_;have no:dN Y.bs Y.ts:=gd.no;have ok:∀e∈Y.es,Bok Y.ts.length e.B:=λe he=>gd.ok (e.num,e.B)<|Þ.mpr ⟨e,he,rfl⟩;have oks:∀e∈Y.es,e.B.ok:=λe he=>(ok e he).ok;have hl:Y.road.length<=16*N:=gd.len;have key:=x.key;have xi:=x'.ins;have xs:=x'.stand;have xf:=x'.fallen;have xl:=x'.lives;have fin:∀{Y':Yd} {g'},dD g' Y'->step Y.cc d=df Y'.cc->Y'.y=Y.y->(∀a∈Y'.adr,a∈Y.adr\/g a=dg)->Ex Y.adr g g'->∀v,Q' v g':=λ{Y' g'} y s e f ex v=>hq v g'<|k Y' g' s ⟨e,y,λa ha=>(f a ha).imp id λz=>Xd x1 z,(Ex.of x1).trans ex⟩;have bad:∀{p:Prop},step Y.cc d=dg->p:=λ{p} s=>by rw[s]at sd;cases sd
 have h10:Y.lives.length<=10:=by have e:=congrArg List.length gd.lv;rw[À]at e;have:=no.ten;have:Y.cc.bs.length=Y.bs.length:=rfl;have:Y.cc.lives.length=Y.lives.length:=rfl;lia
 have e10:Y.es.length<=10:=by
  have:=MG gd.nd<|keys_sub.mp gd.sub;have h2:(Y.cc.br.map (·.1)).length=Y.es.length:=by show((enC Y.es).map (·.1)).length=_;rw[Xj,À]
  have:=no.ten;have:Y.cc.bs.length=Y.bs.length:=rfl;lia
 have f16:Y.fallen.length<=16:=by
  have:=Z8 (m:=16) gd.fn λx hx=>by let⟨q,hq,rfl⟩:=Þ.mp hx;have:=gd.fr q hq;have:=no.sixteen;have:Y.cc.ts.length=Y.ts.length:=rfl;lia
  rw[À]at this;exact this
 clear sd;cases d with
 |tick b =>
  show wF P (n+5) "Yard.tick_of" [.ref Y.y,.int b] g Q' X;cases lk:(stands Y.es).lookup b with
  |none =>refine bad ?_;have:=Je (Y:=Y) (b:=b);rw[lk]at this;show(Y.cc.br.lookup b).map _=dg;rw[Option.isSome_eq_false_iff.mp this |> al.mp];rfl
  |some a =>
   let⟨e,pre,ĩ,he,rfl,rfl⟩:=Xh lk;have hm:e∈Y.es:=by rw[he];simp
   refine Ao x' he (oks e hm) (ok e hm).pl (by lia) λd' g2 y2 hd x2=>?_;refine fin y2 ?_ rfl (UX he rfl<|.inr hd) x2 .non;show(Y.cc.br.lookup e.num).map _=_;rw[show Y.cc.br.lookup e.num=df e.B from W7 gd.nd<|Þ.mpr ⟨e,hm,rfl⟩];unfold Yd.cc;dsimp only;rw[O3 (F:=Br.ticked) he key];rfl
 |come p =>
  show wF P (n+5) "Yard.come" [.ref Y.y,.int p] g Q' X;by_cases hp:0<=p/\p<Y.road.length
  .obtain⟨q,rfl⟩:∃q:Nat,p=q:=⟨p.toNat,by lia⟩
   have hr:=Ê (l:=Y.road) (i:=q) (by lia);generalize Y.road[q]'(by lia)=r at hr;have st:step Y.cc (.come q)=df {Y.cc with br:=upC r.2.1 (ZQ · r.2.2.1 r.2.2.2) Y.cc.br,road:=Y.road.eraseIdx q}:=by show(if(q:Int)<0 then dg else(Y.road[(q:Int).toNat]?).map _)=_;rw[fg (by lia),ò,hr];rfl
   cases lk:(stands Y.es).lookup r.2.1 with
   |none =>refine CD x' hr (by lia) (MR lk) λg2 y2 x2=>fin y2 ?_ rfl (λa ha=>.inl ha) x2 .non;rw[st];unfold Yd.cc;dsimp only;rw[<-WS,Wj<|MR lk]
   |some a =>
    let⟨e,pre,ĩ,he,hn,rfl⟩:=Xh lk;have hm:e∈Y.es:=by rw[he];simp
    refine Fo x' hr (by lia) he hn.symm (oks e hm) λg2 y2 x2=>fin y2 ?_ rfl (UX he rfl<|.inl rfl) x2 .non;rw[st];unfold Yd.cc;dsimp only;rw[<-hn,O3 (F:=(ZQ · r.2.2.1 r.2.2.2)) he key]
  .exact bad<|Uq hp
 |lost p =>
  show wF P (n+5) "Yard.take_off" [.ref Y.y,.int p] g Q' X;by_cases hp:0<=p/\p<Y.road.length
  .obtain⟨q,rfl⟩:∃q:Nat,p=q:=⟨p.toNat,by lia⟩
   have hr:=Ê (l:=Y.road) (i:=q) (by lia);refine XN x' hr (by lia) λg2 y2 x2=>fin y2 ?_ rfl (λa ha=>.inl ha) (x2.sub λa ha=>by rw[Ñ.mp ha];exact Ö _<|by simp) _;show(if(q:Int)<0 then dg else(Y.road[(q:Int).toNat]?).map _)=_;rw[fg (by lia),ò,hr];rfl
  .exact bad<|Uq hp
 |fallB b =>
  show wF P (n+5) "Yard.fall_of_bridge" [.ref Y.y,.int b] g Q' X;have lc:=Je (Y:=Y) (b:=b);cases lk:(stands Y.es).lookup b with
  |none =>rw[lk]at lc;exact bad (fg<|by rw[lc];decide)
  |some a =>
   rw[lk]at lc;refine Ce no x' oks (by rw[<-ZF];exact û (f:=(·.1))<|Zx lk) λg2 y2 gd2 x2=>?_;have sm:=YH (eW b 0 Y.ts) {Y with es:=Yq b Y.es};refine fin y2 ?_ sm.y (λa ha=>.inl ?_) x2 .non
   .rw[OC];refine(ff lc).trans ?_;congr 2;unfold Yd.cc;dsimp only;congr 1;unfold Zk enC Yq;rw[List.filter_map];rfl
   .rw[sm.adr]at ha;exact((œ _).append<|W8<|Xp b Y.es).subset ha
 |fallT p =>
  show wF P (n+5) "Yard.fall_of_tie" [.ref Y.y,.int p] g Q' X;have htl:(Y.ts.map trV).length=Y.ts.length:=À _;by_cases hp:0<=p/\p<Y.ts.length
  .obtain⟨q,rfl⟩:∃q:Nat,p=q:=⟨p.toNat,by lia⟩
   have et:=Ê (l:=Y.ts) (i:=q) (by lia);have eg:Y.ts[(q:Int).toNat]?.getD (0,0,0)=Y.ts[q]'(by lia):=by rw[ò,et];rfl
   cases lk:Y.fallen.lookup (q:Int)with
   |none =>
    refine CB no x' oks et lk (by lia) λg2 y2 x2=>fin y2 ?_ rfl (λa ha=>.inl ?_) x2 .non
    .refine(ff ⟨hp,by show(Y.fallen.lookup _).isSome=di;rw[lk];rfl⟩).trans<|congrArg df ?_;have:=OH (Y:={Y with fallen:=Zs Y.fallen q dh}) (p:=q);dsimp only at this;rw[eg]at this;exact this.symm
    .unfold Yd.adr at ha ⊢;dsimp only at ha
     rwa [Jb]at ha
   |some v =>exact bad (fg λz=>by have z:=z.2;have:(Y.fallen.lookup (q:Int)).isSome=di:=z;rw[lk]at this;cases this)
  .exact bad<|fg λz=>hp z.1
 |backB b =>
  show wF P (n+5) "Yard.back_of_bridge" [.ref Y.y,.int b] g Q' X;have lc:=Je (Y:=Y) (b:=b);cases ll:Y.lives.lookup b with
  |none =>
   refine bad ?_;dsimp only[step];split
   .rfl
   .show(Y.lives.lookup b).map _=dg;rw[ll];rfl
  |some life =>
   cases lk:(stands Y.es).lookup b with
   |some a =>rw[lk]at lc;exact bad<|ff lc
   |none =>
    rw[lk]at lc;refine C8 no x' oks ll (MR lk) (by lia) (by lia) λq t d' g2 fr y2 gd2 x2=>?_;have sm:=YH (eW b 0 Y.ts) {Y with lives:=Zs Y.lives b<|life+1,es:=Y.es++[⟨b,q,t,d',ZG b (life+1) Y.most []⟩]};refine fin y2 ?_ sm.y (λa ha=>?_) x2 .non
    .rw[OC];refine(fg<|by rw[lc];decide).trans ?_;show(Y.lives.lookup b).map _=_;rw[ll];congr 2;unfold Yd.cc;dsimp only;unfold enC;rw[Ð];rfl
    .rw[sm.adr]at ha;have z:a∈[Y.y,Y.lv,Y.st,Y.fl,Y.rd]++enA (Y.es++[⟨b,q,t,d',ZG b (life+1) Y.most []⟩]):=ha;rw[Wc,<-ě]at z;rcases à.mp z with z|z
     .exact .inl z
     .exact .inr<|fr a z
 |backT p =>
  show wF P (n+5) "Yard.back_of_tie" [.ref Y.y,.int p] g Q' X;cases lk:Y.fallen.lookup p with
  |none =>exact bad (fg<|by show ¬(Y.fallen.lookup p).isSome=dh;rw[lk];decide)
  |some v =>
   have hp:=gd.fr _<|Zx lk;have cM:p<Y.ts.length:=hp.2;obtain⟨q,rfl⟩:∃q:Nat,p=q:=⟨p.toNat,by have:0<=p:=hp.1;lia⟩
   have et:=Ê (l:=Y.ts) (i:=q) (by lia);have eg:Y.ts[(q:Int).toNat]?.getD (0,0,0)=Y.ts[q]'(by lia):=by rw[ò,et];rfl
   refine Ca no x' oks et lk λg2 y2 x2=>fin y2 ?_ rfl (λa ha=>.inl ?_) x2 .non
   .refine(ff<|by show(Y.fallen.lookup _).isSome=dh;rw[lk];rfl).trans<|congrArg df ?_;have:=OH (Y:={Y with fallen:=Zk Y.fallen q}) (p:=q);dsimp only at this;rw[eg]at this;exact this.symm
   .unfold Yd.adr at ha ⊢;dsimp only at ha
    rwa [Jb]at ha
end
abbrev Yc.at_(C:Yc)(b:Int):Br:=(C.br.lookup b).getD<|ZG 0 0 0 []
abbrev Yc.keys(C:Yc):List Int:=sortI (C.br.map (·.1))
abbrev Kf(C:Yc):List Val:=C.keys.map λb=>.tup [.int b,(C.at_ b).label.v]
abbrev Yc.downs(C:Yc):List Int:=C.bs.filter λb=>!(C.br.lookup b).isSome
abbrev Yc.cuts(C:Yc):List Int:=sortI (C.fallen.map (·.1))
def Yc.gd.ten(g:C.gd N):(C.br.map (·.1)).length<=10:=Ô (MG g.nd<|keys_sub.mp g.sub) g.no.ten
def Yc.gd.f16(g:C.gd N):(C.fallen.map (·.1)).length<=16:=Z8 (m:=16) g.fn λx hx=>by let⟨q,hq,rfl⟩:=Þ.mp hx;have:=g.fr q hq;have:=g.no.sixteen;lia
def Xa:C.keys.length=(C.br.map (·.1)).length:=(ĺ _ _).length_eq
def keys_mem{b:Int}:b∈C.keys↔(C.br.lookup b).isSome=dh:=by unfold Yc.keys;rw[mem_sort,keys_look]
def Bz:C.cuts.length=(C.fallen.map (·.1)).length:=(ĺ _ _).length_eq
def dD.at_(x:dD h Y){b:Int}(hb:(Y.cc.br.lookup b).isSome=dh):∃e∈Y.es,e.num=b/\(O.stands Y.es).lookup b=df e.b/\Y.cc.at_ b=e.B/\dC h e.b e.t e.d e.B:=by
 rw[Je]at hb;let⟨a,ha⟩:=î.mp hb;let⟨e,pre,ĩ,he,rfl,rfl⟩:=Xh ha;have hm:e∈Y.es:=by rw[he];simp
 refine⟨e,hm,rfl,ha,?_,x.brs e hm⟩;have:(enC Y.es).lookup e.num=df e.B:=W7 (by rw[Xj];exact x.key)<|Þ.mpr ⟨e,hm,rfl⟩;show((enC Y.es).lookup e.num).getD _=_;rw[this];rfl
section
variable {Y:Yd}{N:Nat}
def K4(x:dD h Y)(k:∀p g,h p=dg->Ext h g->g p=df (.lst<|Y.road.map rdV)->Q (.ref p) g):wF P (n+1) "Yard.road" [.ref Y.y] h Q X:=by have xi:=x.ins;have xr:=x.road;refine Nx ?_;refine' Ze k
def MK(x:dD h Y)(k:Q (Xg Y.bs Y.ts) h):wF P (n+1) "Yard.net" [.ref Y.y] h Q X:=by have xi:=x.ins;refine OA ?_;refine' k
def Yp(x:dD h Y)(gd:Y.cc.gd N)(k:∀p g,h p=dg->Ext h g->g p=df (.lst<|Kf Y.cc)->Q (.ref p) g):wF P (n+2) "Yard.labels" [.ref Y.y] h Q X:=by
 have xi:=x.ins;have xs:=x.stand;have ek:(stands Y.es).map (·.1)=Y.cc.br.map (·.1):=(ZF _).trans (Xj _).symm;have h10:=gd.ten;have kl:=Xa (C:=Y.cc);refine Kg ?_;refine' ME xs (O8 _) (by rw[ek];lia) (Ze λp1 g1 bq x1 e1=>?_);rw[ek]at e1;have x':=x.ext x1;have xi:=x'.ins;have xs:=x'.stand;refine' ⟨Ò (by rw[À];show Y.cc.keys.length<=10;lia) (by decide),?_⟩;refine ZH (λi ys g=>g=g1/\ys=(Y.cc.keys.take i).map λb=>.tup [.int b,(Y.cc.at_ b).label.v]) ⟨rfl,rfl⟩ (λi ys g _ ⟨z,_⟩=>by rw[z];exact lsE e1) ?_ ?_
 .rintro i v ys g hv ⟨rfl,rfl⟩ K hK;let⟨nm,hnm,rfl⟩:=ZK hv;let⟨e,he,en,lk,ea,ba⟩:=x'.at_<|keys_mem.mp<|è hnm;have bi:=ba.ins;walk_at "p";refine Z3 xs rfl (by rw[Z4,lk];rfl) ?_
  exists Jo ba
  refine' hK _ _ ⟨rfl,?_⟩;rw[Zi (xs:=Y.cc.keys) hnm,Ð,<-ea];rfl
 .rintro ys g ⟨rfl,rfl⟩;rw[À,show(sortI (Y.cc.br.map (·.1))).length=Y.cc.keys.length from rfl,ó];exact Ze λp g2 hp x2 ep=>k p g2 (Xd x1 hp) (x1.trans x2) ep
def M8(x:dD h Y)(gd:Y.cc.gd N)(k:∀g,Ext h g->Q (.tup [.tup<|Y.cc.downs.map .int,.tup<|Y.cc.cuts.map .int]) g):wF P (n+1) "Yard.down" [.ref Y.y] h Q X:=by
 have xi:=x.ins;have xs:=x.stand;have hbl:(Y.bs.map Val.int).length<=10:=by rw[À];exact gd.no.ten
 refine NZ ?_
 exists dy (xs:=[.tup<|Y.bs.map .int,.tup<|Y.ts.map trV]) (v:=.tup<|Y.bs.map .int) rfl
 refine' ⟨Ò hbl (by decide),ZH (λi ys g=>g=h/\ys=((Y.bs.take i).filter λb=>!(Y.cc.br.lookup b).isSome).map .int) ⟨rfl,rfl⟩ (λ_ _ _ _ _=>trivial) ?_ ?_⟩
 .rintro i v ys g hv ⟨rfl,rfl⟩ K hK;let⟨b,hb,rfl⟩:=ZK hv;rw[Zi hb,ϐ,ú,aa]at hK
  exists X8 xs rfl
  rw[Xf,<-Je];refine' eM (λhc=>?_) (λhc=>?_)
  .refine' hK _ _ ⟨rfl,by rw[hc,ff rfl,Ð];rfl⟩
  .exact hK _ _ ⟨rfl,by rw[hc,fg (by decide),þ,bX,þ]⟩
 rintro ys g ⟨rfl,rfl⟩;rw[À,ó];refine Ze λp1 g1 bq x1 e1=>?_;have x':=x.ext x1;have xi:=x'.ins;have xf:=x'.fallen;refine' ME xf (O8 _) (by have:=gd.f16;show(Y.cc.fallen.map (·.1)).length<_;lia) (Ze λp2 g2 cM x2 e2=>?_);refine' k _ (x1.trans x2)
end
def He{i:Int}(e:h a=df (.lst<|ns.map .int))(q:KB (!fm (i∈ns))):go (dL h .notin (.int i)<|.ref a) KB:=du (by show(inV h (.int i)<|.ref a).map _=_;unfold inV;simp only[e];rw[WM];rfl) q
def UG{i:Int}(e:h a=df (.lst<|ns.map .int))(q:KB<|fm (i∈ns)):go (dL h .isin (.int i)<|.ref a) KB:=du (by show inV h (.int i) (.ref a)=_;unfold inV;simp only[e];rw[WM]) q
def lset(e:h a=df (.lst<|ns.map .int))(m:ns.length<4000)(q:Q (.int (dedup ns).length) h):(biV h .lenSet [.ref a]).wp h Q:=wp_val (by show biLenSet h (.ref a)=_;unfold biLenSet sortOf;simp only[e,dF,í,Yh];rw[ff m]) q
def KC:∀(ns:List Int),(dedup ns).length=ns.length↔ns.Nodup
 |[]=>by simp[dedup]
 |n::ns=>by
  have h1:=NN ns;have h2:=Ģ (λy=>y != n)<|dedup ns;have ih:=KC ns;rw[dedup,Ç,Ç,Ą];constructor
  .intro h;have h3:(List.filter (λy=>y != n)<|dedup ns).length=(dedup ns).length:=by lia
   have h4:=ϟ.mp h3;refine⟨λhm=>?_,ih.mp<|by lia⟩;have:=h4 n<|mem_dedup.mpr hm;simp at this
  .rintro⟨h3,h4⟩;have h5:=ih.mpr h4;have h6:(List.filter (λy=>y != n)<|dedup ns).length=(dedup ns).length:=ϟ.mpr λy hy=>by
    have:=mem_dedup.mp hy;simp only[bne_iff_ne,ne_eq];rintro rfl;exact h3 this
   lia
abbrev cnt(n0:Int)(ns:List Int)(j:Int):Nat:=(ns.filter λm=>fm (j<=(m - n0) % 1000)).length
def LY(n0:Int)(ns:List Int)(j:Int):cnt n0 ns (j+1)<=cnt n0 ns j:=by
 unfold cnt;induction ns with
 |nil=>exact Ï _
 |cons m r ih =>
  rw[ú,ú];by_cases h1:j+1<=(m - n0) % 1000
  .have h2:j<=(m - n0) % 1000:=by lia
   simp only[h1,h2,decide_true,if_true,Ç];lia
  .by_cases h2:j<=(m - n0) % 1000
   .simp only[h1,h2,decide_true,decide_false,if_true,Ĉ,if_false,Ç];lia
   .simp only[h1,h2,decide_false,Ĉ,if_false];exact ih
def Bv{n0 n:Int}:∀{ns:List Int},n∈ns->cnt n0 ns ((n - n0) % 1000+1)+1<=cnt n0 ns ((n - n0) % 1000)
 |[],h=>nomatch h
 |m::r,h=>by
  have hle:=LY n0 r<|(n - n0) % 1000;unfold cnt at hle ⊢;rw[ú,ú];rcases Æ.mp h with e|h
  .subst e;have h1:¬ (n - n0) % 1000+1<=(n - n0) % 1000:=by lia
   simp only[h1,decide_false,Ĉ,if_false,Ξ,decide_true,if_true,Ç];lia
  .have ih:=Bv (n0:=n0) h;unfold cnt at ih;by_cases h1:(n - n0) % 1000+1<=(m - n0) % 1000
   .have h2:(n - n0) % 1000<=(m - n0) % 1000:=by lia
    simp only[h1,h2,decide_true,if_true,Ç];lia
   .by_cases h2:(n - n0) % 1000<=(m - n0) % 1000
    .simp only[h1,h2,decide_true,decide_false,if_true,Ĉ,if_false,Ç];lia
    .simp only[h1,h2,decide_false,Ĉ,if_false];exact ih
def Wi(x:ExtB w h g)(e:h p=dg):ExtB w h<|upd g p o:=⟨λ{a u} n z=>by rw[dj<|Za z e];exact x.get n z⟩
abbrev TOk(ns:List Int)(t:Tie):Prop:=t.1∈ns/\t.2.1∈ns/\t.1≠t.2.1/\1<=t.2.2/\t.2.2<=1000
abbrev O1(t:Tie):Tie:=(if t.2.1<t.1 then t.2.1 else t.1,if t.2.1 > t.1 then t.2.1 else t.1,t.2.2)
def Ej{t:Tie}(h:TOk ns t):LOk ns<|O1 t:=by
 let⟨h1,h2,h3,h4,h5⟩:=h;unfold O1 LOk;by_cases z:t.2.1<t.1
 .rw[ff z,fg<|by lia];exact⟨h2,h1,z,h4,h5⟩
 .rw[fg z,ff<|by lia];exact⟨h1,h2,by show t.1<t.2.1;lia,h4,h5⟩
def isl{xs:List Val}(e:h a=df (.lst xs))(q:Q (.bl dh) h):(biV h (.isi ["list"]) [.ref a]).wp h Q:=P9 (by unfold isiAny isiAny fc fb;simp only[e];rfl) q
def UJ{i lo hi:Int}(h1:lo<=i)(h2:i<=hi)(k:Q (.bl dh) h):wF P (n+2) "is_whole_between" [.int i,.int lo,.int hi] h Q X:=by
 refine XG ?_
 exists XJ
 walk_at "p";refine eF ⇑h1 ?_;fail;rw[fi h2];exact k
def Nu{i:Int}(k:Q (.bl dh) h):wF P (n+1) "is_whole" [.int i] h Q X:=by refine XJ ?_;walk_at "p";exact k
def UQ{xs:List Val}:xs.filterMap (λ_=>df<|Val.bl dh)=(xs.map λ_=>dh).map Val.bl:=by rw[ô];exact congrFun (bp (f:=Val.bl ∘ λ_=>dh)) xs
def HD(e:h a=df (.lst<|ns.map .int))(l2:ns.length<=10)(hb:Brs ns)(nd:ns.Nodup)(k:∀g,Ext h g->Q (.bl dh) g):wF P (n+3) "are_bridges" [.ref a] h Q X:=by
 refine Kd ?_;have hL:(ns.map Val.int).length=ns.length:=À _;refine' ⟨Ò (by rw[hL];exact l2) (by decide),Yw (λ_=>df<|.bl dh) (lsE e) (λv hv K hK=>?_) ?_⟩
 .obtain⟨i,hi,rfl⟩:=Þ.mp hv;walk_at "p";exact UJ (hb i hi).1 (by have:=(hb i hi).2;lia) hK
 rw[UQ];refine Ze λp g hp x ep=>?_
 exists N5 ep (YF _)
 fail;refine eK (by simp) ?_;have e':=x.get e;refine' lset e' (by lia) ?_;fail;have:fm (((dedup ns).length:Int)=((ns.map Val.int).length:Int))=dh:=fi (by rw[hL];have:=(KC ns).mpr nd;lia);rw[this];exact k g x
def L7{t:Tie}(ht:TOk ns t)(e:h b=df (.lst<|ns.map .int))(k:Q (.bl dh) h):wF P (n+3) "is_tie" [trV t,.ref b] h Q X:=by
 let⟨i,j,c⟩:=t;let⟨h1,h2,h3,h4,h5⟩:=ht;unfold trV;dsimp only at h1 h2 h3 h4 h5 ⊢;refine De ?_;walk_at "p";refine Nu ?_;walk_at "p";refine Nu ?_;walk_at "p";refine He e ?_;fail;refine eK ⇑h1 ?_
 exists He e
 fail;refine eK ⇑h2 ?_;fail;refine eF ⇑h3 ?_;refine' UJ h4 h5 k
def F2{t:Tie}(k:Q (trV<|O1 t) h):wF P (n+1) "lesser_end_first" [trV t] h Q X:=by let⟨i,j,c⟩:=t;unfold trV;refine XD ?_;refine' k
def FJ{zs:List Tie}(eb:h b=df (.lst<|ns.map .int))(et:h t=df (.lst<|zs.map trV))(l1:1<=ns.length)(l2:ns.length<=10)(hb:Brs ns)(nd:ns.Nodup)(lt:zs.length<=16)(hz:∀z∈zs,TOk ns z)
  (k:∀g,Ext h g->Q (Xg (sortI ns)<|zs.map O1) g):wF P (n+4) "make_net" [.ref b,.ref t] h Q X:=by
 have hL:(ns.map Val.int).length=ns.length:=À _;have hT:(zs.map trV).length=zs.length:=À _;refine N4 ?_;refine Ek<|Q0<|Sh<|GK<|GY<|Pw<|BF<|GG rfl<|DX<|isl eb<|g_tbl ?_;refine eK rfl ?_;refine GK<|GY<|Pw<|BF<|GG rfl<|DX<|isl et<|g_tbl ?_;refine eK rfl ?_;fail;refine eF (by simpa using (by lia:(1:Int)<=(ns.map Val.int).length)) ?_;fail;refine eK (by simpa using (by lia:(ns.length:Int)<=10)) ?_;fail;refine eK (by simpa using (by lia:(zs.length:Int)<=16)) ?_;refine' HD eb l2 hb nd λg x=>?_;fail;refine eK rfl ?_;have eb':=x.get eb;have et':=x.get et;refine' ⟨Ò (by rw[hT];exact lt) (by decide),Yw (λ_=>df<|.bl dh) (lsE et') (λv hv K hK=>?_) ?_⟩
 .obtain⟨z,hz',rfl⟩:=Þ.mp hv;walk_at "p";exact L7 (hz z hz') eb' hK
 rw[UQ];refine Ze λp g2 hp x2 ep=>?_
 exists N5 ep (YF _)
 fail;refine eK (by simp) ?_;have eb2:=x2.get eb';have et2:=x2.get et';refine' IK eb2 (Yh _) (by lia) ?_;refine Ze λp3 g3 hp3 x3 ep3=>?_;have et3:=x3.get et2;refine' ⟨Ò (by rw[hT];exact lt) (by decide),ZH (λi ys g=>g=g3/\ys=(zs.take i).map λz=>trV<|O1 z) ⟨rfl,rfl⟩ (λ_ _ g _ z=>by rw[z.1];exact lsE et3) (λi v ys g hv hI K hK=>?_) λys g hI=>?_⟩
 .obtain⟨rfl,rfl⟩:=hI;rw[Ø]at hv;let⟨z,hz',rfl⟩:=Ë.mp hv;walk_at "p";refine F2<|hK _ _ ⟨rfl,?_⟩;rw[ŉ,hz',Ð];rfl
 .obtain⟨rfl,rfl⟩:=hI;rw[hT,ó];refine Ze λp4 g4 hp4 x4 cB=>?_;fail;have e:Xg (sortI ns) (zs.map O1)=.tup [.tup<|(sortI ns).map .int,.tup<|zs.map λz=>trV<|O1 z]:=by unfold Xg;rw[ô];rfl
  rw[e]at k;exact k _<|((x.trans x2).trans x3).trans x4
abbrev Ints(h:Hs)(a:Ad):Prop:=∃ns:List Int,h a=df (.lst<|ns.map .int)
def Ints.ne(x:Ints h w)(e:h p=dg):w≠p:=by let⟨_,x⟩:=x;exact Za x e
def Ints.ext(x:Ints h w)(e:Ext h g):Ints g w:=by let⟨_,x⟩:=x;exact⟨_,e.get x⟩
def Ints.exb(x:Ints h w)(n:p≠w):Ints (upd h p o) w:=by let⟨_,x⟩:=x;exact⟨_,(dj n.symm).trans x⟩
abbrev Hh(h:Hs)(a:Ad)(m:Nat):Prop:=∃ns:List Int,h a=df (.lst<|ns.map .int)/\ns.length<=m
def DK{v:Val}(h:(dZ 1 m)[i]?=df v):v=.int (1+i)/\(1+i:Int)<m:=by unfold dZ at h;rw[Ø]at h;let⟨k,hk,rfl⟩:=Ë.mp h;let⟨Τ,rfl⟩:=Î.mp hk;rw[Ā]at Τ;rw[cI];exact⟨rfl,by lia⟩
noncomputable abbrev Pr:=Int×Int
abbrev POk(ns:List Int)(p:Pr):Prop:=p.1∈ns/\p.2∈ns/\p.1≠p.2
def MH{a:Int}(a0:0<=a)(a1:a<ns.length):∃(x:Int) (h:a.toNat<ns.length),atI (ns.map Val.int) a=df (.int x)/\x=ns[a.toNat]:=by
 have h:a.toNat<ns.length:=by lia
 exact⟨_,h,Xi a0 (by rw[Ø,Ê h];rfl),rfl⟩
def El{a:Int}(a0:0<=a)(a1:a<ns.length)(r0:0<=r)(r1:r<(ns.length:Int) - 1):∃(x:Int) (k:Nat) (h:k<ns.length),atI (ns.map Val.int) (a - 1 - r)=df (.int x)/\x=ns[k]/\k≠a.toNat:=by
 by_cases hj:0<=a - 1 - r
 .obtain⟨x,h,e1,e2⟩:=MH (ns:=ns) hj (by lia);exact⟨x,_,h,e1,e2,by lia⟩
 .have h:(a - 1 - r+ns.length).toNat<ns.length:=by lia
  refine⟨_,_,h,?_,rfl,by lia⟩;unfold atI ixN;rw[fg hj,À,ff (by lia),í,Ø,Ê h];rfl
abbrev tOf(p:Pr)(c:Int):Tie:=(if p.2<p.1 then p.2 else p.1,if p.2 > p.1 then p.2 else p.1,c)
variable {j:Int}
def mnP{i:Int}(q:Q (.int<|if j<i then j else i) h):(biV h .minP [.tup [.int i,.int j]]).wp h Q:=wp_val rfl q
def mxP{i:Int}(q:Q (.int<|if j > i then j else i) h):(biV h .maxP [.tup [.int i,.int j]]).wp h Q:=wp_val rfl q
def Zc(hw:Ints h w)(h1:0<m)(k:∀r g,0<=r->r<m->ExtB w h g->Ints g w->Q (.int r) g):wF P (n+1) "_law_take" [.ref w,.int m] h Q X:=by
 have hw0:=hw;let⟨ns,e⟩:=hw;refine OO ?_;refine' Ze λp g hp x ep=>?_;have e2:=x.get e;refine c_eqE e2 ep ?_;fail;cases ns with
 |nil =>refine eF rfl ?_;refine' k _ _ (by decide) h1 (.of x) (hw0.ext x)
 |cons y xs =>
  refine eK rfl ?_
  exists Iu (v:=.int y) (xs:=xs.map .int) e2
  refine' k _ _ (Int.emod_nonneg _<|by lia) (de _ h1) ((ExtB.of x).trans ExtB.upd) ⟨xs,dk⟩
def D0(h63:ns.length<=63)(k:∀p g,Ints g p->Q (.ref p) g):wF P (n+1) "_law_draws" [.scr ns] h Q X:=by
 refine NS ?_;refine' Yl λdr hdr=>?_;refine' ⟨by split<;>lia,?_⟩;refine Zr (λi e g=>Sm4 λv2 v3 v4 v5=>Cj3 (e=[df<|.scr ns,df<|.ref dr,v2,v3,v4,v5]) (Hh g dr<|60*i)<|∀a,a≠dr->g a=h a) ⟨dg,dg,dg,dg,rfl,⟨[],by rw[dk];rfl,by simp⟩,λa ha=>dj ha⟩ (λ_ _ _ _ _=>trivial) ?_ ?_
 .rintro i v e g hv ⟨v2,v3,v4,v5,rfl,⟨ms,e1,l1⟩,x1⟩ K hK;let⟨rfl,hi⟩:=YO hv;have hi2:i<ns.length:=by split at hi<;>lia
  have hi3:i<80:=by split at hi<;>lia
  have hms:ms.length<=4800:=by lia
  obtain⟨c,hc⟩:∃c,ns[i]?=df c:=⟨ns[i],Ê hi2⟩
  refine' Ix (v:=.int c) ?_ ?_
  .unfold atI ixN;rw[ff (by lia),ff<|by rw[À];lia];rw[í,Ø];simp[hc]
  fail;generalize hr:(if c<0 then -c else c)=r;have r0:0<=r:=by rw[<-hr];split<;>lia
  refine eL (λΤ=>?_) λΤ=>?_
  .refine' Zp e1 (by simp[lim];lia) ?_;refine' Zp dk (by simp[lim];lia) ?_;refine' Zp dk (by simp[lim];lia) ?_;refine' hK _ _ ⟨_,_,_,_,rfl,⟨ms++[_,_,_],by show upd _ dr _ dr=_;rw[dk,Ð,ě,ě];rfl,by simp;lia⟩,λa ha=>?_⟩;show upd (upd (upd g dr _) dr _) dr _ a=_;rw[dj ha,dj ha,dj ha,x1 a ha]
  .refine' Yv (m:=60) (λm e g=>Sm3 λr j v4=>Cj5 (e=[df<|.scr ns,df<|.ref dr,df<|.int i,df<|.int r,v4,df<|.int j]) (m+j.toNat=60) (0<=j) (Hh g dr<|60*i+j.toNat)<|∀a,a≠dr->g a=h a) ⟨r,0,v4,rfl,rfl,by decide,⟨ms,e1,by lia⟩,x1⟩ ?_;rintro m e g ⟨r,j,v4,rfl,hm,j0,⟨ms,e1,l1⟩,x1⟩ K hK2;refine' eL (λh1=>?_) (λh1=>?_)
   .refine' eL (λh2=>?_) (λh2=>?_)
    .refine' Zp e1 (by simp[lim];lia) ?_;refine' hK2 (m - 1) _ _ (by lia) ⟨_,j+1,v4,rfl,by lia,by lia,⟨ms++[_],by show upd _ dr _ dr=_;rw[dk,Ð];rfl,by simp;lia⟩,λa ha=>?_⟩;show upd g dr _ a=_;rw[dj ha,x1 a ha]
    .refine' hK _ _ ⟨_,_,_,_,rfl,⟨ms,e1,by lia⟩,x1⟩
   .refine eK rfl ?_;refine' hK _ _ ⟨_,_,_,_,rfl,⟨ms,e1,by lia⟩,x1⟩
 .rintro e g ⟨v2,v3,v4,v5,rfl,⟨ms,e1,l1⟩,x1⟩;refine' Yl λp hp=>?_;refine k p _ ⟨cut ms dg<|df 240,?_⟩;rw[dk];unfold cut;rw[À,List.map_take,List.map_drop]
def Ib(hw:Ints h w)(k:∀bs ts g,dN bs ts->ExtB w h g->Ints g w->Q (Xg bs ts) g):wF P (n+5) "_law_net" [.ref w,.int 4,.int 4] h Q X:=by
 have hlim:(1000:Nat)<=lim:=by decide
 refine A0 ?_;refine' Ze λp g0 hp x0 e0=>?_;have np:p≠w:=λz=>hw.ne hp z.symm;refine' Zc (hw.ext x0) (by decide) λr1 g1 a1 b1 x1 w1=>?_;have e1:=x1.get np e0;have y1:ExtB w h g1:=(ExtB.of x0).trans x1;refine' ⟨⟨by lia,by lia⟩,?_⟩;refine Zr (λi en g=>Sm6 λv3 v4 v5 v6 v7 ns=>Cj7 (en=[df<|.ref w,df<|.int 4,df<|.int 4,df<|.ref p,v3,v4,v5,v6,v7]) (g p=df (.lst<|ns.map .int)) (ns.length=i) (Brs ns) (ns.Nodup) (ExtB w h g)<|Ints g w) ⟨dg,dg,dg,dg,dg,[],rfl,e1,rfl,(λi hi=>fk hi Û),Ċ,y1,w1⟩ (λ_ _ _ _ _=>trivial) ?_ ?_
 .rintro i v en g hv ⟨v3,v4,v5,v6,v7,ns,rfl,ep,hl,hb,nd,x,hr⟩ K hK;let⟨rfl,hi⟩:=YO hv;refine' Zc hr (by decide) λq0 gA q1 q2 xB wA=>?_;have eA:=xB.get np ep;have yA:=x.trans xB;refine' Yv (m:=cnt q0 ns 0) (λm' en g=>g=gA/\∃q:Int,en=[df<|.ref w,df<|.int 4,df<|.int 4,df<|.ref p,df<|.int i,df<|.int q,v5,v6,v7]/\0<=q/\q<1000/\m'=cnt q0 ns ((q - q0) % 1000)/\(m':Int)+(q - q0) % 1000<=ns.length) ⟨rfl,q0,rfl,q1,q2,by rw[Int.sub_self];rfl,?_⟩ ?_
  .have:=Ģ (λm=>fm ((0:Int)<=(m - q0) % 1000)) ns;unfold cnt;rw[Int.sub_self];lia
  rintro m' en g ⟨rfl,q,rfl,c1,c2,rfl,hlq⟩ K2 hK2
  exists UG eA
  refine' eL (λhq=>?_) (λhq=>?_)
  .fail;have hc:=Bv (n0:=q0) hq;have hs:((q+1) % 1000 - q0) % 1000=(q - q0) % 1000+1:=by lia
   refine hK2 (cnt q0 ns<|(q - q0) % 1000+1) _ _ (by lia) ⟨rfl,_,rfl,Int.emod_nonneg _ (by decide),de _ (by decide),by rw[hs],?_⟩;rw[hs];lia
  .refine' Zp eA (by rw[À,lim];lia) ?_;refine' hK _ _ ⟨_,_,_,_,_,ns++[q],rfl,by rw[Ð];exact dk,by rw[ã,hl];rfl,?_,?_,Wi yA hp,wA.exb np⟩
   .intro j hj;rcases à.mp hj with hj|hj
    .exact hb j hj
    .rw[Ñ.mp hj];exact⟨c1,c2⟩
   .rw[ä];exact⟨nd,by simp,λa ha b hb e=>hq<|by rw[<-Ñ.mp hb,<-e];exact ha⟩
 .rintro en g ⟨v3,v4,v5,v6,v7,ns,rfl,ep,hl,hb,nd,x,hr⟩;rw[Xo]at hl;have l1:1<=ns.length:=by lia
  have l2:ns.length<=10:=by lia
  have hL:(ns.map Val.int).length=ns.length:=À _;clear hl;refine' Ze λq g2 hq x2 e2=>?_;have nq:q≠w:=λz=>hr.ne hq z.symm;have cK:h q=dg:=by
   cases z:h q with
   |none=>rfl
   |some o=>rw[x.get nq z]at hq;cases hq
  have ep2:=x2.get ep;have npq:p≠q:=Za ep hq;have y2:ExtB w h g2:=x.trans<|.of x2;refine' ⟨⟨by decide,by decide,by lia,by lia⟩,?_⟩;refine Zr (λi en g=>Sm5 λv3 v4 v6 v7 ps=>Cj7 (en=[df<|.ref w,df<|.int 4,df<|.int 4,df<|.ref p,v3,v4,df<|.ref q,v6,v7]) (g p=df (.lst<|ns.map .int)) (g q=df (.lst<|ps.map pV)) (ps.length<=i) ((∀t∈ps,POk ns t)) (ExtB w h g)<|Ints g w) ⟨_,_,_,_,[],rfl,ep2,e2,Ï _,by simp,y2,hr.ext x2⟩ (λ_ _ _ _ _=>trivial) ?_ ?_
  .rintro i v en g hv ⟨v3,v4,v6,v7,ps,rfl,ep,eq,hl,hb,x,hr⟩ K hK;let⟨rfl,hi⟩:=DK hv;rw[hL]at hi;refine' Zc hr (by decide) λr3 g3 a3 b3 x3 w3=>?_;have ep3:=x3.get np ep;have eq3:=x3.get nq eq;refine' eL (λhc=>?_) (λhc=>?_)
   .refine' Zc w3 (by lia) λr4 g4 a4 b4 x4 w4=>?_;have cB:=x4.get np ep3;have eq4:=x4.get nq eq3;let⟨u1,k1,f1,f2⟩:=MH (ns:=ns) a4 (by lia);refine ZB cB f1 ?_;fail;let⟨u2,k2,f3,f4⟩:=MH (ns:=ns) (a:=1+(i:Int)) (by lia) hi;refine ZB cB f3 ?_;refine' Zp eq4 (by rw[À];lia) ?_;refine' hK _ _ ⟨_,_,_,_,ps++[(u1,u2)],rfl,(dj npq).trans cB,by rw[Ð];exact dk,by rw[ã];exact ő hl,λt ht=>?_,Wi ((x.trans x3).trans x4) cK,w4.exb nq⟩;rcases à.mp ht with ht|ht
    .exact hb t ht
    .rw[Ñ.mp ht];refine⟨by rw[f2];exact ĥ _,by rw[f4];exact ĥ _,λz=>?_⟩;dsimp only at z;rw[f2,f4]at z;have:=(Ϥ nd).mp z;lia
   .refine' hK _ _ ⟨_,_,_,_,ps,rfl,ep3,eq3,by lia,hb,x.trans x3,w3⟩
  .rintro en g ⟨v3,v4,v6,v7,ps,rfl,ep,eq,hl,hb,x,hr⟩;have hl:ps.length<=9:=by
    unfold dZ at hl;rw[À,Ā,hL]at hl;lia
   refine' Zc hr (by decide) λr3 g3 a3 b3 x3 w3=>?_;have ep3:=x3.get np ep;have eq3:=x3.get nq eq;refine' ⟨⟨by lia,by lia⟩,?_⟩;refine Zr (λi en g=>Sm5 λv3 v4 v6 v7 ax=>Cj7 (en=[df<|.ref w,df<|.int 4,df<|.int 4,df<|.ref p,v3,v4,df<|.ref q,v6,v7]) (g p=df (.lst<|ns.map .int)) (g q=df (.lst<|ax.map pV)) (ax.length<=ps.length+i) ((∀t∈ax,POk ns t)) (ExtB w h g)<|Ints g w) ⟨_,_,_,_,ps,rfl,ep3,eq3,Ï _,hb,x.trans x3,w3⟩ (λ_ _ _ _ _=>trivial) ?_ ?_
   .rintro i v en g hv ⟨v3,v4,v6,v7,ax,rfl,ep,eq,hl2,hb,x,hr⟩ K hK;let⟨rfl,hi⟩:=YO hv;refine' Zc hr (by lia) λr4 g4 a4 b4 x4 w4=>?_;have cB:=x4.get np ep;have eq4:=x4.get nq eq;refine' eL (λhc=>?_) (λhc=>?_)
    .fail;let⟨u1,k1,f1,f2⟩:=MH (ns:=ns) a4 (by lia);refine ZB cB f1 ?_;refine' Zc w4 (by lia) λr5 g5 a5 b5 x5 w5=>?_;have ep5:=x5.get np cB;have eq5:=x5.get nq eq4;fail;let⟨u2,j,k2,f3,f4,f5⟩:=El (ns:=ns) (a:=r4) (r:=r5) a4 (by lia) a5 (by lia);refine ZB ep5 f3 ?_;refine' Zp eq5 (by rw[À];lia) ?_;refine' hK _ _ ⟨_,_,_,_,ax++[(u1,u2)],rfl,(dj npq).trans ep5,by rw[Ð];exact dk,by rw[ã];exact ő hl2,λt ht=>?_,Wi ((x.trans x4).trans x5) cK,w5.exb nq⟩;rcases à.mp ht with ht|ht
     .exact hb t ht
     .rw[Ñ.mp ht];refine⟨by rw[f2];exact ĥ _,by rw[f4];exact ĥ _,λz=>?_⟩;dsimp only at z;rw[f2,f4]at z;have:=(Ϥ nd).mp z;lia
    .refine' hK _ _ ⟨_,_,_,_,ax,rfl,cB,eq4,by lia,hb,x.trans x4,w4⟩
   .rintro en g ⟨v3,v4,v6,v7,ax,rfl,ep,eq,hl2,hb,x,hr⟩;rw[Xo]at hl2;have hl2:ax.length<=16:=by lia
    refine' ⟨by show(List.map pV _).length<lim;rw[À];lia,ZH (λi zs g4=>∃cs:List Int,zs=cs.map .int/\cs.length=i/\(∀c∈cs,1<=c/\c<=1000)/\ExtB w g g4/\Ints g4 w) ⟨[],rfl,rfl,by simp,ExtB.refl,hr⟩ (λ_ _ g4 _ ⟨_,_,_,_,x,_⟩=>lsE<|x.get nq eq) (λi v zs g4 hv hI K hK=>?_) λzs g4 hI=>?_⟩
    .obtain⟨cs,rfl,hc,hd,x4,w4⟩:=hI;walk_at "p";refine Zc w4 (by decide) λr5 g5 a5 b5 x5 w5=>?_;refine' Ze λp6 g6 hp6 x6 e6=>?_;have n6:p6≠w:=λz=>w5.ne hp6 z.symm;refine' Zc (w5.ext x6) (by decide) λr7 g7 a7 b7 x7 w7=>?_;let⟨v,ev,hv⟩:=Od (xs:=[Val.int 1,.int 1,.int 2,.int 3,.int<|1+r5]) (r:=r7) a7 b7;have hm:∃m:Int,v=.int m/\1<=m/\m<=1000:=by
      simp only[Æ,Û,or_false]at hv;rcases hv with rfl|rfl|rfl|rfl|rfl<;>exact⟨_,rfl,by lia,by lia⟩
     let⟨m,rfl,m1,m2⟩:=hm;refine ZB (x7.get n6 e6) ev ?_;refine hK _ _ ⟨cs++[m],by rw[Ð];rfl,by rw[ã,hc];rfl,λc hcc=>?_,((x4.trans x5).trans<|.of x6).trans x7,w7⟩;rcases à.mp hcc with hcc|hcc
     .exact hd c hcc
     .rw[Ñ.mp hcc];exact⟨m1,m2⟩
    let⟨cs,rfl,hc,hd,x4,w4⟩:=hI;have hc:cs.length=ax.length:=by rw[hc];exact À _
    refine Ze λpc g5 hpc x5 e5=>?_;have ep5:=x5.get<|x4.get np ep;have eq5:=x5.get<|x4.get nq eq;have w5:=w4.ext x5;fail;rw[À];refine⟨⟨by lia,by lia⟩,?_⟩;refine⟨by rw[Xo];lia,ZH (λi zs g6=>g6=g5/\zs=((Ϡ tOf ax cs).take i).map trV) ⟨rfl,rfl⟩ (λ_ _ _ _ _=>trivial) (λi v zs g6 hv hI K hK=>?_) λzs g6 hI=>?_⟩
    .obtain⟨rfl,rfl⟩:=hI;let⟨rfl,hi⟩:=YO hv;obtain⟨pr,hpr⟩:∃x,ax[i]?=df x:=⟨ax[i]'(by lia),Ê<|by lia⟩
     obtain⟨co,hco⟩:∃x,cs[i]?=df x:=⟨cs[i]'(by lia),Ê<|by lia⟩
     have f1:atI (ax.map pV) i=df (.tup [.int pr.1,.int pr.2]):=Xi (by lia) (by rw[ò,Ø,hpr];rfl);walk_at "p";refine ZB eq5 f1 ?_
     exists mnP
     exists ZB eq5 f1
     exists mxP
     refine' ZB e5 (v:=.int co) (Xi (by lia)<|by rw[ò,Ø,hco];rfl) ?_;refine' hK _ _ ⟨rfl,?_⟩;have hz:(Ϡ tOf ax cs)[i]?=df (tOf pr co):=by rw[bK,hpr,hco]
     rw[ŉ,hz,Ð];rfl
    .obtain⟨rfl,rfl⟩:=hI;have hz:(Ϡ tOf ax cs).length=ax.length:=by rw[List.length_zipWith,hc,Nat.min_self]
     rw[Xo,ò,List.take_of_length_le<|by lia];refine Ze λp7 g7 hp7 x7 e7=>?_;fail;have htok:∀z∈Ϡ tOf ax cs,TOk ns z:=λz hz=>by
      let⟨i,hi⟩:=bF.mp hz;rw[bK]at hi;cases z1:ax[i]? with
      |none=>rw[z1]at hi;cases hi
      |some pr =>
       cases z2:cs[i]? with
       |none=>rw[z1,z2]at hi;cases hi
       |some co =>
        rw[z1,z2]at hi;cases hi;let⟨h1,h2,h3⟩:=hb _<|è z1;let⟨h4,h5⟩:=hd _<|è z2;unfold tOf TOk;dsimp only;by_cases Τ:pr.2<pr.1
        .rw[ff Τ,fg<|by lia];exact⟨h2,h1,by lia,h4,h5⟩
        .rw[fg Τ,ff<|by lia];exact⟨h1,h2,by lia,h4,h5⟩
     refine FJ (x7.get ep5) e7 l1 l2 ‹Brs ns› nd (by lia) htok λg8 x8=>?_;have hl:(sortI ns).length=ns.length:=(ĺ ns _).length_eq;refine k _ _ _ ⟨by lia,by lia,λi hi=>‹Brs ns› i (mem_sort.mp hi),F0 nd,by rw[À];lia,λt ht=>?_⟩ ((x.trans x4).trans<|.of<|(x5.trans x7).trans x8)<|w5.ext<|x7.trans x8;let⟨z,hz',rfl⟩:=Þ.mp ht;let⟨q1,q2,q3⟩:=Ej<|htok z hz';exact⟨mem_sort.mpr q1,mem_sort.mpr q2,q3⟩
abbrev run:Yc->List Dd->Option Yc
 |C,[]=>df C
 |C,d::l=>(step C d).bind λD=>run D l
def W6:∀{l m:List Dd}{C:Yc},run C (l++m)=(run C l).bind λD=>run D m
 |[],_,_=>rfl
 |d::l,m,C=>by
  show(step C d).bind (λD=>run D<|l++m)=((step C d).bind λD=>run D l).bind _;cases step C d with
  |none=>rfl
  |some D=>exact W6
def XT{l:List Dd}{d:Dd}{D:Yc}(h:run C l=df D):run C (l++[d])=step D d:=by rw[W6,h];show(step D d).bind df=_;cases step D d<;>rfl
def Wz:∀{l:List Dd}{C D:Yc}{N:Nat},C.gd N->run C l=df D->D.gd (N+l.length)/\D.bs=C.bs/\D.ts=C.ts/\D.most=C.most
 |[],C,D,N,g,h=>by cases h;exact⟨g,rfl,rfl,rfl⟩
 |d::l,C,D,N,g,h=>by let⟨E,h1,h2⟩:=æ.mp h;let⟨g1,e1,e2,e3⟩:=UR g h1;let⟨g2,f1,f2,f3⟩:=Wz g1 h2;rw[Ç,show N+(l.length+1)=N+1+l.length by lia];exact⟨g2,f1.trans e1,f2.trans e2,f3.trans e3⟩
abbrev WH(bs:List Int)(ts:List Tie)(most:Int):Yc:=⟨bs,ts,most,bs.map λb=>(b,0),bs.map λb=>(b,ZG b 0 most<|eW b 0 ts),[],[]⟩
def P2{bs:List Int}(nw:YNew bs ts most Y):Y.cc=WH bs ts most:=by
 have e:enC Y.es=bs.map λb=>(b,ZG b 0 most<|eW b 0 ts):=by rw[<-nw.num,ô];exact č λe he=>by show(e.num,e.B)=(e.num,_);rw[nw.br e he]
 unfold Yd.cc WH;rw[nw.hb,nw.ht,nw.hm,nw.lives,nw.fallen,nw.road,e]
def FR{b:Int}(h:ts.length<=16):Bok ts.length<|ZG b life most<|eW b 0 ts:=by
 have r:=JD (b:=b) (l:=ts) (k:=0);have rg:∀q∈YQ (eW b 0 ts),0<=q.1/\q.1<ts.length:=λq hq=>by let⟨x,hx,rfl⟩:=Þ.mp hq;have:=r.2 x hx;dsimp only;lia
 refine⟨⟨Ċ,(λ_ m=>nomatch m),?_,λq hq=>?_⟩,λq hq=>(rg q hq).2⟩
 .show((YQ _).map (·.1)).Nodup;rw[Wl];exact r.1.imp λz=>by lia
 .have:=rg q hq;lia
def Gz{bs:List Int}(no:dN bs ts):(WH bs ts most).gd 0:=by
 have e1:(bs.map λb=>(b,ZG b 0 most<|eW b 0 ts)).map (·.1)=bs:=by rw[ô];exact Θ _
 refine⟨no,?_,keys_sub.mpr ?_,λq hq=>?_,?_,Ċ,(λ_ m=>nomatch m),Ï _⟩
 .show((bs.map λb=>(b,ZG b 0 most<|eW b 0 ts)).map (·.1)).Nodup;rw[e1];exact no.up.imp λh=>by lia
 .show ∀x∈(bs.map λb=>(b,ZG b 0 most<|eW b 0 ts)).map (·.1),_;rw[e1];exact λ_=>id
 .obtain⟨b,_,rfl⟩:=Þ.mp hq;exact FR no.sixteen
 .show(bs.map λb=>(b,(0:Int))).map (·.1)=bs;rw[ô];exact Θ _
def Kt{b:Int}(h:b∈C.br.map (·.1)):∃D,step C (.tick b)=df D/\D.br.map (·.1)=C.br.map (·.1):=by let⟨B,hB⟩:=ZN h;refine⟨_,by show(C.br.lookup b).map _=_;rw[hB];rfl,Jh _⟩
def AE(h:C.road≠[]):∃D,step C (.come 0)=df D/\D.road.length+1=C.road.length:=by
 cases z:C.road with
 |nil=>exact fk z h
 |cons r l =>refine⟨_,by show(if(0:Int)<0 then dg else(C.road[(0:Int).toNat]?).map _)=_;rw[fg (by decide),z];rfl,rfl⟩
def O2(xs:List α)(x:α):atI (xs++[x]) (-1)=df x:=by
 unfold atI ixN;rw[fg (by decide),ff<|by simp;lia];have:((-1:Int)+((xs++[x]).length:Nat)).toNat=xs.length:=by simp;lia
 rw[í,this];simp
section
variable {Y:Yd}{N:Nat}
def MZ{bs:List Int}(no:dN bs ts)(hp:h p=dg)(k:∀Y g,Y.y=p->dD g Y->Y.cc=WH bs ts most->(∀a∈Y.adr,h a=dg)->Ext h g->Q .non g):wF P (n+3) "Yard.__init__" [.ref p,Xg bs ts,.int most] (upd h p<|.ins "Yard" []) Q X:=BU no hp λY g e y nw f x=>k Y g e y (P2 nw) f x
def BG(x:dD h Y)(gd:Y.cc.gd N)(hN:N<=90)(k:∀Z g p l,Mv h Y g Z->run Y.cc l=df Z.cc->l.length<=17*(N+10)->h p=dg->p∉Z.adr->g p=df (.lst<|l.map Dd.v)->Q (.ref p) g):wF P (n+7) "_law_round_of" [.ref Y.y] h Q X:=by
 have xi:=x.ins;have h10:=gd.ten;have kl:=Xa (C:=Y.cc);refine Jk ?_;refine' Yp x gd λp1 g1 bq x1 e1=>?_;refine' ⟨Ò (by show(Kf Y.cc).length<=10;unfold Kf;rw[À];lia) (by decide),?_⟩;refine ZH (λi ys g=>g=g1/\ys=((Y.cc.keys.take i).map Dd.tick).map Dd.v) ⟨rfl,rfl⟩ (λi ys g _ ⟨z,_⟩=>by rw[z];exact lsE e1) ?_ ?_
 .rintro i v ys g hv ⟨rfl,rfl⟩ K hK;let⟨b,hb,rfl⟩:=ZK hv;walk_at "p";refine hK _ _ ⟨rfl,?_⟩;rw[Zi hb,Ð,Ð];rfl
 rintro ys g ⟨rfl,rfl⟩;rw[show(Kf Y.cc).length=Y.cc.keys.length from À _,ó];refine Ze λp g2 hp x2 e2=>?_;have hp0:h p=dg:=Xd x1 hp;have m2:Mv h Y g2 Y:=(Mv.refl x).ext<|x1.trans x2;have nA:p∉Y.adr:=λz=>x.taken z hp0;refine' Zr (λi en g=>Sm2 λv2 Z=>Cj6 (en=[df<|.ref Y.y,df<|.ref p,v2]) (Mv h Y g Z) (p∉Z.adr) (g p=df (.lst<|(Y.cc.keys.map Dd.tick).map Dd.v)) (run Y.cc ((Y.cc.keys.take i).map Dd.tick)=df Z.cc) (Z.cc.br.map (·.1)=Y.cc.br.map (·.1))) ⟨_,Y,rfl,m2,nA,e2,rfl,rfl⟩ (λ_ _ _ _ ⟨_,_,_,_,_,e,_,_⟩=>lsE e) ?_ ?_
 .rintro i v en g hv ⟨v2,Z,rfl,m,np,ep,hr,hk⟩ K hK;let⟨d,hd,rfl⟩:=ZK hv;rw[Ø]at hd;let⟨b,hb,rfl⟩:=Ë.mp hd;have hi:=(Î.mp hb).1;let⟨D,hD,hDk⟩:=Kt (C:=Z.cc) (b:=b) (by rw[hk];exact keys_look.mp<|keys_mem.mp<|è hb);let⟨gz,_⟩:=Wz gd hr;have zi:=m.at_.ins;rw[m.y]at zi;fail;rw[<-m.y];refine WR m.at_ gz (by rw[À,Ĕ];lia) (by rw[hD];rfl) λW g3 s mv=>?_;fail;rw[hD]at s;cases s;have o:=mv.off np ep;rw[m.y];refine hK _ _ ⟨_,W,rfl,m.trans mv,o.1,o.2,?_,hDk.trans hk⟩;rw[Zi hb,Ð];exact(XT hr).trans hD
 rintro en g ⟨v2,Z,rfl,m,np,ep,hr,hk⟩;rw[À,À,ó]at hr;let⟨gz,_⟩:=Wz gd hr;rw[À]at gz;have rl:Z.cc.road.length<=16*(N+10):=Ô gz.len (by lia);refine' Yv (m:=Z.cc.road.length) (λm' en g=>∃W l,en=[df<|.ref Y.y,df<|.ref p,v2]/\Mv h Y g W/\p∉W.adr/\g p=df (.lst<|l.map Dd.v)/\run Y.cc l=df W.cc/\W.cc.road.length=m'/\l.length+m'<=10+16*(N+10)) ⟨Z,_,rfl,m,np,ep,hr,rfl,by rw[À];lia⟩ ?_;rintro m' en g ⟨W,l,rfl,m,np,ep,hr,hm,hl⟩ K hK;let⟨gw,_⟩:=Wz gd hr;have zi:=m.at_.ins;rw[m.y]at zi;fail;rw[<-m.y];refine K4 m.at_ λp3 g3 hp3 x3 e3=>?_;refine' Ze λp4 g4 hp4 x4 e4=>?_;refine c_neE (x4.get e3) e4 ?_;fail;have m4:=m.ext<|x3.trans x4;have cB:=(x3.trans x4).get ep;rw[m.y];refine eM (λhc=>?_) λhc=>?_
 .have Ţ:W.cc.road≠[]:=λz=>by rw[show W.road=[] from z]at hc;cases hc
  let⟨D,hD,hDl⟩:=AE Ţ;refine' Zp cB (by rw[À];exact Ò (by lia:_<=2000)<|by decide) ?_;have m5:=m4.put (o:=.lst<|l.map Dd.v++[.tup [.str "come",.int 0]]) hp0 np;have e5:upd g4 p (.lst<|l.map Dd.v++[.tup [.str "come",.int 0]]) p=df (.lst<|(l++[Dd.come 0]).map Dd.v):=by rw[dk,Ð];rfl
  dsimp only;generalize upd g4 p (.lst<|l.map Dd.v++[.tup [.str "come",.int 0]])=g5 at m5 e5 ⊢;have zi:=m5.at_.ins;rw[m.y]at zi;refine' ZB e5 (v:=Dd.v<|.come 0) (by rw[Ð];exact O2 _ _) ?_;fail;rw[<-m.y];refine WR m5.at_ gw (by lia) (by rw[hD];rfl) λV g6 s mv=>?_;fail;rw[hD]at s;cases s;have o:=mv.off np e5;rw[m.y];exact hK (m' - 1) _ _ (by lia) ⟨V,_,rfl,m5.trans mv,o.1,o.2,(XT hr).trans hD,by lia,by rw[ã,Ť];lia⟩
 .refine' k W g4 p l m4 hr (by lia) hp0 np cB
end
def dD.extb(x:dD h Y)(e:ExtB w h g)(nw:w∉Y.adr):dD g Y:=x.keep (S:=[w]) (Ex.ofB e<|by simp) λa ha z=>nw (Ñ.mp z▸ha)
def Uw:eqV h (.tup<|ns.map .int) (.tup [])=df (fm (ns=[])):=by
 cases ns with
 |nil=>rfl
 |cons a l =>show((((a::l).map Val.int).mapM<|dat h 11).map D.tup).bind _=_;rw[J4];rfl
def C9{b:Int}(h:b∈C.keys):(step C<|.fallB b).isSome=dh:=by dsimp only[step];rw[ff<|keys_mem.mp h];rfl
def F4{b:Int}(h:b∈C.keys):(step C<|.tick b).isSome=dh:=by let⟨D,hD,_⟩:=Kt<|keys_look.mp<|keys_mem.mp h;rw[hD];rfl
def cut_mem{p:Int}:p∈C.cuts↔(C.fallen.lookup p).isSome=dh:=by unfold Yc.cuts;rw[mem_sort,look_iff];simp
def BH{p:Int}(h0:0<=p)(h1:p<C.ts.length)(h:p∉C.cuts):(step C<|.fallT p).isSome=dh:=by dsimp only[step];rw[ff ⟨⟨h0,h1⟩,by cases z:(C.fallen.lookup p).isSome with|false=>rfl|true=>exact fk (cut_mem.mpr z) h⟩];rfl
def Dh{p:Int}(h:p∈C.cuts):(step C<|.backT p).isSome=dh:=by dsimp only[step];rw[ff<|cut_mem.mp h];rfl
def downs_mem{b:Int}:b∈C.downs↔b∈C.bs/\(C.br.lookup b).isSome=di:=by unfold Yc.downs;rw[ă];simp
def M4{b:Int}(g:C.gd N)(h:b∈C.downs):(step C<|.backB b).isSome=dh:=by let⟨h1,h2⟩:=downs_mem.mp h;dsimp only[step];rw[fg<|by rw[h2];decide];rw[<-g.lv]at h1;let⟨v,hv⟩:=ZN h1;rw[hv];rfl
def U2(h0:0<=r)(h1:r<C.road.length):(step C<|.lost r).isSome=dh/\(step C<|.come r).isSome=dh:=by have e:=Ê (l:=C.road) (i:=r.toNat) (by lia);dsimp only[step];rw[fg (by lia),e];exact⟨rfl,by rw[fg<|by lia];rfl⟩
abbrev XO(C:Yc)(m:Nat):List Int:=((List.range m).map λi:Nat=>(i:Int)).filter λp=>!fm (p∈C.cuts)
abbrev tl:Nat->Ss->Ss
 |0,s=>s
 |k+1,.cons _ r=>tl k r
 |_+1,.nil=>.nil
def pick(r0:0<=r)(r1:r<ns.length):∃b∈ns,atI (ns.map Val.int) r=df (.int b):=by let⟨b,hb,hm⟩:=N3 r0 r1;exact⟨b,hm,Xi r0<|by rw[Ø,hb];rfl⟩
section
variable {Y:Yd}{N:Nat}
def Iv(hw:Ints h w)(x:dD h Y)(gd:Y.cc.gd N)(nw:w∉Y.adr)(k:∀d g,(step Y.cc d).isSome=dh->ExtB w h g->Ints g w->Q (Dd.v d) g):wF P (n+3) "_law_deed_now" [.ref w,.ref Y.y] h Q X:=by
 have h10:=gd.ten;have kl:=Xa (C:=Y.cc);have t16:Y.ts.length<=16:=gd.no.sixteen;have b10:Y.cc.bs.length<=10:=gd.no.ten;have b1:1<=Y.cc.bs.length:=gd.no.one;have htl:(Y.ts.map trV).length=Y.ts.length:=À _;have hc16:=gd.f16;have cl:=Bz (C:=Y.cc);refine JA ?_;refine' Zc hw (by decide) λway g1 a1 b1' x1 w1=>?_;have y1:=x.extb x1 nw;have yi1:=y1.ins;refine' Yp y1 gd λp2 g2 cM x2 e2=>?_;refine' ⟨Ò (by show(Kf Y.cc).length<=10;unfold Kf;rw[À];lia) (by decide),?_⟩;refine ZH (λi ys g=>g=g2/\ys=(Y.cc.keys.take i).map .int) ⟨rfl,rfl⟩ (λi ys g _ ⟨z,_⟩=>by rw[z];exact lsE e2) ?_ ?_
 .rintro i v ys g hv ⟨rfl,rfl⟩ K hK;let⟨b,hb,rfl⟩:=ZK hv;walk_at "p";refine hK _ _ ⟨rfl,?_⟩;rw[Zi hb,Ð];rfl
 rintro ys g ⟨rfl,rfl⟩;rw[show(Kf Y.cc).length=Y.cc.keys.length from À _,ó];refine Ze λpu g3 hpu x3 eu=>?_;have y3:=y1.ext<|x2.trans x3;have yi3:=y3.ins;refine' M8 y3 gd λg4 x4=>?_;have y4:=y3.ext x4;have yi4:=y4.ins;refine' K4 y4 λp5 g5 hp5 x5 e5=>?_;have y5:=y4.ext x5;have yi5:=y5.ins
 exists MK y5
 exists dy (xs:=[.tup<|Y.bs.map .int,.tup<|Y.ts.map trV]) (v:=.tup<|Y.ts.map trV) rfl
 fail;rw[htl];refine⟨⟨by lia,by lia⟩,by rw[Xo];exact Ò (by lia:_<=16) (by decide),?_⟩;refine ZH (λi ys g=>g=g5/\ys=(XO Y.cc i).map .int) ⟨rfl,rfl⟩ (λ_ _ _ _ _=>trivial) ?_ ?_
 .rintro i v ys g hv ⟨rfl,rfl⟩ K hK;let⟨rfl,hi⟩:=YO hv;have hs:XO Y.cc (i+1)=XO Y.cc i++(if(!fm ((i:Int)∈Y.cc.cuts))=dh then [(i:Int)]else []):=by
   unfold XO;rw[List.range_succ,Ð,ϐ,Í,Ų,ú,aa]
  exists N7 (ns:=Y.cc.cuts)
  refine' eM (λhc=>?_) (λhc=>?_)
  .refine' hK _ _ ⟨rfl,by rw[hs,ff hc,Ð];rfl⟩
  .exact hK _ _ ⟨rfl,by rw[hs,fg (by rw[hc];decide),þ];simp⟩
 rintro ys g ⟨rfl,rfl⟩;rw[Xo,ò];refine Ze λpt g6 hpt x6 et=>?_;have eu6:=((x4.trans x5).trans x6).get eu;have xx:ExtB w h g6:=(((x1.trans<|.of x2).trans<|.of x3).trans<|.of<|(x4.trans x5).trans x6)
 have w6:=w1.ext<|(((x2.trans x3).trans x4).trans x5).trans x6;have nu:pu≠w:=λz=>by have:=w1.ext x2;exact this.ne hpu z.symm
 have nt:pt≠w:=λz=>by have:=w1.ext<|((x2.trans x3).trans x4).trans x5;exact this.ne hpt z.symm
 have fre:∀p∈XO Y.cc Y.ts.length,0<=p/\p<Y.cc.ts.length/\p∉Y.cc.cuts:=λp hp=>by let⟨h1,h2⟩:=ă.mp hp;let⟨i,hi,rfl⟩:=Þ.mp h1;have:=ę.mp hi;exact⟨by lia,by show(i:Int)<(Y.ts.length:Nat);lia,⇑h2⟩
 have hR:Y.cc.road.length=Y.road.length:=rfl;have rl:(Y.road.map rdV).length=Y.road.length:=À _;have kl2:(Y.cc.keys.map Val.int).length=Y.cc.keys.length:=À _;have fl2:((XO Y.cc Y.ts.length).map Val.int).length=(XO Y.cc Y.ts.length).length:=À _;have dl2:(Y.cc.downs.map Val.int).length=Y.cc.downs.length:=À _;have cl2:(Y.cc.cuts.map Val.int).length=Y.cc.cuts.length:=À _;have ç:∀{ns:List Int},(ns.map Val.int).isEmpty=di->0<ns.length:=λ{ns} hn=>by cases ns with|nil=>cases hn|cons a l=>simp
 let F:Hs->Prop:=λg=>ExtB w h g/\Ints g w/\g pu=df (.lst<|Y.cc.keys.map .int)/\g pt=df (.lst<|(XO Y.cc Y.ts.length).map .int)
 have Fx:∀{g g'},F g->Ext g g'->F g':=λ⟨a,b,c,d⟩ e=>⟨a.trans<|.of e,b.ext e,e.get c,e.get d⟩
 have tk:∀{g:Hs}{m:Int}{K:Q1}{X:XQ},F g->0<m->(∀r g,0<=r->r<m->F g->K (.int r) g)->wF P (n+2) "_law_take" [.ref w,.int m] g K X:=λ⟨a,b,c,d⟩ hm q=>Zc b hm λr g a' b' y z=>q r g a' b' ⟨a.trans y,z,y.get nu c,y.get nt d⟩;have go_:∀{d:Dd}{g:Hs},(step Y.cc d).isSome=dh->F g->Q (Dd.v d) g:=λs f=>k _ _ s f.1 f.2.1
 let W:Ss->Prop:=λs=>∀g,F g->wSs (wF P<|n+2) s [df<|.ref w,df<|.ref Y.y,df<|.int way,df<|.ref pu,df<|.tup [.tup<|Y.cc.downs.map .int,.tup<|Y.cc.cuts.map .int],df<|.int (Y.road.length:Nat),df<|.ref pt] g (λ_ g=>Q .non g) Q (λ_ _=>False) (λ_ _=>False) λ_ c g=>X c g
 have R11:W<|tl 11 S6.body:=λg f=>by
  dsimp only[tl,S6];refine' Ze λpz gz hz xz ez=>?_;have f':=Fx f xz;refine c_eqE f'.2.2.1 ez ?_;refine' eM (λhc=>?_) (λhc=>?_)
  .have hk:Y.cc.keys=[]:=by cases z:Y.cc.keys with|nil=>rfl|cons a l=>rw[z]at hc;cases hc
   have hd:Y.cc.downs=Y.cc.bs:=Χ.mpr λb hb=>by
    cases z:(Y.cc.br.lookup b).isSome with
    |false=>rfl
    |true=>have:=keys_mem.mpr z;rw[hk]at this;cases this
   fail;let⟨b,hb,eb⟩:=pick (ns:=Y.cc.downs) (r:=0) (by decide) (by rw[hd];lia);refine dy eb ?_;refine' go_ (M4 gd hb) f'
  .have f2:=f'.2.2.1;fail;rw[kl2];refine tk f' (by have:=ç hc;lia) λr g2 r0 r1 f2=>?_;let⟨b,hb,eb⟩:=pick (ns:=Y.cc.keys) r0 r1;refine ZB f2.2.2.1 eb ?_;refine' go_ (F4 hb) f2
 have R10:W<|tl 10 S6.body:=λg f=>by
  dsimp only[tl,S6];refine' eL (λc1=>?_) (λc1=>eK rfl<|ZP<|R11 g f);refine' eL (λc2=>?_) (λc2=>ZP<|R11 g f);refine' tk f c2 λr g2 r0 r1 f2=>?_;refine' Ze λpz gz hz xz ez=>?_;fail;let⟨v,hv,em⟩:=Od (xs:=[Val.int 0,.int r]) (r:=way % 2) (by lia) (by show way % 2<2;lia);refine ZB ez hv ?_;have:∃q:Int,v=.int q/\0<=q/\q<Y.cc.road.length:=by
   simp only[Æ,Û,or_false]at em;rcases em with rfl|rfl
   .exact⟨_,rfl,by lia,by lia⟩
   .exact⟨_,rfl,r0,r1⟩
  let⟨q,rfl,q0,q1⟩:=this;refine' go_ (U2 q0 q1).2 (Fx f2 xz)
 have R9:W<|tl 9 S6.body:=λg f=>by dsimp only[tl,S6];refine' eL (λc1=>?_) (λc1=>eK rfl<|ZP<|R10 g f);refine' eL (λc2=>?_) (λc2=>ZP<|R10 g f);refine' tk f c2 λr g2 r0 r1 f2=>?_;refine' go_ (U2 r0 r1).1 f2
 have R8:W<|tl 8 S6.body:=λg f=>by
  dsimp only[tl,S6]
  exists Ms (ns:=[12,13,14])
  refine' eL (λc1=>?_) (λc1=>eK rfl<|ZP<|R9 g f)
  exists WD Uw
  refine' Mi (λc2=>?_) (λc2=>ZP<|R9 g f);fail;rw[cl2];refine tk f (by have:=Ω.mpr c2;lia) λr g2 r0 r1 f2=>?_;let⟨b,hb,eb⟩:=pick (ns:=Y.cc.cuts) r0 r1;refine dy eb ?_;refine' go_ (Dh hb) f2
 have R7:W<|tl 7 S6.body:=λg f=>by
  dsimp only[tl,S6]
  exists Ms (ns:=[12,13,14])
  refine' eL (λc1=>?_) (λc1=>eK rfl<|ZP<|R8 g f)
  exists WD Uw
  refine' Mi (λc2=>?_) (λc2=>ZP<|R8 g f);fail;rw[dl2];refine tk f (by have:=Ω.mpr c2;lia) λr g2 r0 r1 f2=>?_;let⟨b,hb,eb⟩:=pick (ns:=Y.cc.downs) r0 r1;refine dy eb ?_;refine' go_ (M4 gd hb) f2
 have R6:W<|tl 6 S6.body:=λg f=>by dsimp only[tl,S6];refine' eL (λc1=>?_) (λc1=>eK rfl<|ZP<|R7 g f);refine' Ze λpz gz hz xz ez=>?_;have f':=Fx f xz;refine c_neE f'.2.2.2 ez ?_;refine' eM (λhc=>?_) (λhc=>ZP<|R7 gz f');have f2:=f'.2.2.2;fail;rw[fl2];refine tk f' (by have:=ç<|Ĝ _ |>.mp hc;lia) λr g2 r0 r1 f2=>?_;let⟨b,hb,eb⟩:=pick (ns:=XO Y.cc Y.ts.length) r0 r1;refine ZB f2.2.2.2 eb ?_;fail;let⟨q1,q2,q3⟩:=fre b hb;exact go_ (BH q1 q2 q3) f2
 have f6:F g6:=⟨xx,w6,eu6,et⟩
 rw[rl];refine' eL (λc1=>?_) (λc1=>eK rfl<|ZP<|R6 g6 f6);refine' Ze λpz gz hz xz ez=>?_;have f':=Fx f6 xz;refine c_neE f'.2.2.1 ez ?_;refine' eM (λhc=>?_) (λhc=>ZP<|R6 gz f');have f2:=f'.2.2.1;fail;rw[kl2];refine tk f' (by have:=ç<|Ĝ _ |>.mp hc;lia) λr g2 r0 r1 f2=>?_;let⟨b,hb,eb⟩:=pick (ns:=Y.cc.keys) r0 r1;refine ZB f2.2.2.1 eb ?_;refine' go_ (C9 hb) f2
end
structure Mw(w:Ad)(h:Hs)(Y:Yd)(g:Hs)(Z:Yd):Prop where
 y:Z.y=Y.y
 at_:dD g Z
 nw:∀a∈Z.adr,a∈Y.adr\/h a=dg
 ex:Ex (w::Y.adr) h g
 nz:w∉Z.adr
 iw:Ints g w
def Ints.some_(x:Ints h w):∃o,h w=df o:=by let⟨_,x⟩:=x;exact⟨_,x⟩
def Mw.fresh(m:Mw w h Y g Z)(e:g p=dg):h p=dg\/p∈Y.adr:=by
 cases z:h p with
 |none=>exact .inl rfl
 |some o =>
  by_cases np:p∈Y.adr
  .exact .inr np
  .rw[m.ex.get (by simp[np,(m.iw.ne e).symm]) z]at e;cases e
def Mw.mv{f:Hs}(m:Mw w h Y g Z)(l:Mv g Z f W):Mw w h Y f W:=by
 let⟨o,eo⟩:=m.iw.some_;let⟨q1,q2⟩:=l.off m.nz eo;let⟨ns,en⟩:=m.iw;refine⟨l.y.trans m.y,l.at_,λa ha=>?_,⟨λna e=>?_⟩,q1,ns,by rw[q2,<-eo,en]⟩
 .rcases l.nw a ha with z|z
  .exact m.nw a z
  .exact(m.fresh z).symm
 .have h2:=m.ex.get na e;exact l.ex.get (λz=>(m.nw _ z).elim (λy=>na<|by simp[y]) λy=>by rw[e]at y;cases y) h2
def Mw.take{f:Hs}(m:Mw w h Y g Z)(x:ExtB w g f)(i:Ints f w):Mw w h Y f Z:=⟨m.y,m.at_.extb x m.nz,m.nw,m.ex.trans<|Ex.ofB x<|by simp,m.nz,i⟩
def Mw.ext{f:Hs}(m:Mw w h Y g Z)(x:Ext g f):Mw w h Y f Z:=m.take (.of x) (m.iw.ext x)
def Mw.put(m:Mw w h Y g Z)(hp:h p=dg\/p∈Y.adr)(np:p∉Z.adr)(nw:p≠w):Mw w h Y (upd g p o) Z:=⟨m.y,m.at_.keep (S:=[p]) (Ex.upd<|by simp) λa ha z=>np<|Ñ.mp z▸ha,m.nw,⟨λ{a u} na e=>by rw[dj λz=>hp.elim (λy=>by rw[<-z,e]at y;cases y) λy=>na<|by simp[z,y]];exact m.ex.get na e⟩,m.nz,m.iw.exb nw⟩
section
variable {Y:Yd}{N:Nat}
def L0(hw:Ints h w)(x:dD h Y)(gd:Y.cc.gd 0)(nw:w∉Y.adr)(k:∀p l C g,run Y.cc l=df C->l.length<=2000->p≠w->g p=df (.lst<|l.map Dd.v)->Ex (w::Y.adr) h g->Ints g w->Q (.ref p) g):wF P (n+8) "_law_row" [.ref w,.ref Y.y,.int 50] h Q X:=by
 refine Aa ?_;refine' Ze λp g1 hp x1 e1=>?_;have m1:Mw w h Y g1 Y:=⟨rfl,x.ext x1,λ_=>.inl,.of x1,nw,hw.ext x1⟩
 refine' Yv (m:=86) (λm en g=>∃(Z:Yd) (l:List Dd) (p:Ad) (r:Int),en=[df<|.ref w,df<|.ref Y.y,df<|.int 50,df<|.ref p,df<|.int r]/\Mw w h Y g Z/\p∉Z.adr/\p≠w/\(h p=dg\/p∈Y.adr)/\g p=df (.lst<|l.map Dd.v)/\run Y.cc l=df Z.cc/\l.length<=2000/\0<=r/\r<=6/\(80 - l.length:Nat)+6 - r.toNat<=m) ⟨Y,[],p,0,rfl,m1,(λz=>x.taken z hp),(λz=>hw.ne hp z.symm),.inl hp,e1,rfl,by decide,by decide,by decide,by decide⟩ ?_;rintro m en g ⟨Z,l,p,r,rfl,mw,np,pw,pf,ep,hr,hl,r0,r6,hm⟩ K hK;let⟨ns,ens⟩:=mw.iw;have zi:=mw.at_.ins;rw[mw.y]at zi;have ll:(l.map Dd.v).length=l.length:=À _;let⟨gz,_⟩:=Wz gd hr;rw[Α]at gz;refine' Ze λp2 g2 cM x2 e2=>?_;refine c_neE (x2.get ens) e2 ?_;fail;have m2:=mw.ext x2;have ep2:=x2.get ep;have fin:=k p l _ g2 hr hl pw ep2 m2.ex m2.iw;refine eM (λhc=>?_) (λhc=>by walk_at "p";exact fin);fail;rw[ll];refine eL (λc2=>?_) (λc2=>by walk_at "p";exact fin);have hl80:l.length<80:=by lia
 have other:∀{N B C:NQ}{g3:Hs},(∀e g,K e g->N e g)->Mw w h Y g3 Z->g3 p=df (.lst<|l.map Dd.v)->wSs (wF P<|n+7) #[.expr<|.bm .append (.var 3) #[.call "_law_deed_now" #[.var 0,.var 1]],.expr<|.meth "Yard" "deed" (.var 1) #[.idx (.var 3)<|.neg<|.cst<|.int 1]] [df<|.ref w,df<|.ref Y.y,df<|.int 50,df<|.ref p,df<|.int r] g3 N Q B C λ_ c g=>X c g:=λ{N B C g3} hN m3 ep3=>by
  fail;rw[<-mw.y];refine Iv m3.iw m3.at_ gz m3.nz λd g4 hs x4 w4=>?_;let⟨D,hD⟩:=î.mp hs;have m4:=m3.take x4 w4;rw[mw.y];refine' Zp (x4.get pw ep3) (by rw[ll];exact Ŵ hl80<|by decide) ?_;have m5:=m4.put (o:=.lst<|l.map Dd.v++[Dd.v d]) pf np pw;have e5:upd g4 p (.lst<|l.map Dd.v++[Dd.v d]) p=df (.lst<|(l++[d]).map Dd.v):=by rw[dk,Ð];rfl
  dsimp only;generalize upd g4 p (.lst<|l.map Dd.v++[Dd.v d])=g5 at m5 e5 ⊢;have zi:=m5.at_.ins;rw[mw.y]at zi;refine' ZB e5 (v:=Dd.v d) (by rw[Ð];exact O2 _ _) ?_;fail;rw[<-mw.y];refine WR m5.at_ gz (by lia) (by rw[hD];rfl) λV g6 s mv=>?_;fail;have o:=mv.off np e5;rw[mw.y];exact hN _ _ (hK (m - 1) _ _ (by lia) ⟨V,l++[d],p,r,rfl,m5.mv mv,o.1,pw,pf,o.2,(XT hr).trans s,by rw[ã,Ť];lia,r0,r6,by rw[ã,Ť];lia⟩)
 refine' eL (λc3=>?_) (λc3=>?_)
 .refine' Zc m2.iw (by decide) λq g3 q0 q1 x3 w3=>?_;have m3:=m2.take x3 w3;have ep3:=x3.get pw ep2;refine' eL (λc4=>?_) (λc4=>other (λ_ _ q=>ZP q) m3 ep3);fail;rw[<-mw.y];refine BG m3.at_ gz (by lia) λW g4 p4 l4 mv hr4 hl4 hp4 np4 cB=>?_;have m4:=m3.mv mv;have o:=mv.off np ep3;rw[mw.y];refine' Ck o.2 cB (by rw[ã,ll,À];exact Ô (by lia:_<=2000)<|by decide) ?_;refine Ze λp5 g5 hp5 x5 e5=>?_;have m5:=m4.ext x5;refine' hK (m - 1) _ _ (by lia) ⟨W,l++l4,p5,r+1,rfl,m5,(λz=>m4.at_.taken z hp5),(λz=>m4.iw.ne hp5 z.symm),m4.fresh hp5,by rw[e5,Ð],by rw[W6,hr];exact hr4,by rw[ã];lia,by lia,by lia,by rw[ã];lia⟩
 .fail;refine eK rfl ?_;exact other (λ_ _ q=>ZP q) m2 ep2
end
abbrev flat:Nat->Val->Bool
 |_,.non=>dh
 |_,.bl _=>dh
 |_,.int _=>dh
 |_,.str _=>dh
 |n+1,.tup xs=>xs.all<|flat n
 |_,_=>di
def Mr{α β:Type}{f:α->Option β}:∀{xs:List α},(∀x∈xs,∃d,f x=df d)->∃ds,xs.mapM f=df ds
 |[],_=>⟨[],rfl⟩
 |x::xs,h=>by let⟨d,hd⟩:=h x (by simp);let⟨ds,hds⟩:=Mr (xs:=xs) λy hy=>h y (by simp[hy]);exact⟨d::ds,by rw[Ľ,hd,hds];rfl⟩
def NP{h:Hs}:∀{n:Nat}{v:Val},flat n v=dh->∃d,dat h n v=df d
 |0,.non,_=>⟨_,rfl⟩
 |0,.bl _,_=>⟨_,rfl⟩
 |0,.int _,_=>⟨_,rfl⟩
 |0,.str _,_=>⟨_,rfl⟩
 |n+1,.non,_=>⟨_,rfl⟩
 |n+1,.bl _,_=>⟨_,rfl⟩
 |n+1,.int _,_=>⟨_,rfl⟩
 |n+1,.str _,_=>⟨_,rfl⟩
 |n+1,.tup xs,e=>by let⟨ds,hds⟩:=Mr (f:=dat h n) (xs:=xs) λx hx=>NP<|ù.mp e x hx;exact⟨_,by show(xs.mapM<|dat h n).map D.tup=_;rw[hds];rfl⟩
def all_map{α:Type}{f:α->Val}{n:Nat}{xs:List α}(h:∀x∈xs,flat n (f x)=dh):(xs.map f).all (flat n)=dh:=by rw[List.all_map];exact ù.mpr h
abbrev PH(C:Yc):List Val:=C.keys.map λb=>.tup [.int b,pV ((C.at_ b).life,(C.at_ b).version)]
section
variable {Y Z:Yd}{N:Nat}
def At(x:dD h Y)(gd:Y.cc.gd N)(k:∀p g,h p=dg->Ext h g->g p=df (.lst<|PH Y.cc)->Q (.ref p) g):wF P (n+2) "Yard.stamps" [.ref Y.y] h Q X:=by
 have xi:=x.ins;have xs:=x.stand;have ek:(stands Y.es).map (·.1)=Y.cc.br.map (·.1):=(ZF _).trans (Xj _).symm;have h10:=gd.ten;have kl:=Xa (C:=Y.cc);refine J5 ?_;refine' ME xs (O8 _) (by rw[ek];lia) (Ze λp1 g1 bq x1 e1=>?_);rw[ek]at e1;have x':=x.ext x1;have xi:=x'.ins;have xs:=x'.stand;refine' ⟨Ò (by rw[À];show Y.cc.keys.length<=10;lia) (by decide),?_⟩;refine ZH (λi ys g=>g=g1/\ys=(Y.cc.keys.take i).map λb=>.tup [.int b,pV ((Y.cc.at_ b).life,(Y.cc.at_ b).version)]) ⟨rfl,rfl⟩ (λi ys g _ ⟨z,_⟩=>by rw[z];exact lsE e1) ?_ ?_
 .rintro i v ys g hv ⟨rfl,rfl⟩ K hK;let⟨nm,hnm,rfl⟩:=ZK hv;let⟨e,he,en,lk,ea,ba⟩:=x'.at_<|keys_mem.mp<|è hnm;have bi:=ba.ins;walk_at "p";refine Z3 xs rfl (by rw[Z4,lk];rfl) ?_
  exists Z1 ba
  refine' hK _ _ ⟨rfl,?_⟩;rw[Zi (xs:=Y.cc.keys) hnm,Ð,<-ea];rfl
 .rintro ys g ⟨rfl,rfl⟩;rw[À,show(sortI (Y.cc.br.map (·.1))).length=Y.cc.keys.length from rfl,ó];exact Ze λp g2 hp x2 ep=>k p g2 (Xd x1 hp) (x1.trans x2) ep
end
def Ey{k:Int}{v:α}:((Zs kvs k v).lookup q).isSome=(fm (q=k)||(kvs.lookup q).isSome):=by
 rw[look_iff,Wg,look_iff (k:=k),look_iff];by_cases h:k∈kvs.map (·.1)
 .rw[fi h,ff rfl];by_cases e:q=k
  .subst e;simp[h]
  .simp[e]
 .rw[fh h,fg<|by decide];by_cases e:q=k<;>simp[e]
def YL{α:Type}{k b:Int}:∀{kvs:List (Int×α)},(Zk kvs k).lookup b=if b=k then dg else kvs.lookup b
 |[]=>by split<;>rfl
 |p::r=>by
  have ih:=YL (k:=k) (b:=b) (kvs:=r);unfold Zk at ih ⊢;rw[ú,á];by_cases e:p.1=k
  .rw[fg (by simp[e]),ih];by_cases eb:b=k
   .rw[ff eb,ff eb]
   .rw[fg eb,fg eb,show(b==p.1)=di by rw[e];simpa using eb]
  .rw[ff (by simp[e]),á,ih];by_cases eb:b=p.1
   .subst eb;simp[e]
   .have:(b==p.1)=di:=⇑eb
    rw[this]
def Xr{k b:Int}{F:Br->Br}:∀{l:List (Int×Br)},(upC k F l).lookup b=(l.lookup b).map λB=>if b=k then F B else B
 |[]=>rfl
 |p::r=>by
  have ih:=Xr (k:=k) (b:=b) (F:=F) (l:=r);unfold upC at ih ⊢;rw[Í,á,á];by_cases e:p.1=k
  .rw[ff e];dsimp only;by_cases eb:b=p.1
   .have:(b==p.1)=dh:=⇑eb
    rw[this];show df (F p.2)=df (if b=k then F p.2 else p.2);rw[ff<|eb.trans e]
   .have:(b==p.1)=di:=⇑eb
    rw[this,ih]
  .rw[fg e];by_cases eb:b=p.1
   .have:(b==p.1)=dh:=⇑eb
    rw[this];show df p.2=df (if b=k then F p.2 else p.2);rw[fg λz=>e<|eb.symm.trans z]
   .have:(b==p.1)=di:=⇑eb
    rw[this,ih]
noncomputable abbrev Cr:=Int×Int×Int
abbrev core(B:Br):Cr:=(B.number,B.life,B.count)
abbrev Yc.core(C:Yc)(b:Int):Option Cr:=(C.br.lookup b).map O.core
abbrev Yc.tied(C:Yc)(b p:Int):Bool:=((C.br.lookup b).map λB=>(B.ties.lookup p).isSome).getD di
abbrev Yc.std(C:Yc)(b:Int):Bool:=(C.br.lookup b).isSome
abbrev ZS(t:Tie)(b:Int):Bool:=fm (b=t.1)||fm (b=t.2.1)
abbrev inl(l:List Tie)(q:Int):Bool:=l.any λr=>fm (r.1=q)
abbrev inR(ts:List Tie)(q:Int):Bool:=fm (0<=q/\q<ts.length)
def A7{p f:Int}:core (tieF on p f c B)=core B:=by
 unfold tieF upB K0;split
 .split<;>rfl
 .rfl
def Xm{p f:Int}:((tieF on p f c B).ties.lookup q).isSome=if q=p then on else(B.ties.lookup q).isSome:=by
 unfold tieF upB K0;cases on with
 |true =>
  rw[ff rfl];split
  .rename_i h;split
   .rename_i e;rw[e];exact h
   .rfl
  .show((Zs B.ties p (f,c)).lookup q).isSome=_;rw[Ey];by_cases e:q=p<;>simp[e]
 |false =>rw[fg<|by decide];show((Zk B.ties p).lookup q).isSome=_;rw[YL];by_cases e:q=p<;>simp[e]
def Xn{p b:Int}:((C.set1 p).core b=C.core b)/\((C.set1 p).std b=C.std b):=by
 unfold Yc.set1 BS Yc.core Yc.std;dsimp only;rw[Xr,Xr];cases C.br.lookup b with
 |none=>exact⟨rfl,rfl⟩
 |some B =>
  refine⟨?_,rfl⟩;have two:∀{q:Prop} [Decidable q] {a f c:Int}{A:Br},core (if q then tieF (onC C p) a f c A else A)=core A:=λ{q _ a f c A}=>by
   split
   .exact A7
   .rfl
  show df (core<|if b=(C.tie p).2.1 then tieF _ _ _ _ (if b=(C.tie p).1 then tieF _ _ _ _ B else B)else(if b=(C.tie p).1 then tieF _ _ _ _ B else B))=df (core B);rw[two,two]
def A5{p b:Int}(Ţ:(C.tie p).1≠(C.tie p).2.1):(C.set1 p).tied b q=if(fm (p=q)&&(ZS (C.tie p) b&&C.std b))=dh then onC C p else C.tied b q:=by
 unfold Yc.tied Yc.std Yc.set1 BS ZS;dsimp only;rw[Xr,Xr];cases C.br.lookup b with
 |none=>simp
 |some B =>
  simp only[į,š,bV,ũ];by_cases e1:b=(C.tie p).1
  .have e2:¬ b=(C.tie p).2.1:=λz=>Ţ<|e1.symm.trans z;rw[fg e2,ff e1,Xm];by_cases e:q=p
   .subst e;simp[e1]
   .have e':¬ p=q:=λz=>e z.symm;simp[e,e']
  .by_cases e2:b=(C.tie p).2.1
   .rw[ff e2,fg e1,Xm];by_cases e:q=p
    .subst e;simp[e2]
    .have e':¬ p=q:=λz=>e z.symm;simp[e,e']
   .rw[fg e2,fg e1];simp[e1,e2]
def KS:∀(l:List Tie) (C:Yc),(∀b,(C.sets l).core b=C.core b)/\(∀b,(C.sets l).std b=C.std b)/\(C.sets l).fallen=C.fallen/\(C.sets l).lives=C.lives/\(C.sets l).road=C.road/\(C.sets l).bs=C.bs/\(C.sets l).ts=C.ts
 |[],_=>⟨λ_=>rfl,λ_=>rfl,rfl,rfl,rfl,rfl,rfl⟩
 |r::l,C=>by let⟨h1,h2,h3,h4,h5,h6,h7⟩:=KS l<|C.set1 r.1;exact⟨λb=>(h1 b).trans Xn.1,λb=>(h2 b).trans Xn.2,h3,h4,h5,h6,h7⟩
def Op{D:Yc}(h1:∀b,D.std b=C.std b)(h2:D.fallen=C.fallen)(h3:D.ts=C.ts)(q:Int):onC D q=onC C q:=by
 have e:D.tie q=C.tie q:=by unfold Yc.tie;rw[h3]
 unfold onC;rw[h2,e];have a:=h1 (C.tie q).1;have b:=h1 (C.tie q).2.1;unfold Yc.std at a b;rw[a,b]
def Ku{b q:Int}:∀{l:List Tie}{C:Yc},(∀r∈l,(C.tie r.1).1≠(C.tie r.1).2.1)->(C.sets l).tied b q=if(inl l q&&(ZS (C.tie q) b&&C.std b))=dh then onC C q else C.tied b q
 |[],C,_=>rfl
 |r::l,C,h=>by
  have ih:=Ku (b:=b) (q:=q) (l:=l) (C:=C.set1 r.1) λs hs=>h s<|ß _ hs;have e1:=A5 (C:=C) (p:=r.1) (b:=b) (q:=q)<|h r ñ;have eo:=Op (C:=C) (D:=C.set1 r.1) (λb=>Xn.2) rfl rfl q;have es:(C.set1 r.1).std b=C.std b:=Xn.2;have et:(C.set1 r.1).tie q=C.tie q:=rfl;rw[et,es,eo,e1]at ih;show((C.set1 r.1).sets l).tied b q=_;rw[ih];unfold inl;rw[Ħ];by_cases e:r.1=q
  .subst e;cases (ZS (C.tie r.1) b&&C.std b)<;>cases (l.any λs=>fm (s.1=r.1))<;>simp
  .cases (ZS (C.tie q) b&&C.std b)<;>cases (l.any λs=>fm (s.1=q))<;>simp[e]
abbrev TI(C:Yc):Prop:=∀b q,C.tied b q=(C.std b&&(inR C.ts q&&(ZS (C.tie q) b&&onC C q)))
def FE{l:List Tie}(Ţ:∀r∈l,(C.tie r.1).1≠(C.tie r.1).2.1)(hr:∀q,inl l q=dh->inR C.ts q=dh)(h0:∀b q,inl l q=di->C.tied b q=(C.std b&&(inR C.ts q&&(ZS (C.tie q) b&&onC C q))))(h1:∀b q,inl l q=dh->C.tied b q=dh->(ZS (C.tie q) b&&C.std b)=dh):TI<|C.sets l:=by
 intro b q;let⟨s1,s2,s3,s4,s5,s6,s7⟩:=KS l C;have et:(C.sets l).tie q=C.tie q:=by unfold Yc.tie;rw[s7]
 rw[Ku Ţ,s2,s7,et,Op s2 s3 s7];cases z:inl l q with
 |false=>rw[Bool.false_and,fg<|by decide];exact h0 b q z
 |true =>
  rw[hr q z];cases w:(ZS (C.tie q) b&&C.std b)with
  |true =>let⟨w1,w2⟩:=Ŏ.mp w;rw[w1,w2];rfl
  |false =>
   rw[fg<|by decide];have:C.tied b q=di:=by
    cases y:C.tied b q with
    |false=>rfl
    |true=>rw[h1 b q z y]at w;cases w
   rw[this];cases w1:ZS (C.tie q) b with
   |false=>simp
   |true=>rw[w1,ſ]at w;rw[w];rfl
def nbs_iff{b:Int}{r:Tie}:∀{l:List Tie}{k:Nat},r∈eW b k l↔∃i t,l[i]?=df t/\(b=t.1\/b=t.2.1)/\r=(((k+i:Nat):Int),far t b,t.2.2)
 |[],k=>⟨λh=>fk h (by simp[eW]),λ⟨i,t,h,_⟩=>by simp at h⟩
 |t::l,k=>by
  have later:r∈eW b (k+1) l↔∃i t',(t::l)[i+1]?=df t'/\(b=t'.1\/b=t'.2.1)/\r=(((k+(i+1):Nat):Int),far t' b,t'.2.2):=by rw[nbs_iff];simp only[a9,show ∀i,k+1+i=k+(i+1) from λi=>by lia]
  have now:(∃i t',(t::l)[i]?=df t'/\(b=t'.1\/b=t'.2.1)/\r=(((k+i:Nat):Int),far t' b,t'.2.2))↔((b=t.1\/b=t.2.1)/\r=((k:Int),far t b,t.2.2))\/r∈eW b (k+1) l:=by
   rw[later];constructor
   .rintro⟨i,t',h1,h2,h3⟩;cases i with
    |zero=>cases h1;exact .inl ⟨h2,h3⟩
    |succ i=>exact .inr ⟨i,t',h1,h2,h3⟩
   .rintro(⟨h2,h3⟩|⟨i,t',h1,h2,h3⟩)
    .exact⟨0,t,rfl,h2,h3⟩
    .exact⟨i+1,t',h1,h2,h3⟩
  rw[now];have un:eW b k (t::l)=if b=t.1\/b=t.2.1 then((k:Int),far t b,t.2.2)::eW b (k+1) l else eW b (k+1) l:=rfl;rw[un];split
  .rename_i hc;rw[Æ];constructor
   .rintro(h|h)
    .exact .inl ⟨hc,h⟩
    .exact .inr h
   .rintro(h|h)
    .exact .inl h.2
    .exact .inr h
  .rename_i hc;constructor
   .exact .inr
   .rintro(h|h)
    .exact fk h.1 hc
    .exact h
def touch_iff{t:Tie}{b:Int}:ZS t b=dh↔b=t.1\/b=t.2.1:=by unfold ZS;simp
def X4{x:Int}:inl (eW x 0 ts) q=(inR ts q&&ZS (ts[q.toNat]?.getD (0,0,0)) x):=by
 unfold inl inR;rw[Ϻ,ϧ,bAq,fj,touch_iff];constructor
 .rintro⟨r,hr,e⟩;let⟨i,t,h1,h2,rfl⟩:=nbs_iff.mp hr;have e:((0+i:Nat):Int)=q:=of_decide_eq_true e;subst e;have hi:=(Î.mp h1).1;rw[Α,ò,h1];exact⟨⟨by lia,by lia⟩,h2⟩
 .rintro⟨⟨h0,h1⟩,h2⟩;obtain⟨i,rfl⟩:∃i:Nat,q=i:=⟨q.toNat,by lia⟩
  have hi:i<ts.length:=by lia
  rw[ò,Ê hi]at h2;exact⟨(((0+i:Nat):Int),far ts[i] x,ts[i].2.2),nbs_iff.mpr ⟨i,ts[i],Ê hi,h2,rfl⟩,by simp⟩
def WL{bs:List Int}(no:dN bs ts)(h:inR ts q=dh):LOk bs<|ts[q.toNat]?.getD (0,0,0):=by
 have h:=of_decide_eq_true h;have hi:q.toNat<ts.length:=by lia
 rw[Ê hi];exact no.tie _<|ĥ hi
def HS{b:Int}(h:onC C q=dh)(t:ZS (C.tie q) b=dh):C.std b=dh:=by
 unfold onC at h;let⟨_,h⟩:=Ŏ.mp h;let⟨h1,h2⟩:=Ŏ.mp h;rcases touch_iff.mp t with e|e<;>rw[e]
 .exact h1
 .exact h2
def B3{C1:Yc}{l:List Tie}(ti:TI C)(ets:C1.ts=C.ts)(Ţ:∀r∈l,(C1.tie r.1).1≠(C1.tie r.1).2.1)(hr:∀q,inl l q=dh->inR C1.ts q=dh)(hon:∀q,inl l q=di->inR C.ts q=dh->onC C1 q=onC C q)(ht:∀b q,C1.tied b q=(C1.std b&&C.tied b q)):TI<|C1.sets l:=by
 have et:∀q,C1.tie q=C.tie q:=λq=>by unfold Yc.tie;rw[ets]
 refine FE Ţ hr (λb q z=>?_) λb q z y=>?_
 .rw[ht,ti,ets,et];cases w:inR C.ts q with
  |false=>simp
  |true =>
   rw[hon q z w];cases v:onC C q with
   |false=>simp
   |true =>
    cases u:ZS (C.tie q) b with
    |false=>simp
    |true=>rw[HS v u];simp
 .rw[ht,ti,bAq,bAq,bAq,bAq]at y;rw[et,y.2.2.2.1,y.1];rfl
def DG(b q:Int):C.tied b q=(C.std b&&C.tied b q):=by unfold Yc.tied Yc.std;cases C.br.lookup b<;>rfl
def Ac{l:List (Int×α)}{x b:Int}{v:α}(h:l.lookup x=dg):(l++[(x,v)]).lookup b=if b=x then df v else l.lookup b:=by
 rw[ϑ];by_cases e:b=x
 .subst e;rw[h,ff rfl];simp
 .have:(b==x)=di:=⇑e
  rw[fg e,á,this];simp
def AL{k:Int}{v:α}(n:q≠k):(Zs kvs k v).lookup q=kvs.lookup q:=by
 unfold Zs;split
 .rename_i h;clear h;induction kvs with
  |nil=>rfl
  |cons p r ih =>
   rw[Í,á,á,ih];by_cases e:p.1=k
   .have e1:(q==k)=di:=⇑n
    have e2:(q==p.1)=di:=by rw[e];exact e1
    simp only[e,if_true,e1]
   .simp only[e,if_false]
 .have:(q==k)=di:=⇑n
  rw[ϑ,á,this];simp
def B9{x:Int}(no:dN C.bs C.ts):∀r∈eW x 0 C.ts,(C.tie r.1).1≠(C.tie r.1).2.1:=λr hr=>by have h:=WL (q:=r.1) no<|fi<|OK r hr;have:=h.2.2.1;unfold Yc.tie;lia
def B1{x:Int}(no:dN C.bs C.ts)(ti:TI C):TI<|Yc.sets {C with br:=Zk C.br x}<|eW x 0 C.ts:=by
 have st:∀b,(Zk C.br x).lookup b=if b=x then dg else C.br.lookup b:=λb=>YL;refine B3 ti rfl (B9 (C:={C with br:=Zk C.br x}) no) (λq z=>?_) (λq z w=>?_) λb q=>?_
 .rw[X4,bAq]at z;exact z.1
 .rw[X4,w,ſ]at z;change ZS (C.tie q) x=di at z;have n1:¬ (C.tie q).1=x:=λe=>by rw[touch_iff.mpr<|.inl e.symm]at z;cases z
  have n2:¬ (C.tie q).2.1=x:=λe=>by rw[touch_iff.mpr<|.inr e.symm]at z;cases z
  unfold onC;show(_&&(((Zk C.br x).lookup (C.tie q).1).isSome&&((Zk C.br x).lookup (C.tie q).2.1).isSome))=_;rw[st,st,fg n1,fg n2]
 .unfold Yc.tied Yc.std;dsimp only;rw[st];by_cases e:b=x
  .rw[ff e];rfl
  .rw[fg e];cases C.br.lookup b<;>rfl
def CU{x l:Int}(no:dN C.bs C.ts)(ti:TI C)(hx:C.br.lookup x=dg){lv:List (Int×Int)}:TI<|Yc.sets {C with lives:=lv,br:=C.br++[(x,ZG x l C.most [])]}<|eW x 0 C.ts:=by
 have st:∀b,(C.br++[(x,ZG x l C.most [])]).lookup b=if b=x then df (ZG x l C.most [])else C.br.lookup b:=λb=>Ac hx;refine B3 ti rfl (B9 (C:={C with lives:=lv,br:=C.br++[(x,ZG x l C.most [])]}) no) (λq z=>?_) (λq z w=>?_) λb q=>?_
 .rw[X4,bAq]at z;exact z.1
 .rw[X4,w,ſ]at z;change ZS (C.tie q) x=di at z;have n1:¬ (C.tie q).1=x:=λe=>by rw[touch_iff.mpr<|.inl e.symm]at z;cases z
  have n2:¬ (C.tie q).2.1=x:=λe=>by rw[touch_iff.mpr<|.inr e.symm]at z;cases z
  unfold onC;show(_&&(((C.br++[(x,ZG x l C.most [])]).lookup (C.tie q).1).isSome&&((C.br++[(x,ZG x l C.most [])]).lookup (C.tie q).2.1).isSome))=_;rw[st,st,fg n1,fg n2]
 .unfold Yc.tied Yc.std;dsimp only;rw[st];by_cases e:b=x
  .rw[ff e,e,hx];rfl
  .rw[fg e];cases C.br.lookup b<;>rfl
def D5{p:Int}{fl:List (Int×Bool)}(no:dN C.bs C.ts)(ti:TI C)(hp:inR C.ts p=dh)(hf:∀q,q≠p->(fl.lookup q).isSome=(C.fallen.lookup q).isSome):TI<|Yc.set1 {C with fallen:=fl} p:=by
 have il:∀q,inl [(p,0,0)] q=fm (p=q):=λq=>by unfold inl;simp
 refine B3 (C1:={C with fallen:=fl}) (l:=[(p,0,0)]) ti rfl (λr hr=>?_) (λq z=>?_) (λq z w=>?_) λb q=>DG b q
 .rw[Ñ.mp hr];have:=(WL no hp).2.2.1;show(C.tie p).1≠(C.tie p).2.1;unfold Yc.tie;lia
 .rw[il]at z;rw[<-of_decide_eq_true z];exact hp
 .rw[il]at z;unfold onC;show(!(fl.lookup q).isSome&&_)=_;rw[hf q λe=>of_decide_eq_false z e.symm];rfl
def Ni{α:Type}{f:Int->α}{b:Int}:∀{bs:List Int},(bs.map λb=>(b,f b)).lookup b=if b∈bs then df (f b)else dg
 |[]=>rfl
 |x::bs=>by
  rw[Í,á,Ni (bs:=bs)];by_cases e:b=x
  .subst e;simp
  .have:(b==x)=di:=⇑e
   rw[this];simp[e]
def O7{k:Int}{l:List (Int×Br)}(hF:∀B,(F B).ties=B.ties)(b:Int):((upC k F l).lookup b).map Br.ties=(l.lookup b).map Br.ties:=by
 rw[Xr,ab];cases l.lookup b with
 |none=>rfl
 |some B =>
  show df (if b=k then F B else B).ties=df B.ties;split
  .rw[hF]
  .rfl
def JZ{p:Prop}[Decidable p]{a b:α}(h:(if p then df a else dg)=df b):p/\a=b:=by
 split at h
 .rename_i z;exact⟨z,ï h⟩
 .cases h
def Gu{bs:List Int}(no:dN bs ts):TI<|WH bs ts most:=by
 have lk:∀b,(WH bs ts most).br.lookup b=if b∈bs then df (ZG b 0 most<|eW b 0 ts)else dg:=λb=>Ni;have st:∀b,(WH bs ts most).std b=fm (b∈bs):=λb=>by unfold Yc.std;rw[lk];by_cases h:b∈bs<;>simp[h]
 intro b q;have on:inR ts q=dh->onC (WH bs ts most) q=dh:=λh=>by let⟨h1,h2,_⟩:=WL no h;have a:=st ((WH bs ts most).tie q).1;have c:=st ((WH bs ts most).tie q).2.1;unfold Yc.std at a c;unfold onC;rw[a,c,fi (show((WH bs ts most).tie q).1∈bs from h1),fi<|show((WH bs ts most).tie q).2.1∈bs from h2];rfl
 rw[st];unfold Yc.tied;rw[lk];by_cases h:b∈bs
 .rw[ff h,fi h];show((YQ<|eW b 0 ts).lookup q).isSome=(dh&&(inR ts q&&(ZS (ts[q.toNat]?.getD (0,0,0)) b&&_)))
  have e:((YQ<|eW b 0 ts).lookup q).isSome=inl (eW b 0 ts) q:=by rw[look_iff,Wl,Ϻ];unfold inl;rw[ϧ,fj,Þ];exact⟨λ⟨r,h1,h2⟩=>⟨r,h1,⇑h2⟩,λ⟨r,h1,h2⟩=>⟨r,h1,⇑h2⟩⟩
  rw[e,X4,ſ];cases z:inR ts q with
  |false=>rfl
  |true=>rw[on z,ũ]
 .rw[fg h,fh h];rfl
def MD{D:Yc}(t:TI C)(h2:D.ts=C.ts)(h3:D.fallen=C.fallen)(h4:∀b,(D.br.lookup b).map Br.ties=(C.br.lookup b).map Br.ties):TI D:=by
 have es:∀b,D.std b=C.std b:=λb=>by
  have:=congrArg Option.isSome<|h4 b
  rwa [Ř,Ř]at this
 intro b q;have et:D.tied b q=C.tied b q:=by have:=congrArg (λo:Option (List<|Int×(Int×Int))=>(o.map λl=>(l.lookup q).isSome).getD di)<|h4 b;rw[ab,ab]at this;exact this
 rw[et,es,h2,Op es h3 h2,show D.tie q=C.tie q by unfold Yc.tie;rw[h2]];exact t b q
def Gq{D:Yc}{d:Dd}(g:C.gd N)(t:TI C)(s:step C d=df D):TI D:=by
 cases d with
 |tick b =>let⟨B,hB,rfl⟩:=Ë.mp s;exact MD t rfl rfl<|O7 λA=>(ZW A.grown<|Ye A.grown).2.1
 |come p =>
  dsimp only[step]at s;split at s
  .cases s
  .obtain⟨r,hr,rfl⟩:=Ë.mp s;exact MD t rfl rfl (O7 (F:=(ZQ · r.2.2.1 r.2.2.2)) λA=>by unfold ZQ;split<;>(try split)<;>rfl)
 |lost p =>
  dsimp only[step]at s;split at s
  .cases s
  .obtain⟨r,hr,rfl⟩:=Ë.mp s;exact MD t rfl rfl λ_=>rfl
 |fallB b =>let⟨_,rfl⟩:=JZ s;exact B1 g.no t
 |fallT p =>let⟨hp,rfl⟩:=JZ s;exact D5 (fl:=Zs C.fallen p dh) g.no t (fi hp.1) λq hq=>by rw[AL hq]
 |backB b =>
  dsimp only[step]at s;split at s
  .cases s
  .rename_i hz;let⟨l,hl,rfl⟩:=Ë.mp s;exact CU g.no t<|ŧ.mp hz
 |backT p =>let⟨hp,rfl⟩:=JZ s;let⟨v,hv⟩:=î.mp hp;exact D5 (fl:=Zk C.fallen p) g.no t (fi<|g.fr _<|Zx hv) λq hq=>by rw[YL,fg hq]
abbrev upA(C:Yc)(b:Int)(i:Nat):Bool:=if fm (b∈[(C.tie i).1,(C.tie i).2.1])=dh then !fm ((i:Int)∈C.cuts)else di
abbrev upQ(C:Yc)(b:Int)(i:Nat):Bool:=!fm ((C.tie i).1+(C.tie i).2.1 - b∈C.downs)
abbrev upN(C:Yc)(b:Int):List Nat:=((List.range C.ts.length).filter<|upA C b).filter<|upQ C b
def HA{b:Int}(g:C.gd N)(t:TI C)(hB:C.br.lookup b=df B)(i:Nat):i∈upN C b↔(B.ties.lookup (i:Int)).isSome=dh:=by
 have h1:=t b i;have e1:C.tied b i=(B.ties.lookup (i:Int)).isSome:=by unfold Yc.tied;rw[hB];rfl
 have e2:C.std b=dh:=by unfold Yc.std;rw[hB];rfl
 rw[e1,e2,ſ]at h1;rw[h1];unfold upN;rw[ă,ă,ę];have hr:inR C.ts i=dh↔i<C.ts.length:=by unfold inR;rw[fj];lia
 rw[bAq,bAq,hr];by_cases hi:i<C.ts.length
 .obtain⟨m1,m2,lt,_⟩:=WL g.no (hr.mpr hi)
  replace m1:(C.tie i).1∈C.bs:=m1
  replace m2:(C.tie i).2.1∈C.bs:=m2
  replace lt:(C.tie i).1<(C.tie i).2.1:=lt
  have hc:=cut_mem (C:=C) (p:=i);have d1:=downs_mem (C:=C) (b:=(C.tie i).1);have d2:=downs_mem (C:=C) (b:=(C.tie i).2.1);have sb:(C.br.lookup b).isSome=dh:=by rw[hB];rfl
  unfold upA upQ ZS onC;by_cases c1:b=(C.tie i).1
  .rw[show(C.tie i).1+(C.tie i).2.1 - b=(C.tie i).2.1 by lia];simp only[<-c1,sb];cases z1:(C.fallen.lookup (i:Int)).isSome<;>cases z2:(C.br.lookup (C.tie i).2.1).isSome<;>simp_all
  .by_cases c2:b=(C.tie i).2.1
   .rw[show(C.tie i).1+(C.tie i).2.1 - b=(C.tie i).1 by lia];simp only[<-c2,sb];cases z1:(C.fallen.lookup (i:Int)).isSome<;>cases z2:(C.br.lookup (C.tie i).1).isSome<;>simp_all
   .simp[c1,c2]
 .simp[hi]
abbrev NM(B:Br)(p:Int):String:=if Xz B p = "shut" then(match B.held.lookup p with
  |none=>"no letter"
  | some q=>if W9 B.label.up p then(if q.1.agrees=df (B.life,B.version)then "elder" else "not agreed")else "not rested on")else Xz B p
abbrev NW(B:Br)(p:Int):String:=match B.held.lookup p with
 |none=>"no letter"
 |some q=>if W9 B.label.up p then(if q.1.agrees=df (B.life,B.version)then(if B.label.up.map (·.2)=df q.1.st then "child" else "elder")else "not agreed")else if q.1.rests=df (B.life,B.version)then "parent" else "not rested on"
abbrev shw(s:String):String:=if("child" == s||("parent" == s||("down" == s||di)))=dh then s else "shut"
def Nt{p:Int}(h:(B.ties.lookup p).isSome=dh):NM B p=NW B p/\Xz B p=shw (NW B p):=by
 unfold NM NW Xz Mn Wv;rw[h];cases B.held.lookup p with
 |none =>cases W9 B.label.up p<;>exact⟨rfl,rfl⟩
 |some q =>
  cases W9 B.label.up p with
  |false =>
   dsimp only;by_cases c:q.1.rests=df (B.life,B.version)
   .simp only[c,decide_true];exact⟨rfl,rfl⟩
   .simp only[c,decide_false];exact⟨rfl,rfl⟩
  |true =>
   dsimp only;by_cases c:q.1.agrees=df (B.life,B.version)
   .by_cases e:B.label.up.map (·.2)=df q.1.st
    .simp only[c,e,decide_true,if_true];exact⟨rfl,rfl⟩
    .simp only[c,e,decide_false,if_true,if_false];exact⟨rfl,rfl⟩
   .simp only[c,if_false];exact⟨rfl,rfl⟩
def M0{p:Int}(h:¬ (B.ties.lookup p).isSome=dh):NM B p = "down"/\Xz B p=shw "down":=by have e:Xz B p = "down":=fg h;unfold NM;rw[e];exact⟨rfl,rfl⟩
def Ir(h:Hs)(p:Int)(u:Option<|Int×Pi):eqV h (upV u) (.int p)=df (W9 u p):=by
 cases u with
 |none=>rfl
 |some q =>show df (D.eqv (.int q.1)<|.int p)=_;rw[NJ];congr 1;exact decide_eq_decide.mpr eq_comm
def KN(ix:List Nat)(ns:List Int):pickL ix (ns.map Val.int)=(pickL ix ns).map .int:=by unfold pickL;rw[List.map_filterMap];exact congrArg (λf=>List.filterMap f ix) (funext λi=>Ø)
section
variable {p:Int}
def Oo(x:dC h b t d B)(k:Q (.str<|NM B p) h):wF P (n+4) "why_end" [.ref b,.int p] h Q X:=by
 have hi:=x.ins;refine AU ?_
 exists Ol x
 unfold NM at k;refine' Mi (λc=>?_) (λc=>?_)
 .rw[fg c]at k;refine' k
 rw[ff c]at k
 exists Xu x
 cases hh:B.held.lookup p with
 |none =>rw[hh]at k;walk_at "p";exact k
 |some q =>
  rw[hh]at k;unfold hdO hdV;walk_at "p";refine Jo x ?_
  exists WD (DS h p B.label.up)
  fail;cases hu:W9 B.label.up p with
  |false =>rw[hu]at k;walk_at "p";exact k
  |true =>
   rw[hu]at k;walk_at "p";refine Z1 x ?_
   exists JC (An h q.1.agrees (B.life,B.version))
   refine' eL (λc=>?_) (λc=>?_)
   .dsimp only at k;rw[ff rfl,ff c]at k;exact k
   .dsimp only at k;rw[ff rfl,fg c]at k;exact k
def UT(x:dC h b t d B)(k:∀g,Ext h g->Q (.str<|NW B p) g):wF P (n+2) "_law_told" [.ref b,.int p] h Q X:=by
 have hi:=x.ins;refine OY ?_
 exists Xu x
 unfold NW at k;cases hh:B.held.lookup p with
 |none =>rw[hh]at k;walk_at "p";exact k h .refl
 |some q =>
  rw[hh]at k;unfold hdO hdV;walk_at "p";refine Z1 x ?_
  exists Jo x
  exists WD (Ir h p B.label.up)
  fail;dsimp only at k;cases hu:W9 B.label.up p with
  |false =>
   rw[hu]at k;walk_at "p";refine Ze λa g ha x1 e1=>?_
   exists JC (An g q.1.rests (B.life,B.version))
   rw[fg<|by decide]at k;by_cases c:q.1.rests=df (B.life,B.version)
   .rw[ff c]at k;rw[fi c];refine' k g x1
   .rw[fg c]at k;rw[fh c];refine' k g x1
  |true =>
   rw[hu,ff rfl]at k;walk_at "p";refine WD (An h q.1.agrees (B.life,B.version)) ?_;refine' Mi (λc=>?_) (λc=>?_)
   .rw[fg c]at k;refine' k h .refl
   rw[ff c]at k;refine' Ze λa g ha x1 e1=>?_;fail;obtain⟨u,s,eu⟩:∃u s,B.label.up=df (u,s):=by
    cases z:B.label.up with
    |none=>rw[z]at hu;cases hu
    |some z=>exact⟨_,_,rfl⟩
   have es:rsV B.label.up=pV s:=by rw[eu];rfl
   refine JC (c:=fm (df q.1.st=df s)) (by rw[es];exact An g (df q.1.st) s) ?_;rw[eu]at k;by_cases c2:df q.1.st=df s
   .rw[ff (show Option.map (·.2) (df (u,s))=df q.1.st from c2.symm)]at k;rw[fi c2];refine' k g x1
   .rw[fg (λz:Option.map (·.2) (df (u,s))=df q.1.st=>c2 z.symm)]at k;rw[fh c2];refine' k g x1
def UP{s:String}(x:dC h b t d B)(e1:NM B p=s)(e2:Xz B p=shw s)(k:Q (.bl dh) h):wF P (n+5) "_law_is_so" [.ref b,.int p,.str s] h Q X:=by
 have hi:=x.ins;refine M6 ?_
 exists Oo x
 rw[e1];refine' du (show dL h .notin (.str s) (.tup [.str "child",.str "parent",.str "down"])=df (!("child" == s||("parent" == s||("down" == s||di)))) from rfl) ?_;unfold shw at e2;refine' eM (λc=>?_) (λc=>?_)
 .rw[fg<|by rw[Ĝ]at c;rw[c];decide]at e2;walk_at "p";refine eF (fi rfl) ?_
  exists Ol x
  rw[e2];refine' k
 .rw[ff<|by rw[Bool.not_eq_false']at c;exact c]at e2;walk_at "p";refine eF (fi rfl) ?_
  exists Ol x
  rw[e2];fail;rw[fi rfl];exact k
end
def PN{a b c:Val}:cut [a,b,c] dg (df 2)=[a,b]:=rfl
section
variable {Y:Yd}{N:Nat}
def Km{b:Int}(x:dD h Y)(hs:(Y.cc.br.lookup b).isSome=dh)(k:∀a t d,dC h a t d (Y.cc.at_ b)->Q (.ref a) h):wF P (n+1) "Yard.bridge" [.ref Y.y,.int b] h Q X:=by
 have xi:=x.ins;have xs:=x.stand;refine Kh ?_
 exists CS xs rfl
 let⟨e,he,en,lk,ea,ba⟩:=x.at_ hs;rw[Z4,lk];exact k e.b e.t e.d<|ea▸ba
def Eb{b:Int}(x:dD h Y)(gd:Y.cc.gd N)(k:∀p g,h p=dg->Ext h g->g p=df (.lst ((upN Y.cc b).map λi:Nat=>.int i))->Q (.ref p) g):wF P (n+2) "_law_up" [.ref Y.y,.int b] h Q X:=by
 have t16:Y.ts.length<=16:=gd.no.sixteen;have xi:=x.ins;have tg:∀{i:Nat},i<Y.ts.length->atI (Y.ts.map trV) (i:Int)=df (trV<|Y.cc.tie i):=λ{i} hi=>Ua (ϗ i) (by lia);refine BB ?_
 exists MK x
 unfold Xg;refine' M8 x gd λg1 x1=>?_;fail;rw[À,GI];refine⟨⟨by lia,by lia⟩,Ò (by rw[À,Ā];exact t16) (by decide),OB (upA Y.cc b) (λi:Nat=>.int i) trivial (λi hi K k1 k2=>?_)<|Ze λp2 g2 cM x2 e2=>?_⟩
 .have hi:=ę.mp hi
  exists dy (tg hi)
  unfold trV
  exists Uk
  rw[PN];refine Ms (ns:=[(Y.cc.tie i).1,(Y.cc.tie i).2.1]) ?_;unfold upA at k1 k2;refine' eM (λc=>?_) (λc=>?_)
  .rw[ff c]at k1 k2
   exists N7 (ns:=Y.cc.cuts)
   refine' eM (λc=>?_) k2;refine' k1 c
  .rw[c,fg<|by decide]at k2;refine eK rfl ?_;exact k2 rfl
 fail;have l2:((List.range Y.cc.ts.length).filter<|upA Y.cc b).length<=16:=Ô (Ģ _ _) (by rw[Ā];exact t16);refine⟨Ò (by rw[À];exact l2) (by decide),OB (upQ Y.cc b) (λi:Nat=>.int i) (lsE e2) (λi hi K k1 k2=>?_)<|Ze λp3 g3 hp3 x3 e3=>k p3 g3 (Xd (x1.trans x2) hp3) ((x1.trans x2).trans x3) e3⟩;have hi:=ę.mp (ă.mp hi).1
 exists dy (tg hi)
 unfold trV
 exists Uk
 rw[PN]
 exists IE
 exists N7 (ns:=Y.cc.downs)
 refine' eM (λc=>?_) k2;refine' k1 c
def Nf(x:dD h Y)(gd:Y.cc.gd N)(ti:TI Y.cc)(k:∀g,Ext h g->Q (.bl dh) g):wF P (n+6) "_law_right" [.ref Y.y] h Q X:=by
 have t16:Y.ts.length<=16:=gd.no.sixteen;have xi:=x.ins;refine Nm ?_
 exists MK x
 unfold Xg;refine' Yp x gd λp1 g1 bq x1 e1=>?_;refine' Zr (λi en g=>Sm5 λv2 v3 v4 v5 v6=>Cj2 (en=[df<|.ref Y.y,df<|.tup<|Y.ts.map trV,v2,v3,v4,v5,v6])<|Ext g1 g) ⟨_,_,_,_,_,rfl,.refl⟩ (λ_ _ _ _ ⟨_,_,_,_,_,_,x⟩=>lsE<|x.get e1) ?_ ?_
 .rintro i v en g hv ⟨v2,v3,v4,v5,v6,rfl,xg⟩ K hK;let⟨b,hb,rfl⟩:=ZK hv;have hs:=keys_mem.mp<|è hb;let⟨B,hB⟩:=î.mp hs;have ea:Y.cc.at_ b=B:=by unfold Yc.at_;rw[hB];rfl
  have y:=x.ext<|x1.trans xg;have yi:=y.ins;refine' Km y hs λa t d ba=>?_;rw[ea]at ba;refine' Eb y gd λp5 g5 hp5 x5 e5=>?_;rw[show(upN Y.cc b).map (λi:Nat=>Val.int i)=((upN Y.cc b).map λi:Nat=>(i:Int)).map .int by rw[ô];rfl]at e5;have ba:=ba.ext x5;fail;rw[À];refine⟨⟨by lia,by lia⟩,?_⟩;refine Zr (λj en g=>Sm1 λv6=>Cj2 (en=[df<|.ref Y.y,df<|.tup<|Y.ts.map trV,df<|.int b,df (Y.cc.at_ b).label.v,df<|.ref a,df<|.ref p5,v6])<|Ext g5 g) ⟨_,rfl,.refl⟩ (λ_ _ _ _ _=>trivial) ?_ ?_
  .rintro j v en g hv ⟨v6,rfl,xj⟩ K2 hK2;let⟨rfl,hj⟩:=YO hv;have ba:=ba.ext xj;have e5:=xj.get e5;have hm:((j:Int)∈(upN Y.cc b).map λi:Nat=>(i:Int))↔(B.ties.lookup (j:Int)).isSome=dh:=by
    rw[<-HA gd ti hB,Þ];exact⟨λ⟨i,h1,h2⟩=>(show i=j by lia)▸h1,λz=>⟨j,z,rfl⟩⟩
   exists UG e5
   refine' eL (λc=>?_) (λc=>?_)
   .obtain⟨w1,w2⟩:=Nt<|hm.mp c;refine' UT ba λg6 x6=>?_
    exists UP (ba.ext x6) w1 w2
    walk_at "p";exact hK2 _ _ ⟨_,rfl,xj.trans x6⟩
   .obtain⟨w1,_⟩:=M0 λz=>c (hm.mpr z)
    exists Oo ba
    rw[w1];walk_at "p";exact hK2 _ _ ⟨_,rfl,xj⟩
  rintro en g ⟨v6,rfl,xj⟩;refine' hK _ _ ⟨_,_,_,_,_,rfl,xg.trans<|x5.trans xj⟩
 rintro en g ⟨v2,v3,v4,v5,v6,rfl,xg⟩;refine' k _ (x1.trans xg)
end
abbrev hlL(C:Yc)(b:Int):List Val:=(upN C b).map λi:Nat=>hdO<|(C.at_ b).held.lookup (i:Int)
abbrev HL(g:Hs)(C:Yc):List Ad->List Int->Prop
 |[],ks=>ks=[]
 |a::r,ks=>∃b l,ks=b::l/\g a=df (.lst<|hlL C b)/\HL g C r l
def HL.ext{g f:Hs}{C:Yc}(x:Ext g f):∀{rs:List Ad}{ks:List Int},HL g C rs ks->HL f C rs ks
 |[],_,e=>e
 |_::_,_,⟨b,l,e,h1,h2⟩=>⟨b,l,e,x.get h1,HL.ext x h2⟩
def HL.extb{g f:Hs}{C:Yc}{w:Ad}(x:ExtB w g f):∀{rs:List Ad}{ks:List Int},w∉rs->HL g C rs ks->HL f C rs ks
 |[],_,_,e=>e
 |_::_,_,n,⟨b,l,e,h1,h2⟩=>⟨b,l,e,x.get (λz=>n<|by rw[z];exact ñ) h1,HL.extb x (λz=>n<|ß _ z) h2⟩
def HL.snoc{b:Int}(ha:g a=df (.lst<|hlL C b)):∀{rs:List Ad}{ks:List Int},HL g C rs ks->HL g C (rs++[a]) (ks++[b])
 |[],_,e=>by rw[show _=[] from e];exact⟨b,[],rfl,ha,rfl⟩
 |_::_,_,⟨c,l,e,h1,h2⟩=>⟨c,l++[b],by rw[e];rfl,h1,h2.snoc ha⟩
def Gn(o:Option<|L×Int):flat 9 (hdO o)=dh:=by
 cases o with
 |none=>rfl
 |some q =>let⟨⟨n,s,r,d,e,x,y⟩,a⟩:=q;cases x<;>cases y<;>rfl
abbrev SD(g:Hs)(n:Nat)(v u:Val):Prop:=∃d,dat g n v=df d/\dat g n u=df d
def Mg{xs:List Val}(ea:g a=df (.lst xs))(eb:g b=df (.lst xs))(e:xs.all (flat n)=dh):SD g (n+1) (.ref a)<|.ref b:=by
 let⟨ds,hds⟩:=Mr (f:=dat g n) (xs:=xs) λx hx=>NP<|ù.mp e x hx;have h1:∀{c:Ad},g c=df (.lst xs)->dat g (n+1) (.ref c)=df (.lst ds):=λ{c} ec=>by show(dF<|g c).bind (λxs=>(xs.mapM<|dat g n).map D.lst)=_;rw[ec,Z9,í,hds];rfl
 exact⟨_,h1 ea,h1 eb⟩
def GF{g:Hs}{C:Yc}:∀{rs ss:List Ad}{ks:List Int},HL g C rs ks->HL g C ss ks->∃ds,(rs.map Val.ref).mapM (dat g 10)=df ds/\(ss.map Val.ref).mapM (dat g 10)=df ds
 |[],[],_,_,_=>⟨[],rfl,rfl⟩
 |[],_::_,_,e,⟨_,_,z,_⟩=>by rw[show _=[] from e]at z;cases z
 |_::_,[],_,⟨_,_,z,_⟩,e=>by rw[show _=[] from e]at z;cases z
 |a::rs,c::ss,_,⟨b,l,e,h1,h2⟩,⟨b',l',e',h1',h2'⟩=>by rw[e]at e';cases e';let⟨d,d1,d2⟩:=Mg (n:=9) h1 h1'<|all_map λi _=>Gn _;let⟨ds,f1,f2⟩:=GF h2 h2';exact⟨d::ds,by rw[Í,Ľ,d1,f1];rfl,by rw[Í,Ľ,d2,f2];rfl⟩
structure Lk(g:Hs)(C:Yc)(v:Val):Prop where
 at_:∃a1 a2 a3 a4 rs,v=.tup [.ref a1,.ref a2,.ref a3,.ref a4]/\g a1=df (.lst<|Kf C)/\g a2=df (.lst<|PH C)/\g a3=df (.lst<|C.road.map rdV)/\g a4=df (.lst<|rs.map .ref)/\HL g C rs C.keys
def Lk.ext{f:Hs}{v:Val}(l:Lk g C v)(x:Ext g f):Lk f C v:=by let⟨a1,a2,a3,a4,rs,e,h1,h2,h3,h4,h5⟩:=l.at_;exact⟨a1,a2,a3,a4,rs,e,x.get h1,x.get h2,x.get h3,x.get h4,h5.ext x⟩
def Lk.eq{v:Val}(l:Lk g C v)(m:Lk g C u):eqV g v u=df dh:=by
 let⟨a1,a2,a3,a4,rs,rfl,h1,h2,h3,h4,h5⟩:=l.at_;let⟨b1,b2,b3,b4,ss,rfl,i1,i2,i3,i4,i5⟩:=m.at_;let⟨d1,e1,f1⟩:=Mg (n:=10) h1 i1 (all_map λb _=>by rcases (C.at_ b).label with⟨r,c,_|_⟩<;>rfl);let⟨d2,e2,f2⟩:=Mg (n:=10) h2 i2<|all_map λb _=>rfl;let⟨d3,e3,f3⟩:=Mg (n:=10) h3 i3 (all_map λr _=>by let⟨a,b,c,⟨n,s,r,d,e,x,y⟩⟩:=r;cases x<;>cases y<;>rfl);let⟨ds,e4,f4⟩:=GF h5 i5;have j1:dat g 11 (.ref a4)=df (.lst ds):=by show(dF<|g a4).bind (λxs=>(xs.mapM<|dat g 10).map D.lst)=_;rw[h4,Z9,í,e4];rfl
 have j2:dat g 11 (.ref b4)=df (.lst ds):=by show(dF<|g b4).bind (λxs=>(xs.mapM<|dat g 10).map D.lst)=_;rw[i4,Z9,í,f4];rfl
 have k1:dat g deep (.tup [.ref a1,.ref a2,.ref a3,.ref a4])=df (.tup [d1,d2,d3,.lst ds]):=by show([Val.ref a1,.ref a2,.ref a3,.ref a4].mapM<|dat g 11).map D.tup=_;simp only[Ľ,List.mapM_nil,e1,e2,e3,j1];rfl
 have k2:dat g deep (.tup [.ref b1,.ref b2,.ref b3,.ref b4])=df (.tup [d1,d2,d3,.lst ds]):=by show([Val.ref b1,.ref b2,.ref b3,.ref b4].mapM<|dat g 11).map D.tup=_;simp only[Ľ,List.mapM_nil,f1,f2,f3,j2];rfl
 unfold eqV;rw[k1,k2];show df (D.eqv _ _)=_;rw[D.eqv_refl]
section
variable {Y:Yd}{N:Nat}
def U4(x:dD h Y)(gd:Y.cc.gd N)(k:∀v g,Ext h g->Lk g Y.cc v->Q v g):wF P (n+6) "_law_look" [.ref Y.y] h Q X:=by
 have xi:=x.ins;have kl:=Xa (C:=Y.cc);have k10:=gd.ten;have t16:Y.ts.length<=16:=gd.no.sixteen;refine Oc ?_;refine' Ze λp1 g1 bq x1 e1=>?_;have y1:=x.ext x1;have xi:=y1.ins;refine' Yp y1 gd λp2 g2 cM x2 e2=>?_;have n12:p1≠p2:=Za e1 cM;have e1:=x2.get e1;refine' Zr (λi en g=>Sm2 λv2 v3=>∃rs:List Ad,en=[df<|.ref Y.y,df<|.ref p1,v2,v3]/\Ext h g/\g p2=df (.lst<|Kf Y.cc)/\g p1=df (.lst<|rs.map .ref)/\p1∉rs/\rs.length=i/\HL g Y.cc rs (Y.cc.keys.take i)) ⟨_,_,[],rfl,x1.trans x2,e2,e1,Û,rfl,rfl⟩ (λ_ _ _ _ ⟨_,_,_,_,_,e,_⟩=>lsE e) ?_ ?_
 .rintro i v en g hv ⟨v2,v3,rs,rfl,xg,f2,f1,nr,rl,hl⟩ K hK;let⟨b,hb,rfl⟩:=ZK hv;have hi:=(Î.mp hb).1;have hs:=keys_mem.mp<|è hb;have y:=x.ext xg;have yi:=y.ins;refine' Eb y gd λp5 g5 hp5 x5 e5=>?_;have y5:=y.ext x5;have yi:=y5.ins;fail;have ul:(upN Y.cc b).length<=16:=Ô (Ģ _ _) (Ô (Ģ _ _)<|by rw[Ā];exact t16);refine⟨Ò (by rw[À];exact ul) (by decide),N9 (λi:Nat=>hdO<|(Y.cc.at_ b).held.lookup (i:Int)) (lsE e5) (λi hi K k1=>?_)<|Ze λp6 g6 hp6 x6 e6=>?_⟩
  .walk_at "p";refine Km y5 hs λa t d ba=>?_;have bi:=ba.ins
   exists Xu ba
   exact k1
  have x56:=x5.trans x6;have f1':=x5.get f1;have n6:p1≠p6:=Za f1' hp6;have f1:=x56.get f1;refine' Zp f1 (by rw[À,rl];exact å hi<|Ô (by lia:_<=10)<|by decide) ?_;refine' hK _ _ ⟨_,_,rs++[p6],rfl,Ud (xg.trans x56) bq,(dj<|Ne.symm n12).trans<|x56.get f2,by rw[Ð];exact dk,λz=>(à.mp z).elim nr λz=>n6<|Ñ.mp z,by rw[ã,rl];rfl,?_⟩;rw[Zi hb];exact HL.snoc ((dj<|Ne.symm n6).trans e6)<|HL.extb ExtB.upd nr<|hl.ext x56
 rintro en g ⟨v2,v3,rs,rfl,xg,f2,f1,nr,rl,hl⟩;rw[show(Kf Y.cc).length=Y.cc.keys.length from À _,ó]at hl;have y:=x.ext xg;have yi:=y.ins;refine' Yp y gd λq1 h1 hq1 z1 i1=>?_;refine' Ze λa1 h2 ha1 z2 i2=>?_;have y:=(y.ext z1).ext z2;have yi:=y.ins;refine' At y gd λq3 h3 hq3 z3 i3=>?_;refine' Ze λa2 h4 ha2 z4 i4=>?_;have y:=(y.ext z3).ext z4;have yi:=y.ins;refine' K4 y λq5 h5 hq5 z5 i5=>?_;refine' Ze λa3 h6 ha3 z6 i6=>?_;fail;have zz:=(z1.trans z2).trans<|(z3.trans z4).trans<|z5.trans z6;exact k _ _ (xg.trans zz) ⟨a1,a2,a3,p1,rs,rfl,((z3.trans z4).trans<|z5.trans z6).get i2,(z5.trans z6).get i4,i6,zz.get f1,hl.ext zz⟩
end
structure AS(h g:Hs)(w pt ph pb t d:Ad)(rs:List Tie)(ϸ:List Int)(B:Br):Prop where
 xb:ExtB w h g
 iw:Ints g w
 et:g pt=df (.lst<|rs.map trV)
 eh:g ph=df (.lst<|ϸ.map .int)
 br:dC g pb t d B
 ok:B.ok
 th:∀i,i∈ϸ↔(B.ties.lookup i).isSome=dh
 nt:ϸ.Nodup
 nw:∀a∈[pt,ph,pb,t,d],h a=dg/\a≠w
 n1:pt∉[ph,pb,t,d]
 n2:ph∉[pb,t,d]
section
variable {g g2:Hs}{pt ph pb:Ad}{rs:List Tie}{ϸ:List Int}
def AS.ext(s:AS h g w pt ph pb t d rs ϸ B)(x:Ext g g2):AS h g2 w pt ph pb t d rs ϸ B:=⟨s.xb.trans<|.of x,s.iw.ext x,x.get s.et,x.get s.eh,s.br.ext x,s.ok,s.th,s.nt,s.nw,s.n1,s.n2⟩
def AS.take(s:AS h g w pt ph pb t d rs ϸ B)(x:ExtB w g g2)(i:Ints g2 w):AS h g2 w pt ph pb t d rs ϸ B:=by have n:=s.nw;refine⟨s.xb.trans x,i,x.get (n pt<|by simp).2 s.et,x.get (n ph<|by simp).2 s.eh,s.br.keep (S:=[w]) (Ex.ofB x<|by simp) ?_ ?_ ?_,s.ok,s.th,s.nt,n,s.n1,s.n2⟩<;>exact λz=>(n _<|by simp).2 (Ñ.mp z)
def AS.deed(s:AS h g w pt ph pb t d rs ϸ B){d2:Ad}{B2:Br}(br:dC g2 pb t d2 B2)(ok:B2.ok)(x:Ex [pb,t,d] g g2)(hd:d2=d\/g d2=dg):ExtB w h g2/\Ints g2 w/\g2 pt=df (.lst<|rs.map trV)/\g2 ph=df (.lst<|ϸ.map .int)/\(∀a∈[pt,ph,pb,t,d2],h a=dg/\a≠w)/\pt∉[ph,pb,t,d2]/\ph∉[pb,t,d2]:=by
 have n:=s.nw;have n1:=s.n1;have n2:=s.n2;have wn:w∉[pb,t,d]:=λz=>by
  simp only[Æ,Û,or_false]at z;rcases z with z|z|z
  .exact(n pb<|by simp).2 z.symm
  .exact(n t<|by simp).2 z.symm
  .exact(n d<|by simp).2 z.symm
 have n1':pt∉[pb,t,d]:=λz=>n1<|ß _ z;let⟨ns,iw⟩:=s.iw;have dn:g d2=dg->h d2=dg/\d2≠w/\pt≠d2/\ph≠d2:=λz=>by
  have h1:d2≠w:=(Za iw z).symm;refine⟨?_,h1,Za s.et z,Za s.eh z⟩;cases e:h d2 with
  |none=>rfl
  |some o=>rw[s.xb.get h1 e]at z;cases z
 refine⟨⟨λ{a o} na e=>?_⟩,⟨ns,x.get wn iw⟩,x.get n1' s.et,x.get n2 s.eh,λa ha=>?_,?_,?_⟩
 .refine x.get (λz=>?_)<|s.xb.get na e;have:=(n a<|by simp only[Æ]at z ⊢;exact .inr<|.inr z).1;rw[e]at this;cases this
 .rcases hd with rfl|hd
  .exact n a ha
  .have q:=dn hd;simp only[Æ,Û,or_false]at ha;rcases ha with rfl|rfl|rfl|rfl|rfl
   .exact n _ (by simp)
   .exact n _ (by simp)
   .exact n _ (by simp)
   .exact n _ (by simp)
   .exact⟨q.1,q.2.1⟩
 .rcases hd with rfl|hd
  .exact n1
  .have q:=dn hd;simp only[Æ,Û,or_false,not_or]at n1 ⊢;exact⟨n1.1,n1.2.1,n1.2.2.1,q.2.2.1⟩
 .rcases hd with rfl|hd
  .exact n2
  .have q:=dn hd;simp only[Æ,Û,or_false,not_or]at n2 ⊢;exact⟨n2.1,n2.2.1,q.2.2.2⟩
variable {s:Pi}
def Uv(hw:Ints h w)(k:∀o g,ExtB w h g->Ints g w->Q (oV o) g):wF P (n+2) "_law_pair" [.ref w,pV s] h Q X:=by
 refine OR ?_;refine' Zc hw (by decide) λr g1 r0 r1 x1 w1=>?_;refine' eL (λ_=>?_) (λ_=>?_)
 .refine' k dg _ x1 w1
 refine' eL (λ_=>?_) (λ_=>?_)
 .refine' k (df s) _ x1 w1
 refine' Zc w1 (by decide) λa g2 _ _ x2 w2=>?_;refine' Zc w2 (by decide) λb g3 _ _ x3 w3=>?_;refine' k (df (a,b)) _ ((x1.trans x2).trans x3) w3
def AZ(hw:Ints h w)(k:∀l g,ExtB w h g->Ints g w->Q (L.v l) g):wF P (n+3) "_law_letter" [.ref w,pV s] h Q X:=by refine Ma ?_;refine' Zc hw (by decide) λa g1 _ _ x1 w1=>?_;refine' Zc w1 (by decide) λb g2 _ _ x2 w2=>?_;refine' Zc w2 (by decide) λc g3 _ _ x3 w3=>?_;refine' Zc w3 (by decide) λd g4 _ _ x4 w4=>?_;refine' Uv w4 λo g5 x5 w5=>?_;refine' Zc w5 (by decide) λr g6 _ _ x6 w6=>?_;refine' Zc w6 (by decide) λco g7 _ _ x7 w7=>?_;refine' Zc w7 (by decide) λag g8 _ _ x8 w8=>?_;refine' Uv w8 λo2 g9 x9 w9=>?_;refine' k ⟨(a,b),(c,d),r,co,ag,o,o2⟩ _ ((((x1.trans x2).trans<|x3.trans x4).trans<|x5.trans x6).trans<|(x7.trans x8).trans x9) w9
end
abbrev YM:Ss->Ss
 |.cons (.whl _ b) _=>b
 |_=>.nil
abbrev UM:Ss->Ss
 |.cons (.for _ _ b) _=>b
 |_=>.nil
section
variable {g g2:Hs}{pt ph pb:Ad}{rs:List Tie}{ϸ:List Int}
def QB{k:Int}(h:(kvs.lookup k).isSome=dh):k∈kvs.map (·.1):=by rw[look_iff]at h;exact of_decide_eq_true h
def CL{i:Int}{K:Val×Hs->Prop}(e:h a=df (.lst<|ns.map .int))(m:i∈ns)(q:K (.non,upd h a<|.lst<|(ns.erase i).map .int)):go (bmV h .remove (.ref a) [.int i]) K:=du (by
  show(dF<|h a).bind _=_
  rw[lsE e]
  show(dz<|ns.map .int).bind _=_
  rw[Yh]
  exact ff m) q
def AS.lst(s:AS h g w pt ph pb t d rs ϸ B){B2:Br}{l:List Int}(br:dC g2 pb t d B2)(ok:B2.ok)(x:Ex [pb,t,d] g g2)(th:∀i,i∈l↔(B2.ties.lookup i).isSome=dh)(nl:l.Nodup):AS h (upd g2 ph<|.lst<|l.map .int) w pt ph pb t d rs l B2:=by let⟨q1,q2,q3,q4,q5,q6,q7⟩:=s.deed br ok x<|.inl rfl;have n6:=q6;have n7:=q7;simp only[Æ,Û,or_false,not_or]at n6 n7;exact⟨Wi q1 (q5 ph<|by simp).1,q2.exb (q5 ph<|by simp).2,(dj n6.1).trans q3,dk,br.keep (S:=[ph]) (Ex.upd<|by simp) (λz=>n7.1 (Ñ.mp z).symm) (λz=>n7.2.1 (Ñ.mp z).symm) λz=>n7.2.2 (Ñ.mp z).symm,ok,th,nl,q5,q6,q7⟩
variable {v1:Option Val} {v6:Option Val}
def Di{K M M2:NQ}{s:String}{v5:Option Val}{j:Nat}(a:AS h g w pt ph pb t d rs ϸ B)(e1:NM B j=s)(e2:Xz B j=shw s)(k:∀v8,K [df<|.ref w,v1,df<|.ref pt,df<|.ref pb,df<|.ref ph,v5,v6,df<|.int j,v8] g):wSs (wF P<|n+6) (tl 2<|UM<|tl 3<|YM<|tl 4 S5.body) [df<|.ref w,v1,df<|.ref pt,df<|.ref pb,df<|.ref ph,v5,v6,df<|.int j,df<|.str s] g K Q M M2 λ_ c g=>X c g:=by
 have bi:=a.br.ins;have et:=a.et;dsimp only[tl,UM,YM,S5]
 exists Oo a.br
 rw[e1];refine' Mi (λz=>fk rfl z) (λ_=>?_);refine' eL (λ_=>?_) (λ_=>?_)
 .exists UP a.br e1 e2
  walk_at "p";exact k _
 .walk_at "p";exact k _
def Lj{K M M2:NQ}{v7 v8:Option Val}(a:AS h g w pt ph pb t d rs ϸ B)(k:∀v7 v8 g2,Ext g g2->K [df<|.ref w,v1,df<|.ref pt,df<|.ref pb,df<|.ref ph,df<|.int<|c+1,v6,v7,v8] g2):wSs (wF P<|n+6) (tl 3<|YM<|tl 4 S5.body) [df<|.ref w,v1,df<|.ref pt,df<|.ref pb,df<|.ref ph,df<|.int c,v6,v7,v8] g K Q M M2 λ_ c g=>X c g:=by
 dsimp only[tl,YM,S5];refine' ⟨⟨by decide,by decide⟩,?_⟩;refine Zr (λj en g'=>∃v7 v8,en=[df<|.ref w,v1,df<|.ref pt,df<|.ref pb,df<|.ref ph,df<|.int c,v6,v7,v8]/\Ext g g') ⟨_,_,rfl,.refl⟩ (λ_ _ _ _ _=>trivial) ?_ ?_
 .rintro j v en g' hv ⟨v7,v8,rfl,x⟩ K2 hK2;let⟨rfl,hj⟩:=YO hv;have a:=a.ext x;have eh:=a.eh
  exists UG eh
  refine' eL (λc=>?_) (λc=>?_)
  .obtain⟨w1,w2⟩:=Nt<|(a.th j).mp c;have bi:=a.br.ins;refine' UT a.br λg3 x3=>?_;walk_at "py1";exact Di (a.ext x3) w1 w2 λv8=>hK2 _ _ ⟨_,_,rfl,x.trans x3⟩
  .obtain⟨w1,w2⟩:=M0 λz=>c<|(a.th j).mpr z;exact Di a w1 w2 λv8=>hK2 _ _ ⟨_,_,rfl,x⟩
 rintro en g' ⟨v7,v8,rfl,x⟩;refine' k _ _ _ x
def B8(hw:Ints h w)(k:∀g,ExtB w h g->Q (.bl dh) g):wF P (n+7) "_law_alone" [.ref w] h Q X:=by
 refine Ng ?_;refine' Zc hw (by decide) λr g1 r0 r1 x1 w1=>?_;obtain⟨m,hm⟩:∃m:Nat,1+r=m:=⟨(1+r).toNat,by lia⟩
 fail;rw[hm,GI];refine⟨⟨by lia,by lia⟩,Ò (by rw[À,Ā];lia:_<=3) (by decide),N9 (λi:Nat=>trV ((i:Int),3+3*(i:Int),1+(i:Int))) trivial (λi hi K k1=>?_)<|Ze λpt g2 hpt x2 e2=>?_⟩
 .have:=ę.mp hi;walk_at "p";exact k1
 have hrs:(List.range m).map (λi:Nat=>trV ((i:Int),3+3*(i:Int),1+(i:Int)))=((List.range m).map λi:Nat=>((i:Int),3+3*(i:Int),1+(i:Int))).map trV:=by rw[ô];rfl
 rw[hrs]at e2;have hk:(((List.range m).map λi:Nat=>((i:Int),3+3*(i:Int),1+(i:Int))).map (·.1))=(List.range m).map λi:Nat=>(i:Int):=by rw[ô];rfl
 have nd:(((List.range m).map λi:Nat=>((i:Int),3+3*(i:Int),1+(i:Int))).map (·.1)).Nodup:=by rw[hk];exact List.Pairwise.map _ (λa b h=>by lia) List.nodup_range
 have rgs:∀q∈(List.range m).map λi:Nat=>((i:Int),3+3*(i:Int),1+(i:Int)),0<=q.1/\q.1<16:=λq hq=>by let⟨i,hi,rfl⟩:=Þ.mp hq;have:=ę.mp hi;dsimp only;lia
 have rl:((List.range m).map λi:Nat=>((i:Int),3+3*(i:Int),1+(i:Int))).length<=3:=by rw[À,Ā];lia
 generalize (List.range m).map (λi:Nat=>((i:Int),3+3*(i:Int),1+(i:Int)))=rs at e2 nd rgs rl;clear hrs hk;have w2:=w1.ext x2;have npt:pt≠w:=(w1.ne hpt).symm;have hpt0:h pt=dg:=by
  cases e:h pt with
  |none=>rfl
  |some o=>rw[x1.get npt e]at hpt;cases hpt
 refine' Zc w2 (by decide) λlife g3 _ _ x3 w3=>?_;refine' Zc w3 (by decide) λag g4 _ _ x4 w4=>?_;have e4:=x4.get npt<|x3.get npt e2;fail;intro pb hpb;have nbt:pt≠pb:=Za e4 hpb;refine MU dk ((dj nbt).trans e4) nd (by lia) λt d g5 ht hd br ex=>?_;refine⟨rfl,?_⟩;have nbw:pb≠w:=(w4.ne hpb).symm;have xb4:ExtB w h g4:=((x1.trans<|.of x2).trans x3).trans x4;have fr:∀{a:Ad},a≠w->g4 a=dg->h a=dg:=λ{a} na z=>by
  cases e:h a with
  |none=>rfl
  |some o=>rw[xb4.get na e]at z;cases z
 have up4:∀{a:Ad}{o:Ob},g4 a=df o->a≠pb/\g5 a=df o:=λ{a o} e=>by have na:a≠pb:=Za e hpb;exact⟨na,ex.get ⇑na<|(dj na).trans e⟩
 have dn:∀{a:Ad},upd g4 pb (.ins "Bridge" []) a=dg->a≠pb/\g4 a=dg:=λ{a} z=>by
  by_cases e:a=pb
  .rw[e,dk]at z;cases z
  .rw[dj e]at z;exact⟨e,z⟩
 let⟨ntb,ht4⟩:=dn ht;let⟨ndb,hd4⟩:=dn hd;let⟨ns,ew⟩:=w4;have e5:=(up4 e4).2;have ntw:t≠w:=(Za ew ht4).symm;have ndw:d≠w:=(Za ew hd4).symm;refine' ⟨Ò (by rw[À];exact rl) (by decide),N9 (λr:Tie=>.int r.1) (lsE e5) (λr hr K k1=>?_)<|Ze λph g6 hph x6 e6=>?_⟩
 .unfold trV;walk_at "p";exact k1
 rw[show rs.map (λr:Tie=>Val.int r.1)=(rs.map (·.1)).map .int by rw[ô];rfl]at e6;have nph:∀{a:Ad}{o:Ob},g5 a=df o->ph≠a:=λe=>(Za e hph).symm;have hph4:g4 ph=dg:=by
  cases e:g4 ph with
  |none=>rfl
  |some o=>rw[(up4 e).2]at hph;cases hph
 have a0:AS h g6 w pt ph pb t d rs (rs.map (·.1))<|ZG 5 life (4+ag) rs:=by
  refine⟨⟨λ{a o} na e=>x6.get (up4<|xb4.get na e).2⟩,⟨ns,x6.get (up4 ew).2⟩,x6.get e5,e6,br.ext x6,⟨Ċ,(λ_ m=>nomatch m),?_,λq hq=>?_⟩,λi=>?_,nd,λa ha=>?_,?_,?_⟩
  .show((YQ rs).map (·.1)).Nodup;rw[Wl];exact nd
  .obtain⟨r,hr,rfl⟩:=Þ.mp hq;exact rgs r hr
  .show _↔((YQ rs).lookup i).isSome=dh;rw[look_iff,Wl,fj]
  .simp only[Æ,Û,or_false]at ha;rcases ha with rfl|rfl|rfl|rfl|rfl
   .exact⟨hpt0,npt⟩
   .exact⟨fr (nph (up4 ew).2) hph4,nph (up4 ew).2⟩
   .exact⟨fr nbw hpb,nbw⟩
   .exact⟨fr ntw ht4,ntw⟩
   .exact⟨fr ndw hd4,ndw⟩
  .simp only[Æ,Û,or_false,not_or];exact⟨(nph e5).symm,nbt,Za e4 ht4,Za e4 hd4⟩
  .simp only[Æ,Û,or_false,not_or];exact⟨nph br.ins,nph br.ties,nph br.held⟩
 clear up4 dn fr xb4 e5 e6 br ex ew
 exists Yv (λm en g=>∃v1 v6 v7 v8 t d ϸ B,en=[df<|.ref w,v1,df<|.ref pt,df<|.ref pb,df<|.ref ph,df<|.int<|30 - ((m:Nat):Int),v6,v7,v8]/\m<=30/\AS h g w pt ph pb t d rs ϸ B) (m:=30) ⟨_,_,_,_,_,_,_,_,rfl,Ï _,a0⟩
 rintro m en g ⟨v1,v6,v7,v8,t,d,ϸ,B,rfl,hm,a⟩ K hK;have bU:∀{g:Hs}{M:NQ},1<=m->AS h g w pt ph pb t d rs ϸ B->wSs (wF P<|n+6) (YM<|tl 4 S5.body) [df<|.ref w,v1,df<|.ref pt,df<|.ref pb,df<|.ref ph,df<|.int<|30 - ((m:Nat):Int),v6,v7,v8] g K Q M K λ_ c g=>X c g:=λ{g M} h1 a=>by
  have fin:∀{g:Hs}{v1 v6 v7 v8:Option Val}{d:Ad}{ϸ:List Int}{B:Br},AS h g w pt ph pb t d rs ϸ B->wSs (wF P<|n+6) (tl 3<|YM<|tl 4 S5.body) [df<|.ref w,v1,df<|.ref pt,df<|.ref pb,df<|.ref ph,df<|.int<|30 - ((m:Nat):Int),v6,v7,v8] g K Q M K λ_ c g=>X c g:=λa=>Lj a λv7 v8 g2 x2=>by rw[show(30:Int) - ((m:Nat):Int)+1=30 - ((m - 1:Nat):Int) by lia];exact hK (m - 1) _ _ (by lia) ⟨_,_,_,_,_,_,_,_,rfl,by lia,a.ext x2⟩
  dsimp only[tl,YM,S5]at fin ⊢;refine' Zc a.iw (by decide) λwy g1 _ _ x1 w1=>?_;have a:=a.take x1 w1;refine' Zc a.iw (by decide) λp g2 p0 p1 x2 w2=>?_;have a:=a.take x2 w2;have bi:=a.br.ins;refine' eL (λ_=>?_) (λ_=>?_)
  .exists Z1 a.br
   refine' AZ a.iw λl g3 x3 w3=>?_;have a:=a.take x3 w3;refine' UZ a.br a.ok λg4 br4 ex4=>?_;let⟨q1,q2,q3,q4,q5,q6,q7⟩:=a.deed br4 a.ok.heard (ex4.sub<|by simp)<|.inl rfl;have et:(ZQ B p l).ties=B.ties:=by unfold ZQ;split<;>(try split)<;>rfl
   exact fin ⟨q1,q2,q3,q4,br4,a.ok.heard,λi=>by rw[et];exact a.th i,a.nt,q5,q6,q7⟩
  refine' eL (λ_=>?_) (λ_=>?_)
  .refine' Ue a.br a.ok λq d' g4 hq hd' br4 eq ex4 _=>?_;let⟨q1,q2,q3,q4,q5,q6,q7⟩:=a.deed br4 a.ok.ticked (ex4.sub<|by simp)<|.inr hd';exact fin ⟨q1,q2,q3,q4,br4,a.ok.ticked,λi=>by rw[show B.ticked.ties=B.ties from (ZW B.grown<|Ye B.grown).2.1];exact a.th i,a.nt,q5,q6,q7⟩
  exists UG a.eh
  refine' eL (λc=>?_) (λc=>?_)
  .refine' Ul a.br λg4 br4 ex4=>?_;have ex:Ex [pb,t,d] g2 g4:=ex4.sub (by simp);have eh:=(a.deed br4 (a.ok.down p) ex<|.inl rfl).2.2.2.1
   exists CL eh c
   refine fin<|a.lst br4 (a.ok.down p) ex (λi=>?_)<|a.nt.erase p;have:=Xm (on:=di) (p:=p) (f:=0) (c:=0) (q:=i) (B:=B);rw[show tieF di p 0 0 B=K0 B p from rfl]at this;rw[this,a.nt.mem_erase_iff];by_cases e:i=p
   .simp[e]
   .rw[fg e,<-a.th i];simp[e]
  have et:=a.et;fail;rw[À];refine eL (λc2=>?_) λc2=>?_
  .obtain⟨r,hr,hrm⟩:=N3 p0 c2;have er:atI (rs.map trV) p=df (trV r):=Xi p0 (by rw[Ø,hr];rfl);unfold trV at er
   exists ZB et er
   exists ZB et er
   refine' GW a.br a.ok λg4 br4 ex4=>?_;have ok:=a.ok.up (p:=p) (c:=(r.2.1,r.2.2)) p0 (by lia);have ex:Ex [pb,t,d] g2 g4:=ex4.sub (by simp);have eh:=(a.deed br4 ok ex<|.inl rfl).2.2.2.1;have tl16:ϸ.length<=16:=by have:=MG a.nt λi hi=>QB<|(a.th i).mp hi;have h2:=a.ok.tlen;rw[À]at this;lia
   refine' Zp eh (by rw[À];exact Ò tl16<|by decide) ?_;rw[show ϸ.map Val.int++[.int p]=(ϸ++[p]).map .int by rw[Ð];rfl];refine fin (a.lst br4 ok ex (λi=>?_)<|ä.mpr ⟨a.nt,by simp,λx hx y hy e=>c<|by rw[<-Ñ.mp hy,<-e];exact hx⟩);have:=Xm (on:=dh) (p:=p) (f:=r.2.1) (c:=r.2.2) (q:=i) (B:=B);rw[show tieF dh p r.2.1 r.2.2 B=upB B p (r.2.1,r.2.2) from rfl]at this;rw[this,à,Ñ];by_cases e:i=p
   .simp[e]
   .rw[fg e,<-a.th i];simp[e]
  .refine fin a
 have stop:¬ m=0->1<=m:=λz=>by lia
 refine' eL (λc=>?_) (λc=>?_)
 .refine eF rfl ?_;exact bU (by lia) a
 refine' Ze λq g1 hq x1 e1=>?_;have a:=a.ext x1;let⟨ns,ew⟩:=a.iw;refine c_neE ew e1 ?_;refine' eM (λ_=>?_) (λ_=>?_)
 .refine' eL (λc=>?_) (λc=>?_)
  .exact bU (by lia) a
  .refine' k _ a.xb
 .refine eK rfl ?_;refine' k _ a.xb
end
def Ee{D W:Yc}{l:List Dd}{d:Dd}(hr:run C l=df D)(hd:l[i]?=df d)(hw:run C (l.take i)=df W):(step W d).isSome=dh:=by
 have hi:=(Î.mp hd).1;have e:l=l.take i++d::l.drop (i+1):=by have h1:=(List.take_append_drop i l).symm;rw[Œ hi,(Î.mp hd).2]at h1;exact h1
 rw[e,W6,hw,í]at hr;cases z:step W d with
 |none =>
  replace hr:(step W d).bind _=df D:=hr
  rw[z]at hr;cases hr
 |some V=>rfl
def law_ok(h63:ns.length<=63)(k:∀g,Q (.bl dh) g):wF P (n+9) "law" [.scr ns] h Q X:=by
 refine PV ?_;refine' D0 h63 λw g1 w1=>?_;refine' Ze λp2 g2 cM x2 e2=>?_;have n2:p2≠w:=λz=>w1.ne cM z.symm;refine' Zc (w1.ext x2) (by decide) λr3 g3 a3 b3 x3 w3=>?_;let⟨v,ev,hv⟩:=Od (xs:=[Val.int 13,.int 13,.int 13,.int 197]) a3 b3;have hm:∃m:Int,v=.int m/\0<m:=by simp only[Æ,Û,or_false]at hv;rcases hv with rfl|rfl|rfl|rfl<;>exact⟨_,rfl,by decide⟩
 let⟨m,rfl,m0⟩:=hm;refine ZB (x3.get n2 e2) ev ?_;refine' Zc w3 m0 λr4 g4 a4 b4 x4 w4=>?_;let⟨n4,e4⟩:=w4;clear x4 x3 x2 e2 ev hv;refine' ⟨by decide,GT e4 λix _ _=>Ze λq5 g5 hq5 x5 e5=>?_⟩;rw[KN]at e5;refine' B8 ⟨_,e5⟩ λg6 x6=>?_;have e6:=x6.get (Za e4 hq5)<|x5.get e4;walk_at "p";refine⟨by decide,GT e6 λix _ _=>Ze λw7 g7 hw7 x7 e7=>?_⟩;rw[KN]at e7;refine' Ib ⟨_,e7⟩ λbs ts g9 no x9 w9=>?_;have gd0:=Gz (most:=4+r4) no;fail;intro y hy;refine MZ no hy λY g10 ey y10 ec fr x10=>?_;refine⟨rfl,?_⟩;subst ey;refine' L0 (w9.ext x10) y10 (ec▸gd0) (λz=>by let⟨o,eo⟩:=w9.some_;rw[fr _ z]at eo;cases eo) λpr l C g11 hr hl npr er ex11 w11=>?_;rw[ec]at hr;clear ex11 y10 fr x10 x9;fail;intro y hy;refine MZ no hy λZ g12 ey z12 ec1 fr1 x12=>?_;refine⟨rfl,?_⟩;subst ey;have gz:Z.cc.gd 0:=by rw[ec1];exact gd0
 have tz:TI Z.cc:=by rw[ec1];exact Gu no
 rw[<-ec1]at hr;have npr:pr∉Z.adr:=λz=>by rw[fr1 _ z]at er;cases er
 have er:=x12.get er;refine' Nf z12 gz tz λg13 x13=>?_;have er:=x13.get er;walk_at "p";refine Zr (λi en g=>Sm3 λv6 v7 W=>Cj7 (en=[df<|.scr ns,df<|.ref w7,df<|.int<|4+r4,df<|Xg bs ts,df<|.ref pr,df<|.ref Z.y,v6,v7]) (W.y=Z.y) (dD g W) (run Z.cc (l.take i)=df W.cc) (TI W.cc) (pr∉W.adr)<|g pr=df (.lst<|l.map Dd.v)) ⟨_,_,Z,rfl,rfl,z12.ext x13,rfl,tz,npr,er⟩ (λ_ _ _ _ ⟨_,_,_,_,_,_,_,_,_,e⟩=>lsE e) ?_ ?_
 .rintro i v en g hv ⟨v6,v7,W,rfl,ey,wa,hw,tw,np,ep⟩ K hK;let⟨d,hd,rfl⟩:=ZK hv;have hi:=(Î.mp hd).1;let⟨gw,_⟩:=Wz gz hw;have li:(0+(l.take i).length)<=6000:=by rw[Ĕ];lia
  have yi:=wa.ins;rw[ey]at yi;fail;rw[<-ey];refine WR wa gw li (Ee hr hd hw) λV g2 st mv=>?_;let⟨gv,_⟩:=UR gw st;have tv:=Gq gw tw st;have o:=mv.off np ep;have hv2:run Z.cc (l.take<|i+1)=df V.cc:=by rw[Zi hd,XT hw];exact st
  have yi:=mv.at_.ins;rw[<-mv.y];refine' U4 mv.at_ gv λv1 g3 x3 lk1=>?_;have yi:=(mv.at_.ext x3).ins;refine' Nf (mv.at_.ext x3) gv tv λg4 x4=>?_;have yi:=((mv.at_.ext x3).ext x4).ins;walk_at "p";refine U4 ((mv.at_.ext x3).ext x4) gv λv2 g5 x5 lk2=>?_
  exists WD (lk2.eq<|lk1.ext<|x4.trans x5)
  walk_at "p";rw[mv.y,ey];exact hK _ _ ⟨_,_,V,rfl,mv.y.trans ey,((mv.at_.ext x3).ext x4).ext x5,hv2,tv,o.1,((x3.trans x4).trans x5).get o.2⟩
 .rintro en g ⟨v6,v7,W,rfl,_⟩;refine' k _
end O
set_option maxRecDepth 1000000
set_option maxHeartbeats 0
namespace My
open PySem L2 Snd PySem.W
abbrev top(i:Nat):Stmt:=PySem.Challenge.pw_shutways_k83_whole_why_ends_are_so.main.body.getD i<|.Pass ⟨0,0,0,0⟩
abbrev inC:Stmt->Nat->Stmt
 |.ClassDef _ _ _ b _ _ _ _ _ _ _,j=>b.getD j<|.Pass ⟨0,0,0,0⟩
 |s,_=>s
abbrev x0:Ds:=⟨top 6,["thing"],["thing"],O.S2⟩
abbrev x1:Ds:=⟨top 7,["thing","least","greatest"],["thing","least","greatest"],O.S3⟩
abbrev x2:Ds:=⟨top 13,["bridges","ties"],["bridges","ties"],O.TD⟩
abbrev x3:Ds:=⟨top 14,["things"],["things"],O.Sr⟩
abbrev x4:Ds:=⟨top 15,["thing","bridges"],["thing","bridges"],O.S1⟩
abbrev x5:Ds:=⟨top 16,["tie"],["tie"],O.TC⟩
abbrev x6:Ds:=⟨top 17,["net","bridge","found","place","tie"],["net","bridge"],O.TF⟩
abbrev x7:Ds:=⟨top 18,["tie","bridge"],["tie","bridge"],O.S0⟩
abbrev x8:Ds:=⟨top 27,["one","other"],["one","other"],O.TH⟩
abbrev x9:Ds:=⟨top 29,["bridge","offers","better"],["bridge","offers"],O.Sv⟩
abbrev x10:Ds:=⟨top 35,["some","words"],["some"],O.TL⟩
abbrev x11:Ds:=⟨top 37,["bridge","place","end","held"],["bridge","place"],O.TQ⟩
abbrev x12:Ds:=⟨top 39,["script","draws","k","rest","stir","many"],["script"],O.S7⟩
abbrev x13:Ds:=⟨top 40,["draws","many"],["draws","many"],O.TN⟩
abbrev x14:Ds:=⟨top 41,["draws","most","extra","numbers","k","number","pairs","at","costs"],["draws","most","extra"],O.TY⟩
abbrev x15:Ds:=⟨top 42,["yard","row","some"],["yard"],O.TK⟩
abbrev x16:Ds:=⟨top 43,["draws","yard","way","up","down","road","ties"],["draws","yard"],O.S6⟩
abbrev x17:Ds:=⟨top 44,["draws","yard","most","row","rounds"],["draws","yard","most"],O.TM⟩
abbrev x18:Ds:=⟨top 45,["bridge","place","held","stamp","label"],["bridge","place"],O.TU⟩
abbrev x19:Ds:=⟨top 46,["bridge","place","due","found","end"],["bridge","place","due"],O.S8⟩
abbrev x20:Ds:=⟨top 47,["yard","number","ties","down","own"],["yard","number"],O.TB⟩
abbrev x21:Ds:=⟨top 48,["yard","ties","number","label","bridge","up","place"],["yard"],O.TW⟩
abbrev x22:Ds:=⟨top 49,["yard","held","number","label"],["yard"],O.TZ⟩
abbrev x23:Ds:=⟨top 50,["draws","stamp","way"],["draws","stamp"],O.TX⟩
abbrev x24:Ds:=⟨top 51,["draws","stamp","number","mark","rests"],["draws","stamp"],O.S9⟩
abbrev x25:Ds:=⟨top 52,["draws","place","ties","bridge","there","many","way","at","due"],["draws"],O.S5⟩
abbrev x26:Ds:=⟨top 53,["script","draws","greatest","net","row","yard","some","early"],["script"],O.S4⟩
abbrev z0:Ds:=⟨inC (top 31) 0,["self","number","life","ties","greatest","place","neighbour","cost"],["self","number","life","ties","greatest"],O.SJ⟩
abbrev z1:Ds:=⟨inC (top 31) 2,["self"],["self"],O.SN⟩
abbrev z2:Ds:=⟨inC (top 31) 3,["self"],["self"],O.SB⟩
abbrev z3:Ds:=⟨inC (top 31) 4,["self","place"],["self","place"],O.SW⟩
abbrev z4:Ds:=⟨inC (top 31) 5,["self","place","neighbour","cost"],["self","place","neighbour","cost"],O.SF⟩
abbrev z5:Ds:=⟨inC (top 31) 6,["self","place"],["self","place"],O.SZ⟩
abbrev z6:Ds:=⟨inC (top 31) 7,["self","place","letter","held"],["self","place","letter"],O.SX⟩
abbrev z7:Ds:=⟨inC (top 31) 8,["self","letters"],["self"],O.SE⟩
abbrev z8:Ds:=⟨inC (top 31) 9,["self","older","place","held"],["self"],O.SO⟩
abbrev z9:Ds:=⟨inC (top 31) 10,["self","offers","place","held","neighbour","cost","best","root"],["self"],O.SA⟩
abbrev z10:Ds:=⟨inC (top 31) 11,["self","label"],["self","label"],O.SC⟩
abbrev z11:Ds:=⟨inC (top 31) 12,["self","place","root","cost","over","rests","age","ahead"],["self","place"],O.SU⟩
abbrev z12:Ds:=⟨inC (top 31) 13,["self","place","held"],["self","place"],O.SM⟩
abbrev z13:Ds:=⟨inC (top 31) 14,["self","place","held"],["self","place"],O.SK⟩
abbrev z14:Ds:=⟨inC (top 31) 15,["self","place"],["self","place"],O.SY⟩
abbrev z15:Ds:=⟨inC (top 34) 0,["self","net","greatest","number"],["self","net","greatest"],O.Sz⟩
abbrev z16:Ds:=⟨inC (top 34) 2,["self"],["self"],O.Sx⟩
abbrev z17:Ds:=⟨inC (top 34) 4,["self"],["self"],O.Sw⟩
abbrev z18:Ds:=⟨inC (top 34) 5,["self","fallen"],["self"],O.SR⟩
abbrev z19:Ds:=⟨inC (top 34) 6,["self"],["self"],O.Sy⟩
abbrev z20:Ds:=⟨inC (top 34) 7,["self"],["self"],O.So⟩
abbrev z21:Ds:=⟨inC (top 34) 8,["self","number"],["self","number"],O.SI⟩
abbrev z22:Ds:=⟨inC (top 34) 11,["self","place"],["self","place"],O.SV⟩
abbrev z23:Ds:=⟨inC (top 34) 12,["self","some","words","number"],["self","some"],O.SQ⟩
abbrev z24:Ds:=⟨inC (top 34) 13,["self","number","place","letter","goal"],["self","number"],O.Sq⟩
abbrev z25:Ds:=⟨inC (top 34) 14,["self","place","start","goal","tie","letter"],["self","place"],O.SL⟩
abbrev z26:Ds:=⟨inC (top 34) 15,["self","place"],["self","place"],O.Su⟩
abbrev z27:Ds:=⟨inC (top 34) 16,["self","number"],["self","number"],O.SS⟩
abbrev z28:Ds:=⟨inC (top 34) 17,["self","place"],["self","place"],O.ST⟩
abbrev z29:Ds:=⟨inC (top 34) 18,["self","number"],["self","number"],O.SG⟩
abbrev z30:Ds:=⟨inC (top 34) 19,["self","place"],["self","place"],O.SH⟩
abbrev z31:Ds:=⟨inC (top 34) 20,["self","number","place","neighbour","cost"],["self","number"],O.Sn⟩
abbrev z32:Ds:=⟨inC (top 34) 21,["self","place","one","other","cost","stands","near","far"],["self","place"],O.Sm⟩
abbrev tb:Tb where
 fs:=[("is_whole",x0),("is_whole_between",x1),("make_net",x2),("are_bridges",x3),("is_tie",x4),("lesser_end_first",x5),("neighbours",x6),("far_end",x7),("newer",x8),("best_offer",x9),("read_deed",x10),("why_end",x11),("_law_draws",x12),("_law_take",x13),("_law_net",x14),("_law_round_of",x15),("_law_deed_now",x16),("_law_row",x17),("_law_told",x18),("_law_is_so",x19),("_law_up",x20),("_law_right",x21),("_law_look",x22),("_law_pair",x23),("_law_letter",x24),("_law_alone",x25),("law",x26)]
 ms:=[⟨"Bridge","__init__","Bridge.__init__",z0⟩,⟨"Bridge","label","Bridge.label",z1⟩,⟨"Bridge","stamp","Bridge.stamp",z2⟩,⟨"Bridge","held","Bridge.held",z3⟩,⟨"Bridge","up","Bridge.up",z4⟩,⟨"Bridge","down","Bridge.down",z5⟩,⟨"Bridge","hear","Bridge.hear",z6⟩,⟨"Bridge","tick","Bridge.tick",z7⟩,⟨"Bridge","let_grow_older","Bridge.let_grow_older",z8⟩,⟨"Bridge","reckon_label","Bridge.reckon_label",z9⟩,⟨"Bridge","take_label","Bridge.take_label",z10⟩,⟨"Bridge","letter_over","Bridge.letter_over",z11⟩,⟨"Bridge","is_rested_on","Bridge.is_rested_on",z12⟩,⟨"Bridge","is_agreed_to","Bridge.is_agreed_to",z13⟩,⟨"Bridge","end","Bridge.end",z14⟩,⟨"Yard","__init__","Yard.__init__",z15⟩,⟨"Yard","net","Yard.net",z16⟩,⟨"Yard","road","Yard.road",z17⟩,⟨"Yard","down","Yard.down",z18⟩,⟨"Yard","labels","Yard.labels",z19⟩,⟨"Yard","stamps","Yard.stamps",z20⟩,⟨"Yard","bridge","Yard.bridge",z21⟩,⟨"Yard","has_tie","Yard.has_tie",z22⟩,⟨"Yard","deed","Yard.deed",z23⟩,⟨"Yard","tick_of","Yard.tick_of",z24⟩,⟨"Yard","come","Yard.come",z25⟩,⟨"Yard","take_off","Yard.take_off",z26⟩,⟨"Yard","fall_of_bridge","Yard.fall_of_bridge",z27⟩,⟨"Yard","fall_of_tie","Yard.fall_of_tie",z28⟩,⟨"Yard","back_of_bridge","Yard.back_of_bridge",z29⟩,⟨"Yard","back_of_tie","Yard.back_of_tie",z30⟩,⟨"Yard","set_ties_of","Yard.set_ties_of",z31⟩,⟨"Yard","set_tie","Yard.set_tie",z32⟩]
 cs:=[("MOST_BRIDGES",(.int 10)),("MOST_TIES",(.int 16)),("GREATEST_NUMBER",(.int 999)),("GREATEST_COST",(.int 1000)),("NUMBER",(.int 0)),("STAMP",(.int 1)),("ROOT",(.int 2)),("COST",(.int 3)),("AGE",(.int 4)),("RESTS",(.int 5)),("AGREES",(.int 6)),("DEEDS",(.tup [(.tup [(.str "tick")]),(.tup [(.str "come")]),(.tup [(.str "lost")]),(.tup [(.str "fall"),(.str "bridge")]),(.tup [(.str "fall"),(.str "tie")]),(.tup [(.str "back"),(.str "bridge")]),(.tup [(.str "back"),(.str "tie")])]))]
 cl:=["Bridge","Yard"]
 fl:=["age_let_go","greatest_age","held_by_place","label_now","letters_on_road","life","lives","net_made_of","number","standing","ticks_had","ties_by_place","ties_fallen","version"]
 xs:=[]
abbrev pg:O.Pg:=λf=>(([("is_whole",O.S2),("is_whole_between",O.S3),("make_net",O.TD),("are_bridges",O.Sr),("is_tie",O.S1),("lesser_end_first",O.TC),("neighbours",O.TF),("far_end",O.S0),("newer",O.TH),("best_offer",O.Sv),("read_deed",O.TL),("why_end",O.TQ),("_law_draws",O.S7),("_law_take",O.TN),("_law_net",O.TY),("_law_round_of",O.TK),("_law_deed_now",O.S6),("_law_row",O.TM),("_law_told",O.TU),("_law_is_so",O.S8),("_law_up",O.TB),("_law_right",O.TW),("_law_look",O.TZ),("_law_pair",O.TX),("_law_letter",O.S9),("_law_alone",O.S5),("law",O.S4),("Bridge.__init__",O.SJ),("Bridge.label",O.SN),("Bridge.stamp",O.SB),("Bridge.held",O.SW),("Bridge.up",O.SF),("Bridge.down",O.SZ),("Bridge.hear",O.SX),("Bridge.tick",O.SE),("Bridge.let_grow_older",O.SO),("Bridge.reckon_label",O.SA),("Bridge.take_label",O.SC),("Bridge.letter_over",O.SU),("Bridge.is_rested_on",O.SM),("Bridge.is_agreed_to",O.SK),("Bridge.end",O.SY),("Yard.__init__",O.Sz),("Yard.net",O.Sx),("Yard.road",O.Sw),("Yard.down",O.SR),("Yard.labels",O.Sy),("Yard.stamps",O.So),("Yard.bridge",O.SI),("Yard.has_tie",O.SV),("Yard.deed",O.SQ),("Yard.tick_of",O.Sq),("Yard.come",O.SL),("Yard.take_off",O.Su),("Yard.fall_of_bridge",O.SS),("Yard.fall_of_tie",O.ST),("Yard.back_of_bridge",O.SG),("Yard.back_of_tie",O.SH),("Yard.set_ties_of",O.Sn),("Yard.set_tie",O.Sm)]:List<|String×O.Fn).lookup f)
instance:O.Al pg:=by constructor<;>rfl
variable {α:Type} {p:List α->Prop}
def ar1(h:∀a0,p [a0])(us:List α)(e:us.length=1):p us:=match us,e with|[a0],_=>h a0
def ar2(h:∀a0 a1,p [a0,a1])(us:List α)(e:us.length=2):p us:=match us,e with|[a0,a1],_=>h a0 a1
def ar3(h:∀a0 a1 a2,p [a0,a1,a2])(us:List α)(e:us.length=3):p us:=match us,e with|[a0,a1,a2],_=>h a0 a1 a2
def ar4(h:∀a0 a1 a2 a3,p [a0,a1,a2,a3])(us:List α)(e:us.length=4):p us:=match us,e with|[a0,a1,a2,a3],_=>h a0 a1 a2 a3
def ar5(h:∀a0 a1 a2 a3 a4,p [a0,a1,a2,a3,a4])(us:List α)(e:us.length=5):p us:=match us,e with|[a0,a1,a2,a3,a4],_=>h a0 a1 a2 a3 a4
variable {P:String->Ds->Prop}
def mc{f:String}{x:Ds}{l:List (String×Ds)}(h:P f x)(k:∀g y,(g,y)∈l->P g y):∀g y,(g,y)∈(f,x)::l->P g y:=λg y m=>by
 rcases Æ.mp m with e|m
 .cases e;exact h
 .exact k g y m
def mn:∀g y,(g,y)∈([]:List<|String×Ds)->P g y:=λ_ _ m=>nomatch m
def Ff:∀f x,(f,x)∈tb.fs.drop 24->x.Ok tb:=by
 iterate 3 refine mc ⟨by kernel_rfl,by kernel_rfl⟩ ?_
 exact mn
def E8:∀f x,(f,x)∈tb.fs.drop 12->x.Ok tb:=by
 iterate 12 refine mc ⟨by kernel_rfl,by kernel_rfl⟩ ?_
 exact Ff
def tab_ok:∀f x,(f,x)∈tb.fs->x.Ok tb:=by
 iterate 12 refine mc ⟨by kernel_rfl,by kernel_rfl⟩ ?_
 exact E8
def tab_pg:∀f x,(f,x)∈tb.fs->pg f=df x.d:=by repeat first|exact mn|refine mc rfl ?_
def tab_bd:∀f x,(f,x)∈tb.fs->Hd.Bd (fo f) (fo f) x:=by repeat first|exact mn|refine mc (λ_ _ _ _ _ _=>(by first|exact ar1 λ_=>rfl|exact ar2 λ_ _=>rfl|exact ar3 λ_ _ _=>rfl|exact ar4 λ_ _ _ _=>rfl|exact ar5 λ_ _ _ _ _=>rfl)) ?_
def md{P:α->Prop}{x:α}{l:List α}(h:P x)(k:∀y,y∈l->P y):∀y,y∈x::l->P y:=λy m=>by
 rcases Æ.mp m with e|m
 .cases e;exact h
 .exact k y m
def me{P:α->Prop}:∀y,y∈([]:List α)->P y:=λ_ m=>nomatch m
def GB:∀y,y∈tb.ms.drop 24->y.x.Ok tb:=by
 iterate 9 refine md ⟨by kernel_rfl,by kernel_rfl⟩ ?_
 exact me
def GA:∀y,y∈tb.ms.drop 12->y.x.Ok tb:=by
 iterate 12 refine md ⟨by kernel_rfl,by kernel_rfl⟩ ?_
 exact GB
def tab_om:∀y,y∈tb.ms->y.x.Ok tb:=by
 iterate 12 refine md ⟨by kernel_rfl,by kernel_rfl⟩ ?_
 exact GA
def tab_pm:∀y,y∈tb.ms->pg (y.C ++ "." ++ y.m)=df y.x.d:=by repeat first|exact me|refine md rfl ?_
def tab_bm:∀y,y∈tb.ms->Hd.Bd (fo y.m) (fo y.qual) y.x:=by repeat first|exact me|refine md (λ_ _ _ _ _ _=>(by first|exact ar1 λ_=>rfl|exact ar2 λ_ _=>rfl|exact ar3 λ_ _ _=>rfl|exact ar4 λ_ _ _ _=>rfl|exact ar5 λ_ _ _ _ _=>rfl)) ?_
def law_in:("law",x26)∈tb.fs:=è (i:=26) rfl
noncomputable abbrev pr:Program:=PySem.Challenge.rw_shutways_k83_whole_why_ends_are_so.row.prog
noncomputable abbrev vw:Program:=PySem.W.view pr [0,2,3,4,6,7,9,10,11,12,13,14,15,16,17,18,20,21,22,23,24,25,26,27,29,31,33,34,35,37,39,40,41,42,43,44,45,46,47,48,49,50,51,52,53]
noncomputable abbrev xt(s:Shared):Bool:=xlAt vw [] s&&recOk (RowW.records PySem.Challenge.rw_shutways_k83_whole_why_ends_are_so.row.toRowW) s
def said:PySem.Challenge.rw_shutways_k83_whole_why_ends_are_so.wellSaid=dh:=by rw[Fast.te9446332074065402090];kernel_rfl
def l1:∀w os,(Hd.runY pr 12000 w os).map (Hd.stY pr w)=df dh:=λw os=>by kernel_rfl
def l2:∀w os,(Hd.runY pr 12000 w os).map (λs=>Hd.seenY vw [] (Hd.modsY pr.main.body) xt dh s.abs)=df (openGood vw []):=λw os=>by kernel_rfl
def l3:∀w os,(Hd.runY pr 12000 w os).map (λs=>(Hd.hook tb).obs s.abs)=df ((Hd.hook tb).val w):=λw os=>by kernel_rfl
def left:LeftO pr vw [] xt (Hd.hook tb).obs (Hd.hook tb).val 12000:=Hd.left_of (by kernel_rfl) rfl (λs=>by kernel_rfl) l1 l2 l3
end My
open PySem PySem.W PyProof.Rows
theorem PySem.Challenge.cw_shutways_k83_whole_why_ends_are_so_holds : PySem.Challenge.rw_shutways_k83_whole_why_ends_are_so.Holds := by
 refine holds_law My.said λsaid=>?_;refine holds_open (q:=My.vw) (loose:=[]) (Xt:=My.xt) (XP:=XL My.vw []) (YP:=(Hd.hook My.tb).says) My.left (Hook.of _) (Hook.keeps _) (λs e=>xl_of s (Ŏ.mp e).1) XL.keeps (by rfl) (by rfl) (by rfl) (λs e=>recFacts_of (Ŏ.mp e).2) (by rfl) said (by decide +kernel) ⟨rfl,rfl,rfl,rfl,rfl,by decide +kernel⟩ ?hw ?hc
 case hw=>w_on;w_witness2
 case hc=>exact Hd.law_walk (k:=8) rfl rfl rfl ⟨rfl,by decide,by decide⟩ My.law_in rfl rfl My.tab_pg My.tab_pm My.tab_ok My.tab_om My.tab_bd My.tab_bm λns hl=>O.law_ok (n:=0) hl λ_=>rfl
