import PyProof.Rows.All
import Wide.All
import OpenK.AllK
import Wide.FinOn
import PyProof.EqAt
import PyProof.EqKinds
import PyProof.TupleCall
import Lean
import PySem.Challenge.RW_shutways_k82_whole_turns_of_a_tie
set_option Elab.async false
set_option bootstrap.genMatcherCode false
set_option compiler.extract_closed false
set_option genSizeOf false
local macro_rules|`(command|def $x:declId $b:bracketedBinder*:$t $v:declVal)=>`(command|theorem $x:declId $b:bracketedBinder*:$t $v:declVal)
local macro_rules|`(command|abbrev $x:declId $s:optDeclSig $v:declVal)=>`(command|noncomputable def $x:declId $s:optDeclSig $v:declVal)
set_option linter.all false
set_option maxRecDepth 100000
open PySem.Str renaming ofString->fK
open PySem.W (Frag)
open Decidable renaming decide->fJ
open Option renaming some->dF, none->dG
open Bool renaming true->dI, false->dJ
open Array renaming length_toList->Ű, getElem?_eq_some_iff->Ÿ, getElem?_toList->Ι, toList->bj, toList_inj->dB
open Bool renaming false_ne_true->ù, false_eq_true->Ċ, not_eq_true'->ę, and_true->ϙ, eq_false_iff->Ϩ, not_not->Ϫ, or_eq_true->am, false_and->aF, false_xor->aG, and_false->aH, or_false->aY, true_xor->a9, and_eq_true_iff->cq
open Char renaming toNat->ŏ
open False renaming elim->č
open ForInStep renaming yield->Į
open Function renaming comp_apply->bq
open Int renaming toNat_natCast->ä, natCast_nonneg->į, emod_lt_of_pos->ϣ, emod_nonneg->aC
open List renaming length_map->À, mem_cons->Æ, length_cons->Ç, mem_append_right->È, getElem?_eq_getElem->É, size_toArray->Ë, map_cons->Í, getElem?_eq_some_iff->Ð, map_append->Ò, getElem?_map->Ó, length_append->Ö, mem_singleton->Ø, replicate->Ú, mem_append_left->Û, mem_cons_of_mem->à, mem_of_getElem?->á, mem_append->â, mem_map->ã, not_mem_nil->å, nodup_append->æ, mem_cons_self->ì, lookup_cons->ð, length_replicate->ñ, append_nil->ó, length_take->õ, all_eq_true->ö, take_length->ø, map_map->ú, mem_map_of_mem->û, getElem?_append_left->ü, filter_cons->ý, contains_iff_mem->ā, getElem?_append_right->Ă, nodup_cons->Ć, replicate_succ->Ĉ, getD_eq_getElem?_getD->ċ, filterMap_cons->Ď, append_assoc->Đ, length_filter_le->đ, find?_cons->Ĕ, nodup_nil->Ę, map_inj_left->Ě, map_congr_left->ě, mem_filter->Ĝ, length_nil->ĝ, any_cons->ĥ, getElem?_set_ne->Ħ, length_range->Ĩ, getElem_mem->Ī, foldl_cons->Ķ, flatten_cons->ĸ, mergeSort_perm->Ŀ, getElem?_replicate->ŀ, zip_cons_cons->ń, take_add_one->Ŋ, mem_flatMap->Ő, length_eq_zero_iff->ŗ, flatMap_cons->Ŝ, length_singleton->ť, getElem?_eq_none->Ŧ, take_append_drop->ŧ, lookup->Ŭ, eq_nil_of_length_eq_zero->ŭ, length_set->ű, perm_singleton->ų, map_nil->ŵ, mem_filterMap->Ż, zip_nil_right->ż, filterMap_map->Ž, mapM_cons->ž, drop_eq_getElem_cons->ν, zip_nil_left->ξ, length_drop->ς, getElem?_set_self'->υ, getElem?_set_self->Β, drop_eq_nil_of_le->Ε, filterMap_eq_map'->Ζ, length_mergeSort->Μ, mem_range->Υ, length_take_le'->Χ, map_id->Ψ, length_pos_iff->ϕ, filter_sublist->ϖ, take_succ_cons->ϗ, map_take->Ϙ, set_cons_succ->Ϝ, set_cons_zero->ϝ, filter_append->Ϟ, length_filter_eq_length_iff->ϫ, zipWith->Ϭ, getElem_inj->ϲ, cons_append->ϴ, of_mem_zip->al, filter_nil->ao, length_filterMap_le->aZ, map_drop->bb, length_erase_of_mem->bf, pairwise_mergeSort->bo, length_eraseIdx_le->bu, take_of_length_le->bF, mem_iff_getElem?->bR, getElem?_zipWith->bU, set_append_left->ck, filter_eq_self->cF, flatMap_append->cH, foldl->cR, getElem_range->cU, append_of_mem->cV
open List.Perm renaming cons_inv->Ů, swap->ϭ
open List.Sublist renaming refl->œ
open List.cons renaming injEq->Ϣ
open Nat renaming le_refl->Ì, lt_of_le_of_lt->Ñ, le_trans->Ô, lt_of_lt_of_le->è, ne_of_lt->ë, lt_succ_self->ă, lt_irrefl->ą, lt_succ_of_lt->Ĺ, succ_le_succ->ő, zero_le->Ř, le_succ->ř, le_of_lt->ş, zero_add->Ţ, ne_of_gt->Ŷ, lt_trans->ź, min_le_right->Ϲ, not_lt_zero->aA, mul_comm->bM, mul_le_mul_left->cT
open Option renaming map_eq_some_iff->Ï, bind_eq_some_iff->ß, bind_some->ï, isSome_iff_exists->ò, map_some->Ĵ, isSome_map->ϛ, not_isSome_iff_eq_none->Ϯ, isNone_iff_eq_none->az, toList_none->cp, getD_none->cQ
open Option.some renaming inj->í, injEq->ī
open Prod.mk renaming injEq->Œ
open PyProof.Rows renaming IntsAre->ė, kindOf->ſ, AllBare->ω, seqObj->Κ, step_dedup->ϐ, IsTup->ϱ, envOfC->ϸ, Constant_none->cA, subscriptTail->cD, subscriptTail_builtinR->dm
open PySem renaming Value->Â, wpAny_bind->Ã, Shared->Ä, Addr->Ê, starEach->Î, wpAny_pure->Õ, sizeLine->Ü, model->Þ, Program->é, compareOp->ê, wpAny_loadPart'->ÿ, World->Ā, mainGlobals->Ą, Heap->ć, wpAny_truthy_bool->ĉ, backTo->Č, Around->ď, foldedSetIterable->Ē, argBest->ē, assignEach->ĕ, attributeBase->Ğ, Stmt->ğ, wpAny_mono->Ġ, cLine->Ĥ, wpAny_callSpecial?_slot->ĩ, behindInMarks->İ, wpAny_field->ı, wpAny_call_entry->Ĳ, wpAny_Call_Name_kw->ĵ, binaryOp->Ļ, FuncData->ļ, keywordEach->Ľ, wpAny_newObj_type->ľ, wpAny_holding->Ł, sysModules->ň, holding->ŉ, wpAny_execs_nil->ŋ, wpAny_passesOwn->Ō, swapsWith->ō, bootBuiltins->ŕ, wpAny_pyIter_tuple->Š, tupleKind_room_in1->š, sizeLine_eq->ţ, backToKw->ũ, wpAny_pyIter_list->Ū, wpAny_seqItems->ū, Scope->ů, assign->Ų, sliceBounds->ŷ, codeAny_builtin->η, PassesOwn->ο, wpAny_tryCatch->π, standAt->Γ, wpAny_pyIter_enum->Δ, swapsWithSole->Η, swappedStores->Θ, Operator->Ν, getMethod->Ξ, NameKind->Ο, getItem->ϋ, codeAny_mono->ό, IsPart->ύ, valueAt->ώ, call_meetsIn->Ϗ, letOwnedTupleGo->ϓ, PyData->Ϡ, tupleKind->ϥ, callerA->Ϧ, seqItems?->ϧ, plainId_quiet->ϳ, pyNext->ϵ, rawInt->Ϸ, setItem->au, seqIndex_neg->av, Keyword->aw, wpAny_loadPart_at->ay, wpAny_execs_cons->aN, lastMarks->aO, noFill_tuple_add->aP, noteFrame->aQ, seqIndex_of->aX, wpAny_letGo->bc, wpAny_updateSeq->bp, relabel->bB, isTrue->bH, CmpOp->bI, callWith->bJ, call_meets->bL, wpAny_setField->bN, wpAny_letOwnedTupleGo_enum->bO, evalEach->bP, atKey->bQ, methodCallForm->bS, wpAny_standAt->cB, seq_tuple_add->cC, wpAny_comprehension_free->cE, wpAny_newList->cG, Model->cO, bindC->cP, wpAny_pyNext_enum_itemD->cS, release->dg, Result->dh, richCompare_meets_room->di, concat_meets->dj, wpAny_typeOf->dk, wpAny_getItem_list_neg->dq, typeOf->du
open PySem.Around renaming under_plainId->Ũ, under->aW
open PySem.Builtin renaming iter->ś
open PySem.Builtin.Str renaming strSliceIndices->θ
open PySem.Code renaming isFrame->bA
open PySem.FuncData.mk renaming injEq->be
open PySem.Heap renaming get?_push_of_some->Å, lt_size->Ù, get?_push_size->Ý, get?_update_other->þ, size_push->Ŏ, get?_update_self->Ť, SameBut->Α, LeftW->Ϛ
open PySem.Heap.SameBut renaming update->ax
open PySem.NameKind renaming free->ġ, cell->dy
open PySem.Obj renaming mapSeq->ϟ, data_mapFields->dz
open PySem.PyData renaming eqv->Ģ, depthAll->ĳ, canLayAll0->ņ, canLay0->Ś, eqvAll->μ
open PySem.Value renaming builtin->ϔ, notImplemented->bK
open PySem.Value.type renaming inj->Ŕ
open PySem.W renaming boot_heap->Ŗ, Frag->Ź, findIn->ϡ, boot_drawn->Ϻ, SharedT->aB, boot_toks->aR, mg_of->bT, looks_findIn->dA, nsIn->dC, kitOne->dD
open String renaming ofList->ι, singleton->ϩ, length_toList->bC, toList_ofList->bD, length_append->bE
open UInt32.toNat renaming inj->a8
def bAq(a b:Bool):((a&&b)=dI)=(a=dI/\b=dI):=Bool.and_eq_true a b
abbrev fA:=@if_pos
abbrev fB:=@if_neg
abbrev fE:=@decide_eq_false
abbrev fG:=@decide_eq_true
abbrev fH:=@decide_eq_true_eq
@[reducible] noncomputable def fI:=@absurd
local macro_rules|`(tactic|let $p:term:=$e)=>do
 let k:=`Lean.Parser.Tactic
 let n(c:Lean.Name)(a:Array Lean.Syntax):Lean.Syntax:=.node .none (k++c) a
 let m(s:Lean.Syntax):=if s.isIdent then n `rcasesPat.one #[s]else if s.isOfKind ``Lean.Parser.Term.hole then n `rcasesPat.ignore #[s[0]]else if s.isOfKind ``Lean.Parser.Term.anonymousCtor then n `rcasesPat.tuple #[s[0],Lean.mkNullNode (s[1].getArgs.map λx=>if x.isAtom then x else n `rcasesPatLo #[n `rcasesPatMed #[Lean.mkNullNode #[x]],Lean.mkNullNode]),s[2]]else s
 `(tactic|obtain $(⟨n `rcasesPatMed #[Lean.mkNullNode #[p.raw.rewriteBottomUp m]]⟩):rcasesPatMed:=$e)
local macro_rules|`(command|instance $x:declId:$t $v:declVal)=>do
 if t.raw.getId != `Fn then Lean.Macro.throwUnsupported
 `(command|noncomputable abbrev $x:declId:$t $v:declVal)
local macro_rules|`(⇑$h)=>`(by simpa using $h)
namespace L2
open PySem PySem.Spec PyProof.Rows
noncomputable abbrev Key:=Sum Int Str
abbrev J0:Key->Â->Bool
 |.inl k,v=>Value.isInt k v
 |.inr x,v=>Value.isStrOf x v
abbrev RM(w:Ā):Key->Int
 |.inl k=>hashInt k
 |.inr x=>hashStr w x
def Zq:∀{k:Key}{v:Â},J0 k v=dI->(∃i t,k=Sum.inl i/\v=Value.int i t)\/(∃x t,k=Sum.inr x/\v=Value.str x t)
 |.inl i,v,h=>by let⟨t,e⟩:=Value.isInt_shape (k:=i) (v:=v) h;exact .inl ⟨i,t,rfl,e⟩
 |.inr x,v,h=>by let⟨t,e⟩:=Value.isStrOf_shape (x:=x) (v:=v) h;exact .inr ⟨x,t,rfl,e⟩
def A1(i:Int)(t:Tok):J0 (.inl i) (.int i t)=dI:=by simp[J0,Value.isInt]
def U3(x:Str)(t:Tok):J0 (.inr x) (.str x t)=dI:=by simp[J0,Value.isStrOf]
def HF(a b:Int):fJ ((Sum.inl a:Key)=Sum.inl b)=(a==b):=by
 by_cases e:a=b
 .subst e;simp
 .have h:¬ (Sum.inl a:Key)=Sum.inl b:=λq=>e<|Sum.inl.inj q;rw[fE h];exact(beq_eq_false_iff_ne.mpr e).symm
def Lj(a b:Str):fJ ((Sum.inr a:Key)=Sum.inr b)=fJ (a=b):=by
 by_cases e:a=b
 .subst e;simp
 .have h:¬ (Sum.inr a:Key)=Sum.inr b:=λq=>e<|Sum.inr.inj q;rw[fE h,fE e]
def HS(a:Int)(b:Str):fJ ((Sum.inl a:Key)=Sum.inr b)=dJ:=fE (λq=>nomatch q)
def IS(a:Str)(b:Int):fJ ((Sum.inr a:Key)=Sum.inl b)=dJ:=fE (λq=>nomatch q)
abbrev Zg(prog:é)(w:Ā):PySem.KeyKind prog w Key where
 is:=J0
 hash:=RM w
 inj:=λv a b ha hb=>by
  rcases Zq ha with⟨i,t,rfl,rfl⟩|⟨x,t,rfl,rfl⟩
  .rcases Zq hb with⟨j,u,rfl,e⟩|⟨y,u,rfl,e⟩
   .injection e with e1 _;rw[e1]
   .exact nomatch e
  .rcases Zq hb with⟨j,u,rfl,e⟩|⟨y,u,rfl,e⟩
   .exact nomatch e
   .injection e with e1 _;rw[e1]
 byValue:=λk v h=>by rcases Zq h with⟨i,t,rfl,rfl⟩|⟨x,t,rfl,rfl⟩<;>rfl
 pyHash:=λhv h=>by
  rcases Zq hv with⟨i,t,rfl,rfl⟩|⟨x,t,rfl,rfl⟩
  .exact wpAny_pyHash_int h
  .exact wpAny_pyHash_str h
 eqBool:=λhu hv h=>by
  rcases Zq hu with⟨i,t,rfl,rfl⟩|⟨x,t,rfl,rfl⟩
  .rcases Zq hv with⟨j,u,rfl,rfl⟩|⟨y,u,rfl,rfl⟩
   .rw[HF]at h;exact wpAny_eqBool_int h
   .rw[HS]at h;exact SeqAt.EqAt.int_str i t y u _ _ _ _ h
  .rcases Zq hv with⟨j,u,rfl,rfl⟩|⟨y,u,rfl,rfl⟩
   .rw[IS]at h;exact SeqAt.EqAt.str_int x t j u _ _ _ _ h
   .rw[Lj]at h;exact wpAny_eqBool_str h
 «strs»:=λk x t v h=>by
  rcases Zq h with⟨i,u,rfl,e⟩|⟨y,u,rfl,e⟩
  .exact nomatch e
  .injection e with e1 _;subst e1;cases v<;>rfl
def Nc(prog:é)(w:Ā)(i:Int)(t:Tok):(Zg prog w).is (.inl i) (.int i t)=dI:=A1 i t
def NU(prog:é)(w:Ā)(x:Str)(t:Tok):(Zg prog w).is (.inr x) (.str x t)=dI:=U3 x t
inductive V where
 |non|bl (b:Bool)|int (i:Int)|str (x:Str)|byt (b:Array UInt8)|flt (b:UInt64)|ref (a:Ê)|ty (n:String)
 deriving DecidableEq
abbrev RelV:V->Â->Prop
 |.non,u=>u=Value.none
 |.bl b,u=>u=Value.bool b
 |.int i,u=>∃t,u=Value.int i t
 |.str x,u=>∃t,u=Value.str x t
 |.byt b,u=>∃t,u=Value.bytes b t
 |.flt b,u=>∃t,u=Value.float b t
 |.ref a,u=>u=Value.ref a
 |.ty n,u=>u=Value.type n
@[reducible] noncomputable def fo:List V->List Â->Prop:=Paired RelV
def fo.length{xs:List V}{us:List Â}(r:fo xs us):xs.length=us.length:=Paired.length r
def fo.get:∀{xs:List V}{us:List Â}{i:Nat}{x:V},fo xs us->xs[i]?=dF x->∃u,us[i]?=dF u/\RelV x u
 |_,_,_,_,.nil,e=>by simp at e
 |_,_,0,_,.cons r _,e=>by simp at e;subst e;exact⟨_,rfl,r⟩
 |_,_,i+1,x,.cons _ t,e=>by let⟨u,h1,h2⟩:=fo.get (i:=i) (x:=x) t ⇑e;exact⟨u,⇑h1,h2⟩
def fo.set{x:V}{u:Â}(r:RelV x u):∀{xs:List V}{us:List Â}(i:Nat),fo xs us->fo (xs.set i x) (us.set i u)
 |_,_,_,.nil=>.nil
 |_,_,0,.cons _ t=>.cons r t
 |_,_,i+1,.cons q t=>.cons q<|fo.set r i t
def fo.append:∀{xs ys:List V}{us ws:List Â},fo xs us->fo ys ws->fo (xs++ys) (us++ws)
 |_,_,_,_,.nil,s=>s
 |_,_,_,_,.cons r t,s=>.cons r<|fo.append t s
def fo.take:∀{xs:List V}{us:List Â}(n:Nat),fo xs us->fo (xs.take n) (us.take n)
 |_,_,0,_=>.nil
 |_,_,_+1,.nil=>.nil
 |_,_,n+1,.cons r t=>.cons r<|fo.take n t
def fo.drop:∀{xs:List V}{us:List Â}(n:Nat),fo xs us->fo (xs.drop n) (us.drop n)
 |_,_,0,r=>r
 |_,_,_+1,.nil=>.nil
 |_,_,n+1,.cons _ t=>fo.drop n t
abbrev eC:Option V->Option Â->Prop
 |some v,dF u=>RelV v u
 |none,dG=>True
 |_,_=>False
abbrev KV{κ:Type}:List (κ×V)->List (κ×Â)->Prop:=Paired λ(p:κ×V) (q:κ×Â)=>p.1=q.1/\RelV p.2 q.2
abbrev kV:Key->V
 |.inl i=>.int i
 |.inr x=>.str x
inductive HO where
 |lst (xs:List V)
 |tup (xs:List V)
 |dK (kvs:List<|Key×V)|dT (kvs:List<|List Key×V)
 |set (S:Int->Bool) (n:Nat)
 |ins (C dx:Ê) (fs:List<|Str×V)
 |own (x:Ê)
 |xd (fs:List<|Str×V)
 |met (f x:Ê)
 |rng (lo hi:Int)
 |frz (o:Obj) (u:HO)
 |tbl (ps:Array Â)
 |ext (φ:ć->Prop)
noncomputable abbrev Hp:=Ê->Option HO
abbrev upd(H:Hp)(a:Ê)(o:HO):Hp:=λb=>if b=a then dF o else H b
variable {H:Hp} {a:Ê} {o:HO}
def dM:upd H a o a=dF o:=by unfold upd;rw[fA rfl]
variable {b:Ê}
def dL(h:b≠a):upd H a o b=H b:=by unfold upd;rw[fB h]
variable {u:HO}
def dN:upd (upd H a o) a u=upd H a u:=by funext b;unfold upd;split<;>rfl
def Ri(h:H a=dF o)(h':H b=dF u)(d:o≠u):a≠b:=by intro e;subst e;rw[h]at h';exact d (í h')
def Zj(h:H a=dF o)(h':H b=dG):a≠b:=by intro e;subst e;rw[h]at h';cases h'
section
variable (P:é) (w:Ā)
abbrev dW(H:Hp)(h:ć)(a:Ê):HO->Prop
 |.lst xs=>xs.length<=Ü/\∃(î:List Â) (n:Nat),fo xs î/\h.get? a=dF {cls:=.type "list",data:=.seq î.toArray n}
 |.tup xs=>xs.length<=Ü/\∃î:List Â,fo xs î/\ϱ h a î.toArray
 |.dK kvs=>kvs.length<=Ü/\(a==ň)=dJ/\∃vs,KV kvs vs/\h.DictOf (Zg P w) a vs
 |.dT kvs=>kvs.length<=Ü/\(a==ň)=dJ/\∃xs:List<|List Key×Ê×Â,
   Paired (λ(p:List Key×V) (q:List Key×Ê×Â)=>p.1=q.1/\H q.2.1=dF (.tup<|p.1.map kV)/\RelV p.2 q.2.2) kvs xs/\
   ∃o es ep,h.get? a=dF o/\o.ExactDict/\o.data=.dict es ep/\es.toList=xs.map (entryOfKey<|ϥ<|Zg P w)/\(xs.map (·.1)).Nodup
 |.set S n=>h.SetOf (intKind P w) a S n
 |.ins C dx fs=>H dx=dF (.own a)/\fs.length<=1000/\dx≠a/\h.get? a=dF (PySem.W.instObj C dx)/\
   ∃mA,h.Ns1 dx mA/\(∀f,eC (fs.lookup f)<|mA f)/\PySem.Within mA (fs.map (·.1))
 |.own _=>∃o,h.get? a=dF o
 |.xd fs=>∃mA,h.Ns1 a mA/\∀f,eC (fs.lookup f) (mA f)
 |.rng lo hi=>∃t u v,h.get? a=dF {cls:=.type "range",data:=.fields #[.int lo t,.int hi u,.int 1 v]}
 |.frz o u=>h.get? a=dF o/\dW H h a u
 |.tbl ps=>h.get? a=dF {cls:=.none,data:=.fields ps}
 |.met f x=>h.get? a=dF (PySem.W.methodObj (.ref f)<|.ref x)
 |.ext φ=>φ h/\(∃o,h.get? a=dF o)/\∀h1 h2:ć,φ h1->(∀o,h1.get? a=dF o->h2.get? a=dF o)->φ h2
abbrev HOk(H:Hp)(h:ć):Prop:=∀a o,H a=dF o->dW P w H h a o
end
section
variable {P:é}{w:Ā}{H H':Hp}{h h':ć}{a:Ê}{o:HO}
def dW.lt(x:dW P w H h a o):a<h.objs.size:=by
 cases o with
 |lst xs=>let⟨_,_,_,_,e⟩:=x;exact Ù e
 |tup xs=>let⟨_,_,_,p⟩:=x;exact p.lt
 |dK kvs=>let⟨_,_,_,_,o,_,_,e,_⟩:=x;exact Ù e
 |dT kvs=>let⟨_,_,_,_,o,_,_,e,_⟩:=x;exact Ù e
 |set S n=>let⟨o,_,_,_,e,_⟩:=x;exact Ù e
 |ins C dx fs=>let⟨_,_,_,e,_⟩:=x;exact Ù e
 |own y=>let⟨_,e⟩:=x;exact Ù e
 |xd fs=>let⟨_,⟨_,_,_,e,_⟩,_⟩:=x;exact Ù e
 |rng lo hi=>let⟨_,_,_,e⟩:=x;exact Ù e
 |frz ob u=>let⟨e,_⟩:=x;exact Ù e
 |tbl ps=>exact Ù (show h.get? a=dF _ from x)
 |met f y=>exact Ù (show h.get? a=dF _ from x)
 |ext φ=>let⟨_,⟨_,e⟩,_⟩:=x;exact Ù e
def Paired.mapP{α β:Type}{F G:α->β->Prop}:∀{l₁:List α}{l₂:List β},Paired F l₁ l₂->(∀a b,F a b->G a b)->Paired G l₁ l₂
 |_,_,.nil,_=>.nil
 |_,_,.cons r t,f=>.cons (f _ _ r)<|Paired.mapP t f
def dW.stay(x:dW P w H h a o)(k:∀b u,(b=a\/H b=dF (.own a))->h.get? b=dF u->h'.get? b=dF u)
  (ho:∀b,H b=dF (.own a)->H' b=dF (.own a)) (ht:∀b xs,H b=dF (.tup xs)->H' b=dF (.tup xs)):dW P w H' h' a o:=by
 induction o with
 |lst xs=>let⟨z,î,n,r,e⟩:=x;exact⟨z,î,n,r,k _ _ (.inl rfl) e⟩
 |tup xs=>let⟨z,î,r,ob,e,c⟩:=x;exact⟨z,î,r,ob,k _ _ (.inl rfl) e,c⟩
 |dK kvs=>let⟨z,y,vs,r,ob,es,ep,e,c⟩:=x;exact⟨z,y,vs,r,ob,es,ep,k _ _ (.inl rfl) e,c⟩
 |dT kvs =>let⟨z,y,xs,r,ob,es,ep,e,c⟩:=x;exact⟨z,y,xs,Paired.mapP r λp q z=>⟨z.1,ht _ _ z.2.1,z.2.2⟩,ob,es,ep,k _ _ (.inl rfl) e,c⟩
 |set S n=>let⟨ob,es,ep,t,e,c⟩:=x;exact⟨ob,es,ep,t,k _ _ (.inl rfl) e,c⟩
 |ins C dx fs =>let⟨d,z,ne,e,mA,⟨od,es,ep,e2,c⟩,r⟩:=x;exact⟨ho _ d,z,ne,k _ _ (.inl rfl) e,mA,⟨od,es,ep,k _ _ (.inr d) e2,c⟩,r⟩
 |own y=>let⟨ob,e⟩:=x;exact⟨ob,k _ _ (.inl rfl) e⟩
 |xd fs=>let⟨mA,⟨od,es,ep,e,c⟩,r⟩:=x;exact⟨mA,⟨od,es,ep,k _ _ (.inl rfl) e,c⟩,r⟩
 |rng lo hi=>let⟨t,u,v,e⟩:=x;exact⟨t,u,v,k _ _ (.inl rfl) e⟩
 |frz ob u ih=>let⟨e,q⟩:=x;exact⟨k _ _ (.inl rfl) e,ih q⟩
 |tbl ps =>have e:h.get? a=dF {cls:=.none,data:=.fields ps}:=x;show h'.get? a=dF {cls:=.none,data:=.fields ps};exact k a _ (.inl rfl) e
 |met f y =>have e:h.get? a=dF (PySem.W.methodObj (.ref f)<|.ref y):=x;show h'.get? a=dF (PySem.W.methodObj (.ref f)<|.ref y);exact k a _ (.inl rfl) e
 |ext φ=>let⟨p,⟨o,e⟩,st⟩:=x;exact⟨st _ _ p λo q=>k _ _ (.inl rfl) q,⟨o,k _ _ (.inl rfl) e⟩,st⟩
def HOk.lt(x:HOk P w H h)(e:H a=dF o):a<h.objs.size:=(x a o e).lt
def HOk.fresh(x:HOk P w H h)(e:h.objs.size<=a):H a=dG:=by
 cases q:H a with
 |none=>rfl
 |some u=>exact fI (è (x.lt q) e)<|ą _
def HOk.kept(x:HOk P w H h)(k:∀b u,h.get? b=dF u->h'.get? b=dF u):HOk P w H h':=λa o e =>
 (x a o e).stay (λb u _ q=>k b u q) (λ_ q=>q) λ_ _ q=>q
def HOk.laid(x:HOk P w H h)(k:∀b u,h.get? b=dF u->h'.get? b=dF u)(hp:h.objs.size<=a)(new:dW P w (upd H a o) h' a o):HOk P w (upd H a o) h':=λb u e=>by
 have hn:=x.fresh hp;by_cases hb:b=a
 .subst hb;rw[dM]at e;cases e;exact new
 .rw[dL hb]at e;exact(x b u e).stay (λc v _ q=>k c v q) (λc q=>by rw[dL<|Zj q hn];exact q) λc xs q=>by rw[dL<|Zj q hn];exact q
end
abbrev Rd(H:Hp)(a:Ê)(u:HO):Prop:=H a=dF u\/∃o,H a=dF (.frz o u)
variable {h:ć}
def Rd.ok{P:é}{w:Ā}(r:Rd H a u)(x:HOk P w H h):dW P w H h a u:=by
 rcases r with r|⟨o,r⟩
 .exact x a u r
 .obtain⟨_,q⟩:=x a _ r;exact q
abbrev Mut:Option HO->Prop
 |some (.lst _)=>True
 |some (.dK _)=>True
 |some (.dT _)=>True
 |some (.set _ _)=>True
 |some (.ins _ _ _)=>True
 |some (.ext _)=>True
 |_=>False
section
variable {P:é}{w:Ā}{H:Hp}{h h':ć}{x e:Ê}{o':HO}
def HOk.write(ok:HOk P w H h)(mu:Mut<|H x)(he:e=x\/H e=dF (.own x))(k:∀b u,b≠e->h.get? b=dF u->h'.get? b=dF u)(heo:∃u,h'.get? e=dF u)
  (new:dW P w (upd H x o') h' x o'):HOk P w (upd H x o') h':=λb u q=>by
 have nown:∀c y,H c=dF (.own y)->c≠x:=λc y r z=>by subst z;rw[r]at mu;exact mu
 have ntup:∀c xs,H c=dF (.tup xs)->c≠x:=λc xs r z=>by subst z;rw[r]at mu;exact mu
 by_cases hb:b=x
 .subst hb;rw[dM]at q;cases q;exact new
 .rw[dL hb]at q;by_cases hbe:b=e
  .have q':H b=dF (.own x):=by
    rcases he with z|z
    .exact fI (hbe.trans z) hb
    .rw[hbe];exact z
   rw[q]at q';cases q';let⟨v,hv⟩:=heo;exact⟨v,by rw[hbe];exact hv⟩
  .refine(ok b u q).stay (λc v hc r=>k c v ?_ r) (λc r=>by rw[dL<|nown c b r];exact r) λc xs r=>by rw[dL<|ntup c xs r];exact r
   rcases hc with rfl|hc
   .exact hbe
   .rintro rfl;rcases he with z|z
    .exact nown c b hc z
    .rw[hc]at z;cases z;exact hb rfl
end
structure Un(fs ex:List Ê)(H H':Hp)(h h':ć):Prop where
 keep:∀b o,h.get? b=dF o->H b=dG->b∉fs->b∉ex->h'.get? b=dF o
 slot:∀b o,h.get? b=dF o->H b=dG->b∈fs->b∉ex->∃sl,h'.get? b=dF {o with slots:=sl}
 free:∀b o,h.get? b=dF o->H b=dG->b∉ex->H' b=dG
 there:∀b o,h.get? b=dF o->b∉ex->∃o',h'.get? b=dF o'
 tups:∀b xs,H b=dF (.tup xs)->H' b=dF (.tup xs)
 frzs:∀b o u,H b=dF (.frz o u)->H' b=dF (.frz o u)
 tbls:∀b ps,H b=dF (.tbl ps)->∃more,H' b=dF (.tbl<|ps++more)
section
variable {fs fs' ex ex':List Ê}{H H1 H2:Hp}{h h1 h2 h':ć}{a x e:Ê}{o:HO}
def Un.any(u:Un fs ex H H1 h h1){ob:Obj}(q:h.get? b=dF ob)(n:H b=dG)(hx:b∉ex):∃sl,h1.get? b=dF {ob with slots:=sl}:=by
 by_cases hb:b∈fs
 .exact u.slot b ob q n hb hx
 .exact⟨ob.slots,u.keep b ob q n hb hx⟩
def Un.kept(k:∀b u,h.get? b=dF u->h'.get? b=dF u):Un fs ex H H h h' :=
 ⟨λb ob q _ _ _=>k b ob q,λb ob q _ _ _=>⟨ob.slots,k b ob q⟩,λ_ _ _ n _=>n,λb ob q _=>⟨ob,k b ob q⟩,λ_ _ q=>q,λ_ _ _ q=>q,λ_ ps q=>⟨#[],by rw[q];simp⟩⟩
def Un.refl:Un fs ex H H h h:=Un.kept λ_ _ q=>q
def Un.laid(k:∀b u,h.get? b=dF u->h'.get? b=dF u)(hp:h.objs.size<=a)(hn:H a=dG):Un fs ex H (upd H a o) h h' where
 keep:=λb u q _ _ _=>k b u q
 slot:=λb u q _ _ _=>⟨u.slots,k b u q⟩
 free:=λb u q n _=>by rw[dL<|ë<|è (Ù q) hp];exact n
 there:=λb u q _=>⟨u,k b u q⟩
 tups:=λb xs q=>by rw[dL<|Zj q hn];exact q
 frzs:=λb u xs q=>by rw[dL<|Zj q hn];exact q
 tbls:=λb ps q=>⟨#[],by rw[dL<|Zj q hn,q];simp⟩
def Un.write(mu:Mut<|H x)(he:e=x\/H e=dF (.own x))(k:∀b u,b≠e->h.get? b=dF u->h'.get? b=dF u)(heo:∃u,h'.get? e=dF u):Un fs ex H (upd H x o) h h':=by
 have hx:∀b,H b=dG->b≠x:=λb n z=>by subst z;rw[n]at mu;exact mu
 have hb:∀b,H b=dG->b≠e:=λb n z=>by
  subst z;rcases he with r|r
  .exact hx b n r
  .rw[n]at r;cases r
 have hm:∀b u,H b=dF u->¬ Mut (dF u)->b≠x:=λb u q nm z=>by subst z;rw[q]at mu;exact nm mu
 refine⟨λb u q n _ _=>k b u (hb b n) q,λb u q n _ _=>⟨u.slots,k b u (hb b n) q⟩,λb u q n _=>by rw[dL<|hx b n];exact n,λb u q _=>?_,
   λb xs q=>by rw[dL<|hm b _ q λz=>z];exact q,λb u xs q=>by rw[dL<|hm b _ q λz=>z];exact q,λb ps q=>⟨#[],by rw[dL<|hm b _ q λz=>z,q];simp⟩⟩
 by_cases hbe:b=e
 .subst hbe;exact heo
 .exact⟨u,k b u hbe q⟩
end
abbrev trk(h:ć)(H:Hp):List Ê:=(List.range h.objs.size).filter λa=>(H a).isSome
abbrev Ma(h:ć)(H:Hp):ć:=PySem.W.hideAll h<|trk h H
def AW(h:ć)(H:Hp):(Ma h H).objs.size=h.objs.size:=PySem.W.hideAll_size _ _
def CY{o:Obj}(e:h.get? b=dF o)(n:H b=dG):(Ma h H).get? b=dF o :=
 PySem.W.hideAll_get _ e λhm=>by have q:(H b).isSome=dI:=(Ĝ.mp hm).2;rw[n]at q;simp at q
def Fc{o:Obj}(e:(Ma h H).get? b=dF o):h.get? b=dF o/\H b=dG:=by
 have e':h.get? b=dF o:=PySem.W.of_hideAll (trk h H) e;refine⟨e',?_⟩;cases q:H b with
 |none=>rfl
 |some x =>have hm:b∈trk h H:=Ĝ.mpr ⟨Υ.mpr<|Ù e',by simp[q]⟩;have z:(Ma h H).get? b=dG:=PySem.W.hideAll_none (trk h H) hm;rw[z]at e;cases e
abbrev D5(g h:ć)(L:Ê):List<|Ê×Obj:=(List.range h.objs.size).filterMap λa=>if a=L\/(g.get? a).isSome=dI then dG else(h.get? a).map λo=>(a,o)
abbrev rest(g h:ć)(L d:Ê):List<|Ê×Obj:=(D5 g h L).filter λp=>fJ (p.1≠d)
structure Mod(K:Frag)(mg:Str->Option Â)(base:ć):Prop where
 kin:K.In base
 glob:base.Ns Ą mg
 blt:∃mb,base.Ns builtinsNs mb/\∀x:Str,x≠"__name__"->mb x=ŕ x
 nolimit:base.NoLimit
structure Cx where
 prog:é
 w:Ā
 K:Frag
 mg:Str->Option Â
 base:ć
 A:ď
 N:List Str
 s₀:Ä
 H₀:Hp
 env:Env
 outer:List Env
 stack:List Env
 ex:List Ê
 fn:Str->Bool
 calm:Bool
 pn:List<|Ê×Obj
 xe:Â->Ä->Prop
abbrev frs(l:List Env):List Ê:=l.filterMap (·.frame)
noncomputable abbrev Cx.fs(X:Cx):List Ê:=frs X.outer
abbrev Vis(sc:ů)(x:Str):Prop:=sc.names.lookup x=dF .local\/sc.names.lookup x=dF .cell\/sc.names.lookup x=dF .free
abbrev Loc(sc:ů)(x:Str):Prop:=sc.names.lookup x=dF .local\/sc.names.lookup x=dF .cell
abbrev RC(env:Env)(h:ć)(m:Str->Option Â)(x:Str)(u:Â):Prop :=
 (env.kindOf x=dF .local/\m x=dF u)\/((env.kindOf x=dF .cell\/env.kindOf x=dF .free)/\∃c,env.cells.lookup x=dF c/\h.IsCell c (dF u))
structure Cx.Ok(X:Cx):Prop where
 mod:Mod X.K X.mg X.base
 kind:X.env.scope.kind=.function
 glob:X.env.globals=Ą
 blt:X.env.builtins=builtinsNs
 above:X.s₀.heap.objs.size<=X.env.locals
 inj:∀x y c,X.env.cells.lookup x=dF c->X.env.cells.lookup y=dF c->x=y
 has:∀x,(X.env.kindOf x=dF .cell\/X.env.kindOf x=dF .free)->∃c,X.env.cells.lookup x=dF c
 cab:∀x c,X.fn x=dI->X.env.cells.lookup x=dF c->X.s₀.heap.objs.size<=c
 hd:X.calm=dI->X.A.handled=dG
 frames:X.A.frames=dF X.stack
 stk:X.stack=X.outer\/(X.stack=X.env::X.outer/\X.env.frame=dF X.env.locals)
 exf:∀b∈X.ex,b≠X.env.locals/\∀x c,X.env.cells.lookup x=dF c->c≠b
 bs:∀b o,X.base.get? b=dF o->X.s₀.heap.get? b=dF o/\X.H₀ b=dG
 bsz:X.base.objs.size<=X.s₀.heap.objs.size
 noex:∀b o,X.base.get? b=dF o->b∉X.ex
 exfs:∀b∈X.ex,b∉X.fs
 funs:X.s₀.heap.FunFrames X.base X.outer
 frf:∀b∈X.fs,X.H₀ b=dG
structure Inv(X:Cx)(Á:List<|Ê×Obj)(σ:List<|Option V)(H:Hp)(s:Ä):Prop where
 ok:X.Ok
 os:s.os=X.s₀.os
 bare:ω s.gens
 base:Un X.fs X.ex X.H₀ H X.s₀.heap s.heap
 loc:∃m,s.heap.Ns X.env.locals m/\∀(i:Nat) (x:Str) (v:V),X.N[i]?=dF x->σ[i]?=dF (dF v)->Vis X.env.scope x->∃u,RelV v u/\RC X.env s.heap m x u
 cell:∀x c,X.env.cells.lookup x=dF c->∃v,s.heap.IsCell c v
 free:H X.env.locals=dG
 freeC:∀x c,X.env.cells.lookup x=dF c->H c=dG
 pin:∀p∈X.pn++Á,s.heap.get? p.1=dF p.2/\H p.1=dG/\p.1≠X.env.locals/\p.1∉X.fs/\∀v,p.2.data≠.cell v
 hok:HOk X.prog X.w H s.heap
 len:σ.length=X.N.length
section
variable {X:Cx}{Á:List (Ê×Obj)}{σ:List (Option V)}{H H':Hp}{s:Ä}{h':ć}
def Cx.Ok.nofr(ok:X.Ok){b:Ê}{o:Obj}(e:X.base.get? b=dF o):b∉X.fs:=λhb=>by have:=(ok.funs.mem hb).1;rw[e]at this;cases this
def Inv.bs(I:Inv X Á σ H s):∀b o,X.base.get? b=dF o->s.heap.get? b=dF o/\H b=dG:=λb o e =>
 ⟨I.base.keep b o (I.ok.bs b o e).1 (I.ok.bs b o e).2 (I.ok.nofr e)<|I.ok.noex b o e,I.base.free b o (I.ok.bs b o e).1 (I.ok.bs b o e).2<|I.ok.noex b o e⟩
def Inv.bk(I:Inv X Á σ H s):∀b o,X.base.get? b=dF o->s.heap.get? b=dF o:=λb o e=>(I.bs b o e).1
def Inv.mod(I:Inv X Á σ H s):Mod X.K X.mg X.base:=I.ok.mod
def Inv.kIn(I:Inv X Á σ H s):X.K.In s.heap:=I.ok.mod.kin.keeps I.bk
def Inv.lt(I:Inv X Á σ H s):X.env.locals<s.heap.objs.size:=let ⟨_,hn,_⟩:=I.loc;hn.lt
def Inv.sz(I:Inv X Á σ H s):X.s₀.heap.objs.size<=s.heap.objs.size:=Ô I.ok.above (ş I.lt)
variable {a:Ê}
def Inv.nofs(I:Inv X Á σ H s)(h:s.heap.objs.size<=a):a∉X.fs:=λhb=>by let⟨_,o,ho,_⟩:=I.ok.funs.mem hb;exact fI (è (Ù ho)<|Ô I.sz h) (ą _)
def Inv.cne(I:Inv X Á σ H s):∀x c,X.env.cells.lookup x=dF c->c≠X.env.locals:=λx c e z=>by let⟨v,o,ho,hd⟩:=I.cell x c e;let⟨m,⟨o',es,ep,Ρ,hd',_⟩,_⟩:=I.loc;rw[z,Ρ]at ho;cases ho;rw[hd']at hd;cases hd
def Inv.funs(I:Inv X Á σ H s):s.heap.FunFrames X.base X.outer:=by
 have all:∀(l:List Env),(∀b∈frs l,b∈X.fs)->X.s₀.heap.FunFrames X.base l->s.heap.FunFrames X.base l:=by
  intro l;induction l with
  |nil=>intro _ _;trivial
  |cons env r ih =>intro hs hl;let⟨hk,⟨L,o,hf,hn,ho,hd⟩,hr⟩:=hl;have hL:L∈X.fs:=hs L (by unfold frs;rw[Ď,hf];exact ì);let⟨sl,e⟩:=I.base.slot L o ho (I.ok.frf L hL) hL λz=>I.ok.exfs L z hL;exact⟨hk,⟨L,_,hf,hn,e,hd⟩,ih (λb hb=>hs b<|by unfold frs;rw[Ď,hf];exact à _ hb) hr⟩
 exact all X.outer (λ_ hb=>hb) I.ok.funs
def Inv.stack(I:Inv X Á σ H s):s.heap.FunFrames X.base X.stack:=by
 rcases I.ok.stk with e|⟨e,hf⟩
 .rw[e];exact I.funs
 .rw[e];let⟨m,hn,_⟩:=I.loc;refine .cons (by rw[I.ok.kind];decide) hf hn ?_ I.funs;exact Heap.get?_none_of_le<|Ô I.ok.bsz I.ok.above
def Inv.stkSub(I:Inv X Á σ H s):∀b∈frs X.stack,b∈X.env.locals::X.fs:=λb hb=>by
 rcases I.ok.stk with e|⟨e,hf⟩
 .rw[e]at hb;exact à _ hb
 .rw[e]at hb;unfold frs at hb;rw[Ď,hf]at hb;exact hb
def Inv.stkFree(I:Inv X Á σ H s):∀b∈frs X.stack,H b=dG:=λb hb=>by
 rcases Æ.mp (I.stkSub b hb)with e|hb
 .rw[e];exact I.free
 .obtain⟨_,o,ho,_⟩:=I.ok.funs.mem hb;exact I.base.free b o ho (I.ok.frf b hb) λz=>I.ok.exfs b z hb
variable {g':Array GenState} {t':Nat} {d':Drawn} {ch:List Ê}
def Inv.step(I:Inv X Á σ H s)
  (hch:∀b∈ch,(b∈X.ex\/X.s₀.heap.objs.size<=b)/\b≠X.env.locals/\(∀x c,X.env.cells.lookup x=dF c->c≠b)/\∀p∈X.pn++Á,p.1≠b)
  (keep:∀b o,b≠X.env.locals->b∉X.fs->b∉ch->s.heap.get? b=dF o->H b=dG->h'.get? b=dF o)
  (slot:∀b o,b≠X.env.locals->b∈X.fs->b∉ch->s.heap.get? b=dF o->H b=dG->∃sl,h'.get? b=dF {o with slots:=sl}) (free:∀b o,b∉ch->s.heap.get? b=dF o->H b=dG->H' b=dG)
  (there:∀b o,b∉ch->s.heap.get? b=dF o->∃o',h'.get? b=dF o')
  (tups:∀b xs,H b=dF (.tup xs)->H' b=dF (.tup xs)) (frzs:∀b o u,H b=dF (.frz o u)->H' b=dF (.frz o u)) (tbls:∀b ps,H b=dF (.tbl ps)->∃more,H' b=dF (.tbl<|ps++more))
  (ns:∀m,s.heap.Ns X.env.locals m->h'.Ns X.env.locals m) (hok:HOk X.prog X.w H' h') (hg:ω g') :
  Inv X Á σ H' {s with heap:=h',gens:=g',drawn:=d',toks:=t'}:=by
 have neL:∀b o,X.s₀.heap.get? b=dF o->b≠X.env.locals:=λb o e=>ë<|è (Ù e) I.ok.above;have neC:∀b o,X.s₀.heap.get? b=dF o->b∉X.ex->b∉ch:=λb o e hx hb=>by
  rcases (hch b hb).1 with z|z
  .exact hx z
  .exact fI (è (Ù e) z)<|ą _
 have cellK:∀x c,X.env.cells.lookup x=dF c->∀v,s.heap.IsCell c v->h'.IsCell c v:=λx c e v ⟨o,ho,hd⟩=>by
  have nch:c∉ch:=λz=>(hch c z).2.2.1 x c e rfl;by_cases hc:c∈X.fs
  .obtain⟨sl,q⟩:=slot c o (I.cne x c e) hc nch ho<|I.freeC x c e;exact⟨_,q,hd⟩
  .exact⟨o,keep c o (I.cne x c e) hc nch ho<|I.freeC x c e,hd⟩
 refine⟨I.ok,I.os,hg,⟨λb o e n hb hx=>?_,λb o e n hb hx=>?_,λb o e n hx=>?_,λb o e hx=>?_,λb xs e=>tups b xs<|I.base.tups b xs e,λb o xs e=>frzs b o xs<|I.base.frzs b o xs e,λb ps e=>?_⟩,?_,λx c e=>?_,?_,λx c e=>?_,λp hp=>?_,hok,I.len⟩
 .exact keep b o (neL b o e) hb (neC b o e hx) (I.base.keep b o e n hb hx)<|I.base.free b o e n hx
 .obtain⟨sl,e1⟩:=I.base.slot b o e n hb hx;let⟨sl',e2⟩:=slot b _ (neL b o e) hb (neC b o e hx) e1<|I.base.free b o e n hx;exact⟨sl',e2⟩
 .obtain⟨o',e1⟩:=I.base.there b o e hx;exact free b o' (neC b o e hx) e1<|I.base.free b o e n hx
 .obtain⟨o',e1⟩:=I.base.there b o e hx;exact there b o' (neC b o e hx) e1
 .obtain⟨m1,e1⟩:=I.base.tbls b ps e;let⟨m2,e2⟩:=tbls b _ e1;exact⟨m1++m2,by rw[e2,Array.append_assoc]⟩
 .obtain⟨m,hn,hl⟩:=I.loc;refine⟨m,ns m hn,λi x v e1 e2 e3=>?_⟩;let⟨u,r,l⟩:=hl i x v e1 e2 e3;refine⟨u,r,?_⟩;rcases l with l|⟨k,c,e,z⟩
  .exact .inl l
  .exact .inr ⟨k,c,e,cellK x c e _ z⟩
 .obtain⟨v,z⟩:=I.cell x c e;exact⟨v,cellK x c e v z⟩
 .obtain⟨m,⟨o,_,_,ho,_⟩,_⟩:=I.loc;exact free _ o (λz=>(hch _ z).2.1 rfl) ho I.free
 .obtain⟨v,o,ho,hd⟩:=I.cell x c e;exact free c o (λz=>(hch c z).2.2.1 x c e rfl) ho<|I.freeC x c e
 .obtain⟨e,n,ne,nf,d⟩:=I.pin p hp;have nch:p.1∉ch:=λz=>(hch p.1 z).2.2.2 p hp rfl;exact⟨keep p.1 p.2 ne nf nch e n,free p.1 p.2 nch e n,ne,nf,d⟩
def Inv.un(I:Inv X Á σ H s)(u:Un X.fs [] H H' s.heap h')(hok:HOk X.prog X.w H' h'):Inv X Á σ H' {s with heap:=h',toks:=t'}:=by
 let⟨m,⟨o,es,ep,ho,r⟩,_⟩:=id I.loc;let⟨sl,hL⟩:=u.any ho I.free (by simp);exact I.step (g':=s.gens) (d':=s.drawn) (ch:=[]) (λ_ z=>nomatch z) (λb o _ hb _ e n=>u.keep b o e n hb<|by simp) (λb o _ hb _ e n=>u.slot b o e n hb<|by simp) (λb o _ e n=>u.free b o e n<|by simp) (λb o _ e=>u.there b o e<|by simp) u.tups u.frzs u.tbls (λm' hm=>by
   let⟨o',ap,ep',Ρ,r'⟩:=hm
   rw[ho]at Ρ;cases Ρ
   exact⟨_,ap,ep',hL,r'⟩) hok I.bare
def Inv.call(I:Inv X Á σ H s)(u:Un (frs X.stack) ch H H' s.heap h')(hok:HOk X.prog X.w H' h')(hg:ω g')
  (hch:∀b∈ch,(b∈X.ex\/X.s₀.heap.objs.size<=b)/\b≠X.env.locals/\(∀x c,X.env.cells.lookup x=dF c->c≠b)/\∀p∈X.pn++Á,p.1≠b) :
  Inv X Á σ H' {s with heap:=h',gens:=g',drawn:=d',toks:=t'}:=by
 let⟨m,⟨o,es,ep,ho,r⟩,_⟩:=id I.loc;let⟨sl,hL⟩:=u.any ho I.free λz=>(hch _ z).2.1 rfl;exact I.step (ch:=ch) hch (λb o hL hb hc e n=>u.keep b o e n (λz=>(Æ.mp<|I.stkSub b z).elim hL hb) hc) (λb o _ _ hc e n=>u.any e n hc) (λb o hc e n=>u.free b o e n hc) (λb o hc e=>u.there b o e hc) u.tups u.frzs u.tbls (λm' hm=>by
   let⟨o',ap,ep',Ρ,r'⟩:=hm
   rw[ho]at Ρ;cases Ρ
   exact⟨_,ap,ep',hL,r'⟩) hok hg
def Inv.turned{it:Ê}(I:Inv X Á σ H s)(k:∀b o,b≠it->s.heap.get? b=dF o->h'.get? b=dF o)(hn:H it=dG)(hL:it≠X.env.locals)
  (h1:it∈X.ex\/X.s₀.heap.objs.size<=it) (h2:∀x c,X.env.cells.lookup x=dF c->c≠it) (h3:∀p∈X.pn++Á,p.1≠it):Inv X Á σ H {s with heap:=h',toks:=t'}:=by
 have nit:∀b u,H b=dF u->b≠it:=λb u e z=>by rw[z,hn]at e;cases e
 refine I.step (g':=s.gens) (d':=s.drawn) (ch:=[it]) (λb hb=>?_) (λb o _ _ hc e _=>k b o (λz=>hc<|by simp[z]) e) (λb o _ _ hc e _=>⟨o.slots,k b o (λz=>hc<|by simp[z]) e⟩) (λ_ _ _ _ n=>n)
  (λb o hc e=>⟨o,k b o (λz=>hc<|by simp[z]) e⟩) (λ_ _ e=>e) (λ_ _ _ e=>e) (λb ps e=>⟨#[],by rw[e];simp⟩) (λm hm=>?_) (λb u e=>?_) I.bare
 .have e:b=it:=⇑hb
  subst e;exact⟨h1,hL,h2,h3⟩
 .obtain⟨o,es,ep,ho,r⟩:=hm;exact⟨o,es,ep,k _ o (Ne.symm hL) ho,r⟩
 .refine(I.hok b u e).stay (λc v hc q=>k c v ?_ q) (λ_ q=>q) λ_ _ q=>q;rcases hc with z|z
  .rw[z];exact nit b u e
  .exact nit c _ z
def Inv.tok(I:Inv X Á σ H s)(t:Nat):Inv X Á σ H {s with toks:=t}:=I.un (h':=s.heap) (t':=t) Un.refl I.hok
def Inv.kept(I:Inv X Á σ H s)(k:∀b u,s.heap.get? b=dF u->h'.get? b=dF u):Inv X Á σ H {s with heap:=h',toks:=t'}:=I.un (Un.kept k) (I.hok.kept k)
variable {o:HO}
def Inv.laid(I:Inv X Á σ H s)(k:∀b u,s.heap.get? b=dF u->h'.get? b=dF u)(hp:s.heap.objs.size<=a)(new:dW X.prog X.w (upd H a o) h' a o) :
  Inv X Á σ (upd H a o) {s with heap:=h',toks:=t'}:=I.un (Un.laid k hp<|I.hok.fresh hp)<|I.hok.laid k hp new
def Inv.write{x e:Ê}(I:Inv X Á σ H s)(mu:Mut<|H x)(he:e=x\/H e=dF (.own x))(k:∀b u,b≠e->s.heap.get? b=dF u->h'.get? b=dF u)(heo:∃u,h'.get? e=dF u)
  (new:dW X.prog X.w (upd H x o) h' x o):Inv X Á σ (upd H x o) {s with heap:=h',toks:=t'}:=I.un (Un.write mu he k heo)<|I.hok.write mu he k heo new
def Inv.pins_of{pins':List (Ê×Obj)}(I:Inv X Á σ H s)(h:∀p∈pins',s.heap.get? p.1=dF p.2/\H p.1=dG/\p.1≠X.env.locals/\p.1∉X.fs/\∀v,p.2.data≠.cell v):Inv X pins' σ H s :=
 ⟨I.ok,I.os,I.bare,I.base,I.loc,I.cell,I.free,I.freeC,λp hp=>(â.mp hp).elim (λz=>I.pin p<|Û _ z)<|h p,I.hok,I.len⟩
variable {i:Nat} {x:Str}
def Jp{N:List Str}(hN:N.Nodup){j:Nat}(a:N[i]?=dF x)(b:N[j]?=dF x):i=j:=by let⟨h1,e1⟩:=Ð.mp a;let⟨h2,e2⟩:=Ð.mp b;exact(ϲ hN).mp (e1.trans e2.symm)
variable {M:cO} {A:ď} {u:Â} {Q:Unit->Ä->Prop}
def KJ{E:Â->Ä->Prop}{v:V}(I:Inv X Á σ H s)(hN:X.N.Nodup)(hi:X.N[i]?=dF x)(hx:Loc X.env.scope x)(r:RelV v u)
  (h:∀s',Inv X Á (σ.set i<|dF v) H s'->(∃a,Α a s.heap s'.heap/\(a=X.env.locals\/X.env.cells.lookup x=dF a))->Q () s') (hf:X.fn x=dI\/X.env.scope.names.lookup x=dF .local:=by first|exact .inl rfl|exact .inr rfl|assumption):wpAny M A (storeName X.env x u) Q E s:=by
 let⟨m,hn,hl⟩:=id I.loc;have bV:(X.env.scope.kind == .class||(X.env.scope.kind == .module&&X.env.locals != X.env.globals))=dJ:=by rw[I.ok.kind];rfl
 have hiσ:i<σ.length:=by rw[I.len];exact(Ð.mp hi).1
 have cne:=I.cne;have cr:∀{a:Ê}{h':ć},(∃o,s.heap.get? a=dF o/\H a=dG)->Α a s.heap h'->HOk X.prog X.w H h':=λ{a h'} ha hs b ob e=>by
  let⟨_,_,hfree⟩:=ha;refine(I.hok b ob e).stay (λc w' hc q=>(hs.2 c ?_).trans q) (λ_ q=>q) λ_ _ q=>q;rintro rfl;rcases hc with rfl|hc
  .rw[hfree]at e;cases e
  .rw[hfree]at hc;cases hc
 rcases hx with hk|hk
 .refine wpAny_storeName_local hk hn (λh' hn' hs=>?_) bV;let⟨oL,_,_,hoL,_⟩:=id hn;refine h _ ⟨I.ok,I.os,I.bare,⟨λb o e n hb hx=>?_,λb o e n hb hx=>?_,I.base.free,λb o e hx=>?_,I.base.tups,I.base.frzs,I.base.tbls⟩,⟨_,hn',λj y v' e1 e2 e3=>?_⟩,λy c e=>?_,I.free,I.freeC,λp hp=>?_,cr ⟨oL,hoL,I.free⟩ hs,by simpa using I.len⟩ ⟨_,hs,.inl rfl⟩
  .exact(hs.2 b<|ë<|è (Ù e) I.ok.above).trans<|I.base.keep b o e n hb hx
  .obtain⟨sl,e1⟩:=I.base.slot b o e n hb hx;exact⟨sl,(hs.2 b<|ë<|è (Ù e) I.ok.above).trans e1⟩
  .obtain⟨o',e1⟩:=I.base.there b o e hx;exact⟨o',(hs.2 b<|ë<|è (Ù e) I.ok.above).trans e1⟩
  .by_cases hj:j=i
   .subst hj;rw[hi]at e1;cases e1;rw[Β hiσ]at e2;cases e2;exact⟨u,r,.inl ⟨hk,by simp⟩⟩
   .rw[Ħ<|Ne.symm hj]at e2;let⟨u',r',q⟩:=hl j y v' e1 e2 e3;refine⟨u',r',?_⟩;rcases q with⟨k,e⟩|⟨k,c,e,z⟩
    .refine .inl ⟨k,?_⟩;have:y≠x:=λe=>hj<|Jp hN e1<|e▸hi;simp[this,e]
    .exact .inr ⟨k,c,e,z.sameBut hs<|cne y c e⟩
  .obtain⟨w',z⟩:=I.cell y c e;exact⟨w',z.sameBut hs<|cne y c e⟩
  .obtain⟨e,n,ne,nf,d⟩:=I.pin p hp;exact⟨(hs.2 p.1 ne).trans e,n,ne,nf,d⟩
 .have hfn:X.fn x=dI:=by
   rcases hf with z|z
   .exact z
   .rw[z]at hk;cases hk
  let⟨c,hc⟩:=I.ok.has x<|.inl hk;let⟨w',z⟩:=I.cell x c hc;refine wpAny_storeName_cell I.ok.kind hk hc z λh' hc' hs=>?_;let⟨oc,hoc,hocd⟩:=id z;refine h {s with heap:=h'} ⟨I.ok,I.os,I.bare,⟨λb o e n hb hx=>?_,λb o e n hb hx=>?_,I.base.free,λb o e hx=>?_,I.base.tups,I.base.frzs,I.base.tbls⟩,⟨m,hn.sameBut hs<|Ne.symm<|cne x c hc,λj y v' e1 e2 e3=>?_⟩,λy c' e=>?_,I.free,I.freeC,λp hp=>?_,cr ⟨oc,hoc,I.freeC x c hc⟩ hs,by simpa using I.len⟩ ⟨c,hs,.inr hc⟩
  .exact(hs.2 b<|ë<|è (Ù e)<|I.ok.cab x c hfn hc).trans<|I.base.keep b o e n hb hx
  .obtain⟨sl,e1⟩:=I.base.slot b o e n hb hx;exact⟨sl,(hs.2 b<|ë<|è (Ù e)<|I.ok.cab x c hfn hc).trans e1⟩
  .obtain⟨o',e1⟩:=I.base.there b o e hx;exact⟨o',(hs.2 b<|ë<|è (Ù e)<|I.ok.cab x c hfn hc).trans e1⟩
  .by_cases hj:j=i
   .subst hj;rw[hi]at e1;cases e1;rw[Β hiσ]at e2;cases e2;exact⟨u,r,.inr ⟨.inl hk,c,hc,hc'⟩⟩
   .rw[Ħ<|Ne.symm hj]at e2;let⟨u',r',q⟩:=hl j y v' e1 e2 e3;refine⟨u',r',?_⟩;rcases q with q|⟨k,c',e,z'⟩
    .exact .inl q
    .refine .inr ⟨k,c',e,z'.sameBut hs ?_⟩;rintro rfl;exact hj<|Jp hN e1<|I.ok.inj _ _ _ e hc▸hi
  .by_cases hcc:c'=c
   .subst hcc;exact⟨_,hc'⟩
   .obtain⟨w2,z2⟩:=I.cell y c' e;exact⟨w2,z2.sameBut hs hcc⟩
  .obtain⟨e,n,ne,nf,d⟩:=I.pin p hp;refine⟨(hs.2 p.1 ?_).trans e,n,ne,nf,d⟩;intro q;rw[q,hoc]at e;have q':oc=p.2:=í e;exact d w' (by rw[<-q'];exact hocd)
def JL{E:Â->Ä->Prop}{v:V}(I:Inv X Á σ H s)(hN:X.N.Nodup)(hi:X.N[i]?=dF x)(hx:Loc X.env.scope x)(r:RelV v u)
  (h:∀s',Inv X Á (σ.set i<|dF v) H s'->Q () s') (hf:X.fn x=dI\/X.env.scope.names.lookup x=dF .local:=by first|exact .inl rfl|exact .inr rfl|assumption):wpAny M A (storeName X.env x u) Q E s :=
 KJ I hN hi hx r (λs' I' _=>h s' I') hf
def Inv.call'{s':Ä}(I:Inv X Á σ H s)(ho:s'.os=s.os)(u:Un (frs X.stack) ch H H' s.heap s'.heap)(hok:HOk X.prog X.w H' s'.heap)(hg:ω s'.gens)
  (hch:∀b∈ch,(b∈X.ex\/X.s₀.heap.objs.size<=b)/\b≠X.env.locals/\(∀x c,X.env.cells.lookup x=dF c->c≠b)/\∀p∈X.pn++Á,p.1≠b):Inv X Á σ H' s':=by
 let⟨h',g',d',t',o'⟩:=s';have e:o'=s.os:=ho;subst e;exact I.call (g':=g') (t':=t') (d':=d') u hok hg hch
end
noncomputable abbrev XK:=Â->Option Ê->Hp->Prop
noncomputable abbrev St:=List<|Option V
noncomputable abbrev VK:=V->Hp->Prop
noncomputable abbrev TE:=St->Hp->VK->Prop
noncomputable abbrev TT:=St->Hp->(Bool->Hp->Prop)->Prop
noncomputable abbrev TA:=St->Hp->(List V->Hp->Prop)->Prop
structure Ends where
 nx:St->Hp->Prop
 rt:VK
 bk:St->Hp->Prop:=λ_ _=>False
 ct:St->Hp->Prop:=λ_ _=>False
noncomputable abbrev TS:=Ends->St->Hp->Prop
inductive EP (X:Cx) (Á:List<|Ê×Obj) (σ:St) (Q:VK) (u:Â) (s':Ä):Prop
 |mk (v:V) (H':Hp) (i:Inv X Á σ H' s') (r:RelV v u) (q:Q v H')
abbrev TP(X:Cx)(Á:List<|Ê×Obj)(σ:St)(Q:Bool->Hp->Prop)(b:Bool)(s':Ä):Prop:=∃H',Inv X Á σ H' s'/\Q b H'
inductive AP (X:Cx) (Á:List<|Ê×Obj) (σ:St) (Q:List V->Hp->Prop) (us:List Â) (s':Ä):Prop
 |mk (vs:List V) (H':Hp) (i:Inv X Á σ H' s') (r:fo vs us) (q:Q vs H')
abbrev SP(X:Cx)(Á:List<|Ê×Obj)(D:Ends)(f:Flow)(s':Ä):Prop :=
 match f with
 |.next=>∃Ņ H',Inv X Á Ņ H' s'/\D.nx Ņ H'
 |.brk=>∃Ņ H',Inv X Á Ņ H' s'/\D.bk Ņ H'
 |.cont=>∃Ņ H',Inv X Á Ņ H' s'/\D.ct Ņ H'
 |.ret u=>∃v Ņ H',Inv X Á Ņ H' s'/\RelV v u/\D.rt v H'
abbrev PE(X:Cx)(e:Expr)(t:TE):Prop :=
 ∀(Á:List<|Ê×Obj) (s:Ä) (σ:St) (H:Hp) (Q:VK),Inv X Á σ H s->t σ H Q->wpAny (Þ X.prog X.w) X.A (eval e X.env) (EP X Á σ Q) X.xe s
abbrev PT(X:Cx)(e:Expr)(t:TT):Prop :=
 ∀(Á:List<|Ê×Obj) (s:Ä) (σ:St) (H:Hp) (Q:Bool->Hp->Prop),Inv X Á σ H s->t σ H Q->wpAny (Þ X.prog X.w) X.A (bH e X.env<|eval e X.env) (TP X Á σ Q) X.xe s
abbrev PW(X:Cx)(e:Expr)(t:TT):Prop :=
 ∀(aa:Sem Â) (Á:List<|Ê×Obj) (s:Ä) (σ:St) (H:Hp) (Q:Bool->Hp->Prop),Inv X Á σ H s->t σ H Q->wpAny (Þ X.prog X.w) X.A (bH e X.env aa) (TP X Á σ Q) X.xe s
def PW.pt{X:Cx}{e:Expr}{t:TT}(h:PW X e t):PT X e t:=h _
abbrev PA(X:Cx)(es:List Expr)(t:TA):Prop :=
 ∀(ç:Pos) (Á:List<|Ê×Obj) (s:Ä) (σ:St) (H:Hp) (Q:List V->Hp->Prop),Inv X Á σ H s->t σ H Q->wpAny (Þ X.prog X.w) X.A (spliced<|Č ç<|Î es X.env) (AP X Á σ Q) X.xe s
abbrev PS(X:Cx)(st:ğ)(t:TS):Prop :=
 ∀(Á:List<|Ê×Obj) (s:Ä) (σ:St) (H:Hp) (D:Ends),Inv X Á σ H s->t D σ H->wpAny (Þ X.prog X.w) X.A (exec st X.env) (SP X Á D) X.xe s
abbrev PSs(X:Cx)(st:List ğ)(t:TS):Prop :=
 ∀(Á:List<|Ê×Obj) (s:Ä) (σ:St) (H:Hp) (D:Ends),Inv X Á σ H s->t D σ H->wpAny (Þ X.prog X.w) X.A (execs st X.env) (SP X Á D) X.xe s
def thn{α:Type}{t:Sem α}{Q Q':α->Ä->Prop}{M:cO}{A:ď}{E:Â->Ä->Prop}{s:Ä}(h:wpAny M A t Q E s)(hQ:∀a s,Q a s->Q' a s):wpAny M A t Q' E s:=Ġ h hQ λ_ _ x=>x
section
variable {X:Cx}
variable {Á:List (Ê×Obj)} {s:Ä} {σ:St} {H:Hp}
def bin{a b:Expr}{ta tb:TE}(ha:PE X a ta)(hb:PE X b tb){R:V->V->Hp->Prop}(I:Inv X Á σ H s)(h:ta σ H λx H1=>tb σ H1 λy H2=>R x y H2)
  {α:Type}{Q:α->Ä->Prop}{f:Â->Â->Sem α}
  (hf:∀v u s2 x y H2,Inv X Á σ H2 s2->RelV x v->RelV y u->R x y H2->wpAny (Þ X.prog X.w) X.A (f v u) Q X.xe s2) :
  wpAny (Þ X.prog X.w) X.A (eval a X.env) (λv ģ=>wpAny (Þ X.prog X.w) X.A (eval b X.env) (λu bw=>wpAny (Þ X.prog X.w) X.A (f v u) Q X.xe bw) X.xe ģ) X.xe s:=by
 refine thn (ha Á s σ H _ I h) λv s1 ⟨x,H1,I1,r1,q1⟩=>?_;refine thn (hb Á s1 σ H1 _ I1 q1) λu s2 ⟨y,H2,I2,r2,q2⟩=>?_;exact hf v u s2 x y H2 I2 r1 r2 q2
abbrev QS(i:Nat):TE:=λσ H Q=>∃v,σ[i]?=dF (dF v)/\Q v H
abbrev tC(v:V):TE:=λ_ H Q=>Q v H
variable {x:Str} {ç:Pos}
def BK{i:Nat}(hN:X.N[i]?=dF x)(hv:Vis X.env.scope x)(hd:(x==("__debug__" : Str))=dJ:=by decide)(aq:(x==("__classdict__" : Str))=dJ:=by decide):PE X (.Name x ç)<|QS i:=by
 intro Á s σ H Q I h;let⟨v,e,h⟩:=h;let⟨m,hn,hl⟩:=I.loc;let⟨u,r,l⟩:=hl i x v hN e hv;have fin:EP X Á σ Q u s:=⟨v,H,I,r,h⟩
 rcases l with⟨hk,hm⟩|⟨hk,c,hc,hcell⟩
 .exact wpAny_Name (wpAny_loadName_local I.ok.kind hk hn hm fin) hd
 .rcases hk with hk|hk
  .exact wpAny_Name (wpAny_loadName_cell I.ok.kind hk hc hcell fin) hd
  .exact wpAny_Name (wpAny_loadName_free I.ok.kind hk hc hcell fin aq) hd
def Og{i j ç}:PE X (.Constant (.int i) j ç)<|tC<|.int i:=λ_ _ _ H _ I h=>wpAny_Constant_int ⟨.int i,H,I.tok _,⟨_,rfl⟩,h⟩
def Qp{b j ç}:PE X (.Constant (.bool b) j ç)<|tC<|.bl b:=λ_ _ _ H _ I h=>Constant_bool ⟨.bl b,H,I,rfl,h⟩
def CI{j ç}:PE X (.Constant .none j ç)<|tC .non:=λ_ _ _ H _ I h=>cA ⟨.non,H,I,rfl,h⟩
def pe_str{x j ç}:PE X (.Constant (.str x) j ç)<|tC<|.str x:=λ_ _ _ H _ I h=>Calls.Constant_str ⟨.str x,H,I.tok _,⟨_,rfl⟩,h⟩
abbrev Gl(X:Cx)(x:Str):Prop:=X.env.kindOf x=dF .globalImplicit
variable {u:Â} {Q:Â->Ä->Prop}
def Yu{E:Â->Ä->Prop}(I:Inv X Á σ H s)(hg:Gl X x)(hm:X.mg x=dF u)(h:Q u s)
  (hd:(x==("__debug__" : Str))=dJ:=by decide):wpAny (Þ X.prog X.w) X.A (eval (.Name x ç) X.env) Q E s :=
 Calls.Name_function_global I.ok.kind hg (Calls.loadGlobal_global (by rw[I.ok.glob];exact I.mod.glob.keeps I.bk) hm h) hd
def Xs{E:Â->Ä->Prop}(I:Inv X Á σ H s)(hg:Gl X x)(hm:X.mg x=dG)(hv:ŕ x=dF u)(h:Q u s)
  (hn:x≠"__name__":=by decide) (hd:(x==("__debug__" : Str))=dJ:=by decide):wpAny (Þ X.prog X.w) X.A (eval (.Name x ç) X.env) Q E s:=by
 let⟨mb,h1,h2⟩:=I.mod.blt;exact Calls.Name_function_global I.ok.kind hg (Calls.loadGlobal_builtin (by rw[I.ok.glob];exact I.mod.glob.keeps I.bk) hm (by rw[I.ok.blt];exact h1.keeps I.bk) ((h2 x hn).trans hv) h) hd
def Mq{v:V}(hg:Gl X x)(hm:X.mg x=dF u)(r:RelV v u)(hd:(x==("__debug__" : Str))=dJ:=by decide):PE X (.Name x ç) (tC v) :=
 λ_ _ _ H _ I h=>Yu I hg hm ⟨v,H,I,r,h⟩ hd
def Ua{v:V}(hg:Gl X x)(hm:X.mg x=dG)(hv:ŕ x=dF u)(r:RelV v u)(hn:x≠"__name__":=by decide)(hd:(x==("__debug__" : Str))=dJ:=by decide):PE X (.Name x ç) (tC v) :=
 λ_ _ _ H _ I h=>Xs I hg hm hv ⟨v,H,I,r,h⟩ hn hd
variable {a b:Expr}{ta tb:TE}{ç:Pos}
abbrev PC(X:Cx)(op:bI)(a b:Expr)(t:TE):Prop :=
 ∀(Á:List<|Ê×Obj) (s:Ä) (σ:St) (H:Hp) (Q:VK),Inv X Á σ H s->t σ H Q->
  wpAny (Þ X.prog X.w) X.A (eval a X.env) (λv ģ=>wpAny (Þ X.prog X.w) X.A (eval b X.env) (λu bw=>wpAny (Þ X.prog X.w) X.A (ê op v u) (EP X Á σ Q) X.xe bw) X.xe ģ) X.xe s
variable {op:bI}
def Nj(b:Expr)(h:op≠.In)(h2:op≠.NotIn):İ op b=dJ:=by
 have e1:(op==CmpOp.In)=dJ:=by cases op<;>first|rfl|exact fI rfl h
 have e2:(op==CmpOp.NotIn)=dJ:=by cases op<;>first|rfl|exact fI rfl h2
 cases b<;>simp[İ,e1,e2]
abbrev Rv(ta:TE):TE:=λσ H Q=>ta σ H λx H1=>Q (.bl<|fJ (x=.non)) H1
abbrev Qk(ta:TE):TE:=λσ H Q=>ta σ H λx H1=>Q (.bl (!fJ (x=.non))) H1
def RelV.none_iff{x:V}{v:Â}(r:RelV x v):(v==Value.none)=fJ (x=.non):=by
 cases x with
 |non=>cases r;rfl
 |bl _=>cases r;rfl
 |int _=>let⟨t,rfl⟩:=r;rfl
 |str _=>let⟨t,rfl⟩:=r;rfl
 |byt _=>let⟨t,rfl⟩:=r;rfl
 |flt _=>let⟨t,rfl⟩:=r;rfl
 |ref _=>cases r;rfl
 |ty _=>cases r;rfl
def Ch{j ϯ}(ha:PE X a ta):PC X .Is a (.Constant .none j ϯ)<|Rv ta:=by intro Á s σ H Q I h;refine thn (ha Á s σ H _ I h) λv s1 ⟨x,H1,I1,r1,q1⟩=>?_;exact cA (is_none_gen ⟨.bl _,H1,I1,by rw[r1.none_iff];rfl,q1⟩)
def UK{j ϯ}(ha:PE X a ta):PC X .IsNot a (.Constant .none j ϯ)<|Qk ta:=by intro Á s σ H Q I h;refine thn (ha Á s σ H _ I h) λv s1 ⟨x,H1,I1,r1,q1⟩=>?_;exact cA (isnot_none_gen ⟨.bl _,H1,I1,by rw[r1.none_iff];rfl,q1⟩)
abbrev tB(t:TE):TT:=λσ H Q=>t σ H λx H1=>∃c,x=.bl c/\Q c H1
def Bp{t:TE}(h:PC X op a b t)(h1:İ op b=dJ:=by first|exact Nj _ (by decide) (by decide)|rfl):PE X (.Compare a [op] [b] ç) t:=λÁ s σ H Q I hw=>wpAny_Compare1 (h Á s σ H Q I hw) h1
def B8{t:TE}(h:PC X op a b t)(h1:İ op b=dJ:=by first|exact Nj _ (by decide) (by decide)|rfl):PT X (.Compare a [op] [b] ç)<|tB t:=by intro Á s σ H Q I hw;refine wpAny_isTrue_Compare1 (thn (h Á s σ H _ I hw) λv s1 h1=>thn h1 λu s2 h2=>thn h2 λc s3 ⟨x,H1,I1,r1,q1⟩=>?_) h1;let⟨d,rfl,q⟩:=q1;cases r1;exact ĉ ⟨H1,I1,q⟩
variable {tA tB':TT}{rest:List Expr}
abbrev So(t u:TT):TT:=λσ H Q=>t σ H λc H1=>if c=dI then u σ H1 Q else Q dJ H1
abbrev tOr(t u:TT):TT:=λσ H Q=>t σ H λc H1=>if c=dI then Q dI H1 else u σ H1 Q
abbrev Sy(t:TT):TT:=λσ H Q=>t σ H λc H1=>Q (!c) H1
def FC(ha:PT X a tA):PW X (.BoolOp .And [a] ç) tA:=by
 intro wh Á s σ H Q I h;refine isTrue_and<|thn (ha Á s σ H Q I h) λc s1 e=>?_;cases c with
 |true=>exact isTrue_and_nil e
 |false=>exact e
def IZ(ha:PT X a tA):PW X (.BoolOp .Or [a] ç) tA:=by
 intro wh Á s σ H Q I h;refine isTrue_or<|thn (ha Á s σ H Q I h) λc s1 e=>?_;cases c with
 |false=>exact isTrue_or_nil e
 |true=>exact e
def HH(ha:PT X a tA)(hb:PW X (.BoolOp .And (b::rest) ç) tB'):PW X (.BoolOp .And (a::b::rest) ç)<|So tA tB':=by
 intro wh Á s σ H Q I h;refine isTrue_and<|thn (ha Á s σ H _ I h) λc s1 ⟨H1,I1,q1⟩=>?_;cases c with
 |true=>exact hb wh Á s1 σ H1 Q I1 q1
 |false=>exact⟨H1,I1,q1⟩
def PZ(ha:PT X a tA)(hb:PW X (.BoolOp .Or (b::rest) ç) tB'):PW X (.BoolOp .Or (a::b::rest) ç)<|tOr tA tB':=by
 intro wh Á s σ H Q I h;refine isTrue_or<|thn (ha Á s σ H _ I h) λc s1 ⟨H1,I1,q1⟩=>?_;cases c with
 |true=>exact⟨H1,I1,q1⟩
 |false=>exact hb wh Á s1 σ H1 Q I1 q1
def HP(ha:PT X a tA):PT X (.UnaryOp .Not a ç)<|Sy tA:=by intro Á s σ H Q I h;exact isTrue_not (ha Á s σ H (λc H1=>Q (!c) H1) I h)
abbrev Py(ta tb:TE):TE:=λσ H Q=>ta σ H λx H1=>∃c,x=.bl c/\if c=dI then tb σ H1 Q else Q (.bl dJ) H1
abbrev RX(ta tb:TE):TE:=λσ H Q=>ta σ H λx H1=>∃c,x=.bl c/\if c=dI then Q (.bl dI) H1 else tb σ H1 Q
abbrev PN(ta:TE):TE:=λσ H Q=>ta σ H λx H1=>∃c,x=.bl c/\Q (.bl (!c)) H1
def CA{op}{t:TE}(h:PE X a t):PE X (.BoolOp op [a] ç) t:=λÁ s σ H Q I hw=>BoolOp_one (h Á s σ H Q I hw)
def Ib(ha:PE X a ta)(hb:PE X (.BoolOp .And (b::rest) ç) tb):PE X (.BoolOp .And (a::b::rest) ç)<|Py ta tb:=by
 intro Á s σ H Q I h;refine BoolOp_and<|thn (ha Á s σ H _ I h) λv s1 ⟨x,H1,I1,r1,q1⟩=>?_;let⟨c,rfl,q1⟩:=q1;cases r1;refine ĉ ?_;cases c with
 |true=>exact hb Á s1 σ H1 Q I1 q1
 |false=>exact⟨.bl dJ,H1,I1,rfl,q1⟩
def Q3(ha:PE X a ta)(hb:PE X (.BoolOp .Or (b::rest) ç) tb):PE X (.BoolOp .Or (a::b::rest) ç)<|RX ta tb:=by
 intro Á s σ H Q I h;refine BoolOp_or<|thn (ha Á s σ H _ I h) λv s1 ⟨x,H1,I1,r1,q1⟩=>?_;let⟨c,rfl,q1⟩:=q1;cases r1;refine ĉ ?_;cases c with
 |false=>exact hb Á s1 σ H1 Q I1 q1
 |true=>exact⟨.bl dI,H1,I1,rfl,q1⟩
def Pc(ha:PE X a ta):PE X (.UnaryOp .Not a ç)<|PN ta:=by intro Á s σ H Q I h;refine UnaryOp_<|thn (ha Á s σ H _ I h) λv s1 ⟨x,H1,I1,r1,q1⟩=>?_;let⟨c,rfl,q1⟩:=q1;cases r1;exact not_of (ĉ ⟨.bl (!c),H1,I1,rfl,q1⟩)
abbrev tIf(t:TT)(ta tb:TE):TE:=λσ H Q=>t σ H λc H1=>if c=dI then ta σ H1 Q else tb σ H1 Q
def DF{c:Expr}(hc:PT X c tA)(ha:PE X a ta)(hb:PE X b tb):PE X (.IfExp c a b ç)<|tIf tA ta tb:=by
 intro Á s σ H Q I h;refine wpAny_IfExp<|thn (hc Á s σ H _ I h) λd s1 ⟨H1,I1,q1⟩=>?_;cases d with
 |true=>exact ha Á s1 σ H1 Q I1 q1
 |false=>exact hb Á s1 σ H1 Q I1 q1
end
abbrev fk(K:Frag)(H:Hp)(a:Ê)(xs:List V):Prop :=
 Rd H a (.lst xs)\/
  ∃(o:Obj) (î:Array Â) (n:Nat),K.lookup a=dF o/\o.cls=.type "list"/\o.dict=dG/\o.data=.seq î n/\î.size<=Ü/\fo xs î.toList
abbrev fm(K:Frag)(H:Hp)(a:Ê)(xs:List V):Prop :=
 Rd H a (.tup xs)\/
  ∃(o:Obj) (î:Array Â) (n:Nat),K.lookup a=dF o/\o.cls=.type "tuple"/\o.data=.seq î n/\î.size<=Ü/\fo xs î.toList
abbrev absV:Â->Option V
 |.none=>dF .non
 |.bool b=>dF<|.bl b
 |.int i _=>dF<|.int i
 |.str x _=>dF<|.str x
 |.bytes b _=>dF<|.byt b
 |.float b _=>dF<|.flt b
 |.ref a=>dF<|.ref a
 |.type n=>dF<|.ty n
 |_=>dG
variable {x:V} {u:Â}
def RelV.abs(r:RelV x u):absV u=dF x:=by
 cases x with
 |non=>cases r;rfl
 |bl _=>cases r;rfl
 |int _=>let⟨t,rfl⟩:=r;rfl
 |str _=>let⟨t,rfl⟩:=r;rfl
 |byt _=>let⟨t,rfl⟩:=r;rfl
 |flt _=>let⟨t,rfl⟩:=r;rfl
 |ref _=>cases r;rfl
 |ty _=>cases r;rfl
def RelV.inj{y:V}(r:RelV x u)(q:RelV y u):x=y:=í (r.abs.symm.trans q.abs)
def fo.inj:∀{xs ys:List V}{us:List Â},fo xs us->fo ys us->xs=ys
 |_,_,_,.nil,.nil=>rfl
 |_,_,_,.cons r t,.cons r' t'=>by rw[r.inj r',fo.inj t t']
section
variable {X:Cx}{Á:List (Ê×Obj)}{σ:St}{H:Hp}{s:Ä}{a:Ê}{xs ys:List V}
def fk.of{K:Frag}(h:H a=dF (.lst xs)):fk K H a xs:=.inl (.inl h)
def fm.of{K:Frag}(h:H a=dF (.tup xs)):fm K H a xs:=.inl (.inl h)
def Inv.list(I:Inv X Á σ H s)(h:fk X.K H a xs):∃î:List Â,fo xs î/\PlainL s.heap a î.toArray/\xs.length<=Ü:=by
 rcases h with h|⟨o,î,n,hk,hc,hd,hs,hz,r⟩
 .obtain⟨z,î,n,r,e⟩:=h.ok I.hok;exact⟨î,r,⟨_,n,e,rfl,rfl,rfl⟩,z⟩
 .refine⟨î.toList,r,⟨o,n,I.kIn a o hk,hc,hd,⇑hs⟩,?_⟩;have e:=r.length;simp only[Ű]at e;lia
def Inv.tuple(I:Inv X Á σ H s)(h:fm X.K H a xs):∃î:List Â,fo xs î/\ϱ s.heap a î.toArray/\xs.length<=Ü:=by
 rcases h with h|⟨o,î,n,hk,hc,hs,hz,r⟩
 .obtain⟨z,î,r,p⟩:=h.ok I.hok;exact⟨î,r,p,z⟩
 .refine⟨î.toList,r,⟨o,I.kIn a o hk,hc,n,⇑hs⟩,?_⟩;have e:=r.length;simp only[Ű]at e;lia
def Inv.list_inj(I:Inv X Á σ H s)(h:fk X.K H a xs)(h':fk X.K H a ys):xs=ys:=by
 let⟨î,r,⟨o,n,e,_,_,d⟩,_⟩:=I.list h;let⟨its',r',⟨o',n',e',_,_,d'⟩,_⟩:=I.list h';rw[e]at e';cases e';rw[d]at d';injection d' with d1 _;have:î=its':=by simpa using congrArg bj d1
 subst this;exact r.inj r'
def Inv.tuple_inj(I:Inv X Á σ H s)(h:fm X.K H a xs)(h':fm X.K H a ys):xs=ys:=by
 let⟨î,r,⟨o,e,_,n,d⟩,_⟩:=I.tuple h;let⟨its',r',⟨o',e',_,n',d'⟩,_⟩:=I.tuple h';rw[e]at e';cases e';rw[d]at d';injection d' with d1 _;have:î=its':=by simpa using congrArg bj d1
 subst this;exact r.inj r'
end
noncomputable abbrev Cx.wish(X:Cx)(E:Â->Ä->Prop):Cx:={X with xe:=E}
noncomputable abbrev Cx.nox(X:Cx):Cx:=X.wish λ_ _=>False
variable {X:Cx}
def Cx.Ok.wish(ok:X.Ok)(E:Â->Ä->Prop):(X.wish E).Ok :=
 ⟨ok.mod,ok.kind,ok.glob,ok.blt,ok.above,ok.inj,ok.has,ok.cab,ok.hd,ok.frames,ok.stk,ok.exf,ok.bs,ok.bsz,ok.noex,ok.exfs,ok.funs,ok.frf⟩
def Cx.Ok.unwish{E:Â->Ä->Prop}(ok:(X.wish E).Ok):X.Ok :=
 ⟨ok.mod,ok.kind,ok.glob,ok.blt,ok.above,ok.inj,ok.has,ok.cab,ok.hd,ok.frames,ok.stk,ok.exf,ok.bs,ok.bsz,ok.noex,ok.exfs,ok.funs,ok.frf⟩
section
variable {X:Cx}{Á:List (Ê×Obj)}{σ:St}{H:Hp}{s:Ä}{E:Â->Ä->Prop}
def Inv.wish(I:Inv X Á σ H s)(E:Â->Ä->Prop):Inv (X.wish E) Á σ H s:=⟨I.ok.wish E,I.os,I.bare,I.base,I.loc,I.cell,I.free,I.freeC,I.pin,I.hok,I.len⟩
def Inv.unwish(I:Inv (X.wish E) Á σ H s):Inv X Á σ H s:=⟨I.ok.unwish,I.os,I.bare,I.base,I.loc,I.cell,I.free,I.freeC,I.pin,I.hok,I.len⟩
end
section
variable {X:Cx}{st:ğ}{rest:List ğ}{t u:TS}{e:Expr}{te:TE}{ç:Pos}
abbrev Qr:TS:=λD σ H=>D.nx σ H
abbrev Sx(t u:TS):TS:=λD σ H=>t {D with nx:=u D} σ H
def pss_nil:PSs X [] Qr:=λ_ _ σ H _ I h=>ŋ ⟨σ,H,I,h⟩
def Dv(h1:PS X st t)(h2:PSs X rest u):PSs X (st::rest)<|Sx t u:=by
 intro Á s σ H D I h;refine aN<|thn (h1 Á s σ H {D with nx:=u D} I h) λf s1 q=>?_;cases f with
 |next =>let⟨Ņ,H',I',q⟩:=q;exact h2 Á s1 Ņ H' D I' q
 |ret v=>exact q
 |brk=>exact q
 |cont=>exact q
def Inv.quiet{Á:List (Ê×Obj)}{σ:St}{H:Hp}{s:Ä}(I:Inv X Á σ H s):interactive X.env=dJ:=by simp[interactive,I.ok.kind]
abbrev Rn(te:TE):TS:=λD σ H=>te σ H λ_ H1=>D.nx σ H1
def Fa(he:PE X e te)(hs:ō e dG ç.line X.env=pure dJ:=by rfl):PS X (.Expr e ç)<|Rn te:=by intro Á s σ H D I h;exact wpAny_Expr_any (thn (he Á s σ H _ I h) λv s1 ⟨x,H1,I1,r1,q1⟩=>⟨σ,H1,I1,q1⟩) I.quiet hs
abbrev Rx(te:TE):TS:=λD σ H=>te σ H D.rt
def HB(he:PE X e te):PS X (.Return (dF e) ç)<|Rx te:=by intro Á s σ H D I h;exact wpAny_Return_some (thn (he Á s σ H _ I h) λv s1 ⟨x,H1,I1,r1,q1⟩=>⟨x,σ,H1,I1,r1,q1⟩)
abbrev PP:TS:=λD _ H=>D.rt .non H
def ps_retN:PS X (.Return dG ç) PP:=λ_ _ σ H _ I h=>wpAny_Return_none ⟨.non,σ,H,I,rfl,h⟩
abbrev R0(c:TT)(t u:TS):TS:=λD σ H=>c σ H λb H1=>if b=dI then t D σ H1 else u D σ H1
def Q8{c:Expr}{a b:List ğ}{tc:TT}(hc:PT X c tc)(ha:PSs X a t)(hb:PSs X b u):PS X (.If c a b ç)<|R0 tc t u:=by
 intro Á s σ H D I h;refine wpAny_If<|thn (hc Á s σ H _ I h) λd s1 ⟨H1,I1,q1⟩=>?_;cases d with
 |true=>exact ha Á s1 σ H1 D I1 q1
 |false=>exact hb Á s1 σ H1 D I1 q1
end
noncomputable abbrev TG:=V->St->Hp->(St->Hp->Prop)->Prop
noncomputable abbrev TGs:=List V->St->Hp->(St->Hp->Prop)->Prop
abbrev PG(X:Cx)(Ϥ:Expr)(t:TG):Prop :=
 ∀(Á:List<|Ê×Obj) (s:Ä) (σ:St) (H:Hp) (v:V) (u:Â) (Q:St->Hp->Prop),Inv X Á σ H s->RelV v u->t v σ H Q->
  wpAny (Þ X.prog X.w) X.A (Ų Ϥ X.env u) (λ_ s'=>∃Ņ H',Inv X Á Ņ H' s'/\Q Ņ H') X.xe s
abbrev PGs(X:Cx)(ts:List Expr)(t:TGs):Prop :=
 ∀(Á:List<|Ê×Obj) (s:Ä) (σ:St) (H:Hp) (vs:List V) (us:List Â) (Q:St->Hp->Prop),Inv X Á σ H s->fo vs us->t vs σ H Q->
  wpAny (Þ X.prog X.w) X.A (assignInOrder ((ĕ ts X.env).map (·.2)) us) (λ_ s'=>∃Ņ H',Inv X Á Ņ H' s'/\Q Ņ H') X.xe s
noncomputable abbrev BH:=V->V->V->Hp->(Hp->Prop)->Prop
abbrev PSet(X:Cx)(t:BH):Prop :=
 ∀(Á:List<|Ê×Obj) (s:Ä) (σ:St) (H:Hp) (o i v:V) (ov iv u:Â) (Q:Hp->Prop),Inv X Á σ H s->RelV o ov->RelV i iv->RelV v u->t o i v H Q->
  wpAny (Þ X.prog X.w) X.A (au ov iv u) (λ_ s'=>∃H',Inv X Á σ H' s'/\Q H') X.xe s
noncomputable abbrev TIp:=V->V->Hp->VK->Prop
abbrev PIp(X:Cx)(op:Ν)(t:TIp):Prop :=
 ∀(Á:List<|Ê×Obj) (s:Ä) (σ:St) (H:Hp) (x y:V) (v u:Â) (Q:VK),Inv X Á σ H s->RelV x v->RelV y u->t x y H Q->
  wpAny (Þ X.prog X.w) X.A (inplaceOp op v u) (EP X Á σ Q) X.xe s
section
variable {X:Cx}{ç:Pos}
abbrev GA(i:Nat):TG:=λv σ H Q=>Q (σ.set i<|dF v) H
def UE{i:Nat}{x:Str}(hN:X.N.Nodup)(hi:X.N[i]?=dF x)(hx:Loc X.env.scope x)(hf:X.fn x=dI\/X.env.scope.names.lookup x=dF .local:=by first|exact .inl rfl|exact .inr rfl|assumption):PG X (.Name x ç)<|GA i:=by intro Á s σ H v u Q I r h;exact wpAny_assign_Name (JL I hN hi hx r (λs' I'=>⟨_,H,I',h⟩) hf)
abbrev R5:TGs:=λvs σ H Q=>vs=[]/\Q σ H
abbrev PU(t:TG)(u:TGs):TGs:=λvs σ H Q=>∃v r,vs=v::r/\t v σ H λŅ H'=>u r Ņ H' Q
def pgs_nil:PGs X [] R5:=by intro Á s σ H vs us Q I r h;let⟨e,h⟩:=h;subst e;cases r;exact assignInOrder_nil ⟨σ,H,I,h⟩
variable {e:Expr} {es:List Expr}
def JZ{t:TG}{u:TGs}(h1:PG X e t)(h2:PGs X es u)
  (hs:(ĕ (e::es) X.env).map (·.2)=Ų e X.env::(ĕ es X.env).map (·.2):=by rfl):PGs X (e::es)<|PU t u:=by
 intro Á s σ H vs us Q I r h;let⟨v,vr,e1,h⟩:=h;subst e1;cases r with
 |cons r rr =>rw[hs];refine assignInOrder_cons<|thn (h1 Á s σ H _ _ _ I r h) λ_ s1 ⟨σ1,H1,I1,q1⟩=>?_;exact h2 Á s1 σ1 H1 _ _ Q I1 rr q1
abbrev RB(K:Frag)(n:Nat)(t:TGs):TG:=λv σ H Q=>∃a xs,v=.ref a/\fm K H a xs/\xs.length=n/\t xs σ H Q
def BU{k:Nat}{t:TGs}{n:Nat}(hc:X.calm=dI)(h:PGs X es t)
  (hn:(ĕ es X.env).length=n:=by rfl) (ł:(ĕ es X.env).findIdx? (·.1)=dG:=by rfl):PG X (.Tuple es k ç)<|RB X.K n t:=by
 intro Á s σ H v u Q I r hw;let⟨a,xs,e1,hq,hl,hw⟩:=hw;subst e1;cases r;let⟨î,rv,ht,hz⟩:=I.tuple hq;refine assign_Tuple_tuple (I.ok.hd hc) ht (by simp[hn,<-hl,rv.length]) ł λh' hx=>?_;have I1:Inv X Á σ H {s with heap:=h'}:=I.kept (t':=s.toks) λb o e=>hx b o (ë<|Ù e) e;exact h Á _ σ H xs _ Q I1 ⇑rv hw
abbrev Rc(to ti:TE)(t:BH):TG:=λv σ H Q=>to σ H λo H1=>ti σ H1 λi H2=>t o i v H2 λH3=>Q σ H3
variable {o:Expr} {i:Expr} {to:TE} {ti:TE}
def Ic{t:BH}(ho:PE X o to)(hi:PE X i ti)(hs:PSet X t)
  (ha:∀v,Ų (.Subscript o i ç) X.env v=(do
    let ov<-ŉ [v] (eval o X.env)
    let iv<-ŉ [v,ov] (eval i X.env)
    Γ ç
    ŉ [v,ov,iv] (au ov iv v)
    dg [v,ov,iv] []):=by intro _;rfl):PG X (.Subscript o i ç)<|Rc to ti t:=by
 intro Á s σ H v u Q I r h;rw[ha];refine Ã<|Ł<|thn (ho Á s σ H _ I h) λov s1 ⟨x,H1,I1,r1,q1⟩=>?_;refine Ã<|Ł<|thn (hi Á s1 σ H1 _ I1 q1) λiv s2 ⟨y,H2,I2,r2,q2⟩=>?_;refine Ã<|cB<|Ã<|Ł<|thn (hs Á s2 σ H2 x y v ov iv u _ I2 r1 r2 r q2) λ_ s3 ⟨H3,I3,q3⟩=>?_;exact wpAny_release ⟨σ,H3,I3,q3⟩
abbrev QD(te:TE)(g:TG):TS:=λD σ H=>te σ H λx H1=>g x σ H1 D.nx
variable {te:TE}
def By{tg:Expr}{g:TG}(he:PE X e te)(hg:PG X tg g)(hs:Η [tg] e ç.line X.env=pure dJ:=by rfl)(hw:Θ [tg] e X.env=pure dG:=by rfl)
  (h1:(ĕ [tg] X.env).map (·.2)=[Ų tg X.env]:=by rfl):PS X (.Assign [tg] e ç)<|QD te g:=by
 intro Á s σ H D I h;refine wpAny_Assign_stores (thn (he Á s σ H _ I h) λv s1 ⟨x,H1,I1,r1,q1⟩=>?_) hs hw;rw[h1];exact thn (hg Á s1 σ H1 x v _ I1 r1 q1) λ_ s2 q=>q
abbrev Qg(to ti te:TE)(tget:V->V->Hp->VK->Prop)(tip:TIp)(tset:BH):TS:=λD σ H=>to σ H λo H1=>ti σ H1 λi H2=>tget o i H2 λx H3=>te σ H3 λy H4=>tip x y H4 λz H5=>tset o i z H5 λH6=>D.nx σ H6
abbrev PGet(X:Cx)(t:V->V->Hp->VK->Prop):Prop :=
 ∀(Á:List<|Ê×Obj) (s:Ä) (σ:St) (H:Hp) (o i:V) (ov iv:Â) (Q:VK),Inv X Á σ H s->RelV o ov->RelV i iv->t o i H Q->
  wpAny (Þ X.prog X.w) X.A (ϋ ov iv) (EP X Á σ Q) X.xe s
def Fo{tget:V->V->Hp->VK->Prop}{tip:TIp}{tset:BH}{op:Ν}{bW:Pos}(ho:PE X o to)(hi:PE X i ti)(hg:PGet X tget)(he:PE X e te)(hp:PIp X op tip)(hs:PSet X tset)
  (ha:∀ov iv new,augStore i ov iv new=(do ŉ [new,ov,iv] (au ov iv new);dg [new,ov,iv] [];pure .next):=by intros;rfl):PS X (.AugAssign (.Subscript o i bW) op e ç)<|Qg to ti te tget tip tset:=by
 intro Á s σ H D I h;refine wpAny_AugAssign_SubscriptAny (thn (ho Á s σ H _ I h) λov s1 ⟨x1,H1,I1,r1,q1⟩=>?_) ha;refine thn (hi Á s1 σ H1 _ I1 q1) λiv s2 ⟨x2,H2,I2,r2,q2⟩=>?_;refine thn (hg Á s2 σ H2 x1 x2 ov iv _ I2 r1 r2 q2) λχ s3 ⟨x3,H3,I3,r3,q3⟩=>?_;refine thn (he Á s3 σ H3 _ I3 q3) λv s4 ⟨x4,H4,I4,r4,q4⟩=>?_;refine thn (hp Á s4 σ H4 x3 x4 χ v _ I4 r3 r4 q4) λnew s5 ⟨x5,H5,I5,r5,q5⟩=>?_;exact thn (hs Á s5 σ H5 x1 x2 x5 ov iv new _ I5 r1 r2 r5 q5) λ_ s6 ⟨H6,I6,q6⟩=>⟨σ,H6,I6,q6⟩
end
section
variable {X:Cx}{ç:Pos}
abbrev Ie(c:TT)(tb:TS):TS:=λD σ H=>∃W:Nat->St->Hp->Prop,(∃m,W m σ H)/\∀m σ H,W m σ H->
 c σ H λb H1=>if b=dI then ∃N:St->Hp->Prop,(∀Ņ H',N Ņ H'->∃m',m'<m/\W m' Ņ H')/\tb {D with nx:=N,ct:=N,bk:=D.nx} σ H1 else D.nx σ H1
def Dt{c:Expr}{body:List ğ}{tc:TT}{tb:TS}(hp:ο (Þ X.prog X.w) X.A X.env X.xe)(hc:PT X c tc)(hb:PSs X body tb):PS X (.While c body [] ç)<|Ie tc tb:=by
 intro Á s σ H D I h;let⟨W,⟨m0,w0⟩,turn⟩:=h;refine wpAny_While<|codeAny_whileLoop (λn s'=>∃Ņ H',Inv X Á Ņ H' s'/\W n Ņ H') ?_ m0 ⟨σ,H,I,w0⟩;rintro n s1 ⟨σ1,H1,I1,w1⟩;refine Ō hp<|thn (hc Á s1 σ1 H1 _ I1<|turn n σ1 H1 w1) λb s2 ⟨H2,I2,q2⟩=>?_;cases b with
 |true =>
  let⟨N,hN,q2⟩:=q2;rw[fA rfl];refine Ō hp<|thn (hb Á s2 σ1 H2 _ I2 q2) λf s3 q3=>?_;cases f with
  |next =>let⟨aS,H3,I3,n3⟩:=q3;let⟨m',hm,w3⟩:=hN aS H3 n3;exact⟨m',hm,aS,H3,I3,w3⟩
  |cont =>let⟨aS,H3,I3,n3⟩:=q3;let⟨m',hm,w3⟩:=hN aS H3 n3;exact⟨m',hm,aS,H3,I3,w3⟩
  |brk=>exact q3
  |ret v=>exact q3
 |false =>rw[fB ù];exact ŋ ⟨σ1,H2,I2,q2⟩
end
structure It where
 go:Nat->Hp->Prop
 yld:Nat->Hp->V->Hp->Prop
 stop:Nat->Hp->Prop
abbrev Wv(X:Cx)(Á:List<|Ê×Obj)(H:Hp)(b:Ê):Prop :=
 H b=dG/\b≠X.env.locals/\b∉X.fs/\(b∈X.ex\/X.s₀.heap.objs.size<=b)/\(∀x c,X.env.cells.lookup x=dF c->c≠b)/\∀p∈X.pn++Á,p.1≠b
variable {s:Ä}
def Inv.fpOk{Á:List (Ê×Obj)}{σ:St}{H H':Hp}{b:Ê}(I:Inv X Á σ H s)(hb:s.heap.objs.size<=b)(hn:H' b=dG):Wv X Á H' b:=by
 refine⟨hn,Ŷ<|è I.lt hb,I.nofs hb,.inr<|Ô I.sz hb,λx c e z=>?_,λp hp z=>?_⟩
 .obtain⟨v,q⟩:=I.cell x c e;exact fI (è q.lt<|by rw[z];exact hb)<|ą _
 .exact fI (è (Ù (I.pin p hp).1)<|by rw[z];exact hb)<|ą _
structure Turn(P:é)(w:Ā)(K:Frag)(tg:Expr)(J:It)(fp:List Ê)(it:Ê)(tn:Nat->ć->Prop):Prop where
 mem:it∈fp
 obj:∀i h,tn i h->∀b∈fp,∃o,h.get? b=dF o/\∀v,o.data≠.cell v
 keep:∀i h h',tn i h->(∀b∈fp,∀o,h.get? b=dF o->h'.get? b=dF o)->tn i h'
 item:∀(X:Cx),X.prog=P->X.w=w->X.K=K->X.calm=dI->∀(i:Nat) (Á:List<|Ê×Obj) (s:Ä) (σ:St) (H:Hp) (E:Â->Ä->Prop),Inv X Á σ H s->(∀b∈fp,Wv X Á H b)->tn i s.heap->J.go i H->
  wpAny (Þ P w) X.A (ϵ<|.ref it) (λr s1=>∃u,r=dF u/\
    wpAny (Þ P w) X.A (ϓ tg (.ref it) u) (λ_ s2=>∃x H',Inv X Á σ H' s2/\RelV x u/\J.yld i H x H'/\tn (i+1) s2.heap/\∀b∈fp,H' b=dG) E s1) E s
 done:∀(X:Cx),X.prog=P->X.w=w->X.K=K->X.calm=dI->∀(i:Nat) (Á:List<|Ê×Obj) (s:Ä) (σ:St) (H:Hp) (E:Â->Ä->Prop),Inv X Á σ H s->(∀b∈fp,Wv X Á H b)->tn i s.heap->J.stop i H->
  wpAny (Þ P w) X.A (ϵ<|.ref it) (λr s1=>r=dG/\Inv X Á σ H s1) E s
 self:∀(A:ď) (i:Nat) (s:Ä) (Q:Â->Ä->Prop) (E:Â->Ä->Prop),tn i s.heap->Q (.ref it) s->wpAny (Þ P w) A (pyIter<|.ref it) Q E s
noncomputable abbrev TI:=St->Hp->(It->Hp->Prop)->Prop
abbrev PIE(X:Cx)(Á:List<|Ê×Obj)(σ:St)(tg:Expr)(R:It->Hp->Prop)(itv:Â)(s2:Ä):Prop :=
 ∃(it:Ê) (fp:List Ê) (tn:Nat->ć->Prop) (J:It) (H':Hp),itv=.ref it/\Inv X Á σ H' s2/\Turn X.prog X.w X.K tg J fp it tn/\tn 0 s2.heap/\(∀b∈fp,Wv X Á H' b)/\R J H'
abbrev PI(X:Cx)(tg ś:Expr)(wi:TI):Prop :=
 ∀(Á:List<|Ê×Obj) (s:Ä) (σ:St) (H:Hp) (R:It->Hp->Prop),Inv X Á σ H s->wi σ H R->
  wpAny (Þ X.prog X.w) X.A (eval ś X.env) (λv s1=>wpAny (Þ X.prog X.w) X.A (pyIter v) (PIE X Á σ tg R) X.xe s1) X.xe s
variable {tg:Expr}
def dP{M:cO}{A:ď}{E:Â->Ä->Prop}{it:Ê}{o:Obj}{n:String}{vs:Array Â}{Q:Unit->Ä->Prop}(ho:s.heap.get? it=dF o)(hc:o.cls=.type n)(hd:o.data=.fields vs)
  (hn:["enumerate","zip","dict_itemiterator","dict_reverseitemiterator","odict_iterator","itertools.zip_longest","itertools.pairwise"].contains n=dJ) (hQ:Q () s):wpAny M A (ϓ tg (.ref it) u) Q E s:=by
 unfold ϓ;cases tg<;>first
  |exact Õ hQ
  | (cases u<;>first
      |exact Õ hQ
      | (refine Ã (wpAny_load ho ?_)
         rw[hc,hd]
         show wpAny M A (if(["enumerate","zip","dict_itemiterator","dict_reverseitemiterator","odict_iterator","itertools.zip_longest","itertools.pairwise"].contains n&&vs[0]? == dF (Ϸ _))=dI then _ else _) Q E s
         rw[fB<|by intro h;rw[hn,aF]at h;cases h]
         exact Õ hQ))
abbrev Itl(K:Frag)(a:Ê):It :=
 ⟨λi H=>∃xs x,fk K H a xs/\xs[i]?=dF x,λi H x H'=>H'=H/\∀xs,fk K H a xs->xs[i]?=dF x,λi H=>∃xs,fk K H a xs/\xs.length<=i⟩
abbrev Itt(K:Frag)(a:Ê):It :=
 ⟨λi H=>∃xs x,fm K H a xs/\xs[i]?=dF x,λi H x H'=>H'=H/\∀xs,fm K H a xs->xs[i]?=dF x,λi H=>∃xs,fm K H a xs/\xs.length<=i⟩
abbrev Itr(lo:Int)(n:Nat):It:=⟨λi _=>i<n,λi H x H'=>H'=H/\x=.int (lo+i),λi _=>n<=i⟩
variable {P:é} {w:Ā}
def U9{K:Frag}(a it:Ê):Turn P w K tg (Itl K a) [it] it (λi h=>h.IsListIter it a i) where
 mem:=by simp
 obj:=λi h st b hb=>by
  have e:b=it:=⇑hb
  subst e;let⟨o,e,c,d⟩:=st;exact⟨o,e,λv z=>by rw[d]at z;cases z⟩
 keep:=λi h h' st k=>st.at λo e=>k it (by simp) o e
 item:=by intro X hP hw hK hc i Á s σ H E I hf st hg;subst hP hw hK;let⟨xs,x,hq,hx⟩:=hg;let⟨î,rv,p,hz⟩:=I.list hq;let⟨u,hu,ru⟩:=rv.get hx;let⟨f0,f1,f2,f3,f4,f5⟩:=hf it (by simp);refine wpAny_pyNext_list_item st p.isList (x:=u) ⇑hu λh' st' sb=>?_;have I1:Inv X Á σ H {s with heap:=h'}:=I.turned (t':=s.toks) (λb o hb e=>(sb.2 b hb).trans e) f0 f1 f3 f4 f5;let⟨o,e,c,d⟩:=id st';exact⟨u,rfl,dP (s:={s with heap:=h'}) e c d (by decide) ⟨x,H,I1,ru,⟨rfl,λys hy=>by rw[I.list_inj hy hq];exact hx⟩,st',λb hb=>(hf b hb).1⟩⟩
 done:=by intro X hP hw hK hc i Á s σ H E I hf st hg;subst hP hw hK;let⟨xs,hq,hx⟩:=hg;let⟨î,rv,p,hz⟩:=I.list hq;let⟨f0,f1,f2,f3,f4,f5⟩:=hf it (by simp);have hl:=rv.length;exact wpAny_pyNext_list_end (I.ok.hd hc) st p.isList (by simp;lia) λh' eb=>⟨rfl,I.turned (t':=s.toks) (λb o hb e=>eb b o hb e) f0 f1 f3 f4 f5⟩
 self:=λ_ _ _ _ _ st h=>wpAny_pyIter_listiter st h
def Oq{K:Frag}(a it:Ê):Turn P w K tg (Itt K a) [it] it (λi h=>h.IsTupleIter it a i) where
 mem:=by simp
 obj:=λi h st b hb=>by
  have e:b=it:=⇑hb
  subst e;let⟨o,e,c,d⟩:=st;exact⟨o,e,λv z=>by rw[d]at z;cases z⟩
 keep:=λi h h' st k=>st.at λo e=>k it (by simp) o e
 item:=by intro X hP hw hK hc i Á s σ H E I hf st hg;subst hP hw hK;let⟨xs,x,hq,hx⟩:=hg;let⟨î,rv,p,hz⟩:=I.tuple hq;let⟨u,hu,ru⟩:=rv.get hx;let⟨f0,f1,f2,f3,f4,f5⟩:=hf it (by simp);refine wpAny_pyNext_tuple_item st (show s.heap.IsTuple a î.toArray from p) (x:=u) ⇑hu λh' st' sb=>?_;have I1:Inv X Á σ H {s with heap:=h'}:=I.turned (t':=s.toks) (λb o hb e=>(sb.2 b hb).trans e) f0 f1 f3 f4 f5;let⟨o,e,c,d⟩:=id st';exact⟨u,rfl,dP (s:={s with heap:=h'}) e c d (by decide) ⟨x,H,I1,ru,⟨rfl,λys hy=>by rw[I.tuple_inj hy hq];exact hx⟩,st',λb hb=>(hf b hb).1⟩⟩
 done:=by intro X hP hw hK hc i Á s σ H E I hf st hg;subst hP hw hK;let⟨xs,hq,hx⟩:=hg;let⟨î,rv,p,hz⟩:=I.tuple hq;let⟨f0,f1,f2,f3,f4,f5⟩:=hf it (by simp);have hl:=rv.length;exact wpAny_pyNext_tuple_end (I.ok.hd hc) st (show s.heap.IsTuple a î.toArray from p) (by simp;lia) λh' eb=>⟨rfl,I.turned (t':=s.toks) (λb o hb e=>eb b o hb e) f0 f1 f3 f4 f5⟩
 self:=λ_ _ _ _ _ st h=>wpAny_pyIter_tupleiter st h
def Ox{K:Frag}(it:Ê)(lo:Int)(n:Nat):Turn P w K tg (Itr lo n) [it] it (λi h=>IsRangeIter h it (lo+(i:Nat)*1) ((n:Int) - (i:Nat)) 1) where
 mem:=by simp
 obj:=λi h st b hb=>by
  have e:b=it:=⇑hb
  subst e;exact⟨_,st,λv z=>by
    have z':Data.fields _=Data.cell v:=z
    cases z'⟩
 keep:=λi h h' st k=>k it (by simp) _ st
 item:=by intro X hP hw hK hc i Á s σ H E I hf st hg;subst hP hw hK;let⟨f0,f1,f2,f3,f4,f5⟩:=hf it (by simp);have W:=Walks.range (prog:=X.prog) (w:=X.w) (I.ok.hd hc) it lo 1 n;refine W.item i s _ _ hg st λv h' tk hv st' kk=>?_;let⟨t,rfl⟩:=hv;have I1:Inv X Á σ H {s with heap:=h',toks:=tk}:=I.turned (λb o hb e=>kk b o ⇑hb e) f0 f1 f3 f4 f5;refine⟨_,rfl,dP (s:={s with heap:=h',toks:=tk}) (n:="range_iterator") st' rfl rfl (by decide) ⟨.int<|lo+i,H,I1,⟨t,?_⟩,⟨rfl,rfl⟩,st',λb hb=>(hf b hb).1⟩⟩;rw[Int.mul_one]
 done:=by intro X hP hw hK hc i Á s σ H E I hf st hg;subst hP hw hK;let⟨f0,f1,f2,f3,f4,f5⟩:=hf it (by simp);exact wpAny_pyNext_range_end (I.ok.hd hc) st (by have:n<=i:=hg;lia) λh' eb=>⟨rfl,I.turned (t':=s.toks) (λb o hb e=>eb b o hb e) f0 f1 f3 f4 f5⟩
 self:=λ_ _ _ _ _ st h=>wpAny_pyIter_rangeiter st h
section
variable {X:Cx}{tg:Expr}
variable {Á:List (Ê×Obj)} {σ:St} {H:Hp} {s:Ä}
def NG{R:It->Hp->Prop}{E:Â->Ä->Prop}{lo hi:Int}{t u v:Tok}{tk:Nat}(I:Inv X Á σ H s)(h1:-(2 ^ 62)<=lo)(h2:lo<2 ^ 62)(h3:-(2 ^ 62)<=hi)(h4:hi<2 ^ 62)
  (q:R (Itr lo (hi - lo).toNat) H):wpAny (Þ X.prog X.w) X.A (pyIter<|.ref s.heap.objs.size) (PIE X Á σ tg R) E {s with heap:=s.heap.push {cls:=.type "range",data:=.fields #[.int lo t,.int hi u,.int 1 v]},toks:=tk}:=by
 refine wpAny_pyIter_range (IsRange.new ..) (small_one h1 h2 h3 h4) ?_;have I1:Inv X Á σ H { s with heap:=s.heap.push { cls:=.type "range",data:=.fields #[.int lo t,.int hi u,.int 1 v] },toks:=tk }:=I.kept λb o e=>Å _ e;refine⟨(s.heap.push { cls:=.type "range",data:=.fields #[.int lo t,.int hi u,.int 1 v] }).objs.size,[(s.heap.push { cls:=.type "range",data:=.fields #[.int lo t,.int hi u,.int 1 v] }).objs.size],_,_,H,rfl,
   I1.kept (t':=tk) λb o e=>Å _ e,Ox _ lo (hi - lo).toNat,?_,λb hb=>?_,q⟩
 .have e1:lo+((0:Nat):Int)*1=lo:=by simp
  have e2:(((hi - lo).toNat:Nat):Int) - ((0:Nat):Int)=Builtin.Range.rangeSize lo hi 1:=by rw[rangeSize_one];split<;>lia
  show IsRangeIter _ _ (lo+((0:Nat):Int)*1) ((((hi - lo).toNat:Nat):Int) - ((0:Nat):Int)) 1;rw[e1,e2];exact Ý _ rfl
 .have e:b=(s.heap.push {cls:=.type "range",data:=.fields #[.int lo t,.int hi u,.int 1 v]}).objs.size:=⇑hb
  subst e;exact I1.fpOk (Ì _)<|I1.hok.fresh<|Ì _
abbrev Rm(ta:TA):TI:=λσ H R=>ta σ H λvs H1=>∃j:Int,vs=[.int j]/\-(2 ^ 62)<=j/\j<2 ^ 62/\R (Itr 0 j.toNat) H1
abbrev QH(ta:TA):TI:=λσ H R=>ta σ H λvs H1=>∃i j:Int,vs=[.int i,.int j]/\(-(2 ^ 62)<=i/\i<2 ^ 62/\-(2 ^ 62)<=j/\j<2 ^ 62)/\R (Itr i (j - i).toNat) H1
variable {a:Expr} {ta:TA} {p:Pos} {ç:Pos}
def A0(hg:Gl X "range")(hm:X.mg "range" = dG)(ha:PA X [a] ta)(hs:Î [a] X.env=[(dJ,eval a X.env)]:=by rfl):PI X tg (.Call (.Name "range" p) [a] [] ç)<|Rm ta:=by
 intro Á s σ H R I h;refine Call_<|Xs I hg hm boot_range<|PyProof.Rows.callWith_type1 (thn (ha ç Á s σ H _ I h) λus s1 ⟨vs,H1,I1,r1,q1⟩=>?_) hs rfl;let⟨j,e,q1,q2,q⟩:=q1;subst e;cases r1 with
 |cons r rr =>cases rr;let⟨t,rfl⟩:=r;exact call_range_1 (NG I1 (by lia) (by lia) q1 q2<|by simpa using q)
def AQ{b:Expr}(hg:Gl X "range")(hm:X.mg "range" = dG)(ha:PA X [a,b] ta)(hs:Î [a,b] X.env=[(dJ,eval a X.env),(dJ,eval b X.env)]:=by rfl)(hs2:Î [b] X.env=[(dJ,eval b X.env)]:=by rfl) :
  PI X tg (.Call (.Name "range" p) [a,b] [] ç) (QH ta):=by
 intro Á s σ H R I h;refine Call_ (Xs I hg hm boot_range<|PyProof.Rows.callWith_type1 (thn (ha ç Á s σ H _ I h) λus s1 ⟨vs,H1,I1,r1,q1⟩=>?_) (by rw[hs,hs2])<|by rw[hs2];rfl);let⟨i,j,e,⟨q1,q2,q3,q4⟩,q⟩:=q1;subst e;cases r1 with
 |cons r rr =>
  cases rr with
  |cons r' rr =>cases rr;let⟨t,rfl⟩:=r;let⟨t',rfl⟩:=r';exact call_range_2<|NG I1 q1 q2 q3 q4 q
abbrev Sb(wi:TI)(g:TG)(tb:TS):TS:=λD σ H=>wi σ H λJ H1=>∃W:Nat->Nat->St->Hp->Prop,(∃m,W 0 m σ H1)/\∀i m σ H,W i m σ H->
 (J.stop i H/\D.nx σ H)\/(J.go i H/\∃N:St->Hp->Prop,(∀Ņ H',N Ņ H'->∃m',m'<m/\W (i+1) m' Ņ H')/\∀x H',J.yld i H x H'->g x σ H' λσ2 H2=>tb {D with nx:=N,ct:=N,bk:=D.nx} σ2 H2)
abbrev XO(fp:List Ê)(h:ć):List<|Ê×Obj:=fp.filterMap λb=>(h.get? b).map λo=>(b,o)
variable {fp:List Ê} {h:ć}
def Z2{b:Ê}{o:Obj}(hb:b∈fp)(e:h.get? b=dF o):(b,o)∈XO fp h:=Ż.mpr ⟨b,hb,by rw[e];rfl⟩
def KI{p:Ê×Obj}(hp:p∈XO fp h):p.1∈fp/\h.get? p.1=dF p.2:=by
 let⟨b,hb,e⟩:=Ż.mp hp;cases q:h.get? b with
 |none=>rw[q]at e;cases e
 |some o =>rw[q]at e;have e':(b,o)=p:=í e;subst e';exact⟨hb,q⟩
def Inv.pinned(I:Inv X Á σ H s)(hf:∀b∈fp,Wv X Á H b)(ho:∀b∈fp,∃o,s.heap.get? b=dF o/\∀v,o.data≠.cell v):Inv X (Á++XO fp s.heap) σ H s :=
 I.pins_of λp hp=>(â.mp hp).elim (λz=>I.pin p<|È _ z) λz=>by let⟨hb,e⟩:=KI z;let⟨f0,f1,f2,_⟩:=hf p.1 hb;let⟨o,e',d⟩:=ho p.1 hb;rw[e]at e';cases e';exact⟨e,f0,f1,f2,d⟩
def Inv.unpinned{pl:List (Ê×Obj)}(I:Inv X (Á++pl) σ H s):Inv X Á σ H s:=I.pins_of λp hp=>I.pin p (È _<|Û _ hp)
def Cw{ś:Expr}{body:List ğ}{wi:TI}{g:TG}{tb:TS}(hp:ο (Þ X.prog X.w) X.A X.env X.xe)(hc:X.calm=dI)(hi:PI X tg ś wi)(hg:PG X tg g)(hb:PSs X body tb)
  (hs:∀x,Ē ś X.env x=pure x:=by intro _;rfl):PS X (.For tg ś body [] ç)<|Sb wi g tb:=by
 intro Á s σ H D I h;refine wpAny_For (thn (hi Á s σ H _ I h) λv s1 h1=>thn h1 λitv s2 h2=>?_) hs;let⟨it,fp,tn,J,H2,e,I2,T,st2,f2,W,⟨m0,w0⟩,turn⟩:=h2;subst e;have stat:∀{H':Hp},(∀b∈fp,H' b=dG)->∀b∈fp,Wv X Á H' b:=λhn b hb=>⟨hn b hb,(f2 b hb).2⟩
 refine codeAny_forLoop_any (λn s'=>∃i Ņ H',Inv X Á Ņ H' s'/\tn i s'.heap/\(∀b∈fp,H' b=dG)/\W i n Ņ H') ?_ m0 ⟨0,σ,H2,I2,st2,λb hb=>(f2 b hb).1,w0⟩;rintro n s3 ⟨i,aS,H3,I3,st3,fr3,w3⟩;rcases turn i n aS H3 w3 with⟨stop,qn⟩|⟨go,N,hN,step⟩
 .refine Ō hp<|thn (T.done X rfl rfl rfl hc i Á s3 aS H3 X.xe I3 (stat fr3) st3 stop) λr s4 ⟨hr,I4⟩=>?_;subst hr;exact ŋ ⟨aS,H3,I4,qn⟩
 .refine Ō hp<|thn (T.item X rfl rfl rfl hc i Á s3 aS H3 X.xe I3 (stat fr3) st3 go) λr s4 ⟨u,hr,h4⟩=>?_;subst hr;refine Ō hp<|thn h4 λ_ s5 ⟨x,H5,I5,r5,y5,st5,fr5⟩=>?_;have I5':=I5.pinned (stat fr5)<|T.obj _ _ st5;refine Ō hp<|thn (hg _ s5 aS H5 x u _ I5' r5<|step x H5 y5) λ_ s6 ⟨σ6,H6,I6,q6⟩=>?_;refine Ō hp<|thn (hb _ s6 σ6 H6 _ I6 q6) λf s7 q7=>?_;have again:∀{aT:St}{H7:Hp},Inv X (Á++XO fp s5.heap) aT H7 s7->N aT H7->∃m,m<n/\∃i Ņ H',Inv X Á Ņ H' s7/\tn i s7.heap/\(∀b∈fp,H' b=dG)/\W i m Ņ H':=λ{aT H7} I7 n7=>by
   let⟨m',hm,w7⟩:=hN aT H7 n7;refine⟨m',hm,i+1,aT,H7,I7.unpinned,T.keep _ _ _ st5 λb hb o e=>(I7.pin (b,o)<|È _<|È _<|Z2 hb e).1,λb hb=>?_,w7⟩;let⟨o,e,d⟩:=T.obj _ _ st5 b hb;exact(I7.pin (b,o)<|È _<|È _<|Z2 hb e).2.1
  cases f with
  |next=>let⟨aT,H7,I7,n7⟩:=q7;exact again I7 n7
  |cont=>let⟨aT,H7,I7,n7⟩:=q7;exact again I7 n7
  |brk=>let⟨aT,H7,I7,q7⟩:=q7;exact⟨aT,H7,I7.unpinned,q7⟩
  |ret v=>let⟨x7,aT,H7,I7,r7,q7⟩:=q7;exact⟨x7,aT,H7,I7.unpinned,r7,q7⟩
end
noncomputable abbrev R2:=V->V->Hp->VK->Prop
abbrev OpR(X:Cx)(f:Â->Â->Sem Â)(r:R2):Prop :=
 ∀(Á:List<|Ê×Obj) (s:Ä) (σ:St) (H:Hp) (x y:V) (v u:Â) (Q:VK),Inv X Á σ H s->RelV x v->RelV y u->r x y H Q->
  wpAny (Þ X.prog X.w) X.A (f v u) (EP X Á σ Q) X.xe s
abbrev UnR(X:Cx)(f:Â->Sem Â)(r:V->Hp->VK->Prop):Prop :=
 ∀(Á:List<|Ê×Obj) (s:Ä) (σ:St) (H:Hp) (x:V) (v:Â) (Q:VK),Inv X Á σ H s->RelV x v->r x H Q->
  wpAny (Þ X.prog X.w) X.A (f v) (EP X Á σ Q) X.xe s
abbrev dU(X:Cx)(f:Â)(r:List V->Hp->VK->Prop):Prop :=
 ∀(Á:List<|Ê×Obj) (s:Ä) (σ:St) (H:Hp) (xs:List V) (us:List Â) (Q:VK),Inv X Á σ H s->fo xs us->r xs H Q->
  wpAny (Þ X.prog X.w) X.A (call f us) (EP X Á σ Q) X.xe s
abbrev Se(X:Cx)(r:V->Hp->(Bool->Hp->Prop)->Prop):Prop :=
 ∀(Á:List<|Ê×Obj) (s:Ä) (σ:St) (H:Hp) (x:V) (v:Â) (Q:Bool->Hp->Prop),Inv X Á σ H s->RelV x v->r x H Q->
  wpAny (Þ X.prog X.w) X.A (truthy v) (TP X Á σ Q) X.xe s
abbrev tOp(r:R2)(ta tb:TE):TE:=λσ H Q=>ta σ H λx H1=>tb σ H1 λy H2=>r x y H2 Q
abbrev tUn(r:V->Hp->VK->Prop)(ta:TE):TE:=λσ H Q=>ta σ H λx H1=>r x H1 Q
abbrev rI(C:Int->Int->Prop)(g:Int->Int->V):R2:=λx y H Q=>∃i j,x=.int i/\y=.int j/\C i j/\Q (g i j) H
abbrev rI0(g:Int->Int->V):R2:=λx y H Q=>∃i j,x=.int i/\y=.int j/\Q (g i j) H
abbrev rU(g:Int->V):V->Hp->VK->Prop:=λx H Q=>∃i,x=.int i/\Q (g i) H
section
variable {X:Cx}{a b c:Expr}{ta tb tc:TE}{ç:Pos}
variable {f:Â->Â->Sem Â}
def Ph(ha:PE X a ta)(hb:PE X b tb){Á:List (Ê×Obj)}{s:Ä}{σ:St}{H:Hp}{R:V->V->Hp->Prop}(I:Inv X Á σ H s)
  (h:ta σ H λx H1=>tb σ H1 λy H2=>R x y H2){Q:Â->Ä->Prop} 
  (hf:∀v u s2 x y H2,Inv X Á σ H2 s2->RelV x v->RelV y u->R x y H2->wpAny (Þ X.prog X.w) X.A (f v u) Q X.xe s2) :
  wpAny (Þ X.prog X.w) X.A (eval a X.env) (λv ģ=>wpAny (Þ X.prog X.w) X.A (eval b X.env) (λu bw=>wpAny (Þ X.prog X.w) X.A (f v u) Q X.xe bw) X.xe ģ) X.xe s:=by
 refine thn (ha Á s σ H _ I h) λv s1 ⟨x,H1,I1,r1,q1⟩=>?_;refine thn (hb Á s1 σ H1 _ I1 q1) λu s2 ⟨y,H2,I2,r2,q2⟩=>?_;exact hf v u s2 x y H2 I2 r1 r2 q2
def Qz{op:Ν}{r:R2}(ho:OpR X (Ļ op) r)(ha:PE X a ta)(hb:PE X b tb):PE X (.BinOp a op b ç)<|tOp r ta tb:=by intro Á s σ H Q I h;exact wpAny_BinOp (Ph ha hb I h λv u s2 x y H2 I2 rx ry q=>ho Á s2 σ H2 x y v u Q I2 rx ry q)
def Rt{op:UnaryOp}{r:V->Hp->VK->Prop}(ho:UnR X (unaryOp op) r)(ha:PE X a ta):PE X (.UnaryOp op a ç)<|tUn r ta:=by intro Á s σ H Q I h;exact UnaryOp_ (thn (ha Á s σ H _ I h) λv s1 ⟨x,H1,I1,r1,q1⟩=>ho Á s1 σ H1 x v Q I1 r1 q1)
variable {g:Int->Int->Int}
def opI{C:Int->Int->Prop} 
  (rule:∀(i j:Int) (t u:Tok) (s:Ä) (Q:Â->Ä->Prop) (E:Â->Ä->Prop),C i j->Q (.int (g i j) s.toks) {s with toks:=s.toks+1}->wpAny (Þ X.prog X.w) X.A (f (.int i t)<|.int j u) Q E s) :
  OpR X f (rI C λi j=>.int<|g i j):=by
 intro Á s σ H x y v u Q I rx ry h;let⟨i,j,rfl,rfl,hc,q⟩:=h;let⟨t,rfl⟩:=rx;let⟨t',rfl⟩:=ry;exact rule i j t t' s _ _ hc ⟨.int<|g i j,H,I.tok _,⟨_,rfl⟩,q⟩
def PX  
  (rule:∀(i j:Int) (t u:Tok) (s:Ä) (Q:Â->Ä->Prop) (E:Â->Ä->Prop),Q (.int (g i j) s.toks) {s with toks:=s.toks+1}->wpAny (Þ X.prog X.w) X.A (f (.int i t)<|.int j u) Q E s) :
  OpR X f (rI0 λi j=>.int<|g i j):=by
 intro Á s σ H x y v u Q I rx ry h;let⟨i,j,rfl,rfl,q⟩:=h;let⟨t,rfl⟩:=rx;let⟨t',rfl⟩:=ry;exact rule i j t t' s _ _ ⟨.int<|g i j,H,I.tok _,⟨_,rfl⟩,q⟩
def FK{g:Int->Int->Bool}
  (rule:∀(i j:Int) (t u:Tok) (s:Ä) (Q:Â->Ä->Prop) (E:Â->Ä->Prop),Q (.bool<|g i j) s->wpAny (Þ X.prog X.w) X.A (f (.int i t)<|.int j u) Q E s) :
  OpR X f (rI0 λi j=>.bl<|g i j):=by
 intro Á s σ H x y v u Q I rx ry h;let⟨i,j,rfl,rfl,q⟩:=h;let⟨t,rfl⟩:=rx;let⟨t',rfl⟩:=ry;exact rule i j t t' s _ _ ⟨.bl<|g i j,H,I,rfl,q⟩
abbrev Rk(i j:Int):Prop:=0<j/\j<1073741824
abbrev QN(i j:Int):Prop:=0<=j/\j<=1000000/\i.natAbs<2 ^ 64
def op_add:OpR X (Ļ .Add)<|rI0 λi j=>.int<|i+j:=PX λ_ _ _ _ _ _ _ q=>add_int q
def L3:OpR X (Ļ .Sub)<|rI0 λi j=>.int<|i - j:=PX λ_ _ _ _ _ _ _ q=>sub_int q
def Ge:OpR X (Ļ .FloorDiv)<|rI Rk λi j=>.int<|i / j:=opI λi j _ _ _ _ _ hc q=>by have h1:(0:Int)<j:=hc.1;have h2:j<1073741824:=hc.2;exact floordiv_int (by lia) (by rw[Int.fdiv_eq_ediv_of_nonneg i<|by lia];exact q) (.inl<|PyProof.noPylong_small<|by lia)
def Ho:OpR X (Ļ .Mod)<|rI (λ_ j=>0<j) λi j=>.int<|i % j:=opI λi j _ _ _ _ _ hc q=>by have h1:(0:Int)<j:=hc;exact mod_int' (by lia) (by rw[Int.fmod_eq_emod_of_nonneg i<|by lia];exact q)
def LI:OpR X (Ļ .Pow)<|rI QN λi j=>.int<|i ^ j.toNat:=opI λ_ _ _ _ _ _ _ hc q=>pow_int_small hc.1 hc.2.1 hc.2.2 q
def unI{f:Â->Sem Â}{g:Int->Int}
  (rule:∀(i:Int) (t:Tok) (s:Ä) (Q:Â->Ä->Prop) (E:Â->Ä->Prop),Q (.int (g i) s.toks) {s with toks:=s.toks+1}->wpAny (Þ X.prog X.w) X.A (f<|.int i t) Q E s) :
  UnR X f (rU λi=>.int<|g i):=by
 intro Á s σ H x v Q I rx h;let⟨i,rfl,q⟩:=h;let⟨t,rfl⟩:=rx;exact rule i t s _ _ ⟨.int<|g i,H,I.tok _,⟨_,rfl⟩,q⟩
def HN:UnR X (unaryOp .USub)<|rU λi=>.int (-i):=unI λ_ _ _ _ _ q=>neg_int q
end
section
variable {X:Cx}{a b c:Expr}{ta tb tc:TE}{ç:Pos}
def Pf{Á:List (Ê×Obj)}{σ:St}{H:Hp}{s:Ä}{Q:VK}{k k':Bool}(I:Inv X Á σ H s)(q:Q (.bl k) H)(e:k=k'):EP X Á σ Q (.bool k') s:=by subst e;exact⟨.bl k,H,I,rfl,q⟩
def op_lt:OpR X (ê .Lt)<|rI0 λi j=>.bl<|fJ (i<j):=FK λ_ _ _ _ _ _ _ q=>lt_int q
def P8:OpR X (ê .LtE)<|rI0 λi j=>.bl<|fJ (i<=j):=FK λ_ _ _ _ _ _ _ q=>le_int q
def op_gt:OpR X (ê .Gt)<|rI0 λi j=>.bl<|fJ (j<i):=FK λ_ _ _ _ _ _ _ q=>gt_int q
def Qj:OpR X (ê .GtE)<|rI0 λi j=>.bl<|fJ (j<=i):=FK λ_ _ _ _ _ _ _ q=>ge_int q
def U6:OpR X (ê .In) λx y H Q=>∃i j,x=.str i/\y=.str j/\Q (.bl (!(Builtin.Str.occurrences j i 0 j.length 1).isEmpty)) H:=by intro Á s σ H x y v u Q I rx ry h;let⟨i,j,rfl,rfl,q⟩:=h;let⟨t,rfl⟩:=rx;let⟨t',rfl⟩:=ry;exact in_str (Pf I q rfl)
variable {r:R2} {r':R2}
def OpR.or{f:Â->Â->Sem Â}(h:OpR X f r)(h':OpR X f r'):OpR X f λx y H Q=>r x y H Q\/r' x y H Q:=by
 intro Á s σ H x y v u Q I rx ry q;rcases q with q|q
 .exact h Á s σ H x y v u Q I rx ry q
 .exact h' Á s σ H x y v u Q I rx ry q
variable {op:bI}
def UC(ho:OpR X (ê op) r)(ha:PE X a ta)(hb:PE X b tb)(hm:İ op b=dJ):PE X (.Compare a [op] [b] ç)<|tOp r ta tb:=by intro Á s σ H Q I h;exact wpAny_Compare1 (Ph ha hb I h λv u s2 x y H2 I2 rx ry q=>ho Á s2 σ H2 x y v u Q I2 rx ry q) hm
abbrev GP(t:TE):TT:=λσ H Q=>t σ H λx H'=>∃k,x=.bl k/\Q k H'
def Ut(ho:OpR X (ê op) r)(ha:PE X a ta)(hb:PE X b tb)(hm:İ op b=dJ):PT X (.Compare a [op] [b] ç)<|GP<|tOp r ta tb:=by
 intro Á s σ H Q I h;refine wpAny_isTrue_Compare1 (thn (ha Á s σ H _ I h) λv s1 ⟨x,H1,I1,r1,q1⟩=>thn (hb Á s1 σ H1 _ I1 q1) λu s2 ⟨y,H2,I2,r2,q2⟩ =>
   thn (ho Á s2 σ H2 x y v u _ I2 r1 r2 q2) λc s3 ⟨z,H3,I3,r3,k,e,q3⟩=>?_) hm
 subst e;cases r3;exact ĉ ⟨H3,I3,q3⟩
abbrev Bz(r r':R2)(ta tb tc:TE):TE:=λσ H Q=>ta σ H λx H1=>tb σ H1 λy H2=>r x y H2 λz H3=>∃k,z=.bl k/\
 (if k=dI then tc σ H3 λw' H4=>r' y w' H4 Q else Q (.bl dJ) H3)
variable {cI:bI}
def BW(ho:OpR X (ê op) r)(Ρ:OpR X (ê cI) r')(ha:PE X a ta)(hb:PE X b tb)(hc:PE X c tc)
  (hm:aO [op,cI] [b,c]=dJ:=by with_unfolding_all rfl):PE X (.Compare a [op,cI] [b,c] ç)<|Bz r r' ta tb tc:=by
 intro Á s σ H Q I h;refine Compare_chain (thn (ha Á s σ H _ I h) λv s1 ⟨x,H1,I1,r1,q1⟩=>chain_link (thn (hb Á s1 σ H1 _ I1 q1) λu s2 ⟨y,H2,I2,r2,q2⟩ =>
   thn (ho Á s2 σ H2 x y v u _ I2 r1 r2 q2) λd s3 ⟨z,H3,I3,r3,k,e,q3⟩=>?_)) hm
 subst e;cases r3;refine ĉ ?_;cases k with
 |false=>exact ite_ff ⟨.bl dJ,H3,I3,rfl,q3⟩
 |true=>exact ite_tt<|chain_last<|thn (hc Á s3 σ H3 _ I3 q3) λw' s4 ⟨z',H4,I4,r4,q4⟩=>Ρ Á s4 σ H4 y z' u w' Q I4 r2 r4 q4
def BJ(ho:OpR X (ê op) r)(Ρ:OpR X (ê cI) r')(ha:PE X a ta)(hb:PE X b tb)(hc:PE X c tc)
  (hm:aO [op,cI] [b,c]=dJ:=by with_unfolding_all rfl):PT X (.Compare a [op,cI] [b,c] ç)<|GP<|Bz r r' ta tb tc:=by
 intro Á s σ H Q I h;refine isTrue_chain (thn (ha Á s σ H _ I h) λv s1 ⟨x,H1,I1,r1,q1⟩=>test_link (thn (hb Á s1 σ H1 _ I1 q1) λu s2 ⟨y,H2,I2,r2,q2⟩ =>
   thn (ho Á s2 σ H2 x y v u _ I2 r1 r2 q2) λd s3 ⟨z,H3,I3,r3,k,e,q3⟩=>?_)) hm
 subst e;cases r3;refine ĉ ?_;cases k with
 |false =>let⟨k',e',q'⟩:=q3;cases e';exact ite_ff ⟨H3,I3,q'⟩
 |true =>refine ite_tt<|test_last<|thn (hc Á s3 σ H3 _ I3 q3) λw' s4 ⟨z',H4,I4,r4,q4⟩=>thn (Ρ Á s4 σ H4 y z' u w' _ I4 r2 r4 q4) λd' s5 ⟨z2,H5,I5,r5,k2,e2,q5⟩=>?_;subst e2;cases r5;exact ĉ ⟨H5,I5,q5⟩
abbrev QG(K:Frag)(x:V)(H:Hp)(k:Bool):Prop :=
 match x with
 |.non=>k=dJ
 |.bl b=>k=b
 |.int i=>k=(i != 0)
 |.str y=>y.length<=Ü/\k=((y.length:Int) != 0)
 |.byt y=>y.size<=Ü/\k=((y.size:Int) != 0)
 |.ref p=>(∃xs,fk K H p xs/\k=!xs.isEmpty)\/(∃xs,fm K H p xs/\k=!xs.isEmpty)\/∃kvs,H p=dF (.dK kvs)/\k=!kvs.isEmpty
 |_=>False
def OK{κ:Type}{kvs:List (κ×V)}{vs:List (κ×Â)}(r:KV kvs vs):(!vs.isEmpty)=!kvs.isEmpty:=by cases r<;>rfl
def JV{xs:List V}{î:List Â}(r:fo xs î):(!î.toArray.isEmpty)=!xs.isEmpty:=by cases r<;>simp
def Xn:(Ü:Nat)<2 ^ 63:=by rw[ţ];decide
def Pk:Se X λx H Q=>∃k,QG X.K x H k/\Q k H:=by
 intro Á s σ H x v Q I rx h;let⟨k,e,q⟩:=h;have hl:=Xn;have hs:Ü=16777216:=ţ;cases x with
 |non =>cases rx;have e':k=dJ:=e;subst e';exact truthy_none ⟨H,I,q⟩
 |bl b =>cases rx;have e':k=b:=e;subst e';exact ĉ ⟨H,I,q⟩
 |int i =>let⟨t,rfl⟩:=rx;have e':k=(i != 0):=e;subst e';exact PySem.P.truthy_int ⟨H,I,q⟩
 |str y =>let⟨t,rfl⟩:=rx;obtain⟨hy,e'⟩:y.length<=Ü/\k=((y.length:Int) != 0):=e;subst e';exact PySem.P.truthy_str (by lia) ⟨H,I.tok _,q⟩
 |byt y =>let⟨t,rfl⟩:=rx;obtain⟨hy,e'⟩:y.size<=Ü/\k=((y.size:Int) != 0):=e;subst e';exact PySem.W.truthy_bytes (by lia) ⟨H,I.tok _,q⟩
 |ref p =>
  cases rx;have e':(∃xs,fk X.K H p xs/\k=!xs.isEmpty)\/(∃xs,fm X.K H p xs/\k=!xs.isEmpty)\/∃kvs,H p=dF (.dK kvs)/\k=!kvs.isEmpty:=e;rcases e' with⟨xs,hx,e'⟩|⟨xs,hx,e'⟩|⟨kvs,hx,e'⟩
  .subst e';let⟨î,r,pl,hz⟩:=I.list hx;have hlen:=r.length;exact wpAny_truthy_list pl.isList (by simp only[Ë];lia) ⟨H,I.tok _,by rw[JV r];exact q⟩
  .subst e';let⟨î,r,pl,hz⟩:=I.tuple hx;have hlen:=r.length;exact truthy_tuple pl (by simp only[Ë];lia) ⟨H,I.tok _,by rw[JV r];exact q⟩
  .subst e';obtain⟨hz,hS,vs,r,m⟩:kvs.length<=Ü/\(p==ň)=dJ/\∃vs,KV kvs vs/\s.heap.DictOf (Zg X.prog X.w) p vs:=I.hok p _ hx;have hlen:kvs.length=vs.length:=Paired.length r;exact wpAny_truthy_dict hS m (by lia) ⟨H,I.tok _,by rw[OK r];exact q⟩
 |_=>exact(show False from e).elim
def C9(ha:PE X a ta)(he:∀aa,bH a X.env aa=(do let v<-aa;Γ a.pos;ŉ [v] (truthy v))) :
  PT X a (λσ H Q=>ta σ H λx H'=>∃k,QG X.K x H' k/\Q k H'):=by
 intro Á s σ H Q I h;exact isTrue_plain (thn (ha Á s σ H _ I h) λv s1 ⟨x,H1,I1,r1,q1⟩=>Pk Á s1 σ H1 x v Q I1 r1 q1)<|he _
def On:OpR X (Ļ .Add) λx y H Q=>∃i j,x=.str i/\y=.str j/\i.length+j.length<=Ü/\Q (.str<|i++j) H:=by intro Á s σ H x y v u Q I rx ry h;let⟨i,j,rfl,rfl,hz,q⟩:=h;let⟨t,rfl⟩:=rx;let⟨t',rfl⟩:=ry;exact add_str (λt' tk=>⟨.str<|i++j,H,I.tok _,⟨_,rfl⟩,q⟩) hz
variable {x:V} {us:List Â}
def ZL(r:fo [x] us):∃u,us=[u]/\RelV x u:=by
 cases r with
 |cons r1 r2=>cases r2;exact⟨_,rfl,r1⟩
def JQ{y:V}(r:fo [x,y] us):∃u w',us=[u,w']/\RelV x u/\RelV y w':=by
 cases r with
 |cons r1 r2 =>
  cases r2 with
  |cons r3 r4=>cases r4;exact⟨_,_,rfl,r1,r3⟩
def B5:dU X (.builtin "abs") λxs H Q=>∃i,xs=[.int i]/\Q (.int<|if i<0 then -i else i) H:=by intro Á s σ H xs us Q I r h;let⟨i,rfl,q⟩:=h;let⟨u,rfl,t,rfl⟩:=ZL r;exact call_abs_int λu tk=>⟨.int (if i<0 then -i else i),H,I.tok _,⟨_,rfl⟩,q⟩
def U8(hc:X.calm=dI):dU X (.builtin "max") λxs H Q=>∃i j,xs=[.int i,.int j]/\Q (.int<|if j > i then j else i) H:=by
 intro Á s σ H xs us Q I r h;let⟨i,j,rfl,q⟩:=h;let⟨u,w',rfl,⟨t,rfl⟩,⟨t',rfl⟩⟩:=JQ r;refine max_two_ints (I.ok.hd hc) λh' tk k=>⟨_,H,I.kept k,?_,q⟩
 by_cases hj:j > i
 .rw[fA hj,fA hj];exact⟨_,rfl⟩
 .rw[fB hj,fB hj];exact⟨_,rfl⟩
def Aj(hc:X.calm=dI):dU X (.builtin "min") λxs H Q=>∃i j,xs=[.int i,.int j]/\Q (.int<|if j<i then j else i) H:=by
 intro Á s σ H xs us Q I r h;let⟨i,j,rfl,q⟩:=h;let⟨u,w',rfl,⟨t,rfl⟩,⟨t',rfl⟩⟩:=JQ r;refine min_two_ints (I.ok.hd hc) λh' tk k=>⟨_,H,I.kept k,?_,q⟩
 by_cases hj:j<i
 .rw[fA hj,fA hj];exact⟨_,rfl⟩
 .rw[fB hj,fB hj];exact⟨_,rfl⟩
def call_int1:dU X (.type "int") λxs H Q=>(∃i,xs=[.int i]/\Q (.int i) H)\/∃k,xs=[.bl k]/\Q (.int<|if k then 1 else 0) H:=by
 intro Á s σ H xs us Q I r h;rcases h with⟨i,rfl,q⟩|⟨k,rfl,q⟩
 .obtain⟨u,rfl,t,rfl⟩:=ZL r;exact call_int_int ⟨.int i,H,I,⟨_,rfl⟩,q⟩
 .obtain⟨u,rfl,r1⟩:=ZL r;cases r1;exact call_int_bool ⟨.int (if k then 1 else 0),H,I.tok _,⟨_,rfl⟩,q⟩
end
structure ObjM(h:ć)(x dx C:Ê)(mA:Str->Option Â):Prop where
 obj:h.get? x=dF (PySem.W.instObj C dx)
 ns:h.Ns1 dx mA
 ne:dx≠x
variable {h:ć} {dx:Ê} {mA:Str->Option Â}
def AN(n:h.Ns1 dx mA):∃od,h.get? dx=dF od/\∀name,PySem.W.lookIn name od=dF (mA name):=by
 let⟨o,es,ep,ho,hd,hk,_,hm⟩:=n;refine⟨o,ho,λname=>?_⟩;have e:=hm name;unfold nsFind findBy at e;rw[<-Array.find?_toList]at e;unfold PySem.W.lookIn;rw[hd];dsimp only;split
 .rename_i y q;rw[q]at e;exact congrArg dF e
 .rename_i q;rw[q]at e;have a:es.toList.any (·.refKey)=dJ:=by
   rw[List.any_eq_false];intro y hy;let⟨z,t,hkey⟩:=hk y<|Array.mem_toList_iff.mp hy;simp[DictEntry.refKey,hkey]
  have a':¬ es.toList.any (·.refKey)=dI:=by rw[a];exact ù
  rw[fB a'];exact congrArg dF e
variable {C:Ê}
def ObjM.look{x:Ê}(I:ObjM h x dx C mA):∃od,PySem.W.InstAt h x (PySem.W.instObj C dx) C (dF od)/\∀name,PySem.W.lookIn name od=dF (mA name) :=
 let ⟨od,ho,hl⟩:=AN I.ns
 ⟨od,⟨I.obj,rfl,rfl,ho⟩,hl⟩
section
variable {prog:é}{w:Ā}{A:ď}{E:Â->Ä->Prop}{s:Ä}{K:Frag}{x dx C f:Ê}{mA:Str->Option Â}{name:Str}{v:Â}
def Ed{expr:Bool}{Q:Â->Ä->Prop}(X:K.In s.heap)(I:ObjM s.heap x dx C mA)(hg:PySem.W.plainGet K C name=dI)(hh:PySem.W.hasDictIn K C=dI)
  (ha:PySem.W.findIn K (.ref C) name=dF dG) (hv:mA name=dF v) (hv':PySem.W.handedIn v=dI) (h:Q v {s with toks:=s.toks+1}) :
  wpAny (Þ prog w) A (getAttr (.ref x) name expr) Q E s:=by
 let⟨od,J,hl⟩:=I.look;exact PySem.W.get_value X J (PySem.W.plainGet_of hg).1 (PySem.W.findObj_own hh ha rfl<|by rw[hl,hv]) hv' h
def Dk{pl:Sem Bool}{Q:Â×List Â->Ä->Prop}(X:K.In s.heap)(I:ObjM s.heap x dx C mA)(hg:PySem.W.plainGet K C name=dI)
  (hf:PySem.W.findIn K (.ref C) name=dF (dF<|.ref f)) (ht:PySem.W.isFn K (.ref f)=dI) (hv:mA name=dG) (h:Q (.ref f,[.ref x]) s) :
  wpAny (Þ prog w) A (Ξ (.ref x) name pl) Q E s:=by
 let⟨od,J,hl⟩:=I.look;exact PySem.W.method_fn X J (PySem.W.plainGet_of hg).1 (PySem.W.plainGet_of hg).2 hf (beq_iff_eq.mp ht) (by show(PySem.W.lookIn name od).map (·.isSome)=dF dJ;rw[hl,hv];rfl) h
def ER{ns:List Str}{Q:Unit->Ä->Prop}(X:K.In s.heap)(I:ObjM s.heap x dx C mA)
  (hs:PySem.W.findIn K (.ref C) "__setattr__" = dF (dF<|.builtin "object.__setattr__")) (hp:PySem.W.plainOver K C=dI) (ht:PySem.W.takerIn K C name=dF dG) (hh:PySem.W.hasDictIn K C=dI)
  (hw:PySem.Within mA ns) (hsz:ns.length<=Ü)
  (h:∀h',ObjM h' x dx C (λy=>if y=name then dF v else mA y)->Α dx s.heap h'->Q () {s with heap:=h',toks:=s.toks+2}) :
  wpAny (Þ prog w) A (setAttr (.ref x) name v) Q E s:=by
 let⟨od,J,hl⟩:=I.look;refine PySem.W.set_plain X J hs<|PySem.W.osa_open (s:={s with toks:=s.toks+1}) (r:=dG) X J hp ht λb=>?_;let⟨cd,hc,hd'⟩:=PySem.W.any_some hh;have hx:s.heap.get? x=dF ⟨.ref C,dF dx,.plain,#[]⟩:=I.obj;refine Ã<|Õ<|Ã<|Ã<|wpAny_loadPart hx<|Ã<|PySem.W.Looks.here (s:={s with toks:=s.toks+1}) (PySem.W.looks_clsIn X hc) ?_;rw[hd'];refine Õ (a:=dF dx)<|Ã<|Õ<|Ã ?_;refine wpAny_nsSet1 (s:={s with toks:=s.toks+1}) I.ns λh' hn2 hs2=>?_;let⟨oD,esD,epD,hoD,hdD,hcD⟩:=hn2.count<|PySem.Within.cons name v hw;refine Ã (wpAny_lookBehind hoD (by rw[hdD];exact pastItsLine_dict<|Ô hcD<|by rw[Ç];lia) ?_);exact Õ<|h _ ⟨(hs2.2 _<|Ne.symm I.ne).trans I.obj,hn2,I.ne⟩ hs2
def DK{R:dh->Ä->Prop}{vs:List Â}{kw:List (Str×Â)}(X:K.In s.heap)(hm:PySem.W.makesIn K C=dI)
  (hi:PySem.W.findIn K (.ref C) "__init__" = dF (dF<|.ref f)) (hf:PySem.W.typeIn K (.ref f)=dF (.type "function"))
  (h:codeAny (Þ prog w) (A.under<|.builtin "type.__call__" ⟨.ref C::vs,kw⟩) (.call (.ref f) ⟨.ref (s.heap.objs.size+1)::vs,kw⟩) (PySem.W.InitBack (s.heap.objs.size+1) R)
    { s with heap:=(s.heap.push PySem.W.emptyDict).push (PySem.W.instObj C s.heap.objs.size) }) :
  codeAny (Þ prog w) A (.call (.ref C) ⟨vs,kw⟩) R s:=by
 let⟨hh,g,d,t,os⟩:=s;exact PySem.W.make_core (PySem.W.makes_of X hm) (PySem.W.looks_findIn X hi) (λself=>PySem.W.bind_fn X self hf) (.inl rfl) h
end
abbrev d6(f:Str)(v:V):List (Str×V)->List (Str×V)
 |[]=>[(f,v)]
 |(g,x)::r=>if g=f then(g,v)::r else(g,x)::d6 f v r
def WN(f g:Str)(v:V):∀fs:List<|Str×V,(d6 f v fs).lookup g=if g=f then dF v else fs.lookup g
 |[]=>by
  show Ŭ g [(f,v)]=_;by_cases h:g=f
  .have hb:(g==f)=dI:=beq_iff_eq.mpr h;simp only[Ŭ,hb,fA h]
  .have hb:(g==f)=dJ:=beq_eq_false_iff_ne.mpr h;simp only[Ŭ,hb,fB h]
 |(k,x)::r=>by
  have ih:=WN f g v r;rw[show d6 f v ((k,x)::r)=(if k=f then(k,v)::r else(k,x)::d6 f v r) from rfl];by_cases hk:k=f
  .rw[fA hk];by_cases h:g=k
   .have hb:(g==k)=dI:=beq_iff_eq.mpr h;simp only[Ŭ,hb,fA<|h.trans hk]
   .have hb:(g==k)=dJ:=beq_eq_false_iff_ne.mpr h;simp only[Ŭ,hb,fB λe:g=f=>h<|e.trans hk.symm]
  .rw[fB hk];by_cases h:g=k
   .have hb:(g==k)=dI:=beq_iff_eq.mpr h;simp only[Ŭ,hb,fB λe:g=f=>hk<|h.symm.trans e]
   .have hb:(g==k)=dJ:=beq_eq_false_iff_ne.mpr h;simp only[Ŭ,hb];exact ih
def WC(f:Str)(v:V):∀fs:List<|Str×V,f∈(d6 f v fs).map (·.1)/\∀g,g∈fs.map (·.1)->g∈(d6 f v fs).map (·.1)
 |[]=>⟨by simp[d6],λg h=>by simp at h⟩
 |(k,x)::r=>by
  let⟨i1,i2⟩:=WC f v r;rw[show d6 f v ((k,x)::r)=(if k=f then(k,v)::r else(k,x)::d6 f v r) from rfl];by_cases hk:k=f
  .rw[fA hk];subst hk;exact⟨by simp,λg h=>⇑h⟩
  .rw[fB hk];refine⟨?_,λg h=>?_⟩
   .rw[Í];exact à _ i1
   .rw[Í]at h ⊢;rcases Æ.mp h with e|e
    .exact Æ.mpr<|.inl e
    .exact à _<|i2 g e
def WP(f:Str)(v:V):∀fs:List<|Str×V,(d6 f v fs).length<=fs.length+1
 |[]=>by simp[d6]
 |(k,x)::r=>by
  have ih:=WP f v r;rw[show d6 f v ((k,x)::r)=(if k=f then(k,v)::r else(k,x)::d6 f v r) from rfl];by_cases hk:k=f
  .rw[fA hk,Ç,Ç];lia
  .rw[fB hk,Ç,Ç];lia
variable {o:Option Â}
def eC.some_of{v:V}(r:eC (dF v) o):∃u,o=dF u/\RelV v u:=by
 cases o with
 |none=>exact(show False from r).elim
 |some u=>exact⟨u,rfl,r⟩
def eC.none_of(r:eC dG o):o=dG:=by
 cases o with
 |none=>rfl
 |some u=>exact(show False from r).elim
variable {u:Â}
def Ac{v:V}(r:RelV v u):PySem.W.handedIn u=dI:=by
 cases v with
 |non=>cases (show u=Value.none from r);rfl
 |bl b=>cases (show u=Value.bool b from r);rfl
 |int i=>let⟨t,e⟩:=(show ∃t,u=Value.int i t from r);cases e;rfl
 |str x=>let⟨t,e⟩:=(show ∃t,u=Value.str x t from r);cases e;rfl
 |byt b=>let⟨t,e⟩:=(show ∃t,u=Value.bytes b t from r);cases e;rfl
 |flt b=>let⟨t,e⟩:=(show ∃t,u=Value.float b t from r);cases e;rfl
 |ref a=>cases (show u=Value.ref a from r);rfl
 |ty n=>cases (show u=Value.type n from r);rfl
section
variable {P:é}{w:Ā}{H H':Hp}{h h':ć}{a C dx:Ê}{fs fs':List (Str×V)}
def W8(hok:HOk P w H h)(e:H a=dF (.ins C dx fs)):∃mA,ObjM h a dx C mA/\(∀f,eC (fs.lookup f)<|mA f)/\PySem.Within mA (fs.map (·.1))/\fs.length<=1000/\H dx=dF (.own a):=by
 let⟨d,z,ne,ob,mA,n,r,q⟩:=(show dW P w H h a (.ins C dx fs) from hok a _ e)
 exact⟨mA,⟨ob,n,ne⟩,r,q,z,d⟩
end
structure Cls(K:Frag)(C:Ê):Prop where
 pg:PySem.W.plainGet K C Str.empty=dI
 hd:PySem.W.hasDictIn K C=dI
 po:PySem.W.plainOver K C=dI
 sa:PySem.W.findIn K (.ref C) "__setattr__" = dF (dF<|.builtin "object.__setattr__")
def Cls.get{K:Frag}(c:Cls K C)(f:Str):PySem.W.plainGet K C f=dI:=c.pg
abbrev NoAttr(K:Frag)(C:Ê)(f:Str):Prop:=PySem.W.findIn K (.ref C) f=dF dG
def NoAttr.taker{K:Frag}{f:Str}(n:NoAttr K C f):PySem.W.takerIn K C f=dF dG:=by unfold PySem.W.takerIn;rw[show PySem.W.findIn K (.ref C) f=dF dG from n];rfl
structure Meth(K:Frag)(C:Ê)(m:Str)(f:Ê):Prop where
 at_:PySem.W.findIn K (.ref C) m=dF (dF<|.ref f)
 fn:PySem.W.isFn K (.ref f)=dI
 kp:PySem.W.keepIn K (.ref f)=dI
section
variable {X:Cx}{Á:List (Ê×Obj)}{σ:St}{H:Hp}{s:Ä}{a C dx:Ê}{fs:List (Str×V)}{f:Str}{v:V}{A:ď}{E:Â->Ä->Prop}
variable {Q:Â->Ä->Prop}
def J8{b:Bool}(I:Inv X Á σ H s)(e:H a=dF (.ins C dx fs))(c:Cls X.K C)(n:NoAttr X.K C f)(l:fs.lookup f=dF v)
  (h:∀u s',Inv X Á σ H s'->RelV v u->Q u s'):wpAny (Þ X.prog X.w) A (getAttr (.ref a) f b) Q E s:=by
 let⟨mA,O,r,_,_,_⟩:=W8 I.hok e;let⟨u,hu,ru⟩:=eC.some_of (v:=v) (o:=mA f) (by rw[<-l];exact r f);exact Ed I.kIn O (c.get f) c.hd n hu (Ac ru)<|h u _ (I.tok _) ru
def JO{m:Str}{g:Ê}{pl:Sem Bool}{Q:Â×List Â->Ä->Prop}(I:Inv X Á σ H s)(e:H a=dF (.ins C dx fs))(c:Cls X.K C)(k:Meth X.K C m g)(l:fs.lookup m=dG)
  (h:Q (.ref g,[.ref a]) s):wpAny (Þ X.prog X.w) A (Ξ (.ref a) m pl) Q E s:=by
 let⟨mA,O,r,_,_,_⟩:=W8 I.hok e;have hn:mA m=dG:=eC.none_of (by rw[<-l];exact r m);exact Dk I.kIn O (c.get m) k.at_ k.fn hn h
def JD{y:V}{Q:Unit->Ä->Prop}(I:Inv X Á σ H s)(e:H a=dF (.ins C dx fs))(c:Cls X.K C)(n:NoAttr X.K C f)(hl:fs.length<1000)(ry:RelV y u)
  (h:∀s',Inv X Á σ (upd H a<|.ins C dx<|d6 f y fs) s'->Q () s'):wpAny (Þ X.prog X.w) A (setAttr (.ref a) f u) Q E s:=by
 let⟨mA,O,r,wi,_,ho⟩:=W8 I.hok e;have hz:(fs.map (·.1)).length<=Ü:=by rw[À,ţ];lia
 refine ER I.kIn O c.sa c.po n.taker c.hd wi hz λh' O' sb=>h _ ?_;have hd:∃o,h'.get? dx=dF o:=let ⟨o,_,_,e',_⟩:=O'.ns;⟨o,e'⟩;refine I.write (x:=a) (e:=dx) (by rw[e];exact True.intro) (.inr ho) (λb q hb z=>(sb.2 b hb).trans z) hd ?_;refine⟨by rw[dL O.ne];exact ho,?_,O.ne,O'.obj,_,O'.ns,λg=>?_,λg hg=>?_⟩
 .have:=WP f y fs;lia
 .show eC ((d6 f y fs).lookup g) (if g=f then dF u else mA g);rw[WN];by_cases q:g=f
  .rw[fA q,fA q];exact ry
  .rw[fB q,fB q];exact r g
 .by_cases q:g=f
  .rw[q];exact(WC f y fs).1
  .refine(WC f y fs).2 g<|wi g λz=>hg ?_;show(if g=f then dF u else mA g)=dG;rw[fB q];exact z
def Inv.made(I:Inv X Á σ H s):Inv X Á σ (upd (upd H s.heap.objs.size<|.own<|s.heap.objs.size+1) (s.heap.objs.size+1)<|.ins C s.heap.objs.size [])
  {s with heap:=(s.heap.push PySem.W.emptyDict).push (PySem.W.instObj C s.heap.objs.size)}:=by
 have e1:(s.heap.push PySem.W.emptyDict).get? s.heap.objs.size=dF PySem.W.emptyDict:=Ý s.heap rfl;have e2:((s.heap.push PySem.W.emptyDict).push<|PySem.W.instObj C s.heap.objs.size).get? (s.heap.objs.size+1)=dF (PySem.W.instObj C s.heap.objs.size):=by
  have:=Ý (s.heap.push PySem.W.emptyDict) (o:=PySem.W.instObj C s.heap.objs.size) rfl
  rwa [Ŏ]at this
 have e3:(s.heap.push PySem.W.emptyDict).Ns s.heap.objs.size λ_=>dG:=⟨PySem.W.emptyDict,#[],_,e1,rfl,(λe he=>fI he<|by simp),λ_=>rfl⟩
 have I1:=I.laid (a:=s.heap.objs.size) (o:=.own<|s.heap.objs.size+1) (h':=s.heap.push PySem.W.emptyDict) (t':=s.toks) (λb u q=>Å _ q) (Ì _) ⟨_,e1⟩;refine I1.laid (a:=s.heap.objs.size+1) (o:=.ins C s.heap.objs.size []) (t':=s.toks) (λb u q=>Å _ q) (Nat.le_of_eq<|Ŏ _ _) ?_;have ne:s.heap.objs.size≠s.heap.objs.size+1:=ë<|ă _;refine⟨by rw[dL ne,dM],Ř _,ne,e2,λ_=>dG,(Heap.Ns1.of_empty e3).at λo q=>Å _ q,λ_=>True.intro,λy hy=>fI rfl hy⟩
def E8{prog:é}{w:Ā}{env:Env}{e:Expr}{ç:Pos}(hb:Ğ e f env (eval e env)=eval e env)
  (h:wpAny (Þ prog w) A (eval e env) (λo ģ=>wpAny (Þ prog w) A (getAttr o f dI) Q E ģ) E s):wpAny (Þ prog w) A (eval (.Attribute e f ç) env) Q E s :=
 Attribute_any_ h (by rw[arm_eval_Attribute,hb])
end
abbrev Sd(K:Frag)(ta:TE)(f:Str):TE:=λσ H Q=>ta σ H λx H1=>∃a C dx fs v,x=.ref a/\H1 a=dF (.ins C dx fs)/\Cls K C/\NoAttr K C f/\fs.lookup f=dF v/\Q v H1
abbrev Sq(K:Frag)(ta tv:TE)(f:Str):TS:=λD σ H=>tv σ H λy H1=>ta σ H1 λx H2=>∃a C dx fs,x=.ref a/\H2 a=dF (.ins C dx fs)/\Cls K C/\NoAttr K C f/\fs.length<1000/\
 D.nx σ (upd H2 a<|.ins C dx<|d6 f y fs)
abbrev DS(X:Cx)(op:Ν)(rd:V->V->Hp->VK->Prop):Prop :=
 ∀(Á:List<|Ê×Obj) (s:Ä) (σ:St) (H:Hp) (x y:V) (u v:Â) (Q:VK),Inv X Á σ H s->RelV x u->RelV y v->rd x y H Q->wpAny (Þ X.prog X.w) X.A (inplaceOp op u v) (EP X Á σ Q) X.xe s
abbrev FB(K:Frag)(ta tv:TE)(rd:V->V->Hp->VK->Prop)(f:Str):TS:=λD σ H=>ta σ H λx H1=>∃a C dx fs v,x=.ref a/\H1 a=dF (.ins C dx fs)/\Cls K C/\NoAttr K C f/\fs.lookup f=dF v/\
 tv σ H1 λy H2=>rd v y H2 λz H3=>∃dx' fs',H3 a=dF (.ins C dx' fs')/\fs'.length<1000/\D.nx σ (upd H3 a<|.ins C dx'<|d6 f z fs')
section
variable {X:Cx}{o e Ŵ:Expr}{f:Str}{ç ϯ bW:Pos}{ta tv:TE}
def HD(he:PE X e ta)(hb:Ğ e f X.env (eval e X.env)=eval e X.env):PE X (.Attribute e f ç)<|Sd X.K ta f:=by intro Á s σ H Q I h;refine E8 hb<|thn (he Á s σ H _ I h) λu s1 ⟨x,H1,I1,rx,a,C,dx,fs,v,ex,ea,c,n,l,q⟩=>?_;subst ex;obtain rfl:u=Value.ref a:=rx;exact J8 I1 ea c n l λu' s2 I2 ru=>⟨v,H1,I2,ru,q⟩
def Ly(ha:PE X o ta)(hv:PE X Ŵ tv)(hs:ō Ŵ (dF<|.Attribute o f ϯ) ç.line X.env=pure dJ):PS X (.Assign [.Attribute o f ϯ] Ŵ ç)<|Sq X.K ta tv f:=by intro Á s σ H D I h;refine plainObj_wpAny_Assign_Attribute (thn (hv Á s σ H _ I h) λu s1 ⟨y,H1,I1,ry,q⟩=>thn (ha Á s1 σ H1 _ I1 q) λov s2 ⟨x,H2,I2,rx,a,C,dx,fs,ex,ea,c,n,l,q2⟩=>?_) hs;subst ex;obtain rfl:ov=Value.ref a:=rx;exact JD I2 ea c n l ry λs3 I3=>⟨σ,_,I3,q2⟩
def U0{op:Ν}{rd:V->V->Hp->VK->Prop}(ha:PE X o ta)(hv:PE X Ŵ tv)(hop:DS X op rd):PS X (.AugAssign (.Attribute o f bW) op Ŵ ç)<|FB X.K ta tv rd f:=by intro Á s σ H D I h;refine wpAny_AugAssign_AttributeAny<|thn (ha Á s σ H _ I h) λov s1 ⟨x,H1,I1,rx,a,C,dx,fs,v,ex,ea,c,n,l,q⟩=>?_;subst ex;obtain rfl:ov=Value.ref a:=rx;refine J8 I1 ea c n l λu s2 I2 ru=>thn (hv Á s2 σ H1 _ I2 q) λw3 s3 ⟨y,H2,I3,ry,q3⟩=>thn (hop Á s3 σ H2 v y u w3 _ I3 ru ry q3) λw4 s4 ⟨z,H3,I4,rz,dx',fs',ea',l',q4⟩=>?_;exact JD I4 ea' c n l' rz λs5 I5=>⟨σ,_,I5,q4⟩
abbrev RU:V->V->Hp->VK->Prop:=λx y H Q=>∃i j,x=.int i/\y=.int j/\Q (.int<|i+j) H
abbrev R3:V->V->Hp->VK->Prop:=λx y H Q=>∃i j,x=.int i/\y=.int j/\Q (.int<|i - j) H
def HK:DS X .Add RU:=by
 rintro Á s σ H x y u v Q I rx ry ⟨i,j,rfl,rfl,q⟩;let⟨t,rfl⟩:=(show ∃t,u=Value.int i t from rx)
 let⟨t',rfl⟩:=(show ∃t',v=Value.int j t' from ry)
 exact PyProof.Rows.iadd_int ⟨.int<|i+j,H,I.tok _,⟨_,rfl⟩,q⟩
def IK:DS X .Sub R3:=by
 rintro Á s σ H x y u v Q I rx ry ⟨i,j,rfl,rfl,q⟩;let⟨t,rfl⟩:=(show ∃t,u=Value.int i t from rx)
 let⟨t',rfl⟩:=(show ∃t',v=Value.int j t' from ry)
 exact PyProof.Rows.isub_int ⟨.int<|i - j,H,I.tok _,⟨_,rfl⟩,q⟩
end
section
variable {X:Cx}{Á:List (Ê×Obj)}{σ:St}{H:Hp}{s:Ä}{A:ď}{E:Â->Ä->Prop}{Q:Â->Ä->Prop}{c:Â}{b:Bool}
inductive fg (K:Frag) (H:Hp):V->Â->Prop where
 |non:fg K H .non<|.type "NoneType"
 |bl (x:Bool):fg K H (.bl x)<|.type "bool"
 |int (i:Int):fg K H (.int i)<|.type "int"
 |str (x:Str):fg K H (.str x)<|.type "str"
 |flt (x:UInt64):fg K H (.flt x)<|.type "float"
 |lst {a:Ê}{xs:List V}(e:H a=dF (.lst xs)):fg K H (.ref a)<|.type "list"
 |frz {a:Ê}{o:Obj}{xs:List V}(e:H a=dF (.frz o<|.lst xs)):fg K H (.ref a)<|.type "list"
 |tup {a:Ê}{xs:List V}(e:H a=dF (.tup xs)):fg K H (.ref a)<|.type "tuple"
 |dK {a:Ê}{kvs:List (Key×V)}(e:H a=dF (.dK kvs)):fg K H (.ref a)<|.type "dict"
 |dT {a:Ê}{kvs:List (List Key×V)}(e:H a=dF (.dT kvs)):fg K H (.ref a)<|.type "dict"
 |ins {a C dx:Ê}{fs:List (Str×V)}(e:H a=dF (.ins C dx fs)) (cl:Cls K C) (ha:PySem.W.findIn K (.ref C) "__class__" = dF (dF<|.builtin "object.__class__"))
   (hn:PySem.W.specialIn K (.builtin "object.__class__") "__get__" = dF (dF<|.builtin "getset_descriptor.__get__")) (htk:PySem.W.takesIn K (.builtin "object.__class__")=dF dI)
   (hm:PySem.W.mroIn K C (.type "object")=dF dI):fg K H (.ref a)<|.ref C
def UX{x:V}{t:Â}(I:Inv X Á σ H s)(rx:RelV x u)(ty:fg X.K H x t)(e:PySem.W.kitOne X.K t c=dF b)(h:∀tk,Q (.bool b) {s with toks:=tk}) :
  wpAny (Þ X.prog X.w) A (call (.builtin "isinstance") [u,c]) Q E s:=by
 cases ty with
 |non=>cases (show u=Value.none from rx);exact PySem.W.kia_one PySem.W.kitx_none I.kIn True.intro e (λz=>nomatch z) h
 |bl y=>cases (show u=Value.bool y from rx);exact PySem.W.kia_one PySem.W.kitx_bool I.kIn True.intro e (λz=>nomatch z) h
 |int i=>let⟨t,q⟩:=(show ∃t,u=Value.int i t from rx);cases q;exact PySem.W.kia_one PySem.W.kitx_int I.kIn True.intro e (λz=>nomatch z) h
 |str y=>let⟨t,q⟩:=(show ∃t,u=Value.str y t from rx);cases q;exact PySem.W.kia_one PySem.W.kitx_str I.kIn True.intro e (λz=>nomatch z) h
 |flt y=>let⟨t,q⟩:=(show ∃t,u=Value.float y t from rx);cases q;exact PySem.W.kia_one PySem.W.kitx_float I.kIn True.intro e (λz=>nomatch z) h
 |@lst a xs ea =>
  cases (show u=Value.ref a from rx);let⟨_,_,n,_,h1⟩:=(show dW X.prog X.w H s.heap a (.lst xs) from I.hok a _ ea)
  exact PySem.W.kia_one PySem.W.kitx_list I.kIn ⟨_,h1,rfl⟩ e (λz=>nomatch z) h
 |@frz a ob xs ea =>
  cases (show u=Value.ref a from rx);let⟨_,_,_,n,_,h1⟩:=(show dW X.prog X.w H s.heap a (.frz ob<|.lst xs) from I.hok a _ ea)
  exact PySem.W.kia_one PySem.W.kitx_list I.kIn ⟨_,h1,rfl⟩ e (λz=>nomatch z) h
 |@tup a xs ea =>
  cases (show u=Value.ref a from rx);let⟨_,_,_,p⟩:=(show dW X.prog X.w H s.heap a (.tup xs) from I.hok a _ ea)
  let⟨o,h1,h2,_⟩:=p;exact PySem.W.kia_one PySem.W.kitx_tuple I.kIn ⟨o,h1,h2⟩ e (λz=>nomatch z) h
 |@dK a kvs ea =>
  cases (show u=Value.ref a from rx);let⟨_,_,vs,_,p⟩:=(show dW X.prog X.w H s.heap a (.dK kvs) from I.hok a _ ea)
  let⟨o,es,ep,h1,h2,_⟩:=p;exact PySem.W.kia_one PySem.W.kitx_dict I.kIn ⟨o,h1,h2.1⟩ e (λz=>nomatch z) h
 |@dT a kvs ea =>
  cases (show u=Value.ref a from rx);let⟨_,_,xs,_,o,es,ep,h1,h2,_⟩:=(show dW X.prog X.w H s.heap a (.dT kvs) from I.hok a _ ea)
  exact PySem.W.kia_one PySem.W.kitx_dict I.kIn ⟨o,h1,h2.1⟩ e (λz=>nomatch z) h
 |@ins a C dx fs ea cl ha hn htk hm =>cases (show u=Value.ref a from rx);let⟨mA,O,_⟩:=W8 I.hok ea;let⟨od,J,_⟩:=O.look;exact PySem.W.kia_one (PySem.W.kitx_own (cl.get _) cl.hd ha hn htk hm) I.kIn J e (λz=>nomatch z) h
end
structure eF(k:Nat)(A:ď):Prop where
 hd:A.handled=dG
 dp:A.depth+3*k+5<recursionLimit
 un:A.units+16*k+200<Ĥ
variable {A:ď}
def eF.mono{j k:Nat}(r:eF k A)(h:j<=k):eF j A:=⟨r.hd,by have:=r.dp;lia,by have:=r.un;lia⟩
def eF.deeper{k:Nat}(r:eF (k+1) A)(env:Env):eF k (A.deeper env) :=
 ⟨r.hd,by have:=r.dp;show A.depth+1+3*k+5<_;lia,by have:=r.un;show A.units+3+16*k+200<_;lia⟩
variable {C:Ê} {us:List Â} {kw:List (Str×Â)}
def Oa:(A.under<|.builtin "type.__call__" ⟨.ref C::us,kw⟩).depth=A.depth+1:=by
 first|rfl|simp[aW,Code.weight,Code.isCreation,Code.isGuard,Code.isCaller,Code.frames,bA,guardIds]
def OG:(A.under<|.builtin "type.__call__" ⟨.ref C::us,kw⟩).units=A.units+1:=by
 first|rfl|simp[aW,Code.cUnits,Code.frames,bA]
def eF.make{k:Nat}(r:eF (k+1) A)(C:Ê)(us:List Â)(kw:List<|Str×Â):eF k (A.under<|.builtin "type.__call__" ⟨.ref C::us,kw⟩) :=
 ⟨r.hd,by have:=r.dp;rw[Oa];lia,by have:=r.un;rw[OG];lia⟩
def eF.depth{k:Nat}(r:eF k A):A.depth<recursionLimit:=by have:=r.dp;lia
abbrev Il:TA:=λ_ H Q=>Q [] H
abbrev Ro(ta:TE)(tr:TA):TA:=λσ H Q=>ta σ H λx H1=>tr σ H1 λxs H2=>Q (x::xs) H2
section
variable {X:Cx}{e:Expr}{es:List Expr}{te:TE}{t:TA}{ç:Pos}
def fi:PA X [] Il:=λ_ _ _ _ H Q I h=>Calls.spliced_nil ⟨[],H,I,.nil,h⟩
def Zo(ha:PE X e te)(hr:PA X es t)(hs:Î (e::es) X.env=(dJ,eval e X.env)::Î es X.env:=by rfl):PA X (e::es)<|Ro te t:=by intro ç Á s σ H Q I h;rw[hs];show wpAny _ _ (spliced<|(dJ,eval e X.env)::Č ç (Î es X.env)) _ _ s;refine Calls.spliced_cons<|thn (ha Á s σ H _ I h) λu s1 ⟨x,H1,I1,r1,q1⟩=>?_;exact thn (hr ç Á s1 σ H1 _ I1 q1) λus s2 ⟨xs,H2,I2,r2,q2⟩=>⟨x::xs,H2,I2,.cons r1 r2,q2⟩
abbrev Su(t:TA):TE:=λσ H Q=>t σ H λxs H1=>xs.length<=Ü/\∀p,H1 p=dG->Q (.ref p) (upd H1 p<|.tup xs)
abbrev Rz(t:TA):TE:=λσ H Q=>t σ H λxs H1=>xs.length<=Ü/\∀p,H1 p=dG->Q (.ref p) (upd H1 p<|.lst xs)
def Dc{x1}(h:PA X es t):PE X (.Tuple es x1 ç)<|Su t:=by intro Á s σ H Q I hq;refine wpAny_Tuple_spliced (thn (h ç Á s σ H _ I hq) λus s1 ⟨xs,H1,I1,r,z,q⟩=>⟨by rw[<-r.length];exact z,?_⟩);have hf:H1 s1.heap.objs.size=dG:=I1.hok.fresh<|Ì _;refine⟨.ref s1.heap.objs.size,upd H1 s1.heap.objs.size<|.tup xs,I1.laid (t':=s1.toks) (λb u e=>Å _ e) (Ì _) ?_,rfl,q _ hf⟩;exact⟨z,us,r,⟨_,Ý _ rfl,rfl,_,rfl⟩⟩
def HQ(h:PA X es t):PE X (.List es ç)<|Rz t:=by intro Á s σ H Q I hq;refine wpAny_List_spliced (thn (h ç Á s σ H _ I hq) λus s1 ⟨xs,H1,I1,r,z,q⟩=>⟨by rw[<-r.length];exact z,?_⟩);have hf:H1 s1.heap.objs.size=dG:=I1.hok.fresh<|Ì _;refine⟨.ref s1.heap.objs.size,upd H1 s1.heap.objs.size<|.lst xs,I1.laid (t':=s1.toks) (λb u e=>Å _ e) (Ì _) ?_,rfl,q _ hf⟩;exact⟨z,us,0,r,Ý _ rfl⟩
end
noncomputable abbrev Sp:=List V->Hp->VK->XK->Prop
noncomputable abbrev CXT:=List Env->Hp->Ä->XK->Â->Ä->Prop
structure Env0(P:é)(w:Ā)(K:Frag)(mg:Str->Option Â)(base:ć)(A:ď)(outer:List Env)(s:Ä)(H:Hp):Prop where
 frames:A.frames=dF outer
 mod:Mod K mg base
 bs:∀b o,base.get? b=dF o->s.heap.get? b=dF o/\H b=dG
 bsz:base.objs.size<=s.heap.objs.size
 funs:s.heap.FunFrames base outer
 frf:∀b∈frs outer,H b=dG
 hok:HOk P w H s.heap
 bare:ω s.gens
abbrev CE(outer:List Env)(P:é)(w:Ā)(H:Hp)(s:Ä)(Q:VK)(u:Â)(s':Ä):Prop :=
 ∃v H',s'.os=s.os/\ω s'.gens/\Un (frs outer) [] H H' s.heap s'.heap/\HOk P w H' s'.heap/\RelV v u/\Q v H'
abbrev CR(CX:CXT)(outer:List Env)(P:é)(w:Ā)(H:Hp)(s:Ä)(Q:VK)(E:XK)(r:dh)(s':Ä):Prop :=
 match r with
 |.ok (.ret u)=>CE outer P w H s Q u s'
 |.ok _=>False
 |.error e=>CX outer H s E e s'
structure eK(P:é)(w:Ā)(K:Frag)(mg:Str->Option Â)(base:ć)(CX:CXT)(k:Nat)(f:Ê)(fd:ļ)(ps:List Str)(sp:Sp):Prop where
 len:∀vs H Q E,sp vs H Q E->vs.length=ps.length
 run:∀(A:ď) (outer:List Env) (s:Ä) (H:Hp) (args:Args) (us:List Â) (vs:List V) (Q:VK) (E:XK),eF k A->Env0 P w K mg base A outer s H->BindsTo s fd args (ps.zip us)->fo vs us->sp vs H Q E->
  codeAny (Þ P w) A (.call (.ref f) args) (CR CX outer P w H s Q E) s
variable {P:é} {w:Ā} {mg:Str->Option Â} {outer:List Env} {s:Ä} {H:Hp}
def Env0.make{K:Frag}{base:ć}(e:Env0 P w K mg base A outer s H)(C:Ê)(us:List Â)(kw:List<|Str×Â) :
  Env0 P w K mg base (A.under<|.builtin "type.__call__" ⟨.ref C::us,kw⟩) outer s H:=⟨by first|exact e.frames|(simpa[aW,Code.envs,bA,pushEnvs]using e.frames),e.mod,e.bs,e.bsz,e.funs,e.frf,e.hok,e.bare⟩
section
variable {X:Cx}{Á:List (Ê×Obj)}{σ:St}{H:Hp}{s s':Ä}
def Inv.env0(I:Inv X Á σ H s):Env0 X.prog X.w X.K X.mg X.base X.A X.stack s H :=
 ⟨I.ok.frames,I.ok.mod,I.bs,Ô I.ok.bsz I.sz,I.stack,I.stkFree,I.hok,I.bare⟩
def Inv.after{Q:VK}{u:Â}(I:Inv X Á σ H s)(h:CE X.stack X.prog X.w H s Q u s'):EP X Á σ Q u s':=by let⟨v,H',os,bare,un,hok,r,q⟩:=h;let⟨hh,g,d,t,os'⟩:=s';obtain rfl:os'=s.os:=os;exact⟨v,H',I.call (h':=hh) (g':=g) (d':=d) (t':=t) (ch:=[]) un hok bare λb z=>fI z<|by simp,r,q⟩
end
abbrev GT(sp:Sp)(ac:List V)(E:XK)(t:TA):TE:=λσ H Q=>t σ H λvs H1=>sp (vs++ac) H1 Q E
abbrev GC(C:Ê)(m:Str)(sp:Sp)(ac:List V)(E:XK)(ta:TE)(t:TA):TE:=λσ H Q=>ta σ H λx H1=>∃a dx fs,x=.ref a/\H1 a=dF (.ins C dx fs)/\fs.lookup m=dG/\
 t σ H1 λvs H2=>sp (x::(vs++ac)) H2 Q E
abbrev Rh(C:Ê)(sp:Sp)(ac:List V)(E:XK)(t:TA):TE:=λσ H Q=>t σ H λvs H1=>∀x dx,H1 x=dG->H1 dx=dG->dx≠x->
 sp (.ref x::(vs++ac)) (upd (upd H1 dx<|.own x) x<|.ins C dx []) (λv H2=>v=.non/\Q (.ref x) H2) E
abbrev Binds(K:Frag)(fd:ļ)(ps:List Str)(ds:List Â):Prop :=
 ∀(s:Ä) (us:List Â),K.In s.heap->(us++ds).length=ps.length->BindsTo s fd ⟨us,[]⟩ (ps.zip<|us++ds)
variable {ps:List Str}
def Binds.all{K:Frag}{fd:ļ}(h:∀us:List Â,us.length=ps.length->bindArgs fd ⟨us,[]⟩=pure (ps.zip us)):Binds K fd ps []:=λs us _ hl=>by rw[ó]at hl ⊢;exact .of_eq (h us hl)
abbrev Xl(CX:CXT)(X:Cx)(E:XK):Prop:=∀(Á:List<|Ê×Obj) (σ:St) (H:Hp) (s:Ä) (e:Â) (s':Ä),Inv X Á σ H s->CX X.stack H s E e s'->X.xe e s'
section
variable {X:Cx}{CX:CXT}{k:Nat}{f C:Ê}{fd:ļ}{ps:List Str}{sp:Sp}{ac:List V}{ds:List Â}{E:XK}{x m:Str}{p ç Ń:Pos}{e o:Expr}{es:List Expr}{ta:TE}{t:TA}
variable {Á:List (Ê×Obj)} {σ:St} {Q:VK} {vs:List V}
def MJ(F:eK X.prog X.w X.K X.mg X.base CX k f fd ps sp)(hr:eF k X.A)(hb:Binds X.K fd ps ds)(hd:fo ac ds)(hx:Xl CX X E)
  (I:Inv X Á σ H s) (r:fo vs us) (h:sp (vs++ac) H Q E):wpAny (Þ X.prog X.w) X.A (call (.ref f) us) (EP X Á σ Q) X.xe s:=by
 have r2:fo (vs++ac)<|us++ds:=r.append hd;have hl:(us++ds).length=ps.length:=by rw[<-r2.length];exact F.len _ _ _ _ h
 refine wpAny_call<|ό (F.run X.A X.stack s H ⟨us,[]⟩ (us++ds) (vs++ac) Q E hr I.env0 (hb s us I.kIn hl) r2 h) λr s' hq=>?_;cases r with
 |error e=>exact hx Á σ H s e s' I hq
 |ok fl =>
  cases fl with
  |ret u=>exact I.after hq
  |next=>exact č hq
  |brk=>exact č hq
  |cont=>exact č hq
def D6(F:eK X.prog X.w X.K X.mg X.base CX k f fd ps sp)(hr:eF k X.A)(hg:Gl X x)(hm:X.mg x=dF (.ref f))(hk:PySem.W.keepIn X.K (.ref f)=dI)(hb:Binds X.K fd ps ds)(hd:fo ac ds)(hx:Xl CX X E)
  (ha:PA X (e::es) t) (ϑ:(x==("__debug__" : Str))=dJ:=by decide) (he:Î (e::es) X.env=(dJ,eval e X.env)::Î es X.env:=by rfl) (hpl:(Č ç<|Î es X.env).any (·.1)=dJ:=by rfl) :
  PE X (.Call (.Name x p) (e::es) [] ç) (GT sp ac E t):=by
 intro Á s σ H Q I h;refine ĵ<|Yu I hg hm ?_ ϑ;refine PySem.W.callWith_K (h₀:=X.base) I.ok.mod.kin hk (thn (ha ç Á s σ H _ I h) λus s1 ⟨vs,H1,I1,r,q⟩=>⟨I1.kIn,?_⟩) he hpl;exact MJ F hr hb hd hx I1 r q
def BV(F:eK X.prog X.w X.K X.mg X.base CX k f fd ps sp)(hr:eF k X.A)(hg:Gl X x)(hm:X.mg x=dF (.ref f))(hk:PySem.W.keepIn X.K (.ref f)=dI)(hb:Binds X.K fd ps ds)(hd:fo ac ds)(hx:Xl CX X E)
  (ϑ:(x==("__debug__" : Str))=dJ:=by decide):PE X (.Call (.Name x p) [] [] ç)<|GT sp ac E Il:=by
 intro Á s σ H Q I h;refine ĵ<|Yu I hg hm ?_ ϑ;exact PySem.W.callWith_K0 I.kIn hk<|MJ (us:=[]) F hr hb hd hx I .nil h
variable {pl:Sem Bool}
def E1(he:PE X o ta)(c:Cls X.K C)(hm:Meth X.K C m f)(F:eK X.prog X.w X.K X.mg X.base CX k f fd ps sp)(hr:eF k X.A)(hb:Binds X.K fd ps ds)(hd:fo ac ds)(hx:Xl CX X E)(ha:PA X (e::es) t)
  (ł:Î (e::es) X.env=(dJ,eval e X.env)::Î es X.env:=by rfl) (hpl:(Č ç<|Î es X.env).any (·.1)=dJ:=by rfl)
  (ht:eval (.Call (.Attribute o m Ń) (e::es) [] ç) X.env=(do
    let ov<-eval o X.env
    Γ Ń.atName
    let (f,first)<-ŉ [ov] (Ξ ov m pl)
    bJ ç f first (Č ç<|Î (e::es) X.env) (ũ ç<|Ľ [] X.env)):=by rfl) :
  PE X (.Call (.Attribute o m Ń) (e::es) [] ç) (GC C m sp ac E ta t):=by
 intro Á s σ H Q I h;refine PySem.W.methodCall_KW (pl:=pl) (thn (he Á s σ H _ I h) λu s1 ⟨x,H1,I1,rx,a,dx,fs,ex,ea,l,q⟩=>?_) ht;subst ex;obtain rfl:u=Value.ref a:=rx;refine JO I1 ea c hm l ?_;refine PySem.W.callWith_K (first:=[.ref a]) (h₀:=X.base) I.ok.mod.kin hm.kp (thn (ha ç Á s1 σ H1 _ I1 q) λus s2 ⟨vs,H2,I2,r,q2⟩=>⟨I2.kIn,?_⟩) ł hpl;exact MJ (us:=.ref a::us) (vs:=.ref a::vs) F hr hb hd hx I2 (.cons rfl r) q2
def Bt(he:PE X o ta)(c:Cls X.K C)(hm:Meth X.K C m f)(F:eK X.prog X.w X.K X.mg X.base CX k f fd ps sp)(hr:eF k X.A)(hb:Binds X.K fd ps ds)(hd:fo ac ds)(hx:Xl CX X E)
  (ht:eval (.Call (.Attribute o m Ń) [] [] ç) X.env=(do
    let ov<-eval o X.env
    Γ Ń.atName
    let (f,first)<-ŉ [ov] (Ξ ov m pl)
    bJ ç f first (Č ç<|Î [] X.env) (ũ ç<|Ľ [] X.env)):=by rfl) :
  PE X (.Call (.Attribute o m Ń) [] [] ç) (GC C m sp ac E ta Il):=by
 intro Á s σ H Q I h;refine PySem.W.methodCall_KW (pl:=pl) (thn (he Á s σ H _ I h) λu s1 ⟨x,H1,I1,rx,a,dx,fs,ex,ea,l,q⟩=>?_) ht;subst ex;obtain rfl:u=Value.ref a:=rx;refine JO I1 ea c hm l ?_;exact PySem.W.callWith_K0 (first:=[.ref a]) I1.kIn hm.kp<|MJ (us:=[.ref a]) (vs:=[.ref a]) F hr hb hd hx I1 (.cons rfl .nil) q
structure Mk(K:Frag)(C f:Ê):Prop where
 makes:PySem.W.makesIn K C=dI
 init:PySem.W.findIn K (.ref C) "__init__" = dF (dF<|.ref f)
 fn:PySem.W.isFn K (.ref f)=dI
 kp:PySem.W.keepIn K (.ref C)=dI
def BA(M:Mk X.K C f)(F:eK X.prog X.w X.K X.mg X.base CX k f fd ps sp)(hr:eF (k+1) X.A)(hb:Binds X.K fd ps ds)(hd:fo ac ds)
  (hx:Xl CX X E) (I:Inv X Á σ H s) (r:fo vs us)
  (h:∀x dx,H x=dG->H dx=dG->dx≠x->sp (.ref x::(vs++ac)) (upd (upd H dx<|.own x) x<|.ins C dx []) (λv H2=>v=.non/\Q (.ref x) H2) E) :
  wpAny (Þ X.prog X.w) X.A (call (.ref C) us) (EP X Á σ Q) X.xe s:=by
 have hq:=h (s.heap.objs.size+1) s.heap.objs.size (I.hok.fresh<|ř _) (I.hok.fresh<|Ì _)<|ë<|ă _;have I2:=Inv.made (C:=C) I;have r2:fo (V.ref (s.heap.objs.size+1)::(vs++ac))<|Value.ref (s.heap.objs.size+1)::(us++ds):=.cons rfl<|r.append hd;have hl:(Value.ref (s.heap.objs.size+1)::us++ds).length=ps.length:=by have e:=r2.length;rw[F.len _ _ _ _ hq]at e;exact e.symm
 refine wpAny_call (DK (f:=f) I.kIn M.makes M.init (beq_iff_eq.mp M.fn) (ό (F.run _ X.stack _ _ ⟨Value.ref (s.heap.objs.size+1)::us,[]⟩ (Value.ref (s.heap.objs.size+1)::(us++ds)) _ _ E (hr.make C us [])
   (I2.env0.make C us []) (hb _ (Value.ref (s.heap.objs.size+1)::us) I2.kIn hl) r2 hq) λr s' cW=>?_))
 cases r with
 |error e=>exact hx Á σ _ _ e s' I2 cW
 |ok fl =>
  cases fl with
  |ret u =>let⟨v,H',I3,rv,ev,q3⟩:=I2.after cW;subst ev;exact⟨rv,⟨V.ref<|s.heap.objs.size+1,H',I3,rfl,q3⟩⟩
  |next=>exact č cW
  |brk=>exact č cW
  |cont=>exact č cW
def Fk(M:Mk X.K C f)(F:eK X.prog X.w X.K X.mg X.base CX k f fd ps sp)(hr:eF (k+1) X.A)(hg:Gl X x)(hm:X.mg x=dF (.ref C))(hb:Binds X.K fd ps ds)(hd:fo ac ds)(hx:Xl CX X E)
  (ha:PA X (e::es) t) (ϑ:(x==("__debug__" : Str))=dJ:=by decide) (he:Î (e::es) X.env=(dJ,eval e X.env)::Î es X.env:=by rfl) (hpl:(Č ç<|Î es X.env).any (·.1)=dJ:=by rfl) :
  PE X (.Call (.Name x p) (e::es) [] ç) (Rh C sp ac E t):=by
 intro Á s σ H Q I h;refine ĵ<|Yu I hg hm ?_ ϑ;refine PySem.W.callWith_K (h₀:=X.base) I.ok.mod.kin M.kp (thn (ha ç Á s σ H _ I h) λus s1 ⟨vs,H1,I1,r,q⟩=>⟨I1.kIn,?_⟩) he hpl;exact BA M F hr hb hd hx I1 r q
end
structure FnScope(N P:List Str)(sc:ů):Prop where
 kind:sc.kind=.function
 co:sc.isCoroutine=dJ
 gen:sc.isGenerator=dJ
 nd:N.Nodup
 pre:N.take P.length=P
 par:∀x∈P,sc.names.lookup x=dF .local\/sc.names.lookup x=dF .cell
 nofree:∀y∈sc.names,y.2≠.free
def KA{ſ:Str->Option Ο}{x:Str}:∀{binds:List (Str×Â)}{m:Str->Option Â},(∀v,(x,v)∉binds)->bindL ſ binds m x=m x
 |[],_,_=>rfl
 |(n,v)::r,m,h=>by
  unfold bindL;rw[KA λw hw=>h w<|à _ hw];split
  .have:x≠n:=by rintro rfl;exact h v ì
   simp[this]
  .rfl
def K0{ſ:Str->Option Ο}{x:Str}:∀{binds:List (Str×Â)}{m:Str->Option Â},(∀v,(x,v)∉binds)->cP ſ binds m x=m x
 |[],_,_=>rfl
 |(n,v)::r,m,h=>by
  unfold cP;rw[K0 λw hw=>h w<|à _ hw];split
  .rfl
  .have:x≠n:=by rintro rfl;exact h v ì
   simp[this]
def KZ{ſ:Str->Option Ο}{x:Str}{v:Â}:∀{P:List Str}{vs:List Â}{i:Nat}{m:Str->Option Â},P.Nodup->P[i]?=dF x->vs[i]?=dF v->ſ x=dF .local->
  bindL ſ (P.zip vs) m x=dF v
 |[],_,_,_,_,h,_,_=>by simp at h
 |_::_,[],_,_,_,_,h,_=>by simp at h
 |p::P,w::vs,0,m,nd,h1,h2,hk=>by simp at h1 h2;subst h1;subst h2;show bindL ſ ((p,w)::P.zip vs) m p=_;unfold bindL;rw[KA λv hv=>(Ć.mp nd).1 (al hv).1,fA hk];simp
 |p::P,w::vs,i+1,m,nd,h1,h2,hk=>by show bindL ſ ((p,w)::P.zip vs) m x=_;unfold bindL;exact KZ (i:=i) (Ć.mp nd).2 ⇑h1 ⇑h2 hk
def KK{ſ:Str->Option Ο}{x:Str}{v:Â}:∀{P:List Str}{vs:List Â}{i:Nat}{m:Str->Option Â},P.Nodup->P[i]?=dF x->vs[i]?=dF v->ſ x≠dF .local->
  cP ſ (P.zip vs) m x=dF v
 |[],_,_,_,_,h,_,_=>by simp at h
 |_::_,[],_,_,_,_,h,_=>by simp at h
 |p::P,w::vs,0,m,nd,h1,h2,hk=>by simp at h1 h2;subst h1;subst h2;show cP ſ ((p,w)::P.zip vs) m p=_;unfold cP;rw[K0 λv hv=>(Ć.mp nd).1 (al hv).1,fB hk];simp
 |p::P,w::vs,i+1,m,nd,h1,h2,hk=>by show cP ſ ((p,w)::P.zip vs) m x=_;unfold cP;exact KK (i:=i) (Ć.mp nd).2 ⇑h1 ⇑h2 hk
abbrev start(N:List Str)(vs:List V):St:=vs.map dF++Ú (N.length - vs.length) dG
abbrev Mg(CX:CXT)(P:é)(w:Ā)(K:Frag)(mg:Str->Option Â)(base:ć)(N:List Str)(qual:Str)(scope:ů)(f:Ê)(cd:Â)(A:ď)(outer:List Env)(s:Ä)(H:Hp)(E:XK):Cx where
 prog:=P
 w:=w
 K:=K
 mg:=mg
 base:=base
 A:=A.deeper<|ϸ qual scope s.heap.objs.size f cd
 N:=N
 s₀:=s
 H₀:=H
 env:=ϸ qual scope s.heap.objs.size f cd
 outer:=outer
 stack:=ϸ qual scope s.heap.objs.size f cd::outer
 ex:=[]
 calm:=dI
 fn:=λ_=>dI
 pn:=[]
 xe:=λe s'=>wpAny (Þ P w) (A.deeper<|ϸ qual scope s.heap.objs.size f cd) (leaving (ϸ qual scope s.heap.objs.size f cd) e) (λ_ s''=>CX outer H s E e s'') (λe' s''=>CX outer H s E e' s'') s'
def Nz{sc:ů}{n:Nat}{x:Str}(h:sc.names.lookup x=dF .cell):∃c,(cellsFrom n sc.names []).lookup x=dF c:=by have q:=PySem.W.cellsFrom_some sc.names n []<|.inl h;exact ò.mp q
variable {CX:CXT} {N:List Str} {qual:Str} {scope:ů} {f:Ê}
def AI{K:Frag}{base:ć}{cd:Â}{s1:Ä}{E:XK}{vs:List V}
  (S:FnScope N ps scope) (hd:A.handled=dG) (e0:Env0 P w K mg base A outer s H) (hl:vs.length=ps.length) (r:fo vs us)
  (x:InCallC s s.heap.objs.size (bindL (ϸ qual scope s.heap.objs.size f cd).kindOf (ps.zip us) λ_=>dG) (cellsFrom (s.heap.objs.size+1) scope.names []) (cP (ϸ qual scope s.heap.objs.size f cd).kindOf (ps.zip us) λ_=>dG) s1) :
  Inv (Mg CX P w K mg base N qual scope f cd A outer s H E) [] (start N vs) H s1:=by
 have hpl:ps.length<=N.length:=by have:=congrArg List.length S.pre;rw[õ]at this;lia
 let⟨h1,tk,rfl,hk⟩:=x.done;have noA:∀b:Ê,b∉(Mg CX P w K mg base N qual scope f cd A outer s H E).ex:=λb z=>fI (show b∈([]:List Ê) from z) (by simp);refine⟨⟨e0.mod,S.kind,rfl,rfl,Ì _,λy z c h1 h2=>?_,λy hy=>?_,λy c _ h=>?_,λ_=>hd,Around.frames_deeper e0.frames,.inr ⟨rfl,rfl⟩,λb z=>fI z<|noA b,e0.bs,e0.bsz,λb _ _=>noA b,λb z=>fI z<|noA b,e0.funs,e0.frf⟩,
   rfl,e0.bare,Un.kept hk,⟨_,x.toInCall.ns,λi y v h1 h2 h3=>?_⟩,λy c h=>⟨_,x.cell y c h⟩,e0.hok.fresh<|Ì _,λy c h=>?_,λp hp=>fI (show p∈([]:List<|Ê×Obj) from hp) (by simp),e0.hok.kept hk,?_⟩
 .exact name_of_addr x.apart (PySem.mem_of_lookup h1)<|PySem.mem_of_lookup h2
 .have hy:scope.names.lookup y=dF .cell\/scope.names.lookup y=dF .free:=hy;rcases hy with hy|hy
  .exact Nz hy
  .exact fI rfl<|S.nofree _<|PySem.mem_of_lookup hy
 .exact ş<|x.above y c<|PySem.mem_of_lookup h
 .have hi:i<vs.length:=by
   unfold start at h2;by_cases hi:i<vs.length
   .exact hi
   .rw[Ă<|by simpa using hi]at h2;rw[ŀ]at h2;split at h2<;>cases h2
  have ha:vs[i]?=dF v:=by
   unfold start at h2;rw[ü ⇑hi,Ó]at h2;cases e:vs[i]? with
   |none=>rw[e]at h2;cases h2
   |some a=>rw[e]at h2;cases h2;rfl
  let⟨u,hu,rv⟩:=r.get ha;have hp:ps[i]?=dF y:=by rw[<-S.pre,List.getElem?_take_of_lt<|by lia];exact h1
  have ndP:ps.Nodup:=by rw[<-S.pre];exact S.nd.sublist<|List.take_sublist _ _
  refine⟨u,rv,?_⟩;rcases S.par y (á hp)with k|k
  .exact .inl ⟨k,KZ ndP hp hu k⟩
  .obtain⟨c,e⟩:=Nz (n:=s.heap.objs.size+1) k;refine .inr ⟨.inl k,c,e,?_⟩;have q:=x.cell y c e;rw[KK ndP hp hu<|by show scope.names.lookup y≠_;rw[k];decide]at q;exact q
 .exact e0.hok.fresh<|ş<|x.above y c<|PySem.mem_of_lookup h
 .unfold start;show _=N.length;rw[Ö,À,ñ];lia
def Re{K:Frag}{base:ć}{k:Nat}{name:Str}{params:Arguments}{body:List ğ}{dV kV doc pm ϒ ct oc:Â}{an od:Option Ê}
  {osl:Array (Option Â)}  {sp:Sp}(lk:K.lookup f=dF ⟨oc,od,.func<|PySem.W.fnOf name qual params body scope dV kV doc pm an ϒ ct,osl⟩) (aq:PySem.W.codeIn K ϒ qual=dI) (S:FnScope N ps scope)
  (len:∀vs H Q E,sp vs H Q E->vs.length=ps.length)
  (hbody:∀(A:ď) (outer:List Env) (s:Ä) (H:Hp) (vs:List V) (Q:VK) (E:XK),eF k (A.deeper<|ϸ qual scope s.heap.objs.size f ϒ)->sp vs H Q E->
    ∃t,PSs (Mg CX P w K mg base N qual scope f ϒ A outer s H E) body t/\t { nx:=λ_ H'=>Q .non H',rt:=Q } (start N vs) H) :
  eK P w K mg base CX (k+1) f (PySem.W.fnOf name qual params body scope dV kV doc pm an ϒ ct) ps sp:=by
 refine⟨len,λA outer s H args us vs Q E hr e0 hb r hsp=>?_⟩;have hl:=len _ _ _ _ hsp;have KX:K.In s.heap:=e0.mod.kin.keeps λb o e=>(e0.bs b o e).1;have lim:s.heap.NoLimit:=e0.mod.nolimit.keeps λb o e=>(e0.bs b o e).1;have hkind:∀y∈ps.zip us,scope.names.lookup y.1=dF .local\/(scope.names.lookup y.1=dF .cell/\((cellsFrom (s.heap.objs.size+1) scope.names []).lookup y.1).isSome=dI):=λ⟨n,v⟩ hy=>by
  rcases S.par n (al hy).1 with q|q
  .exact .inl q
  .exact .inr ⟨q,PySem.W.cellsFrom_some _ _ _<|.inl q⟩
 refine codeAny_call_function hr.depth (KX _ _ lk) rfl S.co S.gen rfl (PySem.W.codeRec_of KX aq)<|hb _ _ _ _ ?_;refine wpAny_newFunctionEnv_cells S.kind hkind λenv he s1 x=>?_;subst he;refine⟨lim.keeps x.toInCall.keep,codeAny_func ?_⟩;let⟨t,ht,hq⟩:=hbody A outer s H vs Q E (hr.deeper _) hsp;have I:Inv (Mg CX P w K mg base N qual scope f ϒ A outer s H E) [] (start N vs) H s1:=AI S hr.hd e0 hl r x;refine Ġ (ht [] s1 (start N vs) H _ I hq) (λfl s' hs=>?_) λe s' hs=>hs;have fin:∀{Ņ:St}{H':Hp}{v:V}{u:Â},Inv (Mg CX P w K mg base N qual scope f ϒ A outer s H E) [] Ņ H' s'->RelV v u->Q v H'->CE outer P w H s Q u s' :=
  λ{Ņ H' v u} J rv q=>⟨v,H',J.os,J.bare,J.base,J.hok,rv,q⟩
 cases fl with
 |ret u =>let⟨v,Ņ,H',J,rv,q⟩:=hs;exact fin J rv q
 |next =>let⟨Ņ,H',J,q⟩:=hs;exact fin (v:=V.non) (u:=Value.none) J rfl q
 |brk =>let⟨_,_,_,q⟩:=hs;exact č q
 |cont =>let⟨_,_,_,q⟩:=hs;exact č q
section
variable {X:Cx}{x:Str}{p ç:Pos}{e:Expr}{es:List Expr}{t:TA}{id T:String}{r:List V->Hp->VK->Prop}
abbrev tCB(r:List V->Hp->VK->Prop)(t:TA):TE:=λσ H Q=>t σ H λvs H1=>r vs H1 Q
def Zt(hc:dU X (.builtin id) r)(hg:Gl X x)(hm:X.mg x=dG)(hv:ŕ x=dF (.builtin id))(ha:PA X (e::es) t)(hn:x≠"__name__":=by decide)(ϑ:(x==("__debug__" : Str))=dJ:=by decide)
  (he:Î (e::es) X.env=(dJ,eval e X.env)::Î es X.env:=by rfl) (hpl:(Č ç<|Î es X.env).any (·.1)=dJ:=by rfl):PE X (.Call (.Name x p) (e::es) [] ç)<|tCB r t:=by
 intro Á s σ H Q I h;refine ĵ<|Xs I hg hm hv ?_ hn ϑ;exact PyProof.Rows.callWith_builtin1 (thn (ha ç Á s σ H _ I h) λus s1 ⟨vs,H1,I1,r1,q1⟩=>hc Á s1 σ H1 vs us Q I1 r1 q1) he hpl
def XC(hc:dU X (.type T) r)(hg:Gl X x)(hm:X.mg x=dG)(hv:ŕ x=dF (.type T))(ha:PA X (e::es) t)(hn:x≠"__name__":=by decide)(ϑ:(x==("__debug__" : Str))=dJ:=by decide)
  (he:Î (e::es) X.env=(dJ,eval e X.env)::Î es X.env:=by rfl) (hpl:(Č ç<|Î es X.env).any (·.1)=dJ:=by rfl):PE X (.Call (.Name x p) (e::es) [] ç)<|tCB r t:=by
 intro Á s σ H Q I h;refine ĵ<|Xs I hg hm hv ?_ hn ϑ;exact PyProof.Rows.callWith_type1 (thn (ha ç Á s σ H _ I h) λus s1 ⟨vs,H1,I1,r1,q1⟩=>hc Á s1 σ H1 vs us Q I1 r1 q1) he hpl
end
end L2
namespace HT
open PySem PyProof.Rows
abbrev lexLt:List Int->List Int->Bool
 |[],[]=>dJ
 |[],_::_=>dI
 |_::_,[]=>dJ
 |x::xs,y::ys=>if x=y then lexLt xs ys else fJ (x<y)
def lexLt_cons(x y:Int)(xs ys:List Int):lexLt (x::xs) (y::ys)=if x=y then lexLt xs ys else fJ (x<y):=rfl
def Ku:lexLt [] []=dJ:=rfl
def JR(y:Int)(ys:List Int):lexLt [] (y::ys)=dI:=rfl
def Ka(x:Int)(xs:List Int):lexLt (x::xs) []=dJ:=rfl
def eqAt_int(A:ď)(s:Ä)(a:Int)(t:Tok)(c:Int)(u:Tok):∃e,SeqAt.EqAt A s (.int a t) (.int c u) e/\(e=dI↔a=c) :=
 ⟨(a==c),SeqAt.EqAt.int_int a t c u,by simp⟩
def Bq(A:ď)(s:Ä)(a:Int)(t:Tok)(c:Int)(u:Tok)(prog:é)(w:Ā)(E:Â->Ä->Prop)(Q:Â->Ä->Prop)(h:Q (.bool<|fJ (a<c)) s) :
  wpAny (Þ prog w) A (richCompare .Lt (.int a t)<|.int c u) Q E s :=
 (PyProof.Rows.lt_int h:wpAny (Þ prog w) A (ê .Lt (.int a t)<|.int c u) Q E s)
section
open PySem.SeqAt
open PySem.AutoSeq1 (wpAny_loadPart')
open PySem.MeetsSeq PySem.MeetsSeq2 PySem.MeetsSeq3
def Kp(l b:Ê)(items ķ:Array Â)(n n2:Nat)(dd cu:Option Ê)(sl cX:Array<|Option Â)(ns ms:List Int)(hi:ė items.toList ns)(hj:ė ķ.toList ms) :
  Meets (Builtin.«tuple.__lt__» ⟨[.ref l,.ref b],[]⟩)
   (λ_ R s=>s.heap.get? l=dF { cls:=.type "tuple",dict:=dd,data:=.seq items n,slots:=sl }/\s.heap.get? b=dF { cls:=.type "tuple",dict:=cu,data:=.seq ķ n2,slots:=cX }/\
     R (.ok<|.ret<|.bool<|lexLt ns ms) s) :=
 .of_wp λprog w A R s h=>by
  let⟨hp,g,d,tk,os⟩:=s;let⟨hl,hb,h⟩:=h;have f2:=AutoSeq1.sub_tuple_tuple;have z1:items.size=ns.length:=by rw[<-hi.length];simp
  have z2:ķ.size=ms.length:=by rw[<-hj.length];simp
  wp_walk using ÿ hl,ÿ hb,wpAny_forIn_list _ (λrest b s'=>b.1=dG/\s'=⟨hp,g,d,tk,os⟩/\∃(vs ws:List Â) (bX cJ:List Int),rest=vs.zip ws/\
    ė vs bX/\ė ws cJ/\bX.length+ķ.size=cJ.length+items.size/\R (.ok<|.ret<|.bool<|lexLt bX cJ) ⟨hp,g,d,tk,os⟩) _
  case turn =>
   rintro⟨y,x⟩ rest b s' ⟨bx,rfl,vs,ws,bX,cJ,hz,hvi,hwi,hlen,hR⟩;cases hvi with
   |nil=>rw[ξ]at hz;cases hz
   |cons a t hvi' =>
    cases hwi with
    |nil=>rw[ż]at hz;cases hz
    |cons c u hwi' =>
     rw[ń]at hz;injection hz with hyx hrest;injection hyx with hy hx;subst hy hx;rw[lexLt_cons]at hR;simp only[Ç]at hlen;let⟨e,he,hiff⟩:=eqAt_int A.in1 ⟨hp,g,d,tk,os⟩ a t c u;refine Ã<|he prog w _ _ ?_;cases e with
     |true =>
      rw[fA<|hiff.mp rfl]at hR
      wp_walk
      exact⟨rfl,rfl,_,_,_,_,hrest,hvi',hwi',by lia,hR⟩
     |false =>
      rw[fB λq=>fI (hiff.mpr q) ù]at hR;have hri:=Bq A.in1 ⟨hp,g,d,tk,os⟩ a t c u prog w
      wp_walk using hri
      exact⟨_,rfl,⇑hR⟩
  case fin =>
   rintro⟨b1,b2⟩ s' ⟨bx,rfl,vs,ws,bX,cJ,hz,hvi,hwi,hlen,hR⟩;simp only at bx;subst bx;have hv:lexLt bX cJ=fJ (items.size<ķ.size):=by
    cases hvi with
    |nil =>
     cases hwi with
     |nil =>simp only[ĝ]at hlen;rw[Ku];exact(fE<|by lia).symm
     |cons c u hw =>simp only[ĝ,Ç]at hlen;rw[JR];exact(fG<|by lia).symm
    |cons a t hv =>
     cases hwi with
     |nil =>simp only[ĝ,Ç]at hlen;rw[Ka];exact(fE<|by lia).symm
     |cons c u hw =>rw[ń]at hz;cases hz
   rw[hv]at hR
   wp_walk
   exact⟨_,rfl,by simpa[Builtin.Tuple.tupleCompareSizes]using hR⟩
  case h =>exact⟨rfl,rfl,items.toList,ķ.toList,ns,ms,rfl,hi,hj,by lia,h⟩
end
section
variable {prog:é}{w:Ā}{A:ď}{E:Â->Ä->Prop}{s:Ä}
variable {b:Ê} {items:Array Â} {Q:Â->Ä->Prop}
def lt_tupInts{l:Ê}{ķ:Array Â}{ns ms:List Int}(hl:ϱ s.heap l items)(hb:ϱ s.heap b ķ)(hi:ė items.toList ns)(hj:ė ķ.toList ms)
  (hu:A.units<Ĥ) (h:Q (.bool<|lexLt ns ms) s):wpAny (Þ prog w) A (ê .Lt (.ref l)<|.ref b) Q E s:=by
 let⟨⟨cls,dd,data,sl⟩,ho,hc,n,hd⟩:=id hl;let⟨⟨cls2,cu,data2,cX⟩,ho2,hc2,n2,aI⟩:=id hb;simp only at hc hd hc2 aI;subst hc hd hc2 aI;exact di (op:=.Lt) ⟨_,ho,rfl⟩ ⟨_,ho2,rfl⟩ PySem.F.slot_tuple_lt PySem.F.entry_tuple_lt (PySem.F.args_tuple_lt_2 _ _) (Kp l b items ķ n n2 dd cu sl cX ns ms hi hj)
  ⟨ho,ho2,show Value.bool (lexLt ns ms)≠bK/\Q (.bool<|lexLt ns ms) s from ⟨(λx=>nomatch x),h⟩⟩ hu
def cat_tup{t:Ê}{vs ws:List Â}(ht:ϱ s.heap t vs.toArray)(hb:ϱ s.heap b ws.toArray)(hv:vs≠[])
  (h1:ws=[]->Q (.ref t) s) (h2:ws≠[]->Q (.ref s.heap.objs.size) {s with heap:=s.heap.push {cls:=.type "tuple",data:=.seq (vs++ws).toArray}})
  (hsz:vs.length+ws.length<=Ü):wpAny (Þ prog w) A (Ļ .Add (.ref t)<|.ref b) Q E s:=by
 let⟨⟨cls,dd,data,sl⟩,ho,hc,n,hd⟩:=id ht;let⟨⟨cls2,cu,data2,cX⟩,ho2,hc2,n2,aI⟩:=id hb;simp only at hc hd hc2 aI;subst hc hd hc2 aI;have e:vs.toArray++ws.toArray=(vs++ws).toArray:=by simp
 by_cases hw:ws=[]
 .exact dj ⟨_,ho,rfl⟩ ⟨_,ho2,rfl⟩ aP cC PySem.F.slot_tuple_add PySem.F.entry_tuple_add (PySem.F.args_tuple_add_2 _ _)
   (tuple_addW1 t b vs.toArray ws.toArray n n2 dd cu sl cX ⇑hv<|by simp[hw]) ⟨ho,ho2,h1 hw⟩
 .refine dj ⟨_,ho,rfl⟩ ⟨_,ho2,rfl⟩ aP cC PySem.F.slot_tuple_add PySem.F.entry_tuple_add (PySem.F.args_tuple_add_2 _ _)
   (tuple_addW2 t b vs.toArray ws.toArray n n2 dd cu sl cX ⇑hv ⇑hw<|by rw[Ë,Ë];exact hsz) ⟨ho,ho2,?_⟩
  rw[e];exact h2 hw
abbrev sIx(n d:Nat):Option Int->Nat
 |none=>d
 |some v=>if v<0 then(v+(n:Int)).toNat else min v.toNat n
def HL(n d:Nat)(hd:d<=n)(o:Option Int):sIx n d o<=n:=by
 cases o with
 |none=>exact hd
 |some v =>
  show(if v<0 then(v+(n:Int)).toNat else min v.toNat n)<=n;by_cases hv:v<0
  .rw[fA hv];lia
  .rw[fB hv];exact Ϲ _ _
def clip_eq(v:Int)(n d:Nat):(if v<0 then max (v+(n:Int)) 0 else min v (n:Int))=((sIx n d (dF v):Nat):Int):=by
 show(if v<0 then max (v+(n:Int)) 0 else min v (n:Int))=(((if v<0 then(v+(n:Int)).toNat else min v.toNat n):Nat):Int)
 by_cases hv:v<0
 .simp only[fA hv];lia
 .simp only[fB hv];lia
def OO(lo hi:Option Int)(n:Nat):Builtin.Slice.sliceAdjust lo hi 1 (n:Int)=(((sIx n 0 lo:Nat):Int),((sIx n n hi:Nat):Int)):=by
 have h1:¬ ((1:Int)<0):=by lia
 unfold Builtin.Slice.sliceAdjust;simp only[h1,if_false];refine Prod.ext ?_ ?_
 .cases lo with
  |none=>rfl
  |some v=>exact clip_eq v n 0
 .cases hi with
  |none=>rfl
  |some v=>exact clip_eq v n n
def OW(i j:Nat):Builtin.Slice.slicePlaces (i:Int) (j:Int) 1=j - i:=by
 unfold Builtin.Slice.slicePlaces;have h1:(1:Int) > 0:=by lia
 simp only[h1,if_true,Int.ediv_one];split<;>lia
def JT{v:Â}{o:Option Int}{Q:Option Int->Ä->Prop}(p:ύ v o)(h:Q o s):wpAny (Þ prog w) A (Builtin.Slice.slicePartIndex v) Q E s:=by
 cases p with
 |none=>exact slicePart_none h
 |int i t=>exact slicePart_int h
variable {sl:Ê} {vl:Â} {vu:Â} {lo:Option Int} {hi:Option Int}
def YL{n:Nat}{Q:Int×Int×Nat->Ä->Prop}(hs:s.heap.IsSliceOf sl vl vu .none)(pl:ύ vl lo)(pu:ύ vu hi)
  (h:Q (((sIx n 0 lo:Nat):Int),1,sIx n n hi - sIx n 0 lo) s):wpAny (Þ prog w) A (Builtin.Slice.sliceApplied (.ref sl)<|pure (n:Int)) Q E s:=by
 let⟨os,hos,hcs,hds⟩:=id hs;unfold Builtin.Slice.sliceApplied Builtin.Slice.sliceFields;refine Ã<|Ã<|ı hos hds (x:=vl) rfl<|Ã<|ı hos hds (x:=vu) rfl<|Ã<|ı hos hds (x:=.none) rfl<|Õ ?_;refine Ã<|slicePart_none ?_;show wpAny _ _ (if((1:Int)==0)=dI then _ else _) _ _ s;rw[fB<|by decide];refine Ã<|JT pl<|Ã<|JT pu<|Ã<|Õ ?_;show wpAny _ _ (match Builtin.Slice.sliceAdjust lo hi 1 (n:Int)with|(lo,hi)=>pure (lo,(1:Int),Builtin.Slice.slicePlaces lo hi 1)) _ _ s;rw[OO lo hi n];show wpAny _ _ (pure (((sIx n 0 lo:Nat):Int),(1:Int),Builtin.Slice.slicePlaces ((sIx n 0 lo:Nat):Int) ((sIx n n hi:Nat):Int) 1)) _ _ s;rw[OW];exact Õ h
def DI(xs:Array Â)(i k:Nat):((List.range k).filterMap λ(m:Nat)=>xs[((i:Int)+(m:Int)*1).toNat]?).toArray=((xs.toList.drop i).take k).toArray:=by
 have e:(λ(m:Nat)=>xs[((i:Int)+(m:Int)*1).toNat]?)=λm=>xs[i+m]?:=by
  funext m;have:((i:Int)+(m:Int)*1).toNat=i+m:=by lia
  rw[this]
 rw[e];have:=pick_run xs i k;rw[Ž]at this;have e2:((λx=>xs[x]?) ∘ λx=>i+x)=λm=>xs[i+m]?:=rfl;rw[e2]at this;rw[this]
def getItem_tuple_cut{t:Ê}(ht:ϱ s.heap t items)(hs:s.heap.IsSliceOf sl vl vu .none)(pl:ύ vl lo)(pu:ύ vu hi)
  (hw:¬ (sIx items.size 0 lo=0/\sIx items.size items.size hi=items.size))
  (h:Q (.ref s.heap.objs.size) {s with heap:=s.heap.push {cls:=.type "tuple",data:=.seq ((items.toList.drop<|sIx items.size 0 lo).take<|sIx items.size items.size hi - sIx items.size 0 lo).toArray}})
  (hsz:items.size<=Ü):wpAny (Þ prog w) A (ϋ (.ref t)<|.ref sl) Q E s:=by
 have cx:sizeOk<|.seq ((items.toList.drop<|sIx items.size 0 lo).take<|sIx items.size items.size hi - sIx items.size 0 lo).toArray:=by show((items.toList.drop<|sIx items.size 0 lo).take<|sIx items.size items.size hi - sIx items.size 0 lo).toArray.size<=Ü;rw[Ë,õ,ς,Ű];lia
 have hj:sIx items.size items.size hi<=items.size:=HL _ _ (Ì _) hi;let⟨os,hos,hcs,hds⟩:=id hs;have hTs:s.TypeIs (.ref sl) "slice":=⟨os,hos,hcs⟩
 unfold ϋ
 try with_reducible refine Ł ?_
 first|refine Ã (Õ ?_)|skip
 refine Ã (wpAny_sequenceKey ht.typeIs (by decide) ?_);refine Ã (ĩ (name:=fK "__getitem__") ht.typeIs PyProof.Rows.slot_tuple_getitem
   (Ĳ PyProof.Rows.slot_tuple_getitem ht.typeIs entry_tuple_getitem ?_<|args_tuple_getitem _ _))
 show wpAny _ _ (Builtin.Tuple.tupleItemsOf (.ref t) >>= _) _ _ s;refine Ã<|tupleItemsOf_ ht ?_;refine Ã<|dk hTs ?_;rw[fA<|by decide];refine Ã<|YL hs pl pu ?_;have hno:¬ ((((sIx items.size 0 lo:Nat):Int)==0&&(1:Int)==1&&(sIx items.size items.size hi - sIx items.size 0 lo)==items.size)=dI):=by intro q;rw[bAq,bAq]at q;have q1:((sIx items.size 0 lo:Nat):Int)=0:=eq_of_beq q.1.1;have q2:sIx items.size items.size hi - sIx items.size 0 lo=items.size:=eq_of_beq q.2;exact hw ⟨by lia,by lia⟩
 show wpAny _ _ (if(((sIx items.size 0 lo:Nat):Int)==0&&(1:Int)==1&&(sIx items.size items.size hi - sIx items.size 0 lo)==items.size)=dI then _ else _) _ _ s;rw[fB hno,DI]
 first
  |exact Ã (m:=Builtin.Tuple.tupleExact _)<|ľ (Õ ⟨_,rfl,Õ h⟩) cx
  |exact Ã (m:=Builtin.Tuple.tupleExact _)<|ľ (Ã<|Õ<|Õ ⟨_,rfl,Õ h⟩) cx
  |exact Ã<|Ã (m:=Builtin.Tuple.tupleExact _)<|ľ (Õ<|Õ ⟨_,rfl,Õ h⟩) cx
  |exact Ã<|Ã (m:=Builtin.Tuple.tupleExact _)<|ľ (Õ ⟨_,rfl,Õ h⟩) cx
end
end HT
namespace L2
open PySem PySem.Spec PyProof.Rows
noncomputable abbrev TO:=St->Hp->(Option Int->Hp->Prop)->Prop
abbrev PO(X:Cx)(e:Option Expr)(t:TO):Prop :=
 ∀(Á:List<|Ê×Obj) (s:Ä) (σ:St) (H:Hp) (Q:Option Int->Hp->Prop),Inv X Á σ H s->t σ H Q->
  wpAny (Þ X.prog X.w) X.A (evalPart e X.env) (λu s'=>∃o H',Inv X Á σ H' s'/\ύ u o/\Q o H') X.xe s
abbrev Fr:TO:=λ_ H Q=>Q dG H
abbrev P4(t:TE):TO:=λσ H Q=>t σ H λx H1=>∃i,x=.int i/\Q (dF i) H1
def ZN{ns:List Int}:∀{us:List Â},fo (ns.map V.int) us->ė us ns:=by
 induction ns with
 |nil=>intro us r;rw[ŵ]at r;cases r;exact .nil
 |cons n ns ih =>
  intro us r;rw[Í]at r;cases r with
  |cons r1 r2 =>let⟨t,e⟩:=r1;subst e;exact .cons n t<|ih r2
section
variable {X:Cx}{e:Expr}{te:TE}{lo hi:Option Expr}{tl th:TO}{ç p2:Pos}
def po_none:PO X dG Fr:=by intro Á s σ H Q I h;rw[evalPart_none];exact Õ ⟨dG,H,I,.none,h⟩
def FP(h:PE X e te):PO X (dF e)<|P4 te:=by intro Á s σ H Q I hw;rw[evalPart_some];refine thn (h Á s σ H _ I hw) λu s1 ⟨x,H1,I1,r1,q1⟩=>?_;let⟨i,rfl,q⟩:=q1;let⟨t,rfl⟩:=r1;exact⟨dF i,H1,I1,.int i t,q⟩
abbrev SlR(X:Cx)(r:V->Option Int->Option Int->Hp->VK->Prop):Prop :=
 ∀(Á:List<|Ê×Obj) (s:Ä) (σ:St) (H:Hp) (x:V) (v vl vu:Â) (lo hi:Option Int) (sl:Ê) (Q:VK),Inv X Á σ H s->RelV x v->s.heap.IsSliceOf sl vl vu .none->ύ vl lo->ύ vu hi->r x lo hi H Q->
  ∃T id,typeLookup (.type T) "__getitem__" = pure (dF<|.builtin id)/\s.TypeIs v T/\wpAny (Þ X.prog X.w) X.A (ϋ v<|.ref sl) (EP X Á σ Q) X.xe s
variable {r:V->Option Int->Option Int->Hp->VK->Prop}
def SlR.or{r':V->Option Int->Option Int->Hp->VK->Prop}(h:SlR X r)(h':SlR X r'):SlR X λx lo hi H Q=>r x lo hi H Q\/r' x lo hi H Q:=by
 intro Á s σ H x v vl vu lo hi sl Q I rx hs pl pu q;rcases q with q|q
 .exact h Á s σ H x v vl vu lo hi sl Q I rx hs pl pu q
 .exact h' Á s σ H x v vl vu lo hi sl Q I rx hs pl pu q
abbrev tSl(r:V->Option Int->Option Int->Hp->VK->Prop)(te:TE)(tl th:TO):TE:=λσ H Q=>te σ H λx H1=>tl σ H1 λl H2=>th σ H2 λu H3=>r x l u H3 Q
def DN(hr:SlR X r)(he:PE X e te)(hl:PO X lo tl)(hu:PO X hi th):PE X (.Subscript e (.Slice lo hi dG p2) ç)<|tSl r te tl th:=by intro Á s σ H Q I h;refine Subscript_<|thn (he Á s σ H _ I h) λv s1 ⟨x,H1,I1,r1,q1⟩=>?_;refine wpAny_Slice<|thn (hl Á s1 σ H1 _ I1 q1) λvl s2 ⟨l,H2,I2,pl,q2⟩=>thn (hu Á s2 σ H2 _ I2 q2) λvu s3 ⟨u,H3,I3,pu,q3⟩=>?_;rw[evalPart_none];refine Õ ?_;have I4:Inv X Á σ H3 {s3 with heap:=s3.heap.push {cls:=.type "slice",data:=.fields #[vl,vu,.none]}}:=I3.kept (t':=s3.toks) λb ob q=>Å _ q;let⟨T,id,hT,ht,hg⟩:=hr Á {s3 with heap:=s3.heap.push {cls:=.type "slice",data:=.fields #[vl,vu,.none]}} σ H3 x v vl vu l u s3.heap.objs.size Q I4 r1 (Heap.IsSliceOf.new ..) pl pu q3;show wpAny (Þ X.prog X.w) X.A (cD e (.Slice lo hi dG p2) v<|.ref s3.heap.objs.size) (EP X Á σ Q) X.xe {s3 with heap:=s3.heap.push {cls:=.type "slice",data:=.fields #[vl,vu,.none]}};exact tail_any (ops:=[.ref s3.heap.objs.size,v]) ht hT hg (by with_unfolding_all rfl)
abbrev ML(xs:List V)(lo hi:Option Int):List V:=(xs.drop<|HT.sIx xs.length 0 lo).take<|HT.sIx xs.length xs.length hi - HT.sIx xs.length 0 lo
def WM(xs:List V)(lo hi:Option Int):(ML xs lo hi).length<=xs.length:=by unfold ML;rw[õ,ς];lia
abbrev QK(K:Frag):V->Option Int->Option Int->Hp->VK->Prop:=λx lo hi H Q=>∃a xs,x=.ref a/\fm K H a xs/\
 ¬ (HT.sIx xs.length 0 lo=0/\HT.sIx xs.length xs.length hi=xs.length)/\∀p,H p=dG->Q (.ref p) (upd H p<|.tup<|ML xs lo hi)
def eZ:SlR X<|QK X.K:=by
 intro Á s σ H x v vl vu lo hi sl Q I rx hs pl pu h;let⟨a,xs,rfl,hx,hw,q⟩:=h;cases rx;let⟨î,r,ht,hz⟩:=I.tuple hx;have hlen:î.toArray.size=xs.length:=by rw[Ë];exact r.length.symm
 refine⟨"tuple",_,PyProof.Rows.slot_tuple_getitem.lookup,ht.typeIs,?_⟩;refine HT.getItem_tuple_cut ht hs pl pu (by rw[hlen];exact hw) ?_ (by rw[hlen];exact hz);rw[hlen];refine⟨.ref s.heap.objs.size,_,I.laid (t':=s.toks) (o:=.tup<|ML xs lo hi) (λb ob q=>Å _ q) (Ì _) ?_,rfl,q _<|I.hok.fresh<|Ì _⟩;exact⟨Ô (WM xs lo hi) hz,_,(r.drop<|HT.sIx xs.length 0 lo).take<|HT.sIx xs.length xs.length hi - HT.sIx xs.length 0 lo,IsTup.new _ _⟩
abbrev Qa(K:Frag):R2:=λx y H Q=>∃a b ns ms,x=.ref a/\y=.ref b/\fm K H a (ns.map V.int)/\fm K H b (ms.map V.int)/\Q (.bl<|HT.lexLt ns ms) H
def IG(hu:X.A.units<Ĥ):OpR X (ê .Lt)<|Qa X.K:=by intro Á s σ H x y v u Q I rx ry h;let⟨a,b,ns,ms,rfl,rfl,ha,hb,q⟩:=h;cases rx;cases ry;let⟨î,r1,p1,_⟩:=I.tuple ha;let⟨ae,r2,p2,_⟩:=I.tuple hb;have i1:ė î.toArray.toList ns:=ZN r1;have i2:ė ae.toArray.toList ms:=ZN r2;exact HT.lt_tupInts p1 p2 i1 i2 hu ⟨.bl<|HT.lexLt ns ms,H,I,rfl,q⟩
abbrev GQ(K:Frag):R2:=λx y H Q=>∃a b xs ys,x=.ref a/\y=.ref b/\fm K H a xs/\fm K H b ys/\xs≠[]/\xs.length+ys.length<=Ü/\
 (ys=[]->Q (.ref a) H)/\(ys≠[]->∀p,H p=dG->Q (.ref p) (upd H p<|.tup<|xs++ys))
def fo.nil_iff{xs:List V}{us:List Â}(r:fo xs us):us=[]↔xs=[]:=by
 cases r with
 |nil=>simp
 |cons _ _=>simp
def E2:OpR X (Ļ .Add)<|GQ X.K:=by intro Á s σ H x y v u Q I rx ry h;let⟨a,b,xs,ys,rfl,rfl,ha,hb,hx,hz,q1,q2⟩:=h;cases rx;cases ry;let⟨î,r1,p1,_⟩:=I.tuple ha;let⟨ae,r2,p2,_⟩:=I.tuple hb;refine HT.cat_tup p1 p2 (λz=>hx<|r1.nil_iff.mp z) (λz=>⟨.ref a,H,I,rfl,q1<|r2.nil_iff.mp z⟩) (λz=>?_) (by rw[<-r1.length,<-r2.length];exact hz);refine⟨.ref s.heap.objs.size,_,I.laid (t':=s.toks) (o:=.tup<|xs++ys) (λb ob q=>Å _ q) (Ì _) ?_,rfl,q2 (λw=>z<|r2.nil_iff.mpr w) _<|I.hok.fresh<|Ì _⟩;exact⟨by rw[Ö];exact hz,_,r1.append r2,IsTup.new _ _⟩
end
abbrev ixN(n:Nat)(i:Int):Option Nat:=if 0<=i then(if i<n then dF i.toNat else dG)else if -(n:Int)<=i then dF (i+n).toNat else dG
variable {α:Type}
abbrev atI(xs:List α)(i:Int):Option α:=(ixN xs.length i).bind λj=>xs[j]?
variable {n:Nat} {i:Int}
def MI{j:Nat}(h:ixN n i=dF j):seqIndex? i n=dF j/\j<n/\-(n:Int)<=i/\i<n:=by
 unfold ixN at h;by_cases h0:0<=i
 .rw[fA h0]at h;by_cases h1:i<n
  .rw[fA h1]at h;have e:i.toNat=j:=í h;exact⟨by rw[aX h0 h1,e],by lia,by lia,h1⟩
  .rw[fB h1]at h;cases h
 .rw[fB h0]at h;by_cases h1:-(n:Int)<=i
  .rw[fA h1]at h;have e:(i+n).toNat=j:=í h;exact⟨by rw[av (by lia) h1,e],by lia,h1,by lia⟩
  .rw[fB h1]at h;cases h
def W0{xs:List α}{v:α}(h:atI xs i=dF v):∃j,seqIndex? i xs.length=dF j/\xs[j]?=dF v/\j<xs.length/\-(xs.length:Int)<=i/\i<xs.length:=by
 unfold atI at h;cases e:ixN xs.length i with
 |none=>rw[e]at h;cases h
 |some j =>rw[e]at h;let⟨h1,h2,h3,h4⟩:=MI e;exact⟨j,h1,h,h2,h3,h4⟩
abbrev M0(b:Expr):Prop:=∀o i,subscripted b dJ o i=operate [o,i] (ϋ o i)
abbrev IxR(X:Cx)(r:R2):Prop :=
 ∀(Ŵ slice:Expr) (Á:List<|Ê×Obj) (s:Ä) (σ:St) (H:Hp) (x y:V) (v u:Â) (Q:VK),Inv X Á σ H s->RelV x v->RelV y u->r x y H Q->
  subscripted slice dJ v u=operate [v,u] (ϋ v u)->wpAny (Þ X.prog X.w) X.A (cD Ŵ slice v u) (EP X Á σ Q) X.xe s
abbrev MtR(X:Cx)(id:String)(r:V->List V->Hp->VK->Prop):Prop :=
 ∀(Á:List<|Ê×Obj) (s:Ä) (σ:St) (H:Hp) (x:V) (xs:List V) (v:Â) (us:List Â) (Q:VK),Inv X Á σ H s->RelV x v->fo xs us->r x xs H Q->
  wpAny (Þ X.prog X.w) X.A (call (.builtin id)<|v::us) (EP X Á σ Q) X.xe s
section
variable {X:Cx}{a b:Expr}{ta tb:TE}{ç:Pos}
variable {r:R2}
def IxR.or{r':R2}(h:IxR X r)(h':IxR X r'):IxR X λx y H Q=>r x y H Q\/r' x y H Q:=by
 intro Ŵ slice Á s σ H x y v u Q I rx ry q hs;rcases q with q|q
 .exact h Ŵ slice Á s σ H x y v u Q I rx ry q hs
 .exact h' Ŵ slice Á s σ H x y v u Q I rx ry q hs
def MtR.or{id:String}{r r':V->List V->Hp->VK->Prop}(h:MtR X id r)(h':MtR X id r'):MtR X id λx xs H Q=>r x xs H Q\/r' x xs H Q:=by
 intro Á s σ H x xs v us Q I rx rs q;rcases q with q|q
 .exact h Á s σ H x xs v us Q I rx rs q
 .exact h' Á s σ H x xs v us Q I rx rs q
def Q7(hr:IxR X r)(ha:PE X a ta)(hb:PE X b tb)(hs:M0 b):PE X (.Subscript a b ç)<|tOp r ta tb:=by intro Á s σ H Q I h;exact Subscript_ (Ph ha hb I h λv u s2 x y H2 I2 rx ry q=>hr a b Á s2 σ H2 x y v u Q I2 rx ry q<|hs _ _)
abbrev CJ(K:Frag):R2:=λx y H Q=>∃p xs i v,x=.ref p/\y=.int i/\fk K H p xs/\atI xs i=dF v/\Q v H
abbrev P3(K:Frag):R2:=λx y H Q=>∃p xs i v,x=.ref p/\y=.int i/\fm K H p xs/\atI xs i=dF v/\Q v H
abbrev Rj:R2:=λx y H Q=>∃z i c,x=.str z/\y=.int i/\z.length<=Ü/\atI z.cps.toList i=dF c/\Q (.str ⟨#[c]⟩) H
def ix_list:IxR X<|CJ X.K:=by
 intro Ŵ slice Á s σ H x y v u Q I rx ry h hs;let⟨p,xs,i,z,rfl,rfl,hq,he,q⟩:=h;cases rx;let⟨t,rfl⟩:=ry;let⟨î,r,pl,hz⟩:=I.list hq;let⟨j,h1,h2,h3,h4,h5⟩:=W0 he;let⟨w,ew,aD⟩:=r.get h2;have hl:=r.length;have hn:=Xn;have fin:EP X Á σ Q w s:=⟨z,H,I,aD,q⟩
 by_cases h0:0<=i
 .have hj:i.toNat=j:=by
   rw[aX h0 h5]at h1;exact í h1
  exact item_listR pl.isList h0 (by lia) (by rw[hj];simpa using ew) fin hs
 .have hj:(i+(î.toArray.size:Int)).toNat=j:=by
   rw[av (by lia) h4]at h1;rw[Ë,<-hl];exact í h1
  exact dm (x:=w) pl.isList.typeIs slot_list_getitem.lookup
   (dq (Q:=λr s'=>r=w/\EP X Á σ Q r s') pl.isList (by lia) (by rw[Ë]<;>lia) (by lia) (by rw[hj];simpa using ew) ⟨rfl,fin⟩) hs
def dQ:IxR X<|P3 X.K:=by
 intro Ŵ slice Á s σ H x y v u Q I rx ry h hs;let⟨p,xs,i,z,rfl,rfl,hq,he,q⟩:=h;cases rx;let⟨t,rfl⟩:=ry;let⟨î,r,pl,hz⟩:=I.tuple hq;let⟨j,h1,h2,h3,h4,h5⟩:=W0 he;let⟨w,ew,aD⟩:=r.get h2;have hl:=r.length;have hn:=Xn;have fin:EP X Á σ Q w s:=⟨z,H,I,aD,q⟩
 exact dm (x:=w) pl.typeIs slot_tuple_getitem.lookup
  (getItem_tuple (j:=j) (Q:=λr s'=>r=w/\EP X Á σ Q r s') pl (by lia) (by lia) (by rw[Ë,<-hl];exact h1) ⇑ew ⟨rfl,fin⟩) hs
def IJ:IxR X Rj:=by
 intro Ŵ slice Á s σ H x y v u Q I rx ry h hs;let⟨z,i,c,rfl,rfl,hz,he,q⟩:=h;let⟨t,rfl⟩:=rx;let⟨t',rfl⟩:=ry;let⟨j,h1,h2,h3,h4,h5⟩:=W0 he;have hl:z.cps.toList.length=z.length:=by simp[Str.length]
 rw[hl]at h1 h4 h5;have hn:=Xn;exact tail_any (typeIs_str s z t) slot_str_getitem.lookup (getItem_str (c:=c) (by
   have e1:fJ (i < -(2 ^ 63:Int))=dJ:=fE (by lia)
   have e2:fJ (i≥2 ^ 63)=dJ:=fE (by lia)
   rw[e1,e2,aY]) (by rw[h1];simpa using h2) ⟨.str ⟨#[c]⟩,H,I.tok _,⟨_,rfl⟩,q⟩) hs
abbrev rIx(K:Frag):R2:=λx y H Q=>CJ K x y H Q\/P3 K x y H Q\/Rj x y H Q
def ix_seq:IxR X<|rIx X.K:=ix_list.or (dQ.or IJ)
def Oc(î:List Â)(n j:Nat)(u:Â):ϟ (·.setIfInBounds j u) {cls:=.type "list",data:=.seq î.toArray n}={cls:=.type "list",data:=.seq (î.set j u).toArray n}:=by simp[ϟ]
def Inv.lst{Á:List (Ê×Obj)}{σ:St}{H:Hp}{s:Ä}{p:Ê}{xs:List V}(I:Inv X Á σ H s)(h:H p=dF (.lst xs)) :
  ∃(î:List Â) (n:Nat),fo xs î/\s.heap.get? p=dF {cls:=.type "list",data:=.seq î.toArray n}/\xs.length<=Ü:=by
 let⟨z,î,n,r,e⟩:=I.hok p _ h;exact⟨î,n,r,e,z⟩
variable {Á:List (Ê×Obj)} {σ:St} {H:Hp} {s:Ä}
def Inv.lstUpd{p:Ê}{xs ys:List V}{î its':List Â}{n':Nat}{f:Obj->Obj}(I:Inv X Á σ H s)(h:H p=dF (.lst xs))
  (ho:s.heap.get? p=dF {cls:=.type "list",data:=.seq î.toArray n}) (hf:f {cls:=.type "list",data:=.seq î.toArray n}={cls:=.type "list",data:=.seq its'.toArray n'}) (r:fo ys its') (hz:ys.length<=Ü) (t:Nat) :
  Inv X Á σ (upd H p<|.lst ys) {s with heap:=s.heap.update p f,toks:=t}:=by
 have e:(s.heap.update p f).get? p=dF {cls:=.type "list",data:=.seq its'.toArray n'}:=by rw[Ť f ho (by rw[hf]<;>rfl),hf]
 refine I.write (x:=p) (e:=p) (by rw[h];trivial) (.inl rfl) (λb u hb q=>(þ _ _<|Ne.symm hb).trans q) ⟨_,e⟩ ?_;exact⟨hz,its',n',r,e⟩
abbrev GJ:V->V->V->Hp->(Hp->Prop)->Prop:=λo i v H Q=>∃p xs k j,o=.ref p/\i=.int k/\H p=dF (.lst xs)/\ixN xs.length k=dF j/\Q (upd H p<|.lst<|xs.set j v)
def Ny:PSet X GJ:=by
 intro Á s σ H o i v ov iv u Q I ro ri rv h;let⟨p,xs,k,j,rfl,rfl,hp,hj,q⟩:=h;cases ro;let⟨t,rfl⟩:=ri;let⟨î,n,r,ho,hz⟩:=I.lst hp;let⟨h1,h2,h3,h4⟩:=MI hj;have hl:=r.length;have hn:=Xn;have I':Inv X Á σ (upd H p<|.lst<|xs.set j v) {s with heap:=s.heap.update p (ϟ (·.setIfInBounds j u))} :=
  I.lstUpd hp ho (Oc î n j u) (r.set rv j) (by rw[ű];exact hz) s.toks
 by_cases h0:0<=k
 .have hk:k.toNat=j:=by
   rw[aX h0 h4]at h1;exact í h1
  exact PySem.W.ki_setAt ho h0 (by lia) (by rw[Ë,<-hl];exact h4) (by rw[hk];exact⟨_,I',q⟩)
 .have hk:(k+(î.toArray.size:Int)).toNat=j:=by
   rw[av (by lia) h3]at h1;rw[Ë,<-hl];exact í h1
  exact PySem.W.ki_setBack ho (by lia) (by rw[Ë,<-hl];exact h3) (by lia) (by rw[hk];exact⟨_,I',q⟩)
def Ml(lo hi:Option Int)(n:Nat):(ŷ lo hi dG n).1=((HT.sIx n 0 lo:Nat):Int)/\(ŷ lo hi dG n).2.1=((HT.sIx n n hi:Nat):Int)/\(ŷ lo hi dG n).2.2=1:=by
 refine⟨?_,?_,rfl⟩
 .cases lo with
  |none=>simp[ŷ,HT.sIx]
  |some i =>
   simp only[ŷ,HT.sIx,cQ,show(1:Int) > 0 by decide,if_true];by_cases h:i<0
   .simp only[h,if_true]<;>lia
   .simp only[h,if_false]<;>lia
 .cases hi with
  |none=>simp[ŷ,HT.sIx]
  |some i =>
   simp only[ŷ,HT.sIx,cQ,show(1:Int) > 0 by decide,if_true];by_cases h:i<0
   .simp only[h,if_true]<;>lia
   .simp only[h,if_false]<;>lia
def Ki(î:List Â)(lo hi:Option Int):slicePick î.toArray lo hi dG=((î.drop<|HT.sIx î.length 0 lo).take<|HT.sIx î.length î.length hi - HT.sIx î.length 0 lo).toArray:=by let⟨h1,h2,h3⟩:=Ml lo hi î.toArray.size;unfold slicePick;rw[h1,h2,h3];simp only[sliceRange_one,pick_run,Ë]<;>rfl
abbrev Qu(K:Frag):V->Option Int->Option Int->Hp->VK->Prop:=λx lo hi H Q=>∃a xs,x=.ref a/\fk K H a xs/\∀p,H p=dG->Q (.ref p) (upd H p<|.lst<|ML xs lo hi)
def sl_list:SlR X<|Qu X.K:=by intro Á s σ H x v vl vu lo hi sl Q I rx hs pl pu h;let⟨a,xs,rfl,hx,q⟩:=h;cases rx;let⟨î,r,ht,hz⟩:=I.list hx;have hlen:=r.length;refine⟨"list",_,slot_list_getitem.lookup,ht.isList.typeIs,?_⟩;refine wpAny_getItem_list_slice ht.isList hs pl pu .none (by simp) ?_ (by rw[Ë]<;>lia);rw[Ki,<-hlen];refine⟨.ref s.heap.objs.size,_,I.laid (t':=s.toks) (o:=.lst<|ML xs lo hi) (λb ob q=>Å _ q) (Ì _) ?_,rfl,q _<|I.hok.fresh<|Ì _⟩;exact⟨Ô (WM xs lo hi) hz,_,0,(r.drop<|HT.sIx xs.length 0 lo).take<|HT.sIx xs.length xs.length hi - HT.sIx xs.length 0 lo,Ý _ rfl⟩
abbrev eqV:V->V->Bool
 |.non,.non=>dI
 |.bl a,.bl b=>a==b
 |.bl a,.int b=>(if a then 1 else 0)==b
 |.int a,.bl b=>a==(if b then 1 else 0)
 |.int a,.int b=>a==b
 |.str a,.str b=>a==b
 |_,_=>dJ
abbrev inV(x:V)(xs:List V):Bool:=xs.any λy=>eqV y x
def Mp:OpR X (ê .NotIn) λx y H Q=>∃i j,x=.str i/\y=.str j/\Q (.bl (!(!(Builtin.Str.occurrences j i 0 j.length 1).isEmpty))) H:=by intro Á s σ H x y v u Q I rx ry h;let⟨i,j,rfl,rfl,q⟩:=h;let⟨t,rfl⟩:=rx;let⟨t',rfl⟩:=ry;exact notIn_str ⟨.bl _,H,I,rfl,q⟩
def call_len_seq:dU X (.builtin "len") λxs H Q=>∃p ys,xs=[.ref p]/\(fk X.K H p ys\/fm X.K H p ys)/\Q (.int ys.length) H:=by
 intro Á s σ H xs us Q I r h;let⟨p,ys,rfl,hq,q⟩:=h;let⟨u,rfl,rx⟩:=ZL r;cases rx;have hn:=Xn;rcases hq with hq|hq
 .obtain⟨î,r',pl,hz⟩:=I.list hq;have hlen:=r'.length;exact Calls.call_len_list pl.isList (by simp only[Ë]<;>lia) ⟨.int ys.length,H,I.tok _,⟨s.toks+1,by rw[Ë,hlen]⟩,q⟩
 .obtain⟨î,r',pl,hz⟩:=I.tuple hq;have hlen:=r'.length;exact len_tuple pl (by simp only[Ë]<;>lia) ⟨.int ys.length,H,I.tok _,⟨s.toks+1,by rw[Ë,hlen]⟩,q⟩
def MM:dU X (.builtin "len") λxs H Q=>∃z,xs=[.str z]/\z.length<=Ü/\Q (.int z.length) H:=by intro Á s σ H xs us Q I r h;let⟨z,rfl,hz,q⟩:=h;let⟨u,rfl,t,rfl⟩:=ZL r;have hn:=Xn;exact len_str (by lia) ⟨.int z.length,H,I.tok _,⟨_,rfl⟩,q⟩
def dU.or{f:Â}{r r':List V->Hp->VK->Prop}(h:dU X f r)(h':dU X f r'):dU X f λxs H Q=>r xs H Q\/r' xs H Q:=by
 intro Á s σ H xs us Q I rs q;rcases q with q|q
 .exact h Á s σ H xs us Q I rs q
 .exact h' Á s σ H xs us Q I rs q
def Mj:dU X (.type "list") λxs H Q=>∃p ys,xs=[.ref p]/\(fk X.K H p ys\/fm X.K H p ys)/\∀l,H l=dG->Q (.ref l) (upd H l<|.lst ys):=by
 intro Á s σ H xs us Q I r h;let⟨p,ys,rfl,hq,q⟩:=h;let⟨u,rfl,rx⟩:=ZL r;cases rx;have fin:∀(î:List Â),fo ys î->ys.length<=Ü->∀(h':ć) (c':Nat),(∀b o',s.heap.get? b=dF o'->h'.get? b=dF o')->
   h'.get? s.heap.objs.size=dF {cls:=.type "list",dict:=dG,data:=.seq î.toArray c',slots:=#[]}->EP X Á σ Q (.ref s.heap.objs.size) {s with heap:=h'}:=λî r' hz h' c' kp e =>
  ⟨.ref s.heap.objs.size,_,I.laid (t':=s.toks) kp (Ì _) (show dW X.prog X.w _ h' _ (.lst ys) from ⟨hz,î,c',r',e⟩),rfl,q _<|I.hok.fresh<|Ì _⟩
 rcases hq with hq|hq
 .obtain⟨î,r',pl,hz⟩:=I.list hq;have hlen:=r'.length;let⟨o,ho,hc,n,hd⟩:=pl.isList;exact call_list_seq p (.inl rfl) ho hc hd (λh' c' kp e=>fin î r' hz h' c' kp e) (by simp only[Ë]<;>lia)
 .obtain⟨î,r',pl,hz⟩:=I.tuple hq;have hlen:=r'.length;let⟨o,ho,hc,n,hd⟩:=pl;exact call_list_seq p (.inr rfl) ho hc hd (λh' c' kp e=>fin î r' hz h' c' kp e) (by simp only[Ë]<;>lia)
def Kh:dU X (.type "tuple") λxs H Q=>∃p ys,xs=[.ref p]/\((fk X.K H p ys/\∀l,H l=dG->Q (.ref l) (upd H l<|.tup ys))\/(fm X.K H p ys/\Q (.ref p) H)):=by
 intro Á s σ H xs us Q I r h;let⟨p,ys,rfl,h⟩:=h;let⟨u,rfl,rx⟩:=ZL r;cases rx;rcases h with⟨hq,q⟩|⟨hq,q⟩
 .obtain⟨î,r',pl,hz⟩:=I.list hq;have hlen:=r'.length;refine call_tuple_list pl.isList (λh' kp=>?_) (by simp only[Ë]<;>lia);have I1:Inv X Á σ H {s with heap:=h'}:=I.kept (t':=s.toks) kp;have I2:Inv X Á σ (upd H h'.objs.size<|.tup ys) {s with heap:=h'.push {cls:=.type "tuple",data:=.seq î.toArray}} :=
   I1.laid (t':=s.toks) (λb o e=>Å _ e) (Ì _) (show dW X.prog X.w _ _ _ (.tup ys) from ⟨hz,î,r',IsTup.new _ _⟩)
  exact⟨.ref h'.objs.size,_,I2,rfl,q _<|I1.hok.fresh<|Ì _⟩
 .obtain⟨î,r',pl,hz⟩:=I.tuple hq;exact call_tuple_same pl ⟨.ref p,H,I,rfl,q⟩
abbrev tyV(K:Frag)(T:String)(x:V)(H:Hp):Prop:=match x with
 |.str _=>T = "str"
 |.int _=>T = "int"
 |.ref p=>(T = "list"/\∃xs,fk K H p xs)\/(T = "tuple"/\∃o,K.lookup p=dF o/\o.cls=.type "tuple"/\o.dict=dG)\/
   (T = "dict"/\((∃kvs,H p=dF (.dK kvs))\/∃kvs,H p=dF (.dT kvs)))\/(T = "set"/\∃S n,H p=dF (.set S n))
 |_=>False
def LK{T:String}{x:V}{v:Â}(I:Inv X Á σ H s)(r:RelV x v)(ty:tyV X.K T x H) :
  s.TypeIs v T/\∀a,v=.ref a->∃ob,s.heap.get? a=dF ob/\ob.dict=dG:=by
 cases x with
 |str z =>let⟨t,rfl⟩:=r;cases (show T = "str" from ty);exact⟨typeIs_str s z t,λ_ e=>nomatch e⟩
 |int i =>let⟨t,rfl⟩:=r;cases (show T = "int" from ty);exact⟨typeIs_int s i t,λ_ e=>nomatch e⟩
 |ref p =>
  cases r;rcases ty with⟨rfl,xs,hq⟩|⟨rfl,o,hk,hc,hd⟩|⟨rfl,hk⟩|⟨rfl,S,n,hk⟩
  .obtain⟨î,_,pl,_⟩:=I.list hq;refine⟨pl.isList.typeIs,λa e=>?_⟩;cases e;let⟨o,n,e,c,hd,_⟩:=pl;exact⟨o,e,hd⟩
  .refine⟨⟨o,I.kIn p o hk,hc⟩,λa e=>?_⟩;cases e;exact⟨o,I.kIn _ o hk,hd⟩
  .have z:∃o,s.heap.get? p=dF o/\o.ExactDict:=by
    rcases hk with⟨kvs,hk⟩|⟨kvs,hk⟩
    .obtain⟨_,_,_,_,o,_,_,e,ex,_⟩:=I.hok p _ hk;exact⟨o,e,ex⟩
    .obtain⟨_,_,_,_,o,_,_,e,ex,_⟩:=I.hok p _ hk;exact⟨o,e,ex⟩
   let⟨o,e,ex⟩:=z;refine⟨⟨o,e,ex.1⟩,λa e2=>?_⟩;cases e2;exact⟨o,e,ex.2.1⟩
  .obtain⟨o,_,_,_,e,ex,_⟩:=I.hok p _ hk;refine⟨⟨o,e,ex.1⟩,λa e2=>?_⟩;cases e2;exact⟨o,e,ex.2.1⟩
 |_=>exact č ty
abbrev tBM(K:Frag)(T:String)(r:V->List V->Hp->VK->Prop)(to:TE)(t:TA):TE:=λσ H Q=>to σ H λx H1=>tyV K T x H1/\t σ H1 λxs H2=>r x xs H2 Q
variable {o e:Expr}{es:List Expr}{to:TE}{t:TA}{name:Str}{Ń ĺ:Pos}{T id:String}{r:V->List V->Hp->VK->Prop}
def Rf(pa:PlainAttrs T)(slot:Slot T name id)(hty:du (.builtin id)=pure (.type "method_descriptor"))(hm:MtR X id r)(ho:PE X o to)(ha:PA X (e::es) t)
  (af:Ğ o name X.env (eval o X.env)=eval o X.env:=by rfl)
  (ah:((Č ĺ<|Î (e::es) X.env).all (λx=>!x.1)&&(ũ ĺ<|Ľ [] X.env).all (λx=>x.1.isSome)
    && fJ ((e::es).length+([]:List aw).length+(if([]:List aw).isEmpty then 0 else 1)<30))=dI:=by rfl)
  (ai:(Ń.endLine==ĺ.line)=dI:=by rfl) (hs:Î (e::es) X.env=(dJ,eval e X.env)::Î es X.env:=by rfl) (bY:(Č ĺ<|Î es X.env).any (·.1)=dJ:=by rfl) :
  PE X (.Call (.Attribute o name Ń) (e::es) [] ĺ) (tBM X.K T r to t):=by
 intro Á s σ H Q I h;refine wpAny_Call_method_late af ah ai rfl<|thn (ho Á s σ H _ I h) λv s1 ⟨x,H1,I1,r1,ty,q1⟩=>?_;let⟨h1,h2⟩:=LK I1 r1 ty;refine⟨T,id,pa,slot,hty,h1,h2,?_⟩;have hA:=ha ĺ Á s1 σ H1 _ I1 q1;rw[hs]at hA ⊢;refine Calls.callWith_builtin (by show(dJ||(Č ĺ<|Î es X.env).any (·.1))=dJ;rw[bY]<;>rfl)<|Calls.evalArgs_plain ?_;exact thn hA λus s2 ⟨vs,H2,I2,r2,q2⟩=>hm Á s2 σ H2 x vs v us Q I2 r1 r2 q2
/- xs.append(e),list.index on a module's tuple .. are MtR facts of 06m -/
end
abbrev MtM(X:Cx)(id:String)(r:V->List V->Hp->VK->Prop):Prop :=
 ∀(Á:List<|Ê×Obj) (s:Ä) (σ:St) (H:Hp) (x:V) (xs:List V) (v:Â) (us:List Â) (Q:VK),Inv X Á σ H s->RelV x v->fo xs us->r x xs H Q->
  wpAny (Þ X.prog X.w) X.A (call (.builtin id)<|v::us) (EP X Á σ Q) X.xe s
variable {x:V} {us:List Â}
def fo.one(r:fo [x] us):∃u,us=[u]/\RelV x u:=ZL r
def fo.two{y:V}(r:fo [x,y] us):∃u v,us=[u,v]/\RelV x u/\RelV y v:=JQ r
def fo.eraseIdx:∀{xs:List V}{us:List Â}(i:Nat),fo xs us->fo (xs.eraseIdx i) (us.eraseIdx i)
 |_,_,_,.nil=>.nil
 |_,_,0,.cons _ t=>t
 |_,_,i+1,.cons r t=>.cons r<|fo.eraseIdx i t
def fo.rep{xs:List V}{us:List Â}(h:fo xs us):∀k:Nat,fo (Ú k xs).flatten (Ú k us).flatten
 |0=>.nil
 |k+1=>by rw[Ĉ,Ĉ,ĸ,ĸ];exact fo.append h<|fo.rep h k
def KC{α:Type}:∀(l:List α) (i:Nat),(l.eraseIdx i).length<=l.length
 |[],_=>Ì _
 |_::_,0=>ř _
 |_::r,i+1=>ő<|KC r i
def KD(î:List Â):∀(k:Nat) (ħ:List Â),
  cR (λx1 x2=>x1++x2) ħ.toArray (Ú k î.toArray)=(ħ++(Ú k î).flatten).toArray
 |0,ħ=>by simp
 |k+1,ħ=>by
  have e:ħ.toArray++î.toArray=(ħ++î).toArray:=by simp
  have e2:(ħ++î)++(Ú k î).flatten=ħ++(Ú (k+1) î).flatten:=by rw[Ĉ,ĸ,Đ]
  rw[<-e2,<-KD î k (ħ++î),<-e,Ĉ,Ķ]
section
variable {X:Cx}{Á:List (Ê×Obj)}{σ:St}{H:Hp}{s:Ä}{l b:Ê}{xs ys zs:List V}
variable {î:List Â} {n:Nat} {t':Nat}
def Inv.lset{its':List Â}{f:Array Â->Array Â}(I:Inv X Á σ H s)(hH:H l=dF (.lst xs))
  (e:s.heap.get? l=dF {cls:=.type "list",data:=.seq î.toArray n}) (hf:f î.toArray=its'.toArray) (hv:fo ys its') (hz:ys.length<=Ü) :
  Inv X Á σ (upd H l<|.lst ys) {s with heap:=s.heap.update l<|ϟ f,toks:=t'}:=by
 have q:=PySem.IsL.update e f;rw[hf]at q;refine I.write (x:=l) (e:=l) (by rw[hH];exact trivial) (.inl rfl) (λb' u hb hu=>(þ s.heap (ϟ f)<|Ne.symm hb).trans hu) ⟨_,q⟩ ?_;exact⟨hz,its',_,hv,q⟩
def Inv.lnew(I:Inv X Á σ H s)(hv:fo ys î)(hz:ys.length<=Ü) :
  Inv X Á σ (upd H s.heap.objs.size<|.lst ys) {s with heap:=s.heap.push {cls:=.type "list",data:=.seq î.toArray},toks:=t'} :=
 I.laid (λ_ _ q=>Å _ q) (Ì _) ⟨hz,î,0,hv,Ý _ rfl⟩
def Inv.fresh(I:Inv X Á σ H s):H s.heap.objs.size=dG:=I.hok.fresh (Ì _)
def Inv.lstM(I:Inv X Á σ H s)(hH:H l=dF (.lst xs)):xs.length<=Ü/\∃(î:List Â) (n:Nat),fo xs î/\xs.length=î.length/\s.heap.get? l=dF {cls:=.type "list",data:=.seq î.toArray n}:=by let⟨z,î,n,r,e⟩:=I.hok l _ hH;exact⟨z,î,n,r,r.length,e⟩
def Cb(h:n<=Ü):Builtin.List.listTooLong n=dJ:=by unfold Builtin.List.listTooLong;exact fE (by lia)
end
section
variable {X:Cx}
abbrev UT:V->List V->Hp->VK->Prop:=λx vs H Q=>∃l xs y,x=.ref l/\vs=[y]/\H l=dF (.lst xs)/\xs.length<Ü/\Q .non (upd H l<|.lst<|xs++[y])
def AK:MtM X "list.append" UT:=by intro Á s σ H x vs v us Q I rx rv h;let⟨l,xs,y,rfl,rfl,hH,hz,q⟩:=h;cases rx;let⟨u,rfl,ru⟩:=rv.one;let⟨z,î,n,r,hl,e⟩:=I.lstM hH;refine bL F.slot_list_append ⟨_,e,rfl⟩ F.entry_list_append (F.args_list_append_2 _ _) (PySem.list_append l î.toArray n u<|by rw[Ë];lia) ⟨e,?_⟩;refine⟨.non,_,I.lset (its':=î++[u]) hH e (by simp) (r.append<|.cons ru .nil) ?_,rfl,q⟩;rw[Ö,ť];lia
abbrev Bs:V->List V->Hp->VK->Prop:=λx vs H Q=>∃l xs i k y,x=.ref l/\vs=[.int i]/\H l=dF (.lst xs)/\-(2 ^ 63)<=i/\i<2 ^ 63/\seqIndex? i xs.length=dF k/\xs[k]?=dF y/\Q y (upd H l<|.lst<|xs.eraseIdx k)
def Cy:MtM X "list.pop" Bs:=by
 intro Á s σ H x vs v us Q I rx rv h;let⟨l,xs,i,k,y,rfl,rfl,hH,h1,h2,hk,hy,q⟩:=h;cases rx;let⟨u,rfl,ru⟩:=rv.one;let⟨t,rfl⟩:=ru;let⟨z,î,n,r,hl,e⟩:=I.lstM hH;let⟨w,hw,aD⟩:=r.get hy;refine bL F.slot_list_pop ⟨_,e,rfl⟩ F.entry_list_pop (F.args_list_pop_2 _ _)
  (MeetsSeq.list_pop_at l î.toArray n i t k w (fitsIndex_both h1 h2) (by rw[Ë,<-hl];exact hk) (by rw[<-Ι];exact hw)<|by rw[Ë];lia) ⟨e,?_⟩
 refine⟨y,_,I.lset (its':=î.eraseIdx k) hH e ?_ (r.eraseIdx k) ?_,aD,q⟩
 .show î.toArray.eraseIdxIfInBounds k=(î.eraseIdx k).toArray;rw[List.eraseIdxIfInBounds_toArray]
 .have:=KC xs k;lia
abbrev P2:R2:=λx y H Q=>∃l b xs zs,x=.ref l/\y=.ref b/\H l=dF (.lst xs)/\H b=dF (.lst zs)/\xs.length+zs.length<=Ü/\∀p,H p=dG->Q (.ref p) (upd H p<|.lst<|xs++zs)
def Hz:OpR X (Ļ .Add) P2:=by
 intro Á s σ H x y v u Q I rx ry h;let⟨l,b,xs,zs,rfl,rfl,hH,hB,hz,q⟩:=h;cases rx;cases ry;let⟨z,î,n,r,hl,e⟩:=I.lstM hH;let⟨z2,ae,n2,r2,hl2,e2⟩:=I.lstM hB;refine PySem.P.add_list e e2 ?_ (by rw[Ë,Ë];lia);have ea:î.toArray++ae.toArray=(î++ae).toArray:=by simp
 rw[ea];exact⟨.ref _,_,I.lnew (t':=s.toks) (r.append r2) (by rw[Ö];lia),rfl,q _ I.fresh⟩
abbrev P9:R2:=λx y H Q=>∃l k xs,x=.ref l/\y=.int k/\H l=dF (.lst xs)/\-(2 ^ 63)<=k/\k<2 ^ 63/\xs.length*k.toNat<=Ü/\
 ∀p,H p=dG->Q (.ref p) (upd H p<|.lst (Ú k.toNat xs).flatten)
def FV{α:Type}(xs:List α)(k:Nat):(Ú k xs).flatten.length=k*xs.length:=by
 induction k with
 |zero=>simp
 |succ k ih=>rw[Ĉ,ĸ,Ö,ih,Nat.succ_mul,Nat.add_comm]
def op_rep:OpR X (Ļ .Mult) P9:=by
 intro Á s σ H x y v u Q I rx ry h;let⟨l,k,xs,rfl,rfl,hH,h1,h2,hz,q⟩:=h;cases rx;let⟨t,rfl⟩:=ry;let⟨z,î,n,r,hl,e⟩:=I.lstM hH;have hlen:î.toArray.size*k.toNat<=Ü:=by rw[Ë,<-hl];exact hz
 have hcap:¬ î.toArray.size*k.toNat > (2 ^ 63 - 1) / 8:=by
  have:(Ü:Nat)<=(2 ^ 63 - 1) / 8:=by decide
  lia
 have hfit:¬ (!Builtin.List.listFitsIndex k)=dI:=by rw[fitsIndex_both h1 h2];exact ù
 have hlong:¬ Builtin.List.listTooLong (î.toArray.size*k.toNat)=dI:=by rw[Cb hlen];exact ù
 have hnew:cR (λx1 x2=>x1++x2) #[] (Ú (if î.toArray.isEmpty=dI then 0 else k.toNat) î.toArray)=(Ú k.toNat î).flatten.toArray:=by
  have f0:∀m:Nat,cR (λx1 x2=>x1++x2) #[] (Ú m î.toArray)=(Ú m î).flatten.toArray:=λm=>by have:=KD î m [];rw[List.nil_append]at this;exact this
  rw[f0];cases î with
  |nil=>simp
  |cons a r'=>rw[fB<|by simp]
 refine wpAny_binaryOp_repeat_ref (T:="list") (U:="int") (by decide) ⟨_,e,rfl⟩ (λs'=>typeIs_int s' k t) noFill_list_mul F.fills_int_mul F.slot_int_rmul repeat_list F.slot_int_index.lookup
  (bL F.slot_int_rmul (typeIs_int s k t) F.entry_int_rmul (F.args_int_rmul_2 _ _) (int___rmul___int_list k t l î.toArray n)
    ⟨e,rfl,⟨_,e,rfl⟩,bL F.slot_list_mul ⟨_,e,rfl⟩ F.entry_list_mul (F.args_list_mul_2 _ _) (AutoListH.list___mul___list_int_3 l î.toArray n k t hfit hcap hlong) ⟨e,?_⟩⟩)
 rw[hnew];exact⟨.ref _,_,I.lnew (t':=s.toks) (r.rep k.toNat) (by rw[FV,bM];exact hz),rfl,q _ I.fresh⟩
end
end L2
namespace Att
open PySem PySem.W PySem.Calls PyProof.Rows
variable {P:Params} {h:ć}
def WR:∀(ns:List Int) (vs:List Â),WellAll P h vs (ns.map WData.int)->ė vs ns:=by
 intro ns;induction ns with
 |nil =>intro vs w;rw[ŵ]at w;cases w;exact .nil
 |cons n ns ih =>
  intro vs w;rw[Í]at w;cases w with
  |cons a b =>cases a;exact .cons _ _<|ih _ b
variable {l:OpenLaw} {n:Nat}
def AB(hn:l.most=dF n){args:List WData}{vals:List Â}
  (hpre:l.row.toRowW.claim.pre args=dI) (hwl:WellAll P h vals args) :
  ∃a vs ns,vals=[Value.ref a]/\args=[WData.list<|ns.map WData.int]/\h.get? a=dF {cls:=.type "list",data:=.seq vs.toArray}/\ė vs ns/\ns.length<=n:=by
 have hsh:WShape.hasAll [] args [.list .int]=dI:=(pre_splitW hpre).1;have hc:l.pre.holds [] {args:=args}=dI:=(pre_splitW hpre).2;let⟨d,r,rfl,h1,h2⟩:=hasAllW_cons hsh;obtain rfl:=hasAllW_nil h2;let⟨xs,rfl,h3⟩:=hasW_list h1;let⟨ns,rfl⟩:=items_int h3;have hlen:ns.length<=n:=by
  unfold OpenLaw.pre at hc;have h4:(WTm.not<|.lt (.lit<|.int (n:Int))<|.len<|.arg 0).holds [] {args:=[.list<|ns.map .int]}=dI:=by have h4:=(holds_andW hc).1;rw[hn]at h4;exact h4
  have h5:=condW_of h4<|w_not<|w_lt w_lit<|w_len_list<|w_arg rfl;rw[À]at h5;refine Nat.le_of_not_lt λq=>?_;have q':(n:Int)<((ns.length:Nat):Int):=by lia
  first
   |(rw[fG q']at h5;exact fI h5<|by decide)
   |(simp at h5;lia)
 cases hwl with
 |cons w1 w2 =>
  cases w2;cases w1 with
  |list ho hall=>exact⟨_,_,ns,rfl,rfl,ho,WR ns _ hall,hlen⟩
def Ap(l:OpenLaw)(args:List WData):l.row.toRowW.claim.post args (.bool dI) args=dI :=
 postW_of (r:=l.row.toRowW) (X:=(dI==dI))
  (show WShape.has [] (.bool dI) .bool=dI by first|rfl|decide|simp[WShape.has,WShape.arms,WShape.armsAll])
  (show(WTm.eq .res<|.lit<|.bool dI).value [] {args:=args,res:=dF<|.bool dI,after:=args}=dF (.bool<|dI==dI) from w_eq_bool (w_res rfl) w_lit) rfl
def attach_call{q:é}{loose:List Str}{XP:(Str->Option Â)->ć->Prop}{YP:Ā->ć->Prop}{d:DefRec}
  (hn:l.most=dF n) (hdf:d.params.defaults=[])
  (call:∀(w:Ā) (s₀ ģ:Ä) (mg mb:Str->Option Â) (fa:Ê) (o:Obj) (pm cd doc:Â) (a:Ê) (vs:List Â) (ns:List Int),
    Ground q loose [] XP w s₀ mg mb ģ.heap->YP w ģ.heap->
    ģ.heap.get? fa=dF o->o.data=.func (docDef d.name d.params d.body d.scope pm cd doc)->ģ.heap.CodeRec cd d.name->mg d.name=dF (.ref fa)->
    ģ.heap.get? a=dF {cls:=.type "list",data:=.seq vs.toArray}->ė vs ns->ns.length<=n->ģ.gens=#[]->
    codeAny (Þ l.prog w) Ϧ (.call (.ref fa) ⟨[.ref a],[]⟩) (λr s'=>r=.ok (.ret<|.bool dI)/\OldK ģ.heap s'.heap/\s'.os=ģ.os/\ω s'.gens) ģ) :
  WalkO q loose XP YP l.row.toRowW d [] (λf vs=>PySem.call f vs):=by
 intro w s₀ ģ mg mb G Y fa o pm cd doc dV kV ho hd aq hD hmg hg args vals as hpre hlay hrd hwl hlo;obtain rfl:dV=.none:=Dflts.none hD hdf;obtain rfl:kV=.none:=Dflts.noKw hD;let⟨a,vs,ns,rfl,rfl,cK,hints,hlen⟩:=AB hn hpre hwl;refine enter_call<|ό (call w s₀ ģ mg mb fa o pm cd doc a vs ns G Y ho (fd_plain hd) aq hmg cK hints hlen hg) λr s' hq=>?_;let⟨rfl,h2,h3,h4⟩:=hq;exact⟨.inl ⟨.bool dI,.bool dI,[],rfl,λ_=>rfl,.bool dI,Ap l _,λ_=>⟨List.Pairwise.nil,λ_ hm=>(nomatch hm)⟩⟩,h2,h3,h4⟩
end Att
namespace L2
open PySem PySem.Spec PyProof.Rows
def WB:∀{vs:List Â}{ns:List Int},ė vs ns->fo (ns.map V.int) vs
 |_,_,.nil=>.nil
 |_,_,.cons n t h=>.cons ⟨t,rfl⟩<|WB h
abbrev ID(H:Hp):Prop:=∀b,H b=dG\/∃o xs,H b=dF (.frz o<|.lst xs)
def DC{P:é}{w:Ā}{K:Frag}{mg mb:Str->Option Â}{CX:CXT}{k:Nat}{fa a:Ê}{fd:ļ}{x:Str}{sp:Sp}{ģ:Ä}{vs:List Â}{ns:List Int}
  (KX:K.In ģ.heap) (hns:ģ.heap.Ns Ą mg) (hb:ģ.heap.Ns builtinsNs mb) (hbb:∀x:Str,x≠"__name__"->mb x=ŕ x) (hlim:ģ.heap.NoLimit) (hg:ģ.gens=#[])
  (ha:ģ.heap.get? a=dF {cls:=.type "list",data:=.seq vs.toArray}) (hi:ė vs ns) (hl:ns.length<=Ü) (hr:eF k Ϧ)
  (F:∀base:ć,K.In base->base.Ns Ą mg->eK P w K mg base CX k fa fd [x] sp) (hbind:∀(s:Ä) (u:Â),BindsTo s fd ⟨[u],[]⟩ [(x,u)])
  (hsp:∀H:Hp,ID H->fk K H a (ns.map V.int)->sp [.ref a] H (λv _=>v=.bl dI) λ_ _ _=>False)
  (hCX:∀H e s',CX [] H ģ (λ_ _ _=>False) e s'->False) :
  codeAny (Þ P w) Ϧ (.call (.ref fa) ⟨[.ref a],[]⟩) (λr s'=>r=.ok (.ret<|.bool dI)/\OldK ģ.heap s'.heap/\s'.os=ģ.os/\ω s'.gens) ģ:=by
 have rv:=WB hi;have eX:=hi.length;have core:∀H:Hp,ID H->fk K H a (ns.map V.int)->HOk P w H ģ.heap->(∀b,H b≠dG->b=a)->(H a≠dG->K.lookup a=dG)->
   codeAny (Þ P w) Ϧ (.call (.ref fa) ⟨[.ref a],[]⟩) (λr s'=>r=.ok (.ret<|.bool dI)/\OldK ģ.heap s'.heap/\s'.os=ģ.os/\ω s'.gens) ģ:=by
  intro H hO hS hok hA hK;have cy:∀{b:Ê}{o:Obj},ģ.heap.get? b=dF o->H b=dG->(Ma ģ.heap H).get? b=dF o:=λe n=>CY e n;have noA:∀{b:Ê}{o:Obj}{es:Array DictEntry}{ep:Nat},ģ.heap.get? b=dF o->o.data=.dict es ep->H b=dG:=λ{b o es ep} e d=>by
   cases q:H b with
   |none=>rfl
   |some u =>have e':b=a:=hA b (by rw[q];simp);subst e';rw[ha]at e;cases e;have d':Data.seq vs.toArray _=Data.dict es ep:=d;cases d'
  have nsK:∀{b:Ê}{m:Str->Option Â},ģ.heap.Ns b m->(Ma ģ.heap H).Ns b m:=λ{b m} ⟨o,es,ep,e,d,r⟩=>⟨o,es,ep,cy e<|noA e d,d,r⟩
  have hKb:K.In<|Ma ģ.heap H:=λb o e=>cy (KX b o e) (by
    cases q:H b with
    |none=>rfl
    |some u =>
      have e':b=a:=hA b (by rw[q];simp)
      subst e'
      rw[hK<|by rw[q];simp]at e;cases e)
  have hM:Mod K mg<|Ma ģ.heap H:=⟨hKb,nsK hns,⟨mb,nsK hb,hbb⟩,let ⟨mc,h1,h2⟩:=hlim;⟨mc,nsK h1,h2⟩⟩
  have e0:Env0 P w K mg (Ma ģ.heap H) Ϧ [] ģ H:=⟨rfl,hM,λb o e=>Fc e,Nat.le_of_eq<|AW _ _,trivial,λb hb=>fI (show b∈([]:List Ê) from hb) (by simp),hok,.of_eq hg⟩
  refine ό ((F _ hKb<|nsK hns).run Ϧ [] ģ H ⟨[.ref a],[]⟩ [.ref a] [.ref a] _ _ hr e0 (hbind ģ<|.ref a) (.cons rfl .nil)<|hsp H hO hS) λr s' h=>?_;cases r with
  |error e=>exact(hCX H e s' h).elim
  |ok fl =>
   cases fl with
   |next=>exact č h
   |brk=>exact č h
   |cont=>exact č h
   |ret u =>
    let⟨v,H',os,bare,un,hok',r',q⟩:=h;have q':v=.bl dI:=q;subst q';obtain rfl:u=Value.bool dI:=r';refine⟨rfl,OldK.of_keep λb o e=>?_,os,bare⟩;cases q:H b with
    |none=>exact un.keep b o e q (by intro z;exact fI (show b∈([]:List Ê) from z)<|by simp) (by simp)
    |some u =>
     rcases hO b with z|⟨ob,xs,z⟩
     .rw[q]at z;cases z
     .have z2:=un.frzs b ob _ z;let⟨e1,_⟩:=hok b _ z;let⟨e2,_⟩:=hok' b _ z2;rw[e]at e1;cases e1;exact e2
 cases hk:K.lookup a with
 |some o =>have e:=KX a o hk;rw[ha]at e;cases e;refine core (λ_=>dG) (λ_=>.inl rfl) (.inr ⟨_,vs.toArray,_,hk,rfl,rfl,rfl,by rw[Ë,eX];exact hl,⇑rv⟩) (λb u z=>by have z':(dG:Option HO)=dF u:=z;cases z') (λb z=>fI rfl z) λz=>fI rfl z
 |none =>
  refine core (λb=>if b=a then dF (.frz {cls:=.type "list",data:=.seq vs.toArray}<|.lst<|ns.map V.int)else dG) (λb=>?_) (.inl<|.inr ⟨{cls:=.type "list",data:=.seq vs.toArray},fA rfl⟩) (λb u z=>?_) (λb z=>?_) λ_=>hk
  .by_cases hb:b=a
   .exact .inr ⟨_,_,fA hb⟩
   .exact .inl<|fB hb
  .by_cases hb:b=a
   .have z':=(fA hb).symm.trans z;cases z';subst hb;exact⟨ha,by rw[À];exact hl,vs,_,rv,ha⟩
   .have z':=(fB hb).symm.trans z;cases z'
  .by_cases hb:b=a
   .exact hb
   .exact fI (fB hb) z
abbrev YT(s:ğ):Arguments:=match s with
 |.FunctionDef _ a _ _ _ _ _ _ _ _=>a
 |_=>{posonlyargs:=[],args:=[],vararg:=dG,kwonlyargs:=[],kw_defaults:=[],kwarg:=dG,defaults:=[]}
abbrev ZV(s:ğ):List ğ:=match s with
 |.FunctionDef _ _ b _ _ _ _ _ _ _=>b
 |_=>[]
abbrev Zv(s:ğ):ů:=match s with
 |.FunctionDef _ _ _ _ _ _ sc _ _ _=>sc
 |_=>{kind:=.function,names:=[],isGenerator:=dJ,isCoroutine:=dJ}
structure Fun(K:Frag)(x qual:Str)(st:ğ)(f:Ê)(fd:ļ):Prop where
 ex:∃(oc:Â) (od:Option Ê) (kV doc pm:Â) (an:Option Ê) (ϒ ct:Â) (osl:Array<|Option Â),
  fd=PySem.W.fnOf x qual (YT st) (ZV st) (Zv st) .none kV doc pm an ϒ ct/\K.lookup f=dF ⟨oc,od,.func fd,osl⟩/\PySem.W.codeIn K ϒ qual=dI
 kp:PySem.W.keepIn K (.ref f)=dI
section
variable {P:é}{w:Ā}{K:Frag}{mg:Str->Option Â}{base:ć}
variable {x:Str} {qual:Str} {st:ğ} {f:Ê}
def Fun.binds{fd:ļ}{ps:List Str}(F:Fun K x qual st f fd)
  (h:∀(kV doc pm:Â) (an:Option Ê) (ϒ ct:Â) (us:List Â),us.length=ps.length->bindArgs (PySem.W.fnOf x qual (YT st) (ZV st) (Zv st) .none kV doc pm an ϒ ct) ⟨us,[]⟩=pure (ps.zip us)):Binds K fd ps []:=by
 let⟨oc,od,kV,doc,pm,an,ϒ,ct,osl,rfl,lk,aq⟩:=F.ex;exact .all<|h kV doc pm an ϒ ct
def C5{oc:Â}{od an:Option Ê}{osl:Array (Option Â)}{kV doc pm ϒ ct:Â}(l:K.lookup f=dF ⟨oc,od,.func<|PySem.W.fnOf x qual (YT st) (ZV st) (Zv st) .none kV doc pm an ϒ ct,osl⟩)
  (c:PySem.W.codeIn K ϒ qual=dI) (k:PySem.W.keepIn K (.ref f)=dI):Fun K x qual st f<|PySem.W.fnOf x qual (YT st) (ZV st) (Zv st) .none kV doc pm an ϒ ct:=⟨⟨oc,od,kV,doc,pm,an,ϒ,ct,osl,rfl,l,c⟩,k⟩
end
section
variable {X:Cx}
def pv(i:Nat){x:Str}{ç:Pos}(hN:X.N[i]?=dF x:=by rfl)(hv:Vis X.env.scope x:=by first|exact Or.inl rfl|exact Or.inr (Or.inl rfl)|exact Or.inr<|Or.inr rfl)(hd:(x==("__debug__" : Str))=dJ:=by decide)
  (aq:(x==("__classdict__" : Str))=dJ:=by decide):PE X (.Name x ç)<|QS i:=BK hN hv hd aq
end
abbrev Same(H H':Hp):Prop:=∀b o,H b=dF o->H' b=dF o
def Same.refl(H:Hp):Same H H:=λ_ _ h=>h
def Same.trans{H H1 H2:Hp}(a:Same H H1)(b:Same H1 H2):Same H H2:=λc o h=>b c o (a c o h)
end L2
set_option maxHeartbeats 4000000
namespace L2
open PySem PySem.Spec PyProof.Rows
variable {w:Ā}
def HOk.track{P:é}{H:Hp}{h:ć}{a:Ê}{o:HO}(x:HOk P w H h)(hn:H a=dG)(new:dW P w (upd H a o) h a o):HOk P w (upd H a o) h:=λb u e=>by
 by_cases hb:b=a
 .subst hb;rw[dM]at e;cases e;exact new
 .rw[dL hb]at e;exact(x b u e).stay (λc v _ q=>q) (λc q=>by rw[dL<|Zj q hn];exact q) λc xs q=>by rw[dL<|Zj q hn];exact q
abbrev Zu(X:Cx)(scope:ů)(N':List Str)(cl:List<|Str×Ê)(C:Ê)(s:Ä)(H:Hp)(ex:List Ê):Cx where
 prog:=X.prog
 w:=X.w
 K:=X.K
 mg:=X.mg
 base:=X.base
 A:=X.A
 N:=N'
 s₀:=s
 H₀:=H
 env:=compEnvC scope cl C X.env
 outer:=X.stack
 stack:=X.stack
 ex:=ex
 fn:=λ_=>dJ
 calm:=X.calm
 pn:=[]
 xe:=λ_ _=>False
abbrev Ye(X:Cx)(x:List Str)(ô:List Nat):List Str:=x++ô.map λj=>X.N.getD j Str.empty
abbrev OT(σ:St)(ô:List Nat):St:=ô.map λj=>(σ[j]?).getD dG
structure BlkOk(X:Cx)(scope:ů)(x:List Str)(ô:List Nat):Prop where
 kind:scope.kind=.function
 nocell:∀y∈scope.names,y.2≠.cell
 locs:∀y∈scope.names,y.2=.local->scope.names.lookup y.1=dF .local
 own:∀y∈x,scope.names.lookup y=dF .local
 frees:∀y∈scope.names,y.2=.free->X.env.kindOf y.1=dF .cell
 cap:∀j∈ô,(X.N[j]?).isSome=dI/\X.env.kindOf (X.N.getD j Str.empty)=dF .cell/\scope.names.lookup (X.N.getD j Str.empty)=dF .free
 nd:(Ye X x ô).Nodup
def YR{env:Env}:∀(names:List<|Str×Ο) (ħ:List<|Str×Ê),(∀y∈names,y.2=.free->∃c,env.cells.lookup y.1=dF c)->(∀x c,ħ.lookup x=dF c->env.cells.lookup x=dF c)->
  ∃cl,(forIn names ħ λ(p:Str×Ο) (r:List<|Str×Ê)=>(do
    if(p.2 == ġ)=dI then do let a<-cellOf env p.1;pure (Į<|(p.1,a)::r)else pure (Į r):Sem _))=pure cl/\
   (∀x c,cl.lookup x=dF c->env.cells.lookup x=dF c)/\(∀x c,ħ.lookup x=dF c->∃c',cl.lookup x=dF c')/\∀x,(x,ġ)∈names->∃c,cl.lookup x=dF c
 |[],ħ,_,ha=>⟨ħ,rfl,ha,λx c h=>⟨c,h⟩,λx h=>nomatch h⟩
 |(n,k)::r,ħ,hn,ha=>by
  by_cases hk:k=.free
  .subst hk;let⟨c,hc⟩:=hn (n,.free) ì rfl;have ha':∀x d,(((n,c)::ħ:List<|Str×Ê)).lookup x=dF d->env.cells.lookup x=dF d:=λx d h=>by
    rw[ð]at h;cases e:x==n with
    |true =>
     rw[e]at h;have:x=n:=⇑e
     subst this;cases h;exact hc
    |false=>rw[e]at h;exact ha x d h
   let⟨cl,h1,h2,h3,h4⟩:=YR r ((n,c)::ħ) (λy hy=>hn y<|à _ hy) ha';refine⟨cl,?_,h2,λx d h=>?_,λx hx=>?_⟩
   .rw[List.forIn_cons];have e:cellOf env n=pure c:=by unfold cellOf;rw[hc]
    simp only[beq_self_eq_true,if_true,e];exact h1
   .by_cases hx:x=n
    .subst hx;exact h3 x c (by rw[ð];simp)
    .exact h3 x d (by rw[ð,beq_false_of_ne hx];exact h)
   .rcases Æ.mp hx with e|hx
    .cases e;exact h3 _ c (by rw[ð];simp)
    .exact h4 x hx
  .have hb:(k==ġ)=dJ:=⇑hk
   let⟨cl,h1,h2,h3,h4⟩:=YR r ħ (λy hy=>hn y<|à _ hy) ha;refine⟨cl,?_,h2,h3,λx hx=>?_⟩
   .rw[List.forIn_cons];simp only[hb,Ċ,if_false];exact h1
   .rcases Æ.mp hx with e|hx
    .cases e;exact fI rfl hk
    .exact h4 x hx
def Z4{env:Env}:∀{names:List (Str×Ο)}{x:Str}{k:Ο},(names.map λ(n,k)=>if(k==ġ&&env.scope.kind == .function&&env.kindOf n==dF .cell)then(n,dy)else(n,k)).lookup x=dF k->
  (∃k0,(x,k0)∈names/\names.lookup x=dF k0/\(k0=k\/(k0=.free/\k=.cell)))
 |[],_,_,h=>by simp at h
 |(n,k0)::r,x,k,h=>by
  rw[Í,ð]at h;cases hx:x==n with
  |true =>
   have e:x=n:=⇑hx
   subst e;refine⟨k0,ì,by rw[ð];simp,?_⟩;by_cases hc:(k0==ġ&&env.scope.kind == .function&&env.kindOf x==dF .cell)=dI
   .rw[fA hc]at h;simp at h;have:k0=.free:=by
     simp only[bAq]at hc;simpa using hc.1.1
    exact .inr ⟨this,h.symm⟩
   .rw[fB hc]at h;simp at h;exact .inl h
  |false =>
   have h':(r.map λ(n,k)=>if(k==ġ&&env.scope.kind == .function&&env.kindOf n==dF .cell)then(n,dy)else(n,k)).lookup x=dF k:=by
    by_cases hc:(k0==ġ&&env.scope.kind == .function&&env.kindOf n==dF .cell)=dI
    .rw[fA hc]at h;simpa[hx]using h
    .rw[fB hc]at h;simpa[hx]using h
   let⟨k1,a,b,c⟩:=Z4 h';exact⟨k1,à _ a,by rw[ð,hx];exact b,c⟩
abbrev PIfs(X:Cx)(aJ:List Expr)(t:TT):Prop :=
 ∀(Á:List<|Ê×Obj) (s:Ä) (σ:St) (H:Hp) (Q:Bool->Hp->Prop),Inv X Á σ H s->t σ H Q->
  wpAny (Þ X.prog X.w) X.A (forIn aJ dI λc r=>if r=dI then do let ok<-bH c X.env (eval c X.env);pure (Į ok)else pure (Į r)) (TP X Á σ Q) X.xe s
abbrev RG:TT:=λ_ H Q=>Q dI H
variable {X:Cx}
def pifs_nil:PIfs X [] RG:=λ_ _ _ H _ I h=>wpAny_tests_nil ⟨H,I,h⟩
def Wn{c:Expr}{t:TT}(h:PT X c t):PIfs X [c] t:=λÁ s σ H Q I hq=>wpAny_tests_one (h Á s σ H Q I hq)
abbrev GM(J:It)(tg:TG)(tc:TT)(te:TE)(Fin:List V->Hp->Prop)(W:Nat->Nat->List V->St->Hp->Prop):Prop :=
 ∀i m ys τ H,W i m ys τ H->ys.length<Ü/\((J.stop i H/\Fin ys H)\/(J.go i H/\∃N:List V->St->Hp->Prop,(∀ys' τ' H',N ys' τ' H'->∃m',m'<m/\W (i+1) m' ys' τ' H')/\∀x H',J.yld i H x H'->
   tg x τ H' λτ' H1=>tc τ' H1 λb H2=>if b=dI then te τ' H2 λy H3=>N (ys++[y]) τ' H3 else N ys τ' H2))
abbrev Dr(wi:TI)(k:Nat)(ô:List Nat)(tg:TG)(tc:TT)(te:TE):TE:=λσ H Q=>wi σ H λJ H1=>∃W:Nat->Nat->List V->St->Hp->Prop,(∃m,W 0 m [] (Ú k dG++OT σ ô) H1)/\
 GM J tg tc te (λys H=>∀p,H p=dG->Q (.ref p) (upd H p<|.lst ys)) W
section
variable {X:Cx}{Á:List (Ê×Obj)}{σ:St}{H2:Hp}{s2:Ä}
variable {scope:ů} {x:List Str} {ô:List Nat} {cl:List (Str×Ê)} {fp:List Ê}
def AM{s3:Ä}{D:Ê}{h1:ć}{tk:Nat}{m:Str->Option Â}(B:BlkOk X scope x ô)(I2:Inv X Á σ H2 s2)(f2:∀b∈fp,Wv X Á H2 b)
  (c1:∀x c,cl.lookup x=dF c->X.env.cells.lookup x=dF c) (c2:∀x,(x,ġ)∈scope.names->∃c,cl.lookup x=dF c)
  (I3:Inv X Á σ H2 s3) (hD:D=s2.heap.objs.size) (h3:s3.heap.objs.size=D+1) (χ:∀b o,s3.heap.get? b=dF o->h1.get? b=dF o) (hfp:∀b∈fp,b<s2.heap.objs.size)
  (hn:h1.Ns s3.heap.objs.size m) :
  Inv (Zu X scope (Ye X x ô) cl s3.heap.objs.size s3 H2<|D::fp) [] (Ú x.length dG++OT σ ô) H2 {s3 with heap:=h1,toks:=tk}:=by
 have neD:∀b o,s2.heap.get? b=dF o->b≠D:=λb o e=>by rw[hD];exact ë<|Ù e
 have exlt:∀b∈D::fp,b<s3.heap.objs.size:=λb hb=>by
  rw[h3];rcases Æ.mp hb with e|hb
  .rw[e];exact ă _
  .exact Ĺ (by rw[hD];exact hfp b hb)
 have keeps:=I3.hok.kept (h':=h1) χ;refine⟨⟨I2.mod,B.kind,I2.ok.glob,I2.ok.blt,Ì _,λy z c e1 e2=>?_,λy hy=>?_,λy c e _=>(by cases e),λhc=>I2.ok.hd hc,I2.ok.frames,.inl rfl,λb hb=>?_,λb o e=>?_,?_,λb o e hb=>?_,λb hb hf=>?_,I3.stack,λb hb=>I2.stkFree b hb⟩,
   rfl,I3.bare,Un.kept χ,⟨m,hn,λi y v e1 e2 e3=>?_⟩,λy c e=>?_,I3.hok.fresh<|Ì _,λy c e=>I3.freeC y c<|c1 y c e,λp hp=>(nomatch hp),keeps,?_⟩
 .exact I2.ok.inj y z c (c1 y c e1)<|c1 z c e2
 .have hy:(bB scope X.env).names.lookup y=dF .cell\/(bB scope X.env).names.lookup y=dF .free:=hy;rcases hy with hy|hy
  .obtain⟨k0,a,b,c⟩:=Z4 hy;rcases c with c|⟨c,_⟩
   .subst c;exact fI rfl<|B.nocell _ a
   .subst c;exact c2 y a
  .obtain⟨k0,a,b,c⟩:=Z4 hy;rcases c with c|⟨_,c⟩
   .subst c;exact c2 y a
   .cases c
 .refine⟨ë<|exlt b hb,λy c e z=>?_⟩;have e':=c1 y c e;rcases Æ.mp hb with q|q
  .obtain⟨v,o,ho,_⟩:=I2.cell y c e';exact neD c o ho<|z.trans q
  .exact(f2 b q).2.2.2.2.1 y c e' z
 .exact I3.bs b o e
 .exact Ô I2.ok.bsz (Ô I2.sz<|show s2.heap.objs.size<=s3.heap.objs.size by rw[h3,hD];exact ř _)
 .rcases Æ.mp hb with q|q
  .exact neD b o (I2.bk b o e) q
  .rcases (f2 b q).2.2.2.1 with z|z
   .exact I2.ok.noex b o e z
   .exact fI (è (Ù (I2.ok.bs b o e).1) z)<|ą _
 .have hf:b∈frs X.stack:=hf;rcases Æ.mp (I2.stkSub b hf)with z|z
  .rcases Æ.mp hb with q|q
   .exact fI I2.lt (by rw[<-z,q,hD];exact ą _)
   .exact(f2 b q).2.1 z
  .rcases Æ.mp hb with q|q
   .exact I2.nofs (a:=b) (by rw[q,hD];exact Ì _) z
   .exact(f2 b q).2.2.1 z
 .by_cases hik:i<x.length
  .rw[ü (by rw[ñ];exact hik),ŀ,fA hik]at e2;cases e2
  .have e1:(x++ô.map λj=>X.N.getD j Str.empty)[i]?=dF y:=e1;rw[Ă<|by lia]at e1;rw[Ă (by rw[ñ];lia),ñ]at e2;generalize i - x.length=j at e1 e2;have e2:(ô.map λj=>(σ[j]?).getD dG)[j]?=dF (dF v):=e2;rw[Ó]at e1 e2;cases hj:ô[j]? with
   |none=>rw[hj]at e1;cases e1
   |some q =>
    rw[hj]at e1 e2;have e1':X.N.getD q Str.empty=y:=í e1;have e2':(σ[q]?).getD dG=dF v:=í e2;let⟨hs,hk,hsc⟩:=B.cap q<|á hj;let⟨y',hy'⟩:=ò.mp hs;have ey:y'=y:=by rw[<-e1',ċ,hy'];rfl
    subst ey;have es:σ[q]?=dF (dF v):=by
     cases hq:σ[q]? with
     |none=>rw[hq]at e2';cases e2'
     |some o=>rw[hq]at e2';exact congrArg dF e2'
    rw[e1']at hk hsc;let⟨m2,_,hl⟩:=I3.loc;have bg:X.env.scope.names.lookup y'=dF .cell:=hk;let⟨u,r,l⟩:=hl q y' v hy' es<|.inr<|.inl bg;refine⟨u,r,.inr ⟨?_,?_⟩⟩
    .rcases e3 with e3|e3|e3
     .obtain⟨k0,a,b,c⟩:=Z4 (show(bB scope X.env).names.lookup y'=dF .local from e3);rw[hsc]at b;cases b;rcases c with c|⟨_,c⟩<;>cases c
     .exact .inl e3
     .exact .inr e3
    .rcases l with⟨l,_⟩|⟨_,c,hc,z⟩
     .rw[hk]at l;cases l
     .obtain⟨c',hc'⟩:=c2 y'<|PySem.mem_of_lookup hsc;have ec:c'=c:=í<|(c1 y' c' hc').symm.trans hc;subst ec;let⟨o,ho,hd⟩:=z;exact⟨c',hc',o,χ c' o ho,hd⟩
 .obtain⟨v,o,ho,hd⟩:=I3.cell y c<|c1 y c e;exact⟨v,o,χ c o ho,hd⟩
 .show _=(Ye X x ô).length;unfold Ye OT;rw[Ö,Ö,À,À,ñ]
def XJ{env:Env}(h:∀y∈scope.names,y.2=.free->∃c,env.cells.lookup y.1=dF c) :
  ∃cl,closureFor scope env=pure cl/\(∀x c,cl.lookup x=dF c->env.cells.lookup x=dF c)/\∀x,(x,ġ)∈scope.names->∃c,cl.lookup x=dF c:=by
 let⟨cl,h1,h2,_,h4⟩:=YR (env:=env) scope.names [] h λx c e=>nomatch e;refine⟨cl,?_,h2,h4⟩;simp only[closureFor];have e:(forIn scope.names ([]:List<|Str×Ê) λx r =>
     (match x with
     | (name,kind)=>if(kind == ġ)=dI then do let a<-cellOf env name;pure (Į<|(name,a)::r)else pure (Į r):Sem<|ForInStep<|List<|Str×Ê))=pure cl:=h1
 first
  |(rw[e];rfl)
  |(refine Eq.trans (congrArg (· >>= pure) ?_) (rfl:(pure cl >>= pure:Sem _)=pure cl);exact e)
variable {bh:Expr} {ś:Expr} {aJ:List Expr} {ç:Pos}
def NA{prog:é}{A:ď}{R:dh->Ä->Prop}{s:Ä}{Ϥ:Expr}{it ħ:Â}{env:Env}(I:Nat->Ä->Prop)
  (turn:∀n s,I n s->wpAny (Þ prog w) A (ϵ it) (λr ģ=>match r with
    |none=>R (.ok .next) ģ
    | some v=>wpAny (Þ prog w) A (ϓ Ϥ it v) (λ_ ģ=>wpAny (Þ prog w) A (Ų Ϥ env v) (λ_ bw =>
        wpAny (Þ prog w) A (forIn aJ dI λc r=>if r=dI then do let ok<-bH c env (eval c env);pure (Į ok)else pure (Į r)) (λok aj =>
          if ok=dI then wpAny (Þ prog w) A (eval bh env) (λx s₄ =>
            wpAny (Þ prog w) A (call (.builtin "list.append") [ħ,x]) (λ_ s₅=>∃m,m<n/\I m s₅) (λ_ _=>False) s₄) (λ_ _=>False) aj
          else ∃m,m<n/\I m aj) (λ_ _=>False) bw) (λ_ _=>False) ģ) (λ_ _=>False) ģ) (λ_ _=>False) s)
  (n:Nat) (h:I n s) :
  codeAny (Þ prog w) A (.compLoop (.ListComp bh [⟨Ϥ,ś,aJ,0⟩] scope ç) 0 it ħ env) R s:=by
 refine codeAny_loop rfl I (λn s hI=>?_) n h;show wpAny _ A ((compTurn (.ListComp bh [⟨Ϥ,ś,aJ,0⟩] scope ç) 0 it ħ env).onRaise λx=>do aQ x env;theTreesLotGoes x) _ _ s;refine wpAny_noted ?_;rw[compTurn_list];refine Ã<|cB<|Ã<|Ġ (turn n s hI) (λr ģ aU=>?_) λ_ _ h'=>h'.elim;cases r with
 |none=>exact Õ aU
 |some v =>
  refine Ã<|Ġ aU (λ_ ģ aU=>?_) λ_ _ h'=>h'.elim;refine Ã<|Ġ aU (λ_ bw h₂=>Ã<|Ġ h₂ (λok aj h₃=>?_) λ_ _ h'=>h'.elim) λ_ _ h'=>h'.elim;cases ok with
  |false=>exact Õ ⟨rfl,h₃⟩
  |true =>exact Ã<|Ã<|Ġ h₃ (λx s₄ h₄=>Ã<|Ġ h₄ (λ_ s₅ h₅=>Õ<|Õ ⟨rfl,h₅⟩) λ_ _ h'=>h'.elim) λ_ _ h'=>h'.elim
variable {aV:Expr} {tg:TG} {tc:TT} {te:TE}
def K4{it:Ê}{tn:Nat->ć->Prop}{J:It}{Fin:List V->Hp->Prop}{W:Nat->Nat->List V->St->Hp->Prop}{E:Â->Ä->Prop}
  {RR:Â->Ê->dh->Ä->Prop}{m0:Nat}(hc:X.calm=dI) (B:BlkOk X scope x ô) (I2:Inv X Á σ H2 s2) (T:Turn X.prog X.w X.K aV J fp it tn) (st2:tn 0 s2.heap) (f2:∀b∈fp,Wv X Á H2 b)
  (c1:∀x c,cl.lookup x=dF c->X.env.cells.lookup x=dF c) (c2:∀x,(x,ġ)∈scope.names->∃c,cl.lookup x=dF c)
  (hI:∀cl C s H ex,PIfs (Zu X scope (Ye X x ô) cl C s H ex) aJ tc) (hE:∀cl C s H ex,PE (Zu X scope (Ye X x ô) cl C s H ex) bh te)
  (hG:∀cl C s H ex,PG (Zu X scope (Ye X x ô) cl C s H ex) aV tg) (w0:W 0 m0 [] (Ú x.length dG++OT σ ô) H2) (cw:GM J tg tc te Fin W)
  (hRR:∀D C s' H' ys m,H' D=dG->s'.heap.Ns C m->Wv X Á (upd H' D<|.lst ys) C->Inv X Á σ (upd H' D<|.lst ys) s'->Fin ys H'->RR (.ref D) C (.ok .next) s') :
  wpAny (Þ X.prog X.w) X.A (newList []) (λħ aj=>wpAny (Þ X.prog X.w) X.A (newFunctionEnv scope X.env.globals cl [] X.env.qual dG .none<|dF X.env) (λcenv s₄ =>
    codeAny (Þ X.prog X.w) X.A (.compStart (.ListComp bh [⟨aV,ś,aJ,0⟩] scope ç) 0 (.ref it) ħ { cenv with scope:=bB scope X.env }) (RR ħ cenv.locals) s₄) E aj) E s2:=by
 refine ľ (wpAny_newFunctionEnv B.nocell (by intro y hy;simp at hy) (λaU bZ b8=>?_) B.kind);dsimp only at bZ b8 ⊢;have hfp:∀b∈fp,b<s2.heap.objs.size:=λb hb=>by let⟨o,e,_⟩:=T.obj _ _ st2 b hb;exact Ù e
 have I3:Inv X Á σ H2 {s2 with heap:=s2.heap.push {cls:=.type "list",dict:=dG,data:=.seq ([]:List Â).toArray}}:=I2.kept (t':=s2.toks) λb o e=>Å _ e;have h3:(s2.heap.push {cls:=.type "list",dict:=dG,data:=.seq ([]:List Â).toArray}).objs.size=s2.heap.objs.size+1:=Ŏ ..;have cK:(s2.heap.push {cls:=.type "list",dict:=dG,data:=.seq ([]:List Â).toArray}).get? s2.heap.objs.size=dF {cls:=.type "list",dict:=dG,data:=.seq ([]:List Â).toArray}:=Ý _ rfl;have b9:∀b o,s2.heap.get? b=dF o->(s2.heap.push {cls:=.type "list",dict:=dG,data:=.seq ([]:List Â).toArray}).get? b=dF o:=λb o e=>Å _ e;generalize hH3:s2.heap.push {cls:=.type "list",dict:=dG,data:=.seq ([]:List Â).toArray}=h3' at bZ b8 I3 h3 cK b9 ⊢;have χ:∀b o,h3'.get? b=dF o->aU.get? b=dF o:=λb o e=>b8.extBut b o (ë<|Ù e)<|Å _ e;have hDC:s2.heap.objs.size≠h3'.objs.size:=by rw[h3];exact ë<|ă _
 have IB:=AM (cl:=cl) (fp:=fp) (s3:={s2 with heap:=h3'}) (D:=s2.heap.objs.size) (h1:=aU) (tk:=s2.toks+([]:List<|Str×Â).length) B I2 f2 c1 c2 I3 rfl h3 χ hfp bZ;generalize hY:Zu X scope (Ye X x ô) cl h3'.objs.size {s2 with heap:=h3'} H2 (s2.heap.objs.size::fp)=Y at IB;have yP:Y.prog=X.prog:=by rw[<-hY];rfl
 have yw:Y.w=X.w:=by rw[<-hY];rfl
 have yK:Y.K=X.K:=by rw[<-hY];rfl
 have yA:Y.A=X.A:=by rw[<-hY];rfl
 have yc:Y.calm=dI:=by rw[<-hY];exact hc
 have yenv:Y.env=compEnvC scope cl h3'.objs.size X.env:=by rw[<-hY];rfl
 have hIY:PIfs Y aJ tc:=by rw[<-hY];exact hI _ _ _ _ _
 have hEY:PE Y bh te:=by rw[<-hY];exact hE _ _ _ _ _
 have yxe:Y.xe=λ_ _=>False:=by rw[<-hY];rfl
 have ypn:Y.pn=[]:=by rw[<-hY];rfl
 have hgN:PG Y aV tg:=by rw[<-hY];exact hG _ _ _ _ _
 have fD:∀{H':Hp},H' s2.heap.objs.size=dG->Wv Y [] H' s2.heap.objs.size:=λ{H'} hn=>by
  refine⟨hn,?_,?_,?_,?_,λp hp=>?_⟩
  .rw[yenv];exact hDC
  .exact IB.ok.exfs _ (by rw[<-hY];exact ì)
  .exact .inl (by rw[<-hY];exact ì)
  .exact λy c e=>(IB.ok.exf _<|by rw[<-hY];exact ì).2 y c e
  .rw[ypn]at hp;exact nomatch hp
 have fF:∀{H':Hp},(∀b∈fp,H' b=dG)->∀b∈fp,Wv Y [] H' b:=λ{H'} hn b hb=>by
  have hm:b∈Y.ex:=by rw[<-hY];exact à _ hb
  refine⟨hn b hb,?_,IB.ok.exfs b hm,.inl hm,λy c e=>(IB.ok.exf b hm).2 y c e,λp hp=>?_⟩
  .exact(IB.ok.exf b hm).1
  .rw[ypn]at hp;exact nomatch hp
 have acc0:aU.PlainList s2.heap.objs.size ([]:List Â).toArray:=⟨0,by exact χ _ _ cK⟩
 have loop:∀aj:Ä,aj={s2 with heap:=aU,toks:=s2.toks+([]:List<|Str×Â).length}->
   codeAny (Þ X.prog X.w) X.A (.compLoop (.ListComp bh [⟨aV,ś,aJ,0⟩] scope ç) 0 (.ref it) (.ref s2.heap.objs.size)<|compEnvC scope cl h3'.objs.size X.env) (RR (.ref s2.heap.objs.size) h3'.objs.size) aj:=by
  rintro aj rfl;refine NA (λn s'=>∃i ys î τ H',Inv Y [] τ H' s'/\tn i s'.heap/\(∀b∈fp,H' b=dG)/\H' s2.heap.objs.size=dG/\fo ys î/\s'.heap.PlainList s2.heap.objs.size î.toArray/\W i n ys τ H') ?_ m0
   ⟨0,[],[],_,H2,IB,T.keep _ _ _ st2 λb hb o e=>χ _ _<|b9 _ _ e,λb hb=>(f2 b hb).1,I2.fresh,.nil,acc0,w0⟩
  rintro n s3 ⟨i,ys,î,τ,H3,I3',st3,fr3,frD,rv,pl,w3⟩;have cv:∀{α:Type}{f:Sem α}{Q Q':α->Ä->Prop}{s:Ä},wpAny (Þ Y.prog Y.w) Y.A f Q Y.xe s->(∀a s',Q a s'->Q' a s')->wpAny (Þ X.prog X.w) X.A f Q' (λ_ _=>False) s:=λ{α f Q Q' s} h hq=>by rw[yP,yw,yA,yxe]at h;exact Ġ h hq λ_ _ e=>e
  have cvX:∀{α:Type}{f:Sem α}{Q Q':α->Ä->Prop}{s:Ä},wpAny (Þ X.prog X.w) Y.A f Q (λ_ _=>False) s->(∀a s',Q a s'->Q' a s')->wpAny (Þ X.prog X.w) X.A f Q' (λ_ _=>False) s:=λ{α f Q Q' s} h hq=>by rw[yA]at h;exact Ġ h hq λ_ _ e=>e
  let⟨nD,hD3⟩:=id pl;have plD:∀b∈[s2.heap.objs.size],∃o,s3.heap.get? b=dF o/\∀v,o.data≠.cell v:=λb hb=>by
   have e:b=s2.heap.objs.size:=⇑hb
   subst e;exact⟨_,hD3,λv z=>by cases z⟩
  have IP:=I3'.pinned (fp:=[s2.heap.objs.size]) (λb hb=>by
    have e:b=s2.heap.objs.size:=⇑hb
    subst e
    exact fD frD) plD
  have memD:=Z2 (fp:=[s2.heap.objs.size]) (Ø.mpr rfl) hD3;have fF':∀b∈fp,Wv Y ([]++XO [s2.heap.objs.size] s3.heap) H3 b:=λb hb=>by
   let⟨q1,q2,q3,q4,q5,q6⟩:=fF fr3 b hb;refine⟨q1,q2,q3,q4,q5,λp hp=>?_⟩;rw[ypn]at hp;let⟨cb,_⟩:=KI (show p∈XO [s2.heap.objs.size] s3.heap by simpa using hp);have e:p.1=s2.heap.objs.size:=⇑cb
   rw[e];exact(ë<|hfp b hb).symm
  obtain⟨hys,h|⟨go,N,hN,step⟩⟩:=cw i n ys τ H3 w3
  .obtain⟨stop,fin⟩:=h;refine cvX (T.done Y yP yw yK yc i _ s3 _ H3 _ IP fF' st3 stop) λr s4 ⟨hr,I4⟩=>?_;subst hr;let⟨m4,hm4,_⟩:=I4.loc;rw[yenv]at hm4;have ak:Un (frs X.stack) (s2.heap.objs.size::fp) H2 H3 h3' s4.heap:=by
    have:=I4.base;rw[<-hY]at this;exact this
   have hok4:HOk X.prog X.w H3 s4.heap:=by have:=I4.hok;rw[yP,yw]at this;exact this
   have pl4:=(I4.pin _<|È _<|È _ memD).1;have nC:H3 h3'.objs.size=dG:=by have:=I4.free;rw[yenv]at this;exact this
   have hlen:ys.length<=Ü:=ş hys;have osEq:s4.os=s2.os:=by have:=I4.os;rw[<-hY]at this;exact this
   have neD:∀b o,s2.heap.get? b=dF o->b≠s2.heap.objs.size:=λb o e=>ë<|Ù e;have nin:∀b o,s2.heap.get? b=dF o->b∉fp->b∉s2.heap.objs.size::fp:=λb o e hb z=>(Æ.mp z).elim (neD b o e) hb;have hokN:HOk X.prog X.w (upd H3 s2.heap.objs.size<|.lst ys) s4.heap:=hok4.track frD ⟨hlen,î,nD,rv,pl4⟩;have U:Un (frs X.stack) fp H2 (upd H3 s2.heap.objs.size<|.lst ys) s2.heap s4.heap:=by
    refine⟨λb o e hn hf hx=>ak.keep b o (b9 b o e) hn hf<|nin b o e hx,λb o e hn hf hx=>ak.slot b o (b9 b o e) hn hf<|nin b o e hx,λb o e hn hx=>?_,λb o e hx=>ak.there b o (b9 b o e)<|nin b o e hx,λb xs e=>?_,λb o xs e=>?_,λb ps e=>?_⟩
    .rw[dL<|neD b o e];exact ak.free b o (b9 b o e) hn<|nin b o e hx
    .have q:=ak.tups b xs e;rw[dL<|Zj q frD];exact q
    .have q:=ak.frzs b o xs e;rw[dL<|Zj q frD];exact q
    .obtain⟨more,q⟩:=ak.tbls b ps e;exact⟨more,by rw[dL<|Zj q frD];exact q⟩
   have I5:Inv X Á σ (upd H3 s2.heap.objs.size<|.lst ys) s4:=I2.call' (ch:=fp) osEq U hokN I4.bare λb hb=>by let⟨_,q2,_,q4,q5,q6⟩:=f2 b hb;exact⟨q4,q2,q5,q6⟩
   exact hRR _ _ _ _ _ m4 frD hm4 (I2.fpOk (ş<|by rw[h3];exact ă _)<|by rw[dL hDC.symm];exact nC) I5 fin
  .refine cvX (T.item Y yP yw yK yc i _ s3 _ H3 _ IP fF' st3 go) λr s4 ⟨u,hr,h4⟩=>?_;subst hr;refine cvX h4 λ_ s5 ⟨y,H5,I5,r5,y5,st5,fr5⟩=>?_;have frD5:H5 s2.heap.objs.size=dG:=(I5.pin _<|È _<|È _ memD).2.1;have hD5:=(I5.pin _<|È _<|È _ memD).1;have I5p:=I5.unpinned.pinned (fp:=s2.heap.objs.size::fp) (λb hb=>by
     rcases Æ.mp hb with e|hb
     . subst e;exact fD frD5
     . exact fF fr5 b hb) (λb hb=>by
     rcases Æ.mp hb with e|hb
     . subst e;exact⟨_,hD5,λv z=>by cases z⟩
     . exact T.obj _ _ st5 b hb)
   have memD5:=Z2 (fp:=s2.heap.objs.size::fp) ì hD5;rw[<-yenv];refine cv (hgN _ s5 _ H5 y u _ I5p r5<|step y H5 y5) λ_ s6 ⟨σ6,H6,I6,q6⟩=>?_;have Λ:∀{m':Nat}{aT:St}{H7:Hp}{s7:Ä}{ys':List V}{its':List Â},Inv Y [] aT H7 s7->tn (i+1) s7.heap->(∀b∈fp,H7 b=dG)->H7 s2.heap.objs.size=dG->fo ys' its'->s7.heap.PlainList s2.heap.objs.size its'.toArray->m'<n/\W (i+1) m' ys' aT H7->
     ∃m,m<n/\∃i ys î τ H',Inv Y [] τ H' s7/\tn i s7.heap/\(∀b∈fp,H' b=dG)/\H' s2.heap.objs.size=dG/\fo ys î/\s7.heap.PlainList s2.heap.objs.size î.toArray/\W i m ys τ H' :=
    λ{m' aT H7 s7 ys' its'} J1 st7 fr7 fd7 rv7 pl7 wm=>⟨m',wm.1,i+1,ys',its',aT,H7,J1,st7,fr7,fd7,rv7,pl7,wm.2⟩
   have stay:∀{aT:St}{H7:Hp}{s7:Ä},Inv Y ([]++XO (s2.heap.objs.size::fp) s5.heap) aT H7 s7->tn (i+1) s7.heap/\(∀b∈fp,H7 b=dG)/\H7 s2.heap.objs.size=dG/\s7.heap.get? s2.heap.objs.size=dF {cls:=.type "list",data:=.seq î.toArray nD}:=by intro aT H7 s7 J1;refine⟨T.keep _ _ _ st5 λb hb o e=>(J1.pin (b,o)<|È _<|È _<|Z2 (à _ hb) e).1,λb hb=>?_,(J1.pin _<|È _<|È _ memD5).2.1,(J1.pin _<|È _<|È _ memD5).1⟩;let⟨o,e,d⟩:=T.obj _ _ st5 b hb;exact(J1.pin (b,o)<|È _<|È _<|Z2 (à _ hb) e).2.1
   refine cv (hIY _ s6 _ H6 _ I6 q6) λok s7 ⟨H7,I7,q7⟩=>?_;cases ok with
   |false =>rw[fB<|by decide]at q7;rw[fB<|by decide];let⟨m',wm⟩:=hN _ _ _ q7;let⟨a1,a2,a3,a4⟩:=stay I7;exact Λ I7.unpinned a1 a2 a3 rv ⟨nD,a4⟩ wm
   |true =>
    rw[fA rfl]at q7;rw[fA rfl];refine cv (hEY _ s7 _ H7 _ I7 q7) λz s8 ⟨vz,H8,I8,rz,wm⟩=>?_;let⟨m',wm⟩:=hN _ _ _ wm;let⟨a1,a2,a3,a4⟩:=stay I8;have hlen:=rv.length;refine wpAny_list_append_plain (hsz:=by rw[Ë];lia) (⟨nD,a4⟩:s8.heap.PlainList _ î.toArray) λh9 hl9 hs9=>?_;let⟨q1,q2,q3,q4,q5,q6⟩:=fD a3;have I9:Inv Y [] _ H8 {s8 with heap:=h9}:=I8.unpinned.turned (t':=s8.toks) (λb o hb e=>hs9.extBut b o hb e) q1 q2 q4 q5 q6;refine Λ I9 (T.keep _ _ _ a1 λb hb o e=>hs9.extBut b o (ë<|hfp b hb) e) a2 a3 (its':=î++[z]) (rv.append<|.cons rz .nil) ?_ wm;have e:î.toArray.push z=(î++[z]).toArray:=by simp
    rw[e]at hl9;exact hl9
 exact codeAny_compStart_list (loop _ rfl)<|T.self _ 0 _ _ _ (T.keep _ _ _ st2 λb hb o e=>χ _ _<|b9 _ _ e)<|loop _ rfl
variable {wi:TI}
def Bx(hc:X.calm=dI)(B:BlkOk X scope x ô)(hi:PI X aV ś wi)(hG:∀cl C s H ex,PG (Zu X scope (Ye X x ô) cl C s H ex) aV tg)
  (hI:∀cl C s H ex,PIfs (Zu X scope (Ye X x ô) cl C s H ex) aJ tc) (hE:∀cl C s H ex,PE (Zu X scope (Ye X x ô) cl C s H ex) bh te)
  (hs:∀x,Ē ś X.env x=pure x:=by intro _;rfl):PE X (.ListComp bh [⟨aV,ś,aJ,0⟩] scope ç)<|Dr wi x.length ô tg tc te:=by
 intro Á s σ H Q I h;let⟨cl,ϰ,c1,c2⟩:=XJ (scope:=scope) (env:=X.env) λy hy e=>I.ok.has y.1<|.inl<|B.frees y hy e;rw[eval_ListComp];refine cE (use:=dG) rfl hs ϰ B.kind B.locs<|thn (hi Á s σ H _ I h) λv s1 h1=>thn h1 λitv s2 h2=>?_;let⟨it,fp,tn,J,H2,e,I2,T,st2,f2,W,⟨m0,w0⟩,cw⟩:=h2;subst e;refine K4 (RR:=λħ C=>compPost (Þ X.prog X.w) X.A X.xe dG (EP X Á σ Q) ħ C) hc B I2 T st2 f2 c1 c2 hI hE hG w0 cw ?_;intro D C s' H' ys m hD hn fC I' fin;let⟨q1,q2,q3,q4,q5,q6⟩:=fC;exact⟨m,hn,λh' hs'=>⟨.ref D,_,I'.turned (t':=s'.toks) (λb o hb e=>hs'.extBut b o hb e) q1 q2 q4 q5 q6,rfl,fin D hD⟩⟩
def BR{y:Str}{py:Pos}{i:Nat}{Τ:Pos}(hN:X.N.Nodup)(hi':X.N[i]?=dF y)(hy:Loc X.env.scope y)(hc:X.calm=dI)(B:BlkOk X scope x ô)(hi:PI X aV ś wi)(hG:∀cl C s H ex,PG (Zu X scope (Ye X x ô) cl C s H ex) aV tg)
  (hI:∀cl C s H ex,PIfs (Zu X scope (Ye X x ô) cl C s H ex) aJ tc) (hE:∀cl C s H ex,PE (Zu X scope (Ye X x ô) cl C s H ex) bh te)
  (hs:∀x,Ē ś X.env x=pure x:=by intro _;rfl)
  (hsw:ō (.ListComp bh [⟨aV,ś,aJ,0⟩] scope ç) (dF<|.Name y py) Τ.line X.env=pure dI:=by rfl)
  (hf:X.fn y=dI\/X.env.scope.names.lookup y=dF .local:=by first|exact .inl rfl|exact .inr rfl|assumption) :
  PS X (.Assign [.Name y py] (.ListComp bh [⟨aV,ś,aJ,0⟩] scope ç) Τ) (QD (Dr wi x.length ô tg tc te)<|GA i):=by
 intro Á s σ H D I h;let⟨cl,ϰ,c1,c2⟩:=XJ (scope:=scope) (env:=X.env) λy hy e=>I.ok.has y.1<|.inl<|B.frees y hy e;rw[exec_Assign_Name_used _ _ _ _ hsw];refine Ã<|cB<|Ã ?_;show wpAny _ X.A (do let _<-comprehension (.ListComp bh [⟨aV,ś,aJ,0⟩] scope ç) scope X.env _ (newList []) dJ (eval ś X.env) (dF<|Ų (.Name y py) X.env)) _ _ s;refine Ã (Ġ (cE (use:=dF<|Ų (.Name y py) X.env) (Q:=λ_ s'=>SP X Á D .next s') rfl hs ϰ B.kind B.locs
   (thn (hi Á s σ H _ I h) λv s1 h1=>thn h1 λitv s2 h2=>?_)) (λ_ s' hq=>Õ<|Õ hq) λ_ _ e=>e)
 let⟨it,fp,tn,J,H2,e,I2,T,st2,f2,W,⟨m0,w0⟩,cw⟩:=h2;subst e;refine K4 (RR:=λħ C=>compPost (Þ X.prog X.w) X.A X.xe (dF<|Ų (.Name y py) X.env) (λ_ s'=>SP X Á D .next s') ħ C) hc B I2 T st2 f2 c1 c2 hI hE hG w0 cw ?_;intro Dd C s' H' ys m hD hn fC I' fin;let⟨q1,q2,q3,q4,q5,q6⟩:=fC;show wpAny _ _ (Ų (.Name y py) X.env<|.ref Dd) _ _ _;refine wpAny_assign_Name<|KJ I' hN hi' hy (v:=.ref Dd) rfl (λs2 I2 ⟨a,hs2,ha⟩=>?_) hf;have ne:C≠a:=by
  rcases ha with z|z
  .rw[z];exact q2
  .exact(q5 y a z).symm
 refine⟨m,hn.sameBut hs2 ne,λh' hs'=>?_⟩;exact⟨_,_,I2.turned (t':=s2.toks) (λb o hb e=>hs'.extBut b o hb e) q1 q2 q4 q5 q6,fin Dd hD⟩
end
mutual
inductive IsD (K:Frag) (H:Hp):V->Ϡ->Prop
 |non:IsD K H .non .none
 |bl (b:Bool):IsD K H (.bl b)<|.bool b
 |int (i:Int):IsD K H (.int i)<|.int i
 |str (x:Str):IsD K H (.str x)<|.str x
 |lst {a:Ê}{xs:List V}{ds:List Ϡ}:fk K H a xs->IsDs K H xs ds->IsD K H (.ref a) (.list ds)
 |tup {a:Ê}{xs:List V}{ds:List Ϡ}:fm K H a xs->IsDs K H xs ds->IsD K H (.ref a) (.tuple ds)
inductive IsDs (K:Frag) (H:Hp):List V->List Ϡ->Prop
 |nil:IsDs K H [] []
 |cons {x:V}{xs:List V}{d:Ϡ}{ds:List Ϡ}:IsD K H x d->IsDs K H xs ds->IsDs K H (x::xs) (d::ds)
end
section
variable {X:Cx}{Á:List (Ê×Obj)}{σ:St}{H:Hp}{s:Ä}
mutual
theorem IsD.reads(I:Inv X Á σ H s):∀{v:V}{d:Ϡ}{u:Â},IsD X.K H v d->RelV v u->∃as,Reads s.heap u d as
 |_,_,_,.non,r=>by cases r;exact⟨_,.none⟩
 |_,_,_,.bl b,r=>by cases r;exact⟨_,.bool b⟩
 |_,_,_,.int i,r=>by let⟨t,rfl⟩:=r;exact⟨_,.int i t⟩
 |_,_,_,.str x,r=>by let⟨t,rfl⟩:=r;exact⟨_,.str x t⟩
 |_,_,_,.lst q qs,r=>by cases r;let⟨î,rv,⟨o,n,e,c,_,d⟩,_⟩:=I.list q;let⟨as,ra⟩:=IsDs.reads I qs rv;exact⟨_,.list e c d<|by simpa using ra⟩
 |_,_,_,.tup q qs,r=>by cases r;let⟨î,rv,⟨o,e,c,n,d⟩,_⟩:=I.tuple q;let⟨as,ra⟩:=IsDs.reads I qs rv;exact⟨_,.tuple e c d<|by simpa using ra⟩
theorem IsDs.reads(I:Inv X Á σ H s):∀{vs:List V}{ds:List Ϡ}{us:List Â},IsDs X.K H vs ds->fo vs us->∃as,ReadsAll s.heap us ds as
 |_,_,_,.nil,.nil=>⟨_,.nil⟩
 |_,_,_,.cons q qs,.cons r rs=>by let⟨as,ra⟩:=IsD.reads I q r;let⟨bs,rb⟩:=IsDs.reads I qs rs;exact⟨_,.cons ra rb⟩
end
end
def IsDs.ints{K:Frag}{H:Hp}:∀ns:List Int,IsDs K H (ns.map V.int) (ns.map PyData.int)
 |[]=>.nil
 |n::ns=>.cons (.int n)<|IsDs.ints ns
section
variable {X:Cx}
abbrev Qf(K:Frag):R2:=λx y H Q=>∃d e,IsD K H x d/\IsD K H y e/\SeqAt.shaped d=dI/\SeqAt.shaped e=dI/\Q (.bl<|Ģ d e) H
abbrev QW(K:Frag):R2:=λx y H Q=>∃d e,IsD K H x d/\IsD K H y e/\SeqAt.shaped d=dI/\SeqAt.shaped e=dI/\Q (.bl (!Ģ d e)) H
def LU(hu:X.A.units+64<Ĥ):OpR X (ê .Eq)<|Qf X.K:=by intro Á s σ H x y v u Q I rx ry h;let⟨d,e,hd,he,sd,se,q⟩:=h;let⟨as,ra⟩:=hd.reads I rx;let⟨bs,rb⟩:=he.reads I ry;exact SeqAt.compareEq_shaped ra rb sd se hu ⟨.bl _,H,I,rfl,q⟩
def Hk(hu:X.A.units+64<Ĥ):OpR X (ê .NotEq)<|QW X.K:=by intro Á s σ H x y v u Q I rx ry h;let⟨d,e,hd,he,sd,se,q⟩:=h;let⟨as,ra⟩:=hd.reads I rx;let⟨bs,rb⟩:=he.reads I ry;exact SeqAt.compareNe_shaped ra rb sd se hu ⟨.bl _,H,I,rfl,q⟩
inductive TyV (K:Frag) (H:Hp):V->Â->Prop
 |of {x:V}{t:Â}:fg K H x t->TyV K H x t
 |tup {a:Ê}{xs:List V}:fm K H a xs->TyV K H (.ref a) (.type "tuple")
 |lst {a:Ê}{xs:List V}:fk K H a xs->TyV K H (.ref a) (.type "list")
def DZ:dU X (.builtin "isinstance") λxs H Q=>∃x T t b,xs=[x,.ty T]/\TyV X.K H x t/\PySem.W.kitOne X.K t (.type T)=dF b/\Q (.bl b) H:=by
 intro Á s σ H xs us Q I r h;let⟨x,T,t,b,rfl,ty,e,q⟩:=h;let⟨u,v,rfl,ru,rv⟩:=JQ r;cases rv;cases ty with
 |of ty=>exact UX I ru ty e λtk=>⟨.bl b,H,I.tok tk,rfl,q⟩
 |tup hq =>cases ru;let⟨î,_,⟨o,h1,h2,_⟩,_⟩:=I.tuple hq;exact PySem.W.kia_one PySem.W.kitx_tuple I.kIn ⟨o,h1,h2⟩ e (λz=>nomatch z) λtk=>⟨.bl b,H,I.tok tk,rfl,q⟩
 |lst hq =>cases ru;let⟨î,_,⟨o,n,h1,h2,_⟩,_⟩:=I.list hq;exact PySem.W.kia_one PySem.W.kitx_list I.kIn ⟨o,h1,h2⟩ e (λz=>nomatch z) λtk=>⟨.bl b,H,I.tok tk,rfl,q⟩
def BE(hc:X.calm=dI):dU X (.builtin "all") λxs H Q=>∃p,∃bs:List Bool,xs=[.ref p]/\fk X.K H p (bs.map V.bl)/\Q (.bl<|bs.all id) H:=by
 intro Á s σ H xs us Q I r h;let⟨p,bs,rfl,hq,q⟩:=h;let⟨u,rfl,rx⟩:=ZL r;cases rx;let⟨î,rv,pl,hz⟩:=I.list hq;have hlen:=rv.length;rw[À]at hlen;have Ω:p<s.heap.objs.size:=by let⟨o,n,e,_⟩:=pl;exact Ù e
 refine call_all_walk<|Ū pl.isList ?_;refine⟨s.heap.objs.size,_,_,î.toArray.size,_,_,λi=>bs.getD i dI,rfl,Walks.list (A:=X.A.in1) (I.ok.hd hc) s.heap.objs.size p (ë Ω) î.toArray,⟨⟨_,Ý _ rfl,rfl,rfl⟩,pl.isList.push _⟩,?_,λh' tk hk=>?_⟩
 .intro i v s' Q' E' hP hQ;have hP:î[i]?=dF v:=⇑hP
  have hb:(bs.map V.bl)[i]?=dF (.bl<|bs.getD i dI):=by
   have hi:i<bs.length:=by have:=(Ð.mp hP).1;lia
   rw[Ó,ċ];simp[hi]
  let⟨u,hu,ru⟩:=rv.get hb;rw[hP]at hu;cases hu;cases ru;exact ĉ hQ
 .have e:(List.range î.toArray.size).all (λi=>bs.getD i dI)=bs.all id:=by
   rw[Ë,<-hlen,Bool.eq_iff_iff,ö,ö];constructor
   .intro h b hb;let⟨i,hi,rfl⟩:=List.mem_iff_getElem.mp hb;have:=h i<|Υ.mpr hi;rw[ċ,É hi]at this;exact this
   .intro h i hi;have hi:=Υ.mp hi;rw[ċ,É hi];exact h _<|Ī hi
  rw[e];refine⟨.bl _,H,I.kept (t':=tk) λb o e=>hk b o (λhm=>?_)<|Å _ e,rfl,q⟩;have:b=s.heap.objs.size:=⇑hm
  exact fI (this▸Ù e)<|ą _
abbrev sortI(ns:List Int):List Int:=ns.mergeSort λa b=>fJ (a<=b)
def J6(ns:List Int):(sortI ns).Perm ns:=Ŀ ns _
def A4(ns:List Int):(sortI ns).Pairwise (·<=·):=by have h:=bo (le:=λa b:Int=>fJ (a<=b)) (λa b c h1 h2=>by simp at *;lia) (λa b=>by simp;lia) ns;exact h.imp λh=>⇑h
def Kc{ns ms:List Int}(hp:ms.Perm ns)(hs:ms.Pairwise (·<=·)):ms=sortI ns:=PySem.W.ksm_same (hp.trans (J6 ns).symm) hs (A4 ns)
def Wj(ns:List Int):(sortI ns).length=ns.length:=(J6 ns).length_eq
def X3:∀{vs:List Â}{ns:List Int},ė vs ns->fo (ns.map V.int) vs:=WB
def call_sorted:dU X (.builtin "sorted") λxs H Q=>∃p,∃ns:List Int,xs=[.ref p]/\fk X.K H p (ns.map V.int)/\ns.length<64/\∀l,H l=dG->Q (.ref l) (upd H l<|.lst<|(sortI ns).map V.int):=by intro Á s σ H xs us Q I r h;let⟨p,ns,rfl,hq,h64,q⟩:=h;let⟨u,rfl,rx⟩:=ZL r;cases rx;let⟨î,rv,pl,hz⟩:=I.list hq;have hlen:=rv.length;rw[À]at hlen;refine sorted_ints pl.isList (ZN rv) (by lia) λout bX a1 a2 a3=>?_;have e:=Kc a2 a3;subst e;let⟨n,he⟩:=sortedAll_at s.heap î out;refine⟨.ref<|s.heap.objs.size+1,_,I.laid (a:=s.heap.objs.size+1) (o:=.lst<|(sortI ns).map V.int) (t':=s.toks) (λb o e=>sortedAll_old e) (ř _) ?_,rfl,q _<|I.hok.fresh<|ř _⟩;exact⟨by rw[À,Wj];rw[À]at hz;exact hz,out.toList,n,X3 a1,by simpa[Κ]using he⟩
def DV:dU X (.type "set") (λxs H Q=>∃p,∃ns:List Int,xs=[.ref p]/\fk X.K H p (ns.map V.int)/\ns.length<4000/\X.calm=dI/\
    ∀l S n,H l=dG->n=(firstMet (λi=>ns.getD i 0) ns.length).length->Q (.ref l) (upd H l<|.set S n)):=by
 intro Á s σ H xs us Q I r h;let⟨p,ns,rfl,hq,h4,hc,q⟩:=h;let⟨u,rfl,rx⟩:=ZL r;cases rx;let⟨î,rv,pl,hz⟩:=I.list hq;have hlen:=rv.length;rw[À]at hlen;refine call_set_list (I.ok.hd hc) pl.isList (by simpa using ZN rv) (by rw[Ë];show î.length+1<4096;lia) λh' tk hS hk=>?_;refine⟨.ref s.heap.objs.size,_,I.laid (a:=s.heap.objs.size) (o:=.set _ _) (t':=tk) (λb o e=>hk b o (Ù e) e) (Ì _) hS,rfl,q _ _ _ (I.hok.fresh<|Ì _) ?_⟩;rw[Ë,hlen]
def Av:dU X (.builtin "len") λxs H Q=>∃p S n,xs=[.ref p]/\H p=dF (.set S n)/\Q (.int n) H:=by
 intro Á s σ H xs us Q I r h;let⟨p,S,n,rfl,hq,q⟩:=h;let⟨u,rfl,rx⟩:=ZL r;cases rx;let⟨o,es,ep,t,e,hex,hd,_,_,hb,hf,hn⟩:=(show dW X.prog X.w H s.heap p (.set S n) from I.hok p _ hq)
 subst hn;exact call_len_set e hex hd hf (by have:es.size<4096:=hb;lia) ⟨.int _,H,I.tok _,⟨_,rfl⟩,q⟩
def KQ{Á:List (Ê×Obj)}{σ:St}{H:Hp}{s:Ä}{p:Ê}{i j:Int}(I:Inv X Á σ H s)(hq:fm X.K H p [.int i,.int j]) :
  ∃î:List Â,î.length=2/\ϱ s.heap p î.toArray/\p<s.heap.objs.size/\∀k v,î[k]?=dF v->∃t,v=Value.int ([i,j].getD k 0) t:=by
 let⟨î,rv,pl,hz⟩:=I.tuple hq;refine⟨î,rv.length.symm,pl,?_,λk v hv=>?_⟩
 .obtain⟨o,e,_⟩:=pl;exact Ù e
 .have hk:k<2:=by
   have:=(Ð.mp hv).1;rw[<-rv.length]at this;exact this
  have hb:([V.int i,V.int j]:List V)[k]?=dF (.int<|[i,j].getD k 0):=by
   match k,hk with
   |0,_=>rfl
   |1,_=>rfl
  let⟨u,hu,ru⟩:=rv.get hb;rw[hv]at hu;cases hu;exact ru
def AL(hc:X.calm=dI):dU X (.builtin "min") λxs H Q=>∃p i j,xs=[.ref p]/\fm X.K H p [.int i,.int j]/\Q (.int<|if j<i then j else i) H:=by
 intro Á s σ H xs us Q I r h;let⟨p,i,j,rfl,hq,q⟩:=h;let⟨u,rfl,rx⟩:=ZL r;cases rx;let⟨î,hl,pl,Ω,hv⟩:=KQ I hq;refine call_min_walk (Š (show s.heap.IsTuple p î.toArray from pl) ?_);refine⟨s.heap.objs.size,_,_,î.toArray.size,_,_,λa b=>fJ ([i,j].getD a 0<[i,j].getD b 0),rfl,Walks.tuple (A:=X.A.in1) (I.ok.hd hc) s.heap.objs.size p (ë Ω) î.toArray,⟨⟨_,Ý _ rfl,rfl,rfl⟩,?_⟩,?_,?_,?_,λv h' tk hP hk=>?_⟩
 .obtain⟨o,e,r⟩:=pl;exact⟨o,Å _ e,r⟩
 .intro b hb;show b<(s.heap.push _).objs.size;rw[Ŏ];rcases Æ.mp hb with e|hb
  .rw[e];exact ă _
  .have:b=p:=⇑hb
   rw[this];exact Ĺ Ω
 .rw[Ë,hl];decide
 .exact CmpOf.ints_lt (λk=>[i,j].getD k 0) λk v hP=>hv k v ⇑hP
 .rw[Ë,hl]at hP;have hP:î[ē (λa b=>fJ ([i,j].getD a 0<[i,j].getD b 0)) 1]?=dF v:=⇑hP
  let⟨t,rfl⟩:=hv _ _ hP;have e:([i,j].getD (ē (λa b=>fJ ([i,j].getD a 0<[i,j].getD b 0)) 1) 0)=if j<i then j else i:=by
   unfold ē;show([i,j].getD (if fJ (j<i)=dI then 1 else 0) 0)=_;by_cases hji:j<i
   .simp[hji]
   .simp[hji]
  rw[e];refine⟨.int _,H,I.kept (t':=tk) λb o e=>hk b o (λhm=>?_)<|Å _ e,⟨_,rfl⟩,q⟩;have:b=s.heap.objs.size:=⇑hm
  exact fI (this▸Ù e)<|ą _
def AS(hc:X.calm=dI):dU X (.builtin "max") λxs H Q=>∃p i j,xs=[.ref p]/\fm X.K H p [.int i,.int j]/\Q (.int<|if j > i then j else i) H:=by
 intro Á s σ H xs us Q I r h;let⟨p,i,j,rfl,hq,q⟩:=h;let⟨u,rfl,rx⟩:=ZL r;cases rx;let⟨î,hl,pl,Ω,hv⟩:=KQ I hq;refine call_max_walk (Š (show s.heap.IsTuple p î.toArray from pl) ?_);refine⟨s.heap.objs.size,_,_,î.toArray.size,_,_,λa b=>fJ ([i,j].getD a 0 > [i,j].getD b 0),rfl,Walks.tuple (A:=X.A.in1) (I.ok.hd hc) s.heap.objs.size p (ë Ω) î.toArray,⟨⟨_,Ý _ rfl,rfl,rfl⟩,?_⟩,?_,?_,?_,λv h' tk hP hk=>?_⟩
 .obtain⟨o,e,r⟩:=pl;exact⟨o,Å _ e,r⟩
 .intro b hb;show b<(s.heap.push _).objs.size;rw[Ŏ];rcases Æ.mp hb with e|hb
  .rw[e];exact ă _
  .have:b=p:=⇑hb
   rw[this];exact Ĺ Ω
 .rw[Ë,hl];decide
 .exact CmpOf.ints_gt (λk=>[i,j].getD k 0) λk v hP=>hv k v ⇑hP
 .rw[Ë,hl]at hP;have hP:î[ē (λa b=>fJ ([i,j].getD a 0 > [i,j].getD b 0)) 1]?=dF v:=⇑hP
  let⟨t,rfl⟩:=hv _ _ hP;have e:([i,j].getD (ē (λa b=>fJ ([i,j].getD a 0 > [i,j].getD b 0)) 1) 0)=if j > i then j else i:=by
   unfold ē;show([i,j].getD (if fJ (j > i)=dI then 1 else 0) 0)=_;by_cases hji:j > i
   .have h2:i<j:=hji;simp[h2]
   .have h2:¬ i<j:=hji;simp[h2]
  rw[e];refine⟨.int _,H,I.kept (t':=tk) λb o e=>hk b o (λhm=>?_)<|Å _ e,⟨_,rfl⟩,q⟩;have:b=s.heap.objs.size:=⇑hm
  exact fI (this▸Ù e)<|ą _
end
section
variable {X:Cx}{x:Str}{p ç:Pos}{e:Expr}{es:List Expr}{t:TA}
def QM{T:String}(hg:Gl X x)(hm:X.mg x=dG)(hv:ŕ x=dF (.type T))(hn:x≠"__name__":=by decide)(hd:(x==("__debug__" : Str))=dJ:=by decide):PE X (.Name x ç)<|tC<|.ty T:=Ua hg hm hv rfl hn hd
end
abbrev Yy(scope sc:ů)(N:List Str)(x:List Str)(ô:List Nat):Bool :=
 scope.names.all (λy=>y.2 != .cell)&&scope.names.all (λy=>y.2 != .local||scope.names.lookup y.1==dF .local)&&x.all (λy=>scope.names.lookup y==dF .local) &&
 scope.names.all (λy=>y.2 != .free||sc.names.lookup y.1==dF .cell) &&
 ô.all (λj=>fJ (j<N.length)&&sc.names.lookup (N.getD j Str.empty)==dF .cell&&scope.names.lookup (N.getD j Str.empty)==dF .free)&&fJ (x++ô.map λj=>N.getD j Str.empty).Nodup
def OX{X:Cx}{scope sc:ů}{x:List Str}{ô:List Nat}{N:List Str}(hsc:X.env.scope=sc)(hN:X.N=N)(hk:scope.kind=.function)(h:Yy scope sc N x ô=dI):BlkOk X scope x ô:=by
 unfold Yy at h;simp only[bAq]at h;let⟨⟨⟨⟨⟨h1,h2⟩,h3⟩,h4⟩,h5⟩,h6⟩:=h;rw[ö]at h1 h2 h4 h5;refine⟨hk,λy hy=>by simpa using h1 y hy,λy hy e=>?_,λy hy=>by simpa using ö.mp h3 y hy,λy hy e=>?_,λj hj=>?_,?_⟩
 .have:=h2 y hy;rw[e]at this;simpa using this
 .have:=h4 y hy;rw[e]at this;show X.env.scope.names.lookup y.1=_;rw[hsc];simpa using this
 .have:=h5 j hj;simp only[bAq,fH,beq_iff_eq]at this;let⟨⟨a,b⟩,c⟩:=this;refine⟨?_,?_,?_⟩
  .rw[hN,É a];rfl
  .show X.env.scope.names.lookup _=_;rw[hsc,hN];exact b
  .rw[hN];exact c
 .unfold Ye;rw[hN];exact of_decide_eq_true h6
abbrev ee(r:Ê)(H H':Hp):Prop:=∀b o,H b=dF o->b≠r->H' b=dF o
def ee.refl(r:Ê)(H:Hp):ee r H H:=λ_ _ h _=>h
def ee.trans{r:Ê}{H H1 H2:Hp}(a:ee r H H1)(b:ee r H1 H2):ee r H H2:=λc o h n=>b c o (a c o h n) n
noncomputable abbrev Tie:=Int×Int×Int
variable {c:Bool} {A:Prop} {B:Prop}
def fb(e:c=dI)(h:A):if c=dI then A else B:=by rw[fA e];exact h
def fc(e:c=dJ)(h:B):if c=dI then A else B:=by rw[e,fB ù];exact h
structure BrOk(ns:List Int):Prop where
 one:1<=ns.length
 ten:ns.length<=10
 rng:∀n∈ns,0<=n/\n<=999
 nd:ns.Nodup
structure TieOk(ns:List Int)(t:Tie):Prop where
 a:t.1∈ns
 b:t.2.1∈ns
 ne:t.1≠t.2.1
 lo:1<=t.2.2
 hi:t.2.2<=1000
structure TsOk(ns:List Int)(ts:List Tie):Prop where
 few:ts.length<=16
 each:∀t∈ts,TieOk ns t
abbrev mn(x y:Int):Int:=if y<x then y else x
section
variable {X:Cx}(K:Frag) (h:X.K=K)
include h
end
section
variable {prog:é}{w:Ā}{A:ď}{E:Â->Ä->Prop}{s:Ä}
variable {it:Ê} {i:Nat} {items:Array Â} {Q:Â->Ä->Prop}
def N3{t:Ê}{x:Â}(hit:s.heap.IsTupleIter it t i)(ht:s.heap.IsTuple t items)(hx:items[i]?=dF x)
  (hQ:∀h',h'.IsTupleIter it t (i+1)->Α it s.heap h'->Q x {s with heap:=h'}):wpAny (Þ prog w) A (Builtin.SmallTypes.nextOf<|.ref it) Q E s:=by
 let⟨o,ho,hc,hd⟩:=id hit;let⟨ot,hot,_,nt,hdt⟩:=ht;unfold Builtin.SmallTypes.nextOf;refine Ã<|ĩ (name:=fK "__next__") hit.typeIs F.slot_tuple_iterator_next<|Ĳ F.slot_tuple_iterator_next hit.typeIs F.entry_tuple_iterator_next ?_<|F.args_tuple_iterator_next_1 _;show wpAny _ _ (field (.ref it) 0 >>= _) _ _ s;refine Ã<|ı ho hd (x:=.ref t) rfl ?_;show wpAny _ _ (if(Value.ref t==Value.none)=dI then _ else _) _ _ s;rw[fB<|show ¬ ((Value.ref t==Value.none)=dI) from ù];show wpAny _ _ (field (.ref it) 1 >>= _) _ _ s;refine Ã<|ı ho hd (x:=.int i 0) rfl ?_;show wpAny _ _ (ϧ (.ref t) >>= _) _ _ s;refine Ã<|ū hot hdt ?_;simp only[ä,hx];refine Ã (bN ho hd (by simp)<|Õ ⟨x,rfl,Õ<|hQ _ ⟨_,Ť _ ho<|Obj.isFreed_of_fields<|dz hd _,(Obj.cls_mapFields ..).trans hc,?_⟩<|ax ..⟩);rw[dz hd];simp[Ϸ]
def K6{t:Ê}(hh:A.handled=dG)(hit:s.heap.IsTupleIter it t i)(ht:s.heap.IsTuple t items)(hx:items[i]?=dG)
  (hE:∀h' e,Heap.ExtBut it s.heap h'->(∃o,h'.get? e=dF o/\o.cls=.type "StopIteration")->E (.ref e) {s with heap:=h'}):wpAny (Þ prog w) A (Builtin.SmallTypes.nextOf<|.ref it) Q E s:=by
 let⟨o,ho,hc,hd⟩:=id hit;let⟨ot,hot,_,nt,hdt⟩:=ht;unfold Builtin.SmallTypes.nextOf;refine Ã<|ĩ (name:=fK "__next__") hit.typeIs F.slot_tuple_iterator_next<|Ĳ F.slot_tuple_iterator_next hit.typeIs F.entry_tuple_iterator_next ?_<|F.args_tuple_iterator_next_1 _;show wpAny _ _ (field (.ref it) 0 >>= _) _ _ s;refine Ã<|ı ho hd (x:=.ref t) rfl ?_;show wpAny _ _ (if(Value.ref t==Value.none)=dI then _ else _) _ _ s;rw[fB<|show ¬ ((Value.ref t==Value.none)=dI) from ù];show wpAny _ _ (field (.ref it) 1 >>= _) _ _ s;refine Ã<|ı ho hd (x:=.int i 0) rfl ?_;show wpAny _ _ (ϧ (.ref t) >>= _) _ _ s;refine Ã<|ū hot hdt ?_;simp only[ä,hx];refine Ã (wpAny_rule<|Ã<|bN ho hd (by simp) ?_);show wpAny _ _ (newExc (.type "StopIteration") [] >>= _) _ _ _;refine Ã ?_;simp only[newExc,newTuple];refine Ã (ľ (Ã (m:=firstArgMember _ _)<|wpAny_of_eq (a:=Value.none) (by first|rfl|(simp only[firstArgMember];rfl))<|ľ ?_<|by size_fits)<|by size_fits);simp only[raiseNew];refine Ã<|wpAny_handled ?_
 first
 |rw[show A.in1.handled=dG from hh]
 |rw[hh]
 exact Ã<|Õ<|wpAny_throw<|hE _ _ (((ax ..).extBut.push _).push _) ⟨_,Ý _ rfl,rfl⟩
end
variable {prog:é} {w:Ā} {A:ď}
def HE(hh:A.handled=dG)(it t:Ê)(ŝ:t≠it)(items:Array Â) :
  Draws prog w A it [it,t] items.size (λi v=>items[i]?=dF v) (λi h=>h.IsTupleIter it t i/\h.IsTuple t items) where
 live:=λ_ _ st=>let ⟨o,ho,_⟩:=st.1;⟨o,ho⟩
 frame:=λ_ _ _ st hk=>⟨st.1.at λo e=>hk it (by simp) o e,st.2.at λo e=>hk t (by simp) o e⟩
 item:=λi s Q E hi st hQ=>N3 st.1 st.2 (x:=items[i]) (by simp[hi]) λh' hit' hs'=>hQ _ h' s.toks (by simp[hi]) ⟨hit',st.2.extBut hs'.extBut ŝ⟩ hs'
 done:=λs Q E st hE=>K6 hh st.1 st.2 (by simp) hE
open AutoSeq1 (wpAny_loadPart') in
def IF(l:Ê)(items:Array Â)(n:Nat)(dct:Option Ê)(sl:Array<|Option Â) :
  Meets (Builtin.«enumerate.__new__» ⟨[.type "enumerate",.ref l],[]⟩) (λ_ R s=>s.heap.get? l=dF { cls:=.type "tuple",dict:=dct,data:=.seq items n,slots:=sl }/\
    R (.ok<|.ret<|.ref (s.heap.push {cls:=.type "tuple_iterator",data:=.fields #[.ref l,.int 0 0]}).objs.size)
      { s with heap:=(s.heap.push { cls:=.type "tuple_iterator",data:=.fields #[.ref l,.int 0 0] }).push { cls:=.type "enumerate",data:=.fields #[.none,.bool dJ,.ref s.heap.objs.size,Ϸ 0,.none,.none] } }) :=
 .of_wp λprog w A R s h=>by
  let⟨hp,g,d,tk,os⟩:=s;let⟨hl,h⟩:=h;have hsub:=sub_enumerate;have hL:Heap.IsTuple (Shared.heap ⟨hp,g,d,tk,os⟩) l items:=⟨_,hl,rfl,n,rfl⟩
  wp_walk using ÿ hl
  refine wpAny_stack_any λst=>Õ ?_;split
  .rename_i c _ _ _ _ _;cases (c==Value.type "enumerate")<;>(wp_walk using ÿ hl,Š hL;exact⟨_,rfl,h⟩)
  .wp_walk using ÿ hl,Š hL;exact⟨_,rfl,h⟩
def Om{E:Â->Ä->Prop}{s:Ä}{l:Ê}{items:Array Â}{Q:Â->Ä->Prop}(hL:s.heap.IsTuple l items)
  (h:∀h',IsEnum h' (s.heap.objs.size+1) s.heap.objs.size 0 .none->h'.IsTupleIter s.heap.objs.size l 0->(∀b o,s.heap.get? b=dF o->h'.get? b=dF o)->Q (.ref<|s.heap.objs.size+1) {s with heap:=h'}) :
  wpAny (Þ prog w) A (call (.type "enumerate") [.ref l]) Q E s:=by
 let⟨⟨c,dct,dt,sl⟩,hl,hc,n,hd⟩:=hL;simp only at hc hd;subst hc hd;refine callType_new F.called_enumerate (by decide) (F.typeCall_enumerate_1 _) (F.newCall_enumerate_1 _) (λobj=>F.args_object_init_2 obj _) F.entry_enumerate_new (IF l items n dct sl) ⟨hl,?_⟩;have hz:(s.heap.push {cls:=.type "tuple_iterator",data:=.fields #[.ref l,.int 0 0]}).objs.size=s.heap.objs.size+1:=Ŏ ..;have hg:=Ý (s.heap.push {cls:=.type "tuple_iterator",data:=.fields #[.ref l,.int 0 0]}) (o:={cls:=.type "enumerate",data:=.fields #[.none,.bool dJ,.ref s.heap.objs.size,Ϸ 0,.none,.none]}) rfl;rw[hz]at hg;show _/\_;rw[hz];exact⟨⟨_,hg,rfl⟩,h _ hg ⟨_,Å _<|Ý _ rfl,rfl,rfl⟩ λb o x=>Å _<|Å _ x⟩
section
variable {X:Cx}{Á:List (Ê×Obj)}{σ:St}{H:Hp}{s:Ä}{h':ć}
def Inv.turnedL{t':Nat}{ch:List Ê}(I:Inv X Á σ H s)(k:∀b o,b∉ch->s.heap.get? b=dF o->h'.get? b=dF o)(hc:∀b∈ch,Wv X Á H b):Inv X Á σ H {s with heap:=h',toks:=t'}:=by
 have nit:∀b u,H b=dF u->b∉ch:=λb u e z=>by rw[(hc b z).1]at e;cases e
 refine I.step (g':=s.gens) (d':=s.drawn) (ch:=ch) (λb hb=>?_) (λb o _ _ hcb e _=>k b o hcb e) (λb o _ _ hcb e _=>⟨o.slots,k b o hcb e⟩) (λ_ _ _ _ n=>n)
  (λb o hcb e=>⟨o,k b o hcb e⟩) (λ_ _ e=>e) (λ_ _ _ e=>e) (λb ps e=>⟨#[],by rw[e];simp⟩) (λm hm=>?_) (λb u e=>?_) I.bare
 .obtain⟨_,q2,_,q4,q5,q6⟩:=hc b hb;exact⟨q4,q2,q5,q6⟩
 .obtain⟨o,es,ep,ho,r⟩:=hm;exact⟨o,es,ep,k _ o (λz=>(hc _ z).2.1 rfl) ho,r⟩
 .refine(I.hok b u e).stay (λc v hcc q=>k c v ?_ q) (λ_ q=>q) λ_ _ q=>q;rcases hcc with z|z
  .rw[z];exact nit b u e
  .exact nit c _ z
def Inv.track{T:Ê}{o:HO}(I:Inv X Á σ H s)(hT:H T=dG)(h0:X.s₀.heap.objs.size<=T)(hL:T≠X.env.locals)(ϰ:∀x c,X.env.cells.lookup x=dF c->c≠T)(hp:∀p∈X.pn++Á,p.1≠T)
  (new:dW X.prog X.w (upd H T o) s.heap T o):Inv X Á σ (upd H T o) s:=by
 have neT:∀b ob,X.s₀.heap.get? b=dF ob->b≠T:=λb ob e=>ë<|è (Ù e) h0;refine⟨I.ok,I.os,I.bare,⟨I.base.keep,I.base.slot,λb ob e n hx=>?_,I.base.there,λb xs e=>?_,λb ob xs e=>?_,λb ps e=>?_⟩,I.loc,I.cell,?_,λx c e=>?_,λp hpp=>?_,I.hok.track hT new,I.len⟩
 .rw[dL<|neT b ob e];exact I.base.free b ob e n hx
 .have q:=I.base.tups b xs e;rw[dL<|Zj q hT];exact q
 .have q:=I.base.frzs b ob xs e;rw[dL<|Zj q hT];exact q
 .obtain⟨m,q⟩:=I.base.tbls b ps e;exact⟨m,by rw[dL<|Zj q hT];exact q⟩
 .rw[dL hL.symm];exact I.free
 .rw[dL<|ϰ x c e];exact I.freeC x c e
 .obtain⟨a,b,c,d,e⟩:=I.pin p hpp;exact⟨a,by rw[dL<|hp p hpp];exact b,c,d,e⟩
end
abbrev Ite(K:Frag)(a:Ê):It :=
 ⟨λi H=>∃xs x,fm K H a xs/\xs[i]?=dF x,λi H v H'=>∃p,v=.ref p/\H p=dG/\∀xs x,fm K H a xs->xs[i]?=dF x->H'=upd H p (.tup [.int i,x]),λi H=>∃xs,fm K H a xs/\xs.length<=i⟩
variable {es:List Expr} {kk:Nat} {tp:Pos}
def N9{P:é}{K:Frag}(a it e:Ê)(ŝ:e≠it) :
  Turn P w K (.Tuple es kk tp) (Ite K a) [e,it] e (λi h=>(∃χ,IsEnum h e it i χ)/\h.IsTupleIter it a i) where
 mem:=by simp
 obj:=λi h st b hb=>by
  let⟨⟨χ,h1⟩,o2,e2,_,d2⟩:=st;rcases Æ.mp hb with q|q
  .subst q;exact⟨_,h1,λv z=>by cases z⟩
  .have q:b=it:=⇑q
   subst q;exact⟨o2,e2,λv z=>by rw[d2]at z;cases z⟩
 keep:=λi h h' st k=>⟨let ⟨χ,h1⟩:=st.1;⟨χ,k e (by simp) _ h1⟩,st.2.at λo q=>k it (by simp) o q⟩
 item:=by
  intro X hP hw hK hc i Á s σ H E I hf st hg;subst hP hw hK;let⟨xs,x,hq,hx⟩:=hg;let⟨î,rv,pl,hz⟩:=I.tuple hq;let⟨u,hu,ru⟩:=rv.get hx;have hsz:=rv.length;have hi:i<î.toArray.size:=by rw[Ë];exact(Ð.mp hu).1
  let⟨⟨χ,h1⟩,h2⟩:=st;have hfi:=hf it (by simp);have hai:a≠it:=λz=>by let⟨o,ho,ϰ,_⟩:=h2;let⟨o',Ρ,hcl',_⟩:=pl;rw[z,ho]at Ρ;cases Ρ;rw[ϰ]at hcl';exact fI (Ŕ hcl') (by decide)
  have hae:e∉[it,a]:=λz=>by
   rcases Æ.mp z with z|z
   .exact ŝ z
   .have z:e=a:=⇑z
    let⟨o',Ρ,hcl',_⟩:=pl;rw[<-z,h1]at Ρ;cases Ρ;exact fI (Ŕ hcl') (by decide)
  refine cS (HE (A:=X.A.in1) (I.ok.hd hc) it a hai î.toArray) h1 ⟨h2,pl⟩ hi ŝ hae λv h3 tk hv hout hst3 hT _ hk=>?_;have ev:v=u:=by
   have hv:î[i]?=dF v:=⇑hv
   rw[hu]at hv;exact(í hv).symm
  subst ev;have nT:∀b∈[e,it],s.heap.objs.size≠b:=λb hb z=>by
   rcases Æ.mp hb with q|q
   .exact fI (Ù h1) (by rw[<-q,<-z];exact ą _)
   .have q:b=it:=⇑q
    let⟨o,ho,_⟩:=h2;exact fI (Ù ho) (by rw[<-q,<-z];exact ą _)
  have aK:=I.fpOk (H':=H) (Ì s.heap.objs.size) I.fresh;refine⟨.ref s.heap.objs.size,rfl,bO hout λh4 he4 hs4=>?_⟩;have I4:Inv X Á σ H {s with heap:=h4,toks:=tk+1}:=I.turnedL (t':=tk+1) (ch:=[e,it]) (λb o hb q=>hs4.extBut b o (λz=>hb<|by simp[z])<|hk b o (λz=>hb<|by simp[z]) (λz=>hb<|by simp[z]) q) hf;have hT4:h4.get? s.heap.objs.size=dF {cls:=.type "tuple",data:=.seq #[.int i tk,v]}:=hs4.extBut _ _ (nT e<|by simp) hT;let⟨f0,f1,f2,f3,f4,f5⟩:=aK;have I5:Inv X Á σ (upd H s.heap.objs.size<|.tup [.int i,x]) {s with heap:=h4,toks:=tk+1}:=I4.track f0 I.sz f1 f4 f5 ⟨by show 2<=Ü;decide,[.int i tk,v],.cons ⟨tk,rfl⟩<|.cons ru .nil,_,hT4,rfl,_,rfl⟩;refine⟨.ref s.heap.objs.size,_,I5,rfl,⟨s.heap.objs.size,rfl,f0,λys y hy hyi=>?_⟩,⟨⟨v,⇑he4⟩,hst3.1.at λo q=>hs4.extBut it o (Ne.symm ŝ) q⟩,λb hb=>?_⟩
  .have ey:ys=xs:=I.tuple_inj hy hq;rw[ey,hx]at hyi;rw[í hyi]
  .rw[dL (nT b hb).symm];exact(hf b hb).1
 done:=by
  intro X hP hw hK hc i Á s σ H E I hf st hg;subst hP hw hK;let⟨xs,hq,hx⟩:=hg;let⟨î,rv,pl,hz⟩:=I.tuple hq;have hl:=rv.length;let⟨⟨χ,h1⟩,h2⟩:=st;have hai:a≠it:=λz=>by let⟨o,ho,ϰ,_⟩:=h2;let⟨o',Ρ,hcl',_⟩:=pl;rw[z,ho]at Ρ;cases Ρ;rw[ϰ]at hcl';exact fI (Ŕ hcl') (by decide)
  have hT:s.TypeIs (.ref e) "enumerate":=⟨_,h1,rfl⟩
  unfold ϵ;refine Ã<|wpAny_attempt<|ĩ (name:=fK "__next__") hT F.slot_enumerate_next<|Ĳ F.slot_enumerate_next hT F.entry_enumerate_next ?_<|F.args_enumerate_next_1 _;show wpAny _ _ (field (.ref e) 2 >>= _) _ _ _;refine Ã<|ı h1 rfl (x:=.ref it) rfl ?_;refine Ã (K6 (A:=X.A.in1) (I.ok.hd hc) h2 pl (by simp;lia) λh' x he' hx'=>?_);let⟨o,ho,ϰ⟩:=hx';refine Ã<|wpAny_isInstance (T:="StopIteration") (b:=dI) ⟨o,ho,ϰ⟩ isSubtype_stop<|Õ ⟨rfl,?_⟩;exact I.turnedL (t':=s.toks) (ch:=[it]) (λb ob hb q=>he' b ob (λz=>hb<|by simp[z]) q) λb hb=>hf b<|à _ hb
 self:=λA i s Q E st h=>by let⟨⟨χ,h1⟩,_⟩:=st;exact Δ h1 h
section
variable {X:Cx}
abbrev Lp(K:Frag)(ta:TA):TI:=λσ H R=>ta σ H λvs H1=>∃a,vs=[.ref a]/\(∃xs,fm K H1 a xs)/\R (Ite K a) H1
def Bb{p ç:Pos}{e:Expr}{ta:TA}(hg:Gl X "enumerate")(hm:X.mg "enumerate" = dG)(ha:PA X [e] ta)(hs:Î [e] X.env=[(dJ,eval e X.env)]:=by rfl) :
  PI X (.Tuple es kk tp) (.Call (.Name "enumerate" p) [e] [] ç) (Lp X.K ta):=by
 intro Á s σ H R I h;refine Call_ (Xs (u:=.type "enumerate") I hg hm (by kernel_rfl)<|PyProof.Rows.callWith_type1 (T:="enumerate") (thn (ha ç Á s σ H _ I h) λus s1 ⟨vs,H1,I1,r1,q1⟩=>?_) hs rfl);let⟨a,e1,⟨xs,hq⟩,q⟩:=q1;subst e1;let⟨u,rfl,ru⟩:=ZL r1;cases ru;let⟨î,rv,pl,hz⟩:=I1.tuple hq;refine Om pl λh2 he2 cY hk2=>?_;have I2:Inv X Á σ H1 {s1 with heap:=h2}:=I1.kept (t':=s1.toks) hk2;refine Δ he2 ⟨s1.heap.objs.size+1,[s1.heap.objs.size+1,s1.heap.objs.size],_,_,H1,rfl,I2,N9 a s1.heap.objs.size (s1.heap.objs.size+1)<|Ŷ<|ă _,⟨⟨_,he2⟩,cY⟩,λb hb=>?_,q⟩;have bx:s1.heap.objs.size<=b:=by
  rcases Æ.mp hb with z|z
  .rw[z];exact ř _
  .have z:b=s1.heap.objs.size:=⇑z
   rw[z];exact Ì _
 exact I1.fpOk bx<|I1.hok.fresh bx
end
end L2
namespace L2
open PySem PySem.Spec PyProof.Rows
open PySem.Builtin PySem.Builtin.Str
noncomputable abbrev TJ:=St->Hp->Str->(Str->Hp->Prop)->Prop
abbrev PJ(X:Cx)(vs:List Expr)(t:TJ):Prop :=
 ∀(Á:List<|Ê×Obj) (s:Ä) (σ:St) (H:Hp) (ħ:Str) (Q:Str->Hp->Prop),Inv X Á σ H s->t σ H ħ Q->
  Joins (Þ X.prog X.w) X.A X.xe (bP vs X.env) ħ (λout s1=>∃H1,Inv X Á σ H1 s1/\out.length<=Ü/\Q out H1) s
abbrev RD:TJ:=λ_ H ħ Q=>ħ.length<=Ü/\Q ħ H
abbrev Ql(te:TE)(tr:TJ):TJ:=λσ H ħ Q=>te σ H λx H1=>∃y,x=.str y/\(ħ++y).length<=Ü/\tr σ H1 (ħ++y) Q
section
variable {X:Cx}{e:Expr}{es:List Expr}{te:TE}{tr:TJ}{ç:Pos}
def pj_nil:PJ X [] RD:=λÁ s σ H ħ Q I h=>⟨H,I,h.1,h.2⟩
def F4(he:PE X e te)(hr:PJ X es tr)(hs:bP (e::es) X.env=eval e X.env::bP es X.env:=by rfl):PJ X (e::es)<|Ql te tr:=by intro Á s σ H ħ Q I h;rw[hs];show wpAny _ _ _ _ _ _;refine thn (he Á s σ H _ I h) λv s1 ⟨x,H1,I1,r1,y,e1,hz,q1⟩=>?_;subst e1;let⟨t,rfl⟩:=r1;exact⟨y,t,rfl,hz,hr Á s1 σ H1 (ħ++y) Q I1 q1⟩
def Joins.imp{M:cO}{A:ď}{E:Â->Ä->Prop}:∀{ps:List (Sem Â)}{ħ:Str}{Q Q':Str->Ä->Prop}{s:Ä},(∀o s,Q o s->Q' o s)->Joins M A E ps ħ Q s->Joins M A E ps ħ Q' s
 |[],_,_,_,_,f,h=>f _ _ h
 |_::_,_,_,_,_,f,h=>thn h λv s1 ⟨y,t,e,hz,hr⟩=>⟨y,t,e,hz,Joins.imp f hr⟩
end
abbrev wT:Str:="tie"
structure d9(bs:List Int)(ts:List Tie):Prop where
 br:BrOk bs
 ti:TsOk bs ts
 so:sortI bs=bs
 lo:ts.map loT=ts
end L2
namespace L2
open PySem PySem.Spec PyProof.Rows
variable {P:é} {w:Ā} {H:Hp} {h:ć} {a:Ê}
def dW.obj{o:HO}(x:dW P w H h a o):∃u,h.get? a=dF u:=by
 cases o with
 |lst xs=>let⟨_,_,_,_,e⟩:=x;exact⟨_,e⟩
 |tup xs=>let⟨_,_,_,ob,e,_⟩:=x;exact⟨_,e⟩
 |dK kvs=>let⟨_,_,_,_,o,_,_,e,_⟩:=x;exact⟨_,e⟩
 |dT kvs=>let⟨_,_,_,_,o,_,_,e,_⟩:=x;exact⟨_,e⟩
 |set S n=>let⟨o,_,_,_,e,_⟩:=x;exact⟨_,e⟩
 |ins C dx fs=>let⟨_,_,_,e,_⟩:=x;exact⟨_,e⟩
 |own y=>exact x
 |xd fs=>let⟨_,⟨_,_,_,e,_⟩,_⟩:=x;exact⟨_,e⟩
 |rng lo hi=>let⟨_,_,_,e⟩:=x;exact⟨_,e⟩
 |frz ob u=>exact⟨_,x.1⟩
 |tbl ps=>exact⟨_,(show h.get? a=dF _ from x)⟩
 |met f y=>exact⟨_,(show h.get? a=dF _ from x)⟩
 |ext φ=>exact x.2.1
def HOk.none_of(x:HOk P w H h)(e:h.get? a=dG):H a=dG:=by
 cases q:H a with
 |none=>rfl
 |some u =>let⟨ob,z⟩:=(x a u q).obj;rw[e]at z;cases z
abbrev NS(h:ć)(a:Ê)(cls:Â)(T:Option Ê):Prop :=
 ∃oe vs a0,h.get? a=dF oe/\oe.cls=cls/\oe.data=.fields vs/\vs[0]?=dF a0/\
  match T with
  |none=>vs[1]?=dF .none
  |some T=>vs[1]?=dF (.ref T)/\T≠a/\∃oT ts fl,h.get? T=dF oT/\oT.data=.fields ts/\ts[3]?=dF fl
structure Fl(P:é)(w:Ā)(l:List Env)(H:Hp)(s:Ä)(H':Hp)(a:Ê)(cls:Â)(s':Ä):Prop where
 os:s'.os=s.os
 bare:ω s'.gens
 un:Un (frs l) [] H H' s.heap s'.heap
 hok:HOk P w H' s'.heap
 na:s.heap.get? a=dG
 ha:H' a=dG
 ex:∃T,NS s'.heap a cls T/\∀t,T=dF t->s.heap.get? t=dG/\H' t=dG
abbrev CX1(P:é)(w:Ā):CXT:=λl H s E e s'=>∃a cls H',e=.ref a/\Fl P w l H s H' a cls s'/\E cls dG H'
abbrev XW(X:Cx)(E:XK):Prop:=∀(Á:List<|Ê×Obj) (σ:St) (H:Hp) (s:Ä) (H':Hp) (a:Ê) (cls:Â) (s':Ä),
 Inv X Á σ H s->Fl X.prog X.w X.stack H s H' a cls s'->E cls dG H'->X.xe (.ref a) s'
def XW.passes{X:Cx}{E:XK}(h:XW X E):Xl (CX1 X.prog X.w) X E:=λÁ σ H s e s' I ⟨a,cls,H',z,f,q⟩=>by subst z;exact h Á σ H s H' a cls s' I f q
section
variable {M:cO}{A:ď}{E:Â->Ä->Prop}{s:Ä}{B:ć}{env:Env}{outer:List Env}{L a:Ê}{cls:Â}{T:Option Ê}{Q:Unit->Ä->Prop}
abbrev Xd(h:ć)(l:List Env)(a:Ê)(T:Option Ê):ć:=PySem.W.hideAll h<|a::(T.toList++frs l)
def Yw(h:ć)(l:List Env)(a:Ê)(T:Option Ê):(Xd h l a T).StaysIn h:=λb o e=>PySem.W.of_hideAll _ e
def We{l:List Env}(a:Ê)(T:Option Ê)(hl:h.FunFrames B l):h.FunFrames (Xd h l a T) l :=
 PySem.W.funFrames_hide hl λe he b hb=>à _<|È _<|Ż.mpr ⟨e,he,hb⟩
def Uo(h:ć)(l:List Env)(a:Ê)(T:Option Ê):(Xd h l a T).get? a=dG:=PySem.W.hideAll_none _ ì
def MU(h:ć)(l:List Env)(a t:Ê):(Xd h l a<|dF t).get? t=dG:=PySem.W.hideAll_none _ (à _<|Û _<|by simp)
def AV(aK:A.frames=dF (env::outer))(hf:env.frame=dF L)(hl:s.heap.FunFrames B<|env::outer)(hx:NS s.heap a cls T)
  (fin:∀h' a0,Heap.NotedW (Xd s.heap (env::outer) a T) (env::outer) a cls a0 (Ϸ L) s.heap h'->Q () {s with heap:=h'}):wpAny M A (aQ (.ref a) env) Q E s:=by
 let⟨oe,vs,a0,he,hc,hd,h0,ht⟩:=hx;have fin:=λh'=>fin h' a0;cases T with
 |none =>subst hc;unfold aQ;simp only[hf];refine Ã<|ı he hd ht ?_;rw[fB<|by decide];exact wpAny_entryW aK (We a dG hl) hf he (Yw _ _ _ _) (Uo _ _ _ _) hd (Ÿ.mp ht).1 h0 fin
 |some t =>
  let⟨h1,ŝ,oT,ts,fl,e1,e2,e3⟩:=ht;by_cases c:fl=Ϸ L
  .subst c;have tr:s.heap.TracedAtW (Xd s.heap (env::outer) a<|dF t) a cls a0<|Ϸ L:=⟨oe,vs,t,oT,ts,he,⟨hc,h0⟩,hd,h1,MU _ _ _ _,ŝ,e1,e2,e3⟩
   exact wpAny_noteFrame_againW hf tr<|fin _ ⟨Yw _ _ _ _,We a (dF t) hl,tr,λb o e nf=>⟨o.slots,e⟩⟩
  .subst hc;unfold aQ;simp only[hf];refine Ã<|ı he hd h1 ?_;rw[fA<|by simp];refine Ã<|ı e1 e2 e3 ?_;rw[fB<|by simpa using c];refine Ã<|bN e1 e2 (Ÿ.mp e3).1 ?_;have off:∀b,b≠t->(s.heap.update t (Obj.mapFields (·.setIfInBounds 3 Value.none))).get? b=s.heap.get? b:=λb hb=>þ _ _ hb.symm;have nr:∀b o,s.heap.get? b=dF o->(∀vs,o.data≠.fields vs)->b≠t:=λb o hb nf z=>by
    rw[z,e1]at hb;cases hb;exact nf ts e2
   have bn:=MU s.heap (env::outer) a t;exact wpAny_entryW aK ((We a (dF t) hl).of_keeps λb o hb nf=>⟨o,(off b<|nr b o hb nf).trans hb,rfl⟩) hf ((off a ŝ.symm).trans he) (λb o hbo=>(off b λz=>by rw[z,bn]at hbo;cases hbo).trans<|Yw _ _ _ _ b o hbo) (Uo _ _ _ _) hd (Ÿ.mp h1).1 h0 λh' ⟨x1,x2,x3,x4⟩=>fin h' ⟨x1,x2,x3,λb o hb nf=>x4 b o ((off b<|nr b o hb nf).trans hb) nf⟩
def Wy(aK:A.frames=dF (env::outer))(hf:env.frame=dF L)(hl:s.heap.FunFrames B<|env::outer)(hx:NS s.heap a cls T)
  (h:∀h' a0,Ϛ (Xd s.heap (env::outer) a T) (env::outer) a cls a0 s.heap h'->Q () {s with heap:=h'}):wpAny M A (aQ (.ref a) env) (λ_ s2=>wpAny M A (setFlight (.ref a) dG) Q E s2) E s :=
 AV aK hf hl hx λh' a0 ⟨k1,k2,k3,k4⟩=>wpAny_setFlight_noneW k1 k2 k3 λh2 j1 j2 j3 j4=>h h2 a0 ⟨j1,j2,j3,λb o e nf=>by
   let⟨sl,e2⟩:=k4 b o e nf
   exact⟨sl,j4 b _ e2 nf⟩⟩
def OM(aK:A.frames=dF (env::outer))(hf:env.frame=dF L)(hl:s.heap.FunFrames B<|env::outer)(hx:NS s.heap a cls T)
  (h:∀h' a0,Ϛ (Xd s.heap (env::outer) a T) (env::outer) a cls a0 s.heap h'->Q () {s with heap:=h'}):wpAny M A (leaving env<|.ref a) Q E s:=Ã<|Wy aK hf hl hx h
end
variable {l:List Env} {H':Hp} {s:Ä} {s':Ä} {cls:Â} {a0:Â} {h':ć} {B:ć} {T:Option Ê}
def Fl.noted{fl:Â}(f:Fl P w l H s H' a cls s')(hT:∀t,T=dF t->s.heap.get? t=dG/\H' t=dG)
  (hl:s'.heap.FunFrames B l) (aK:∀b∈frs l,H' b=dG) (z:Heap.NotedW (Xd s'.heap l a T) l a cls a0 fl s'.heap h'):Fl P w l H s H' a cls {s' with heap:=h'}:=by
 let⟨k1,k2,k3,k4⟩:=z;have inb:∀b o,s'.heap.get? b=dF o->b≠a->(∀t,T=dF t->b≠t)->b∉frs l->h'.get? b=dF o:=λb o e na nt nf=>k1 b o (PySem.W.hideAll_get _ e (by
   intro m
   rcases Æ.mp m with m|m
   . exact na m
   . rcases â.mp m with m|m
     . cases T with
       |none=>cases m
       |some t=>exact nt t rfl ⇑m
     . exact nf m))
 have slot:∀b o,s'.heap.get? b=dF o->b∈frs l->∃sl,h'.get? b=dF {o with slots:=sl}:=λb o e hb=>by let⟨_,o2,e2,nf⟩:=hl.mem hb;rw[e]at e2;cases e2;exact k4 b o e nf
 have χ:∀b o,s.heap.get? b=dF o->b≠a/\∀t,T=dF t->b≠t:=λb o e=>⟨(λz=>by rw[z,f.na]at e;cases e),(λt ht z=>by rw[z,(hT t ht).1]at e;cases e)⟩
 refine⟨f.os,f.bare,⟨λb o e n nf _=>?_,λb o e n hb _=>?_,f.un.free,λb o e _=>?_,f.un.tups,f.un.frzs,f.un.tbls⟩,?_,f.na,f.ha,?_⟩
 .exact inb b o (f.un.keep b o e n nf<|by simp) (χ b o e).1 (χ b o e).2 nf
 .obtain⟨sl,e1⟩:=f.un.slot b o e n hb (by simp);let⟨sl',e2⟩:=slot b _ e1 hb;exact⟨sl',e2⟩
 .obtain⟨o1,e1⟩:=f.un.there b o e (by simp);by_cases hb:b∈frs l
  .obtain⟨sl,e2⟩:=slot b _ e1 hb;exact⟨_,e2⟩
  .exact⟨o1,inb b o1 e1 (χ b o e).1 (χ b o e).2 hb⟩
 .intro b u e;have good:∀c v,H' c=dF v->∀ob,s'.heap.get? c=dF ob->h'.get? c=dF ob:=λc v ec ob eo =>
   inb c ob eo (λz=>by rw[z,f.ha]at ec;cases ec) (λt ht z=>by rw[z,(hT t ht).2]at ec;cases ec) λm=>by rw[aK c m]at ec;cases ec
  refine(f.hok b u e).stay (λc v hc q=>?_) (λ_ q=>q) λ_ _ q=>q;rcases hc with z|z
  .rw[z]at q ⊢;exact good b u e v q
  .exact good c _ z v q
 .obtain⟨oe,vs,t',oT,ts,e1,⟨e2,e3⟩,e4,e5,e6,e7,e8,e9,e10⟩:=k3;refine⟨dF t',⟨oe,vs,a0,e1,e2,e4,e3,e5,e7,oT,ts,fl,e8,e9,e10⟩,λt ht=>?_⟩;cases ht;have hid:∀o,s'.heap.get? t'=dF o->T=dF t':=λo e=>by
   have nin:¬ (t'∉(a::(T.toList++frs l))):=λm=>by have q:(Xd s'.heap l a T).get? t'=dF o:=PySem.W.hideAll_get _ e m;rw[e6]at q;cases q
   have m:=Classical.not_not.mp nin;rcases Æ.mp m with m|m
   .exact fI m e7
   .rcases â.mp m with m|m
    .cases T with
     |none=>cases m
     |some t=>rw[show t'=t by simpa using m]
    .obtain⟨_,o2,q,nf⟩:=k2.mem m;rw[e8]at q;cases q;exact fI e9<|nf ts
  constructor
  .cases q:s.heap.get? t' with
   |none=>rfl
   |some o =>let⟨o1,q1⟩:=f.un.there t' o q (by simp);have:=(hT t'<|hid o1 q1).1;rw[q]at this;cases this
  .cases q:H' t' with
   |none=>rfl
   |some u =>let⟨o1,q1⟩:=(f.hok t' u q).obj;have:=(hT t'<|hid o1 q1).2;rw[q]at this;cases this
def Fl.left(f:Fl P w l H s H' a cls s')(hT:∀t,T=dF t->s.heap.get? t=dG/\H' t=dG)
  (hl:s'.heap.FunFrames B l) (aK:∀b∈frs l,H' b=dG) (z:Ϛ (Xd s'.heap l a T) l a cls a0 s'.heap h'):Fl P w l H s H' a cls {s' with heap:=h'}:=f.noted (fl:=.none) hT hl aK z
section
variable {P:é}{w:Ā}{K:Frag}{mg:Str->Option Â}{base:ć}
variable {X:Cx} {H:Hp} {s:Ä}
def Inv.raised{Á:List (Ê×Obj)}{σ:St}{H':Hp}{s':Ä}{a:Ê}{cls:Â}(I:Inv X Á σ H s)(f:Fl X.prog X.w X.stack H s H' a cls s'):Inv X Á σ H' s' :=
 I.call' (ch:=[]) f.os f.un f.hok f.bare (λb z=>fI z<|by simp)
def XT(ok:X.Ok)(h:X.stack=X.env::X.outer):X.env.frame=dF X.env.locals:=by
 rcases ok.stk with e|e
 .rw[h]at e;exact fI (congrArg List.length e) (by simp)
 .exact e.2
variable {N:List Str} {qual:Str} {f:Ê}
def LX{scope:ů}{cd:Â}{A:ď}{outer:List Env}{E:XK}:XW (Mg (CX1 P w) P w K mg base N qual scope f cd A outer s H E) E:=by
 intro Á σ H2 s2 H' a cls s' I f q;have J:=I.raised f;let⟨T,hx,hT⟩:=f.ex;show wpAny _ _ (leaving _ _) _ _ _;refine OM (outer:=outer) J.ok.frames (XT J.ok rfl) J.stack hx λh' a0 z=>?_;have f2:=f.left hT J.stack J.stkFree z;have J2:=I.raised f2;have Λ:∀b,s2.heap.get? b=dG->s.heap.get? b=dG:=λb e=>by
  cases z:s.heap.get? b with
  |none=>rfl
  |some o =>let⟨o',e'⟩:=I.base.there b o z (by intro m;cases m);rw[e]at e';cases e'
 let⟨T2,bG,hT2⟩:=f2.ex;exact⟨a,cls,H',rfl,⟨J2.os,J2.bare,J2.base,J2.hok,Λ a f2.na,f2.ha,T2,bG,λt ht=>⟨Λ t (hT2 t ht).1,(hT2 t ht).2⟩⟩,q⟩
def Fun.ok1{x:Str}{st:ğ}{fd:ļ}{ps:List Str}{k:Nat}{sp:Sp}(F:Fun K x qual st f fd)(S:FnScope N ps<|Zv st)(len:∀vs H Q E,sp vs H Q E->vs.length=ps.length)
  (hbody:∀(ϒ:Â) (A:ď) (outer:List Env) (s:Ä) (H:Hp) (vs:List V) (Q:VK) (E:XK),eF k (A.deeper<|ϸ qual (Zv st) s.heap.objs.size f ϒ)->sp vs H Q E->
    XW (Mg (CX1 P w) P w K mg base N qual (Zv st) f ϒ A outer s H E) E->
    ∃t,PSs (Mg (CX1 P w) P w K mg base N qual (Zv st) f ϒ A outer s H E) (ZV st) t/\t { nx:=λ_ H'=>Q .non H',rt:=Q } (start N vs) H):eK P w K mg base (CX1 P w) (k+1) f fd ps sp:=by
 let⟨oc,od,kV,doc,pm,an,ϒ,ct,osl,rfl,lk,aq⟩:=F.ex;exact Re lk aq S len λA outer s H vs Q E hr hsp=>hbody ϒ A outer s H vs Q E hr hsp LX
abbrev Sv(P:é)(w:Ā)(K:Frag)(mg:Str->Option Â)(base:ć)(k:Nat)(x:Str)(ps:List Str)(sp:Sp):Prop :=
 ∃f fd,eK P w K mg base (CX1 P w) k f fd ps sp/\mg x=dF (.ref f)/\PySem.W.keepIn K (.ref f)=dI/\Binds K fd ps []
end
section
variable {X:Cx}{x:Str}{p ç np ĺ:Pos}{e:Expr}{es:List Expr}{t:TA}{E:XK}{C:Ê}{bm:List Â}
abbrev HU(C:Ê)(t:TA)(E:XK):TS:=λ_ σ H=>t σ H λvs H1=>vs.length<=Ü/\E (.ref C) dG H1
def Bn(hw:XW X E)(hc:X.calm=dI)(O:OwnCls x C [.type "ValueError",.type "Exception",.type "BaseException",.type "object"] "ValueError.__new__" X.mg X.base)(hg:Gl X x)(ha:PA X (e::es) t)(ϑ:(x==("__debug__" : Str))=dJ:=by decide)
  (he:Î (e::es) X.env=(dJ,eval e X.env)::Î es X.env:=by rfl) (hpl:(Č ĺ<|Î es X.env).any (·.1)=dJ:=by rfl) :
  PS X (.Raise (dF<|.Call (.Name x np) (e::es) [] ĺ) dG ç) (HU C t E):=by
 intro Á s σ H D I h;let⟨tl,N,nm,q,bs,hdct,sn,sub,ab,col,dd,k0,k1,k2,k3,k5,mN,hC,hN,hni,T⟩:=O.obj;refine wpAny_Raise_call_subU (C:=C) (nm:=nm) (q:=q) (N:=N) (bs:=bs) (bm:=tl) (hdct:=hdct) (sn:=sn) (sub:=sub) (ab:=ab) (col:=col) (dd:=dd) (k0:=k0) (k1:=k1) (k2:=k2) (k3:=k3) (k5:=k5) (mN:=mN)
  PySem.F.excBase_ValueError rfl PySem.F.excBase_ValueError (T.hasType PySem.F.excBase_ValueError.hasBase) (I.ok.hd hc) (by rw[he];show(dJ||(Č ĺ<|Î es X.env).any (·.1))=dJ;rw[hpl];rfl) hni (Yu I hg O.bound ⟨rfl,?_⟩ ϑ)
 have hA:=ha ĺ Á s σ H _ I h;rw[he]at hA ⊢;refine Calls.evalArgs_plain (thn hA λus s2 ⟨vs,H2,I2,r2,q2⟩=>⟨rfl,by rw[<-r2.length];exact q2.1,I2.bk _ _ hC,hN.keeps I2.bk,T.keeps I2.bk,λh' a hm=>?_⟩);let⟨tt,ht,_,_⟩:=hm.there;refine hw Á σ H2 s2 H2 a (.ref C) {s2 with heap:=h'} I2 ⟨rfl,I2.bare,Un.kept hm.keeps,I2.hok.kept hm.keeps,hm.new,I2.hok.none_of hm.new,dG,?_,λ_ z=>by cases z⟩ q2.2;exact⟨_,_,.ref tt,ht,rfl,rfl,rfl,rfl⟩
end
abbrev XP(X:Cx)(Á:List<|Ê×Obj)(σ:St)(E:XK)(v:Â)(s':Ä):Prop :=
 ∃a cls H1 H' s1,v=.ref a/\Inv X Á σ H1 s1/\Fl X.prog X.w X.stack H1 s1 H' a cls s'/\E cls dG H'
abbrev PCx(X:Cx)(e:Expr)(t:St->Hp->VK->XK->Prop):Prop :=
 ∀(Á:List<|Ê×Obj) (s:Ä) (σ:St) (H:Hp) (Q:VK) (E:XK),Inv X Á σ H s->t σ H Q E->wpAny (Þ X.prog X.w) X.A (eval e X.env) (EP X Á σ Q) (XP X Á σ E) s
abbrev PB(X:Cx)(body:List ğ)(t:Ends->XK->St->Hp->Prop):Prop :=
 ∀(Á:List<|Ê×Obj) (s:Ä) (σ:St) (H:Hp) (D:Ends) (E:XK),Inv X Á σ H s->t D E σ H->wpAny (Þ X.prog X.w) X.A (execs body X.env) (SP X Á D) (XP X Á σ E) s
section
variable {X:Cx}{x:Str}{p ç:Pos}{e c:Expr}{es:List Expr}{t:TA}
abbrev tC1(sp:Sp)(t:TA):St->Hp->VK->XK->Prop:=λσ H Q E=>t σ H λvs H1=>sp vs H1 Q E
def Fd{k k':Nat}{ps:List Str}{sp:Sp}(D:Sv X.prog X.w X.K X.mg X.base k x ps sp)(hr:eF k' X.A)(hk:k<=k')(hg:Gl X x)(ha:PA X.nox (e::es) t)(ϑ:(x==("__debug__" : Str))=dJ:=by decide)
  (he:Î (e::es) X.env=(dJ,eval e X.env)::Î es X.env:=by rfl) (hpl:(Č ç<|Î es X.env).any (·.1)=dJ:=by rfl):PCx X (.Call (.Name x p) (e::es) [] ç)<|tC1 sp t:=by
 let⟨f,fd,F,hm,hkp,hb⟩:=D;intro Á s σ H Q E I h;refine ĵ<|Yu I hg hm ?_ ϑ;refine PySem.W.callWith_K (h₀:=X.base) I.ok.mod.kin hkp (Ġ (ha ç Á s σ H _ (I.wish _) h) (λus s1 ⟨vs,H1,I1,r,q⟩=>⟨I1.unwish.kIn,?_⟩) λ_ _ z=>č z) he hpl;have I2:=I1.unwish;have hl:(us++[]).length=ps.length:=by rw[ó,<-r.length];exact F.len _ _ _ _ q
 have hbd:=hb s1 us I2.kIn hl;rw[ó]at hbd;refine wpAny_call<|ό (F.run X.A X.stack s1 H1 ⟨us,[]⟩ us vs Q E (hr.mono hk) I2.env0 hbd r q) λr s' hq=>?_;cases r with
 |error e =>let⟨a,cls,H',z,f,q'⟩:=hq;exact⟨a,cls,H1,H',s1,z,I2,f,q'⟩
 |ok fl =>
  cases fl with
  |ret u=>exact I2.after hq
  |next=>exact č hq
  |brk=>exact č hq
  |cont=>exact č hq
variable {tc:St->Hp->VK->XK->Prop}
def E5(hc:PCx X c tc)(hs:ō c dG ç.line X.env=pure dJ:=by rfl):PB X [.Expr c ç] λD E σ H=>tc σ H (λ_ H'=>D.nx σ H') E:=by intro Á s σ H D E I h;refine aN<|wpAny_Expr_any (thn (hc Á s σ H _ E I h) λv s1 ⟨x,H1,I1,r1,q1⟩=>?_) I.quiet hs;exact ŋ ⟨σ,H1,I1,q1⟩
def Iy{i:Nat}{ϯ:Pos}(hN:X.N.Nodup)(hi:X.N[i]?=dF x)(hx:Loc X.env.scope x)(hc:PCx X c tc)(hs:ō c (dF<|.Name x ϯ) ç.line X.env=pure dJ:=by rfl)
  (hf:X.fn x=dI\/X.env.scope.names.lookup x=dF .local:=by first|exact .inl rfl|exact .inr rfl|assumption):PB X [.Assign [.Name x ϯ] c ç] λD E σ H=>tc σ H (λv H'=>D.nx (σ.set i<|dF v) H') E:=by
 intro Á s σ H D E I h;refine aN<|wpAny_Assign_Name (thn (hc Á s σ H _ E I h) λv s1 ⟨y,H1,I1,r1,q1⟩=>?_) hs;exact JL I1 hN hi hx r1 (λs2 I2=>ŋ ⟨_,H1,I2,q1⟩) hf
end
abbrev xcO(a:Ê)(cls:Â):HO:=.ext λh=>∃o vs,h.get? a=dF o/\o.cls=cls/\o.data=.fields vs
noncomputable abbrev Cx.caught(X:Cx)(a:Ê):Cx:={X with A:=X.A.mark<|dF<|.ref a,calm:=dJ,xe:=λ_ _=>False}
section
variable {X:Cx}{Á:List (Ê×Obj)}{σ:St}{H H':Hp}{s s':Ä}{a:Ê}{cls:Â}
def Inv.caught(I:Inv X Á σ H s)(a:Ê):Inv (X.caught a) Á σ H s :=
 ⟨⟨I.ok.mod,I.ok.kind,I.ok.glob,I.ok.blt,I.ok.above,I.ok.inj,I.ok.has,I.ok.cab,λz=>Bool.noConfusion z,I.ok.frames,I.ok.stk,I.ok.exf,I.ok.bs,I.ok.bsz,I.ok.noex,I.ok.exfs,I.ok.funs,I.ok.frf⟩,I.os,I.bare,I.base,I.loc,I.cell,I.free,I.freeC,I.pin,I.hok,I.len⟩
def Inv.uncaught(I:Inv (X.caught a) Á σ H s)(ok:X.Ok):Inv X Á σ H s:=⟨ok,I.os,I.bare,I.base,I.loc,I.cell,I.free,I.freeC,I.pin,I.hok,I.len⟩
variable {l:List Env}
def Fl.hold{P:é}{w:Ā}(f:Fl P w l H s H' a cls s')(h0:HOk P w H s.heap):s'.os=s.os/\Un (frs l) [] H (upd H' a<|xcO a cls) s.heap s'.heap/\HOk P w (upd H' a<|xcO a cls) s'.heap:=by
 have na:∀b o,s.heap.get? b=dF o->b≠a:=λb o e z=>by rw[z,f.na]at e;cases e
 have nH:∀b o,H b=dF o->b≠a:=λb o e z=>by rw[z,h0.none_of f.na]at e;cases e
 have nH':∀b o,H' b=dF o->b≠a:=λb o e z=>by rw[z,f.ha]at e;cases e
 refine⟨f.os,⟨f.un.keep,f.un.slot,λb o e n hx=>?_,f.un.there,λb xs e=>?_,λb o u e=>?_,λb ps e=>?_⟩,λb u e=>?_⟩
 .rw[dL<|na b o e];exact f.un.free b o e n hx
 .rw[dL<|nH b _ e];exact f.un.tups b xs e
 .rw[dL<|nH b _ e];exact f.un.frzs b o u e
 .rw[dL<|nH b _ e];exact f.un.tbls b ps e
 .by_cases hb:b=a
  .subst hb;rw[dM]at e;cases e;let⟨T,⟨oe,vs,a0,he,hc,hd,_⟩,_⟩:=f.ex;exact⟨⟨oe,vs,he,hc,hd⟩,⟨oe,he⟩,λh1 h2 ⟨o,vs,e1,e2,e3⟩ k=>⟨o,vs,k o e1,e2,e3⟩⟩
  .rw[dL hb]at e;exact(f.hok b u e).stay (λ_ _ _ q=>q) (λc q=>by rw[dL<|nH' c _ q];exact q) λc xs q=>by rw[dL<|nH' c _ q];exact q
variable {B:ć}
def UO{a0:Â}{h h':ć}(z:Ϛ B l a cls a0 h h'):∃t,NS h' a cls (dF t):=by let⟨_,_,⟨oe,vs,t,oT,ts,e1,⟨e2,e3⟩,e4,e5,e6,e7,e8,e9,e10⟩,_⟩:=z;exact⟨t,oe,vs,a0,e1,e2,e4,e3,e5,e7,oT,ts,.none,e8,e9,e10⟩
def WL{M:cO}{A:ď}{E:Â->Ä->Prop}{Q:Unit->Ä->Prop}{t:Ê}(hl:s.heap.FunFrames B l)(hx:NS s.heap a cls<|dF t)
  (h:∀h' a0,Ϛ (Xd s.heap l a<|dF t) l a cls a0 s.heap h'->Q () {s with heap:=h'}):wpAny M A (setFlight (.ref a) dG) Q E s:=by
 let⟨oe,vs,a0,he,hc,hd,h0,h1,ŝ,oT,ts,fl,e1,e2,e3⟩:=hx;exact wpAny_setFlight_noneW (Yw _ _ _ _) (We a (dF t) hl) ⟨oe,vs,t,oT,ts,he,⟨hc,h0⟩,hd,h1,MU _ _ _ _,ŝ,e1,e2,e3⟩ λh2 j1 j2 j3 j4 =>
  h h2 a0 ⟨j1,j2,j3,λb o e nf=>⟨o.slots,j4 b o e nf⟩⟩
end
section
variable {X:Cx}{Á:List (Ê×Obj)}{σ:St}{H H':Hp}{s s':Ä}{a:Ê}{cls:Â}
def Ux{h:ć}{T:Option Ê}{t:Ê}(x:NS h a cls T)(y:NS h a cls<|dF t):T=dF t:=by
 let⟨oe,vs,a0,he,hc,hd,h0,ht⟩:=x;let⟨oe',vs',a0',he',hc',hd',h0',h1',_⟩:=y;rw[he]at he';cases he';rw[hd]at hd';cases hd';cases T with
 |none=>rw[show vs[1]?=dF Value.none from ht]at h1';cases h1'
 |some u =>rw[ht.1]at h1';cases h1';rfl
def Xz{M:cO}{A:ď}{E:Â->Ä->Prop}{Q:Unit->Ä->Prop}{i:Nat}{n:Str}{ç:Pos}(I:Inv X Á σ H s)(hN:X.N.Nodup)(hi:X.N[i]?=dF n)(hn:X.env.scope.names.lookup n=dF .local)
  (h:∀s',Inv X Á (σ.set i dG) H s'->Q () s'):wpAny M A (do bindName X.env n .none;unbindBehindTheSuite X.env n ç) Q E s:=by
 let⟨m,hm,hl⟩:=id I.loc;have bV:(X.env.scope.kind == .class||(X.env.scope.kind == .module&&X.env.locals != X.env.globals))=dJ:=by rw[I.ok.kind];rfl
 refine wpAny_nameGoes_keeps hn hm bV λh' v hn' sb=>h _ ?_;have neL:∀b o,X.s₀.heap.get? b=dF o->b≠X.env.locals:=λb o e=>ë<|è (Ù e) I.ok.above;have same:∀b,b≠X.env.locals->h'.get? b=s.heap.get? b:=λb hb=>sb.2 b hb;refine⟨I.ok,I.os,I.bare,⟨λb o e n hb hx=>?_,λb o e n hb hx=>?_,I.base.free,λb o e hx=>?_,I.base.tups,I.base.frzs,I.base.tbls⟩,⟨_,hn',λj x u e1 e2 e3=>?_⟩,λx c e=>?_,I.free,I.freeC,λp hp=>?_,λb u e=>?_,by rw[ű];exact I.len⟩
 .exact(same b<|neL b o e).trans<|I.base.keep b o e n hb hx
 .obtain⟨sl,e1⟩:=I.base.slot b o e n hb hx;exact⟨sl,(same b<|neL b o e).trans e1⟩
 .obtain⟨o',e1⟩:=I.base.there b o e hx;exact⟨o',(same b<|neL b o e).trans e1⟩
 .have hji:j≠i:=by
   intro z;subst z;rw[υ ]at e2;cases q:σ[j]? with
   |none=>rw[q]at e2;cases e2
   |some _=>rw[q]at e2;cases e2
  rw[Ħ<|Ne.symm hji]at e2;let⟨w,r,l⟩:=hl j x u e1 e2 e3;refine⟨w,r,?_⟩;have xn:x≠n:=λz=>hji (Jp hN (by rw[<-z];exact e1) hi);rcases l with⟨l1,l2⟩|⟨k,c,e,o,ho,hd⟩
  .exact .inl ⟨l1,by show(if x=n then v else m x)=dF w;rw[fB xn];exact l2⟩
  .exact .inr ⟨k,c,e,o,(same c<|I.cne x c e).trans ho,hd⟩
 .obtain⟨v,o,ho,hd⟩:=I.cell x c e;exact⟨v,o,(same c<|I.cne x c e).trans ho,hd⟩
 .obtain⟨e,n,ne,nf,d⟩:=I.pin p hp;exact⟨(same p.1 ne).trans e,n,ne,nf,d⟩
 .have nl:∀c v,H c=dF v->c≠X.env.locals:=λc v q z=>by rw[z,I.free]at q;cases q
  refine(I.hok b u e).stay (λc v hc q=>?_) (λ_ q=>q) λ_ _ q=>q;rcases hc with z|z
  .rw[z]at q ⊢;exact(same b<|nl b u e).trans q
  .exact(same c<|nl c _ z).trans q
end
abbrev B2(i:Nat)(D:Ends):Ends:={nx:=λσ H=>D.nx (σ.set i dG) H,rt:=D.rt,bk:=λσ H=>D.bk (σ.set i dG) H,ct:=λσ H=>D.ct (σ.set i dG) H}
abbrev RL(K:Frag)(C:Â)(i:Nat)(tb:Ends->XK->St->Hp->Prop)(ts:TS):TS:=λD σ H =>
 tb D (λcls _ H'=>PySem.W.exmOne K cls C=dF dI/\∀a,H' a=dG->ts (B2 i D) (σ.set i<|dF<|.ref a) (upd H' a<|xcO a cls)) σ H
section
variable {X:Cx}{body ϊ:List ğ}{b₀:ğ}{T n:Str}{tp bz ç:Pos}{C:Â}{i:Nat}{tb:Ends->XK->St->Hp->Prop}{ts:TS}
def Pj(ł:X.stack=X.env::X.outer)(hN:X.N.Nodup)(hi:X.N[i]?=dF n)(hn:X.env.scope.names.lookup n=dF .local)(hb:PB X body tb)(hg:Gl X T)(hm:X.mg T=dF C)(hs:∀a,PSs (X.caught a) (b₀::ϊ) ts)(ϑ:(T==("__debug__" : Str))=dJ:=by decide) :
  PS X (.Try body [.ExceptHandler (dF<|.Name T tp) (dF n) (b₀::ϊ) bz] [] [] ç) (RL X.K C i tb ts):=by
 intro Á s σ H D I h;refine wpAny_Try_except<|Ġ (hb Á s σ H D _ I h) (λf s1 q=>?_) λv s' hx=>?_
 .cases f with
  |next=>exact ŋ q
  |brk=>exact q
  |cont=>exact q
  |ret u=>exact q
 let⟨a,cls,H1,H',s1,rfl,I1,f,bV,hk⟩:=hx;have J:=I1.raised f;let⟨T0,hx,hT⟩:=f.ex;have ce:=XT I.ok ł;have jst:=J.stack;have jfr:=J.stkFree;have fr:=I.ok.frames;rw[ł]at jst jfr fr;have Λ:∀{s2:Ä},Fl X.prog X.w (X.env::X.outer) H1 s1 H' a cls s2->Fl X.prog X.w X.stack H1 s1 H' a cls s2:=λz=>by rw[ł];exact z
 have f':Fl X.prog X.w (X.env::X.outer) H1 s1 H' a cls s':=by rw[<-ł];exact f
 refine Wy fr ce jst hx λh' a0 z=>?_;have f2:=f'.left hT jst jfr z;let⟨T2,bG,hT2⟩:=f2.ex;let⟨t,hx2'⟩:=UO z;have et:=Ux bG hx2';subst et;have J2:=I1.raised<|Λ f2;have cf:=J2.stack;rw[ł]at cf;let⟨oe,vs,b0,he,hc,_⟩:=id bG;have LT:PySem.W.Looks (Þ X.prog X.w) h' (du<|.ref a) cls:=by subst hc;exact(PySem.W.Looks.ld he).andThen .now
 refine wpAny_handleBy_cons (codeAny_handlers_test<|Yu (X:=X.caught a) (J2.caught a) hg hm ((PySem.W.exm_one J2.kIn LT bV).here ?_) ϑ) (by intro q;cases q);refine codeAny_handlers_suite_as<|WL cf bG λh3 a1 z3=>?_;have f3:=f2.left hT2 cf jfr z3;let⟨os3,un3,hok3⟩:=(Λ f3).hold I1.hok;have J3:Inv X Á σ (upd H' a<|xcO a cls) {s' with heap:=h3}:=I1.call' (ch:=[]) os3 un3 hok3 f3.bare (λb z=>fI z<|by simp);refine JL (X:=X.caught a) (J3.caught a) hN hi (.inl hn) (show RelV (.ref a) (.ref a) from rfl) (λs4 I4=>?_)<|.inr hn;refine Ġ (hs a Á s4 _ _ (B2 i D) I4<|hk a f3.ha) (λfl s5 q5=>?_) λ_ _ z=>č z;cases fl with
 |next =>let⟨cZ,H5,I5,q⟩:=q5;exact Xz (I5.uncaught I.ok) hN hi hn λs6 I6=>⟨_,H5,I6,q⟩
 |brk =>let⟨cZ,H5,I5,q⟩:=q5;exact Xz (I5.uncaught I.ok) hN hi hn λs6 I6=>⟨_,H5,I6,q⟩
 |cont =>let⟨cZ,H5,I5,q⟩:=q5;exact Xz (I5.uncaught I.ok) hN hi hn λs6 I6=>⟨_,H5,I6,q⟩
 |ret u =>let⟨v,cZ,H5,I5,r,q⟩:=q5;exact Xz (I5.uncaught I.ok) hN hi hn λs6 I6=>⟨v,_,H5,I6,r,q⟩
end
end L2
namespace L2
open PySem PySem.Spec PySem.W PySem.Calls PyProof.Rows PySem.Builtin PySem.Builtin.ObjectAttr PySem.Builtin.Getset_descriptor
section
variable {prog:é}{w:Ā}{A:ď}{E:Â->Ä->Prop}{K:Ź}{h:ć}{g:Array GenState}{d:Drawn}{t:Nat}{os:OsState}{a C:Ê}{o:Obj}
structure XCls(K:Ź)(C:Ê):Prop where
 ga:ϡ K (.ref C) "__getattribute__" = dF (dF<|.builtin "BaseException.__getattribute__")
 gr:ϡ K (.ref C) "__getattr__" = dF dG
 cl:ϡ K (.ref C) "__class__" = dF (dF<|.builtin "object.__class__")
 mo:mroIn K C (.type "object")=dF dI
 mb:mroIn K C (.type "BaseException")=dF dI
 ci:(clsIn K C).isSome=dI
variable {R:dh->Ä->Prop}
def Hj(X:K.In h)(hx:h.get? a=dF o)(hc:o.cls=.ref C)(Z:XCls K C)(hq:R (.ok<|.ret<|.ref C) ⟨h,g,d,t,os⟩) :
  codeAny (Þ prog w) A (.call (.builtin "getset_descriptor.__get__") ⟨[.builtin "object.__class__",.ref a,.ref C],[]⟩) R ⟨h,g,d,t,os⟩:=by
 have L0:Looks (Þ prog w) h (du<|.ref a)<|.ref C:=hc▸(Looks.ld hx).andThen .now;have L1:=looks_mroIn (M:=Þ prog w) X Z.mo;refine codeAny_call_builtin KF.slot_gs.plain KF.entry_gs<|KF.slot_gs.check _ _ _ _ _ _ _ _ KF.type_class (KF.args_gs _ _ _) ?_;unfold Builtin.«getset_descriptor.__get__» descrGet;rw[dga_obj];refine Ã<|Õ ?_;unfold descrGetter descrCheckInstance descrNameAndClass isInstance;simp only[KF.owner_class]
 repeat lk
 refine⟨Code.quiet_builtin _ (by decide +kernel),η KF.entry_class ?_⟩;unfold Builtin.«object.__class__» shownTypeOf
 repeat lk
 exact hq
variable {tk:Tok}
def Bl{Q:Fin->Ä->Prop}(X:K.In h)(hx:h.get? a=dF o)(hc:o.cls=.ref C)(Z:XCls K C)(hq:Q (.done<|.ret<|.ref C) ⟨h,g,d,t,os⟩) :
  wpAny (Þ prog w) A (Builtin.«object.__getattribute__» ⟨[.ref a,.str "__class__" tk],[]⟩) Q E ⟨h,g,d,t,os⟩:=by
 have L0:Looks (Þ prog w) h (du<|.ref a)<|.ref C:=hc▸(Looks.ld hx).andThen .now;have L1:=dA (M:=Þ prog w) X Z.cl;have hT5:(⟨h,g,d,t,os⟩:Ä).TypeIs (.builtin "object.__class__") "getset_descriptor":=F.typeOf_object_class;have f5:=F.typeOf_object_class;have f6:=F.slot_gs_get.lookup;have f7:=F.slot_gs_set.lookup
 repeat (any_goals (first|assumption|(with_reducible refine Looks.at L0 ?_)|(with_reducible refine Looks.at L1 ?_)|(with_reducible refine ay hx ?_;rw[hc])|wp_step))
 refine Hj X hx hc Z ?_
 repeat (any_goals (first|assumption|wp_step))
def C7{nameV:Â}{M:cO}{Q:Unit->Ä->Prop}(X:K.In h)(hx:h.get? a=dF o)(hc:o.cls=.ref C)(Z:XCls K C)(hq:Q () ⟨h,g,d,t,os⟩) :
  wpAny M A (checkBuiltinCall "BaseException.__getattribute__" ⟨[.ref a,nameV],[]⟩) Q E ⟨h,g,d,t,os⟩:=by
 have hk:builtinKind "BaseException.__getattribute__" = dF .slot:=by decide +kernel
 have hsplit:splitId "BaseException.__getattribute__" = dF ("BaseException","__getattribute__"):=by decide +kernel
 have L1:=looks_mroIn (M:=M) X Z.mb;have ha:=F.args_bexc_ga (.ref a) nameV;simp only[checkBuiltinCall,hk,hsplit];refine Ã ?_;unfold isInstance
 repeat (first|(with_reducible refine ay hx ?_;rw[hc])|(with_reducible refine Looks.at L1 ?_)|wp_step)
 exact hq
def Eh(X:K.In h)(hx:h.get? a=dF o)(hc:o.cls=.ref C)(Z:XCls K C)(hq:R (.ok<|.ret<|.ref C) ⟨h,g,d,t,os⟩) :
  codeAny (Þ prog w) A (.call (.builtin "BaseException.__getattribute__") ⟨[.ref a,.str "__class__" tk],[]⟩) R ⟨h,g,d,t,os⟩ :=
 codeAny_call_builtin PySem.F.excAttr_ValueError.ga.plain F.entry_bexc_ga (C7 X hx hc Z<|Bl X hx hc Z hq)
end
section
variable {prog:é}{w:Ā}{A:ď}{E:Â->Ä->Prop}{K:Ź}{h:ć}{g:Array GenState}{d:Drawn}{t:Nat}{os:OsState}{a C:Ê}{o:Obj}
def Qs{tk:Tok}{fill:Bool}{Q:Â->Ä->Prop}(X:K.In h)(hx:h.get? a=dF o)(hc:o.cls=.ref C)(Z:XCls K C)(hq:Q (.ref C) ⟨h,g,d,t,os⟩) :
  wpAny (Þ prog w) A (getAttrBy (.ref a) (.str "__class__" tk) fill) Q E ⟨h,g,d,t,os⟩:=by
 have f3:=PySem.F.excAttr_ValueError.ga.bind<|.ref a;have L1:=dA (M:=Þ prog w) X Z.ga;have L2:=dA (M:=Þ prog w) X Z.gr;have bG:(ϔ "BaseException.__getattribute__" == ϔ "object.__getattribute__")=dJ:=by decide +kernel
 have hx1:(onTheHeap (Value.ref C)&&ϔ "BaseException.__getattribute__" == ϔ "object.__getattribute__")=dJ:=by rw[bG];rfl
 repeat (any_goals (first|assumption|(with_reducible refine ay hx ?_;rw[hc])|(with_reducible refine Looks.at L1 ?_)|(with_reducible refine Looks.at L2 ?_)|wp_step))
 refine Eh X hx hc Z ?_
 repeat (any_goals (first|assumption|wp_step))
def Gu{Q:Option Â->Ä->Prop}(X:K.In h)(hx:h.get? a=dF o)(hc:o.cls=.ref C)(Z:XCls K C)(hq:Q (dF<|.ref C) ⟨h,g,d,t+1,os⟩) :
  wpAny (Þ prog w) A (getAttr? (.ref a) "__class__") Q E ⟨h,g,d,t,os⟩:=by
 unfold getAttr? getAttrBy?
 repeat (any_goals (first|assumption|with_reducible apply Qs X hx hc Z|wp_step))
def Jq(Z:XCls K C):KitX K (.ref a) (.ref C) (λh=>∃o vs,h.get? a=dF o/\o.cls=.ref C/\o.data=.fields vs) where
 ty:=λ_ _ _ ⟨o,vs,e,c,_⟩=>c▸(Looks.ld e).andThen .now
 it:=λ_ _ X _=>by
  have hcD:=Z.ci;unfold clsIn at hcD;split at hcD
  .rename_i c' d' cd' sl' ho;intro A' Q' E' s' k q;unfold isType loadHead;exact Ã<|wpAny_loadPart (k _ _<|X _ _ ho)<|Õ q
  .cases hcD
 ne:=λh tp dd î n sl X htp=>by
  have hcD:=Z.ci;refine Ϩ.mpr λq=>?_;have e:C=tp:=Value.ref.inj<|beq_iff_eq.mp q;subst e;unfold clsIn at hcD;split at hcD
  .rename_i c' d' cd' sl' ho;have z:=(X _ _ ho).symm.trans htp;cases z
  .cases hcD
 ca:=λ{_ _ _ _ _ s} X ⟨o,vs,e,c,_⟩ k=>by let⟨h,g,d,t,os⟩:=s;exact Gu X e c Z k
end
end L2
namespace L2
open PySem PySem.Spec PyProof.Rows
section
variable {X:Cx}
def OE{Á:List (Ê×Obj)}{σ:St}{H:Hp}{s:Ä}{a:Ê}{cls:Â}(I:Inv X Á σ H s)(e:H a=dF (xcO a cls)):∃o vs,s.heap.get? a=dF o/\o.cls=cls/\o.data=.fields vs :=
 (show dW X.prog X.w H s.heap a (xcO a cls) from I.hok a _ e).1
def Ay:dU X (.builtin "isinstance") λxs H Q=>∃a C D b,xs=[.ref a,.ref D]/\H a=dF (xcO a<|.ref C)/\XCls X.K C/\PySem.W.kitOne X.K (.ref C) (.ref D)=dF b/\Q (.bl b) H:=by intro Á s σ H xs us Q I r h;let⟨a,C,D,b,rfl,ha,Z,e,q⟩:=h;let⟨u,v,rfl,ru,rv⟩:=JQ r;cases ru;cases rv;exact PySem.W.kia_one (Jq Z) I.kIn (OE I ha) e (λz=>nomatch z) λtk=>⟨.bl b,H,I.tok tk,rfl,q⟩
def Oh:dU X (.builtin "isinstance") λxs H Q=>∃a C T b,xs=[.ref a,.ty T]/\H a=dF (xcO a<|.ref C)/\XCls X.K C/\PySem.W.kitOne X.K (.ref C) (.type T)=dF b/\Q (.bl b) H:=by intro Á s σ H xs us Q I r h;let⟨a,C,T,b,rfl,ha,Z,e,q⟩:=h;let⟨u,v,rfl,ru,rv⟩:=JQ r;cases ru;cases rv;exact PySem.W.kia_one (Jq Z) I.kIn (OE I ha) e (λz=>nomatch z) λtk=>⟨.bl b,H,I.tok tk,rfl,q⟩
def Uj:∀{Cs:List Ê}{us:List Â},fo (Cs.map V.ref) us->us=Cs.map Value.ref
 |[],_,.nil=>rfl
 |C::Cs,_,.cons r rs=>by rw[Í,<-Uj rs];exact congrArg (· :: _) r
def N7:dU X (.builtin "isinstance") λxs H Q=>∃a C p,∃Cs:List Ê,∃b,xs=[.ref a,.ref p]/\H a=dF (xcO a<|.ref C)/\XCls X.K C/\H p=dF (.tup<|Cs.map V.ref)/\PySem.W.kitAny X.K (.ref C) (Cs.map Value.ref)=dF b/\Q (.bl b) H:=by intro Á s σ H xs us Q I r h;let⟨a,C,p,Cs,b,rfl,ha,Z,hp,e,q⟩:=h;let⟨u,v,rfl,ru,rv⟩:=JQ r;cases ru;cases rv;let⟨î,r',⟨⟨oc,od,dt,sl⟩,e1,c1,n,d1⟩,hz⟩:=I.tuple<|fm.of hp;simp only at c1 d1;subst c1 d1;have:=Uj r';subst this;exact PySem.W.kia_tup (Jq Z) I.kIn (OE I ha) e1 e (λz=>nomatch z) λtk=>⟨.bl b,H,I.tok tk,rfl,q⟩
def Kn:dU X (.type "int") λxs H Q=>∃z n,xs=[.str z]/\PySem.intText? z=dF n/\z.length<=640/\Q (.int n) H:=by intro Á s σ H xs us Q I r h;let⟨z,n,rfl,e,hl,q⟩:=h;let⟨u,rfl,t,rfl⟩:=ZL r;exact PySem.W.KIN.call_text e hl ⟨.int n,H,I.tok _,⟨_,rfl⟩,q⟩
end
abbrev Rp(K:Frag)(C:Â)(tb:Ends->XK->St->Hp->Prop)(ts:TS):TS:=λD σ H =>
 tb D (λcls _ H'=>PySem.W.exmOne K cls C=dF dI/\∀a,H' a=dG->ts D σ (upd H' a<|xcO a cls)) σ H
section
variable {X:Cx}{body ϊ:List ğ}{b₀:ğ}{T:Str}{tp bz ç:Pos}{C:Â}{tb:Ends->XK->St->Hp->Prop}{ts:TS}
def D4(ł:X.stack=X.env::X.outer)(hb:PB X body tb)(hg:Gl X T)(hm:X.mg T=dF C)(hs:∀a,PSs (X.caught a) (b₀::ϊ) ts)(ϑ:(T==("__debug__" : Str))=dJ:=by decide) :
  PS X (.Try body [.ExceptHandler (dF<|.Name T tp) dG (b₀::ϊ) bz] [] [] ç) (Rp X.K C tb ts):=by
 intro Á s σ H D I h;refine wpAny_Try_except<|Ġ (hb Á s σ H D _ I h) (λf s1 q=>?_) λv s' hx=>?_
 .cases f with
  |next=>exact ŋ q
  |brk=>exact q
  |cont=>exact q
  |ret u=>exact q
 let⟨a,cls,H1,H',s1,rfl,I1,f,bV,hk⟩:=hx;have J:=I1.raised f;let⟨T0,hx,hT⟩:=f.ex;have ce:=XT I.ok ł;have jst:=J.stack;have jfr:=J.stkFree;have fr:=I.ok.frames;rw[ł]at jst jfr fr;have Λ:∀{s2:Ä},Fl X.prog X.w (X.env::X.outer) H1 s1 H' a cls s2->Fl X.prog X.w X.stack H1 s1 H' a cls s2:=λz=>by rw[ł];exact z
 have f':Fl X.prog X.w (X.env::X.outer) H1 s1 H' a cls s':=by rw[<-ł];exact f
 refine Wy fr ce jst hx λh' a0 z=>?_;have f2:=f'.left hT jst jfr z;let⟨T2,bG,hT2⟩:=f2.ex;let⟨t,hx2'⟩:=UO z;have et:=Ux bG hx2';subst et;have J2:=I1.raised<|Λ f2;have cf:=J2.stack;rw[ł]at cf;let⟨oe,vs,b0,he,hc,_⟩:=id bG;have LT:PySem.W.Looks (Þ X.prog X.w) h' (du<|.ref a) cls:=by subst hc;exact(PySem.W.Looks.ld he).andThen .now
 refine wpAny_handleBy_cons (codeAny_handlers_test<|Yu (X:=X.caught a) (J2.caught a) hg hm ((PySem.W.exm_one J2.kIn LT bV).here ?_) ϑ) (by intro q;cases q);refine codeAny_handlers_suite<|WL cf bG λh3 a1 z3=>?_;have f3:=f2.left hT2 cf jfr z3;let⟨os3,un3,hok3⟩:=(Λ f3).hold I1.hok;have J3:Inv X Á σ (upd H' a<|xcO a cls) {s' with heap:=h3}:=I1.call' (ch:=[]) os3 un3 hok3 f3.bare (λb z=>fI z<|by simp);refine Ġ (hs a Á _ _ _ D (J3.caught a)<|hk a f3.ha) (λfl s5 q5=>?_) λ_ _ z=>č z;cases fl with
 |next =>let⟨cZ,H5,I5,q⟩:=q5;exact⟨_,H5,I5.uncaught I.ok,q⟩
 |brk =>let⟨cZ,H5,I5,q⟩:=q5;exact⟨_,H5,I5.uncaught I.ok,q⟩
 |cont =>let⟨cZ,H5,I5,q⟩:=q5;exact⟨_,H5,I5.uncaught I.ok,q⟩
 |ret u =>let⟨v,cZ,H5,I5,r,q⟩:=q5;exact⟨v,_,H5,I5.uncaught I.ok,r,q⟩
end
end L2
namespace L2
open PySem PySem.Spec PyProof.Rows
open PySem.Builtin PySem.Builtin.Str
abbrev Aa(z:Str)(lo hi:Option Int):Str:=if(θ lo hi 1 z.length).length=z.length then z else⟨((θ lo hi 1 z.length).filterMap (z.cps[·]?)).toArray⟩
def BM(z:Str)(lo hi:Option Int):(Aa z lo hi).length<=z.length:=by
 unfold Aa;split
 .exact Ì _
 .show((θ lo hi 1 z.length).filterMap (z.cps[·]?)).toArray.size<=_;rw[Ë];exact Ô (aZ _ _)<|indices_len_le lo hi z.length
section
variable {X:Cx}
abbrev PV:V->Option Int->Option Int->Hp->VK->Prop:=λx lo hi H Q=>∃z,x=.str z/\z.length<=Ü/\Q (.str<|Aa z lo hi) H
def Uw{v:Â}{lo:Option Int}(h:ύ v lo):∃l:Option<|Int×Tok,v=partValue l/\l.map (·.1)=lo:=by
 cases h with
 |none=>exact⟨dG,rfl,rfl⟩
 |int i t=>exact⟨dF (i,t),rfl,rfl⟩
def sl_str:SlR X PV:=by
 intro Á s σ H x v vl vu lo hi sl Q I rx hs pl pu h;let⟨z,rfl,hz,q⟩:=h;let⟨t,rfl⟩:=rx;refine⟨"str",_,slot_str_getitem.lookup,typeIs_str s z t,?_⟩;let⟨l,rfl,el⟩:=Uw pl;let⟨u,rfl,eu⟩:=Uw pu;have hs':s.heap.IsSlice sl l u dG:=hs;refine wpAny_getItem_str_slice hs' rfl ?_;have e:sliceMade z t l u dG=if(θ lo hi 1 z.length).length=z.length then .val (.str z t)else .str ⟨((θ lo hi 1 z.length).filterMap (z.cps[·]?)).toArray⟩:=by unfold sliceMade slicePicked;rw[el,eu];simp
 rw[e];have cl:=BM z lo hi;unfold Aa at q cl;split
 .rename_i hh;rw[fA hh]at q;exact⟨.str z,H,I,⟨t,rfl⟩,q⟩
 .rename_i hh;rw[fB hh]at q cl;exact⟨Ô cl hz,.str _,H,I.tok _,⟨_,rfl⟩,q⟩
end
section
variable {X:Cx}
def UV(z:Str):∀(n:Nat) (a:Array Nat),((Ú n z.cps).foldl (· ++ ·) a).size=a.size+n*z.cps.size
 |0,a=>by simp
 |n+1,a=>by rw[Ĉ,Ķ,UV z n,Array.size_append,Nat.succ_mul];lia
end
end L2
namespace L2
open PySem PySem.Spec PyProof.Rows
section
variable {X:Cx}(K:Frag) (h:X.K=K)
include h
end
end L2
namespace HT
open PySem PyProof.Rows
open PySem.SeqAt
open PySem.AutoSeq1 (wpAny_loadPart')
open PySem.MeetsSeq PySem.MeetsSeq2 PySem.MeetsSeq3
section
variable {prog:é}{w:Ā}{A:ď}{E:Â->Ä->Prop}{s:Ä}
def getItem_tuple_whole{t sl:Ê}{items:Array Â}{vl vu:Â}{lo hi:Option Int}{Q:Â->Ä->Prop}(ht:ϱ s.heap t items)(hs:s.heap.IsSliceOf sl vl vu .none)(pl:ύ vl lo)(pu:ύ vu hi)
  (hw:sIx items.size 0 lo=0/\sIx items.size items.size hi=items.size)
  (h:Q (.ref t) s):wpAny (Þ prog w) A (ϋ (.ref t)<|.ref sl) Q E s:=by
 let⟨os,hos,hcs,hds⟩:=id hs;have hTs:s.TypeIs (.ref sl) "slice":=⟨os,hos,hcs⟩
 unfold ϋ
 try with_reducible refine Ł ?_
 first|refine Ã (Õ ?_)|skip
 refine Ã (wpAny_sequenceKey ht.typeIs (by decide) ?_);refine Ã (ĩ (name:=fK "__getitem__") ht.typeIs PyProof.Rows.slot_tuple_getitem
   (Ĳ PyProof.Rows.slot_tuple_getitem ht.typeIs entry_tuple_getitem ?_<|args_tuple_getitem _ _))
 show wpAny _ _ (Builtin.Tuple.tupleItemsOf (.ref t) >>= _) _ _ s;refine Ã<|tupleItemsOf_ ht ?_;refine Ã<|dk hTs ?_;rw[fA<|by decide];refine Ã<|YL hs pl pu ?_;have hyes:(((sIx items.size 0 lo:Nat):Int)==0&&(1:Int)==1&&(sIx items.size items.size hi - sIx items.size 0 lo)==items.size)=dI:=by rw[hw.1,hw.2];simp
 show wpAny _ _ (if(((sIx items.size 0 lo:Nat):Int)==0&&(1:Int)==1&&(sIx items.size items.size hi - sIx items.size 0 lo)==items.size)=dI then _ else _) _ _ s;rw[fA hyes];refine Ã ?_;unfold Builtin.Tuple.tupleIsExact;refine Ã<|dk ht.typeIs<|Õ ?_;rw[fA<|by decide]
 first
  |exact Ã<|Õ<|Õ ⟨_,rfl,Õ h⟩
  |exact Ã<|wpAny_rule<|Õ ⟨_,rfl,Õ h⟩
  |exact Õ ⟨_,rfl,Õ h⟩
end
end HT
namespace L2
open PySem PySem.Spec PyProof.Rows
section
variable {X:Cx}
abbrev Pp(K:Frag):V->Option Int->Option Int->Hp->VK->Prop:=λx lo hi H Q=>∃a xs,x=.ref a/\fm K H a xs/\(HT.sIx xs.length 0 lo=0/\HT.sIx xs.length xs.length hi=xs.length)/\Q (.ref a) H
def Ec:SlR X<|Pp X.K:=by
 intro Á s σ H x v vl vu lo hi sl Q I rx hs pl pu h;let⟨a,xs,rfl,hx,hw,q⟩:=h;cases rx;let⟨î,r,ht,hz⟩:=I.tuple hx;have hlen:î.toArray.size=xs.length:=by rw[Ë];exact r.length.symm
 refine⟨"tuple",_,PyProof.Rows.slot_tuple_getitem.lookup,ht.typeIs,?_⟩;exact HT.getItem_tuple_whole ht hs pl pu (by rw[hlen];exact hw) ⟨.ref a,H,I,rfl,q⟩
end
end L2
namespace L2
open PySem PySem.Spec PyProof.Rows
open PySem.Builtin PySem.Builtin.Str
section
variable {X:Cx}
abbrev La(z:Str)(n:Nat):Str:=⟨(Ú n z.cps).foldl (· ++ ·) #[]⟩
def KG(z:Array Nat):∀(n:Nat) (a:Array Nat),((Ú n z).foldl (· ++ ·) a).toList=a.toList++(Ú n z.toList).flatten
 |0,a=>by simp
 |n+1,a=>by rw[Ĉ,Ķ,KG z n,Ĉ,ĸ,Array.toList_append,Đ]
abbrev GU:R2:=λx y H Q=>∃z k,x=.str z/\y=.int k/\2<=k/\k<=1000000/\1<=z.length/\z.length*k.toNat<=1000000/\Q (.str<|La z k.toNat) H
def EK:OpR X (Ļ .Mult) GU:=by
 intro Á s σ H x y v u Q I rx ry h;let⟨z,k,rfl,rfl,h2,h6,h1,hz,q⟩:=h;let⟨t,rfl⟩:=rx;let⟨t',rfl⟩:=ry;have big:(1000000:Nat)<=Ü:=by decide
 have nb:(k==1||z.length==0)=dJ:=by have e1:(k==1)=dJ:=beq_false_of_ne (by lia);have e2:(z.length==0)=dJ:=beq_false_of_ne (by lia);rw[e1,e2];rfl
 have zl:z.length<=1000000:=by have:z.length*1<=z.length*k.toNat:=cT _ (by lia);lia
 have hr:(fJ (k < -(2 ^ 63:Int))||fJ (k≥2 ^ 63))=dJ:=by rw[fE (by lia),fE<|by lia];rfl
 have hb:¬ k<1->(k==1||z.length==0)=dJ->¬ ((z.length:Int) > (2 ^ 63 - 1) / k):=λ_ _=>by have:(1000000:Int)<=(2 ^ 63 - 1) / k:=(Int.le_ediv_iff_mul_le<|by lia).mpr (by lia);lia
 have hl:¬ k<1->(k==1||z.length==0)=dJ->tooLong (z.length*k.toNat)=dJ:=λ_ _=>by unfold tooLong;exact fE (by lia)
 refine P.mul_str hr hb hl ?_;rw[fB (by lia),fB<|by rw[nb];exact ù];have el:(⟨(Ú k.toNat z.cps).foldl (· ++ ·) #[]⟩:Str).length=z.length*k.toNat:=by show((Ú k.toNat z.cps).foldl (· ++ ·) #[]).size=_;rw[UV,bM z.length];simp[Str.length]
 exact⟨by rw[el];lia,.str _,H,I.tok _,⟨_,rfl⟩,q⟩
variable {c y z a b:Str}{k1 k2 k3:Nat}{p1 p2 p3 p4 pa pb Ń ĺ:Pos}
end
end L2
namespace L2
open PySem PySem.Spec PyProof.Rows
section
variable {X:Cx}
abbrev G9(K:Frag):R2:=λx y H Q=>∃a b ys,x=.ref a/\y=.ref b/\fm K H a []/\fm K H b ys/\Q (.ref b) H
def op_cat0:OpR X (Ļ .Add)<|G9 X.K:=by
 intro Á s σ H x y v u Q I rx ry h;let⟨a,b,ys,rfl,rfl,ha,hb,q⟩:=h;cases rx;cases ry;let⟨î,r1,p1,_⟩:=I.tuple ha;let⟨ae,r2,p2,_⟩:=I.tuple hb;cases r1;let⟨⟨cls,dd,data,sl⟩,ho,hc,n,hd⟩:=id p1;let⟨⟨cls2,cu,data2,cX⟩,ho2,hc2,n2,aI⟩:=id p2;simp only at hc hd hc2 aI;subst hc hd hc2 aI;exact dj ⟨_,ho,rfl⟩ ⟨_,ho2,rfl⟩ aP cC PySem.F.slot_tuple_add PySem.F.entry_tuple_add (PySem.F.args_tuple_add_2 _ _)
  (tuple_addW0 a b _ _ n n2 dd cu sl cX rfl) ⟨ho,ho2,.ref b,H,I,rfl,q⟩
end
section
variable {X:Cx}
abbrev P5(te:TE):TE:=λσ H Q=>te σ H λx H1=>(∃i,x=.int i/\i.natAbs.log2<1920/\Q (.str<|toString i) H1)\/∃z,x=.str z/\z.length<=Ü/\Q (.str z) H1
def Gi{e:Expr}{te:TE}{ç:Pos}(he:PE X e te):PE X (.FormattedValue e (-1) dG ç)<|P5 te:=by
 intro Á s σ H Q I h;refine wpAny_FormattedValue_plain<|thn (he Á s σ H _ I h) λv s1 ⟨x,H1,I1,r1,q1⟩=>?_;rcases q1 with⟨i,e1,hd,q1⟩|⟨z,e1,hz,q1⟩
 .subst e1;let⟨t,rfl⟩:=r1;exact wpAny_formatField_int hd ⟨.str _,H1,I1.tok _,⟨_,rfl⟩,q1⟩
 .subst e1;let⟨t,rfl⟩:=r1;exact wpAny_formatField_str ⟨.str _,H1,I1,⟨_,rfl⟩,q1⟩ ⟨.str _,H1,I1.tok _,⟨_,rfl⟩,q1⟩ hz
abbrev Gh(K:Frag)(neg:Bool):R2:=λx y H Q=>∃ds d,(IsD K H y (.tuple ds)\/IsD K H y (.list ds))/\IsD K H x d/\ņ ds=dI/\d.canLay0=dI/\d.depth<=64/\Q (.bl<|if neg then !ds.any (λe=>Ģ e d)else ds.any λe=>Ģ e d) H
def Lu(hu:X.A.units+65<Ĥ):OpR X (ê .In)<|Gh X.K dJ:=by
 intro Á s σ H x y v u Q I rx ry h;let⟨ds,d,hd,he,sd,se,hdp,q⟩:=h;let⟨bs,rb⟩:=he.reads I rx;have hr:X.A.units+1+min (ĳ ds) d.depth<Ĥ:=by have:min (ĳ ds) d.depth<=d.depth:=Ϲ _ _;lia
 rcases hd with hd|hd
 .obtain⟨as,ra⟩:=hd.reads I ry;exact SeqAt.in_tuple_reads ra rb sd se hr ⟨.bl _,H,I,rfl,q⟩
 .obtain⟨as,ra⟩:=hd.reads I ry;exact SeqAt.in_list_reads ra rb sd se hr ⟨.bl _,H,I,rfl,q⟩
def Au(hu:X.A.units+65<Ĥ):OpR X (ê .NotIn)<|Gh X.K dI:=by
 intro Á s σ H x y v u Q I rx ry h;let⟨ds,d,hd,he,sd,se,hdp,q⟩:=h;let⟨bs,rb⟩:=he.reads I rx;have hr:X.A.units+1+min (ĳ ds) d.depth<Ĥ:=by have:min (ĳ ds) d.depth<=d.depth:=Ϲ _ _;lia
 rcases hd with hd|hd
 .obtain⟨as,ra⟩:=hd.reads I ry;exact SeqAt.notIn_tuple_reads ra rb sd se hr ⟨.bl _,H,I,rfl,q⟩
 .obtain⟨as,ra⟩:=hd.reads I ry;exact SeqAt.notIn_list_reads ra rb sd se hr ⟨.bl _,H,I,rfl,q⟩
end
section
variable {κ:Type} [DecidableEq κ]
abbrev YK(kvs:List<|κ×V)(k:κ):Option V:=(kvs.find? λkv=>fJ (kv.1=k)).map (·.2)
abbrev ej(kvs:List<|κ×V)(k:κ)(v:V):List (κ×V) :=
 if(kvs.any λkv=>fJ (kv.1=k))=dI then kvs.map (λkv=>if kv.1=k then(kv.1,v)else kv)else kvs++[(k,v)]
abbrev eB(kvs:List<|κ×V)(k:κ):List<|κ×V:=kvs.filter λkv=>fJ (kv.1≠k)
variable {p:κ×V} {r:List (κ×V)}
def Xp{k:κ}(e:p.1=k):YK (p::r) k=dF p.2:=by simp[YK,Ĕ,e]
def Xo{k:κ}(e:¬ p.1=k):YK (p::r) k=YK r k:=by simp[YK,Ĕ,e]
def Xk(k:κ):∀kvs:List<|κ×V,(kvs.any λkv=>fJ (kv.1=k))=(YK kvs k).isSome
 |[]=>rfl
 |p::r=>by
  rw[ĥ];by_cases e:p.1=k
  .simp only[Xp e,fG e,Bool.true_or,Option.isSome_some]
  .rw[Xo e,fE e,Bool.false_or];exact Xk k r
def Xu(kvs:List<|κ×V)(k:κ)(v:V):(ej kvs k v).length<=kvs.length+1:=by
 unfold ej;split
 .rw[À];lia
 .rw[Ö,Ç,ĝ];lia
variable {o:Option V} {u:Option Â}
def eC.isSome_eq(r:eC o u):o.isSome=u.isSome:=by
 cases o with
 |none=>cases u with
  |none=>rfl
  |some _=>exact(show False from r).elim
 |some _=>cases u with
  |none=>exact(show False from r).elim
  |some _=>rfl
def eC.getD{d:V}{d':Â}(r:eC o u)(rd:RelV d d'):RelV (o.getD d)<|u.getD d':=by
 cases o with
 |none=>cases u with
  |none=>exact rd
  |some _=>exact(show False from r).elim
 |some _=>cases u with
  |none=>exact(show False from r).elim
  |some _=>exact r
variable {kvs:List (κ×V)} {vs:List (κ×Â)}
def KV.val(r:KV kvs vs)(k:κ):eC (YK kvs k)<|ώ vs k:=by
 unfold KV at r;induction r with
 |nil=>exact True.intro
 |@cons p q ps qs h t ih =>
  let⟨h1,h2⟩:=h;by_cases e:p.1=k
  .have e':q.1=k:=h1.symm.trans e;have b:ώ (q::qs) k=dF q.2:=by simp[ώ,Ĕ,e']
   rw[Xp e,b];exact h2
  .have e':¬ q.1=k:=λz=>e<|h1.trans z;have b:ώ (q::qs) k=ώ qs k:=by simp[ώ,Ĕ,e']
   rw[Xo e,b];exact ih
def KV.any(r:KV kvs vs)(k:κ):(kvs.any λkv=>fJ (kv.1=k))=vs.any λkv=>fJ (kv.1=k):=by
 unfold KV at r;induction r with
 |nil=>rfl
 |cons h t ih=>rw[ĥ,ĥ,ih,h.1]
variable {y:V}
def KV.repl(r:KV kvs vs)(k:κ){u:Â}(ry:RelV y u) :
  KV (kvs.map λkv=>if kv.1=k then(kv.1,y)else kv) (vs.map λkv=>if kv.1=k then(kv.1,u)else kv):=by
 unfold KV at r ⊢;induction r with
 |nil=>exact .nil
 |@cons p q ps qs h t ih =>
  rw[Í,Í];refine .cons ?_ ih;let⟨h1,h2⟩:=h;by_cases e:p.1=k
  .rw[fA e,fA<|h1.symm.trans e];exact⟨h1,ry⟩
  .rw[fB e,fB λz=>e<|h1.trans z];exact⟨h1,h2⟩
def KV.put(r:KV kvs vs)(k:κ){u:Â}(ry:RelV y u):KV (ej kvs k y)<|stored vs k u:=by
 unfold ej stored;rw[r.any k];by_cases e:(vs.any λkv=>fJ (kv.1=k))=dI
 .rw[fA e,fA e];exact r.repl k ry
 .rw[fB e,fB e];exact Paired.snoc r ⟨rfl,ry⟩
def KV.drop(r:KV kvs vs)(k:κ):KV (eB kvs k)<|without vs k:=by
 unfold KV at r ⊢;unfold eB without;induction r with
 |nil=>exact .nil
 |@cons p q ps qs h t ih =>
  let⟨h1,h2⟩:=h;rw[ý,ý];by_cases e:p.1=k
  .have a:¬ fJ (p.1≠k)=dI:=by simp[e]
   have b:¬ fJ (q.1≠k)=dI:=by simp[h1.symm.trans e]
   rw[fB a,fB b];exact ih
  .have e':¬ q.1=k:=λz=>e<|h1.trans z;have a:fJ (p.1≠k)=dI:=by simp[e]
   have b:fJ (q.1≠k)=dI:=by simp[e']
   rw[fA a,fA b];exact .cons ⟨h1,h2⟩ ih
def KV.keys(r:KV kvs vs):kvs.map (·.1)=vs.map (·.1):=by
 unfold KV at r;induction r with
 |nil=>rfl
 |cons h t ih=>rw[Í,Í,ih,h.1]
def KV.length(r:KV kvs vs):kvs.length=vs.length:=Paired.length r
def Cc(kvs:List<|κ×V)(k:κ):(eB kvs k).length<=kvs.length:=đ _ _
end
variable {P:é} {w:Ā} {u:Â}
def X9{k:Key}(r:RelV (kV k) u):(Zg P w).is k u=dI:=by
 cases k with
 |inl i=>let⟨t,e⟩:=(show ∃t,u=Value.int i t from r);subst e;exact Nc P w i t
 |inr x=>let⟨t,e⟩:=(show ∃t,u=Value.str x t from r);subst e;exact NU P w x t
def K9{P:é}{w:Ā}:∀{ks:List Key}{us:List Â},fo (ks.map kV) us->ItemsAre (Zg P w) ks us
 |[],_,r=>by rw[ŵ]at r;cases r;exact .nil
 |k::ks,_,r=>by
  rw[Í]at r;cases r with
  |cons h t=>exact .cons (X9 h)<|K9 t
@[reducible] noncomputable def KTd(H:Hp):List (List Key×V)->List (List Key×Ê×Â)->Prop:=Paired λp q=>p.1=q.1/\H q.2.1=dF (.tup<|p.1.map kV)/\RelV p.2 q.2.2
variable {H:Hp} {kvs:List (List Key×V)} {xs:List (List Key×Ê×Â)}
def KTd.val(r:KTd H kvs xs)(k:List Key):eC (YK kvs k) ((bQ xs k).map (·.2)):=by
 induction r with
 |nil=>exact True.intro
 |@cons p q ps qs h t ih =>
  let⟨h1,_,h2⟩:=h;by_cases e:p.1=k
  .have e':q.1=k:=h1.symm.trans e;have b:bQ (q::qs) k=dF q.2:=by simp[bQ,Ĕ,e']
   rw[Xp e,b];exact h2
  .have e':¬ q.1=k:=λz=>e<|h1.trans z;have b:bQ (q::qs) k=bQ qs k:=by simp[bQ,Ĕ,e']
   rw[Xo e,b];exact ih
variable {y:V}
def KTd.repl(r:KTd H kvs xs)(k:List Key)(ry:RelV y u) :
  KTd H (kvs.map λkv=>if kv.1=k then(kv.1,y)else kv) (xs.map<|putAt k u):=by
 induction r with
 |nil=>exact .nil
 |@cons p q ps qs h t ih =>
  rw[Í,Í];refine .cons ?_ ih;let⟨h1,h2,h3⟩:=h;unfold putAt;by_cases e:p.1=k
  .rw[fA e,fA<|h1.symm.trans e];exact⟨h1,h2,ry⟩
  .rw[fB e,fB λz=>e<|h1.trans z];exact⟨h1,h2,h3⟩
variable {b:Ê}
def KTd.put(r:KTd H kvs xs)(k:List Key)(hb:H b=dF (.tup<|k.map kV))(ry:RelV y u) :
  KTd H (ej kvs k y) (storedH xs k b u):=by
 have e:(kvs.any λkv=>fJ (kv.1=k))=(bQ xs k).isSome:=by rw[Xk,(r.val k).isSome_eq,ϛ]
 unfold ej storedH;rw[e];by_cases q:(bQ xs k).isSome=dI
 .rw[fA q,fA q];exact r.repl k ry
 .rw[fB q,fB q];exact Paired.snoc r ⟨rfl,hb,ry⟩
variable {H':Hp}
def KTd.keeps(r:KTd H kvs xs)(ht:∀b ys,H b=dF (.tup ys)->H' b=dF (.tup ys)):KTd H' kvs xs :=
 Paired.mapP r λ_ _ z=>⟨z.1,ht _ _ z.2.1,z.2.2⟩
section
variable {P:é}{w:Ā}{H:Hp}{h:ć}{a:Ê}
def GI{u:HO}(ok:HOk P w H h)(e:Rd H a u):dW P w H h a u:=e.ok ok
def Wl{kvs:List (Key×V)}(ok:HOk P w H h)(e:Rd H a<|.dK kvs):kvs.length<=Ü/\(a==ň)=dJ/\∃vs,KV kvs vs/\h.DictOf (Zg P w) a vs :=
 show dW P w H h a (.dK kvs) from GI ok e
def Jk{kvs:List (Key×V)}(ok:HOk P w H h)(e:H a=dF (.dK kvs)):kvs.length<=Ü/\(a==ň)=dJ/\∃vs,KV kvs vs/\h.DictOf (Zg P w) a vs:=Wl ok (.inl e)
def d5{ks:List Key}(ok:HOk P w H h)(e:H a=dF (.tup<|ks.map kV)):(ϥ<|Zg P w).is h ks a:=by
 let⟨_,î,r,o,h1,h2,n,h3⟩:=(show dW P w H h a (.tup<|ks.map kV) from ok a _ e)
 exact⟨o,î.toArray,n,h1,h2,h3,by simpa using K9 r⟩
def Jt(ok:HOk P w H h)(e:Rd H a<|.dT kvs):kvs.length<=Ü/\(a==ň)=dJ/\
  ∃xs,KTd H kvs xs/\h.DictOfH (ϥ<|Zg P w) a xs:=by
 let⟨z,y,xs,r,o,es,ep,h1,h2,h3,h4,h5⟩:=(show dW P w H h a (.dT kvs) from GI ok e)
 refine⟨z,y,xs,r,o,es,ep,h1,h2,h3,h4,λx hx=>?_,h5⟩;have all:∀{l:List (List Key×V)}{m:List (List Key×Ê×Â)},KTd H l m->∀x∈m,(ϥ<|Zg P w).is h x.1 x.2.1:=by
  intro l m q;induction q with
  |nil=>intro x hx;exact nomatch hx
  |@cons p q ps qs hq t ih =>
   intro x hx;rcases Æ.mp hx with e|hx
   .subst e;exact d5 ok (by rw[<-hq.1];exact hq.2.1)
   .exact ih x hx
 exact all r x hx
def PM(ok:HOk P w H h)(e:H a=dF (.dT kvs)):kvs.length<=Ü/\(a==ň)=dJ/\
  ∃xs,KTd H kvs xs/\h.DictOfH (ϥ<|Zg P w) a xs:=Jt ok<|.inl e
end
abbrev DGet(H:Hp)(a:Ê)(y:V)(r:Option V):Prop :=
 (∃kvs k,Rd H a (.dK kvs)/\y=kV k/\r=YK kvs k)\/∃kvs k b,Rd H a (.dT kvs)/\y=.ref b/\H b=dF (.tup<|k.map kV)/\r=YK kvs k
abbrev DPut(H:Hp)(a:Ê)(y v:V)(H':Hp):Prop :=
 (∃kvs k,H a=dF (.dK kvs)/\y=kV k/\kvs.length<Ü/\H'=upd H a (.dK<|ej kvs k v))\/
 ∃kvs k b,H a=dF (.dT kvs)/\y=.ref b/\H b=dF (.tup<|k.map kV)/\kvs.length<Ü/\H'=upd H a (.dT<|ej kvs k v)
def DGet.k{H:Hp}{a:Ê}{kvs:List (Key×V)}{k:Key}(e:H a=dF (.dK kvs)):DGet H a (kV k)<|YK kvs k:=.inl ⟨kvs,k,.inl e,rfl,rfl⟩
variable {a:Ê}
def DGet.t{k:List Key}(e:H a=dF (.dT kvs))(eb:H b=dF (.tup<|k.map kV)):DGet H a (.ref b)<|YK kvs k:=.inr ⟨kvs,k,b,.inl e,rfl,eb,rfl⟩
def DPut.k{H:Hp}{a:Ê}{kvs:List (Key×V)}{k:Key}{v:V}(e:H a=dF (.dK kvs))(hl:kvs.length<Ü):DPut H a (kV k) v<|upd H a<|.dK<|ej kvs k v:=.inl ⟨kvs,k,e,rfl,hl,rfl⟩
def DPut.t{k:List Key}{v:V}(e:H a=dF (.dT kvs))(eb:H b=dF (.tup<|k.map kV))(hl:kvs.length<Ü) :
  DPut H a (.ref b) v (upd H a<|.dT<|ej kvs k v):=.inr ⟨kvs,k,b,e,rfl,eb,hl,rfl⟩
section
variable {X:Cx}{Á:List (Ê×Obj)}{σ:St}{H:Hp}{s:Ä}{a:Ê}{y v:V}{u r:Â}{o:Option V}{A:ď}{E:Â->Ä->Prop}
def Inv.big(I:Inv X Á σ H s):ň<s.heap.objs.size:=by have h:Ą<s.heap.objs.size:=(I.mod.glob.keeps I.bk).lt;exact ź (by decide) h
variable {Q:Â->Ä->Prop}
def KE(hu:A.units+1<Ĥ)(I:Inv X Á σ H s)(g:DGet H a y<|dF v)(ry:RelV y u)(h:∀w' s',Inv X Á σ H s'->RelV v w'->Q w' s') :
  wpAny (Þ X.prog X.w) A (ϋ (.ref a) u) Q E s:=by
 rcases g with⟨kvs,k,e,ey,l⟩|⟨kvs,k,b,e,ey,eb,l⟩
 .subst ey;let⟨z,hd,vs,Ş,dd⟩:=Wl I.hok e;let⟨w',hw,aD⟩:=eC.some_of (v:=v) (o:=ώ vs k) (by rw[l];exact Ş.val k);exact wpAny_getItem_of (X9 ry) dd.mapOf hw<|h w' _ (I.tok _) aD
 .subst ey;cases (show u=Value.ref b from ry);let⟨z,hd,xs,Ş,dd⟩:=Jt I.hok e;let⟨w',hw,aD⟩:=eC.some_of (v:=v) (o:=(bQ xs k).map (·.2)) (by rw[l];exact Ş.val k);let⟨p,hp,db⟩:=Ï.mp hw;refine wpAny_getItem_heap (š hu) (d5 I.hok eb) dd hp ?_;rw[db];exact h w' _ (I.tok _) aD
def Sh(hu:A.units+1<Ĥ)(I:Inv X Á σ H s)(g:DGet H a y o)(ry:RelV y u)(h:∀s',Inv X Á σ H s'->Q (.bool o.isSome) s') :
  wpAny (Þ X.prog X.w) A (ê .In u<|.ref a) Q E s:=by
 rcases g with⟨kvs,k,e,ey,l⟩|⟨kvs,k,b,e,ey,eb,l⟩
 .subst ey;let⟨z,hd,vs,Ş,dd⟩:=Wl I.hok e;refine wpAny_in_of (X9 ry) hd dd.mapOf ?_;rw[<-(Ş.val k).isSome_eq,<-l];exact h _<|I.tok _
 .subst ey;cases (show u=Value.ref b from ry);let⟨z,hd,xs,Ş,dd⟩:=Jt I.hok e;refine wpAny_in_heap (š hu) (d5 I.hok eb) hd dd ?_;have q:=(Ş.val k).isSome_eq;rw[ϛ]at q;rw[<-q,<-l];exact h _<|I.tok _
def Et(hu:A.units+1<Ĥ)(I:Inv X Á σ H s)(g:DGet H a y o)(ry:RelV y u)(h:∀s',Inv X Á σ H s'->Q (.bool (!o.isSome)) s') :
  wpAny (Þ X.prog X.w) A (ê .NotIn u<|.ref a) Q E s:=by
 rcases g with⟨kvs,k,e,ey,l⟩|⟨kvs,k,b,e,ey,eb,l⟩
 .subst ey;let⟨z,hd,vs,Ş,dd⟩:=Wl I.hok e;refine wpAny_notIn_of (X9 ry) hd dd.mapOf ?_;rw[<-(Ş.val k).isSome_eq,<-l];exact h _<|I.tok _
 .subst ey;cases (show u=Value.ref b from ry);let⟨z,hd,xs,Ş,dd⟩:=Jt I.hok e;refine wpAny_notIn_heap (š hu) (d5 I.hok eb) hd dd ?_;have q:=(Ş.val k).isSome_eq;rw[ϛ]at q;rw[<-q,<-l];exact h _<|I.tok _
variable {h':ć}
def W1{t':Nat}{ob:HO}(I:Inv X Á σ H s)(mu:Mut<|H a)(hs:Α a s.heap h')(he:∃q,h'.get? a=dF q)(new:dW X.prog X.w (upd H a ob) h' a ob) :
  Inv X Á σ (upd H a ob) {s with heap:=h',toks:=t'} :=
 I.write (x:=a) (e:=a) mu (.inl rfl) (λb q hb z=>(hs.2 b hb).trans z) he new
def OU{kvs:List (Key×V)}{vs:List (Key×Â)}(z:kvs.length<=Ü)(hd:(a==ň)=dJ)(Ş:KV kvs vs)(dd:h'.DictOf (Zg P w) a vs) :
  dW P w H' h' a (.dK kvs):=⟨z,hd,vs,Ş,dd⟩
def Ai{Q:Unit->Ä->Prop}(hu:A.units+1<Ĥ)(I:Inv X Á σ H s)(g:DPut H a y v H')(ry:RelV y u)(rv:RelV v r)(h:∀s',Inv X Á σ H' s'->Q () s') :
  wpAny (Þ X.prog X.w) A (au (.ref a) u r) Q E s:=by
 rcases g with⟨kvs,k,e,ey,l,eH⟩|⟨kvs,k,b,e,ey,eb,l,eH⟩
 .subst ey eH;let⟨z,hd,vs,Ş,dd⟩:=Jk I.hok e;have hz:vs.length<=Ü:=by rw[<-Ş.length];exact z
  have hl:(ej kvs k v).length<=Ü:=by have:=Xu kvs k v;lia
  refine wpAny_setItem_pairs (hsz:=hz) (X9 ry) dd λh' dd' hs=>h _ ?_;have he:∃q,h'.get? a=dF q:=let ⟨q,_,_,hq,_⟩:=dd';⟨q,hq⟩;exact W1 I (by rw[e];exact True.intro) hs he<|OU hl hd (Ş.put k rv) dd'
 .subst ey eH;cases (show u=Value.ref b from ry);let⟨z,hd,xs,Ş,dd⟩:=PM I.hok e;have hz:xs.length<=Ü:=by rw[<-Paired.length Ş];exact z
  have hl:(ej kvs k v).length<=Ü:=by have:=Xu kvs k v;lia
  refine wpAny_setItem_heap (hsz:=hz) (š hu) (d5 I.hok eb) dd λh' dd' hs=>h _ ?_;let⟨q,es,ep,hq,h2,h3,h4,_,h5⟩:=dd';refine W1 I (by rw[e];exact True.intro) hs ⟨q,hq⟩ ⟨hl,hd,_,(Ş.put k eb rv).keeps λc ys ec=>?_,q,es,ep,hq,h2,h3,h4,h5⟩;rw[dL<|Ri ec e λz=>nomatch z];exact ec
end
section
variable {X:Cx}{Á:List (Ê×Obj)}{σ:St}{H:Hp}{s:Ä}{a:Ê}{kvs:List (Key×V)}{k:Key}{u:Â}{A:ď}{E:Â->Ä->Prop}
variable {Q:Â->Ä->Prop}
def GH{v:V}{more:List Â}(I:Inv X Á σ H s)(e:H a=dF (.dK kvs))(ry:RelV (kV k) u)(l:YK kvs k=dF v)(hm:more=[]\/∃x,more=[x])
  (h:∀w' s',Inv X Á σ (upd H a<|.dK<|eB kvs k) s'->RelV v w'->Q w' s'):wpAny (Þ X.prog X.w) A (call (.builtin "dict.pop")<|.ref a::u::more) Q E s:=by
 let⟨z,hd,vs,Ş,dd⟩:=Jk I.hok e;let⟨w',hw,aD⟩:=eC.some_of (v:=v) (o:=ώ vs k) (by rw[<-l];exact Ş.val k);have hp:(keyPart u).isSome=dI:=by
  cases k with
  |inl i=>let⟨t,q⟩:=(show ∃t,u=Value.int i t from ry);subst q;rfl
  |inr x=>let⟨t,q⟩:=(show ∃t,u=Value.str x t from ry);subst q;rfl
 have ha:argsOk "dict.pop" ⟨.ref a::u::more,[]⟩:=by
  rcases hm with q|⟨x,q⟩
  .subst q;exact PySem.F.args_dict_pop_2 _ _
  .subst q;exact PySem.F.args_dict_pop_3 _ _ _
 refine Ϗ PySem.F.slot_dict_pop dd.typeIs PySem.F.entry_dict_pop ha (meets_dict_pop_there (Zg X.prog X.w) a (X9 ry) more hm hp)
  ⟨vs,w',dd,by rw[<-Ş.length];exact z,hw,λh' dd' hs=>h w' _ ?_ aD⟩
 have he:∃q,h'.get? a=dF q:=let ⟨q,_,_,hq,_⟩:=dd';⟨q,hq⟩;exact W1 I (by rw[e];exact True.intro) hs he<|OU (Ô (Cc kvs k) z) hd (Ş.drop k) dd'
def IT{r:Â}(I:Inv X Á σ H s)(e:H a=dF (.dK kvs))(ry:RelV (kV k) u)(l:YK kvs k=dG)(h:∀s',Inv X Á σ H s'->Q r s') :
  wpAny (Þ X.prog X.w) A (call (.builtin "dict.pop") [.ref a,u,r]) Q E s:=by
 let⟨z,hd,vs,Ş,dd⟩:=Jk I.hok e;have hn:ώ vs k=dG:=eC.none_of (by rw[<-l];exact Ş.val k);have hp:(keyPart u).isSome=dI:=by
  cases k with
  |inl i=>let⟨t,q⟩:=(show ∃t,u=Value.int i t from ry);subst q;rfl
  |inr x=>let⟨t,q⟩:=(show ∃t,u=Value.str x t from ry);subst q;rfl
 exact Ϗ PySem.F.slot_dict_pop dd.typeIs PySem.F.entry_dict_pop (PySem.F.args_dict_pop_3 _ _ _) (meets_dict_pop_default (Zg X.prog X.w) a (X9 ry) hd hp r) ⟨vs,dd,hn,h _<|I.tok _⟩
def Rb(I:Inv X Á σ H s)(e:Rd H a<|.dK kvs)(h:∀t s',Inv X Á σ H s'->Q (.int kvs.length t) s'):wpAny (Þ X.prog X.w) A (call (.builtin "len") [.ref a]) Q E s:=by let⟨z,hd,vs,Ş,dd⟩:=Wl I.hok e;refine call_len_dict hd dd (by rw[<-Ş.length];rw[ţ]at z;lia) ?_;rw[<-Ş.length];exact h _ _ (I.tok _)
end
variable {X:Cx} {Á:List (Ê×Obj)} {σ:St} {s:Ä}
def Nt{o:Option V}(I:Inv X Á σ H s)(g:DGet H a y o):s.TypeIs (.ref a) "dict":=by
 rcases g with⟨kvs,k,e,_,_⟩|⟨kvs,k,b,e,_,_,_⟩
 .obtain⟨_,_,vs,_,dd⟩:=Wl I.hok e;exact dd.typeIs
 .obtain⟨_,_,xs,_,dd⟩:=Jt I.hok e;exact dd.typeIs
def Nn(h:ć)(hb:ň<h.objs.size):dW P w H (h.push {cls:=.type "dict",data:=.dict #[]}) h.objs.size (.dK []) :=
 ⟨Ř _,beq_eq_false_iff_ne.mpr<|Ne.symm<|ë hb,[],.nil,Heap.DictOf.new h⟩
abbrev Ir:TE:=λ_ H Q=>∀p,H p=dG->Q (.ref p) (upd H p<|.dK [])
section
variable {X:Cx}{ç:Pos}
def pe_dnewK:PE X (.Dict [] [] ç) Ir:=λÁ s σ H Q I h =>
 wpAny_Dict_empty ⟨.ref s.heap.objs.size,_,I.laid (a:=s.heap.objs.size) (o:=.dK []) (t':=s.toks) (λ_ _ q=>Å _ q) (Ì _)<|Nn s.heap I.big,rfl,h _<|I.hok.fresh<|Ì _⟩
end
abbrev ME:List (TE×TE)->St->Hp->(List (V×V)->Hp->Prop)->Prop
 |[],_,H,Q=>Q [] H
 |(tk,tv)::r,σ,H,Q=>tk σ H λx H1=>tv σ H1 λy H2=>ME r σ H2 λps H3=>Q ((x,y)::ps) H3
@[reducible] noncomputable def VV:List (V×V)->List (Â×Â)->Prop:=Paired λp q=>RelV p.1 q.1/\RelV p.2 q.2
abbrev PPs(X:Cx)(ç:Pos)(keys:List<|Option Expr)(ρ:List Expr)(trs:List<|TE×TE):Prop :=
 ∀(Á:List<|Ê×Obj) (s:Ä) (σ:St) (H:Hp) (Q:List (V×V)->Hp->Prop),Inv X Á σ H s->ME trs σ H Q->
  wpAny (Þ X.prog X.w) X.A (evalPairs<|pairTrees keys ρ X.env ç) (λvs s'=>∃ps H',Inv X Á σ H' s'/\VV ps vs/\Q ps H') X.xe s
variable {ç:Pos}
def Gf:PPs X ç [] [] []:=λÁ s σ H Q I h=>pairTrees_nil_walk ⟨[],H,I,.nil,h⟩
variable {trs:List (TE×TE)}
def DY{k v:Expr}{ks:List (Option Expr)}{vs:List Expr}{tk tv:TE}(hk:PE X k tk)(hv:PE X v tv)(hr:PPs X ç ks vs trs) :
  PPs X ç (dF k::ks) (v::vs) ((tk,tv)::trs):=λÁ s σ H Q I h =>
 pairTrees_cons_walk (thn (hk Á s σ H _ I h) λu s1 ⟨x,H1,I1,rx,q1⟩=>thn (hv Á s1 σ H1 _ I1 q1) λw2 s2 ⟨y,H2,I2,ry,q2⟩ =>
   thn (hr Á s2 σ H2 _ I2 q2) λws s3 ⟨ps,H3,I3,Ş,q3⟩=>⟨(x,y)::ps,H3,I3,.cons ⟨rx,ry⟩ Ş,q3⟩)
abbrev Xx(kvs more:List<|Key×V):List<|Key×V:=more.foldl (λħ kv=>ej ħ kv.1 kv.2) kvs
def KV.merge:∀{more:List (Key×V)}{rs:List (Key×Â)}{kvs:List (Key×V)}{vs:List (Key×Â)},KV more rs->KV kvs vs->KV (Xx kvs more) (merged vs rs):=by
 intro more rs kvs vs r;unfold KV at r;induction r generalizing kvs vs with
 |nil=>intro q;exact q
 |@cons p q ps qs h t ih =>
  intro r0;have e:KV (ej kvs p.1 p.2)<|stored vs q.1 q.2:=by have:=r0.put p.1 h.2;rw[<-h.1];exact this
  exact ih e
def XH:∀(more kvs:List<|Key×V),(Xx kvs more).length<=kvs.length+more.length
 |[],kvs=>by show kvs.length<=kvs.length+0;lia
 |p::r,kvs=>by have h1:=XH r<|ej kvs p.1 p.2;have h2:=Xu kvs p.1 p.2;show(Xx (ej kvs p.1 p.2) r).length<=_;rw[Ç];lia
def Jm{P:é}{w:Ā}:∀{kvs:List (Key×V)}{ws:List (Â×Â)},VV (kvs.map λkv=>(kV kv.1,kv.2)) ws->∃rs,Carries (Zg P w) ws rs/\KV kvs rs
 |[],_,r=>by rw[ŵ]at r;cases r;exact⟨[],True.intro,.nil⟩
 |p::kvs,_,r=>by
  rw[Í]at r;cases r with
  |@cons a b as bs h t =>let⟨rs,c,q⟩:=Jm (P:=P) (w:=w) t;let⟨b1,b2⟩:=b;exact⟨(p.1,b2)::rs,⟨X9 h.1,rfl,c⟩,.cons ⟨rfl,h.2⟩ q⟩
abbrev Qi(trs:List<|TE×TE):TE:=λσ H Q=>∀p,H p=dG->ME trs σ (upd H p<|.dK []) λps H2=>H2 p=dF (.dK [])/\∃kvs:List<|Key×V,ps=kvs.map (λkv=>(kV kv.1,kv.2))/\kvs.length<=15/\Q (.ref p) (upd H2 p<|.dK<|Xx [] kvs)
def Eb{keys:List (Option Expr)}{ρ:List Expr}(h:PPs X ç keys ρ trs)(hall:keys.all (·.isSome)=dI)(hl:keys.length=ρ.length)(h0:keys≠[])
  (h15:keys.length<=15):PE X (.Dict keys ρ ç)<|Qi trs:=by
 intro Á s σ H Q I q;have hn:=I.hok.fresh<|Ì s.heap.objs.size;have I1:=I.laid (a:=s.heap.objs.size) (o:=.dK []) (h':=s.heap.push {cls:=.type "dict",data:=.dict #[]}) (t':=s.toks) (λ_ _ q=>Å _ q) (Ì _)<|Nn s.heap I.big;refine wpAny_Dict_walk (knd:=Zg X.prog X.w) hall hl h0 h15<|thn (h Á _ σ _ _ I1<|q _ hn) λws s2 ⟨ps,H2,I2,Ş,e,kvs,ep,lk,q2⟩=>?_;subst ep;let⟨rs,c,rk⟩:=Jm (P:=X.prog) (w:=X.w) Ş;let⟨z,hd,vs0,r0,dd⟩:=Jk I2.hok e;cases r0;refine⟨rs,c,dd,λh' dd' hs=>⟨.ref s.heap.objs.size,_,?_,rfl,q2⟩⟩;have hz:(Xx [] kvs).length<=Ü:=by have h1:=XH kvs [];rw[ĝ]at h1;rw[ţ];lia
 have he:∃q,h'.get? s.heap.objs.size=dF q:=let ⟨q,_,_,hq,_⟩:=dd';⟨q,hq⟩;exact W1 I2 (by rw[e];exact True.intro) hs he<|OU hz hd (rk.merge .nil) dd'
abbrev RJ(H:Hp)(a:Ê):Prop:=(∃kvs,Rd H a<|.dK kvs)\/∃kvs,Rd H a (.dT kvs)
def Pn(I:Inv X Á σ H s)(d:RJ H a) :
  s.TypeIs (.ref a) "dict"/\(∀b,Value.ref a=.ref b->∃ob,s.heap.get? b=dF ob/\ob.dict=dG)/\(a==ň)=dJ:=by
 rcases d with⟨kvs,e⟩|⟨kvs,e⟩
 .obtain⟨_,hd,vs,_,dd⟩:=Wl I.hok e;refine⟨dd.typeIs,λb q=>?_,hd⟩;cases q;let⟨ob,_,_,h1,h2,_⟩:=dd;exact⟨ob,h1,h2.2.1⟩
 .obtain⟨_,hd,xs,_,dd⟩:=Jt I.hok e;refine⟨dd.typeIs,λb q=>?_,hd⟩;cases q;let⟨ob,_,_,h1,h2,_⟩:=dd;exact⟨ob,h1,h2.2.1⟩
section
variable {X:Cx}{Á:List (Ê×Obj)}{σ:St}{H:Hp}{s:Ä}{a:Ê}{y d:V}{u r:Â}{o:Option V}{A:ď}{E:Â->Ä->Prop}
def Le{Q:Â->Ä->Prop}(hu:A.units+1<Ĥ)(I:Inv X Á σ H s)(g:DGet H a y o)(ry:RelV y u)(h:∀w' s',Inv X Á σ H s'->RelV (o.getD .non) w'->Q w' s') :
  wpAny (Þ X.prog X.w) A (call (.builtin "dict.get") [.ref a,u]) Q E s:=by
 rcases g with⟨kvs,k,e,ey,l⟩|⟨kvs,k,b,e,ey,eb,l⟩
 .subst ey;let⟨z,hd,vs,Ş,dd⟩:=Wl I.hok e;refine Ϗ PySem.F.slot_dict_get dd.typeIs PySem.F.entry_dict_get (PySem.F.args_dict_get_2 _ _) (meets_dict_get (Zg X.prog X.w) a (X9 ry) hd) ⟨_,dd.mapOf,h _ _ (I.tok _) ?_⟩;rw[l];exact(Ş.val k).getD rfl
 .subst ey;cases (show u=Value.ref b from ry);let⟨z,hd,xs,Ş,dd⟩:=Jt I.hok e;refine Ϗ PySem.F.slot_dict_get dd.typeIs PySem.F.entry_dict_get (PySem.F.args_dict_get_2 _ _) (meetsH_dict_get (ϥ<|Zg X.prog X.w) a b hd) ⟨š hu,k,xs,d5 I.hok eb,dd,h _ _ (I.tok _) ?_⟩;rw[l];exact(Ş.val k).getD rfl
end
section
variable {X:Cx}
def UZ:dU X (.builtin "len") λxs H Q=>∃a kvs,xs=[V.ref a]/\H a=dF (.dK kvs)/\Q (.int kvs.length) H:=by intro Á s σ H xs us Q I r h;let⟨a,kvs,rfl,ha,q⟩:=h;let⟨u,rfl,ru⟩:=ZL r;cases ru;exact Rb I (.inl ha) λt s' I'=>⟨.int kvs.length,H,I',⟨t,rfl⟩,q⟩
end
end L2
namespace fz
noncomputable abbrev Ad:=Nat
inductive Val where
 |non|bl (b:Bool)|int (i:Int)|str (s:String)|tup (xs:List Val)|ref (a:Ad)|scr (ns:List Int)|key (i j:Int)
 deriving Inhabited
mutual
noncomputable def Val.eqb:Val->Val->Bool
 |.non,b=>match b with|.non=>dI|_=>dJ
 |.bl a,b=>match b with|.bl c=>a==c|_=>dJ
 |.int a,b=>match b with|.int c=>a==c|_=>dJ
 |.str a,b=>match b with|.str c=>a==c|_=>dJ
 |.tup a,b=>match b with|.tup c=>Val.eqs a c|_=>dJ
 |.ref a,b=>match b with|.ref c=>a==c|_=>dJ
 |.scr a,b=>match b with|.scr c=>a==c|_=>dJ
 |.key a b,x=>match x with|.key c d=>a==c&&b==d|_=>dJ
noncomputable def Val.eqs:List Val->List Val->Bool
 |[],b=>match b with|[]=>dI|_=>dJ
 |x::xs,b=>match b with|y::ys=>Val.eqb x y&&Val.eqs xs ys|_=>dJ
end
mutual
theorem Val.eqb_iff:∀{a b:Val},Val.eqb a b=dI↔a=b
 |.non,b=>by cases b<;>simp[Val.eqb]
 |.bl _,b=>by cases b<;>simp[Val.eqb]
 |.int _,b=>by cases b<;>simp[Val.eqb]
 |.str _,b=>by cases b<;>simp[Val.eqb]
 |.tup _,b=>by cases b<;>simp[Val.eqb,Val.eqs_iff]
 |.ref _,b=>by cases b<;>simp[Val.eqb]
 |.scr _,b=>by cases b<;>simp[Val.eqb]
 |.key _ _,b=>by cases b<;>simp[Val.eqb]
theorem Val.eqs_iff:∀{a b:List Val},Val.eqs a b=dI↔a=b
 |[],b=>by cases b<;>simp[Val.eqs]
 |_::_,b=>by cases b<;>simp[Val.eqs,Val.eqb_iff,Val.eqs_iff]
end
noncomputable instance:DecidableEq Val:=λa b=>if h:Val.eqb a b=dI then isTrue (Val.eqb_iff.mp h)else isFalse λe=>h<|Val.eqb_iff.mpr e
inductive Ob where
 |lst (xs:List Val)|dct (kvs:List<|Val×Val)|ins (C:String) (fs:List<|String×Val)|exc (C:String)|frz (kvs:List<|Val×Val)|dtp (kvs:List<|Val×Val)
 deriving Inhabited
abbrev figB(c:Char):Bool:=fJ (48<=c.toNat)&&fJ (c.toNat<=57)
abbrev decN(l:List Char):Nat:=l.foldl (λa c=>10*a+(c.toNat - 48)) 0
abbrev P0:Val->Option String
 |.str s=>dF s
 |_=>dG
abbrev oneC(s:String):Option Char:=match s.toList with
 |[c]=>dF c
 |_=>dG
abbrev Ea(i:Int):String:=toString i
abbrev fmtV:Val->Option String
 |.str s=>dF s
 |.int i=>if i.natAbs<10 ^ 200 then dF (Ea i)else dG
 |_=>dG
noncomputable abbrev Hs:=Ad->Option Ob
@[irreducible] noncomputable def upd(h:Hs)(a:Ad)(o:Ob):Hs:=λb=>if b=a then dF o else h b
variable {h:Hs} {a:Ad} {o:Ob}
def dM:upd h a o a=dF o:=by simp[upd]
def dL{b:Ad}(e:b≠a):upd h a o b=h b:=by simp[upd,e]
def dN{u:Ob}:upd (upd h a o) a u=upd h a u:=by funext b;simp only[upd];split<;>rfl
noncomputable abbrev Env:=List<|Option Val
noncomputable abbrev Q1:=Val->Hs->Prop
noncomputable abbrev XQ:=String->Hs->Prop
noncomputable abbrev Fs:=String->List Val->Hs->Q1->XQ->Prop
abbrev lim:Nat:=1000000
variable {α:Type}
@[irreducible] noncomputable def go(o:Option α)(k:α->Prop):Prop:=match o with|some a=>k a|none=>False
@[simp] theorem dO{a:α}{k:α->Prop}:go (dF a) k=k a:=by unfold go;rfl
@[simp] theorem Fh{k:α->Prop}:go dG k=False:=by unfold go;rfl
def dP{o:Option α}{a:α}{k:α->Prop}(e:o=dF a)(h:k a):go o k:=by rw[e,dO];exact h
set_option genInjectivity false
inductive Bop where|add|sub|mul|fdiv|mod|pow
inductive Cop where|eq|ne|lt|le|gt|ge|isin|notin|is|isnot|eqE|neE|ntT
inductive Bi where
 |len|int|str|bool|abs|min2|max2|minL|maxL|minD|sum|all|any|sorted|sortedI|sortedSet|lenSet|list|tuple|dict|isi (Ts:List String)|isx (Ts:List String)|isc (C:String)|repr|listRev|listRange|tupRange|dictEnum|minP|maxP|listD
inductive Bm where
 |append|extend|pop|popAt|insert|remove|clear|reverse|index|count|dget|dgetD|dpop|dpopD|setdefault|join|split|replace|upper|partition|sidx
inductive Pt where|one (i:Nat)|many (is:List Nat)|nest (i:Nat) (is:List Nat)
mutual
inductive E where
 |cst (v:Val)|var (i:Nat)|glob (x:String) (v:Val)
 |bin (op:Bop) (a b:E)|neg (a:E)|not (a:E)|and (a b:E)|or (a b:E)
 |cmp (op:Cop) (a b:E)|chain (o1 o2:Cop) (a b c:E)
 |call (f:String) (as:Es)|make (C:String) (as:Es)|meth (C m:String) (o:E) (as:Es)|fld (o:E) (f:String)
 |bi (f:Bi) (as:Es)|bm (m:Bm) (o:E) (as:Es)
 |idx (a i:E)|slc (a:E) (lo hi:Oe)|rev (a:E)|pick (a:E) (lo hi:Oe) (st:E)|sortT (a:E)
 |tup (es:Es)|lst (es:Es)|dct (es:Es)
 |ife (c:Tt) (a b:E)
 |comp (ô:List Nat) (n:Nat) (p:Pt) (it:It) (c:Tt) (e:E)
 |fstr (es:Es)
 |split (o a:E)
 |repl (o:E) (y z:String)
 |key (es:Es)|dctP
inductive Es where|nil|cons (e:E) (es:Es)
inductive Oe where|none|some (e:E)
inductive Tt where|yes|val (e:E)|not (t:Tt)|and (a b:Tt)|or (a b:Tt)
inductive It where
 |seq (e:E)|chars (e:E)|range (a:E)|range2 (a b:E)|enum (e:E)|enumL (e:E)|zip (a b:E)|items (e:E)|rev (e:E)
end
mutual
inductive S where
 |set (p:Pt) (e:E)|setIdx (a i e:E)|setFld (o:E) (f:String) (e:E)
 |augVar (i:Nat) (op:Bop) (e:E)|augFld (o:E) (f:String) (op:Bop) (n:Int)|augIdx (a i:E) (op:Bop) (n:Int)
 |setPair (a i b j e:E)
 |expr (e:E)|ret (e:E)|retN|ite (c:Tt) (a b:Ss)|whl (c:Tt) (b:Ss)|for (p:Pt) (it:It) (b:Ss)|forI (k:Bool) (p:Pt) (e:E) (b:Ss)
 |never|brk|cnt|pass|raise (C:String) (as:Es)|try (t:Option Nat) (e:E) (hs:Hn)
inductive Ss where|nil|cons (s:S) (ss:Ss)
inductive Hn where|nil|cons (C:String) (n:Option Nat) (b:Ss) (r:Hn)
end
set_option genInjectivity true
abbrev ixN(n:Nat)(i:Int):Option Nat:=if 0<=i then(if i<n then dF i.toNat else dG)else if -(n:Int)<=i then dF (i+n).toNat else dG
abbrev atI(xs:List α)(i:Int):Option α:=(ixN xs.length i).bind λj=>xs[j]?
abbrev eN(n d:Nat):Option Int->Nat
 |none=>d
 |some i=>if 0<=i then min i.toNat n else(i+n).toNat
abbrev cut(xs:List α)(lo hi:Option Int):List α:=(xs.drop<|eN xs.length 0 lo).take<|eN xs.length xs.length hi - eN xs.length 0 lo
abbrev dZ:Option Ob->Option (List Val)
 |some (.lst xs)=>dF xs
 |_=>dG
@[simp] theorem YN{xs:List Val}:dZ (dF<|.lst xs)=dF xs:=rfl
abbrev BB(h:Hs):Val->Option (List Val)
 |.ref a=>dZ<|h a
 |.tup xs=>dF xs
 |.scr ns=>dF<|ns.map .int
 |_=>dG
abbrev fu:Option Ob->Option (List<|Val×Val)
 |some (.dct kvs)=>dF kvs
 |_=>dG
abbrev eh(kvs:List<|Val×Val)(k:Val):Option Val:=(kvs.find? λp=>p.1==k).map (·.2)
abbrev ei(kvs:List<|Val×Val)(k:Val):Bool:=kvs.any λp=>p.1==k
abbrev ej(kvs:List<|Val×Val)(k v:Val):List<|Val×Val:=if ei kvs k then kvs.map λp=>if p.1==k then(k,v)else p else kvs++[(k,v)]
abbrev eB(kvs:List<|Val×Val)(k:Val):List<|Val×Val:=kvs.filter λp=>!(p.1==k)
abbrev d8:Val->Bool
 |.int _=>dI
 |.str _=>dI
 |_=>dJ
inductive D where
 |non|bl (b:Bool)|int (i:Int)|str (s:String)|tup (ds:List D)|lst (ds:List D)
 deriving Inhabited
mutual
noncomputable def D.eqv:D->D->Bool
 |.non,.non=>dI
 |.bl a,.bl b=>a==b
 |.bl a,.int i=>(if a then 1 else 0)==i
 |.int i,.bl a=>i==(if a then 1 else 0)
 |.int a,.int b=>a==b
 |.str a,.str b=>a==b
 |.tup a,.tup b=>D.eqvs a b
 |.lst a,.lst b=>D.eqvs a b
 |_,_=>dJ
noncomputable def D.eqvs:List D->List D->Bool
 |[],[]=>dI
 |x::xs,y::ys=>D.eqv x y&&D.eqvs xs ys
 |_,_=>dJ
end
abbrev dat(h:Hs):Nat->Val->Option D
 |_,.non=>dF .non
 |_,.bl b=>dF<|.bl b
 |_,.int i=>dF<|.int i
 |_,.str s=>dF<|.str s
 |0,_=>dG
 |n+1,.tup xs=>(xs.mapM<|dat h n).map .tup
 |n+1,.ref a=>(dZ<|h a).bind λxs=>(xs.mapM<|dat h n).map .lst
 |n+1,.scr ns=>dF<|.lst<|ns.map .int
 |_+1,.key _ _=>dG
abbrev deep:Nat:=12
abbrev eqV(h:Hs)(v u:Val):Option Bool:=(dat h deep v).bind λd=>(dat h deep u).map λe=>D.eqv d e
abbrev dR:List Val->Option (List Int)
 |[]=>dF []
 |.int i::xs=>(dR xs).map (i :: ·)
 |_=>dG
abbrev eP:List Int->List Int->Bool
 |[],[]=>dJ
 |[],_::_=>dI
 |_::_,[]=>dJ
 |x::xs,y::ys=>if x=y then eP xs ys else fJ (x<y)
abbrev eQ:Val->Val->Option Bool
 |.int i,.int j=>dF<|fJ (i<j)
 |.tup xs,.tup ys=>(dR xs).bind λns=>(dR ys).map λms=>eP ns ms
 |_,_=>dG
abbrev inL(h:Hs)(x:Val)(ys:List Val):Option Bool:=(dat h deep x).bind λd=>(ys.mapM<|dat h<|deep - 1).map λds=>ds.any λe=>D.eqv e d
abbrev leV:Val->Val->Option Bool
 |.int i,.int j=>dF<|fJ (i<=j)
 |_,_=>dG
abbrev isKeyT:Val->Bool
 |.key _ _=>dI
 |_=>dJ
abbrev inV(h:Hs)(v u:Val):Option Bool:=match u with
 |.tup xs=>inL h v xs
 |.ref a=>match h a with
  |some (.lst xs)=>inL h v xs
  |some (.dct kvs)=>if d8 v then dF (ei kvs v)else dG
  |some (.frz kvs)=>if d8 v then dF (ei kvs v)else dG
  |some (.dtp kvs)=>if isKeyT v then dF (ei kvs v)else dG
  |_=>dG
 |.str t=>(match v with|.str s=>(oneC s).map λc=>fJ (c∈t.toList)|_=>dG)
 |_=>dG
abbrev isV(v u:Val):Option Bool:=match u with
 |.non=>dF<|fJ (v=.non)
 |.bl b=>dF<|fJ (v=.bl b)
 |_=>dG
abbrev asLst(h:Hs):Val->Option (List Val)
 |.ref a=>dZ<|h a
 |_=>dG
abbrev d7(h:Hs)(op:Cop)(v u:Val):Option Bool:=match op with
 |.eq=>eqV h v u
 |.ne=>(eqV h v u).map (!·)
 |.lt=>eQ v u
 |.gt=>eQ u v
 |.le=>leV v u
 |.ge=>leV u v
 |.isin=>inV h v u
 |.notin=>(inV h v u).map (!·)
 |.is=>isV v u
 |.isnot=>(isV v u).map (!·)
 |.eqE=>(asLst h v).bind λxs=>(asLst h u).bind λys=>if ys.isEmpty then dF xs.isEmpty else dG
 |.neE=>(asLst h v).bind λxs=>(asLst h u).bind λys=>if ys.isEmpty then dF (!xs.isEmpty)else dG
 |_=>dG
abbrev WA(h:Hs):Val->Option Bool
 |.bl b=>dF b
 |.int i=>dF<|fJ (i≠0)
 |.non=>dF dJ
 |.str s=>if s.length<=lim then dF (fJ (s.length≠0))else dG
 |.tup xs=>dF (!xs.isEmpty)
 |.scr ns=>dF (!ns.isEmpty)
 |.ref a=>match h a with
  |some (.lst xs)=>dF (!xs.isEmpty)
  |some (.dct kvs)=>dF (!kvs.isEmpty)
  |_=>dG
 |.key _ _=>dG
abbrev mulOk(i j:Int):Prop:=(i.natAbs<2 ^ 64\/j.natAbs<2 ^ 64)\/(i.natAbs<=10 ^ 200/\j.natAbs<=10 ^ 200)
instance (i j:Int):Decidable<|mulOk i j:=inferInstanceAs<|Decidable<|_\/_
@[irreducible] noncomputable def new(h:Hs)(o:Ob)(Q:Q1):Prop:=∀p,h p=dG->Q (.ref p) (upd h p o)
variable {Q:Q1}
def YA(q:∀p,h p=dG->Q (.ref p) (upd h p o)):new h o Q:=by unfold new;exact q
inductive Rs where|val (v:Val)|new (o:Ob)|no
@[irreducible] noncomputable def Rs.wp(r:Rs)(h:Hs)(Q:Q1):Prop:=match r with|.val v=>Q v h|.new o=>fz.new h o Q|.no=>False
@[simp] theorem Rs.wp_val{v:Val}:(Rs.val v).wp h Q=Q v h:=by unfold Rs.wp;rfl
@[simp] theorem Rs.wp_new:(Rs.new o).wp h Q=fz.new h o Q:=by unfold Rs.wp;rfl
@[simp] theorem Rs.wp_no:Rs.no.wp h Q=False:=by unfold Rs.wp;rfl
abbrev Rs.ofO:Option Val->Rs
 |some v=>.val v
 |none=>.no
abbrev Rs.lst(xs:List Val):Rs:=if xs.length<=lim then .new (.lst xs)else .no
abbrev addV(h:Hs):Val->Val->Rs
 |.int i,.int j=>.val<|.int<|i+j
 |.str s,.str t=>if s.length+t.length<=lim then .val (.str<|s++t)else .no
 |.tup xs,.tup ys=>if xs.length+ys.length<=lim then .val (.tup<|xs++ys)else .no
 |.ref a,.ref b=>match h a,h b with
  |some (.lst xs),dF (.lst ys)=>Rs.lst<|xs++ys
  |_,_=>.no
 |_,_=>.no
abbrev repT(s:String)(n:Nat):String:=ι (Ú n s.toList).flatten
abbrev mulV(h:Hs):Val->Val->Rs
 |.int i,.int j=>if mulOk i j then .val (.int<|i*j)else .no
 |.ref a,.int k=>match h a with
  |some (.lst xs)=>if -(2 ^ 62)<k/\k<2 ^ 62/\xs.length*k.toNat<=lim then Rs.lst (Ú k.toNat xs).flatten else .no
  |_=>.no
 |.str s,.int k=>if 2<=k/\k<=1000000/\1<=s.length/\s.length*k.toNat<=lim then .val (.str<|repT s k.toNat)else .no
 |_,_=>.no
abbrev intV(f:Int->Int->Rs):Val->Val->Rs
 |.int i,.int j=>f i j
 |_,_=>.no
abbrev binV(h:Hs)(op:Bop)(v u:Val):Rs:=match op with
 |.add=>addV h v u
 |.sub=>intV (λi j=>.val<|.int<|i - j) v u
 |.mul=>mulV h v u
 |.fdiv=>intV (λi j=>if 0<j/\j<1073741824 then .val (.int<|i / j)else .no) v u
 |.mod=>intV (λi j=>if 0<j then .val (.int<|i % j)else .no) v u
 |.pow=>intV (λi j=>if 0<=j/\j<=1000000/\i.natAbs<2 ^ 64 then .val (.int<|i ^ j.toNat)else .no) v u
abbrev fv:Val->Option Int
 |.int i=>dF i
 |_=>dG
abbrev eR(h:Hs):Val->Val->Option Val
 |.tup xs,.int k=>atI xs k
 |.str s,.int k=>if s.length<=lim then(atI s.toList k).map λc=>.str (ϩ c)else dG
 |.ref a,k=>match h a with
  |some (.lst xs)=>(fv k).bind<|atI xs
  |some (.dct kvs)=>if d8 k then eh kvs k else dG
  |some (.frz kvs)=>if d8 k then eh kvs k else dG
  |some (.dtp kvs)=>if isKeyT k then eh kvs k else dG
  |_=>dG
 |.scr ns,.int i=>atI (ns.map .int) i
 |_,_=>dG
abbrev eS(h:Hs)(v:Val)(lo hi:Option Int):Rs :=
 match v with
 |.tup xs=>if eN xs.length 0 lo=0/\eN xs.length xs.length hi=xs.length then .val (.tup xs)else .val (.tup<|cut xs lo hi)
 |.ref a=>match dZ (h a)with
  |some xs=>.new<|.lst<|cut xs lo hi
  |none=>.no
 |.scr ns=>.new<|.lst<|cut (ns.map .int) lo hi
 |.str s=>if s.length<=lim then .val (.str<|ι<|cut s.toList lo hi)else .no
 |_=>.no
abbrev sortI(ns:List Int):List Int:=ns.mergeSort λa b=>fJ (a<=b)
abbrev blsOf:List Val->Option (List Bool)
 |[]=>dF []
 |.bl b::xs=>(blsOf xs).map (b :: ·)
 |_=>dG
abbrev minL:List Val->Option Val
 |[]=>dG
 |x::xs=>xs.foldl (λm y=>m.bind λb=>(eQ y b).map λc=>if c then y else b)<|dF x
abbrev maxL:List Val->Option Val
 |[]=>dG
 |x::xs=>xs.foldl (λm y=>m.bind λb=>(eQ b y).map λc=>if c then y else b)<|dF x
abbrev dedup:List Int->List Int
 |[]=>[]
 |x::xs=>x::(dedup xs).filter (· != x)
abbrev fj(c d:String):Bool:=c==d||d == "ShutError" || d == "ValueError" || d == "Exception"
abbrev fx(h:Hs):Val->Option String
 |.non=>dF "NoneType"
 |.bl _=>dF "bool"
 |.int _=>dF "int"
 |.str _=>dF "str"
 |.tup _=>dF "tuple"
 |.scr _=>dF "list"
 |.ref a=>match h a with
  |some (.lst _)=>dF "list"
  |some (.dct _)=>dF "dict"
  |_=>dG
 |.key _ _=>dG
abbrev fy(h:Hs)(v:Val)(T:String):Option Bool:=(fx h v).map λt=>t==T||(t == "bool" && T == "int")
abbrev excOf:Option Ob->Option String
 |some (.exc c)=>dF c
 |_=>dG
abbrev excV(h:Hs):Val->Option String
 |.ref a=>excOf<|h a
 |_=>dG
abbrev isiAny(h:Hs)(v:Val):List String->Option Bool
 |[]=>dF dJ
 |T::Ts=>(fy h v T).bind λb=>(isiAny h v Ts).map (b || ·)
abbrev pairUp:List Val->Option (List<|Val×Val)
 |[]=>dF []
 |k::v::r=>if d8 k then(pairUp r).map ((k,v) :: ·)else dG
 |_=>dG
abbrev putAll(kvs:List<|Val×Val):List (Val×Val)->List (Val×Val)
 |[]=>kvs
 |(k,v)::r=>putAll (ej kvs k v) r
abbrev eX(h:Hs):Val->Rs
 |.ref a=>match h a with
  |some (.lst xs)=>.val<|.int xs.length
  |some (.dct kvs)=>.val<|.int kvs.length
  |_=>.no
 |.tup xs=>.val<|.int xs.length
 |.scr ns=>.val<|.int ns.length
 |.str s=>if s.length<=lim then .val (.int s.length)else .no
 |_=>.no
abbrev Q6:Val->Rs
 |.int i=>.val<|.int i
 |.bl b=>.val (.int<|if b then 1 else 0)
 |.str s=>if s.length<=640/\s.toList≠[]/\s.toList.all figB=dI then .val (.int<|decN s.toList)else .no
 |_=>.no
abbrev absV:Val->Rs
 |.int i=>.val (.int<|if i<0 then -i else i)
 |_=>.no
abbrev d0(f:Val->Rs):List Val->Rs
 |[v]=>f v
 |_=>.no
abbrev biOf2(f:Val->Val->Rs):List Val->Rs
 |[v,u]=>f v u
 |_=>.no
abbrev rowsOf:List Val->Option (List<|List Int)
 |[]=>dF []
 |.tup xs::r=>(dR xs).bind λns=>(rowsOf r).map (ns :: ·)
 |_=>dG
abbrev minR(b:List Int):List (List Int)->List Int
 |[]=>b
 |y::r=>minR (if eP y b then y else b) r
abbrev eY(h:Hs)(v:Val):Rs:=match v with
 |.ref a=>match (dZ<|h a).bind rowsOf with
  |some []=>.val .non
  |some (x::r)=>.val<|.tup<|(minR x r).map .int
  |none=>.no
 |_=>.no
abbrev R4(h:Hs):Val->Rs
 |.ref a=>.ofO<|(dZ<|h a).bind λxs=>(blsOf xs).map λbs=>.bl<|bs.all id
 |_=>.no
abbrev sortOf(h:Hs):Val->Option (List Int)
 |.ref a=>(dZ<|h a).bind dR
 |.scr ns=>dF ns
 |_=>dG
abbrev keysOf(kvs:List<|Val×Val):Option<|List Int:=dR (kvs.map (·.1))
abbrev sortAny(h:Hs)(v:Val):Option<|List Int:=match v with
 |.ref a=>match h a with
  |some (.lst xs)=>dR xs
  |some (.dct kvs)=>keysOf kvs
  |_=>dG
 |.scr ns=>dF ns
 |_=>dG
abbrev Qh(Ė:List<|List Int):List<|List Int:=Ė.mergeSort λa b=>!eP b a
abbrev IW(h:Hs)(v:Val):Option<|List<|List Int:=match v with
 |.ref a=>(dZ<|h a).bind rowsOf
 |_=>dG
abbrev Ar(h:Hs)(v:Val):Rs:=match IW h v with
 |some Ė=>if Ė.length<64/\(Ė.all λr=>!r.isEmpty)=dI then .new (.lst<|(Qh Ė).map λr=>.tup<|r.map .int)else .no
 |none=>.no
abbrev JE(h:Hs)(v:Val):Rs:=match sortAny h v with
 |some ns=>if ns.length<64 then .new (.lst<|(sortI ns).map .int)else .no
 |none=>Ar h v
abbrev biSortedI(h:Hs)(v:Val):Rs:=match sortAny h v with
 |some ns=>if ns.length<64 then .new (.lst<|(sortI ns).map .int)else .no
 |none=>.no
abbrev biLenSet(h:Hs)(v:Val):Rs:=match sortOf h v with
 |some ns=>if ns.length<4000 then .val (.int (dedup ns).length)else .no
 |none=>.no
abbrev toList(h:Hs):Val->Rs
 |.ref a=>match h a with
  |some (.lst xs)=>.new<|.lst xs
  |_=>.no
 |.tup xs=>.new<|.lst xs
 |_=>.no
abbrev MQ(h:Hs):Val->Rs
 |.ref a=>match h a with
  |some (.lst xs)=>.val<|.tup xs
  |_=>.no
 |.tup xs=>.val<|.tup xs
 |_=>.no
abbrev pairI:Val->Option (Int×Int)
 |.tup [.int i,.int j]=>dF (i,j)
 |_=>dG
abbrev biMinP(v:Val):Rs:=match pairI v with
 |some p=>.val (.int<|if p.2<p.1 then p.2 else p.1)
 |none=>.no
abbrev pairS:Val->Option (String×String)
 |.tup [.str s,.str t]=>dF (s,t)
 |_=>dG
abbrev biMaxP(v:Val):Rs:=match pairI v with
 |some p=>.val (.int<|if p.2 > p.1 then p.2 else p.1)
 |none=>.no
abbrev biV(h:Hs)(b:Bi)(vs:List Val):Rs:=match b with
 |.len=>d0 (eX h) vs
 |.int=>d0 Q6 vs
 |.abs=>d0 absV vs
 |.min2=>biOf2 (intV λi j=>.val<|.int<|if j<i then j else i) vs
 |.max2=>biOf2 (intV λi j=>.val<|.int<|if j > i then j else i) vs
 |.minP=>d0 biMinP vs
 |.maxP=>d0 biMaxP vs
 |.minD=>d0 (eY h) vs
 |.all=>d0 (R4 h) vs
 |.sorted=>d0 (JE h) vs
 |.sortedI=>d0 (biSortedI h) vs
 |.lenSet=>d0 (biLenSet h) vs
 |.list=>d0 (toList h) vs
 |.tuple=>d0 (MQ h) vs
 |.isi Ts=>d0 (λv=>.ofO<|(isiAny h v Ts).map .bl) vs
 |.isx Ts=>d0 (λv=>.ofO<|(excV h v).map λc=>.bl<|Ts.any<|fj c) vs
 |_=>.no
abbrev bmL(h:Hs)(v:Val)(f:Ad->List Val->Option (Val×Hs)):Option<|Val×Hs:=match v with
 |.ref a=>(dZ<|h a).bind<|f a
 |_=>dG
abbrev bmD(h:Hs)(v:Val)(f:Ad->List (Val×Val)->Option (Val×Hs)):Option<|Val×Hs:=match v with
 |.ref a=>(fu<|h a).bind<|f a
 |_=>dG
abbrev CP(h:Hs)(vs:List Val)(a:Ad)(xs:List Val):Option<|Val×Hs:=match vs with
 |[v]=>if xs.length<lim then dF (.non,upd h a<|.lst<|xs++[v])else dG
 |_=>dG
abbrev bmPopAt(h:Hs)(vs:List Val)(a:Ad)(xs:List Val):Option<|Val×Hs:=match vs with
 |[.int i]=>if -(2 ^ 62)<i/\i<2 ^ 62 then(ixN xs.length i).bind λk=>(xs[k]?).map λv=>(v,upd h a<|.lst<|xs.eraseIdx k)else dG
 |_=>dG
abbrev Rg(h:Hs)(vs:List Val)(a:Ad)(kvs:List<|Val×Val):Option<|Val×Hs:=match vs with
 |[k]=>if d8 k then dF ((eh kvs k).getD .non,h)else dG
 |_=>dG
abbrev IL(h:Hs)(vs:List Val)(a:Ad)(kvs:List<|Val×Val):Option<|Val×Hs:=match vs with
 |[k]=>if d8 k then(eh kvs k).map λv=>(v,upd h a<|.dct<|eB kvs k)else dG
 |_=>dG
abbrev EF(h:Hs)(vs:List Val)(a:Ad)(kvs:List<|Val×Val):Option<|Val×Hs:=match vs with
 |[k,d]=>if d8 k then dF ((eh kvs k).getD d,upd h a<|.dct<|eB kvs k)else dG
 |_=>dG
abbrev bmV(h:Hs)(m:Bm)(v:Val)(vs:List Val):Option<|Val×Hs:=match m with
 |.append=>bmL h v<|CP h vs
 |.popAt=>bmL h v<|bmPopAt h vs
 |.dget=>bmD h v<|Rg h vs
 |.dpop=>bmD h v<|IL h vs
 |.dpopD=>bmD h v<|EF h vs
 |_=>dG
abbrev isLst:Option Ob->Bool
 |some (.lst _)=>dI
 |_=>dJ
abbrev isDct:Option Ob->Bool
 |some (.dct _)=>dI
 |some (.dtp _)=>dI
 |_=>dJ
inductive Ty where|l|d|s|t
abbrev Bm.ty:Bm->Ty
 |.dget=>.d
 |.dgetD=>.d
 |.dpop=>.d
 |.dpopD=>.d
 |.setdefault=>.d
 |.join=>.s
 |.split=>.s
 |.replace=>.s
 |.upper=>.s
 |.partition=>.s
 |.sidx=>.s
 |.index=>.t
 |_=>.l
abbrev Ji(p:Option Ob->Bool)(h:Hs):Val->Bool
 |.ref a=>p<|h a
 |_=>dJ
abbrev Lf:Val->Bool
 |.str _=>dI
 |_=>dJ
abbrev Lc:Val->Bool
 |.tup _=>dI
 |_=>dJ
abbrev bmTy(h:Hs)(m:Bm)(v:Val):Bool:=match m.ty with
 |.l=>Ji isLst h v
 |.d=>Ji isDct h v
 |.s=>Lf v
 |.t=>Ji isLst h v||Lc v
abbrev d6:List (String×Val)->String->Val->List (String×Val)
 |[],f,v=>[(f,v)]
 |(g,x)::r,f,v=>if g=f then(g,v)::r else(g,x)::d6 r f v
abbrev getV(env:Env)(i:Nat):Option Val:=match env[i]? with
 |some (dF v)=>dF v
 |_=>dG
abbrev fw:Val->Option Bool
 |.bl b=>dF b
 |_=>dG
abbrev eM:Val->Option Ad
 |.ref a=>dF a
 |_=>dG
abbrev insOf:Option Ob->Option (String×List (String×Val))
 |some (.ins C fs)=>dF (C,fs)
 |_=>dG
abbrev tupOf:Val->Option (List Val)
 |.tup xs=>dF xs
 |_=>dG
abbrev bindL:List Nat->List Val->Env->Option Env
 |[],[],env=>dF env
 |i::is,x::xs,env=>bindL is xs<|env.set i<|dF x
 |_,_,_=>dG
abbrev bind(p:Pt)(h:Hs)(v:Val)(env:Env):Option Env :=
 match p with
 |.one i=>dF<|env.set i<|dF v
 |.many is=>(tupOf v).bind λxs=>bindL is xs env
 |.nest i is=>(tupOf v).bind λxs=>match xs with
  |[x,y]=>(tupOf y).bind λys=>bindL is ys<|env.set i<|dF x
  |_=>dG
abbrev wComp(st:Hs->Prop)(step:Val->Hs->(Option Val->Hs->Prop)->XQ->Prop):List Val->List Val->Hs->(List Val->Hs->Prop)->XQ->Prop
 |[],ħ,h,Q,_=>st h/\Q ħ h
 |v::vs,ħ,h,Q,X=>st h/\step v h (λr h'=>wComp st step vs (ħ++r.toList) h' Q X) X
abbrev enumL:Nat->List Val->List Val
 |_,[]=>[]
 |k,x::xs=>.tup [.int k,x]::enumL (k+1) xs
abbrev itV(h:Hs):Val->Option ((Hs->Prop)×List Val)
 |.tup xs=>dF (λ_=>True,xs)
 |.scr ns=>dF (λ_=>True,ns.map .int)
 |.ref a=>(dZ<|h a).map λxs=>(λg=>dZ (g a)=dF xs,xs)
 |_=>dG
abbrev itemOf(k:Bool)(p:Val×Val):Val:=if k then p.1 else .tup [p.1,p.2]
abbrev eL(i j:Int):List Val:=(List.range (j - i).toNat).map λ(k:Nat)=>.int<|i+k
abbrev eU(h:Hs)(o k v:Val):Option Hs :=
 match o with
 |.ref p=>match h p with
  |some (.lst xs)=>(fv k).bind λn=>(ixN xs.length n).map λj=>upd h p<|.lst<|xs.set j v
  |some (.dct kvs)=>if d8 k/\kvs.length<lim then dF (upd h p<|.dct<|ej kvs k v)else dG
  |some (.dtp kvs)=>if isKeyT k/\kvs.length<lim then dF (upd h p<|.dtp<|ej kvs k v)else dG
  |_=>dG
 |_=>dG
abbrev eW(h:Hs)(o:Val)(f:String)(v:Val):Option Hs :=
 match o with
 |.ref p=>match h p with
  |some (.ins C fs)=>if fs.length<900 then dF (upd h p<|.ins C<|d6 fs f v)else dG
  |_=>dG
 |_=>dG
abbrev eV(h:Hs)(o:Val)(f:String):Option Val:=(eM o).bind λa=>(insOf<|h a).bind λp=>p.2.lookup f
abbrev clsV(h:Hs)(o:Val)(m:String):Option String:=(eM o).bind λa=>(insOf<|h a).bind λp=>if(p.2.lookup m).isNone then dF p.1 else dG
abbrev augV(op:Bop)(x y:Val):Option Val:=match op,x,y with
 |.add,.int i,.int j=>dF<|.int<|i+j
 |.sub,.int i,.int j=>dF<|.int<|i - j
 |_,_,_=>dG
@[irreducible] noncomputable def M6(F:Hs->(List Val->Hs->Prop)->XQ->Prop)(h:Hs)(Q:Q1)(X:XQ):Prop:=new h (.dct []) λr h1=>go (eM r) λp=>F h1 (λvs h2=>go (pairUp vs) λkvs=>h2 p=dF (.dct [])/\Q (.ref p) (upd h2 p<|.dct<|putAll [] kvs)) X
mutual
@[reducible] noncomputable def xE(Φ:Fs):E->Env->Hs->Q1->XQ->Prop
 |.cst v,_,h,Q,_=>Q v h
 |.glob _ v,_,h,Q,_=>Q v h
 |.var i,env,h,Q,_=>go (getV env i) λv=>Q v h
 |.bin op a b,env,h,Q,X=>xE Φ a env h (λv h1=>xE Φ b env h1 (λu h2=>(binV h2 op v u).wp h2 Q) X) X
 |.neg a,env,h,Q,X=>xE Φ a env h (λv h1=>go (fv v) λi=>Q (.int (-i)) h1) X
 |.not a,env,h,Q,X=>xE Φ a env h (λv h1=>go (fw v) λb=>Q (.bl (!b)) h1) X
 |.and a b,env,h,Q,X=>xE Φ a env h (λv h1=>go (fw v) λc=>if c=dI then xE Φ b env h1 Q X else Q (.bl dJ) h1) X
 |.or a b,env,h,Q,X=>xE Φ a env h (λv h1=>go (fw v) λc=>if c=dI then Q (.bl dI) h1 else xE Φ b env h1 Q X) X
 |.cmp op a b,env,h,Q,X=>xE Φ a env h (λv h1=>xE Φ b env h1 (λu h2=>go (d7 h2 op v u) λc=>Q (.bl c) h2) X) X
 | .chain o1 o2 a b c,env,h,Q,X=>xE Φ a env h (λv h1=>xE Φ b env h1 (λu h2=>go (d7 h2 o1 v u) λk =>
     if k=dI then xE Φ c env h2 (λw h3=>go (d7 h3 o2 u w) λk2=>Q (.bl k2) h3) X else Q (.bl dJ) h2) X) X
 |.call f as,env,h,Q,X=>xA Φ as env h (λvs h1=>Φ f vs h1 Q X) X
 |.make C as,env,h,Q,X=>xA Φ as env h (λvs h1=>∀p,h1 p=dG->Φ (C ++ ".__init__") (.ref p::vs) (upd h1 p<|.ins C []) (λv h2=>v=.non/\Q (.ref p) h2) X) X
 |.meth C m o as,env,h,Q,X=>xE Φ o env h (λv h1=>clsV h1 v m=dF C/\xA Φ as env h1 (λvs h2=>Φ (C ++ "." ++ m) (v::vs) h2 Q X) X) X
 |.fld o f,env,h,Q,X=>xE Φ o env h (λv h1=>go (eV h1 v f) λu=>Q u h1) X
 |.bi f as,env,h,Q,X=>xA Φ as env h (λvs h1=>(biV h1 f vs).wp h1 Q) X
 |.bm m o as,env,h,Q,X=>xE Φ o env h (λv h1=>bmTy h1 m v=dI/\xA Φ as env h1 (λvs h2=>go (bmV h2 m v vs) λr=>Q r.1 r.2) X) X
 |.idx a i,env,h,Q,X=>xE Φ a env h (λv h1=>xE Φ i env h1 (λk h2=>go (eR h2 v k) λu=>Q u h2) X) X
 |.slc a lo hi,env,h,Q,X=>xE Φ a env h (λv h1=>xO Φ lo env h1 (λl h2=>xO Φ hi env h2 (λu h3=>(eS h3 v l u).wp h3 Q) X) X) X
 |.sortT a,env,h,Q,X=>xE Φ a env h (λv h1=>go (pairS v) λp=>∀l:List String,l.Perm [p.1,p.2]->l≠["parent","child"]->new h1 (.lst<|l.map .str) Q) X
 |.tup es,env,h,Q,X=>xA Φ es env h (λvs h1=>Q (.tup vs) h1) X
 |.lst es,env,h,Q,X=>xA Φ es env h (λvs h1=>new h1 (.lst vs) Q) X
 |.dct es,env,h,Q,X=>M6 (xA Φ es env) h Q X
 |.ife c a b,env,h,Q,X=>xT Φ c env h (λk h1=>if k=dI then xE Φ a env h1 Q X else xE Φ b env h1 Q X) X
 | .comp ô n p it c e,env,h,Q,X=>xI Φ it env h (λst xs h1=>xs.length<lim/\
     wComp st (λv h2 K X2=>go (bind p h2 v<|Ú n dG++ô.map λj=>(env[j]?).getD dG) λŇ =>
       xT Φ c Ň h2 (λk h3=>if k=dI then xE Φ e Ň h3 (λu h4=>K (dF u) h4) X2 else K dG h3) X2) xs [] h1 (λys h5=>new h5 (.lst ys) Q) λ_ _=>False) X
 |_,_,_,_,_=>False
@[reducible] noncomputable def xA(Φ:Fs):Es->Env->Hs->(List Val->Hs->Prop)->XQ->Prop
 |.nil,_,h,Q,_=>Q [] h
 |.cons e es,env,h,Q,X=>xE Φ e env h (λv h1=>xA Φ es env h1 (λvs h2=>Q (v::vs) h2) X) X
@[reducible] noncomputable def xJ(Φ:Fs):Es->Env->Hs->String->(String->Hs->Prop)->XQ->Prop
 |.nil,_,h,ħ,Q,_=>Q ħ h
 |.cons e es,env,h,ħ,Q,X=>xE Φ e env h (λv h1=>go (fmtV v) λs=>ħ.length+s.length<=lim/\xJ Φ es env h1 (ħ++s) Q X) X
@[reducible] noncomputable def xO(Φ:Fs):Oe->Env->Hs->(Option Int->Hs->Prop)->XQ->Prop
 |.none,_,h,Q,_=>Q dG h
 |.some e,env,h,Q,X=>xE Φ e env h (λv h1=>go (fv v) λi=>Q (dF i) h1) X
@[reducible] noncomputable def xT(Φ:Fs):Tt->Env->Hs->(Bool->Hs->Prop)->XQ->Prop
 |.yes,_,h,Q,_=>Q dI h
 |.val e,env,h,Q,X=>xE Φ e env h (λv h1=>go (WA h1 v) λk=>Q k h1) X
 |.not a,env,h,Q,X=>xT Φ a env h (λk h1=>Q (!k) h1) X
 |.and a b,env,h,Q,X=>xT Φ a env h (λk h1=>if k=dI then xT Φ b env h1 Q X else Q dJ h1) X
 |.or a b,env,h,Q,X=>xT Φ a env h (λk h1=>if k=dI then Q dI h1 else xT Φ b env h1 Q X) X
@[reducible] noncomputable def xI(Φ:Fs):It->Env->Hs->((Hs->Prop)->List Val->Hs->Prop)->XQ->Prop
 |.seq e,env,h,Q,X=>xE Φ e env h (λv h1=>go (itV h1 v) λp=>Q p.1 p.2 h1) X
 |.range a,env,h,Q,X=>xE Φ a env h (λv h1=>go (fv v) λn=>(-(2 ^ 62)<=n/\n<2 ^ 62)/\Q (λ_=>True) (eL 0 n) h1) X
 | .range2 a b,env,h,Q,X=>xE Φ a env h (λv h1=>xE Φ b env h1 (λu h2=>go (fv v) λi=>go (fv u) λj =>
     (-(2 ^ 62)<=i/\i<2 ^ 62/\-(2 ^ 62)<=j/\j<2 ^ 62)/\Q (λ_=>True) (eL i j) h2) X) X
 |.enumL e,env,h,Q,X=>xE Φ e env h (λv h1=>go (eM v) λa=>go (dZ<|h1 a) λxs=>Q (λg=>dZ (g a)=dF xs) (enumL 0 xs) h1) X
 |.enum e,env,h,Q,X=>xE Φ e env h (λv h1=>go (tupOf v) λxs=>Q (λ_=>True) (enumL 0 xs) h1) X
 |_,_,_,_,_=>False
end
@[reducible] noncomputable def wE:Fs->E->Env->Hs->Q1->XQ->Prop:=xE
@[reducible] noncomputable def wA:Fs->Es->Env->Hs->(List Val->Hs->Prop)->XQ->Prop:=xA
@[reducible] noncomputable def wJ:Fs->Es->Env->Hs->String->(String->Hs->Prop)->XQ->Prop:=xJ
@[reducible] noncomputable def wO:Fs->Oe->Env->Hs->(Option Int->Hs->Prop)->XQ->Prop:=xO
@[reducible] noncomputable def wT:Fs->Tt->Env->Hs->(Bool->Hs->Prop)->XQ->Prop:=xT
@[reducible] noncomputable def wI:Fs->It->Env->Hs->((Hs->Prop)->List Val->Hs->Prop)->XQ->Prop:=xI
def P1:wE=xE:=by unfold wE;rfl
noncomputable abbrev NQ:=Env->Hs->Prop
noncomputable abbrev EQ:=Env->String->Hs->Prop
abbrev wFor(st:Hs->Prop)(W:Val->Env->Hs->NQ->NQ->Prop)(N:NQ):List Val->Env->Hs->Prop
 |[],env,h=>st h/\N env h
 |v::vs,env,h=>st h/\W v env h (λe g=>wFor st W N vs e g) N
abbrev wWhile(T:Env->Hs->(Bool->Hs->Prop)->Prop)(W:Env->Hs->NQ->NQ->Prop)(N:NQ):Nat->Env->Hs->Prop
 |0,_,_=>False
 |n+1,env,h=>T env h λk h1=>if k=dI then W env h1 (λe g=>wWhile T W N n e g) N else N env h1
@[reducible] noncomputable def wC(Φ:Fs):E->Env->Hs->Q1->XQ->Prop
 |.call f as,env,h,Q,X=>wA Φ as env h (λvs h1=>Φ f vs h1 Q X) λ_ _=>False
 |.meth C m o as,env,h,Q,X=>wE Φ o env h (λv h1=>clsV h1 v m=dF C/\wA Φ as env h1 (λvs h2=>Φ (C ++ "." ++ m) (v::vs) h2 Q X) λ_ _=>False) λ_ _=>False
 |_,_,_,_,_=>False
abbrev tryEnv(env:Env):Option Nat->Val->Env
 |none,_=>env
 |some j,v=>env.set j<|dF v
mutual
@[reducible] noncomputable def xS(Φ:Fs):S->Env->Hs->NQ->Q1->NQ->NQ->EQ->Prop
 |.set p e,env,h,N,_,_,_,X=>wE Φ e env h (λv h1=>go (bind p h1 v env) λŇ=>N Ň h1)<|X env
 |.setIdx a i e,env,h,N,_,_,_,X=>wE Φ e env h (λv h1=>wE Φ a env h1 (λo h2=>wE Φ i env h2 (λk h3=>go (eU h3 o k v) λg=>N env g)<|X env)<|X env)<|X env
 |.setFld o f e,env,h,N,_,_,_,X=>wE Φ e env h (λv h1=>wE Φ o env h1 (λu h2=>go (eW h2 u f v) λg=>N env g)<|X env)<|X env
 |.augFld o f op n,env,h,N,_,_,_,X=>wE Φ o env h (λu h1=>go (eV h1 u f) λx=>go (augV op x<|.int n) λy=>go (eW h1 u f y) λg=>N env g)<|X env
 |.augIdx a i op n,env,h,N,_,_,_,X=>wE Φ a env h (λo h1=>wE Φ i env h1 (λk h2=>go (eR h2 o k) λx=>go (augV op x<|.int n) λy=>go (eU h2 o k y) λg=>N env g)<|X env)<|X env
 |.expr e,env,h,N,_,_,_,X=>wE Φ e env h (λ_ h1=>N env h1)<|X env
 |.ret e,env,h,_,R,_,_,X=>wE Φ e env h R<|X env
 |.retN,_,h,_,R,_,_,_=>R .non h
 |.ite c a b,env,h,N,R,B,C,X=>wT Φ c env h (λk h1=>if k=dI then xSs Φ a env h1 N R B C X else xSs Φ b env h1 N R B C X)<|X env
 |.whl c b,env,h,N,R,_,_,X=>∃n,wWhile (λe g K=>wT Φ c e g K<|X e) (λe g K M=>xSs Φ b e g K R M K X) N n env h
 |.for p it b,env,h,N,R,_,_,X=>wI Φ it env h (λst xs h1=>wFor st (λv e g K M=>go (bind p g v e) λe2=>xSs Φ b e2 g K R M K X) N xs env h1)<|X env
 | .forI k p e b,env,h,N,R,_,_,X=>wE Φ e env h (λv h1=>go (eM v) λa=>go (fu<|h1 a) λkvs =>
     wFor (λg=>g a=dF (.frz kvs)) (λv e g K M=>go (bind p g v e) λe2=>xSs Φ b e2 g K (λu g2=>g2 a=dF (.frz kvs)/\R u (upd g2 a<|.dct kvs)) M K λ_ _ _=>False)
       (λe g=>g a=dF (.frz kvs)/\N e (upd g a<|.dct kvs)) (kvs.map<|itemOf k) env (upd h1 a<|.frz kvs))<|X env
 |.never,_,_,_,_,_,_,_=>False
 |.raise C as,env,h,_,_,_,_,X=>wA Φ as env h (λ_ h1=>X env C h1)<|X env
 |.try t e hs,env,h,N,R,B,C,X=>wC Φ e env h (λv h1=>N (tryEnv env t v) h1) λc g=>xH Φ hs c env g N R B C
 |_,_,_,_,_,_,_,_=>False
@[reducible] noncomputable def xSs(Φ:Fs):Ss->Env->Hs->NQ->Q1->NQ->NQ->EQ->Prop
 |.nil,env,h,N,_,_,_,_=>N env h
 |.cons s ss,env,h,N,R,B,C,X=>xS Φ s env h (λe g=>xSs Φ ss e g N R B C X) R B C X
@[reducible] noncomputable def xH(Φ:Fs):Hn->String->Env->Hs->NQ->Q1->NQ->NQ->Prop
 |.nil,_,_,_,_,_,_,_=>False
 |.cons K dG b r,c,env,h,N,R,B,C=>if fj c K=dI then xSs Φ b env h N R B C (λ_ _ _=>False)else xH Φ r c env h N R B C
 |.cons K (dF i) b r,c,env,h,N,R,B,C=>if fj c K=dI then(∀p,h p=dG->xSs Φ b (env.set i<|dF<|.ref p) (upd h p<|.exc c) (λe g=>N (e.set i dG) g) R (λe g=>B (e.set i dG) g) (λe g=>C (e.set i dG) g) λ_ _ _=>False)
  else xH Φ r c env h N R B C
end
@[reducible] noncomputable def wS:Fs->S->Env->Hs->NQ->Q1->NQ->NQ->EQ->Prop:=xS
@[reducible] noncomputable def wSs:Fs->Ss->Env->Hs->NQ->Q1->NQ->NQ->EQ->Prop:=xSs
@[reducible] noncomputable def wH:Fs->Hn->String->Env->Hs->NQ->Q1->NQ->NQ->Prop:=xH
def HI:wSs=xSs:=by unfold wSs;rfl
def Ru:wH=xH:=by unfold wH;rfl
structure Fn where
 ar:Nat
 sz:Nat
 body:Ss
noncomputable abbrev Pg:=String->Option Fn
class In(P:Pg)(f:String)(d:outParam Fn):Prop where
 eq:P f=dF d
abbrev Fn.env(d:Fn)(vs:List Val):Env:=vs.map dF++Ú (d.sz - d.ar) dG
abbrev wF0(P:Pg):Nat->Fs
 |0=>λ_ _ _ _ _=>False
 |n+1=>λf vs h Q X=>go (P f) λd=>vs.length=d.ar/\wSs (wF0 P n) d.body (d.env vs) h (λ_ g=>Q .non g) Q (λ_ _=>False) (λ_ _=>False) λ_ c g=>X c g
@[irreducible] noncomputable def wF(P:Pg)(n:Nat):Fs:=wF0 P n
variable {P:Pg} {n:Nat}
def wF_eq:wF P n=wF0 P n:=by unfold wF;rfl
def Zd{f:String}{d:Fn}{vs:List Val}{X:XQ}(e:P f=dF d)(hl:vs.length=d.ar)
  (q:wSs (wF P n) d.body (d.env vs) h (λ_ g=>Q .non g) Q (λ_ _=>False) (λ_ _=>False) λ_ c g=>X c g):wF P (n+1) f vs h Q X:=by
 rw[wF_eq]at q ⊢;exact dP e ⟨hl,q⟩
section
variable {Φ:Fs}{env:Env}{h:Hs}{Q:Q1}{X:XQ}{a b c e o:E}{as:Es}{v u:Val}
def Hc{i:Nat}(g:getV env i=dF v)(q:Q v h):wE Φ (.var i) env h Q X:=by rw[P1];exact dP g q
def Ra{f:Bi}(q:wA Φ as env h (λvs h1=>(biV h1 f vs).wp h1 Q) X):wE Φ (.bi f as) env h Q X:=q
variable {es:Es}
def QZ(q:new h (.dct []) λr h1=>go (eM r) λp=>wA Φ es env h1 (λvs h2=>go (pairUp vs) λkvs=>h2 p=dF (.dct [])/\Q (.ref p) (upd h2 p<|.dct<|putAll [] kvs)) X):wE Φ (.dct es) env h Q X:=by show M6 _ _ _ _;unfold M6;exact q
variable {QA:List Val->Hs->Prop}{QO:Option Int->Hs->Prop}{QT:Bool->Hs->Prop}{QI:(Hs->Prop)->List Val->Hs->Prop}
def Dj(q:QA [] h):wA Φ .nil env h QA X:=q
def Bc(q:wE Φ e env h (λv h1=>wA Φ es env h1 (λvs h2=>QA (v::vs) h2) X) X):wA Φ (.cons e es) env h QA X:=q
def GE(q:wE Φ e env h (λv h1=>go (WA h1 v) λk=>QT k h1) X):wT Φ (.val e) env h QT X:=q
def Hb{t:Tt}(q:wT Φ t env h (λk h1=>QT (!k) h1) X):wT Φ (.not t) env h QT X:=q
def RQ{s t:Tt}(q:wT Φ s env h (λk h1=>if k=dI then QT dI h1 else wT Φ t env h1 QT X) X):wT Φ (.or s t) env h QT X:=q
end
section
variable {Φ:Fs}{env:Env}{h:Hs}{N B C:NQ}{R:Q1}{X:EQ}{a b c e o i:E}{as:Es}{v u:Val}{t:Tt}{s1 s2:Ss}{s:S}{p:Pt}{it:It}{hs:Hn}
def Q2(q:wT Φ t env h (λk h1=>if k=dI then wSs Φ s1 env h1 N R B C X else wSs Φ s2 env h1 N R B C X)<|X env):wS Φ (.ite t s1 s2) env h N R B C X:=q
def ZT(q:N env h):wSs Φ .nil env h N R B C X:=q
def F5{ss:Ss}(q:wS Φ s env h (λe g=>wSs Φ ss e g N R B C X) R B C X):wSs Φ (.cons s ss) env h N R B C X:=q
def Ia{K c:String}{k:Nat}{r:Hn}(hc:fj c K=dI)(q:∀p,h p=dG->wSs Φ s1 (env.set k<|dF<|.ref p) (upd h p<|.exc c) (λe g=>N (e.set k dG) g) R (λe g=>B (e.set k dG) g) (λe g=>C (e.set k dG) g) λ_ _ _=>False):wH Φ (.cons K (dF k) s1 r) c env h N R B C:=by simp only[HI,Ru]at q ⊢;unfold xH;rw[fA hc];exact q
end
section
variable {h:Hs}{Q:Q1}{i j k:Int}{a b:Ad}{xs ys:List Val}{v u:Val}{K:Val->Prop}{KB:Bool->Prop}
def wp_val{r:Rs}(e:r=.val v)(q:Q v h):r.wp h Q:=by rw[e,Rs.wp_val];exact q
def wp_new{r:Rs}{o:Ob}(e:r=.new o)(q:new h o Q):r.wp h Q:=by rw[e,Rs.wp_new];exact q
def b_add(q:Q (.int<|i+j) h):(binV h .add (.int i)<|.int j).wp h Q:=wp_val rfl q
def b_sub(q:Q (.int<|i - j) h):(binV h .sub (.int i)<|.int j).wp h Q:=wp_val rfl q
def b_mul(m:mulOk i j)(q:Q (.int<|i*j) h):(binV h .mul (.int i)<|.int j).wp h Q:=wp_val (fA m) q
def b_fdiv(m:0<j/\j<1073741824)(q:Q (.int<|i / j) h):(binV h .fdiv (.int i)<|.int j).wp h Q:=wp_val (fA m) q
def b_mod(m:0<j)(q:Q (.int<|i % j) h):(binV h .mod (.int i)<|.int j).wp h Q:=wp_val (fA m) q
def b_pow(m:0<=j/\j<=1000000/\i.natAbs<2 ^ 64)(q:Q (.int<|i ^ j.toNat) h):(binV h .pow (.int i)<|.int j).wp h Q:=wp_val (fA m) q
def IE{z:Int}(m:0<=j/\j<=1000000/\i.natAbs<2 ^ 64)(e:i ^ j.toNat=z)(q:Q (.int z) h):(binV h .pow (.int i)<|.int j).wp h Q:=b_pow m (by rw[e];exact q)
def Pl(m:xs.length+ys.length<=lim)(q:Q (.tup<|xs++ys) h):(binV h .add (.tup xs)<|.tup ys).wp h Q:=wp_val (fA m) q
def Ys(e1:h a=dF (.lst xs))(e2:h b=dF (.lst ys))(m:(xs++ys).length<=lim)(q:new h (.lst<|xs++ys) Q):(binV h .add (.ref a)<|.ref b).wp h Q:=by refine wp_new ?_ q;show(match h a,h b with|some (.lst xs),dF (.lst ys)=>Rs.lst (xs++ys)|_,_=>.no:Rs)=_;simp only[e1,e2,Rs.lst];rw[fA m]
def lsE(e1:h a=dF (.lst xs)):dZ (h a)=dF xs:=by rw[e1];rfl
variable {kvs:List (Val×Val)}
def dcE(e1:h a=dF (.dct kvs)):fu (h a)=dF kvs:=by rw[e1];rfl
def g_int{K:Int->Prop}(q:K i):go (fv<|.int i) K:=dP rfl q
def g_bl{b:Bool}(q:KB b):go (fw<|.bl b) KB:=dP rfl q
def g_ref{K:Ad->Prop}(q:K a):go (eM<|.ref a) K:=dP rfl q
def g_tbl{b:Bool}(q:KB b):go (WA h<|.bl b) KB:=dP rfl q
def Rw(q:KB<|fJ (i≠0)):go (WA h<|.int i) KB:=dP rfl q
def RF(e:h a=dF (.lst xs))(q:KB (!xs.isEmpty)):go (WA h<|.ref a) KB:=dP (by unfold WA;simp only[e]) q
def dQ(e:atI xs i=dF v)(q:K v):go (eR h (.tup xs)<|.int i) K:=dP e q
def Zz(e1:h a=dF (.lst xs))(e:atI xs i=dF v)(q:K v):go (eR h (.ref a)<|.int i) K:=dP (by unfold eR;simp only[e1];exact e) q
def Z9{k:Val}(e1:h a=dF (.dct kvs))(hk:d8 k=dI)(e:eh kvs k=dF v)(q:K v):go (eR h (.ref a) k) K:=dP (by unfold eR;simp only[e1];rw[fA hk];exact e) q
variable {ns:List Int}
def Hl(e:atI (ns.map Val.int) i=dF v)(q:K v):go (eR h (.scr ns)<|.int i) K:=dP e q
def c_lt(q:KB<|fJ (i<j)):go (d7 h .lt (.int i)<|.int j) KB:=dP rfl q
def c_gt(q:KB<|fJ (j<i)):go (d7 h .gt (.int i)<|.int j) KB:=dP rfl q
def c_le(q:KB<|fJ (i<=j)):go (d7 h .le (.int i)<|.int j) KB:=dP rfl q
def c_ge(q:KB<|fJ (j<=i)):go (d7 h .ge (.int i)<|.int j) KB:=dP rfl q
def Ui:D.eqv (.int i) (.int j)=fJ (i=j):=by rw[D.eqv];by_cases e:i=j<;>simp[e]
variable {s:String}
def G7{t:String}:D.eqv (.str s) (.str t)=fJ (s=t):=by rw[D.eqv];by_cases e:s=t<;>simp[e]
def c_eqI(q:KB<|fJ (i=j)):go (d7 h .eq (.int i)<|.int j) KB:=dP (by show dF (D.eqv (.int i)<|.int j)=_;rw[Ui]) q
def c_neI(q:KB (!fJ (i=j))):go (d7 h .ne (.int i)<|.int j) KB:=dP (by show dF (!D.eqv (.int i) (.int j))=_;rw[Ui]) q
def SB{t:String}(q:KB<|fJ (s=t)):go (d7 h .eq (.str s)<|.str t) KB:=dP (by show dF (D.eqv (.str s)<|.str t)=_;rw[G7]) q
def SC{t:String}(q:KB (!fJ (s=t))):go (d7 h .ne (.str s)<|.str t) KB:=dP (by show dF (!D.eqv (.str s) (.str t))=_;rw[G7]) q
variable {c:Bool}
def Sz{d:Bool}(q:KB<|c==d):go (d7 h .eq (.bl c)<|.bl d) KB:=dP (by show dF (D.eqv (.bl c)<|.bl d)=_;rw[D.eqv]) q
def c_isN(q:KB<|fJ (v=.non)):go (d7 h .is v .non) KB:=dP (by unfold d7;rfl) q
def c_notN(q:KB (!fJ (v=.non))):go (d7 h .isnot v .non) KB:=dP (by unfold d7;rfl) q
def c_eqE(e1:h a=dF (.lst xs))(e2:h b=dF (.lst []))(q:KB xs.isEmpty):go (d7 h .eqE (.ref a)<|.ref b) KB:=dP (by show(dZ<|h a).bind _=_;rw[e1,YN];show(dZ<|h b).bind _=_;rw[e2,YN];rfl) q
def c_neE(e1:h a=dF (.lst xs))(e2:h b=dF (.lst []))(q:KB (!xs.isEmpty)):go (d7 h .neE (.ref a)<|.ref b) KB:=dP (by show(dZ<|h a).bind _=_;rw[e1,YN];show(dZ<|h b).bind _=_;rw[e2,YN];rfl) q
def HX{ms:List Int}(e1:dR xs=dF ns)(e2:dR ys=dF ms)(q:KB<|eP ms ns):go (d7 h .gt (.tup xs)<|.tup ys) KB:=dP (by show(dR ys).bind _=_;rw[e1,e2];rfl) q
variable {n:Nat} {Ĭ:Env}
def HC{env:Env}{K:Env->Prop}(e:env.set n (dF v)=Ĭ)(q:K Ĭ):go (bind (.one n) h v env) K:=by subst e;exact dP rfl q
def Ix{is:List Nat}{env:Env}{K:Env->Prop}(e:bindL is xs env=dF Ĭ)(q:K Ĭ):go (bind (.many is) h (.tup xs) env) K:=dP e q
def Sn{K:Hs->Prop}(e1:h a=dF (.lst xs))(e:ixN xs.length i=dF n)(q:K<|upd h a<|.lst<|xs.set n v):go (eU h (.ref a) (.int i) v) K:=dP (by unfold eU;simp only[e1,fv,ï,e,Ĵ]) q
def YS{K:Hs->Prop}{k:Val}(e1:h a=dF (.dct kvs))(m:d8 k=dI/\kvs.length<lim)(q:K<|upd h a<|.dct<|ej kvs k v):go (eU h (.ref a) k v) K:=dP (by unfold eU;simp only[e1];rw[fA m]) q
def Wb(e1:h a=dF (.dct kvs))(hk:d8 v=dI)(q:KB<|ei kvs v):go (d7 h .isin v<|.ref a) KB:=dP (by show inV h v (.ref a)=_;unfold inV;simp only[e1];rw[fA hk]) q
def Ym(e1:h a=dF (.dct kvs))(hk:d8 v=dI)(q:KB (!ei kvs v)):go (d7 h .notin v<|.ref a) KB:=dP (by show(inV h v<|.ref a).map _=_;unfold inV;simp only[e1];rw[fA hk];rfl) q
variable {C:String} {f:String}
def YB{fs:List (String×Val)}{K:Hs->Prop}(e1:h a=dF (.ins C fs))(m:fs.length<900)(q:K<|upd h a<|.ins C<|d6 fs f v):go (eW h (.ref a) f v) K:=dP (by unfold eW;simp only[e1];rw[fA m]) q
def LR{fs:List (String×Val)}(e1:h a=dF (.ins C fs))(e:fs.lookup f=dF v)(q:K v):go (eV h (.ref a) f) K:=dP (by unfold eV eM;simp only[e1,insOf,ï];exact e) q
variable {P:Prop}
def Iz{m:String}{fs:List (String×Val)}(e1:h a=dF (.ins C fs))(e:fs.lookup m=dG)(q:P):clsV h (.ref a) m=dF C/\P:=⟨by unfold clsV eM;simp only[e1,insOf,ï,e,Option.isNone_none,if_true],q⟩
def ag_add(q:K<|.int<|i+j):go (augV .add (.int i)<|.int j) K:=dP rfl q
def ln_lst(e1:h a=dF (.lst xs))(q:Q (.int xs.length) h):(biV h .len [.ref a]).wp h Q:=wp_val (by show eX h (.ref a)=_;unfold eX;dsimp only;rw[e1]) q
def ln_scr(q:Q (.int ns.length) h):(biV h .len [.scr ns]).wp h Q:=wp_val rfl q
def ln_tup(q:Q (.int xs.length) h):(biV h .len [.tup xs]).wp h Q:=wp_val rfl q
def in_str(m:s.length<=640/\s.toList≠[]/\s.toList.all figB=dI)(q:Q (.int<|decN s.toList) h):(biV h .int [.str s]).wp h Q:=wp_val (fA m) q
def ab_int(q:Q (.int<|if i<0 then -i else i) h):(biV h .abs [.int i]).wp h Q:=wp_val rfl q
def Jj{bs:List Bool}(e1:h a=dF (.lst xs))(e2:blsOf xs=dF bs)(q:Q (.bl<|bs.all id) h):(biV h .all [.ref a]).wp h Q:=wp_val (by show Rs.ofO ((dZ<|h a).bind _)=_;rw[lsE e1,ï,e2];rfl) q
def SA{K:String->Prop}(q:K s):go (P0<|.str s) K:=dP rfl q
def Hm{K:Val×Hs->Prop}(e1:h a=dF (.lst<|v::xs))(q:K (v,upd h a<|.lst xs)):go (bmV h .popAt (.ref a) [.int 0]) K:=dP (by show(dZ<|h a).bind (bmPopAt h [.int 0] a)=_;rw[lsE e1];show bmPopAt h [.int 0] a (v::xs)=_;unfold bmPopAt;dsimp only;rw[fA<|by decide];rw[show ixN (v::xs).length 0=dF 0 by unfold ixN;rw[fA (by decide),fA<|by simp];rfl];rfl) q
variable {m:Bm}
def RT(hm:m=.join)(q:P):bmTy h m (.str s)=dI/\P:=⟨by subst hm;rfl,q⟩
def Sc(q:Q (.int i) h):(biV h .int [.int i]).wp h Q:=wp_val rfl q
def in_bl(q:Q (.int<|if c then 1 else 0) h):(biV h .int [.bl c]).wp h Q:=wp_val rfl q
def mn2(q:Q (.int<|if j<i then j else i) h):(biV h .min2 [.int i,.int j]).wp h Q:=wp_val rfl q
def mx2(q:Q (.int<|if j > i then j else i) h):(biV h .max2 [.int i,.int j]).wp h Q:=wp_val rfl q
def tp_lst(e1:h a=dF (.lst xs))(q:Q (.tup xs) h):(biV h .tuple [.ref a]).wp h Q:=wp_val (by show MQ h (.ref a)=_;unfold MQ;dsimp only;rw[e1]) q
def Sr(q:Q (.tup xs) h):(biV h .tuple [.tup xs]).wp h Q:=wp_val rfl q
def Hu{Ts:List String}(e:isiAny h v Ts=dF c)(q:Q (.bl c) h):(biV h (.isi Ts) [v]).wp h Q:=wp_val (by show Rs.ofO ((isiAny h v Ts).map .bl)=_;rw[e];rfl) q
def ls_lst(e1:h a=dF (.lst xs))(q:new h (.lst xs) Q):(biV h .list [.ref a]).wp h Q:=wp_new (by show toList h (.ref a)=_;unfold toList;dsimp only;rw[e1]) q
def RI(q:new h (.lst xs) Q):(biV h .list [.tup xs]).wp h Q:=wp_new rfl q
variable {lo:Option Int} {hi:Option Int}
def eZ(n:¬ (eN xs.length 0 lo=0/\eN xs.length xs.length hi=xs.length))(q:Q (.tup<|cut xs lo hi) h):(eS h (.tup xs) lo hi).wp h Q:=wp_val (by unfold eS;simp only;rw[fB n]) q
def Ij(hm:m.ty=.l\/m.ty=.t)(e:h a=dF (.lst xs))(q:P):bmTy h m (.ref a)=dI/\P:=⟨by unfold bmTy;rcases hm with hm|hm<;>rw[hm]<;>simp[Ji,e,isLst],q⟩
def Lw(hm:m.ty=.d)(e:h a=dF (.dct kvs))(q:P):bmTy h m (.ref a)=dI/\P:=⟨by unfold bmTy;rw[hm];simp[Ji,e,isDct],q⟩
abbrev HV:Bi->Bool
 |.sorted=>dI
 |.sortedI=>dI
 |_=>dJ
def DG{f:Bi}(hf:HV f=dI)(e:sortAny h v=dF ns)(m:ns.length<64)(q:new h (.lst<|(sortI ns).map Val.int) Q):(biV h f [v]).wp h Q:=by
 cases f with
 |sorted=>exact wp_new (by show JE h v=_;unfold JE;simp only[e];exact fA m) q
 |sortedI=>exact wp_new (by show biSortedI h v=_;unfold biSortedI;simp only[e];exact fA m) q
 |_=>cases hf
def Hg{f:Bi}(e1:h a=dF (.lst<|ns.map Val.int))(e2:dR (ns.map Val.int)=dF ns)(m:ns.length<64)(q:new h (.lst<|(sortI ns).map Val.int) Q)(hf:HV f=dI:=by rfl):(biV h f [.ref a]).wp h Q:=DG hf (by unfold sortAny;simp only[e1,e2]) m q
def Ov{f:Bi}(e1:h a=dF (.dct kvs))(e2:keysOf kvs=dF ns)(m:ns.length<64)(q:new h (.lst<|(sortI ns).map Val.int) Q)(hf:HV f=dI:=by rfl):(biV h f [.ref a]).wp h Q:=DG hf (by unfold sortAny;simp only[e1,e2]) m q
def LS(e1:h a=dF (.lst []))(q:Q .non h):(biV h .minD [.ref a]).wp h Q:=wp_val (by show eY h (.ref a)=_;unfold eY;simp only[e1,dZ,ï,rowsOf]) q
def EC{x:List Int}{r:List (List Int)}(e1:h a=dF (.lst xs))(e2:rowsOf xs=dF (x::r))(q:Q (.tup<|(minR x r).map Val.int) h):(biV h .minD [.ref a]).wp h Q:=wp_val (by show eY h (.ref a)=_;unfold eY;simp only[e1,dZ,ï,e2]) q
def sl_str(n:s.length<=lim)(q:Q (.str<|ι<|cut s.toList lo hi) h):(eS h (.str s) lo hi).wp h Q:=wp_val (by unfold eS;simp only;rw[fA n]) q
def sl_lst(e1:h a=dF (.lst xs))(q:new h (.lst<|cut xs lo hi) Q):(eS h (.ref a) lo hi).wp h Q:=wp_new (by unfold eS;simp only[e1,dZ]) q
def RP(q:new h (.lst<|cut (ns.map Val.int) lo hi) Q):(eS h (.scr ns) lo hi).wp h Q:=wp_new rfl q
def Zy{K:Val×Hs->Prop}(e1:h a=dF (.lst xs))(m:xs.length<lim)(q:K (.non,upd h a<|.lst<|xs++[v])):go (bmV h .append (.ref a) [v]) K:=dP (by show(dZ<|h a).bind _=_;rw[lsE e1];exact fA m) q
def Hv{K:Val×Hs->Prop}(e1:h a=dF (.dct kvs))(hk:d8 v=dI)(q:K ((eh kvs v).getD .non,h)):go (bmV h .dget (.ref a) [v]) K:=dP (by show(fu<|h a).bind _=_;rw[dcE e1];exact fA hk) q
def it_lst{K:(Hs->Prop)×List Val->Prop}(e1:h a=dF (.lst xs))(q:K (λg=>dZ (g a)=dF xs,xs)):go (itV h<|.ref a) K:=dP (by unfold itV;simp only[e1,dZ,Ĵ]) q
def it_scr{K:(Hs->Prop)×List Val->Prop}(q:K (λ_=>True,ns.map Val.int)):go (itV h<|.scr ns) K:=dP rfl q
def it_tup{K:(Hs->Prop)×List Val->Prop}(q:K (λ_=>True,xs)):go (itV h<|.tup xs) K:=dP rfl q
def RS{K:List Val->Prop}(q:K xs):go (BB h<|.tup xs) K:=dP rfl q
def RW{K:List Val->Prop}(e1:h a=dF (.lst xs))(q:K xs):go (BB h<|.ref a) K:=dP (by unfold BB;simp only[e1,dZ]) q
variable {A:Prop} {B:Prop}
def fb(e:c=dI)(q:A):if c=dI then A else B:=by rw[fA e];exact q
def fc(e:c=dJ)(q:B):if c=dI then A else B:=by rw[fB<|by rw[e];decide];exact q
def ff(q:c=dI->A)(r:c=dJ->B):if c=dI then A else B:=by cases c;exact r rfl;exact q rfl
variable {p:Prop}
def fe[Decidable p](q:p->A)(r:¬p->B):if decide p=dI then A else B:=by
 by_cases e:p
 .rw[fA<|fG e];exact q e
 .rw[fB<|by simpa using e];exact r e
def OA[Decidable p](q:¬p->A)(r:p->B):if(!decide p)=dI then A else B:=by
 by_cases e:p
 .rw[fB<|by simpa using e];exact r e
 .rw[fA<|by simpa using e];exact q e
end
structure Ext(h g:Hs):Prop where
 get:∀{a:Ad}{o:Ob},h a=dF o->g a=dF o
variable {h:Hs}
def Ext.refl:Ext h h:=⟨λe=>e⟩
variable {g:Hs}
def Ext.trans{k:Hs}(e:Ext h g)(f:Ext g k):Ext h k:=⟨λx=>f.get<|e.get x⟩
variable {p:Ad} {o:Ob}
def Ext.new(e:h p=dG):Ext h<|upd h p o:=⟨λ{a u} x=>by
  rw[dL<|by intro z;rw[z,e]at x;cases x];exact x⟩
structure ExtB(w:Ad)(h g:Hs):Prop where
 get:∀{a:Ad}{o:Ob},a≠w->h a=dF o->g a=dF o
variable {w:Ad}
def ExtB.refl:ExtB w h h:=⟨λ_ e=>e⟩
def ExtB.trans{k:Hs}(e:ExtB w h g)(f:ExtB w g k):ExtB w h k:=⟨λn x=>f.get n<|e.get n x⟩
def ExtB.upd:ExtB w h<|upd h w o:=⟨λn x=>by rw[dL n];exact x⟩
def ExtB.of(e:Ext h g):ExtB w h g:=⟨λ_ x=>e.get x⟩
variable {a:Ad}
def Zb(x:h a=dF o)(n:h p=dG):a≠p:=by intro z;rw[z,n]at x;cases x
def ne_none'(n:h p=dG)(x:h a=dF o):a≠p:=Zb x n
def upd_ne'{b:Ad}{r:Option Ob}(n:b≠a)(e:h b=r):upd h a o b=r:=by rw[dL n];exact e
inductive Sm2 {α β:Type}(p:α->β->Prop):Prop|mk (a:α) (b:β) (h:p a b)
inductive Sm3 {α β γ:Type}(p:α->β->γ->Prop):Prop|mk (a:α) (b:β) (c:γ) (h:p a b c)
inductive Sm4 {α β γ δ:Type}(p:α->β->γ->δ->Prop):Prop|mk (a:α) (b:β) (c:γ) (d:δ) (h:p a b c d)
inductive Sm5 {α β γ δ ε:Type}(p:α->β->γ->δ->ε->Prop):Prop|mk (a:α) (b:β) (c:γ) (d:δ) (e:ε) (h:p a b c d e)
inductive Sm6 {α β γ δ ε ζ:Type}(p:α->β->γ->δ->ε->ζ->Prop):Prop|mk (a:α) (b:β) (c:γ) (d:δ) (e:ε) (f:ζ) (h:p a b c d e f)
inductive Cj2 (a b:Prop):Prop|mk (h1:a) (h2:b)
inductive Cj3 (a b c:Prop):Prop|mk (h1:a) (h2:b) (h3:c)
inductive Cj4 (a b c d:Prop):Prop|mk (h1:a) (h2:b) (h3:c) (h4:d)
inductive Cj5 (a b c d e:Prop):Prop|mk (h1:a) (h2:b) (h3:c) (h4:d) (h5:e)
inductive Cj6 (a b c d e f:Prop):Prop|mk (h1:a) (h2:b) (h3:c) (h4:d) (h5:e) (h6:f)
inductive Cj7 (a b c d e f g:Prop):Prop|mk (h1:a) (h2:b) (h3:c) (h4:d) (h5:e) (h6:f) (h7:g)
variable {st:Hs->Prop} {N:NQ} {xs:List Val}
def Zp{W:Val->Env->Hs->NQ->NQ->Prop}(I:Nat->Env->Hs->Prop){env:Env}(h0:I 0 env h)(ł:∀i e g,i<=xs.length->I i e g->st g)
  (step:∀i v e g,xs[i]?=dF v->I i e g->∀K:NQ,(∀e' g',I (i+1) e' g'->K e' g')->W v e g K N) (fin:∀e g,I xs.length e g->N e g):wFor st W N xs env h:=by
 have key:∀(ys:List Val) (i:Nat) e g,xs.drop i=ys->i<=xs.length->I i e g->wFor st W N ys e g:=by
  intro ys;induction ys with
  |nil =>
   intro i e g hd hi hI;have:i=xs.length:=by have:=congrArg List.length hd;simp at this;lia
   subst this;exact⟨ł _ e g (Ì _) hI,fin e g hI⟩
  |cons v vs ih =>
   intro i e g hd hi hI;have Ω:i<xs.length:=by have:=congrArg List.length hd;simp at this;lia
   have hv:xs[i]?=dF v:=by have:=congrArg (λl=>l[0]?) hd;simpa using this
   refine⟨ł i e g hi hI,step i v e g hv hI _ λe' g' hI'=>ih (i+1) e' g' ?_ (by lia) hI'⟩;have:=congrArg List.tail hd;simpa using this
 exact key xs 0 env h (by simp) (by lia) h0
def XE{T:Env->Hs->(Bool->Hs->Prop)->Prop}{W:Env->Hs->NQ->NQ->Prop}(I:Nat->Env->Hs->Prop){env:Env}{m:Nat}(h0:I m env h)
  (step:∀m e g,I m e g->∀K:NQ,(∀m' e' g',m'<m->I m' e' g'->K e' g')->T e g λk h1=>if k=dI then W e h1 K N else N e h1):∃n,wWhile T W N n env h:=by
 refine⟨m+1,?_⟩;have key:∀(n m:Nat) e g,m<n->I m e g->wWhile T W N n e g:=by
  intro n;induction n with
  |zero=>intro m e g hm;lia
  |succ n ih=>intro m e g hm hI;exact step m e g hI _ λm' e' g' hm' hI'=>ih m' e' g' (by lia) hI'
 exact key (m+1) m env h (by lia) h0
variable {Q:List Val->Hs->Prop} {X:XQ}
def Zw{step:Val->Hs->(Option Val->Hs->Prop)->XQ->Prop}(I:Nat->List Val->Hs->Prop)(h0:I 0 [] h)(ł:∀i ys g,i<=xs.length->I i ys g->st g)
  (go:∀i v ys g,xs[i]?=dF v->I i ys g->∀K,(∀r g',I (i+1) (ys++r.toList) g'->K r g')->step v g K X) (fin:∀ys g,I xs.length ys g->Q ys g):wComp st step xs [] h Q X:=by
 have key:∀(zs:List Val) (i:Nat) ys g,xs.drop i=zs->i<=xs.length->I i ys g->wComp st step zs ys g Q X:=by
  intro zs;induction zs with
  |nil =>
   intro i ys g hd hi hI;have:i=xs.length:=by have:=congrArg List.length hd;simp at this;lia
   subst this;exact⟨ł _ ys g (Ì _) hI,fin ys g hI⟩
  |cons v vs ih =>
   intro i ys g hd hi hI;have Ω:i<xs.length:=by have:=congrArg List.length hd;simp at this;lia
   have hv:xs[i]?=dF v:=by have:=congrArg (λl=>l[0]?) hd;simpa using this
   refine⟨ł i ys g hi hI,go i v ys g hv hI _ λr g' hI'=>ih (i+1) _ g' ?_ (by lia) hI'⟩;have:=congrArg List.tail hd;simpa using this
 exact key xs 0 [] h (by simp) (by lia) h0
def Z1{step:Val->Hs->(Option Val->Hs->Prop)->XQ->Prop}(f:Val->Option Val)(ł:st h)
  (go:∀v∈xs,∀K,K (f v) h->step v h K X) (fin:Q (xs.filterMap f) h):wComp st step xs [] h Q X:=by
 have key:∀(zs ys:List Val),(∀v∈zs,v∈xs)->Q (ys++zs.filterMap f) h->wComp st step zs ys h Q X:=by
  intro zs;induction zs with
  |nil=>intro ys _ q;exact⟨ł,⇑q⟩
  |cons v vs ih =>
   intro ys hm q;refine⟨ł,go v (hm v<|by simp) _<|ih _ (λw hw=>hm w<|by simp[hw]) ?_⟩;cases e:f v with
   |none=>simpa[Ď,e]using q
   |some u=>simpa[Ď,e]using q
 exact key xs [] (λ_ h=>h) ⇑fin
section
variable {Φ:Fs}{env:Env}{h:Hs}{Q:Q1}{X:XQ}{a b c e o:E}{as:Es}{v u:Val}
variable {es:Es}
def q_e_dct:(wE Φ (.dct es) env h Q X)=(new h (.dct []) λr h1=>go (eM r) λp=>wA Φ es env h1 (λvs h2=>go (pairUp vs) λkvs=>h2 p=dF (.dct [])/\Q (.ref p) (upd h2 p<|.dct<|putAll [] kvs)) X):=by show M6 _ _ _ _=_;unfold M6;rfl
variable {QA:List Val->Hs->Prop}{QO:Option Int->Hs->Prop}{QT:Bool->Hs->Prop}{QI:(Hs->Prop)->List Val->Hs->Prop}
def q_a_nil:(wA Φ .nil env h QA X)=(QA [] h):=rfl
def q_a_cons:(wA Φ (.cons e es) env h QA X)=(wE Φ e env h (λv h1=>wA Φ es env h1 (λvs h2=>QA (v::vs) h2) X) X):=rfl
end
section
variable {Φ:Fs}{env:Env}{h:Hs}{N B C:NQ}{R:Q1}{X:EQ}{a b c e o i:E}{as:Es}{v u:Val}{t:Tt}{s1 s2:Ss}{s:S}{p:Pt}{it:It}{hs:Hn}
def q_s_raise{D:String}:(wS Φ (.raise D as) env h N R B C X)=(wA Φ as env h (λ_ h1=>X env D h1)<|X env):=rfl
def q_s_try{t:Option Nat}:(wS Φ (.try t e hs) env h N R B C X)=(wC Φ e env h (λv h1=>N (tryEnv env t v) h1) λc g=>wH Φ hs c env g N R B C):=rfl
def q_h_nil{c:String}:wH Φ .nil c env h N R B C=False:=rfl
variable {r:Hn}
def q_h_none{K c:String}:wH Φ (.cons K dG s1 r) c env h N R B C=if fj c K=dI then wSs Φ s1 env h N R B C (λ_ _ _=>False)else wH Φ r c env h N R B C:=rfl
def q_h_some{K c:String}{k:Nat}:wH Φ (.cons K (dF k) s1 r) c env h N R B C=if fj c K=dI then(∀p,h p=dG->wSs Φ s1 (env.set k<|dF<|.ref p) (upd h p<|.exc c) (λe g=>N (e.set k dG) g) R (λe g=>B (e.set k dG) g) (λe g=>C (e.set k dG) g) λ_ _ _=>False)else wH Φ r c env h N R B C:=rfl
end
mutual
theorem D.eqv_refl:∀d:D,D.eqv d d=dI
 |.non=>by simp[D.eqv]
 |.bl _=>by simp[D.eqv]
 |.int _=>by simp[D.eqv]
 |.str _=>by simp[D.eqv]
 |.tup ds=>by simp only[D.eqv];exact D.eqvs_refl ds
 |.lst ds=>by simp only[D.eqv];exact D.eqvs_refl ds
theorem D.eqvs_refl:∀ds:List D,D.eqvs ds ds=dI
 |[]=>by simp[D.eqvs]
 |d::ds=>by simp only[D.eqvs,D.eqv_refl d,D.eqvs_refl ds,Bool.and_self]
end
def O8{α:Type}{o:Option α}{k k':α->Prop}(h:go o k)(f:∀a,k a->k' a):go o k':=by
 cases o with
 |none=>rw[Fh]at h;exact h.elim
 |some a=>rw[dO]at h ⊢;exact f a h
section
variable {Φ:Fs}{env:Env}{h:Hs}{Q:Q1}{X:XQ}{a:Ad}{v:Val}{kvs:List (Val×Val)}
def Ll(q:∀p,h p=dG->Q (.ref p) (upd h p<|.dct [])):wE Φ (.dct .nil) env h Q X:=by refine QZ<|YA λp hp=>g_ref<|Dj<|dP rfl ⟨dM,?_⟩;rw[dN];exact q p hp
def dw0(q:∀p,h p=dG->Q (.ref p) (upd h p<|.dct [])):M6 (xA Φ .nil env) h Q X:=Ll q
def dw{F:Hs->(List Val->Hs->Prop)->XQ->Prop}(q:new h (.dct []) λr h1=>go (eM r) λp=>F h1 (λvs h2=>go (pairUp vs) λkvs=>h2 p=dF (.dct [])/\Q (.ref p) (upd h2 p<|.dct<|putAll [] kvs)) X):M6 F h Q X:=by unfold M6;exact q
def QC{i:Nat}{K:Val->Prop}(g:getV env i=dF v)(q:K v):go (getV env i) K:=dP g q
def dc_of{K:List (Val×Val)->Prop}(e1:h a=dF (.dct kvs))(q:K kvs):go (fu<|h a) K:=dP (dcE e1) q
variable {u:Val}
def DM{K:Val×Hs->Prop}(e1:h a=dF (.dct kvs))(hk:d8 v=dI)(e2:eh kvs v=dF u)(q:K (u,upd h a<|.dct<|eB kvs v)):go (bmV h .dpop (.ref a) [v]) K:=dP (by show(fu<|h a).bind _=_;rw[dcE e1];show(if d8 v then _ else _)=_;rw[fA hk,e2];rfl) q
def UH{K:Val×Hs->Prop}(e1:h a=dF (.dct kvs))(hk:d8 v=dI)(q:K ((eh kvs v).getD u,upd h a<|.dct<|eB kvs v)):go (bmV h .dpopD (.ref a) [v,u]) K:=dP (by show(fu<|h a).bind _=_;rw[dcE e1];exact fA hk) q
end
end fz
namespace Snd
open PySem L2
abbrev KT(K:Frag)(a:Ê)(xs:List V):Prop :=
 ∃(o:Obj) (î:Array Â) (n:Nat),K.lookup a=dF o/\o.cls=.type "tuple"/\o.data=.seq î n/\î.size<=Ü/\fo xs î.toList
abbrev KL(K:Frag)(a:Ê)(xs:List V):Prop :=
 ∃(o:Obj) (î:Array Â) (n:Nat),K.lookup a=dF o/\o.cls=.type "list"/\o.dict=dG/\o.data=.seq î n/\î.size<=Ü/\fo xs î.toList
mutual
inductive RV (K:Frag) (H:Hp):fz.Val->V->Prop
 |non:RV K H .non .non
 |bl (b:Bool):RV K H (.bl b)<|.bl b
 |int (i:Int):RV K H (.int i)<|.int i
 |str (s:String):RV K H (.str s)<|.str<|fK s
 |tup {xs:List fz.Val}{a:Ê}{vs:List V}:(H a=dF (.tup vs)\/KT K a vs)->RVs K H xs vs->RV K H (.tup xs) (.ref a)
 |ref (a:Ê):RV K H (.ref a)<|.ref a
 |scr {ns:List Int}{a:Ê}:((∃o,H a=dF (.frz o<|.lst<|ns.map V.int))\/KL K a (ns.map V.int))->RV K H (.scr ns) (.ref a)
 |key {i j:Int}{a:Ê}:H a=dF (.tup [.int i,.int j])->RV K H (.key i j) (.ref a)
inductive RVs (K:Frag) (H:Hp):List fz.Val->List V->Prop
 |nil:RVs K H [] []
 |cons {v:fz.Val}{x:V}{vs:List fz.Val}{xs:List V}:RV K H v x->RVs K H vs xs->RVs K H (v::vs) (x::xs)
end
structure ee(H H':Hp):Prop where
 t:∀a xs,H a=dF (.tup xs)->H' a=dF (.tup xs)
 f:∀a o u,H a=dF (.frz o u)->H' a=dF (.frz o u)
def ee.refl(H:Hp):ee H H:=⟨λ_ _ e=>e,λ_ _ _ e=>e⟩
variable {H:Hp}
def ee.trans{H1 H2:Hp}(a:ee H H1)(b:ee H1 H2):ee H H2:=⟨λc xs e=>b.t c xs<|a.t c xs e,λc o u e=>b.f c o u<|a.f c o u e⟩
variable {a:Ê} {o:HO}
def ee.put(h:∀xs,H a≠dF (.tup xs))(h2:∀p u,H a≠dF (.frz p u)):ee H<|upd H a o:=⟨λb xs e=>by
  rw[dL<|by rintro rfl;exact h xs e];exact e,λb p u e=>by rw[dL<|by rintro rfl;exact h2 p u e];exact e⟩
def ee.new(h:H a=dG):ee H<|upd H a o:=ee.put (λxs e=>by rw[h]at e;cases e) λp u e=>by rw[h]at e;cases e
variable {K:Frag}{H H':Hp}
mutual
theorem RV.keep(k:ee H H'):∀{v:fz.Val}{x:V},RV K H v x->RV K H' v x
 |_,_,.non=>.non
 |_,_,.bl b=>.bl b
 |_,_,.int i=>.int i
 |_,_,.str s=>.str s
 |_,_,.tup (.inl e) r=>.tup (.inl<|k.t _ _ e)<|RVs.keep k r
 |_,_,.tup (.inr e) r=>.tup (.inr e)<|RVs.keep k r
 |_,_,.ref a=>.ref a
 |_,_,.scr (.inl ⟨o,e⟩)=>.scr<|.inl ⟨o,k.f _ _ _ e⟩
 |_,_,.scr (.inr e)=>.scr<|.inr e
 |_,_,.key e=>.key<|k.t _ _ e
theorem RVs.keep(k:ee H H'):∀{vs:List fz.Val}{xs:List V},RVs K H vs xs->RVs K H' vs xs
 |_,_,.nil=>.nil
 |_,_,.cons r t=>.cons (RV.keep k r)<|RVs.keep k t
end
def RVs.length:∀{vs:List fz.Val}{xs:List V},RVs K H vs xs->vs.length=xs.length
 |_,_,.nil=>rfl
 |_,_,.cons _ t=>by rw[Ç,Ç,RVs.length t]
def RVs.get:∀{vs:List fz.Val}{xs:List V}{i:Nat}{v:fz.Val},RVs K H vs xs->vs[i]?=dF v->∃x,xs[i]?=dF x/\RV K H v x
 |_,_,_,_,.nil,e=>by simp at e
 |_,_,0,_,.cons r _,e=>by simp at e;subst e;exact⟨_,rfl,r⟩
 |_,_,i+1,v,.cons _ t,e=>by let⟨x,h1,h2⟩:=RVs.get (i:=i) (v:=v) t ⇑e;exact⟨x,⇑h1,h2⟩
def RVs.append:∀{vs us:List fz.Val}{xs ys:List V},RVs K H vs xs->RVs K H us ys->RVs K H (vs++us) (xs++ys)
 |_,_,_,_,.nil,h=>h
 |_,_,_,_,.cons r t,h=>.cons r<|RVs.append t h
def RVs.set{v:fz.Val}{x:V}(r:RV K H v x):∀{vs:List fz.Val}{xs:List V}(i:Nat),RVs K H vs xs->RVs K H (vs.set i v) (xs.set i x)
 |_,_,_,.nil=>.nil
 |_,_,0,.cons _ t=>.cons r t
 |_,_,i+1,.cons q t=>.cons q<|RVs.set r i t
def RVs.take:∀{vs:List fz.Val}{xs:List V}(n:Nat),RVs K H vs xs->RVs K H (vs.take n) (xs.take n)
 |_,_,0,_=>.nil
 |_,_,_+1,.nil=>.nil
 |_,_,n+1,.cons r t=>.cons r<|RVs.take n t
def RVs.drop:∀{vs:List fz.Val}{xs:List V}(n:Nat),RVs K H vs xs->RVs K H (vs.drop n) (xs.drop n)
 |_,_,0,r=>r
 |_,_,_+1,.nil=>.nil
 |_,_,n+1,.cons _ t=>RVs.drop n t
def RVs.eraseIdx:∀{vs:List fz.Val}{xs:List V}(i:Nat),RVs K H vs xs->RVs K H (vs.eraseIdx i) (xs.eraseIdx i)
 |_,_,_,.nil=>.nil
 |_,_,0,.cons _ t=>t
 |_,_,i+1,.cons q t=>.cons q<|RVs.eraseIdx i t
def Zk{vs:List V}(h:H a=dF (.tup vs)\/KT K a vs):fm K H a vs:=by
 rcases h with h|h
 .exact fm.of h
 .exact .inr h
structure Inf where
 K:Frag
 cl:String->Ê->Prop
 ins:String->Bool
 xc:String->Ê->Prop
abbrev WT:fz.Val->Key->Prop
 |.int i,.inl j=>i=j
 |.str s,.inr t=>t=fK s
 |_,_=>False
inductive RKs (K:Frag) (H:Hp):List (fz.Val×fz.Val)->List (Key×V)->Prop
 |nil:RKs K H [] []
 |cons {k v:fz.Val}{c:Key}{x:V}{kvs:List (fz.Val×fz.Val)}{ps:List (Key×V)}:WT k c->RV K H v x->RKs K H kvs ps->RKs K H ((k,v)::kvs) ((c,x)::ps)
inductive RFs (K:Frag) (H:Hp):List (String×fz.Val)->List (Str×V)->Prop
 |nil:RFs K H [] []
 |cons {f:String}{v:fz.Val}{x:V}{fs:List (String×fz.Val)}{ps:List (Str×V)}:RV K H v x->RFs K H fs ps->RFs K H ((f,v)::fs) ((fK f,x)::ps)
def RKs.keep(k:ee H H'):∀{kvs:List (fz.Val×fz.Val)}{ps:List (Key×V)},RKs K H kvs ps->RKs K H' kvs ps
 |_,_,.nil=>.nil
 |_,_,.cons a r t=>.cons a (r.keep k)<|RKs.keep k t
inductive RTs (K:Frag) (H:Hp):List (fz.Val×fz.Val)->List (List Key×V)->Prop
 |nil:RTs K H [] []
 |cons {i j:Int}{v:fz.Val}{x:V}{kvs:List (fz.Val×fz.Val)}{ps:List (List Key×V)}:RV K H v x->RTs K H kvs ps->RTs K H ((.key i j,v)::kvs) (([.inl i,.inl j],x)::ps)
def RTs.keep(k:ee H H'):∀{kvs:List (fz.Val×fz.Val)}{ps:List (List Key×V)},RTs K H kvs ps->RTs K H' kvs ps
 |_,_,.nil=>.nil
 |_,_,.cons r t=>.cons (r.keep k)<|RTs.keep k t
def RFs.keep(k:ee H H'):∀{fs:List (String×fz.Val)}{ps:List (Str×V)},RFs K H fs ps->RFs K H' fs ps
 |_,_,.nil=>.nil
 |_,_,.cons r t=>.cons (r.keep k)<|RFs.keep k t
abbrev RO(i:Inf)(H:Hp)(a:Ê):fz.Ob->Prop
 |.lst xs=>∃vs,H a=dF (.lst vs)/\RVs i.K H xs vs
 |.dct kvs=>∃ps,H a=dF (.dK ps)/\RKs i.K H kvs ps
 |.ins C fs=>∃c dx ps,i.ins C=dI/\i.cl C c/\H a=dF (.ins c dx ps)/\RFs i.K H fs ps
 |.exc C=>∃c,i.xc C c/\H a=dF (xcO a<|.ref c)
 |.frz kvs=>∃o ps,H a=dF (.frz o<|.dK ps)/\RKs i.K H kvs ps
 |.dtp kvs=>∃ps,H a=dF (.dT ps)/\RTs i.K H kvs ps
variable {i:Inf}
def RO.there{o:fz.Ob}(r:RO i H a o):∃u,H a=dF u:=by
 cases o with
 |lst xs=>let⟨_,e,_⟩:=r;exact⟨_,e⟩
 |dct kvs=>let⟨_,e,_⟩:=r;exact⟨_,e⟩
 |ins C fs=>let⟨_,_,_,_,_,e,_⟩:=r;exact⟨_,e⟩
 |exc C=>let⟨_,_,e⟩:=r;exact⟨_,e⟩
 |frz kvs=>let⟨_,_,e,_⟩:=r;exact⟨_,e⟩
 |dtp kvs=>let⟨_,e,_⟩:=r;exact⟨_,e⟩
def RO.move{o:fz.Ob}(r:RO i H a o)(k:ee H H')(e:H' a=H a):RO i H' a o:=by
 cases o with
 |lst xs=>let⟨vs,q,r⟩:=r;exact⟨vs,e.trans q,r.keep k⟩
 |dct kvs=>let⟨ps,q,r⟩:=r;exact⟨ps,e.trans q,r.keep k⟩
 |ins C fs=>let⟨c,dx,ps,h0,h,q,r⟩:=r;exact⟨c,dx,ps,h0,h,e.trans q,r.keep k⟩
 |exc C=>let⟨c,h,q⟩:=r;exact⟨c,h,e.trans q⟩
 |frz kvs=>let⟨o,ps,q,r⟩:=r;exact⟨o,ps,e.trans q,r.keep k⟩
 |dtp kvs=>let⟨ps,q,r⟩:=r;exact⟨ps,e.trans q,r.keep k⟩
abbrev RH(i:Inf)(G:fz.Hs)(H:Hp):Prop:=∀a o,G a=dF o->RO i H a o
variable {G:fz.Hs}
def RH.free(r:RH i G H)(e:H a=dG):G a=dG:=by
 cases q:G a with
 |none=>rfl
 |some o=>let⟨u,z⟩:=(r a o q).there;rw[e]at z;cases z
def RH.put{o:fz.Ob}{u:HO}(r:RH i G H)(k:ee H<|upd H a u)(n:RO i (upd H a u) a o):RH i (fz.upd G a o)<|upd H a u:=λb p e=>by
 by_cases hb:b=a
 .subst hb;rw[fz.dM]at e;cases e;exact n
 .rw[fz.dL hb]at e;exact(r b p e).move k<|dL hb
def RH.hid(r:RH i G H)(k:ee H H')(e:∀a o,G a=dF o->H' a=H a):RH i G H':=λb p q=>(r b p q).move k (e b p q)
structure REn(K:Frag)(H:Hp)(env:fz.Env)(σ:St):Prop where
 len:env.length=σ.length
 get:∀(i:Nat) (v:fz.Val),env[i]?=dF (dF v)->∃x,σ[i]?=dF (dF x)/\RV K H v x
variable {σ:St}
def REn.keep{env:fz.Env}(r:REn K H env σ)(k:ee H H'):REn K H' env σ:=⟨r.len,λi v e=>by
  let⟨x,h1,h2⟩:=r.get i v e
  exact⟨x,h1,h2.keep k⟩⟩
def REn.set{env:fz.Env}{v:fz.Val}{x:V}(r:REn K H env σ)(q:RV K H v x)(j:Nat):REn K H (env.set j<|dF v)<|σ.set j<|dF x:=⟨by simp[r.len],λi u e=>by
  by_cases hij:j=i
  . subst hij
    rw[υ]at e
    cases z:env[j]? with
    |none=>rw[z]at e;cases e
    |some w =>
      rw[z]at e
      cases e
      have hj:j<σ.length:=by rw[<-r.len];exact(Ð.mp z).1
      exact⟨x,Β hj,q⟩
  . rw[Ħ hij]at e
    let⟨y,h1,h2⟩:=r.get i u e
    exact⟨y,by rw[Ħ hij];exact h1,h2⟩⟩
def REn.start{vs:List fz.Val}{xs:List V}{n:Nat}(r:RVs K H vs xs):REn K H (vs.map dF++Ú n dG)<|xs.map dF++Ú n dG:=⟨by simp[r.length],λi v e=>by
  by_cases hi:i<vs.length
  . rw[ü ⇑hi,Ó]at e
    cases z:vs[i]? with
    |none=>rw[z]at e;cases e
    |some w =>
      rw[z]at e
      cases e
      let⟨x,h1,h2⟩:=r.get z
      exact⟨x,by rw[ü (by rw[À,<-r.length];exact hi),Ó,h1];rfl,h2⟩
  . rw[Ă ⇑hi,ŀ]at e
    split at e<;>cases e⟩
def RVs.ints{K:Frag}{H:Hp}:∀ns:List Int,RVs K H (ns.map fz.Val.int) (ns.map V.int)
 |[]=>.nil
 |n::ns=>.cons (.int n)<|RVs.ints ns
def Yk{ns:List Int}(h:(∃o,H a=dF (.frz o<|.lst<|ns.map V.int))\/KL K a (ns.map V.int)):fk K H a<|ns.map V.int:=by
 rcases h with⟨o,h⟩|h
 .exact .inl<|.inr ⟨o,h⟩
 .exact .inr h
variable {i:Inf}{X:Cx}{Φ:fz.Fs}
abbrev XK1(i:Inf)(H:Hp)(Em:fz.XQ):XK:=λcls _ H'=>∃c G' ad,cls=.ref ad/\i.xc c ad/\ee H H'/\RH i G' H'/\Em c G'
abbrev XOk(X:Cx)(i:Inf)(H:Hp)(Em:fz.XQ):Prop:=XW X<|XK1 i H Em
variable {H:Hp} {H1:Hp} {Em:fz.XQ}
def XK1.go{H':Hp}{cls:Â}{d:Option Ê}(k:ee H H1)(h:XK1 i H1 Em cls d H'):XK1 i H Em cls d H':=by let⟨c,G',ad,e,q,k',r,m⟩:=h;exact⟨c,G',ad,e,q,k.trans k',r,m⟩
def XOk.go(x:XOk X i H Em)(k:ee H H1):XOk X i H1 Em:=λÁ σ H0 s H' a cls s' I f e=>x Á σ H0 s H' a cls s' I f (e.go k)
structure Pre(X:Cx)(i:Inf)(σ:St)(H:Hp)(env:fz.Env)(G:fz.Hs)(Em:fz.XQ):Prop where
 en:REn i.K H env σ
 hp:RH i G H
 xo:XOk X i H Em
variable {σ:St} {G:fz.Hs}
def Pre.go{env:fz.Env}{G1:fz.Hs}(p:Pre X i σ H env G Em)(k:ee H H1)(r:RH i G1 H1):Pre X i σ H1 env G1 Em:=⟨p.en.keep k,r,p.xo.go k⟩
abbrev Cn(i:Inf)(H:Hp)(Q:VK)(Qm:fz.Q1):Prop:=∀v G' H' x,ee H H'->RH i G' H'->RV i.K H' v x->Qm v G'->Q x H'
variable {Q:VK} {Qm:fz.Q1}
def Cn.go(c:Cn i H Q Qm)(k:ee H H1):Cn i H1 Q Qm:=λv G' H' x k'=>c v G' H' x (k.trans k')
inductive tEx (X:Cx) (i:Inf) (Φ:fz.Fs) (m:fz.E) (σ:St) (H:Hp) (Q:VK):Prop
 |mk (env:fz.Env) (G:fz.Hs) (Qm:fz.Q1) (Em:fz.XQ) (p:Pre X i σ H env G Em) (w:fz.wE Φ m env G Qm Em) (c:Cn i H Q Qm)
abbrev tE(X:Cx)(i:Inf)(Φ:fz.Fs)(m:fz.E):TE:=tEx X i Φ m
inductive tArx (X:Cx) (i:Inf) (Φ:fz.Fs) (ms:fz.Es) (n:Nat) (σ:St) (H:Hp) (Q:List V->Hp->Prop):Prop
 |mk (env:fz.Env) (G:fz.Hs) (Qm:List fz.Val->fz.Hs->Prop) (Em:fz.XQ) (p:Pre X i σ H env G Em) (w:fz.wA Φ ms env G Qm Em) (c:∀vs G' H' xs,ee H H'->RH i G' H'->RVs i.K H' vs xs->xs.length=n->Qm vs G'->Q xs H')
abbrev tAr(X:Cx)(i:Inf)(Φ:fz.Fs)(ms:fz.Es)(n:Nat):TA:=tArx X i Φ ms n
inductive tTtx (X:Cx) (i:Inf) (Φ:fz.Fs) (m:fz.Tt) (σ:St) (H:Hp) (Q:Bool->Hp->Prop):Prop
 |mk (env:fz.Env) (G:fz.Hs) (Qm:Bool->fz.Hs->Prop) (Em:fz.XQ) (p:Pre X i σ H env G Em) (w:fz.wT Φ m env G Qm Em) (c:∀b G' H',ee H H'->RH i G' H'->Qm b G'->Q b H')
abbrev tTt(X:Cx)(i:Inf)(Φ:fz.Fs)(m:fz.Tt):TT:=tTtx X i Φ m
variable {e:Expr}
def _root_.L2.PE.imp{t t':TE}(h:PE X e t)(f:∀σ H Q,t' σ H Q->t σ H Q):PE X e t':=λÁ s σ H Q I q=>h Á s σ H Q I (f σ H Q q)
variable {t':TT}
def _root_.L2.PT.imp{t:TT}(h:PT X e t)(f:∀σ H Q,t' σ H Q->t σ H Q):PT X e t':=λÁ s σ H Q I q=>h Á s σ H Q I (f σ H Q q)
def _root_.L2.PW.imp{t:TT}(h:PW X e t)(f:∀σ H Q,t' σ H Q->t σ H Q):PW X e t':=λwh Á s σ H Q I q=>h wh Á s σ H Q I (f σ H Q q)
variable {es:List Expr}
def _root_.L2.PA.imp{t t':TA}(h:PA X es t)(f:∀σ H Q,t' σ H Q->t σ H Q):PA X es t':=λç Á s σ H Q I q=>h ç Á s σ H Q I (f σ H Q q)
variable {j:Nat}
def Rl{env:fz.Env}{h:fz.Hs}{Q:fz.Q1}{E:fz.XQ}:(fz.wE Φ (.var j) env h Q E)=(fz.go (fz.getV env j) λv=>Q v h):=rfl
def dO{α:Type}{o:Option α}{k:α->Prop}(h:fz.go o k):∃a,o=dF a/\k a:=by
 cases o with
 |none=>simp at h
 |some a=>exact⟨a,rfl,⇑h⟩
def AZ{env:fz.Env}{v:fz.Val}(h:fz.getV env j=dF v):env[j]?=dF (dF v):=by
 unfold fz.getV at h;split at h
 .rename_i u e;cases h;exact e
 .cases h
variable {ç:Pos}
def QP{x:Str}(hN:X.N[j]?=dF x)(hv:Vis X.env.scope x)(hd:(x==("__debug__" : Str))=dJ)(aq:(x==("__classdict__" : Str))=dJ):PE X (.Name x ç) (tE X i Φ<|.var j) :=
 (BK hN hv hd aq).imp λσ H Q ⟨env,G,Qm,Em,p,w,c⟩=>by rw[Rl]at w;let⟨v,e,q⟩:=dO w;let⟨y,h1,h2⟩:=p.en.get j v<|AZ e;exact⟨y,h1,c v G H y (ee.refl H) p.hp h2 q⟩
variable {x:V}
def Jb{v:fz.Val}(h:PE X e<|tC x)(r:∀H,RV i.K H v x):PE X e (tE X i Φ<|.cst v) :=
 h.imp λσ H Q ⟨env,G,Qm,Em,p,w,c⟩=>by exact c v G H x (ee.refl H) p.hp (r H) w
def Iw{y:String}{v:fz.Val}(h:PE X e<|tC x)(r:∀H,RV i.K H v x):PE X e (tE X i Φ<|.glob y v) :=
 h.imp λσ H Q ⟨env,G,Qm,Em,p,w,c⟩=>by exact c v G H x (ee.refl H) p.hp (r H) w
variable {a:fz.E}
def two{b:fz.E}{env:fz.Env}{F:fz.Val->fz.Val->fz.Hs->Prop}{R:V->V->Hp->Prop}(p:Pre X i σ H env G Em)
  (w:fz.wE Φ a env G (λv G1=>fz.wE Φ b env G1 (λu G2=>F v u G2) Em) Em)
  (h:∀v u G2 H2 x y,ee H H2->Pre X i σ H2 env G2 Em->RV i.K H2 v x->RV i.K H2 u y->F v u G2->R x y H2):tE X i Φ a σ H λx H1=>tE X i Φ b σ H1 λy H2=>R x y H2 :=
 ⟨env,G,_,Em,p,w,λv G1 H1 x k1 g1 r1 w1=>⟨env,G1,_,Em,p.go k1 g1,w1,λu G2 H2 y k2 g2 r2 w2=>h v u G2 H2 x y (k1.trans k2) ((p.go k1 g1).go k2 g2) (r1.keep k2) r2 w2⟩⟩
def one{env:fz.Env}{F:fz.Val->fz.Hs->Prop}{R:V->Hp->Prop}(p:Pre X i σ H env G Em)
  (w:fz.wE Φ a env G (λv G1=>F v G1) Em) (h:∀v G1 H1 x,ee H H1->Pre X i σ H1 env G1 Em->RV i.K H1 v x->F v G1->R x H1):tE X i Φ a σ H λx H1=>R x H1 :=
 ⟨env,G,_,Em,p,w,λv G1 H1 x k1 g1 r1 w1=>h v G1 H1 x k1 (p.go k1 g1) r1 w1⟩
abbrev Jl(i:Inf)(op:fz.Bop)(r:R2):Prop:=∀(v u:fz.Val) (G:fz.Hs) (H:Hp) (x y:V) (Q:VK) (Qm:fz.Q1),RH i G H->RV i.K H v x->RV i.K H u y->(fz.binV G op v u).wp G Qm->Cn i H Q Qm->r x y H Q
variable {b:Expr} {ma:fz.E} {mb:fz.E} {r:R2}
def KH{a:Expr}{op:Ν}{bop:fz.Bop}(ho:OpR X (Ļ op) r)(hr:Jl i bop r)(ha:PE X a<|tE X i Φ ma)(hb:PE X b<|tE X i Φ mb):PE X (.BinOp a op b ç) (tE X i Φ<|.bin bop ma mb) :=
 (Qz ho ha hb).imp λσ H Q ⟨env,G,Qm,Em,p,w,c⟩=>by exact two p w λv u G2 H2 x y k2 p2 rx ry q=>hr v u G2 H2 x y Q Qm p2.hp rx ry q<|c.go k2
abbrev Z8(i:Inf)(op:fz.Cop)(r:R2):Prop:=∀(v u:fz.Val) (G:fz.Hs) (H:Hp) (x y:V) (c:Bool) (Q:VK),RH i G H->RV i.K H v x->RV i.K H u y->fz.d7 G op v u=dF c->Q (.bl c) H->r x y H Q
variable {op:bI} {cop:fz.Cop}
def PH{a:Expr}(ho:OpR X (ê op) r)(hr:Z8 i cop r)(ha:PE X a<|tE X i Φ ma)(hb:PE X b<|tE X i Φ mb)(hm:İ op b=dJ):PE X (.Compare a [op] [b] ç) (tE X i Φ<|.cmp cop ma mb) :=
 (UC ho ha hb hm).imp λσ H Q ⟨env,G,Qm,Em,p,w,c⟩=>by
  exact two p w λv u G2 H2 x y k2 p2 rx ry q=>by let⟨d,e,q⟩:=dO q;exact hr v u G2 H2 x y d Q p2.hp rx ry e<|c (.bl d) G2 H2 (.bl d) k2 p2.hp (.bl d) q
def Lb{a:Expr}(ho:OpR X (ê op) r)(hr:Z8 i cop r)(ha:PE X a<|tE X i Φ ma)(hb:PE X b<|tE X i Φ mb)(hm:İ op b=dJ):PT X (.Compare a [op] [b] ç) (tTt X i Φ<|.val<|.cmp cop ma mb) :=
 (Ut ho ha hb hm).imp λσ H Q ⟨env,G,Qm,Em,p,w,c⟩=>by
  exact two p w λv u G2 H2 x y k2 p2 rx ry q=>by let⟨d,e,q⟩:=dO q;let⟨d',e',q⟩:=dO q;cases e';exact hr v u G2 H2 x y d _ p2.hp rx ry e ⟨d,rfl,c d G2 H2 k2 p2.hp q⟩
def WD{v:fz.Val}{b:Bool}(h:fz.fw v=dF b):v=.bl b:=by cases v<;>simp_all [fz.fw]
def ZJ{v:fz.Val}{b:Int}(h:fz.fv v=dF b):v=.int b:=by cases v<;>simp_all [fz.fv]
def XR{v:fz.Val}{b:fz.Ad}(h:fz.eM v=dF b):v=.ref b:=by cases v<;>simp_all [fz.eM]
def RV.bl_inv{K:Frag}{b:Bool}(r:RV K H (.bl b) x):x=.bl b:=by cases r;rfl
def RV.int_inv{K:Frag}{b:Int}(r:RV K H (.int b) x):x=.int b:=by cases r;rfl
def RV.ref_inv{K:Frag}{b:Ê}(r:RV K H (.ref b) x):x=.ref b:=by cases r;rfl
def RV.str_inv{K:Frag}{b:String}(r:RV K H (.str b) x):x=.str (fK b):=by cases r;rfl
def RV.non_inv{K:Frag}(r:RV K H .non x):x=.non:=by cases r;rfl
def QQ{a:Expr}(ha:PE X a<|tE X i Φ ma):PE X (.UnaryOp .Not a ç) (tE X i Φ<|.not ma) :=
 (Pc ha).imp λσ H Q ⟨env,G,Qm,Em,p,w,c⟩=>by
  exact one p w λv G1 H1 x k1 p1 r q=>by let⟨b,e,q2⟩:=dO q;clear q;cases WD e;exact⟨b,r.bl_inv,c _ G1 H1 _ k1 p1.hp (.bl _) q2⟩
def Qb{a:Expr}(ha:PE X a<|tE X i Φ ma):PE X (.UnaryOp .USub a ç) (tE X i Φ<|.neg ma) :=
 (Rt HN ha).imp λσ H Q ⟨env,G,Qm,Em,p,w,c⟩=>by
  exact one p w λv G1 H1 x k1 p1 r q=>by let⟨b,e,q2⟩:=dO q;clear q;cases ZJ e;exact⟨b,r.int_inv,c _ G1 H1 _ k1 p1.hp (.int _) q2⟩
def Qv{a:Expr}{rest:List Expr}(ha:PE X a<|tE X i Φ ma)(hb:PE X (.BoolOp .And (b::rest) ç)<|tE X i Φ mb):PE X (.BoolOp .And (a::b::rest) ç) (tE X i Φ<|.and ma mb) :=
 (Ib ha hb).imp λσ H Q ⟨env,G,Qm,Em,p,w,c⟩=>by
  exact one p w λv G1 H1 x k1 p1 r q=>by
   let⟨d,e,q2⟩:=dO q;clear q;cases WD e;refine⟨d,r.bl_inv,?_⟩;cases d with
   |true=>exact⟨env,G1,Qm,Em,p1,⇑q2,c.go k1⟩
   |false=>simp at q2 ⊢;exact c _ G1 H1 _ k1 p1.hp (.bl _) q2
def Ry{a:Expr}{rest:List Expr}(ha:PE X a<|tE X i Φ ma)(hb:PE X (.BoolOp .Or (b::rest) ç)<|tE X i Φ mb):PE X (.BoolOp .Or (a::b::rest) ç) (tE X i Φ<|.or ma mb) :=
 (Q3 ha hb).imp λσ H Q ⟨env,G,Qm,Em,p,w,c⟩=>by
  exact one p w λv G1 H1 x k1 p1 r q=>by
   let⟨d,e,q2⟩:=dO q;clear q;cases WD e;refine⟨d,r.bl_inv,?_⟩;cases d with
   |false=>exact⟨env,G1,Qm,Em,p1,⇑q2,c.go k1⟩
   |true=>simp at q2 ⊢;exact c _ G1 H1 _ k1 p1.hp (.bl _) q2
def Pb{a:Expr}{ma:fz.Tt}(ha:PT X a<|tTt X i Φ ma):PT X (.UnaryOp .Not a ç) (tTt X i Φ<|.not ma) :=
 (HP ha).imp λσ H Q ⟨env,G,Qm,Em,p,w,c⟩=>by exact⟨env,G,_,Em,p,w,λb G1 H1 k1 g1 q=>c (!b) G1 H1 k1 g1 q⟩
def II{a:Expr}{rest:List Expr}{ma mb:fz.Tt}(ha:PT X a<|tTt X i Φ ma)(hb:PW X (.BoolOp .And (b::rest) ç)<|tTt X i Φ mb):PW X (.BoolOp .And (a::b::rest) ç) (tTt X i Φ<|.and ma mb) :=
 (HH ha hb).imp λσ H Q ⟨env,G,Qm,Em,p,w,c⟩=>by
  refine⟨env,G,_,Em,p,w,λd G1 H1 k1 g1 q=>?_⟩;cases d with
  |true=>exact⟨env,G1,Qm,Em,p.go k1 g1,⇑q,λb G2 H2 k2=>c b G2 H2<|k1.trans k2⟩
  |false=>simp at q ⊢;exact c dJ G1 H1 k1 g1 q
def Pw{a:Expr}{rest:List Expr}{ma mb:fz.Tt}(ha:PT X a<|tTt X i Φ ma)(hb:PW X (.BoolOp .Or (b::rest) ç)<|tTt X i Φ mb):PW X (.BoolOp .Or (a::b::rest) ç) (tTt X i Φ<|.or ma mb) :=
 (PZ ha hb).imp λσ H Q ⟨env,G,Qm,Em,p,w,c⟩=>by
  refine⟨env,G,_,Em,p,w,λd G1 H1 k1 g1 q=>?_⟩;cases d with
  |false=>exact⟨env,G1,Qm,Em,p.go k1 g1,⇑q,λb G2 H2 k2=>c b G2 H2<|k1.trans k2⟩
  |true=>simp at q ⊢;exact c dI G1 H1 k1 g1 q
def FI{a:Expr}{ma:fz.Tt}(ha:PT X a<|tTt X i Φ ma):PW X (.BoolOp .And [a] ç)<|tTt X i Φ ma:=FC ha
def Lx{a:Expr}{ma:fz.Tt}(ha:PT X a<|tTt X i Φ ma):PW X (.BoolOp .Or [a] ç)<|tTt X i Φ ma:=IZ ha
def P7{c a:Expr}{mc:fz.Tt}(hc:PT X c<|tTt X i Φ mc)(ha:PE X a<|tE X i Φ ma)(hb:PE X b<|tE X i Φ mb):PE X (.IfExp c a b ç) (tE X i Φ<|.ife mc ma mb) :=
 (DF hc ha hb).imp λσ H Q ⟨env,G,Qm,Em,p,w,c⟩=>by
  refine⟨env,G,_,Em,p,w,λd G1 H1 k1 g1 q=>?_⟩;cases d with
  |true=>exact⟨env,G1,Qm,Em,p.go k1 g1,⇑q,c.go k1⟩
  |false=>exact⟨env,G1,Qm,Em,p.go k1 g1,⇑q,c.go k1⟩
def HW:PA X []<|tAr X i Φ .nil 0:=fi.imp λσ H Q ⟨env,G,Qm,Em,p,w,c⟩=>by exact c [] G H [] (ee.refl H) p.hp .nil rfl w
def Ga{m:fz.E}{ms:fz.Es}{n:Nat}(he:PE X e<|tE X i Φ m)(hes:PA X es<|tAr X i Φ ms n)(hs:Î (e::es) X.env=(dJ,eval e X.env)::Î es X.env):PA X (e::es) (tAr X i Φ (.cons m ms)<|n+1) :=
 (Zo he hes hs).imp λσ H Q ⟨env,G,Qm,Em,p,w,c⟩=>by exact⟨env,G,_,Em,p,w,λv G1 H1 x k1 g1 r1 w1=>⟨env,G1,_,Em,p.go k1 g1,w1,λvs G2 H2 xs k2 g2 r2 hn w2=>c (v::vs) G2 H2 (x::xs) (k1.trans k2) g2 (.cons (r1.keep k2) r2) (by rw[Ç,hn]) w2⟩⟩
def ZU:fz.lim<=Ü:=by decide
def YD{o:fz.Ob}{u:HO}(g:RH i G H)(w:fz.new G o Qm)(c:Cn i H Q Qm)(r:∀p,H p=dG->RO i (upd H p u) p o):∀p,H p=dG->Q (.ref p) (upd H p u):=λp hp=>by unfold fz.new at w;exact c (.ref p) _ _ (.ref p) (ee.new hp) (g.put (ee.new hp)<|r p hp) (.ref p) (w p<|g.free hp)
end Snd
namespace HT2
open PySem PySem.Spec PyProof.Rows L2
abbrev Yn:List Int->List Int->Bool
 |[],[]=>dJ
 |[],_::_=>dJ
 |_::_,[]=>dI
 |x::xs,y::ys=>if x=y then Yn xs ys else fJ (x > y)
def Bh(A:ď)(s:Ä)(a:Int)(t:Tok)(c:Int)(u:Tok)(prog:é)(w:Ā)(E:Â->Ä->Prop)(Q:Â->Ä->Prop)(h:Q (.bool<|fJ (a > c)) s) :
  wpAny (Þ prog w) A (richCompare .Gt (.int a t)<|.int c u) Q E s :=
 (PyProof.Rows.gt_int h:wpAny (Þ prog w) A (ê .Gt (.int a t)<|.int c u) Q E s)
section
open PySem.SeqAt
open PySem.AutoSeq1 (wpAny_loadPart')
open PySem.MeetsSeq PySem.MeetsSeq2 PySem.MeetsSeq3
def Kk(l b:Ê)(items ķ:Array Â)(n n2:Nat)(dd cu:Option Ê)(sl cX:Array<|Option Â)(ns ms:List Int)(hi:ė items.toList ns)(hj:ė ķ.toList ms) :
  Meets (Builtin.«tuple.__gt__» ⟨[.ref l,.ref b],[]⟩)
   (λ_ R s=>s.heap.get? l=dF { cls:=.type "tuple",dict:=dd,data:=.seq items n,slots:=sl }/\s.heap.get? b=dF { cls:=.type "tuple",dict:=cu,data:=.seq ķ n2,slots:=cX }/\
     R (.ok<|.ret<|.bool<|Yn ns ms) s) :=
 .of_wp λprog w A R s h=>by
  let⟨hp,g,d,tk,os⟩:=s;let⟨hl,hb,h⟩:=h;have f2:=AutoSeq1.sub_tuple_tuple;have z1:items.size=ns.length:=by rw[<-hi.length];simp
  have z2:ķ.size=ms.length:=by rw[<-hj.length];simp
  wp_walk using ÿ hl,ÿ hb,wpAny_forIn_list _ (λrest b s'=>b.1=dG/\s'=⟨hp,g,d,tk,os⟩/\∃(vs ws:List Â) (bX cJ:List Int),rest=vs.zip ws/\
    ė vs bX/\ė ws cJ/\bX.length+ķ.size=cJ.length+items.size/\R (.ok<|.ret<|.bool<|Yn bX cJ) ⟨hp,g,d,tk,os⟩) _
  case turn =>
   rintro⟨y,x⟩ rest b s' ⟨bx,rfl,vs,ws,bX,cJ,hz,hvi,hwi,hlen,hR⟩;cases hvi with
   |nil=>rw[ξ]at hz;cases hz
   |cons a t hvi' =>
    cases hwi with
    |nil=>rw[ż]at hz;cases hz
    |cons c u hwi' =>
     rw[ń]at hz;injection hz with hyx hrest;injection hyx with hy hx;subst hy hx;rw[Yn]at hR;simp only[Ç]at hlen;let⟨e,he,hiff⟩:=HT.eqAt_int A.in1 ⟨hp,g,d,tk,os⟩ a t c u;refine Ã<|he prog w _ _ ?_;cases e with
     |true =>
      rw[fA<|hiff.mp rfl]at hR
      wp_walk
      exact⟨rfl,rfl,_,_,_,_,hrest,hvi',hwi',by lia,hR⟩
     |false =>
      rw[fB λq=>fI (hiff.mpr q) ù]at hR;have hri:=Bh A.in1 ⟨hp,g,d,tk,os⟩ a t c u prog w
      wp_walk using hri
      exact⟨_,rfl,⇑hR⟩
  case fin =>
   rintro⟨b1,b2⟩ s' ⟨bx,rfl,vs,ws,bX,cJ,hz,hvi,hwi,hlen,hR⟩;simp only at bx;subst bx;have hv:Yn bX cJ=fJ (items.size > ķ.size):=by
    cases hvi with
    |nil =>
     cases hwi with
     |nil =>simp only[ĝ]at hlen;rw[Yn];exact(fE<|by lia).symm
     |cons c u hw =>simp only[ĝ,Ç]at hlen;rw[Yn];exact(fE<|by lia).symm
    |cons a t hv =>
     cases hwi with
     |nil =>simp only[ĝ,Ç]at hlen;rw[Yn];exact(fG<|by lia).symm
     |cons c u hw =>rw[ń]at hz;cases hz
   rw[hv]at hR
   wp_walk
   exact⟨_,rfl,by simpa[Builtin.Tuple.tupleCompareSizes]using hR⟩
  case h =>exact⟨rfl,rfl,items.toList,ķ.toList,ns,ms,rfl,hi,hj,by lia,h⟩
end
def Oz{prog:é}{w:Ā}{A:ď}{E:Â->Ä->Prop}{s:Ä}{l b:Ê}{items ķ:Array Â}{ns ms:List Int}{Q:Â->Ä->Prop}(hl:ϱ s.heap l items)(hb:ϱ s.heap b ķ)(hi:ė items.toList ns)(hj:ė ķ.toList ms)
  (hu:A.units<Ĥ) (h:Q (.bool<|Yn ns ms) s):wpAny (Þ prog w) A (ê .Gt (.ref l)<|.ref b) Q E s:=by
 let⟨⟨cls,dd,data,sl⟩,ho,hc,n,hd⟩:=id hl;let⟨⟨cls2,cu,data2,cX⟩,ho2,hc2,n2,aI⟩:=id hb;simp only at hc hd hc2 aI;subst hc hd hc2 aI;exact di (op:=.Gt) ⟨_,ho,rfl⟩ ⟨_,ho2,rfl⟩ PySem.F.slot_tuple_gt PySem.F.entry_tuple_gt (PySem.F.args_tuple_gt_2 _ _) (Kk l b items ķ n n2 dd cu sl cX ns ms hi hj)
  ⟨ho,ho2,show Value.bool (Yn ns ms)≠bK/\Q (.bool<|Yn ns ms) s from ⟨(λx=>nomatch x),h⟩⟩ hu
abbrev rGtT(K:Frag):R2:=λx y H Q=>∃a b ns ms,x=.ref a/\y=.ref b/\fm K H a (ns.map V.int)/\fm K H b (ms.map V.int)/\Q (.bl<|Yn ns ms) H
def op_gtT{X:Cx}(hu:X.A.units<Ĥ):OpR X (ê .Gt)<|rGtT X.K:=by intro Á s σ H x y v u Q I rx ry h;let⟨a,b,ns,ms,rfl,rfl,ha,hb,q⟩:=h;cases rx;cases ry;let⟨î,r1,p1,_⟩:=I.tuple ha;let⟨ae,r2,p2,_⟩:=I.tuple hb;have i1:ė î.toArray.toList ns:=ZN r1;have i2:ė ae.toArray.toList ms:=ZN r2;exact Oz p1 p2 i1 i2 hu ⟨.bl<|Yn ns ms,H,I,rfl,q⟩
def lexGt_lt:∀(ns ms:List Int),Yn ns ms=HT.lexLt ms ns
 |[],[]=>rfl
 |[],_::_=>rfl
 |_::_,[]=>rfl
 |x::xs,y::ys=>by
  rw[Yn,HT.lexLt_cons,lexGt_lt xs ys];by_cases e:x=y
  .rw[fA e,fA e.symm]
  .rw[fB e,fB λz=>e z.symm]
end HT2
namespace Snd
open PySem L2
mutual
noncomputable def toD:fz.D->Ϡ
 |.non=>.none
 |.bl b=>.bool b
 |.int i=>.int i
 |.str s=>.str<|fK s
 |.tup ds=>.tuple<|toDs ds
 |.lst ds=>.list<|toDs ds
noncomputable def toDs:List fz.D->List Ϡ
 |[]=>[]
 |d::ds=>toD d::toDs ds
end
def ofS_inj{s t:String}:fK s=fK t↔s=t:=by
 constructor
 .intro h;rw[Str.ofString_eq_toList,Str.ofString_eq_toList]at h;injection h with h;have h2:s.toList.map ŏ=t.toList.map ŏ:=by simpa using congrArg bj h
  have inj:∀{a b:Char},a.toNat=b.toNat->a=b:=λ{a b} e=>Char.ext<|a8 e;have:s.toList=t.toList:=by
   revert h2;generalize s.toList=a;generalize t.toList=b;intro h2;induction a generalizing b with
   |nil=>cases b with
    |nil=>rfl
    |cons _ _=>cases h2
   |cons x xs ih=>cases b with
    |nil=>cases h2
    |cons y ys =>simp only[Í,Ϣ]at h2;rw[inj h2.1,ih _ h2.2]
  exact String.toList_inj.mp this
 .rintro rfl;rfl
def EG(s t:String):(fK s==fK t)=(s==t):=by
 by_cases e:s=t
 .subst e;simp
 .have:fK s≠fK t:=λz=>e<|ofS_inj.mp z;rw[beq_eq_false_iff_ne.mpr this,beq_eq_false_iff_ne.mpr e]
def Aq(s:String):PyData.strOk (fK s)=dI:=by
 rw[Str.ofString_eq_toList];unfold PyData.strOk;rw[Array.all_eq_true'];intro n hn;have:n∈s.toList.map ŏ:=⇑hn
 let⟨c,_,rfl⟩:=ã.mp this;have:=c.valid;have h2:c.toNat=c.val.toNat:=rfl;simp only[UInt32.isValidChar,Nat.isValidChar]at this;simp only[fH];lia
mutual
theorem MZ:∀d e:fz.D,Ģ (toD d) (toD e)=fz.D.eqv d e
 |.non,e=>by cases e<;>simp[toD,Ģ,fz.D.eqv]
 |.bl _,e=>by cases e<;>simp[toD,Ģ,fz.D.eqv]
 |.int _,e=>by cases e<;>simp[toD,Ģ,fz.D.eqv]
 |.str s,e=>by cases e<;>simp only[toD,Ģ,fz.D.eqv];exact EG _ _
 |.tup ds,e=>by cases e<;>simp only[toD,Ģ,fz.D.eqv];exact toDs_eqv _ _
 |.lst ds,e=>by cases e<;>simp only[toD,Ģ,fz.D.eqv];exact toDs_eqv _ _
theorem toDs_eqv:∀ds es:List fz.D,μ (toDs ds) (toDs es)=fz.D.eqvs ds es
 |[],[]=>by simp[toDs,μ,fz.D.eqvs]
 |[],_::_=>by simp[toDs,μ,fz.D.eqvs]
 |_::_,[]=>by simp[toDs,μ,fz.D.eqvs]
 |d::ds,e::es=>by simp only[toDs,μ,fz.D.eqvs,MZ d e,toDs_eqv ds es]
end
mutual
theorem MF:∀d:fz.D,(toD d).canLay0=dI
 |.non=>by simp[toD,Ś]
 |.bl _=>by simp[toD,Ś]
 |.int _=>by simp[toD,Ś]
 |.str s=>by simp only[toD,Ś];exact Aq s
 |.tup ds=>by simp only[toD,Ś];exact toDs_lay ds
 |.lst ds=>by simp only[toD,Ś];exact toDs_lay ds
theorem toDs_lay:∀ds:List fz.D,ņ (toDs ds)=dI
 |[]=>by simp[toDs,ņ]
 |d::ds=>by simp only[toDs,ņ,MF d,toDs_lay ds,Bool.and_self]
end
section
variable {i:Inf}{G:fz.Hs}{H:Hp}
def Ao{α β:Type}{f:α->Option β}:∀{xs:List α}{ys:List β},xs.mapM f=dF ys->List.length xs=ys.length/\∀(n:Nat) (x:α),xs[n]?=dF x->∃y,ys[n]?=dF y/\f x=dF y:=by
 intro xs;induction xs with
 |nil=>intro ys h;simp at h;subst h;exact⟨rfl,λn x e=>by simp at e⟩
 |cons a as ih =>
  intro ys h;rw[ž]at h;cases e:f a with
  |none=>rw[e]at h;simp at h
  |some b =>
   rw[e]at h;cases e2:as.mapM f with
   |none=>rw[e2]at h;simp at h
   |some bs =>
    rw[e2]at h;simp at h;subst h;let⟨h1,h2⟩:=ih e2;refine⟨by simp[h1],λn x hn=>?_⟩;cases n with
    |zero=>simp at hn;subst hn;exact⟨b,rfl,e⟩
    |succ n=>simp at hn ⊢;exact h2 n x hn
def Ur{K:Frag}{f:fz.Val->Option fz.D}(hf:∀v d x,f v=dF d->RV K H v x->IsD K H x (toD d)):∀{vs:List fz.Val}{xs:List V}{ds:List fz.D},vs.mapM f=dF ds->RVs K H vs xs->IsDs K H xs (toDs ds):=by
 intro vs;induction vs with
 |nil=>intro xs ds h r;simp at h;subst h;cases r;exact .nil
 |cons a as ih =>
  intro xs ds h r;rw[ž]at h;cases e:f a with
  |none=>rw[e]at h;simp at h
  |some b =>
   rw[e]at h;cases e2:as.mapM f with
   |none=>rw[e2]at h;simp at h
   |some bs =>
    rw[e2]at h;simp at h;subst h;cases r with
    |cons r1 r2=>exact .cons (hf a b _ e r1)<|ih e2 r2
def ZE(g:RH i G H){a:Ê}{xs:List fz.Val}(e:fz.dZ (G a)=dF xs):∃vs,fk i.K H a vs/\RVs i.K H xs vs:=by
 cases q:G a with
 |none=>rw[q]at e;cases e
 |some o =>
  rw[q]at e;cases o with
  |lst ys=>cases e;let⟨vs,h,r⟩:=g a _ q;exact⟨vs,fk.of h,r⟩
  |dct _=>cases e
  |ins _ _=>cases e
  |exc _=>cases e
  |frz _=>cases e
  |dtp _=>cases e
def Kz:∀ns:List Int,toDs (ns.map fz.D.int)=ns.map PyData.int
 |[]=>by simp[toDs]
 |n::ns=>by simp only[Í,toDs,toD,Kz ns]
def Wd(g:RH i G H):∀(n:Nat) (v:fz.Val) (d:fz.D) (x:V),fz.dat G n v=dF d->RV i.K H v x->IsD i.K H x (toD d):=by
 intro n;induction n with
 |zero =>
  intro v d x e r;cases v with
  |non=>cases r;simp[fz.dat]at e;subst e;rw[toD];exact .non
  |bl b=>cases r;simp[fz.dat]at e;subst e;rw[toD];exact .bl b
  |int b=>cases r;simp[fz.dat]at e;subst e;rw[toD];exact .int b
  |str s=>cases r;simp[fz.dat]at e;subst e;rw[toD];exact .str _
  |tup xs=>simp[fz.dat]at e
  |ref a=>simp[fz.dat]at e
  |scr ns=>simp[fz.dat]at e
  |key _ _=>simp[fz.dat]at e
 |succ n ih =>
  intro v d x e r;cases v with
  |non=>cases r;simp[fz.dat]at e;subst e;rw[toD];exact .non
  |bl b=>cases r;simp[fz.dat]at e;subst e;rw[toD];exact .bl b
  |int b=>cases r;simp[fz.dat]at e;subst e;rw[toD];exact .int b
  |str s=>cases r;simp[fz.dat]at e;subst e;rw[toD];exact .str _
  |tup xs =>
   rw[fz.dat]at e;cases z:xs.mapM (fz.dat G n)with
   |none=>rw[z]at e;cases e
   |some ds =>
    rw[z]at e;cases e;cases r with
    |tup hp hr=>rw[toD];exact .tup (Zk hp)<|Ur ih z hr
  |ref a =>
   rw[fz.dat]at e;cases q:fz.dZ (G a)with
   |none=>rw[q]at e;cases e
   |some xs =>
    rw[q]at e;simp only[ï]at e;cases z:xs.mapM (fz.dat G n)with
    |none=>rw[z]at e;cases e
    |some ds =>rw[z]at e;cases e;cases r.ref_inv;let⟨vs,h1,h2⟩:=ZE g q;rw[toD];exact .lst h1<|Ur ih z h2
  |scr ns =>
   simp[fz.dat]at e;subst e;cases r with
   |scr h =>rw[toD,Kz];exact .lst (Yk h)<|IsDs.ints ns
  |key _ _=>simp[fz.dat]at e
def XX{n:Nat}:∀{ds:List fz.D},(∀d∈ds,(toD d).depth<=n)->ĳ (toDs ds)<=n
 |[],_=>by rw[toDs];simp[ĳ]
 |d::ds,h=>by rw[toDs];simp only[ĳ];exact Nat.max_le.mpr ⟨h d (by simp),XX λe he=>h e<|by simp[he]⟩
def KR:∀(n:Nat) (v:fz.Val) (d:fz.D),fz.dat G n v=dF d->(toD d).depth<=n:=by
 have sc:∀(n:Nat) (v:fz.Val) (d:fz.D),(∀xs,v≠.tup xs)->(∀a,v≠.ref a)->(∀ns,v≠.scr ns)->fz.dat G n v=dF d->(toD d).depth<=n:=by
  intro n v d h1 h2 h3 e;cases v with
  |tup xs=>exact fI rfl<|h1 xs
  |ref a=>exact fI rfl<|h2 a
  |scr ns=>exact fI rfl<|h3 ns
  |key _ _=>cases n<;>simp[fz.dat]at e
  |_=>simp[fz.dat]at e;subst e;simp[toD,PyData.depth]
 have ms:∀(n:Nat),(∀v d,fz.dat G n v=dF d->(toD d).depth<=n)->∀(xs:List fz.Val) (ds:List fz.D),xs.mapM (fz.dat G n)=dF ds->ĳ (toDs ds)<=n:=by
  intro n ih xs ds z;refine XX λd hd=>?_;let⟨k,hk⟩:=bR.mp hd;let⟨h1,h2⟩:=Ao z;have Ω:k<xs.length:=by rw[h1];exact(Ð.mp hk).1
  let⟨y,hy,hf⟩:=h2 k xs[k]<|É Ω;rw[hk]at hy;cases hy;exact ih _ _ hf
 intro n;induction n with
 |zero =>
  intro v d e;cases v with
  |tup xs=>simp[fz.dat]at e
  |ref a=>simp[fz.dat]at e
  |scr ns=>simp[fz.dat]at e
  |_=>exact sc 0 _ d (by simp) (by simp) (by simp) e
 |succ n ih =>
  intro v d e;cases v with
  |tup xs =>
   rw[fz.dat]at e;cases z:xs.mapM (fz.dat G n)with
   |none=>rw[z]at e;cases e
   |some ds =>rw[z]at e;cases e;rw[toD];exact ő<|ms n ih xs ds z
  |ref a =>
   rw[fz.dat]at e;cases q:fz.dZ (G a)with
   |none=>rw[q]at e;cases e
   |some xs =>
    rw[q]at e;simp only[ï]at e;cases z:xs.mapM (fz.dat G n)with
    |none=>rw[z]at e;cases e
    |some ds =>rw[z]at e;cases e;rw[toD];exact ő<|ms n ih xs ds z
  |scr ns =>simp[fz.dat]at e;subst e;rw[toD];refine ő<|Ô ?_<|Ř n;refine XX λd hd=>?_;let⟨m,_,rfl⟩:=ã.mp hd;simp[toD,PyData.depth]
  |_=>exact sc (n+1) _ d (by simp) (by simp) (by simp) e
def Jo{v:fz.Val}{d:fz.D}(e:fz.dat G fz.deep v=dF d):SeqAt.shaped (toD d)=dI:=by show((toD d).canLay0&&fJ ((toD d).depth<=64))=dI;rw[MF,fG<|Ô (KR _ _ _ e)<|by decide];rfl
def O6(g:RH i G H){v u:fz.Val}{x y:V}{c:Bool}(rx:RV i.K H v x)(ry:RV i.K H u y)(e:fz.eqV G v u=dF c):∃d d',IsD i.K H x d/\IsD i.K H y d'/\SeqAt.shaped d=dI/\SeqAt.shaped d'=dI/\Ģ d d'=c:=by
 unfold fz.eqV at e;cases z:fz.dat G fz.deep v with
 |none=>rw[z]at e;cases e
 |some d =>
  cases z2:fz.dat G fz.deep u with
  |none=>rw[z,z2]at e;cases e
  |some d' =>rw[z,z2]at e;cases e;exact⟨_,_,Wd g _ _ _ _ z rx,Wd g _ _ _ _ z2 ry,Jo z,Jo z2,MZ d d'⟩
def Si:Z8 i .eq<|Qf i.K:=by intro v u G H x y c Q g rx ry e q;let⟨d,d',h1,h2,h3,h4,h5⟩:=O6 g rx ry e;exact⟨d,d',h1,h2,h3,h4,by rw[h5];exact q⟩
def RE:Z8 i .ne<|QW i.K:=by
 intro v u G H x y c Q g rx ry e q;have e:(fz.eqV G v u).map (!·)=dF c:=e;cases z:fz.eqV G v u with
 |none=>rw[z]at e;cases e
 |some b =>rw[z]at e;cases e;let⟨d,d',h1,h2,h3,h4,h5⟩:=O6 g rx ry z;exact⟨d,d',h1,h2,h3,h4,by rw[h5];exact q⟩
end
variable {i:Inf}{X:Cx}{Φ:fz.Fs}
def Zx(s:String):(fK s).length=s.length:=by rw[Str.ofString_eq_toList];show(List.map ŏ s.toList).toArray.size=_;rw[Ë,À];first|rfl|exact bC
def Mc(s t:String):fK (s++t)=fK s++fK t:=by rw[Str.ofString_eq_toList,Str.ofString_eq_toList,Str.ofString_eq_toList];show _=Str.append _ _;unfold Str.append;simp
variable {xs:List fz.Val}
def A3{o:Option fz.Ob}(h:fz.dZ o=dF xs):o=dF (.lst xs):=by
 cases o with
 |none=>cases h
 |some o=>cases o with
  |lst ys=>cases h;rfl
  |_=>cases h
variable {p:Prop}
def Zs{α:Type}[Decidable p]{o:Option α}{a:α}(e:(if p then o else dG)=dF a):p/\o=dF a:=by
 by_cases q:p
 .rw[fA q]at e;exact⟨q,e⟩
 .rw[fB q]at e;cases e
variable {h:fz.Hs} {Q:fz.Q1}
def Zh(w:fz.Rs.no.wp h Q):False:=by rw[fz.Rs.wp_no]at w;exact w
def Zi{v:fz.Val}(w:(fz.Rs.val v).wp h Q):Q v h:=by rw[fz.Rs.wp_val]at w;exact w
def OC{o:fz.Ob}(w:(fz.Rs.new o).wp h Q):fz.new h o Q:=by rw[fz.Rs.wp_new]at w;exact w
def X1[Decidable p]{r:fz.Rs}(w:(if p then r else .no).wp h Q):p/\r.wp h Q:=by
 by_cases e:p
 .rw[fA e]at w;exact⟨e,w⟩
 .rw[fB e]at w;exact(Zh w).elim
variable {u:fz.Val}
def XA{f:Int->Int->fz.Rs}{v:fz.Val}(w:(fz.intV f v u).wp h Q):∃i j,v=.int i/\u=.int j/\(f i j).wp h Q:=by
 cases v with
 |int i=>cases u with
  |int j=>exact⟨i,j,rfl,rfl,w⟩
  |_=>exact(Zh w).elim
 |_=>exact(Zh w).elim
abbrev GV(K:Frag):R2:=λx y H Q=>(rI0 λi j=>.int<|i+j) x y H Q\/(((G9 K x y H Q\/GQ K x y H Q)\/P2 x y H Q)\/∃i j,x=.str i/\y=.str j/\i.length+j.length<=Ü/\Q (.str<|i++j) H)
def Ps:OpR X (Ļ .Add)<|GV X.K:=op_add.or (((op_cat0.or E2).or Hz).or On)
def b_add:Jl i .add<|GV i.K:=by
 intro v u G H x y Q Qm g rx ry w c;cases v<;>cases u<;>first|exact(Zh w).elim|skip
 case int.int a b =>
  replace w:=Zi w
  exact .inl ⟨a,b,rx.int_inv,ry.int_inv,c _ G H _ (ee.refl H) g (.int _) w⟩
 case str.str a b =>
  let⟨h,w⟩:=X1 w
  replace w:=Zi w
  refine .inr<|.inr ⟨_,_,rx.str_inv,ry.str_inv,?_,?_⟩
  .rw[Zx,Zx];exact Ô h ZU
  .rw[<-Mc];exact c _ G H _ (ee.refl H) g (.str _) w
 case tup.tup xs ys =>
  let⟨h,w⟩:=X1 w
  replace w:=Zi w
  .skip
   cases rx with
   |@tup _ p vs hp hr =>
   cases ry with
   |@tup _ q us hq hs =>
   by_cases h0:vs=[]
   .subst h0;have:xs=[]:=ŭ hr.length;subst this;exact .inr<|.inl<|.inl<|.inl ⟨p,q,us,rfl,rfl,Zk hp,Zk hq,c _ G H _ (ee.refl H) g (.tup hq hs) w⟩
   refine .inr<|.inl<|.inl<|.inr ⟨p,q,vs,us,rfl,rfl,Zk hp,Zk hq,h0,?_,λz=>?_,λz a ha=>?_⟩
   .rw[<-hr.length,<-hs.length];exact Ô h ZU
   .have:ys=[]:=ŭ (by rw[hs.length,z];rfl);subst this;rw[ó]at w;exact c _ G H _ (ee.refl H) g (.tup hp hr) w
   .have k:=ee.new (o:=.tup<|vs++us) ha;refine c _ G _ _ k (g.hid k λb o e=>dL ?_) (.tup (.inl dM)<|(hr.keep k).append<|hs.keep k) w;rintro rfl;rw[g.free ha]at e;cases e
 case ref.ref a b =>
  dsimp only[fz.binV,fz.addV]at w;split at w
  .rename_i xs ys e1 e2;unfold fz.Rs.lst at w;split at w
   .rename_i hl;rw[fz.Rs.wp_new]at w;cases rx.ref_inv;cases ry.ref_inv;let⟨vs,h1,r1⟩:=g a _ e1;let⟨us,h2,r2⟩:=g b _ e2;refine .inr (.inl<|.inr ⟨a,b,vs,us,rfl,rfl,h1,h2,?_,YD g w c λp hp=>?_⟩)
    .rw[<-r1.length,<-r2.length,<-Ö];exact Ô hl ZU
    .have k:=ee.new (o:=.lst<|vs++us) hp;exact⟨_,dM,(r1.keep k).append<|r2.keep k⟩
   .exact(Zh w).elim
  .exact(Zh w).elim
def b_sub:Jl i .sub<|rI0 λi j=>.int<|i - j:=by intro v u G H x y Q Qm g rx ry w c;let⟨a,b,rfl,rfl,w⟩:=XA w;exact⟨a,b,rx.int_inv,ry.int_inv,c _ G H _ (ee.refl H) g (.int _)<|Zi w⟩
def RVs.rep{K:Frag}{H:Hp}{vs:List fz.Val}{xs:List V}(r:RVs K H vs xs):∀n,RVs K H (Ú n vs).flatten (Ú n xs).flatten
 |0=>.nil
 |n+1=>by rw[Ĉ,Ĉ,ĸ,ĸ];exact r.append<|RVs.rep r n
set_option exponentiation.threshold 2000 in
def Id{i j:Int}(h:fz.mulOk i j):IntMulOk i j:=by
 rcases h with(h|h)|⟨h1,h2⟩
 .exact .of_left (intBits_le_64 (by lia)<|by lia)
 .exact .of_right (intBits_le_64 (by lia)<|by lia)
 .have e:(10:Nat) ^ 200<2 ^ 1000:=by decide
  exact .of_bits (Ô (PyProof.Rows.intBits_le<|Ñ h1 e)<|by decide) (Ô (PyProof.Rows.intBits_le<|Ñ h2 e)<|by decide)
def EN(s:String)(n:Nat):La (fK s) n=fK (fz.repT s n):=by unfold La fz.repT;rw[Str.ofString_eq_toList,Str.ofString_eq_toList,bD];congr 1;apply dB.mp;rw[KG];simp[List.map_flatten,List.map_replicate]
abbrev G8:R2:=λx y H Q=>rI fz.mulOk (λi j=>.int<|i*j) x y H Q\/(P9 x y H Q\/GU x y H Q)
def Qc:OpR X (Ļ .Mult) G8:=OpR.or (opI λ_ _ _ _ _ _ _ hc q=>PyProof.Rows.mul_int q<|Id hc) (op_rep.or EK)
def b_mul:Jl i .mul G8:=by
 intro v u G H x y Q Qm g rx ry w c;cases v<;>cases u<;>first|exact(Zh w).elim|skip
 case int.int a b =>let⟨h,w⟩:=X1 w;exact .inl ⟨a,b,rx.int_inv,ry.int_inv,h,c _ G H _ (ee.refl H) g (.int _)<|Zi w⟩
 case ref.int a k =>
  dsimp only[fz.binV,fz.mulV]at w;split at w
  .rename_i xs e1;split at w
   .rename_i hk;unfold fz.Rs.lst at w;split at w
    .rw[fz.Rs.wp_new]at w;cases rx.ref_inv;cases ry.int_inv;let⟨vs,h1,r1⟩:=g a _ e1;refine .inr (.inl ⟨a,k,vs,rfl,rfl,h1,by lia,by lia,?_,YD g w c λp hp=>?_⟩)
     .rw[<-r1.length];exact Ô hk.2.2 ZU
     .have kk:=ee.new (o:=.lst (Ú k.toNat vs).flatten) hp;exact⟨_,dM,(r1.keep kk).rep _⟩
    .exact(Zh w).elim
   .exact(Zh w).elim
  .exact(Zh w).elim
 case str.int a k =>
  let⟨hk,w⟩:=X1 w
  replace w:=Zi w
  refine .inr (.inr ⟨_,k,rx.str_inv,ry.int_inv,hk.1,hk.2.1,by rw[Zx];exact hk.2.2.1,by rw[Zx];exact hk.2.2.2,?_⟩);rw[EN];exact c _ G H _ (ee.refl H) g (.str _) w
def b_fdiv:Jl i .fdiv<|rI Rk λi j=>.int<|i / j:=by intro v u G H x y Q Qm g rx ry w c;let⟨a,b,rfl,rfl,w⟩:=XA w;let⟨h,w⟩:=X1 w;exact⟨a,b,rx.int_inv,ry.int_inv,h,c _ G H _ (ee.refl H) g (.int _)<|Zi w⟩
def b_mod:Jl i .mod<|rI (λ_ j=>0<j) λi j=>.int<|i % j:=by intro v u G H x y Q Qm g rx ry w c;let⟨a,b,rfl,rfl,w⟩:=XA w;let⟨h,w⟩:=X1 w;exact⟨a,b,rx.int_inv,ry.int_inv,h,c _ G H _ (ee.refl H) g (.int _)<|Zi w⟩
def b_pow:Jl i .pow<|rI QN λi j=>.int<|i ^ j.toNat:=by intro v u G H x y Q Qm g rx ry w c;let⟨a,b,rfl,rfl,w⟩:=XA w;let⟨h,w⟩:=X1 w;exact⟨a,b,rx.int_inv,ry.int_inv,h,c _ G H _ (ee.refl H) g (.int _)<|Zi w⟩
def Z0{K:Frag}{H:Hp}:∀{xs:List fz.Val}{ns:List Int}{vs:List V},fz.dR xs=dF ns->RVs K H xs vs->vs=ns.map V.int
 |[],_,_,e,r=>by cases r;cases e;rfl
 |v::xs,_,_,e,r=>by
  cases r with
  |cons r t=>cases v with
   |int k =>
    have e:(fz.dR xs).map (k :: ·)=dF _:=e;cases z:fz.dR xs with
    |none=>rw[z]at e;cases e
    |some ns=>rw[z]at e;cases e;cases r;rw[Z0 z t];rfl
   |_=>cases e
def MC:∀(ns ms:List Int),fz.eP ns ms=HT.lexLt ns ms
 |[],[]=>rfl
 |[],_::_=>rfl
 |_::_,[]=>rfl
 |x::xs,y::ys=>by rw[fz.eP,HT.lexLt_cons,MC xs ys]
abbrev PR(K:Frag):R2:=λx y H Q=>rI0 (λi j=>.bl<|fJ (i<j)) x y H Q\/Qa K x y H Q
def Sw(hu:X.A.units<Ĥ):OpR X (ê .Lt)<|PR X.K:=op_lt.or (IG hu)
abbrev Q9(K:Frag):R2:=λx y H Q=>rI0 (λi j=>.bl<|fJ (j<i)) x y H Q\/HT2.rGtT K x y H Q
def Sl(hu:X.A.units<Ĥ):OpR X (ê .Gt)<|Q9 X.K:=op_gt.or (HT2.op_gtT hu)
variable {H:Hp} {x:V} {c:Bool}
def GO{K:Frag}{ys:List fz.Val}{y:V}(rx:RV K H (.tup xs) x)(ry:RV K H (.tup ys) y)(e:fz.eQ (.tup xs) (.tup ys)=dF c):∃a b ns ms,x=.ref a/\y=.ref b/\fm K H a (ns.map V.int)/\fm K H b (ms.map V.int)/\HT.lexLt ns ms=c:=by
 simp only[fz.eQ]at e;cases z1:fz.dR xs with
 |none=>rw[z1]at e;cases e
 |some ns =>
  cases z2:fz.dR ys with
  |none=>rw[z1,z2]at e;cases e
  |some ms =>
   rw[z1,z2]at e;cases e;cases rx with
   |@tup _ p vs hp hr =>
   cases ry with
   |@tup _ q us hq hs =>
   have h1:=Z0 z1 hr;have h2:=Z0 z2 hs;subst h1 h2;exact⟨p,q,ns,ms,rfl,rfl,Zk hp,Zk hq,(MC _ _).symm⟩
def c_lt:Z8 i .lt<|PR i.K:=by
 intro v u G H x y c Q g rx ry e q
 replace e:fz.eQ v u=dF c:=e
 cases v<;>cases u<;>first|(cases e;done)|skip
 case int.int a b=>cases e;exact .inl ⟨a,b,rx.int_inv,ry.int_inv,q⟩
 case tup.tup xs ys =>let⟨a,b,ns,ms,h1,h2,h3,h4,h5⟩:=GO rx ry e;exact .inr ⟨a,b,ns,ms,h1,h2,h3,h4,by rw[h5];exact q⟩
def c_gt:Z8 i .gt<|Q9 i.K:=by
 intro v u G H x y c Q g rx ry e q
 replace e:fz.eQ u v=dF c:=e
 cases v<;>cases u<;>first|(cases e;done)|skip
 case int.int a b=>cases e;exact .inl ⟨a,b,rx.int_inv,ry.int_inv,q⟩
 case tup.tup xs ys =>let⟨a,b,ns,ms,h1,h2,h3,h4,h5⟩:=GO ry rx e;exact .inr ⟨b,a,ms,ns,h2,h1,h4,h3,by rw[HT2.lexGt_lt,h5];exact q⟩
def GN{v:fz.Val}(e:fz.leV v u=dF c):∃i j,v=.int i/\u=.int j/\fJ (i<=j)=c:=by
 cases v with
 |int i=>cases u with
  |int j=>cases e;exact⟨i,j,rfl,rfl,rfl⟩
  |_=>cases e
 |_=>cases e
def c_le:Z8 i .le<|rI0 λi j=>.bl<|fJ (i<=j):=by intro v u G H x y c Q g rx ry e q;let⟨a,b,rfl,rfl,rfl⟩:=GN e;exact⟨a,b,rx.int_inv,ry.int_inv,q⟩
def c_ge:Z8 i .ge<|rI0 λi j=>.bl<|fJ (j<=i):=by intro v u G H x y c Q g rx ry e q;let⟨a,b,rfl,rfl,rfl⟩:=GN e;exact⟨b,a,rx.int_inv,ry.int_inv,q⟩
def RV.isN{K:Frag}{v:fz.Val}(r:RV K H v x):fJ (x=.non)=fJ (v=.non):=by cases r<;>simp
variable {a:Expr} {ma:fz.E} {ç:Pos} {p2:Pos} {j:Nat}
def Pz(ha:PE X a<|tE X i Φ ma):PE X (.Compare a [.Is] [.Constant .none j p2] ç) (tE X i Φ<|.cmp .is ma<|.cst .non) :=
 (Bp (Ch ha) rfl).imp λσ H Q ⟨env,G,Qm,Em,p,w,c⟩=>by refine one p w λv G1 H1 x k1 p1 r q=>?_;let⟨d,e,q2⟩:=dO q;have e:dF (fJ (v=.non))=dF d:=e;cases e;rw[r.isN];exact c _ G1 H1 _ k1 p1.hp (.bl _) q2
def LA(ha:PE X a<|tE X i Φ ma):PE X (.Compare a [.IsNot] [.Constant .none j p2] ç) (tE X i Φ<|.cmp .isnot ma<|.cst .non) :=
 (Bp (UK ha) rfl).imp λσ H Q ⟨env,G,Qm,Em,p,w,c⟩=>by refine one p w λv G1 H1 x k1 p1 r q=>?_;let⟨d,e,q2⟩:=dO q;have e:dF (!fJ (v=.non))=dF d:=e;cases e;rw[r.isN];exact c _ G1 H1 _ k1 p1.hp (.bl _) q2
def HJ(ha:PE X a<|tE X i Φ ma):PT X (.Compare a [.Is] [.Constant .none j p2] ç) (tTt X i Φ<|.val<|.cmp .is ma<|.cst .non) :=
 (B8 (Ch ha) rfl).imp λσ H Q ⟨env,G,Qm,Em,p,w,c⟩=>by refine one p w λv G1 H1 x k1 p1 r q=>?_;let⟨d,e,q2⟩:=dO q;let⟨d',e',q3⟩:=dO q2;cases e';have e:dF (fJ (v=.non))=dF d:=e;cases e;rw[r.isN];exact⟨_,rfl,c _ G1 H1 k1 p1.hp q3⟩
def Fq(ha:PE X a<|tE X i Φ ma):PT X (.Compare a [.IsNot] [.Constant .none j p2] ç) (tTt X i Φ<|.val<|.cmp .isnot ma<|.cst .non) :=
 (B8 (UK ha) rfl).imp λσ H Q ⟨env,G,Qm,Em,p,w,c⟩=>by refine one p w λv G1 H1 x k1 p1 r q=>?_;let⟨d,e,q2⟩:=dO q;let⟨d',e',q3⟩:=dO q2;cases e';have e:dF (!fJ (v=.non))=dF d:=e;cases e;rw[r.isN];exact⟨_,rfl,c _ G1 H1 k1 p1.hp q3⟩
end Snd
namespace Snd
open PySem L2 PySem.Spec PyProof.Rows
variable {i:Inf}{X:Cx}{Φ:fz.Fs}
def RKs.length{K:Frag}{H:Hp}:∀{kvs:List (fz.Val×fz.Val)}{ps:List (Key×V)},RKs K H kvs ps->kvs.length=ps.length
 |_,_,.nil=>rfl
 |_,_,.cons _ _ t=>by rw[Ç,Ç,RKs.length t]
def WZ{k j:fz.Val}{c d:Key}(a:WT k c)(b:WT j d):(k==j)=fJ (c=d):=by
 have key:k=j↔c=d:=by
  cases k<;>cases c<;>first|(cases a;done)|skip
  .cases j<;>cases d<;>first|(cases b;done)|skip
   .cases a;cases b;simp
   .cases a;cases b;simp
  .cases j<;>cases d<;>first|(cases b;done)|skip
   .cases a;cases b;simp
   .cases a;cases b;simp[ofS_inj]
 by_cases e:k=j
 .rw[fG<|key.mp e,e];simp
 .rw[fE λz=>e<|key.mpr z];simpa using e
def d5{k:fz.Val}{x:V}{K:Frag}{H:Hp}(h:fz.d8 k=dI)(r:RV K H k x):∃c,WT k c/\x=kV c:=by
 cases k with
 |int n=>cases r.int_inv;exact⟨.inl n,rfl,rfl⟩
 |str s=>cases r.str_inv;exact⟨.inr<|fK s,rfl,rfl⟩
 |_=>cases h
def RKs.look{K:Frag}{H:Hp}{k:fz.Val}{c:Key}(a:WT k c):∀{kvs:List (fz.Val×fz.Val)}{ps:List (Key×V)},RKs K H kvs ps->
  (∀v,fz.eh kvs k=dF v->∃x,YK ps c=dF x/\RV K H v x)/\(fz.eh kvs k=dG->YK ps c=dG)
 |_,_,.nil=>⟨λv e=>(by cases e),λ_=>rfl⟩
 |_,_,.cons (k:=j) (v:=u) (c:=d) (x:=y) (kvs:=kvs) (ps:=ps) b r t=>by
  have ih:=RKs.look a t;have q:=WZ b a;by_cases e:d=c
  .rw[fG e]at q;have e1:fz.eh ((j,u)::kvs) k=dF u:=by simp[fz.eh,Ĕ,q]
   rw[e1,Xp e];exact⟨λv z=>(by cases z;exact⟨y,rfl,r⟩),λz=>(by cases z)⟩
  .rw[fE e]at q;have e1:fz.eh ((j,u)::kvs) k=fz.eh kvs k:=by simp[fz.eh,Ĕ,q]
   rw[e1,Xo e];exact ih
def RKs.has{K:Frag}{H:Hp}{k:fz.Val}{c:Key}(a:WT k c):∀{kvs:List (fz.Val×fz.Val)}{ps:List (Key×V)},RKs K H kvs ps->fz.ei kvs k=ps.any λkv=>fJ (kv.1=c)
 |_,_,.nil=>rfl
 |_,_,.cons b r t=>by have ih:=RKs.has a t;unfold fz.ei at ih ⊢;rw[ĥ,ĥ,ih,WZ b a]
def RKs.app{K:Frag}{H:Hp}{k v:fz.Val}{c:Key}{x:V}(a:WT k c)(q:RV K H v x):∀{kvs:List (fz.Val×fz.Val)}{ps:List (Key×V)},RKs K H kvs ps->RKs K H (kvs++[(k,v)]) (ps++[(c,x)])
 |_,_,.nil=>.cons a q .nil
 |_,_,.cons b r t=>.cons b r<|RKs.app a q t
def RKs.repl{K:Frag}{H:Hp}{k v:fz.Val}{c:Key}{x:V}(a:WT k c)(q:RV K H v x):∀{kvs:List (fz.Val×fz.Val)}{ps:List (Key×V)},RKs K H kvs ps->
  RKs K H (kvs.map λp=>if p.1==k then(k,v)else p) (ps.map λkv=>if kv.1=c then(kv.1,x)else kv)
 |_,_,.nil=>.nil
 |_,_,.cons (k:=j) (v:=u) (c:=d) (x:=y) b r t=>by
  have ih:=RKs.repl a q t;have z:=WZ b a;rw[Í,Í];by_cases e:d=c
  .rw[fG e]at z;rw[fA z,fA e];exact .cons (e▸a) q ih
  .rw[fE e]at z;rw[fB (by rw[z];decide),fB e];exact .cons b r ih
def RKs.put{K:Frag}{H:Hp}{k v:fz.Val}{c:Key}{x:V}(a:WT k c)(q:RV K H v x){kvs:List (fz.Val×fz.Val)}{ps:List (Key×V)}(r:RKs K H kvs ps):RKs K H (fz.ej kvs k v)<|L2.ej ps c x:=by
 unfold fz.ej L2.ej;rw[r.has a];by_cases e:(ps.any λkv=>fJ (kv.1=c))=dI
 .rw[fA e,fA e];exact r.repl a q
 .rw[fB e,fB e];exact r.app a q
def RKs.drop{K:Frag}{H:Hp}{k:fz.Val}{c:Key}(a:WT k c):∀{kvs:List (fz.Val×fz.Val)}{ps:List (Key×V)},RKs K H kvs ps->RKs K H (fz.eB kvs k) (L2.eB ps c)
 |_,_,.nil=>.nil
 |_,_,.cons (k:=j) (v:=u) (c:=d) (x:=y) b r t=>by
  have ih:=RKs.drop a t;have z:=WZ b a;unfold fz.eB L2.eB at ih ⊢;rw[ý,ý];by_cases e:d=c
  .rw[fG e]at z;rw[fB (by rw[z];decide),fB<|by simpa using e];exact ih
  .rw[fE e]at z;rw[fA (by rw[z];rfl),fA<|by simpa using e];exact .cons b r ih
variable {G:fz.Hs} {H:Hp} {a:Ê} {kvs':List (fz.Val×fz.Val)}
def MW{kvs:List (fz.Val×fz.Val)}{ps cg:List (Key×V)}(g:RH i G H)(h:H a=dF (.dK ps))(r:RKs i.K H kvs' cg):ee H (upd H a<|.dK cg)/\RH i (fz.upd G a<|.dct kvs') (upd H a<|.dK cg):=by
 have k:ee H<|upd H a<|.dK cg:=ee.put (λxs e=>by rw[h]at e;cases e) λp u e=>by rw[h]at e;cases e
 exact⟨k,g.put k ⟨cg,dM,r.keep k⟩⟩
def RTs.length{K:Frag}{H:Hp}:∀{kvs:List (fz.Val×fz.Val)}{ps:List (List Key×V)},RTs K H kvs ps->kvs.length=ps.length
 |_,_,.nil=>rfl
 |_,_,.cons _ t=>by rw[Ç,Ç,RTs.length t]
def MK(a b i j:Int):(fz.Val.key a b == .key i j)=fJ (([.inl a,.inl b]:List Key)=[.inl i,.inl j]):=by
 by_cases e:a=i/\b=j
 .obtain⟨rfl,rfl⟩:=e;rw[fG rfl];simp
 .rw[fE λz=>e<|by simpa using z];exact beq_eq_false_iff_ne.mpr λz=>e ⇑z
def RTs.look{K:Frag}{H:Hp}{i j:Int}:∀{kvs:List (fz.Val×fz.Val)}{ps:List (List Key×V)},RTs K H kvs ps->
  (∀v,fz.eh kvs (.key i j)=dF v->∃x,YK ps [.inl i,.inl j]=dF x/\RV K H v x)/\(fz.eh kvs (.key i j)=dG->YK ps [.inl i,.inl j]=dG)
 |_,_,.nil=>⟨λv e=>(by cases e),λ_=>rfl⟩
 |_,_,.cons (i:=a) (j:=b) (v:=u) (x:=y) (kvs:=kvs) (ps:=ps) r t=>by
  have ih:=RTs.look (i:=i) (j:=j) t;have q:=MK a b i j;by_cases e:([.inl a,.inl b]:List Key)=[.inl i,.inl j]
  .rw[fG e]at q;have e1:fz.eh ((.key a b,u)::kvs) (.key i j)=dF u:=by simp[fz.eh,Ĕ,q]
   rw[e1,Xp e];exact⟨λv z=>(by cases z;exact⟨y,rfl,r⟩),λz=>(by cases z)⟩
  .rw[fE e]at q;have e1:fz.eh ((.key a b,u)::kvs) (.key i j)=fz.eh kvs (.key i j):=by simp[fz.eh,Ĕ,q]
   rw[e1,Xo e];exact ih
def RTs.has{K:Frag}{H:Hp}{i j:Int}:∀{kvs:List (fz.Val×fz.Val)}{ps:List (List Key×V)},RTs K H kvs ps->fz.ei kvs (.key i j)=ps.any λkv=>fJ (kv.1=[.inl i,.inl j])
 |_,_,.nil=>rfl
 |_,_,.cons (i:=a) (j:=b) r t=>by have ih:=RTs.has (i:=i) (j:=j) t;unfold fz.ei at ih ⊢;rw[ĥ,ĥ,ih,MK a b i j]
def RTs.app{K:Frag}{H:Hp}{v:fz.Val}{i j:Int}{x:V}(q:RV K H v x):∀{kvs:List (fz.Val×fz.Val)}{ps:List (List Key×V)},RTs K H kvs ps->RTs K H (kvs++[(.key i j,v)]) (ps++[([.inl i,.inl j],x)])
 |_,_,.nil=>.cons q .nil
 |_,_,.cons r t=>.cons r<|RTs.app q t
def RTs.repl{K:Frag}{H:Hp}{v:fz.Val}{i j:Int}{x:V}(q:RV K H v x):∀{kvs:List (fz.Val×fz.Val)}{ps:List (List Key×V)},RTs K H kvs ps->
  RTs K H (kvs.map λp=>if p.1 == .key i j then(.key i j,v)else p) (ps.map λkv=>if kv.1=[.inl i,.inl j]then(kv.1,x)else kv)
 |_,_,.nil=>.nil
 |_,_,.cons (i:=a) (j:=b) (v:=u) (x:=y) r t=>by
  have ih:=RTs.repl (i:=i) (j:=j) q t;have z:=MK a b i j;rw[Í,Í];by_cases e:([.inl a,.inl b]:List Key)=[.inl i,.inl j]
  .rw[fG e]at z;simp only[z,if_true,e];exact .cons q ih
  .rw[fE e]at z;simp only[z,e,if_false,Ċ];exact .cons r ih
def RTs.put{K:Frag}{H:Hp}{v:fz.Val}{i j:Int}{x:V}(q:RV K H v x){kvs:List (fz.Val×fz.Val)}{ps:List (List Key×V)}(r:RTs K H kvs ps):RTs K H (fz.ej kvs (.key i j) v)<|L2.ej ps [.inl i,.inl j] x:=by
 unfold fz.ej L2.ej;rw[r.has];by_cases e:(ps.any λkv=>fJ (kv.1=[.inl i,.inl j]))=dI
 .rw[fA e,fA e];exact r.repl q
 .rw[fB e,fB e];exact r.app q
def Ey{ps cg:List (List Key×V)}(g:RH i G H)(h:H a=dF (.dT ps))(r:RTs i.K H kvs' cg):ee H (upd H a<|.dT cg)/\RH i (fz.upd G a<|.dtp kvs') (upd H a<|.dT cg):=by
 have k:ee H<|upd H a<|.dT cg:=ee.put (λxs e=>by rw[h]at e;cases e) λp u e=>by rw[h]at e;cases e
 exact⟨k,g.put k ⟨cg,dM,r.keep k⟩⟩
def Je{k:fz.Val}{x:V}{K:Frag}{H:Hp}(h:fz.isKeyT k=dI)(r:RV K H k x):∃a b c,k=.key a b/\x=.ref c/\H c=dF (.tup<|([.inl a,.inl b]:List Key).map kV):=by
 cases k with
 |key a b=>cases r with|key e=>exact⟨a,b,_,rfl,rfl,e⟩
 |_=>cases h
abbrev Dh:R2:=λx y H Q=>∃a v,x=.ref a/\DGet H a y (dF v)/\Q v H
def FM(hu:X.A.units+1<Ĥ):IxR X Dh:=by
 intro Ŵ slice Á s σ H x y v u Q I rx ry h hs;let⟨a,z,rfl,g,q⟩:=h;cases rx;have hT:=Nt I g;unfold cD;refine Ã ?_;rw[getitemInPython_of_ne hT.not_modules];refine Ã<|wpAny_specialOf hT PySem.F.slot_dict_getitem.lookup ?_;have fin:wpAny (Þ X.prog X.w) X.A (subscripted slice dJ (.ref a) u) (λr aj=>wpAny (Þ X.prog X.w) X.A (letTemporaryGo Ŵ (.ref a) r >>= λ_=>pure r) (EP X Á σ Q) X.xe aj) X.xe s:=by rw[hs];exact wpAny_operating<|KE hu I g ry λw' s' I' aD=>Ã<|wpAny_letTemporaryGo<|Õ ⟨_,_,I',aD,q⟩
 first
  |exact Õ<|Ã fin
  |exact Ã<|Õ<|Ã fin
  |exact Ã fin
abbrev EH(b:Bool):R2:=λx y H Q=>∃a o,y=.ref a/\DGet H a x o/\Q (.bl<|b ^^ o.isSome) H
def H9(hu:X.A.units+1<Ĥ):OpR X (ê .In)<|EH dJ:=by intro Á s σ H x y v u Q I rx ry h;let⟨a,o,rfl,g,q⟩:=h;cases ry;rw[aG]at q;exact Sh hu I g rx λs' I'=>⟨.bl o.isSome,_,I',rfl,q⟩
def Lo(hu:X.A.units+1<Ĥ):OpR X (ê .NotIn)<|EH dI:=by intro Á s σ H x y v u Q I rx ry h;let⟨a,o,rfl,g,q⟩:=h;cases ry;rw[a9]at q;exact Et hu I g rx λs' I'=>⟨.bl (!o.isSome),_,I',rfl,q⟩
abbrev GL:V->V->V->Hp->(Hp->Prop)->Prop:=λo y v H Q=>∃a H',o=.ref a/\DPut H a y v H'/\Q H'
def Np(hu:X.A.units+1<Ĥ):PSet X GL:=by intro Á s σ H o y v ov iv u Q I ro ri rv h;let⟨a,H',rfl,g,q⟩:=h;cases ro;exact Ai hu I g ri rv λs' I'=>⟨H',I',q⟩
def PSet.or{r r':V->V->V->Hp->(Hp->Prop)->Prop}(h:PSet X r)(h':PSet X r'):PSet X λo y v H Q=>r o y v H Q\/r' o y v H Q:=by
 intro Á s σ H o y v ov iv u Q I ro ri rv q;rcases q with q|q
 .exact h Á s σ H o y v ov iv u Q I ro ri rv q
 .exact h' Á s σ H o y v ov iv u Q I ro ri rv q
end Snd
namespace Snd
open PySem L2
variable {i:Inf}{X:Cx}{Φ:fz.Fs}
def MA(n:Nat)(k:Int):fz.ixN n k=L2.ixN n k:=rfl
variable {H:Hp} {xs:List fz.Val} {vs:List V}
def Jd{K:Frag}{k:Int}{v:fz.Val}(r:RVs K H xs vs)(e:fz.atI xs k=dF v):∃x,L2.atI vs k=dF x/\RV K H v x:=by
 unfold fz.atI at e;unfold L2.atI;rw[MA,r.length]at e;cases z:L2.ixN vs.length k with
 |none=>rw[z]at e;cases e
 |some j =>rw[z]at e;let⟨x,h1,h2⟩:=r.get (show xs[j]?=dF v from e);exact⟨x,h1,h2⟩
abbrev Qw(i:Inf)(r:R2):Prop:=∀(v u:fz.Val) (G:fz.Hs) (H:Hp) (x y:V) (w:fz.Val) (Q:VK),RH i G H->RV i.K H v x->RV i.K H u y->fz.eR G v u=dF w->(∀z,RV i.K H w z->Q z H)->r x y H Q
variable {a:Expr} {ma:fz.E} {ç:Pos}
def QR{b:Expr}{mb:fz.E}{r:R2}(hr:IxR X r)(ho:Qw i r)(ha:PE X a<|tE X i Φ ma)(hb:PE X b<|tE X i Φ mb)(hs:M0 b):PE X (.Subscript a b ç) (tE X i Φ<|.idx ma mb) :=
 (Q7 hr ha hb hs).imp λσ H Q ⟨env,G,Qm,Em,p,w,c⟩=>by
  exact two p w λv u G2 H2 x y k2 p2 rx ry q=>by let⟨z,e,q⟩:=dO q;exact ho v u G2 H2 x y z Q p2.hp rx ry e λt rt=>c z G2 H2 t k2 p2.hp rt q
def EZ{s:String}{k:Int}{c:Char}(e:fz.atI s.toList k=dF c):L2.atI (fK s).cps.toList k=dF c.toNat:=by
 rw[Str.ofString_eq_toList];show L2.atI (List.map ŏ s.toList).toArray.toList k=_;unfold fz.atI at e;unfold L2.atI;simp only[À];rw[MA]at e;cases z:L2.ixN s.toList.length k with
 |none=>rw[z]at e;cases e
 |some j =>rw[z]at e;have e:s.toList[j]?=dF c:=e;show(List.map ŏ s.toList)[j]?=_;rw[Ó,e];rfl
def OQ(c:Char):fK (ϩ c)=⟨#[c.toNat]⟩:=by rw[Str.ofString_eq_toList];simp
abbrev RN(K:Frag):R2:=λx y H Q=>rIx K x y H Q\/Dh x y H Q
def Qx:Qw i<|RN i.K:=by
 intro v u G H x y w Q g rx ry e q;cases v with
 |tup xs =>
  cases u with
  |int k =>
   cases rx with
   |tup hp hr =>let⟨z,h1,h2⟩:=Jd hr (show fz.atI xs k=dF w from e);exact .inl<|.inr<|.inl ⟨_,_,k,z,rfl,ry.int_inv,Zk hp,h1,q z h2⟩
  |_=>cases e
 |str s =>
  cases u with
  |int k =>
   simp only[fz.eR]at e;split at e
   .rename_i hl;cases z:fz.atI s.toList k with
    |none=>rw[z]at e;cases e
    |some c =>rw[z]at e;cases e;refine .inl (.inr<|.inr ⟨_,k,_,rx.str_inv,ry.int_inv,by rw[Zx];exact Ô hl ZU,EZ z,?_⟩);have:=q _<|.str<|ϩ c;rw[OQ]at this;exact this
   .cases e
  |_=>cases e
 |ref a =>
  cases rx.ref_inv
  replace e:(match G a with|some (.lst xs)=>(fz.fv u).bind (fz.atI xs)|some (.dct kvs)=>if fz.d8 u then fz.eh kvs u else dG|some (.frz kvs)=>if fz.d8 u then fz.eh kvs u else dG|some (.dtp kvs)=>if fz.isKeyT u then fz.eh kvs u else dG|_=>dG)=dF w:=e
  cases z:G a with
  |none=>rw[z]at e;cases e
  |some o =>
   rw[z]at e;cases o with
   |lst xs =>let⟨k,hk,e⟩:=ß.mp e;cases ZJ hk;let⟨vs,h1,h2⟩:=g a _ z;let⟨t,h3,h4⟩:=Jd h2 e;exact .inl<|.inl ⟨a,vs,k,t,rfl,ry.int_inv,fk.of h1,h3,q t h4⟩
   |dct kvs =>let⟨hk,e⟩:=Zs (show(if fz.d8 u then fz.eh kvs u else dG)=dF w from e);let⟨ps,h1,h2⟩:=g a _ z;let⟨d,kr,rfl⟩:=d5 hk ry;let⟨t,hx,rv⟩:=(h2.look kr).1 w e;exact .inr ⟨a,t,rfl,by rw[<-hx];exact DGet.k h1,q t rv⟩
   |frz kvs =>let⟨hk,e⟩:=Zs (show(if fz.d8 u then fz.eh kvs u else dG)=dF w from e);let⟨ob,ps,h1,h2⟩:=g a _ z;let⟨d,kr,rfl⟩:=d5 hk ry;let⟨t,hx,rv⟩:=(h2.look kr).1 w e;exact .inr ⟨a,t,rfl,.inl ⟨ps,d,.inr ⟨ob,h1⟩,rfl,hx.symm⟩,q t rv⟩
   |dtp kvs =>let⟨hk,e⟩:=Zs (show(if fz.isKeyT u then fz.eh kvs u else dG)=dF w from e);let⟨ps,h1,h2⟩:=g a _ z;let⟨k1,k2,b,rfl,rfl,hb⟩:=Je hk ry;let⟨t,hx,rv⟩:=(h2.look).1 w e;exact .inr ⟨a,t,rfl,by rw[<-hx];exact DGet.t h1 hb,q t rv⟩
   |_=>cases e
 |scr ns =>
  cases u with
  |int k =>
   cases rx with
   |scr h =>let⟨t,h3,h4⟩:=Jd (RVs.ints ns) (show fz.atI (ns.map .int) k=dF w from e);exact .inl<|.inl ⟨_,_,k,t,rfl,ry.int_inv,Yk h,h3,q t h4⟩
  |_=>cases e
 |_=>cases e
abbrev tOx(X:Cx)(i:Inf)(Φ:fz.Fs)(m:fz.Oe):TO:=λσ H Q=>∃env G Qm Em,Pre X i σ H env G Em/\fz.wO Φ m env G Qm Em/\∀k G' H',ee H H'->RH i G' H'->Qm k G'->Q k H'
def _root_.L2.PO.imp{e:Option Expr}{t t':TO}(h:PO X e t)(f:∀σ H Q,t' σ H Q->t σ H Q):PO X e t':=λÁ s σ H Q I q=>h Á s σ H Q I (f σ H Q q)
def Fy:PO X dG<|tOx X i Φ .none:=po_none.imp λσ H Q ⟨env,G,Qm,Em,p,w,c⟩=>by exact c dG G H (ee.refl H) p.hp w
def EA{e:Expr}{m:fz.E}(he:PE X e<|tE X i Φ m):PO X (dF e)<|tOx X i Φ<|.some m:=(FP he).imp λσ H Q ⟨env,G,Qm,Em,p,w,c⟩=>by
 exact one p w λv G1 H1 x k1 p1 r q=>by let⟨b,e,q2⟩:=dO q;cases ZJ e;exact⟨b,r.int_inv,c _ G1 H1 k1 p1.hp q2⟩
def NZ{K:Frag}(r:RVs K H xs vs)(lo hi:Option Int):RVs K H (fz.cut xs lo hi)<|ML vs lo hi:=by
 have e:∀(n d:Nat) (o:Option Int),fz.eN n d o=HT.sIx n d o:=by
  intro n d o;cases o with
  |none=>rfl
  |some k =>
   show(if 0<=k then min k.toNat n else(k+n).toNat)=(if k<0 then(k+(n:Int)).toNat else min k.toNat n)
   by_cases h:k<0
   .rw[fA h,fB<|by lia]
   .rw[fB h,fA<|by lia]
 unfold fz.cut ML;rw[e,e,r.length];exact(r.drop _).take _
abbrev Qt(i:Inf)(r:V->Option Int->Option Int->Hp->VK->Prop):Prop:=∀(v:fz.Val) (lo hi:Option Int) (G:fz.Hs) (H:Hp) (x:V) (Q:VK) (Qm:fz.Q1),RH i G H->RV i.K H v x->(fz.eS G v lo hi).wp G Qm->Cn i H Q Qm->r x lo hi H Q
def Qy{lo hi:Option Expr}{ml mh:fz.Oe}{r:V->Option Int->Option Int->Hp->VK->Prop}{p2:Pos}(hr:SlR X r)(ho:Qt i r)(ha:PE X a<|tE X i Φ ma)(hl:PO X lo<|tOx X i Φ ml)(hh:PO X hi<|tOx X i Φ mh):PE X (.Subscript a (.Slice lo hi dG p2) ç) (tE X i Φ<|.slc ma ml mh) :=
 (DN hr ha hl hh).imp λσ H Q ⟨env,G,Qm,Em,p,w,c⟩=>by
  exact⟨env,G,_,Em,p,w,λv G1 H1 x k1 g1 r1 w1=>⟨env,G1,_,Em,p.go k1 g1,w1,λl G2 H2 k2 g2 w2=>⟨env,G2,_,Em,(p.go k1 g1).go k2 g2,w2,λu G3 H3 k3 g3 w3 =>
    ho v l u G3 H3 x Q Qm g3 ((r1.keep k2).keep k3) w3 (((c.go k1).go k2).go k3)⟩⟩⟩
abbrev QJ(K:Frag):V->Option Int->Option Int->Hp->VK->Prop:=λx lo hi H Q=>Qu K x lo hi H Q\/QK K x lo hi H Q\/PV x lo hi H Q\/Pp K x lo hi H Q
def RZ:SlR X<|QJ X.K:=sl_list.or (eZ.or<|sl_str.or Ec)
def Wg(n d:Nat)(o:Option Int):fz.eN n d o=HT.sIx n d o:=by
 cases o with
 |none=>rfl
 |some k =>
  show(if 0<=k then min k.toNat n else(k+n).toNat)=(if k<0 then(k+(n:Int)).toNat else min k.toNat n)
  by_cases h:k<0
  .rw[fA h,fB<|by lia]
  .rw[fB h,fA<|by lia]
def Nv(n d:Nat)(h:d<=n)(o:Option Int):fz.eN n d o<=n:=by
 cases o with
 |none=>exact h
 |some k =>show(if 0<=k then min k.toNat n else(k+n).toNat)<=n;split<;>lia
def clip_eq(n d:Nat)(h:d<=n)(o:Option Int):(match o with
    |none=>(d:Int)
    | some i=>max 0<|min (if i<0 then i+(n:Int)else i) (n:Int))=(fz.eN n d o:Int):=by
 cases o with
 |none=>rfl
 |some k =>
  show _=(((if 0<=k then min k.toNat n else(k+n).toNat):Nat):Int)
  by_cases hk:k<0
  .rw[fB<|show ¬ 0<=k by lia];simp only[hk,if_true];lia
  .rw[fA<|show 0<=k by lia];simp only[hk,if_false];lia
def HM(n:Nat)(lo hi:Option Int):PySem.Builtin.Str.strSliceIndices lo hi 1 n=(List.range<|fz.eN n n hi - fz.eN n 0 lo).map λk=>fz.eN n 0 lo+k:=by
 have e1:=clip_eq n 0 (Ř _) lo;have e2:=clip_eq n n (Ì _) hi;have e3:PySem.Builtin.Str.strSliceIndices lo hi 1 n=sliceRange (fz.eN n 0 lo:Int) (fz.eN n n hi:Int) 1:=by unfold PySem.Builtin.Str.strSliceIndices;rw[<-e1,<-e2];cases lo<;>cases hi<;>rfl
 rw[e3];unfold sliceRange;have e4:(if(1:Int) > 0 then(if(fz.eN n 0 lo:Int)<(fz.eN n n hi:Int)then((fz.eN n n hi:Int) - (fz.eN n 0 lo:Int)+1 - 1) / 1 else 0)else(if(fz.eN n 0 lo:Int) > (fz.eN n n hi:Int)then((fz.eN n 0 lo:Int) - (fz.eN n n hi:Int) - 1 - 1) / (-1)else 0)).toNat=fz.eN n n hi - fz.eN n 0 lo:=by rw[fA (by decide),Int.ediv_one];split<;>lia
 show(List.range<|Int.toNat<|if(1:Int) > 0 then _ else _).map _=_;rw[e4];refine ě λk _=>?_;lia
def Gg(s:String)(lo hi:Option Int):Aa (fK s) lo hi=fK (ι<|fz.cut s.toList lo hi):=by
 have hl:(fK s).length=s.toList.length:=by rw[Zx,bC]
 have ha:=Nv s.toList.length 0 (Ř _) lo;have hb:=Nv s.toList.length s.toList.length (Ì _) hi;have e:=HM s.toList.length lo hi;rw[<-hl]at e;unfold Aa;rw[e];simp only[hl];have ec:(fK s).cps.toList=s.toList.map ŏ:=by rw[Str.ofString_eq_toList]
 split
 .rename_i z;rw[À,Ĩ]at z;have e0:fz.eN s.toList.length 0 lo=0\/s.toList.length=0:=by lia
  have e5:fz.cut s.toList lo hi=s.toList:=by
   unfold fz.cut;rw[z];rcases e0 with e0|e0
   .rw[e0,List.drop_zero,ø]
   .have:s.toList=[]:=ŗ.mp e0;rw[this];simp
  rw[e5,String.ofList_toList]
 .rw[Str.ofString_eq_toList<|ι _,bD];congr 2;have e3:(λi:Nat=>(fK s).cps[i]?)=λi:Nat=>(s.toList.map ŏ)[i]?:=by
   funext i;rw[<-ec];simp
  rw[e3];by_cases hab:fz.eN s.toList.length 0 lo<=fz.eN s.toList.length s.toList.length hi
  .rw[PySem.StrLaws.picks _ _ _<|by rw[À];lia];unfold fz.cut;rw[Ϙ,bb]
  .have:fz.eN s.toList.length s.toList.length hi - fz.eN s.toList.length 0 lo=0:=by lia
   unfold fz.cut;rw[this];simp
def PD:Qt i<|QJ i.K:=by
 intro v lo hi G H x Q Qm g r w c;cases v with
 |tup xs =>
  simp only[fz.eS]at w;split at w
  .rename_i hn;rw[fz.Rs.wp_val]at w;cases r with
   |@tup _ a vs hp hr=>exact .inr (.inr<|.inr ⟨a,vs,rfl,Zk hp,by rw[<-Wg,<-Wg,<-hr.length];exact hn,c _ G H _ (ee.refl H) g (.tup hp hr) w⟩)
  .rename_i hn;rw[fz.Rs.wp_val]at w;cases r with
   |@tup _ a vs hp hr =>refine .inr (.inl ⟨a,vs,rfl,Zk hp,by rw[<-Wg,<-Wg,<-hr.length];exact hn,λp hp'=>?_⟩);have k:=ee.new (o:=.tup<|ML vs lo hi) hp';refine c _ G _ _ k (g.hid k λb o e=>dL ?_) (.tup (.inl dM)<|NZ (hr.keep k) lo hi) w;rintro rfl;rw[g.free hp']at e;cases e
 |ref a =>
  cases r.ref_inv;simp only[fz.eS]at w;cases z:fz.dZ (G a)with
  |none=>rw[z]at w;simp at w
  |some xs =>rw[z]at w;rw[fz.Rs.wp_new]at w;let⟨vs,h1,h2⟩:=ZE g z;exact .inl ⟨a,vs,rfl,h1,YD g w c λp hp=>⟨_,dM,NZ (h2.keep<|ee.new hp) lo hi⟩⟩
 |scr ns =>
  simp only[fz.eS,fz.Rs.wp_new]at w;cases r with
  |scr h=>exact .inl ⟨_,_,rfl,Yk h,YD g w c λp hp=>⟨_,dM,NZ (RVs.ints ns) lo hi⟩⟩
 |str s =>
  cases r.str_inv;simp only[fz.eS]at w;split at w
  .rename_i hl;rw[fz.Rs.wp_val]at w;refine .inr (.inr <| .inl ⟨_,rfl,by rw[Zx];exact Ô hl (by decide),?_⟩);rw[Gg];exact c _ G H _ (ee.refl H) g (.str _) w
  .simp at w
 |_=>simp[fz.eS]at w
variable {H:Hp} {vs:List fz.Val} {xs:List V} {x:V}
def RVs.app1{K:Frag}{v:fz.Val}(r:RVs K H vs xs)(q:RV K H v x):RVs K H (vs++[v])<|xs++[x]:=r.append (.cons q .nil)
variable {es:List Expr} {ms:fz.Es} {n:Nat} {ç:Pos}
def PQ{k:Nat}(hn:n<=1000)(h:PA X es<|tAr X i Φ ms n):PE X (.Tuple es k ç) (tE X i Φ<|.tup ms) :=
 (Dc h).imp λσ H Q ⟨env,G,Qm,Em,p,w,c⟩=>by refine⟨env,G,_,Em,p,w,λvs G1 H1 xs k1 g1 r1 hl w1=>⟨by rw[hl];exact Ô hn (by decide),λa ha=>?_⟩⟩;have k:=ee.new (o:=.tup xs) ha;refine c _ G1 _ _ (k1.trans k) (g1.hid k λb o e=>dL ?_) (.tup (.inl dM)<|r1.keep k) w1;rintro rfl;rw[g1.free ha]at e;cases e
def PF(hn:n<=1000)(h:PA X es<|tAr X i Φ ms n):PE X (.List es ç) (tE X i Φ<|.lst ms) :=
 (HQ h).imp λσ H Q ⟨env,G,Qm,Em,p,w,c⟩=>by refine⟨env,G,_,Em,p,w,λvs G1 H1 xs k1 g1 r1 hl w1=>⟨by rw[hl];exact Ô hn (by decide),YD g1 w1 (c.go k1) λa ha=>?_⟩⟩;exact⟨xs,dM,r1.keep<|ee.new ha⟩
abbrev WS(i:Inf)(f:fz.Bi)(r:List V->Hp->VK->Prop):Prop:=∀(vs:List fz.Val) (G:fz.Hs) (H:Hp) (xs:List V) (Q:VK) (Qm:fz.Q1),RH i G H->RVs i.K H vs xs->(fz.biV G f vs).wp G Qm->Cn i H Q Qm->r xs H Q
def Xv{f:fz.Bi}{r:List V->Hp->VK->Prop}(hr:WS i f r):∀σ H Q,tE X i Φ (.bi f ms) σ H Q->tCB r (tAr X i Φ ms n) σ H Q:=λσ H Q ⟨env,G,Qm,Em,p,w,c⟩=>by exact⟨env,G,_,Em,p,w,λvs G1 H1 xs k1 g1 r1 _ w1=>hr vs G1 H1 xs Q Qm g1 r1 w1<|c.go k1⟩
def RVs.inv1{K:Frag}{v:fz.Val}(r:RVs K H [v] xs):∃x,xs=[x]/\RV K H v x:=by cases r with|cons a t=>cases t;exact⟨_,rfl,a⟩
def RVs.inv2{K:Frag}{v u:fz.Val}(r:RVs K H [v,u] xs):∃x y,xs=[x,y]/\RV K H v x/\RV K H u y:=by cases r with|cons a t=>cases t with|cons b t=>cases t;exact⟨_,_,rfl,a,b⟩
def KY(s:String):(fK s).cps.toList=s.toList.map ŏ:=by rw[Str.ofString_eq_toList]
def O0:∀(l:List Char) (a:Nat),(l.map ŏ).foldl (λħ c=>ħ*10+(c - 48)) a=l.foldl (λa c=>10*a+(c.toNat - 48)) a
 |[],_=>rfl
 |c::l,a=>by rw[Í,Ķ,Ķ,O0 l,bM a 10]
def Eu{s:String}(h1:s.toList≠[])(h2:s.toList.all fz.figB=dI)(h3:s.length<=640):PySem.intText? (fK s)=dF ((fz.decN s.toList:Nat):Int):=by
 have hc:=KY s;rw[intText_digits (x:=fK s)]
 .rw[hc];unfold NumText.digitsVal fz.decN;rw[O0]
 .rw[hc];intro c hm;let⟨d,hd,rfl⟩:=ã.mp hm;have:=ö.mp h2 d hd;unfold fz.figB at this;simpa using this
 .rw[hc];simpa using h1
 .rw[Zx];lia
variable {h:fz.Hs} {Q:fz.Q1}
def YY{f:fz.Val->fz.Rs}(w:(fz.d0 f vs).wp h Q):∃v,vs=[v]/\(f v).wp h Q:=by
 cases vs with
 |nil=>exact(Zh w).elim
 |cons v vs=>cases vs with
  |nil=>exact⟨v,rfl,w⟩
  |cons _ _=>exact(Zh w).elim
def Df{f:fz.Val->fz.Val->fz.Rs}(w:(fz.biOf2 f vs).wp h Q):∃v u,vs=[v,u]/\(f v u).wp h Q:=by
 cases vs with
 |nil=>exact(Zh w).elim
 |cons v vs=>cases vs with
  |nil=>exact(Zh w).elim
  |cons u us=>cases us with
   |nil=>exact⟨v,u,rfl,w⟩
   |cons _ _=>exact(Zh w).elim
def Ii:WS i .int λxs H Q=>((∃i,xs=[.int i]/\Q (.int i) H)\/∃k,xs=[.bl k]/\Q (.int<|if k then 1 else 0) H)\/∃z n,xs=[.str z]/\PySem.intText? z=dF n/\z.length<=640/\Q (.int n) H:=by
 intro vs G H xs Q Qm g r w c;let⟨v,rfl,w⟩:=YY w;let⟨x,rfl,rx⟩:=r.inv1;cases v with
 |int k=>cases rx.int_inv;exact .inl<|.inl ⟨k,rfl,c _ G H _ (ee.refl H) g (.int _)<|Zi w⟩
 |bl k=>cases rx.bl_inv;exact .inl<|.inr ⟨k,rfl,c _ G H _ (ee.refl H) g (.int _)<|Zi w⟩
 |str s =>cases rx.str_inv;let⟨hl,w⟩:=X1 w;exact .inr ⟨_,_,rfl,Eu hl.2.1 hl.2.2 hl.1,by rw[Zx];exact hl.1,c _ G H _ (ee.refl H) g (.int _)<|Zi w⟩
 |_=>exact(Zh w).elim
def ED:WS i .max2 λxs H Q=>∃i j,xs=[.int i,.int j]/\Q (.int<|if j > i then j else i) H:=by intro vs G H xs Q Qm g r w c;let⟨v,u,rfl,w⟩:=Df w;let⟨a,b,rfl,rfl,w⟩:=XA w;let⟨x,y,rfl,rx,ry⟩:=r.inv2;cases rx.int_inv;cases ry.int_inv;exact⟨a,b,rfl,c _ G H _ (ee.refl H) g (.int _)<|Zi w⟩
def Gy:WS i .min2 λxs H Q=>∃i j,xs=[.int i,.int j]/\Q (.int<|if j<i then j else i) H:=by intro vs G H xs Q Qm g r w c;let⟨v,u,rfl,w⟩:=Df w;let⟨a,b,rfl,rfl,w⟩:=XA w;let⟨x,y,rfl,rx,ry⟩:=r.inv2;cases rx.int_inv;cases ry.int_inv;exact⟨a,b,rfl,c _ G H _ (ee.refl H) g (.int _)<|Zi w⟩
abbrev P6(o:Option fz.Ob)(f:List fz.Val->fz.Rs):fz.Rs:=match o with
 |some (.lst xs)=>f xs
 |_=>.no
variable {o:Option fz.Ob}
def NM{f:List fz.Val->fz.Rs}(w:(P6 o f).wp h Q):∃xs,o=dF (.lst xs)/\(f xs).wp h Q:=by
 cases o with
 |none=>exact(Zh w).elim
 |some o=>cases o with
  |lst xs=>exact⟨xs,rfl,w⟩
  |_=>exact(Zh w).elim
variable {G:fz.Hs}
def D9{Q:VK}{Qm:fz.Q1}{ys:List fz.Val}{us:List V}(g:RH i G H)(r:RVs i.K H ys us)(w:Qm (.tup ys) G)(c:Cn i H Q Qm):∀l,H l=dG->Q (.ref l) (upd H l<|.tup us):=λl hl=>by have k:=ee.new (o:=.tup us) hl;refine c _ G _ _ k (g.hid k λb o e=>dL ?_) (.tup (.inl dM)<|r.keep k) w;rintro rfl;rw[g.free hl]at e;cases e
def BZ:WS i .tuple λxs H Q=>∃p ys,xs=[.ref p]/\((fk i.K H p ys/\∀l,H l=dG->Q (.ref l) (upd H l<|.tup ys))\/(fm i.K H p ys/\Q (.ref p) H)):=by
 intro vs G H xs Q Qm g r w c;let⟨v,rfl,w⟩:=YY w;let⟨x,rfl,rx⟩:=r.inv1;cases v with
 |ref a =>cases rx.ref_inv;let⟨ys,e,w⟩:=NM (f:=λxs=>.val<|.tup xs) w;let⟨us,h1,h2⟩:=g a _ e;exact⟨a,us,rfl,.inl ⟨fk.of h1,D9 g h2 (Zi w) c⟩⟩
 |tup ys =>
  cases rx with
  |tup hp hr=>exact⟨_,_,rfl,.inr ⟨Zk hp,c _ G H _ (ee.refl H) g (.tup hp hr)<|Zi w⟩⟩
 |_=>exact(Zh w).elim
abbrev kinds:List String:=["int","bool","str","list","tuple","dict"]
def Gn(K:Frag):∀t∈["NoneType","bool","int","str","tuple","list","dict"],∀T∈kinds,PySem.W.kitOne K (.type t) (.type T)=dF (t==T||(t == "bool" && T == "int")):=by intro t ht T hT;simp only[kinds,Æ,å,or_false]at ht hT;rcases ht with rfl|rfl|rfl|rfl|rfl|rfl|rfl<;>rcases hT with rfl|rfl|rfl|rfl|rfl|rfl<;>rfl
def An(g:RH i G H){v:fz.Val}{t:String}(r:RV i.K H v x)(e:fz.fx G v=dF t):TyV i.K H x (.type t)/\t∈["NoneType","bool","int","str","tuple","list","dict"]:=by
 cases v with
 |non=>cases r;cases e;exact⟨.of .non,by simp⟩
 |bl b=>cases r;cases e;exact⟨.of<|.bl b,by simp⟩
 |int b=>cases r;cases e;exact⟨.of<|.int b,by simp⟩
 |str b=>cases r;cases e;exact⟨.of<|.str _,by simp⟩
 |tup xs=>cases e;cases r with|tup hp hr=>exact⟨.tup<|Zk hp,by simp⟩
 |scr ns=>cases e;cases r with|scr h=>exact⟨.lst<|Yk h,by simp⟩
 |ref a =>
  cases r.ref_inv;simp only[fz.fx]at e;cases q:G a with
  |none=>rw[q]at e;cases e
  |some o =>
   rw[q]at e;cases o with
   |lst xs=>cases e;let⟨vs,h1,_⟩:=g a _ q;exact⟨.lst<|fk.of h1,by simp⟩
   |dct kvs=>cases e;let⟨ps,h1,_⟩:=g a _ q;exact⟨.of<|.dK h1,by simp⟩
   |ins C fs=>cases e
   |exc C=>cases e
   |frz _=>cases e
   |dtp _=>cases e
 |key _ _=>cases e
def Px{e:Expr}{m:fz.E}{T:String}{p p2:Pos}(hT:T∈kinds)(he:PE X e<|tE X i Φ m)(hk:X.K=i.K)(hg:Gl X "isinstance")(hm:X.mg "isinstance" = dG)(hg2:Gl X<|fK T)(hm2:X.mg (fK T)=dG)
  (hv2:ŕ (fK T)=dF (.type T)) (hn2:fK T≠"__name__") (aI:(fK T==("__debug__" : Str))=dJ) (ł:Î [e,.Name (fK T) p2] X.env=(dJ,eval e X.env)::Î [.Name (fK T) p2] X.env) :
  PE X (.Call (.Name "isinstance" p) [e,.Name (fK T) p2] [] ç) (tE X i Φ<|.bi (.isi [T])<|.cons m .nil):=by
 refine(Zt DZ hg hm (by kernel_rfl) (Zo he (Zo (QM (T:=T) hg2 hm2 hv2 hn2 aI) fi) ł) (he:=ł)).imp λσ H Q ⟨env,G,Qm,Em,p,w,c⟩=>?_;refine one p w λv G1 H1 x k1 p1 r q=>?_
 replace q:(fz.Rs.ofO (((fz.fy G1 v T).bind λb=>(fz.isiAny G1 v []).map (b || ·)).map .bl)).wp G1 Qm:=q
 simp only[fz.isiAny,fz.fy]at q;cases z:fz.fx G1 v with
 |none=>rw[z]at q;simp[fz.Rs.ofO]at q
 |some t =>rw[z]at q;simp only[Ĵ,ï,fz.Rs.ofO,fz.Rs.wp_val,aY]at q;let⟨h1,h2⟩:=An p1.hp r z;refine⟨x,T,.type t,_,rfl,by rw[hk];exact h1,by rw[hk];exact Gn _ t h2 T hT,c _ G1 H1 _ k1 p1.hp (.bl _) q⟩
def Oo(h:fz.isLst o=dI):∃xs,o=dF (.lst xs):=by
 cases o with
 |none=>cases h
 |some o=>cases o with
  |lst xs=>exact⟨xs,rfl⟩
  |_=>cases h
variable {a:Ê}
def D1{f:fz.Ad->List fz.Val->Option (fz.Val×fz.Hs)}{t:fz.Val×fz.Hs}(e:fz.bmL G (.ref a) f=dF t):∃xs,G a=dF (.lst xs)/\f a xs=dF t:=by let⟨xs,h1,h2⟩:=ß.mp (show(fz.dZ<|G a).bind (f a)=dF t from e);exact⟨xs,A3 h1,h2⟩
def MS{xs:List fz.Val}{vs:List V}(g:RH i G H)(h:H a=dF (.lst vs))(ys:List fz.Val)(us:List V)(r:RVs i.K H ys us):ee H (upd H a<|.lst us)/\RH i (fz.upd G a<|.lst ys) (upd H a<|.lst us):=by
 have k:ee H<|upd H a<|.lst us:=ee.put (λxs e=>by rw[h]at e;cases e) λp u e=>by rw[h]at e;cases e
 exact⟨k,g.put k ⟨us,dM,r.keep k⟩⟩
abbrev spF(i:Inf)(P:fz.Pg)(n:Nat)(f:String):Sp:=λvs H Q E=>∃args G Qm Em,RVs i.K H args vs/\RH i G H/\fz.wF P n f args G Qm Em/\Cn i H Q Qm/\∀cls d H',XK1 i H Em cls d H'->E cls d H'
abbrev Dfo(pr:é)(w:Ā)(mg:Str->Option Â)(base:ć)(i:Inf)(P:fz.Pg)(n:Nat)(f:String):Prop :=
 ∃fa fd ps,eK pr w i.K mg base (CX1 pr w) (2*n) fa fd ps (spF i P n f)/\mg (fK f)=dF (.ref fa)/\PySem.W.keepIn i.K (.ref fa)=dI/\Binds i.K fd ps []
variable {e:Expr} {es:List Expr} {ç:Pos}
def LE{P:fz.Pg}{n k:Nat}{f:String}{ms:fz.Es}{p:Pos}(hK:X.K=i.K)(D:Dfo X.prog X.w X.mg X.base i P n f)(hr:eF (2*n) X.A)(hg:Gl X<|fK f)(ϑ:(fK f==("__debug__" : Str))=dJ)
  (ha:PA X (e::es)<|tAr X i (fz.wF P n) ms k) (he:Î (e::es) X.env=(dJ,eval e X.env)::Î es X.env) (hpl:(Č ç<|Î es X.env).any (·.1)=dJ) :
  PE X (.Call (.Name (fK f) p) (e::es) [] ç) (tE X i (fz.wF P n)<|.call f ms):=by
 let⟨fa,fd,ps,F,hm,hk,hb⟩:=D;rw[<-hK]at F hk hb;intro Á s σ H Q I h;let⟨env,G,Qm,Em,pr,w,c⟩:=h;refine D6 (E:=XK1 i H Em) F hr hg hm hk hb .nil (XW.passes pr.xo) ha ϑ he hpl Á s σ H Q I ⟨env,G,_,Em,pr,w,λvs G1 H1 xs k1 g1 r1 hl w1=>?_⟩;exact⟨vs,G1,Qm,Em,by rw[ó];exact r1,g1,w1,c.go k1,λcls d H' h=>h.go k1⟩
abbrev XKS(i:Inf)(H:Hp)(Xe:fz.EQ):XK:=λcls _ H'=>∃e c G' ad,cls=.ref ad/\i.xc c ad/\ee H H'/\RH i G' H'/\Xe e c G'
structure PreS(X:Cx)(i:Inf)(σ:St)(H:Hp)(env:fz.Env)(G:fz.Hs)(Xe:fz.EQ):Prop where
 en:REn i.K H env σ
 hp:RH i G H
 xo:XW X<|XKS i H Xe
variable {σ:St} {H:Hp} {H1:Hp} {G:fz.Hs} {Xe:fz.EQ}
def PreS.go{σ1:St}{env env1:fz.Env}{G1:fz.Hs}(p:PreS X i σ H env G Xe)(k:ee H H1)(r:RH i G1 H1)(e:REn i.K H1 env1 σ1):PreS X i σ1 H1 env1 G1 Xe :=
 ⟨e,r,λÁ σ H0 s H' a cls s' I f ⟨e,c,G',ad,q1,q2,q3,q4⟩=>p.xo Á σ H0 s H' a cls s' I f ⟨e,c,G',ad,q1,q2,k.trans q3,q4⟩⟩
def PreS.pre{env:fz.Env}(p:PreS X i σ H env G Xe):Pre X i σ H env G (Xe env) :=
 ⟨p.en,p.hp,λÁ σ H0 s H' a cls s' I f ⟨c,G',ad,q1,q2,q3,q4⟩=>p.xo Á σ H0 s H' a cls s' I f ⟨env,c,G',ad,q1,q2,q3,q4⟩⟩
structure EOk(i:Inf)(H:Hp)(D:Ends)(N:fz.NQ)(R:fz.Q1)(B C:fz.NQ):Prop where
 nx:∀Ĭ Ņ G' H',ee H H'->RH i G' H'->REn i.K H' Ĭ Ņ->N Ĭ G'->D.nx Ņ H'
 rt:∀v G' H' x,ee H H'->RH i G' H'->RV i.K H' v x->R v G'->D.rt x H'
 bk:∀Ĭ Ņ G' H',ee H H'->RH i G' H'->REn i.K H' Ĭ Ņ->B Ĭ G'->D.bk Ņ H'
 ct:∀Ĭ Ņ G' H',ee H H'->RH i G' H'->REn i.K H' Ĭ Ņ->C Ĭ G'->D.ct Ņ H'
def EOk.go{D:Ends}{N:fz.NQ}{R:fz.Q1}{B C:fz.NQ}(e:EOk i H D N R B C)(k:ee H H1):EOk i H1 D N R B C :=
 ⟨λa b c d k'=>e.nx a b c d<|k.trans k',λa b c d k'=>e.rt a b c d<|k.trans k',λa b c d k'=>e.bk a b c d<|k.trans k',λa b c d k'=>e.ct a b c d<|k.trans k'⟩
inductive tStx (X:Cx) (i:Inf) (Φ:fz.Fs) (m:fz.S) (D:Ends) (σ:St) (H:Hp):Prop
 |mk (env:fz.Env) (G:fz.Hs) (N:fz.NQ) (R:fz.Q1) (B C:fz.NQ) (Xe:fz.EQ) (p:PreS X i σ H env G Xe) (w:fz.wS Φ m env G N R B C Xe) (e:EOk i H D N R B C)
abbrev tSt(X:Cx)(i:Inf)(Φ:fz.Fs)(m:fz.S):TS:=tStx X i Φ m
inductive tBlx (X:Cx) (i:Inf) (Φ:fz.Fs) (m:fz.Ss) (D:Ends) (σ:St) (H:Hp):Prop
 |mk (env:fz.Env) (G:fz.Hs) (N:fz.NQ) (R:fz.Q1) (B C:fz.NQ) (Xe:fz.EQ) (p:PreS X i σ H env G Xe) (w:fz.wSs Φ m env G N R B C Xe) (e:EOk i H D N R B C)
abbrev tBl(X:Cx)(i:Inf)(Φ:fz.Fs)(m:fz.Ss):TS:=tBlx X i Φ m
variable {st:ğ} {t':TS}
def _root_.L2.PS.imp{t:TS}(h:PS X st t)(f:∀D σ H,t' D σ H->t D σ H):PS X st t':=λÁ s σ H D I q=>h Á s σ H D I (f D σ H q)
def _root_.L2.PSs.imp{st:List ğ}{t:TS}(h:PSs X st t)(f:∀D σ H,t' D σ H->t D σ H):PSs X st t':=λÁ s σ H D I q=>h Á s σ H D I (f D σ H q)
def Hy:PSs X []<|tBl X i Φ .nil:=pss_nil.imp λD σ H ⟨env,G,N,R,B,C,Xe,p,w,c⟩=>by exact c.nx env σ G H (ee.refl H) p.hp p.en w
def Gk{sts:List ğ}{m:fz.S}{ms:fz.Ss}(h1:PS X st<|tSt X i Φ m)(h2:PSs X sts<|tBl X i Φ ms):PSs X (st::sts) (tBl X i Φ<|.cons m ms) :=
 (Dv h1 h2).imp λD σ H ⟨env,G,N,R,B,C,Xe,p,w,c⟩=>by exact⟨env,G,_,R,B,C,Xe,p,w,⟨λĬ Ņ G' H' k g e w'=>⟨Ĭ,G',N,R,B,C,Xe,p.go k g e,w',c.go k⟩,c.rt,c.bk,c.ct⟩⟩
variable {m:fz.E}
def LG(he:PE X e<|tE X i Φ m):PS X (.Return (dF e) ç) (tSt X i Φ<|.ret m) :=
 (HB he).imp λD σ H ⟨env,G,N,R,B,C,Xe,p,w,c⟩=>by exact⟨env,G,R,Xe env,p.pre,w,c.rt⟩
def E4:PS X (.Return dG ç) (tSt X i Φ .retN) :=
 ps_retN.imp λD σ H ⟨env,G,N,R,B,C,Xe,p,w,c⟩=>by exact c.rt _ G H _ (ee.refl H) p.hp .non w
def F8(he:PE X e<|tE X i Φ m)(hs:ō e dG ç.line X.env=pure dJ):PS X (.Expr e ç) (tSt X i Φ<|.expr m) :=
 (Fa he hs).imp λD σ H ⟨env,G,N,R,B,C,Xe,p,w,c⟩=>by exact⟨env,G,_,Xe env,p.pre,w,λv G1 H1 x k1 g1 r1 w1=>c.nx env σ G1 H1 k1 g1 (p.en.keep k1) w1⟩
def Lq{t:Expr}{a b:List ğ}{mt:fz.Tt}{ma mb:fz.Ss}(ht:PT X t<|tTt X i Φ mt)(ha:PSs X a<|tBl X i Φ ma)(hb:PSs X b<|tBl X i Φ mb):PS X (.If t a b ç) (tSt X i Φ<|.ite mt ma mb) :=
 (Q8 ht ha hb).imp λD σ H ⟨env,G,N,R,B,C,Xe,p,w,c⟩=>by
  refine⟨env,G,_,Xe env,p.pre,w,λd G1 H1 k1 g1 q=>?_⟩;cases d with
  |true=>exact⟨env,G1,N,R,B,C,Xe,p.go k1 g1<|p.en.keep k1,⇑q,c.go k1⟩
  |false=>exact⟨env,G1,N,R,B,C,Xe,p.go k1 g1<|p.en.keep k1,⇑q,c.go k1⟩
abbrev gPt(i:Inf)(p:fz.Pt):TG:=λx σ H Q=>∃v env G Ň,RV i.K H v x/\RH i G H/\REn i.K H env σ/\fz.bind p G v env=dF Ň/\∀σ2,REn i.K H Ň σ2->Q σ2 H
variable {tg:Expr}
def _root_.L2.PG.imp{t t':TG}(h:PG X tg t)(f:∀v σ H Q,t' v σ H Q->t v σ H Q):PG X tg t':=λÁ s σ H v u Q I r q=>h Á s σ H v u Q I r (f v σ H Q q)
def _root_.L2.PGs.imp{tg:List Expr}{t t':TGs}(h:PGs X tg t)(f:∀v σ H Q,t' v σ H Q->t v σ H Q):PGs X tg t':=λÁ s σ H v u Q I r q=>h Á s σ H v u Q I r (f v σ H Q q)
variable {x:Str} {j:Nat}
def ON(hN:X.N.Nodup)(hi:X.N[j]?=dF x)(hx:Loc X.env.scope x)(hf:X.fn x=dI\/X.env.scope.names.lookup x=dF .local):PG X (.Name x ç) (gPt i<|.one j) :=
 (UE hN hi hx hf).imp λv σ H Q ⟨u,env,G,Ň,r,g,e,b,h⟩=>by cases b;exact h _<|e.set r j
abbrev Dz(i:Inf)(js:List Nat):TGs:=λxs σ H Q=>∃vs env Ň,RVs i.K H vs xs/\REn i.K H env σ/\fz.bindL js vs env=dF Ň/\∀σ2,REn i.K H Ň σ2->Q σ2 H
def FS:PGs X []<|Dz i []:=pgs_nil.imp λxs σ H Q ⟨vs,env,Ň,r,e,b,h⟩=>by
 cases vs with
 |nil=>cases r;cases b;exact⟨rfl,h _ e⟩
 |cons _ _=>cases b
variable {js:List Nat}
def DJ(hN:X.N.Nodup)(hi:X.N[j]?=dF x)(hx:Loc X.env.scope x)(hf:X.fn x=dI\/X.env.scope.names.lookup x=dF .local)(h2:PGs X es<|Dz i js)
  (hs:(ĕ (.Name x ç::es) X.env).map (·.2)=Ų (.Name x ç) X.env::(ĕ es X.env).map (·.2)):PGs X (.Name x ç::es) (Dz i<|j::js) :=
 (JZ (UE hN hi hx hf) h2 hs).imp λxs σ H Q ⟨vs,env,Ň,r,e,b,h⟩=>by
  cases vs with
  |nil=>cases b
  |cons v vs =>
   cases r with
   |cons r t=>exact⟨_,_,rfl,vs,env.set j<|dF v,Ň,t,e.set r j,b,h⟩
def KW:∀{js:List Nat}{vs:List fz.Val}{env Ň:fz.Env},fz.bindL js vs env=dF Ň->vs.length=js.length
 |[],[],_,_,_=>rfl
 |j::js,v::vs,env,_,h=>by rw[Ç,Ç,KW<|show fz.bindL js vs (env.set j<|dF v)=_ from h]
 |[],_::_,_,_,h=>by cases h
 |_::_,[],_,_,h=>by cases h
def Ul{k:Nat}(hK:X.K=i.K)(hc:X.calm=dI)(h:PGs X es<|Dz i js)(hn:(ĕ es X.env).length=js.length)(ł:(ĕ es X.env).findIdx? (·.1)=dG):PG X (.Tuple es k ç) (gPt i<|.many js) :=
 (BU (n:=js.length) hc h hn ł).imp λv σ H Q ⟨u,env,G,Ň,r,g,e,b,h⟩=>by
  cases u with
  |tup vs =>
   have b:fz.bindL js vs env=dF Ň:=b;cases r with
   |tup hp hr=>exact⟨_,_,rfl,by rw[hK];exact Zk hp,by rw[<-hr.length];exact KW b,vs,env,Ň,hr,e,b,h⟩
  |_=>cases b
def Gb{k k2:Nat}{p1 p2:Pos}(hK:X.K=i.K)(hc:X.calm=dI)(h1:PG X (.Name x p1)<|gPt i<|.one j)(h2:PG X (.Tuple es k2 p2)<|gPt i<|.many js):PG X (.Tuple [.Name x p1,.Tuple es k2 p2] k ç) (gPt i<|.nest j js) :=
 (BU (n:=2) hc (JZ h1 (JZ h2 pgs_nil rfl) rfl) rfl rfl).imp λv σ H Q ⟨u,env,G,Ň,r,g,e,b,h⟩=>by
  cases u with
  |tup vs =>
   cases vs with
   |nil=>cases b
   |cons x0 vs=>cases vs with
    |nil=>cases b
    |cons y vs=>cases vs with
     |cons _ _=>cases b
     |nil =>
      have b:(fz.tupOf y).bind (λys=>fz.bindL js ys<|env.set j<|dF x0)=dF Ň:=b;cases r with
      |tup hp hr =>
       cases hr with
       |cons r0 t=>cases t with
        |cons r1 t =>cases t;exact⟨_,_,rfl,by rw[hK];exact Zk hp,rfl,_,_,rfl,x0,env,G,_,r0,g,e,rfl,λσ2 e2=>⟨_,_,rfl,y,_,G,Ň,r1,g,e2,b,λaS e3=>⟨rfl,h aS e3⟩⟩⟩
  |_=>cases b
def Lg{q:fz.Pt}(he:PE X e<|tE X i Φ m)(hg:PG X tg<|gPt i q)(hs:Η [tg] e ç.line X.env=pure dJ)(hw:Θ [tg] e X.env=pure dG)
  (h1:(ĕ [tg] X.env).map (·.2)=[Ų tg X.env]):PS X (.Assign [tg] e ç) (tSt X i Φ<|.set q m) :=
 (By he hg hs hw h1).imp λD σ H ⟨env,G,N,R,B,C,Xe,p,w,c⟩=>by refine⟨env,G,_,Xe env,p.pre,w,λv G1 H1 x k1 g1 r1 w1=>?_⟩;let⟨Ň,e2,w1⟩:=dO w1;exact⟨v,env,G1,Ň,r1,g1,p.en.keep k1,e2,λσ2 h2=>c.nx Ň σ2 G1 H1 k1 g1 h2 w1⟩
abbrev Dg:V->V->V->Hp->(Hp->Prop)->Prop:=λo y v H Q=>GJ o y v H Q\/GL o y v H Q
def CB{G G3:fz.Hs}{H:Hp}{o k v:fz.Val}{y z x:V}{Q:Hp->Prop}(g:RH i G H)(ry:RV i.K H o y)(rz:RV i.K H k z)(rx:RV i.K H v x)(e:fz.eU G o k v=dF G3)(c:∀H3,ee H H3->RH i G3 H3->Q H3):Dg y z x H Q:=by
 cases o with
 |ref b =>
  cases ry.ref_inv
  replace e:(match G b with|some (.lst xs)=>(fz.fv k).bind λn=>(fz.ixN xs.length n).map λj=>fz.upd G b (.lst<|xs.set j v)|some (.dct kvs)=>if fz.d8 k/\kvs.length<fz.lim then dF (fz.upd G b<|.dct<|fz.ej kvs k v)else dG|some (.dtp kvs)=>if fz.isKeyT k/\kvs.length<fz.lim then dF (fz.upd G b<|.dtp<|fz.ej kvs k v)else dG|_=>dG)=dF G3:=e
  cases z4:G b with
  |none=>rw[z4]at e;cases e
  |some o =>
   rw[z4]at e;cases o with
   |lst xs =>let⟨n,hn,e⟩:=ß.mp e;let⟨jj,hj,rfl⟩:=Ï.mp e;cases ZJ hn;cases rz.int_inv;let⟨vs,h2,r2⟩:=g b _ z4;rw[MA,r2.length]at hj;let⟨k3,g3⟩:=MS (xs:=xs) g h2 (xs.set jj v) (vs.set jj x)<|r2.set rx jj;exact .inl ⟨b,vs,n,jj,rfl,rfl,h2,hj,c _ k3 g3⟩
   |dct kvs =>let⟨hk,e⟩:=Zs (show(if fz.d8 k/\kvs.length<fz.lim then dF (fz.upd G b<|.dct<|fz.ej kvs k v)else dG)=dF G3 from e);cases e;let⟨ps,h2,r2⟩:=g b _ z4;let⟨d,kr,rfl⟩:=d5 hk.1 rz;let⟨k3,g3⟩:=MW (kvs:=kvs) g h2<|r2.put kr rx;exact .inr ⟨b,_,rfl,DPut.k h2 (by rw[<-RKs.length r2];exact è hk.2 ZU),c _ k3 g3⟩
   |dtp kvs =>let⟨hk,e⟩:=Zs (show(if fz.isKeyT k/\kvs.length<fz.lim then dF (fz.upd G b<|.dtp<|fz.ej kvs k v)else dG)=dF G3 from e);cases e;let⟨ps,h2,r2⟩:=g b _ z4;let⟨a1,a2,d,rfl,rfl,hd⟩:=Je hk.1 rz;let⟨k3,g3⟩:=Ey g h2<|r2.put (i:=a1) (j:=a2) rx;exact .inr ⟨b,_,rfl,DPut.t h2 hd (by rw[<-RTs.length r2];exact è hk.2 ZU),c _ k3 g3⟩
   |_=>cases e
 |_=>cases e
def U4{a j:Expr}{ma mj:fz.E}{Τ:Pos}(hK:X.K=i.K)(he:PE X e<|tE X i Φ m)(ha:PE X a<|tE X i Φ ma)(hj:PE X j<|tE X i Φ mj)(hgl:PG X (.Subscript a j Τ)<|Rc (tE X i Φ ma) (tE X i Φ mj) Dg)(hs:Η [.Subscript a j Τ] e ç.line X.env=pure dJ)(hw:Θ [.Subscript a j Τ] e X.env=pure dG)
  (h1:(ĕ [.Subscript a j Τ] X.env).map (·.2)=[Ų (.Subscript a j Τ) X.env]):PS X (.Assign [.Subscript a j Τ] e ç) (tSt X i Φ<|.setIdx ma mj m) :=
 (By he hgl hs hw h1).imp λD σ H ⟨env,G,N,R,B,C,Xe,p,w,c⟩=>by refine⟨env,G,_,Xe env,p.pre,w,λv G1 H1 x k1 g1 r1 w1=>?_⟩;refine two (p.go k1 g1<|p.en.keep k1).pre w1 λo k G2 H2 y z k2 p2 ry rz q=>?_;let⟨G3,e3,q⟩:=dO q;exact CB p2.hp ry rz (r1.keep k2) e3 λH3 k3 g3=>c.nx env σ _ _ ((k1.trans k2).trans k3) g3 (p2.en.keep k3) q
structure ItOk(i:Inf)(H0:Hp)(J:It)(st:fz.Hs->Prop)(xs:List fz.Val):Prop where
 go:∀n G H v,ee H0 H->RH i G H->st G->xs[n]?=dF v->J.go n H/\∀x H',J.yld n H x H'->ee H H'/\RH i G H'/\RV i.K H' v x
 stop:∀n G H,ee H0 H->RH i G H->st G->xs.length<=n->J.stop n H
abbrev tIt(X:Cx)(i:Inf)(Φ:fz.Fs)(m:fz.It):TI:=λσ H R=>∃env G QI Em,Pre X i σ H env G Em/\fz.wI Φ m env G QI Em/\∀st xs G' H' J,ee H H'->RH i G' H'->ItOk i H' J st xs->QI st xs G'->R J H'
variable {tg:Expr} {e:Expr}
def _root_.L2.PI.imp{t t':TI}(h:PI X tg e t)(f:∀σ H Q,t' σ H Q->t σ H Q):PI X tg e t':=λÁ s σ H Q I q=>h Á s σ H Q I (f σ H Q q)
abbrev Sf(K:Frag)(tl:TE):TI:=λσ H R=>tl σ H λx H1=>∃a,x=.ref a/\(((∃xs,fk K H1 a xs)/\R (Itl K a) H1)\/((∃xs,fm K H1 a xs)/\R (Itt K a) H1))
def Ln{l:Expr}{tl:TE}(hl:PE X l tl):PI X tg l<|Sf X.K tl:=by
 intro Á s σ H R I h;refine thn (hl Á s σ H _ I h) λv s1 ⟨x,H1,I1,r1,q1⟩=>?_;let⟨a,e,q1⟩:=q1;subst e;cases r1;rcases q1 with⟨⟨xs,hq⟩,q⟩|⟨⟨xs,hq⟩,q⟩
 .obtain⟨î,rv,p,hz⟩:=I1.list hq;refine Ū p.isList ?_;refine⟨s1.heap.objs.size,[s1.heap.objs.size],_,_,H1,rfl,I1.kept (t':=s1.toks) λb o e=>Å _ e,U9 a _,⟨_,Ý _ rfl,rfl,rfl⟩,λb hb=>?_,q⟩;have e:b=s1.heap.objs.size:=⇑hb
  subst e;exact I1.fpOk (Ì _)<|I1.hok.fresh<|Ì _
 .obtain⟨î,rv,p,hz⟩:=I1.tuple hq;refine Š (show s1.heap.IsTuple a î.toArray from p) ?_;refine⟨s1.heap.objs.size,[s1.heap.objs.size],_,_,H1,rfl,I1.kept (t':=s1.toks) λb o e=>Å _ e,Oq a _,⟨_,Ý _ rfl,rfl,rfl⟩,λb hb=>?_,q⟩;have e:b=s1.heap.objs.size:=⇑hb
  subst e;exact I1.fpOk (Ì _)<|I1.hok.fresh<|Ì _
variable {H0:Hp} {a:Ê} {xs:List fz.Val}
def it_lst:ItOk i H0 (Itl i.K a) (λg=>fz.dZ (g a)=dF xs) xs where
 go:=λn G H v _ g e hv=>by let⟨vs,h1,h2⟩:=ZE g e;let⟨x,h3,h4⟩:=h2.get hv;refine⟨⟨vs,x,h1,h3⟩,λy H' ⟨e1,e2⟩=>?_⟩;subst e1;have:=e2 vs h1;rw[h3]at this;cases this;exact⟨ee.refl _,g,h4⟩
 stop:=λn G H _ g e hn=>by let⟨vs,h1,h2⟩:=ZE g e;exact⟨vs,h1,by rw[<-h2.length];exact hn⟩
def it_tup{vs:List V}(hp:H0 a=dF (.tup vs)\/KT i.K a vs)(hr:RVs i.K H0 xs vs):ItOk i H0 (Itt i.K a) (λ_=>True) xs where
 go:=λn G H v k g e hv=>by have hp':H a=dF (.tup vs)\/KT i.K a vs:=hp.imp (k.t _ _) id;let⟨x,h3,h4⟩:=(hr.keep k).get hv;refine⟨⟨vs,x,Zk hp',h3⟩,λy H' ⟨e1,e2⟩=>?_⟩;subst e1;have:=e2 vs<|Zk hp';rw[h3]at this;cases this;exact⟨ee.refl _,g,h4⟩
 stop:=λn G H k g e hn=>by have hp':H a=dF (.tup vs)\/KT i.K a vs:=hp.imp (k.t _ _) id;exact⟨vs,Zk hp',by rw[<-hr.length];exact hn⟩
def it_scr{ns:List Int}(h:(∃o,H0 a=dF (.frz o<|.lst<|ns.map V.int))\/KL i.K a (ns.map V.int)):ItOk i H0 (Itl i.K a) (λ_=>True) (ns.map .int) where
 go:=λn G H v k g e hv=>by have h':fk i.K H a<|ns.map V.int:=Yk<|h.imp (λ⟨o,e⟩=>⟨o,k.f _ _ _ e⟩) id;let⟨x,h3,h4⟩:=(RVs.ints (K:=i.K) (H:=H) ns).get hv;refine⟨⟨_,x,h',h3⟩,λy H' ⟨e1,e2⟩=>?_⟩;subst e1;have:=e2 _ h';rw[h3]at this;cases this;exact⟨ee.refl _,g,h4⟩
 stop:=λn G H k g e hn=>⟨_,Yk<|h.imp (λ⟨o,e⟩=>⟨o,k.f _ _ _ e⟩) id,⇑hn⟩
def Do{lo hi:Int}{n:Nat}(hn:n=(hi - lo).toNat):ItOk i H0 (Itr lo n) (λ_=>True) (fz.eL lo hi) where
 go:=λk G H v _ g _ hv=>by
  unfold fz.eL at hv;rw[Ó]at hv;have hk:k<(hi - lo).toNat:=by
   by_cases h:k<(hi - lo).toNat
   .exact h
   .rw[Ŧ<|by simpa using h]at hv;cases hv
  rw[List.getElem?_range hk]at hv;cases hv;refine⟨by rw[hn];exact hk,λx H' ⟨e1,e2⟩=>?_⟩;subst e1 e2;exact⟨ee.refl _,g,.int _⟩
 stop:=λk G H _ g _ hk=>by unfold fz.eL at hk;show n<=k;simp at hk;lia
variable {m:fz.E}
def Hi(hK:X.K=i.K)(he:PE X e<|tE X i Φ m):PI X tg e (tIt X i Φ<|.seq m) :=
 (Ln he).imp λσ H R ⟨env,G,QI,Em,p,w,c⟩=>by
  refine one p w λv G1 H1 x k1 p1 r q=>?_;let⟨⟨st,xs⟩,e1,q2⟩:=dO q;clear q;rw[hK];cases v with
  |tup ys =>
   cases e1;cases r with
   |tup hp hr=>exact⟨_,rfl,.inr ⟨⟨_,Zk hp⟩,c _ _ G1 H1 _ k1 p1.hp (it_tup hp hr) q2⟩⟩
  |scr ns =>
   cases e1;cases r with
   |scr h=>exact⟨_,rfl,.inl ⟨⟨_,Yk h⟩,c _ _ G1 H1 _ k1 p1.hp (it_scr h) q2⟩⟩
  |ref a =>
   cases r.ref_inv;simp only[fz.itV]at e1;cases z:fz.dZ (G1 a)with
   |none=>rw[z]at e1;cases e1
   |some ys =>rw[z]at e1;cases e1;let⟨vs,h1,h2⟩:=ZE p1.hp z;exact⟨a,rfl,.inl ⟨⟨vs,h1⟩,c _ _ G1 H1 _ k1 p1.hp it_lst q2⟩⟩
  |_=>cases e1
variable {p:Pos} {ç:Pos}
def A9{a:Expr}(hg:Gl X "range")(hm:X.mg "range" = dG)(ha:PE X a<|tE X i Φ m)(hs:Î [a] X.env=[(dJ,eval a X.env)]):PI X tg (.Call (.Name "range" p) [a] [] ç) (tIt X i Φ<|.range m) :=
 (A0 hg hm (Zo ha fi<|by rw[hs];rfl) hs).imp λσ H R ⟨env,G,QI,Em,p,w,c⟩=>by refine one p w λv G1 H1 x k1 p1 r q=>?_;let⟨n,e1,q2⟩:=dO q;clear q;cases ZJ e1;cases r.int_inv;exact⟨n,rfl,q2.1.1,q2.1.2,c _ _ G1 H1 _ k1 p1.hp (Do<|by rw[Int.sub_zero]) q2.2⟩
def Ak{a b:Expr}{ma mb:fz.E}(hg:Gl X "range")(hm:X.mg "range" = dG)(ha:PE X a<|tE X i Φ ma)(hb:PE X b<|tE X i Φ mb)(hs:Î [a,b] X.env=[(dJ,eval a X.env),(dJ,eval b X.env)])(hs1:Î [b] X.env=[(dJ,eval b X.env)]) :
  PI X tg (.Call (.Name "range" p) [a,b] [] ç) (tIt X i Φ<|.range2 ma mb) :=
 (AQ hg hm (Zo ha (Zo hb fi<|by rw[hs1];rfl)<|by rw[hs,hs1]) hs hs1).imp λσ H R ⟨env,G,QI,Em,p,w,c⟩=>by refine two p w λv u G1 H1 x y k1 p1 rx ry q=>?_;let⟨n,e1,q1⟩:=dO q;let⟨m,e2,q2⟩:=dO q1;clear q q1;cases ZJ e1;cases ZJ e2;cases rx.int_inv;cases ry.int_inv;exact⟨n,m,rfl,q2.1,c _ _ G1 H1 _ k1 p1.hp (Do rfl) q2.2⟩
variable {body:List ğ} {mb:fz.Ss}
def L9{ś:Expr}{q:fz.Pt}{mi:fz.It}(hp:ο (Þ X.prog X.w) X.A X.env X.xe)(hc:X.calm=dI)(hi:PI X tg ś<|tIt X i Φ mi)(hg:PG X tg<|gPt i q)(hb:PSs X body<|tBl X i Φ mb)
  (hs:∀x,Ē ś X.env x=pure x):PS X (.For tg ś body [] ç) (tSt X i Φ<|.for q mi mb) :=
 (Cw hp hc hi hg hb hs).imp λD σ H ⟨env,G,N,R,B,C,Xe,p,w,c⟩=>by
  refine⟨env,G,_,Xe env,p.pre,w,λst xs G1 H1 J k1 g1 it w1=>?_⟩;refine⟨λn m Ņ H'=>n+m=xs.length/\∃Ĭ G',ee H1 H'/\RH i G' H'/\REn i.K H' Ĭ Ņ/\fz.wFor st (λv e g K M=>fz.go (fz.bind q g v e) λe2=>fz.wSs Φ mb e2 g K R M K Xe) N (xs.drop n) Ĭ G',⟨xs.length,by lia,env,G1,ee.refl _,g1,p.en.keep k1,⇑w1⟩,?_⟩;rintro n m Ņ H' ⟨hnm,Ĭ,G',k2,g2,e2,w2⟩;by_cases hn:n<xs.length
  .right;have hd:xs.drop n=xs[n]::xs.drop (n+1):=ν hn;rw[hd]at w2;let⟨s2,w2⟩:=w2;have hv:xs[n]?=dF xs[n]:=É hn;let⟨a1,a2⟩:=it.go n G' H' xs[n] k2 g2 s2 hv;refine⟨a1,λaS H3=>∃env3 G3,ee H1 H3/\RH i G3 H3/\REn i.K H3 env3 aS/\fz.wFor st (λv e g K M=>fz.go (fz.bind q g v e) λe2=>fz.wSs Φ mb e2 g K R M K Xe) N (xs.drop<|n+1) env3 G3,λaS H3 h=>⟨m - 1,by lia,by lia,h⟩,λx H3 hy=>?_⟩;let⟨k3,g3,r3⟩:=a2 x H3 hy;let⟨cj,e4,w4⟩:=dO w2;refine⟨xs[n],Ĭ,G',cj,r3,g3,e2.keep k3,e4,λσ4 h4=>?_⟩;have kk:ee H H3:=(k1.trans k2).trans k3;refine⟨cj,G',_,R,N,_,Xe,p.go kk g3 h4,w4,⟨λaE cZ G5 H5 k5 g5 e5 w5=>?_,(c.go kk).rt,(c.go kk).nx,λaE cZ G5 H5 k5 g5 e5 w5=>?_⟩⟩
   .exact⟨aE,G5,(k2.trans k3).trans k5,g5,e5,w5⟩
   .exact⟨aE,G5,(k2.trans k3).trans k5,g5,e5,w5⟩
  .left;have hd:xs.drop n=[]:=Ε (by lia);rw[hd]at w2;exact⟨it.stop n G' H' k2 g2 w2.1 (by lia),c.nx Ĭ Ņ G' H' (k1.trans k2) g2 e2 w2.2⟩
def LN{t:Expr}{mt:fz.Tt}(hp:ο (Þ X.prog X.w) X.A X.env X.xe)(ht:PT X t<|tTt X i Φ mt)(hb:PSs X body<|tBl X i Φ mb):PS X (.While t body [] ç) (tSt X i Φ<|.whl mt mb) :=
 (Dt hp ht hb).imp λD σ H ⟨env,G,N,R,B,C,Xe,p,w,c⟩=>by
  let⟨n,w⟩:=w;refine⟨λm Ņ H'=>∃Ĭ G',ee H H'/\RH i G' H'/\REn i.K H' Ĭ Ņ/\fz.wWhile (λe g K=>fz.wT Φ mt e g K<|Xe e) (λe g K M=>fz.wSs Φ mb e g K R M K Xe) N m Ĭ G',⟨n,env,G,ee.refl H,p.hp,p.en,w⟩,?_⟩;rintro m Ņ H' ⟨Ĭ,G',k1,g1,e1,w1⟩;cases m with
  |zero=>cases w1
  |succ m =>
   have w1:fz.wT Φ mt Ĭ G' _<|Xe Ĭ:=w1;have p1:=p.go k1 g1 e1;refine⟨Ĭ,G',_,Xe Ĭ,p1.pre,w1,λd G2 H2 k2 g2 q=>?_⟩;cases d with
   |true =>refine⟨λaS H3=>∃env3 G3,ee H H3/\RH i G3 H3/\REn i.K H3 env3 aS/\fz.wWhile (λe g K=>fz.wT Φ mt e g K<|Xe e) (λe g K M=>fz.wSs Φ mb e g K R M K Xe) N m env3 G3,λaS H3 h=>⟨m,ă _,h⟩,?_⟩;have kk:=k1.trans k2;refine⟨Ĭ,G2,_,R,N,_,Xe,p.go kk g2<|e1.keep k2,⇑q,⟨λaE cZ G5 H5 k5 g5 e5 w5=>⟨aE,G5,kk.trans k5,g5,e5,w5⟩,(c.go kk).rt,(c.go kk).nx,λaE cZ G5 H5 k5 g5 e5 w5=>⟨aE,G5,kk.trans k5,g5,e5,w5⟩⟩⟩
   |false=>exact c.nx Ĭ Ņ G2 H2 (k1.trans k2) g2 (e1.keep k2) ⇑q
def LM:WS i .len λxs H Q=>((∃p ys,xs=[.ref p]/\(fk i.K H p ys\/fm i.K H p ys)/\Q (.int ys.length) H)\/∃z,xs=[.str z]/\z.length<=Ü/\Q (.int z.length) H)\/∃a kvs,xs=[V.ref a]/\H a=dF (.dK kvs)/\Q (.int kvs.length) H:=by
 intro vs G H xs Q Qm g r w c;let⟨v,rfl,w⟩:=YY w;let⟨x,rfl,rx⟩:=r.inv1;cases v with
 |ref a =>
  cases rx.ref_inv
  replace w:(match G a with|some (.lst xs)=>.val (.int xs.length)|some (.dct kvs)=>.val (.int kvs.length)|_=>.no:fz.Rs).wp G Qm:=w
  cases z:G a with
  |none=>rw[z]at w;exact(Zh w).elim
  |some o =>
   rw[z]at w;cases o with
   |lst ys =>let⟨us,h1,h2⟩:=g a _ z;refine .inl<|.inl ⟨a,us,rfl,.inl<|fk.of h1,?_⟩;rw[<-h2.length];exact c _ G H _ (ee.refl H) g (.int _)<|Zi w
   |dct kvs =>let⟨ps,h1,h2⟩:=g a _ z;refine .inr ⟨a,ps,rfl,h1,?_⟩;rw[<-h2.length];exact c _ G H _ (ee.refl H) g (.int _)<|Zi w
   |_=>exact(Zh w).elim
 |tup ys =>
  cases rx with
  |tup hp hr =>refine .inl<|.inl ⟨_,_,rfl,.inr<|Zk hp,?_⟩;rw[<-hr.length];exact c _ G H _ (ee.refl H) g (.int _)<|Zi w
 |scr ns =>
  cases rx with
  |scr h =>refine .inl<|.inl ⟨_,_,rfl,.inl<|Yk h,?_⟩;rw[À];exact c _ G H _ (ee.refl H) g (.int _)<|Zi w
 |str s =>cases rx.str_inv;let⟨hl,w⟩:=X1 w;refine .inl (.inr ⟨_,rfl,by rw[Zx];exact Ô hl ZU,?_⟩);rw[Zx];exact c _ G H _ (ee.refl H) g (.int _)<|Zi w
 |_=>exact(Zh w).elim
def Ei:WS i .list λxs H Q=>∃p ys,xs=[.ref p]/\(fk i.K H p ys\/fm i.K H p ys)/\∀l,H l=dG->Q (.ref l) (upd H l<|.lst ys):=by
 intro vs G H xs Q Qm g r w c;let⟨v,rfl,w⟩:=YY w;let⟨x,rfl,rx⟩:=r.inv1;cases v with
 |ref a =>cases rx.ref_inv;let⟨ys,e,w⟩:=NM (f:=λxs=>.new<|.lst xs) w;let⟨us,h1,h2⟩:=g a _ e;exact⟨a,us,rfl,.inl<|fk.of h1,YD g (OC w) c λp hp=>⟨_,dM,h2.keep<|ee.new hp⟩⟩
 |tup ys =>
  cases rx with
  |tup hp hr=>exact⟨_,_,rfl,.inr<|Zk hp,YD g (OC w) c λp hp=>⟨_,dM,hr.keep<|ee.new hp⟩⟩
 |_=>exact(Zh w).elim
variable {H:Hp}
def AC{K:Frag}:∀{xs:List fz.Val}{bs:List Bool}{vs:List V},fz.blsOf xs=dF bs->RVs K H xs vs->vs=bs.map V.bl:=by
 intro xs;induction xs with
 |nil=>intro bs vs e r;cases e;cases r;rfl
 |cons v xs ih =>
  intro bs vs e r;cases v<;>first|(cases e;done)|skip
  case bl b =>
  simp only[fz.blsOf]at e;cases z:fz.blsOf xs with
  |none=>rw[z]at e;cases e
  |some ns=>rw[z]at e;cases e;cases r with|cons a t=>cases a.bl_inv;rw[ih z t];rfl
def L4{o:Option fz.Val}{h:fz.Hs}{Q:fz.Q1}(w:(fz.Rs.ofO o).wp h Q):∃v,o=dF v/\Q v h:=by
 cases o with
 |none=>exact(Zh w).elim
 |some v=>exact⟨v,rfl,Zi w⟩
def Lr:WS i .all λxs H Q=>∃p,∃bs:List Bool,xs=[.ref p]/\fk i.K H p (bs.map V.bl)/\Q (.bl<|bs.all id) H:=by
 intro vs G H xs Q Qm g r w c;let⟨v,rfl,w⟩:=YY w;let⟨x,rfl,rx⟩:=r.inv1;cases v with
 |ref a =>cases rx.ref_inv;let⟨v,e,w⟩:=L4 w;let⟨ys,z,e⟩:=ß.mp e;let⟨bs,z2,rfl⟩:=Ï.mp e;let⟨us,h1,h2⟩:=ZE g z;have:=AC z2 h2;subst this;exact⟨a,bs,rfl,h1,c _ G H _ (ee.refl H) g (.bl _) w⟩
 |_=>exact(Zh w).elim
def L5:WS i .abs λxs H Q=>∃i,xs=[.int i]/\Q (.int<|if i<0 then -i else i) H:=by
 intro vs G H xs Q Qm g r w c;let⟨v,rfl,w⟩:=YY w;let⟨x,rfl,rx⟩:=r.inv1;cases v with
 |int a=>cases rx.int_inv;exact⟨a,rfl,c _ G H _ (ee.refl H) g (.int _)<|Zi w⟩
 |_=>exact(Zh w).elim
set_option exponentiation.threshold 2000 in
def Ls{k:Int}(h:k.natAbs<10 ^ 200):k.natAbs.log2<1920:=by
 have e:(10:Nat) ^ 200<2 ^ 1920:=by decide
 by_cases h0:k.natAbs=0
 .rw[h0];decide
 .exact(Nat.log2_lt h0).mpr<|ź h e
def Ci(ds:List fz.D)(d:fz.D):(toDs ds).any (λe=>Ģ e<|toD d)=ds.any λe=>fz.D.eqv e d:=by
 induction ds with
 |nil=>rfl
 |cons e es ih=>simp only[toDs,ĥ,ih,MZ]
variable {G:fz.Hs} {y:V} {ys:List fz.Val}
def UG(g:RH i G H){v u:fz.Val}{x:V}{c:Bool}(rx:RV i.K H v x)(e:fz.inL G v ys=dF c)(hy:∀ds,ys.mapM (fz.dat G<|fz.deep - 1)=dF ds->IsD i.K H y (.tuple<|toDs ds)\/IsD i.K H y (.list<|toDs ds)) :
  ∃ds d,(IsD i.K H y (.tuple ds)\/IsD i.K H y (.list ds))/\IsD i.K H x d/\ņ ds=dI/\d.canLay0=dI/\d.depth<=64/\ds.any (λe=>Ģ e d)=c:=by
 unfold fz.inL at e;cases z:fz.dat G fz.deep v with
 |none=>rw[z]at e;cases e
 |some d =>
  rw[z]at e;simp only[ï]at e;cases z2:ys.mapM (fz.dat G<|fz.deep - 1)with
  |none=>rw[z2]at e;cases e
  |some ds =>rw[z2]at e;cases e;exact⟨_,_,hy ds z2,Wd g _ _ _ _ z rx,toDs_lay ds,MF d,Ô (KR _ _ _ z) (by decide),Ci ds d⟩
def Ue(g:RH i G H){u:fz.Val}(ry:RV i.K H u y)(hu:u=.tup ys\/∃a,u=.ref a/\fz.dZ (G a)=dF ys):∀ds,ys.mapM (fz.dat G<|fz.deep - 1)=dF ds->IsD i.K H y (.tuple<|toDs ds)\/IsD i.K H y (.list<|toDs ds):=by
 intro ds hd;rcases hu with rfl|⟨a,rfl,hl⟩
 .left;have:=Wd g fz.deep (.tup ys) (.tup ds) y (by show Option.map _ (List.mapM (fz.dat G<|fz.deep - 1) ys)=_;rw[hd];rfl) ry;simpa[toD]using this
 .right;have:=Wd g fz.deep (.ref a) (.lst ds) y (by show(fz.dZ<|G a).bind _=_;rw[hl];show Option.map _ (List.mapM (fz.dat G<|fz.deep - 1) ys)=_;rw[hd];rfl) ry;simpa[toD]using this
def IV(s t:String)(c:Char)(h:fz.oneC s=dF c):(!(Builtin.Str.occurrences (fK t) (fK s) 0 (fK t).length 1).isEmpty)=fJ (c∈t.toList):=by
 have e:fK s=⟨#[c.toNat]⟩:=by
  unfold fz.oneC at h;split at h
  .rename_i d hd;cases h;rw[Str.ofString_eq_toList,hd];rfl
  .cases h
 rw[e,StrLaws.found_one,KY];have inj:∀{a b:Char},a.toNat=b.toNat->a=b:=λ{a b} e=>Char.ext<|a8 e;by_cases hc:c∈t.toList
 .rw[fG hc,fH];exact û hc
 .rw[fE hc,decide_eq_false_iff_not];intro m;let⟨d,hd,he⟩:=ã.mp m;exact hc<|inj he▸hd
abbrev QL(K:Frag):R2:=λx y H Q=>EH dJ x y H Q\/Gh K dJ x y H Q\/∃i j,x=.str i/\y=.str j/\Q (.bl (!(Builtin.Str.occurrences j i 0 j.length 1).isEmpty)) H
abbrev QE(K:Frag):R2:=λx y H Q=>EH dI x y H Q\/Gh K dI x y H Q\/∃i j,x=.str i/\y=.str j/\Q (.bl (!(!(Builtin.Str.occurrences j i 0 j.length 1).isEmpty))) H
def Sm(hu:X.A.units+65<Ĥ):OpR X (ê .In)<|QL X.K:=(H9<|by lia).or ((Lu hu).or U6)
def RY(hu:X.A.units+65<Ĥ):OpR X (ê .NotIn)<|QE X.K:=(Lo<|by lia).or ((Au hu).or Mp)
def GG{v u:fz.Val}{G:fz.Hs}{H:Hp}{x y:V}{b:Bool}(g:RH i G H)(rx:RV i.K H v x)(ry:RV i.K H u y)(e:fz.inV G v u=dF b) :
  (∃ds d,(IsD i.K H y (.tuple ds)\/IsD i.K H y (.list ds))/\IsD i.K H x d/\ņ ds=dI/\d.canLay0=dI/\d.depth<=64/\ds.any (λe=>Ģ e d)=b)\/
  (∃j k,x=.str j/\y=.str k/\(!(Builtin.Str.occurrences k j 0 k.length 1).isEmpty)=b)\/∃a o,y=.ref a/\DGet H a x o/\o.isSome=b:=by
 cases u with
 |tup ys=>exact .inl<|UG (u:=.tup ys) g rx e<|Ue g ry<|.inl rfl
 |ref a =>
  replace e:(match G a with|some (.lst xs)=>fz.inL G v xs|some (.dct kvs)=>if fz.d8 v then dF (fz.ei kvs v)else dG|some (.frz kvs)=>if fz.d8 v then dF (fz.ei kvs v)else dG|some (.dtp kvs)=>if fz.isKeyT v then dF (fz.ei kvs v)else dG|_=>dG)=dF b:=e
  cases z:G a with
  |none=>rw[z]at e;cases e
  |some o =>
   rw[z]at e;cases o with
   |lst ys=>exact .inl (UG (u:=.ref a) g rx e<|Ue g ry<|.inr ⟨a,rfl,by rw[z];rfl⟩)
   |dct kvs =>let⟨hk,e⟩:=Zs (show(if fz.d8 v then dF (fz.ei kvs v)else dG)=dF b from e);cases e;let⟨ps,h1,h2⟩:=g a _ z;let⟨d,kr,rfl⟩:=d5 hk rx;exact .inr (.inr ⟨a,_,ry.ref_inv,DGet.k h1,by rw[h2.has kr,Xk]⟩)
   |frz kvs =>let⟨hk,e⟩:=Zs (show(if fz.d8 v then dF (fz.ei kvs v)else dG)=dF b from e);cases e;let⟨ob,ps,h1,h2⟩:=g a _ z;let⟨d,kr,rfl⟩:=d5 hk rx;exact .inr (.inr ⟨a,_,ry.ref_inv,.inl ⟨ps,d,.inr ⟨ob,h1⟩,rfl,rfl⟩,by rw[h2.has kr,Xk]⟩)
   |dtp kvs =>let⟨hk,e⟩:=Zs (show(if fz.isKeyT v then dF (fz.ei kvs v)else dG)=dF b from e);cases e;let⟨ps,h1,h2⟩:=g a _ z;let⟨k1,k2,d,rfl,rfl,hd⟩:=Je hk rx;exact .inr (.inr ⟨a,_,ry.ref_inv,DGet.t h1 hd,by rw[h2.has,Xk]⟩)
   |_=>cases e
 |str t =>
  cases v with
  |str s =>let⟨c,z,rfl⟩:=Ï.mp e;exact .inr<|.inl ⟨_,_,rx.str_inv,ry.str_inv,IV s t c z⟩
  |_=>cases e
 |_=>cases e
def Gw{o:Option Bool}{b:Bool}(e:o.map (!·)=dF b):o=dF (!b):=by let⟨c,z,rfl⟩:=Ï.mp e;rw[z,Ϫ]
def Sg:Z8 i .isin<|QL i.K:=by
 intro v u G H x y c Q g rx ry e q;rcases GG g rx ry e with⟨ds,d,h1,h2,h3,h4,h5,h6⟩|⟨j,k,h1,h2,h3⟩|⟨a,o,h1,h2,h3⟩
 .exact .inr (.inl ⟨ds,d,h1,h2,h3,h4,h5,by show Q (.bl<|List.any _ _) H;rw[h6];exact q⟩)
 .exact .inr (.inr ⟨j,k,h1,h2,by rw[h3];exact q⟩)
 .exact .inl ⟨a,o,h1,h2,by rw[h3,aG];exact q⟩
def RA:Z8 i .notin<|QE i.K:=by
 intro v u G H x y c Q g rx ry e q;rcases GG g rx ry (Gw e)with⟨ds,d,h1,h2,h3,h4,h5,h6⟩|⟨j,k,h1,h2,h3⟩|⟨a,o,h1,h2,h3⟩
 .exact .inr (.inl ⟨ds,d,h1,h2,h3,h4,h5,by show Q (.bl (!List.any _ _)) H;rw[h6,Ϫ];exact q⟩)
 .exact .inr (.inr ⟨j,k,h1,h2,by rw[h3,Ϫ];exact q⟩)
 .exact .inl ⟨a,o,h1,h2,by rw[h3,a9,Ϫ];exact q⟩
variable {a:Expr} {b:Expr} {d:Expr} {ma:fz.E} {mb:fz.E} {op:bI} {cI:bI} {cop:fz.Cop} {cop':fz.Cop} {r:R2} {r':R2} {ç:Pos}
def FN{md:fz.E}(ho:OpR X (ê op) r)(hr:Z8 i cop r)(Ρ:OpR X (ê cI) r')(hr':Z8 i cop' r')(ha:PE X a<|tE X i Φ ma)(hb:PE X b<|tE X i Φ mb)(hd:PE X d<|tE X i Φ md)(hm:aO [op,cI] [b,d]=dJ) :
  PE X (.Compare a [op,cI] [b,d] ç) (tE X i Φ<|.chain cop cop' ma mb md) :=
 (BW ho Ρ ha hb hd hm).imp λσ H Q ⟨env,G,Qm,Em,p,w,k⟩=>by
  exact two p w λv u G2 H2 x y k2 p2 rx ry q=>by
   let⟨c,e,q⟩:=dO q;refine hr v u G2 H2 x y c _ p2.hp rx ry e ⟨c,rfl,?_⟩;cases c with
   |true =>
    rw[fA rfl]at q ⊢;exact one p2 q λt G3 H3 z k3 p3 rz q=>by let⟨d2,e2,q⟩:=dO q;exact hr' u t G3 H3 y z d2 Q p3.hp (ry.keep k3) rz e2<|k (.bl d2) G3 H3 (.bl d2) (k2.trans k3) p3.hp (.bl d2) q
   |false =>rw[fB ù]at q ⊢;exact k _ G2 H2 _ k2 p2.hp (.bl _) q
def CO{md:fz.E}(ho:OpR X (ê op) r)(hr:Z8 i cop r)(Ρ:OpR X (ê cI) r')(hr':Z8 i cop' r')(ha:PE X a<|tE X i Φ ma)(hb:PE X b<|tE X i Φ mb)(hd:PE X d<|tE X i Φ md)(hm:aO [op,cI] [b,d]=dJ) :
  PT X (.Compare a [op,cI] [b,d] ç) (tTt X i Φ<|.val<|.chain cop cop' ma mb md) :=
 (BJ ho Ρ ha hb hd hm).imp λσ H Q ⟨env,G,Qm,Em,p,w,k⟩=>by
  exact two p w λv u G2 H2 x y k2 p2 rx ry q=>by
   let⟨c,e,q⟩:=dO q;refine hr v u G2 H2 x y c _ p2.hp rx ry e ⟨c,rfl,?_⟩;cases c with
   |true =>
    rw[fA rfl]at q ⊢;exact one p2 q λt G3 H3 z k3 p3 rz q=>by let⟨d2,e2,q⟩:=dO q;let⟨d3,e3,q⟩:=dO q;cases e3;exact hr' u t G3 H3 y z d2 _ p3.hp (ry.keep k3) rz e2 ⟨d2,rfl,k d2 G3 H3 (k2.trans k3) p3.hp q⟩
   |false =>rw[fB ù]at q ⊢;let⟨d3,e3,q⟩:=dO q;cases e3;exact⟨dJ,rfl,k _ G2 H2 k2 p2.hp q⟩
def BN{st:ğ}:PS X st<|tSt X i Φ .never:=λÁ s σ H D I ⟨env,G,N,R,B,C,Xe,p,w,c⟩=>by exact w.elim
end Snd
namespace L2
open PySem PySem.Spec PyProof.Rows
def GK{x:V}{xs:List V}{î:List Â}(hl:(x::xs).length=î.length):(î.toArray.size != (#[]:Array Â).size)=dI:=by
 cases î with
 |nil=>cases hl
 |cons y ys=>simp
section
variable {X:Cx}
abbrev F1(K:Frag)(n:Bool):R2:=λx y H Q=>∃a b xs,x=.ref a/\y=.ref b/\fk K H a xs/\fk K H b []/\Q (.bl<|n ^^ xs.isEmpty) H
def Ca(hu:X.A.units+64<Ĥ):OpR X (ê .Eq)<|F1 X.K dJ:=by
 intro Á s σ H x y v u Q I rx ry h;let⟨a,b,xs,rfl,rfl,ha,hb,q⟩:=h;cases rx;cases ry;let⟨î,rv,pl,_⟩:=I.list ha;let⟨ae,rv2,pl2,_⟩:=I.list hb;cases rv2;have hl:=rv.length;cases xs with
 |nil =>have:î=[]:=ŗ.mp hl.symm;subst this;exact SeqAt.RcAt.lists (A:=X.A) (e:=λ_=>dI) pl.isList pl2.isList rfl (by lia) (λj j1 _=>by simp at j1) X.prog X.w X.xe _ ⟨.bl dI,H,I,rfl,q⟩
 |cons x xs =>exact SeqAt.RcAt.lists_lengths (A:=X.A) pl.isList pl2.isList (GK hl) (by lia) X.prog X.w X.xe _ ⟨.bl dJ,H,I,rfl,q⟩
def DW(hu:X.A.units+64<Ĥ):OpR X (ê .NotEq)<|F1 X.K dI:=by
 intro Á s σ H x y v u Q I rx ry h;let⟨a,b,xs,rfl,rfl,ha,hb,q⟩:=h;cases rx;cases ry;let⟨î,rv,pl,_⟩:=I.list ha;let⟨ae,rv2,pl2,_⟩:=I.list hb;cases rv2;have hl:=rv.length;cases xs with
 |nil =>have:î=[]:=ŗ.mp hl.symm;subst this;exact SeqAt.RcNeAt.lists (A:=X.A) (e:=λ_=>dI) pl.isList pl2.isList rfl (by lia) (λj j1 _=>by simp at j1) X.prog X.w X.xe _ ⟨.bl dJ,H,I,rfl,q⟩
 |cons x xs =>exact SeqAt.RcNeAt.lists_lengths (A:=X.A) pl.isList pl2.isList (GK hl) (by lia) X.prog X.w X.xe _ ⟨.bl dI,H,I,rfl,q⟩
end
end L2
namespace Snd
open PySem L2
variable {i:Inf}{G:fz.Hs}{H:Hp}
variable {x:V} {xs:List fz.Val}
def Kx(g:RH i G H){v:fz.Val}(r:RV i.K H v x)(e:fz.asLst G v=dF xs):∃a vs,x=.ref a/\fk i.K H a vs/\RVs i.K H xs vs:=by
 cases v with
 |ref a =>cases r;let⟨vs,h1,h2⟩:=ZE g e;exact⟨a,vs,rfl,h1,h2⟩
 |_=>cases e
def NC(g:RH i G H){v u:fz.Val}{y:V}(rx:RV i.K H v x)(ry:RV i.K H u y){c:Bool}{f:List fz.Val->List fz.Val->Option Bool}(e:((fz.asLst G v).bind λxs=>(fz.asLst G u).bind λys=>f xs ys)=dF c):∃xs ys a b vs us,f xs ys=dF c/\x=.ref a/\y=.ref b/\fk i.K H a vs/\fk i.K H b us/\RVs i.K H xs vs/\RVs i.K H ys us:=by
 cases z:fz.asLst G v with
 |none=>rw[z]at e;cases e
 |some xs =>
  cases z2:fz.asLst G u with
  |none=>rw[z,z2]at e;cases e
  |some ys =>rw[z,z2]at e;let⟨a,vs,h1,h2,h3⟩:=Kx g rx z;let⟨b,us,k1,k2,k3⟩:=Kx g ry z2;exact⟨xs,ys,a,b,vs,us,e,h1,k1,h2,k2,h3,k3⟩
def UL{vs:List V}(h:RVs i.K H xs vs):vs.isEmpty=xs.isEmpty:=by cases h<;>rfl
def c_eqE:Z8 i .eqE<|F1 i.K dJ:=by
 intro v u G H x y c Q g rx ry e q;let⟨xs,ys,a,b,vs,us,e,h1,h2,h3,h4,h5,h6⟩:=NC g rx ry e;split at e
 .rename_i z;cases e;cases h6 with
  |nil=>exact⟨a,b,vs,h1,h2,h3,h4,by rw[UL h5,aG];exact q⟩
  |cons _ _=>cases z
 .cases e
def c_neE:Z8 i .neE<|F1 i.K dI:=by
 intro v u G H x y c Q g rx ry e q;let⟨xs,ys,a,b,vs,us,e,h1,h2,h3,h4,h5,h6⟩:=NC g rx ry e;split at e
 .rename_i z;cases e;cases h6 with
  |nil=>exact⟨a,b,vs,h1,h2,h3,h4,by rw[UL h5,a9];exact q⟩
  |cons _ _=>cases z
 .cases e
variable {i:Inf}{X:Cx}{Φ:fz.Fs}
abbrev tPt(X:Cx)(i:Inf)(Φ:fz.Fs)(m:fz.E):TE:=λσ H Q=>∃env G Qm Em,Pre X i σ H env G Em/\fz.wE Φ m env G Qm Em/\∀v G' H',ee H H'->RH i G' H'->Qm v G'->∃s,fz.fmtV v=dF s/\s.length<=fz.lim/\Q (.str<|fK s) H'
abbrev tJs(X:Cx)(i:Inf)(Φ:fz.Fs)(ms:fz.Es):TJ:=λσ H ħ Q=>∃env G a Qm Em,ħ=fK a/\a.length<=fz.lim/\Pre X i σ H env G Em/\fz.wJ Φ ms env G a Qm Em/\∀s G' H',ee H H'->RH i G' H'->Qm s G'->Q (fK s) H'
def _root_.L2.PJ.imp{vs:List Expr}{t t':TJ}(h:PJ X vs t)(f:∀σ H ħ Q,t' σ H ħ Q->t σ H ħ Q):PJ X vs t':=λÁ s σ H ħ Q I q=>h Á s σ H ħ Q I (f σ H ħ Q q)
variable {e:Expr} {m:fz.E} {ç:Pos}
def HZ(he:PE X e<|tE X i Φ m):PE X (.FormattedValue e (-1) dG ç) (tPt X i Φ m) :=
 (Gi he).imp λσ H Q ⟨env,G,Qm,Em,p,w,c⟩=>by
  refine⟨env,G,Qm,Em,p,w,λv G1 H1 x k1 g1 r1 w1=>?_⟩;let⟨s,e1,hl,q⟩:=c v G1 H1 k1 g1 w1;cases v with
  |str t=>cases e1;cases r1.str_inv;exact .inr ⟨_,rfl,by rw[Zx];exact Ô hl ZU,q⟩
  |int n =>
   cases r1.int_inv;simp only[fz.fmtV]at e1;split at e1
   .rename_i hn;cases e1;exact .inl ⟨n,rfl,Ls hn,q⟩
   .cases e1
  |_=>cases e1
def Po{s:String}{j:Nat}:PE X (.Constant (.str<|fK s) j ç) (tPt X i Φ<|.cst<|.str s) :=
 pe_str.imp λσ H Q ⟨env,G,Qm,Em,p,w,c⟩=>by let⟨t,e1,hl,q⟩:=c _ G H (ee.refl H) p.hp w;cases e1;exact q
def Lz:PJ X []<|tJs X i Φ .nil:=pj_nil.imp λσ H ħ Q ⟨env,G,a,Qm,Em,e,hl,p,w,c⟩=>by subst e;exact⟨by rw[Zx];exact Ô hl ZU,c a G H (ee.refl H) p.hp w⟩
def Uc{es:List Expr}{ms:fz.Es}(he:PE X e<|tPt X i Φ m)(hr:PJ X es<|tJs X i Φ ms)(hs:bP (e::es) X.env=eval e X.env::bP es X.env):PJ X (e::es) (tJs X i Φ<|.cons m ms) :=
 (F4 he hr hs).imp λσ H ħ Q ⟨env,G,a,Qm,Em,e,hl,p,w,c⟩=>by subst e;refine⟨env,G,_,Em,p,w,λv G1 H1 k1 g1 w1=>?_⟩;let⟨s,e1,hl1,w2⟩:=dO w1;clear w1;refine⟨s,e1,by lia,_,rfl,?_,env,G1,a++s,Qm,Em,(Mc a s).symm,by rw[bE];exact hl1,p.go k1 g1,w2,λt G2 H2 k2=>c t G2 H2<|k1.trans k2⟩;rw[<-Mc,Zx,bE];exact Ô hl1 ZU
def Xc{G:fz.Hs}{H:Hp}{p:Ê}{o:HO}(g:RH i G H)(hp:H p=dG):RH i G<|upd H p o:=g.hid (ee.new hp) λb u e=>dL (by rintro rfl;rw[g.free hp]at e;cases e)
abbrev tE0(i:Inf)(Φ:fz.Fs)(m:fz.E):TE:=λσ H Q=>∃env G Qm,REn i.K H env σ/\RH i G H/\fz.wE Φ m env G Qm (λ_ _=>False)/\Cn i H Q Qm
abbrev tT0(i:Inf)(Φ:fz.Fs)(m:fz.Tt):TT:=λσ H Q=>∃env G Qm,REn i.K H env σ/\RH i G H/\fz.wT Φ m env G Qm (λ_ _=>False)/\∀b G' H',ee H H'->RH i G' H'->Qm b G'->Q b H'
variable {H:Hp}
def Uv:XOk X i H λ_ _=>False:=λÁ σ H0 s H' a cls s' I f ⟨_,_,_,_,_,_,_,z⟩=>z.elim
variable {e:Expr}
def pe0{m:fz.E}(h:PE X e<|tE X i Φ m):PE X e<|tE0 i Φ m:=h.imp λσ H Q ⟨env,G,Qm,r,g,w,c⟩=>⟨env,G,Qm,_,⟨r,g,Uv⟩,w,c⟩
def pt0{m:fz.Tt}(h:PT X e<|tTt X i Φ m):PT X e<|tT0 i Φ m:=h.imp λσ H Q ⟨env,G,Qm,r,g,w,c⟩=>⟨env,G,Qm,_,⟨r,g,Uv⟩,w,c⟩
def _root_.L2.PIfs.imp{es:List Expr}{t t':TT}(h:PIfs X es t)(f:∀σ H Q,t' σ H Q->t σ H Q):PIfs X es t':=λÁ s σ H Q I q=>h Á s σ H Q I (f σ H Q q)
def Lk:PIfs X []<|tT0 i Φ .yes:=pifs_nil.imp λσ H Q ⟨env,G,Qm,r,g,w,c⟩=>by exact c dI G H (ee.refl H) g w
variable {ô:List Nat}
def El{K:Frag}{H':Hp}{env:fz.Env}{σ:St}{k:Nat}(r:REn K H env σ)(kp:ee H H'):REn K H' (Ú k dG++ô.map λj=>(env[j]?).getD dG)<|Ú k dG++OT σ ô:=by
 refine⟨by simp[OT],λn u e=>?_⟩;by_cases hn:n<k
 .rw[ü (by rw[ñ];exact hn),ŀ,fA hn]at e;cases e
 .rw[Ă (by rw[ñ];lia),ñ]at e ⊢;generalize n - k=n at e ⊢;simp only[Ó]at e;cases z:ô[n]? with
  |none=>rw[z]at e;cases e
  |some j =>
   rw[z]at e;simp only[Ĵ,ī]at e;cases z2:env[j]? with
   |none=>rw[z2]at e;cases e
   |some o =>rw[z2]at e;have e:o=dF u:=e;subst e;let⟨y,h1,h2⟩:=r.get j u z2;exact⟨y,by unfold OT;rw[Ó,z];show dF ((σ[j]?).getD dG)=_;rw[h1];rfl,h2.keep kp⟩
abbrev OP(k:Nat):fz.Pt->Bool
 |.one j=>fJ (j<k)
 |.many js=>js.all λj=>fJ (j<k)
 |.nest _ _=>dJ
def K3{r:fz.Env}:∀{js:List Nat}{vs:List fz.Val}{l Ň:fz.Env},(js.all λj=>fJ (j<l.length))=dI->fz.bindL js vs (l++r)=dF Ň->∃l',Ň=l'++r/\l'.length=l.length
 |[],[],l,_,_,e=>by cases e;exact⟨l,rfl,rfl⟩
 |j::js,v::vs,l,_,h,e=>by rw[List.all_cons,bAq,fH]at h;have e:fz.bindL js vs ((l++r).set j<|dF v)=_:=e;rw[ck _ _ h.1]at e;let⟨l',h1,h2⟩:=K3 (l:=l.set j<|dF v) (by rw[ű];exact h.2) e;exact⟨l',h1,by rw[h2,ű]⟩
 |[],_::_,_,_,_,h=>by cases h
 |_::_,[],_,_,_,h=>by cases h
variable {l:fz.Env} {r:fz.Env}
def A7{p:fz.Pt}{G:fz.Hs}{v:fz.Val}{Ň:fz.Env}(h:OP l.length p=dI)(e:fz.bind p G v (l++r)=dF Ň):∃l',Ň=l'++r/\l'.length=l.length:=by
 cases p with
 |one j =>have e:dF ((l++r).set j<|dF v)=dF Ň:=e;cases e;exact⟨l.set j<|dF v,by rw[ck _ _<|of_decide_eq_true h],ű⟩
 |many js =>
  cases v with
  |tup vs=>exact K3 h e
  |_=>cases e
 |nest j js=>cases h
def REn.pre{K:Frag}{τ:St}(q:REn K H (l++r) τ):REn K H (Ú l.length dG++r) τ:=by
 refine⟨by rw[<-q.len];simp,λn u e=>?_⟩;by_cases hn:n<l.length
 .rw[ü (by rw[ñ];exact hn),ŀ,fA hn]at e;cases e
 .rw[Ă (by rw[ñ];lia),ñ]at e;exact q.get n u (by rw[Ă<|by lia];exact e)
def UA{k:Nat}{pt:fz.Pt}(hk:OP k pt=dI){mi:fz.It}{mt:fz.Tt}{me:fz.E}:∀σ H Q,tE X i Φ (.comp ô k pt mi mt me) σ H Q->Dr (tIt X i Φ mi) k ô (gPt i pt) (tT0 i Φ mt) (tE0 i Φ me) σ H Q:=λσ H Q ⟨env,G,Qm,Em,p,w,c⟩=>by
 refine⟨env,G,_,Em,p,w,λst xs G1 H1 J k1 g1 it w1=>?_⟩;let⟨hl,w1⟩:=w1;generalize hstep:(λ(v:fz.Val) (h2:fz.Hs) (K:Option fz.Val->fz.Hs->Prop) (X2:fz.XQ)=>fz.go (fz.bind pt h2 v<|Ú k dG++ô.map λj=>(env[j]?).getD dG) λŇ =>
       fz.wT Φ mt Ň h2 (λk h3=>if k=dI then fz.wE Φ me Ň h3 (λu h4=>K (dF u) h4) X2 else K dG h3) X2)=step at w1
 refine⟨λn m ys τ H'=>n+m=xs.length/\ys.length<=n/\REn i.K H' (Ú k dG++ô.map λj=>(env[j]?).getD dG) τ/\∃ħ G',ee H1 H'/\RH i G' H'/\RVs i.K H' ħ ys/\fz.wComp st step (xs.drop n) ħ G' (λys h5=>fz.new h5 (.lst ys) Qm) (λ_ _=>False),⟨xs.length,by lia,by simp,El p.en k1,[],G1,ee.refl _,g1,.nil,⇑w1⟩,?_⟩;rintro n m ys τ H' ⟨hnm,hly,en2,ħ,G',k2,g2,r2,w2⟩;refine⟨è (Ñ (Ô hly<|by lia) hl) ZU,?_⟩;by_cases hn:n<xs.length
 .right;have hd:xs.drop n=xs[n]::xs.drop (n+1):=ν hn;rw[hd]at w2;let⟨s2,w2⟩:=w2;have hv:xs[n]?=dF xs[n]:=É hn;let⟨a1,a2⟩:=it.go n G' H' xs[n] k2 g2 s2 hv;refine⟨a1,λys3 τ3 H3=>ys3.length<=n+1/\REn i.K H3 (Ú k dG++ô.map λj=>(env[j]?).getD dG) τ3/\∃acc3 G3,ee H1 H3/\RH i G3 H3/\RVs i.K H3 acc3 ys3/\fz.wComp st step (xs.drop<|n+1) acc3 G3 (λys h5=>fz.new h5 (.lst ys) Qm) (λ_ _=>False),λys3 τ3 H3 h=>⟨m - 1,by lia,by lia,h.1,h.2⟩,λx H3 hy=>?_⟩;let⟨k3,g3,r3⟩:=a2 x H3 hy;rw[<-hstep]at w2;let⟨cj,e4,w4⟩:=dO w2;rw[hstep]at w4;let⟨l',e5,h5⟩:=A7 (l:=Ú k dG) (by rw[ñ];exact hk) e4;rw[ñ]at h5;refine⟨xs[n],_,G',cj,r3,g3,en2.keep k3,e4,λτ4 en4=>?_⟩;have Λ:REn i.K H3 (Ú k dG++ô.map λj=>(env[j]?).getD dG) τ4:=by
   rw[e5]at en4;have:=en4.pre;rw[h5]at this;exact this
  refine⟨_,G',_,en4,g3,w4,λd G5 H5 k5 g5 q5=>?_⟩;have kk:=(k2.trans k3).trans k5;cases d with
  |true =>refine⟨_,G5,_,en4.keep k5,g5,⇑q5,λu G6 H6 y k6 g6 r6 q6=>?_⟩;exact⟨⇑hly,(Λ.keep k5).keep k6,_,G6,kk.trans k6,g6,((((r2.keep k3).keep k5).keep k6).append<|.cons r6 .nil),q6⟩
  |false =>rw[fB ù]at q5;change if dJ=dI then _ else _;rw[fB ù];have q5:fz.wComp st step (xs.drop<|n+1) (ħ++[]) G5 (λys h5=>fz.new h5 (.lst ys) Qm) λ_ _=>False:=q5;rw[ó]at q5;exact⟨by lia,Λ.keep k5,ħ,G5,kk,g5,(r2.keep k3).keep k5,q5⟩
 .left;have hd:xs.drop n=[]:=Ε (by lia);rw[hd]at w2;refine⟨it.stop n G' H' k2 g2 w2.1 (by lia),?_⟩;exact YD g2 w2.2 ((c.go k1).go k2) λq hq=>⟨_,dM,r2.keep<|ee.new hq⟩
abbrev AU(i:Inf)(m:fz.Bm)(r:V->List V->Hp->VK->Prop):Prop:=∀(v:fz.Val) (vs:List fz.Val) (G:fz.Hs) (H:Hp) (x:V) (xs:List V) (t:fz.Val×fz.Hs) (Q:VK) (Qm:fz.Q1),
 RH i G H->RV i.K H v x->RVs i.K H vs xs->fz.bmV G m v vs=dF t->Qm t.1 t.2->Cn i H Q Qm->r x xs H Q
abbrev IY(i:Inf)(m:fz.Bm)(T:String):Prop:=∀(v:fz.Val) (G:fz.Hs) (H:Hp) (x:V),RH i G H->RV i.K H v x->fz.bmTy G m v=dI->tyV i.K T x H
variable {m:fz.Bm}
def Cz{o e:Expr}{es:List Expr}{name:Str}{Ń ĺ:Pos}{T id:String}{r:V->List V->Hp->VK->Prop}{mo:fz.E}{ms:fz.Es}{n:Nat}(hK:X.K=i.K)(pa:PlainAttrs T)(slot:Slot T name id)(hty:du (.builtin id)=pure (.type "method_descriptor"))(mt:MtR X id r)(hT:IY i m T)(hr:AU i m r)
  (ho:PE X o<|tE X i Φ mo) (ha:PA X (e::es)<|tAr X i Φ ms n) (af:Ğ o name X.env (eval o X.env)=eval o X.env)
  (ah:((Č ĺ<|Î (e::es) X.env).all (λx=>!x.1)&&(ũ ĺ<|Ľ [] X.env).all (λx=>x.1.isSome)&&fJ ((e::es).length+([]:List aw).length+(if([]:List aw).isEmpty then 0 else 1)<30))=dI)
  (ai:(Ń.endLine==ĺ.line)=dI) (hs:Î (e::es) X.env=(dJ,eval e X.env)::Î es X.env) (bY:(Č ĺ<|Î es X.env).any (·.1)=dJ) :
  PE X (.Call (.Attribute o name Ń) (e::es) [] ĺ) (tE X i Φ<|.bm m mo ms) :=
 (Rf pa slot hty mt ho ha af ah ai hs bY).imp λσ H Q ⟨env,G,Qm,Em,p,w,c⟩=>by
  refine one p w λv G1 H1 x k1 p1 rv q=>⟨by rw[hK];exact hT v G1 H1 x p1.hp rv q.1,env,G1,_,Em,p1,q.2,λvs G2 H2 xs k2 g2 r2 _ w2=>?_⟩
  let⟨t,e,w3⟩:=dO w2;exact hr v vs G2 H2 x xs t Q Qm g2 (rv.keep k2) r2 e w3<|(c.go k1).go k2
def Of{o:Option fz.Ob}(h:fz.isDct o=dI):(∃xs,o=dF (.dct xs))\/∃xs,o=dF (.dtp xs):=by
 cases o with
 |none=>cases h
 |some o=>cases o with
  |dct xs=>exact .inl ⟨xs,rfl⟩
  |dtp xs=>exact .inr ⟨xs,rfl⟩
  |_=>cases h
def Qq(hm:m.ty=.l):IY i m "list":=λv G H x g r h=>by
 unfold fz.bmTy at h;rw[hm]at h;cases v with
 |ref a =>cases r.ref_inv;let⟨xs,e⟩:=Oo (show fz.isLst (G a)=dI from h);let⟨vs,h1,_⟩:=g a _ e;exact .inl ⟨rfl,vs,fk.of h1⟩
 |_=>cases h
def Iu(hm:m.ty=.d):IY i m "dict":=λv G H x g r h=>by
 unfold fz.bmTy at h;rw[hm]at h;cases v with
 |ref a =>
  cases r.ref_inv;rcases Of (show fz.isDct (G a)=dI from h)with⟨xs,e⟩|⟨xs,e⟩
  .obtain⟨vs,h1,_⟩:=g a _ e;exact .inr<|.inr<|.inl ⟨rfl,.inl ⟨vs,h1⟩⟩
  .obtain⟨vs,h1,_⟩:=g a _ e;exact .inr<|.inr<|.inl ⟨rfl,.inr ⟨vs,h1⟩⟩
 |_=>cases h
variable {G:fz.Hs}
def UP{v:fz.Val}{f:fz.Ad->List fz.Val->Option (fz.Val×fz.Hs)}{t:fz.Val×fz.Hs}(e:fz.bmL G v f=dF t):∃a xs,v=.ref a/\G a=dF (.lst xs)/\f a xs=dF t:=by
 cases v with
 |ref a=>let⟨xs,h1,h2⟩:=D1 e;exact⟨a,xs,rfl,h1,h2⟩
 |_=>cases e
variable {vs:List fz.Val} {α:Type} {a:α}
def LF{f:fz.Val->Option α}(e:(match vs with|[v]=>f v|_=>dG)=dF a):∃v,vs=[v]/\f v=dF a:=by
 cases vs with
 |nil=>cases e
 |cons v vs=>cases vs with
  |nil=>exact⟨v,rfl,e⟩
  |cons _ _=>cases e
def Ht:AU i .append UT:=λv vs G H x xs t Q Qm g rx rs e q c=>by let⟨a,ys,rfl,e4,e3⟩:=UP e;let⟨u,rfl,e3⟩:=LF e3;let⟨hl,e3⟩:=Zs e3;cases e3;cases rx.ref_inv;let⟨y,rfl,ry⟩:=rs.inv1;let⟨us,h2,r2⟩:=g a _ e4;let⟨k3,g3⟩:=MS (xs:=ys) g h2 (ys++[u]) (us++[y])<|r2.app1 ry;exact⟨a,us,y,rfl,rfl,h2,by rw[<-r2.length];exact è hl ZU,c _ _ _ _ k3 g3 .non q⟩
def FZ:AU i .popAt Bs:=λv vs G H x xs t Q Qm g rx rs e q c=>by
 let⟨a,ys,rfl,e4,e3⟩:=UP e;unfold fz.bmPopAt at e3;split at e3
 .rename_i n;let⟨hn,e3⟩:=Zs e3;let⟨k,z,e3⟩:=ß.mp e3;let⟨yv,z2,rfl⟩:=Ï.mp e3;cases rx.ref_inv;let⟨y,rfl,ry⟩:=rs.inv1;cases ry.int_inv;let⟨us,h2,r2⟩:=g a _ e4;let⟨xv,hx,rv⟩:=r2.get z2;rw[MA,r2.length]at z;let⟨s1,s2,s3,s4⟩:=MI z;let⟨k3,g3⟩:=MS (xs:=ys) g h2 (ys.eraseIdx k) (us.eraseIdx k)<|r2.eraseIdx k;exact⟨a,us,n,k,xv,rfl,rfl,h2,by lia,by lia,s1,hx,c _ _ _ _ k3 g3 (rv.keep k3) q⟩
 .cases e3
def MX{v:fz.Val}{f:fz.Ad->List (fz.Val×fz.Val)->Option (fz.Val×fz.Hs)}{t:fz.Val×fz.Hs}(e:fz.bmD G v f=dF t):∃a kvs,v=.ref a/\G a=dF (.dct kvs)/\f a kvs=dF t:=by
 cases v with
 |ref a =>
  let⟨kvs,h1,h2⟩:=ß.mp (show(fz.fu<|G a).bind (f a)=dF t from e);refine⟨a,kvs,rfl,?_,h2⟩;cases z:G a with
  |none=>rw[z]at h1;cases h1
  |some o =>
   rw[z]at h1;cases o with
   |dct ys=>cases h1;rfl
   |_=>cases h1
 |_=>cases e
def R1{f:fz.Val->fz.Val->Option α}(e:(match vs with|[v,u]=>f v u|_=>dG)=dF a):∃v u,vs=[v,u]/\f v u=dF a:=by
 cases vs with
 |nil=>cases e
 |cons v vs=>cases vs with
  |nil=>cases e
  |cons u us=>cases us with
   |nil=>exact⟨v,u,rfl,e⟩
   |cons _ _=>cases e
abbrev BI:V->List V->Hp->VK->Prop:=λx vs H Q=>∃a y o,x=.ref a/\vs=[y]/\DGet H a y o/\Q (o.getD .non) H
def BP(hu:X.A.units+1<Ĥ):MtR X "dict.get" BI:=by intro Á s σ H x vs v us Q I rx rv h;let⟨a,y,o,rfl,rfl,d,q⟩:=h;cases rx;let⟨u,rfl,ru⟩:=rv.one;exact Le hu I d ru λw' s' I' aD=>⟨_,_,I',aD,q⟩
abbrev Ce:V->List V->Hp->VK->Prop:=λx vs H Q=>∃a kvs k v more,x=.ref a/\vs=kV k::more/\(more=[]\/∃z,more=[z])/\H a=dF (.dK kvs)/\YK kvs k=dF v/\Q v (upd H a<|.dK<|eB kvs k)
def mt_dpop:MtR X "dict.pop" Ce:=by
 intro Á s σ H x vs v us Q I rx rv h;let⟨a,kvs,k,y,more,rfl,rfl,hm,hH,l,q⟩:=h;cases rx;rcases hm with rfl|⟨z,rfl⟩
 .obtain⟨u,rfl,ru⟩:=rv.one;exact GH I hH ru l (.inl rfl) λw' s' I' aD=>⟨_,_,I',aD,q⟩
 .obtain⟨u,t,rfl,ru,rt⟩:=rv.two;exact GH I hH ru l (.inr ⟨_,rfl⟩) λw' s' I' aD=>⟨_,_,I',aD,q⟩
abbrev C8:V->List V->Hp->VK->Prop:=λx vs H Q=>∃a kvs k z,x=.ref a/\vs=[kV k,z]/\H a=dF (.dK kvs)/\YK kvs k=dG/\Q z H
def CU:MtR X "dict.pop" C8:=by intro Á s σ H x vs v us Q I rx rv h;let⟨a,kvs,k,z,rfl,rfl,hH,l,q⟩:=h;cases rx;let⟨u,t,rfl,ru,rt⟩:=rv.two;exact IT I hH ru l λs' I'=>⟨_,_,I',rt,q⟩
def Pm:AU i .dget BI:=λv vs G H x xs t Q Qm g rx rs e q c=>by
 let⟨a,kvs,rfl,e4,e3⟩:=MX e;let⟨k,rfl,e3⟩:=LF e3;let⟨hk,e3⟩:=Zs e3;cases e3;cases rx.ref_inv;let⟨y,rfl,ry⟩:=rs.inv1;let⟨ps,h2,r2⟩:=g a _ e4;let⟨d,kr,rfl⟩:=d5 hk ry;refine⟨a,_,_,rfl,rfl,DGet.k (k:=d) h2,?_⟩;let⟨l1,l2⟩:=r2.look kr;cases z:fz.eh kvs k with
 |none=>rw[l2 z];rw[z]at q;exact c _ _ _ _ (ee.refl H) g .non q
 |some u=>let⟨x,hx,rv⟩:=l1 u z;rw[hx];rw[z]at q;exact c _ _ _ _ (ee.refl H) g rv q
def LV:AU i .dpop Ce:=λv vs G H x xs t Q Qm g rx rs e q c=>by let⟨a,kvs,rfl,e4,e3⟩:=MX e;let⟨k,rfl,e3⟩:=LF e3;let⟨hk,e3⟩:=Zs e3;let⟨u,z,rfl⟩:=Ï.mp e3;cases rx.ref_inv;let⟨y,rfl,ry⟩:=rs.inv1;let⟨ps,h2,r2⟩:=g a _ e4;let⟨d,kr,rfl⟩:=d5 hk ry;let⟨x,hx,rv⟩:=(r2.look kr).1 u z;let⟨k3,g3⟩:=MW (kvs:=kvs) g h2<|r2.drop kr;exact⟨a,ps,d,x,[],rfl,rfl,.inl rfl,h2,hx,c _ _ _ _ k3 g3 (rv.keep k3) q⟩
def OI{kvs:List (fz.Val×fz.Val)}{k:fz.Val}(h:fz.eh kvs k=dG):fz.eB kvs k=kvs:=by
 unfold fz.eB;rw[cF];intro p hp;have h2:kvs.find? (λp=>p.1==k)=dG:=by unfold fz.eh at h;exact Option.map_eq_none_iff.mp h
 simpa using List.find?_eq_none.mp h2 p hp
def E3:AU i .dpopD λx vs H Q=>Ce x vs H Q\/C8 x vs H Q:=λv vs G H x xs t Q Qm g rx rs e q c=>by
 let⟨a,kvs,rfl,e4,e3⟩:=MX e;let⟨k,dv,rfl,e3⟩:=R1 e3;let⟨hk,e3⟩:=Zs e3;cases e3;cases rx.ref_inv;let⟨y,z,rfl,ry,rz⟩:=rs.inv2;let⟨ps,h2,r2⟩:=g a _ e4;let⟨d,kr,rfl⟩:=d5 hk ry;let⟨l1,l2⟩:=r2.look kr;cases z:fz.eh kvs k with
 |none =>
  refine .inr ⟨a,ps,d,_,rfl,rfl,h2,l2 z,?_⟩;rw[z,OI z]at q;have e:fz.upd G a (.dct kvs)=G:=by
   funext b;by_cases hb:b=a
   .subst hb;rw[fz.dM,e4]
   .rw[fz.dL hb]
  rw[e]at q;exact c _ _ _ _ (ee.refl H) g rz q
 |some u =>let⟨x,hx,rv⟩:=l1 u z;let⟨k3,g3⟩:=MW (kvs:=kvs) g h2<|r2.drop kr;rw[z]at q;exact .inl ⟨a,ps,d,x,_,rfl,rfl,.inr ⟨_,rfl⟩,h2,hx,c _ _ _ _ k3 g3 (rv.keep k3) q⟩
def RFs.look{K:Frag}{H:Hp}{f:String}:∀{fs:List (String×fz.Val)}{ps:List (Str×V)},RFs K H fs ps->
  (∀v,fs.lookup f=dF v->∃x,ps.lookup (fK f)=dF x/\RV K H v x)/\(fs.lookup f=dG->ps.lookup (fK f)=dG)
 |_,_,.nil=>⟨λv e=>(by cases e),λ_=>rfl⟩
 |_,_,.cons (f:=g) (v:=u) (x:=y) r t=>by
  have ih:=RFs.look (f:=f) t;rw[ð,ð];by_cases e:f=g
  .subst e;rw[beq_self_eq_true,beq_self_eq_true];exact⟨λv z=>(by cases z;exact⟨y,rfl,r⟩),λz=>(by cases z)⟩
  .rw[show(f==g)=dJ by simpa using e,show(fK f==fK g)=dJ by rw[beq_eq_false_iff_ne];exact λz=>e<|ofS_inj.mp z];exact ih
def RFs.put{K:Frag}{H:Hp}{f:String}{v:fz.Val}{x:V}(q:RV K H v x):∀{fs:List (String×fz.Val)}{ps:List (Str×V)},RFs K H fs ps->RFs K H (fz.d6 fs f v) (L2.d6 (fK f) x ps)
 |_,_,.nil=>.cons q .nil
 |_,_,.cons (f:=g) (v:=u) (x:=y) r t=>by
  unfold fz.d6 L2.d6;by_cases e:g=f
  .subst e;rw[fA rfl,fA rfl];exact .cons q t
  .rw[fB e,fB λz=>e<|ofS_inj.mp z];exact .cons r<|RFs.put q t
def RFs.length{K:Frag}{H:Hp}:∀{fs:List (String×fz.Val)}{ps:List (Str×V)},RFs K H fs ps->fs.length=ps.length
 |_,_,.nil=>rfl
 |_,_,.cons _ t=>by rw[Ç,Ç,RFs.length t]
structure FldOk(i:Inf)(f:String):Prop where
 no:∀C c,i.cl C c->NoAttr i.K c (fK f)
structure IC(K:Frag)(C:Ê):Prop where
 ha:PySem.W.findIn K (.ref C) "__class__" = dF (dF<|.builtin "object.__class__")
 hn:PySem.W.specialIn K (.builtin "object.__class__") "__get__" = dF (dF<|.builtin "getset_descriptor.__get__")
 htk:PySem.W.takesIn K (.builtin "object.__class__")=dF dI
 hm:PySem.W.mroIn K C (.type "object")=dF dI
structure ClsA(i:Inf):Prop where
 cls:∀C c,i.ins C=dI->i.cl C c->Cls i.K c
 ic:∀C c,i.cl C c->IC i.K c
 un:∀C a b,i.cl C a->i.cl C b->a=b
def JI{o:Option fz.Ob}{p:String×List (String×fz.Val)}(h:fz.insOf o=dF p):o=dF (.ins p.1 p.2):=by
 cases o with
 |none=>cases h
 |some o=>cases o with
  |ins C fs=>cases h;rfl
  |_=>cases h
variable {G:fz.Hs} {f:String}
def KP{v u:fz.Val}(h:fz.eV G v f=dF u):∃a C fs,v=.ref a/\G a=dF (.ins C fs)/\fs.lookup f=dF u:=by let⟨a,h1,h⟩:=ß.mp h;let⟨p,h2,h3⟩:=ß.mp h;exact⟨a,p.1,p.2,XR h1,JI h2,h3⟩
variable {o:Expr} {mo:fz.E} {ç:Pos}
def QY(hK:X.K=i.K)(A:ClsA i)(F:FldOk i f)(ho:PE X o<|tE X i Φ mo)(hb:Ğ o (fK f) X.env (eval o X.env)=eval o X.env) :
  PE X (.Attribute o (fK f) ç) (tE X i Φ<|.fld mo f) :=
 (HD ho hb).imp λσ H Q ⟨env,G,Qm,Em,p,w,c⟩=>by
  exact one p w λv G1 H1 x k1 p1 r q=>by let⟨u,e,q2⟩:=dO q;clear q;let⟨a,C,fs,rfl,e2,e3⟩:=KP e;cases r.ref_inv;let⟨c',dx,ps,hi,hc,h1,rf⟩:=p1.hp a _ e2;let⟨y,l,ry⟩:=rf.look.1 u e3;exact⟨a,c',dx,ps,y,rfl,h1,by rw[hK];exact A.cls _ _ hi hc,by rw[hK];exact F.no _ _ hc,l,c _ _ _ _ k1 p1.hp ry q2⟩
variable {C:String}
def UN{H:Hp}{a:Ê}{c' dx:Ê}{fs:List (String×fz.Val)}{ps aL:List (Str×V)}(g:RH i G H)(hi:i.ins C=dI)(hc:i.cl C c')(h:H a=dF (.ins c' dx aL))(r:RFs i.K H fs ps) :
  ee H (upd H a<|.ins c' dx ps)/\RH i (fz.upd G a<|.ins C fs) (upd H a<|.ins c' dx ps):=by
 have k:ee H<|upd H a<|.ins c' dx ps:=ee.put (λxs e=>by rw[h]at e;cases e) λp u e=>by rw[h]at e;cases e
 exact⟨k,g.put k ⟨c',dx,ps,hi,hc,dM,r.keep k⟩⟩
def Jx{G':fz.Hs}{o v:fz.Val}(h:fz.eW G o f v=dF G'):∃a C fs,o=.ref a/\G a=dF (.ins C fs)/\fs.length<900/\G'=fz.upd G a (.ins C<|fz.d6 fs f v):=by
 cases o with
 |ref a =>
  unfold fz.eW at h;dsimp only at h;split at h
  .rename_i C fs e;let⟨hl,h⟩:=Zs h;cases h;exact⟨a,C,fs,rfl,e,hl,rfl⟩
  .cases h
 |_=>cases h
variable {e:Expr}
def Af{m:fz.E}{ϯ:Pos}(hK:X.K=i.K)(A:ClsA i)(F:FldOk i f)(ho:PE X o<|tE X i Φ mo)(he:PE X e<|tE X i Φ m)(hs:ō e (dF<|.Attribute o (fK f) ϯ) ç.line X.env=pure dJ) :
  PS X (.Assign [.Attribute o (fK f) ϯ] e ç) (tSt X i Φ<|.setFld mo f m) :=
 (Ly ho he hs).imp λD σ H ⟨env,G,N,R,B,C,Xe,p,w,c⟩=>by refine one p.pre w λv G1 H1 x k1 p1 r q=>?_;refine one p1 q λu G2 H2 y k2 p2 ry q=>?_;let⟨G3,e3,q2⟩:=dO q;clear q;let⟨a,D',fs,rfl,e2,hl,rfl⟩:=Jx e3;cases ry.ref_inv;let⟨c',dx,ps,hi,hc,h1,rf⟩:=p2.hp a _ e2;let⟨k3,g3⟩:=UN p2.hp hi hc h1<|rf.put (f:=f)<|r.keep k2;refine⟨a,c',dx,ps,rfl,h1,by rw[hK];exact A.cls _ _ hi hc,by rw[hK];exact F.no _ _ hc,by rw[<-rf.length];lia,?_⟩;have k:=(k1.trans k2).trans k3;exact c.nx _ _ _ _ k g3 (p.en.keep k) q2
def NT{op:fz.Bop}{x y z:fz.Val}(h:fz.augV op x y=dF z):∃a b,x=.int a/\y=.int b/\((op=.add/\z=.int (a+b))\/(op=.sub/\z=.int (a - b))):=by
 unfold fz.augV at h;split at h
 .cases h;exact⟨_,_,rfl,rfl,.inl ⟨rfl,rfl⟩⟩
 .cases h;exact⟨_,_,rfl,rfl,.inr ⟨rfl,rfl⟩⟩
 .cases h
abbrev rAS(op:fz.Bop):V->V->Hp->VK->Prop:=λx y H Q=>∃a b,x=.int a/\y=.int b/\((op=.add/\Q (.int<|a+b) H)\/(op=.sub/\Q (.int<|a - b) H))
def Ag{op:Ν}{bop:fz.Bop}{n:Int}{k:Nat}{bW ĺ:Pos}(hK:X.K=i.K)(A:ClsA i)(F:FldOk i f)(hop:DS X op<|rAS bop)(ho:PE X o<|tE X i Φ mo) :
  PS X (.AugAssign (.Attribute o (fK f) bW) op (.Constant (.int n) k ĺ) ç) (tSt X i Φ<|.augFld mo f bop n) :=
 (U0 ho Og hop).imp λD σ H ⟨env,G,N,R,B,C,Xe,p,w,c⟩=>by
  refine one p.pre w λv G1 H1 x k1 p1 r q=>?_;let⟨u,e1,q2⟩:=dO q;clear q;let⟨a,C',fs,rfl,e2,e3⟩:=KP e1;cases r.ref_inv;let⟨c',dx,ps,hi,hc,h1,rf⟩:=p1.hp a _ e2;let⟨y,l,ry⟩:=rf.look.1 u e3;refine⟨a,c',dx,ps,y,rfl,h1,by rw[hK];exact A.cls _ _ hi hc,by rw[hK];exact F.no _ _ hc,l,?_⟩;let⟨z,e4,q3⟩:=dO q2;clear q2;let⟨G3,e5,q4⟩:=dO q3;clear q3;let⟨n1,n2,rfl,e0,hz⟩:=NT e4;cases e0;cases ry.int_inv;let⟨a2,C2,fs2,e6,e7,hl,rfl⟩:=Jx e5;cases e6;rw[e2]at e7;cases e7;have fin:∀n:Int,z=.int n->∃dx' fs',H1 a=dF (.ins c' dx' fs')/\fs'.length<1000/\D.nx σ (upd H1 a<|.ins c' dx'<|L2.d6 (fK f) (.int n) fs'):=λn hn=>by subst hn;let⟨k3,g3⟩:=UN p1.hp hi hc h1<|rf.put (f:=f) (x:=.int n)<|.int n;refine⟨dx,ps,h1,by rw[<-rf.length];lia,?_⟩;exact c.nx _ _ _ _ (k1.trans k3) g3 (p.en.keep<|k1.trans k3) q4
  rcases hz with⟨e,hz⟩|⟨e,hz⟩
  .exact⟨n1,n,rfl,rfl,.inl ⟨e,fin _ hz⟩⟩
  .exact⟨n1,n,rfl,rfl,.inr ⟨e,fin _ hz⟩⟩
abbrev Dfm(pr:é)(w:Ā)(mg:Str->Option Â)(base:ć)(i:Inf)(P:fz.Pg)(n:Nat)(f:String)(fa:Ê):Prop :=
 ∃fd ps,eK pr w i.K mg base (CX1 pr w) (2*n) fa fd ps (spF i P n f)/\Binds i.K fd ps []
variable {P:fz.Pg} {n:Nat} {es:List Expr} {ms:fz.Es} {p:Pos}
def LH{k:Nat}{Cn:String}{C f:Ê}(hK:X.K=i.K)(hi:i.ins Cn=dI)(hc:i.cl Cn C)(M:Mk i.K C f)(D:Dfm X.prog X.w X.mg X.base i P n (Cn ++ ".__init__") f)(hr:eF (2*n+1) X.A)
  (hg:Gl X<|fK Cn) (hm:X.mg (fK Cn)=dF (.ref C)) (ϑ:(fK Cn==("__debug__" : Str))=dJ)
  (ha:PA X (e::es)<|tAr X i (fz.wF P n) ms k) (he:Î (e::es) X.env=(dJ,eval e X.env)::Î es X.env) (hpl:(Č ç<|Î es X.env).any (·.1)=dJ) :
  PE X (.Call (.Name (fK Cn) p) (e::es) [] ç) (tE X i (fz.wF P n)<|.make Cn ms):=by
 let⟨fd,ps,F,hb⟩:=D;rw[<-hK]at F hb M;intro Á s σ H Q I h;let⟨env,G,Qm,Em,pr,w,c⟩:=h;refine Fk (E:=XK1 i H Em) M F hr hg hm hb .nil (XW.passes pr.xo) ha ϑ he hpl Á s σ H Q I ⟨env,G,_,Em,pr,w,λvs G1 H1 xs k1 g1 r1 hl w1 x dx hx hd ŝ=>?_⟩;have ka:ee H1<|upd H1 dx<|.own x:=ee.new hd;have bG:upd H1 dx (.own x) x=dG:=by rw[dL λz=>ŝ z.symm];exact hx
 have kb:ee (upd H1 dx<|.own x)<|upd (upd H1 dx<|.own x) x<|.ins C dx []:=ee.new bG;have g2:RH i G1<|upd H1 dx<|.own x:=Xc g1 hd;have g3:RH i (fz.upd G1 x<|.ins Cn [])<|upd (upd H1 dx<|.own x) x<|.ins C dx []:=g2.put kb ⟨C,dx,[],hi,hc,dM,.nil⟩;have k:=ka.trans kb;refine⟨.ref x::vs,_,_,Em,.cons (.ref x) (by rw[ó];exact r1.keep k),g3,w1 x<|g1.free hx,?_,λcls d H' h=>(h.go k).go k1⟩;intro v G' H' y k' g' rv ⟨hv,hq⟩;subst hv;exact⟨rv.non_inv,c _ G' H' _ ((k1.trans k).trans k') g' (.ref x) hq⟩
variable {m:String}
def K8{v:fz.Val}(h:fz.clsV G v m=dF C):∃a fs,v=.ref a/\G a=dF (.ins C fs)/\fs.lookup m=dG:=by
 let⟨a,h1,h⟩:=ß.mp h;let⟨p,h2,h3⟩:=ß.mp h;have e:=JI h2;by_cases z:(p.2.lookup m).isNone=dI
 .rw[fA z]at h3;cases h3;exact⟨a,p.2,XR h1,e,az.mp z⟩
 .rw[fB z]at h3;cases h3
variable {Ń:Pos} {pl:Sem Bool}
def IX{k:Nat}{Cn:String}{C f:Ê}(hK:X.K=i.K)(hfn:∀c,i.cl Cn c->c=C)(A:Cls i.K C)(M:Meth i.K C (fK m) f)(D:Dfm X.prog X.w X.mg X.base i P n (Cn ++ "." ++ m) f)(hr:eF (2*n) X.A)
  (ho:PE X o<|tE X i (fz.wF P n) mo) (ha:PA X (e::es)<|tAr X i (fz.wF P n) ms k) (he:Î (e::es) X.env=(dJ,eval e X.env)::Î es X.env) (hpl:(Č ç<|Î es X.env).any (·.1)=dJ)
  (ht:eval (.Call (.Attribute o (fK m) Ń) (e::es) [] ç) X.env=(do
    let ov<-eval o X.env
    Γ Ń.atName
    let (f,first)<-ŉ [ov] (Ξ ov (fK m) pl)
    bJ ç f first (Č ç<|Î (e::es) X.env) (ũ ç<|Ľ [] X.env))) :
  PE X (.Call (.Attribute o (fK m) Ń) (e::es) [] ç) (tE X i (fz.wF P n)<|.meth Cn m mo ms):=by
 let⟨fd,ps,F,hb⟩:=D;rw[<-hK]at F hb M A;intro Á s σ H Q I h;let⟨env,G,Qm,Em,pr,w,c⟩:=h;refine E1 (E:=XK1 i H Em) ho A M F hr hb .nil (XW.passes pr.xo) ha he hpl ht Á s σ H Q I<|one pr w λv G1 H1 x k1 p1 rv q=>?_;let⟨hq,w1⟩:=q;let⟨a,fs,rfl,e2,e3⟩:=K8 hq;cases rv.ref_inv;let⟨c',dx,cg,hi,hc,h1,rf⟩:=p1.hp a _ e2;cases hfn c' hc;refine⟨a,dx,cg,rfl,h1,rf.look.2 e3,env,G1,_,Em,p1,w1,λvs G2 H2 xs k2 g2 r2 hl w2=>?_⟩;exact⟨.ref a::vs,G2,Qm,Em,.cons (.ref a) (by rw[ó];exact r2),g2,w2,(c.go k1).go k2,λcls d H' h=>(h.go k2).go k1⟩
def EL{Cn:String}{C f:Ê}(hK:X.K=i.K)(hfn:∀c,i.cl Cn c->c=C)(A:Cls i.K C)(M:Meth i.K C (fK m) f)(D:Dfm X.prog X.w X.mg X.base i P n (Cn ++ "." ++ m) f)(hr:eF (2*n) X.A)
  (ho:PE X o<|tE X i (fz.wF P n) mo)
  (ht:eval (.Call (.Attribute o (fK m) Ń) [] [] ç) X.env=(do
    let ov<-eval o X.env
    Γ Ń.atName
    let (f,first)<-ŉ [ov] (Ξ ov (fK m) pl)
    bJ ç f first (Č ç<|Î [] X.env) (ũ ç<|Ľ [] X.env))) :
  PE X (.Call (.Attribute o (fK m) Ń) [] [] ç) (tE X i (fz.wF P n)<|.meth Cn m mo .nil):=by
 let⟨fd,ps,F,hb⟩:=D;rw[<-hK]at F hb M A;intro Á s σ H Q I h;let⟨env,G,Qm,Em,pr,w,c⟩:=h;refine Bt (E:=XK1 i H Em) ho A M F hr hb .nil (XW.passes pr.xo) ht Á s σ H Q I<|one pr w λv G1 H1 x k1 p1 rv q=>?_;let⟨hq,w1⟩:=q;let⟨a,fs,rfl,e2,e3⟩:=K8 hq;cases rv.ref_inv;let⟨c',dx,cg,hi,hc,h1,rf⟩:=p1.hp a _ e2;cases hfn c' hc;refine⟨a,dx,cg,rfl,h1,rf.look.2 e3,?_⟩;exact⟨[.ref a],G1,Qm,Em,.cons (.ref a) .nil,p1.hp,w1,c.go k1,λcls d H' h=>h.go k1⟩
def D8(hK:X.K=i.K)(D:Dfo X.prog X.w X.mg X.base i P n f)(hr:eF (2*n) X.A)(hg:Gl X<|fK f)(ϑ:(fK f==("__debug__" : Str))=dJ) :
  PE X (.Call (.Name (fK f) p) [] [] ç) (tE X i (fz.wF P n)<|.call f .nil):=by
 let⟨fa,fd,ps,F,hm,hk,hb⟩:=D;rw[<-hK]at F hk hb;intro Á s σ H Q I h;let⟨env,G,Qm,Em,pr,w,c⟩:=h;refine BV (E:=XK1 i H Em) F hr hg hm hk hb .nil (XW.passes pr.xo) ϑ Á s σ H Q I ?_;exact⟨[],G,Qm,Em,.nil,pr.hp,w,c,λcls d H' h=>h⟩
abbrev Uh(X:Cx)(i:Inf)(Φ:fz.Fs):fz.Es->List (TE×TE)
 |.cons k (.cons v r)=>(tE X i Φ k,tE X i Φ v)::Uh X i Φ r
 |_=>[]
abbrev JS:fz.Es->Bool
 |.nil=>dI
 |.cons _ .nil=>dJ
 |.cons _ (.cons _ r)=>JS r
abbrev esL:fz.Es->Nat
 |.nil=>0
 |.cons _ es=>esL es+1
abbrev US:List V->List (V×V)
 |x::y::r=>(x,y)::US r
 |_=>[]
def M5:∀(es:fz.Es),JS es=dI->∀{σ:St}{H:Hp}{env:fz.Env}{G:fz.Hs}{Qm:List fz.Val->fz.Hs->Prop}{Em:fz.XQ}{Q:List (V×V)->Hp->Prop},Pre X i σ H env G Em->fz.wA Φ es env G Qm Em->
  (∀vs G' H' xs,ee H H'->RH i G' H'->RVs i.K H' vs xs->xs.length=esL es->Qm vs G'->Q (US xs) H')->ME (Uh X i Φ es) σ H Q
 |.nil,_,σ,H,env,G,Qm,Em,Q,p,w,c=>by rw[fz.q_a_nil]at w;exact c [] G H [] (ee.refl H) p.hp .nil rfl w
 |.cons k .nil,h,_,_,_,_,_,_,_,_,_,_=>by cases h
 |.cons k (.cons v r),h,σ,H,env,G,Qm,Em,Q,p,w,c=>by rw[fz.q_a_cons]at w;refine one p w λa G1 H1 x k1 p1 ra q=>?_;rw[fz.q_a_cons]at q;refine one p1 q λb G2 H2 y k2 p2 rb q2=>?_;refine M5 r h p2 q2 λvs G' H' xs k3 g3 rv hl hq=>?_;exact c (a::b::vs) G' H' (x::y::xs) ((k1.trans k2).trans k3) g3 (.cons ((ra.keep k2).keep k3)<|.cons (rb.keep k3) rv) (by rw[Ç,Ç,hl];rfl) hq
def Jr{K:Frag}{H:Hp}:∀{vs:List fz.Val}{xs:List V}{kvs:List (fz.Val×fz.Val)},RVs K H vs xs->fz.pairUp vs=dF kvs->∃ps:List<|Key×V,US xs=ps.map (λkv=>(kV kv.1,kv.2))/\RKs K H kvs ps/\2*ps.length=xs.length
 |[],_,_,r,e=>by cases r;cases e;exact⟨[],rfl,.nil,rfl⟩
 |[_],_,_,_,e=>by cases e
 |a::b::vs,_,kvs,r,e=>by
  cases r with
  |cons ra r=>cases r with
  |cons rb t =>
  rename_i y _;unfold fz.pairUp at e;split at e
  .rename_i hk;let⟨ks,e2,rfl⟩:=Ï.mp e;let⟨ps,h1,h2,h3⟩:=Jr t e2;let⟨c,hc,rfl⟩:=d5 hk ra;refine⟨(c,y)::ps,?_,.cons hc rb h2,by rw[Ç,Ç,Ç];lia⟩;show(kV c,y)::US _=_;rw[h1];rfl
  .cases e
def RKs.merge{K:Frag}{H:Hp}:∀{kvs:List (fz.Val×fz.Val)}{ps:List (Key×V)}{ħ:List (fz.Val×fz.Val)}{bs:List (Key×V)},RKs K H ħ bs->RKs K H kvs ps->RKs K H (fz.putAll ħ kvs) (Xx bs ps)
 |_,_,_,_,r,.nil=>r
 |_,_,ħ,bs,r,.cons (k:=k) (v:=v) (c:=c) (x:=x) (kvs:=kvs) (ps:=ps) a q t=>by show RKs K H (fz.putAll (fz.ej ħ k v) kvs) (Xx (L2.ej bs c x) ps);exact RKs.merge (RKs.put a q r) t
variable {ç:Pos}
def Hh:PE X (.Dict [] [] ç) (tE X i Φ<|.dct .nil) :=
 pe_dnewK.imp λσ H Q ⟨env,G,Qm,Em,p,w,c⟩=>by rw[fz.q_e_dct]at w;unfold fz.new at w;intro a ha;have w1:=w a<|p.hp.free ha;let⟨a',e,w2⟩:=dO w1;cases e;rw[fz.q_a_nil]at w2;let⟨ks,e2,_,w3⟩:=dO w2;cases e2;rw[fz.dN]at w3;have k:=ee.new (o:=.dK []) ha;exact c _ _ _ _ k (p.hp.put (o:=.dct []) k ⟨[],dM,.nil⟩) (.ref a) w3
def QB{es:fz.Es}{keys:List (Option Expr)}{ρ:List Expr}(he:JS es=dI)(h30:esL es<=30)(h:PPs X ç keys ρ<|Uh X i Φ es)(hall:keys.all (·.isSome)=dI)(hl:keys.length=ρ.length)(h0:keys≠[])(h15:keys.length<=15):PE X (.Dict keys ρ ç) (tE X i Φ<|.dct es) :=
 (Eb h hall hl h0 h15).imp λσ H Q ⟨env,G,Qm,Em,p,w,c⟩=>by
  rw[fz.q_e_dct]at w;unfold fz.new at w;intro a ha;have w1:=w a<|p.hp.free ha;let⟨a',e,w2⟩:=dO w1;cases e;have k:=ee.new (o:=.dK []) ha;have p2:Pre X i σ (upd H a<|.dK []) env (fz.upd G a<|.dct []) Em:=p.go k<|p.hp.put (o:=.dct []) k ⟨[],dM,.nil⟩;refine M5 es he p2 w2 λvs G' H' xs k2 g2 rv hl w3=>?_;let⟨ks,e2,e3,w4⟩:=dO w3;let⟨ps,e4,r4⟩:=g2 a _ e3;cases r4;let⟨qs,h1,h2,h3⟩:=Jr rv e2;refine⟨e4,qs,h1,by lia,?_⟩;have k3:ee H'<|upd H' a<|.dK<|Xx [] qs:=ee.put (λxs e=>by rw[e4]at e;cases e) λp u e=>by rw[e4]at e;cases e
  exact c _ _ _ _ ((k.trans k2).trans k3) (g2.put (o:=.dct<|fz.putAll [] ks) k3 ⟨_,dM,(RKs.merge .nil h2).keep k3⟩) (.ref a) w4
end Snd
namespace L2
open PySem PySem.Spec PyProof.Rows
section
variable {X:Cx}{Á:List (Ê×Obj)}{σ:St}{H:Hp}{s:Ä}{a:Ê}{o:Obj}{ps:List (Key×V)}
def Inv.freeze(I:Inv X Á σ H s)(e:H a=dF (.dK ps))(ho:s.heap.get? a=dF o):Inv X Á σ (upd H a<|.frz o<|.dK ps) s:=by have h:=I.hok a _ e;exact I.write (t':=s.toks) (x:=a) (e:=a) (h':=s.heap) (by rw[e];exact True.intro) (.inl rfl) (λ_ _ _ q=>q) ⟨o,ho⟩ ⟨ho,h⟩
def Inv.thaw(I:Inv X Á σ H s)(e:H a=dF (.frz o<|.dK ps))(h0:∀o u,X.H₀ a≠dF (.frz o u)):Inv X Á σ (upd H a<|.dK ps) s:=by
 have hn:∀b,H b=dG->upd H a (.dK ps) b=dG:=λb z=>by rw[dL<|by rintro rfl;rw[e]at z;cases z];exact z
 have ho:=I.hok a _ e;refine⟨I.ok,I.os,I.bare,⟨I.base.keep,I.base.slot,λb ob q n hx=>hn b<|I.base.free b ob q n hx,I.base.there,λb xs q=>?_,λb ob u q=>?_,λb qs q=>?_⟩,I.loc,I.cell,hn _ I.free,λx c q=>hn _<|I.freeC x c q,λp hp=>?_,λb u q=>?_,I.len⟩
 .have z:=I.base.tups b xs q;rw[dL<|by rintro rfl;rw[e]at z;cases z];exact z
 .have z:=I.base.frzs b ob u q;rw[dL<|by rintro rfl;exact h0 _ _ q];exact z
 .obtain⟨m,z⟩:=I.base.tbls b qs q;exact⟨m,by rw[dL<|by rintro rfl;rw[e]at z;cases z];exact z⟩
 .obtain⟨q1,q2,q3,q4,q5⟩:=I.pin p hp;exact⟨q1,hn _ q2,q3,q4,q5⟩
 .by_cases hb:b=a
  .subst hb;rw[dM]at q;cases q;exact ho.2
  .rw[dL hb]at q;refine(I.hok b u q).stay (λ_ _ _ q=>q) (λc z=>?_) λc xs z=>?_
   .rw[dL<|by rintro rfl;rw[e]at z;cases z];exact z
   .rw[dL<|by rintro rfl;rw[e]at z;cases z];exact z
end
abbrev Ends.thaw(X:Cx)(D:Ends):Ends where
 nx:=λσ H=>∃a o ps,H a=dF (.frz o<|.dK ps)/\(∀o u,X.H₀ a≠dF (.frz o u))/\D.nx σ (upd H a<|.dK ps)
 rt:=λv H=>∃a o ps,H a=dF (.frz o<|.dK ps)/\(∀o u,X.H₀ a≠dF (.frz o u))/\D.rt v (upd H a<|.dK ps)
 bk:=D.bk
 ct:=D.ct
variable {X:Cx}
def Ef{st:ğ}{t:TS}(h:PS X st t):PS X st λD σ H=>t (D.thaw X) σ H:=λÁ s σ H D I q =>
 thn (h Á s σ H _ I q) λf s' z=>by
  cases f with
  |next =>let⟨Ņ,H',I',a,o,ps,e,h0,q⟩:=z;exact⟨Ņ,_,I'.thaw e h0,q⟩
  |ret u =>let⟨v,Ņ,H',I',r,a,o,ps,e,h0,q⟩:=z;exact⟨v,Ņ,_,I'.thaw e h0,r,q⟩
  |brk=>exact z
  |cont=>exact z
abbrev Iti(a:Ê)(o:Obj)(ps:List<|Key×V):It :=
 ⟨λi H=>H a=dF (.frz o<|.dK ps)/\i<ps.length,λi H v H'=>∃p k x,v=.ref p/\H p=dG/\ps[i]?=dF (k,x)/\H'=upd H p (.tup [kV k,x]),λi H=>H a=dF (.frz o<|.dK ps)/\ps.length<=i⟩
def Dw{k:Key}{u:Â}(h:J0 k u=dI):RelV (kV k) u:=by
 rcases Zq h with⟨i,t,rfl,rfl⟩|⟨x,t,rfl,rfl⟩
 .exact⟨t,rfl⟩
 .exact⟨t,rfl⟩
def KV.at:∀{ps:List (Key×V)}{vs:List (Key×Â)}{i:Nat}{k:Key}{x:V},KV ps vs->ps[i]?=dF (k,x)->∃u,vs[i]?=dF (k,u)/\RelV x u:=by
 intro ps vs i k x r;unfold KV at r;induction r generalizing i with
 |nil=>intro h;simp at h
 |@cons p q ps qs h t ih =>
  intro e;cases i with
  |zero =>simp at e;subst e;let⟨q1,q2⟩:=q;let⟨h1,h2⟩:=h;have h1:k=q1:=h1;subst h1;exact⟨q2,rfl,h2⟩
  |succ i=>simpa using ih ⇑e
section
variable {X:Cx}{Á:List (Ê×Obj)}{σ:St}{H:Hp}{s:Ä}{a:Ê}{o:Obj}{ps:List (Key×V)}{es:Array DictEntry}{ep:Nat}
def Wh(I:Inv X Á σ H s)(e:H a=dF (.frz o<|.dK ps))(hd:o.data=.dict es ep):∃vs,KV ps vs/\s.heap.DictAt (Zg X.prog X.w) a vs ep:=by
 let⟨ho,_,_,vs,Ş,o2,es2,ep2,h1,h2,h3,h4⟩:=(show dW X.prog X.w H s.heap a (.frz o<|.dK ps) from I.hok a _ e)
 rw[ho]at h1;cases h1;rw[hd]at h3;cases h3;exact⟨vs,Ş,o,es,ho,h2,hd,h4⟩
end
variable {P:é} {w:Ā} {es:List Expr} {kk:Nat} {tp:Pos} {ds:Array DictEntry} {ep:Nat} {o:Obj} {ps:List (Key×V)}
def Od{K:Frag}(a it:Ê)(hd:o.data=.dict ds ep) :
  Turn P w K (.Tuple es kk tp) (Iti a o ps) [it] it (λi h=>∃ok ov,IsItemIter h it a i ps.length ep ok ov) where
 mem:=by simp
 obj:=λi h st b hb=>by
  let⟨ok,ov,h1⟩:=st;have q:b=it:=⇑hb
  subst q;exact⟨_,h1,λv z=>by cases z⟩
 keep:=λi h h' ⟨ok,ov,h1⟩ k=>⟨ok,ov,k it (by simp) _ h1⟩
 item:=by
  intro X hP hw hK hc i Á s σ H E I hf st hg;subst hP hw hK;let⟨e,hi⟩:=hg;let⟨ok,ov,h1⟩:=st;let⟨vs,Ş,da⟩:=Wh I e hd;have hl:ps.length=vs.length:=Ş.length;have hx:ps[i]?=dF ps[i]:=É hi;let⟨u,hu,ru⟩:=Ş.at (k:=ps[i].1) (x:=ps[i].2) hx;rw[hl]at h1;refine wpAny_pyNext_items_item h1 da hu λkey h3 hk hout hT hsz hkeep=>?_;have hfi:=hf it (by simp);have hit:it<s.heap.objs.size:=Ù h1;have nT:s.heap.objs.size≠it:=Ŷ hit;have aK:=I.fpOk (H':=H) (Ì s.heap.objs.size) I.fresh;refine⟨.ref s.heap.objs.size,rfl,wpAny_letOwnedTupleGo_items (s:={s with heap:=h3}) hout λh4 he4 hs4=>?_⟩;have I4:Inv X Á σ H {s with heap:=h4,toks:=s.toks}:=I.turnedL (t':=s.toks) (ch:=[it]) (λb ob hb q=>hs4.extBut b ob (λz=>hb<|by simp[z])<|hkeep b ob (λz=>hb<|by simp[z]) q) hf;have hT4:h4.get? s.heap.objs.size=dF {cls:=.type "tuple",data:=.seq #[key,u]}:=hs4.extBut _ _ nT hT;let⟨f0,f1,f2,f3,f4,f5⟩:=aK;have I5:Inv X Á σ (upd H s.heap.objs.size<|.tup [kV ps[i].1,ps[i].2]) {s with heap:=h4,toks:=s.toks}:=I4.track f0 I.sz f1 f4 f5 ⟨by show 2<=Ü;decide,[key,u],.cons (Dw hk)<|.cons ru .nil,_,hT4,rfl,_,rfl⟩;refine⟨.ref s.heap.objs.size,_,I5,rfl,⟨s.heap.objs.size,_,_,rfl,f0,hx,rfl⟩,⟨key,u,by rw[hl];exact he4⟩,λb hb=>?_⟩;have q:b=it:=⇑hb
  subst q;rw[dL nT.symm];exact hfi.1
 done:=by
  intro X hP hw hK hc i Á s σ H E I hf st hg;subst hP hw hK;let⟨e,hi⟩:=hg;let⟨ok,ov,h1⟩:=st;let⟨vs,Ş,da⟩:=Wh I e hd;have hl:ps.length=vs.length:=Ş.length;rw[hl]at h1 hi;refine wpAny_pyNext_items_end (I.ok.hd hc) h1 da (Ŧ hi) λh' he'=>⟨rfl,?_⟩
  exact I.turnedL (t':=s.toks) (ch:=[it]) (λb ob hb q=>he' b ob (λz=>hb<|by simp[z]) q) hf
 self:=λA i s Q E st h=>by let⟨ok,ov,h1⟩:=st;exact PySem.W.kcp_self h1 h
abbrev Itk(a:Ê)(o:Obj)(ps:List<|Key×V):It :=
 ⟨λi H=>H a=dF (.frz o<|.dK ps)/\i<ps.length,λi H v H'=>H'=H/\∃k x,ps[i]?=dF (k,x)/\v=kV k,λi H=>H a=dF (.frz o<|.dK ps)/\ps.length<=i⟩
variable {tg:Expr}
def Aw{K:Frag}(a it:Ê)(hd:o.data=.dict ds ep) :
  Turn P w K tg (Itk a o ps) [it] it (λi h=>h.IsKeyIter it a i ps.length ep) where
 mem:=by simp
 obj:=λi h st b hb=>by
  let⟨ob,h1,_,h2⟩:=st;have q:b=it:=⇑hb
  subst q;exact⟨ob,h1,λv z=>by rw[h2]at z;cases z⟩
 keep:=λi h h' st k=>st.at λo e=>k it (by simp) o e
 item:=by intro X hP hw hK hc i Á s σ H E I hf st hg;subst hP hw hK;let⟨e,hi⟩:=hg;let⟨vs,Ş,da⟩:=Wh I e hd;have hl:ps.length=vs.length:=Ş.length;have hx:ps[i]?=dF ps[i]:=É hi;let⟨u,hu,ru⟩:=Ş.at (k:=ps[i].1) (x:=ps[i].2) hx;rw[hl]at st;refine wpAny_pyNext_dict_item st da hu λkey h3 hk st3 hs=>?_;have I3:Inv X Á σ H {s with heap:=h3,toks:=s.toks}:=I.turnedL (t':=s.toks) (ch:=[it]) (λb ob hb q=>hs.extBut b ob (λz=>hb<|by simp[z]) q) hf;let⟨ob,ho,ϰ,hda⟩:=id st3;refine⟨key,rfl,dP (s:={s with heap:=h3,toks:=s.toks}) ho ϰ hda (by decide) ⟨kV ps[i].1,H,I3,Dw hk,⟨rfl,_,_,hx,rfl⟩,?_,λb hb=>(hf b hb).1⟩⟩;show h3.IsKeyIter it a (i+1) ps.length ep;rw[hl];exact st3
 done:=by
  intro X hP hw hK hc i Á s σ H E I hf st hg;subst hP hw hK;let⟨e,hi⟩:=hg;let⟨vs,Ş,da⟩:=Wh I e hd;have hl:ps.length=vs.length:=Ş.length;rw[hl]at st hi;refine wpAny_pyNext_dict_end (I.ok.hd hc) st da (Ŧ hi) λh' he'=>⟨rfl,?_⟩
  exact I.turnedL (t':=s.toks) (ch:=[it]) (λb ob hb q=>he' b ob (λz=>hb<|by simp[z]) q) hf
 self:=λA i s Q E st h=>wpAny_pyIter_keyiter st h
abbrev Li(X:Cx)(J:Ê->Obj->List (Key×V)->It)(td:TE):TI:=λσ H R=>td σ H λx H1=>∃a ps,x=.ref a/\H1 a=dF (.dK ps)/\∀o,(∀o u,X.H₀ a≠dF (.frz o u))->R (J a o ps) (upd H1 a<|.frz o<|.dK ps)
variable {d:Expr} {td:TE}
def Be{Ń ĺ:Pos}(hd:PE X d td)(af:Ğ d "items" X.env (eval d X.env)=eval d X.env)(ai:(Ń.endLine==ĺ.line)=dI) :
  PI X (.Tuple es kk tp) (.Call (.Attribute d "items" Ń) [] [] ĺ) (Li X Iti td):=by
 intro Á s σ H R I h;refine wpAny_Call_method0_late af ai<|thn (hd Á s σ H _ I h) λv s1 ⟨x,H1,I1,r1,a,ps,ex,ea,q1⟩=>?_;subst ex;obtain rfl:v=Value.ref a:=r1;let⟨t1,t2,t3⟩:=Pn I1<|.inl ⟨ps,.inl ea⟩;refine⟨"dict","dict.items",PySem.F.plainAttrs_dict,PySem.F.slot_dict_items,PySem.F.type_dict_items,t1,t2,Calls.callWith_builtin rfl<|PySem.evalArgs_none ?_⟩;let⟨z,hsm,vs,Ş,dd⟩:=Jk I1.hok ea;refine Ϗ PySem.F.slot_dict_items dd.typeIs PySem.F.entry_dict_items (PySem.F.args_dict_items_1 _) (meets_dict_items (Zg X.prog X.w) a hsm) ⟨⟨vs,dd⟩,?_⟩;have I2:Inv X Á σ H1 {s1 with heap:=s1.heap.push {cls:=.type "dict_items",data:=.fields #[.ref a]}}:=I1.kept (t':=s1.toks) λb o e=>Å _ e;let⟨z2,hsm2,vs2,rel2,cu⟩:=Jk I2.hok ea;let⟨ep,da⟩:=cu.dictAt;refine wpAny_pyIter_items (s:={s1 with heap:=s1.heap.push {cls:=.type "dict_items",data:=.fields #[.ref a]}}) (d:=a) ⟨_,Ý _ rfl,rfl,rfl⟩ da ?_;have I3:=I2.kept (t':=s1.toks) (h':=(s1.heap.push {cls:=.type "dict_items",data:=.fields #[.ref a]}).push {cls:=.type "dict_itemiterator",data:=.fields #[.none,.bool dJ,.ref a,.int 0 0,.int vs2.length 0,.int ep 0,.none,.none]}) λb o e=>Å _ e;let⟨ob,ds,ho,_,hdat,_⟩:=da;have I4:=I3.freeze ea<|Å _ ho;refine⟨_,[_],_,_,_,rfl,I4,Od a _ hdat,⟨.none,.none,?_⟩,λb hb=>?_,q1 ob λo u z=>by have:=I1.base.frzs a o u z;rw[ea]at this;cases this⟩
 .rw[rel2.length];exact Ý _ rfl
 .have e:b=(s1.heap.push {cls:=.type "dict_items",data:=.fields #[.ref a]}).objs.size:=⇑hb
  subst e;have hn:=I2.hok.fresh<|Ì (s1.heap.push {cls:=.type "dict_items",data:=.fields #[.ref a]}).objs.size;exact I2.fpOk (Ì _) (by rw[dL<|by intro z;rw[z]at hn;rw[ea]at hn;cases hn];exact hn)
def FJ(hd:PE X d td):PI X tg d<|Li X Itk td:=by
 intro Á s σ H R I h;refine thn (hd Á s σ H _ I h) λv s1 ⟨x,H1,I1,r1,a,ps,ex,ea,q1⟩=>?_;subst ex;obtain rfl:v=Value.ref a:=r1;let⟨z,hsm,vs,Ş,dd⟩:=Jk I1.hok ea;let⟨ep,da⟩:=dd.dictAt;refine wpAny_pyIter_dict hsm da ?_;have I2:=I1.kept (t':=s1.toks) (h':=s1.heap.push {cls:=.type "dict_keyiterator",data:=.fields #[.ref a,.int 0 0,.int vs.length 0,.int ep 0]}) λb o e=>Å _ e;let⟨ob,ds,ho,_,hdat,_⟩:=da;have I3:=I2.freeze ea<|Å _ ho;refine⟨_,[_],_,_,_,rfl,I3,Aw a _ hdat,⟨_,Ý _ rfl,rfl,by rw[Ş.length];rfl⟩,λb hb=>?_,q1 ob λo u z=>by have:=I1.base.frzs a o u z;rw[ea]at this;cases this⟩;have e:b=s1.heap.objs.size:=⇑hb
 subst e;have hn:=I1.hok.fresh<|Ì s1.heap.objs.size;exact I1.fpOk (Ì _) (by rw[dL<|by intro z;rw[z]at hn;rw[ea]at hn;cases hn];exact hn)
abbrev TupsH(I S:Ê)(items:Array Â)(val:Nat->List Int)(h:ć):Prop:=∀i v,items[i]?=dF v->∃a î,v=.ref a/\a≠I/\a≠S/\ϱ h a î/\ė î.toList (val i)
def TupsH.keep{I S:Ê}{items:Array Â}{val:Nat->List Int}{h h':ć}(t:TupsH I S items val h)(k:∀b o,b≠I->b≠S->h.get? b=dF o->h'.get? b=dF o):TupsH I S items val h':=λi v e=>by let⟨a,î,h1,h2,h3,⟨o,q1,q2⟩,h5⟩:=t i v e;exact⟨a,î,h1,h2,h3,⟨o,k a o h2 h3 q1,q2⟩,h5⟩
abbrev btL(val:Nat->List Int)(i j:Nat):Bool:=HT.lexLt (val i)<|val j
section
variable {prog:é}{w:Ā}{A:ď}{R:dh->Ä->Prop}{I l:Ê}{items:Array Â}{val:Nat->List Int}{kw:List (Str×Â)}{fp:List Ê}{St:Nat->ć->Prop}
def U7(W:Walks prog w A.in1 I fp [I] items.size (λi v=>items[i]?=dF v) St)(hu:A.units+1<Ĥ)(S:Ê)(hSI:S≠I)(hSf:S∉fp) :
  ∀(k j:Nat) (s:Ä) (vb:Â) (c:Nat),items.size - (j+1)=k->j+1<=items.size->St (j+1) s.heap->TupsH I S items val s.heap->items[ē (btL val) j]?=dF vb->
  s.heap.get? S=dF {cls:=.type "list",dict:=dG,data:=.seq #[vb,vb] c,slots:=#[]}->
  (∀v h' tk,items[ē (btL val)<|items.size - 1]?=dF v->(∀b o,b≠I->b≠S->s.heap.get? b=dF o->h'.get? b=dF o)->R (.ok<|.ret v) {s with heap:=h',toks:=tk})->
  codeAny (Þ prog w) A (.builtin "min.loop" ⟨[.ref I,.none,.ref S],kw⟩) R s:=by
 have aM:(toString "min" ++ toString ".loop" : String) = "min.loop":=by decide
 have hSw:S∉[I]:=by simp[hSI]
 intro k;induction k with
 |zero =>
  intro j s vb c hk hj ł hT hPb hS hR;have hin:j+1=items.size:=by lia
  refine η PySem.F.entry_min_loop ?_;rw[Ũ PySem.F.plain_min_loop _];show wpAny _ A.in1 (ϧ (.ref S) >>= _) _ _ s;refine Ã<|ū hS rfl ?_;show wpAny _ A.in1 (tryCatch (ϵ<|.ref I) _ >>= _) _ _ s;refine Ã<|π<|W.done s _ _ (hin▸ł) λh' tk bg=>?_;have hS':=bg S _ hSw hS;show wpAny _ A.in1 (updateSeq S (λ_=>#[]) >>= _) _ _ _;refine Ã ?_;refine bp hS' rfl<|Ã<|bc<|Õ ?_;refine hR vb _ tk (by rw[<-hin];exact hPb) λb o hbw hbS e=>(þ _ _<|Ne.symm hbS).trans (bg b o ⇑hbw e)
 |succ k ih =>
  intro j s vb c hk hj ł hT hPb hS hR;have Ω:j+1<items.size:=by lia
  refine η PySem.F.entry_min_loop ?_;rw[Ũ PySem.F.plain_min_loop _];show wpAny _ A.in1 (ϧ (.ref S) >>= _) _ _ s;refine Ã<|ū hS rfl ?_;show wpAny _ A.in1 (tryCatch (ϵ<|.ref I) _ >>= _) _ _ s;refine Ã<|π<|W.item (j+1) s _ _ Ω ł λv h' tk hP hst' bg=>?_;have hS':=bg S _ hSw hS;have de:TupsH I S items val h':=hT.keep λb o h1 _ e=>bg b o ⇑h1 e;have hP:items[j+1]?=dF v:=hP;let⟨a,î,rfl,_,_,pa,ia⟩:=de _ _ hP;let⟨b0,ae,rfl,_,_,pb,ib⟩:=de _ _ hPb;show wpAny _ A.in1 (tryCatch (ŉ [.ref a,.ref a]<|ê .Lt (.ref a) (.ref b0) >>= _) _ >>= _) _ _ _;refine Ã<|π<|Ł<|Ã<|HT.lt_tupInts pa pb ia ib hu ?_;refine Ã<|Ł<|ĉ ?_;refine Ã<|bc<|Õ ?_;cases hb:HT.lexLt (val<|j+1) (val<|ē (btL val) j)with
  |true =>
   have bx:btL val (j+1) (ē (btL val) j)=dI:=hb;simp only[if_true];refine Ã ?_;refine bp hS' rfl<|Ã<|bc ?_;rw[aM];refine Õ ⟨ϳ PySem.F.plain_min_loop _,ih (j+1) _ (.ref a) _ (by lia) Ω (W.frame _ _ _ hst' λb hbf o e=>?_) (de.keep λb o _ h2 e=>(þ _ _<|Ne.symm h2).trans e) (by simp only[ē,bx,if_true];exact hP) (Ť _ hS' rfl)
     λv' h'' tk'' hP' hk''=>?_⟩
   .exact(þ _ _ λh:S=b=>hSf<|by rw[h];exact hbf).trans e
   .exact hR v' h'' tk'' hP' λb o hbw hbS e=>hk'' b o hbw hbS ((þ _ _<|Ne.symm hbS).trans<|bg b o ⇑hbw e)
  |false =>have bx:btL val (j+1) (ē (btL val) j)=dJ:=hb;simp only[Ċ,if_false];refine Ã<|bc ?_;rw[aM];refine Õ ⟨ϳ PySem.F.plain_min_loop _,ih (j+1) _ (.ref b0) c (by lia) Ω hst' de (by simp only[ē,bx,Ċ,if_false];exact hPb) hS' λv' h'' tk'' hP' hk''=>?_⟩;exact hR v' h'' tk'' hP' λb o hbw hbS e=>hk'' b o hbw hbS (bg b o ⇑hbw e)
variable {s:Ä} {c:Nat}
def NY(W:Walks prog w A.in1 I fp [I] items.size (λi v=>items[i]?=dF v) St)(hu:A.units+1<Ĥ)(S:Ê)(hSI:S≠I)(hSf:S∉fp)(hn:0<items.size)(ł:St 0 s.heap)(hT:TupsH I S items val s.heap)
  (hS:s.heap.get? S=dF {cls:=.type "list",dict:=dG,data:=.seq #[] c,slots:=#[]})
  (hR:∀v h' tk,items[ē (btL val)<|items.size - 1]?=dF v->(∀b o,b≠I->b≠S->s.heap.get? b=dF o->h'.get? b=dF o)->R (.ok<|.ret v) {s with heap:=h',toks:=tk}) :
  codeAny (Þ prog w) A (.builtin "min.loop" ⟨[.ref I,.none,.ref S],kw⟩) R s:=by
 have aM:(toString "min" ++ toString ".loop" : String) = "min.loop":=by decide
 have hSw:S∉[I]:=by simp[hSI]
 refine η PySem.F.entry_min_loop ?_;rw[Ũ PySem.F.plain_min_loop _];show wpAny _ A.in1 (ϧ (.ref S) >>= _) _ _ s;refine Ã<|ū hS rfl ?_;show wpAny _ A.in1 (tryCatch (ϵ<|.ref I) _ >>= _) _ _ s;refine Ã<|π<|W.item 0 s _ _ hn ł λv h' tk hP hst' bg=>?_;have hS':=bg S _ hSw hS;have de:TupsH I S items val h':=hT.keep λb o h1 _ e=>bg b o ⇑h1 e;show wpAny _ A.in1 (updateSeq S (λ_=>#[v,v]) >>= _) _ _ _;refine Ã ?_;refine bp hS' rfl ?_;rw[aM];refine Õ ⟨ϳ PySem.F.plain_min_loop _,U7 W hu S hSI hSf _ 0 _ v _ rfl hn (W.frame _ _ _ hst' λb hbf o e=>?_) (de.keep λb o _ h2 e=>(þ _ _<|Ne.symm h2).trans e) hP (Ť _ hS' rfl) λv' h'' tk'' hP' hk''=>?_⟩
 .exact(þ _ _ λh:S=b=>hSf<|by rw[h];exact hbf).trans e
 .exact hR v' h'' tk'' hP' λb o hbw hbS e=>hk'' b o hbw hbS ((þ _ _<|Ne.symm hbS).trans<|bg b o ⇑hbw e)
def UW(hh:A.handled=dG)(hlI:l≠I)(S:Ê)(hSI:S≠I)(hn:items.size=0){nm:Str}{d:Â}(ł:s.heap.IsListIter I l 0/\s.heap.IsList l items)
  (hS:s.heap.get? S=dF {cls:=.type "list",dict:=dG,data:=.seq #[] c,slots:=#[]})
  (hR:∀h' tk,(∀b o,b≠I->s.heap.get? b=dF o->h'.get? b=dF o)->R (.ok<|.ret d) {s with heap:=h',toks:=tk}) :
  codeAny (Þ prog w) A (.builtin "min.loop" ⟨[.ref I,.none,.ref S],[(nm,d)]⟩) R s:=by
 have W:=Walks.list (prog:=prog) (w:=w) (A:=A.in1) hh I l hlI items;refine η PySem.F.entry_min_loop ?_;rw[Ũ PySem.F.plain_min_loop _];show wpAny _ A.in1 (ϧ (.ref S) >>= _) _ _ s;refine Ã<|ū hS rfl ?_;show wpAny _ A.in1 (tryCatch (ϵ<|.ref I) _ >>= _) _ _ s;refine Ã (π<|W.done s _ _ (by rw[hn];exact ł) λh' tk bg=>?_);show wpAny _ A.in1 (rule _ >>= λ_=>ret d) _ _ _;exact Ã (wpAny_rule<|Õ<|hR h' tk λb o hb e=>bg b o ⇑hb e)
end
def AT(a:Â):argsOk "min" ⟨[a],[(fK "default",.none)]⟩:=by unfold argsOk;kernel_rfl
def JG(bt:Nat->Nat->Bool):∀k,ē bt k<=k
 |0=>Ì _
 |k+1=>by
  unfold ē;split
  .exact Ì _
  .exact Nat.le_succ_of_le<|JG bt k
def MD:∀{xs:List V}{us:List Â}{i:Nat}{u:Â},fo xs us->us[i]?=dF u->∃x,xs[i]?=dF x/\RelV x u
 |_,_,_,_,.nil,e=>by simp at e
 |_,_,0,_,.cons r _,e=>by simp at e;subst e;exact⟨_,rfl,r⟩
 |_,_,i+1,_,.cons _ t,e=>by let⟨x,h1,h2⟩:=MD (i:=i) t ⇑e;exact⟨x,⇑h1,h2⟩
section
variable {X:Cx}
def U2{Á:List (Ê×Obj)}{s:Ä}{σ:St}{H:Hp}{a:Ê}{xs:List V}{Ė:List (List Int)}{Q:VK}(hc:X.calm=dI)(hu:X.A.units+1<Ĥ)(I:Inv X Á σ H s)(hl:fk X.K H a xs)(hr:Ė.length=xs.length)
  (ht:∀i,i<Ė.length->∃p,xs[i]?=dF (.ref p)/\fm X.K H p ((Ė.getD i []).map V.int))
  (q0:xs=[]->Q .non H) (q1:xs≠[]->∀x,xs[ē (btL λi=>Ė.getD i [])<|xs.length - 1]?=dF x->Q x H) :
  wpAny (Þ X.prog X.w) X.A (call (.builtin "min") [.ref a] [(fK "default",.none)]) (EP X Á σ Q) X.xe s:=by
 have aM:(toString "min" ++ toString ".loop" : String) = "min.loop":=by decide
 let⟨î,rv,pl,hz⟩:=I.list hl;have hlen:=rv.length;have cL:=pl.isList;let⟨ol,hol,_⟩:=id cL;have hll:a<s.heap.objs.size:=Ù hol;refine PyProof.Rows.kmk_tree PySem.F.kind_min PySem.F.plain_min PySem.F.entry_min (AT _) ?_;show wpAny _ X.A.in1 (Builtin.Builtins.bindParams "min" ["key","default"] 0 ⟨[],[(fK "default",.none)]⟩ >>= _) _ _ s;refine Ã (wpAny_of_eq (show Builtin.Builtins.bindParams "min" ["key","default"] 0 ⟨[],[(fK "default",.none)]⟩=pure [dG,dF .none] from rfl) ?_);refine Ã<|Õ ?_;refine Ã<|Ū cL ?_;refine Ã<|cG ?_<|Ř _;rw[aM];have hS:(s.heap.push {cls:=.type "list_iterator",data:=.fields #[.ref a,.int 0 0]}).objs.size=s.heap.objs.size+1:=size_push' ..;have hlI:a≠s.heap.objs.size:=ë hll;have hSI:(s.heap.push {cls:=.type "list_iterator",data:=.fields #[.ref a,.int 0 0]}).objs.size≠s.heap.objs.size:=by rw[hS];exact Ŷ<|ă _
 have hSl:(s.heap.push {cls:=.type "list_iterator",data:=.fields #[.ref a,.int 0 0]}).objs.size≠a:=by rw[hS];exact Ŷ<|Ĺ hll
 have kk:∀b o,s.heap.get? b=dF o->((s.heap.push {cls:=.type "list_iterator",data:=.fields #[.ref a,.int 0 0]}).push<|Κ "list" #[] 0).get? b=dF o:=λb o e=>Å _<|Å _ e;have gI:((s.heap.push {cls:=.type "list_iterator",data:=.fields #[.ref a,.int 0 0]}).push<|Κ "list" #[] 0).get? s.heap.objs.size=dF {cls:=.type "list_iterator",data:=.fields #[.ref a,.int 0 0]} :=
  Å _ (Ý _ rfl)
 have gS:((s.heap.push {cls:=.type "list_iterator",data:=.fields #[.ref a,.int 0 0]}).push<|Κ "list" #[] 0).get? (s.heap.push {cls:=.type "list_iterator",data:=.fields #[.ref a,.int 0 0]}).objs.size=dF (Κ "list" #[] 0):=Ý _ rfl;have χ:∀b o,s.heap.get? b=dF o->b≠s.heap.objs.size/\b≠(s.heap.push {cls:=.type "list_iterator",data:=.fields #[.ref a,.int 0 0]}).objs.size:=λb o e=>by have:=Ù e;rw[hS];exact⟨ë this,ë<|Ĺ this⟩
 have ł:Heap.IsListIter ((s.heap.push {cls:=.type "list_iterator",data:=.fields #[.ref a,.int 0 0]}).push<|Κ "list" #[] 0) s.heap.objs.size a 0/\Heap.IsList ((s.heap.push {cls:=.type "list_iterator",data:=.fields #[.ref a,.int 0 0]}).push<|Κ "list" #[] 0) a î.toArray:=by refine⟨⟨_,gI,rfl,rfl⟩,?_⟩;let⟨o,e,r⟩:=cL;exact⟨o,kk _ _ e,r⟩
 refine Õ ⟨ϳ PySem.F.plain_min_loop _,?_⟩;by_cases h0:xs=[]
 .have hi:î.toArray.size=0:=by rw[Ë,<-hlen,h0];rfl
  refine UW (I:=s.heap.objs.size) (A:=X.A) (l:=a) (items:=î.toArray) (I.ok.hd hc) hlI _ hSI hi ł gS λh' tk hk=>?_;exact⟨.non,H,I.kept (t':=tk) λb o e=>hk b o (χ b o e).1<|kk b o e,rfl,q0 h0⟩
 .have hi:0<î.toArray.size:=by
   rw[Ë,<-hlen];exact ϕ.mpr h0
  refine NY (A:=X.A) (items:=î.toArray) (val:=λi=>Ė.getD i []) (Walks.list (A:=X.A.in1) (I.ok.hd hc) s.heap.objs.size a hlI î.toArray) hu _ hSI (λz=>(Æ.mp z).elim hSI λz=>hSl<|Ø.mp z) hi ł (λi v e=>?_) gS λv h' tk hv hk=>?_
  .have e:î[i]?=dF v:=⇑e
   have hi':i<Ė.length:=by rw[hr,hlen];exact(Ð.mp e).1
   let⟨p,cb,db⟩:=ht i hi';let⟨x,hx,rx⟩:=MD rv e;rw[cb]at hx;cases hx;obtain rfl:v=Value.ref p:=rx;let⟨tt,r2,⟨o2,e2,rest⟩,_⟩:=I.tuple db;exact⟨p,tt.toArray,rfl,(χ p o2 e2).1,(χ p o2 e2).2,⟨o2,kk _ _ e2,rest⟩,ZN r2⟩
  .have hv:î[ē (btL λi=>Ė.getD i [])<|xs.length - 1]?=dF v:=by rw[hlen];simpa using hv
   let⟨x,hx,rx⟩:=MD rv hv;exact⟨x,H,I.kept (t':=tk) λb o e=>hk b o (χ b o e).1 (χ b o e).2<|kk b o e,rx,q1 h0 x hx⟩
abbrev Rq(K:Frag)(ta:TA):TE:=λσ H Q=>ta σ H λvs H1=>∃a xs,∃Ė:List<|List Int,vs=[.ref a]/\fk K H1 a xs/\Ė.length=xs.length/\
 (∀i,i<Ė.length->∃p,xs[i]?=dF (.ref p)/\fm K H1 p ((Ė.getD i []).map V.int))/\(xs=[]->Q .non H1)/\(xs≠[]->∀x,xs[ē (btL λi=>Ė.getD i [])<|xs.length - 1]?=dF x->Q x H1)
def FH{e:Expr}{ta:TA}{p ç kp kpos:Pos}{kk:Nat}(hc:X.calm=dI)(hu:X.A.units+1<Ĥ)(hg:Gl X "min")(hm:X.mg "min" = dG)(ha:PA X [e] ta)(hs:Î [e] X.env=[(dJ,eval e X.env)]) :
  PE X (.Call (.Name "min" p) [e] [⟨dF "default",.Constant .none kk kp,kpos⟩] ç) (Rq X.K ta):=by
 intro Á s σ H Q I h;refine ĵ (Xs (u:=.builtin "min") I hg hm (by kernel_rfl) ?_);refine PyProof.Rows.callWith_kw (e:=e) (rest:=[]) ?_ (by rw[hs];rfl) (by rw[hs];rfl) rfl rfl;refine thn (ha ç Á s σ H _ I h) λus s1 ⟨vs,H1,I1,r1,a,xs,Ė,ev,hl,hr,ht,q0,q1⟩=>?_;subst ev;let⟨u,rfl,ru⟩:=ZL r1;cases ru;refine PyProof.Rows.kws_cons<|thn (CI Á s1 σ H1 (λv H2=>v=.non/\H2=H1) I1 ⟨rfl,rfl⟩) λv s2 ⟨x,H2,I2,r2,e1,e2⟩=>PyProof.Rows.kws_nil ?_;subst e1 e2;obtain rfl:v=Value.none:=r2;exact U2 hc hu I2 hl hr ht q0 q1
def Wa{P:é}{w:Ā}:∀{ns:List Int}{vs:List (Key×Â)}{ħ:List Â},vs.map (·.1)=ns.map Sum.inl->ħ.length=vs.length->(∀(j:Nat) (v:Â),ħ[j]?=dF v->∃(k:Key) (x:Â),vs[j]?=dF (k,x)/\(Zg P w).is k v=dI)->ė ħ ns
 |[],[],[],_,_,_=>.nil
 |[],_::_,_,h,_,_=>by cases h
 |_::_,[],_,h,_,_=>by cases h
 |[],[],_::_,_,h,_=>by cases h
 |_::_,_::_,[],_,h,_=>by cases h
 |n::ns,p::vs,u::ħ,h1,h2,h3=>by rw[Í,Í]at h1;injection h1 with h1 h1';let⟨k,x,e1,e2⟩:=h3 0 u rfl;simp at e1;subst e1;have h1:k=Sum.inl n:=h1;subst h1;obtain⟨t,rfl⟩:∃t,u=Value.int n t:=Dw (k:=Sum.inl n) (u:=u) e2;exact .cons n t (Wa (P:=P) (w:=w) h1' ⇑h2 λj v e=>by simpa using h3 (j+1) v ⇑e)
def Mr(hc:X.calm=dI):dU X (.builtin "sorted") (λxs H Q=>∃p kvs,∃ns:List Int,xs=[.ref p]/\Rd H p (.dK kvs)/\kvs.map (·.1)=ns.map Sum.inl/\ns.length<64/\∀l,H l=dG->Q (.ref l) (upd H l<|.lst<|(sortI ns).map V.int)):=by
 intro Á s σ H xs us Q I r h;let⟨p,kvs,ns,rfl,hp,hk,h64,q⟩:=h;let⟨u,rfl,rx⟩:=ZL r;cases rx;let⟨z,hsm,vs,Ş,dd⟩:=Wl I.hok hp;let⟨ep,da⟩:=dd.dictAt;have hlen:vs.length=ns.length:=by have:=congrArg List.length hk;simpa[Ş.length]using this
 refine Calls.call_function_entry kind_sorted plain_sorted entry_sorted (args_sorted1 _) ?_;unfold Builtin.«sorted»;refine Ã (m:=checkCount "sorted" 1 1 _)<|Õ ?_;refine Ã (PySem.W.kdu_collect (A:=X.A.in1) (PySem.W.kdl_dict (knd:=Zg X.prog X.w) (kvs:=vs) (ep:=ep) hsm) (I.ok.hd hc) da (by rw[<-Ş.length];exact z) λh' tk ħ hkeep hacc=>?_);have hl:ħ.toList.length=vs.length:=by rw[Ű];exact hacc.1
 refine Ã (cG ?_<|by rw[hl,<-Ş.length];exact z);have hI:ė ħ.toList ns:=Wa (P:=X.prog) (w:=X.w) (by rw[<-Ş.keys];exact hk) hl λj v e=>hacc.2 j v (by rw[<-Ι];exact e);have hoL:(h'.push<|Κ "list" ħ.toList.toArray 0).get? h'.objs.size=dF (Κ "list" ħ.toList.toArray 0):=Ý _ rfl;have I1:Inv X Á σ H {s with heap:=h',toks:=tk}:=I.kept hkeep;refine Ã (Ł<|Ĳ slot_list_sort ⟨_,hoL,rfl⟩ entry_list_sort (list_sort_tree hoL hI (by rw[hl,hlen];exact h64) λout bX a1 a2 a3=>⟨_,rfl,?_⟩)<|args_list_sort _);have e:=Kc a2 a3;subst e;let⟨n,he⟩:=sortedHeap_at (out:=out) hoL;refine Õ ⟨_,rfl,.ref h'.objs.size,_,I1.laid (a:=h'.objs.size) (o:=.lst<|(sortI ns).map V.int) (t':=tk) (λb o e=>?_) (Ì _) ?_,rfl,q _<|I1.hok.fresh<|Ì _⟩
 .have e:h'.get? b=dF o:=e;have hb:=Ù e;rw[sortedHeap_old (ë hb)<|by rw[size_push'];exact Ĺ hb];exact Å _ e
 .exact⟨by rw[À,Wj];unfold Ü;lia,out.toList,n,X3 a1,by simpa[Κ]using he⟩
end
end L2
namespace Srt
open PySem.W PyProof.Rows
abbrev ok(n:Nat)(lt:Nat->Nat->Bool){α:Type}:KasT α->(α->Prop)->Prop
 |.ret a,Q=>Q a
 |.ask i j k,Q=>i<n/\j<n/\ok n lt (k<|lt i j) Q
section
variable {n:Nat}{lt:Nat->Nat->Bool}
abbrev K(p:Array Nat)(k:Nat):Nat:=p.getD k 0
end
end Srt
namespace Snd
open PySem L2
variable {i:Inf}{X:Cx}{Φ:fz.Fs}
def M2{H:Hp}:∀{kvs:List (fz.Val×fz.Val)}{ps:List (Key×V)}{ns:List Int},RKs i.K H kvs ps->fz.keysOf kvs=dF ns->ps.map (·.1)=ns.map Sum.inl
 |_,_,ns,.nil,e=>by have e:dF []=dF ns:=e;cases e;rfl
 |(k,v)::kvs,_,ns,.cons (c:=c) hk _ t,e=>by
  have e:fz.dR (k::kvs.map (·.1))=dF ns:=e;cases k with
  |int j =>
   have e:(fz.dR (kvs.map (·.1))).map (j :: ·)=dF ns:=e;let⟨ms,z,rfl⟩:=Ï.mp e;have ih:=M2 (ns:=ms) t z;cases c with
   |inl l =>have hk:j=l:=hk;subst hk;rw[Í,Í,ih]
   |inr _=>exact(show False from hk).elim
  |_=>cases e
def K7:∀{ys:List fz.Val}{ns:List Int},fz.dR ys=dF ns->ys=ns.map .int
 |[],_,e=>by cases e;rfl
 |y::ys,ns,e=>by
  cases y with
  |int j =>let⟨ms,z,rfl⟩:=Ï.mp (show(fz.dR ys).map (j :: ·)=dF ns from e);rw[Í,<-K7 z]
  |_=>cases e
def NV{H:Hp}:∀{xs:List fz.Val}{us:List V}{Ė:List (List Int)},RVs i.K H xs us->fz.rowsOf xs=dF Ė->Ė.length=us.length/\(∀n,n<Ė.length->∃p,us[n]?=dF (.ref p)/\fm i.K H p ((Ė.getD n []).map V.int))/\xs=Ė.map λr=>.tup (r.map .int)
 |_,_,Ė,.nil,e=>by have e:dF []=dF Ė:=e;cases e;exact⟨rfl,λn h=>fI h<|aA _,rfl⟩
 |v::xs,_,Ė,.cons r t,e=>by
  cases v with
  |tup ys =>
   let⟨ns,z1,e⟩:=ß.mp (show(fz.dR ys).bind (λns=>(fz.rowsOf xs).map (ns :: ·))=dF Ė from e);let⟨rs,z2,rfl⟩:=Ï.mp e;let⟨h1,h2,h3⟩:=NV t z2;cases r with
   |tup hp hr =>
    have:=Z0 z1 hr;subst this;refine⟨by rw[Ç,Ç,h1],λn hn=>?_,?_⟩
    .cases n with
     |zero=>exact⟨_,rfl,Zk hp⟩
     |succ n=>exact h2 n ⇑hn
    .rw[Í,<-h3];have:ys=ns.map .int:=K7 z1;rw[this]
  |_=>cases e
def OB:WS i .sortedI (λxs H Q=>(∃p,∃ns:List Int,xs=[.ref p]/\fk i.K H p (ns.map V.int)/\ns.length<64/\∀l,H l=dG->Q (.ref l) (upd H l<|.lst<|(L2.sortI ns).map V.int))\/
    (∃p kvs,∃ns:List Int,xs=[.ref p]/\Rd H p (.dK kvs)/\kvs.map (·.1)=ns.map Sum.inl/\ns.length<64/\∀l,H l=dG->Q (.ref l) (upd H l<|.lst<|(L2.sortI ns).map V.int))):=by
 intro vs G H xs Q Qm g r w c;let⟨v,rfl,w⟩:=YY w;let⟨x,rfl,rx⟩:=r.inv1;have key:∀(ns:List Int),(if ns.length<64 then fz.Rs.new (.lst<|(fz.sortI ns).map .int)else .no).wp G Qm->ns.length<64/\∀l,H l=dG->Q (.ref l) (upd H l<|.lst<|(L2.sortI ns).map V.int):=λns w=>by
  split at w
  .rename_i h64;exact⟨h64,YD g (OC w) c λp hp=>⟨_,dM,RVs.ints _⟩⟩
  .exact(Zh w).elim
 cases v with
 |ref a =>
  cases rx.ref_inv
  replace w:(fz.biSortedI G<|.ref a).wp G Qm:=w
  unfold fz.biSortedI fz.sortAny at w;dsimp only at w;cases z:G a with
  |none=>rw[z]at w;exact(Zh w).elim
  |some o =>
   rw[z]at w;cases o with
   |lst ys =>
    cases z2:fz.dR ys with
    |none=>simp only[z2]at w;exact(Zh w).elim
    |some ns =>simp only[z2]at w;let⟨us,h1,h2⟩:=g a _ z;have:=Z0 z2 h2;subst this;exact .inl ⟨a,ns,rfl,fk.of h1,key ns w⟩
   |dct kvs =>
    cases z2:fz.keysOf kvs with
    |none=>simp only[z2]at w;exact(Zh w).elim
    |some ns =>simp only[z2]at w;let⟨ps,h1,h2⟩:=g a _ z;exact .inr ⟨a,ps,ns,rfl,.inl h1,M2 h2 z2,key ns w⟩
   |_=>exact(Zh w).elim
 |scr ns =>
  cases rx with
  |scr h=>exact .inl ⟨_,ns,rfl,Yk h,key ns w⟩
 |_=>exact(Zh w).elim
end Snd
namespace Snd
open PySem L2 PyProof.Rows
variable {i:Inf}{X:Cx}{Φ:fz.Fs}
def KM:∀(ns:List Int) (a:Int),a∈fz.dedup ns↔a∈ns
 |[],a=>Iff.rfl
 |x::xs,a=>by
  have ih:=KM xs a;unfold fz.dedup;simp only[Æ,Ĝ,ih];constructor
  .rintro(h|h)
   .exact .inl h
   .exact .inr h.1
  .rintro(h|h)
   .exact .inl h
   .by_cases e:a=x
    .exact .inl e
    .exact .inr ⟨h,⇑e⟩
def WO:∀ns:List Int,(fz.dedup ns).Nodup
 |[]=>Ę
 |x::xs=>by unfold fz.dedup;rw[Ć];refine⟨λh=>?_,List.Nodup.sublist ϖ<|WO xs⟩;have:=(Ĝ.mp h).2;simp at this
def JM:∀(ns ħ:List Int),ħ.Nodup->(ns.foldl ϐ ħ).Nodup/\∀a,a∈ns.foldl ϐ ħ↔a∈ħ\/a∈ns
 |[],ħ,h=>⟨h,λa=>by simp⟩
 |x::xs,ħ,h=>by
  have h2:(ϐ ħ x).Nodup/\∀a,a∈ϐ ħ x↔a∈ħ\/a=x:=by
   unfold ϐ;split
   .rename_i hc;have hm:x∈ħ:=⇑hc
    exact⟨h,λa=>⟨.inl,λz=>z.elim id λe=>e▸hm⟩⟩
   .rename_i hc;have hm:x∉ħ:=⇑hc
    refine⟨?_,λa=>by simp⟩;rw[æ];refine⟨h,by simp,λa ha b hb=>?_⟩;rw[Ø.mp hb];exact λe=>hm<|e▸ha
  let⟨h3,h4⟩:=JM xs (ϐ ħ x) h2.1;refine⟨h3,λa=>?_⟩;rw[Ķ,h4,h2.2,Æ];constructor
  .rintro((z|z)|z)
   .exact .inl z
   .exact .inr<|.inl z
   .exact .inr<|.inr z
  .rintro(z|z|z)
   .exact .inl<|.inl z
   .exact .inl<|.inr z
   .exact .inr z
def C6(ns:List Int):(firstMet (λi=>ns.getD i 0) ns.length).Perm<|fz.dedup ns:=by
 have e:(List.range ns.length).map (λi=>ns.getD i 0)=ns:=by
  apply List.ext_getElem
  .simp
  .intro k h1 h2;simp at h1;simp[h1]
 unfold firstMet;rw[e];let⟨h1,h2⟩:=JM ns [] Ę;refine(List.perm_ext_iff_of_nodup h1<|WO ns).mpr λa=>?_;rw[h2,KM];simp
def Fm(ns:List Int):(firstMet (λi=>ns.getD i 0) ns.length).length=(fz.dedup ns).length:=(C6 ns).length_eq
def Di{G:fz.Hs}{H:Hp}{v:fz.Val}{x:V}{ns:List Int}(g:RH i G H)(r:RV i.K H v x)(e:fz.sortOf G v=dF ns):∃p,x=.ref p/\fk i.K H p (ns.map V.int):=by
 cases v with
 |ref a =>let⟨ys,z1,z2⟩:=ß.mp (show(fz.dZ<|G a).bind fz.dR=dF ns from e);let⟨us,h1,h2⟩:=ZE g z1;have:=Z0 z2 h2;subst this;exact⟨a,r.ref_inv,h1⟩
 |scr ms =>
  cases e;cases r with
  |scr h=>exact⟨_,rfl,Yk h⟩
 |_=>cases e
def WH:∀{xs:List fz.Val}{k n:Nat}{v:fz.Val},(fz.enumL k xs)[n]?=dF v->∃x,xs[n]?=dF x/\v=.tup [.int ((k+n:Nat):Int),x]
 |[],k,n,v,h=>by simp[fz.enumL]at h
 |x::xs,k,0,v,h=>by have h:dF (fz.Val.tup [.int k,x])=dF v:=h;cases h;exact⟨x,rfl,rfl⟩
 |x::xs,k,n+1,v,h=>by let⟨y,h1,h2⟩:=WH (xs:=xs) (k:=k+1) (n:=n) (v:=v) (by simpa[fz.enumL]using h);refine⟨y,⇑h1,?_⟩;rw[h2,show k+1+n=k+(n+1) by lia]
def WG:∀(xs:List fz.Val) (k:Nat),(fz.enumL k xs).length=xs.length
 |[],_=>rfl
 |x::xs,k=>by show(fz.enumL (k+1) xs).length+1=xs.length+1;rw[WG xs]
variable {xs:List fz.Val}
def Bw{H0:Hp}{a:Ê}{us:List V}(ha:H0 a=dF (.tup us)\/KT i.K a us)(ra:RVs i.K H0 xs us):ItOk i H0 (Ite i.K a) (λ_=>True) (fz.enumL 0 xs) where
 go:=λn G H v k g e hv=>by let⟨x,hx,rfl⟩:=WH hv;have h1:fm i.K H a us:=Zk<|ha.imp (k.t _ _) id;let⟨x',h5,h6⟩:=(ra.keep k).get hx;refine⟨⟨us,x',h1,h5⟩,λw H' ⟨p,e1,hp,e2⟩=>?_⟩;subst e1;have:=e2 us x' h1 h5;subst this;have k:=ee.new (o:=.tup [.int n,x']) hp;refine⟨k,Xc g hp,.tup (.inl dM)<|.cons ?_<|.cons (h6.keep k) .nil⟩;rw[Ţ];exact .int _
 stop:=λn G H k g e hn=>by have h1:fm i.K H a us:=Zk<|ha.imp (k.t _ _) id;exact⟨us,h1,by rw[<-ra.length,<-WG xs 0];exact hn⟩
def OH{v:fz.Val}(h:fz.tupOf v=dF xs):v=.tup xs:=by
 cases v with
 |tup ys=>cases h;rfl
 |_=>cases h
variable {p:Pos} {ç:Pos} {e:Expr} {m:fz.E}
def F6{es:List Expr}{kk:Nat}{tp:Pos}(hK:X.K=i.K)(hg:Gl X "enumerate")(hm:X.mg "enumerate" = dG)(he:PE X e<|tE X i Φ m)(hs:Î [e] X.env=[(dJ,eval e X.env)]) :
  PI X (.Tuple es kk tp) (.Call (.Name "enumerate" p) [e] [] ç) (tIt X i Φ<|.enum m) :=
 (Bb hg hm (Zo he fi hs) hs).imp λσ H R ⟨env,G,QI,Em,p,w,c⟩=>by
  change tE X i Φ m σ H _;refine one p w λv G1 H1 x k1 p1 rx q=>?_;let⟨xs,e1,q2⟩:=dO q;clear q;cases OH e1;rw[hK];cases rx with
  |tup hp hr=>exact⟨_,rfl,⟨_,Zk hp⟩,c _ _ G1 H1 _ k1 p1.hp (Bw hp hr) q2⟩
def BC{p2 pos2:Pos}(hc:X.calm=dI)(hK:X.K=i.K)(he:PE X e<|tE X i Φ m)(hg:Gl X "len")(hm:X.mg "len" = dG)(hg2:Gl X "set")(hm2:X.mg "set" = dG)(ł:Î [e] X.env=[(dJ,eval e X.env)]) :
  PE X (.Call (.Name "len" p) [.Call (.Name "set" p2) [e] [] pos2] [] ç) (tE X i Φ<|.bi .lenSet<|.cons m .nil):=by
 refine(Zt Av hg hm (by kernel_rfl)<|Zo (XC DV hg2 hm2 (by kernel_rfl) (Zo he fi ł) (he:=ł)) fi).imp λσ H Q ⟨env,G,Qm,Em,p,w,c⟩=>?_;change tE X i Φ m σ H _;refine one p w λv G1 H1 x k1 p1 r q=>?_
 replace q:(fz.biLenSet G1 v).wp G1 Qm:=q
 unfold fz.biLenSet at q;cases z:fz.sortOf G1 v with
 |none=>rw[z]at q;exact(Zh q).elim
 |some ns =>
  rw[z]at q;dsimp only at q;split at q
  .rename_i h4;let⟨a,rfl,hs⟩:=Di p1.hp r z;refine⟨a,ns,rfl,by rw[hK];exact hs,h4,hc,λl S n hl hn=>?_⟩;have hn2:=hn.trans<|Fm ns;clear hn;subst hn2;have k2:ee H1<|upd H1 l<|.set S (fz.dedup ns).length:=ee.new hl;refine⟨l,S,_,rfl,dM,?_⟩;exact c _ G1 _ _ (k1.trans k2) (Xc p1.hp hl) (.int _)<|Zi q
  .exact(Zh q).elim
end Snd
namespace L2
open PySem PySem.Spec PyProof.Rows
open AutoSeq1 (wpAny_loadPart') in
def Lv(l:Ê)(items:Array Â)(n:Nat)(dct:Option Ê)(sl:Array<|Option Â) :
  Meets (Builtin.«enumerate.__new__» ⟨[.type "enumerate",.ref l],[]⟩) (λ_ R s=>s.heap.get? l=dF { cls:=.type "list",dict:=dct,data:=.seq items n,slots:=sl }/\
    R (.ok<|.ret<|.ref (s.heap.push {cls:=.type "list_iterator",data:=.fields #[.ref l,.int 0 0]}).objs.size)
      { s with heap:=(s.heap.push { cls:=.type "list_iterator",data:=.fields #[.ref l,.int 0 0] }).push { cls:=.type "enumerate",data:=.fields #[.none,.bool dJ,.ref s.heap.objs.size,Ϸ 0,.none,.none] } }) :=
 .of_wp λprog w A R s h=>by
  let⟨hp,g,d,tk,os⟩:=s;let⟨hl,h⟩:=h;have hsub:=sub_enumerate;have hL:Heap.IsList (Shared.heap ⟨hp,g,d,tk,os⟩) l items:=⟨_,hl,rfl,n,rfl⟩
  wp_walk using ÿ hl
  refine wpAny_stack_any λst=>Õ ?_;split
  .rename_i c _ _ _ _ _;cases (c==Value.type "enumerate")<;>(wp_walk using ÿ hl,Ū hL;exact⟨_,rfl,h⟩)
  .wp_walk using ÿ hl,Ū hL;exact⟨_,rfl,h⟩
variable {w:Ā}
def N0{prog:é}{A:ď}{E:Â->Ä->Prop}{s:Ä}{l:Ê}{items:Array Â}{Q:Â->Ä->Prop}(hL:s.heap.IsList l items)
  (h:∀h',IsEnum h' (s.heap.objs.size+1) s.heap.objs.size 0 .none->h'.IsListIter s.heap.objs.size l 0->(∀b o,s.heap.get? b=dF o->h'.get? b=dF o)->Q (.ref<|s.heap.objs.size+1) {s with heap:=h'}) :
  wpAny (Þ prog w) A (call (.type "enumerate") [.ref l]) Q E s:=by
 let⟨⟨c,dct,dt,sl⟩,hl,hc,n,hd⟩:=hL;simp only at hc hd;subst hc hd;refine callType_new F.called_enumerate (by decide) (F.typeCall_enumerate_1 _) (F.newCall_enumerate_1 _) (λobj=>F.args_object_init_2 obj _) F.entry_enumerate_new (Lv l items n dct sl) ⟨hl,?_⟩;have hz:(s.heap.push {cls:=.type "list_iterator",data:=.fields #[.ref l,.int 0 0]}).objs.size=s.heap.objs.size+1:=Ŏ ..;have hg:=Ý (s.heap.push {cls:=.type "list_iterator",data:=.fields #[.ref l,.int 0 0]}) (o:={cls:=.type "enumerate",data:=.fields #[.none,.bool dJ,.ref s.heap.objs.size,Ϸ 0,.none,.none]}) rfl;rw[hz]at hg;show _/\_;rw[hz];exact⟨⟨_,hg,rfl⟩,h _ hg ⟨_,Å _<|Ý _ rfl,rfl,rfl⟩ λb o x=>Å _<|Å _ x⟩
abbrev ItL(K:Frag)(a:Ê):It :=
 ⟨λi H=>∃xs x,fk K H a xs/\xs[i]?=dF x,λi H v H'=>∃p,v=.ref p/\H p=dG/\∀xs x,fk K H a xs->xs[i]?=dF x->H'=upd H p (.tup [.int i,x]),λi H=>∃xs,fk K H a xs/\xs.length<=i⟩
variable {es:List Expr} {kk:Nat} {tp:Pos}
def OL{P:é}{K:Frag}(a it e:Ê)(ŝ:e≠it) :
  Turn P w K (.Tuple es kk tp) (ItL K a) [e,it] e (λi h=>(∃χ,IsEnum h e it i χ)/\h.IsListIter it a i) where
 mem:=by simp
 obj:=λi h st b hb=>by
  let⟨⟨χ,h1⟩,o2,e2,_,d2⟩:=st;rcases Æ.mp hb with q|q
  .subst q;exact⟨_,h1,λv z=>by cases z⟩
  .have q:b=it:=⇑q
   subst q;exact⟨o2,e2,λv z=>by rw[d2]at z;cases z⟩
 keep:=λi h h' st k=>⟨let ⟨χ,h1⟩:=st.1;⟨χ,k e (by simp) _ h1⟩,st.2.at λo q=>k it (by simp) o q⟩
 item:=by
  intro X hP hw hK hc i Á s σ H E I hf st hg;subst hP hw hK;let⟨xs,x,hq,hx⟩:=hg;let⟨î,rv,pl,hz⟩:=I.list hq;let⟨u,hu,ru⟩:=rv.get hx;have hsz:=rv.length;have hi:i<î.toArray.size:=by rw[Ë];exact(Ð.mp hu).1
  let⟨⟨χ,h1⟩,h2⟩:=st;have hfi:=hf it (by simp);have hai:a≠it:=λz=>by let⟨o,ho,ϰ,_⟩:=h2;let⟨o',Ρ,hcl',_⟩:=pl.isList;rw[z,ho]at Ρ;cases Ρ;rw[ϰ]at hcl';exact fI (Ŕ hcl') (by decide)
  have hae:e∉[it,a]:=λz=>by
   rcases Æ.mp z with z|z
   .exact ŝ z
   .have z:e=a:=⇑z
    let⟨o',Ρ,hcl',_⟩:=pl.isList;rw[<-z,h1]at Ρ;cases Ρ;exact fI (Ŕ hcl') (by decide)
  refine cS (Draws.list (A:=X.A.in1) (I.ok.hd hc) it a hai î.toArray) h1 ⟨h2,pl.isList⟩ hi ŝ hae λv h3 tk hv hout hst3 hT _ hk=>?_;have ev:v=u:=by
   have hv:î[i]?=dF v:=⇑hv
   rw[hu]at hv;exact(í hv).symm
  subst ev;have nT:∀b∈[e,it],s.heap.objs.size≠b:=λb hb z=>by
   rcases Æ.mp hb with q|q
   .exact fI (Ù h1) (by rw[<-q,<-z];exact ą _)
   .have q:b=it:=⇑q
    let⟨o,ho,_⟩:=h2;exact fI (Ù ho) (by rw[<-q,<-z];exact ą _)
  have aK:=I.fpOk (H':=H) (Ì s.heap.objs.size) I.fresh;refine⟨.ref s.heap.objs.size,rfl,bO hout λh4 he4 hs4=>?_⟩;have I4:Inv X Á σ H {s with heap:=h4,toks:=tk+1}:=I.turnedL (t':=tk+1) (ch:=[e,it]) (λb o hb q=>hs4.extBut b o (λz=>hb<|by simp[z])<|hk b o (λz=>hb<|by simp[z]) (λz=>hb<|by simp[z]) q) hf;have hT4:h4.get? s.heap.objs.size=dF {cls:=.type "tuple",data:=.seq #[.int i tk,v]}:=hs4.extBut _ _ (nT e<|by simp) hT;let⟨f0,f1,f2,f3,f4,f5⟩:=aK;have I5:Inv X Á σ (upd H s.heap.objs.size<|.tup [.int i,x]) {s with heap:=h4,toks:=tk+1}:=I4.track f0 I.sz f1 f4 f5 ⟨by show 2<=Ü;decide,[.int i tk,v],.cons ⟨tk,rfl⟩<|.cons ru .nil,_,hT4,rfl,_,rfl⟩;refine⟨.ref s.heap.objs.size,_,I5,rfl,⟨s.heap.objs.size,rfl,f0,λys y hy hyi=>?_⟩,⟨⟨v,⇑he4⟩,hst3.1.at λo q=>hs4.extBut it o (Ne.symm ŝ) q⟩,λb hb=>?_⟩
  .have ey:ys=xs:=I.list_inj hy hq;rw[ey,hx]at hyi;rw[í hyi]
  .rw[dL (nT b hb).symm];exact(hf b hb).1
 done:=by
  intro X hP hw hK hc i Á s σ H E I hf st hg;subst hP hw hK;let⟨xs,hq,hx⟩:=hg;let⟨î,rv,pl,hz⟩:=I.list hq;have hl:=rv.length;let⟨⟨χ,h1⟩,h2⟩:=st;have hai:a≠it:=λz=>by let⟨o,ho,ϰ,_⟩:=h2;let⟨o',Ρ,hcl',_⟩:=pl.isList;rw[z,ho]at Ρ;cases Ρ;rw[ϰ]at hcl';exact fI (Ŕ hcl') (by decide)
  have hT:s.TypeIs (.ref e) "enumerate":=⟨_,h1,rfl⟩
  unfold ϵ;refine Ã<|wpAny_attempt<|ĩ (name:=fK "__next__") hT F.slot_enumerate_next<|Ĳ F.slot_enumerate_next hT F.entry_enumerate_next ?_<|F.args_enumerate_next_1 _;show wpAny _ _ (field (.ref e) 2 >>= _) _ _ _;refine Ã<|ı h1 rfl (x:=.ref it) rfl ?_;refine Ã (wpAny_nextOf_list_end (A:=X.A.in1) (I.ok.hd hc) h2 pl.isList (by simp;lia) λh' x he' hx'=>?_);let⟨o,ho,ϰ⟩:=hx';refine Ã<|wpAny_isInstance (T:="StopIteration") (b:=dI) ⟨o,ho,ϰ⟩ isSubtype_stop<|Õ ⟨rfl,?_⟩;exact I.turnedL (t':=s.toks) (ch:=[it]) (λb ob hb q=>he' b ob (λz=>hb<|by simp[z]) q) λb hb=>hf b<|à _ hb
 self:=λA i s Q E st h=>by let⟨⟨χ,h1⟩,_⟩:=st;exact Δ h1 h
section
variable {X:Cx}
abbrev Im(K:Frag)(ta:TA):TI:=λσ H R=>ta σ H λvs H1=>∃a,vs=[.ref a]/\(∃xs,fk K H1 a xs)/\R (ItL K a) H1
def Dm{p ç:Pos}{e:Expr}{ta:TA}(hg:Gl X "enumerate")(hm:X.mg "enumerate" = dG)(ha:PA X [e] ta)(hs:Î [e] X.env=[(dJ,eval e X.env)]:=by rfl) :
  PI X (.Tuple es kk tp) (.Call (.Name "enumerate" p) [e] [] ç) (Im X.K ta):=by
 intro Á s σ H R I h;refine Call_ (Xs (u:=.type "enumerate") I hg hm (by kernel_rfl)<|PyProof.Rows.callWith_type1 (T:="enumerate") (thn (ha ç Á s σ H _ I h) λus s1 ⟨vs,H1,I1,r1,q1⟩=>?_) hs rfl);let⟨a,e1,⟨xs,hq⟩,q⟩:=q1;subst e1;let⟨u,rfl,ru⟩:=ZL r1;cases ru;let⟨î,rv,pl,hz⟩:=I1.list hq;refine N0 pl.isList λh2 he2 cY hk2=>?_;have I2:Inv X Á σ H1 {s1 with heap:=h2}:=I1.kept (t':=s1.toks) hk2;refine Δ he2 ⟨s1.heap.objs.size+1,[s1.heap.objs.size+1,s1.heap.objs.size],_,_,H1,rfl,I2,OL a s1.heap.objs.size (s1.heap.objs.size+1)<|Ŷ<|ă _,⟨⟨_,he2⟩,cY⟩,λb hb=>?_,q⟩;have bx:s1.heap.objs.size<=b:=by
  rcases Æ.mp hb with z|z
  .rw[z];exact ř _
  .have z:b=s1.heap.objs.size:=⇑z
   rw[z];exact Ì _
 exact I1.fpOk bx<|I1.hok.fresh bx
end
end L2
namespace Snd
open PySem L2
variable {i:Inf}{X:Cx}{Φ:fz.Fs}
def B1{H0:Hp}{a:Ê}{xs:List fz.Val}:ItOk i H0 (ItL i.K a) (λg=>fz.dZ (g a)=dF xs) (fz.enumL 0 xs) where
 go:=λn G H v k g e hv=>by let⟨x,hx,rfl⟩:=WH hv;let⟨us,h1,h2⟩:=ZE g e;let⟨x',h5,h6⟩:=h2.get hx;refine⟨⟨us,x',h1,h5⟩,λw H' ⟨p,e1,hp,e2⟩=>?_⟩;subst e1;have:=e2 us x' h1 h5;subst this;have k:=ee.new (o:=.tup [.int n,x']) hp;refine⟨k,Xc g hp,.tup (.inl dM)<|.cons ?_<|.cons (h6.keep k) .nil⟩;rw[Ţ];exact .int _
 stop:=λn G H k g e hn=>by let⟨us,h1,h2⟩:=ZE g e;exact⟨us,h1,by rw[<-h2.length,<-WG xs 0];exact hn⟩
def BY{es:List Expr}{kk:Nat}{tp p ç:Pos}{e:Expr}{m:fz.E}(hK:X.K=i.K)(hg:Gl X "enumerate")(hm:X.mg "enumerate" = dG)(he:PE X e<|tE X i Φ m)(hs:Î [e] X.env=[(dJ,eval e X.env)]) :
  PI X (.Tuple es kk tp) (.Call (.Name "enumerate" p) [e] [] ç) (tIt X i Φ<|.enumL m) :=
 (Dm hg hm (Zo he fi hs) hs).imp λσ H R ⟨env,G,QI,Em,p,w,c⟩=>by change tE X i Φ m σ H _;refine one p w λv G1 H1 x k1 p1 rx q=>?_;let⟨a,e1,q2⟩:=dO q;clear q;let⟨xs,e2,q3⟩:=dO q2;cases XR e1;cases rx.ref_inv;rw[hK];let⟨us,h1,_⟩:=ZE p1.hp e2;exact⟨_,rfl,⟨_,h1⟩,c _ _ G1 H1 _ k1 p1.hp B1 q3⟩
end Snd
namespace L2
open PySem PySem.Spec PyProof.Rows PySem.W
def OJ{vs:List Â}{ss:List Str}(h:StrsAre vs ss):fo (ss.map V.str) vs:=by
 induction h with
 |nil=>exact .nil
 |cons y t _ ih=>exact .cons ⟨t,rfl⟩ ih
def Kq{X:Cx}:dU X (.builtin "sorted") λxs H Q=>∃p,∃a b:Str,xs=[.ref p]/\fm X.K H p [.str a,.str b]/\∀l ss,H l=dG->ss.Perm [a,b]->sortedS ss=dI->Q (.ref l) (upd H l<|.lst<|ss.map V.str):=by
 intro Á s σ H xs us Q I r h;let⟨p,a,b,rfl,hq,q⟩:=h;let⟨u,rfl,rx⟩:=ZL r;cases rx;let⟨î,rv,⟨o,e1,e2,n,e3⟩,hz⟩:=I.tuple hq;have st:StrsAre î [a,b]:=by
  cases rv with
  |cons r1 r2 =>
   cases r2 with
   |cons r3 r4 =>cases r4;let⟨t1,rfl⟩:=r1;let⟨t2,rfl⟩:=r3;exact .cons _ _<|.cons _ _ .nil
 have hl:î.length=2:=rv.length.symm;refine Calls.call_function_entry kind_sorted plain_sorted entry_sorted (args_sorted1 _) ?_;unfold Builtin.«sorted»;refine Ã (m:=checkCount "sorted" 1 1 _)<|Õ ?_;refine Ã (wpAny_collect_seq p (T:="tuple") (.inr rfl) e1 e2 e3 (λh1 k1=>?_)<|by rw[Ë,hl,ţ];decide);have I1:Inv X Á σ H {s with heap:=h1}:=I.kept (t':=s.toks) k1;refine Ã (cG ?_<|by rw[hl,ţ];decide);have hoL:(h1.push<|Κ "list" î.toArray 0).get? h1.objs.size=dF (Κ "list" î.toArray 0):=Ý _ rfl;refine Ã (Ł<|Ĳ slot_list_sort ⟨_,hoL,rfl⟩ entry_list_sort (list_sort_treeK strKind_oneLt hoL st.keysOf (λv1 v2 rest e=>keyKind_strs<|e▸st) (by lia) λst' p1 p2=>⟨_,rfl,?_⟩)<|args_list_sort _);let⟨ss',s1,s2,s3⟩:=sorted_out_str st p1 p2;let⟨n2,he⟩:=sortedHeap_at (out:=Array.map (λx=>x.snd)<|arrOf st') hoL;refine Õ ⟨_,rfl,?_⟩;refine⟨.ref h1.objs.size,_,I1.laid (a:=h1.objs.size) (o:=.lst<|ss'.map V.str) (t':=s.toks) (λb o e=>?_) (Ì _) ?_,rfl,q _ ss' (I1.hok.fresh<|Ì _) s2 s3⟩
 .have Ω:=Ù e;rw[sortedHeap_old (ë Ω)<|by rw[size_push'];exact Ĺ Ω];exact Å _ e
 .refine⟨by rw[À,s2.length_eq];show 2<=Ü;rw[ţ];decide,(Array.map (λx=>x.snd)<|arrOf st').toList,n2,OJ s1,by rw[Array.toArray_toList];exact he⟩
end L2
namespace Snd
open PySem L2
variable {i:Inf}{X:Cx}{Φ:fz.Fs}
def Du{α:Type}{a b:α}:∀{ss:List α},ss.Perm [a,b]->ss=[a,b]\/ss=[b,a]
 |[],h=>by have:=h.length_eq;cases this
 |[_],h=>by have:=h.length_eq;cases this
 |[x,y],h=>by
  have hx:x∈[a,b]:=h.mem_iff.mp ì;rcases Æ.mp hx with e|e
  .subst e;have:=ų.mp<|Ů h;exact .inl (by rw[this])
  .have e:x=b:=Ø.mp e;subst e;have:=ų.mp<|Ů<|h.trans<|ϭ _ _ _;exact .inr (by rw[this])
 |_::_::_::_,h=>by have:=h.length_eq;simp at this
def Nm{K:Frag}{H:Hp}:∀l:List String,RVs K H (l.map .str) ((l.map fK).map V.str)
 |[]=>.nil
 |z::l=>.cons (.str z)<|Nm l
def FX{e:Expr}{m:fz.E}{p ç:Pos}(hK:X.K=i.K)(hg:Gl X "sorted")(hm:X.mg "sorted" = dG)(he:PE X e<|tE X i Φ m)(ł:Î [e] X.env=[(dJ,eval e X.env)]):PE X (.Call (.Name "sorted" p) [e] [] ç)<|tE X i Φ<|.sortT m:=by
 refine(Zt Kq hg hm (by kernel_rfl) (Zo he fi ł) (he:=ł)).imp λσ H Q ⟨env,G,Qm,Em,p,w,c⟩=>?_;change tE X i Φ m σ H _;refine one p w λv G1 H1 x k1 p1 r q=>?_;let⟨pr,e1,q1⟩:=dO q;clear q;let⟨s,t⟩:=pr;have ev:v=.tup [.str s,.str t]:=by
  unfold fz.pairS at e1;split at e1
  .cases e1;rfl
  .cases e1
 subst ev;cases r with
 |tup hp hr =>
  cases hr with
  |cons r1 r2 =>
   cases r2 with
   |cons r3 r4 =>
    cases r4;cases r1;cases r3;refine⟨_,_,_,rfl,by rw[hK];exact Zk hp,λl ss hl pm so=>?_⟩;have key:∀l2:List String,l2.Perm [s,t]->ss=l2.map fK->Q (.ref l) (upd H1 l<|.lst<|ss.map V.str):=λl2 pm2 es=>by
     have nb:l2≠["parent","child"]:=λz=>by rw[es,z]at so;exact fI so (by decide)
     rw[es];exact YD p1.hp (q1 l2 pm2 nb) (c.go k1) (λp hp=>⟨_,dM,Nm l2⟩) l hl
    rcases Du pm with e|e
    .exact key [s,t] (.refl _) e
    .exact key [t,s] (ϭ _ _ _) e
variable {i:Inf}{X:Cx}
variable {p:Int×Int}
def Os{v:fz.Val}(h:fz.pairI v=dF p):v=.tup [.int p.1,.int p.2]:=by
 unfold fz.pairI at h;split at h
 .cases h;rfl
 .cases h
def NN{H:Hp}{v:fz.Val}{x:V}(r:RV i.K H v x)(h:fz.pairI v=dF p):∃a,x=.ref a/\fm i.K H a [.int p.1,.int p.2]:=by
 cases Os h;cases r with
 |tup hp hr =>
  cases hr with
  |cons r1 t=>cases t with
   |cons r2 t =>cases t;cases r1.int_inv;cases r2.int_inv;exact⟨_,rfl,Zk hp⟩
def EW:WS i .minP λxs H Q=>∃p k j,xs=[.ref p]/\fm i.K H p [.int k,.int j]/\Q (.int<|if j<k then j else k) H:=by
 intro vs G H xs Q Qm g r w c;let⟨v,rfl,w2⟩:=YY w;let⟨x,rfl,rx⟩:=r.inv1;unfold fz.biMinP at w2;cases z:fz.pairI v with
 |some p =>rw[z]at w2;let⟨a,rfl,hs⟩:=NN rx z;exact⟨a,p.1,p.2,rfl,hs,c _ G H _ (ee.refl H) g (.int _)<|Zi w2⟩
 |none=>rw[z]at w2;exact(Zh w2).elim
def FE:WS i .maxP λxs H Q=>∃p k j,xs=[.ref p]/\fm i.K H p [.int k,.int j]/\Q (.int<|if j > k then j else k) H:=by
 intro vs G H xs Q Qm g r w c;let⟨v,rfl,w2⟩:=YY w;let⟨x,rfl,rx⟩:=r.inv1;unfold fz.biMaxP at w2;cases z:fz.pairI v with
 |some p =>rw[z]at w2;let⟨a,rfl,hs⟩:=NN rx z;exact⟨a,p.1,p.2,rfl,hs,c _ G H _ (ee.refl H) g (.int _)<|Zi w2⟩
 |none=>rw[z]at w2;exact(Zh w2).elim
section
variable {K:Frag}{H H':Hp}
structure fh(H H':Hp):Prop where
 t:∀a xs,H a=dF (.tup xs)->H' a=dF (.tup xs)
 f:∀a o xs,H a=dF (.frz o<|.lst xs)->H' a=dF (.frz o<|.lst xs)
mutual
theorem RV.keepL(k:fh H H'):∀{v:fz.Val}{x:V},RV K H v x->RV K H' v x
 |_,_,.non=>.non
 |_,_,.bl b=>.bl b
 |_,_,.int i=>.int i
 |_,_,.str s=>.str s
 |_,_,.tup (.inl e) r=>.tup (.inl<|k.t _ _ e)<|RVs.keepL k r
 |_,_,.tup (.inr e) r=>.tup (.inr e)<|RVs.keepL k r
 |_,_,.ref a=>.ref a
 |_,_,.scr (.inl ⟨o,e⟩)=>.scr<|.inl ⟨o,k.f _ _ _ e⟩
 |_,_,.scr (.inr e)=>.scr<|.inr e
 |_,_,.key e=>.key<|k.t _ _ e
theorem RVs.keepL(k:fh H H'):∀{vs:List fz.Val}{xs:List V},RVs K H vs xs->RVs K H' vs xs
 |_,_,.nil=>.nil
 |_,_,.cons r t=>.cons (RV.keepL k r)<|RVs.keepL k t
end
def RKs.keepL(k:fh H H'):∀{kvs:List (fz.Val×fz.Val)}{ps:List (Key×V)},RKs K H kvs ps->RKs K H' kvs ps
 |_,_,.nil=>.nil
 |_,_,.cons a r t=>.cons a (r.keepL k)<|RKs.keepL k t
def RTs.keepL(k:fh H H'):∀{kvs:List (fz.Val×fz.Val)}{ps:List (List Key×V)},RTs K H kvs ps->RTs K H' kvs ps
 |_,_,.nil=>.nil
 |_,_,.cons r t=>.cons (r.keepL k)<|RTs.keepL k t
def RFs.keepL(k:fh H H'):∀{fs:List (String×fz.Val)}{ps:List (Str×V)},RFs K H fs ps->RFs K H' fs ps
 |_,_,.nil=>.nil
 |_,_,.cons r t=>.cons (r.keepL k)<|RFs.keepL k t
def REn.keepL{env:fz.Env}{σ:St}(r:REn K H env σ)(k:fh H H'):REn K H' env σ:=⟨r.len,λi v e=>by
  let⟨x,h1,h2⟩:=r.get i v e
  exact⟨x,h1,h2.keepL k⟩⟩
variable {a:Ê}
def RO.moveL{o:fz.Ob}(r:RO i H a o)(k:fh H H')(e:H' a=H a):RO i H' a o:=by
 cases o with
 |lst xs=>let⟨vs,q,r⟩:=r;exact⟨vs,e.trans q,r.keepL k⟩
 |dct kvs=>let⟨ps,q,r⟩:=r;exact⟨ps,e.trans q,r.keepL k⟩
 |ins C fs=>let⟨c,dx,ps,h0,h,q,r⟩:=r;exact⟨c,dx,ps,h0,h,e.trans q,r.keepL k⟩
 |exc C=>let⟨c,h,q⟩:=r;exact⟨c,h,e.trans q⟩
 |frz kvs=>let⟨o,ps,q,r⟩:=r;exact⟨o,ps,e.trans q,r.keepL k⟩
 |dtp kvs=>let⟨ps,q,r⟩:=r;exact⟨ps,e.trans q,r.keepL k⟩
variable {o:Obj} {ps:List (Key×V)}
def XF(e:H a=dF (.frz o<|.dK ps)):fh H (upd H a<|.dK ps) :=
 ⟨λb xs q=>by rw[dL<|by rintro rfl;rw[e]at q;cases q];exact q,λb p xs q=>by rw[dL<|by rintro rfl;rw[e]at q;cases q];exact q⟩
def RH.thaw{G:fz.Hs}{kvs:List (fz.Val×fz.Val)}(g:RH i G H)(e:H a=dF (.frz o<|.dK ps))(r:RKs i.K H kvs ps):RH i (fz.upd G a<|.dct kvs)<|upd H a<|.dK ps:=λb p q=>by
 by_cases hb:b=a
 .subst hb;rw[fz.dM]at q;cases q;exact⟨ps,dM,r.keepL<|XF e⟩
 .rw[fz.dL hb]at q;exact(g b p q).moveL (XF e)<|dL hb
def RKs.len:∀{kvs:List (fz.Val×fz.Val)}{ps:List (Key×V)},RKs K H kvs ps->kvs.length=ps.length
 |_,_,.nil=>rfl
 |_,_,.cons _ _ t=>by rw[Ç,Ç,RKs.len t]
def RKs.at:∀{kvs:List (fz.Val×fz.Val)}{ps:List (Key×V)}{n:Nat}{c:Key}{x:V},RKs K H kvs ps->ps[n]?=dF (c,x)->∃k v,kvs[n]?=dF (k,v)/\WT k c/\RV K H v x
 |_,_,n,_,_,.nil,e=>by simp at e
 |_,_,0,_,_,.cons hk r _,e=>by simp at e;let⟨rfl,rfl⟩:=e;exact⟨_,_,rfl,hk,r⟩
 |_,_,n+1,_,_,.cons _ _ t,e=>by let⟨k,v,h1,h2⟩:=RKs.at (n:=n) t ⇑e;exact⟨k,v,⇑h1,h2⟩
def D3{k:fz.Val}{c:Key}(h:WT k c):RV K H k<|kV c:=by
 cases k with
 |int j=>cases c with
  |inl l=>have h:j=l:=h;subst h;exact .int _
  |inr _=>exact(show False from h).elim
 |str s=>cases c with
  |inl _=>exact(show False from h).elim
  |inr t=>have h:t=fK s:=h;subst h;exact .str _
 |_=>exact(show False from h).elim
end
variable {H0:Hp} {a:Ê} {o:Obj} {ps:List (Key×V)} {kvs:List (fz.Val×fz.Val)}
def Bg(e0:H0 a=dF (.frz o<|.dK ps))(r0:RKs i.K H0 kvs ps):ItOk i H0 (Iti a o ps) (λg=>g a=dF (.frz kvs)) (kvs.map<|fz.itemOf dJ) where
 go:=λn G H v k g e hv=>by
  have e1:=k.f _ _ _ e0;rw[Ó]at hv;let⟨p,hp,rfl⟩:=Ï.mp hv;have hn:n<ps.length:=by rw[<-r0.len];exact(Ð.mp hp).1
  refine⟨⟨e1,hn⟩,λx H' ⟨q,c,y,ex,hq,hy,eH⟩=>?_⟩;subst ex eH;let⟨k2,v2,h1,h2,h3⟩:=(r0.keep k).at hy;rw[hp]at h1;cases h1;have kk:ee H<|upd H q<|.tup [kV c,y]:=ee.new hq;exact⟨kk,Xc g hq,.tup (.inl dM)<|.cons (D3 h2)<|.cons (h3.keep kk) .nil⟩
 stop:=λn G H k g e hn=>⟨k.f _ _ _ e0,by rw[<-r0.len];simpa using hn⟩
def F0(e0:H0 a=dF (.frz o<|.dK ps))(r0:RKs i.K H0 kvs ps):ItOk i H0 (Itk a o ps) (λg=>g a=dF (.frz kvs)) (kvs.map<|fz.itemOf dI) where
 go:=λn G H v k g e hv=>by
  have e1:=k.f _ _ _ e0;rw[Ó]at hv;let⟨p,hp,rfl⟩:=Ï.mp hv;have hn:n<ps.length:=by rw[<-r0.len];exact(Ð.mp hp).1
  refine⟨⟨e1,hn⟩,λx H' ⟨eH,c,y,hy,ex⟩=>?_⟩;subst ex eH;let⟨k2,v2,h1,h2,h3⟩:=(r0.keep k).at hy;rw[hp]at h1;cases h1;exact⟨ee.refl _,g,D3 h2⟩
 stop:=λn G H k g e hn=>⟨k.f _ _ _ e0,by rw[<-r0.len];simpa using hn⟩
variable {tg:Expr} {ç:Pos} {body:List ğ} {q:fz.Pt} {m:fz.E} {mb:fz.Ss}
def Ug{ś:Expr}{kb:Bool}{J:Ê->Obj->List (Key×V)->It}(hp:ο (Þ X.prog X.w) X.A X.env X.xe)(hc:X.calm=dI)(hi:PI X tg ś<|Li X J<|tE X i Φ m)(hg:PG X tg<|gPt i q)(hb:PSs X body<|tBl X i Φ mb)
  (hs:∀x,Ē ś X.env x=pure x) (hJ:∀(H0:Hp) (a:Ê) (o:Obj) (ps:List<|Key×V) (kvs:List<|fz.Val×fz.Val),H0 a=dF (.frz o<|.dK ps)->RKs i.K H0 kvs ps->ItOk i H0 (J a o ps) (λg=>g a=dF (.frz kvs)) (kvs.map<|fz.itemOf kb)) :
  PS X (.For tg ś body [] ç) (tSt X i Φ<|.forI kb q m mb):=by
 intro Á s σ H D I ⟨env,G,N,R,B,C,Xe,p,w,c⟩;refine Ef (Cw hp hc hi hg hb hs) Á s σ H D I ?_;refine one p.pre w λv G1 H1 x k1 p1 rx w'=>?_;let⟨a,e1,w''⟩:=dO w';let⟨kvs,e2,w1⟩:=dO w'';clear w' w'';have ev:v=.ref a:=by
  cases v with
  |ref b=>cases e1;rfl
  |_=>cases e1
 subst ev;cases rx.ref_inv;have eG:G1 a=dF (.dct kvs):=by
  cases z:G1 a with
  |none=>rw[z]at e2;cases e2
  |some o=>rw[z]at e2;cases o<;>first|(cases e2;rfl)|cases e2
 let⟨ps,ha,hr⟩:=p1.hp a _ eG;refine⟨a,ps,rfl,ha,λo h0=>?_⟩;have k2:ee H1<|upd H1 a<|.frz o<|.dK ps:=ee.put (λxs z=>by rw[ha]at z;cases z) λp u z=>by rw[ha]at z;cases z
 have g2:RH i (fz.upd G1 a<|.frz kvs)<|upd H1 a<|.frz o<|.dK ps:=p1.hp.put k2 ⟨o,ps,dM,hr.keep k2⟩;have it:=hJ _ a o ps kvs dM<|hr.keep k2;have Λ:∀{H':Hp}{G':fz.Hs},ee (upd H1 a<|.frz o<|.dK ps) H'->RH i G' H'->H' a=dF (.frz o<|.dK ps)/\RKs i.K H' kvs ps/\ee H (upd H' a<|.dK ps):=λ{H' G'} k g=>by
  have e:=k.f a o _ dM;refine⟨e,(hr.keep k2).keep k,λb xs z=>?_,λb o' u z=>?_⟩
  .have z1:=k1.t b xs z;have hb:b≠a:=by rintro rfl;rw[ha]at z1;cases z1
   rw[dL hb];exact k.t b xs (by rw[dL hb];exact z1)
  .have z1:=k1.f b o' u z;have hb:b≠a:=by rintro rfl;rw[ha]at z1;cases z1
   rw[dL hb];exact k.f b o' u (by rw[dL hb];exact z1)
 have fin:∀Ĭ Ņ G' H',ee (upd H1 a<|.frz o<|.dK ps) H'->RH i G' H'->REn i.K H' Ĭ Ņ->(G' a=dF (.frz kvs)/\N Ĭ (fz.upd G' a<|.dct kvs))->(D.thaw X).nx Ņ H':=λĬ Ņ G' H' k g en ⟨_,n⟩=>by let⟨b1,b2,b3⟩:=Λ k g;exact⟨a,o,ps,b1,h0,c.nx Ĭ Ņ _ _ b3 (g.thaw b1 b2) (en.keepL<|XF b1) n⟩
 have ret:∀v G' H' x,ee (upd H1 a<|.frz o<|.dK ps) H'->RH i G' H'->RV i.K H' v x->(G' a=dF (.frz kvs)/\R v (fz.upd G' a<|.dct kvs))->(D.thaw X).rt x H':=λv G' H' x k g r ⟨_,n⟩=>by let⟨b1,b2,b3⟩:=Λ k g;exact⟨a,o,ps,b1,h0,c.rt v _ _ x b3 (g.thaw b1 b2) (r.keepL<|XF b1) n⟩
 have xo:∀Hq,XW X (XKS i Hq λ_ _ _=>False):=λHq=>λ_ _ _ _ _ _ _ _ _ _ ⟨_,_,_,_,_,_,_,_,z⟩=>z.elim;generalize hxs:kvs.map (fz.itemOf kb)=xs at w1 it;generalize ł:(λg:fz.Hs=>g a=dF (.frz kvs))=st at w1 it;refine⟨λn m Ņ H'=>n+m=xs.length/\∃Ĭ G',ee (upd H1 a<|.frz o<|.dK ps) H'/\RH i G' H'/\REn i.K H' Ĭ Ņ/\fz.wFor st (λv e g K M=>fz.go (fz.bind q g v e) λe2=>fz.wSs Φ mb e2 g K (λu g2=>g2 a=dF (.frz kvs)/\R u (fz.upd g2 a<|.dct kvs)) M K λ_ _ _=>False) (λe g=>g a=dF (.frz kvs)/\N e (fz.upd g a<|.dct kvs)) (xs.drop n) Ĭ G',⟨xs.length,by lia,env,_,ee.refl _,g2,(p.en.keep k1).keep k2,⇑w1⟩,?_⟩;rintro n m Ņ H' ⟨hnm,Ĭ,G',k3,g3,e3,w3⟩;by_cases hn:n<xs.length
 .right;have hd:xs.drop n=xs[n]::xs.drop (n+1):=ν hn;rw[hd]at w3;let⟨s2,w3⟩:=w3;have hv:xs[n]?=dF xs[n]:=É hn;let⟨a1,a2⟩:=it.go n G' H' xs[n] k3 g3 s2 hv;refine⟨a1,λσ4 H4=>∃cj G4,ee (upd H1 a<|.frz o<|.dK ps) H4/\RH i G4 H4/\REn i.K H4 cj σ4/\fz.wFor st (λv e g K M=>fz.go (fz.bind q g v e) λe2=>fz.wSs Φ mb e2 g K (λu g2=>g2 a=dF (.frz kvs)/\R u (fz.upd g2 a<|.dct kvs)) M K λ_ _ _=>False) (λe g=>g a=dF (.frz kvs)/\N e (fz.upd g a<|.dct kvs)) (xs.drop<|n+1) cj G4,λσ4 H4 h=>⟨m - 1,by lia,by lia,h⟩,λx H4 hy=>?_⟩;let⟨k4,g4,r4⟩:=a2 x H4 hy;let⟨aE,e5,w5⟩:=dO w3;refine⟨xs[n],Ĭ,G',aE,r4,g4,e3.keep k4,e5,λcZ h5=>?_⟩;refine⟨aE,G',_,_,_,_,_,⟨h5,g4,xo _⟩,w5,⟨λenv6 σ6 G6 H6 k6 g6 e6 w6=>?_,λv6 G6 H6 x6 k6 g6 r6 w6=>?_,λenv6 σ6 G6 H6 k6 g6 e6 w6=>?_,λenv6 σ6 G6 H6 k6 g6 e6 w6=>?_⟩⟩
  .exact⟨env6,G6,(k3.trans k4).trans k6,g6,e6,w6⟩
  .exact ret v6 G6 H6 x6 ((k3.trans k4).trans k6) g6 r6 w6
  .exact fin env6 σ6 G6 H6 ((k3.trans k4).trans k6) g6 e6 w6
  .exact⟨env6,G6,(k3.trans k4).trans k6,g6,e6,w6⟩
 .left;have hd:xs.drop n=[]:=Ε (by lia);rw[hd]at w3;exact⟨it.stop n G' H' k3 g3 w3.1 (by lia),fin Ĭ Ņ G' H' k3 g3 e3 w3.2⟩
variable {kk:Nat} {d:Expr}
def Gx{es:List Expr}{tp Ń ĺ:Pos}(hp:ο (Þ X.prog X.w) X.A X.env X.xe)(hc:X.calm=dI)(hd:PE X d<|tE X i Φ m)(hg:PG X (.Tuple es kk tp)<|gPt i q)(hb:PSs X body<|tBl X i Φ mb)
  (af:Ğ d "items" X.env (eval d X.env)=eval d X.env) (ai:(Ń.endLine==ĺ.line)=dI) (hs:∀x,Ē (.Call (.Attribute d "items" Ń) [] [] ĺ) X.env x=pure x) :
  PS X (.For (.Tuple es kk tp) (.Call (.Attribute d "items" Ń) [] [] ĺ) body [] ç) (tSt X i Φ<|.forI dJ q m mb) :=
 Ug hp hc (Be hd af ai) hg hb hs λ_ _ _ _ _ e r=>Bg e r
def Fz(hp:ο (Þ X.prog X.w) X.A X.env X.xe)(hc:X.calm=dI)(hd:PE X d<|tE X i Φ m)(hg:PG X tg<|gPt i q)(hb:PSs X body<|tBl X i Φ mb)(hs:∀x,Ē d X.env x=pure x) :
  PS X (.For tg d body [] ç) (tSt X i Φ<|.forI dI q m mb) :=
 Ug hp hc (FJ hd) hg hb hs λ_ _ _ _ _ e r=>F0 e r
def NI(Ė:List<|List Int):∀(k:Nat) (x:List Int) (r:List<|List Int),Ė.take (k+1)=x::r->k<Ė.length->fz.minR x r=Ė.getD (ē (btL λn=>Ė.getD n []) k) []
 |0,x,r,h,hk=>by
  cases Ė with
  |nil=>cases h
  |cons y ys=>simp at h;let⟨rfl,rfl⟩:=h;rfl
 |k+1,x,r,h,hk=>by
  cases Ė with
  |nil=>cases h
  |cons y ys =>
   rw[ϗ]at h;injection h with h1 h2;subst h1 h2;have bg:k<ys.length:=⇑hk
   have ih:=NI (y::ys) k y (ys.take k) (by rw[ϗ]) (by simp;lia);have e:ys.take (k+1)=ys.take k++[ys[k]]:=by rw[Ŋ];simp[bg]
   have app:∀(b:List Int) (l:List<|List Int) (z:List Int),fz.minR b (l++[z])=if fz.eP z (fz.minR b l)then z else fz.minR b l:=by
    intro b l z;induction l generalizing b with
    |nil=>rfl
    |cons w l ih=>exact ih _
   rw[e,app,ih];have e2:(y::ys).getD (k+1) []=ys[k]:=by simp[bg]
   show _=(y::ys).getD (if btL (λn=>(y::ys).getD n []) (k+1) (ē (btL λn=>(y::ys).getD n []) k)=dI then k+1 else ē (btL λn=>(y::ys).getD n []) k) [];have eb:btL (λn=>(y::ys).getD n []) (k+1) (ē (btL λn=>(y::ys).getD n []) k)=fz.eP ys[k] ((y::ys).getD (ē (btL λn=>(y::ys).getD n []) k) []):=by rw[MC,<-e2];rfl
   rw[eb];cases fz.eP ys[k] ((y::ys).getD (ē (btL λn=>(y::ys).getD n []) k) [])with
   |true=>rw[fA rfl,fA rfl,e2]
   |false=>rw[fB (by decide),fB<|by decide]
def Gv{G:fz.Hs}{H:Hp}{xs:List fz.Val}{us:List V}{w:List Int}{r:List (List Int)}{y:V}(h2:RVs i.K H xs us)(h3:(w::r).length=us.length)(h5:xs=(w::r).map λn=>.tup<|n.map .int)(hy:us[ē (btL λn=>(w::r).getD n [])<|us.length - 1]?=dF y):RV i.K H (.tup<|(fz.minR w r).map .int) y:=by
 rw[NI (w::r) ((w::r).length - 1) w r (by simp)<|by simp];rw[<-h3]at hy;have Ω:ē (btL λn=>(w::r).getD n []) ((w::r).length - 1)<(w::r).length:=by have:=JG (btL λn=>(w::r).getD n [])<|(w::r).length - 1;simp only[Ç]at this ⊢;lia
 generalize hj:ē (btL λn=>(w::r).getD n []) ((w::r).length - 1)=j at hy Ω ⊢;have hxj:xs[j]?=dF (.tup<|((w::r).getD j []).map .int):=by rw[h5,Ó,É Ω];simp[ċ,É Ω]
 let⟨x2,bG,rx2⟩:=h2.get hxj;rw[hy]at bG;cases bG;exact rx2
def IH{e:Expr}{p kp kpos:Pos}(hc:X.calm=dI)(hu:X.A.units+1<Ĥ)(hK:X.K=i.K)(hg:Gl X "min")(hm:X.mg "min" = dG)(he:PE X e<|tE X i Φ m)(hs:Î [e] X.env=[(dJ,eval e X.env)]) :
  PE X (.Call (.Name "min" p) [e] [⟨dF "default",.Constant .none kk kp,kpos⟩] ç) (tE X i Φ<|.bi .minD<|.cons m .nil):=by
 refine(FH hc hu hg hm (Zo he fi<|by rw[hs];rfl) hs).imp λσ H Q ⟨env,G,Qm,Em,p,w,c⟩=>?_;change tE X i Φ m σ H _;refine one p w λv G1 H1 x k1 p1 r q=>?_
 replace q:(fz.eY G1 v).wp G1 Qm:=q
 cases v with
 |ref a =>
  cases r.ref_inv;unfold fz.eY at q;dsimp only at q;cases z:(fz.dZ<|G1 a).bind fz.rowsOf with
  |none=>rw[z]at q;exact(Zh q).elim
  |some Ė =>
   let⟨xs,z1,z2⟩:=ß.mp z;let⟨us,h1,h2⟩:=ZE p1.hp z1;let⟨h3,h4,h5⟩:=NV h2 z2;rw[z]at q;refine⟨a,us,Ė,rfl,by rw[hK];exact h1,h3,by rw[hK];exact h4,λe0=>?_,λe0 y hy=>?_⟩
   .subst e0;cases Ė with
    |nil=>exact c _ G1 H1 _ k1 p1.hp .non<|Zi q
    |cons _ _=>cases h3
   .cases Ė with
    |nil=>exact fI (ŗ.mp h3.symm) e0
    |cons w r =>exact c _ G1 H1 _ k1 p1.hp (Gv (G:=G1) h2 h3 h5 hy)<|Zi q
 |_=>exact(Zh q).elim
structure Md where
 N:List Str
 sc:ů
 cs:List<|String×fz.Val
 fs:List String
 cm:Bool
 cl:List String
 ms:List<|String×String
 fl:List String
 xs:List String
abbrev Md.nmOf(c:Md)(j:Nat):Str:=c.N.getD j Str.empty
abbrev Md.vis(c:Md)(x:Str):Bool:=match c.sc.names.lookup x with
 |some .local=>dI
 |some .cell=>dI
 |some .free=>dI
 |_=>dJ
abbrev Md.loc(c:Md)(x:Str):Bool:=c.sc.names.lookup x==dF .local||c.sc.names.lookup x==dF .cell
abbrev Md.gl(c:Md)(x:Str):Bool:=c.sc.names.lookup x==dF .globalImplicit
abbrev nm(x:Str):Bool:=!(x==("__debug__" : Str)) && !(x==("__classdict__" : Str)) && !(x==("__name__" : Str))
abbrev dE:Expr:=.Name Str.empty ⟨0,0,0,0⟩
abbrev mix:List (Option Expr)->List Expr->List Expr
 |k::ks,v::vs=>k.getD dE::v::mix ks vs
 |_,_=>[]
abbrev sub:Expr->List Expr
 |.BoolOp _ xs _=>xs
 |.BinOp a _ b _=>[a,b]
 |.UnaryOp _ a _=>[a]
 |.IfExp a b c _=>[a,b,c]
 |.Compare a _ bs _=>a::bs
 |.Call f as ks _=>f::(as++ks.map (·.value))
 |.FormattedValue a _ _ _=>[a]
 |.JoinedStr vs _=>vs
 |.Attribute a _ _=>[a]
 |.Subscript a b _=>[a,b]
 |.List es _=>es
 |.Tuple es _ _=>es
 |.Slice a b c _=>[a.getD dE,b.getD dE,c.getD dE]
 |.ListComp e gs _ _=>e::gs.flatMap λg=>g.target::g.iter::g.ifs
 |.Dict ks vs _=>mix ks vs
 |_=>[]
abbrev kid(x:Expr)(j:Nat):Expr:=(sub x).getD j dE
abbrev num:Expr->Nat
 |.Constant _ k _=>k
 |.Tuple _ k _=>k
 |_=>0
abbrev scp:Expr->ů
 |.ListComp _ _ s _=>s
 |_=>default
abbrev kwp:Expr->Pos
 |.Call _ _ (k::_) _=>k.pos
 |_=>⟨0,0,0,0⟩
abbrev Oj:fz.Bop->Ν
 |.add=>.Add
 |.sub=>.Sub
 |.mul=>.Mult
 |.fdiv=>.FloorDiv
 |.mod=>.Mod
 |.pow=>.Pow
abbrev WU:fz.Cop->bI
 |.eq=>.Eq
 |.ne=>.NotEq
 |.lt=>.Lt
 |.le=>.LtE
 |.gt=>.Gt
 |.ge=>.GtE
 |.isin=>.In
 |.notin=>.NotIn
 |.is=>.Is
 |.isnot=>.IsNot
 |.eqE=>.Eq
 |.neE=>.NotEq
 |.ntT=>.IsNot
abbrev PY:fz.Val->Const
 |.non=>.none
 |.bl b=>.bool b
 |.int i=>.int i
 |.str s=>.str<|fK s
 |_=>.ellipsis
abbrev GZ:fz.Val->Bool
 |.non=>dI
 |.bl _=>dI
 |.int _=>dI
 |.str _=>dI
 |_=>dJ
abbrev ZQ:fz.E->Bool
 |.and _ _=>dI
 |_=>dJ
abbrev YJ:fz.E->Bool
 |.or _ _=>dI
 |_=>dJ
abbrev Zr:fz.Tt->Bool
 |.and _ _=>dI
 |_=>dJ
abbrev ZI:fz.Tt->Bool
 |.or _ _=>dI
 |_=>dJ
abbrev rest(b:Bool)(x:Expr):Expr:=match b,x with
 |true,.BoolOp op (_::xs) p=>.BoolOp op xs p
 |_,x=>kid x 1
abbrev flat(b:Bool)(x:Expr):List Expr:=match b with
 |true=>sub x
 |false=>[x]
abbrev Yj:fz.Bi->Str
 |.len=>"len"
 |.int=>"int"
 |.str=>"str"
 |.bool=>"bool"
 |.abs=>"abs"
 |.min2=>"min"
 |.max2=>"max"
 |.minL=>"min"
 |.maxL=>"max"
 |.minP=>"min"
 |.maxP=>"max"
 |.minD=>"min"
 |.sum=>"sum"
 |.all=>"all"
 |.any=>"any"
 |.sorted=>"sorted"
 |.sortedI=>"sorted"
 |.sortedSet=>"sorted"
 |.lenSet=>"len"
 |.list=>"list"
 |.tuple=>"tuple"
 |.dict=>"dict"
 |.isi _=>"isinstance"
 |.isx _=>"isinstance"
 |.isc _=>"isinstance"
 |.repr=>"repr"
 |.listRev=>"list"
 |.listRange=>"list"
 |.tupRange=>"tuple"
 |.dictEnum=>"dict"
 |.listD=>"list"
abbrev PK:fz.Bi->Option Str
 |.sortedSet=>dF "set"
 |.lenSet=>dF "set"
 |.listRev=>dF "reversed"
 |.listRange=>dF "range"
 |.tupRange=>dF "range"
 |.dictEnum=>dF "enumerate"
 |_=>dG
abbrev Gj(Ts:List String)(x:Expr):Expr:=match Ts with
 |[T]=>.Name (fK T) x.pos
 |Ts=>.Tuple (Ts.zipIdx.map λp=>.Name (fK p.1) (kid x p.2).pos) (num x) x.pos
abbrev Pd(f:fz.Bi)(as:List Expr)(x:Expr):List Expr:=match PK f with
 |some y=>[.Call (.Name y (kid (kid x 1) 0).pos) as [] (kid x 1).pos]
 |none=>match f with
  |.isi Ts=>as++[Gj Ts<|kid x 2]
  |.isx Ts=>as++[Gj Ts<|kid x 2]
  |.isc T=>as++[Gj [T]<|kid x 2]
  |_=>as
abbrev UQ(f:fz.Bi)(x:Expr):List Expr:=match PK f with
 |some _=>(sub<|kid x 1).tail
 |none=>(sub x).tail
abbrev Sj(f:fz.Bi)(x:Expr):List aw:=match f with
 |.minD=>[⟨dF "default",.Constant .none (num<|kid x 2) (kid x 2).pos,kwp x⟩]
 |_=>[]
abbrev Iq:fz.Bm->Str
 |.append=>"append"
 |.extend=>"extend"
 |.pop=>"pop"
 |.popAt=>"pop"
 |.insert=>"insert"
 |.remove=>"remove"
 |.clear=>"clear"
 |.reverse=>"reverse"
 |.index=>"index"
 |.count=>"count"
 |.dget=>"get"
 |.dgetD=>"get"
 |.dpop=>"pop"
 |.dpopD=>"pop"
 |.setdefault=>"setdefault"
 |.join=>"join"
 |.split=>"split"
 |.replace=>"replace"
 |.upper=>"upper"
 |.partition=>"partition"
 |.sidx=>"index"
abbrev X4:List Expr->List (Option Expr)
 |k::_::r=>dF k::X4 r
 |_=>[]
abbrev CG:List Expr->List Expr
 |_::v::r=>v::CG r
 |_=>[]
abbrev toP(p:fz.Pt)(c:Md)(x:Expr):Expr:=match p with
 |.one j=>.Name (c.nmOf j) x.pos
 |.many js=>.Tuple (js.zipIdx.map λp=>.Name (c.nmOf p.1) (kid x p.2).pos) (num x) x.pos
 |.nest j js=>.Tuple [.Name (c.nmOf j) (kid x 0).pos,.Tuple (js.zipIdx.map λp=>.Name (c.nmOf p.1) (kid (kid x 1) p.2).pos) (num<|kid x 1) (kid x 1).pos] (num x) x.pos
abbrev nmX:Expr->Str
 |.Name x _=>x
 |_=>Str.empty
abbrev Y6:Expr->List Str
 |.Tuple es _ _=>es.map nmX
 |x=>[nmX x]
abbrev Md.blk(c:Md)(sc:ů)(x:List Str)(ô:List Nat):Md :=
 {N:=x++ô.map (λj=>c.N.getD j Str.empty),sc:={sc with names:=sc.names.map λ(n,k)=>if(k == .free&&c.sc.kind == .function&&c.sc.names.lookup n==dF .cell)then(n,.cell)else(n,k)},cs:=c.cs,fs:=c.fs,cm:=c.cm,cl:=c.cl,ms:=c.ms,fl:=c.fl,xs:=c.xs}
abbrev AX:fz.E->Bool
 |.cst (.str _)=>dI
 |_=>dJ
mutual
noncomputable def toX:fz.E->Md->Expr->Expr
 |.cst v,_,x=>.Constant (PY v) (num x) x.pos
 |.var j,c,x=>.Name (c.nmOf j) x.pos
 |.glob y _,_,x=>.Name (fK y) x.pos
 |.bin o a b,c,x=>.BinOp (toX a c<|kid x 0) (Oj o) (toX b c<|kid x 1) x.pos
 |.neg a,c,x=>.UnaryOp .USub (toX a c<|kid x 0) x.pos
 |.not a,c,x=>.UnaryOp .Not (toX a c<|kid x 0) x.pos
 |.and a b,c,x=>.BoolOp .And (toX a c (kid x 0)::flat (ZQ b) (toX b c<|rest (ZQ b) x)) x.pos
 |.or a b,c,x=>.BoolOp .Or (toX a c (kid x 0)::flat (YJ b) (toX b c<|rest (YJ b) x)) x.pos
 |.cmp o a b,c,x=>.Compare (toX a c<|kid x 0) [WU o] [toX b c<|kid x 1] x.pos
 |.chain o1 o2 a b d,c,x=>.Compare (toX a c<|kid x 0) [WU o1,WU o2] [toX b c<|kid x 1,toX d c<|kid x 2] x.pos
 |.call f as,c,x=>.Call (.Name (fK f) (kid x 0).pos) (toA as c (sub x).tail) [] x.pos
 |.make C as,c,x=>.Call (.Name (fK C) (kid x 0).pos) (toA as c (sub x).tail) [] x.pos
 |.meth _ m o as,c,x=>.Call (.Attribute (toX o c<|kid (kid x 0) 0) (fK m) (kid x 0).pos) (toA as c (sub x).tail) [] x.pos
 |.fld o f,c,x=>.Attribute (toX o c<|kid x 0) (fK f) x.pos
 |.bi f as,c,x=>.Call (.Name (Yj f) (kid x 0).pos) (Pd f (toA as c<|UQ f x) x) (Sj f x) x.pos
 |.bm m o as,c,x=>.Call (.Attribute (toX o c<|kid (kid x 0) 0) (Iq m) (kid x 0).pos) (toA as c (sub x).tail) [] x.pos
 |.idx a b,c,x=>.Subscript (toX a c<|kid x 0) (toX b c<|kid x 1) x.pos
 |.slc a lo hi,c,x=>.Subscript (toX a c<|kid x 0) (.Slice (toO lo c<|kid (kid x 1) 0) (toO hi c<|kid (kid x 1) 1) dG (kid x 1).pos) x.pos
 |.rev a,c,x=>.Subscript (toX a c<|kid x 0) (.Slice dG dG (dF<|.UnaryOp .USub (.Constant (.int 1) (num<|kid (kid (kid x 1) 2) 0) (kid (kid (kid x 1) 2) 0).pos) (kid (kid x 1) 2).pos) (kid x 1).pos) x.pos
 |.sortT a,c,x=>.Call (.Name "sorted" (kid x 0).pos) [toX a c<|kid x 1] [] x.pos
 |.pick a lo hi st,c,x=>.Subscript (toX a c<|kid x 0) (.Slice (toO lo c<|kid (kid x 1) 0) (toO hi c<|kid (kid x 1) 1) (dF<|toX st c<|kid (kid x 1) 2) (kid x 1).pos) x.pos
 |.tup es,c,x=>.Tuple (toA es c<|sub x) (num x) x.pos
 |.key es,c,x=>.Tuple (toA es c<|sub x) (num x) x.pos
 |.dctP,c,x=>.Dict [] [] x.pos
 |.lst es,c,x=>.List (toA es c<|sub x) x.pos
 |.dct es,c,x=>.Dict (X4<|toA es c<|sub x) (CG<|toA es c<|sub x) x.pos
 |.ife t a b,c,x=>.IfExp (toT t c<|kid x 0) (toX a c<|kid x 1) (toX b c<|kid x 2) x.pos
 |.comp ô _ p it t e,c,x=>.ListComp (toX e (c.blk (scp x) (Y6<|kid x 1) ô)<|kid x 0) [⟨toP p (c.blk (scp x) (Y6<|kid x 1) ô)<|kid x 1,toI it c<|kid x 2,toF t (c.blk (scp x) (Y6<|kid x 1) ô)<|kid x 3,0⟩] (scp x) x.pos
 |.fstr es,c,x=>.JoinedStr (toJ es c<|sub x) x.pos
 |.split o a,c,x=>.Call (.Attribute (toX o c<|kid (kid x 0) 0) "split" (kid x 0).pos) [toX a c<|kid x 1] [] x.pos
 |.repl o y z,c,x=>.Call (.Attribute (toX o c<|kid (kid x 0) 0) "replace" (kid x 0).pos) [.Constant (.str<|fK y) (num<|kid x 1) (kid x 1).pos,.Constant (.str<|fK z) (num<|kid x 2) (kid x 2).pos] [] x.pos
noncomputable def toA:fz.Es->Md->List Expr->List Expr
 |.nil,_,_=>[]
 |.cons e es,c,xs=>toX e c (xs.headD dE)::toA es c xs.tail
noncomputable def toJ:fz.Es->Md->List Expr->List Expr
 |.nil,_,_=>[]
 |.cons e es,c,xs=>(if AX e then toX e c (xs.headD dE)else .FormattedValue (toX e c<|kid (xs.headD dE) 0) (-1) dG (xs.headD dE).pos)::toJ es c xs.tail
noncomputable def toO:fz.Oe->Md->Expr->Option Expr
 |.none,_,_=>dG
 |.some e,c,x=>dF<|toX e c x
noncomputable def toT:fz.Tt->Md->Expr->Expr
 |.yes,_,x=>x
 |.val e,c,x=>toX e c x
 |.not t,c,x=>.UnaryOp .Not (toT t c<|kid x 0) x.pos
 |.and a b,c,x=>.BoolOp .And (toT a c (kid x 0)::flat (Zr b) (toT b c<|rest (Zr b) x)) x.pos
 |.or a b,c,x=>.BoolOp .Or (toT a c (kid x 0)::flat (ZI b) (toT b c<|rest (ZI b) x)) x.pos
noncomputable def toF:fz.Tt->Md->Expr->List Expr
 |.yes,_,_=>[]
 |.val e,c,x=>[toX e c x]
 |.not t,c,x=>[.UnaryOp .Not (toT t c<|kid x 0) x.pos]
 |.and a b,c,x=>[.BoolOp .And (toT a c (kid x 0)::flat (Zr b) (toT b c<|rest (Zr b) x)) x.pos]
 |.or a b,c,x=>[.BoolOp .Or (toT a c (kid x 0)::flat (ZI b) (toT b c<|rest (ZI b) x)) x.pos]
noncomputable def toI:fz.It->Md->Expr->Expr
 |.seq e,c,x=>toX e c x
 |.chars e,c,x=>toX e c x
 |.range a,c,x=>.Call (.Name "range" (kid x 0).pos) [toX a c<|kid x 1] [] x.pos
 |.range2 a b,c,x=>.Call (.Name "range" (kid x 0).pos) [toX a c<|kid x 1,toX b c<|kid x 2] [] x.pos
 |.enumL e,c,x=>.Call (.Name "enumerate" (kid x 0).pos) [toX e c<|kid x 1] [] x.pos
 |.enum e,c,x=>.Call (.Name "enumerate" (kid x 0).pos) [toX e c<|kid x 1] [] x.pos
 |.zip a b,c,x=>.Call (.Name "zip" (kid x 0).pos) [toX a c<|kid x 1,toX b c<|kid x 2] [] x.pos
 |.items e,c,x=>toX e c x
 |.rev e,c,x=>.Call (.Name "reversed" (kid x 0).pos) [toX e c<|kid x 1] [] x.pos
end
abbrev blts:List Str:=["isinstance","int","bool","str","list","tuple","dict","max","min","range","len","sorted","set","all","any","sum","enumerate","zip","reversed","abs","repr","ValueError"]
structure Kls(X:Cx)(i:Inf)(P:fz.Pg)(n:Nat)(c:Md):Prop where
 A:ClsA i
 F:∀f,c.fl.contains f=dI->FldOk i f
 mkc:∀C,c.cl.contains C=dI->∃a f,i.ins C=dI/\i.cl C a/\Mk i.K a f/\X.mg (fK C)=dF (.ref a)/\Dfm X.prog X.w X.mg X.base i P n (C ++ ".__init__") f
 mth:∀C m,c.ms.contains (C,m)=dI->∃a f,(∀b,i.cl C b->b=a)/\Cls i.K a/\Meth i.K a (fK m) f/\Dfm X.prog X.w X.mg X.base i P n (C ++ "." ++ m) f
structure Xls(X:Cx)(i:Inf)(c:Md):Prop where
 xc:∀C a,i.xc C a->XCls i.K a/\PySem.W.kitOne i.K (.ref a) (.type "ValueError")=dF dI
 rs:∀C,c.xs.contains C=dI->∃a,i.xc C a/\PyProof.Rows.OwnCls (fK C) a [.type "ValueError",.type "Exception",.type "BaseException",.type "object"] "ValueError.__new__" X.mg X.base
 kn:∀T,(c.xs.contains T||T == "ShutError")=dI->∃D,X.mg (fK T)=dF (.ref D)/\∀C a,i.xc C a->PySem.W.kitOne i.K (.ref a) (.ref D)=dF (fz.fj C T)/\(fz.fj C T=dI->PySem.W.exmOne i.K (.ref a) (.ref D)=dF dI)
structure Gd(X:Cx)(i:Inf)(P:fz.Pg)(n:Nat)(c:Md):Prop where
 K:X.K=i.K
 N:X.N=c.N
 sc:X.env.scope=c.sc
 nd:c.N.Nodup
 un:X.A.units+200<Ĥ
 calm:c.cm=dI->X.calm=dI
 room:c.cm=dI->eF (2*n+1) X.A
 bl:∀x∈blts,X.mg x=dG
 dfs:∀f,c.fs.contains f=dI->Dfo X.prog X.w X.mg X.base i P n f
 cst:∀x v,c.cs.lookup x=dF v->∃u y,X.mg (fK x)=dF u/\RelV y u/\∀H,RV i.K H v y
 kl:Kls X i P n c
 xl:c.xs≠[]->Xls X i c
variable {X:Cx}{i:Inf}{P:fz.Pg}{n:Nat}{c:Md}
variable {x:Str}
def Gd.gl(g:Gd X i P n c)(h:c.gl x=dI):Gl X x:=by show X.env.scope.names.lookup x=_;rw[g.sc];exact eq_of_beq h
def Gd.vis(g:Gd X i P n c)(h:c.vis x=dI):Vis X.env.scope x:=by
 unfold Vis;rw[g.sc];unfold Md.vis at h;split at h
 .exact .inl (by assumption)
 .exact .inr (.inl<|by assumption)
 .exact .inr (.inr<|by assumption)
 .cases h
def Gd.loc(g:Gd X i P n c)(h:c.loc x=dI):L2.Loc X.env.scope x:=by
 unfold L2.Loc;rw[g.sc];rcases (am ..).mp h with h|h
 .exact .inl<|eq_of_beq h
 .exact .inr<|eq_of_beq h
def Gd.rm(g:Gd X i P n c)(h:c.cm=dI):eF (2*n) X.A:=(g.room h).mono (ř _)
def X5(h:nm x=dI):(x==("__debug__" : Str))=dJ/\(x==("__classdict__" : Str))=dJ/\x≠"__name__":=by simp only[nm,bAq,ę]at h;exact⟨h.1.1,h.1.2,⇑h.2⟩
def Zl(e:fz.E)(c:Md)(x:Expr)(es:List Expr)(env:Env):Î (toX e c x::es) env=(dJ,eval (toX e c x) env)::Î es env:=by cases e<;>rfl
def B4(e:fz.E)(c:Md)(x:Expr):M0<|toX e c x:=by intro o j;cases e<;>rfl
variable {op:bI}
def Er(e:fz.E)(c:Md)(x:Expr):İ op (toX e c x)=dJ:=by cases e<;>rfl
def Io(e:fz.E)(c:Md)(x:Expr)(env:Env):∀y,Ē (toX e c x) env y=pure y:=by intro y;cases e<;>rfl
abbrev YX:Expr->Bool
 |.Call (.Name _ _) [] _ _=>dJ
 |_=>dI
variable {e:Expr}
def YF(h:YX e=dI)(f:Str)(env:Env):Ğ e f env (eval e env)=eval e env:=by
 cases e with
 |Call g as ks p =>
  cases as with
  |cons _ _=>cases g<;>rfl
  |nil=>cases g with
   |Name x q=>cases h
   |_=>rfl
 |_=>rfl
abbrev Zc:fz.Es->Nat
 |.nil=>0
 |.cons _ es=>Zc es+1
def XD:∀(es:fz.Es) (c:Md) (xs:List Expr),(toA es c xs).length=Zc es
 |.nil,_,_=>rfl
 |.cons _ es,c,xs=>by show(toA es c xs.tail).length+1=_;rw[XD es];rfl
def Z6(env:Env)(ç:Pos):∀(es:fz.Es) (c:Md) (xs:List Expr),(Č ç<|Î (toA es c xs) env).any (·.1)=dJ
 |.nil,_,_=>rfl
 |.cons e es,c,xs=>by show(Č ç<|Î (toX e c (xs.headD dE)::toA es c xs.tail) env).any (·.1)=dJ;rw[Zl];show(dJ||(Č ç<|Î (toA es c xs.tail) env).any (·.1))=dJ;rw[Z6 env ç es];rfl
def JX(env:Env)(ç:Pos):∀(es:fz.Es) (c:Md) (xs:List Expr),(Č ç<|Î (toA es c xs) env).all (λx=>!x.1)=dI
 |.nil,_,_=>rfl
 |.cons e es,c,xs=>by show(Č ç<|Î (toX e c (xs.headD dE)::toA es c xs.tail) env).all (λx=>!x.1)=dI;rw[Zl];show(dI&&(Č ç<|Î (toA es c xs.tail) env).all (λx=>!x.1))=dI;rw[JX env ç es];rfl
abbrev ZF:fz.Pt->Bool
 |.one _=>dI
 |_=>dJ
def MH(p:fz.Pt)(x:Expr):((!ZF p)=dI->∃es k q,toP p c x=.Tuple es k q)/\((!ZF p)=dJ->∃y q,toP p c x=.Name y q):=by
 cases p with
 |one j=>exact⟨λz=>(by cases z),λ_=>⟨_,_,rfl⟩⟩
 |many js=>exact⟨λ_=>⟨_,_,_,rfl⟩,λz=>(by cases z)⟩
 |nest j js=>exact⟨λ_=>⟨_,_,_,rfl⟩,λz=>(by cases z)⟩
abbrev A5(X:Cx)(c:Md)(j:Nat):Prop:=X.N[j]?=dF (c.nmOf j)/\L2.Loc X.env.scope (c.nmOf j)/\(X.fn (c.nmOf j)=dI\/X.env.scope.names.lookup (c.nmOf j)=dF .local)
abbrev GB(q:Nat->Prop):fz.Pt->Prop
 |.one j=>q j
 |.many js=>∀j∈js,q j
 |.nest j js=>q j/\∀k∈js,q k
def MT{X:Cx}{c:Md}(nd:X.N.Nodup)(f:Nat->Pos):∀(js:List Nat) (k:Nat),(∀j∈js,A5 X c j)->
  PGs X ((js.zipIdx k).map λp=>.Name (c.nmOf p.1)<|f p.2) (Dz i js)/\(ĕ ((js.zipIdx k).map λp=>.Name (c.nmOf p.1)<|f p.2) X.env).length=js.length/\(ĕ ((js.zipIdx k).map λp=>.Name (c.nmOf p.1)<|f p.2) X.env).findIdx? (·.1)=dG
 |[],_,_=>⟨FS,rfl,rfl⟩
 |j::js,k,h=>by
  let⟨h1,h2,h3⟩:=h j (by simp);let⟨a1,a2,a3⟩:=MT nd f js (k+1) λl hl=>h l (by simp[hl]);rw[List.zipIdx_cons,Í];refine⟨DJ nd h1 h2 h3 a1 rfl,?_,?_⟩
  .show(ĕ ((js.zipIdx<|k+1).map _) X.env).length+1=js.length+1;rw[a2]
  .show List.findIdx? (·.1) ((dJ,Ų (.Name (c.nmOf j)<|f k) X.env)::ĕ _ X.env)=dG;rw[List.findIdx?_cons];simp[a3]
def GF(hK:X.K=i.K)(nd:X.N.Nodup)(hc:X.calm=dI){p:fz.Pt}{x:Expr}(h:GB (A5 X c) p):PG X (toP p c x)<|gPt i p:=by
 cases p with
 |one j=>exact ON nd h.1 h.2.1 h.2.2
 |many js =>let⟨a1,a2,a3⟩:=MT nd (λk=>(kid x k).pos) js 0 h;exact Ul hK hc a1 a2 a3
 |nest j js =>let⟨h0,h⟩:=h;let⟨a1,a2,a3⟩:=MT nd (λk=>(kid (kid x 1) k).pos) js 0 h;exact Gb hK hc (ON nd h0.1 h0.2.1 h0.2.2)<|Ul hK hc a1 a2 a3
variable {Φ:fz.Fs} {a:fz.E} {b:fz.E} {l:Expr} {ç:Pos}
def PL(g:Gd X i P n c){o:fz.Bop}{r:Expr}(ha:PE X l<|tE X i Φ a)(hb:PE X r<|tE X i Φ b):PE X (.BinOp l (Oj o) r ç)<|tE X i Φ<|.bin o a b:=by
 cases o with
 |add=>exact KH Ps (by rw[g.K];exact b_add) ha hb
 |sub=>exact KH L3 b_sub ha hb
 |mul=>exact KH Qc b_mul ha hb
 |fdiv=>exact KH Ge b_fdiv ha hb
 |mod=>exact KH Ho b_mod ha hb
 |pow=>exact KH LI b_pow ha hb
abbrev X0:fz.Cop->Bool
 |.is=>dI
 |.isnot=>dI
 |.ntT=>dI
 |_=>dJ
variable {o:fz.Cop}
def N1(g:Gd X i P n c)(h:X0 o=dJ):∃r,OpR X (ê<|WU o) r/\Z8 i o r:=by
 have u65:X.A.units+65<Ĥ:=by have:=g.un;lia
 have u64:X.A.units+64<Ĥ:=by have:=g.un;lia
 have u0:X.A.units<Ĥ:=by have:=g.un;lia
 cases o with
 |eq=>exact⟨_,LU u64,by rw[g.K];exact Si⟩
 |ne=>exact⟨_,Hk u64,by rw[g.K];exact RE⟩
 |lt=>exact⟨_,Sw u0,by rw[g.K];exact c_lt⟩
 |le=>exact⟨_,P8,c_le⟩
 |gt=>exact⟨_,Sl u0,by rw[g.K];exact c_gt⟩
 |ge=>exact⟨_,Qj,c_ge⟩
 |isin=>exact⟨_,Sm u65,by rw[g.K];exact Sg⟩
 |notin=>exact⟨_,RY u65,by rw[g.K];exact RA⟩
 |eqE=>exact⟨_,Ca u64,by rw[g.K];exact c_eqE⟩
 |neE=>exact⟨_,DW u64,by rw[g.K];exact c_neE⟩
 |_=>cases h
def Lm{v:fz.Val}{j:Nat}(h:GZ v=dI):PE X (.Constant (PY v) j ç)<|tE X i Φ<|.cst v:=by
 cases v with
 |non=>exact Jb CI λ_=>.non
 |bl b=>exact Jb Qp λ_=>.bl _
 |int k=>exact Jb Og λ_=>.int _
 |str s=>exact Jb pe_str λ_=>.str _
 |_=>cases h
abbrev M4:fz.E->Bool
 |.cst .non=>dI
 |_=>dJ
def Fv{e:fz.E}(h:M4 e=dI):e=.cst .non:=by
 cases e with
 |cst v=>cases v with
  |non=>rfl
  |_=>cases h
 |_=>cases h
variable {y:Expr}
def Ck(hn:∀G v d,fz.d7 G o v .non≠dF d)(ha:PE X l<|tE X i Φ a)(hb:PE X y<|tE X i Φ<|.cst .non)(hm:İ op y=dJ) :
  PE X (.Compare l [op] [y] ç) (tE X i Φ<|.cmp o a<|.cst .non)/\PT X (.Compare l [op] [y] ç) (tTt X i Φ<|.val<|.cmp o a<|.cst .non):=by
 have ho:OpR X (ê op) λ_ _ _ _=>False:=λ_ _ _ _ _ _ _ _ _ _ _ _ h=>h.elim;refine⟨(UC ho ha hb hm).imp λσ H Q ⟨env,G,Qm,Em,p,w,c⟩=>?_,(Ut ho ha hb hm).imp λσ H Q ⟨env,G,Qm,Em,p,w,c⟩=>?_⟩
 .refine one p w λv G1 H1 x k1 p1 r q=>?_;let⟨d,e,_⟩:=dO q;exact fI e<|hn G1 v d
 .refine one p w λv G1 H1 x k1 p1 r q=>?_;let⟨d,e,_⟩:=dO q;exact fI e<|hn G1 v d
def No(g:Gd X i P n c){x:Expr}(h:(!X0 o||M4 b)=dI)(ha:PE X l<|tE X i Φ a)(hb:PE X (toX b c x)<|tE X i Φ b) :
  PE X (.Compare l [WU o] [toX b c x] ç) (tE X i Φ<|.cmp o a b)/\PT X (.Compare l [WU o] [toX b c x] ç) (tTt X i Φ<|.val<|.cmp o a b):=by
 cases z:X0 o with
 |false =>let⟨r,h1,h2⟩:=N1 g z;exact⟨PH h1 h2 ha hb<|Er _ _ _,Lb h1 h2 ha hb<|Er _ _ _⟩
 |true =>
  rw[z]at h;cases Fv h;cases o with
  |is=>exact⟨Pz ha,HJ ha⟩
  |isnot=>exact⟨LA ha,Fq ha⟩
  |ntT=>exact Ck (λG v d e=>by cases v<;>simp[fz.d7,fz.asLst]at e) ha hb<|Er _ _ _
  |_=>cases z
def JK(g:Gd X i P n c){o1 o2:fz.Cop}{d:fz.E}{x:Expr}(h1:X0 o1=dJ)(h2:X0 o2=dJ)(ha:PE X l<|tE X i Φ a)(hb:PE X y<|tE X i Φ b)(hd:PE X (toX d c x)<|tE X i Φ d) :
  PE X (.Compare l [WU o1,WU o2] [y,toX d c x] ç) (tE X i Φ<|.chain o1 o2 a b d)/\PT X (.Compare l [WU o1,WU o2] [y,toX d c x] ç) (tTt X i Φ<|.val<|.chain o1 o2 a b d):=by
 let⟨r1,a1,a2⟩:=N1 g h1;let⟨r2,b1,b2⟩:=N1 g h2;have hm:aO [WU o1,WU o2] [y,toX d c x]=dJ:=Er _ _ _;exact⟨FN a1 a2 b1 b2 ha hb hd hm,CO a1 a2 b1 b2 ha hb hd hm⟩
def L8{m:fz.E}(h:PE X e<|tE X i Φ m)(he:∀aa,bH e X.env aa=(do let v<-aa;Γ e.pos;ŉ [v] (truthy v)))(hK:X.K=i.K):PT X e<|tTt X i Φ<|.val m:=by
 refine(C9 h he).imp λσ H Q ⟨env,G,Qm,Em,p,w,c⟩=>?_;refine one p w λv G1 H1 x k1 p1 r q=>?_;let⟨d,e1,q2⟩:=dO q;clear q;refine⟨d,?_,c d G1 H1 k1 p1.hp q2⟩;cases v with
 |non=>cases r;cases e1;rfl
 |bl b=>cases r;cases e1;rfl
 |int b =>
  cases r;cases e1;show fJ (b≠0)=(b != 0)
  by_cases e:b=0<;>simp[e]
 |key _ _=>cases e1
 |str b =>
  cases r;let⟨hl,e1⟩:=Zs e1;cases e1;refine⟨by rw[Zx];exact Ô hl ZU,?_⟩;rw[Zx];by_cases e:b.length=0
  .rw[e];rfl
  .rw[fG e];symm;simpa using (by lia:¬ ((b.length:Int)=0))
 |tup xs =>
  cases e1;cases r with
  |tup hp hr =>refine .inr (.inl ⟨_,by rw[hK];exact Zk hp,?_⟩);cases hr<;>rfl
 |scr ns =>
  cases e1;cases r with
  |scr h =>refine .inl ⟨_,by rw[hK];exact Yk h,?_⟩;cases ns<;>rfl
 |ref a =>
  cases r.ref_inv
  replace e1:(match G1 a with|some (.lst xs)=>dF (!xs.isEmpty)|some (.dct kvs)=>dF (!kvs.isEmpty)|_=>dG)=dF d:=e1
  cases z:G1 a with
  |none=>rw[z]at e1;cases e1
  |some o =>
   rw[z]at e1;cases o with
   |lst xs =>cases e1;let⟨vs,h1,h2⟩:=p1.hp a _ z;refine .inl ⟨vs,fk.of h1,?_⟩;cases h2<;>rfl
   |dct kvs =>cases e1;let⟨ps,h1,h2⟩:=p1.hp a _ z;refine .inr<|.inr ⟨ps,h1,?_⟩;cases h2<;>rfl
   |_=>cases e1
variable {X:Cx}{i:Inf}{P:fz.Pg}{n:Nat}{c:Md}{Φ:fz.Fs}
variable {C:String}
def OV{o:Option fz.Ob}(h:fz.excOf o=dF C):o=dF (.exc C):=by
 cases o with
 |none=>cases h
 |some o=>cases o with
  |exc D=>cases h;rfl
  |_=>cases h
def Az{G:fz.Hs}{v:fz.Val}(h:fz.excV G v=dF C):∃a,v=.ref a/\G a=dF (.exc C):=by
 cases v with
 |ref a=>exact⟨a,rfl,OV h⟩
 |_=>cases h
variable {m:fz.E} {Ts:List String}
def N2{σ:St}{H:Hp}{Q:VK}{W:VK}(h:tE X i Φ (.bi (.isx Ts)<|.cons m .nil) σ H Q)
  (f:∀C a ad G1 H1,i.xc C ad->H1 a=dF (xcO a<|.ref ad)->RH i G1 H1->(∀H2,ee H1 H2->RH i G1 H2->Q (.bl<|Ts.any<|fz.fj C) H2)->W (.ref a) H1):tE X i Φ m σ H W:=by
 let⟨env,G,Qm,Em,p,w,c⟩:=h;refine one p w λv G1 H1 x k1 p1 r q=>?_
 replace q:(fz.Rs.ofO<|(fz.excV G1 v).map λc=>.bl<|Ts.any<|fz.fj c).wp G1 Qm:=q
 cases z:fz.excV G1 v with
 |none=>rw[z]at q;simp[fz.Rs.ofO]at q
 |some C =>rw[z]at q;simp only[Ĵ,fz.Rs.ofO,fz.Rs.wp_val]at q;let⟨a,rfl,e⟩:=Az z;cases r.ref_inv;let⟨ad,hx,ha⟩:=p1.hp a _ e;exact f C a ad G1 H1 hx ha p1.hp λH2 k2 g2=>c _ G1 H2 _ (k1.trans k2) g2 (.bl _) q
variable {e:Expr} {p:Pos} {p2:Pos} {ç:Pos}
def IU{T:String}{D:Ê}(Z:Xls X i c)(hk:X.K=i.K)(he:PE X e<|tE X i Φ m)(hg:Gl X "isinstance")(hm:X.mg "isinstance" = dG)(hg2:Gl X<|fK T)(hm2:X.mg (fK T)=dF (.ref D))
  (hD:∀C a,i.xc C a->PySem.W.kitOne i.K (.ref a) (.ref D)=dF (fz.fj C T)) (aI:(fK T==("__debug__" : Str))=dJ) (ł:Î [e,.Name (fK T) p2] X.env=(dJ,eval e X.env)::Î [.Name (fK T) p2] X.env) :
  PE X (.Call (.Name "isinstance" p) [e,.Name (fK T) p2] [] ç) (tE X i Φ<|.bi (.isx [T])<|.cons m .nil):=by
 refine(Zt Ay hg hm (by kernel_rfl) (Zo he (Zo (Mq (v:=.ref D) hg2 hm2 rfl aI) fi) ł) (he:=ł)).imp λσ H Q h=>?_;change tE X i Φ m σ H _;refine N2 h λC a ad G1 H1 hx ha g q=>?_;refine⟨a,ad,D,fz.fj C T,rfl,ha,by rw[hk];exact(Z.xc C ad hx).1,by rw[hk];exact hD C ad hx,?_⟩;have:=q H1 (ee.refl _) g;simpa using this
def Hx(Z:Xls X i c)(hk:X.K=i.K)(he:PE X e<|tE X i Φ m)(hg:Gl X "isinstance")(hm:X.mg "isinstance" = dG)(hg2:Gl X "ValueError")(hm2:X.mg "ValueError" = dG)
  (ł:Î [e,.Name "ValueError" p2] X.env=(dJ,eval e X.env)::Î [.Name "ValueError" p2] X.env) :
  PE X (.Call (.Name "isinstance" p) [e,.Name "ValueError" p2] [] ç) (tE X i Φ<|.bi (.isx ["ValueError"])<|.cons m .nil):=by
 refine(Zt Oh hg hm (by kernel_rfl) (Zo he (Zo (Ua (v:=.ty "ValueError") hg2 hm2 (by kernel_rfl) rfl) fi) ł) (he:=ł)).imp λσ H Q h=>?_;change tE X i Φ m σ H _;refine N2 h λC a ad G1 H1 hx ha g q=>?_;refine⟨a,ad,"ValueError",dI,rfl,ha,by rw[hk];exact(Z.xc C ad hx).1,by rw[hk];exact(Z.xc C ad hx).2,?_⟩;have:=q H1 (ee.refl _) g;have e:fz.fj C "ValueError" = dI:=by simp[fz.fj]
 simpa[e]using this
def BQ(hT:∀T∈Ts,Gl X (fK T)/\(fK T==("__debug__" : Str))=dJ/\∃D,X.mg (fK T)=dF (.ref D)/\∀C a,i.xc C a->PySem.W.kitOne i.K (.ref a) (.ref D)=dF (fz.fj C T))(f:Nat->Pos):∀k,∃Ds:List Ê,
  PA X ((Ts.zipIdx k).map λp=>.Name (fK p.1)<|f p.2) (λ_ H Q=>Q (Ds.map V.ref) H)/\Ds.length=Ts.length/\∀C a,i.xc C a->PySem.W.kitAny i.K (.ref a) (Ds.map Value.ref)=dF (Ts.any<|fz.fj C):=by
 induction Ts with
 |nil=>exact λ_=>⟨[],fi,rfl,λ_ _ _=>rfl⟩
 |cons T Ts ih =>
  intro k;let⟨Ds,h1,h2,h3⟩:=ih (λT h=>hT T<|.tail _ h)<|k+1;let⟨q1,q2,D,q3,q4⟩:=hT T<|.head _;refine⟨D::Ds,?_,by rw[Ç,Ç,h2],λC a hx=>?_⟩
  .rw[List.zipIdx_cons,Í];exact Zo (Mq (v:=.ref D) q1 q3 rfl q2) h1
  .rw[Í,PySem.W.kitAny,q4 C a hx,ĥ];cases fz.fj C T with
   |true=>rfl
   |false=>exact h3 C a hx
def IQ{kk:Nat}{f:Nat->Pos}(Z:Xls X i c)(hk:X.K=i.K)(he:PE X e<|tE X i Φ m)(hg:Gl X "isinstance")(hm:X.mg "isinstance" = dG)(hl:Ts.length<=20)
  (hT:∀T∈Ts,Gl X (fK T)/\(fK T==("__debug__" : Str))=dJ/\∃D,X.mg (fK T)=dF (.ref D)/\∀C a,i.xc C a->PySem.W.kitOne i.K (.ref a) (.ref D)=dF (fz.fj C T))
  (ł:∀ts,Î [e,.Tuple ts kk p2] X.env=(dJ,eval e X.env)::Î [.Tuple ts kk p2] X.env) :
  PE X (.Call (.Name "isinstance" p) [e,.Tuple (Ts.zipIdx.map λp=>.Name (fK p.1)<|f p.2) kk p2] [] ç) (tE X i Φ<|.bi (.isx Ts)<|.cons m .nil):=by
 let⟨Ds,h1,h2,h3⟩:=BQ hT f 0;refine(Zt N7 hg hm (by kernel_rfl) (Zo he (Zo (Dc h1) fi)<|ł _) (he:=ł _)).imp λσ H Q h=>?_;change tE X i Φ m σ H _;refine N2 h λC a ad G1 H1 hx ha g q=>?_;refine⟨by rw[À,h2];unfold Ü;lia,λt ht=>?_⟩;have ŝ:a≠t:=λz=>by rw[z,ht]at ha;cases ha
 refine⟨a,ad,t,Ds,Ts.any<|fz.fj C,rfl,by rw[dL ŝ];exact ha,by rw[hk];exact(Z.xc C ad hx).1,dM,by rw[hk];exact h3 C ad hx,?_⟩;exact q _ (ee.new ht)<|Xc g ht
abbrev Md.gn(c:Md)(y:String):Bool:=c.gl (fK y)&&nm (fK y)
abbrev Wf:fz.Bi->Bool
 |.len=>dI
 |.int=>dI
 |.abs=>dI
 |.min2=>dI
 |.max2=>dI
 |.all=>dI
 |.list=>dI
 |.tuple=>dI
 |.minP=>dI
 |.maxP=>dI
 |.sortedI=>dI
 |_=>dJ
abbrev EY:fz.Bi->Option String
 |.isi [T]=>dF T
 |_=>dG
abbrev DQ:fz.Bi->Option (List String)
 |.isx Ts=>dF Ts
 |_=>dG
abbrev Wi:fz.Bi->Bool
 |.lenSet=>dI
 |_=>dJ
abbrev W2:fz.Bi->Bool
 |_=>dJ
abbrev EV:fz.Bi->Str
 |.listRev=>"reversed"
 |.sortedSet=>"set"
 |_=>"range"
abbrev Um:fz.Bi->Bool
 |_=>dJ
abbrev UM:fz.Bi->Bool
 |_=>dJ
abbrev M3:fz.Bi->String
 |.isc T=>T
 |_=>""
abbrev MY:fz.Bi->Bool
 |.minD=>dI
 |_=>dJ
abbrev Bu:fz.Bi->Option (List String)
 |_=>dG
abbrev Md.xn(c:Md)(T:String):Bool:=(c.xs.contains T||T == "ShutError")&&c.gn T
abbrev Ww:fz.Bi->Bool
 |.len=>dI
 |.int=>dI
 |.abs=>dI
 |.list=>dI
 |.tuple=>dI
 |_=>dJ
abbrev ET(c:Md)(Ts:List String):Bool:=match Ts with
 |[T]=>c.xn T||(T == "ValueError" && c.gl (fK T))
 |Ts=>Ts.all c.xn&&fJ (Ts.length<=20)
abbrev CW:fz.Bm->Option Nat
 |.append=>dF 1
 |.popAt=>dF 1
 |.dget=>dF 1
 |.dpop=>dF 1
 |.dpopD=>dF 2
 |_=>dG
abbrev Uf:fz.Tt->Bool
 |.yes=>dI
 |_=>dJ
abbrev OR:fz.E->Bool
 |.var _=>dI
 |.call _ _=>dI
 |.meth _ _ _ _=>dI
 |.bi _ _=>dI
 |.bm _ _ _=>dI
 |.idx _ _=>dI
 |.fld _ _=>dI
 |.glob _ _=>dI
 |_=>dJ
abbrev QF:fz.E->Bool
 |.cmp _ _ _=>dI
 |.chain _ _ _ _ _=>dI
 |_=>dJ
mutual
noncomputable def okE:fz.E->Md->Expr->Bool
 |.cst v,_,_=>GZ v
 |.var j,c,_=>fJ (j<c.N.length)&&c.vis (c.nmOf j)&&nm (c.nmOf j)
 |.glob y v,c,_=>c.gn y&&fJ (c.cs.lookup y=dF v)
 |.bin _ a b,c,x=>okE a c (kid x 0)&&okE b c (kid x 1)
 |.neg a,c,x=>okE a c<|kid x 0
 |.not a,c,x=>okE a c<|kid x 0
 |.and a b,c,x=>okE a c (kid x 0)&&okE b c (rest (ZQ b) x)&&(!ZQ b||(rest (ZQ b) x).pos==x.pos)
 |.or a b,c,x=>okE a c (kid x 0)&&okE b c (rest (YJ b) x)&&(!YJ b||(rest (YJ b) x).pos==x.pos)
 |.cmp o a b,c,x=>okE a c (kid x 0)&&okE b c (kid x 1)&&(!X0 o||M4 b)
 |.chain o1 o2 a b d,c,x=>okE a c (kid x 0)&&okE b c (kid x 1)&&okE d c (kid x 2) && !X0 o1 && !X0 o2
 |.call f as,c,x=>c.gn f&&c.fs.contains f&&c.cm&&okA as c (sub x).tail
 |.make C as,c,x=>c.gn C&&c.cl.contains C&&c.cm&&fJ (Zc as≠0)&&okA as c (sub x).tail
 |.meth C m o as,c,x=>c.ms.contains (C,m)&&c.cm&&okE o c (kid (kid x 0) 0)&&YX (toX o c<|kid (kid x 0) 0)&&((kid x 0).pos.endLine==x.pos.line)&&fJ (Zc as<20)&&okA as c (sub x).tail
 |.fld o f,c,x=>c.fl.contains f&&okE o c (kid x 0)&&YX (toX o c<|kid x 0)
 | .bi f as,c,x=>(match EY f with
   |some T=>fJ (Zc as=1)&&kinds.contains T&&c.gl "isinstance" && c.gl (fK T)
   |none=>match DQ f with
     |some Ts=>fJ (Zc as=1)&&c.gl "isinstance" && !c.xs.isEmpty&&ET c Ts
     |none=>match Bu f with
       |some Ts=>fJ (Zc as=1)&&c.gl "isinstance" && Ts.all (λT=>kinds.contains T&&c.gl (fK T))&&fJ (Ts.length<=20)
       | none=>if Wi f then fJ (Zc as=1)&&c.gl "len" && c.gl "set" && c.cm else if W2 f then fJ (Zc as=1)&&c.gl (Yj f)&&c.gl (EV f)&&c.cm else if MY f then fJ (Zc as=1)&&c.gl "min" && c.cm else if Um f then fJ (Zc as=1)&&c.gl "dict" && c.gl "enumerate" && c.cm else if UM f then fJ (Zc as=1)&&c.gl "isinstance" && c.gn (M3 f)&&c.cl.contains (M3 f)else Wf f&&c.gl (Yj f)&&fJ (Zc as≠0)&&(c.cm||Ww f))&&okA as c (UQ f x)
 |.bm m o as,c,x=>fJ (CW m=dF (Zc as))&&okE o c (kid (kid x 0) 0)&&YX (toX o c<|kid (kid x 0) 0)&&((kid x 0).pos.endLine==x.pos.line)&&okA as c (sub x).tail
 |.idx a b,c,x=>okE a c (kid x 0)&&okE b c (kid x 1)
 |.slc a lo hi,c,x=>okE a c (kid x 0)&&okO lo c (kid (kid x 1) 0)&&okO hi c (kid (kid x 1) 1)
 |.tup es,c,x=>okA es c (sub x)&&fJ (Zc es<=1000)
 |.lst es,c,x=>okA es c (sub x)&&fJ (Zc es<=1000)
 |.sortT a,c,x=>c.gl "sorted" && okE a c (kid x 1)
 |.dct es,c,x=>okA es c (sub x)&&JS es&&fJ (esL es<=30)
 |.ife t a b,c,x=>okT t c (kid x 0)&&okE a c (kid x 1)&&okE b c (kid x 2)
 |.comp ô m p it t e,c,x=>(OP m p&&(Y6<|kid x 1).length==m)&&c.cm&&Yy (scp x) c.sc c.N (Y6<|kid x 1) ô&&(scp x).kind == .function&&okI it c (kid x 2) (!ZF p)&&okE e (c.blk (scp x) (Y6<|kid x 1) ô) (kid x 0)&&(Uf t||okT t (c.blk (scp x) (Y6<|kid x 1) ô) (kid x 3))
 |_,_,_=>dJ
noncomputable def okA:fz.Es->Md->List Expr->Bool
 |.nil,_,_=>dI
 |.cons e es,c,xs=>okE e c (xs.headD dE)&&okA es c xs.tail
noncomputable def okJ:fz.Es->Md->List Expr->Bool
 |.nil,_,_=>dI
 |.cons e es,c,xs=>(AX e||okE e c (kid (xs.headD dE) 0))&&okJ es c xs.tail
noncomputable def okO:fz.Oe->Md->Expr->Bool
 |.none,_,_=>dI
 |.some e,c,x=>okE e c x
noncomputable def okT:fz.Tt->Md->Expr->Bool
 |.yes,_,_=>dJ
 |.val e,c,x=>okE e c x&&(OR e||QF e)
 |.not t,c,x=>okT t c<|kid x 0
 |.and a b,c,x=>okT a c (kid x 0)&&okT b c (rest (Zr b) x)&&(!Zr b||(rest (Zr b) x).pos==x.pos)
 |.or a b,c,x=>okT a c (kid x 0)&&okT b c (rest (ZI b) x)&&(!ZI b||(rest (ZI b) x).pos==x.pos)
noncomputable def okI:fz.It->Md->Expr->Bool->Bool
 |.seq e,c,x,_=>okE e c x
 |.range a,c,x,_=>c.gl "range" && okE a c (kid x 1)
 |.range2 a b,c,x,_=>c.gl "range" && okE a c (kid x 1)&&okE b c (kid x 2)
 |.enumL e,c,x,t=>t&&c.gl "enumerate" && okE e c (kid x 1)
 |.enum e,c,x,t=>t&&c.gl "enumerate" && okE e c (kid x 1)
 |_,_,_,_=>dJ
end
variable {X:Cx}{i:Inf}{P:fz.Pg}{n:Nat}{c:Md}
variable {f:fz.Bi} {e:Expr} {es:List Expr} {q:Pos} {p:Pos} {l:Nat}
def Eg(g:Gd X i P n c)(hp:Wf f=dI)(cz:(c.cm||Ww f)=dI){as:fz.Es}(hg:Gl X<|Yj f)(ha:PA X (e::es)<|tAr X i (fz.wF P n) as l)
  (he:Î (e::es) X.env=(dJ,eval e X.env)::Î es X.env) (hpl:(Č p<|Î es X.env).any (·.1)=dJ):PE X (.Call (.Name (Yj f) q) (e::es) [] p)<|tE X i (fz.wF P n)<|.bi f as:=by
 have hc:Ww f=dJ->X.calm=dI:=λz=>g.calm (by rw[z,aY]at cz;exact cz);cases f with
 |len=>exact(Zt ((call_len_seq.or MM).or UZ) hg (g.bl _<|by simp[blts,Yj]) (by kernel_rfl) ha (he:=he) (hpl:=hpl)).imp (Xv<|by rw[g.K];exact LM)
 |int=>exact(XC (call_int1.or Kn) hg (g.bl _<|by simp[blts,Yj]) (by kernel_rfl) ha (he:=he) (hpl:=hpl)).imp<|Xv Ii
 |abs=>exact(Zt B5 hg (g.bl _<|by simp[blts,Yj]) (by kernel_rfl) ha (he:=he) (hpl:=hpl)).imp<|Xv L5
 |min2=>exact(Zt (Aj<|hc rfl) hg (g.bl _<|by simp[blts,Yj]) (by kernel_rfl) ha (he:=he) (hpl:=hpl)).imp<|Xv Gy
 |minP=>exact(Zt (AL<|hc rfl) hg (g.bl _<|by simp[blts,Yj]) (by kernel_rfl) ha (he:=he) (hpl:=hpl)).imp (Xv<|by rw[g.K];exact EW)
 |maxP=>exact(Zt (AS<|hc rfl) hg (g.bl _<|by simp[blts,Yj]) (by kernel_rfl) ha (he:=he) (hpl:=hpl)).imp (Xv<|by rw[g.K];exact FE)
 |max2=>exact(Zt (U8<|hc rfl) hg (g.bl _<|by simp[blts,Yj]) (by kernel_rfl) ha (he:=he) (hpl:=hpl)).imp<|Xv ED
 |all=>exact(Zt (BE<|hc rfl) hg (g.bl _<|by simp[blts,Yj]) (by kernel_rfl) ha (he:=he) (hpl:=hpl)).imp (Xv<|by rw[g.K];exact Lr)
 |list=>exact(XC Mj hg (g.bl _<|by simp[blts,Yj]) (by kernel_rfl) ha (he:=he) (hpl:=hpl)).imp (Xv<|by rw[g.K];exact Ei)
 |sortedI=>exact(Zt (call_sorted.or<|Mr<|hc rfl) hg (g.bl _<|by simp[blts,Yj]) (by kernel_rfl) ha (he:=he) (hpl:=hpl)).imp (Xv<|by rw[g.K];exact OB)
 |tuple=>exact(XC Kh hg (g.bl _<|by simp[blts,Yj]) (by kernel_rfl) ha (he:=he) (hpl:=hpl)).imp (Xv<|by rw[g.K];exact BZ)
 |_=>cases hp
variable {T:String}
def Ik(h:EY f=dF T):f=.isi [T]:=by
 cases f with
 |isi Ts =>
  cases Ts with
  |nil=>cases h
  |cons a r=>cases r with
   |nil=>cases h;rfl
   |cons _ _=>cases h
 |_=>cases h
variable {m:fz.E} {ç:Pos}
def Dl(g:Gd X i P n c){p2:Pos}(hT:T∈kinds)(h2:c.gl "isinstance" = dI)(h5:c.gl (fK T)=dI)(he:PE X e<|tE X i (fz.wF P n) m)(ł:Î [e,.Name (fK T) p2] X.env=(dJ,eval e X.env)::Î [.Name (fK T) p2] X.env) :
  PE X (.Call (.Name "isinstance" p) [e,.Name (fK T) p2] [] ç) (tE X i (fz.wF P n)<|.bi (.isi [T])<|.cons m .nil):=by
 have de:=hT;simp only[kinds,Æ,å,or_false]at de;refine Px hT he g.K (g.gl h2) (g.bl _<|by simp[blts]) (g.gl h5) ?_ ?_ ?_ ?_ ł
 .rcases de with rfl|rfl|rfl|rfl|rfl|rfl<;>exact g.bl _ (by simp[blts])
 .rcases de with rfl|rfl|rfl|rfl|rfl|rfl<;>kernel_rfl
 .rcases de with rfl|rfl|rfl|rfl|rfl|rfl<;>decide
 .rcases de with rfl|rfl|rfl|rfl|rfl|rfl<;>decide
variable {Ts:List String}
def I0(h:DQ f=dF Ts):f=.isx Ts:=by
 cases f with
 |isx Us=>cases h;rfl
 |_=>cases h
def Gd.xnm(g:Gd X i P n c)(hx:c.xs≠[])(h:c.xn T=dI):Gl X (fK T)/\(fK T==("__debug__" : Str))=dJ/\∃D,X.mg (fK T)=dF (.ref D)/\∀C a,i.xc C a->PySem.W.kitOne i.K (.ref a) (.ref D)=dF (fz.fj C T):=by unfold Md.xn Md.gn at h;rw[bAq,bAq]at h;let⟨D,h1,h2⟩:=(g.xl hx).kn T h.1;exact⟨g.gl h.2.1,(X5 h.2.2).1,D,h1,λC a z=>(h2 C a z).1⟩
def DH(g:Gd X i P n c){y:Expr}(h1:c.gl "isinstance" = dI)(hx:c.xs≠[])(h2:ET c Ts=dI)(he:PE X e<|tE X i (fz.wF P n) m)(ł:∀{es},Î (e::es) X.env=(dJ,eval e X.env)::Î es X.env) :
  PE X (.Call (.Name "isinstance" p) [e,Gj Ts y] [] ç) (tE X i (fz.wF P n)<|.bi (.isx Ts)<|.cons m .nil):=by
 have many:(Ts.all c.xn&&fJ (Ts.length<=20))=dI->PE X (.Call (.Name "isinstance" p) [e,.Tuple (Ts.zipIdx.map λp=>.Name (fK p.1) (kid y p.2).pos) (num y) y.pos] [] ç) (tE X i (fz.wF P n)<|.bi (.isx Ts)<|.cons m .nil):=λh=>by rw[bAq,fH,ö]at h;exact IQ (f:=λk=>(kid y k).pos) (g.xl hx) g.K he (g.gl h1) (g.bl _<|by simp[blts]) h.2 (λT hT=>g.xnm hx<|h.1 T hT) λts=>ł
 match Ts,h2,many with
 |[],h2,many=>exact many h2
 |[T],h2,many =>
  have h2:(c.xn T||(T == "ValueError" && c.gl (fK T)))=dI:=h2;by_cases hT:c.xn T=dI
  .obtain⟨q1,q2,D,q3,q4⟩:=g.xnm hx hT;exact IU (g.xl hx) g.K he (g.gl h1) (g.bl _<|by simp[blts]) q1 q3 q4 q2 ł
  .rw[Ϩ.mpr hT,Bool.false_or,bAq]at h2;cases eq_of_beq h2.1;exact Hx (g.xl hx) g.K he (g.gl h1) (g.bl _<|by simp[blts]) (g.gl h2.2) (g.bl _<|by simp[blts]) ł
 |T::U::Us,h2,many=>exact many h2
variable {o:Expr} {mo:fz.E} {Ń:Pos} {ĺ:Pos}
def Dn(g:Gd X i P n c){m:fz.Bm}(h:CW m=dF 0)(ho:PE X o<|tE X i (fz.wF P n) mo)(hb:∀f,Ğ o f X.env (eval o X.env)=eval o X.env)(hl:(Ń.endLine==ĺ.line)=dI) :
  PE X (.Call (.Attribute o (Iq m) Ń) [] [] ĺ) (tE X i (fz.wF P n)<|.bm m mo .nil):=by
 cases m with
 |_=>cases h
def Ev(g:Gd X i P n c){m:fz.Bm}{k:Nat}(h:CW m=dF (k+1)){ms:fz.Es}(ho:PE X o<|tE X i (fz.wF P n) mo)(ha:PA X (e::es)<|tAr X i (fz.wF P n) ms l)(hb:∀f,Ğ o f X.env (eval o X.env)=eval o X.env)(hl:(Ń.endLine==ĺ.line)=dI)
  (ah:((Č ĺ<|Î (e::es) X.env).all (λx=>!x.1)&&(ũ ĺ<|Ľ [] X.env).all (λx=>x.1.isSome)&&fJ ((e::es).length+([]:List aw).length+(if([]:List aw).isEmpty then 0 else 1)<30))=dI)
  (hs:Î (e::es) X.env=(dJ,eval e X.env)::Î es X.env) (hpl:(Č ĺ<|Î es X.env).any (·.1)=dJ) :
  PE X (.Call (.Attribute o (Iq m) Ń) (e::es) [] ĺ) (tE X i (fz.wF P n)<|.bm m mo ms):=by
 have u1:X.A.units+1<Ĥ:=by have:=g.un;lia
 cases m with
 |append=>exact Cz g.K PySem.F.plainAttrs_list PySem.F.slot_list_append PySem.F.type_list_append AK (Qq rfl) Ht ho ha (hb _) ah hl hs hpl
 |popAt=>exact Cz g.K PySem.F.plainAttrs_list PySem.F.slot_list_pop PySem.F.type_list_pop Cy (Qq rfl) FZ ho ha (hb _) ah hl hs hpl
 |dget=>exact Cz g.K PySem.F.plainAttrs_dict PySem.F.slot_dict_get PySem.F.type_dict_get (BP u1) (Iu rfl) Pm ho ha (hb _) ah hl hs hpl
 |dpop=>exact Cz g.K PySem.F.plainAttrs_dict PySem.F.slot_dict_pop PySem.F.type_dict_pop mt_dpop (Iu rfl) LV ho ha (hb _) ah hl hs hpl
 |dpopD=>exact Cz g.K PySem.F.plainAttrs_dict PySem.F.slot_dict_pop PySem.F.type_dict_pop (mt_dpop.or CU) (Iu rfl) E3 ho ha (hb _) ah hl hs hpl
 |_=>cases h
variable {sc:ů} {ô:List Nat}
def Gd.blk(g:Gd X i P n c){x:List Str}(hb:Yy sc c.sc c.N x ô=dI)(hk:sc.kind=.function)(cl:List<|Str×Ê)(C:Ê)(s:Ä)(H:Hp)(ex:List Ê) :
  Gd (Zu X sc (Ye X x ô) cl C s H ex) i P n (c.blk sc x ô) where
 K:=g.K
 N:=by show Ye X x ô=_;unfold Ye;rw[g.N];rfl
 sc:=by show bB sc X.env=_;unfold bB Env.kindOf;rw[g.sc];rfl
 nd:=by have B:=OX g.sc g.N hk hb;have:=B.nd;unfold Ye at this;rw[g.N]at this;exact this
 un:=g.un
 calm:=g.calm
 room:=g.room
 bl:=g.bl
 dfs:=g.dfs
 cst:=g.cst
 kl:=⟨g.kl.A,g.kl.F,g.kl.mkc,g.kl.mth⟩
 xl:=λh=>⟨(g.xl h).xc,(g.xl h).rs,(g.xl h).kn⟩
def Gd.pt(g:Gd X i P n c)(cz:c.cm=dI){xs:List Str}(hb:Yy sc c.sc c.N xs ô=dI)(hk:sc.kind=.function){p:fz.Pt}(hp:OP xs.length p=dI)(x:Expr)(cl:List<|Str×Ê)(C:Ê)(s:Ä)(H:Hp)(ex:List Ê) :
  PG (Zu X sc (Ye X xs ô) cl C s H ex) (toP p (c.blk sc xs ô) x) (gPt i p):=by
 have B:=OX g.sc g.N hk hb;have G:=g.blk hb hk cl C s H ex;have key:∀j,j<xs.length->A5 (Zu X sc (Ye X xs ô) cl C s H ex) (c.blk sc xs ô) j:=λj hj=>by
  have e:(c.blk sc xs ô).nmOf j=xs[j]:=by unfold Md.nmOf Md.blk;show(xs++_).getD j _=_;rw[ċ,ü hj,É hj];rfl
  have lo:=lookup_relabel_local (env:=X.env)<|B.own xs[j]<|Ī hj;unfold A5;rw[e];refine⟨?_,.inl lo,.inr lo⟩;show(xs++_)[j]?=_;rw[ü hj,É hj]
 refine GF G.K (by rw[G.N];exact G.nd) (g.calm cz) ?_;cases p with
 |one j=>exact key j<|of_decide_eq_true hp
 |many js=>exact λj hj=>key j<|of_decide_eq_true<|ö.mp hp j hj
 |nest j js=>cases hp
variable {b:fz.E}
def Ud(h:ZQ b=dI):∃a d,b=.and a d:=by
 cases b with
 |and a d=>exact⟨a,d,rfl⟩
 |_=>cases h
def CQ(h:YJ b=dI):∃a d,b=.or a d:=by
 cases b with
 |or a d=>exact⟨a,d,rfl⟩
 |_=>cases h
def Bo{b:fz.Tt}(h:Zr b=dI):∃a d,b=.and a d:=by
 cases b with
 |and a d=>exact⟨a,d,rfl⟩
 |_=>cases h
def Ep{b:fz.Tt}(h:ZI b=dI):∃a d,b=.or a d:=by
 cases b with
 |or a d=>exact⟨a,d,rfl⟩
 |_=>cases h
def Mh{b:Bool}(h:(!b||p==q)=dI)(hb:b=dI):p=q:=by rw[hb]at h;exact eq_of_beq h
variable {Φ:fz.Fs} {x:Expr}
def DA(hp:(!ZQ b||(rest (ZQ b) x).pos==x.pos)=dI)(h:PE X (toX b c<|rest (ZQ b) x)<|tE X i Φ b):PE X (.BoolOp .And (flat (ZQ b)<|toX b c<|rest (ZQ b) x) x.pos)<|tE X i Φ b:=by
 cases z:ZQ b with
 |false=>rw[z]at h;exact CA h
 |true =>have e:=Mh hp z;rw[z]at e h;let⟨a,d,rfl⟩:=Ud z;show PE X (.BoolOp .And (sub<|.BoolOp .And _ (rest dI x).pos) x.pos) _;rw[<-e];exact h
def E7(hp:(!YJ b||(rest (YJ b) x).pos==x.pos)=dI)(h:PE X (toX b c<|rest (YJ b) x)<|tE X i Φ b):PE X (.BoolOp .Or (flat (YJ b)<|toX b c<|rest (YJ b) x) x.pos)<|tE X i Φ b:=by
 cases z:YJ b with
 |false=>rw[z]at h;exact CA h
 |true =>have e:=Mh hp z;rw[z]at e h;let⟨a,d,rfl⟩:=CQ z;show PE X (.BoolOp .Or (sub<|.BoolOp .Or _ (rest dI x).pos) x.pos) _;rw[<-e];exact h
def K1(b:Bool){e:fz.E}(h:b=ZQ e\/b=YJ e):∃y ys,flat b (toX e c x)=y::ys:=by
 cases b with
 |false=>exact⟨_,_,rfl⟩
 |true =>
  rcases h with h|h
  .obtain⟨a,d,rfl⟩:=Ud h.symm;exact⟨_,_,rfl⟩
  .obtain⟨a,d,rfl⟩:=CQ h.symm;exact⟨_,_,rfl⟩
variable {i:Inf}{P:fz.Pg}{n:Nat}
variable {X:Cx} {c:Md} {Φ:fz.Fs} {b:fz.Tt} {x:Expr}
def AD(hp:(!Zr b||(rest (Zr b) x).pos==x.pos)=dI)(h:PT X (toT b c<|rest (Zr b) x)<|tTt X i Φ b)(h2:(Zr b||ZI b)=dI->PW X (toT b c<|rest (Zr b) x) (tTt X i Φ b)) :
  ∃y ys,flat (Zr b) (toT b c<|rest (Zr b) x)=y::ys/\PW X (.BoolOp .And (y::ys) x.pos) (tTt X i Φ b):=by
 cases z:Zr b with
 |false=>rw[z]at h;exact⟨_,_,rfl,FI h⟩
 |true =>have e:=Mh hp z;rw[z]at e h2;let⟨a,d,rfl⟩:=Bo z;refine⟨_,_,rfl,?_⟩;rw[<-e];exact h2 rfl
def Cu(hp:(!ZI b||(rest (ZI b) x).pos==x.pos)=dI)(h:PT X (toT b c<|rest (ZI b) x)<|tTt X i Φ b)(h2:(Zr b||ZI b)=dI->PW X (toT b c<|rest (ZI b) x) (tTt X i Φ b)) :
  ∃y ys,flat (ZI b) (toT b c<|rest (ZI b) x)=y::ys/\PW X (.BoolOp .Or (y::ys) x.pos) (tTt X i Φ b):=by
 cases z:ZI b with
 |false=>rw[z]at h;exact⟨_,_,rfl,Lx h⟩
 |true =>have e:=Mh hp z;rw[z]at e h2;let⟨a,d,rfl⟩:=Ep z;refine⟨_,_,rfl,?_⟩;rw[<-e];exact h2 rfl
variable {e:fz.E}
def Sa(h:AX e=dI):∃s,e=.cst (.str s):=by
 cases e with
 |cst v=>cases v with
  |str s=>exact⟨s,rfl⟩
  |_=>cases h
 |_=>cases h
variable {ô:List Nat} {p:fz.Pt} {it:fz.It} {ç:Pos}
def K5(g:Gd X i P n c){mt:fz.Tt}{me:fz.E}{bh ś aV:Expr}{x:List Str}{aJ:List Expr}{sc:ů}(cz:c.cm=dI)(h1:Yy sc c.sc c.N x ô=dI)(hk:sc.kind=.function)(hp:OP x.length p=dI)
  (hi:PI X aV ś<|tIt X i (fz.wF P n) it) (hs:∀y,Ē ś X.env y=pure y) (hG:∀cl C s H ex,PG (Zu X sc (Ye X x ô) cl C s H ex) aV<|gPt i p)
  (hE:∀cl C s H ex,PE (Zu X sc (Ye X x ô) cl C s H ex) bh<|tE0 i (fz.wF P n) me) (hI:∀cl C s H ex,PIfs (Zu X sc (Ye X x ô) cl C s H ex) aJ<|tT0 i (fz.wF P n) mt) :
  PE X (.ListComp bh [⟨aV,ś,aJ,0⟩] sc ç) (tE X i (fz.wF P n)<|.comp ô x.length p it mt me)/\
   ∀(y:Str) (py Τ:Pos) (j:Nat),X.N[j]?=dF y->L2.Loc X.env.scope y->(X.fn y=dI\/X.env.scope.names.lookup y=dF .local)->ō (.ListComp bh [⟨aV,ś,aJ,0⟩] sc ç) (dF<|.Name y py) Τ.line X.env=pure dI->PS X (.Assign [.Name y py] (.ListComp bh [⟨aV,ś,aJ,0⟩] sc ç) Τ) (tSt X i (fz.wF P n)<|.set (.one j)<|.comp ô x.length p it mt me):=by
 have B:=OX g.sc g.N hk h1;have hc:=g.calm cz;refine⟨(Bx hc B hi hG hI hE hs).imp<|UA hp,λy py Τ j hj hl hf hsw=>?_⟩;refine(BR (by rw[g.N];exact g.nd) hj hl hc B hi hG hI hE hs hsw hf).imp λD σ H ⟨env,G,N,R,Bk,Ct,Xe,p,w,e⟩=>?_;refine UA hp σ H _ ⟨env,G,_,Xe env,p.pre,w,λv G1 H1 x k1 g1 r1 w1=>?_⟩;let⟨Ň,e2,w2⟩:=dO w1;clear w1;cases e2;exact e.nx _ _ G1 H1 k1 g1 ((p.en.keep k1).set r1 j) w2
def NW{j:Nat}(hN:X.N=c.N)(h:j<c.N.length):X.N[j]?=dF (c.nmOf j):=by rw[hN];unfold Md.nmOf;rw[ċ,É h];rfl
def ES{o:Expr}{m:Str}{Ń:Pos}{args:List Expr}{env:Env}(hb:Ğ o m env (eval o env)=eval o env)(ah:bS (args.length+0) (Č ç<|Î args env) (ũ ç<|Ľ [] env)=dI)(hl:(Ń.endLine==ç.line)=dI) :
  eval (.Call (.Attribute o m Ń) args [] ç) env=(do
    let ov<-eval o env
    Γ Ń.atName
    let (f,first)<-ŉ [ov] (Ξ ov m<|do return (<-importBound o env).getD dI)
    bJ ç f first (Č ç<|Î args env) (ũ ç<|Ľ [] env)):=by
 show(do
   let ov<-Ğ o m env (eval o env)
   Γ Ń.atName
   methodCall o m Ń ç env ov (args.length+0) (Č ç<|Î args env) (ũ ç<|Ľ [] env))=_
 rw[hb];unfold methodCall methodCallPos;rw[ah,hl];rfl
def Hr(env:Env)(ç:Pos){as:fz.Es}{xs:List Expr}(h:Zc as<20):bS ((toA as c xs).length+0) (Č ç<|Î (toA as c xs) env) (ũ ç<|Ľ [] env)=dI:=by unfold bS;rw[bAq,bAq,fH,XD];refine⟨⟨JX env ç as c xs,rfl⟩,?_⟩;show Zc as+0+0<30;lia
def Qd{m:fz.Tt}(h:Uf m=dJ->PT X (toT m c x) (tTt X i (fz.wF P n) m)):PIfs X (toF m c x)<|tT0 i (fz.wF P n) m:=by
 cases m with
 |yes=>exact Lk
 |val e=>exact Wn<|pt0<|h rfl
 |not t=>exact Wn<|pt0<|h rfl
 |and a b=>exact Wn<|pt0<|h rfl
 |or a b=>exact Wn<|pt0<|h rfl
def Nl(c:Md):∀(es:fz.Es) (xs:List Expr),JS es=dI->(X4<|toA es c xs).all (·.isSome)=dI/\(X4<|toA es c xs).length=(CG<|toA es c xs).length/\2*(X4<|toA es c xs).length=esL es
 |.nil,_,_=>⟨rfl,rfl,rfl⟩
 |.cons _ .nil,_,h=>by cases h
 |.cons k (.cons v r),xs,h=>by
  let⟨h1,h2,h3⟩:=Nl c r xs.tail.tail h;refine⟨?_,?_,?_⟩
  .show(dI&&(X4<|toA r c xs.tail.tail).all (·.isSome))=dI;rw[h1];rfl
  .show(X4<|toA r c xs.tail.tail).length+1=(CG<|toA r c xs.tail.tail).length+1;rw[h2]
  .show 2*((X4<|toA r c xs.tail.tail).length+1)=esL r+1+1;lia
mutual
theorem eE:∀(m:fz.E) (X:Cx) (c:Md) (x:Expr),Gd X i P n c->okE m c x=dI->PE X (toX m c x) (tE X i (fz.wF P n) m)
 |.cst v,X,c,x,g,h=>Lm h
 |.var j,X,c,x,g,h=>by have h:(fJ (j<c.N.length)&&c.vis (c.nmOf j)&&nm (c.nmOf j))=dI:=h;rw[bAq,bAq,fH]at h;let⟨q1,q2,_⟩:=X5 h.2;exact QP (NW g.N h.1.1) (g.vis h.1.2) q1 q2
 |.glob y v,X,c,x,g,h=>by have h:((c.gl (fK y)&&nm (fK y))&&fJ (c.cs.lookup y=dF v))=dI:=h;rw[bAq,bAq,fH]at h;let⟨q1,q2,_⟩:=X5 h.1.2;let⟨u,z,e1,e2,e3⟩:=g.cst _ _ h.2;exact Iw (Mq (g.gl h.1.1) e1 e2 q1) e3
 |.bin o a b,X,c,x,g,h=>by have h:(okE a c (kid x 0)&&okE b c (kid x 1))=dI:=h;rw[bAq]at h;exact PL g (eE a X c _ g h.1)<|eE b X c _ g h.2
 |.neg a,X,c,x,g,h=>Qb<|eE a X c _ g h
 |.not a,X,c,x,g,h=>QQ<|eE a X c _ g h
 |.and a b,X,c,x,g,h=>by have h:(okE a c (kid x 0)&&okE b c (rest (ZQ b) x)&&(!ZQ b||(rest (ZQ b) x).pos==x.pos))=dI:=h;rw[bAq,bAq]at h;have h2:=DA h.2<|eE b X c _ g h.1.2;let⟨y,ys,e⟩:=K1 (c:=c) (ZQ b) (e:=b) (x:=rest (ZQ b) x)<|.inl rfl;show PE X (.BoolOp .And (toX a c (kid x 0)::flat (ZQ b) (toX b c<|rest (ZQ b) x)) x.pos) _;rw[e]at h2 ⊢;exact Qv (eE a X c _ g h.1.1) h2
 |.or a b,X,c,x,g,h=>by have h:(okE a c (kid x 0)&&okE b c (rest (YJ b) x)&&(!YJ b||(rest (YJ b) x).pos==x.pos))=dI:=h;rw[bAq,bAq]at h;have h2:=E7 h.2<|eE b X c _ g h.1.2;let⟨y,ys,e⟩:=K1 (c:=c) (YJ b) (e:=b) (x:=rest (YJ b) x)<|.inr rfl;show PE X (.BoolOp .Or (toX a c (kid x 0)::flat (YJ b) (toX b c<|rest (YJ b) x)) x.pos) _;rw[e]at h2 ⊢;exact Ry (eE a X c _ g h.1.1) h2
 |.cmp o a b,X,c,x,g,h=>by have h:(okE a c (kid x 0)&&okE b c (kid x 1)&&(!X0 o||M4 b))=dI:=h;rw[bAq,bAq]at h;exact(No g h.2 (eE a X c _ g h.1.1)<|eE b X c _ g h.1.2).1
 |.chain o1 o2 a b d,X,c,x,g,h=>by have h:(okE a c (kid x 0)&&okE b c (kid x 1)&&okE d c (kid x 2) && !X0 o1 && !X0 o2)=dI:=h;rw[bAq,bAq,bAq,bAq,ę,ę]at h;let⟨⟨⟨⟨h1,h2⟩,h3⟩,h4⟩,h5⟩:=h;exact(JK g h4 h5 (eE a X c _ g h1) (eE b X c _ g h2)<|eE d X c _ g h3).1
 |.call f as,X,c,x,g,h=>by
  have h:((c.gl (fK f)&&nm (fK f))&&c.fs.contains f&&c.cm&&okA as c (sub x).tail)=dI:=h;rw[bAq,bAq,bAq,bAq]at h;let⟨⟨⟨⟨h1,h2⟩,h3⟩,h4⟩,h5⟩:=h;let⟨q1,_,_⟩:=X5 h2;have ha:=eA as X c _ g h5;cases as with
  |nil=>exact D8 g.K (g.dfs _ h3) (g.rm h4) (g.gl h1) q1
  |cons a as=>exact LE g.K (g.dfs _ h3) (g.rm h4) (g.gl h1) q1 ha (Zl ..)<|Z6 ..
 |.make C as,X,c,x,g,h=>by
  have h:((c.gl (fK C)&&nm (fK C))&&c.cl.contains C&&c.cm&&fJ (Zc as≠0)&&okA as c (sub x).tail)=dI:=h;rw[bAq,bAq,bAq,bAq,bAq,fH]at h;let⟨⟨⟨⟨⟨h1,h2⟩,h3⟩,h4⟩,h6⟩,h5⟩:=h;let⟨q1,_,_⟩:=X5 h2;have ha:=eA as X c _ g h5;let⟨a,f,i1,i2,M,hm,D⟩:=g.kl.mkc C h3;cases as with
  |nil=>exact fI rfl h6
  |cons b as=>exact LH g.K i1 i2 M D (g.room h4) (g.gl h1) hm q1 ha (Zl ..)<|Z6 ..
 |.meth C m o as,X,c,x,g,h=>by
  have h:(c.ms.contains (C,m)&&c.cm&&okE o c (kid (kid x 0) 0)&&YX (toX o c<|kid (kid x 0) 0)&&((kid x 0).pos.endLine==x.pos.line)&&fJ (Zc as<20)&&okA as c (sub x).tail)=dI:=h;rw[bAq,bAq,bAq,bAq,bAq,bAq,fH]at h;let⟨⟨⟨⟨⟨⟨h1,h2⟩,h3⟩,h4⟩,h6⟩,h7⟩,h5⟩:=h;have ev:=ES (m:=fK m) (YF h4 _ X.env) (Hr X.env x.pos (c:=c) (xs:=(sub x).tail) h7) h6;have ha:=eA as X c _ g h5;have ho:=eE o X c _ g h3;let⟨a,f,i1,A,M,D⟩:=g.kl.mth C m h1;cases as with
  |nil=>exact EL g.K i1 A M D (g.rm h2) ho ev
  |cons b as=>exact IX g.K i1 A M D (g.rm h2) ho ha (Zl ..) (Z6 ..) ev
 |.fld o f,X,c,x,g,h=>by have h:(c.fl.contains f&&okE o c (kid x 0)&&YX (toX o c<|kid x 0))=dI:=h;rw[bAq,bAq]at h;exact QY g.K g.kl.A (g.kl.F _ h.1.1) (eE o X c _ g h.1.2)<|YF h.2 _ _
 |.bi f as,X,c,x,g,h=>by
  have h:((match EY f with
    |some T=>fJ (Zc as=1)&&kinds.contains T&&c.gl "isinstance" && c.gl (fK T)
    |none=>match DQ f with
      |some Ts=>fJ (Zc as=1)&&c.gl "isinstance" && !c.xs.isEmpty&&ET c Ts
      |none=>match Bu f with
        |some Ts=>fJ (Zc as=1)&&c.gl "isinstance" && Ts.all (λT=>kinds.contains T&&c.gl (fK T))&&fJ (Ts.length<=20)
        | none=>if Wi f then fJ (Zc as=1)&&c.gl "len" && c.gl "set" && c.cm else if W2 f then fJ (Zc as=1)&&c.gl (Yj f)&&c.gl (EV f)&&c.cm else if MY f then fJ (Zc as=1)&&c.gl "min" && c.cm else if Um f then fJ (Zc as=1)&&c.gl "dict" && c.gl "enumerate" && c.cm else if UM f then fJ (Zc as=1)&&c.gl "isinstance" && c.gn (M3 f)&&c.cl.contains (M3 f)else Wf f&&c.gl (Yj f)&&fJ (Zc as≠0)&&(c.cm||Ww f))&&okA as c (UQ f x))=dI:=h
  rw[bAq]at h;cases z:EY f with
  |some T =>
   have h1:=h.1;rw[z]at h1;rw[bAq,bAq,bAq,fH]at h1;let⟨⟨⟨h1,h2⟩,h3⟩,h4⟩:=h1;cases Ik z;cases as with
   |nil=>cases h1
   |cons a as=>cases as with
    |nil =>have h5:(okE a c _&&dI)=dI:=h.2;rw[bAq]at h5;exact Dl g (ā.mp h2) h3 h4 (eE a X c _ g h5.1)<|Zl ..
    |cons b as=>exact fI h1 (by simp[Zc])
  |none =>
   have h1:=h.1;rw[z]at h1
   replace h1:(match DQ f with
     |some Ts=>fJ (Zc as=1)&&c.gl "isinstance" && !c.xs.isEmpty&&ET c Ts
     |none=>match Bu f with
       |some Ts=>fJ (Zc as=1)&&c.gl "isinstance" && Ts.all (λT=>kinds.contains T&&c.gl (fK T))&&fJ (Ts.length<=20)
       | none=>if Wi f then fJ (Zc as=1)&&c.gl "len" && c.gl "set" && c.cm else if W2 f then fJ (Zc as=1)&&c.gl (Yj f)&&c.gl (EV f)&&c.cm else if MY f then fJ (Zc as=1)&&c.gl "min" && c.cm else if Um f then fJ (Zc as=1)&&c.gl "dict" && c.gl "enumerate" && c.cm else if UM f then fJ (Zc as=1)&&c.gl "isinstance" && c.gn (M3 f)&&c.cl.contains (M3 f)else Wf f&&c.gl (Yj f)&&fJ (Zc as≠0)&&(c.cm||Ww f))=dI:=h1
   cases zx:DQ f with
   |some Ts =>
    rw[zx]at h1;rw[bAq,bAq,bAq,fH,ę]at h1;let⟨⟨⟨h1,h3⟩,h4⟩,h5⟩:=h1;cases I0 zx;cases as with
    |nil=>cases h1
    |cons a as=>cases as with
     |nil =>have h6:(okE a c _&&dI)=dI:=h.2;rw[bAq]at h6;exact DH g h3 (by intro z;rw[z]at h4;cases h4) h5 (eE a X c _ g h6.1)<|Zl ..
     |cons b as=>exact fI h1 (by simp[Zc])
   |none =>
    rw[zx]at h1
    replace h1:(match Bu f with
      |some Ts=>fJ (Zc as=1)&&c.gl "isinstance" && Ts.all (λT=>kinds.contains T&&c.gl (fK T))&&fJ (Ts.length<=20)
      | none=>if Wi f then fJ (Zc as=1)&&c.gl "len" && c.gl "set" && c.cm else if W2 f then fJ (Zc as=1)&&c.gl (Yj f)&&c.gl (EV f)&&c.cm else if MY f then fJ (Zc as=1)&&c.gl "min" && c.cm else if Um f then fJ (Zc as=1)&&c.gl "dict" && c.gl "enumerate" && c.cm else if UM f then fJ (Zc as=1)&&c.gl "isinstance" && c.gn (M3 f)&&c.cl.contains (M3 f)else Wf f&&c.gl (Yj f)&&fJ (Zc as≠0)&&(c.cm||Ww f))=dI:=h1
    cases zl:Bu f with
    |some Ts=>cases zl
    |none =>
     rw[zl]at h1;dsimp only at h1;split at h1
     .rename_i cL;have hf:f=.lenSet:=by cases f<;>first|rfl|cases cL
      subst hf;rw[bAq,bAq,bAq,fH]at h1;let⟨⟨⟨h1,h2⟩,h3⟩,h4⟩:=h1;cases as with
      |nil=>cases h1
      |cons a as=>cases as with
       |nil =>have h6:(okE a c _&&dI)=dI:=h.2;rw[bAq]at h6;exact BC (g.calm h4) g.K (eE a X c _ g h6.1) (g.gl h2) (g.bl _<|by simp[blts]) (g.gl h3) (g.bl _<|by simp[blts]) (by rw[Zl];rfl)
       |cons b as=>exact fI h1 (by simp[Zc])
     split at h1
     .rename_i _ cL;exact fI (show dJ=dI from cL) (by decide)
     split at h1
     .rename_i _ _ cL;have hf:f=.minD:=by cases f<;>first|rfl|cases cL
      subst hf;rw[bAq,bAq,fH]at h1;let⟨⟨h1,h2⟩,h4⟩:=h1;cases as with
      |nil=>cases h1
      |cons a as=>cases as with
       |nil =>have h6:(okE a c _&&dI)=dI:=h.2;rw[bAq]at h6;exact IH (g.calm h4) (by have:=g.un;lia) g.K (g.gl h2) (g.bl _<|by simp[blts]) (eE a X c _ g h6.1) (by rw[Zl];rfl)
       |cons b as=>exact fI h1 (by simp[Zc])
     split at h1
     .rename_i _ _ _ cL;exact fI (show dJ=dI from cL) (by decide)
     split at h1
     .rename_i _ _ _ _ cL;exact fI (show dJ=dI from cL) (by decide)
     rw[bAq,bAq,bAq,fH]at h1;let⟨⟨⟨h1,h2⟩,h3⟩,h4⟩:=h1;have ha:=eA as X c _ g h.2;cases as with
     |nil=>exact fI rfl h3
     |cons a as =>
      have e1:toX (.bi f<|.cons a as) c x=.Call (.Name (Yj f) (kid x 0).pos) (toA (.cons a as) c<|UQ f x) [] x.pos:=by cases f<;>first|(cases h1;done)|rfl
      rw[e1];exact Eg g h1 h4 (g.gl h2) ha (Zl ..)<|Z6 ..
 |.bm m o as,X,c,x,g,h=>by
  have h:(fJ (CW m=dF (Zc as))&&okE o c (kid (kid x 0) 0)&&YX (toX o c<|kid (kid x 0) 0)&&((kid x 0).pos.endLine==x.pos.line)&&okA as c (sub x).tail)=dI:=h;rw[bAq,bAq,bAq,bAq,fH]at h;let⟨⟨⟨⟨h1,h2⟩,h3⟩,h4⟩,h5⟩:=h;have ha:=eA as X c _ g h5;have ho:=eE o X c _ g h2;cases as with
  |nil=>exact Dn g h1 ho (λf=>YF h3 f _) h4
  |cons a as =>
   refine Ev g h1 ho ha (λf=>YF h3 f _) h4 ?_ (Zl ..)<|Z6 ..;rw[bAq,bAq,fH];refine⟨⟨JX X.env x.pos (.cons a as) c (sub x).tail,rfl⟩,?_⟩;have e2:(toA (.cons a as) c (sub x).tail).length=Zc (.cons a as):=XD ..;have e3:Zc (.cons a as)<=2:=by
    have:∀m:fz.Bm,∀k,CW m=dF k->k<=2:=by intro m k;cases m<;>intro z<;>first|(cases z;done)|(cases z;decide)
    exact this m _ h1
   show(toA (.cons a as) c (sub x).tail).length+0+0<30;lia
 |.idx a b,X,c,x,g,h=>by have h:(okE a c (kid x 0)&&okE b c (kid x 1))=dI:=h;rw[bAq]at h;exact QR (ix_seq.or<|FM (by have:=g.un;lia)) (by rw[g.K];exact Qx) (eE a X c _ g h.1) (eE b X c _ g h.2)<|B4 _ _ _
 |.slc a lo hi,X,c,x,g,h=>by have h:(okE a c (kid x 0)&&okO lo c (kid (kid x 1) 0)&&okO hi c (kid (kid x 1) 1))=dI:=h;rw[bAq,bAq]at h;exact Qy RZ (by rw[g.K];exact PD) (eE a X c _ g h.1.1) (eO lo X c _ g h.1.2)<|eO hi X c _ g h.2
 |.tup es,X,c,x,g,h=>by have h:(okA es c (sub x)&&fJ (Zc es<=1000))=dI:=h;rw[bAq,fH]at h;exact PQ (by rw[XD];exact h.2)<|eA es X c _ g h.1
 |.key es,X,c,x,g,h=>nomatch h
 |.dctP,X,c,x,g,h=>nomatch h
 |.lst es,X,c,x,g,h=>by have h:(okA es c (sub x)&&fJ (Zc es<=1000))=dI:=h;rw[bAq,fH]at h;exact PF (by rw[XD];exact h.2)<|eA es X c _ g h.1
 |.dct es,X,c,x,g,h=>by
  have h:(okA es c (sub x)&&JS es&&fJ (esL es<=30))=dI:=h;rw[bAq,bAq,fH]at h;let⟨⟨h1,h2⟩,h3⟩:=h;have hp:=eD es X c (sub x) x.pos g h1 h2;cases es with
  |nil=>exact Hh
  |cons k r=>cases r with
   |nil=>cases h2
   |cons v r =>let⟨q1,q2,q3⟩:=Nl c (.cons k<|.cons v r) (sub x) h2;refine QB h2 h3 hp q1 q2 (by intro z;cases z) (by rw[<-q3]at h3;lia)
 |.ife t a b,X,c,x,g,h=>by have h:(okT t c (kid x 0)&&okE a c (kid x 1)&&okE b c (kid x 2))=dI:=h;rw[bAq,bAq]at h;exact P7 (eT t X c _ g h.1.1).1 (eE a X c _ g h.1.2)<|eE b X c _ g h.2
 |.comp ô m p it t e,X,c,x,g,h=>by
  have h:((OP m p&&(Y6<|kid x 1).length == m)&&c.cm&&Yy (scp x) c.sc c.N (Y6<|kid x 1) ô&&(scp x).kind == .function&&okI it c (kid x 2) (!ZF p)&&okE e (c.blk (scp x) (Y6<|kid x 1) ô) (kid x 0)&&(Uf t||okT t (c.blk (scp x) (Y6<|kid x 1) ô) (kid x 3)))=dI:=h;rw[bAq,bAq,bAq,bAq,bAq,bAq]at h;let⟨⟨⟨⟨⟨⟨h1,h2⟩,h3⟩,h4⟩,h5⟩,h6⟩,h7⟩:=h;rw[bAq,beq_iff_eq]at h1;let⟨h1,rfl⟩:=h1;have hk:=eq_of_beq h4;let⟨t1,t2⟩:=MH (c:=c.blk (scp x) (Y6<|kid x 1) ô) p<|kid x 1;let⟨a1,a2⟩:=eI it X c (kid x 2) (toP p (c.blk (scp x) (Y6<|kid x 1) ô)<|kid x 1) g (!ZF p) t1 t2 h5;exact(K5 g h2 h3 hk h1 a1 a2 (g.pt h2 h3 hk h1 _)
    (λcl C s H ex=>pe0<|eE e _ _ _ (g.blk h3 hk cl C s H ex) h6) (λcl C s H ex=>Qd λz=>(eT t _ _ _ (g.blk h3 hk cl C s H ex)<|by rw[z]at h7;exact h7).1)).1
 |.fstr es,X,c,x,g,h=>nomatch h
 |.repl _ _ _,X,c,x,g,h=>nomatch h
 |.split o a,X,c,x,g,h=>nomatch h
 |.rev a,X,c,x,g,h=>nomatch h
 |.sortT a,X,c,x,g,h=>by have h:(c.gl "sorted" && okE a c (kid x 1))=dI:=h;rw[bAq]at h;exact FX g.K (g.gl h.1) (g.bl _<|by simp[blts]) (eE a X c _ g h.2) (by rw[Zl];rfl)
 |.pick a lo hi st,X,c,x,g,h=>nomatch h
theorem eD:∀(es:fz.Es) (X:Cx) (c:Md) (xs:List Expr) (ç:Pos),Gd X i P n c->okA es c xs=dI->JS es=dI->PPs X ç (X4<|toA es c xs) (CG<|toA es c xs) (Uh X i (fz.wF P n) es)
 |.nil,X,c,xs,ç,g,h,he=>Gf
 |.cons k .nil,X,c,xs,ç,g,h,he=>by cases he
 |.cons k (.cons v r),X,c,xs,ç,g,h,he=>by have h:(okE k c (xs.headD dE)&&(okE v c (xs.tail.headD dE)&&okA r c xs.tail.tail))=dI:=h;rw[bAq,bAq]at h;exact DY (eE k X c _ g h.1) (eE v X c _ g h.2.1)<|eD r X c _ ç g h.2.2 he
theorem eA:∀(ms:fz.Es) (X:Cx) (c:Md) (xs:List Expr),Gd X i P n c->okA ms c xs=dI->PA X (toA ms c xs) (tAr X i (fz.wF P n) ms (toA ms c xs).length)
 |.nil,X,c,xs,g,h=>HW
 |.cons a as,X,c,xs,g,h=>by have h:(okE a c (xs.headD dE)&&okA as c xs.tail)=dI:=h;rw[bAq]at h;exact Ga (eE a X c _ g h.1) (eA as X c _ g h.2)<|Zl ..
theorem eJ:∀(ms:fz.Es) (X:Cx) (c:Md) (xs:List Expr),Gd X i P n c->okJ ms c xs=dI->PJ X (toJ ms c xs) (tJs X i (fz.wF P n) ms)
 |.nil,X,c,xs,g,h=>Lz
 |.cons a as,X,c,xs,g,h=>by
  have h:((AX a||okE a c (kid (xs.headD dE) 0))&&okJ as c xs.tail)=dI:=h;rw[bAq]at h;have hr:=eJ as X c _ g h.2;show PJ X ((if AX a then toX a c (xs.headD dE)else .FormattedValue (toX a c<|kid (xs.headD dE) 0) (-1) dG (xs.headD dE).pos)::toJ as c xs.tail) _;cases z:AX a with
  |true =>let⟨s,rfl⟩:=Sa z;exact Uc Po hr rfl
  |false =>rw[z]at h;exact Uc (HZ<|eE a X c _ g h.1) hr rfl
theorem eO:∀(m:fz.Oe) (X:Cx) (c:Md) (x:Expr),Gd X i P n c->okO m c x=dI->PO X (toO m c x) (tOx X i (fz.wF P n) m)
 |.none,X,c,x,g,h=>Fy
 |.some e,X,c,x,g,h=>EA<|eE e X c _ g h
theorem eT:∀(m:fz.Tt) (X:Cx) (c:Md) (x:Expr),Gd X i P n c->okT m c x=dI->PT X (toT m c x) (tTt X i (fz.wF P n) m)/\((Zr m||ZI m)=dI->PW X (toT m c x) (tTt X i (fz.wF P n) m))
 |.yes,X,c,x,g,h=>nomatch h
 |.val e,X,c,x,g,h=>by
  refine⟨?_,λz=>(by cases z)⟩;have h:(okE e c x&&(OR e||QF e))=dI:=h;rw[bAq]at h;have he:=eE e X c x g h.1;cases z:OR e with
  |true=>exact L8 he (by cases e<;>first|(cases z;done)|exact λ_=>rfl) g.K
  |false =>
   have h2:=h.2;rw[z]at h2;cases e with
   |cmp o a b =>have h:(okE a c (kid x 0)&&okE b c (kid x 1)&&(!X0 o||M4 b))=dI:=h.1;rw[bAq,bAq]at h;exact(No g h.2 (eE a X c _ g h.1.1)<|eE b X c _ g h.1.2).2
   |chain o1 o2 a b d =>have h:(okE a c (kid x 0)&&okE b c (kid x 1)&&okE d c (kid x 2) && !X0 o1 && !X0 o2)=dI:=h.1;rw[bAq,bAq,bAq,bAq,ę,ę]at h;let⟨⟨⟨⟨h1,h2⟩,h3⟩,h4⟩,h5⟩:=h;exact(JK g h4 h5 (eE a X c _ g h1) (eE b X c _ g h2)<|eE d X c _ g h3).2
   |_=>cases h2
 |.not t,X,c,x,g,h=>⟨Pb (eT t X c _ g h).1,λz=>(by cases z)⟩
 |.and a b,X,c,x,g,h=>by
  have h:(okT a c (kid x 0)&&okT b c (rest (Zr b) x)&&(!Zr b||(rest (Zr b) x).pos==x.pos))=dI:=h;rw[bAq,bAq]at h;have h2:=eT b X c _ g h.1.2;let⟨y,ys,e,h3⟩:=AD h.2 h2.1 h2.2;have h4:PW X (toT (.and a b) c x)<|tTt X i (fz.wF P n)<|.and a b:=by show PW X (.BoolOp .And (toT a c (kid x 0)::flat (Zr b) (toT b c<|rest (Zr b) x)) x.pos) _;rw[e];exact II (eT a X c _ g h.1.1).1 h3
  exact⟨h4.pt,λ_=>h4⟩
 |.or a b,X,c,x,g,h=>by
  have h:(okT a c (kid x 0)&&okT b c (rest (ZI b) x)&&(!ZI b||(rest (ZI b) x).pos==x.pos))=dI:=h;rw[bAq,bAq]at h;have h2:=eT b X c _ g h.1.2;let⟨y,ys,e,h3⟩:=Cu h.2 h2.1 h2.2;have h4:PW X (toT (.or a b) c x)<|tTt X i (fz.wF P n)<|.or a b:=by show PW X (.BoolOp .Or (toT a c (kid x 0)::flat (ZI b) (toT b c<|rest (ZI b) x)) x.pos) _;rw[e];exact Pw (eT a X c _ g h.1.1).1 h3
  exact⟨h4.pt,λ_=>h4⟩
theorem eI:∀(m:fz.It) (X:Cx) (c:Md) (x tg:Expr),Gd X i P n c->∀(b:Bool),(b=dI->∃es k p,tg=.Tuple es k p)->(b=dJ->∃y p,tg=.Name y p)->okI m c x b=dI->PI X tg (toI m c x) (tIt X i (fz.wF P n) m)/\∀y,Ē (toI m c x) X.env y=pure y
 |.seq e,X,c,x,tg,g,b,t1,t2,h=>⟨Hi g.K<|eE e X c _ g h,Io _ _ _ _⟩
 |.chars e,X,c,x,tg,g,b,t1,t2,h=>nomatch h
 |.range a,X,c,x,tg,g,b,t1,t2,h=>by have h:(c.gl "range" && okE a c (kid x 1))=dI:=h;rw[bAq]at h;exact⟨A9 (g.gl h.1) (g.bl _<|by simp[blts]) (eE a X c _ g h.2)<|Zl ..,λ_=>rfl⟩
 |.range2 a d,X,c,x,tg,g,b,t1,t2,h=>by have h:(c.gl "range" && okE a c (kid x 1)&&okE d c (kid x 2))=dI:=h;rw[bAq,bAq]at h;exact⟨Ak (g.gl h.1.1) (g.bl _<|by simp[blts]) (eE a X c _ g h.1.2) (eE d X c _ g h.2) (by rw[Zl,Zl];rfl)<|Zl ..,λ_=>rfl⟩
 |.zip a d,X,c,x,tg,g,b,t1,t2,h=>nomatch h
 |.enumL e,X,c,x,tg,g,b,t1,t2,h=>by have h:(b&&c.gl "enumerate" && okE e c (kid x 1))=dI:=h;rw[bAq,bAq]at h;let⟨es,k,p,rfl⟩:=t1 h.1.1;exact⟨BY g.K (g.gl h.1.2) (g.bl _<|by simp[blts]) (eE e X c _ g h.2) (by rw[Zl];rfl),λ_=>rfl⟩
 |.enum e,X,c,x,tg,g,b,t1,t2,h=>by have h:(b&&c.gl "enumerate" && okE e c (kid x 1))=dI:=h;rw[bAq,bAq]at h;let⟨es,k,p,rfl⟩:=t1 h.1.1;exact⟨F6 g.K (g.gl h.1.2) (g.bl _<|by simp[blts]) (eE e X c _ g h.2) (by rw[Zl];rfl),λ_=>rfl⟩
 |.items e,X,c,x,tg,g,b,t1,t2,h=>nomatch h
 |.rev e,_,_,_,_,_,_,_,_,h=>nomatch h
end
def At(g:Gd X i P n c){m:Nat}{t:fz.Tt}(h:okE (.comp ô m p it t e) c x=dI) :
  PE X (toX (.comp ô m p it t e) c x) (tE X i (fz.wF P n)<|.comp ô m p it t e)/\
   ∀(y:Str) (py Τ:Pos) (j:Nat),X.N[j]?=dF y->L2.Loc X.env.scope y->(X.fn y=dI\/X.env.scope.names.lookup y=dF .local)->ō (toX (.comp ô m p it t e) c x) (dF<|.Name y py) Τ.line X.env=pure dI->PS X (.Assign [.Name y py] (toX (.comp ô m p it t e) c x) Τ) (tSt X i (fz.wF P n)<|.set (.one j)<|.comp ô m p it t e):=by
 have h:((OP m p&&(Y6<|kid x 1).length==m)&&c.cm&&Yy (scp x) c.sc c.N (Y6<|kid x 1) ô&&(scp x).kind == .function&&okI it c (kid x 2) (!ZF p)&&okE e (c.blk (scp x) (Y6<|kid x 1) ô) (kid x 0)&&(Uf t||okT t (c.blk (scp x) (Y6<|kid x 1) ô) (kid x 3)))=dI:=h;rw[bAq,bAq,bAq,bAq,bAq,bAq]at h;let⟨⟨⟨⟨⟨⟨h1,h2⟩,h3⟩,h4⟩,h5⟩,h6⟩,h7⟩:=h;rw[bAq,beq_iff_eq]at h1;let⟨h1,rfl⟩:=h1;have hk:=eq_of_beq h4;let⟨t1,t2⟩:=MH (c:=c.blk (scp x) (Y6<|kid x 1) ô) p<|kid x 1;let⟨a1,a2⟩:=eI it X c (kid x 2) (toP p (c.blk (scp x) (Y6<|kid x 1) ô)<|kid x 1) g (!ZF p) t1 t2 h5;exact K5 g h2 h3 hk h1 a1 a2 (g.pt h2 h3 hk h1 _)
  (λcl C s H ex=>pe0<|eE e _ _ _ (g.blk h3 hk cl C s H ex) h6) (λcl C s H ex=>Qd λz=>(eT t _ _ _ (g.blk h3 hk cl C s H ex)<|by rw[z]at h7;exact h7).1)
abbrev dS:ğ:=.Pass ⟨0,0,0,0⟩
abbrev stE:ğ->List Expr
 |.Assign ts v _=>v::ts
 |.AugAssign t _ v _=>[v,t]
 |.For t it _ _ _=>[t,it]
 |.While t _ _ _=>[t]
 |.If t _ _ _=>[t]
 |.Expr e _=>[e]
 |.Return (dF e) _=>[e]
 |.Raise (dF e) _ _=>[e]
 |_=>[]
abbrev ke(s:ğ)(j:Nat):Expr:=(stE s).getD j dE
abbrev stB:ğ->List ğ
 |.For _ _ b _ _=>b
 |.While _ b _ _=>b
 |.If _ b _ _=>b
 |.Try b _ _ _ _=>b
 |_=>[]
abbrev stO:ğ->List ğ
 |.If _ _ b _=>b
 |_=>[]
abbrev stH:ğ->List ExceptHandler
 |.Try _ hs _ _ _=>hs
 |_=>[]
abbrev dH:ExceptHandler:=.ExceptHandler dG dG [] ⟨0,0,0,0⟩
abbrev hT:ExceptHandler->Expr
 |.ExceptHandler (dF e) _ _ _=>e
 |_=>dE
abbrev hB:ExceptHandler->List ğ
 |.ExceptHandler _ _ b _=>b
abbrev hP:ExceptHandler->Pos
 |.ExceptHandler _ _ _ p=>p
abbrev Md.hot(c:Md):Md:={c with cm:=dJ}
abbrev LO(t:Option Nat)(e:fz.E)(c:Md)(y:ğ):ğ:=match t with
 |none=>.Expr (toX e c<|ke y 0) y.pos
 |some j=>.Assign [.Name (c.nmOf j) (ke y 1).pos] (toX e c<|ke y 0) y.pos
mutual
noncomputable def toS:fz.S->Md->ğ->ğ
 |.set p a,c,s=>.Assign [toP p c<|ke s 1] (toX a c<|ke s 0) s.pos
 |.setIdx a j e,c,s=>.Assign [.Subscript (toX a c<|kid (ke s 1) 0) (toX j c<|kid (ke s 1) 1) (ke s 1).pos] (toX e c<|ke s 0) s.pos
 |.setPair a i b j e,c,s=>.Assign [.Tuple [.Subscript (toX a c<|kid (kid (ke s 1) 0) 0) (toX i c<|kid (kid (ke s 1) 0) 1) (kid (ke s 1) 0).pos,.Subscript (toX b c<|kid (kid (ke s 1) 1) 0) (toX j c<|kid (kid (ke s 1) 1) 1) (kid (ke s 1) 1).pos] (num<|ke s 1) (ke s 1).pos] (toX e c<|ke s 0) s.pos
 |.setFld o f e,c,s=>.Assign [.Attribute (toX o c<|kid (ke s 1) 0) (fK f) (ke s 1).pos] (toX e c<|ke s 0) s.pos
 |.augVar j op e,c,s=>.AugAssign (.Name (c.nmOf j) (ke s 1).pos) (Oj op) (toX e c<|ke s 0) s.pos
 |.augFld o f op n,c,s=>.AugAssign (.Attribute (toX o c<|kid (ke s 1) 0) (fK f) (ke s 1).pos) (Oj op) (.Constant (.int n) (num<|ke s 0) (ke s 0).pos) s.pos
 |.augIdx a j op n,c,s=>.AugAssign (.Subscript (toX a c<|kid (ke s 1) 0) (toX j c<|kid (ke s 1) 1) (ke s 1).pos) (Oj op) (.Constant (.int n) (num<|ke s 0) (ke s 0).pos) s.pos
 |.expr e,c,s=>.Expr (toX e c<|ke s 0) s.pos
 |.ret e,c,s=>.Return (dF<|toX e c<|ke s 0) s.pos
 |.retN,_,s=>.Return dG s.pos
 |.ite t a b,c,s=>.If (toT t c<|ke s 0) (toSs a c<|stB s) (toSs b c<|stO s) s.pos
 |.whl t b,c,s=>.While (toT t c<|ke s 0) (toSs b c<|stB s) [] s.pos
 |.for p it b,c,s=>.For (toP p c<|ke s 0) (toI it c<|ke s 1) (toSs b c<|stB s) [] s.pos
 |.forI dI p e b,c,s=>.For (toP p c<|ke s 0) (toX e c<|ke s 1) (toSs b c<|stB s) [] s.pos
 |.forI dJ p e b,c,s=>.For (toP p c<|ke s 0) (.Call (.Attribute (toX e c<|kid (kid (ke s 1) 0) 0) "items" (kid (ke s 1) 0).pos) [] [] (ke s 1).pos) (toSs b c<|stB s) [] s.pos
 |.brk,_,s=>.Break s.pos
 |.cnt,_,s=>.Continue s.pos
 |.pass,_,s=>.Pass s.pos
 |.raise C as,c,s=>.Raise (dF<|.Call (.Name (fK C) (kid (ke s 0) 0).pos) (toA as c (sub<|ke s 0).tail) [] (ke s 0).pos) dG s.pos
 |.try t e hs,c,s=>.Try [LO t e c<|(stB s).headD dS] (toH hs c<|stH s) [] [] s.pos
 |_,_,s=>s
noncomputable def toH:fz.Hn->Md->List ExceptHandler->List ExceptHandler
 |.nil,_,_=>[]
 |.cons K nm b r,c,xs=>.ExceptHandler (dF<|.Name (fK K) (hT<|xs.headD dH).pos) (nm.map c.nmOf) (toSs b c.hot<|hB<|xs.headD dH) (hP<|xs.headD dH)::toH r c xs.tail
noncomputable def toSs:fz.Ss->Md->List ğ->List ğ
 |.nil,_,_=>[]
 |.cons m ms,c,xs=>toS m c (xs.headD dS)::toSs ms c xs.tail
end
abbrev GW:fz.E->Bool
 |.idx _ _=>dI
 |.var _=>dI
 |.fld _ _=>dI
 |_=>dJ
abbrev MN(c:Md)(j:Nat):Bool:=fJ (j<c.N.length)&&c.loc (c.nmOf j)
abbrev okP(p:fz.Pt)(c:Md):Bool:=match p with
 |.one j=>MN c j
 |.many js=>js.all<|MN c
 |.nest j js=>MN c j&&js.all (MN c)
abbrev CF:fz.E->Bool
 |.tup _=>dI
 |.key _=>dI
 |_=>dJ
abbrev Ol:fz.E->Bool
 |.comp _ _ _ _ _ _=>dI
 |_=>dJ
abbrev swT(c:Md)(tg v:Expr):Bool:=match v,tg with
 |.ListComp _ _ s ç,.Name t p=>(if c.sc.kind.isAnnotationScope then ScopeKind.function else c.sc.kind) == .function&&c.sc.names.lookup t==dF .local&&p.line==ç.line && !(s.names.any λ(n,k)=>n==t&&(k == .local||k == .cell))
 |_,_=>dJ
abbrev AE:fz.Bop->Bool
 |.add=>dI
 |.sub=>dI
 |_=>dJ
abbrev CC:fz.E->Md->Expr->Bool
 |.call f as,c,x=>c.gn f&&c.fs.contains f&&fJ (Zc as≠0)&&okA as c (sub x).tail
 |_,_,_=>dJ
abbrev Sk(c:Md)(j:Nat):Bool:=fJ (j<c.N.length)&&c.sc.names.lookup (c.nmOf j)==dF .local
abbrev IR(c:Md):Option Nat->Bool
 |none=>dI
 |some j=>Sk c j
abbrev DE(c:Md):Option Nat->Bool
 |none=>dI
 |some j=>MN c j
abbrev UJ:fz.Ss->Bool
 |.nil=>dJ
 |_=>dI
abbrev Q4:fz.Hn->Bool
 |.nil=>dI
 |_=>dJ
mutual
noncomputable def okS:fz.S->Md->ğ->Bool
 |.set p a,c,s=>okP p c&&okE a c (ke s 0)&&(ZF p || !CF a)&&(ZF p||c.cm)
 |.setIdx a j e,c,s=>okE e c (ke s 0)&&okE a c (kid (ke s 1) 0)&&okE j c (kid (ke s 1) 1)
 |.setFld o f e,c,s=>c.fl.contains f&&okE o c (kid (ke s 1) 0)&&okE e c (ke s 0)
 |.augFld o f op _,c,s=>c.fl.contains f&&okE o c (kid (ke s 1) 0)&&AE op
 |.augIdx a j op _,c,s=>okE a c (kid (ke s 1) 0)&&okE j c (kid (ke s 1) 1)&&AE op
 |.expr e,c,s=>okE e c (ke s 0) && !Ol e
 |.ret e,c,s=>okE e c<|ke s 0
 |.retN,_,_=>dI
 |.ite t a b,c,s=>okT t c (ke s 0)&&okSs a c (stB s)&&okSs b c (stO s)
 |.whl t b,c,s=>okT t c (ke s 0)&&okSs b c (stB s)&&c.cm
 |.for p it b,c,s=>okP p c&&okI it c (ke s 1) (!ZF p)&&okSs b c (stB s)&&c.cm
 |.forI dI p e b,c,s=>okP p c&&GW e&&okE e c (ke s 1)&&okSs b c (stB s)&&c.cm
 |.forI dJ p e b,c,s=>okP p c && !ZF p&&okE e c (kid (kid (ke s 1) 0) 0)&&YX (toX e c<|kid (kid (ke s 1) 0) 0)&&((kid (ke s 1) 0).pos.endLine==(ke s 1).pos.line)&&okSs b c (stB s)&&c.cm
 |.never,_,_=>dI
 |.raise C as,c,s=>c.gn C&&c.xs.contains C&&c.cm&&fJ (Zc as≠0)&&fJ (Zc as<=1000)&&okA as c (sub<|ke s 0).tail
 |.try t e hs,c,s=>CC e c (ke ((stB s).headD dS) 0)&&DE c t&&okH hs c (stH s)&&c.cm
 |_,_,_=>dJ
noncomputable def okH:fz.Hn->Md->List ExceptHandler->Bool
 |.nil,_,_=>dJ
 |.cons K nm b r,c,xs=>(c.xs.contains K||K == "ShutError")&&c.gn K && !c.xs.isEmpty&&IR c nm&&UJ b&&okSs b c.hot (hB<|xs.headD dH)&&Q4 r
noncomputable def okSs:fz.Ss->Md->List ğ->Bool
 |.nil,_,_=>dI
 |.cons m ms,c,xs=>okS m c (xs.headD dS)&&okSs ms c xs.tail
end
structure Gs(X:Cx)(i:Inf)(P:fz.Pg)(n:Nat)(c:Md):Prop extends Gd X i P n c where
 fn:∀x,c.loc x=dI->X.fn x=dI\/X.env.scope.names.lookup x=dF .local
 own:c.cm=dI->ο (Þ X.prog X.w) X.A X.env X.xe
 stk:c.cm=dI->X.stack=X.env::X.outer
variable {X:Cx}{i:Inf}{P:fz.Pg}{n:Nat}{c:Md}
def Gs.nm1(g:Gs X i P n c){j:Nat}(h:MN c j=dI):X.N[j]?=dF (c.nmOf j)/\L2.Loc X.env.scope (c.nmOf j)/\(X.fn (c.nmOf j)=dI\/X.env.scope.names.lookup (c.nmOf j)=dF .local):=by unfold MN at h;rw[bAq,fH]at h;exact⟨NW g.N h.1,g.loc h.2,g.fn _ h.2⟩
variable {p:fz.Pt}
def QX(g:Gs X i P n c)(h:okP p c=dI):GB (A5 X c) p:=by
 cases p with
 |one j=>exact g.nm1 h
 |many js=>exact λj hj=>g.nm1<|ö.mp h j hj
 |nest j js =>have h:(MN c j&&js.all (MN c))=dI:=h;rw[bAq]at h;exact⟨g.nm1 h.1,λk hk=>g.nm1<|ö.mp h.2 k hk⟩
variable {x:Expr}
def UF(g:Gs X i P n c)(cz:c.cm=dI)(h:okP p c=dI):PG X (toP p c x)<|gPt i p:=GF g.K (by rw[g.N];exact g.nd) (g.calm cz) (QX g h)
variable {tg:Expr}
def Jf{l:Nat}{env:Env}(a:fz.E)(x:Expr)(hs:env.scope=c.sc):ō (toX a c x) (dF tg) l env=pure (swT c tg<|toX a c x):=by
 cases a with
 |comp ô m p it t e =>
  cases tg with
  |Name t q =>unfold ō swT Env.blockKind Env.kindOf;rw[hs];rfl
  |_=>rfl
 |_=>rfl
def LC(p:fz.Pt)(a:fz.E)(x y:Expr)(env:Env)(h:(ZF p || !CF a)=dI):Θ [toP p c x] (toX a c y) env=pure dG:=by
 cases p with
 |one j=>cases a<;>rfl
 |many js=>cases a<;>first|rfl|cases h
 |nest j js=>cases a<;>first|rfl|cases h
def DX(p:fz.Pt)(x:Expr)(env:Env):(ĕ [toP p c x] env).map (·.2)=[Ų (toP p c x) env]:=by cases p<;>rfl
def L6{a:fz.E}(h:swT c tg (toX a c x)=dI):∃ô m p it t e,a=.comp ô m p it t e:=by
 cases a with
 |comp ô m p it t e=>exact⟨_,_,_,_,_,_,rfl⟩
 |_=>cases h
def EE(y:fz.E){b:Expr}{ç:Pos}{env:Env}:∀v,Ų (.Subscript b (toX y c x) ç) env v=(do
    let ov<-ŉ [v] (eval b env)
    let iv<-ŉ [v,ov] (eval (toX y c x) env)
    Γ ç
    ŉ [v,ov,iv] (au ov iv v)
    dg [v,ov,iv] []):=by
 intro v;cases y<;>rfl
def GS{op:fz.Bop}(h:AE op=dI):DS X (Oj op)<|rAS op:=by
 cases op with
 |add =>
  intro Á s σ H x y u v Q I rx ry q;let⟨a,b,rfl,rfl,q⟩:=q;rcases q with⟨_,q⟩|⟨z,_⟩
  .exact HK Á s σ H _ _ u v Q I rx ry ⟨a,b,rfl,rfl,q⟩
  .cases z
 |sub =>
  intro Á s σ H x y u v Q I rx ry q;let⟨a,b,rfl,rfl,q⟩:=q;rcases q with⟨z,_⟩|⟨_,q⟩
  .cases z
  .exact IK Á s σ H _ _ u v Q I rx ry ⟨a,b,rfl,rfl,q⟩
 |_=>cases h
def Cg:PGet X<|CJ X.K:=λÁ s σ H x y v u Q I rx ry h=>by
 let⟨p,xs,i,z,rfl,rfl,hq,he,q⟩:=h;cases rx;let⟨t,rfl⟩:=ry;let⟨î,r,pl,hz⟩:=I.list hq;let⟨j,h1,h2,h3,h4,h5⟩:=W0 he;let⟨w,ew,aD⟩:=r.get h2;have hl:=r.length;have hn:=Xn;have fin:EP X Á σ Q w s:=⟨z,H,I,aD,q⟩
 by_cases h0:0<=i
 .have hj:i.toNat=j:=by
   rw[aX h0 h5]at h1;exact í h1
  exact wpAny_getItem_list pl.isList h0 (by lia) (by rw[hj];simpa using ew) fin
 .have hj:(i+(î.toArray.size:Int)).toNat=j:=by
   rw[av (by lia) h4]at h1;rw[Ë,<-hl];exact í h1
  exact dq pl.isList (by lia) (by rw[Ë]<;>lia) (by lia) (by rw[hj];simpa using ew) fin
def Bf(hu:X.A.units+1<Ĥ):PGet X Dh:=λÁ s σ H x y v u Q I rx ry h=>by let⟨a,z,rfl,g,q⟩:=h;cases rx;exact KE hu I g ry λw s' I' r=>⟨z,H,I',r,q⟩
def PGet.or{r r':R2}(h:PGet X r)(h':PGet X r'):PGet X λx y H Q=>r x y H Q\/r' x y H Q:=λÁ s σ H o j ov jv Q I ro rj q=>by
 rcases q with q|q
 .exact h Á s σ H o j ov jv Q I ro rj q
 .exact h' Á s σ H o j ov jv Q I ro rj q
def Iv{G:fz.Hs}{H:Hp}{a:Ê}{u w:fz.Val}{y:V}{K:Frag}{Q:VK}(g:RH i G H)(ry:RV i.K H u y)(e:fz.eR G (.ref a) u=dF w)(q:∀z,RV i.K H w z->Q z H):CJ K (.ref a) y H Q\/Dh (.ref a) y H Q:=by
 replace e:(match G a with|some (.lst xs)=>(fz.fv u).bind (fz.atI xs)|some (.dct kvs)=>if fz.d8 u then fz.eh kvs u else dG|some (.frz kvs)=>if fz.d8 u then fz.eh kvs u else dG|some (.dtp kvs)=>if fz.isKeyT u then fz.eh kvs u else dG|_=>dG)=dF w:=e
 cases z:G a with
 |none=>rw[z]at e;cases e
 |some o =>
  rw[z]at e;cases o with
  |lst xs =>let⟨k,hk,e⟩:=ß.mp e;cases ZJ hk;let⟨vs,h1,h2⟩:=g a _ z;let⟨t,h3,h4⟩:=Jd h2 e;exact .inl ⟨a,vs,k,t,rfl,ry.int_inv,fk.of h1,h3,q t h4⟩
  |dct kvs =>let⟨hk,e⟩:=Zs (show(if fz.d8 u then fz.eh kvs u else dG)=dF w from e);let⟨ps,h1,h2⟩:=g a _ z;let⟨d,kr,rfl⟩:=d5 hk ry;let⟨t,hx,rv⟩:=(h2.look kr).1 w e;exact .inr ⟨a,t,rfl,by rw[<-hx];exact DGet.k h1,q t rv⟩
  |frz kvs =>let⟨hk,e⟩:=Zs (show(if fz.d8 u then fz.eh kvs u else dG)=dF w from e);let⟨ob,ps,h1,h2⟩:=g a _ z;let⟨d,kr,rfl⟩:=d5 hk ry;let⟨t,hx,rv⟩:=(h2.look kr).1 w e;exact .inr ⟨a,t,rfl,.inl ⟨ps,d,.inr ⟨ob,h1⟩,rfl,hx.symm⟩,q t rv⟩
  |dtp kvs =>let⟨hk,e⟩:=Zs (show(if fz.isKeyT u then fz.eh kvs u else dG)=dF w from e);let⟨ps,h1,h2⟩:=g a _ z;let⟨k1,k2,b,rfl,rfl,hb⟩:=Je hk ry;let⟨t,hx,rv⟩:=(h2.look).1 w e;exact .inr ⟨a,t,rfl,by rw[<-hx];exact DGet.t h1 hb,q t rv⟩
  |_=>cases e
def LJ(e:fz.E)(x:Expr):∀ov iv new,augStore (toX e c x) ov iv new=(do ŉ [new,ov,iv] (au ov iv new);dg [new,ov,iv] [];pure .next):=by intro ov iv new;cases e<;>rfl
def Ax{Φ:fz.Fs}{a j:Expr}{ma mj:fz.E}{op:fz.Bop}{k:Int}{kk:Nat}{ç bW ĺ:Pos}(hK:X.K=i.K)(hu:X.A.units+1<Ĥ)(h:AE op=dI)(ha:PE X a<|tE X i Φ ma)(hj:PE X j<|tE X i Φ mj)
  (hs:∀ov iv new,augStore j ov iv new=(do ŉ [new,ov,iv] (au ov iv new);dg [new,ov,iv] [];pure .next)) :
  PS X (.AugAssign (.Subscript a j bW) (Oj op) (.Constant (.int k) kk ĺ) ç) (tSt X i Φ<|.augIdx ma mj op k) :=
 (Fo ha hj (PGet.or Cg<|Bf hu) Og (GS h) (PSet.or Ny<|Np hu) hs).imp λD σ H ⟨env,G,N,R,B,C,Xe,p,w,c⟩=>by
  refine one p.pre w λv G1 H1 x k1 p1 rx q=>?_;refine one p1 q λu G2 H2 y k2 p2 ry q=>?_;let⟨t,e1,q2⟩:=dO q;clear q;let⟨z,e2,q3⟩:=dO q2;clear q2;let⟨G3,e3,q4⟩:=dO q3;clear q3;have hr:∃b,v=.ref b:=by
   cases v with
   |ref b=>exact⟨b,rfl⟩
   |_=>cases e3
  let⟨b,rfl⟩:=hr;cases rx.ref_inv;have ix2:∀Q:VK,(∀t',RV i.K H2 t t'->Q t' H2)->CJ X.K (.ref b) y H2 Q\/Dh (.ref b) y H2 Q:=λQ hQ=>Iv p2.hp ry e1 hQ;refine ix2 _ λt' rt=>?_;let⟨n1,n2,rfl,e0,hz⟩:=NT e2;cases e0;cases rt.int_inv;have fin:∀m:Int,z=.int m->Dg (.ref b) y (.int m) H2 λH6=>D.nx σ H6:=λm hm=>by subst hm;exact CB p2.hp (.ref b) ry (.int m) e3 λH3 k3 g3=>c.nx env σ _ _ ((k1.trans k2).trans k3) g3 (p2.en.keep k3) q4
  rcases hz with⟨eo,hz⟩|⟨eo,hz⟩
  .exact⟨n1,k,rfl,rfl,.inl ⟨eo,fin _ hz⟩⟩
  .exact⟨n1,k,rfl,rfl,.inr ⟨eo,fin _ hz⟩⟩
def Gr(t v:Expr)(p:Pos)(env:Env)(h:(∃a b q,t=.Subscript a b q)\/(∃a b q,t=.Attribute a b q)):Θ [t] v env=pure dG:=by rcases h with⟨a,b,q,rfl⟩|⟨a,b,q,rfl⟩<;>rfl
variable {a:fz.E} {x:Expr}
def FW{t:Option Expr}{l:Nat}{env:Env}(h:(!Ol a)=dI):ō (toX a c x) t l env=pure dJ:=by
 cases a with
 |comp ô m p it tt e=>cases h
 |_=>rfl
def Cp{tg:Expr}(h:∀y q,tg≠.Name y q):swT c tg (toX a c x)=dJ:=by
 cases a with
 |comp ô m p it tt e =>
  cases tg with
  |Name y q=>exact fI rfl<|h y q
  |_=>rfl
 |_=>rfl
def HG(g:Gs X i P n c){p:fz.Pt}(hc:(ZF p||c.cm)=dI)(h:okP p c=dI):PG X (toP p c x)<|gPt i p:=by
 by_cases cz:c.cm=dI
 .exact UF g cz h
 .cases p with
  |one j =>let⟨h1,h2,h3⟩:=g.nm1 h;exact ON (by rw[g.N];exact g.nd) h1 h2 h3
  |many js=>exact fI hc cz
  |nest j js=>exact fI hc cz
def Qn(Y:Cx)(H:Hp):XW Y<|XK1 i H λ_ _=>False:=λ_ _ _ _ _ _ _ _ _ _ ⟨_,_,_,_,_,_,_,z⟩=>z.elim
def LP(Y:Cx)(H:Hp):XW Y<|XKS i H λ_ _ _=>False:=λ_ _ _ _ _ _ _ _ _ _ ⟨_,_,_,_,_,_,_,_,z⟩=>z.elim
variable {Φ:fz.Fs} {e:Expr} {es:List Expr} {ms:fz.Es} {ç:Pos}
def C4{C:String}{a:Ê}{k:Nat}{np ĺ:Pos}(hc:X.calm=dI)(O:PyProof.Rows.OwnCls (fK C) a [.type "ValueError",.type "Exception",.type "BaseException",.type "object"] "ValueError.__new__" X.mg X.base)(hx:i.xc C a)(hg:Gl X<|fK C)
  (ha:PA X (e::es)<|tAr X i Φ ms k) (hk:k<=1000) (ϑ:(fK C==("__debug__" : Str))=dJ) (he:Î (e::es) X.env=(dJ,eval e X.env)::Î es X.env) (hpl:(Č ĺ<|Î es X.env).any (·.1)=dJ) :
  PS X (.Raise (dF<|.Call (.Name (fK C) np) (e::es) [] ĺ) dG ç) (tSt X i Φ<|.raise C ms):=by
 intro Á s σ H D I ⟨env,G,N,R,B,Cq,Xe,p,w,_⟩;rw[fz.q_s_raise]at w;refine Bn (E:=XK1 i H<|Xe env) p.pre.xo hc O hg ha ϑ he hpl Á s σ H D I ⟨env,G,_,Xe env,p.pre,w,λvs G1 H1 xs k1 g1 r1 hl w1=>⟨?_,C,G1,a,rfl,hx,k1,g1,w1⟩⟩;rw[hl];unfold Ü;lia
abbrev tB0(i:Inf)(Φ:fz.Fs)(m:fz.Ss):TS:=λD σ H=>∃env G N R B C,REn i.K H env σ/\RH i G H/\fz.wSs Φ m env G N R B C (λ_ _ _=>False)/\EOk i H D N R B C
def Qe{Y:Cx}{sts:List ğ}{m:fz.Ss}(h:PSs Y sts<|tBl Y i Φ m):PSs Y sts (tB0 i Φ m) :=
 h.imp λD σ H ⟨env,G,N,R,B,C,e,g,w,q⟩=>⟨env,G,N,R,B,C,_,⟨e,g,LP Y H⟩,w,q⟩
variable {H:Hp} {σ:St}
def REn.unset{K:Frag}{env:fz.Env}(r:REn K H env σ)(j:Nat):REn K H (env.set j dG)<|σ.set j dG:=⟨by simp[r.len],λi u e=>by
  by_cases hij:j=i
  . subst hij
    rw[υ]at e
    cases z:env[j]? with
    |none=>rw[z]at e;cases e
    |some w=>rw[z]at e;cases e
  . rw[Ħ hij]at e
    let⟨y,h1,h2⟩:=r.get i u e
    exact⟨y,by rw[Ħ hij];exact h1,h2⟩⟩
abbrev tCx(i:Inf)(Φ:fz.Fs)(m:fz.E):St->Hp->VK->XK->Prop:=λσ H Q E=>∃env G Qm Em,REn i.K H env σ/\RH i G H/\fz.wC Φ m env G Qm Em/\Cn i H Q Qm/\∀cls d H',XK1 i H Em cls d H'->E cls d H'
def Ee{f:String}{k:Nat}{p:Pos}(hK:X.K=i.K)(D:Dfo X.prog X.w X.mg X.base i P n f)(hr:eF (2*n) X.A)(hg:Gl X<|fK f)(ϑ:(fK f==("__debug__" : Str))=dJ)
  (ha:PA X.nox (e::es)<|tAr X.nox i (fz.wF P n) ms k) (he:Î (e::es) X.env=(dJ,eval e X.env)::Î es X.env) (hpl:(Č ç<|Î es X.env).any (·.1)=dJ) :
  PCx X (.Call (.Name (fK f) p) (e::es) [] ç) (tCx i (fz.wF P n)<|.call f ms):=by
 let⟨fa,fd,ps,F,hm,hk,hb⟩:=D;rw[<-hK]at F hk hb;intro Á s σ H Q E I ⟨env,G,Qm,Em,en,g,w,cn,x⟩;refine Fd ⟨fa,fd,F,hm,hk,hb⟩ hr (Ì _) hg ha ϑ he hpl Á s σ H Q E I ?_;exact⟨env,G,_,λ_ _=>False,⟨en,g,Qn X.nox H⟩,w,λvs G1 H1 xs k1 g1 r1 hl w1=>⟨vs,G1,Qm,Em,r1,g1,w1,cn.go k1,λcls d H' h=>x cls d H'<|h.go k1⟩⟩
def DO{m:fz.E}{t:Option Nat}{hs:fz.Hn}{D:Ends}{E:XK}{env:fz.Env}{G:fz.Hs}{N:fz.NQ}{R:fz.Q1}{B C:fz.NQ}{nx:V->St}(en:REn i.K H env σ)(g:RH i G H)
  (w:fz.wC Φ m env G (λv h1=>N (fz.tryEnv env t v) h1) λc g=>fz.wH Φ hs c env g N R B C) (q:EOk i H D N R B C)
  (hn:∀v x H',ee H H'->RV i.K H' v x->REn i.K H' (fz.tryEnv env t v) (nx x))
  (hx:∀Cn ad G' H',i.xc Cn ad->ee H H'->RH i G' H'->fz.wH Φ hs Cn env G' N R B C->E (.ref ad) dG H') (hd:∀cls d H',E cls dG H'->E cls d H') :
  tCx i Φ m σ H (λv H'=>D.nx (nx v) H') E:=by
 refine⟨env,G,_,_,en,g,w,λv G' H' x k g' r h=>q.nx _ _ G' H' k g' (hn v x H' k r) h,λcls d H' ⟨Cn,G',ad,e,hc,k,g',h⟩=>?_⟩;subst e;exact hd _ d H'<|hx Cn ad G' H' hc k g' h
variable {m:fz.E} {Da:Ê} {b:fz.Ss} {body:ğ} {b0:ğ} {ϊ:List ğ} {tp:Pos} {bz:Pos} {nx:St->V->St}
def IM{t:Option Nat}{K:String}(ł:X.stack=X.env::X.outer)(hK:X.K=i.K)(hb:PB X [body] λD E σ H=>tCx i Φ m σ H (λv H'=>D.nx (nx σ v) H') E)
  (hn:∀H env σ v x,REn i.K H env σ->RV i.K H v x->REn i.K H (fz.tryEnv env t v) (nx σ x)) (hg:Gl X<|fK K) (hm:X.mg (fK K)=dF (.ref Da)) (hx:∀C a,i.xc C a->fz.fj C K=dI->PySem.W.exmOne i.K (.ref a) (.ref Da)=dF dI)
  (hs:∀a,PSs (X.caught a) (b0::ϊ)<|tB0 i Φ b) (ϑ:(fK K==("__debug__" : Str))=dJ) :
  PS X (.Try [body] [.ExceptHandler (dF<|.Name (fK K) tp) dG (b0::ϊ) bz] [] [] ç) (tSt X i Φ<|.try t m (.cons K dG b .nil)) :=
 (D4 ł hb hg hm hs ϑ).imp λD σ H ⟨env,G,N,R,B,C,Xe,p,w,q⟩=>by
  rw[fz.q_s_try]at w;refine DO (nx:=nx σ) p.en p.hp w q (λv x H' k r=>hn H' env σ v x (p.en.keep k) r) (λCn ad G' H' hc k g' h=>?_) λcls d H' z=>z;rw[fz.q_h_none]at h;by_cases e:fz.fj Cn K=dI
  .rw[fA e]at h;rw[hK];refine⟨hx Cn ad hc e,λa ha=>⟨env,G',N,R,B,C,?_,Xc g' ha,h,(q.go k).go<|ee.new ha⟩⟩;exact(p.en.keep k).keep<|ee.new ha
  .rw[fB e,fz.q_h_nil]at h;exact h.elim
def Ft{t:Option Nat}{K:String}{j:Nat}{y:Str}(ł:X.stack=X.env::X.outer)(hN:X.N.Nodup)(hj:X.N[j]?=dF y)(hy:X.env.scope.names.lookup y=dF .local)(hK:X.K=i.K)(hb:PB X [body] λD E σ H=>tCx i Φ m σ H (λv H'=>D.nx (nx σ v) H') E)
  (hn:∀H env σ v x,REn i.K H env σ->RV i.K H v x->REn i.K H (fz.tryEnv env t v) (nx σ x)) (hg:Gl X<|fK K) (hm:X.mg (fK K)=dF (.ref Da)) (hx:∀C a,i.xc C a->fz.fj C K=dI->PySem.W.exmOne i.K (.ref a) (.ref Da)=dF dI)
  (hs:∀a,PSs (X.caught a) (b0::ϊ)<|tB0 i Φ b) (ϑ:(fK K==("__debug__" : Str))=dJ) :
  PS X (.Try [body] [.ExceptHandler (dF<|.Name (fK K) tp) (dF y) (b0::ϊ) bz] [] [] ç) (tSt X i Φ<|.try t m (.cons K (dF j) b .nil)) :=
 (Pj ł hN hj hy hb hg hm hs ϑ).imp λD σ H ⟨env,G,N,R,B,C,Xe,p,w,q⟩=>by
  rw[fz.q_s_try]at w;refine DO (nx:=nx σ) p.en p.hp w q (λv x H' k r=>hn H' env σ v x (p.en.keep k) r) (λCn ad G' H' hc k g' h=>?_) λcls d H' z=>z;rw[fz.q_h_some]at h;by_cases e:fz.fj Cn K=dI
  .rw[fA e]at h;rw[hK];refine⟨hx Cn ad hc e,λa ha=>?_⟩;have k2:ee H'<|upd H' a<|xcO a<|.ref ad:=ee.new ha;refine⟨_,_,_,R,_,_,((p.en.keep k).keep k2).set (.ref a) j,g'.put (o:=.exc Cn) k2 ⟨ad,hc,dM⟩,h a<|g'.free ha,⟨?_,?_,?_,?_⟩⟩
   .exact λĬ Ņ G2 H2 k3 g3 r3 n3=>q.nx _ _ G2 H2 ((k.trans k2).trans k3) g3 (r3.unset j) n3
   .exact λv G2 H2 x k3 g3 r3 n3=>q.rt v G2 H2 x ((k.trans k2).trans k3) g3 r3 n3
   .exact λĬ Ņ G2 H2 k3 g3 r3 n3=>q.bk _ _ G2 H2 ((k.trans k2).trans k3) g3 (r3.unset j) n3
   .exact λĬ Ņ G2 H2 k3 g3 r3 n3=>q.ct _ _ G2 H2 ((k.trans k2).trans k3) g3 (r3.unset j) n3
  .rw[fB e,fz.q_h_nil]at h;exact h.elim
def Gd.nox(g:Gd X i P n c):Gd X.nox i P n c :=
 ⟨g.K,g.N,g.sc,g.nd,g.un,g.calm,g.room,g.bl,g.dfs,g.cst,⟨g.kl.A,g.kl.F,g.kl.mkc,g.kl.mth⟩,λh=>⟨(g.xl h).xc,(g.xl h).rs,(g.xl h).kn⟩⟩
def Gs.hot(g:Gs X i P n c)(a:Ê):Gs (X.caught a) i P n c.hot :=
 {K:=g.K,N:=g.N,sc:=g.sc,nd:=g.nd,un:=g.un,calm:=λz=>(by cases z),room:=λz=>(by cases z),bl:=g.bl,dfs:=g.dfs,cst:=g.cst,kl:=⟨g.kl.A,g.kl.F,g.kl.mkc,g.kl.mth⟩,xl:=λh=>⟨(g.xl h).xc,(g.xl h).rs,(g.xl h).kn⟩,fn:=g.fn,own:=λz=>(by cases z),stk:=λz=>(by cases z)}
def HR(g:Gs X i P n c){t:Option Nat}{y:ğ}(cz:c.cm=dI)(h:CC m c (ke y 0)=dI)(ht:DE c t=dI) :
  ∃nx:St->V->St,PB X [LO t m c y] (λD E σ H=>tCx i (fz.wF P n) m σ H (λv H'=>D.nx (nx σ v) H') E)/\∀H env σ v x,REn i.K H env σ->RV i.K H v x->REn i.K H (fz.tryEnv env t v) (nx σ x):=by
 cases m with
 |call f as =>
  have h:((c.gl (fK f)&&nm (fK f))&&c.fs.contains f&&fJ (Zc as≠0)&&okA as c (sub<|ke y 0).tail)=dI:=h;rw[bAq,bAq,bAq,bAq,fH]at h;let⟨⟨⟨⟨h1,h2⟩,h3⟩,h4⟩,h5⟩:=h;cases as with
  |nil=>exact fI rfl h4
  |cons a as =>
   have hc:PCx X (toX (.call f<|.cons a as) c<|ke y 0)<|tCx i (fz.wF P n)<|.call f<|.cons a as:=Ee g.K (g.dfs _ h3) (g.rm cz) (g.gl h1) (X5 h2).1 (eA (.cons a as) X.nox c _ g.toGd.nox h5) (Zl ..)<|Z6 ..;cases t with
   |none=>exact⟨λσ _=>σ,E5 hc rfl,λH env σ v x e _=>e⟩
   |some j =>let⟨q1,q2,q3⟩:=g.nm1 ht;exact⟨λσ v=>σ.set j<|dF v,Iy (by rw[g.N];exact g.nd) q1 q2 hc rfl q3,λH env σ v x e r=>e.set r j⟩
 |_=>cases h
def FD(h:UJ b=dI)(c:Md)(xs:List ğ):∃y ys,toSs b c xs=y::ys:=by
 cases b with
 |nil=>cases h
 |cons s ss=>exact⟨_,_,rfl⟩
mutual
theorem sS:∀(m:fz.S) (X:Cx) (c:Md) (s:ğ),Gs X i P n c->okS m c s=dI->PS X (toS m c s) (tSt X i (fz.wF P n) m)
 |.set p a,X,c,s,g,h=>by
  have h:(okP p c&&okE a c (ke s 0)&&(ZF p || !CF a)&&(ZF p||c.cm))=dI:=h;rw[bAq,bAq,bAq]at h;let⟨⟨⟨h1,h2⟩,h3⟩,h4⟩:=h;by_cases hsw:swT c (toP p c<|ke s 1) (toX a c<|ke s 0)=dI
  .obtain⟨ô,k,pt,it,tt,e,rfl⟩:=L6 hsw;cases p with
   |one j =>let⟨q1,q2,q3⟩:=g.nm1 h1;exact(At g.toGd h2).2 _ _ _ j q1 q2 q3 (by rw[<-hsw];exact Jf (c:=c) (.comp ô k pt it tt e) (ke s 0) g.sc)
   |many js=>cases hsw
   |nest j js=>cases hsw
  .have hp:PG X (toP p c<|ke s 1)<|gPt i p:=HG g h4 h1;exact Lg (eE a X c _ g.toGd h2) hp (by rw[Η,Jf a _ g.sc,Ϩ.mpr hsw]) (LC p a _ _ _ h3)<|DX p _ _
 |.setIdx a j e,X,c,s,g,h=>by have h:(okE e c (ke s 0)&&okE a c (kid (ke s 1) 0)&&okE j c (kid (ke s 1) 1))=dI:=h;rw[bAq,bAq]at h;have ha:=eE a X c _ g.toGd h.1.2;have hj:=eE j X c _ g.toGd h.2;exact U4 g.K (eE e X c _ g.toGd h.1.1) ha hj (Ic ha hj (PSet.or Ny<|Np (by have:=g.un;lia))<|EE j) (by rw[Η,Jf e _ g.sc,Cp λy q z=>(by cases z)]) (Gr _ _ (ke s 1).pos _<|.inl ⟨_,_,_,rfl⟩) rfl
 |.setPair a j b k e,X,c,s,g,h=>nomatch h
 |.setFld o f e,X,c,s,g,h=>by have h:(c.fl.contains f&&okE o c (kid (ke s 1) 0)&&okE e c (ke s 0))=dI:=h;rw[bAq,bAq]at h;exact Af g.K g.kl.A (g.kl.F _ h.1.1) (eE o X c _ g.toGd h.1.2) (eE e X c _ g.toGd h.2) (by rw[Jf e _ g.sc,Cp λy q z=>(by cases z)])
 |.augVar j op e,X,c,s,g,h=>nomatch h
 |.augFld o f op k,X,c,s,g,h=>by have h:(c.fl.contains f&&okE o c (kid (ke s 1) 0)&&AE op)=dI:=h;rw[bAq,bAq]at h;exact Ag g.K g.kl.A (g.kl.F _ h.1.1) (GS h.2)<|eE o X c _ g.toGd h.1.2
 |.expr e,X,c,s,g,h=>by have h:(okE e c (ke s 0) && !Ol e)=dI:=h;rw[bAq]at h;exact F8 (eE e X c _ g.toGd h.1)<|FW h.2
 |.ret e,X,c,s,g,h=>LG<|eE e X c _ g.toGd h
 |.retN,X,c,s,g,h=>E4
 |.ite t a b,X,c,s,g,h=>by have h:(okT t c (ke s 0)&&okSs a c (stB s)&&okSs b c (stO s))=dI:=h;rw[bAq,bAq]at h;exact Lq (eT t X c _ g.toGd h.1.1).1 (sSs a X c _ g h.1.2)<|sSs b X c _ g h.2
 |.whl t b,X,c,s,g,h=>by have h:(okT t c (ke s 0)&&okSs b c (stB s)&&c.cm)=dI:=h;rw[bAq,bAq]at h;exact LN (g.own h.2) (eT t X c _ g.toGd h.1.1).1<|sSs b X c _ g h.1.2
 |.for p it b,X,c,s,g,h=>by have h:(okP p c&&okI it c (ke s 1) (!ZF p)&&okSs b c (stB s)&&c.cm)=dI:=h;rw[bAq,bAq,bAq]at h;let⟨⟨⟨h1,h2⟩,h3⟩,h4⟩:=h;let⟨t1,t2⟩:=MH (c:=c) p<|ke s 0;let⟨a1,a2⟩:=eI it X c (ke s 1) (toP p c<|ke s 0) g.toGd (!ZF p) t1 t2 h2;exact L9 (g.own h4) (g.calm h4) a1 (UF g h4 h1) (sSs b X c _ g h3) a2
 |.forI dI p e b,X,c,s,g,h=>by have h:(okP p c&&GW e&&okE e c (ke s 1)&&okSs b c (stB s)&&c.cm)=dI:=h;rw[bAq,bAq,bAq,bAq]at h;let⟨⟨⟨⟨h1,h2⟩,h3⟩,h6⟩,h7⟩:=h;refine Fz (g.own h7) (g.calm h7) (eE e X c _ g.toGd h3) (UF g h7 h1) (sSs b X c _ g h6) λ_=>?_;cases e<;>first|rfl|cases h2
 |.forI dJ p e b,X,c,s,g,h=>by have h:(okP p c && !ZF p&&okE e c (kid (kid (ke s 1) 0) 0)&&YX (toX e c<|kid (kid (ke s 1) 0) 0)&&((kid (ke s 1) 0).pos.endLine==(ke s 1).pos.line)&&okSs b c (stB s)&&c.cm)=dI:=h;rw[bAq,bAq,bAq,bAq,bAq,bAq]at h;let⟨⟨⟨⟨⟨⟨h1,h2⟩,h3⟩,h4⟩,h5⟩,h6⟩,h7⟩:=h;let⟨es,k,q,et⟩:=(MH (c:=c) p<|ke s 0).1 h2;have hg:=UF (x:=ke s 0) g h7 h1;show PS X (.For (toP p c<|ke s 0) _ _ _ _) _;rw[et]at hg ⊢;exact Gx (g.own h7) (g.calm h7) (eE e X c _ g.toGd h3) hg (sSs b X c _ g h6) (YF h4 _ _) h5 λ_=>rfl
 |.never,X,c,s,g,h=>BN
 |.brk,X,c,s,g,h=>nomatch h
 |.cnt,X,c,s,g,h=>nomatch h
 |.pass,X,c,s,g,h=>nomatch h
 |.raise C as,X,c,s,g,h=>by
  have h:((c.gl (fK C)&&nm (fK C))&&c.xs.contains C&&c.cm&&fJ (Zc as≠0)&&fJ (Zc as<=1000)&&okA as c (sub<|ke s 0).tail)=dI:=h;rw[bAq,bAq,bAq,bAq,bAq,bAq,fH,fH]at h;let⟨⟨⟨⟨⟨⟨h1,h2⟩,h3⟩,h4⟩,h5⟩,h6⟩,h7⟩:=h;let⟨a,hx,O⟩:=(g.xl<|by intro z;rw[z]at h3;cases h3).rs C h3;have ha:=eA as X c _ g.toGd h7;cases as with
  |nil=>exact fI rfl h5
  |cons b as=>exact C4 (g.calm h4) O hx (g.gl h1) ha (by rw[XD];exact h6) (X5 h2).1 (Zl ..)<|Z6 ..
 |.try t e (.cons K nm b .nil),X,c,s,g,h=>by
  have h:(CC e c (ke ((stB s).headD dS) 0)&&DE c t&&((c.xs.contains K||K == "ShutError")&&(c.gl (fK K)&&Snd.nm (fK K)) && !c.xs.isEmpty&&IR c nm&&UJ b&&okSs b c.hot (hB<|(stH s).headD dH)&&dI)&&c.cm)=dI:=h;simp only[bAq]at h;let⟨⟨⟨h1,h2⟩,⟨⟨⟨⟨⟨h3,h4,h5⟩,h6⟩,h7⟩,h8⟩,h9⟩,_⟩,h10⟩:=h;let⟨nx,hb,hn⟩:=HR g h10 h1 h2;let⟨Da,hm,hk⟩:=(g.xl<|by intro z;rw[z]at h6;cases h6).kn K h3;let⟨y0,ys,e0⟩:=FD h8 c.hot<|hB<|(stH s).headD dH;have hs:∀a,PSs (X.caught a) (y0::ys) (tB0 i (fz.wF P n) b):=λa=>by rw[<-e0];exact Qe<|sSs b (X.caught a) c.hot _ (g.hot a) h9
  show PS X (.Try [LO t e c<|(stB s).headD dS] [.ExceptHandler (dF<|.Name (fK K) (hT<|(stH s).headD dH).pos) (nm.map c.nmOf) (toSs b c.hot<|hB<|(stH s).headD dH)<|hP<|(stH s).headD dH] [] [] s.pos) _;rw[e0];cases nm with
  |none=>exact IM (g.stk h10) g.K hb hn (g.gl h4) hm (λC a z=>(hk C a z).2) hs (X5 h5).1
  |some j =>have h7:(fJ (j<c.N.length)&&c.sc.names.lookup (c.nmOf j)==dF .local)=dI:=h7;rw[bAq,fH]at h7;exact Ft (g.stk h10) (by rw[g.N];exact g.nd) (NW g.N h7.1) (by rw[g.sc];exact eq_of_beq h7.2) g.K hb hn (g.gl h4) hm (λC a z=>(hk C a z).2) hs (X5 h5).1
 |.try t e (.cons K nm b<|.cons _ _ _ _),X,c,s,g,h=>by have h:(CC e c (ke ((stB s).headD dS) 0)&&DE c t&&((c.xs.contains K||K == "ShutError")&&c.gn K && !c.xs.isEmpty&&IR c nm&&UJ b&&okSs b c.hot (hB<|(stH s).headD dH)&&dJ)&&c.cm)=dI:=h;rw[aH,aH,aF]at h;cases h
 |.try t e .nil,X,c,s,g,h=>by have h:(CC e c (ke ((stB s).headD dS) 0)&&DE c t&&dJ&&c.cm)=dI:=h;rw[aH,aF]at h;cases h
 |.augIdx a j op k,X,c,s,g,h=>by have h:(okE a c (kid (ke s 1) 0)&&okE j c (kid (ke s 1) 1)&&AE op)=dI:=h;rw[bAq,bAq]at h;exact Ax g.K (by have:=g.un;lia) h.2 (eE a X c _ g.toGd h.1.1) (eE j X c _ g.toGd h.1.2)<|LJ j _
theorem sSs:∀(ms:fz.Ss) (X:Cx) (c:Md) (xs:List ğ),Gs X i P n c->okSs ms c xs=dI->PSs X (toSs ms c xs) (tBl X i (fz.wF P n) ms)
 |.nil,X,c,xs,g,h=>Hy
 |.cons m ms,X,c,xs,g,h=>by have h:(okS m c (xs.headD dS)&&okSs ms c xs.tail)=dI:=h;rw[bAq]at h;exact Gk (sS m X c _ g h.1)<|sSs ms X c _ g h.2
end
abbrev N8(N ps:List Str)(sc:ů):Bool :=
 sc.kind == .function && !sc.isCoroutine && !sc.isGenerator&&decide N.Nodup&&(N.take ps.length==ps)&&ps.all (λx=>sc.names.lookup x==dF .local||sc.names.lookup x==dF .cell)&&sc.names.all λy=>y.2 != .free
variable {ps:List Str}
def Rr{N:List Str}{sc:ů}(h:N8 N ps sc=dI):FnScope N ps sc:=by
 simp only[N8,bAq,ę,fH,ö]at h;let⟨⟨⟨⟨⟨⟨h1,h2⟩,h3⟩,h4⟩,h5⟩,h6⟩,h7⟩:=h;refine⟨eq_of_beq h1,h2,h3,h4,eq_of_beq h5,λx hx=>?_,λy hy=>?_⟩
 .simpa using h6 x hx
 .simpa using h7 y hy
structure Ds where
 st:ğ
 N:List Str
 ps:List Str
 d:fz.Fn
structure Mt where
 C:String
 m:String
 qual:String
 x:Ds
structure Tb where
 fs:List<|String×Ds
 ms:List Mt
 cs:List<|String×fz.Val
 cl:List String
 fl:List String
 xs:List String
abbrev Tb.md(T:Tb)(x:Ds):Md:={N:=x.N,sc:=Zv x.st,cs:=T.cs,fs:=T.fs.map (·.1),cm:=dI,cl:=T.cl,ms:=T.ms.map λy=>(y.C,y.m),fl:=T.fl,xs:=T.xs}
abbrev Ds.test(T:Tb)(x:Ds):Bool :=
 N8 x.N x.ps (Zv x.st)&&okSs x.d.body (T.md x) (ZV x.st)&&x.ps.length==x.d.ar&&x.N.length==x.d.sz&&fJ (x.d.ar<=x.d.sz)
structure Ds.Ok(T:Tb)(x:Ds):Prop where
 ok:x.test T=dI
 eq:toSs x.d.body (T.md x) (ZV x.st)=ZV x.st
variable {pr:é}{wd:Ā}{mg:Str->Option Â}{base:ć}{i:Inf}{P:fz.Pg}{T:Tb}
abbrev Dst(K:Frag)(mg:Str->Option Â)(f:String)(x:Ds):Prop:=∃fa fd qual,Fun K (fK f) qual x.st fa fd/\mg (fK f)=dF (.ref fa)/\Binds K fd x.ps []
structure Mst(i:Inf)(mg:Str->Option Â)(y:Mt)(a fa:Ê):Prop where
 cl:mg (fK y.C)=dF (.ref a)
 fn:∃fd,Fun i.K (fK y.m) (fK y.qual) y.x.st fa fd/\Binds i.K fd y.x.ps []
 at_:Meth i.K a (fK y.m) fa
variable {f:String} {fa:Ê} {fd:ļ}
def OZ:eK pr wd i.K mg base (CX1 pr wd) 0 fa fd ps<|spF i P 0 f:=by
 refine⟨λvs H Q E h=>?_,λA outer s H args us vs Q E hr he hb hv h=>?_⟩
 .obtain⟨_,_,_,_,_,_,w,_⟩:=h;rw[fz.wF_eq]at w;exact w.elim
 .obtain⟨_,_,_,_,_,_,w,_⟩:=h;rw[fz.wF_eq]at w;exact w.elim
variable {n:Nat}
def B6{vs:List fz.Val}{h:fz.Hs}{Q:fz.Q1}{E:fz.XQ}(q:fz.wF P (n+1) f vs h Q E):∃d,P f=dF d/\vs.length=d.ar/\fz.wSs (fz.wF P n) d.body (d.env vs) h (λ_ g=>Q .non g) Q (λ_ _=>False) (λ_ _=>False) λ_ c g=>E c g:=by rw[fz.wF_eq]at q;let⟨d,e,q1,q2⟩:=dO q;exact⟨d,e,q1,by rw[fz.wF_eq];exact q2⟩
structure Modu(mg:Str->Option Â)(base:ć)(i:Inf)(T:Tb):Prop where
 bl:∀x∈blts,mg x=dG
 cst:∀x v,T.cs.lookup x=dF v->∃u y,mg (fK x)=dF u/\RelV y u/\∀H,RV i.K H v y
 A:ClsA i
 F:∀f,T.fl.contains f=dI->FldOk i f
 cl:∀C a,i.cl C a->mg (fK C)=dF (.ref a)
 mkc:∀C,T.cl.contains C=dI->∃a y f,i.ins C=dI/\i.cl C a/\Mk i.K a f/\y∈T.ms/\y.C=C/\y.m = "__init__"/\Mst i mg y a f
 fs:∀f x,(f,x)∈T.fs->Dst i.K mg f x
 ms:∀y,y∈T.ms->∃a f,Mst i mg y a f/\Cls i.K a
 xc:T.xs≠[]->∀C a,i.xc C a->XCls i.K a/\PySem.W.kitOne i.K (.ref a) (.type "ValueError")=dF dI
 rs:T.xs≠[]->∀C,T.xs.contains C=dI->∃a,i.xc C a/\PyProof.Rows.OwnCls (fK C) a [.type "ValueError",.type "Exception",.type "BaseException",.type "object"] "ValueError.__new__" mg base
 kn:T.xs≠[]->∀T',(T.xs.contains T'||T' == "ShutError")=dI->∃D,mg (fK T')=dF (.ref D)/\∀C a,i.xc C a->PySem.W.kitOne i.K (.ref a) (.ref D)=dF (fz.fj C T')/\(fz.fj C T'=dI->PySem.W.exmOne i.K (.ref a) (.ref D)=dF dI)
structure Held(pr:é)(wd:Ā)(mg:Str->Option Â)(base:ć)(i:Inf)(P:fz.Pg)(T:Tb)(n:Nat):Prop where
 fs:∀f x,(f,x)∈T.fs->Dfo pr wd mg base i P n f
 ms:∀y a f,y∈T.ms->Mst i mg y a f->Dfm pr wd mg base i P n (y.C ++ "." ++ y.m) f
def fn_succ{x:Ds}{nm qual:Str}(M:Modu mg base i T)(hn:Held pr wd mg base i P T n)(F:Fun i.K nm qual x.st fa fd)(hP:P f=dF x.d)(ht:x.Ok T):eK pr wd i.K mg base (CX1 pr wd) (2*(n+1)) fa fd x.ps<|spF i P (n+1) f:=by
 let⟨ht,heq⟩:=ht;simp only[Ds.test,bAq,fH]at ht;let⟨⟨⟨⟨h1,h2⟩,h3⟩,h4⟩,h5⟩:=ht;have h3:=eq_of_beq h3;have h4:=eq_of_beq h4;have S:=Rr h1;refine F.ok1 (k:=2*n+1) S (λvs H Q E h=>?_) λϒ A outer s H vs Q E hr hsp hw=>?_
 .obtain⟨args,G,Qm,Em,r,g,w,_⟩:=h;let⟨d,e,q,_⟩:=B6 w;rw[hP]at e;cases e;rw[<-r.length,q,h3]
 .obtain⟨args,G,Qm,Em,r,g,w,cn,ex⟩:=hsp;let⟨d,e,q,w⟩:=B6 w;rw[hP]at e;cases e;have gd:Gs (Mg (CX1 pr wd) pr wd i.K mg base x.N qual (Zv x.st) fa ϒ A outer s H E) i P n (T.md x) :=
   { K:=rfl,N:=rfl,sc:=rfl,nd:=S.nd,un:=(by have:=hr.un;show(A.deeper _).units+200<Ĥ;lia),calm:=λ_=>rfl,room:=λ_=>hr,bl:=M.bl
     dfs:=λg hg=>(by
       let⟨p,hy,e⟩:=ã.mp<|ā.mp hg
       subst e
       exact hn.fs p.1 p.2 hy)
     cst:=M.cst
     kl:=⟨M.A,M.F,λC hC=>(by
       let⟨a,y,f,q1,q2,q3,q4,rfl,q6,q7⟩:=M.mkc C hC
       refine⟨a,f,q1,q2,q3,M.cl _ _ q2,?_⟩
       have:=hn.ms y a f q4 q7
       rw[q6]at this
       rwa [show y.C ++ ".__init__" = y.C ++ "." ++ "__init__" by rw[String.append_assoc];rfl]),λC m hC=>(by
       let⟨y,hy,e⟩:=ã.mp<|ā.mp hC
       cases e
       let⟨a,f,q1,q2⟩:=M.ms y hy
       refine⟨a,f,λb hb=>?_,q2,q1.at_,hn.ms y a f hy q1⟩
       have e1:=M.cl _ _ hb
       rw[q1.cl]at e1
       cases e1
       rfl)⟩
     xl:=λh=>⟨M.xc h,M.rs h,M.kn h⟩
     fn:=λ_ _=>.inl rfl
     own:=λ_=>PassesOwn.leaving
     stk:=λ_=>rfl }
  have hb:=sSs x.d.body _ _ _ gd h2;rw[heq]at hb;refine⟨_,hb,?_⟩;refine⟨x.d.env args,G,(λ_ g=>Qm .non g),Qm,(λ_ _=>False),(λ_ _=>False),(λ_ c g=>Em c g),?_,w,?_⟩
  .refine⟨?_,g,?_⟩
   .have:=REn.start (n:=x.d.sz - x.d.ar) r;unfold L2.start;have e1:x.N.length - vs.length=x.d.sz - x.d.ar:=by rw[h4,<-r.length,q]
    rw[e1];exact this
   .intro Á σ H0 s0 H' a cls s' I fl hx;let⟨e,c,G',ad,q1,q2,q3,q4,q5⟩:=hx;exact hw Á σ H0 s0 H' a cls s' I fl<|ex _ _ _ ⟨c,G',ad,q1,q2,q3,q4,q5⟩
  .refine⟨?_,?_,?_,?_⟩
   .intro Ĭ Ņ G' H' k g' e w';exact cn .non G' H' .non k g' .non w'
   .intro v G' H' y k g' rv w';exact cn v G' H' y k g' rv w'
   .intro _ _ _ _ _ _ _ z;exact z.elim
   .intro _ _ _ _ _ _ _ z;exact z.elim
def held_all(M:Modu mg base i T)(hP:∀f x,(f,x)∈T.fs->P f=dF x.d)(hPm:∀y,y∈T.ms->P (y.C ++ "." ++ y.m)=dF y.x.d)(ht:∀f x,(f,x)∈T.fs->x.Ok T)(htm:∀y,y∈T.ms->y.x.Ok T):∀n,Held pr wd mg base i P T n:=by
 intro n;induction n with
 |zero =>
  refine⟨λf x h=>?_,λy a f hy S=>?_⟩
  .obtain⟨fa,fd,qual,F,hm,hb⟩:=M.fs f x h;exact⟨fa,fd,x.ps,OZ,hm,F.kp,hb⟩
  .obtain⟨fd,F,hb⟩:=S.fn;exact⟨fd,y.x.ps,OZ,hb⟩
 |succ n ih =>
  refine⟨λf x h=>?_,λy a f hy S=>?_⟩
  .obtain⟨fa,fd,qual,F,hm,hb⟩:=M.fs f x h;exact⟨fa,fd,x.ps,fn_succ M ih F (hP f x h)<|ht f x h,hm,F.kp,hb⟩
  .obtain⟨fd,F,hb⟩:=S.fn;exact⟨fd,y.x.ps,fn_succ M ih F (hPm y hy)<|htm y hy,hb⟩
end Snd
namespace Hd
open PySem PySem.W PyProof.Rows
abbrev Ja(st:SharedT->Thread->Option (SharedT×Thread))(ok th:Thread->Bool):Nat->SharedT->Thread->Option SharedT
 |0,_,_=>dG
 |n+1,s,t=>match th t with
  |true=>dF s
  |false=>match ok t with
   |false=>dG
   |true=>match st s t with
    |some (s',t')=>Ja st ok th n s' t'
    |none=>dG
def JF{tb:String->Option Builtin}{p:Program}{w:World}{n₀:Nat}{ann:Option Value}:∀{n:Nat}{s s':SharedT}{t:Thread},Ja (stepT (denote tb) p w) (stepOk n₀ ann) through n s t=dF s'->topRun tb p w n₀ ann n s.abs t=dF s'.abs
 |0,_,_,_,h=>by cases h
 |n+1,s,s',t,h=>by
  unfold Ja at h;unfold topRun;cases ht:through t with
  |true=>rw[ht]at h;cases h;rfl
  |false =>
   rw[ht]at h;dsimp only at h ⊢;cases hk:stepOk n₀ ann t with
   |false=>rw[hk]at h;cases h
   |true =>
    rw[hk]at h;dsimp only at h ⊢;cases hs:stepT (denote tb) p w s t with
    |none=>rw[hs]at h;cases h
    |some r =>let⟨s2,t2⟩:=r;rw[hs]at h;rw[stepT_spec hs];exact JF h
abbrev Jv(P:Params):BT :=
 .node (boot_o_0 P) (.node (boot_o_1 P) (.node (boot_o_3 P) (.node (boot_o_7 P) .nil .nil) .nil)<|.node (boot_o_5 P) (.node (boot_o_9 P) .nil .nil) .nil)
  (.node (boot_o_2 P) (.node (boot_o_4 P) (.node (boot_o_8 P) .nil .nil) .nil)<|.node (boot_o_6 P) (.node (boot_o_10 P) .nil .nil) .nil)
def DL(P:Params):absHeap (Jv P) 11 {}=boot_heap P:=by kernel_rfl
def Am(P:Params):((boot_heap P).isNs mainGlobals&&(Array.mk []:Array GenState).size==0,(boot_heap P).objs.size,(boot_heap P).nsMap mainGlobals "__annotations__")=(dI,11,dF<|.ref 6):=by
 rw[show @Heap.nsMap=_ from Fast.te8920871248978507458]
 kernel_rfl
abbrev GD:=Fast.tw10156331382660048174
abbrev Uq:=Fast.tw11892475500146522536
abbrev CM:=Fast.tw14364793385576792824
abbrev okY:=Fast.tw6613529449190102663
abbrev seenY:=Fast.tw4187177175401517315
abbrev modsY:=Fast.tw5923862056798008813
abbrev runY(p:Program)(N:Nat)(w:World)(os:OsState):Option SharedT:=Ja (GD (Uq CM) p w) (okY 11<|dF<|.ref 6) through N ⟨Jv w.params,11,{},Array.mk [],boot_drawn,boot_toks,os⟩<|topStub p
abbrev stY(p:Program)(w:World)(s:SharedT):Bool:=staticsOk (modsY p.main.body) (boot_heap w.params) s.abs.heap&&namesBound p s.abs.heap&&gensDone s.abs&&laidKept (boot_heap w.params) s.abs.heap
def left_of{p q:Program}{loose:List Str}{Xt:Shared->Bool}{α:Type}{Yf:Shared->α}{Ya:World->α}{N:Nat}(e:opening p=plainProg p.main.scope.names)(hN:Nat.ble 600 N=dI)(f:∀s,fenceModules? p s=dF s)
  (one:∀w os,(runY p N w os).map (stY p w)=dF dI) (two:∀w os,(runY p N w os).map (λs=>seenY q loose (modsY p.main.body) Xt dI s.abs)=dF (openGood q loose)) (three:∀w os,(runY p N w os).map (λs=>Yf s.abs)=dF (Ya w)) :
  LeftO p q loose Xt Yf Ya N:=by
 intro w;let⟨⟨h,gs,d,k,os⟩,e1,e2⟩:=Ï.mp<|boot_open e hN f w;obtain⟨rfl,rfl,rfl,rfl⟩:h=boot_heap w.params/\gs=Array.mk []/\d=boot_drawn/\k=boot_toks:=⇑e2
 let⟨s,r,l1⟩:=Ï.mp<|one w os;let⟨s',r',l2⟩:=Ï.mp<|two w os;cases r.symm.trans r';let⟨s',r',l3⟩:=Ï.mp<|three w os;cases r.symm.trans r';obtain⟨z1,z2,z3⟩:_/\_/\_:=by simpa only[Œ]using Am w.params
 unfold stY at l1;unfold runY GD Uq CM okY at r;rw[<-Fast.te10156331382660048174,<-Fast.te11892475500146522536,<-Fast.te14364793385576792824,<-Fast.te6613529449190102663]at r;unfold modsY at l1 l2;unfold seenY at l2;rw[<-Fast.te5923862056798008813]at l1 l2;rw[<-Fast.te4187177175401517315]at l2;have r2:=JF r;have ea:(SharedT.mk (Jv w.params) 11 {} (Array.mk []) boot_drawn boot_toks os).abs=⟨boot_heap w.params,Array.mk [],boot_drawn,boot_toks,os⟩:=by show Shared.mk (absHeap _ _ _) _ _ _ _=_;rw[DL]
 rw[ea]at r2;have t:topFrom treeTable p w N ⟨boot_heap w.params,Array.mk [],boot_drawn,boot_toks,os⟩=dF s.abs:=by unfold topFrom;dsimp only;rw[z1,z2,z3,r2];show(match staticsOk (importedModules p.main.body) (boot_heap w.params) s.abs.heap&&namesBound p s.abs.heap&&gensDone s.abs&&laidKept (boot_heap w.params) s.abs.heap with|true=>_|false=>_)=_;rw[l1]
 unfold openEnds;rw[e1];show(topFrom treeTable p w N _).map _=_;rw[t];exact congrArg dF<|Prod.ext l2 l3
end Hd
namespace Hd
open PySem PySem.W PyProof.Rows L2
abbrev KN:Nat->List Obj->Frag
 |_,[]=>[]
 |i,o::r=>match o with
  |⟨_,_,.freed,_⟩=>KN (i+1) r
  |o=>(i,o)::KN (i+1) r
abbrev ZB(g:Heap):Frag:=KN 0 g.objs.toList
def Nb:∀(l:List Obj) (i a:Nat) (o:Obj),(KN i l).lookup a=dF o->i<=a/\l[a - i]?=dF o/\(match dF o with|some ⟨_,_,.freed,_⟩=>dG|o=>o)=dF o
 |[],_,_,_,h=>by cases h
 |x::r,i,a,o,h=>by
  have rec1:(KN (i+1) r).lookup a=dF o->i<=a/\(x::r)[a - i]?=dF o/\(match dF o with|some ⟨_,_,.freed,_⟩=>dG|o=>o)=dF o:=λq=>by let⟨h1,h2,h3⟩:=Nb r (i+1) a o q;refine⟨by lia,?_,h3⟩;rw[show a - i=(a - (i+1))+1 by lia,List.getElem?_cons_succ];exact h2
  unfold KN at h;split at h
  .exact rec1 h
  .rename_i c ŝ;rw[ð]at h;split at h
   .rename_i e;cases h;have e:=eq_of_beq e;subst e;refine⟨Ì _,by rw[Nat.sub_self];rfl,?_⟩;split
    .rename_i d1 d2 d3 d4;cases d4;exact(ŝ _ _ _ rfl).elim
    .rfl
   .exact rec1 h
def Ot{g:Heap}{a:Addr}{o:Obj}(h:(ZB g).lookup a=dF o):g.get? a=dF o:=by let⟨_,h2,h3⟩:=Nb _ _ _ _ h;unfold Heap.get?;rw[Nat.sub_zero,Ι]at h2;rw[h2];exact h3
abbrev CZ(K:Frag)(nm:Str):Option<|FuncData×Bool×Bool:=match nsIn K mainGlobals nm with
 |some (dF<|.ref f)=>match K.lookup f with
  |some ⟨_,_,.func fd,_⟩=>dF ({fd with kwdefaults:=.none,doc:=.none,pyModule:=.none,annotations:=dG,code:=.none,closureTuple:=.none},codeIn K fd.code fd.qualname,keepIn K<|.ref f)
  |_=>dG
 |_=>dG
abbrev DR(nm:Str)(st:Stmt):Option<|FuncData×Bool×Bool:=dF (fnOf nm nm (YT st) (ZV st) (Zv st) .none .none .none .none dG .none .none,dI,dI)
def Ig{K:Frag}{nm:Str}{st:Stmt}(e:CZ K nm=DR nm st):∃fa fd,Fun K nm nm st fa fd/\nsIn K mainGlobals nm=dF (dF<|.ref fa):=by
 unfold CZ at e;split at e
 .rename_i f hf;split at e
  .rename_i oc od fd sl hl;simp only[DR,ī,Œ]at e;let⟨e1,e2,e3⟩:=e;let⟨n1,n2,n3,n4,n5,n6,n7,n8,n9,n10,n11,n12,n13,n14,n15⟩:=fd;simp only[fnOf,FuncData.mk.injEq]at e1;obtain⟨rfl,rfl,rfl,rfl,rfl,rfl,rfl,rfl,-,-,-,-,-,-,rfl⟩:=e1;exact⟨f,_,C5 hl e2 e3,hf⟩
  .cases e
 .cases e
abbrev G0(K:Frag)(y:Str):Bool:=match nsIn K mainGlobals y with
 |some dG=>dI
 |_=>dJ
def F7{l:OpenLaw}{n k:Nat}{q:Program}{loose:List Str}{XP:(Str->Option Value)->Heap->Prop}{YP:World->Heap->Prop}{d:DefRec}{CX:World->CXT}{x:Str}
  (hn:l.most=dF n) (hn2:n<=sizeLine) (hdf:d.params.defaults=[]) (hr:eF k callerA)
  (F:∀(w:World) (mg:Str->Option Value) (fa:Addr) (h:Heap),YP w h->h.Ns mainGlobals mg->mg d.name=dF (.ref fa)->∃(K:Frag) (sp:Sp),K.In h/\
    (∃fd:FuncData,(∀(s:Shared) (u:Value),BindsTo s fd ⟨[u],[]⟩ [(x,u)])/\∀base:Heap,K.In base->base.Ns mainGlobals mg->eK l.prog w K mg base (CX w) k fa fd [x] sp)/\
    ∀(H:Hp) (a:Addr) (ns:List Int),ns.length<=n->ID H->fk K H a (ns.map V.int)->sp [.ref a] H (λv _=>v=.bl dI) λ_ _ _=>False)
  (hCX:∀(w:World) (H:Hp) (s:Shared) (e:Value) (s':Shared),CX w [] H s (λ_ _ _=>False) e s'->False) :
  WalkO q loose XP YP l.row.toRowW d [] (λf vs=>PySem.call f vs):=by
 refine Att.attach_call hn hdf λw s₀ ģ mg mb fa o pm cd doc a vs ns G Y ho hd aq hmg cK hints hlen hg=>?_;let⟨K,sp,KX,⟨fd,hb,hF⟩,hsp⟩:=F w mg fa _ Y G.T.g hmg;exact DC KX G.T.g G.T.b G.T.builtins G.T.nolimit hg cK hints (Ô hlen hn2) hr hF hb (λH hO hS=>hsp H a ns hlen hO hS) λH e s'=>hCX w H ģ e s'
abbrev FQ(f:Value->fz.Val->Bool):List Value->List fz.Val->Bool
 |[],[]=>dI
 |u::us,x::xs=>f u x&&FQ f us xs
 |_,_=>dJ
abbrev GR(K:Frag):Value->Option (List Value)
 |.ref a=>match K.lookup a with
  |some ⟨.type n,_,.seq us _,_⟩=>if n == "tuple" && fJ (us.size<=sizeLine)then dF us.toList else dG
  |_=>dG
 |_=>dG
abbrev FY(K:Frag):Nat->Value->fz.Val->Bool
 |0,_,_=>dJ
 |n+1,u,v=>match v with
  |.non=>(match u with|.none=>dI|_=>dJ)
  |.bl b=>(match u with|.bool a=>a==b|_=>dJ)
  |.int j=>(match u with|.int i _=>i==j|_=>dJ)
  |.str t=>(match u with|.str s _=>Fast.sEq s (fK t)|_=>dJ)
  |.tup xs=>(match GR K u with|some us=>FQ (FY K n) us xs|none=>dJ)
  |_=>dJ
def Cj{K:Frag}{f:Value->fz.Val->Bool}(hf:∀u v,f u v=dI->∃z,RelV z u/\∀H,Snd.RV K H v z):∀(us:List Value) (xs:List fz.Val),FQ f us xs=dI->∃zs,fo zs us/\∀H,Snd.RVs K H xs zs
 |[],[],_=>⟨[],.nil,λ_=>.nil⟩
 |u::us,x::xs,h=>by rw[FQ,bAq]at h;let⟨z,r,q⟩:=hf u x h.1;let⟨zs,rs,qs⟩:=Cj hf us xs h.2;exact⟨z::zs,.cons r rs,λH=>.cons (q H)<|qs H⟩
 |[],_::_,h=>by cases h
 |_::_,[],h=>by cases h
def B3{K:Frag}:∀(n:Nat) (u:Value) (v:fz.Val),FY K n u v=dI->∃z,RelV z u/\∀H,Snd.RV K H v z
 |0,_,_,h=>by cases h
 |n+1,u,v,h=>by
  unfold FY at h;cases v with
  |non =>
   dsimp only at h;split at h
   .exact⟨.non,rfl,λ_=>.non⟩
   .cases h
  |bl b =>
   dsimp only at h;split at h
   .cases eq_of_beq h;exact⟨.bl b,rfl,λ_=>.bl b⟩
   .cases h
  |int j =>
   dsimp only at h;split at h
   .cases eq_of_beq h;exact⟨.int j,⟨_,rfl⟩,λ_=>.int j⟩
   .cases h
  |str t =>
   dsimp only at h;split at h
   .cases Fast.sEq_iff.mp h;exact⟨.str<|fK t,⟨_,rfl⟩,λ_=>.str t⟩
   .cases h
  |tup xs =>
   dsimp only at h;split at h
   .rename_i us hu;let⟨zs,rs,qs⟩:=Cj (λu v=>B3 n u v) us xs h;unfold GR at hu;split at hu
    .rename_i a;split at hu
     .rename_i nm od î k sl hl;split at hu
      .rename_i hc;rw[bAq,fH]at hc;cases eq_of_beq hc.1;cases hu;exact⟨.ref a,rfl,λH=>.tup (.inr ⟨_,î,k,hl,rfl,rfl,hc.2,rs⟩)<|qs H⟩
      .cases hu
     .cases hu
    .cases hu
   .cases h
  |ref a=>cases h
  |scr ns=>cases h
  |key i j=>cases h
abbrev Ba(K:Frag)(p:String×fz.Val):Bool:=match nsIn K mainGlobals (fK p.1)with
 |some (dF u)=>FY K 4 u p.2
 |_=>dJ
def Jz{α β:Type}[BEq α][LawfulBEq α]{a:α}{b:β}:∀{l:List (α×β)},l.lookup a=dF b->(a,b)∈l
 |[],h=>by cases h
 |(x,y)::r,h=>by
  rw[ð]at h;split at h
  .rename_i e;cases h;cases eq_of_beq e;exact .head _
  .exact .tail _<|Jz h
def HA{K:Frag}{mg:Str->Option Value}{h:Heap}{x:Str}{C:Addr}{bmB:List Value}{id:String}(X:K.In h)(hm:mg x=dF (.ref C))(q:excIn K C bmB id=dI):PyProof.Rows.OwnCls x C bmB id mg h:=by
 constructor
 .exact hm
 have z:=q;unfold excIn at z;split at z
 next dd cd sl ho =>
  split at z
  next C1 bm k0 k1 k2 k3 n k5 em es =>
   rw[bAq,bAq,bAq,bAq,bAq]at z;let⟨⟨⟨⟨⟨z1,z2⟩,z3⟩,z4⟩,z5⟩,z6⟩:=z;have z1:=eq_of_beq z1;have z2:=eq_of_beq z2;have z6:=eq_of_beq z6;subst z1 z2;have z3b:cd.hasDel=dJ:=by
    cases e:cd.hasDel with
    |false=>rfl
    |true=>rw[e]at z3;cases z3
   have ap:sl=#[k0,k1,k2,k3,dF<|.builtin n,k5]:=dB.mp es;have nN:=nsMap_none_of_in X z5 z6;have nI:=Heap.Ns.of_isNs<|isNs_of_in X z5;have tI:=tail_of_in X z4;cases cd;dsimp only at em z3b nN nI;subst em z3b ap;exact⟨bm,_,_,_,_,_,_,_,_,_,dd,k0,k1,k2,k3,k5,_,X _ _ ho,nI,nN,tI⟩
  next=>cases z
 next=>cases z
abbrev IA(K:Frag)(f:Addr):Option<|FuncData×Bool×Bool:=match K.lookup f with
 |some ⟨_,_,.func fd,_⟩=>dF ({fd with kwdefaults:=.none,doc:=.none,pyModule:=.none,annotations:=dG,code:=.none,closureTuple:=.none},codeIn K fd.code fd.qualname,keepIn K<|.ref f)
 |_=>dG
abbrev Oi(nm qual:Str)(st:Stmt):Option<|FuncData×Bool×Bool:=dF (fnOf nm qual (YT st) (ZV st) (Zv st) .none .none .none .none dG .none .none,dI,dI)
def HY{K:Frag}{nm qual:Str}{st:Stmt}{f:Addr}(e:IA K f=Oi nm qual st):∃fd,Fun K nm qual st f fd:=by
 unfold IA at e;split at e
 .rename_i oc od fd sl hl;simp only[Oi,ī,Œ]at e;let⟨e1,e2,e3⟩:=e;let⟨n1,n2,n3,n4,n5,n6,n7,n8,n9,n10,n11,n12,n13,n14,n15⟩:=fd;simp only[fnOf,FuncData.mk.injEq]at e1;obtain⟨rfl,rfl,rfl,rfl,rfl,rfl,rfl,rfl,-,-,-,-,-,-,rfl⟩:=e1;exact⟨_,C5 hl e2 e3⟩
 .cases e
abbrev Kb(K:Frag)(C:String):Option Addr:=match nsIn K mainGlobals (fK C)with
 |some (dF<|.ref a)=>dF a
 |_=>dG
variable {C:String} {a:Addr}
def W5{K:Frag}(h:Kb K C=dF a):nsIn K mainGlobals (fK C)=dF (dF<|.ref a):=by
 unfold Kb at h;split at h
 .cases h;assumption
 .cases h
structure CV where
 pg:Bool
 hd:Bool
 po:Bool
 sa:Option<|Option Value
abbrev D7(K:Frag)(a:Addr):CV:=⟨plainGet K a Str.empty,hasDictIn K a,plainOver K a,findIn K (.ref a) "__setattr__"⟩
abbrev O1:CV:=⟨dI,dI,dI,dF<|dF<|.builtin "object.__setattr__"⟩
def Bv{K:Frag}(h:D7 K a=O1):Cls K a:=by simp only[D7,O1,CV.mk.injEq]at h;exact⟨h.1,h.2.1,h.2.2.1,h.2.2.2⟩
structure MV where
 fn:Option<|FuncData×Bool×Bool
 isf:Bool
 cv:CV
abbrev CH(K:Frag)(y:Snd.Mt):Option MV:=match Kb K y.C with
 |some a=>match findIn K (.ref a) (fK y.m)with
  |some (dF<|.ref f)=>dF ⟨IA K f,isFn K<|.ref f,D7 K a⟩
  |_=>dG
 |none=>dG
abbrev DP(y:Snd.Mt):Option MV:=dF ⟨Oi (fK y.m) (fK y.qual) y.x.st,dI,O1⟩
def Q5{K:Frag}{y:Snd.Mt}(e:CH K y=DP y):∃a f fd,nsIn K mainGlobals (fK y.C)=dF (dF<|.ref a)/\Fun K (fK y.m) (fK y.qual) y.x.st f fd/\Meth K a (fK y.m) f/\Cls K a:=by
 unfold CH at e;split at e
 .rename_i a ha;split at e
  .rename_i f hf;simp only[DP,ī,MV.mk.injEq]at e;let⟨e1,e2,e3⟩:=e;let⟨fd,F⟩:=HY e1;exact⟨a,f,fd,W5 ha,F,⟨hf,e2,F.kp⟩,Bv e3⟩
  .cases e
 .cases e
structure QV where
 mks:Bool
 kp:Bool
 cv:CV
 fl:List<|Option<|Option Value
 ic:Option (Option Value)×Option (Option Value)×Option Bool×Option Bool
abbrev C3(K:Frag)(fl:List String)(C:String):Option QV:=match Kb K C with
 |some a=>dF ⟨makesIn K a,keepIn K<|.ref a,D7 K a,fl.map λf=>findIn K (.ref a)<|fK f,(findIn K (.ref a) "__class__",specialIn K (.builtin "object.__class__") "__get__",takesIn K<|.builtin "object.__class__",mroIn K a<|.type "object")⟩
 |none=>dG
abbrev De(fl:List String):Option QV:=dF ⟨dI,dI,O1,fl.map λ_=>dF dG,(dF<|dF<|.builtin "object.__class__",dF<|dF<|.builtin "getset_descriptor.__get__",dF dI,dF dI)⟩
def GY{K:Frag}{fl:List String}(e:C3 K fl C=De fl):∃a,nsIn K mainGlobals (fK C)=dF (dF<|.ref a)/\makesIn K a=dI/\keepIn K (.ref a)=dI/\Cls K a/\(∀f∈fl,NoAttr K a<|fK f)/\Snd.IC K a:=by
 unfold C3 at e;split at e
 .rename_i a ha;simp only[De,ī,QV.mk.injEq,Œ]at e;let⟨e1,e2,e3,e4,e5,e6,e7,e8⟩:=e;exact⟨a,W5 ha,e1,e2,Bv e3,λf hf=>Ě.mp e4 f hf,⟨e5,e6,e7,e8⟩⟩
 .cases e
structure XV where
 ex:Bool
 f1:Option<|Option Value
 f2:Option<|Option Value
 f3:Option<|Option Value
 m1:Option Bool
 m2:Option Bool
 ci:Bool
 ve:Option Bool
 ks:List<|Option<|Option Bool×Option Bool
abbrev DT(K:Frag)(xs:List String)(C:String):Option XV:=match Kb K C with
 |some a=>dF ⟨excIn K a [.type "ValueError",.type "Exception",.type "BaseException",.type "object"] "ValueError.__new__",findIn K (.ref a) "__getattribute__",findIn K (.ref a) "__getattr__",findIn K (.ref a) "__class__",mroIn K a<|.type "object",mroIn K a<|.type "BaseException",(clsIn K a).isSome,kitOne K (.ref a)<|.type "ValueError",("ShutError" :: xs).map λT=>(Kb K T).map λD=>(kitOne K (.ref a)<|.ref D,exmOne K (.ref a)<|.ref D)⟩
 |none=>dG
abbrev Dx(xs:List String)(C:String):Option XV:=dF ⟨dI,dF<|dF<|.builtin "BaseException.__getattribute__",dF dG,dF<|dF<|.builtin "object.__class__",dF dI,dF dI,dI,dF dI,("ShutError" :: xs).map λT=>dF (dF<|fz.fj C T,dF<|fz.fj C T)⟩
def CN{K:Frag}{xs:List String}(e:DT K xs C=Dx xs C):∃a,nsIn K mainGlobals (fK C)=dF (dF<|.ref a)/\excIn K a [.type "ValueError",.type "Exception",.type "BaseException",.type "object"] "ValueError.__new__" = dI/\XCls K a/\kitOne K (.ref a) (.type "ValueError")=dF dI/\
  ∀T∈"ShutError" :: xs,∃D,nsIn K mainGlobals (fK T)=dF (dF<|.ref D)/\kitOne K (.ref a) (.ref D)=dF (fz.fj C T)/\exmOne K (.ref a) (.ref D)=dF (fz.fj C T):=by
 unfold DT at e;split at e
 .rename_i a ha;simp only[Dx,ī,XV.mk.injEq]at e;let⟨e1,e2,e3,e4,e5,e6,e7,e8,e9⟩:=e;refine⟨a,W5 ha,e1,⟨e2,e3,e4,e5,e6,e7⟩,e8,λT hT=>?_⟩;have:=Ě.mp e9 T hT;cases z:Kb K T with
  |none=>rw[z]at this;cases this
  |some D =>rw[z]at this;simp only[Ĵ,ī,Œ]at this;exact⟨D,W5 z,this.1,this.2⟩
 .cases e
structure View where
 fs:List<|Option<|FuncData×Bool×Bool
 ms:List<|Option MV
 cl:List<|Option QV
 xs:List<|Option XV
 ok:Bool
abbrev view(T:Snd.Tb)(K:Frag):View:=⟨T.fs.map λp=>CZ K<|fK p.1,T.ms.map<|CH K,T.cl.map<|C3 K T.fl,T.xs.map<|DT K T.xs,T.cs.all (Ba K)&&Snd.blts.all (G0 K)⟩
abbrev due(T:Snd.Tb):View:=⟨T.fs.map λp=>DR (fK p.1) p.2.st,T.ms.map DP,T.cl.map λ_=>De T.fl,T.xs.map<|Dx T.xs,dI⟩
abbrev hook(T:Snd.Tb):Hook where
 α:=View
 obs:=λs=>view T<|ZB s.heap
 val:=λ_=>due T
 says:=λ_ h=>∃g:Heap,view T (ZB g)=due T/\∀b o,g.get? b=dF o->h.get? b=dF o
 of:=λ_ s e=>⟨s.heap,e,λ_ _ x=>x⟩
 keeps:=λ_ _ _ ⟨g,e,k⟩ k2=>⟨g,e,λb o x=>k2 b o<|k b o x⟩
abbrev Bd(nm qual:Str)(x:Snd.Ds):Prop:=∀(kV doc pm:Value) (an:Option Addr) (ϒ ct:Value) (us:List Value),us.length=x.ps.length->bindArgs (fnOf nm qual (YT x.st) (ZV x.st) (Zv x.st) .none kV doc pm an ϒ ct) ⟨us,[]⟩=pure (x.ps.zip us)
abbrev Go(T:Snd.Tb):Bool:=T.cl.all λC=>T.ms.any λy=>y.C==C&&y.m == "__init__"
def law_walk{l:OpenLaw}{q:Program}{loose:List Str}{XP:(Str->Option Value)->Heap->Prop}{d:DefRec}{T:Snd.Tb}{pg:fz.Pg}{k:Nat}{xl:Snd.Ds}
  (hn:l.most=dF 63) (hdf:d.params.defaults=[]) (hdn:d.name=fK "law") (hr:eF (2*(k+1)) callerA) (hlaw:("law",xl)∈T.fs) (hps:xl.ps=[fK "script"]) (hin:Go T=dI)
  (tab_pg:∀f x,(f,x)∈T.fs->pg f=dF x.d) (tab_pm:∀y,y∈T.ms->pg (y.C ++ "." ++ y.m)=dF y.x.d) (tab_ok:∀f x,(f,x)∈T.fs->x.Ok T) (tab_om:∀y,y∈T.ms->y.x.Ok T)
  (tab_bd:∀f x,(f,x)∈T.fs->Bd (fK f) (fK f) x) (tab_bm:∀y,y∈T.ms->Bd (fK y.m) (fK y.qual) y.x)
  (ok:∀ns:List Int,ns.length<=63->fz.wF pg (k+1) "law" [.scr ns] (λ_=>dG) (λv _=>v=.bl dI) λ_ _=>False) :
  WalkO q loose XP (hook T).says l.row.toRowW d [] (λf vs=>PySem.call f vs):=by
 refine F7 (n:=63) (k:=2*(k+1)) (x:=fK "script") (CX:=λw=>CX1 l.prog w) hn (by decide) hdf hr (λw mg fa h Y G hmg=>?_) λ_ _ _ _ _ ⟨_,_,_,_,_,z⟩=>z;let⟨g,e,keep⟩:=Y;have X:(ZB g).In h:=λa o z=>keep a o<|Ot z;simp only[view,due,View.mk.injEq]at e;let⟨e1,e3,e4,e5,e2⟩:=e;rw[bAq,ö,ö]at e2
 let i:Snd.Inf:=⟨ZB g,λC a=>T.cl.contains C=dI/\mg (fK C)=dF (.ref a),λC=>T.cl.contains C,λC a=>T.xs.contains C=dI/\mg (fK C)=dF (.ref a)⟩
 have hF:∀f x,(f,x)∈T.fs->∃fa fd,Fun (ZB g) (fK f) (fK f) x.st fa fd/\mg (fK f)=dF (.ref fa):=λf x hx=>by let⟨fa,fd,F,z⟩:=Ig<|Ě.mp e1 (f,x) hx;exact⟨fa,fd,F,mg_of X G z⟩
 have ϰ:∀C a,i.cl C a->makesIn (ZB g) a=dI/\keepIn (ZB g) (.ref a)=dI/\Cls (ZB g) a/\(∀f∈T.fl,NoAttr (ZB g) a<|fK f)/\Snd.IC (ZB g) a:=λC a ⟨hc,hm⟩=>by let⟨b,z,q⟩:=GY<|Ě.mp e4 C<|ā.mp hc;have:=mg_of X G z;rw[hm]at this;cases this;exact q
 have hms:∀y,y∈T.ms->∃a f,Snd.Mst i mg y a f/\Cls i.K a:=λy hy=>by let⟨a,f,fd,z,F,M,A⟩:=Q5<|Ě.mp e3 y hy;exact⟨a,f,⟨mg_of X G z,⟨fd,F,F.binds<|tab_bm y hy⟩,M⟩,A⟩
 have hxc:∀C a,i.xc C a->excIn (ZB g) a [.type "ValueError",.type "Exception",.type "BaseException",.type "object"] "ValueError.__new__" = dI/\XCls (ZB g) a/\kitOne (ZB g) (.ref a) (.type "ValueError")=dF dI/\
   ∀T'∈"ShutError" :: T.xs,∃D,nsIn (ZB g) mainGlobals (fK T')=dF (dF<|.ref D)/\kitOne (ZB g) (.ref a) (.ref D)=dF (fz.fj C T')/\exmOne (ZB g) (.ref a) (.ref D)=dF (fz.fj C T'):=λC a ⟨hc,hm⟩=>by
  let⟨b,z,q⟩:=CN<|Ě.mp e5 C<|ā.mp hc;have:=mg_of X G z;rw[hm]at this;cases this;exact q
 have mod:∀base:Heap,(ZB g).In base->Snd.Modu mg base i T:=λbase Xb =>
  { bl:=λy hy=>by
      have:=e2.2 y hy
      unfold G0 at this
      split at this
      . rename_i z;exact mg_none_of X G z
      . cases this
    cst:=λy v hv=>by
      have:=e2.1 _<|Jz hv
      unfold Ba at this
      split at this
      . rename_i u z
        let⟨x,r,rv⟩:=B3 4 u v this
        exact⟨u,x,mg_of X G z,r,rv⟩
      . cases this
    A:=⟨λC a _ z=>(ϰ C a z).2.2.1,λC a z=>(ϰ C a z).2.2.2.2,λC a b z y=>by have:=z.2.symm.trans y.2;cases this;rfl⟩
    F:=λf hf=>⟨λC a z=>(ϰ C a z).2.2.2.1 f<|ā.mp hf⟩
    cl:=λC a z=>z.2
    mkc:=λC hC=>by
      let⟨a,z,_⟩:=GY<|Ě.mp e4 C<|ā.mp hC
      have hi:i.cl C a:=⟨hC,mg_of X G z⟩
      let⟨y,hy,e⟩:=List.any_eq_true.mp<|ö.mp hin C<|ā.mp hC
      rw[bAq]at e
      let⟨b,f,S,A⟩:=hms y hy
      have h1:=eq_of_beq e.1
      have h2:=eq_of_beq e.2
      have hb:=S.cl
      rw[h1,hi.2]at hb
      cases hb
      refine⟨a,y,f,hC,hi,⟨(ϰ C a hi).1,?_,S.at_.fn,(ϰ C a hi).2.1⟩,hy,h1,h2,S⟩
      have:=S.at_.at_
      rw[h2]at this
      exact this
    fs:=λf x hx=>by
      let⟨fa,fd,F,m⟩:=hF f x hx
      exact⟨fa,fd,_,F,m,F.binds<|tab_bd f x hx⟩
    ms:=hms
    xc:=λ_ C a z=>⟨(hxc C a z).2.1,(hxc C a z).2.2.1⟩
    rs:=λ_ C hC=>by
      let⟨a,z,q1,_⟩:=CN<|Ě.mp e5 C<|ā.mp hC
      exact⟨a,⟨hC,mg_of X G z⟩,HA Xb (mg_of X G z) q1⟩
    kn:=λŝ T' hT=>by
      have hT2:T'∈"ShutError" :: T.xs:=by
        rcases (am ..).mp hT with z|z
        . exact .tail _<|ā.mp z
        . cases eq_of_beq z;exact .head _
      let⟨C0,hC0⟩:=List.exists_mem_of_ne_nil _ ŝ
      let⟨a0,z0,_,_,_,q0⟩:=CN<|Ě.mp e5 C0 hC0
      let⟨D,zD,_⟩:=q0 T' hT2
      refine⟨D,mg_of X G zD,λC a z=>?_⟩
      let⟨D2,z2,k1,k2⟩:=(hxc C a z).2.2.2 T' hT2
      rw[zD]at z2
      cases z2
      exact⟨k1,λe=>by rw[k2,e]⟩ }
 let⟨fl,fd,F,m⟩:=hF "law" xl hlaw;have ef:=hmg.symm.trans<|hdn▸m;cases ef;refine⟨ZB g,Snd.spF i pg (k+1) "law",X,⟨fd,λs u=>?_,λbase Xb _=>?_⟩,λH a ns hl hO hS=>?_⟩
 .have B:=F.ex;let⟨oc,od,kV,dc,pm,an,ϒ,ct,sl,rfl,lk,aq⟩:=B;have:=tab_bd "law" xl hlaw kV dc pm an ϒ ct [u] (by rw[hps];rfl);rw[hps]at this;exact .of_eq this
 .have M:=mod base Xb;have:=Snd.fn_succ (i:=i) (pr:=l.prog) (wd:=w) (base:=base) (mg:=mg) (P:=pg) (n:=k) M (Snd.held_all M tab_pg tab_pm tab_ok tab_om k) F (tab_pg "law" xl hlaw)<|tab_ok "law" xl hlaw;rw[hps]at this;exact this
 .refine⟨[.scr ns],λ_=>dG,λv _=>v=.bl dI,λ_ _=>False,.cons (.scr ?_) .nil,λ_ _ e=>(by cases e),ok ns hl,?_,?_⟩
  .rcases hS with(h|⟨o,h⟩)|h
   .rcases hO a with z|⟨o,xs,z⟩
    .rw[h]at z;cases z
    .rw[h]at z;cases z
   .exact .inl ⟨o,h⟩
   .exact .inr h
  .intro v G' H' x _ _ r e;subst e;exact r.bl_inv
  .rintro cls d H' ⟨_,_,_,_,_,_,_,z⟩;exact z
end Hd
set_option maxRecDepth 20000
set_option maxHeartbeats 2000000
namespace fz
local macro_rules|`(#[$x])=>`(.cons $x .nil)|`(#[$x,$y,*])=>`(.cons $x #[$y,*])
@[reducible] noncomputable def B0(P:Pg)(n:Nat)(d:Fn)(e:Env)(h:Hs)(Q:Q1)(X:XQ):Prop:=wSs (wF P n) d.body e h (λ_ g=>Q .non g) Q (λ_ _=>False) (λ_ _=>False) λ_ c g=>X c g
variable {P:Pg}{n:Nat}{a0 a1 a2 a3 a4 a5 a6 a7:Val}{h:Hs}{Q:Q1}{X:XQ}
local macro_rules|`(↑$n:num)=>`(.cst (.int $n))
local macro_rules|`(⇑$n:num)=>`(.var $n)
instance Tf:Fn:={ar:=1,sz:=1,body:=#[.never]}
instance TF:Fn:={ar:=1,sz:=1,body:=#[.ret<|.and (.bi (.isi ["int"]) #[⇑0])<|.not<|.bi (.isi ["bool"]) #[⇑0]]}
instance TH:Fn:={ar:=3,sz:=3,body:=#[.ret<|.and (.call "is_whole" #[⇑0])<|.chain .le .le ⇑1 ⇑0 ⇑2]}
instance Tu:Fn:={ar:=2,sz:=2,body:=#[.ite (.or (.not<|.val<|.bi (.isi ["list"]) #[⇑0])<|.not<|.val<|.bi (.isi ["list"]) #[⇑1]) #[.raise "NoNet" #[.cst<|.str "bridges and ties are to be told as two lists"]] .nil,.ite (.not<|.val<|.chain .le .le ↑1 (.bi .len #[⇑0])<|.glob "MOST_BRIDGES"<|.int 10) #[.raise "NoNet" #[.cst<|.str "a net has one to ten bridges"]] .nil,.ite (.val<|.cmp .gt (.bi .len #[⇑1])<|.glob "MOST_TIES"<|.int 16) #[.raise "NoNet" #[.cst<|.str "a net has at most sixteen ties"]] .nil,.ite (.not<|.val<|.call "are_bridges" #[⇑0]) #[.raise "NoNet" #[.cst<|.str "bridges are unlike whole numbers from 0 to 999"]] .nil,.ite (.not<|.val<|.bi .all #[.comp [0] 1 (.one 0) (.seq ⇑1) .yes<|.call "is_tie" #[⇑0,⇑1]]) #[.raise "NoNet" #[.cst<|.str "a tie is a tuple of two bridges of the net and a cost from 1 to 1000"]] .nil,.ret<|.tup #[.bi .tuple #[.bi .sortedI #[⇑0]],.bi .tuple #[.comp [] 1 (.one 0) (.seq ⇑1) .yes<|.call "lesser_end_first" #[⇑0]]]]}
instance TN:Fn:={ar:=1,sz:=1,body:=#[.ite (.not<|.val<|.bi .all #[.comp [] 1 (.one 0) (.seq ⇑0) .yes<|.call "is_whole_between" #[⇑0,↑0,.glob "GREATEST_NUMBER"<|.int 999]]) #[.ret<|.cst<|.bl dJ] .nil,.ret<|.cmp .eq (.bi .lenSet #[⇑0])<|.bi .len #[⇑0]]}
instance TD:Fn:={ar:=2,sz:=2,body:=#[.ite (.or (.not<|.val<|.bi (.isi ["tuple"]) #[⇑0])<|.val<|.cmp .ne (.bi .len #[⇑0]) ↑3) #[.ret<|.cst<|.bl dJ] .nil,.ite (.or (.not<|.val<|.call "is_whole" #[.idx ⇑0 ↑0])<|.not<|.val<|.call "is_whole" #[.idx ⇑0 ↑1]) #[.ret<|.cst<|.bl dJ] .nil,.ite (.or (.val<|.cmp .notin (.idx ⇑0 ↑0) ⇑1)<|.val<|.cmp .notin (.idx ⇑0 ↑1) ⇑1) #[.ret<|.cst<|.bl dJ] .nil,.ret<|.and (.cmp .ne (.idx ⇑0 ↑0)<|.idx ⇑0 ↑1)<|.call "is_whole_between" #[.idx ⇑0 ↑2,↑1,.glob "GREATEST_COST"<|.int 1000]]}
instance To:Fn:={ar:=1,sz:=1,body:=#[.ret<|.tup #[.bi .min2 #[.idx ⇑0 ↑0,.idx ⇑0 ↑1],.bi .max2 #[.idx ⇑0 ↑0,.idx ⇑0 ↑1],.idx ⇑0 ↑2]]}
instance Ta:Fn:={ar:=2,sz:=5,body:=#[.set (.one 2)<|.lst .nil,.for (.many [3,4]) (.enum<|.idx ⇑0 ↑1) #[.ite (.val<|.cmp .isin ⇑1<|.slc ⇑4 .none<|.some ↑2) #[.expr<|.bm .append ⇑2 #[.tup #[⇑3,.call "far_end" #[⇑4,⇑1],.idx ⇑4 ↑2]]] .nil],.ret ⇑2]}
instance TB:Fn:={ar:=2,sz:=2,body:=#[.ret<|.ife (.val<|.cmp .eq (.idx ⇑0 ↑0) ⇑1) (.idx ⇑0 ↑1)<|.idx ⇑0 ↑0]}
instance Tc:Fn:={ar:=2,sz:=2,body:=#[.ret<|.cmp .gt (.idx ⇑0<|.glob "NUMBER"<|.int 0)<|.idx ⇑1<|.glob "NUMBER"<|.int 0]}
instance TC:Fn:={ar:=2,sz:=2,body:=#[.ret<|.cmp .eq (.sortT<|.meth "Yard" "ends" ⇑0 #[⇑1])<|.lst #[.cst<|.str "child",.cst<|.str "parent"]]}
instance TU:Fn:={ar:=2,sz:=3,body:=#[.set (.one 2)<|.comp [0] 1 (.one 0) (.seq ⇑1) (.val<|.cmp .lt (.idx ⇑0 ↑0) ⇑1) ⇑0,.ret<|.bi .minD #[⇑2]]}
instance SJ:Fn:={ar:=5,sz:=8,body:=#[.setFld ⇑0 "number" ⇑1,.setFld ⇑0 "life" ⇑2,.setFld ⇑0 "age_let_go" ⇑4,.setFld ⇑0 "ties_by_place"<|.dct .nil,.for (.many [5,6,7]) (.seq ⇑3) #[.setIdx (.fld ⇑0 "ties_by_place") ⇑5<|.tup #[⇑6,⇑7]],.setFld ⇑0 "held_by_place"<|.dct .nil,.setFld ⇑0 "label_now"<|.tup #[⇑1,↑0,.cst .non,.cst .non],.setFld ⇑0 "version" ↑0,.setFld ⇑0 "ticks_had" ↑0]}
instance SH:Fn:={ar:=1,sz:=1,body:=#[.expr<|.call "_wall" #[↑0]]}
instance SN:Fn:={ar:=1,sz:=1,body:=#[.ret<|.fld ⇑0 "label_now"]}
instance SE:Fn:={ar:=1,sz:=1,body:=#[.ret<|.tup #[.fld ⇑0 "life",.fld ⇑0 "version"]]}
instance SW:Fn:={ar:=2,sz:=2,body:=#[.ret<|.bm .dget (.fld ⇑0 "held_by_place") #[⇑1]]}
instance SI:Fn:={ar:=4,sz:=4,body:=#[.ite (.val<|.cmp .notin ⇑1<|.fld ⇑0 "ties_by_place") #[.setIdx (.fld ⇑0 "ties_by_place") ⇑1<|.tup #[⇑2,⇑3]] .nil]}
instance SZ:Fn:={ar:=2,sz:=2,body:=#[.expr<|.bm .dpopD (.fld ⇑0 "ties_by_place") #[⇑1,.cst .non],.expr<|.bm .dpopD (.fld ⇑0 "held_by_place") #[⇑1,.cst .non]]}
instance SX:Fn:={ar:=3,sz:=4,body:=#[.ite (.val<|.cmp .notin ⇑1<|.fld ⇑0 "ties_by_place") #[.retN] .nil,.set (.one 3)<|.meth "Bridge" "held" ⇑0 #[⇑1],.ite (.or (.val<|.cmp .is ⇑3<|.cst .non)<|.val<|.call "newer" #[⇑2,.idx ⇑3 ↑0]) #[.setIdx (.fld ⇑0 "held_by_place") ⇑1<|.tup #[⇑2,.idx ⇑2<|.glob "AGE"<|.int 4]] .nil]}
instance SG:Fn:={ar:=1,sz:=2,body:=#[.expr<|.meth "Bridge" "let_grow_older" ⇑0 .nil,.expr<|.meth "Bridge" "take_label" ⇑0 #[.meth "Bridge" "reckon_label" ⇑0 .nil],.set (.one 1)<|.comp [0] 1 (.one 0) (.seq<|.bi .sortedI #[.fld ⇑0 "ties_by_place"]) .yes<|.tup #[⇑0,.meth "Bridge" "letter_over" ⇑1 #[⇑0]],.augFld ⇑0 "ticks_had" .add 1,.ret ⇑1]}
instance SO:Fn:={ar:=1,sz:=4,body:=#[.set (.one 1)<|.dct .nil,.forI dJ (.many [2,3]) (.fld ⇑0 "held_by_place") #[.ite (.val<|.cmp .lt (.bin .add (.idx ⇑3 ↑1) ↑1)<|.fld ⇑0 "age_let_go") #[.setIdx ⇑1 ⇑2<|.tup #[.idx ⇑3 ↑0,.bin .add (.idx ⇑3 ↑1) ↑1]] .nil],.setFld ⇑0 "held_by_place" ⇑1]}
instance SD:Fn:={ar:=1,sz:=8,body:=#[.set (.one 1)<|.lst .nil,.forI dJ (.many [2,3]) (.fld ⇑0 "held_by_place") #[.set (.many [4,5])<|.idx (.fld ⇑0 "ties_by_place") ⇑2,.expr<|.bm .append ⇑1 #[.tup #[.idx (.idx ⇑3 ↑0)<|.glob "ROOT"<|.int 2,.bin .add (.idx (.idx ⇑3 ↑0)<|.glob "COST"<|.int 3) ⇑5,⇑4,⇑2]]],.set (.one 6)<|.call "best_offer" #[.fld ⇑0 "number",⇑1],.ite (.val<|.cmp .is ⇑6<|.cst .non) #[.ret<|.tup #[.fld ⇑0 "number",↑0,.cst .non,.cst .non]] .nil,.set (.many [7,5,4,2]) ⇑6,.ret<|.tup #[⇑7,⇑5,⇑2,.idx (.idx (.idx (.fld ⇑0 "held_by_place") ⇑2) ↑0)<|.glob "STAMP"<|.int 1]]}
instance SF:Fn:={ar:=2,sz:=2,body:=#[.ite (.val<|.cmp .ne ⇑1<|.fld ⇑0 "label_now") #[.setFld ⇑0 "label_now" ⇑1,.augFld ⇑0 "version" .add 1] .nil]}
instance SU:Fn:={ar:=2,sz:=8,body:=#[.set (.many [2,3,4,5])<|.fld ⇑0 "label_now",.set (.one 6)<|.ife (.val<|.cmp .is ⇑4<|.cst .non) ↑0<|.bin .add (.idx (.idx (.fld ⇑0 "held_by_place") ⇑4) ↑1) ↑1,.set (.one 7)<|.tup #[.tup #[.fld ⇑0 "life",.fld ⇑0 "ticks_had"],.meth "Bridge" "stamp" ⇑0 .nil,⇑2,⇑3,⇑6],.ite (.val<|.cmp .eq ⇑1 ⇑4) #[.ret<|.bin .add ⇑7<|.tup #[⇑5,.cst .non]] .nil,.ite (.val<|.meth "Bridge" "is_rested_on" ⇑0 #[⇑1]) #[.ret<|.bin .add ⇑7<|.tup #[.cst .non,.idx (.idx (.idx (.fld ⇑0 "held_by_place") ⇑1) ↑0)<|.glob "STAMP"<|.int 1]] .nil,.ret<|.bin .add ⇑7<|.tup #[.cst .non,.cst .non]]}
instance SM:Fn:={ar:=2,sz:=3,body:=#[.set (.one 2)<|.meth "Bridge" "held" ⇑0 #[⇑1],.ret<|.and (.cmp .isnot ⇑2<|.cst .non)<|.cmp .eq (.idx (.idx ⇑2 ↑0)<|.glob "RESTS"<|.int 5)<|.meth "Bridge" "stamp" ⇑0 .nil]}
instance SK:Fn:={ar:=2,sz:=3,body:=#[.set (.one 2)<|.meth "Bridge" "held" ⇑0 #[⇑1],.ite (.or (.val<|.cmp .is ⇑2<|.cst .non)<|.val<|.cmp .ne (.idx (.idx ⇑2 ↑0)<|.glob "AGREES"<|.int 6)<|.meth "Bridge" "stamp" ⇑0 .nil) #[.ret<|.cst<|.bl dJ] .nil,.ret<|.cmp .eq (.idx (.idx ⇑2 ↑0)<|.glob "STAMP"<|.int 1)<|.idx (.fld ⇑0 "label_now") ↑3]}
instance SY:Fn:={ar:=2,sz:=2,body:=#[.ite (.val<|.cmp .notin ⇑1<|.fld ⇑0 "ties_by_place") #[.ret<|.cst<|.str "down"] .nil,.ite (.val<|.cmp .eq ⇑1<|.idx (.fld ⇑0 "label_now") ↑2) #[.ret<|.ife (.val<|.meth "Bridge" "is_agreed_to" ⇑0 #[⇑1]) (.cst<|.str "child")<|.cst<|.str "shut"] .nil,.ret<|.ife (.val<|.meth "Bridge" "is_rested_on" ⇑0 #[⇑1]) (.cst<|.str "parent")<|.cst<|.str "shut"]}
instance S6:Fn:={ar:=3,sz:=4,body:=#[.setFld ⇑0 "net_made_of" ⇑1,.setFld ⇑0 "greatest_age" ⇑2,.setFld ⇑0 "lives"<|.dct .nil,.setFld ⇑0 "standing"<|.dct .nil,.setFld ⇑0 "ties_fallen"<|.dct .nil,.setFld ⇑0 "letters_on_road"<|.lst .nil,.for (.one 3) (.seq<|.idx ⇑1 ↑0) #[.setIdx (.fld ⇑0 "lives") ⇑3 ↑0,.setIdx (.fld ⇑0 "standing") ⇑3<|.make "Bridge" #[⇑3,↑0,.call "neighbours" #[⇑1,⇑3],⇑2]]]}
instance TM:Fn:={ar:=1,sz:=1,body:=#[.expr<|.call "_wall" #[↑1]]}
instance S8:Fn:={ar:=1,sz:=1,body:=#[.ret<|.fld ⇑0 "net_made_of"]}
instance S4:Fn:={ar:=1,sz:=1,body:=#[.ret<|.fld ⇑0 "greatest_age"]}
instance S9:Fn:={ar:=1,sz:=1,body:=#[.ret<|.bi .list #[.fld ⇑0 "letters_on_road"]]}
instance SV:Fn:={ar:=1,sz:=2,body:=#[.set (.one 1)<|.comp [0] 1 (.one 0) (.seq<|.idx (.fld ⇑0 "net_made_of") ↑0) (.val<|.cmp .notin ⇑0<|.fld ⇑1 "standing") ⇑0,.ret<|.tup #[.bi .tuple #[⇑1],.bi .tuple #[.bi .sortedI #[.fld ⇑0 "ties_fallen"]]]]}
instance S7:Fn:={ar:=1,sz:=1,body:=#[.ret<|.comp [0] 1 (.one 0) (.seq<|.bi .sortedI #[.fld ⇑0 "standing"]) .yes<|.tup #[⇑0,.meth "Bridge" "label" (.idx (.fld ⇑1 "standing") ⇑0) .nil]]}
instance TX:Fn:={ar:=1,sz:=1,body:=#[.expr<|.call "_wall" #[↑2]]}
instance SR:Fn:={ar:=2,sz:=2,body:=#[.ret<|.bm .dget (.fld ⇑0 "standing") #[⇑1]]}
instance S1:Fn:={ar:=2,sz:=5,body:=#[.ite (.not<|.val<|.meth "Yard" "has_tie" ⇑0 #[⇑1]) #[.ret<|.tup #[.cst<|.str "down",.cst<|.str "down"]] .nil,.set (.many [2,3,4])<|.idx (.idx (.fld ⇑0 "net_made_of") ↑1) ⇑1,.ret<|.tup #[.meth "Yard" "end_at" ⇑0 #[⇑2,⇑1],.meth "Yard" "end_at" ⇑0 #[⇑3,⇑1]]]}
instance S0:Fn:={ar:=3,sz:=3,body:=#[.ite (.val<|.cmp .notin ⇑1<|.fld ⇑0 "standing") #[.ret<|.cst<|.str "down"] .nil,.ret<|.meth "Bridge" "end" (.idx (.fld ⇑0 "standing") ⇑1) #[⇑2]]}
instance S5:Fn:={ar:=2,sz:=2,body:=#[.ret<|.chain .le .lt ↑0 ⇑1<|.bi .len #[.idx (.fld ⇑0 "net_made_of") ↑1]]}
instance ST:Fn:={ar:=2,sz:=4,body:=#[.set (.many [2,3])<|.call "read_deed" #[⇑1],.ite (.val<|.cmp .eq ⇑2<|.tup #[.cst<|.str "tick"]) #[.expr<|.meth "Yard" "tick_of" ⇑0 #[⇑3]] #[.ite (.val<|.cmp .eq ⇑2<|.tup #[.cst<|.str "come"]) #[.expr<|.meth "Yard" "come" ⇑0 #[⇑3]] #[.ite (.val<|.cmp .eq ⇑2<|.tup #[.cst<|.str "lost"]) #[.expr<|.meth "Yard" "take_off" ⇑0 #[⇑3]] #[.ite (.val<|.cmp .eq ⇑2<|.tup #[.cst<|.str "fall",.cst<|.str "bridge"]) #[.expr<|.meth "Yard" "fall_of_bridge" ⇑0 #[⇑3]] #[.ite (.val<|.cmp .eq ⇑2<|.tup #[.cst<|.str "fall",.cst<|.str "tie"]) #[.expr<|.meth "Yard" "fall_of_tie" ⇑0 #[⇑3]] #[.ite (.val<|.cmp .eq ⇑2<|.tup #[.cst<|.str "back",.cst<|.str "bridge"]) #[.expr<|.meth "Yard" "back_of_bridge" ⇑0 #[⇑3]] #[.expr<|.meth "Yard" "back_of_tie" ⇑0 #[⇑3]]]]]]]]}
instance TK:Fn:={ar:=2,sz:=5,body:=#[.ite (.val<|.cmp .notin ⇑1<|.fld ⇑0 "standing") #[.raise "NoDeed" #[.cst<|.str "no bridge of this number is up"]] .nil,.for (.many [2,3]) (.seq<|.meth "Bridge" "tick" (.idx (.fld ⇑0 "standing") ⇑1) .nil) #[.set (.one 4)<|.call "far_end" #[.idx (.idx (.fld ⇑0 "net_made_of") ↑1) ⇑2,⇑1],.expr<|.bm .append (.fld ⇑0 "letters_on_road") #[.tup #[⇑1,⇑4,⇑2,⇑3]]]]}
instance SS:Fn:={ar:=2,sz:=6,body:=#[.set (.many [2,3,4,5])<|.meth "Yard" "take_off" ⇑0 #[⇑1],.ite (.val<|.cmp .isin ⇑3<|.fld ⇑0 "standing") #[.expr<|.meth "Bridge" "hear" (.idx (.fld ⇑0 "standing") ⇑3) #[⇑4,⇑5]] .nil]}
instance TW:Fn:={ar:=2,sz:=2,body:=#[.ite (.not<|.val<|.chain .le .lt ↑0 ⇑1<|.bi .len #[.fld ⇑0 "letters_on_road"]) #[.raise "NoDeed" #[.cst<|.str "the road has no letter at this place"]] .nil,.ret<|.bm .popAt (.fld ⇑0 "letters_on_road") #[⇑1]]}
instance S2:Fn:={ar:=2,sz:=2,body:=#[.ite (.val<|.cmp .notin ⇑1<|.fld ⇑0 "standing") #[.raise "NoDeed" #[.cst<|.str "no bridge of this number is up"]] .nil,.expr<|.bm .dpop (.fld ⇑0 "standing") #[⇑1],.expr<|.meth "Yard" "set_ties_of" ⇑0 #[⇑1]]}
instance S3:Fn:={ar:=2,sz:=2,body:=#[.ite (.or (.not<|.val<|.meth "Yard" "has_tie" ⇑0 #[⇑1])<|.val<|.cmp .isin ⇑1<|.fld ⇑0 "ties_fallen") #[.raise "NoDeed" #[.cst<|.str "no tie of this place stands"]] .nil,.setIdx (.fld ⇑0 "ties_fallen") ⇑1<|.cst<|.bl dI,.expr<|.meth "Yard" "set_tie" ⇑0 #[⇑1]]}
instance SL:Fn:={ar:=2,sz:=2,body:=#[.ite (.or (.val<|.cmp .notin ⇑1<|.fld ⇑0 "lives")<|.val<|.cmp .isin ⇑1<|.fld ⇑0 "standing") #[.raise "NoDeed" #[.cst<|.str "no bridge of this number has fallen"]] .nil,.augIdx (.fld ⇑0 "lives") ⇑1 .add 1,.setIdx (.fld ⇑0 "standing") ⇑1<|.make "Bridge" #[⇑1,.idx (.fld ⇑0 "lives") ⇑1,.lst .nil,.fld ⇑0 "greatest_age"],.expr<|.meth "Yard" "set_ties_of" ⇑0 #[⇑1]]}
instance SQ:Fn:={ar:=2,sz:=2,body:=#[.ite (.val<|.cmp .notin ⇑1<|.fld ⇑0 "ties_fallen") #[.raise "NoDeed" #[.cst<|.str "no tie of this place has fallen"]] .nil,.expr<|.bm .dpop (.fld ⇑0 "ties_fallen") #[⇑1],.expr<|.meth "Yard" "set_tie" ⇑0 #[⇑1]]}
instance TY:Fn:={ar:=2,sz:=5,body:=#[.for (.many [2,3,4]) (.seq<|.call "neighbours" #[.fld ⇑0 "net_made_of",⇑1]) #[.expr<|.meth "Yard" "set_tie" ⇑0 #[⇑2]]]}
instance TZ:Fn:={ar:=2,sz:=8,body:=#[.set (.many [2,3,4])<|.idx (.idx (.fld ⇑0 "net_made_of") ↑1) ⇑1,.set (.one 5)<|.and (.cmp .notin ⇑1<|.fld ⇑0 "ties_fallen")<|.and (.cmp .isin ⇑2<|.fld ⇑0 "standing")<|.cmp .isin ⇑3<|.fld ⇑0 "standing",.for (.many [6,7]) (.seq<|.tup #[.tup #[⇑2,⇑3],.tup #[⇑3,⇑2]]) #[.ite (.val ⇑5) #[.expr<|.meth "Bridge" "up" (.idx (.fld ⇑0 "standing") ⇑6) #[⇑1,⇑7,⇑4]] #[.ite (.val<|.cmp .isin ⇑6<|.fld ⇑0 "standing") #[.expr<|.meth "Bridge" "down" (.idx (.fld ⇑0 "standing") ⇑6) #[⇑1]] .nil]]]}
instance Td:Fn:={ar:=1,sz:=2,body:=#[.ite (.not<|.val<|.bi (.isi ["tuple"]) #[⇑0]) #[.raise "NoDeed" #[.cst<|.str "a deed is a tuple"]] .nil,.set (.one 1)<|.slc ⇑0 .none<|.some<|.neg ↑1,.ite (.or (.not<|.val<|.bi .all #[.comp [] 1 (.one 0) (.seq ⇑1) .yes<|.bi (.isi ["str"]) #[⇑0]])<|.val<|.cmp .notin ⇑1<|.glob "DEEDS"<|.tup [(.tup [(.str "tick")]),(.tup [(.str "come")]),(.tup [(.str "lost")]),(.tup [(.str "fall"),(.str "bridge")]),(.tup [(.str "fall"),(.str "tie")]),(.tup [(.str "back"),(.str "bridge")]),(.tup [(.str "back"),(.str "tie")])]) #[.raise "NoDeed" #[.cst<|.str "there is no deed of these words"]] .nil,.ite (.not<|.val<|.call "is_whole" #[.idx ⇑0<|.neg ↑1]) #[.raise "NoDeed" #[.cst<|.str "a deed's number is a whole number"]] .nil,.ret<|.tup #[⇑1,.idx ⇑0<|.neg ↑1]]}
instance Te:Fn:={ar:=4,sz:=9,body:=#[.set (.one 4)<|.make "Yard" #[⇑0,⇑1],.set (.one 5)<|.cst<|.bl dJ,.set (.one 6)<|.lst .nil,.for (.many [7,8]) (.enumL ⇑2) #[.expr<|.meth "Yard" "deed" ⇑4 #[⇑8],.ite (.val<|.cmp .ne (.call "is_open_way" #[⇑4,⇑3]) ⇑5) #[.set (.one 5)<|.not ⇑5,.expr<|.bm .append ⇑6 #[.tup #[⇑7,.ife (.val ⇑5) (.cst<|.str "open")<|.cst<|.str "shut"]]] .nil],.ret ⇑6]}
instance TV:Fn:={ar:=1,sz:=6,body:=#[.set (.one 1)<|.lst .nil,.for (.one 2) (.range<|.bi .min2 #[.bi .len #[⇑0],↑80]) #[.set (.one 3)<|.bi .abs #[.idx ⇑0 ⇑2],.ite (.val<|.cmp .lt ⇑3<|.bin .pow ↑10 ↑18) #[.set (.one 4)<|.bin .mod (.bin .mul (.bin .mod (.bin .add (.bin .add ⇑3<|.bin .mul ↑7919 ⇑2) ↑3) ↑2147483647) ↑48271) ↑2147483647,.set (.one 4)<|.bin .mod (.bin .mul ⇑4 ⇑4) ↑2147483629,.expr<|.bm .append ⇑1 #[.bin .mod (.bin .fdiv ⇑4 ↑16) ↑1000],.expr<|.bm .append ⇑1 #[.bin .mod (.bin .fdiv ⇑4 ↑16000) ↑1000],.set (.one 4)<|.bin .mod (.bin .add ⇑4<|.bin .mul ↑40692<|.bin .add ⇑2 ↑7) ↑2147483587,.expr<|.bm .append ⇑1 #[.bin .mod (.bin .fdiv (.bin .mod (.bin .mul ⇑4 ⇑4) ↑2147483647) ↑16) ↑1000]] #[.set (.one 5) ↑0,.whl (.and (.val<|.cmp .ge ⇑3 ↑1000)<|.val<|.cmp .lt ⇑5 ↑60) #[.expr<|.bm .append ⇑1 #[.bin .mod ⇑3 ↑1000],.set (.one 3)<|.bin .fdiv ⇑3 ↑1000,.set (.one 5)<|.bin .add ⇑5 ↑1]]],.ret<|.slc ⇑1 .none<|.some ↑240]}
instance Tn:Fn:={ar:=2,sz:=2,body:=#[.ite (.val<|.cmp .eqE ⇑0<|.lst .nil) #[.ret ↑0] .nil,.ret<|.bin .mod (.bm .popAt ⇑0 #[↑0]) ⇑1]}
instance Tz:Fn:={ar:=3,sz:=9,body:=#[.set (.one 3)<|.lst .nil,.for (.one 4) (.range<|.bin .add ↑1<|.call "_law_take" #[⇑0,⇑1]) #[.set (.one 5)<|.call "_law_take" #[⇑0,↑1000],.whl (.val<|.cmp .isin ⇑5 ⇑3) #[.set (.one 5)<|.bin .mod (.bin .add ⇑5 ↑1) ↑1000],.expr<|.bm .append ⇑3 #[⇑5]],.set (.one 6)<|.lst .nil,.for (.one 4) (.range2 ↑1<|.bi .len #[⇑3]) #[.ite (.val<|.cmp .lt (.call "_law_take" #[⇑0,↑6]) ↑5) #[.expr<|.bm .append ⇑6 #[.tup #[.idx ⇑3<|.call "_law_take" #[⇑0,⇑4],.idx ⇑3 ⇑4]]] .nil],.for (.one 4) (.range<|.call "_law_take" #[⇑0,⇑2]) #[.set (.one 7)<|.call "_law_take" #[⇑0,.bi .len #[⇑3]],.ite (.val<|.cmp .gt (.bi .len #[⇑3]) ↑1) #[.expr<|.bm .append ⇑6 #[.tup #[.idx ⇑3 ⇑7,.idx ⇑3<|.bin .sub (.bin .sub ⇑7 ↑1)<|.call "_law_take" #[⇑0,.bin .sub (.bi .len #[⇑3]) ↑1]]]] .nil],.set (.one 8)<|.comp [0] 1 (.one 0) (.seq ⇑6) .yes<|.idx (.lst #[↑1,↑1,↑2,↑3,.bin .add ↑1<|.call "_law_take" #[⇑1,↑1000]])<|.call "_law_take" #[⇑1,↑5],.ret<|.call "make_net" #[⇑3,.comp [6,8] 1 (.one 0) (.range<|.bi .len #[⇑6]) .yes<|.tup #[.bi .minP #[.idx ⇑1 ⇑0],.bi .maxP #[.idx ⇑1 ⇑0],.idx ⇑2 ⇑0]]]}
instance Tw:Fn:={ar:=1,sz:=3,body:=#[.set (.one 1)<|.comp [] 2 (.many [0,1]) (.seq<|.meth "Yard" "labels" ⇑0 .nil) .yes<|.tup #[.cst<|.str "tick",⇑0],.for (.one 2) (.seq ⇑1) #[.expr<|.meth "Yard" "deed" ⇑0 #[⇑2]],.whl (.val<|.cmp .neE (.meth "Yard" "road" ⇑0 .nil)<|.lst .nil) #[.expr<|.bm .append ⇑1 #[.tup #[.cst<|.str "come",↑0]],.expr<|.meth "Yard" "deed" ⇑0 #[.idx ⇑1<|.neg ↑1]],.ret ⇑1]}
instance TR:Fn:={ar:=2,sz:=7,body:=#[.set (.one 2)<|.call "_law_take" #[⇑0,↑16],.set (.one 3)<|.comp [] 2 (.many [0,1]) (.seq<|.meth "Yard" "labels" ⇑1 .nil) .yes ⇑0,.set (.one 4)<|.meth "Yard" "down" ⇑1 .nil,.set (.one 5)<|.bi .len #[.meth "Yard" "road" ⇑1 .nil],.set (.one 6)<|.comp [4] 1 (.one 0) (.range<|.bi .len #[.idx (.meth "Yard" "net" ⇑1 .nil) ↑1]) (.val<|.cmp .notin ⇑0<|.idx ⇑1 ↑1) ⇑0,.ite (.and (.val<|.cmp .eq ⇑2 ↑12)<|.val<|.cmp .neE ⇑3<|.lst .nil) #[.ret<|.tup #[.cst<|.str "fall",.cst<|.str "bridge",.idx ⇑3<|.call "_law_take" #[⇑0,.bi .len #[⇑3]]]] .nil,.ite (.and (.val<|.cmp .eq ⇑2 ↑13)<|.val<|.cmp .neE ⇑6<|.lst .nil) #[.ret<|.tup #[.cst<|.str "fall",.cst<|.str "tie",.idx ⇑6<|.call "_law_take" #[⇑0,.bi .len #[⇑6]]]] .nil,.ite (.and (.val<|.cmp .isin ⇑2<|.tup #[↑12,↑13,↑14])<|.val<|.cmp .ne (.idx ⇑4 ↑0)<|.tup .nil) #[.ret<|.tup #[.cst<|.str "back",.cst<|.str "bridge",.idx (.idx ⇑4 ↑0)<|.call "_law_take" #[⇑0,.bi .len #[.idx ⇑4 ↑0]]]] .nil,.ite (.and (.val<|.cmp .isin ⇑2<|.tup #[↑12,↑13,↑14])<|.val<|.cmp .ne (.idx ⇑4 ↑1)<|.tup .nil) #[.ret<|.tup #[.cst<|.str "back",.cst<|.str "tie",.idx (.idx ⇑4 ↑1)<|.call "_law_take" #[⇑0,.bi .len #[.idx ⇑4 ↑1]]]] .nil,.ite (.and (.val<|.cmp .eq ⇑2 ↑11)<|.val<|.cmp .gt ⇑5 ↑0) #[.ret<|.tup #[.cst<|.str "lost",.call "_law_take" #[⇑0,⇑5]]] .nil,.ite (.and (.val<|.cmp .gt ⇑2 ↑5)<|.val<|.cmp .gt ⇑5 ↑0) #[.ret<|.tup #[.cst<|.str "come",.idx (.lst #[↑0,.call "_law_take" #[⇑0,⇑5]])<|.bin .mod ⇑2 ↑2]] .nil,.ite (.val<|.cmp .eqE ⇑3<|.lst .nil) #[.ret<|.tup #[.cst<|.str "back",.cst<|.str "bridge",.idx (.idx ⇑4 ↑0) ↑0]] .nil,.ret<|.tup #[.cst<|.str "tick",.idx ⇑3<|.call "_law_take" #[⇑0,.bi .len #[⇑3]]]]}
instance Tj:Fn:={ar:=3,sz:=5,body:=#[.set (.one 3)<|.lst .nil,.set (.one 4) ↑0,.whl (.and (.val<|.cmp .neE ⇑0<|.lst .nil)<|.val<|.cmp .lt (.bi .len #[⇑3]) ⇑2) #[.ite (.and (.val<|.cmp .lt ⇑4 ↑6)<|.val<|.cmp .eq (.call "_law_take" #[⇑0,↑7]) ↑6) #[.set (.one 3)<|.bin .add ⇑3<|.call "_law_round_of" #[⇑1],.set (.one 4)<|.bin .add ⇑4 ↑1] #[.expr<|.bm .append ⇑3 #[.call "_law_deed_now" #[⇑0,⇑1]],.expr<|.meth "Yard" "deed" ⇑1 #[.idx ⇑3<|.neg ↑1]]],.ret ⇑3]}
instance TQ:Fn:={ar:=2,sz:=4,body:=#[.set (.one 2)<|.meth "Yard" "down" ⇑1 .nil,.set (.one 3)<|.lst #[.tup #[.cst<|.str "come",.bi .len #[.meth "Yard" "road" ⇑1 .nil]],.tup #[.cst<|.str "lost",.bin .add (.bi .len #[.meth "Yard" "road" ⇑1 .nil]) ↑3],.tup #[.cst<|.str "come",.bin .sub ↑0 ↑1],.tup #[.cst<|.str "tick",↑1000],.tup #[.cst<|.str "tick"]],.set (.one 3)<|.bin .add (.bin .add ⇑3<|.comp [] 1 (.one 0) (.seq<|.idx ⇑2 ↑0) .yes<|.tup #[.cst<|.str "fall",.cst<|.str "bridge",⇑0])<|.comp [] 1 (.one 0) (.seq<|.idx ⇑2 ↑0) .yes<|.tup #[.cst<|.str "tick",⇑0],.set (.one 3)<|.bin .add ⇑3<|.comp [] 2 (.many [0,1]) (.seq<|.meth "Yard" "labels" ⇑1 .nil) .yes<|.tup #[.cst<|.str "back",.cst<|.str "bridge",⇑0],.set (.one 3)<|.bin .add ⇑3<|.comp [2] 1 (.one 0) (.range<|.bi .len #[.idx (.meth "Yard" "net" ⇑1 .nil) ↑1]) (.val<|.cmp .notin ⇑0<|.idx ⇑1 ↑1)<|.tup #[.cst<|.str "back",.cst<|.str "tie",⇑0],.set (.one 3)<|.bin .add (.bin .add ⇑3<|.comp [] 1 (.one 0) (.seq<|.idx ⇑2 ↑1) .yes<|.tup #[.cst<|.str "fall",.cst<|.str "tie",⇑0])<|.lst #[.tup #[.cst<|.str "fall",.cst<|.str "tie",.bi .len #[.idx (.meth "Yard" "net" ⇑1 .nil) ↑1]],.tup #[.cst<|.str "rise",↑0]],.ret<|.idx (.bin .add ⇑3<|.lst #[.cst .non,.tup #[.cst<|.str "come",.cst<|.bl dI]])<|.call "_law_take" #[⇑0,.bin .add (.bi .len #[⇑3]) ↑2]]}
instance Tk:Fn:={ar:=3,sz:=9,body:=#[.set (.one 3)<|.make "Yard" #[⇑0,⇑1],.set (.one 5)<|.comp [] 1 (.one 0) (.range<|.bi .len #[.idx ⇑0 ↑1]) .yes<|.lst .nil,.for (.many [6,7]) (.enumL ⇑2) #[.expr<|.meth "Yard" "deed" ⇑3 #[⇑7],.for (.one 4) (.range<|.bi .len #[.idx ⇑0 ↑1]) #[.set (.one 8)<|.cmp .eq (.sortT<|.meth "Yard" "ends" ⇑3 #[⇑4])<|.lst #[.cst<|.str "child",.cst<|.str "parent"],.ite (.val<|.cmp .ne ⇑8<|.cmp .eq (.bin .mod (.bi .len #[.idx ⇑5 ⇑4]) ↑2) ↑1) #[.expr<|.bm .append (.idx ⇑5 ⇑4) #[.tup #[⇑6,.idx (.lst #[.cst<|.str "shut",.cst<|.str "open"])<|.bi .int #[⇑8]]]] .nil]],.ret ⇑5]}
instance Tm:Fn:={ar:=5,sz:=8,body:=#[.set (.one 5)<|.bin .mod ⇑3<|.bin .add (.bi .len #[⇑2]) ↑1,.set (.one 6)<|.make "Yard" #[⇑0,⇑1],.for (.one 7) (.seq<|.slc ⇑2 .none<|.some ⇑5) #[.expr<|.meth "Yard" "deed" ⇑6 #[⇑7]],.ret<|.bin .add (.bin .add (.slc ⇑2 .none<|.some ⇑5)<|.lst #[.call "_law_bad_deed" #[⇑4,⇑6]])<|.slc ⇑2 (.some ⇑5) .none]}
instance Tx:Fn:={ar:=4,sz:=6,body:=#[.set (.one 4)<|.lst .nil,.try dG (.call "turns" #[⇑0,⇑1,⇑2,⇑3]) (.cons "ShutError" (dF 5) #[.set (.one 4)<|.lst #[.bi (.isx ["NoDeed"]) #[⇑5],.bi (.isx ["ValueError"]) #[⇑5]],.expr<|.bm .append ⇑4 #[.bi (.isx ["NoCommand","NoFrame","NoLetter","NoLine","NoNet","NoOrder"]) #[⇑5]]] .nil),.ret<|.cmp .eq ⇑4<|.lst #[.cst<|.bl dI,.cst<|.bl dI,.cst<|.bl dJ]]}
instance TL:Fn:={ar:=1,sz:=14,body:=#[.set (.one 1)<|.call "_law_draws" #[⇑0],.set (.one 2)<|.bin .add ↑4<|.call "_law_take" #[⇑1,.idx (.lst #[↑13,↑13,↑13,↑197])<|.call "_law_take" #[⇑1,↑4]],.set (.one 3)<|.call "_law_take" #[⇑1,↑1000],.set (.one 4)<|.lst #[.call "_law_take" #[⇑1,↑1000]],.set (.one 5)<|.call "_law_net" #[⇑1,↑4,↑4],.set (.one 6)<|.call "_law_row" #[⇑1,.make "Yard" #[⇑5,⇑2],↑60],.set (.one 7)<|.call "_law_seen" #[⇑5,⇑2,⇑6],.set (.one 8)<|.call "_law_spoilt_row" #[⇑5,⇑2,⇑6,⇑3,⇑4],.set (.one 9)<|.bi .list #[⇑6],.set (.one 10)<|.bi .list #[⇑8],.for (.one 11) (.range<|.bi .len #[.idx ⇑5 ↑1]) #[.set (.one 12)<|.call "turns" #[⇑5,⇑2,⇑9,⇑11],.ite (.or (.not<|.val<|.bi (.isi ["list"]) #[⇑12])<|.or (.val<|.cmp .ne ⇑12<|.idx ⇑7 ⇑11)<|.val<|.cmp .ne ⇑9 ⇑6) #[.ret<|.cst<|.bl dJ] .nil,.for (.one 13) (.seq ⇑12) #[.ite (.or (.not<|.val<|.bi (.isi ["tuple"]) #[⇑13])<|.val<|.bi (.isi ["bool"]) #[.idx ⇑13 ↑0]) #[.ret<|.cst<|.bl dJ] .nil],.expr<|.bm .append ⇑12 #[.tup #[↑0,.cst<|.str "open"]],.ite (.or (.not<|.val<|.call "_law_refused" #[⇑5,⇑2,⇑8,⇑11])<|.val<|.cmp .ne ⇑8 ⇑10) #[.ret<|.cst<|.bl dJ] .nil],.ret<|.cst<|.bl dI]}
class Al(P:Pg):Prop where
 c0:P "_wall" = dF Tf
 c1:P "is_whole" = dF TF
 c2:P "is_whole_between" = dF TH
 c3:P "make_net" = dF Tu
 c4:P "are_bridges" = dF TN
 c5:P "is_tie" = dF TD
 c6:P "lesser_end_first" = dF To
 c7:P "neighbours" = dF Ta
 c8:P "far_end" = dF TB
 c9:P "newer" = dF Tc
 c10:P "is_open_way" = dF TC
 c11:P "best_offer" = dF TU
 c12:P "Bridge.__init__" = dF SJ
 c13:P "Bridge.twin" = dF SH
 c14:P "Bridge.label" = dF SN
 c15:P "Bridge.stamp" = dF SE
 c16:P "Bridge.held" = dF SW
 c17:P "Bridge.up" = dF SI
 c18:P "Bridge.down" = dF SZ
 c19:P "Bridge.hear" = dF SX
 c20:P "Bridge.tick" = dF SG
 c21:P "Bridge.let_grow_older" = dF SO
 c22:P "Bridge.reckon_label" = dF SD
 c23:P "Bridge.take_label" = dF SF
 c24:P "Bridge.letter_over" = dF SU
 c25:P "Bridge.is_rested_on" = dF SM
 c26:P "Bridge.is_agreed_to" = dF SK
 c27:P "Bridge.end" = dF SY
 c28:P "Yard.__init__" = dF S6
 c29:P "Yard.twin" = dF TM
 c30:P "Yard.net" = dF S8
 c31:P "Yard.greatest" = dF S4
 c32:P "Yard.road" = dF S9
 c33:P "Yard.down" = dF SV
 c34:P "Yard.labels" = dF S7
 c35:P "Yard.stamps" = dF TX
 c36:P "Yard.bridge" = dF SR
 c37:P "Yard.ends" = dF S1
 c38:P "Yard.end_at" = dF S0
 c39:P "Yard.has_tie" = dF S5
 c40:P "Yard.deed" = dF ST
 c41:P "Yard.tick_of" = dF TK
 c42:P "Yard.come" = dF SS
 c43:P "Yard.take_off" = dF TW
 c44:P "Yard.fall_of_bridge" = dF S2
 c45:P "Yard.fall_of_tie" = dF S3
 c46:P "Yard.back_of_bridge" = dF SL
 c47:P "Yard.back_of_tie" = dF SQ
 c48:P "Yard.set_ties_of" = dF TY
 c49:P "Yard.set_tie" = dF TZ
 c50:P "read_deed" = dF Td
 c51:P "turns" = dF Te
 c52:P "_law_draws" = dF TV
 c53:P "_law_take" = dF Tn
 c54:P "_law_net" = dF Tz
 c55:P "_law_round_of" = dF Tw
 c56:P "_law_deed_now" = dF TR
 c57:P "_law_row" = dF Tj
 c58:P "_law_bad_deed" = dF TQ
 c59:P "_law_seen" = dF Tk
 c60:P "_law_spoilt_row" = dF Tm
 c61:P "_law_refused" = dF Tx
 c62:P "law" = dF TL
set_option hygiene false in
local macro_rules|`(#check $r:ident $c:ident $d:ident $s:str $a:num $z:num)=>do
 let v:=(Array.range a.getNat).map λi=>Lean.mkIdent (.mkSimple s!"a{i}")
 let e<-(Array.range z.getNat).mapM λi=>if i<a.getNat then `(dF $(v[i]!))else`(dG)
 `(theorem $r [Al P](q:B0 P n $d [$e,*] h Q X):wF P (n+1) $s [$v,*] h Q X:=Zd $c rfl q)
#check Y4 Al.c1 TF "is_whole" 1 1
#check XN Al.c2 TH "is_whole_between" 3 3
#check OF Al.c3 Tu "make_net" 2 2
#check Kj Al.c4 TN "are_bridges" 1 1
#check Dp Al.c5 TD "is_tie" 2 2
#check XM Al.c6 To "lesser_end_first" 1 1
#check Mb Al.c7 Ta "neighbours" 2 5
#check AG Al.c8 TB "far_end" 2 2
#check F3 Al.c9 Tc "newer" 2 2
#check Kt Al.c10 TC "is_open_way" 2 2
#check Mz Al.c11 TU "best_offer" 2 3
#check Kg Al.c12 SJ "Bridge.__init__" 5 8
#check JU Al.c14 SN "Bridge.label" 1 1
#check Ke Al.c15 SE "Bridge.stamp" 1 1
#check Kl Al.c16 SW "Bridge.held" 2 2
#check NL Al.c17 SI "Bridge.up" 4 4
#check Ko Al.c18 SZ "Bridge.down" 2 2
#check Km Al.c19 SX "Bridge.hear" 3 4
#check Kw Al.c20 SG "Bridge.tick" 1 2
#check YI Al.c21 SO "Bridge.let_grow_older" 1 4
#check Xh Al.c22 SD "Bridge.reckon_label" 1 8
#check XG Al.c23 SF "Bridge.take_label" 2 2
#check Xj Al.c24 SU "Bridge.letter_over" 2 8
#check Xg Al.c25 SM "Bridge.is_rested_on" 2 3
#check Xi Al.c26 SK "Bridge.is_agreed_to" 2 3
#check Mn Al.c27 SY "Bridge.end" 2 2
#check M8 Al.c28 S6 "Yard.__init__" 3 4
#check OS Al.c30 S8 "Yard.net" 1 1
#check Nx Al.c32 S9 "Yard.road" 1 1
#check Nh Al.c33 SV "Yard.down" 1 2
#check Kr Al.c34 S7 "Yard.labels" 1 1
#check NH Al.c37 S1 "Yard.ends" 2 5
#check Ks Al.c38 S0 "Yard.end_at" 3 3
#check ZX Al.c39 S5 "Yard.has_tie" 2 2
#check WK Al.c40 ST "Yard.deed" 2 4
#check Xm Al.c41 TK "Yard.tick_of" 2 5
#check Xw Al.c42 SS "Yard.come" 2 6
#check Xf Al.c43 TW "Yard.take_off" 2 2
#check ZZ Al.c44 S2 "Yard.fall_of_bridge" 2 2
#check ZP Al.c45 S3 "Yard.fall_of_tie" 2 2
#check ZG Al.c46 SL "Yard.back_of_bridge" 2 2
#check Yq Al.c47 SQ "Yard.back_of_tie" 2 2
#check XU Al.c48 TY "Yard.set_ties_of" 2 5
#check Ju Al.c49 TZ "Yard.set_tie" 2 8
#check Yv Al.c50 Td "read_deed" 1 2
#check FO Al.c51 Te "turns" 4 9
#check NK Al.c52 TV "_law_draws" 1 6
#check N6 Al.c53 Tn "_law_take" 2 2
#check A2 Al.c54 Tz "_law_net" 3 9
#check Jn Al.c55 Tw "_law_round_of" 1 3
#check Jy Al.c56 TR "_law_deed_now" 2 7
#check AA Al.c57 Tj "_law_row" 3 5
#check JB Al.c58 TQ "_law_bad_deed" 2 4
#check OD Al.c59 Tk "_law_seen" 3 9
#check WF Al.c60 Tm "_law_spoilt_row" 5 8
#check Kf Al.c61 Tx "_law_refused" 4 6
#check Q0 Al.c62 TL "law" 1 14
local macro_rules|`(#[$x])=>`(.cons $x .nil)|`(#[$x,$y,*])=>`(.cons $x #[$y,*])
local macro_rules | `(tactic| walk_at "ne")=>`(tactic| first | assumption | (apply Ne.symm; assumption) | ((with_reducible apply ne_none'); (· assumption); (· walk_at "look")) | (apply Ne.symm; (with_reducible apply ne_none'); (· assumption); (· walk_at "look")))
local macro_rules | `(tactic| walk_at "look")=>`(tactic| first | assumption | with_reducible exact dM | ((with_reducible apply upd_ne'); (· walk_at "ne"); (· walk_at "look")) | ((with_reducible apply Ext.get); (· assumption); (· walk_at "look")) | ((with_reducible apply ExtB.get); (· assumption); (· walk_at "ne"); (· walk_at "look")))
local macro_rules | `(tactic| walk_at "ar")=>`(tactic| first | decide | lia | assumption | (simp only [Ç,ĝ]; decide))
local macro_rules | `(tactic| walk_at "mul")=>`(tactic| first | exact .inl (.inr<|by lia) | exact .inl (.inl<|by lia) | exact .inr ⟨by decide,by decide⟩)
local macro_rules | `(tactic| walk_at "setl")=>`(tactic| first | (simp only [ń,ż,ξ,Ķ,List.foldl_nil,Ϝ,ϝ]; done) | (simp only [ń,ż,ξ,Ķ,List.foldl_nil,Ϝ,ϝ]; exact rfl) | exact rfl)
local macro_rules | `(tactic| walk_at "w")=>`(tactic| with_reducible conv=>whnf)
local macro_rules | `(tactic| walk_at "py1")=>do
 let a<-[`dw0,`ab_int,`b_add,`b_sub,`g_int,`g_bl,`g_ref,`g_tbl,`c_lt,`c_gt,`c_le,`c_ge,`c_eqI,`c_neI,`c_isN,`c_notN,`ag_add,`ln_scr,`ln_tup,`in_bl,`mn2,`mx2,`it_tup].toArray.mapM λn=>`(tactic| refine $(Lean.mkIdent n) ?_)
 let c<-[`ln_lst,`tp_lst,`ls_lst,`sl_lst,`it_lst,`dc_of].toArray.mapM λn=>`(tactic| ((with_reducible apply $(Lean.mkIdent n)); (· walk_at "look")))
 `(tactic| first
 |(with_reducible first $[| $a:tactic]*)
 |((with_reducible apply QC);(· exact rfl))
 |((with_reducible apply HC);(· walk_at "setl"))|((with_reducible apply Ix);(· (simp only[bindL,Ϝ,ϝ];exact rfl)))|((with_reducible apply b_mul);(· walk_at "mul"))|((with_reducible apply b_fdiv);(· walk_at "ar"))|((with_reducible apply b_mod);(· walk_at "ar"))|((with_reducible apply IE);(· walk_at "ar");(· simp only[Int.reduceToNat,Int.reducePow];exact rfl))|((with_reducible apply Ys);(· walk_at "look");(· walk_at "look");(· first|(simp only[ϴ,List.nil_append,Ç,ĝ];decide)|lia))|((with_reducible apply Pl);(· walk_at "ar"))
 |((with_reducible apply dQ);(· exact rfl))|((with_reducible apply Zz);(· walk_at "look");(· exact rfl))
 |((with_reducible apply YB);(· walk_at "look");(· walk_at "ar"))|((with_reducible apply LR);(· walk_at "look");(· exact rfl))|((with_reducible apply Iz);(· walk_at "look");(· exact rfl))
 |((with_reducible apply Hu);(· exact rfl))|((with_reducible apply eZ);(· decide))
 | ((with_reducible apply Ij);(· first | exact .inl rfl | exact .inr (.inl rfl) | simp);(· walk_at "look")) | ((with_reducible apply Lw);(· first | exact rfl | simp);(· walk_at "look")) | ((with_reducible apply Zy);(· walk_at "look");(· walk_at "ar")) | (first $[| $c:tactic]*))
local macro_rules | `(tactic| fail)=>`(tactic| ((repeat walk_at "py1"); walk_at "w"))
local macro_rules | `(tactic| walk_at "p")=>`(tactic| ((repeat first | walk_at "py1" | refine fb rfl ?_ | refine fc rfl ?_); walk_at "w"))
local macro_rules | `(tactic| exists $e)=>`(tactic| (fail; refine $e ?_))
local macro_rules | `(tactic| refine' $e)=>`(tactic| (fail; refine $e))
section
variable {α:Type}(val:α->Val)
abbrev Zn(kvs:List<|Int×α):List<|Val×Val:=kvs.map λp=>(.int p.1,val p.2)
abbrev ZC(kvs:List<|Int×α)(k:Int)(v:α):List<|Int×α:=if(kvs.lookup k).isSome then kvs.map (λp=>if p.1=k then(k,v)else p)else kvs++[(k,v)]
abbrev ZA(kvs:List<|Int×α)(k:Int):List<|Int×α:=kvs.filter λp=>fJ (p.1≠k)
variable {val}
def Jh(a b:Int):(Val.int a==Val.int b)=fJ (a=b):=by
 by_cases e:a=b
 .subst e;simp
 .rw[fE e];exact beq_eq_false_iff_ne.mpr λz=>e (by injection z)
def Yo(kvs:List<|Int×α)(k:Int):eh (Zn val kvs) (.int k)=(kvs.lookup k).map val:=by
 induction kvs with
 |nil=>rfl
 |cons p r ih =>
  unfold eh Zn at ih ⊢;rw[Í,Ĕ,ð,Jh];by_cases e:p.1=k
  .have:(k==p.1)=dI:=by simp[e]
   simp[e]
  .have h2:(k==p.1)=dJ:=by simpa using λz=>e z.symm
   rw[fE e,h2];exact ih
def Yb(kvs:List<|Int×α)(k:Int):ei (Zn val kvs) (.int k)=(kvs.lookup k).isSome:=by
 induction kvs with
 |nil=>rfl
 |cons p r ih =>
  unfold ei Zn at ih ⊢;rw[Í,ĥ,ð,Jh];by_cases e:p.1=k
  .simp[e]
  .have h2:(k==p.1)=dJ:=by simpa using λz=>e z.symm
   rw[fE e,h2];exact ih
def Yg(kvs:List<|Int×α)(k:Int)(v:α):ej (Zn val kvs) (.int k) (val v)=Zn val (ZC kvs k v):=by
 unfold ej ZC;rw[Yb];split
 .unfold Zn;rw[ú,ú];refine ě λp _=>?_;simp only[bq,Jh];by_cases e:p.1=k
  .simp[e]
  .simp[e]
 .unfold Zn;rw[Ò];rfl
def Wk(kvs:List<|Int×α)(k:Int):eB (Zn val kvs) (.int k)=Zn val (ZA kvs k):=by
 unfold eB ZA Zn;induction kvs with
 |nil=>rfl
 |cons p r ih =>rw[Í,ý,ý,Jh,ih];by_cases e:p.1=k<;>simp[e]
def Wr(ns:List Int):dR (ns.map Val.int)=dF ns:=by
 induction ns with
 |nil=>rfl
 |cons n ns ih=>show(dR<|ns.map Val.int).map _=_;rw[ih];rfl
def DU(kvs:List<|Int×α):keysOf (Zn val kvs)=dF (kvs.map (·.1)):=by unfold keysOf Zn;rw[ú];exact(congrArg dR (ú (f:=λp:Int×α=>p.1) (g:=Val.int) (l:=kvs)).symm).trans (Wr _)
def Kv(kvs:List<|Int×α):(Zn val kvs).length=kvs.length:=by unfold Zn;rw[À]
variable {kvs:List (Int×α)}
def ZD{k:Int}{v:α}(h:kvs.lookup k=dF v):(k,v)∈kvs:=by
 induction kvs with
 |nil=>cases h
 |cons p r ih =>
  rw[ð]at h;by_cases e:k=p.1
  .have:(k==p.1)=dI:=by simp[e]
   rw[this]at h;cases h;rw[e];exact ì
  .have:(k==p.1)=dJ:=⇑e
   rw[this]at h;exact à _<|ih h
def ZR{k:Int}(h:k∈kvs.map (·.1)):∃v,kvs.lookup k=dF v:=by
 induction kvs with
 |nil=>cases h
 |cons p r ih =>
  rw[ð];by_cases e:k=p.1
  .have:(k==p.1)=dI:=by simp[e]
   rw[this];exact⟨_,rfl⟩
  .have:(k==p.1)=dJ:=⇑e
   rw[this];rw[Í,Æ]at h;exact ih<|h.resolve_left e
def Xy{k:Int}(h:kvs.lookup k=dG):k∉kvs.map (·.1):=λm=>by let⟨v,e⟩:=ZR m;rw[h]at e;cases e
def W4(nd:(kvs.map (·.1)).Nodup){k:Int}{v:α}(h:(k,v)∈kvs):kvs.lookup k=dF v:=by
 induction kvs with
 |nil=>cases h
 |cons p r ih =>
  rw[Í,Ć]at nd;rw[ð];rcases Æ.mp h with e|h
  .subst e;simp
  .have:k≠p.1:=λz=>nd.1 (z▸û (f:=(·.1)) h);have:(k==p.1)=dJ:=⇑this
   rw[this];exact ih nd.2 h
def JP(kvs:List<|Int×α)(k:Int)(v:α):(ZC kvs k v).map (·.1)=if(kvs.lookup k).isSome then kvs.map (·.1)else kvs.map (·.1)++[k]:=by
 unfold ZC;split
 .rw[ú];refine ě λp _=>?_;simp only[bq];by_cases e:p.1=k<;>simp[e]
 .rw[Ò];rfl
def Wc{k:Int}(v:α)(h:k∉kvs.map (·.1)):ZC kvs k v=kvs++[(k,v)]:=by
 unfold ZC;have:kvs.lookup k=dG:=by
  cases e:kvs.lookup k with
  |none=>rfl
  |some w=>exact fI (û (f:=(·.1))<|ZD e) h
 rw[this];rfl
def WE(nd:(kvs.map (·.1)).Nodup)(k:Int)(v:α):((ZC kvs k v).map (·.1)).Nodup:=by
 rw[JP];split
 .exact nd
 .rename_i h;have h:kvs.lookup k=dG:=Ϯ.mp h;rw[æ];refine⟨nd,by simp,λa ha b hb=>?_⟩;rw[Ø.mp hb];exact λe=>Xy h<|e▸ha
variable {p:Int×α}
def W7{k:Int}{v:α}(h:p∈ZC kvs k v):p=(k,v)\/p∈kvs:=by
 unfold ZC at h;split at h
 .obtain⟨q,hq,e⟩:=ã.mp h;split at e
  .exact .inl e.symm
  .exact .inr<|e▸hq
 .rcases â.mp h with h|h
  .exact .inr h
  .exact .inl<|Ø.mp h
def NF(kvs:List<|Int×α)(k:Int):(ZA kvs k).Sublist kvs:=ϖ
def Y3(nd:(kvs.map (·.1)).Nodup)(k:Int):((ZA kvs k).map (·.1)).Nodup:=nd.sublist ((NF kvs k).map _)
def FR{k:Int}(h:p∈ZA kvs k):p.1≠k:=by unfold ZA at h;have:=(Ĝ.mp h).2;simpa using this
end
def Yh:∀{m:Nat}{ns:List Int},ns.Nodup->(∀x∈ns,0<=x/\x<m)->ns.length<=m
 |0,ns,nd,h=>by
  cases ns with
  |nil=>exact Ì _
  |cons x xs=>have:=h x ì;lia
 |m+1,ns,nd,h=>by
  by_cases hm:(m:Int)∈ns
  .have:=Yh (m:=m) (nd.erase (m:Int)) λx hx=>by
    have h1:=(nd.mem_erase_iff).mp hx;have h2:=h x h1.2;have:=h1.1;lia
   rw[bf hm]at this;lia
  .have:=Yh (m:=m) nd λx hx=>by
    have h2:=h x hx;have:x≠(m:Int):=λe=>hm<|e▸hx;lia
   lia
noncomputable abbrev Pi:=Int×Int
noncomputable abbrev pV(p:Pi):Val:=.tup [.int p.1,.int p.2]
abbrev oV:Option Pi->Val
 |none=>.non
 |some p=>pV p
structure L where
 num:Pi
 st:Pi
 root:Int
 cost:Int
 age:Int
 rests:Option Pi
 agrees:Option Pi
noncomputable abbrev L.v(l:L):Val:=.tup [pV l.num,pV l.st,.int l.root,.int l.cost,.int l.age,oV l.rests,oV l.agrees]
noncomputable abbrev UY(t:Int×Int):Val:=.tup [.int t.1,.int t.2]
noncomputable abbrev hdV(t:L×Int):Val:=.tup [t.1.v,.int t.2]
structure Lab where
 root:Int
 cost:Int
 up:Option<|Int×Pi
 deriving DecidableEq
abbrev upV:Option (Int×Pi)->Val
 |none=>.non
 |some p=>.int p.1
abbrev rsV:Option (Int×Pi)->Val
 |none=>.non
 |some p=>pV p.2
noncomputable abbrev Lab.v(l:Lab):Val:=.tup [.int l.root,.int l.cost,upV l.up,rsV l.up]
structure Br where
 number:Int
 life:Int
 most:Int
 ties:List<|Int×(Int×Int)
 held:List<|Int×(L×Int)
 label:Lab
 version:Int
 count:Int
structure dX(h:Hs)(b t d:Ad)(B:Br):Prop where
 ins:h b=dF (.ins "Bridge" [("number",.int B.number),("life",.int B.life),("age_let_go",.int B.most),("ties_by_place",.ref t),("held_by_place",.ref d),("label_now",B.label.v),("version",.int B.version),("ticks_had",.int B.count)])
 ties:h t=dF (.dct<|Zn UY B.ties)
 held:h d=dF (.dct<|Zn hdV B.held)
 ne:t≠d
variable {h:Hs} {b:Ad} {o:Ob}
def B7{a:Ad}{u:Ob}(ha:h a=dF o)(hb:h b=dF u)(ne:o≠u):a≠b:=λe=>by subst e;rw[ha]at hb;exact ne (í hb)
variable {d:Ad} {B:Br}
def dX.nbt{t:Ad}(x:dX h b t d B):b≠t:=B7 x.ins x.ties nofun
def dX.nbd{t:Ad}(x:dX h b t d B):b≠d:=B7 x.ins x.held nofun
structure Ex(S:List Ad)(h g:Hs):Prop where
 get:∀{a:Ad}{o:Ob},a∉S->h a=dF o->g a=dF o
def Ex.refl{S:List Ad}:Ex S h h:=⟨λ_ e=>e⟩
variable {g:Hs}
def Ex.trans{k:Hs}{S:List Ad}(e:Ex S h g)(f:Ex S g k):Ex S h k:=⟨λn x=>f.get n<|e.get n x⟩
def Ex.of{S:List Ad}(e:Ext h g):Ex S h g:=⟨λ_ x=>e.get x⟩
variable {w:Ad}
def Ex.upd{S:List Ad}(m:w∈S):Ex S h<|upd h w o:=⟨λ{a _} n x=>by rw[dL λe:a=w=>n<|by rw[e];exact m];exact x⟩
def Ex.sub{S T:List Ad}(e:Ex S h g)(m:∀a∈S,a∈T):Ex T h g:=⟨λn x=>e.get (λz=>n<|m _ z) x⟩
variable {p:Ad}
def Ex.none(e:Ex [b] h g)(hb:g b≠dG)(hp:g p=dG):h p=dG:=by
 cases z:h p with
 |none=>rfl
 |some o =>
  by_cases hpb:p=b
  .subst hpb;exact fI hp hb
  .rw[e.get ⇑hpb z]at hp;cases hp
def Ex.ofB{S:List Ad}(e:ExtB w h g)(m:w∈S):Ex S h g:=⟨λn x=>e.get (λz=>n<|z▸m) x⟩
def dX.keep{t:Ad}{S:List Ad}(x:dX h b t d B)(e:Ex S h g)(hb:b∉S)(ht:t∉S)(hd:d∉S):dX g b t d B:=⟨e.get hb x.ins,e.get ht x.ties,e.get hd x.held,x.ne⟩
def dX.ext{t:Ad}(x:dX h b t d B)(e:Ext h g):dX g b t d B:=⟨e.get x.ins,e.get x.ties,e.get x.held,x.ne⟩
def nw{Q:Q1}(q:∀p,h p=dG->Q (.ref p) (upd h p o)):new h o Q:=YA q
abbrev YH(most:Int)(held:List<|Int×(L×Int)):List<|Int×(L×Int):=held.filterMap λp=>if p.2.2+1<most then dF (p.1,(p.2.1,p.2.2+1))else dG
variable {most:Int}
def Ae{held:List (Int×(L×Int))}{p:Int×(L×Int)}(h:p∈YH most held):∃a,(p.1,(p.2.1,a))∈held:=by
 let⟨q,hq,e⟩:=Ż.mp h;split at e
 .cases e;exact⟨_,hq⟩
 .cases e
def J5(most:Int)(held:List<|Int×(L×Int)):((YH most held).map (·.1)).Sublist (held.map (·.1)):=by
 unfold YH;induction held with
 |nil=>exact œ _
 |cons p r ih =>
  rw[Ď];split
  .exact ih.cons _
  .rename_i q e;split at e
   .cases e;exact ih.cons₂ _
   .cases e
def AR(most:Int)(held:List<|Int×(L×Int)):(YH most held).length<=held.length:=aZ _ _
def YV{α β:Type}{f:α->β}:∀{xs:List α}{i:Nat}{q:α},(xs.map f).Nodup->xs[i]?=dF q->f q∉(xs.take i).map f
 |[],_,_,_,h=>by simp at h
 |x::xs,0,_,_,_=>by simp
 |x::xs,i+1,q,nd,h=>by
  rw[Í,Ć]at nd;have h:xs[i]?=dF q:=⇑h
  rw[ϗ,Í,Æ,not_or];exact⟨λe=>nd.1<|e▸û (á h),YV nd.2 h⟩
variable {α:Type} {xs:List α} {i:Nat} {x:α}
def Zf(h:xs[i]?=dF x):xs.take (i+1)=xs.take i++[x]:=by rw[Ŋ,h];rfl
def ZO{f:α->Val}{v:Val}(h:(xs.map f)[i]?=dF v):∃x,xs[i]?=dF x/\v=f x:=by rw[Ó]at h;let⟨x,h1,h2⟩:=Ï.mp h;exact⟨x,h1,h2.symm⟩
variable {kvs:List (Int×α)}
def M9{val:α->Val}{v:Val}(h:((Zn val kvs).map<|itemOf dJ)[i]?=dF v):∃p,kvs[i]?=dF p/\v=.tup [.int p.1,val p.2]:=by let⟨q,h1,rfl⟩:=ZO h;unfold Zn at h1;rw[Ó]at h1;let⟨x,h2,rfl⟩:=Ï.mp h1;exact⟨x,h2,rfl⟩
def He{val:α->Val}(kvs:List<|Int×α):((Zn val kvs).map<|itemOf dJ).length=kvs.length:=by rw[À,Kv]
variable {P:Pg} [Al P] {n:Nat}{h:Hs}{w b t d st a f tt hh:Ad}{S B:Br}{c:Int}{all:List (Int×Int)}{ps:List Int}{Q:Q1}{X:XQ}
def BG(x:dX h b t d B)(k:Q B.label.v h):wF P (n+1) "Bridge.label" [.ref b] h Q X:=by let⟨hi,ht,hd,ŝ⟩:=x;refine JU ?_;refine' k
def XZ(x:dX h b t d B)(k:Q (pV (B.life,B.version)) h):wF P (n+1) "Bridge.stamp" [.ref b] h Q X:=by let⟨hi,ht,hd,ŝ⟩:=x;refine Ke ?_;refine' k
abbrev hdO:Option (L×Int)->Val
 |none=>.non
 |some p=>hdV p
def M1{p:Int}(x:dX h b t d B)(k:Q (hdO<|B.held.lookup p) h):wF P (n+1) "Bridge.held" [.ref b,.int p] h Q X:=by
 let⟨hi,ht,hd,ŝ⟩:=x;refine Kl ?_
 exists Hv (v:=.int p) hd rfl
 rw[Yo];cases e:B.held.lookup p with
 |none=>rw[e]at k;exact k
 |some q=>rw[e]at k;exact k
def E6(x:dX h b t d B)(nd:(B.held.map (·.1)).Nodup)(hl:B.held.length<1000)(k:∀d' g,h d'=dG->dX g b t d' {B with held:=YH B.most B.held}->Ex [b] h g->Q .non g):wF P (n+1) "Bridge.let_grow_older" [.ref b] h Q X:=by
 let⟨hi,ht,hd,ŝ⟩:=id x;refine YI ?_;fail;intro p hp;have npd:=Zb hd hp;have npb:=Zb hi hp;have npt:=Zb ht hp;have nbd:=x.nbd;refine' Zp (λi e g=>Sm2 λu v=>Cj4 (e=[dF<|.ref b,dF<|.ref p,u,v]) (g p=dF (.dct<|Zn hdV<|YH B.most<|B.held.take i)) (g d=dF (.frz<|Zn hdV B.held))<|Ex [d] h g) ⟨dG,dG,rfl,by rw[dL npd.symm];exact dM,dM,?_⟩ ?_ ?_ ?_
 .exact⟨λm e=>by rw[dL λz=>m<|by simp[z],dL<|Zb e hp];exact e⟩
 .rintro i e g cY ⟨u,v,rfl,h1,h2,h3⟩;exact h2
 .rintro i v e g hv ⟨u,w,rfl,h1,h2,h3⟩ K hK;let⟨q,hq,rfl⟩:=M9 hv;have hi1:=h3.get ⇑nbd hi;let⟨pl,l,a⟩:=q;have e1:YH B.most (B.held.take<|i+1)=YH B.most (B.held.take i)++YH B.most [(pl,(l,a))]:=by
   unfold YH;rw[Zf hq,List.filterMap_append]
  refine' fe (λhc=>?_) (λhc=>?_)
  .refine' YS (k:=.int pl) h1 ⟨rfl,?_⟩ ?_
   .rw[Kv];have h5:=AR B.most<|B.held.take i;have h6:(B.held.take i).length<=B.held.length:=Χ _ _;exact Ñ (Ô h5 h6) (ź hl<|by decide)
   fail;rw[show Val.tup [l.v,.int<|a+1]=hdV (l,a+1) from rfl,Yg];refine hK _ _ ⟨_,_,rfl,?_,?_,?_⟩
   .rw[dM,e1,Wc]
    .unfold YH;rw[Ď,fA hc];rfl
    .exact λm=>YV nd hq<|(J5 _ _).subset m
   .rw[dL npd];exact h2
   .exact⟨λm e=>by rw[dL<|Zb e hp];exact h3.get m e⟩
  .refine' hK _ _ ⟨_,_,rfl,?_,h2,h3⟩;rw[h1,e1];unfold YH;rw[Ď,fB hc];simp
 .rintro e g ⟨u,v,rfl,h1,h2,h3⟩;have hi1:=h3.get ⇑nbd hi;rw[He,ø]at h1;refine⟨h2,?_⟩;refine' k p _ hp ⟨dM,?_,?_,npt⟩ ?_
  .rw[dL x.nbt.symm,dL ŝ];exact h3.get ⇑ŝ ht
  .rw[dL npb.symm,dL npd.symm];exact h1
  .refine⟨λ{c o} m e=>?_⟩;rw[dL<|by simpa using m];by_cases aq:c=d
   .subst aq;rw[dM,<-e];exact hd.symm
   .rw[dL aq];exact h3.get ⇑aq e
def FF(x:α)(xs:List α):atI (x::xs) 0=dF x:=by unfold atI ixN;rw[fA (by decide),fA<|by simp];rfl
abbrev X7(r:List Int):Val:=.tup<|r.map .int
def CT(Ė:List<|List Int):rowsOf (Ė.map X7)=dF Ė:=by
 induction Ė with
 |nil=>rfl
 |cons r rs ih =>show(dR<|r.map .int).bind (λns=>(rowsOf<|rs.map X7).map (ns :: ·))=_;rw[Wr,ih];rfl
abbrev YW(number:Int)(Ė:List<|List Int):Option<|List Int:=match Ė.filter (λr=>fJ (r.headD 0<number))with
 |[]=>dG
 |x::r=>dF<|minR x r
abbrev Fu:Option (List Int)->Val
 |none=>.non
 |some r=>X7 r
def Na:∀(r:List<|List Int) (x:List Int),minR x r∈x::r
 |[],x=>ì
 |y::r,x=>by
  show minR (if eP y x then y else x) r∈x::y::r;have h:=Na r (if eP y x then y else x);rcases Æ.mp h with e|h
  .rw[e];split
   .simp
   .simp
  .simp[h]
variable {number:Int} {Ė:List (List Int)}
def Nw{m:List Int}(h:YW number Ė=dF m):m∈Ė:=by
 unfold YW at h;split at h
 .cases h
 .rename_i x r e;cases h;have:minR x r∈Ė.filter (λr=>fJ (r.headD 0<number)):=by rw[e];exact Na r x
  exact(Ĝ.mp this).1
variable {l:Ad}
def EU(hl:h l=dF (.lst<|Ė.map X7))(h0:∀r∈Ė,r≠[])(hn:Ė.length<1000)(k:∀g,Ext h g->Q (Fu<|YW number Ė) g):wF P (n+1) "best_offer" [.int number,.ref l] h Q X:=by
 refine Mz ?_;refine' ⟨by rw[À];exact ź hn (by decide),?_⟩;refine Z1 (λv=>match v with|.tup (.int i::xs)=>if i<number then dF v else dG|_=>dG) (lsE hl) ?_ ?_
 .intro v hv K hK;let⟨r,hr,rfl⟩:=ã.mp hv;cases r with
  |nil=>exact fI rfl<|h0 _ hr
  |cons i xs =>
   have hK:K (if i<number then dF (X7<|i::xs)else dG) h:=hK;rw[show X7 (i::xs)=.tup (.int i::xs.map .int) from rfl]at hK ⊢
   exists dQ (FF _ _)
   refine' fe (λhc=>?_) (λhc=>?_)
   .rw[fA hc]at hK;refine' hK
   .rw[fB hc]at hK;exact hK
 .refine YA λp hp=>?_;fail;have e1:(Ė.map X7).filterMap (λv=>match v with|.tup (.int i::xs)=>if i<number then dF v else dG|_=>dG)=(Ė.filter λr=>fJ (r.headD 0<number)).map X7:=by
   clear hl k hn;induction Ė with
   |nil=>rfl
   |cons r rs ih =>
    have ih:=ih λr hr=>h0 r<|à _ hr;cases r with
    |nil=>exact fI rfl<|h0 _ ì
    |cons i xs =>
     rw[Í,Ď,ý];by_cases hc:i<number
     .simp only[X7,Í,fA hc,List.headD_cons,hc,decide_true,if_true]at ih ⊢;rw[ih]
     .simp only[X7,Í,fB hc,List.headD_cons,hc,decide_false,Ċ,if_false]at ih ⊢;rw[ih]
  rw[e1];have hx:Ext h<|upd h p<|.lst<|(Ė.filter λr=>fJ (r.headD 0<number)).map X7:=Ext.new hp;cases e2:Ė.filter λr=>fJ (r.headD 0<number)with
  |nil =>rw[e2]at hx;refine LS dM ?_;have:=k _ hx;unfold YW at this;rw[e2]at this;exact this
  |cons x r =>rw[e2]at hx;refine EC dM (CT<|x::r) ?_;have:=k _ hx;unfold YW at this;rw[e2]at this;exact this
abbrev NP(ties:List<|Int×(Int×Int))(p:Int):Int×Int:=(ties.lookup p).getD (0,0)
abbrev MR(ties:List<|Int×(Int×Int))(q:Int×(L×Int)):List Int:=[q.2.1.root,q.2.1.cost+(NP ties q.1).2,(NP ties q.1).1,q.1]
abbrev MP(ties:List<|Int×(Int×Int))(held:List<|Int×(L×Int)):List<|List Int:=held.map<|MR ties
abbrev FU(held:List<|Int×(L×Int))(p:Int):Pi:=((held.lookup p).map (·.1.st)).getD (0,0)
abbrev YG(B:Br):Lab:=match YW B.number (MP B.ties B.held)with
 |none=>⟨B.number,0,dG⟩
 |some m=>⟨m.getD 0 0,m.getD 1 0,dF (m.getD 3 0,FU B.held<|m.getD 3 0)⟩
def Ip{ties:List (Int×(Int×Int))}{p:Int}(h:(ties.lookup p).isSome=dI):ties.lookup p=dF (NP ties p):=by
 unfold NP;cases e:ties.lookup p with
 |none=>rw[e]at h;cases h
 |some v=>rfl
def Ah(x:dX h b t d B)(sub:∀q∈B.held,(B.ties.lookup q.1).isSome=dI)(hn:B.held.length<1000)(k:∀g,Ext h g->Q (YG B).v g):wF P (n+2) "Bridge.reckon_label" [.ref b] h Q X:=by
 let⟨hi,ht,hd,ŝ⟩:=id x;refine Xh ?_;refine' YA λp hp=>?_;have npd:=Zb hd hp;have npb:=Zb hi hp;have npt:=Zb ht hp;have nbd:=x.nbd;refine' Zp (λi e g=>Sm4 λu v w z=>Cj4 (e=[dF<|.ref b,dF<|.ref p,u,v,w,z,dG,dG]) (g p=dF (.lst<|(MP B.ties<|B.held.take i).map X7)) (g d=dF (.frz<|Zn hdV B.held))<|Ex [d] h g) ⟨dG,dG,dG,dG,rfl,by rw[dL npd.symm];exact dM,dM,?_⟩ ?_ ?_ ?_
 .exact⟨λm e=>by rw[dL λz=>m<|by simp[z],dL<|Zb e hp];exact e⟩
 .rintro i e g cY ⟨u,v,w,z,rfl,h1,h2,h3⟩;exact h2
 .rintro i v e g hv ⟨u,v,w,z,rfl,h1,h2,h3⟩ K hK;let⟨q,hq,rfl⟩:=M9 hv;have hi1:=h3.get ⇑nbd hi;have ht1:=h3.get ⇑ŝ ht;have hs:=Ip<|sub q<|á hq;let⟨pl,l,a⟩:=q;generalize htt:NP B.ties pl=tt at hs;let⟨nb,c⟩:=tt;refine' Z9 ht1 rfl (by rw[Yo,hs];rfl) ?_;refine' Zy h1 ?_ ?_
  .rw[À];unfold MP;rw[À];exact Ñ (Χ _ _) (ź hn<|by decide)
  dsimp only;refine' hK _ _ ⟨_,_,_,_,rfl,?_,?_,?_⟩
  .rw[dM,Zf hq];unfold MP MR;rw[Ò,Ò,Í,htt];rfl
  .rw[dL npd];exact h2
  .exact⟨λm e=>by rw[dL<|Zb e hp];exact h3.get m e⟩
 .rintro e g ⟨u,v,w,z,rfl,h1,h2,h3⟩;have hi1:=h3.get ⇑nbd hi;have cY:upd g d (.dct<|Zn hdV B.held) b=_:=upd_ne' nbd hi1;rw[He,ø]at h1;have h1':upd g d (.dct<|Zn hdV B.held) p=_:=upd_ne' npd.symm h1;have hx:Ext h<|upd g d<|.dct<|Zn hdV B.held:=⟨λ{c o} e=>by
    by_cases aq:c=d
    . subst aq;rw[dM,<-e];exact hd.symm
    . rw[dL aq];exact h3.get ⇑aq e⟩
  have aI:upd g d (.dct<|Zn hdV B.held) d=_:=dM;refine⟨h2,?_⟩;generalize upd g d (.dct<|Zn hdV B.held)=g2 at cY h1' hx aI ⊢;refine' EU h1' ?_ ?_ λg3 h3=>?_
  .intro r hr;unfold MP at hr;let⟨q,_,rfl⟩:=ã.mp hr;unfold MR;simp
  .unfold MP;rw[À];exact hn
  have hi3:=h3.get cY;have hd3:=h3.get aI;have kk:=k g3<|hx.trans h3;unfold YG at kk;fail;cases e:YW B.number (MP B.ties B.held)with
  |none =>rw[e]at kk;simp only[Fu];refine fe (λhc=>?_) λhc=>fI trivial hc;refine' kk
  |some m =>rw[e]at kk;have hm:=Nw e;unfold MP at hm;let⟨q,hq,rfl⟩:=ã.mp hm;refine fe (λhc=>(by simp[Fu,X7]at hc)) λhc=>?_;have hlk:∃y,B.held.lookup q.1=dF y:=ZR (û (f:=(·.1)) hq);let⟨y,hy⟩:=hlk;unfold MR at kk ⊢;simp only[Fu,X7,Í,ŵ];refine' Z9 hd3 rfl (by rw[Yo,hy];rfl) ?_;fail;unfold FU at kk;simp only[List.getD_cons_succ,List.getD_cons_zero]at kk;rw[hy]at kk;exact kk
abbrev Gc(l:Lab):D:=.tup [.int l.root,.int l.cost,(match l.up with|none=>.non|some p=>.int p.1),(match l.up with|none=>.non|some p=>.tup [.int p.2.1,.int p.2.2])]
def O7(h:Hs)(l:Lab):dat h deep l.v=dF (Gc l):=by let⟨r,c,u⟩:=l;cases u<;>rfl
def LL(h:Hs)(l m:Lab):eqV h l.v m.v=dF (fJ (l=m)):=by
 unfold eqV;rw[O7,O7];show dF (D.eqv (Gc l)<|Gc m)=_;congr 1;let⟨r,c,u⟩:=l;let⟨r',c',u'⟩:=m;unfold Gc;cases u with
 |none=>cases u' with
  |none=>simp only[D.eqv,D.eqvs,ϙ];by_cases h1:r=r'<;>by_cases h2:c=c'<;>simp[h1,h2]
  |some q=>simp[D.eqv,D.eqvs]
 |some p=>cases u' with
  |none=>simp[D.eqv,D.eqvs]
  |some q =>let⟨p1,p2,p3⟩:=p;let⟨q1,q2,q3⟩:=q;simp only[D.eqv,D.eqvs,ϙ];by_cases h1:r=r'<;>by_cases h2:c=c'<;>by_cases h3:p1=q1<;>by_cases h4:p2=q2<;>by_cases h5:p3=q3<;>simp[h1,h2,h3,h4,h5]
abbrev taken(B:Br)(l:Lab):Br:=if l=B.label then B else {B with label:=l,version:=B.version+1}
variable {u:Val} {KB:Bool->Prop}
def Wo{v:Val}{c:Bool}(e:eqV h v u=dF c)(q:KB (!c)):go (d7 h .ne v u) KB:=dP (by show(eqV h v u).map _=_;rw[e];rfl) q
def JH{v:Val}{c:Bool}(e:eqV h v u=dF c)(q:KB c):go (d7 h .eq v u) KB:=dP e q
def Gm{l:Lab}(x:dX h b t d B)(k:∀g,dX g b t d (taken B l)->Ex [b] h g->Q .non g):wF P (n+1) "Bridge.take_label" [.ref b,l.v] h Q X:=by
 let⟨hi,ht,hd,ŝ⟩:=id x;refine XG ?_
 exists Wo (LL h l B.label)
 fail;unfold taken at k;refine OA (λhc=>?_) λhc=>?_
 .rw[fB hc]at k;refine' YB dM (show(8:Nat)<900 by decide) ?_;refine' k _ ⟨?_,?_,?_,ŝ⟩ ?_
  .rw[dN,dM];rfl
  .rw[dL x.nbt.symm,dL x.nbt.symm];exact ht
  .rw[dL x.nbd.symm,dL x.nbd.symm];exact hd
  .exact(Ex.upd<|by simp).trans (Ex.upd<|by simp)
 .rw[fA hc]at k;refine' k h x Ex.refl
def Pu(h:Hs)(r:Option Pi)(s:Pi):eqV h (oV r) (pV s)=dF (fJ (r=dF s)):=by
 let⟨s1,s2⟩:=s;cases r with
 |none =>show dF (D.eqv .non<|.tup [.int s1,.int s2])=_;simp[D.eqv]
 |some p =>let⟨p1,p2⟩:=p;show dF (D.eqv (.tup [.int p1,.int p2])<|.tup [.int s1,.int s2])=_;congr 1;simp only[D.eqv,D.eqvs,ϙ];by_cases h1:p1=s1<;>by_cases h2:p2=s2<;>simp[h1,h2]
abbrev JA(B:Br)(p:Int):Bool:=match B.held.lookup p with
 |none=>dJ
 |some q=>fJ (q.1.rests=dF (B.life,B.version))
def KO{p:Int}(x:dX h b t d B)(k:Q (.bl<|JA B p) h):wF P (n+2) "Bridge.is_rested_on" [.ref b,.int p] h Q X:=by
 let⟨hi,ht,hd,ŝ⟩:=id x;refine Xg ?_
 exists M1 x
 unfold JA at k;fail;cases e:B.held.lookup p with
 |none =>rw[e]at k;refine OA (λhc=>fI rfl hc) λhc=>?_;exact k
 |some q =>
  rw[e]at k;let⟨l,a⟩:=q;refine OA (λhc=>?_) (λhc=>by simp[hdO]at hc);simp only[hdO]
  exists XZ x
  refine JH (Pu h _ _) ?_;exact k
abbrev FG(u:Option<|Int×Pi)(p:Int):Bool:=match u with
 |none=>dJ
 |some q=>fJ (p=q.1)
abbrev J4(B:Br):Int:=match B.label.up with
 |none=>0
 |some q=>((B.held.lookup q.1).map (·.2)).getD 0+1
abbrev ZK(B:Br)(p:Int):L where
 num:=(B.life,B.count)
 st:=(B.life,B.version)
 root:=B.label.root
 cost:=B.label.cost
 age:=J4 B
 rests:=if FG B.label.up p then B.label.up.map (·.2)else dG
 agrees:=if FG B.label.up p then dG else if JA B p then dF (FU B.held p)else dG
def GX(h:Hs)(p:Int)(u:Option<|Int×Pi):eqV h (.int p) (upV u)=dF (FG u p):=by
 cases u with
 |none=>rfl
 |some q =>show dF (D.eqv (.int p)<|.int q.1)=_;rw[Ui];rfl
def FT{p:Int}(x:dX h b t d B)(hu:∀q,B.label.up=dF q->(B.held.lookup q.1).isSome=dI)(k:Q (ZK B p).v h):wF P (n+3) "Bridge.letter_over" [.ref b,.int p] h Q X:=by
 let⟨hi,ht,hd,ŝ⟩:=id x;refine Xj ?_;fail;have main:wSs (wF P<|n+2) #[.ite (.val<|.cmp .eq (.var 1)<|.var 4) #[.ret<|.bin .add (.var 7)<|.tup #[.var 5,.cst .non]] .nil,.ite (.val<|.meth "Bridge" "is_rested_on" (.var 0) #[.var 1]) #[.ret<|.bin .add (.var 7)<|.tup #[.cst .non,.idx (.idx (.idx (.fld (.var 0) "held_by_place")<|.var 1)<|.cst<|.int 0)<|.glob "STAMP"<|.int 1]] .nil,.ret<|.bin .add (.var 7)<|.tup #[.cst .non,.cst .non]]
   [dF<|.ref b,dF<|.int p,dF<|.int B.label.root,dF<|.int B.label.cost,dF<|upV B.label.up,dF<|rsV B.label.up,dF<|.int<|J4 B,dF<|.tup [pV (B.life,B.count),pV (B.life,B.version),.int B.label.root,.int B.label.cost,.int<|J4 B]] h (λ_ g=>Q .non g) Q (λ_ _=>False) (λ_ _=>False) λ_ c g=>X c g:=by
  exists JH (GX h p B.label.up)
  refine' ff (λhc=>?_) (λhc=>?_)
  .fail;unfold ZK at k;rw[hc]at k;cases e:B.label.up with
   |none=>rw[e]at hc;cases hc
   |some q=>rw[e]at k;exact k
  .exists KO x
   fail;unfold ZK at k;rw[hc]at k;refine ff (λhr=>?_) λhr=>?_
   .rw[hr]at k;unfold JA at hr;cases e:B.held.lookup p with
    |none=>rw[e]at hr;cases hr
    |some q =>let⟨l,a⟩:=q;refine' Z9 hd rfl (by rw[Yo,e];rfl) ?_;fail;unfold FU at k;rw[e]at k;exact k
   .rw[hr]at k;refine' k
 cases e:B.label.up with
 |none =>
  have ea:J4 B=0:=by unfold J4;rw[e]
  rw[e,ea]at main;refine fe (λhc=>?_) λhc=>fI rfl hc
  exists XZ x
  walk_at "w"
  repeat (first|exact main|(walk_at "py1";walk_at "w"))
 |some q =>
  let⟨y,hy⟩:=ò.mp<|hu q e;have ea:J4 B=y.2+1:=by unfold J4;rw[e];dsimp only;rw[hy];rfl
  rw[e,ea]at main;refine fe (λhc=>by cases hc) λhc=>?_;simp only[upV];refine' Z9 hd rfl (by rw[Yo,hy];rfl) ?_
  exists XZ x
  walk_at "w"
  repeat (first|exact main|(walk_at "py1";walk_at "w"))
def F9{q:Int×Pi}(hq:(YG B).up=dF q):(B.held.lookup q.1).isSome=dI:=by
 unfold YG at hq;split at hq
 .cases hq
 .rename_i m e;have hm:=Nw e;unfold MP at hm;let⟨y,hy,rfl⟩:=ã.mp hm;cases hq;let⟨v,hv⟩:=ZR (û (f:=(·.1)) hy);show(B.held.lookup y.1).isSome=dI;rw[hv];rfl
abbrev Br.grown(B:Br):Br:={B with held:=YH B.most B.held}
abbrev Br.told(B:Br):Br:=taken B.grown<|YG B.grown
abbrev Br.ticked(B:Br):Br:={B.told with count:=B.count+1}
abbrev Z3(B:Br):List Val:=(sortI (B.ties.map (·.1))).map λp=>.tup [.int p,(ZK B p).v]
def YZ(B:Br)(l:Lab):(taken B l).held=B.held/\(taken B l).ties=B.ties/\(taken B l).count=B.count/\(taken B l).label=l/\(taken B l).number=B.number/\(taken B l).life=B.life/\(taken B l).most=B.most:=by
 unfold taken;split
 .rename_i e;exact⟨rfl,rfl,rfl,e.symm,rfl,rfl,rfl⟩
 .exact⟨rfl,rfl,rfl,rfl,rfl,rfl,rfl⟩
structure Br.ok(B:Br):Prop where
 nd:(B.held.map (·.1)).Nodup
 sub:∀q∈B.held,(B.ties.lookup q.1).isSome=dI
 nt:(B.ties.map (·.1)).Nodup
 rg:∀q∈B.ties,0<=q.1/\q.1<16
def Br.ok.tlen(o:B.ok):B.ties.length<=16:=by
 have:=Yh (m:=16) o.nt λx hx=>by let⟨q,hq,rfl⟩:=ã.mp hx;exact o.rg q hq
 simpa using this
def Br.ok.hlen(o:B.ok):B.held.length<=16:=by
 have:=Yh (m:=16) o.nd λx hx=>by let⟨q,hq,rfl⟩:=ã.mp hx;let⟨v,hv⟩:=ò.mp<|o.sub q hq;exact o.rg _<|ZD hv
 simpa using this
def Br.ok.grown(o:B.ok):B.grown.ok where
 nd:=o.nd.sublist<|J5 _ _
 sub:=λq hq=>by let⟨a,ha⟩:=Ae hq;exact o.sub (q.1,(q.2.1,a)) ha
 nt:=o.nt
 rg:=o.rg
def Br.ok.told(o:B.ok):B.told.ok:=by
 let⟨h1,h2,_⟩:=YZ B.grown<|YG B.grown;have g:=o.grown;refine⟨?_,?_,?_,?_⟩
 .show((taken B.grown<|YG B.grown).held.map (·.1)).Nodup;rw[h1];exact g.nd
 .show ∀q∈(taken B.grown<|YG B.grown).held,((taken B.grown<|YG B.grown).ties.lookup q.1).isSome=dI;rw[h1,h2];exact g.sub
 .show((taken B.grown<|YG B.grown).ties.map (·.1)).Nodup;rw[h2];exact g.nt
 .show ∀q∈(taken B.grown<|YG B.grown).ties,_;rw[h2];exact g.rg
def Br.ok.ticked(o:B.ok):B.ticked.ok:=⟨o.told.nd,o.told.sub,o.told.nt,o.told.rg⟩
def Fe(x:dX h b t d B)(o:B.ok)(k:∀p d' g,h p=dG->h d'=dG->dX g b t d' B.ticked->g p=dF (.lst<|Z3 B.told)->Ex [b] h g->p≠d'->Q (.ref p) g):wF P (n+4) "Bridge.tick" [.ref b] h Q X:=by
 let⟨hi,ht,hd,ŝ⟩:=id x;have hlen:=o.hlen;refine Kw ?_;refine' E6 x o.nd (by lia) λd' g hd' x1 e1=>?_;let⟨hi1,ht1,hd1,hne1⟩:=id x1;have og:=o.grown;have x1':dX g b t d' B.grown:=x1;refine' Ah x1' og.sub (by have:=og.hlen;lia) λg2 e2=>?_;have x2:=x1'.ext e2;refine' Gm x2 λg3 x3 e3=>?_;let⟨hi3,ht3,hd3,hne3⟩:=id x3;let⟨c1,c2,c3,c4,c5,c6,c7⟩:=YZ B.grown<|YG B.grown;have hties:B.told.ties=B.ties:=c2;refine' Ov ht3 (DU _) ?_ (YA λp1 cb=>?_)
 .rw[À];have:=o.tlen;show B.told.ties.length<64;rw[hties];lia
 refine' ⟨?_,?_⟩
 .rw[À,sortI,Μ,À];have:=o.tlen;show B.told.ties.length<lim;rw[hties];exact Ñ this (by decide)
 have x4:=x3.ext (Ext.new (o:=.lst ((sortI ((taken B.grown<|YG B.grown).ties.map (·.1))).map Val.int)) cb);have up:∀q,(taken B.grown<|YG B.grown).label.up=dF q->((taken B.grown<|YG B.grown).held.lookup q.1).isSome=dI:=λq hq=>by rw[c4]at hq;rw[c1];exact F9 hq
 refine Z1 (λv=>match v with|.int i=>dF (.tup [.int i,(ZK B.told i).v])|_=>dG) (lsE dM) ?_ ?_
 .intro v hv K hK;let⟨i,hi,rfl⟩:=ã.mp hv;let⟨hi4,ht4,hd4,hne4⟩:=id x4;fail;rw[fA rfl];change wE _ _ [dF<|.int i,dF<|.ref b] _ _ _
  exists FT x4 up
  refine' hK
 .refine YA λp hp=>?_;have x5:=x4.ext<|Ext.new (o:=.lst<|Z3 B.told) hp;have e0:((sortI ((taken B.grown<|YG B.grown).ties.map (·.1))).map Val.int).filterMap (λv=>match v with|.int i=>dF (.tup [.int i,(ZK B.told i).v])|_=>dG)=Z3 B.told:=by
   rw[Ž];unfold Z3;exact congrFun (List.filterMap_eq_map (f:=λi:Int=>Val.tup [.int i,(ZK B.told i).v])) _
  rw[e0];let⟨hi5,ht5,hd5,hne5⟩:=id x5;fail;have c3':(taken B.grown<|YG B.grown).count=B.count:=c3;rw[c3'];have eg:Ex [b] h (upd g3 p1 (.lst ((sortI ((taken B.grown<|YG B.grown).ties.map (·.1))).map Val.int))):=((e1.trans<|.of e2).trans e3).trans<|.of<|Ext.new cb;have hpn:h p=dG:=eg.none (by rw[x4.ins];intro z;cases z) hp;have npb:b≠p:=Zb x4.ins hp;refine k p d' _ hpn hd' ⟨dM,?_,?_,x5.ne⟩ ?_ ?_ (Zb x4.held hp).symm
  .rw[dL x5.nbt.symm];exact x5.ties
  .rw[dL x5.nbd.symm];exact x5.held
  .rw[dL npb.symm];exact dM
  .exact(eg.trans<|.of<|Ext.new hp).trans (Ex.upd<|by simp)
abbrev Kd(S:Br)(p:Int)(l:L):Bool:=match S.held.lookup p with
 |none=>dI
 |some q=>eP [q.1.num.1,q.1.num.2] [l.num.1,l.num.2]
abbrev YC(S:Br)(p:Int)(l:L):Br:=if(S.ties.lookup p).isSome then(if Kd S p l then {S with held:=ZC S.held p (l,l.age)} else S)else S
abbrev Cf(S:Br)(p:Int):Br:={S with ties:=ZA S.ties p,held:=ZA S.held p}
abbrev upB(S:Br)(p:Int)(c:Int×Int):Br:=if(S.ties.lookup p).isSome then S else {S with ties:=ZC S.ties p c}
variable {q:Int}
def CL{k:Int}{v:α}:(kvs.lookup q).isSome=dI->((ZC kvs k v).lookup q).isSome=dI:=λh=>by
 let⟨x,hx⟩:=ò.mp h;have hm:q∈kvs.map (·.1):=û (f:=(·.1))<|ZD hx;have:q∈(ZC kvs k v).map (·.1):=by
  rw[JP];split
  .exact hm
  .exact Û _ hm
 let⟨y,hy⟩:=ZR this;rw[hy];rfl
def Br.ok.heard(o:S.ok){p:Int}{l:L}:(YC S p l).ok:=by
 unfold YC;split
 .rename_i h1;split
  .refine⟨WE o.nd _ _,λq hq=>?_,o.nt,o.rg⟩;rcases W7 hq with e|hq
   .rw[e];exact h1
   .exact o.sub q hq
  .exact o
 .exact o
def YO{k:Int}{q:Int×α}(h:q∈ZA kvs k):q∈kvs:=(NF kvs k).subset h
def Ab{k:Int}(h:(kvs.lookup q).isSome=dI)(n:q≠k):((ZA kvs k).lookup q).isSome=dI:=by
 let⟨x,hx⟩:=ò.mp h;have:q∈(ZA kvs k).map (·.1):=by refine ã.mpr ⟨(q,x),?_,rfl⟩;unfold ZA;exact Ĝ.mpr ⟨ZD hx,⇑n⟩
 let⟨y,hy⟩:=ZR this;rw[hy];rfl
def Br.ok.down(o:S.ok)(p:Int):(Cf S p).ok :=
 ⟨Y3 o.nd _,λq hq=>Ab (o.sub q<|YO hq)<|FR hq,Y3 o.nt _,λq hq=>o.rg q<|YO hq⟩
def Br.ok.up(o:S.ok){p:Int}{c:Int×Int}(h0:0<=p)(h1:p<16):(upB S p c).ok:=by
 unfold upB;split
 .exact o
 .refine⟨o.nd,λq hq=>CL<|o.sub q hq,WE o.nt _ _,λq hq=>?_⟩;rcases W7 hq with e|hq
  .rw[e];exact⟨h0,h1⟩
  .exact o.rg q hq
def Ew{p:Int}{l:L}(x:dX h b t d B)(o:B.ok)(k:∀g,dX g b t d (YC B p l)->Ex [d] h g->Q .non g):wF P (n+2) "Bridge.hear" [.ref b,.int p,l.v] h Q X:=by
 let⟨hi,ht,hd,ŝ⟩:=id x;have hlen:=o.hlen;refine Km ?_
 exists Ym ht rfl
 rw[Yb];fail;unfold YC at k;cases e:(B.ties.lookup p).isSome with
 |false =>rw[e]at k;refine fb rfl ?_;refine' k h x Ex.refl
 |true =>
  rw[e,fA rfl]at k;refine fc rfl ?_
  exists M1 x
  have put:(∀g,dX g b t d {B with held:=ZC B.held p (l,l.age)}->Ex [d] h g->Q .non g)->go (eU h (.ref d) (.int p)<|.tup [l.v,.int l.age]) λg=>Q .non g:=λk=>by refine YS hd ⟨rfl,by rw[Kv];exact Ñ hlen<|by decide⟩ ?_;rw[show Val.tup [l.v,.int l.age]=hdV (l,l.age) from rfl,Yg];exact k _ ⟨by rw[dL x.nbd];exact hi,by rw[dL ŝ];exact ht,dM,ŝ⟩ (Ex.upd<|by simp)
  fail;cases e2:B.held.lookup p with
  |none =>
   have et:Kd B p l=dI:=by unfold Kd;rw[e2]
   rw[et,fA rfl]at k;refine fe (λhc=>?_) λhc=>fI rfl hc;refine fb rfl ?_;refine' O8 (put k) λg q=>by fail;exact q
  |some q =>
   let⟨m,ag⟩:=q;have et:Kd B p l=eP [m.num.1,m.num.2] [l.num.1,l.num.2]:=by unfold Kd;rw[e2]
   rw[et]at k;refine fe (λhc=>by simp[hdO]at hc) λhc=>?_;simp only[hdO]
   exists F3
   exists HX (Wr [l.num.1,l.num.2]) (Wr [m.num.1,m.num.2])
   refine' ff (λhc=>?_) (λhc=>?_)
   .rw[fA hc]at k;refine' O8 (put k) λg q=>by fail;exact q
   .rw[fB<|by rw[hc];decide]at k;refine' k h x Ex.refl
def F2{p:Int}(x:dX h b t d B)(k:∀g,dX g b t d (Cf B p)->Ex [t,d] h g->Q .non g):wF P (n+1) "Bridge.down" [.ref b,.int p] h Q X:=by
 let⟨hi,ht,hd,ŝ⟩:=id x;refine Ko ?_
 exists UH ht rfl
 dsimp only;rw[Wk];have cY:upd h t (.dct<|Zn UY<|ZA B.ties p) b=_:=upd_ne' x.nbt hi;have aI:upd h t (.dct<|Zn UY<|ZA B.ties p) d=_:=upd_ne' ŝ.symm hd
 exists UH aI rfl
 dsimp only;rw[Wk];refine' k _ ⟨by rw[dL x.nbd];exact cY,by rw[dL ŝ];exact dM,dM,ŝ⟩ ((Ex.upd<|by simp).trans<|Ex.upd<|by simp)
def QU{p nb:Int}(x:dX h b t d B)(o:B.ok)(k:∀g,dX g b t d (upB B p (nb,c))->Ex [t] h g->Q .non g):wF P (n+1) "Bridge.up" [.ref b,.int p,.int nb,.int c] h Q X:=by
 let⟨hi,ht,hd,ŝ⟩:=id x;have hlen:=o.tlen;refine NL ?_
 exists Ym ht rfl
 rw[Yb];fail;unfold upB at k;cases e:(B.ties.lookup p).isSome with
 |true =>rw[e,fA rfl]at k;refine fc rfl ?_;refine' k h x Ex.refl
 |false =>rw[e,fB<|by decide]at k;refine fb rfl ?_;refine' YS ht ⟨rfl,by rw[Kv];exact Ñ hlen<|by decide⟩ ?_;rw[show Val.tup [.int nb,.int c]=UY (nb,c) from rfl,Yg];refine' k _ ⟨by rw[dL x.nbt];exact hi,dM,by rw[dL ŝ.symm];exact hd,ŝ⟩ (Ex.upd<|by simp)
def RK(h:Hs)(s:Pi)(u:Option<|Int×Pi):eqV h (pV s) (rsV u)=dF (fJ (u.map (·.2)=dF s)):=by
 let⟨s1,s2⟩:=s;cases u with
 |none =>show dF (D.eqv (.tup [.int s1,.int s2]) .non)=_;simp[D.eqv]
 |some p =>
  let⟨p0,p1,p2⟩:=p;show dF (D.eqv (.tup [.int s1,.int s2])<|.tup [.int p1,.int p2])=_;congr 1;simp only[D.eqv,D.eqvs,ϙ,Ĵ];by_cases h1:s1=p1
  .subst h1;by_cases h2:s2=p2
   .subst h2;simp
   .have h3:¬ p2=s2:=λz=>h2 z.symm;simp[h2,h3]
  .have h3:¬ p1=s1:=λz=>h1 z.symm;simp[h1,h3]
abbrev Ou(B:Br)(p:Int):Bool:=match B.held.lookup p with
 |none=>dJ
 |some q=>if q.1.agrees=dF (B.life,B.version)then fJ (B.label.up.map (·.2)=dF q.1.st)else dJ
def AH{p:Int}(x:dX h b t d B)(k:Q (.bl<|Ou B p) h):wF P (n+2) "Bridge.is_agreed_to" [.ref b,.int p] h Q X:=by
 let⟨hi,ht,hd,ŝ⟩:=id x;refine Xi ?_
 exists M1 x
 unfold Ou at k;fail;cases e:B.held.lookup p with
 |none =>rw[e]at k;refine fe (λhc=>?_) λhc=>fI rfl hc;refine fb rfl ?_;refine' k
 |some q =>
  rw[e]at k;let⟨l,a⟩:=q;refine fe (λhc=>by simp[hdO]at hc) λhc=>?_;simp only[hdO]
  exists XZ x
  refine Wo (Pu h _ _) ?_;refine' OA (λhc=>?_) (λhc=>?_)
  .fail;rw[show(match dF (l,a)with|none=>dJ|some q=>if q.1.agrees=dF (B.life,B.version)then fJ (B.label.up.map (·.2)=dF q.1.st)else dJ)=dJ from fB hc]at k;exact k
  .fail;rw[show(match dF (l,a)with|none=>dJ|some q=>if q.1.agrees=dF (B.life,B.version)then fJ (B.label.up.map (·.2)=dF q.1.st)else dJ)=fJ (B.label.up.map (·.2)=dF l.st) from fA hc]at k;refine JH (RK h _ _) ?_;exact k
abbrev Cl(B:Br)(p:Int):String:=if(B.ties.lookup p).isSome then(if FG B.label.up p then(if Ou B p then "child" else "shut")else if JA B p then "parent" else "shut")else "down"
def LY{p:Int}(x:dX h b t d B)(k:Q (.str<|Cl B p) h):wF P (n+3) "Bridge.end" [.ref b,.int p] h Q X:=by
 let⟨hi,ht,hd,ŝ⟩:=id x;refine Mn ?_
 exists Ym ht rfl
 rw[Yb];fail;unfold Cl at k;cases e:(B.ties.lookup p).isSome with
 |false =>rw[e]at k;refine fb rfl ?_;refine' k
 |true =>
  rw[e,fA rfl]at k;refine fc rfl ?_
  exists JH (GX h p B.label.up)
  refine' ff (λhc=>?_) (λhc=>?_)
  .rw[hc,fA rfl]at k
   exists AH x
   refine' ff (λhc=>?_) (λhc=>?_)
   .rw[hc]at k;refine' k
   .rw[hc]at k;refine' k
  .rw[hc,fB<|by decide]at k
   exists KO x
   refine' ff (λhc=>?_) (λhc=>?_)
   .rw[hc]at k;refine' k
   .rw[hc]at k;refine' k
def Za(q:∀p g,h p=dG->Ext h g->g p=dF o->Q (.ref p) g):new h o Q:=YA λp hp=>q p _ hp (Ext.new hp) dM
variable {r:Int}
def YE(r0:0<=r)(e:xs[r.toNat]?=dF x):atI xs r=dF x:=by have:=(Ð.mp e).1;unfold atI ixN;rw[fA r0,fA<|by lia];exact e
def Bj(r0:0<=r)(r1:r<xs.length):∃x,xs[r.toNat]?=dF x/\x∈xs:=by
 have h:r.toNat<xs.length:=by lia
 exact⟨xs[r.toNat],É h,Ī h⟩
def Mo(r0:0<=r)(r1:r<xs.length):∃x,atI xs r=dF x/\x∈xs:=by let⟨x,h1,h2⟩:=Bj r0 r1;exact⟨x,YE r0 h1,h2⟩
def Xq:∀ns:List Int,dR (ns.map .int)=dF ns
 |[]=>rfl
 |n::ns=>by rw[Í,dR,Xq ns];rfl
def Yp:∀bs:List Bool,blsOf (bs.map .bl)=dF bs
 |[]=>rfl
 |b::bs=>by rw[Í,blsOf,Yp bs];rfl
def mem_dedup{x:Int}:∀{ns:List Int},x∈dedup ns↔x∈ns
 |[]=>by simp[dedup]
 |n::ns=>by rw[dedup,Æ,Ĝ,mem_dedup,Æ];by_cases h:x=n<;>simp[h]
def ND:∀(ns:List Int),(dedup ns).length<=ns.length
 |[]=>by simp[dedup]
 |n::ns=>by have:=ND ns;have:=đ (λy=>y != n)<|dedup ns;rw[dedup,Ç,Ç];lia
variable {m:Int}
def Yx{v:Val}(h:(eL 0 m)[i]?=dF v):v=.int i/\(i:Int)<m:=by unfold eL at h;rw[Ó]at h;let⟨k,hk,rfl⟩:=Ï.mp h;let⟨Ω,rfl⟩:=Ð.mp hk;rw[Ĩ]at Ω;rw[cU];exact⟨by rw[Int.zero_add],by lia⟩
def ZS:(eL 0 m).length=m.toNat:=by unfold eL;rw[À,Ĩ,Int.sub_zero]
abbrev Brs(ns:List Int):Prop:=∀i∈ns,0<=i/\i<1000
noncomputable abbrev Tie:=Int×Int×Int
abbrev trV(t:Tie):Val:=.tup [.int t.1,.int t.2.1,.int t.2.2]
abbrev LOk(ns:List Int)(t:Tie):Prop:=t.1∈ns/\t.2.1∈ns/\t.1<t.2.1/\1<=t.2.2/\t.2.2<=1000
structure d9(bs:List Int)(ts:List Tie):Prop where
 one:1<=bs.length
 ten:bs.length<=10
 rng:Brs bs
 up:bs.Pairwise (· < ·)
 sixteen:ts.length<=16
 tie:∀t∈ts,LOk bs t
abbrev Yr(bs:List Int)(ts:List Tie):Val:=.tup [.tup<|bs.map .int,.tup<|ts.map trV]
variable {ns:List Int}
def mem_sort{i:Int}:i∈sortI ns↔i∈ns:=(Ŀ ns _).mem_iff
def Fg(nd:ns.Nodup):(sortI ns).Pairwise (· < ·):=by have p:=Ŀ ns λa b=>fJ (a<=b);have s:(sortI ns).Pairwise λa b=>fJ (a<=b)=dI:=bo (λa b c h1 h2=>by simp at *;lia) (λa b=>by simp;lia) ns;have d:(sortI ns).Nodup:=p.nodup_iff.mpr nd;exact(s.and d).imp λ⟨h1,h2⟩=>by simp at h1;lia
def JY{h:Hs}{d:Nat}:∀ns:List Int,(ns.map Val.int).mapM (dat h d)=dF (ns.map D.int)
 |[]=>rfl
 |n::ns=>by rw[Í,ž,JY ns,Í];cases d<;>rfl
def Uz{i:Int}:∀ns:List Int,((ns.map D.int).any λe=>D.eqv e<|.int i)=fJ (i∈ns)
 |[]=>by simp
 |n::ns=>by
  rw[Í,ĥ,Uz ns,Ui];by_cases h:n=i
  .simp[h]
  .simp[h,Ne.symm h]
def W3{i:Int}:inL h (.int i) (ns.map .int)=dF (fJ (i∈ns)):=by unfold inL;rw[JY];exact congrArg dF (Uz ns)
def MO(x:Ext h g)(e:h p=dG):Ext h<|upd g p o:=⟨λ{a u} z=>by rw[dL<|Zb z e];exact x.get z⟩
abbrev far(t:Tie)(b:Int):Int:=if t.1=b then t.2.1 else t.1
abbrev fq(b:Int):Nat->List Tie->List Tie
 |_,[]=>[]
 |k,t::r=>if b=t.1\/b=t.2.1 then((k:Int),far t b,t.2.2)::fq b (k+1) r else fq b (k+1) r
def Ni{b:Int}{t:Tie}:∀{l:List Tie}{k:Nat},fq b k (l++[t])=fq b k l++(if b=t.1\/b=t.2.1 then [(((k+l.length:Nat):Int),far t b,t.2.2)]else [])
 |[],k=>by show fq b k [t]=_;unfold fq;split<;>rfl
 |u::l,k=>by
  rw[ϴ,fq,fq,Ni,Ç,show k+1+l.length=k+(l.length+1) by lia];by_cases h:b=u.1\/b=u.2.1
  .rw[fA h,fA h,ϴ]
  .rw[fB h,fB h]
def WW:∀{xs:List Val}{k i:Nat}{v:Val},(enumL k xs)[i]?=dF v->∃x,xs[i]?=dF x/\v=.tup [.int ((k+i:Nat):Int),x]
 |[],_,_,_,e=>by simp[enumL]at e
 |x::xs,k,0,v,e=>by have e:dF (Val.tup [.int k,x])=dF v:=e;cases e;exact⟨x,rfl,rfl⟩
 |x::xs,k,i+1,v,e=>by let⟨y,h1,h2⟩:=WW (xs:=xs) (k:=k+1) (i:=i) (v:=v) (by simpa[enumL]using e);exact⟨y,⇑h1,by rw[h2,show k+1+i=k+(i+1) by lia]⟩
def Ws:∀(xs:List Val) (k:Nat),(enumL k xs).length=xs.length
 |[],_=>rfl
 |_::xs,k=>by simp[enumL,Ws xs<|k+1]
def NX{i:Int}(q:KB<|fJ (i∈ns)):go (d7 h .isin (.int i)<|.tup<|ns.map .int) KB:=dP (by show inV h (.int i) (.tup _)=_;unfold inV;exact W3) q
def A8{i:Int}(q:KB (!fJ (i∈ns))):go (d7 h .notin (.int i)<|.tup<|ns.map .int) KB:=dP (by show(inV h (.int i)<|.tup _).map _=_;unfold inV;simp only[W3];rfl) q
section
variable {bs:List Int}{ts:List Tie}
def BX{t:Tie}{b:Int}(k:Q (.int<|far t b) h):wF P (n+1) "far_end" [trV t,.int b] h Q X:=by
 let⟨x,y,c⟩:=t;unfold trV;unfold far at k;dsimp only at k ⊢;refine AG ?_;fail;by_cases e:x=b
 .refine fb (fG e) ?_;rw[fA e]at k;refine' k
 .refine fc (fE e) ?_;rw[fB e]at k;refine' k
def XI{b:Int}(l:ts.length<=16)(k:∀p g,h p=dG->Ext h g->g p=dF (.lst<|(fq b 0 ts).map trV)->Q (.ref p) g):wF P (n+2) "neighbours" [Yr bs ts,.int b] h Q X:=by
 unfold Yr;refine Mb ?_;refine' Za λp g0 hp x0 e0=>?_
 exists dP rfl
 have nl:∀l:List Tie,∀k,(fq b k l).length<=l.length:=by
  intro l;induction l with
  |nil=>intro k;exact Ì _
  |cons t l ih =>intro k;have:=ih<|k+1;unfold fq;split<;>simp only[Ç]<;>lia
 refine Zp (λi en g=>Sm2 λv3 v4=>Cj3 (en=[dF<|.tup [.tup<|bs.map .int,.tup<|ts.map trV],dF<|.int b,dF<|.ref p,v3,v4]) (Ext h g)<|g p=dF (.lst<|(fq b 0<|ts.take i).map trV)) ⟨_,_,rfl,x0,e0⟩ (λ_ _ _ _ _=>trivial) ?_ ?_
 .rintro i v en g hv ⟨v3,v4,rfl,x,ep⟩ K hK;let⟨y,hy,rfl⟩:=WW hv;rw[Ó]at hy;let⟨t,ht,rfl⟩:=Ï.mp hy;have hi:i<ts.length:=(Ð.mp ht).1;have hn:fq b 0 (ts.take<|i+1)=fq b 0 (ts.take i)++(if b=t.1\/b=t.2.1 then [((i:Int),far t b,t.2.2)]else []):=by
   rw[Ŋ,ht];have:=Ni (b:=b) (t:=t) (l:=ts.take i) (k:=0);rw[õ,Nat.min_eq_left (by lia),Ţ]at this;exact this
  rw[Ţ];have et:trV t=.tup [.int t.1,.int t.2.1,.int t.2.2]:=rfl;fail;rw[et];refine eZ (by simp[eN]) ?_;refine NX (ns:=[t.1,t.2.1]) ?_;refine' fe (λhc=>?_) (λhc=>?_)
  .exists BX (t:=t)
   fail;have hl:=nl (ts.take i) 0;rw[õ]at hl;refine Zy ep (by rw[À,lim];lia) ?_;refine' hK _ _ ⟨_,_,rfl,?_,?_⟩
   .exact MO x hp
   .have hc:b=t.1\/b=t.2.1:=⇑hc
    rw[hn,fA hc,Ò];exact dM
  .refine' hK _ _ ⟨_,_,rfl,x,?_⟩;have hc:¬ (b=t.1\/b=t.2.1):=⇑hc
   rw[hn,fB hc,ó];exact ep
 .rintro en g ⟨v3,v4,rfl,x,ep⟩;rw[Ws,À,ø]at ep;refine' k p g hp x ep
end
abbrev WJ(rs:List Tie):List<|Int×(Int×Int):=rs.map λr=>(r.1,r.2)
def Uy(rs:List Tie):(WJ rs).map (·.1)=rs.map (·.1):=by unfold WJ;rw[ú];rfl
abbrev Z7(own life most:Int)(rs:List Tie):Br:=⟨own,life,most,WJ rs,[],⟨own,0,dG⟩,0,0⟩
variable {own:Int} {life:Int}
def Up{rs:List Tie}(hb:h b=dF (.ins "Bridge" []))(hl:h l=dF (.lst<|rs.map trV))(nd:(rs.map (·.1)).Nodup)(h16:rs.length<=16)
  (k:∀t d g,h t=dG->h d=dG->dX g b t d (Z7 own life most rs)->Ex [b] h g->Q .non g):wF P (n+1) "Bridge.__init__" [.ref b,.int own,.int life,.ref l,.int most] h Q X:=by
 have nlb:b≠l:=B7 hb hl nofun;refine Kg ?_;refine' YB dM (show(1:Nat)<900 by decide) ?_;refine' YB dM (show(2:Nat)<900 by decide) ?_;fail;intro t ht;rw[dN,dN]at ht ⊢;have ntb:b≠t:=Zb dM ht;have nht:h t=dG:=by rw[dL ntb.symm]at ht;exact ht
 have ntl:l≠t:=Zb hl nht;refine' YB (upd_ne' ntb dM) (show(3:Nat)<900 by decide) ?_;fail;have hl1:∀{o1 o2 o3:Ob},upd (upd (upd h b o1) t o2) b o3 l=dF (.lst<|rs.map trV):=λ{_ _ _}=>by rw[dL nlb.symm,dL ntl,dL nlb.symm];exact hl
 refine Zp (λi e g=>Sm3 λu v w=>Cj4 (e=[dF<|.ref b,dF<|.int own,dF<|.int life,dF<|.ref l,dF<|.int most,u,v,w]) (g b=dF (.ins "Bridge" [("number",.int own),("life",.int life),("age_let_go",.int most),("ties_by_place",.ref t)])) (g t=dF (.dct<|Zn UY<|WJ<|rs.take i))<|Ex [b] h g) ⟨dG,dG,dG,rfl,dM,by rw[dL ntb.symm];exact dM,?_⟩ ?_ ?_ ?_
 .refine⟨λ{a o} na e=>?_⟩;have nab:a≠b:=⇑na
  rw[dL nab,dL<|Zb e nht,dL nab];exact e
 .rintro i e g _ ⟨u,v,w,rfl,h1,h2,h3⟩;exact lsE (h3.get (by simpa using nlb.symm) hl)
 .rintro i v e g hv ⟨u,v,w,rfl,h1,h2,h3⟩ K hK;let⟨r,hp,rfl⟩:=ZO hv;have nk:=YV nd hp;let⟨p,nb,c⟩:=r;unfold trV;refine' YS (k:=.int p) h2 ⟨rfl,?_⟩ ?_
  .rw[Kv];unfold WJ;rw[À];exact Ñ (Ô (Χ _ _) h16) (by decide)
  rw[show Val.tup [.int nb,.int c]=UY (nb,c) from rfl,Yg];refine' hK _ _ ⟨_,_,_,rfl,by rw[dL ntb];exact h1,?_,?_⟩
  .rw[dM,Wc,Zf hp]
   .unfold WJ;rw[Ò];rfl
   .rw[Uy];exact nk
  .exact⟨λna e=>by rw[dL<|Zb e nht];exact h3.get na e⟩
 .rintro e g ⟨u,v,w,rfl,h1,h2,h3⟩;rw[À,ø]at h2;fail;intro d hd;have ndb:b≠d:=Zb h1 hd;have ndt:t≠d:=Zb h2 hd;have nhd:h d=dG:=h3.none (by rw[h1];intro z;cases z) hd;refine' YB dM (show(5:Nat)<900 by decide) ?_;refine' YB dM (show(6:Nat)<900 by decide) ?_;refine' YB dM (show(7:Nat)<900 by decide) ?_;fail;rw[dN,dN,dN];refine k t d _ nht nhd ⟨dM,?_,?_,ndt⟩ ?_
  .rw[dL ntb.symm,dL ndt];exact h2
  .rw[dL ndb.symm];exact dM
  .exact(h3.trans<|.of<|Ext.new hd).trans (Ex.upd<|by simp)
def J9{b:Int}:∀{l:List Tie}{k:Nat},((fq b k l).map (·.1)).Pairwise (· < ·)/\∀r∈fq b k l,(k:Int)<=r.1/\r.1<(k+l.length:Nat)
 |[],k=>⟨by simp[fq],λr hr=>fI hr<|by simp[fq]⟩
 |t::l,k=>by
  let⟨h1,h2⟩:=J9 (b:=b) (l:=l) (k:=k+1);unfold fq;split
  .refine⟨?_,λr hr=>?_⟩
   .rw[Í,List.pairwise_cons];refine⟨λx hx=>?_,h1⟩;let⟨r,hr,rfl⟩:=ã.mp hx;have:=(h2 r hr).1;show(k:Int)<r.1;lia
   .rcases Æ.mp hr with rfl|hr
    .exact⟨Int.le_refl _,by show(k:Int)<((k+(t::l).length:Nat):Int);rw[Ç];lia⟩
    .have:=h2 r hr;rw[Ç];lia
  .refine⟨h1,λr hr=>?_⟩;have:=h2 r hr;rw[Ç];lia
def UI{b:Int}:∀{l:List Tie}{k:Nat},(fq b k l).length<=l.length
 |[],k=>Ì _
 |t::l,k=>by have:=UI (b:=b) (l:=l) (k:=k+1);unfold fq;split<;>simp only[Ç]<;>lia
structure En where
 num:Int
 b:Ad
 t:Ad
 d:Ad
 B:Br
structure Yd where
 y:Ad
 lv:Ad
 st:Ad
 fl:Ad
 rd:Ad
 bs:List Int
 ts:List Tie
 most:Int
 lives:List<|Int×Int
 es:List En
 fallen:List<|Int×Bool
 road:List<|Int×Int×Int×L
abbrev enA(es:List En):List Ad:=es.flatMap λe=>[e.b,e.t,e.d]
abbrev Yd.adr(Y:Yd):List Ad:=[Y.y,Y.lv,Y.st,Y.fl,Y.rd]++enA Y.es
noncomputable abbrev rfV(a:Ad):Val:=.ref a
noncomputable abbrev rdV(r:Int×Int×Int×L):Val:=.tup [.int r.1,.int r.2.1,.int r.2.2.1,r.2.2.2.v]
abbrev stands(es:List En):List<|Int×Ad:=es.map λe=>(e.num,e.b)
def ZM(es:List En):(stands es).map (·.1)=es.map (·.num):=by unfold stands;rw[ú];rfl
structure dY(h:Hs)(Y:Yd):Prop where
 ins:h Y.y=dF (.ins "Yard" [("net_made_of",Yr Y.bs Y.ts),("greatest_age",.int Y.most),("lives",.ref Y.lv),("standing",.ref Y.st),("ties_fallen",.ref Y.fl),("letters_on_road",.ref Y.rd)])
 lives:h Y.lv=dF (.dct<|Zn Val.int Y.lives)
 stand:h Y.st=dF (.dct<|Zn rfV<|stands Y.es)
 fallen:h Y.fl=dF (.dct<|Zn Val.bl Y.fallen)
 road:h Y.rd=dF (.lst<|Y.road.map rdV)
 brs:∀e∈Y.es,dX h e.b e.t e.d e.B
 nd:Y.adr.Nodup
 key:(Y.es.map (·.num)).Nodup
variable {es:List En} {e:En}
def Wz(h:e∈es):e.b∈enA es/\e.t∈enA es/\e.d∈enA es:=by refine⟨?_,?_,?_⟩<;>exact Ő.mpr ⟨e,h,by simp⟩
def XY(es:List En)(e:En):enA (es++[e])=enA es++[e.b,e.t,e.d]:=by unfold enA;rw[cH];simp
variable {Y:Yd}
def dY.keep{S:List Ad}(x:dY h Y)(e:Ex S h g)(ds:∀a∈Y.adr,a∉S):dY g Y:=by have m:∀a∈[Y.y,Y.lv,Y.st,Y.fl,Y.rd],a∉S:=λa ha=>ds a<|Û _ ha;refine⟨e.get (m _<|by simp) x.ins,e.get (m _<|by simp) x.lives,e.get (m _<|by simp) x.stand,e.get (m _<|by simp) x.fallen,e.get (m _<|by simp) x.road,λb hb=>?_,x.nd,x.key⟩;let⟨q1,q2,q3⟩:=Wz hb;exact(x.brs b hb).keep e (ds _<|È _ q1) (ds _<|È _ q2) (ds _<|È _ q3)
def dY.ext(x:dY h Y)(e:Ext h g):dY g Y:=x.keep (S:=[]) (.of e) λ_ _=>by simp
def dY.taken(x:dY h Y)(ha:a∈Y.adr):h a≠dG:=by
 rcases â.mp ha with ha|ha
 .simp only[Æ,å,or_false]at ha;rcases ha with rfl|rfl|rfl|rfl|rfl
  .rw[x.ins];simp
  .rw[x.lives];simp
  .rw[x.stand];simp
  .rw[x.fallen];simp
  .rw[x.road];simp
 .obtain⟨e,he,ha⟩:=Ő.mp ha;have:=x.brs e he;simp only[Æ,å,or_false]at ha;rcases ha with rfl|rfl|rfl
  .rw[this.ins];simp
  .rw[this.ties];simp
  .rw[this.held];simp
def Yd.sep(nd:Y.adr.Nodup)(ha:a∈[Y.y,Y.lv,Y.st,Y.fl,Y.rd])(hb:b∈enA Y.es):b≠a:=λz=>(æ.mp nd).2.2 a ha b hb z.symm
def Yd.five(nd:Y.adr.Nodup):(Y.y≠Y.lv/\Y.y≠Y.st/\Y.y≠Y.fl/\Y.y≠Y.rd)/\(Y.lv≠Y.st/\Y.lv≠Y.fl/\Y.lv≠Y.rd)/\(Y.st≠Y.fl/\Y.st≠Y.rd)/\Y.fl≠Y.rd:=by have:=(æ.mp nd).1;simp only[Ć,Æ,å,or_false,not_or,not_false_eq_true,Ę,and_true]at this;let⟨⟨a1,a2,a3,a4⟩,⟨b1,b2,b3⟩,⟨c1,c2⟩,d1⟩:=this;exact⟨⟨a1,a2,a3,a4⟩,⟨b1,b2,b3⟩,⟨c1,c2⟩,d1⟩
def dX.off(x:dX h e.b e.t e.d e.B)(he:e∈es)(n:∀b∈enA es,b≠a):dX (upd h a o) e.b e.t e.d e.B:=by let⟨q1,q2,q3⟩:=Wz he;exact⟨(dL<|n _ q1).trans x.ins,(dL<|n _ q2).trans x.ties,(dL<|n _ q3).trans x.held,x.ne⟩
def dY.setLives(x:dY h Y)(l:List<|Int×Int):dY (upd h Y.lv<|.dct<|Zn Val.int l) {Y with lives:=l}:=by let⟨⟨a1,a2,a3,a4⟩,⟨b1,b2,b3⟩,_,_⟩:=Yd.five x.nd;exact⟨(dL a1).trans x.ins,dM,(dL b1.symm).trans x.stand,(dL b2.symm).trans x.fallen,(dL b3.symm).trans x.road,λe he=>(x.brs e he).off he λb hb=>Yd.sep x.nd (by simp) hb,x.nd,x.key⟩
def dY.setRoad(x:dY h Y)(l:List<|Int×Int×Int×L):dY (upd h Y.rd<|.lst<|l.map rdV) {Y with road:=l}:=by let⟨⟨a1,a2,a3,a4⟩,⟨b1,b2,b3⟩,⟨c1,c2⟩,d1⟩:=Yd.five x.nd;exact⟨(dL a4).trans x.ins,(dL b3).trans x.lives,(dL c2).trans x.stand,(dL d1).trans x.fallen,dM,λe he=>(x.brs e he).off he λb hb=>Yd.sep x.nd (by simp) hb,x.nd,x.key⟩
def dY.stands(x:dY h Y)(hb:dX h e.b e.t e.d e.B)(hn:e.num∉Y.es.map (·.num))(fr:∀a∈[e.b,e.t,e.d],a∉Y.adr):dY (upd h Y.st<|.dct<|Zn rfV<|stands<|Y.es++[e]) {Y with es:=Y.es++[e]}:=by
 let⟨⟨a1,a2,a3,a4⟩,⟨b1,b2,b3⟩,⟨c1,c2⟩,d1⟩:=Yd.five x.nd;have ł:Y.st∈Y.adr:=Û _ (by simp);have nb:∀a∈enA (Y.es++[e]),a≠Y.st:=λa ha=>by
  rw[XY]at ha;rcases â.mp ha with ha|ha
  .exact Yd.sep x.nd (by simp) ha
  .exact λz=>fr a ha<|z▸ł
 refine⟨(dL a2).trans x.ins,(dL b1).trans x.lives,dM,(dL c1.symm).trans x.fallen,(dL c2.symm).trans x.road,λq hq=>?_,?_,?_⟩
 .refine dX.off ?_ hq nb;rcases â.mp hq with hq|hq
  .exact x.brs q hq
  .rw[Ø.mp hq];exact hb
 .show([Y.y,Y.lv,Y.st,Y.fl,Y.rd]++enA (Y.es++[e])).Nodup;rw[XY,<-Đ,æ];refine⟨x.nd,?_,λa ha b hb z=>fr b hb<|z▸ha⟩;simp[hb.nbt,hb.nbd,hb.ne]
 .show((Y.es++[e]).map (·.num)).Nodup;rw[Ò,æ];refine⟨x.key,by simp,λa ha b hb=>?_⟩;have:b=e.num:=⇑hb
  rw[this];exact λz=>hn<|z▸ha
def WX{h0:Hs}{fs:List (String×Val)}{f:String}{K:Hs->Prop}(i:g p=dF (.ins "Yard" fs))(x:Ex [p] h0 g)(hp:h0 p=dG)(ha:g a=dG)(m:fs.length<900)(q:∀g',g' p=dF (.ins "Yard"<|d6 fs f<|.ref a)->g' a=dF o->Ex [p] h0 g'->Ex [p] g g'->p≠a->h0 a=dG->K g'):go (eW (upd g a o) (.ref p) f<|.ref a) K:=by
 have n:=Zb i ha;have y:Ex [p] g<|upd (upd g a o) p<|.ins "Yard"<|d6 fs f<|.ref a:=⟨λ{b u} nb e=>by rw[dL λz=>nb<|by simp[z],dL<|Zb e ha];exact e⟩
 refine YB (upd_ne' n i) m<|q _ dM ((dL n.symm).trans dM) (x.trans y) y n ?_;cases z:h0 a with
 |none=>rfl
 |some u=>rw[x.get (by simpa using n.symm) z]at ha;cases ha
structure YNew(bs:List Int)(ts:List Tie)(most:Int)(Y:Yd):Prop where
 hb:Y.bs=bs
 ht:Y.ts=ts
 hm:Y.most=most
 num:Y.es.map (·.num)=bs
 br:∀e∈Y.es,e.B=Z7 e.num 0 most (fq e.num 0 ts)
 fallen:Y.fallen=[]
 road:Y.road=[]
 lives:Y.lives=bs.map λb=>(b,0)
section
variable {bs:List Int}{ts:List Tie}
def D0(no:d9 bs ts)(hp:h p=dG)(k:∀Y g,Y.y=p->dY g Y->YNew bs ts most Y->(∀a∈Y.adr,h a=dG)->Ext h g->Q .non g):wF P (n+3) "Yard.__init__" [.ref p,Yr bs ts,.int most] (upd h p<|.ins "Yard" []) Q X:=by
 have h10:=no.ten;have h16:=no.sixteen;have hbl:(bs.map Val.int).length=bs.length:=À _;have ndb:bs.Nodup:=no.up.imp λh=>by lia
 refine M8 ?_;refine' YB dM (show(1:Nat)<900 by decide) ?_;rw[dN,dN];have i1:=dM (h:=h) (a:=p) (o:=Ob.ins "Yard"<|d6 (d6 [] "net_made_of"<|Yr bs ts) "greatest_age"<|.int most);have x1:Ex [p] h<|upd h p<|Ob.ins "Yard"<|d6 (d6 [] "net_made_of"<|Yr bs ts) "greatest_age"<|.int most:=Ex.upd (by simp);generalize upd h p (Ob.ins "Yard"<|d6 (d6 [] "net_made_of"<|Yr bs ts) "greatest_age"<|.int most)=g1 at i1 x1 ⊢;fail;intro lv hlv;refine' WX i1 x1 hp hlv (show(2:Nat)<900 by decide) λg2 i2 lv2 x2 y2 nlv flv=>?_;fail;intro st ł;refine' WX i2 x2 hp ł (show(3:Nat)<900 by decide) λg3 i3 st3 x3 y3 nst fst=>?_;fail;intro fl hfl;refine' WX i3 x3 hp hfl (show(4:Nat)<900 by decide) λg4 i4 fl4 x4 y4 nfl ffl=>?_;refine' YA λrd hrd=>?_;refine' WX i4 x4 hp hrd (show(5:Nat)<900 by decide) λg5 i5 rd5 x5 y5 nrd frd=>?_;have q1:lv≠st:=Zb lv2 ł;have lv3:=y3.get (by simpa using nlv.symm) lv2;have q2:lv≠fl:=Zb lv3 hfl;have q3:st≠fl:=Zb st3 hfl;have lv4:=y4.get (by simpa using nlv.symm) lv3;have st4:=y4.get (by simpa using nst.symm) st3;have q4:lv≠rd:=Zb lv4 hrd;have q5:st≠rd:=Zb st4 hrd;have q6:fl≠rd:=Zb fl4 hrd;have lv5:=y5.get (by simpa using nlv.symm) lv4;have st5:=y5.get (by simpa using nst.symm) st4;have fl5:=y5.get (by simpa using nfl.symm) fl4;have xe:Ext h g5:=⟨λ{a o} e=>x5.get (by simpa using Zb e hp) e⟩
 have Y0:dY g5 ⟨p,lv,st,fl,rd,bs,ts,most,[],[],[],[]⟩:=⟨i5,lv5,st5,fl5,rd5,(λe he=>fI he å),by
   show([p,lv,st,fl,rd]++[]).Nodup
   simp[nlv,nst,nfl,nrd,q1,q2,q3,q4,q5,q6],Ę⟩
 exists dQ (xs:=[.tup<|bs.map .int,.tup<|ts.map trV]) (v:=.tup<|bs.map .int) rfl
 refine' Zp (λi en g=>Sm3 λv3 lvs es=>Cj7 (en=[dF<|.ref p,dF<|Yr bs ts,dF<|.int most,v3]) (dY g ⟨p,lv,st,fl,rd,bs,ts,most,lvs,es,[],[]⟩) (lvs=(bs.take i).map (λb=>(b,0))) (es.map (·.num)=bs.take i) ((∀e∈es,e.B=Z7 e.num 0 most (fq e.num 0 ts))) ((∀a∈[p,lv,st,fl,rd]++enA es,h a=dG))<|Ext h g) ⟨_,[],[],rfl,Y0,rfl,rfl,(λe he=>fI he å),?_,xe⟩ (λ_ _ _ _ _=>trivial) ?_ ?_
 .intro a ha;simp only[enA,List.flatMap_nil,ó,Æ,å,or_false]at ha;rcases ha with rfl|rfl|rfl|rfl|rfl<;>assumption
 .rintro i v en g hv ⟨v3,lvs,es,rfl,Y,hlv,hnum,hbr,aK,x⟩ K hK;let⟨b,hb,rfl⟩:=ZO hv;have hi:i<bs.length:=(Ð.mp hb).1;have hnb:b∉es.map (·.num):=by
   rw[hnum];intro m;have:=YV (f:=id) (by rw[Ψ];exact ndb) hb;rw[Ψ]at this;exact this m
  have hll:lvs.length<=10:=by rw[hlv,À,õ];lia
  have hkl:b∉lvs.map (·.1):=by rw[hlv,ú,show((λq:Int×Int=>q.1) ∘ λb:Int=>(b,(0:Int)))=id from rfl,Ψ,<-hnum];exact hnb
  have hesl:es.length<=10:=by rw[<-À (f:=(·.num)) (as:=es),hnum,õ];lia
  let⟨yi,yl,ys,yf,yr,yb,ynd,yk⟩:=id Y;dsimp only at yi yl ys yf yr yb;refine' YS (k:=.int b) yl ⟨rfl,by rw[Kv];exact Ñ hll<|by decide⟩ ?_;rw[Yg (val:=Val.int)];have Y1:=Y.setLives<|ZC lvs b 0;have x1:Ext h<|upd g lv<|.dct<|Zn Val.int<|ZC lvs b 0:=⟨λe=>by rw[dL<|Zb e flv];exact x.get e⟩
  dsimp only at Y1;generalize upd g lv (.dct<|Zn Val.int<|ZC lvs b 0)=g6 at Y1 x1;let⟨zi,zl,zs,zf,zr,zb,znd,zk⟩:=id Y1;dsimp only at zi zl zs zf zr zb;refine' XI h16 λpn g7 hpn x7 en=>?_;have Y7:=Y1.ext x7;fail;intro q hq;have nr:=J9 (b:=b) (l:=ts) (k:=0);have nl:=UI (b:=b) (l:=ts) (k:=0);have xq:Ext g7<|upd g7 q<|.ins "Bridge" []:=Ext.new hq;have eq:(upd g7 q<|.ins "Bridge" []) q=dF (.ins "Bridge" []):=dM;refine Up (rs:=fq b 0 ts) eq (xq.get en) (nr.1.imp λz=>by lia) (by lia) λt d g8 ht hd ba x8=>?_;have x78:Ext g7 g8:=⟨λ{a o} e=>x8.get (by simpa using Zb e hq)<|xq.get e⟩
  have Y8:=Y7.ext x78;have ht7:g7 t=dG:=by cases z:g7 t with|none=>rfl|some o=>rw[xq.get z]at ht;cases ht
  have hd7:g7 d=dG:=by cases z:g7 d with|none=>rfl|some o=>rw[xq.get z]at hd;cases hd
  refine⟨rfl,?_⟩;let⟨wi,wl,ws,wf,wr,wb,wnd,wk⟩:=id Y8;dsimp only at wi wl ws wf wr wb;refine' YS (k:=.int b) ws ⟨rfl,by rw[Kv];unfold stands;rw[À];exact Ñ hesl<|by decide⟩ ?_;rw[Yg (val:=rfV),Wc _<|by rw[ZM];exact hnb];have ł:stands es++[(b,q)]=stands (es++[⟨b,q,t,d,Z7 b 0 most<|fq b 0 ts⟩]):=by unfold stands;rw[Ò];rfl
  rw[ł];have fr:∀a∈[q,t,d],g7 a=dG:=λa ha=>by simp only[Æ,å,or_false]at ha;rcases ha with rfl|rfl|rfl<;>assumption
  have Y9:=Y8.stands (e:=⟨b,q,t,d,Z7 b 0 most<|fq b 0 ts⟩) ba hnb λa ha z=>Y7.taken z<|fr a ha;fail;have x9:Ext h g8:=(x1.trans x7).trans x78;refine hK _ _ ⟨_,_,_,rfl,Y9,?_,?_,?_,?_,⟨λe=>by rw[dL<|Zb e fst];exact x9.get e⟩⟩
  .show ZC lvs b 0=_;rw[Wc _ hkl,hlv,Zf hb,Ò];rfl
  .rw[Ò,hnum,Ŋ,hb];rfl
  .intro e he;rcases â.mp he with he|he
   .exact hbr e he
   .rw[Ø.mp he]
  .intro a ha;rw[XY,<-Đ]at ha;rcases â.mp ha with ha|ha
   .exact aK a ha
   .cases z:h a with
    |none=>rfl
    |some o=>have:=fr a ha;rw[(x1.trans x7).get z]at this;cases this
 .rintro en g ⟨v3,lvs,es,rfl,Y,hlv,hnum,hbr,aK,x⟩;rw[hbl,ø]at hnum hlv;refine' k _ g rfl Y ⟨rfl,rfl,rfl,hnum,hbr,rfl,rfl,hlv⟩ aK x
end
abbrev LQ(ts:List Tie)(p num:Int):Int:=far (ts[p.toNat]?.getD (0,0,0)) num
abbrev Yz(ts:List Tie)(num:Int)(B:Br):List<|Int×Int×Int×L:=(sortI (B.ties.map (·.1))).map λp=>(num,LQ ts p num,p,ZK B p)
def Xr{num:Int}(h:(stands es).lookup num=dF b):∃e pre ĭ,es=pre++e::ĭ/\e.num=num/\e.b=b:=by have:=ZD h;unfold stands at this;let⟨e,he,z⟩:=ã.mp this;let⟨pre,ĭ,rfl⟩:=cV he;injection z with z1 z2;exact⟨e,pre,ĭ,rfl,z1,z2⟩
def YU(pre ĭ:List En)(e:En):enA (pre++e::ĭ)=enA pre++([e.b,e.t,e.d]++enA ĭ):=by unfold enA;rw[cH];rfl
variable {ĭ:List En}
def dY.change{pre:List En}(x:dY h Y)(he:Y.es=pre++e::ĭ)(ex:Ex [e.b] h g)(hb:dX g e.b t d B)(ft:t=e.t\/h t=dG)(fd:d=e.d\/h d=dG):dY g {Y with es:=pre++⟨e.num,e.b,t,d,B⟩::ĭ}:=by
 let⟨y,lv,st,fl,rd,bs,ts,most,lives,es,fallen,road⟩:=Y;dsimp only at he;subst he;have hm:e∈pre++e::ĭ:=by simp
 have heA:=Wz hm;have nb:∀a∈[y,lv,st,fl,rd],a∉[e.b]:=λa ha z=>Yd.sep x.nd ha heA.1 (Ø.mp z).symm;have nd0:([y,lv,st,fl,rd]++(enA pre++([e.b,e.t,e.d]++enA ĭ))).Nodup:=by rw[<-YU];exact x.nd
 have key:∀q∈pre++ĭ,dX g q.b q.t q.d q.B:=λq hq=>by
  have cW:q∈pre++e::ĭ:=by
   rcases â.mp hq with z|z
   .exact Û _ z
   .exact È _<|à _ z
  have nq:∀a∈[q.b,q.t,q.d],a≠e.b:=λa ha z=>by
   have n1:=(æ.mp nd0).2.1;rcases â.mp hq with hq|hq
   .have ha':a∈enA pre:=Ő.mpr ⟨q,hq,ha⟩;exact(æ.mp n1).2.2 a ha' e.b (by simp) z
   .have ha':a∈enA ĭ:=Ő.mpr ⟨q,hq,ha⟩;have n2:=(æ.mp n1).2.1;exact(æ.mp n2).2.2 e.b (by simp) a ha' z.symm
  exact(x.brs q cW).keep ex (by simpa using nq _ (by simp)) (by simpa using nq _ (by simp)) (by simpa using nq _ (by simp))
 have tk:∀a∈[y,lv,st,fl,rd]++(enA pre++([e.b,e.t,e.d]++enA ĭ)),h a≠dG:=λa ha=>x.taken (by show a∈[y,lv,st,fl,rd]++enA (pre++e::ĭ);rw[YU];exact ha);have fr:∀{a c:Ad},(a=c\/h a=dG)->∀z,z∈[y,lv,st,fl,rd]++(enA pre++([e.b,e.t,e.d]++enA ĭ))->z≠c->z≠a:=λf z hz nc e=>by
  subst e;rcases f with f|f
  .exact nc f
  .exact tk z hz f
 refine⟨ex.get (nb _<|by simp) x.ins,ex.get (nb _<|by simp) x.lives,?_,ex.get (nb _<|by simp) x.fallen,ex.get (nb _<|by simp) x.road,λq hq=>?_,?_,?_⟩
 .have:=ex.get (nb st<|by simp) x.stand;dsimp only at this ⊢;rw[this];unfold fz.stands;simp
 .dsimp only at hq;rcases â.mp hq with z|z
  .exact key q<|Û _ z
  .rcases Æ.mp z with rfl|z
   .exact hb
   .exact key q<|È _ z
 .show([y,lv,st,fl,rd]++enA (pre++⟨e.num,e.b,t,d,B⟩::ĭ)).Nodup;rw[YU];dsimp only;have n1:=æ.mp nd0;have n2:=æ.mp n1.2.1;have n3:=æ.mp n2.2.1;have e3:e.b≠e.t/\e.b≠e.d/\e.t≠e.d:=by
   have:=n3.1;simp only[Ć,Æ,å,or_false,not_or,Ę,and_true,not_false_eq_true]at this;exact⟨this.1.1,this.1.2,this.2⟩
  have out:∀z,z∈[y,lv,st,fl,rd]\/z∈enA pre\/z∈enA ĭ->z∉[e.b,t,d]:=λz hz m=>by
   have hza:z∈[y,lv,st,fl,rd]++(enA pre++([e.b,e.t,e.d]++enA ĭ)):=by
    rcases hz with q|q|q
    .exact Û _ q
    .exact È _<|Û _ q
    .exact È _<|È _<|È _ q
   have nz:∀c∈[e.b,e.t,e.d],z≠c:=λc hc w=>by
    rcases hz with q|q|q
    .exact n1.2.2 z q c (È _<|Û _ hc) w
    .exact n2.2.2 z q c (Û _ hc) w
    .exact n3.2.2 c hc z q w.symm
   simp only[Æ,å,or_false]at m;rcases m with m|m|m
   .exact nz e.b (by simp) m
   .exact fr ft z hza (nz e.t<|by simp) m
   .exact fr fd z hza (nz e.d<|by simp) m
  refine æ.mpr ⟨n1.1,æ.mpr ⟨n2.1,æ.mpr ⟨?_,n3.2.1,λa ha b hb z=>out b (.inr<|.inr hb)<|z▸ha⟩,λa ha b hb z=>?_⟩,λa ha b hb z=>?_⟩
  .simp[hb.nbt,hb.nbd,hb.ne]
  .rcases â.mp hb with q|q
   .exact out a (.inr<|.inl ha)<|z▸q
   .exact n2.2.2 a ha b (È _ q) z
  .rcases â.mp hb with q|q
   .exact n1.2.2 a ha b (Û _ q) z
   .rcases â.mp q with q|q
    .exact out a (.inl ha)<|z▸q
    .exact n1.2.2 a ha b (È _<|È _ q) z
 .have:=x.key;simpa using this
def dY.inner{pre:List En}(x:dY h Y)(he:Y.es=pre++e::ĭ)(ex:Ex [e.b,e.t,e.d] h g)(hb:dX g e.b e.t e.d B):dY g {Y with es:=pre ++ {e with B:=B} :: ĭ}:=by
 let⟨y,lv,st,fl,rd,bs,ts,most,lives,es,fallen,road⟩:=Y;dsimp only at he;subst he;have nd0:([y,lv,st,fl,rd]++(enA pre++([e.b,e.t,e.d]++enA ĭ))).Nodup:=by rw[<-YU];exact x.nd
 have n1:=æ.mp nd0;have n2:=æ.mp n1.2.1;have n3:=æ.mp n2.2.1;have nb:∀a∈[y,lv,st,fl,rd],a∉[e.b,e.t,e.d]:=λa ha z=>n1.2.2 a ha a (È _<|Û _ z) rfl;have key:∀q,q∈pre\/q∈ĭ->dX g q.b q.t q.d q.B:=λq hq=>by
  have cW:q∈pre++e::ĭ:=by
   rcases hq with z|z
   .exact Û _ z
   .exact È _<|à _ z
  have nq:∀a∈[q.b,q.t,q.d],a∉[e.b,e.t,e.d]:=λa ha z=>by
   rcases hq with hq|hq
   .exact n2.2.2 a (Ő.mpr ⟨q,hq,ha⟩) a (Û _ z) rfl
   .exact n3.2.2 a z a (Ő.mpr ⟨q,hq,ha⟩) rfl
  exact(x.brs q cW).keep ex (nq _<|by simp) (nq _<|by simp) (nq _<|by simp)
 refine⟨ex.get (nb _<|by simp) x.ins,ex.get (nb _<|by simp) x.lives,?_,ex.get (nb _<|by simp) x.fallen,ex.get (nb _<|by simp) x.road,λq hq=>?_,?_,?_⟩
 .have:=ex.get (nb st<|by simp) x.stand;dsimp only at this ⊢;rw[this];unfold fz.stands;simp
 .dsimp only at hq;rcases â.mp hq with z|z
  .exact key q<|.inl z
  .rcases Æ.mp z with rfl|z
   .exact hb
   .exact key q<|.inr z
 .show([y,lv,st,fl,rd]++enA (pre ++ {e with B:=B} :: ĭ)).Nodup;rw[YU];exact nd0
 .have:=x.key;dsimp only at this ⊢;simpa using this
def Ld{xs:List Val}{v:Val}{p:Nat}{K:Val×Hs->Prop}(e1:h a=dF (.lst xs))(e:xs[p]?=dF v)(m:xs.length<=500000)(q:K (v,upd h a<|.lst<|xs.eraseIdx p)):go (bmV h .popAt (.ref a) [.int p]) K:=by
 have hp:p<xs.length:=(Ð.mp e).1;have h1:-(2 ^ 62)<(p:Int)/\(p:Int)<2 ^ 62:=by
  have:(p:Int)<500000:=by lia
  exact⟨Int.lt_of_lt_of_le (by decide:(-(2 ^ 62):Int)<0)<|į p,Int.lt_trans this<|by decide⟩
 have h2:ixN xs.length (p:Int)=dF p:=by unfold ixN;rw[fA<|į p,fA (by lia),ä]
 have h3:bmPopAt h [.int p] a xs=dF (v,upd h a<|.lst<|xs.eraseIdx p):=by unfold bmPopAt;dsimp only;rw[fA h1,h2];simp only[ï,e,Ĵ]
 exact dP (by show(dZ<|h a).bind (bmPopAt h [.int p] a)=_;rw[lsE e1,ï];exact h3) q
def KU{α β:Type}(f:α->β):∀(l:List α) (i:Nat),(l.map f).eraseIdx i=(l.eraseIdx i).map f
 |[],_=>by simp
 |_::_,0=>by simp
 |x::l,i+1=>by simp[KU f l i]
section
variable {Y:Yd}{p:Nat}
variable {r:Int×Int×Int×L}
def XS(x:dY h Y)(hr:Y.road[p]?=dF r)(hl:Y.road.length<=500000)(k:∀g,dY g {Y with road:=Y.road.eraseIdx p}->Ex [Y.rd] h g->Q (rdV r) g):wF P (n+1) "Yard.take_off" [.ref Y.y,.int p] h Q X:=by have xi:=x.ins;have xr:=x.road;have hp:p<Y.road.length:=(Ð.mp hr).1;have hrl:(Y.road.map rdV).length=Y.road.length:=À _;refine Xf ?_;fail;refine fb (by simp) ?_;fail;refine fc (by rw[hrl];simpa using hp) ?_;refine' Ld xr (by rw[Ó,hr];rfl) (by lia) ?_;rw[KU];exact k _ (x.setRoad _) (Ex.upd<|by simp)
def Eo{pre:List En}(x:dY h Y)(hr:Y.road[p]?=dF r)(hl:Y.road.length<=500000)(he:Y.es=pre++e::ĭ)(hg:r.2.1=e.num)(o:e.B.ok)
  (k:∀g,dY g {Y with es:=pre ++ {e with B:=YC e.B r.2.2.1 r.2.2.2} :: ĭ,road:=Y.road.eraseIdx p}->Ex Y.adr h g->Q .non g):wF P (n+3) "Yard.come" [.ref Y.y,.int p] h Q X:=by
 have xi:=x.ins;have hm:e∈Y.es:=by rw[he];simp
 have lk:(stands Y.es).lookup r.2.1=dF e.b:=by rw[hg];exact W4 (by rw[ZM];exact x.key)<|ã.mpr ⟨e,hm,rfl⟩
 refine Xw ?_;refine' XS x hr hl λg1 y1 x1=>?_;have yi:=y1.ins;have ys:=y1.stand;have ba:=y1.brs e hm;have bi:=ba.ins;dsimp only at yi ys;let⟨rs,rg,rt,rl⟩:=r;dsimp only at lk hg k
 exists Wb ys rfl
 rw[Yb,lk];walk_at "p";refine Z9 ys rfl (by rw[Yo,lk];rfl) ?_;refine' Ew ba o λg2 b2 x2=>?_;have y2:=y1.inner (e:=e) he (x2.sub<|by simp) b2;have mA:=Wz hm;refine' k g2 y2 ((x1.sub λa ha=>?_).trans<|x2.sub λa ha=>?_)
 .rw[Ø.mp ha];exact Û _ (by simp)
 .rw[Ø.mp ha];exact È _ mA.2.2
def BD(x:dY h Y)(hr:Y.road[p]?=dF r)(hl:Y.road.length<=500000)(hg:r.2.1∉Y.es.map (·.num))
  (k:∀g,dY g {Y with road:=Y.road.eraseIdx p}->Ex Y.adr h g->Q .non g):wF P (n+3) "Yard.come" [.ref Y.y,.int p] h Q X:=by
 have xi:=x.ins;have lk:(stands Y.es).lookup r.2.1=dG:=by
  cases z:(stands Y.es).lookup r.2.1 with
  |none=>rfl
  |some q =>have:=û (f:=(·.1))<|ZD z;rw[ZM]at this;exact fI this hg
 refine Xw ?_;refine' XS x hr hl λg1 y1 x1=>?_;have yi:=y1.ins;have ys:=y1.stand;dsimp only at yi ys;let⟨rs,rg,rt,rl⟩:=r;dsimp only at lk hg k
 exists Wb ys rfl
 rw[Yb,lk];walk_at "p";exact k g1 y1 (x1.sub λa ha=>by rw[Ø.mp ha];exact Û _<|by simp)
end
abbrev Yt(k:Int)(F:Br->Br)(es:List En):List En:=es.map λe=>if e.num=k then {e with B:=F e.B} else e
def Wt{k:Int}{F:Br->Br}:∀{es:List En},k∉es.map (·.num)->Yt k F es=es
 |[],_=>rfl
 |e::es,h=>by rw[Í,Æ,not_or]at h;unfold Yt;rw[Í,fB λz=>h.1 z.symm];exact congrArg (e :: ·)<|Wt h.2
variable {F:Br->Br}
def Nq{pre:List En}(nd:((pre++e::ĭ).map (·.num)).Nodup):Yt e.num F (pre++e::ĭ)=pre ++ {e with B:=F e.B} :: ĭ:=by rw[Ò,Í,æ,Ć]at nd;have h1:Yt e.num F pre=pre:=Wt λz=>nd.2.2 _ z e.num (by simp) rfl;have h2:Yt e.num F ĭ=ĭ:=Wt nd.2.1.1;unfold Yt at h1 h2 ⊢;rw[Ò,Í,h1,h2,fA rfl]
def NJ{k:Int}(es:List En):(Yt k F es).map (·.num)=es.map (·.num):=by unfold Yt;rw[ú];refine ě λe _=>?_;show(if e.num=k then({e with B:=F e.B}:En)else e).num=e.num;split<;>rfl
def NE{k:Int}(es:List En):stands (Yt k F es)=stands es:=by unfold Yt stands;rw[ú];refine ě λe _=>?_;show((if e.num=k then({e with B:=F e.B}:En)else e).num,(if e.num=k then({e with B:=F e.B}:En)else e).b)=_;split<;>rfl
def Wm{k:Int}{F:Br->Br}:∀es:List En,enA (Yt k F es)=enA es
 |[]=>rfl
 |e::es=>by have:=Wm (k:=k) (F:=F) es;unfold Yt enA at this ⊢;rw[Í,Ŝ,Ŝ,this];split<;>rfl
def Nd{k:Int}{q:En}(h:q∈Yt k F es):(q∈es/\q.num≠k)\/∃e∈es,e.num=k/\q={e with B:=F e.B}:=by
 let⟨e,he,rfl⟩:=ã.mp h;by_cases z:e.num=k
 .right;exact⟨e,he,z,by rw[fA z]⟩
 .left;rw[fB z];exact⟨he,z⟩
abbrev tieF(on:Bool)(p:Int)(far c:Int)(B:Br):Br:=if on then upB B p (far,c)else Cf B p
abbrev setT(on:Bool)(p:Int)(t:Tie)(es:List En):List En:=Yt t.2.1 (tieF on p t.1 t.2.2)<|Yt t.1 (tieF on p t.2.1 t.2.2) es
abbrev onT(Y:Yd)(p:Int)(t:Tie):Bool:=!(Y.fallen.lookup p).isSome&&(((stands Y.es).lookup t.1).isSome&&((stands Y.es).lookup t.2.1).isSome)
section
variable {Y:Yd}
def dY.one(x:dY h Y)(he:e∈Y.es)(ex:Ex [e.b,e.t,e.d] h g)(hb:dX g e.b e.t e.d<|F e.B):dY g {Y with es:=Yt e.num F Y.es}:=by let⟨pre,ĭ,hs⟩:=cV he;have k:=x.key;rw[hs]at k;rw[hs,Nq k];exact x.inner hs ex hb
end
noncomputable abbrev Ej:Ss:=#[.ite (.val<|.var 5) #[.expr<|.meth "Bridge" "up" (.idx (.fld (.var 0) "standing")<|.var 6) #[.var 1,.var 7,.var 4]] #[.ite (.val<|.cmp .isin (.var 6)<|.fld (.var 0) "standing") #[.expr<|.meth "Bridge" "down" (.idx (.fld (.var 0) "standing")<|.var 6) #[.var 1]] .nil]]
section
variable {Y:Yd}
def Mu{p:Nat}{t1 t2:Int}{on:Bool}{v6 v7:Option Val}{R:NQ}(x:dY h Y)(hn:t1≠t2)(gd:∀e∈Y.es,e.B.ok)(hon:∀ψ far:Int,(ψ=t1/\far=t2\/ψ=t2/\far=t1)->on=dI->∃b,(stands Y.es).lookup ψ=dF b)
  (k:∀g e,dY g {Y with es:=setT on p (t1,t2,c) Y.es}->Ex Y.adr h g->R e g) :
  wFor (λ_=>True) (λv e g K M=>go (bind (.many [6,7]) g v e) λe2=>wSs (wF P<|n+1) Ej e2 g K Q M K λ_ c g=>X c g) R [.tup [.int t1,.int t2],.tup [.int t2,.int t1]] [dF<|.ref Y.y,dF<|.int p,dF<|.int t1,dF<|.int t2,dF<|.int c,dF<|.bl on,v6,v7] h:=by
 refine Zp (λi e g=>∃v6 v7 ap,e=[dF<|.ref Y.y,dF<|.int p,dF<|.int t1,dF<|.int t2,dF<|.int c,dF<|.bl on,v6,v7]/\dY g {Y with es:=ap}/\Ex Y.adr h g/\(i=0->ap=Y.es)/\(i=1->ap=Yt t1 (tieF on p t2 c) Y.es)/\(i=2->ap=setT on p (t1,t2,c) Y.es)) ⟨_,_,Y.es,rfl,x,Ex.refl,λ_=>rfl,λz=>(by cases z),λz=>(by cases z)⟩ (λ_ _ _ _ _=>trivial) ?_ ?_
 .rintro i v e g hv ⟨u6,u7,ap,rfl,y,xg,q0,q1,q2⟩ K hK;obtain⟨ψ,far,rfl,hnf,ł,heA,hgd,hnext⟩:∃ψ far,v=.tup [.int ψ,.int far]/\(ψ=t1/\far=t2\/ψ=t2/\far=t1)/\stands ap=stands Y.es/\enA ap=enA Y.es/\(∀e∈ap,e.num=ψ->e.B.ok)/\∀cM,cM=Yt ψ (tieF on p far c) ap->(i+1=0->cM=Y.es)/\(i+1=1->cM=Yt t1 (tieF on p t2 c) Y.es)/\(i+1=2->cM=setT on p (t1,t2,c) Y.es):=by
   match i,hv with
   |0,hv =>cases hv;have:=q0 rfl;subst this;exact⟨t1,t2,rfl,.inl ⟨rfl,rfl⟩,rfl,rfl,λe he _=>gd e he,λcM z=>⟨λy=>(by cases y),λ_=>z,λy=>(by cases y)⟩⟩
   |1,hv =>
    cases hv;have:=q1 rfl;subst this;refine⟨t2,t1,rfl,.inr ⟨rfl,rfl⟩,NE _,Wm _,λe he hz=>?_,λcM z=>⟨λy=>(by cases y),λy=>(by cases y),λ_=>z⟩⟩;rcases Nd he with⟨hm,_⟩|⟨q,hq,hq1,hq2⟩
    .exact gd e hm
    .exact fI (by rw[hq2]at hz;exact hq1.symm.trans hz) hn
   |i+2,hv=>simp at hv
  have yi:=y.ins;have ys:=y.stand;dsimp only at yi ys;have step:∀{e:En}{g':Hs},e∈ap->e.num=ψ->Ex [e.b,e.t,e.d] g g'->dX g' e.b e.t e.d (tieF on p far c e.B)->∀w6 w7,K [dF<|.ref Y.y,dF<|.int p,dF<|.int t1,dF<|.int t2,dF<|.int c,dF<|.bl on,w6,w7] g':=λ{e g'} he ŝ ex hb w6 w7=>by
   have y':=y.one (F:=tieF on p far c) he ex hb;rw[ŝ]at y';have mA:=Wz he;refine hK _ _ ⟨w6,w7,_,rfl,y',xg.trans<|ex.sub λa ha=>?_,hnext _ rfl⟩;refine È _ ?_;rw[<-heA];simp only[Æ,å,or_false]at ha;rcases ha with rfl|rfl|rfl
   .exact mA.1
   .exact mA.2.1
   .exact mA.2.2
  fail;cases hob:on with
  |true =>
   let⟨b,lk⟩:=hon ψ far hnf hob;rw[<-ł]at lk;let⟨e,pre,ĭ,hs,ŝ,hbb⟩:=Xr lk;have hm:e∈ap:=by rw[hs];simp
   have ba:=y.brs e hm;have bi:=ba.ins;subst hbb;refine fb rfl ?_;refine' Z9 ys rfl (by rw[Yo,lk];rfl) ?_;refine' QU ba (hgd e hm ŝ) λg' b' x'=>?_;fail;rw[<-hob];exact step hm ŝ (x'.sub<|by simp) (by unfold tieF;rw[hob];exact b') _ _
  |false =>
   refine fc rfl ?_
   exists Wb ys rfl
   rw[Yb];cases hlk:(stands ap).lookup ψ with
   |none =>
    walk_at "p";rw[<-hob];refine hK _ _ ⟨_,_,ap,rfl,y,xg,hnext ap (Wt ?_).symm⟩;have:=Xy hlk
    rwa [ZM]at this
   |some b =>
    let⟨e,pre,ĭ,hs,ŝ,hbb⟩:=Xr hlk;have hm:e∈ap:=by rw[hs];simp
    have ba:=y.brs e hm;have bi:=ba.ins;subst hbb;walk_at "p";refine Z9 ys rfl (by rw[Yo,hlk];rfl) ?_;refine' F2 ba λg' b' x'=>?_;fail;rw[<-hob];exact step hm ŝ (x'.sub<|by simp) (by unfold tieF;rw[hob];exact b') _ _
 .rintro e g ⟨u6,u7,ap,rfl,y,xg,q0,q1,q2⟩;have:=q2 rfl;subst this;exact k _ _ y xg
def Wx{p:Nat}{t:Tie}(x:dY h Y)(et:Y.ts[p]?=dF t)(hn:t.1≠t.2.1)(gd:∀e∈Y.es,e.B.ok)(k:∀g,dY g {Y with es:=setT (onT Y p t) p t Y.es}->Ex Y.adr h g->Q .non g):wF P (n+2) "Yard.set_tie" [.ref Y.y,.int p] h Q X:=by
 have xi:=x.ins;have xs:=x.stand;have xf:=x.fallen;let⟨t1,t2,c⟩:=t;dsimp only at hn;have fin:onT Y p (t1,t2,c)=onT Y p (t1,t2,c)->∀ψ far:Int,(ψ=t1/\far=t2\/ψ=t2/\far=t1)->onT Y p (t1,t2,c)=dI->∃b,(stands Y.es).lookup ψ=dF b:=λ_ ψ far hv ho=>by
  simp only[onT,bAq]at ho;rcases hv with⟨rfl,_⟩|⟨rfl,_⟩
  .exact ò.mp ho.2.1
  .exact ò.mp ho.2.2
 refine Ju ?_
 exists dQ (xs:=[.tup<|Y.bs.map .int,.tup<|Y.ts.map trV]) (v:=.tup<|Y.ts.map trV) rfl
 refine' dQ (v:=.tup [.int t1,.int t2,.int c]) (YE (by lia)<|by rw[Ó,ä,et];rfl) ?_
 exists Ym xf rfl
 rw[Yb];obtain⟨on,hon⟩:∃on:Bool,on=onT Y p (t1,t2,c):=⟨_,rfl⟩
 rw[<-hon]at k fin;have fin:=fin rfl;cases e1:(Y.fallen.lookup (p:Int)).isSome with
 |true =>
  have z:dJ=on:=by rw[hon];unfold onT;rw[e1];rfl
  walk_at "p";rw[z];exact Mu x hn gd fin λg e y xg=>by fail;exact k g y xg
 |false =>
  walk_at "p";refine Wb xs rfl ?_;rw[Yb];cases e2:((stands Y.es).lookup t1).isSome with
  |false =>
   have z:dJ=on:=by rw[hon];unfold onT;rw[e1,e2];rfl
   walk_at "p";rw[z];exact Mu x hn gd fin λg e y xg=>by fail;exact k g y xg
  |true =>
   walk_at "p";refine Wb xs rfl ?_;rw[Yb];have z:((stands Y.es).lookup t2).isSome=on:=by rw[hon];unfold onT;rw[e1,e2];rfl
   rw[z];refine' Mu x hn gd fin λg e y xg=>by fail;exact k g y xg
end
variable {on:Bool}
def Mf{p far:Int}(o:B.ok)(h0:0<=p)(h1:p<16):(tieF on p far c B).ok:=by
 unfold tieF;split
 .exact o.up h0 h1
 .exact o.down p
def O3{k:Int}(gd:∀e∈es,e.B.ok)(hF:∀B,B.ok->(F B).ok):∀e∈Yt k F es,e.B.ok:=λq hq=>by
 rcases Nd hq with⟨hm,_⟩|⟨e,he,_,rfl⟩
 .exact gd q hm
 .exact hF _<|gd e he
def Ff{p:Int}{t:Tie}(gd:∀e∈es,e.B.ok)(h0:0<=p)(h1:p<16):∀e∈setT on p t es,e.B.ok :=
 O3 (O3 gd λ_ o=>Mf o h0 h1) λ_ o=>Mf o h0 h1
def BO{p:Int}{t:Tie}(es:List En):(setT on p t es).map (·.num)=es.map (·.num):=by unfold setT;rw[NJ,NJ]
def JW{p:Int}{t:Tie}(es:List En):enA (setT on p t es)=enA es:=by unfold setT;rw[Wm,Wm]
abbrev ZY(Y:Yd)(l:List Tie):Yd:=l.foldl (λY r=>{Y with es:=setT (onT Y r.1<|Y.ts[r.1.toNat]?.getD (0,0,0)) r.1 (Y.ts[r.1.toNat]?.getD (0,0,0)) Y.es}) Y
def JN(Y:Yd)(l:List Tie)(r:Tie):ZY Y (l++[r])={ZY Y l with es:=setT (onT (ZY Y l) r.1<|(ZY Y l).ts[r.1.toNat]?.getD (0,0,0)) r.1 ((ZY Y l).ts[r.1.toNat]?.getD (0,0,0)) (ZY Y l).es}:=by unfold ZY;rw[List.foldl_append];rfl
structure Same(Y Z:Yd):Prop where
 y:Z.y=Y.y
 lv:Z.lv=Y.lv
 st:Z.st=Y.st
 fl:Z.fl=Y.fl
 rd:Z.rd=Y.rd
 bs:Z.bs=Y.bs
 ts:Z.ts=Y.ts
 most:Z.most=Y.most
 lives:Z.lives=Y.lives
 fallen:Z.fallen=Y.fallen
 road:Z.road=Y.road
 num:Z.es.map (·.num)=Y.es.map (·.num)
 enA:enA Z.es=enA Y.es
variable {Z:Yd}
def Same.adr(s:Same Y Z):Z.adr=Y.adr:=by unfold Yd.adr;rw[s.y,s.lv,s.st,s.fl,s.rd,s.enA]
def Same.refl:Same Y Y:=⟨rfl,rfl,rfl,rfl,rfl,rfl,rfl,rfl,rfl,rfl,rfl,rfl,rfl⟩
variable {W:Yd}
def Same.trans(a:Same Y Z)(b:Same Z W):Same Y W:=⟨b.y.trans a.y,b.lv.trans a.lv,b.st.trans a.st,b.fl.trans a.fl,b.rd.trans a.rd,b.bs.trans a.bs,b.ts.trans a.ts,b.most.trans a.most,b.lives.trans a.lives,b.fallen.trans a.fallen,b.road.trans a.road,b.num.trans a.num,b.enA.trans a.enA⟩
def Same.setT{p:Int}{t:Tie}:Same Y {Y with es:=setT on p t Y.es}:=⟨rfl,rfl,rfl,rfl,rfl,rfl,rfl,rfl,rfl,rfl,rfl,BO _,JW _⟩
def Xa:∀(l:List Tie) (Y:Yd),Same Y (ZY Y l)
 |[],_=>.refl
 |_::l,_=>Same.setT.trans<|Xa l _
section
variable {Y:Yd}
def J7{b:Int}(no:d9 Y.bs Y.ts)(x:dY h Y)(gd:∀e∈Y.es,e.B.ok)(k:∀g,dY g (ZY Y<|fq b 0 Y.ts)->(∀e∈(ZY Y<|fq b 0 Y.ts).es,e.B.ok)->Ex Y.adr h g->Q .non g):wF P (n+3) "Yard.set_ties_of" [.ref Y.y,.int b] h Q X:=by
 have xi:=x.ins;have h16:=no.sixteen;refine XU ?_;refine' XI no.sixteen λp g0 hp x0 e0=>?_;fail;have x':=x.ext x0;have npA:p∉Y.adr:=λz=>x.taken z hp;refine Zp (λi e g=>Sm3 λv2 v3 v4=>Cj4 (e=[dF<|.ref Y.y,dF<|.int b,v2,v3,v4]) (dY g<|ZY Y<|(fq b 0 Y.ts).take i) ((∀e∈(ZY Y<|(fq b 0 Y.ts).take i).es,e.B.ok))<|Ex Y.adr g0 g) ⟨_,_,_,rfl,x',gd,Ex.refl⟩ (λi e g _ ⟨_,_,_,_,_,_,z⟩=>lsE<|z.get npA e0) ?_ ?_
 .rintro i v e g hv ⟨v2,v3,v4,rfl,y,gi,xg⟩ K hK;let⟨r,hr,rfl⟩:=ZO hv;have sm:=Xa ((fq b 0 Y.ts).take i) Y;have rg:=(J9 (b:=b) (l:=Y.ts) (k:=0)).2 r<|á hr;obtain⟨q,hq⟩:∃q:Nat,r.1=q:=⟨r.1.toNat,by lia⟩
  have hql:q<Y.ts.length:=by lia
  have et:(ZY Y<|(fq b 0 Y.ts).take i).ts[q]?=dF Y.ts[q]:=by rw[sm.ts];exact É hql
  have lo:=no.tie _<|Ī hql;have yi:=y.ins;rw[sm.y]at yi;let⟨r1,r2,r3⟩:=r;dsimp only at hq;subst hq;unfold trV;fail;rw[<-sm.y];refine Wx y et (by have:=lo.2.2.1;lia) gi λg1 y1 xg1=>?_;rw[sm.adr]at xg1;fail;rw[sm.y];refine hK _ _ ⟨_,_,_,rfl,?_,?_,xg.trans xg1⟩
  .rw[Zf hr,JN];dsimp only;rw[ä,et];exact y1
  .rw[Zf hr,JN];dsimp only;rw[ä,et];exact Ff gi (by lia) (by lia)
 .rintro e g ⟨v2,v3,v4,rfl,y,gi,xg⟩;rw[À,ø]at y gi;refine' k g y gi ((Ex.of x0).trans xg)
end
abbrev YM(b:Int)(es:List En):List En:=es.filter λe=>fJ (e.num≠b)
def Ms(b:Int)(es:List En):ZA (stands es) b=stands (YM b es):=by unfold ZA stands YM;rw[List.filter_map];rfl
def XB(b:Int)(es:List En):(YM b es).Sublist es:=ϖ
def W6{fs:List En}(h:es.Sublist fs):(enA es).Sublist<|enA fs:=by
 induction h with
 |slnil=>exact .slnil
 |cons a _ ih=>unfold enA at ih ⊢;rw[Ŝ];exact ih.trans<|List.sublist_append_right _ _
 |cons_cons a _ ih=>unfold enA at ih ⊢;rw[Ŝ,Ŝ];exact(œ _).append ih
def dY.drop(x:dY h Y)(b:Int):dY (upd h Y.st<|.dct<|Zn rfV<|fz.stands<|YM b Y.es) {Y with es:=YM b Y.es}:=by
 let⟨⟨a1,a2,a3,a4⟩,⟨b1,b2,b3⟩,⟨c1,c2⟩,d1⟩:=Yd.five x.nd;have sb:=XB b Y.es;have nb:∀a∈enA (YM b Y.es),a≠Y.st:=λa ha=>Yd.sep x.nd (by simp)<|(W6 sb).subset ha;refine⟨(dL a2).trans x.ins,(dL b1).trans x.lives,dM,(dL c1.symm).trans x.fallen,(dL c2.symm).trans x.road,λq hq=>(x.brs q<|sb.subset hq).off hq nb,?_,?_⟩
 .exact((œ _).append<|W6 sb).nodup x.nd
 .exact(sb.map _).nodup x.key
def dY.setFallen(x:dY h Y)(l:List<|Int×Bool):dY (upd h Y.fl<|.dct<|Zn Val.bl l) {Y with fallen:=l}:=by let⟨⟨a1,a2,a3,a4⟩,⟨b1,b2,b3⟩,⟨c1,c2⟩,d1⟩:=Yd.five x.nd;exact⟨(dL a3).trans x.ins,(dL b2).trans x.lives,(dL c1).trans x.stand,dM,(dL d1.symm).trans x.road,λe he=>(x.brs e he).off he λb hb=>Yd.sep x.nd (by simp) hb,x.nd,x.key⟩
section
variable {Y:Yd}
def Co{b:Int}(no:d9 Y.bs Y.ts)(x:dY h Y)(gd:∀e∈Y.es,e.B.ok)(hb:b∈Y.es.map (·.num))(k:∀g,dY g (ZY {Y with es:=YM b Y.es}<|fq b 0 Y.ts)->(∀e∈(ZY {Y with es:=YM b Y.es}<|fq b 0 Y.ts).es,e.B.ok)->Ex Y.adr h g->Q .non g):wF P (n+4) "Yard.fall_of_bridge" [.ref Y.y,.int b] h Q X:=by
 have xi:=x.ins;have xs:=x.stand;obtain⟨a,lk⟩:∃a,(stands Y.es).lookup b=dF a:=ZR (by rw[ZM];exact hb);refine ZZ ?_
 exists Ym xs rfl
 rw[Yb,lk];walk_at "p";refine DM xs rfl (by rw[Yo,lk];rfl) ?_;rw[Wk,Ms];dsimp only;have y1:=x.drop b;have x1:Ex Y.adr h<|upd h Y.st<|.dct<|Zn rfV<|stands<|YM b Y.es:=Ex.upd (Û _<|by simp);generalize upd h Y.st (.dct<|Zn rfV<|stands<|YM b Y.es)=g1 at y1 x1;have yi:=y1.ins;dsimp only at yi;refine' J7 (Y:={Y with es:=YM b Y.es}) no y1 (λe he=>gd e<|(XB b Y.es).subset he) λg2 y2 gd2 x2=>?_;refine' k g2 y2 gd2 (x1.trans<|x2.sub λa ha=>?_);exact((œ _).append<|W6<|XB b Y.es).subset ha
end
section
variable {Y:Yd}
def CS{p:Nat}{t:Tie}(no:d9 Y.bs Y.ts)(x:dY h Y)(gd:∀e∈Y.es,e.B.ok)(et:Y.ts[p]?=dF t)(hf:Y.fallen.lookup (p:Int)=dG)(hl:Y.fallen.length<=100)(k:∀g,dY g {Y with fallen:=ZC Y.fallen p dI,es:=setT (onT {Y with fallen:=ZC Y.fallen p dI} p t) p t Y.es}->Ex Y.adr h g->Q .non g):wF P (n+3) "Yard.fall_of_tie" [.ref Y.y,.int p] h Q X:=by
 have xi:=x.ins;have xf:=x.fallen;have hp:p<Y.ts.length:=(Ð.mp et).1;have df:(Y.ts.map trV).length=Y.ts.length:=À _;have lo:=no.tie _<|á et;refine ZP ?_
 exists ZX
 fail;refine fb (by simp) ?_
 exists dQ (xs:=[.tup<|Y.bs.map .int,.tup<|Y.ts.map trV]) (v:=.tup<|Y.ts.map trV) rfl
 fail;refine fc (by rw[df];simpa using hp) ?_
 exists Wb xf rfl
 rw[Yb,hf];walk_at "p";refine YS (k:=.int p) xf ⟨rfl,by rw[Kv];exact Ñ hl<|by decide⟩ ?_;rw[Yg (val:=Val.bl)];have y1:=x.setFallen<|ZC Y.fallen p dI;have x1:Ex Y.adr h<|upd h Y.fl<|.dct<|Zn Val.bl<|ZC Y.fallen p dI:=Ex.upd (Û _<|by simp);generalize upd h Y.fl (.dct<|Zn Val.bl<|ZC Y.fallen p dI)=g1 at y1 x1;have yi:=y1.ins;dsimp only at yi;refine' Wx (Y:={Y with fallen:=ZC Y.fallen p dI}) y1 et (by have:=lo.2.2.1;lia) gd λg2 y2 x2=>?_;refine' k g2 y2 (x1.trans x2)
def A6{p:Nat}{t:Tie}(no:d9 Y.bs Y.ts)(x:dY h Y)(gd:∀e∈Y.es,e.B.ok)(et:Y.ts[p]?=dF t){v:Bool}(hf:Y.fallen.lookup (p:Int)=dF v)(k:∀g,dY g {Y with fallen:=ZA Y.fallen p,es:=setT (onT {Y with fallen:=ZA Y.fallen p} p t) p t Y.es}->Ex Y.adr h g->Q .non g):wF P (n+3) "Yard.back_of_tie" [.ref Y.y,.int p] h Q X:=by
 have xi:=x.ins;have xf:=x.fallen;have lo:=no.tie _<|á et;refine Yq ?_
 exists Ym xf rfl
 rw[Yb,hf];walk_at "p";refine DM xf rfl (by rw[Yo,hf];rfl) ?_;rw[Wk];dsimp only;have y1:=x.setFallen<|ZA Y.fallen p;have x1:Ex Y.adr h<|upd h Y.fl<|.dct<|Zn Val.bl<|ZA Y.fallen p:=Ex.upd (Û _<|by simp);generalize upd h Y.fl (.dct<|Zn Val.bl<|ZA Y.fallen p)=g1 at y1 x1;have yi:=y1.ins;dsimp only at yi;refine' Wx (Y:={Y with fallen:=ZA Y.fallen p}) y1 et (by have:=lo.2.2.1;lia) gd λg2 y2 x2=>?_;refine' k g2 y2 (x1.trans x2)
end
def O9:(Z7 own life most []).ok:=⟨Ę,(λ_ m=>nomatch m),Ę,(λ_ m=>nomatch m)⟩
def As{k:Int}{v:α}:(ZC kvs k v).lookup k=dF v:=by
 unfold ZC;split
 .rename_i h;induction kvs with
  |nil=>cases h
  |cons p r ih =>
   rw[Í,ð];by_cases e:p.1=k
   .simp[e]
   .have e2:(k==p.1)=dJ:=by simpa using λz=>e z.symm
    rw[ð,e2]at h;simp only[e,if_false,e2];exact ih h
 .rename_i h;have h:kvs.lookup k=dG:=Ϯ.mp h;rw[List.lookup_append,h];simp
section
variable {Y:Yd}
def BF{b:Int}(no:d9 Y.bs Y.ts)(x:dY h Y)(gd:∀e∈Y.es,e.B.ok)(hlv:Y.lives.lookup b=dF life)(hb:b∉Y.es.map (·.num))(hl:Y.lives.length<=100)(hel:Y.es.length<=100)
  (k:∀q t d g,(∀a∈[q,t,d],h a=dG)->dY g (ZY {Y with lives:=ZC Y.lives b<|life+1,es:=Y.es++[⟨b,q,t,d,Z7 b (life+1) Y.most []⟩]}<|fq b 0 Y.ts)->(∀e∈(ZY {Y with lives:=ZC Y.lives b<|life+1,es:=Y.es++[⟨b,q,t,d,Z7 b (life+1) Y.most []⟩]}<|fq b 0 Y.ts).es,e.B.ok)->Ex Y.adr h g->Q .non g):wF P (n+4) "Yard.back_of_bridge" [.ref Y.y,.int b] h Q X:=by
 have xi:=x.ins;have xs:=x.stand;have xl:=x.lives;have lk:(stands Y.es).lookup b=dG:=by
  cases z:(stands Y.es).lookup b with
  |none=>rfl
  |some q =>have:=û (f:=(·.1))<|ZD z;rw[ZM]at this;exact fI this hb
 refine ZG ?_
 exists Ym xl rfl
 rw[Yb,hlv];walk_at "p";refine Wb xs rfl ?_;rw[Yb,lk];walk_at "p";refine Z9 xl rfl (by rw[Yo,hlv];rfl) ?_;refine' YS (k:=.int b) xl ⟨rfl,by rw[Kv];exact Ñ hl<|by decide⟩ ?_;rw[Yg (val:=Val.int)];have Y1:=x.setLives<|ZC Y.lives b<|life+1;have x1:Ex Y.adr h<|upd h Y.lv<|.dct<|Zn Val.int<|ZC Y.lives b<|life+1:=Ex.upd (Û _<|by simp);have keepN:∀{a:Ad},upd h Y.lv (.dct<|Zn Val.int<|ZC Y.lives b<|life+1) a=dG->h a=dG:=λ{a} z=>by
  by_cases e:a=Y.lv
  .rw[e,dM]at z;cases z
  .rwa [dL e]at z
 generalize upd h Y.lv (.dct<|Zn Val.int<|ZC Y.lives b<|life+1)=g1 at Y1 x1 keepN;have zi:=Y1.ins;have zl:=Y1.lives;dsimp only at zi zl;refine' Z9 zl rfl (by rw[Yo,As];rfl) ?_;refine' Za λpn g7 hpn x7 en=>?_;have Y7:=Y1.ext x7;have yi7:=Y7.ins;dsimp only at yi7;fail;intro q hq;have xq:Ext g7<|upd g7 q<|.ins "Bridge" []:=Ext.new hq;have eq:(upd g7 q<|.ins "Bridge" []) q=dF (.ins "Bridge" []):=dM;refine Up (rs:=[]) eq (xq.get en) (by simp) (by simp) λt d g8 ht hd ba x8=>?_;have x78:Ext g7 g8:=⟨λ{a o} e=>x8.get (by simpa using Zb e hq)<|xq.get e⟩
 have Y8:=Y7.ext x78;have ht7:g7 t=dG:=by cases z:g7 t with|none=>rfl|some o=>rw[xq.get z]at ht;cases ht
 have hd7:g7 d=dG:=by cases z:g7 d with|none=>rfl|some o=>rw[xq.get z]at hd;cases hd
 refine⟨rfl,?_⟩;have wi:=Y8.ins;have ws:=Y8.stand;dsimp only at wi ws;refine' YS (k:=.int b) ws ⟨rfl,by rw[Kv];unfold stands;rw[À];exact Ñ hel<|by decide⟩ ?_;rw[Yg (val:=rfV),Wc _<|by rw[ZM];exact hb];have ł:stands Y.es++[(b,q)]=stands (Y.es++[⟨b,q,t,d,Z7 b (life+1) Y.most []⟩]):=by unfold stands;rw[Ò];rfl
 rw[ł];have fr:∀a∈[q,t,d],g7 a=dG:=λa ha=>by simp only[Æ,å,or_false]at ha;rcases ha with rfl|rfl|rfl<;>assumption
 have fr0:∀a∈[q,t,d],h a=dG:=λa ha=>keepN (by cases z:g1 a with|none=>rfl|some o=>have:=fr a ha;rw[x7.get z]at this;cases this);have Y9:=Y8.stands (e:=⟨b,q,t,d,Z7 b (life+1) Y.most []⟩) ba hb λa ha z=>Y7.taken z<|fr a ha;have x9:Ex Y.adr h<|upd g8 Y.st<|.dct<|Zn rfV<|stands<|Y.es++[⟨b,q,t,d,Z7 b (life+1) Y.most []⟩]:=(x1.trans<|.of<|x7.trans x78).trans (Ex.upd<|Û _<|by simp);dsimp only at Y9;generalize upd g8 Y.st (.dct<|Zn rfV<|stands<|Y.es++[⟨b,q,t,d,Z7 b (life+1) Y.most []⟩])=g9 at Y9 x9;have vi:=Y9.ins;dsimp only at vi;refine' J7 (Y:={Y with lives:=ZC Y.lives b<|life+1,es:=Y.es++[⟨b,q,t,d,Z7 b (life+1) Y.most []⟩]}) no Y9 (λe he=>?_) λg2 y2 gd2 x2=>?_
 .rcases â.mp he with he|he
  .exact gd e he
  .rw[Ø.mp he];exact O9
 refine' k q t d g2 fr0 y2 gd2 ⟨λ{a o} na ha=>x2.get (λz=>?_)<|x9.get na ha⟩;have z:a∈[Y.y,Y.lv,Y.st,Y.fl,Y.rd]++enA (Y.es++[⟨b,q,t,d,Z7 b (life+1) Y.most []⟩]):=z;rw[XY,<-Đ]at z;rcases â.mp z with z|z
 .exact na z
 .rw[fr0 a z]at ha;cases ha
end
abbrev wordsL:List<|List String:=[["tick"],["come"],["lost"],["fall","bridge"],["fall","tie"],["back","bridge"],["back","tie"]]
def EB{ws:List String}(hw:ws∈wordsL)(k:∀g,Ext h g->Q (.tup [.tup<|ws.map .str,.int c]) g):wF P (n+2) "read_deed" [.tup<|ws.map .str++[.int c]] h Q X:=by
 have hc:cut (ws.map Val.str++[.int c]) dG (dF (-1))=ws.map .str:=by simp only[wordsL,Æ,å,or_false]at hw;rcases hw with rfl|rfl|rfl|rfl|rfl|rfl|rfl<;>rfl
 have hlast:atI (ws.map Val.str++[.int c]) (-1)=dF (.int c):=by simp only[wordsL,Æ,å,or_false]at hw;rcases hw with rfl|rfl|rfl|rfl|rfl|rfl|rfl<;>rfl
 have hlen:ws.length<=2:=by simp only[wordsL,Æ,å,or_false]at hw;rcases hw with rfl|rfl|rfl|rfl|rfl|rfl|rfl<;>decide
 refine Yv ?_;walk_at "p";refine eZ (xs:=ws.map Val.str++[.int c]) (lo:=dG) (hi:=dF (-1)) (by rw[Ö,À];intro z;have:=z.2;unfold eN at this;simp at this;lia) ?_;rw[hc];refine' ⟨Ñ (by rw[À];exact hlen) (by decide),Z1 (λ_=>dF<|.bl dI) trivial (λv hv K hK=>?_) ?_⟩
 .obtain⟨u,_,rfl⟩:=ã.mp hv;walk_at "p";exact hK
 rw[show(ws.map Val.str).filterMap (λ_=>dF<|Val.bl dI)=(ws.map λ_=>dI).map Val.bl by rw[Ž,ú];exact congrFun (Ζ (f:=λ_:String=>Val.bl dI)) ws];refine Za λp1 g1 cb x1 e1=>?_
 exists Jj (bs:=ws.map λ_=>dI) e1 (Yp _)
 have ha:(ws.map λ_=>dI).all id=dI:=by simp
 fail;refine fc (by simp) ?_;fail;have hin:∀{h:Hs},d7 h .notin (.tup<|ws.map .str) (.tup<|wordsL.map λl=>.tup<|l.map .str)=dF dJ:=λ{h}=>by simp only[wordsL,Æ,å,or_false]at hw;rcases hw with rfl|rfl|rfl|rfl|rfl|rfl|rfl<;>rfl
 refine dP (a:=dJ) hin ?_;walk_at "p";refine dQ hlast ?_
 exists Y4
 walk_at "p";refine dQ hlast ?_;refine' k g1 x1
inductive Dd where
 |tick (b:Int)|come (b:Int)|lost (b:Int)|fallB (b:Int)|fallT (b:Int)|backB (b:Int)|backT (b:Int)
abbrev Dd.ws:Dd->List String
 |.tick _=>["tick"]|.come _=>["come"]|.lost _=>["lost"]|.fallB _=>["fall","bridge"]|.fallT _=>["fall","tie"]|.backB _=>["back","bridge"]|.backT _=>["back","tie"]
abbrev Dd.num:Dd->Int
 |.tick c=>c|.come c=>c|.lost c=>c|.fallB c=>c|.fallT c=>c|.backB c=>c|.backT c=>c
abbrev Dd.fn:Dd->String
 |.tick _=>"Yard.tick_of" | .come _=>"Yard.come" | .lost _=>"Yard.take_off" | .fallB _=>"Yard.fall_of_bridge" | .fallT _=>"Yard.fall_of_tie" | .backB _=>"Yard.back_of_bridge" | .backT _=>"Yard.back_of_tie"
noncomputable abbrev Dd.v(d:Dd):Val:=.tup<|d.ws.map .str++[.int d.num]
def Dd.words(d:Dd):d.ws∈wordsL:=by cases d<;>simp[Dd.ws,wordsL]
def ZH(x:Ext h g)(hp:g p=dG):h p=dG:=by
 cases z:h p with
 |none=>rfl
 |some o=>rw[x.get z]at hp;cases hp
variable {ts:List Tie}
def EJ{i:Int}(h0:0<=i)(h1:i<ts.length):atI (ts.map trV) i=dF (trV<|ts[i.toNat]?.getD (0,0,0)):=by
 have h2:i.toNat<ts.length:=by lia
 refine YE h0 ?_;rw[Ó,É h2];rfl
def AJ{pre:List En}(x:dY h Y)(he:Y.es=pre++e::ĭ)(o:e.B.ok)(hp:∀q∈e.B.ties,q.1<Y.ts.length)(hr:Y.road.length<=100000)
  (k:∀d g,dY g {Y with es:=pre++⟨e.num,e.b,e.t,d,e.B.ticked⟩::ĭ,road:=Y.road++Yz Y.ts e.num e.B.told}->h d=dG->Ex Y.adr h g->Q .non g):wF P (n+5) "Yard.tick_of" [.ref Y.y,.int e.num] h Q X:=by
 have hm:e∈Y.es:=by rw[he];simp
 have lk:(stands Y.es).lookup e.num=dF e.b:=W4 (by rw[ZM];exact x.key)<|ã.mpr ⟨e,hm,rfl⟩;let⟨xi,xl,xs,xf,xr,xb,xnd,xk⟩:=id x;refine Xm ?_
 exists Ym xs rfl
 rw[Yb,lk];walk_at "p";refine Z9 xs rfl (by rw[Yo,lk];rfl) ?_;have ba:=xb e hm;have bi:=ba.ins;refine' Fe ba o λp d g1 cb hd1 ba1 ep x1 npd=>?_;have Y1:=x.change he x1 ba1 (.inl rfl)<|.inr hd1;let⟨yi,yl,ys,yf,yr,yb,ynd,yk⟩:=id Y1;dsimp only at yi yl ys yf yr yb;have npa:∀a∈Y.adr,a≠p:=λa ha z=>x.taken ha<|z▸cb;have npr:Y.rd≠p:=npa _ (Û _<|by simp);have hbm:e.b∈Y.adr:=È _ (Wz hm).1;have df:(sortI (e.B.told.ties.map (·.1))).length<=16:=by rw[sortI,Μ,À];exact o.told.tlen
 have htie:∀i∈sortI (e.B.told.ties.map (·.1)),0<=i/\i<Y.ts.length:=λi hi=>by let⟨q,hq,rfl⟩:=ã.mp<|mem_sort.mp hi;rw[show e.B.told.ties=e.B.ties from (YZ e.B.grown<|YG e.B.grown).2.1]at hq;exact⟨(o.rg q hq).1,hp q hq⟩
 refine' Zp (λi en g=>Sm3 λv2 v3 v4=>Cj4 (en=[dF<|.ref Y.y,dF<|.int e.num,v2,v3,v4]) (dY g {Y with es:=pre++⟨e.num,e.b,e.t,d,e.B.ticked⟩::ĭ,road:=Y.road++(Yz Y.ts e.num e.B.told).take i}) (g p=dF (.lst<|Z3 e.B.told))<|Ex Y.adr h g) ⟨_,_,_,rfl,by rw[List.take_zero,ó];exact Y1,ep,x1.sub λa ha=>by rw[Ø.mp ha];exact hbm⟩ (λi en g _ ⟨_,_,_,_,_,z,_⟩=>lsE z) ?_ ?_
 .rintro i v en g hv ⟨v2,v3,v4,rfl,Yi,ep,xi⟩ K hK;let⟨pl,hpl,rfl⟩:=ZO hv;have hplm:=á hpl;let⟨r0,r1⟩:=htie pl hplm;have et:=EJ (ts:=Y.ts) r0 r1;let⟨zi,zl,zs,zf,zr,zb,znd,zk⟩:=id Yi;dsimp only at zi zl zs zf zr zb;have hil:=(Ð.mp hpl).1
  exists dQ (xs:=[.tup<|Y.bs.map .int,.tup<|Y.ts.map trV]) (v:=.tup<|Y.ts.map trV) rfl
  exists dQ et
  exists BX
  refine' Zy zr ?_ ?_
  .rw[À,Ö,õ];exact Ñ (by lia:_<=100016) (by decide)
  dsimp only;have es:(Yz Y.ts e.num e.B.told)[i]?=dF (e.num,LQ Y.ts pl e.num,pl,ZK e.B.told pl):=by unfold Yz;rw[Ó,hpl];rfl
  have Y2:=Yi.setRoad<|Y.road++(Yz Y.ts e.num e.B.told).take (i+1);dsimp only at Y2;have er:(Y.road++(Yz Y.ts e.num e.B.told).take i).map rdV++[rdV (e.num,LQ Y.ts pl e.num,pl,ZK e.B.told pl)]=(Y.road++(Yz Y.ts e.num e.B.told).take (i+1)).map rdV:=by rw[Zf es,<-Đ,Ò (l₂:=[_])];rfl
  have er':(Y.road++(Yz Y.ts e.num e.B.told).take i).map rdV++[.tup [.int e.num,.int<|far (Y.ts[pl.toNat]?.getD (0,0,0)) e.num,.int pl,(ZK e.B.told pl).v]]=(Y.road++(Yz Y.ts e.num e.B.told).take (i+1)).map rdV:=er;rw[er'];refine' hK _ _ ⟨_,_,_,rfl,Y2,(dL npr.symm).trans ep,xi.trans<|Ex.upd<|Û _<|by simp⟩
 .rintro en g ⟨v2,v3,v4,rfl,Yi,ep,xi⟩;rw[show(Z3 e.B.told).length=(Yz Y.ts e.num e.B.told).length by unfold Z3 Yz;rw[À,À],ø]at Yi;refine' k d g Yi hd1 xi
def Fw{d:Dd}(x:dY h Y)(k:∀(g:Hs) (Q':Q1),Ext h g->dY g Y->(∀v g',Q .non g'->Q' v g')->wF P (n+5) d.fn [.ref Y.y,.int d.num] g Q' X):wF P (n+6) "Yard.deed" [.ref Y.y,d.v] h Q X:=by
 have xi0:=x.ins;refine WK ?_;refine' EB d.words λg1 x1=>?_;have x':=x.ext x1;have xi:=x'.ins;cases d<;>(
   fail
   repeat (first
     |(refine dP (a:=dJ) rfl ?_;fail;refine fc rfl ?_;fail)
     | (refine dP (a:=dI) rfl ?_;fail;refine fb rfl ?_;fail))
   refine k g1 _ x1 x' λv g' q=>?_
   refine' q)
structure Yc where
 bs:List Int
 ts:List Tie
 most:Int
 lives:List<|Int×Int
 br:List<|Int×Br
 fallen:List<|Int×Bool
 road:List<|Int×Int×Int×L
abbrev enC(es:List En):List<|Int×Br:=es.map λe=>(e.num,e.B)
abbrev Yd.cc(Y:Yd):Yc:=⟨Y.bs,Y.ts,Y.most,Y.lives,enC Y.es,Y.fallen,Y.road⟩
abbrev upC(k:Int)(F:Br->Br)(l:List<|Int×Br):List<|Int×Br:=l.map λq=>if q.1=k then(q.1,F q.2)else q
abbrev L7(on:Bool)(p:Int)(t:Tie)(l:List<|Int×Br):List<|Int×Br:=upC t.2.1 (tieF on p t.1 t.2.2)<|upC t.1 (tieF on p t.2.1 t.2.2) l
abbrev Yc.tie(C:Yc)(p:Int):Tie:=C.ts[p.toNat]?.getD (0,0,0)
abbrev onC(C:Yc)(p:Int):Bool:=!(C.fallen.lookup p).isSome&&((C.br.lookup (C.tie p).1).isSome&&(C.br.lookup (C.tie p).2.1).isSome)
abbrev Yc.set1(C:Yc)(p:Int):Yc:={C with br:=L7 (onC C p) p (C.tie p) C.br}
abbrev Yc.sets(C:Yc)(l:List Tie):Yc:=l.foldl (λC r=>C.set1 r.1) C
def X8(es:List En):(enC es).map (·.1)=es.map (·.num):=by unfold enC;rw[ú];rfl
def look_iff{k:Int}:(kvs.lookup k).isSome=fJ (k∈kvs.map (·.1)):=by
 cases z:kvs.lookup k with
 |none=>exact(fE<|Xy z).symm
 |some v=>exact(fG (û (f:=(·.1))<|ZD z)).symm
def WY{k:Int}(es:List En):enC (Yt k F es)=upC k F (enC es):=by
 unfold enC Yt upC;rw[ú,ú];refine ě λe _=>?_;show((if e.num=k then({e with B:=F e.B}:En)else e).num,(if e.num=k then({e with B:=F e.B}:En)else e).B)=if e.num=k then(e.num,F e.B)else(e.num,e.B)
 split<;>rfl
def BL{p:Int}{t:Tie}(es:List En):enC (setT on p t es)=L7 on p t (enC es):=by unfold setT L7;rw[WY,WY]
def IN{k:Int}:((enC es).lookup k).isSome=((stands es).lookup k).isSome:=look_iff.trans ((decide_eq_decide.mpr<|by rw[X8,ZM]).trans look_iff.symm)
def Pv{p:Int}:onT Y p (Y.ts[p.toNat]?.getD (0,0,0))=onC Y.cc p:=by unfold onT onC;rw[<-IN,<-IN];rfl
def Ow{p:Int}:({Y with es:=setT (onT Y p<|Y.ts[p.toNat]?.getD (0,0,0)) p (Y.ts[p.toNat]?.getD (0,0,0)) Y.es}:Yd).cc=Y.cc.set1 p:=by rw[Pv];unfold Yd.cc Yc.set1;dsimp only;rw[BL];rfl
def N5:∀(l:List Tie) (Y:Yd),(ZY Y l).cc=Y.cc.sets l
 |[],_=>rfl
 |r::l,Y=>(N5 l _).trans (congrArg (Yc.sets · l)<|Ow (Y:=Y) (p:=r.1))
abbrev step(C:Yc):Dd->Option Yc
 |.tick b=>(C.br.lookup b).map λB=>{C with br:=upC b Br.ticked C.br,road:=C.road++Yz C.ts b B.told}
 |.come p=>if p<0 then dG else(C.road[p.toNat]?).map λr=>{C with br:=upC r.2.1 (YC · r.2.2.1 r.2.2.2) C.br,road:=C.road.eraseIdx p.toNat}
 |.lost p=>if p<0 then dG else(C.road[p.toNat]?).map λr=>{C with road:=C.road.eraseIdx p.toNat}
 |.fallB b=>if(C.br.lookup b).isSome then dF (Yc.sets {C with br:=ZA C.br b}<|fq b 0 C.ts)else dG
 |.fallT p=>if(0<=p/\p<C.ts.length)/\(C.fallen.lookup p).isSome=dJ then dF (Yc.set1 {C with fallen:=ZC C.fallen p dI} p)else dG
 |.backB b=>if(C.br.lookup b).isSome then dG else(C.lives.lookup b).map λl=>Yc.sets {C with lives:=ZC C.lives b<|l+1,br:=C.br++[(b,Z7 b (l+1) C.most [])]}<|fq b 0 C.ts
 |.backT p=>if(C.fallen.lookup p).isSome then dF (Yc.set1 {C with fallen:=ZA C.fallen p} p)else dG
structure Bok(m:Nat)(B:Br):Prop where
 ok:B.ok
 pl:∀t∈B.ties,t.1<m
def Bok.ticked{m:Nat}(o:Bok m B):Bok m B.ticked:=⟨o.ok.ticked,λt ht=>o.pl t<|by rwa [show B.ticked.ties=B.ties from (YZ B.grown<|YG B.grown).2.1]at ht⟩
def Bok.heard{m:Nat}(o:Bok m B){p:Int}{l:L}:Bok m<|YC B p l:=⟨o.ok.heard,λt ht=>o.pl t<|by revert ht;unfold YC;split<;>(try split)<;>exact id⟩
def Bok.tieF{m:Nat}(o:Bok m B){p far:Int}(h0:0<=p)(h1:p<m)(hm:m<=16):Bok m<|fz.tieF on p far c B:=⟨Mf o.ok h0 (by lia),λt ht=>by
  unfold fz.tieF at ht
  split at ht
  . unfold upB at ht
    split at ht
    . exact o.pl t ht
    . rcases W7 ht with e|ht
      . rw[e];exact h1
      . exact o.pl t ht
  . exact o.pl t<|YO ht⟩
structure Yc.gd(C:Yc)(N:Nat):Prop where
 no:d9 C.bs C.ts
 nd:(C.br.map (·.1)).Nodup
 sub:∀q∈C.br,q.1∈C.bs
 ok:∀q∈C.br,Bok C.ts.length q.2
 lv:C.lives.map (·.1)=C.bs
 fn:(C.fallen.map (·.1)).Nodup
 fr:∀q∈C.fallen,0<=q.1/\q.1<C.ts.length
 len:C.road.length<=16*N
def Js{k:Int}(l:List<|Int×Br):(upC k F l).map (·.1)=l.map (·.1):=by unfold upC;rw[ú];refine ě λe _=>?_;show(if e.1=k then(e.1,F e.2)else e).1=e.1;split<;>rfl
def Fp{k:Int}{l:List (Int×Br)}{R:Br->Prop}(h:∀q∈l,R q.2)(hF:∀B,R B->R (F B)):∀q∈upC k F l,R q.2:=λq hq=>by
 let⟨e,he,rfl⟩:=ã.mp hq;split
 .exact hF _<|h e he
 .exact h e he
def keys_sub{l:List (Int×Br)}{bs:List Int}:(∀q∈l,q.1∈bs)↔∀x∈l.map (·.1),x∈bs:=⟨λh x hx=>by let⟨q,hq,rfl⟩:=ã.mp hx;exact h q hq,λh q hq=>h _<|û hq⟩
variable {C:Yc} {N:Nat} {M:Nat} {rd:List (Int×Int×Int×L)}
def Yc.gd.upC{k:Int}(g:C.gd N)(hF:∀B,Bok C.ts.length B->Bok C.ts.length (F B))(hr:rd.length<=16*M):({C with br:=fz.upC k F C.br,road:=rd}:Yc).gd M :=
 ⟨g.no,by show((fz.upC k F C.br).map (·.1)).Nodup;rw[Js];exact g.nd,keys_sub.mpr (by show ∀x∈(fz.upC k F C.br).map (·.1),_;rw[Js];exact keys_sub.mp g.sub),Fp g.ok hF,g.lv,g.fn,g.fr,hr⟩
def Yc.gd.set1{p:Int}(g:C.gd N)(h0:0<=p)(h1:p<C.ts.length):(C.set1 p).gd N :=
 (g.upC (M:=N) (k:=(C.tie p).1) (F:=tieF (onC C p) p (C.tie p).2.1 (C.tie p).2.2) (λ_ o=>o.tieF h0 h1 g.no.sixteen) g.len).upC (λ_ o=>o.tieF h0 h1 g.no.sixteen) g.len
def Yc.gd.sets{N:Nat}:∀{l:List Tie}{C:Yc},C.gd N->(∀r∈l,0<=r.1/\r.1<C.ts.length)->(C.sets l).gd N
 |[],_,g,_=>g
 |r::l,C,g,h=>Yc.gd.sets (l:=l) (C:=C.set1 r.1) (g.set1 (h r<|by simp).1 (h r<|by simp).2) λq hq=>h q (by simp[hq])
def Yc.gd.more(g:C.gd N)(h:N<=M):C.gd M:=⟨g.no,g.nd,g.sub,g.ok,g.lv,g.fn,g.fr,Ô g.len<|cT _ h⟩
def JJ:∀(l:List Tie) (C:Yc),(C.sets l).bs=C.bs/\(C.sets l).ts=C.ts/\(C.sets l).most=C.most
 |[],_=>⟨rfl,rfl,rfl⟩
 |r::l,C=>JJ l<|C.set1 r.1
def Dq{b:Int}:∀r∈fq b 0 ts,0<=r.1/\r.1<ts.length:=λr hr=>by have:=(J9 (b:=b) (l:=ts) (k:=0)).2 r hr;lia
def keys_look{b:Int}:(C.br.lookup b).isSome=dI↔b∈C.br.map (·.1):=by rw[look_iff];simp
def U1{b:Int}(o:B.ok):(Yz ts b B.told).length<=16:=by unfold Yz;rw[À,sortI,Μ,À];exact o.told.tlen
def EM{D:Yc}{d:Dd}(g:C.gd N)(s:step C d=dF D):D.gd (N+1)/\D.bs=C.bs/\D.ts=C.ts/\D.most=C.most:=by
 have hlen:=g.len;cases d with
 |tick b =>let⟨B,hB,rfl⟩:=Ï.mp s;have ok:B.ok:=(g.ok _<|ZD hB).ok;have:=U1 (ts:=C.ts) (b:=b) ok;exact⟨g.upC (λ_ o=>o.ticked) (by rw[Ö];lia),rfl,rfl,rfl⟩
 |come p =>
  dsimp only[step]at s;split at s
  .cases s
  .obtain⟨r,hr,rfl⟩:=Ï.mp s;exact⟨g.upC (λ_ o=>o.heard)<|Ô (bu _ _)<|by lia,rfl,rfl,rfl⟩
 |lost p =>
  dsimp only[step]at s;split at s
  .cases s
  .obtain⟨r,hr,rfl⟩:=Ï.mp s;exact⟨⟨g.no,g.nd,g.sub,g.ok,g.lv,g.fn,g.fr,Ô (bu _ _)<|by lia⟩,rfl,rfl,rfl⟩
 |fallB b =>
  dsimp only[step]at s;split at s
  .cases s;refine⟨Yc.gd.more (Yc.gd.sets ⟨g.no,Y3 g.nd b,λq hq=>g.sub q<|YO hq,λq hq=>g.ok q<|YO hq,g.lv,g.fn,g.fr,hlen⟩ Dq) (by lia),?_⟩;let⟨e1,e2,e3⟩:=JJ (fq b 0 C.ts) {C with br:=ZA C.br b};exact⟨e1,e2,e3⟩
  .cases s
 |fallT p =>
  dsimp only[step]at s;split at s
  .rename_i h;cases s;refine⟨Yc.gd.more (Yc.gd.set1 ⟨g.no,g.nd,g.sub,g.ok,g.lv,WE g.fn p dI,λq hq=>?_,hlen⟩ h.1.1 h.1.2) (by lia),rfl,rfl,rfl⟩;rcases W7 hq with e|hq
   .rw[e];exact h.1
   .exact g.fr q hq
  .cases s
 |backB b =>
  dsimp only[step]at s;split at s
  .cases s
  .rename_i h;let⟨l,hl,rfl⟩:=Ï.mp s;have hk:(C.lives.lookup b).isSome=dI:=by rw[hl];rfl
   have hb:b∈C.bs:=by rw[<-g.lv];rw[look_iff]at hk;exact of_decide_eq_true hk
   have hn:b∉C.br.map (·.1):=λz=>h<|keys_look.mpr z;refine⟨Yc.gd.more (Yc.gd.sets ⟨g.no,?_,λq hq=>?_,λq hq=>?_,?_,g.fn,g.fr,hlen⟩ Dq) (by lia),?_⟩
   .show((C.br++[(b,Z7 b (l+1) C.most [])]).map (·.1)).Nodup;rw[Ò,æ];exact⟨g.nd,by simp,λa ha c hc=>by have hc:c=b:=Ø.mp hc;rw[hc];exact λz=>hn<|z▸ha⟩
   .rcases â.mp hq with hq|hq
    .exact g.sub q hq
    .rw[Ø.mp hq];exact hb
   .rcases â.mp hq with hq|hq
    .exact g.ok q hq
    .rw[Ø.mp hq];exact⟨O9,λt ht=>nomatch ht⟩
   .show(ZC C.lives b<|l+1).map (·.1)=_;rw[JP,fA hk];exact g.lv
   .exact JJ (fq b 0 C.ts) {C with lives:=ZC C.lives b<|l+1,br:=C.br++[(b,Z7 b (l+1) C.most [])]}
 |backT p =>
  dsimp only[step]at s;split at s
  .rename_i h;cases s;let⟨v,hv⟩:=ò.mp h;have hp:=g.fr _<|ZD hv;exact⟨Yc.gd.more (Yc.gd.set1 ⟨g.no,g.nd,g.sub,g.ok,g.lv,Y3 g.fn p,λq hq=>g.fr q<|YO hq,hlen⟩ hp.1 hp.2) (by lia),rfl,rfl,rfl⟩
  .cases s
def WI{b:Int}:(Y.cc.br.lookup b).isSome=((stands Y.es).lookup b).isSome:=IN
def UU{pre:List En}(he:Y.es=pre++e::ĭ)(nd:(Y.es.map (·.num)).Nodup):enC (pre++⟨e.num,e.b,t,d,F e.B⟩::ĭ)=upC e.num F (enC Y.es):=by rw[he]at nd ⊢;rw[<-WY,Nq nd];unfold enC;rw[Ò,Ò];rfl
def O5{pre:List En}(he:Y.es=pre++e::ĭ)(ht:t=e.t)(hd:d=e.d\/h d=dG):∀a∈({Y with es:=pre++⟨e.num,e.b,t,d,B⟩::ĭ,road:=rd}:Yd).adr,a∈Y.adr\/h a=dG:=λa ha=>by
 subst ht;unfold Yd.adr at ha ⊢;rw[he,YU];dsimp only at ha;rw[YU]at ha;simp only[â,Æ,å,or_false]at ha ⊢;rcases hd with rfl|hd
 .exact .inl ha
 .rcases ha with ha|ha|(rfl|rfl|rfl)|ha
  .exact .inl<|.inl ha
  .exact .inl<|.inr<|.inl ha
  .exact .inl<|.inr<|.inr<|.inl<|.inl rfl
  .exact .inl<|.inr<|.inr<|.inl<|.inr<|.inl rfl
  .exact .inr hd
  .exact .inl<|.inr<|.inr<|.inr ha
def N4:∀{l bs:List Int},l.Nodup->(∀x∈l,x∈bs)->l.length<=bs.length
 |[],_,_,_=>Ř _
 |a::l,bs,nd,h=>by have ha:=h a (by simp);have:=N4 (l:=l) (bs:=bs.erase a) (Ć.mp nd).2 λx hx=>(List.mem_erase_of_ne λz:x=a=>(Ć.mp nd).1<|z▸hx).mpr (h x<|by simp[hx]);rw[bf ha]at this;have:=List.length_pos_of_mem ha;rw[Ç];lia
def W9{p:Int}{β:Type}{f:Int×Int×Int×L->β}(hp:¬(0<=p/\p<Y.road.length)):(if p<0 then dG else(Y.cc.road[p.toNat]?).map f)=dG:=by
 split
 .rfl
 .rw[show Y.cc.road[p.toNat]?=dG from Ŧ<|by show Y.road.length<=_;lia];rfl
structure Mv(h:Hs)(Y:Yd)(g:Hs)(Z:Yd):Prop where
 y:Z.y=Y.y
 at_:dY g Z
 nw:∀a∈Z.adr,a∈Y.adr\/h a=dG
 ex:Ex Y.adr h g
def Mv.refl(x:dY h Y):Mv h Y h Y:=⟨rfl,x,λ_=>.inl,Ex.refl⟩
def Mv.off(m:Mv h Y g Z)(na:a∉Y.adr)(e:h a=dF o):a∉Z.adr/\g a=dF o:=⟨λz=>(m.nw a z).elim na λy=>(by rw[e]at y;cases y),m.ex.get na e⟩
def Mv.trans{f:Hs}(m:Mv h Y g Z)(l:Mv g Z f W):Mv h Y f W:=by
 refine⟨l.y.trans m.y,l.at_,λa ha=>?_,⟨λna e=>let ⟨h1,h2⟩:=m.off na e;l.ex.get h1 h2⟩⟩;rcases l.nw a ha with z|z
 .exact m.nw a z
 .by_cases na:a∈Y.adr
  .exact .inl na
  .cases e:h a with
   |none=>exact .inr rfl
   |some o=>rw[m.ex.get na e]at z;cases z
def Mv.ext{f:Hs}(m:Mv h Y g Z)(x:Ext g f):Mv h Y f Z:=⟨m.y,m.at_.ext x,m.nw,m.ex.trans<|.of x⟩
def Mv.put(m:Mv h Y g Z)(hp:h p=dG)(np:p∉Z.adr):Mv h Y (upd g p o) Z:=⟨m.y,m.at_.keep (S:=[p]) (Ex.upd<|by simp) λa ha z=>np<|Ø.mp z▸ha,m.nw,⟨λna e=>by rw[dL<|Zb e hp];exact m.ex.get na e⟩⟩
def Mi{b:Int}(h:(stands es).lookup b=dG):b∉es.map (·.num):=by rw[<-ZM];exact Xy h
section
variable {Y:Yd}
def Jw{p:Int}(x:dY h Y)(hp:¬(0<=p/\p<Y.road.length))(k:X "NoDeed" h):wF P (n+1) "Yard.take_off" [.ref Y.y,.int p] h Q X:=by
 have xi:=x.ins;have xr:=x.road;have hrl:(Y.road.map rdV).length=Y.road.length:=À _;refine Xf ?_;refine' fe (λp0=>?_) (λp0=>?_)
 .fail;refine fb (by rw[hrl];simp;lia) ?_;refine' k
 .walk_at "p";exact k
def YQ{d:Dd}(x:dY h Y)(gd:Y.cc.gd N)(hN:N<=6000)(k:∀(Y':Yd) g',step Y.cc d=dF Y'.cc->Mv h Y g' Y'->Q .non g')(kx:∀g',step Y.cc d=dG->dY g' Y->Ext h g'->X "NoDeed" g'):wF P (n+6) "Yard.deed" [.ref Y.y,d.v] h Q X:=by
 refine Fw x λg Q' x1 x' hq=>?_;have no:d9 Y.bs Y.ts:=gd.no;have ok:∀e∈Y.es,Bok Y.ts.length e.B:=λe he=>gd.ok (e.num,e.B)<|ã.mpr ⟨e,he,rfl⟩;have oks:∀e∈Y.es,e.B.ok:=λe he=>(ok e he).ok;have hl:Y.road.length<=16*N:=gd.len;have key:=x.key;have xi:=x'.ins;have xs:=x'.stand;have xf:=x'.fallen;have xl:=x'.lives;have fin:∀{Y':Yd} {g'},dY g' Y'->step Y.cc d=dF Y'.cc->Y'.y=Y.y->(∀a∈Y'.adr,a∈Y.adr\/g a=dG)->Ex Y.adr g g'->∀v,Q' v g':=λ{Y' g'} y s e f ex v=>hq v g'<|k Y' g' s ⟨e,y,λa ha=>(f a ha).imp id λz=>ZH x1 z,(Ex.of x1).trans ex⟩;have bad:step Y.cc d=dG->X "NoDeed" g:=λs=>kx g s x' x1;have h10:Y.lives.length<=10:=by have e:=congrArg List.length gd.lv;rw[À]at e;have:=no.ten;have:Y.cc.bs.length=Y.bs.length:=rfl;have:Y.cc.lives.length=Y.lives.length:=rfl;lia
 have e10:Y.es.length<=10:=by
  have:=N4 gd.nd<|keys_sub.mp gd.sub;have h2:(Y.cc.br.map (·.1)).length=Y.es.length:=by show((enC Y.es).map (·.1)).length=_;rw[X8,À]
  have:=no.ten;have:Y.cc.bs.length=Y.bs.length:=rfl;lia
 have f16:Y.fallen.length<=16:=by
  have:=Yh (m:=16) gd.fn λx hx=>by let⟨q,hq,rfl⟩:=ã.mp hx;have:=gd.fr q hq;have:=no.sixteen;have:Y.cc.ts.length=Y.ts.length:=rfl;lia
  rw[À]at this;exact this
 cases d with
 |tick b =>
  show wF P (n+5) "Yard.tick_of" [.ref Y.y,.int b] g Q' X;cases lk:(stands Y.es).lookup b with
  |none =>
   refine Xm ?_
   exists Ym xs rfl
   rw[Yb,lk];walk_at "p";refine bad ?_;have:=WI (Y:=Y) (b:=b);rw[lk]at this;show(Y.cc.br.lookup b).map _=dG;rw[Option.isSome_eq_false_iff.mp this |> az.mp];rfl
  |some a =>
   let⟨e,pre,ĭ,he,rfl,rfl⟩:=Xr lk;have hm:e∈Y.es:=by rw[he];simp
   refine AJ x' he (oks e hm) (ok e hm).pl (by lia) λd' g2 y2 hd x2=>?_;refine fin y2 ?_ rfl (O5 he rfl<|.inr hd) x2 .non;show(Y.cc.br.lookup e.num).map _=_;rw[show Y.cc.br.lookup e.num=dF e.B from W4 gd.nd<|ã.mpr ⟨e,hm,rfl⟩];unfold Yd.cc;dsimp only;rw[UU (F:=Br.ticked) he key];rfl
 |come p =>
  show wF P (n+5) "Yard.come" [.ref Y.y,.int p] g Q' X;by_cases hp:0<=p/\p<Y.road.length
  .obtain⟨q,rfl⟩:∃q:Nat,p=q:=⟨p.toNat,by lia⟩
   have hr:=É (l:=Y.road) (i:=q) (by lia);generalize Y.road[q]'(by lia)=r at hr;have st:step Y.cc (.come q)=dF {Y.cc with br:=upC r.2.1 (YC · r.2.2.1 r.2.2.2) Y.cc.br,road:=Y.road.eraseIdx q}:=by show(if(q:Int)<0 then dG else(Y.road[(q:Int).toNat]?).map _)=_;rw[fB (by lia),ä,hr];rfl
   cases lk:(stands Y.es).lookup r.2.1 with
   |none =>refine BD x' hr (by lia) (Mi lk) λg2 y2 x2=>fin y2 ?_ rfl (λa ha=>.inl ha) x2 .non;rw[st];unfold Yd.cc;dsimp only;rw[<-WY,Wt<|Mi lk]
   |some a =>
    let⟨e,pre,ĭ,he,hn,rfl⟩:=Xr lk;have hm:e∈Y.es:=by rw[he];simp
    refine Eo x' hr (by lia) he hn.symm (oks e hm) λg2 y2 x2=>fin y2 ?_ rfl (O5 he rfl<|.inl rfl) x2 .non;rw[st];unfold Yd.cc;dsimp only;rw[<-hn,UU (F:=(YC · r.2.2.1 r.2.2.2)) he key]
  .refine Xw ?_;refine' Jw x' hp (bad<|W9 hp)
 |lost p =>
  show wF P (n+5) "Yard.take_off" [.ref Y.y,.int p] g Q' X;by_cases hp:0<=p/\p<Y.road.length
  .obtain⟨q,rfl⟩:∃q:Nat,p=q:=⟨p.toNat,by lia⟩
   have hr:=É (l:=Y.road) (i:=q) (by lia);refine XS x' hr (by lia) λg2 y2 x2=>fin y2 ?_ rfl (λa ha=>.inl ha) (x2.sub λa ha=>by rw[Ø.mp ha];exact Û _<|by simp) _;show(if(q:Int)<0 then dG else(Y.road[(q:Int).toNat]?).map _)=_;rw[fB (by lia),ä,hr];rfl
  .exact Jw x' hp<|bad<|W9 hp
 |fallB b =>
  show wF P (n+5) "Yard.fall_of_bridge" [.ref Y.y,.int b] g Q' X;have lc:=WI (Y:=Y) (b:=b);cases lk:(stands Y.es).lookup b with
  |none =>
   rw[lk]at lc;refine ZZ ?_
   exists Ym xs rfl
   rw[Yb,lk];walk_at "p";exact bad (fB<|by rw[lc];decide)
  |some a =>
   rw[lk]at lc;refine Co no x' oks (by rw[<-ZM];exact û (f:=(·.1))<|ZD lk) λg2 y2 gd2 x2=>?_;have sm:=Xa (fq b 0 Y.ts) {Y with es:=YM b Y.es};refine fin y2 ?_ sm.y (λa ha=>.inl ?_) x2 .non
   .rw[N5];refine(fA lc).trans ?_;congr 2;unfold Yd.cc;dsimp only;congr 1;unfold ZA enC YM;rw[List.filter_map];rfl
   .rw[sm.adr]at ha;exact((œ _).append<|W6<|XB b Y.es).subset ha
 |fallT p =>
  show wF P (n+5) "Yard.fall_of_tie" [.ref Y.y,.int p] g Q' X;have df:(Y.ts.map trV).length=Y.ts.length:=À _;by_cases hp:0<=p/\p<Y.ts.length
  .obtain⟨q,rfl⟩:∃q:Nat,p=q:=⟨p.toNat,by lia⟩
   have et:=É (l:=Y.ts) (i:=q) (by lia);have eg:Y.ts[(q:Int).toNat]?.getD (0,0,0)=Y.ts[q]'(by lia):=by rw[ä,et];rfl
   cases lk:Y.fallen.lookup (q:Int)with
   |none =>
    refine CS no x' oks et lk (by lia) λg2 y2 x2=>fin y2 ?_ rfl (λa ha=>.inl ?_) x2 .non
    .refine(fA ⟨hp,by show(Y.fallen.lookup _).isSome=dJ;rw[lk];rfl⟩).trans<|congrArg dF ?_;have:=Ow (Y:={Y with fallen:=ZC Y.fallen q dI}) (p:=q);dsimp only at this;rw[eg]at this;exact this.symm
    .unfold Yd.adr at ha ⊢;dsimp only at ha
     rwa [JW]at ha
   |some v =>
    refine ZP ?_
    exists ZX
    fail;refine fb (by simp) ?_
    exists dQ (xs:=[.tup<|Y.bs.map .int,.tup<|Y.ts.map trV]) (v:=.tup<|Y.ts.map trV) rfl
    fail;refine fc (by rw[df];simpa using hp.2) ?_
    exists Wb xf rfl
    rw[Yb,lk];walk_at "p";exact bad (fB λz=>by have z:=z.2;have:(Y.fallen.lookup (q:Int)).isSome=dJ:=z;rw[lk]at this;cases this)
  .refine ZP ?_
   exists ZX
   fail;have bd:=bad<|fB λz=>hp z.1;refine fe (λp0=>?_) λp0=>?_
   .exists dQ (xs:=[.tup<|Y.bs.map .int,.tup<|Y.ts.map trV]) (v:=.tup<|Y.ts.map trV) rfl
    fail;refine fb (by rw[df];simp;lia) ?_;walk_at "p";exact bd
   .walk_at "p";exact bd
 |backB b =>
  show wF P (n+5) "Yard.back_of_bridge" [.ref Y.y,.int b] g Q' X;have lc:=WI (Y:=Y) (b:=b);cases ll:Y.lives.lookup b with
  |none =>
   refine ZG ?_
   exists Ym xl rfl
   rw[Yb,ll];fail;walk_at "p";refine bad ?_;dsimp only[step];split
   .rfl
   .show(Y.lives.lookup b).map _=dG;rw[ll];rfl
  |some life =>
   cases lk:(stands Y.es).lookup b with
   |some a =>
    rw[lk]at lc;refine ZG ?_
    exists Ym xl rfl
    rw[Yb,ll];walk_at "p";refine Wb xs rfl ?_;rw[Yb,lk];walk_at "p";exact bad<|fA lc
   |none =>
    rw[lk]at lc;refine BF no x' oks ll (Mi lk) (by lia) (by lia) λq t d' g2 fr y2 gd2 x2=>?_;have sm:=Xa (fq b 0 Y.ts) {Y with lives:=ZC Y.lives b<|life+1,es:=Y.es++[⟨b,q,t,d',Z7 b (life+1) Y.most []⟩]};refine fin y2 ?_ sm.y (λa ha=>?_) x2 .non
    .rw[N5];refine(fB<|by rw[lc];decide).trans ?_;show(Y.lives.lookup b).map _=_;rw[ll];congr 2;unfold Yd.cc;dsimp only;unfold enC;rw[Ò];rfl
    .rw[sm.adr]at ha;have z:a∈[Y.y,Y.lv,Y.st,Y.fl,Y.rd]++enA (Y.es++[⟨b,q,t,d',Z7 b (life+1) Y.most []⟩]):=ha;rw[XY,<-Đ]at z;rcases â.mp z with z|z
     .exact .inl z
     .exact .inr<|fr a z
 |backT p =>
  show wF P (n+5) "Yard.back_of_tie" [.ref Y.y,.int p] g Q' X;cases lk:Y.fallen.lookup p with
  |none =>
   refine Yq ?_
   exists Ym xf rfl
   rw[Yb,lk];walk_at "p";exact bad (fB<|by show ¬(Y.fallen.lookup p).isSome=dI;rw[lk];decide)
  |some v =>
   have hp:=gd.fr _<|ZD lk;have db:p<Y.ts.length:=hp.2;obtain⟨q,rfl⟩:∃q:Nat,p=q:=⟨p.toNat,by have:0<=p:=hp.1;lia⟩
   have et:=É (l:=Y.ts) (i:=q) (by lia);have eg:Y.ts[(q:Int).toNat]?.getD (0,0,0)=Y.ts[q]'(by lia):=by rw[ä,et];rfl
   refine A6 no x' oks et lk λg2 y2 x2=>fin y2 ?_ rfl (λa ha=>.inl ?_) x2 .non
   .refine(fA<|by show(Y.fallen.lookup _).isSome=dI;rw[lk];rfl).trans<|congrArg dF ?_;have:=Ow (Y:={Y with fallen:=ZA Y.fallen q}) (p:=q);dsimp only at this;rw[eg]at this;exact this.symm
   .unfold Yd.adr at ha ⊢;dsimp only at ha
    rwa [JW]at ha
end
abbrev Yc.at_(C:Yc)(b:Int):Br:=(C.br.lookup b).getD<|Z7 0 0 0 []
abbrev Yc.keys(C:Yc):List Int:=sortI (C.br.map (·.1))
abbrev Mx(C:Yc):List Val:=C.keys.map λb=>.tup [.int b,(C.at_ b).label.v]
abbrev E9(C:Yc)(b p:Int):String:=if(C.br.lookup b).isSome then Cl (C.at_ b) p else "down"
abbrev Yc.ends(C:Yc)(p:Int):String×String:=(E9 C (C.tie p).1 p,E9 C (C.tie p).2.1 p)
abbrev Yc.downs(C:Yc):List Int:=C.bs.filter λb=>!(C.br.lookup b).isSome
abbrev Yc.cuts(C:Yc):List Int:=sortI (C.fallen.map (·.1))
def Yc.gd.ten(g:C.gd N):(C.br.map (·.1)).length<=10:=Ô (N4 g.nd<|keys_sub.mp g.sub) g.no.ten
def Yc.gd.f16(g:C.gd N):(C.fallen.map (·.1)).length<=16:=Yh (m:=16) g.fn λx hx=>by let⟨q,hq,rfl⟩:=ã.mp hx;have:=g.fr q hq;have:=g.no.sixteen;lia
def Wp:C.keys.length=(C.br.map (·.1)).length:=(Ŀ _ _).length_eq
def keys_mem{b:Int}:b∈C.keys↔(C.br.lookup b).isSome=dI:=by unfold Yc.keys;rw[mem_sort,keys_look]
def Nf:C.cuts.length=(C.fallen.map (·.1)).length:=(Ŀ _ _).length_eq
def dY.at_(x:dY h Y){b:Int}(hb:(Y.cc.br.lookup b).isSome=dI):∃e∈Y.es,e.num=b/\(fz.stands Y.es).lookup b=dF e.b/\Y.cc.at_ b=e.B/\dX h e.b e.t e.d e.B:=by
 rw[WI]at hb;let⟨a,ha⟩:=ò.mp hb;let⟨e,pre,ĭ,he,rfl,rfl⟩:=Xr ha;have hm:e∈Y.es:=by rw[he];simp
 refine⟨e,hm,rfl,ha,?_,x.brs e hm⟩;have:(enC Y.es).lookup e.num=dF e.B:=W4 (by rw[X8];exact x.key)<|ã.mpr ⟨e,hm,rfl⟩;show((enC Y.es).lookup e.num).getD _=_;rw[this];rfl
section
variable {Y:Yd}{N:Nat}
def Jg(x:dY h Y)(k:∀p g,h p=dG->Ext h g->g p=dF (.lst<|Y.road.map rdV)->Q (.ref p) g):wF P (n+1) "Yard.road" [.ref Y.y] h Q X:=by have xi:=x.ins;have xr:=x.road;refine Nx ?_;refine' Za k
def Mm(x:dY h Y)(k:Q (Yr Y.bs Y.ts) h):wF P (n+1) "Yard.net" [.ref Y.y] h Q X:=by have xi:=x.ins;refine OS ?_;refine' k
def Wu(x:dY h Y)(gd:Y.cc.gd N)(k:∀p g,h p=dG->Ext h g->g p=dF (.lst<|Mx Y.cc)->Q (.ref p) g):wF P (n+2) "Yard.labels" [.ref Y.y] h Q X:=by
 have xi:=x.ins;have xs:=x.stand;have ek:(stands Y.es).map (·.1)=Y.cc.br.map (·.1):=(ZM _).trans (X8 _).symm;have h10:=gd.ten;have kl:=Wp (C:=Y.cc);refine Kr ?_;refine' Ov xs (DU _) (by rw[ek];lia) (Za λp1 g1 cb x1 e1=>?_);rw[ek]at e1;have x':=x.ext x1;have xi:=x'.ins;have xs:=x'.stand;refine' ⟨Ñ (by rw[À];show Y.cc.keys.length<=10;lia) (by decide),?_⟩;refine Zw (λi ys g=>g=g1/\ys=(Y.cc.keys.take i).map λb=>.tup [.int b,(Y.cc.at_ b).label.v]) ⟨rfl,rfl⟩ (λi ys g _ ⟨z,_⟩=>by rw[z];exact lsE e1) ?_ ?_
 .rintro i v ys g hv ⟨rfl,rfl⟩ K hK;let⟨nm,hnm,rfl⟩:=ZO hv;let⟨e,he,en,lk,ea,ba⟩:=x'.at_<|keys_mem.mp<|á hnm;have bi:=ba.ins;walk_at "p";refine Z9 xs rfl (by rw[Yo,lk];rfl) ?_
  exists BG ba
  refine' hK _ _ ⟨rfl,?_⟩;rw[Zf (xs:=Y.cc.keys) hnm,Ò,<-ea];rfl
 .rintro ys g ⟨rfl,rfl⟩;rw[À,show(sortI (Y.cc.br.map (·.1))).length=Y.cc.keys.length from rfl,ø];exact Za λp g2 hp x2 ep=>k p g2 (ZH x1 hp) (x1.trans x2) ep
def Ng(x:dY h Y)(gd:Y.cc.gd N)(k:∀g,Ext h g->Q (.tup [.tup<|Y.cc.downs.map .int,.tup<|Y.cc.cuts.map .int]) g):wF P (n+1) "Yard.down" [.ref Y.y] h Q X:=by
 have xi:=x.ins;have xs:=x.stand;have hbl:(Y.bs.map Val.int).length<=10:=by rw[À];exact gd.no.ten
 refine Nh ?_
 exists dQ (xs:=[.tup<|Y.bs.map .int,.tup<|Y.ts.map trV]) (v:=.tup<|Y.bs.map .int) rfl
 refine' ⟨Ñ hbl (by decide),Zw (λi ys g=>g=h/\ys=((Y.bs.take i).filter λb=>!(Y.cc.br.lookup b).isSome).map .int) ⟨rfl,rfl⟩ (λ_ _ _ _ _=>trivial) ?_ ?_⟩
 .rintro i v ys g hv ⟨rfl,rfl⟩ K hK;let⟨b,hb,rfl⟩:=ZO hv;rw[Zf hb,Ϟ,ý,ao]at hK
  exists Ym xs rfl
  rw[Yb,<-WI];refine' ff (λhc=>?_) (λhc=>?_)
  .refine' hK _ _ ⟨rfl,by rw[hc,fA rfl,Ò];rfl⟩
  .exact hK _ _ ⟨rfl,by rw[hc,fB (by decide),ó,cp,ó]⟩
 rintro ys g ⟨rfl,rfl⟩;rw[À,ø];refine Za λp1 g1 cb x1 e1=>?_;have x':=x.ext x1;have xi:=x'.ins;have xf:=x'.fallen;refine' Ov xf (DU _) (by have:=gd.f16;show(Y.cc.fallen.map (·.1)).length<_;lia) (Za λp2 g2 db x2 e2=>?_);refine' k _ (x1.trans x2)
def Nk{b p:Int}(x:dY h Y)(k:Q (.str<|E9 Y.cc b p) h):wF P (n+4) "Yard.end_at" [.ref Y.y,.int b,.int p] h Q X:=by
 have xi:=x.ins;have xs:=x.stand;refine Ks ?_
 exists Ym xs rfl
 rw[Yb,<-WI];fail;unfold E9 at k;cases z:(Y.cc.br.lookup b).isSome with
 |false =>rw[z]at k;walk_at "p";exact k
 |true =>rw[z,fA rfl]at k;let⟨e,he,en,lk,ea,ba⟩:=x.at_ z;have bi:=ba.ins;walk_at "p";refine Z9 xs rfl (by rw[Yo,lk];rfl) ?_;fail;rw[ea]at k;exact LY ba k
def Uk{p:Nat}(x:dY h Y)(hp:p<Y.ts.length)(k:Q (.tup [.str (Y.cc.ends p).1,.str (Y.cc.ends p).2]) h):wF P (n+5) "Yard.ends" [.ref Y.y,.int p] h Q X:=by
 have xi:=x.ins;have df:(Y.ts.map trV).length=Y.ts.length:=À _;have eg:Y.cc.tie p=Y.ts[p]:=by show Y.ts[(p:Int).toNat]?.getD _=_;rw[ä,É hp];rfl
 refine NH ?_
 exists ZX
 fail;refine fb (by simp) ?_
 exists dQ (xs:=[.tup<|Y.bs.map .int,.tup<|Y.ts.map trV]) (v:=.tup<|Y.ts.map trV) rfl
 fail;refine fc (by rw[df];simpa using hp) ?_
 exists dQ (xs:=[.tup<|Y.bs.map .int,.tup<|Y.ts.map trV]) (v:=.tup<|Y.ts.map trV) rfl
 refine' dQ (v:=trV Y.ts[p]) (YE (by lia)<|by rw[ä,Ó,É hp];rfl) ?_;unfold Yc.ends at k;rw[eg]at k;unfold trV
 exists Nk x
 exists Nk x
 refine' k
end
def Hf{i:Int}(e:h a=dF (.lst<|ns.map .int))(q:KB (!fJ (i∈ns))):go (d7 h .notin (.int i)<|.ref a) KB:=dP (by show(inV h (.int i)<|.ref a).map _=_;unfold inV;simp only[e];rw[W3];rfl) q
def Pq{i:Int}(e:h a=dF (.lst<|ns.map .int))(q:KB<|fJ (i∈ns)):go (d7 h .isin (.int i)<|.ref a) KB:=dP (by show inV h (.int i) (.ref a)=_;unfold inV;simp only[e];rw[W3]) q
def lset(e:h a=dF (.lst<|ns.map .int))(m:ns.length<4000)(q:Q (.int (dedup ns).length) h):(biV h .lenSet [.ref a]).wp h Q:=wp_val (by show biLenSet h (.ref a)=_;unfold biLenSet sortOf;simp only[e,dZ,ï,Xq];rw[fA m]) q
def KS:∀(ns:List Int),(dedup ns).length=ns.length↔ns.Nodup
 |[]=>by simp[dedup]
 |n::ns=>by
  have h1:=ND ns;have h2:=đ (λy=>y != n)<|dedup ns;have ih:=KS ns;rw[dedup,Ç,Ç,Ć];constructor
  .intro h;have h3:(List.filter (λy=>y != n)<|dedup ns).length=(dedup ns).length:=by lia
   have h4:=ϫ.mp h3;refine⟨λhm=>?_,ih.mp<|by lia⟩;have:=h4 n<|mem_dedup.mpr hm;simp at this
  .rintro⟨h3,h4⟩;have h5:=ih.mpr h4;have h6:(List.filter (λy=>y != n)<|dedup ns).length=(dedup ns).length:=ϫ.mpr λy hy=>by
    have:=mem_dedup.mp hy;simp only[bne_iff_ne,ne_eq];rintro rfl;exact h3 this
   lia
abbrev cnt(n0:Int)(ns:List Int)(j:Int):Nat:=(ns.filter λm=>fJ (j<=(m - n0) % 1000)).length
def Ih(n0:Int)(ns:List Int)(j:Int):cnt n0 ns (j+1)<=cnt n0 ns j:=by
 unfold cnt;induction ns with
 |nil=>exact Ì _
 |cons m r ih =>
  rw[ý,ý];by_cases h1:j+1<=(m - n0) % 1000
  .have h2:j<=(m - n0) % 1000:=by lia
   simp only[h1,h2,decide_true,if_true,Ç];lia
  .by_cases h2:j<=(m - n0) % 1000
   .simp only[h1,h2,decide_true,decide_false,if_true,Ċ,if_false,Ç];lia
   .simp only[h1,h2,decide_false,Ċ,if_false];exact ih
def Dy{n0 n:Int}:∀{ns:List Int},n∈ns->cnt n0 ns ((n - n0) % 1000+1)+1<=cnt n0 ns ((n - n0) % 1000)
 |[],h=>nomatch h
 |m::r,h=>by
  have hle:=Ih n0 r<|(n - n0) % 1000;unfold cnt at hle ⊢;rw[ý,ý];rcases Æ.mp h with e|h
  .subst e;have h1:¬ (n - n0) % 1000+1<=(n - n0) % 1000:=by lia
   simp only[h1,decide_false,Ċ,if_false,Int.le_refl,decide_true,if_true,Ç];lia
  .have ih:=Dy (n0:=n0) h;unfold cnt at ih;by_cases h1:(n - n0) % 1000+1<=(m - n0) % 1000
   .have h2:(n - n0) % 1000<=(m - n0) % 1000:=by lia
    simp only[h1,h2,decide_true,if_true,Ç];lia
   .by_cases h2:(n - n0) % 1000<=(m - n0) % 1000
    .simp only[h1,h2,decide_true,decide_false,if_true,Ċ,if_false,Ç];lia
    .simp only[h1,h2,decide_false,Ċ,if_false];exact ih
def JC(x:ExtB w h g)(e:h p=dG):ExtB w h<|upd g p o:=⟨λ{a u} n z=>by rw[dL<|Zb z e];exact x.get n z⟩
abbrev TOk(ns:List Int)(t:Tie):Prop:=t.1∈ns/\t.2.1∈ns/\t.1≠t.2.1/\1<=t.2.2/\t.2.2<=1000
abbrev Op(t:Tie):Tie:=(if t.2.1<t.1 then t.2.1 else t.1,if t.2.1 > t.1 then t.2.1 else t.1,t.2.2)
def EO{t:Tie}(h:TOk ns t):LOk ns<|Op t:=by
 let⟨h1,h2,h3,h4,h5⟩:=h;unfold Op LOk;by_cases z:t.2.1<t.1
 .rw[fA z,fB<|by lia];exact⟨h2,h1,z,h4,h5⟩
 .rw[fB z,fA<|by lia];exact⟨h1,h2,by show t.1<t.2.1;lia,h4,h5⟩
def isl{xs:List Val}(e:h a=dF (.lst xs))(q:Q (.bl dI) h):(biV h (.isi ["list"]) [.ref a]).wp h Q:=Hu (by unfold isiAny isiAny fy fx;simp only[e];rfl) q
def O4{i lo hi:Int}(h1:lo<=i)(h2:i<=hi)(k:Q (.bl dI) h):wF P (n+2) "is_whole_between" [.int i,.int lo,.int hi] h Q X:=by
 refine XN ?_
 exists Y4
 walk_at "p";refine fb ⇑h1 ?_;fail;rw[fG h2];exact k
def NR{i:Int}(k:Q (.bl dI) h):wF P (n+1) "is_whole" [.int i] h Q X:=by refine Y4 ?_;walk_at "p";exact k
def O2{xs:List Val}:xs.filterMap (λ_=>dF<|Val.bl dI)=(xs.map λ_=>dI).map Val.bl:=by rw[ú];exact congrFun (Ζ (f:=Val.bl ∘ λ_=>dI)) xs
def LZ(e:h a=dF (.lst<|ns.map .int))(l2:ns.length<=10)(hb:Brs ns)(nd:ns.Nodup)(k:∀g,Ext h g->Q (.bl dI) g):wF P (n+3) "are_bridges" [.ref a] h Q X:=by
 refine Kj ?_;have hL:(ns.map Val.int).length=ns.length:=À _;refine' ⟨Ñ (by rw[hL];exact l2) (by decide),Z1 (λ_=>dF<|.bl dI) (lsE e) (λv hv K hK=>?_) ?_⟩
 .obtain⟨i,hi,rfl⟩:=ã.mp hv;walk_at "p";exact O4 (hb i hi).1 (by have:=(hb i hi).2;lia) hK
 rw[O2];refine Za λp g hp x ep=>?_
 exists Jj ep (Yp _)
 fail;refine fc (by simp) ?_;have e':=x.get e;refine' lset e' (by lia) ?_;fail;have:fJ (((dedup ns).length:Int)=((ns.map Val.int).length:Int))=dI:=fG (by rw[hL];have:=(KS ns).mpr nd;lia);rw[this];exact k g x
def Hw{t:Tie}(ht:TOk ns t)(e:h b=dF (.lst<|ns.map .int))(k:Q (.bl dI) h):wF P (n+3) "is_tie" [trV t,.ref b] h Q X:=by
 let⟨i,j,c⟩:=t;let⟨h1,h2,h3,h4,h5⟩:=ht;unfold trV;dsimp only at h1 h2 h3 h4 h5 ⊢;refine Dp ?_;walk_at "p";refine NR ?_;walk_at "p";refine NR ?_;walk_at "p";refine Hf e ?_;fail;refine fc ⇑h1 ?_
 exists Hf e
 fail;refine fc ⇑h2 ?_;fail;refine fb ⇑h3 ?_;refine' O4 h4 h5 k
def EX{t:Tie}(k:Q (trV<|Op t) h):wF P (n+1) "lesser_end_first" [trV t] h Q X:=by let⟨i,j,c⟩:=t;unfold trV;refine XM ?_;refine' k
def FA{zs:List Tie}(eb:h b=dF (.lst<|ns.map .int))(et:h t=dF (.lst<|zs.map trV))(l1:1<=ns.length)(l2:ns.length<=10)(hb:Brs ns)(nd:ns.Nodup)(lt:zs.length<=16)(hz:∀z∈zs,TOk ns z)
  (k:∀g,Ext h g->Q (Yr (sortI ns)<|zs.map Op) g):wF P (n+4) "make_net" [.ref b,.ref t] h Q X:=by
 have hL:(ns.map Val.int).length=ns.length:=À _;have hT:(zs.map trV).length=zs.length:=À _;refine OF ?_;refine F5<|Q2<|RQ<|Hb<|GE<|Ra<|Bc<|Hc rfl<|Dj<|isl eb<|g_tbl ?_;refine fc rfl ?_;refine Hb<|GE<|Ra<|Bc<|Hc rfl<|Dj<|isl et<|g_tbl ?_;refine fc rfl ?_;fail;refine fb (by simpa using (by lia:(1:Int)<=(ns.map Val.int).length)) ?_;fail;refine fc (by simpa using (by lia:(ns.length:Int)<=10)) ?_;fail;refine fc (by simpa using (by lia:(zs.length:Int)<=16)) ?_;refine' LZ eb l2 hb nd λg x=>?_;fail;refine fc rfl ?_;have eb':=x.get eb;have et':=x.get et;refine' ⟨Ñ (by rw[hT];exact lt) (by decide),Z1 (λ_=>dF<|.bl dI) (lsE et') (λv hv K hK=>?_) ?_⟩
 .obtain⟨z,hz',rfl⟩:=ã.mp hv;walk_at "p";exact Hw (hz z hz') eb' hK
 rw[O2];refine Za λp g2 hp x2 ep=>?_
 exists Jj ep (Yp _)
 fail;refine fc (by simp) ?_;have eb2:=x2.get eb';have et2:=x2.get et';refine' Hg eb2 (Xq _) (by lia) ?_;refine Za λp3 g3 hp3 x3 ep3=>?_;have et3:=x3.get et2;refine' ⟨Ñ (by rw[hT];exact lt) (by decide),Zw (λi ys g=>g=g3/\ys=(zs.take i).map λz=>trV<|Op z) ⟨rfl,rfl⟩ (λ_ _ g _ z=>by rw[z.1];exact lsE et3) (λi v ys g hv hI K hK=>?_) λys g hI=>?_⟩
 .obtain⟨rfl,rfl⟩:=hI;rw[Ó]at hv;let⟨z,hz',rfl⟩:=Ï.mp hv;walk_at "p";refine EX<|hK _ _ ⟨rfl,?_⟩;rw[Ŋ,hz',Ò];rfl
 .obtain⟨rfl,rfl⟩:=hI;rw[hT,ø];refine Za λp4 g4 hp4 x4 cN=>?_;fail;have e:Yr (sortI ns) (zs.map Op)=.tup [.tup<|(sortI ns).map .int,.tup<|zs.map λz=>trV<|Op z]:=by unfold Yr;rw[ú];rfl
  rw[e]at k;exact k _<|((x.trans x2).trans x3).trans x4
abbrev Ints(h:Hs)(a:Ad):Prop:=∃ns:List Int,h a=dF (.lst<|ns.map .int)
def Ints.ne(x:Ints h w)(e:h p=dG):w≠p:=by let⟨_,x⟩:=x;exact Zb x e
def Ints.ext(x:Ints h w)(e:Ext h g):Ints g w:=by let⟨_,x⟩:=x;exact⟨_,e.get x⟩
def Ints.exb(x:Ints h w)(n:p≠w):Ints (upd h p o) w:=by let⟨_,x⟩:=x;exact⟨_,(dL n.symm).trans x⟩
abbrev Ha(h:Hs)(a:Ad)(m:Nat):Prop:=∃ns:List Int,h a=dF (.lst<|ns.map .int)/\ns.length<=m
def B9{v:Val}(h:(eL 1 m)[i]?=dF v):v=.int (1+i)/\(1+i:Int)<m:=by unfold eL at h;rw[Ó]at h;let⟨k,hk,rfl⟩:=Ï.mp h;let⟨Ω,rfl⟩:=Ð.mp hk;rw[Ĩ]at Ω;rw[cU];exact⟨rfl,by lia⟩
noncomputable abbrev Pr:=Int×Int
abbrev POk(ns:List Int)(p:Pr):Prop:=p.1∈ns/\p.2∈ns/\p.1≠p.2
def Me{a:Int}(a0:0<=a)(a1:a<ns.length):∃(x:Int) (h:a.toNat<ns.length),atI (ns.map Val.int) a=dF (.int x)/\x=ns[a.toNat]:=by
 have h:a.toNat<ns.length:=by lia
 exact⟨_,h,YE a0 (by rw[Ó,É h];rfl),rfl⟩
def EI{a:Int}(a0:0<=a)(a1:a<ns.length)(r0:0<=r)(r1:r<(ns.length:Int) - 1):∃(x:Int) (k:Nat) (h:k<ns.length),atI (ns.map Val.int) (a - 1 - r)=dF (.int x)/\x=ns[k]/\k≠a.toNat:=by
 by_cases hj:0<=a - 1 - r
 .obtain⟨x,h,e1,e2⟩:=Me (ns:=ns) hj (by lia);exact⟨x,_,h,e1,e2,by lia⟩
 .have h:(a - 1 - r+ns.length).toNat<ns.length:=by lia
  refine⟨_,_,h,?_,rfl,by lia⟩;unfold atI ixN;rw[fB hj,À,fA (by lia),ï,Ó,É h];rfl
abbrev tOf(p:Pr)(c:Int):Tie:=(if p.2<p.1 then p.2 else p.1,if p.2 > p.1 then p.2 else p.1,c)
variable {j:Int}
def mnP{i:Int}(q:Q (.int<|if j<i then j else i) h):(biV h .minP [.tup [.int i,.int j]]).wp h Q:=wp_val rfl q
def mxP{i:Int}(q:Q (.int<|if j > i then j else i) h):(biV h .maxP [.tup [.int i,.int j]]).wp h Q:=wp_val rfl q
def Zm(hw:Ints h w)(h1:0<m)(k:∀r g,0<=r->r<m->ExtB w h g->Ints g w->Q (.int r) g):wF P (n+1) "_law_take" [.ref w,.int m] h Q X:=by
 have hw0:=hw;let⟨ns,e⟩:=hw;refine N6 ?_;refine' Za λp g hp x ep=>?_;have e2:=x.get e;refine c_eqE e2 ep ?_;fail;cases ns with
 |nil =>refine fb rfl ?_;refine' k _ _ (by decide) h1 (.of x) (hw0.ext x)
 |cons y xs =>
  refine fc rfl ?_
  exists Hm (v:=.int y) (xs:=xs.map .int) e2
  refine' k _ _ (aC _<|by lia) (ϣ _ h1) ((ExtB.of x).trans ExtB.upd) ⟨xs,dM⟩
def CD(h63:ns.length<=63)(k:∀p g,Ints g p->Q (.ref p) g):wF P (n+1) "_law_draws" [.scr ns] h Q X:=by
 refine NK ?_;refine' YA λdr hdr=>?_;refine' ⟨by split<;>lia,?_⟩;refine Zp (λi e g=>Sm4 λv2 v3 v4 v5=>Cj3 (e=[dF<|.scr ns,dF<|.ref dr,v2,v3,v4,v5]) (Ha g dr<|60*i)<|∀a,a≠dr->g a=h a) ⟨dG,dG,dG,dG,rfl,⟨[],by rw[dM];rfl,by simp⟩,λa ha=>dL ha⟩ (λ_ _ _ _ _=>trivial) ?_ ?_
 .rintro i v e g hv ⟨v2,v3,v4,v5,rfl,⟨ms,e1,l1⟩,x1⟩ K hK;let⟨rfl,hi⟩:=Yx hv;have cY:i<ns.length:=by split at hi<;>lia
  have hi3:i<80:=by split at hi<;>lia
  have hms:ms.length<=4800:=by lia
  obtain⟨c,hc⟩:∃c,ns[i]?=dF c:=⟨ns[i],É cY⟩
  refine' Hl (v:=.int c) ?_ ?_
  .unfold atI ixN;rw[fA (by lia),fA<|by rw[À];lia];rw[ï,Ó];simp[hc]
  fail;generalize hr:(if c<0 then -c else c)=r;have r0:0<=r:=by rw[<-hr];split<;>lia
  refine fe (λΩ=>?_) λΩ=>?_
  .refine' Zy e1 (by simp[lim];lia) ?_;refine' Zy dM (by simp[lim];lia) ?_;refine' Zy dM (by simp[lim];lia) ?_;refine' hK _ _ ⟨_,_,_,_,rfl,⟨ms++[_,_,_],by show upd _ dr _ dr=_;rw[dM,Ò,Đ,Đ];rfl,by simp;lia⟩,λa ha=>?_⟩;show upd (upd (upd g dr _) dr _) dr _ a=_;rw[dL ha,dL ha,dL ha,x1 a ha]
  .refine' XE (m:=60) (λm e g=>Sm3 λr j v4=>Cj5 (e=[dF<|.scr ns,dF<|.ref dr,dF<|.int i,dF<|.int r,v4,dF<|.int j]) (m+j.toNat=60) (0<=j) (Ha g dr<|60*i+j.toNat)<|∀a,a≠dr->g a=h a) ⟨r,0,v4,rfl,rfl,by decide,⟨ms,e1,by lia⟩,x1⟩ ?_;rintro m e g ⟨r,j,v4,rfl,hm,j0,⟨ms,e1,l1⟩,x1⟩ K hK2;refine' fe (λh1=>?_) (λh1=>?_)
   .refine' fe (λh2=>?_) (λh2=>?_)
    .refine' Zy e1 (by simp[lim];lia) ?_;refine' hK2 (m - 1) _ _ (by lia) ⟨_,j+1,v4,rfl,by lia,by lia,⟨ms++[_],by show upd _ dr _ dr=_;rw[dM,Ò];rfl,by simp;lia⟩,λa ha=>?_⟩;show upd g dr _ a=_;rw[dL ha,x1 a ha]
    .refine' hK _ _ ⟨_,_,_,_,rfl,⟨ms,e1,by lia⟩,x1⟩
   .refine fc rfl ?_;refine' hK _ _ ⟨_,_,_,_,rfl,⟨ms,e1,by lia⟩,x1⟩
 .rintro e g ⟨v2,v3,v4,v5,rfl,⟨ms,e1,l1⟩,x1⟩;refine' YA λp hp=>?_;refine k p _ ⟨cut ms dG<|dF 240,?_⟩;rw[dM];unfold cut;rw[À,Ϙ,bb]
def LD(hw:Ints h w)(k:∀bs ts g,d9 bs ts->ExtB w h g->Ints g w->Q (Yr bs ts) g):wF P (n+5) "_law_net" [.ref w,.int 4,.int 4] h Q X:=by
 have hlim:(1000:Nat)<=lim:=by decide
 refine A2 ?_;refine' Za λp g0 hp x0 e0=>?_;have np:p≠w:=λz=>hw.ne hp z.symm;refine' Zm (hw.ext x0) (by decide) λr1 g1 a1 b1 x1 w1=>?_;have e1:=x1.get np e0;have y1:ExtB w h g1:=(ExtB.of x0).trans x1;refine' ⟨⟨by lia,by lia⟩,?_⟩;refine Zp (λi en g=>Sm6 λv3 v4 v5 v6 v7 ns=>Cj7 (en=[dF<|.ref w,dF<|.int 4,dF<|.int 4,dF<|.ref p,v3,v4,v5,v6,v7]) (g p=dF (.lst<|ns.map .int)) (ns.length=i) (Brs ns) (ns.Nodup) (ExtB w h g)<|Ints g w) ⟨dG,dG,dG,dG,dG,[],rfl,e1,rfl,(λi hi=>fI hi å),Ę,y1,w1⟩ (λ_ _ _ _ _=>trivial) ?_ ?_
 .rintro i v en g hv ⟨v3,v4,v5,v6,v7,ns,rfl,ep,hl,hb,nd,x,hr⟩ K hK;let⟨rfl,hi⟩:=Yx hv;refine' Zm hr (by decide) λq0 gA q1 q2 xB wA=>?_;have eA:=xB.get np ep;have yA:=x.trans xB;refine' XE (m:=cnt q0 ns 0) (λm' en g=>g=gA/\∃q:Int,en=[dF<|.ref w,dF<|.int 4,dF<|.int 4,dF<|.ref p,dF<|.int i,dF<|.int q,v5,v6,v7]/\0<=q/\q<1000/\m'=cnt q0 ns ((q - q0) % 1000)/\(m':Int)+(q - q0) % 1000<=ns.length) ⟨rfl,q0,rfl,q1,q2,by rw[Int.sub_self];rfl,?_⟩ ?_
  .have:=đ (λm=>fJ ((0:Int)<=(m - q0) % 1000)) ns;unfold cnt;rw[Int.sub_self];lia
  rintro m' en g ⟨rfl,q,rfl,c1,c2,rfl,hlq⟩ K2 hK2
  exists Pq eA
  refine' fe (λhq=>?_) (λhq=>?_)
  .fail;have hc:=Dy (n0:=q0) hq;have hs:((q+1) % 1000 - q0) % 1000=(q - q0) % 1000+1:=by lia
   refine hK2 (cnt q0 ns<|(q - q0) % 1000+1) _ _ (by lia) ⟨rfl,_,rfl,aC _ (by decide),ϣ _ (by decide),by rw[hs],?_⟩;rw[hs];lia
  .refine' Zy eA (by rw[À,lim];lia) ?_;refine' hK _ _ ⟨_,_,_,_,_,ns++[q],rfl,by rw[Ò];exact dM,by rw[Ö,hl];rfl,?_,?_,JC yA hp,wA.exb np⟩
   .intro j hj;rcases â.mp hj with hj|hj
    .exact hb j hj
    .rw[Ø.mp hj];exact⟨c1,c2⟩
   .rw[æ];exact⟨nd,by simp,λa ha b hb e=>hq<|by rw[<-Ø.mp hb,<-e];exact ha⟩
 .rintro en g ⟨v3,v4,v5,v6,v7,ns,rfl,ep,hl,hb,nd,x,hr⟩;rw[ZS]at hl;have l1:1<=ns.length:=by lia
  have l2:ns.length<=10:=by lia
  have hL:(ns.map Val.int).length=ns.length:=À _;clear hl;refine' Za λq g2 hq x2 e2=>?_;have nq:q≠w:=λz=>hr.ne hq z.symm;have cW:h q=dG:=by
   cases z:h q with
   |none=>rfl
   |some o=>rw[x.get nq z]at hq;cases hq
  have ep2:=x2.get ep;have npq:p≠q:=Zb ep hq;have y2:ExtB w h g2:=x.trans<|.of x2;refine' ⟨⟨by decide,by decide,by lia,by lia⟩,?_⟩;refine Zp (λi en g=>Sm5 λv3 v4 v6 v7 ps=>Cj7 (en=[dF<|.ref w,dF<|.int 4,dF<|.int 4,dF<|.ref p,v3,v4,dF<|.ref q,v6,v7]) (g p=dF (.lst<|ns.map .int)) (g q=dF (.lst<|ps.map pV)) (ps.length<=i) ((∀t∈ps,POk ns t)) (ExtB w h g)<|Ints g w) ⟨_,_,_,_,[],rfl,ep2,e2,Ì _,by simp,y2,hr.ext x2⟩ (λ_ _ _ _ _=>trivial) ?_ ?_
  .rintro i v en g hv ⟨v3,v4,v6,v7,ps,rfl,ep,eq,hl,hb,x,hr⟩ K hK;let⟨rfl,hi⟩:=B9 hv;rw[hL]at hi;refine' Zm hr (by decide) λr3 g3 a3 b3 x3 w3=>?_;have ep3:=x3.get np ep;have eq3:=x3.get nq eq;refine' fe (λhc=>?_) (λhc=>?_)
   .refine' Zm w3 (by lia) λr4 g4 a4 b4 x4 w4=>?_;have cN:=x4.get np ep3;have eq4:=x4.get nq eq3;let⟨u1,k1,f1,f2⟩:=Me (ns:=ns) a4 (by lia);refine Zz cN f1 ?_;fail;let⟨u2,k2,f3,f4⟩:=Me (ns:=ns) (a:=1+(i:Int)) (by lia) hi;refine Zz cN f3 ?_;refine' Zy eq4 (by rw[À];lia) ?_;refine' hK _ _ ⟨_,_,_,_,ps++[(u1,u2)],rfl,(dL npq).trans cN,by rw[Ò];exact dM,by rw[Ö];exact ő hl,λt ht=>?_,JC ((x.trans x3).trans x4) cW,w4.exb nq⟩;rcases â.mp ht with ht|ht
    .exact hb t ht
    .rw[Ø.mp ht];refine⟨by rw[f2];exact Ī _,by rw[f4];exact Ī _,λz=>?_⟩;dsimp only at z;rw[f2,f4]at z;have:=(ϲ nd).mp z;lia
   .refine' hK _ _ ⟨_,_,_,_,ps,rfl,ep3,eq3,by lia,hb,x.trans x3,w3⟩
  .rintro en g ⟨v3,v4,v6,v7,ps,rfl,ep,eq,hl,hb,x,hr⟩;have hl:ps.length<=9:=by
    unfold eL at hl;rw[À,Ĩ,hL]at hl;lia
   refine' Zm hr (by decide) λr3 g3 a3 b3 x3 w3=>?_;have ep3:=x3.get np ep;have eq3:=x3.get nq eq;refine' ⟨⟨by lia,by lia⟩,?_⟩;refine Zp (λi en g=>Sm5 λv3 v4 v6 v7 aL=>Cj7 (en=[dF<|.ref w,dF<|.int 4,dF<|.int 4,dF<|.ref p,v3,v4,dF<|.ref q,v6,v7]) (g p=dF (.lst<|ns.map .int)) (g q=dF (.lst<|aL.map pV)) (aL.length<=ps.length+i) ((∀t∈aL,POk ns t)) (ExtB w h g)<|Ints g w) ⟨_,_,_,_,ps,rfl,ep3,eq3,Ì _,hb,x.trans x3,w3⟩ (λ_ _ _ _ _=>trivial) ?_ ?_
   .rintro i v en g hv ⟨v3,v4,v6,v7,aL,rfl,ep,eq,hl2,hb,x,hr⟩ K hK;let⟨rfl,hi⟩:=Yx hv;refine' Zm hr (by lia) λr4 g4 a4 b4 x4 w4=>?_;have cN:=x4.get np ep;have eq4:=x4.get nq eq;refine' fe (λhc=>?_) (λhc=>?_)
    .fail;let⟨u1,k1,f1,f2⟩:=Me (ns:=ns) a4 (by lia);refine Zz cN f1 ?_;refine' Zm w4 (by lia) λr5 g5 a5 b5 x5 w5=>?_;have ep5:=x5.get np cN;have eq5:=x5.get nq eq4;fail;let⟨u2,j,k2,f3,f4,f5⟩:=EI (ns:=ns) (a:=r4) (r:=r5) a4 (by lia) a5 (by lia);refine Zz ep5 f3 ?_;refine' Zy eq5 (by rw[À];lia) ?_;refine' hK _ _ ⟨_,_,_,_,aL++[(u1,u2)],rfl,(dL npq).trans ep5,by rw[Ò];exact dM,by rw[Ö];exact ő hl2,λt ht=>?_,JC ((x.trans x4).trans x5) cW,w5.exb nq⟩;rcases â.mp ht with ht|ht
     .exact hb t ht
     .rw[Ø.mp ht];refine⟨by rw[f2];exact Ī _,by rw[f4];exact Ī _,λz=>?_⟩;dsimp only at z;rw[f2,f4]at z;have:=(ϲ nd).mp z;lia
    .refine' hK _ _ ⟨_,_,_,_,aL,rfl,cN,eq4,by lia,hb,x.trans x4,w4⟩
   .rintro en g ⟨v3,v4,v6,v7,aL,rfl,ep,eq,hl2,hb,x,hr⟩;rw[ZS]at hl2;have hl2:aL.length<=16:=by lia
    refine' ⟨by show(List.map pV _).length<lim;rw[À];lia,Zw (λi zs g4=>∃cs:List Int,zs=cs.map .int/\cs.length=i/\(∀c∈cs,1<=c/\c<=1000)/\ExtB w g g4/\Ints g4 w) ⟨[],rfl,rfl,by simp,ExtB.refl,hr⟩ (λ_ _ g4 _ ⟨_,_,_,_,x,_⟩=>lsE<|x.get nq eq) (λi v zs g4 hv hI K hK=>?_) λzs g4 hI=>?_⟩
    .obtain⟨cs,rfl,hc,hd,x4,w4⟩:=hI;walk_at "p";refine Zm w4 (by decide) λr5 g5 a5 b5 x5 w5=>?_;refine' Za λp6 g6 hp6 x6 e6=>?_;have n6:p6≠w:=λz=>w5.ne hp6 z.symm;refine' Zm (w5.ext x6) (by decide) λr7 g7 a7 b7 x7 w7=>?_;let⟨v,ev,hv⟩:=Mo (xs:=[Val.int 1,.int 1,.int 2,.int 3,.int<|1+r5]) (r:=r7) a7 b7;have hm:∃m:Int,v=.int m/\1<=m/\m<=1000:=by
      simp only[Æ,å,or_false]at hv;rcases hv with rfl|rfl|rfl|rfl|rfl<;>exact⟨_,rfl,by lia,by lia⟩
     let⟨m,rfl,m1,m2⟩:=hm;refine Zz (x7.get n6 e6) ev ?_;refine hK _ _ ⟨cs++[m],by rw[Ò];rfl,by rw[Ö,hc];rfl,λc hcc=>?_,((x4.trans x5).trans<|.of x6).trans x7,w7⟩;rcases â.mp hcc with hcc|hcc
     .exact hd c hcc
     .rw[Ø.mp hcc];exact⟨m1,m2⟩
    let⟨cs,rfl,hc,hd,x4,w4⟩:=hI;have hc:cs.length=aL.length:=by rw[hc];exact À _
    refine Za λpc g5 hpc x5 e5=>?_;have ep5:=x5.get<|x4.get np ep;have eq5:=x5.get<|x4.get nq eq;have w5:=w4.ext x5;fail;rw[À];refine⟨⟨by lia,by lia⟩,?_⟩;refine⟨by rw[ZS];lia,Zw (λi zs g6=>g6=g5/\zs=((Ϭ tOf aL cs).take i).map trV) ⟨rfl,rfl⟩ (λ_ _ _ _ _=>trivial) (λi v zs g6 hv hI K hK=>?_) λzs g6 hI=>?_⟩
    .obtain⟨rfl,rfl⟩:=hI;let⟨rfl,hi⟩:=Yx hv;obtain⟨pr,hpr⟩:∃x,aL[i]?=dF x:=⟨aL[i]'(by lia),É<|by lia⟩
     obtain⟨co,hco⟩:∃x,cs[i]?=dF x:=⟨cs[i]'(by lia),É<|by lia⟩
     have f1:atI (aL.map pV) i=dF (.tup [.int pr.1,.int pr.2]):=YE (by lia) (by rw[ä,Ó,hpr];rfl);walk_at "p";refine Zz eq5 f1 ?_
     exists mnP
     exists Zz eq5 f1
     exists mxP
     refine' Zz e5 (v:=.int co) (YE (by lia)<|by rw[ä,Ó,hco];rfl) ?_;refine' hK _ _ ⟨rfl,?_⟩;have hz:(Ϭ tOf aL cs)[i]?=dF (tOf pr co):=by rw[bU,hpr,hco]
     rw[Ŋ,hz,Ò];rfl
    .obtain⟨rfl,rfl⟩:=hI;have hz:(Ϭ tOf aL cs).length=aL.length:=by rw[List.length_zipWith,hc,Nat.min_self]
     rw[ZS,ä,bF<|by lia];refine Za λp7 g7 hp7 x7 e7=>?_;fail;have htok:∀z∈Ϭ tOf aL cs,TOk ns z:=λz hz=>by
      let⟨i,hi⟩:=bR.mp hz;rw[bU]at hi;cases z1:aL[i]? with
      |none=>rw[z1]at hi;cases hi
      |some pr =>
       cases z2:cs[i]? with
       |none=>rw[z1,z2]at hi;cases hi
       |some co =>
        rw[z1,z2]at hi;cases hi;let⟨h1,h2,h3⟩:=hb _<|á z1;let⟨h4,h5⟩:=hd _<|á z2;unfold tOf TOk;dsimp only;by_cases Ω:pr.2<pr.1
        .rw[fA Ω,fB<|by lia];exact⟨h2,h1,by lia,h4,h5⟩
        .rw[fB Ω,fA<|by lia];exact⟨h1,h2,by lia,h4,h5⟩
     refine FA (x7.get ep5) e7 l1 l2 ‹Brs ns› nd (by lia) htok λg8 x8=>?_;have hl:(sortI ns).length=ns.length:=(Ŀ ns _).length_eq;refine k _ _ _ ⟨by lia,by lia,λi hi=>‹Brs ns› i (mem_sort.mp hi),Fg nd,by rw[À];lia,λt ht=>?_⟩ ((x.trans x4).trans<|.of<|(x5.trans x7).trans x8)<|w5.ext<|x7.trans x8;let⟨z,hz',rfl⟩:=ã.mp ht;let⟨q1,q2,q3⟩:=EO<|htok z hz';exact⟨mem_sort.mpr q1,mem_sort.mpr q2,q3⟩
abbrev run:Yc->List Dd->Option Yc
 |C,[]=>dF C
 |C,d::l=>(step C d).bind λD=>run D l
def Y5:∀{l m:List Dd}{C:Yc},run C (l++m)=(run C l).bind λD=>run D m
 |[],_,_=>rfl
 |d::l,m,C=>by
  show(step C d).bind (λD=>run D<|l++m)=((step C d).bind λD=>run D l).bind _;cases step C d with
  |none=>rfl
  |some D=>exact Y5
def ZW{l:List Dd}{d:Dd}{D:Yc}(h:run C l=dF D):run C (l++[d])=step D d:=by rw[Y5,h];show(step D d).bind dF=_;cases step D d<;>rfl
def Yl:∀{l:List Dd}{C D:Yc}{N:Nat},C.gd N->run C l=dF D->D.gd (N+l.length)/\D.bs=C.bs/\D.ts=C.ts/\D.most=C.most
 |[],C,D,N,g,h=>by cases h;exact⟨g,rfl,rfl,rfl⟩
 |d::l,C,D,N,g,h=>by let⟨E,h1,h2⟩:=ß.mp h;let⟨g1,e1,e2,e3⟩:=EM g h1;let⟨g2,f1,f2,f3⟩:=Yl g1 h2;rw[Ç,show N+(l.length+1)=N+1+l.length by lia];exact⟨g2,f1.trans e1,f2.trans e2,f3.trans e3⟩
abbrev Ze(bs:List Int)(ts:List Tie)(most:Int):Yc:=⟨bs,ts,most,bs.map λb=>(b,0),bs.map λb=>(b,Z7 b 0 most<|fq b 0 ts),[],[]⟩
def Qo{bs:List Int}(nw:YNew bs ts most Y):Y.cc=Ze bs ts most:=by
 have e:enC Y.es=bs.map λb=>(b,Z7 b 0 most<|fq b 0 ts):=by rw[<-nw.num,ú];exact ě λe he=>by show(e.num,e.B)=(e.num,_);rw[nw.br e he]
 unfold Yd.cc Ze;rw[nw.hb,nw.ht,nw.hm,nw.lives,nw.fallen,nw.road,e]
def E0{b:Int}(h:ts.length<=16):Bok ts.length<|Z7 b life most<|fq b 0 ts:=by
 have r:=J9 (b:=b) (l:=ts) (k:=0);have rg:∀q∈WJ (fq b 0 ts),0<=q.1/\q.1<ts.length:=λq hq=>by let⟨x,hx,rfl⟩:=ã.mp hq;have:=r.2 x hx;dsimp only;lia
 refine⟨⟨Ę,(λ_ m=>nomatch m),?_,λq hq=>?_⟩,λq hq=>(rg q hq).2⟩
 .show((WJ _).map (·.1)).Nodup;rw[Uy];exact r.1.imp λz=>by lia
 .have:=rg q hq;lia
def WV{bs:List Int}(no:d9 bs ts):(Ze bs ts most).gd 0:=by
 have e1:(bs.map λb=>(b,Z7 b 0 most<|fq b 0 ts)).map (·.1)=bs:=by rw[ú];exact Ψ _
 refine⟨no,?_,keys_sub.mpr ?_,λq hq=>?_,?_,Ę,(λ_ m=>nomatch m),Ì _⟩
 .show((bs.map λb=>(b,Z7 b 0 most<|fq b 0 ts)).map (·.1)).Nodup;rw[e1];exact no.up.imp λh=>by lia
 .show ∀x∈(bs.map λb=>(b,Z7 b 0 most<|fq b 0 ts)).map (·.1),_;rw[e1];exact λ_=>id
 .obtain⟨b,_,rfl⟩:=ã.mp hq;exact E0 no.sixteen
 .show(bs.map λb=>(b,(0:Int))).map (·.1)=bs;rw[ú];exact Ψ _
def Ky{b:Int}(h:b∈C.br.map (·.1)):∃D,step C (.tick b)=dF D/\D.br.map (·.1)=C.br.map (·.1):=by let⟨B,hB⟩:=ZR h;refine⟨_,by show(C.br.lookup b).map _=_;rw[hB];rfl,Js _⟩
def U5(h:C.road≠[]):∃D,step C (.come 0)=dF D/\D.road.length+1=C.road.length:=by
 cases z:C.road with
 |nil=>exact fI z h
 |cons r l =>refine⟨_,by show(if(0:Int)<0 then dG else(C.road[(0:Int).toNat]?).map _)=_;rw[fB (by decide),z];rfl,rfl⟩
def Ub(xs:List α)(x:α):atI (xs++[x]) (-1)=dF x:=by
 unfold atI ixN;rw[fB (by decide),fA<|by simp;lia];have:((-1:Int)+((xs++[x]).length:Nat)).toNat=xs.length:=by simp;lia
 rw[ï,this];simp
section
variable {Y:Yd}{N:Nat}
def Wq{bs:List Int}(no:d9 bs ts)(hp:h p=dG)(k:∀Y g,Y.y=p->dY g Y->Y.cc=Ze bs ts most->(∀a∈Y.adr,h a=dG)->Ext h g->Q .non g):wF P (n+3) "Yard.__init__" [.ref p,Yr bs ts,.int most] (upd h p<|.ins "Yard" []) Q X:=D0 no hp λY g e y nw f x=>k Y g e y (Qo nw) f x
def Db(x:dY h Y)(gd:Y.cc.gd N)(hN:N<=90)(k:∀Z g p l,Mv h Y g Z->run Y.cc l=dF Z.cc->l.length<=17*(N+10)->h p=dG->p∉Z.adr->g p=dF (.lst<|l.map Dd.v)->Q (.ref p) g):wF P (n+7) "_law_round_of" [.ref Y.y] h Q X:=by
 have xi:=x.ins;have h10:=gd.ten;have kl:=Wp (C:=Y.cc);refine Jn ?_;refine' Wu x gd λp1 g1 cb x1 e1=>?_;refine' ⟨Ñ (by show(Mx Y.cc).length<=10;unfold Mx;rw[À];lia) (by decide),?_⟩;refine Zw (λi ys g=>g=g1/\ys=((Y.cc.keys.take i).map Dd.tick).map Dd.v) ⟨rfl,rfl⟩ (λi ys g _ ⟨z,_⟩=>by rw[z];exact lsE e1) ?_ ?_
 .rintro i v ys g hv ⟨rfl,rfl⟩ K hK;let⟨b,hb,rfl⟩:=ZO hv;walk_at "p";refine hK _ _ ⟨rfl,?_⟩;rw[Zf hb,Ò,Ò];rfl
 rintro ys g ⟨rfl,rfl⟩;rw[show(Mx Y.cc).length=Y.cc.keys.length from À _,ø];refine Za λp g2 hp x2 e2=>?_;have hp0:h p=dG:=ZH x1 hp;have m2:Mv h Y g2 Y:=(Mv.refl x).ext<|x1.trans x2;have nA:p∉Y.adr:=λz=>x.taken z hp0;refine' Zp (λi en g=>Sm2 λv2 Z=>Cj6 (en=[dF<|.ref Y.y,dF<|.ref p,v2]) (Mv h Y g Z) (p∉Z.adr) (g p=dF (.lst<|(Y.cc.keys.map Dd.tick).map Dd.v)) (run Y.cc ((Y.cc.keys.take i).map Dd.tick)=dF Z.cc) (Z.cc.br.map (·.1)=Y.cc.br.map (·.1))) ⟨_,Y,rfl,m2,nA,e2,rfl,rfl⟩ (λ_ _ _ _ ⟨_,_,_,_,_,e,_,_⟩=>lsE e) ?_ ?_
 .rintro i v en g hv ⟨v2,Z,rfl,m,np,ep,hr,hk⟩ K hK;let⟨d,hd,rfl⟩:=ZO hv;rw[Ó]at hd;let⟨b,hb,rfl⟩:=Ï.mp hd;have hi:=(Ð.mp hb).1;let⟨D,hD,hDk⟩:=Ky (C:=Z.cc) (b:=b) (by rw[hk];exact keys_look.mp<|keys_mem.mp<|á hb);let⟨gz,_⟩:=Yl gd hr;have zi:=m.at_.ins;rw[m.y]at zi;fail;rw[<-m.y];refine YQ m.at_ gz (by rw[À,õ];lia) (λW g3 s mv=>?_) (λg3 s=>by rw[hD]at s;cases s);fail;rw[hD]at s;cases s;have o:=mv.off np ep;rw[m.y];refine hK _ _ ⟨_,W,rfl,m.trans mv,o.1,o.2,?_,hDk.trans hk⟩;rw[Zf hb,Ò];exact(ZW hr).trans hD
 rintro en g ⟨v2,Z,rfl,m,np,ep,hr,hk⟩;rw[À,À,ø]at hr;let⟨gz,_⟩:=Yl gd hr;rw[À]at gz;have rl:Z.cc.road.length<=16*(N+10):=Ô gz.len (by lia);refine' XE (m:=Z.cc.road.length) (λm' en g=>∃W l,en=[dF<|.ref Y.y,dF<|.ref p,v2]/\Mv h Y g W/\p∉W.adr/\g p=dF (.lst<|l.map Dd.v)/\run Y.cc l=dF W.cc/\W.cc.road.length=m'/\l.length+m'<=10+16*(N+10)) ⟨Z,_,rfl,m,np,ep,hr,rfl,by rw[À];lia⟩ ?_;rintro m' en g ⟨W,l,rfl,m,np,ep,hr,hm,hl⟩ K hK;let⟨gw,_⟩:=Yl gd hr;have zi:=m.at_.ins;rw[m.y]at zi;fail;rw[<-m.y];refine Jg m.at_ λp3 g3 hp3 x3 e3=>?_;refine' Za λp4 g4 hp4 x4 e4=>?_;refine c_neE (x4.get e3) e4 ?_;fail;have m4:=m.ext<|x3.trans x4;have cN:=(x3.trans x4).get ep;rw[m.y];refine ff (λhc=>?_) λhc=>?_
 .have ŝ:W.cc.road≠[]:=λz=>by rw[show W.road=[] from z]at hc;cases hc
  let⟨D,hD,hDl⟩:=U5 ŝ;refine' Zy cN (by rw[À];exact Ñ (by lia:_<=2000)<|by decide) ?_;have m5:=m4.put (o:=.lst<|l.map Dd.v++[.tup [.str "come",.int 0]]) hp0 np;have e5:upd g4 p (.lst<|l.map Dd.v++[.tup [.str "come",.int 0]]) p=dF (.lst<|(l++[Dd.come 0]).map Dd.v):=by rw[dM,Ò];rfl
  dsimp only;generalize upd g4 p (.lst<|l.map Dd.v++[.tup [.str "come",.int 0]])=g5 at m5 e5 ⊢;have zi:=m5.at_.ins;rw[m.y]at zi;refine' Zz e5 (v:=Dd.v<|.come 0) (by rw[Ò];exact Ub _ _) ?_;fail;rw[<-m.y];refine YQ m5.at_ gw (by lia) (λV g6 s mv=>?_) (λg6 s=>by rw[hD]at s;cases s);fail;rw[hD]at s;cases s;have o:=mv.off np e5;rw[m.y];exact hK (m' - 1) _ _ (by lia) ⟨V,_,rfl,m5.trans mv,o.1,o.2,(ZW hr).trans hD,by lia,by rw[Ö,ť];lia⟩
 .refine' k W g4 p l m4 hr (by lia) hp0 np cN
end
def dY.extb(x:dY h Y)(e:ExtB w h g)(nw:w∉Y.adr):dY g Y:=x.keep (S:=[w]) (Ex.ofB e<|by simp) λa ha z=>nw (Ø.mp z▸ha)
def UB:eqV h (.tup<|ns.map .int) (.tup [])=dF (fJ (ns=[])):=by
 cases ns with
 |nil=>rfl
 |cons a l =>show((((a::l).map Val.int).mapM<|dat h 11).map D.tup).bind _=_;rw[JY];rfl
def Cv{b:Int}(h:b∈C.keys):(step C<|.fallB b).isSome=dI:=by dsimp only[step];rw[fA<|keys_mem.mp h];rfl
def Fb{b:Int}(h:b∈C.keys):(step C<|.tick b).isSome=dI:=by let⟨D,hD,_⟩:=Ky<|keys_look.mp<|keys_mem.mp h;rw[hD];rfl
def cut_mem{p:Int}:p∈C.cuts↔(C.fallen.lookup p).isSome=dI:=by unfold Yc.cuts;rw[mem_sort,look_iff];simp
def DD{p:Int}(h0:0<=p)(h1:p<C.ts.length)(h:p∉C.cuts):(step C<|.fallT p).isSome=dI:=by dsimp only[step];rw[fA ⟨⟨h0,h1⟩,by cases z:(C.fallen.lookup p).isSome with|false=>rfl|true=>exact fI (cut_mem.mpr z) h⟩];rfl
def BS{p:Int}(h:p∈C.cuts):(step C<|.backT p).isSome=dI:=by dsimp only[step];rw[fA<|cut_mem.mp h];rfl
def downs_mem{b:Int}:b∈C.downs↔b∈C.bs/\(C.br.lookup b).isSome=dJ:=by unfold Yc.downs;rw[Ĝ];simp
def Nr{b:Int}(g:C.gd N)(h:b∈C.downs):(step C<|.backB b).isSome=dI:=by let⟨h1,h2⟩:=downs_mem.mp h;dsimp only[step];rw[fB<|by rw[h2];decide];rw[<-g.lv]at h1;let⟨v,hv⟩:=ZR h1;rw[hv];rfl
def UD(h0:0<=r)(h1:r<C.road.length):(step C<|.lost r).isSome=dI/\(step C<|.come r).isSome=dI:=by have e:=É (l:=C.road) (i:=r.toNat) (by lia);dsimp only[step];rw[fB (by lia),e];exact⟨rfl,by rw[fB<|by lia];rfl⟩
def AF:C.downs.length<=C.bs.length:=đ _ _
abbrev X6(C:Yc)(m:Nat):List Int:=((List.range m).map λi:Nat=>(i:Int)).filter λp=>!fJ (p∈C.cuts)
abbrev tl:Nat->Ss->Ss
 |0,s=>s
 |k+1,.cons _ r=>tl k r
 |_+1,.nil=>.nil
def pick(r0:0<=r)(r1:r<ns.length):∃b∈ns,atI (ns.map Val.int) r=dF (.int b):=by let⟨b,hb,hm⟩:=Bj r0 r1;exact⟨b,hm,YE r0<|by rw[Ó,hb];rfl⟩
section
variable {Y:Yd}{N:Nat}
def LW(hw:Ints h w)(x:dY h Y)(gd:Y.cc.gd N)(nw:w∉Y.adr)(k:∀d g,(step Y.cc d).isSome=dI->ExtB w h g->Ints g w->Q (Dd.v d) g):wF P (n+3) "_law_deed_now" [.ref w,.ref Y.y] h Q X:=by
 have h10:=gd.ten;have kl:=Wp (C:=Y.cc);have t16:Y.ts.length<=16:=gd.no.sixteen;have b10:Y.cc.bs.length<=10:=gd.no.ten;have b1:1<=Y.cc.bs.length:=gd.no.one;have df:(Y.ts.map trV).length=Y.ts.length:=À _;have hc16:=gd.f16;have cl:=Nf (C:=Y.cc);refine Jy ?_;refine' Zm hw (by decide) λway g1 a1 b1' x1 w1=>?_;have y1:=x.extb x1 nw;have yi1:=y1.ins;refine' Wu y1 gd λp2 g2 db x2 e2=>?_;refine' ⟨Ñ (by show(Mx Y.cc).length<=10;unfold Mx;rw[À];lia) (by decide),?_⟩;refine Zw (λi ys g=>g=g2/\ys=(Y.cc.keys.take i).map .int) ⟨rfl,rfl⟩ (λi ys g _ ⟨z,_⟩=>by rw[z];exact lsE e2) ?_ ?_
 .rintro i v ys g hv ⟨rfl,rfl⟩ K hK;let⟨b,hb,rfl⟩:=ZO hv;walk_at "p";refine hK _ _ ⟨rfl,?_⟩;rw[Zf hb,Ò];rfl
 rintro ys g ⟨rfl,rfl⟩;rw[show(Mx Y.cc).length=Y.cc.keys.length from À _,ø];refine Za λpu g3 hpu x3 eu=>?_;have y3:=y1.ext<|x2.trans x3;have yi3:=y3.ins;refine' Ng y3 gd λg4 x4=>?_;have y4:=y3.ext x4;have yi4:=y4.ins;refine' Jg y4 λp5 g5 hp5 x5 e5=>?_;have y5:=y4.ext x5;have yi5:=y5.ins
 exists Mm y5
 exists dQ (xs:=[.tup<|Y.bs.map .int,.tup<|Y.ts.map trV]) (v:=.tup<|Y.ts.map trV) rfl
 fail;rw[df];refine⟨⟨by lia,by lia⟩,by rw[ZS];exact Ñ (by lia:_<=16) (by decide),?_⟩;refine Zw (λi ys g=>g=g5/\ys=(X6 Y.cc i).map .int) ⟨rfl,rfl⟩ (λ_ _ _ _ _=>trivial) ?_ ?_
 .rintro i v ys g hv ⟨rfl,rfl⟩ K hK;let⟨rfl,hi⟩:=Yx hv;have hs:X6 Y.cc (i+1)=X6 Y.cc i++(if(!fJ ((i:Int)∈Y.cc.cuts))=dI then [(i:Int)]else []):=by
   unfold X6;rw[List.range_succ,Ò,Ϟ,Í,ŵ,ý,ao]
  exists A8 (ns:=Y.cc.cuts)
  refine' ff (λhc=>?_) (λhc=>?_)
  .refine' hK _ _ ⟨rfl,by rw[hs,fA hc,Ò];rfl⟩
  .exact hK _ _ ⟨rfl,by rw[hs,fB (by rw[hc];decide),ó];simp⟩
 rintro ys g ⟨rfl,rfl⟩;rw[ZS,ä];refine Za λpt g6 hpt x6 et=>?_;have eu6:=((x4.trans x5).trans x6).get eu;have xx:ExtB w h g6:=(((x1.trans<|.of x2).trans<|.of x3).trans<|.of<|(x4.trans x5).trans x6)
 have w6:=w1.ext<|(((x2.trans x3).trans x4).trans x5).trans x6;have nu:pu≠w:=λz=>by have:=w1.ext x2;exact this.ne hpu z.symm
 have nt:pt≠w:=λz=>by have:=w1.ext<|((x2.trans x3).trans x4).trans x5;exact this.ne hpt z.symm
 have fre:∀p∈X6 Y.cc Y.ts.length,0<=p/\p<Y.cc.ts.length/\p∉Y.cc.cuts:=λp hp=>by let⟨h1,h2⟩:=Ĝ.mp hp;let⟨i,hi,rfl⟩:=ã.mp h1;have:=Υ.mp hi;exact⟨by lia,by show(i:Int)<(Y.ts.length:Nat);lia,⇑h2⟩
 have hR:Y.cc.road.length=Y.road.length:=rfl;have rl:(Y.road.map rdV).length=Y.road.length:=À _;have kl2:(Y.cc.keys.map Val.int).length=Y.cc.keys.length:=À _;have fl2:((X6 Y.cc Y.ts.length).map Val.int).length=(X6 Y.cc Y.ts.length).length:=À _;have dl2:(Y.cc.downs.map Val.int).length=Y.cc.downs.length:=À _;have cl2:(Y.cc.cuts.map Val.int).length=Y.cc.cuts.length:=À _;have ç:∀{ns:List Int},(ns.map Val.int).isEmpty=dJ->0<ns.length:=λ{ns} hn=>by cases ns with|nil=>cases hn|cons a l=>simp
 let F:Hs->Prop:=λg=>ExtB w h g/\Ints g w/\g pu=dF (.lst<|Y.cc.keys.map .int)/\g pt=dF (.lst<|(X6 Y.cc Y.ts.length).map .int)
 have Fx:∀{g g'},F g->Ext g g'->F g':=λ⟨a,b,c,d⟩ e=>⟨a.trans<|.of e,b.ext e,e.get c,e.get d⟩
 have tk:∀{g:Hs}{m:Int}{K:Q1}{X:XQ},F g->0<m->(∀r g,0<=r->r<m->F g->K (.int r) g)->wF P (n+2) "_law_take" [.ref w,.int m] g K X:=λ⟨a,b,c,d⟩ hm q=>Zm b hm λr g a' b' y z=>q r g a' b' ⟨a.trans y,z,y.get nu c,y.get nt d⟩;have go_:∀{d:Dd}{g:Hs},(step Y.cc d).isSome=dI->F g->Q (Dd.v d) g:=λs f=>k _ _ s f.1 f.2.1
 let W:Ss->Prop:=λs=>∀g,F g->wSs (wF P<|n+2) s [dF<|.ref w,dF<|.ref Y.y,dF<|.int way,dF<|.ref pu,dF<|.tup [.tup<|Y.cc.downs.map .int,.tup<|Y.cc.cuts.map .int],dF<|.int (Y.road.length:Nat),dF<|.ref pt] g (λ_ g=>Q .non g) Q (λ_ _=>False) (λ_ _=>False) λ_ c g=>X c g
 have R11:W<|tl 11 TR.body:=λg f=>by
  dsimp only[tl,TR];refine' Za λpz gz hz xz ez=>?_;have f':=Fx f xz;refine c_eqE f'.2.2.1 ez ?_;refine' ff (λhc=>?_) (λhc=>?_)
  .have hk:Y.cc.keys=[]:=by cases z:Y.cc.keys with|nil=>rfl|cons a l=>rw[z]at hc;cases hc
   have hd:Y.cc.downs=Y.cc.bs:=cF.mpr λb hb=>by
    cases z:(Y.cc.br.lookup b).isSome with
    |false=>rfl
    |true=>have:=keys_mem.mpr z;rw[hk]at this;cases this
   fail;let⟨b,hb,eb⟩:=pick (ns:=Y.cc.downs) (r:=0) (by decide) (by rw[hd];lia);refine dQ eb ?_;refine' go_ (Nr gd hb) f'
  .have f2:=f'.2.2.1;fail;rw[kl2];refine tk f' (by have:=ç hc;lia) λr g2 r0 r1 f2=>?_;let⟨b,hb,eb⟩:=pick (ns:=Y.cc.keys) r0 r1;refine Zz f2.2.2.1 eb ?_;refine' go_ (Fb hb) f2
 have R10:W<|tl 10 TR.body:=λg f=>by
  dsimp only[tl,TR];refine' fe (λc1=>?_) (λc1=>fc rfl<|ZT<|R11 g f);refine' fe (λc2=>?_) (λc2=>ZT<|R11 g f);refine' tk f c2 λr g2 r0 r1 f2=>?_;refine' Za λpz gz hz xz ez=>?_;fail;let⟨v,hv,em⟩:=Mo (xs:=[Val.int 0,.int r]) (r:=way % 2) (by lia) (by show way % 2<2;lia);refine Zz ez hv ?_;have:∃q:Int,v=.int q/\0<=q/\q<Y.cc.road.length:=by
   simp only[Æ,å,or_false]at em;rcases em with rfl|rfl
   .exact⟨_,rfl,by lia,by lia⟩
   .exact⟨_,rfl,r0,r1⟩
  let⟨q,rfl,q0,q1⟩:=this;refine' go_ (UD q0 q1).2 (Fx f2 xz)
 have R9:W<|tl 9 TR.body:=λg f=>by dsimp only[tl,TR];refine' fe (λc1=>?_) (λc1=>fc rfl<|ZT<|R10 g f);refine' fe (λc2=>?_) (λc2=>ZT<|R10 g f);refine' tk f c2 λr g2 r0 r1 f2=>?_;refine' go_ (UD r0 r1).1 f2
 have R8:W<|tl 8 TR.body:=λg f=>by
  dsimp only[tl,TR]
  exists NX (ns:=[12,13,14])
  refine' fe (λc1=>?_) (λc1=>fc rfl<|ZT<|R9 g f)
  exists Wo UB
  refine' OA (λc2=>?_) (λc2=>ZT<|R9 g f);fail;rw[cl2];refine tk f (by have:=ϕ.mpr c2;lia) λr g2 r0 r1 f2=>?_;let⟨b,hb,eb⟩:=pick (ns:=Y.cc.cuts) r0 r1;refine dQ eb ?_;refine' go_ (BS hb) f2
 have R7:W<|tl 7 TR.body:=λg f=>by
  dsimp only[tl,TR]
  exists NX (ns:=[12,13,14])
  refine' fe (λc1=>?_) (λc1=>fc rfl<|ZT<|R8 g f)
  exists Wo UB
  refine' OA (λc2=>?_) (λc2=>ZT<|R8 g f);fail;rw[dl2];refine tk f (by have:=ϕ.mpr c2;lia) λr g2 r0 r1 f2=>?_;let⟨b,hb,eb⟩:=pick (ns:=Y.cc.downs) r0 r1;refine dQ eb ?_;refine' go_ (Nr gd hb) f2
 have R6:W<|tl 6 TR.body:=λg f=>by dsimp only[tl,TR];refine' fe (λc1=>?_) (λc1=>fc rfl<|ZT<|R7 g f);refine' Za λpz gz hz xz ez=>?_;have f':=Fx f xz;refine c_neE f'.2.2.2 ez ?_;refine' ff (λhc=>?_) (λhc=>ZT<|R7 gz f');have f2:=f'.2.2.2;fail;rw[fl2];refine tk f' (by have:=ç<|ę _ |>.mp hc;lia) λr g2 r0 r1 f2=>?_;let⟨b,hb,eb⟩:=pick (ns:=X6 Y.cc Y.ts.length) r0 r1;refine Zz f2.2.2.2 eb ?_;fail;let⟨q1,q2,q3⟩:=fre b hb;exact go_ (DD q1 q2 q3) f2
 have f6:F g6:=⟨xx,w6,eu6,et⟩
 rw[rl];refine' fe (λc1=>?_) (λc1=>fc rfl<|ZT<|R6 g6 f6);refine' Za λpz gz hz xz ez=>?_;have f':=Fx f6 xz;refine c_neE f'.2.2.1 ez ?_;refine' ff (λhc=>?_) (λhc=>ZT<|R6 gz f');have f2:=f'.2.2.1;fail;rw[kl2];refine tk f' (by have:=ç<|ę _ |>.mp hc;lia) λr g2 r0 r1 f2=>?_;let⟨b,hb,eb⟩:=pick (ns:=Y.cc.keys) r0 r1;refine Zz f2.2.2.1 eb ?_;refine' go_ (Cv hb) f2
end
structure Mw(w:Ad)(h:Hs)(Y:Yd)(g:Hs)(Z:Yd):Prop where
 y:Z.y=Y.y
 at_:dY g Z
 nw:∀a∈Z.adr,a∈Y.adr\/h a=dG
 ex:Ex (w::Y.adr) h g
 nz:w∉Z.adr
 iw:Ints g w
def Ints.some_(x:Ints h w):∃o,h w=dF o:=by let⟨_,x⟩:=x;exact⟨_,x⟩
def Mw.fresh(m:Mw w h Y g Z)(e:g p=dG):h p=dG\/p∈Y.adr:=by
 cases z:h p with
 |none=>exact .inl rfl
 |some o =>
  by_cases np:p∈Y.adr
  .exact .inr np
  .rw[m.ex.get (by simp[np,(m.iw.ne e).symm]) z]at e;cases e
def Mw.mv{f:Hs}(m:Mw w h Y g Z)(l:Mv g Z f W):Mw w h Y f W:=by
 let⟨o,eo⟩:=m.iw.some_;let⟨q1,q2⟩:=l.off m.nz eo;let⟨ns,en⟩:=m.iw;refine⟨l.y.trans m.y,l.at_,λa ha=>?_,⟨λna e=>?_⟩,q1,ns,by rw[q2,<-eo,en]⟩
 .rcases l.nw a ha with z|z
  .exact m.nw a z
  .exact(m.fresh z).symm
 .have h2:=m.ex.get na e;exact l.ex.get (λz=>(m.nw _ z).elim (λy=>na<|by simp[y]) λy=>by rw[e]at y;cases y) h2
def Mw.take{f:Hs}(m:Mw w h Y g Z)(x:ExtB w g f)(i:Ints f w):Mw w h Y f Z:=⟨m.y,m.at_.extb x m.nz,m.nw,m.ex.trans<|Ex.ofB x<|by simp,m.nz,i⟩
def Mw.ext{f:Hs}(m:Mw w h Y g Z)(x:Ext g f):Mw w h Y f Z:=m.take (.of x) (m.iw.ext x)
def Mw.put(m:Mw w h Y g Z)(hp:h p=dG\/p∈Y.adr)(np:p∉Z.adr)(nw:p≠w):Mw w h Y (upd g p o) Z:=⟨m.y,m.at_.keep (S:=[p]) (Ex.upd<|by simp) λa ha z=>np<|Ø.mp z▸ha,m.nw,⟨λ{a u} na e=>by rw[dL λz=>hp.elim (λy=>by rw[<-z,e]at y;cases y) λy=>na<|by simp[z,y]];exact m.ex.get na e⟩,m.nz,m.iw.exb nw⟩
section
variable {Y:Yd}{N:Nat}
def Pa(hw:Ints h w)(x:dY h Y)(gd:Y.cc.gd 0)(nw:w∉Y.adr)(k:∀p l C g,run Y.cc l=dF C->l.length<=2000->p≠w->g p=dF (.lst<|l.map Dd.v)->Ex (w::Y.adr) h g->Ints g w->Q (.ref p) g):wF P (n+8) "_law_row" [.ref w,.ref Y.y,.int 60] h Q X:=by
 refine AA ?_;refine' Za λp g1 hp x1 e1=>?_;have m1:Mw w h Y g1 Y:=⟨rfl,x.ext x1,λ_=>.inl,.of x1,nw,hw.ext x1⟩
 refine' XE (m:=86) (λm en g=>∃(Z:Yd) (l:List Dd) (p:Ad) (r:Int),en=[dF<|.ref w,dF<|.ref Y.y,dF<|.int 60,dF<|.ref p,dF<|.int r]/\Mw w h Y g Z/\p∉Z.adr/\p≠w/\(h p=dG\/p∈Y.adr)/\g p=dF (.lst<|l.map Dd.v)/\run Y.cc l=dF Z.cc/\l.length<=2000/\0<=r/\r<=6/\(80 - l.length:Nat)+6 - r.toNat<=m) ⟨Y,[],p,0,rfl,m1,(λz=>x.taken z hp),(λz=>hw.ne hp z.symm),.inl hp,e1,rfl,by decide,by decide,by decide,by decide⟩ ?_;rintro m en g ⟨Z,l,p,r,rfl,mw,np,pw,pf,ep,hr,hl,r0,r6,hm⟩ K hK;let⟨ns,ens⟩:=mw.iw;have zi:=mw.at_.ins;rw[mw.y]at zi;have ll:(l.map Dd.v).length=l.length:=À _;let⟨gz,_⟩:=Yl gd hr;rw[Ţ]at gz;refine' Za λp2 g2 db x2 e2=>?_;refine c_neE (x2.get ens) e2 ?_;fail;have m2:=mw.ext x2;have ep2:=x2.get ep;have fin:=k p l _ g2 hr hl pw ep2 m2.ex m2.iw;refine ff (λhc=>?_) (λhc=>by walk_at "p";exact fin);fail;rw[ll];refine fe (λc2=>?_) (λc2=>by walk_at "p";exact fin);have hl80:l.length<80:=by lia
 have other:∀{N B C:NQ}{g3:Hs},(∀e g,K e g->N e g)->Mw w h Y g3 Z->g3 p=dF (.lst<|l.map Dd.v)->wSs (wF P<|n+7) #[.expr<|.bm .append (.var 3) #[.call "_law_deed_now" #[.var 0,.var 1]],.expr<|.meth "Yard" "deed" (.var 1) #[.idx (.var 3)<|.neg<|.cst<|.int 1]] [dF<|.ref w,dF<|.ref Y.y,dF<|.int 60,dF<|.ref p,dF<|.int r] g3 N Q B C λ_ c g=>X c g:=λ{N B C g3} hN m3 ep3=>by
  fail;rw[<-mw.y];refine LW m3.iw m3.at_ gz m3.nz λd g4 hs x4 w4=>?_;let⟨D,hD⟩:=ò.mp hs;have m4:=m3.take x4 w4;rw[mw.y];refine' Zy (x4.get pw ep3) (by rw[ll];exact ź hl80<|by decide) ?_;have m5:=m4.put (o:=.lst<|l.map Dd.v++[Dd.v d]) pf np pw;have e5:upd g4 p (.lst<|l.map Dd.v++[Dd.v d]) p=dF (.lst<|(l++[d]).map Dd.v):=by rw[dM,Ò];rfl
  dsimp only;generalize upd g4 p (.lst<|l.map Dd.v++[Dd.v d])=g5 at m5 e5 ⊢;have zi:=m5.at_.ins;rw[mw.y]at zi;refine' Zz e5 (v:=Dd.v d) (by rw[Ò];exact Ub _ _) ?_;fail;rw[<-mw.y];refine YQ m5.at_ gz (by lia) (λV g6 s mv=>?_) (λg6 s=>by rw[hD]at s;cases s);fail;have o:=mv.off np e5;rw[mw.y];exact hN _ _ (hK (m - 1) _ _ (by lia) ⟨V,l++[d],p,r,rfl,m5.mv mv,o.1,pw,pf,o.2,(ZW hr).trans s,by rw[Ö,ť];lia,r0,r6,by rw[Ö,ť];lia⟩)
 refine' fe (λc3=>?_) (λc3=>?_)
 .refine' Zm m2.iw (by decide) λq g3 q0 q1 x3 w3=>?_;have m3:=m2.take x3 w3;have ep3:=x3.get pw ep2;refine' fe (λc4=>?_) (λc4=>other (λ_ _ q=>ZT q) m3 ep3);fail;rw[<-mw.y];refine Db m3.at_ gz (by lia) λW g4 p4 l4 mv hr4 hl4 hp4 np4 cN=>?_;have m4:=m3.mv mv;have o:=mv.off np ep3;rw[mw.y];refine' Ys o.2 cN (by rw[Ö,ll,À];exact Ô (by lia:_<=2000)<|by decide) ?_;refine Za λp5 g5 hp5 x5 e5=>?_;have m5:=m4.ext x5;refine' hK (m - 1) _ _ (by lia) ⟨W,l++l4,p5,r+1,rfl,m5,(λz=>m4.at_.taken z hp5),(λz=>m4.iw.ne hp5 z.symm),m4.fresh hp5,by rw[e5,Ò],by rw[Y5,hr];exact hr4,by rw[Ö];lia,by lia,by lia,by rw[Ö];lia⟩
 .fail;refine fc rfl ?_;exact other (λ_ _ q=>ZT q) m2 ep2
end
abbrev flat:Nat->Val->Bool
 |_,.non=>dI
 |_,.bl _=>dI
 |_,.int _=>dI
 |_,.str _=>dI
 |n+1,.tup xs=>xs.all<|flat n
 |_,_=>dJ
def MG{α β:Type}{f:α->Option β}:∀{xs:List α},(∀x∈xs,∃d,f x=dF d)->∃ds,xs.mapM f=dF ds
 |[],_=>⟨[],rfl⟩
 |x::xs,h=>by let⟨d,hd⟩:=h x (by simp);let⟨ds,hds⟩:=MG (xs:=xs) λy hy=>h y (by simp[hy]);exact⟨d::ds,by rw[ž,hd,hds];rfl⟩
def NB{h:Hs}:∀{n:Nat}{v:Val},flat n v=dI->∃d,dat h n v=dF d
 |0,.non,_=>⟨_,rfl⟩
 |0,.bl _,_=>⟨_,rfl⟩
 |0,.int _,_=>⟨_,rfl⟩
 |0,.str _,_=>⟨_,rfl⟩
 |n+1,.non,_=>⟨_,rfl⟩
 |n+1,.bl _,_=>⟨_,rfl⟩
 |n+1,.int _,_=>⟨_,rfl⟩
 |n+1,.str _,_=>⟨_,rfl⟩
 |n+1,.tup xs,e=>by let⟨ds,hds⟩:=MG (f:=dat h n) (xs:=xs) λx hx=>NB<|ö.mp e x hx;exact⟨_,by show(xs.mapM<|dat h n).map D.tup=_;rw[hds];rfl⟩
def MB{xs:List Val}(ea:h a=dF (.lst xs))(eb:h b=dF (.lst xs))(e:xs.all (flat 11)=dI):eqV h (.ref a) (.ref b)=dF dI:=by
 let⟨ds,hds⟩:=MG (f:=dat h 11) (xs:=xs) λx hx=>NB<|ö.mp e x hx;have h1:∀{c:Ad},h c=dF (.lst xs)->dat h deep (.ref c)=dF (.lst ds):=λ{c} ec=>by show(dZ<|h c).bind (λxs=>(xs.mapM<|dat h 11).map D.lst)=_;rw[ec,YN,ï,hds];rfl
 unfold eqV;rw[h1 ea,h1 eb];show dF (D.eqv _ _)=_;rw[D.eqv_refl]
def all_map{α:Type}{f:α->Val}{n:Nat}{xs:List α}(h:∀x∈xs,flat n (f x)=dI):(xs.map f).all (flat n)=dI:=by rw[List.all_map];exact ö.mpr h
def Jc(d:Dd):flat 11 d.v=dI:=by cases d<;>rfl
abbrev Bad(C:Yc)(v:Val):Prop:=(∃d:Dd,v=d.v/\step C d=dG)\/v=.tup [.str "tick"]\/v=.tup [.str "rise",.int 0]\/v=.non\/v=.tup [.str "come",.bl dI]
def Mv.base{f:Hs}(m:Mv g Y f Z)(b:∀a∈Y.adr,h a=dG)(x:Ext h g):Ext h f/\∀a∈Z.adr,h a=dG :=
 ⟨⟨λ{a o} e=>m.ex.get (λz=>by rw[b a z]at e;cases e)<|x.get e⟩,λa ha=>(m.nw a ha).elim (b a)<|ZH x⟩
section
variable {Y Z:Yd}{N:Nat}
def UR{xs:List Val}{ws:List String}(hs:¬(eN xs.length 0 dG=0/\eN xs.length xs.length (dF (-1))=xs.length))(hc:cut xs dG (dF (-1))=ws.map .str)(hlen:ws.length<=2)(hin:∀h,d7 h .notin (.tup<|ws.map .str) (.tup<|wordsL.map λl=>.tup<|l.map .str)=dF dI)(k:∀g,Ext h g->X "NoDeed" g):wF P (n+2) "read_deed" [.tup xs] h Q X:=by
 refine Yv ?_;walk_at "p";refine eZ (lo:=dG) (hi:=dF (-1)) hs ?_;rw[hc];refine' ⟨Ñ (by rw[À];exact hlen) (by decide),Z1 (λ_=>dF<|.bl dI) trivial (λv hv K hK=>?_) ?_⟩
 .obtain⟨u,_,rfl⟩:=ã.mp hv;walk_at "p";exact hK
 rw[show(ws.map Val.str).filterMap (λ_=>dF<|Val.bl dI)=(ws.map λ_=>dI).map Val.bl by rw[Ž,ú];exact congrFun (Ζ (f:=λ_:String=>Val.bl dI)) ws];refine Za λp1 g1 cb x1 e1=>?_
 exists Jj (bs:=ws.map λ_=>dI) e1 (Yp _)
 fail;refine fc (by simp) ?_
 exists dP (a:=dI) (hin _)
 walk_at "p";exact k g1 x1
def Lh{v:Val}(x:dY h Y)(gd:Y.cc.gd N)(hN:N<=6000)(b:Bad Y.cc v)(k:∀g,Ext h g->X "NoDeed" g):wF P (n+6) "Yard.deed" [.ref Y.y,v] h Q X:=by
 rcases b with⟨d,rfl,hd⟩|b
 .exact YQ x gd hN (λ_ _ s=>by rw[hd]at s;cases s) λg _ _ x1=>k g x1
 .refine WK ?_;rcases b with rfl|rfl|rfl|rfl
  .refine' UR (ws:=[]) (by decide) rfl (by decide) (λ_=>rfl) k
  .refine' UR (ws:=["rise"]) (by decide) rfl (by decide) (λ_=>rfl) k
  .exists Yv
   walk_at "p";exact k h .refl
  .exists Yv
   walk_at "p";refine⟨by decide,Z1 (λ_=>dF<|.bl dI) trivial (λv hv K hK=>?_) ?_⟩
   .rw[Ø.mp hv];walk_at "p";exact hK
   refine Za λp1 g1 cb x1 e1=>?_
   exists Jj (bs:=[dI]) e1 rfl
   walk_at "p";refine dP (show _=dF dJ from rfl) ?_;walk_at "p";refine Y4 ?_;walk_at "p";exact k g1 x1
end
abbrev opn(C:Yc)(p:Nat):Bool:=fJ (C.ends p=("child","parent"))||fJ (C.ends p=("parent","child"))
abbrev stt(C:Yc)(l:List Dd)(i:Nat):Yc:=(run C<|l.take i).getD C
abbrev opA(C:Yc)(l:List Dd)(p i:Nat):Bool:=if i=0 then dJ else opn (stt C l i) p
abbrev trn(C:Yc)(l:List Dd)(p i:Nat):List<|Nat×Bool:=((List.range i).filter λj=>opA C l p (j+1) != opA C l p j).map λj=>(j,opA C l p<|j+1)
abbrev WQ(q:Nat×Bool):Val:=.tup [.int q.1,.str<|if q.2 then "open" else "shut"]
def NO{l:List Dd}{p:Nat}:trn C l p (i+1)=trn C l p i++if opA C l p (i+1) != opA C l p i then [(i,opA C l p<|i+1)]else []:=by unfold trn;rw[List.range_succ,Ϟ,Ò,ý,ao];split<;>rfl
def Uu{C:Yc}{l:List Dd}{p:Nat}:∀i,fJ ((trn C l p i).length % 2=1)=opA C l p i
 |0=>rfl
 |i+1=>by have ih:=Uu (C:=C) (l:=l) (p:=p) i;rw[NO,Ö];cases h1:opA C l p (i+1)<;>cases h0:opA C l p i<;>rw[h0]at ih<;>simp at ih ⊢<;>lia
def CK{s t:String}{l:List String}(h:l.Perm [s,t])(n:l≠["parent","child"]):fJ (l=["child","parent"])=(fJ ((s,t)=("child","parent"))||fJ ((s,t)=("parent","child"))):=by
 have hl:l=[s,t]\/l=[t,s]:=by
  match l,h with
  |[],h=>have:=h.length_eq;cases this
  |[_],h=>have:=h.length_eq;cases this
  |[x,y],h =>
   have hx:x∈[s,t]:=h.mem_iff.mp ì;rcases Æ.mp hx with e|e
   .subst e;exact .inl (by rw[ų.mp<|Ů h])
   .have e:x=t:=Ø.mp e;subst e;exact .inr (by rw[ų.mp<|Ů<|h.trans<|ϭ _ _ _])
  |_::_::_::_,h=>have:=h.length_eq;simp at this
 rw[Bool.eq_iff_iff,am,fH,fH,fH];rcases hl with rfl|rfl
 .simp only[Ϣ,and_true,Œ];constructor
  .exact .inl
  .rintro(z|z)
   .exact z
   .exact fI (by rw[z.1,z.2]) n
 .simp only[Ϣ,and_true,Œ];constructor
  .exact λz=>.inr ⟨z.2,z.1⟩
  .rintro(z|z)
   .exact fI (by rw[z.1,z.2]) n
   .exact⟨z.2,z.1⟩
def OY{l m:List String}(ea:h a=dF (.lst<|l.map .str))(eb:h b=dF (.lst<|m.map .str)):eqV h (.ref a) (.ref b)=dF (fJ (l=m)):=by
 have h1:∀(l:List String),(l.map Val.str).mapM (dat h 11)=dF (l.map D.str):=λl=>by
  induction l with
  |nil=>rfl
  |cons x l ih=>rw[Í,ž,ih];rfl
 have h2:∀{c:Ad}{l:List String},h c=dF (.lst<|l.map .str)->dat h deep (.ref c)=dF (.lst<|l.map D.str):=λ{c l} ec=>by show(dZ<|h c).bind (λxs=>(xs.mapM<|dat h 11).map D.lst)=_;rw[ec,YN,ï,h1];rfl
 have h3:∀l m:List String,D.eqvs (l.map D.str) (m.map D.str)=fJ (l=m):=λl=>by
  induction l with
  |nil=>intro m;cases m<;>simp[D.eqvs]
  |cons x l ih =>
   intro m;cases m with
   |nil=>simp[D.eqvs]
   |cons y m =>show(x==y&&D.eqvs (l.map D.str) (m.map D.str))=_;rw[ih];by_cases e:x=y<;>by_cases e2:l=m<;>simp[e,e2]
 unfold eqV;rw[h2 ea,h2 eb];show dF (D.eqvs _ _)=_;rw[h3]
section
variable {Y:Yd}{N:Nat}
def AO{p:Nat}(x:dY h Y)(hp:p<Y.ts.length)(k:∀g,Ext h g->Q (.bl<|opn Y.cc p) g):wF P (n+6) "is_open_way" [.ref Y.y,.int p] h Q X:=by
 have xi:=x.ins;refine Kt ?_
 exists Uk x hp
 refine dP (show pairS (.tup [.str (Y.cc.ends p).1,.str (Y.cc.ends p).2])=dF _ from rfl) ?_;intro l pm nl;refine Za λa g1 ha x1 e1=>?_;refine' Za λb g2 hb x2 e2=>?_
 exists JH (OY (m:=["child","parent"]) (x2.get e1) e2)
 rw[CK pm nl];exact k _<|x1.trans x2
end
section
variable {Y:Yd}{N:Nat}
def Nu{bs:List Int}{pd:Ad}{l:List Dd}{r:List Val}{p:Nat}(no:d9 bs ts)(hp:p<ts.length)(ed:h pd=dF (.lst<|l.map Dd.v++r))(hr:run (Ze bs ts most) l=dF C)(hl:l.length<=5000)(hb:∀v s,r=v::s->Bad C v)
  (k:r=[]->∀a g,h a=dG->Ext h g->g a=dF (.lst<|(trn (Ze bs ts most) l p l.length).map WQ)->Q (.ref a) g) (kx:r≠[]->∀g,Ext h g->X "NoDeed" g):wF P (n+7) "turns" [Yr bs ts,.int most,.ref pd,.int p] h Q X:=by
 have g0:=WV (most:=most) no;refine FO ?_;fail;intro y hy;refine Wq no hy λY g1 ey y1 ec fr x1=>?_;refine⟨rfl,?_⟩;subst ey;refine' Za λq g2 hq x2 e2=>?_;have hq0:h q=dG:=ZH x1 hq;have m0:Mv g1 Y g2 Y:=(Mv.refl y1).ext x2;have nq:q∉Y.adr:=λz=>y1.taken z hq;have ed2:=(x1.trans x2).get ed;have npq:pd≠q:=Zb (x1.get ed) hq;refine' dP (show dZ (g2 pd)=dF _ from lsE ed2) ?_;have base:∀{g:Hs}{Z:Yd},Mv g1 Y g Z->Ext h g:=λm=>(m.base fr x1).1;refine Zp (λi en g=>Sm3 λv7 v8 Z=>Cj6 (en=[dF<|Yr bs ts,dF<|.int most,dF<|.ref pd,dF<|.int p,dF<|.ref Y.y,dF<|.bl<|opA (Ze bs ts most) l p i,dF<|.ref q,v7,v8]) (Mv g1 Y g Z) (q∉Z.adr) (g q=dF (.lst<|(trn (Ze bs ts most) l p i).map WQ)) (i<=l.length)<|run (Ze bs ts most) (l.take i)=dF Z.cc) ⟨_,_,Y,rfl,m0,nq,e2,Ř _,by rw[ec];rfl⟩ (λi en g _ ⟨_,_,_,_,m,_,_,_,_⟩=>lsE<|(base m).get ed) ?_ ?_
 .rintro i v en g hv ⟨v7,v8,Z,rfl,m,nz,eq,hi,hz⟩ K hK;let⟨y,hy,rfl⟩:=WW hv;rw[Ţ];let⟨gz,b1,b2,b3⟩:=Yl g0 hz;have hN:0+(l.take i).length<=6000:=by rw[õ];lia
  have zi:=m.at_.ins;rw[m.y]at zi;fail;rw[<-m.y];by_cases hil:i<l.length
  .have hd:=É hil;rw[ü (by rw[À];exact hil),Ó,hd]at hy;cases hy;have hs:∃D,step Z.cc l[i]=dF D:=by
    have e:=ŧ (i+1) l;rw[<-e,Y5]at hr;let⟨D,h1,_⟩:=ß.mp hr;rw[Zf hd,ZW hz]at h1;exact⟨D,h1⟩
   let⟨D,hD⟩:=hs;refine YQ m.at_ gz hN (λV g3 s mv=>?_) (λg3 s=>by rw[hD]at s;cases s);have hv2:run (Ze bs ts most) (l.take<|i+1)=dF V.cc:=by rw[Zf hd,ZW hz,s]
   have m3:=m.trans mv;let⟨nv,ev⟩:=mv.off nz eq;have eo:opA (Ze bs ts most) l p (i+1)=opn V.cc p:=by unfold opA stt;rw[fB (by lia),hv2];rfl
   have pv:p<V.ts.length:=by have:=(Yl g0 hv2).2.2.1;have e:V.ts=ts:=this;rw[e];exact hp
   have vi:=mv.at_.ins;rw[<-mv.y];refine' AO mv.at_ pv λg4 x4=>?_;rw[<-eo]
   exists Wo (c:=opA (Ze bs ts most) l p (i+1)==opA (Ze bs ts most) l p i) rfl
   have m4:=m3.ext x4;have ev:=x4.get ev;have tl16:(trn (Ze bs ts most) l p i).length<=i:=by unfold trn;rw[À];exact Ô (đ _ _) (by rw[Ĩ];exact Ì _)
   refine' ff (λc=>?_) (λc=>?_)
   .have e1:(!opA (Ze bs ts most) l p i)=opA (Ze bs ts most) l p (i+1):=by
     cases z1:opA (Ze bs ts most) l p i<;>cases z2:opA (Ze bs ts most) l p (i+1)<;>rw[z1,z2]at c<;>first|rfl|cases c
    have e2:trn (Ze bs ts most) l p (i+1)=trn (Ze bs ts most) l p i++[(i,opA (Ze bs ts most) l p<|i+1)]:=by rw[NO,fA<|by rw[<-e1];cases opA (Ze bs ts most) l p i<;>rfl]
    have lm:((trn (Ze bs ts most) l p i).map WQ).length<lim:=by rw[À];exact Ñ (Ô tl16<|Ô hi hl) (by decide)
    have fin:∀u:String,u=(if opA (Ze bs ts most) l p (i+1)then "open" else "shut")->K [dF<|Yr bs ts,dF<|.int most,dF<|.ref pd,dF<|.int p,dF<|.ref Y.y,dF<|.bl<|opA (Ze bs ts most) l p<|i+1,dF<|.ref q,dF<|.int i,dF<|Dd.v l[i]] (upd g4 q<|.lst<|(trn (Ze bs ts most) l p i).map WQ++[.tup [.int i,.str u]]):=λu eu=>hK _ _ ⟨_,_,V,rfl,m4.put hq nv,nv,by rw[e2,Ò,dM,eu];rfl,hil,hv2⟩;fail;rw[e1];cases hO:opA (Ze bs ts most) l p (i+1)with
    |true =>rw[hO]at fin;walk_at "p";rw[mv.y,m.y];exact fin _ rfl
    |false =>rw[hO]at fin;walk_at "p";rw[mv.y,m.y];exact fin _ rfl
   .have e1:opA (Ze bs ts most) l p i=opA (Ze bs ts most) l p (i+1):=by
     cases z1:opA (Ze bs ts most) l p i<;>cases z2:opA (Ze bs ts most) l p (i+1)<;>rw[z1,z2]at c<;>first|rfl|cases c
    have e2:trn (Ze bs ts most) l p (i+1)=trn (Ze bs ts most) l p i:=by rw[NO,e1,bne_self_eq_false,fB (by decide),ó]
    fail;rw[mv.y,m.y];exact hK _ _ ⟨_,_,V,by rw[e1],m4,nv,by rw[e2];exact ev,hil,hv2⟩
  .have e:i=l.length:=by lia
   subst e;rw[ø,hr]at hz;cases hz;rw[Ă (by rw[À];exact Ì _),À,Nat.sub_self]at hy;cases r with
   |nil=>cases hy
   |cons u s =>cases hy;exact Lh m.at_ gz hN (hb _ _ rfl) λg3 x3=>kx (by simp) g3<|(base m).trans x3
 .rintro en g ⟨v7,v8,Z,rfl,m,nz,eq,hi,hz⟩;rw[Ws,Ö,À]at hi hz eq;have er:r=[]:=ŭ (by lia);subst er;refine' k rfl q g hq0 (base m) eq
end
structure FL(g:Hs)(C:Yc)(l:List Dd)(as:List Ad)(f:Nat->Nat):Prop where
 nd:as.Nodup
 at_:∀{p:Nat}{a:Ad},as[p]?=dF a->g a=dF (.lst<|(trn C l p<|f p).map WQ)
variable {as:List Ad}
def FL.ext{g2:Hs}{l:List Dd}{f:Nat->Nat}(x:FL g C l as f)(e:Ext g g2):FL g2 C l as f:=⟨x.nd,λha=>e.get<|x.at_ ha⟩
variable {f2:Nat->Nat}
def FL.put{l:List Dd}{f:Nat->Nat}{p:Nat}(x:FL g C l as f)(ha:as[p]?=dF a)(hf:∀j,j≠p->f2 j=f j):FL (upd g a<|.lst<|(trn C l p<|f2 p).map WQ) C l as f2:=by
 refine⟨x.nd,λ{j b} hb=>?_⟩;by_cases e:j=p
 .subst e;rw[ha]at hb;cases hb;exact dM
 .rw[hf j e,dL]
  .exact x.at_ hb
  .intro z;subst z;have nd:=List.pairwise_iff_getElem.mp x.nd;let⟨h1,h2⟩:=Ð.mp ha;let⟨h3,h4⟩:=Ð.mp hb;rcases Nat.lt_or_gt_of_ne e with z|z
   .exact nd j p h3 h1 z<|h4.trans h2.symm
   .exact nd p j h1 h3 z<|h2.trans h4.symm
def FL.same{l:List Dd}{f:Nat->Nat}{p:Nat}(x:FL g C l as f)(hf:∀j,j≠p->f2 j=f j)(hp:trn C l p (f2 p)=trn C l p (f p)):FL g C l as f2:=⟨x.nd,λ{j b} hb=>by
  by_cases e:j=p
  . subst e
    rw[hp]
    exact x.at_ hb
  . rw[hf j e]
    exact x.at_ hb⟩
section
variable {Y:Yd}{N:Nat}
def Gq{bs:List Int}{pd:Ad}{l:List Dd}(no:d9 bs ts)(ed:h pd=dF (.lst<|l.map Dd.v))(hr:run (Ze bs ts most) l=dF C)(hl:l.length<=5000)
  (k:∀p as g,h p=dG->(∀a∈as,h a=dG)->Ext h g->g p=dF (.lst<|as.map .ref)->as.length=ts.length->FL g (Ze bs ts most) l as (λ_=>l.length)->Q (.ref p) g):wF P (n+7) "_law_seen" [Yr bs ts,.int most,.ref pd] h Q X:=by
 have g0:=WV (most:=most) no;have t16:=no.sixteen;refine OD ?_;fail;intro y hy;refine Wq no hy λY g1 ey y1 ec fr x1=>?_;refine⟨rfl,?_⟩;subst ey;unfold Yr;fail;rw[À];refine⟨⟨by lia,by lia⟩,Ñ (by rw[ZS];lia:_<=16) (by decide),?_⟩;refine Zw (λi ys g=>∃as:List Ad,ys=as.map .ref/\as.length=i/\as.Nodup/\(∀a∈as,g1 a=dG/\g a=dF (.lst []))/\Ext g1 g) ⟨[],rfl,rfl,Ę,(λ_ m=>nomatch m),.refl⟩ (λ_ _ _ _ _=>trivial) ?_ ?_
 .rintro i v ys g hv ⟨as,rfl,rfl,nd,ha,xg⟩ K hK;walk_at "p";refine Za λa g2 hn x2 e2=>?_;refine hK _ _ ⟨as++[a],by rw[Ò];rfl,by rw[Ö];rfl,æ.mpr ⟨nd,by simp,λx hx y hy e=>?_⟩,λb hb=>?_,xg.trans x2⟩
  .rw[Ø.mp hy]at e;rw[e]at hx;rw[(ha a hx).2]at hn;cases hn
  .rcases â.mp hb with hb|hb
   .exact⟨(ha b hb).1,x2.get (ha b hb).2⟩
   .rw[Ø.mp hb];exact⟨ZH xg hn,e2⟩
 rintro ys g2 ⟨as,rfl,hal,nd,ha,xg⟩;rw[ZS,ä]at hal;refine Za λq g3 hq x3 e3=>?_;have xx:Ext h g3:=(x1.trans xg).trans x3;have base:∀{g:Hs}{Z:Yd},Mv g1 Y g Z->Ext h g:=λm=>(m.base fr x1).1;have f0:∀a∈q::as,g1 a=dG:=λa hm=>by
  rcases Æ.mp hm with z|z
  .rw[z];exact ZH xg hq
  .exact(ha a z).1
 have n0:∀a∈q::as,a∉Y.adr:=λa hm z=>y1.taken z<|f0 a hm;have nqa:q∉as:=λz=>by rw[(ha q z).2]at hq;cases hq
 have fl0:FL g3 (Ze bs ts most) l as λ_=>0:=⟨nd,λ{p a} hp=>x3.get (ha a<|á hp).2⟩
 refine' dP (show dZ (g3 pd)=dF _ from lsE<|xx.get ed) ?_;refine Zp (λi en g=>Sm5 λv4 v6 v7 v8 Z=>Cj6 (en=[dF<|.tup [.tup<|bs.map .int,.tup<|ts.map trV],dF<|.int most,dF<|.ref pd,dF<|.ref Y.y,v4,dF<|.ref q,v6,v7,v8]) (Mv g1 Y g Z) ((∀a∈q::as,a∉Z.adr)) (g q=dF (.lst<|as.map .ref)) (FL g (Ze bs ts most) l as λ_=>i)<|run (Ze bs ts most) (l.take i)=dF Z.cc) ⟨_,_,_,_,Y,rfl,(Mv.refl y1).ext<|xg.trans x3,n0,e3,fl0,by rw[ec];rfl⟩ (λi en g _ ⟨_,_,_,_,_,_,m,_,_,_,_⟩=>lsE<|(base m).get ed) ?_ ?_
 .rintro i v en g hv ⟨v4,v6,v7,v8,Z,rfl,m,nz,eq,fl,hz⟩ K hK;let⟨y,hy,rfl⟩:=WW hv;rw[Ţ];rw[Ó]at hy;let⟨d,hd,rfl⟩:=Ï.mp hy;have hil:=(Ð.mp hd).1;let⟨gz,b1,b2,b3⟩:=Yl g0 hz;have hN:0+(l.take i).length<=6000:=by rw[õ];lia
  have zi:=m.at_.ins;rw[m.y]at zi;fail;rw[<-m.y];have hs:∃D,step Z.cc d=dF D:=by have e:=ŧ (i+1) l;rw[<-e,Y5]at hr;let⟨D,h1,_⟩:=ß.mp hr;rw[Zf hd,ZW hz]at h1;exact⟨D,h1⟩
  let⟨D,hD⟩:=hs;refine YQ m.at_ gz hN (λV g4 s mv=>?_) (λg3 s=>by rw[hD]at s;cases s);have hv2:run (Ze bs ts most) (l.take<|i+1)=dF V.cc:=by rw[Zf hd,ZW hz,s]
  have m4:=m.trans mv;let⟨nq,eq4⟩:=mv.off (nz q ì) eq;have fl4:FL g4 (Ze bs ts most) l as λ_=>i:=⟨fl.nd,λ{p a} hp=>(mv.off (nz a<|à _<|á hp)<|fl.at_ hp).2⟩
  have nv:∀a∈q::as,a∉V.adr:=λa hm=>by
   rcases Æ.mp hm with z|z
   .rw[z];exact nq
   .obtain⟨p,hp⟩:=List.getElem?_of_mem z;exact(mv.off (nz a hm)<|fl.at_ hp).1
  have ev:V.ts=ts:=(Yl g0 hv2).2.2.1;fail;rw[À];refine⟨⟨by lia,by lia⟩,?_⟩;rw[m.y];refine Zp (λj en g=>Sm2 λv4 v8=>Cj4 (en=[dF<|.tup [.tup<|bs.map .int,.tup<|ts.map trV],dF<|.int most,dF<|.ref pd,dF<|.ref Y.y,v4,dF<|.ref q,dF<|.int i,dF<|Dd.v d,v8]) (Mv g1 Y g V) (g q=dF (.lst<|as.map .ref))<|FL g (Ze bs ts most) l as λp=>if p<j then i+1 else i) ⟨_,_,rfl,m4,eq4,fl4.same (p:=ts.length) (λj _=>fB<|aA j)<|by rw[fB<|aA _]⟩ (λ_ _ _ _ _=>trivial) ?_ ?_
  .rintro j v en g hv ⟨v4,v8,rfl,m5,eq5,fl5⟩ K2 hK2;let⟨rfl,hj⟩:=Yx hv;have hj':j<as.length:=by lia
   have haj:=É hj';generalize as[j]=a at haj;have efa:=fl5.at_ haj;rw[fB<|ą j]at efa;have eo:opA (Ze bs ts most) l j (i+1)=opn V.cc j:=by unfold opA stt;rw[fB (by lia),hv2];rfl
   have vi:=m5.at_.ins;rw[m5.y]at vi;fail;rw[<-m5.y];refine Uk (p:=j) m5.at_ (by rw[ev];lia) ?_;refine dP (show pairS (.tup [.str (V.cc.ends j).1,.str (V.cc.ends j).2])=dF _ from rfl) ?_;intro ll pm nl;refine Za λa1 g5 ha1 x5 e5=>?_;refine' Za λb1 g6 hb1 x6 e6=>?_;refine JH (OY (m:=["child","parent"]) (x6.get e5) e6) ?_;rw[CK pm nl,show(fJ (((V.cc.ends j).1,(V.cc.ends j).2)=("child","parent"))||fJ (((V.cc.ends j).1,(V.cc.ends j).2)=("parent","child")))=opn V.cc j from rfl,<-eo];have x56:=x5.trans x6;have eq6:=x56.get eq5;have efa6:=x56.get efa;have m6:=m5.ext x56;have fl6:=fl5.ext x56;have er:atI (as.map Val.ref) (j:Int)=dF (.ref a):=YE (į j) (by rw[ä,Ó,haj];rfl)
   exists Zz eq6 er
   fail;rw[À];have eodd:fJ (((trn (Ze bs ts most) l j i).length:Int) % 2=1)=opA (Ze bs ts most) l j i:=by rw[<-Uu i];exact decide_eq_decide.mpr (by lia)
   rw[eodd];refine Wo (c:=opA (Ze bs ts most) l j (i+1)==opA (Ze bs ts most) l j i) rfl ?_;have hf2:∀p,p≠j->(if p<j+1 then i+1 else i)=if p<j then i+1 else i:=λp hp=>by
    by_cases z:p<j
    .rw[fA z,fA<|by lia]
    .rw[fB z,fB<|by lia]
   have tl16:(trn (Ze bs ts most) l j i).length<=i:=by unfold trn;rw[À];exact Ô (đ _ _) (by rw[Ĩ];exact Ì _)
   refine' ff (λc=>?_) (λc=>?_)
   .have e2:trn (Ze bs ts most) l j (i+1)=trn (Ze bs ts most) l j i++[(i,opA (Ze bs ts most) l j<|i+1)]:=by
     rw[NO,fA<|show(opA (Ze bs ts most) l j (i+1) != opA (Ze bs ts most) l j i)=dI from c]
    have lm:((trn (Ze bs ts most) l j i).map WQ).length<lim:=by rw[À];exact Ñ (Ô tl16<|Ô (ş hil) hl) (by decide)
    have haq:a≠q:=λz=>nqa<|z▸á haj;have haA:a∈q::as:=à _<|á haj;have fin:∀{g7:Hs}(u:String){v8:Option Val},Ext g6 g7->u=(if opA (Ze bs ts most) l j (i+1)then "open" else "shut")->K2 [dF<|.tup [.tup<|bs.map .int,.tup<|ts.map trV],dF<|.int most,dF<|.ref pd,dF<|.ref Y.y,dF<|.int j,dF<|.ref q,dF<|.int i,dF<|Dd.v d,v8] (upd g7 a<|.lst<|(trn (Ze bs ts most) l j i).map WQ++[.tup [.int i,.str u]]):=λ{g7} u {v8} x7 eu=>by have fl7:=(fl6.ext x7).put (f2:=λp=>if p<j+1 then i+1 else i) haj hf2;rw[fA<|ă j,e2,Ò]at fl7;subst eu;exact hK2 _ _ ⟨_,_,rfl,(m6.ext x7).put (f0 a haA)<|nv a haA,(dL<|Ne.symm haq).trans<|x7.get eq6,fl7⟩
    exists Zz eq6 er
    refine' Za λc1 g7 hc1 x7 e7=>?_;have efa7:=x7.get efa6;rw[m5.y];cases hO:opA (Ze bs ts most) l j (i+1)with
    |true =>rw[hO]at fin;refine' fin _ x7 rfl
    |false =>rw[hO]at fin;refine' fin _ x7 rfl
   .have e2:trn (Ze bs ts most) l j (i+1)=trn (Ze bs ts most) l j i:=by
     rw[NO,fB (by rw[show(opA (Ze bs ts most) l j (i+1) != opA (Ze bs ts most) l j i)=dJ from c];decide),ó]
    fail;rw[m5.y];exact hK2 _ _ ⟨_,_,rfl,m6,eq6,fl6.same (p:=j) hf2<|by rw[fA<|ă j,fB<|ą j];exact e2⟩
  rintro en g ⟨v4,v8,rfl,m5,eq5,fl5⟩;rw[ZS,ä]at fl5;refine' hK _ _ ⟨_,_,_,_,V,rfl,m5,nv,eq5,⟨fl5.nd,λ{p a} hp=>?_⟩,hv2⟩;have:=fl5.at_ hp;rw[fA (by have:=(Ð.mp hp).1;lia)]at this;exact this
 .rintro en g ⟨v4,v6,v7,v8,Z,rfl,m,nz,eq,fl,hz⟩;rw[Ws,À]at fl;refine' k q as g (ZH (x1.trans xg) hq) (λa hm=>ZH x1 (ha a hm).1) (base m) eq hal fl
end
def Z5{d:Dd}(h:step C d=dG):Bad C d.v:=.inl ⟨d,rfl,h⟩
abbrev BadL(C:Yc)(m:Nat)(xs:List Val):Prop:=(∀v∈xs,Bad C v)/\xs.length<=m
variable {ys:List Val}
def BadL.app{m k:Nat}{xs:List Val}(a:BadL C m xs)(b:BadL C k ys):BadL C (m+k)<|xs++ys:=⟨λv hv=>(â.mp hv).elim (a.1 v)<|b.1 v,by rw[Ö];have:=a.2;have:=b.2;lia⟩
def BadL.one{k:Nat}{v:Val}(a:BadL C k ys)(b:Bad C v):BadL C (k+1)<|ys++(dF v).toList:=a.app ⟨λu hu=>by rw[Option.toList_some,Ø]at hu;rw[hu];exact b,Ì _⟩
def Pe{c:String}{Ts:List String}(e:h a=dF (.exc c))(q:Q (.bl<|Ts.any<|fj c) h):(biV h (.isx Ts) [.ref a]).wp h Q:=wp_val (by show Rs.ofO ((excOf<|h a).map _)=_;rw[e];rfl) q
def Cr{b:Int}(h:(C.br.lookup b).isSome=dJ):C.br.lookup b=dG:=by cases z:C.br.lookup b with|none=>rfl|some v=>rw[z]at h;cases h
def LB{xs:List Val}{a b:Val}(r0:0<=r)(r1:r<(xs.length:Int)+2):∃v,atI (xs++[a,b]) r=dF v/\v∈xs++[a,b]:=Mo r0 (by rw[Ö];show r<((xs.length+2:Nat):Int);lia)
section
variable {Y Z:Yd}{N:Nat}
def Gp(hw:Ints h w)(x:dY h Y)(gd:Y.cc.gd N)(nw:w∉Y.adr)(k:∀v g,Bad Y.cc v->ExtB w h g->Ints g w->Q v g):wF P (n+3) "_law_bad_deed" [.ref w,.ref Y.y] h Q X:=by
 have h10:=gd.ten;have kl:=Wp (C:=Y.cc);have t16:Y.ts.length<=16:=gd.no.sixteen;have b10:Y.cc.bs.length<=10:=gd.no.ten;have df:(Y.ts.map trV).length=Y.ts.length:=À _;have rl:(Y.road.map rdV).length=Y.road.length:=À _;have hc16:=gd.f16;have cl:=Nf (C:=Y.cc);have dl:=AF (C:=Y.cc);have dl2:(Y.cc.downs.map Val.int).length=Y.cc.downs.length:=À _;have cl2:(Y.cc.cuts.map Val.int).length=Y.cc.cuts.length:=À _;have xi:=x.ins;have lm:(100:Nat)<lim:=by decide
 refine JB ?_;refine' Ng x gd λg1 x1=>?_;have y1:=x.ext x1;have yi:=y1.ins;refine' Jg y1 λp2 g2 db x2 e2=>?_;have y2:=y1.ext x2;have yi:=y2.ins;refine' Jg y2 λp3 g3 hp3 x3 e3=>?_;have y3:=y2.ext x3;have yi:=y3.ins;refine' Za λp4 g4 hp4 x4 e4=>?_;have y4:=y3.ext x4;have yi:=y4.ins;rw[rl]at e4;have s4:BadL Y.cc 5 [.tup [.str "come",.int (Y.road.length:Nat)],.tup [.str "lost",.int<|(Y.road.length:Nat)+3],.tup [.str "come",.int<|0 - 1],.tup [.str "tick",.int 1000],.tup [.str "tick"]]:=by
  refine⟨λv hv=>?_,by simp⟩;simp only[Æ,å,or_false]at hv;rcases hv with rfl|rfl|rfl|rfl|rfl
  .exact Z5 (d:=.come _) (by dsimp only[step];exact W9 (Y:=Y) (p:=(Y.road.length:Nat)) λz=>Int.lt_irrefl _ z.2)
  .exact Z5 (d:=.lost _) (by dsimp only[step];exact W9 (Y:=Y)<|by lia)
  .exact Z5 (d:=.come _) rfl
  .refine Z5 (d:=.tick _) ?_;show(Y.cc.br.lookup 1000).map _=dG;rw[Cr]
   .rfl
   .cases z:(Y.cc.br.lookup 1000).isSome with
    |false=>rfl
    |true=>have:=gd.no.rng _<|keys_sub.mp gd.sub _<|keys_look.mp z;lia
  .exact .inr<|.inl rfl
 have fill:∀{xs:List Val}{m:Nat},BadL Y.cc m xs->m<=100->xs.length<=lim:=λa b=>Ô a.2<|ş<|Ñ b lm;have dn:∀b∈Y.cc.downs,Y.cc.br.lookup b=dG:=λb hb=>Cr (downs_mem.mp hb).2;refine' ⟨Ñ (by show(Y.cc.downs.map Val.int).length<=100;lia) lm,?_⟩;refine Zw (λi ys g=>g=g4/\BadL Y.cc i ys) ⟨rfl,by simp[BadL]⟩ (λ_ _ _ _ _=>trivial) ?_ ?_
 .rintro i v ys g hv ⟨rfl,hb⟩ K hK;let⟨b,hm,rfl⟩:=ZO hv;walk_at "p";exact hK _ _ ⟨rfl,hb.one<|Z5 (d:=.fallB b)<|by dsimp only[step];rw[dn b<|á hm];rfl⟩
 rintro ys g ⟨rfl,s5⟩;rw[dl2]at s5;refine Za λp5 g5 hp5 x5 e5=>?_;have s6:=s4.app s5;refine' Ys (x5.get e4) e5 (fill s6<|by lia) (Za λp6 g6 hp6 x6 e6=>?_);refine' ⟨Ñ (by show(Y.cc.downs.map Val.int).length<=100;lia) lm,?_⟩;refine Zw (λi ys g=>g=g6/\BadL Y.cc i ys) ⟨rfl,by simp[BadL]⟩ (λ_ _ _ _ _=>trivial) ?_ ?_
 .rintro i v ys g hv ⟨rfl,hb⟩ K hK;let⟨b,hm,rfl⟩:=ZO hv;walk_at "p";exact hK _ _ ⟨rfl,hb.one<|Z5 (d:=.tick b)<|by dsimp only[step];rw[dn b<|á hm];rfl⟩
 rintro ys7 g ⟨rfl,s7⟩;rw[dl2]at s7;refine Za λp7 g7 hp7 x7 e7=>?_;have s8:=s6.app s7;refine' Ys (x7.get e6) e7 (fill s8<|by lia) (Za λp8 g8 hp8 x8 e8=>?_);have y8:=y4.ext<|(x5.trans x6).trans<|x7.trans x8;have yi:=y8.ins;refine' Wu y8 gd λp9 g9 hp9 x9 e9=>?_;have ll:(Mx Y.cc).length=Y.cc.keys.length:=À _;refine' ⟨Ñ (by show(Mx Y.cc).length<=100;lia) lm,?_⟩;refine Zw (λi ys g=>g=g9/\BadL Y.cc i ys) ⟨rfl,by simp[BadL]⟩ (λi ys g _ ⟨z,_⟩=>by rw[z];exact lsE e9) ?_ ?_
 .rintro i v ys g hv ⟨rfl,hb⟩ K hK;let⟨b,hm,rfl⟩:=ZO hv;walk_at "p";exact hK _ _ ⟨rfl,hb.one<|Z5 (d:=.backB b)<|fA<|keys_mem.mp<|á hm⟩
 rintro ys10 g ⟨rfl,s10⟩;rw[ll]at s10;refine Za λp10 g10 hp10 x10 e10=>?_;have s11:=s8.app s10;refine' Ys ((x9.trans x10).get e8) e10 (fill s11<|by lia) (Za λp11 g11 hp11 x11 e11=>?_);have y11:=y8.ext<|(x9.trans x10).trans x11;have yi:=y11.ins
 exists Mm y11
 exists dQ (xs:=[.tup<|Y.bs.map .int,.tup<|Y.ts.map trV]) (v:=.tup<|Y.ts.map trV) rfl
 fail;rw[df];refine⟨⟨by lia,by lia⟩,by rw[ZS];exact Ñ (by lia:_<=100) lm,?_⟩;refine Zw (λi ys g=>g=g11/\BadL Y.cc i ys) ⟨rfl,by simp[BadL]⟩ (λ_ _ _ _ _=>trivial) ?_ ?_
 .rintro i v ys g hv ⟨rfl,hb⟩ K hK;let⟨rfl,hi⟩:=Yx hv
  exists A8 (ns:=Y.cc.cuts)
  refine' OA (λhc=>?_) (λhc=>?_)
  .refine' hK _ _ ⟨rfl,hb.one<|Z5 (d:=.backT (i:Int))<|fB λz=>hc<|cut_mem.mpr z⟩
  .exact hK _ _ ⟨rfl,by rw[cp,ó];exact⟨hb.1,Nat.le_succ_of_le hb.2⟩⟩
 rintro ys12 g ⟨rfl,s12⟩;rw[ZS,ä]at s12;refine Za λp12 g12 hp12 x12 e12=>?_;have s13:=s11.app s12;refine' Ys (x12.get e11) e12 (fill s13<|by lia) (Za λp13 g13 hp13 x13 e13=>?_);refine' ⟨Ñ (by show(Y.cc.cuts.map Val.int).length<=100;lia) lm,?_⟩;refine Zw (λi ys g=>g=g13/\BadL Y.cc i ys) ⟨rfl,by simp[BadL]⟩ (λ_ _ _ _ _=>trivial) ?_ ?_
 .rintro i v ys g hv ⟨rfl,hb⟩ K hK;let⟨b,hm,rfl⟩:=ZO hv;walk_at "p";exact hK _ _ ⟨rfl,hb.one<|Z5 (d:=.fallT b)<|fB λz=>by rw[cut_mem.mp<|á hm]at z;cases z.2⟩
 rintro ys14 g ⟨rfl,s14⟩;rw[cl2]at s14;refine Za λp14 g14 hp14 x14 e14=>?_;have s15:=s13.app s14;refine' Ys (x14.get e13) e14 (fill s15<|by lia) (Za λp15 g15 hp15 x15 e15=>?_);have y15:=y11.ext<|(x12.trans x13).trans<|x14.trans x15;have yi:=y15.ins
 exists Mm y15
 exists dQ (xs:=[.tup<|Y.bs.map .int,.tup<|Y.ts.map trV]) (v:=.tup<|Y.ts.map trV) rfl
 fail;rw[df];refine Za λp16 g16 hp16 x16 e16=>?_;have s16:BadL Y.cc 2 [.tup [.str "fall",.str "tie",.int (Y.ts.length:Nat)],.tup [.str "rise",.int 0]]:=by
  refine⟨λv hv=>?_,by simp⟩;simp only[Æ,å,or_false]at hv;rcases hv with rfl|rfl
  .exact Z5 (d:=.fallT _)<|fB λz=>Int.lt_irrefl (Y.ts.length:Nat) z.1.2
  .exact .inr<|.inr<|.inl rfl
 have s17:=s15.app s16;refine Ys (x16.get e15) e16 (fill s17<|by lia)<|Za λp17 g17 hp17 x17 e17=>?_;fail;have xx:Ext h g17:=((((x1.trans x2).trans<|x3.trans x4).trans<|(x5.trans x6).trans<|x7.trans x8).trans<|((x9.trans x10).trans x11).trans<|x12.trans x13).trans<|(x14.trans x15).trans<|x16.trans x17;have w17:=hw.ext xx;have n17:p17≠w:=λz=>(hw.ext<|((((x1.trans x2).trans<|x3.trans x4).trans<|(x5.trans x6).trans<|x7.trans x8).trans<|((x9.trans x10).trans x11).trans<|x12.trans x13).trans<|(x14.trans x15).trans x16).ne hp17 z.symm;refine Za λp18 g18 hp18 x18 e18=>?_;have s18:BadL Y.cc 2 [.non,.tup [.str "come",.bl dI]]:=by
  refine⟨λv hv=>?_,by simp⟩;simp only[Æ,å,or_false]at hv;rcases hv with rfl|rfl
  .exact .inr<|.inr<|.inr<|.inl rfl
  .exact .inr<|.inr<|.inr<|.inr rfl
 have s19:=s17.app s18;have e17':=x18.get e17;refine' Ys e17' e18 (fill s19<|by lia) (Za λp19 g19 hp19 x19 e19=>?_);have e17'':=x19.get e17';fail;have w19:=(w17.ext x18).ext x19;have n19:p19≠w:=λz=>(w17.ext x18).ne hp19 z.symm;refine Zm w19 (by simp only[Ö,Ç];lia) λr g20 r0 r1 x20 w20=>?_;let⟨v,ev,mv⟩:=LB r0 r1;refine Zz (x20.get n19 e19) ev ?_;exact k v g20 (s19.1 v mv) ((ExtB.of<|xx.trans<|x18.trans x19).trans x20) w20
end
def M7{k:Int}(h:0<=k):cut xs dG (dF k)=xs.take k.toNat:=by unfold cut eN;dsimp only;rw[fA h];simp[List.take_eq_take_iff]
def Cd{k:Int}(h:0<=k)(l:k<=xs.length):cut xs (dF k) dG=xs.drop k.toNat:=by unfold cut eN;dsimp only;rw[fA h,Nat.min_eq_left<|by lia];exact bF (by rw[ς];exact Ì _)
def Cm{v:Val}(b:Bad C v):flat 11 v=dI:=by
 rcases b with⟨d,rfl,_⟩|rfl|rfl|rfl|rfl
 .exact Jc d
 all_goals rfl
section
variable {Y:Yd}{N:Nat}
variable {pd:Ad}
def AY{bs:List Int}{wh:Int}{l:List Dd}(no:d9 bs ts)(hw:Ints h w)(ed:h pd=dF (.lst<|l.map Dd.v))(hpw:pd≠w)(hr:run (Ze bs ts most) l=dF C)(hl:l.length<=5000)
  (k:∀i D v p g,i<=l.length->run (Ze bs ts most) (l.take i)=dF D->Bad D v->h p=dG->ExtB w h g->g p=dF (.lst<|(l.take i).map Dd.v++([v]++(l.drop i).map Dd.v))->Q (.ref p) g):wF P (n+7) "_law_spoilt_row" [Yr bs ts,.int most,.ref pd,.int wh,.ref w] h Q X:=by
 have g0:=WV (most:=most) no;have hml:(l.map Dd.v).length=l.length:=À _;refine WF ?_;fail;rw[hml];have bz:(0:Int)<(l.length:Int)+1:=by lia
 fail;obtain⟨i,hi,hil⟩:∃i:Nat,wh % ((l.length:Int)+1)=i/\i<=l.length:=by have h1:=aC wh (b:=(l.length:Int)+1) (by lia);have h2:=ϣ wh bz;exact⟨(wh % ((l.length:Int)+1)).toNat,by lia,by lia⟩
 rw[hi];intro y hy;refine Wq no hy λY g1 ey y1 ec fr x1=>?_;refine⟨rfl,?_⟩;subst ey;have ed1:=x1.get ed;refine' Za λp2 g2 db x2 e2=>?_;rw[M7<|į i,ä,<-Ϙ]at e2;have n2:p2∉Y.adr:=λz=>y1.taken z db;obtain⟨D,hD,_⟩:∃D,run (Ze bs ts most) (l.take i)=dF D/\True:=by rw[<-ŧ i l,Y5]at hr;let⟨D,h1,_⟩:=ß.mp hr;exact⟨D,h1,trivial⟩
 have base:∀{g:Hs}{Z:Yd},Mv g1 Y g Z->Ext h g:=λm=>(m.base fr x1).1;refine' Zp (λj en g=>Sm2 λv7 Z=>Cj5 (en=[dF<|Yr bs ts,dF<|.int most,dF<|.ref pd,dF<|.int wh,dF<|.ref w,dF<|.int i,dF<|.ref Y.y,v7]) (Mv g1 Y g Z) (p2∉Z.adr) (g p2=dF (.lst<|(l.take i).map Dd.v))<|run (Ze bs ts most) ((l.take i).take j)=dF Z.cc) ⟨_,Y,rfl,(Mv.refl y1).ext x2,n2,e2,by rw[ec];rfl⟩ (λ_ _ _ _ ⟨_,_,_,_,_,e,_⟩=>lsE e) ?_ ?_
 .rintro j v en g hv ⟨v7,Z,rfl,m,nz,eq,hz⟩ K hK;rw[Ó]at hv;let⟨d,hd,rfl⟩:=Ï.mp hv;let⟨gz,_⟩:=Yl g0 hz;have hN:0+((l.take i).take j).length<=6000:=by rw[õ,õ];lia
  have zi:=m.at_.ins;rw[m.y]at zi;fail;rw[<-m.y];have hs:∃V,step Z.cc d=dF V:=by have hD':=hD;rw[<-ŧ (j+1) (l.take i),Y5]at hD';let⟨V,h1,_⟩:=ß.mp hD';rw[Zf hd,ZW hz]at h1;exact⟨V,h1⟩
  let⟨V0,hV⟩:=hs;refine YQ m.at_ gz hN (λV g4 s mv=>?_) (λg3 s=>by rw[hV]at s;cases s);let⟨o1,o2⟩:=mv.off nz eq;fail;rw[m.y];exact hK _ _ ⟨_,V,rfl,m.trans mv,o1,o2,by rw[Zf hd,ZW hz,s]⟩
 rintro en g ⟨v7,Z,rfl,m,nz,eq,hz⟩;rw[À,ø]at hz;let⟨gz,_⟩:=Yl g0 hz;have ext:=base m;have ed3:=ext.get ed;have w3:=hw.ext ext;have wz:w∉Z.adr:=λz=>by let⟨o,eo⟩:=hw.some_;rw[(m.base fr x1).2 w z]at eo;cases eo
 refine' Za λp4 g4 hp4 x4 e4=>?_;rw[M7<|į i,ä,<-Ϙ]at e4;have n4:p4≠w:=λz=>w3.ne hp4 z.symm;fail;rw[<-m.y];refine Gp (w3.ext x4) (m.at_.ext x4) gz wz λv g5 bv x5 w5=>?_;have e5:=x5.get n4 e4;have ed5:=x5.get hpw<|x4.get ed3;refine' Za λp6 g6 hp6 x6 e6=>?_;have Ω:((l.take i).map Dd.v).length<=5000:=by rw[À,õ];lia
 refine' Ys (x6.get e5) e6 (by rw[Ö];exact Ô (by show _+1<=5001;lia)<|by decide) (Za λp7 g7 hp7 x7 e7=>?_);have ed7:=(x6.trans x7).get ed5;refine' Za λp8 g8 hp8 x8 e8=>?_;rw[Cd (į i) (by rw[hml];lia),ä,<-bb]at e8;refine' Ys (x8.get e7) e8 (by rw[Ö,Ö,À,À,õ,ς];exact Ô (by show _+1+_<=10001;lia)<|by decide) (Za λp9 g9 hp9 x9 e9=>?_);have xx:ExtB w h g8:=((ExtB.of<|ext.trans x4).trans x5).trans<|.of<|(x6.trans x7).trans x8;have h9:h p9=dG:=by
  have n9:p9≠w:=((w5.ext<|(x6.trans x7).trans x8).ne hp9).symm;cases e:h p9 with
  |none=>rfl
  |some o=>rw[xx.get n9 e]at hp9;cases hp9
 refine k i Z.cc v p9 g9 hil hz bv h9 (xx.trans<|.of x9) ?_;rw[e9,Đ]
def Oy{bs:List Int}{l:List Dd}{r:List Val}{p:Nat}(no:d9 bs ts)(hp:p<ts.length)(ed:h pd=dF (.lst<|l.map Dd.v++r))(hr:run (Ze bs ts most) l=dF C)(hl:l.length<=5000)(hb:∀v s,r=v::s->Bad C v)(hn:r≠[])(k:∀g,Ext h g->Q (.bl dI) g):wF P (n+8) "_law_refused" [Yr bs ts,.int most,.ref pd,.int p] h Q X:=by
 refine Kf ?_;refine' Za λp1 g1 cb x1 e1=>?_;refine' Nu no hp (x1.get ed) hr hl hb (λz=>fI z hn) λ_ g2 x2=>?_;refine Ia rfl λpe hpe=>?_;have e3:upd g2 pe (.exc "NoDeed") pe=dF (.exc "NoDeed"):=dM;have x3:Ext g2<|upd g2 pe<|.exc "NoDeed":=Ext.new hpe;generalize upd g2 pe (.exc "NoDeed")=g3 at e3 x3
 exists Pe e3
 exists Pe e3
 refine' Za λp4 g4 hp4 x4 e4=>?_
 exists Pe (x4.get e3)
 fail;have xx:=((x1.trans x2).trans x3)
 refine Za λp5 g5 hp5 x5 e5=>?_;refine JH (c:=dI) ?_ ?_
 .have h4:g5 p4=_:=x5.get dM;exact MB h4 e5 rfl
 exact k _<|(MO (xx.trans x4)<|ZH xx hp4).trans x5
end
def DB(q:Nat×Bool):flat 11 (WQ q)=dI:=rfl
def law_ok(h63:ns.length<=63)(k:∀g,Q (.bl dI) g):wF P (n+9) "law" [.scr ns] h Q X:=by
 refine Q0 ?_;refine' CD h63 λw g1 w1=>?_;refine' Za λp2 g2 db x2 e2=>?_;have n2:p2≠w:=λz=>w1.ne db z.symm;refine' Zm (w1.ext x2) (by decide) λr3 g3 a3 b3 x3 w3=>?_;let⟨v,ev,hv⟩:=Mo (xs:=[Val.int 13,.int 13,.int 13,.int 197]) a3 b3;have hm:∃m:Int,v=.int m/\0<m:=by simp only[Æ,å,or_false]at hv;rcases hv with rfl|rfl|rfl|rfl<;>exact⟨_,rfl,by decide⟩
 let⟨m,rfl,m0⟩:=hm;refine Zz (x3.get n2 e2) ev ?_;refine' Zm w3 m0 λr4 g4 a4 b4 x4 w4=>?_;refine' Zm w4 (by decide) λwh g5 a5 b5 x5 w5=>?_;refine' Zm w5 (by decide) λr6 g6 a6 b6 x6 w6=>?_;refine' Za λpb g7 hpb x7 eb=>?_;have nb:pb≠w:=λz=>w6.ne hpb z.symm;clear x6 x5 x4 x3 x2 e2 ev hv;refine' LD (w6.ext x7) λbs ts g9 no x9 w9=>?_;have eb9:=x9.get nb eb;have gd0:=WV (most:=4+r4) no;fail;intro y hy;refine Wq no hy λY g10 ey y10 ec fr x10=>?_;refine⟨rfl,?_⟩;subst ey;refine' Pa (w9.ext x10) y10 (ec▸gd0) (λz=>by let⟨o,eo⟩:=w9.some_;rw[fr _ z]at eo;cases eo) λpr l C g11 hr hl npr er ex11 w11=>?_;rw[ec]at hr;have eb11:g11 pb=dF (.lst [.int r6]):=ex11.get (by simp only[Æ,not_or];exact⟨nb,λz=>by rw[fr _ z]at eb9;cases eb9⟩)<|x10.get eb9;have nrb:pr≠pb:=λz=>by
  rw[z,eb11]at er;cases l with
  |nil=>cases er
  |cons d l=>cases d<;>cases er
 clear ex11 y10 fr x10 x9 eb9 eb;refine' Gq no er hr (by lia) λp7 as g12 hp7 has x12 e12 hal fl=>?_;refine' AY no (w:=pb) ⟨[r6],x12.get eb11⟩ (x12.get er) nrb hr (by lia) λi D v8 p8 g13 hi hD bv hp8 x13 e13=>?_;have er13:=x13.get nrb<|x12.get er;have n7b:p7≠pb:=Zb eb11 hp7 |>.symm
 have e12:=x13.get n7b e12;have fl:FL g13 (Ze bs ts<|4+r4) l as λ_=>l.length:=⟨fl.nd,λ{p a} hp=>x13.get (λz=>by have:=has a<|á hp;rw[z,eb11]at this;cases this)<|fl.at_ hp⟩
 clear x13 x12 eb11 has;refine' Za λp9 g14 hp9 x14 e14=>?_;have e13:=x14.get e13;have er14:=x14.get er13;refine' Za λp10 g15 hp10 x15 e15=>?_;have e13:=x15.get e13;have er15:=x15.get er14;have e14:=x15.get e14;have e12:=(x14.trans x15).get e12;have fl:=fl.ext<|x14.trans x15;have t16:=no.sixteen;have fbad:((l.take i).map Dd.v++([v8]++(l.drop i).map Dd.v)).all (flat 11)=dI:=by rw[List.all_append,List.all_append,all_map λd _=>Jc d,all_map λd _=>Jc d];show(dI&&((flat 11 v8&&dI)&&dI))=dI;rw[Cm bv];rfl
 unfold Yr;fail;rw[À];refine⟨⟨by lia,by lia⟩,?_⟩;refine Zp (λj en g=>Sm3 λv11 v12 v13=>Cj2 (en=[dF<|.scr ns,dF<|.ref w,dF<|.int<|4+r4,dF<|.int wh,dF<|.ref pb,dF<|.tup [.tup<|bs.map .int,.tup<|ts.map trV],dF<|.ref pr,dF<|.ref p7,dF<|.ref p8,dF<|.ref p9,dF<|.ref p10,v11,v12,v13])<|Ext g15 g) ⟨_,_,_,rfl,.refl⟩ (λ_ _ _ _ _=>trivial) ?_ ?_
 .rintro j v en g hv ⟨v11,v12,v13,rfl,xg⟩ K hK;let⟨rfl,hj⟩:=Yx hv;have hj':j<as.length:=by lia
  have haj:=É hj';generalize as[j]=a at haj;have e14:=xg.get e14;refine' Nu (bs:=bs) (r:=[]) (p:=j) no (by lia) (by rw[ó];exact e14) hr (by lia) (λ_ _ z=>nomatch z) (λ_ a12 g16 ha12 x16 e16=>?_) (λz=>fI rfl z);have tl16:(trn (Ze bs ts<|4+r4) l j l.length).length<=l.length:=by unfold trn;rw[À];exact Ô (đ _ _) (by rw[Ĩ];exact Ì _)
  have efa:=(xg.trans x16).get<|fl.at_ haj;have e12:=(xg.trans x16).get e12;have er:=(xg.trans x16).get er15;have e14:=x16.get e14;have erj:atI (as.map Val.ref) (j:Int)=dF (.ref a):=YE (į j) (by rw[ä,Ó,haj];rfl);refine' Hu (c:=dI) (by show(fy g16 (.ref a12) "list").bind _=_;unfold fy fx;simp only[e16];rfl) ?_;walk_at "p";refine Zz e12 erj ?_
  exists Wo (MB e16 efa<|all_map λq _=>DB q)
  walk_at "p";refine Wo (MB e14 er<|all_map λd _=>Jc d) ?_;walk_at "p";refine Zp (λi en g=>g=g16/\∃v13,en=[dF<|.scr ns,dF<|.ref w,dF<|.int<|4+r4,dF<|.int wh,dF<|.ref pb,dF<|.tup [.tup<|bs.map .int,.tup<|ts.map trV],dF<|.ref pr,dF<|.ref p7,dF<|.ref p8,dF<|.ref p9,dF<|.ref p10,dF<|.int j,dF<|.ref a12,v13]) ⟨rfl,_,rfl⟩ (λ_ _ _ _ ⟨z,_⟩=>by rw[z];exact lsE e16) ?_ ?_
  .rintro i v en g hv ⟨rfl,v13,rfl⟩ K2 hK2;let⟨q,hq,rfl⟩:=ZO hv;unfold WQ;walk_at "p";exact hK2 _ _ ⟨rfl,_,rfl⟩
  rintro en g ⟨rfl,v13,rfl⟩;have lm:((trn (Ze bs ts<|4+r4) l j l.length).map WQ).length<lim:=by rw[À];exact Ñ (Ô tl16 hl) (by decide)
  fail;have xx:Ext g15<|upd g a12<|.lst<|(trn (Ze bs ts<|4+r4) l j l.length).map WQ++[.tup [.int 0,.str "open"]]:=MO (xg.trans x16)<|ZH xg ha12;have e13':=xx.get e13;have e15':=xx.get e15;refine Oy (bs:=bs) (l:=l.take i) (r:=[v8]++(l.drop i).map Dd.v) (p:=j) no (by lia) e13' hD (by rw[õ];lia) (λv s z=>by cases z;exact bv) (by simp) λg18 x18=>?_;walk_at "p";refine Wo (MB (x18.get e13') (x18.get e15') fbad) ?_;walk_at "p";exact hK _ _ ⟨_,_,_,rfl,xx.trans x18⟩
 rintro en g ⟨v11,v12,v13,rfl,xg⟩;refine' k _
end fz
set_option maxRecDepth 1000000
set_option maxHeartbeats 0
namespace My
open PySem L2 Snd PySem.W
abbrev top(i:Nat):Stmt:=PySem.Challenge.pw_shutways_k82_whole_turns_of_a_tie.main.body.getD i<|.Pass ⟨0,0,0,0⟩
abbrev inC:Stmt->Nat->Stmt
 |.ClassDef _ _ _ b _ _ _ _ _ _ _,j=>b.getD j<|.Pass ⟨0,0,0,0⟩
 |s,_=>s
abbrev x0:Ds:=⟨top 0,["k"],["k"],fz.Tf⟩
abbrev x1:Ds:=⟨top 11,["thing"],["thing"],fz.TF⟩
abbrev x2:Ds:=⟨top 12,["thing","least","greatest"],["thing","least","greatest"],fz.TH⟩
abbrev x3:Ds:=⟨top 18,["bridges","ties"],["bridges","ties"],fz.Tu⟩
abbrev x4:Ds:=⟨top 19,["things"],["things"],fz.TN⟩
abbrev x5:Ds:=⟨top 20,["thing","bridges"],["thing","bridges"],fz.TD⟩
abbrev x6:Ds:=⟨top 21,["tie"],["tie"],fz.To⟩
abbrev x7:Ds:=⟨top 22,["net","bridge","found","place","tie"],["net","bridge"],fz.Ta⟩
abbrev x8:Ds:=⟨top 23,["tie","bridge"],["tie","bridge"],fz.TB⟩
abbrev x9:Ds:=⟨top 32,["one","other"],["one","other"],fz.Tc⟩
abbrev x10:Ds:=⟨top 34,["yard","place"],["yard","place"],fz.TC⟩
abbrev x11:Ds:=⟨top 36,["bridge","offers","better"],["bridge","offers"],fz.TU⟩
abbrev x12:Ds:=⟨top 42,["some","words"],["some"],fz.Td⟩
abbrev x13:Ds:=⟨top 44,["net","greatest","deeds","place","yard","was_open","told","number","some"],["net","greatest","deeds","place"],fz.Te⟩
abbrev x14:Ds:=⟨top 46,["script","draws","k","rest","stir","many"],["script"],fz.TV⟩
abbrev x15:Ds:=⟨top 47,["draws","many"],["draws","many"],fz.Tn⟩
abbrev x16:Ds:=⟨top 48,["draws","most","extra","numbers","k","number","pairs","at","costs"],["draws","most","extra"],fz.Tz⟩
abbrev x17:Ds:=⟨top 49,["yard","row","some"],["yard"],fz.Tw⟩
abbrev x18:Ds:=⟨top 50,["draws","yard","way","up","down","road","ties"],["draws","yard"],fz.TR⟩
abbrev x19:Ds:=⟨top 51,["draws","yard","most","row","rounds"],["draws","yard","most"],fz.Tj⟩
abbrev x20:Ds:=⟨top 52,["draws","yard","down","some"],["draws","yard"],fz.TQ⟩
abbrev x21:Ds:=⟨top 53,["net","greatest","row","yard","place","found","number","some","now"],["net","greatest","row"],fz.Tk⟩
abbrev x22:Ds:=⟨top 54,["net","greatest","row","where","bad","at","yard","some"],["net","greatest","row","where","bad"],fz.Tm⟩
abbrev x23:Ds:=⟨top 55,["net","greatest","row","place","kinds","e"],["net","greatest","row","place"],fz.Tx⟩
abbrev x24:Ds:=⟨top 56,["script","draws","greatest","where","bad","net","row","due","spoilt","handed","kept","place","found","one"],["script"],fz.TL⟩
abbrev z0:Ds:=⟨inC (top 38) 0,["self","number","life","ties","greatest","place","neighbour","cost"],["self","number","life","ties","greatest"],fz.SJ⟩
abbrev z1:Ds:=⟨inC (top 38) 1,["self"],["self"],fz.SH⟩
abbrev z2:Ds:=⟨inC (top 38) 2,["self"],["self"],fz.SN⟩
abbrev z3:Ds:=⟨inC (top 38) 3,["self"],["self"],fz.SE⟩
abbrev z4:Ds:=⟨inC (top 38) 4,["self","place"],["self","place"],fz.SW⟩
abbrev z5:Ds:=⟨inC (top 38) 5,["self","place","neighbour","cost"],["self","place","neighbour","cost"],fz.SI⟩
abbrev z6:Ds:=⟨inC (top 38) 6,["self","place"],["self","place"],fz.SZ⟩
abbrev z7:Ds:=⟨inC (top 38) 7,["self","place","letter","held"],["self","place","letter"],fz.SX⟩
abbrev z8:Ds:=⟨inC (top 38) 8,["self","letters"],["self"],fz.SG⟩
abbrev z9:Ds:=⟨inC (top 38) 9,["self","older","place","held"],["self"],fz.SO⟩
abbrev z10:Ds:=⟨inC (top 38) 10,["self","offers","place","held","neighbour","cost","best","root"],["self"],fz.SD⟩
abbrev z11:Ds:=⟨inC (top 38) 11,["self","label"],["self","label"],fz.SF⟩
abbrev z12:Ds:=⟨inC (top 38) 12,["self","place","root","cost","over","rests","age","ahead"],["self","place"],fz.SU⟩
abbrev z13:Ds:=⟨inC (top 38) 13,["self","place","held"],["self","place"],fz.SM⟩
abbrev z14:Ds:=⟨inC (top 38) 14,["self","place","held"],["self","place"],fz.SK⟩
abbrev z15:Ds:=⟨inC (top 38) 15,["self","place"],["self","place"],fz.SY⟩
abbrev z16:Ds:=⟨inC (top 41) 0,["self","net","greatest","number"],["self","net","greatest"],fz.S6⟩
abbrev z17:Ds:=⟨inC (top 41) 1,["self"],["self"],fz.TM⟩
abbrev z18:Ds:=⟨inC (top 41) 2,["self"],["self"],fz.S8⟩
abbrev z19:Ds:=⟨inC (top 41) 3,["self"],["self"],fz.S4⟩
abbrev z20:Ds:=⟨inC (top 41) 4,["self"],["self"],fz.S9⟩
abbrev z21:Ds:=⟨inC (top 41) 5,["self","fallen"],["self"],fz.SV⟩
abbrev z22:Ds:=⟨inC (top 41) 6,["self"],["self"],fz.S7⟩
abbrev z23:Ds:=⟨inC (top 41) 7,["self"],["self"],fz.TX⟩
abbrev z24:Ds:=⟨inC (top 41) 8,["self","number"],["self","number"],fz.SR⟩
abbrev z25:Ds:=⟨inC (top 41) 9,["self","place","one","other","cost"],["self","place"],fz.S1⟩
abbrev z26:Ds:=⟨inC (top 41) 10,["self","number","place"],["self","number","place"],fz.S0⟩
abbrev z27:Ds:=⟨inC (top 41) 11,["self","place"],["self","place"],fz.S5⟩
abbrev z28:Ds:=⟨inC (top 41) 12,["self","some","words","number"],["self","some"],fz.ST⟩
abbrev z29:Ds:=⟨inC (top 41) 13,["self","number","place","letter","goal"],["self","number"],fz.TK⟩
abbrev z30:Ds:=⟨inC (top 41) 14,["self","place","start","goal","tie","letter"],["self","place"],fz.SS⟩
abbrev z31:Ds:=⟨inC (top 41) 15,["self","place"],["self","place"],fz.TW⟩
abbrev z32:Ds:=⟨inC (top 41) 16,["self","number"],["self","number"],fz.S2⟩
abbrev z33:Ds:=⟨inC (top 41) 17,["self","place"],["self","place"],fz.S3⟩
abbrev z34:Ds:=⟨inC (top 41) 18,["self","number"],["self","number"],fz.SL⟩
abbrev z35:Ds:=⟨inC (top 41) 19,["self","place"],["self","place"],fz.SQ⟩
abbrev z36:Ds:=⟨inC (top 41) 20,["self","number","place","neighbour","cost"],["self","number"],fz.TY⟩
abbrev z37:Ds:=⟨inC (top 41) 21,["self","place","one","other","cost","stands","near","far"],["self","place"],fz.TZ⟩
abbrev tb:Tb where
 fs:=[("_wall",x0),("is_whole",x1),("is_whole_between",x2),("make_net",x3),("are_bridges",x4),("is_tie",x5),("lesser_end_first",x6),("neighbours",x7),("far_end",x8),("newer",x9),("is_open_way",x10),("best_offer",x11),("read_deed",x12),("turns",x13),("_law_draws",x14),("_law_take",x15),("_law_net",x16),("_law_round_of",x17),("_law_deed_now",x18),("_law_row",x19),("_law_bad_deed",x20),("_law_seen",x21),("_law_spoilt_row",x22),("_law_refused",x23),("law",x24)]
 ms:=[⟨"Bridge","__init__","Bridge.__init__",z0⟩,⟨"Bridge","twin","Bridge.twin",z1⟩,⟨"Bridge","label","Bridge.label",z2⟩,⟨"Bridge","stamp","Bridge.stamp",z3⟩,⟨"Bridge","held","Bridge.held",z4⟩,⟨"Bridge","up","Bridge.up",z5⟩,⟨"Bridge","down","Bridge.down",z6⟩,⟨"Bridge","hear","Bridge.hear",z7⟩,⟨"Bridge","tick","Bridge.tick",z8⟩,⟨"Bridge","let_grow_older","Bridge.let_grow_older",z9⟩,⟨"Bridge","reckon_label","Bridge.reckon_label",z10⟩,⟨"Bridge","take_label","Bridge.take_label",z11⟩,⟨"Bridge","letter_over","Bridge.letter_over",z12⟩,⟨"Bridge","is_rested_on","Bridge.is_rested_on",z13⟩,⟨"Bridge","is_agreed_to","Bridge.is_agreed_to",z14⟩,⟨"Bridge","end","Bridge.end",z15⟩,⟨"Yard","__init__","Yard.__init__",z16⟩,⟨"Yard","twin","Yard.twin",z17⟩,⟨"Yard","net","Yard.net",z18⟩,⟨"Yard","greatest","Yard.greatest",z19⟩,⟨"Yard","road","Yard.road",z20⟩,⟨"Yard","down","Yard.down",z21⟩,⟨"Yard","labels","Yard.labels",z22⟩,⟨"Yard","stamps","Yard.stamps",z23⟩,⟨"Yard","bridge","Yard.bridge",z24⟩,⟨"Yard","ends","Yard.ends",z25⟩,⟨"Yard","end_at","Yard.end_at",z26⟩,⟨"Yard","has_tie","Yard.has_tie",z27⟩,⟨"Yard","deed","Yard.deed",z28⟩,⟨"Yard","tick_of","Yard.tick_of",z29⟩,⟨"Yard","come","Yard.come",z30⟩,⟨"Yard","take_off","Yard.take_off",z31⟩,⟨"Yard","fall_of_bridge","Yard.fall_of_bridge",z32⟩,⟨"Yard","fall_of_tie","Yard.fall_of_tie",z33⟩,⟨"Yard","back_of_bridge","Yard.back_of_bridge",z34⟩,⟨"Yard","back_of_tie","Yard.back_of_tie",z35⟩,⟨"Yard","set_ties_of","Yard.set_ties_of",z36⟩,⟨"Yard","set_tie","Yard.set_tie",z37⟩]
 cs:=[("MOST_BRIDGES",(.int 10)),("MOST_TIES",(.int 16)),("GREATEST_NUMBER",(.int 999)),("GREATEST_COST",(.int 1000)),("NUMBER",(.int 0)),("STAMP",(.int 1)),("ROOT",(.int 2)),("COST",(.int 3)),("AGE",(.int 4)),("RESTS",(.int 5)),("AGREES",(.int 6)),("DEEDS",(.tup [(.tup [(.str "tick")]),(.tup [(.str "come")]),(.tup [(.str "lost")]),(.tup [(.str "fall"),(.str "bridge")]),(.tup [(.str "fall"),(.str "tie")]),(.tup [(.str "back"),(.str "bridge")]),(.tup [(.str "back"),(.str "tie")])]))]
 cl:=["Bridge","Yard"]
 fl:=["age_let_go","greatest_age","held_by_place","label_now","letters_on_road","life","lives","net_made_of","number","standing","ticks_had","ties_by_place","ties_fallen","version"]
 xs:=["NoFrame","NoDeed","NoOrder","NoNet","NoLine","NoCommand","NoLetter"]
abbrev pg:fz.Pg:=λf=>(([("_wall",fz.Tf),("is_whole",fz.TF),("is_whole_between",fz.TH),("make_net",fz.Tu),("are_bridges",fz.TN),("is_tie",fz.TD),("lesser_end_first",fz.To),("neighbours",fz.Ta),("far_end",fz.TB),("newer",fz.Tc),("is_open_way",fz.TC),("best_offer",fz.TU),("read_deed",fz.Td),("turns",fz.Te),("_law_draws",fz.TV),("_law_take",fz.Tn),("_law_net",fz.Tz),("_law_round_of",fz.Tw),("_law_deed_now",fz.TR),("_law_row",fz.Tj),("_law_bad_deed",fz.TQ),("_law_seen",fz.Tk),("_law_spoilt_row",fz.Tm),("_law_refused",fz.Tx),("law",fz.TL),("Bridge.__init__",fz.SJ),("Bridge.twin",fz.SH),("Bridge.label",fz.SN),("Bridge.stamp",fz.SE),("Bridge.held",fz.SW),("Bridge.up",fz.SI),("Bridge.down",fz.SZ),("Bridge.hear",fz.SX),("Bridge.tick",fz.SG),("Bridge.let_grow_older",fz.SO),("Bridge.reckon_label",fz.SD),("Bridge.take_label",fz.SF),("Bridge.letter_over",fz.SU),("Bridge.is_rested_on",fz.SM),("Bridge.is_agreed_to",fz.SK),("Bridge.end",fz.SY),("Yard.__init__",fz.S6),("Yard.twin",fz.TM),("Yard.net",fz.S8),("Yard.greatest",fz.S4),("Yard.road",fz.S9),("Yard.down",fz.SV),("Yard.labels",fz.S7),("Yard.stamps",fz.TX),("Yard.bridge",fz.SR),("Yard.ends",fz.S1),("Yard.end_at",fz.S0),("Yard.has_tie",fz.S5),("Yard.deed",fz.ST),("Yard.tick_of",fz.TK),("Yard.come",fz.SS),("Yard.take_off",fz.TW),("Yard.fall_of_bridge",fz.S2),("Yard.fall_of_tie",fz.S3),("Yard.back_of_bridge",fz.SL),("Yard.back_of_tie",fz.SQ),("Yard.set_ties_of",fz.TY),("Yard.set_tie",fz.TZ)]:List<|String×fz.Fn).lookup f)
instance:fz.Al pg:=by constructor<;>rfl
variable {α:Type} {p:List α->Prop}
def ar1(h:∀a0,p [a0])(us:List α)(e:us.length=1):p us:=match us,e with|[a0],_=>h a0
def ar2(h:∀a0 a1,p [a0,a1])(us:List α)(e:us.length=2):p us:=match us,e with|[a0,a1],_=>h a0 a1
def ar3(h:∀a0 a1 a2,p [a0,a1,a2])(us:List α)(e:us.length=3):p us:=match us,e with|[a0,a1,a2],_=>h a0 a1 a2
def ar4(h:∀a0 a1 a2 a3,p [a0,a1,a2,a3])(us:List α)(e:us.length=4):p us:=match us,e with|[a0,a1,a2,a3],_=>h a0 a1 a2 a3
def ar5(h:∀a0 a1 a2 a3 a4,p [a0,a1,a2,a3,a4])(us:List α)(e:us.length=5):p us:=match us,e with|[a0,a1,a2,a3,a4],_=>h a0 a1 a2 a3 a4
variable {P:String->Ds->Prop}
def mc{f:String}{x:Ds}{l:List (String×Ds)}(h:P f x)(k:∀g y,(g,y)∈l->P g y):∀g y,(g,y)∈(f,x)::l->P g y:=λg y m=>by
 rcases Æ.mp m with e|m
 .cases e;exact h
 .exact k g y m
def mn:∀g y,(g,y)∈([]:List<|String×Ds)->P g y:=λ_ _ m=>nomatch m
def Fi:∀f x,(f,x)∈tb.fs.drop 24->x.Ok tb:=by
 iterate 1 refine mc ⟨by kernel_rfl,by kernel_rfl⟩ ?_
 exact mn
def Fj:∀f x,(f,x)∈tb.fs.drop 12->x.Ok tb:=by
 iterate 12 refine mc ⟨by kernel_rfl,by kernel_rfl⟩ ?_
 exact Fi
def tab_ok:∀f x,(f,x)∈tb.fs->x.Ok tb:=by
 iterate 12 refine mc ⟨by kernel_rfl,by kernel_rfl⟩ ?_
 exact Fj
def tab_pg:∀f x,(f,x)∈tb.fs->pg f=dF x.d:=by repeat first|exact mn|refine mc rfl ?_
def tab_bd:∀f x,(f,x)∈tb.fs->Hd.Bd (fK f) (fK f) x:=by repeat first|exact mn|refine mc (λ_ _ _ _ _ _=>(by first|exact ar1 λ_=>rfl|exact ar2 λ_ _=>rfl|exact ar3 λ_ _ _=>rfl|exact ar4 λ_ _ _ _=>rfl|exact ar5 λ_ _ _ _ _=>rfl)) ?_
def md{P:α->Prop}{x:α}{l:List α}(h:P x)(k:∀y,y∈l->P y):∀y,y∈x::l->P y:=λy m=>by
 rcases Æ.mp m with e|m
 .cases e;exact h
 .exact k y m
def me{P:α->Prop}:∀y,y∈([]:List α)->P y:=λ_ m=>nomatch m
def Ez:∀y,y∈tb.ms.drop 36->y.x.Ok tb:=by
 iterate 2 refine md ⟨by kernel_rfl,by kernel_rfl⟩ ?_
 exact me
def Ek:∀y,y∈tb.ms.drop 24->y.x.Ok tb:=by
 iterate 12 refine md ⟨by kernel_rfl,by kernel_rfl⟩ ?_
 exact Ez
def Gz:∀y,y∈tb.ms.drop 12->y.x.Ok tb:=by
 iterate 12 refine md ⟨by kernel_rfl,by kernel_rfl⟩ ?_
 exact Ek
def tab_om:∀y,y∈tb.ms->y.x.Ok tb:=by
 iterate 12 refine md ⟨by kernel_rfl,by kernel_rfl⟩ ?_
 exact Gz
def tab_pm:∀y,y∈tb.ms->pg (y.C ++ "." ++ y.m)=dF y.x.d:=by repeat first|exact me|refine md rfl ?_
def tab_bm:∀y,y∈tb.ms->Hd.Bd (fK y.m) (fK y.qual) y.x:=by repeat first|exact me|refine md (λ_ _ _ _ _ _=>(by first|exact ar1 λ_=>rfl|exact ar2 λ_ _=>rfl|exact ar3 λ_ _ _=>rfl|exact ar4 λ_ _ _ _=>rfl|exact ar5 λ_ _ _ _ _=>rfl)) ?_
def law_in:("law",x24)∈tb.fs:=á (i:=24) rfl
noncomputable abbrev pr:Program:=PySem.Challenge.rw_shutways_k82_whole_turns_of_a_tie.row.prog
noncomputable abbrev vw:Program:=PySem.W.view pr [0,2,3,4,5,6,7,8,9,11,12,14,15,16,17,18,19,20,21,22,23,25,26,27,28,29,30,31,32,34,36,38,40,41,42,44,46,47,48,49,50,51,52,53,54,55,56]
noncomputable abbrev xt(s:Shared):Bool:=xlAt vw [] s&&recOk (RowW.records PySem.Challenge.rw_shutways_k82_whole_turns_of_a_tie.row.toRowW) s
def said:PySem.Challenge.rw_shutways_k82_whole_turns_of_a_tie.wellSaid=dI:=by rw[Fast.te9446332074065402090];kernel_rfl
def l1:∀w os,(Hd.runY pr 12000 w os).map (Hd.stY pr w)=dF dI:=λw os=>by kernel_rfl
def l2:∀w os,(Hd.runY pr 12000 w os).map (λs=>Hd.seenY vw [] (Hd.modsY pr.main.body) xt dI s.abs)=dF (openGood vw []):=λw os=>by kernel_rfl
def l3:∀w os,(Hd.runY pr 12000 w os).map (λs=>(Hd.hook tb).obs s.abs)=dF ((Hd.hook tb).val w):=λw os=>by kernel_rfl
def left:LeftO pr vw [] xt (Hd.hook tb).obs (Hd.hook tb).val 12000:=Hd.left_of (by kernel_rfl) rfl (λs=>by kernel_rfl) l1 l2 l3
end My
open PySem PySem.W PyProof.Rows
theorem PySem.Challenge.cw_shutways_k82_whole_turns_of_a_tie_holds : PySem.Challenge.rw_shutways_k82_whole_turns_of_a_tie.Holds := by
 refine holds_law My.said λsaid=>?_;refine holds_open (q:=My.vw) (loose:=[]) (Xt:=My.xt) (XP:=XL My.vw []) (YP:=(Hd.hook My.tb).says) My.left (Hook.of _) (Hook.keeps _) (λs e=>xl_of s (cq.mp e).1) XL.keeps (by rfl) (by rfl) (by rfl) (λs e=>recFacts_of (cq.mp e).2) (by rfl) said (by decide +kernel) ⟨rfl,rfl,rfl,rfl,rfl,by decide +kernel⟩ ?hw ?hc
 case hw=>w_on;w_witness2
 case hc=>exact Hd.law_walk (k:=8) rfl rfl rfl ⟨rfl,by decide,by decide⟩ My.law_in rfl rfl My.tab_pg My.tab_pm My.tab_ok My.tab_om My.tab_bd My.tab_bm λns hl=>fz.law_ok (n:=0) hl λ_=>rfl
