import PyProof.Rows.All
import Wide.All
import OpenK.AllK
import Wide.FinOn
import PyProof.EqAt
import PyProof.EqKinds
import PyProof.TupleCall
import Lean
import PySem.Challenge.RW_shutways_k25_deeds_refused
set_option Elab.async false
set_option bootstrap.genMatcherCode false
set_option compiler.extract_closed false
set_option genSizeOf false
local macro_rules|`(command|def $x:declId $b:bracketedBinder*:$t $v:declVal)=>`(command|theorem $x:declId $b:bracketedBinder*:$t $v:declVal)
local macro_rules|`(command|abbrev $x:declId $s:optDeclSig $v:declVal)=>`(command|noncomputable def $x:declId $s:optDeclSig $v:declVal)
set_option linter.all false
set_option maxRecDepth 100000
open PySem.Str renaming ofString->gO
open PySem.W (Frag)
open Decidable renaming decide->gN
open Option renaming some->eZ, none->fb
open Bool renaming true->fc, false->fe
open Array renaming length_toList->ñ, getElem?_eq_getElem->ù, getElem?_toList->Ą, getElem?_eq_some_iff->ŀ, getElem?_eq_none->ϑ, getD->ϸ, toList->b8, toList_push->dZ, toList_inj->eR
open Bool renaming false_ne_true->ā, false_eq_true->İ, not_eq_true'->Ō, true_and->ŏ, and_true->Ś, and_eq_true_iff->Ť, and_false->Ž, or_false->θ, false_and->Δ, eq_iff_iff->ϛ, false_or->Ϸ, eq_false_iff->az, not_not->aB, not_true->bY
open Char renaming toNat->Ų
open Classical renaming byContradiction->š
open False renaming elim->ă
open ForInStep renaming yield->Ń
open Function renaming comp_apply->ce
open Int renaming toNat_natCast->à, emod_nonneg->ď, emod_lt_of_pos->Ė, le_refl->dC, lt_of_lt_of_le->eX, natCast_nonneg->eY
open List renaming length_map->Ã, mem_cons->Ç, getElem?_eq_getElem->È, map_cons->É, mem_append_right->Ê, length_cons->Ì, getElem?_eq_some_iff->Î, size_toArray->Ð, not_mem_nil->Ó, replicate->Ø, mem_append_left->Ù, getElem?_map->Ú, mem_map->Û, mem_cons_of_mem->Þ, mem_singleton->ß, lookup_cons->â, map_append->ã, mem_append->å, length_append->è, nodup_append->é, mem_of_getElem?->ë, mem_cons_self->î, append_nil->ò, length_replicate->ó, mem_filter->ø, mem_map_of_mem->ú, map_map->ü, all_eq_true->ý, filter_cons->þ, take_length->ÿ, contains_iff_mem->ą, nodup_cons->ć, mapM_cons->Ĉ, getElem?_append_left->Č, filterMap_cons->Đ, replicate_succ->đ, getElem?_append_right->Ĕ, getD_eq_getElem?_getD->ĕ, find?_cons->ę, length_take->ě, any_cons->Ģ, nodup_nil->ĥ, map_inj_left->Ħ, map_congr_left->ħ, length_nil->Ĩ, getElem?_eq_none->ĭ, getElem_mem->ı, getElem?_set_ne->ĵ, append_assoc->ĸ, filter_sublist->Ļ, length_mergeSort->ń, flatten_cons->ŋ, getElem?_replicate->Ŕ, zip_cons_cons->Ŗ, drop_eq_nil_of_le->ŗ, length_eraseIdx_of_lt->ţ, length_drop->ť, any_eq_true->ŧ, mem_flatMap->Ũ, foldl_cons->ů, mem_range->Ÿ, length_range->ż, flatMap_cons->ž, sum_cons->ι, lookup->μ, map_id->ν, length_set->ο, mergeSort_perm->ς, map_nil->ω, mem_filterMap->Ε, zip_nil_right->Ζ, filterMap_map->Η, filter_append->Θ, drop_eq_getElem_cons->Υ, zip_nil_left->Χ, take_add_one->Ψ, getElem?_set_self'->ώ, length_eq_zero_iff->Ϗ, getElem?_set_self->ϓ, filterMap_eq_map'->ϗ, filter_nil->ϝ, length_filter_le->ϟ, length_take_le'->Ϥ, mergeSort->ϥ, take_succ_cons->ϲ, set_cons_succ->Ϻ, set_cons_zero->aa, lookup_append->ac, cons_append->aE, eq_nil_of_length_eq_zero->aM, of_mem_zip->aX, range_succ->aY, drop_zero->bx, perm_ext_iff_of_nodup->bz, length_filterMap_le->bV, length_erase_of_mem->b4, pairwise_mergeSort->b9, getElem?_cons_succ->cb, length_eraseIdx_le->cf, pairwise_lt_range->cx, take_of_length_le->cz, length_pos_of_mem->cA, length_singleton->cJ, mem_iff_getElem?->cO, set_append_left->di, pairwise_append->dj, flatMap_append->dD, foldl->dR, pairwise_cons->dY, append_of_mem->d8
open List.MergeSort.Internal renaming splitInTwo->υ
open List.Sublist renaming refl->ū
open Nat renaming le_refl->Ñ, lt_of_le_of_lt->Ü, le_trans->Ý, lt_of_lt_of_le->á, ne_of_lt->æ, lt_irrefl->Ĥ, le_of_ble_eq_true->į, lt_succ_self->ĳ, lt_succ_of_lt->Ĺ, zero_le->Ŀ, le_succ->Ŏ, ne_of_gt->ũ, lt_trans->ε, le_of_lt->Α, succ_le_succ->ϐ, zero_add->Ϝ, min_le_right->aK, min_eq_left->bu, sub_zero->cN, mul_le_mul_left->dW
open Option renaming map_eq_some_iff->Í, bind_eq_some_iff->ê, bind_some->ð, isSome_iff_exists->û, map_some->ķ, isSome_map->Ŵ, not_isSome_iff_eq_none->η, map_map->Ϡ, toList_none->ϳ, isNone_iff_eq_none->bh, isSome_some->dh, getD_none->dQ
open Option.some renaming inj->ï, injEq->Ĳ
open Prod.mk renaming injEq->Ο
open PyProof.Rows renaming IntsAre->Ā, step_dedup->Š, kindOf->Κ, seqObj->Ω, firstMet->ό, AllBare->ϒ, envOfC->aJ, firstMet_length_le->aN, IsTup->a8, Constant_none->dr, subscriptTail->dz, subscriptTail_builtinR->eL
open PySem renaming wpAny_bind->À, Value->Â, Shared->Ä, wpAny_pure->Æ, Addr->Ë, starEach->Ï, model->Õ, sizeLine->Ö, Program->ä, compareOp->ì, World->ö, Heap->Ć, Around->ĉ, mainGlobals->Ċ, wpAny_mono->ċ, wpAny_newObj_type->č, backTo->Ď, wpAny_truthy_bool->ē, foldedSetIterable->Ę, wpAny_holding->Ě, wpAny_loadPart'->Ĝ, codeAny_builtin->ĝ, assignEach->Ğ, wpAny_Call_Name_kw->ğ, wpAny_call_entry->ġ, attributeBase->ĩ, rawInt->Ī, Stmt->Į, cLine->Ķ, keywordEach->ĺ, wpAny_callSpecial?_slot->ļ, argBest->Ľ, behindInMarks->Ņ, FuncData->Ň, wpAny_setField->ň, holding->Ŋ, wpAny_ite_split->ő, binaryOp->Œ, wpAny_field->œ, plainId_quiet->ŕ, wpAny_seqItems->Ř, sysModules->ŝ, intKind->Ş, codeAny_mono->ş, swapsWith->Ţ, wpAny_setState_of->Ŧ, backToKw->Ŭ, bootBuiltins->Ů, wpAny_askSetting->Ű, wpAny_setEntries_of->ų, SetTable->ŷ, wpAny_execs_nil->ź, tupleKind_room_in1->ζ, Scope->ξ, assign->π, getMethod->ρ, standAt->ψ, sliceBounds->Β, wpAny_passesOwn->Ι, wpAny_updateSeq->Ξ, wpAny_tryCatch->ϋ, wpAny_pyIter_list->ϔ, swapsWithSole->Ϙ, swappedStores->ϙ, pyNext->Ϛ, Operator->ϡ, NameKind->Ϣ, getItem->ϧ, IsPart->Ϩ, wpAny_typeOf->ϩ, wpAny_rule->Ϫ, valueAt->ϫ, call_meetsIn->Ϭ, setsByText->ϭ, letOwnedTupleGo->ϰ, sizeLine_eq->ae, callWith->af, PyData->ah, firstArgMember->aj, codeAny_call_builtin->al, wpAny_fieldsOf->am, unsupported->ao, tupleKind->au, PassesOwn->av, callerA->aw, seqItems?->ax, scanBound->aC, Result->aH, wpAny_call->aI, wpAny_pyIter_tuple->aL, GenState->a9, setItem->bb, seqIndex_neg->bc, Keyword->be, wpAny_loadPart_at->bf, fits_of_scanBound->bo, wpAny_execs_cons->bG, lastMarks->bH, noFill_tuple_add->bI, noteFrame->bJ, wpAny_isInstance->bK, checkBuiltinCall->bL, seqIndex_of->bT, wpAny_of_eq->bU, wpAny_letGo->bX, relabel->cp, isTrue->cF, CmpOp->cG, call_meets->cI, evalEach->cK, atKey->cL, argsOk->cM, isSubtype_type->cP, methodCallForm->cR, wpAny_standAt->du, seq_tuple_add->dy, wpAny_comprehension_free->dA, wpAny_newList->dB, Model->dO, bindC->dP, updateSeq->dX, drawOrder->d0, release->eB, pyIter->eC, richCompare_meets_room->eF, concat_meets->eK, wpAny_getItem_list_neg->eM, typeOf->eN
open PySem.Around renaming under_plainId->Ē, under->bS
open PySem.Builtin renaming iter->Ŷ
open PySem.Builtin.Frozenset renaming sizeOf->cQ
open PySem.Builtin.Str renaming strSliceIndices->Ν
open PySem.Code renaming isFrame->ck, quiet_builtin->dU
open PySem.FuncData.mk renaming injEq->bZ
open PySem.Heap renaming get?_push_of_some->Å, get?_push_size->Ò, lt_size->Ô, get?_update_other->í, get?_update_self->ė, SameBut->Ź, size_push->Ż, LeftW->Ϲ
open PySem.Heap.SameBut renaming update->Ă
open PySem.NameKind renaming free->ī, cell->eP
open PySem.Obj renaming mapSeq->Λ, data_mapFields->Μ, mapFields->ϊ, isFreed_of_fields->dg, putSet->eU
open PySem.PyData renaming eqv->Ĭ, depthAll->ņ, canLayAll0->ř, canLay0->ŵ, eqvAll->Τ
open PySem.SetTable renaming below->ľ, grown->ϖ, has->bA, orStandIn->cy, slot->eS
open PySem.SetTable.below renaming go->bj
open PySem.SetTable.probe renaming go->ϕ
open PySem.Value renaming builtin->ϱ, notImplemented->cH
open PySem.Value.type renaming inj->ay
open PySem.W renaming boot_heap->ű, Frag->Γ, findIn->ak, boot_drawn->aO, SharedT->bq, boot_toks->bM, mg_of->cS, looks_findIn->eQ, nsIn->eV, kitOne->eW
open PySem.pickOrder renaming go->bp
open String renaming ofList->Ρ, singleton->aA, length_toList->cq, toList_ofList->cr, length_append->cu
open UInt32.toNat renaming inj->bW
def bAq(a b:Bool):((a&&b)=fc)=(a=fc/\b=fc):=Bool.and_eq_true a b
abbrev gG:=@if_pos
abbrev gH:=@if_neg
abbrev gJ:=@decide_eq_false
abbrev gK:=@decide_eq_true
abbrev gL:=@decide_eq_true_eq
@[reducible] noncomputable def gM:=@absurd
local macro_rules|`(tactic|let $p:term:=$e)=>do
 let k:=`Lean.Parser.Tactic
 let n(c:Lean.Name)(a:Array Lean.Syntax):Lean.Syntax:=.node .none (k++c) a
 let m(s:Lean.Syntax):=if s.isIdent then n `rcasesPat.one #[s]else if s.isOfKind ``Lean.Parser.Term.hole then n `rcasesPat.ignore #[s[0]]else if s.isOfKind ``Lean.Parser.Term.anonymousCtor then n `rcasesPat.tuple #[s[0],Lean.mkNullNode (s[1].getArgs.map λx=>if x.isAtom then x else n `rcasesPatLo #[n `rcasesPatMed #[Lean.mkNullNode #[x]],Lean.mkNullNode]),s[2]]else s
 `(tactic|obtain $(⟨n `rcasesPatMed #[Lean.mkNullNode #[p.raw.rewriteBottomUp m]]⟩):rcasesPatMed:=$e)
local macro_rules|`(command|instance $x:declId:$t $v:declVal)=>do
 if t.raw.getId != `Fn then Lean.Macro.throwUnsupported
 `(command|noncomputable abbrev $x:declId:$t $v:declVal)
local macro_rules|`(⇑$h)=>`(by simpa using $h)
namespace L2
open PySem PySem.Spec PyProof.Rows
noncomputable abbrev Key:=Sum Int Str
abbrev JA:Key->Â->Bool
 |.inl k,v=>Value.isInt k v
 |.inr x,v=>Value.isStrOf x v
abbrev S9(w:ö):Key->Int
 |.inl k=>hashInt k
 |.inr x=>hashStr w x
def Zl:∀{k:Key}{v:Â},JA k v=fc->(∃i t,k=Sum.inl i/\v=Value.int i t)\/(∃x t,k=Sum.inr x/\v=Value.str x t)
 |.inl i,v,h=>by let⟨t,e⟩:=Value.isInt_shape (k:=i) (v:=v) h;exact .inl ⟨i,t,rfl,e⟩
 |.inr x,v,h=>by let⟨t,e⟩:=Value.isStrOf_shape (x:=x) (v:=v) h;exact .inr ⟨x,t,rfl,e⟩
def AA(i:Int)(t:Tok):JA (.inl i) (.int i t)=fc:=by simp[JA,Value.isInt]
def AM(x:Str)(t:Tok):JA (.inr x) (.str x t)=fc:=by simp[JA,Value.isStrOf]
def LW(a b:Int):gN ((Sum.inl a:Key)=Sum.inl b)=(a==b):=by
 by_cases e:a=b
 .subst e;simp
 .have h:¬ (Sum.inl a:Key)=Sum.inl b:=λq=>e<|Sum.inl.inj q;rw[gJ h];exact(beq_eq_false_iff_ne.mpr e).symm
def Lj(a b:Str):gN ((Sum.inr a:Key)=Sum.inr b)=gN (a=b):=by
 by_cases e:a=b
 .subst e;simp
 .have h:¬ (Sum.inr a:Key)=Sum.inr b:=λq=>e<|Sum.inr.inj q;rw[gJ h,gJ e]
def Il(a:Int)(b:Str):gN ((Sum.inl a:Key)=Sum.inr b)=fe:=gJ (λq=>nomatch q)
def LS(a:Str)(b:Int):gN ((Sum.inr a:Key)=Sum.inl b)=fe:=gJ (λq=>nomatch q)
abbrev Ze(prog:ä)(w:ö):PySem.KeyKind prog w Key where
 is:=JA
 hash:=S9 w
 inj:=λv a b ha hb=>by
  rcases Zl ha with⟨i,t,rfl,rfl⟩|⟨x,t,rfl,rfl⟩
  .rcases Zl hb with⟨j,u,rfl,e⟩|⟨y,u,rfl,e⟩
   .injection e with e1 _;rw[e1]
   .exact nomatch e
  .rcases Zl hb with⟨j,u,rfl,e⟩|⟨y,u,rfl,e⟩
   .exact nomatch e
   .injection e with e1 _;rw[e1]
 byValue:=λk v h=>by rcases Zl h with⟨i,t,rfl,rfl⟩|⟨x,t,rfl,rfl⟩<;>rfl
 pyHash:=λhv h=>by
  rcases Zl hv with⟨i,t,rfl,rfl⟩|⟨x,t,rfl,rfl⟩
  .exact wpAny_pyHash_int h
  .exact wpAny_pyHash_str h
 eqBool:=λhu hv h=>by
  rcases Zl hu with⟨i,t,rfl,rfl⟩|⟨x,t,rfl,rfl⟩
  .rcases Zl hv with⟨j,u,rfl,rfl⟩|⟨y,u,rfl,rfl⟩
   .rw[LW]at h;exact wpAny_eqBool_int h
   .rw[Il]at h;exact SeqAt.EqAt.int_str i t y u _ _ _ _ h
  .rcases Zl hv with⟨j,u,rfl,rfl⟩|⟨y,u,rfl,rfl⟩
   .rw[LS]at h;exact SeqAt.EqAt.str_int x t j u _ _ _ _ h
   .rw[Lj]at h;exact wpAny_eqBool_str h
 «strs»:=λk x t v h=>by
  rcases Zl h with⟨i,u,rfl,e⟩|⟨y,u,rfl,e⟩
  .exact nomatch e
  .injection e with e1 _;subst e1;cases v<;>rfl
def Op(prog:ä)(w:ö)(i:Int)(t:Tok):(Ze prog w).is (.inl i) (.int i t)=fc:=AA i t
def Oq(prog:ä)(w:ö)(x:Str)(t:Tok):(Ze prog w).is (.inr x) (.str x t)=fc:=AM x t
inductive V where
 |non|bl (b:Bool)|int (i:Int)|str (x:Str)|byt (b:Array UInt8)|flt (b:UInt64)|ref (a:Ë)|ty (n:String)
 deriving DecidableEq
abbrev RelV:V->Â->Prop
 |.non,u=>u=Value.none
 |.bl b,u=>u=Value.bool b
 |.int i,u=>∃t,u=Value.int i t
 |.str x,u=>∃t,u=Value.str x t
 |.byt b,u=>∃t,u=Value.bytes b t
 |.flt b,u=>∃t,u=Value.float b t
 |.ref a,u=>u=Value.ref a
 |.ty n,u=>u=Value.type n
@[reducible] noncomputable def gw:List V->List Â->Prop:=Paired RelV
def gw.length{xs:List V}{us:List Â}(r:gw xs us):xs.length=us.length:=Paired.length r
def gw.get:∀{xs:List V}{us:List Â}{i:Nat}{x:V},gw xs us->xs[i]?=eZ x->∃u,us[i]?=eZ u/\RelV x u
 |_,_,_,_,.nil,e=>by simp at e
 |_,_,0,_,.cons r _,e=>by simp at e;subst e;exact⟨_,rfl,r⟩
 |_,_,i+1,x,.cons _ t,e=>by let⟨u,h1,h2⟩:=gw.get (i:=i) (x:=x) t ⇑e;exact⟨u,⇑h1,h2⟩
def gw.set{x:V}{u:Â}(r:RelV x u):∀{xs:List V}{us:List Â}(i:Nat),gw xs us->gw (xs.set i x) (us.set i u)
 |_,_,_,.nil=>.nil
 |_,_,0,.cons _ t=>.cons r t
 |_,_,i+1,.cons q t=>.cons q<|gw.set r i t
def gw.append:∀{xs ys:List V}{us ws:List Â},gw xs us->gw ys ws->gw (xs++ys) (us++ws)
 |_,_,_,_,.nil,s=>s
 |_,_,_,_,.cons r t,s=>.cons r<|gw.append t s
def gw.take:∀{xs:List V}{us:List Â}(n:Nat),gw xs us->gw (xs.take n) (us.take n)
 |_,_,0,_=>.nil
 |_,_,_+1,.nil=>.nil
 |_,_,n+1,.cons r t=>.cons r<|gw.take n t
def gw.drop:∀{xs:List V}{us:List Â}(n:Nat),gw xs us->gw (xs.drop n) (us.drop n)
 |_,_,0,r=>r
 |_,_,_+1,.nil=>.nil
 |_,_,n+1,.cons _ t=>gw.drop n t
abbrev fM:Option V->Option Â->Prop
 |some v,eZ u=>RelV v u
 |none,fb=>True
 |_,_=>False
abbrev KV{κ:Type}:List (κ×V)->List (κ×Â)->Prop:=Paired λ(p:κ×V) (q:κ×Â)=>p.1=q.1/\RelV p.2 q.2
abbrev kV:Key->V
 |.inl i=>.int i
 |.inr x=>.str x
inductive HO where
 |lst (xs:List V)
 |tup (xs:List V)
 |dK (kvs:List<|Key×V)|dT (kvs:List<|List Key×V)
 |set (S:Int->Bool) (n:Nat)
 |ins (C dx:Ë) (fs:List<|Str×V)
 |own (x:Ë)
 |xd (fs:List<|Str×V)
 |met (f x:Ë)
 |rng (lo hi:Int)
 |frz (o:Obj) (u:HO)
 |tbl (ps:Array Â)
 |ext (φ:Ć->Prop)
noncomputable abbrev Hp:=Ë->Option HO
abbrev upd(H:Hp)(a:Ë)(o:HO):Hp:=λb=>if b=a then eZ o else H b
variable {H:Hp} {a:Ë} {o:HO}
def fh:upd H a o a=eZ o:=by unfold upd;rw[gG rfl]
variable {b:Ë}
def ff(h:b≠a):upd H a o b=H b:=by unfold upd;rw[gH h]
variable {u:HO}
def fi:upd (upd H a o) a u=upd H a u:=by funext b;unfold upd;split<;>rfl
def RN(h:H a=eZ o)(h':H b=eZ u)(d:o≠u):a≠b:=by intro e;subst e;rw[h]at h';exact d (ï h')
def Zf(h:H a=eZ o)(h':H b=fb):a≠b:=by intro e;subst e;rw[h]at h';cases h'
section
variable (P:ä) (w:ö)
abbrev fu(H:Hp)(h:Ć)(a:Ë):HO->Prop
 |.lst xs=>xs.length<=Ö/\∃(ô:List Â) (n:Nat),gw xs ô/\h.get? a=eZ {cls:=.type "list",data:=.seq ô.toArray n}
 |.tup xs=>xs.length<=Ö/\∃ô:List Â,gw xs ô/\a8 h a ô.toArray
 |.dK kvs=>kvs.length<=Ö/\(a==ŝ)=fe/\∃vs,KV kvs vs/\h.DictOf (Ze P w) a vs
 |.dT kvs=>kvs.length<=Ö/\(a==ŝ)=fe/\∃xs:List<|List Key×Ë×Â,
   Paired (λ(p:List Key×V) (q:List Key×Ë×Â)=>p.1=q.1/\H q.2.1=eZ (.tup<|p.1.map kV)/\RelV p.2 q.2.2) kvs xs/\
   ∃o es ep,h.get? a=eZ o/\o.ExactDict/\o.data=.dict es ep/\es.toList=xs.map (entryOfKey<|au<|Ze P w)/\(xs.map (·.1)).Nodup
 |.set S n=>h.SetOf (Ş P w) a S n
 |.ins C dx fs=>H dx=eZ (.own a)/\fs.length<=1000/\dx≠a/\h.get? a=eZ (PySem.W.instObj C dx)/\
   ∃mA,h.Ns1 dx mA/\(∀f,fM (fs.lookup f)<|mA f)/\PySem.Within mA (fs.map (·.1))
 |.own _=>∃o,h.get? a=eZ o
 |.xd fs=>∃mA,h.Ns1 a mA/\∀f,fM (fs.lookup f) (mA f)
 |.rng lo hi=>∃t u v,h.get? a=eZ {cls:=.type "range",data:=.fields #[.int lo t,.int hi u,.int 1 v]}
 |.frz o u=>h.get? a=eZ o/\fu H h a u
 |.tbl ps=>h.get? a=eZ {cls:=.none,data:=.fields ps}
 |.met f x=>h.get? a=eZ (PySem.W.methodObj (.ref f)<|.ref x)
 |.ext φ=>φ h/\(∃o,h.get? a=eZ o)/\∀h1 h2:Ć,φ h1->(∀o,h1.get? a=eZ o->h2.get? a=eZ o)->φ h2
abbrev HOk(H:Hp)(h:Ć):Prop:=∀a o,H a=eZ o->fu P w H h a o
end
section
variable {P:ä}{w:ö}{H H':Hp}{h h':Ć}{a:Ë}{o:HO}
def fu.lt(x:fu P w H h a o):a<h.objs.size:=by
 cases o with
 |lst xs=>let⟨_,_,_,_,e⟩:=x;exact Ô e
 |tup xs=>let⟨_,_,_,p⟩:=x;exact p.lt
 |dK kvs=>let⟨_,_,_,_,o,_,_,e,_⟩:=x;exact Ô e
 |dT kvs=>let⟨_,_,_,_,o,_,_,e,_⟩:=x;exact Ô e
 |set S n=>let⟨o,_,_,_,e,_⟩:=x;exact Ô e
 |ins C dx fs=>let⟨_,_,_,e,_⟩:=x;exact Ô e
 |own y=>let⟨_,e⟩:=x;exact Ô e
 |xd fs=>let⟨_,⟨_,_,_,e,_⟩,_⟩:=x;exact Ô e
 |rng lo hi=>let⟨_,_,_,e⟩:=x;exact Ô e
 |frz ob u=>let⟨e,_⟩:=x;exact Ô e
 |tbl ps=>exact Ô (show h.get? a=eZ _ from x)
 |met f y=>exact Ô (show h.get? a=eZ _ from x)
 |ext φ=>let⟨_,⟨_,e⟩,_⟩:=x;exact Ô e
def Paired.mapP{α β:Type}{F G:α->β->Prop}:∀{l₁:List α}{l₂:List β},Paired F l₁ l₂->(∀a b,F a b->G a b)->Paired G l₁ l₂
 |_,_,.nil,_=>.nil
 |_,_,.cons r t,f=>.cons (f _ _ r)<|Paired.mapP t f
def fu.stay(x:fu P w H h a o)(k:∀b u,(b=a\/H b=eZ (.own a))->h.get? b=eZ u->h'.get? b=eZ u)
  (ho:∀b,H b=eZ (.own a)->H' b=eZ (.own a)) (ht:∀b xs,H b=eZ (.tup xs)->H' b=eZ (.tup xs)):fu P w H' h' a o:=by
 induction o with
 |lst xs=>let⟨z,ô,n,r,e⟩:=x;exact⟨z,ô,n,r,k _ _ (.inl rfl) e⟩
 |tup xs=>let⟨z,ô,r,ob,e,c⟩:=x;exact⟨z,ô,r,ob,k _ _ (.inl rfl) e,c⟩
 |dK kvs=>let⟨z,y,vs,r,ob,es,ep,e,c⟩:=x;exact⟨z,y,vs,r,ob,es,ep,k _ _ (.inl rfl) e,c⟩
 |dT kvs =>let⟨z,y,xs,r,ob,es,ep,e,c⟩:=x;exact⟨z,y,xs,Paired.mapP r λp q z=>⟨z.1,ht _ _ z.2.1,z.2.2⟩,ob,es,ep,k _ _ (.inl rfl) e,c⟩
 |set S n=>let⟨ob,es,ep,t,e,c⟩:=x;exact⟨ob,es,ep,t,k _ _ (.inl rfl) e,c⟩
 |ins C dx fs =>let⟨d,z,ne,e,mA,⟨od,es,ep,e2,c⟩,r⟩:=x;exact⟨ho _ d,z,ne,k _ _ (.inl rfl) e,mA,⟨od,es,ep,k _ _ (.inr d) e2,c⟩,r⟩
 |own y=>let⟨ob,e⟩:=x;exact⟨ob,k _ _ (.inl rfl) e⟩
 |xd fs=>let⟨mA,⟨od,es,ep,e,c⟩,r⟩:=x;exact⟨mA,⟨od,es,ep,k _ _ (.inl rfl) e,c⟩,r⟩
 |rng lo hi=>let⟨t,u,v,e⟩:=x;exact⟨t,u,v,k _ _ (.inl rfl) e⟩
 |frz ob u ih=>let⟨e,q⟩:=x;exact⟨k _ _ (.inl rfl) e,ih q⟩
 |tbl ps =>have e:h.get? a=eZ {cls:=.none,data:=.fields ps}:=x;show h'.get? a=eZ {cls:=.none,data:=.fields ps};exact k a _ (.inl rfl) e
 |met f y =>have e:h.get? a=eZ (PySem.W.methodObj (.ref f)<|.ref y):=x;show h'.get? a=eZ (PySem.W.methodObj (.ref f)<|.ref y);exact k a _ (.inl rfl) e
 |ext φ=>let⟨p,⟨o,e⟩,st⟩:=x;exact⟨st _ _ p λo q=>k _ _ (.inl rfl) q,⟨o,k _ _ (.inl rfl) e⟩,st⟩
def HOk.lt(x:HOk P w H h)(e:H a=eZ o):a<h.objs.size:=(x a o e).lt
def HOk.fresh(x:HOk P w H h)(e:h.objs.size<=a):H a=fb:=by
 cases q:H a with
 |none=>rfl
 |some u=>exact gM (á (x.lt q) e)<|Ĥ _
def HOk.kept(x:HOk P w H h)(k:∀b u,h.get? b=eZ u->h'.get? b=eZ u):HOk P w H h':=λa o e =>
 (x a o e).stay (λb u _ q=>k b u q) (λ_ q=>q) λ_ _ q=>q
def HOk.laid(x:HOk P w H h)(k:∀b u,h.get? b=eZ u->h'.get? b=eZ u)(hp:h.objs.size<=a)(new:fu P w (upd H a o) h' a o):HOk P w (upd H a o) h':=λb u e=>by
 have hn:=x.fresh hp;by_cases hb:b=a
 .subst hb;rw[fh]at e;cases e;exact new
 .rw[ff hb]at e;exact(x b u e).stay (λc v _ q=>k c v q) (λc q=>by rw[ff<|Zf q hn];exact q) λc xs q=>by rw[ff<|Zf q hn];exact q
end
abbrev Rd(H:Hp)(a:Ë)(u:HO):Prop:=H a=eZ u\/∃o,H a=eZ (.frz o u)
variable {h:Ć}
def Rd.ok{P:ä}{w:ö}(r:Rd H a u)(x:HOk P w H h):fu P w H h a u:=by
 rcases r with r|⟨o,r⟩
 .exact x a u r
 .obtain⟨_,q⟩:=x a _ r;exact q
abbrev Mut:Option HO->Prop
 |some (.lst _)=>True
 |some (.dK _)=>True
 |some (.dT _)=>True
 |some (.set _ _)=>True
 |some (.ins _ _ _)=>True
 |some (.ext _)=>True
 |_=>False
section
variable {P:ä}{w:ö}{H:Hp}{h h':Ć}{x e:Ë}{o':HO}
def HOk.write(ok:HOk P w H h)(mu:Mut<|H x)(he:e=x\/H e=eZ (.own x))(k:∀b u,b≠e->h.get? b=eZ u->h'.get? b=eZ u)(heo:∃u,h'.get? e=eZ u)
  (new:fu P w (upd H x o') h' x o'):HOk P w (upd H x o') h':=λb u q=>by
 have nown:∀c y,H c=eZ (.own y)->c≠x:=λc y r z=>by subst z;rw[r]at mu;exact mu
 have ntup:∀c xs,H c=eZ (.tup xs)->c≠x:=λc xs r z=>by subst z;rw[r]at mu;exact mu
 by_cases hb:b=x
 .subst hb;rw[fh]at q;cases q;exact new
 .rw[ff hb]at q;by_cases hbe:b=e
  .have q':H b=eZ (.own x):=by
    rcases he with z|z
    .exact gM (hbe.trans z) hb
    .rw[hbe];exact z
   rw[q]at q';cases q';let⟨v,hv⟩:=heo;exact⟨v,by rw[hbe];exact hv⟩
  .refine(ok b u q).stay (λc v hc r=>k c v ?_ r) (λc r=>by rw[ff<|nown c b r];exact r) λc xs r=>by rw[ff<|ntup c xs r];exact r
   rcases hc with rfl|hc
   .exact hbe
   .rintro rfl;rcases he with z|z
    .exact nown c b hc z
    .rw[hc]at z;cases z;exact hb rfl
end
structure Un(fs ex:List Ë)(H H':Hp)(h h':Ć):Prop where
 keep:∀b o,h.get? b=eZ o->H b=fb->b∉fs->b∉ex->h'.get? b=eZ o
 slot:∀b o,h.get? b=eZ o->H b=fb->b∈fs->b∉ex->∃sl,h'.get? b=eZ {o with slots:=sl}
 free:∀b o,h.get? b=eZ o->H b=fb->b∉ex->H' b=fb
 there:∀b o,h.get? b=eZ o->b∉ex->∃o',h'.get? b=eZ o'
 tups:∀b xs,H b=eZ (.tup xs)->H' b=eZ (.tup xs)
 frzs:∀b o u,H b=eZ (.frz o u)->H' b=eZ (.frz o u)
 tbls:∀b ps,H b=eZ (.tbl ps)->∃more,H' b=eZ (.tbl<|ps++more)
section
variable {fs fs' ex ex':List Ë}{H H1 H2:Hp}{h h1 h2 h':Ć}{a x e:Ë}{o:HO}
def Un.any(u:Un fs ex H H1 h h1){ob:Obj}(q:h.get? b=eZ ob)(n:H b=fb)(hx:b∉ex):∃sl,h1.get? b=eZ {ob with slots:=sl}:=by
 by_cases hb:b∈fs
 .exact u.slot b ob q n hb hx
 .exact⟨ob.slots,u.keep b ob q n hb hx⟩
def Un.kept(k:∀b u,h.get? b=eZ u->h'.get? b=eZ u):Un fs ex H H h h' :=
 ⟨λb ob q _ _ _=>k b ob q,λb ob q _ _ _=>⟨ob.slots,k b ob q⟩,λ_ _ _ n _=>n,λb ob q _=>⟨ob,k b ob q⟩,λ_ _ q=>q,λ_ _ _ q=>q,λ_ ps q=>⟨#[],by rw[q];simp⟩⟩
def Un.refl:Un fs ex H H h h:=Un.kept λ_ _ q=>q
def Un.laid(k:∀b u,h.get? b=eZ u->h'.get? b=eZ u)(hp:h.objs.size<=a)(hn:H a=fb):Un fs ex H (upd H a o) h h' where
 keep:=λb u q _ _ _=>k b u q
 slot:=λb u q _ _ _=>⟨u.slots,k b u q⟩
 free:=λb u q n _=>by rw[ff<|æ<|á (Ô q) hp];exact n
 there:=λb u q _=>⟨u,k b u q⟩
 tups:=λb xs q=>by rw[ff<|Zf q hn];exact q
 frzs:=λb u xs q=>by rw[ff<|Zf q hn];exact q
 tbls:=λb ps q=>⟨#[],by rw[ff<|Zf q hn,q];simp⟩
def Un.write(mu:Mut<|H x)(he:e=x\/H e=eZ (.own x))(k:∀b u,b≠e->h.get? b=eZ u->h'.get? b=eZ u)(heo:∃u,h'.get? e=eZ u):Un fs ex H (upd H x o) h h':=by
 have hx:∀b,H b=fb->b≠x:=λb n z=>by subst z;rw[n]at mu;exact mu
 have hb:∀b,H b=fb->b≠e:=λb n z=>by
  subst z;rcases he with r|r
  .exact hx b n r
  .rw[n]at r;cases r
 have hm:∀b u,H b=eZ u->¬ Mut (eZ u)->b≠x:=λb u q nm z=>by subst z;rw[q]at mu;exact nm mu
 refine⟨λb u q n _ _=>k b u (hb b n) q,λb u q n _ _=>⟨u.slots,k b u (hb b n) q⟩,λb u q n _=>by rw[ff<|hx b n];exact n,λb u q _=>?_,
   λb xs q=>by rw[ff<|hm b _ q λz=>z];exact q,λb u xs q=>by rw[ff<|hm b _ q λz=>z];exact q,λb ps q=>⟨#[],by rw[ff<|hm b _ q λz=>z,q];simp⟩⟩
 by_cases hbe:b=e
 .subst hbe;exact heo
 .exact⟨u,k b u hbe q⟩
end
abbrev trk(h:Ć)(H:Hp):List Ë:=(List.range h.objs.size).filter λa=>(H a).isSome
abbrev MO(h:Ć)(H:Hp):Ć:=PySem.W.hideAll h<|trk h H
def AQ(h:Ć)(H:Hp):(MO h H).objs.size=h.objs.size:=PySem.W.hideAll_size _ _
def EJ{o:Obj}(e:h.get? b=eZ o)(n:H b=fb):(MO h H).get? b=eZ o :=
 PySem.W.hideAll_get _ e λhm=>by have q:(H b).isSome=fc:=(ø.mp hm).2;rw[n]at q;simp at q
def GK{o:Obj}(e:(MO h H).get? b=eZ o):h.get? b=eZ o/\H b=fb:=by
 have e':h.get? b=eZ o:=PySem.W.of_hideAll (trk h H) e;refine⟨e',?_⟩;cases q:H b with
 |none=>rfl
 |some x =>have hm:b∈trk h H:=ø.mpr ⟨Ÿ.mpr<|Ô e',by simp[q]⟩;have z:(MO h H).get? b=fb:=PySem.W.hideAll_none (trk h H) hm;rw[z]at e;cases e
abbrev FD(g h:Ć)(L:Ë):List<|Ë×Obj:=(List.range h.objs.size).filterMap λa=>if a=L\/(g.get? a).isSome=fc then fb else(h.get? a).map λo=>(a,o)
abbrev rest(g h:Ć)(L d:Ë):List<|Ë×Obj:=(FD g h L).filter λp=>gN (p.1≠d)
structure Mod(K:Frag)(mg:Str->Option Â)(base:Ć):Prop where
 kin:K.In base
 glob:base.Ns Ċ mg
 blt:∃mb,base.Ns builtinsNs mb/\∀x:Str,x≠"__name__"->mb x=Ů x
 nolimit:base.NoLimit
structure Cx where
 prog:ä
 w:ö
 K:Frag
 mg:Str->Option Â
 base:Ć
 A:ĉ
 N:List Str
 s₀:Ä
 H₀:Hp
 env:Env
 outer:List Env
 stack:List Env
 ex:List Ë
 fn:Str->Bool
 calm:Bool
 pn:List<|Ë×Obj
 xe:Â->Ä->Prop
abbrev frs(l:List Env):List Ë:=l.filterMap (·.frame)
noncomputable abbrev Cx.fs(X:Cx):List Ë:=frs X.outer
abbrev Vis(sc:ξ)(x:Str):Prop:=sc.names.lookup x=eZ .local\/sc.names.lookup x=eZ .cell\/sc.names.lookup x=eZ .free
abbrev Loc(sc:ξ)(x:Str):Prop:=sc.names.lookup x=eZ .local\/sc.names.lookup x=eZ .cell
abbrev Sy(env:Env)(h:Ć)(m:Str->Option Â)(x:Str)(u:Â):Prop :=
 (env.kindOf x=eZ .local/\m x=eZ u)\/((env.kindOf x=eZ .cell\/env.kindOf x=eZ .free)/\∃c,env.cells.lookup x=eZ c/\h.IsCell c (eZ u))
structure Cx.Ok(X:Cx):Prop where
 mod:Mod X.K X.mg X.base
 kind:X.env.scope.kind=.function
 glob:X.env.globals=Ċ
 blt:X.env.builtins=builtinsNs
 above:X.s₀.heap.objs.size<=X.env.locals
 inj:∀x y c,X.env.cells.lookup x=eZ c->X.env.cells.lookup y=eZ c->x=y
 has:∀x,(X.env.kindOf x=eZ .cell\/X.env.kindOf x=eZ .free)->∃c,X.env.cells.lookup x=eZ c
 cab:∀x c,X.fn x=fc->X.env.cells.lookup x=eZ c->X.s₀.heap.objs.size<=c
 hd:X.calm=fc->X.A.handled=fb
 frames:X.A.frames=eZ X.stack
 stk:X.stack=X.outer\/(X.stack=X.env::X.outer/\X.env.frame=eZ X.env.locals)
 exf:∀b∈X.ex,b≠X.env.locals/\∀x c,X.env.cells.lookup x=eZ c->c≠b
 bs:∀b o,X.base.get? b=eZ o->X.s₀.heap.get? b=eZ o/\X.H₀ b=fb
 bsz:X.base.objs.size<=X.s₀.heap.objs.size
 noex:∀b o,X.base.get? b=eZ o->b∉X.ex
 exfs:∀b∈X.ex,b∉X.fs
 funs:X.s₀.heap.FunFrames X.base X.outer
 frf:∀b∈X.fs,X.H₀ b=fb
structure Inv(X:Cx)(Á:List<|Ë×Obj)(σ:List<|Option V)(H:Hp)(s:Ä):Prop where
 ok:X.Ok
 os:s.os=X.s₀.os
 bare:ϒ s.gens
 base:Un X.fs X.ex X.H₀ H X.s₀.heap s.heap
 loc:∃m,s.heap.Ns X.env.locals m/\∀(i:Nat) (x:Str) (v:V),X.N[i]?=eZ x->σ[i]?=eZ (eZ v)->Vis X.env.scope x->∃u,RelV v u/\Sy X.env s.heap m x u
 cell:∀x c,X.env.cells.lookup x=eZ c->∃v,s.heap.IsCell c v
 free:H X.env.locals=fb
 freeC:∀x c,X.env.cells.lookup x=eZ c->H c=fb
 pin:∀p∈X.pn++Á,s.heap.get? p.1=eZ p.2/\H p.1=fb/\p.1≠X.env.locals/\p.1∉X.fs/\∀v,p.2.data≠.cell v
 hok:HOk X.prog X.w H s.heap
 len:σ.length=X.N.length
section
variable {X:Cx}{Á:List (Ë×Obj)}{σ:List (Option V)}{H H':Hp}{s:Ä}{h':Ć}
def Cx.Ok.nofr(ok:X.Ok){b:Ë}{o:Obj}(e:X.base.get? b=eZ o):b∉X.fs:=λhb=>by have:=(ok.funs.mem hb).1;rw[e]at this;cases this
def Inv.bs(I:Inv X Á σ H s):∀b o,X.base.get? b=eZ o->s.heap.get? b=eZ o/\H b=fb:=λb o e =>
 ⟨I.base.keep b o (I.ok.bs b o e).1 (I.ok.bs b o e).2 (I.ok.nofr e)<|I.ok.noex b o e,I.base.free b o (I.ok.bs b o e).1 (I.ok.bs b o e).2<|I.ok.noex b o e⟩
def Inv.bk(I:Inv X Á σ H s):∀b o,X.base.get? b=eZ o->s.heap.get? b=eZ o:=λb o e=>(I.bs b o e).1
def Inv.mod(I:Inv X Á σ H s):Mod X.K X.mg X.base:=I.ok.mod
def Inv.kIn(I:Inv X Á σ H s):X.K.In s.heap:=I.ok.mod.kin.keeps I.bk
def Inv.lt(I:Inv X Á σ H s):X.env.locals<s.heap.objs.size:=let ⟨_,hn,_⟩:=I.loc;hn.lt
def Inv.sz(I:Inv X Á σ H s):X.s₀.heap.objs.size<=s.heap.objs.size:=Ý I.ok.above (Α I.lt)
variable {a:Ë}
def Inv.nofs(I:Inv X Á σ H s)(h:s.heap.objs.size<=a):a∉X.fs:=λhb=>by let⟨_,o,ho,_⟩:=I.ok.funs.mem hb;exact gM (á (Ô ho)<|Ý I.sz h) (Ĥ _)
def Inv.cne(I:Inv X Á σ H s):∀x c,X.env.cells.lookup x=eZ c->c≠X.env.locals:=λx c e z=>by let⟨v,o,ho,hd⟩:=I.cell x c e;let⟨m,⟨o',es,ep,aF,hd',_⟩,_⟩:=I.loc;rw[z,aF]at ho;cases ho;rw[hd']at hd;cases hd
def Inv.funs(I:Inv X Á σ H s):s.heap.FunFrames X.base X.outer:=by
 have all:∀(l:List Env),(∀b∈frs l,b∈X.fs)->X.s₀.heap.FunFrames X.base l->s.heap.FunFrames X.base l:=by
  intro l;induction l with
  |nil=>intro _ _;trivial
  |cons env r ih =>intro hs hl;let⟨hk,⟨L,o,hf,hn,ho,hd⟩,hr⟩:=hl;have hL:L∈X.fs:=hs L (by unfold frs;rw[Đ,hf];exact î);let⟨sl,e⟩:=I.base.slot L o ho (I.ok.frf L hL) hL λz=>I.ok.exfs L z hL;exact⟨hk,⟨L,_,hf,hn,e,hd⟩,ih (λb hb=>hs b<|by unfold frs;rw[Đ,hf];exact Þ _ hb) hr⟩
 exact all X.outer (λ_ hb=>hb) I.ok.funs
def Inv.stack(I:Inv X Á σ H s):s.heap.FunFrames X.base X.stack:=by
 rcases I.ok.stk with e|⟨e,hf⟩
 .rw[e];exact I.funs
 .rw[e];let⟨m,hn,_⟩:=I.loc;refine .cons (by rw[I.ok.kind];decide) hf hn ?_ I.funs;exact Heap.get?_none_of_le<|Ý I.ok.bsz I.ok.above
def Inv.stkSub(I:Inv X Á σ H s):∀b∈frs X.stack,b∈X.env.locals::X.fs:=λb hb=>by
 rcases I.ok.stk with e|⟨e,hf⟩
 .rw[e]at hb;exact Þ _ hb
 .rw[e]at hb;unfold frs at hb;rw[Đ,hf]at hb;exact hb
def Inv.stkFree(I:Inv X Á σ H s):∀b∈frs X.stack,H b=fb:=λb hb=>by
 rcases Ç.mp (I.stkSub b hb)with e|hb
 .rw[e];exact I.free
 .obtain⟨_,o,ho,_⟩:=I.ok.funs.mem hb;exact I.base.free b o ho (I.ok.frf b hb) λz=>I.ok.exfs b z hb
variable {g':Array a9} {t':Nat} {d':Drawn} {ch:List Ë}
def Inv.step(I:Inv X Á σ H s)
  (hch:∀b∈ch,(b∈X.ex\/X.s₀.heap.objs.size<=b)/\b≠X.env.locals/\(∀x c,X.env.cells.lookup x=eZ c->c≠b)/\∀p∈X.pn++Á,p.1≠b)
  (keep:∀b o,b≠X.env.locals->b∉X.fs->b∉ch->s.heap.get? b=eZ o->H b=fb->h'.get? b=eZ o)
  (slot:∀b o,b≠X.env.locals->b∈X.fs->b∉ch->s.heap.get? b=eZ o->H b=fb->∃sl,h'.get? b=eZ {o with slots:=sl}) (free:∀b o,b∉ch->s.heap.get? b=eZ o->H b=fb->H' b=fb)
  (there:∀b o,b∉ch->s.heap.get? b=eZ o->∃o',h'.get? b=eZ o')
  (tups:∀b xs,H b=eZ (.tup xs)->H' b=eZ (.tup xs)) (frzs:∀b o u,H b=eZ (.frz o u)->H' b=eZ (.frz o u)) (tbls:∀b ps,H b=eZ (.tbl ps)->∃more,H' b=eZ (.tbl<|ps++more))
  (ns:∀m,s.heap.Ns X.env.locals m->h'.Ns X.env.locals m) (hok:HOk X.prog X.w H' h') (hg:ϒ g') :
  Inv X Á σ H' {s with heap:=h',gens:=g',drawn:=d',toks:=t'}:=by
 have neL:∀b o,X.s₀.heap.get? b=eZ o->b≠X.env.locals:=λb o e=>æ<|á (Ô e) I.ok.above;have neC:∀b o,X.s₀.heap.get? b=eZ o->b∉X.ex->b∉ch:=λb o e hx hb=>by
  rcases (hch b hb).1 with z|z
  .exact hx z
  .exact gM (á (Ô e) z)<|Ĥ _
 have cellK:∀x c,X.env.cells.lookup x=eZ c->∀v,s.heap.IsCell c v->h'.IsCell c v:=λx c e v ⟨o,ho,hd⟩=>by
  have nch:c∉ch:=λz=>(hch c z).2.2.1 x c e rfl;by_cases hc:c∈X.fs
  .obtain⟨sl,q⟩:=slot c o (I.cne x c e) hc nch ho<|I.freeC x c e;exact⟨_,q,hd⟩
  .exact⟨o,keep c o (I.cne x c e) hc nch ho<|I.freeC x c e,hd⟩
 refine⟨I.ok,I.os,hg,⟨λb o e n hb hx=>?_,λb o e n hb hx=>?_,λb o e n hx=>?_,λb o e hx=>?_,λb xs e=>tups b xs<|I.base.tups b xs e,λb o xs e=>frzs b o xs<|I.base.frzs b o xs e,λb ps e=>?_⟩,?_,λx c e=>?_,?_,λx c e=>?_,λp hp=>?_,hok,I.len⟩
 .exact keep b o (neL b o e) hb (neC b o e hx) (I.base.keep b o e n hb hx)<|I.base.free b o e n hx
 .obtain⟨sl,e1⟩:=I.base.slot b o e n hb hx;let⟨sl',e2⟩:=slot b _ (neL b o e) hb (neC b o e hx) e1<|I.base.free b o e n hx;exact⟨sl',e2⟩
 .obtain⟨o',e1⟩:=I.base.there b o e hx;exact free b o' (neC b o e hx) e1<|I.base.free b o e n hx
 .obtain⟨o',e1⟩:=I.base.there b o e hx;exact there b o' (neC b o e hx) e1
 .obtain⟨m1,e1⟩:=I.base.tbls b ps e;let⟨m2,e2⟩:=tbls b _ e1;exact⟨m1++m2,by rw[e2,Array.append_assoc]⟩
 .obtain⟨m,hn,hl⟩:=I.loc;refine⟨m,ns m hn,λi x v e1 e2 e3=>?_⟩;let⟨u,r,l⟩:=hl i x v e1 e2 e3;refine⟨u,r,?_⟩;rcases l with l|⟨k,c,e,z⟩
  .exact .inl l
  .exact .inr ⟨k,c,e,cellK x c e _ z⟩
 .obtain⟨v,z⟩:=I.cell x c e;exact⟨v,cellK x c e v z⟩
 .obtain⟨m,⟨o,_,_,ho,_⟩,_⟩:=I.loc;exact free _ o (λz=>(hch _ z).2.1 rfl) ho I.free
 .obtain⟨v,o,ho,hd⟩:=I.cell x c e;exact free c o (λz=>(hch c z).2.2.1 x c e rfl) ho<|I.freeC x c e
 .obtain⟨e,n,ne,nf,d⟩:=I.pin p hp;have nch:p.1∉ch:=λz=>(hch p.1 z).2.2.2 p hp rfl;exact⟨keep p.1 p.2 ne nf nch e n,free p.1 p.2 nch e n,ne,nf,d⟩
def Inv.un(I:Inv X Á σ H s)(u:Un X.fs [] H H' s.heap h')(hok:HOk X.prog X.w H' h'):Inv X Á σ H' {s with heap:=h',toks:=t'}:=by
 let⟨m,⟨o,es,ep,ho,r⟩,_⟩:=id I.loc;let⟨sl,hL⟩:=u.any ho I.free (by simp);exact I.step (g':=s.gens) (d':=s.drawn) (ch:=[]) (λ_ z=>nomatch z) (λb o _ hb _ e n=>u.keep b o e n hb<|by simp) (λb o _ hb _ e n=>u.slot b o e n hb<|by simp) (λb o _ e n=>u.free b o e n<|by simp) (λb o _ e=>u.there b o e<|by simp) u.tups u.frzs u.tbls (λm' hm=>by
   let⟨o',es',ep',aF,r'⟩:=hm
   rw[ho]at aF;cases aF
   exact⟨_,es',ep',hL,r'⟩) hok I.bare
def Inv.call(I:Inv X Á σ H s)(u:Un (frs X.stack) ch H H' s.heap h')(hok:HOk X.prog X.w H' h')(hg:ϒ g')
  (hch:∀b∈ch,(b∈X.ex\/X.s₀.heap.objs.size<=b)/\b≠X.env.locals/\(∀x c,X.env.cells.lookup x=eZ c->c≠b)/\∀p∈X.pn++Á,p.1≠b) :
  Inv X Á σ H' {s with heap:=h',gens:=g',drawn:=d',toks:=t'}:=by
 let⟨m,⟨o,es,ep,ho,r⟩,_⟩:=id I.loc;let⟨sl,hL⟩:=u.any ho I.free λz=>(hch _ z).2.1 rfl;exact I.step (ch:=ch) hch (λb o hL hb hc e n=>u.keep b o e n (λz=>(Ç.mp<|I.stkSub b z).elim hL hb) hc) (λb o _ _ hc e n=>u.any e n hc) (λb o hc e n=>u.free b o e n hc) (λb o hc e=>u.there b o e hc) u.tups u.frzs u.tbls (λm' hm=>by
   let⟨o',es',ep',aF,r'⟩:=hm
   rw[ho]at aF;cases aF
   exact⟨_,es',ep',hL,r'⟩) hok hg
def Inv.turned{it:Ë}(I:Inv X Á σ H s)(k:∀b o,b≠it->s.heap.get? b=eZ o->h'.get? b=eZ o)(hn:H it=fb)(hL:it≠X.env.locals)
  (h1:it∈X.ex\/X.s₀.heap.objs.size<=it) (h2:∀x c,X.env.cells.lookup x=eZ c->c≠it) (h3:∀p∈X.pn++Á,p.1≠it):Inv X Á σ H {s with heap:=h',toks:=t'}:=by
 have nit:∀b u,H b=eZ u->b≠it:=λb u e z=>by rw[z,hn]at e;cases e
 refine I.step (g':=s.gens) (d':=s.drawn) (ch:=[it]) (λb hb=>?_) (λb o _ _ hc e _=>k b o (λz=>hc<|by simp[z]) e) (λb o _ _ hc e _=>⟨o.slots,k b o (λz=>hc<|by simp[z]) e⟩) (λ_ _ _ _ n=>n)
  (λb o hc e=>⟨o,k b o (λz=>hc<|by simp[z]) e⟩) (λ_ _ e=>e) (λ_ _ _ e=>e) (λb ps e=>⟨#[],by rw[e];simp⟩) (λm hm=>?_) (λb u e=>?_) I.bare
 .have e:b=it:=⇑hb
  subst e;exact⟨h1,hL,h2,h3⟩
 .obtain⟨o,es,ep,ho,r⟩:=hm;exact⟨o,es,ep,k _ o (Ne.symm hL) ho,r⟩
 .refine(I.hok b u e).stay (λc v hc q=>k c v ?_ q) (λ_ q=>q) λ_ _ q=>q;rcases hc with z|z
  .rw[z];exact nit b u e
  .exact nit c _ z
def Inv.tok(I:Inv X Á σ H s)(t:Nat):Inv X Á σ H {s with toks:=t}:=I.un (h':=s.heap) (t':=t) Un.refl I.hok
def Inv.kept(I:Inv X Á σ H s)(k:∀b u,s.heap.get? b=eZ u->h'.get? b=eZ u):Inv X Á σ H {s with heap:=h',toks:=t'}:=I.un (Un.kept k) (I.hok.kept k)
variable {o:HO}
def Inv.laid(I:Inv X Á σ H s)(k:∀b u,s.heap.get? b=eZ u->h'.get? b=eZ u)(hp:s.heap.objs.size<=a)(new:fu X.prog X.w (upd H a o) h' a o) :
  Inv X Á σ (upd H a o) {s with heap:=h',toks:=t'}:=I.un (Un.laid k hp<|I.hok.fresh hp)<|I.hok.laid k hp new
def Inv.write{x e:Ë}(I:Inv X Á σ H s)(mu:Mut<|H x)(he:e=x\/H e=eZ (.own x))(k:∀b u,b≠e->s.heap.get? b=eZ u->h'.get? b=eZ u)(heo:∃u,h'.get? e=eZ u)
  (new:fu X.prog X.w (upd H x o) h' x o):Inv X Á σ (upd H x o) {s with heap:=h',toks:=t'}:=I.un (Un.write mu he k heo)<|I.hok.write mu he k heo new
def Inv.pins_of{pins':List (Ë×Obj)}(I:Inv X Á σ H s)(h:∀p∈pins',s.heap.get? p.1=eZ p.2/\H p.1=fb/\p.1≠X.env.locals/\p.1∉X.fs/\∀v,p.2.data≠.cell v):Inv X pins' σ H s :=
 ⟨I.ok,I.os,I.bare,I.base,I.loc,I.cell,I.free,I.freeC,λp hp=>(å.mp hp).elim (λz=>I.pin p<|Ù _ z)<|h p,I.hok,I.len⟩
variable {i:Nat} {x:Str}
def JG{N:List Str}(hN:N.Nodup){j:Nat}(a:N[i]?=eZ x)(b:N[j]?=eZ x):i=j:=by let⟨h1,e1⟩:=Î.mp a;let⟨h2,e2⟩:=Î.mp b;exact(List.getElem_inj hN).mp (e1.trans e2.symm)
variable {M:dO} {A:ĉ} {u:Â} {Q:Unit->Ä->Prop}
def KN{E:Â->Ä->Prop}{v:V}(I:Inv X Á σ H s)(hN:X.N.Nodup)(hi:X.N[i]?=eZ x)(hx:Loc X.env.scope x)(r:RelV v u)
  (h:∀s',Inv X Á (σ.set i<|eZ v) H s'->(∃a,Ź a s.heap s'.heap/\(a=X.env.locals\/X.env.cells.lookup x=eZ a))->Q () s') (hf:X.fn x=fc\/X.env.scope.names.lookup x=eZ .local:=by first|exact .inl rfl|exact .inr rfl|assumption):wpAny M A (storeName X.env x u) Q E s:=by
 let⟨m,hn,hl⟩:=id I.loc;have cT:(X.env.scope.kind == .class||(X.env.scope.kind == .module&&X.env.locals != X.env.globals))=fe:=by rw[I.ok.kind];rfl
 have hiσ:i<σ.length:=by rw[I.len];exact(Î.mp hi).1
 have cne:=I.cne;have dk:∀{a:Ë}{h':Ć},(∃o,s.heap.get? a=eZ o/\H a=fb)->Ź a s.heap h'->HOk X.prog X.w H h':=λ{a h'} ha hs b ob e=>by
  let⟨_,_,hfree⟩:=ha;refine(I.hok b ob e).stay (λc w' hc q=>(hs.2 c ?_).trans q) (λ_ q=>q) λ_ _ q=>q;rintro rfl;rcases hc with rfl|hc
  .rw[hfree]at e;cases e
  .rw[hfree]at hc;cases hc
 rcases hx with hk|hk
 .refine wpAny_storeName_local hk hn (λh' hn' hs=>?_) cT;let⟨oL,_,_,hoL,_⟩:=id hn;refine h _ ⟨I.ok,I.os,I.bare,⟨λb o e n hb hx=>?_,λb o e n hb hx=>?_,I.base.free,λb o e hx=>?_,I.base.tups,I.base.frzs,I.base.tbls⟩,⟨_,hn',λj y v' e1 e2 e3=>?_⟩,λy c e=>?_,I.free,I.freeC,λp hp=>?_,dk ⟨oL,hoL,I.free⟩ hs,by simpa using I.len⟩ ⟨_,hs,.inl rfl⟩
  .exact(hs.2 b<|æ<|á (Ô e) I.ok.above).trans<|I.base.keep b o e n hb hx
  .obtain⟨sl,e1⟩:=I.base.slot b o e n hb hx;exact⟨sl,(hs.2 b<|æ<|á (Ô e) I.ok.above).trans e1⟩
  .obtain⟨o',e1⟩:=I.base.there b o e hx;exact⟨o',(hs.2 b<|æ<|á (Ô e) I.ok.above).trans e1⟩
  .by_cases hj:j=i
   .subst hj;rw[hi]at e1;cases e1;rw[ϓ hiσ]at e2;cases e2;exact⟨u,r,.inl ⟨hk,by simp⟩⟩
   .rw[ĵ<|Ne.symm hj]at e2;let⟨u',r',q⟩:=hl j y v' e1 e2 e3;refine⟨u',r',?_⟩;rcases q with⟨k,e⟩|⟨k,c,e,z⟩
    .refine .inl ⟨k,?_⟩;have:y≠x:=λe=>hj<|JG hN e1<|e▸hi;simp[this,e]
    .exact .inr ⟨k,c,e,z.sameBut hs<|cne y c e⟩
  .obtain⟨w',z⟩:=I.cell y c e;exact⟨w',z.sameBut hs<|cne y c e⟩
  .obtain⟨e,n,ne,nf,d⟩:=I.pin p hp;exact⟨(hs.2 p.1 ne).trans e,n,ne,nf,d⟩
 .have hfn:X.fn x=fc:=by
   rcases hf with z|z
   .exact z
   .rw[z]at hk;cases hk
  let⟨c,hc⟩:=I.ok.has x<|.inl hk;let⟨w',z⟩:=I.cell x c hc;refine wpAny_storeName_cell I.ok.kind hk hc z λh' hc' hs=>?_;let⟨oc,hoc,hocd⟩:=id z;refine h {s with heap:=h'} ⟨I.ok,I.os,I.bare,⟨λb o e n hb hx=>?_,λb o e n hb hx=>?_,I.base.free,λb o e hx=>?_,I.base.tups,I.base.frzs,I.base.tbls⟩,⟨m,hn.sameBut hs<|Ne.symm<|cne x c hc,λj y v' e1 e2 e3=>?_⟩,λy c' e=>?_,I.free,I.freeC,λp hp=>?_,dk ⟨oc,hoc,I.freeC x c hc⟩ hs,by simpa using I.len⟩ ⟨c,hs,.inr hc⟩
  .exact(hs.2 b<|æ<|á (Ô e)<|I.ok.cab x c hfn hc).trans<|I.base.keep b o e n hb hx
  .obtain⟨sl,e1⟩:=I.base.slot b o e n hb hx;exact⟨sl,(hs.2 b<|æ<|á (Ô e)<|I.ok.cab x c hfn hc).trans e1⟩
  .obtain⟨o',e1⟩:=I.base.there b o e hx;exact⟨o',(hs.2 b<|æ<|á (Ô e)<|I.ok.cab x c hfn hc).trans e1⟩
  .by_cases hj:j=i
   .subst hj;rw[hi]at e1;cases e1;rw[ϓ hiσ]at e2;cases e2;exact⟨u,r,.inr ⟨.inl hk,c,hc,hc'⟩⟩
   .rw[ĵ<|Ne.symm hj]at e2;let⟨u',r',q⟩:=hl j y v' e1 e2 e3;refine⟨u',r',?_⟩;rcases q with q|⟨k,c',e,z'⟩
    .exact .inl q
    .refine .inr ⟨k,c',e,z'.sameBut hs ?_⟩;rintro rfl;exact hj<|JG hN e1<|I.ok.inj _ _ _ e hc▸hi
  .by_cases hcc:c'=c
   .subst hcc;exact⟨_,hc'⟩
   .obtain⟨w2,z2⟩:=I.cell y c' e;exact⟨w2,z2.sameBut hs hcc⟩
  .obtain⟨e,n,ne,nf,d⟩:=I.pin p hp;refine⟨(hs.2 p.1 ?_).trans e,n,ne,nf,d⟩;intro q;rw[q,hoc]at e;have q':oc=p.2:=ï e;exact d w' (by rw[<-q'];exact hocd)
def Kh{E:Â->Ä->Prop}{v:V}(I:Inv X Á σ H s)(hN:X.N.Nodup)(hi:X.N[i]?=eZ x)(hx:Loc X.env.scope x)(r:RelV v u)
  (h:∀s',Inv X Á (σ.set i<|eZ v) H s'->Q () s') (hf:X.fn x=fc\/X.env.scope.names.lookup x=eZ .local:=by first|exact .inl rfl|exact .inr rfl|assumption):wpAny M A (storeName X.env x u) Q E s :=
 KN I hN hi hx r (λs' I' _=>h s' I') hf
def Inv.call'{s':Ä}(I:Inv X Á σ H s)(ho:s'.os=s.os)(u:Un (frs X.stack) ch H H' s.heap s'.heap)(hok:HOk X.prog X.w H' s'.heap)(hg:ϒ s'.gens)
  (hch:∀b∈ch,(b∈X.ex\/X.s₀.heap.objs.size<=b)/\b≠X.env.locals/\(∀x c,X.env.cells.lookup x=eZ c->c≠b)/\∀p∈X.pn++Á,p.1≠b):Inv X Á σ H' s':=by
 let⟨h',g',d',t',o'⟩:=s';have e:o'=s.os:=ho;subst e;exact I.call (g':=g') (t':=t') (d':=d') u hok hg hch
end
noncomputable abbrev XK:=Â->Option Ë->Hp->Prop
noncomputable abbrev St:=List<|Option V
noncomputable abbrev VK:=V->Hp->Prop
noncomputable abbrev TE:=St->Hp->VK->Prop
noncomputable abbrev TT:=St->Hp->(Bool->Hp->Prop)->Prop
noncomputable abbrev TA:=St->Hp->(List V->Hp->Prop)->Prop
structure Ends where
 nx:St->Hp->Prop
 rt:VK
 bk:St->Hp->Prop:=λ_ _=>False
 ct:St->Hp->Prop:=λ_ _=>False
noncomputable abbrev TS:=Ends->St->Hp->Prop
inductive EP (X:Cx) (Á:List<|Ë×Obj) (σ:St) (Q:VK) (u:Â) (s':Ä):Prop
 |mk (v:V) (H':Hp) (i:Inv X Á σ H' s') (r:RelV v u) (q:Q v H')
abbrev TP(X:Cx)(Á:List<|Ë×Obj)(σ:St)(Q:Bool->Hp->Prop)(b:Bool)(s':Ä):Prop:=∃H',Inv X Á σ H' s'/\Q b H'
inductive AP (X:Cx) (Á:List<|Ë×Obj) (σ:St) (Q:List V->Hp->Prop) (us:List Â) (s':Ä):Prop
 |mk (vs:List V) (H':Hp) (i:Inv X Á σ H' s') (r:gw vs us) (q:Q vs H')
abbrev SP(X:Cx)(Á:List<|Ë×Obj)(D:Ends)(f:Flow)(s':Ä):Prop :=
 match f with
 |.next=>∃Ū H',Inv X Á Ū H' s'/\D.nx Ū H'
 |.brk=>∃Ū H',Inv X Á Ū H' s'/\D.bk Ū H'
 |.cont=>∃Ū H',Inv X Á Ū H' s'/\D.ct Ū H'
 |.ret u=>∃v Ū H',Inv X Á Ū H' s'/\RelV v u/\D.rt v H'
abbrev PE(X:Cx)(e:Expr)(t:TE):Prop :=
 ∀(Á:List<|Ë×Obj) (s:Ä) (σ:St) (H:Hp) (Q:VK),Inv X Á σ H s->t σ H Q->wpAny (Õ X.prog X.w) X.A (eval e X.env) (EP X Á σ Q) X.xe s
abbrev PT(X:Cx)(e:Expr)(t:TT):Prop :=
 ∀(Á:List<|Ë×Obj) (s:Ä) (σ:St) (H:Hp) (Q:Bool->Hp->Prop),Inv X Á σ H s->t σ H Q->wpAny (Õ X.prog X.w) X.A (cF e X.env<|eval e X.env) (TP X Á σ Q) X.xe s
abbrev PW(X:Cx)(e:Expr)(t:TT):Prop :=
 ∀(aP:Sem Â) (Á:List<|Ë×Obj) (s:Ä) (σ:St) (H:Hp) (Q:Bool->Hp->Prop),Inv X Á σ H s->t σ H Q->wpAny (Õ X.prog X.w) X.A (cF e X.env aP) (TP X Á σ Q) X.xe s
def PW.pt{X:Cx}{e:Expr}{t:TT}(h:PW X e t):PT X e t:=h _
abbrev PA(X:Cx)(es:List Expr)(t:TA):Prop :=
 ∀(ç:Pos) (Á:List<|Ë×Obj) (s:Ä) (σ:St) (H:Hp) (Q:List V->Hp->Prop),Inv X Á σ H s->t σ H Q->wpAny (Õ X.prog X.w) X.A (spliced<|Ď ç<|Ï es X.env) (AP X Á σ Q) X.xe s
abbrev PS(X:Cx)(st:Į)(t:TS):Prop :=
 ∀(Á:List<|Ë×Obj) (s:Ä) (σ:St) (H:Hp) (D:Ends),Inv X Á σ H s->t D σ H->wpAny (Õ X.prog X.w) X.A (exec st X.env) (SP X Á D) X.xe s
abbrev PSs(X:Cx)(st:List Į)(t:TS):Prop :=
 ∀(Á:List<|Ë×Obj) (s:Ä) (σ:St) (H:Hp) (D:Ends),Inv X Á σ H s->t D σ H->wpAny (Õ X.prog X.w) X.A (execs st X.env) (SP X Á D) X.xe s
def thn{α:Type}{t:Sem α}{Q Q':α->Ä->Prop}{M:dO}{A:ĉ}{E:Â->Ä->Prop}{s:Ä}(h:wpAny M A t Q E s)(hQ:∀a s,Q a s->Q' a s):wpAny M A t Q' E s:=ċ h hQ λ_ _ x=>x
section
variable {X:Cx}
variable {Á:List (Ë×Obj)} {s:Ä} {σ:St} {H:Hp}
def bin{a b:Expr}{ta tb:TE}(ha:PE X a ta)(hb:PE X b tb){R:V->V->Hp->Prop}(I:Inv X Á σ H s)(h:ta σ H λx H1=>tb σ H1 λy H2=>R x y H2)
  {α:Type}{Q:α->Ä->Prop}{f:Â->Â->Sem α}
  (hf:∀v u s2 x y H2,Inv X Á σ H2 s2->RelV x v->RelV y u->R x y H2->wpAny (Õ X.prog X.w) X.A (f v u) Q X.xe s2) :
  wpAny (Õ X.prog X.w) X.A (eval a X.env) (λv ģ=>wpAny (Õ X.prog X.w) X.A (eval b X.env) (λu cg=>wpAny (Õ X.prog X.w) X.A (f v u) Q X.xe cg) X.xe ģ) X.xe s:=by
 refine thn (ha Á s σ H _ I h) λv s1 ⟨x,H1,I1,r1,q1⟩=>?_;refine thn (hb Á s1 σ H1 _ I1 q1) λu s2 ⟨y,H2,I2,r2,q2⟩=>?_;exact hf v u s2 x y H2 I2 r1 r2 q2
abbrev SH(i:Nat):TE:=λσ H Q=>∃v,σ[i]?=eZ (eZ v)/\Q v H
abbrev tC(v:V):TE:=λ_ H Q=>Q v H
variable {x:Str} {ç:Pos}
def Lz{i:Nat}(hN:X.N[i]?=eZ x)(hv:Vis X.env.scope x)(hd:(x==("__debug__" : Str))=fe:=by decide)(bB:(x==("__classdict__" : Str))=fe:=by decide):PE X (.Name x ç)<|SH i:=by
 intro Á s σ H Q I h;let⟨v,e,h⟩:=h;let⟨m,hn,hl⟩:=I.loc;let⟨u,r,l⟩:=hl i x v hN e hv;have fin:EP X Á σ Q u s:=⟨v,H,I,r,h⟩
 rcases l with⟨hk,hm⟩|⟨hk,c,hc,hcell⟩
 .exact wpAny_Name (wpAny_loadName_local I.ok.kind hk hn hm fin) hd
 .rcases hk with hk|hk
  .exact wpAny_Name (wpAny_loadName_cell I.ok.kind hk hc hcell fin) hd
  .exact wpAny_Name (wpAny_loadName_free I.ok.kind hk hc hcell fin bB) hd
def ON{i j ç}:PE X (.Constant (.int i) j ç)<|tC<|.int i:=λ_ _ _ H _ I h=>wpAny_Constant_int ⟨.int i,H,I.tok _,⟨_,rfl⟩,h⟩
def RY{b j ç}:PE X (.Constant (.bool b) j ç)<|tC<|.bl b:=λ_ _ _ H _ I h=>Constant_bool ⟨.bl b,H,I,rfl,h⟩
def DG{j ç}:PE X (.Constant .none j ç)<|tC .non:=λ_ _ _ H _ I h=>dr ⟨.non,H,I,rfl,h⟩
def pe_str{x j ç}:PE X (.Constant (.str x) j ç)<|tC<|.str x:=λ_ _ _ H _ I h=>Calls.Constant_str ⟨.str x,H,I.tok _,⟨_,rfl⟩,h⟩
abbrev Gl(X:Cx)(x:Str):Prop:=X.env.kindOf x=eZ .globalImplicit
variable {u:Â} {Q:Â->Ä->Prop}
def Yu{E:Â->Ä->Prop}(I:Inv X Á σ H s)(hg:Gl X x)(hm:X.mg x=eZ u)(h:Q u s)
  (hd:(x==("__debug__" : Str))=fe:=by decide):wpAny (Õ X.prog X.w) X.A (eval (.Name x ç) X.env) Q E s :=
 Calls.Name_function_global I.ok.kind hg (Calls.loadGlobal_global (by rw[I.ok.glob];exact I.mod.glob.keeps I.bk) hm h) hd
def Xp{E:Â->Ä->Prop}(I:Inv X Á σ H s)(hg:Gl X x)(hm:X.mg x=fb)(hv:Ů x=eZ u)(h:Q u s)
  (hn:x≠"__name__":=by decide) (hd:(x==("__debug__" : Str))=fe:=by decide):wpAny (Õ X.prog X.w) X.A (eval (.Name x ç) X.env) Q E s:=by
 let⟨mb,h1,h2⟩:=I.mod.blt;exact Calls.Name_function_global I.ok.kind hg (Calls.loadGlobal_builtin (by rw[I.ok.glob];exact I.mod.glob.keeps I.bk) hm (by rw[I.ok.blt];exact h1.keeps I.bk) ((h2 x hn).trans hv) h) hd
def MD{v:V}(hg:Gl X x)(hm:X.mg x=eZ u)(r:RelV v u)(hd:(x==("__debug__" : Str))=fe:=by decide):PE X (.Name x ç) (tC v) :=
 λ_ _ _ H _ I h=>Yu I hg hm ⟨v,H,I,r,h⟩ hd
def UF{v:V}(hg:Gl X x)(hm:X.mg x=fb)(hv:Ů x=eZ u)(r:RelV v u)(hn:x≠"__name__":=by decide)(hd:(x==("__debug__" : Str))=fe:=by decide):PE X (.Name x ç) (tC v) :=
 λ_ _ _ H _ I h=>Xp I hg hm hv ⟨v,H,I,r,h⟩ hn hd
variable {a b:Expr}{ta tb:TE}{ç:Pos}
abbrev PC(X:Cx)(op:cG)(a b:Expr)(t:TE):Prop :=
 ∀(Á:List<|Ë×Obj) (s:Ä) (σ:St) (H:Hp) (Q:VK),Inv X Á σ H s->t σ H Q->
  wpAny (Õ X.prog X.w) X.A (eval a X.env) (λv ģ=>wpAny (Õ X.prog X.w) X.A (eval b X.env) (λu cg=>wpAny (Õ X.prog X.w) X.A (ì op v u) (EP X Á σ Q) X.xe cg) X.xe ģ) X.xe s
variable {op:cG}
def N7(b:Expr)(h:op≠.In)(h2:op≠.NotIn):Ņ op b=fe:=by
 have e1:(op==CmpOp.In)=fe:=by cases op<;>first|rfl|exact gM rfl h
 have e2:(op==CmpOp.NotIn)=fe:=by cases op<;>first|rfl|exact gM rfl h2
 cases b<;>simp[Ņ,e1,e2]
abbrev SF(ta:TE):TE:=λσ H Q=>ta σ H λx H1=>Q (.bl<|gN (x=.non)) H1
abbrev QM(ta:TE):TE:=λσ H Q=>ta σ H λx H1=>Q (.bl (!gN (x=.non))) H1
def RelV.none_iff{x:V}{v:Â}(r:RelV x v):(v==Value.none)=gN (x=.non):=by
 cases x with
 |non=>cases r;rfl
 |bl _=>cases r;rfl
 |int _=>let⟨t,rfl⟩:=r;rfl
 |str _=>let⟨t,rfl⟩:=r;rfl
 |byt _=>let⟨t,rfl⟩:=r;rfl
 |flt _=>let⟨t,rfl⟩:=r;rfl
 |ref _=>cases r;rfl
 |ty _=>cases r;rfl
def CF{j aD}(ha:PE X a ta):PC X .Is a (.Constant .none j aD)<|SF ta:=by intro Á s σ H Q I h;refine thn (ha Á s σ H _ I h) λv s1 ⟨x,H1,I1,r1,q1⟩=>?_;exact dr (is_none_gen ⟨.bl _,H1,I1,by rw[r1.none_iff];rfl,q1⟩)
def UC{j aD}(ha:PE X a ta):PC X .IsNot a (.Constant .none j aD)<|QM ta:=by intro Á s σ H Q I h;refine thn (ha Á s σ H _ I h) λv s1 ⟨x,H1,I1,r1,q1⟩=>?_;exact dr (isnot_none_gen ⟨.bl _,H1,I1,by rw[r1.none_iff];rfl,q1⟩)
abbrev tB(t:TE):TT:=λσ H Q=>t σ H λx H1=>∃c,x=.bl c/\Q c H1
def Df{t:TE}(h:PC X op a b t)(h1:Ņ op b=fe:=by first|exact N7 _ (by decide) (by decide)|rfl):PE X (.Compare a [op] [b] ç) t:=λÁ s σ H Q I hw=>wpAny_Compare1 (h Á s σ H Q I hw) h1
def DS{t:TE}(h:PC X op a b t)(h1:Ņ op b=fe:=by first|exact N7 _ (by decide) (by decide)|rfl):PT X (.Compare a [op] [b] ç)<|tB t:=by intro Á s σ H Q I hw;refine wpAny_isTrue_Compare1 (thn (h Á s σ H _ I hw) λv s1 h1=>thn h1 λu s2 h2=>thn h2 λc s3 ⟨x,H1,I1,r1,q1⟩=>?_) h1;let⟨d,rfl,q⟩:=q1;cases r1;exact ē ⟨H1,I1,q⟩
variable {tA tB':TT}{rest:List Expr}
abbrev Se(t u:TT):TT:=λσ H Q=>t σ H λc H1=>if c=fc then u σ H1 Q else Q fe H1
abbrev tOr(t u:TT):TT:=λσ H Q=>t σ H λc H1=>if c=fc then Q fc H1 else u σ H1 Q
abbrev SC(t:TT):TT:=λσ H Q=>t σ H λc H1=>Q (!c) H1
def FO(ha:PT X a tA):PW X (.BoolOp .And [a] ç) tA:=by
 intro wh Á s σ H Q I h;refine isTrue_and<|thn (ha Á s σ H Q I h) λc s1 e=>?_;cases c with
 |true=>exact isTrue_and_nil e
 |false=>exact e
def Pc(ha:PT X a tA):PW X (.BoolOp .Or [a] ç) tA:=by
 intro wh Á s σ H Q I h;refine isTrue_or<|thn (ha Á s σ H Q I h) λc s1 e=>?_;cases c with
 |false=>exact isTrue_or_nil e
 |true=>exact e
def Po(ha:PT X a tA)(hb:PW X (.BoolOp .And (b::rest) ç) tB'):PW X (.BoolOp .And (a::b::rest) ç)<|Se tA tB':=by
 intro wh Á s σ H Q I h;refine isTrue_and<|thn (ha Á s σ H _ I h) λc s1 ⟨H1,I1,q1⟩=>?_;cases c with
 |true=>exact hb wh Á s1 σ H1 Q I1 q1
 |false=>exact⟨H1,I1,q1⟩
def Q2(ha:PT X a tA)(hb:PW X (.BoolOp .Or (b::rest) ç) tB'):PW X (.BoolOp .Or (a::b::rest) ç)<|tOr tA tB':=by
 intro wh Á s σ H Q I h;refine isTrue_or<|thn (ha Á s σ H _ I h) λc s1 ⟨H1,I1,q1⟩=>?_;cases c with
 |true=>exact⟨H1,I1,q1⟩
 |false=>exact hb wh Á s1 σ H1 Q I1 q1
def LA(ha:PT X a tA):PT X (.UnaryOp .Not a ç)<|SC tA:=by intro Á s σ H Q I h;exact isTrue_not (ha Á s σ H (λc H1=>Q (!c) H1) I h)
abbrev QW(ta tb:TE):TE:=λσ H Q=>ta σ H λx H1=>∃c,x=.bl c/\if c=fc then tb σ H1 Q else Q (.bl fe) H1
abbrev Sf(ta tb:TE):TE:=λσ H Q=>ta σ H λx H1=>∃c,x=.bl c/\if c=fc then Q (.bl fc) H1 else tb σ H1 Q
abbrev Qu(ta:TE):TE:=λσ H Q=>ta σ H λx H1=>∃c,x=.bl c/\Q (.bl (!c)) H1
def D7{op}{t:TE}(h:PE X a t):PE X (.BoolOp op [a] ç) t:=λÁ s σ H Q I hw=>BoolOp_one (h Á s σ H Q I hw)
def Pf(ha:PE X a ta)(hb:PE X (.BoolOp .And (b::rest) ç) tb):PE X (.BoolOp .And (a::b::rest) ç)<|QW ta tb:=by
 intro Á s σ H Q I h;refine BoolOp_and<|thn (ha Á s σ H _ I h) λv s1 ⟨x,H1,I1,r1,q1⟩=>?_;let⟨c,rfl,q1⟩:=q1;cases r1;refine ē ?_;cases c with
 |true=>exact hb Á s1 σ H1 Q I1 q1
 |false=>exact⟨.bl fe,H1,I1,rfl,q1⟩
def Qe(ha:PE X a ta)(hb:PE X (.BoolOp .Or (b::rest) ç) tb):PE X (.BoolOp .Or (a::b::rest) ç)<|Sf ta tb:=by
 intro Á s σ H Q I h;refine BoolOp_or<|thn (ha Á s σ H _ I h) λv s1 ⟨x,H1,I1,r1,q1⟩=>?_;let⟨c,rfl,q1⟩:=q1;cases r1;refine ē ?_;cases c with
 |false=>exact hb Á s1 σ H1 Q I1 q1
 |true=>exact⟨.bl fc,H1,I1,rfl,q1⟩
def Lu(ha:PE X a ta):PE X (.UnaryOp .Not a ç)<|Qu ta:=by intro Á s σ H Q I h;refine UnaryOp_<|thn (ha Á s σ H _ I h) λv s1 ⟨x,H1,I1,r1,q1⟩=>?_;let⟨c,rfl,q1⟩:=q1;cases r1;exact not_of (ē ⟨.bl (!c),H1,I1,rfl,q1⟩)
abbrev tIf(t:TT)(ta tb:TE):TE:=λσ H Q=>t σ H λc H1=>if c=fc then ta σ H1 Q else tb σ H1 Q
def BQ{c:Expr}(hc:PT X c tA)(ha:PE X a ta)(hb:PE X b tb):PE X (.IfExp c a b ç)<|tIf tA ta tb:=by
 intro Á s σ H Q I h;refine wpAny_IfExp<|thn (hc Á s σ H _ I h) λd s1 ⟨H1,I1,q1⟩=>?_;cases d with
 |true=>exact ha Á s1 σ H1 Q I1 q1
 |false=>exact hb Á s1 σ H1 Q I1 q1
end
abbrev gp(K:Frag)(H:Hp)(a:Ë)(xs:List V):Prop :=
 Rd H a (.lst xs)\/
  ∃(o:Obj) (ô:Array Â) (n:Nat),K.lookup a=eZ o/\o.cls=.type "list"/\o.dict=fb/\o.data=.seq ô n/\ô.size<=Ö/\gw xs ô.toList
abbrev gq(K:Frag)(H:Hp)(a:Ë)(xs:List V):Prop :=
 Rd H a (.tup xs)\/
  ∃(o:Obj) (ô:Array Â) (n:Nat),K.lookup a=eZ o/\o.cls=.type "tuple"/\o.data=.seq ô n/\ô.size<=Ö/\gw xs ô.toList
abbrev absV:Â->Option V
 |.none=>eZ .non
 |.bool b=>eZ<|.bl b
 |.int i _=>eZ<|.int i
 |.str x _=>eZ<|.str x
 |.bytes b _=>eZ<|.byt b
 |.float b _=>eZ<|.flt b
 |.ref a=>eZ<|.ref a
 |.type n=>eZ<|.ty n
 |_=>fb
variable {x:V} {u:Â}
def RelV.abs(r:RelV x u):absV u=eZ x:=by
 cases x with
 |non=>cases r;rfl
 |bl _=>cases r;rfl
 |int _=>let⟨t,rfl⟩:=r;rfl
 |str _=>let⟨t,rfl⟩:=r;rfl
 |byt _=>let⟨t,rfl⟩:=r;rfl
 |flt _=>let⟨t,rfl⟩:=r;rfl
 |ref _=>cases r;rfl
 |ty _=>cases r;rfl
def RelV.inj{y:V}(r:RelV x u)(q:RelV y u):x=y:=ï (r.abs.symm.trans q.abs)
def gw.inj:∀{xs ys:List V}{us:List Â},gw xs us->gw ys us->xs=ys
 |_,_,_,.nil,.nil=>rfl
 |_,_,_,.cons r t,.cons r' t'=>by rw[r.inj r',gw.inj t t']
section
variable {X:Cx}{Á:List (Ë×Obj)}{σ:St}{H:Hp}{s:Ä}{a:Ë}{xs ys:List V}
def gp.of{K:Frag}(h:H a=eZ (.lst xs)):gp K H a xs:=.inl (.inl h)
def gq.of{K:Frag}(h:H a=eZ (.tup xs)):gq K H a xs:=.inl (.inl h)
def Inv.list(I:Inv X Á σ H s)(h:gp X.K H a xs):∃ô:List Â,gw xs ô/\PlainL s.heap a ô.toArray/\xs.length<=Ö:=by
 rcases h with h|⟨o,ô,n,hk,hc,hd,hs,hz,r⟩
 .obtain⟨z,ô,n,r,e⟩:=h.ok I.hok;exact⟨ô,r,⟨_,n,e,rfl,rfl,rfl⟩,z⟩
 .refine⟨ô.toList,r,⟨o,n,I.kIn a o hk,hc,hd,⇑hs⟩,?_⟩;have e:=r.length;simp only[ñ]at e;lia
def Inv.tuple(I:Inv X Á σ H s)(h:gq X.K H a xs):∃ô:List Â,gw xs ô/\a8 s.heap a ô.toArray/\xs.length<=Ö:=by
 rcases h with h|⟨o,ô,n,hk,hc,hs,hz,r⟩
 .obtain⟨z,ô,r,p⟩:=h.ok I.hok;exact⟨ô,r,p,z⟩
 .refine⟨ô.toList,r,⟨o,I.kIn a o hk,hc,n,⇑hs⟩,?_⟩;have e:=r.length;simp only[ñ]at e;lia
def Inv.list_inj(I:Inv X Á σ H s)(h:gp X.K H a xs)(h':gp X.K H a ys):xs=ys:=by
 let⟨ô,r,⟨o,n,e,_,_,d⟩,_⟩:=I.list h;let⟨its',r',⟨o',n',e',_,_,d'⟩,_⟩:=I.list h';rw[e]at e';cases e';rw[d]at d';injection d' with d1 _;have:ô=its':=by simpa using congrArg b8 d1
 subst this;exact r.inj r'
def Inv.tuple_inj(I:Inv X Á σ H s)(h:gq X.K H a xs)(h':gq X.K H a ys):xs=ys:=by
 let⟨ô,r,⟨o,e,_,n,d⟩,_⟩:=I.tuple h;let⟨its',r',⟨o',e',_,n',d'⟩,_⟩:=I.tuple h';rw[e]at e';cases e';rw[d]at d';injection d' with d1 _;have:ô=its':=by simpa using congrArg b8 d1
 subst this;exact r.inj r'
end
noncomputable abbrev Cx.wish(X:Cx)(E:Â->Ä->Prop):Cx:={X with xe:=E}
noncomputable abbrev Cx.nox(X:Cx):Cx:=X.wish λ_ _=>False
variable {X:Cx}
def Cx.Ok.wish(ok:X.Ok)(E:Â->Ä->Prop):(X.wish E).Ok :=
 ⟨ok.mod,ok.kind,ok.glob,ok.blt,ok.above,ok.inj,ok.has,ok.cab,ok.hd,ok.frames,ok.stk,ok.exf,ok.bs,ok.bsz,ok.noex,ok.exfs,ok.funs,ok.frf⟩
def Cx.Ok.unwish{E:Â->Ä->Prop}(ok:(X.wish E).Ok):X.Ok :=
 ⟨ok.mod,ok.kind,ok.glob,ok.blt,ok.above,ok.inj,ok.has,ok.cab,ok.hd,ok.frames,ok.stk,ok.exf,ok.bs,ok.bsz,ok.noex,ok.exfs,ok.funs,ok.frf⟩
section
variable {X:Cx}{Á:List (Ë×Obj)}{σ:St}{H:Hp}{s:Ä}{E:Â->Ä->Prop}
def Inv.wish(I:Inv X Á σ H s)(E:Â->Ä->Prop):Inv (X.wish E) Á σ H s:=⟨I.ok.wish E,I.os,I.bare,I.base,I.loc,I.cell,I.free,I.freeC,I.pin,I.hok,I.len⟩
def Inv.unwish(I:Inv (X.wish E) Á σ H s):Inv X Á σ H s:=⟨I.ok.unwish,I.os,I.bare,I.base,I.loc,I.cell,I.free,I.freeC,I.pin,I.hok,I.len⟩
end
section
variable {X:Cx}{st:Į}{rest:List Į}{t u:TS}{e:Expr}{te:TE}{ç:Pos}
abbrev R3:TS:=λD σ H=>D.nx σ H
abbrev SM(t u:TS):TS:=λD σ H=>t {D with nx:=u D} σ H
def pss_nil:PSs X [] R3:=λ_ _ σ H _ I h=>ź ⟨σ,H,I,h⟩
def Dg(h1:PS X st t)(h2:PSs X rest u):PSs X (st::rest)<|SM t u:=by
 intro Á s σ H D I h;refine bG<|thn (h1 Á s σ H {D with nx:=u D} I h) λf s1 q=>?_;cases f with
 |next =>let⟨Ū,H',I',q⟩:=q;exact h2 Á s1 Ū H' D I' q
 |ret v=>exact q
 |brk=>exact q
 |cont=>exact q
def Inv.quiet{Á:List (Ë×Obj)}{σ:St}{H:Hp}{s:Ä}(I:Inv X Á σ H s):interactive X.env=fe:=by simp[interactive,I.ok.kind]
abbrev RL(te:TE):TS:=λD σ H=>te σ H λ_ H1=>D.nx σ H1
def F1(he:PE X e te)(hs:Ţ e fb ç.line X.env=pure fe:=by rfl):PS X (.Expr e ç)<|RL te:=by intro Á s σ H D I h;exact wpAny_Expr_any (thn (he Á s σ H _ I h) λv s1 ⟨x,H1,I1,r1,q1⟩=>⟨σ,H1,I1,q1⟩) I.quiet hs
abbrev S4(te:TE):TS:=λD σ H=>te σ H D.rt
def IZ(he:PE X e te):PS X (.Return (eZ e) ç)<|S4 te:=by intro Á s σ H D I h;exact wpAny_Return_some (thn (he Á s σ H _ I h) λv s1 ⟨x,H1,I1,r1,q1⟩=>⟨x,σ,H1,I1,r1,q1⟩)
abbrev RC:TS:=λD _ H=>D.rt .non H
def ps_retN:PS X (.Return fb ç) RC:=λ_ _ σ H _ I h=>wpAny_Return_none ⟨.non,σ,H,I,rfl,h⟩
abbrev Sh(c:TT)(t u:TS):TS:=λD σ H=>c σ H λb H1=>if b=fc then t D σ H1 else u D σ H1
def Qx{c:Expr}{a b:List Į}{tc:TT}(hc:PT X c tc)(ha:PSs X a t)(hb:PSs X b u):PS X (.If c a b ç)<|Sh tc t u:=by
 intro Á s σ H D I h;refine wpAny_If<|thn (hc Á s σ H _ I h) λd s1 ⟨H1,I1,q1⟩=>?_;cases d with
 |true=>exact ha Á s1 σ H1 D I1 q1
 |false=>exact hb Á s1 σ H1 D I1 q1
end
noncomputable abbrev TG:=V->St->Hp->(St->Hp->Prop)->Prop
noncomputable abbrev TGs:=List V->St->Hp->(St->Hp->Prop)->Prop
abbrev PG(X:Cx)(aq:Expr)(t:TG):Prop :=
 ∀(Á:List<|Ë×Obj) (s:Ä) (σ:St) (H:Hp) (v:V) (u:Â) (Q:St->Hp->Prop),Inv X Á σ H s->RelV v u->t v σ H Q->
  wpAny (Õ X.prog X.w) X.A (π aq X.env u) (λ_ s'=>∃Ū H',Inv X Á Ū H' s'/\Q Ū H') X.xe s
abbrev PGs(X:Cx)(ts:List Expr)(t:TGs):Prop :=
 ∀(Á:List<|Ë×Obj) (s:Ä) (σ:St) (H:Hp) (vs:List V) (us:List Â) (Q:St->Hp->Prop),Inv X Á σ H s->gw vs us->t vs σ H Q->
  wpAny (Õ X.prog X.w) X.A (assignInOrder ((Ğ ts X.env).map (·.2)) us) (λ_ s'=>∃Ū H',Inv X Á Ū H' s'/\Q Ū H') X.xe s
noncomputable abbrev C9:=V->V->V->Hp->(Hp->Prop)->Prop
abbrev PSet(X:Cx)(t:C9):Prop :=
 ∀(Á:List<|Ë×Obj) (s:Ä) (σ:St) (H:Hp) (o i v:V) (ov iv u:Â) (Q:Hp->Prop),Inv X Á σ H s->RelV o ov->RelV i iv->RelV v u->t o i v H Q->
  wpAny (Õ X.prog X.w) X.A (bb ov iv u) (λ_ s'=>∃H',Inv X Á σ H' s'/\Q H') X.xe s
noncomputable abbrev TIp:=V->V->Hp->VK->Prop
abbrev PIp(X:Cx)(op:ϡ)(t:TIp):Prop :=
 ∀(Á:List<|Ë×Obj) (s:Ä) (σ:St) (H:Hp) (x y:V) (v u:Â) (Q:VK),Inv X Á σ H s->RelV x v->RelV y u->t x y H Q->
  wpAny (Õ X.prog X.w) X.A (inplaceOp op v u) (EP X Á σ Q) X.xe s
section
variable {X:Cx}{ç:Pos}
abbrev HJ(i:Nat):TG:=λv σ H Q=>Q (σ.set i<|eZ v) H
def Uv{i:Nat}{x:Str}(hN:X.N.Nodup)(hi:X.N[i]?=eZ x)(hx:Loc X.env.scope x)(hf:X.fn x=fc\/X.env.scope.names.lookup x=eZ .local:=by first|exact .inl rfl|exact .inr rfl|assumption):PG X (.Name x ç)<|HJ i:=by intro Á s σ H v u Q I r h;exact wpAny_assign_Name (Kh I hN hi hx r (λs' I'=>⟨_,H,I',h⟩) hf)
abbrev ST:TGs:=λvs σ H Q=>vs=[]/\Q σ H
abbrev RP(t:TG)(u:TGs):TGs:=λvs σ H Q=>∃v r,vs=v::r/\t v σ H λŪ H'=>u r Ū H' Q
def pgs_nil:PGs X [] ST:=by intro Á s σ H vs us Q I r h;let⟨e,h⟩:=h;subst e;cases r;exact assignInOrder_nil ⟨σ,H,I,h⟩
variable {e:Expr} {es:List Expr}
def Jn{t:TG}{u:TGs}(h1:PG X e t)(h2:PGs X es u)
  (hs:(Ğ (e::es) X.env).map (·.2)=π e X.env::(Ğ es X.env).map (·.2):=by rfl):PGs X (e::es)<|RP t u:=by
 intro Á s σ H vs us Q I r h;let⟨v,vr,e1,h⟩:=h;subst e1;cases r with
 |cons r rr =>rw[hs];refine assignInOrder_cons<|thn (h1 Á s σ H _ _ _ I r h) λ_ s1 ⟨σ1,H1,I1,q1⟩=>?_;exact h2 Á s1 σ1 H1 _ _ Q I1 rr q1
abbrev S8(K:Frag)(n:Nat)(t:TGs):TG:=λv σ H Q=>∃a xs,v=.ref a/\gq K H a xs/\xs.length=n/\t xs σ H Q
def Cb{k:Nat}{t:TGs}{n:Nat}(hc:X.calm=fc)(h:PGs X es t)
  (hn:(Ğ es X.env).length=n:=by rfl) (ō:(Ğ es X.env).findIdx? (·.1)=fb:=by rfl):PG X (.Tuple es k ç)<|S8 X.K n t:=by
 intro Á s σ H v u Q I r hw;let⟨a,xs,e1,hq,hl,hw⟩:=hw;subst e1;cases r;let⟨ô,rv,ht,hz⟩:=I.tuple hq;refine assign_Tuple_tuple (I.ok.hd hc) ht (by simp[hn,<-hl,rv.length]) ō λh' hx=>?_;have I1:Inv X Á σ H {s with heap:=h'}:=I.kept (t':=s.toks) λb o e=>hx b o (æ<|Ô e) e;exact h Á _ σ H xs _ Q I1 ⇑rv hw
abbrev Qi(to ti:TE)(t:C9):TG:=λv σ H Q=>to σ H λo H1=>ti σ H1 λi H2=>t o i v H2 λH3=>Q σ H3
variable {o:Expr} {i:Expr} {to:TE} {ti:TE}
def IH{t:C9}(ho:PE X o to)(hi:PE X i ti)(hs:PSet X t)
  (ha:∀v,π (.Subscript o i ç) X.env v=(do
    let ov<-Ŋ [v] (eval o X.env)
    let iv<-Ŋ [v,ov] (eval i X.env)
    ψ ç
    Ŋ [v,ov,iv] (bb ov iv v)
    eB [v,ov,iv] []):=by intro _;rfl):PG X (.Subscript o i ç)<|Qi to ti t:=by
 intro Á s σ H v u Q I r h;rw[ha];refine À<|Ě<|thn (ho Á s σ H _ I h) λov s1 ⟨x,H1,I1,r1,q1⟩=>?_;refine À<|Ě<|thn (hi Á s1 σ H1 _ I1 q1) λiv s2 ⟨y,H2,I2,r2,q2⟩=>?_;refine À<|du<|À<|Ě<|thn (hs Á s2 σ H2 x y v ov iv u _ I2 r1 r2 r q2) λ_ s3 ⟨H3,I3,q3⟩=>?_;exact wpAny_release ⟨σ,H3,I3,q3⟩
abbrev Qy(te:TE)(g:TG):TS:=λD σ H=>te σ H λx H1=>g x σ H1 D.nx
variable {te:TE}
def Ef{tg:Expr}{g:TG}(he:PE X e te)(hg:PG X tg g)(hs:Ϙ [tg] e ç.line X.env=pure fe:=by rfl)(hw:ϙ [tg] e X.env=pure fb:=by rfl)
  (h1:(Ğ [tg] X.env).map (·.2)=[π tg X.env]:=by rfl):PS X (.Assign [tg] e ç)<|Qy te g:=by
 intro Á s σ H D I h;refine wpAny_Assign_stores (thn (he Á s σ H _ I h) λv s1 ⟨x,H1,I1,r1,q1⟩=>?_) hs hw;rw[h1];exact thn (hg Á s1 σ H1 x v _ I1 r1 q1) λ_ s2 q=>q
abbrev Qn(to ti te:TE)(tget:V->V->Hp->VK->Prop)(tip:TIp)(tset:C9):TS:=λD σ H=>to σ H λo H1=>ti σ H1 λi H2=>tget o i H2 λx H3=>te σ H3 λy H4=>tip x y H4 λz H5=>tset o i z H5 λH6=>D.nx σ H6
abbrev PGet(X:Cx)(t:V->V->Hp->VK->Prop):Prop :=
 ∀(Á:List<|Ë×Obj) (s:Ä) (σ:St) (H:Hp) (o i:V) (ov iv:Â) (Q:VK),Inv X Á σ H s->RelV o ov->RelV i iv->t o i H Q->
  wpAny (Õ X.prog X.w) X.A (ϧ ov iv) (EP X Á σ Q) X.xe s
def FU{tget:V->V->Hp->VK->Prop}{tip:TIp}{tset:C9}{op:ϡ}{cU:Pos}(ho:PE X o to)(hi:PE X i ti)(hg:PGet X tget)(he:PE X e te)(hp:PIp X op tip)(hs:PSet X tset)
  (ha:∀ov iv new,augStore i ov iv new=(do Ŋ [new,ov,iv] (bb ov iv new);eB [new,ov,iv] [];pure .next):=by intros;rfl):PS X (.AugAssign (.Subscript o i cU) op e ç)<|Qn to ti te tget tip tset:=by
 intro Á s σ H D I h;refine wpAny_AugAssign_SubscriptAny (thn (ho Á s σ H _ I h) λov s1 ⟨x1,H1,I1,r1,q1⟩=>?_) ha;refine thn (hi Á s1 σ H1 _ I1 q1) λiv s2 ⟨x2,H2,I2,r2,q2⟩=>?_;refine thn (hg Á s2 σ H2 x1 x2 ov iv _ I2 r1 r2 q2) λϴ s3 ⟨x3,H3,I3,r3,q3⟩=>?_;refine thn (he Á s3 σ H3 _ I3 q3) λv s4 ⟨x4,H4,I4,r4,q4⟩=>?_;refine thn (hp Á s4 σ H4 x3 x4 ϴ v _ I4 r3 r4 q4) λnew s5 ⟨x5,H5,I5,r5,q5⟩=>?_;exact thn (hs Á s5 σ H5 x1 x2 x5 ov iv new _ I5 r1 r2 r5 q5) λ_ s6 ⟨H6,I6,q6⟩=>⟨σ,H6,I6,q6⟩
end
structure It where
 go:Nat->Hp->Prop
 yld:Nat->Hp->V->Hp->Prop
 stop:Nat->Hp->Prop
abbrev WJ(X:Cx)(Á:List<|Ë×Obj)(H:Hp)(b:Ë):Prop :=
 H b=fb/\b≠X.env.locals/\b∉X.fs/\(b∈X.ex\/X.s₀.heap.objs.size<=b)/\(∀x c,X.env.cells.lookup x=eZ c->c≠b)/\∀p∈X.pn++Á,p.1≠b
variable {s:Ä}
def Inv.fpOk{Á:List (Ë×Obj)}{σ:St}{H H':Hp}{b:Ë}(I:Inv X Á σ H s)(hb:s.heap.objs.size<=b)(hn:H' b=fb):WJ X Á H' b:=by
 refine⟨hn,ũ<|á I.lt hb,I.nofs hb,.inr<|Ý I.sz hb,λx c e z=>?_,λp hp z=>?_⟩
 .obtain⟨v,q⟩:=I.cell x c e;exact gM (á q.lt<|by rw[z];exact hb)<|Ĥ _
 .exact gM (á (Ô (I.pin p hp).1)<|by rw[z];exact hb)<|Ĥ _
structure Turn(P:ä)(w:ö)(K:Frag)(tg:Expr)(J:It)(fp:List Ë)(it:Ë)(tn:Nat->Ć->Prop):Prop where
 mem:it∈fp
 obj:∀i h,tn i h->∀b∈fp,∃o,h.get? b=eZ o/\∀v,o.data≠.cell v
 keep:∀i h h',tn i h->(∀b∈fp,∀o,h.get? b=eZ o->h'.get? b=eZ o)->tn i h'
 item:∀(X:Cx),X.prog=P->X.w=w->X.K=K->X.calm=fc->∀(i:Nat) (Á:List<|Ë×Obj) (s:Ä) (σ:St) (H:Hp) (E:Â->Ä->Prop),Inv X Á σ H s->(∀b∈fp,WJ X Á H b)->tn i s.heap->J.go i H->
  wpAny (Õ P w) X.A (Ϛ<|.ref it) (λr s1=>∃u,r=eZ u/\
    wpAny (Õ P w) X.A (ϰ tg (.ref it) u) (λ_ s2=>∃x H',Inv X Á σ H' s2/\RelV x u/\J.yld i H x H'/\tn (i+1) s2.heap/\∀b∈fp,H' b=fb) E s1) E s
 done:∀(X:Cx),X.prog=P->X.w=w->X.K=K->X.calm=fc->∀(i:Nat) (Á:List<|Ë×Obj) (s:Ä) (σ:St) (H:Hp) (E:Â->Ä->Prop),Inv X Á σ H s->(∀b∈fp,WJ X Á H b)->tn i s.heap->J.stop i H->
  wpAny (Õ P w) X.A (Ϛ<|.ref it) (λr s1=>r=fb/\Inv X Á σ H s1) E s
 self:∀(A:ĉ) (i:Nat) (s:Ä) (Q:Â->Ä->Prop) (E:Â->Ä->Prop),tn i s.heap->Q (.ref it) s->wpAny (Õ P w) A (eC<|.ref it) Q E s
noncomputable abbrev TI:=St->Hp->(It->Hp->Prop)->Prop
abbrev PIE(X:Cx)(Á:List<|Ë×Obj)(σ:St)(tg:Expr)(R:It->Hp->Prop)(itv:Â)(s2:Ä):Prop :=
 ∃(it:Ë) (fp:List Ë) (tn:Nat->Ć->Prop) (J:It) (H':Hp),itv=.ref it/\Inv X Á σ H' s2/\Turn X.prog X.w X.K tg J fp it tn/\tn 0 s2.heap/\(∀b∈fp,WJ X Á H' b)/\R J H'
abbrev PI(X:Cx)(tg Ŷ:Expr)(wi:TI):Prop :=
 ∀(Á:List<|Ë×Obj) (s:Ä) (σ:St) (H:Hp) (R:It->Hp->Prop),Inv X Á σ H s->wi σ H R->
  wpAny (Õ X.prog X.w) X.A (eval Ŷ X.env) (λv s1=>wpAny (Õ X.prog X.w) X.A (eC v) (PIE X Á σ tg R) X.xe s1) X.xe s
variable {tg:Expr}
def fk{M:dO}{A:ĉ}{E:Â->Ä->Prop}{it:Ë}{o:Obj}{n:String}{vs:Array Â}{Q:Unit->Ä->Prop}(ho:s.heap.get? it=eZ o)(hc:o.cls=.type n)(hd:o.data=.fields vs)
  (hn:["enumerate","zip","dict_itemiterator","dict_reverseitemiterator","odict_iterator","itertools.zip_longest","itertools.pairwise"].contains n=fe) (hQ:Q () s):wpAny M A (ϰ tg (.ref it) u) Q E s:=by
 unfold ϰ;cases tg<;>first
  |exact Æ hQ
  | (cases u<;>first
      |exact Æ hQ
      | (refine À (wpAny_load ho ?_)
         rw[hc,hd]
         show wpAny M A (if(["enumerate","zip","dict_itemiterator","dict_reverseitemiterator","odict_iterator","itertools.zip_longest","itertools.pairwise"].contains n&&vs[0]? == eZ (Ī _))=fc then _ else _) Q E s
         rw[gH<|by intro h;rw[hn,Δ]at h;cases h]
         exact Æ hQ))
abbrev Itl(K:Frag)(a:Ë):It :=
 ⟨λi H=>∃xs x,gp K H a xs/\xs[i]?=eZ x,λi H x H'=>H'=H/\∀xs,gp K H a xs->xs[i]?=eZ x,λi H=>∃xs,gp K H a xs/\xs.length<=i⟩
abbrev Itt(K:Frag)(a:Ë):It :=
 ⟨λi H=>∃xs x,gq K H a xs/\xs[i]?=eZ x,λi H x H'=>H'=H/\∀xs,gq K H a xs->xs[i]?=eZ x,λi H=>∃xs,gq K H a xs/\xs.length<=i⟩
abbrev Itr(lo:Int)(n:Nat):It:=⟨λi _=>i<n,λi H x H'=>H'=H/\x=.int (lo+i),λi _=>n<=i⟩
variable {P:ä} {w:ö}
def Bg{K:Frag}(a it:Ë):Turn P w K tg (Itl K a) [it] it (λi h=>h.IsListIter it a i) where
 mem:=by simp
 obj:=λi h st b hb=>by
  have e:b=it:=⇑hb
  subst e;let⟨o,e,c,d⟩:=st;exact⟨o,e,λv z=>by rw[d]at z;cases z⟩
 keep:=λi h h' st k=>st.at λo e=>k it (by simp) o e
 item:=by intro X hP hw hK hc i Á s σ H E I hf st hg;subst hP hw hK;let⟨xs,x,hq,hx⟩:=hg;let⟨ô,rv,p,hz⟩:=I.list hq;let⟨u,hu,ru⟩:=rv.get hx;let⟨f0,f1,f2,f3,f4,f5⟩:=hf it (by simp);refine wpAny_pyNext_list_item st p.isList (x:=u) ⇑hu λh' d9 sb=>?_;have I1:Inv X Á σ H {s with heap:=h'}:=I.turned (t':=s.toks) (λb o hb e=>(sb.2 b hb).trans e) f0 f1 f3 f4 f5;let⟨o,e,c,d⟩:=id d9;exact⟨u,rfl,fk (s:={s with heap:=h'}) e c d (by decide) ⟨x,H,I1,ru,⟨rfl,λys hy=>by rw[I.list_inj hy hq];exact hx⟩,d9,λb hb=>(hf b hb).1⟩⟩
 done:=by intro X hP hw hK hc i Á s σ H E I hf st hg;subst hP hw hK;let⟨xs,hq,hx⟩:=hg;let⟨ô,rv,p,hz⟩:=I.list hq;let⟨f0,f1,f2,f3,f4,f5⟩:=hf it (by simp);have hl:=rv.length;exact wpAny_pyNext_list_end (I.ok.hd hc) st p.isList (by simp;lia) λh' eb=>⟨rfl,I.turned (t':=s.toks) (λb o hb e=>eb b o hb e) f0 f1 f3 f4 f5⟩
 self:=λ_ _ _ _ _ st h=>wpAny_pyIter_listiter st h
def Um{K:Frag}(a it:Ë):Turn P w K tg (Itt K a) [it] it (λi h=>h.IsTupleIter it a i) where
 mem:=by simp
 obj:=λi h st b hb=>by
  have e:b=it:=⇑hb
  subst e;let⟨o,e,c,d⟩:=st;exact⟨o,e,λv z=>by rw[d]at z;cases z⟩
 keep:=λi h h' st k=>st.at λo e=>k it (by simp) o e
 item:=by intro X hP hw hK hc i Á s σ H E I hf st hg;subst hP hw hK;let⟨xs,x,hq,hx⟩:=hg;let⟨ô,rv,p,hz⟩:=I.tuple hq;let⟨u,hu,ru⟩:=rv.get hx;let⟨f0,f1,f2,f3,f4,f5⟩:=hf it (by simp);refine wpAny_pyNext_tuple_item st (show s.heap.IsTuple a ô.toArray from p) (x:=u) ⇑hu λh' d9 sb=>?_;have I1:Inv X Á σ H {s with heap:=h'}:=I.turned (t':=s.toks) (λb o hb e=>(sb.2 b hb).trans e) f0 f1 f3 f4 f5;let⟨o,e,c,d⟩:=id d9;exact⟨u,rfl,fk (s:={s with heap:=h'}) e c d (by decide) ⟨x,H,I1,ru,⟨rfl,λys hy=>by rw[I.tuple_inj hy hq];exact hx⟩,d9,λb hb=>(hf b hb).1⟩⟩
 done:=by intro X hP hw hK hc i Á s σ H E I hf st hg;subst hP hw hK;let⟨xs,hq,hx⟩:=hg;let⟨ô,rv,p,hz⟩:=I.tuple hq;let⟨f0,f1,f2,f3,f4,f5⟩:=hf it (by simp);have hl:=rv.length;exact wpAny_pyNext_tuple_end (I.ok.hd hc) st (show s.heap.IsTuple a ô.toArray from p) (by simp;lia) λh' eb=>⟨rfl,I.turned (t':=s.toks) (λb o hb e=>eb b o hb e) f0 f1 f3 f4 f5⟩
 self:=λ_ _ _ _ _ st h=>wpAny_pyIter_tupleiter st h
def Ue{K:Frag}(it:Ë)(lo:Int)(n:Nat):Turn P w K tg (Itr lo n) [it] it (λi h=>IsRangeIter h it (lo+(i:Nat)*1) ((n:Int) - (i:Nat)) 1) where
 mem:=by simp
 obj:=λi h st b hb=>by
  have e:b=it:=⇑hb
  subst e;exact⟨_,st,λv z=>by
    have z':Data.fields _=Data.cell v:=z
    cases z'⟩
 keep:=λi h h' st k=>k it (by simp) _ st
 item:=by intro X hP hw hK hc i Á s σ H E I hf st hg;subst hP hw hK;let⟨f0,f1,f2,f3,f4,f5⟩:=hf it (by simp);have W:=Walks.range (prog:=X.prog) (w:=X.w) (I.ok.hd hc) it lo 1 n;refine W.item i s _ _ hg st λv h' tk hv d9 kk=>?_;let⟨t,rfl⟩:=hv;have I1:Inv X Á σ H {s with heap:=h',toks:=tk}:=I.turned (λb o hb e=>kk b o ⇑hb e) f0 f1 f3 f4 f5;refine⟨_,rfl,fk (s:={s with heap:=h',toks:=tk}) (n:="range_iterator") d9 rfl rfl (by decide) ⟨.int<|lo+i,H,I1,⟨t,?_⟩,⟨rfl,rfl⟩,d9,λb hb=>(hf b hb).1⟩⟩;rw[Int.mul_one]
 done:=by intro X hP hw hK hc i Á s σ H E I hf st hg;subst hP hw hK;let⟨f0,f1,f2,f3,f4,f5⟩:=hf it (by simp);exact wpAny_pyNext_range_end (I.ok.hd hc) st (by have:n<=i:=hg;lia) λh' eb=>⟨rfl,I.turned (t':=s.toks) (λb o hb e=>eb b o hb e) f0 f1 f3 f4 f5⟩
 self:=λ_ _ _ _ _ st h=>wpAny_pyIter_rangeiter st h
section
variable {X:Cx}{tg:Expr}
variable {Á:List (Ë×Obj)} {σ:St} {H:Hp} {s:Ä}
def Dp{R:It->Hp->Prop}{E:Â->Ä->Prop}{lo hi:Int}{t u v:Tok}{tk:Nat}(I:Inv X Á σ H s)(h1:-(2 ^ 62)<=lo)(h2:lo<2 ^ 62)(h3:-(2 ^ 62)<=hi)(h4:hi<2 ^ 62)
  (q:R (Itr lo (hi - lo).toNat) H):wpAny (Õ X.prog X.w) X.A (eC<|.ref s.heap.objs.size) (PIE X Á σ tg R) E {s with heap:=s.heap.push {cls:=.type "range",data:=.fields #[.int lo t,.int hi u,.int 1 v]},toks:=tk}:=by
 refine wpAny_pyIter_range (IsRange.new ..) (small_one h1 h2 h3 h4) ?_;have I1:Inv X Á σ H { s with heap:=s.heap.push { cls:=.type "range",data:=.fields #[.int lo t,.int hi u,.int 1 v] },toks:=tk }:=I.kept λb o e=>Å _ e;refine⟨(s.heap.push { cls:=.type "range",data:=.fields #[.int lo t,.int hi u,.int 1 v] }).objs.size,[(s.heap.push { cls:=.type "range",data:=.fields #[.int lo t,.int hi u,.int 1 v] }).objs.size],_,_,H,rfl,
   I1.kept (t':=tk) λb o e=>Å _ e,Ue _ lo (hi - lo).toNat,?_,λb hb=>?_,q⟩
 .have e1:lo+((0:Nat):Int)*1=lo:=by simp
  have e2:(((hi - lo).toNat:Nat):Int) - ((0:Nat):Int)=Builtin.Range.rangeSize lo hi 1:=by rw[rangeSize_one];split<;>lia
  show IsRangeIter _ _ (lo+((0:Nat):Int)*1) ((((hi - lo).toNat:Nat):Int) - ((0:Nat):Int)) 1;rw[e1,e2];exact Ò _ rfl
 .have e:b=(s.heap.push {cls:=.type "range",data:=.fields #[.int lo t,.int hi u,.int 1 v]}).objs.size:=⇑hb
  subst e;exact I1.fpOk (Ñ _)<|I1.hok.fresh<|Ñ _
abbrev Ro(ta:TA):TI:=λσ H R=>ta σ H λvs H1=>∃j:Int,vs=[.int j]/\-(2 ^ 62)<=j/\j<2 ^ 62/\R (Itr 0 j.toNat) H1
variable {ç:Pos}
def AD{a:Expr}{ta:TA}{p:Pos}(hg:Gl X "range")(hm:X.mg "range" = fb)(ha:PA X [a] ta)(hs:Ï [a] X.env=[(fe,eval a X.env)]:=by rfl):PI X tg (.Call (.Name "range" p) [a] [] ç)<|Ro ta:=by
 intro Á s σ H R I h;refine Call_<|Xp I hg hm boot_range<|PyProof.Rows.callWith_type1 (thn (ha ç Á s σ H _ I h) λus s1 ⟨vs,H1,I1,r1,q1⟩=>?_) hs rfl;let⟨j,e,q1,q2,q⟩:=q1;subst e;cases r1 with
 |cons r rr =>cases rr;let⟨t,rfl⟩:=r;exact call_range_1 (Dp I1 (by lia) (by lia) q1 q2<|by simpa using q)
abbrev Sw(wi:TI)(g:TG)(tb:TS):TS:=λD σ H=>wi σ H λJ H1=>∃W:Nat->Nat->St->Hp->Prop,(∃m,W 0 m σ H1)/\∀i m σ H,W i m σ H->
 (J.stop i H/\D.nx σ H)\/(J.go i H/\∃N:St->Hp->Prop,(∀Ū H',N Ū H'->∃m',m'<m/\W (i+1) m' Ū H')/\∀x H',J.yld i H x H'->g x σ H' λσ2 H2=>tb {D with nx:=N,ct:=N,bk:=D.nx} σ2 H2)
abbrev XI(fp:List Ë)(h:Ć):List<|Ë×Obj:=fp.filterMap λb=>(h.get? b).map λo=>(b,o)
variable {fp:List Ë} {h:Ć}
def ZV{b:Ë}{o:Obj}(hb:b∈fp)(e:h.get? b=eZ o):(b,o)∈XI fp h:=Ε.mpr ⟨b,hb,by rw[e];rfl⟩
def KW{p:Ë×Obj}(hp:p∈XI fp h):p.1∈fp/\h.get? p.1=eZ p.2:=by
 let⟨b,hb,e⟩:=Ε.mp hp;cases q:h.get? b with
 |none=>rw[q]at e;cases e
 |some o =>rw[q]at e;have e':(b,o)=p:=ï e;subst e';exact⟨hb,q⟩
def Inv.pinned(I:Inv X Á σ H s)(hf:∀b∈fp,WJ X Á H b)(ho:∀b∈fp,∃o,s.heap.get? b=eZ o/\∀v,o.data≠.cell v):Inv X (Á++XI fp s.heap) σ H s :=
 I.pins_of λp hp=>(å.mp hp).elim (λz=>I.pin p<|Ê _ z) λz=>by let⟨hb,e⟩:=KW z;let⟨f0,f1,f2,_⟩:=hf p.1 hb;let⟨o,e',d⟩:=ho p.1 hb;rw[e]at e';cases e';exact⟨e,f0,f1,f2,d⟩
def Inv.unpinned{pl:List (Ë×Obj)}(I:Inv X (Á++pl) σ H s):Inv X Á σ H s:=I.pins_of λp hp=>I.pin p (Ê _<|Ù _ hp)
def C8{Ŷ:Expr}{body:List Į}{wi:TI}{g:TG}{tb:TS}(hp:av (Õ X.prog X.w) X.A X.env X.xe)(hc:X.calm=fc)(hi:PI X tg Ŷ wi)(hg:PG X tg g)(hb:PSs X body tb)
  (hs:∀x,Ę Ŷ X.env x=pure x:=by intro _;rfl):PS X (.For tg Ŷ body [] ç)<|Sw wi g tb:=by
 intro Á s σ H D I h;refine wpAny_For (thn (hi Á s σ H _ I h) λv s1 h1=>thn h1 λitv s2 h2=>?_) hs;let⟨it,fp,tn,J,H2,e,I2,T,st2,f2,W,⟨m0,w0⟩,turn⟩:=h2;subst e;have stat:∀{H':Hp},(∀b∈fp,H' b=fb)->∀b∈fp,WJ X Á H' b:=λhn b hb=>⟨hn b hb,(f2 b hb).2⟩
 refine codeAny_forLoop_any (λn s'=>∃i Ū H',Inv X Á Ū H' s'/\tn i s'.heap/\(∀b∈fp,H' b=fb)/\W i n Ū H') ?_ m0 ⟨0,σ,H2,I2,st2,λb hb=>(f2 b hb).1,w0⟩;rintro n s3 ⟨i,σ3,H3,I3,st3,fr3,w3⟩;rcases turn i n σ3 H3 w3 with⟨stop,qn⟩|⟨go,N,hN,step⟩
 .refine Ι hp<|thn (T.done X rfl rfl rfl hc i Á s3 σ3 H3 X.xe I3 (stat fr3) st3 stop) λr s4 ⟨hr,I4⟩=>?_;subst hr;exact ź ⟨σ3,H3,I4,qn⟩
 .refine Ι hp<|thn (T.item X rfl rfl rfl hc i Á s3 σ3 H3 X.xe I3 (stat fr3) st3 go) λr s4 ⟨u,hr,h4⟩=>?_;subst hr;refine Ι hp<|thn h4 λ_ s5 ⟨x,H5,I5,r5,y5,st5,fr5⟩=>?_;have I5':=I5.pinned (stat fr5)<|T.obj _ _ st5;refine Ι hp<|thn (hg _ s5 σ3 H5 x u _ I5' r5<|step x H5 y5) λ_ s6 ⟨σ6,H6,I6,q6⟩=>?_;refine Ι hp<|thn (hb _ s6 σ6 H6 _ I6 q6) λf s7 q7=>?_;have again:∀{bN:St}{H7:Hp},Inv X (Á++XI fp s5.heap) bN H7 s7->N bN H7->∃m,m<n/\∃i Ū H',Inv X Á Ū H' s7/\tn i s7.heap/\(∀b∈fp,H' b=fb)/\W i m Ū H':=λ{bN H7} I7 n7=>by
   let⟨m',hm,w7⟩:=hN bN H7 n7;refine⟨m',hm,i+1,bN,H7,I7.unpinned,T.keep _ _ _ st5 λb hb o e=>(I7.pin (b,o)<|Ê _<|Ê _<|ZV hb e).1,λb hb=>?_,w7⟩;let⟨o,e,d⟩:=T.obj _ _ st5 b hb;exact(I7.pin (b,o)<|Ê _<|Ê _<|ZV hb e).2.1
  cases f with
  |next=>let⟨bN,H7,I7,n7⟩:=q7;exact again I7 n7
  |cont=>let⟨bN,H7,I7,n7⟩:=q7;exact again I7 n7
  |brk=>let⟨bN,H7,I7,q7⟩:=q7;exact⟨bN,H7,I7.unpinned,q7⟩
  |ret v=>let⟨x7,bN,H7,I7,r7,q7⟩:=q7;exact⟨x7,bN,H7,I7.unpinned,r7,q7⟩
end
noncomputable abbrev R2:=V->V->Hp->VK->Prop
abbrev OpR(X:Cx)(f:Â->Â->Sem Â)(r:R2):Prop :=
 ∀(Á:List<|Ë×Obj) (s:Ä) (σ:St) (H:Hp) (x y:V) (v u:Â) (Q:VK),Inv X Á σ H s->RelV x v->RelV y u->r x y H Q->
  wpAny (Õ X.prog X.w) X.A (f v u) (EP X Á σ Q) X.xe s
abbrev UnR(X:Cx)(f:Â->Sem Â)(r:V->Hp->VK->Prop):Prop :=
 ∀(Á:List<|Ë×Obj) (s:Ä) (σ:St) (H:Hp) (x:V) (v:Â) (Q:VK),Inv X Á σ H s->RelV x v->r x H Q->
  wpAny (Õ X.prog X.w) X.A (f v) (EP X Á σ Q) X.xe s
abbrev fq(X:Cx)(f:Â)(r:List V->Hp->VK->Prop):Prop :=
 ∀(Á:List<|Ë×Obj) (s:Ä) (σ:St) (H:Hp) (xs:List V) (us:List Â) (Q:VK),Inv X Á σ H s->gw xs us->r xs H Q->
  wpAny (Õ X.prog X.w) X.A (call f us) (EP X Á σ Q) X.xe s
abbrev S2(X:Cx)(r:V->Hp->(Bool->Hp->Prop)->Prop):Prop :=
 ∀(Á:List<|Ë×Obj) (s:Ä) (σ:St) (H:Hp) (x:V) (v:Â) (Q:Bool->Hp->Prop),Inv X Á σ H s->RelV x v->r x H Q->
  wpAny (Õ X.prog X.w) X.A (truthy v) (TP X Á σ Q) X.xe s
abbrev tOp(r:R2)(ta tb:TE):TE:=λσ H Q=>ta σ H λx H1=>tb σ H1 λy H2=>r x y H2 Q
abbrev tUn(r:V->Hp->VK->Prop)(ta:TE):TE:=λσ H Q=>ta σ H λx H1=>r x H1 Q
abbrev rI(C:Int->Int->Prop)(g:Int->Int->V):R2:=λx y H Q=>∃i j,x=.int i/\y=.int j/\C i j/\Q (g i j) H
abbrev rI0(g:Int->Int->V):R2:=λx y H Q=>∃i j,x=.int i/\y=.int j/\Q (g i j) H
abbrev rU(g:Int->V):V->Hp->VK->Prop:=λx H Q=>∃i,x=.int i/\Q (g i) H
section
variable {X:Cx}{a b c:Expr}{ta tb tc:TE}{ç:Pos}
variable {f:Â->Â->Sem Â}
def Qb(ha:PE X a ta)(hb:PE X b tb){Á:List (Ë×Obj)}{s:Ä}{σ:St}{H:Hp}{R:V->V->Hp->Prop}(I:Inv X Á σ H s)
  (h:ta σ H λx H1=>tb σ H1 λy H2=>R x y H2){Q:Â->Ä->Prop} 
  (hf:∀v u s2 x y H2,Inv X Á σ H2 s2->RelV x v->RelV y u->R x y H2->wpAny (Õ X.prog X.w) X.A (f v u) Q X.xe s2) :
  wpAny (Õ X.prog X.w) X.A (eval a X.env) (λv ģ=>wpAny (Õ X.prog X.w) X.A (eval b X.env) (λu cg=>wpAny (Õ X.prog X.w) X.A (f v u) Q X.xe cg) X.xe ģ) X.xe s:=by
 refine thn (ha Á s σ H _ I h) λv s1 ⟨x,H1,I1,r1,q1⟩=>?_;refine thn (hb Á s1 σ H1 _ I1 q1) λu s2 ⟨y,H2,I2,r2,q2⟩=>?_;exact hf v u s2 x y H2 I2 r1 r2 q2
def RQ{op:ϡ}{r:R2}(ho:OpR X (Œ op) r)(ha:PE X a ta)(hb:PE X b tb):PE X (.BinOp a op b ç)<|tOp r ta tb:=by intro Á s σ H Q I h;exact wpAny_BinOp (Qb ha hb I h λv u s2 x y H2 I2 rx ry q=>ho Á s2 σ H2 x y v u Q I2 rx ry q)
def Rq{op:UnaryOp}{r:V->Hp->VK->Prop}(ho:UnR X (unaryOp op) r)(ha:PE X a ta):PE X (.UnaryOp op a ç)<|tUn r ta:=by intro Á s σ H Q I h;exact UnaryOp_ (thn (ha Á s σ H _ I h) λv s1 ⟨x,H1,I1,r1,q1⟩=>ho Á s1 σ H1 x v Q I1 r1 q1)
variable {g:Int->Int->Int}
def opI{C:Int->Int->Prop} 
  (rule:∀(i j:Int) (t u:Tok) (s:Ä) (Q:Â->Ä->Prop) (E:Â->Ä->Prop),C i j->Q (.int (g i j) s.toks) {s with toks:=s.toks+1}->wpAny (Õ X.prog X.w) X.A (f (.int i t)<|.int j u) Q E s) :
  OpR X f (rI C λi j=>.int<|g i j):=by
 intro Á s σ H x y v u Q I rx ry h;let⟨i,j,rfl,rfl,hc,q⟩:=h;let⟨t,rfl⟩:=rx;let⟨t',rfl⟩:=ry;exact rule i j t t' s _ _ hc ⟨.int<|g i j,H,I.tok _,⟨_,rfl⟩,q⟩
def Qw  
  (rule:∀(i j:Int) (t u:Tok) (s:Ä) (Q:Â->Ä->Prop) (E:Â->Ä->Prop),Q (.int (g i j) s.toks) {s with toks:=s.toks+1}->wpAny (Õ X.prog X.w) X.A (f (.int i t)<|.int j u) Q E s) :
  OpR X f (rI0 λi j=>.int<|g i j):=by
 intro Á s σ H x y v u Q I rx ry h;let⟨i,j,rfl,rfl,q⟩:=h;let⟨t,rfl⟩:=rx;let⟨t',rfl⟩:=ry;exact rule i j t t' s _ _ ⟨.int<|g i j,H,I.tok _,⟨_,rfl⟩,q⟩
def Ff{g:Int->Int->Bool}
  (rule:∀(i j:Int) (t u:Tok) (s:Ä) (Q:Â->Ä->Prop) (E:Â->Ä->Prop),Q (.bool<|g i j) s->wpAny (Õ X.prog X.w) X.A (f (.int i t)<|.int j u) Q E s) :
  OpR X f (rI0 λi j=>.bl<|g i j):=by
 intro Á s σ H x y v u Q I rx ry h;let⟨i,j,rfl,rfl,q⟩:=h;let⟨t,rfl⟩:=rx;let⟨t',rfl⟩:=ry;exact rule i j t t' s _ _ ⟨.bl<|g i j,H,I,rfl,q⟩
abbrev QB(i j:Int):Prop:=0<j/\j<1073741824
abbrev Qv(i j:Int):Prop:=0<=j/\j<=1000000/\i.natAbs<2 ^ 64
def op_add:OpR X (Œ .Add)<|rI0 λi j=>.int<|i+j:=Qw λ_ _ _ _ _ _ _ q=>add_int q
def PQ:OpR X (Œ .Sub)<|rI0 λi j=>.int<|i - j:=Qw λ_ _ _ _ _ _ _ q=>sub_int q
def GA:OpR X (Œ .FloorDiv)<|rI QB λi j=>.int<|i / j:=opI λi j _ _ _ _ _ hc q=>by have h1:(0:Int)<j:=hc.1;have h2:j<1073741824:=hc.2;exact floordiv_int (by lia) (by rw[Int.fdiv_eq_ediv_of_nonneg i<|by lia];exact q) (.inl<|PyProof.noPylong_small<|by lia)
def PK:OpR X (Œ .Mod)<|rI (λ_ j=>0<j) λi j=>.int<|i % j:=opI λi j _ _ _ _ _ hc q=>by have h1:(0:Int)<j:=hc;exact mod_int' (by lia) (by rw[Int.fmod_eq_emod_of_nonneg i<|by lia];exact q)
def L9:OpR X (Œ .Pow)<|rI Qv λi j=>.int<|i ^ j.toNat:=opI λ_ _ _ _ _ _ _ hc q=>pow_int_small hc.1 hc.2.1 hc.2.2 q
def unI{f:Â->Sem Â}{g:Int->Int}
  (rule:∀(i:Int) (t:Tok) (s:Ä) (Q:Â->Ä->Prop) (E:Â->Ä->Prop),Q (.int (g i) s.toks) {s with toks:=s.toks+1}->wpAny (Õ X.prog X.w) X.A (f<|.int i t) Q E s) :
  UnR X f (rU λi=>.int<|g i):=by
 intro Á s σ H x v Q I rx h;let⟨i,rfl,q⟩:=h;let⟨t,rfl⟩:=rx;exact rule i t s _ _ ⟨.int<|g i,H,I.tok _,⟨_,rfl⟩,q⟩
def IR:UnR X (unaryOp .USub)<|rU λi=>.int (-i):=unI λ_ _ _ _ _ q=>neg_int q
end
section
variable {X:Cx}{a b c:Expr}{ta tb tc:TE}{ç:Pos}
def IN{Á:List (Ë×Obj)}{σ:St}{H:Hp}{s:Ä}{Q:VK}{k k':Bool}(I:Inv X Á σ H s)(q:Q (.bl k) H)(e:k=k'):EP X Á σ Q (.bool k') s:=by subst e;exact⟨.bl k,H,I,rfl,q⟩
def op_lt:OpR X (ì .Lt)<|rI0 λi j=>.bl<|gN (i<j):=Ff λ_ _ _ _ _ _ _ q=>lt_int q
def Qp:OpR X (ì .LtE)<|rI0 λi j=>.bl<|gN (i<=j):=Ff λ_ _ _ _ _ _ _ q=>le_int q
def op_gt:OpR X (ì .Gt)<|rI0 λi j=>.bl<|gN (j<i):=Ff λ_ _ _ _ _ _ _ q=>gt_int q
def Qh:OpR X (ì .GtE)<|rI0 λi j=>.bl<|gN (j<=i):=Ff λ_ _ _ _ _ _ _ q=>ge_int q
def BC:OpR X (ì .In) λx y H Q=>∃i j,x=.str i/\y=.str j/\Q (.bl (!(Builtin.Str.occurrences j i 0 j.length 1).isEmpty)) H:=by intro Á s σ H x y v u Q I rx ry h;let⟨i,j,rfl,rfl,q⟩:=h;let⟨t,rfl⟩:=rx;let⟨t',rfl⟩:=ry;exact in_str (IN I q rfl)
variable {r:R2} {r':R2}
def OpR.or{f:Â->Â->Sem Â}(h:OpR X f r)(h':OpR X f r'):OpR X f λx y H Q=>r x y H Q\/r' x y H Q:=by
 intro Á s σ H x y v u Q I rx ry q;rcases q with q|q
 .exact h Á s σ H x y v u Q I rx ry q
 .exact h' Á s σ H x y v u Q I rx ry q
variable {op:cG}
def U7(ho:OpR X (ì op) r)(ha:PE X a ta)(hb:PE X b tb)(hm:Ņ op b=fe):PE X (.Compare a [op] [b] ç)<|tOp r ta tb:=by intro Á s σ H Q I h;exact wpAny_Compare1 (Qb ha hb I h λv u s2 x y H2 I2 rx ry q=>ho Á s2 σ H2 x y v u Q I2 rx ry q) hm
abbrev H9(t:TE):TT:=λσ H Q=>t σ H λx H'=>∃k,x=.bl k/\Q k H'
def Ak(ho:OpR X (ì op) r)(ha:PE X a ta)(hb:PE X b tb)(hm:Ņ op b=fe):PT X (.Compare a [op] [b] ç)<|H9<|tOp r ta tb:=by
 intro Á s σ H Q I h;refine wpAny_isTrue_Compare1 (thn (ha Á s σ H _ I h) λv s1 ⟨x,H1,I1,r1,q1⟩=>thn (hb Á s1 σ H1 _ I1 q1) λu s2 ⟨y,H2,I2,r2,q2⟩ =>
   thn (ho Á s2 σ H2 x y v u _ I2 r1 r2 q2) λc s3 ⟨z,H3,I3,r3,k,e,q3⟩=>?_) hm
 subst e;cases r3;exact ē ⟨H3,I3,q3⟩
abbrev CL(r r':R2)(ta tb tc:TE):TE:=λσ H Q=>ta σ H λx H1=>tb σ H1 λy H2=>r x y H2 λz H3=>∃k,z=.bl k/\
 (if k=fc then tc σ H3 λw' H4=>r' y w' H4 Q else Q (.bl fe) H3)
variable {dF:cG}
def Di(ho:OpR X (ì op) r)(aF:OpR X (ì dF) r')(ha:PE X a ta)(hb:PE X b tb)(hc:PE X c tc)
  (hm:bH [op,dF] [b,c]=fe:=by with_unfolding_all rfl):PE X (.Compare a [op,dF] [b,c] ç)<|CL r r' ta tb tc:=by
 intro Á s σ H Q I h;refine Compare_chain (thn (ha Á s σ H _ I h) λv s1 ⟨x,H1,I1,r1,q1⟩=>chain_link (thn (hb Á s1 σ H1 _ I1 q1) λu s2 ⟨y,H2,I2,r2,q2⟩ =>
   thn (ho Á s2 σ H2 x y v u _ I2 r1 r2 q2) λd s3 ⟨z,H3,I3,r3,k,e,q3⟩=>?_)) hm
 subst e;cases r3;refine ē ?_;cases k with
 |false=>exact ite_ff ⟨.bl fe,H3,I3,rfl,q3⟩
 |true=>exact ite_tt<|chain_last<|thn (hc Á s3 σ H3 _ I3 q3) λw' s4 ⟨z',H4,I4,r4,q4⟩=>aF Á s4 σ H4 y z' u w' Q I4 r2 r4 q4
def Cv(ho:OpR X (ì op) r)(aF:OpR X (ì dF) r')(ha:PE X a ta)(hb:PE X b tb)(hc:PE X c tc)
  (hm:bH [op,dF] [b,c]=fe:=by with_unfolding_all rfl):PT X (.Compare a [op,dF] [b,c] ç)<|H9<|CL r r' ta tb tc:=by
 intro Á s σ H Q I h;refine isTrue_chain (thn (ha Á s σ H _ I h) λv s1 ⟨x,H1,I1,r1,q1⟩=>test_link (thn (hb Á s1 σ H1 _ I1 q1) λu s2 ⟨y,H2,I2,r2,q2⟩ =>
   thn (ho Á s2 σ H2 x y v u _ I2 r1 r2 q2) λd s3 ⟨z,H3,I3,r3,k,e,q3⟩=>?_)) hm
 subst e;cases r3;refine ē ?_;cases k with
 |false =>let⟨k',e',q'⟩:=q3;cases e';exact ite_ff ⟨H3,I3,q'⟩
 |true =>refine ite_tt<|test_last<|thn (hc Á s3 σ H3 _ I3 q3) λw' s4 ⟨z',H4,I4,r4,q4⟩=>thn (aF Á s4 σ H4 y z' u w' _ I4 r2 r4 q4) λd' s5 ⟨z2,H5,I5,r5,k2,e2,q5⟩=>?_;subst e2;cases r5;exact ē ⟨H5,I5,q5⟩
abbrev Qr(K:Frag)(x:V)(H:Hp)(k:Bool):Prop :=
 match x with
 |.non=>k=fe
 |.bl b=>k=b
 |.int i=>k=(i != 0)
 |.str y=>y.length<=Ö/\k=((y.length:Int) != 0)
 |.byt y=>y.size<=Ö/\k=((y.size:Int) != 0)
 |.ref p=>(∃xs,gp K H p xs/\k=!xs.isEmpty)\/(∃xs,gq K H p xs/\k=!xs.isEmpty)\/∃kvs,H p=eZ (.dK kvs)/\k=!kvs.isEmpty
 |_=>False
def OK{κ:Type}{kvs:List (κ×V)}{vs:List (κ×Â)}(r:KV kvs vs):(!vs.isEmpty)=!kvs.isEmpty:=by cases r<;>rfl
def Kc{xs:List V}{ô:List Â}(r:gw xs ô):(!ô.toArray.isEmpty)=!xs.isEmpty:=by cases r<;>simp
def Xg:(Ö:Nat)<2 ^ 63:=by rw[ae];decide
def Iu:S2 X λx H Q=>∃k,Qr X.K x H k/\Q k H:=by
 intro Á s σ H x v Q I rx h;let⟨k,e,q⟩:=h;have hl:=Xg;have hs:Ö=16777216:=ae;cases x with
 |non =>cases rx;have e':k=fe:=e;subst e';exact truthy_none ⟨H,I,q⟩
 |bl b =>cases rx;have e':k=b:=e;subst e';exact ē ⟨H,I,q⟩
 |int i =>let⟨t,rfl⟩:=rx;have e':k=(i != 0):=e;subst e';exact PySem.P.truthy_int ⟨H,I,q⟩
 |str y =>let⟨t,rfl⟩:=rx;obtain⟨hy,e'⟩:y.length<=Ö/\k=((y.length:Int) != 0):=e;subst e';exact PySem.P.truthy_str (by lia) ⟨H,I.tok _,q⟩
 |byt y =>let⟨t,rfl⟩:=rx;obtain⟨hy,e'⟩:y.size<=Ö/\k=((y.size:Int) != 0):=e;subst e';exact PySem.W.truthy_bytes (by lia) ⟨H,I.tok _,q⟩
 |ref p =>
  cases rx;have e':(∃xs,gp X.K H p xs/\k=!xs.isEmpty)\/(∃xs,gq X.K H p xs/\k=!xs.isEmpty)\/∃kvs,H p=eZ (.dK kvs)/\k=!kvs.isEmpty:=e;rcases e' with⟨xs,hx,e'⟩|⟨xs,hx,e'⟩|⟨kvs,hx,e'⟩
  .subst e';let⟨ô,r,pl,hz⟩:=I.list hx;have hlen:=r.length;exact wpAny_truthy_list pl.isList (by simp only[Ð];lia) ⟨H,I.tok _,by rw[Kc r];exact q⟩
  .subst e';let⟨ô,r,pl,hz⟩:=I.tuple hx;have hlen:=r.length;exact truthy_tuple pl (by simp only[Ð];lia) ⟨H,I.tok _,by rw[Kc r];exact q⟩
  .subst e';obtain⟨hz,hS,vs,r,m⟩:kvs.length<=Ö/\(p==ŝ)=fe/\∃vs,KV kvs vs/\s.heap.DictOf (Ze X.prog X.w) p vs:=I.hok p _ hx;have hlen:kvs.length=vs.length:=Paired.length r;exact wpAny_truthy_dict hS m (by lia) ⟨H,I.tok _,by rw[OK r];exact q⟩
 |_=>exact(show False from e).elim
def EK(ha:PE X a ta)(he:∀aP,cF a X.env aP=(do let v<-aP;ψ a.pos;Ŋ [v] (truthy v))) :
  PT X a (λσ H Q=>ta σ H λx H'=>∃k,Qr X.K x H' k/\Q k H'):=by
 intro Á s σ H Q I h;exact isTrue_plain (thn (ha Á s σ H _ I h) λv s1 ⟨x,H1,I1,r1,q1⟩=>Iu Á s1 σ H1 x v Q I1 r1 q1)<|he _
def OR:OpR X (Œ .Add) λx y H Q=>∃i j,x=.str i/\y=.str j/\i.length+j.length<=Ö/\Q (.str<|i++j) H:=by intro Á s σ H x y v u Q I rx ry h;let⟨i,j,rfl,rfl,hz,q⟩:=h;let⟨t,rfl⟩:=rx;let⟨t',rfl⟩:=ry;exact add_str (λt' tk=>⟨.str<|i++j,H,I.tok _,⟨_,rfl⟩,q⟩) hz
variable {x:V} {us:List Â}
def Yv(r:gw [x] us):∃u,us=[u]/\RelV x u:=by
 cases r with
 |cons r1 r2=>cases r2;exact⟨_,rfl,r1⟩
def Ma{y:V}(r:gw [x,y] us):∃u w',us=[u,w']/\RelV x u/\RelV y w':=by
 cases r with
 |cons r1 r2 =>
  cases r2 with
  |cons r3 r4=>cases r4;exact⟨_,_,rfl,r1,r3⟩
def Bq(hc:X.calm=fc):fq X (.builtin "max") λxs H Q=>∃i j,xs=[.int i,.int j]/\Q (.int<|if j > i then j else i) H:=by
 intro Á s σ H xs us Q I r h;let⟨i,j,rfl,q⟩:=h;let⟨u,w',rfl,⟨t,rfl⟩,⟨t',rfl⟩⟩:=Ma r;refine max_two_ints (I.ok.hd hc) λh' tk k=>⟨_,H,I.kept k,?_,q⟩
 by_cases hj:j > i
 .rw[gG hj,gG hj];exact⟨_,rfl⟩
 .rw[gH hj,gH hj];exact⟨_,rfl⟩
def call_str_int:fq X (.type "str") λxs H Q=>∃i,xs=[.int i]/\i.natAbs.log2<1920/\Q (.str<|toString i) H:=by intro Á s σ H xs us Q I r h;let⟨i,rfl,hz,q⟩:=h;let⟨u,rfl,t,rfl⟩:=Yv r;exact PySem.P.str_of_int hz ⟨.str _,H,I.tok _,⟨_,rfl⟩,q⟩
end
structure ObjM(h:Ć)(x dx C:Ë)(mA:Str->Option Â):Prop where
 obj:h.get? x=eZ (PySem.W.instObj C dx)
 ns:h.Ns1 dx mA
 ne:dx≠x
variable {h:Ć} {dx:Ë} {mA:Str->Option Â}
def AS(n:h.Ns1 dx mA):∃od,h.get? dx=eZ od/\∀name,PySem.W.lookIn name od=eZ (mA name):=by
 let⟨o,es,ep,ho,hd,hk,_,hm⟩:=n;refine⟨o,ho,λname=>?_⟩;have e:=hm name;unfold nsFind findBy at e;rw[<-Array.find?_toList]at e;unfold PySem.W.lookIn;rw[hd];dsimp only;split
 .rename_i y q;rw[q]at e;exact congrArg eZ e
 .rename_i q;rw[q]at e;have a:es.toList.any (·.refKey)=fe:=by
   rw[List.any_eq_false];intro y hy;let⟨z,t,hkey⟩:=hk y<|Array.mem_toList_iff.mp hy;simp[DictEntry.refKey,hkey]
  have a':¬ es.toList.any (·.refKey)=fc:=by rw[a];exact ā
  rw[gH a'];exact congrArg eZ e
variable {C:Ë}
def ObjM.look{x:Ë}(I:ObjM h x dx C mA):∃od,PySem.W.InstAt h x (PySem.W.instObj C dx) C (eZ od)/\∀name,PySem.W.lookIn name od=eZ (mA name) :=
 let ⟨od,ho,hl⟩:=AS I.ns
 ⟨od,⟨I.obj,rfl,rfl,ho⟩,hl⟩
section
variable {prog:ä}{w:ö}{A:ĉ}{E:Â->Ä->Prop}{s:Ä}{K:Frag}{x dx C f:Ë}{mA:Str->Option Â}{name:Str}{v:Â}
def Hf{expr:Bool}{Q:Â->Ä->Prop}(X:K.In s.heap)(I:ObjM s.heap x dx C mA)(hg:PySem.W.plainGet K C name=fc)(hh:PySem.W.hasDictIn K C=fc)
  (ha:PySem.W.findIn K (.ref C) name=eZ fb) (hv:mA name=eZ v) (hv':PySem.W.handedIn v=fc) (h:Q v {s with toks:=s.toks+1}) :
  wpAny (Õ prog w) A (getAttr (.ref x) name expr) Q E s:=by
 let⟨od,J,hl⟩:=I.look;exact PySem.W.get_value X J (PySem.W.plainGet_of hg).1 (PySem.W.findObj_own hh ha rfl<|by rw[hl,hv]) hv' h
def Ey{pl:Sem Bool}{Q:Â×List Â->Ä->Prop}(X:K.In s.heap)(I:ObjM s.heap x dx C mA)(hg:PySem.W.plainGet K C name=fc)
  (hf:PySem.W.findIn K (.ref C) name=eZ (eZ<|.ref f)) (ht:PySem.W.isFn K (.ref f)=fc) (hv:mA name=fb) (h:Q (.ref f,[.ref x]) s) :
  wpAny (Õ prog w) A (ρ (.ref x) name pl) Q E s:=by
 let⟨od,J,hl⟩:=I.look;exact PySem.W.method_fn X J (PySem.W.plainGet_of hg).1 (PySem.W.plainGet_of hg).2 hf (beq_iff_eq.mp ht) (by show(PySem.W.lookIn name od).map (·.isSome)=eZ fe;rw[hl,hv];rfl) h
def Gw{ns:List Str}{Q:Unit->Ä->Prop}(X:K.In s.heap)(I:ObjM s.heap x dx C mA)
  (hs:PySem.W.findIn K (.ref C) "__setattr__" = eZ (eZ<|.builtin "object.__setattr__")) (hp:PySem.W.plainOver K C=fc) (ht:PySem.W.takerIn K C name=eZ fb) (hh:PySem.W.hasDictIn K C=fc)
  (hw:PySem.Within mA ns) (hsz:ns.length<=Ö)
  (h:∀h',ObjM h' x dx C (λy=>if y=name then eZ v else mA y)->Ź dx s.heap h'->Q () {s with heap:=h',toks:=s.toks+2}) :
  wpAny (Õ prog w) A (setAttr (.ref x) name v) Q E s:=by
 let⟨od,J,hl⟩:=I.look;refine PySem.W.set_plain X J hs<|PySem.W.osa_open (s:={s with toks:=s.toks+1}) (r:=fb) X J hp ht λb=>?_;let⟨cd,hc,hd'⟩:=PySem.W.any_some hh;have hx:s.heap.get? x=eZ ⟨.ref C,eZ dx,.plain,#[]⟩:=I.obj;refine À<|Æ<|À<|À<|wpAny_loadPart hx<|À<|PySem.W.Looks.here (s:={s with toks:=s.toks+1}) (PySem.W.looks_clsIn X hc) ?_;rw[hd'];refine Æ (a:=eZ dx)<|À<|Æ<|À ?_;refine wpAny_nsSet1 (s:={s with toks:=s.toks+1}) I.ns λh' hn2 hs2=>?_;let⟨oD,esD,epD,hoD,hdD,hcD⟩:=hn2.count<|PySem.Within.cons name v hw;refine À (wpAny_lookBehind hoD (by rw[hdD];exact pastItsLine_dict<|Ý hcD<|by rw[Ì];lia) ?_);exact Æ<|h _ ⟨(hs2.2 _<|Ne.symm I.ne).trans I.obj,hn2,I.ne⟩ hs2
def ES{R:aH->Ä->Prop}{vs:List Â}{kw:List (Str×Â)}(X:K.In s.heap)(hm:PySem.W.makesIn K C=fc)
  (hi:PySem.W.findIn K (.ref C) "__init__" = eZ (eZ<|.ref f)) (hf:PySem.W.typeIn K (.ref f)=eZ (.type "function"))
  (h:codeAny (Õ prog w) (A.under<|.builtin "type.__call__" ⟨.ref C::vs,kw⟩) (.call (.ref f) ⟨.ref (s.heap.objs.size+1)::vs,kw⟩) (PySem.W.InitBack (s.heap.objs.size+1) R)
    { s with heap:=(s.heap.push PySem.W.emptyDict).push (PySem.W.instObj C s.heap.objs.size) }) :
  codeAny (Õ prog w) A (.call (.ref C) ⟨vs,kw⟩) R s:=by
 let⟨hh,g,d,t,os⟩:=s;exact PySem.W.make_core (PySem.W.makes_of X hm) (PySem.W.looks_findIn X hi) (λself=>PySem.W.bind_fn X self hf) (.inl rfl) h
end
abbrev fA(f:Str)(v:V):List (Str×V)->List (Str×V)
 |[]=>[(f,v)]
 |(g,x)::r=>if g=f then(g,v)::r else(g,x)::fA f v r
def WR(f g:Str)(v:V):∀fs:List<|Str×V,(fA f v fs).lookup g=if g=f then eZ v else fs.lookup g
 |[]=>by
  show μ g [(f,v)]=_;by_cases h:g=f
  .have hb:(g==f)=fc:=beq_iff_eq.mpr h;simp only[μ,hb,gG h]
  .have hb:(g==f)=fe:=beq_eq_false_iff_ne.mpr h;simp only[μ,hb,gH h]
 |(k,x)::r=>by
  have ih:=WR f g v r;rw[show fA f v ((k,x)::r)=(if k=f then(k,v)::r else(k,x)::fA f v r) from rfl];by_cases hk:k=f
  .rw[gG hk];by_cases h:g=k
   .have hb:(g==k)=fc:=beq_iff_eq.mpr h;simp only[μ,hb,gG<|h.trans hk]
   .have hb:(g==k)=fe:=beq_eq_false_iff_ne.mpr h;simp only[μ,hb,gH λe:g=f=>h<|e.trans hk.symm]
  .rw[gH hk];by_cases h:g=k
   .have hb:(g==k)=fc:=beq_iff_eq.mpr h;simp only[μ,hb,gH λe:g=f=>hk<|h.symm.trans e]
   .have hb:(g==k)=fe:=beq_eq_false_iff_ne.mpr h;simp only[μ,hb];exact ih
def WB(f:Str)(v:V):∀fs:List<|Str×V,f∈(fA f v fs).map (·.1)/\∀g,g∈fs.map (·.1)->g∈(fA f v fs).map (·.1)
 |[]=>⟨by simp[fA],λg h=>by simp at h⟩
 |(k,x)::r=>by
  let⟨i1,i2⟩:=WB f v r;rw[show fA f v ((k,x)::r)=(if k=f then(k,v)::r else(k,x)::fA f v r) from rfl];by_cases hk:k=f
  .rw[gG hk];subst hk;exact⟨by simp,λg h=>⇑h⟩
  .rw[gH hk];refine⟨?_,λg h=>?_⟩
   .rw[É];exact Þ _ i1
   .rw[É]at h ⊢;rcases Ç.mp h with e|e
    .exact Ç.mpr<|.inl e
    .exact Þ _<|i2 g e
def WS(f:Str)(v:V):∀fs:List<|Str×V,(fA f v fs).length<=fs.length+1
 |[]=>by simp[fA]
 |(k,x)::r=>by
  have ih:=WS f v r;rw[show fA f v ((k,x)::r)=(if k=f then(k,v)::r else(k,x)::fA f v r) from rfl];by_cases hk:k=f
  .rw[gG hk,Ì,Ì];lia
  .rw[gH hk,Ì,Ì];lia
variable {o:Option Â}
def fM.some_of{v:V}(r:fM (eZ v) o):∃u,o=eZ u/\RelV v u:=by
 cases o with
 |none=>exact(show False from r).elim
 |some u=>exact⟨u,rfl,r⟩
def fM.none_of(r:fM fb o):o=fb:=by
 cases o with
 |none=>rfl
 |some u=>exact(show False from r).elim
variable {u:Â}
def Ay{v:V}(r:RelV v u):PySem.W.handedIn u=fc:=by
 cases v with
 |non=>cases (show u=Value.none from r);rfl
 |bl b=>cases (show u=Value.bool b from r);rfl
 |int i=>let⟨t,e⟩:=(show ∃t,u=Value.int i t from r);cases e;rfl
 |str x=>let⟨t,e⟩:=(show ∃t,u=Value.str x t from r);cases e;rfl
 |byt b=>let⟨t,e⟩:=(show ∃t,u=Value.bytes b t from r);cases e;rfl
 |flt b=>let⟨t,e⟩:=(show ∃t,u=Value.float b t from r);cases e;rfl
 |ref a=>cases (show u=Value.ref a from r);rfl
 |ty n=>cases (show u=Value.type n from r);rfl
section
variable {P:ä}{w:ö}{H H':Hp}{h h':Ć}{a C dx:Ë}{fs fs':List (Str×V)}
def W6(hok:HOk P w H h)(e:H a=eZ (.ins C dx fs)):∃mA,ObjM h a dx C mA/\(∀f,fM (fs.lookup f)<|mA f)/\PySem.Within mA (fs.map (·.1))/\fs.length<=1000/\H dx=eZ (.own a):=by
 let⟨d,z,ne,ob,mA,n,r,q⟩:=(show fu P w H h a (.ins C dx fs) from hok a _ e)
 exact⟨mA,⟨ob,n,ne⟩,r,q,z,d⟩
end
structure Cls(K:Frag)(C:Ë):Prop where
 pg:PySem.W.plainGet K C Str.empty=fc
 hd:PySem.W.hasDictIn K C=fc
 po:PySem.W.plainOver K C=fc
 sa:PySem.W.findIn K (.ref C) "__setattr__" = eZ (eZ<|.builtin "object.__setattr__")
def Cls.get{K:Frag}(c:Cls K C)(f:Str):PySem.W.plainGet K C f=fc:=c.pg
abbrev NoAttr(K:Frag)(C:Ë)(f:Str):Prop:=PySem.W.findIn K (.ref C) f=eZ fb
def NoAttr.taker{K:Frag}{f:Str}(n:NoAttr K C f):PySem.W.takerIn K C f=eZ fb:=by unfold PySem.W.takerIn;rw[show PySem.W.findIn K (.ref C) f=eZ fb from n];rfl
structure Meth(K:Frag)(C:Ë)(m:Str)(f:Ë):Prop where
 at_:PySem.W.findIn K (.ref C) m=eZ (eZ<|.ref f)
 fn:PySem.W.isFn K (.ref f)=fc
 kp:PySem.W.keepIn K (.ref f)=fc
section
variable {X:Cx}{Á:List (Ë×Obj)}{σ:St}{H:Hp}{s:Ä}{a C dx:Ë}{fs:List (Str×V)}{f:Str}{v:V}{A:ĉ}{E:Â->Ä->Prop}
variable {Q:Â->Ä->Prop}
def JN{b:Bool}(I:Inv X Á σ H s)(e:H a=eZ (.ins C dx fs))(c:Cls X.K C)(n:NoAttr X.K C f)(l:fs.lookup f=eZ v)
  (h:∀u s',Inv X Á σ H s'->RelV v u->Q u s'):wpAny (Õ X.prog X.w) A (getAttr (.ref a) f b) Q E s:=by
 let⟨mA,O,r,_,_,_⟩:=W6 I.hok e;let⟨u,hu,ru⟩:=fM.some_of (v:=v) (o:=mA f) (by rw[<-l];exact r f);exact Hf I.kIn O (c.get f) c.hd n hu (Ay ru)<|h u _ (I.tok _) ru
def XX{m:Str}{g:Ë}{pl:Sem Bool}{Q:Â×List Â->Ä->Prop}(I:Inv X Á σ H s)(e:H a=eZ (.ins C dx fs))(c:Cls X.K C)(k:Meth X.K C m g)(l:fs.lookup m=fb)
  (h:Q (.ref g,[.ref a]) s):wpAny (Õ X.prog X.w) A (ρ (.ref a) m pl) Q E s:=by
 let⟨mA,O,r,_,_,_⟩:=W6 I.hok e;have hn:mA m=fb:=fM.none_of (by rw[<-l];exact r m);exact Ey I.kIn O (c.get m) k.at_ k.fn hn h
def Kd{y:V}{Q:Unit->Ä->Prop}(I:Inv X Á σ H s)(e:H a=eZ (.ins C dx fs))(c:Cls X.K C)(n:NoAttr X.K C f)(hl:fs.length<1000)(ry:RelV y u)
  (h:∀s',Inv X Á σ (upd H a<|.ins C dx<|fA f y fs) s'->Q () s'):wpAny (Õ X.prog X.w) A (setAttr (.ref a) f u) Q E s:=by
 let⟨mA,O,r,wi,_,ho⟩:=W6 I.hok e;have hz:(fs.map (·.1)).length<=Ö:=by rw[Ã,ae];lia
 refine Gw I.kIn O c.sa c.po n.taker c.hd wi hz λh' O' sb=>h _ ?_;have hd:∃o,h'.get? dx=eZ o:=let ⟨o,_,_,e',_⟩:=O'.ns;⟨o,e'⟩;refine I.write (x:=a) (e:=dx) (by rw[e];exact True.intro) (.inr ho) (λb q hb z=>(sb.2 b hb).trans z) hd ?_;refine⟨by rw[ff O.ne];exact ho,?_,O.ne,O'.obj,_,O'.ns,λg=>?_,λg hg=>?_⟩
 .have:=WS f y fs;lia
 .show fM ((fA f y fs).lookup g) (if g=f then eZ u else mA g);rw[WR];by_cases q:g=f
  .rw[gG q,gG q];exact ry
  .rw[gH q,gH q];exact r g
 .by_cases q:g=f
  .rw[q];exact(WB f y fs).1
  .refine(WB f y fs).2 g<|wi g λz=>hg ?_;show(if g=f then eZ u else mA g)=fb;rw[gH q];exact z
def Inv.made(I:Inv X Á σ H s):Inv X Á σ (upd (upd H s.heap.objs.size<|.own<|s.heap.objs.size+1) (s.heap.objs.size+1)<|.ins C s.heap.objs.size [])
  {s with heap:=(s.heap.push PySem.W.emptyDict).push (PySem.W.instObj C s.heap.objs.size)}:=by
 have e1:(s.heap.push PySem.W.emptyDict).get? s.heap.objs.size=eZ PySem.W.emptyDict:=Ò s.heap rfl;have e2:((s.heap.push PySem.W.emptyDict).push<|PySem.W.instObj C s.heap.objs.size).get? (s.heap.objs.size+1)=eZ (PySem.W.instObj C s.heap.objs.size):=by
  have:=Ò (s.heap.push PySem.W.emptyDict) (o:=PySem.W.instObj C s.heap.objs.size) rfl
  rwa [Ż]at this
 have e3:(s.heap.push PySem.W.emptyDict).Ns s.heap.objs.size λ_=>fb:=⟨PySem.W.emptyDict,#[],_,e1,rfl,(λe he=>gM he<|by simp),λ_=>rfl⟩
 have I1:=I.laid (a:=s.heap.objs.size) (o:=.own<|s.heap.objs.size+1) (h':=s.heap.push PySem.W.emptyDict) (t':=s.toks) (λb u q=>Å _ q) (Ñ _) ⟨_,e1⟩;refine I1.laid (a:=s.heap.objs.size+1) (o:=.ins C s.heap.objs.size []) (t':=s.toks) (λb u q=>Å _ q) (Nat.le_of_eq<|Ż _ _) ?_;have ne:s.heap.objs.size≠s.heap.objs.size+1:=æ<|ĳ _;refine⟨by rw[ff ne,fh],Ŀ _,ne,e2,λ_=>fb,(Heap.Ns1.of_empty e3).at λo q=>Å _ q,λ_=>True.intro,λy hy=>gM rfl hy⟩
def FR{prog:ä}{w:ö}{env:Env}{e:Expr}{ç:Pos}(hb:ĩ e f env (eval e env)=eval e env)
  (h:wpAny (Õ prog w) A (eval e env) (λo ģ=>wpAny (Õ prog w) A (getAttr o f fc) Q E ģ) E s):wpAny (Õ prog w) A (eval (.Attribute e f ç) env) Q E s :=
 Attribute_any_ h (by rw[arm_eval_Attribute,hb])
end
abbrev Sv(K:Frag)(ta:TE)(f:Str):TE:=λσ H Q=>ta σ H λx H1=>∃a C dx fs v,x=.ref a/\H1 a=eZ (.ins C dx fs)/\Cls K C/\NoAttr K C f/\fs.lookup f=eZ v/\Q v H1
abbrev SZ(K:Frag)(ta tv:TE)(f:Str):TS:=λD σ H=>tv σ H λy H1=>ta σ H1 λx H2=>∃a C dx fs,x=.ref a/\H2 a=eZ (.ins C dx fs)/\Cls K C/\NoAttr K C f/\fs.length<1000/\
 D.nx σ (upd H2 a<|.ins C dx<|fA f y fs)
abbrev Ck(X:Cx)(op:ϡ)(rd:V->V->Hp->VK->Prop):Prop :=
 ∀(Á:List<|Ë×Obj) (s:Ä) (σ:St) (H:Hp) (x y:V) (u v:Â) (Q:VK),Inv X Á σ H s->RelV x u->RelV y v->rd x y H Q->wpAny (Õ X.prog X.w) X.A (inplaceOp op u v) (EP X Á σ Q) X.xe s
abbrev Gq(K:Frag)(ta tv:TE)(rd:V->V->Hp->VK->Prop)(f:Str):TS:=λD σ H=>ta σ H λx H1=>∃a C dx fs v,x=.ref a/\H1 a=eZ (.ins C dx fs)/\Cls K C/\NoAttr K C f/\fs.lookup f=eZ v/\
 tv σ H1 λy H2=>rd v y H2 λz H3=>∃dx' fs',H3 a=eZ (.ins C dx' fs')/\fs'.length<1000/\D.nx σ (upd H3 a<|.ins C dx'<|fA f z fs')
section
variable {X:Cx}{o e χ:Expr}{f:Str}{ç aD cU:Pos}{ta tv:TE}
def Pv(he:PE X e ta)(hb:ĩ e f X.env (eval e X.env)=eval e X.env):PE X (.Attribute e f ç)<|Sv X.K ta f:=by intro Á s σ H Q I h;refine FR hb<|thn (he Á s σ H _ I h) λu s1 ⟨x,H1,I1,rx,a,C,dx,fs,v,ex,ea,c,n,l,q⟩=>?_;subst ex;obtain rfl:u=Value.ref a:=rx;exact JN I1 ea c n l λu' s2 I2 ru=>⟨v,H1,I2,ru,q⟩
def P2(ha:PE X o ta)(hv:PE X χ tv)(hs:Ţ χ (eZ<|.Attribute o f aD) ç.line X.env=pure fe):PS X (.Assign [.Attribute o f aD] χ ç)<|SZ X.K ta tv f:=by intro Á s σ H D I h;refine plainObj_wpAny_Assign_Attribute (thn (hv Á s σ H _ I h) λu s1 ⟨y,H1,I1,ry,q⟩=>thn (ha Á s1 σ H1 _ I1 q) λov s2 ⟨x,H2,I2,rx,a,C,dx,fs,ex,ea,c,n,l,q2⟩=>?_) hs;subst ex;obtain rfl:ov=Value.ref a:=rx;exact Kd I2 ea c n l ry λs3 I3=>⟨σ,_,I3,q2⟩
def AT{op:ϡ}{rd:V->V->Hp->VK->Prop}(ha:PE X o ta)(hv:PE X χ tv)(hop:Ck X op rd):PS X (.AugAssign (.Attribute o f cU) op χ ç)<|Gq X.K ta tv rd f:=by intro Á s σ H D I h;refine wpAny_AugAssign_AttributeAny<|thn (ha Á s σ H _ I h) λov s1 ⟨x,H1,I1,rx,a,C,dx,fs,v,ex,ea,c,n,l,q⟩=>?_;subst ex;obtain rfl:ov=Value.ref a:=rx;refine JN I1 ea c n l λu s2 I2 ru=>thn (hv Á s2 σ H1 _ I2 q) λw3 s3 ⟨y,H2,I3,ry,q3⟩=>thn (hop Á s3 σ H2 v y u w3 _ I3 ru ry q3) λw4 s4 ⟨z,H3,I4,rz,dx',fs',ea',l',q4⟩=>?_;exact Kd I4 ea' c n l' rz λs5 I5=>⟨σ,_,I5,q4⟩
abbrev S7:V->V->Hp->VK->Prop:=λx y H Q=>∃i j,x=.int i/\y=.int j/\Q (.int<|i+j) H
abbrev Sz:V->V->Hp->VK->Prop:=λx y H Q=>∃i j,x=.int i/\y=.int j/\Q (.int<|i - j) H
def Pz:Ck X .Add S7:=by
 rintro Á s σ H x y u v Q I rx ry ⟨i,j,rfl,rfl,q⟩;let⟨t,rfl⟩:=(show ∃t,u=Value.int i t from rx)
 let⟨t',rfl⟩:=(show ∃t',v=Value.int j t' from ry)
 exact PyProof.Rows.iadd_int ⟨.int<|i+j,H,I.tok _,⟨_,rfl⟩,q⟩
def LH:Ck X .Sub Sz:=by
 rintro Á s σ H x y u v Q I rx ry ⟨i,j,rfl,rfl,q⟩;let⟨t,rfl⟩:=(show ∃t,u=Value.int i t from rx)
 let⟨t',rfl⟩:=(show ∃t',v=Value.int j t' from ry)
 exact PyProof.Rows.isub_int ⟨.int<|i - j,H,I.tok _,⟨_,rfl⟩,q⟩
end
section
variable {X:Cx}{Á:List (Ë×Obj)}{σ:St}{H:Hp}{s:Ä}{A:ĉ}{E:Â->Ä->Prop}{Q:Â->Ä->Prop}{c:Â}{b:Bool}
inductive gh (K:Frag) (H:Hp):V->Â->Prop where
 |non:gh K H .non<|.type "NoneType"
 |bl (x:Bool):gh K H (.bl x)<|.type "bool"
 |int (i:Int):gh K H (.int i)<|.type "int"
 |str (x:Str):gh K H (.str x)<|.type "str"
 |flt (x:UInt64):gh K H (.flt x)<|.type "float"
 |lst {a:Ë}{xs:List V}(e:H a=eZ (.lst xs)):gh K H (.ref a)<|.type "list"
 |frz {a:Ë}{o:Obj}{xs:List V}(e:H a=eZ (.frz o<|.lst xs)):gh K H (.ref a)<|.type "list"
 |tup {a:Ë}{xs:List V}(e:H a=eZ (.tup xs)):gh K H (.ref a)<|.type "tuple"
 |dK {a:Ë}{kvs:List (Key×V)}(e:H a=eZ (.dK kvs)):gh K H (.ref a)<|.type "dict"
 |dT {a:Ë}{kvs:List (List Key×V)}(e:H a=eZ (.dT kvs)):gh K H (.ref a)<|.type "dict"
 |ins {a C dx:Ë}{fs:List (Str×V)}(e:H a=eZ (.ins C dx fs)) (cl:Cls K C) (ha:PySem.W.findIn K (.ref C) "__class__" = eZ (eZ<|.builtin "object.__class__"))
   (hn:PySem.W.specialIn K (.builtin "object.__class__") "__get__" = eZ (eZ<|.builtin "getset_descriptor.__get__")) (htk:PySem.W.takesIn K (.builtin "object.__class__")=eZ fc)
   (hm:PySem.W.mroIn K C (.type "object")=eZ fc):gh K H (.ref a)<|.ref C
def A0{x:V}{t:Â}(I:Inv X Á σ H s)(rx:RelV x u)(ty:gh X.K H x t)(e:PySem.W.kitOne X.K t c=eZ b)(h:∀tk,Q (.bool b) {s with toks:=tk}) :
  wpAny (Õ X.prog X.w) A (call (.builtin "isinstance") [u,c]) Q E s:=by
 cases ty with
 |non=>cases (show u=Value.none from rx);exact PySem.W.kia_one PySem.W.kitx_none I.kIn True.intro e (λz=>nomatch z) h
 |bl y=>cases (show u=Value.bool y from rx);exact PySem.W.kia_one PySem.W.kitx_bool I.kIn True.intro e (λz=>nomatch z) h
 |int i=>let⟨t,q⟩:=(show ∃t,u=Value.int i t from rx);cases q;exact PySem.W.kia_one PySem.W.kitx_int I.kIn True.intro e (λz=>nomatch z) h
 |str y=>let⟨t,q⟩:=(show ∃t,u=Value.str y t from rx);cases q;exact PySem.W.kia_one PySem.W.kitx_str I.kIn True.intro e (λz=>nomatch z) h
 |flt y=>let⟨t,q⟩:=(show ∃t,u=Value.float y t from rx);cases q;exact PySem.W.kia_one PySem.W.kitx_float I.kIn True.intro e (λz=>nomatch z) h
 |@lst a xs ea =>
  cases (show u=Value.ref a from rx);let⟨_,_,n,_,h1⟩:=(show fu X.prog X.w H s.heap a (.lst xs) from I.hok a _ ea)
  exact PySem.W.kia_one PySem.W.kitx_list I.kIn ⟨_,h1,rfl⟩ e (λz=>nomatch z) h
 |@frz a ob xs ea =>
  cases (show u=Value.ref a from rx);let⟨_,_,_,n,_,h1⟩:=(show fu X.prog X.w H s.heap a (.frz ob<|.lst xs) from I.hok a _ ea)
  exact PySem.W.kia_one PySem.W.kitx_list I.kIn ⟨_,h1,rfl⟩ e (λz=>nomatch z) h
 |@tup a xs ea =>
  cases (show u=Value.ref a from rx);let⟨_,_,_,p⟩:=(show fu X.prog X.w H s.heap a (.tup xs) from I.hok a _ ea)
  let⟨o,h1,h2,_⟩:=p;exact PySem.W.kia_one PySem.W.kitx_tuple I.kIn ⟨o,h1,h2⟩ e (λz=>nomatch z) h
 |@dK a kvs ea =>
  cases (show u=Value.ref a from rx);let⟨_,_,vs,_,p⟩:=(show fu X.prog X.w H s.heap a (.dK kvs) from I.hok a _ ea)
  let⟨o,es,ep,h1,h2,_⟩:=p;exact PySem.W.kia_one PySem.W.kitx_dict I.kIn ⟨o,h1,h2.1⟩ e (λz=>nomatch z) h
 |@dT a kvs ea =>
  cases (show u=Value.ref a from rx);let⟨_,_,xs,_,o,es,ep,h1,h2,_⟩:=(show fu X.prog X.w H s.heap a (.dT kvs) from I.hok a _ ea)
  exact PySem.W.kia_one PySem.W.kitx_dict I.kIn ⟨o,h1,h2.1⟩ e (λz=>nomatch z) h
 |@ins a C dx fs ea cl ha hn htk hm =>cases (show u=Value.ref a from rx);let⟨mA,O,_⟩:=W6 I.hok ea;let⟨od,J,_⟩:=O.look;exact PySem.W.kia_one (PySem.W.kitx_own (cl.get _) cl.hd ha hn htk hm) I.kIn J e (λz=>nomatch z) h
end
structure fN(k:Nat)(A:ĉ):Prop where
 hd:A.handled=fb
 dp:A.depth+3*k+5<recursionLimit
 un:A.units+16*k+200<Ķ
variable {A:ĉ}
def fN.mono{j k:Nat}(r:fN k A)(h:j<=k):fN j A:=⟨r.hd,by have:=r.dp;lia,by have:=r.un;lia⟩
def fN.deeper{k:Nat}(r:fN (k+1) A)(env:Env):fN k (A.deeper env) :=
 ⟨r.hd,by have:=r.dp;show A.depth+1+3*k+5<_;lia,by have:=r.un;show A.units+3+16*k+200<_;lia⟩
variable {C:Ë} {us:List Â} {kw:List (Str×Â)}
def Oz:(A.under<|.builtin "type.__call__" ⟨.ref C::us,kw⟩).depth=A.depth+1:=by
 first|rfl|simp[bS,Code.weight,Code.isCreation,Code.isGuard,Code.isCaller,Code.frames,ck,guardIds]
def OL:(A.under<|.builtin "type.__call__" ⟨.ref C::us,kw⟩).units=A.units+1:=by
 first|rfl|simp[bS,Code.cUnits,Code.frames,ck]
def fN.make{k:Nat}(r:fN (k+1) A)(C:Ë)(us:List Â)(kw:List<|Str×Â):fN k (A.under<|.builtin "type.__call__" ⟨.ref C::us,kw⟩) :=
 ⟨r.hd,by have:=r.dp;rw[Oz];lia,by have:=r.un;rw[OL];lia⟩
def fN.depth{k:Nat}(r:fN k A):A.depth<recursionLimit:=by have:=r.dp;lia
abbrev Gn:TA:=λ_ H Q=>Q [] H
abbrev Hx(ta:TE)(tr:TA):TA:=λσ H Q=>ta σ H λx H1=>tr σ H1 λxs H2=>Q (x::xs) H2
section
variable {X:Cx}{e:Expr}{es:List Expr}{te:TE}{t:TA}{ç:Pos}
def gk:PA X [] Gn:=λ_ _ _ _ H Q I h=>Calls.spliced_nil ⟨[],H,I,.nil,h⟩
def ZA(ha:PE X e te)(hr:PA X es t)(hs:Ï (e::es) X.env=(fe,eval e X.env)::Ï es X.env:=by rfl):PA X (e::es)<|Hx te t:=by intro ç Á s σ H Q I h;rw[hs];show wpAny _ _ (spliced<|(fe,eval e X.env)::Ď ç (Ï es X.env)) _ _ s;refine Calls.spliced_cons<|thn (ha Á s σ H _ I h) λu s1 ⟨x,H1,I1,r1,q1⟩=>?_;exact thn (hr ç Á s1 σ H1 _ I1 q1) λus s2 ⟨xs,H2,I2,r2,q2⟩=>⟨x::xs,H2,I2,.cons r1 r2,q2⟩
abbrev Sx(t:TA):TE:=λσ H Q=>t σ H λxs H1=>xs.length<=Ö/\∀p,H1 p=fb->Q (.ref p) (upd H1 p<|.tup xs)
abbrev SO(t:TA):TE:=λσ H Q=>t σ H λxs H1=>xs.length<=Ö/\∀p,H1 p=fb->Q (.ref p) (upd H1 p<|.lst xs)
def Eg{x1}(h:PA X es t):PE X (.Tuple es x1 ç)<|Sx t:=by intro Á s σ H Q I hq;refine wpAny_Tuple_spliced (thn (h ç Á s σ H _ I hq) λus s1 ⟨xs,H1,I1,r,z,q⟩=>⟨by rw[<-r.length];exact z,?_⟩);have hf:H1 s1.heap.objs.size=fb:=I1.hok.fresh<|Ñ _;refine⟨.ref s1.heap.objs.size,upd H1 s1.heap.objs.size<|.tup xs,I1.laid (t':=s1.toks) (λb u e=>Å _ e) (Ñ _) ?_,rfl,q _ hf⟩;exact⟨z,us,r,⟨_,Ò _ rfl,rfl,_,rfl⟩⟩
def Ps(h:PA X es t):PE X (.List es ç)<|SO t:=by intro Á s σ H Q I hq;refine wpAny_List_spliced (thn (h ç Á s σ H _ I hq) λus s1 ⟨xs,H1,I1,r,z,q⟩=>⟨by rw[<-r.length];exact z,?_⟩);have hf:H1 s1.heap.objs.size=fb:=I1.hok.fresh<|Ñ _;refine⟨.ref s1.heap.objs.size,upd H1 s1.heap.objs.size<|.lst xs,I1.laid (t':=s1.toks) (λb u e=>Å _ e) (Ñ _) ?_,rfl,q _ hf⟩;exact⟨z,us,0,r,Ò _ rfl⟩
end
noncomputable abbrev Sp:=List V->Hp->VK->XK->Prop
noncomputable abbrev CXT:=List Env->Hp->Ä->XK->Â->Ä->Prop
structure Env0(P:ä)(w:ö)(K:Frag)(mg:Str->Option Â)(base:Ć)(A:ĉ)(outer:List Env)(s:Ä)(H:Hp):Prop where
 frames:A.frames=eZ outer
 mod:Mod K mg base
 bs:∀b o,base.get? b=eZ o->s.heap.get? b=eZ o/\H b=fb
 bsz:base.objs.size<=s.heap.objs.size
 funs:s.heap.FunFrames base outer
 frf:∀b∈frs outer,H b=fb
 hok:HOk P w H s.heap
 bare:ϒ s.gens
abbrev CE(outer:List Env)(P:ä)(w:ö)(H:Hp)(s:Ä)(Q:VK)(u:Â)(s':Ä):Prop :=
 ∃v H',s'.os=s.os/\ϒ s'.gens/\Un (frs outer) [] H H' s.heap s'.heap/\HOk P w H' s'.heap/\RelV v u/\Q v H'
abbrev CR(CX:CXT)(outer:List Env)(P:ä)(w:ö)(H:Hp)(s:Ä)(Q:VK)(E:XK)(r:aH)(s':Ä):Prop :=
 match r with
 |.ok (.ret u)=>CE outer P w H s Q u s'
 |.ok _=>False
 |.error e=>CX outer H s E e s'
structure fO(P:ä)(w:ö)(K:Frag)(mg:Str->Option Â)(base:Ć)(CX:CXT)(k:Nat)(f:Ë)(fd:Ň)(ps:List Str)(sp:Sp):Prop where
 len:∀vs H Q E,sp vs H Q E->vs.length=ps.length
 run:∀(A:ĉ) (outer:List Env) (s:Ä) (H:Hp) (args:Args) (us:List Â) (vs:List V) (Q:VK) (E:XK),fN k A->Env0 P w K mg base A outer s H->BindsTo s fd args (ps.zip us)->gw vs us->sp vs H Q E->
  codeAny (Õ P w) A (.call (.ref f) args) (CR CX outer P w H s Q E) s
variable {P:ä} {w:ö} {mg:Str->Option Â} {base:Ć} {outer:List Env} {s:Ä} {H:Hp}
def Env0.make{K:Frag}(e:Env0 P w K mg base A outer s H)(C:Ë)(us:List Â)(kw:List<|Str×Â) :
  Env0 P w K mg base (A.under<|.builtin "type.__call__" ⟨.ref C::us,kw⟩) outer s H:=⟨by first|exact e.frames|(simpa[bS,Code.envs,ck,pushEnvs]using e.frames),e.mod,e.bs,e.bsz,e.funs,e.frf,e.hok,e.bare⟩
section
variable {X:Cx}{Á:List (Ë×Obj)}{σ:St}{H:Hp}{s s':Ä}
def Inv.env0(I:Inv X Á σ H s):Env0 X.prog X.w X.K X.mg X.base X.A X.stack s H :=
 ⟨I.ok.frames,I.ok.mod,I.bs,Ý I.ok.bsz I.sz,I.stack,I.stkFree,I.hok,I.bare⟩
def Inv.after{Q:VK}{u:Â}(I:Inv X Á σ H s)(h:CE X.stack X.prog X.w H s Q u s'):EP X Á σ Q u s':=by let⟨v,H',os,bare,un,hok,r,q⟩:=h;let⟨hh,g,d,t,os'⟩:=s';obtain rfl:os'=s.os:=os;exact⟨v,H',I.call (h':=hh) (g':=g) (d':=d) (t':=t) (ch:=[]) un hok bare λb z=>gM z<|by simp,r,q⟩
end
abbrev HB(sp:Sp)(aQ:List V)(E:XK)(t:TA):TE:=λσ H Q=>t σ H λvs H1=>sp (vs++aQ) H1 Q E
abbrev HH(C:Ë)(m:Str)(sp:Sp)(aQ:List V)(E:XK)(ta:TE)(t:TA):TE:=λσ H Q=>ta σ H λx H1=>∃a dx fs,x=.ref a/\H1 a=eZ (.ins C dx fs)/\fs.lookup m=fb/\
 t σ H1 λvs H2=>sp (x::(vs++aQ)) H2 Q E
abbrev QE(C:Ë)(sp:Sp)(aQ:List V)(E:XK)(t:TA):TE:=λσ H Q=>t σ H λvs H1=>∀x dx,H1 x=fb->H1 dx=fb->dx≠x->
 sp (.ref x::(vs++aQ)) (upd (upd H1 dx<|.own x) x<|.ins C dx []) (λv H2=>v=.non/\Q (.ref x) H2) E
abbrev Binds(K:Frag)(fd:Ň)(ps:List Str)(ds:List Â):Prop :=
 ∀(s:Ä) (us:List Â),K.In s.heap->(us++ds).length=ps.length->BindsTo s fd ⟨us,[]⟩ (ps.zip<|us++ds)
variable {ps:List Str}
def Binds.all{K:Frag}{fd:Ň}(h:∀us:List Â,us.length=ps.length->bindArgs fd ⟨us,[]⟩=pure (ps.zip us)):Binds K fd ps []:=λs us _ hl=>by rw[ò]at hl ⊢;exact .of_eq (h us hl)
abbrev Xh(CX:CXT)(X:Cx)(E:XK):Prop:=∀(Á:List<|Ë×Obj) (σ:St) (H:Hp) (s:Ä) (e:Â) (s':Ä),Inv X Á σ H s->CX X.stack H s E e s'->X.xe e s'
section
variable {X:Cx}{CX:CXT}{k:Nat}{f C:Ë}{fd:Ň}{ps:List Str}{sp:Sp}{aQ:List V}{ds:List Â}{E:XK}{x m:Str}{p ç Ł:Pos}{e o:Expr}{es:List Expr}{ta:TE}{t:TA}
variable {Á:List (Ë×Obj)} {σ:St} {Q:VK} {vs:List V}
def Mi(F:fO X.prog X.w X.K X.mg X.base CX k f fd ps sp)(hr:fN k X.A)(hb:Binds X.K fd ps ds)(hd:gw aQ ds)(hx:Xh CX X E)
  (I:Inv X Á σ H s) (r:gw vs us) (h:sp (vs++aQ) H Q E):wpAny (Õ X.prog X.w) X.A (call (.ref f) us) (EP X Á σ Q) X.xe s:=by
 have r2:gw (vs++aQ)<|us++ds:=r.append hd;have hl:(us++ds).length=ps.length:=by rw[<-r2.length];exact F.len _ _ _ _ h
 refine aI<|ş (F.run X.A X.stack s H ⟨us,[]⟩ (us++ds) (vs++aQ) Q E hr I.env0 (hb s us I.kIn hl) r2 h) λr s' hq=>?_;cases r with
 |error e=>exact hx Á σ H s e s' I hq
 |ok fl =>
  cases fl with
  |ret u=>exact I.after hq
  |next=>exact ă hq
  |brk=>exact ă hq
  |cont=>exact ă hq
def Fp(F:fO X.prog X.w X.K X.mg X.base CX k f fd ps sp)(hr:fN k X.A)(hg:Gl X x)(hm:X.mg x=eZ (.ref f))(hk:PySem.W.keepIn X.K (.ref f)=fc)(hb:Binds X.K fd ps ds)(hd:gw aQ ds)(hx:Xh CX X E)
  (ha:PA X (e::es) t) (Ϯ:(x==("__debug__" : Str))=fe:=by decide) (he:Ï (e::es) X.env=(fe,eval e X.env)::Ï es X.env:=by rfl) (hpl:(Ď ç<|Ï es X.env).any (·.1)=fe:=by rfl) :
  PE X (.Call (.Name x p) (e::es) [] ç) (HB sp aQ E t):=by
 intro Á s σ H Q I h;refine ğ<|Yu I hg hm ?_ Ϯ;refine PySem.W.callWith_K (h₀:=X.base) I.ok.mod.kin hk (thn (ha ç Á s σ H _ I h) λus s1 ⟨vs,H1,I1,r,q⟩=>⟨I1.kIn,?_⟩) he hpl;exact Mi F hr hb hd hx I1 r q
def B3(F:fO X.prog X.w X.K X.mg X.base CX k f fd ps sp)(hr:fN k X.A)(hg:Gl X x)(hm:X.mg x=eZ (.ref f))(hk:PySem.W.keepIn X.K (.ref f)=fc)(hb:Binds X.K fd ps ds)(hd:gw aQ ds)(hx:Xh CX X E)
  (Ϯ:(x==("__debug__" : Str))=fe:=by decide):PE X (.Call (.Name x p) [] [] ç)<|HB sp aQ E Gn:=by
 intro Á s σ H Q I h;refine ğ<|Yu I hg hm ?_ Ϯ;exact PySem.W.callWith_K0 I.kIn hk<|Mi (us:=[]) F hr hb hd hx I .nil h
variable {pl:Sem Bool}
def F4(he:PE X o ta)(c:Cls X.K C)(hm:Meth X.K C m f)(F:fO X.prog X.w X.K X.mg X.base CX k f fd ps sp)(hr:fN k X.A)(hb:Binds X.K fd ps ds)(hd:gw aQ ds)(hx:Xh CX X E)(ha:PA X (e::es) t)
  (ō:Ï (e::es) X.env=(fe,eval e X.env)::Ï es X.env:=by rfl) (hpl:(Ď ç<|Ï es X.env).any (·.1)=fe:=by rfl)
  (ht:eval (.Call (.Attribute o m Ł) (e::es) [] ç) X.env=(do
    let ov<-eval o X.env
    ψ Ł.atName
    let (f,first)<-Ŋ [ov] (ρ ov m pl)
    af ç f first (Ď ç<|Ï (e::es) X.env) (Ŭ ç<|ĺ [] X.env)):=by rfl) :
  PE X (.Call (.Attribute o m Ł) (e::es) [] ç) (HH C m sp aQ E ta t):=by
 intro Á s σ H Q I h;refine PySem.W.methodCall_KW (pl:=pl) (thn (he Á s σ H _ I h) λu s1 ⟨x,H1,I1,rx,a,dx,fs,ex,ea,l,q⟩=>?_) ht;subst ex;obtain rfl:u=Value.ref a:=rx;refine XX I1 ea c hm l ?_;refine PySem.W.callWith_K (first:=[.ref a]) (h₀:=X.base) I.ok.mod.kin hm.kp (thn (ha ç Á s1 σ H1 _ I1 q) λus s2 ⟨vs,H2,I2,r,q2⟩=>⟨I2.kIn,?_⟩) ō hpl;exact Mi (us:=.ref a::us) (vs:=.ref a::vs) F hr hb hd hx I2 (.cons rfl r) q2
def B7(he:PE X o ta)(c:Cls X.K C)(hm:Meth X.K C m f)(F:fO X.prog X.w X.K X.mg X.base CX k f fd ps sp)(hr:fN k X.A)(hb:Binds X.K fd ps ds)(hd:gw aQ ds)(hx:Xh CX X E)
  (ht:eval (.Call (.Attribute o m Ł) [] [] ç) X.env=(do
    let ov<-eval o X.env
    ψ Ł.atName
    let (f,first)<-Ŋ [ov] (ρ ov m pl)
    af ç f first (Ď ç<|Ï [] X.env) (Ŭ ç<|ĺ [] X.env)):=by rfl) :
  PE X (.Call (.Attribute o m Ł) [] [] ç) (HH C m sp aQ E ta Gn):=by
 intro Á s σ H Q I h;refine PySem.W.methodCall_KW (pl:=pl) (thn (he Á s σ H _ I h) λu s1 ⟨x,H1,I1,rx,a,dx,fs,ex,ea,l,q⟩=>?_) ht;subst ex;obtain rfl:u=Value.ref a:=rx;refine XX I1 ea c hm l ?_;exact PySem.W.callWith_K0 (first:=[.ref a]) I1.kIn hm.kp<|Mi (us:=[.ref a]) (vs:=[.ref a]) F hr hb hd hx I1 (.cons rfl .nil) q
structure Mk(K:Frag)(C f:Ë):Prop where
 makes:PySem.W.makesIn K C=fc
 init:PySem.W.findIn K (.ref C) "__init__" = eZ (eZ<|.ref f)
 fn:PySem.W.isFn K (.ref f)=fc
 kp:PySem.W.keepIn K (.ref C)=fc
def DY(M:Mk X.K C f)(F:fO X.prog X.w X.K X.mg X.base CX k f fd ps sp)(hr:fN (k+1) X.A)(hb:Binds X.K fd ps ds)(hd:gw aQ ds)
  (hx:Xh CX X E) (I:Inv X Á σ H s) (r:gw vs us)
  (h:∀x dx,H x=fb->H dx=fb->dx≠x->sp (.ref x::(vs++aQ)) (upd (upd H dx<|.own x) x<|.ins C dx []) (λv H2=>v=.non/\Q (.ref x) H2) E) :
  wpAny (Õ X.prog X.w) X.A (call (.ref C) us) (EP X Á σ Q) X.xe s:=by
 have hq:=h (s.heap.objs.size+1) s.heap.objs.size (I.hok.fresh<|Ŏ _) (I.hok.fresh<|Ñ _)<|æ<|ĳ _;have I2:=Inv.made (C:=C) I;have r2:gw (V.ref (s.heap.objs.size+1)::(vs++aQ))<|Value.ref (s.heap.objs.size+1)::(us++ds):=.cons rfl<|r.append hd;have hl:(Value.ref (s.heap.objs.size+1)::us++ds).length=ps.length:=by have e:=r2.length;rw[F.len _ _ _ _ hq]at e;exact e.symm
 refine aI (ES (f:=f) I.kIn M.makes M.init (beq_iff_eq.mp M.fn) (ş (F.run _ X.stack _ _ ⟨Value.ref (s.heap.objs.size+1)::us,[]⟩ (Value.ref (s.heap.objs.size+1)::(us++ds)) _ _ E (hr.make C us [])
   (I2.env0.make C us []) (hb _ (Value.ref (s.heap.objs.size+1)::us) I2.kIn hl) r2 hq) λr s' hq'=>?_))
 cases r with
 |error e=>exact hx Á σ _ _ e s' I2 hq'
 |ok fl =>
  cases fl with
  |ret u =>let⟨v,H',I3,rv,ev,q3⟩:=I2.after hq';subst ev;exact⟨rv,⟨V.ref<|s.heap.objs.size+1,H',I3,rfl,q3⟩⟩
  |next=>exact ă hq'
  |brk=>exact ă hq'
  |cont=>exact ă hq'
def Hg(M:Mk X.K C f)(F:fO X.prog X.w X.K X.mg X.base CX k f fd ps sp)(hr:fN (k+1) X.A)(hg:Gl X x)(hm:X.mg x=eZ (.ref C))(hb:Binds X.K fd ps ds)(hd:gw aQ ds)(hx:Xh CX X E)
  (ha:PA X (e::es) t) (Ϯ:(x==("__debug__" : Str))=fe:=by decide) (he:Ï (e::es) X.env=(fe,eval e X.env)::Ï es X.env:=by rfl) (hpl:(Ď ç<|Ï es X.env).any (·.1)=fe:=by rfl) :
  PE X (.Call (.Name x p) (e::es) [] ç) (QE C sp aQ E t):=by
 intro Á s σ H Q I h;refine ğ<|Yu I hg hm ?_ Ϯ;refine PySem.W.callWith_K (h₀:=X.base) I.ok.mod.kin M.kp (thn (ha ç Á s σ H _ I h) λus s1 ⟨vs,H1,I1,r,q⟩=>⟨I1.kIn,?_⟩) he hpl;exact DY M F hr hb hd hx I1 r q
end
structure FnScope(N P:List Str)(sc:ξ):Prop where
 kind:sc.kind=.function
 co:sc.isCoroutine=fe
 gen:sc.isGenerator=fe
 nd:N.Nodup
 pre:N.take P.length=P
 par:∀x∈P,sc.names.lookup x=eZ .local\/sc.names.lookup x=eZ .cell
 nofree:∀y∈sc.names,y.2≠.free
def KU{Κ:Str->Option Ϣ}{x:Str}:∀{binds:List (Str×Â)}{m:Str->Option Â},(∀v,(x,v)∉binds)->bindL Κ binds m x=m x
 |[],_,_=>rfl
 |(n,v)::r,m,h=>by
  unfold bindL;rw[KU λw hw=>h w<|Þ _ hw];split
  .have:x≠n:=by rintro rfl;exact h v î
   simp[this]
  .rfl
def K5{Κ:Str->Option Ϣ}{x:Str}:∀{binds:List (Str×Â)}{m:Str->Option Â},(∀v,(x,v)∉binds)->dP Κ binds m x=m x
 |[],_,_=>rfl
 |(n,v)::r,m,h=>by
  unfold dP;rw[K5 λw hw=>h w<|Þ _ hw];split
  .rfl
  .have:x≠n:=by rintro rfl;exact h v î
   simp[this]
def KE{Κ:Str->Option Ϣ}{x:Str}{v:Â}:∀{P:List Str}{vs:List Â}{i:Nat}{m:Str->Option Â},P.Nodup->P[i]?=eZ x->vs[i]?=eZ v->Κ x=eZ .local->
  bindL Κ (P.zip vs) m x=eZ v
 |[],_,_,_,_,h,_,_=>by simp at h
 |_::_,[],_,_,_,_,h,_=>by simp at h
 |p::P,w::vs,0,m,nd,h1,h2,hk=>by simp at h1 h2;subst h1;subst h2;show bindL Κ ((p,w)::P.zip vs) m p=_;unfold bindL;rw[KU λv hv=>(ć.mp nd).1 (aX hv).1,gG hk];simp
 |p::P,w::vs,i+1,m,nd,h1,h2,hk=>by show bindL Κ ((p,w)::P.zip vs) m x=_;unfold bindL;exact KE (i:=i) (ć.mp nd).2 ⇑h1 ⇑h2 hk
def KH{Κ:Str->Option Ϣ}{x:Str}{v:Â}:∀{P:List Str}{vs:List Â}{i:Nat}{m:Str->Option Â},P.Nodup->P[i]?=eZ x->vs[i]?=eZ v->Κ x≠eZ .local->
  dP Κ (P.zip vs) m x=eZ v
 |[],_,_,_,_,h,_,_=>by simp at h
 |_::_,[],_,_,_,_,h,_=>by simp at h
 |p::P,w::vs,0,m,nd,h1,h2,hk=>by simp at h1 h2;subst h1;subst h2;show dP Κ ((p,w)::P.zip vs) m p=_;unfold dP;rw[K5 λv hv=>(ć.mp nd).1 (aX hv).1,gH hk];simp
 |p::P,w::vs,i+1,m,nd,h1,h2,hk=>by show dP Κ ((p,w)::P.zip vs) m x=_;unfold dP;exact KH (i:=i) (ć.mp nd).2 ⇑h1 ⇑h2 hk
abbrev start(N:List Str)(vs:List V):St:=vs.map eZ++Ø (N.length - vs.length) fb
abbrev M9(CX:CXT)(P:ä)(w:ö)(K:Frag)(mg:Str->Option Â)(base:Ć)(N:List Str)(qual:Str)(scope:ξ)(f:Ë)(cd:Â)(A:ĉ)(outer:List Env)(s:Ä)(H:Hp)(E:XK):Cx where
 prog:=P
 w:=w
 K:=K
 mg:=mg
 base:=base
 A:=A.deeper<|aJ qual scope s.heap.objs.size f cd
 N:=N
 s₀:=s
 H₀:=H
 env:=aJ qual scope s.heap.objs.size f cd
 outer:=outer
 stack:=aJ qual scope s.heap.objs.size f cd::outer
 ex:=[]
 calm:=fc
 fn:=λ_=>fc
 pn:=[]
 xe:=λe s'=>wpAny (Õ P w) (A.deeper<|aJ qual scope s.heap.objs.size f cd) (leaving (aJ qual scope s.heap.objs.size f cd) e) (λ_ s''=>CX outer H s E e s'') (λe' s''=>CX outer H s E e' s'') s'
def NE{sc:ξ}{n:Nat}{x:Str}(h:sc.names.lookup x=eZ .cell):∃c,(cellsFrom n sc.names []).lookup x=eZ c:=by have q:=PySem.W.cellsFrom_some sc.names n []<|.inl h;exact û.mp q
variable {CX:CXT} {N:List Str} {qual:Str} {scope:ξ} {f:Ë}
def A3{K:Frag}{cd:Â}{s1:Ä}{E:XK}{vs:List V}
  (S:FnScope N ps scope) (hd:A.handled=fb) (e0:Env0 P w K mg base A outer s H) (hl:vs.length=ps.length) (r:gw vs us)
  (x:InCallC s s.heap.objs.size (bindL (aJ qual scope s.heap.objs.size f cd).kindOf (ps.zip us) λ_=>fb) (cellsFrom (s.heap.objs.size+1) scope.names []) (dP (aJ qual scope s.heap.objs.size f cd).kindOf (ps.zip us) λ_=>fb) s1) :
  Inv (M9 CX P w K mg base N qual scope f cd A outer s H E) [] (start N vs) H s1:=by
 have hpl:ps.length<=N.length:=by have:=congrArg List.length S.pre;rw[ě]at this;lia
 let⟨h1,tk,rfl,hk⟩:=x.done;have noA:∀b:Ë,b∉(M9 CX P w K mg base N qual scope f cd A outer s H E).ex:=λb z=>gM (show b∈([]:List Ë) from z) (by simp);refine⟨⟨e0.mod,S.kind,rfl,rfl,Ñ _,λy z c h1 h2=>?_,λy hy=>?_,λy c _ h=>?_,λ_=>hd,Around.frames_deeper e0.frames,.inr ⟨rfl,rfl⟩,λb z=>gM z<|noA b,e0.bs,e0.bsz,λb _ _=>noA b,λb z=>gM z<|noA b,e0.funs,e0.frf⟩,
   rfl,e0.bare,Un.kept hk,⟨_,x.toInCall.ns,λi y v h1 h2 h3=>?_⟩,λy c h=>⟨_,x.cell y c h⟩,e0.hok.fresh<|Ñ _,λy c h=>?_,λp hp=>gM (show p∈([]:List<|Ë×Obj) from hp) (by simp),e0.hok.kept hk,?_⟩
 .exact name_of_addr x.apart (PySem.mem_of_lookup h1)<|PySem.mem_of_lookup h2
 .have hy:scope.names.lookup y=eZ .cell\/scope.names.lookup y=eZ .free:=hy;rcases hy with hy|hy
  .exact NE hy
  .exact gM rfl<|S.nofree _<|PySem.mem_of_lookup hy
 .exact Α<|x.above y c<|PySem.mem_of_lookup h
 .have hi:i<vs.length:=by
   unfold start at h2;by_cases hi:i<vs.length
   .exact hi
   .rw[Ĕ<|by simpa using hi]at h2;rw[Ŕ]at h2;split at h2<;>cases h2
  have ha:vs[i]?=eZ v:=by
   unfold start at h2;rw[Č ⇑hi,Ú]at h2;cases e:vs[i]? with
   |none=>rw[e]at h2;cases h2
   |some a=>rw[e]at h2;cases h2;rfl
  let⟨u,hu,rv⟩:=r.get ha;have hp:ps[i]?=eZ y:=by rw[<-S.pre,List.getElem?_take_of_lt<|by lia];exact h1
  have ndP:ps.Nodup:=by rw[<-S.pre];exact S.nd.sublist<|List.take_sublist _ _
  refine⟨u,rv,?_⟩;rcases S.par y (ë hp)with k|k
  .exact .inl ⟨k,KE ndP hp hu k⟩
  .obtain⟨c,e⟩:=NE (n:=s.heap.objs.size+1) k;refine .inr ⟨.inl k,c,e,?_⟩;have q:=x.cell y c e;rw[KH ndP hp hu<|by show scope.names.lookup y≠_;rw[k];decide]at q;exact q
 .exact e0.hok.fresh<|Α<|x.above y c<|PySem.mem_of_lookup h
 .unfold start;show _=N.length;rw[è,Ã,ó];lia
def Q8{K:Frag}{k:Nat}{name:Str}{params:Arguments}{body:List Į}{dV kV doc pm ϯ ct oc:Â}{an od:Option Ë}
  {osl:Array (Option Â)}  {sp:Sp}(lk:K.lookup f=eZ ⟨oc,od,.func<|PySem.W.fnOf name qual params body scope dV kV doc pm an ϯ ct,osl⟩) (bB:PySem.W.codeIn K ϯ qual=fc) (S:FnScope N ps scope)
  (len:∀vs H Q E,sp vs H Q E->vs.length=ps.length)
  (hbody:∀(A:ĉ) (outer:List Env) (s:Ä) (H:Hp) (vs:List V) (Q:VK) (E:XK),fN k (A.deeper<|aJ qual scope s.heap.objs.size f ϯ)->sp vs H Q E->
    ∃t,PSs (M9 CX P w K mg base N qual scope f ϯ A outer s H E) body t/\t { nx:=λ_ H'=>Q .non H',rt:=Q } (start N vs) H) :
  fO P w K mg base CX (k+1) f (PySem.W.fnOf name qual params body scope dV kV doc pm an ϯ ct) ps sp:=by
 refine⟨len,λA outer s H args us vs Q E hr e0 hb r hsp=>?_⟩;have hl:=len _ _ _ _ hsp;have KX:K.In s.heap:=e0.mod.kin.keeps λb o e=>(e0.bs b o e).1;have lim:s.heap.NoLimit:=e0.mod.nolimit.keeps λb o e=>(e0.bs b o e).1;have hkind:∀y∈ps.zip us,scope.names.lookup y.1=eZ .local\/(scope.names.lookup y.1=eZ .cell/\((cellsFrom (s.heap.objs.size+1) scope.names []).lookup y.1).isSome=fc):=λ⟨n,v⟩ hy=>by
  rcases S.par n (aX hy).1 with q|q
  .exact .inl q
  .exact .inr ⟨q,PySem.W.cellsFrom_some _ _ _<|.inl q⟩
 refine codeAny_call_function hr.depth (KX _ _ lk) rfl S.co S.gen rfl (PySem.W.codeRec_of KX bB)<|hb _ _ _ _ ?_;refine wpAny_newFunctionEnv_cells S.kind hkind λenv he s1 x=>?_;subst he;refine⟨lim.keeps x.toInCall.keep,codeAny_func ?_⟩;let⟨t,ht,hq⟩:=hbody A outer s H vs Q E (hr.deeper _) hsp;have I:Inv (M9 CX P w K mg base N qual scope f ϯ A outer s H E) [] (start N vs) H s1:=A3 S hr.hd e0 hl r x;refine ċ (ht [] s1 (start N vs) H _ I hq) (λfl s' hs=>?_) λe s' hs=>hs;have fin:∀{Ū:St}{H':Hp}{v:V}{u:Â},Inv (M9 CX P w K mg base N qual scope f ϯ A outer s H E) [] Ū H' s'->RelV v u->Q v H'->CE outer P w H s Q u s' :=
  λ{Ū H' v u} J rv q=>⟨v,H',J.os,J.bare,J.base,J.hok,rv,q⟩
 cases fl with
 |ret u =>let⟨v,Ū,H',J,rv,q⟩:=hs;exact fin J rv q
 |next =>let⟨Ū,H',J,q⟩:=hs;exact fin (v:=V.non) (u:=Value.none) J rfl q
 |brk =>let⟨_,_,_,q⟩:=hs;exact ă q
 |cont =>let⟨_,_,_,q⟩:=hs;exact ă q
section
variable {X:Cx}{x:Str}{p ç:Pos}{e:Expr}{es:List Expr}{t:TA}{id T:String}{r:List V->Hp->VK->Prop}
abbrev tCB(r:List V->Hp->VK->Prop)(t:TA):TE:=λσ H Q=>t σ H λvs H1=>r vs H1 Q
def Z2(hc:fq X (.builtin id) r)(hg:Gl X x)(hm:X.mg x=fb)(hv:Ů x=eZ (.builtin id))(ha:PA X (e::es) t)(hn:x≠"__name__":=by decide)(Ϯ:(x==("__debug__" : Str))=fe:=by decide)
  (he:Ï (e::es) X.env=(fe,eval e X.env)::Ï es X.env:=by rfl) (hpl:(Ď ç<|Ï es X.env).any (·.1)=fe:=by rfl):PE X (.Call (.Name x p) (e::es) [] ç)<|tCB r t:=by
 intro Á s σ H Q I h;refine ğ<|Xp I hg hm hv ?_ hn Ϯ;exact PyProof.Rows.callWith_builtin1 (thn (ha ç Á s σ H _ I h) λus s1 ⟨vs,H1,I1,r1,q1⟩=>hc Á s1 σ H1 vs us Q I1 r1 q1) he hpl
def Wz(hc:fq X (.type T) r)(hg:Gl X x)(hm:X.mg x=fb)(hv:Ů x=eZ (.type T))(ha:PA X (e::es) t)(hn:x≠"__name__":=by decide)(Ϯ:(x==("__debug__" : Str))=fe:=by decide)
  (he:Ï (e::es) X.env=(fe,eval e X.env)::Ï es X.env:=by rfl) (hpl:(Ď ç<|Ï es X.env).any (·.1)=fe:=by rfl):PE X (.Call (.Name x p) (e::es) [] ç)<|tCB r t:=by
 intro Á s σ H Q I h;refine ğ<|Xp I hg hm hv ?_ hn Ϯ;exact PyProof.Rows.callWith_type1 (thn (ha ç Á s σ H _ I h) λus s1 ⟨vs,H1,I1,r1,q1⟩=>hc Á s1 σ H1 vs us Q I1 r1 q1) he hpl
end
end L2
namespace HT
open PySem PyProof.Rows
abbrev lexLt:List Int->List Int->Bool
 |[],[]=>fe
 |[],_::_=>fc
 |_::_,[]=>fe
 |x::xs,y::ys=>if x=y then lexLt xs ys else gN (x<y)
def lexLt_cons(x y:Int)(xs ys:List Int):lexLt (x::xs) (y::ys)=if x=y then lexLt xs ys else gN (x<y):=rfl
def KD:lexLt [] []=fe:=rfl
def JW(y:Int)(ys:List Int):lexLt [] (y::ys)=fc:=rfl
def Jl(x:Int)(xs:List Int):lexLt (x::xs) []=fe:=rfl
def eqAt_int(A:ĉ)(s:Ä)(a:Int)(t:Tok)(c:Int)(u:Tok):∃e,SeqAt.EqAt A s (.int a t) (.int c u) e/\(e=fc↔a=c) :=
 ⟨(a==c),SeqAt.EqAt.int_int a t c u,by simp⟩
def Eb(A:ĉ)(s:Ä)(a:Int)(t:Tok)(c:Int)(u:Tok)(prog:ä)(w:ö)(E:Â->Ä->Prop)(Q:Â->Ä->Prop)(h:Q (.bool<|gN (a<c)) s) :
  wpAny (Õ prog w) A (richCompare .Lt (.int a t)<|.int c u) Q E s :=
 (PyProof.Rows.lt_int h:wpAny (Õ prog w) A (ì .Lt (.int a t)<|.int c u) Q E s)
section
open PySem.SeqAt
open PySem.AutoSeq1 (wpAny_loadPart')
open PySem.MeetsSeq PySem.MeetsSeq2 PySem.MeetsSeq3
def Kx(l b:Ë)(items ŉ:Array Â)(n n2:Nat)(dd dm:Option Ë)(sl ee:Array<|Option Â)(ns ms:List Int)(hi:Ā items.toList ns)(hj:Ā ŉ.toList ms) :
  Meets (Builtin.«tuple.__lt__» ⟨[.ref l,.ref b],[]⟩)
   (λ_ R s=>s.heap.get? l=eZ { cls:=.type "tuple",dict:=dd,data:=.seq items n,slots:=sl }/\s.heap.get? b=eZ { cls:=.type "tuple",dict:=dm,data:=.seq ŉ n2,slots:=ee }/\
     R (.ok<|.ret<|.bool<|lexLt ns ms) s) :=
 .of_wp λprog w A R s h=>by
  let⟨hp,g,d,tk,os⟩:=s;let⟨hl,hb,h⟩:=h;have f2:=AutoSeq1.sub_tuple_tuple;have z1:items.size=ns.length:=by rw[<-hi.length];simp
  have z2:ŉ.size=ms.length:=by rw[<-hj.length];simp
  wp_walk using Ĝ hl,Ĝ hb,wpAny_forIn_list _ (λrest b s'=>b.1=fb/\s'=⟨hp,g,d,tk,os⟩/\∃(vs ws:List Â) (cC dG:List Int),rest=vs.zip ws/\
    Ā vs cC/\Ā ws dG/\cC.length+ŉ.size=dG.length+items.size/\R (.ok<|.ret<|.bool<|lexLt cC dG) ⟨hp,g,d,tk,os⟩) _
  case turn =>
   rintro⟨y,x⟩ rest b s' ⟨bO,rfl,vs,ws,cC,dG,hz,hvi,hwi,hlen,hR⟩;cases hvi with
   |nil=>rw[Χ]at hz;cases hz
   |cons a t hvi' =>
    cases hwi with
    |nil=>rw[Ζ]at hz;cases hz
    |cons c u hwi' =>
     rw[Ŗ]at hz;injection hz with hyx hrest;injection hyx with hy hx;subst hy hx;rw[lexLt_cons]at hR;simp only[Ì]at hlen;let⟨e,he,hiff⟩:=eqAt_int A.in1 ⟨hp,g,d,tk,os⟩ a t c u;refine À<|he prog w _ _ ?_;cases e with
     |true =>
      rw[gG<|hiff.mp rfl]at hR
      wp_walk
      exact⟨rfl,rfl,_,_,_,_,hrest,hvi',hwi',by lia,hR⟩
     |false =>
      rw[gH λq=>gM (hiff.mpr q) ā]at hR;have hri:=Eb A.in1 ⟨hp,g,d,tk,os⟩ a t c u prog w
      wp_walk using hri
      exact⟨_,rfl,⇑hR⟩
  case fin =>
   rintro⟨b1,b2⟩ s' ⟨bO,rfl,vs,ws,cC,dG,hz,hvi,hwi,hlen,hR⟩;simp only at bO;subst bO;have hv:lexLt cC dG=gN (items.size<ŉ.size):=by
    cases hvi with
    |nil =>
     cases hwi with
     |nil =>simp only[Ĩ]at hlen;rw[KD];exact(gJ<|by lia).symm
     |cons c u hw =>simp only[Ĩ,Ì]at hlen;rw[JW];exact(gK<|by lia).symm
    |cons a t hv =>
     cases hwi with
     |nil =>simp only[Ĩ,Ì]at hlen;rw[Jl];exact(gJ<|by lia).symm
     |cons c u hw =>rw[Ŗ]at hz;cases hz
   rw[hv]at hR
   wp_walk
   exact⟨_,rfl,by simpa[Builtin.Tuple.tupleCompareSizes]using hR⟩
  case h =>exact⟨rfl,rfl,items.toList,ŉ.toList,ns,ms,rfl,hi,hj,by lia,h⟩
end
section
variable {prog:ä}{w:ö}{A:ĉ}{E:Â->Ä->Prop}{s:Ä}
variable {b:Ë} {items:Array Â} {Q:Â->Ä->Prop}
def lt_tupInts{l:Ë}{ŉ:Array Â}{ns ms:List Int}(hl:a8 s.heap l items)(hb:a8 s.heap b ŉ)(hi:Ā items.toList ns)(hj:Ā ŉ.toList ms)
  (hu:A.units<Ķ) (h:Q (.bool<|lexLt ns ms) s):wpAny (Õ prog w) A (ì .Lt (.ref l)<|.ref b) Q E s:=by
 let⟨⟨cls,dd,data,sl⟩,ho,hc,n,hd⟩:=id hl;let⟨⟨cls2,dm,data2,ee⟩,ho2,hc2,n2,bC⟩:=id hb;simp only at hc hd hc2 bC;subst hc hd hc2 bC;exact eF (op:=.Lt) ⟨_,ho,rfl⟩ ⟨_,ho2,rfl⟩ PySem.F.slot_tuple_lt PySem.F.entry_tuple_lt (PySem.F.args_tuple_lt_2 _ _) (Kx l b items ŉ n n2 dd dm sl ee ns ms hi hj)
  ⟨ho,ho2,show Value.bool (lexLt ns ms)≠cH/\Q (.bool<|lexLt ns ms) s from ⟨(λx=>nomatch x),h⟩⟩ hu
def cat_tup{t:Ë}{vs ws:List Â}(ht:a8 s.heap t vs.toArray)(hb:a8 s.heap b ws.toArray)(hv:vs≠[])
  (h1:ws=[]->Q (.ref t) s) (h2:ws≠[]->Q (.ref s.heap.objs.size) {s with heap:=s.heap.push {cls:=.type "tuple",data:=.seq (vs++ws).toArray}})
  (hsz:vs.length+ws.length<=Ö):wpAny (Õ prog w) A (Œ .Add (.ref t)<|.ref b) Q E s:=by
 let⟨⟨cls,dd,data,sl⟩,ho,hc,n,hd⟩:=id ht;let⟨⟨cls2,dm,data2,ee⟩,ho2,hc2,n2,bC⟩:=id hb;simp only at hc hd hc2 bC;subst hc hd hc2 bC;have e:vs.toArray++ws.toArray=(vs++ws).toArray:=by simp
 by_cases hw:ws=[]
 .exact eK ⟨_,ho,rfl⟩ ⟨_,ho2,rfl⟩ bI dy PySem.F.slot_tuple_add PySem.F.entry_tuple_add (PySem.F.args_tuple_add_2 _ _)
   (tuple_addW1 t b vs.toArray ws.toArray n n2 dd dm sl ee ⇑hv<|by simp[hw]) ⟨ho,ho2,h1 hw⟩
 .refine eK ⟨_,ho,rfl⟩ ⟨_,ho2,rfl⟩ bI dy PySem.F.slot_tuple_add PySem.F.entry_tuple_add (PySem.F.args_tuple_add_2 _ _)
   (tuple_addW2 t b vs.toArray ws.toArray n n2 dd dm sl ee ⇑hv ⇑hw<|by rw[Ð,Ð];exact hsz) ⟨ho,ho2,?_⟩
  rw[e];exact h2 hw
abbrev sIx(n d:Nat):Option Int->Nat
 |none=>d
 |some v=>if v<0 then(v+(n:Int)).toNat else min v.toNat n
def Le(n d:Nat)(hd:d<=n)(o:Option Int):sIx n d o<=n:=by
 cases o with
 |none=>exact hd
 |some v =>
  show(if v<0 then(v+(n:Int)).toNat else min v.toNat n)<=n;by_cases hv:v<0
  .rw[gG hv];lia
  .rw[gH hv];exact aK _ _
def clip_eq(v:Int)(n d:Nat):(if v<0 then max (v+(n:Int)) 0 else min v (n:Int))=((sIx n d (eZ v):Nat):Int):=by
 show(if v<0 then max (v+(n:Int)) 0 else min v (n:Int))=(((if v<0 then(v+(n:Int)).toNat else min v.toNat n):Nat):Int)
 by_cases hv:v<0
 .simp only[gG hv];lia
 .simp only[gH hv];lia
def O0(lo hi:Option Int)(n:Nat):Builtin.Slice.sliceAdjust lo hi 1 (n:Int)=(((sIx n 0 lo:Nat):Int),((sIx n n hi:Nat):Int)):=by
 have h1:¬ ((1:Int)<0):=by lia
 unfold Builtin.Slice.sliceAdjust;simp only[h1,if_false];refine Prod.ext ?_ ?_
 .cases lo with
  |none=>rfl
  |some v=>exact clip_eq v n 0
 .cases hi with
  |none=>rfl
  |some v=>exact clip_eq v n n
def OQ(i j:Nat):Builtin.Slice.slicePlaces (i:Int) (j:Int) 1=j - i:=by
 unfold Builtin.Slice.slicePlaces;have h1:(1:Int) > 0:=by lia
 simp only[h1,if_true,Int.ediv_one];split<;>lia
def JP{v:Â}{o:Option Int}{Q:Option Int->Ä->Prop}(p:Ϩ v o)(h:Q o s):wpAny (Õ prog w) A (Builtin.Slice.slicePartIndex v) Q E s:=by
 cases p with
 |none=>exact slicePart_none h
 |int i t=>exact slicePart_int h
variable {sl:Ë} {vl:Â} {vu:Â} {lo:Option Int} {hi:Option Int}
def YI{n:Nat}{Q:Int×Int×Nat->Ä->Prop}(hs:s.heap.IsSliceOf sl vl vu .none)(pl:Ϩ vl lo)(pu:Ϩ vu hi)
  (h:Q (((sIx n 0 lo:Nat):Int),1,sIx n n hi - sIx n 0 lo) s):wpAny (Õ prog w) A (Builtin.Slice.sliceApplied (.ref sl)<|pure (n:Int)) Q E s:=by
 let⟨os,hos,hcs,hds⟩:=id hs;unfold Builtin.Slice.sliceApplied Builtin.Slice.sliceFields;refine À<|À<|œ hos hds (x:=vl) rfl<|À<|œ hos hds (x:=vu) rfl<|À<|œ hos hds (x:=.none) rfl<|Æ ?_;refine À<|slicePart_none ?_;show wpAny _ _ (if((1:Int)==0)=fc then _ else _) _ _ s;rw[gH<|by decide];refine À<|JP pl<|À<|JP pu<|À<|Æ ?_;show wpAny _ _ (match Builtin.Slice.sliceAdjust lo hi 1 (n:Int)with|(lo,hi)=>pure (lo,(1:Int),Builtin.Slice.slicePlaces lo hi 1)) _ _ s;rw[O0 lo hi n];show wpAny _ _ (pure (((sIx n 0 lo:Nat):Int),(1:Int),Builtin.Slice.slicePlaces ((sIx n 0 lo:Nat):Int) ((sIx n n hi:Nat):Int) 1)) _ _ s;rw[OQ];exact Æ h
def DD(xs:Array Â)(i k:Nat):((List.range k).filterMap λ(m:Nat)=>xs[((i:Int)+(m:Int)*1).toNat]?).toArray=((xs.toList.drop i).take k).toArray:=by
 have e:(λ(m:Nat)=>xs[((i:Int)+(m:Int)*1).toNat]?)=λm=>xs[i+m]?:=by
  funext m;have:((i:Int)+(m:Int)*1).toNat=i+m:=by lia
  rw[this]
 rw[e];have:=pick_run xs i k;rw[Η]at this;have e2:((λx=>xs[x]?) ∘ λx=>i+x)=λm=>xs[i+m]?:=rfl;rw[e2]at this;rw[this]
def getItem_tuple_cut{t:Ë}(ht:a8 s.heap t items)(hs:s.heap.IsSliceOf sl vl vu .none)(pl:Ϩ vl lo)(pu:Ϩ vu hi)
  (hw:¬ (sIx items.size 0 lo=0/\sIx items.size items.size hi=items.size))
  (h:Q (.ref s.heap.objs.size) {s with heap:=s.heap.push {cls:=.type "tuple",data:=.seq ((items.toList.drop<|sIx items.size 0 lo).take<|sIx items.size items.size hi - sIx items.size 0 lo).toArray}})
  (hsz:items.size<=Ö):wpAny (Õ prog w) A (ϧ (.ref t)<|.ref sl) Q E s:=by
 have dn:sizeOk<|.seq ((items.toList.drop<|sIx items.size 0 lo).take<|sIx items.size items.size hi - sIx items.size 0 lo).toArray:=by show((items.toList.drop<|sIx items.size 0 lo).take<|sIx items.size items.size hi - sIx items.size 0 lo).toArray.size<=Ö;rw[Ð,ě,ť,ñ];lia
 have hj:sIx items.size items.size hi<=items.size:=Le _ _ (Ñ _) hi;let⟨os,hos,hcs,hds⟩:=id hs;have hTs:s.TypeIs (.ref sl) "slice":=⟨os,hos,hcs⟩
 unfold ϧ
 try with_reducible refine Ě ?_
 first|refine À (Æ ?_)|skip
 refine À (wpAny_sequenceKey ht.typeIs (by decide) ?_);refine À (ļ (name:=gO "__getitem__") ht.typeIs PyProof.Rows.slot_tuple_getitem
   (ġ PyProof.Rows.slot_tuple_getitem ht.typeIs entry_tuple_getitem ?_<|args_tuple_getitem _ _))
 show wpAny _ _ (Builtin.Tuple.tupleItemsOf (.ref t) >>= _) _ _ s;refine À<|tupleItemsOf_ ht ?_;refine À<|ϩ hTs ?_;rw[gG<|by decide];refine À<|YI hs pl pu ?_;have hno:¬ ((((sIx items.size 0 lo:Nat):Int)==0&&(1:Int)==1&&(sIx items.size items.size hi - sIx items.size 0 lo)==items.size)=fc):=by intro q;rw[bAq,bAq]at q;have q1:((sIx items.size 0 lo:Nat):Int)=0:=eq_of_beq q.1.1;have q2:sIx items.size items.size hi - sIx items.size 0 lo=items.size:=eq_of_beq q.2;exact hw ⟨by lia,by lia⟩
 show wpAny _ _ (if(((sIx items.size 0 lo:Nat):Int)==0&&(1:Int)==1&&(sIx items.size items.size hi - sIx items.size 0 lo)==items.size)=fc then _ else _) _ _ s;rw[gH hno,DD]
 first
  |exact À (m:=Builtin.Tuple.tupleExact _)<|č (Æ ⟨_,rfl,Æ h⟩) dn
  |exact À (m:=Builtin.Tuple.tupleExact _)<|č (À<|Æ<|Æ ⟨_,rfl,Æ h⟩) dn
  |exact À<|À (m:=Builtin.Tuple.tupleExact _)<|č (Æ<|Æ ⟨_,rfl,Æ h⟩) dn
  |exact À<|À (m:=Builtin.Tuple.tupleExact _)<|č (Æ ⟨_,rfl,Æ h⟩) dn
end
end HT
namespace L2
open PySem PySem.Spec PyProof.Rows
noncomputable abbrev TO:=St->Hp->(Option Int->Hp->Prop)->Prop
abbrev PO(X:Cx)(e:Option Expr)(t:TO):Prop :=
 ∀(Á:List<|Ë×Obj) (s:Ä) (σ:St) (H:Hp) (Q:Option Int->Hp->Prop),Inv X Á σ H s->t σ H Q->
  wpAny (Õ X.prog X.w) X.A (evalPart e X.env) (λu s'=>∃o H',Inv X Á σ H' s'/\Ϩ u o/\Q o H') X.xe s
abbrev Gm:TO:=λ_ H Q=>Q fb H
abbrev Qs(t:TE):TO:=λσ H Q=>t σ H λx H1=>∃i,x=.int i/\Q (eZ i) H1
def ZI{ns:List Int}:∀{us:List Â},gw (ns.map V.int) us->Ā us ns:=by
 induction ns with
 |nil=>intro us r;rw[ω]at r;cases r;exact .nil
 |cons n ns ih =>
  intro us r;rw[É]at r;cases r with
  |cons r1 r2 =>let⟨t,e⟩:=r1;subst e;exact .cons n t<|ih r2
section
variable {X:Cx}{e:Expr}{te:TE}{lo hi:Option Expr}{tl th:TO}{ç p2:Pos}
def po_none:PO X fb Gm:=by intro Á s σ H Q I h;rw[evalPart_none];exact Æ ⟨fb,H,I,.none,h⟩
def F2(h:PE X e te):PO X (eZ e)<|Qs te:=by intro Á s σ H Q I hw;rw[evalPart_some];refine thn (h Á s σ H _ I hw) λu s1 ⟨x,H1,I1,r1,q1⟩=>?_;let⟨i,rfl,q⟩:=q1;let⟨t,rfl⟩:=r1;exact⟨eZ i,H1,I1,.int i t,q⟩
abbrev SlR(X:Cx)(r:V->Option Int->Option Int->Hp->VK->Prop):Prop :=
 ∀(Á:List<|Ë×Obj) (s:Ä) (σ:St) (H:Hp) (x:V) (v vl vu:Â) (lo hi:Option Int) (sl:Ë) (Q:VK),Inv X Á σ H s->RelV x v->s.heap.IsSliceOf sl vl vu .none->Ϩ vl lo->Ϩ vu hi->r x lo hi H Q->
  ∃T id,typeLookup (.type T) "__getitem__" = pure (eZ<|.builtin id)/\s.TypeIs v T/\wpAny (Õ X.prog X.w) X.A (ϧ v<|.ref sl) (EP X Á σ Q) X.xe s
variable {r:V->Option Int->Option Int->Hp->VK->Prop}
def SlR.or{r':V->Option Int->Option Int->Hp->VK->Prop}(h:SlR X r)(h':SlR X r'):SlR X λx lo hi H Q=>r x lo hi H Q\/r' x lo hi H Q:=by
 intro Á s σ H x v vl vu lo hi sl Q I rx hs pl pu q;rcases q with q|q
 .exact h Á s σ H x v vl vu lo hi sl Q I rx hs pl pu q
 .exact h' Á s σ H x v vl vu lo hi sl Q I rx hs pl pu q
abbrev tSl(r:V->Option Int->Option Int->Hp->VK->Prop)(te:TE)(tl th:TO):TE:=λσ H Q=>te σ H λx H1=>tl σ H1 λl H2=>th σ H2 λu H3=>r x l u H3 Q
def Dl(hr:SlR X r)(he:PE X e te)(hl:PO X lo tl)(hu:PO X hi th):PE X (.Subscript e (.Slice lo hi fb p2) ç)<|tSl r te tl th:=by intro Á s σ H Q I h;refine Subscript_<|thn (he Á s σ H _ I h) λv s1 ⟨x,H1,I1,r1,q1⟩=>?_;refine wpAny_Slice<|thn (hl Á s1 σ H1 _ I1 q1) λvl s2 ⟨l,H2,I2,pl,q2⟩=>thn (hu Á s2 σ H2 _ I2 q2) λvu s3 ⟨u,H3,I3,pu,q3⟩=>?_;rw[evalPart_none];refine Æ ?_;have I4:Inv X Á σ H3 {s3 with heap:=s3.heap.push {cls:=.type "slice",data:=.fields #[vl,vu,.none]}}:=I3.kept (t':=s3.toks) λb ob q=>Å _ q;let⟨T,id,hT,ht,hg⟩:=hr Á {s3 with heap:=s3.heap.push {cls:=.type "slice",data:=.fields #[vl,vu,.none]}} σ H3 x v vl vu l u s3.heap.objs.size Q I4 r1 (Heap.IsSliceOf.new ..) pl pu q3;show wpAny (Õ X.prog X.w) X.A (dz e (.Slice lo hi fb p2) v<|.ref s3.heap.objs.size) (EP X Á σ Q) X.xe {s3 with heap:=s3.heap.push {cls:=.type "slice",data:=.fields #[vl,vu,.none]}};exact tail_any (ops:=[.ref s3.heap.objs.size,v]) ht hT hg (by with_unfolding_all rfl)
abbrev MS(xs:List V)(lo hi:Option Int):List V:=(xs.drop<|HT.sIx xs.length 0 lo).take<|HT.sIx xs.length xs.length hi - HT.sIx xs.length 0 lo
def WU(xs:List V)(lo hi:Option Int):(MS xs lo hi).length<=xs.length:=by unfold MS;rw[ě,ť];lia
abbrev Qf(K:Frag):V->Option Int->Option Int->Hp->VK->Prop:=λx lo hi H Q=>∃a xs,x=.ref a/\gq K H a xs/\
 ¬ (HT.sIx xs.length 0 lo=0/\HT.sIx xs.length xs.length hi=xs.length)/\∀p,H p=fb->Q (.ref p) (upd H p<|.tup<|MS xs lo hi)
def f9:SlR X<|Qf X.K:=by
 intro Á s σ H x v vl vu lo hi sl Q I rx hs pl pu h;let⟨a,xs,rfl,hx,hw,q⟩:=h;cases rx;let⟨ô,r,ht,hz⟩:=I.tuple hx;have hlen:ô.toArray.size=xs.length:=by rw[Ð];exact r.length.symm
 refine⟨"tuple",_,PyProof.Rows.slot_tuple_getitem.lookup,ht.typeIs,?_⟩;refine HT.getItem_tuple_cut ht hs pl pu (by rw[hlen];exact hw) ?_ (by rw[hlen];exact hz);rw[hlen];refine⟨.ref s.heap.objs.size,_,I.laid (t':=s.toks) (o:=.tup<|MS xs lo hi) (λb ob q=>Å _ q) (Ñ _) ?_,rfl,q _<|I.hok.fresh<|Ñ _⟩;exact⟨Ý (WU xs lo hi) hz,_,(r.drop<|HT.sIx xs.length 0 lo).take<|HT.sIx xs.length xs.length hi - HT.sIx xs.length 0 lo,IsTup.new _ _⟩
abbrev RJ(K:Frag):R2:=λx y H Q=>∃a b ns ms,x=.ref a/\y=.ref b/\gq K H a (ns.map V.int)/\gq K H b (ms.map V.int)/\Q (.bl<|HT.lexLt ns ms) H
def LQ(hu:X.A.units<Ķ):OpR X (ì .Lt)<|RJ X.K:=by intro Á s σ H x y v u Q I rx ry h;let⟨a,b,ns,ms,rfl,rfl,ha,hb,q⟩:=h;cases rx;cases ry;let⟨ô,r1,p1,_⟩:=I.tuple ha;let⟨bP,r2,p2,_⟩:=I.tuple hb;have i1:Ā ô.toArray.toList ns:=ZI r1;have i2:Ā bP.toArray.toList ms:=ZI r2;exact HT.lt_tupInts p1 p2 i1 i2 hu ⟨.bl<|HT.lexLt ns ms,H,I,rfl,q⟩
abbrev HR(K:Frag):R2:=λx y H Q=>∃a b xs ys,x=.ref a/\y=.ref b/\gq K H a xs/\gq K H b ys/\xs≠[]/\xs.length+ys.length<=Ö/\
 (ys=[]->Q (.ref a) H)/\(ys≠[]->∀p,H p=fb->Q (.ref p) (upd H p<|.tup<|xs++ys))
def gw.nil_iff{xs:List V}{us:List Â}(r:gw xs us):us=[]↔xs=[]:=by
 cases r with
 |nil=>simp
 |cons _ _=>simp
def Gc:OpR X (Œ .Add)<|HR X.K:=by intro Á s σ H x y v u Q I rx ry h;let⟨a,b,xs,ys,rfl,rfl,ha,hb,hx,hz,q1,q2⟩:=h;cases rx;cases ry;let⟨ô,r1,p1,_⟩:=I.tuple ha;let⟨bP,r2,p2,_⟩:=I.tuple hb;refine HT.cat_tup p1 p2 (λz=>hx<|r1.nil_iff.mp z) (λz=>⟨.ref a,H,I,rfl,q1<|r2.nil_iff.mp z⟩) (λz=>?_) (by rw[<-r1.length,<-r2.length];exact hz);refine⟨.ref s.heap.objs.size,_,I.laid (t':=s.toks) (o:=.tup<|xs++ys) (λb ob q=>Å _ q) (Ñ _) ?_,rfl,q2 (λw=>z<|r2.nil_iff.mpr w) _<|I.hok.fresh<|Ñ _⟩;exact⟨by rw[è];exact hz,_,r1.append r2,IsTup.new _ _⟩
end
abbrev ixN(n:Nat)(i:Int):Option Nat:=if 0<=i then(if i<n then eZ i.toNat else fb)else if -(n:Int)<=i then eZ (i+n).toNat else fb
variable {α:Type}
abbrev atI(xs:List α)(i:Int):Option α:=(ixN xs.length i).bind λj=>xs[j]?
variable {n:Nat} {i:Int}
def Ms{j:Nat}(h:ixN n i=eZ j):seqIndex? i n=eZ j/\j<n/\-(n:Int)<=i/\i<n:=by
 unfold ixN at h;by_cases h0:0<=i
 .rw[gG h0]at h;by_cases h1:i<n
  .rw[gG h1]at h;have e:i.toNat=j:=ï h;exact⟨by rw[bT h0 h1,e],by lia,by lia,h1⟩
  .rw[gH h1]at h;cases h
 .rw[gH h0]at h;by_cases h1:-(n:Int)<=i
  .rw[gG h1]at h;have e:(i+n).toNat=j:=ï h;exact⟨by rw[bc (by lia) h1,e],by lia,h1,by lia⟩
  .rw[gH h1]at h;cases h
def W8{xs:List α}{v:α}(h:atI xs i=eZ v):∃j,seqIndex? i xs.length=eZ j/\xs[j]?=eZ v/\j<xs.length/\-(xs.length:Int)<=i/\i<xs.length:=by
 unfold atI at h;cases e:ixN xs.length i with
 |none=>rw[e]at h;cases h
 |some j =>rw[e]at h;let⟨h1,h2,h3,h4⟩:=Ms e;exact⟨j,h1,h,h2,h3,h4⟩
abbrev Nh(b:Expr):Prop:=∀o i,subscripted b fe o i=operate [o,i] (ϧ o i)
abbrev IxR(X:Cx)(r:R2):Prop :=
 ∀(χ slice:Expr) (Á:List<|Ë×Obj) (s:Ä) (σ:St) (H:Hp) (x y:V) (v u:Â) (Q:VK),Inv X Á σ H s->RelV x v->RelV y u->r x y H Q->
  subscripted slice fe v u=operate [v,u] (ϧ v u)->wpAny (Õ X.prog X.w) X.A (dz χ slice v u) (EP X Á σ Q) X.xe s
abbrev MtR(X:Cx)(id:String)(r:V->List V->Hp->VK->Prop):Prop :=
 ∀(Á:List<|Ë×Obj) (s:Ä) (σ:St) (H:Hp) (x:V) (xs:List V) (v:Â) (us:List Â) (Q:VK),Inv X Á σ H s->RelV x v->gw xs us->r x xs H Q->
  wpAny (Õ X.prog X.w) X.A (call (.builtin id)<|v::us) (EP X Á σ Q) X.xe s
section
variable {X:Cx}{a b:Expr}{ta tb:TE}{ç:Pos}
variable {r:R2}
def IxR.or{r':R2}(h:IxR X r)(h':IxR X r'):IxR X λx y H Q=>r x y H Q\/r' x y H Q:=by
 intro χ slice Á s σ H x y v u Q I rx ry q hs;rcases q with q|q
 .exact h χ slice Á s σ H x y v u Q I rx ry q hs
 .exact h' χ slice Á s σ H x y v u Q I rx ry q hs
def MtR.or{id:String}{r r':V->List V->Hp->VK->Prop}(h:MtR X id r)(h':MtR X id r'):MtR X id λx xs H Q=>r x xs H Q\/r' x xs H Q:=by
 intro Á s σ H x xs v us Q I rx rs q;rcases q with q|q
 .exact h Á s σ H x xs v us Q I rx rs q
 .exact h' Á s σ H x xs v us Q I rx rs q
def QR(hr:IxR X r)(ha:PE X a ta)(hb:PE X b tb)(hs:Nh b):PE X (.Subscript a b ç)<|tOp r ta tb:=by intro Á s σ H Q I h;exact Subscript_ (Qb ha hb I h λv u s2 x y H2 I2 rx ry q=>hr a b Á s2 σ H2 x y v u Q I2 rx ry q<|hs _ _)
abbrev B9(K:Frag):R2:=λx y H Q=>∃p xs i v,x=.ref p/\y=.int i/\gp K H p xs/\atI xs i=eZ v/\Q v H
abbrev Rh(K:Frag):R2:=λx y H Q=>∃p xs i v,x=.ref p/\y=.int i/\gq K H p xs/\atI xs i=eZ v/\Q v H
abbrev RX:R2:=λx y H Q=>∃z i c,x=.str z/\y=.int i/\z.length<=Ö/\atI z.cps.toList i=eZ c/\Q (.str ⟨#[c]⟩) H
def ix_list:IxR X<|B9 X.K:=by
 intro χ slice Á s σ H x y v u Q I rx ry h hs;let⟨p,xs,i,z,rfl,rfl,hq,he,q⟩:=h;cases rx;let⟨t,rfl⟩:=ry;let⟨ô,r,pl,hz⟩:=I.list hq;let⟨j,h1,h2,h3,h4,h5⟩:=W8 he;let⟨w,ew,bw⟩:=r.get h2;have hl:=r.length;have hn:=Xg;have fin:EP X Á σ Q w s:=⟨z,H,I,bw,q⟩
 by_cases h0:0<=i
 .have hj:i.toNat=j:=by
   rw[bT h0 h5]at h1;exact ï h1
  exact item_listR pl.isList h0 (by lia) (by rw[hj];simpa using ew) fin hs
 .have hj:(i+(ô.toArray.size:Int)).toNat=j:=by
   rw[bc (by lia) h4]at h1;rw[Ð,<-hl];exact ï h1
  exact eL (x:=w) pl.isList.typeIs slot_list_getitem.lookup
   (eM (Q:=λr s'=>r=w/\EP X Á σ Q r s') pl.isList (by lia) (by rw[Ð]<;>lia) (by lia) (by rw[hj];simpa using ew) ⟨rfl,fin⟩) hs
def fm:IxR X<|Rh X.K:=by
 intro χ slice Á s σ H x y v u Q I rx ry h hs;let⟨p,xs,i,z,rfl,rfl,hq,he,q⟩:=h;cases rx;let⟨t,rfl⟩:=ry;let⟨ô,r,pl,hz⟩:=I.tuple hq;let⟨j,h1,h2,h3,h4,h5⟩:=W8 he;let⟨w,ew,bw⟩:=r.get h2;have hl:=r.length;have hn:=Xg;have fin:EP X Á σ Q w s:=⟨z,H,I,bw,q⟩
 exact eL (x:=w) pl.typeIs slot_tuple_getitem.lookup
  (getItem_tuple (j:=j) (Q:=λr s'=>r=w/\EP X Á σ Q r s') pl (by lia) (by lia) (by rw[Ð,<-hl];exact h1) ⇑ew ⟨rfl,fin⟩) hs
def Lb:IxR X RX:=by
 intro χ slice Á s σ H x y v u Q I rx ry h hs;let⟨z,i,c,rfl,rfl,hz,he,q⟩:=h;let⟨t,rfl⟩:=rx;let⟨t',rfl⟩:=ry;let⟨j,h1,h2,h3,h4,h5⟩:=W8 he;have hl:z.cps.toList.length=z.length:=by simp[Str.length]
 rw[hl]at h1 h4 h5;have hn:=Xg;exact tail_any (typeIs_str s z t) slot_str_getitem.lookup (getItem_str (c:=c) (by
   have e1:gN (i < -(2 ^ 63:Int))=fe:=gJ (by lia)
   have e2:gN (i≥2 ^ 63)=fe:=gJ (by lia)
   rw[e1,e2,θ]) (by rw[h1];simpa using h2) ⟨.str ⟨#[c]⟩,H,I.tok _,⟨_,rfl⟩,q⟩) hs
abbrev rIx(K:Frag):R2:=λx y H Q=>B9 K x y H Q\/Rh K x y H Q\/RX x y H Q
def ix_seq:IxR X<|rIx X.K:=ix_list.or (fm.or Lb)
def OM(ô:List Â)(n j:Nat)(u:Â):Λ (·.setIfInBounds j u) {cls:=.type "list",data:=.seq ô.toArray n}={cls:=.type "list",data:=.seq (ô.set j u).toArray n}:=by simp[Λ]
def Inv.lst{Á:List (Ë×Obj)}{σ:St}{H:Hp}{s:Ä}{p:Ë}{xs:List V}(I:Inv X Á σ H s)(h:H p=eZ (.lst xs)) :
  ∃(ô:List Â) (n:Nat),gw xs ô/\s.heap.get? p=eZ {cls:=.type "list",data:=.seq ô.toArray n}/\xs.length<=Ö:=by
 let⟨z,ô,n,r,e⟩:=I.hok p _ h;exact⟨ô,n,r,e,z⟩
variable {Á:List (Ë×Obj)} {σ:St} {H:Hp} {s:Ä}
def Inv.lstUpd{p:Ë}{xs ys:List V}{ô its':List Â}{n':Nat}{f:Obj->Obj}(I:Inv X Á σ H s)(h:H p=eZ (.lst xs))
  (ho:s.heap.get? p=eZ {cls:=.type "list",data:=.seq ô.toArray n}) (hf:f {cls:=.type "list",data:=.seq ô.toArray n}={cls:=.type "list",data:=.seq its'.toArray n'}) (r:gw ys its') (hz:ys.length<=Ö) (t:Nat) :
  Inv X Á σ (upd H p<|.lst ys) {s with heap:=s.heap.update p f,toks:=t}:=by
 have e:(s.heap.update p f).get? p=eZ {cls:=.type "list",data:=.seq its'.toArray n'}:=by rw[ė f ho (by rw[hf]<;>rfl),hf]
 refine I.write (x:=p) (e:=p) (by rw[h];trivial) (.inl rfl) (λb u hb q=>(í _ _<|Ne.symm hb).trans q) ⟨_,e⟩ ?_;exact⟨hz,its',n',r,e⟩
abbrev HL:V->V->V->Hp->(Hp->Prop)->Prop:=λo i v H Q=>∃p xs k j,o=.ref p/\i=.int k/\H p=eZ (.lst xs)/\ixN xs.length k=eZ j/\Q (upd H p<|.lst<|xs.set j v)
def Nu:PSet X HL:=by
 intro Á s σ H o i v ov iv u Q I ro ri rv h;let⟨p,xs,k,j,rfl,rfl,hp,hj,q⟩:=h;cases ro;let⟨t,rfl⟩:=ri;let⟨ô,n,r,ho,hz⟩:=I.lst hp;let⟨h1,h2,h3,h4⟩:=Ms hj;have hl:=r.length;have hn:=Xg;have I':Inv X Á σ (upd H p<|.lst<|xs.set j v) {s with heap:=s.heap.update p (Λ (·.setIfInBounds j u))} :=
  I.lstUpd hp ho (OM ô n j u) (r.set rv j) (by rw[ο];exact hz) s.toks
 by_cases h0:0<=k
 .have hk:k.toNat=j:=by
   rw[bT h0 h4]at h1;exact ï h1
  exact PySem.W.ki_setAt ho h0 (by lia) (by rw[Ð,<-hl];exact h4) (by rw[hk];exact⟨_,I',q⟩)
 .have hk:(k+(ô.toArray.size:Int)).toNat=j:=by
   rw[bc (by lia) h3]at h1;rw[Ð,<-hl];exact ï h1
  exact PySem.W.ki_setBack ho (by lia) (by rw[Ð,<-hl];exact h3) (by lia) (by rw[hk];exact⟨_,I',q⟩)
def M4(lo hi:Option Int)(n:Nat):(Β lo hi fb n).1=((HT.sIx n 0 lo:Nat):Int)/\(Β lo hi fb n).2.1=((HT.sIx n n hi:Nat):Int)/\(Β lo hi fb n).2.2=1:=by
 refine⟨?_,?_,rfl⟩
 .cases lo with
  |none=>simp[Β,HT.sIx]
  |some i =>
   simp only[Β,HT.sIx,dQ,show(1:Int) > 0 by decide,if_true];by_cases h:i<0
   .simp only[h,if_true]<;>lia
   .simp only[h,if_false]<;>lia
 .cases hi with
  |none=>simp[Β,HT.sIx]
  |some i =>
   simp only[Β,HT.sIx,dQ,show(1:Int) > 0 by decide,if_true];by_cases h:i<0
   .simp only[h,if_true]<;>lia
   .simp only[h,if_false]<;>lia
def Kj(ô:List Â)(lo hi:Option Int):slicePick ô.toArray lo hi fb=((ô.drop<|HT.sIx ô.length 0 lo).take<|HT.sIx ô.length ô.length hi - HT.sIx ô.length 0 lo).toArray:=by let⟨h1,h2,h3⟩:=M4 lo hi ô.toArray.size;unfold slicePick;rw[h1,h2,h3];simp only[sliceRange_one,pick_run,Ð]<;>rfl
abbrev QP(K:Frag):V->Option Int->Option Int->Hp->VK->Prop:=λx lo hi H Q=>∃a xs,x=.ref a/\gp K H a xs/\∀p,H p=fb->Q (.ref p) (upd H p<|.lst<|MS xs lo hi)
def sl_list:SlR X<|QP X.K:=by intro Á s σ H x v vl vu lo hi sl Q I rx hs pl pu h;let⟨a,xs,rfl,hx,q⟩:=h;cases rx;let⟨ô,r,ht,hz⟩:=I.list hx;have hlen:=r.length;refine⟨"list",_,slot_list_getitem.lookup,ht.isList.typeIs,?_⟩;refine wpAny_getItem_list_slice ht.isList hs pl pu .none (by simp) ?_ (by rw[Ð]<;>lia);rw[Kj,<-hlen];refine⟨.ref s.heap.objs.size,_,I.laid (t':=s.toks) (o:=.lst<|MS xs lo hi) (λb ob q=>Å _ q) (Ñ _) ?_,rfl,q _<|I.hok.fresh<|Ñ _⟩;exact⟨Ý (WU xs lo hi) hz,_,0,(r.drop<|HT.sIx xs.length 0 lo).take<|HT.sIx xs.length xs.length hi - HT.sIx xs.length 0 lo,Ò _ rfl⟩
abbrev eqV:V->V->Bool
 |.non,.non=>fc
 |.bl a,.bl b=>a==b
 |.bl a,.int b=>(if a then 1 else 0)==b
 |.int a,.bl b=>a==(if b then 1 else 0)
 |.int a,.int b=>a==b
 |.str a,.str b=>a==b
 |_,_=>fe
abbrev inV(x:V)(xs:List V):Bool:=xs.any λy=>eqV y x
def MK:OpR X (ì .NotIn) λx y H Q=>∃i j,x=.str i/\y=.str j/\Q (.bl (!(!(Builtin.Str.occurrences j i 0 j.length 1).isEmpty))) H:=by intro Á s σ H x y v u Q I rx ry h;let⟨i,j,rfl,rfl,q⟩:=h;let⟨t,rfl⟩:=rx;let⟨t',rfl⟩:=ry;exact notIn_str ⟨.bl _,H,I,rfl,q⟩
def call_len_seq:fq X (.builtin "len") λxs H Q=>∃p ys,xs=[.ref p]/\(gp X.K H p ys\/gq X.K H p ys)/\Q (.int ys.length) H:=by
 intro Á s σ H xs us Q I r h;let⟨p,ys,rfl,hq,q⟩:=h;let⟨u,rfl,rx⟩:=Yv r;cases rx;have hn:=Xg;rcases hq with hq|hq
 .obtain⟨ô,r',pl,hz⟩:=I.list hq;have hlen:=r'.length;exact Calls.call_len_list pl.isList (by simp only[Ð]<;>lia) ⟨.int ys.length,H,I.tok _,⟨s.toks+1,by rw[Ð,hlen]⟩,q⟩
 .obtain⟨ô,r',pl,hz⟩:=I.tuple hq;have hlen:=r'.length;exact len_tuple pl (by simp only[Ð]<;>lia) ⟨.int ys.length,H,I.tok _,⟨s.toks+1,by rw[Ð,hlen]⟩,q⟩
def M8:fq X (.builtin "len") λxs H Q=>∃z,xs=[.str z]/\z.length<=Ö/\Q (.int z.length) H:=by intro Á s σ H xs us Q I r h;let⟨z,rfl,hz,q⟩:=h;let⟨u,rfl,t,rfl⟩:=Yv r;have hn:=Xg;exact len_str (by lia) ⟨.int z.length,H,I.tok _,⟨_,rfl⟩,q⟩
def fq.or{f:Â}{r r':List V->Hp->VK->Prop}(h:fq X f r)(h':fq X f r'):fq X f λxs H Q=>r xs H Q\/r' xs H Q:=by
 intro Á s σ H xs us Q I rs q;rcases q with q|q
 .exact h Á s σ H xs us Q I rs q
 .exact h' Á s σ H xs us Q I rs q
def Mu:fq X (.type "list") λxs H Q=>∃p ys,xs=[.ref p]/\(gp X.K H p ys\/gq X.K H p ys)/\∀l,H l=fb->Q (.ref l) (upd H l<|.lst ys):=by
 intro Á s σ H xs us Q I r h;let⟨p,ys,rfl,hq,q⟩:=h;let⟨u,rfl,rx⟩:=Yv r;cases rx;have fin:∀(ô:List Â),gw ys ô->ys.length<=Ö->∀(h':Ć) (c':Nat),(∀b o',s.heap.get? b=eZ o'->h'.get? b=eZ o')->
   h'.get? s.heap.objs.size=eZ {cls:=.type "list",dict:=fb,data:=.seq ô.toArray c',slots:=#[]}->EP X Á σ Q (.ref s.heap.objs.size) {s with heap:=h'}:=λô r' hz h' c' kp e =>
  ⟨.ref s.heap.objs.size,_,I.laid (t':=s.toks) kp (Ñ _) (show fu X.prog X.w _ h' _ (.lst ys) from ⟨hz,ô,c',r',e⟩),rfl,q _<|I.hok.fresh<|Ñ _⟩
 rcases hq with hq|hq
 .obtain⟨ô,r',pl,hz⟩:=I.list hq;have hlen:=r'.length;let⟨o,ho,hc,n,hd⟩:=pl.isList;exact call_list_seq p (.inl rfl) ho hc hd (λh' c' kp e=>fin ô r' hz h' c' kp e) (by simp only[Ð]<;>lia)
 .obtain⟨ô,r',pl,hz⟩:=I.tuple hq;have hlen:=r'.length;let⟨o,ho,hc,n,hd⟩:=pl;exact call_list_seq p (.inr rfl) ho hc hd (λh' c' kp e=>fin ô r' hz h' c' kp e) (by simp only[Ð]<;>lia)
def Ko:fq X (.type "tuple") λxs H Q=>∃p ys,xs=[.ref p]/\((gp X.K H p ys/\∀l,H l=fb->Q (.ref l) (upd H l<|.tup ys))\/(gq X.K H p ys/\Q (.ref p) H)):=by
 intro Á s σ H xs us Q I r h;let⟨p,ys,rfl,h⟩:=h;let⟨u,rfl,rx⟩:=Yv r;cases rx;rcases h with⟨hq,q⟩|⟨hq,q⟩
 .obtain⟨ô,r',pl,hz⟩:=I.list hq;have hlen:=r'.length;refine call_tuple_list pl.isList (λh' kp=>?_) (by simp only[Ð]<;>lia);have I1:Inv X Á σ H {s with heap:=h'}:=I.kept (t':=s.toks) kp;have I2:Inv X Á σ (upd H h'.objs.size<|.tup ys) {s with heap:=h'.push {cls:=.type "tuple",data:=.seq ô.toArray}} :=
   I1.laid (t':=s.toks) (λb o e=>Å _ e) (Ñ _) (show fu X.prog X.w _ _ _ (.tup ys) from ⟨hz,ô,r',IsTup.new _ _⟩)
  exact⟨.ref h'.objs.size,_,I2,rfl,q _<|I1.hok.fresh<|Ñ _⟩
 .obtain⟨ô,r',pl,hz⟩:=I.tuple hq;exact call_tuple_same pl ⟨.ref p,H,I,rfl,q⟩
abbrev tyV(K:Frag)(T:String)(x:V)(H:Hp):Prop:=match x with
 |.str _=>T = "str"
 |.int _=>T = "int"
 |.ref p=>(T = "list"/\∃xs,gp K H p xs)\/(T = "tuple"/\∃o,K.lookup p=eZ o/\o.cls=.type "tuple"/\o.dict=fb)\/
   (T = "dict"/\((∃kvs,H p=eZ (.dK kvs))\/∃kvs,H p=eZ (.dT kvs)))\/(T = "set"/\∃S n,H p=eZ (.set S n))
 |_=>False
def IT{T:String}{x:V}{v:Â}(I:Inv X Á σ H s)(r:RelV x v)(ty:tyV X.K T x H) :
  s.TypeIs v T/\∀a,v=.ref a->∃ob,s.heap.get? a=eZ ob/\ob.dict=fb:=by
 cases x with
 |str z =>let⟨t,rfl⟩:=r;cases (show T = "str" from ty);exact⟨typeIs_str s z t,λ_ e=>nomatch e⟩
 |int i =>let⟨t,rfl⟩:=r;cases (show T = "int" from ty);exact⟨typeIs_int s i t,λ_ e=>nomatch e⟩
 |ref p =>
  cases r;rcases ty with⟨rfl,xs,hq⟩|⟨rfl,o,hk,hc,hd⟩|⟨rfl,hk⟩|⟨rfl,S,n,hk⟩
  .obtain⟨ô,_,pl,_⟩:=I.list hq;refine⟨pl.isList.typeIs,λa e=>?_⟩;cases e;let⟨o,n,e,c,hd,_⟩:=pl;exact⟨o,e,hd⟩
  .refine⟨⟨o,I.kIn p o hk,hc⟩,λa e=>?_⟩;cases e;exact⟨o,I.kIn _ o hk,hd⟩
  .have z:∃o,s.heap.get? p=eZ o/\o.ExactDict:=by
    rcases hk with⟨kvs,hk⟩|⟨kvs,hk⟩
    .obtain⟨_,_,_,_,o,_,_,e,ex,_⟩:=I.hok p _ hk;exact⟨o,e,ex⟩
    .obtain⟨_,_,_,_,o,_,_,e,ex,_⟩:=I.hok p _ hk;exact⟨o,e,ex⟩
   let⟨o,e,ex⟩:=z;refine⟨⟨o,e,ex.1⟩,λa e2=>?_⟩;cases e2;exact⟨o,e,ex.2.1⟩
  .obtain⟨o,_,_,_,e,ex,_⟩:=I.hok p _ hk;refine⟨⟨o,e,ex.1⟩,λa e2=>?_⟩;cases e2;exact⟨o,e,ex.2.1⟩
 |_=>exact ă ty
abbrev tBM(K:Frag)(T:String)(r:V->List V->Hp->VK->Prop)(to:TE)(t:TA):TE:=λσ H Q=>to σ H λx H1=>tyV K T x H1/\t σ H1 λxs H2=>r x xs H2 Q
variable {o e:Expr}{es:List Expr}{to:TE}{t:TA}{name:Str}{Ł Ő:Pos}{T id:String}{r:V->List V->Hp->VK->Prop}
def Rj(pa:PlainAttrs T)(slot:Slot T name id)(hty:eN (.builtin id)=pure (.type "method_descriptor"))(hm:MtR X id r)(ho:PE X o to)(ha:PA X (e::es) t)
  (aR:ĩ o name X.env (eval o X.env)=eval o X.env:=by rfl)
  (aS:((Ď Ő<|Ï (e::es) X.env).all (λx=>!x.1)&&(Ŭ Ő<|ĺ [] X.env).all (λx=>x.1.isSome)
    && gN ((e::es).length+([]:List be).length+(if([]:List be).isEmpty then 0 else 1)<30))=fc:=by rfl)
  (aT:(Ł.endLine==Ő.line)=fc:=by rfl) (hs:Ï (e::es) X.env=(fe,eval e X.env)::Ï es X.env:=by rfl) (cV:(Ď Ő<|Ï es X.env).any (·.1)=fe:=by rfl) :
  PE X (.Call (.Attribute o name Ł) (e::es) [] Ő) (tBM X.K T r to t):=by
 intro Á s σ H Q I h;refine wpAny_Call_method_late aR aS aT rfl<|thn (ho Á s σ H _ I h) λv s1 ⟨x,H1,I1,r1,ty,q1⟩=>?_;let⟨h1,h2⟩:=IT I1 r1 ty;refine⟨T,id,pa,slot,hty,h1,h2,?_⟩;have hA:=ha Ő Á s1 σ H1 _ I1 q1;rw[hs]at hA ⊢;refine Calls.callWith_builtin (by show(fe||(Ď Ő<|Ï es X.env).any (·.1))=fe;rw[cV]<;>rfl)<|Calls.evalArgs_plain ?_;exact thn hA λus s2 ⟨vs,H2,I2,r2,q2⟩=>hm Á s2 σ H2 x vs v us Q I2 r1 r2 q2
/- xs.append(e),list.index on a module's tuple .. are MtR facts of 06m -/
end
abbrev MtM(X:Cx)(id:String)(r:V->List V->Hp->VK->Prop):Prop :=
 ∀(Á:List<|Ë×Obj) (s:Ä) (σ:St) (H:Hp) (x:V) (xs:List V) (v:Â) (us:List Â) (Q:VK),Inv X Á σ H s->RelV x v->gw xs us->r x xs H Q->
  wpAny (Õ X.prog X.w) X.A (call (.builtin id)<|v::us) (EP X Á σ Q) X.xe s
variable {x:V} {us:List Â}
def gw.one(r:gw [x] us):∃u,us=[u]/\RelV x u:=Yv r
def gw.two{y:V}(r:gw [x,y] us):∃u v,us=[u,v]/\RelV x u/\RelV y v:=Ma r
def gw.eraseIdx:∀{xs:List V}{us:List Â}(i:Nat),gw xs us->gw (xs.eraseIdx i) (us.eraseIdx i)
 |_,_,_,.nil=>.nil
 |_,_,0,.cons _ t=>t
 |_,_,i+1,.cons r t=>.cons r<|gw.eraseIdx i t
def gw.rep{xs:List V}{us:List Â}(h:gw xs us):∀k:Nat,gw (Ø k xs).flatten (Ø k us).flatten
 |0=>.nil
 |k+1=>by rw[đ,đ,ŋ,ŋ];exact gw.append h<|gw.rep h k
def K6{α:Type}:∀(l:List α) (i:Nat),(l.eraseIdx i).length<=l.length
 |[],_=>Ñ _
 |_::_,0=>Ŏ _
 |_::r,i+1=>ϐ<|K6 r i
def K2(ô:List Â):∀(k:Nat) (Ĵ:List Â),
  dR (λx1 x2=>x1++x2) Ĵ.toArray (Ø k ô.toArray)=(Ĵ++(Ø k ô).flatten).toArray
 |0,Ĵ=>by simp
 |k+1,Ĵ=>by
  have e:Ĵ.toArray++ô.toArray=(Ĵ++ô).toArray:=by simp
  have e2:(Ĵ++ô)++(Ø k ô).flatten=Ĵ++(Ø (k+1) ô).flatten:=by rw[đ,ŋ,ĸ]
  rw[<-e2,<-K2 ô k (Ĵ++ô),<-e,đ,ů]
section
variable {X:Cx}{Á:List (Ë×Obj)}{σ:St}{H:Hp}{s:Ä}{l b:Ë}{xs ys zs:List V}
variable {ô:List Â} {n:Nat} {t':Nat}
def Inv.lset{its':List Â}{f:Array Â->Array Â}(I:Inv X Á σ H s)(hH:H l=eZ (.lst xs))
  (e:s.heap.get? l=eZ {cls:=.type "list",data:=.seq ô.toArray n}) (hf:f ô.toArray=its'.toArray) (hv:gw ys its') (hz:ys.length<=Ö) :
  Inv X Á σ (upd H l<|.lst ys) {s with heap:=s.heap.update l<|Λ f,toks:=t'}:=by
 have q:=PySem.IsL.update e f;rw[hf]at q;refine I.write (x:=l) (e:=l) (by rw[hH];exact trivial) (.inl rfl) (λb' u hb hu=>(í s.heap (Λ f)<|Ne.symm hb).trans hu) ⟨_,q⟩ ?_;exact⟨hz,its',_,hv,q⟩
def Inv.lnew(I:Inv X Á σ H s)(hv:gw ys ô)(hz:ys.length<=Ö) :
  Inv X Á σ (upd H s.heap.objs.size<|.lst ys) {s with heap:=s.heap.push {cls:=.type "list",data:=.seq ô.toArray},toks:=t'} :=
 I.laid (λ_ _ q=>Å _ q) (Ñ _) ⟨hz,ô,0,hv,Ò _ rfl⟩
def Inv.fresh(I:Inv X Á σ H s):H s.heap.objs.size=fb:=I.hok.fresh (Ñ _)
def Inv.lstM(I:Inv X Á σ H s)(hH:H l=eZ (.lst xs)):xs.length<=Ö/\∃(ô:List Â) (n:Nat),gw xs ô/\xs.length=ô.length/\s.heap.get? l=eZ {cls:=.type "list",data:=.seq ô.toArray n}:=by let⟨z,ô,n,r,e⟩:=I.hok l _ hH;exact⟨z,ô,n,r,r.length,e⟩
def CA(h:n<=Ö):Builtin.List.listTooLong n=fe:=by unfold Builtin.List.listTooLong;exact gJ (by lia)
end
section
variable {X:Cx}
abbrev UM:V->List V->Hp->VK->Prop:=λx vs H Q=>∃l xs y,x=.ref l/\vs=[y]/\H l=eZ (.lst xs)/\xs.length<Ö/\Q .non (upd H l<|.lst<|xs++[y])
def Bc:MtM X "list.append" UM:=by intro Á s σ H x vs v us Q I rx rv h;let⟨l,xs,y,rfl,rfl,hH,hz,q⟩:=h;cases rx;let⟨u,rfl,ru⟩:=rv.one;let⟨z,ô,n,r,hl,e⟩:=I.lstM hH;refine cI F.slot_list_append ⟨_,e,rfl⟩ F.entry_list_append (F.args_list_append_2 _ _) (PySem.list_append l ô.toArray n u<|by rw[Ð];lia) ⟨e,?_⟩;refine⟨.non,_,I.lset (its':=ô++[u]) hH e (by simp) (r.append<|.cons ru .nil) ?_,rfl,q⟩;rw[è,cJ];lia
abbrev Cf:V->List V->Hp->VK->Prop:=λx vs H Q=>∃l xs i k y,x=.ref l/\vs=[.int i]/\H l=eZ (.lst xs)/\-(2 ^ 63)<=i/\i<2 ^ 63/\seqIndex? i xs.length=eZ k/\xs[k]?=eZ y/\Q y (upd H l<|.lst<|xs.eraseIdx k)
def E1:MtM X "list.pop" Cf:=by
 intro Á s σ H x vs v us Q I rx rv h;let⟨l,xs,i,k,y,rfl,rfl,hH,h1,h2,hk,hy,q⟩:=h;cases rx;let⟨u,rfl,ru⟩:=rv.one;let⟨t,rfl⟩:=ru;let⟨z,ô,n,r,hl,e⟩:=I.lstM hH;let⟨w,hw,bw⟩:=r.get hy;refine cI F.slot_list_pop ⟨_,e,rfl⟩ F.entry_list_pop (F.args_list_pop_2 _ _)
  (MeetsSeq.list_pop_at l ô.toArray n i t k w (fitsIndex_both h1 h2) (by rw[Ð,<-hl];exact hk) (by rw[<-Ą];exact hw)<|by rw[Ð];lia) ⟨e,?_⟩
 refine⟨y,_,I.lset (its':=ô.eraseIdx k) hH e ?_ (r.eraseIdx k) ?_,bw,q⟩
 .show ô.toArray.eraseIdxIfInBounds k=(ô.eraseIdx k).toArray;rw[List.eraseIdxIfInBounds_toArray]
 .have:=K6 xs k;lia
abbrev Ru:R2:=λx y H Q=>∃l b xs zs,x=.ref l/\y=.ref b/\H l=eZ (.lst xs)/\H b=eZ (.lst zs)/\xs.length+zs.length<=Ö/\∀p,H p=fb->Q (.ref p) (upd H p<|.lst<|xs++zs)
def Pj:OpR X (Œ .Add) Ru:=by
 intro Á s σ H x y v u Q I rx ry h;let⟨l,b,xs,zs,rfl,rfl,hH,hB,hz,q⟩:=h;cases rx;cases ry;let⟨z,ô,n,r,hl,e⟩:=I.lstM hH;let⟨z2,bP,n2,r2,hl2,e2⟩:=I.lstM hB;refine PySem.P.add_list e e2 ?_ (by rw[Ð,Ð];lia);have ea:ô.toArray++bP.toArray=(ô++bP).toArray:=by simp
 rw[ea];exact⟨.ref _,_,I.lnew (t':=s.toks) (r.append r2) (by rw[è];lia),rfl,q _ I.fresh⟩
abbrev Ql:R2:=λx y H Q=>∃l k xs,x=.ref l/\y=.int k/\H l=eZ (.lst xs)/\-(2 ^ 63)<=k/\k<2 ^ 63/\xs.length*k.toNat<=Ö/\
 ∀p,H p=fb->Q (.ref p) (upd H p<|.lst (Ø k.toNat xs).flatten)
def Fi{α:Type}(xs:List α)(k:Nat):(Ø k xs).flatten.length=k*xs.length:=by
 induction k with
 |zero=>simp
 |succ k ih=>rw[đ,ŋ,è,ih,Nat.succ_mul,Nat.add_comm]
def op_rep:OpR X (Œ .Mult) Ql:=by
 intro Á s σ H x y v u Q I rx ry h;let⟨l,k,xs,rfl,rfl,hH,h1,h2,hz,q⟩:=h;cases rx;let⟨t,rfl⟩:=ry;let⟨z,ô,n,r,hl,e⟩:=I.lstM hH;have hlen:ô.toArray.size*k.toNat<=Ö:=by rw[Ð,<-hl];exact hz
 have hcap:¬ ô.toArray.size*k.toNat > (2 ^ 63 - 1) / 8:=by
  have:(Ö:Nat)<=(2 ^ 63 - 1) / 8:=by decide
  lia
 have hfit:¬ (!Builtin.List.listFitsIndex k)=fc:=by rw[fitsIndex_both h1 h2];exact ā
 have hlong:¬ Builtin.List.listTooLong (ô.toArray.size*k.toNat)=fc:=by rw[CA hlen];exact ā
 have hnew:dR (λx1 x2=>x1++x2) #[] (Ø (if ô.toArray.isEmpty=fc then 0 else k.toNat) ô.toArray)=(Ø k.toNat ô).flatten.toArray:=by
  have f0:∀m:Nat,dR (λx1 x2=>x1++x2) #[] (Ø m ô.toArray)=(Ø m ô).flatten.toArray:=λm=>by have:=K2 ô m [];rw[List.nil_append]at this;exact this
  rw[f0];cases ô with
  |nil=>simp
  |cons a r'=>rw[gH<|by simp]
 refine wpAny_binaryOp_repeat_ref (T:="list") (U:="int") (by decide) ⟨_,e,rfl⟩ (λs'=>typeIs_int s' k t) noFill_list_mul F.fills_int_mul F.slot_int_rmul repeat_list F.slot_int_index.lookup
  (cI F.slot_int_rmul (typeIs_int s k t) F.entry_int_rmul (F.args_int_rmul_2 _ _) (int___rmul___int_list k t l ô.toArray n)
    ⟨e,rfl,⟨_,e,rfl⟩,cI F.slot_list_mul ⟨_,e,rfl⟩ F.entry_list_mul (F.args_list_mul_2 _ _) (AutoListH.list___mul___list_int_3 l ô.toArray n k t hfit hcap hlong) ⟨e,?_⟩⟩)
 rw[hnew];exact⟨.ref _,_,I.lnew (t':=s.toks) (r.rep k.toNat) (by rw[Fi,Nat.mul_comm];exact hz),rfl,q _ I.fresh⟩
end
end L2
namespace Att
open PySem PySem.W PySem.Calls PyProof.Rows
variable {P:Params} {h:Ć}
def WW:∀(ns:List Int) (vs:List Â),WellAll P h vs (ns.map WData.int)->Ā vs ns:=by
 intro ns;induction ns with
 |nil =>intro vs w;rw[ω]at w;cases w;exact .nil
 |cons n ns ih =>
  intro vs w;rw[É]at w;cases w with
  |cons a b =>cases a;exact .cons _ _<|ih _ b
variable {l:OpenLaw} {n:Nat}
def AC(hn:l.most=eZ n){args:List WData}{vals:List Â}
  (hpre:l.row.toRowW.claim.pre args=fc) (hwl:WellAll P h vals args) :
  ∃a vs ns,vals=[Value.ref a]/\args=[WData.list<|ns.map WData.int]/\h.get? a=eZ {cls:=.type "list",data:=.seq vs.toArray}/\Ā vs ns/\ns.length<=n:=by
 have hsh:WShape.hasAll [] args [.list .int]=fc:=(pre_splitW hpre).1;have hc:l.pre.holds [] {args:=args}=fc:=(pre_splitW hpre).2;let⟨d,r,rfl,h1,h2⟩:=hasAllW_cons hsh;obtain rfl:=hasAllW_nil h2;let⟨xs,rfl,h3⟩:=hasW_list h1;let⟨ns,rfl⟩:=items_int h3;have hlen:ns.length<=n:=by
  unfold OpenLaw.pre at hc;have h4:(WTm.not<|.lt (.lit<|.int (n:Int))<|.len<|.arg 0).holds [] {args:=[.list<|ns.map .int]}=fc:=by have h4:=(holds_andW hc).1;rw[hn]at h4;exact h4
  have h5:=condW_of h4<|w_not<|w_lt w_lit<|w_len_list<|w_arg rfl;rw[Ã]at h5;refine Nat.le_of_not_lt λq=>?_;have q':(n:Int)<((ns.length:Nat):Int):=by lia
  first
   |(rw[gK q']at h5;exact gM h5<|by decide)
   |(simp at h5;lia)
 cases hwl with
 |cons w1 w2 =>
  cases w2;cases w1 with
  |list ho hall=>exact⟨_,_,ns,rfl,rfl,ho,WW ns _ hall,hlen⟩
def BG(l:OpenLaw)(args:List WData):l.row.toRowW.claim.post args (.bool fc) args=fc :=
 postW_of (r:=l.row.toRowW) (X:=(fc==fc))
  (show WShape.has [] (.bool fc) .bool=fc by first|rfl|decide|simp[WShape.has,WShape.arms,WShape.armsAll])
  (show(WTm.eq .res<|.lit<|.bool fc).value [] {args:=args,res:=eZ<|.bool fc,after:=args}=eZ (.bool<|fc==fc) from w_eq_bool (w_res rfl) w_lit) rfl
def attach_call{q:ä}{loose:List Str}{XP:(Str->Option Â)->Ć->Prop}{YP:ö->Ć->Prop}{d:DefRec}
  (hn:l.most=eZ n) (hdf:d.params.defaults=[])
  (call:∀(w:ö) (s₀ ģ:Ä) (mg mb:Str->Option Â) (fa:Ë) (o:Obj) (pm cd doc:Â) (a:Ë) (vs:List Â) (ns:List Int),
    Ground q loose [] XP w s₀ mg mb ģ.heap->YP w ģ.heap->
    ģ.heap.get? fa=eZ o->o.data=.func (docDef d.name d.params d.body d.scope pm cd doc)->ģ.heap.CodeRec cd d.name->mg d.name=eZ (.ref fa)->
    ģ.heap.get? a=eZ {cls:=.type "list",data:=.seq vs.toArray}->Ā vs ns->ns.length<=n->ģ.gens=#[]->
    codeAny (Õ l.prog w) aw (.call (.ref fa) ⟨[.ref a],[]⟩) (λr s'=>r=.ok (.ret<|.bool fc)/\OldK ģ.heap s'.heap/\s'.os=ģ.os/\ϒ s'.gens) ģ) :
  WalkO q loose XP YP l.row.toRowW d [] (λf vs=>PySem.call f vs):=by
 intro w s₀ ģ mg mb G Y fa o pm cd doc dV kV ho hd bB hD hmg hg args vals as hpre hlay hrd hwl hlo;obtain rfl:dV=.none:=Dflts.none hD hdf;obtain rfl:kV=.none:=Dflts.noKw hD;let⟨a,vs,ns,rfl,rfl,dI,hints,hlen⟩:=AC hn hpre hwl;refine enter_call<|ş (call w s₀ ģ mg mb fa o pm cd doc a vs ns G Y ho (fd_plain hd) bB hmg dI hints hlen hg) λr s' hq=>?_;let⟨rfl,h2,h3,h4⟩:=hq;exact⟨.inl ⟨.bool fc,.bool fc,[],rfl,λ_=>rfl,.bool fc,BG l _,λ_=>⟨List.Pairwise.nil,λ_ hm=>(nomatch hm)⟩⟩,h2,h3,h4⟩
end Att
namespace L2
open PySem PySem.Spec PyProof.Rows
def WF:∀{vs:List Â}{ns:List Int},Ā vs ns->gw (ns.map V.int) vs
 |_,_,.nil=>.nil
 |_,_,.cons n t h=>.cons ⟨t,rfl⟩<|WF h
abbrev IS(H:Hp):Prop:=∀b,H b=fb\/∃o xs,H b=eZ (.frz o<|.lst xs)
def Cy{P:ä}{w:ö}{K:Frag}{mg mb:Str->Option Â}{CX:CXT}{k:Nat}{fa a:Ë}{fd:Ň}{x:Str}{sp:Sp}{ģ:Ä}{vs:List Â}{ns:List Int}
  (KX:K.In ģ.heap) (hns:ģ.heap.Ns Ċ mg) (hb:ģ.heap.Ns builtinsNs mb) (hbb:∀x:Str,x≠"__name__"->mb x=Ů x) (hlim:ģ.heap.NoLimit) (hg:ģ.gens=#[])
  (ha:ģ.heap.get? a=eZ {cls:=.type "list",data:=.seq vs.toArray}) (hi:Ā vs ns) (hl:ns.length<=Ö) (hr:fN k aw)
  (F:∀base:Ć,K.In base->base.Ns Ċ mg->fO P w K mg base CX k fa fd [x] sp) (hbind:∀(s:Ä) (u:Â),BindsTo s fd ⟨[u],[]⟩ [(x,u)])
  (hsp:∀H:Hp,IS H->gp K H a (ns.map V.int)->sp [.ref a] H (λv _=>v=.bl fc) λ_ _ _=>False)
  (hCX:∀H e s',CX [] H ģ (λ_ _ _=>False) e s'->False) :
  codeAny (Õ P w) aw (.call (.ref fa) ⟨[.ref a],[]⟩) (λr s'=>r=.ok (.ret<|.bool fc)/\OldK ģ.heap s'.heap/\s'.os=ģ.os/\ϒ s'.gens) ģ:=by
 have rv:=WF hi;have fZ:=hi.length;have core:∀H:Hp,IS H->gp K H a (ns.map V.int)->HOk P w H ģ.heap->(∀b,H b≠fb->b=a)->(H a≠fb->K.lookup a=fb)->
   codeAny (Õ P w) aw (.call (.ref fa) ⟨[.ref a],[]⟩) (λr s'=>r=.ok (.ret<|.bool fc)/\OldK ģ.heap s'.heap/\s'.os=ģ.os/\ϒ s'.gens) ģ:=by
  intro H hO hS hok hA hK;have dq:∀{b:Ë}{o:Obj},ģ.heap.get? b=eZ o->H b=fb->(MO ģ.heap H).get? b=eZ o:=λe n=>EJ e n;have noA:∀{b:Ë}{o:Obj}{es:Array DictEntry}{ep:Nat},ģ.heap.get? b=eZ o->o.data=.dict es ep->H b=fb:=λ{b o es ep} e d=>by
   cases q:H b with
   |none=>rfl
   |some u =>have e':b=a:=hA b (by rw[q];simp);subst e';rw[ha]at e;cases e;have d':Data.seq vs.toArray _=Data.dict es ep:=d;cases d'
  have nsK:∀{b:Ë}{m:Str->Option Â},ģ.heap.Ns b m->(MO ģ.heap H).Ns b m:=λ{b m} ⟨o,es,ep,e,d,r⟩=>⟨o,es,ep,dq e<|noA e d,d,r⟩
  have hKb:K.In<|MO ģ.heap H:=λb o e=>dq (KX b o e) (by
    cases q:H b with
    |none=>rfl
    |some u =>
      have e':b=a:=hA b (by rw[q];simp)
      subst e'
      rw[hK<|by rw[q];simp]at e;cases e)
  have hM:Mod K mg<|MO ģ.heap H:=⟨hKb,nsK hns,⟨mb,nsK hb,hbb⟩,let ⟨mc,h1,h2⟩:=hlim;⟨mc,nsK h1,h2⟩⟩
  have e0:Env0 P w K mg (MO ģ.heap H) aw [] ģ H:=⟨rfl,hM,λb o e=>GK e,Nat.le_of_eq<|AQ _ _,trivial,λb hb=>gM (show b∈([]:List Ë) from hb) (by simp),hok,.of_eq hg⟩
  refine ş ((F _ hKb<|nsK hns).run aw [] ģ H ⟨[.ref a],[]⟩ [.ref a] [.ref a] _ _ hr e0 (hbind ģ<|.ref a) (.cons rfl .nil)<|hsp H hO hS) λr s' h=>?_;cases r with
  |error e=>exact(hCX H e s' h).elim
  |ok fl =>
   cases fl with
   |next=>exact ă h
   |brk=>exact ă h
   |cont=>exact ă h
   |ret u =>
    let⟨v,H',os,bare,un,hok',r',q⟩:=h;have q':v=.bl fc:=q;subst q';obtain rfl:u=Value.bool fc:=r';refine⟨rfl,OldK.of_keep λb o e=>?_,os,bare⟩;cases q:H b with
    |none=>exact un.keep b o e q (by intro z;exact gM (show b∈([]:List Ë) from z)<|by simp) (by simp)
    |some u =>
     rcases hO b with z|⟨ob,xs,z⟩
     .rw[q]at z;cases z
     .have z2:=un.frzs b ob _ z;let⟨e1,_⟩:=hok b _ z;let⟨e2,_⟩:=hok' b _ z2;rw[e]at e1;cases e1;exact e2
 cases hk:K.lookup a with
 |some o =>have e:=KX a o hk;rw[ha]at e;cases e;refine core (λ_=>fb) (λ_=>.inl rfl) (.inr ⟨_,vs.toArray,_,hk,rfl,rfl,rfl,by rw[Ð,fZ];exact hl,⇑rv⟩) (λb u z=>by have z':(fb:Option HO)=eZ u:=z;cases z') (λb z=>gM rfl z) λz=>gM rfl z
 |none =>
  refine core (λb=>if b=a then eZ (.frz {cls:=.type "list",data:=.seq vs.toArray}<|.lst<|ns.map V.int)else fb) (λb=>?_) (.inl<|.inr ⟨{cls:=.type "list",data:=.seq vs.toArray},gG rfl⟩) (λb u z=>?_) (λb z=>?_) λ_=>hk
  .by_cases hb:b=a
   .exact .inr ⟨_,_,gG hb⟩
   .exact .inl<|gH hb
  .by_cases hb:b=a
   .have z':=(gG hb).symm.trans z;cases z';subst hb;exact⟨ha,by rw[Ã];exact hl,vs,_,rv,ha⟩
   .have z':=(gH hb).symm.trans z;cases z'
  .by_cases hb:b=a
   .exact hb
   .exact gM (gH hb) z
abbrev YL(s:Į):Arguments:=match s with
 |.FunctionDef _ a _ _ _ _ _ _ _ _=>a
 |_=>{posonlyargs:=[],args:=[],vararg:=fb,kwonlyargs:=[],kw_defaults:=[],kwarg:=fb,defaults:=[]}
abbrev ZO(s:Į):List Į:=match s with
 |.FunctionDef _ _ b _ _ _ _ _ _ _=>b
 |_=>[]
abbrev Zv(s:Į):ξ:=match s with
 |.FunctionDef _ _ _ _ _ _ sc _ _ _=>sc
 |_=>{kind:=.function,names:=[],isGenerator:=fe,isCoroutine:=fe}
structure Fun(K:Frag)(x qual:Str)(st:Į)(f:Ë)(fd:Ň):Prop where
 ex:∃(oc:Â) (od:Option Ë) (kV doc pm:Â) (an:Option Ë) (ϯ ct:Â) (osl:Array<|Option Â),
  fd=PySem.W.fnOf x qual (YL st) (ZO st) (Zv st) .none kV doc pm an ϯ ct/\K.lookup f=eZ ⟨oc,od,.func fd,osl⟩/\PySem.W.codeIn K ϯ qual=fc
 kp:PySem.W.keepIn K (.ref f)=fc
section
variable {P:ä}{w:ö}{K:Frag}{mg:Str->Option Â}{base:Ć}
variable {x:Str} {qual:Str} {st:Į} {f:Ë}
def Fun.binds{fd:Ň}{ps:List Str}(F:Fun K x qual st f fd)
  (h:∀(kV doc pm:Â) (an:Option Ë) (ϯ ct:Â) (us:List Â),us.length=ps.length->bindArgs (PySem.W.fnOf x qual (YL st) (ZO st) (Zv st) .none kV doc pm an ϯ ct) ⟨us,[]⟩=pure (ps.zip us)):Binds K fd ps []:=by
 let⟨oc,od,kV,doc,pm,an,ϯ,ct,osl,rfl,lk,bB⟩:=F.ex;exact .all<|h kV doc pm an ϯ ct
def EZ{oc:Â}{od an:Option Ë}{osl:Array (Option Â)}{kV doc pm ϯ ct:Â}(l:K.lookup f=eZ ⟨oc,od,.func<|PySem.W.fnOf x qual (YL st) (ZO st) (Zv st) .none kV doc pm an ϯ ct,osl⟩)
  (c:PySem.W.codeIn K ϯ qual=fc) (k:PySem.W.keepIn K (.ref f)=fc):Fun K x qual st f<|PySem.W.fnOf x qual (YL st) (ZO st) (Zv st) .none kV doc pm an ϯ ct:=⟨⟨oc,od,kV,doc,pm,an,ϯ,ct,osl,rfl,l,c⟩,k⟩
end
abbrev Same(H H':Hp):Prop:=∀b o,H b=eZ o->H' b=eZ o
def Same.refl(H:Hp):Same H H:=λ_ _ h=>h
def Same.trans{H H1 H2:Hp}(a:Same H H1)(b:Same H1 H2):Same H H2:=λc o h=>b c o (a c o h)
end L2
set_option maxHeartbeats 4000000
namespace L2
open PySem PySem.Spec PyProof.Rows
variable {w:ö}
def HOk.track{P:ä}{H:Hp}{h:Ć}{a:Ë}{o:HO}(x:HOk P w H h)(hn:H a=fb)(new:fu P w (upd H a o) h a o):HOk P w (upd H a o) h:=λb u e=>by
 by_cases hb:b=a
 .subst hb;rw[fh]at e;cases e;exact new
 .rw[ff hb]at e;exact(x b u e).stay (λc v _ q=>q) (λc q=>by rw[ff<|Zf q hn];exact q) λc xs q=>by rw[ff<|Zf q hn];exact q
abbrev Zt(X:Cx)(scope:ξ)(N':List Str)(cl:List<|Str×Ë)(C:Ë)(s:Ä)(H:Hp)(ex:List Ë):Cx where
 prog:=X.prog
 w:=X.w
 K:=X.K
 mg:=X.mg
 base:=X.base
 A:=X.A
 N:=N'
 s₀:=s
 H₀:=H
 env:=compEnvC scope cl C X.env
 outer:=X.stack
 stack:=X.stack
 ex:=ex
 fn:=λ_=>fe
 calm:=X.calm
 pn:=[]
 xe:=λ_ _=>False
abbrev Z7(X:Cx)(x:List Str)(õ:List Nat):List Str:=x++õ.map λj=>X.N.getD j Str.empty
abbrev OU(σ:St)(õ:List Nat):St:=õ.map λj=>(σ[j]?).getD fb
structure BlkOk(X:Cx)(scope:ξ)(x:List Str)(õ:List Nat):Prop where
 kind:scope.kind=.function
 nocell:∀y∈scope.names,y.2≠.cell
 locs:∀y∈scope.names,y.2=.local->scope.names.lookup y.1=eZ .local
 own:∀y∈x,scope.names.lookup y=eZ .local
 frees:∀y∈scope.names,y.2=.free->X.env.kindOf y.1=eZ .cell
 cap:∀j∈õ,(X.N[j]?).isSome=fc/\X.env.kindOf (X.N.getD j Str.empty)=eZ .cell/\scope.names.lookup (X.N.getD j Str.empty)=eZ .free
 nd:(Z7 X x õ).Nodup
def YW{env:Env}:∀(names:List<|Str×Ϣ) (Ĵ:List<|Str×Ë),(∀y∈names,y.2=.free->∃c,env.cells.lookup y.1=eZ c)->(∀x c,Ĵ.lookup x=eZ c->env.cells.lookup x=eZ c)->
  ∃cl,(forIn names Ĵ λ(p:Str×Ϣ) (r:List<|Str×Ë)=>(do
    if(p.2 == ī)=fc then do let a<-cellOf env p.1;pure (Ń<|(p.1,a)::r)else pure (Ń r):Sem _))=pure cl/\
   (∀x c,cl.lookup x=eZ c->env.cells.lookup x=eZ c)/\(∀x c,Ĵ.lookup x=eZ c->∃c',cl.lookup x=eZ c')/\∀x,(x,ī)∈names->∃c,cl.lookup x=eZ c
 |[],Ĵ,_,ha=>⟨Ĵ,rfl,ha,λx c h=>⟨c,h⟩,λx h=>nomatch h⟩
 |(n,k)::r,Ĵ,hn,ha=>by
  by_cases hk:k=.free
  .subst hk;let⟨c,hc⟩:=hn (n,.free) î rfl;have ha':∀x d,(((n,c)::Ĵ:List<|Str×Ë)).lookup x=eZ d->env.cells.lookup x=eZ d:=λx d h=>by
    rw[â]at h;cases e:x==n with
    |true =>
     rw[e]at h;have:x=n:=⇑e
     subst this;cases h;exact hc
    |false=>rw[e]at h;exact ha x d h
   let⟨cl,h1,h2,h3,h4⟩:=YW r ((n,c)::Ĵ) (λy hy=>hn y<|Þ _ hy) ha';refine⟨cl,?_,h2,λx d h=>?_,λx hx=>?_⟩
   .rw[List.forIn_cons];have e:cellOf env n=pure c:=by unfold cellOf;rw[hc]
    simp only[beq_self_eq_true,if_true,e];exact h1
   .by_cases hx:x=n
    .subst hx;exact h3 x c (by rw[â];simp)
    .exact h3 x d (by rw[â,beq_false_of_ne hx];exact h)
   .rcases Ç.mp hx with e|hx
    .cases e;exact h3 _ c (by rw[â];simp)
    .exact h4 x hx
  .have hb:(k==ī)=fe:=⇑hk
   let⟨cl,h1,h2,h3,h4⟩:=YW r Ĵ (λy hy=>hn y<|Þ _ hy) ha;refine⟨cl,?_,h2,h3,λx hx=>?_⟩
   .rw[List.forIn_cons];simp only[hb,İ,if_false];exact h1
   .rcases Ç.mp hx with e|hx
    .cases e;exact gM rfl hk
    .exact h4 x hx
def ZZ{env:Env}:∀{names:List (Str×Ϣ)}{x:Str}{k:Ϣ},(names.map λ(n,k)=>if(k==ī&&env.scope.kind == .function&&env.kindOf n==eZ .cell)then(n,eP)else(n,k)).lookup x=eZ k->
  (∃k0,(x,k0)∈names/\names.lookup x=eZ k0/\(k0=k\/(k0=.free/\k=.cell)))
 |[],_,_,h=>by simp at h
 |(n,k0)::r,x,k,h=>by
  rw[É,â]at h;cases hx:x==n with
  |true =>
   have e:x=n:=⇑hx
   subst e;refine⟨k0,î,by rw[â];simp,?_⟩;by_cases hc:(k0==ī&&env.scope.kind == .function&&env.kindOf x==eZ .cell)=fc
   .rw[gG hc]at h;simp at h;have:k0=.free:=by
     simp only[bAq]at hc;simpa using hc.1.1
    exact .inr ⟨this,h.symm⟩
   .rw[gH hc]at h;simp at h;exact .inl h
  |false =>
   have h':(r.map λ(n,k)=>if(k==ī&&env.scope.kind == .function&&env.kindOf n==eZ .cell)then(n,eP)else(n,k)).lookup x=eZ k:=by
    by_cases hc:(k0==ī&&env.scope.kind == .function&&env.kindOf n==eZ .cell)=fc
    .rw[gG hc]at h;simpa[hx]using h
    .rw[gH hc]at h;simpa[hx]using h
   let⟨k1,a,b,c⟩:=ZZ h';exact⟨k1,Þ _ a,by rw[â,hx];exact b,c⟩
abbrev PIfs(X:Cx)(bD:List Expr)(t:TT):Prop :=
 ∀(Á:List<|Ë×Obj) (s:Ä) (σ:St) (H:Hp) (Q:Bool->Hp->Prop),Inv X Á σ H s->t σ H Q->
  wpAny (Õ X.prog X.w) X.A (forIn bD fc λc r=>if r=fc then do let ok<-cF c X.env (eval c X.env);pure (Ń ok)else pure (Ń r)) (TP X Á σ Q) X.xe s
abbrev SD:TT:=λ_ H Q=>Q fc H
variable {X:Cx}
def pifs_nil:PIfs X [] SD:=λ_ _ _ H _ I h=>wpAny_tests_nil ⟨H,I,h⟩
def Wo{c:Expr}{t:TT}(h:PT X c t):PIfs X [c] t:=λÁ s σ H Q I hq=>wpAny_tests_one (h Á s σ H Q I hq)
abbrev Hw(J:It)(tg:TG)(tc:TT)(te:TE)(Fin:List V->Hp->Prop)(W:Nat->Nat->List V->St->Hp->Prop):Prop :=
 ∀i m ys τ H,W i m ys τ H->ys.length<Ö/\((J.stop i H/\Fin ys H)\/(J.go i H/\∃N:List V->St->Hp->Prop,(∀ys' τ' H',N ys' τ' H'->∃m',m'<m/\W (i+1) m' ys' τ' H')/\∀x H',J.yld i H x H'->
   tg x τ H' λτ' H1=>tc τ' H1 λb H2=>if b=fc then te τ' H2 λy H3=>N (ys++[y]) τ' H3 else N ys τ' H2))
abbrev DJ(wi:TI)(k:Nat)(õ:List Nat)(tg:TG)(tc:TT)(te:TE):TE:=λσ H Q=>wi σ H λJ H1=>∃W:Nat->Nat->List V->St->Hp->Prop,(∃m,W 0 m [] (Ø k fb++OU σ õ) H1)/\
 Hw J tg tc te (λys H=>∀p,H p=fb->Q (.ref p) (upd H p<|.lst ys)) W
section
variable {X:Cx}{Á:List (Ë×Obj)}{σ:St}{H2:Hp}{s2:Ä}
variable {scope:ξ} {x:List Str} {õ:List Nat} {cl:List (Str×Ë)} {fp:List Ë}
def AN{s3:Ä}{D:Ë}{h1:Ć}{tk:Nat}{m:Str->Option Â}(B:BlkOk X scope x õ)(I2:Inv X Á σ H2 s2)(f2:∀b∈fp,WJ X Á H2 b)
  (c1:∀x c,cl.lookup x=eZ c->X.env.cells.lookup x=eZ c) (c2:∀x,(x,ī)∈scope.names->∃c,cl.lookup x=eZ c)
  (I3:Inv X Á σ H2 s3) (hD:D=s2.heap.objs.size) (h3:s3.heap.objs.size=D+1) (ϴ:∀b o,s3.heap.get? b=eZ o->h1.get? b=eZ o) (hfp:∀b∈fp,b<s2.heap.objs.size)
  (hn:h1.Ns s3.heap.objs.size m) :
  Inv (Zt X scope (Z7 X x õ) cl s3.heap.objs.size s3 H2<|D::fp) [] (Ø x.length fb++OU σ õ) H2 {s3 with heap:=h1,toks:=tk}:=by
 have neD:∀b o,s2.heap.get? b=eZ o->b≠D:=λb o e=>by rw[hD];exact æ<|Ô e
 have exlt:∀b∈D::fp,b<s3.heap.objs.size:=λb hb=>by
  rw[h3];rcases Ç.mp hb with e|hb
  .rw[e];exact ĳ _
  .exact Ĺ (by rw[hD];exact hfp b hb)
 have keeps:=I3.hok.kept (h':=h1) ϴ;refine⟨⟨I2.mod,B.kind,I2.ok.glob,I2.ok.blt,Ñ _,λy z c e1 e2=>?_,λy hy=>?_,λy c e _=>(by cases e),λhc=>I2.ok.hd hc,I2.ok.frames,.inl rfl,λb hb=>?_,λb o e=>?_,?_,λb o e hb=>?_,λb hb hf=>?_,I3.stack,λb hb=>I2.stkFree b hb⟩,
   rfl,I3.bare,Un.kept ϴ,⟨m,hn,λi y v e1 e2 e3=>?_⟩,λy c e=>?_,I3.hok.fresh<|Ñ _,λy c e=>I3.freeC y c<|c1 y c e,λp hp=>(nomatch hp),keeps,?_⟩
 .exact I2.ok.inj y z c (c1 y c e1)<|c1 z c e2
 .have hy:(cp scope X.env).names.lookup y=eZ .cell\/(cp scope X.env).names.lookup y=eZ .free:=hy;rcases hy with hy|hy
  .obtain⟨k0,a,b,c⟩:=ZZ hy;rcases c with c|⟨c,_⟩
   .subst c;exact gM rfl<|B.nocell _ a
   .subst c;exact c2 y a
  .obtain⟨k0,a,b,c⟩:=ZZ hy;rcases c with c|⟨_,c⟩
   .subst c;exact c2 y a
   .cases c
 .refine⟨æ<|exlt b hb,λy c e z=>?_⟩;have e':=c1 y c e;rcases Ç.mp hb with q|q
  .obtain⟨v,o,ho,_⟩:=I2.cell y c e';exact neD c o ho<|z.trans q
  .exact(f2 b q).2.2.2.2.1 y c e' z
 .exact I3.bs b o e
 .exact Ý I2.ok.bsz (Ý I2.sz<|show s2.heap.objs.size<=s3.heap.objs.size by rw[h3,hD];exact Ŏ _)
 .rcases Ç.mp hb with q|q
  .exact neD b o (I2.bk b o e) q
  .rcases (f2 b q).2.2.2.1 with z|z
   .exact I2.ok.noex b o e z
   .exact gM (á (Ô (I2.ok.bs b o e).1) z)<|Ĥ _
 .have hf:b∈frs X.stack:=hf;rcases Ç.mp (I2.stkSub b hf)with z|z
  .rcases Ç.mp hb with q|q
   .exact gM I2.lt (by rw[<-z,q,hD];exact Ĥ _)
   .exact(f2 b q).2.1 z
  .rcases Ç.mp hb with q|q
   .exact I2.nofs (a:=b) (by rw[q,hD];exact Ñ _) z
   .exact(f2 b q).2.2.1 z
 .by_cases hik:i<x.length
  .rw[Č (by rw[ó];exact hik),Ŕ,gG hik]at e2;cases e2
  .have e1:(x++õ.map λj=>X.N.getD j Str.empty)[i]?=eZ y:=e1;rw[Ĕ<|by lia]at e1;rw[Ĕ (by rw[ó];lia),ó]at e2;generalize i - x.length=j at e1 e2;have e2:(õ.map λj=>(σ[j]?).getD fb)[j]?=eZ (eZ v):=e2;rw[Ú]at e1 e2;cases hj:õ[j]? with
   |none=>rw[hj]at e1;cases e1
   |some q =>
    rw[hj]at e1 e2;have e1':X.N.getD q Str.empty=y:=ï e1;have e2':(σ[q]?).getD fb=eZ v:=ï e2;let⟨hs,hk,hsc⟩:=B.cap q<|ë hj;let⟨y',hy'⟩:=û.mp hs;have ey:y'=y:=by rw[<-e1',ĕ,hy'];rfl
    subst ey;have es:σ[q]?=eZ (eZ v):=by
     cases hq:σ[q]? with
     |none=>rw[hq]at e2';cases e2'
     |some o=>rw[hq]at e2';exact congrArg eZ e2'
    rw[e1']at hk hsc;let⟨m2,_,hl⟩:=I3.loc;have b5:X.env.scope.names.lookup y'=eZ .cell:=hk;let⟨u,r,l⟩:=hl q y' v hy' es<|.inr<|.inl b5;refine⟨u,r,.inr ⟨?_,?_⟩⟩
    .rcases e3 with e3|e3|e3
     .obtain⟨k0,a,b,c⟩:=ZZ (show(cp scope X.env).names.lookup y'=eZ .local from e3);rw[hsc]at b;cases b;rcases c with c|⟨_,c⟩<;>cases c
     .exact .inl e3
     .exact .inr e3
    .rcases l with⟨l,_⟩|⟨_,c,hc,z⟩
     .rw[hk]at l;cases l
     .obtain⟨c',hc'⟩:=c2 y'<|PySem.mem_of_lookup hsc;have ec:c'=c:=ï<|(c1 y' c' hc').symm.trans hc;subst ec;let⟨o,ho,hd⟩:=z;exact⟨c',hc',o,ϴ c' o ho,hd⟩
 .obtain⟨v,o,ho,hd⟩:=I3.cell y c<|c1 y c e;exact⟨v,o,ϴ c o ho,hd⟩
 .show _=(Z7 X x õ).length;unfold Z7 OU;rw[è,è,Ã,Ã,ó]
def XF{env:Env}(h:∀y∈scope.names,y.2=.free->∃c,env.cells.lookup y.1=eZ c) :
  ∃cl,closureFor scope env=pure cl/\(∀x c,cl.lookup x=eZ c->env.cells.lookup x=eZ c)/\∀x,(x,ī)∈scope.names->∃c,cl.lookup x=eZ c:=by
 let⟨cl,h1,h2,_,h4⟩:=YW (env:=env) scope.names [] h λx c e=>nomatch e;refine⟨cl,?_,h2,h4⟩;simp only[closureFor];have e:(forIn scope.names ([]:List<|Str×Ë) λx r =>
     (match x with
     | (name,kind)=>if(kind == ī)=fc then do let a<-cellOf env name;pure (Ń<|(name,a)::r)else pure (Ń r):Sem<|ForInStep<|List<|Str×Ë))=pure cl:=h1
 first
  |(rw[e];rfl)
  |(refine Eq.trans (congrArg (· >>= pure) ?_) (rfl:(pure cl >>= pure:Sem _)=pure cl);exact e)
variable {b6:Expr} {Ŷ:Expr} {bD:List Expr} {ç:Pos}
def Nx{prog:ä}{A:ĉ}{R:aH->Ä->Prop}{s:Ä}{aq:Expr}{it Ĵ:Â}{env:Env}(I:Nat->Ä->Prop)
  (turn:∀n s,I n s->wpAny (Õ prog w) A (Ϛ it) (λr ģ=>match r with
    |none=>R (.ok .next) ģ
    | some v=>wpAny (Õ prog w) A (ϰ aq it v) (λ_ ģ=>wpAny (Õ prog w) A (π aq env v) (λ_ cg =>
        wpAny (Õ prog w) A (forIn bD fc λc r=>if r=fc then do let ok<-cF c env (eval c env);pure (Ń ok)else pure (Ń r)) (λok aU =>
          if ok=fc then wpAny (Õ prog w) A (eval b6 env) (λx s₄ =>
            wpAny (Õ prog w) A (call (.builtin "list.append") [Ĵ,x]) (λ_ s₅=>∃m,m<n/\I m s₅) (λ_ _=>False) s₄) (λ_ _=>False) aU
          else ∃m,m<n/\I m aU) (λ_ _=>False) cg) (λ_ _=>False) ģ) (λ_ _=>False) ģ) (λ_ _=>False) s)
  (n:Nat) (h:I n s) :
  codeAny (Õ prog w) A (.compLoop (.ListComp b6 [⟨aq,Ŷ,bD,0⟩] scope ç) 0 it Ĵ env) R s:=by
 refine codeAny_loop rfl I (λn s hI=>?_) n h;show wpAny _ A ((compTurn (.ListComp b6 [⟨aq,Ŷ,bD,0⟩] scope ç) 0 it Ĵ env).onRaise λx=>do bJ x env;theTreesLotGoes x) _ _ s;refine wpAny_noted ?_;rw[compTurn_list];refine À<|du<|À<|ċ (turn n s hI) (λr ģ bQ=>?_) λ_ _ h'=>h'.elim;cases r with
 |none=>exact Æ bQ
 |some v =>
  refine À<|ċ bQ (λ_ ģ bQ=>?_) λ_ _ h'=>h'.elim;refine À<|ċ bQ (λ_ cg h₂=>À<|ċ h₂ (λok aU h₃=>?_) λ_ _ h'=>h'.elim) λ_ _ h'=>h'.elim;cases ok with
  |false=>exact Æ ⟨rfl,h₃⟩
  |true =>exact À<|À<|ċ h₃ (λx s₄ h₄=>À<|ċ h₄ (λ_ s₅ h₅=>Æ<|Æ ⟨rfl,h₅⟩) λ_ _ h'=>h'.elim) λ_ _ h'=>h'.elim
variable {bR:Expr} {tg:TG} {tc:TT} {te:TE}
def K9{it:Ë}{tn:Nat->Ć->Prop}{J:It}{Fin:List V->Hp->Prop}{W:Nat->Nat->List V->St->Hp->Prop}{E:Â->Ä->Prop}
  {RR:Â->Ë->aH->Ä->Prop}{m0:Nat}(hc:X.calm=fc) (B:BlkOk X scope x õ) (I2:Inv X Á σ H2 s2) (T:Turn X.prog X.w X.K bR J fp it tn) (st2:tn 0 s2.heap) (f2:∀b∈fp,WJ X Á H2 b)
  (c1:∀x c,cl.lookup x=eZ c->X.env.cells.lookup x=eZ c) (c2:∀x,(x,ī)∈scope.names->∃c,cl.lookup x=eZ c)
  (hI:∀cl C s H ex,PIfs (Zt X scope (Z7 X x õ) cl C s H ex) bD tc) (hE:∀cl C s H ex,PE (Zt X scope (Z7 X x õ) cl C s H ex) b6 te)
  (hG:∀cl C s H ex,PG (Zt X scope (Z7 X x õ) cl C s H ex) bR tg) (w0:W 0 m0 [] (Ø x.length fb++OU σ õ) H2) (cw:Hw J tg tc te Fin W)
  (hRR:∀D C s' H' ys m,H' D=fb->s'.heap.Ns C m->WJ X Á (upd H' D<|.lst ys) C->Inv X Á σ (upd H' D<|.lst ys) s'->Fin ys H'->RR (.ref D) C (.ok .next) s') :
  wpAny (Õ X.prog X.w) X.A (newList []) (λĴ aU=>wpAny (Õ X.prog X.w) X.A (newFunctionEnv scope X.env.globals cl [] X.env.qual fb .none<|eZ X.env) (λcenv s₄ =>
    codeAny (Õ X.prog X.w) X.A (.compStart (.ListComp b6 [⟨bR,Ŷ,bD,0⟩] scope ç) 0 (.ref it) Ĵ { cenv with scope:=cp scope X.env }) (RR Ĵ cenv.locals) s₄) E aU) E s2:=by
 refine č (wpAny_newFunctionEnv B.nocell (by intro y hy;simp at hy) (λbQ cW cX=>?_) B.kind);dsimp only at cW cX ⊢;have hfp:∀b∈fp,b<s2.heap.objs.size:=λb hb=>by let⟨o,e,_⟩:=T.obj _ _ st2 b hb;exact Ô e
 have I3:Inv X Á σ H2 {s2 with heap:=s2.heap.push {cls:=.type "list",dict:=fb,data:=.seq ([]:List Â).toArray}}:=I2.kept (t':=s2.toks) λb o e=>Å _ e;have h3:(s2.heap.push {cls:=.type "list",dict:=fb,data:=.seq ([]:List Â).toArray}).objs.size=s2.heap.objs.size+1:=Ż ..;have dI:(s2.heap.push {cls:=.type "list",dict:=fb,data:=.seq ([]:List Â).toArray}).get? s2.heap.objs.size=eZ {cls:=.type "list",dict:=fb,data:=.seq ([]:List Â).toArray}:=Ò _ rfl;have cY:∀b o,s2.heap.get? b=eZ o->(s2.heap.push {cls:=.type "list",dict:=fb,data:=.seq ([]:List Â).toArray}).get? b=eZ o:=λb o e=>Å _ e;generalize hH3:s2.heap.push {cls:=.type "list",dict:=fb,data:=.seq ([]:List Â).toArray}=h3' at cW cX I3 h3 dI cY ⊢;have ϴ:∀b o,h3'.get? b=eZ o->bQ.get? b=eZ o:=λb o e=>cX.extBut b o (æ<|Ô e)<|Å _ e;have hDC:s2.heap.objs.size≠h3'.objs.size:=by rw[h3];exact æ<|ĳ _
 have IB:=AN (cl:=cl) (fp:=fp) (s3:={s2 with heap:=h3'}) (D:=s2.heap.objs.size) (h1:=bQ) (tk:=s2.toks+([]:List<|Str×Â).length) B I2 f2 c1 c2 I3 rfl h3 ϴ hfp cW;generalize hY:Zt X scope (Z7 X x õ) cl h3'.objs.size {s2 with heap:=h3'} H2 (s2.heap.objs.size::fp)=Y at IB;have yP:Y.prog=X.prog:=by rw[<-hY];rfl
 have yw:Y.w=X.w:=by rw[<-hY];rfl
 have yK:Y.K=X.K:=by rw[<-hY];rfl
 have yA:Y.A=X.A:=by rw[<-hY];rfl
 have yc:Y.calm=fc:=by rw[<-hY];exact hc
 have yenv:Y.env=compEnvC scope cl h3'.objs.size X.env:=by rw[<-hY];rfl
 have hIY:PIfs Y bD tc:=by rw[<-hY];exact hI _ _ _ _ _
 have hEY:PE Y b6 te:=by rw[<-hY];exact hE _ _ _ _ _
 have yxe:Y.xe=λ_ _=>False:=by rw[<-hY];rfl
 have ypn:Y.pn=[]:=by rw[<-hY];rfl
 have hgN:PG Y bR tg:=by rw[<-hY];exact hG _ _ _ _ _
 have fD:∀{H':Hp},H' s2.heap.objs.size=fb->WJ Y [] H' s2.heap.objs.size:=λ{H'} hn=>by
  refine⟨hn,?_,?_,?_,?_,λp hp=>?_⟩
  .rw[yenv];exact hDC
  .exact IB.ok.exfs _ (by rw[<-hY];exact î)
  .exact .inl (by rw[<-hY];exact î)
  .exact λy c e=>(IB.ok.exf _<|by rw[<-hY];exact î).2 y c e
  .rw[ypn]at hp;exact nomatch hp
 have fF:∀{H':Hp},(∀b∈fp,H' b=fb)->∀b∈fp,WJ Y [] H' b:=λ{H'} hn b hb=>by
  have hm:b∈Y.ex:=by rw[<-hY];exact Þ _ hb
  refine⟨hn b hb,?_,IB.ok.exfs b hm,.inl hm,λy c e=>(IB.ok.exf b hm).2 y c e,λp hp=>?_⟩
  .exact(IB.ok.exf b hm).1
  .rw[ypn]at hp;exact nomatch hp
 have acc0:bQ.PlainList s2.heap.objs.size ([]:List Â).toArray:=⟨0,by exact ϴ _ _ dI⟩
 have loop:∀aU:Ä,aU={s2 with heap:=bQ,toks:=s2.toks+([]:List<|Str×Â).length}->
   codeAny (Õ X.prog X.w) X.A (.compLoop (.ListComp b6 [⟨bR,Ŷ,bD,0⟩] scope ç) 0 (.ref it) (.ref s2.heap.objs.size)<|compEnvC scope cl h3'.objs.size X.env) (RR (.ref s2.heap.objs.size) h3'.objs.size) aU:=by
  rintro aU rfl;refine Nx (λn s'=>∃i ys ô τ H',Inv Y [] τ H' s'/\tn i s'.heap/\(∀b∈fp,H' b=fb)/\H' s2.heap.objs.size=fb/\gw ys ô/\s'.heap.PlainList s2.heap.objs.size ô.toArray/\W i n ys τ H') ?_ m0
   ⟨0,[],[],_,H2,IB,T.keep _ _ _ st2 λb hb o e=>ϴ _ _<|cY _ _ e,λb hb=>(f2 b hb).1,I2.fresh,.nil,acc0,w0⟩
  rintro n s3 ⟨i,ys,ô,τ,H3,I3',st3,fr3,frD,rv,pl,w3⟩;have cv:∀{α:Type}{f:Sem α}{Q Q':α->Ä->Prop}{s:Ä},wpAny (Õ Y.prog Y.w) Y.A f Q Y.xe s->(∀a s',Q a s'->Q' a s')->wpAny (Õ X.prog X.w) X.A f Q' (λ_ _=>False) s:=λ{α f Q Q' s} h hq=>by rw[yP,yw,yA,yxe]at h;exact ċ h hq λ_ _ e=>e
  have cvX:∀{α:Type}{f:Sem α}{Q Q':α->Ä->Prop}{s:Ä},wpAny (Õ X.prog X.w) Y.A f Q (λ_ _=>False) s->(∀a s',Q a s'->Q' a s')->wpAny (Õ X.prog X.w) X.A f Q' (λ_ _=>False) s:=λ{α f Q Q' s} h hq=>by rw[yA]at h;exact ċ h hq λ_ _ e=>e
  let⟨nD,hD3⟩:=id pl;have plD:∀b∈[s2.heap.objs.size],∃o,s3.heap.get? b=eZ o/\∀v,o.data≠.cell v:=λb hb=>by
   have e:b=s2.heap.objs.size:=⇑hb
   subst e;exact⟨_,hD3,λv z=>by cases z⟩
  have IP:=I3'.pinned (fp:=[s2.heap.objs.size]) (λb hb=>by
    have e:b=s2.heap.objs.size:=⇑hb
    subst e
    exact fD frD) plD
  have memD:=ZV (fp:=[s2.heap.objs.size]) (ß.mpr rfl) hD3;have fF':∀b∈fp,WJ Y ([]++XI [s2.heap.objs.size] s3.heap) H3 b:=λb hb=>by
   let⟨q1,q2,q3,q4,q5,q6⟩:=fF fr3 b hb;refine⟨q1,q2,q3,q4,q5,λp hp=>?_⟩;rw[ypn]at hp;let⟨bE,_⟩:=KW (show p∈XI [s2.heap.objs.size] s3.heap by simpa using hp);have e:p.1=s2.heap.objs.size:=⇑bE
   rw[e];exact(æ<|hfp b hb).symm
  obtain⟨hys,h|⟨go,N,hN,step⟩⟩:=cw i n ys τ H3 w3
  .obtain⟨stop,fin⟩:=h;refine cvX (T.done Y yP yw yK yc i _ s3 _ H3 _ IP fF' st3 stop) λr s4 ⟨hr,I4⟩=>?_;subst hr;let⟨m4,hm4,_⟩:=I4.loc;rw[yenv]at hm4;have aV:Un (frs X.stack) (s2.heap.objs.size::fp) H2 H3 h3' s4.heap:=by
    have:=I4.base;rw[<-hY]at this;exact this
   have hok4:HOk X.prog X.w H3 s4.heap:=by have:=I4.hok;rw[yP,yw]at this;exact this
   have pl4:=(I4.pin _<|Ê _<|Ê _ memD).1;have nC:H3 h3'.objs.size=fb:=by have:=I4.free;rw[yenv]at this;exact this
   have hlen:ys.length<=Ö:=Α hys;have osEq:s4.os=s2.os:=by have:=I4.os;rw[<-hY]at this;exact this
   have neD:∀b o,s2.heap.get? b=eZ o->b≠s2.heap.objs.size:=λb o e=>æ<|Ô e;have nin:∀b o,s2.heap.get? b=eZ o->b∉fp->b∉s2.heap.objs.size::fp:=λb o e hb z=>(Ç.mp z).elim (neD b o e) hb;have hokN:HOk X.prog X.w (upd H3 s2.heap.objs.size<|.lst ys) s4.heap:=hok4.track frD ⟨hlen,ô,nD,rv,pl4⟩;have U:Un (frs X.stack) fp H2 (upd H3 s2.heap.objs.size<|.lst ys) s2.heap s4.heap:=by
    refine⟨λb o e hn hf hx=>aV.keep b o (cY b o e) hn hf<|nin b o e hx,λb o e hn hf hx=>aV.slot b o (cY b o e) hn hf<|nin b o e hx,λb o e hn hx=>?_,λb o e hx=>aV.there b o (cY b o e)<|nin b o e hx,λb xs e=>?_,λb o xs e=>?_,λb ps e=>?_⟩
    .rw[ff<|neD b o e];exact aV.free b o (cY b o e) hn<|nin b o e hx
    .have q:=aV.tups b xs e;rw[ff<|Zf q frD];exact q
    .have q:=aV.frzs b o xs e;rw[ff<|Zf q frD];exact q
    .obtain⟨more,q⟩:=aV.tbls b ps e;exact⟨more,by rw[ff<|Zf q frD];exact q⟩
   have I5:Inv X Á σ (upd H3 s2.heap.objs.size<|.lst ys) s4:=I2.call' (ch:=fp) osEq U hokN I4.bare λb hb=>by let⟨_,q2,_,q4,q5,q6⟩:=f2 b hb;exact⟨q4,q2,q5,q6⟩
   exact hRR _ _ _ _ _ m4 frD hm4 (I2.fpOk (Α<|by rw[h3];exact ĳ _)<|by rw[ff hDC.symm];exact nC) I5 fin
  .refine cvX (T.item Y yP yw yK yc i _ s3 _ H3 _ IP fF' st3 go) λr s4 ⟨u,hr,h4⟩=>?_;subst hr;refine cvX h4 λ_ s5 ⟨y,H5,I5,r5,y5,st5,fr5⟩=>?_;have frD5:H5 s2.heap.objs.size=fb:=(I5.pin _<|Ê _<|Ê _ memD).2.1;have hD5:=(I5.pin _<|Ê _<|Ê _ memD).1;have I5p:=I5.unpinned.pinned (fp:=s2.heap.objs.size::fp) (λb hb=>by
     rcases Ç.mp hb with e|hb
     . subst e;exact fD frD5
     . exact fF fr5 b hb) (λb hb=>by
     rcases Ç.mp hb with e|hb
     . subst e;exact⟨_,hD5,λv z=>by cases z⟩
     . exact T.obj _ _ st5 b hb)
   have memD5:=ZV (fp:=s2.heap.objs.size::fp) î hD5;rw[<-yenv];refine cv (hgN _ s5 _ H5 y u _ I5p r5<|step y H5 y5) λ_ s6 ⟨σ6,H6,I6,q6⟩=>?_;have Ϟ:∀{m':Nat}{bN:St}{H7:Hp}{s7:Ä}{ys':List V}{its':List Â},Inv Y [] bN H7 s7->tn (i+1) s7.heap->(∀b∈fp,H7 b=fb)->H7 s2.heap.objs.size=fb->gw ys' its'->s7.heap.PlainList s2.heap.objs.size its'.toArray->m'<n/\W (i+1) m' ys' bN H7->
     ∃m,m<n/\∃i ys ô τ H',Inv Y [] τ H' s7/\tn i s7.heap/\(∀b∈fp,H' b=fb)/\H' s2.heap.objs.size=fb/\gw ys ô/\s7.heap.PlainList s2.heap.objs.size ô.toArray/\W i m ys τ H' :=
    λ{m' bN H7 s7 ys' its'} J1 st7 fr7 fd7 rv7 pl7 wm=>⟨m',wm.1,i+1,ys',its',bN,H7,J1,st7,fr7,fd7,rv7,pl7,wm.2⟩
   have stay:∀{bN:St}{H7:Hp}{s7:Ä},Inv Y ([]++XI (s2.heap.objs.size::fp) s5.heap) bN H7 s7->tn (i+1) s7.heap/\(∀b∈fp,H7 b=fb)/\H7 s2.heap.objs.size=fb/\s7.heap.get? s2.heap.objs.size=eZ {cls:=.type "list",data:=.seq ô.toArray nD}:=by intro bN H7 s7 J1;refine⟨T.keep _ _ _ st5 λb hb o e=>(J1.pin (b,o)<|Ê _<|Ê _<|ZV (Þ _ hb) e).1,λb hb=>?_,(J1.pin _<|Ê _<|Ê _ memD5).2.1,(J1.pin _<|Ê _<|Ê _ memD5).1⟩;let⟨o,e,d⟩:=T.obj _ _ st5 b hb;exact(J1.pin (b,o)<|Ê _<|Ê _<|ZV (Þ _ hb) e).2.1
   refine cv (hIY _ s6 _ H6 _ I6 q6) λok s7 ⟨H7,I7,q7⟩=>?_;cases ok with
   |false =>rw[gH<|by decide]at q7;rw[gH<|by decide];let⟨m',wm⟩:=hN _ _ _ q7;let⟨a1,a2,a3,a4⟩:=stay I7;exact Ϟ I7.unpinned a1 a2 a3 rv ⟨nD,a4⟩ wm
   |true =>
    rw[gG rfl]at q7;rw[gG rfl];refine cv (hEY _ s7 _ H7 _ I7 q7) λz s8 ⟨vz,H8,I8,rz,wm⟩=>?_;let⟨m',wm⟩:=hN _ _ _ wm;let⟨a1,a2,a3,a4⟩:=stay I8;have hlen:=rv.length;refine wpAny_list_append_plain (hsz:=by rw[Ð];lia) (⟨nD,a4⟩:s8.heap.PlainList _ ô.toArray) λh9 hl9 hs9=>?_;let⟨q1,q2,q3,q4,q5,q6⟩:=fD a3;have I9:Inv Y [] _ H8 {s8 with heap:=h9}:=I8.unpinned.turned (t':=s8.toks) (λb o hb e=>hs9.extBut b o hb e) q1 q2 q4 q5 q6;refine Ϟ I9 (T.keep _ _ _ a1 λb hb o e=>hs9.extBut b o (æ<|hfp b hb) e) a2 a3 (its':=ô++[z]) (rv.append<|.cons rz .nil) ?_ wm;have e:ô.toArray.push z=(ô++[z]).toArray:=by simp
    rw[e]at hl9;exact hl9
 exact codeAny_compStart_list (loop _ rfl)<|T.self _ 0 _ _ _ (T.keep _ _ _ st2 λb hb o e=>ϴ _ _<|cY _ _ e)<|loop _ rfl
variable {wi:TI}
def CK(hc:X.calm=fc)(B:BlkOk X scope x õ)(hi:PI X bR Ŷ wi)(hG:∀cl C s H ex,PG (Zt X scope (Z7 X x õ) cl C s H ex) bR tg)
  (hI:∀cl C s H ex,PIfs (Zt X scope (Z7 X x õ) cl C s H ex) bD tc) (hE:∀cl C s H ex,PE (Zt X scope (Z7 X x õ) cl C s H ex) b6 te)
  (hs:∀x,Ę Ŷ X.env x=pure x:=by intro _;rfl):PE X (.ListComp b6 [⟨bR,Ŷ,bD,0⟩] scope ç)<|DJ wi x.length õ tg tc te:=by
 intro Á s σ H Q I h;let⟨cl,aZ,c1,c2⟩:=XF (scope:=scope) (env:=X.env) λy hy e=>I.ok.has y.1<|.inl<|B.frees y hy e;rw[eval_ListComp];refine dA (use:=fb) rfl hs aZ B.kind B.locs<|thn (hi Á s σ H _ I h) λv s1 h1=>thn h1 λitv s2 h2=>?_;let⟨it,fp,tn,J,H2,e,I2,T,st2,f2,W,⟨m0,w0⟩,cw⟩:=h2;subst e;refine K9 (RR:=λĴ C=>compPost (Õ X.prog X.w) X.A X.xe fb (EP X Á σ Q) Ĵ C) hc B I2 T st2 f2 c1 c2 hI hE hG w0 cw ?_;intro D C s' H' ys m hD hn fC I' fin;let⟨q1,q2,q3,q4,q5,q6⟩:=fC;exact⟨m,hn,λh' hs'=>⟨.ref D,_,I'.turned (t':=s'.toks) (λb o hb e=>hs'.extBut b o hb e) q1 q2 q4 q5 q6,rfl,fin D hD⟩⟩
def Dy{y:Str}{py:Pos}{i:Nat}{ϣ:Pos}(hN:X.N.Nodup)(hi':X.N[i]?=eZ y)(hy:Loc X.env.scope y)(hc:X.calm=fc)(B:BlkOk X scope x õ)(hi:PI X bR Ŷ wi)(hG:∀cl C s H ex,PG (Zt X scope (Z7 X x õ) cl C s H ex) bR tg)
  (hI:∀cl C s H ex,PIfs (Zt X scope (Z7 X x õ) cl C s H ex) bD tc) (hE:∀cl C s H ex,PE (Zt X scope (Z7 X x õ) cl C s H ex) b6 te)
  (hs:∀x,Ę Ŷ X.env x=pure x:=by intro _;rfl)
  (hsw:Ţ (.ListComp b6 [⟨bR,Ŷ,bD,0⟩] scope ç) (eZ<|.Name y py) ϣ.line X.env=pure fc:=by rfl)
  (hf:X.fn y=fc\/X.env.scope.names.lookup y=eZ .local:=by first|exact .inl rfl|exact .inr rfl|assumption) :
  PS X (.Assign [.Name y py] (.ListComp b6 [⟨bR,Ŷ,bD,0⟩] scope ç) ϣ) (Qy (DJ wi x.length õ tg tc te)<|HJ i):=by
 intro Á s σ H D I h;let⟨cl,aZ,c1,c2⟩:=XF (scope:=scope) (env:=X.env) λy hy e=>I.ok.has y.1<|.inl<|B.frees y hy e;rw[exec_Assign_Name_used _ _ _ _ hsw];refine À<|du<|À ?_;show wpAny _ X.A (do let _<-comprehension (.ListComp b6 [⟨bR,Ŷ,bD,0⟩] scope ç) scope X.env _ (newList []) fe (eval Ŷ X.env) (eZ<|π (.Name y py) X.env)) _ _ s;refine À (ċ (dA (use:=eZ<|π (.Name y py) X.env) (Q:=λ_ s'=>SP X Á D .next s') rfl hs aZ B.kind B.locs
   (thn (hi Á s σ H _ I h) λv s1 h1=>thn h1 λitv s2 h2=>?_)) (λ_ s' hq=>Æ<|Æ hq) λ_ _ e=>e)
 let⟨it,fp,tn,J,H2,e,I2,T,st2,f2,W,⟨m0,w0⟩,cw⟩:=h2;subst e;refine K9 (RR:=λĴ C=>compPost (Õ X.prog X.w) X.A X.xe (eZ<|π (.Name y py) X.env) (λ_ s'=>SP X Á D .next s') Ĵ C) hc B I2 T st2 f2 c1 c2 hI hE hG w0 cw ?_;intro Dd C s' H' ys m hD hn fC I' fin;let⟨q1,q2,q3,q4,q5,q6⟩:=fC;show wpAny _ _ (π (.Name y py) X.env<|.ref Dd) _ _ _;refine wpAny_assign_Name<|KN I' hN hi' hy (v:=.ref Dd) rfl (λs2 I2 ⟨a,hs2,ha⟩=>?_) hf;have ne:C≠a:=by
  rcases ha with z|z
  .rw[z];exact q2
  .exact(q5 y a z).symm
 refine⟨m,hn.sameBut hs2 ne,λh' hs'=>?_⟩;exact⟨_,_,I2.turned (t':=s2.toks) (λb o hb e=>hs'.extBut b o hb e) q1 q2 q4 q5 q6,fin Dd hD⟩
end
mutual
inductive IsD (K:Frag) (H:Hp):V->ah->Prop
 |non:IsD K H .non .none
 |bl (b:Bool):IsD K H (.bl b)<|.bool b
 |int (i:Int):IsD K H (.int i)<|.int i
 |str (x:Str):IsD K H (.str x)<|.str x
 |lst {a:Ë}{xs:List V}{ds:List ah}:gp K H a xs->IsDs K H xs ds->IsD K H (.ref a) (.list ds)
 |tup {a:Ë}{xs:List V}{ds:List ah}:gq K H a xs->IsDs K H xs ds->IsD K H (.ref a) (.tuple ds)
inductive IsDs (K:Frag) (H:Hp):List V->List ah->Prop
 |nil:IsDs K H [] []
 |cons {x:V}{xs:List V}{d:ah}{ds:List ah}:IsD K H x d->IsDs K H xs ds->IsDs K H (x::xs) (d::ds)
end
section
variable {X:Cx}{Á:List (Ë×Obj)}{σ:St}{H:Hp}{s:Ä}
mutual
theorem IsD.reads(I:Inv X Á σ H s):∀{v:V}{d:ah}{u:Â},IsD X.K H v d->RelV v u->∃as,Reads s.heap u d as
 |_,_,_,.non,r=>by cases r;exact⟨_,.none⟩
 |_,_,_,.bl b,r=>by cases r;exact⟨_,.bool b⟩
 |_,_,_,.int i,r=>by let⟨t,rfl⟩:=r;exact⟨_,.int i t⟩
 |_,_,_,.str x,r=>by let⟨t,rfl⟩:=r;exact⟨_,.str x t⟩
 |_,_,_,.lst q qs,r=>by cases r;let⟨ô,rv,⟨o,n,e,c,_,d⟩,_⟩:=I.list q;let⟨as,ra⟩:=IsDs.reads I qs rv;exact⟨_,.list e c d<|by simpa using ra⟩
 |_,_,_,.tup q qs,r=>by cases r;let⟨ô,rv,⟨o,e,c,n,d⟩,_⟩:=I.tuple q;let⟨as,ra⟩:=IsDs.reads I qs rv;exact⟨_,.tuple e c d<|by simpa using ra⟩
theorem IsDs.reads(I:Inv X Á σ H s):∀{vs:List V}{ds:List ah}{us:List Â},IsDs X.K H vs ds->gw vs us->∃as,ReadsAll s.heap us ds as
 |_,_,_,.nil,.nil=>⟨_,.nil⟩
 |_,_,_,.cons q qs,.cons r rs=>by let⟨as,ra⟩:=IsD.reads I q r;let⟨bs,rb⟩:=IsDs.reads I qs rs;exact⟨_,.cons ra rb⟩
end
end
def IsDs.ints{K:Frag}{H:Hp}:∀ns:List Int,IsDs K H (ns.map V.int) (ns.map PyData.int)
 |[]=>.nil
 |n::ns=>.cons (.int n)<|IsDs.ints ns
section
variable {X:Cx}
abbrev RK(K:Frag):R2:=λx y H Q=>∃d e,IsD K H x d/\IsD K H y e/\SeqAt.shaped d=fc/\SeqAt.shaped e=fc/\Q (.bl<|Ĭ d e) H
abbrev R9(K:Frag):R2:=λx y H Q=>∃d e,IsD K H x d/\IsD K H y e/\SeqAt.shaped d=fc/\SeqAt.shaped e=fc/\Q (.bl (!Ĭ d e)) H
def Ld(hu:X.A.units+64<Ķ):OpR X (ì .Eq)<|RK X.K:=by intro Á s σ H x y v u Q I rx ry h;let⟨d,e,hd,he,sd,se,q⟩:=h;let⟨as,ra⟩:=hd.reads I rx;let⟨bs,rb⟩:=he.reads I ry;exact SeqAt.compareEq_shaped ra rb sd se hu ⟨.bl _,H,I,rfl,q⟩
def Ll(hu:X.A.units+64<Ķ):OpR X (ì .NotEq)<|R9 X.K:=by intro Á s σ H x y v u Q I rx ry h;let⟨d,e,hd,he,sd,se,q⟩:=h;let⟨as,ra⟩:=hd.reads I rx;let⟨bs,rb⟩:=he.reads I ry;exact SeqAt.compareNe_shaped ra rb sd se hu ⟨.bl _,H,I,rfl,q⟩
inductive TyV (K:Frag) (H:Hp):V->Â->Prop
 |of {x:V}{t:Â}:gh K H x t->TyV K H x t
 |tup {a:Ë}{xs:List V}:gq K H a xs->TyV K H (.ref a) (.type "tuple")
 |lst {a:Ë}{xs:List V}:gp K H a xs->TyV K H (.ref a) (.type "list")
def Et:fq X (.builtin "isinstance") λxs H Q=>∃x T t b,xs=[x,.ty T]/\TyV X.K H x t/\PySem.W.kitOne X.K t (.type T)=eZ b/\Q (.bl b) H:=by
 intro Á s σ H xs us Q I r h;let⟨x,T,t,b,rfl,ty,e,q⟩:=h;let⟨u,v,rfl,ru,rv⟩:=Ma r;cases rv;cases ty with
 |of ty=>exact A0 I ru ty e λtk=>⟨.bl b,H,I.tok tk,rfl,q⟩
 |tup hq =>cases ru;let⟨ô,_,⟨o,h1,h2,_⟩,_⟩:=I.tuple hq;exact PySem.W.kia_one PySem.W.kitx_tuple I.kIn ⟨o,h1,h2⟩ e (λz=>nomatch z) λtk=>⟨.bl b,H,I.tok tk,rfl,q⟩
 |lst hq =>cases ru;let⟨ô,_,⟨o,n,h1,h2,_⟩,_⟩:=I.list hq;exact PySem.W.kia_one PySem.W.kitx_list I.kIn ⟨o,h1,h2⟩ e (λz=>nomatch z) λtk=>⟨.bl b,H,I.tok tk,rfl,q⟩
def Dj(hc:X.calm=fc):fq X (.builtin "all") λxs H Q=>∃p,∃bs:List Bool,xs=[.ref p]/\gp X.K H p (bs.map V.bl)/\Q (.bl<|bs.all id) H:=by
 intro Á s σ H xs us Q I r h;let⟨p,bs,rfl,hq,q⟩:=h;let⟨u,rfl,rx⟩:=Yv r;cases rx;let⟨ô,rv,pl,hz⟩:=I.list hq;have hlen:=rv.length;rw[Ã]at hlen;have ϵ:p<s.heap.objs.size:=by let⟨o,n,e,_⟩:=pl;exact Ô e
 refine call_all_walk<|ϔ pl.isList ?_;refine⟨s.heap.objs.size,_,_,ô.toArray.size,_,_,λi=>bs.getD i fc,rfl,Walks.list (A:=X.A.in1) (I.ok.hd hc) s.heap.objs.size p (æ ϵ) ô.toArray,⟨⟨_,Ò _ rfl,rfl,rfl⟩,pl.isList.push _⟩,?_,λh' tk hk=>?_⟩
 .intro i v s' Q' E' hP hQ;have hP:ô[i]?=eZ v:=⇑hP
  have hb:(bs.map V.bl)[i]?=eZ (.bl<|bs.getD i fc):=by
   have hi:i<bs.length:=by have:=(Î.mp hP).1;lia
   rw[Ú,ĕ];simp[hi]
  let⟨u,hu,ru⟩:=rv.get hb;rw[hP]at hu;cases hu;cases ru;exact ē hQ
 .have e:(List.range ô.toArray.size).all (λi=>bs.getD i fc)=bs.all id:=by
   rw[Ð,<-hlen,ϛ,ý,ý];constructor
   .intro h b hb;let⟨i,hi,rfl⟩:=List.mem_iff_getElem.mp hb;have:=h i<|Ÿ.mpr hi;rw[ĕ,È hi]at this;exact this
   .intro h i hi;have hi:=Ÿ.mp hi;rw[ĕ,È hi];exact h _<|ı hi
  rw[e];refine⟨.bl _,H,I.kept (t':=tk) λb o e=>hk b o (λhm=>?_)<|Å _ e,rfl,q⟩;have:b=s.heap.objs.size:=⇑hm
  exact gM (this▸Ô e)<|Ĥ _
abbrev sortI(ns:List Int):List Int:=ns.mergeSort λa b=>gN (a<=b)
def XS(ns:List Int):(sortI ns).Perm ns:=ς ns _
def Os(ns:List Int):(sortI ns).Pairwise (·<=·):=by have h:=b9 (le:=λa b:Int=>gN (a<=b)) (λa b c h1 h2=>by simp at *;lia) (λa b=>by simp;lia) ns;exact h.imp λh=>⇑h
variable {ns:List Int} {ms:List Int}
def Y3(hp:ms.Perm ns)(hs:ms.Pairwise (·<=·)):ms=sortI ns:=PySem.W.ksm_same (hp.trans (XS ns).symm) hs (Os ns)
def Kt(hp:ms.Perm ns):sortI ms=sortI ns:=Y3 ((XS ms).trans hp) (Os ms)
def YM(ns:List Int):(sortI ns).length=ns.length:=(XS ns).length_eq
def YT:∀{vs:List Â}{ns:List Int},Ā vs ns->gw (ns.map V.int) vs:=WF
def call_sorted:fq X (.builtin "sorted") λxs H Q=>∃p,∃ns:List Int,xs=[.ref p]/\gp X.K H p (ns.map V.int)/\ns.length<64/\∀l,H l=fb->Q (.ref l) (upd H l<|.lst<|(sortI ns).map V.int):=by intro Á s σ H xs us Q I r h;let⟨p,ns,rfl,hq,h64,q⟩:=h;let⟨u,rfl,rx⟩:=Yv r;cases rx;let⟨ô,rv,pl,hz⟩:=I.list hq;have hlen:=rv.length;rw[Ã]at hlen;refine sorted_ints pl.isList (ZI rv) (by lia) λout cC a1 a2 a3=>?_;have e:=Y3 a2 a3;subst e;let⟨n,he⟩:=sortedAll_at s.heap ô out;refine⟨.ref<|s.heap.objs.size+1,_,I.laid (a:=s.heap.objs.size+1) (o:=.lst<|(sortI ns).map V.int) (t':=s.toks) (λb o e=>sortedAll_old e) (Ŏ _) ?_,rfl,q _<|I.hok.fresh<|Ŏ _⟩;exact⟨by rw[Ã,YM];rw[Ã]at hz;exact hz,out.toList,n,YT a1,by simpa[Ω]using he⟩
end
section
variable {X:Cx}{x:Str}{p ç:Pos}{e:Expr}{es:List Expr}{t:TA}
def QJ{T:String}(hg:Gl X x)(hm:X.mg x=fb)(hv:Ů x=eZ (.type T))(hn:x≠"__name__":=by decide)(hd:(x==("__debug__" : Str))=fe:=by decide):PE X (.Name x ç)<|tC<|.ty T:=UF hg hm hv rfl hn hd
end
abbrev Yw(scope sc:ξ)(N:List Str)(x:List Str)(õ:List Nat):Bool :=
 scope.names.all (λy=>y.2 != .cell)&&scope.names.all (λy=>y.2 != .local||scope.names.lookup y.1==eZ .local)&&x.all (λy=>scope.names.lookup y==eZ .local) &&
 scope.names.all (λy=>y.2 != .free||sc.names.lookup y.1==eZ .cell) &&
 õ.all (λj=>gN (j<N.length)&&sc.names.lookup (N.getD j Str.empty)==eZ .cell&&scope.names.lookup (N.getD j Str.empty)==eZ .free)&&gN (x++õ.map λj=>N.getD j Str.empty).Nodup
def Uc{X:Cx}{scope sc:ξ}{x:List Str}{õ:List Nat}{N:List Str}(hsc:X.env.scope=sc)(hN:X.N=N)(hk:scope.kind=.function)(h:Yw scope sc N x õ=fc):BlkOk X scope x õ:=by
 unfold Yw at h;simp only[bAq]at h;let⟨⟨⟨⟨⟨h1,h2⟩,h3⟩,h4⟩,h5⟩,h6⟩:=h;rw[ý]at h1 h2 h4 h5;refine⟨hk,λy hy=>by simpa using h1 y hy,λy hy e=>?_,λy hy=>by simpa using ý.mp h3 y hy,λy hy e=>?_,λj hj=>?_,?_⟩
 .have:=h2 y hy;rw[e]at this;simpa using this
 .have:=h4 y hy;rw[e]at this;show X.env.scope.names.lookup y.1=_;rw[hsc];simpa using this
 .have:=h5 j hj;simp only[bAq,gL,beq_iff_eq]at this;let⟨⟨a,b⟩,c⟩:=this;refine⟨?_,?_,?_⟩
  .rw[hN,È a];rfl
  .show X.env.scope.names.lookup _=_;rw[hsc,hN];exact b
  .rw[hN];exact c
 .unfold Z7;rw[hN];exact of_decide_eq_true h6
abbrev fH(r:Ë)(H H':Hp):Prop:=∀b o,H b=eZ o->b≠r->H' b=eZ o
def fH.refl(r:Ë)(H:Hp):fH r H H:=λ_ _ h _=>h
def fH.trans{r:Ë}{H H1 H2:Hp}(a:fH r H H1)(b:fH r H1 H2):fH r H H2:=λc o h n=>b c o (a c o h n) n
noncomputable abbrev Tie:=Int×Int×Int
variable {c:Bool} {A:Prop} {B:Prop}
def gb(e:c=fc)(h:A):if c=fc then A else B:=by rw[gG e];exact h
def gc(e:c=fe)(h:B):if c=fc then A else B:=by rw[e,gH ā];exact h
structure BrOk(ns:List Int):Prop where
 one:1<=ns.length
 ten:ns.length<=10
 rng:∀n∈ns,0<=n/\n<=999
 nd:ns.Nodup
structure TieOk(ns:List Int)(t:Tie):Prop where
 a:t.1∈ns
 b:t.2.1∈ns
 ne:t.1≠t.2.1
 lo:1<=t.2.2
 hi:t.2.2<=1000
structure TsOk(ns:List Int)(ts:List Tie):Prop where
 few:ts.length<=16
 each:∀t∈ts,TieOk ns t
abbrev mn(x y:Int):Int:=if y<x then y else x
section
variable {X:Cx}(K:Frag) (h:X.K=K)
include h
end
section
variable {prog:ä}{w:ö}{A:ĉ}{E:Â->Ä->Prop}{s:Ä}
variable {it:Ë} {i:Nat} {items:Array Â} {Q:Â->Ä->Prop}
def OP{t:Ë}{x:Â}(hit:s.heap.IsTupleIter it t i)(ht:s.heap.IsTuple t items)(hx:items[i]?=eZ x)
  (hQ:∀h',h'.IsTupleIter it t (i+1)->Ź it s.heap h'->Q x {s with heap:=h'}):wpAny (Õ prog w) A (Builtin.SmallTypes.nextOf<|.ref it) Q E s:=by
 let⟨o,ho,hc,hd⟩:=id hit;let⟨ot,hot,_,nt,hdt⟩:=ht;unfold Builtin.SmallTypes.nextOf;refine À<|ļ (name:=gO "__next__") hit.typeIs F.slot_tuple_iterator_next<|ġ F.slot_tuple_iterator_next hit.typeIs F.entry_tuple_iterator_next ?_<|F.args_tuple_iterator_next_1 _;show wpAny _ _ (field (.ref it) 0 >>= _) _ _ s;refine À<|œ ho hd (x:=.ref t) rfl ?_;show wpAny _ _ (if(Value.ref t==Value.none)=fc then _ else _) _ _ s;rw[gH<|show ¬ ((Value.ref t==Value.none)=fc) from ā];show wpAny _ _ (field (.ref it) 1 >>= _) _ _ s;refine À<|œ ho hd (x:=.int i 0) rfl ?_;show wpAny _ _ (ax (.ref t) >>= _) _ _ s;refine À<|Ř hot hdt ?_;simp only[à,hx];refine À (ň ho hd (by simp)<|Æ ⟨x,rfl,Æ<|hQ _ ⟨_,ė _ ho<|dg<|Μ hd _,(Obj.cls_mapFields ..).trans hc,?_⟩<|Ă ..⟩);rw[Μ hd];simp[Ī]
def KR{t:Ë}(hh:A.handled=fb)(hit:s.heap.IsTupleIter it t i)(ht:s.heap.IsTuple t items)(hx:items[i]?=fb)
  (hE:∀h' e,Heap.ExtBut it s.heap h'->(∃o,h'.get? e=eZ o/\o.cls=.type "StopIteration")->E (.ref e) {s with heap:=h'}):wpAny (Õ prog w) A (Builtin.SmallTypes.nextOf<|.ref it) Q E s:=by
 let⟨o,ho,hc,hd⟩:=id hit;let⟨ot,hot,_,nt,hdt⟩:=ht;unfold Builtin.SmallTypes.nextOf;refine À<|ļ (name:=gO "__next__") hit.typeIs F.slot_tuple_iterator_next<|ġ F.slot_tuple_iterator_next hit.typeIs F.entry_tuple_iterator_next ?_<|F.args_tuple_iterator_next_1 _;show wpAny _ _ (field (.ref it) 0 >>= _) _ _ s;refine À<|œ ho hd (x:=.ref t) rfl ?_;show wpAny _ _ (if(Value.ref t==Value.none)=fc then _ else _) _ _ s;rw[gH<|show ¬ ((Value.ref t==Value.none)=fc) from ā];show wpAny _ _ (field (.ref it) 1 >>= _) _ _ s;refine À<|œ ho hd (x:=.int i 0) rfl ?_;show wpAny _ _ (ax (.ref t) >>= _) _ _ s;refine À<|Ř hot hdt ?_;simp only[à,hx];refine À (Ϫ<|À<|ň ho hd (by simp) ?_);show wpAny _ _ (newExc (.type "StopIteration") [] >>= _) _ _ _;refine À ?_;simp only[newExc,newTuple];refine À (č (À (m:=aj _ _)<|bU (a:=Value.none) (by first|rfl|(simp only[aj];rfl))<|č ?_<|by size_fits)<|by size_fits);simp only[raiseNew];refine À<|wpAny_handled ?_
 first
 |rw[show A.in1.handled=fb from hh]
 |rw[hh]
 exact À<|Æ<|wpAny_throw<|hE _ _ (((Ă ..).extBut.push _).push _) ⟨_,Ò _ rfl,rfl⟩
end
variable {prog:ä} {w:ö} {A:ĉ}
def LO(hh:A.handled=fb)(it t:Ë)(ŭ:t≠it)(items:Array Â) :
  Draws prog w A it [it,t] items.size (λi v=>items[i]?=eZ v) (λi h=>h.IsTupleIter it t i/\h.IsTuple t items) where
 live:=λ_ _ st=>let ⟨o,ho,_⟩:=st.1;⟨o,ho⟩
 frame:=λ_ _ _ st hk=>⟨st.1.at λo e=>hk it (by simp) o e,st.2.at λo e=>hk t (by simp) o e⟩
 item:=λi s Q E hi st hQ=>OP st.1 st.2 (x:=items[i]) (by simp[hi]) λh' hit' hs'=>hQ _ h' s.toks (by simp[hi]) ⟨hit',st.2.extBut hs'.extBut ŭ⟩ hs'
 done:=λs Q E st hE=>KR hh st.1 st.2 (by simp) hE
open AutoSeq1 (wpAny_loadPart') in
def IK(l:Ë)(items:Array Â)(n:Nat)(dct:Option Ë)(sl:Array<|Option Â) :
  Meets (Builtin.«enumerate.__new__» ⟨[.type "enumerate",.ref l],[]⟩) (λ_ R s=>s.heap.get? l=eZ { cls:=.type "tuple",dict:=dct,data:=.seq items n,slots:=sl }/\
    R (.ok<|.ret<|.ref (s.heap.push {cls:=.type "tuple_iterator",data:=.fields #[.ref l,.int 0 0]}).objs.size)
      { s with heap:=(s.heap.push { cls:=.type "tuple_iterator",data:=.fields #[.ref l,.int 0 0] }).push { cls:=.type "enumerate",data:=.fields #[.none,.bool fe,.ref s.heap.objs.size,Ī 0,.none,.none] } }) :=
 .of_wp λprog w A R s h=>by
  let⟨hp,g,d,tk,os⟩:=s;let⟨hl,h⟩:=h;have hsub:=sub_enumerate;have hL:Heap.IsTuple (Shared.heap ⟨hp,g,d,tk,os⟩) l items:=⟨_,hl,rfl,n,rfl⟩
  wp_walk using Ĝ hl
  refine wpAny_stack_any λst=>Æ ?_;split
  .rename_i c _ _ _ _ _;cases (c==Value.type "enumerate")<;>(wp_walk using Ĝ hl,aL hL;exact⟨_,rfl,h⟩)
  .wp_walk using Ĝ hl,aL hL;exact⟨_,rfl,h⟩
def OD{E:Â->Ä->Prop}{s:Ä}{l:Ë}{items:Array Â}{Q:Â->Ä->Prop}(hL:s.heap.IsTuple l items)
  (h:∀h',IsEnum h' (s.heap.objs.size+1) s.heap.objs.size 0 .none->h'.IsTupleIter s.heap.objs.size l 0->(∀b o,s.heap.get? b=eZ o->h'.get? b=eZ o)->Q (.ref<|s.heap.objs.size+1) {s with heap:=h'}) :
  wpAny (Õ prog w) A (call (.type "enumerate") [.ref l]) Q E s:=by
 let⟨⟨c,dct,dt,sl⟩,hl,hc,n,hd⟩:=hL;simp only at hc hd;subst hc hd;refine callType_new F.called_enumerate (by decide) (F.typeCall_enumerate_1 _) (F.newCall_enumerate_1 _) (λobj=>F.args_object_init_2 obj _) F.entry_enumerate_new (IK l items n dct sl) ⟨hl,?_⟩;have hz:(s.heap.push {cls:=.type "tuple_iterator",data:=.fields #[.ref l,.int 0 0]}).objs.size=s.heap.objs.size+1:=Ż ..;have hg:=Ò (s.heap.push {cls:=.type "tuple_iterator",data:=.fields #[.ref l,.int 0 0]}) (o:={cls:=.type "enumerate",data:=.fields #[.none,.bool fe,.ref s.heap.objs.size,Ī 0,.none,.none]}) rfl;rw[hz]at hg;show _/\_;rw[hz];exact⟨⟨_,hg,rfl⟩,h _ hg ⟨_,Å _<|Ò _ rfl,rfl,rfl⟩ λb o x=>Å _<|Å _ x⟩
section
variable {X:Cx}{Á:List (Ë×Obj)}{σ:St}{H:Hp}{s:Ä}{h':Ć}
def Inv.turnedL{t':Nat}{ch:List Ë}(I:Inv X Á σ H s)(k:∀b o,b∉ch->s.heap.get? b=eZ o->h'.get? b=eZ o)(hc:∀b∈ch,WJ X Á H b):Inv X Á σ H {s with heap:=h',toks:=t'}:=by
 have nit:∀b u,H b=eZ u->b∉ch:=λb u e z=>by rw[(hc b z).1]at e;cases e
 refine I.step (g':=s.gens) (d':=s.drawn) (ch:=ch) (λb hb=>?_) (λb o _ _ hcb e _=>k b o hcb e) (λb o _ _ hcb e _=>⟨o.slots,k b o hcb e⟩) (λ_ _ _ _ n=>n)
  (λb o hcb e=>⟨o,k b o hcb e⟩) (λ_ _ e=>e) (λ_ _ _ e=>e) (λb ps e=>⟨#[],by rw[e];simp⟩) (λm hm=>?_) (λb u e=>?_) I.bare
 .obtain⟨_,q2,_,q4,q5,q6⟩:=hc b hb;exact⟨q4,q2,q5,q6⟩
 .obtain⟨o,es,ep,ho,r⟩:=hm;exact⟨o,es,ep,k _ o (λz=>(hc _ z).2.1 rfl) ho,r⟩
 .refine(I.hok b u e).stay (λc v hcc q=>k c v ?_ q) (λ_ q=>q) λ_ _ q=>q;rcases hcc with z|z
  .rw[z];exact nit b u e
  .exact nit c _ z
def Inv.track{T:Ë}{o:HO}(I:Inv X Á σ H s)(hT:H T=fb)(h0:X.s₀.heap.objs.size<=T)(hL:T≠X.env.locals)(aZ:∀x c,X.env.cells.lookup x=eZ c->c≠T)(hp:∀p∈X.pn++Á,p.1≠T)
  (new:fu X.prog X.w (upd H T o) s.heap T o):Inv X Á σ (upd H T o) s:=by
 have neT:∀b ob,X.s₀.heap.get? b=eZ ob->b≠T:=λb ob e=>æ<|á (Ô e) h0;refine⟨I.ok,I.os,I.bare,⟨I.base.keep,I.base.slot,λb ob e n hx=>?_,I.base.there,λb xs e=>?_,λb ob xs e=>?_,λb ps e=>?_⟩,I.loc,I.cell,?_,λx c e=>?_,λp hpp=>?_,I.hok.track hT new,I.len⟩
 .rw[ff<|neT b ob e];exact I.base.free b ob e n hx
 .have q:=I.base.tups b xs e;rw[ff<|Zf q hT];exact q
 .have q:=I.base.frzs b ob xs e;rw[ff<|Zf q hT];exact q
 .obtain⟨m,q⟩:=I.base.tbls b ps e;exact⟨m,by rw[ff<|Zf q hT];exact q⟩
 .rw[ff hL.symm];exact I.free
 .rw[ff<|aZ x c e];exact I.freeC x c e
 .obtain⟨a,b,c,d,e⟩:=I.pin p hpp;exact⟨a,by rw[ff<|hp p hpp];exact b,c,d,e⟩
end
abbrev Ite(K:Frag)(a:Ë):It :=
 ⟨λi H=>∃xs x,gq K H a xs/\xs[i]?=eZ x,λi H v H'=>∃p,v=.ref p/\H p=fb/\∀xs x,gq K H a xs->xs[i]?=eZ x->H'=upd H p (.tup [.int i,x]),λi H=>∃xs,gq K H a xs/\xs.length<=i⟩
variable {es:List Expr} {kk:Nat} {tp:Pos}
def OS{P:ä}{K:Frag}(a it e:Ë)(ŭ:e≠it) :
  Turn P w K (.Tuple es kk tp) (Ite K a) [e,it] e (λi h=>(∃ϴ,IsEnum h e it i ϴ)/\h.IsTupleIter it a i) where
 mem:=by simp
 obj:=λi h st b hb=>by
  let⟨⟨ϴ,h1⟩,o2,e2,_,d2⟩:=st;rcases Ç.mp hb with q|q
  .subst q;exact⟨_,h1,λv z=>by cases z⟩
  .have q:b=it:=⇑q
   subst q;exact⟨o2,e2,λv z=>by rw[d2]at z;cases z⟩
 keep:=λi h h' st k=>⟨let ⟨ϴ,h1⟩:=st.1;⟨ϴ,k e (by simp) _ h1⟩,st.2.at λo q=>k it (by simp) o q⟩
 item:=by
  intro X hP hw hK hc i Á s σ H E I hf st hg;subst hP hw hK;let⟨xs,x,hq,hx⟩:=hg;let⟨ô,rv,pl,hz⟩:=I.tuple hq;let⟨u,hu,ru⟩:=rv.get hx;have hsz:=rv.length;have hi:i<ô.toArray.size:=by rw[Ð];exact(Î.mp hu).1
  let⟨⟨ϴ,h1⟩,h2⟩:=st;have hfi:=hf it (by simp);have hai:a≠it:=λz=>by let⟨o,ho,aZ,_⟩:=h2;let⟨o',aF,hcl',_⟩:=pl;rw[z,ho]at aF;cases aF;rw[aZ]at hcl';exact gM (ay hcl') (by decide)
  have hae:e∉[it,a]:=λz=>by
   rcases Ç.mp z with z|z
   .exact ŭ z
   .have z:e=a:=⇑z
    let⟨o',aF,hcl',_⟩:=pl;rw[<-z,h1]at aF;cases aF;exact gM (ay hcl') (by decide)
  refine wpAny_pyNext_enum_itemD (LO (A:=X.A.in1) (I.ok.hd hc) it a hai ô.toArray) h1 ⟨h2,pl⟩ hi ŭ hae λv h3 tk hv hout hst3 hT _ hk=>?_;have ev:v=u:=by
   have hv:ô[i]?=eZ v:=⇑hv
   rw[hu]at hv;exact(ï hv).symm
  subst ev;have nT:∀b∈[e,it],s.heap.objs.size≠b:=λb hb z=>by
   rcases Ç.mp hb with q|q
   .exact gM (Ô h1) (by rw[<-q,<-z];exact Ĥ _)
   .have q:b=it:=⇑q
    let⟨o,ho,_⟩:=h2;exact gM (Ô ho) (by rw[<-q,<-z];exact Ĥ _)
  have b7:=I.fpOk (H':=H) (Ñ s.heap.objs.size) I.fresh;refine⟨.ref s.heap.objs.size,rfl,wpAny_letOwnedTupleGo_enum hout λh4 he4 hs4=>?_⟩;have I4:Inv X Á σ H {s with heap:=h4,toks:=tk+1}:=I.turnedL (t':=tk+1) (ch:=[e,it]) (λb o hb q=>hs4.extBut b o (λz=>hb<|by simp[z])<|hk b o (λz=>hb<|by simp[z]) (λz=>hb<|by simp[z]) q) hf;have hT4:h4.get? s.heap.objs.size=eZ {cls:=.type "tuple",data:=.seq #[.int i tk,v]}:=hs4.extBut _ _ (nT e<|by simp) hT;let⟨f0,f1,f2,f3,f4,f5⟩:=b7;have I5:Inv X Á σ (upd H s.heap.objs.size<|.tup [.int i,x]) {s with heap:=h4,toks:=tk+1}:=I4.track f0 I.sz f1 f4 f5 ⟨by show 2<=Ö;decide,[.int i tk,v],.cons ⟨tk,rfl⟩<|.cons ru .nil,_,hT4,rfl,_,rfl⟩;refine⟨.ref s.heap.objs.size,_,I5,rfl,⟨s.heap.objs.size,rfl,f0,λys y hy hyi=>?_⟩,⟨⟨v,⇑he4⟩,hst3.1.at λo q=>hs4.extBut it o (Ne.symm ŭ) q⟩,λb hb=>?_⟩
  .have ey:ys=xs:=I.tuple_inj hy hq;rw[ey,hx]at hyi;rw[ï hyi]
  .rw[ff (nT b hb).symm];exact(hf b hb).1
 done:=by
  intro X hP hw hK hc i Á s σ H E I hf st hg;subst hP hw hK;let⟨xs,hq,hx⟩:=hg;let⟨ô,rv,pl,hz⟩:=I.tuple hq;have hl:=rv.length;let⟨⟨ϴ,h1⟩,h2⟩:=st;have hai:a≠it:=λz=>by let⟨o,ho,aZ,_⟩:=h2;let⟨o',aF,hcl',_⟩:=pl;rw[z,ho]at aF;cases aF;rw[aZ]at hcl';exact gM (ay hcl') (by decide)
  have hT:s.TypeIs (.ref e) "enumerate":=⟨_,h1,rfl⟩
  unfold Ϛ;refine À<|wpAny_attempt<|ļ (name:=gO "__next__") hT F.slot_enumerate_next<|ġ F.slot_enumerate_next hT F.entry_enumerate_next ?_<|F.args_enumerate_next_1 _;show wpAny _ _ (field (.ref e) 2 >>= _) _ _ _;refine À<|œ h1 rfl (x:=.ref it) rfl ?_;refine À (KR (A:=X.A.in1) (I.ok.hd hc) h2 pl (by simp;lia) λh' x he' hx'=>?_);let⟨o,ho,aZ⟩:=hx';refine À<|bK (T:="StopIteration") (b:=fc) ⟨o,ho,aZ⟩ isSubtype_stop<|Æ ⟨rfl,?_⟩;exact I.turnedL (t':=s.toks) (ch:=[it]) (λb ob hb q=>he' b ob (λz=>hb<|by simp[z]) q) λb hb=>hf b<|Þ _ hb
 self:=λA i s Q E st h=>by let⟨⟨ϴ,h1⟩,_⟩:=st;exact wpAny_pyIter_enum h1 h
section
variable {X:Cx}
abbrev Ik(K:Frag)(ta:TA):TI:=λσ H R=>ta σ H λvs H1=>∃a,vs=[.ref a]/\(∃xs,gq K H1 a xs)/\R (Ite K a) H1
def D5{p ç:Pos}{e:Expr}{ta:TA}(hg:Gl X "enumerate")(hm:X.mg "enumerate" = fb)(ha:PA X [e] ta)(hs:Ï [e] X.env=[(fe,eval e X.env)]:=by rfl) :
  PI X (.Tuple es kk tp) (.Call (.Name "enumerate" p) [e] [] ç) (Ik X.K ta):=by
 intro Á s σ H R I h;refine Call_ (Xp (u:=.type "enumerate") I hg hm (by kernel_rfl)<|PyProof.Rows.callWith_type1 (T:="enumerate") (thn (ha ç Á s σ H _ I h) λus s1 ⟨vs,H1,I1,r1,q1⟩=>?_) hs rfl);let⟨a,e1,⟨xs,hq⟩,q⟩:=q1;subst e1;let⟨u,rfl,ru⟩:=Yv r1;cases ru;let⟨ô,rv,pl,hz⟩:=I1.tuple hq;refine OD pl λh2 he2 hi2 hk2=>?_;have I2:Inv X Á σ H1 {s1 with heap:=h2}:=I1.kept (t':=s1.toks) hk2;refine wpAny_pyIter_enum he2 ⟨s1.heap.objs.size+1,[s1.heap.objs.size+1,s1.heap.objs.size],_,_,H1,rfl,I2,OS a s1.heap.objs.size (s1.heap.objs.size+1)<|ũ<|ĳ _,⟨⟨_,he2⟩,hi2⟩,λb hb=>?_,q⟩;have bO:s1.heap.objs.size<=b:=by
  rcases Ç.mp hb with z|z
  .rw[z];exact Ŏ _
  .have z:b=s1.heap.objs.size:=⇑z
   rw[z];exact Ñ _
 exact I1.fpOk bO<|I1.hok.fresh bO
end
end L2
namespace L2
open PySem PySem.Spec PyProof.Rows
open PySem.Builtin PySem.Builtin.Str
noncomputable abbrev TJ:=St->Hp->Str->(Str->Hp->Prop)->Prop
abbrev PJ(X:Cx)(vs:List Expr)(t:TJ):Prop :=
 ∀(Á:List<|Ë×Obj) (s:Ä) (σ:St) (H:Hp) (Ĵ:Str) (Q:Str->Hp->Prop),Inv X Á σ H s->t σ H Ĵ Q->
  Joins (Õ X.prog X.w) X.A X.xe (cK vs X.env) Ĵ (λout s1=>∃H1,Inv X Á σ H1 s1/\out.length<=Ö/\Q out H1) s
abbrev Sq:TJ:=λ_ H Ĵ Q=>Ĵ.length<=Ö/\Q Ĵ H
abbrev Q7(te:TE)(tr:TJ):TJ:=λσ H Ĵ Q=>te σ H λx H1=>∃y,x=.str y/\(Ĵ++y).length<=Ö/\tr σ H1 (Ĵ++y) Q
section
variable {X:Cx}{e:Expr}{es:List Expr}{te:TE}{tr:TJ}{ç:Pos}
def pj_nil:PJ X [] Sq:=λÁ s σ H Ĵ Q I h=>⟨H,I,h.1,h.2⟩
def FK(he:PE X e te)(hr:PJ X es tr)(hs:cK (e::es) X.env=eval e X.env::cK es X.env:=by rfl):PJ X (e::es)<|Q7 te tr:=by intro Á s σ H Ĵ Q I h;rw[hs];show wpAny _ _ _ _ _ _;refine thn (he Á s σ H _ I h) λv s1 ⟨x,H1,I1,r1,y,e1,hz,q1⟩=>?_;subst e1;let⟨t,rfl⟩:=r1;exact⟨y,t,rfl,hz,hr Á s1 σ H1 (Ĵ++y) Q I1 q1⟩
def Joins.imp{M:dO}{A:ĉ}{E:Â->Ä->Prop}:∀{ps:List (Sem Â)}{Ĵ:Str}{Q Q':Str->Ä->Prop}{s:Ä},(∀o s,Q o s->Q' o s)->Joins M A E ps Ĵ Q s->Joins M A E ps Ĵ Q' s
 |[],_,_,_,_,f,h=>f _ _ h
 |_::_,_,_,_,_,f,h=>thn h λv s1 ⟨y,t,e,hz,hr⟩=>⟨y,t,e,hz,Joins.imp f hr⟩
end
abbrev wT:Str:="tie"
structure fG(bs:List Int)(ts:List Tie):Prop where
 br:BrOk bs
 ti:TsOk bs ts
 so:sortI bs=bs
 lo:ts.map loT=ts
end L2
namespace L2
open PySem PySem.Spec PyProof.Rows
variable {P:ä} {w:ö} {H:Hp} {h:Ć} {a:Ë}
def fu.obj{o:HO}(x:fu P w H h a o):∃u,h.get? a=eZ u:=by
 cases o with
 |lst xs=>let⟨_,_,_,_,e⟩:=x;exact⟨_,e⟩
 |tup xs=>let⟨_,_,_,ob,e,_⟩:=x;exact⟨_,e⟩
 |dK kvs=>let⟨_,_,_,_,o,_,_,e,_⟩:=x;exact⟨_,e⟩
 |dT kvs=>let⟨_,_,_,_,o,_,_,e,_⟩:=x;exact⟨_,e⟩
 |set S n=>let⟨o,_,_,_,e,_⟩:=x;exact⟨_,e⟩
 |ins C dx fs=>let⟨_,_,_,e,_⟩:=x;exact⟨_,e⟩
 |own y=>exact x
 |xd fs=>let⟨_,⟨_,_,_,e,_⟩,_⟩:=x;exact⟨_,e⟩
 |rng lo hi=>let⟨_,_,_,e⟩:=x;exact⟨_,e⟩
 |frz ob u=>exact⟨_,x.1⟩
 |tbl ps=>exact⟨_,(show h.get? a=eZ _ from x)⟩
 |met f y=>exact⟨_,(show h.get? a=eZ _ from x)⟩
 |ext φ=>exact x.2.1
def HOk.none_of(x:HOk P w H h)(e:h.get? a=fb):H a=fb:=by
 cases q:H a with
 |none=>rfl
 |some u =>let⟨ob,z⟩:=(x a u q).obj;rw[e]at z;cases z
abbrev N9(h:Ć)(a:Ë)(cls:Â)(T:Option Ë):Prop :=
 ∃oe vs a0,h.get? a=eZ oe/\oe.cls=cls/\oe.data=.fields vs/\vs[0]?=eZ a0/\
  match T with
  |none=>vs[1]?=eZ .none
  |some T=>vs[1]?=eZ (.ref T)/\T≠a/\∃oT ts fl,h.get? T=eZ oT/\oT.data=.fields ts/\ts[3]?=eZ fl
structure Fl(P:ä)(w:ö)(l:List Env)(H:Hp)(s:Ä)(H':Hp)(a:Ë)(cls:Â)(s':Ä):Prop where
 os:s'.os=s.os
 bare:ϒ s'.gens
 un:Un (frs l) [] H H' s.heap s'.heap
 hok:HOk P w H' s'.heap
 na:s.heap.get? a=fb
 ha:H' a=fb
 ex:∃T,N9 s'.heap a cls T/\∀t,T=eZ t->s.heap.get? t=fb/\H' t=fb
abbrev CX1(P:ä)(w:ö):CXT:=λl H s E e s'=>∃a cls H',e=.ref a/\Fl P w l H s H' a cls s'/\E cls fb H'
abbrev XW(X:Cx)(E:XK):Prop:=∀(Á:List<|Ë×Obj) (σ:St) (H:Hp) (s:Ä) (H':Hp) (a:Ë) (cls:Â) (s':Ä),
 Inv X Á σ H s->Fl X.prog X.w X.stack H s H' a cls s'->E cls fb H'->X.xe (.ref a) s'
def XW.passes{X:Cx}{E:XK}(h:XW X E):Xh (CX1 X.prog X.w) X E:=λÁ σ H s e s' I ⟨a,cls,H',z,f,q⟩=>by subst z;exact h Á σ H s H' a cls s' I f q
section
variable {M:dO}{A:ĉ}{E:Â->Ä->Prop}{s:Ä}{B:Ć}{env:Env}{outer:List Env}{L a:Ë}{cls:Â}{T:Option Ë}{Q:Unit->Ä->Prop}
abbrev Y5(h:Ć)(l:List Env)(a:Ë)(T:Option Ë):Ć:=PySem.W.hideAll h<|a::(T.toList++frs l)
def Yt(h:Ć)(l:List Env)(a:Ë)(T:Option Ë):(Y5 h l a T).StaysIn h:=λb o e=>PySem.W.of_hideAll _ e
def X1{l:List Env}(a:Ë)(T:Option Ë)(hl:h.FunFrames B l):h.FunFrames (Y5 h l a T) l :=
 PySem.W.funFrames_hide hl λe he b hb=>Þ _<|Ê _<|Ε.mpr ⟨e,he,hb⟩
def UU(h:Ć)(l:List Env)(a:Ë)(T:Option Ë):(Y5 h l a T).get? a=fb:=PySem.W.hideAll_none _ î
def MF(h:Ć)(l:List Env)(a t:Ë):(Y5 h l a<|eZ t).get? t=fb:=PySem.W.hideAll_none _ (Þ _<|Ù _<|by simp)
def A8(b7:A.frames=eZ (env::outer))(hf:env.frame=eZ L)(hl:s.heap.FunFrames B<|env::outer)(hx:N9 s.heap a cls T)
  (fin:∀h' a0,Heap.NotedW (Y5 s.heap (env::outer) a T) (env::outer) a cls a0 (Ī L) s.heap h'->Q () {s with heap:=h'}):wpAny M A (bJ (.ref a) env) Q E s:=by
 let⟨oe,vs,a0,he,hc,hd,h0,ht⟩:=hx;have fin:=λh'=>fin h' a0;cases T with
 |none =>subst hc;unfold bJ;simp only[hf];refine À<|œ he hd ht ?_;rw[gH<|by decide];exact wpAny_entryW b7 (X1 a fb hl) hf he (Yt _ _ _ _) (UU _ _ _ _) hd (ŀ.mp ht).1 h0 fin
 |some t =>
  let⟨h1,ŭ,oT,ts,fl,e1,e2,e3⟩:=ht;by_cases c:fl=Ī L
  .subst c;have tr:s.heap.TracedAtW (Y5 s.heap (env::outer) a<|eZ t) a cls a0<|Ī L:=⟨oe,vs,t,oT,ts,he,⟨hc,h0⟩,hd,h1,MF _ _ _ _,ŭ,e1,e2,e3⟩
   exact wpAny_noteFrame_againW hf tr<|fin _ ⟨Yt _ _ _ _,X1 a (eZ t) hl,tr,λb o e nf=>⟨o.slots,e⟩⟩
  .subst hc;unfold bJ;simp only[hf];refine À<|œ he hd h1 ?_;rw[gG<|by simp];refine À<|œ e1 e2 e3 ?_;rw[gH<|by simpa using c];refine À<|ň e1 e2 (ŀ.mp e3).1 ?_;have off:∀b,b≠t->(s.heap.update t (ϊ (·.setIfInBounds 3 Value.none))).get? b=s.heap.get? b:=λb hb=>í _ _ hb.symm;have nr:∀b o,s.heap.get? b=eZ o->(∀vs,o.data≠.fields vs)->b≠t:=λb o hb nf z=>by
    rw[z,e1]at hb;cases hb;exact nf ts e2
   have bn:=MF s.heap (env::outer) a t;exact wpAny_entryW b7 ((X1 a (eZ t) hl).of_keeps λb o hb nf=>⟨o,(off b<|nr b o hb nf).trans hb,rfl⟩) hf ((off a ŭ.symm).trans he) (λb o hbo=>(off b λz=>by rw[z,bn]at hbo;cases hbo).trans<|Yt _ _ _ _ b o hbo) (UU _ _ _ _) hd (ŀ.mp h1).1 h0 λh' ⟨x1,x2,x3,x4⟩=>fin h' ⟨x1,x2,x3,λb o hb nf=>x4 b o ((off b<|nr b o hb nf).trans hb) nf⟩
def WL(b7:A.frames=eZ (env::outer))(hf:env.frame=eZ L)(hl:s.heap.FunFrames B<|env::outer)(hx:N9 s.heap a cls T)
  (h:∀h' a0,Ϲ (Y5 s.heap (env::outer) a T) (env::outer) a cls a0 s.heap h'->Q () {s with heap:=h'}):wpAny M A (bJ (.ref a) env) (λ_ s2=>wpAny M A (setFlight (.ref a) fb) Q E s2) E s :=
 A8 b7 hf hl hx λh' a0 ⟨k1,k2,k3,k4⟩=>wpAny_setFlight_noneW k1 k2 k3 λh2 j1 j2 j3 j4=>h h2 a0 ⟨j1,j2,j3,λb o e nf=>by
   let⟨sl,e2⟩:=k4 b o e nf
   exact⟨sl,j4 b _ e2 nf⟩⟩
def O7(b7:A.frames=eZ (env::outer))(hf:env.frame=eZ L)(hl:s.heap.FunFrames B<|env::outer)(hx:N9 s.heap a cls T)
  (h:∀h' a0,Ϲ (Y5 s.heap (env::outer) a T) (env::outer) a cls a0 s.heap h'->Q () {s with heap:=h'}):wpAny M A (leaving env<|.ref a) Q E s:=À<|WL b7 hf hl hx h
end
variable {l:List Env} {H':Hp} {s:Ä} {s':Ä} {cls:Â} {a0:Â} {h':Ć} {B:Ć} {T:Option Ë}
def Fl.noted{fl:Â}(f:Fl P w l H s H' a cls s')(hT:∀t,T=eZ t->s.heap.get? t=fb/\H' t=fb)
  (hl:s'.heap.FunFrames B l) (b7:∀b∈frs l,H' b=fb) (z:Heap.NotedW (Y5 s'.heap l a T) l a cls a0 fl s'.heap h'):Fl P w l H s H' a cls {s' with heap:=h'}:=by
 let⟨k1,k2,k3,k4⟩:=z;have inb:∀b o,s'.heap.get? b=eZ o->b≠a->(∀t,T=eZ t->b≠t)->b∉frs l->h'.get? b=eZ o:=λb o e na nt nf=>k1 b o (PySem.W.hideAll_get _ e (by
   intro m
   rcases Ç.mp m with m|m
   . exact na m
   . rcases å.mp m with m|m
     . cases T with
       |none=>cases m
       |some t=>exact nt t rfl ⇑m
     . exact nf m))
 have slot:∀b o,s'.heap.get? b=eZ o->b∈frs l->∃sl,h'.get? b=eZ {o with slots:=sl}:=λb o e hb=>by let⟨_,o2,e2,nf⟩:=hl.mem hb;rw[e]at e2;cases e2;exact k4 b o e nf
 have ϴ:∀b o,s.heap.get? b=eZ o->b≠a/\∀t,T=eZ t->b≠t:=λb o e=>⟨(λz=>by rw[z,f.na]at e;cases e),(λt ht z=>by rw[z,(hT t ht).1]at e;cases e)⟩
 refine⟨f.os,f.bare,⟨λb o e n nf _=>?_,λb o e n hb _=>?_,f.un.free,λb o e _=>?_,f.un.tups,f.un.frzs,f.un.tbls⟩,?_,f.na,f.ha,?_⟩
 .exact inb b o (f.un.keep b o e n nf<|by simp) (ϴ b o e).1 (ϴ b o e).2 nf
 .obtain⟨sl,e1⟩:=f.un.slot b o e n hb (by simp);let⟨sl',e2⟩:=slot b _ e1 hb;exact⟨sl',e2⟩
 .obtain⟨o1,e1⟩:=f.un.there b o e (by simp);by_cases hb:b∈frs l
  .obtain⟨sl,e2⟩:=slot b _ e1 hb;exact⟨_,e2⟩
  .exact⟨o1,inb b o1 e1 (ϴ b o e).1 (ϴ b o e).2 hb⟩
 .intro b u e;have good:∀c v,H' c=eZ v->∀ob,s'.heap.get? c=eZ ob->h'.get? c=eZ ob:=λc v ec ob eo =>
   inb c ob eo (λz=>by rw[z,f.ha]at ec;cases ec) (λt ht z=>by rw[z,(hT t ht).2]at ec;cases ec) λm=>by rw[b7 c m]at ec;cases ec
  refine(f.hok b u e).stay (λc v hc q=>?_) (λ_ q=>q) λ_ _ q=>q;rcases hc with z|z
  .rw[z]at q ⊢;exact good b u e v q
  .exact good c _ z v q
 .obtain⟨oe,vs,t',oT,ts,e1,⟨e2,e3⟩,e4,e5,e6,e7,e8,e9,e10⟩:=k3;refine⟨eZ t',⟨oe,vs,a0,e1,e2,e4,e3,e5,e7,oT,ts,fl,e8,e9,e10⟩,λt ht=>?_⟩;cases ht;have hid:∀o,s'.heap.get? t'=eZ o->T=eZ t':=λo e=>by
   have nin:¬ (t'∉(a::(T.toList++frs l))):=λm=>by have q:(Y5 s'.heap l a T).get? t'=eZ o:=PySem.W.hideAll_get _ e m;rw[e6]at q;cases q
   have m:=Classical.not_not.mp nin;rcases Ç.mp m with m|m
   .exact gM m e7
   .rcases å.mp m with m|m
    .cases T with
     |none=>cases m
     |some t=>rw[show t'=t by simpa using m]
    .obtain⟨_,o2,q,nf⟩:=k2.mem m;rw[e8]at q;cases q;exact gM e9<|nf ts
  constructor
  .cases q:s.heap.get? t' with
   |none=>rfl
   |some o =>let⟨o1,q1⟩:=f.un.there t' o q (by simp);have:=(hT t'<|hid o1 q1).1;rw[q]at this;cases this
  .cases q:H' t' with
   |none=>rfl
   |some u =>let⟨o1,q1⟩:=(f.hok t' u q).obj;have:=(hT t'<|hid o1 q1).2;rw[q]at this;cases this
def Fl.left(f:Fl P w l H s H' a cls s')(hT:∀t,T=eZ t->s.heap.get? t=fb/\H' t=fb)
  (hl:s'.heap.FunFrames B l) (b7:∀b∈frs l,H' b=fb) (z:Ϲ (Y5 s'.heap l a T) l a cls a0 s'.heap h'):Fl P w l H s H' a cls {s' with heap:=h'}:=f.noted (fl:=.none) hT hl b7 z
section
variable {P:ä}{w:ö}{K:Frag}{mg:Str->Option Â}{base:Ć}
variable {X:Cx} {H:Hp} {s:Ä}
def Inv.raised{Á:List (Ë×Obj)}{σ:St}{H':Hp}{s':Ä}{a:Ë}{cls:Â}(I:Inv X Á σ H s)(f:Fl X.prog X.w X.stack H s H' a cls s'):Inv X Á σ H' s' :=
 I.call' (ch:=[]) f.os f.un f.hok f.bare (λb z=>gM z<|by simp)
def XM(ok:X.Ok)(h:X.stack=X.env::X.outer):X.env.frame=eZ X.env.locals:=by
 rcases ok.stk with e|e
 .rw[h]at e;exact gM (congrArg List.length e) (by simp)
 .exact e.2
variable {N:List Str} {qual:Str} {f:Ë}
def Pe{scope:ξ}{cd:Â}{A:ĉ}{outer:List Env}{E:XK}:XW (M9 (CX1 P w) P w K mg base N qual scope f cd A outer s H E) E:=by
 intro Á σ H2 s2 H' a cls s' I f q;have J:=I.raised f;let⟨T,hx,hT⟩:=f.ex;show wpAny _ _ (leaving _ _) _ _ _;refine O7 (outer:=outer) J.ok.frames (XM J.ok rfl) J.stack hx λh' a0 z=>?_;have f2:=f.left hT J.stack J.stkFree z;have J2:=I.raised f2;have Ϟ:∀b,s2.heap.get? b=fb->s.heap.get? b=fb:=λb e=>by
  cases z:s.heap.get? b with
  |none=>rfl
  |some o =>let⟨o',e'⟩:=I.base.there b o z (by intro m;cases m);rw[e]at e';cases e'
 let⟨T2,cD,hT2⟩:=f2.ex;exact⟨a,cls,H',rfl,⟨J2.os,J2.bare,J2.base,J2.hok,Ϟ a f2.na,f2.ha,T2,cD,λt ht=>⟨Ϟ t (hT2 t ht).1,(hT2 t ht).2⟩⟩,q⟩
def Fun.ok1{x:Str}{st:Į}{fd:Ň}{ps:List Str}{k:Nat}{sp:Sp}(F:Fun K x qual st f fd)(S:FnScope N ps<|Zv st)(len:∀vs H Q E,sp vs H Q E->vs.length=ps.length)
  (hbody:∀(ϯ:Â) (A:ĉ) (outer:List Env) (s:Ä) (H:Hp) (vs:List V) (Q:VK) (E:XK),fN k (A.deeper<|aJ qual (Zv st) s.heap.objs.size f ϯ)->sp vs H Q E->
    XW (M9 (CX1 P w) P w K mg base N qual (Zv st) f ϯ A outer s H E) E->
    ∃t,PSs (M9 (CX1 P w) P w K mg base N qual (Zv st) f ϯ A outer s H E) (ZO st) t/\t { nx:=λ_ H'=>Q .non H',rt:=Q } (start N vs) H):fO P w K mg base (CX1 P w) (k+1) f fd ps sp:=by
 let⟨oc,od,kV,doc,pm,an,ϯ,ct,osl,rfl,lk,bB⟩:=F.ex;exact Q8 lk bB S len λA outer s H vs Q E hr hsp=>hbody ϯ A outer s H vs Q E hr hsp Pe
abbrev SE(P:ä)(w:ö)(K:Frag)(mg:Str->Option Â)(base:Ć)(k:Nat)(x:Str)(ps:List Str)(sp:Sp):Prop :=
 ∃f fd,fO P w K mg base (CX1 P w) k f fd ps sp/\mg x=eZ (.ref f)/\PySem.W.keepIn K (.ref f)=fc/\Binds K fd ps []
end
section
variable {X:Cx}{x:Str}{p ç np Ő:Pos}{e:Expr}{es:List Expr}{t:TA}{E:XK}{C:Ë}{bm:List Â}
abbrev PM(C:Ë)(t:TA)(E:XK):TS:=λ_ σ H=>t σ H λvs H1=>vs.length<=Ö/\E (.ref C) fb H1
def DU(hw:XW X E)(hc:X.calm=fc)(O:OwnCls x C [.type "ValueError",.type "Exception",.type "BaseException",.type "object"] "ValueError.__new__" X.mg X.base)(hg:Gl X x)(ha:PA X (e::es) t)(Ϯ:(x==("__debug__" : Str))=fe:=by decide)
  (he:Ï (e::es) X.env=(fe,eval e X.env)::Ï es X.env:=by rfl) (hpl:(Ď Ő<|Ï es X.env).any (·.1)=fe:=by rfl) :
  PS X (.Raise (eZ<|.Call (.Name x np) (e::es) [] Ő) fb ç) (PM C t E):=by
 intro Á s σ H D I h;let⟨tl,N,nm,q,bs,hdct,sn,sub,ab,col,dd,k0,k1,k2,k3,k5,mN,hC,hN,hni,T⟩:=O.obj;refine wpAny_Raise_call_subU (C:=C) (nm:=nm) (q:=q) (N:=N) (bs:=bs) (bm:=tl) (hdct:=hdct) (sn:=sn) (sub:=sub) (ab:=ab) (col:=col) (dd:=dd) (k0:=k0) (k1:=k1) (k2:=k2) (k3:=k3) (k5:=k5) (mN:=mN)
  PySem.F.excBase_ValueError rfl PySem.F.excBase_ValueError (T.hasType PySem.F.excBase_ValueError.hasBase) (I.ok.hd hc) (by rw[he];show(fe||(Ď Ő<|Ï es X.env).any (·.1))=fe;rw[hpl];rfl) hni (Yu I hg O.bound ⟨rfl,?_⟩ Ϯ)
 have hA:=ha Ő Á s σ H _ I h;rw[he]at hA ⊢;refine Calls.evalArgs_plain (thn hA λus s2 ⟨vs,H2,I2,r2,q2⟩=>⟨rfl,by rw[<-r2.length];exact q2.1,I2.bk _ _ hC,hN.keeps I2.bk,T.keeps I2.bk,λh' a hm=>?_⟩);let⟨tt,ht,_,_⟩:=hm.there;refine hw Á σ H2 s2 H2 a (.ref C) {s2 with heap:=h'} I2 ⟨rfl,I2.bare,Un.kept hm.keeps,I2.hok.kept hm.keeps,hm.new,I2.hok.none_of hm.new,fb,?_,λ_ z=>by cases z⟩ q2.2;exact⟨_,_,.ref tt,ht,rfl,rfl,rfl,rfl⟩
end
abbrev XP(X:Cx)(Á:List<|Ë×Obj)(σ:St)(E:XK)(v:Â)(s':Ä):Prop :=
 ∃a cls H1 H' s1,v=.ref a/\Inv X Á σ H1 s1/\Fl X.prog X.w X.stack H1 s1 H' a cls s'/\E cls fb H'
abbrev PCx(X:Cx)(e:Expr)(t:St->Hp->VK->XK->Prop):Prop :=
 ∀(Á:List<|Ë×Obj) (s:Ä) (σ:St) (H:Hp) (Q:VK) (E:XK),Inv X Á σ H s->t σ H Q E->wpAny (Õ X.prog X.w) X.A (eval e X.env) (EP X Á σ Q) (XP X Á σ E) s
abbrev PB(X:Cx)(body:List Į)(t:Ends->XK->St->Hp->Prop):Prop :=
 ∀(Á:List<|Ë×Obj) (s:Ä) (σ:St) (H:Hp) (D:Ends) (E:XK),Inv X Á σ H s->t D E σ H->wpAny (Õ X.prog X.w) X.A (execs body X.env) (SP X Á D) (XP X Á σ E) s
section
variable {X:Cx}{x:Str}{p ç:Pos}{e c:Expr}{es:List Expr}{t:TA}
abbrev tC1(sp:Sp)(t:TA):St->Hp->VK->XK->Prop:=λσ H Q E=>t σ H λvs H1=>sp vs H1 Q E
variable {ps:List Str} {sp:Sp}
def GF{k k':Nat}(D:SE X.prog X.w X.K X.mg X.base k x ps sp)(hr:fN k' X.A)(hk:k<=k')(hg:Gl X x)(ha:PA X.nox (e::es) t)(Ϯ:(x==("__debug__" : Str))=fe:=by decide)
  (he:Ï (e::es) X.env=(fe,eval e X.env)::Ï es X.env:=by rfl) (hpl:(Ď ç<|Ï es X.env).any (·.1)=fe:=by rfl):PCx X (.Call (.Name x p) (e::es) [] ç)<|tC1 sp t:=by
 let⟨f,fd,F,hm,hkp,hb⟩:=D;intro Á s σ H Q E I h;refine ğ<|Yu I hg hm ?_ Ϯ;refine PySem.W.callWith_K (h₀:=X.base) I.ok.mod.kin hkp (ċ (ha ç Á s σ H _ (I.wish _) h) (λus s1 ⟨vs,H1,I1,r,q⟩=>⟨I1.unwish.kIn,?_⟩) λ_ _ z=>ă z) he hpl;have I2:=I1.unwish;have hl:(us++[]).length=ps.length:=by rw[ò,<-r.length];exact F.len _ _ _ _ q
 have hbd:=hb s1 us I2.kIn hl;rw[ò]at hbd;refine aI<|ş (F.run X.A X.stack s1 H1 ⟨us,[]⟩ us vs Q E (hr.mono hk) I2.env0 hbd r q) λr s' hq=>?_;cases r with
 |error e =>let⟨a,cls,H',z,f,q'⟩:=hq;exact⟨a,cls,H1,H',s1,z,I2,f,q'⟩
 |ok fl =>
  cases fl with
  |ret u=>exact I2.after hq
  |next=>exact ă hq
  |brk=>exact ă hq
  |cont=>exact ă hq
abbrev tCm(C:Ë)(m:Str)(sp:Sp)(ta:TE)(t:TA):St->Hp->VK->XK->Prop:=λσ H Q E=>ta σ H λx H1=>∃a dx fs,x=.ref a/\H1 a=eZ (.ins C dx fs)/\fs.lookup m=fb/\t σ H1 λvs H2=>sp (x::vs) H2 Q E
def CQ{k:Nat}{C f:Ë}{m:Str}{Ł:Pos}{o:Expr}{ta:TE}{fd:Ň}{pl:Sem Bool}(he:PE X.nox o ta)(c:Cls X.K C)(hm:Meth X.K C m f)(F:fO X.prog X.w X.K X.mg X.base (CX1 X.prog X.w) k f fd ps sp)(hr:fN k X.A)(hb:Binds X.K fd ps [])(ha:PA X.nox (e::es) t)
  (ō:Ï (e::es) X.env=(fe,eval e X.env)::Ï es X.env) (hpl:(Ď ç<|Ï es X.env).any (·.1)=fe)
  (ht:eval (.Call (.Attribute o m Ł) (e::es) [] ç) X.env=(do
    let ov<-eval o X.env
    ψ Ł.atName
    let (f,first)<-Ŋ [ov] (ρ ov m pl)
    af ç f first (Ď ç<|Ï (e::es) X.env) (Ŭ ç<|ĺ [] X.env))):PCx X (.Call (.Attribute o m Ł) (e::es) [] ç)<|tCm C m sp ta t:=by
 intro Á s σ H Q E I h;refine PySem.W.methodCall_KW (pl:=pl) (ċ (he Á s σ H _ (I.wish _) h) (λu s1 ⟨x,H1,I1,rx,a,dx,fs,ex,ea,l,q⟩=>?_) λ_ _ z=>ă z) ht;subst ex;obtain rfl:u=Value.ref a:=rx;refine XX I1.unwish ea c hm l ?_;refine PySem.W.callWith_K (first:=[.ref a]) (h₀:=X.base) I.ok.mod.kin hm.kp (ċ (ha ç Á s1 σ H1 _ I1 q) (λus s2 ⟨vs,H2,I2,r,q2⟩=>⟨I2.unwish.kIn,?_⟩) λ_ _ z=>ă z) ō hpl;have I3:=I2.unwish;have rr:gw (.ref a::vs)<|.ref a::us:=.cons rfl r;have hl:((Value.ref a::us)++[]).length=ps.length:=by rw[ò,<-rr.length];exact F.len _ _ _ _ q2
 have hbd:=hb s2 (.ref a::us) I3.kIn hl;rw[ò]at hbd;refine aI<|ş (F.run X.A X.stack s2 H2 ⟨.ref a::us,[]⟩ (.ref a::us) (.ref a::vs) Q E hr I3.env0 hbd rr q2) λr s' hq=>?_;cases r with
 |error e =>let⟨a,cls,H',z,f,q'⟩:=hq;exact⟨a,cls,H2,H',s2,z,I3,f,q'⟩
 |ok fl =>
  cases fl with
  |ret u=>exact I3.after hq
  |next=>exact ă hq
  |brk=>exact ă hq
  |cont=>exact ă hq
variable {tc:St->Hp->VK->XK->Prop}
def U6(hc:PCx X c tc)(hs:Ţ c fb ç.line X.env=pure fe:=by rfl):PB X [.Expr c ç] λD E σ H=>tc σ H (λ_ H'=>D.nx σ H') E:=by intro Á s σ H D E I h;refine bG<|wpAny_Expr_any (thn (hc Á s σ H _ E I h) λv s1 ⟨x,H1,I1,r1,q1⟩=>?_) I.quiet hs;exact ź ⟨σ,H1,I1,q1⟩
def C7{i:Nat}{aD:Pos}(hN:X.N.Nodup)(hi:X.N[i]?=eZ x)(hx:Loc X.env.scope x)(hc:PCx X c tc)(hs:Ţ c (eZ<|.Name x aD) ç.line X.env=pure fe:=by rfl)
  (hf:X.fn x=fc\/X.env.scope.names.lookup x=eZ .local:=by first|exact .inl rfl|exact .inr rfl|assumption):PB X [.Assign [.Name x aD] c ç] λD E σ H=>tc σ H (λv H'=>D.nx (σ.set i<|eZ v) H') E:=by
 intro Á s σ H D E I h;refine bG<|wpAny_Assign_Name (thn (hc Á s σ H _ E I h) λv s1 ⟨y,H1,I1,r1,q1⟩=>?_) hs;exact Kh I1 hN hi hx r1 (λs2 I2=>ź ⟨_,H1,I2,q1⟩) hf
end
abbrev xcO(a:Ë)(cls:Â):HO:=.ext λh=>∃o vs,h.get? a=eZ o/\o.cls=cls/\o.data=.fields vs
noncomputable abbrev Cx.caught(X:Cx)(a:Ë):Cx:={X with A:=X.A.mark<|eZ<|.ref a,calm:=fe,xe:=λ_ _=>False}
section
variable {X:Cx}{Á:List (Ë×Obj)}{σ:St}{H H':Hp}{s s':Ä}{a:Ë}{cls:Â}
def Inv.caught(I:Inv X Á σ H s)(a:Ë):Inv (X.caught a) Á σ H s :=
 ⟨⟨I.ok.mod,I.ok.kind,I.ok.glob,I.ok.blt,I.ok.above,I.ok.inj,I.ok.has,I.ok.cab,λz=>Bool.noConfusion z,I.ok.frames,I.ok.stk,I.ok.exf,I.ok.bs,I.ok.bsz,I.ok.noex,I.ok.exfs,I.ok.funs,I.ok.frf⟩,I.os,I.bare,I.base,I.loc,I.cell,I.free,I.freeC,I.pin,I.hok,I.len⟩
def Inv.uncaught(I:Inv (X.caught a) Á σ H s)(ok:X.Ok):Inv X Á σ H s:=⟨ok,I.os,I.bare,I.base,I.loc,I.cell,I.free,I.freeC,I.pin,I.hok,I.len⟩
variable {l:List Env}
def Fl.hold{P:ä}{w:ö}(f:Fl P w l H s H' a cls s')(h0:HOk P w H s.heap):s'.os=s.os/\Un (frs l) [] H (upd H' a<|xcO a cls) s.heap s'.heap/\HOk P w (upd H' a<|xcO a cls) s'.heap:=by
 have na:∀b o,s.heap.get? b=eZ o->b≠a:=λb o e z=>by rw[z,f.na]at e;cases e
 have nH:∀b o,H b=eZ o->b≠a:=λb o e z=>by rw[z,h0.none_of f.na]at e;cases e
 have nH':∀b o,H' b=eZ o->b≠a:=λb o e z=>by rw[z,f.ha]at e;cases e
 refine⟨f.os,⟨f.un.keep,f.un.slot,λb o e n hx=>?_,f.un.there,λb xs e=>?_,λb o u e=>?_,λb ps e=>?_⟩,λb u e=>?_⟩
 .rw[ff<|na b o e];exact f.un.free b o e n hx
 .rw[ff<|nH b _ e];exact f.un.tups b xs e
 .rw[ff<|nH b _ e];exact f.un.frzs b o u e
 .rw[ff<|nH b _ e];exact f.un.tbls b ps e
 .by_cases hb:b=a
  .subst hb;rw[fh]at e;cases e;let⟨T,⟨oe,vs,a0,he,hc,hd,_⟩,_⟩:=f.ex;exact⟨⟨oe,vs,he,hc,hd⟩,⟨oe,he⟩,λh1 h2 ⟨o,vs,e1,e2,e3⟩ k=>⟨o,vs,k o e1,e2,e3⟩⟩
  .rw[ff hb]at e;exact(f.hok b u e).stay (λ_ _ _ q=>q) (λc q=>by rw[ff<|nH' c _ q];exact q) λc xs q=>by rw[ff<|nH' c _ q];exact q
variable {B:Ć}
def An{a0:Â}{h h':Ć}(z:Ϲ B l a cls a0 h h'):∃t,N9 h' a cls (eZ t):=by let⟨_,_,⟨oe,vs,t,oT,ts,e1,⟨e2,e3⟩,e4,e5,e6,e7,e8,e9,e10⟩,_⟩:=z;exact⟨t,oe,vs,a0,e1,e2,e4,e3,e5,e7,oT,ts,.none,e8,e9,e10⟩
def WO{M:dO}{A:ĉ}{E:Â->Ä->Prop}{Q:Unit->Ä->Prop}{t:Ë}(hl:s.heap.FunFrames B l)(hx:N9 s.heap a cls<|eZ t)
  (h:∀h' a0,Ϲ (Y5 s.heap l a<|eZ t) l a cls a0 s.heap h'->Q () {s with heap:=h'}):wpAny M A (setFlight (.ref a) fb) Q E s:=by
 let⟨oe,vs,a0,he,hc,hd,h0,h1,ŭ,oT,ts,fl,e1,e2,e3⟩:=hx;exact wpAny_setFlight_noneW (Yt _ _ _ _) (X1 a (eZ t) hl) ⟨oe,vs,t,oT,ts,he,⟨hc,h0⟩,hd,h1,MF _ _ _ _,ŭ,e1,e2,e3⟩ λh2 j1 j2 j3 j4 =>
  h h2 a0 ⟨j1,j2,j3,λb o e nf=>⟨o.slots,j4 b o e nf⟩⟩
end
section
variable {X:Cx}{Á:List (Ë×Obj)}{σ:St}{H H':Hp}{s s':Ä}{a:Ë}{cls:Â}
def Aq{h:Ć}{T:Option Ë}{t:Ë}(x:N9 h a cls T)(y:N9 h a cls<|eZ t):T=eZ t:=by
 let⟨oe,vs,a0,he,hc,hd,h0,ht⟩:=x;let⟨oe',vs',a0',he',hc',hd',h0',h1',_⟩:=y;rw[he]at he';cases he';rw[hd]at hd';cases hd';cases T with
 |none=>rw[show vs[1]?=eZ Value.none from ht]at h1';cases h1'
 |some u =>rw[ht.1]at h1';cases h1';rfl
def XA{M:dO}{A:ĉ}{E:Â->Ä->Prop}{Q:Unit->Ä->Prop}{i:Nat}{n:Str}{ç:Pos}(I:Inv X Á σ H s)(hN:X.N.Nodup)(hi:X.N[i]?=eZ n)(hn:X.env.scope.names.lookup n=eZ .local)
  (h:∀s',Inv X Á (σ.set i fb) H s'->Q () s'):wpAny M A (do bindName X.env n .none;unbindBehindTheSuite X.env n ç) Q E s:=by
 let⟨m,hm,hl⟩:=id I.loc;have cT:(X.env.scope.kind == .class||(X.env.scope.kind == .module&&X.env.locals != X.env.globals))=fe:=by rw[I.ok.kind];rfl
 refine wpAny_nameGoes_keeps hn hm cT λh' v hn' sb=>h _ ?_;have neL:∀b o,X.s₀.heap.get? b=eZ o->b≠X.env.locals:=λb o e=>æ<|á (Ô e) I.ok.above;have same:∀b,b≠X.env.locals->h'.get? b=s.heap.get? b:=λb hb=>sb.2 b hb;refine⟨I.ok,I.os,I.bare,⟨λb o e n hb hx=>?_,λb o e n hb hx=>?_,I.base.free,λb o e hx=>?_,I.base.tups,I.base.frzs,I.base.tbls⟩,⟨_,hn',λj x u e1 e2 e3=>?_⟩,λx c e=>?_,I.free,I.freeC,λp hp=>?_,λb u e=>?_,by rw[ο];exact I.len⟩
 .exact(same b<|neL b o e).trans<|I.base.keep b o e n hb hx
 .obtain⟨sl,e1⟩:=I.base.slot b o e n hb hx;exact⟨sl,(same b<|neL b o e).trans e1⟩
 .obtain⟨o',e1⟩:=I.base.there b o e hx;exact⟨o',(same b<|neL b o e).trans e1⟩
 .have hji:j≠i:=by
   intro z;subst z;rw[ώ ]at e2;cases q:σ[j]? with
   |none=>rw[q]at e2;cases e2
   |some _=>rw[q]at e2;cases e2
  rw[ĵ<|Ne.symm hji]at e2;let⟨w,r,l⟩:=hl j x u e1 e2 e3;refine⟨w,r,?_⟩;have xn:x≠n:=λz=>hji (JG hN (by rw[<-z];exact e1) hi);rcases l with⟨l1,l2⟩|⟨k,c,e,o,ho,hd⟩
  .exact .inl ⟨l1,by show(if x=n then v else m x)=eZ w;rw[gH xn];exact l2⟩
  .exact .inr ⟨k,c,e,o,(same c<|I.cne x c e).trans ho,hd⟩
 .obtain⟨v,o,ho,hd⟩:=I.cell x c e;exact⟨v,o,(same c<|I.cne x c e).trans ho,hd⟩
 .obtain⟨e,n,ne,nf,d⟩:=I.pin p hp;exact⟨(same p.1 ne).trans e,n,ne,nf,d⟩
 .have nl:∀c v,H c=eZ v->c≠X.env.locals:=λc v q z=>by rw[z,I.free]at q;cases q
  refine(I.hok b u e).stay (λc v hc q=>?_) (λ_ q=>q) λ_ _ q=>q;rcases hc with z|z
  .rw[z]at q ⊢;exact(same b<|nl b u e).trans q
  .exact(same c<|nl c _ z).trans q
end
abbrev DB(i:Nat)(D:Ends):Ends:={nx:=λσ H=>D.nx (σ.set i fb) H,rt:=D.rt,bk:=λσ H=>D.bk (σ.set i fb) H,ct:=λσ H=>D.ct (σ.set i fb) H}
abbrev S6(K:Frag)(C:Â)(i:Nat)(tb:Ends->XK->St->Hp->Prop)(ts:TS):TS:=λD σ H =>
 tb D (λcls _ H'=>PySem.W.exmOne K cls C=eZ fc/\∀a,H' a=fb->ts (DB i D) (σ.set i<|eZ<|.ref a) (upd H' a<|xcO a cls)) σ H
section
variable {X:Cx}{body Ϧ:List Į}{b₀:Į}{T n:Str}{tp dJ ç:Pos}{C:Â}{i:Nat}{tb:Ends->XK->St->Hp->Prop}{ts:TS}
def Lo(ō:X.stack=X.env::X.outer)(hN:X.N.Nodup)(hi:X.N[i]?=eZ n)(hn:X.env.scope.names.lookup n=eZ .local)(hb:PB X body tb)(hg:Gl X T)(hm:X.mg T=eZ C)(hs:∀a,PSs (X.caught a) (b₀::Ϧ) ts)(Ϯ:(T==("__debug__" : Str))=fe:=by decide) :
  PS X (.Try body [.ExceptHandler (eZ<|.Name T tp) (eZ n) (b₀::Ϧ) dJ] [] [] ç) (S6 X.K C i tb ts):=by
 intro Á s σ H D I h;refine wpAny_Try_except<|ċ (hb Á s σ H D _ I h) (λf s1 q=>?_) λv s' hx=>?_
 .cases f with
  |next=>exact ź q
  |brk=>exact q
  |cont=>exact q
  |ret u=>exact q
 let⟨a,cls,H1,H',s1,rfl,I1,f,cT,hk⟩:=hx;have J:=I1.raised f;let⟨T0,hx,hT⟩:=f.ex;have cZ:=XM I.ok ō;have jst:=J.stack;have jfr:=J.stkFree;have fr:=I.ok.frames;rw[ō]at jst jfr fr;have Ϟ:∀{s2:Ä},Fl X.prog X.w (X.env::X.outer) H1 s1 H' a cls s2->Fl X.prog X.w X.stack H1 s1 H' a cls s2:=λz=>by rw[ō];exact z
 have f':Fl X.prog X.w (X.env::X.outer) H1 s1 H' a cls s':=by rw[<-ō];exact f
 refine WL fr cZ jst hx λh' a0 z=>?_;have f2:=f'.left hT jst jfr z;let⟨T2,cD,hT2⟩:=f2.ex;let⟨t,hx2'⟩:=An z;have et:=Aq cD hx2';subst et;have J2:=I1.raised<|Ϟ f2;have db:=J2.stack;rw[ō]at db;let⟨oe,vs,b0,he,hc,_⟩:=id cD;have LT:PySem.W.Looks (Õ X.prog X.w) h' (eN<|.ref a) cls:=by subst hc;exact(PySem.W.Looks.ld he).andThen .now
 refine wpAny_handleBy_cons (codeAny_handlers_test<|Yu (X:=X.caught a) (J2.caught a) hg hm ((PySem.W.exm_one J2.kIn LT cT).here ?_) Ϯ) (by intro q;cases q);refine codeAny_handlers_suite_as<|WO db cD λh3 a1 z3=>?_;have f3:=f2.left hT2 db jfr z3;let⟨os3,un3,hok3⟩:=(Ϟ f3).hold I1.hok;have J3:Inv X Á σ (upd H' a<|xcO a cls) {s' with heap:=h3}:=I1.call' (ch:=[]) os3 un3 hok3 f3.bare (λb z=>gM z<|by simp);refine Kh (X:=X.caught a) (J3.caught a) hN hi (.inl hn) (show RelV (.ref a) (.ref a) from rfl) (λs4 I4=>?_)<|.inr hn;refine ċ (hs a Á s4 _ _ (DB i D) I4<|hk a f3.ha) (λfl s5 q5=>?_) λ_ _ z=>ă z;cases fl with
 |next =>let⟨σ5,H5,I5,q⟩:=q5;exact XA (I5.uncaught I.ok) hN hi hn λs6 I6=>⟨_,H5,I6,q⟩
 |brk =>let⟨σ5,H5,I5,q⟩:=q5;exact XA (I5.uncaught I.ok) hN hi hn λs6 I6=>⟨_,H5,I6,q⟩
 |cont =>let⟨σ5,H5,I5,q⟩:=q5;exact XA (I5.uncaught I.ok) hN hi hn λs6 I6=>⟨_,H5,I6,q⟩
 |ret u =>let⟨v,σ5,H5,I5,r,q⟩:=q5;exact XA (I5.uncaught I.ok) hN hi hn λs6 I6=>⟨v,_,H5,I6,r,q⟩
end
end L2
namespace L2
open PySem PySem.Spec PySem.W PySem.Calls PyProof.Rows PySem.Builtin PySem.Builtin.ObjectAttr PySem.Builtin.Getset_descriptor
section
variable {prog:ä}{w:ö}{A:ĉ}{E:Â->Ä->Prop}{K:Γ}{h:Ć}{g:Array a9}{d:Drawn}{t:Nat}{os:OsState}{a C:Ë}{o:Obj}
structure XCls(K:Γ)(C:Ë):Prop where
 ga:ak K (.ref C) "__getattribute__" = eZ (eZ<|.builtin "BaseException.__getattribute__")
 gr:ak K (.ref C) "__getattr__" = eZ fb
 cl:ak K (.ref C) "__class__" = eZ (eZ<|.builtin "object.__class__")
 mo:mroIn K C (.type "object")=eZ fc
 mb:mroIn K C (.type "BaseException")=eZ fc
 ci:(clsIn K C).isSome=fc
variable {R:aH->Ä->Prop}
def Im(X:K.In h)(hx:h.get? a=eZ o)(hc:o.cls=.ref C)(Z:XCls K C)(hq:R (.ok<|.ret<|.ref C) ⟨h,g,d,t,os⟩) :
  codeAny (Õ prog w) A (.call (.builtin "getset_descriptor.__get__") ⟨[.builtin "object.__class__",.ref a,.ref C],[]⟩) R ⟨h,g,d,t,os⟩:=by
 have L0:Looks (Õ prog w) h (eN<|.ref a)<|.ref C:=hc▸(Looks.ld hx).andThen .now;have L1:=looks_mroIn (M:=Õ prog w) X Z.mo;refine al KF.slot_gs.plain KF.entry_gs<|KF.slot_gs.check _ _ _ _ _ _ _ _ KF.type_class (KF.args_gs _ _ _) ?_;unfold Builtin.«getset_descriptor.__get__» descrGet;rw[dga_obj];refine À<|Æ ?_;unfold descrGetter descrCheckInstance descrNameAndClass isInstance;simp only[KF.owner_class]
 repeat lk
 refine⟨dU _ (by decide +kernel),ĝ KF.entry_class ?_⟩;unfold Builtin.«object.__class__» shownTypeOf
 repeat lk
 exact hq
variable {tk:Tok}
def EE{Q:Fin->Ä->Prop}(X:K.In h)(hx:h.get? a=eZ o)(hc:o.cls=.ref C)(Z:XCls K C)(hq:Q (.done<|.ret<|.ref C) ⟨h,g,d,t,os⟩) :
  wpAny (Õ prog w) A (Builtin.«object.__getattribute__» ⟨[.ref a,.str "__class__" tk],[]⟩) Q E ⟨h,g,d,t,os⟩:=by
 have L0:Looks (Õ prog w) h (eN<|.ref a)<|.ref C:=hc▸(Looks.ld hx).andThen .now;have L1:=eQ (M:=Õ prog w) X Z.cl;have hT5:(⟨h,g,d,t,os⟩:Ä).TypeIs (.builtin "object.__class__") "getset_descriptor":=F.typeOf_object_class;have f5:=F.typeOf_object_class;have f6:=F.slot_gs_get.lookup;have f7:=F.slot_gs_set.lookup
 repeat (any_goals (first|assumption|(with_reducible refine Looks.at L0 ?_)|(with_reducible refine Looks.at L1 ?_)|(with_reducible refine bf hx ?_;rw[hc])|wp_step))
 refine Im X hx hc Z ?_
 repeat (any_goals (first|assumption|wp_step))
def EA{nameV:Â}{M:dO}{Q:Unit->Ä->Prop}(X:K.In h)(hx:h.get? a=eZ o)(hc:o.cls=.ref C)(Z:XCls K C)(hq:Q () ⟨h,g,d,t,os⟩) :
  wpAny M A (bL "BaseException.__getattribute__" ⟨[.ref a,nameV],[]⟩) Q E ⟨h,g,d,t,os⟩:=by
 have hk:builtinKind "BaseException.__getattribute__" = eZ .slot:=by decide +kernel
 have hsplit:splitId "BaseException.__getattribute__" = eZ ("BaseException","__getattribute__"):=by decide +kernel
 have L1:=looks_mroIn (M:=M) X Z.mb;have ha:=F.args_bexc_ga (.ref a) nameV;simp only[bL,hk,hsplit];refine À ?_;unfold isInstance
 repeat (first|(with_reducible refine bf hx ?_;rw[hc])|(with_reducible refine Looks.at L1 ?_)|wp_step)
 exact hq
def FC(X:K.In h)(hx:h.get? a=eZ o)(hc:o.cls=.ref C)(Z:XCls K C)(hq:R (.ok<|.ret<|.ref C) ⟨h,g,d,t,os⟩) :
  codeAny (Õ prog w) A (.call (.builtin "BaseException.__getattribute__") ⟨[.ref a,.str "__class__" tk],[]⟩) R ⟨h,g,d,t,os⟩ :=
 al PySem.F.excAttr_ValueError.ga.plain F.entry_bexc_ga (EA X hx hc Z<|EE X hx hc Z hq)
end
section
variable {prog:ä}{w:ö}{A:ĉ}{E:Â->Ä->Prop}{K:Γ}{h:Ć}{g:Array a9}{d:Drawn}{t:Nat}{os:OsState}{a C:Ë}{o:Obj}
def R5{tk:Tok}{fill:Bool}{Q:Â->Ä->Prop}(X:K.In h)(hx:h.get? a=eZ o)(hc:o.cls=.ref C)(Z:XCls K C)(hq:Q (.ref C) ⟨h,g,d,t,os⟩) :
  wpAny (Õ prog w) A (getAttrBy (.ref a) (.str "__class__" tk) fill) Q E ⟨h,g,d,t,os⟩:=by
 have f3:=PySem.F.excAttr_ValueError.ga.bind<|.ref a;have L1:=eQ (M:=Õ prog w) X Z.ga;have L2:=eQ (M:=Õ prog w) X Z.gr;have cD:(ϱ "BaseException.__getattribute__" == ϱ "object.__getattribute__")=fe:=by decide +kernel
 have hx1:(onTheHeap (Value.ref C)&&ϱ "BaseException.__getattribute__" == ϱ "object.__getattribute__")=fe:=by rw[cD];rfl
 repeat (any_goals (first|assumption|(with_reducible refine bf hx ?_;rw[hc])|(with_reducible refine Looks.at L1 ?_)|(with_reducible refine Looks.at L2 ?_)|wp_step))
 refine FC X hx hc Z ?_
 repeat (any_goals (first|assumption|wp_step))
def FS{Q:Option Â->Ä->Prop}(X:K.In h)(hx:h.get? a=eZ o)(hc:o.cls=.ref C)(Z:XCls K C)(hq:Q (eZ<|.ref C) ⟨h,g,d,t+1,os⟩) :
  wpAny (Õ prog w) A (getAttr? (.ref a) "__class__") Q E ⟨h,g,d,t,os⟩:=by
 unfold getAttr? getAttrBy?
 repeat (any_goals (first|assumption|with_reducible apply R5 X hx hc Z|wp_step))
def Jj(Z:XCls K C):KitX K (.ref a) (.ref C) (λh=>∃o vs,h.get? a=eZ o/\o.cls=.ref C/\o.data=.fields vs) where
 ty:=λ_ _ _ ⟨o,vs,e,c,_⟩=>c▸(Looks.ld e).andThen .now
 it:=λ_ _ X _=>by
  have hcD:=Z.ci;unfold clsIn at hcD;split at hcD
  .rename_i c' d' cd' sl' ho;intro A' Q' E' s' k q;unfold isType loadHead;exact À<|wpAny_loadPart (k _ _<|X _ _ ho)<|Æ q
  .cases hcD
 ne:=λh tp dd ô n sl X htp=>by
  have hcD:=Z.ci;refine az.mpr λq=>?_;have e:C=tp:=Value.ref.inj<|beq_iff_eq.mp q;subst e;unfold clsIn at hcD;split at hcD
  .rename_i c' d' cd' sl' ho;have z:=(X _ _ ho).symm.trans htp;cases z
  .cases hcD
 ca:=λ{_ _ _ _ _ s} X ⟨o,vs,e,c,_⟩ k=>by let⟨h,g,d,t,os⟩:=s;exact FS X e c Z k
end
end L2
namespace L2
open PySem PySem.Spec PyProof.Rows
section
variable {X:Cx}
def Ow{Á:List (Ë×Obj)}{σ:St}{H:Hp}{s:Ä}{a:Ë}{cls:Â}(I:Inv X Á σ H s)(e:H a=eZ (xcO a cls)):∃o vs,s.heap.get? a=eZ o/\o.cls=cls/\o.data=.fields vs :=
 (show fu X.prog X.w H s.heap a (xcO a cls) from I.hok a _ e).1
def AL:fq X (.builtin "isinstance") λxs H Q=>∃a C D b,xs=[.ref a,.ref D]/\H a=eZ (xcO a<|.ref C)/\XCls X.K C/\PySem.W.kitOne X.K (.ref C) (.ref D)=eZ b/\Q (.bl b) H:=by intro Á s σ H xs us Q I r h;let⟨a,C,D,b,rfl,ha,Z,e,q⟩:=h;let⟨u,v,rfl,ru,rv⟩:=Ma r;cases ru;cases rv;exact PySem.W.kia_one (Jj Z) I.kIn (Ow I ha) e (λz=>nomatch z) λtk=>⟨.bl b,H,I.tok tk,rfl,q⟩
def OF:fq X (.builtin "isinstance") λxs H Q=>∃a C T b,xs=[.ref a,.ty T]/\H a=eZ (xcO a<|.ref C)/\XCls X.K C/\PySem.W.kitOne X.K (.ref C) (.type T)=eZ b/\Q (.bl b) H:=by intro Á s σ H xs us Q I r h;let⟨a,C,T,b,rfl,ha,Z,e,q⟩:=h;let⟨u,v,rfl,ru,rv⟩:=Ma r;cases ru;cases rv;exact PySem.W.kia_one (Jj Z) I.kIn (Ow I ha) e (λz=>nomatch z) λtk=>⟨.bl b,H,I.tok tk,rfl,q⟩
def Uy:∀{Cs:List Ë}{us:List Â},gw (Cs.map V.ref) us->us=Cs.map Value.ref
 |[],_,.nil=>rfl
 |C::Cs,_,.cons r rs=>by rw[É,<-Uy rs];exact congrArg (· :: _) r
def OE:fq X (.builtin "isinstance") λxs H Q=>∃a C p,∃Cs:List Ë,∃b,xs=[.ref a,.ref p]/\H a=eZ (xcO a<|.ref C)/\XCls X.K C/\H p=eZ (.tup<|Cs.map V.ref)/\PySem.W.kitAny X.K (.ref C) (Cs.map Value.ref)=eZ b/\Q (.bl b) H:=by intro Á s σ H xs us Q I r h;let⟨a,C,p,Cs,b,rfl,ha,Z,hp,e,q⟩:=h;let⟨u,v,rfl,ru,rv⟩:=Ma r;cases ru;cases rv;let⟨ô,r',⟨⟨oc,od,dt,sl⟩,e1,c1,n,d1⟩,hz⟩:=I.tuple<|gq.of hp;simp only at c1 d1;subst c1 d1;have:=Uy r';subst this;exact PySem.W.kia_tup (Jj Z) I.kIn (Ow I ha) e1 e (λz=>nomatch z) λtk=>⟨.bl b,H,I.tok tk,rfl,q⟩
end
abbrev QF(K:Frag)(C:Â)(tb:Ends->XK->St->Hp->Prop)(ts:TS):TS:=λD σ H =>
 tb D (λcls _ H'=>PySem.W.exmOne K cls C=eZ fc/\∀a,H' a=fb->ts D σ (upd H' a<|xcO a cls)) σ H
section
variable {X:Cx}{body Ϧ:List Į}{b₀:Į}{T:Str}{tp dJ ç:Pos}{C:Â}{tb:Ends->XK->St->Hp->Prop}{ts:TS}
def Fc(ō:X.stack=X.env::X.outer)(hb:PB X body tb)(hg:Gl X T)(hm:X.mg T=eZ C)(hs:∀a,PSs (X.caught a) (b₀::Ϧ) ts)(Ϯ:(T==("__debug__" : Str))=fe:=by decide) :
  PS X (.Try body [.ExceptHandler (eZ<|.Name T tp) fb (b₀::Ϧ) dJ] [] [] ç) (QF X.K C tb ts):=by
 intro Á s σ H D I h;refine wpAny_Try_except<|ċ (hb Á s σ H D _ I h) (λf s1 q=>?_) λv s' hx=>?_
 .cases f with
  |next=>exact ź q
  |brk=>exact q
  |cont=>exact q
  |ret u=>exact q
 let⟨a,cls,H1,H',s1,rfl,I1,f,cT,hk⟩:=hx;have J:=I1.raised f;let⟨T0,hx,hT⟩:=f.ex;have cZ:=XM I.ok ō;have jst:=J.stack;have jfr:=J.stkFree;have fr:=I.ok.frames;rw[ō]at jst jfr fr;have Ϟ:∀{s2:Ä},Fl X.prog X.w (X.env::X.outer) H1 s1 H' a cls s2->Fl X.prog X.w X.stack H1 s1 H' a cls s2:=λz=>by rw[ō];exact z
 have f':Fl X.prog X.w (X.env::X.outer) H1 s1 H' a cls s':=by rw[<-ō];exact f
 refine WL fr cZ jst hx λh' a0 z=>?_;have f2:=f'.left hT jst jfr z;let⟨T2,cD,hT2⟩:=f2.ex;let⟨t,hx2'⟩:=An z;have et:=Aq cD hx2';subst et;have J2:=I1.raised<|Ϟ f2;have db:=J2.stack;rw[ō]at db;let⟨oe,vs,b0,he,hc,_⟩:=id cD;have LT:PySem.W.Looks (Õ X.prog X.w) h' (eN<|.ref a) cls:=by subst hc;exact(PySem.W.Looks.ld he).andThen .now
 refine wpAny_handleBy_cons (codeAny_handlers_test<|Yu (X:=X.caught a) (J2.caught a) hg hm ((PySem.W.exm_one J2.kIn LT cT).here ?_) Ϯ) (by intro q;cases q);refine codeAny_handlers_suite<|WO db cD λh3 a1 z3=>?_;have f3:=f2.left hT2 db jfr z3;let⟨os3,un3,hok3⟩:=(Ϟ f3).hold I1.hok;have J3:Inv X Á σ (upd H' a<|xcO a cls) {s' with heap:=h3}:=I1.call' (ch:=[]) os3 un3 hok3 f3.bare (λb z=>gM z<|by simp);refine ċ (hs a Á _ _ _ D (J3.caught a)<|hk a f3.ha) (λfl s5 q5=>?_) λ_ _ z=>ă z;cases fl with
 |next =>let⟨σ5,H5,I5,q⟩:=q5;exact⟨_,H5,I5.uncaught I.ok,q⟩
 |brk =>let⟨σ5,H5,I5,q⟩:=q5;exact⟨_,H5,I5.uncaught I.ok,q⟩
 |cont =>let⟨σ5,H5,I5,q⟩:=q5;exact⟨_,H5,I5.uncaught I.ok,q⟩
 |ret u =>let⟨v,σ5,H5,I5,r,q⟩:=q5;exact⟨v,_,H5,I5.uncaught I.ok,r,q⟩
end
end L2
namespace L2
open PySem PySem.Spec PyProof.Rows
open PySem.Builtin PySem.Builtin.Str
abbrev AK(z:Str)(lo hi:Option Int):Str:=if(Ν lo hi 1 z.length).length=z.length then z else⟨((Ν lo hi 1 z.length).filterMap (z.cps[·]?)).toArray⟩
def Ee(z:Str)(lo hi:Option Int):(AK z lo hi).length<=z.length:=by
 unfold AK;split
 .exact Ñ _
 .show((Ν lo hi 1 z.length).filterMap (z.cps[·]?)).toArray.size<=_;rw[Ð];exact Ý (bV _ _)<|indices_len_le lo hi z.length
section
variable {X:Cx}
abbrev RW:V->Option Int->Option Int->Hp->VK->Prop:=λx lo hi H Q=>∃z,x=.str z/\z.length<=Ö/\Q (.str<|AK z lo hi) H
def Ag{v:Â}{lo:Option Int}(h:Ϩ v lo):∃l:Option<|Int×Tok,v=partValue l/\l.map (·.1)=lo:=by
 cases h with
 |none=>exact⟨fb,rfl,rfl⟩
 |int i t=>exact⟨eZ (i,t),rfl,rfl⟩
def sl_str:SlR X RW:=by
 intro Á s σ H x v vl vu lo hi sl Q I rx hs pl pu h;let⟨z,rfl,hz,q⟩:=h;let⟨t,rfl⟩:=rx;refine⟨"str",_,slot_str_getitem.lookup,typeIs_str s z t,?_⟩;let⟨l,rfl,el⟩:=Ag pl;let⟨u,rfl,eu⟩:=Ag pu;have hs':s.heap.IsSlice sl l u fb:=hs;refine wpAny_getItem_str_slice hs' rfl ?_;have e:sliceMade z t l u fb=if(Ν lo hi 1 z.length).length=z.length then .val (.str z t)else .str ⟨((Ν lo hi 1 z.length).filterMap (z.cps[·]?)).toArray⟩:=by unfold sliceMade slicePicked;rw[el,eu];simp
 rw[e];have cl:=Ee z lo hi;unfold AK at q cl;split
 .rename_i hh;rw[gG hh]at q;exact⟨.str z,H,I,⟨t,rfl⟩,q⟩
 .rename_i hh;rw[gH hh]at q cl;exact⟨Ý cl hz,.str _,H,I.tok _,⟨_,rfl⟩,q⟩
end
section
variable {X:Cx}
def UW(z:Str):∀(n:Nat) (a:Array Nat),((Ø n z.cps).foldl (· ++ ·) a).size=a.size+n*z.cps.size
 |0,a=>by simp
 |n+1,a=>by rw[đ,ů,UW z n,Array.size_append,Nat.succ_mul];lia
end
end L2
namespace L2
open PySem PySem.Spec PyProof.Rows
section
variable {X:Cx}(K:Frag) (h:X.K=K)
include h
end
end L2
namespace HT
open PySem PyProof.Rows
open PySem.SeqAt
open PySem.AutoSeq1 (wpAny_loadPart')
open PySem.MeetsSeq PySem.MeetsSeq2 PySem.MeetsSeq3
section
variable {prog:ä}{w:ö}{A:ĉ}{E:Â->Ä->Prop}{s:Ä}
def getItem_tuple_whole{t sl:Ë}{items:Array Â}{vl vu:Â}{lo hi:Option Int}{Q:Â->Ä->Prop}(ht:a8 s.heap t items)(hs:s.heap.IsSliceOf sl vl vu .none)(pl:Ϩ vl lo)(pu:Ϩ vu hi)
  (hw:sIx items.size 0 lo=0/\sIx items.size items.size hi=items.size)
  (h:Q (.ref t) s):wpAny (Õ prog w) A (ϧ (.ref t)<|.ref sl) Q E s:=by
 let⟨os,hos,hcs,hds⟩:=id hs;have hTs:s.TypeIs (.ref sl) "slice":=⟨os,hos,hcs⟩
 unfold ϧ
 try with_reducible refine Ě ?_
 first|refine À (Æ ?_)|skip
 refine À (wpAny_sequenceKey ht.typeIs (by decide) ?_);refine À (ļ (name:=gO "__getitem__") ht.typeIs PyProof.Rows.slot_tuple_getitem
   (ġ PyProof.Rows.slot_tuple_getitem ht.typeIs entry_tuple_getitem ?_<|args_tuple_getitem _ _))
 show wpAny _ _ (Builtin.Tuple.tupleItemsOf (.ref t) >>= _) _ _ s;refine À<|tupleItemsOf_ ht ?_;refine À<|ϩ hTs ?_;rw[gG<|by decide];refine À<|YI hs pl pu ?_;have hyes:(((sIx items.size 0 lo:Nat):Int)==0&&(1:Int)==1&&(sIx items.size items.size hi - sIx items.size 0 lo)==items.size)=fc:=by rw[hw.1,hw.2];simp
 show wpAny _ _ (if(((sIx items.size 0 lo:Nat):Int)==0&&(1:Int)==1&&(sIx items.size items.size hi - sIx items.size 0 lo)==items.size)=fc then _ else _) _ _ s;rw[gG hyes];refine À ?_;unfold Builtin.Tuple.tupleIsExact;refine À<|ϩ ht.typeIs<|Æ ?_;rw[gG<|by decide]
 first
  |exact À<|Æ<|Æ ⟨_,rfl,Æ h⟩
  |exact À<|Ϫ<|Æ ⟨_,rfl,Æ h⟩
  |exact Æ ⟨_,rfl,Æ h⟩
end
end HT
namespace L2
open PySem PySem.Spec PyProof.Rows
section
variable {X:Cx}
abbrev RF(K:Frag):V->Option Int->Option Int->Hp->VK->Prop:=λx lo hi H Q=>∃a xs,x=.ref a/\gq K H a xs/\(HT.sIx xs.length 0 lo=0/\HT.sIx xs.length xs.length hi=xs.length)/\Q (.ref a) H
def FE:SlR X<|RF X.K:=by
 intro Á s σ H x v vl vu lo hi sl Q I rx hs pl pu h;let⟨a,xs,rfl,hx,hw,q⟩:=h;cases rx;let⟨ô,r,ht,hz⟩:=I.tuple hx;have hlen:ô.toArray.size=xs.length:=by rw[Ð];exact r.length.symm
 refine⟨"tuple",_,PyProof.Rows.slot_tuple_getitem.lookup,ht.typeIs,?_⟩;exact HT.getItem_tuple_whole ht hs pl pu (by rw[hlen];exact hw) ⟨.ref a,H,I,rfl,q⟩
end
end L2
namespace L2
open PySem PySem.Spec PyProof.Rows
open PySem.Builtin PySem.Builtin.Str
section
variable {X:Cx}
abbrev Ix(z:Str)(n:Nat):Str:=⟨(Ø n z.cps).foldl (· ++ ·) #[]⟩
def KY(z:Array Nat):∀(n:Nat) (a:Array Nat),((Ø n z).foldl (· ++ ·) a).toList=a.toList++(Ø n z.toList).flatten
 |0,a=>by simp
 |n+1,a=>by rw[đ,ů,KY z n,đ,ŋ,Array.toList_append,ĸ]
abbrev Hy:R2:=λx y H Q=>∃z k,x=.str z/\y=.int k/\2<=k/\k<=1000000/\1<=z.length/\z.length*k.toNat<=1000000/\Q (.str<|Ix z k.toNat) H
def Gi:OpR X (Œ .Mult) Hy:=by
 intro Á s σ H x y v u Q I rx ry h;let⟨z,k,rfl,rfl,h2,h6,h1,hz,q⟩:=h;let⟨t,rfl⟩:=rx;let⟨t',rfl⟩:=ry;have big:(1000000:Nat)<=Ö:=by decide
 have nb:(k==1||z.length==0)=fe:=by have e1:(k==1)=fe:=beq_false_of_ne (by lia);have e2:(z.length==0)=fe:=beq_false_of_ne (by lia);rw[e1,e2];rfl
 have zl:z.length<=1000000:=by have:z.length*1<=z.length*k.toNat:=dW _ (by lia);lia
 have hr:(gN (k < -(2 ^ 63:Int))||gN (k≥2 ^ 63))=fe:=by rw[gJ (by lia),gJ<|by lia];rfl
 have hb:¬ k<1->(k==1||z.length==0)=fe->¬ ((z.length:Int) > (2 ^ 63 - 1) / k):=λ_ _=>by have:(1000000:Int)<=(2 ^ 63 - 1) / k:=(Int.le_ediv_iff_mul_le<|by lia).mpr (by lia);lia
 have hl:¬ k<1->(k==1||z.length==0)=fe->tooLong (z.length*k.toNat)=fe:=λ_ _=>by unfold tooLong;exact gJ (by lia)
 refine P.mul_str hr hb hl ?_;rw[gH (by lia),gH<|by rw[nb];exact ā];have el:(⟨(Ø k.toNat z.cps).foldl (· ++ ·) #[]⟩:Str).length=z.length*k.toNat:=by show((Ø k.toNat z.cps).foldl (· ++ ·) #[]).size=_;rw[UW,Nat.mul_comm z.length];simp[Str.length]
 exact⟨by rw[el];lia,.str _,H,I.tok _,⟨_,rfl⟩,q⟩
variable {c y z a b:Str}{k1 k2 k3:Nat}{p1 p2 p3 p4 pa pb Ł Ő:Pos}
end
end L2
namespace L2
open PySem PySem.Spec PyProof.Rows
section
variable {X:Cx}
abbrev Hz(K:Frag):R2:=λx y H Q=>∃a b ys,x=.ref a/\y=.ref b/\gq K H a []/\gq K H b ys/\Q (.ref b) H
def op_cat0:OpR X (Œ .Add)<|Hz X.K:=by
 intro Á s σ H x y v u Q I rx ry h;let⟨a,b,ys,rfl,rfl,ha,hb,q⟩:=h;cases rx;cases ry;let⟨ô,r1,p1,_⟩:=I.tuple ha;let⟨bP,r2,p2,_⟩:=I.tuple hb;cases r1;let⟨⟨cls,dd,data,sl⟩,ho,hc,n,hd⟩:=id p1;let⟨⟨cls2,dm,data2,ee⟩,ho2,hc2,n2,bC⟩:=id p2;simp only at hc hd hc2 bC;subst hc hd hc2 bC;exact eK ⟨_,ho,rfl⟩ ⟨_,ho2,rfl⟩ bI dy PySem.F.slot_tuple_add PySem.F.entry_tuple_add (PySem.F.args_tuple_add_2 _ _)
  (tuple_addW0 a b _ _ n n2 dd dm sl ee rfl) ⟨ho,ho2,.ref b,H,I,rfl,q⟩
end
section
variable {X:Cx}
def MT:fq X (.type "str") λxs H Q=>∃z,xs=[.str z]/\Q (.str z) H:=by intro Á s σ H xs us Q I r h;let⟨z,rfl,q⟩:=h;let⟨u,rfl,t,rfl⟩:=Yv r;exact PySem.P.str_of_str ⟨.str _,H,I,⟨_,rfl⟩,q⟩
abbrev R4(te:TE):TE:=λσ H Q=>te σ H λx H1=>(∃i,x=.int i/\i.natAbs.log2<1920/\Q (.str<|toString i) H1)\/∃z,x=.str z/\z.length<=Ö/\Q (.str z) H1
def FH{e:Expr}{te:TE}{ç:Pos}(he:PE X e te):PE X (.FormattedValue e (-1) fb ç)<|R4 te:=by
 intro Á s σ H Q I h;refine wpAny_FormattedValue_plain<|thn (he Á s σ H _ I h) λv s1 ⟨x,H1,I1,r1,q1⟩=>?_;rcases q1 with⟨i,e1,hd,q1⟩|⟨z,e1,hz,q1⟩
 .subst e1;let⟨t,rfl⟩:=r1;exact wpAny_formatField_int hd ⟨.str _,H1,I1.tok _,⟨_,rfl⟩,q1⟩
 .subst e1;let⟨t,rfl⟩:=r1;exact wpAny_formatField_str ⟨.str _,H1,I1,⟨_,rfl⟩,q1⟩ ⟨.str _,H1,I1.tok _,⟨_,rfl⟩,q1⟩ hz
abbrev Fk(K:Frag)(neg:Bool):R2:=λx y H Q=>∃ds d,(IsD K H y (.tuple ds)\/IsD K H y (.list ds))/\IsD K H x d/\ř ds=fc/\d.canLay0=fc/\d.depth<=64/\Q (.bl<|if neg then !ds.any (λe=>Ĭ e d)else ds.any λe=>Ĭ e d) H
def Pu(hu:X.A.units+65<Ķ):OpR X (ì .In)<|Fk X.K fe:=by
 intro Á s σ H x y v u Q I rx ry h;let⟨ds,d,hd,he,sd,se,hdp,q⟩:=h;let⟨bs,rb⟩:=he.reads I rx;have hr:X.A.units+1+min (ņ ds) d.depth<Ķ:=by have:min (ņ ds) d.depth<=d.depth:=aK _ _;lia
 rcases hd with hd|hd
 .obtain⟨as,ra⟩:=hd.reads I ry;exact SeqAt.in_tuple_reads ra rb sd se hr ⟨.bl _,H,I,rfl,q⟩
 .obtain⟨as,ra⟩:=hd.reads I ry;exact SeqAt.in_list_reads ra rb sd se hr ⟨.bl _,H,I,rfl,q⟩
def At(hu:X.A.units+65<Ķ):OpR X (ì .NotIn)<|Fk X.K fc:=by
 intro Á s σ H x y v u Q I rx ry h;let⟨ds,d,hd,he,sd,se,hdp,q⟩:=h;let⟨bs,rb⟩:=he.reads I rx;have hr:X.A.units+1+min (ņ ds) d.depth<Ķ:=by have:min (ņ ds) d.depth<=d.depth:=aK _ _;lia
 rcases hd with hd|hd
 .obtain⟨as,ra⟩:=hd.reads I ry;exact SeqAt.notIn_tuple_reads ra rb sd se hr ⟨.bl _,H,I,rfl,q⟩
 .obtain⟨as,ra⟩:=hd.reads I ry;exact SeqAt.notIn_list_reads ra rb sd se hr ⟨.bl _,H,I,rfl,q⟩
end
section
variable {κ:Type} [DecidableEq κ]
abbrev YG(kvs:List<|κ×V)(k:κ):Option V:=(kvs.find? λkv=>gN (kv.1=k)).map (·.2)
abbrev fK(kvs:List<|κ×V)(k:κ)(v:V):List (κ×V) :=
 if(kvs.any λkv=>gN (kv.1=k))=fc then kvs.map (λkv=>if kv.1=k then(kv.1,v)else kv)else kvs++[(k,v)]
abbrev fL(kvs:List<|κ×V)(k:κ):List<|κ×V:=kvs.filter λkv=>gN (kv.1≠k)
variable {p:κ×V} {r:List (κ×V)}
def Xj{k:κ}(e:p.1=k):YG (p::r) k=eZ p.2:=by simp[YG,ę,e]
def Xd{k:κ}(e:¬ p.1=k):YG (p::r) k=YG r k:=by simp[YG,ę,e]
def Xs(k:κ):∀kvs:List<|κ×V,(kvs.any λkv=>gN (kv.1=k))=(YG kvs k).isSome
 |[]=>rfl
 |p::r=>by
  rw[Ģ];by_cases e:p.1=k
  .simp only[Xj e,gK e,Bool.true_or,dh]
  .rw[Xd e,gJ e,Ϸ];exact Xs k r
def Xm(kvs:List<|κ×V)(k:κ)(v:V):(fK kvs k v).length<=kvs.length+1:=by
 unfold fK;split
 .rw[Ã];lia
 .rw[è,Ì,Ĩ];lia
variable {o:Option V} {u:Option Â}
def fM.isSome_eq(r:fM o u):o.isSome=u.isSome:=by
 cases o with
 |none=>cases u with
  |none=>rfl
  |some _=>exact(show False from r).elim
 |some _=>cases u with
  |none=>exact(show False from r).elim
  |some _=>rfl
def fM.getD{d:V}{d':Â}(r:fM o u)(rd:RelV d d'):RelV (o.getD d)<|u.getD d':=by
 cases o with
 |none=>cases u with
  |none=>exact rd
  |some _=>exact(show False from r).elim
 |some _=>cases u with
  |none=>exact(show False from r).elim
  |some _=>exact r
variable {kvs:List (κ×V)} {vs:List (κ×Â)}
def KV.val(r:KV kvs vs)(k:κ):fM (YG kvs k)<|ϫ vs k:=by
 unfold KV at r;induction r with
 |nil=>exact True.intro
 |@cons p q ps qs h t ih =>
  let⟨h1,h2⟩:=h;by_cases e:p.1=k
  .have e':q.1=k:=h1.symm.trans e;have b:ϫ (q::qs) k=eZ q.2:=by simp[ϫ,ę,e']
   rw[Xj e,b];exact h2
  .have e':¬ q.1=k:=λz=>e<|h1.trans z;have b:ϫ (q::qs) k=ϫ qs k:=by simp[ϫ,ę,e']
   rw[Xd e,b];exact ih
def KV.any(r:KV kvs vs)(k:κ):(kvs.any λkv=>gN (kv.1=k))=vs.any λkv=>gN (kv.1=k):=by
 unfold KV at r;induction r with
 |nil=>rfl
 |cons h t ih=>rw[Ģ,Ģ,ih,h.1]
variable {y:V}
def KV.repl(r:KV kvs vs)(k:κ){u:Â}(ry:RelV y u) :
  KV (kvs.map λkv=>if kv.1=k then(kv.1,y)else kv) (vs.map λkv=>if kv.1=k then(kv.1,u)else kv):=by
 unfold KV at r ⊢;induction r with
 |nil=>exact .nil
 |@cons p q ps qs h t ih =>
  rw[É,É];refine .cons ?_ ih;let⟨h1,h2⟩:=h;by_cases e:p.1=k
  .rw[gG e,gG<|h1.symm.trans e];exact⟨h1,ry⟩
  .rw[gH e,gH λz=>e<|h1.trans z];exact⟨h1,h2⟩
def KV.put(r:KV kvs vs)(k:κ){u:Â}(ry:RelV y u):KV (fK kvs k y)<|stored vs k u:=by
 unfold fK stored;rw[r.any k];by_cases e:(vs.any λkv=>gN (kv.1=k))=fc
 .rw[gG e,gG e];exact r.repl k ry
 .rw[gH e,gH e];exact Paired.snoc r ⟨rfl,ry⟩
def KV.drop(r:KV kvs vs)(k:κ):KV (fL kvs k)<|without vs k:=by
 unfold KV at r ⊢;unfold fL without;induction r with
 |nil=>exact .nil
 |@cons p q ps qs h t ih =>
  let⟨h1,h2⟩:=h;rw[þ,þ];by_cases e:p.1=k
  .have a:¬ gN (p.1≠k)=fc:=by simp[e]
   have b:¬ gN (q.1≠k)=fc:=by simp[h1.symm.trans e]
   rw[gH a,gH b];exact ih
  .have e':¬ q.1=k:=λz=>e<|h1.trans z;have a:gN (p.1≠k)=fc:=by simp[e]
   have b:gN (q.1≠k)=fc:=by simp[e']
   rw[gG a,gG b];exact .cons ⟨h1,h2⟩ ih
def KV.keys(r:KV kvs vs):kvs.map (·.1)=vs.map (·.1):=by
 unfold KV at r;induction r with
 |nil=>rfl
 |cons h t ih=>rw[É,É,ih,h.1]
def KV.length(r:KV kvs vs):kvs.length=vs.length:=Paired.length r
def EN(kvs:List<|κ×V)(k:κ):(fL kvs k).length<=kvs.length:=ϟ _ _
end
variable {P:ä} {w:ö} {u:Â}
def X0{k:Key}(r:RelV (kV k) u):(Ze P w).is k u=fc:=by
 cases k with
 |inl i=>let⟨t,e⟩:=(show ∃t,u=Value.int i t from r);subst e;exact Op P w i t
 |inr x=>let⟨t,e⟩:=(show ∃t,u=Value.str x t from r);subst e;exact Oq P w x t
def KM{P:ä}{w:ö}:∀{ks:List Key}{us:List Â},gw (ks.map kV) us->ItemsAre (Ze P w) ks us
 |[],_,r=>by rw[ω]at r;cases r;exact .nil
 |k::ks,_,r=>by
  rw[É]at r;cases r with
  |cons h t=>exact .cons (X0 h)<|KM t
@[reducible] noncomputable def KTd(H:Hp):List (List Key×V)->List (List Key×Ë×Â)->Prop:=Paired λp q=>p.1=q.1/\H q.2.1=eZ (.tup<|p.1.map kV)/\RelV p.2 q.2.2
variable {H:Hp} {kvs:List (List Key×V)} {xs:List (List Key×Ë×Â)}
def KTd.val(r:KTd H kvs xs)(k:List Key):fM (YG kvs k) ((cL xs k).map (·.2)):=by
 induction r with
 |nil=>exact True.intro
 |@cons p q ps qs h t ih =>
  let⟨h1,_,h2⟩:=h;by_cases e:p.1=k
  .have e':q.1=k:=h1.symm.trans e;have b:cL (q::qs) k=eZ q.2:=by simp[cL,ę,e']
   rw[Xj e,b];exact h2
  .have e':¬ q.1=k:=λz=>e<|h1.trans z;have b:cL (q::qs) k=cL qs k:=by simp[cL,ę,e']
   rw[Xd e,b];exact ih
variable {y:V}
def KTd.repl(r:KTd H kvs xs)(k:List Key)(ry:RelV y u) :
  KTd H (kvs.map λkv=>if kv.1=k then(kv.1,y)else kv) (xs.map<|putAt k u):=by
 induction r with
 |nil=>exact .nil
 |@cons p q ps qs h t ih =>
  rw[É,É];refine .cons ?_ ih;let⟨h1,h2,h3⟩:=h;unfold putAt;by_cases e:p.1=k
  .rw[gG e,gG<|h1.symm.trans e];exact⟨h1,h2,ry⟩
  .rw[gH e,gH λz=>e<|h1.trans z];exact⟨h1,h2,h3⟩
variable {b:Ë}
def KTd.put(r:KTd H kvs xs)(k:List Key)(hb:H b=eZ (.tup<|k.map kV))(ry:RelV y u) :
  KTd H (fK kvs k y) (storedH xs k b u):=by
 have e:(kvs.any λkv=>gN (kv.1=k))=(cL xs k).isSome:=by rw[Xs,(r.val k).isSome_eq,Ŵ]
 unfold fK storedH;rw[e];by_cases q:(cL xs k).isSome=fc
 .rw[gG q,gG q];exact r.repl k ry
 .rw[gH q,gH q];exact Paired.snoc r ⟨rfl,hb,ry⟩
variable {H':Hp}
def KTd.keeps(r:KTd H kvs xs)(ht:∀b ys,H b=eZ (.tup ys)->H' b=eZ (.tup ys)):KTd H' kvs xs :=
 Paired.mapP r λ_ _ z=>⟨z.1,ht _ _ z.2.1,z.2.2⟩
section
variable {P:ä}{w:ö}{H:Hp}{h:Ć}{a:Ë}
def HN{u:HO}(ok:HOk P w H h)(e:Rd H a u):fu P w H h a u:=e.ok ok
def Ww{kvs:List (Key×V)}(ok:HOk P w H h)(e:Rd H a<|.dK kvs):kvs.length<=Ö/\(a==ŝ)=fe/\∃vs,KV kvs vs/\h.DictOf (Ze P w) a vs :=
 show fu P w H h a (.dK kvs) from HN ok e
def JZ{kvs:List (Key×V)}(ok:HOk P w H h)(e:H a=eZ (.dK kvs)):kvs.length<=Ö/\(a==ŝ)=fe/\∃vs,KV kvs vs/\h.DictOf (Ze P w) a vs:=Ww ok (.inl e)
def fz{ks:List Key}(ok:HOk P w H h)(e:H a=eZ (.tup<|ks.map kV)):(au<|Ze P w).is h ks a:=by
 let⟨_,ô,r,o,h1,h2,n,h3⟩:=(show fu P w H h a (.tup<|ks.map kV) from ok a _ e)
 exact⟨o,ô.toArray,n,h1,h2,h3,by simpa using KM r⟩
def JI(ok:HOk P w H h)(e:Rd H a<|.dT kvs):kvs.length<=Ö/\(a==ŝ)=fe/\
  ∃xs,KTd H kvs xs/\h.DictOfH (au<|Ze P w) a xs:=by
 let⟨z,y,xs,r,o,es,ep,h1,h2,h3,h4,h5⟩:=(show fu P w H h a (.dT kvs) from HN ok e)
 refine⟨z,y,xs,r,o,es,ep,h1,h2,h3,h4,λx hx=>?_,h5⟩;have all:∀{l:List (List Key×V)}{m:List (List Key×Ë×Â)},KTd H l m->∀x∈m,(au<|Ze P w).is h x.1 x.2.1:=by
  intro l m q;induction q with
  |nil=>intro x hx;exact nomatch hx
  |@cons p q ps qs hq t ih =>
   intro x hx;rcases Ç.mp hx with e|hx
   .subst e;exact fz ok (by rw[<-hq.1];exact hq.2.1)
   .exact ih x hx
 exact all r x hx
def QY(ok:HOk P w H h)(e:H a=eZ (.dT kvs)):kvs.length<=Ö/\(a==ŝ)=fe/\
  ∃xs,KTd H kvs xs/\h.DictOfH (au<|Ze P w) a xs:=JI ok<|.inl e
end
abbrev DGet(H:Hp)(a:Ë)(y:V)(r:Option V):Prop :=
 (∃kvs k,Rd H a (.dK kvs)/\y=kV k/\r=YG kvs k)\/∃kvs k b,Rd H a (.dT kvs)/\y=.ref b/\H b=eZ (.tup<|k.map kV)/\r=YG kvs k
abbrev DPut(H:Hp)(a:Ë)(y v:V)(H':Hp):Prop :=
 (∃kvs k,H a=eZ (.dK kvs)/\y=kV k/\kvs.length<Ö/\H'=upd H a (.dK<|fK kvs k v))\/
 ∃kvs k b,H a=eZ (.dT kvs)/\y=.ref b/\H b=eZ (.tup<|k.map kV)/\kvs.length<Ö/\H'=upd H a (.dT<|fK kvs k v)
def DGet.k{H:Hp}{a:Ë}{kvs:List (Key×V)}{k:Key}(e:H a=eZ (.dK kvs)):DGet H a (kV k)<|YG kvs k:=.inl ⟨kvs,k,.inl e,rfl,rfl⟩
variable {a:Ë}
def DGet.t{k:List Key}(e:H a=eZ (.dT kvs))(eb:H b=eZ (.tup<|k.map kV)):DGet H a (.ref b)<|YG kvs k:=.inr ⟨kvs,k,b,.inl e,rfl,eb,rfl⟩
def DPut.k{H:Hp}{a:Ë}{kvs:List (Key×V)}{k:Key}{v:V}(e:H a=eZ (.dK kvs))(hl:kvs.length<Ö):DPut H a (kV k) v<|upd H a<|.dK<|fK kvs k v:=.inl ⟨kvs,k,e,rfl,hl,rfl⟩
def DPut.t{k:List Key}{v:V}(e:H a=eZ (.dT kvs))(eb:H b=eZ (.tup<|k.map kV))(hl:kvs.length<Ö) :
  DPut H a (.ref b) v (upd H a<|.dT<|fK kvs k v):=.inr ⟨kvs,k,b,e,rfl,eb,hl,rfl⟩
section
variable {X:Cx}{Á:List (Ë×Obj)}{σ:St}{H:Hp}{s:Ä}{a:Ë}{y v:V}{u r:Â}{o:Option V}{A:ĉ}{E:Â->Ä->Prop}
def Inv.big(I:Inv X Á σ H s):ŝ<s.heap.objs.size:=by have h:Ċ<s.heap.objs.size:=(I.mod.glob.keeps I.bk).lt;exact ε (by decide) h
variable {Q:Â->Ä->Prop}
def K4(hu:A.units+1<Ķ)(I:Inv X Á σ H s)(g:DGet H a y<|eZ v)(ry:RelV y u)(h:∀w' s',Inv X Á σ H s'->RelV v w'->Q w' s') :
  wpAny (Õ X.prog X.w) A (ϧ (.ref a) u) Q E s:=by
 rcases g with⟨kvs,k,e,ey,l⟩|⟨kvs,k,b,e,ey,eb,l⟩
 .subst ey;let⟨z,hd,vs,ſ,dd⟩:=Ww I.hok e;let⟨w',hw,bw⟩:=fM.some_of (v:=v) (o:=ϫ vs k) (by rw[l];exact ſ.val k);exact wpAny_getItem_of (X0 ry) dd.mapOf hw<|h w' _ (I.tok _) bw
 .subst ey;cases (show u=Value.ref b from ry);let⟨z,hd,xs,ſ,dd⟩:=JI I.hok e;let⟨w',hw,bw⟩:=fM.some_of (v:=v) (o:=(cL xs k).map (·.2)) (by rw[l];exact ſ.val k);let⟨p,hp,eh⟩:=Í.mp hw;refine wpAny_getItem_heap (ζ hu) (fz I.hok eb) dd hp ?_;rw[eh];exact h w' _ (I.tok _) bw
def SR(hu:A.units+1<Ķ)(I:Inv X Á σ H s)(g:DGet H a y o)(ry:RelV y u)(h:∀s',Inv X Á σ H s'->Q (.bool o.isSome) s') :
  wpAny (Õ X.prog X.w) A (ì .In u<|.ref a) Q E s:=by
 rcases g with⟨kvs,k,e,ey,l⟩|⟨kvs,k,b,e,ey,eb,l⟩
 .subst ey;let⟨z,hd,vs,ſ,dd⟩:=Ww I.hok e;refine wpAny_in_of (X0 ry) hd dd.mapOf ?_;rw[<-(ſ.val k).isSome_eq,<-l];exact h _<|I.tok _
 .subst ey;cases (show u=Value.ref b from ry);let⟨z,hd,xs,ſ,dd⟩:=JI I.hok e;refine wpAny_in_heap (ζ hu) (fz I.hok eb) hd dd ?_;have q:=(ſ.val k).isSome_eq;rw[Ŵ]at q;rw[<-q,<-l];exact h _<|I.tok _
def F6(hu:A.units+1<Ķ)(I:Inv X Á σ H s)(g:DGet H a y o)(ry:RelV y u)(h:∀s',Inv X Á σ H s'->Q (.bool (!o.isSome)) s') :
  wpAny (Õ X.prog X.w) A (ì .NotIn u<|.ref a) Q E s:=by
 rcases g with⟨kvs,k,e,ey,l⟩|⟨kvs,k,b,e,ey,eb,l⟩
 .subst ey;let⟨z,hd,vs,ſ,dd⟩:=Ww I.hok e;refine wpAny_notIn_of (X0 ry) hd dd.mapOf ?_;rw[<-(ſ.val k).isSome_eq,<-l];exact h _<|I.tok _
 .subst ey;cases (show u=Value.ref b from ry);let⟨z,hd,xs,ſ,dd⟩:=JI I.hok e;refine wpAny_notIn_heap (ζ hu) (fz I.hok eb) hd dd ?_;have q:=(ſ.val k).isSome_eq;rw[Ŵ]at q;rw[<-q,<-l];exact h _<|I.tok _
variable {h':Ć}
def Jf{t':Nat}{ob:HO}(I:Inv X Á σ H s)(mu:Mut<|H a)(hs:Ź a s.heap h')(he:∃q,h'.get? a=eZ q)(new:fu X.prog X.w (upd H a ob) h' a ob) :
  Inv X Á σ (upd H a ob) {s with heap:=h',toks:=t'} :=
 I.write (x:=a) (e:=a) mu (.inl rfl) (λb q hb z=>(hs.2 b hb).trans z) he new
def OW{kvs:List (Key×V)}{vs:List (Key×Â)}(z:kvs.length<=Ö)(hd:(a==ŝ)=fe)(ſ:KV kvs vs)(dd:h'.DictOf (Ze P w) a vs) :
  fu P w H' h' a (.dK kvs):=⟨z,hd,vs,ſ,dd⟩
def BF{Q:Unit->Ä->Prop}(hu:A.units+1<Ķ)(I:Inv X Á σ H s)(g:DPut H a y v H')(ry:RelV y u)(rv:RelV v r)(h:∀s',Inv X Á σ H' s'->Q () s') :
  wpAny (Õ X.prog X.w) A (bb (.ref a) u r) Q E s:=by
 rcases g with⟨kvs,k,e,ey,l,eH⟩|⟨kvs,k,b,e,ey,eb,l,eH⟩
 .subst ey eH;let⟨z,hd,vs,ſ,dd⟩:=JZ I.hok e;have hz:vs.length<=Ö:=by rw[<-ſ.length];exact z
  have hl:(fK kvs k v).length<=Ö:=by have:=Xm kvs k v;lia
  refine wpAny_setItem_pairs (hsz:=hz) (X0 ry) dd λh' dd' hs=>h _ ?_;have he:∃q,h'.get? a=eZ q:=let ⟨q,_,_,hq,_⟩:=dd';⟨q,hq⟩;exact Jf I (by rw[e];exact True.intro) hs he<|OW hl hd (ſ.put k rv) dd'
 .subst ey eH;cases (show u=Value.ref b from ry);let⟨z,hd,xs,ſ,dd⟩:=QY I.hok e;have hz:xs.length<=Ö:=by rw[<-Paired.length ſ];exact z
  have hl:(fK kvs k v).length<=Ö:=by have:=Xm kvs k v;lia
  refine wpAny_setItem_heap (hsz:=hz) (ζ hu) (fz I.hok eb) dd λh' dd' hs=>h _ ?_;let⟨q,es,ep,hq,h2,h3,h4,_,h5⟩:=dd';refine Jf I (by rw[e];exact True.intro) hs ⟨q,hq⟩ ⟨hl,hd,_,(ſ.put k eb rv).keeps λc ys ec=>?_,q,es,ep,hq,h2,h3,h4,h5⟩;rw[ff<|RN ec e λz=>nomatch z];exact ec
end
section
variable {X:Cx}{Á:List (Ë×Obj)}{σ:St}{H:Hp}{s:Ä}{a:Ë}{kvs:List (Key×V)}{k:Key}{u:Â}{A:ĉ}{E:Â->Ä->Prop}
variable {Q:Â->Ä->Prop}
def HE{v:V}{more:List Â}(I:Inv X Á σ H s)(e:H a=eZ (.dK kvs))(ry:RelV (kV k) u)(l:YG kvs k=eZ v)(hm:more=[]\/∃x,more=[x])
  (h:∀w' s',Inv X Á σ (upd H a<|.dK<|fL kvs k) s'->RelV v w'->Q w' s'):wpAny (Õ X.prog X.w) A (call (.builtin "dict.pop")<|.ref a::u::more) Q E s:=by
 let⟨z,hd,vs,ſ,dd⟩:=JZ I.hok e;let⟨w',hw,bw⟩:=fM.some_of (v:=v) (o:=ϫ vs k) (by rw[<-l];exact ſ.val k);have hp:(keyPart u).isSome=fc:=by
  cases k with
  |inl i=>let⟨t,q⟩:=(show ∃t,u=Value.int i t from ry);subst q;rfl
  |inr x=>let⟨t,q⟩:=(show ∃t,u=Value.str x t from ry);subst q;rfl
 have ha:cM "dict.pop" ⟨.ref a::u::more,[]⟩:=by
  rcases hm with q|⟨x,q⟩
  .subst q;exact PySem.F.args_dict_pop_2 _ _
  .subst q;exact PySem.F.args_dict_pop_3 _ _ _
 refine Ϭ PySem.F.slot_dict_pop dd.typeIs PySem.F.entry_dict_pop ha (meets_dict_pop_there (Ze X.prog X.w) a (X0 ry) more hm hp)
  ⟨vs,w',dd,by rw[<-ſ.length];exact z,hw,λh' dd' hs=>h w' _ ?_ bw⟩
 have he:∃q,h'.get? a=eZ q:=let ⟨q,_,_,hq,_⟩:=dd';⟨q,hq⟩;exact Jf I (by rw[e];exact True.intro) hs he<|OW (Ý (EN kvs k) z) hd (ſ.drop k) dd'
def LD{r:Â}(I:Inv X Á σ H s)(e:H a=eZ (.dK kvs))(ry:RelV (kV k) u)(l:YG kvs k=fb)(h:∀s',Inv X Á σ H s'->Q r s') :
  wpAny (Õ X.prog X.w) A (call (.builtin "dict.pop") [.ref a,u,r]) Q E s:=by
 let⟨z,hd,vs,ſ,dd⟩:=JZ I.hok e;have hn:ϫ vs k=fb:=fM.none_of (by rw[<-l];exact ſ.val k);have hp:(keyPart u).isSome=fc:=by
  cases k with
  |inl i=>let⟨t,q⟩:=(show ∃t,u=Value.int i t from ry);subst q;rfl
  |inr x=>let⟨t,q⟩:=(show ∃t,u=Value.str x t from ry);subst q;rfl
 exact Ϭ PySem.F.slot_dict_pop dd.typeIs PySem.F.entry_dict_pop (PySem.F.args_dict_pop_3 _ _ _) (meets_dict_pop_default (Ze X.prog X.w) a (X0 ry) hd hp r) ⟨vs,dd,hn,h _<|I.tok _⟩
def Qt(I:Inv X Á σ H s)(e:Rd H a<|.dK kvs)(h:∀t s',Inv X Á σ H s'->Q (.int kvs.length t) s'):wpAny (Õ X.prog X.w) A (call (.builtin "len") [.ref a]) Q E s:=by let⟨z,hd,vs,ſ,dd⟩:=Ww I.hok e;refine call_len_dict hd dd (by rw[<-ſ.length];rw[ae]at z;lia) ?_;rw[<-ſ.length];exact h _ _ (I.tok _)
end
variable {X:Cx} {Á:List (Ë×Obj)} {σ:St} {s:Ä}
def NC{o:Option V}(I:Inv X Á σ H s)(g:DGet H a y o):s.TypeIs (.ref a) "dict":=by
 rcases g with⟨kvs,k,e,_,_⟩|⟨kvs,k,b,e,_,_,_⟩
 .obtain⟨_,_,vs,_,dd⟩:=Ww I.hok e;exact dd.typeIs
 .obtain⟨_,_,xs,_,dd⟩:=JI I.hok e;exact dd.typeIs
def NA(h:Ć)(hb:ŝ<h.objs.size):fu P w H (h.push {cls:=.type "dict",data:=.dict #[]}) h.objs.size (.dK []) :=
 ⟨Ŀ _,beq_eq_false_iff_ne.mpr<|Ne.symm<|æ hb,[],.nil,Heap.DictOf.new h⟩
abbrev La:TE:=λ_ H Q=>∀p,H p=fb->Q (.ref p) (upd H p<|.dK [])
section
variable {X:Cx}{ç:Pos}
def pe_dnewK:PE X (.Dict [] [] ç) La:=λÁ s σ H Q I h =>
 wpAny_Dict_empty ⟨.ref s.heap.objs.size,_,I.laid (a:=s.heap.objs.size) (o:=.dK []) (t':=s.toks) (λ_ _ q=>Å _ q) (Ñ _)<|NA s.heap I.big,rfl,h _<|I.hok.fresh<|Ñ _⟩
end
abbrev MH:List (TE×TE)->St->Hp->(List (V×V)->Hp->Prop)->Prop
 |[],_,H,Q=>Q [] H
 |(tk,tv)::r,σ,H,Q=>tk σ H λx H1=>tv σ H1 λy H2=>MH r σ H2 λps H3=>Q ((x,y)::ps) H3
@[reducible] noncomputable def VV:List (V×V)->List (Â×Â)->Prop:=Paired λp q=>RelV p.1 q.1/\RelV p.2 q.2
abbrev PPs(X:Cx)(ç:Pos)(keys:List<|Option Expr)(ύ:List Expr)(trs:List<|TE×TE):Prop :=
 ∀(Á:List<|Ë×Obj) (s:Ä) (σ:St) (H:Hp) (Q:List (V×V)->Hp->Prop),Inv X Á σ H s->MH trs σ H Q->
  wpAny (Õ X.prog X.w) X.A (evalPairs<|pairTrees keys ύ X.env ç) (λvs s'=>∃ps H',Inv X Á σ H' s'/\VV ps vs/\Q ps H') X.xe s
variable {ç:Pos}
def Hi:PPs X ç [] [] []:=λÁ s σ H Q I h=>pairTrees_nil_walk ⟨[],H,I,.nil,h⟩
variable {trs:List (TE×TE)}
def DN{k v:Expr}{ks:List (Option Expr)}{vs:List Expr}{tk tv:TE}(hk:PE X k tk)(hv:PE X v tv)(hr:PPs X ç ks vs trs) :
  PPs X ç (eZ k::ks) (v::vs) ((tk,tv)::trs):=λÁ s σ H Q I h =>
 pairTrees_cons_walk (thn (hk Á s σ H _ I h) λu s1 ⟨x,H1,I1,rx,q1⟩=>thn (hv Á s1 σ H1 _ I1 q1) λw2 s2 ⟨y,H2,I2,ry,q2⟩ =>
   thn (hr Á s2 σ H2 _ I2 q2) λws s3 ⟨ps,H3,I3,ſ,q3⟩=>⟨(x,y)::ps,H3,I3,.cons ⟨rx,ry⟩ ſ,q3⟩)
abbrev Xr(kvs more:List<|Key×V):List<|Key×V:=more.foldl (λĴ kv=>fK Ĵ kv.1 kv.2) kvs
def KV.merge:∀{more:List (Key×V)}{rs:List (Key×Â)}{kvs:List (Key×V)}{vs:List (Key×Â)},KV more rs->KV kvs vs->KV (Xr kvs more) (merged vs rs):=by
 intro more rs kvs vs r;unfold KV at r;induction r generalizing kvs vs with
 |nil=>intro q;exact q
 |@cons p q ps qs h t ih =>
  intro r0;have e:KV (fK kvs p.1 p.2)<|stored vs q.1 q.2:=by have:=r0.put p.1 h.2;rw[<-h.1];exact this
  exact ih e
def XE:∀(more kvs:List<|Key×V),(Xr kvs more).length<=kvs.length+more.length
 |[],kvs=>by show kvs.length<=kvs.length+0;lia
 |p::r,kvs=>by have h1:=XE r<|fK kvs p.1 p.2;have h2:=Xm kvs p.1 p.2;show(Xr (fK kvs p.1 p.2) r).length<=_;rw[Ì];lia
def JJ{P:ä}{w:ö}:∀{kvs:List (Key×V)}{ws:List (Â×Â)},VV (kvs.map λkv=>(kV kv.1,kv.2)) ws->∃rs,Carries (Ze P w) ws rs/\KV kvs rs
 |[],_,r=>by rw[ω]at r;cases r;exact⟨[],True.intro,.nil⟩
 |p::kvs,_,r=>by
  rw[É]at r;cases r with
  |@cons a b as bs h t =>let⟨rs,c,q⟩:=JJ (P:=P) (w:=w) t;let⟨b1,b2⟩:=b;exact⟨(p.1,b2)::rs,⟨X0 h.1,rfl,c⟩,.cons ⟨rfl,h.2⟩ q⟩
abbrev QU(trs:List<|TE×TE):TE:=λσ H Q=>∀p,H p=fb->MH trs σ (upd H p<|.dK []) λps H2=>H2 p=eZ (.dK [])/\∃kvs:List<|Key×V,ps=kvs.map (λkv=>(kV kv.1,kv.2))/\kvs.length<=15/\Q (.ref p) (upd H2 p<|.dK<|Xr [] kvs)
def GQ{keys:List (Option Expr)}{ύ:List Expr}(h:PPs X ç keys ύ trs)(hall:keys.all (·.isSome)=fc)(hl:keys.length=ύ.length)(h0:keys≠[])
  (h15:keys.length<=15):PE X (.Dict keys ύ ç)<|QU trs:=by
 intro Á s σ H Q I q;have hn:=I.hok.fresh<|Ñ s.heap.objs.size;have I1:=I.laid (a:=s.heap.objs.size) (o:=.dK []) (h':=s.heap.push {cls:=.type "dict",data:=.dict #[]}) (t':=s.toks) (λ_ _ q=>Å _ q) (Ñ _)<|NA s.heap I.big;refine wpAny_Dict_walk (knd:=Ze X.prog X.w) hall hl h0 h15<|thn (h Á _ σ _ _ I1<|q _ hn) λws s2 ⟨ps,H2,I2,ſ,e,kvs,ep,lk,q2⟩=>?_;subst ep;let⟨rs,c,rk⟩:=JJ (P:=X.prog) (w:=X.w) ſ;let⟨z,hd,vs0,r0,dd⟩:=JZ I2.hok e;cases r0;refine⟨rs,c,dd,λh' dd' hs=>⟨.ref s.heap.objs.size,_,?_,rfl,q2⟩⟩;have hz:(Xr [] kvs).length<=Ö:=by have h1:=XE kvs [];rw[Ĩ]at h1;rw[ae];lia
 have he:∃q,h'.get? s.heap.objs.size=eZ q:=let ⟨q,_,_,hq,_⟩:=dd';⟨q,hq⟩;exact Jf I2 (by rw[e];exact True.intro) hs he<|OW hz hd (rk.merge .nil) dd'
abbrev Sl(H:Hp)(a:Ë):Prop:=(∃kvs,Rd H a<|.dK kvs)\/∃kvs,Rd H a (.dT kvs)
def Pp(I:Inv X Á σ H s)(d:Sl H a) :
  s.TypeIs (.ref a) "dict"/\(∀b,Value.ref a=.ref b->∃ob,s.heap.get? b=eZ ob/\ob.dict=fb)/\(a==ŝ)=fe:=by
 rcases d with⟨kvs,e⟩|⟨kvs,e⟩
 .obtain⟨_,hd,vs,_,dd⟩:=Ww I.hok e;refine⟨dd.typeIs,λb q=>?_,hd⟩;cases q;let⟨ob,_,_,h1,h2,_⟩:=dd;exact⟨ob,h1,h2.2.1⟩
 .obtain⟨_,hd,xs,_,dd⟩:=JI I.hok e;refine⟨dd.typeIs,λb q=>?_,hd⟩;cases q;let⟨ob,_,_,h1,h2,_⟩:=dd;exact⟨ob,h1,h2.2.1⟩
section
variable {X:Cx}{Á:List (Ë×Obj)}{σ:St}{H:Hp}{s:Ä}{a:Ë}{y d:V}{u r:Â}{o:Option V}{A:ĉ}{E:Â->Ä->Prop}
def PX{Q:Â->Ä->Prop}(hu:A.units+1<Ķ)(I:Inv X Á σ H s)(g:DGet H a y o)(ry:RelV y u)(h:∀w' s',Inv X Á σ H s'->RelV (o.getD .non) w'->Q w' s') :
  wpAny (Õ X.prog X.w) A (call (.builtin "dict.get") [.ref a,u]) Q E s:=by
 rcases g with⟨kvs,k,e,ey,l⟩|⟨kvs,k,b,e,ey,eb,l⟩
 .subst ey;let⟨z,hd,vs,ſ,dd⟩:=Ww I.hok e;refine Ϭ PySem.F.slot_dict_get dd.typeIs PySem.F.entry_dict_get (PySem.F.args_dict_get_2 _ _) (meets_dict_get (Ze X.prog X.w) a (X0 ry) hd) ⟨_,dd.mapOf,h _ _ (I.tok _) ?_⟩;rw[l];exact(ſ.val k).getD rfl
 .subst ey;cases (show u=Value.ref b from ry);let⟨z,hd,xs,ſ,dd⟩:=JI I.hok e;refine Ϭ PySem.F.slot_dict_get dd.typeIs PySem.F.entry_dict_get (PySem.F.args_dict_get_2 _ _) (meetsH_dict_get (au<|Ze X.prog X.w) a b hd) ⟨ζ hu,k,xs,fz I.hok eb,dd,h _ _ (I.tok _) ?_⟩;rw[l];exact(ſ.val k).getD rfl
end
section
variable {X:Cx}
def Bh:fq X (.builtin "len") λxs H Q=>∃a kvs,xs=[V.ref a]/\H a=eZ (.dK kvs)/\Q (.int kvs.length) H:=by intro Á s σ H xs us Q I r h;let⟨a,kvs,rfl,ha,q⟩:=h;let⟨u,rfl,ru⟩:=Yv r;cases ru;exact Qt I (.inl ha) λt s' I'=>⟨.int kvs.length,H,I',⟨t,rfl⟩,q⟩
end
end L2
namespace gF
noncomputable abbrev Ad:=Nat
inductive Val where
 |non|bl (b:Bool)|int (i:Int)|str (s:String)|tup (xs:List Val)|ref (a:Ad)|scr (ns:List Int)|key (i j:Int)
 deriving Inhabited
mutual
noncomputable def Val.eqb:Val->Val->Bool
 |.non,b=>match b with|.non=>fc|_=>fe
 |.bl a,b=>match b with|.bl c=>a==c|_=>fe
 |.int a,b=>match b with|.int c=>a==c|_=>fe
 |.str a,b=>match b with|.str c=>a==c|_=>fe
 |.tup a,b=>match b with|.tup c=>Val.eqs a c|_=>fe
 |.ref a,b=>match b with|.ref c=>a==c|_=>fe
 |.scr a,b=>match b with|.scr c=>a==c|_=>fe
 |.key a b,x=>match x with|.key c d=>a==c&&b==d|_=>fe
noncomputable def Val.eqs:List Val->List Val->Bool
 |[],b=>match b with|[]=>fc|_=>fe
 |x::xs,b=>match b with|y::ys=>Val.eqb x y&&Val.eqs xs ys|_=>fe
end
mutual
theorem Val.eqb_iff:∀{a b:Val},Val.eqb a b=fc↔a=b
 |.non,b=>by cases b<;>simp[Val.eqb]
 |.bl _,b=>by cases b<;>simp[Val.eqb]
 |.int _,b=>by cases b<;>simp[Val.eqb]
 |.str _,b=>by cases b<;>simp[Val.eqb]
 |.tup _,b=>by cases b<;>simp[Val.eqb,Val.eqs_iff]
 |.ref _,b=>by cases b<;>simp[Val.eqb]
 |.scr _,b=>by cases b<;>simp[Val.eqb]
 |.key _ _,b=>by cases b<;>simp[Val.eqb]
theorem Val.eqs_iff:∀{a b:List Val},Val.eqs a b=fc↔a=b
 |[],b=>by cases b<;>simp[Val.eqs]
 |_::_,b=>by cases b<;>simp[Val.eqs,Val.eqb_iff,Val.eqs_iff]
end
noncomputable instance:DecidableEq Val:=λa b=>if h:Val.eqb a b=fc then isTrue (Val.eqb_iff.mp h)else isFalse λe=>h<|Val.eqb_iff.mpr e
inductive Ob where
 |lst (xs:List Val)|dct (kvs:List<|Val×Val)|ins (C:String) (fs:List<|String×Val)|exc (C:String)|frz (kvs:List<|Val×Val)|dtp (kvs:List<|Val×Val)
 deriving Inhabited
abbrev R7:Val->Option String
 |.str s=>eZ s
 |_=>fb
abbrev oneC(s:String):Option Char:=match s.toList with
 |[c]=>eZ c
 |_=>fb
abbrev Mw(i:Int):String:=toString i
abbrev fmtV:Val->Option String
 |.str s=>eZ s
 |.int i=>if i.natAbs<10 ^ 200 then eZ (Mw i)else fb
 |_=>fb
noncomputable abbrev Hs:=Ad->Option Ob
@[irreducible] noncomputable def upd(h:Hs)(a:Ad)(o:Ob):Hs:=λb=>if b=a then eZ o else h b
variable {h:Hs} {a:Ad} {o:Ob}
def fh:upd h a o a=eZ o:=by simp[upd]
def ff{b:Ad}(e:b≠a):upd h a o b=h b:=by simp[upd,e]
def fi{u:Ob}:upd (upd h a o) a u=upd h a u:=by funext b;simp only[upd];split<;>rfl
noncomputable abbrev Env:=List<|Option Val
noncomputable abbrev Q1:=Val->Hs->Prop
noncomputable abbrev XQ:=String->Hs->Prop
noncomputable abbrev Fs:=String->List Val->Hs->Q1->XQ->Prop
abbrev lim:Nat:=1000000
variable {α:Type}
@[irreducible] noncomputable def go(o:Option α)(k:α->Prop):Prop:=match o with|some a=>k a|none=>False
@[simp] theorem fj{a:α}{k:α->Prop}:go (eZ a) k=k a:=by unfold go;rfl
@[simp] theorem E4{k:α->Prop}:go fb k=False:=by unfold go;rfl
def fk{o:Option α}{a:α}{k:α->Prop}(e:o=eZ a)(h:k a):go o k:=by rw[e,fj];exact h
set_option genInjectivity false
inductive Bop where|add|sub|mul|fdiv|mod|pow
inductive Cop where|eq|ne|lt|le|gt|ge|isin|notin|is|isnot|eqE|neE|ntT
inductive Bi where
 |len|int|str|bool|abs|min2|max2|minL|maxL|minD|sum|all|any|sorted|sortedI|sortedSet|lenSet|list|tuple|dict|isi (Ts:List String)|isx (Ts:List String)|isc (C:String)|repr|listRev|listRange|tupRange|dictEnum|minP|maxP|listD
inductive Bm where
 |append|extend|pop|popAt|insert|remove|clear|reverse|index|count|dget|dgetD|dpop|dpopD|setdefault|join|split|replace|upper|partition|sidx
inductive Pt where|one (i:Nat)|many (is:List Nat)|nest (i:Nat) (is:List Nat)
mutual
inductive E where
 |cst (v:Val)|var (i:Nat)|glob (x:String) (v:Val)
 |bin (op:Bop) (a b:E)|neg (a:E)|not (a:E)|and (a b:E)|or (a b:E)
 |cmp (op:Cop) (a b:E)|chain (o1 o2:Cop) (a b c:E)
 |call (f:String) (as:Es)|make (C:String) (as:Es)|meth (C m:String) (o:E) (as:Es)|fld (o:E) (f:String)
 |bi (f:Bi) (as:Es)|bm (m:Bm) (o:E) (as:Es)
 |idx (a i:E)|slc (a:E) (lo hi:Oe)|rev (a:E)
 |tup (es:Es)|lst (es:Es)|dct (es:Es)
 |ife (c:Tt) (a b:E)
 |comp (õ:List Nat) (n:Nat) (p:Pt) (it:It) (c:Tt) (e:E)
 |fstr (es:Es)
 |split (o a:E)
 |repl (o:E) (y z:String)
 |key (es:Es)|dctP
inductive Es where|nil|cons (e:E) (es:Es)
inductive Oe where|none|some (e:E)
inductive Tt where|yes|val (e:E)|not (t:Tt)|and (a b:Tt)|or (a b:Tt)
inductive It where
 |seq (e:E)|chars (e:E)|range (a:E)|range2 (a b:E)|enum (e:E)|zip (a b:E)|items (e:E)|rev (e:E)
end
mutual
inductive S where
 |set (p:Pt) (e:E)|setIdx (a i e:E)|setFld (o:E) (f:String) (e:E)
 |augVar (i:Nat) (op:Bop) (e:E)|augFld (o:E) (f:String) (op:Bop) (n:Int)|augIdx (a i:E) (op:Bop) (n:Int)
 |setPair (a i b j e:E)
 |expr (e:E)|ret (e:E)|retN|ite (c:Tt) (a b:Ss)|whl (c:Tt) (b:Ss)|for (p:Pt) (it:It) (b:Ss)|forI (k:Bool) (p:Pt) (e:E) (b:Ss)
 |never|brk|cnt|pass|raise (C:String) (as:Es)|try (t:Option Nat) (e:E) (hs:Hn)
inductive Ss where|nil|cons (s:S) (ss:Ss)
inductive Hn where|nil|cons (C:String) (n:Option Nat) (b:Ss) (r:Hn)
end
set_option genInjectivity true
abbrev ixN(n:Nat)(i:Int):Option Nat:=if 0<=i then(if i<n then eZ i.toNat else fb)else if -(n:Int)<=i then eZ (i+n).toNat else fb
abbrev atI(xs:List α)(i:Int):Option α:=(ixN xs.length i).bind λj=>xs[j]?
abbrev fR(n d:Nat):Option Int->Nat
 |none=>d
 |some i=>if 0<=i then min i.toNat n else(i+n).toNat
abbrev cut(xs:List α)(lo hi:Option Int):List α:=(xs.drop<|fR xs.length 0 lo).take<|fR xs.length xs.length hi - fR xs.length 0 lo
abbrev fx:Option Ob->Option (List Val)
 |some (.lst xs)=>eZ xs
 |_=>fb
@[simp] theorem JS{xs:List Val}:fx (eZ<|.lst xs)=eZ xs:=rfl
abbrev BW(h:Hs):Val->Option (List Val)
 |.ref a=>fx<|h a
 |.tup xs=>eZ xs
 |.scr ns=>eZ<|ns.map .int
 |_=>fb
abbrev gA:Option Ob->Option (List<|Val×Val)
 |some (.dct kvs)=>eZ kvs
 |_=>fb
abbrev fI(kvs:List<|Val×Val)(k:Val):Option Val:=(kvs.find? λp=>p.1==k).map (·.2)
abbrev fJ(kvs:List<|Val×Val)(k:Val):Bool:=kvs.any λp=>p.1==k
abbrev fK(kvs:List<|Val×Val)(k v:Val):List<|Val×Val:=if fJ kvs k then kvs.map λp=>if p.1==k then(k,v)else p else kvs++[(k,v)]
abbrev fL(kvs:List<|Val×Val)(k:Val):List<|Val×Val:=kvs.filter λp=>!(p.1==k)
abbrev fE:Val->Bool
 |.int _=>fc
 |.str _=>fc
 |_=>fe
inductive D where
 |non|bl (b:Bool)|int (i:Int)|str (s:String)|tup (ds:List D)|lst (ds:List D)
 deriving Inhabited
mutual
noncomputable def D.eqv:D->D->Bool
 |.non,.non=>fc
 |.bl a,.bl b=>a==b
 |.bl a,.int i=>(if a then 1 else 0)==i
 |.int i,.bl a=>i==(if a then 1 else 0)
 |.int a,.int b=>a==b
 |.str a,.str b=>a==b
 |.tup a,.tup b=>D.eqvs a b
 |.lst a,.lst b=>D.eqvs a b
 |_,_=>fe
noncomputable def D.eqvs:List D->List D->Bool
 |[],[]=>fc
 |x::xs,y::ys=>D.eqv x y&&D.eqvs xs ys
 |_,_=>fe
end
abbrev dat(h:Hs):Nat->Val->Option D
 |_,.non=>eZ .non
 |_,.bl b=>eZ<|.bl b
 |_,.int i=>eZ<|.int i
 |_,.str s=>eZ<|.str s
 |0,_=>fb
 |n+1,.tup xs=>(xs.mapM<|dat h n).map .tup
 |n+1,.ref a=>(fx<|h a).bind λxs=>(xs.mapM<|dat h n).map .lst
 |n+1,.scr ns=>eZ<|.lst<|ns.map .int
 |_+1,.key _ _=>fb
abbrev deep:Nat:=12
abbrev eqV(h:Hs)(v u:Val):Option Bool:=(dat h deep v).bind λd=>(dat h deep u).map λe=>D.eqv d e
abbrev fo:List Val->Option (List Int)
 |[]=>eZ []
 |.int i::xs=>(fo xs).map (i :: ·)
 |_=>fb
abbrev fS:List Int->List Int->Bool
 |[],[]=>fe
 |[],_::_=>fc
 |_::_,[]=>fe
 |x::xs,y::ys=>if x=y then fS xs ys else gN (x<y)
abbrev fT:Val->Val->Option Bool
 |.int i,.int j=>eZ<|gN (i<j)
 |.tup xs,.tup ys=>(fo xs).bind λns=>(fo ys).map λms=>fS ns ms
 |_,_=>fb
abbrev inL(h:Hs)(x:Val)(ys:List Val):Option Bool:=(dat h deep x).bind λd=>(ys.mapM<|dat h<|deep - 1).map λds=>ds.any λe=>D.eqv e d
abbrev leV:Val->Val->Option Bool
 |.int i,.int j=>eZ<|gN (i<=j)
 |_,_=>fb
abbrev isKeyT:Val->Bool
 |.key _ _=>fc
 |_=>fe
abbrev inV(h:Hs)(v u:Val):Option Bool:=match u with
 |.tup xs=>inL h v xs
 |.ref a=>match h a with
  |some (.lst xs)=>inL h v xs
  |some (.dct kvs)=>if fE v then eZ (fJ kvs v)else fb
  |some (.frz kvs)=>if fE v then eZ (fJ kvs v)else fb
  |some (.dtp kvs)=>if isKeyT v then eZ (fJ kvs v)else fb
  |_=>fb
 |.str t=>(match v with|.str s=>(oneC s).map λc=>gN (c∈t.toList)|_=>fb)
 |_=>fb
abbrev isV(v u:Val):Option Bool:=match u with
 |.non=>eZ<|gN (v=.non)
 |.bl b=>eZ<|gN (v=.bl b)
 |_=>fb
abbrev asLst(h:Hs):Val->Option (List Val)
 |.ref a=>fx<|h a
 |_=>fb
abbrev fB(h:Hs)(op:Cop)(v u:Val):Option Bool:=match op with
 |.eq=>eqV h v u
 |.ne=>(eqV h v u).map (!·)
 |.lt=>fT v u
 |.gt=>fT u v
 |.le=>leV v u
 |.ge=>leV u v
 |.isin=>inV h v u
 |.notin=>(inV h v u).map (!·)
 |.is=>isV v u
 |.isnot=>(isV v u).map (!·)
 |_=>fb
abbrev JO(h:Hs):Val->Option Bool
 |.bl b=>eZ b
 |.int i=>eZ<|gN (i≠0)
 |.non=>eZ fe
 |.str s=>if s.length<=lim then eZ (gN (s.length≠0))else fb
 |.tup xs=>eZ (!xs.isEmpty)
 |.scr ns=>eZ (!ns.isEmpty)
 |.ref a=>match h a with
  |some (.lst xs)=>eZ (!xs.isEmpty)
  |some (.dct kvs)=>eZ (!kvs.isEmpty)
  |_=>fb
 |.key _ _=>fb
abbrev mulOk(i j:Int):Prop:=(i.natAbs<2 ^ 64\/j.natAbs<2 ^ 64)\/(i.natAbs<=10 ^ 200/\j.natAbs<=10 ^ 200)
instance (i j:Int):Decidable<|mulOk i j:=inferInstanceAs<|Decidable<|_\/_
@[irreducible] noncomputable def new(h:Hs)(o:Ob)(Q:Q1):Prop:=∀p,h p=fb->Q (.ref p) (upd h p o)
variable {Q:Q1}
def Xf(q:∀p,h p=fb->Q (.ref p) (upd h p o)):new h o Q:=by unfold new;exact q
inductive Rs where|val (v:Val)|new (o:Ob)|no
@[irreducible] noncomputable def Rs.wp(r:Rs)(h:Hs)(Q:Q1):Prop:=match r with|.val v=>Q v h|.new o=>gF.new h o Q|.no=>False
@[simp] theorem Rs.wp_val{v:Val}:(Rs.val v).wp h Q=Q v h:=by unfold Rs.wp;rfl
@[simp] theorem Rs.wp_new:(Rs.new o).wp h Q=gF.new h o Q:=by unfold Rs.wp;rfl
@[simp] theorem Rs.wp_no:Rs.no.wp h Q=False:=by unfold Rs.wp;rfl
abbrev Rs.ofO:Option Val->Rs
 |some v=>.val v
 |none=>.no
abbrev Rs.lst(xs:List Val):Rs:=if xs.length<=lim then .new (.lst xs)else .no
abbrev addV(h:Hs):Val->Val->Rs
 |.int i,.int j=>.val<|.int<|i+j
 |.str s,.str t=>if s.length+t.length<=lim then .val (.str<|s++t)else .no
 |.tup xs,.tup ys=>if xs.length+ys.length<=lim then .val (.tup<|xs++ys)else .no
 |.ref a,.ref b=>match h a,h b with
  |some (.lst xs),eZ (.lst ys)=>Rs.lst<|xs++ys
  |_,_=>.no
 |_,_=>.no
abbrev repT(s:String)(n:Nat):String:=Ρ (Ø n s.toList).flatten
abbrev mulV(h:Hs):Val->Val->Rs
 |.int i,.int j=>if mulOk i j then .val (.int<|i*j)else .no
 |.ref a,.int k=>match h a with
  |some (.lst xs)=>if -(2 ^ 62)<k/\k<2 ^ 62/\xs.length*k.toNat<=lim then Rs.lst (Ø k.toNat xs).flatten else .no
  |_=>.no
 |.str s,.int k=>if 2<=k/\k<=1000000/\1<=s.length/\s.length*k.toNat<=lim then .val (.str<|repT s k.toNat)else .no
 |_,_=>.no
abbrev intV(f:Int->Int->Rs):Val->Val->Rs
 |.int i,.int j=>f i j
 |_,_=>.no
abbrev binV(h:Hs)(op:Bop)(v u:Val):Rs:=match op with
 |.add=>addV h v u
 |.sub=>intV (λi j=>.val<|.int<|i - j) v u
 |.mul=>mulV h v u
 |.fdiv=>intV (λi j=>if 0<j/\j<1073741824 then .val (.int<|i / j)else .no) v u
 |.mod=>intV (λi j=>if 0<j then .val (.int<|i % j)else .no) v u
 |.pow=>intV (λi j=>if 0<=j/\j<=1000000/\i.natAbs<2 ^ 64 then .val (.int<|i ^ j.toNat)else .no) v u
abbrev gB:Val->Option Int
 |.int i=>eZ i
 |_=>fb
abbrev fU(h:Hs):Val->Val->Option Val
 |.tup xs,.int k=>atI xs k
 |.str s,.int k=>if s.length<=lim then(atI s.toList k).map λc=>.str (aA c)else fb
 |.ref a,k=>match h a with
  |some (.lst xs)=>(gB k).bind<|atI xs
  |some (.dct kvs)=>if fE k then fI kvs k else fb
  |some (.frz kvs)=>if fE k then fI kvs k else fb
  |some (.dtp kvs)=>if isKeyT k then fI kvs k else fb
  |_=>fb
 |.scr ns,.int i=>atI (ns.map .int) i
 |_,_=>fb
abbrev fV(h:Hs)(v:Val)(lo hi:Option Int):Rs :=
 match v with
 |.tup xs=>if fR xs.length 0 lo=0/\fR xs.length xs.length hi=xs.length then .val (.tup xs)else .val (.tup<|cut xs lo hi)
 |.ref a=>match fx (h a)with
  |some xs=>.new<|.lst<|cut xs lo hi
  |none=>.no
 |.scr ns=>.new<|.lst<|cut (ns.map .int) lo hi
 |.str s=>if s.length<=lim then .val (.str<|Ρ<|cut s.toList lo hi)else .no
 |_=>.no
abbrev sortI(ns:List Int):List Int:=ns.mergeSort λa b=>gN (a<=b)
abbrev blsOf:List Val->Option (List Bool)
 |[]=>eZ []
 |.bl b::xs=>(blsOf xs).map (b :: ·)
 |_=>fb
abbrev minL:List Val->Option Val
 |[]=>fb
 |x::xs=>xs.foldl (λm y=>m.bind λb=>(fT y b).map λc=>if c then y else b)<|eZ x
abbrev maxL:List Val->Option Val
 |[]=>fb
 |x::xs=>xs.foldl (λm y=>m.bind λb=>(fT b y).map λc=>if c then y else b)<|eZ x
abbrev dedup:List Int->List Int
 |[]=>[]
 |x::xs=>x::(dedup xs).filter (· != x)
abbrev gm(c d:String):Bool:=c==d||d == "ShutError" || d == "ValueError" || d == "Exception"
abbrev gD(h:Hs):Val->Option String
 |.non=>eZ "NoneType"
 |.bl _=>eZ "bool"
 |.int _=>eZ "int"
 |.str _=>eZ "str"
 |.tup _=>eZ "tuple"
 |.scr _=>eZ "list"
 |.ref a=>match h a with
  |some (.lst _)=>eZ "list"
  |some (.dct _)=>eZ "dict"
  |_=>fb
 |.key _ _=>fb
abbrev gE(h:Hs)(v:Val)(T:String):Option Bool:=(gD h v).map λt=>t==T||(t == "bool" && T == "int")
abbrev excOf:Option Ob->Option String
 |some (.exc c)=>eZ c
 |_=>fb
abbrev excV(h:Hs):Val->Option String
 |.ref a=>excOf<|h a
 |_=>fb
abbrev isiAny(h:Hs)(v:Val):List String->Option Bool
 |[]=>eZ fe
 |T::Ts=>(gE h v T).bind λb=>(isiAny h v Ts).map (b || ·)
abbrev pairUp:List Val->Option (List<|Val×Val)
 |[]=>eZ []
 |k::v::r=>if fE k then(pairUp r).map ((k,v) :: ·)else fb
 |_=>fb
abbrev putAll(kvs:List<|Val×Val):List (Val×Val)->List (Val×Val)
 |[]=>kvs
 |(k,v)::r=>putAll (fK kvs k v) r
abbrev fZ(h:Hs):Val->Rs
 |.ref a=>match h a with
  |some (.lst xs)=>.val<|.int xs.length
  |some (.dct kvs)=>.val<|.int kvs.length
  |_=>.no
 |.tup xs=>.val<|.int xs.length
 |.scr ns=>.val<|.int ns.length
 |.str s=>if s.length<=lim then .val (.int s.length)else .no
 |_=>.no
abbrev Qj:Val->Rs
 |.str s=>.val<|.str s
 |.int i=>if i.natAbs<10 ^ 200 then .val (.str<|Mw i)else .no
 |_=>.no
abbrev absV:Val->Rs
 |.int i=>.val (.int<|if i<0 then -i else i)
 |_=>.no
abbrev fy(f:Val->Rs):List Val->Rs
 |[v]=>f v
 |_=>.no
abbrev biOf2(f:Val->Val->Rs):List Val->Rs
 |[v,u]=>f v u
 |_=>.no
abbrev rowsOf:List Val->Option (List<|List Int)
 |[]=>eZ []
 |.tup xs::r=>(fo xs).bind λns=>(rowsOf r).map (ns :: ·)
 |_=>fb
abbrev minR(b:List Int):List (List Int)->List Int
 |[]=>b
 |y::r=>minR (if fS y b then y else b) r
abbrev f8(h:Hs)(v:Val):Rs:=match v with
 |.ref a=>match (fx<|h a).bind rowsOf with
  |some []=>.val .non
  |some (x::r)=>.val<|.tup<|(minR x r).map .int
  |none=>.no
 |_=>.no
abbrev SX(h:Hs):Val->Rs
 |.ref a=>.ofO<|(fx<|h a).bind λxs=>(blsOf xs).map λbs=>.bl<|bs.all id
 |_=>.no
abbrev sortOf(h:Hs):Val->Option (List Int)
 |.ref a=>(fx<|h a).bind fo
 |.scr ns=>eZ ns
 |_=>fb
abbrev keysOf(kvs:List<|Val×Val):Option<|List Int:=fo (kvs.map (·.1))
abbrev sortAny(h:Hs)(v:Val):Option<|List Int:=match v with
 |.ref a=>match h a with
  |some (.lst xs)=>fo xs
  |some (.dct kvs)=>keysOf kvs
  |_=>fb
 |.scr ns=>eZ ns
 |_=>fb
abbrev Q0(Ġ:List<|List Int):List<|List Int:=Ġ.mergeSort λa b=>!fS b a
abbrev P7(h:Hs)(v:Val):Option<|List<|List Int:=match v with
 |.ref a=>(fx<|h a).bind rowsOf
 |_=>fb
abbrev Bp(h:Hs)(v:Val):Rs:=match P7 h v with
 |some Ġ=>if Ġ.length<64/\(Ġ.all λr=>!r.isEmpty)=fc then .new (.lst<|(Q0 Ġ).map λr=>.tup<|r.map .int)else .no
 |none=>.no
abbrev JK(h:Hs)(v:Val):Rs:=match sortAny h v with
 |some ns=>if ns.length<64 then .new (.lst<|(sortI ns).map .int)else .no
 |none=>Bp h v
abbrev biSortedI(h:Hs)(v:Val):Rs:=match sortAny h v with
 |some ns=>if ns.length<64 then .new (.lst<|(sortI ns).map .int)else .no
 |none=>.no
abbrev biSortedSet(h:Hs)(v:Val):Rs:=match sortOf h v with
 |some ns=>if ns.length<64 then .new (.lst<|(sortI<|dedup ns).map .int)else .no
 |none=>.no
abbrev toList(h:Hs):Val->Rs
 |.ref a=>match h a with
  |some (.lst xs)=>.new<|.lst xs
  |_=>.no
 |.tup xs=>.new<|.lst xs
 |_=>.no
abbrev M6(h:Hs):Val->Rs
 |.ref a=>match h a with
  |some (.lst xs)=>.val<|.tup xs
  |_=>.no
 |.tup xs=>.val<|.tup xs
 |_=>.no
abbrev biV(h:Hs)(b:Bi)(vs:List Val):Rs:=match b with
 |.len=>fy (fZ h) vs
 |.str=>fy Qj vs
 |.max2=>biOf2 (intV λi j=>.val<|.int<|if j > i then j else i) vs
 |.minD=>fy (f8 h) vs
 |.all=>fy (SX h) vs
 |.sorted=>fy (JK h) vs
 |.sortedI=>fy (biSortedI h) vs
 |.sortedSet=>fy (biSortedSet h) vs
 |.list=>fy (toList h) vs
 |.tuple=>fy (M6 h) vs
 |.isi Ts=>fy (λv=>.ofO<|(isiAny h v Ts).map .bl) vs
 |.isx Ts=>fy (λv=>.ofO<|(excV h v).map λc=>.bl<|Ts.any<|gm c) vs
 |_=>.no
abbrev bmL(h:Hs)(v:Val)(f:Ad->List Val->Option (Val×Hs)):Option<|Val×Hs:=match v with
 |.ref a=>(fx<|h a).bind<|f a
 |_=>fb
abbrev bmD(h:Hs)(v:Val)(f:Ad->List (Val×Val)->Option (Val×Hs)):Option<|Val×Hs:=match v with
 |.ref a=>(gA<|h a).bind<|f a
 |_=>fb
abbrev EI(h:Hs)(vs:List Val)(a:Ad)(xs:List Val):Option<|Val×Hs:=match vs with
 |[v]=>if xs.length<lim then eZ (.non,upd h a<|.lst<|xs++[v])else fb
 |_=>fb
abbrev bmPopAt(h:Hs)(vs:List Val)(a:Ad)(xs:List Val):Option<|Val×Hs:=match vs with
 |[.int i]=>if -(2 ^ 62)<i/\i<2 ^ 62 then(ixN xs.length i).bind λk=>(xs[k]?).map λv=>(v,upd h a<|.lst<|xs.eraseIdx k)else fb
 |_=>fb
abbrev QG(h:Hs)(vs:List Val)(a:Ad)(kvs:List<|Val×Val):Option<|Val×Hs:=match vs with
 |[k]=>if fE k then eZ ((fI kvs k).getD .non,h)else fb
 |_=>fb
abbrev Ln(h:Hs)(vs:List Val)(a:Ad)(kvs:List<|Val×Val):Option<|Val×Hs:=match vs with
 |[k]=>if fE k then(fI kvs k).map λv=>(v,upd h a<|.dct<|fL kvs k)else fb
 |_=>fb
abbrev Hm(h:Hs)(vs:List Val)(a:Ad)(kvs:List<|Val×Val):Option<|Val×Hs:=match vs with
 |[k,d]=>if fE k then eZ ((fI kvs k).getD d,upd h a<|.dct<|fL kvs k)else fb
 |_=>fb
abbrev bmV(h:Hs)(m:Bm)(v:Val)(vs:List Val):Option<|Val×Hs:=match m with
 |.append=>bmL h v<|EI h vs
 |.popAt=>bmL h v<|bmPopAt h vs
 |.dget=>bmD h v<|QG h vs
 |.dpop=>bmD h v<|Ln h vs
 |.dpopD=>bmD h v<|Hm h vs
 |_=>fb
abbrev isLst:Option Ob->Bool
 |some (.lst _)=>fc
 |_=>fe
abbrev isDct:Option Ob->Bool
 |some (.dct _)=>fc
 |some (.dtp _)=>fc
 |_=>fe
inductive Ty where|l|d|s|t
abbrev Bm.ty:Bm->Ty
 |.dget=>.d
 |.dgetD=>.d
 |.dpop=>.d
 |.dpopD=>.d
 |.setdefault=>.d
 |.join=>.s
 |.split=>.s
 |.replace=>.s
 |.upper=>.s
 |.partition=>.s
 |.sidx=>.s
 |.index=>.t
 |_=>.l
abbrev JM(p:Option Ob->Bool)(h:Hs):Val->Bool
 |.ref a=>p<|h a
 |_=>fe
abbrev Ly:Val->Bool
 |.str _=>fc
 |_=>fe
abbrev LC:Val->Bool
 |.tup _=>fc
 |_=>fe
abbrev bmTy(h:Hs)(m:Bm)(v:Val):Bool:=match m.ty with
 |.l=>JM isLst h v
 |.d=>JM isDct h v
 |.s=>Ly v
 |.t=>JM isLst h v||LC v
abbrev fA:List (String×Val)->String->Val->List (String×Val)
 |[],f,v=>[(f,v)]
 |(g,x)::r,f,v=>if g=f then(g,v)::r else(g,x)::fA r f v
abbrev getV(env:Env)(i:Nat):Option Val:=match env[i]? with
 |some (eZ v)=>eZ v
 |_=>fb
abbrev gC:Val->Option Bool
 |.bl b=>eZ b
 |_=>fb
abbrev fQ:Val->Option Ad
 |.ref a=>eZ a
 |_=>fb
abbrev insOf:Option Ob->Option (String×List (String×Val))
 |some (.ins C fs)=>eZ (C,fs)
 |_=>fb
abbrev tupOf:Val->Option (List Val)
 |.tup xs=>eZ xs
 |_=>fb
abbrev bindL:List Nat->List Val->Env->Option Env
 |[],[],env=>eZ env
 |i::is,x::xs,env=>bindL is xs<|env.set i<|eZ x
 |_,_,_=>fb
abbrev bind(p:Pt)(h:Hs)(v:Val)(env:Env):Option Env :=
 match p with
 |.one i=>eZ<|env.set i<|eZ v
 |.many is=>(tupOf v).bind λxs=>bindL is xs env
 |.nest i is=>(tupOf v).bind λxs=>match xs with
  |[x,y]=>(tupOf y).bind λys=>bindL is ys<|env.set i<|eZ x
  |_=>fb
abbrev wComp(st:Hs->Prop)(step:Val->Hs->(Option Val->Hs->Prop)->XQ->Prop):List Val->List Val->Hs->(List Val->Hs->Prop)->XQ->Prop
 |[],Ĵ,h,Q,_=>st h/\Q Ĵ h
 |v::vs,Ĵ,h,Q,X=>st h/\step v h (λr h'=>wComp st step vs (Ĵ++r.toList) h' Q X) X
abbrev enumL:Nat->List Val->List Val
 |_,[]=>[]
 |k,x::xs=>.tup [.int k,x]::enumL (k+1) xs
abbrev itV(h:Hs):Val->Option ((Hs->Prop)×List Val)
 |.tup xs=>eZ (λ_=>True,xs)
 |.scr ns=>eZ (λ_=>True,ns.map .int)
 |.ref a=>(fx<|h a).map λxs=>(λg=>fx (g a)=eZ xs,xs)
 |_=>fb
abbrev itemOf(k:Bool)(p:Val×Val):Val:=if k then p.1 else .tup [p.1,p.2]
abbrev fP(i j:Int):List Val:=(List.range (j - i).toNat).map λ(k:Nat)=>.int<|i+k
abbrev fW(h:Hs)(o k v:Val):Option Hs :=
 match o with
 |.ref p=>match h p with
  |some (.lst xs)=>(gB k).bind λn=>(ixN xs.length n).map λj=>upd h p<|.lst<|xs.set j v
  |some (.dct kvs)=>if fE k/\kvs.length<lim then eZ (upd h p<|.dct<|fK kvs k v)else fb
  |some (.dtp kvs)=>if isKeyT k/\kvs.length<lim then eZ (upd h p<|.dtp<|fK kvs k v)else fb
  |_=>fb
 |_=>fb
abbrev fY(h:Hs)(o:Val)(f:String)(v:Val):Option Hs :=
 match o with
 |.ref p=>match h p with
  |some (.ins C fs)=>if fs.length<900 then eZ (upd h p<|.ins C<|fA fs f v)else fb
  |_=>fb
 |_=>fb
abbrev fX(h:Hs)(o:Val)(f:String):Option Val:=(fQ o).bind λa=>(insOf<|h a).bind λp=>p.2.lookup f
abbrev clsV(h:Hs)(o:Val)(m:String):Option String:=(fQ o).bind λa=>(insOf<|h a).bind λp=>if(p.2.lookup m).isNone then eZ p.1 else fb
abbrev augV(op:Bop)(x y:Val):Option Val:=match op,x,y with
 |.add,.int i,.int j=>eZ<|.int<|i+j
 |.sub,.int i,.int j=>eZ<|.int<|i - j
 |_,_,_=>fb
@[irreducible] noncomputable def Nj(F:Hs->(List Val->Hs->Prop)->XQ->Prop)(h:Hs)(Q:Q1)(X:XQ):Prop:=new h (.dct []) λr h1=>go (fQ r) λp=>F h1 (λvs h2=>go (pairUp vs) λkvs=>h2 p=eZ (.dct [])/\Q (.ref p) (upd h2 p<|.dct<|putAll [] kvs)) X
mutual
@[reducible] noncomputable def xE(Φ:Fs):E->Env->Hs->Q1->XQ->Prop
 |.cst v,_,h,Q,_=>Q v h
 |.glob _ v,_,h,Q,_=>Q v h
 |.var i,env,h,Q,_=>go (getV env i) λv=>Q v h
 |.bin op a b,env,h,Q,X=>xE Φ a env h (λv h1=>xE Φ b env h1 (λu h2=>(binV h2 op v u).wp h2 Q) X) X
 |.neg a,env,h,Q,X=>xE Φ a env h (λv h1=>go (gB v) λi=>Q (.int (-i)) h1) X
 |.not a,env,h,Q,X=>xE Φ a env h (λv h1=>go (gC v) λb=>Q (.bl (!b)) h1) X
 |.and a b,env,h,Q,X=>xE Φ a env h (λv h1=>go (gC v) λc=>if c=fc then xE Φ b env h1 Q X else Q (.bl fe) h1) X
 |.or a b,env,h,Q,X=>xE Φ a env h (λv h1=>go (gC v) λc=>if c=fc then Q (.bl fc) h1 else xE Φ b env h1 Q X) X
 |.cmp op a b,env,h,Q,X=>xE Φ a env h (λv h1=>xE Φ b env h1 (λu h2=>go (fB h2 op v u) λc=>Q (.bl c) h2) X) X
 | .chain o1 o2 a b c,env,h,Q,X=>xE Φ a env h (λv h1=>xE Φ b env h1 (λu h2=>go (fB h2 o1 v u) λk =>
     if k=fc then xE Φ c env h2 (λw h3=>go (fB h3 o2 u w) λk2=>Q (.bl k2) h3) X else Q (.bl fe) h2) X) X
 |.call f as,env,h,Q,X=>xA Φ as env h (λvs h1=>Φ f vs h1 Q X) X
 |.make C as,env,h,Q,X=>xA Φ as env h (λvs h1=>∀p,h1 p=fb->Φ (C ++ ".__init__") (.ref p::vs) (upd h1 p<|.ins C []) (λv h2=>v=.non/\Q (.ref p) h2) X) X
 |.meth C m o as,env,h,Q,X=>xE Φ o env h (λv h1=>clsV h1 v m=eZ C/\xA Φ as env h1 (λvs h2=>Φ (C ++ "." ++ m) (v::vs) h2 Q X) X) X
 |.fld o f,env,h,Q,X=>xE Φ o env h (λv h1=>go (fX h1 v f) λu=>Q u h1) X
 |.bi f as,env,h,Q,X=>xA Φ as env h (λvs h1=>(biV h1 f vs).wp h1 Q) X
 |.bm m o as,env,h,Q,X=>xE Φ o env h (λv h1=>bmTy h1 m v=fc/\xA Φ as env h1 (λvs h2=>go (bmV h2 m v vs) λr=>Q r.1 r.2) X) X
 |.idx a i,env,h,Q,X=>xE Φ a env h (λv h1=>xE Φ i env h1 (λk h2=>go (fU h2 v k) λu=>Q u h2) X) X
 |.slc a lo hi,env,h,Q,X=>xE Φ a env h (λv h1=>xO Φ lo env h1 (λl h2=>xO Φ hi env h2 (λu h3=>(fV h3 v l u).wp h3 Q) X) X) X
 |.tup es,env,h,Q,X=>xA Φ es env h (λvs h1=>Q (.tup vs) h1) X
 |.lst es,env,h,Q,X=>xA Φ es env h (λvs h1=>new h1 (.lst vs) Q) X
 |.dct es,env,h,Q,X=>Nj (xA Φ es env) h Q X
 |.ife c a b,env,h,Q,X=>xT Φ c env h (λk h1=>if k=fc then xE Φ a env h1 Q X else xE Φ b env h1 Q X) X
 | .comp õ n p it c e,env,h,Q,X=>xI Φ it env h (λst xs h1=>xs.length<lim/\
     wComp st (λv h2 K X2=>go (bind p h2 v<|Ø n fb++õ.map λj=>(env[j]?).getD fb) λś =>
       xT Φ c ś h2 (λk h3=>if k=fc then xE Φ e ś h3 (λu h4=>K (eZ u) h4) X2 else K fb h3) X2) xs [] h1 (λys h5=>new h5 (.lst ys) Q) λ_ _=>False) X
 |_,_,_,_,_=>False
@[reducible] noncomputable def xA(Φ:Fs):Es->Env->Hs->(List Val->Hs->Prop)->XQ->Prop
 |.nil,_,h,Q,_=>Q [] h
 |.cons e es,env,h,Q,X=>xE Φ e env h (λv h1=>xA Φ es env h1 (λvs h2=>Q (v::vs) h2) X) X
@[reducible] noncomputable def xJ(Φ:Fs):Es->Env->Hs->String->(String->Hs->Prop)->XQ->Prop
 |.nil,_,h,Ĵ,Q,_=>Q Ĵ h
 |.cons e es,env,h,Ĵ,Q,X=>xE Φ e env h (λv h1=>go (fmtV v) λs=>Ĵ.length+s.length<=lim/\xJ Φ es env h1 (Ĵ++s) Q X) X
@[reducible] noncomputable def xO(Φ:Fs):Oe->Env->Hs->(Option Int->Hs->Prop)->XQ->Prop
 |.none,_,h,Q,_=>Q fb h
 |.some e,env,h,Q,X=>xE Φ e env h (λv h1=>go (gB v) λi=>Q (eZ i) h1) X
@[reducible] noncomputable def xT(Φ:Fs):Tt->Env->Hs->(Bool->Hs->Prop)->XQ->Prop
 |.yes,_,h,Q,_=>Q fc h
 |.val e,env,h,Q,X=>xE Φ e env h (λv h1=>go (JO h1 v) λk=>Q k h1) X
 |.not a,env,h,Q,X=>xT Φ a env h (λk h1=>Q (!k) h1) X
 |.and a b,env,h,Q,X=>xT Φ a env h (λk h1=>if k=fc then xT Φ b env h1 Q X else Q fe h1) X
 |.or a b,env,h,Q,X=>xT Φ a env h (λk h1=>if k=fc then Q fc h1 else xT Φ b env h1 Q X) X
@[reducible] noncomputable def xI(Φ:Fs):It->Env->Hs->((Hs->Prop)->List Val->Hs->Prop)->XQ->Prop
 |.seq e,env,h,Q,X=>xE Φ e env h (λv h1=>go (itV h1 v) λp=>Q p.1 p.2 h1) X
 |.range a,env,h,Q,X=>xE Φ a env h (λv h1=>go (gB v) λn=>(-(2 ^ 62)<=n/\n<2 ^ 62)/\Q (λ_=>True) (fP 0 n) h1) X
 |.enum e,env,h,Q,X=>xE Φ e env h (λv h1=>go (tupOf v) λxs=>Q (λ_=>True) (enumL 0 xs) h1) X
 |_,_,_,_,_=>False
end
@[reducible] noncomputable def wE:Fs->E->Env->Hs->Q1->XQ->Prop:=xE
@[reducible] noncomputable def wA:Fs->Es->Env->Hs->(List Val->Hs->Prop)->XQ->Prop:=xA
@[reducible] noncomputable def wJ:Fs->Es->Env->Hs->String->(String->Hs->Prop)->XQ->Prop:=xJ
@[reducible] noncomputable def wO:Fs->Oe->Env->Hs->(Option Int->Hs->Prop)->XQ->Prop:=xO
@[reducible] noncomputable def wT:Fs->Tt->Env->Hs->(Bool->Hs->Prop)->XQ->Prop:=xT
@[reducible] noncomputable def wI:Fs->It->Env->Hs->((Hs->Prop)->List Val->Hs->Prop)->XQ->Prop:=xI
noncomputable abbrev NQ:=Env->Hs->Prop
noncomputable abbrev EQ:=Env->String->Hs->Prop
abbrev wFor(st:Hs->Prop)(W:Val->Env->Hs->NQ->NQ->Prop)(N:NQ):List Val->Env->Hs->Prop
 |[],env,h=>st h/\N env h
 |v::vs,env,h=>st h/\W v env h (λe g=>wFor st W N vs e g) N
@[reducible] noncomputable def wC(Φ:Fs):E->Env->Hs->Q1->XQ->Prop
 |.call f as,env,h,Q,X=>wA Φ as env h (λvs h1=>Φ f vs h1 Q X) λ_ _=>False
 |.meth C m o as,env,h,Q,X=>wE Φ o env h (λv h1=>clsV h1 v m=eZ C/\wA Φ as env h1 (λvs h2=>Φ (C ++ "." ++ m) (v::vs) h2 Q X) λ_ _=>False) λ_ _=>False
 |_,_,_,_,_=>False
abbrev tryEnv(env:Env):Option Nat->Val->Env
 |none,_=>env
 |some j,v=>env.set j<|eZ v
mutual
@[reducible] noncomputable def xS(Φ:Fs):S->Env->Hs->NQ->Q1->NQ->NQ->EQ->Prop
 |.set p e,env,h,N,_,_,_,X=>wE Φ e env h (λv h1=>go (bind p h1 v env) λś=>N ś h1)<|X env
 |.setIdx a i e,env,h,N,_,_,_,X=>wE Φ e env h (λv h1=>wE Φ a env h1 (λo h2=>wE Φ i env h2 (λk h3=>go (fW h3 o k v) λg=>N env g)<|X env)<|X env)<|X env
 |.setFld o f e,env,h,N,_,_,_,X=>wE Φ e env h (λv h1=>wE Φ o env h1 (λu h2=>go (fY h2 u f v) λg=>N env g)<|X env)<|X env
 |.augFld o f op n,env,h,N,_,_,_,X=>wE Φ o env h (λu h1=>go (fX h1 u f) λx=>go (augV op x<|.int n) λy=>go (fY h1 u f y) λg=>N env g)<|X env
 |.augIdx a i op n,env,h,N,_,_,_,X=>wE Φ a env h (λo h1=>wE Φ i env h1 (λk h2=>go (fU h2 o k) λx=>go (augV op x<|.int n) λy=>go (fW h2 o k y) λg=>N env g)<|X env)<|X env
 |.expr e,env,h,N,_,_,_,X=>wE Φ e env h (λ_ h1=>N env h1)<|X env
 |.ret e,env,h,_,R,_,_,X=>wE Φ e env h R<|X env
 |.retN,_,h,_,R,_,_,_=>R .non h
 |.ite c a b,env,h,N,R,B,C,X=>wT Φ c env h (λk h1=>if k=fc then xSs Φ a env h1 N R B C X else xSs Φ b env h1 N R B C X)<|X env
 |.for p it b,env,h,N,R,_,_,X=>wI Φ it env h (λst xs h1=>wFor st (λv e g K M=>go (bind p g v e) λe2=>xSs Φ b e2 g K R M K X) N xs env h1)<|X env
 | .forI k p e b,env,h,N,R,_,_,X=>wE Φ e env h (λv h1=>go (fQ v) λa=>go (gA<|h1 a) λkvs =>
     wFor (λg=>g a=eZ (.frz kvs)) (λv e g K M=>go (bind p g v e) λe2=>xSs Φ b e2 g K (λu g2=>g2 a=eZ (.frz kvs)/\R u (upd g2 a<|.dct kvs)) M K λ_ _ _=>False)
       (λe g=>g a=eZ (.frz kvs)/\N e (upd g a<|.dct kvs)) (kvs.map<|itemOf k) env (upd h1 a<|.frz kvs))<|X env
 |.never,_,_,_,_,_,_,_=>False
 |.raise C as,env,h,_,_,_,_,X=>wA Φ as env h (λ_ h1=>X env C h1)<|X env
 |.try t e hs,env,h,N,R,B,C,X=>wC Φ e env h (λv h1=>N (tryEnv env t v) h1) λc g=>xH Φ hs c env g N R B C
 |_,_,_,_,_,_,_,_=>False
@[reducible] noncomputable def xSs(Φ:Fs):Ss->Env->Hs->NQ->Q1->NQ->NQ->EQ->Prop
 |.nil,env,h,N,_,_,_,_=>N env h
 |.cons s ss,env,h,N,R,B,C,X=>xS Φ s env h (λe g=>xSs Φ ss e g N R B C X) R B C X
@[reducible] noncomputable def xH(Φ:Fs):Hn->String->Env->Hs->NQ->Q1->NQ->NQ->Prop
 |.nil,_,_,_,_,_,_,_=>False
 |.cons K fb b r,c,env,h,N,R,B,C=>if gm c K=fc then xSs Φ b env h N R B C (λ_ _ _=>False)else xH Φ r c env h N R B C
 |.cons K (eZ i) b r,c,env,h,N,R,B,C=>if gm c K=fc then(∀p,h p=fb->xSs Φ b (env.set i<|eZ<|.ref p) (upd h p<|.exc c) (λe g=>N (e.set i fb) g) R (λe g=>B (e.set i fb) g) (λe g=>C (e.set i fb) g) λ_ _ _=>False)
  else xH Φ r c env h N R B C
end
@[reducible] noncomputable def wS:Fs->S->Env->Hs->NQ->Q1->NQ->NQ->EQ->Prop:=xS
@[reducible] noncomputable def wSs:Fs->Ss->Env->Hs->NQ->Q1->NQ->NQ->EQ->Prop:=xSs
@[reducible] noncomputable def wH:Fs->Hn->String->Env->Hs->NQ->Q1->NQ->NQ->Prop:=xH
def Ls:wSs=xSs:=by unfold wSs;rfl
def Rv:wH=xH:=by unfold wH;rfl
structure Fn where
 ar:Nat
 sz:Nat
 body:Ss
noncomputable abbrev Pg:=String->Option Fn
class In(P:Pg)(f:String)(d:outParam Fn):Prop where
 eq:P f=eZ d
abbrev Fn.env(d:Fn)(vs:List Val):Env:=vs.map eZ++Ø (d.sz - d.ar) fb
abbrev wF0(P:Pg):Nat->Fs
 |0=>λ_ _ _ _ _=>False
 |n+1=>λf vs h Q X=>go (P f) λd=>vs.length=d.ar/\wSs (wF0 P n) d.body (d.env vs) h (λ_ g=>Q .non g) Q (λ_ _=>False) (λ_ _=>False) λ_ c g=>X c g
@[irreducible] noncomputable def wF(P:Pg)(n:Nat):Fs:=wF0 P n
variable {P:Pg} {n:Nat}
def wF_eq:wF P n=wF0 P n:=by unfold wF;rfl
def Zd{f:String}{d:Fn}{vs:List Val}{X:XQ}(e:P f=eZ d)(hl:vs.length=d.ar)
  (q:wSs (wF P n) d.body (d.env vs) h (λ_ g=>Q .non g) Q (λ_ _=>False) (λ_ _=>False) λ_ c g=>X c g):wF P (n+1) f vs h Q X:=by
 rw[wF_eq]at q ⊢;exact fk e ⟨hl,q⟩
section
variable {Φ:Fs}{env:Env}{h:Hs}{Q:Q1}{X:XQ}{a b c e o:E}{as:Es}{v u:Val}
def R0{es:Es}(q:new h (.dct []) λr h1=>go (fQ r) λp=>wA Φ es env h1 (λvs h2=>go (pairUp vs) λkvs=>h2 p=eZ (.dct [])/\Q (.ref p) (upd h2 p<|.dct<|putAll [] kvs)) X):wE Φ (.dct es) env h Q X:=by show Nj _ _ _ _;unfold Nj;exact q
variable {QA:List Val->Hs->Prop}{QO:Option Int->Hs->Prop}{QT:Bool->Hs->Prop}{QI:(Hs->Prop)->List Val->Hs->Prop}
def Rn(q:QA [] h):wA Φ .nil env h QA X:=q
end
section
variable {Φ:Fs}{env:Env}{h:Hs}{N B C:NQ}{R:Q1}{X:EQ}{a b c e o i:E}{as:Es}{v u:Val}{t:Tt}{s1 s2:Ss}{s:S}{p:Pt}{it:It}{hs:Hn}
def Uh(q:N env h):wSs Φ .nil env h N R B C X:=q
def IY{K c:String}{k:Nat}{r:Hn}(hc:gm c K=fc)(q:∀p,h p=fb->wSs Φ s1 (env.set k<|eZ<|.ref p) (upd h p<|.exc c) (λe g=>N (e.set k fb) g) R (λe g=>B (e.set k fb) g) (λe g=>C (e.set k fb) g) λ_ _ _=>False):wH Φ (.cons K (eZ k) s1 r) c env h N R B C:=by simp only[Ls,Rv]at q ⊢;unfold xH;rw[gG hc];exact q
end
section
variable {h:Hs}{Q:Q1}{i j k:Int}{a b:Ad}{xs ys:List Val}{v u:Val}{K:Val->Prop}{KB:Bool->Prop}
def wp_val{r:Rs}(e:r=.val v)(q:Q v h):r.wp h Q:=by rw[e,Rs.wp_val];exact q
def wp_new{r:Rs}{o:Ob}(e:r=.new o)(q:new h o Q):r.wp h Q:=by rw[e,Rs.wp_new];exact q
def b_add(q:Q (.int<|i+j) h):(binV h .add (.int i)<|.int j).wp h Q:=wp_val rfl q
def b_sub(q:Q (.int<|i - j) h):(binV h .sub (.int i)<|.int j).wp h Q:=wp_val rfl q
def b_mul(m:mulOk i j)(q:Q (.int<|i*j) h):(binV h .mul (.int i)<|.int j).wp h Q:=wp_val (gG m) q
def b_fdiv(m:0<j/\j<1073741824)(q:Q (.int<|i / j) h):(binV h .fdiv (.int i)<|.int j).wp h Q:=wp_val (gG m) q
def b_mod(m:0<j)(q:Q (.int<|i % j) h):(binV h .mod (.int i)<|.int j).wp h Q:=wp_val (gG m) q
def b_pow(m:0<=j/\j<=1000000/\i.natAbs<2 ^ 64)(q:Q (.int<|i ^ j.toNat) h):(binV h .pow (.int i)<|.int j).wp h Q:=wp_val (gG m) q
def Iq{z:Int}(m:0<=j/\j<=1000000/\i.natAbs<2 ^ 64)(e:i ^ j.toNat=z)(q:Q (.int z) h):(binV h .pow (.int i)<|.int j).wp h Q:=b_pow m (by rw[e];exact q)
def LP(m:xs.length+ys.length<=lim)(q:Q (.tup<|xs++ys) h):(binV h .add (.tup xs)<|.tup ys).wp h Q:=wp_val (gG m) q
def D3(e1:h a=eZ (.lst xs))(e2:h b=eZ (.lst ys))(m:(xs++ys).length<=lim)(q:new h (.lst<|xs++ys) Q):(binV h .add (.ref a)<|.ref b).wp h Q:=by refine wp_new ?_ q;show(match h a,h b with|some (.lst xs),eZ (.lst ys)=>Rs.lst (xs++ys)|_,_=>.no:Rs)=_;simp only[e1,e2,Rs.lst];rw[gG m]
def lsE(e1:h a=eZ (.lst xs)):fx (h a)=eZ xs:=by rw[e1];rfl
variable {kvs:List (Val×Val)}
def dcE(e1:h a=eZ (.dct kvs)):gA (h a)=eZ kvs:=by rw[e1];rfl
def g_int{K:Int->Prop}(q:K i):go (gB<|.int i) K:=fk rfl q
def g_bl{b:Bool}(q:KB b):go (gC<|.bl b) KB:=fk rfl q
def g_ref{K:Ad->Prop}(q:K a):go (fQ<|.ref a) K:=fk rfl q
def g_tbl{b:Bool}(q:KB b):go (JO h<|.bl b) KB:=fk rfl q
def SB(q:KB<|gN (i≠0)):go (JO h<|.int i) KB:=fk rfl q
def SY(e:h a=eZ (.lst xs))(q:KB (!xs.isEmpty)):go (JO h<|.ref a) KB:=fk (by unfold JO;simp only[e]) q
def fm(e:atI xs i=eZ v)(q:K v):go (fU h (.tup xs)<|.int i) K:=fk e q
def Zj(e1:h a=eZ (.lst xs))(e:atI xs i=eZ v)(q:K v):go (fU h (.ref a)<|.int i) K:=fk (by unfold fU;simp only[e1];exact e) q
def ZX{k:Val}(e1:h a=eZ (.dct kvs))(hk:fE k=fc)(e:fI kvs k=eZ v)(q:K v):go (fU h (.ref a) k) K:=fk (by unfold fU;simp only[e1];rw[gG hk];exact e) q
variable {ns:List Int}
def IX(e:atI (ns.map Val.int) i=eZ v)(q:K v):go (fU h (.scr ns)<|.int i) K:=fk e q
def c_lt(q:KB<|gN (i<j)):go (fB h .lt (.int i)<|.int j) KB:=fk rfl q
def c_gt(q:KB<|gN (j<i)):go (fB h .gt (.int i)<|.int j) KB:=fk rfl q
def c_le(q:KB<|gN (i<=j)):go (fB h .le (.int i)<|.int j) KB:=fk rfl q
def c_ge(q:KB<|gN (j<=i)):go (fB h .ge (.int i)<|.int j) KB:=fk rfl q
def US:D.eqv (.int i) (.int j)=gN (i=j):=by rw[D.eqv];by_cases e:i=j<;>simp[e]
variable {s:String}
def Dv{t:String}:D.eqv (.str s) (.str t)=gN (s=t):=by rw[D.eqv];by_cases e:s=t<;>simp[e]
def c_eqI(q:KB<|gN (i=j)):go (fB h .eq (.int i)<|.int j) KB:=fk (by show eZ (D.eqv (.int i)<|.int j)=_;rw[US]) q
def c_neI(q:KB (!gN (i=j))):go (fB h .ne (.int i)<|.int j) KB:=fk (by show eZ (!D.eqv (.int i) (.int j))=_;rw[US]) q
def Tc{t:String}(q:KB<|gN (s=t)):go (fB h .eq (.str s)<|.str t) KB:=fk (by show eZ (D.eqv (.str s)<|.str t)=_;rw[Dv]) q
def Ta{t:String}(q:KB (!gN (s=t))):go (fB h .ne (.str s)<|.str t) KB:=fk (by show eZ (!D.eqv (.str s) (.str t))=_;rw[Dv]) q
variable {c:Bool}
def Te{d:Bool}(q:KB<|c==d):go (fB h .eq (.bl c)<|.bl d) KB:=fk (by show eZ (D.eqv (.bl c)<|.bl d)=_;rw[D.eqv]) q
def c_isN(q:KB<|gN (v=.non)):go (fB h .is v .non) KB:=fk (by unfold fB;rfl) q
def c_notN(q:KB (!gN (v=.non))):go (fB h .isnot v .non) KB:=fk (by unfold fB;rfl) q
def IQ{ms:List Int}(e1:fo xs=eZ ns)(e2:fo ys=eZ ms)(q:KB<|fS ms ns):go (fB h .gt (.tup xs)<|.tup ys) KB:=fk (by show(fo ys).bind _=_;rw[e1,e2];rfl) q
variable {n:Nat} {Ŝ:Env}
def PD{env:Env}{K:Env->Prop}(e:env.set n (eZ v)=Ŝ)(q:K Ŝ):go (bind (.one n) h v env) K:=by subst e;exact fk rfl q
def Pl{is:List Nat}{env:Env}{K:Env->Prop}(e:bindL is xs env=eZ Ŝ)(q:K Ŝ):go (bind (.many is) h (.tup xs) env) K:=fk e q
def S5{K:Hs->Prop}(e1:h a=eZ (.lst xs))(e:ixN xs.length i=eZ n)(q:K<|upd h a<|.lst<|xs.set n v):go (fW h (.ref a) (.int i) v) K:=fk (by unfold fW;simp only[e1,gB,ð,e,ķ]) q
def YY{K:Hs->Prop}{k:Val}(e1:h a=eZ (.dct kvs))(m:fE k=fc/\kvs.length<lim)(q:K<|upd h a<|.dct<|fK kvs k v):go (fW h (.ref a) k v) K:=fk (by unfold fW;simp only[e1];rw[gG m]) q
def Wp(e1:h a=eZ (.dct kvs))(hk:fE v=fc)(q:KB<|fJ kvs v):go (fB h .isin v<|.ref a) KB:=fk (by show inV h v (.ref a)=_;unfold inV;simp only[e1];rw[gG hk]) q
def Yq(e1:h a=eZ (.dct kvs))(hk:fE v=fc)(q:KB (!fJ kvs v)):go (fB h .notin v<|.ref a) KB:=fk (by show(inV h v<|.ref a).map _=_;unfold inV;simp only[e1];rw[gG hk];rfl) q
variable {C:String} {f:String}
def YA{fs:List (String×Val)}{K:Hs->Prop}(e1:h a=eZ (.ins C fs))(m:fs.length<900)(q:K<|upd h a<|.ins C<|fA fs f v):go (fY h (.ref a) f v) K:=fk (by unfold fY;simp only[e1];rw[gG m]) q
def Ii{fs:List (String×Val)}(e1:h a=eZ (.ins C fs))(e:fs.lookup f=eZ v)(q:K v):go (fX h (.ref a) f) K:=fk (by unfold fX fQ;simp only[e1,insOf,ð];exact e) q
variable {P:Prop}
def ID{m:String}{fs:List (String×Val)}(e1:h a=eZ (.ins C fs))(e:fs.lookup m=fb)(q:P):clsV h (.ref a) m=eZ C/\P:=⟨by unfold clsV fQ;simp only[e1,insOf,ð,e,Option.isNone_none,if_true],q⟩
def ag_add(q:K<|.int<|i+j):go (augV .add (.int i)<|.int j) K:=fk rfl q
def ln_lst(e1:h a=eZ (.lst xs))(q:Q (.int xs.length) h):(biV h .len [.ref a]).wp h Q:=wp_val (by show fZ h (.ref a)=_;unfold fZ;dsimp only;rw[e1]) q
def ln_scr(q:Q (.int ns.length) h):(biV h .len [.scr ns]).wp h Q:=wp_val rfl q
def ln_tup(q:Q (.int xs.length) h):(biV h .len [.tup xs]).wp h Q:=wp_val rfl q
def Si(q:Q (.str s) h):(biV h .str [.str s]).wp h Q:=wp_val rfl q
def Pr(m:i.natAbs<10 ^ 200)(q:Q (.str<|Mw i) h):(biV h .str [.int i]).wp h Q:=wp_val (gG m) q
def ET{bs:List Bool}(e1:h a=eZ (.lst xs))(e2:blsOf xs=eZ bs)(q:Q (.bl<|bs.all id) h):(biV h .all [.ref a]).wp h Q:=wp_val (by show Rs.ofO ((fx<|h a).bind _)=_;rw[lsE e1,ð,e2];rfl) q
def Td{K:String->Prop}(q:K s):go (R7<|.str s) K:=fk rfl q
variable {m:Bm}
def Sk(hm:m=.join)(q:P):bmTy h m (.str s)=fc/\P:=⟨by subst hm;rfl,q⟩
def mx2(q:Q (.int<|if j > i then j else i) h):(biV h .max2 [.int i,.int j]).wp h Q:=wp_val rfl q
def tp_lst(e1:h a=eZ (.lst xs))(q:Q (.tup xs) h):(biV h .tuple [.ref a]).wp h Q:=wp_val (by show M6 h (.ref a)=_;unfold M6;dsimp only;rw[e1]) q
def Su(q:Q (.tup xs) h):(biV h .tuple [.tup xs]).wp h Q:=wp_val rfl q
def RE{Ts:List String}(e:isiAny h v Ts=eZ c)(q:Q (.bl c) h):(biV h (.isi Ts) [v]).wp h Q:=wp_val (by show Rs.ofO ((isiAny h v Ts).map .bl)=_;rw[e];rfl) q
def ls_lst(e1:h a=eZ (.lst xs))(q:new h (.lst xs) Q):(biV h .list [.ref a]).wp h Q:=wp_new (by show toList h (.ref a)=_;unfold toList;dsimp only;rw[e1]) q
def SS(q:new h (.lst xs) Q):(biV h .list [.tup xs]).wp h Q:=wp_new rfl q
variable {lo:Option Int} {hi:Option Int}
def Bo{α:Type}{xs:List α}(n:fR xs.length 0 lo=0/\fR xs.length xs.length hi=xs.length):cut xs lo hi=xs:=by unfold cut;rw[n.1,n.2,bx,cN,ÿ]
def GH(q:Q (.tup<|cut xs lo hi) h):(fV h (.tup xs) lo hi).wp h Q:=by
 unfold fV;dsimp only;split
 .rename_i n;rw[Bo n]at q;exact wp_val rfl q
 .exact wp_val rfl q
def f9(n:¬ (fR xs.length 0 lo=0/\fR xs.length xs.length hi=xs.length))(q:Q (.tup<|cut xs lo hi) h):(fV h (.tup xs) lo hi).wp h Q:=wp_val (by unfold fV;simp only;rw[gH n]) q
def II(hm:m.ty=.l\/m.ty=.t)(e:h a=eZ (.lst xs))(q:P):bmTy h m (.ref a)=fc/\P:=⟨by unfold bmTy;rcases hm with hm|hm<;>rw[hm]<;>simp[JM,e,isLst],q⟩
def P8(hm:m.ty=.d)(e:h a=eZ (.dct kvs))(q:P):bmTy h m (.ref a)=fc/\P:=⟨by unfold bmTy;rw[hm];simp[JM,e,isDct],q⟩
abbrev Lv:Bi->Bool
 |.sorted=>fc
 |.sortedI=>fc
 |_=>fe
def CU{f:Bi}(hf:Lv f=fc)(e:sortAny h v=eZ ns)(m:ns.length<64)(q:new h (.lst<|(sortI ns).map Val.int) Q):(biV h f [v]).wp h Q:=by
 cases f with
 |sorted=>exact wp_new (by show JK h v=_;unfold JK;simp only[e];exact gG m) q
 |sortedI=>exact wp_new (by show biSortedI h v=_;unfold biSortedI;simp only[e];exact gG m) q
 |_=>cases hf
def LY{f:Bi}(e1:h a=eZ (.lst<|ns.map Val.int))(e2:fo (ns.map Val.int)=eZ ns)(m:ns.length<64)(q:new h (.lst<|(sortI ns).map Val.int) Q)(hf:Lv f=fc:=by rfl):(biV h f [.ref a]).wp h Q:=CU hf (by unfold sortAny;simp only[e1,e2]) m q
def Ml{f:Bi}(e1:h a=eZ (.dct kvs))(e2:keysOf kvs=eZ ns)(m:ns.length<64)(q:new h (.lst<|(sortI ns).map Val.int) Q)(hf:Lv f=fc:=by rfl):(biV h f [.ref a]).wp h Q:=CU hf (by unfold sortAny;simp only[e1,e2]) m q
def Pn(e1:h a=eZ (.lst []))(q:Q .non h):(biV h .minD [.ref a]).wp h Q:=wp_val (by show f8 h (.ref a)=_;unfold f8;simp only[e1,fx,ð,rowsOf]) q
def FV{x:List Int}{r:List (List Int)}(e1:h a=eZ (.lst xs))(e2:rowsOf xs=eZ (x::r))(q:Q (.tup<|(minR x r).map Val.int) h):(biV h .minD [.ref a]).wp h Q:=wp_val (by show f8 h (.ref a)=_;unfold f8;simp only[e1,fx,ð,e2]) q
def sl_str(n:s.length<=lim)(q:Q (.str<|Ρ<|cut s.toList lo hi) h):(fV h (.str s) lo hi).wp h Q:=wp_val (by unfold fV;simp only;rw[gG n]) q
def sl_lst(e1:h a=eZ (.lst xs))(q:new h (.lst<|cut xs lo hi) Q):(fV h (.ref a) lo hi).wp h Q:=wp_new (by unfold fV;simp only[e1,fx]) q
def sl_scr(q:new h (.lst<|cut (ns.map Val.int) lo hi) Q):(fV h (.scr ns) lo hi).wp h Q:=wp_new rfl q
def YE{K:Val×Hs->Prop}(e1:h a=eZ (.lst xs))(m:xs.length<lim)(q:K (.non,upd h a<|.lst<|xs++[v])):go (bmV h .append (.ref a) [v]) K:=fk (by show(fx<|h a).bind _=_;rw[lsE e1];exact gG m) q
def Pd{K:Val×Hs->Prop}(e1:h a=eZ (.dct kvs))(hk:fE v=fc)(q:K ((fI kvs v).getD .non,h)):go (bmV h .dget (.ref a) [v]) K:=fk (by show(gA<|h a).bind _=_;rw[dcE e1];exact gG hk) q
def it_lst{K:(Hs->Prop)×List Val->Prop}(e1:h a=eZ (.lst xs))(q:K (λg=>fx (g a)=eZ xs,xs)):go (itV h<|.ref a) K:=fk (by unfold itV;simp only[e1,fx,ķ]) q
def it_scr{K:(Hs->Prop)×List Val->Prop}(q:K (λ_=>True,ns.map Val.int)):go (itV h<|.scr ns) K:=fk rfl q
def it_tup{K:(Hs->Prop)×List Val->Prop}(q:K (λ_=>True,xs)):go (itV h<|.tup xs) K:=fk rfl q
def SL{K:List Val->Prop}(q:K xs):go (BW h<|.tup xs) K:=fk rfl q
def SN{K:List Val->Prop}(e1:h a=eZ (.lst xs))(q:K xs):go (BW h<|.ref a) K:=fk (by unfold BW;simp only[e1,fx]) q
variable {A:Prop} {B:Prop}
def gb(e:c=fc)(q:A):if c=fc then A else B:=by rw[gG e];exact q
def gc(e:c=fe)(q:B):if c=fc then A else B:=by rw[gH<|by rw[e];decide];exact q
def gg(q:c=fc->A)(r:c=fe->B):if c=fc then A else B:=by cases c;exact r rfl;exact q rfl
variable {p:Prop}
def gf[Decidable p](q:p->A)(r:¬p->B):if decide p=fc then A else B:=by
 by_cases e:p
 .rw[gG<|gK e];exact q e
 .rw[gH<|by simpa using e];exact r e
def Au[Decidable p](q:¬p->A)(r:p->B):if(!decide p)=fc then A else B:=by
 by_cases e:p
 .rw[gH<|by simpa using e];exact r e
 .rw[gG<|by simpa using e];exact q e
end
structure Ext(h g:Hs):Prop where
 get:∀{a:Ad}{o:Ob},h a=eZ o->g a=eZ o
variable {h:Hs}
def Ext.refl:Ext h h:=⟨λe=>e⟩
def Ext.trans{g k:Hs}(e:Ext h g)(f:Ext g k):Ext h k:=⟨λx=>f.get<|e.get x⟩
variable {p:Ad} {o:Ob}
def Ext.new(e:h p=fb):Ext h<|upd h p o:=⟨λ{a u} x=>by
  rw[ff<|by intro z;rw[z,e]at x;cases x];exact x⟩
structure ExtB(w:Ad)(h g:Hs):Prop where
 get:∀{a:Ad}{o:Ob},a≠w->h a=eZ o->g a=eZ o
variable {a:Ad}
def Za(x:h a=eZ o)(n:h p=fb):a≠p:=by intro z;rw[z,n]at x;cases x
def ne_none'(n:h p=fb)(x:h a=eZ o):a≠p:=Za x n
def upd_ne'{b:Ad}{r:Option Ob}(n:b≠a)(e:h b=r):upd h a o b=r:=by rw[ff n];exact e
inductive Sm2 {α β:Type}(p:α->β->Prop):Prop|mk (a:α) (b:β) (h:p a b)
inductive Sm3 {α β γ:Type}(p:α->β->γ->Prop):Prop|mk (a:α) (b:β) (c:γ) (h:p a b c)
inductive Sm4 {α β γ δ:Type}(p:α->β->γ->δ->Prop):Prop|mk (a:α) (b:β) (c:γ) (d:δ) (h:p a b c d)
inductive Cj2 (a b:Prop):Prop|mk (h1:a) (h2:b)
inductive Cj3 (a b c:Prop):Prop|mk (h1:a) (h2:b) (h3:c)
inductive Cj4 (a b c d:Prop):Prop|mk (h1:a) (h2:b) (h3:c) (h4:d)
inductive Cj5 (a b c d e:Prop):Prop|mk (h1:a) (h2:b) (h3:c) (h4:d) (h5:e)
inductive Cj7 (a b c d e f g:Prop):Prop|mk (h1:a) (h2:b) (h3:c) (h4:d) (h5:e) (h6:f) (h7:g)
variable {st:Hs->Prop} {xs:List Val}
def Zs{W:Val->Env->Hs->NQ->NQ->Prop}{N:NQ}(I:Nat->Env->Hs->Prop){env:Env}(h0:I 0 env h)(ō:∀i e g,i<=xs.length->I i e g->st g)
  (step:∀i v e g,xs[i]?=eZ v->I i e g->∀K:NQ,(∀e' g',I (i+1) e' g'->K e' g')->W v e g K N) (fin:∀e g,I xs.length e g->N e g):wFor st W N xs env h:=by
 have key:∀(ys:List Val) (i:Nat) e g,xs.drop i=ys->i<=xs.length->I i e g->wFor st W N ys e g:=by
  intro ys;induction ys with
  |nil =>
   intro i e g hd hi hI;have:i=xs.length:=by have:=congrArg List.length hd;simp at this;lia
   subst this;exact⟨ō _ e g (Ñ _) hI,fin e g hI⟩
  |cons v vs ih =>
   intro i e g hd hi hI;have ϵ:i<xs.length:=by have:=congrArg List.length hd;simp at this;lia
   have hv:xs[i]?=eZ v:=by have:=congrArg (λl=>l[0]?) hd;simpa using this
   refine⟨ō i e g hi hI,step i v e g hv hI _ λe' g' hI'=>ih (i+1) e' g' ?_ (by lia) hI'⟩;have:=congrArg List.tail hd;simpa using this
 exact key xs 0 env h (by simp) (by lia) h0
variable {Q:List Val->Hs->Prop} {X:XQ}
def Yj{step:Val->Hs->(Option Val->Hs->Prop)->XQ->Prop}(I:Nat->List Val->Hs->Prop)(h0:I 0 [] h)(ō:∀i ys g,i<=xs.length->I i ys g->st g)
  (go:∀i v ys g,xs[i]?=eZ v->I i ys g->∀K,(∀r g',I (i+1) (ys++r.toList) g'->K r g')->step v g K X) (fin:∀ys g,I xs.length ys g->Q ys g):wComp st step xs [] h Q X:=by
 have key:∀(zs:List Val) (i:Nat) ys g,xs.drop i=zs->i<=xs.length->I i ys g->wComp st step zs ys g Q X:=by
  intro zs;induction zs with
  |nil =>
   intro i ys g hd hi hI;have:i=xs.length:=by have:=congrArg List.length hd;simp at this;lia
   subst this;exact⟨ō _ ys g (Ñ _) hI,fin ys g hI⟩
  |cons v vs ih =>
   intro i ys g hd hi hI;have ϵ:i<xs.length:=by have:=congrArg List.length hd;simp at this;lia
   have hv:xs[i]?=eZ v:=by have:=congrArg (λl=>l[0]?) hd;simpa using this
   refine⟨ō i ys g hi hI,go i v ys g hv hI _ λr g' hI'=>ih (i+1) _ g' ?_ (by lia) hI'⟩;have:=congrArg List.tail hd;simpa using this
 exact key xs 0 [] h (by simp) (by lia) h0
def Yg{step:Val->Hs->(Option Val->Hs->Prop)->XQ->Prop}(f:Val->Option Val)(ō:st h)
  (go:∀v∈xs,∀K,K (f v) h->step v h K X) (fin:Q (xs.filterMap f) h):wComp st step xs [] h Q X:=by
 have key:∀(zs ys:List Val),(∀v∈zs,v∈xs)->Q (ys++zs.filterMap f) h->wComp st step zs ys h Q X:=by
  intro zs;induction zs with
  |nil=>intro ys _ q;exact⟨ō,⇑q⟩
  |cons v vs ih =>
   intro ys hm q;refine⟨ō,go v (hm v<|by simp) _<|ih _ (λw hw=>hm w<|by simp[hw]) ?_⟩;cases e:f v with
   |none=>simpa[Đ,e]using q
   |some u=>simpa[Đ,e]using q
 exact key xs [] (λ_ h=>h) ⇑fin
section
variable {Φ:Fs}{env:Env}{h:Hs}{Q:Q1}{X:XQ}{a b c e o:E}{as:Es}{v u:Val}
def q_e_bi{f:Bi}:(wE Φ (.bi f as) env h Q X)=(wA Φ as env h (λvs h1=>(biV h1 f vs).wp h1 Q) X):=rfl
variable {es:Es}
def q_e_dct:(wE Φ (.dct es) env h Q X)=(new h (.dct []) λr h1=>go (fQ r) λp=>wA Φ es env h1 (λvs h2=>go (pairUp vs) λkvs=>h2 p=eZ (.dct [])/\Q (.ref p) (upd h2 p<|.dct<|putAll [] kvs)) X):=by show Nj _ _ _ _=_;unfold Nj;rfl
variable {QA:List Val->Hs->Prop}{QO:Option Int->Hs->Prop}{QT:Bool->Hs->Prop}{QI:(Hs->Prop)->List Val->Hs->Prop}
def q_a_nil:(wA Φ .nil env h QA X)=(QA [] h):=rfl
def q_a_cons:(wA Φ (.cons e es) env h QA X)=(wE Φ e env h (λv h1=>wA Φ es env h1 (λvs h2=>QA (v::vs) h2) X) X):=rfl
end
section
variable {Φ:Fs}{env:Env}{h:Hs}{N B C:NQ}{R:Q1}{X:EQ}{a b c e o i:E}{as:Es}{v u:Val}{t:Tt}{s1 s2:Ss}{s:S}{p:Pt}{it:It}{hs:Hn}
def q_s_raise{D:String}:(wS Φ (.raise D as) env h N R B C X)=(wA Φ as env h (λ_ h1=>X env D h1)<|X env):=rfl
def q_s_try{t:Option Nat}:(wS Φ (.try t e hs) env h N R B C X)=(wC Φ e env h (λv h1=>N (tryEnv env t v) h1) λc g=>wH Φ hs c env g N R B C):=rfl
def q_h_nil{c:String}:wH Φ .nil c env h N R B C=False:=rfl
variable {r:Hn}
def q_h_none{K c:String}:wH Φ (.cons K fb s1 r) c env h N R B C=if gm c K=fc then wSs Φ s1 env h N R B C (λ_ _ _=>False)else wH Φ r c env h N R B C:=rfl
def q_h_some{K c:String}{k:Nat}:wH Φ (.cons K (eZ k) s1 r) c env h N R B C=if gm c K=fc then(∀p,h p=fb->wSs Φ s1 (env.set k<|eZ<|.ref p) (upd h p<|.exc c) (λe g=>N (e.set k fb) g) R (λe g=>B (e.set k fb) g) (λe g=>C (e.set k fb) g) λ_ _ _=>False)else wH Φ r c env h N R B C:=rfl
end
mutual
theorem D.eqv_refl:∀d:D,D.eqv d d=fc
 |.non=>by simp[D.eqv]
 |.bl _=>by simp[D.eqv]
 |.int _=>by simp[D.eqv]
 |.str _=>by simp[D.eqv]
 |.tup ds=>by simp only[D.eqv];exact D.eqvs_refl ds
 |.lst ds=>by simp only[D.eqv];exact D.eqvs_refl ds
theorem D.eqvs_refl:∀ds:List D,D.eqvs ds ds=fc
 |[]=>by simp[D.eqvs]
 |d::ds=>by simp only[D.eqvs,D.eqv_refl d,D.eqvs_refl ds,Bool.and_self]
end
def U0{α:Type}{o:Option α}{k k':α->Prop}(h:go o k)(f:∀a,k a->k' a):go o k':=by
 cases o with
 |none=>rw[E4]at h;exact h.elim
 |some a=>rw[fj]at h ⊢;exact f a h
section
variable {Φ:Fs}{env:Env}{h:Hs}{Q:Q1}{X:XQ}{a:Ad}{v:Val}{kvs:List (Val×Val)}
def LJ(q:∀p,h p=fb->Q (.ref p) (upd h p<|.dct [])):wE Φ (.dct .nil) env h Q X:=by refine R0<|Xf λp hp=>g_ref<|Rn<|fk rfl ⟨fh,?_⟩;rw[fi];exact q p hp
def dw0(q:∀p,h p=fb->Q (.ref p) (upd h p<|.dct [])):Nj (xA Φ .nil env) h Q X:=LJ q
def dw{F:Hs->(List Val->Hs->Prop)->XQ->Prop}(q:new h (.dct []) λr h1=>go (fQ r) λp=>F h1 (λvs h2=>go (pairUp vs) λkvs=>h2 p=eZ (.dct [])/\Q (.ref p) (upd h2 p<|.dct<|putAll [] kvs)) X):Nj F h Q X:=by unfold Nj;exact q
def RI{i:Nat}{K:Val->Prop}(g:getV env i=eZ v)(q:K v):go (getV env i) K:=fk g q
def dc_of{K:List (Val×Val)->Prop}(e1:h a=eZ (.dct kvs))(q:K kvs):go (gA<|h a) K:=fk (dcE e1) q
variable {u:Val}
def Ej{K:Val×Hs->Prop}(e1:h a=eZ (.dct kvs))(hk:fE v=fc)(e2:fI kvs v=eZ u)(q:K (u,upd h a<|.dct<|fL kvs v)):go (bmV h .dpop (.ref a) [v]) K:=fk (by show(gA<|h a).bind _=_;rw[dcE e1];show(if fE v then _ else _)=_;rw[gG hk,e2];rfl) q
def UB{K:Val×Hs->Prop}(e1:h a=eZ (.dct kvs))(hk:fE v=fc)(q:K ((fI kvs v).getD u,upd h a<|.dct<|fL kvs v)):go (bmV h .dpopD (.ref a) [v,u]) K:=fk (by show(gA<|h a).bind _=_;rw[dcE e1];exact gG hk) q
end
end gF
namespace Snd
open PySem L2
abbrev KT(K:Frag)(a:Ë)(xs:List V):Prop :=
 ∃(o:Obj) (ô:Array Â) (n:Nat),K.lookup a=eZ o/\o.cls=.type "tuple"/\o.data=.seq ô n/\ô.size<=Ö/\gw xs ô.toList
abbrev KL(K:Frag)(a:Ë)(xs:List V):Prop :=
 ∃(o:Obj) (ô:Array Â) (n:Nat),K.lookup a=eZ o/\o.cls=.type "list"/\o.dict=fb/\o.data=.seq ô n/\ô.size<=Ö/\gw xs ô.toList
mutual
inductive RV (K:Frag) (H:Hp):gF.Val->V->Prop
 |non:RV K H .non .non
 |bl (b:Bool):RV K H (.bl b)<|.bl b
 |int (i:Int):RV K H (.int i)<|.int i
 |str (s:String):RV K H (.str s)<|.str<|gO s
 |tup {xs:List gF.Val}{a:Ë}{vs:List V}:(H a=eZ (.tup vs)\/KT K a vs)->RVs K H xs vs->RV K H (.tup xs) (.ref a)
 |ref (a:Ë):RV K H (.ref a)<|.ref a
 |scr {ns:List Int}{a:Ë}:((∃o,H a=eZ (.frz o<|.lst<|ns.map V.int))\/KL K a (ns.map V.int))->RV K H (.scr ns) (.ref a)
 |key {i j:Int}{a:Ë}:H a=eZ (.tup [.int i,.int j])->RV K H (.key i j) (.ref a)
inductive RVs (K:Frag) (H:Hp):List gF.Val->List V->Prop
 |nil:RVs K H [] []
 |cons {v:gF.Val}{x:V}{vs:List gF.Val}{xs:List V}:RV K H v x->RVs K H vs xs->RVs K H (v::vs) (x::xs)
end
structure fH(H H':Hp):Prop where
 t:∀a xs,H a=eZ (.tup xs)->H' a=eZ (.tup xs)
 f:∀a o u,H a=eZ (.frz o u)->H' a=eZ (.frz o u)
def fH.refl(H:Hp):fH H H:=⟨λ_ _ e=>e,λ_ _ _ e=>e⟩
variable {H:Hp}
def fH.trans{H1 H2:Hp}(a:fH H H1)(b:fH H1 H2):fH H H2:=⟨λc xs e=>b.t c xs<|a.t c xs e,λc o u e=>b.f c o u<|a.f c o u e⟩
variable {a:Ë} {o:HO}
def fH.put(h:∀xs,H a≠eZ (.tup xs))(h2:∀p u,H a≠eZ (.frz p u)):fH H<|upd H a o:=⟨λb xs e=>by
  rw[ff<|by rintro rfl;exact h xs e];exact e,λb p u e=>by rw[ff<|by rintro rfl;exact h2 p u e];exact e⟩
def fH.new(h:H a=fb):fH H<|upd H a o:=fH.put (λxs e=>by rw[h]at e;cases e) λp u e=>by rw[h]at e;cases e
variable {K:Frag}{H H':Hp}
mutual
theorem RV.keep(k:fH H H'):∀{v:gF.Val}{x:V},RV K H v x->RV K H' v x
 |_,_,.non=>.non
 |_,_,.bl b=>.bl b
 |_,_,.int i=>.int i
 |_,_,.str s=>.str s
 |_,_,.tup (.inl e) r=>.tup (.inl<|k.t _ _ e)<|RVs.keep k r
 |_,_,.tup (.inr e) r=>.tup (.inr e)<|RVs.keep k r
 |_,_,.ref a=>.ref a
 |_,_,.scr (.inl ⟨o,e⟩)=>.scr<|.inl ⟨o,k.f _ _ _ e⟩
 |_,_,.scr (.inr e)=>.scr<|.inr e
 |_,_,.key e=>.key<|k.t _ _ e
theorem RVs.keep(k:fH H H'):∀{vs:List gF.Val}{xs:List V},RVs K H vs xs->RVs K H' vs xs
 |_,_,.nil=>.nil
 |_,_,.cons r t=>.cons (RV.keep k r)<|RVs.keep k t
end
def RVs.length:∀{vs:List gF.Val}{xs:List V},RVs K H vs xs->vs.length=xs.length
 |_,_,.nil=>rfl
 |_,_,.cons _ t=>by rw[Ì,Ì,RVs.length t]
def RVs.get:∀{vs:List gF.Val}{xs:List V}{i:Nat}{v:gF.Val},RVs K H vs xs->vs[i]?=eZ v->∃x,xs[i]?=eZ x/\RV K H v x
 |_,_,_,_,.nil,e=>by simp at e
 |_,_,0,_,.cons r _,e=>by simp at e;subst e;exact⟨_,rfl,r⟩
 |_,_,i+1,v,.cons _ t,e=>by let⟨x,h1,h2⟩:=RVs.get (i:=i) (v:=v) t ⇑e;exact⟨x,⇑h1,h2⟩
def RVs.append:∀{vs us:List gF.Val}{xs ys:List V},RVs K H vs xs->RVs K H us ys->RVs K H (vs++us) (xs++ys)
 |_,_,_,_,.nil,h=>h
 |_,_,_,_,.cons r t,h=>.cons r<|RVs.append t h
def RVs.set{v:gF.Val}{x:V}(r:RV K H v x):∀{vs:List gF.Val}{xs:List V}(i:Nat),RVs K H vs xs->RVs K H (vs.set i v) (xs.set i x)
 |_,_,_,.nil=>.nil
 |_,_,0,.cons _ t=>.cons r t
 |_,_,i+1,.cons q t=>.cons q<|RVs.set r i t
def RVs.take:∀{vs:List gF.Val}{xs:List V}(n:Nat),RVs K H vs xs->RVs K H (vs.take n) (xs.take n)
 |_,_,0,_=>.nil
 |_,_,_+1,.nil=>.nil
 |_,_,n+1,.cons r t=>.cons r<|RVs.take n t
def RVs.drop:∀{vs:List gF.Val}{xs:List V}(n:Nat),RVs K H vs xs->RVs K H (vs.drop n) (xs.drop n)
 |_,_,0,r=>r
 |_,_,_+1,.nil=>.nil
 |_,_,n+1,.cons _ t=>RVs.drop n t
def RVs.eraseIdx:∀{vs:List gF.Val}{xs:List V}(i:Nat),RVs K H vs xs->RVs K H (vs.eraseIdx i) (xs.eraseIdx i)
 |_,_,_,.nil=>.nil
 |_,_,0,.cons _ t=>t
 |_,_,i+1,.cons q t=>.cons q<|RVs.eraseIdx i t
def Zk{vs:List V}(h:H a=eZ (.tup vs)\/KT K a vs):gq K H a vs:=by
 rcases h with h|h
 .exact gq.of h
 .exact .inr h
structure Inf where
 K:Frag
 cl:String->Ë->Prop
 ins:String->Bool
 xc:String->Ë->Prop
abbrev WV:gF.Val->Key->Prop
 |.int i,.inl j=>i=j
 |.str s,.inr t=>t=gO s
 |_,_=>False
inductive RKs (K:Frag) (H:Hp):List (gF.Val×gF.Val)->List (Key×V)->Prop
 |nil:RKs K H [] []
 |cons {k v:gF.Val}{c:Key}{x:V}{kvs:List (gF.Val×gF.Val)}{ps:List (Key×V)}:WV k c->RV K H v x->RKs K H kvs ps->RKs K H ((k,v)::kvs) ((c,x)::ps)
inductive RFs (K:Frag) (H:Hp):List (String×gF.Val)->List (Str×V)->Prop
 |nil:RFs K H [] []
 |cons {f:String}{v:gF.Val}{x:V}{fs:List (String×gF.Val)}{ps:List (Str×V)}:RV K H v x->RFs K H fs ps->RFs K H ((f,v)::fs) ((gO f,x)::ps)
def RKs.keep(k:fH H H'):∀{kvs:List (gF.Val×gF.Val)}{ps:List (Key×V)},RKs K H kvs ps->RKs K H' kvs ps
 |_,_,.nil=>.nil
 |_,_,.cons a r t=>.cons a (r.keep k)<|RKs.keep k t
inductive RTs (K:Frag) (H:Hp):List (gF.Val×gF.Val)->List (List Key×V)->Prop
 |nil:RTs K H [] []
 |cons {i j:Int}{v:gF.Val}{x:V}{kvs:List (gF.Val×gF.Val)}{ps:List (List Key×V)}:RV K H v x->RTs K H kvs ps->RTs K H ((.key i j,v)::kvs) (([.inl i,.inl j],x)::ps)
def RTs.keep(k:fH H H'):∀{kvs:List (gF.Val×gF.Val)}{ps:List (List Key×V)},RTs K H kvs ps->RTs K H' kvs ps
 |_,_,.nil=>.nil
 |_,_,.cons r t=>.cons (r.keep k)<|RTs.keep k t
def RFs.keep(k:fH H H'):∀{fs:List (String×gF.Val)}{ps:List (Str×V)},RFs K H fs ps->RFs K H' fs ps
 |_,_,.nil=>.nil
 |_,_,.cons r t=>.cons (r.keep k)<|RFs.keep k t
abbrev RO(i:Inf)(H:Hp)(a:Ë):gF.Ob->Prop
 |.lst xs=>∃vs,H a=eZ (.lst vs)/\RVs i.K H xs vs
 |.dct kvs=>∃ps,H a=eZ (.dK ps)/\RKs i.K H kvs ps
 |.ins C fs=>∃c dx ps,i.ins C=fc/\i.cl C c/\H a=eZ (.ins c dx ps)/\RFs i.K H fs ps
 |.exc C=>∃c,i.xc C c/\H a=eZ (xcO a<|.ref c)
 |.frz kvs=>∃o ps,H a=eZ (.frz o<|.dK ps)/\RKs i.K H kvs ps
 |.dtp kvs=>∃ps,H a=eZ (.dT ps)/\RTs i.K H kvs ps
variable {i:Inf}
def RO.there{o:gF.Ob}(r:RO i H a o):∃u,H a=eZ u:=by
 cases o with
 |lst xs=>let⟨_,e,_⟩:=r;exact⟨_,e⟩
 |dct kvs=>let⟨_,e,_⟩:=r;exact⟨_,e⟩
 |ins C fs=>let⟨_,_,_,_,_,e,_⟩:=r;exact⟨_,e⟩
 |exc C=>let⟨_,_,e⟩:=r;exact⟨_,e⟩
 |frz kvs=>let⟨_,_,e,_⟩:=r;exact⟨_,e⟩
 |dtp kvs=>let⟨_,e,_⟩:=r;exact⟨_,e⟩
def RO.move{o:gF.Ob}(r:RO i H a o)(k:fH H H')(e:H' a=H a):RO i H' a o:=by
 cases o with
 |lst xs=>let⟨vs,q,r⟩:=r;exact⟨vs,e.trans q,r.keep k⟩
 |dct kvs=>let⟨ps,q,r⟩:=r;exact⟨ps,e.trans q,r.keep k⟩
 |ins C fs=>let⟨c,dx,ps,h0,h,q,r⟩:=r;exact⟨c,dx,ps,h0,h,e.trans q,r.keep k⟩
 |exc C=>let⟨c,h,q⟩:=r;exact⟨c,h,e.trans q⟩
 |frz kvs=>let⟨o,ps,q,r⟩:=r;exact⟨o,ps,e.trans q,r.keep k⟩
 |dtp kvs=>let⟨ps,q,r⟩:=r;exact⟨ps,e.trans q,r.keep k⟩
abbrev RH(i:Inf)(G:gF.Hs)(H:Hp):Prop:=∀a o,G a=eZ o->RO i H a o
variable {G:gF.Hs}
def RH.free(r:RH i G H)(e:H a=fb):G a=fb:=by
 cases q:G a with
 |none=>rfl
 |some o=>let⟨u,z⟩:=(r a o q).there;rw[e]at z;cases z
def RH.put{o:gF.Ob}{u:HO}(r:RH i G H)(k:fH H<|upd H a u)(n:RO i (upd H a u) a o):RH i (gF.upd G a o)<|upd H a u:=λb p e=>by
 by_cases hb:b=a
 .subst hb;rw[gF.fh]at e;cases e;exact n
 .rw[gF.ff hb]at e;exact(r b p e).move k<|ff hb
def RH.hid(r:RH i G H)(k:fH H H')(e:∀a o,G a=eZ o->H' a=H a):RH i G H':=λb p q=>(r b p q).move k (e b p q)
structure REn(K:Frag)(H:Hp)(env:gF.Env)(σ:St):Prop where
 len:env.length=σ.length
 get:∀(i:Nat) (v:gF.Val),env[i]?=eZ (eZ v)->∃x,σ[i]?=eZ (eZ x)/\RV K H v x
variable {σ:St}
def REn.keep{env:gF.Env}(r:REn K H env σ)(k:fH H H'):REn K H' env σ:=⟨r.len,λi v e=>by
  let⟨x,h1,h2⟩:=r.get i v e
  exact⟨x,h1,h2.keep k⟩⟩
def REn.set{env:gF.Env}{v:gF.Val}{x:V}(r:REn K H env σ)(q:RV K H v x)(j:Nat):REn K H (env.set j<|eZ v)<|σ.set j<|eZ x:=⟨by simp[r.len],λi u e=>by
  by_cases hij:j=i
  . subst hij
    rw[ώ]at e
    cases z:env[j]? with
    |none=>rw[z]at e;cases e
    |some w =>
      rw[z]at e
      cases e
      have hj:j<σ.length:=by rw[<-r.len];exact(Î.mp z).1
      exact⟨x,ϓ hj,q⟩
  . rw[ĵ hij]at e
    let⟨y,h1,h2⟩:=r.get i u e
    exact⟨y,by rw[ĵ hij];exact h1,h2⟩⟩
def REn.start{vs:List gF.Val}{xs:List V}{n:Nat}(r:RVs K H vs xs):REn K H (vs.map eZ++Ø n fb)<|xs.map eZ++Ø n fb:=⟨by simp[r.length],λi v e=>by
  by_cases hi:i<vs.length
  . rw[Č ⇑hi,Ú]at e
    cases z:vs[i]? with
    |none=>rw[z]at e;cases e
    |some w =>
      rw[z]at e
      cases e
      let⟨x,h1,h2⟩:=r.get z
      exact⟨x,by rw[Č (by rw[Ã,<-r.length];exact hi),Ú,h1];rfl,h2⟩
  . rw[Ĕ ⇑hi,Ŕ]at e
    split at e<;>cases e⟩
def RVs.ints{K:Frag}{H:Hp}:∀ns:List Int,RVs K H (ns.map gF.Val.int) (ns.map V.int)
 |[]=>.nil
 |n::ns=>.cons (.int n)<|RVs.ints ns
def Yp{ns:List Int}(h:(∃o,H a=eZ (.frz o<|.lst<|ns.map V.int))\/KL K a (ns.map V.int)):gp K H a<|ns.map V.int:=by
 rcases h with⟨o,h⟩|h
 .exact .inl<|.inr ⟨o,h⟩
 .exact .inr h
variable {i:Inf}{X:Cx}{Φ:gF.Fs}
abbrev XK1(i:Inf)(H:Hp)(Em:gF.XQ):XK:=λcls _ H'=>∃c G' ad,cls=.ref ad/\i.xc c ad/\fH H H'/\RH i G' H'/\Em c G'
abbrev XOk(X:Cx)(i:Inf)(H:Hp)(Em:gF.XQ):Prop:=XW X<|XK1 i H Em
variable {H:Hp} {H1:Hp} {Em:gF.XQ}
def XK1.go{H':Hp}{cls:Â}{d:Option Ë}(k:fH H H1)(h:XK1 i H1 Em cls d H'):XK1 i H Em cls d H':=by let⟨c,G',ad,e,q,k',r,m⟩:=h;exact⟨c,G',ad,e,q,k.trans k',r,m⟩
def XOk.go(x:XOk X i H Em)(k:fH H H1):XOk X i H1 Em:=λÁ σ H0 s H' a cls s' I f e=>x Á σ H0 s H' a cls s' I f (e.go k)
structure Pre(X:Cx)(i:Inf)(σ:St)(H:Hp)(env:gF.Env)(G:gF.Hs)(Em:gF.XQ):Prop where
 en:REn i.K H env σ
 hp:RH i G H
 xo:XOk X i H Em
variable {σ:St} {G:gF.Hs}
def Pre.go{env:gF.Env}{G1:gF.Hs}(p:Pre X i σ H env G Em)(k:fH H H1)(r:RH i G1 H1):Pre X i σ H1 env G1 Em:=⟨p.en.keep k,r,p.xo.go k⟩
abbrev Cn(i:Inf)(H:Hp)(Q:VK)(Qm:gF.Q1):Prop:=∀v G' H' x,fH H H'->RH i G' H'->RV i.K H' v x->Qm v G'->Q x H'
variable {Q:VK} {Qm:gF.Q1}
def Cn.go(c:Cn i H Q Qm)(k:fH H H1):Cn i H1 Q Qm:=λv G' H' x k'=>c v G' H' x (k.trans k')
inductive tEx (X:Cx) (i:Inf) (Φ:gF.Fs) (m:gF.E) (σ:St) (H:Hp) (Q:VK):Prop
 |mk (env:gF.Env) (G:gF.Hs) (Qm:gF.Q1) (Em:gF.XQ) (p:Pre X i σ H env G Em) (w:gF.wE Φ m env G Qm Em) (c:Cn i H Q Qm)
abbrev tE(X:Cx)(i:Inf)(Φ:gF.Fs)(m:gF.E):TE:=tEx X i Φ m
inductive tArx (X:Cx) (i:Inf) (Φ:gF.Fs) (ms:gF.Es) (n:Nat) (σ:St) (H:Hp) (Q:List V->Hp->Prop):Prop
 |mk (env:gF.Env) (G:gF.Hs) (Qm:List gF.Val->gF.Hs->Prop) (Em:gF.XQ) (p:Pre X i σ H env G Em) (w:gF.wA Φ ms env G Qm Em) (c:∀vs G' H' xs,fH H H'->RH i G' H'->RVs i.K H' vs xs->xs.length=n->Qm vs G'->Q xs H')
abbrev tAr(X:Cx)(i:Inf)(Φ:gF.Fs)(ms:gF.Es)(n:Nat):TA:=tArx X i Φ ms n
inductive tTtx (X:Cx) (i:Inf) (Φ:gF.Fs) (m:gF.Tt) (σ:St) (H:Hp) (Q:Bool->Hp->Prop):Prop
 |mk (env:gF.Env) (G:gF.Hs) (Qm:Bool->gF.Hs->Prop) (Em:gF.XQ) (p:Pre X i σ H env G Em) (w:gF.wT Φ m env G Qm Em) (c:∀b G' H',fH H H'->RH i G' H'->Qm b G'->Q b H')
abbrev tTt(X:Cx)(i:Inf)(Φ:gF.Fs)(m:gF.Tt):TT:=tTtx X i Φ m
variable {e:Expr}
def _root_.L2.PE.imp{t t':TE}(h:PE X e t)(f:∀σ H Q,t' σ H Q->t σ H Q):PE X e t':=λÁ s σ H Q I q=>h Á s σ H Q I (f σ H Q q)
variable {t':TT}
def _root_.L2.PT.imp{t:TT}(h:PT X e t)(f:∀σ H Q,t' σ H Q->t σ H Q):PT X e t':=λÁ s σ H Q I q=>h Á s σ H Q I (f σ H Q q)
def _root_.L2.PW.imp{t:TT}(h:PW X e t)(f:∀σ H Q,t' σ H Q->t σ H Q):PW X e t':=λwh Á s σ H Q I q=>h wh Á s σ H Q I (f σ H Q q)
variable {es:List Expr}
def _root_.L2.PA.imp{t t':TA}(h:PA X es t)(f:∀σ H Q,t' σ H Q->t σ H Q):PA X es t':=λç Á s σ H Q I q=>h ç Á s σ H Q I (f σ H Q q)
variable {j:Nat}
def QS{env:gF.Env}{h:gF.Hs}{Q:gF.Q1}{E:gF.XQ}:(gF.wE Φ (.var j) env h Q E)=(gF.go (gF.getV env j) λv=>Q v h):=rfl
def fj{α:Type}{o:Option α}{k:α->Prop}(h:gF.go o k):∃a,o=eZ a/\k a:=by
 cases o with
 |none=>simp at h
 |some a=>exact⟨a,rfl,⇑h⟩
def BD{env:gF.Env}{v:gF.Val}(h:gF.getV env j=eZ v):env[j]?=eZ (eZ v):=by
 unfold gF.getV at h;split at h
 .rename_i u e;cases h;exact e
 .cases h
variable {ç:Pos}
def R6{x:Str}(hN:X.N[j]?=eZ x)(hv:Vis X.env.scope x)(hd:(x==("__debug__" : Str))=fe)(bB:(x==("__classdict__" : Str))=fe):PE X (.Name x ç) (tE X i Φ<|.var j) :=
 (Lz hN hv hd bB).imp λσ H Q ⟨env,G,Qm,Em,p,w,c⟩=>by rw[QS]at w;let⟨v,e,q⟩:=fj w;let⟨y,h1,h2⟩:=p.en.get j v<|BD e;exact⟨y,h1,c v G H y (fH.refl H) p.hp h2 q⟩
variable {x:V}
def W7{v:gF.Val}(h:PE X e<|tC x)(r:∀H,RV i.K H v x):PE X e (tE X i Φ<|.cst v) :=
 h.imp λσ H Q ⟨env,G,Qm,Em,p,w,c⟩=>by exact c v G H x (fH.refl H) p.hp (r H) w
def Px{y:String}{v:gF.Val}(h:PE X e<|tC x)(r:∀H,RV i.K H v x):PE X e (tE X i Φ<|.glob y v) :=
 h.imp λσ H Q ⟨env,G,Qm,Em,p,w,c⟩=>by exact c v G H x (fH.refl H) p.hp (r H) w
variable {a:gF.E}
def two{b:gF.E}{env:gF.Env}{F:gF.Val->gF.Val->gF.Hs->Prop}{R:V->V->Hp->Prop}(p:Pre X i σ H env G Em)
  (w:gF.wE Φ a env G (λv G1=>gF.wE Φ b env G1 (λu G2=>F v u G2) Em) Em)
  (h:∀v u G2 H2 x y,fH H H2->Pre X i σ H2 env G2 Em->RV i.K H2 v x->RV i.K H2 u y->F v u G2->R x y H2):tE X i Φ a σ H λx H1=>tE X i Φ b σ H1 λy H2=>R x y H2 :=
 ⟨env,G,_,Em,p,w,λv G1 H1 x k1 g1 r1 w1=>⟨env,G1,_,Em,p.go k1 g1,w1,λu G2 H2 y k2 g2 r2 w2=>h v u G2 H2 x y (k1.trans k2) ((p.go k1 g1).go k2 g2) (r1.keep k2) r2 w2⟩⟩
def one{env:gF.Env}{F:gF.Val->gF.Hs->Prop}{R:V->Hp->Prop}(p:Pre X i σ H env G Em)
  (w:gF.wE Φ a env G (λv G1=>F v G1) Em) (h:∀v G1 H1 x,fH H H1->Pre X i σ H1 env G1 Em->RV i.K H1 v x->F v G1->R x H1):tE X i Φ a σ H λx H1=>R x H1 :=
 ⟨env,G,_,Em,p,w,λv G1 H1 x k1 g1 r1 w1=>h v G1 H1 x k1 (p.go k1 g1) r1 w1⟩
abbrev JT(i:Inf)(op:gF.Bop)(r:R2):Prop:=∀(v u:gF.Val) (G:gF.Hs) (H:Hp) (x y:V) (Q:VK) (Qm:gF.Q1),RH i G H->RV i.K H v x->RV i.K H u y->(gF.binV G op v u).wp G Qm->Cn i H Q Qm->r x y H Q
variable {b:Expr} {ma:gF.E} {mb:gF.E} {r:R2}
def K3{a:Expr}{op:ϡ}{bop:gF.Bop}(ho:OpR X (Œ op) r)(hr:JT i bop r)(ha:PE X a<|tE X i Φ ma)(hb:PE X b<|tE X i Φ mb):PE X (.BinOp a op b ç) (tE X i Φ<|.bin bop ma mb) :=
 (RQ ho ha hb).imp λσ H Q ⟨env,G,Qm,Em,p,w,c⟩=>by exact two p w λv u G2 H2 x y k2 p2 rx ry q=>hr v u G2 H2 x y Q Qm p2.hp rx ry q<|c.go k2
abbrev Yr(i:Inf)(op:gF.Cop)(r:R2):Prop:=∀(v u:gF.Val) (G:gF.Hs) (H:Hp) (x y:V) (c:Bool) (Q:VK),RH i G H->RV i.K H v x->RV i.K H u y->gF.fB G op v u=eZ c->Q (.bl c) H->r x y H Q
variable {op:cG} {cop:gF.Cop}
def Sa{a:Expr}(ho:OpR X (ì op) r)(hr:Yr i cop r)(ha:PE X a<|tE X i Φ ma)(hb:PE X b<|tE X i Φ mb)(hm:Ņ op b=fe):PE X (.Compare a [op] [b] ç) (tE X i Φ<|.cmp cop ma mb) :=
 (U7 ho ha hb hm).imp λσ H Q ⟨env,G,Qm,Em,p,w,c⟩=>by
  exact two p w λv u G2 H2 x y k2 p2 rx ry q=>by let⟨d,e,q⟩:=fj q;exact hr v u G2 H2 x y d Q p2.hp rx ry e<|c (.bl d) G2 H2 (.bl d) k2 p2.hp (.bl d) q
def Ir{a:Expr}(ho:OpR X (ì op) r)(hr:Yr i cop r)(ha:PE X a<|tE X i Φ ma)(hb:PE X b<|tE X i Φ mb)(hm:Ņ op b=fe):PT X (.Compare a [op] [b] ç) (tTt X i Φ<|.val<|.cmp cop ma mb) :=
 (Ak ho ha hb hm).imp λσ H Q ⟨env,G,Qm,Em,p,w,c⟩=>by
  exact two p w λv u G2 H2 x y k2 p2 rx ry q=>by let⟨d,e,q⟩:=fj q;let⟨d',e',q⟩:=fj q;cases e';exact hr v u G2 H2 x y d _ p2.hp rx ry e ⟨d,rfl,c d G2 H2 k2 p2.hp q⟩
def WI{v:gF.Val}{b:Bool}(h:gF.gC v=eZ b):v=.bl b:=by cases v<;>simp_all [gF.gC]
def ZU{v:gF.Val}{b:Int}(h:gF.gB v=eZ b):v=.int b:=by cases v<;>simp_all [gF.gB]
def Jy{v:gF.Val}{b:gF.Ad}(h:gF.fQ v=eZ b):v=.ref b:=by cases v<;>simp_all [gF.fQ]
def RV.bl_inv{K:Frag}{b:Bool}(r:RV K H (.bl b) x):x=.bl b:=by cases r;rfl
def RV.int_inv{K:Frag}{b:Int}(r:RV K H (.int b) x):x=.int b:=by cases r;rfl
def RV.ref_inv{K:Frag}{b:Ë}(r:RV K H (.ref b) x):x=.ref b:=by cases r;rfl
def RV.str_inv{K:Frag}{b:String}(r:RV K H (.str b) x):x=.str (gO b):=by cases r;rfl
def RV.non_inv{K:Frag}(r:RV K H .non x):x=.non:=by cases r;rfl
def Qk{a:Expr}(ha:PE X a<|tE X i Φ ma):PE X (.UnaryOp .Not a ç) (tE X i Φ<|.not ma) :=
 (Lu ha).imp λσ H Q ⟨env,G,Qm,Em,p,w,c⟩=>by
  exact one p w λv G1 H1 x k1 p1 r q=>by let⟨b,e,q2⟩:=fj q;clear q;cases WI e;exact⟨b,r.bl_inv,c _ G1 H1 _ k1 p1.hp (.bl _) q2⟩
def Rx{a:Expr}(ha:PE X a<|tE X i Φ ma):PE X (.UnaryOp .USub a ç) (tE X i Φ<|.neg ma) :=
 (Rq IR ha).imp λσ H Q ⟨env,G,Qm,Em,p,w,c⟩=>by
  exact one p w λv G1 H1 x k1 p1 r q=>by let⟨b,e,q2⟩:=fj q;clear q;cases ZU e;exact⟨b,r.int_inv,c _ G1 H1 _ k1 p1.hp (.int _) q2⟩
def RG{a:Expr}{rest:List Expr}(ha:PE X a<|tE X i Φ ma)(hb:PE X (.BoolOp .And (b::rest) ç)<|tE X i Φ mb):PE X (.BoolOp .And (a::b::rest) ç) (tE X i Φ<|.and ma mb) :=
 (Pf ha hb).imp λσ H Q ⟨env,G,Qm,Em,p,w,c⟩=>by
  exact one p w λv G1 H1 x k1 p1 r q=>by
   let⟨d,e,q2⟩:=fj q;clear q;cases WI e;refine⟨d,r.bl_inv,?_⟩;cases d with
   |true=>exact⟨env,G1,Qm,Em,p1,⇑q2,c.go k1⟩
   |false=>simp at q2 ⊢;exact c _ G1 H1 _ k1 p1.hp (.bl _) q2
def Sr{a:Expr}{rest:List Expr}(ha:PE X a<|tE X i Φ ma)(hb:PE X (.BoolOp .Or (b::rest) ç)<|tE X i Φ mb):PE X (.BoolOp .Or (a::b::rest) ç) (tE X i Φ<|.or ma mb) :=
 (Qe ha hb).imp λσ H Q ⟨env,G,Qm,Em,p,w,c⟩=>by
  exact one p w λv G1 H1 x k1 p1 r q=>by
   let⟨d,e,q2⟩:=fj q;clear q;cases WI e;refine⟨d,r.bl_inv,?_⟩;cases d with
   |false=>exact⟨env,G1,Qm,Em,p1,⇑q2,c.go k1⟩
   |true=>simp at q2 ⊢;exact c _ G1 H1 _ k1 p1.hp (.bl _) q2
def Iv{a:Expr}{ma:gF.Tt}(ha:PT X a<|tTt X i Φ ma):PT X (.UnaryOp .Not a ç) (tTt X i Φ<|.not ma) :=
 (LA ha).imp λσ H Q ⟨env,G,Qm,Em,p,w,c⟩=>by exact⟨env,G,_,Em,p,w,λb G1 H1 k1 g1 q=>c (!b) G1 H1 k1 g1 q⟩
def L3{a:Expr}{rest:List Expr}{ma mb:gF.Tt}(ha:PT X a<|tTt X i Φ ma)(hb:PW X (.BoolOp .And (b::rest) ç)<|tTt X i Φ mb):PW X (.BoolOp .And (a::b::rest) ç) (tTt X i Φ<|.and ma mb) :=
 (Po ha hb).imp λσ H Q ⟨env,G,Qm,Em,p,w,c⟩=>by
  refine⟨env,G,_,Em,p,w,λd G1 H1 k1 g1 q=>?_⟩;cases d with
  |true=>exact⟨env,G1,Qm,Em,p.go k1 g1,⇑q,λb G2 H2 k2=>c b G2 H2<|k1.trans k2⟩
  |false=>simp at q ⊢;exact c fe G1 H1 k1 g1 q
def Q4{a:Expr}{rest:List Expr}{ma mb:gF.Tt}(ha:PT X a<|tTt X i Φ ma)(hb:PW X (.BoolOp .Or (b::rest) ç)<|tTt X i Φ mb):PW X (.BoolOp .Or (a::b::rest) ç) (tTt X i Φ<|.or ma mb) :=
 (Q2 ha hb).imp λσ H Q ⟨env,G,Qm,Em,p,w,c⟩=>by
  refine⟨env,G,_,Em,p,w,λd G1 H1 k1 g1 q=>?_⟩;cases d with
  |false=>exact⟨env,G1,Qm,Em,p.go k1 g1,⇑q,λb G2 H2 k2=>c b G2 H2<|k1.trans k2⟩
  |true=>simp at q ⊢;exact c fc G1 H1 k1 g1 q
def FP{a:Expr}{ma:gF.Tt}(ha:PT X a<|tTt X i Φ ma):PW X (.BoolOp .And [a] ç)<|tTt X i Φ ma:=FO ha
def Lw{a:Expr}{ma:gF.Tt}(ha:PT X a<|tTt X i Φ ma):PW X (.BoolOp .Or [a] ç)<|tTt X i Φ ma:=Pc ha
def QL{c a:Expr}{mc:gF.Tt}(hc:PT X c<|tTt X i Φ mc)(ha:PE X a<|tE X i Φ ma)(hb:PE X b<|tE X i Φ mb):PE X (.IfExp c a b ç) (tE X i Φ<|.ife mc ma mb) :=
 (BQ hc ha hb).imp λσ H Q ⟨env,G,Qm,Em,p,w,c⟩=>by
  refine⟨env,G,_,Em,p,w,λd G1 H1 k1 g1 q=>?_⟩;cases d with
  |true=>exact⟨env,G1,Qm,Em,p.go k1 g1,⇑q,c.go k1⟩
  |false=>exact⟨env,G1,Qm,Em,p.go k1 g1,⇑q,c.go k1⟩
def Ic:PA X []<|tAr X i Φ .nil 0:=gk.imp λσ H Q ⟨env,G,Qm,Em,p,w,c⟩=>by exact c [] G H [] (fH.refl H) p.hp .nil rfl w
def E9{m:gF.E}{ms:gF.Es}{n:Nat}(he:PE X e<|tE X i Φ m)(hes:PA X es<|tAr X i Φ ms n)(hs:Ï (e::es) X.env=(fe,eval e X.env)::Ï es X.env):PA X (e::es) (tAr X i Φ (.cons m ms)<|n+1) :=
 (ZA he hes hs).imp λσ H Q ⟨env,G,Qm,Em,p,w,c⟩=>by exact⟨env,G,_,Em,p,w,λv G1 H1 x k1 g1 r1 w1=>⟨env,G1,_,Em,p.go k1 g1,w1,λvs G2 H2 xs k2 g2 r2 hn w2=>c (v::vs) G2 H2 (x::xs) (k1.trans k2) g2 (.cons (r1.keep k2) r2) (by rw[Ì,hn]) w2⟩⟩
def ZM:gF.lim<=Ö:=by decide
def Yz{o:gF.Ob}{u:HO}(g:RH i G H)(w:gF.new G o Qm)(c:Cn i H Q Qm)(r:∀p,H p=fb->RO i (upd H p u) p o):∀p,H p=fb->Q (.ref p) (upd H p u):=λp hp=>by unfold gF.new at w;exact c (.ref p) _ _ (.ref p) (fH.new hp) (g.put (fH.new hp)<|r p hp) (.ref p) (w p<|g.free hp)
end Snd
namespace HT2
open PySem PySem.Spec PyProof.Rows L2
abbrev Ym:List Int->List Int->Bool
 |[],[]=>fe
 |[],_::_=>fe
 |_::_,[]=>fc
 |x::xs,y::ys=>if x=y then Ym xs ys else gN (x > y)
def DP(A:ĉ)(s:Ä)(a:Int)(t:Tok)(c:Int)(u:Tok)(prog:ä)(w:ö)(E:Â->Ä->Prop)(Q:Â->Ä->Prop)(h:Q (.bool<|gN (a > c)) s) :
  wpAny (Õ prog w) A (richCompare .Gt (.int a t)<|.int c u) Q E s :=
 (PyProof.Rows.gt_int h:wpAny (Õ prog w) A (ì .Gt (.int a t)<|.int c u) Q E s)
section
open PySem.SeqAt
open PySem.AutoSeq1 (wpAny_loadPart')
open PySem.MeetsSeq PySem.MeetsSeq2 PySem.MeetsSeq3
def Ks(l b:Ë)(items ŉ:Array Â)(n n2:Nat)(dd dm:Option Ë)(sl ee:Array<|Option Â)(ns ms:List Int)(hi:Ā items.toList ns)(hj:Ā ŉ.toList ms) :
  Meets (Builtin.«tuple.__gt__» ⟨[.ref l,.ref b],[]⟩)
   (λ_ R s=>s.heap.get? l=eZ { cls:=.type "tuple",dict:=dd,data:=.seq items n,slots:=sl }/\s.heap.get? b=eZ { cls:=.type "tuple",dict:=dm,data:=.seq ŉ n2,slots:=ee }/\
     R (.ok<|.ret<|.bool<|Ym ns ms) s) :=
 .of_wp λprog w A R s h=>by
  let⟨hp,g,d,tk,os⟩:=s;let⟨hl,hb,h⟩:=h;have f2:=AutoSeq1.sub_tuple_tuple;have z1:items.size=ns.length:=by rw[<-hi.length];simp
  have z2:ŉ.size=ms.length:=by rw[<-hj.length];simp
  wp_walk using Ĝ hl,Ĝ hb,wpAny_forIn_list _ (λrest b s'=>b.1=fb/\s'=⟨hp,g,d,tk,os⟩/\∃(vs ws:List Â) (cC dG:List Int),rest=vs.zip ws/\
    Ā vs cC/\Ā ws dG/\cC.length+ŉ.size=dG.length+items.size/\R (.ok<|.ret<|.bool<|Ym cC dG) ⟨hp,g,d,tk,os⟩) _
  case turn =>
   rintro⟨y,x⟩ rest b s' ⟨bO,rfl,vs,ws,cC,dG,hz,hvi,hwi,hlen,hR⟩;cases hvi with
   |nil=>rw[Χ]at hz;cases hz
   |cons a t hvi' =>
    cases hwi with
    |nil=>rw[Ζ]at hz;cases hz
    |cons c u hwi' =>
     rw[Ŗ]at hz;injection hz with hyx hrest;injection hyx with hy hx;subst hy hx;rw[Ym]at hR;simp only[Ì]at hlen;let⟨e,he,hiff⟩:=HT.eqAt_int A.in1 ⟨hp,g,d,tk,os⟩ a t c u;refine À<|he prog w _ _ ?_;cases e with
     |true =>
      rw[gG<|hiff.mp rfl]at hR
      wp_walk
      exact⟨rfl,rfl,_,_,_,_,hrest,hvi',hwi',by lia,hR⟩
     |false =>
      rw[gH λq=>gM (hiff.mpr q) ā]at hR;have hri:=DP A.in1 ⟨hp,g,d,tk,os⟩ a t c u prog w
      wp_walk using hri
      exact⟨_,rfl,⇑hR⟩
  case fin =>
   rintro⟨b1,b2⟩ s' ⟨bO,rfl,vs,ws,cC,dG,hz,hvi,hwi,hlen,hR⟩;simp only at bO;subst bO;have hv:Ym cC dG=gN (items.size > ŉ.size):=by
    cases hvi with
    |nil =>
     cases hwi with
     |nil =>simp only[Ĩ]at hlen;rw[Ym];exact(gJ<|by lia).symm
     |cons c u hw =>simp only[Ĩ,Ì]at hlen;rw[Ym];exact(gJ<|by lia).symm
    |cons a t hv =>
     cases hwi with
     |nil =>simp only[Ĩ,Ì]at hlen;rw[Ym];exact(gK<|by lia).symm
     |cons c u hw =>rw[Ŗ]at hz;cases hz
   rw[hv]at hR
   wp_walk
   exact⟨_,rfl,by simpa[Builtin.Tuple.tupleCompareSizes]using hR⟩
  case h =>exact⟨rfl,rfl,items.toList,ŉ.toList,ns,ms,rfl,hi,hj,by lia,h⟩
end
def OH{prog:ä}{w:ö}{A:ĉ}{E:Â->Ä->Prop}{s:Ä}{l b:Ë}{items ŉ:Array Â}{ns ms:List Int}{Q:Â->Ä->Prop}(hl:a8 s.heap l items)(hb:a8 s.heap b ŉ)(hi:Ā items.toList ns)(hj:Ā ŉ.toList ms)
  (hu:A.units<Ķ) (h:Q (.bool<|Ym ns ms) s):wpAny (Õ prog w) A (ì .Gt (.ref l)<|.ref b) Q E s:=by
 let⟨⟨cls,dd,data,sl⟩,ho,hc,n,hd⟩:=id hl;let⟨⟨cls2,dm,data2,ee⟩,ho2,hc2,n2,bC⟩:=id hb;simp only at hc hd hc2 bC;subst hc hd hc2 bC;exact eF (op:=.Gt) ⟨_,ho,rfl⟩ ⟨_,ho2,rfl⟩ PySem.F.slot_tuple_gt PySem.F.entry_tuple_gt (PySem.F.args_tuple_gt_2 _ _) (Ks l b items ŉ n n2 dd dm sl ee ns ms hi hj)
  ⟨ho,ho2,show Value.bool (Ym ns ms)≠cH/\Q (.bool<|Ym ns ms) s from ⟨(λx=>nomatch x),h⟩⟩ hu
abbrev rGtT(K:Frag):R2:=λx y H Q=>∃a b ns ms,x=.ref a/\y=.ref b/\gq K H a (ns.map V.int)/\gq K H b (ms.map V.int)/\Q (.bl<|Ym ns ms) H
def op_gtT{X:Cx}(hu:X.A.units<Ķ):OpR X (ì .Gt)<|rGtT X.K:=by intro Á s σ H x y v u Q I rx ry h;let⟨a,b,ns,ms,rfl,rfl,ha,hb,q⟩:=h;cases rx;cases ry;let⟨ô,r1,p1,_⟩:=I.tuple ha;let⟨bP,r2,p2,_⟩:=I.tuple hb;have i1:Ā ô.toArray.toList ns:=ZI r1;have i2:Ā bP.toArray.toList ms:=ZI r2;exact OH p1 p2 i1 i2 hu ⟨.bl<|Ym ns ms,H,I,rfl,q⟩
def lexGt_lt:∀(ns ms:List Int),Ym ns ms=HT.lexLt ms ns
 |[],[]=>rfl
 |[],_::_=>rfl
 |_::_,[]=>rfl
 |x::xs,y::ys=>by
  rw[Ym,HT.lexLt_cons,lexGt_lt xs ys];by_cases e:x=y
  .rw[gG e,gG e.symm]
  .rw[gH e,gH λz=>e z.symm]
end HT2
namespace Snd
open PySem L2
mutual
noncomputable def toD:gF.D->ah
 |.non=>.none
 |.bl b=>.bool b
 |.int i=>.int i
 |.str s=>.str<|gO s
 |.tup ds=>.tuple<|toDs ds
 |.lst ds=>.list<|toDs ds
noncomputable def toDs:List gF.D->List ah
 |[]=>[]
 |d::ds=>toD d::toDs ds
end
def ofS_inj{s t:String}:gO s=gO t↔s=t:=by
 constructor
 .intro h;rw[Str.ofString_eq_toList,Str.ofString_eq_toList]at h;injection h with h;have h2:s.toList.map Ų=t.toList.map Ų:=by simpa using congrArg b8 h
  have inj:∀{a b:Char},a.toNat=b.toNat->a=b:=λ{a b} e=>Char.ext<|bW e;have:s.toList=t.toList:=by
   revert h2;generalize s.toList=a;generalize t.toList=b;intro h2;induction a generalizing b with
   |nil=>cases b with
    |nil=>rfl
    |cons _ _=>cases h2
   |cons x xs ih=>cases b with
    |nil=>cases h2
    |cons y ys =>simp only[É,List.cons.injEq]at h2;rw[inj h2.1,ih _ h2.2]
  exact String.toList_inj.mp this
 .rintro rfl;rfl
def E7(s t:String):(gO s==gO t)=(s==t):=by
 by_cases e:s=t
 .subst e;simp
 .have:gO s≠gO t:=λz=>e<|ofS_inj.mp z;rw[beq_eq_false_iff_ne.mpr this,beq_eq_false_iff_ne.mpr e]
def BA(s:String):PyData.strOk (gO s)=fc:=by
 rw[Str.ofString_eq_toList];unfold PyData.strOk;rw[Array.all_eq_true'];intro n hn;have:n∈s.toList.map Ų:=⇑hn
 let⟨c,_,rfl⟩:=Û.mp this;have:=c.valid;have h2:c.toNat=c.val.toNat:=rfl;simp only[UInt32.isValidChar,Nat.isValidChar]at this;simp only[gL];lia
mutual
theorem Nc:∀d e:gF.D,Ĭ (toD d) (toD e)=gF.D.eqv d e
 |.non,e=>by cases e<;>simp[toD,Ĭ,gF.D.eqv]
 |.bl _,e=>by cases e<;>simp[toD,Ĭ,gF.D.eqv]
 |.int _,e=>by cases e<;>simp[toD,Ĭ,gF.D.eqv]
 |.str s,e=>by cases e<;>simp only[toD,Ĭ,gF.D.eqv];exact E7 _ _
 |.tup ds,e=>by cases e<;>simp only[toD,Ĭ,gF.D.eqv];exact toDs_eqv _ _
 |.lst ds,e=>by cases e<;>simp only[toD,Ĭ,gF.D.eqv];exact toDs_eqv _ _
theorem toDs_eqv:∀ds es:List gF.D,Τ (toDs ds) (toDs es)=gF.D.eqvs ds es
 |[],[]=>by simp[toDs,Τ,gF.D.eqvs]
 |[],_::_=>by simp[toDs,Τ,gF.D.eqvs]
 |_::_,[]=>by simp[toDs,Τ,gF.D.eqvs]
 |d::ds,e::es=>by simp only[toDs,Τ,gF.D.eqvs,Nc d e,toDs_eqv ds es]
end
mutual
theorem Mm:∀d:gF.D,(toD d).canLay0=fc
 |.non=>by simp[toD,ŵ]
 |.bl _=>by simp[toD,ŵ]
 |.int _=>by simp[toD,ŵ]
 |.str s=>by simp only[toD,ŵ];exact BA s
 |.tup ds=>by simp only[toD,ŵ];exact toDs_lay ds
 |.lst ds=>by simp only[toD,ŵ];exact toDs_lay ds
theorem toDs_lay:∀ds:List gF.D,ř (toDs ds)=fc
 |[]=>by simp[toDs,ř]
 |d::ds=>by simp only[toDs,ř,Mm d,toDs_lay ds,Bool.and_self]
end
section
variable {i:Inf}{G:gF.Hs}{H:Hp}
def Bl{α β:Type}{f:α->Option β}:∀{xs:List α}{ys:List β},xs.mapM f=eZ ys->List.length xs=ys.length/\∀(n:Nat) (x:α),xs[n]?=eZ x->∃y,ys[n]?=eZ y/\f x=eZ y:=by
 intro xs;induction xs with
 |nil=>intro ys h;simp at h;subst h;exact⟨rfl,λn x e=>by simp at e⟩
 |cons a as ih =>
  intro ys h;rw[Ĉ]at h;cases e:f a with
  |none=>rw[e]at h;simp at h
  |some b =>
   rw[e]at h;cases e2:as.mapM f with
   |none=>rw[e2]at h;simp at h
   |some bs =>
    rw[e2]at h;simp at h;subst h;let⟨h1,h2⟩:=ih e2;refine⟨by simp[h1],λn x hn=>?_⟩;cases n with
    |zero=>simp at hn;subst hn;exact⟨b,rfl,e⟩
    |succ n=>simp at hn ⊢;exact h2 n x hn
def Aj{K:Frag}{f:gF.Val->Option gF.D}(hf:∀v d x,f v=eZ d->RV K H v x->IsD K H x (toD d)):∀{vs:List gF.Val}{xs:List V}{ds:List gF.D},vs.mapM f=eZ ds->RVs K H vs xs->IsDs K H xs (toDs ds):=by
 intro vs;induction vs with
 |nil=>intro xs ds h r;simp at h;subst h;cases r;exact .nil
 |cons a as ih =>
  intro xs ds h r;rw[Ĉ]at h;cases e:f a with
  |none=>rw[e]at h;simp at h
  |some b =>
   rw[e]at h;cases e2:as.mapM f with
   |none=>rw[e2]at h;simp at h
   |some bs =>
    rw[e2]at h;simp at h;subst h;cases r with
    |cons r1 r2=>exact .cons (hf a b _ e r1)<|ih e2 r2
def Z1(g:RH i G H){a:Ë}{xs:List gF.Val}(e:gF.fx (G a)=eZ xs):∃vs,gp i.K H a vs/\RVs i.K H xs vs:=by
 cases q:G a with
 |none=>rw[q]at e;cases e
 |some o =>
  rw[q]at e;cases o with
  |lst ys=>cases e;let⟨vs,h,r⟩:=g a _ q;exact⟨vs,gp.of h,r⟩
  |dct _=>cases e
  |ins _ _=>cases e
  |exc _=>cases e
  |frz _=>cases e
  |dtp _=>cases e
def KS:∀ns:List Int,toDs (ns.map gF.D.int)=ns.map PyData.int
 |[]=>by simp[toDs]
 |n::ns=>by simp only[É,toDs,toD,KS ns]
def Wt(g:RH i G H):∀(n:Nat) (v:gF.Val) (d:gF.D) (x:V),gF.dat G n v=eZ d->RV i.K H v x->IsD i.K H x (toD d):=by
 intro n;induction n with
 |zero =>
  intro v d x e r;cases v with
  |non=>cases r;simp[gF.dat]at e;subst e;rw[toD];exact .non
  |bl b=>cases r;simp[gF.dat]at e;subst e;rw[toD];exact .bl b
  |int b=>cases r;simp[gF.dat]at e;subst e;rw[toD];exact .int b
  |str s=>cases r;simp[gF.dat]at e;subst e;rw[toD];exact .str _
  |tup xs=>simp[gF.dat]at e
  |ref a=>simp[gF.dat]at e
  |scr ns=>simp[gF.dat]at e
  |key _ _=>simp[gF.dat]at e
 |succ n ih =>
  intro v d x e r;cases v with
  |non=>cases r;simp[gF.dat]at e;subst e;rw[toD];exact .non
  |bl b=>cases r;simp[gF.dat]at e;subst e;rw[toD];exact .bl b
  |int b=>cases r;simp[gF.dat]at e;subst e;rw[toD];exact .int b
  |str s=>cases r;simp[gF.dat]at e;subst e;rw[toD];exact .str _
  |tup xs =>
   rw[gF.dat]at e;cases z:xs.mapM (gF.dat G n)with
   |none=>rw[z]at e;cases e
   |some ds =>
    rw[z]at e;cases e;cases r with
    |tup hp hr=>rw[toD];exact .tup (Zk hp)<|Aj ih z hr
  |ref a =>
   rw[gF.dat]at e;cases q:gF.fx (G a)with
   |none=>rw[q]at e;cases e
   |some xs =>
    rw[q]at e;simp only[ð]at e;cases z:xs.mapM (gF.dat G n)with
    |none=>rw[z]at e;cases e
    |some ds =>rw[z]at e;cases e;cases r.ref_inv;let⟨vs,h1,h2⟩:=Z1 g q;rw[toD];exact .lst h1<|Aj ih z h2
  |scr ns =>
   simp[gF.dat]at e;subst e;cases r with
   |scr h =>rw[toD,KS];exact .lst (Yp h)<|IsDs.ints ns
  |key _ _=>simp[gF.dat]at e
def XT{n:Nat}:∀{ds:List gF.D},(∀d∈ds,(toD d).depth<=n)->ņ (toDs ds)<=n
 |[],_=>by rw[toDs];simp[ņ]
 |d::ds,h=>by rw[toDs];simp only[ņ];exact Nat.max_le.mpr ⟨h d (by simp),XT λe he=>h e<|by simp[he]⟩
def KG:∀(n:Nat) (v:gF.Val) (d:gF.D),gF.dat G n v=eZ d->(toD d).depth<=n:=by
 have sc:∀(n:Nat) (v:gF.Val) (d:gF.D),(∀xs,v≠.tup xs)->(∀a,v≠.ref a)->(∀ns,v≠.scr ns)->gF.dat G n v=eZ d->(toD d).depth<=n:=by
  intro n v d h1 h2 h3 e;cases v with
  |tup xs=>exact gM rfl<|h1 xs
  |ref a=>exact gM rfl<|h2 a
  |scr ns=>exact gM rfl<|h3 ns
  |key _ _=>cases n<;>simp[gF.dat]at e
  |_=>simp[gF.dat]at e;subst e;simp[toD,PyData.depth]
 have ms:∀(n:Nat),(∀v d,gF.dat G n v=eZ d->(toD d).depth<=n)->∀(xs:List gF.Val) (ds:List gF.D),xs.mapM (gF.dat G n)=eZ ds->ņ (toDs ds)<=n:=by
  intro n ih xs ds z;refine XT λd hd=>?_;let⟨k,hk⟩:=cO.mp hd;let⟨h1,h2⟩:=Bl z;have ϵ:k<xs.length:=by rw[h1];exact(Î.mp hk).1
  let⟨y,hy,hf⟩:=h2 k xs[k]<|È ϵ;rw[hk]at hy;cases hy;exact ih _ _ hf
 intro n;induction n with
 |zero =>
  intro v d e;cases v with
  |tup xs=>simp[gF.dat]at e
  |ref a=>simp[gF.dat]at e
  |scr ns=>simp[gF.dat]at e
  |_=>exact sc 0 _ d (by simp) (by simp) (by simp) e
 |succ n ih =>
  intro v d e;cases v with
  |tup xs =>
   rw[gF.dat]at e;cases z:xs.mapM (gF.dat G n)with
   |none=>rw[z]at e;cases e
   |some ds =>rw[z]at e;cases e;rw[toD];exact ϐ<|ms n ih xs ds z
  |ref a =>
   rw[gF.dat]at e;cases q:gF.fx (G a)with
   |none=>rw[q]at e;cases e
   |some xs =>
    rw[q]at e;simp only[ð]at e;cases z:xs.mapM (gF.dat G n)with
    |none=>rw[z]at e;cases e
    |some ds =>rw[z]at e;cases e;rw[toD];exact ϐ<|ms n ih xs ds z
  |scr ns =>simp[gF.dat]at e;subst e;rw[toD];refine ϐ<|Ý ?_<|Ŀ n;refine XT λd hd=>?_;let⟨m,_,rfl⟩:=Û.mp hd;simp[toD,PyData.depth]
  |_=>exact sc (n+1) _ d (by simp) (by simp) (by simp) e
def JH{v:gF.Val}{d:gF.D}(e:gF.dat G gF.deep v=eZ d):SeqAt.shaped (toD d)=fc:=by show((toD d).canLay0&&gN ((toD d).depth<=64))=fc;rw[Mm,gK<|Ý (KG _ _ _ e)<|by decide];rfl
def UE(g:RH i G H){v u:gF.Val}{x y:V}{c:Bool}(rx:RV i.K H v x)(ry:RV i.K H u y)(e:gF.eqV G v u=eZ c):∃d d',IsD i.K H x d/\IsD i.K H y d'/\SeqAt.shaped d=fc/\SeqAt.shaped d'=fc/\Ĭ d d'=c:=by
 unfold gF.eqV at e;cases z:gF.dat G gF.deep v with
 |none=>rw[z]at e;cases e
 |some d =>
  cases z2:gF.dat G gF.deep u with
  |none=>rw[z,z2]at e;cases e
  |some d' =>rw[z,z2]at e;cases e;exact⟨_,_,Wt g _ _ _ _ z rx,Wt g _ _ _ _ z2 ry,JH z,JH z2,Nc d d'⟩
def SK:Yr i .eq<|RK i.K:=by intro v u G H x y c Q g rx ry e q;let⟨d,d',h1,h2,h3,h4,h5⟩:=UE g rx ry e;exact⟨d,d',h1,h2,h3,h4,by rw[h5];exact q⟩
def So:Yr i .ne<|R9 i.K:=by
 intro v u G H x y c Q g rx ry e q;have e:(gF.eqV G v u).map (!·)=eZ c:=e;cases z:gF.eqV G v u with
 |none=>rw[z]at e;cases e
 |some b =>rw[z]at e;cases e;let⟨d,d',h1,h2,h3,h4,h5⟩:=UE g rx ry z;exact⟨d,d',h1,h2,h3,h4,by rw[h5];exact q⟩
end
variable {i:Inf}{X:Cx}{Φ:gF.Fs}
def ZB(s:String):(gO s).length=s.length:=by rw[Str.ofString_eq_toList];show(List.map Ų s.toList).toArray.size=_;rw[Ð,Ã];first|rfl|exact cq
def MY(s t:String):gO (s++t)=gO s++gO t:=by rw[Str.ofString_eq_toList,Str.ofString_eq_toList,Str.ofString_eq_toList];show _=Str.append _ _;unfold Str.append;simp
variable {xs:List gF.Val}
def AJ{o:Option gF.Ob}(h:gF.fx o=eZ xs):o=eZ (.lst xs):=by
 cases o with
 |none=>cases h
 |some o=>cases o with
  |lst ys=>cases h;rfl
  |_=>cases h
variable {p:Prop}
def Zq{α:Type}[Decidable p]{o:Option α}{a:α}(e:(if p then o else fb)=eZ a):p/\o=eZ a:=by
 by_cases q:p
 .rw[gG q]at e;exact⟨q,e⟩
 .rw[gH q]at e;cases e
variable {h:gF.Hs} {Q:gF.Q1}
def Zh(w:gF.Rs.no.wp h Q):False:=by rw[gF.Rs.wp_no]at w;exact w
def Zr{v:gF.Val}(w:(gF.Rs.val v).wp h Q):Q v h:=by rw[gF.Rs.wp_val]at w;exact w
def ML{o:gF.Ob}(w:(gF.Rs.new o).wp h Q):gF.new h o Q:=by rw[gF.Rs.wp_new]at w;exact w
def Wu[Decidable p]{r:gF.Rs}(w:(if p then r else .no).wp h Q):p/\r.wp h Q:=by
 by_cases e:p
 .rw[gG e]at w;exact⟨e,w⟩
 .rw[gH e]at w;exact(Zh w).elim
variable {u:gF.Val}
def Wc{f:Int->Int->gF.Rs}{v:gF.Val}(w:(gF.intV f v u).wp h Q):∃i j,v=.int i/\u=.int j/\(f i j).wp h Q:=by
 cases v with
 |int i=>cases u with
  |int j=>exact⟨i,j,rfl,rfl,w⟩
  |_=>exact(Zh w).elim
 |_=>exact(Zh w).elim
abbrev Ia(K:Frag):R2:=λx y H Q=>(rI0 λi j=>.int<|i+j) x y H Q\/(((Hz K x y H Q\/HR K x y H Q)\/Ru x y H Q)\/∃i j,x=.str i/\y=.str j/\i.length+j.length<=Ö/\Q (.str<|i++j) H)
def R1:OpR X (Œ .Add)<|Ia X.K:=op_add.or (((op_cat0.or Gc).or Pj).or OR)
def b_add:JT i .add<|Ia i.K:=by
 intro v u G H x y Q Qm g rx ry w c;cases v<;>cases u<;>first|exact(Zh w).elim|skip
 case int.int a b =>
  replace w:=Zr w
  exact .inl ⟨a,b,rx.int_inv,ry.int_inv,c _ G H _ (fH.refl H) g (.int _) w⟩
 case str.str a b =>
  let⟨h,w⟩:=Wu w
  replace w:=Zr w
  refine .inr<|.inr ⟨_,_,rx.str_inv,ry.str_inv,?_,?_⟩
  .rw[ZB,ZB];exact Ý h ZM
  .rw[<-MY];exact c _ G H _ (fH.refl H) g (.str _) w
 case tup.tup xs ys =>
  let⟨h,w⟩:=Wu w
  replace w:=Zr w
  .skip
   cases rx with
   |@tup _ p vs hp hr =>
   cases ry with
   |@tup _ q us hq hs =>
   by_cases h0:vs=[]
   .subst h0;have:xs=[]:=aM hr.length;subst this;exact .inr<|.inl<|.inl<|.inl ⟨p,q,us,rfl,rfl,Zk hp,Zk hq,c _ G H _ (fH.refl H) g (.tup hq hs) w⟩
   refine .inr<|.inl<|.inl<|.inr ⟨p,q,vs,us,rfl,rfl,Zk hp,Zk hq,h0,?_,λz=>?_,λz a ha=>?_⟩
   .rw[<-hr.length,<-hs.length];exact Ý h ZM
   .have:ys=[]:=aM (by rw[hs.length,z];rfl);subst this;rw[ò]at w;exact c _ G H _ (fH.refl H) g (.tup hp hr) w
   .have k:=fH.new (o:=.tup<|vs++us) ha;refine c _ G _ _ k (g.hid k λb o e=>ff ?_) (.tup (.inl fh)<|(hr.keep k).append<|hs.keep k) w;rintro rfl;rw[g.free ha]at e;cases e
 case ref.ref a b =>
  dsimp only[gF.binV,gF.addV]at w;split at w
  .rename_i xs ys e1 e2;unfold gF.Rs.lst at w;split at w
   .rename_i hl;rw[gF.Rs.wp_new]at w;cases rx.ref_inv;cases ry.ref_inv;let⟨vs,h1,r1⟩:=g a _ e1;let⟨us,h2,r2⟩:=g b _ e2;refine .inr (.inl<|.inr ⟨a,b,vs,us,rfl,rfl,h1,h2,?_,Yz g w c λp hp=>?_⟩)
    .rw[<-r1.length,<-r2.length,<-è];exact Ý hl ZM
    .have k:=fH.new (o:=.lst<|vs++us) hp;exact⟨_,fh,(r1.keep k).append<|r2.keep k⟩
   .exact(Zh w).elim
  .exact(Zh w).elim
def b_sub:JT i .sub<|rI0 λi j=>.int<|i - j:=by intro v u G H x y Q Qm g rx ry w c;let⟨a,b,rfl,rfl,w⟩:=Wc w;exact⟨a,b,rx.int_inv,ry.int_inv,c _ G H _ (fH.refl H) g (.int _)<|Zr w⟩
def RVs.rep{K:Frag}{H:Hp}{vs:List gF.Val}{xs:List V}(r:RVs K H vs xs):∀n,RVs K H (Ø n vs).flatten (Ø n xs).flatten
 |0=>.nil
 |n+1=>by rw[đ,đ,ŋ,ŋ];exact r.append<|RVs.rep r n
set_option exponentiation.threshold 2000 in
def P0{i j:Int}(h:gF.mulOk i j):IntMulOk i j:=by
 rcases h with(h|h)|⟨h1,h2⟩
 .exact .of_left (intBits_le_64 (by lia)<|by lia)
 .exact .of_right (intBits_le_64 (by lia)<|by lia)
 .have e:(10:Nat) ^ 200<2 ^ 1000:=by decide
  exact .of_bits (Ý (PyProof.Rows.intBits_le<|Ü h1 e)<|by decide) (Ý (PyProof.Rows.intBits_le<|Ü h2 e)<|by decide)
def F0(s:String)(n:Nat):Ix (gO s) n=gO (gF.repT s n):=by unfold Ix gF.repT;rw[Str.ofString_eq_toList,Str.ofString_eq_toList,cr];congr 1;apply eR.mp;rw[KY];simp[List.map_flatten,List.map_replicate]
abbrev HG:R2:=λx y H Q=>rI gF.mulOk (λi j=>.int<|i*j) x y H Q\/(Ql x y H Q\/Hy x y H Q)
def Rc:OpR X (Œ .Mult) HG:=OpR.or (opI λ_ _ _ _ _ _ _ hc q=>PyProof.Rows.mul_int q<|P0 hc) (op_rep.or Gi)
def b_mul:JT i .mul HG:=by
 intro v u G H x y Q Qm g rx ry w c;cases v<;>cases u<;>first|exact(Zh w).elim|skip
 case int.int a b =>let⟨h,w⟩:=Wu w;exact .inl ⟨a,b,rx.int_inv,ry.int_inv,h,c _ G H _ (fH.refl H) g (.int _)<|Zr w⟩
 case ref.int a k =>
  dsimp only[gF.binV,gF.mulV]at w;split at w
  .rename_i xs e1;split at w
   .rename_i hk;unfold gF.Rs.lst at w;split at w
    .rw[gF.Rs.wp_new]at w;cases rx.ref_inv;cases ry.int_inv;let⟨vs,h1,r1⟩:=g a _ e1;refine .inr (.inl ⟨a,k,vs,rfl,rfl,h1,by lia,by lia,?_,Yz g w c λp hp=>?_⟩)
     .rw[<-r1.length];exact Ý hk.2.2 ZM
     .have kk:=fH.new (o:=.lst (Ø k.toNat vs).flatten) hp;exact⟨_,fh,(r1.keep kk).rep _⟩
    .exact(Zh w).elim
   .exact(Zh w).elim
  .exact(Zh w).elim
 case str.int a k =>
  let⟨hk,w⟩:=Wu w
  replace w:=Zr w
  refine .inr (.inr ⟨_,k,rx.str_inv,ry.int_inv,hk.1,hk.2.1,by rw[ZB];exact hk.2.2.1,by rw[ZB];exact hk.2.2.2,?_⟩);rw[F0];exact c _ G H _ (fH.refl H) g (.str _) w
def b_fdiv:JT i .fdiv<|rI QB λi j=>.int<|i / j:=by intro v u G H x y Q Qm g rx ry w c;let⟨a,b,rfl,rfl,w⟩:=Wc w;let⟨h,w⟩:=Wu w;exact⟨a,b,rx.int_inv,ry.int_inv,h,c _ G H _ (fH.refl H) g (.int _)<|Zr w⟩
def b_mod:JT i .mod<|rI (λ_ j=>0<j) λi j=>.int<|i % j:=by intro v u G H x y Q Qm g rx ry w c;let⟨a,b,rfl,rfl,w⟩:=Wc w;let⟨h,w⟩:=Wu w;exact⟨a,b,rx.int_inv,ry.int_inv,h,c _ G H _ (fH.refl H) g (.int _)<|Zr w⟩
def b_pow:JT i .pow<|rI Qv λi j=>.int<|i ^ j.toNat:=by intro v u G H x y Q Qm g rx ry w c;let⟨a,b,rfl,rfl,w⟩:=Wc w;let⟨h,w⟩:=Wu w;exact⟨a,b,rx.int_inv,ry.int_inv,h,c _ G H _ (fH.refl H) g (.int _)<|Zr w⟩
def ZS{K:Frag}{H:Hp}:∀{xs:List gF.Val}{ns:List Int}{vs:List V},gF.fo xs=eZ ns->RVs K H xs vs->vs=ns.map V.int
 |[],_,_,e,r=>by cases r;cases e;rfl
 |v::xs,_,_,e,r=>by
  cases r with
  |cons r t=>cases v with
   |int k =>
    have e:(gF.fo xs).map (k :: ·)=eZ _:=e;cases z:gF.fo xs with
    |none=>rw[z]at e;cases e
    |some ns=>rw[z]at e;cases e;cases r;rw[ZS z t];rfl
   |_=>cases e
def MI:∀(ns ms:List Int),gF.fS ns ms=HT.lexLt ns ms
 |[],[]=>rfl
 |[],_::_=>rfl
 |_::_,[]=>rfl
 |x::xs,y::ys=>by rw[gF.fS,HT.lexLt_cons,MI xs ys]
abbrev RU(K:Frag):R2:=λx y H Q=>rI0 (λi j=>.bl<|gN (i<j)) x y H Q\/RJ K x y H Q
def S1(hu:X.A.units<Ķ):OpR X (ì .Lt)<|RU X.K:=op_lt.or (LQ hu)
abbrev Ri(K:Frag):R2:=λx y H Q=>rI0 (λi j=>.bl<|gN (j<i)) x y H Q\/HT2.rGtT K x y H Q
def S3(hu:X.A.units<Ķ):OpR X (ì .Gt)<|Ri X.K:=op_gt.or (HT2.op_gtT hu)
variable {H:Hp} {x:V} {c:Bool}
def HP{K:Frag}{ys:List gF.Val}{y:V}(rx:RV K H (.tup xs) x)(ry:RV K H (.tup ys) y)(e:gF.fT (.tup xs) (.tup ys)=eZ c):∃a b ns ms,x=.ref a/\y=.ref b/\gq K H a (ns.map V.int)/\gq K H b (ms.map V.int)/\HT.lexLt ns ms=c:=by
 simp only[gF.fT]at e;cases z1:gF.fo xs with
 |none=>rw[z1]at e;cases e
 |some ns =>
  cases z2:gF.fo ys with
  |none=>rw[z1,z2]at e;cases e
  |some ms =>
   rw[z1,z2]at e;cases e;cases rx with
   |@tup _ p vs hp hr =>
   cases ry with
   |@tup _ q us hq hs =>
   have h1:=ZS z1 hr;have h2:=ZS z2 hs;subst h1 h2;exact⟨p,q,ns,ms,rfl,rfl,Zk hp,Zk hq,(MI _ _).symm⟩
def c_lt:Yr i .lt<|RU i.K:=by
 intro v u G H x y c Q g rx ry e q
 replace e:gF.fT v u=eZ c:=e
 cases v<;>cases u<;>first|(cases e;done)|skip
 case int.int a b=>cases e;exact .inl ⟨a,b,rx.int_inv,ry.int_inv,q⟩
 case tup.tup xs ys =>let⟨a,b,ns,ms,h1,h2,h3,h4,h5⟩:=HP rx ry e;exact .inr ⟨a,b,ns,ms,h1,h2,h3,h4,by rw[h5];exact q⟩
def c_gt:Yr i .gt<|Ri i.K:=by
 intro v u G H x y c Q g rx ry e q
 replace e:gF.fT u v=eZ c:=e
 cases v<;>cases u<;>first|(cases e;done)|skip
 case int.int a b=>cases e;exact .inl ⟨a,b,rx.int_inv,ry.int_inv,q⟩
 case tup.tup xs ys =>let⟨a,b,ns,ms,h1,h2,h3,h4,h5⟩:=HP ry rx e;exact .inr ⟨b,a,ms,ns,h2,h1,h4,h3,by rw[HT2.lexGt_lt,h5];exact q⟩
def HQ{v:gF.Val}(e:gF.leV v u=eZ c):∃i j,v=.int i/\u=.int j/\gN (i<=j)=c:=by
 cases v with
 |int i=>cases u with
  |int j=>cases e;exact⟨i,j,rfl,rfl,rfl⟩
  |_=>cases e
 |_=>cases e
def c_le:Yr i .le<|rI0 λi j=>.bl<|gN (i<=j):=by intro v u G H x y c Q g rx ry e q;let⟨a,b,rfl,rfl,rfl⟩:=HQ e;exact⟨a,b,rx.int_inv,ry.int_inv,q⟩
def c_ge:Yr i .ge<|rI0 λi j=>.bl<|gN (j<=i):=by intro v u G H x y c Q g rx ry e q;let⟨a,b,rfl,rfl,rfl⟩:=HQ e;exact⟨b,a,rx.int_inv,ry.int_inv,q⟩
def RV.isN{K:Frag}{v:gF.Val}(r:RV K H v x):gN (x=.non)=gN (v=.non):=by cases r<;>simp
variable {a:Expr} {ma:gF.E} {ç:Pos} {p2:Pos} {j:Nat}
def Q6(ha:PE X a<|tE X i Φ ma):PE X (.Compare a [.Is] [.Constant .none j p2] ç) (tE X i Φ<|.cmp .is ma<|.cst .non) :=
 (Df (CF ha) rfl).imp λσ H Q ⟨env,G,Qm,Em,p,w,c⟩=>by refine one p w λv G1 H1 x k1 p1 r q=>?_;let⟨d,e,q2⟩:=fj q;have e:eZ (gN (v=.non))=eZ d:=e;cases e;rw[r.isN];exact c _ G1 H1 _ k1 p1.hp (.bl _) q2
def IA(ha:PE X a<|tE X i Φ ma):PE X (.Compare a [.IsNot] [.Constant .none j p2] ç) (tE X i Φ<|.cmp .isnot ma<|.cst .non) :=
 (Df (UC ha) rfl).imp λσ H Q ⟨env,G,Qm,Em,p,w,c⟩=>by refine one p w λv G1 H1 x k1 p1 r q=>?_;let⟨d,e,q2⟩:=fj q;have e:eZ (!gN (v=.non))=eZ d:=e;cases e;rw[r.isN];exact c _ G1 H1 _ k1 p1.hp (.bl _) q2
def IF(ha:PE X a<|tE X i Φ ma):PT X (.Compare a [.Is] [.Constant .none j p2] ç) (tTt X i Φ<|.val<|.cmp .is ma<|.cst .non) :=
 (DS (CF ha) rfl).imp λσ H Q ⟨env,G,Qm,Em,p,w,c⟩=>by refine one p w λv G1 H1 x k1 p1 r q=>?_;let⟨d,e,q2⟩:=fj q;let⟨d',e',q3⟩:=fj q2;cases e';have e:eZ (gN (v=.non))=eZ d:=e;cases e;rw[r.isN];exact⟨_,rfl,c _ G1 H1 k1 p1.hp q3⟩
def GT(ha:PE X a<|tE X i Φ ma):PT X (.Compare a [.IsNot] [.Constant .none j p2] ç) (tTt X i Φ<|.val<|.cmp .isnot ma<|.cst .non) :=
 (DS (UC ha) rfl).imp λσ H Q ⟨env,G,Qm,Em,p,w,c⟩=>by refine one p w λv G1 H1 x k1 p1 r q=>?_;let⟨d,e,q2⟩:=fj q;let⟨d',e',q3⟩:=fj q2;cases e';have e:eZ (!gN (v=.non))=eZ d:=e;cases e;rw[r.isN];exact⟨_,rfl,c _ G1 H1 k1 p1.hp q3⟩
end Snd
namespace Snd
open PySem L2 PySem.Spec PyProof.Rows
variable {i:Inf}{X:Cx}{Φ:gF.Fs}
def RKs.length{K:Frag}{H:Hp}:∀{kvs:List (gF.Val×gF.Val)}{ps:List (Key×V)},RKs K H kvs ps->kvs.length=ps.length
 |_,_,.nil=>rfl
 |_,_,.cons _ _ t=>by rw[Ì,Ì,RKs.length t]
def Jc{k j:gF.Val}{c d:Key}(a:WV k c)(b:WV j d):(k==j)=gN (c=d):=by
 have key:k=j↔c=d:=by
  cases k<;>cases c<;>first|(cases a;done)|skip
  .cases j<;>cases d<;>first|(cases b;done)|skip
   .cases a;cases b;simp
   .cases a;cases b;simp
  .cases j<;>cases d<;>first|(cases b;done)|skip
   .cases a;cases b;simp
   .cases a;cases b;simp[ofS_inj]
 by_cases e:k=j
 .rw[gK<|key.mp e,e];simp
 .rw[gJ λz=>e<|key.mpr z];simpa using e
def fz{k:gF.Val}{x:V}{K:Frag}{H:Hp}(h:gF.fE k=fc)(r:RV K H k x):∃c,WV k c/\x=kV c:=by
 cases k with
 |int n=>cases r.int_inv;exact⟨.inl n,rfl,rfl⟩
 |str s=>cases r.str_inv;exact⟨.inr<|gO s,rfl,rfl⟩
 |_=>cases h
def RKs.look{K:Frag}{H:Hp}{k:gF.Val}{c:Key}(a:WV k c):∀{kvs:List (gF.Val×gF.Val)}{ps:List (Key×V)},RKs K H kvs ps->
  (∀v,gF.fI kvs k=eZ v->∃x,YG ps c=eZ x/\RV K H v x)/\(gF.fI kvs k=fb->YG ps c=fb)
 |_,_,.nil=>⟨λv e=>(by cases e),λ_=>rfl⟩
 |_,_,.cons (k:=j) (v:=u) (c:=d) (x:=y) (kvs:=kvs) (ps:=ps) b r t=>by
  have ih:=RKs.look a t;have q:=Jc b a;by_cases e:d=c
  .rw[gK e]at q;have e1:gF.fI ((j,u)::kvs) k=eZ u:=by simp[gF.fI,ę,q]
   rw[e1,Xj e];exact⟨λv z=>(by cases z;exact⟨y,rfl,r⟩),λz=>(by cases z)⟩
  .rw[gJ e]at q;have e1:gF.fI ((j,u)::kvs) k=gF.fI kvs k:=by simp[gF.fI,ę,q]
   rw[e1,Xd e];exact ih
def RKs.has{K:Frag}{H:Hp}{k:gF.Val}{c:Key}(a:WV k c):∀{kvs:List (gF.Val×gF.Val)}{ps:List (Key×V)},RKs K H kvs ps->gF.fJ kvs k=ps.any λkv=>gN (kv.1=c)
 |_,_,.nil=>rfl
 |_,_,.cons b r t=>by have ih:=RKs.has a t;unfold gF.fJ at ih ⊢;rw[Ģ,Ģ,ih,Jc b a]
def RKs.app{K:Frag}{H:Hp}{k v:gF.Val}{c:Key}{x:V}(a:WV k c)(q:RV K H v x):∀{kvs:List (gF.Val×gF.Val)}{ps:List (Key×V)},RKs K H kvs ps->RKs K H (kvs++[(k,v)]) (ps++[(c,x)])
 |_,_,.nil=>.cons a q .nil
 |_,_,.cons b r t=>.cons b r<|RKs.app a q t
def RKs.repl{K:Frag}{H:Hp}{k v:gF.Val}{c:Key}{x:V}(a:WV k c)(q:RV K H v x):∀{kvs:List (gF.Val×gF.Val)}{ps:List (Key×V)},RKs K H kvs ps->
  RKs K H (kvs.map λp=>if p.1==k then(k,v)else p) (ps.map λkv=>if kv.1=c then(kv.1,x)else kv)
 |_,_,.nil=>.nil
 |_,_,.cons (k:=j) (v:=u) (c:=d) (x:=y) b r t=>by
  have ih:=RKs.repl a q t;have z:=Jc b a;rw[É,É];by_cases e:d=c
  .rw[gK e]at z;rw[gG z,gG e];exact .cons (e▸a) q ih
  .rw[gJ e]at z;rw[gH (by rw[z];decide),gH e];exact .cons b r ih
def RKs.put{K:Frag}{H:Hp}{k v:gF.Val}{c:Key}{x:V}(a:WV k c)(q:RV K H v x){kvs:List (gF.Val×gF.Val)}{ps:List (Key×V)}(r:RKs K H kvs ps):RKs K H (gF.fK kvs k v)<|L2.fK ps c x:=by
 unfold gF.fK L2.fK;rw[r.has a];by_cases e:(ps.any λkv=>gN (kv.1=c))=fc
 .rw[gG e,gG e];exact r.repl a q
 .rw[gH e,gH e];exact r.app a q
def RKs.drop{K:Frag}{H:Hp}{k:gF.Val}{c:Key}(a:WV k c):∀{kvs:List (gF.Val×gF.Val)}{ps:List (Key×V)},RKs K H kvs ps->RKs K H (gF.fL kvs k) (L2.fL ps c)
 |_,_,.nil=>.nil
 |_,_,.cons (k:=j) (v:=u) (c:=d) (x:=y) b r t=>by
  have ih:=RKs.drop a t;have z:=Jc b a;unfold gF.fL L2.fL at ih ⊢;rw[þ,þ];by_cases e:d=c
  .rw[gK e]at z;rw[gH (by rw[z];decide),gH<|by simpa using e];exact ih
  .rw[gJ e]at z;rw[gG (by rw[z];rfl),gG<|by simpa using e];exact .cons b r ih
variable {G:gF.Hs} {H:Hp} {a:Ë} {kvs':List (gF.Val×gF.Val)}
def MA{kvs:List (gF.Val×gF.Val)}{ps cj:List (Key×V)}(g:RH i G H)(h:H a=eZ (.dK ps))(r:RKs i.K H kvs' cj):fH H (upd H a<|.dK cj)/\RH i (gF.upd G a<|.dct kvs') (upd H a<|.dK cj):=by
 have k:fH H<|upd H a<|.dK cj:=fH.put (λxs e=>by rw[h]at e;cases e) λp u e=>by rw[h]at e;cases e
 exact⟨k,g.put k ⟨cj,fh,r.keep k⟩⟩
def RTs.length{K:Frag}{H:Hp}:∀{kvs:List (gF.Val×gF.Val)}{ps:List (List Key×V)},RTs K H kvs ps->kvs.length=ps.length
 |_,_,.nil=>rfl
 |_,_,.cons _ t=>by rw[Ì,Ì,RTs.length t]
def M0(a b i j:Int):(gF.Val.key a b == .key i j)=gN (([.inl a,.inl b]:List Key)=[.inl i,.inl j]):=by
 by_cases e:a=i/\b=j
 .obtain⟨rfl,rfl⟩:=e;rw[gK rfl];simp
 .rw[gJ λz=>e<|by simpa using z];exact beq_eq_false_iff_ne.mpr λz=>e ⇑z
def RTs.look{K:Frag}{H:Hp}{i j:Int}:∀{kvs:List (gF.Val×gF.Val)}{ps:List (List Key×V)},RTs K H kvs ps->
  (∀v,gF.fI kvs (.key i j)=eZ v->∃x,YG ps [.inl i,.inl j]=eZ x/\RV K H v x)/\(gF.fI kvs (.key i j)=fb->YG ps [.inl i,.inl j]=fb)
 |_,_,.nil=>⟨λv e=>(by cases e),λ_=>rfl⟩
 |_,_,.cons (i:=a) (j:=b) (v:=u) (x:=y) (kvs:=kvs) (ps:=ps) r t=>by
  have ih:=RTs.look (i:=i) (j:=j) t;have q:=M0 a b i j;by_cases e:([.inl a,.inl b]:List Key)=[.inl i,.inl j]
  .rw[gK e]at q;have e1:gF.fI ((.key a b,u)::kvs) (.key i j)=eZ u:=by simp[gF.fI,ę,q]
   rw[e1,Xj e];exact⟨λv z=>(by cases z;exact⟨y,rfl,r⟩),λz=>(by cases z)⟩
  .rw[gJ e]at q;have e1:gF.fI ((.key a b,u)::kvs) (.key i j)=gF.fI kvs (.key i j):=by simp[gF.fI,ę,q]
   rw[e1,Xd e];exact ih
def RTs.has{K:Frag}{H:Hp}{i j:Int}:∀{kvs:List (gF.Val×gF.Val)}{ps:List (List Key×V)},RTs K H kvs ps->gF.fJ kvs (.key i j)=ps.any λkv=>gN (kv.1=[.inl i,.inl j])
 |_,_,.nil=>rfl
 |_,_,.cons (i:=a) (j:=b) r t=>by have ih:=RTs.has (i:=i) (j:=j) t;unfold gF.fJ at ih ⊢;rw[Ģ,Ģ,ih,M0 a b i j]
def RTs.app{K:Frag}{H:Hp}{v:gF.Val}{i j:Int}{x:V}(q:RV K H v x):∀{kvs:List (gF.Val×gF.Val)}{ps:List (List Key×V)},RTs K H kvs ps->RTs K H (kvs++[(.key i j,v)]) (ps++[([.inl i,.inl j],x)])
 |_,_,.nil=>.cons q .nil
 |_,_,.cons r t=>.cons r<|RTs.app q t
def RTs.repl{K:Frag}{H:Hp}{v:gF.Val}{i j:Int}{x:V}(q:RV K H v x):∀{kvs:List (gF.Val×gF.Val)}{ps:List (List Key×V)},RTs K H kvs ps->
  RTs K H (kvs.map λp=>if p.1 == .key i j then(.key i j,v)else p) (ps.map λkv=>if kv.1=[.inl i,.inl j]then(kv.1,x)else kv)
 |_,_,.nil=>.nil
 |_,_,.cons (i:=a) (j:=b) (v:=u) (x:=y) r t=>by
  have ih:=RTs.repl (i:=i) (j:=j) q t;have z:=M0 a b i j;rw[É,É];by_cases e:([.inl a,.inl b]:List Key)=[.inl i,.inl j]
  .rw[gK e]at z;simp only[z,if_true,e];exact .cons q ih
  .rw[gJ e]at z;simp only[z,e,if_false,İ];exact .cons r ih
def RTs.put{K:Frag}{H:Hp}{v:gF.Val}{i j:Int}{x:V}(q:RV K H v x){kvs:List (gF.Val×gF.Val)}{ps:List (List Key×V)}(r:RTs K H kvs ps):RTs K H (gF.fK kvs (.key i j) v)<|L2.fK ps [.inl i,.inl j] x:=by
 unfold gF.fK L2.fK;rw[r.has];by_cases e:(ps.any λkv=>gN (kv.1=[.inl i,.inl j]))=fc
 .rw[gG e,gG e];exact r.repl q
 .rw[gH e,gH e];exact r.app q
def G8{ps cj:List (List Key×V)}(g:RH i G H)(h:H a=eZ (.dT ps))(r:RTs i.K H kvs' cj):fH H (upd H a<|.dT cj)/\RH i (gF.upd G a<|.dtp kvs') (upd H a<|.dT cj):=by
 have k:fH H<|upd H a<|.dT cj:=fH.put (λxs e=>by rw[h]at e;cases e) λp u e=>by rw[h]at e;cases e
 exact⟨k,g.put k ⟨cj,fh,r.keep k⟩⟩
def Jg{k:gF.Val}{x:V}{K:Frag}{H:Hp}(h:gF.isKeyT k=fc)(r:RV K H k x):∃a b c,k=.key a b/\x=.ref c/\H c=eZ (.tup<|([.inl a,.inl b]:List Key).map kV):=by
 cases k with
 |key a b=>cases r with|key e=>exact⟨a,b,_,rfl,rfl,e⟩
 |_=>cases h
abbrev CS:R2:=λx y H Q=>∃a v,x=.ref a/\DGet H a y (eZ v)/\Q v H
def E6(hu:X.A.units+1<Ķ):IxR X CS:=by
 intro χ slice Á s σ H x y v u Q I rx ry h hs;let⟨a,z,rfl,g,q⟩:=h;cases rx;have hT:=NC I g;unfold dz;refine À ?_;rw[getitemInPython_of_ne hT.not_modules];refine À<|wpAny_specialOf hT PySem.F.slot_dict_getitem.lookup ?_;have fin:wpAny (Õ X.prog X.w) X.A (subscripted slice fe (.ref a) u) (λr aU=>wpAny (Õ X.prog X.w) X.A (letTemporaryGo χ (.ref a) r >>= λ_=>pure r) (EP X Á σ Q) X.xe aU) X.xe s:=by rw[hs];exact wpAny_operating<|K4 hu I g ry λw' s' I' bw=>À<|wpAny_letTemporaryGo<|Æ ⟨_,_,I',bw,q⟩
 first
  |exact Æ<|À fin
  |exact À<|Æ<|À fin
  |exact À fin
abbrev FT(b:Bool):R2:=λx y H Q=>∃a o,y=.ref a/\DGet H a x o/\Q (.bl<|b ^^ o.isSome) H
def IV(hu:X.A.units+1<Ķ):OpR X (ì .In)<|FT fe:=by intro Á s σ H x y v u Q I rx ry h;let⟨a,o,rfl,g,q⟩:=h;cases ry;rw[Bool.false_xor]at q;exact SR hu I g rx λs' I'=>⟨.bl o.isSome,_,I',rfl,q⟩
def P3(hu:X.A.units+1<Ķ):OpR X (ì .NotIn)<|FT fc:=by intro Á s σ H x y v u Q I rx ry h;let⟨a,o,rfl,g,q⟩:=h;cases ry;rw[Bool.true_xor]at q;exact F6 hu I g rx λs' I'=>⟨.bl (!o.isSome),_,I',rfl,q⟩
abbrev HI:V->V->V->Hp->(Hp->Prop)->Prop:=λo y v H Q=>∃a H',o=.ref a/\DPut H a y v H'/\Q H'
def NN(hu:X.A.units+1<Ķ):PSet X HI:=by intro Á s σ H o y v ov iv u Q I ro ri rv h;let⟨a,H',rfl,g,q⟩:=h;cases ro;exact BF hu I g ri rv λs' I'=>⟨H',I',q⟩
def PSet.or{r r':V->V->V->Hp->(Hp->Prop)->Prop}(h:PSet X r)(h':PSet X r'):PSet X λo y v H Q=>r o y v H Q\/r' o y v H Q:=by
 intro Á s σ H o y v ov iv u Q I ro ri rv q;rcases q with q|q
 .exact h Á s σ H o y v ov iv u Q I ro ri rv q
 .exact h' Á s σ H o y v ov iv u Q I ro ri rv q
end Snd
namespace Snd
open PySem L2
variable {i:Inf}{X:Cx}{Φ:gF.Fs}
def MZ(n:Nat)(k:Int):gF.ixN n k=L2.ixN n k:=rfl
variable {H:Hp} {xs:List gF.Val} {vs:List V}
def W3{K:Frag}{k:Int}{v:gF.Val}(r:RVs K H xs vs)(e:gF.atI xs k=eZ v):∃x,L2.atI vs k=eZ x/\RV K H v x:=by
 unfold gF.atI at e;unfold L2.atI;rw[MZ,r.length]at e;cases z:L2.ixN vs.length k with
 |none=>rw[z]at e;cases e
 |some j =>rw[z]at e;let⟨x,h1,h2⟩:=r.get (show xs[j]?=eZ v from e);exact⟨x,h1,h2⟩
abbrev Q5(i:Inf)(r:R2):Prop:=∀(v u:gF.Val) (G:gF.Hs) (H:Hp) (x y:V) (w:gF.Val) (Q:VK),RH i G H->RV i.K H v x->RV i.K H u y->gF.fU G v u=eZ w->(∀z,RV i.K H w z->Q z H)->r x y H Q
variable {a:Expr} {ma:gF.E} {ç:Pos}
def Qz{b:Expr}{mb:gF.E}{r:R2}(hr:IxR X r)(ho:Q5 i r)(ha:PE X a<|tE X i Φ ma)(hb:PE X b<|tE X i Φ mb)(hs:Nh b):PE X (.Subscript a b ç) (tE X i Φ<|.idx ma mb) :=
 (QR hr ha hb hs).imp λσ H Q ⟨env,G,Qm,Em,p,w,c⟩=>by
  exact two p w λv u G2 H2 x y k2 p2 rx ry q=>by let⟨z,e,q⟩:=fj q;exact ho v u G2 H2 x y z Q p2.hp rx ry e λt rt=>c z G2 H2 t k2 p2.hp rt q
def GU{s:String}{k:Int}{c:Char}(e:gF.atI s.toList k=eZ c):L2.atI (gO s).cps.toList k=eZ c.toNat:=by
 rw[Str.ofString_eq_toList];show L2.atI (List.map Ų s.toList).toArray.toList k=_;unfold gF.atI at e;unfold L2.atI;simp only[Ã];rw[MZ]at e;cases z:L2.ixN s.toList.length k with
 |none=>rw[z]at e;cases e
 |some j =>rw[z]at e;have e:s.toList[j]?=eZ c:=e;show(List.map Ų s.toList)[j]?=_;rw[Ú,e];rfl
def Ua(c:Char):gO (aA c)=⟨#[c.toNat]⟩:=by rw[Str.ofString_eq_toList];simp
abbrev Sj(K:Frag):R2:=λx y H Q=>rIx K x y H Q\/CS x y H Q
def Qg:Q5 i<|Sj i.K:=by
 intro v u G H x y w Q g rx ry e q;cases v with
 |tup xs =>
  cases u with
  |int k =>
   cases rx with
   |tup hp hr =>let⟨z,h1,h2⟩:=W3 hr (show gF.atI xs k=eZ w from e);exact .inl<|.inr<|.inl ⟨_,_,k,z,rfl,ry.int_inv,Zk hp,h1,q z h2⟩
  |_=>cases e
 |str s =>
  cases u with
  |int k =>
   simp only[gF.fU]at e;split at e
   .rename_i hl;cases z:gF.atI s.toList k with
    |none=>rw[z]at e;cases e
    |some c =>rw[z]at e;cases e;refine .inl (.inr<|.inr ⟨_,k,_,rx.str_inv,ry.int_inv,by rw[ZB];exact Ý hl ZM,GU z,?_⟩);have:=q _<|.str<|aA c;rw[Ua]at this;exact this
   .cases e
  |_=>cases e
 |ref a =>
  cases rx.ref_inv
  replace e:(match G a with|some (.lst xs)=>(gF.gB u).bind (gF.atI xs)|some (.dct kvs)=>if gF.fE u then gF.fI kvs u else fb|some (.frz kvs)=>if gF.fE u then gF.fI kvs u else fb|some (.dtp kvs)=>if gF.isKeyT u then gF.fI kvs u else fb|_=>fb)=eZ w:=e
  cases z:G a with
  |none=>rw[z]at e;cases e
  |some o =>
   rw[z]at e;cases o with
   |lst xs =>let⟨k,hk,e⟩:=ê.mp e;cases ZU hk;let⟨vs,h1,h2⟩:=g a _ z;let⟨t,h3,h4⟩:=W3 h2 e;exact .inl<|.inl ⟨a,vs,k,t,rfl,ry.int_inv,gp.of h1,h3,q t h4⟩
   |dct kvs =>let⟨hk,e⟩:=Zq (show(if gF.fE u then gF.fI kvs u else fb)=eZ w from e);let⟨ps,h1,h2⟩:=g a _ z;let⟨d,kr,rfl⟩:=fz hk ry;let⟨t,hx,rv⟩:=(h2.look kr).1 w e;exact .inr ⟨a,t,rfl,by rw[<-hx];exact DGet.k h1,q t rv⟩
   |frz kvs =>let⟨hk,e⟩:=Zq (show(if gF.fE u then gF.fI kvs u else fb)=eZ w from e);let⟨ob,ps,h1,h2⟩:=g a _ z;let⟨d,kr,rfl⟩:=fz hk ry;let⟨t,hx,rv⟩:=(h2.look kr).1 w e;exact .inr ⟨a,t,rfl,.inl ⟨ps,d,.inr ⟨ob,h1⟩,rfl,hx.symm⟩,q t rv⟩
   |dtp kvs =>let⟨hk,e⟩:=Zq (show(if gF.isKeyT u then gF.fI kvs u else fb)=eZ w from e);let⟨ps,h1,h2⟩:=g a _ z;let⟨k1,k2,b,rfl,rfl,hb⟩:=Jg hk ry;let⟨t,hx,rv⟩:=(h2.look).1 w e;exact .inr ⟨a,t,rfl,by rw[<-hx];exact DGet.t h1 hb,q t rv⟩
   |_=>cases e
 |scr ns =>
  cases u with
  |int k =>
   cases rx with
   |scr h =>let⟨t,h3,h4⟩:=W3 (RVs.ints ns) (show gF.atI (ns.map .int) k=eZ w from e);exact .inl<|.inl ⟨_,_,k,t,rfl,ry.int_inv,Yp h,h3,q t h4⟩
  |_=>cases e
 |_=>cases e
abbrev tOx(X:Cx)(i:Inf)(Φ:gF.Fs)(m:gF.Oe):TO:=λσ H Q=>∃env G Qm Em,Pre X i σ H env G Em/\gF.wO Φ m env G Qm Em/\∀k G' H',fH H H'->RH i G' H'->Qm k G'->Q k H'
def _root_.L2.PO.imp{e:Option Expr}{t t':TO}(h:PO X e t)(f:∀σ H Q,t' σ H Q->t σ H Q):PO X e t':=λÁ s σ H Q I q=>h Á s σ H Q I (f σ H Q q)
def Hh:PO X fb<|tOx X i Φ .none:=po_none.imp λσ H Q ⟨env,G,Qm,Em,p,w,c⟩=>by exact c fb G H (fH.refl H) p.hp w
def FI{e:Expr}{m:gF.E}(he:PE X e<|tE X i Φ m):PO X (eZ e)<|tOx X i Φ<|.some m:=(F2 he).imp λσ H Q ⟨env,G,Qm,Em,p,w,c⟩=>by
 exact one p w λv G1 H1 x k1 p1 r q=>by let⟨b,e,q2⟩:=fj q;cases ZU e;exact⟨b,r.int_inv,c _ G1 H1 k1 p1.hp q2⟩
def Uk{K:Frag}(r:RVs K H xs vs)(lo hi:Option Int):RVs K H (gF.cut xs lo hi)<|MS vs lo hi:=by
 have e:∀(n d:Nat) (o:Option Int),gF.fR n d o=HT.sIx n d o:=by
  intro n d o;cases o with
  |none=>rfl
  |some k =>
   show(if 0<=k then min k.toNat n else(k+n).toNat)=(if k<0 then(k+(n:Int)).toNat else min k.toNat n)
   by_cases h:k<0
   .rw[gG h,gH<|by lia]
   .rw[gH h,gG<|by lia]
 unfold gF.cut MS;rw[e,e,r.length];exact(r.drop _).take _
abbrev Sc(i:Inf)(r:V->Option Int->Option Int->Hp->VK->Prop):Prop:=∀(v:gF.Val) (lo hi:Option Int) (G:gF.Hs) (H:Hp) (x:V) (Q:VK) (Qm:gF.Q1),RH i G H->RV i.K H v x->(gF.fV G v lo hi).wp G Qm->Cn i H Q Qm->r x lo hi H Q
def Rb{lo hi:Option Expr}{ml mh:gF.Oe}{r:V->Option Int->Option Int->Hp->VK->Prop}{p2:Pos}(hr:SlR X r)(ho:Sc i r)(ha:PE X a<|tE X i Φ ma)(hl:PO X lo<|tOx X i Φ ml)(hh:PO X hi<|tOx X i Φ mh):PE X (.Subscript a (.Slice lo hi fb p2) ç) (tE X i Φ<|.slc ma ml mh) :=
 (Dl hr ha hl hh).imp λσ H Q ⟨env,G,Qm,Em,p,w,c⟩=>by
  exact⟨env,G,_,Em,p,w,λv G1 H1 x k1 g1 r1 w1=>⟨env,G1,_,Em,p.go k1 g1,w1,λl G2 H2 k2 g2 w2=>⟨env,G2,_,Em,(p.go k1 g1).go k2 g2,w2,λu G3 H3 k3 g3 w3 =>
    ho v l u G3 H3 x Q Qm g3 ((r1.keep k2).keep k3) w3 (((c.go k1).go k2).go k3)⟩⟩⟩
abbrev QQ(K:Frag):V->Option Int->Option Int->Hp->VK->Prop:=λx lo hi H Q=>QP K x lo hi H Q\/Qf K x lo hi H Q\/RW x lo hi H Q\/RF K x lo hi H Q
def SV:SlR X<|QQ X.K:=sl_list.or (f9.or<|sl_str.or FE)
def X9(n d:Nat)(o:Option Int):gF.fR n d o=HT.sIx n d o:=by
 cases o with
 |none=>rfl
 |some k =>
  show(if 0<=k then min k.toNat n else(k+n).toNat)=(if k<0 then(k+(n:Int)).toNat else min k.toNat n)
  by_cases h:k<0
  .rw[gG h,gH<|by lia]
  .rw[gH h,gG<|by lia]
def Np(n d:Nat)(h:d<=n)(o:Option Int):gF.fR n d o<=n:=by
 cases o with
 |none=>exact h
 |some k =>show(if 0<=k then min k.toNat n else(k+n).toNat)<=n;split<;>lia
def clip_eq(n d:Nat)(h:d<=n)(o:Option Int):(match o with
    |none=>(d:Int)
    | some i=>max 0<|min (if i<0 then i+(n:Int)else i) (n:Int))=(gF.fR n d o:Int):=by
 cases o with
 |none=>rfl
 |some k =>
  show _=(((if 0<=k then min k.toNat n else(k+n).toNat):Nat):Int)
  by_cases hk:k<0
  .rw[gH<|show ¬ 0<=k by lia];simp only[hk,if_true];lia
  .rw[gG<|show 0<=k by lia];simp only[hk,if_false];lia
def LF(n:Nat)(lo hi:Option Int):PySem.Builtin.Str.strSliceIndices lo hi 1 n=(List.range<|gF.fR n n hi - gF.fR n 0 lo).map λk=>gF.fR n 0 lo+k:=by
 have e1:=clip_eq n 0 (Ŀ _) lo;have e2:=clip_eq n n (Ñ _) hi;have e3:PySem.Builtin.Str.strSliceIndices lo hi 1 n=sliceRange (gF.fR n 0 lo:Int) (gF.fR n n hi:Int) 1:=by unfold PySem.Builtin.Str.strSliceIndices;rw[<-e1,<-e2];cases lo<;>cases hi<;>rfl
 rw[e3];unfold sliceRange;have e4:(if(1:Int) > 0 then(if(gF.fR n 0 lo:Int)<(gF.fR n n hi:Int)then((gF.fR n n hi:Int) - (gF.fR n 0 lo:Int)+1 - 1) / 1 else 0)else(if(gF.fR n 0 lo:Int) > (gF.fR n n hi:Int)then((gF.fR n 0 lo:Int) - (gF.fR n n hi:Int) - 1 - 1) / (-1)else 0)).toNat=gF.fR n n hi - gF.fR n 0 lo:=by rw[gG (by decide),Int.ediv_one];split<;>lia
 show(List.range<|Int.toNat<|if(1:Int) > 0 then _ else _).map _=_;rw[e4];refine ħ λk _=>?_;lia
def F9(s:String)(lo hi:Option Int):AK (gO s) lo hi=gO (Ρ<|gF.cut s.toList lo hi):=by
 have hl:(gO s).length=s.toList.length:=by rw[ZB,cq]
 have ha:=Np s.toList.length 0 (Ŀ _) lo;have hb:=Np s.toList.length s.toList.length (Ñ _) hi;have e:=LF s.toList.length lo hi;rw[<-hl]at e;unfold AK;rw[e];simp only[hl];have ec:(gO s).cps.toList=s.toList.map Ų:=by rw[Str.ofString_eq_toList]
 split
 .rename_i z;rw[Ã,ż]at z;have e0:gF.fR s.toList.length 0 lo=0\/s.toList.length=0:=by lia
  have e5:gF.cut s.toList lo hi=s.toList:=by
   unfold gF.cut;rw[z];rcases e0 with e0|e0
   .rw[e0,bx,ÿ]
   .have:s.toList=[]:=Ϗ.mp e0;rw[this];simp
  rw[e5,String.ofList_toList]
 .rw[Str.ofString_eq_toList<|Ρ _,cr];congr 2;have e3:(λi:Nat=>(gO s).cps[i]?)=λi:Nat=>(s.toList.map Ų)[i]?:=by
   funext i;rw[<-ec];simp
  rw[e3];by_cases hab:gF.fR s.toList.length 0 lo<=gF.fR s.toList.length s.toList.length hi
  .rw[PySem.StrLaws.picks _ _ _<|by rw[Ã];lia];unfold gF.cut;rw[List.map_take,List.map_drop]
  .have:gF.fR s.toList.length s.toList.length hi - gF.fR s.toList.length 0 lo=0:=by lia
   unfold gF.cut;rw[this];simp
def Re:Sc i<|QQ i.K:=by
 intro v lo hi G H x Q Qm g r w c;cases v with
 |tup xs =>
  simp only[gF.fV]at w;split at w
  .rename_i hn;rw[gF.Rs.wp_val]at w;cases r with
   |@tup _ a vs hp hr=>exact .inr (.inr<|.inr ⟨a,vs,rfl,Zk hp,by rw[<-X9,<-X9,<-hr.length];exact hn,c _ G H _ (fH.refl H) g (.tup hp hr) w⟩)
  .rename_i hn;rw[gF.Rs.wp_val]at w;cases r with
   |@tup _ a vs hp hr =>refine .inr (.inl ⟨a,vs,rfl,Zk hp,by rw[<-X9,<-X9,<-hr.length];exact hn,λp hp'=>?_⟩);have k:=fH.new (o:=.tup<|MS vs lo hi) hp';refine c _ G _ _ k (g.hid k λb o e=>ff ?_) (.tup (.inl fh)<|Uk (hr.keep k) lo hi) w;rintro rfl;rw[g.free hp']at e;cases e
 |ref a =>
  cases r.ref_inv;simp only[gF.fV]at w;cases z:gF.fx (G a)with
  |none=>rw[z]at w;simp at w
  |some xs =>rw[z]at w;rw[gF.Rs.wp_new]at w;let⟨vs,h1,h2⟩:=Z1 g z;exact .inl ⟨a,vs,rfl,h1,Yz g w c λp hp=>⟨_,fh,Uk (h2.keep<|fH.new hp) lo hi⟩⟩
 |scr ns =>
  simp only[gF.fV,gF.Rs.wp_new]at w;cases r with
  |scr h=>exact .inl ⟨_,_,rfl,Yp h,Yz g w c λp hp=>⟨_,fh,Uk (RVs.ints ns) lo hi⟩⟩
 |str s =>
  cases r.str_inv;simp only[gF.fV]at w;split at w
  .rename_i hl;rw[gF.Rs.wp_val]at w;refine .inr (.inr <| .inl ⟨_,rfl,by rw[ZB];exact Ý hl (by decide),?_⟩);rw[F9];exact c _ G H _ (fH.refl H) g (.str _) w
  .simp at w
 |_=>simp[gF.fV]at w
variable {H:Hp} {vs:List gF.Val} {xs:List V} {x:V}
def RVs.app1{K:Frag}{v:gF.Val}(r:RVs K H vs xs)(q:RV K H v x):RVs K H (vs++[v])<|xs++[x]:=r.append (.cons q .nil)
variable {es:List Expr} {ms:gF.Es} {n:Nat} {ç:Pos}
def Q9{k:Nat}(hn:n<=1000)(h:PA X es<|tAr X i Φ ms n):PE X (.Tuple es k ç) (tE X i Φ<|.tup ms) :=
 (Eg h).imp λσ H Q ⟨env,G,Qm,Em,p,w,c⟩=>by refine⟨env,G,_,Em,p,w,λvs G1 H1 xs k1 g1 r1 hl w1=>⟨by rw[hl];exact Ý hn (by decide),λa ha=>?_⟩⟩;have k:=fH.new (o:=.tup xs) ha;refine c _ G1 _ _ (k1.trans k) (g1.hid k λb o e=>ff ?_) (.tup (.inl fh)<|r1.keep k) w1;rintro rfl;rw[g1.free ha]at e;cases e
def R8(hn:n<=1000)(h:PA X es<|tAr X i Φ ms n):PE X (.List es ç) (tE X i Φ<|.lst ms) :=
 (Ps h).imp λσ H Q ⟨env,G,Qm,Em,p,w,c⟩=>by refine⟨env,G,_,Em,p,w,λvs G1 H1 xs k1 g1 r1 hl w1=>⟨by rw[hl];exact Ý hn (by decide),Yz g1 w1 (c.go k1) λa ha=>?_⟩⟩;exact⟨xs,fh,r1.keep<|fH.new ha⟩
abbrev NZ(i:Inf)(f:gF.Bi)(r:List V->Hp->VK->Prop):Prop:=∀(vs:List gF.Val) (G:gF.Hs) (H:Hp) (xs:List V) (Q:VK) (Qm:gF.Q1),RH i G H->RVs i.K H vs xs->(gF.biV G f vs).wp G Qm->Cn i H Q Qm->r xs H Q
def JQ{f:gF.Bi}{r:List V->Hp->VK->Prop}(hr:NZ i f r):∀σ H Q,tE X i Φ (.bi f ms) σ H Q->tCB r (tAr X i Φ ms n) σ H Q:=λσ H Q ⟨env,G,Qm,Em,p,w,c⟩=>by exact⟨env,G,_,Em,p,w,λvs G1 H1 xs k1 g1 r1 _ w1=>hr vs G1 H1 xs Q Qm g1 r1 w1<|c.go k1⟩
def RVs.inv1{K:Frag}{v:gF.Val}(r:RVs K H [v] xs):∃x,xs=[x]/\RV K H v x:=by cases r with|cons a t=>cases t;exact⟨_,rfl,a⟩
def RVs.inv2{K:Frag}{v u:gF.Val}(r:RVs K H [v,u] xs):∃x y,xs=[x,y]/\RV K H v x/\RV K H u y:=by cases r with|cons a t=>cases t with|cons b t=>cases t;exact⟨_,_,rfl,a,b⟩
def Ax(s:String):(gO s).cps.toList=s.toList.map Ų:=by rw[Str.ofString_eq_toList]
variable {h:gF.Hs} {Q:gF.Q1}
def Wx{f:gF.Val->gF.Rs}(w:(gF.fy f vs).wp h Q):∃v,vs=[v]/\(f v).wp h Q:=by
 cases vs with
 |nil=>exact(Zh w).elim
 |cons v vs=>cases vs with
  |nil=>exact⟨v,rfl,w⟩
  |cons _ _=>exact(Zh w).elim
def Li{f:gF.Val->gF.Val->gF.Rs}(w:(gF.biOf2 f vs).wp h Q):∃v u,vs=[v,u]/\(f v u).wp h Q:=by
 cases vs with
 |nil=>exact(Zh w).elim
 |cons v vs=>cases vs with
  |nil=>exact(Zh w).elim
  |cons u us=>cases us with
   |nil=>exact⟨v,u,rfl,w⟩
   |cons _ _=>exact(Zh w).elim
def GC:NZ i .max2 λxs H Q=>∃i j,xs=[.int i,.int j]/\Q (.int<|if j > i then j else i) H:=by intro vs G H xs Q Qm g r w c;let⟨v,u,rfl,w⟩:=Li w;let⟨a,b,rfl,rfl,w⟩:=Wc w;let⟨x,y,rfl,rx,ry⟩:=r.inv2;cases rx.int_inv;cases ry.int_inv;exact⟨a,b,rfl,c _ G H _ (fH.refl H) g (.int _)<|Zr w⟩
abbrev Rl(o:Option gF.Ob)(f:List gF.Val->gF.Rs):gF.Rs:=match o with
 |some (.lst xs)=>f xs
 |_=>.no
variable {o:Option gF.Ob}
def N8{f:List gF.Val->gF.Rs}(w:(Rl o f).wp h Q):∃xs,o=eZ (.lst xs)/\(f xs).wp h Q:=by
 cases o with
 |none=>exact(Zh w).elim
 |some o=>cases o with
  |lst xs=>exact⟨xs,rfl,w⟩
  |_=>exact(Zh w).elim
variable {G:gF.Hs}
def FF{Q:VK}{Qm:gF.Q1}{ys:List gF.Val}{us:List V}(g:RH i G H)(r:RVs i.K H ys us)(w:Qm (.tup ys) G)(c:Cn i H Q Qm):∀l,H l=fb->Q (.ref l) (upd H l<|.tup us):=λl hl=>by have k:=fH.new (o:=.tup us) hl;refine c _ G _ _ k (g.hid k λb o e=>ff ?_) (.tup (.inl fh)<|r.keep k) w;rintro rfl;rw[g.free hl]at e;cases e
def B2:NZ i .tuple λxs H Q=>∃p ys,xs=[.ref p]/\((gp i.K H p ys/\∀l,H l=fb->Q (.ref l) (upd H l<|.tup ys))\/(gq i.K H p ys/\Q (.ref p) H)):=by
 intro vs G H xs Q Qm g r w c;let⟨v,rfl,w⟩:=Wx w;let⟨x,rfl,rx⟩:=r.inv1;cases v with
 |ref a =>cases rx.ref_inv;let⟨ys,e,w⟩:=N8 (f:=λxs=>.val<|.tup xs) w;let⟨us,h1,h2⟩:=g a _ e;exact⟨a,us,rfl,.inl ⟨gp.of h1,FF g h2 (Zr w) c⟩⟩
 |tup ys =>
  cases rx with
  |tup hp hr=>exact⟨_,_,rfl,.inr ⟨Zk hp,c _ G H _ (fH.refl H) g (.tup hp hr)<|Zr w⟩⟩
 |_=>exact(Zh w).elim
abbrev kinds:List String:=["int","bool","str","list","tuple","dict"]
def E8(K:Frag):∀t∈["NoneType","bool","int","str","tuple","list","dict"],∀T∈kinds,PySem.W.kitOne K (.type t) (.type T)=eZ (t==T||(t == "bool" && T == "int")):=by intro t ht T hT;simp only[kinds,Ç,Ó,or_false]at ht hT;rcases ht with rfl|rfl|rfl|rfl|rfl|rfl|rfl<;>rcases hT with rfl|rfl|rfl|rfl|rfl|rfl<;>rfl
def A5(g:RH i G H){v:gF.Val}{t:String}(r:RV i.K H v x)(e:gF.gD G v=eZ t):TyV i.K H x (.type t)/\t∈["NoneType","bool","int","str","tuple","list","dict"]:=by
 cases v with
 |non=>cases r;cases e;exact⟨.of .non,by simp⟩
 |bl b=>cases r;cases e;exact⟨.of<|.bl b,by simp⟩
 |int b=>cases r;cases e;exact⟨.of<|.int b,by simp⟩
 |str b=>cases r;cases e;exact⟨.of<|.str _,by simp⟩
 |tup xs=>cases e;cases r with|tup hp hr=>exact⟨.tup<|Zk hp,by simp⟩
 |scr ns=>cases e;cases r with|scr h=>exact⟨.lst<|Yp h,by simp⟩
 |ref a =>
  cases r.ref_inv;simp only[gF.gD]at e;cases q:G a with
  |none=>rw[q]at e;cases e
  |some o =>
   rw[q]at e;cases o with
   |lst xs=>cases e;let⟨vs,h1,_⟩:=g a _ q;exact⟨.lst<|gp.of h1,by simp⟩
   |dct kvs=>cases e;let⟨ps,h1,_⟩:=g a _ q;exact⟨.of<|.dK h1,by simp⟩
   |ins C fs=>cases e
   |exc C=>cases e
   |frz _=>cases e
   |dtp _=>cases e
 |key _ _=>cases e
def Ra{e:Expr}{m:gF.E}{T:String}{p p2:Pos}(hT:T∈kinds)(he:PE X e<|tE X i Φ m)(hk:X.K=i.K)(hg:Gl X "isinstance")(hm:X.mg "isinstance" = fb)(hg2:Gl X<|gO T)(hm2:X.mg (gO T)=fb)
  (hv2:Ů (gO T)=eZ (.type T)) (hn2:gO T≠"__name__") (bC:(gO T==("__debug__" : Str))=fe) (ō:Ï [e,.Name (gO T) p2] X.env=(fe,eval e X.env)::Ï [.Name (gO T) p2] X.env) :
  PE X (.Call (.Name "isinstance" p) [e,.Name (gO T) p2] [] ç) (tE X i Φ<|.bi (.isi [T])<|.cons m .nil):=by
 refine(Z2 Et hg hm (by kernel_rfl) (ZA he (ZA (QJ (T:=T) hg2 hm2 hv2 hn2 bC) gk) ō) (he:=ō)).imp λσ H Q ⟨env,G,Qm,Em,p,w,c⟩=>?_;refine one p w λv G1 H1 x k1 p1 r q=>?_
 replace q:(gF.Rs.ofO (((gF.gE G1 v T).bind λb=>(gF.isiAny G1 v []).map (b || ·)).map .bl)).wp G1 Qm:=q
 simp only[gF.isiAny,gF.gE]at q;cases z:gF.gD G1 v with
 |none=>rw[z]at q;simp[gF.Rs.ofO]at q
 |some t =>rw[z]at q;simp only[ķ,ð,gF.Rs.ofO,gF.Rs.wp_val,θ]at q;let⟨h1,h2⟩:=A5 p1.hp r z;refine⟨x,T,.type t,_,rfl,by rw[hk];exact h1,by rw[hk];exact E8 _ t h2 T hT,c _ G1 H1 _ k1 p1.hp (.bl _) q⟩
def O2(h:gF.isLst o=fc):∃xs,o=eZ (.lst xs):=by
 cases o with
 |none=>cases h
 |some o=>cases o with
  |lst xs=>exact⟨xs,rfl⟩
  |_=>cases h
variable {a:Ë}
def DV{f:gF.Ad->List gF.Val->Option (gF.Val×gF.Hs)}{t:gF.Val×gF.Hs}(e:gF.bmL G (.ref a) f=eZ t):∃xs,G a=eZ (.lst xs)/\f a xs=eZ t:=by let⟨xs,h1,h2⟩:=ê.mp (show(gF.fx<|G a).bind (f a)=eZ t from e);exact⟨xs,AJ h1,h2⟩
def M3{xs:List gF.Val}{vs:List V}(g:RH i G H)(h:H a=eZ (.lst vs))(ys:List gF.Val)(us:List V)(r:RVs i.K H ys us):fH H (upd H a<|.lst us)/\RH i (gF.upd G a<|.lst ys) (upd H a<|.lst us):=by
 have k:fH H<|upd H a<|.lst us:=fH.put (λxs e=>by rw[h]at e;cases e) λp u e=>by rw[h]at e;cases e
 exact⟨k,g.put k ⟨us,fh,r.keep k⟩⟩
abbrev spF(i:Inf)(P:gF.Pg)(n:Nat)(f:String):Sp:=λvs H Q E=>∃args G Qm Em,RVs i.K H args vs/\RH i G H/\gF.wF P n f args G Qm Em/\Cn i H Q Qm/\∀cls d H',XK1 i H Em cls d H'->E cls d H'
abbrev Dfo(pr:ä)(w:ö)(mg:Str->Option Â)(base:Ć)(i:Inf)(P:gF.Pg)(n:Nat)(f:String):Prop :=
 ∃fa fd ps,fO pr w i.K mg base (CX1 pr w) (2*n) fa fd ps (spF i P n f)/\mg (gO f)=eZ (.ref fa)/\PySem.W.keepIn i.K (.ref fa)=fc/\Binds i.K fd ps []
variable {e:Expr} {es:List Expr} {ç:Pos}
def PN{P:gF.Pg}{n k:Nat}{f:String}{ms:gF.Es}{p:Pos}(hK:X.K=i.K)(D:Dfo X.prog X.w X.mg X.base i P n f)(hr:fN (2*n) X.A)(hg:Gl X<|gO f)(Ϯ:(gO f==("__debug__" : Str))=fe)
  (ha:PA X (e::es)<|tAr X i (gF.wF P n) ms k) (he:Ï (e::es) X.env=(fe,eval e X.env)::Ï es X.env) (hpl:(Ď ç<|Ï es X.env).any (·.1)=fe) :
  PE X (.Call (.Name (gO f) p) (e::es) [] ç) (tE X i (gF.wF P n)<|.call f ms):=by
 let⟨fa,fd,ps,F,hm,hk,hb⟩:=D;rw[<-hK]at F hk hb;intro Á s σ H Q I h;let⟨env,G,Qm,Em,pr,w,c⟩:=h;refine Fp (E:=XK1 i H Em) F hr hg hm hk hb .nil (XW.passes pr.xo) ha Ϯ he hpl Á s σ H Q I ⟨env,G,_,Em,pr,w,λvs G1 H1 xs k1 g1 r1 hl w1=>?_⟩;exact⟨vs,G1,Qm,Em,by rw[ò];exact r1,g1,w1,c.go k1,λcls d H' h=>h.go k1⟩
abbrev XKS(i:Inf)(H:Hp)(Xe:gF.EQ):XK:=λcls _ H'=>∃e c G' ad,cls=.ref ad/\i.xc c ad/\fH H H'/\RH i G' H'/\Xe e c G'
structure PreS(X:Cx)(i:Inf)(σ:St)(H:Hp)(env:gF.Env)(G:gF.Hs)(Xe:gF.EQ):Prop where
 en:REn i.K H env σ
 hp:RH i G H
 xo:XW X<|XKS i H Xe
variable {σ:St} {H:Hp} {H1:Hp} {G:gF.Hs} {Xe:gF.EQ}
def PreS.go{σ1:St}{env env1:gF.Env}{G1:gF.Hs}(p:PreS X i σ H env G Xe)(k:fH H H1)(r:RH i G1 H1)(e:REn i.K H1 env1 σ1):PreS X i σ1 H1 env1 G1 Xe :=
 ⟨e,r,λÁ σ H0 s H' a cls s' I f ⟨e,c,G',ad,q1,q2,q3,q4⟩=>p.xo Á σ H0 s H' a cls s' I f ⟨e,c,G',ad,q1,q2,k.trans q3,q4⟩⟩
def PreS.pre{env:gF.Env}(p:PreS X i σ H env G Xe):Pre X i σ H env G (Xe env) :=
 ⟨p.en,p.hp,λÁ σ H0 s H' a cls s' I f ⟨c,G',ad,q1,q2,q3,q4⟩=>p.xo Á σ H0 s H' a cls s' I f ⟨env,c,G',ad,q1,q2,q3,q4⟩⟩
structure EOk(i:Inf)(H:Hp)(D:Ends)(N:gF.NQ)(R:gF.Q1)(B C:gF.NQ):Prop where
 nx:∀Ŝ Ū G' H',fH H H'->RH i G' H'->REn i.K H' Ŝ Ū->N Ŝ G'->D.nx Ū H'
 rt:∀v G' H' x,fH H H'->RH i G' H'->RV i.K H' v x->R v G'->D.rt x H'
 bk:∀Ŝ Ū G' H',fH H H'->RH i G' H'->REn i.K H' Ŝ Ū->B Ŝ G'->D.bk Ū H'
 ct:∀Ŝ Ū G' H',fH H H'->RH i G' H'->REn i.K H' Ŝ Ū->C Ŝ G'->D.ct Ū H'
def EOk.go{D:Ends}{N:gF.NQ}{R:gF.Q1}{B C:gF.NQ}(e:EOk i H D N R B C)(k:fH H H1):EOk i H1 D N R B C :=
 ⟨λa b c d k'=>e.nx a b c d<|k.trans k',λa b c d k'=>e.rt a b c d<|k.trans k',λa b c d k'=>e.bk a b c d<|k.trans k',λa b c d k'=>e.ct a b c d<|k.trans k'⟩
inductive tStx (X:Cx) (i:Inf) (Φ:gF.Fs) (m:gF.S) (D:Ends) (σ:St) (H:Hp):Prop
 |mk (env:gF.Env) (G:gF.Hs) (N:gF.NQ) (R:gF.Q1) (B C:gF.NQ) (Xe:gF.EQ) (p:PreS X i σ H env G Xe) (w:gF.wS Φ m env G N R B C Xe) (e:EOk i H D N R B C)
abbrev tSt(X:Cx)(i:Inf)(Φ:gF.Fs)(m:gF.S):TS:=tStx X i Φ m
inductive tBlx (X:Cx) (i:Inf) (Φ:gF.Fs) (m:gF.Ss) (D:Ends) (σ:St) (H:Hp):Prop
 |mk (env:gF.Env) (G:gF.Hs) (N:gF.NQ) (R:gF.Q1) (B C:gF.NQ) (Xe:gF.EQ) (p:PreS X i σ H env G Xe) (w:gF.wSs Φ m env G N R B C Xe) (e:EOk i H D N R B C)
abbrev tBl(X:Cx)(i:Inf)(Φ:gF.Fs)(m:gF.Ss):TS:=tBlx X i Φ m
variable {st:Į} {t':TS}
def _root_.L2.PS.imp{t:TS}(h:PS X st t)(f:∀D σ H,t' D σ H->t D σ H):PS X st t':=λÁ s σ H D I q=>h Á s σ H D I (f D σ H q)
def _root_.L2.PSs.imp{st:List Į}{t:TS}(h:PSs X st t)(f:∀D σ H,t' D σ H->t D σ H):PSs X st t':=λÁ s σ H D I q=>h Á s σ H D I (f D σ H q)
def LE:PSs X []<|tBl X i Φ .nil:=pss_nil.imp λD σ H ⟨env,G,N,R,B,C,Xe,p,w,c⟩=>by exact c.nx env σ G H (fH.refl H) p.hp p.en w
def GM{sts:List Į}{m:gF.S}{ms:gF.Ss}(h1:PS X st<|tSt X i Φ m)(h2:PSs X sts<|tBl X i Φ ms):PSs X (st::sts) (tBl X i Φ<|.cons m ms) :=
 (Dg h1 h2).imp λD σ H ⟨env,G,N,R,B,C,Xe,p,w,c⟩=>by exact⟨env,G,_,R,B,C,Xe,p,w,⟨λŜ Ū G' H' k g e w'=>⟨Ŝ,G',N,R,B,C,Xe,p.go k g e,w',c.go k⟩,c.rt,c.bk,c.ct⟩⟩
variable {m:gF.E}
def Iw(he:PE X e<|tE X i Φ m):PS X (.Return (eZ e) ç) (tSt X i Φ<|.ret m) :=
 (IZ he).imp λD σ H ⟨env,G,N,R,B,C,Xe,p,w,c⟩=>by exact⟨env,G,R,Xe env,p.pre,w,c.rt⟩
def Hk:PS X (.Return fb ç) (tSt X i Φ .retN) :=
 ps_retN.imp λD σ H ⟨env,G,N,R,B,C,Xe,p,w,c⟩=>by exact c.rt _ G H _ (fH.refl H) p.hp .non w
def GL(he:PE X e<|tE X i Φ m)(hs:Ţ e fb ç.line X.env=pure fe):PS X (.Expr e ç) (tSt X i Φ<|.expr m) :=
 (F1 he hs).imp λD σ H ⟨env,G,N,R,B,C,Xe,p,w,c⟩=>by exact⟨env,G,_,Xe env,p.pre,w,λv G1 H1 x k1 g1 r1 w1=>c.nx env σ G1 H1 k1 g1 (p.en.keep k1) w1⟩
def L8{t:Expr}{a b:List Į}{mt:gF.Tt}{ma mb:gF.Ss}(ht:PT X t<|tTt X i Φ mt)(ha:PSs X a<|tBl X i Φ ma)(hb:PSs X b<|tBl X i Φ mb):PS X (.If t a b ç) (tSt X i Φ<|.ite mt ma mb) :=
 (Qx ht ha hb).imp λD σ H ⟨env,G,N,R,B,C,Xe,p,w,c⟩=>by
  refine⟨env,G,_,Xe env,p.pre,w,λd G1 H1 k1 g1 q=>?_⟩;cases d with
  |true=>exact⟨env,G1,N,R,B,C,Xe,p.go k1 g1<|p.en.keep k1,⇑q,c.go k1⟩
  |false=>exact⟨env,G1,N,R,B,C,Xe,p.go k1 g1<|p.en.keep k1,⇑q,c.go k1⟩
abbrev gPt(i:Inf)(p:gF.Pt):TG:=λx σ H Q=>∃v env G ś,RV i.K H v x/\RH i G H/\REn i.K H env σ/\gF.bind p G v env=eZ ś/\∀σ2,REn i.K H ś σ2->Q σ2 H
variable {tg:Expr}
def _root_.L2.PG.imp{t t':TG}(h:PG X tg t)(f:∀v σ H Q,t' v σ H Q->t v σ H Q):PG X tg t':=λÁ s σ H v u Q I r q=>h Á s σ H v u Q I r (f v σ H Q q)
def _root_.L2.PGs.imp{tg:List Expr}{t t':TGs}(h:PGs X tg t)(f:∀v σ H Q,t' v σ H Q->t v σ H Q):PGs X tg t':=λÁ s σ H v u Q I r q=>h Á s σ H v u Q I r (f v σ H Q q)
variable {x:Str} {j:Nat}
def O5(hN:X.N.Nodup)(hi:X.N[j]?=eZ x)(hx:Loc X.env.scope x)(hf:X.fn x=fc\/X.env.scope.names.lookup x=eZ .local):PG X (.Name x ç) (gPt i<|.one j) :=
 (Uv hN hi hx hf).imp λv σ H Q ⟨u,env,G,ś,r,g,e,b,h⟩=>by cases b;exact h _<|e.set r j
abbrev Cl(i:Inf)(js:List Nat):TGs:=λxs σ H Q=>∃vs env ś,RVs i.K H vs xs/\REn i.K H env σ/\gF.bindL js vs env=eZ ś/\∀σ2,REn i.K H ś σ2->Q σ2 H
def Fv:PGs X []<|Cl i []:=pgs_nil.imp λxs σ H Q ⟨vs,env,ś,r,e,b,h⟩=>by
 cases vs with
 |nil=>cases r;cases b;exact⟨rfl,h _ e⟩
 |cons _ _=>cases b
variable {js:List Nat}
def CO(hN:X.N.Nodup)(hi:X.N[j]?=eZ x)(hx:Loc X.env.scope x)(hf:X.fn x=fc\/X.env.scope.names.lookup x=eZ .local)(h2:PGs X es<|Cl i js)
  (hs:(Ğ (.Name x ç::es) X.env).map (·.2)=π (.Name x ç) X.env::(Ğ es X.env).map (·.2)):PGs X (.Name x ç::es) (Cl i<|j::js) :=
 (Jn (Uv hN hi hx hf) h2 hs).imp λxs σ H Q ⟨vs,env,ś,r,e,b,h⟩=>by
  cases vs with
  |nil=>cases b
  |cons v vs =>
   cases r with
   |cons r t=>exact⟨_,_,rfl,vs,env.set j<|eZ v,ś,t,e.set r j,b,h⟩
def Mb:∀{js:List Nat}{vs:List gF.Val}{env ś:gF.Env},gF.bindL js vs env=eZ ś->vs.length=js.length
 |[],[],_,_,_=>rfl
 |j::js,v::vs,env,_,h=>by rw[Ì,Ì,Mb<|show gF.bindL js vs (env.set j<|eZ v)=_ from h]
 |[],_::_,_,_,h=>by cases h
 |_::_,[],_,_,h=>by cases h
def Ar{k:Nat}(hK:X.K=i.K)(hc:X.calm=fc)(h:PGs X es<|Cl i js)(hn:(Ğ es X.env).length=js.length)(ō:(Ğ es X.env).findIdx? (·.1)=fb):PG X (.Tuple es k ç) (gPt i<|.many js) :=
 (Cb (n:=js.length) hc h hn ō).imp λv σ H Q ⟨u,env,G,ś,r,g,e,b,h⟩=>by
  cases u with
  |tup vs =>
   have b:gF.bindL js vs env=eZ ś:=b;cases r with
   |tup hp hr=>exact⟨_,_,rfl,by rw[hK];exact Zk hp,by rw[<-hr.length];exact Mb b,vs,env,ś,hr,e,b,h⟩
  |_=>cases b
def Hb{k k2:Nat}{p1 p2:Pos}(hK:X.K=i.K)(hc:X.calm=fc)(h1:PG X (.Name x p1)<|gPt i<|.one j)(h2:PG X (.Tuple es k2 p2)<|gPt i<|.many js):PG X (.Tuple [.Name x p1,.Tuple es k2 p2] k ç) (gPt i<|.nest j js) :=
 (Cb (n:=2) hc (Jn h1 (Jn h2 pgs_nil rfl) rfl) rfl rfl).imp λv σ H Q ⟨u,env,G,ś,r,g,e,b,h⟩=>by
  cases u with
  |tup vs =>
   cases vs with
   |nil=>cases b
   |cons x0 vs=>cases vs with
    |nil=>cases b
    |cons y vs=>cases vs with
     |cons _ _=>cases b
     |nil =>
      have b:(gF.tupOf y).bind (λys=>gF.bindL js ys<|env.set j<|eZ x0)=eZ ś:=b;cases r with
      |tup hp hr =>
       cases hr with
       |cons r0 t=>cases t with
        |cons r1 t =>cases t;exact⟨_,_,rfl,by rw[hK];exact Zk hp,rfl,_,_,rfl,x0,env,G,_,r0,g,e,rfl,λσ2 e2=>⟨_,_,rfl,y,_,G,ś,r1,g,e2,b,λσ3 e3=>⟨rfl,h σ3 e3⟩⟩⟩
  |_=>cases b
def Pk{q:gF.Pt}(he:PE X e<|tE X i Φ m)(hg:PG X tg<|gPt i q)(hs:Ϙ [tg] e ç.line X.env=pure fe)(hw:ϙ [tg] e X.env=pure fb)
  (h1:(Ğ [tg] X.env).map (·.2)=[π tg X.env]):PS X (.Assign [tg] e ç) (tSt X i Φ<|.set q m) :=
 (Ef he hg hs hw h1).imp λD σ H ⟨env,G,N,R,B,C,Xe,p,w,c⟩=>by refine⟨env,G,_,Xe env,p.pre,w,λv G1 H1 x k1 g1 r1 w1=>?_⟩;let⟨ś,e2,w1⟩:=fj w1;exact⟨v,env,G1,ś,r1,g1,p.en.keep k1,e2,λσ2 h2=>c.nx ś σ2 G1 H1 k1 g1 h2 w1⟩
abbrev Cz:V->V->V->Hp->(Hp->Prop)->Prop:=λo y v H Q=>HL o y v H Q\/HI o y v H Q
def Db{G G3:gF.Hs}{H:Hp}{o k v:gF.Val}{y z x:V}{Q:Hp->Prop}(g:RH i G H)(ry:RV i.K H o y)(rz:RV i.K H k z)(rx:RV i.K H v x)(e:gF.fW G o k v=eZ G3)(c:∀H3,fH H H3->RH i G3 H3->Q H3):Cz y z x H Q:=by
 cases o with
 |ref b =>
  cases ry.ref_inv
  replace e:(match G b with|some (.lst xs)=>(gF.gB k).bind λn=>(gF.ixN xs.length n).map λj=>gF.upd G b (.lst<|xs.set j v)|some (.dct kvs)=>if gF.fE k/\kvs.length<gF.lim then eZ (gF.upd G b<|.dct<|gF.fK kvs k v)else fb|some (.dtp kvs)=>if gF.isKeyT k/\kvs.length<gF.lim then eZ (gF.upd G b<|.dtp<|gF.fK kvs k v)else fb|_=>fb)=eZ G3:=e
  cases z4:G b with
  |none=>rw[z4]at e;cases e
  |some o =>
   rw[z4]at e;cases o with
   |lst xs =>let⟨n,hn,e⟩:=ê.mp e;let⟨jj,hj,rfl⟩:=Í.mp e;cases ZU hn;cases rz.int_inv;let⟨vs,h2,r2⟩:=g b _ z4;rw[MZ,r2.length]at hj;let⟨k3,g3⟩:=M3 (xs:=xs) g h2 (xs.set jj v) (vs.set jj x)<|r2.set rx jj;exact .inl ⟨b,vs,n,jj,rfl,rfl,h2,hj,c _ k3 g3⟩
   |dct kvs =>let⟨hk,e⟩:=Zq (show(if gF.fE k/\kvs.length<gF.lim then eZ (gF.upd G b<|.dct<|gF.fK kvs k v)else fb)=eZ G3 from e);cases e;let⟨ps,h2,r2⟩:=g b _ z4;let⟨d,kr,rfl⟩:=fz hk.1 rz;let⟨k3,g3⟩:=MA (kvs:=kvs) g h2<|r2.put kr rx;exact .inr ⟨b,_,rfl,DPut.k h2 (by rw[<-RKs.length r2];exact á hk.2 ZM),c _ k3 g3⟩
   |dtp kvs =>let⟨hk,e⟩:=Zq (show(if gF.isKeyT k/\kvs.length<gF.lim then eZ (gF.upd G b<|.dtp<|gF.fK kvs k v)else fb)=eZ G3 from e);cases e;let⟨ps,h2,r2⟩:=g b _ z4;let⟨a1,a2,d,rfl,rfl,hd⟩:=Jg hk.1 rz;let⟨k3,g3⟩:=G8 g h2<|r2.put (i:=a1) (j:=a2) rx;exact .inr ⟨b,_,rfl,DPut.t h2 hd (by rw[<-RTs.length r2];exact á hk.2 ZM),c _ k3 g3⟩
   |_=>cases e
 |_=>cases e
def BE{a j:Expr}{ma mj:gF.E}{ϣ:Pos}(hK:X.K=i.K)(he:PE X e<|tE X i Φ m)(ha:PE X a<|tE X i Φ ma)(hj:PE X j<|tE X i Φ mj)(hgl:PG X (.Subscript a j ϣ)<|Qi (tE X i Φ ma) (tE X i Φ mj) Cz)(hs:Ϙ [.Subscript a j ϣ] e ç.line X.env=pure fe)(hw:ϙ [.Subscript a j ϣ] e X.env=pure fb)
  (h1:(Ğ [.Subscript a j ϣ] X.env).map (·.2)=[π (.Subscript a j ϣ) X.env]):PS X (.Assign [.Subscript a j ϣ] e ç) (tSt X i Φ<|.setIdx ma mj m) :=
 (Ef he hgl hs hw h1).imp λD σ H ⟨env,G,N,R,B,C,Xe,p,w,c⟩=>by refine⟨env,G,_,Xe env,p.pre,w,λv G1 H1 x k1 g1 r1 w1=>?_⟩;refine two (p.go k1 g1<|p.en.keep k1).pre w1 λo k G2 H2 y z k2 p2 ry rz q=>?_;let⟨G3,e3,q⟩:=fj q;exact Db p2.hp ry rz (r1.keep k2) e3 λH3 k3 g3=>c.nx env σ _ _ ((k1.trans k2).trans k3) g3 (p2.en.keep k3) q
structure ItOk(i:Inf)(H0:Hp)(J:It)(st:gF.Hs->Prop)(xs:List gF.Val):Prop where
 go:∀n G H v,fH H0 H->RH i G H->st G->xs[n]?=eZ v->J.go n H/\∀x H',J.yld n H x H'->fH H H'/\RH i G H'/\RV i.K H' v x
 stop:∀n G H,fH H0 H->RH i G H->st G->xs.length<=n->J.stop n H
abbrev tIt(X:Cx)(i:Inf)(Φ:gF.Fs)(m:gF.It):TI:=λσ H R=>∃env G QI Em,Pre X i σ H env G Em/\gF.wI Φ m env G QI Em/\∀st xs G' H' J,fH H H'->RH i G' H'->ItOk i H' J st xs->QI st xs G'->R J H'
variable {tg:Expr} {e:Expr}
def _root_.L2.PI.imp{t t':TI}(h:PI X tg e t)(f:∀σ H Q,t' σ H Q->t σ H Q):PI X tg e t':=λÁ s σ H Q I q=>h Á s σ H Q I (f σ H Q q)
abbrev Sg(K:Frag)(tl:TE):TI:=λσ H R=>tl σ H λx H1=>∃a,x=.ref a/\(((∃xs,gp K H1 a xs)/\R (Itl K a) H1)\/((∃xs,gq K H1 a xs)/\R (Itt K a) H1))
def PR{l:Expr}{tl:TE}(hl:PE X l tl):PI X tg l<|Sg X.K tl:=by
 intro Á s σ H R I h;refine thn (hl Á s σ H _ I h) λv s1 ⟨x,H1,I1,r1,q1⟩=>?_;let⟨a,e,q1⟩:=q1;subst e;cases r1;rcases q1 with⟨⟨xs,hq⟩,q⟩|⟨⟨xs,hq⟩,q⟩
 .obtain⟨ô,rv,p,hz⟩:=I1.list hq;refine ϔ p.isList ?_;refine⟨s1.heap.objs.size,[s1.heap.objs.size],_,_,H1,rfl,I1.kept (t':=s1.toks) λb o e=>Å _ e,Bg a _,⟨_,Ò _ rfl,rfl,rfl⟩,λb hb=>?_,q⟩;have e:b=s1.heap.objs.size:=⇑hb
  subst e;exact I1.fpOk (Ñ _)<|I1.hok.fresh<|Ñ _
 .obtain⟨ô,rv,p,hz⟩:=I1.tuple hq;refine aL (show s1.heap.IsTuple a ô.toArray from p) ?_;refine⟨s1.heap.objs.size,[s1.heap.objs.size],_,_,H1,rfl,I1.kept (t':=s1.toks) λb o e=>Å _ e,Um a _,⟨_,Ò _ rfl,rfl,rfl⟩,λb hb=>?_,q⟩;have e:b=s1.heap.objs.size:=⇑hb
  subst e;exact I1.fpOk (Ñ _)<|I1.hok.fresh<|Ñ _
variable {H0:Hp} {a:Ë} {xs:List gF.Val}
def it_lst:ItOk i H0 (Itl i.K a) (λg=>gF.fx (g a)=eZ xs) xs where
 go:=λn G H v _ g e hv=>by let⟨vs,h1,h2⟩:=Z1 g e;let⟨x,h3,h4⟩:=h2.get hv;refine⟨⟨vs,x,h1,h3⟩,λy H' ⟨e1,e2⟩=>?_⟩;subst e1;have:=e2 vs h1;rw[h3]at this;cases this;exact⟨fH.refl _,g,h4⟩
 stop:=λn G H _ g e hn=>by let⟨vs,h1,h2⟩:=Z1 g e;exact⟨vs,h1,by rw[<-h2.length];exact hn⟩
def it_tup{vs:List V}(hp:H0 a=eZ (.tup vs)\/KT i.K a vs)(hr:RVs i.K H0 xs vs):ItOk i H0 (Itt i.K a) (λ_=>True) xs where
 go:=λn G H v k g e hv=>by have hp':H a=eZ (.tup vs)\/KT i.K a vs:=hp.imp (k.t _ _) id;let⟨x,h3,h4⟩:=(hr.keep k).get hv;refine⟨⟨vs,x,Zk hp',h3⟩,λy H' ⟨e1,e2⟩=>?_⟩;subst e1;have:=e2 vs<|Zk hp';rw[h3]at this;cases this;exact⟨fH.refl _,g,h4⟩
 stop:=λn G H k g e hn=>by have hp':H a=eZ (.tup vs)\/KT i.K a vs:=hp.imp (k.t _ _) id;exact⟨vs,Zk hp',by rw[<-hr.length];exact hn⟩
def it_scr{ns:List Int}(h:(∃o,H0 a=eZ (.frz o<|.lst<|ns.map V.int))\/KL i.K a (ns.map V.int)):ItOk i H0 (Itl i.K a) (λ_=>True) (ns.map .int) where
 go:=λn G H v k g e hv=>by have h':gp i.K H a<|ns.map V.int:=Yp<|h.imp (λ⟨o,e⟩=>⟨o,k.f _ _ _ e⟩) id;let⟨x,h3,h4⟩:=(RVs.ints (K:=i.K) (H:=H) ns).get hv;refine⟨⟨_,x,h',h3⟩,λy H' ⟨e1,e2⟩=>?_⟩;subst e1;have:=e2 _ h';rw[h3]at this;cases this;exact⟨fH.refl _,g,h4⟩
 stop:=λn G H k g e hn=>⟨_,Yp<|h.imp (λ⟨o,e⟩=>⟨o,k.f _ _ _ e⟩) id,⇑hn⟩
def Ph{lo hi:Int}{n:Nat}(hn:n=(hi - lo).toNat):ItOk i H0 (Itr lo n) (λ_=>True) (gF.fP lo hi) where
 go:=λk G H v _ g _ hv=>by
  unfold gF.fP at hv;rw[Ú]at hv;have hk:k<(hi - lo).toNat:=by
   by_cases h:k<(hi - lo).toNat
   .exact h
   .rw[ĭ<|by simpa using h]at hv;cases hv
  rw[List.getElem?_range hk]at hv;cases hv;refine⟨by rw[hn];exact hk,λx H' ⟨e1,e2⟩=>?_⟩;subst e1 e2;exact⟨fH.refl _,g,.int _⟩
 stop:=λk G H _ g _ hk=>by unfold gF.fP at hk;show n<=k;simp at hk;lia
variable {m:gF.E}
def P9(hK:X.K=i.K)(he:PE X e<|tE X i Φ m):PI X tg e (tIt X i Φ<|.seq m) :=
 (PR he).imp λσ H R ⟨env,G,QI,Em,p,w,c⟩=>by
  refine one p w λv G1 H1 x k1 p1 r q=>?_;let⟨⟨st,xs⟩,e1,q2⟩:=fj q;clear q;rw[hK];cases v with
  |tup ys =>
   cases e1;cases r with
   |tup hp hr=>exact⟨_,rfl,.inr ⟨⟨_,Zk hp⟩,c _ _ G1 H1 _ k1 p1.hp (it_tup hp hr) q2⟩⟩
  |scr ns =>
   cases e1;cases r with
   |scr h=>exact⟨_,rfl,.inl ⟨⟨_,Yp h⟩,c _ _ G1 H1 _ k1 p1.hp (it_scr h) q2⟩⟩
  |ref a =>
   cases r.ref_inv;simp only[gF.itV]at e1;cases z:gF.fx (G1 a)with
   |none=>rw[z]at e1;cases e1
   |some ys =>rw[z]at e1;cases e1;let⟨vs,h1,h2⟩:=Z1 p1.hp z;exact⟨a,rfl,.inl ⟨⟨vs,h1⟩,c _ _ G1 H1 _ k1 p1.hp it_lst q2⟩⟩
  |_=>cases e1
variable {ç:Pos}
def DZ{a:Expr}{p:Pos}(hg:Gl X "range")(hm:X.mg "range" = fb)(ha:PE X a<|tE X i Φ m)(hs:Ï [a] X.env=[(fe,eval a X.env)]):PI X tg (.Call (.Name "range" p) [a] [] ç) (tIt X i Φ<|.range m) :=
 (AD hg hm (ZA ha gk<|by rw[hs];rfl) hs).imp λσ H R ⟨env,G,QI,Em,p,w,c⟩=>by refine one p w λv G1 H1 x k1 p1 r q=>?_;let⟨n,e1,q2⟩:=fj q;clear q;cases ZU e1;cases r.int_inv;exact⟨n,rfl,q2.1.1,q2.1.2,c _ _ G1 H1 _ k1 p1.hp (Ph<|by rw[Int.sub_zero]) q2.2⟩
def Lg{Ŷ:Expr}{body:List Į}{q:gF.Pt}{mi:gF.It}{mb:gF.Ss}(hp:av (Õ X.prog X.w) X.A X.env X.xe)(hc:X.calm=fc)(hi:PI X tg Ŷ<|tIt X i Φ mi)(hg:PG X tg<|gPt i q)(hb:PSs X body<|tBl X i Φ mb)
  (hs:∀x,Ę Ŷ X.env x=pure x):PS X (.For tg Ŷ body [] ç) (tSt X i Φ<|.for q mi mb) :=
 (C8 hp hc hi hg hb hs).imp λD σ H ⟨env,G,N,R,B,C,Xe,p,w,c⟩=>by
  refine⟨env,G,_,Xe env,p.pre,w,λst xs G1 H1 J k1 g1 it w1=>?_⟩;refine⟨λn m Ū H'=>n+m=xs.length/\∃Ŝ G',fH H1 H'/\RH i G' H'/\REn i.K H' Ŝ Ū/\gF.wFor st (λv e g K M=>gF.go (gF.bind q g v e) λe2=>gF.wSs Φ mb e2 g K R M K Xe) N (xs.drop n) Ŝ G',⟨xs.length,by lia,env,G1,fH.refl _,g1,p.en.keep k1,⇑w1⟩,?_⟩;rintro n m Ū H' ⟨hnm,Ŝ,G',k2,g2,e2,w2⟩;by_cases hn:n<xs.length
  .right;have hd:xs.drop n=xs[n]::xs.drop (n+1):=Υ hn;rw[hd]at w2;let⟨s2,w2⟩:=w2;have hv:xs[n]?=eZ xs[n]:=È hn;let⟨a1,a2⟩:=it.go n G' H' xs[n] k2 g2 s2 hv;refine⟨a1,λσ3 H3=>∃env3 G3,fH H1 H3/\RH i G3 H3/\REn i.K H3 env3 σ3/\gF.wFor st (λv e g K M=>gF.go (gF.bind q g v e) λe2=>gF.wSs Φ mb e2 g K R M K Xe) N (xs.drop<|n+1) env3 G3,λσ3 H3 h=>⟨m - 1,by lia,by lia,h⟩,λx H3 hy=>?_⟩;let⟨k3,g3,r3⟩:=a2 x H3 hy;let⟨de,e4,w4⟩:=fj w2;refine⟨xs[n],Ŝ,G',de,r3,g3,e2.keep k3,e4,λσ4 h4=>?_⟩;have kk:fH H H3:=(k1.trans k2).trans k3;refine⟨de,G',_,R,N,_,Xe,p.go kk g3 h4,w4,⟨λdL σ5 G5 H5 k5 g5 e5 w5=>?_,(c.go kk).rt,(c.go kk).nx,λdL σ5 G5 H5 k5 g5 e5 w5=>?_⟩⟩
   .exact⟨dL,G5,(k2.trans k3).trans k5,g5,e5,w5⟩
   .exact⟨dL,G5,(k2.trans k3).trans k5,g5,e5,w5⟩
  .left;have hd:xs.drop n=[]:=ŗ (by lia);rw[hd]at w2;exact⟨it.stop n G' H' k2 g2 w2.1 (by lia),c.nx Ŝ Ū G' H' (k1.trans k2) g2 e2 w2.2⟩
def Qa:NZ i .len λxs H Q=>((∃p ys,xs=[.ref p]/\(gp i.K H p ys\/gq i.K H p ys)/\Q (.int ys.length) H)\/∃z,xs=[.str z]/\z.length<=Ö/\Q (.int z.length) H)\/∃a kvs,xs=[V.ref a]/\H a=eZ (.dK kvs)/\Q (.int kvs.length) H:=by
 intro vs G H xs Q Qm g r w c;let⟨v,rfl,w⟩:=Wx w;let⟨x,rfl,rx⟩:=r.inv1;cases v with
 |ref a =>
  cases rx.ref_inv
  replace w:(match G a with|some (.lst xs)=>.val (.int xs.length)|some (.dct kvs)=>.val (.int kvs.length)|_=>.no:gF.Rs).wp G Qm:=w
  cases z:G a with
  |none=>rw[z]at w;exact(Zh w).elim
  |some o =>
   rw[z]at w;cases o with
   |lst ys =>let⟨us,h1,h2⟩:=g a _ z;refine .inl<|.inl ⟨a,us,rfl,.inl<|gp.of h1,?_⟩;rw[<-h2.length];exact c _ G H _ (fH.refl H) g (.int _)<|Zr w
   |dct kvs =>let⟨ps,h1,h2⟩:=g a _ z;refine .inr ⟨a,ps,rfl,h1,?_⟩;rw[<-h2.length];exact c _ G H _ (fH.refl H) g (.int _)<|Zr w
   |_=>exact(Zh w).elim
 |tup ys =>
  cases rx with
  |tup hp hr =>refine .inl<|.inl ⟨_,_,rfl,.inr<|Zk hp,?_⟩;rw[<-hr.length];exact c _ G H _ (fH.refl H) g (.int _)<|Zr w
 |scr ns =>
  cases rx with
  |scr h =>refine .inl<|.inl ⟨_,_,rfl,.inl<|Yp h,?_⟩;rw[Ã];exact c _ G H _ (fH.refl H) g (.int _)<|Zr w
 |str s =>cases rx.str_inv;let⟨hl,w⟩:=Wu w;refine .inl (.inr ⟨_,rfl,by rw[ZB];exact Ý hl ZM,?_⟩);rw[ZB];exact c _ G H _ (fH.refl H) g (.int _)<|Zr w
 |_=>exact(Zh w).elim
def F3:NZ i .list λxs H Q=>∃p ys,xs=[.ref p]/\(gp i.K H p ys\/gq i.K H p ys)/\∀l,H l=fb->Q (.ref l) (upd H l<|.lst ys):=by
 intro vs G H xs Q Qm g r w c;let⟨v,rfl,w⟩:=Wx w;let⟨x,rfl,rx⟩:=r.inv1;cases v with
 |ref a =>cases rx.ref_inv;let⟨ys,e,w⟩:=N8 (f:=λxs=>.new<|.lst xs) w;let⟨us,h1,h2⟩:=g a _ e;exact⟨a,us,rfl,.inl<|gp.of h1,Yz g (ML w) c λp hp=>⟨_,fh,h2.keep<|fH.new hp⟩⟩
 |tup ys =>
  cases rx with
  |tup hp hr=>exact⟨_,_,rfl,.inr<|Zk hp,Yz g (ML w) c λp hp=>⟨_,fh,hr.keep<|fH.new hp⟩⟩
 |_=>exact(Zh w).elim
variable {H:Hp}
def BH{K:Frag}:∀{xs:List gF.Val}{bs:List Bool}{vs:List V},gF.blsOf xs=eZ bs->RVs K H xs vs->vs=bs.map V.bl:=by
 intro xs;induction xs with
 |nil=>intro bs vs e r;cases e;cases r;rfl
 |cons v xs ih =>
  intro bs vs e r;cases v<;>first|(cases e;done)|skip
  case bl b =>
  simp only[gF.blsOf]at e;cases z:gF.blsOf xs with
  |none=>rw[z]at e;cases e
  |some ns=>rw[z]at e;cases e;cases r with|cons a t=>cases a.bl_inv;rw[ih z t];rfl
def Ig{o:Option gF.Val}{h:gF.Hs}{Q:gF.Q1}(w:(gF.Rs.ofO o).wp h Q):∃v,o=eZ v/\Q v h:=by
 cases o with
 |none=>exact(Zh w).elim
 |some v=>exact⟨v,rfl,Zr w⟩
def IE:NZ i .all λxs H Q=>∃p,∃bs:List Bool,xs=[.ref p]/\gp i.K H p (bs.map V.bl)/\Q (.bl<|bs.all id) H:=by
 intro vs G H xs Q Qm g r w c;let⟨v,rfl,w⟩:=Wx w;let⟨x,rfl,rx⟩:=r.inv1;cases v with
 |ref a =>cases rx.ref_inv;let⟨v,e,w⟩:=Ig w;let⟨ys,z,e⟩:=ê.mp e;let⟨bs,z2,rfl⟩:=Í.mp e;let⟨us,h1,h2⟩:=Z1 g z;have:=BH z2 h2;subst this;exact⟨a,bs,rfl,h1,c _ G H _ (fH.refl H) g (.bl _) w⟩
 |_=>exact(Zh w).elim
set_option exponentiation.threshold 2000 in
def Dt{k:Int}(h:k.natAbs<10 ^ 200):k.natAbs.log2<1920:=by
 have e:(10:Nat) ^ 200<2 ^ 1920:=by decide
 by_cases h0:k.natAbs=0
 .rw[h0];decide
 .exact(Nat.log2_lt h0).mpr<|ε h e
def Pm:NZ i .str λxs H Q=>(∃i,xs=[.int i]/\i.natAbs.log2<1920/\Q (.str<|toString i) H)\/∃z,xs=[.str z]/\Q (.str z) H:=by
 intro vs G H xs Q Qm g r w c;let⟨v,rfl,w⟩:=Wx w;let⟨x,rfl,rx⟩:=r.inv1;cases v with
 |int a =>cases rx.int_inv;let⟨hl,w⟩:=Wu w;exact .inl ⟨a,rfl,Dt hl,c _ G H _ (fH.refl H) g (.str _)<|Zr w⟩
 |str s=>cases rx.str_inv;exact .inr ⟨_,rfl,c _ G H _ (fH.refl H) g (.str _)<|Zr w⟩
 |_=>exact(Zh w).elim
def BZ(ds:List gF.D)(d:gF.D):(toDs ds).any (λe=>Ĭ e<|toD d)=ds.any λe=>gF.D.eqv e d:=by
 induction ds with
 |nil=>rfl
 |cons e es ih=>simp only[toDs,Ģ,ih,Nc]
variable {G:gF.Hs} {y:V} {ys:List gF.Val}
def Am(g:RH i G H){v u:gF.Val}{x:V}{c:Bool}(rx:RV i.K H v x)(e:gF.inL G v ys=eZ c)(hy:∀ds,ys.mapM (gF.dat G<|gF.deep - 1)=eZ ds->IsD i.K H y (.tuple<|toDs ds)\/IsD i.K H y (.list<|toDs ds)) :
  ∃ds d,(IsD i.K H y (.tuple ds)\/IsD i.K H y (.list ds))/\IsD i.K H x d/\ř ds=fc/\d.canLay0=fc/\d.depth<=64/\ds.any (λe=>Ĭ e d)=c:=by
 unfold gF.inL at e;cases z:gF.dat G gF.deep v with
 |none=>rw[z]at e;cases e
 |some d =>
  rw[z]at e;simp only[ð]at e;cases z2:ys.mapM (gF.dat G<|gF.deep - 1)with
  |none=>rw[z2]at e;cases e
  |some ds =>rw[z2]at e;cases e;exact⟨_,_,hy ds z2,Wt g _ _ _ _ z rx,toDs_lay ds,Mm d,Ý (KG _ _ _ z) (by decide),BZ ds d⟩
def Ae(g:RH i G H){u:gF.Val}(ry:RV i.K H u y)(hu:u=.tup ys\/∃a,u=.ref a/\gF.fx (G a)=eZ ys):∀ds,ys.mapM (gF.dat G<|gF.deep - 1)=eZ ds->IsD i.K H y (.tuple<|toDs ds)\/IsD i.K H y (.list<|toDs ds):=by
 intro ds hd;rcases hu with rfl|⟨a,rfl,hl⟩
 .left;have:=Wt g gF.deep (.tup ys) (.tup ds) y (by show Option.map _ (List.mapM (gF.dat G<|gF.deep - 1) ys)=_;rw[hd];rfl) ry;simpa[toD]using this
 .right;have:=Wt g gF.deep (.ref a) (.lst ds) y (by show(gF.fx<|G a).bind _=_;rw[hl];show Option.map _ (List.mapM (gF.dat G<|gF.deep - 1) ys)=_;rw[hd];rfl) ry;simpa[toD]using this
def LR(s t:String)(c:Char)(h:gF.oneC s=eZ c):(!(Builtin.Str.occurrences (gO t) (gO s) 0 (gO t).length 1).isEmpty)=gN (c∈t.toList):=by
 have e:gO s=⟨#[c.toNat]⟩:=by
  unfold gF.oneC at h;split at h
  .rename_i d hd;cases h;rw[Str.ofString_eq_toList,hd];rfl
  .cases h
 rw[e,StrLaws.found_one,Ax];have inj:∀{a b:Char},a.toNat=b.toNat->a=b:=λ{a b} e=>Char.ext<|bW e;by_cases hc:c∈t.toList
 .rw[gK hc,gL];exact ú hc
 .rw[gJ hc,decide_eq_false_iff_not];intro m;let⟨d,hd,he⟩:=Û.mp m;exact hc<|inj he▸hd
abbrev Rk(K:Frag):R2:=λx y H Q=>FT fe x y H Q\/Fk K fe x y H Q\/∃i j,x=.str i/\y=.str j/\Q (.bl (!(Builtin.Str.occurrences j i 0 j.length 1).isEmpty)) H
abbrev Qo(K:Frag):R2:=λx y H Q=>FT fc x y H Q\/Fk K fc x y H Q\/∃i j,x=.str i/\y=.str j/\Q (.bl (!(!(Builtin.Str.occurrences j i 0 j.length 1).isEmpty))) H
def SQ(hu:X.A.units+65<Ķ):OpR X (ì .In)<|Rk X.K:=(IV<|by lia).or ((Pu hu).or BC)
def SG(hu:X.A.units+65<Ķ):OpR X (ì .NotIn)<|Qo X.K:=(P3<|by lia).or ((At hu).or MK)
def HW{v u:gF.Val}{G:gF.Hs}{H:Hp}{x y:V}{b:Bool}(g:RH i G H)(rx:RV i.K H v x)(ry:RV i.K H u y)(e:gF.inV G v u=eZ b) :
  (∃ds d,(IsD i.K H y (.tuple ds)\/IsD i.K H y (.list ds))/\IsD i.K H x d/\ř ds=fc/\d.canLay0=fc/\d.depth<=64/\ds.any (λe=>Ĭ e d)=b)\/
  (∃j k,x=.str j/\y=.str k/\(!(Builtin.Str.occurrences k j 0 k.length 1).isEmpty)=b)\/∃a o,y=.ref a/\DGet H a x o/\o.isSome=b:=by
 cases u with
 |tup ys=>exact .inl<|Am (u:=.tup ys) g rx e<|Ae g ry<|.inl rfl
 |ref a =>
  replace e:(match G a with|some (.lst xs)=>gF.inL G v xs|some (.dct kvs)=>if gF.fE v then eZ (gF.fJ kvs v)else fb|some (.frz kvs)=>if gF.fE v then eZ (gF.fJ kvs v)else fb|some (.dtp kvs)=>if gF.isKeyT v then eZ (gF.fJ kvs v)else fb|_=>fb)=eZ b:=e
  cases z:G a with
  |none=>rw[z]at e;cases e
  |some o =>
   rw[z]at e;cases o with
   |lst ys=>exact .inl (Am (u:=.ref a) g rx e<|Ae g ry<|.inr ⟨a,rfl,by rw[z];rfl⟩)
   |dct kvs =>let⟨hk,e⟩:=Zq (show(if gF.fE v then eZ (gF.fJ kvs v)else fb)=eZ b from e);cases e;let⟨ps,h1,h2⟩:=g a _ z;let⟨d,kr,rfl⟩:=fz hk rx;exact .inr (.inr ⟨a,_,ry.ref_inv,DGet.k h1,by rw[h2.has kr,Xs]⟩)
   |frz kvs =>let⟨hk,e⟩:=Zq (show(if gF.fE v then eZ (gF.fJ kvs v)else fb)=eZ b from e);cases e;let⟨ob,ps,h1,h2⟩:=g a _ z;let⟨d,kr,rfl⟩:=fz hk rx;exact .inr (.inr ⟨a,_,ry.ref_inv,.inl ⟨ps,d,.inr ⟨ob,h1⟩,rfl,rfl⟩,by rw[h2.has kr,Xs]⟩)
   |dtp kvs =>let⟨hk,e⟩:=Zq (show(if gF.isKeyT v then eZ (gF.fJ kvs v)else fb)=eZ b from e);cases e;let⟨ps,h1,h2⟩:=g a _ z;let⟨k1,k2,d,rfl,rfl,hd⟩:=Jg hk rx;exact .inr (.inr ⟨a,_,ry.ref_inv,DGet.t h1 hd,by rw[h2.has,Xs]⟩)
   |_=>cases e
 |str t =>
  cases v with
  |str s =>let⟨c,z,rfl⟩:=Í.mp e;exact .inr<|.inl ⟨_,_,rx.str_inv,ry.str_inv,LR s t c z⟩
  |_=>cases e
 |_=>cases e
def G0{o:Option Bool}{b:Bool}(e:o.map (!·)=eZ b):o=eZ (!b):=by let⟨c,z,rfl⟩:=Í.mp e;rw[z,aB]
def Sm:Yr i .isin<|Rk i.K:=by
 intro v u G H x y c Q g rx ry e q;rcases HW g rx ry e with⟨ds,d,h1,h2,h3,h4,h5,h6⟩|⟨j,k,h1,h2,h3⟩|⟨a,o,h1,h2,h3⟩
 .exact .inr (.inl ⟨ds,d,h1,h2,h3,h4,h5,by show Q (.bl<|List.any _ _) H;rw[h6];exact q⟩)
 .exact .inr (.inr ⟨j,k,h1,h2,by rw[h3];exact q⟩)
 .exact .inl ⟨a,o,h1,h2,by rw[h3,Bool.false_xor];exact q⟩
def SI:Yr i .notin<|Qo i.K:=by
 intro v u G H x y c Q g rx ry e q;rcases HW g rx ry (G0 e)with⟨ds,d,h1,h2,h3,h4,h5,h6⟩|⟨j,k,h1,h2,h3⟩|⟨a,o,h1,h2,h3⟩
 .exact .inr (.inl ⟨ds,d,h1,h2,h3,h4,h5,by show Q (.bl (!List.any _ _)) H;rw[h6,aB];exact q⟩)
 .exact .inr (.inr ⟨j,k,h1,h2,by rw[h3,aB];exact q⟩)
 .exact .inl ⟨a,o,h1,h2,by rw[h3,Bool.true_xor,aB];exact q⟩
variable {a:Expr} {b:Expr} {d:Expr} {ma:gF.E} {mb:gF.E} {op:cG} {dF:cG} {cop:gF.Cop} {cop':gF.Cop} {r:R2} {r':R2} {ç:Pos}
def Ho{md:gF.E}(ho:OpR X (ì op) r)(hr:Yr i cop r)(aF:OpR X (ì dF) r')(hr':Yr i cop' r')(ha:PE X a<|tE X i Φ ma)(hb:PE X b<|tE X i Φ mb)(hd:PE X d<|tE X i Φ md)(hm:bH [op,dF] [b,d]=fe) :
  PE X (.Compare a [op,dF] [b,d] ç) (tE X i Φ<|.chain cop cop' ma mb md) :=
 (Di ho aF ha hb hd hm).imp λσ H Q ⟨env,G,Qm,Em,p,w,k⟩=>by
  exact two p w λv u G2 H2 x y k2 p2 rx ry q=>by
   let⟨c,e,q⟩:=fj q;refine hr v u G2 H2 x y c _ p2.hp rx ry e ⟨c,rfl,?_⟩;cases c with
   |true =>
    rw[gG rfl]at q ⊢;exact one p2 q λt G3 H3 z k3 p3 rz q=>by let⟨d2,e2,q⟩:=fj q;exact hr' u t G3 H3 y z d2 Q p3.hp (ry.keep k3) rz e2<|k (.bl d2) G3 H3 (.bl d2) (k2.trans k3) p3.hp (.bl d2) q
   |false =>rw[gH ā]at q ⊢;exact k _ G2 H2 _ k2 p2.hp (.bl _) q
def B6{md:gF.E}(ho:OpR X (ì op) r)(hr:Yr i cop r)(aF:OpR X (ì dF) r')(hr':Yr i cop' r')(ha:PE X a<|tE X i Φ ma)(hb:PE X b<|tE X i Φ mb)(hd:PE X d<|tE X i Φ md)(hm:bH [op,dF] [b,d]=fe) :
  PT X (.Compare a [op,dF] [b,d] ç) (tTt X i Φ<|.val<|.chain cop cop' ma mb md) :=
 (Cv ho aF ha hb hd hm).imp λσ H Q ⟨env,G,Qm,Em,p,w,k⟩=>by
  exact two p w λv u G2 H2 x y k2 p2 rx ry q=>by
   let⟨c,e,q⟩:=fj q;refine hr v u G2 H2 x y c _ p2.hp rx ry e ⟨c,rfl,?_⟩;cases c with
   |true =>
    rw[gG rfl]at q ⊢;exact one p2 q λt G3 H3 z k3 p3 rz q=>by let⟨d2,e2,q⟩:=fj q;let⟨d3,e3,q⟩:=fj q;cases e3;exact hr' u t G3 H3 y z d2 _ p3.hp (ry.keep k3) rz e2 ⟨d2,rfl,k d2 G3 H3 (k2.trans k3) p3.hp q⟩
   |false =>rw[gH ā]at q ⊢;let⟨d3,e3,q⟩:=fj q;cases e3;exact⟨fe,rfl,k _ G2 H2 k2 p2.hp q⟩
def D6{st:Į}:PS X st<|tSt X i Φ .never:=λÁ s σ H D I ⟨env,G,N,R,B,C,Xe,p,w,c⟩=>by exact w.elim
abbrev tPt(X:Cx)(i:Inf)(Φ:gF.Fs)(m:gF.E):TE:=λσ H Q=>∃env G Qm Em,Pre X i σ H env G Em/\gF.wE Φ m env G Qm Em/\∀v G' H',fH H H'->RH i G' H'->Qm v G'->∃s,gF.fmtV v=eZ s/\s.length<=gF.lim/\Q (.str<|gO s) H'
abbrev tJs(X:Cx)(i:Inf)(Φ:gF.Fs)(ms:gF.Es):TJ:=λσ H Ĵ Q=>∃env G a Qm Em,Ĵ=gO a/\a.length<=gF.lim/\Pre X i σ H env G Em/\gF.wJ Φ ms env G a Qm Em/\∀s G' H',fH H H'->RH i G' H'->Qm s G'->Q (gO s) H'
def _root_.L2.PJ.imp{vs:List Expr}{t t':TJ}(h:PJ X vs t)(f:∀σ H Ĵ Q,t' σ H Ĵ Q->t σ H Ĵ Q):PJ X vs t':=λÁ s σ H Ĵ Q I q=>h Á s σ H Ĵ Q I (f σ H Ĵ Q q)
variable {e:Expr} {m:gF.E} {ç:Pos}
def Lc(he:PE X e<|tE X i Φ m):PE X (.FormattedValue e (-1) fb ç) (tPt X i Φ m) :=
 (FH he).imp λσ H Q ⟨env,G,Qm,Em,p,w,c⟩=>by
  refine⟨env,G,Qm,Em,p,w,λv G1 H1 x k1 g1 r1 w1=>?_⟩;let⟨s,e1,hl,q⟩:=c v G1 H1 k1 g1 w1;cases v with
  |str t=>cases e1;cases r1.str_inv;exact .inr ⟨_,rfl,by rw[ZB];exact Ý hl ZM,q⟩
  |int n =>
   cases r1.int_inv;simp only[gF.fmtV]at e1;split at e1
   .rename_i hn;cases e1;exact .inl ⟨n,rfl,Dt hn,q⟩
   .cases e1
  |_=>cases e1
def Ih{s:String}{j:Nat}:PE X (.Constant (.str<|gO s) j ç) (tPt X i Φ<|.cst<|.str s) :=
 pe_str.imp λσ H Q ⟨env,G,Qm,Em,p,w,c⟩=>by let⟨t,e1,hl,q⟩:=c _ G H (fH.refl H) p.hp w;cases e1;exact q
def PF:PJ X []<|tJs X i Φ .nil:=pj_nil.imp λσ H Ĵ Q ⟨env,G,a,Qm,Em,e,hl,p,w,c⟩=>by subst e;exact⟨by rw[ZB];exact Ý hl ZM,c a G H (fH.refl H) p.hp w⟩
def UH{es:List Expr}{ms:gF.Es}(he:PE X e<|tPt X i Φ m)(hr:PJ X es<|tJs X i Φ ms)(hs:cK (e::es) X.env=eval e X.env::cK es X.env):PJ X (e::es) (tJs X i Φ<|.cons m ms) :=
 (FK he hr hs).imp λσ H Ĵ Q ⟨env,G,a,Qm,Em,e,hl,p,w,c⟩=>by subst e;refine⟨env,G,_,Em,p,w,λv G1 H1 k1 g1 w1=>?_⟩;let⟨s,e1,hl1,w2⟩:=fj w1;clear w1;refine⟨s,e1,by lia,_,rfl,?_,env,G1,a++s,Qm,Em,(MY a s).symm,by rw[cu];exact hl1,p.go k1 g1,w2,λt G2 H2 k2=>c t G2 H2<|k1.trans k2⟩;rw[<-MY,ZB,cu];exact Ý hl1 ZM
def X7{G:gF.Hs}{H:Hp}{p:Ë}{o:HO}(g:RH i G H)(hp:H p=fb):RH i G<|upd H p o:=g.hid (fH.new hp) λb u e=>ff (by rintro rfl;rw[g.free hp]at e;cases e)
abbrev tE0(i:Inf)(Φ:gF.Fs)(m:gF.E):TE:=λσ H Q=>∃env G Qm,REn i.K H env σ/\RH i G H/\gF.wE Φ m env G Qm (λ_ _=>False)/\Cn i H Q Qm
abbrev tT0(i:Inf)(Φ:gF.Fs)(m:gF.Tt):TT:=λσ H Q=>∃env G Qm,REn i.K H env σ/\RH i G H/\gF.wT Φ m env G Qm (λ_ _=>False)/\∀b G' H',fH H H'->RH i G' H'->Qm b G'->Q b H'
variable {H:Hp}
def UV:XOk X i H λ_ _=>False:=λÁ σ H0 s H' a cls s' I f ⟨_,_,_,_,_,_,_,z⟩=>z.elim
variable {e:Expr}
def pe0{m:gF.E}(h:PE X e<|tE X i Φ m):PE X e<|tE0 i Φ m:=h.imp λσ H Q ⟨env,G,Qm,r,g,w,c⟩=>⟨env,G,Qm,_,⟨r,g,UV⟩,w,c⟩
def pt0{m:gF.Tt}(h:PT X e<|tTt X i Φ m):PT X e<|tT0 i Φ m:=h.imp λσ H Q ⟨env,G,Qm,r,g,w,c⟩=>⟨env,G,Qm,_,⟨r,g,UV⟩,w,c⟩
def _root_.L2.PIfs.imp{es:List Expr}{t t':TT}(h:PIfs X es t)(f:∀σ H Q,t' σ H Q->t σ H Q):PIfs X es t':=λÁ s σ H Q I q=>h Á s σ H Q I (f σ H Q q)
def LK:PIfs X []<|tT0 i Φ .yes:=pifs_nil.imp λσ H Q ⟨env,G,Qm,r,g,w,c⟩=>by exact c fc G H (fH.refl H) g w
variable {õ:List Nat}
def Fj{K:Frag}{H':Hp}{env:gF.Env}{σ:St}{k:Nat}(r:REn K H env σ)(kp:fH H H'):REn K H' (Ø k fb++õ.map λj=>(env[j]?).getD fb)<|Ø k fb++OU σ õ:=by
 refine⟨by simp[OU],λn u e=>?_⟩;by_cases hn:n<k
 .rw[Č (by rw[ó];exact hn),Ŕ,gG hn]at e;cases e
 .rw[Ĕ (by rw[ó];lia),ó]at e ⊢;generalize n - k=n at e ⊢;simp only[Ú]at e;cases z:õ[n]? with
  |none=>rw[z]at e;cases e
  |some j =>
   rw[z]at e;simp only[ķ,Ĳ]at e;cases z2:env[j]? with
   |none=>rw[z2]at e;cases e
   |some o =>rw[z2]at e;have e:o=eZ u:=e;subst e;let⟨y,h1,h2⟩:=r.get j u z2;exact⟨y,by unfold OU;rw[Ú,z];show eZ ((σ[j]?).getD fb)=_;rw[h1];rfl,h2.keep kp⟩
abbrev OA(k:Nat):gF.Pt->Bool
 |.one j=>gN (j<k)
 |.many js=>js.all λj=>gN (j<k)
 |.nest _ _=>fe
def Mc{r:gF.Env}:∀{js:List Nat}{vs:List gF.Val}{l ś:gF.Env},(js.all λj=>gN (j<l.length))=fc->gF.bindL js vs (l++r)=eZ ś->∃l',ś=l'++r/\l'.length=l.length
 |[],[],l,_,_,e=>by cases e;exact⟨l,rfl,rfl⟩
 |j::js,v::vs,l,_,h,e=>by rw[List.all_cons,bAq,gL]at h;have e:gF.bindL js vs ((l++r).set j<|eZ v)=_:=e;rw[di _ _ h.1]at e;let⟨l',h1,h2⟩:=Mc (l:=l.set j<|eZ v) (by rw[ο];exact h.2) e;exact⟨l',h1,by rw[h2,ο]⟩
 |[],_::_,_,_,_,h=>by cases h
 |_::_,[],_,_,_,h=>by cases h
variable {l:gF.Env} {r:gF.Env}
def D0{p:gF.Pt}{G:gF.Hs}{v:gF.Val}{ś:gF.Env}(h:OA l.length p=fc)(e:gF.bind p G v (l++r)=eZ ś):∃l',ś=l'++r/\l'.length=l.length:=by
 cases p with
 |one j =>have e:eZ ((l++r).set j<|eZ v)=eZ ś:=e;cases e;exact⟨l.set j<|eZ v,by rw[di _ _<|of_decide_eq_true h],ο⟩
 |many js =>
  cases v with
  |tup vs=>exact Mc h e
  |_=>cases e
 |nest j js=>cases h
def REn.pre{K:Frag}{τ:St}(q:REn K H (l++r) τ):REn K H (Ø l.length fb++r) τ:=by
 refine⟨by rw[<-q.len];simp,λn u e=>?_⟩;by_cases hn:n<l.length
 .rw[Č (by rw[ó];exact hn),Ŕ,gG hn]at e;cases e
 .rw[Ĕ (by rw[ó];lia),ó]at e;exact q.get n u (by rw[Ĕ<|by lia];exact e)
def UI{k:Nat}{pt:gF.Pt}(hk:OA k pt=fc){mi:gF.It}{mt:gF.Tt}{me:gF.E}:∀σ H Q,tE X i Φ (.comp õ k pt mi mt me) σ H Q->DJ (tIt X i Φ mi) k õ (gPt i pt) (tT0 i Φ mt) (tE0 i Φ me) σ H Q:=λσ H Q ⟨env,G,Qm,Em,p,w,c⟩=>by
 refine⟨env,G,_,Em,p,w,λst xs G1 H1 J k1 g1 it w1=>?_⟩;let⟨hl,w1⟩:=w1;generalize hstep:(λ(v:gF.Val) (h2:gF.Hs) (K:Option gF.Val->gF.Hs->Prop) (X2:gF.XQ)=>gF.go (gF.bind pt h2 v<|Ø k fb++õ.map λj=>(env[j]?).getD fb) λś =>
       gF.wT Φ mt ś h2 (λk h3=>if k=fc then gF.wE Φ me ś h3 (λu h4=>K (eZ u) h4) X2 else K fb h3) X2)=step at w1
 refine⟨λn m ys τ H'=>n+m=xs.length/\ys.length<=n/\REn i.K H' (Ø k fb++õ.map λj=>(env[j]?).getD fb) τ/\∃Ĵ G',fH H1 H'/\RH i G' H'/\RVs i.K H' Ĵ ys/\gF.wComp st step (xs.drop n) Ĵ G' (λys h5=>gF.new h5 (.lst ys) Qm) (λ_ _=>False),⟨xs.length,by lia,by simp,Fj p.en k1,[],G1,fH.refl _,g1,.nil,⇑w1⟩,?_⟩;rintro n m ys τ H' ⟨hnm,hly,en2,Ĵ,G',k2,g2,r2,w2⟩;refine⟨á (Ü (Ý hly<|by lia) hl) ZM,?_⟩;by_cases hn:n<xs.length
 .right;have hd:xs.drop n=xs[n]::xs.drop (n+1):=Υ hn;rw[hd]at w2;let⟨s2,w2⟩:=w2;have hv:xs[n]?=eZ xs[n]:=È hn;let⟨a1,a2⟩:=it.go n G' H' xs[n] k2 g2 s2 hv;refine⟨a1,λys3 τ3 H3=>ys3.length<=n+1/\REn i.K H3 (Ø k fb++õ.map λj=>(env[j]?).getD fb) τ3/\∃acc3 G3,fH H1 H3/\RH i G3 H3/\RVs i.K H3 acc3 ys3/\gF.wComp st step (xs.drop<|n+1) acc3 G3 (λys h5=>gF.new h5 (.lst ys) Qm) (λ_ _=>False),λys3 τ3 H3 h=>⟨m - 1,by lia,by lia,h.1,h.2⟩,λx H3 hy=>?_⟩;let⟨k3,g3,r3⟩:=a2 x H3 hy;rw[<-hstep]at w2;let⟨de,e4,w4⟩:=fj w2;rw[hstep]at w4;let⟨l',e5,h5⟩:=D0 (l:=Ø k fb) (by rw[ó];exact hk) e4;rw[ó]at h5;refine⟨xs[n],_,G',de,r3,g3,en2.keep k3,e4,λτ4 en4=>?_⟩;have Ϟ:REn i.K H3 (Ø k fb++õ.map λj=>(env[j]?).getD fb) τ4:=by
   rw[e5]at en4;have:=en4.pre;rw[h5]at this;exact this
  refine⟨_,G',_,en4,g3,w4,λd G5 H5 k5 g5 q5=>?_⟩;have kk:=(k2.trans k3).trans k5;cases d with
  |true =>refine⟨_,G5,_,en4.keep k5,g5,⇑q5,λu G6 H6 y k6 g6 r6 q6=>?_⟩;exact⟨⇑hly,(Ϟ.keep k5).keep k6,_,G6,kk.trans k6,g6,((((r2.keep k3).keep k5).keep k6).append<|.cons r6 .nil),q6⟩
  |false =>rw[gH ā]at q5;change if fe=fc then _ else _;rw[gH ā];have q5:gF.wComp st step (xs.drop<|n+1) (Ĵ++[]) G5 (λys h5=>gF.new h5 (.lst ys) Qm) λ_ _=>False:=q5;rw[ò]at q5;exact⟨by lia,Ϟ.keep k5,Ĵ,G5,kk,g5,(r2.keep k3).keep k5,q5⟩
 .left;have hd:xs.drop n=[]:=ŗ (by lia);rw[hd]at w2;refine⟨it.stop n G' H' k2 g2 w2.1 (by lia),?_⟩;exact Yz g2 w2.2 ((c.go k1).go k2) λq hq=>⟨_,fh,r2.keep<|fH.new hq⟩
abbrev Bs(i:Inf)(m:gF.Bm)(r:V->List V->Hp->VK->Prop):Prop:=∀(v:gF.Val) (vs:List gF.Val) (G:gF.Hs) (H:Hp) (x:V) (xs:List V) (t:gF.Val×gF.Hs) (Q:VK) (Qm:gF.Q1),
 RH i G H->RV i.K H v x->RVs i.K H vs xs->gF.bmV G m v vs=eZ t->Qm t.1 t.2->Cn i H Q Qm->r x xs H Q
abbrev IW(i:Inf)(m:gF.Bm)(T:String):Prop:=∀(v:gF.Val) (G:gF.Hs) (H:Hp) (x:V),RH i G H->RV i.K H v x->gF.bmTy G m v=fc->tyV i.K T x H
variable {m:gF.Bm}
def CB{o e:Expr}{es:List Expr}{name:Str}{Ł Ő:Pos}{T id:String}{r:V->List V->Hp->VK->Prop}{mo:gF.E}{ms:gF.Es}{n:Nat}(hK:X.K=i.K)(pa:PlainAttrs T)(slot:Slot T name id)(hty:eN (.builtin id)=pure (.type "method_descriptor"))(mt:MtR X id r)(hT:IW i m T)(hr:Bs i m r)
  (ho:PE X o<|tE X i Φ mo) (ha:PA X (e::es)<|tAr X i Φ ms n) (aR:ĩ o name X.env (eval o X.env)=eval o X.env)
  (aS:((Ď Ő<|Ï (e::es) X.env).all (λx=>!x.1)&&(Ŭ Ő<|ĺ [] X.env).all (λx=>x.1.isSome)&&gN ((e::es).length+([]:List be).length+(if([]:List be).isEmpty then 0 else 1)<30))=fc)
  (aT:(Ł.endLine==Ő.line)=fc) (hs:Ï (e::es) X.env=(fe,eval e X.env)::Ï es X.env) (cV:(Ď Ő<|Ï es X.env).any (·.1)=fe) :
  PE X (.Call (.Attribute o name Ł) (e::es) [] Ő) (tE X i Φ<|.bm m mo ms) :=
 (Rj pa slot hty mt ho ha aR aS aT hs cV).imp λσ H Q ⟨env,G,Qm,Em,p,w,c⟩=>by
  refine one p w λv G1 H1 x k1 p1 rv q=>⟨by rw[hK];exact hT v G1 H1 x p1.hp rv q.1,env,G1,_,Em,p1,q.2,λvs G2 H2 xs k2 g2 r2 _ w2=>?_⟩
  let⟨t,e,w3⟩:=fj w2;exact hr v vs G2 H2 x xs t Q Qm g2 (rv.keep k2) r2 e w3<|(c.go k1).go k2
def OG{o:Option gF.Ob}(h:gF.isDct o=fc):(∃xs,o=eZ (.dct xs))\/∃xs,o=eZ (.dtp xs):=by
 cases o with
 |none=>cases h
 |some o=>cases o with
  |dct xs=>exact .inl ⟨xs,rfl⟩
  |dtp xs=>exact .inr ⟨xs,rfl⟩
  |_=>cases h
def Rg(hm:m.ty=.l):IW i m "list":=λv G H x g r h=>by
 unfold gF.bmTy at h;rw[hm]at h;cases v with
 |ref a =>cases r.ref_inv;let⟨xs,e⟩:=O2 (show gF.isLst (G a)=fc from h);let⟨vs,h1,_⟩:=g a _ e;exact .inl ⟨rfl,vs,gp.of h1⟩
 |_=>cases h
def P4(hm:m.ty=.d):IW i m "dict":=λv G H x g r h=>by
 unfold gF.bmTy at h;rw[hm]at h;cases v with
 |ref a =>
  cases r.ref_inv;rcases OG (show gF.isDct (G a)=fc from h)with⟨xs,e⟩|⟨xs,e⟩
  .obtain⟨vs,h1,_⟩:=g a _ e;exact .inr<|.inr<|.inl ⟨rfl,.inl ⟨vs,h1⟩⟩
  .obtain⟨vs,h1,_⟩:=g a _ e;exact .inr<|.inr<|.inl ⟨rfl,.inr ⟨vs,h1⟩⟩
 |_=>cases h
variable {G:gF.Hs}
def UG{v:gF.Val}{f:gF.Ad->List gF.Val->Option (gF.Val×gF.Hs)}{t:gF.Val×gF.Hs}(e:gF.bmL G v f=eZ t):∃a xs,v=.ref a/\G a=eZ (.lst xs)/\f a xs=eZ t:=by
 cases v with
 |ref a=>let⟨xs,h1,h2⟩:=DV e;exact⟨a,xs,rfl,h1,h2⟩
 |_=>cases e
variable {vs:List gF.Val} {α:Type} {a:α}
def L6{f:gF.Val->Option α}(e:(match vs with|[v]=>f v|_=>fb)=eZ a):∃v,vs=[v]/\f v=eZ a:=by
 cases vs with
 |nil=>cases e
 |cons v vs=>cases vs with
  |nil=>exact⟨v,rfl,e⟩
  |cons _ _=>cases e
def LV:Bs i .append UM:=λv vs G H x xs t Q Qm g rx rs e q c=>by let⟨a,ys,rfl,e4,e3⟩:=UG e;let⟨u,rfl,e3⟩:=L6 e3;let⟨hl,e3⟩:=Zq e3;cases e3;cases rx.ref_inv;let⟨y,rfl,ry⟩:=rs.inv1;let⟨us,h2,r2⟩:=g a _ e4;let⟨k3,g3⟩:=M3 (xs:=ys) g h2 (ys++[u]) (us++[y])<|r2.app1 ry;exact⟨a,us,y,rfl,rfl,h2,by rw[<-r2.length];exact á hl ZM,c _ _ _ _ k3 g3 .non q⟩
def Fy:Bs i .popAt Cf:=λv vs G H x xs t Q Qm g rx rs e q c=>by
 let⟨a,ys,rfl,e4,e3⟩:=UG e;unfold gF.bmPopAt at e3;split at e3
 .rename_i n;let⟨hn,e3⟩:=Zq e3;let⟨k,z,e3⟩:=ê.mp e3;let⟨yv,z2,rfl⟩:=Í.mp e3;cases rx.ref_inv;let⟨y,rfl,ry⟩:=rs.inv1;cases ry.int_inv;let⟨us,h2,r2⟩:=g a _ e4;let⟨xv,hx,rv⟩:=r2.get z2;rw[MZ,r2.length]at z;let⟨s1,s2,s3,s4⟩:=Ms z;let⟨k3,g3⟩:=M3 (xs:=ys) g h2 (ys.eraseIdx k) (us.eraseIdx k)<|r2.eraseIdx k;exact⟨a,us,n,k,xv,rfl,rfl,h2,by lia,by lia,s1,hx,c _ _ _ _ k3 g3 (rv.keep k3) q⟩
 .cases e3
def MJ{v:gF.Val}{f:gF.Ad->List (gF.Val×gF.Val)->Option (gF.Val×gF.Hs)}{t:gF.Val×gF.Hs}(e:gF.bmD G v f=eZ t):∃a kvs,v=.ref a/\G a=eZ (.dct kvs)/\f a kvs=eZ t:=by
 cases v with
 |ref a =>
  let⟨kvs,h1,h2⟩:=ê.mp (show(gF.gA<|G a).bind (f a)=eZ t from e);refine⟨a,kvs,rfl,?_,h2⟩;cases z:G a with
  |none=>rw[z]at h1;cases h1
  |some o =>
   rw[z]at h1;cases o with
   |dct ys=>cases h1;rfl
   |_=>cases h1
 |_=>cases e
def Sn{f:gF.Val->gF.Val->Option α}(e:(match vs with|[v,u]=>f v u|_=>fb)=eZ a):∃v u,vs=[v,u]/\f v u=eZ a:=by
 cases vs with
 |nil=>cases e
 |cons v vs=>cases vs with
  |nil=>cases e
  |cons u us=>cases us with
   |nil=>exact⟨v,u,rfl,e⟩
   |cons _ _=>cases e
abbrev CZ:V->List V->Hp->VK->Prop:=λx vs H Q=>∃a y o,x=.ref a/\vs=[y]/\DGet H a y o/\Q (o.getD .non) H
def BR(hu:X.A.units+1<Ķ):MtR X "dict.get" CZ:=by intro Á s σ H x vs v us Q I rx rv h;let⟨a,y,o,rfl,rfl,d,q⟩:=h;cases rx;let⟨u,rfl,ru⟩:=rv.one;exact PX hu I d ru λw' s' I' bw=>⟨_,_,I',bw,q⟩
abbrev CG:V->List V->Hp->VK->Prop:=λx vs H Q=>∃a kvs k v more,x=.ref a/\vs=kV k::more/\(more=[]\/∃z,more=[z])/\H a=eZ (.dK kvs)/\YG kvs k=eZ v/\Q v (upd H a<|.dK<|fL kvs k)
def mt_dpop:MtR X "dict.pop" CG:=by
 intro Á s σ H x vs v us Q I rx rv h;let⟨a,kvs,k,y,more,rfl,rfl,hm,hH,l,q⟩:=h;cases rx;rcases hm with rfl|⟨z,rfl⟩
 .obtain⟨u,rfl,ru⟩:=rv.one;exact HE I hH ru l (.inl rfl) λw' s' I' bw=>⟨_,_,I',bw,q⟩
 .obtain⟨u,t,rfl,ru,rt⟩:=rv.two;exact HE I hH ru l (.inr ⟨_,rfl⟩) λw' s' I' bw=>⟨_,_,I',bw,q⟩
abbrev DL:V->List V->Hp->VK->Prop:=λx vs H Q=>∃a kvs k z,x=.ref a/\vs=[kV k,z]/\H a=eZ (.dK kvs)/\YG kvs k=fb/\Q z H
def DM:MtR X "dict.pop" DL:=by intro Á s σ H x vs v us Q I rx rv h;let⟨a,kvs,k,z,rfl,rfl,hH,l,q⟩:=h;cases rx;let⟨u,t,rfl,ru,rt⟩:=rv.two;exact LD I hH ru l λs' I'=>⟨_,_,I',rt,q⟩
def PL:Bs i .dget CZ:=λv vs G H x xs t Q Qm g rx rs e q c=>by
 let⟨a,kvs,rfl,e4,e3⟩:=MJ e;let⟨k,rfl,e3⟩:=L6 e3;let⟨hk,e3⟩:=Zq e3;cases e3;cases rx.ref_inv;let⟨y,rfl,ry⟩:=rs.inv1;let⟨ps,h2,r2⟩:=g a _ e4;let⟨d,kr,rfl⟩:=fz hk ry;refine⟨a,_,_,rfl,rfl,DGet.k (k:=d) h2,?_⟩;let⟨l1,l2⟩:=r2.look kr;cases z:gF.fI kvs k with
 |none=>rw[l2 z];rw[z]at q;exact c _ _ _ _ (fH.refl H) g .non q
 |some u=>let⟨x,hx,rv⟩:=l1 u z;rw[hx];rw[z]at q;exact c _ _ _ _ (fH.refl H) g rv q
def P1:Bs i .dpop CG:=λv vs G H x xs t Q Qm g rx rs e q c=>by let⟨a,kvs,rfl,e4,e3⟩:=MJ e;let⟨k,rfl,e3⟩:=L6 e3;let⟨hk,e3⟩:=Zq e3;let⟨u,z,rfl⟩:=Í.mp e3;cases rx.ref_inv;let⟨y,rfl,ry⟩:=rs.inv1;let⟨ps,h2,r2⟩:=g a _ e4;let⟨d,kr,rfl⟩:=fz hk ry;let⟨x,hx,rv⟩:=(r2.look kr).1 u z;let⟨k3,g3⟩:=MA (kvs:=kvs) g h2<|r2.drop kr;exact⟨a,ps,d,x,[],rfl,rfl,.inl rfl,h2,hx,c _ _ _ _ k3 g3 (rv.keep k3) q⟩
def O9{kvs:List (gF.Val×gF.Val)}{k:gF.Val}(h:gF.fI kvs k=fb):gF.fL kvs k=kvs:=by
 unfold gF.fL;rw[List.filter_eq_self];intro p hp;have h2:kvs.find? (λp=>p.1==k)=fb:=by unfold gF.fI at h;exact Option.map_eq_none_iff.mp h
 simpa using List.find?_eq_none.mp h2 p hp
def Gb:Bs i .dpopD λx vs H Q=>CG x vs H Q\/DL x vs H Q:=λv vs G H x xs t Q Qm g rx rs e q c=>by
 let⟨a,kvs,rfl,e4,e3⟩:=MJ e;let⟨k,dv,rfl,e3⟩:=Sn e3;let⟨hk,e3⟩:=Zq e3;cases e3;cases rx.ref_inv;let⟨y,z,rfl,ry,rz⟩:=rs.inv2;let⟨ps,h2,r2⟩:=g a _ e4;let⟨d,kr,rfl⟩:=fz hk ry;let⟨l1,l2⟩:=r2.look kr;cases z:gF.fI kvs k with
 |none =>
  refine .inr ⟨a,ps,d,_,rfl,rfl,h2,l2 z,?_⟩;rw[z,O9 z]at q;have e:gF.upd G a (.dct kvs)=G:=by
   funext b;by_cases hb:b=a
   .subst hb;rw[gF.fh,e4]
   .rw[gF.ff hb]
  rw[e]at q;exact c _ _ _ _ (fH.refl H) g rz q
 |some u =>let⟨x,hx,rv⟩:=l1 u z;let⟨k3,g3⟩:=MA (kvs:=kvs) g h2<|r2.drop kr;rw[z]at q;exact .inl ⟨a,ps,d,x,_,rfl,rfl,.inr ⟨_,rfl⟩,h2,hx,c _ _ _ _ k3 g3 (rv.keep k3) q⟩
def RFs.look{K:Frag}{H:Hp}{f:String}:∀{fs:List (String×gF.Val)}{ps:List (Str×V)},RFs K H fs ps->
  (∀v,fs.lookup f=eZ v->∃x,ps.lookup (gO f)=eZ x/\RV K H v x)/\(fs.lookup f=fb->ps.lookup (gO f)=fb)
 |_,_,.nil=>⟨λv e=>(by cases e),λ_=>rfl⟩
 |_,_,.cons (f:=g) (v:=u) (x:=y) r t=>by
  have ih:=RFs.look (f:=f) t;rw[â,â];by_cases e:f=g
  .subst e;rw[beq_self_eq_true,beq_self_eq_true];exact⟨λv z=>(by cases z;exact⟨y,rfl,r⟩),λz=>(by cases z)⟩
  .rw[show(f==g)=fe by simpa using e,show(gO f==gO g)=fe by rw[beq_eq_false_iff_ne];exact λz=>e<|ofS_inj.mp z];exact ih
def RFs.put{K:Frag}{H:Hp}{f:String}{v:gF.Val}{x:V}(q:RV K H v x):∀{fs:List (String×gF.Val)}{ps:List (Str×V)},RFs K H fs ps->RFs K H (gF.fA fs f v) (L2.fA (gO f) x ps)
 |_,_,.nil=>.cons q .nil
 |_,_,.cons (f:=g) (v:=u) (x:=y) r t=>by
  unfold gF.fA L2.fA;by_cases e:g=f
  .subst e;rw[gG rfl,gG rfl];exact .cons q t
  .rw[gH e,gH λz=>e<|ofS_inj.mp z];exact .cons r<|RFs.put q t
def RFs.length{K:Frag}{H:Hp}:∀{fs:List (String×gF.Val)}{ps:List (Str×V)},RFs K H fs ps->fs.length=ps.length
 |_,_,.nil=>rfl
 |_,_,.cons _ t=>by rw[Ì,Ì,RFs.length t]
structure FldOk(i:Inf)(f:String):Prop where
 no:∀C c,i.cl C c->NoAttr i.K c (gO f)
structure IC(K:Frag)(C:Ë):Prop where
 ha:PySem.W.findIn K (.ref C) "__class__" = eZ (eZ<|.builtin "object.__class__")
 hn:PySem.W.specialIn K (.builtin "object.__class__") "__get__" = eZ (eZ<|.builtin "getset_descriptor.__get__")
 htk:PySem.W.takesIn K (.builtin "object.__class__")=eZ fc
 hm:PySem.W.mroIn K C (.type "object")=eZ fc
structure ClsA(i:Inf):Prop where
 cls:∀C c,i.ins C=fc->i.cl C c->Cls i.K c
 ic:∀C c,i.cl C c->IC i.K c
 un:∀C a b,i.cl C a->i.cl C b->a=b
def Kf{o:Option gF.Ob}{p:String×List (String×gF.Val)}(h:gF.insOf o=eZ p):o=eZ (.ins p.1 p.2):=by
 cases o with
 |none=>cases h
 |some o=>cases o with
  |ins C fs=>cases h;rfl
  |_=>cases h
variable {G:gF.Hs} {f:String}
def KO{v u:gF.Val}(h:gF.fX G v f=eZ u):∃a C fs,v=.ref a/\G a=eZ (.ins C fs)/\fs.lookup f=eZ u:=by let⟨a,h1,h⟩:=ê.mp h;let⟨p,h2,h3⟩:=ê.mp h;exact⟨a,p.1,p.2,Jy h1,Kf h2,h3⟩
variable {o:Expr} {mo:gF.E} {ç:Pos}
def Qq(hK:X.K=i.K)(A:ClsA i)(F:FldOk i f)(ho:PE X o<|tE X i Φ mo)(hb:ĩ o (gO f) X.env (eval o X.env)=eval o X.env) :
  PE X (.Attribute o (gO f) ç) (tE X i Φ<|.fld mo f) :=
 (Pv ho hb).imp λσ H Q ⟨env,G,Qm,Em,p,w,c⟩=>by
  exact one p w λv G1 H1 x k1 p1 r q=>by let⟨u,e,q2⟩:=fj q;clear q;let⟨a,C,fs,rfl,e2,e3⟩:=KO e;cases r.ref_inv;let⟨c',dx,ps,hi,hc,h1,rf⟩:=p1.hp a _ e2;let⟨y,l,ry⟩:=rf.look.1 u e3;exact⟨a,c',dx,ps,y,rfl,h1,by rw[hK];exact A.cls _ _ hi hc,by rw[hK];exact F.no _ _ hc,l,c _ _ _ _ k1 p1.hp ry q2⟩
variable {C:String}
def UX{H:Hp}{a:Ë}{c' dx:Ë}{fs:List (String×gF.Val)}{ps ps2:List (Str×V)}(g:RH i G H)(hi:i.ins C=fc)(hc:i.cl C c')(h:H a=eZ (.ins c' dx ps2))(r:RFs i.K H fs ps) :
  fH H (upd H a<|.ins c' dx ps)/\RH i (gF.upd G a<|.ins C fs) (upd H a<|.ins c' dx ps):=by
 have k:fH H<|upd H a<|.ins c' dx ps:=fH.put (λxs e=>by rw[h]at e;cases e) λp u e=>by rw[h]at e;cases e
 exact⟨k,g.put k ⟨c',dx,ps,hi,hc,fh,r.keep k⟩⟩
def J8{G':gF.Hs}{o v:gF.Val}(h:gF.fY G o f v=eZ G'):∃a C fs,o=.ref a/\G a=eZ (.ins C fs)/\fs.length<900/\G'=gF.upd G a (.ins C<|gF.fA fs f v):=by
 cases o with
 |ref a =>
  unfold gF.fY at h;dsimp only at h;split at h
  .rename_i C fs e;let⟨hl,h⟩:=Zq h;cases h;exact⟨a,C,fs,rfl,e,hl,rfl⟩
  .cases h
 |_=>cases h
variable {e:Expr}
def AG{m:gF.E}{aD:Pos}(hK:X.K=i.K)(A:ClsA i)(F:FldOk i f)(ho:PE X o<|tE X i Φ mo)(he:PE X e<|tE X i Φ m)(hs:Ţ e (eZ<|.Attribute o (gO f) aD) ç.line X.env=pure fe) :
  PS X (.Assign [.Attribute o (gO f) aD] e ç) (tSt X i Φ<|.setFld mo f m) :=
 (P2 ho he hs).imp λD σ H ⟨env,G,N,R,B,C,Xe,p,w,c⟩=>by refine one p.pre w λv G1 H1 x k1 p1 r q=>?_;refine one p1 q λu G2 H2 y k2 p2 ry q=>?_;let⟨G3,e3,q2⟩:=fj q;clear q;let⟨a,D',fs,rfl,e2,hl,rfl⟩:=J8 e3;cases ry.ref_inv;let⟨c',dx,ps,hi,hc,h1,rf⟩:=p2.hp a _ e2;let⟨k3,g3⟩:=UX p2.hp hi hc h1<|rf.put (f:=f)<|r.keep k2;refine⟨a,c',dx,ps,rfl,h1,by rw[hK];exact A.cls _ _ hi hc,by rw[hK];exact F.no _ _ hc,by rw[<-rf.length];lia,?_⟩;have k:=(k1.trans k2).trans k3;exact c.nx _ _ _ _ k g3 (p.en.keep k) q2
def N3{op:gF.Bop}{x y z:gF.Val}(h:gF.augV op x y=eZ z):∃a b,x=.int a/\y=.int b/\((op=.add/\z=.int (a+b))\/(op=.sub/\z=.int (a - b))):=by
 unfold gF.augV at h;split at h
 .cases h;exact⟨_,_,rfl,rfl,.inl ⟨rfl,rfl⟩⟩
 .cases h;exact⟨_,_,rfl,rfl,.inr ⟨rfl,rfl⟩⟩
 .cases h
abbrev rAS(op:gF.Bop):V->V->Hp->VK->Prop:=λx y H Q=>∃a b,x=.int a/\y=.int b/\((op=.add/\Q (.int<|a+b) H)\/(op=.sub/\Q (.int<|a - b) H))
def AF{op:ϡ}{bop:gF.Bop}{n:Int}{k:Nat}{cU Ő:Pos}(hK:X.K=i.K)(A:ClsA i)(F:FldOk i f)(hop:Ck X op<|rAS bop)(ho:PE X o<|tE X i Φ mo) :
  PS X (.AugAssign (.Attribute o (gO f) cU) op (.Constant (.int n) k Ő) ç) (tSt X i Φ<|.augFld mo f bop n) :=
 (AT ho ON hop).imp λD σ H ⟨env,G,N,R,B,C,Xe,p,w,c⟩=>by
  refine one p.pre w λv G1 H1 x k1 p1 r q=>?_;let⟨u,e1,q2⟩:=fj q;clear q;let⟨a,C',fs,rfl,e2,e3⟩:=KO e1;cases r.ref_inv;let⟨c',dx,ps,hi,hc,h1,rf⟩:=p1.hp a _ e2;let⟨y,l,ry⟩:=rf.look.1 u e3;refine⟨a,c',dx,ps,y,rfl,h1,by rw[hK];exact A.cls _ _ hi hc,by rw[hK];exact F.no _ _ hc,l,?_⟩;let⟨z,e4,q3⟩:=fj q2;clear q2;let⟨G3,e5,q4⟩:=fj q3;clear q3;let⟨n1,n2,rfl,e0,hz⟩:=N3 e4;cases e0;cases ry.int_inv;let⟨a2,C2,fs2,e6,e7,hl,rfl⟩:=J8 e5;cases e6;rw[e2]at e7;cases e7;have fin:∀n:Int,z=.int n->∃dx' fs',H1 a=eZ (.ins c' dx' fs')/\fs'.length<1000/\D.nx σ (upd H1 a<|.ins c' dx'<|L2.fA (gO f) (.int n) fs'):=λn hn=>by subst hn;let⟨k3,g3⟩:=UX p1.hp hi hc h1<|rf.put (f:=f) (x:=.int n)<|.int n;refine⟨dx,ps,h1,by rw[<-rf.length];lia,?_⟩;exact c.nx _ _ _ _ (k1.trans k3) g3 (p.en.keep<|k1.trans k3) q4
  rcases hz with⟨e,hz⟩|⟨e,hz⟩
  .exact⟨n1,n,rfl,rfl,.inl ⟨e,fin _ hz⟩⟩
  .exact⟨n1,n,rfl,rfl,.inr ⟨e,fin _ hz⟩⟩
abbrev Dfm(pr:ä)(w:ö)(mg:Str->Option Â)(base:Ć)(i:Inf)(P:gF.Pg)(n:Nat)(f:String)(fa:Ë):Prop :=
 ∃fd ps,fO pr w i.K mg base (CX1 pr w) (2*n) fa fd ps (spF i P n f)/\Binds i.K fd ps []
variable {P:gF.Pg} {n:Nat} {es:List Expr} {ms:gF.Es} {p:Pos}
def PY{k:Nat}{Cn:String}{C f:Ë}(hK:X.K=i.K)(hi:i.ins Cn=fc)(hc:i.cl Cn C)(M:Mk i.K C f)(D:Dfm X.prog X.w X.mg X.base i P n (Cn ++ ".__init__") f)(hr:fN (2*n+1) X.A)
  (hg:Gl X<|gO Cn) (hm:X.mg (gO Cn)=eZ (.ref C)) (Ϯ:(gO Cn==("__debug__" : Str))=fe)
  (ha:PA X (e::es)<|tAr X i (gF.wF P n) ms k) (he:Ï (e::es) X.env=(fe,eval e X.env)::Ï es X.env) (hpl:(Ď ç<|Ï es X.env).any (·.1)=fe) :
  PE X (.Call (.Name (gO Cn) p) (e::es) [] ç) (tE X i (gF.wF P n)<|.make Cn ms):=by
 let⟨fd,ps,F,hb⟩:=D;rw[<-hK]at F hb M;intro Á s σ H Q I h;let⟨env,G,Qm,Em,pr,w,c⟩:=h;refine Hg (E:=XK1 i H Em) M F hr hg hm hb .nil (XW.passes pr.xo) ha Ϯ he hpl Á s σ H Q I ⟨env,G,_,Em,pr,w,λvs G1 H1 xs k1 g1 r1 hl w1 x dx hx hd ŭ=>?_⟩;have ka:fH H1<|upd H1 dx<|.own x:=fH.new hd;have cD:upd H1 dx (.own x) x=fb:=by rw[ff λz=>ŭ z.symm];exact hx
 have kb:fH (upd H1 dx<|.own x)<|upd (upd H1 dx<|.own x) x<|.ins C dx []:=fH.new cD;have g2:RH i G1<|upd H1 dx<|.own x:=X7 g1 hd;have g3:RH i (gF.upd G1 x<|.ins Cn [])<|upd (upd H1 dx<|.own x) x<|.ins C dx []:=g2.put kb ⟨C,dx,[],hi,hc,fh,.nil⟩;have k:=ka.trans kb;refine⟨.ref x::vs,_,_,Em,.cons (.ref x) (by rw[ò];exact r1.keep k),g3,w1 x<|g1.free hx,?_,λcls d H' h=>(h.go k).go k1⟩;intro v G' H' y k' g' rv ⟨hv,hq⟩;subst hv;exact⟨rv.non_inv,c _ G' H' _ ((k1.trans k).trans k') g' (.ref x) hq⟩
variable {m:String}
def WE{v:gF.Val}(h:gF.clsV G v m=eZ C):∃a fs,v=.ref a/\G a=eZ (.ins C fs)/\fs.lookup m=fb:=by
 let⟨a,h1,h⟩:=ê.mp h;let⟨p,h2,h3⟩:=ê.mp h;have e:=Kf h2;by_cases z:(p.2.lookup m).isNone=fc
 .rw[gG z]at h3;cases h3;exact⟨a,p.2,Jy h1,e,bh.mp z⟩
 .rw[gH z]at h3;cases h3
variable {Ł:Pos} {pl:Sem Bool}
def LM{k:Nat}{Cn:String}{C f:Ë}(hK:X.K=i.K)(hfn:∀c,i.cl Cn c->c=C)(A:Cls i.K C)(M:Meth i.K C (gO m) f)(D:Dfm X.prog X.w X.mg X.base i P n (Cn ++ "." ++ m) f)(hr:fN (2*n) X.A)
  (ho:PE X o<|tE X i (gF.wF P n) mo) (ha:PA X (e::es)<|tAr X i (gF.wF P n) ms k) (he:Ï (e::es) X.env=(fe,eval e X.env)::Ï es X.env) (hpl:(Ď ç<|Ï es X.env).any (·.1)=fe)
  (ht:eval (.Call (.Attribute o (gO m) Ł) (e::es) [] ç) X.env=(do
    let ov<-eval o X.env
    ψ Ł.atName
    let (f,first)<-Ŋ [ov] (ρ ov (gO m) pl)
    af ç f first (Ď ç<|Ï (e::es) X.env) (Ŭ ç<|ĺ [] X.env))) :
  PE X (.Call (.Attribute o (gO m) Ł) (e::es) [] ç) (tE X i (gF.wF P n)<|.meth Cn m mo ms):=by
 let⟨fd,ps,F,hb⟩:=D;rw[<-hK]at F hb M A;intro Á s σ H Q I h;let⟨env,G,Qm,Em,pr,w,c⟩:=h;refine F4 (E:=XK1 i H Em) ho A M F hr hb .nil (XW.passes pr.xo) ha he hpl ht Á s σ H Q I<|one pr w λv G1 H1 x k1 p1 rv q=>?_;let⟨hq,w1⟩:=q;let⟨a,fs,rfl,e2,e3⟩:=WE hq;cases rv.ref_inv;let⟨c',dx,cj,hi,hc,h1,rf⟩:=p1.hp a _ e2;cases hfn c' hc;refine⟨a,dx,cj,rfl,h1,rf.look.2 e3,env,G1,_,Em,p1,w1,λvs G2 H2 xs k2 g2 r2 hl w2=>?_⟩;exact⟨.ref a::vs,G2,Qm,Em,.cons (.ref a) (by rw[ò];exact r2),g2,w2,(c.go k1).go k2,λcls d H' h=>(h.go k2).go k1⟩
def Fw{Cn:String}{C f:Ë}(hK:X.K=i.K)(hfn:∀c,i.cl Cn c->c=C)(A:Cls i.K C)(M:Meth i.K C (gO m) f)(D:Dfm X.prog X.w X.mg X.base i P n (Cn ++ "." ++ m) f)(hr:fN (2*n) X.A)
  (ho:PE X o<|tE X i (gF.wF P n) mo)
  (ht:eval (.Call (.Attribute o (gO m) Ł) [] [] ç) X.env=(do
    let ov<-eval o X.env
    ψ Ł.atName
    let (f,first)<-Ŋ [ov] (ρ ov (gO m) pl)
    af ç f first (Ď ç<|Ï [] X.env) (Ŭ ç<|ĺ [] X.env))) :
  PE X (.Call (.Attribute o (gO m) Ł) [] [] ç) (tE X i (gF.wF P n)<|.meth Cn m mo .nil):=by
 let⟨fd,ps,F,hb⟩:=D;rw[<-hK]at F hb M A;intro Á s σ H Q I h;let⟨env,G,Qm,Em,pr,w,c⟩:=h;refine B7 (E:=XK1 i H Em) ho A M F hr hb .nil (XW.passes pr.xo) ht Á s σ H Q I<|one pr w λv G1 H1 x k1 p1 rv q=>?_;let⟨hq,w1⟩:=q;let⟨a,fs,rfl,e2,e3⟩:=WE hq;cases rv.ref_inv;let⟨c',dx,cj,hi,hc,h1,rf⟩:=p1.hp a _ e2;cases hfn c' hc;refine⟨a,dx,cj,rfl,h1,rf.look.2 e3,?_⟩;exact⟨[.ref a],G1,Qm,Em,.cons (.ref a) .nil,p1.hp,w1,c.go k1,λcls d H' h=>h.go k1⟩
def Go(hK:X.K=i.K)(D:Dfo X.prog X.w X.mg X.base i P n f)(hr:fN (2*n) X.A)(hg:Gl X<|gO f)(Ϯ:(gO f==("__debug__" : Str))=fe) :
  PE X (.Call (.Name (gO f) p) [] [] ç) (tE X i (gF.wF P n)<|.call f .nil):=by
 let⟨fa,fd,ps,F,hm,hk,hb⟩:=D;rw[<-hK]at F hk hb;intro Á s σ H Q I h;let⟨env,G,Qm,Em,pr,w,c⟩:=h;refine B3 (E:=XK1 i H Em) F hr hg hm hk hb .nil (XW.passes pr.xo) Ϯ Á s σ H Q I ?_;exact⟨[],G,Qm,Em,.nil,pr.hp,w,c,λcls d H' h=>h⟩
abbrev UP(X:Cx)(i:Inf)(Φ:gF.Fs):gF.Es->List (TE×TE)
 |.cons k (.cons v r)=>(tE X i Φ k,tE X i Φ v)::UP X i Φ r
 |_=>[]
abbrev Jo:gF.Es->Bool
 |.nil=>fc
 |.cons _ .nil=>fe
 |.cons _ (.cons _ r)=>Jo r
abbrev esL:gF.Es->Nat
 |.nil=>0
 |.cons _ es=>esL es+1
abbrev U5:List V->List (V×V)
 |x::y::r=>(x,y)::U5 r
 |_=>[]
def N4:∀(es:gF.Es),Jo es=fc->∀{σ:St}{H:Hp}{env:gF.Env}{G:gF.Hs}{Qm:List gF.Val->gF.Hs->Prop}{Em:gF.XQ}{Q:List (V×V)->Hp->Prop},Pre X i σ H env G Em->gF.wA Φ es env G Qm Em->
  (∀vs G' H' xs,fH H H'->RH i G' H'->RVs i.K H' vs xs->xs.length=esL es->Qm vs G'->Q (U5 xs) H')->MH (UP X i Φ es) σ H Q
 |.nil,_,σ,H,env,G,Qm,Em,Q,p,w,c=>by rw[gF.q_a_nil]at w;exact c [] G H [] (fH.refl H) p.hp .nil rfl w
 |.cons k .nil,h,_,_,_,_,_,_,_,_,_,_=>by cases h
 |.cons k (.cons v r),h,σ,H,env,G,Qm,Em,Q,p,w,c=>by rw[gF.q_a_cons]at w;refine one p w λa G1 H1 x k1 p1 ra q=>?_;rw[gF.q_a_cons]at q;refine one p1 q λb G2 H2 y k2 p2 rb q2=>?_;refine N4 r h p2 q2 λvs G' H' xs k3 g3 rv hl hq=>?_;exact c (a::b::vs) G' H' (x::y::xs) ((k1.trans k2).trans k3) g3 (.cons ((ra.keep k2).keep k3)<|.cons (rb.keep k3) rv) (by rw[Ì,Ì,hl];rfl) hq
def JX{K:Frag}{H:Hp}:∀{vs:List gF.Val}{xs:List V}{kvs:List (gF.Val×gF.Val)},RVs K H vs xs->gF.pairUp vs=eZ kvs->∃ps:List<|Key×V,U5 xs=ps.map (λkv=>(kV kv.1,kv.2))/\RKs K H kvs ps/\2*ps.length=xs.length
 |[],_,_,r,e=>by cases r;cases e;exact⟨[],rfl,.nil,rfl⟩
 |[_],_,_,_,e=>by cases e
 |a::b::vs,_,kvs,r,e=>by
  cases r with
  |cons ra r=>cases r with
  |cons rb t =>
  rename_i y _;unfold gF.pairUp at e;split at e
  .rename_i hk;let⟨ks,e2,rfl⟩:=Í.mp e;let⟨ps,h1,h2,h3⟩:=JX t e2;let⟨c,hc,rfl⟩:=fz hk ra;refine⟨(c,y)::ps,?_,.cons hc rb h2,by rw[Ì,Ì,Ì];lia⟩;show(kV c,y)::U5 _=_;rw[h1];rfl
  .cases e
def RKs.merge{K:Frag}{H:Hp}:∀{kvs:List (gF.Val×gF.Val)}{ps:List (Key×V)}{Ĵ:List (gF.Val×gF.Val)}{bs:List (Key×V)},RKs K H Ĵ bs->RKs K H kvs ps->RKs K H (gF.putAll Ĵ kvs) (Xr bs ps)
 |_,_,_,_,r,.nil=>r
 |_,_,Ĵ,bs,r,.cons (k:=k) (v:=v) (c:=c) (x:=x) (kvs:=kvs) (ps:=ps) a q t=>by show RKs K H (gF.putAll (gF.fK Ĵ k v) kvs) (Xr (L2.fK bs c x) ps);exact RKs.merge (RKs.put a q r) t
variable {ç:Pos}
def Id:PE X (.Dict [] [] ç) (tE X i Φ<|.dct .nil) :=
 pe_dnewK.imp λσ H Q ⟨env,G,Qm,Em,p,w,c⟩=>by rw[gF.q_e_dct]at w;unfold gF.new at w;intro a ha;have w1:=w a<|p.hp.free ha;let⟨a',e,w2⟩:=fj w1;cases e;rw[gF.q_a_nil]at w2;let⟨ks,e2,_,w3⟩:=fj w2;cases e2;rw[gF.fi]at w3;have k:=fH.new (o:=.dK []) ha;exact c _ _ _ _ k (p.hp.put (o:=.dct []) k ⟨[],fh,.nil⟩) (.ref a) w3
def QD{es:gF.Es}{keys:List (Option Expr)}{ύ:List Expr}(he:Jo es=fc)(h30:esL es<=30)(h:PPs X ç keys ύ<|UP X i Φ es)(hall:keys.all (·.isSome)=fc)(hl:keys.length=ύ.length)(h0:keys≠[])(h15:keys.length<=15):PE X (.Dict keys ύ ç) (tE X i Φ<|.dct es) :=
 (GQ h hall hl h0 h15).imp λσ H Q ⟨env,G,Qm,Em,p,w,c⟩=>by
  rw[gF.q_e_dct]at w;unfold gF.new at w;intro a ha;have w1:=w a<|p.hp.free ha;let⟨a',e,w2⟩:=fj w1;cases e;have k:=fH.new (o:=.dK []) ha;have p2:Pre X i σ (upd H a<|.dK []) env (gF.upd G a<|.dct []) Em:=p.go k<|p.hp.put (o:=.dct []) k ⟨[],fh,.nil⟩;refine N4 es he p2 w2 λvs G' H' xs k2 g2 rv hl w3=>?_;let⟨ks,e2,e3,w4⟩:=fj w3;let⟨ps,e4,r4⟩:=g2 a _ e3;cases r4;let⟨qs,h1,h2,h3⟩:=JX rv e2;refine⟨e4,qs,h1,by lia,?_⟩;have k3:fH H'<|upd H' a<|.dK<|Xr [] qs:=fH.put (λxs e=>by rw[e4]at e;cases e) λp u e=>by rw[e4]at e;cases e
  exact c _ _ _ _ ((k.trans k2).trans k3) (g2.put (o:=.dct<|gF.putAll [] ks) k3 ⟨_,fh,(RKs.merge .nil h2).keep k3⟩) (.ref a) w4
end Snd
namespace L2
open PySem PySem.Spec PyProof.Rows
section
variable {X:Cx}{Á:List (Ë×Obj)}{σ:St}{H:Hp}{s:Ä}{a:Ë}{o:Obj}{ps:List (Key×V)}
def Inv.freeze(I:Inv X Á σ H s)(e:H a=eZ (.dK ps))(ho:s.heap.get? a=eZ o):Inv X Á σ (upd H a<|.frz o<|.dK ps) s:=by have h:=I.hok a _ e;exact I.write (t':=s.toks) (x:=a) (e:=a) (h':=s.heap) (by rw[e];exact True.intro) (.inl rfl) (λ_ _ _ q=>q) ⟨o,ho⟩ ⟨ho,h⟩
def Inv.thaw(I:Inv X Á σ H s)(e:H a=eZ (.frz o<|.dK ps))(h0:∀o u,X.H₀ a≠eZ (.frz o u)):Inv X Á σ (upd H a<|.dK ps) s:=by
 have hn:∀b,H b=fb->upd H a (.dK ps) b=fb:=λb z=>by rw[ff<|by rintro rfl;rw[e]at z;cases z];exact z
 have ho:=I.hok a _ e;refine⟨I.ok,I.os,I.bare,⟨I.base.keep,I.base.slot,λb ob q n hx=>hn b<|I.base.free b ob q n hx,I.base.there,λb xs q=>?_,λb ob u q=>?_,λb qs q=>?_⟩,I.loc,I.cell,hn _ I.free,λx c q=>hn _<|I.freeC x c q,λp hp=>?_,λb u q=>?_,I.len⟩
 .have z:=I.base.tups b xs q;rw[ff<|by rintro rfl;rw[e]at z;cases z];exact z
 .have z:=I.base.frzs b ob u q;rw[ff<|by rintro rfl;exact h0 _ _ q];exact z
 .obtain⟨m,z⟩:=I.base.tbls b qs q;exact⟨m,by rw[ff<|by rintro rfl;rw[e]at z;cases z];exact z⟩
 .obtain⟨q1,q2,q3,q4,q5⟩:=I.pin p hp;exact⟨q1,hn _ q2,q3,q4,q5⟩
 .by_cases hb:b=a
  .subst hb;rw[fh]at q;cases q;exact ho.2
  .rw[ff hb]at q;refine(I.hok b u q).stay (λ_ _ _ q=>q) (λc z=>?_) λc xs z=>?_
   .rw[ff<|by rintro rfl;rw[e]at z;cases z];exact z
   .rw[ff<|by rintro rfl;rw[e]at z;cases z];exact z
end
abbrev Ends.thaw(X:Cx)(D:Ends):Ends where
 nx:=λσ H=>∃a o ps,H a=eZ (.frz o<|.dK ps)/\(∀o u,X.H₀ a≠eZ (.frz o u))/\D.nx σ (upd H a<|.dK ps)
 rt:=λv H=>∃a o ps,H a=eZ (.frz o<|.dK ps)/\(∀o u,X.H₀ a≠eZ (.frz o u))/\D.rt v (upd H a<|.dK ps)
 bk:=D.bk
 ct:=D.ct
variable {X:Cx}
def Fg{st:Į}{t:TS}(h:PS X st t):PS X st λD σ H=>t (D.thaw X) σ H:=λÁ s σ H D I q =>
 thn (h Á s σ H _ I q) λf s' z=>by
  cases f with
  |next =>let⟨Ū,H',I',a,o,ps,e,h0,q⟩:=z;exact⟨Ū,_,I'.thaw e h0,q⟩
  |ret u =>let⟨v,Ū,H',I',r,a,o,ps,e,h0,q⟩:=z;exact⟨v,Ū,_,I'.thaw e h0,r,q⟩
  |brk=>exact z
  |cont=>exact z
abbrev Iti(a:Ë)(o:Obj)(ps:List<|Key×V):It :=
 ⟨λi H=>H a=eZ (.frz o<|.dK ps)/\i<ps.length,λi H v H'=>∃p k x,v=.ref p/\H p=fb/\ps[i]?=eZ (k,x)/\H'=upd H p (.tup [kV k,x]),λi H=>H a=eZ (.frz o<|.dK ps)/\ps.length<=i⟩
def Ew{k:Key}{u:Â}(h:JA k u=fc):RelV (kV k) u:=by
 rcases Zl h with⟨i,t,rfl,rfl⟩|⟨x,t,rfl,rfl⟩
 .exact⟨t,rfl⟩
 .exact⟨t,rfl⟩
def KV.at:∀{ps:List (Key×V)}{vs:List (Key×Â)}{i:Nat}{k:Key}{x:V},KV ps vs->ps[i]?=eZ (k,x)->∃u,vs[i]?=eZ (k,u)/\RelV x u:=by
 intro ps vs i k x r;unfold KV at r;induction r generalizing i with
 |nil=>intro h;simp at h
 |@cons p q ps qs h t ih =>
  intro e;cases i with
  |zero =>simp at e;subst e;let⟨q1,q2⟩:=q;let⟨h1,h2⟩:=h;have h1:k=q1:=h1;subst h1;exact⟨q2,rfl,h2⟩
  |succ i=>simpa using ih ⇑e
section
variable {X:Cx}{Á:List (Ë×Obj)}{σ:St}{H:Hp}{s:Ä}{a:Ë}{o:Obj}{ps:List (Key×V)}{es:Array DictEntry}{ep:Nat}
def Wj(I:Inv X Á σ H s)(e:H a=eZ (.frz o<|.dK ps))(hd:o.data=.dict es ep):∃vs,KV ps vs/\s.heap.DictAt (Ze X.prog X.w) a vs ep:=by
 let⟨ho,_,_,vs,ſ,o2,es2,ep2,h1,h2,h3,h4⟩:=(show fu X.prog X.w H s.heap a (.frz o<|.dK ps) from I.hok a _ e)
 rw[ho]at h1;cases h1;rw[hd]at h3;cases h3;exact⟨vs,ſ,o,es,ho,h2,hd,h4⟩
end
variable {P:ä} {w:ö} {es:List Expr} {kk:Nat} {tp:Pos} {ds:Array DictEntry} {ep:Nat} {o:Obj} {ps:List (Key×V)}
def O4{K:Frag}(a it:Ë)(hd:o.data=.dict ds ep) :
  Turn P w K (.Tuple es kk tp) (Iti a o ps) [it] it (λi h=>∃ok ov,IsItemIter h it a i ps.length ep ok ov) where
 mem:=by simp
 obj:=λi h st b hb=>by
  let⟨ok,ov,h1⟩:=st;have q:b=it:=⇑hb
  subst q;exact⟨_,h1,λv z=>by cases z⟩
 keep:=λi h h' ⟨ok,ov,h1⟩ k=>⟨ok,ov,k it (by simp) _ h1⟩
 item:=by
  intro X hP hw hK hc i Á s σ H E I hf st hg;subst hP hw hK;let⟨e,hi⟩:=hg;let⟨ok,ov,h1⟩:=st;let⟨vs,ſ,da⟩:=Wj I e hd;have hl:ps.length=vs.length:=ſ.length;have hx:ps[i]?=eZ ps[i]:=È hi;let⟨u,hu,ru⟩:=ſ.at (k:=ps[i].1) (x:=ps[i].2) hx;rw[hl]at h1;refine wpAny_pyNext_items_item h1 da hu λkey h3 hk hout hT hsz hkeep=>?_;have hfi:=hf it (by simp);have hit:it<s.heap.objs.size:=Ô h1;have nT:s.heap.objs.size≠it:=ũ hit;have b7:=I.fpOk (H':=H) (Ñ s.heap.objs.size) I.fresh;refine⟨.ref s.heap.objs.size,rfl,wpAny_letOwnedTupleGo_items (s:={s with heap:=h3}) hout λh4 he4 hs4=>?_⟩;have I4:Inv X Á σ H {s with heap:=h4,toks:=s.toks}:=I.turnedL (t':=s.toks) (ch:=[it]) (λb ob hb q=>hs4.extBut b ob (λz=>hb<|by simp[z])<|hkeep b ob (λz=>hb<|by simp[z]) q) hf;have hT4:h4.get? s.heap.objs.size=eZ {cls:=.type "tuple",data:=.seq #[key,u]}:=hs4.extBut _ _ nT hT;let⟨f0,f1,f2,f3,f4,f5⟩:=b7;have I5:Inv X Á σ (upd H s.heap.objs.size<|.tup [kV ps[i].1,ps[i].2]) {s with heap:=h4,toks:=s.toks}:=I4.track f0 I.sz f1 f4 f5 ⟨by show 2<=Ö;decide,[key,u],.cons (Ew hk)<|.cons ru .nil,_,hT4,rfl,_,rfl⟩;refine⟨.ref s.heap.objs.size,_,I5,rfl,⟨s.heap.objs.size,_,_,rfl,f0,hx,rfl⟩,⟨key,u,by rw[hl];exact he4⟩,λb hb=>?_⟩;have q:b=it:=⇑hb
  subst q;rw[ff nT.symm];exact hfi.1
 done:=by
  intro X hP hw hK hc i Á s σ H E I hf st hg;subst hP hw hK;let⟨e,hi⟩:=hg;let⟨ok,ov,h1⟩:=st;let⟨vs,ſ,da⟩:=Wj I e hd;have hl:ps.length=vs.length:=ſ.length;rw[hl]at h1 hi;refine wpAny_pyNext_items_end (I.ok.hd hc) h1 da (ĭ hi) λh' he'=>⟨rfl,?_⟩
  exact I.turnedL (t':=s.toks) (ch:=[it]) (λb ob hb q=>he' b ob (λz=>hb<|by simp[z]) q) hf
 self:=λA i s Q E st h=>by let⟨ok,ov,h1⟩:=st;exact PySem.W.kcp_self h1 h
abbrev Itk(a:Ë)(o:Obj)(ps:List<|Key×V):It :=
 ⟨λi H=>H a=eZ (.frz o<|.dK ps)/\i<ps.length,λi H v H'=>H'=H/\∃k x,ps[i]?=eZ (k,x)/\v=kV k,λi H=>H a=eZ (.frz o<|.dK ps)/\ps.length<=i⟩
variable {tg:Expr}
def A4{K:Frag}(a it:Ë)(hd:o.data=.dict ds ep) :
  Turn P w K tg (Itk a o ps) [it] it (λi h=>h.IsKeyIter it a i ps.length ep) where
 mem:=by simp
 obj:=λi h st b hb=>by
  let⟨ob,h1,_,h2⟩:=st;have q:b=it:=⇑hb
  subst q;exact⟨ob,h1,λv z=>by rw[h2]at z;cases z⟩
 keep:=λi h h' st k=>st.at λo e=>k it (by simp) o e
 item:=by intro X hP hw hK hc i Á s σ H E I hf st hg;subst hP hw hK;let⟨e,hi⟩:=hg;let⟨vs,ſ,da⟩:=Wj I e hd;have hl:ps.length=vs.length:=ſ.length;have hx:ps[i]?=eZ ps[i]:=È hi;let⟨u,hu,ru⟩:=ſ.at (k:=ps[i].1) (x:=ps[i].2) hx;rw[hl]at st;refine wpAny_pyNext_dict_item st da hu λkey h3 hk st3 hs=>?_;have I3:Inv X Á σ H {s with heap:=h3,toks:=s.toks}:=I.turnedL (t':=s.toks) (ch:=[it]) (λb ob hb q=>hs.extBut b ob (λz=>hb<|by simp[z]) q) hf;let⟨ob,ho,aZ,hda⟩:=id st3;refine⟨key,rfl,fk (s:={s with heap:=h3,toks:=s.toks}) ho aZ hda (by decide) ⟨kV ps[i].1,H,I3,Ew hk,⟨rfl,_,_,hx,rfl⟩,?_,λb hb=>(hf b hb).1⟩⟩;show h3.IsKeyIter it a (i+1) ps.length ep;rw[hl];exact st3
 done:=by
  intro X hP hw hK hc i Á s σ H E I hf st hg;subst hP hw hK;let⟨e,hi⟩:=hg;let⟨vs,ſ,da⟩:=Wj I e hd;have hl:ps.length=vs.length:=ſ.length;rw[hl]at st hi;refine wpAny_pyNext_dict_end (I.ok.hd hc) st da (ĭ hi) λh' he'=>⟨rfl,?_⟩
  exact I.turnedL (t':=s.toks) (ch:=[it]) (λb ob hb q=>he' b ob (λz=>hb<|by simp[z]) q) hf
 self:=λA i s Q E st h=>wpAny_pyIter_keyiter st h
abbrev Lr(X:Cx)(J:Ë->Obj->List (Key×V)->It)(td:TE):TI:=λσ H R=>td σ H λx H1=>∃a ps,x=.ref a/\H1 a=eZ (.dK ps)/\∀o,(∀o u,X.H₀ a≠eZ (.frz o u))->R (J a o ps) (upd H1 a<|.frz o<|.dK ps)
variable {d:Expr} {td:TE}
def E2{Ł Ő:Pos}(hd:PE X d td)(aR:ĩ d "items" X.env (eval d X.env)=eval d X.env)(aT:(Ł.endLine==Ő.line)=fc) :
  PI X (.Tuple es kk tp) (.Call (.Attribute d "items" Ł) [] [] Ő) (Lr X Iti td):=by
 intro Á s σ H R I h;refine wpAny_Call_method0_late aR aT<|thn (hd Á s σ H _ I h) λv s1 ⟨x,H1,I1,r1,a,ps,ex,ea,q1⟩=>?_;subst ex;obtain rfl:v=Value.ref a:=r1;let⟨t1,t2,t3⟩:=Pp I1<|.inl ⟨ps,.inl ea⟩;refine⟨"dict","dict.items",PySem.F.plainAttrs_dict,PySem.F.slot_dict_items,PySem.F.type_dict_items,t1,t2,Calls.callWith_builtin rfl<|PySem.evalArgs_none ?_⟩;let⟨z,hsm,vs,ſ,dd⟩:=JZ I1.hok ea;refine Ϭ PySem.F.slot_dict_items dd.typeIs PySem.F.entry_dict_items (PySem.F.args_dict_items_1 _) (meets_dict_items (Ze X.prog X.w) a hsm) ⟨⟨vs,dd⟩,?_⟩;have I2:Inv X Á σ H1 {s1 with heap:=s1.heap.push {cls:=.type "dict_items",data:=.fields #[.ref a]}}:=I1.kept (t':=s1.toks) λb o e=>Å _ e;let⟨z2,hsm2,vs2,rel2,dm⟩:=JZ I2.hok ea;let⟨ep,da⟩:=dm.dictAt;refine wpAny_pyIter_items (s:={s1 with heap:=s1.heap.push {cls:=.type "dict_items",data:=.fields #[.ref a]}}) (d:=a) ⟨_,Ò _ rfl,rfl,rfl⟩ da ?_;have I3:=I2.kept (t':=s1.toks) (h':=(s1.heap.push {cls:=.type "dict_items",data:=.fields #[.ref a]}).push {cls:=.type "dict_itemiterator",data:=.fields #[.none,.bool fe,.ref a,.int 0 0,.int vs2.length 0,.int ep 0,.none,.none]}) λb o e=>Å _ e;let⟨ob,ds,ho,_,hdat,_⟩:=da;have I4:=I3.freeze ea<|Å _ ho;refine⟨_,[_],_,_,_,rfl,I4,O4 a _ hdat,⟨.none,.none,?_⟩,λb hb=>?_,q1 ob λo u z=>by have:=I1.base.frzs a o u z;rw[ea]at this;cases this⟩
 .rw[rel2.length];exact Ò _ rfl
 .have e:b=(s1.heap.push {cls:=.type "dict_items",data:=.fields #[.ref a]}).objs.size:=⇑hb
  subst e;have hn:=I2.hok.fresh<|Ñ (s1.heap.push {cls:=.type "dict_items",data:=.fields #[.ref a]}).objs.size;exact I2.fpOk (Ñ _) (by rw[ff<|by intro z;rw[z]at hn;rw[ea]at hn;cases hn];exact hn)
def GX(hd:PE X d td):PI X tg d<|Lr X Itk td:=by
 intro Á s σ H R I h;refine thn (hd Á s σ H _ I h) λv s1 ⟨x,H1,I1,r1,a,ps,ex,ea,q1⟩=>?_;subst ex;obtain rfl:v=Value.ref a:=r1;let⟨z,hsm,vs,ſ,dd⟩:=JZ I1.hok ea;let⟨ep,da⟩:=dd.dictAt;refine wpAny_pyIter_dict hsm da ?_;have I2:=I1.kept (t':=s1.toks) (h':=s1.heap.push {cls:=.type "dict_keyiterator",data:=.fields #[.ref a,.int 0 0,.int vs.length 0,.int ep 0]}) λb o e=>Å _ e;let⟨ob,ds,ho,_,hdat,_⟩:=da;have I3:=I2.freeze ea<|Å _ ho;refine⟨_,[_],_,_,_,rfl,I3,A4 a _ hdat,⟨_,Ò _ rfl,rfl,by rw[ſ.length];rfl⟩,λb hb=>?_,q1 ob λo u z=>by have:=I1.base.frzs a o u z;rw[ea]at this;cases this⟩;have e:b=s1.heap.objs.size:=⇑hb
 subst e;have hn:=I1.hok.fresh<|Ñ s1.heap.objs.size;exact I1.fpOk (Ñ _) (by rw[ff<|by intro z;rw[z]at hn;rw[ea]at hn;cases hn];exact hn)
abbrev TupsH(I S:Ë)(items:Array Â)(val:Nat->List Int)(h:Ć):Prop:=∀i v,items[i]?=eZ v->∃a ô,v=.ref a/\a≠I/\a≠S/\a8 h a ô/\Ā ô.toList (val i)
def TupsH.keep{I S:Ë}{items:Array Â}{val:Nat->List Int}{h h':Ć}(t:TupsH I S items val h)(k:∀b o,b≠I->b≠S->h.get? b=eZ o->h'.get? b=eZ o):TupsH I S items val h':=λi v e=>by let⟨a,ô,h1,h2,h3,⟨o,q1,q2⟩,h5⟩:=t i v e;exact⟨a,ô,h1,h2,h3,⟨o,k a o h2 h3 q1,q2⟩,h5⟩
abbrev btL(val:Nat->List Int)(i j:Nat):Bool:=HT.lexLt (val i)<|val j
section
variable {prog:ä}{w:ö}{A:ĉ}{R:aH->Ä->Prop}{I l:Ë}{items:Array Â}{val:Nat->List Int}{kw:List (Str×Â)}{fp:List Ë}{St:Nat->Ć->Prop}
def A9(W:Walks prog w A.in1 I fp [I] items.size (λi v=>items[i]?=eZ v) St)(hu:A.units+1<Ķ)(S:Ë)(hSI:S≠I)(hSf:S∉fp) :
  ∀(k j:Nat) (s:Ä) (vb:Â) (c:Nat),items.size - (j+1)=k->j+1<=items.size->St (j+1) s.heap->TupsH I S items val s.heap->items[Ľ (btL val) j]?=eZ vb->
  s.heap.get? S=eZ {cls:=.type "list",dict:=fb,data:=.seq #[vb,vb] c,slots:=#[]}->
  (∀v h' tk,items[Ľ (btL val)<|items.size - 1]?=eZ v->(∀b o,b≠I->b≠S->s.heap.get? b=eZ o->h'.get? b=eZ o)->R (.ok<|.ret v) {s with heap:=h',toks:=tk})->
  codeAny (Õ prog w) A (.builtin "min.loop" ⟨[.ref I,.none,.ref S],kw⟩) R s:=by
 have bF:(toString "min" ++ toString ".loop" : String) = "min.loop":=by decide
 have hSw:S∉[I]:=by simp[hSI]
 intro k;induction k with
 |zero =>
  intro j s vb c hk hj ō hT hPb hS hR;have hin:j+1=items.size:=by lia
  refine ĝ PySem.F.entry_min_loop ?_;rw[Ē PySem.F.plain_min_loop _];show wpAny _ A.in1 (ax (.ref S) >>= _) _ _ s;refine À<|Ř hS rfl ?_;show wpAny _ A.in1 (tryCatch (Ϛ<|.ref I) _ >>= _) _ _ s;refine À<|ϋ<|W.done s _ _ (hin▸ō) λh' tk b5=>?_;have hS':=b5 S _ hSw hS;show wpAny _ A.in1 (dX S (λ_=>#[]) >>= _) _ _ _;refine À ?_;refine Ξ hS' rfl<|À<|bX<|Æ ?_;refine hR vb _ tk (by rw[<-hin];exact hPb) λb o hbw ei e=>(í _ _<|Ne.symm ei).trans (b5 b o ⇑hbw e)
 |succ k ih =>
  intro j s vb c hk hj ō hT hPb hS hR;have ϵ:j+1<items.size:=by lia
  refine ĝ PySem.F.entry_min_loop ?_;rw[Ē PySem.F.plain_min_loop _];show wpAny _ A.in1 (ax (.ref S) >>= _) _ _ s;refine À<|Ř hS rfl ?_;show wpAny _ A.in1 (tryCatch (Ϛ<|.ref I) _ >>= _) _ _ s;refine À<|ϋ<|W.item (j+1) s _ _ ϵ ō λv h' tk hP hst' b5=>?_;have hS':=b5 S _ hSw hS;have ej:TupsH I S items val h':=hT.keep λb o h1 _ e=>b5 b o ⇑h1 e;have hP:items[j+1]?=eZ v:=hP;let⟨a,ô,rfl,_,_,pa,ia⟩:=ej _ _ hP;let⟨b0,bP,rfl,_,_,pb,ib⟩:=ej _ _ hPb;show wpAny _ A.in1 (tryCatch (Ŋ [.ref a,.ref a]<|ì .Lt (.ref a) (.ref b0) >>= _) _ >>= _) _ _ _;refine À<|ϋ<|Ě<|À<|HT.lt_tupInts pa pb ia ib hu ?_;refine À<|Ě<|ē ?_;refine À<|bX<|Æ ?_;cases hb:HT.lexLt (val<|j+1) (val<|Ľ (btL val) j)with
  |true =>
   have bO:btL val (j+1) (Ľ (btL val) j)=fc:=hb;simp only[if_true];refine À ?_;refine Ξ hS' rfl<|À<|bX ?_;rw[bF];refine Æ ⟨ŕ PySem.F.plain_min_loop _,ih (j+1) _ (.ref a) _ (by lia) ϵ (W.frame _ _ _ hst' λb hbf o e=>?_) (ej.keep λb o _ h2 e=>(í _ _<|Ne.symm h2).trans e) (by simp only[Ľ,bO,if_true];exact hP) (ė _ hS' rfl)
     λv' h'' tk'' hP' hk''=>?_⟩
   .exact(í _ _ λh:S=b=>hSf<|by rw[h];exact hbf).trans e
   .exact hR v' h'' tk'' hP' λb o hbw ei e=>hk'' b o hbw ei ((í _ _<|Ne.symm ei).trans<|b5 b o ⇑hbw e)
  |false =>have bO:btL val (j+1) (Ľ (btL val) j)=fe:=hb;simp only[İ,if_false];refine À<|bX ?_;rw[bF];refine Æ ⟨ŕ PySem.F.plain_min_loop _,ih (j+1) _ (.ref b0) c (by lia) ϵ hst' ej (by simp only[Ľ,bO,İ,if_false];exact hPb) hS' λv' h'' tk'' hP' hk''=>?_⟩;exact hR v' h'' tk'' hP' λb o hbw ei e=>hk'' b o hbw ei (b5 b o ⇑hbw e)
variable {s:Ä} {c:Nat}
def OY(W:Walks prog w A.in1 I fp [I] items.size (λi v=>items[i]?=eZ v) St)(hu:A.units+1<Ķ)(S:Ë)(hSI:S≠I)(hSf:S∉fp)(hn:0<items.size)(ō:St 0 s.heap)(hT:TupsH I S items val s.heap)
  (hS:s.heap.get? S=eZ {cls:=.type "list",dict:=fb,data:=.seq #[] c,slots:=#[]})
  (hR:∀v h' tk,items[Ľ (btL val)<|items.size - 1]?=eZ v->(∀b o,b≠I->b≠S->s.heap.get? b=eZ o->h'.get? b=eZ o)->R (.ok<|.ret v) {s with heap:=h',toks:=tk}) :
  codeAny (Õ prog w) A (.builtin "min.loop" ⟨[.ref I,.none,.ref S],kw⟩) R s:=by
 have bF:(toString "min" ++ toString ".loop" : String) = "min.loop":=by decide
 have hSw:S∉[I]:=by simp[hSI]
 refine ĝ PySem.F.entry_min_loop ?_;rw[Ē PySem.F.plain_min_loop _];show wpAny _ A.in1 (ax (.ref S) >>= _) _ _ s;refine À<|Ř hS rfl ?_;show wpAny _ A.in1 (tryCatch (Ϛ<|.ref I) _ >>= _) _ _ s;refine À<|ϋ<|W.item 0 s _ _ hn ō λv h' tk hP hst' b5=>?_;have hS':=b5 S _ hSw hS;have ej:TupsH I S items val h':=hT.keep λb o h1 _ e=>b5 b o ⇑h1 e;show wpAny _ A.in1 (dX S (λ_=>#[v,v]) >>= _) _ _ _;refine À ?_;refine Ξ hS' rfl ?_;rw[bF];refine Æ ⟨ŕ PySem.F.plain_min_loop _,A9 W hu S hSI hSf _ 0 _ v _ rfl hn (W.frame _ _ _ hst' λb hbf o e=>?_) (ej.keep λb o _ h2 e=>(í _ _<|Ne.symm h2).trans e) hP (ė _ hS' rfl) λv' h'' tk'' hP' hk''=>?_⟩
 .exact(í _ _ λh:S=b=>hSf<|by rw[h];exact hbf).trans e
 .exact hR v' h'' tk'' hP' λb o hbw ei e=>hk'' b o hbw ei ((í _ _<|Ne.symm ei).trans<|b5 b o ⇑hbw e)
def Ba(hh:A.handled=fb)(hlI:l≠I)(S:Ë)(hSI:S≠I)(hn:items.size=0){nm:Str}{d:Â}(ō:s.heap.IsListIter I l 0/\s.heap.IsList l items)
  (hS:s.heap.get? S=eZ {cls:=.type "list",dict:=fb,data:=.seq #[] c,slots:=#[]})
  (hR:∀h' tk,(∀b o,b≠I->s.heap.get? b=eZ o->h'.get? b=eZ o)->R (.ok<|.ret d) {s with heap:=h',toks:=tk}) :
  codeAny (Õ prog w) A (.builtin "min.loop" ⟨[.ref I,.none,.ref S],[(nm,d)]⟩) R s:=by
 have W:=Walks.list (prog:=prog) (w:=w) (A:=A.in1) hh I l hlI items;refine ĝ PySem.F.entry_min_loop ?_;rw[Ē PySem.F.plain_min_loop _];show wpAny _ A.in1 (ax (.ref S) >>= _) _ _ s;refine À<|Ř hS rfl ?_;show wpAny _ A.in1 (tryCatch (Ϛ<|.ref I) _ >>= _) _ _ s;refine À (ϋ<|W.done s _ _ (by rw[hn];exact ō) λh' tk b5=>?_);show wpAny _ A.in1 (rule _ >>= λ_=>ret d) _ _ _;exact À (Ϫ<|Æ<|hR h' tk λb o hb e=>b5 b o ⇑hb e)
end
def BB(a:Â):cM "min" ⟨[a],[(gO "default",.none)]⟩:=by unfold cM;kernel_rfl
def JV(bt:Nat->Nat->Bool):∀k,Ľ bt k<=k
 |0=>Ñ _
 |k+1=>by
  unfold Ľ;split
  .exact Ñ _
  .exact Nat.le_succ_of_le<|JV bt k
def MU:∀{xs:List V}{us:List Â}{i:Nat}{u:Â},gw xs us->us[i]?=eZ u->∃x,xs[i]?=eZ x/\RelV x u
 |_,_,_,_,.nil,e=>by simp at e
 |_,_,0,_,.cons r _,e=>by simp at e;subst e;exact⟨_,rfl,r⟩
 |_,_,i+1,_,.cons _ t,e=>by let⟨x,h1,h2⟩:=MU (i:=i) t ⇑e;exact⟨x,⇑h1,h2⟩
section
variable {X:Cx}
def Bu{Á:List (Ë×Obj)}{s:Ä}{σ:St}{H:Hp}{a:Ë}{xs:List V}{Ġ:List (List Int)}{Q:VK}(hc:X.calm=fc)(hu:X.A.units+1<Ķ)(I:Inv X Á σ H s)(hl:gp X.K H a xs)(hr:Ġ.length=xs.length)
  (ht:∀i,i<Ġ.length->∃p,xs[i]?=eZ (.ref p)/\gq X.K H p ((Ġ.getD i []).map V.int))
  (q0:xs=[]->Q .non H) (q1:xs≠[]->∀x,xs[Ľ (btL λi=>Ġ.getD i [])<|xs.length - 1]?=eZ x->Q x H) :
  wpAny (Õ X.prog X.w) X.A (call (.builtin "min") [.ref a] [(gO "default",.none)]) (EP X Á σ Q) X.xe s:=by
 have bF:(toString "min" ++ toString ".loop" : String) = "min.loop":=by decide
 let⟨ô,rv,pl,hz⟩:=I.list hl;have hlen:=rv.length;have dM:=pl.isList;let⟨ol,hol,_⟩:=id dM;have hll:a<s.heap.objs.size:=Ô hol;refine PyProof.Rows.kmk_tree PySem.F.kind_min PySem.F.plain_min PySem.F.entry_min (BB _) ?_;show wpAny _ X.A.in1 (Builtin.Builtins.bindParams "min" ["key","default"] 0 ⟨[],[(gO "default",.none)]⟩ >>= _) _ _ s;refine À (bU (show Builtin.Builtins.bindParams "min" ["key","default"] 0 ⟨[],[(gO "default",.none)]⟩=pure [fb,eZ .none] from rfl) ?_);refine À<|Æ ?_;refine À<|ϔ dM ?_;refine À<|dB ?_<|Ŀ _;rw[bF];have hS:(s.heap.push {cls:=.type "list_iterator",data:=.fields #[.ref a,.int 0 0]}).objs.size=s.heap.objs.size+1:=size_push' ..;have hlI:a≠s.heap.objs.size:=æ hll;have hSI:(s.heap.push {cls:=.type "list_iterator",data:=.fields #[.ref a,.int 0 0]}).objs.size≠s.heap.objs.size:=by rw[hS];exact ũ<|ĳ _
 have hSl:(s.heap.push {cls:=.type "list_iterator",data:=.fields #[.ref a,.int 0 0]}).objs.size≠a:=by rw[hS];exact ũ<|Ĺ hll
 have kk:∀b o,s.heap.get? b=eZ o->((s.heap.push {cls:=.type "list_iterator",data:=.fields #[.ref a,.int 0 0]}).push<|Ω "list" #[] 0).get? b=eZ o:=λb o e=>Å _<|Å _ e;have gI:((s.heap.push {cls:=.type "list_iterator",data:=.fields #[.ref a,.int 0 0]}).push<|Ω "list" #[] 0).get? s.heap.objs.size=eZ {cls:=.type "list_iterator",data:=.fields #[.ref a,.int 0 0]} :=
  Å _ (Ò _ rfl)
 have gS:((s.heap.push {cls:=.type "list_iterator",data:=.fields #[.ref a,.int 0 0]}).push<|Ω "list" #[] 0).get? (s.heap.push {cls:=.type "list_iterator",data:=.fields #[.ref a,.int 0 0]}).objs.size=eZ (Ω "list" #[] 0):=Ò _ rfl;have ϴ:∀b o,s.heap.get? b=eZ o->b≠s.heap.objs.size/\b≠(s.heap.push {cls:=.type "list_iterator",data:=.fields #[.ref a,.int 0 0]}).objs.size:=λb o e=>by have:=Ô e;rw[hS];exact⟨æ this,æ<|Ĺ this⟩
 have ō:Heap.IsListIter ((s.heap.push {cls:=.type "list_iterator",data:=.fields #[.ref a,.int 0 0]}).push<|Ω "list" #[] 0) s.heap.objs.size a 0/\Heap.IsList ((s.heap.push {cls:=.type "list_iterator",data:=.fields #[.ref a,.int 0 0]}).push<|Ω "list" #[] 0) a ô.toArray:=by refine⟨⟨_,gI,rfl,rfl⟩,?_⟩;let⟨o,e,r⟩:=dM;exact⟨o,kk _ _ e,r⟩
 refine Æ ⟨ŕ PySem.F.plain_min_loop _,?_⟩;by_cases h0:xs=[]
 .have hi:ô.toArray.size=0:=by rw[Ð,<-hlen,h0];rfl
  refine Ba (I:=s.heap.objs.size) (A:=X.A) (l:=a) (items:=ô.toArray) (I.ok.hd hc) hlI _ hSI hi ō gS λh' tk hk=>?_;exact⟨.non,H,I.kept (t':=tk) λb o e=>hk b o (ϴ b o e).1<|kk b o e,rfl,q0 h0⟩
 .have hi:0<ô.toArray.size:=by
   rw[Ð,<-hlen];exact List.length_pos_iff.mpr h0
  refine OY (A:=X.A) (items:=ô.toArray) (val:=λi=>Ġ.getD i []) (Walks.list (A:=X.A.in1) (I.ok.hd hc) s.heap.objs.size a hlI ô.toArray) hu _ hSI (λz=>(Ç.mp z).elim hSI λz=>hSl<|ß.mp z) hi ō (λi v e=>?_) gS λv h' tk hv hk=>?_
  .have e:ô[i]?=eZ v:=⇑e
   have hi':i<Ġ.length:=by rw[hr,hlen];exact(Î.mp e).1
   let⟨p,bE,eh⟩:=ht i hi';let⟨x,hx,rx⟩:=MU rv e;rw[bE]at hx;cases hx;obtain rfl:v=Value.ref p:=rx;let⟨tt,r2,⟨o2,e2,rest⟩,_⟩:=I.tuple eh;exact⟨p,tt.toArray,rfl,(ϴ p o2 e2).1,(ϴ p o2 e2).2,⟨o2,kk _ _ e2,rest⟩,ZI r2⟩
  .have hv:ô[Ľ (btL λi=>Ġ.getD i [])<|xs.length - 1]?=eZ v:=by rw[hlen];simpa using hv
   let⟨x,hx,rx⟩:=MU rv hv;exact⟨x,H,I.kept (t':=tk) λb o e=>hk b o (ϴ b o e).1 (ϴ b o e).2<|kk b o e,rx,q1 h0 x hx⟩
abbrev RB(K:Frag)(ta:TA):TE:=λσ H Q=>ta σ H λvs H1=>∃a xs,∃Ġ:List<|List Int,vs=[.ref a]/\gp K H1 a xs/\Ġ.length=xs.length/\
 (∀i,i<Ġ.length->∃p,xs[i]?=eZ (.ref p)/\gq K H1 p ((Ġ.getD i []).map V.int))/\(xs=[]->Q .non H1)/\(xs≠[]->∀x,xs[Ľ (btL λi=>Ġ.getD i [])<|xs.length - 1]?=eZ x->Q x H1)
def GI{e:Expr}{ta:TA}{p ç kp kpos:Pos}{kk:Nat}(hc:X.calm=fc)(hu:X.A.units+1<Ķ)(hg:Gl X "min")(hm:X.mg "min" = fb)(ha:PA X [e] ta)(hs:Ï [e] X.env=[(fe,eval e X.env)]) :
  PE X (.Call (.Name "min" p) [e] [⟨eZ "default",.Constant .none kk kp,kpos⟩] ç) (RB X.K ta):=by
 intro Á s σ H Q I h;refine ğ (Xp (u:=.builtin "min") I hg hm (by kernel_rfl) ?_);refine PyProof.Rows.callWith_kw (e:=e) (rest:=[]) ?_ (by rw[hs];rfl) (by rw[hs];rfl) rfl rfl;refine thn (ha ç Á s σ H _ I h) λus s1 ⟨vs,H1,I1,r1,a,xs,Ġ,ev,hl,hr,ht,q0,q1⟩=>?_;subst ev;let⟨u,rfl,ru⟩:=Yv r1;cases ru;refine PyProof.Rows.kws_cons<|thn (DG Á s1 σ H1 (λv H2=>v=.non/\H2=H1) I1 ⟨rfl,rfl⟩) λv s2 ⟨x,H2,I2,r2,e1,e2⟩=>PyProof.Rows.kws_nil ?_;subst e1 e2;obtain rfl:v=Value.none:=r2;exact Bu hc hu I2 hl hr ht q0 q1
def Wl{P:ä}{w:ö}:∀{ns:List Int}{vs:List (Key×Â)}{Ĵ:List Â},vs.map (·.1)=ns.map Sum.inl->Ĵ.length=vs.length->(∀(j:Nat) (v:Â),Ĵ[j]?=eZ v->∃(k:Key) (x:Â),vs[j]?=eZ (k,x)/\(Ze P w).is k v=fc)->Ā Ĵ ns
 |[],[],[],_,_,_=>.nil
 |[],_::_,_,h,_,_=>by cases h
 |_::_,[],_,h,_,_=>by cases h
 |[],[],_::_,_,h,_=>by cases h
 |_::_,_::_,[],_,h,_=>by cases h
 |n::ns,p::vs,u::Ĵ,h1,h2,h3=>by rw[É,É]at h1;injection h1 with h1 h1';let⟨k,x,e1,e2⟩:=h3 0 u rfl;simp at e1;subst e1;have h1:k=Sum.inl n:=h1;subst h1;obtain⟨t,rfl⟩:∃t,u=Value.int n t:=Ew (k:=Sum.inl n) (u:=u) e2;exact .cons n t (Wl (P:=P) (w:=w) h1' ⇑h2 λj v e=>by simpa using h3 (j+1) v ⇑e)
def MB(hc:X.calm=fc):fq X (.builtin "sorted") (λxs H Q=>∃p kvs,∃ns:List Int,xs=[.ref p]/\Rd H p (.dK kvs)/\kvs.map (·.1)=ns.map Sum.inl/\ns.length<64/\∀l,H l=fb->Q (.ref l) (upd H l<|.lst<|(sortI ns).map V.int)):=by
 intro Á s σ H xs us Q I r h;let⟨p,kvs,ns,rfl,hp,hk,h64,q⟩:=h;let⟨u,rfl,rx⟩:=Yv r;cases rx;let⟨z,hsm,vs,ſ,dd⟩:=Ww I.hok hp;let⟨ep,da⟩:=dd.dictAt;have hlen:vs.length=ns.length:=by have:=congrArg List.length hk;simpa[ſ.length]using this
 refine Calls.call_function_entry kind_sorted plain_sorted entry_sorted (args_sorted1 _) ?_;unfold Builtin.«sorted»;refine À (m:=checkCount "sorted" 1 1 _)<|Æ ?_;refine À (PySem.W.kdu_collect (A:=X.A.in1) (PySem.W.kdl_dict (knd:=Ze X.prog X.w) (kvs:=vs) (ep:=ep) hsm) (I.ok.hd hc) da (by rw[<-ſ.length];exact z) λh' tk Ĵ hkeep hacc=>?_);have hl:Ĵ.toList.length=vs.length:=by rw[ñ];exact hacc.1
 refine À (dB ?_<|by rw[hl,<-ſ.length];exact z);have hI:Ā Ĵ.toList ns:=Wl (P:=X.prog) (w:=X.w) (by rw[<-ſ.keys];exact hk) hl λj v e=>hacc.2 j v (by rw[<-Ą];exact e);have hoL:(h'.push<|Ω "list" Ĵ.toList.toArray 0).get? h'.objs.size=eZ (Ω "list" Ĵ.toList.toArray 0):=Ò _ rfl;have I1:Inv X Á σ H {s with heap:=h',toks:=tk}:=I.kept hkeep;refine À (Ě<|ġ slot_list_sort ⟨_,hoL,rfl⟩ entry_list_sort (list_sort_tree hoL hI (by rw[hl,hlen];exact h64) λout cC a1 a2 a3=>⟨_,rfl,?_⟩)<|args_list_sort _);have e:=Y3 a2 a3;subst e;let⟨n,he⟩:=sortedHeap_at (out:=out) hoL;refine Æ ⟨_,rfl,.ref h'.objs.size,_,I1.laid (a:=h'.objs.size) (o:=.lst<|(sortI ns).map V.int) (t':=tk) (λb o e=>?_) (Ñ _) ?_,rfl,q _<|I1.hok.fresh<|Ñ _⟩
 .have e:h'.get? b=eZ o:=e;have hb:=Ô e;rw[sortedHeap_old (æ hb)<|by rw[size_push'];exact Ĺ hb];exact Å _ e
 .exact⟨by rw[Ã,YM];unfold Ö;lia,out.toList,n,YT a1,by simpa[Ω]using he⟩
end
end L2
namespace Srt
open PySem.W PyProof.Rows
abbrev ok(n:Nat)(lt:Nat->Nat->Bool){α:Type}:KasT α->(α->Prop)->Prop
 |.ret a,Q=>Q a
 |.ask i j k,Q=>i<n/\j<n/\ok n lt (k<|lt i j) Q
section
variable {n:Nat}{lt:Nat->Nat->Bool}
abbrev K(p:Array Nat)(k:Nat):Nat:=p.getD k 0
end
end Srt
namespace Snd
open PySem L2
variable {i:Inf}{X:Cx}{Φ:gF.Fs}
def NO{H:Hp}:∀{kvs:List (gF.Val×gF.Val)}{ps:List (Key×V)}{ns:List Int},RKs i.K H kvs ps->gF.keysOf kvs=eZ ns->ps.map (·.1)=ns.map Sum.inl
 |_,_,ns,.nil,e=>by have e:eZ []=eZ ns:=e;cases e;rfl
 |(k,v)::kvs,_,ns,.cons (c:=c) hk _ t,e=>by
  have e:gF.fo (k::kvs.map (·.1))=eZ ns:=e;cases k with
  |int j =>
   have e:(gF.fo (kvs.map (·.1))).map (j :: ·)=eZ ns:=e;let⟨ms,z,rfl⟩:=Í.mp e;have ih:=NO (ns:=ms) t z;cases c with
   |inl l =>have hk:j=l:=hk;subst hk;rw[É,É,ih]
   |inr _=>exact(show False from hk).elim
  |_=>cases e
def K0:∀{ys:List gF.Val}{ns:List Int},gF.fo ys=eZ ns->ys=ns.map .int
 |[],_,e=>by cases e;rfl
 |y::ys,ns,e=>by
  cases y with
  |int j =>let⟨ms,z,rfl⟩:=Í.mp (show(gF.fo ys).map (j :: ·)=eZ ns from e);rw[É,<-K0 z]
  |_=>cases e
def N6{H:Hp}:∀{xs:List gF.Val}{us:List V}{Ġ:List (List Int)},RVs i.K H xs us->gF.rowsOf xs=eZ Ġ->Ġ.length=us.length/\(∀n,n<Ġ.length->∃p,us[n]?=eZ (.ref p)/\gq i.K H p ((Ġ.getD n []).map V.int))/\xs=Ġ.map λr=>.tup (r.map .int)
 |_,_,Ġ,.nil,e=>by have e:eZ []=eZ Ġ:=e;cases e;exact⟨rfl,λn h=>gM h<|Nat.not_lt_zero _,rfl⟩
 |v::xs,_,Ġ,.cons r t,e=>by
  cases v with
  |tup ys =>
   let⟨ns,z1,e⟩:=ê.mp (show(gF.fo ys).bind (λns=>(gF.rowsOf xs).map (ns :: ·))=eZ Ġ from e);let⟨rs,z2,rfl⟩:=Í.mp e;let⟨h1,h2,h3⟩:=N6 t z2;cases r with
   |tup hp hr =>
    have:=ZS z1 hr;subst this;refine⟨by rw[Ì,Ì,h1],λn hn=>?_,?_⟩
    .cases n with
     |zero=>exact⟨_,rfl,Zk hp⟩
     |succ n=>exact h2 n ⇑hn
    .rw[É,<-h3];have:ys=ns.map .int:=K0 z1;rw[this]
  |_=>cases e
def Uj:NZ i .sortedI (λxs H Q=>(∃p,∃ns:List Int,xs=[.ref p]/\gp i.K H p (ns.map V.int)/\ns.length<64/\∀l,H l=fb->Q (.ref l) (upd H l<|.lst<|(L2.sortI ns).map V.int))\/
    (∃p kvs,∃ns:List Int,xs=[.ref p]/\Rd H p (.dK kvs)/\kvs.map (·.1)=ns.map Sum.inl/\ns.length<64/\∀l,H l=fb->Q (.ref l) (upd H l<|.lst<|(L2.sortI ns).map V.int))):=by
 intro vs G H xs Q Qm g r w c;let⟨v,rfl,w⟩:=Wx w;let⟨x,rfl,rx⟩:=r.inv1;have key:∀(ns:List Int),(if ns.length<64 then gF.Rs.new (.lst<|(gF.sortI ns).map .int)else .no).wp G Qm->ns.length<64/\∀l,H l=fb->Q (.ref l) (upd H l<|.lst<|(L2.sortI ns).map V.int):=λns w=>by
  split at w
  .rename_i h64;exact⟨h64,Yz g (ML w) c λp hp=>⟨_,fh,RVs.ints _⟩⟩
  .exact(Zh w).elim
 cases v with
 |ref a =>
  cases rx.ref_inv
  replace w:(gF.biSortedI G<|.ref a).wp G Qm:=w
  unfold gF.biSortedI gF.sortAny at w;dsimp only at w;cases z:G a with
  |none=>rw[z]at w;exact(Zh w).elim
  |some o =>
   rw[z]at w;cases o with
   |lst ys =>
    cases z2:gF.fo ys with
    |none=>simp only[z2]at w;exact(Zh w).elim
    |some ns =>simp only[z2]at w;let⟨us,h1,h2⟩:=g a _ z;have:=ZS z2 h2;subst this;exact .inl ⟨a,ns,rfl,gp.of h1,key ns w⟩
   |dct kvs =>
    cases z2:gF.keysOf kvs with
    |none=>simp only[z2]at w;exact(Zh w).elim
    |some ns =>simp only[z2]at w;let⟨ps,h1,h2⟩:=g a _ z;exact .inr ⟨a,ps,ns,rfl,.inl h1,NO h2 z2,key ns w⟩
   |_=>exact(Zh w).elim
 |scr ns =>
  cases rx with
  |scr h=>exact .inl ⟨_,ns,rfl,Yp h,key ns w⟩
 |_=>exact(Zh w).elim
end Snd
namespace Snd
open PySem L2 PyProof.Rows
variable {i:Inf}{X:Cx}{Φ:gF.Fs}
def KP:∀(ns:List Int) (a:Int),a∈gF.dedup ns↔a∈ns
 |[],a=>Iff.rfl
 |x::xs,a=>by
  have ih:=KP xs a;unfold gF.dedup;simp only[Ç,ø,ih];constructor
  .rintro(h|h)
   .exact .inl h
   .exact .inr h.1
  .rintro(h|h)
   .exact .inl h
   .by_cases e:a=x
    .exact .inl e
    .exact .inr ⟨h,⇑e⟩
def WN:∀ns:List Int,(gF.dedup ns).Nodup
 |[]=>ĥ
 |x::xs=>by unfold gF.dedup;rw[ć];refine⟨λh=>?_,List.Nodup.sublist Ļ<|WN xs⟩;have:=(ø.mp h).2;simp at this
def J5:∀(ns Ĵ:List Int),Ĵ.Nodup->(ns.foldl Š Ĵ).Nodup/\∀a,a∈ns.foldl Š Ĵ↔a∈Ĵ\/a∈ns
 |[],Ĵ,h=>⟨h,λa=>by simp⟩
 |x::xs,Ĵ,h=>by
  have h2:(Š Ĵ x).Nodup/\∀a,a∈Š Ĵ x↔a∈Ĵ\/a=x:=by
   unfold Š;split
   .rename_i hc;have hm:x∈Ĵ:=⇑hc
    exact⟨h,λa=>⟨.inl,λz=>z.elim id λe=>e▸hm⟩⟩
   .rename_i hc;have hm:x∉Ĵ:=⇑hc
    refine⟨?_,λa=>by simp⟩;rw[é];refine⟨h,by simp,λa ha b hb=>?_⟩;rw[ß.mp hb];exact λe=>hm<|e▸ha
  let⟨h3,h4⟩:=J5 xs (Š Ĵ x) h2.1;refine⟨h3,λa=>?_⟩;rw[ů,h4,h2.2,Ç];constructor
  .rintro((z|z)|z)
   .exact .inl z
   .exact .inr<|.inl z
   .exact .inr<|.inr z
  .rintro(z|z|z)
   .exact .inl<|.inl z
   .exact .inl<|.inr z
   .exact .inr z
def EU(ns:List Int):(ό (λi=>ns.getD i 0) ns.length).Perm<|gF.dedup ns:=by
 have e:(List.range ns.length).map (λi=>ns.getD i 0)=ns:=by
  apply List.ext_getElem
  .simp
  .intro k h1 h2;simp at h1;simp[h1]
 unfold ό;rw[e];let⟨h1,h2⟩:=J5 ns [] ĥ;refine(bz h1<|WN ns).mpr λa=>?_;rw[h2,KP];simp
def DW{G:gF.Hs}{H:Hp}{v:gF.Val}{x:V}{ns:List Int}(g:RH i G H)(r:RV i.K H v x)(e:gF.sortOf G v=eZ ns):∃p,x=.ref p/\gp i.K H p (ns.map V.int):=by
 cases v with
 |ref a =>let⟨ys,z1,z2⟩:=ê.mp (show(gF.fx<|G a).bind gF.fo=eZ ns from e);let⟨us,h1,h2⟩:=Z1 g z1;have:=ZS z2 h2;subst this;exact⟨a,r.ref_inv,h1⟩
 |scr ms =>
  cases e;cases r with
  |scr h=>exact⟨_,rfl,Yp h⟩
 |_=>cases e
def Mf:∀{xs:List gF.Val}{k n:Nat}{v:gF.Val},(gF.enumL k xs)[n]?=eZ v->∃x,xs[n]?=eZ x/\v=.tup [.int ((k+n:Nat):Int),x]
 |[],k,n,v,h=>by simp[gF.enumL]at h
 |x::xs,k,0,v,h=>by have h:eZ (gF.Val.tup [.int k,x])=eZ v:=h;cases h;exact⟨x,rfl,rfl⟩
 |x::xs,k,n+1,v,h=>by let⟨y,h1,h2⟩:=Mf (xs:=xs) (k:=k+1) (n:=n) (v:=v) (by simpa[gF.enumL]using h);refine⟨y,⇑h1,?_⟩;rw[h2,show k+1+n=k+(n+1) by lia]
def KZ:∀(xs:List gF.Val) (k:Nat),(gF.enumL k xs).length=xs.length
 |[],_=>rfl
 |x::xs,k=>by show(gF.enumL (k+1) xs).length+1=xs.length+1;rw[KZ xs]
variable {xs:List gF.Val}
def Dw{H0:Hp}{a:Ë}{us:List V}(ha:H0 a=eZ (.tup us)\/KT i.K a us)(ra:RVs i.K H0 xs us):ItOk i H0 (Ite i.K a) (λ_=>True) (gF.enumL 0 xs) where
 go:=λn G H v k g e hv=>by let⟨x,hx,rfl⟩:=Mf hv;have h1:gq i.K H a us:=Zk<|ha.imp (k.t _ _) id;let⟨x',h5,h6⟩:=(ra.keep k).get hx;refine⟨⟨us,x',h1,h5⟩,λw H' ⟨p,e1,hp,e2⟩=>?_⟩;subst e1;have:=e2 us x' h1 h5;subst this;have k:=fH.new (o:=.tup [.int n,x']) hp;refine⟨k,X7 g hp,.tup (.inl fh)<|.cons ?_<|.cons (h6.keep k) .nil⟩;rw[Ϝ];exact .int _
 stop:=λn G H k g e hn=>by have h1:gq i.K H a us:=Zk<|ha.imp (k.t _ _) id;exact⟨us,h1,by rw[<-ra.length,<-KZ xs 0];exact hn⟩
def OI{v:gF.Val}(h:gF.tupOf v=eZ xs):v=.tup xs:=by
 cases v with
 |tup ys=>cases h;rfl
 |_=>cases h
def FA{es:List Expr}{kk:Nat}{tp p ç:Pos}{e:Expr}{m:gF.E}(hK:X.K=i.K)(hg:Gl X "enumerate")(hm:X.mg "enumerate" = fb)(he:PE X e<|tE X i Φ m)(hs:Ï [e] X.env=[(fe,eval e X.env)]) :
  PI X (.Tuple es kk tp) (.Call (.Name "enumerate" p) [e] [] ç) (tIt X i Φ<|.enum m) :=
 (D5 hg hm (ZA he gk hs) hs).imp λσ H R ⟨env,G,QI,Em,p,w,c⟩=>by
  change tE X i Φ m σ H _;refine one p w λv G1 H1 x k1 p1 rx q=>?_;let⟨xs,e1,q2⟩:=fj q;clear q;cases OI e1;rw[hK];cases rx with
  |tup hp hr=>exact⟨_,rfl,⟨_,Zk hp⟩,c _ _ G1 H1 _ k1 p1.hp (Dw hp hr) q2⟩
end Snd
namespace L2
open PySem
@[reducible] noncomputable def Ris(xs:Array Nat):Prop:=xs.toList.Pairwise (· < ·)
abbrev Ui(xs:Array Nat)(j lo:Nat):Prop:=lo<=xs.size/\(∀k x,k<lo->xs[k]?=eZ x->x<j)/\∀k x,lo<=k->xs[k]?=eZ x->j<=x
variable {xs:Array Nat} {a:Nat} {b:Nat} {x:Nat}
def Wv(h:Ris xs){y:Nat}(hab:a<b)(ha:xs[a]?=eZ x)(hb:xs[b]?=eZ y):x<y:=by rw[<-Ą]at ha hb;let⟨h1,rfl⟩:=Î.mp ha;let⟨h2,rfl⟩:=Î.mp hb;exact List.pairwise_iff_getElem.mp h a b h1 h2 hab
def J0{xs:Array Nat}(h:Ris xs){j:Nat}:∀(f lo hi:Nat),hi - lo<=f->lo<=hi->hi<=xs.size->(∀k x,k<lo->xs[k]?=eZ x->x<j)->(∀k x,hi<=k->xs[k]?=eZ x->j<=x)->Ui xs j (bj xs j f lo hi)
 |0,lo,hi,h1,h2,h3,h4,h5=>by
  have e:lo=hi:=by lia
  subst e;exact⟨h3,h4,h5⟩
 |f+1,lo,hi,h1,h2,h3,h4,h5=>by
  unfold bj;by_cases hl:lo<hi
  .rw[gG hl];dsimp only;have hm:(lo+hi) / 2<xs.size:=by lia
   have hx:xs[(lo+hi) / 2]?=eZ xs[(lo+hi) / 2]:=ù hm;have hg:xs.getD ((lo+hi) / 2) j=xs[(lo+hi) / 2]:=by simp[ϸ,hm]
   rw[hg];by_cases hc:xs[(lo+hi) / 2]<j
   .rw[gG hc];refine J0 h f _ _ (by lia) (by lia) h3 (λk x hk hkx=>?_) h5;by_cases hkm:k=(lo+hi) / 2
    .subst hkm;rw[hx]at hkx;cases hkx;exact hc
    .exact ε (Wv h (by lia) hkx hx) hc
   .rw[gH hc];refine J0 h f _ _ (by lia) (by lia) (by lia) h4 λk x hk hkx=>?_;by_cases hkm:k=(lo+hi) / 2
    .subst hkm;rw[hx]at hkx;cases hkx;lia
    .exact Ý (Nat.not_lt.mp hc) (Α<|Wv h (by lia) hx hkx)
  .rw[gH hl];have e:lo=hi:=by lia
   subst e;exact⟨h3,h4,h5⟩
def Nq(h:Ris xs)(j:Nat):Ui xs j<|ľ xs j:=by unfold ľ;refine J0 h xs.size 0 xs.size (by lia) (by lia) (by lia) (λk x hk=>by lia) λk x hk hkx=>?_;rw[ϑ hk]at hkx;cases hkx
variable {j:Nat}
def C6(ha:Ui xs j a)(hb:Ui xs j b):a=b:=by
 let⟨a1,a2,a3⟩:=ha;let⟨b1,b2,b3⟩:=hb;rcases Nat.lt_trichotomy a b with h|h|h
 .have hx:=ù (xs:=xs) (i:=a) (by lia);have:=b2 a _ h hx;have:=a3 a _ (Ñ _) hx;lia
 .exact h
 .have hx:=ù (xs:=xs) (i:=b) (by lia);have:=a2 b _ h hx;have:=b3 b _ (Ñ _) hx;lia
def AR(h:Ris xs){i:Nat}(hx:xs[i]?=eZ x):Ui xs (x+1)<|i+1:=by
 have hi:i<xs.size:=(ŀ.mp hx).1;refine⟨hi,λk y hk hky=>?_,λk y hk hky=>Wv h (by lia) hx hky⟩;by_cases e:k=i
 .subst e;rw[hx]at hky;cases hky;lia
 .have:=Wv h (show k<i by lia) hky hx;lia
def Az(xs:Array Nat):Ui xs 0 0:=⟨Ŀ _,λk x hk=>by lia,λ_ _ _ _=>Ŀ _⟩
def He(h:Ris xs)(hn:xs[ľ xs j]?≠eZ j):Ris<|SetTable.insertAt xs (ľ xs j) j:=by
 let⟨c1,c2,c3⟩:=Nq h j;generalize ľ xs j=p at c1 c2 c3 hn;unfold Ris;rw[SetTable.toList_insertAt];have hs:(xs.toList.take p++xs.toList.drop p).Pairwise (· < ·):=by rw[List.take_append_drop];exact h
 let⟨h1,h2,h3⟩:=dj.mp hs;have hlo:∀a∈xs.toList.take p,a<j:=λa ha=>by let⟨k,hk,rfl⟩:=List.mem_take_iff_getElem.mp ha;refine c2 k _ (by lia) ?_;rw[<-Ą];exact È _
 have hhi:∀a∈xs.toList.drop p,j<a:=λa ha=>by
  let⟨k,e⟩:=cO.mp ha;rw[List.getElem?_drop,Ą]at e;have:=c3 (p+k) _ (by lia) e;rcases Nat.lt_or_ge j a with q|q
  .exact q
  .exfalso;have e2:a=j:=by lia
   subst e2;by_cases k0:k=0
   .subst k0;exact hn e
   .have hp:xs[p]?=eZ (xs[p]'(by have:=(ŀ.mp e).1;lia)):=ù _;have:=Wv h (show p<p+k by lia) hp e;have:=c3 p _ (Ñ _) hp;lia
 exact dj.mpr ⟨h1,dY.mpr ⟨hhi,h2⟩,λa ha b hb=>by
   rcases Ç.mp hb with rfl|hb
   . exact hlo a ha
   . exact ε (hlo a ha)<|hhi b hb⟩
structure Tb(b:Bool)(t:ŷ):Prop where
 led:b=fe->t.led=fc
 ris:Ris t.place
 dum:t.dummies=#[]
def No{t:ŷ}{f:Nat->Int}{h:Int}(hd:t.dummies=#[]):∀(n:Nat) (p:SetTable.Probe) (j:Nat) (d:Option Nat),p.dummy=fb->ϕ t f h n p=eZ (.empty j d)->t.slot j=.empty/\d=fb
 |0,p,j,d,h0,e=>by unfold ϕ at e;cases e
 |n+1,p,j,d,h0,e=>by
  unfold ϕ at e;cases hs:t.slot p.j with
  |empty =>rw[hs]at e;dsimp only at e;injection e with e;injection e with e1 e2;subst e1;exact⟨hs,e2▸h0⟩
  |dummy =>
   exfalso;unfold eS at hs;dsimp only at hs;split at hs
   .cases hs
   .rw[hd]at hs;simp[bA]at hs
  |live i =>
   rw[hs]at e;dsimp only at e;split at e
   .cases e
   .refine No hd n _ j d ?_ e;unfold SetTable.advance;split
    .exact h0
    .exact h0
def FN{t:ŷ}(hd:t.dummies=#[]){h:Int}{b:Bool}(e:t.freeSlot h=eZ (j,b)):t.place[ľ t.place j]?≠eZ j:=by
 unfold SetTable.freeSlot at e;split at e
 .rename_i k d hp;let⟨h1,h2⟩:=No hd _ _ _ _ rfl hp;subst h2;injection e with e;injection e with e1 e2;have e1:k=j:=e1;subst e1;unfold eS at h1;dsimp only at h1;split at h1
  .cases h1
  .rename_i hq;exact λz=>hq (by rw[z];exact beq_self_eq_true _)
 .cases e
def Wq{b:Bool}{t:ŷ}(h:Tb b t)(n:Nat):Tb b (t.standIn n) :=
 ⟨h.led,by show(Array.range n).toList.Pairwise _;rw[Array.toList_range];exact cx,rfl⟩
def PV{b:Bool}{t:ŷ}(h:Tb b t)(es:Array<|Int×Â)(k:Int)(x:Â):Tb b (layNew t es k x).2.1:=by
 unfold layNew;split
 .rename_i slot wd hf;show Tb b (cy _ _);have hp:Tb b (t.put slot).1:=by
   refine⟨h.led,He h.ris<|FN h.dum hf,?_⟩;show(if bA t.dummies slot then _ else t.dummies)=#[];rw[h.dum];simp[bA]
  unfold cy;split
  .exact hp
  .exact Wq hp _
 .exact Wq h _
def BL{b:Bool}{t:ŷ}(h:Tb b t)(es:Array<|Int×Â)(n:Nat):Tb b (relayAll t es n).2.1:=by
 unfold relayAll;split
 .rename_i t' order hr;dsimp only;split
  .unfold SetTable.relaid SetTable.laid at hr;cases hl:SetTable.layClean (SetTable.sizeAbove n - 1) (es.map (·.1))with
   |none=>rw[hl]at hr;cases hr
   |some owner =>rw[hl]at hr;cases hr;refine⟨h.led,?_,rfl⟩;show List.Pairwise _ (List.toArray _).toList;refine List.pairwise_map.mpr<|List.pairwise_filterMap.mpr ?_;refine cx.imp λ{a c} hac x hx y hy=>?_;let⟨_,_,rfl⟩:=Í.mp hx;let⟨_,_,rfl⟩:=Í.mp hy;exact hac
  .exact Wq h _
 .exact Wq h _
end L2
namespace L2
open PySem PySem.Spec PyProof.Rows
section
variable (prog:ä) (w:ö)
noncomputable abbrev byT:Bool:=w.params.followText "set-order"
abbrev SetI(h:Ć)(a:Ë)(l:List Int):Prop:=∃o es ep t es0,h.get? a=eZ o/\o.ExactSet/\o.data=.set es ep t/\ElemsOf (Ş prog w) es.toList/\es.size<aC/\t.fits es.size=fc/\
 Tb (byT w) t/\es.toList.Perm es0/\Ā (es0.map (·.2)) l
end
def XH:∀{vs:List Â}{ns:List Int},Ā vs ns->vs.length=ns.length
 |_,_,.nil=>rfl
 |_,_,.cons _ _ r=>congrArg (· + 1)<|XH r
def U1:∀{vs:List Â}{ns:List Int}(n:Int) (t:Tok),Ā vs ns->Ā (vs++[.int n t]) (ns++[n])
 |_,_,n,t,.nil=>.cons n t .nil
 |_,_,n,t,.cons m u r=>.cons m u<|U1 n t r
def O6{P:ä}{w:ö}{n:Int}:∀{vs:List Â}{ns:List Int},Ā vs ns->(n∈ns↔∃v∈vs,(Ş P w).is n v=fc)
 |_,_,.nil=>by simp
 |_,_,.cons m u r=>by
  have h:=O6 (P:=P) (w:=w) (n:=n) r;have hk:(Ş P w).is n (.int m u)=gN (n=m):=KeyKind.is_eq_decide (intKind_is P w m u) n;rw[Ç,h];constructor
  .rintro(rfl|⟨v,hv,e⟩)
   .exact⟨_,î,by rw[hk];simp⟩
   .exact⟨v,Þ _ hv,e⟩
  .rintro⟨v,hv,e⟩;rcases Ç.mp hv with rfl|hv
   .rw[hk]at e;exact .inl ⇑e
   .exact .inr ⟨v,hv,e⟩
variable {h:Ć} {a:Ë} {l:List Int}
def SetI.setOf{P:ä}{w:ö}(x:SetI P w h a l):h.SetOf (Ş P w) a (λk=>gN (k∈l)) l.length:=by
 let⟨o,es,ep,t,es0,h1,h2,h3,h4,h5,h6,h7,h8,h9⟩:=x;refine⟨o,es,ep,t,h1,h2,h3,h4,λk=>?_,h5,h6,?_⟩
 .rw[decide_eq_true_iff,O6 (P:=P) (w:=w) h9];constructor
  .rintro⟨v,hv,e⟩;let⟨x,hx,rfl⟩:=Û.mp hv;exact⟨x,h8.mem_iff.mpr hx,e⟩
  .rintro⟨x,hx,e⟩;exact⟨_,Û.mpr ⟨x,h8.mem_iff.mp hx,rfl⟩,e⟩
 .rw[<-XH h9,Ã,<-h8.length_eq,ñ]
section
variable {prog:ä}{w:ö}{A:ĉ}{E:Â->Ä->Prop}{s:Ä}
def Ap{o:Obj}{es es':Array (Int×Â)}{ep:Nat}{t t':ŷ}(ho:h.get? a=eZ o)(hd:o.data=.set es ep t) :
  (h.update a<|eU es' t').get? a=eZ {o with data:=.set es' (ep+1) t'}:=by
 have z:=ė (eU es' t') ho (by rw[putSet_of es' t' hd];rfl)
 rwa [putSet_of es' t' hd]at z
def add_int{n:Int}{tk:Tok}{Q:Bool->Ä->Prop}(hS:SetI prog w s.heap a l)(hroom:l.length+1<aC)
  (k:∀h' b,Ź a s.heap h'->SetI prog w h' a (Š l n)->Q b {s with heap:=h'}):wpAny (Õ prog w) A (setAddHashed a (.int n tk)<|(Ş prog w).hash n) Q E s:=by
 have hlen:=hS.setOf;let⟨o,es,ep,t,es0,ho,hex,hd,hel,hb,hf,ht,hp,hi⟩:=id hS;have hsz:es.size=l.length:=by rw[<-XH hi,Ã,<-hp.length_eq,ñ]
 have hkey:(Ş prog w).is n (.int n tk)=fc:=intKind_is _ _ _ _;unfold setAddHashed setAddHashedIn;refine Ě<|À<|Ŧ ho hd hf ?_;dsimp only;rw[byScan_of rfl hb hel];simp only[↓reduceIte];unfold setAddByScan;refine À<|À<|Ϫ<|À<|wpAny_setScan_of hkey ho hd hf hel ?_;have hm:n∈l↔∃e∈es.toList,(Ş prog w).is n e.2=fc:=by
  rw[O6 (P:=prog) (w:=w) hi];constructor
  .rintro⟨v,hv,e⟩;let⟨x,hx,rfl⟩:=Û.mp hv;exact⟨x,hp.mem_iff.mpr hx,e⟩
  .rintro⟨x,hx,e⟩;exact⟨_,Û.mpr ⟨x,hp.mem_iff.mp hx,rfl⟩,e⟩
 cases hr:List.findIdx? (λe=>(Ş prog w).is n e.2) es.toList with
 |some j =>
  let⟨hj,hpj,_⟩:=List.findIdx?_eq_some_iff_getElem.mp hr;have hn:n∈l:=hm.mpr ⟨_,ı hj,hpj⟩;have e1:Š l n=l:=by unfold Š;rw[gG<|ŧ.mpr ⟨n,hn,by simp⟩]
  rw[e1]at k;exact Æ<|Æ<|k s.heap fe (Heap.SameBut.refl a s.heap) hS
 |none =>
  have hn:n∉l:=λz=>by let⟨e,he,q⟩:=hm.mp z;have:=List.findIdx?_eq_none_iff.mp hr e he;rw[q]at this;cases this
  have e1:Š l n=l++[n]:=by
   unfold Š;rw[gH];intro z;let⟨m,hm,q⟩:=ŧ.mp z;have q:m=n:=⇑q
   exact hn<|q▸hm
  rw[e1]at k;have l1:=layNew_perm t es ((Ş prog w).hash n)<|.int n tk;have l2:=layNew_fits t es ((Ş prog w).hash n)<|.int n tk;have l3:=PV ht es ((Ş prog w).hash n)<|.int n tk;dsimp only;generalize hL:layNew t es ((Ş prog w).hash n) (.int n tk)=L at l1 l2 l3 ⊢;let⟨cE,t1,wd,gv⟩:=L;dsimp only at l1 l2 l3 ⊢;rw[dZ]at l1;have i1:Ā ((es0++[((Ş prog w).hash n,Value.int n tk)]).map (·.2))<|l++[n]:=by rw[ã];exact U1 n tk hi
  have p1:cE.toList.Perm<|es0++[((Ş prog w).hash n,Value.int n tk)]:=l1.trans<|hp.append_right _;have hel1:ElemsOf (Ş prog w) cE.toList:=(hel.push hkey rfl).perm l1;have hs1:cE.size=l.length+1:=by rw[<-ñ,l1.length_eq,è,ñ,hsz];rfl
  have fin:∀(h':Ć) (o':Obj) (ep':Nat) (es':Array<|Int×Â) (t':ŷ),Ź a s.heap h'->h'.get? a=eZ o'->o'.ExactSet->o'.data=.set es' ep' t'->es'.toList.Perm cE.toList->t'.fits es'.size=fc->Tb (byT w) t'->∀b,Q b {s with heap:=h'}:=λh' o' ep' es' t' sb g1 g2 g3 g4 g5 g6 b=>by refine k h' b sb ⟨o',es',ep',t',_,g1,g2,g3,hel1.perm g4,?_,g5,g6,g4.trans p1,i1⟩;rw[<-ñ,g4.length_eq,ñ,hs1];exact hroom
  have hz1:cE.size<=Ö:=bo (by rw[hs1];exact hroom);have g0:∀(b:Bool){ģ:Ä}{Q':Unit->Ä->Prop},Q' () ģ->wpAny (Õ prog w) A (match b with|true=>rule "set.scan.the-table-gave-way" | false=>pure ()) Q' E ģ :=
   λb ģ Q' hq=>by cases b<;>first|exact Æ hq|exact Ϫ hq
  refine À<|g0 _ ?_;have bv:hashByValue 8 (.int n tk)=(pure fc:Sem Bool):=hashByValue_scannable 8 rfl;rw[bv,ite_self];refine À<|Æ ?_;simp only[↓reduceIte];refine À<|wpAny_storeSet_of ho hd ?_ hz1;have ho1:=Ap (es':=cE) (t':=t1) ho hd;have sb1:=Ă s.heap a<|eU cE t1;split
  .have r1:=relayAll_perm t1 cE<|ϖ cE.size;have r2:=relayAll_fits t1 cE<|ϖ cE.size;have r3:=BL l3 cE<|ϖ cE.size;generalize relayAll t1 cE (ϖ cE.size)=R at r1 r2 r3 ⊢;let⟨es2,t2,gv2⟩:=R;dsimp only at r1 r2 r3 ⊢;refine À<|g0 _ ?_;refine À (wpAny_storeSet_of ho1 rfl ?_<|by rw[<-ñ,r1.length_eq,ñ];exact hz1);exact Æ<|Æ<|fin _ _ _ es2 t2 (sb1.trans<|Ă _ a _) (Ap ho1 rfl) hex rfl r1 r2 r3 _
  .exact Æ<|Æ<|fin _ _ _ cE t1 sb1 ho1 hex rfl .rfl l2 l3 _
end
def SetI.at{P:ä}{w:ö}{h h':Ć}{a:Ë}{l:List Int}(x:SetI P w h a l)(k:∀o,h.get? a=eZ o->h'.get? a=eZ o):SetI P w h' a l:=by let⟨o,es,ep,t,es0,h1,h2⟩:=x;exact⟨o,es,ep,t,es0,k _ h1,h2⟩
section
variable {prog:ä}{w:ö}{A:ĉ}{R:aH->Ä->Prop}{I:Ë}{fp wr:List Ë}{G:Array a9->Array a9->Prop}{n:Nat}{P:Nat->Â->Prop}{St:Nat->Ä->Prop}
def El(W:WalksS prog w A.in1 I fp wr G n P St)(S:Ë)(hS:S∉fp)(val:Nat->Int)(hv:∀i v,P i v->∃t,v=.int (val i) t)(hb:n+1<aC) :
  ∀(k i:Nat) (s:Ä),n - i=k->i<=n->St i s->SetI prog w s.heap S (ό val i)->(∀s',Moved (S::wr) G s s'->SetI prog w s'.heap S (ό val n)->R (.ok<|.ret .none) s')->
   codeAny (Õ prog w) A (.builtin "set.update.loop" ⟨[.ref S,.ref I],[]⟩) R s:=by
 have nw:S∉wr:=λz=>hS<|W.sub _ z;intro k;induction k with
 |zero =>
  intro i s h1 h2 st x r;obtain rfl:i=n:=by lia
  refine ĝ F.entry_set_update_loop ?_;rw[Ē F.plain_set_update_loop _];show wpAny _ A.in1 (Ϛ (.ref I) >>= _) _ _ s;refine À<|W.done s _ _ st λs' m=>?_;exact Æ<|r s' (m.mono λb hb=>Þ _ hb)<|x.at λo e=>m.heap S _ nw e
 |succ k ih =>
  intro i s h1 h2 st x r;have hi:i<n:=by lia
  refine ĝ F.entry_set_update_loop ?_;rw[Ē F.plain_set_update_loop _];show wpAny _ A.in1 (Ϛ (.ref I) >>= _) _ _ s;refine À<|W.item i s _ _ hi st λv s' p d9 m=>?_;let⟨t,rfl⟩:=hv i v p;show wpAny _ A.in1 (Ŋ [Value.int (val i) t] (setAdd S<|.int (val i) t) >>= _) _ _ s';refine À<|Ě ?_;unfold setAdd;refine Ě<|À<|(Ş prog w).pyHash (k:=val i) (intKind_is _ _ _ _) ?_;refine add_int (s:={s' with toks:=s'.toks+1}) (x.at λo e=>m.heap S _ nw e) (by have:=aN val i;lia) λh' b sb x'=>?_;rw[<-firstMet_succ]at x';refine Æ ⟨ŕ F.plain_set_update_loop _,ih (i+1) _ (by lia) hi (W.frame _ s' _ _ d9 (Ŏ _) λb hb o e=>?_) x' λs'' m'' x''=>r s'' ?_ x''⟩
  .rw[sb.2 b λz=>hS<|z▸hb];exact e
  .refine Moved.trans W.gtrans ((m.mono λb hb=>Þ _ hb).then_heap (Ŏ _) λb o hb e=>?_) m'';rw[sb.2 b λz=>hb<|z▸î];exact e
end
section
variable {prog:ä}{w:ö}{A:ĉ}{E:Â->Ä->Prop}{s:Ä}
noncomputable abbrev J7(b:Bool):Obj:={cls:=.type "set",dict:=fb,data:=.set #[] 0 (.fresh 0 0 !b)}
variable {Q:Â->Ä->Prop}
def G7(a:Â)(h:Q (.ref s.heap.objs.size) {s with heap:=s.heap.push (J7<|byT w)}) :
  codeAny (Õ prog w) A (.call (.builtin "set.__new__") ⟨[.type "set",a],[]⟩) (wants Q E) s:=by
 refine codeAny_of_tree ?_;show wpAny _ A.in1 (do bL "set.__new__" ⟨[.type "set",a],[]⟩;again (.builtin "set.__new__" ⟨[.type "set",a],[]⟩)) _ _ s;refine À<|bU (F.newCall_set_1 a)<|Æ ⟨ŕ F.plain_set_new _,ĝ F.entry_set_new ?_⟩;rw[Ē F.plain_set_new _];unfold Builtin.«set.__new__» Builtin.Frozenset.newClass;have hsub:=sub_set_self;let⟨hp,g,d,tk,os⟩:=s;dsimp only
 wp_walk
 refine Ű<|Æ ?_;dsimp only;simp only[newObj];exact À<|wpAny_alloc<|Æ<|Æ h
def DE{l:Ë}{items:Array Â}{ns:List Int}(hh:A.handled=fb)(hl:s.heap.IsList l items)(hi:Ā items.toList ns)(hb:items.size+1<aC)
  (h:∀(h':Ć) (tk:Nat),SetI prog w h' s.heap.objs.size (ό (λi=>ns.getD i 0) items.size)->(∀b o,s.heap.get? b=eZ o->h'.get? b=eZ o)->Q (.ref s.heap.objs.size) {s with heap:=h',toks:=tk}) :
  wpAny (Õ prog w) A (call (.type "set") [.ref l]) Q E s:=by
 let⟨c,tl,hmro⟩:=F.called_set.mro;have hmade:=F.called_set.made;have hsub:=F.called_set.sub;have h1:=F.called_set.notType;have h2:=F.called_set.canCreate;have hct:=F.typeCall_set_1<|.ref l;refine aI<|codeAny_of_tree ?_;show wpAny _ _ (callAny (.type "set") _) _ _ _;refine Æ ⟨dU _ (by decide +kernel),ĝ F.entry_type_call ?_⟩;rw[Around.under_plain (weight_type_call_type "set" [.ref l] []) rfl]
 repeat (any_goals (first|assumption|wp_step))
 refine ş (G7 (.ref l) (E:=E) (Q:=λv s1=>v=.ref s.heap.objs.size/\s1={s with heap:=s.heap.push (J7<|byT w)}) ⟨rfl,rfl⟩) λr s1 hr=>?_;cases r with
 |error e=>exact hr
 |ok fl =>
  cases fl with
  |ret obj =>
   let⟨rfl,rfl⟩:=hr;have hS:(s.heap.push<|J7<|byT w).get? s.heap.objs.size=eZ (J7<|byT w):=Ò _ rfl;have hT:Shared.TypeIs {s with heap:=s.heap.push (J7<|byT w)} (.ref s.heap.objs.size) "set":=⟨_,hS,rfl⟩
   have hli:=F.called_set.init.lookup;have hbi:=F.called_set.init.bind<|.ref s.heap.objs.size
   repeat (any_goals (first|assumption|wp_step))
   refine ş (al (R:=wants (λr s2=>r=.none/\∃h' tk,s2={ s with heap:=h',toks:=tk }/\SetI prog w h' s.heap.objs.size (ό (λi=>ns.getD i 0) items.size)/\∀b o,s.heap.get? b=eZ o->h'.get? b=eZ o) E)
     F.called_set.init.plain F.entry_set_init (check_set_init_1 hT ?_)) λr s2 hr=>?_
   .have hlS:l<s.heap.objs.size:=by let⟨_,e,_⟩:=hl;exact Ô e
    have hl1:(s.heap.push<|J7<|byT w).IsList l items:=hl.push _;let⟨ol,hol,aZ,nl,hdl⟩:=id hl1;let⟨ocls,odict,odata,oslots⟩:=ol;simp only at aZ hdl;subst aZ hdl;have hsls:=F.sub_list_set;have hslf:=F.sub_list_frozenset;have ŭ:(Value.type "list" == Value.type "dict")=fe:=by decide
    unfold Builtin.«set.__init__» noKeywords Builtin.Frozenset.updateFrom;generalize hPI:eC=PI
    wp_walk
    subst hPI;refine ϔ hl1<|À<|wpAny_runValue ?_;have hh3:A.in1.in1.in1.handled=fb:=by simp[hh]
    have zs:(s.heap.push<|J7<|byT w).objs.size=s.heap.objs.size+1:=Ż ..;refine El ((Walks.list hh3 _ l (by rw[zs];exact æ<|Ĺ hlS) items).toS) s.heap.objs.size (by rw[zs];simp only[Ç,Ó,or_false,not_or];exact⟨æ<|ĳ _,ũ hlS⟩) (λi=>ns.getD i 0) (λi v hv=>IntsAre.int_at hi i v<|by rw[Ą];exact hv) hb (items.size - 0) 0 _ (by lia) (Ŀ _)
     ⟨⟨_,Ò _ rfl,rfl,rfl⟩,hl1.push _⟩ ?_ ?_
    .refine⟨_,#[],0,_,[],Å _ hS,⟨rfl,rfl,rfl⟩,rfl,λe he=>by simp at he,by show 0<aC;unfold aC;lia,rfl,⟨λz=>by show(!byT w)=fc;rw[z];rfl,.nil,rfl⟩,.nil,.nil⟩
    .intro s' m x;let⟨h',g',d',tk',os'⟩:=s';have eg:g'=s.gens:=m.gens;have ed:d'=s.drawn:=m.drawn;have eo:os'=s.os:=m.os;subst eg ed eo;refine Æ ?_;show wpAny _ _ (ret Value.none) _ _ _;refine Æ ⟨rfl,h',tk',rfl,x,λb o e=>?_⟩;have hb:=Ô e;exact m.heap b o (by rw[zs];simp only[Ç,Ó,or_false,not_or];exact⟨æ hb,æ<|Ĺ hb⟩)<|Å _<|Å _ e
   .cases r with
    |error e=>exact hr
    |ok fl =>
     cases fl with
     |ret r =>
      let⟨rfl,h',tk,rfl,x,hk⟩:=hr
      repeat (any_goals (first|assumption|wp_step))
      exact h _ _ x hk
     |_=>exact hr.elim
  |_=>exact hr.elim
end
end L2
namespace L2
open PySem PySem.Spec PyProof.Rows
open PySem.Builtin
def EG:entryFor table "set.__iter__" = eZ Builtin.«frozenset.__iter__»:=entryFor_alias (id':="frozenset.__iter__") (by kernel_rfl) rfl (by decide +kernel) (by kernel_rfl)
def EX:entryFor table "set_iterator.__next__" = eZ Builtin.«set_iterator.__next__»:=entryFor_of_tree (by kernel_rfl)
def B8(a:Â):cM "set_iterator.__next__" ⟨[a],[]⟩:=by unfold cM;kernel_rfl
def slot_snext:Slot "set_iterator" "__next__" "set_iterator.__next__" :=
 .of (owner:="set_iterator") (n:="__next__") (by rw[typeLookup_type,builtinLookup_eq_fast];kernel_rfl) (by decide +kernel) (by decide +kernel) (by decide +kernel)
  (by first|exact .inl (by decide +kernel)|exact .inr<|by decide +kernel) (by rw[cP];kernel_rfl)
def Kb:Slot "set_iterator" "__iter__" "set_iterator.__iter__" :=
 .of (owner:="set_iterator") (n:="__iter__") (by rw[typeLookup_type,builtinLookup_eq_fast];kernel_rfl) (by decide +kernel) (by decide +kernel) (by decide +kernel)
  (by first|exact .inl (by decide +kernel)|exact .inr<|by decide +kernel) (by rw[cP];kernel_rfl)
def Cu:entryFor table "set_iterator.__iter__" = eZ Builtin.«dict_keyiterator.__iter__»:=entryFor_alias (id':="dict_keyiterator.__iter__") (by kernel_rfl) rfl (by decide +kernel) (by kernel_rfl)
def Ca(a:Â):cM "set_iterator.__iter__" ⟨[a],[]⟩:=by unfold cM;kernel_rfl
def XN{α:Type}:∀{l:List α}{i:Nat}(h:i<l.length),(l[i]::l.eraseIdx i).Perm l
 |a::l,0,h=>.rfl
 |a::l,i+1,h=>(List.Perm.swap a _ _).trans<|(XN (l:=l)<|Nat.lt_of_succ_lt_succ h).cons a
def U3{α:Type}(f:Nat->Nat):∀(n k:Nat) (l:List α) (out:Array α),l.length=n->(bp f n k l out).toList.Perm (out.toList++l)
 |0,k,l,out,h=>by
  cases l with
  |nil=>unfold bp;simp
  |cons _ _=>cases h
 |n+1,k,l,out,h=>by unfold bp;have ϵ:f k % l.length<l.length:=Nat.mod_lt _ (by lia);rw[È ϵ];dsimp only;refine(U3 f n (k+1) _ _<|by rw[ţ ϵ];lia).trans ?_;rw[dZ,ĸ];exact(XN ϵ).append_left _
def As{α:Type}(f:Nat->Nat)(xs:Array α):(pickOrder f xs).toList.Perm xs.toList:=by unfold pickOrder;simpa using U3 f xs.size 0 xs.toList #[] (by simp)
section
variable {prog:ä}{w:ö}{A:ĉ}{E:Â->Ä->Prop}{s:Ä}
variable {n:Nat}
def AX{src:Source}{Q:Nat->Ä->Prop}(hn:0<n)(h:∀k d,k<n->Q k {s with drawn:=d}):wpAny (Õ prog w) A (choose src n) Q E s :=
 λ_ _ _=>⟨ũ hn,h _ _<|Nat.mod_lt _ hn⟩
def N2{α:Type}:∀(n:Nat) (xs:List α){s:Ä}{Q:List α->Ä->Prop},xs.length=n->(∀ys d,ys.Perm xs->Q ys {s with drawn:=d})->wpAny (Õ prog w) A (d0 n xs) Q E s
 |0,[],s,Q,_,h=>by unfold d0;exact Æ<|h [] s.drawn .nil
 |0,_::_,_,_,h,_=>by cases h
 |n+1,[],_,_,h,_=>by cases h
 |n+1,x::xs,s,Q,hl,h=>by unfold d0;refine À (AX (by simp) λk d hk=>?_);rw[È hk];dsimp only;refine À (N2 n _ (by rw[ţ hk];lia) λys d2 hp=>Æ<|h _ d2 ?_);exact(hp.cons _).trans<|XN hk
abbrev SetIt(h:Ć)(it a:Ë)(f:Â)(i n ep:Nat):Prop:=∃o,h.get? it=eZ o/\o.cls=.type "set_iterator"/\o.data=.fields #[f,.int i 0,.ref a,.int n 0,.int ep 0]
variable {it:Ë} {a:Ë} {f:Â} {i:Nat} {ep:Nat}
def SetIt.typeIs(h:SetIt s.heap it a f i n ep):s.TypeIs (.ref it) "set_iterator":=by let⟨o,h1,h2,_⟩:=h;exact⟨o,h1,h2⟩
structure SetO(h:Ć)(a:Ë)(o:Obj)(es:Array<|Int×Â)(ep:Nat)(t:ŷ):Prop where
 at_:h.get? a=eZ o
 dat:o.data=.set es ep t
 fit:t.fits es.size=fc
def Of{Q:Â->Ä->Prop}(hit:SetIt s.heap it a f i n ep)(h:Q (.ref it) s):wpAny (Õ prog w) A (eC<|.ref it) Q E s:=by have hT:=hit.typeIs;refine wpAny_pyIter_slot hT Kb<|ġ Kb hT Cu ?_<|Ca _;show wpAny _ _ (ret<|.ref it) _ _ s;exact Æ ⟨_,rfl,"set_iterator",_,hT,slot_snext.lookup,h⟩
variable {Q:Option Â->Ä->Prop}
def Ut(hh:A.handled=fb)(hQ:∀h',(∀b o,s.heap.get? b=eZ o->h'.get? b=eZ o)->Q fb {s with heap:=h'}) :
  wpAny (Õ prog w) A (do raiseNew (<-newExc (.type "StopIteration") []):Sem Fin) (λ_ _=>False) (λe s'=>∃h',(∀b o,s.heap.get? b=eZ o->h'.get? b=eZ o)/\s'={s with heap:=h'}/\s'.TypeIs e "StopIteration") s:=by
 show wpAny _ _ (newExc (.type "StopIteration") [] >>= _) _ _ _;refine À ?_;simp only[newExc,newTuple];refine À (č ?_<|by size_fits);refine À (m:=aj _ _) (bU (a:=Value.none) (by first|rfl|(simp only[aj];rfl)) ?_);refine č ?_ (by size_fits);simp only[raiseNew];refine À<|wpAny_handled ?_;rw[hh];refine À<|Æ<|wpAny_throw ?_;exact⟨_,λb o e=>Å _<|Å _ e,rfl,_,Ò _ rfl,rfl⟩
def W4(hT:s.TypeIs (.ref it) "set_iterator")
  (h:wpAny (Õ prog w) A.in1 (Builtin.«set_iterator.__next__» ⟨[.ref it],[]⟩) (λfin s'=>∃v,fin=.done (.ret v)/\Q (eZ v) s') (λe s'=>s'.TypeIs e "StopIteration"/\Q fb s') s):wpAny (Õ prog w) A (Ϛ<|.ref it) Q E s:=by
 unfold Ϛ;refine À<|wpAny_attempt<|ļ (name:=gO "__next__") hT slot_snext<|ġ slot_snext hT EX ?_<|B8 _;refine ċ h (λfin s' ⟨v,e,q⟩=>⟨v,e,Æ q⟩) λe s' ⟨t,q⟩=>?_;refine À<|bK (T:="StopIteration") (b:=fc) t isSubtype_stop ?_;exact Æ q
abbrev NX(prog:ä)(w:ö)(a:Ë)(o:Obj)(ep:Nat)(f:Nat->Nat)(ord:List Â):Prop :=
 ∀(A:ĉ) (s:Ä) (Q:Option (Â×Nat)->Ä->Prop) (E:Â->Ä->Prop) (i:Nat),i<=ord.length->s.heap.get? a=eZ o->Q (ord[i]?.map (·,f<|i+1)) s->wpAny (Õ prog w) A (setNext a (f i) i ep) Q E s
def Mo{h:Ć}{o:Obj}{vs:Array Â}{k:Nat}{x:Â}(ho:h.get? it=eZ o)(hc:o.cls=.type "set_iterator")(hd:o.data=.fields vs) :
  ∃o',(h.update it (ϊ (·.setIfInBounds k x))).get? it=eZ o'/\o'.cls=.type "set_iterator"/\o'.data=.fields (vs.setIfInBounds k x) :=
 ⟨_,ė _ ho<|dg<|Μ hd _,(Obj.cls_mapFields ..).trans hc,Μ hd _⟩
end
def Walks.setT{prog:ä}{w:ö}{A:ĉ}(hh:A.handled=fb)(I a:Ë)(ŭ:a≠I){o:Obj}{es:Array (Int×Â)}{ep:Nat}{t:ŷ}{f:Nat->Nat}{ord:List Â}(hl:ord.length=es.size)(nx:NX prog w a o ep f ord) :
  Walks prog w A I [I,a] [I] es.size (λi v=>ord[i]?=eZ v) (λi h=>SetIt h I a (.int (f i) 0) i es.size ep/\SetO h a o es ep t) where
 sub:=λb hb=>by simp at hb;simp[hb]
 frame:=λ_ _ _ st hk=>⟨by let⟨o,h1,h2⟩:=st.1;exact⟨o,hk I (by simp) o h1,h2⟩,hk a (by simp) _ st.2.at_,st.2.dat,st.2.fit⟩
 item:=λi s Q E hi st hQ=>by let⟨st,so⟩:=st;refine W4 st.typeIs ?_;let⟨oi,h1,h2,h3⟩:=st;show wpAny _ _ (fieldsOf (.ref I) >>= _) _ _ s;refine À<|am h1 h3 ?_;dsimp only;refine À<|ų so.at_ so.dat so.fit ?_;refine ő (λz=>gM z<|by simp) λ_=>?_;rw[à,à,à];have hx:ord[i]?=eZ ord[i]:=È (by lia);refine À (nx _ s _ _ i (by lia) so.at_ ?_);rw[hx];dsimp only[Option.map];refine À (ň h1 h3 (by simp) ?_);let⟨o2,g1,g2,g3⟩:=Mo (k:=0) (x:=Ī<|f<|i+1) h1 h2 h3;refine À (ň g1 g3 (by simp) ?_);let⟨o4,g4,g5,g6⟩:=Mo (k:=1) (x:=Ī<|(i:Int)+1) g1 g2 g3;have sb:=(Ă s.heap I (ϊ (·.setIfInBounds 0 (Ī<|f<|i+1)))).trans (Ă _ I (ϊ (·.setIfInBounds 1 (Ī<|(i:Int)+1))));refine Æ ⟨_,rfl,hQ _ _ s.toks hx ⟨⟨o4,g4,g5,by rw[g6];simp[Ī]⟩,?_,so.dat,so.fit⟩ λb ob hb e=>sb.extBut b ob (λz=>hb<|by simp[z]) e⟩;exact sb.extBut a _ ŭ so.at_
 done:=λs Q E st hQ=>by
  let⟨st,so⟩:=st;refine W4 st.typeIs ?_;let⟨oi,h1,h2,h3⟩:=st;show wpAny _ _ (fieldsOf (.ref I) >>= _) _ _ s;refine À<|am h1 h3 ?_;dsimp only;refine À<|ų so.at_ so.dat so.fit ?_;refine ő (λz=>gM z<|by simp) λ_=>?_;rw[à,à,à];refine À (nx _ s _ _ es.size (by lia) so.at_ ?_);rw[ĭ<|by lia];dsimp only[Option.map];refine À (ň h1 h3 (by simp) ?_);refine ċ (Ut (A:=A.in1) (Q:=Q) hh λh' hk=>?_) (λ_ _ z=>z.elim) λe s' ⟨h',hk,e2,tt⟩=>⟨tt,?_⟩
  .exact hQ h' s.toks λb ob hb e=>hk b ob ((Ă s.heap I _).extBut b ob (λz=>hb<|by simp[z]) e)
  .subst e2;exact hQ h' s.toks λb ob hb e=>hk b ob ((Ă s.heap I _).extBut b ob (λz=>hb<|by simp[z]) e)
 self:=λ_ _ _ _ st hQ=>Of st.1 hQ
def Walks.setD{prog:ä}{w:ö}{A:ĉ}(hh:A.handled=fb)(I a T:Ë)(ŭ:a≠I)(hnT:T≠I){o oT:Obj}{es:Array (Int×Â)}{ep:Nat}{t:ŷ}{ks:List Nat}(hl:ks.length=es.size)(hk:∀k∈ks,k<es.size)
  (hT:oT.data=.seq (ks.map λ(k:Nat)=>Ī k).toArray) :
  Walks prog w A I [I,a,T] [I] es.size (λi v=>(ks.map λk=>(es.getD k (0,.none)).2)[i]?=eZ v) (λi h=>SetIt h I a (.ref T) i es.size ep/\SetO h a o es ep t/\h.get? T=eZ oT) where
 sub:=λb hb=>by simp at hb;simp[hb]
 frame:=λ_ _ _ st hk=>⟨by let⟨o,h1,h2⟩:=st.1;exact⟨o,hk I (by simp) o h1,h2⟩,⟨hk a (by simp) _ st.2.1.at_,st.2.1.dat,st.2.1.fit⟩,hk T (by simp) _ st.2.2⟩
 item:=λi s Q E hi st hQ=>by
  let⟨st,so,sT⟩:=st;refine W4 st.typeIs ?_;let⟨oi,h1,h2,h3⟩:=st;show wpAny _ _ (fieldsOf (.ref I) >>= _) _ _ s;refine À<|am h1 h3 ?_;dsimp only;refine À<|ų so.at_ so.dat so.fit ?_;refine ő (λz=>gM z<|by simp) λ_=>?_;refine À<|Ř sT hT ?_;have hi':i<ks.length:=by lia
  have hx:ks[i]?=eZ ks[i]:=È hi';have hki:=hk ks[i]<|ı hi';have hp:((ks.map λ(k:Nat)=>Ī k).toArray)[(i:Int).toNat]?=eZ (.int (ks[i]:Nat) 0):=by rw[à];simp[hx,Ī]
  dsimp only;rw[hp];dsimp only;rw[à,à];unfold setNextDrawn;refine À<|À<|Ŧ so.at_ so.dat so.fit ?_;dsimp only;refine ő (λz=>gM z<|by simp) λ_=>?_;have he:es[ks[i]]?=eZ es[ks[i]]:=ù hki;rw[he];dsimp only;refine Æ ?_;refine À (ň h1 h3 (by simp) ?_);let⟨o4,g4,g5,g6⟩:=Mo (k:=1) (x:=Ī<|(i:Int)+1) h1 h2 h3;have sb:=Ă s.heap I (ϊ (·.setIfInBounds 1 (Ī<|(i:Int)+1)));refine Æ ⟨_,rfl,hQ _ _ s.toks ?_ ⟨⟨o4,g4,g5,by rw[g6];simp[Ī]⟩,⟨sb.extBut a _ ŭ so.at_,so.dat,so.fit⟩,sb.extBut T _ hnT sT⟩ λb ob hb e=>sb.extBut b ob (λz=>hb<|by simp[z]) e⟩;rw[Ú,hx];simp[ϸ,hki]
 done:=λs Q E st hQ=>by
  let⟨st,so,sT⟩:=st;refine W4 st.typeIs ?_;let⟨oi,h1,h2,h3⟩:=st;show wpAny _ _ (fieldsOf (.ref I) >>= _) _ _ s;refine À<|am h1 h3 ?_;dsimp only;refine À<|ų so.at_ so.dat so.fit ?_;refine ő (λz=>gM z<|by simp) λ_=>?_;refine À<|Ř sT hT ?_;have hp:((ks.map λ(k:Nat)=>Ī k).toArray)[(es.size:Int).toNat]?=fb:=by rw[à];simp[hl]
  dsimp only;rw[hp];dsimp only;refine À (ň h1 h3 (by simp) ?_);let⟨o4,g4,g5,g6⟩:=Mo (k:=0) (x:=Ī 0) h1 h2 h3;refine À (ň g4 g6 (by simp) ?_);refine ċ (Ut (A:=A.in1) (Q:=λ_ _=>True) hh λ_ _=>trivial) (λ_ _ z=>z.elim) λe s' ⟨h',hk,e2,tt⟩=>⟨tt,?_⟩
  subst e2;exact hQ h' s.toks λb ob hb e=>hk b ob ((Ă _ I _).extBut b ob (λz=>hb<|by simp[z])<|(Ă s.heap I _).extBut b ob (λz=>hb<|by simp[z]) e)
 self:=λ_ _ _ _ st hQ=>Of st.1 hQ
section
variable {prog:ä}{w:ö}{a:Ë}{o:Obj}{es:Array (Int×Â)}{ep:Nat}{t:ŷ}
def Gy(hb:byT w=fc)(hd:o.data=.set es ep t)(hf:t.fits es.size=fc):NX prog w a o ep (λ_=>0) ((pickOrder (w.params.setOrder a ep) es).toList.map (·.2)):=λA s Q E i hil ho h=>by unfold setNext;refine À<|Ŧ ho hd hf ?_;dsimp only;unfold ϭ;refine À<|À<|Ű<|Æ ?_;have bO:(Õ prog w).w.params.followText "set-order" = fc:=hb;dsimp only;rw[bO];simp only[↓reduceIte,bne_self_eq_false,İ];refine À ?_;unfold setWalk ϭ;refine À<|Ŧ ho hd hf ?_;dsimp only;refine À<|À<|Ű<|Æ ?_;dsimp only;rw[bO];simp only[↓reduceIte];refine À<|Ű<|Æ<|Æ ?_;dsimp only;rw[Ú,Ą,Ϡ]at h;exact h
def Iz(hb:byT w=fe)(tb:Tb (byT w) t)(hpl:(!t.plain&&gN (es.size > 1))=fe)(hd:o.data=.set es ep t)(hf:t.fits es.size=fc) :
  NX prog w a o ep (λi=>match i with|0=>0|k+1=>t.place.getD k 0+1) (es.toList.map (·.2)):=λA s Q E i hil ho h=>by
 have e0:∀slot,setNext a slot i ep=(do
     let (es,epoch,t)<-setState a
     if<-ϭ then
       if epoch != ep then ao "set_iterator.__next__:elements-changed"
       return ((<-setWalk a)[i]?).map λe=>(e.2,slot)
     if(!t.plain&&gN (es.size > 1))then ao "set_iterator.__next__:the-table-is-plain-no-more"
     (do if !t.led && !es.isEmpty then ao "set:maker-not-led")
     let i:=ľ t.place slot
     return match es[i]?,t.place[i]? with
       |some (_,x),eZ j=>eZ (x,j+1)
       | _,_=>fb):=λ_=>rfl
 rw[e0];refine À<|Ŧ ho hd hf ?_;dsimp only;unfold ϭ;refine À<|À<|Ű<|Æ ?_;have bO:(Õ prog w).w.params.followText "set-order" = fe:=hb;have hled:=tb.led hb;dsimp only;rw[bO,hpl,hled];simp only[İ,↓reduceIte,bY,Δ];refine Æ ?_;have hsz:t.place.size=es.size:=by simp only[SetTable.fits,bAq,beq_iff_eq,gL]at hf;exact hf.1
 have fin:∀slot,i<=es.size->Ui t.place slot i->Q (match es[ľ t.place slot]?,t.place[ľ t.place slot]? with|some (_,x),eZ j=>eZ (x,j+1)|_,_=>fb) s:=λslot hi hc=>by
  rw[C6 (Nq tb.ris slot) hc];rw[Ú,Ą]at h;by_cases ϵ:i<es.size
  .have h1:es[i]?=eZ es[i]:=ù ϵ;have h2:t.place[i]?=eZ (t.place[i]'(by lia)):=ù _;rw[h1]at h ⊢;rw[h2];have h3:t.place.getD i 0=t.place[i]'(by lia):=by simp[ϸ,show i<t.place.size by lia]
   dsimp only[Option.map]at h ⊢;rw[h3]at h;exact h
  .have h1:es[i]?=fb:=ϑ (by lia);rw[h1]at h ⊢;exact h
 cases i with
 |zero=>exact fin 0 (Ŀ _)<|Az _
 |succ k =>
  have hk:k<t.place.size:=by simp at hil;lia
  refine fin _ (by lia)<|AR tb.ris ?_;rw[ù hk];simp[ϸ,hk]
end
structure Near(s s':Ä):Prop where
 heap:∀b o,s.heap.get? b=eZ o->s'.heap.get? b=eZ o
 gens:s'.gens=s.gens
 os:s'.os=s.os
def Fa:∀{vs us:List Â}{ns:List Int},vs.Perm us->Ā us ns->∃ms,ms.Perm ns/\Ā vs ms:=by
 intro vs us ns h;induction h generalizing ns with
 |nil=>exact λr=>by cases r;exact⟨[],.nil,.nil⟩
 |cons x _ ih =>
  intro r;cases r with
  |cons n t r=>let⟨ms,h1,h2⟩:=ih r;exact⟨n::ms,h1.cons n,.cons n t h2⟩
 |swap x y l =>
  intro r;cases r with
  |cons n t r=>cases r with
   |cons m u r=>exact⟨m::n::_,.swap _ _ _,.cons m u<|.cons n t r⟩
 |trans _ _ ih1 ih2 =>intro r;let⟨ms,h1,h2⟩:=ih2 r;let⟨ks,h3,h4⟩:=ih1 h2;exact⟨ks,h3.trans h1,h4⟩
section
variable {prog:ä}{w:ö}{A:ĉ}{E:Â->Ä->Prop}{s:Ä}
def BP{r:Ë}{Q:Bool->Ä->Prop}(hT:s.TypeIs (.ref r) "set")(h:Q fe s):wpAny (Õ prog w) A (Builtin.List.listLengthHint<|.ref r) Q E s:=by
 unfold Builtin.List.listLengthHint;refine À<|wpAny_specialOf hT PySem.F.slot_set_len.lookup ?_;generalize hid:("set.__len__" : String)=id0
 wp_delta
 rw[show splitId id0=eZ ("set","__len__") from by subst hid;decide +kernel];subst hid;refine À (bK (T:="set") (b:=fc) hT (by rw[cP];kernel_rfl) ?_);refine ő (λhab=>gM hab<|by decide) λ_=>?_;refine ő (λ_=>?_) (λhab=>gM (by decide +kernel) hab);exact À<|ϩ hT<|Æ h
def B4{a:Ë}{l:List Int}{Q:Â->Ä->Prop}(hh:A.handled=fb)(hS:SetI prog w s.heap a l)
  (h:∀s' I fp St vs ms,Near s s'->s.heap.objs.size<=I->(∀b∈fp,b=a\/s.heap.objs.size<=b)->ms.Perm l->Ā vs ms->Walks prog w A I fp [I] l.length (λi v=>vs[i]?=eZ v) St->St 0 s'.heap->Q (.ref I) s') :
  wpAny (Õ prog w) A (eC<|.ref a) Q E s:=by
 let⟨o,es,ep,t,es0,ho,hex,hd,hel,hb,hf,ht,hp,hi⟩:=id hS;have hsz:es.size=l.length:=by rw[<-XH hi,Ã,<-hp.length_eq,ñ]
 rw[<-hsz]at h;have hT:s.TypeIs (.ref a) "set":=⟨o,ho,hex.1⟩
 have ϵ:=Ô ho;refine wpAny_pyIter_slot hT F.slot_set_iter<|ġ F.slot_set_iter hT EG ?_<|F.args_set_iter_1 _;have e0:Builtin.«frozenset.__iter__» ⟨[.ref a],[]⟩=(do
     let n<-cQ a
     let d<-(do
       let (es,_,t)<-setState a
       let byText<-ϭ
       return !byText&&(!t.plain&&gN (es.size > 1)))
     let first<-if d then newTuple ((<-d0 n (List.range n)).map λ(i:Nat)=>Ī i)else pure (Ī 0)
     ret (<-newFields "set_iterator" [first,Ī 0,.ref a,Ī n,Ī (<-setEpoch a)])):=rfl
 rw[e0];unfold cQ;refine À<|À<|ų ho hd hf<|Æ ?_;refine À<|À<|Ŧ ho hd hf ?_;dsimp only;unfold ϭ;refine À<|À<|Ű<|Æ<|Æ ?_;have ebt:(Õ prog w).w.params.followText "set-order" = byT w:=rfl;dsimp only;rw[ebt];have mapP:∀es':List<|Int×Â,es'.Perm es.toList->∃ms,ms.Perm l/\Ā (es'.map (·.2)) ms:=λes' q=>Fa ((q.trans hp).map _) hi;by_cases hdr:(!byT w&&(!t.plain&&gN (es.size > 1)))=fc
 .rw[gG hdr];refine À (N2 es.size (List.range es.size) (by simp) λks d hks=>À ?_);have hkl:ks.length=es.size:=by rw[hks.length_eq,ż]
  refine wpAny_newTuple ?_ (by rw[Ã,hkl];exact bo hb);refine À<|wpAny_setEpoch_of (Å _ ho) hd hf ?_;refine À<|č<|Æ ⟨_,rfl,"set_iterator",_,⟨_,Ò _ rfl,rfl⟩,slot_snext.lookup,?_⟩;have zs:(s.heap.push { cls:=.type "tuple",dict:=fb,data:=.seq (List.map (λ(i:Nat)=>Ī i) ks).toArray }).objs.size=s.heap.objs.size+1:=Ż ..;let⟨ms,m1,m2⟩:=mapP (ks.map λk=>es.getD k (0,.none)) (by
    refine(hks.map _).trans<|List.Perm.of_eq ?_
    refine List.ext_getElem (by simp) λi h1 h2=>?_
    have hi:i<es.size:=⇑h1
    simp[ϸ,hi])
  rw[ü]at m2;refine h _ _ [_,a,s.heap.objs.size] _ _ ms ⟨λb o e=>Å _<|Å _ e,rfl,rfl⟩ (by rw[zs];exact Ŏ _) (λb hb=>?_) m1 m2
   (Walks.setD (o:=o) (oT:={cls:=.type "tuple",dict:=fb,data:=.seq (List.map (λ(i:Nat)=>Ī i) ks).toArray}) (es:=es) (ep:=ep) (t:=t) (ks:=ks) hh _ a s.heap.objs.size (by rw[zs];exact æ<|Ĺ ϵ) (by rw[zs];exact æ<|ĳ _) hkl (λk hk=>Ÿ.mp<|hks.mem_iff.mp hk) rfl)
   ⟨⟨_,Ò _ rfl,rfl,rfl⟩,⟨Å _<|Å _ ho,hd,hf⟩,Å _<|Ò _ rfl⟩
  simp only[Ç,Ó,or_false]at hb;rcases hb with rfl|rfl|rfl
  .exact .inr (by rw[zs];exact Ŏ _)
  .exact .inl rfl
  .exact .inr<|Ñ _
 .rw[gH hdr];refine À<|Æ ?_;refine À<|wpAny_setEpoch_of ho hd hf ?_;refine À<|č<|Æ ⟨_,rfl,"set_iterator",_,⟨_,Ò _ rfl,rfl⟩,slot_snext.lookup,?_⟩;have go:∀(f:Nat->Nat) (es':List<|Int×Â),f 0=0->es'.Perm es.toList->NX prog w a o ep f (es'.map (·.2))->Q (.ref s.heap.objs.size) {s with heap:=s.heap.push {cls:=.type "set_iterator",dict:=fb,data:=.fields [Ī 0,Ī 0,.ref a,Ī es.size,Ī ep].toArray}}:=λf es' f0 hes nx=>by
   let⟨ms,m1,m2⟩:=mapP es' hes;have hl:(es'.map (·.2)).length=es.size:=by rw[Ã,hes.length_eq,ñ]
   refine h _ _ [_,a] _ _ ms ⟨λb o e=>Å _ e,rfl,rfl⟩ (Ñ _) (λb hb=>?_) m1 m2 (Walks.setT (t:=t) hh _ a (æ ϵ) hl nx) ⟨⟨_,Ò _ rfl,rfl,by rw[f0];rfl⟩,Å _ ho,hd,hf⟩;simp only[Ç,Ó,or_false]at hb;rcases hb with rfl|rfl
   .exact .inr<|Ñ _
   .exact .inl rfl
  cases hbt:byT w with
  |true=>exact go _ _ rfl (As _ es)<|Gy hbt hd hf
  |false =>rw[hbt]at hdr;exact go (λi=>match i with|0=>0|k+1=>t.place.getD k 0+1) _ rfl .rfl (Iz hbt ht ⇑hdr hd hf)
end
end L2
namespace L2
open PySem PySem.Spec PyProof.Rows
def CC{vs:List Â}{Ĵ:Array Â}{n:Nat}(h:ItemsOf (λi v=>vs[i]?=eZ v) Ĵ n)(hn:vs.length=n):Ĵ.toList=vs:=by
 refine List.ext_getElem? λi=>?_;rw[Ą];by_cases hi:i<Ĵ.size
 .rw[ù hi];exact(h.2 i _<|ù hi).symm
 .rw[ϑ (by lia),ĭ (by have:=h.1;lia)]
section
variable {prog:ä}{w:ö}{A:ĉ}{E:Â->Ä->Prop}{s:Ä}
variable {a:Ë} {l:List Int}
def GG(hh:A.handled=fb)(hS:SetI prog w s.heap a l)(S:Ë)(hSa:S≠a)(hs:s.heap.get? S=eZ {cls:=.type "list",data:=.seq #[] 0}){R:aH->Ä->Prop}
  (h:∀s' vs ms c,s'.gens=s.gens->s'.os=s.os->(∀b o,b≠S->s.heap.get? b=eZ o->s'.heap.get? b=eZ o)->ms.Perm l->Ā vs ms->s'.heap.get? S=eZ {cls:=.type "list",dict:=fb,data:=.seq vs.toArray c,slots:=#[]}->R (.ok<|.ret<|.ref S) s') :
  wpAny (Õ prog w) A.in1 (Builtin.List.listExtendWith (.ref S) (.ref a)<|.ref S) (λfin s'=>match fin with|.done f=>R (.ok f) s'|.again c'=>c'.quiet=fc/\codeAny (Õ prog w) A c' R s') (λe s'=>R (.error e) s') s:=by
 have hl:=hS.setOf;let⟨o,es,ep,t,es0,ho,hex,hd,hel,hb,hf,ht,hp,hi⟩:=id hS;have hsz:l.length<=Ö:=bo (by rw[<-XH hi,Ã,<-hp.length_eq,ñ];exact hb);have hT:s.TypeIs (.ref a) "set":=⟨o,ho,hex.1⟩
 have hSs:S<s.heap.objs.size:=Ô hs;unfold Builtin.List.listExtendWith;refine À<|ϩ (T:="set") hT ?_;have h1:Builtin.List.listSameRef (.ref S) (.ref a)=fe:=by simp[Builtin.List.listSameRef,hSa]
 have h2:(Value.type "set" == Value.type "list")=fe:=by decide
 have h3:(Value.type "set" == Value.type "tuple")=fe:=by decide
 simp only[h1,h2,h3,θ,İ,if_false];refine À<|B4 (A:=A.in1) hh hS λs1 I fp St vs ms ne hI hfp pm ia W st=>?_;have hsf:S∉fp:=λz=>by
  rcases hfp S z with q|q
  .exact hSa q
  .exact Ĥ _<|á hSs q
 have hvl:vs.length=l.length:=(XH ia).trans pm.length_eq;have key:∀(h':Ć) (c tk:Nat),St 0 h'->(∀b o,b≠S->s1.heap.get? b=eZ o->h'.get? b=eZ o)->h'.get? S=eZ {cls:=.type "list",data:=.seq #[] c}->codeAny (Õ prog w) A (.builtin "list.extend.loop" ⟨[.ref S,.ref I,.ref S],[]⟩) R {s1 with heap:=h',toks:=tk}:=by
  intro h' c tk d9 hk hS1;refine codeAny_extend_loopS W.toS hsz S hsf (.ref S) l.length 0 _ #[] c rfl (Ŀ _) d9 hS1 (ItemsOf.nil _) λs2 Ĵ c2 hm hS2 hacc=>?_;have ev:Ĵ.toList=vs:=CC hacc hvl;refine h s2 vs ms c2 (hm.gens.trans ne.gens) (hm.os.trans ne.os) (λb o hb e=>?_) pm ia (by rw[<-ev];simpa using hS2);refine hm.heap b o (λz=>?_)<|hk b o hb<|ne.heap b o e;rcases Ç.mp z with q|z
  .exact hb q
  .have z:b=I:=⇑z
   subst z;exact Ĥ _<|á (Ô e) hI
 have hS1:=ne.heap S _ hs;refine À<|Ě<|BP ⟨o,ne.heap a o ho,hex.1⟩ ?_;refine ő (λ_=>?_) λ_=>Æ ⟨ŕ PySem.F.plain_extend_loop _,key _ 0 _ st (λb o _ e=>e) hS1⟩;refine À<|Ϫ ?_;refine À ?_;show wpAny _ _ (dX S (·.push .none) >>= λ_=>dX S (·.pop)) _ _ _;refine À<|Ξ hS1 rfl ?_;have hS2:=ė (Λ (·.push Value.none)) hS1 rfl;refine Ξ (hz:=by seq_fits) hS2 rfl ?_;have hS3:=ė (Λ (·.pop)) hS2 rfl;refine Æ ⟨ŕ PySem.F.plain_extend_loop _,key _ _ _ ?_ (λb o hb e=>?_) hS3⟩
 .refine W.frame 0 _ _ st λb hb o e=>?_;have ei:b≠S:=λz=>hsf<|z▸hb;exact(í _ _ ei.symm).trans<|(í _ _ ei.symm).trans e
 .exact(í _ _ hb.symm).trans<|(í _ _ hb.symm).trans e
def NP{Q:List Â->Ä->Prop}(hh:A.handled=fb)(hS:SetI prog w s.heap a l)(h:∀s' vs ms,Near s s'->ms.Perm l->Ā vs ms->Q vs s'):wpAny (Õ prog w) A (collect<|.ref a) Q E s:=by
 have ϵ:a<s.heap.objs.size:=by let⟨_,_,_,_,_,e,_⟩:=hS;exact Ô e
 unfold collect;refine À<|wpAny_runValue<|ĝ F.entry_proto_collect ?_;rw[Ē F.plain_proto_collect _];show wpAny _ A.in1 (newList [] >>= λl=>again<|.builtin "list.__iadd__" ⟨[l,.ref a],[]⟩) _ _ s;refine À<|č ?_;refine Æ ⟨ŕ F.plain_list_iadd _,ĝ F.entry_list_iadd ?_⟩;rw[Ē F.plain_list_iadd _];show wpAny _ A.in1 (Builtin.List.listExtendWith (.ref s.heap.objs.size) (.ref a)<|.ref s.heap.objs.size) _ _ _;have fin:∀(q:aH) (s':Ä),(∃vs ms c,q=.ok (.ret<|.ref s.heap.objs.size)/\Near s s'/\ms.Perm l/\Ā vs ms/\s'.heap.get? s.heap.objs.size=eZ {cls:=.type "list",dict:=fb,data:=.seq vs.toArray c,slots:=#[]})->
   wants (λ(a:Â) s'=>wpAny (Õ prog w) A (match a with
     |.ref a=>do
       match (<-load a).data with
       |.seq xs _=>pure xs.toList
       |_=>ao "internal:collect"
     | _=>ao "internal:collect") Q E s') E q s':=λq s' ⟨vs,ms,c,e,ne,pm,ia,hg⟩=>by
  subst e;show wpAny _ A (load s.heap.objs.size >>= _) _ _ _;refine À<|wpAny_load hg<|Æ ?_;exact h s' _ ms ne pm ⇑ia
 refine ċ (GG (A:=A) (s:={ s with heap:=s.heap.push { cls:=.type "list",data:=.seq ([]:List Â).toArray } }) (R:=λq s'=>∃vs ms c,q=.ok (.ret<|.ref s.heap.objs.size)/\Near s s'/\ms.Perm l/\Ā vs ms/\s'.heap.get? s.heap.objs.size=eZ { cls:=.type "list",dict:=fb,data:=.seq vs.toArray c,slots:=#[] })
   hh (hS.at λo e=>Å _ e) s.heap.objs.size (ũ ϵ) (Ò _ rfl) λs' vs ms c g1 g2 g3 pm ia hg=>⟨vs,ms,c,rfl,⟨λb o e=>g3 b o (æ<|Ô e)<|Å _ e,g1,g2⟩,pm,ia,hg⟩) (λf s' z=>?_) λe s' z=>?_
 .cases f with
  |done f=>exact fin _ _ z
  |again c=>exact⟨z.1,ş z.2 λq s2 y=>fin q s2 y⟩
 .exact fin _ _ z
end
variable {X:Cx}
def Inv.near{Á:List (Ë×Obj)}{σ:St}{H:Hp}{s s':Ä}(I:Inv X Á σ H s)(ne:Near s s'):Inv X Á σ H s':=by have J:Inv X Á σ H {s with heap:=s'.heap,toks:=s'.toks}:=I.kept ne.heap;exact⟨J.ok,ne.os.trans J.os,by rw[ne.gens];exact J.bare,J.base,J.loc,J.cell,J.free,J.freeC,J.pin,J.hok,J.len⟩
abbrev tSS(K:Frag)(te:TE):TE:=λσ H Q=>Hx te Gn σ H λvs H1=>∃p,∃ns:List Int,vs=[.ref p]/\gp K H1 p (ns.map V.int)/\ns.length<64/\∀l,H1 l=fb->Q (.ref l) (upd H1 l<|.lst<|(sortI<|ό (λi=>ns.getD i 0) ns.length).map V.int)
def Mn{e:Expr}{te:TE}{p p2 ç pos2:Pos}(hc:X.calm=fc)(hg:Gl X "sorted")(hm:X.mg "sorted" = fb)(hg2:Gl X "set")(hm2:X.mg "set" = fb)(he:PE X e te)(hs:Ï [e] X.env=[(fe,eval e X.env)]) :
  PE X (.Call (.Name "sorted" p) [.Call (.Name "set" p2) [e] [] pos2] [] ç) (tSS X.K te):=by
 intro Á s σ H Q I h;refine ğ (Xp (u:=.builtin "sorted") I hg hm (by kernel_rfl) ?_);refine PyProof.Rows.callWith_builtin1 ?_ rfl rfl;show wpAny _ _ (spliced<|(fe,eval (.Call (.Name "set" p2) [e] [] pos2) X.env)::[]) _ _ _;refine Calls.spliced_cons ?_;refine ğ (Xp (u:=.type "set") I hg2 hm2 (by kernel_rfl) ?_ (by decide)<|by decide);refine callWith_type1 (thn ((ZA he gk hs) pos2 Á s σ H _ I h) λus s1 ⟨vs,H1,I1,r1,q1⟩=>?_) hs rfl;let⟨a,ns,e1,hq,h64,q⟩:=q1;subst e1;let⟨u,rfl,ru⟩:=Yv r1;cases ru;let⟨ô,rv,pl,hz⟩:=I1.list hq;have hlen:=rv.length;rw[Ã]at hlen;refine DE (I1.ok.hd hc) pl.isList (by simpa using ZI rv) (by rw[Ð];show ô.length+1<4096;lia) λh' tk x hk=>Calls.spliced_nil ?_
 replace x:SetI X.prog X.w h' s1.heap.objs.size<|ό (λi=>ns.getD i 0) ns.length:=by rw[hlen];rw[show ô.toArray.size=ô.length from Ð]at x;exact x
 have I2:Inv X Á σ H1 {s1 with heap:=h',toks:=tk}:=I1.kept hk;refine Calls.call_function_entry kind_sorted plain_sorted entry_sorted (args_sorted1 _) ?_;unfold Builtin.«sorted»;refine À (m:=checkCount "sorted" 1 1 _)<|Æ ?_;refine À<|NP (A:=X.A.in1) (I1.ok.hd hc) x λs3 vs ms ne pm ia=>?_;have I3:=I2.near ne;have hvl:vs.length<64:=by rw[XH ia,pm.length_eq];exact Ü (aN _ _) (by lia)
 refine À (dB ?_<|by unfold Ö;lia);have hoL:(s3.heap.push<|Ω "list" vs.toArray 0).get? s3.heap.objs.size=eZ (Ω "list" vs.toArray 0):=Ò _ rfl;refine À<|Ě<|ġ slot_list_sort ⟨_,hoL,rfl⟩ entry_list_sort (list_sort_tree hoL ia hvl λout cC a1 a2 a3=>⟨_,rfl,?_⟩)<|args_list_sort _;have e:=Y3 (a2.trans pm) a3;subst e;let⟨n,hat⟩:=sortedHeap_at (out:=out) hoL;refine Æ ⟨_,rfl,.ref s3.heap.objs.size,_,I3.laid (a:=s3.heap.objs.size) (o:=.lst<|(sortI<|ό (λi=>ns.getD i 0) ns.length).map V.int) (t':=s3.toks) (λb o e=>?_) (Ñ _) ?_,rfl,q _<|I3.hok.fresh<|Ñ _⟩
 .have hb:=Ô e;rw[sortedHeap_old (æ hb)<|by rw[size_push'];exact Ĺ hb];exact Å _ e
 .exact⟨by rw[Ã,YM];have:=aN (λi=>ns.getD i 0) ns.length;unfold Ö;lia,out.toList,n,YT a1,by simpa[Ω]using hat⟩
end L2
namespace Snd
open PySem L2
variable {i:Inf}{X:Cx}{Φ:gF.Fs}
def NI{e:Expr}{m:gF.E}{p p2 ç pos2:Pos}(hc:X.calm=fc)(hK:X.K=i.K)(he:PE X e<|tE X i Φ m)(hg:Gl X "sorted")(hm:X.mg "sorted" = fb)(hg2:Gl X "set")(hm2:X.mg "set" = fb)(ō:Ï [e] X.env=[(fe,eval e X.env)]) :
  PE X (.Call (.Name "sorted" p) [.Call (.Name "set" p2) [e] [] pos2] [] ç) (tE X i Φ<|.bi .sortedSet<|.cons m .nil):=by
 refine(Mn hc hg hm hg2 hm2 he ō).imp λσ H Q ⟨env,G,Qm,Em,p,w,c⟩=>?_;rw[gF.q_e_bi,gF.q_a_cons]at w;change tE X i Φ m σ H _;refine one p w λv G1 H1 x k1 p1 r q=>?_;rw[gF.q_a_nil]at q
 replace q:(gF.biSortedSet G1 v).wp G1 Qm:=q
 unfold gF.biSortedSet at q;cases z:gF.sortOf G1 v with
 |none=>rw[z]at q;exact(Zh q).elim
 |some ns =>
  rw[z]at q;dsimp only at q;split at q
  .rename_i h4;let⟨a,rfl,hs⟩:=DW p1.hp r z;refine⟨a,ns,rfl,by rw[hK];exact hs,h4,?_⟩;rw[Kt<|EU ns];exact Yz p1.hp (ML q) (c.go k1) λp hp=>⟨_,fh,RVs.ints _⟩
  .exact(Zh q).elim
section
variable {K:Frag}{H H':Hp}
structure gj(H H':Hp):Prop where
 t:∀a xs,H a=eZ (.tup xs)->H' a=eZ (.tup xs)
 f:∀a o xs,H a=eZ (.frz o<|.lst xs)->H' a=eZ (.frz o<|.lst xs)
mutual
theorem RV.keepL(k:gj H H'):∀{v:gF.Val}{x:V},RV K H v x->RV K H' v x
 |_,_,.non=>.non
 |_,_,.bl b=>.bl b
 |_,_,.int i=>.int i
 |_,_,.str s=>.str s
 |_,_,.tup (.inl e) r=>.tup (.inl<|k.t _ _ e)<|RVs.keepL k r
 |_,_,.tup (.inr e) r=>.tup (.inr e)<|RVs.keepL k r
 |_,_,.ref a=>.ref a
 |_,_,.scr (.inl ⟨o,e⟩)=>.scr<|.inl ⟨o,k.f _ _ _ e⟩
 |_,_,.scr (.inr e)=>.scr<|.inr e
 |_,_,.key e=>.key<|k.t _ _ e
theorem RVs.keepL(k:gj H H'):∀{vs:List gF.Val}{xs:List V},RVs K H vs xs->RVs K H' vs xs
 |_,_,.nil=>.nil
 |_,_,.cons r t=>.cons (RV.keepL k r)<|RVs.keepL k t
end
def RKs.keepL(k:gj H H'):∀{kvs:List (gF.Val×gF.Val)}{ps:List (Key×V)},RKs K H kvs ps->RKs K H' kvs ps
 |_,_,.nil=>.nil
 |_,_,.cons a r t=>.cons a (r.keepL k)<|RKs.keepL k t
def RTs.keepL(k:gj H H'):∀{kvs:List (gF.Val×gF.Val)}{ps:List (List Key×V)},RTs K H kvs ps->RTs K H' kvs ps
 |_,_,.nil=>.nil
 |_,_,.cons r t=>.cons (r.keepL k)<|RTs.keepL k t
def RFs.keepL(k:gj H H'):∀{fs:List (String×gF.Val)}{ps:List (Str×V)},RFs K H fs ps->RFs K H' fs ps
 |_,_,.nil=>.nil
 |_,_,.cons r t=>.cons (r.keepL k)<|RFs.keepL k t
def REn.keepL{env:gF.Env}{σ:St}(r:REn K H env σ)(k:gj H H'):REn K H' env σ:=⟨r.len,λi v e=>by
  let⟨x,h1,h2⟩:=r.get i v e
  exact⟨x,h1,h2.keepL k⟩⟩
variable {a:Ë}
def RO.moveL{o:gF.Ob}(r:RO i H a o)(k:gj H H')(e:H' a=H a):RO i H' a o:=by
 cases o with
 |lst xs=>let⟨vs,q,r⟩:=r;exact⟨vs,e.trans q,r.keepL k⟩
 |dct kvs=>let⟨ps,q,r⟩:=r;exact⟨ps,e.trans q,r.keepL k⟩
 |ins C fs=>let⟨c,dx,ps,h0,h,q,r⟩:=r;exact⟨c,dx,ps,h0,h,e.trans q,r.keepL k⟩
 |exc C=>let⟨c,h,q⟩:=r;exact⟨c,h,e.trans q⟩
 |frz kvs=>let⟨o,ps,q,r⟩:=r;exact⟨o,ps,e.trans q,r.keepL k⟩
 |dtp kvs=>let⟨ps,q,r⟩:=r;exact⟨ps,e.trans q,r.keepL k⟩
variable {o:Obj} {ps:List (Key×V)}
def XB(e:H a=eZ (.frz o<|.dK ps)):gj H (upd H a<|.dK ps) :=
 ⟨λb xs q=>by rw[ff<|by rintro rfl;rw[e]at q;cases q];exact q,λb p xs q=>by rw[ff<|by rintro rfl;rw[e]at q;cases q];exact q⟩
def RH.thaw{G:gF.Hs}{kvs:List (gF.Val×gF.Val)}(g:RH i G H)(e:H a=eZ (.frz o<|.dK ps))(r:RKs i.K H kvs ps):RH i (gF.upd G a<|.dct kvs)<|upd H a<|.dK ps:=λb p q=>by
 by_cases hb:b=a
 .subst hb;rw[gF.fh]at q;cases q;exact⟨ps,fh,r.keepL<|XB e⟩
 .rw[gF.ff hb]at q;exact(g b p q).moveL (XB e)<|ff hb
def RKs.len:∀{kvs:List (gF.Val×gF.Val)}{ps:List (Key×V)},RKs K H kvs ps->kvs.length=ps.length
 |_,_,.nil=>rfl
 |_,_,.cons _ _ t=>by rw[Ì,Ì,RKs.len t]
def RKs.at:∀{kvs:List (gF.Val×gF.Val)}{ps:List (Key×V)}{n:Nat}{c:Key}{x:V},RKs K H kvs ps->ps[n]?=eZ (c,x)->∃k v,kvs[n]?=eZ (k,v)/\WV k c/\RV K H v x
 |_,_,n,_,_,.nil,e=>by simp at e
 |_,_,0,_,_,.cons hk r _,e=>by simp at e;let⟨rfl,rfl⟩:=e;exact⟨_,_,rfl,hk,r⟩
 |_,_,n+1,_,_,.cons _ _ t,e=>by let⟨k,v,h1,h2⟩:=RKs.at (n:=n) t ⇑e;exact⟨k,v,⇑h1,h2⟩
def Dm{k:gF.Val}{c:Key}(h:WV k c):RV K H k<|kV c:=by
 cases k with
 |int j=>cases c with
  |inl l=>have h:j=l:=h;subst h;exact .int _
  |inr _=>exact(show False from h).elim
 |str s=>cases c with
  |inl _=>exact(show False from h).elim
  |inr t=>have h:t=gO s:=h;subst h;exact .str _
 |_=>exact(show False from h).elim
end
variable {H0:Hp} {a:Ë} {o:Obj} {ps:List (Key×V)} {kvs:List (gF.Val×gF.Val)}
def DR(e0:H0 a=eZ (.frz o<|.dK ps))(r0:RKs i.K H0 kvs ps):ItOk i H0 (Iti a o ps) (λg=>g a=eZ (.frz kvs)) (kvs.map<|gF.itemOf fe) where
 go:=λn G H v k g e hv=>by
  have e1:=k.f _ _ _ e0;rw[Ú]at hv;let⟨p,hp,rfl⟩:=Í.mp hv;have hn:n<ps.length:=by rw[<-r0.len];exact(Î.mp hp).1
  refine⟨⟨e1,hn⟩,λx H' ⟨q,c,y,ex,hq,hy,eH⟩=>?_⟩;subst ex eH;let⟨k2,v2,h1,h2,h3⟩:=(r0.keep k).at hy;rw[hp]at h1;cases h1;have kk:fH H<|upd H q<|.tup [kV c,y]:=fH.new hq;exact⟨kk,X7 g hq,.tup (.inl fh)<|.cons (Dm h2)<|.cons (h3.keep kk) .nil⟩
 stop:=λn G H k g e hn=>⟨k.f _ _ _ e0,by rw[<-r0.len];simpa using hn⟩
def F7(e0:H0 a=eZ (.frz o<|.dK ps))(r0:RKs i.K H0 kvs ps):ItOk i H0 (Itk a o ps) (λg=>g a=eZ (.frz kvs)) (kvs.map<|gF.itemOf fc) where
 go:=λn G H v k g e hv=>by
  have e1:=k.f _ _ _ e0;rw[Ú]at hv;let⟨p,hp,rfl⟩:=Í.mp hv;have hn:n<ps.length:=by rw[<-r0.len];exact(Î.mp hp).1
  refine⟨⟨e1,hn⟩,λx H' ⟨eH,c,y,hy,ex⟩=>?_⟩;subst ex eH;let⟨k2,v2,h1,h2,h3⟩:=(r0.keep k).at hy;rw[hp]at h1;cases h1;exact⟨fH.refl _,g,Dm h2⟩
 stop:=λn G H k g e hn=>⟨k.f _ _ _ e0,by rw[<-r0.len];simpa using hn⟩
variable {tg:Expr} {ç:Pos} {body:List Į} {q:gF.Pt} {m:gF.E} {mb:gF.Ss}
def Ah{Ŷ:Expr}{kb:Bool}{J:Ë->Obj->List (Key×V)->It}(hp:av (Õ X.prog X.w) X.A X.env X.xe)(hc:X.calm=fc)(hi:PI X tg Ŷ<|Lr X J<|tE X i Φ m)(hg:PG X tg<|gPt i q)(hb:PSs X body<|tBl X i Φ mb)
  (hs:∀x,Ę Ŷ X.env x=pure x) (hJ:∀(H0:Hp) (a:Ë) (o:Obj) (ps:List<|Key×V) (kvs:List<|gF.Val×gF.Val),H0 a=eZ (.frz o<|.dK ps)->RKs i.K H0 kvs ps->ItOk i H0 (J a o ps) (λg=>g a=eZ (.frz kvs)) (kvs.map<|gF.itemOf kb)) :
  PS X (.For tg Ŷ body [] ç) (tSt X i Φ<|.forI kb q m mb):=by
 intro Á s σ H D I ⟨env,G,N,R,B,C,Xe,p,w,c⟩;refine Fg (C8 hp hc hi hg hb hs) Á s σ H D I ?_;refine one p.pre w λv G1 H1 x k1 p1 rx w'=>?_;let⟨a,e1,w''⟩:=fj w';let⟨kvs,e2,w1⟩:=fj w'';clear w' w'';have ev:v=.ref a:=by
  cases v with
  |ref b=>cases e1;rfl
  |_=>cases e1
 subst ev;cases rx.ref_inv;have eG:G1 a=eZ (.dct kvs):=by
  cases z:G1 a with
  |none=>rw[z]at e2;cases e2
  |some o=>rw[z]at e2;cases o<;>first|(cases e2;rfl)|cases e2
 let⟨ps,ha,hr⟩:=p1.hp a _ eG;refine⟨a,ps,rfl,ha,λo h0=>?_⟩;have k2:fH H1<|upd H1 a<|.frz o<|.dK ps:=fH.put (λxs z=>by rw[ha]at z;cases z) λp u z=>by rw[ha]at z;cases z
 have g2:RH i (gF.upd G1 a<|.frz kvs)<|upd H1 a<|.frz o<|.dK ps:=p1.hp.put k2 ⟨o,ps,fh,hr.keep k2⟩;have it:=hJ _ a o ps kvs fh<|hr.keep k2;have Ϟ:∀{H':Hp}{G':gF.Hs},fH (upd H1 a<|.frz o<|.dK ps) H'->RH i G' H'->H' a=eZ (.frz o<|.dK ps)/\RKs i.K H' kvs ps/\fH H (upd H' a<|.dK ps):=λ{H' G'} k g=>by
  have e:=k.f a o _ fh;refine⟨e,(hr.keep k2).keep k,λb xs z=>?_,λb o' u z=>?_⟩
  .have z1:=k1.t b xs z;have hb:b≠a:=by rintro rfl;rw[ha]at z1;cases z1
   rw[ff hb];exact k.t b xs (by rw[ff hb];exact z1)
  .have z1:=k1.f b o' u z;have hb:b≠a:=by rintro rfl;rw[ha]at z1;cases z1
   rw[ff hb];exact k.f b o' u (by rw[ff hb];exact z1)
 have fin:∀Ŝ Ū G' H',fH (upd H1 a<|.frz o<|.dK ps) H'->RH i G' H'->REn i.K H' Ŝ Ū->(G' a=eZ (.frz kvs)/\N Ŝ (gF.upd G' a<|.dct kvs))->(D.thaw X).nx Ū H':=λŜ Ū G' H' k g en ⟨_,n⟩=>by let⟨b1,b2,b3⟩:=Ϟ k g;exact⟨a,o,ps,b1,h0,c.nx Ŝ Ū _ _ b3 (g.thaw b1 b2) (en.keepL<|XB b1) n⟩
 have ret:∀v G' H' x,fH (upd H1 a<|.frz o<|.dK ps) H'->RH i G' H'->RV i.K H' v x->(G' a=eZ (.frz kvs)/\R v (gF.upd G' a<|.dct kvs))->(D.thaw X).rt x H':=λv G' H' x k g r ⟨_,n⟩=>by let⟨b1,b2,b3⟩:=Ϟ k g;exact⟨a,o,ps,b1,h0,c.rt v _ _ x b3 (g.thaw b1 b2) (r.keepL<|XB b1) n⟩
 have xo:∀Hq,XW X (XKS i Hq λ_ _ _=>False):=λHq=>λ_ _ _ _ _ _ _ _ _ _ ⟨_,_,_,_,_,_,_,_,z⟩=>z.elim;generalize hxs:kvs.map (gF.itemOf kb)=xs at w1 it;generalize ō:(λg:gF.Hs=>g a=eZ (.frz kvs))=st at w1 it;refine⟨λn m Ū H'=>n+m=xs.length/\∃Ŝ G',fH (upd H1 a<|.frz o<|.dK ps) H'/\RH i G' H'/\REn i.K H' Ŝ Ū/\gF.wFor st (λv e g K M=>gF.go (gF.bind q g v e) λe2=>gF.wSs Φ mb e2 g K (λu g2=>g2 a=eZ (.frz kvs)/\R u (gF.upd g2 a<|.dct kvs)) M K λ_ _ _=>False) (λe g=>g a=eZ (.frz kvs)/\N e (gF.upd g a<|.dct kvs)) (xs.drop n) Ŝ G',⟨xs.length,by lia,env,_,fH.refl _,g2,(p.en.keep k1).keep k2,⇑w1⟩,?_⟩;rintro n m Ū H' ⟨hnm,Ŝ,G',k3,g3,e3,w3⟩;by_cases hn:n<xs.length
 .right;have hd:xs.drop n=xs[n]::xs.drop (n+1):=Υ hn;rw[hd]at w3;let⟨s2,w3⟩:=w3;have hv:xs[n]?=eZ xs[n]:=È hn;let⟨a1,a2⟩:=it.go n G' H' xs[n] k3 g3 s2 hv;refine⟨a1,λσ4 H4=>∃de G4,fH (upd H1 a<|.frz o<|.dK ps) H4/\RH i G4 H4/\REn i.K H4 de σ4/\gF.wFor st (λv e g K M=>gF.go (gF.bind q g v e) λe2=>gF.wSs Φ mb e2 g K (λu g2=>g2 a=eZ (.frz kvs)/\R u (gF.upd g2 a<|.dct kvs)) M K λ_ _ _=>False) (λe g=>g a=eZ (.frz kvs)/\N e (gF.upd g a<|.dct kvs)) (xs.drop<|n+1) de G4,λσ4 H4 h=>⟨m - 1,by lia,by lia,h⟩,λx H4 hy=>?_⟩;let⟨k4,g4,r4⟩:=a2 x H4 hy;let⟨dL,e5,w5⟩:=fj w3;refine⟨xs[n],Ŝ,G',dL,r4,g4,e3.keep k4,e5,λσ5 h5=>?_⟩;refine⟨dL,G',_,_,_,_,_,⟨h5,g4,xo _⟩,w5,⟨λenv6 σ6 G6 H6 k6 g6 e6 w6=>?_,λv6 G6 H6 x6 k6 g6 r6 w6=>?_,λenv6 σ6 G6 H6 k6 g6 e6 w6=>?_,λenv6 σ6 G6 H6 k6 g6 e6 w6=>?_⟩⟩
  .exact⟨env6,G6,(k3.trans k4).trans k6,g6,e6,w6⟩
  .exact ret v6 G6 H6 x6 ((k3.trans k4).trans k6) g6 r6 w6
  .exact fin env6 σ6 G6 H6 ((k3.trans k4).trans k6) g6 e6 w6
  .exact⟨env6,G6,(k3.trans k4).trans k6,g6,e6,w6⟩
 .left;have hd:xs.drop n=[]:=ŗ (by lia);rw[hd]at w3;exact⟨it.stop n G' H' k3 g3 w3.1 (by lia),fin Ŝ Ū G' H' k3 g3 e3 w3.2⟩
variable {kk:Nat} {d:Expr}
def E3{es:List Expr}{tp Ł Ő:Pos}(hp:av (Õ X.prog X.w) X.A X.env X.xe)(hc:X.calm=fc)(hd:PE X d<|tE X i Φ m)(hg:PG X (.Tuple es kk tp)<|gPt i q)(hb:PSs X body<|tBl X i Φ mb)
  (aR:ĩ d "items" X.env (eval d X.env)=eval d X.env) (aT:(Ł.endLine==Ő.line)=fc) (hs:∀x,Ę (.Call (.Attribute d "items" Ł) [] [] Ő) X.env x=pure x) :
  PS X (.For (.Tuple es kk tp) (.Call (.Attribute d "items" Ł) [] [] Ő) body [] ç) (tSt X i Φ<|.forI fe q m mb) :=
 Ah hp hc (E2 hd aR aT) hg hb hs λ_ _ _ _ _ e r=>DR e r
def Gr(hp:av (Õ X.prog X.w) X.A X.env X.xe)(hc:X.calm=fc)(hd:PE X d<|tE X i Φ m)(hg:PG X tg<|gPt i q)(hb:PSs X body<|tBl X i Φ mb)(hs:∀x,Ę d X.env x=pure x) :
  PS X (.For tg d body [] ç) (tSt X i Φ<|.forI fc q m mb) :=
 Ah hp hc (GX hd) hg hb hs λ_ _ _ _ _ e r=>F7 e r
def NJ(Ġ:List<|List Int):∀(k:Nat) (x:List Int) (r:List<|List Int),Ġ.take (k+1)=x::r->k<Ġ.length->gF.minR x r=Ġ.getD (Ľ (btL λn=>Ġ.getD n []) k) []
 |0,x,r,h,hk=>by
  cases Ġ with
  |nil=>cases h
  |cons y ys=>simp at h;let⟨rfl,rfl⟩:=h;rfl
 |k+1,x,r,h,hk=>by
  cases Ġ with
  |nil=>cases h
  |cons y ys =>
   rw[ϲ]at h;injection h with h1 h2;subst h1 h2;have b5:k<ys.length:=⇑hk
   have ih:=NJ (y::ys) k y (ys.take k) (by rw[ϲ]) (by simp;lia);have e:ys.take (k+1)=ys.take k++[ys[k]]:=by rw[Ψ];simp[b5]
   have app:∀(b:List Int) (l:List<|List Int) (z:List Int),gF.minR b (l++[z])=if gF.fS z (gF.minR b l)then z else gF.minR b l:=by
    intro b l z;induction l generalizing b with
    |nil=>rfl
    |cons w l ih=>exact ih _
   rw[e,app,ih];have e2:(y::ys).getD (k+1) []=ys[k]:=by simp[b5]
   show _=(y::ys).getD (if btL (λn=>(y::ys).getD n []) (k+1) (Ľ (btL λn=>(y::ys).getD n []) k)=fc then k+1 else Ľ (btL λn=>(y::ys).getD n []) k) [];have eb:btL (λn=>(y::ys).getD n []) (k+1) (Ľ (btL λn=>(y::ys).getD n []) k)=gF.fS ys[k] ((y::ys).getD (Ľ (btL λn=>(y::ys).getD n []) k) []):=by rw[MI,<-e2];rfl
   rw[eb];cases gF.fS ys[k] ((y::ys).getD (Ľ (btL λn=>(y::ys).getD n []) k) [])with
   |true=>rw[gG rfl,gG rfl,e2]
   |false=>rw[gH (by decide),gH<|by decide]
def Gj{G:gF.Hs}{H:Hp}{xs:List gF.Val}{us:List V}{w:List Int}{r:List (List Int)}{y:V}(h2:RVs i.K H xs us)(h3:(w::r).length=us.length)(h5:xs=(w::r).map λn=>.tup<|n.map .int)(hy:us[Ľ (btL λn=>(w::r).getD n [])<|us.length - 1]?=eZ y):RV i.K H (.tup<|(gF.minR w r).map .int) y:=by
 rw[NJ (w::r) ((w::r).length - 1) w r (by simp)<|by simp];rw[<-h3]at hy;have ϵ:Ľ (btL λn=>(w::r).getD n []) ((w::r).length - 1)<(w::r).length:=by have:=JV (btL λn=>(w::r).getD n [])<|(w::r).length - 1;simp only[Ì]at this ⊢;lia
 generalize hj:Ľ (btL λn=>(w::r).getD n []) ((w::r).length - 1)=j at hy ϵ ⊢;have hxj:xs[j]?=eZ (.tup<|((w::r).getD j []).map .int):=by rw[h5,Ú,È ϵ];simp[ĕ,È ϵ]
 let⟨x2,cD,rx2⟩:=h2.get hxj;rw[hy]at cD;cases cD;exact rx2
def Pb{e:Expr}{p kp kpos:Pos}(hc:X.calm=fc)(hu:X.A.units+1<Ķ)(hK:X.K=i.K)(hg:Gl X "min")(hm:X.mg "min" = fb)(he:PE X e<|tE X i Φ m)(hs:Ï [e] X.env=[(fe,eval e X.env)]) :
  PE X (.Call (.Name "min" p) [e] [⟨eZ "default",.Constant .none kk kp,kpos⟩] ç) (tE X i Φ<|.bi .minD<|.cons m .nil):=by
 refine(GI hc hu hg hm (ZA he gk<|by rw[hs];rfl) hs).imp λσ H Q ⟨env,G,Qm,Em,p,w,c⟩=>?_;change tE X i Φ m σ H _;refine one p w λv G1 H1 x k1 p1 r q=>?_
 replace q:(gF.f8 G1 v).wp G1 Qm:=q
 cases v with
 |ref a =>
  cases r.ref_inv;unfold gF.f8 at q;dsimp only at q;cases z:(gF.fx<|G1 a).bind gF.rowsOf with
  |none=>rw[z]at q;exact(Zh q).elim
  |some Ġ =>
   let⟨xs,z1,z2⟩:=ê.mp z;let⟨us,h1,h2⟩:=Z1 p1.hp z1;let⟨h3,h4,h5⟩:=N6 h2 z2;rw[z]at q;refine⟨a,us,Ġ,rfl,by rw[hK];exact h1,h3,by rw[hK];exact h4,λe0=>?_,λe0 y hy=>?_⟩
   .subst e0;cases Ġ with
    |nil=>exact c _ G1 H1 _ k1 p1.hp .non<|Zr q
    |cons _ _=>cases h3
   .cases Ġ with
    |nil=>exact gM (Ϗ.mp h3.symm) e0
    |cons w r =>exact c _ G1 H1 _ k1 p1.hp (Gj (G:=G1) h2 h3 h5 hy)<|Zr q
 |_=>exact(Zh q).elim
structure Md where
 N:List Str
 sc:ξ
 cs:List<|String×gF.Val
 fs:List String
 cm:Bool
 cl:List String
 ms:List<|String×String
 fl:List String
 xs:List String
abbrev Md.nmOf(c:Md)(j:Nat):Str:=c.N.getD j Str.empty
abbrev Md.vis(c:Md)(x:Str):Bool:=match c.sc.names.lookup x with
 |some .local=>fc
 |some .cell=>fc
 |some .free=>fc
 |_=>fe
abbrev Md.loc(c:Md)(x:Str):Bool:=c.sc.names.lookup x==eZ .local||c.sc.names.lookup x==eZ .cell
abbrev Md.gl(c:Md)(x:Str):Bool:=c.sc.names.lookup x==eZ .globalImplicit
abbrev nm(x:Str):Bool:=!(x==("__debug__" : Str)) && !(x==("__classdict__" : Str)) && !(x==("__name__" : Str))
abbrev dE:Expr:=.Name Str.empty ⟨0,0,0,0⟩
abbrev mix:List (Option Expr)->List Expr->List Expr
 |k::ks,v::vs=>k.getD dE::v::mix ks vs
 |_,_=>[]
abbrev sub:Expr->List Expr
 |.BoolOp _ xs _=>xs
 |.BinOp a _ b _=>[a,b]
 |.UnaryOp _ a _=>[a]
 |.IfExp a b c _=>[a,b,c]
 |.Compare a _ bs _=>a::bs
 |.Call f as ks _=>f::(as++ks.map (·.value))
 |.FormattedValue a _ _ _=>[a]
 |.JoinedStr vs _=>vs
 |.Attribute a _ _=>[a]
 |.Subscript a b _=>[a,b]
 |.List es _=>es
 |.Tuple es _ _=>es
 |.Slice a b c _=>[a.getD dE,b.getD dE,c.getD dE]
 |.ListComp e gs _ _=>e::gs.flatMap λg=>g.target::g.iter::g.ifs
 |.Dict ks vs _=>mix ks vs
 |_=>[]
abbrev kid(x:Expr)(j:Nat):Expr:=(sub x).getD j dE
abbrev num:Expr->Nat
 |.Constant _ k _=>k
 |.Tuple _ k _=>k
 |_=>0
abbrev scp:Expr->ξ
 |.ListComp _ _ s _=>s
 |_=>default
abbrev kwp:Expr->Pos
 |.Call _ _ (k::_) _=>k.pos
 |_=>⟨0,0,0,0⟩
abbrev OC:gF.Bop->ϡ
 |.add=>.Add
 |.sub=>.Sub
 |.mul=>.Mult
 |.fdiv=>.FloorDiv
 |.mod=>.Mod
 |.pow=>.Pow
abbrev WX:gF.Cop->cG
 |.eq=>.Eq
 |.ne=>.NotEq
 |.lt=>.Lt
 |.le=>.LtE
 |.gt=>.Gt
 |.ge=>.GtE
 |.isin=>.In
 |.notin=>.NotIn
 |.is=>.Is
 |.isnot=>.IsNot
 |.eqE=>.Eq
 |.neE=>.NotEq
 |.ntT=>.IsNot
abbrev RM:gF.Val->Const
 |.non=>.none
 |.bl b=>.bool b
 |.int i=>.int i
 |.str s=>.str<|gO s
 |_=>.ellipsis
abbrev HK:gF.Val->Bool
 |.non=>fc
 |.bl _=>fc
 |.int _=>fc
 |.str _=>fc
 |_=>fe
abbrev ZL:gF.E->Bool
 |.and _ _=>fc
 |_=>fe
abbrev YD:gF.E->Bool
 |.or _ _=>fc
 |_=>fe
abbrev Zp:gF.Tt->Bool
 |.and _ _=>fc
 |_=>fe
abbrev ZF:gF.Tt->Bool
 |.or _ _=>fc
 |_=>fe
abbrev rest(b:Bool)(x:Expr):Expr:=match b,x with
 |true,.BoolOp op (_::xs) p=>.BoolOp op xs p
 |_,x=>kid x 1
abbrev flat(b:Bool)(x:Expr):List Expr:=match b with
 |true=>sub x
 |false=>[x]
abbrev YN:gF.Bi->Str
 |.len=>"len"
 |.int=>"int"
 |.str=>"str"
 |.bool=>"bool"
 |.abs=>"abs"
 |.min2=>"min"
 |.max2=>"max"
 |.minL=>"min"
 |.maxL=>"max"
 |.minP=>"min"
 |.maxP=>"max"
 |.minD=>"min"
 |.sum=>"sum"
 |.all=>"all"
 |.any=>"any"
 |.sorted=>"sorted"
 |.sortedI=>"sorted"
 |.sortedSet=>"sorted"
 |.lenSet=>"len"
 |.list=>"list"
 |.tuple=>"tuple"
 |.dict=>"dict"
 |.isi _=>"isinstance"
 |.isx _=>"isinstance"
 |.isc _=>"isinstance"
 |.repr=>"repr"
 |.listRev=>"list"
 |.listRange=>"list"
 |.tupRange=>"tuple"
 |.dictEnum=>"dict"
 |.listD=>"list"
abbrev RA:gF.Bi->Option Str
 |.sortedSet=>eZ "set"
 |.lenSet=>eZ "set"
 |.listRev=>eZ "reversed"
 |.listRange=>eZ "range"
 |.tupRange=>eZ "range"
 |.dictEnum=>eZ "enumerate"
 |_=>fb
abbrev Gk(Ts:List String)(x:Expr):Expr:=match Ts with
 |[T]=>.Name (gO T) x.pos
 |Ts=>.Tuple (Ts.zipIdx.map λp=>.Name (gO p.1) (kid x p.2).pos) (num x) x.pos
abbrev Qd(f:gF.Bi)(as:List Expr)(x:Expr):List Expr:=match RA f with
 |some y=>[.Call (.Name y (kid (kid x 1) 0).pos) as [] (kid x 1).pos]
 |none=>match f with
  |.isi Ts=>as++[Gk Ts<|kid x 2]
  |.isx Ts=>as++[Gk Ts<|kid x 2]
  |.isc T=>as++[Gk [T]<|kid x 2]
  |_=>as
abbrev Uq(f:gF.Bi)(x:Expr):List Expr:=match RA f with
 |some _=>(sub<|kid x 1).tail
 |none=>(sub x).tail
abbrev SW(f:gF.Bi)(x:Expr):List be:=match f with
 |.minD=>[⟨eZ "default",.Constant .none (num<|kid x 2) (kid x 2).pos,kwp x⟩]
 |_=>[]
abbrev Py:gF.Bm->Str
 |.append=>"append"
 |.extend=>"extend"
 |.pop=>"pop"
 |.popAt=>"pop"
 |.insert=>"insert"
 |.remove=>"remove"
 |.clear=>"clear"
 |.reverse=>"reverse"
 |.index=>"index"
 |.count=>"count"
 |.dget=>"get"
 |.dgetD=>"get"
 |.dpop=>"pop"
 |.dpopD=>"pop"
 |.setdefault=>"setdefault"
 |.join=>"join"
 |.split=>"split"
 |.replace=>"replace"
 |.upper=>"upper"
 |.partition=>"partition"
 |.sidx=>"index"
abbrev Wn:List Expr->List (Option Expr)
 |k::_::r=>eZ k::Wn r
 |_=>[]
abbrev D1:List Expr->List Expr
 |_::v::r=>v::D1 r
 |_=>[]
abbrev toP(p:gF.Pt)(c:Md)(x:Expr):Expr:=match p with
 |.one j=>.Name (c.nmOf j) x.pos
 |.many js=>.Tuple (js.zipIdx.map λp=>.Name (c.nmOf p.1) (kid x p.2).pos) (num x) x.pos
 |.nest j js=>.Tuple [.Name (c.nmOf j) (kid x 0).pos,.Tuple (js.zipIdx.map λp=>.Name (c.nmOf p.1) (kid (kid x 1) p.2).pos) (num<|kid x 1) (kid x 1).pos] (num x) x.pos
abbrev nmX:Expr->Str
 |.Name x _=>x
 |_=>Str.empty
abbrev YX:Expr->List Str
 |.Tuple es _ _=>es.map nmX
 |x=>[nmX x]
abbrev Md.blk(c:Md)(sc:ξ)(x:List Str)(õ:List Nat):Md :=
 {N:=x++õ.map (λj=>c.N.getD j Str.empty),sc:={sc with names:=sc.names.map λ(n,k)=>if(k == .free&&c.sc.kind == .function&&c.sc.names.lookup n==eZ .cell)then(n,.cell)else(n,k)},cs:=c.cs,fs:=c.fs,cm:=c.cm,cl:=c.cl,ms:=c.ms,fl:=c.fl,xs:=c.xs}
abbrev Bj:gF.E->Bool
 |.cst (.str _)=>fc
 |_=>fe
mutual
noncomputable def toX:gF.E->Md->Expr->Expr
 |.cst v,_,x=>.Constant (RM v) (num x) x.pos
 |.var j,c,x=>.Name (c.nmOf j) x.pos
 |.glob y _,_,x=>.Name (gO y) x.pos
 |.bin o a b,c,x=>.BinOp (toX a c<|kid x 0) (OC o) (toX b c<|kid x 1) x.pos
 |.neg a,c,x=>.UnaryOp .USub (toX a c<|kid x 0) x.pos
 |.not a,c,x=>.UnaryOp .Not (toX a c<|kid x 0) x.pos
 |.and a b,c,x=>.BoolOp .And (toX a c (kid x 0)::flat (ZL b) (toX b c<|rest (ZL b) x)) x.pos
 |.or a b,c,x=>.BoolOp .Or (toX a c (kid x 0)::flat (YD b) (toX b c<|rest (YD b) x)) x.pos
 |.cmp o a b,c,x=>.Compare (toX a c<|kid x 0) [WX o] [toX b c<|kid x 1] x.pos
 |.chain o1 o2 a b d,c,x=>.Compare (toX a c<|kid x 0) [WX o1,WX o2] [toX b c<|kid x 1,toX d c<|kid x 2] x.pos
 |.call f as,c,x=>.Call (.Name (gO f) (kid x 0).pos) (toA as c (sub x).tail) [] x.pos
 |.make C as,c,x=>.Call (.Name (gO C) (kid x 0).pos) (toA as c (sub x).tail) [] x.pos
 |.meth _ m o as,c,x=>.Call (.Attribute (toX o c<|kid (kid x 0) 0) (gO m) (kid x 0).pos) (toA as c (sub x).tail) [] x.pos
 |.fld o f,c,x=>.Attribute (toX o c<|kid x 0) (gO f) x.pos
 |.bi f as,c,x=>.Call (.Name (YN f) (kid x 0).pos) (Qd f (toA as c<|Uq f x) x) (SW f x) x.pos
 |.bm m o as,c,x=>.Call (.Attribute (toX o c<|kid (kid x 0) 0) (Py m) (kid x 0).pos) (toA as c (sub x).tail) [] x.pos
 |.idx a b,c,x=>.Subscript (toX a c<|kid x 0) (toX b c<|kid x 1) x.pos
 |.slc a lo hi,c,x=>.Subscript (toX a c<|kid x 0) (.Slice (toO lo c<|kid (kid x 1) 0) (toO hi c<|kid (kid x 1) 1) fb (kid x 1).pos) x.pos
 |.rev a,c,x=>.Subscript (toX a c<|kid x 0) (.Slice fb fb (eZ<|.UnaryOp .USub (.Constant (.int 1) (num<|kid (kid (kid x 1) 2) 0) (kid (kid (kid x 1) 2) 0).pos) (kid (kid x 1) 2).pos) (kid x 1).pos) x.pos
 |.tup es,c,x=>.Tuple (toA es c<|sub x) (num x) x.pos
 |.key es,c,x=>.Tuple (toA es c<|sub x) (num x) x.pos
 |.dctP,c,x=>.Dict [] [] x.pos
 |.lst es,c,x=>.List (toA es c<|sub x) x.pos
 |.dct es,c,x=>.Dict (Wn<|toA es c<|sub x) (D1<|toA es c<|sub x) x.pos
 |.ife t a b,c,x=>.IfExp (toT t c<|kid x 0) (toX a c<|kid x 1) (toX b c<|kid x 2) x.pos
 |.comp õ _ p it t e,c,x=>.ListComp (toX e (c.blk (scp x) (YX<|kid x 1) õ)<|kid x 0) [⟨toP p (c.blk (scp x) (YX<|kid x 1) õ)<|kid x 1,toI it c<|kid x 2,toF t (c.blk (scp x) (YX<|kid x 1) õ)<|kid x 3,0⟩] (scp x) x.pos
 |.fstr es,c,x=>.JoinedStr (toJ es c<|sub x) x.pos
 |.split o a,c,x=>.Call (.Attribute (toX o c<|kid (kid x 0) 0) "split" (kid x 0).pos) [toX a c<|kid x 1] [] x.pos
 |.repl o y z,c,x=>.Call (.Attribute (toX o c<|kid (kid x 0) 0) "replace" (kid x 0).pos) [.Constant (.str<|gO y) (num<|kid x 1) (kid x 1).pos,.Constant (.str<|gO z) (num<|kid x 2) (kid x 2).pos] [] x.pos
noncomputable def toA:gF.Es->Md->List Expr->List Expr
 |.nil,_,_=>[]
 |.cons e es,c,xs=>toX e c (xs.headD dE)::toA es c xs.tail
noncomputable def toJ:gF.Es->Md->List Expr->List Expr
 |.nil,_,_=>[]
 |.cons e es,c,xs=>(if Bj e then toX e c (xs.headD dE)else .FormattedValue (toX e c<|kid (xs.headD dE) 0) (-1) fb (xs.headD dE).pos)::toJ es c xs.tail
noncomputable def toO:gF.Oe->Md->Expr->Option Expr
 |.none,_,_=>fb
 |.some e,c,x=>eZ<|toX e c x
noncomputable def toT:gF.Tt->Md->Expr->Expr
 |.yes,_,x=>x
 |.val e,c,x=>toX e c x
 |.not t,c,x=>.UnaryOp .Not (toT t c<|kid x 0) x.pos
 |.and a b,c,x=>.BoolOp .And (toT a c (kid x 0)::flat (Zp b) (toT b c<|rest (Zp b) x)) x.pos
 |.or a b,c,x=>.BoolOp .Or (toT a c (kid x 0)::flat (ZF b) (toT b c<|rest (ZF b) x)) x.pos
noncomputable def toF:gF.Tt->Md->Expr->List Expr
 |.yes,_,_=>[]
 |.val e,c,x=>[toX e c x]
 |.not t,c,x=>[.UnaryOp .Not (toT t c<|kid x 0) x.pos]
 |.and a b,c,x=>[.BoolOp .And (toT a c (kid x 0)::flat (Zp b) (toT b c<|rest (Zp b) x)) x.pos]
 |.or a b,c,x=>[.BoolOp .Or (toT a c (kid x 0)::flat (ZF b) (toT b c<|rest (ZF b) x)) x.pos]
noncomputable def toI:gF.It->Md->Expr->Expr
 |.seq e,c,x=>toX e c x
 |.chars e,c,x=>toX e c x
 |.range a,c,x=>.Call (.Name "range" (kid x 0).pos) [toX a c<|kid x 1] [] x.pos
 |.range2 a b,c,x=>.Call (.Name "range" (kid x 0).pos) [toX a c<|kid x 1,toX b c<|kid x 2] [] x.pos
 |.enum e,c,x=>.Call (.Name "enumerate" (kid x 0).pos) [toX e c<|kid x 1] [] x.pos
 |.zip a b,c,x=>.Call (.Name "zip" (kid x 0).pos) [toX a c<|kid x 1,toX b c<|kid x 2] [] x.pos
 |.items e,c,x=>toX e c x
 |.rev e,c,x=>.Call (.Name "reversed" (kid x 0).pos) [toX e c<|kid x 1] [] x.pos
end
abbrev blts:List Str:=["isinstance","int","bool","str","list","tuple","dict","max","min","range","len","sorted","set","all","any","sum","enumerate","zip","reversed","abs","repr","ValueError"]
structure Kls(X:Cx)(i:Inf)(P:gF.Pg)(n:Nat)(c:Md):Prop where
 A:ClsA i
 F:∀f,c.fl.contains f=fc->FldOk i f
 mkc:∀C,c.cl.contains C=fc->∃a f,i.ins C=fc/\i.cl C a/\Mk i.K a f/\X.mg (gO C)=eZ (.ref a)/\Dfm X.prog X.w X.mg X.base i P n (C ++ ".__init__") f
 mth:∀C m,c.ms.contains (C,m)=fc->∃a f,(∀b,i.cl C b->b=a)/\Cls i.K a/\Meth i.K a (gO m) f/\Dfm X.prog X.w X.mg X.base i P n (C ++ "." ++ m) f
structure Xls(X:Cx)(i:Inf)(c:Md):Prop where
 xc:∀C a,i.xc C a->XCls i.K a/\PySem.W.kitOne i.K (.ref a) (.type "ValueError")=eZ fc
 rs:∀C,c.xs.contains C=fc->∃a,i.xc C a/\PyProof.Rows.OwnCls (gO C) a [.type "ValueError",.type "Exception",.type "BaseException",.type "object"] "ValueError.__new__" X.mg X.base
 kn:∀T,(c.xs.contains T||T == "ShutError")=fc->∃D,X.mg (gO T)=eZ (.ref D)/\∀C a,i.xc C a->PySem.W.kitOne i.K (.ref a) (.ref D)=eZ (gF.gm C T)/\(gF.gm C T=fc->PySem.W.exmOne i.K (.ref a) (.ref D)=eZ fc)
structure Gd(X:Cx)(i:Inf)(P:gF.Pg)(n:Nat)(c:Md):Prop where
 K:X.K=i.K
 N:X.N=c.N
 sc:X.env.scope=c.sc
 nd:c.N.Nodup
 un:X.A.units+200<Ķ
 calm:c.cm=fc->X.calm=fc
 room:c.cm=fc->fN (2*n+1) X.A
 bl:∀x∈blts,X.mg x=fb
 dfs:∀f,c.fs.contains f=fc->Dfo X.prog X.w X.mg X.base i P n f
 cst:∀x v,c.cs.lookup x=eZ v->∃u y,X.mg (gO x)=eZ u/\RelV y u/\∀H,RV i.K H v y
 kl:Kls X i P n c
 xl:c.xs≠[]->Xls X i c
variable {X:Cx}{i:Inf}{P:gF.Pg}{n:Nat}{c:Md}
variable {x:Str}
def Gd.gl(g:Gd X i P n c)(h:c.gl x=fc):Gl X x:=by show X.env.scope.names.lookup x=_;rw[g.sc];exact eq_of_beq h
def Gd.vis(g:Gd X i P n c)(h:c.vis x=fc):Vis X.env.scope x:=by
 unfold Vis;rw[g.sc];unfold Md.vis at h;split at h
 .exact .inl (by assumption)
 .exact .inr (.inl<|by assumption)
 .exact .inr (.inr<|by assumption)
 .cases h
def Gd.loc(g:Gd X i P n c)(h:c.loc x=fc):L2.Loc X.env.scope x:=by
 unfold L2.Loc;rw[g.sc];rcases (Bool.or_eq_true ..).mp h with h|h
 .exact .inl<|eq_of_beq h
 .exact .inr<|eq_of_beq h
def Gd.rm(g:Gd X i P n c)(h:c.cm=fc):fN (2*n) X.A:=(g.room h).mono (Ŏ _)
def XY(h:nm x=fc):(x==("__debug__" : Str))=fe/\(x==("__classdict__" : Str))=fe/\x≠"__name__":=by simp only[nm,bAq,Ō]at h;exact⟨h.1.1,h.1.2,⇑h.2⟩
def Zu(e:gF.E)(c:Md)(x:Expr)(es:List Expr)(env:Env):Ï (toX e c x::es) env=(fe,eval (toX e c x) env)::Ï es env:=by cases e<;>rfl
def CW(e:gF.E)(c:Md)(x:Expr):Nh<|toX e c x:=by intro o j;cases e<;>rfl
variable {op:cG}
def AY(e:gF.E)(c:Md)(x:Expr):Ņ op (toX e c x)=fe:=by cases e<;>rfl
def LZ(e:gF.E)(c:Md)(x:Expr)(env:Env):∀y,Ę (toX e c x) env y=pure y:=by intro y;cases e<;>rfl
abbrev Yh:Expr->Bool
 |.Call (.Name _ _) [] _ _=>fe
 |_=>fc
variable {e:Expr}
def Ye(h:Yh e=fc)(f:Str)(env:Env):ĩ e f env (eval e env)=eval e env:=by
 cases e with
 |Call g as ks p =>
  cases as with
  |cons _ _=>cases g<;>rfl
  |nil=>cases g with
   |Name x q=>cases h
   |_=>rfl
 |_=>rfl
abbrev Zb:gF.Es->Nat
 |.nil=>0
 |.cons _ es=>Zb es+1
def Xw:∀(es:gF.Es) (c:Md) (xs:List Expr),(toA es c xs).length=Zb es
 |.nil,_,_=>rfl
 |.cons _ es,c,xs=>by show(toA es c xs.tail).length+1=_;rw[Xw es];rfl
def ZN(env:Env)(ç:Pos):∀(es:gF.Es) (c:Md) (xs:List Expr),(Ď ç<|Ï (toA es c xs) env).any (·.1)=fe
 |.nil,_,_=>rfl
 |.cons e es,c,xs=>by show(Ď ç<|Ï (toX e c (xs.headD dE)::toA es c xs.tail) env).any (·.1)=fe;rw[Zu];show(fe||(Ď ç<|Ï (toA es c xs.tail) env).any (·.1))=fe;rw[ZN env ç es];rfl
def Js(env:Env)(ç:Pos):∀(es:gF.Es) (c:Md) (xs:List Expr),(Ď ç<|Ï (toA es c xs) env).all (λx=>!x.1)=fc
 |.nil,_,_=>rfl
 |.cons e es,c,xs=>by show(Ď ç<|Ï (toX e c (xs.headD dE)::toA es c xs.tail) env).all (λx=>!x.1)=fc;rw[Zu];show(fc&&(Ď ç<|Ï (toA es c xs.tail) env).all (λx=>!x.1))=fc;rw[Js env ç es];rfl
abbrev Zz:gF.Pt->Bool
 |.one _=>fc
 |_=>fe
def MN(p:gF.Pt)(x:Expr):((!Zz p)=fc->∃es k q,toP p c x=.Tuple es k q)/\((!Zz p)=fe->∃y q,toP p c x=.Name y q):=by
 cases p with
 |one j=>exact⟨λz=>(by cases z),λ_=>⟨_,_,rfl⟩⟩
 |many js=>exact⟨λ_=>⟨_,_,_,rfl⟩,λz=>(by cases z)⟩
 |nest j js=>exact⟨λ_=>⟨_,_,_,rfl⟩,λz=>(by cases z)⟩
abbrev CT(X:Cx)(c:Md)(j:Nat):Prop:=X.N[j]?=eZ (c.nmOf j)/\L2.Loc X.env.scope (c.nmOf j)/\(X.fn (c.nmOf j)=fc\/X.env.scope.names.lookup (c.nmOf j)=eZ .local)
abbrev HV(q:Nat->Prop):gF.Pt->Prop
 |.one j=>q j
 |.many js=>∀j∈js,q j
 |.nest j js=>q j/\∀k∈js,q k
def Nb{X:Cx}{c:Md}(nd:X.N.Nodup)(f:Nat->Pos):∀(js:List Nat) (k:Nat),(∀j∈js,CT X c j)->
  PGs X ((js.zipIdx k).map λp=>.Name (c.nmOf p.1)<|f p.2) (Cl i js)/\(Ğ ((js.zipIdx k).map λp=>.Name (c.nmOf p.1)<|f p.2) X.env).length=js.length/\(Ğ ((js.zipIdx k).map λp=>.Name (c.nmOf p.1)<|f p.2) X.env).findIdx? (·.1)=fb
 |[],_,_=>⟨Fv,rfl,rfl⟩
 |j::js,k,h=>by
  let⟨h1,h2,h3⟩:=h j (by simp);let⟨a1,a2,a3⟩:=Nb nd f js (k+1) λl hl=>h l (by simp[hl]);rw[List.zipIdx_cons,É];refine⟨CO nd h1 h2 h3 a1 rfl,?_,?_⟩
  .show(Ğ ((js.zipIdx<|k+1).map _) X.env).length+1=js.length+1;rw[a2]
  .show List.findIdx? (·.1) ((fe,π (.Name (c.nmOf j)<|f k) X.env)::Ğ _ X.env)=fb;rw[List.findIdx?_cons];simp[a3]
def HU(hK:X.K=i.K)(nd:X.N.Nodup)(hc:X.calm=fc){p:gF.Pt}{x:Expr}(h:HV (CT X c) p):PG X (toP p c x)<|gPt i p:=by
 cases p with
 |one j=>exact O5 nd h.1 h.2.1 h.2.2
 |many js =>let⟨a1,a2,a3⟩:=Nb nd (λk=>(kid x k).pos) js 0 h;exact Ar hK hc a1 a2 a3
 |nest j js =>let⟨h0,h⟩:=h;let⟨a1,a2,a3⟩:=Nb nd (λk=>(kid (kid x 1) k).pos) js 0 h;exact Hb hK hc (O5 nd h0.1 h0.2.1 h0.2.2)<|Ar hK hc a1 a2 a3
variable {Φ:gF.Fs} {a:gF.E} {b:gF.E} {l:Expr} {ç:Pos}
def Q3(g:Gd X i P n c){o:gF.Bop}{r:Expr}(ha:PE X l<|tE X i Φ a)(hb:PE X r<|tE X i Φ b):PE X (.BinOp l (OC o) r ç)<|tE X i Φ<|.bin o a b:=by
 cases o with
 |add=>exact K3 R1 (by rw[g.K];exact b_add) ha hb
 |sub=>exact K3 PQ b_sub ha hb
 |mul=>exact K3 Rc b_mul ha hb
 |fdiv=>exact K3 GA b_fdiv ha hb
 |mod=>exact K3 PK b_mod ha hb
 |pow=>exact K3 L9 b_pow ha hb
abbrev XZ:gF.Cop->Bool
 |.is=>fc
 |.isnot=>fc
 |.ntT=>fc
 |.neE=>fc
 |.eqE=>fc
 |_=>fe
variable {o:gF.Cop}
def Uo(g:Gd X i P n c)(h:XZ o=fe):∃r,OpR X (ì<|WX o) r/\Yr i o r:=by
 have u65:X.A.units+65<Ķ:=by have:=g.un;lia
 have u64:X.A.units+64<Ķ:=by have:=g.un;lia
 have u0:X.A.units<Ķ:=by have:=g.un;lia
 cases o with
 |eq=>exact⟨_,Ld u64,by rw[g.K];exact SK⟩
 |ne=>exact⟨_,Ll u64,by rw[g.K];exact So⟩
 |lt=>exact⟨_,S1 u0,by rw[g.K];exact c_lt⟩
 |le=>exact⟨_,Qp,c_le⟩
 |gt=>exact⟨_,S3 u0,by rw[g.K];exact c_gt⟩
 |ge=>exact⟨_,Qh,c_ge⟩
 |isin=>exact⟨_,SQ u65,by rw[g.K];exact Sm⟩
 |notin=>exact⟨_,SG u65,by rw[g.K];exact SI⟩
 |_=>cases h
def Ib{v:gF.Val}{j:Nat}(h:HK v=fc):PE X (.Constant (RM v) j ç)<|tE X i Φ<|.cst v:=by
 cases v with
 |non=>exact W7 DG λ_=>.non
 |bl b=>exact W7 RY λ_=>.bl _
 |int k=>exact W7 ON λ_=>.int _
 |str s=>exact W7 pe_str λ_=>.str _
 |_=>cases h
abbrev Oc:gF.E->Bool
 |.cst .non=>fc
 |_=>fe
def Fm{e:gF.E}(h:Oc e=fc):e=.cst .non:=by
 cases e with
 |cst v=>cases v with
  |non=>rfl
  |_=>cases h
 |_=>cases h
variable {y:Expr}
def JL(hn:∀G v d,gF.fB G o v .non≠eZ d)(ha:PE X l<|tE X i Φ a)(hb:PE X y<|tE X i Φ<|.cst .non)(hm:Ņ op y=fe) :
  PE X (.Compare l [op] [y] ç) (tE X i Φ<|.cmp o a<|.cst .non)/\PT X (.Compare l [op] [y] ç) (tTt X i Φ<|.val<|.cmp o a<|.cst .non):=by
 have ho:OpR X (ì op) λ_ _ _ _=>False:=λ_ _ _ _ _ _ _ _ _ _ _ _ h=>h.elim;refine⟨(U7 ho ha hb hm).imp λσ H Q ⟨env,G,Qm,Em,p,w,c⟩=>?_,(Ak ho ha hb hm).imp λσ H Q ⟨env,G,Qm,Em,p,w,c⟩=>?_⟩
 .refine one p w λv G1 H1 x k1 p1 r q=>?_;let⟨d,e,_⟩:=fj q;exact gM e<|hn G1 v d
 .refine one p w λv G1 H1 x k1 p1 r q=>?_;let⟨d,e,_⟩:=fj q;exact gM e<|hn G1 v d
def NU(g:Gd X i P n c){x:Expr}(h:(!XZ o||Oc b)=fc)(ha:PE X l<|tE X i Φ a)(hb:PE X (toX b c x)<|tE X i Φ b) :
  PE X (.Compare l [WX o] [toX b c x] ç) (tE X i Φ<|.cmp o a b)/\PT X (.Compare l [WX o] [toX b c x] ç) (tTt X i Φ<|.val<|.cmp o a b):=by
 cases z:XZ o with
 |false =>let⟨r,h1,h2⟩:=Uo g z;exact⟨Sa h1 h2 ha hb<|AY _ _ _,Ir h1 h2 ha hb<|AY _ _ _⟩
 |true =>
  rw[z]at h;cases Fm h;cases o with
  |is=>exact⟨Q6 ha,IF ha⟩
  |isnot=>exact⟨IA ha,GT ha⟩
  |ntT=>exact JL (λG v d e=>by cases v<;>simp[gF.fB,gF.asLst]at e) ha hb<|AY _ _ _
  |neE=>exact JL (λG v d e=>by cases v<;>simp[gF.fB,gF.asLst]at e) ha hb<|AY _ _ _
  |eqE=>exact JL (λG v d e=>by cases v<;>simp[gF.fB,gF.asLst]at e) ha hb<|AY _ _ _
  |_=>cases z
def Jt(g:Gd X i P n c){o1 o2:gF.Cop}{d:gF.E}{x:Expr}(h1:XZ o1=fe)(h2:XZ o2=fe)(ha:PE X l<|tE X i Φ a)(hb:PE X y<|tE X i Φ b)(hd:PE X (toX d c x)<|tE X i Φ d) :
  PE X (.Compare l [WX o1,WX o2] [y,toX d c x] ç) (tE X i Φ<|.chain o1 o2 a b d)/\PT X (.Compare l [WX o1,WX o2] [y,toX d c x] ç) (tTt X i Φ<|.val<|.chain o1 o2 a b d):=by
 let⟨r1,a1,a2⟩:=Uo g h1;let⟨r2,b1,b2⟩:=Uo g h2;have hm:bH [WX o1,WX o2] [y,toX d c x]=fe:=AY _ _ _;exact⟨Ho a1 a2 b1 b2 ha hb hd hm,B6 a1 a2 b1 b2 ha hb hd hm⟩
def Iy{m:gF.E}(h:PE X e<|tE X i Φ m)(he:∀aP,cF e X.env aP=(do let v<-aP;ψ e.pos;Ŋ [v] (truthy v)))(hK:X.K=i.K):PT X e<|tTt X i Φ<|.val m:=by
 refine(EK h he).imp λσ H Q ⟨env,G,Qm,Em,p,w,c⟩=>?_;refine one p w λv G1 H1 x k1 p1 r q=>?_;let⟨d,e1,q2⟩:=fj q;clear q;refine⟨d,?_,c d G1 H1 k1 p1.hp q2⟩;cases v with
 |non=>cases r;cases e1;rfl
 |bl b=>cases r;cases e1;rfl
 |int b =>
  cases r;cases e1;show gN (b≠0)=(b != 0)
  by_cases e:b=0<;>simp[e]
 |key _ _=>cases e1
 |str b =>
  cases r;let⟨hl,e1⟩:=Zq e1;cases e1;refine⟨by rw[ZB];exact Ý hl ZM,?_⟩;rw[ZB];by_cases e:b.length=0
  .rw[e];rfl
  .rw[gK e];symm;simpa using (by lia:¬ ((b.length:Int)=0))
 |tup xs =>
  cases e1;cases r with
  |tup hp hr =>refine .inr (.inl ⟨_,by rw[hK];exact Zk hp,?_⟩);cases hr<;>rfl
 |scr ns =>
  cases e1;cases r with
  |scr h =>refine .inl ⟨_,by rw[hK];exact Yp h,?_⟩;cases ns<;>rfl
 |ref a =>
  cases r.ref_inv
  replace e1:(match G1 a with|some (.lst xs)=>eZ (!xs.isEmpty)|some (.dct kvs)=>eZ (!kvs.isEmpty)|_=>fb)=eZ d:=e1
  cases z:G1 a with
  |none=>rw[z]at e1;cases e1
  |some o =>
   rw[z]at e1;cases o with
   |lst xs =>cases e1;let⟨vs,h1,h2⟩:=p1.hp a _ z;refine .inl ⟨vs,gp.of h1,?_⟩;cases h2<;>rfl
   |dct kvs =>cases e1;let⟨ps,h1,h2⟩:=p1.hp a _ z;refine .inr<|.inr ⟨ps,h1,?_⟩;cases h2<;>rfl
   |_=>cases e1
variable {X:Cx}{i:Inf}{P:gF.Pg}{n:Nat}{c:Md}{Φ:gF.Fs}
variable {C:String}
def Ud{o:Option gF.Ob}(h:gF.excOf o=eZ C):o=eZ (.exc C):=by
 cases o with
 |none=>cases h
 |some o=>cases o with
  |exc D=>cases h;rfl
  |_=>cases h
def Bw{G:gF.Hs}{v:gF.Val}(h:gF.excV G v=eZ C):∃a,v=.ref a/\G a=eZ (.exc C):=by
 cases v with
 |ref a=>exact⟨a,rfl,Ud h⟩
 |_=>cases h
variable {m:gF.E} {Ts:List String}
def Ox{σ:St}{H:Hp}{Q:VK}{W:VK}(h:tE X i Φ (.bi (.isx Ts)<|.cons m .nil) σ H Q)
  (f:∀C a ad G1 H1,i.xc C ad->H1 a=eZ (xcO a<|.ref ad)->RH i G1 H1->(∀H2,fH H1 H2->RH i G1 H2->Q (.bl<|Ts.any<|gF.gm C) H2)->W (.ref a) H1):tE X i Φ m σ H W:=by
 let⟨env,G,Qm,Em,p,w,c⟩:=h;refine one p w λv G1 H1 x k1 p1 r q=>?_
 replace q:(gF.Rs.ofO<|(gF.excV G1 v).map λc=>.bl<|Ts.any<|gF.gm c).wp G1 Qm:=q
 cases z:gF.excV G1 v with
 |none=>rw[z]at q;simp[gF.Rs.ofO]at q
 |some C =>rw[z]at q;simp only[ķ,gF.Rs.ofO,gF.Rs.wp_val]at q;let⟨a,rfl,e⟩:=Bw z;cases r.ref_inv;let⟨ad,hx,ha⟩:=p1.hp a _ e;exact f C a ad G1 H1 hx ha p1.hp λH2 k2 g2=>c _ G1 H2 _ (k1.trans k2) g2 (.bl _) q
variable {e:Expr} {p:Pos} {p2:Pos} {ç:Pos}
def LN{T:String}{D:Ë}(Z:Xls X i c)(hk:X.K=i.K)(he:PE X e<|tE X i Φ m)(hg:Gl X "isinstance")(hm:X.mg "isinstance" = fb)(hg2:Gl X<|gO T)(hm2:X.mg (gO T)=eZ (.ref D))
  (hD:∀C a,i.xc C a->PySem.W.kitOne i.K (.ref a) (.ref D)=eZ (gF.gm C T)) (bC:(gO T==("__debug__" : Str))=fe) (ō:Ï [e,.Name (gO T) p2] X.env=(fe,eval e X.env)::Ï [.Name (gO T) p2] X.env) :
  PE X (.Call (.Name "isinstance" p) [e,.Name (gO T) p2] [] ç) (tE X i Φ<|.bi (.isx [T])<|.cons m .nil):=by
 refine(Z2 AL hg hm (by kernel_rfl) (ZA he (ZA (MD (v:=.ref D) hg2 hm2 rfl bC) gk) ō) (he:=ō)).imp λσ H Q h=>?_;change tE X i Φ m σ H _;refine Ox h λC a ad G1 H1 hx ha g q=>?_;refine⟨a,ad,D,gF.gm C T,rfl,ha,by rw[hk];exact(Z.xc C ad hx).1,by rw[hk];exact hD C ad hx,?_⟩;have:=q H1 (fH.refl _) g;simpa using this
def LB(Z:Xls X i c)(hk:X.K=i.K)(he:PE X e<|tE X i Φ m)(hg:Gl X "isinstance")(hm:X.mg "isinstance" = fb)(hg2:Gl X "ValueError")(hm2:X.mg "ValueError" = fb)
  (ō:Ï [e,.Name "ValueError" p2] X.env=(fe,eval e X.env)::Ï [.Name "ValueError" p2] X.env) :
  PE X (.Call (.Name "isinstance" p) [e,.Name "ValueError" p2] [] ç) (tE X i Φ<|.bi (.isx ["ValueError"])<|.cons m .nil):=by
 refine(Z2 OF hg hm (by kernel_rfl) (ZA he (ZA (UF (v:=.ty "ValueError") hg2 hm2 (by kernel_rfl) rfl) gk) ō) (he:=ō)).imp λσ H Q h=>?_;change tE X i Φ m σ H _;refine Ox h λC a ad G1 H1 hx ha g q=>?_;refine⟨a,ad,"ValueError",fc,rfl,ha,by rw[hk];exact(Z.xc C ad hx).1,by rw[hk];exact(Z.xc C ad hx).2,?_⟩;have:=q H1 (fH.refl _) g;have e:gF.gm C "ValueError" = fc:=by simp[gF.gm]
 simpa[e]using this
def Eo(hT:∀T∈Ts,Gl X (gO T)/\(gO T==("__debug__" : Str))=fe/\∃D,X.mg (gO T)=eZ (.ref D)/\∀C a,i.xc C a->PySem.W.kitOne i.K (.ref a) (.ref D)=eZ (gF.gm C T))(f:Nat->Pos):∀k,∃Ds:List Ë,
  PA X ((Ts.zipIdx k).map λp=>.Name (gO p.1)<|f p.2) (λ_ H Q=>Q (Ds.map V.ref) H)/\Ds.length=Ts.length/\∀C a,i.xc C a->PySem.W.kitAny i.K (.ref a) (Ds.map Value.ref)=eZ (Ts.any<|gF.gm C):=by
 induction Ts with
 |nil=>exact λ_=>⟨[],gk,rfl,λ_ _ _=>rfl⟩
 |cons T Ts ih =>
  intro k;let⟨Ds,h1,h2,h3⟩:=ih (λT h=>hT T<|.tail _ h)<|k+1;let⟨q1,q2,D,q3,q4⟩:=hT T<|.head _;refine⟨D::Ds,?_,by rw[Ì,Ì,h2],λC a hx=>?_⟩
  .rw[List.zipIdx_cons,É];exact ZA (MD (v:=.ref D) q1 q3 rfl q2) h1
  .rw[É,PySem.W.kitAny,q4 C a hx,Ģ];cases gF.gm C T with
   |true=>rfl
   |false=>exact h3 C a hx
def PU{kk:Nat}{f:Nat->Pos}(Z:Xls X i c)(hk:X.K=i.K)(he:PE X e<|tE X i Φ m)(hg:Gl X "isinstance")(hm:X.mg "isinstance" = fb)(hl:Ts.length<=20)
  (hT:∀T∈Ts,Gl X (gO T)/\(gO T==("__debug__" : Str))=fe/\∃D,X.mg (gO T)=eZ (.ref D)/\∀C a,i.xc C a->PySem.W.kitOne i.K (.ref a) (.ref D)=eZ (gF.gm C T))
  (ō:∀ts,Ï [e,.Tuple ts kk p2] X.env=(fe,eval e X.env)::Ï [.Tuple ts kk p2] X.env) :
  PE X (.Call (.Name "isinstance" p) [e,.Tuple (Ts.zipIdx.map λp=>.Name (gO p.1)<|f p.2) kk p2] [] ç) (tE X i Φ<|.bi (.isx Ts)<|.cons m .nil):=by
 let⟨Ds,h1,h2,h3⟩:=Eo hT f 0;refine(Z2 OE hg hm (by kernel_rfl) (ZA he (ZA (Eg h1) gk)<|ō _) (he:=ō _)).imp λσ H Q h=>?_;change tE X i Φ m σ H _;refine Ox h λC a ad G1 H1 hx ha g q=>?_;refine⟨by rw[Ã,h2];unfold Ö;lia,λt ht=>?_⟩;have ŭ:a≠t:=λz=>by rw[z,ht]at ha;cases ha
 refine⟨a,ad,t,Ds,Ts.any<|gF.gm C,rfl,by rw[ff ŭ];exact ha,by rw[hk];exact(Z.xc C ad hx).1,fh,by rw[hk];exact h3 C ad hx,?_⟩;exact q _ (fH.new ht)<|X7 g ht
abbrev Md.gn(c:Md)(y:String):Bool:=c.gl (gO y)&&nm (gO y)
abbrev Wa:gF.Bi->Bool
 |.len=>fc
 |.str=>fc
 |.max2=>fc
 |.all=>fc
 |.list=>fc
 |.tuple=>fc
 |.sortedI=>fc
 |_=>fe
abbrev Gv:gF.Bi->Option String
 |.isi [T]=>eZ T
 |_=>fb
abbrev D9:gF.Bi->Option (List String)
 |.isx Ts=>eZ Ts
 |_=>fb
abbrev We:gF.Bi->Bool
 |_=>fe
abbrev Je:gF.Bi->Bool
 |.sortedSet=>fc
 |_=>fe
abbrev ER:gF.Bi->Str
 |.listRev=>"reversed"
 |.sortedSet=>"set"
 |_=>"range"
abbrev U2:gF.Bi->Bool
 |_=>fe
abbrev UN:gF.Bi->Bool
 |_=>fe
abbrev N0:gF.Bi->String
 |.isc T=>T
 |_=>""
abbrev Mp:gF.Bi->Bool
 |.minD=>fc
 |_=>fe
abbrev Ea:gF.Bi->Option (List String)
 |_=>fb
abbrev Md.xn(c:Md)(T:String):Bool:=(c.xs.contains T||T == "ShutError")&&c.gn T
abbrev WK:gF.Bi->Bool
 |.len=>fc
 |.str=>fc
 |.list=>fc
 |.tuple=>fc
 |_=>fe
abbrev GW(c:Md)(Ts:List String):Bool:=match Ts with
 |[T]=>c.xn T||(T == "ValueError" && c.gl (gO T))
 |Ts=>Ts.all c.xn&&gN (Ts.length<=20)
abbrev C4:gF.Bm->Option Nat
 |.append=>eZ 1
 |.popAt=>eZ 1
 |.dget=>eZ 1
 |.dpop=>eZ 1
 |.dpopD=>eZ 2
 |_=>fb
abbrev U8:gF.Tt->Bool
 |.yes=>fc
 |_=>fe
abbrev OX:gF.E->Bool
 |.var _=>fc
 |.call _ _=>fc
 |.meth _ _ _ _=>fc
 |.bi _ _=>fc
 |.bm _ _ _=>fc
 |.idx _ _=>fc
 |.fld _ _=>fc
 |.glob _ _=>fc
 |_=>fe
abbrev Rp:gF.E->Bool
 |.cmp _ _ _=>fc
 |.chain _ _ _ _ _=>fc
 |_=>fe
mutual
noncomputable def okE:gF.E->Md->Expr->Bool
 |.cst v,_,_=>HK v
 |.var j,c,_=>gN (j<c.N.length)&&c.vis (c.nmOf j)&&nm (c.nmOf j)
 |.glob y v,c,_=>c.gn y&&gN (c.cs.lookup y=eZ v)
 |.bin _ a b,c,x=>okE a c (kid x 0)&&okE b c (kid x 1)
 |.neg a,c,x=>okE a c<|kid x 0
 |.not a,c,x=>okE a c<|kid x 0
 |.and a b,c,x=>okE a c (kid x 0)&&okE b c (rest (ZL b) x)&&(!ZL b||(rest (ZL b) x).pos==x.pos)
 |.or a b,c,x=>okE a c (kid x 0)&&okE b c (rest (YD b) x)&&(!YD b||(rest (YD b) x).pos==x.pos)
 |.cmp o a b,c,x=>okE a c (kid x 0)&&okE b c (kid x 1)&&(!XZ o||Oc b)
 |.chain o1 o2 a b d,c,x=>okE a c (kid x 0)&&okE b c (kid x 1)&&okE d c (kid x 2) && !XZ o1 && !XZ o2
 |.call f as,c,x=>c.gn f&&c.fs.contains f&&c.cm&&okA as c (sub x).tail
 |.make C as,c,x=>c.gn C&&c.cl.contains C&&c.cm&&gN (Zb as≠0)&&okA as c (sub x).tail
 |.meth C m o as,c,x=>c.ms.contains (C,m)&&c.cm&&okE o c (kid (kid x 0) 0)&&Yh (toX o c<|kid (kid x 0) 0)&&((kid x 0).pos.endLine==x.pos.line)&&gN (Zb as<20)&&okA as c (sub x).tail
 |.fld o f,c,x=>c.fl.contains f&&okE o c (kid x 0)&&Yh (toX o c<|kid x 0)
 | .bi f as,c,x=>(match Gv f with
   |some T=>gN (Zb as=1)&&kinds.contains T&&c.gl "isinstance" && c.gl (gO T)
   |none=>match D9 f with
     |some Ts=>gN (Zb as=1)&&c.gl "isinstance" && !c.xs.isEmpty&&GW c Ts
     |none=>match Ea f with
       |some Ts=>gN (Zb as=1)&&c.gl "isinstance" && Ts.all (λT=>kinds.contains T&&c.gl (gO T))&&gN (Ts.length<=20)
       | none=>if We f then gN (Zb as=1)&&c.gl "len" && c.gl "set" && c.cm else if Je f then gN (Zb as=1)&&c.gl (YN f)&&c.gl (ER f)&&c.cm else if Mp f then gN (Zb as=1)&&c.gl "min" && c.cm else if U2 f then gN (Zb as=1)&&c.gl "dict" && c.gl "enumerate" && c.cm else if UN f then gN (Zb as=1)&&c.gl "isinstance" && c.gn (N0 f)&&c.cl.contains (N0 f)else Wa f&&c.gl (YN f)&&gN (Zb as≠0)&&(c.cm||WK f))&&okA as c (Uq f x)
 |.bm m o as,c,x=>gN (C4 m=eZ (Zb as))&&okE o c (kid (kid x 0) 0)&&Yh (toX o c<|kid (kid x 0) 0)&&((kid x 0).pos.endLine==x.pos.line)&&okA as c (sub x).tail
 |.idx a b,c,x=>okE a c (kid x 0)&&okE b c (kid x 1)
 |.slc a lo hi,c,x=>okE a c (kid x 0)&&okO lo c (kid (kid x 1) 0)&&okO hi c (kid (kid x 1) 1)
 |.tup es,c,x=>okA es c (sub x)&&gN (Zb es<=1000)
 |.lst es,c,x=>okA es c (sub x)&&gN (Zb es<=1000)
 |.dct es,c,x=>okA es c (sub x)&&Jo es&&gN (esL es<=30)
 |.ife t a b,c,x=>okT t c (kid x 0)&&okE a c (kid x 1)&&okE b c (kid x 2)
 |.comp õ m p it t e,c,x=>(OA m p&&(YX<|kid x 1).length==m)&&c.cm&&Yw (scp x) c.sc c.N (YX<|kid x 1) õ&&(scp x).kind == .function&&okI it c (kid x 2) (!Zz p)&&okE e (c.blk (scp x) (YX<|kid x 1) õ) (kid x 0)&&(U8 t||okT t (c.blk (scp x) (YX<|kid x 1) õ) (kid x 3))
 |_,_,_=>fe
noncomputable def okA:gF.Es->Md->List Expr->Bool
 |.nil,_,_=>fc
 |.cons e es,c,xs=>okE e c (xs.headD dE)&&okA es c xs.tail
noncomputable def okJ:gF.Es->Md->List Expr->Bool
 |.nil,_,_=>fc
 |.cons e es,c,xs=>(Bj e||okE e c (kid (xs.headD dE) 0))&&okJ es c xs.tail
noncomputable def okO:gF.Oe->Md->Expr->Bool
 |.none,_,_=>fc
 |.some e,c,x=>okE e c x
noncomputable def okT:gF.Tt->Md->Expr->Bool
 |.yes,_,_=>fe
 |.val e,c,x=>okE e c x&&(OX e||Rp e)
 |.not t,c,x=>okT t c<|kid x 0
 |.and a b,c,x=>okT a c (kid x 0)&&okT b c (rest (Zp b) x)&&(!Zp b||(rest (Zp b) x).pos==x.pos)
 |.or a b,c,x=>okT a c (kid x 0)&&okT b c (rest (ZF b) x)&&(!ZF b||(rest (ZF b) x).pos==x.pos)
noncomputable def okI:gF.It->Md->Expr->Bool->Bool
 |.seq e,c,x,_=>okE e c x
 |.range a,c,x,_=>c.gl "range" && okE a c (kid x 1)
 |.enum e,c,x,t=>t&&c.gl "enumerate" && okE e c (kid x 1)
 |_,_,_,_=>fe
end
variable {X:Cx}{i:Inf}{P:gF.Pg}{n:Nat}{c:Md}
variable {f:gF.Bi} {e:Expr} {es:List Expr} {q:Pos} {p:Pos} {l:Nat}
def FW(g:Gd X i P n c)(hp:Wa f=fc)(df:(c.cm||WK f)=fc){as:gF.Es}(hg:Gl X<|YN f)(ha:PA X (e::es)<|tAr X i (gF.wF P n) as l)
  (he:Ï (e::es) X.env=(fe,eval e X.env)::Ï es X.env) (hpl:(Ď p<|Ï es X.env).any (·.1)=fe):PE X (.Call (.Name (YN f) q) (e::es) [] p)<|tE X i (gF.wF P n)<|.bi f as:=by
 have hc:WK f=fe->X.calm=fc:=λz=>g.calm (by rw[z,θ]at df;exact df);cases f with
 |len=>exact(Z2 ((call_len_seq.or M8).or Bh) hg (g.bl _<|by simp[blts,YN]) (by kernel_rfl) ha (he:=he) (hpl:=hpl)).imp (JQ<|by rw[g.K];exact Qa)
 |str=>exact(Wz (call_str_int.or MT) hg (g.bl _<|by simp[blts,YN]) (by kernel_rfl) ha (he:=he) (hpl:=hpl)).imp<|JQ Pm
 |max2=>exact(Z2 (Bq<|hc rfl) hg (g.bl _<|by simp[blts,YN]) (by kernel_rfl) ha (he:=he) (hpl:=hpl)).imp<|JQ GC
 |all=>exact(Z2 (Dj<|hc rfl) hg (g.bl _<|by simp[blts,YN]) (by kernel_rfl) ha (he:=he) (hpl:=hpl)).imp (JQ<|by rw[g.K];exact IE)
 |list=>exact(Wz Mu hg (g.bl _<|by simp[blts,YN]) (by kernel_rfl) ha (he:=he) (hpl:=hpl)).imp (JQ<|by rw[g.K];exact F3)
 |sortedI=>exact(Z2 (call_sorted.or<|MB<|hc rfl) hg (g.bl _<|by simp[blts,YN]) (by kernel_rfl) ha (he:=he) (hpl:=hpl)).imp (JQ<|by rw[g.K];exact Uj)
 |tuple=>exact(Wz Ko hg (g.bl _<|by simp[blts,YN]) (by kernel_rfl) ha (he:=he) (hpl:=hpl)).imp (JQ<|by rw[g.K];exact B2)
 |_=>cases hp
variable {T:String}
def Qc(h:Gv f=eZ T):f=.isi [T]:=by
 cases f with
 |isi Ts =>
  cases Ts with
  |nil=>cases h
  |cons a r=>cases r with
   |nil=>cases h;rfl
   |cons _ _=>cases h
 |_=>cases h
variable {m:gF.E} {ç:Pos}
def Ch(g:Gd X i P n c){p2:Pos}(hT:T∈kinds)(h2:c.gl "isinstance" = fc)(h5:c.gl (gO T)=fc)(he:PE X e<|tE X i (gF.wF P n) m)(ō:Ï [e,.Name (gO T) p2] X.env=(fe,eval e X.env)::Ï [.Name (gO T) p2] X.env) :
  PE X (.Call (.Name "isinstance" p) [e,.Name (gO T) p2] [] ç) (tE X i (gF.wF P n)<|.bi (.isi [T])<|.cons m .nil):=by
 have ej:=hT;simp only[kinds,Ç,Ó,or_false]at ej;refine Ra hT he g.K (g.gl h2) (g.bl _<|by simp[blts]) (g.gl h5) ?_ ?_ ?_ ?_ ō
 .rcases ej with rfl|rfl|rfl|rfl|rfl|rfl<;>exact g.bl _ (by simp[blts])
 .rcases ej with rfl|rfl|rfl|rfl|rfl|rfl<;>kernel_rfl
 .rcases ej with rfl|rfl|rfl|rfl|rfl|rfl<;>decide
 .rcases ej with rfl|rfl|rfl|rfl|rfl|rfl<;>decide
variable {Ts:List String}
def PP(h:D9 f=eZ Ts):f=.isx Ts:=by
 cases f with
 |isx Us=>cases h;rfl
 |_=>cases h
def Gd.xnm(g:Gd X i P n c)(hx:c.xs≠[])(h:c.xn T=fc):Gl X (gO T)/\(gO T==("__debug__" : Str))=fe/\∃D,X.mg (gO T)=eZ (.ref D)/\∀C a,i.xc C a->PySem.W.kitOne i.K (.ref a) (.ref D)=eZ (gF.gm C T):=by unfold Md.xn Md.gn at h;rw[bAq,bAq]at h;let⟨D,h1,h2⟩:=(g.xl hx).kn T h.1;exact⟨g.gl h.2.1,(XY h.2.2).1,D,h1,λC a z=>(h2 C a z).1⟩
def B1(g:Gd X i P n c){y:Expr}(h1:c.gl "isinstance" = fc)(hx:c.xs≠[])(h2:GW c Ts=fc)(he:PE X e<|tE X i (gF.wF P n) m)(ō:∀{es},Ï (e::es) X.env=(fe,eval e X.env)::Ï es X.env) :
  PE X (.Call (.Name "isinstance" p) [e,Gk Ts y] [] ç) (tE X i (gF.wF P n)<|.bi (.isx Ts)<|.cons m .nil):=by
 have many:(Ts.all c.xn&&gN (Ts.length<=20))=fc->PE X (.Call (.Name "isinstance" p) [e,.Tuple (Ts.zipIdx.map λp=>.Name (gO p.1) (kid y p.2).pos) (num y) y.pos] [] ç) (tE X i (gF.wF P n)<|.bi (.isx Ts)<|.cons m .nil):=λh=>by rw[bAq,gL,ý]at h;exact PU (f:=λk=>(kid y k).pos) (g.xl hx) g.K he (g.gl h1) (g.bl _<|by simp[blts]) h.2 (λT hT=>g.xnm hx<|h.1 T hT) λts=>ō
 match Ts,h2,many with
 |[],h2,many=>exact many h2
 |[T],h2,many =>
  have h2:(c.xn T||(T == "ValueError" && c.gl (gO T)))=fc:=h2;by_cases hT:c.xn T=fc
  .obtain⟨q1,q2,D,q3,q4⟩:=g.xnm hx hT;exact LN (g.xl hx) g.K he (g.gl h1) (g.bl _<|by simp[blts]) q1 q3 q4 q2 ō
  .rw[az.mpr hT,Ϸ,bAq]at h2;cases eq_of_beq h2.1;exact LB (g.xl hx) g.K he (g.gl h1) (g.bl _<|by simp[blts]) (g.gl h2.2) (g.bl _<|by simp[blts]) ō
 |T::U::Us,h2,many=>exact many h2
variable {o:Expr} {mo:gF.E} {Ł:Pos} {Ő:Pos}
def Ek(g:Gd X i P n c){m:gF.Bm}(h:C4 m=eZ 0)(ho:PE X o<|tE X i (gF.wF P n) mo)(hb:∀f,ĩ o f X.env (eval o X.env)=eval o X.env)(hl:(Ł.endLine==Ő.line)=fc) :
  PE X (.Call (.Attribute o (Py m) Ł) [] [] Ő) (tE X i (gF.wF P n)<|.bm m mo .nil):=by
 cases m with
 |_=>cases h
def GP(g:Gd X i P n c){m:gF.Bm}{k:Nat}(h:C4 m=eZ (k+1)){ms:gF.Es}(ho:PE X o<|tE X i (gF.wF P n) mo)(ha:PA X (e::es)<|tAr X i (gF.wF P n) ms l)(hb:∀f,ĩ o f X.env (eval o X.env)=eval o X.env)(hl:(Ł.endLine==Ő.line)=fc)
  (aS:((Ď Ő<|Ï (e::es) X.env).all (λx=>!x.1)&&(Ŭ Ő<|ĺ [] X.env).all (λx=>x.1.isSome)&&gN ((e::es).length+([]:List be).length+(if([]:List be).isEmpty then 0 else 1)<30))=fc)
  (hs:Ï (e::es) X.env=(fe,eval e X.env)::Ï es X.env) (hpl:(Ď Ő<|Ï es X.env).any (·.1)=fe) :
  PE X (.Call (.Attribute o (Py m) Ł) (e::es) [] Ő) (tE X i (gF.wF P n)<|.bm m mo ms):=by
 have u1:X.A.units+1<Ķ:=by have:=g.un;lia
 cases m with
 |append=>exact CB g.K PySem.F.plainAttrs_list PySem.F.slot_list_append PySem.F.type_list_append Bc (Rg rfl) LV ho ha (hb _) aS hl hs hpl
 |popAt=>exact CB g.K PySem.F.plainAttrs_list PySem.F.slot_list_pop PySem.F.type_list_pop E1 (Rg rfl) Fy ho ha (hb _) aS hl hs hpl
 |dget=>exact CB g.K PySem.F.plainAttrs_dict PySem.F.slot_dict_get PySem.F.type_dict_get (BR u1) (P4 rfl) PL ho ha (hb _) aS hl hs hpl
 |dpop=>exact CB g.K PySem.F.plainAttrs_dict PySem.F.slot_dict_pop PySem.F.type_dict_pop mt_dpop (P4 rfl) P1 ho ha (hb _) aS hl hs hpl
 |dpopD=>exact CB g.K PySem.F.plainAttrs_dict PySem.F.slot_dict_pop PySem.F.type_dict_pop (mt_dpop.or DM) (P4 rfl) Gb ho ha (hb _) aS hl hs hpl
 |_=>cases h
variable {sc:ξ} {õ:List Nat}
def Gd.blk(g:Gd X i P n c){x:List Str}(hb:Yw sc c.sc c.N x õ=fc)(hk:sc.kind=.function)(cl:List<|Str×Ë)(C:Ë)(s:Ä)(H:Hp)(ex:List Ë) :
  Gd (Zt X sc (Z7 X x õ) cl C s H ex) i P n (c.blk sc x õ) where
 K:=g.K
 N:=by show Z7 X x õ=_;unfold Z7;rw[g.N];rfl
 sc:=by show cp sc X.env=_;unfold cp Env.kindOf;rw[g.sc];rfl
 nd:=by have B:=Uc g.sc g.N hk hb;have:=B.nd;unfold Z7 at this;rw[g.N]at this;exact this
 un:=g.un
 calm:=g.calm
 room:=g.room
 bl:=g.bl
 dfs:=g.dfs
 cst:=g.cst
 kl:=⟨g.kl.A,g.kl.F,g.kl.mkc,g.kl.mth⟩
 xl:=λh=>⟨(g.xl h).xc,(g.xl h).rs,(g.xl h).kn⟩
def Gd.pt(g:Gd X i P n c)(df:c.cm=fc){xs:List Str}(hb:Yw sc c.sc c.N xs õ=fc)(hk:sc.kind=.function){p:gF.Pt}(hp:OA xs.length p=fc)(x:Expr)(cl:List<|Str×Ë)(C:Ë)(s:Ä)(H:Hp)(ex:List Ë) :
  PG (Zt X sc (Z7 X xs õ) cl C s H ex) (toP p (c.blk sc xs õ) x) (gPt i p):=by
 have B:=Uc g.sc g.N hk hb;have G:=g.blk hb hk cl C s H ex;have key:∀j,j<xs.length->CT (Zt X sc (Z7 X xs õ) cl C s H ex) (c.blk sc xs õ) j:=λj hj=>by
  have e:(c.blk sc xs õ).nmOf j=xs[j]:=by unfold Md.nmOf Md.blk;show(xs++_).getD j _=_;rw[ĕ,Č hj,È hj];rfl
  have lo:=lookup_relabel_local (env:=X.env)<|B.own xs[j]<|ı hj;unfold CT;rw[e];refine⟨?_,.inl lo,.inr lo⟩;show(xs++_)[j]?=_;rw[Č hj,È hj]
 refine HU G.K (by rw[G.N];exact G.nd) (g.calm df) ?_;cases p with
 |one j=>exact key j<|of_decide_eq_true hp
 |many js=>exact λj hj=>key j<|of_decide_eq_true<|ý.mp hp j hj
 |nest j js=>cases hp
variable {b:gF.E}
def Up(h:ZL b=fc):∃a d,b=.and a d:=by
 cases b with
 |and a d=>exact⟨a,d,rfl⟩
 |_=>cases h
def EL(h:YD b=fc):∃a d,b=.or a d:=by
 cases b with
 |or a d=>exact⟨a,d,rfl⟩
 |_=>cases h
def CY{b:gF.Tt}(h:Zp b=fc):∃a d,b=.and a d:=by
 cases b with
 |and a d=>exact⟨a,d,rfl⟩
 |_=>cases h
def GO{b:gF.Tt}(h:ZF b=fc):∃a d,b=.or a d:=by
 cases b with
 |or a d=>exact⟨a,d,rfl⟩
 |_=>cases h
def Na{b:Bool}(h:(!b||p==q)=fc)(hb:b=fc):p=q:=by rw[hb]at h;exact eq_of_beq h
variable {Φ:gF.Fs} {x:Expr}
def CM(hp:(!ZL b||(rest (ZL b) x).pos==x.pos)=fc)(h:PE X (toX b c<|rest (ZL b) x)<|tE X i Φ b):PE X (.BoolOp .And (flat (ZL b)<|toX b c<|rest (ZL b) x) x.pos)<|tE X i Φ b:=by
 cases z:ZL b with
 |false=>rw[z]at h;exact D7 h
 |true =>have e:=Na hp z;rw[z]at e h;let⟨a,d,rfl⟩:=Up z;show PE X (.BoolOp .And (sub<|.BoolOp .And _ (rest fc x).pos) x.pos) _;rw[<-e];exact h
def Gz(hp:(!YD b||(rest (YD b) x).pos==x.pos)=fc)(h:PE X (toX b c<|rest (YD b) x)<|tE X i Φ b):PE X (.BoolOp .Or (flat (YD b)<|toX b c<|rest (YD b) x) x.pos)<|tE X i Φ b:=by
 cases z:YD b with
 |false=>rw[z]at h;exact D7 h
 |true =>have e:=Na hp z;rw[z]at e h;let⟨a,d,rfl⟩:=EL z;show PE X (.BoolOp .Or (sub<|.BoolOp .Or _ (rest fc x).pos) x.pos) _;rw[<-e];exact h
def K8(b:Bool){e:gF.E}(h:b=ZL e\/b=YD e):∃y ys,flat b (toX e c x)=y::ys:=by
 cases b with
 |false=>exact⟨_,_,rfl⟩
 |true =>
  rcases h with h|h
  .obtain⟨a,d,rfl⟩:=Up h.symm;exact⟨_,_,rfl⟩
  .obtain⟨a,d,rfl⟩:=EL h.symm;exact⟨_,_,rfl⟩
variable {i:Inf}{P:gF.Pg}{n:Nat}
variable {X:Cx} {c:Md} {Φ:gF.Fs} {b:gF.Tt} {x:Expr}
def AI(hp:(!Zp b||(rest (Zp b) x).pos==x.pos)=fc)(h:PT X (toT b c<|rest (Zp b) x)<|tTt X i Φ b)(h2:(Zp b||ZF b)=fc->PW X (toT b c<|rest (Zp b) x) (tTt X i Φ b)) :
  ∃y ys,flat (Zp b) (toT b c<|rest (Zp b) x)=y::ys/\PW X (.BoolOp .And (y::ys) x.pos) (tTt X i Φ b):=by
 cases z:Zp b with
 |false=>rw[z]at h;exact⟨_,_,rfl,FP h⟩
 |true =>have e:=Na hp z;rw[z]at e h2;let⟨a,d,rfl⟩:=CY z;refine⟨_,_,rfl,?_⟩;rw[<-e];exact h2 rfl
def Eh(hp:(!ZF b||(rest (ZF b) x).pos==x.pos)=fc)(h:PT X (toT b c<|rest (ZF b) x)<|tTt X i Φ b)(h2:(Zp b||ZF b)=fc->PW X (toT b c<|rest (ZF b) x) (tTt X i Φ b)) :
  ∃y ys,flat (ZF b) (toT b c<|rest (ZF b) x)=y::ys/\PW X (.BoolOp .Or (y::ys) x.pos) (tTt X i Φ b):=by
 cases z:ZF b with
 |false=>rw[z]at h;exact⟨_,_,rfl,Lw h⟩
 |true =>have e:=Na hp z;rw[z]at e h2;let⟨a,d,rfl⟩:=GO z;refine⟨_,_,rfl,?_⟩;rw[<-e];exact h2 rfl
variable {e:gF.E}
def SU(h:Bj e=fc):∃s,e=.cst (.str s):=by
 cases e with
 |cst v=>cases v with
  |str s=>exact⟨s,rfl⟩
  |_=>cases h
 |_=>cases h
variable {õ:List Nat} {p:gF.Pt} {it:gF.It} {ç:Pos}
def KQ(g:Gd X i P n c){mt:gF.Tt}{me:gF.E}{b6 Ŷ bR:Expr}{x:List Str}{bD:List Expr}{sc:ξ}(df:c.cm=fc)(h1:Yw sc c.sc c.N x õ=fc)(hk:sc.kind=.function)(hp:OA x.length p=fc)
  (hi:PI X bR Ŷ<|tIt X i (gF.wF P n) it) (hs:∀y,Ę Ŷ X.env y=pure y) (hG:∀cl C s H ex,PG (Zt X sc (Z7 X x õ) cl C s H ex) bR<|gPt i p)
  (hE:∀cl C s H ex,PE (Zt X sc (Z7 X x õ) cl C s H ex) b6<|tE0 i (gF.wF P n) me) (hI:∀cl C s H ex,PIfs (Zt X sc (Z7 X x õ) cl C s H ex) bD<|tT0 i (gF.wF P n) mt) :
  PE X (.ListComp b6 [⟨bR,Ŷ,bD,0⟩] sc ç) (tE X i (gF.wF P n)<|.comp õ x.length p it mt me)/\
   ∀(y:Str) (py ϣ:Pos) (j:Nat),X.N[j]?=eZ y->L2.Loc X.env.scope y->(X.fn y=fc\/X.env.scope.names.lookup y=eZ .local)->Ţ (.ListComp b6 [⟨bR,Ŷ,bD,0⟩] sc ç) (eZ<|.Name y py) ϣ.line X.env=pure fc->PS X (.Assign [.Name y py] (.ListComp b6 [⟨bR,Ŷ,bD,0⟩] sc ç) ϣ) (tSt X i (gF.wF P n)<|.set (.one j)<|.comp õ x.length p it mt me):=by
 have B:=Uc g.sc g.N hk h1;have hc:=g.calm df;refine⟨(CK hc B hi hG hI hE hs).imp<|UI hp,λy py ϣ j hj hl hf hsw=>?_⟩;refine(Dy (by rw[g.N];exact g.nd) hj hl hc B hi hG hI hE hs hsw hf).imp λD σ H ⟨env,G,N,R,Bk,Ct,Xe,p,w,e⟩=>?_;refine UI hp σ H _ ⟨env,G,_,Xe env,p.pre,w,λv G1 H1 x k1 g1 r1 w1=>?_⟩;let⟨ś,e2,w2⟩:=fj w1;clear w1;cases e2;exact e.nx _ _ G1 H1 k1 g1 ((p.en.keep k1).set r1 j) w2
def OZ{j:Nat}(hN:X.N=c.N)(h:j<c.N.length):X.N[j]?=eZ (c.nmOf j):=by rw[hN];unfold Md.nmOf;rw[ĕ,È h];rfl
def UR{o:Expr}{m:Str}{Ł:Pos}{args:List Expr}{env:Env}(hb:ĩ o m env (eval o env)=eval o env)(aS:cR (args.length+0) (Ď ç<|Ï args env) (Ŭ ç<|ĺ [] env)=fc)(hl:(Ł.endLine==ç.line)=fc) :
  eval (.Call (.Attribute o m Ł) args [] ç) env=(do
    let ov<-eval o env
    ψ Ł.atName
    let (f,first)<-Ŋ [ov] (ρ ov m<|do return (<-importBound o env).getD fc)
    af ç f first (Ď ç<|Ï args env) (Ŭ ç<|ĺ [] env)):=by
 show(do
   let ov<-ĩ o m env (eval o env)
   ψ Ł.atName
   methodCall o m Ł ç env ov (args.length+0) (Ď ç<|Ï args env) (Ŭ ç<|ĺ [] env))=_
 rw[hb];unfold methodCall methodCallPos;rw[aS,hl];rfl
def Dc(env:Env)(ç:Pos){as:gF.Es}{xs:List Expr}(h:Zb as<20):cR ((toA as c xs).length+0) (Ď ç<|Ï (toA as c xs) env) (Ŭ ç<|ĺ [] env)=fc:=by unfold cR;rw[bAq,bAq,gL,Xw];refine⟨⟨Js env ç as c xs,rfl⟩,?_⟩;show Zb as+0+0<30;lia
def Rz{m:gF.Tt}(h:U8 m=fe->PT X (toT m c x) (tTt X i (gF.wF P n) m)):PIfs X (toF m c x)<|tT0 i (gF.wF P n) m:=by
 cases m with
 |yes=>exact LK
 |val e=>exact Wo<|pt0<|h rfl
 |not t=>exact Wo<|pt0<|h rfl
 |and a b=>exact Wo<|pt0<|h rfl
 |or a b=>exact Wo<|pt0<|h rfl
def NG(c:Md):∀(es:gF.Es) (xs:List Expr),Jo es=fc->(Wn<|toA es c xs).all (·.isSome)=fc/\(Wn<|toA es c xs).length=(D1<|toA es c xs).length/\2*(Wn<|toA es c xs).length=esL es
 |.nil,_,_=>⟨rfl,rfl,rfl⟩
 |.cons _ .nil,_,h=>by cases h
 |.cons k (.cons v r),xs,h=>by
  let⟨h1,h2,h3⟩:=NG c r xs.tail.tail h;refine⟨?_,?_,?_⟩
  .show(fc&&(Wn<|toA r c xs.tail.tail).all (·.isSome))=fc;rw[h1];rfl
  .show(Wn<|toA r c xs.tail.tail).length+1=(D1<|toA r c xs.tail.tail).length+1;rw[h2]
  .show 2*((Wn<|toA r c xs.tail.tail).length+1)=esL r+1+1;lia
mutual
theorem eE:∀(m:gF.E) (X:Cx) (c:Md) (x:Expr),Gd X i P n c->okE m c x=fc->PE X (toX m c x) (tE X i (gF.wF P n) m)
 |.cst v,X,c,x,g,h=>Ib h
 |.var j,X,c,x,g,h=>by have h:(gN (j<c.N.length)&&c.vis (c.nmOf j)&&nm (c.nmOf j))=fc:=h;rw[bAq,bAq,gL]at h;let⟨q1,q2,_⟩:=XY h.2;exact R6 (OZ g.N h.1.1) (g.vis h.1.2) q1 q2
 |.glob y v,X,c,x,g,h=>by have h:((c.gl (gO y)&&nm (gO y))&&gN (c.cs.lookup y=eZ v))=fc:=h;rw[bAq,bAq,gL]at h;let⟨q1,q2,_⟩:=XY h.1.2;let⟨u,z,e1,e2,e3⟩:=g.cst _ _ h.2;exact Px (MD (g.gl h.1.1) e1 e2 q1) e3
 |.bin o a b,X,c,x,g,h=>by have h:(okE a c (kid x 0)&&okE b c (kid x 1))=fc:=h;rw[bAq]at h;exact Q3 g (eE a X c _ g h.1)<|eE b X c _ g h.2
 |.neg a,X,c,x,g,h=>Rx<|eE a X c _ g h
 |.not a,X,c,x,g,h=>Qk<|eE a X c _ g h
 |.and a b,X,c,x,g,h=>by have h:(okE a c (kid x 0)&&okE b c (rest (ZL b) x)&&(!ZL b||(rest (ZL b) x).pos==x.pos))=fc:=h;rw[bAq,bAq]at h;have h2:=CM h.2<|eE b X c _ g h.1.2;let⟨y,ys,e⟩:=K8 (c:=c) (ZL b) (e:=b) (x:=rest (ZL b) x)<|.inl rfl;show PE X (.BoolOp .And (toX a c (kid x 0)::flat (ZL b) (toX b c<|rest (ZL b) x)) x.pos) _;rw[e]at h2 ⊢;exact RG (eE a X c _ g h.1.1) h2
 |.or a b,X,c,x,g,h=>by have h:(okE a c (kid x 0)&&okE b c (rest (YD b) x)&&(!YD b||(rest (YD b) x).pos==x.pos))=fc:=h;rw[bAq,bAq]at h;have h2:=Gz h.2<|eE b X c _ g h.1.2;let⟨y,ys,e⟩:=K8 (c:=c) (YD b) (e:=b) (x:=rest (YD b) x)<|.inr rfl;show PE X (.BoolOp .Or (toX a c (kid x 0)::flat (YD b) (toX b c<|rest (YD b) x)) x.pos) _;rw[e]at h2 ⊢;exact Sr (eE a X c _ g h.1.1) h2
 |.cmp o a b,X,c,x,g,h=>by have h:(okE a c (kid x 0)&&okE b c (kid x 1)&&(!XZ o||Oc b))=fc:=h;rw[bAq,bAq]at h;exact(NU g h.2 (eE a X c _ g h.1.1)<|eE b X c _ g h.1.2).1
 |.chain o1 o2 a b d,X,c,x,g,h=>by have h:(okE a c (kid x 0)&&okE b c (kid x 1)&&okE d c (kid x 2) && !XZ o1 && !XZ o2)=fc:=h;rw[bAq,bAq,bAq,bAq,Ō,Ō]at h;let⟨⟨⟨⟨h1,h2⟩,h3⟩,h4⟩,h5⟩:=h;exact(Jt g h4 h5 (eE a X c _ g h1) (eE b X c _ g h2)<|eE d X c _ g h3).1
 |.call f as,X,c,x,g,h=>by
  have h:((c.gl (gO f)&&nm (gO f))&&c.fs.contains f&&c.cm&&okA as c (sub x).tail)=fc:=h;rw[bAq,bAq,bAq,bAq]at h;let⟨⟨⟨⟨h1,h2⟩,h3⟩,h4⟩,h5⟩:=h;let⟨q1,_,_⟩:=XY h2;have ha:=eA as X c _ g h5;cases as with
  |nil=>exact Go g.K (g.dfs _ h3) (g.rm h4) (g.gl h1) q1
  |cons a as=>exact PN g.K (g.dfs _ h3) (g.rm h4) (g.gl h1) q1 ha (Zu ..)<|ZN ..
 |.make C as,X,c,x,g,h=>by
  have h:((c.gl (gO C)&&nm (gO C))&&c.cl.contains C&&c.cm&&gN (Zb as≠0)&&okA as c (sub x).tail)=fc:=h;rw[bAq,bAq,bAq,bAq,bAq,gL]at h;let⟨⟨⟨⟨⟨h1,h2⟩,h3⟩,h4⟩,h6⟩,h5⟩:=h;let⟨q1,_,_⟩:=XY h2;have ha:=eA as X c _ g h5;let⟨a,f,i1,i2,M,hm,D⟩:=g.kl.mkc C h3;cases as with
  |nil=>exact gM rfl h6
  |cons b as=>exact PY g.K i1 i2 M D (g.room h4) (g.gl h1) hm q1 ha (Zu ..)<|ZN ..
 |.meth C m o as,X,c,x,g,h=>by
  have h:(c.ms.contains (C,m)&&c.cm&&okE o c (kid (kid x 0) 0)&&Yh (toX o c<|kid (kid x 0) 0)&&((kid x 0).pos.endLine==x.pos.line)&&gN (Zb as<20)&&okA as c (sub x).tail)=fc:=h;rw[bAq,bAq,bAq,bAq,bAq,bAq,gL]at h;let⟨⟨⟨⟨⟨⟨h1,h2⟩,h3⟩,h4⟩,h6⟩,h7⟩,h5⟩:=h;have ev:=UR (m:=gO m) (Ye h4 _ X.env) (Dc X.env x.pos (c:=c) (xs:=(sub x).tail) h7) h6;have ha:=eA as X c _ g h5;have ho:=eE o X c _ g h3;let⟨a,f,i1,A,M,D⟩:=g.kl.mth C m h1;cases as with
  |nil=>exact Fw g.K i1 A M D (g.rm h2) ho ev
  |cons b as=>exact LM g.K i1 A M D (g.rm h2) ho ha (Zu ..) (ZN ..) ev
 |.fld o f,X,c,x,g,h=>by have h:(c.fl.contains f&&okE o c (kid x 0)&&Yh (toX o c<|kid x 0))=fc:=h;rw[bAq,bAq]at h;exact Qq g.K g.kl.A (g.kl.F _ h.1.1) (eE o X c _ g h.1.2)<|Ye h.2 _ _
 |.bi f as,X,c,x,g,h=>by
  have h:((match Gv f with
    |some T=>gN (Zb as=1)&&kinds.contains T&&c.gl "isinstance" && c.gl (gO T)
    |none=>match D9 f with
      |some Ts=>gN (Zb as=1)&&c.gl "isinstance" && !c.xs.isEmpty&&GW c Ts
      |none=>match Ea f with
        |some Ts=>gN (Zb as=1)&&c.gl "isinstance" && Ts.all (λT=>kinds.contains T&&c.gl (gO T))&&gN (Ts.length<=20)
        | none=>if We f then gN (Zb as=1)&&c.gl "len" && c.gl "set" && c.cm else if Je f then gN (Zb as=1)&&c.gl (YN f)&&c.gl (ER f)&&c.cm else if Mp f then gN (Zb as=1)&&c.gl "min" && c.cm else if U2 f then gN (Zb as=1)&&c.gl "dict" && c.gl "enumerate" && c.cm else if UN f then gN (Zb as=1)&&c.gl "isinstance" && c.gn (N0 f)&&c.cl.contains (N0 f)else Wa f&&c.gl (YN f)&&gN (Zb as≠0)&&(c.cm||WK f))&&okA as c (Uq f x))=fc:=h
  rw[bAq]at h;cases z:Gv f with
  |some T =>
   have h1:=h.1;rw[z]at h1;rw[bAq,bAq,bAq,gL]at h1;let⟨⟨⟨h1,h2⟩,h3⟩,h4⟩:=h1;cases Qc z;cases as with
   |nil=>cases h1
   |cons a as=>cases as with
    |nil =>have h5:(okE a c _&&fc)=fc:=h.2;rw[bAq]at h5;exact Ch g (ą.mp h2) h3 h4 (eE a X c _ g h5.1)<|Zu ..
    |cons b as=>exact gM h1 (by simp[Zb])
  |none =>
   have h1:=h.1;rw[z]at h1
   replace h1:(match D9 f with
     |some Ts=>gN (Zb as=1)&&c.gl "isinstance" && !c.xs.isEmpty&&GW c Ts
     |none=>match Ea f with
       |some Ts=>gN (Zb as=1)&&c.gl "isinstance" && Ts.all (λT=>kinds.contains T&&c.gl (gO T))&&gN (Ts.length<=20)
       | none=>if We f then gN (Zb as=1)&&c.gl "len" && c.gl "set" && c.cm else if Je f then gN (Zb as=1)&&c.gl (YN f)&&c.gl (ER f)&&c.cm else if Mp f then gN (Zb as=1)&&c.gl "min" && c.cm else if U2 f then gN (Zb as=1)&&c.gl "dict" && c.gl "enumerate" && c.cm else if UN f then gN (Zb as=1)&&c.gl "isinstance" && c.gn (N0 f)&&c.cl.contains (N0 f)else Wa f&&c.gl (YN f)&&gN (Zb as≠0)&&(c.cm||WK f))=fc:=h1
   cases zx:D9 f with
   |some Ts =>
    rw[zx]at h1;rw[bAq,bAq,bAq,gL,Ō]at h1;let⟨⟨⟨h1,h3⟩,h4⟩,h5⟩:=h1;cases PP zx;cases as with
    |nil=>cases h1
    |cons a as=>cases as with
     |nil =>have h6:(okE a c _&&fc)=fc:=h.2;rw[bAq]at h6;exact B1 g h3 (by intro z;rw[z]at h4;cases h4) h5 (eE a X c _ g h6.1)<|Zu ..
     |cons b as=>exact gM h1 (by simp[Zb])
   |none =>
    rw[zx]at h1
    replace h1:(match Ea f with
      |some Ts=>gN (Zb as=1)&&c.gl "isinstance" && Ts.all (λT=>kinds.contains T&&c.gl (gO T))&&gN (Ts.length<=20)
      | none=>if We f then gN (Zb as=1)&&c.gl "len" && c.gl "set" && c.cm else if Je f then gN (Zb as=1)&&c.gl (YN f)&&c.gl (ER f)&&c.cm else if Mp f then gN (Zb as=1)&&c.gl "min" && c.cm else if U2 f then gN (Zb as=1)&&c.gl "dict" && c.gl "enumerate" && c.cm else if UN f then gN (Zb as=1)&&c.gl "isinstance" && c.gn (N0 f)&&c.cl.contains (N0 f)else Wa f&&c.gl (YN f)&&gN (Zb as≠0)&&(c.cm||WK f))=fc:=h1
    cases zl:Ea f with
    |some Ts=>cases zl
    |none =>
     rw[zl]at h1;dsimp only at h1;split at h1
     .rename_i dM;exact gM (show fe=fc from dM) (by decide)
     split at h1
     .rename_i _ dM;have hf:f=.sortedSet:=by cases f<;>first|rfl|cases dM
      rw[bAq,bAq,bAq,gL]at h1;let⟨⟨⟨h1,h2⟩,h3⟩,h4⟩:=h1;cases as with
      |nil=>cases h1
      |cons a as=>cases as with
       |nil =>
        rcases hf with rfl
        .have h6:(okE a c _&&fc)=fc:=h.2;rw[bAq]at h6;exact NI (g.calm h4) g.K (eE a X c _ g h6.1) (g.gl h2) (g.bl _<|by simp[blts]) (g.gl h3) (g.bl _<|by simp[blts,ER]) (by rw[Zu];rfl)
       |cons b as=>exact gM h1 (by simp[Zb])
     split at h1
     .rename_i _ _ dM;have hf:f=.minD:=by cases f<;>first|rfl|cases dM
      subst hf;rw[bAq,bAq,gL]at h1;let⟨⟨h1,h2⟩,h4⟩:=h1;cases as with
      |nil=>cases h1
      |cons a as=>cases as with
       |nil =>have h6:(okE a c _&&fc)=fc:=h.2;rw[bAq]at h6;exact Pb (g.calm h4) (by have:=g.un;lia) g.K (g.gl h2) (g.bl _<|by simp[blts]) (eE a X c _ g h6.1) (by rw[Zu];rfl)
       |cons b as=>exact gM h1 (by simp[Zb])
     split at h1
     .rename_i _ _ _ dM;exact gM (show fe=fc from dM) (by decide)
     split at h1
     .rename_i _ _ _ _ dM;exact gM (show fe=fc from dM) (by decide)
     rw[bAq,bAq,bAq,gL]at h1;let⟨⟨⟨h1,h2⟩,h3⟩,h4⟩:=h1;have ha:=eA as X c _ g h.2;cases as with
     |nil=>exact gM rfl h3
     |cons a as =>
      have e1:toX (.bi f<|.cons a as) c x=.Call (.Name (YN f) (kid x 0).pos) (toA (.cons a as) c<|Uq f x) [] x.pos:=by cases f<;>first|(cases h1;done)|rfl
      rw[e1];exact FW g h1 h4 (g.gl h2) ha (Zu ..)<|ZN ..
 |.bm m o as,X,c,x,g,h=>by
  have h:(gN (C4 m=eZ (Zb as))&&okE o c (kid (kid x 0) 0)&&Yh (toX o c<|kid (kid x 0) 0)&&((kid x 0).pos.endLine==x.pos.line)&&okA as c (sub x).tail)=fc:=h;rw[bAq,bAq,bAq,bAq,gL]at h;let⟨⟨⟨⟨h1,h2⟩,h3⟩,h4⟩,h5⟩:=h;have ha:=eA as X c _ g h5;have ho:=eE o X c _ g h2;cases as with
  |nil=>exact Ek g h1 ho (λf=>Ye h3 f _) h4
  |cons a as =>
   refine GP g h1 ho ha (λf=>Ye h3 f _) h4 ?_ (Zu ..)<|ZN ..;rw[bAq,bAq,gL];refine⟨⟨Js X.env x.pos (.cons a as) c (sub x).tail,rfl⟩,?_⟩;have e2:(toA (.cons a as) c (sub x).tail).length=Zb (.cons a as):=Xw ..;have e3:Zb (.cons a as)<=2:=by
    have:∀m:gF.Bm,∀k,C4 m=eZ k->k<=2:=by intro m k;cases m<;>intro z<;>first|(cases z;done)|(cases z;decide)
    exact this m _ h1
   show(toA (.cons a as) c (sub x).tail).length+0+0<30;lia
 |.idx a b,X,c,x,g,h=>by have h:(okE a c (kid x 0)&&okE b c (kid x 1))=fc:=h;rw[bAq]at h;exact Qz (ix_seq.or<|E6 (by have:=g.un;lia)) (by rw[g.K];exact Qg) (eE a X c _ g h.1) (eE b X c _ g h.2)<|CW _ _ _
 |.slc a lo hi,X,c,x,g,h=>by have h:(okE a c (kid x 0)&&okO lo c (kid (kid x 1) 0)&&okO hi c (kid (kid x 1) 1))=fc:=h;rw[bAq,bAq]at h;exact Rb SV (by rw[g.K];exact Re) (eE a X c _ g h.1.1) (eO lo X c _ g h.1.2)<|eO hi X c _ g h.2
 |.tup es,X,c,x,g,h=>by have h:(okA es c (sub x)&&gN (Zb es<=1000))=fc:=h;rw[bAq,gL]at h;exact Q9 (by rw[Xw];exact h.2)<|eA es X c _ g h.1
 |.key es,X,c,x,g,h=>nomatch h
 |.dctP,X,c,x,g,h=>nomatch h
 |.lst es,X,c,x,g,h=>by have h:(okA es c (sub x)&&gN (Zb es<=1000))=fc:=h;rw[bAq,gL]at h;exact R8 (by rw[Xw];exact h.2)<|eA es X c _ g h.1
 |.dct es,X,c,x,g,h=>by
  have h:(okA es c (sub x)&&Jo es&&gN (esL es<=30))=fc:=h;rw[bAq,bAq,gL]at h;let⟨⟨h1,h2⟩,h3⟩:=h;have hp:=eD es X c (sub x) x.pos g h1 h2;cases es with
  |nil=>exact Id
  |cons k r=>cases r with
   |nil=>cases h2
   |cons v r =>let⟨q1,q2,q3⟩:=NG c (.cons k<|.cons v r) (sub x) h2;refine QD h2 h3 hp q1 q2 (by intro z;cases z) (by rw[<-q3]at h3;lia)
 |.ife t a b,X,c,x,g,h=>by have h:(okT t c (kid x 0)&&okE a c (kid x 1)&&okE b c (kid x 2))=fc:=h;rw[bAq,bAq]at h;exact QL (eT t X c _ g h.1.1).1 (eE a X c _ g h.1.2)<|eE b X c _ g h.2
 |.comp õ m p it t e,X,c,x,g,h=>by
  have h:((OA m p&&(YX<|kid x 1).length == m)&&c.cm&&Yw (scp x) c.sc c.N (YX<|kid x 1) õ&&(scp x).kind == .function&&okI it c (kid x 2) (!Zz p)&&okE e (c.blk (scp x) (YX<|kid x 1) õ) (kid x 0)&&(U8 t||okT t (c.blk (scp x) (YX<|kid x 1) õ) (kid x 3)))=fc:=h;rw[bAq,bAq,bAq,bAq,bAq,bAq]at h;let⟨⟨⟨⟨⟨⟨h1,h2⟩,h3⟩,h4⟩,h5⟩,h6⟩,h7⟩:=h;rw[bAq,beq_iff_eq]at h1;let⟨h1,rfl⟩:=h1;have hk:=eq_of_beq h4;let⟨t1,t2⟩:=MN (c:=c.blk (scp x) (YX<|kid x 1) õ) p<|kid x 1;let⟨a1,a2⟩:=eI it X c (kid x 2) (toP p (c.blk (scp x) (YX<|kid x 1) õ)<|kid x 1) g (!Zz p) t1 t2 h5;exact(KQ g h2 h3 hk h1 a1 a2 (g.pt h2 h3 hk h1 _)
    (λcl C s H ex=>pe0<|eE e _ _ _ (g.blk h3 hk cl C s H ex) h6) (λcl C s H ex=>Rz λz=>(eT t _ _ _ (g.blk h3 hk cl C s H ex)<|by rw[z]at h7;exact h7).1)).1
 |.fstr es,X,c,x,g,h=>nomatch h
 |.repl _ _ _,X,c,x,g,h=>nomatch h
 |.split o a,X,c,x,g,h=>nomatch h
 |.rev a,X,c,x,g,h=>nomatch h
theorem eD:∀(es:gF.Es) (X:Cx) (c:Md) (xs:List Expr) (ç:Pos),Gd X i P n c->okA es c xs=fc->Jo es=fc->PPs X ç (Wn<|toA es c xs) (D1<|toA es c xs) (UP X i (gF.wF P n) es)
 |.nil,X,c,xs,ç,g,h,he=>Hi
 |.cons k .nil,X,c,xs,ç,g,h,he=>by cases he
 |.cons k (.cons v r),X,c,xs,ç,g,h,he=>by have h:(okE k c (xs.headD dE)&&(okE v c (xs.tail.headD dE)&&okA r c xs.tail.tail))=fc:=h;rw[bAq,bAq]at h;exact DN (eE k X c _ g h.1) (eE v X c _ g h.2.1)<|eD r X c _ ç g h.2.2 he
theorem eA:∀(ms:gF.Es) (X:Cx) (c:Md) (xs:List Expr),Gd X i P n c->okA ms c xs=fc->PA X (toA ms c xs) (tAr X i (gF.wF P n) ms (toA ms c xs).length)
 |.nil,X,c,xs,g,h=>Ic
 |.cons a as,X,c,xs,g,h=>by have h:(okE a c (xs.headD dE)&&okA as c xs.tail)=fc:=h;rw[bAq]at h;exact E9 (eE a X c _ g h.1) (eA as X c _ g h.2)<|Zu ..
theorem eJ:∀(ms:gF.Es) (X:Cx) (c:Md) (xs:List Expr),Gd X i P n c->okJ ms c xs=fc->PJ X (toJ ms c xs) (tJs X i (gF.wF P n) ms)
 |.nil,X,c,xs,g,h=>PF
 |.cons a as,X,c,xs,g,h=>by
  have h:((Bj a||okE a c (kid (xs.headD dE) 0))&&okJ as c xs.tail)=fc:=h;rw[bAq]at h;have hr:=eJ as X c _ g h.2;show PJ X ((if Bj a then toX a c (xs.headD dE)else .FormattedValue (toX a c<|kid (xs.headD dE) 0) (-1) fb (xs.headD dE).pos)::toJ as c xs.tail) _;cases z:Bj a with
  |true =>let⟨s,rfl⟩:=SU z;exact UH Ih hr rfl
  |false =>rw[z]at h;exact UH (Lc<|eE a X c _ g h.1) hr rfl
theorem eO:∀(m:gF.Oe) (X:Cx) (c:Md) (x:Expr),Gd X i P n c->okO m c x=fc->PO X (toO m c x) (tOx X i (gF.wF P n) m)
 |.none,X,c,x,g,h=>Hh
 |.some e,X,c,x,g,h=>FI<|eE e X c _ g h
theorem eT:∀(m:gF.Tt) (X:Cx) (c:Md) (x:Expr),Gd X i P n c->okT m c x=fc->PT X (toT m c x) (tTt X i (gF.wF P n) m)/\((Zp m||ZF m)=fc->PW X (toT m c x) (tTt X i (gF.wF P n) m))
 |.yes,X,c,x,g,h=>nomatch h
 |.val e,X,c,x,g,h=>by
  refine⟨?_,λz=>(by cases z)⟩;have h:(okE e c x&&(OX e||Rp e))=fc:=h;rw[bAq]at h;have he:=eE e X c x g h.1;cases z:OX e with
  |true=>exact Iy he (by cases e<;>first|(cases z;done)|exact λ_=>rfl) g.K
  |false =>
   have h2:=h.2;rw[z]at h2;cases e with
   |cmp o a b =>have h:(okE a c (kid x 0)&&okE b c (kid x 1)&&(!XZ o||Oc b))=fc:=h.1;rw[bAq,bAq]at h;exact(NU g h.2 (eE a X c _ g h.1.1)<|eE b X c _ g h.1.2).2
   |chain o1 o2 a b d =>have h:(okE a c (kid x 0)&&okE b c (kid x 1)&&okE d c (kid x 2) && !XZ o1 && !XZ o2)=fc:=h.1;rw[bAq,bAq,bAq,bAq,Ō,Ō]at h;let⟨⟨⟨⟨h1,h2⟩,h3⟩,h4⟩,h5⟩:=h;exact(Jt g h4 h5 (eE a X c _ g h1) (eE b X c _ g h2)<|eE d X c _ g h3).2
   |_=>cases h2
 |.not t,X,c,x,g,h=>⟨Iv (eT t X c _ g h).1,λz=>(by cases z)⟩
 |.and a b,X,c,x,g,h=>by
  have h:(okT a c (kid x 0)&&okT b c (rest (Zp b) x)&&(!Zp b||(rest (Zp b) x).pos==x.pos))=fc:=h;rw[bAq,bAq]at h;have h2:=eT b X c _ g h.1.2;let⟨y,ys,e,h3⟩:=AI h.2 h2.1 h2.2;have h4:PW X (toT (.and a b) c x)<|tTt X i (gF.wF P n)<|.and a b:=by show PW X (.BoolOp .And (toT a c (kid x 0)::flat (Zp b) (toT b c<|rest (Zp b) x)) x.pos) _;rw[e];exact L3 (eT a X c _ g h.1.1).1 h3
  exact⟨h4.pt,λ_=>h4⟩
 |.or a b,X,c,x,g,h=>by
  have h:(okT a c (kid x 0)&&okT b c (rest (ZF b) x)&&(!ZF b||(rest (ZF b) x).pos==x.pos))=fc:=h;rw[bAq,bAq]at h;have h2:=eT b X c _ g h.1.2;let⟨y,ys,e,h3⟩:=Eh h.2 h2.1 h2.2;have h4:PW X (toT (.or a b) c x)<|tTt X i (gF.wF P n)<|.or a b:=by show PW X (.BoolOp .Or (toT a c (kid x 0)::flat (ZF b) (toT b c<|rest (ZF b) x)) x.pos) _;rw[e];exact Q4 (eT a X c _ g h.1.1).1 h3
  exact⟨h4.pt,λ_=>h4⟩
theorem eI:∀(m:gF.It) (X:Cx) (c:Md) (x tg:Expr),Gd X i P n c->∀(b:Bool),(b=fc->∃es k p,tg=.Tuple es k p)->(b=fe->∃y p,tg=.Name y p)->okI m c x b=fc->PI X tg (toI m c x) (tIt X i (gF.wF P n) m)/\∀y,Ę (toI m c x) X.env y=pure y
 |.seq e,X,c,x,tg,g,b,t1,t2,h=>⟨P9 g.K<|eE e X c _ g h,LZ _ _ _ _⟩
 |.chars e,X,c,x,tg,g,b,t1,t2,h=>nomatch h
 |.range a,X,c,x,tg,g,b,t1,t2,h=>by have h:(c.gl "range" && okE a c (kid x 1))=fc:=h;rw[bAq]at h;exact⟨DZ (g.gl h.1) (g.bl _<|by simp[blts]) (eE a X c _ g h.2)<|Zu ..,λ_=>rfl⟩
 |.range2 a d,X,c,x,tg,g,b,t1,t2,h=>nomatch h
 |.zip a d,X,c,x,tg,g,b,t1,t2,h=>nomatch h
 |.enum e,X,c,x,tg,g,b,t1,t2,h=>by have h:(b&&c.gl "enumerate" && okE e c (kid x 1))=fc:=h;rw[bAq,bAq]at h;let⟨es,k,p,rfl⟩:=t1 h.1.1;exact⟨FA g.K (g.gl h.1.2) (g.bl _<|by simp[blts]) (eE e X c _ g h.2) (by rw[Zu];rfl),λ_=>rfl⟩
 |.items e,X,c,x,tg,g,b,t1,t2,h=>nomatch h
 |.rev e,_,_,_,_,_,_,_,_,h=>nomatch h
end
def BI(g:Gd X i P n c){m:Nat}{t:gF.Tt}(h:okE (.comp õ m p it t e) c x=fc) :
  PE X (toX (.comp õ m p it t e) c x) (tE X i (gF.wF P n)<|.comp õ m p it t e)/\
   ∀(y:Str) (py ϣ:Pos) (j:Nat),X.N[j]?=eZ y->L2.Loc X.env.scope y->(X.fn y=fc\/X.env.scope.names.lookup y=eZ .local)->Ţ (toX (.comp õ m p it t e) c x) (eZ<|.Name y py) ϣ.line X.env=pure fc->PS X (.Assign [.Name y py] (toX (.comp õ m p it t e) c x) ϣ) (tSt X i (gF.wF P n)<|.set (.one j)<|.comp õ m p it t e):=by
 have h:((OA m p&&(YX<|kid x 1).length==m)&&c.cm&&Yw (scp x) c.sc c.N (YX<|kid x 1) õ&&(scp x).kind == .function&&okI it c (kid x 2) (!Zz p)&&okE e (c.blk (scp x) (YX<|kid x 1) õ) (kid x 0)&&(U8 t||okT t (c.blk (scp x) (YX<|kid x 1) õ) (kid x 3)))=fc:=h;rw[bAq,bAq,bAq,bAq,bAq,bAq]at h;let⟨⟨⟨⟨⟨⟨h1,h2⟩,h3⟩,h4⟩,h5⟩,h6⟩,h7⟩:=h;rw[bAq,beq_iff_eq]at h1;let⟨h1,rfl⟩:=h1;have hk:=eq_of_beq h4;let⟨t1,t2⟩:=MN (c:=c.blk (scp x) (YX<|kid x 1) õ) p<|kid x 1;let⟨a1,a2⟩:=eI it X c (kid x 2) (toP p (c.blk (scp x) (YX<|kid x 1) õ)<|kid x 1) g (!Zz p) t1 t2 h5;exact KQ g h2 h3 hk h1 a1 a2 (g.pt h2 h3 hk h1 _)
  (λcl C s H ex=>pe0<|eE e _ _ _ (g.blk h3 hk cl C s H ex) h6) (λcl C s H ex=>Rz λz=>(eT t _ _ _ (g.blk h3 hk cl C s H ex)<|by rw[z]at h7;exact h7).1)
abbrev dS:Į:=.Pass ⟨0,0,0,0⟩
abbrev stE:Į->List Expr
 |.Assign ts v _=>v::ts
 |.AugAssign t _ v _=>[v,t]
 |.For t it _ _ _=>[t,it]
 |.While t _ _ _=>[t]
 |.If t _ _ _=>[t]
 |.Expr e _=>[e]
 |.Return (eZ e) _=>[e]
 |.Raise (eZ e) _ _=>[e]
 |_=>[]
abbrev ke(s:Į)(j:Nat):Expr:=(stE s).getD j dE
abbrev stB:Į->List Į
 |.For _ _ b _ _=>b
 |.While _ b _ _=>b
 |.If _ b _ _=>b
 |.Try b _ _ _ _=>b
 |_=>[]
abbrev stO:Į->List Į
 |.If _ _ b _=>b
 |_=>[]
abbrev stH:Į->List ExceptHandler
 |.Try _ hs _ _ _=>hs
 |_=>[]
abbrev dH:ExceptHandler:=.ExceptHandler fb fb [] ⟨0,0,0,0⟩
abbrev hT:ExceptHandler->Expr
 |.ExceptHandler (eZ e) _ _ _=>e
 |_=>dE
abbrev hB:ExceptHandler->List Į
 |.ExceptHandler _ _ b _=>b
abbrev hP:ExceptHandler->Pos
 |.ExceptHandler _ _ _ p=>p
abbrev Md.hot(c:Md):Md:={c with cm:=fe}
abbrev Lh(t:Option Nat)(e:gF.E)(c:Md)(y:Į):Į:=match t with
 |none=>.Expr (toX e c<|ke y 0) y.pos
 |some j=>.Assign [.Name (c.nmOf j) (ke y 1).pos] (toX e c<|ke y 0) y.pos
mutual
noncomputable def toS:gF.S->Md->Į->Į
 |.set p a,c,s=>.Assign [toP p c<|ke s 1] (toX a c<|ke s 0) s.pos
 |.setIdx a j e,c,s=>.Assign [.Subscript (toX a c<|kid (ke s 1) 0) (toX j c<|kid (ke s 1) 1) (ke s 1).pos] (toX e c<|ke s 0) s.pos
 |.setPair a i b j e,c,s=>.Assign [.Tuple [.Subscript (toX a c<|kid (kid (ke s 1) 0) 0) (toX i c<|kid (kid (ke s 1) 0) 1) (kid (ke s 1) 0).pos,.Subscript (toX b c<|kid (kid (ke s 1) 1) 0) (toX j c<|kid (kid (ke s 1) 1) 1) (kid (ke s 1) 1).pos] (num<|ke s 1) (ke s 1).pos] (toX e c<|ke s 0) s.pos
 |.setFld o f e,c,s=>.Assign [.Attribute (toX o c<|kid (ke s 1) 0) (gO f) (ke s 1).pos] (toX e c<|ke s 0) s.pos
 |.augVar j op e,c,s=>.AugAssign (.Name (c.nmOf j) (ke s 1).pos) (OC op) (toX e c<|ke s 0) s.pos
 |.augFld o f op n,c,s=>.AugAssign (.Attribute (toX o c<|kid (ke s 1) 0) (gO f) (ke s 1).pos) (OC op) (.Constant (.int n) (num<|ke s 0) (ke s 0).pos) s.pos
 |.augIdx a j op n,c,s=>.AugAssign (.Subscript (toX a c<|kid (ke s 1) 0) (toX j c<|kid (ke s 1) 1) (ke s 1).pos) (OC op) (.Constant (.int n) (num<|ke s 0) (ke s 0).pos) s.pos
 |.expr e,c,s=>.Expr (toX e c<|ke s 0) s.pos
 |.ret e,c,s=>.Return (eZ<|toX e c<|ke s 0) s.pos
 |.retN,_,s=>.Return fb s.pos
 |.ite t a b,c,s=>.If (toT t c<|ke s 0) (toSs a c<|stB s) (toSs b c<|stO s) s.pos
 |.whl t b,c,s=>.While (toT t c<|ke s 0) (toSs b c<|stB s) [] s.pos
 |.for p it b,c,s=>.For (toP p c<|ke s 0) (toI it c<|ke s 1) (toSs b c<|stB s) [] s.pos
 |.forI fc p e b,c,s=>.For (toP p c<|ke s 0) (toX e c<|ke s 1) (toSs b c<|stB s) [] s.pos
 |.forI fe p e b,c,s=>.For (toP p c<|ke s 0) (.Call (.Attribute (toX e c<|kid (kid (ke s 1) 0) 0) "items" (kid (ke s 1) 0).pos) [] [] (ke s 1).pos) (toSs b c<|stB s) [] s.pos
 |.brk,_,s=>.Break s.pos
 |.cnt,_,s=>.Continue s.pos
 |.pass,_,s=>.Pass s.pos
 |.raise C as,c,s=>.Raise (eZ<|.Call (.Name (gO C) (kid (ke s 0) 0).pos) (toA as c (sub<|ke s 0).tail) [] (ke s 0).pos) fb s.pos
 |.try t e hs,c,s=>.Try [Lh t e c<|(stB s).headD dS] (toH hs c<|stH s) [] [] s.pos
 |_,_,s=>s
noncomputable def toH:gF.Hn->Md->List ExceptHandler->List ExceptHandler
 |.nil,_,_=>[]
 |.cons K nm b r,c,xs=>.ExceptHandler (eZ<|.Name (gO K) (hT<|xs.headD dH).pos) (nm.map c.nmOf) (toSs b c.hot<|hB<|xs.headD dH) (hP<|xs.headD dH)::toH r c xs.tail
noncomputable def toSs:gF.Ss->Md->List Į->List Į
 |.nil,_,_=>[]
 |.cons m ms,c,xs=>toS m c (xs.headD dS)::toSs ms c xs.tail
end
abbrev HZ:gF.E->Bool
 |.idx _ _=>fc
 |.var _=>fc
 |.fld _ _=>fc
 |_=>fe
abbrev Ng(c:Md)(j:Nat):Bool:=gN (j<c.N.length)&&c.loc (c.nmOf j)
abbrev okP(p:gF.Pt)(c:Md):Bool:=match p with
 |.one j=>Ng c j
 |.many js=>js.all<|Ng c
 |.nest j js=>Ng c j&&js.all (Ng c)
abbrev CI:gF.E->Bool
 |.tup _=>fc
 |.key _=>fc
 |_=>fe
abbrev Ub:gF.E->Bool
 |.comp _ _ _ _ _ _=>fc
 |_=>fe
abbrev swT(c:Md)(tg v:Expr):Bool:=match v,tg with
 |.ListComp _ _ s ç,.Name t p=>(if c.sc.kind.isAnnotationScope then ScopeKind.function else c.sc.kind) == .function&&c.sc.names.lookup t==eZ .local&&p.line==ç.line && !(s.names.any λ(n,k)=>n==t&&(k == .local||k == .cell))
 |_,_=>fe
abbrev Bt:gF.Bop->Bool
 |.add=>fc
 |.sub=>fc
 |_=>fe
abbrev ED:gF.E->Md->Expr->Bool
 |.call f as,c,x=>c.gn f&&c.fs.contains f&&gN (Zb as≠0)&&okA as c (sub x).tail
 |.meth C m o as,c,x=>c.ms.contains (C,m)&&okE o c (kid (kid x 0) 0)&&Yh (toX o c<|kid (kid x 0) 0)&&((kid x 0).pos.endLine==x.pos.line)&&gN (Zb as<20)&&gN (Zb as≠0)&&okA as c (sub x).tail
 |_,_,_=>fe
abbrev S0(c:Md)(j:Nat):Bool:=gN (j<c.N.length)&&c.sc.names.lookup (c.nmOf j)==eZ .local
abbrev LU(c:Md):Option Nat->Bool
 |none=>fc
 |some j=>S0 c j
abbrev CP(c:Md):Option Nat->Bool
 |none=>fc
 |some j=>Ng c j
abbrev UJ:gF.Ss->Bool
 |.nil=>fe
 |_=>fc
abbrev QN:gF.Hn->Bool
 |.nil=>fc
 |_=>fe
mutual
noncomputable def okS:gF.S->Md->Į->Bool
 |.set p a,c,s=>okP p c&&okE a c (ke s 0)&&(Zz p || !CI a)&&(Zz p||c.cm)
 |.setIdx a j e,c,s=>okE e c (ke s 0)&&okE a c (kid (ke s 1) 0)&&okE j c (kid (ke s 1) 1)
 |.setFld o f e,c,s=>c.fl.contains f&&okE o c (kid (ke s 1) 0)&&okE e c (ke s 0)
 |.augFld o f op _,c,s=>c.fl.contains f&&okE o c (kid (ke s 1) 0)&&Bt op
 |.augIdx a j op _,c,s=>okE a c (kid (ke s 1) 0)&&okE j c (kid (ke s 1) 1)&&Bt op
 |.expr e,c,s=>okE e c (ke s 0) && !Ub e
 |.ret e,c,s=>okE e c<|ke s 0
 |.retN,_,_=>fc
 |.ite t a b,c,s=>okT t c (ke s 0)&&okSs a c (stB s)&&okSs b c (stO s)
 |.for p it b,c,s=>okP p c&&okI it c (ke s 1) (!Zz p)&&okSs b c (stB s)&&c.cm
 |.forI fc p e b,c,s=>okP p c&&HZ e&&okE e c (ke s 1)&&okSs b c (stB s)&&c.cm
 |.forI fe p e b,c,s=>okP p c && !Zz p&&okE e c (kid (kid (ke s 1) 0) 0)&&Yh (toX e c<|kid (kid (ke s 1) 0) 0)&&((kid (ke s 1) 0).pos.endLine==(ke s 1).pos.line)&&okSs b c (stB s)&&c.cm
 |.never,_,_=>fc
 |.raise C as,c,s=>c.gn C&&c.xs.contains C&&c.cm&&gN (Zb as≠0)&&gN (Zb as<=1000)&&okA as c (sub<|ke s 0).tail
 |.try t e hs,c,s=>ED e c (ke ((stB s).headD dS) 0)&&CP c t&&okH hs c (stH s)&&c.cm
 |_,_,_=>fe
noncomputable def okH:gF.Hn->Md->List ExceptHandler->Bool
 |.nil,_,_=>fe
 |.cons K nm b r,c,xs=>(c.xs.contains K||K == "ShutError")&&c.gn K && !c.xs.isEmpty&&LU c nm&&UJ b&&okSs b c.hot (hB<|xs.headD dH)&&QN r
noncomputable def okSs:gF.Ss->Md->List Į->Bool
 |.nil,_,_=>fc
 |.cons m ms,c,xs=>okS m c (xs.headD dS)&&okSs ms c xs.tail
end
structure Gs(X:Cx)(i:Inf)(P:gF.Pg)(n:Nat)(c:Md):Prop extends Gd X i P n c where
 fn:∀x,c.loc x=fc->X.fn x=fc\/X.env.scope.names.lookup x=eZ .local
 own:c.cm=fc->av (Õ X.prog X.w) X.A X.env X.xe
 stk:c.cm=fc->X.stack=X.env::X.outer
variable {X:Cx}{i:Inf}{P:gF.Pg}{n:Nat}{c:Md}
def Gs.nm1(g:Gs X i P n c){j:Nat}(h:Ng c j=fc):X.N[j]?=eZ (c.nmOf j)/\L2.Loc X.env.scope (c.nmOf j)/\(X.fn (c.nmOf j)=fc\/X.env.scope.names.lookup (c.nmOf j)=eZ .local):=by unfold Ng at h;rw[bAq,gL]at h;exact⟨OZ g.N h.1,g.loc h.2,g.fn _ h.2⟩
variable {p:gF.Pt}
def RD(g:Gs X i P n c)(h:okP p c=fc):HV (CT X c) p:=by
 cases p with
 |one j=>exact g.nm1 h
 |many js=>exact λj hj=>g.nm1<|ý.mp h j hj
 |nest j js =>have h:(Ng c j&&js.all (Ng c))=fc:=h;rw[bAq]at h;exact⟨g.nm1 h.1,λk hk=>g.nm1<|ý.mp h.2 k hk⟩
variable {x:Expr}
def U4(g:Gs X i P n c)(df:c.cm=fc)(h:okP p c=fc):PG X (toP p c x)<|gPt i p:=HU g.K (by rw[g.N];exact g.nd) (g.calm df) (RD g h)
variable {tg:Expr}
def Ji{l:Nat}{env:Env}(a:gF.E)(x:Expr)(hs:env.scope=c.sc):Ţ (toX a c x) (eZ tg) l env=pure (swT c tg<|toX a c x):=by
 cases a with
 |comp õ m p it t e =>
  cases tg with
  |Name t q =>unfold Ţ swT Env.blockKind Env.kindOf;rw[hs];rfl
  |_=>rfl
 |_=>rfl
def Pa(p:gF.Pt)(a:gF.E)(x y:Expr)(env:Env)(h:(Zz p || !CI a)=fc):ϙ [toP p c x] (toX a c y) env=pure fb:=by
 cases p with
 |one j=>cases a<;>rfl
 |many js=>cases a<;>first|rfl|cases h
 |nest j js=>cases a<;>first|rfl|cases h
def Ep(p:gF.Pt)(x:Expr)(env:Env):(Ğ [toP p c x] env).map (·.2)=[π (toP p c x) env]:=by cases p<;>rfl
def IG{a:gF.E}(h:swT c tg (toX a c x)=fc):∃õ m p it t e,a=.comp õ m p it t e:=by
 cases a with
 |comp õ m p it t e=>exact⟨_,_,_,_,_,_,rfl⟩
 |_=>cases h
def FL(y:gF.E){b:Expr}{ç:Pos}{env:Env}:∀v,π (.Subscript b (toX y c x) ç) env v=(do
    let ov<-Ŋ [v] (eval b env)
    let iv<-Ŋ [v,ov] (eval (toX y c x) env)
    ψ ç
    Ŋ [v,ov,iv] (bb ov iv v)
    eB [v,ov,iv] []):=by
 intro v;cases y<;>rfl
def HD{op:gF.Bop}(h:Bt op=fc):Ck X (OC op)<|rAS op:=by
 cases op with
 |add =>
  intro Á s σ H x y u v Q I rx ry q;let⟨a,b,rfl,rfl,q⟩:=q;rcases q with⟨_,q⟩|⟨z,_⟩
  .exact Pz Á s σ H _ _ u v Q I rx ry ⟨a,b,rfl,rfl,q⟩
  .cases z
 |sub =>
  intro Á s σ H x y u v Q I rx ry q;let⟨a,b,rfl,rfl,q⟩:=q;rcases q with⟨z,_⟩|⟨_,q⟩
  .cases z
  .exact LH Á s σ H _ _ u v Q I rx ry ⟨a,b,rfl,rfl,q⟩
 |_=>cases h
def DH:PGet X<|B9 X.K:=λÁ s σ H x y v u Q I rx ry h=>by
 let⟨p,xs,i,z,rfl,rfl,hq,he,q⟩:=h;cases rx;let⟨t,rfl⟩:=ry;let⟨ô,r,pl,hz⟩:=I.list hq;let⟨j,h1,h2,h3,h4,h5⟩:=W8 he;let⟨w,ew,bw⟩:=r.get h2;have hl:=r.length;have hn:=Xg;have fin:EP X Á σ Q w s:=⟨z,H,I,bw,q⟩
 by_cases h0:0<=i
 .have hj:i.toNat=j:=by
   rw[bT h0 h5]at h1;exact ï h1
  exact wpAny_getItem_list pl.isList h0 (by lia) (by rw[hj];simpa using ew) fin
 .have hj:(i+(ô.toArray.size:Int)).toNat=j:=by
   rw[bc (by lia) h4]at h1;rw[Ð,<-hl];exact ï h1
  exact eM pl.isList (by lia) (by rw[Ð]<;>lia) (by lia) (by rw[hj];simpa using ew) fin
def Dn(hu:X.A.units+1<Ķ):PGet X CS:=λÁ s σ H x y v u Q I rx ry h=>by let⟨a,z,rfl,g,q⟩:=h;cases rx;exact K4 hu I g ry λw s' I' r=>⟨z,H,I',r,q⟩
def PGet.or{r r':R2}(h:PGet X r)(h':PGet X r'):PGet X λx y H Q=>r x y H Q\/r' x y H Q:=λÁ s σ H o j ov jv Q I ro rj q=>by
 rcases q with q|q
 .exact h Á s σ H o j ov jv Q I ro rj q
 .exact h' Á s σ H o j ov jv Q I ro rj q
def IL{G:gF.Hs}{H:Hp}{a:Ë}{u w:gF.Val}{y:V}{K:Frag}{Q:VK}(g:RH i G H)(ry:RV i.K H u y)(e:gF.fU G (.ref a) u=eZ w)(q:∀z,RV i.K H w z->Q z H):B9 K (.ref a) y H Q\/CS (.ref a) y H Q:=by
 replace e:(match G a with|some (.lst xs)=>(gF.gB u).bind (gF.atI xs)|some (.dct kvs)=>if gF.fE u then gF.fI kvs u else fb|some (.frz kvs)=>if gF.fE u then gF.fI kvs u else fb|some (.dtp kvs)=>if gF.isKeyT u then gF.fI kvs u else fb|_=>fb)=eZ w:=e
 cases z:G a with
 |none=>rw[z]at e;cases e
 |some o =>
  rw[z]at e;cases o with
  |lst xs =>let⟨k,hk,e⟩:=ê.mp e;cases ZU hk;let⟨vs,h1,h2⟩:=g a _ z;let⟨t,h3,h4⟩:=W3 h2 e;exact .inl ⟨a,vs,k,t,rfl,ry.int_inv,gp.of h1,h3,q t h4⟩
  |dct kvs =>let⟨hk,e⟩:=Zq (show(if gF.fE u then gF.fI kvs u else fb)=eZ w from e);let⟨ps,h1,h2⟩:=g a _ z;let⟨d,kr,rfl⟩:=fz hk ry;let⟨t,hx,rv⟩:=(h2.look kr).1 w e;exact .inr ⟨a,t,rfl,by rw[<-hx];exact DGet.k h1,q t rv⟩
  |frz kvs =>let⟨hk,e⟩:=Zq (show(if gF.fE u then gF.fI kvs u else fb)=eZ w from e);let⟨ob,ps,h1,h2⟩:=g a _ z;let⟨d,kr,rfl⟩:=fz hk ry;let⟨t,hx,rv⟩:=(h2.look kr).1 w e;exact .inr ⟨a,t,rfl,.inl ⟨ps,d,.inr ⟨ob,h1⟩,rfl,hx.symm⟩,q t rv⟩
  |dtp kvs =>let⟨hk,e⟩:=Zq (show(if gF.isKeyT u then gF.fI kvs u else fb)=eZ w from e);let⟨ps,h1,h2⟩:=g a _ z;let⟨k1,k2,b,rfl,rfl,hb⟩:=Jg hk ry;let⟨t,hx,rv⟩:=(h2.look).1 w e;exact .inr ⟨a,t,rfl,by rw[<-hx];exact DGet.t h1 hb,q t rv⟩
  |_=>cases e
def L4(e:gF.E)(x:Expr):∀ov iv new,augStore (toX e c x) ov iv new=(do Ŋ [new,ov,iv] (bb ov iv new);eB [new,ov,iv] [];pure .next):=by intro ov iv new;cases e<;>rfl
def AU{Φ:gF.Fs}{a j:Expr}{ma mj:gF.E}{op:gF.Bop}{k:Int}{kk:Nat}{ç cU Ő:Pos}(hK:X.K=i.K)(hu:X.A.units+1<Ķ)(h:Bt op=fc)(ha:PE X a<|tE X i Φ ma)(hj:PE X j<|tE X i Φ mj)
  (hs:∀ov iv new,augStore j ov iv new=(do Ŋ [new,ov,iv] (bb ov iv new);eB [new,ov,iv] [];pure .next)) :
  PS X (.AugAssign (.Subscript a j cU) (OC op) (.Constant (.int k) kk Ő) ç) (tSt X i Φ<|.augIdx ma mj op k) :=
 (FU ha hj (PGet.or DH<|Dn hu) ON (HD h) (PSet.or Nu<|NN hu) hs).imp λD σ H ⟨env,G,N,R,B,C,Xe,p,w,c⟩=>by
  refine one p.pre w λv G1 H1 x k1 p1 rx q=>?_;refine one p1 q λu G2 H2 y k2 p2 ry q=>?_;let⟨t,e1,q2⟩:=fj q;clear q;let⟨z,e2,q3⟩:=fj q2;clear q2;let⟨G3,e3,q4⟩:=fj q3;clear q3;have hr:∃b,v=.ref b:=by
   cases v with
   |ref b=>exact⟨b,rfl⟩
   |_=>cases e3
  let⟨b,rfl⟩:=hr;cases rx.ref_inv;have ix2:∀Q:VK,(∀t',RV i.K H2 t t'->Q t' H2)->B9 X.K (.ref b) y H2 Q\/CS (.ref b) y H2 Q:=λQ hQ=>IL p2.hp ry e1 hQ;refine ix2 _ λt' rt=>?_;let⟨n1,n2,rfl,e0,hz⟩:=N3 e2;cases e0;cases rt.int_inv;have fin:∀m:Int,z=.int m->Cz (.ref b) y (.int m) H2 λH6=>D.nx σ H6:=λm hm=>by subst hm;exact Db p2.hp (.ref b) ry (.int m) e3 λH3 k3 g3=>c.nx env σ _ _ ((k1.trans k2).trans k3) g3 (p2.en.keep k3) q4
  rcases hz with⟨eo,hz⟩|⟨eo,hz⟩
  .exact⟨n1,k,rfl,rfl,.inl ⟨eo,fin _ hz⟩⟩
  .exact⟨n1,k,rfl,rfl,.inr ⟨eo,fin _ hz⟩⟩
def F8(t v:Expr)(p:Pos)(env:Env)(h:(∃a b q,t=.Subscript a b q)\/(∃a b q,t=.Attribute a b q)):ϙ [t] v env=pure fb:=by rcases h with⟨a,b,q,rfl⟩|⟨a,b,q,rfl⟩<;>rfl
variable {a:gF.E} {x:Expr}
def Fh{t:Option Expr}{l:Nat}{env:Env}(h:(!Ub a)=fc):Ţ (toX a c x) t l env=pure fe:=by
 cases a with
 |comp õ m p it tt e=>cases h
 |_=>rfl
def EH{tg:Expr}(h:∀y q,tg≠.Name y q):swT c tg (toX a c x)=fe:=by
 cases a with
 |comp õ m p it tt e =>
  cases tg with
  |Name y q=>exact gM rfl<|h y q
  |_=>rfl
 |_=>rfl
def Pw(g:Gs X i P n c){p:gF.Pt}(hc:(Zz p||c.cm)=fc)(h:okP p c=fc):PG X (toP p c x)<|gPt i p:=by
 by_cases df:c.cm=fc
 .exact U4 g df h
 .cases p with
  |one j =>let⟨h1,h2,h3⟩:=g.nm1 h;exact O5 (by rw[g.N];exact g.nd) h1 h2 h3
  |many js=>exact gM hc df
  |nest j js=>exact gM hc df
def HC(Y:Cx)(H:Hp):XW Y<|XK1 i H λ_ _=>False:=λ_ _ _ _ _ _ _ _ _ _ ⟨_,_,_,_,_,_,_,z⟩=>z.elim
def Ij(Y:Cx)(H:Hp):XW Y<|XKS i H λ_ _ _=>False:=λ_ _ _ _ _ _ _ _ _ _ ⟨_,_,_,_,_,_,_,_,z⟩=>z.elim
variable {Φ:gF.Fs} {e:Expr} {es:List Expr} {ms:gF.Es} {ç:Pos}
def Ce{C:String}{a:Ë}{k:Nat}{np Ő:Pos}(hc:X.calm=fc)(O:PyProof.Rows.OwnCls (gO C) a [.type "ValueError",.type "Exception",.type "BaseException",.type "object"] "ValueError.__new__" X.mg X.base)(hx:i.xc C a)(hg:Gl X<|gO C)
  (ha:PA X (e::es)<|tAr X i Φ ms k) (hk:k<=1000) (Ϯ:(gO C==("__debug__" : Str))=fe) (he:Ï (e::es) X.env=(fe,eval e X.env)::Ï es X.env) (hpl:(Ď Ő<|Ï es X.env).any (·.1)=fe) :
  PS X (.Raise (eZ<|.Call (.Name (gO C) np) (e::es) [] Ő) fb ç) (tSt X i Φ<|.raise C ms):=by
 intro Á s σ H D I ⟨env,G,N,R,B,Cq,Xe,p,w,_⟩;rw[gF.q_s_raise]at w;refine DU (E:=XK1 i H<|Xe env) p.pre.xo hc O hg ha Ϯ he hpl Á s σ H D I ⟨env,G,_,Xe env,p.pre,w,λvs G1 H1 xs k1 g1 r1 hl w1=>⟨?_,C,G1,a,rfl,hx,k1,g1,w1⟩⟩;rw[hl];unfold Ö;lia
abbrev tB0(i:Inf)(Φ:gF.Fs)(m:gF.Ss):TS:=λD σ H=>∃env G N R B C,REn i.K H env σ/\RH i G H/\gF.wSs Φ m env G N R B C (λ_ _ _=>False)/\EOk i H D N R B C
def QK{Y:Cx}{sts:List Į}{m:gF.Ss}(h:PSs Y sts<|tBl Y i Φ m):PSs Y sts (tB0 i Φ m) :=
 h.imp λD σ H ⟨env,G,N,R,B,C,e,g,w,q⟩=>⟨env,G,N,R,B,C,_,⟨e,g,Ij Y H⟩,w,q⟩
variable {H:Hp} {σ:St}
def REn.unset{K:Frag}{env:gF.Env}(r:REn K H env σ)(j:Nat):REn K H (env.set j fb)<|σ.set j fb:=⟨by simp[r.len],λi u e=>by
  by_cases hij:j=i
  . subst hij
    rw[ώ]at e
    cases z:env[j]? with
    |none=>rw[z]at e;cases e
    |some w=>rw[z]at e;cases e
  . rw[ĵ hij]at e
    let⟨y,h1,h2⟩:=r.get i u e
    exact⟨y,by rw[ĵ hij];exact h1,h2⟩⟩
abbrev tCx(i:Inf)(Φ:gF.Fs)(m:gF.E):St->Hp->VK->XK->Prop:=λσ H Q E=>∃env G Qm Em,REn i.K H env σ/\RH i G H/\gF.wC Φ m env G Qm Em/\Cn i H Q Qm/\∀cls d H',XK1 i H Em cls d H'->E cls d H'
def Hr{f:String}{k:Nat}{p:Pos}(hK:X.K=i.K)(D:Dfo X.prog X.w X.mg X.base i P n f)(hr:fN (2*n) X.A)(hg:Gl X<|gO f)(Ϯ:(gO f==("__debug__" : Str))=fe)
  (ha:PA X.nox (e::es)<|tAr X.nox i (gF.wF P n) ms k) (he:Ï (e::es) X.env=(fe,eval e X.env)::Ï es X.env) (hpl:(Ď ç<|Ï es X.env).any (·.1)=fe) :
  PCx X (.Call (.Name (gO f) p) (e::es) [] ç) (tCx i (gF.wF P n)<|.call f ms):=by
 let⟨fa,fd,ps,F,hm,hk,hb⟩:=D;rw[<-hK]at F hk hb;intro Á s σ H Q E I ⟨env,G,Qm,Em,en,g,w,cn,x⟩;refine GF ⟨fa,fd,F,hm,hk,hb⟩ hr (Ñ _) hg ha Ϯ he hpl Á s σ H Q E I ?_;exact⟨env,G,_,λ_ _=>False,⟨en,g,HC X.nox H⟩,w,λvs G1 H1 xs k1 g1 r1 hl w1=>⟨vs,G1,Qm,Em,r1,g1,w1,cn.go k1,λcls d H' h=>x cls d H'<|h.go k1⟩⟩
def Hc{k:Nat}{Cn m:String}{C f:Ë}{o:Expr}{mo:gF.E}{Ł:Pos}{pl:Sem Bool}(hK:X.K=i.K)(hfn:∀c,i.cl Cn c->c=C)(A:Cls i.K C)(M:Meth i.K C (gO m) f)(D:Dfm X.prog X.w X.mg X.base i P n (Cn ++ "." ++ m) f)(hr:fN (2*n) X.A)
  (ho:PE X.nox o<|tE X.nox i (gF.wF P n) mo) (ha:PA X.nox (e::es)<|tAr X.nox i (gF.wF P n) ms k) (he:Ï (e::es) X.env=(fe,eval e X.env)::Ï es X.env) (hpl:(Ď ç<|Ï es X.env).any (·.1)=fe)
  (ht:eval (.Call (.Attribute o (gO m) Ł) (e::es) [] ç) X.env=(do
    let ov<-eval o X.env
    ψ Ł.atName
    let (f,first)<-Ŋ [ov] (ρ ov (gO m) pl)
    af ç f first (Ď ç<|Ï (e::es) X.env) (Ŭ ç<|ĺ [] X.env))) :
  PCx X (.Call (.Attribute o (gO m) Ł) (e::es) [] ç) (tCx i (gF.wF P n)<|.meth Cn m mo ms):=by
 let⟨fd,ps,F,hb⟩:=D;rw[<-hK]at F hb M A;intro Á s σ H Q E I ⟨env,G,Qm,Em,en,g,w,cn,x⟩;refine CQ ho A M F hr hb ha he hpl ht Á s σ H Q E I<|one ⟨en,g,HC X.nox H⟩ w λv G1 H1 y k1 p1 rv q=>?_;let⟨hq,w1⟩:=q;let⟨a,fs,rfl,e2,e3⟩:=WE hq;cases rv.ref_inv;let⟨c',dx,cj,hi,hc,h1,rf⟩:=p1.hp a _ e2;cases hfn c' hc;refine⟨a,dx,cj,rfl,h1,rf.look.2 e3,env,G1,_,λ_ _=>False,p1,w1,λvs G2 H2 xs k2 g2 r2 hl w2=>?_⟩;exact⟨.ref a::vs,G2,Qm,Em,.cons (.ref a) r2,g2,w2,(cn.go k1).go k2,λcls d H' h=>x cls d H'<|(h.go k2).go k1⟩
def Dr{m:gF.E}{t:Option Nat}{hs:gF.Hn}{D:Ends}{E:XK}{env:gF.Env}{G:gF.Hs}{N:gF.NQ}{R:gF.Q1}{B C:gF.NQ}{nx:V->St}(en:REn i.K H env σ)(g:RH i G H)
  (w:gF.wC Φ m env G (λv h1=>N (gF.tryEnv env t v) h1) λc g=>gF.wH Φ hs c env g N R B C) (q:EOk i H D N R B C)
  (hn:∀v x H',fH H H'->RV i.K H' v x->REn i.K H' (gF.tryEnv env t v) (nx x))
  (hx:∀Cn ad G' H',i.xc Cn ad->fH H H'->RH i G' H'->gF.wH Φ hs Cn env G' N R B C->E (.ref ad) fb H') (hd:∀cls d H',E cls fb H'->E cls d H') :
  tCx i Φ m σ H (λv H'=>D.nx (nx v) H') E:=by
 refine⟨env,G,_,_,en,g,w,λv G' H' x k g' r h=>q.nx _ _ G' H' k g' (hn v x H' k r) h,λcls d H' ⟨Cn,G',ad,e,hc,k,g',h⟩=>?_⟩;subst e;exact hd _ d H'<|hx Cn ad G' H' hc k g' h
variable {m:gF.E} {Da:Ë} {b:gF.Ss} {body:Į} {b0:Į} {Ϧ:List Į} {tp:Pos} {dJ:Pos} {nx:St->V->St}
def L7{t:Option Nat}{K:String}(ō:X.stack=X.env::X.outer)(hK:X.K=i.K)(hb:PB X [body] λD E σ H=>tCx i Φ m σ H (λv H'=>D.nx (nx σ v) H') E)
  (hn:∀H env σ v x,REn i.K H env σ->RV i.K H v x->REn i.K H (gF.tryEnv env t v) (nx σ x)) (hg:Gl X<|gO K) (hm:X.mg (gO K)=eZ (.ref Da)) (hx:∀C a,i.xc C a->gF.gm C K=fc->PySem.W.exmOne i.K (.ref a) (.ref Da)=eZ fc)
  (hs:∀a,PSs (X.caught a) (b0::Ϧ)<|tB0 i Φ b) (Ϯ:(gO K==("__debug__" : Str))=fe) :
  PS X (.Try [body] [.ExceptHandler (eZ<|.Name (gO K) tp) fb (b0::Ϧ) dJ] [] [] ç) (tSt X i Φ<|.try t m (.cons K fb b .nil)) :=
 (Fc ō hb hg hm hs Ϯ).imp λD σ H ⟨env,G,N,R,B,C,Xe,p,w,q⟩=>by
  rw[gF.q_s_try]at w;refine Dr (nx:=nx σ) p.en p.hp w q (λv x H' k r=>hn H' env σ v x (p.en.keep k) r) (λCn ad G' H' hc k g' h=>?_) λcls d H' z=>z;rw[gF.q_h_none]at h;by_cases e:gF.gm Cn K=fc
  .rw[gG e]at h;rw[hK];refine⟨hx Cn ad hc e,λa ha=>⟨env,G',N,R,B,C,?_,X7 g' ha,h,(q.go k).go<|fH.new ha⟩⟩;exact(p.en.keep k).keep<|fH.new ha
  .rw[gH e,gF.q_h_nil]at h;exact h.elim
def Gu{t:Option Nat}{K:String}{j:Nat}{y:Str}(ō:X.stack=X.env::X.outer)(hN:X.N.Nodup)(hj:X.N[j]?=eZ y)(hy:X.env.scope.names.lookup y=eZ .local)(hK:X.K=i.K)(hb:PB X [body] λD E σ H=>tCx i Φ m σ H (λv H'=>D.nx (nx σ v) H') E)
  (hn:∀H env σ v x,REn i.K H env σ->RV i.K H v x->REn i.K H (gF.tryEnv env t v) (nx σ x)) (hg:Gl X<|gO K) (hm:X.mg (gO K)=eZ (.ref Da)) (hx:∀C a,i.xc C a->gF.gm C K=fc->PySem.W.exmOne i.K (.ref a) (.ref Da)=eZ fc)
  (hs:∀a,PSs (X.caught a) (b0::Ϧ)<|tB0 i Φ b) (Ϯ:(gO K==("__debug__" : Str))=fe) :
  PS X (.Try [body] [.ExceptHandler (eZ<|.Name (gO K) tp) (eZ y) (b0::Ϧ) dJ] [] [] ç) (tSt X i Φ<|.try t m (.cons K (eZ j) b .nil)) :=
 (Lo ō hN hj hy hb hg hm hs Ϯ).imp λD σ H ⟨env,G,N,R,B,C,Xe,p,w,q⟩=>by
  rw[gF.q_s_try]at w;refine Dr (nx:=nx σ) p.en p.hp w q (λv x H' k r=>hn H' env σ v x (p.en.keep k) r) (λCn ad G' H' hc k g' h=>?_) λcls d H' z=>z;rw[gF.q_h_some]at h;by_cases e:gF.gm Cn K=fc
  .rw[gG e]at h;rw[hK];refine⟨hx Cn ad hc e,λa ha=>?_⟩;have k2:fH H'<|upd H' a<|xcO a<|.ref ad:=fH.new ha;refine⟨_,_,_,R,_,_,((p.en.keep k).keep k2).set (.ref a) j,g'.put (o:=.exc Cn) k2 ⟨ad,hc,fh⟩,h a<|g'.free ha,⟨?_,?_,?_,?_⟩⟩
   .exact λŜ Ū G2 H2 k3 g3 r3 n3=>q.nx _ _ G2 H2 ((k.trans k2).trans k3) g3 (r3.unset j) n3
   .exact λv G2 H2 x k3 g3 r3 n3=>q.rt v G2 H2 x ((k.trans k2).trans k3) g3 r3 n3
   .exact λŜ Ū G2 H2 k3 g3 r3 n3=>q.bk _ _ G2 H2 ((k.trans k2).trans k3) g3 (r3.unset j) n3
   .exact λŜ Ū G2 H2 k3 g3 r3 n3=>q.ct _ _ G2 H2 ((k.trans k2).trans k3) g3 (r3.unset j) n3
  .rw[gH e,gF.q_h_nil]at h;exact h.elim
def Gd.nox(g:Gd X i P n c):Gd X.nox i P n c :=
 ⟨g.K,g.N,g.sc,g.nd,g.un,g.calm,g.room,g.bl,g.dfs,g.cst,⟨g.kl.A,g.kl.F,g.kl.mkc,g.kl.mth⟩,λh=>⟨(g.xl h).xc,(g.xl h).rs,(g.xl h).kn⟩⟩
def Gs.hot(g:Gs X i P n c)(a:Ë):Gs (X.caught a) i P n c.hot :=
 {K:=g.K,N:=g.N,sc:=g.sc,nd:=g.nd,un:=g.un,calm:=λz=>(by cases z),room:=λz=>(by cases z),bl:=g.bl,dfs:=g.dfs,cst:=g.cst,kl:=⟨g.kl.A,g.kl.F,g.kl.mkc,g.kl.mth⟩,xl:=λh=>⟨(g.xl h).xc,(g.xl h).rs,(g.xl h).kn⟩,fn:=g.fn,own:=λz=>(by cases z),stk:=λz=>(by cases z)}
def Lq(g:Gs X i P n c){t:Option Nat}{y:Į}(df:c.cm=fc)(h:ED m c (ke y 0)=fc)(ht:CP c t=fc) :
  ∃nx:St->V->St,PB X [Lh t m c y] (λD E σ H=>tCx i (gF.wF P n) m σ H (λv H'=>D.nx (nx σ v) H') E)/\∀H env σ v x,REn i.K H env σ->RV i.K H v x->REn i.K H (gF.tryEnv env t v) (nx σ x):=by
 cases m with
 |call f as =>
  have h:((c.gl (gO f)&&nm (gO f))&&c.fs.contains f&&gN (Zb as≠0)&&okA as c (sub<|ke y 0).tail)=fc:=h;rw[bAq,bAq,bAq,bAq,gL]at h;let⟨⟨⟨⟨h1,h2⟩,h3⟩,h4⟩,h5⟩:=h;cases as with
  |nil=>exact gM rfl h4
  |cons a as =>
   have hc:PCx X (toX (.call f<|.cons a as) c<|ke y 0)<|tCx i (gF.wF P n)<|.call f<|.cons a as:=Hr g.K (g.dfs _ h3) (g.rm df) (g.gl h1) (XY h2).1 (eA (.cons a as) X.nox c _ g.toGd.nox h5) (Zu ..)<|ZN ..;cases t with
   |none=>exact⟨λσ _=>σ,U6 hc rfl,λH env σ v x e _=>e⟩
   |some j =>let⟨q1,q2,q3⟩:=g.nm1 ht;exact⟨λσ v=>σ.set j<|eZ v,C7 (by rw[g.N];exact g.nd) q1 q2 hc rfl q3,λH env σ v x e r=>e.set r j⟩
 |meth C m o as =>
  have h:(c.ms.contains (C,m)&&okE o c (kid (kid (ke y 0) 0) 0)&&Yh (toX o c<|kid (kid (ke y 0) 0) 0)&&((kid (ke y 0) 0).pos.endLine==(ke y 0).pos.line)&&gN (Zb as<20)&&gN (Zb as≠0)&&okA as c (sub<|ke y 0).tail)=fc:=h;rw[bAq,bAq,bAq,bAq,bAq,bAq,gL,gL]at h;let⟨⟨⟨⟨⟨⟨h1,h3⟩,h4⟩,h6⟩,h7⟩,h8⟩,h5⟩:=h;cases as with
  |nil=>exact gM rfl h8
  |cons b as =>
   have ev:=UR (m:=gO m) (Ye h4 _ X.env) (Dc X.env (ke y 0).pos (c:=c) (xs:=(sub<|ke y 0).tail) h7) h6;let⟨a,f,i1,A,M,D⟩:=g.kl.mth C m h1;have hc:PCx X (toX (.meth C m o<|.cons b as) c<|ke y 0)<|tCx i (gF.wF P n)<|.meth C m o<|.cons b as:=Hc g.K i1 A M D (g.rm df) (eE o X.nox c _ g.toGd.nox h3) (eA (.cons b as) X.nox c _ g.toGd.nox h5) (Zu ..) (ZN ..) ev;cases t with
   |none=>exact⟨λσ _=>σ,U6 hc rfl,λH env σ v x e _=>e⟩
   |some j =>let⟨q1,q2,q3⟩:=g.nm1 ht;exact⟨λσ v=>σ.set j<|eZ v,C7 (by rw[g.N];exact g.nd) q1 q2 hc rfl q3,λH env σ v x e r=>e.set r j⟩
 |_=>cases h
def Fd(h:UJ b=fc)(c:Md)(xs:List Į):∃y ys,toSs b c xs=y::ys:=by
 cases b with
 |nil=>cases h
 |cons s ss=>exact⟨_,_,rfl⟩
mutual
theorem sS:∀(m:gF.S) (X:Cx) (c:Md) (s:Į),Gs X i P n c->okS m c s=fc->PS X (toS m c s) (tSt X i (gF.wF P n) m)
 |.set p a,X,c,s,g,h=>by
  have h:(okP p c&&okE a c (ke s 0)&&(Zz p || !CI a)&&(Zz p||c.cm))=fc:=h;rw[bAq,bAq,bAq]at h;let⟨⟨⟨h1,h2⟩,h3⟩,h4⟩:=h;by_cases hsw:swT c (toP p c<|ke s 1) (toX a c<|ke s 0)=fc
  .obtain⟨õ,k,pt,it,tt,e,rfl⟩:=IG hsw;cases p with
   |one j =>let⟨q1,q2,q3⟩:=g.nm1 h1;exact(BI g.toGd h2).2 _ _ _ j q1 q2 q3 (by rw[<-hsw];exact Ji (c:=c) (.comp õ k pt it tt e) (ke s 0) g.sc)
   |many js=>cases hsw
   |nest j js=>cases hsw
  .have hp:PG X (toP p c<|ke s 1)<|gPt i p:=Pw g h4 h1;exact Pk (eE a X c _ g.toGd h2) hp (by rw[Ϙ,Ji a _ g.sc,az.mpr hsw]) (Pa p a _ _ _ h3)<|Ep p _ _
 |.setIdx a j e,X,c,s,g,h=>by have h:(okE e c (ke s 0)&&okE a c (kid (ke s 1) 0)&&okE j c (kid (ke s 1) 1))=fc:=h;rw[bAq,bAq]at h;have ha:=eE a X c _ g.toGd h.1.2;have hj:=eE j X c _ g.toGd h.2;exact BE g.K (eE e X c _ g.toGd h.1.1) ha hj (IH ha hj (PSet.or Nu<|NN (by have:=g.un;lia))<|FL j) (by rw[Ϙ,Ji e _ g.sc,EH λy q z=>(by cases z)]) (F8 _ _ (ke s 1).pos _<|.inl ⟨_,_,_,rfl⟩) rfl
 |.setPair a j b k e,X,c,s,g,h=>nomatch h
 |.setFld o f e,X,c,s,g,h=>by have h:(c.fl.contains f&&okE o c (kid (ke s 1) 0)&&okE e c (ke s 0))=fc:=h;rw[bAq,bAq]at h;exact AG g.K g.kl.A (g.kl.F _ h.1.1) (eE o X c _ g.toGd h.1.2) (eE e X c _ g.toGd h.2) (by rw[Ji e _ g.sc,EH λy q z=>(by cases z)])
 |.augVar j op e,X,c,s,g,h=>nomatch h
 |.augFld o f op k,X,c,s,g,h=>by have h:(c.fl.contains f&&okE o c (kid (ke s 1) 0)&&Bt op)=fc:=h;rw[bAq,bAq]at h;exact AF g.K g.kl.A (g.kl.F _ h.1.1) (HD h.2)<|eE o X c _ g.toGd h.1.2
 |.expr e,X,c,s,g,h=>by have h:(okE e c (ke s 0) && !Ub e)=fc:=h;rw[bAq]at h;exact GL (eE e X c _ g.toGd h.1)<|Fh h.2
 |.ret e,X,c,s,g,h=>Iw<|eE e X c _ g.toGd h
 |.retN,X,c,s,g,h=>Hk
 |.ite t a b,X,c,s,g,h=>by have h:(okT t c (ke s 0)&&okSs a c (stB s)&&okSs b c (stO s))=fc:=h;rw[bAq,bAq]at h;exact L8 (eT t X c _ g.toGd h.1.1).1 (sSs a X c _ g h.1.2)<|sSs b X c _ g h.2
 |.whl t b,X,c,s,g,h=>nomatch h
 |.for p it b,X,c,s,g,h=>by have h:(okP p c&&okI it c (ke s 1) (!Zz p)&&okSs b c (stB s)&&c.cm)=fc:=h;rw[bAq,bAq,bAq]at h;let⟨⟨⟨h1,h2⟩,h3⟩,h4⟩:=h;let⟨t1,t2⟩:=MN (c:=c) p<|ke s 0;let⟨a1,a2⟩:=eI it X c (ke s 1) (toP p c<|ke s 0) g.toGd (!Zz p) t1 t2 h2;exact Lg (g.own h4) (g.calm h4) a1 (U4 g h4 h1) (sSs b X c _ g h3) a2
 |.forI fc p e b,X,c,s,g,h=>by have h:(okP p c&&HZ e&&okE e c (ke s 1)&&okSs b c (stB s)&&c.cm)=fc:=h;rw[bAq,bAq,bAq,bAq]at h;let⟨⟨⟨⟨h1,h2⟩,h3⟩,h6⟩,h7⟩:=h;refine Gr (g.own h7) (g.calm h7) (eE e X c _ g.toGd h3) (U4 g h7 h1) (sSs b X c _ g h6) λ_=>?_;cases e<;>first|rfl|cases h2
 |.forI fe p e b,X,c,s,g,h=>by have h:(okP p c && !Zz p&&okE e c (kid (kid (ke s 1) 0) 0)&&Yh (toX e c<|kid (kid (ke s 1) 0) 0)&&((kid (ke s 1) 0).pos.endLine==(ke s 1).pos.line)&&okSs b c (stB s)&&c.cm)=fc:=h;rw[bAq,bAq,bAq,bAq,bAq,bAq]at h;let⟨⟨⟨⟨⟨⟨h1,h2⟩,h3⟩,h4⟩,h5⟩,h6⟩,h7⟩:=h;let⟨es,k,q,et⟩:=(MN (c:=c) p<|ke s 0).1 h2;have hg:=U4 (x:=ke s 0) g h7 h1;show PS X (.For (toP p c<|ke s 0) _ _ _ _) _;rw[et]at hg ⊢;exact E3 (g.own h7) (g.calm h7) (eE e X c _ g.toGd h3) hg (sSs b X c _ g h6) (Ye h4 _ _) h5 λ_=>rfl
 |.never,X,c,s,g,h=>D6
 |.brk,X,c,s,g,h=>nomatch h
 |.cnt,X,c,s,g,h=>nomatch h
 |.pass,X,c,s,g,h=>nomatch h
 |.raise C as,X,c,s,g,h=>by
  have h:((c.gl (gO C)&&nm (gO C))&&c.xs.contains C&&c.cm&&gN (Zb as≠0)&&gN (Zb as<=1000)&&okA as c (sub<|ke s 0).tail)=fc:=h;rw[bAq,bAq,bAq,bAq,bAq,bAq,gL,gL]at h;let⟨⟨⟨⟨⟨⟨h1,h2⟩,h3⟩,h4⟩,h5⟩,h6⟩,h7⟩:=h;let⟨a,hx,O⟩:=(g.xl<|by intro z;rw[z]at h3;cases h3).rs C h3;have ha:=eA as X c _ g.toGd h7;cases as with
  |nil=>exact gM rfl h5
  |cons b as=>exact Ce (g.calm h4) O hx (g.gl h1) ha (by rw[Xw];exact h6) (XY h2).1 (Zu ..)<|ZN ..
 |.try t e (.cons K nm b .nil),X,c,s,g,h=>by
  have h:(ED e c (ke ((stB s).headD dS) 0)&&CP c t&&((c.xs.contains K||K == "ShutError")&&(c.gl (gO K)&&Snd.nm (gO K)) && !c.xs.isEmpty&&LU c nm&&UJ b&&okSs b c.hot (hB<|(stH s).headD dH)&&fc)&&c.cm)=fc:=h;simp only[bAq]at h;let⟨⟨⟨h1,h2⟩,⟨⟨⟨⟨⟨h3,h4,h5⟩,h6⟩,h7⟩,h8⟩,h9⟩,_⟩,h10⟩:=h;let⟨nx,hb,hn⟩:=Lq g h10 h1 h2;let⟨Da,hm,hk⟩:=(g.xl<|by intro z;rw[z]at h6;cases h6).kn K h3;let⟨y0,ys,e0⟩:=Fd h8 c.hot<|hB<|(stH s).headD dH;have hs:∀a,PSs (X.caught a) (y0::ys) (tB0 i (gF.wF P n) b):=λa=>by rw[<-e0];exact QK<|sSs b (X.caught a) c.hot _ (g.hot a) h9
  show PS X (.Try [Lh t e c<|(stB s).headD dS] [.ExceptHandler (eZ<|.Name (gO K) (hT<|(stH s).headD dH).pos) (nm.map c.nmOf) (toSs b c.hot<|hB<|(stH s).headD dH)<|hP<|(stH s).headD dH] [] [] s.pos) _;rw[e0];cases nm with
  |none=>exact L7 (g.stk h10) g.K hb hn (g.gl h4) hm (λC a z=>(hk C a z).2) hs (XY h5).1
  |some j =>have h7:(gN (j<c.N.length)&&c.sc.names.lookup (c.nmOf j)==eZ .local)=fc:=h7;rw[bAq,gL]at h7;exact Gu (g.stk h10) (by rw[g.N];exact g.nd) (OZ g.N h7.1) (by rw[g.sc];exact eq_of_beq h7.2) g.K hb hn (g.gl h4) hm (λC a z=>(hk C a z).2) hs (XY h5).1
 |.try t e (.cons K nm b<|.cons _ _ _ _),X,c,s,g,h=>by have h:(ED e c (ke ((stB s).headD dS) 0)&&CP c t&&((c.xs.contains K||K == "ShutError")&&c.gn K && !c.xs.isEmpty&&LU c nm&&UJ b&&okSs b c.hot (hB<|(stH s).headD dH)&&fe)&&c.cm)=fc:=h;rw[Ž,Ž,Δ]at h;cases h
 |.try t e .nil,X,c,s,g,h=>by have h:(ED e c (ke ((stB s).headD dS) 0)&&CP c t&&fe&&c.cm)=fc:=h;rw[Ž,Δ]at h;cases h
 |.augIdx a j op k,X,c,s,g,h=>by have h:(okE a c (kid (ke s 1) 0)&&okE j c (kid (ke s 1) 1)&&Bt op)=fc:=h;rw[bAq,bAq]at h;exact AU g.K (by have:=g.un;lia) h.2 (eE a X c _ g.toGd h.1.1) (eE j X c _ g.toGd h.1.2)<|L4 j _
theorem sSs:∀(ms:gF.Ss) (X:Cx) (c:Md) (xs:List Į),Gs X i P n c->okSs ms c xs=fc->PSs X (toSs ms c xs) (tBl X i (gF.wF P n) ms)
 |.nil,X,c,xs,g,h=>LE
 |.cons m ms,X,c,xs,g,h=>by have h:(okS m c (xs.headD dS)&&okSs ms c xs.tail)=fc:=h;rw[bAq]at h;exact GM (sS m X c _ g h.1)<|sSs ms X c _ g h.2
end
abbrev OV(N ps:List Str)(sc:ξ):Bool :=
 sc.kind == .function && !sc.isCoroutine && !sc.isGenerator&&decide N.Nodup&&(N.take ps.length==ps)&&ps.all (λx=>sc.names.lookup x==eZ .local||sc.names.lookup x==eZ .cell)&&sc.names.all λy=>y.2 != .free
variable {ps:List Str}
def Sd{N:List Str}{sc:ξ}(h:OV N ps sc=fc):FnScope N ps sc:=by
 simp only[OV,bAq,Ō,gL,ý]at h;let⟨⟨⟨⟨⟨⟨h1,h2⟩,h3⟩,h4⟩,h5⟩,h6⟩,h7⟩:=h;refine⟨eq_of_beq h1,h2,h3,h4,eq_of_beq h5,λx hx=>?_,λy hy=>?_⟩
 .simpa using h6 x hx
 .simpa using h7 y hy
structure Ds where
 st:Į
 N:List Str
 ps:List Str
 d:gF.Fn
structure Mt where
 C:String
 m:String
 qual:String
 x:Ds
structure Tb where
 fs:List<|String×Ds
 ms:List Mt
 cs:List<|String×gF.Val
 cl:List String
 fl:List String
 xs:List String
abbrev Tb.md(T:Tb)(x:Ds):Md:={N:=x.N,sc:=Zv x.st,cs:=T.cs,fs:=T.fs.map (·.1),cm:=fc,cl:=T.cl,ms:=T.ms.map λy=>(y.C,y.m),fl:=T.fl,xs:=T.xs}
abbrev Ds.test(T:Tb)(x:Ds):Bool :=
 OV x.N x.ps (Zv x.st)&&okSs x.d.body (T.md x) (ZO x.st)&&x.ps.length==x.d.ar&&x.N.length==x.d.sz&&gN (x.d.ar<=x.d.sz)
structure Ds.Ok(T:Tb)(x:Ds):Prop where
 ok:x.test T=fc
 eq:toSs x.d.body (T.md x) (ZO x.st)=ZO x.st
variable {pr:ä}{wd:ö}{mg:Str->Option Â}{base:Ć}{i:Inf}{P:gF.Pg}{T:Tb}
abbrev Dst(K:Frag)(mg:Str->Option Â)(f:String)(x:Ds):Prop:=∃fa fd qual,Fun K (gO f) qual x.st fa fd/\mg (gO f)=eZ (.ref fa)/\Binds K fd x.ps []
structure Mst(i:Inf)(mg:Str->Option Â)(y:Mt)(a fa:Ë):Prop where
 cl:mg (gO y.C)=eZ (.ref a)
 fn:∃fd,Fun i.K (gO y.m) (gO y.qual) y.x.st fa fd/\Binds i.K fd y.x.ps []
 at_:Meth i.K a (gO y.m) fa
variable {f:String} {fa:Ë} {fd:Ň}
def Uu:fO pr wd i.K mg base (CX1 pr wd) 0 fa fd ps<|spF i P 0 f:=by
 refine⟨λvs H Q E h=>?_,λA outer s H args us vs Q E hr he hb hv h=>?_⟩
 .obtain⟨_,_,_,_,_,_,w,_⟩:=h;rw[gF.wF_eq]at w;exact w.elim
 .obtain⟨_,_,_,_,_,_,w,_⟩:=h;rw[gF.wF_eq]at w;exact w.elim
variable {n:Nat}
def Cc{vs:List gF.Val}{h:gF.Hs}{Q:gF.Q1}{E:gF.XQ}(q:gF.wF P (n+1) f vs h Q E):∃d,P f=eZ d/\vs.length=d.ar/\gF.wSs (gF.wF P n) d.body (d.env vs) h (λ_ g=>Q .non g) Q (λ_ _=>False) (λ_ _=>False) λ_ c g=>E c g:=by rw[gF.wF_eq]at q;let⟨d,e,q1,q2⟩:=fj q;exact⟨d,e,q1,by rw[gF.wF_eq];exact q2⟩
structure Modu(mg:Str->Option Â)(base:Ć)(i:Inf)(T:Tb):Prop where
 bl:∀x∈blts,mg x=fb
 cst:∀x v,T.cs.lookup x=eZ v->∃u y,mg (gO x)=eZ u/\RelV y u/\∀H,RV i.K H v y
 A:ClsA i
 F:∀f,T.fl.contains f=fc->FldOk i f
 cl:∀C a,i.cl C a->mg (gO C)=eZ (.ref a)
 mkc:∀C,T.cl.contains C=fc->∃a y f,i.ins C=fc/\i.cl C a/\Mk i.K a f/\y∈T.ms/\y.C=C/\y.m = "__init__"/\Mst i mg y a f
 fs:∀f x,(f,x)∈T.fs->Dst i.K mg f x
 ms:∀y,y∈T.ms->∃a f,Mst i mg y a f/\Cls i.K a
 xc:T.xs≠[]->∀C a,i.xc C a->XCls i.K a/\PySem.W.kitOne i.K (.ref a) (.type "ValueError")=eZ fc
 rs:T.xs≠[]->∀C,T.xs.contains C=fc->∃a,i.xc C a/\PyProof.Rows.OwnCls (gO C) a [.type "ValueError",.type "Exception",.type "BaseException",.type "object"] "ValueError.__new__" mg base
 kn:T.xs≠[]->∀T',(T.xs.contains T'||T' == "ShutError")=fc->∃D,mg (gO T')=eZ (.ref D)/\∀C a,i.xc C a->PySem.W.kitOne i.K (.ref a) (.ref D)=eZ (gF.gm C T')/\(gF.gm C T'=fc->PySem.W.exmOne i.K (.ref a) (.ref D)=eZ fc)
structure Held(pr:ä)(wd:ö)(mg:Str->Option Â)(base:Ć)(i:Inf)(P:gF.Pg)(T:Tb)(n:Nat):Prop where
 fs:∀f x,(f,x)∈T.fs->Dfo pr wd mg base i P n f
 ms:∀y a f,y∈T.ms->Mst i mg y a f->Dfm pr wd mg base i P n (y.C ++ "." ++ y.m) f
def fn_succ{x:Ds}{nm qual:Str}(M:Modu mg base i T)(hn:Held pr wd mg base i P T n)(F:Fun i.K nm qual x.st fa fd)(hP:P f=eZ x.d)(ht:x.Ok T):fO pr wd i.K mg base (CX1 pr wd) (2*(n+1)) fa fd x.ps<|spF i P (n+1) f:=by
 let⟨ht,heq⟩:=ht;simp only[Ds.test,bAq,gL]at ht;let⟨⟨⟨⟨h1,h2⟩,h3⟩,h4⟩,h5⟩:=ht;have h3:=eq_of_beq h3;have h4:=eq_of_beq h4;have S:=Sd h1;refine F.ok1 (k:=2*n+1) S (λvs H Q E h=>?_) λϯ A outer s H vs Q E hr hsp hw=>?_
 .obtain⟨args,G,Qm,Em,r,g,w,_⟩:=h;let⟨d,e,q,_⟩:=Cc w;rw[hP]at e;cases e;rw[<-r.length,q,h3]
 .obtain⟨args,G,Qm,Em,r,g,w,cn,ex⟩:=hsp;let⟨d,e,q,w⟩:=Cc w;rw[hP]at e;cases e;have gd:Gs (M9 (CX1 pr wd) pr wd i.K mg base x.N qual (Zv x.st) fa ϯ A outer s H E) i P n (T.md x) :=
   { K:=rfl,N:=rfl,sc:=rfl,nd:=S.nd,un:=(by have:=hr.un;show(A.deeper _).units+200<Ķ;lia),calm:=λ_=>rfl,room:=λ_=>hr,bl:=M.bl
     dfs:=λg hg=>(by
       let⟨p,hy,e⟩:=Û.mp<|ą.mp hg
       subst e
       exact hn.fs p.1 p.2 hy)
     cst:=M.cst
     kl:=⟨M.A,M.F,λC hC=>(by
       let⟨a,y,f,q1,q2,q3,q4,rfl,q6,q7⟩:=M.mkc C hC
       refine⟨a,f,q1,q2,q3,M.cl _ _ q2,?_⟩
       have:=hn.ms y a f q4 q7
       rw[q6]at this
       rwa [show y.C ++ ".__init__" = y.C ++ "." ++ "__init__" by rw[String.append_assoc];rfl]),λC m hC=>(by
       let⟨y,hy,e⟩:=Û.mp<|ą.mp hC
       cases e
       let⟨a,f,q1,q2⟩:=M.ms y hy
       refine⟨a,f,λb hb=>?_,q2,q1.at_,hn.ms y a f hy q1⟩
       have e1:=M.cl _ _ hb
       rw[q1.cl]at e1
       cases e1
       rfl)⟩
     xl:=λh=>⟨M.xc h,M.rs h,M.kn h⟩
     fn:=λ_ _=>.inl rfl
     own:=λ_=>PassesOwn.leaving
     stk:=λ_=>rfl }
  have hb:=sSs x.d.body _ _ _ gd h2;rw[heq]at hb;refine⟨_,hb,?_⟩;refine⟨x.d.env args,G,(λ_ g=>Qm .non g),Qm,(λ_ _=>False),(λ_ _=>False),(λ_ c g=>Em c g),?_,w,?_⟩
  .refine⟨?_,g,?_⟩
   .have:=REn.start (n:=x.d.sz - x.d.ar) r;unfold L2.start;have e1:x.N.length - vs.length=x.d.sz - x.d.ar:=by rw[h4,<-r.length,q]
    rw[e1];exact this
   .intro Á σ H0 s0 H' a cls s' I fl hx;let⟨e,c,G',ad,q1,q2,q3,q4,q5⟩:=hx;exact hw Á σ H0 s0 H' a cls s' I fl<|ex _ _ _ ⟨c,G',ad,q1,q2,q3,q4,q5⟩
  .refine⟨?_,?_,?_,?_⟩
   .intro Ŝ Ū G' H' k g' e w';exact cn .non G' H' .non k g' .non w'
   .intro v G' H' y k g' rv w';exact cn v G' H' y k g' rv w'
   .intro _ _ _ _ _ _ _ z;exact z.elim
   .intro _ _ _ _ _ _ _ z;exact z.elim
def held_all(M:Modu mg base i T)(hP:∀f x,(f,x)∈T.fs->P f=eZ x.d)(hPm:∀y,y∈T.ms->P (y.C ++ "." ++ y.m)=eZ y.x.d)(ht:∀f x,(f,x)∈T.fs->x.Ok T)(htm:∀y,y∈T.ms->y.x.Ok T):∀n,Held pr wd mg base i P T n:=by
 intro n;induction n with
 |zero =>
  refine⟨λf x h=>?_,λy a f hy S=>?_⟩
  .obtain⟨fa,fd,qual,F,hm,hb⟩:=M.fs f x h;exact⟨fa,fd,x.ps,Uu,hm,F.kp,hb⟩
  .obtain⟨fd,F,hb⟩:=S.fn;exact⟨fd,y.x.ps,Uu,hb⟩
 |succ n ih =>
  refine⟨λf x h=>?_,λy a f hy S=>?_⟩
  .obtain⟨fa,fd,qual,F,hm,hb⟩:=M.fs f x h;exact⟨fa,fd,x.ps,fn_succ M ih F (hP f x h)<|ht f x h,hm,F.kp,hb⟩
  .obtain⟨fd,F,hb⟩:=S.fn;exact⟨fd,y.x.ps,fn_succ M ih F (hPm y hy)<|htm y hy,hb⟩
end Snd
namespace Hd
open PySem PySem.W PyProof.Rows
abbrev WZ(st:SharedT->Thread->Option (SharedT×Thread))(ok th:Thread->Bool):Nat->SharedT->Thread->Option SharedT
 |0,_,_=>fb
 |n+1,s,t=>match th t with
  |true=>eZ s
  |false=>match ok t with
   |false=>fb
   |true=>match st s t with
    |some (s',t')=>WZ st ok th n s' t'
    |none=>fb
def Ju{tb:String->Option Builtin}{p:Program}{w:World}{n₀:Nat}{ann:Option Value}:∀{n:Nat}{s s':SharedT}{t:Thread},WZ (stepT (denote tb) p w) (stepOk n₀ ann) through n s t=eZ s'->topRun tb p w n₀ ann n s.abs t=eZ s'.abs
 |0,_,_,_,h=>by cases h
 |n+1,s,s',t,h=>by
  unfold WZ at h;unfold topRun;cases ht:through t with
  |true=>rw[ht]at h;cases h;rfl
  |false =>
   rw[ht]at h;dsimp only at h ⊢;cases hk:stepOk n₀ ann t with
   |false=>rw[hk]at h;cases h
   |true =>
    rw[hk]at h;dsimp only at h ⊢;cases hs:stepT (denote tb) p w s t with
    |none=>rw[hs]at h;cases h
    |some r =>let⟨s2,t2⟩:=r;rw[hs]at h;rw[stepT_spec hs];exact Ju h
abbrev Jr(P:Params):BT :=
 .node (boot_o_0 P) (.node (boot_o_1 P) (.node (boot_o_3 P) (.node (boot_o_7 P) .nil .nil) .nil)<|.node (boot_o_5 P) (.node (boot_o_9 P) .nil .nil) .nil)
  (.node (boot_o_2 P) (.node (boot_o_4 P) (.node (boot_o_8 P) .nil .nil) .nil)<|.node (boot_o_6 P) (.node (boot_o_10 P) .nil .nil) .nil)
def Cm(P:Params):absHeap (Jr P) 11 {}=boot_heap P:=by kernel_rfl
def Be(P:Params):((boot_heap P).isNs mainGlobals&&(Array.mk []:Array GenState).size==0,(boot_heap P).objs.size,(boot_heap P).nsMap mainGlobals "__annotations__")=(fc,11,eZ<|.ref 6):=by
 rw[show @Heap.nsMap=_ from Fast.te8920871248978507458]
 kernel_rfl
abbrev HS:=Fast.tw10156331382660048174
abbrev Ac:=Fast.tw11892475500146522536
abbrev Co:=Fast.tw14364793385576792824
abbrev okY:=Fast.tw6613529449190102663
abbrev seenY:=Fast.tw4187177175401517315
abbrev modsY:=Fast.tw5923862056798008813
abbrev runY(p:Program)(N:Nat)(w:World)(os:OsState):Option SharedT:=WZ (HS (Ac Co) p w) (okY 11<|eZ<|.ref 6) through N ⟨Jr w.params,11,{},Array.mk [],boot_drawn,boot_toks,os⟩<|topStub p
abbrev stY(p:Program)(w:World)(s:SharedT):Bool:=staticsOk (modsY p.main.body) (boot_heap w.params) s.abs.heap&&namesBound p s.abs.heap&&gensDone s.abs&&laidKept (boot_heap w.params) s.abs.heap
def left_of{p q:Program}{loose:List Str}{Xt:Shared->Bool}{α:Type}{Yf:Shared->α}{Ya:World->α}{N:Nat}(e:opening p=plainProg p.main.scope.names)(hN:Nat.ble 600 N=fc)(f:∀s,fenceModules? p s=eZ s)
  (one:∀w os,(runY p N w os).map (stY p w)=eZ fc) (two:∀w os,(runY p N w os).map (λs=>seenY q loose (modsY p.main.body) Xt fc s.abs)=eZ (openGood q loose)) (three:∀w os,(runY p N w os).map (λs=>Yf s.abs)=eZ (Ya w)) :
  LeftO p q loose Xt Yf Ya N:=by
 intro w;let⟨⟨h,gs,d,k,os⟩,e1,e2⟩:=Í.mp<|boot_open e hN f w;obtain⟨rfl,rfl,rfl,rfl⟩:h=boot_heap w.params/\gs=Array.mk []/\d=boot_drawn/\k=boot_toks:=⇑e2
 let⟨s,r,l1⟩:=Í.mp<|one w os;let⟨s',r',l2⟩:=Í.mp<|two w os;cases r.symm.trans r';let⟨s',r',l3⟩:=Í.mp<|three w os;cases r.symm.trans r';obtain⟨z1,z2,z3⟩:_/\_/\_:=by simpa only[Ο]using Be w.params
 unfold stY at l1;unfold runY HS Ac Co okY at r;rw[<-Fast.te10156331382660048174,<-Fast.te11892475500146522536,<-Fast.te14364793385576792824,<-Fast.te6613529449190102663]at r;unfold modsY at l1 l2;unfold seenY at l2;rw[<-Fast.te5923862056798008813]at l1 l2;rw[<-Fast.te4187177175401517315]at l2;have r2:=Ju r;have ea:(SharedT.mk (Jr w.params) 11 {} (Array.mk []) boot_drawn boot_toks os).abs=⟨boot_heap w.params,Array.mk [],boot_drawn,boot_toks,os⟩:=by show Shared.mk (absHeap _ _ _) _ _ _ _=_;rw[Cm]
 rw[ea]at r2;have t:topFrom treeTable p w N ⟨boot_heap w.params,Array.mk [],boot_drawn,boot_toks,os⟩=eZ s.abs:=by unfold topFrom;dsimp only;rw[z1,z2,z3,r2];show(match staticsOk (importedModules p.main.body) (boot_heap w.params) s.abs.heap&&namesBound p s.abs.heap&&gensDone s.abs&&laidKept (boot_heap w.params) s.abs.heap with|true=>_|false=>_)=_;rw[l1]
 unfold openEnds;rw[e1];show(topFrom treeTable p w N _).map _=_;rw[t];exact congrArg eZ<|Prod.ext l2 l3
end Hd
namespace Hd
open PySem PySem.W PyProof.Rows L2
abbrev Mg:Nat->List Obj->Frag
 |_,[]=>[]
 |i,o::r=>match o with
  |⟨_,_,.freed,_⟩=>Mg (i+1) r
  |o=>(i,o)::Mg (i+1) r
abbrev Zw(g:Heap):Frag:=Mg 0 g.objs.toList
def NH:∀(l:List Obj) (i a:Nat) (o:Obj),(Mg i l).lookup a=eZ o->i<=a/\l[a - i]?=eZ o/\(match eZ o with|some ⟨_,_,.freed,_⟩=>fb|o=>o)=eZ o
 |[],_,_,_,h=>by cases h
 |x::r,i,a,o,h=>by
  have rec1:(Mg (i+1) r).lookup a=eZ o->i<=a/\(x::r)[a - i]?=eZ o/\(match eZ o with|some ⟨_,_,.freed,_⟩=>fb|o=>o)=eZ o:=λq=>by let⟨h1,h2,h3⟩:=NH r (i+1) a o q;refine⟨by lia,?_,h3⟩;rw[show a - i=(a - (i+1))+1 by lia,cb];exact h2
  unfold Mg at h;split at h
  .exact rec1 h
  .rename_i c ŭ;rw[â]at h;split at h
   .rename_i e;cases h;have e:=eq_of_beq e;subst e;refine⟨Ñ _,by rw[Nat.sub_self];rfl,?_⟩;split
    .rename_i d1 d2 d3 d4;cases d4;exact(ŭ _ _ _ rfl).elim
    .rfl
   .exact rec1 h
def Ul{g:Heap}{a:Addr}{o:Obj}(h:(Zw g).lookup a=eZ o):g.get? a=eZ o:=by let⟨_,h2,h3⟩:=NH _ _ _ _ h;unfold Heap.get?;rw[cN,Ą]at h2;rw[h2];exact h3
abbrev CD(K:Frag)(nm:Str):Option<|FuncData×Bool×Bool:=match nsIn K mainGlobals nm with
 |some (eZ<|.ref f)=>match K.lookup f with
  |some ⟨_,_,.func fd,_⟩=>eZ ({fd with kwdefaults:=.none,doc:=.none,pyModule:=.none,annotations:=fb,code:=.none,closureTuple:=.none},codeIn K fd.code fd.qualname,keepIn K<|.ref f)
  |_=>fb
 |_=>fb
abbrev C5(nm:Str)(st:Stmt):Option<|FuncData×Bool×Bool:=eZ (fnOf nm nm (YL st) (ZO st) (Zv st) .none .none .none .none fb .none .none,fc,fc)
def LX{K:Frag}{nm:Str}{st:Stmt}(e:CD K nm=C5 nm st):∃fa fd,Fun K nm nm st fa fd/\nsIn K mainGlobals nm=eZ (eZ<|.ref fa):=by
 unfold CD at e;split at e
 .rename_i f hf;split at e
  .rename_i oc od fd sl hl;simp only[C5,Ĳ,Ο]at e;let⟨e1,e2,e3⟩:=e;let⟨n1,n2,n3,n4,n5,n6,n7,n8,n9,n10,n11,n12,n13,n14,n15⟩:=fd;simp only[fnOf,FuncData.mk.injEq]at e1;obtain⟨rfl,rfl,rfl,rfl,rfl,rfl,rfl,rfl,-,-,-,-,-,-,rfl⟩:=e1;exact⟨f,_,EZ hl e2 e3,hf⟩
  .cases e
 .cases e
abbrev HM(K:Frag)(y:Str):Bool:=match nsIn K mainGlobals y with
 |some fb=>fc
 |_=>fe
def GJ{l:OpenLaw}{n k:Nat}{q:Program}{loose:List Str}{XP:(Str->Option Value)->Heap->Prop}{YP:World->Heap->Prop}{d:DefRec}{CX:World->CXT}{x:Str}
  (hn:l.most=eZ n) (hn2:n<=sizeLine) (hdf:d.params.defaults=[]) (hr:fN k callerA)
  (F:∀(w:World) (mg:Str->Option Value) (fa:Addr) (h:Heap),YP w h->h.Ns mainGlobals mg->mg d.name=eZ (.ref fa)->∃(K:Frag) (sp:Sp),K.In h/\
    (∃fd:FuncData,(∀(s:Shared) (u:Value),BindsTo s fd ⟨[u],[]⟩ [(x,u)])/\∀base:Heap,K.In base->base.Ns mainGlobals mg->fO l.prog w K mg base (CX w) k fa fd [x] sp)/\
    ∀(H:Hp) (a:Addr) (ns:List Int),ns.length<=n->IS H->gp K H a (ns.map V.int)->sp [.ref a] H (λv _=>v=.bl fc) λ_ _ _=>False)
  (hCX:∀(w:World) (H:Hp) (s:Shared) (e:Value) (s':Shared),CX w [] H s (λ_ _ _=>False) e s'->False) :
  WalkO q loose XP YP l.row.toRowW d [] (λf vs=>PySem.call f vs):=by
 refine Att.attach_call hn hdf λw s₀ ģ mg mb fa o pm cd doc a vs ns G Y ho hd bB hmg dI hints hlen hg=>?_;let⟨K,sp,KX,⟨fd,hb,hF⟩,hsp⟩:=F w mg fa _ Y G.T.g hmg;exact Cy KX G.T.g G.T.b G.T.builtins G.T.nolimit hg dI hints (Ý hlen hn2) hr hF hb (λH hO hS=>hsp H a ns hlen hO hS) λH e s'=>hCX w H ģ e s'
abbrev Ge(f:Value->gF.Val->Bool):List Value->List gF.Val->Bool
 |[],[]=>fc
 |u::us,x::xs=>f u x&&Ge f us xs
 |_,_=>fe
abbrev HX(K:Frag):Value->Option (List Value)
 |.ref a=>match K.lookup a with
  |some ⟨.type n,_,.seq us _,_⟩=>if n == "tuple" && gN (us.size<=sizeLine)then eZ us.toList else fb
  |_=>fb
 |_=>fb
abbrev F5(K:Frag):Nat->Value->gF.Val->Bool
 |0,_,_=>fe
 |n+1,u,v=>match v with
  |.non=>(match u with|.none=>fc|_=>fe)
  |.bl b=>(match u with|.bool a=>a==b|_=>fe)
  |.int j=>(match u with|.int i _=>i==j|_=>fe)
  |.str t=>(match u with|.str s _=>Fast.sEq s (gO t)|_=>fe)
  |.tup xs=>(match HX K u with|some us=>Ge (F5 K n) us xs|none=>fe)
  |_=>fe
def Er{K:Frag}{f:Value->gF.Val->Bool}(hf:∀u v,f u v=fc->∃z,RelV z u/\∀H,Snd.RV K H v z):∀(us:List Value) (xs:List gF.Val),Ge f us xs=fc->∃zs,gw zs us/\∀H,Snd.RVs K H xs zs
 |[],[],_=>⟨[],.nil,λ_=>.nil⟩
 |u::us,x::xs,h=>by rw[Ge,bAq]at h;let⟨z,r,q⟩:=hf u x h.1;let⟨zs,rs,qs⟩:=Er hf us xs h.2;exact⟨z::zs,.cons r rs,λH=>.cons (q H)<|qs H⟩
 |[],_::_,h=>by cases h
 |_::_,[],h=>by cases h
def EM{K:Frag}:∀(n:Nat) (u:Value) (v:gF.Val),F5 K n u v=fc->∃z,RelV z u/\∀H,Snd.RV K H v z
 |0,_,_,h=>by cases h
 |n+1,u,v,h=>by
  unfold F5 at h;cases v with
  |non =>
   dsimp only at h;split at h
   .exact⟨.non,rfl,λ_=>.non⟩
   .cases h
  |bl b =>
   dsimp only at h;split at h
   .cases eq_of_beq h;exact⟨.bl b,rfl,λ_=>.bl b⟩
   .cases h
  |int j =>
   dsimp only at h;split at h
   .cases eq_of_beq h;exact⟨.int j,⟨_,rfl⟩,λ_=>.int j⟩
   .cases h
  |str t =>
   dsimp only at h;split at h
   .cases Fast.sEq_iff.mp h;exact⟨.str<|gO t,⟨_,rfl⟩,λ_=>.str t⟩
   .cases h
  |tup xs =>
   dsimp only at h;split at h
   .rename_i us hu;let⟨zs,rs,qs⟩:=Er (λu v=>EM n u v) us xs h;unfold HX at hu;split at hu
    .rename_i a;split at hu
     .rename_i nm od ô k sl hl;split at hu
      .rename_i hc;rw[bAq,gL]at hc;cases eq_of_beq hc.1;cases hu;exact⟨.ref a,rfl,λH=>.tup (.inr ⟨_,ô,k,hl,rfl,rfl,hc.2,rs⟩)<|qs H⟩
      .cases hu
     .cases hu
    .cases hu
   .cases h
  |ref a=>cases h
  |scr ns=>cases h
  |key i j=>cases h
abbrev EF(K:Frag)(p:String×gF.Val):Bool:=match nsIn K mainGlobals (gO p.1)with
 |some (eZ u)=>F5 K 4 u p.2
 |_=>fe
def JU{α β:Type}[BEq α][LawfulBEq α]{a:α}{b:β}:∀{l:List (α×β)},l.lookup a=eZ b->(a,b)∈l
 |[],h=>by cases h
 |(x,y)::r,h=>by
  rw[â]at h;split at h
  .rename_i e;cases h;cases eq_of_beq e;exact .head _
  .exact .tail _<|JU h
def Lf{K:Frag}{mg:Str->Option Value}{h:Heap}{x:Str}{C:Addr}{bmB:List Value}{id:String}(X:K.In h)(hm:mg x=eZ (.ref C))(q:excIn K C bmB id=fc):PyProof.Rows.OwnCls x C bmB id mg h:=by
 constructor
 .exact hm
 have z:=q;unfold excIn at z;split at z
 next dd cd sl ho =>
  split at z
  next C1 bm k0 k1 k2 k3 n k5 em es =>
   rw[bAq,bAq,bAq,bAq,bAq]at z;let⟨⟨⟨⟨⟨z1,z2⟩,z3⟩,z4⟩,z5⟩,z6⟩:=z;have z1:=eq_of_beq z1;have z2:=eq_of_beq z2;have z6:=eq_of_beq z6;subst z1 z2;have z3b:cd.hasDel=fe:=by
    cases e:cd.hasDel with
    |false=>rfl
    |true=>rw[e]at z3;cases z3
   have es':sl=#[k0,k1,k2,k3,eZ<|.builtin n,k5]:=eR.mp es;have nN:=nsMap_none_of_in X z5 z6;have nI:=Heap.Ns.of_isNs<|isNs_of_in X z5;have tI:=tail_of_in X z4;cases cd;dsimp only at em z3b nN nI;subst em z3b es';exact⟨bm,_,_,_,_,_,_,_,_,_,dd,k0,k1,k2,k3,k5,_,X _ _ ho,nI,nN,tI⟩
  next=>cases z
 next=>cases z
abbrev I0(K:Frag)(f:Addr):Option<|FuncData×Bool×Bool:=match K.lookup f with
 |some ⟨_,_,.func fd,_⟩=>eZ ({fd with kwdefaults:=.none,doc:=.none,pyModule:=.none,annotations:=fb,code:=.none,closureTuple:=.none},codeIn K fd.code fd.qualname,keepIn K<|.ref f)
 |_=>fb
abbrev Oy(nm qual:Str)(st:Stmt):Option<|FuncData×Bool×Bool:=eZ (fnOf nm qual (YL st) (ZO st) (Zv st) .none .none .none .none fb .none .none,fc,fc)
def Lp{K:Frag}{nm qual:Str}{st:Stmt}{f:Addr}(e:I0 K f=Oy nm qual st):∃fd,Fun K nm qual st f fd:=by
 unfold I0 at e;split at e
 .rename_i oc od fd sl hl;simp only[Oy,Ĳ,Ο]at e;let⟨e1,e2,e3⟩:=e;let⟨n1,n2,n3,n4,n5,n6,n7,n8,n9,n10,n11,n12,n13,n14,n15⟩:=fd;simp only[fnOf,FuncData.mk.injEq]at e1;obtain⟨rfl,rfl,rfl,rfl,rfl,rfl,rfl,rfl,-,-,-,-,-,-,rfl⟩:=e1;exact⟨_,EZ hl e2 e3⟩
 .cases e
abbrev Jp(K:Frag)(C:String):Option Addr:=match nsIn K mainGlobals (gO C)with
 |some (eZ<|.ref a)=>eZ a
 |_=>fb
variable {C:String} {a:Addr}
def W1{K:Frag}(h:Jp K C=eZ a):nsIn K mainGlobals (gO C)=eZ (eZ<|.ref a):=by
 unfold Jp at h;split at h
 .cases h;assumption
 .cases h
structure CV where
 pg:Bool
 hd:Bool
 po:Bool
 sa:Option<|Option Value
abbrev Gf(K:Frag)(a:Addr):CV:=⟨plainGet K a Str.empty,hasDictIn K a,plainOver K a,findIn K (.ref a) "__setattr__"⟩
abbrev UK:CV:=⟨fc,fc,fc,eZ<|eZ<|.builtin "object.__setattr__"⟩
def EO{K:Frag}(h:Gf K a=UK):Cls K a:=by simp only[Gf,UK,CV.mk.injEq]at h;exact⟨h.1,h.2.1,h.2.2.1,h.2.2.2⟩
structure MV where
 fn:Option<|FuncData×Bool×Bool
 isf:Bool
 cv:CV
abbrev Cg(K:Frag)(y:Snd.Mt):Option MV:=match Jp K y.C with
 |some a=>match findIn K (.ref a) (gO y.m)with
  |some (eZ<|.ref f)=>eZ ⟨I0 K f,isFn K<|.ref f,Gf K a⟩
  |_=>fb
 |none=>fb
abbrev Cd(y:Snd.Mt):Option MV:=eZ ⟨Oy (gO y.m) (gO y.qual) y.x.st,fc,UK⟩
def QX{K:Frag}{y:Snd.Mt}(e:Cg K y=Cd y):∃a f fd,nsIn K mainGlobals (gO y.C)=eZ (eZ<|.ref a)/\Fun K (gO y.m) (gO y.qual) y.x.st f fd/\Meth K a (gO y.m) f/\Cls K a:=by
 unfold Cg at e;split at e
 .rename_i a ha;split at e
  .rename_i f hf;simp only[Cd,Ĳ,MV.mk.injEq]at e;let⟨e1,e2,e3⟩:=e;let⟨fd,F⟩:=Lp e1;exact⟨a,f,fd,W1 ha,F,⟨hf,e2,F.kp⟩,EO e3⟩
  .cases e
 .cases e
structure QV where
 mks:Bool
 kp:Bool
 cv:CV
 fl:List<|Option<|Option Value
 ic:Option (Option Value)×Option (Option Value)×Option Bool×Option Bool
abbrev Ci(K:Frag)(fl:List String)(C:String):Option QV:=match Jp K C with
 |some a=>eZ ⟨makesIn K a,keepIn K<|.ref a,Gf K a,fl.map λf=>findIn K (.ref a)<|gO f,(findIn K (.ref a) "__class__",specialIn K (.builtin "object.__class__") "__get__",takesIn K<|.builtin "object.__class__",mroIn K a<|.type "object")⟩
 |none=>fb
abbrev C3(fl:List String):Option QV:=eZ ⟨fc,fc,UK,fl.map λ_=>eZ fb,(eZ<|eZ<|.builtin "object.__class__",eZ<|eZ<|.builtin "getset_descriptor.__get__",eZ fc,eZ fc)⟩
def HA{K:Frag}{fl:List String}(e:Ci K fl C=C3 fl):∃a,nsIn K mainGlobals (gO C)=eZ (eZ<|.ref a)/\makesIn K a=fc/\keepIn K (.ref a)=fc/\Cls K a/\(∀f∈fl,NoAttr K a<|gO f)/\Snd.IC K a:=by
 unfold Ci at e;split at e
 .rename_i a ha;simp only[C3,Ĳ,QV.mk.injEq,Ο]at e;let⟨e1,e2,e3,e4,e5,e6,e7,e8⟩:=e;exact⟨a,W1 ha,e1,e2,EO e3,λf hf=>Ħ.mp e4 f hf,⟨e5,e6,e7,e8⟩⟩
 .cases e
structure XV where
 ex:Bool
 f1:Option<|Option Value
 f2:Option<|Option Value
 f3:Option<|Option Value
 m1:Option Bool
 m2:Option Bool
 ci:Bool
 ve:Option Bool
 ks:List<|Option<|Option Bool×Option Bool
abbrev Cj(K:Frag)(xs:List String)(C:String):Option XV:=match Jp K C with
 |some a=>eZ ⟨excIn K a [.type "ValueError",.type "Exception",.type "BaseException",.type "object"] "ValueError.__new__",findIn K (.ref a) "__getattribute__",findIn K (.ref a) "__getattr__",findIn K (.ref a) "__class__",mroIn K a<|.type "object",mroIn K a<|.type "BaseException",(clsIn K a).isSome,kitOne K (.ref a)<|.type "ValueError",("ShutError" :: xs).map λT=>(Jp K T).map λD=>(kitOne K (.ref a)<|.ref D,exmOne K (.ref a)<|.ref D)⟩
 |none=>fb
abbrev EV(xs:List String)(C:String):Option XV:=eZ ⟨fc,eZ<|eZ<|.builtin "BaseException.__getattribute__",eZ fb,eZ<|eZ<|.builtin "object.__class__",eZ fc,eZ fc,fc,eZ fc,("ShutError" :: xs).map λT=>eZ (eZ<|gF.gm C T,eZ<|gF.gm C T)⟩
def BU{K:Frag}{xs:List String}(e:Cj K xs C=EV xs C):∃a,nsIn K mainGlobals (gO C)=eZ (eZ<|.ref a)/\excIn K a [.type "ValueError",.type "Exception",.type "BaseException",.type "object"] "ValueError.__new__" = fc/\XCls K a/\kitOne K (.ref a) (.type "ValueError")=eZ fc/\
  ∀T∈"ShutError" :: xs,∃D,nsIn K mainGlobals (gO T)=eZ (eZ<|.ref D)/\kitOne K (.ref a) (.ref D)=eZ (gF.gm C T)/\exmOne K (.ref a) (.ref D)=eZ (gF.gm C T):=by
 unfold Cj at e;split at e
 .rename_i a ha;simp only[EV,Ĳ,XV.mk.injEq]at e;let⟨e1,e2,e3,e4,e5,e6,e7,e8,e9⟩:=e;refine⟨a,W1 ha,e1,⟨e2,e3,e4,e5,e6,e7⟩,e8,λT hT=>?_⟩;have:=Ħ.mp e9 T hT;cases z:Jp K T with
  |none=>rw[z]at this;cases this
  |some D =>rw[z]at this;simp only[ķ,Ĳ,Ο]at this;exact⟨D,W1 z,this.1,this.2⟩
 .cases e
structure View where
 fs:List<|Option<|FuncData×Bool×Bool
 ms:List<|Option MV
 cl:List<|Option QV
 xs:List<|Option XV
 ok:Bool
abbrev view(T:Snd.Tb)(K:Frag):View:=⟨T.fs.map λp=>CD K<|gO p.1,T.ms.map<|Cg K,T.cl.map<|Ci K T.fl,T.xs.map<|Cj K T.xs,T.cs.all (EF K)&&Snd.blts.all (HM K)⟩
abbrev due(T:Snd.Tb):View:=⟨T.fs.map λp=>C5 (gO p.1) p.2.st,T.ms.map Cd,T.cl.map λ_=>C3 T.fl,T.xs.map<|EV T.xs,fc⟩
abbrev hook(T:Snd.Tb):Hook where
 α:=View
 obs:=λs=>view T<|Zw s.heap
 val:=λ_=>due T
 says:=λ_ h=>∃g:Heap,view T (Zw g)=due T/\∀b o,g.get? b=eZ o->h.get? b=eZ o
 of:=λ_ s e=>⟨s.heap,e,λ_ _ x=>x⟩
 keeps:=λ_ _ _ ⟨g,e,k⟩ k2=>⟨g,e,λb o x=>k2 b o<|k b o x⟩
abbrev Bd(nm qual:Str)(x:Snd.Ds):Prop:=∀(kV doc pm:Value) (an:Option Addr) (ϯ ct:Value) (us:List Value),us.length=x.ps.length->bindArgs (fnOf nm qual (YL x.st) (ZO x.st) (Zv x.st) .none kV doc pm an ϯ ct) ⟨us,[]⟩=pure (x.ps.zip us)
abbrev FY(T:Snd.Tb):Bool:=T.cl.all λC=>T.ms.any λy=>y.C==C&&y.m == "__init__"
def law_walk{l:OpenLaw}{q:Program}{loose:List Str}{XP:(Str->Option Value)->Heap->Prop}{d:DefRec}{T:Snd.Tb}{pg:gF.Pg}{k:Nat}{xl:Snd.Ds}
  (hn:l.most=eZ 63) (hdf:d.params.defaults=[]) (hdn:d.name=gO "law") (hr:fN (2*(k+1)) callerA) (hlaw:("law",xl)∈T.fs) (hps:xl.ps=[gO "script"]) (hin:FY T=fc)
  (tab_pg:∀f x,(f,x)∈T.fs->pg f=eZ x.d) (tab_pm:∀y,y∈T.ms->pg (y.C ++ "." ++ y.m)=eZ y.x.d) (tab_ok:∀f x,(f,x)∈T.fs->x.Ok T) (tab_om:∀y,y∈T.ms->y.x.Ok T)
  (tab_bd:∀f x,(f,x)∈T.fs->Bd (gO f) (gO f) x) (tab_bm:∀y,y∈T.ms->Bd (gO y.m) (gO y.qual) y.x)
  (ok:∀ns:List Int,ns.length<=63->gF.wF pg (k+1) "law" [.scr ns] (λ_=>fb) (λv _=>v=.bl fc) λ_ _=>False) :
  WalkO q loose XP (hook T).says l.row.toRowW d [] (λf vs=>PySem.call f vs):=by
 refine GJ (n:=63) (k:=2*(k+1)) (x:=gO "script") (CX:=λw=>CX1 l.prog w) hn (by decide) hdf hr (λw mg fa h Y G hmg=>?_) λ_ _ _ _ _ ⟨_,_,_,_,_,z⟩=>z;let⟨g,e,keep⟩:=Y;have X:(Zw g).In h:=λa o z=>keep a o<|Ul z;simp only[view,due,View.mk.injEq]at e;let⟨e1,e3,e4,e5,e2⟩:=e;rw[bAq,ý,ý]at e2
 let i:Snd.Inf:=⟨Zw g,λC a=>T.cl.contains C=fc/\mg (gO C)=eZ (.ref a),λC=>T.cl.contains C,λC a=>T.xs.contains C=fc/\mg (gO C)=eZ (.ref a)⟩
 have hF:∀f x,(f,x)∈T.fs->∃fa fd,Fun (Zw g) (gO f) (gO f) x.st fa fd/\mg (gO f)=eZ (.ref fa):=λf x hx=>by let⟨fa,fd,F,z⟩:=LX<|Ħ.mp e1 (f,x) hx;exact⟨fa,fd,F,mg_of X G z⟩
 have aZ:∀C a,i.cl C a->makesIn (Zw g) a=fc/\keepIn (Zw g) (.ref a)=fc/\Cls (Zw g) a/\(∀f∈T.fl,NoAttr (Zw g) a<|gO f)/\Snd.IC (Zw g) a:=λC a ⟨hc,hm⟩=>by let⟨b,z,q⟩:=HA<|Ħ.mp e4 C<|ą.mp hc;have:=mg_of X G z;rw[hm]at this;cases this;exact q
 have hms:∀y,y∈T.ms->∃a f,Snd.Mst i mg y a f/\Cls i.K a:=λy hy=>by let⟨a,f,fd,z,F,M,A⟩:=QX<|Ħ.mp e3 y hy;exact⟨a,f,⟨mg_of X G z,⟨fd,F,F.binds<|tab_bm y hy⟩,M⟩,A⟩
 have hxc:∀C a,i.xc C a->excIn (Zw g) a [.type "ValueError",.type "Exception",.type "BaseException",.type "object"] "ValueError.__new__" = fc/\XCls (Zw g) a/\kitOne (Zw g) (.ref a) (.type "ValueError")=eZ fc/\
   ∀T'∈"ShutError" :: T.xs,∃D,nsIn (Zw g) mainGlobals (gO T')=eZ (eZ<|.ref D)/\kitOne (Zw g) (.ref a) (.ref D)=eZ (gF.gm C T')/\exmOne (Zw g) (.ref a) (.ref D)=eZ (gF.gm C T'):=λC a ⟨hc,hm⟩=>by
  let⟨b,z,q⟩:=BU<|Ħ.mp e5 C<|ą.mp hc;have:=mg_of X G z;rw[hm]at this;cases this;exact q
 have mod:∀base:Heap,(Zw g).In base->Snd.Modu mg base i T:=λbase Xb =>
  { bl:=λy hy=>by
      have:=e2.2 y hy
      unfold HM at this
      split at this
      . rename_i z;exact mg_none_of X G z
      . cases this
    cst:=λy v hv=>by
      have:=e2.1 _<|JU hv
      unfold EF at this
      split at this
      . rename_i u z
        let⟨x,r,rv⟩:=EM 4 u v this
        exact⟨u,x,mg_of X G z,r,rv⟩
      . cases this
    A:=⟨λC a _ z=>(aZ C a z).2.2.1,λC a z=>(aZ C a z).2.2.2.2,λC a b z y=>by have:=z.2.symm.trans y.2;cases this;rfl⟩
    F:=λf hf=>⟨λC a z=>(aZ C a z).2.2.2.1 f<|ą.mp hf⟩
    cl:=λC a z=>z.2
    mkc:=λC hC=>by
      let⟨a,z,_⟩:=HA<|Ħ.mp e4 C<|ą.mp hC
      have hi:i.cl C a:=⟨hC,mg_of X G z⟩
      let⟨y,hy,e⟩:=ŧ.mp<|ý.mp hin C<|ą.mp hC
      rw[bAq]at e
      let⟨b,f,S,A⟩:=hms y hy
      have h1:=eq_of_beq e.1
      have h2:=eq_of_beq e.2
      have hb:=S.cl
      rw[h1,hi.2]at hb
      cases hb
      refine⟨a,y,f,hC,hi,⟨(aZ C a hi).1,?_,S.at_.fn,(aZ C a hi).2.1⟩,hy,h1,h2,S⟩
      have:=S.at_.at_
      rw[h2]at this
      exact this
    fs:=λf x hx=>by
      let⟨fa,fd,F,m⟩:=hF f x hx
      exact⟨fa,fd,_,F,m,F.binds<|tab_bd f x hx⟩
    ms:=hms
    xc:=λ_ C a z=>⟨(hxc C a z).2.1,(hxc C a z).2.2.1⟩
    rs:=λ_ C hC=>by
      let⟨a,z,q1,_⟩:=BU<|Ħ.mp e5 C<|ą.mp hC
      exact⟨a,⟨hC,mg_of X G z⟩,Lf Xb (mg_of X G z) q1⟩
    kn:=λŭ T' hT=>by
      have hT2:T'∈"ShutError" :: T.xs:=by
        rcases (Bool.or_eq_true ..).mp hT with z|z
        . exact .tail _<|ą.mp z
        . cases eq_of_beq z;exact .head _
      let⟨C0,hC0⟩:=List.exists_mem_of_ne_nil _ ŭ
      let⟨a0,z0,_,_,_,q0⟩:=BU<|Ħ.mp e5 C0 hC0
      let⟨D,zD,_⟩:=q0 T' hT2
      refine⟨D,mg_of X G zD,λC a z=>?_⟩
      let⟨D2,z2,k1,k2⟩:=(hxc C a z).2.2.2 T' hT2
      rw[zD]at z2
      cases z2
      exact⟨k1,λe=>by rw[k2,e]⟩ }
 let⟨fl,fd,F,m⟩:=hF "law" xl hlaw;have ef:=hmg.symm.trans<|hdn▸m;cases ef;refine⟨Zw g,Snd.spF i pg (k+1) "law",X,⟨fd,λs u=>?_,λbase Xb _=>?_⟩,λH a ns hl hO hS=>?_⟩
 .have B:=F.ex;let⟨oc,od,kV,dc,pm,an,ϯ,ct,sl,rfl,lk,bB⟩:=B;have:=tab_bd "law" xl hlaw kV dc pm an ϯ ct [u] (by rw[hps];rfl);rw[hps]at this;exact .of_eq this
 .have M:=mod base Xb;have:=Snd.fn_succ (i:=i) (pr:=l.prog) (wd:=w) (base:=base) (mg:=mg) (P:=pg) (n:=k) M (Snd.held_all M tab_pg tab_pm tab_ok tab_om k) F (tab_pg "law" xl hlaw)<|tab_ok "law" xl hlaw;rw[hps]at this;exact this
 .refine⟨[.scr ns],λ_=>fb,λv _=>v=.bl fc,λ_ _=>False,.cons (.scr ?_) .nil,λ_ _ e=>(by cases e),ok ns hl,?_,?_⟩
  .rcases hS with(h|⟨o,h⟩)|h
   .rcases hO a with z|⟨o,xs,z⟩
    .rw[h]at z;cases z
    .rw[h]at z;cases z
   .exact .inl ⟨o,h⟩
   .exact .inr h
  .intro v G' H' x _ _ r e;subst e;exact r.bl_inv
  .rintro cls d H' ⟨_,_,_,_,_,_,_,z⟩;exact z
end Hd
set_option maxRecDepth 20000
set_option maxHeartbeats 2000000
namespace gF
local macro_rules|`(#[$x])=>`(.cons $x .nil)|`(#[$x,$y,*])=>`(.cons $x #[$y,*])
@[reducible] noncomputable def B0(P:Pg)(n:Nat)(d:Fn)(e:Env)(h:Hs)(Q:Q1)(X:XQ):Prop:=wSs (wF P n) d.body e h (λ_ g=>Q .non g) Q (λ_ _=>False) (λ_ _=>False) λ_ c g=>X c g
variable {P:Pg}{n:Nat}{a0 a1 a2 a3 a4 a5 a6 a7:Val}{h:Hs}{Q:Q1}{X:XQ}
local macro_rules|`(↑$n:num)=>`(.cst (.int $n))
local macro_rules|`(⇑$n:num)=>`(.var $n)
instance T3:Fn:={ar:=1,sz:=1,body:=#[.ret<|.and (.bi (.isi ["int"]) #[⇑0])<|.not<|.bi (.isi ["bool"]) #[⇑0]]}
instance VC:Fn:={ar:=2,sz:=5,body:=#[.set (.one 2)<|.lst .nil,.for (.many [3,4]) (.enum<|.idx ⇑0 ↑1) #[.ite (.val<|.cmp .isin ⇑1<|.slc ⇑4 .none<|.some ↑2) #[.expr<|.bm .append ⇑2 #[.tup #[⇑3,.call "far_end" #[⇑4,⇑1],.idx ⇑4 ↑2]]] .nil],.ret ⇑2]}
instance T1:Fn:={ar:=2,sz:=2,body:=#[.ret<|.ife (.val<|.cmp .eq (.idx ⇑0 ↑0) ⇑1) (.idx ⇑0 ↑1)<|.idx ⇑0 ↑0]}
instance VD:Fn:={ar:=2,sz:=2,body:=#[.ret<|.cmp .gt (.idx ⇑0<|.glob "NUMBER"<|.int 0)<|.idx ⇑1<|.glob "NUMBER"<|.int 0]}
instance Tv:Fn:={ar:=2,sz:=3,body:=#[.set (.one 2)<|.comp [0] 1 (.one 0) (.seq ⇑1) (.val<|.cmp .lt (.idx ⇑0 ↑0) ⇑1) ⇑0,.ret<|.bi .minD #[⇑2]]}
instance TK:Fn:={ar:=5,sz:=8,body:=#[.setFld ⇑0 "number" ⇑1,.setFld ⇑0 "life" ⇑2,.setFld ⇑0 "age_let_go" ⇑4,.setFld ⇑0 "ties_by_place"<|.dct .nil,.for (.many [5,6,7]) (.seq ⇑3) #[.setIdx (.fld ⇑0 "ties_by_place") ⇑5<|.tup #[⇑6,⇑7]],.setFld ⇑0 "held_by_place"<|.dct .nil,.setFld ⇑0 "label_now"<|.tup #[⇑1,↑0,.cst .non,.cst .non],.setFld ⇑0 "version" ↑0,.setFld ⇑0 "ticks_had" ↑0]}
instance TU:Fn:={ar:=1,sz:=1,body:=#[.ret<|.fld ⇑0 "label_now"]}
instance TF:Fn:={ar:=1,sz:=1,body:=#[.ret<|.tup #[.fld ⇑0 "life",.fld ⇑0 "version"]]}
instance TW:Fn:={ar:=2,sz:=2,body:=#[.ret<|.bm .dget (.fld ⇑0 "held_by_place") #[⇑1]]}
instance TQ:Fn:={ar:=4,sz:=4,body:=#[.ite (.val<|.cmp .notin ⇑1<|.fld ⇑0 "ties_by_place") #[.setIdx (.fld ⇑0 "ties_by_place") ⇑1<|.tup #[⇑2,⇑3]] .nil]}
instance TZ:Fn:={ar:=2,sz:=2,body:=#[.expr<|.bm .dpopD (.fld ⇑0 "ties_by_place") #[⇑1,.cst .non],.expr<|.bm .dpopD (.fld ⇑0 "held_by_place") #[⇑1,.cst .non]]}
instance TX:Fn:={ar:=3,sz:=4,body:=#[.ite (.val<|.cmp .notin ⇑1<|.fld ⇑0 "ties_by_place") #[.retN] .nil,.set (.one 3)<|.meth "Bridge" "held" ⇑0 #[⇑1],.ite (.or (.val<|.cmp .is ⇑3<|.cst .non)<|.val<|.call "newer" #[⇑2,.idx ⇑3 ↑0]) #[.setIdx (.fld ⇑0 "held_by_place") ⇑1<|.tup #[⇑2,.idx ⇑2<|.glob "AGE"<|.int 4]] .nil]}
instance TL:Fn:={ar:=1,sz:=2,body:=#[.expr<|.meth "Bridge" "let_grow_older" ⇑0 .nil,.expr<|.meth "Bridge" "take_label" ⇑0 #[.meth "Bridge" "reckon_label" ⇑0 .nil],.set (.one 1)<|.comp [0] 1 (.one 0) (.seq<|.bi .sortedI #[.fld ⇑0 "ties_by_place"]) .yes<|.tup #[⇑0,.meth "Bridge" "letter_over" ⇑1 #[⇑0]],.augFld ⇑0 "ticks_had" .add 1,.ret ⇑1]}
instance TB:Fn:={ar:=1,sz:=4,body:=#[.set (.one 1)<|.dct .nil,.forI fe (.many [2,3]) (.fld ⇑0 "held_by_place") #[.ite (.val<|.cmp .lt (.bin .add (.idx ⇑3 ↑1) ↑1)<|.fld ⇑0 "age_let_go") #[.setIdx ⇑1 ⇑2<|.tup #[.idx ⇑3 ↑0,.bin .add (.idx ⇑3 ↑1) ↑1]] .nil],.setFld ⇑0 "held_by_place" ⇑1]}
instance TD:Fn:={ar:=1,sz:=8,body:=#[.set (.one 1)<|.lst .nil,.forI fe (.many [2,3]) (.fld ⇑0 "held_by_place") #[.set (.many [4,5])<|.idx (.fld ⇑0 "ties_by_place") ⇑2,.expr<|.bm .append ⇑1 #[.tup #[.idx (.idx ⇑3 ↑0)<|.glob "ROOT"<|.int 2,.bin .add (.idx (.idx ⇑3 ↑0)<|.glob "COST"<|.int 3) ⇑5,⇑4,⇑2]]],.set (.one 6)<|.call "best_offer" #[.fld ⇑0 "number",⇑1],.ite (.val<|.cmp .is ⇑6<|.cst .non) #[.ret<|.tup #[.fld ⇑0 "number",↑0,.cst .non,.cst .non]] .nil,.set (.many [7,5,4,2]) ⇑6,.ret<|.tup #[⇑7,⇑5,⇑2,.idx (.idx (.idx (.fld ⇑0 "held_by_place") ⇑2) ↑0)<|.glob "STAMP"<|.int 1]]}
instance TH:Fn:={ar:=2,sz:=2,body:=#[.ite (.val<|.cmp .ne ⇑1<|.fld ⇑0 "label_now") #[.setFld ⇑0 "label_now" ⇑1,.augFld ⇑0 "version" .add 1] .nil]}
instance TC:Fn:={ar:=2,sz:=8,body:=#[.set (.many [2,3,4,5])<|.fld ⇑0 "label_now",.set (.one 6)<|.ife (.val<|.cmp .is ⇑4<|.cst .non) ↑0<|.bin .add (.idx (.idx (.fld ⇑0 "held_by_place") ⇑4) ↑1) ↑1,.set (.one 7)<|.tup #[.tup #[.fld ⇑0 "life",.fld ⇑0 "ticks_had"],.meth "Bridge" "stamp" ⇑0 .nil,⇑2,⇑3,⇑6],.ite (.val<|.cmp .eq ⇑1 ⇑4) #[.ret<|.bin .add ⇑7<|.tup #[⇑5,.cst .non]] .nil,.ite (.val<|.meth "Bridge" "is_rested_on" ⇑0 #[⇑1]) #[.ret<|.bin .add ⇑7<|.tup #[.cst .non,.idx (.idx (.idx (.fld ⇑0 "held_by_place") ⇑1) ↑0)<|.glob "STAMP"<|.int 1]] .nil,.ret<|.bin .add ⇑7<|.tup #[.cst .non,.cst .non]]}
instance TN:Fn:={ar:=2,sz:=3,body:=#[.set (.one 2)<|.meth "Bridge" "held" ⇑0 #[⇑1],.ret<|.and (.cmp .isnot ⇑2<|.cst .non)<|.cmp .eq (.idx (.idx ⇑2 ↑0)<|.glob "RESTS"<|.int 5)<|.meth "Bridge" "stamp" ⇑0 .nil]}
instance TM:Fn:={ar:=2,sz:=3,body:=#[.set (.one 2)<|.meth "Bridge" "held" ⇑0 #[⇑1],.ite (.or (.val<|.cmp .is ⇑2<|.cst .non)<|.val<|.cmp .ne (.idx (.idx ⇑2 ↑0)<|.glob "AGREES"<|.int 6)<|.meth "Bridge" "stamp" ⇑0 .nil) #[.ret<|.cst<|.bl fe] .nil,.ret<|.cmp .eq (.idx (.idx ⇑2 ↑0)<|.glob "STAMP"<|.int 1)<|.idx (.fld ⇑0 "label_now") ↑3]}
instance TY:Fn:={ar:=2,sz:=2,body:=#[.ite (.val<|.cmp .notin ⇑1<|.fld ⇑0 "ties_by_place") #[.ret<|.cst<|.str "down"] .nil,.ite (.val<|.cmp .eq ⇑1<|.idx (.fld ⇑0 "label_now") ↑2) #[.ret<|.ife (.val<|.meth "Bridge" "is_agreed_to" ⇑0 #[⇑1]) (.cst<|.str "child")<|.cst<|.str "shut"] .nil,.ret<|.ife (.val<|.meth "Bridge" "is_rested_on" ⇑0 #[⇑1]) (.cst<|.str "parent")<|.cst<|.str "shut"]}
instance Tu:Fn:={ar:=3,sz:=4,body:=#[.setFld ⇑0 "net_made_of" ⇑1,.setFld ⇑0 "greatest_age" ⇑2,.setFld ⇑0 "lives"<|.dct .nil,.setFld ⇑0 "standing"<|.dct .nil,.setFld ⇑0 "ties_fallen"<|.dct .nil,.setFld ⇑0 "letters_on_road"<|.lst .nil,.for (.one 3) (.seq<|.idx ⇑1 ↑0) #[.setIdx (.fld ⇑0 "lives") ⇑3 ↑0,.setIdx (.fld ⇑0 "standing") ⇑3<|.make "Bridge" #[⇑3,↑0,.call "neighbours" #[⇑1,⇑3],⇑2]]]}
instance Tg:Fn:={ar:=1,sz:=1,body:=#[.ret<|.bi .list #[.fld ⇑0 "letters_on_road"]]}
instance Tw:Fn:={ar:=1,sz:=2,body:=#[.set (.one 1)<|.comp [0] 1 (.one 0) (.seq<|.idx (.fld ⇑0 "net_made_of") ↑0) (.val<|.cmp .notin ⇑0<|.fld ⇑1 "standing") ⇑0,.ret<|.tup #[.bi .tuple #[⇑1],.bi .tuple #[.bi .sortedI #[.fld ⇑0 "ties_fallen"]]]]}
instance Tf:Fn:={ar:=1,sz:=1,body:=#[.ret<|.comp [0] 1 (.one 0) (.seq<|.bi .sortedI #[.fld ⇑0 "standing"]) .yes<|.tup #[⇑0,.meth "Bridge" "label" (.idx (.fld ⇑1 "standing") ⇑0) .nil]]}
instance Tp:Fn:={ar:=1,sz:=1,body:=#[.ret<|.comp [0] 1 (.one 0) (.seq<|.bi .sortedI #[.fld ⇑0 "standing"]) .yes<|.tup #[⇑0,.meth "Bridge" "stamp" (.idx (.fld ⇑1 "standing") ⇑0) .nil]]}
instance Tk:Fn:={ar:=2,sz:=5,body:=#[.ite (.not<|.val<|.meth "Yard" "has_tie" ⇑0 #[⇑1]) #[.ret<|.tup #[.cst<|.str "down",.cst<|.str "down"]] .nil,.set (.many [2,3,4])<|.idx (.idx (.fld ⇑0 "net_made_of") ↑1) ⇑1,.ret<|.tup #[.meth "Yard" "end_at" ⇑0 #[⇑2,⇑1],.meth "Yard" "end_at" ⇑0 #[⇑3,⇑1]]]}
instance Tj:Fn:={ar:=3,sz:=3,body:=#[.ite (.val<|.cmp .notin ⇑1<|.fld ⇑0 "standing") #[.ret<|.cst<|.str "down"] .nil,.ret<|.meth "Bridge" "end" (.idx (.fld ⇑0 "standing") ⇑1) #[⇑2]]}
instance To:Fn:={ar:=2,sz:=2,body:=#[.ret<|.chain .le .lt ↑0 ⇑1<|.bi .len #[.idx (.fld ⇑0 "net_made_of") ↑1]]}
instance Tx:Fn:={ar:=2,sz:=4,body:=#[.set (.many [2,3])<|.call "read_deed" #[⇑1],.ite (.val<|.cmp .eq ⇑2<|.tup #[.cst<|.str "tick"]) #[.expr<|.meth "Yard" "tick_of" ⇑0 #[⇑3]] #[.ite (.val<|.cmp .eq ⇑2<|.tup #[.cst<|.str "come"]) #[.expr<|.meth "Yard" "come" ⇑0 #[⇑3]] #[.ite (.val<|.cmp .eq ⇑2<|.tup #[.cst<|.str "lost"]) #[.expr<|.meth "Yard" "take_off" ⇑0 #[⇑3]] #[.ite (.val<|.cmp .eq ⇑2<|.tup #[.cst<|.str "fall",.cst<|.str "bridge"]) #[.expr<|.meth "Yard" "fall_of_bridge" ⇑0 #[⇑3]] #[.ite (.val<|.cmp .eq ⇑2<|.tup #[.cst<|.str "fall",.cst<|.str "tie"]) #[.expr<|.meth "Yard" "fall_of_tie" ⇑0 #[⇑3]] #[.ite (.val<|.cmp .eq ⇑2<|.tup #[.cst<|.str "back",.cst<|.str "bridge"]) #[.expr<|.meth "Yard" "back_of_bridge" ⇑0 #[⇑3]] #[.expr<|.meth "Yard" "back_of_tie" ⇑0 #[⇑3]]]]]]]]}
instance Tr:Fn:={ar:=2,sz:=5,body:=#[.ite (.val<|.cmp .notin ⇑1<|.fld ⇑0 "standing") #[.raise "NoDeed" #[.cst<|.str "no bridge of this number is up"]] .nil,.for (.many [2,3]) (.seq<|.meth "Bridge" "tick" (.idx (.fld ⇑0 "standing") ⇑1) .nil) #[.set (.one 4)<|.call "far_end" #[.idx (.idx (.fld ⇑0 "net_made_of") ↑1) ⇑2,⇑1],.expr<|.bm .append (.fld ⇑0 "letters_on_road") #[.tup #[⇑1,⇑4,⇑2,⇑3]]]]}
instance Tz:Fn:={ar:=2,sz:=6,body:=#[.set (.many [2,3,4,5])<|.meth "Yard" "take_off" ⇑0 #[⇑1],.ite (.val<|.cmp .isin ⇑3<|.fld ⇑0 "standing") #[.expr<|.meth "Bridge" "hear" (.idx (.fld ⇑0 "standing") ⇑3) #[⇑4,⇑5]] .nil]}
instance Tq:Fn:={ar:=2,sz:=2,body:=#[.ite (.not<|.val<|.chain .le .lt ↑0 ⇑1<|.bi .len #[.fld ⇑0 "letters_on_road"]) #[.raise "NoDeed" #[.cst<|.str "the road has no letter at this place"]] .nil,.ret<|.bm .popAt (.fld ⇑0 "letters_on_road") #[⇑1]]}
instance Tm:Fn:={ar:=2,sz:=2,body:=#[.ite (.val<|.cmp .notin ⇑1<|.fld ⇑0 "standing") #[.raise "NoDeed" #[.cst<|.str "no bridge of this number is up"]] .nil,.expr<|.bm .dpop (.fld ⇑0 "standing") #[⇑1],.expr<|.meth "Yard" "set_ties_of" ⇑0 #[⇑1]]}
instance Tn:Fn:={ar:=2,sz:=2,body:=#[.ite (.or (.not<|.val<|.meth "Yard" "has_tie" ⇑0 #[⇑1])<|.val<|.cmp .isin ⇑1<|.fld ⇑0 "ties_fallen") #[.raise "NoDeed" #[.cst<|.str "no tie of this place stands"]] .nil,.setIdx (.fld ⇑0 "ties_fallen") ⇑1<|.cst<|.bl fc,.expr<|.meth "Yard" "set_tie" ⇑0 #[⇑1]]}
instance TR:Fn:={ar:=2,sz:=2,body:=#[.ite (.or (.val<|.cmp .notin ⇑1<|.fld ⇑0 "lives")<|.val<|.cmp .isin ⇑1<|.fld ⇑0 "standing") #[.raise "NoDeed" #[.cst<|.str "no bridge of this number has fallen"]] .nil,.augIdx (.fld ⇑0 "lives") ⇑1 .add 1,.setIdx (.fld ⇑0 "standing") ⇑1<|.make "Bridge" #[⇑1,.idx (.fld ⇑0 "lives") ⇑1,.lst .nil,.fld ⇑0 "greatest_age"],.expr<|.meth "Yard" "set_ties_of" ⇑0 #[⇑1]]}
instance TV:Fn:={ar:=2,sz:=2,body:=#[.ite (.val<|.cmp .notin ⇑1<|.fld ⇑0 "ties_fallen") #[.raise "NoDeed" #[.cst<|.str "no tie of this place has fallen"]] .nil,.expr<|.bm .dpop (.fld ⇑0 "ties_fallen") #[⇑1],.expr<|.meth "Yard" "set_tie" ⇑0 #[⇑1]]}
instance Tl:Fn:={ar:=2,sz:=5,body:=#[.for (.many [2,3,4]) (.seq<|.call "neighbours" #[.fld ⇑0 "net_made_of",⇑1]) #[.expr<|.meth "Yard" "set_tie" ⇑0 #[⇑2]]]}
instance Ti:Fn:={ar:=2,sz:=8,body:=#[.set (.many [2,3,4])<|.idx (.idx (.fld ⇑0 "net_made_of") ↑1) ⇑1,.set (.one 5)<|.and (.cmp .notin ⇑1<|.fld ⇑0 "ties_fallen")<|.and (.cmp .isin ⇑2<|.fld ⇑0 "standing")<|.cmp .isin ⇑3<|.fld ⇑0 "standing",.for (.many [6,7]) (.seq<|.tup #[.tup #[⇑2,⇑3],.tup #[⇑3,⇑2]]) #[.ite (.val ⇑5) #[.expr<|.meth "Bridge" "up" (.idx (.fld ⇑0 "standing") ⇑6) #[⇑1,⇑7,⇑4]] #[.ite (.val<|.cmp .isin ⇑6<|.fld ⇑0 "standing") #[.expr<|.meth "Bridge" "down" (.idx (.fld ⇑0 "standing") ⇑6) #[⇑1]] .nil]]]}
instance VE:Fn:={ar:=1,sz:=2,body:=#[.ite (.not<|.val<|.bi (.isi ["tuple"]) #[⇑0]) #[.raise "NoDeed" #[.cst<|.str "a deed is a tuple"]] .nil,.set (.one 1)<|.slc ⇑0 .none<|.some<|.neg ↑1,.ite (.or (.not<|.val<|.bi .all #[.comp [] 1 (.one 0) (.seq ⇑1) .yes<|.bi (.isi ["str"]) #[⇑0]])<|.val<|.cmp .notin ⇑1<|.glob "DEEDS"<|.tup [(.tup [(.str "tick")]),(.tup [(.str "come")]),(.tup [(.str "lost")]),(.tup [(.str "fall"),(.str "bridge")]),(.tup [(.str "fall"),(.str "tie")]),(.tup [(.str "back"),(.str "bridge")]),(.tup [(.str "back"),(.str "tie")])]) #[.raise "NoDeed" #[.cst<|.str "there is no deed of these words"]] .nil,.ite (.not<|.val<|.call "is_whole" #[.idx ⇑0<|.neg ↑1]) #[.raise "NoDeed" #[.cst<|.str "a deed's number is a whole number"]] .nil,.ret<|.tup #[⇑1,.idx ⇑0<|.neg ↑1]]}
instance T7:Fn:={ar:=2,sz:=2,body:=#[.ite (.val<|.cmp .lt ⇑1<|.bi .len #[⇑0]) #[.ret<|.idx ⇑0 ⇑1] .nil,.ret ↑0]}
instance VX:Fn:={ar:=2,sz:=3,body:=#[.set (.one 2)<|.bin .mod (.bin .mul (.bin .add (.bin .add (.bin .mod ⇑0 ↑2147483647)<|.bin .mul ↑7919 ⇑1) ↑1) ↑48271) ↑2147483647,.set (.one 2)<|.bin .mod (.bin .mul ⇑2 ⇑2) ↑2147483629,.ret<|.bin .fdiv (.bin .mod (.bin .mul (.bin .add ⇑2<|.bin .mul ↑40692<|.bin .add ⇑1 ↑3) ↑69621) ↑2147483579) ↑8]}
instance T8:Fn:={ar:=2,sz:=6,body:=#[.set (.one 2)<|.bin .mod ⇑0<|.bin .mul (.bin .mul (.bin .pow ↑10 ↑60)<|.bin .pow ↑10 ↑60)<|.bin .pow ↑10 ↑30,.set (.one 3)<|.cmp .ge ⇑2<|.bin .pow ↑10 ↑18,.set (.one 4)<|.lst .nil,.for (.one 5) (.range ⇑1) #[.ite (.and (.val ⇑3)<|.val<|.cmp .gt ⇑2 ↑0) #[.expr<|.bm .append ⇑4 #[.bin .mod ⇑2 ↑1000],.set (.one 2)<|.bin .fdiv ⇑2 ↑1000] #[.expr<|.bm .append ⇑4 #[.call "_law_mixed" #[⇑0,⇑5]]]],.ret ⇑4]}
instance T6:Fn:={ar:=1,sz:=3,body:=#[.set (.one 1)<|.bin .add ↑2<|.bin .mod (.idx ⇑0 ↑0) ↑4,.ite (.val<|.cmp .eq (.bin .mod (.bin .fdiv (.idx ⇑0 ↑0) ↑4) ↑8) ↑7) #[.set (.one 1)<|.bin .add ↑1<|.bin .mod (.bin .fdiv (.idx ⇑0 ↑0) ↑32) ↑10] .nil,.set (.one 2)<|.idx (.lst #[↑1000,↑12,↑1000,↑30])<|.bin .mod (.idx ⇑0 ↑1) ↑4,.ret<|.bi .sortedSet #[.comp [2] 1 (.one 0) (.seq<|.slc ⇑0 (.some ↑4)<|.some<|.bin .add ↑4 ⇑1) .yes<|.bin .mod ⇑0 ⇑1]]}
instance VA:Fn:={ar:=3,sz:=8,body:=#[.set (.one 3)<|.bi .len #[⇑0],.set (.one 4)<|.bin .mod (.idx ⇑1 ↑0) ⇑3,.set (.one 5)<|.bin .mod (.bin .add (.bin .add ⇑4 ↑1)<|.bin .mod (.idx ⇑1 ↑1)<|.bin .sub ⇑3 ↑1) ⇑3,.ite (.and (.val<|.cmp .lt (.bin .add ⇑2 ↑1) ⇑3)<|.val<|.cmp .eq (.bin .mod (.bin .fdiv (.idx ⇑1 ↑0) ↑10) ↑2) ↑0) #[.set (.one 4)<|.bin .add ⇑2 ↑1,.set (.one 5)<|.bin .mod (.idx ⇑1 ↑1)<|.bin .add ⇑2 ↑1] .nil,.set (.one 6)<|.bin .add ↑1<|.bin .mod (.idx ⇑1 ↑2) ↑1000,.ite (.val<|.cmp .eq (.bin .mod (.bin .fdiv (.idx ⇑1 ↑0) ↑20) ↑2) ↑0) #[.set (.one 6)<|.bin .add ↑1<|.bin .mod (.idx ⇑1 ↑2) ↑3] .nil,.set (.one 7)<|.bi .sortedI #[.lst #[.idx ⇑0 ⇑4,.idx ⇑0 ⇑5]],.ret<|.tup #[.idx ⇑7 ↑0,.idx ⇑7 ↑1,⇑6]]}
instance VW:Fn:={ar:=2,sz:=7,body:=#[.set (.one 2)<|.call "_law_draws" #[⇑0,↑14],.set (.one 3)<|.call "_law_bridges" #[⇑2],.set (.one 4)<|.bin .mod (.idx ⇑2 ↑2) ↑8,.ite (.val<|.cmp .eq (.bin .mod (.bin .fdiv (.idx ⇑2 ↑2) ↑8) ↑7) ↑6) #[.set (.one 4)<|.bin .mod (.bin .fdiv (.idx ⇑2 ↑2) ↑56) ↑17] .nil,.ite (.val<|.cmp .eq (.bi .len #[⇑3]) ↑1) #[.set (.one 4) ↑0] .nil,.set (.one 5)<|.call "_law_draws" #[⇑1,.bin .mul ↑3 ⇑4],.set (.one 6)<|.comp [3,5] 1 (.one 0) (.range ⇑4) .yes<|.call "_law_tie" #[⇑1,.slc ⇑2 (.some<|.bin .mul ↑3 ⇑0)<|.some<|.bin .add (.bin .mul ↑3 ⇑0) ↑3,⇑0],.ret<|.tup #[.bi .tuple #[⇑3],.bi .tuple #[⇑6]]]}
instance T9:Fn:={ar:=1,sz:=2,body:=#[.set (.one 1)<|.call "_law_draws" #[⇑0,↑4],.ite (.val<|.cmp .eq (.bin .mod (.bin .fdiv (.idx ⇑1 ↑1) ↑4) ↑2) ↑0) #[.ret<|.bin .add ↑4<|.bin .mod (.idx ⇑1 ↑3) ↑8] .nil,.ret<|.bin .add ↑4<|.bin .mod (.idx ⇑1 ↑3) ↑197]}
instance VM:Fn:={ar:=2,sz:=3,body:=#[.ite (.val<|.cmp .is ⇑1<|.cst .non) #[.ret<|.cmp .is ⇑0<|.cst .non] .nil,.ite (.val<|.bi (.isi ["str"]) #[⇑1]) #[.ret<|.and (.bi (.isi ["str"]) #[⇑0])<|.cmp .eq ⇑0 ⇑1] .nil,.ite (.val<|.bi (.isi ["int"]) #[⇑1]) #[.ret<|.and (.bi (.isi ["int"]) #[⇑0])<|.and (.not<|.bi (.isi ["bool"]) #[⇑0])<|.cmp .eq ⇑0 ⇑1] .nil,.ite (.val<|.bi (.isi ["tuple"]) #[⇑1]) #[.ite (.not<|.val<|.bi (.isi ["tuple"]) #[⇑0]) #[.ret<|.cst<|.bl fe] .nil] #[.ite (.not<|.val<|.bi (.isi ["list"]) #[⇑0]) #[.ret<|.cst<|.bl fe] .nil],.ite (.val<|.cmp .ne (.bi .len #[⇑0])<|.bi .len #[⇑1]) #[.ret<|.cst<|.bl fe] .nil,.for (.one 2) (.range<|.bi .len #[⇑1]) #[.ite (.not<|.val<|.call "_law_same" #[.idx ⇑0 ⇑2,.idx ⇑1 ⇑2]) #[.ret<|.cst<|.bl fe] .nil],.ret<|.cst<|.bl fc]}
instance VN:Fn:={ar:=2,sz:=3,body:=#[.set (.one 2)<|.comp [0] 1 (.one 0) (.range<|.bi .len #[.idx ⇑1 ↑1]) .yes<|.meth "Yard" "ends" ⇑1 #[⇑0],.ret<|.lst #[.bi .list #[.meth "Yard" "labels" ⇑0 .nil],.bi .list #[.meth "Yard" "stamps" ⇑0 .nil],.bi .list #[.meth "Yard" "road" ⇑0 .nil],.meth "Yard" "down" ⇑0 .nil,⇑2]]}
instance VJ:Fn:={ar:=2,sz:=4,body:=#[.set (.one 2)<|.cst .non,.try fb (.meth "Yard" "deed" ⇑0 #[⇑1]) (.cons "ShutError" (eZ 3) #[.set (.one 2) ⇑3] .nil),.ite (.val<|.bi (.isx ["NoCommand","NoFrame","NoLetter","NoLine","NoNet","NoOrder"]) #[⇑2]) #[.ret<|.cst<|.bl fe] .nil,.ret<|.and (.bi (.isx ["NoDeed"]) #[⇑2])<|.bi (.isx ["ValueError"]) #[⇑2]]}
instance VB:Fn:={ar:=2,sz:=3,body:=#[.set (.one 2)<|.lst #[.lst #[.cst<|.str "tick",⇑0],.tup #[.cst<|.str "tick"],.tup #[.cst<|.str "tick",⇑0,⇑0],.tup #[.cst<|.str "Tick",⇑0],.tup #[.cst<|.str "tick",.cst .non],.tup #[.cst<|.str "tick",.bi .str #[⇑0]]],.set (.one 2)<|.bin .add ⇑2<|.lst #[.tup #[.cst<|.str "tick",.tup #[⇑0]],.tup #[.cst<|.str "tick",.lst #[⇑0]],.tup #[⇑0,.cst<|.str "tick"],.tup #[.cst<|.str "tick",.cst<|.bl fc],.tup #[.cst<|.str "tick",.cst<|.bl fe],.tup #[.cst<|.str "come"]],.set (.one 2)<|.bin .add ⇑2<|.lst #[.tup #[.cst<|.str "come",.neg ↑1],.tup #[.cst<|.str "come",.cst<|.bl fc],.tup #[.cst<|.str "come",.cst<|.bl fe],.tup #[.cst<|.str "come",.cst .non],.tup #[.cst<|.str "come",.cst<|.str "0"],.tup #[.cst<|.str "lost",.neg ↑1]],.set (.one 2)<|.bin .add ⇑2<|.lst #[.tup #[.cst<|.str "lost",.cst<|.bl fc],.tup #[.cst<|.str "lost",.cst<|.bl fe],.tup #[.cst<|.str "come",.cst<|.str "bridge",⇑0],.tup #[.cst<|.str "fall",⇑0],.tup #[.cst<|.str "fall",.cst<|.str "bridge"]],.set (.one 2)<|.bin .add ⇑2<|.lst #[.tup #[.cst<|.str "fall",.cst<|.str "Bridge",⇑0],.tup #[.cst<|.str "fall",.cst<|.str "road",↑0],.tup #[.cst<|.str "rise",.cst<|.str "bridge",⇑0],.tup #[.cst<|.str "fall",.cst<|.str "bridge",.cst<|.bl fc]],.set (.one 2)<|.bin .add ⇑2<|.lst #[.tup #[.cst<|.str "fall",.cst<|.str "bridge",.cst<|.bl fe],.tup #[.cst<|.str "fall",.cst<|.str "tie",.neg ↑1],.tup #[.cst<|.str "fall",.cst<|.str "tie",⇑1],.tup #[.cst<|.str "fall",.cst<|.str "tie",.cst<|.bl fe]],.set (.one 2)<|.bin .add ⇑2<|.lst #[.tup #[.cst<|.str "back",.cst<|.str "tie",.cst<|.bl fe],.tup #[.cst<|.str "back",.cst<|.str "tie",.cst<|.bl fc],.tup #[.cst<|.str "back",.cst<|.str "tie",⇑1],.tup #[.cst<|.str "back",.cst<|.str "bridge",⇑0]],.set (.one 2)<|.bin .add ⇑2<|.lst #[.tup #[.cst<|.str "back",.cst<|.str "tie",.neg ↑1],.tup #[.cst<|.str "fall",.cst<|.str "tie",.cst .non],.tup #[.cst<|.str "fall",.cst<|.str "tie",↑0,↑0],.lst #[.cst<|.str "fall",.cst<|.str "tie",↑0],.cst .non,.cst<|.str "tick"],.set (.one 2)<|.bin .add ⇑2<|.lst #[.tup #[.cst<|.str "come",.lst #[↑0]],.tup #[.cst<|.str "lost",.dct .nil],.tup #[.cst<|.str "fall",.cst<|.str "bridge",.lst #[⇑0]],.tup #[.cst<|.str "fall",.cst<|.str "tie",.lst #[↑0]],.tup #[.cst<|.str "back",.cst<|.str "bridge",.dct .nil]],.set (.one 2)<|.bin .add ⇑2<|.lst #[.tup #[.cst<|.str "fall",.lst #[.cst<|.str "bridge"],⇑0],.tup #[.lst #[.cst<|.str "tick"],⇑0],.tup #[.dct .nil,⇑0],.tup #[.cst<|.str "back",.cst<|.str "tie",.tup #[↑0]]],.ret<|.bin .add ⇑2<|.lst #[.cst<|.str "",.tup .nil,.lst .nil,↑7,.cst<|.bl fc,.tup #[.tup #[.cst<|.str "tick",⇑0]],.tup #[.cst<|.str "tick",.cst<|.str "bridge",⇑0],.tup #[.cst<|.str "come",↑0,↑0],.tup #[.cst .non,⇑0]]]}
instance VY:Fn:={ar:=0,sz:=3,body:=#[.set (.one 0)<|.lst .nil,.for (.one 1) (.seq<|.lst #[.cst<|.bl fc,.cst<|.bl fe,.cst .non,.cst<|.str "0",.cst<|.str "",.lst #[↑0],.tup #[↑0],.dct .nil,.neg ↑1]) #[.set (.one 0)<|.bin .add ⇑0<|.lst #[.tup #[.cst<|.str "tick",⇑1],.tup #[.cst<|.str "come",⇑1],.tup #[.cst<|.str "lost",⇑1]],.for (.one 2) (.seq<|.tup #[.cst<|.str "bridge",.cst<|.str "tie"]) #[.set (.one 0)<|.bin .add ⇑0<|.lst #[.tup #[.cst<|.str "fall",⇑2,⇑1],.tup #[.cst<|.str "back",⇑2,⇑1]]]],.ret ⇑0]}
instance VZ:Fn:={ar:=4,sz:=10,body:=#[.set (.one 4)<|.bin .add ↑1000<|.bin .mod ⇑3<|.bin .pow ↑10 ↑60,.set (.one 6)<|.idx (.comp [0] 1 (.one 0) (.range ↑12) (.val<|.cmp .notin ⇑0<|.idx ⇑1 ↑0) ⇑0)<|.bin .mod ⇑3 ↑2,.set (.one 7)<|.bin .mul ↑2<|.bi .len #[.idx ⇑0 ↑1],.set (.one 8)<|.lst #[.tup #[.cst<|.str "tick",⇑6],.tup #[.cst<|.str "fall",.cst<|.str "bridge",⇑6],.tup #[.cst<|.str "back",.cst<|.str "bridge",⇑6],.tup #[.cst<|.str "tick",⇑4]],.set (.one 8)<|.bin .add ⇑8<|.lst #[.tup #[.cst<|.str "come",⇑7],.tup #[.cst<|.str "lost",⇑7],.tup #[.cst<|.str "come",.bin .add ⇑7 ⇑4],.tup #[.cst<|.str "fall",.cst<|.str "tie",.bin .add (.bi .len #[.idx ⇑0 ↑1]) ⇑4]],.for (.one 5) (.seq ⇑1) #[.set (.one 8)<|.bin .add ⇑8<|.lst #[.tup #[.cst<|.str "tick",⇑5],.tup #[.cst<|.str "fall",.cst<|.str "bridge",⇑5]]],.for (.one 9) (.range<|.bi .len #[.idx ⇑0 ↑1]) #[.ite (.val<|.cmp .isin ⇑9 ⇑2) #[.expr<|.bm .append ⇑8 #[.tup #[.cst<|.str "fall",.cst<|.str "tie",⇑9]]] #[.expr<|.bm .append ⇑8 #[.tup #[.cst<|.str "back",.cst<|.str "tie",⇑9]]]],.ret ⇑8]}
instance VO:Fn:={ar:=4,sz:=7,body:=#[.set (.one 4) ↑0,.for (.many [5,6]) (.enum<|.idx ⇑0 ↑1) #[.ite (.and (.val<|.cmp .isin ⇑3<|.slc ⇑6 .none<|.some ↑2)<|.and (.val<|.cmp .notin ⇑5 ⇑2)<|.and (.val<|.cmp .notin (.idx ⇑6 ↑0) ⇑1)<|.val<|.cmp .notin (.idx ⇑6 ↑1) ⇑1) #[.set (.one 4)<|.bin .add ⇑4 ↑1] .nil],.ret ⇑4]}
instance VU:Fn:={ar:=4,sz:=5,body:=#[.set (.one 4)<|.bin .mul ↑2<|.bi .len #[.idx ⇑1 ↑1],.ite (.or (.not<|.val<|.call "_law_refused" #[⇑0,.tup #[.cst<|.str "come",⇑4]])<|.not<|.val<|.call "_law_refused" #[⇑0,.tup #[.cst<|.str "lost",⇑4]]) #[.ret<|.cst<|.bl fe] .nil,.expr<|.meth "Yard" "deed" ⇑0 #[.tup #[.cst<|.str "tick",⇑3]],.ite (.val<|.cmp .gt ⇑2 ↑0) #[.expr<|.meth "Yard" "deed" ⇑0 #[.tup #[.idx (.lst #[.cst<|.str "come",.cst<|.str "lost"])<|.bin .mod ⇑2 ↑2,⇑4]]] .nil,.ite (.val<|.cmp .ne (.bi .len #[.meth "Yard" "road" ⇑0 .nil])<|.bin .add ⇑4<|.bi .max2 #[↑0,.bin .sub ⇑2 ↑1]) #[.ret<|.cst<|.bl fe] .nil,.ite (.not<|.val<|.call "_law_refused" #[⇑0,.tup #[.cst<|.str "back",.cst<|.str "bridge",⇑3]]) #[.ret<|.cst<|.bl fe] .nil,.expr<|.meth "Yard" "deed" ⇑0 #[.tup #[.cst<|.str "fall",.cst<|.str "bridge",⇑3]],.ite (.or (.not<|.val<|.call "_law_refused" #[⇑0,.tup #[.cst<|.str "tick",⇑3]])<|.not<|.val<|.call "_law_refused" #[⇑0,.tup #[.cst<|.str "fall",.cst<|.str "bridge",⇑3]]) #[.ret<|.cst<|.bl fe] .nil,.expr<|.meth "Yard" "deed" ⇑0 #[.tup #[.cst<|.str "back",.cst<|.str "bridge",⇑3]],.expr<|.meth "Yard" "deed" ⇑0 #[.tup #[.cst<|.str "tick",⇑3]],.ite (.val<|.cmp .ne (.bi .len #[.meth "Yard" "road" ⇑0 .nil])<|.bin .add (.bin .add ⇑4<|.bi .max2 #[↑0,.bin .sub ⇑2 ↑1]) ⇑2) #[.ret<|.cst<|.bl fe] .nil,.ret<|.and (.call "_law_refused" #[⇑0,.tup #[.cst<|.str "back",.cst<|.str "bridge",⇑3]])<|.call "_law_refused" #[⇑0,.tup #[.cst<|.str "lost",.bin .add ⇑4<|.bin .mul ↑2 ⇑2]]]}
instance T5:Fn:={ar:=3,sz:=7,body:=#[.set (.one 3)<|.lst .nil,.set (.one 4)<|.lst .nil,.for (.one 5) (.seq<|.idx ⇑1 ↑0) #[.expr<|.meth "Yard" "deed" ⇑0 #[.tup #[.cst<|.str "tick",⇑5]]],.set (.one 6)<|.comp [] 1 (.one 0) (.seq<|.idx ⇑1 ↑0) (.val<|.cmp .lt ⇑0 ↑2) ⇑0,.ite (.and (.val<|.cmp .eq (.bin .mod ⇑2 ↑2) ↑1)<|.val<|.cmp .gt (.bi .len #[.idx ⇑1 ↑0]) ↑1) #[.expr<|.bm .append ⇑3 #[.idx (.idx ⇑1 ↑0)<|.bin .mod (.bin .fdiv ⇑2 ↑4)<|.bi .len #[.idx ⇑1 ↑0]]] #[.ite (.and (.val<|.cmp .eq (.bin .mod (.bin .fdiv ⇑2 ↑8) ↑2) ↑1)<|.val<|.cmp .gt (.bi .len #[.idx ⇑1 ↑0])<|.bi .len #[⇑6]) #[.set (.one 3) ⇑6] .nil],.for (.one 5) (.seq ⇑3) #[.expr<|.meth "Yard" "deed" ⇑0 #[.tup #[.cst<|.str "fall",.cst<|.str "bridge",⇑5]]],.ite (.and (.val<|.cmp .eq (.bin .mod (.bin .fdiv ⇑2 ↑2) ↑2) ↑1)<|.val<|.cmp .gt (.bi .len #[.idx ⇑1 ↑1]) ↑0) #[.expr<|.bm .append ⇑4 #[.bin .mod (.bin .fdiv ⇑2 ↑40)<|.bi .len #[.idx ⇑1 ↑1]],.expr<|.meth "Yard" "deed" ⇑0 #[.tup #[.cst<|.str "fall",.cst<|.str "tie",.idx ⇑4 ↑0]]] .nil,.ret<|.tup #[⇑3,⇑4]]}
instance T4:Fn:={ar:=1,sz:=11,body:=#[.set (.one 1)<|.call "_law_net" #[.call "_law_cell_at" #[⇑0,↑0],.call "_law_cell_at" #[⇑0,↑1]],.set (.one 2)<|.make "Yard" #[⇑1,.call "_law_greatest" #[.call "_law_cell_at" #[⇑0,↑0]]],.set (.one 3)<|.call "_law_cell_at" #[⇑0,↑2],.set (.many [4,5])<|.call "_law_begun" #[⇑2,⇑1,⇑3],.set (.one 6)<|.comp [4] 1 (.one 0) (.seq<|.idx ⇑1 ↑0) (.val<|.cmp .notin ⇑0 ⇑1) ⇑0,.set (.one 7)<|.idx ⇑6<|.bin .mod (.bin .fdiv ⇑3 ↑1000)<|.bi .len #[⇑6],.set (.one 8)<|.call "_law_seen" #[⇑2,⇑1],.for (.one 9) (.seq<|.slc ⇑0 (.some ↑3)<|.some ↑50) #[.set (.one 10)<|.call "_law_words" #[⇑7,.bi .len #[.idx ⇑1 ↑1]],.ite (.val<|.cmp .eq (.bin .mod ⇑9 ↑3) ↑1) #[.set (.one 10)<|.call "_law_kinds" .nil] .nil,.ite (.val<|.cmp .eq (.bin .mod ⇑9 ↑3) ↑0) #[.set (.one 10)<|.call "_law_here" #[⇑1,⇑4,⇑5,.bin .fdiv ⇑9 ↑1000]] .nil,.ite (.not<|.val<|.call "_law_refused" #[⇑2,.idx ⇑10<|.bin .mod (.bin .fdiv ⇑9 ↑3)<|.bi .len #[⇑10]]) #[.ret<|.cst<|.bl fe] .nil,.ite (.val<|.cmp .ne (.call "_law_seen" #[⇑2,⇑1]) ⇑8) #[.ret<|.cst<|.bl fe] .nil],.ret<|.call "_law_taken_then" #[⇑2,⇑1,.call "_law_sends" #[⇑1,⇑4,⇑5,⇑7],⇑7]]}
class Al(P:Pg):Prop where
 c0:P "is_whole" = eZ T3
 c1:P "neighbours" = eZ VC
 c2:P "far_end" = eZ T1
 c3:P "newer" = eZ VD
 c4:P "best_offer" = eZ Tv
 c5:P "Bridge.__init__" = eZ TK
 c6:P "Bridge.label" = eZ TU
 c7:P "Bridge.stamp" = eZ TF
 c8:P "Bridge.held" = eZ TW
 c9:P "Bridge.up" = eZ TQ
 c10:P "Bridge.down" = eZ TZ
 c11:P "Bridge.hear" = eZ TX
 c12:P "Bridge.tick" = eZ TL
 c13:P "Bridge.let_grow_older" = eZ TB
 c14:P "Bridge.reckon_label" = eZ TD
 c15:P "Bridge.take_label" = eZ TH
 c16:P "Bridge.letter_over" = eZ TC
 c17:P "Bridge.is_rested_on" = eZ TN
 c18:P "Bridge.is_agreed_to" = eZ TM
 c19:P "Bridge.end" = eZ TY
 c20:P "Yard.__init__" = eZ Tu
 c21:P "Yard.road" = eZ Tg
 c22:P "Yard.down" = eZ Tw
 c23:P "Yard.labels" = eZ Tf
 c24:P "Yard.stamps" = eZ Tp
 c25:P "Yard.ends" = eZ Tk
 c26:P "Yard.end_at" = eZ Tj
 c27:P "Yard.has_tie" = eZ To
 c28:P "Yard.deed" = eZ Tx
 c29:P "Yard.tick_of" = eZ Tr
 c30:P "Yard.come" = eZ Tz
 c31:P "Yard.take_off" = eZ Tq
 c32:P "Yard.fall_of_bridge" = eZ Tm
 c33:P "Yard.fall_of_tie" = eZ Tn
 c34:P "Yard.back_of_bridge" = eZ TR
 c35:P "Yard.back_of_tie" = eZ TV
 c36:P "Yard.set_ties_of" = eZ Tl
 c37:P "Yard.set_tie" = eZ Ti
 c38:P "read_deed" = eZ VE
 c39:P "_law_cell_at" = eZ T7
 c40:P "_law_mixed" = eZ VX
 c41:P "_law_draws" = eZ T8
 c42:P "_law_bridges" = eZ T6
 c43:P "_law_tie" = eZ VA
 c44:P "_law_net" = eZ VW
 c45:P "_law_greatest" = eZ T9
 c46:P "_law_same" = eZ VM
 c47:P "_law_seen" = eZ VN
 c48:P "_law_refused" = eZ VJ
 c49:P "_law_words" = eZ VB
 c50:P "_law_kinds" = eZ VY
 c51:P "_law_here" = eZ VZ
 c52:P "_law_sends" = eZ VO
 c53:P "_law_taken_then" = eZ VU
 c54:P "_law_begun" = eZ T5
 c55:P "law" = eZ T4
set_option hygiene false in
local macro_rules|`(#check $r:ident $c:ident $d:ident $s:str $a:num $z:num)=>do
 let v:=(Array.range a.getNat).map λi=>Lean.mkIdent (.mkSimple s!"a{i}")
 let e<-(Array.range z.getNat).mapM λi=>if i<a.getNat then `(eZ $(v[i]!))else`(fb)
 `(theorem $r [Al P](q:B0 P n $d [$e,*] h Q X):wF P (n+1) $s [$v,*] h Q X:=Zd $c rfl q)
#check JY Al.c0 T3 "is_whole" 1 1
#check MP Al.c1 VC "neighbours" 2 5
#check AH Al.c2 T1 "far_end" 2 2
#check Ht Al.c3 VD "newer" 2 2
#check Nd Al.c4 Tv "best_offer" 2 3
#check Ku Al.c5 TK "Bridge.__init__" 5 8
#check JC Al.c6 TU "Bridge.label" 1 1
#check JB Al.c7 TF "Bridge.stamp" 1 1
#check Kz Al.c8 TW "Bridge.held" 2 2
#check Om Al.c9 TQ "Bridge.up" 4 4
#check Kk Al.c10 TZ "Bridge.down" 2 2
#check Kv Al.c11 TX "Bridge.hear" 3 4
#check KC Al.c12 TL "Bridge.tick" 1 2
#check YF Al.c13 TB "Bridge.let_grow_older" 1 4
#check Xc Al.c14 TD "Bridge.reckon_label" 1 8
#check XC Al.c15 TH "Bridge.take_label" 2 2
#check Xi Al.c16 TC "Bridge.letter_over" 2 8
#check Y6 Al.c17 TN "Bridge.is_rested_on" 2 3
#check Xa Al.c18 TM "Bridge.is_agreed_to" 2 3
#check M5 Al.c19 TY "Bridge.end" 2 2
#check Ov Al.c20 Tu "Yard.__init__" 3 4
#check N5 Al.c21 Tg "Yard.road" 1 1
#check NV Al.c22 Tw "Yard.down" 1 2
#check Kl Al.c23 Tf "Yard.labels" 1 1
#check Kq Al.c24 Tp "Yard.stamps" 1 1
#check Nz Al.c25 Tk "Yard.ends" 2 5
#check Kr Al.c26 Tj "Yard.end_at" 3 3
#check ZP Al.c27 To "Yard.has_tie" 2 2
#check WT Al.c28 Tx "Yard.deed" 2 4
#check Xu Al.c29 Tr "Yard.tick_of" 2 5
#check Xk Al.c30 Tz "Yard.come" 2 6
#check Y4 Al.c31 Tq "Yard.take_off" 2 2
#check ZQ Al.c32 Tm "Yard.fall_of_bridge" 2 2
#check ZJ Al.c33 Tn "Yard.fall_of_tie" 2 2
#check Zy Al.c34 TR "Yard.back_of_bridge" 2 2
#check Yo Al.c35 TV "Yard.back_of_tie" 2 2
#check XU Al.c36 Tl "Yard.set_ties_of" 2 5
#check J4 Al.c37 Ti "Yard.set_tie" 2 8
#check WQ Al.c38 VE "read_deed" 1 2
#check Kp Al.c39 T7 "_law_cell_at" 2 2
#check Oj Al.c40 VX "_law_mixed" 2 3
#check Nv Al.c41 T8 "_law_draws" 2 6
#check KA Al.c42 T6 "_law_bridges" 1 3
#check Bv Al.c43 VA "_law_tie" 3 8
#check Av Al.c44 VW "_law_net" 2 7
#check Jw Al.c45 T9 "_law_greatest" 1 2
#check O3 Al.c47 VN "_law_seen" 2 3
#check Km Al.c48 VJ "_law_refused" 2 4
#check Og Al.c49 VB "_law_words" 2 3
#check Nk Al.c50 VY "_law_kinds" 0 3
#check OJ Al.c51 VZ "_law_here" 4 10
#check Ni Al.c52 VO "_law_sends" 4 7
#check WD Al.c53 VU "_law_taken_then" 4 5
#check NS Al.c54 T5 "_law_begun" 3 7
#check Ry Al.c55 T4 "law" 1 11
local macro_rules|`(#[$x])=>`(.cons $x .nil)|`(#[$x,$y,*])=>`(.cons $x #[$y,*])
local macro_rules | `(tactic| walk_at "ne")=>`(tactic| first | assumption | (apply Ne.symm; assumption) | ((with_reducible apply ne_none'); (· assumption); (· walk_at "look")) | (apply Ne.symm; (with_reducible apply ne_none'); (· assumption); (· walk_at "look")))
local macro_rules | `(tactic| walk_at "look")=>`(tactic| first | assumption | with_reducible exact fh | ((with_reducible apply upd_ne'); (· walk_at "ne"); (· walk_at "look")) | ((with_reducible apply Ext.get); (· assumption); (· walk_at "look")) | ((with_reducible apply ExtB.get); (· assumption); (· walk_at "ne"); (· walk_at "look")))
local macro_rules | `(tactic| walk_at "ar")=>`(tactic| first | decide | lia | assumption | (simp only [Ì,Ĩ]; decide))
local macro_rules | `(tactic| walk_at "mul")=>`(tactic| first | exact .inl (.inr<|by lia) | exact .inl (.inl<|by lia) | exact .inr ⟨by decide,by decide⟩)
local macro_rules | `(tactic| walk_at "setl")=>`(tactic| first | (simp only [Ŗ,Ζ,Χ,ů,List.foldl_nil,Ϻ,aa]; done) | (simp only [Ŗ,Ζ,Χ,ů,List.foldl_nil,Ϻ,aa]; exact rfl) | exact rfl)
local macro_rules | `(tactic| walk_at "w")=>`(tactic| with_reducible conv=>whnf)
local macro_rules | `(tactic| walk_at "py1")=>do
 let a<-[`dw0,`b_add,`b_sub,`g_int,`g_bl,`g_ref,`g_tbl,`c_lt,`c_gt,`c_le,`c_ge,`c_eqI,`c_neI,`c_isN,`c_notN,`ag_add,`ln_scr,`ln_tup,`mx2,`sl_scr,`it_tup].toArray.mapM λn=>`(tactic| refine $(Lean.mkIdent n) ?_)
 let c<-[`ln_lst,`tp_lst,`ls_lst,`sl_lst,`it_lst,`dc_of].toArray.mapM λn=>`(tactic| ((with_reducible apply $(Lean.mkIdent n)); (· walk_at "look")))
 `(tactic| first
 |(with_reducible first $[| $a:tactic]*)
 |((with_reducible apply RI);(· exact rfl))
 |((with_reducible apply PD);(· walk_at "setl"))|((with_reducible apply Pl);(· (simp only[bindL,Ϻ,aa];exact rfl)))|((with_reducible apply b_mul);(· walk_at "mul"))|((with_reducible apply b_fdiv);(· walk_at "ar"))|((with_reducible apply b_mod);(· walk_at "ar"))|((with_reducible apply Iq);(· walk_at "ar");(· simp only[Int.reduceToNat,Int.reducePow];exact rfl))|((with_reducible apply D3);(· walk_at "look");(· walk_at "look");(· first|(simp only[aE,List.nil_append,Ì,Ĩ];decide)|lia))|((with_reducible apply LP);(· walk_at "ar"))
 |((with_reducible apply fm);(· exact rfl))|((with_reducible apply Zj);(· walk_at "look");(· exact rfl))
 |((with_reducible apply YA);(· walk_at "look");(· walk_at "ar"))|((with_reducible apply Ii);(· walk_at "look");(· exact rfl))|((with_reducible apply ID);(· walk_at "look");(· exact rfl))
 |((with_reducible apply RE);(· exact rfl))|((with_reducible apply f9);(· decide))
 | ((with_reducible apply II);(· first | exact .inl rfl | exact .inr (.inl rfl) | simp);(· walk_at "look")) | ((with_reducible apply P8);(· first | exact rfl | simp);(· walk_at "look")) | ((with_reducible apply YE);(· walk_at "look");(· walk_at "ar")) | (first $[| $c:tactic]*))
local macro_rules | `(tactic| fail)=>`(tactic| ((repeat walk_at "py1"); walk_at "w"))
local macro_rules | `(tactic| walk_at "p")=>`(tactic| ((repeat first | walk_at "py1" | refine gb rfl ?_ | refine gc rfl ?_); walk_at "w"))
local macro_rules | `(tactic| exists $e)=>`(tactic| (fail; refine $e ?_))
local macro_rules | `(tactic| refine' $e)=>`(tactic| (fail; refine $e))
section
variable {α:Type}(val:α->Val)
abbrev Zi(kvs:List<|Int×α):List<|Val×Val:=kvs.map λp=>(.int p.1,val p.2)
abbrev Zo(kvs:List<|Int×α)(k:Int)(v:α):List<|Int×α:=if(kvs.lookup k).isSome then kvs.map (λp=>if p.1=k then(k,v)else p)else kvs++[(k,v)]
abbrev Zg(kvs:List<|Int×α)(k:Int):List<|Int×α:=kvs.filter λp=>gN (p.1≠k)
variable {val}
def Jd(a b:Int):(Val.int a==Val.int b)=gN (a=b):=by
 by_cases e:a=b
 .subst e;simp
 .rw[gJ e];exact beq_eq_false_iff_ne.mpr λz=>e (by injection z)
def Z5(kvs:List<|Int×α)(k:Int):fI (Zi val kvs) (.int k)=(kvs.lookup k).map val:=by
 induction kvs with
 |nil=>rfl
 |cons p r ih =>
  unfold fI Zi at ih ⊢;rw[É,ę,â,Jd];by_cases e:p.1=k
  .have:(k==p.1)=fc:=by simp[e]
   simp[e]
  .have h2:(k==p.1)=fe:=by simpa using λz=>e z.symm
   rw[gJ e,h2];exact ih
def Z3(kvs:List<|Int×α)(k:Int):fJ (Zi val kvs) (.int k)=(kvs.lookup k).isSome:=by
 induction kvs with
 |nil=>rfl
 |cons p r ih =>
  unfold fJ Zi at ih ⊢;rw[É,Ģ,â,Jd];by_cases e:p.1=k
  .simp[e]
  .have h2:(k==p.1)=fe:=by simpa using λz=>e z.symm
   rw[gJ e,h2];exact ih
def Z8(kvs:List<|Int×α)(k:Int)(v:α):fK (Zi val kvs) (.int k) (val v)=Zi val (Zo kvs k v):=by
 unfold fK Zo;rw[Z3];split
 .unfold Zi;rw[ü,ü];refine ħ λp _=>?_;simp only[ce,Jd];by_cases e:p.1=k
  .simp[e]
  .simp[e]
 .unfold Zi;rw[ã];rfl
def Wr(kvs:List<|Int×α)(k:Int):fL (Zi val kvs) (.int k)=Zi val (Zg kvs k):=by
 unfold fL Zg Zi;induction kvs with
 |nil=>rfl
 |cons p r ih =>rw[É,þ,þ,Jd,ih];by_cases e:p.1=k<;>simp[e]
def Wf(ns:List Int):fo (ns.map Val.int)=eZ ns:=by
 induction ns with
 |nil=>rfl
 |cons n ns ih=>show(fo<|ns.map Val.int).map _=_;rw[ih];rfl
def UA(kvs:List<|Int×α):keysOf (Zi val kvs)=eZ (kvs.map (·.1)):=by unfold keysOf Zi;rw[ü];exact(congrArg fo (ü (f:=λp:Int×α=>p.1) (g:=Val.int) (l:=kvs)).symm).trans (Wf _)
def Kw(kvs:List<|Int×α):(Zi val kvs).length=kvs.length:=by unfold Zi;rw[Ã]
variable {kvs:List (Int×α)}
def Zn{k:Int}{v:α}(h:kvs.lookup k=eZ v):(k,v)∈kvs:=by
 induction kvs with
 |nil=>cases h
 |cons p r ih =>
  rw[â]at h;by_cases e:k=p.1
  .have:(k==p.1)=fc:=by simp[e]
   rw[this]at h;cases h;rw[e];exact î
  .have:(k==p.1)=fe:=⇑e
   rw[this]at h;exact Þ _<|ih h
def ZK{k:Int}(h:k∈kvs.map (·.1)):∃v,kvs.lookup k=eZ v:=by
 induction kvs with
 |nil=>cases h
 |cons p r ih =>
  rw[â];by_cases e:k=p.1
  .have:(k==p.1)=fc:=by simp[e]
   rw[this];exact⟨_,rfl⟩
  .have:(k==p.1)=fe:=⇑e
   rw[this];rw[É,Ç]at h;exact ih<|h.resolve_left e
def Xv{k:Int}(h:kvs.lookup k=fb):k∉kvs.map (·.1):=λm=>by let⟨v,e⟩:=ZK m;rw[h]at e;cases e
def WY(nd:(kvs.map (·.1)).Nodup){k:Int}{v:α}(h:(k,v)∈kvs):kvs.lookup k=eZ v:=by
 induction kvs with
 |nil=>cases h
 |cons p r ih =>
  rw[É,ć]at nd;rw[â];rcases Ç.mp h with e|h
  .subst e;simp
  .have:k≠p.1:=λz=>nd.1 (z▸ú (f:=(·.1)) h);have:(k==p.1)=fe:=⇑this
   rw[this];exact ih nd.2 h
def X5(kvs:List<|Int×α)(k:Int)(v:α):(Zo kvs k v).map (·.1)=if(kvs.lookup k).isSome then kvs.map (·.1)else kvs.map (·.1)++[k]:=by
 unfold Zo;split
 .rw[ü];refine ħ λp _=>?_;simp only[ce];by_cases e:p.1=k<;>simp[e]
 .rw[ã];rfl
def Wi{k:Int}(v:α)(h:k∉kvs.map (·.1)):Zo kvs k v=kvs++[(k,v)]:=by
 unfold Zo;have:kvs.lookup k=fb:=by
  cases e:kvs.lookup k with
  |none=>rfl
  |some w=>exact gM (ú (f:=(·.1))<|Zn e) h
 rw[this];rfl
def Wy(nd:(kvs.map (·.1)).Nodup)(k:Int)(v:α):((Zo kvs k v).map (·.1)).Nodup:=by
 rw[X5];split
 .exact nd
 .rename_i h;have h:kvs.lookup k=fb:=η.mp h;rw[é];refine⟨nd,by simp,λa ha b hb=>?_⟩;rw[ß.mp hb];exact λe=>Xv h<|e▸ha
variable {p:Int×α}
def W5{k:Int}{v:α}(h:p∈Zo kvs k v):p=(k,v)\/p∈kvs:=by
 unfold Zo at h;split at h
 .obtain⟨q,hq,e⟩:=Û.mp h;split at e
  .exact .inl e.symm
  .exact .inr<|e▸hq
 .rcases å.mp h with h|h
  .exact .inr h
  .exact .inl<|ß.mp h
def Nr(kvs:List<|Int×α)(k:Int):(Zg kvs k).Sublist kvs:=Ļ
def YZ(nd:(kvs.map (·.1)).Nodup)(k:Int):((Zg kvs k).map (·.1)).Nodup:=nd.sublist ((Nr kvs k).map _)
def Fb{k:Int}(h:p∈Zg kvs k):p.1≠k:=by unfold Zg at h;have:=(ø.mp h).2;simpa using this
end
def Yb:∀{m:Nat}{ns:List Int},ns.Nodup->(∀x∈ns,0<=x/\x<m)->ns.length<=m
 |0,ns,nd,h=>by
  cases ns with
  |nil=>exact Ñ _
  |cons x xs=>have:=h x î;lia
 |m+1,ns,nd,h=>by
  by_cases hm:(m:Int)∈ns
  .have:=Yb (m:=m) (nd.erase (m:Int)) λx hx=>by
    have h1:=(nd.mem_erase_iff).mp hx;have h2:=h x h1.2;have:=h1.1;lia
   rw[b4 hm]at this;lia
  .have:=Yb (m:=m) nd λx hx=>by
    have h2:=h x hx;have:x≠(m:Int):=λe=>hm<|e▸hx;lia
   lia
noncomputable abbrev Pi:=Int×Int
noncomputable abbrev pV(p:Pi):Val:=.tup [.int p.1,.int p.2]
abbrev oV:Option Pi->Val
 |none=>.non
 |some p=>pV p
structure L where
 num:Pi
 st:Pi
 root:Int
 cost:Int
 age:Int
 rests:Option Pi
 agrees:Option Pi
noncomputable abbrev L.v(l:L):Val:=.tup [pV l.num,pV l.st,.int l.root,.int l.cost,.int l.age,oV l.rests,oV l.agrees]
noncomputable abbrev Bn(t:Int×Int):Val:=.tup [.int t.1,.int t.2]
noncomputable abbrev hdV(t:L×Int):Val:=.tup [t.1.v,.int t.2]
structure Lab where
 root:Int
 cost:Int
 up:Option<|Int×Pi
 deriving DecidableEq
abbrev upV:Option (Int×Pi)->Val
 |none=>.non
 |some p=>.int p.1
abbrev rsV:Option (Int×Pi)->Val
 |none=>.non
 |some p=>pV p.2
noncomputable abbrev Lab.v(l:Lab):Val:=.tup [.int l.root,.int l.cost,upV l.up,rsV l.up]
structure Br where
 number:Int
 life:Int
 most:Int
 ties:List<|Int×(Int×Int)
 held:List<|Int×(L×Int)
 label:Lab
 version:Int
 count:Int
structure fv(h:Hs)(b t d:Ad)(B:Br):Prop where
 ins:h b=eZ (.ins "Bridge" [("number",.int B.number),("life",.int B.life),("age_let_go",.int B.most),("ties_by_place",.ref t),("held_by_place",.ref d),("label_now",B.label.v),("version",.int B.version),("ticks_had",.int B.count)])
 ties:h t=eZ (.dct<|Zi Bn B.ties)
 held:h d=eZ (.dct<|Zi hdV B.held)
 ne:t≠d
variable {h:Hs} {b:Ad} {o:Ob}
def Dz{a:Ad}{u:Ob}(ha:h a=eZ o)(hb:h b=eZ u)(ne:o≠u):a≠b:=λe=>by subst e;rw[ha]at hb;exact ne (ï hb)
variable {d:Ad} {B:Br}
def fv.nbt{t:Ad}(x:fv h b t d B):b≠t:=Dz x.ins x.ties nofun
def fv.nbd{t:Ad}(x:fv h b t d B):b≠d:=Dz x.ins x.held nofun
structure Ex(S:List Ad)(h g:Hs):Prop where
 get:∀{a:Ad}{o:Ob},a∉S->h a=eZ o->g a=eZ o
def Ex.refl{S:List Ad}:Ex S h h:=⟨λ_ e=>e⟩
variable {g:Hs}
def Ex.trans{k:Hs}{S:List Ad}(e:Ex S h g)(f:Ex S g k):Ex S h k:=⟨λn x=>f.get n<|e.get n x⟩
def Ex.of{S:List Ad}(e:Ext h g):Ex S h g:=⟨λ_ x=>e.get x⟩
def Ex.upd{S:List Ad}{w:Ad}(m:w∈S):Ex S h<|upd h w o:=⟨λ{a _} n x=>by rw[ff λe:a=w=>n<|by rw[e];exact m];exact x⟩
def Ex.sub{S T:List Ad}(e:Ex S h g)(m:∀a∈S,a∈T):Ex T h g:=⟨λn x=>e.get (λz=>n<|m _ z) x⟩
variable {p:Ad}
def Ex.none(e:Ex [b] h g)(hb:g b≠fb)(hp:g p=fb):h p=fb:=by
 cases z:h p with
 |none=>rfl
 |some o =>
  by_cases hpb:p=b
  .subst hpb;exact gM hp hb
  .rw[e.get ⇑hpb z]at hp;cases hp
def fv.keep{t:Ad}{S:List Ad}(x:fv h b t d B)(e:Ex S h g)(hb:b∉S)(ht:t∉S)(hd:d∉S):fv g b t d B:=⟨e.get hb x.ins,e.get ht x.ties,e.get hd x.held,x.ne⟩
def fv.ext{t:Ad}(x:fv h b t d B)(e:Ext h g):fv g b t d B:=⟨e.get x.ins,e.get x.ties,e.get x.held,x.ne⟩
def nw{Q:Q1}(q:∀p,h p=fb->Q (.ref p) (upd h p o)):new h o Q:=Xf q
abbrev YH(most:Int)(held:List<|Int×(L×Int)):List<|Int×(L×Int):=held.filterMap λp=>if p.2.2+1<most then eZ (p.1,(p.2.1,p.2.2+1))else fb
variable {most:Int}
def Bf{held:List (Int×(L×Int))}{p:Int×(L×Int)}(h:p∈YH most held):∃a,(p.1,(p.2.1,a))∈held:=by
 let⟨q,hq,e⟩:=Ε.mp h;split at e
 .cases e;exact⟨_,hq⟩
 .cases e
def J6(most:Int)(held:List<|Int×(L×Int)):((YH most held).map (·.1)).Sublist (held.map (·.1)):=by
 unfold YH;induction held with
 |nil=>exact ū _
 |cons p r ih =>
  rw[Đ];split
  .exact ih.cons _
  .rename_i q e;split at e
   .cases e;exact ih.cons₂ _
   .cases e
def AV(most:Int)(held:List<|Int×(L×Int)):(YH most held).length<=held.length:=bV _ _
def Yl{α β:Type}{f:α->β}:∀{xs:List α}{i:Nat}{q:α},(xs.map f).Nodup->xs[i]?=eZ q->f q∉(xs.take i).map f
 |[],_,_,_,h=>by simp at h
 |x::xs,0,_,_,_=>by simp
 |x::xs,i+1,q,nd,h=>by
  rw[É,ć]at nd;have h:xs[i]?=eZ q:=⇑h
  rw[ϲ,É,Ç,not_or];exact⟨λe=>nd.1<|e▸ú (ë h),Yl nd.2 h⟩
variable {α:Type} {xs:List α} {i:Nat} {x:α}
def Zm(h:xs[i]?=eZ x):xs.take (i+1)=xs.take i++[x]:=by rw[Ψ,h];rfl
def ZT{f:α->Val}{v:Val}(h:(xs.map f)[i]?=eZ v):∃x,xs[i]?=eZ x/\v=f x:=by rw[Ú]at h;let⟨x,h1,h2⟩:=Í.mp h;exact⟨x,h1,h2.symm⟩
variable {kvs:List (Int×α)}
def NL{val:α->Val}{v:Val}(h:((Zi val kvs).map<|itemOf fe)[i]?=eZ v):∃p,kvs[i]?=eZ p/\v=.tup [.int p.1,val p.2]:=by let⟨q,h1,rfl⟩:=ZT h;unfold Zi at h1;rw[Ú]at h1;let⟨x,h2,rfl⟩:=Í.mp h1;exact⟨x,h2,rfl⟩
def HF{val:α->Val}(kvs:List<|Int×α):((Zi val kvs).map<|itemOf fe).length=kvs.length:=by rw[Ã,Kw]
variable {P:Pg} [Al P] {n:Nat}{h:Hs}{w b t d st a f tt hh:Ad}{S B:Br}{c:Int}{all:List (Int×Int)}{ps:List Int}{Q:Q1}{X:XQ}
def Cw(x:fv h b t d B)(k:Q B.label.v h):wF P (n+1) "Bridge.label" [.ref b] h Q X:=by let⟨hi,ht,hd,ŭ⟩:=x;refine JC ?_;refine' k
def Xo(x:fv h b t d B)(k:Q (pV (B.life,B.version)) h):wF P (n+1) "Bridge.stamp" [.ref b] h Q X:=by let⟨hi,ht,hd,ŭ⟩:=x;refine JB ?_;refine' k
abbrev hdO:Option (L×Int)->Val
 |none=>.non
 |some p=>hdV p
def MC{p:Int}(x:fv h b t d B)(k:Q (hdO<|B.held.lookup p) h):wF P (n+1) "Bridge.held" [.ref b,.int p] h Q X:=by
 let⟨hi,ht,hd,ŭ⟩:=x;refine Kz ?_
 exists Pd (v:=.int p) hd rfl
 rw[Z5];cases e:B.held.lookup p with
 |none=>rw[e]at k;exact k
 |some q=>rw[e]at k;exact k
def Ha(x:fv h b t d B)(nd:(B.held.map (·.1)).Nodup)(hl:B.held.length<1000)(k:∀d' g,h d'=fb->fv g b t d' {B with held:=YH B.most B.held}->Ex [b] h g->Q .non g):wF P (n+1) "Bridge.let_grow_older" [.ref b] h Q X:=by
 let⟨hi,ht,hd,ŭ⟩:=id x;refine YF ?_;fail;intro p hp;have npd:=Za hd hp;have npb:=Za hi hp;have npt:=Za ht hp;have nbd:=x.nbd;refine' Zs (λi e g=>Sm2 λu v=>Cj4 (e=[eZ<|.ref b,eZ<|.ref p,u,v]) (g p=eZ (.dct<|Zi hdV<|YH B.most<|B.held.take i)) (g d=eZ (.frz<|Zi hdV B.held))<|Ex [d] h g) ⟨fb,fb,rfl,by rw[ff npd.symm];exact fh,fh,?_⟩ ?_ ?_ ?_
 .exact⟨λm e=>by rw[ff λz=>m<|by simp[z],ff<|Za e hp];exact e⟩
 .rintro i e g hi2 ⟨u,v,rfl,h1,h2,h3⟩;exact h2
 .rintro i v e g hv ⟨u,w,rfl,h1,h2,h3⟩ K hK;let⟨q,hq,rfl⟩:=NL hv;have hi1:=h3.get ⇑nbd hi;let⟨pl,l,a⟩:=q;have e1:YH B.most (B.held.take<|i+1)=YH B.most (B.held.take i)++YH B.most [(pl,(l,a))]:=by
   unfold YH;rw[Zm hq,List.filterMap_append]
  refine' gf (λhc=>?_) (λhc=>?_)
  .refine' YY (k:=.int pl) h1 ⟨rfl,?_⟩ ?_
   .rw[Kw];have h5:=AV B.most<|B.held.take i;have h6:(B.held.take i).length<=B.held.length:=Ϥ _ _;exact Ü (Ý h5 h6) (ε hl<|by decide)
   fail;rw[show Val.tup [l.v,.int<|a+1]=hdV (l,a+1) from rfl,Z8];refine hK _ _ ⟨_,_,rfl,?_,?_,?_⟩
   .rw[fh,e1,Wi]
    .unfold YH;rw[Đ,gG hc];rfl
    .exact λm=>Yl nd hq<|(J6 _ _).subset m
   .rw[ff npd];exact h2
   .exact⟨λm e=>by rw[ff<|Za e hp];exact h3.get m e⟩
  .refine' hK _ _ ⟨_,_,rfl,?_,h2,h3⟩;rw[h1,e1];unfold YH;rw[Đ,gH hc];simp
 .rintro e g ⟨u,v,rfl,h1,h2,h3⟩;have hi1:=h3.get ⇑nbd hi;rw[HF,ÿ]at h1;refine⟨h2,?_⟩;refine' k p _ hp ⟨fh,?_,?_,npt⟩ ?_
  .rw[ff x.nbt.symm,ff ŭ];exact h3.get ⇑ŭ ht
  .rw[ff npb.symm,ff npd.symm];exact h1
  .refine⟨λ{c o} m e=>?_⟩;rw[ff<|by simpa using m];by_cases bB:c=d
   .subst bB;rw[fh,<-e];exact hd.symm
   .rw[ff bB];exact h3.get ⇑bB e
def GY(x:α)(xs:List α):atI (x::xs) 0=eZ x:=by unfold atI ixN;rw[gG (by decide),gG<|by simp];rfl
abbrev Wh(r:List Int):Val:=.tup<|r.map .int
def BY(Ġ:List<|List Int):rowsOf (Ġ.map Wh)=eZ Ġ:=by
 induction Ġ with
 |nil=>rfl
 |cons r rs ih =>show(fo<|r.map .int).bind (λns=>(rowsOf<|rs.map Wh).map (ns :: ·))=_;rw[Wf,ih];rfl
abbrev YO(number:Int)(Ġ:List<|List Int):Option<|List Int:=match Ġ.filter (λr=>gN (r.headD 0<number))with
 |[]=>fb
 |x::r=>eZ<|minR x r
abbrev Fe:Option (List Int)->Val
 |none=>.non
 |some r=>Wh r
def NR:∀(r:List<|List Int) (x:List Int),minR x r∈x::r
 |[],x=>î
 |y::r,x=>by
  show minR (if fS y x then y else x) r∈x::y::r;have h:=NR r (if fS y x then y else x);rcases Ç.mp h with e|h
  .rw[e];split
   .simp
   .simp
  .simp[h]
variable {number:Int} {Ġ:List (List Int)}
def NK{m:List Int}(h:YO number Ġ=eZ m):m∈Ġ:=by
 unfold YO at h;split at h
 .cases h
 .rename_i x r e;cases h;have:minR x r∈Ġ.filter (λr=>gN (r.headD 0<number)):=by rw[e];exact NR r x
  exact(ø.mp this).1
variable {l:Ad}
def Fu(hl:h l=eZ (.lst<|Ġ.map Wh))(h0:∀r∈Ġ,r≠[])(hn:Ġ.length<1000)(k:∀g,Ext h g->Q (Fe<|YO number Ġ) g):wF P (n+1) "best_offer" [.int number,.ref l] h Q X:=by
 refine Nd ?_;refine' ⟨by rw[Ã];exact ε hn (by decide),?_⟩;refine Yg (λv=>match v with|.tup (.int i::xs)=>if i<number then eZ v else fb|_=>fb) (lsE hl) ?_ ?_
 .intro v hv K hK;let⟨r,hr,rfl⟩:=Û.mp hv;cases r with
  |nil=>exact gM rfl<|h0 _ hr
  |cons i xs =>
   have hK:K (if i<number then eZ (Wh<|i::xs)else fb) h:=hK;rw[show Wh (i::xs)=.tup (.int i::xs.map .int) from rfl]at hK ⊢
   exists fm (GY _ _)
   refine' gf (λhc=>?_) (λhc=>?_)
   .rw[gG hc]at hK;refine' hK
   .rw[gH hc]at hK;exact hK
 .refine Xf λp hp=>?_;fail;have e1:(Ġ.map Wh).filterMap (λv=>match v with|.tup (.int i::xs)=>if i<number then eZ v else fb|_=>fb)=(Ġ.filter λr=>gN (r.headD 0<number)).map Wh:=by
   clear hl k hn;induction Ġ with
   |nil=>rfl
   |cons r rs ih =>
    have ih:=ih λr hr=>h0 r<|Þ _ hr;cases r with
    |nil=>exact gM rfl<|h0 _ î
    |cons i xs =>
     rw[É,Đ,þ];by_cases hc:i<number
     .simp only[Wh,É,gG hc,List.headD_cons,hc,decide_true,if_true]at ih ⊢;rw[ih]
     .simp only[Wh,É,gH hc,List.headD_cons,hc,decide_false,İ,if_false]at ih ⊢;rw[ih]
  rw[e1];have hx:Ext h<|upd h p<|.lst<|(Ġ.filter λr=>gN (r.headD 0<number)).map Wh:=Ext.new hp;cases e2:Ġ.filter λr=>gN (r.headD 0<number)with
  |nil =>rw[e2]at hx;refine Pn fh ?_;have:=k _ hx;unfold YO at this;rw[e2]at this;exact this
  |cons x r =>rw[e2]at hx;refine FV fh (BY<|x::r) ?_;have:=k _ hx;unfold YO at this;rw[e2]at this;exact this
abbrev Ou(ties:List<|Int×(Int×Int))(p:Int):Int×Int:=(ties.lookup p).getD (0,0)
abbrev MG(ties:List<|Int×(Int×Int))(q:Int×(L×Int)):List Int:=[q.2.1.root,q.2.1.cost+(Ou ties q.1).2,(Ou ties q.1).1,q.1]
abbrev MR(ties:List<|Int×(Int×Int))(held:List<|Int×(L×Int)):List<|List Int:=held.map<|MG ties
abbrev Hu(held:List<|Int×(L×Int))(p:Int):Pi:=((held.lookup p).map (·.1.st)).getD (0,0)
abbrev Yy(B:Br):Lab:=match YO B.number (MR B.ties B.held)with
 |none=>⟨B.number,0,fb⟩
 |some m=>⟨m.getD 0 0,m.getD 1 0,eZ (m.getD 3 0,Hu B.held<|m.getD 3 0)⟩
def Ip{ties:List (Int×(Int×Int))}{p:Int}(h:(ties.lookup p).isSome=fc):ties.lookup p=eZ (Ou ties p):=by
 unfold Ou;cases e:ties.lookup p with
 |none=>rw[e]at h;cases h
 |some v=>rfl
def A2(x:fv h b t d B)(sub:∀q∈B.held,(B.ties.lookup q.1).isSome=fc)(hn:B.held.length<1000)(k:∀g,Ext h g->Q (Yy B).v g):wF P (n+2) "Bridge.reckon_label" [.ref b] h Q X:=by
 let⟨hi,ht,hd,ŭ⟩:=id x;refine Xc ?_;refine' Xf λp hp=>?_;have npd:=Za hd hp;have npb:=Za hi hp;have npt:=Za ht hp;have nbd:=x.nbd;refine' Zs (λi e g=>Sm4 λu v w z=>Cj4 (e=[eZ<|.ref b,eZ<|.ref p,u,v,w,z,fb,fb]) (g p=eZ (.lst<|(MR B.ties<|B.held.take i).map Wh)) (g d=eZ (.frz<|Zi hdV B.held))<|Ex [d] h g) ⟨fb,fb,fb,fb,rfl,by rw[ff npd.symm];exact fh,fh,?_⟩ ?_ ?_ ?_
 .exact⟨λm e=>by rw[ff λz=>m<|by simp[z],ff<|Za e hp];exact e⟩
 .rintro i e g hi2 ⟨u,v,w,z,rfl,h1,h2,h3⟩;exact h2
 .rintro i v e g hv ⟨u,v,w,z,rfl,h1,h2,h3⟩ K hK;let⟨q,hq,rfl⟩:=NL hv;have hi1:=h3.get ⇑nbd hi;have ht1:=h3.get ⇑ŭ ht;have hs:=Ip<|sub q<|ë hq;let⟨pl,l,a⟩:=q;generalize htt:Ou B.ties pl=tt at hs;let⟨nb,c⟩:=tt;refine' ZX ht1 rfl (by rw[Z5,hs];rfl) ?_;refine' YE h1 ?_ ?_
  .rw[Ã];unfold MR;rw[Ã];exact Ü (Ϥ _ _) (ε hn<|by decide)
  dsimp only;refine' hK _ _ ⟨_,_,_,_,rfl,?_,?_,?_⟩
  .rw[fh,Zm hq];unfold MR MG;rw[ã,ã,É,htt];rfl
  .rw[ff npd];exact h2
  .exact⟨λm e=>by rw[ff<|Za e hp];exact h3.get m e⟩
 .rintro e g ⟨u,v,w,z,rfl,h1,h2,h3⟩;have hi1:=h3.get ⇑nbd hi;have hi2:upd g d (.dct<|Zi hdV B.held) b=_:=upd_ne' nbd hi1;rw[HF,ÿ]at h1;have h1':upd g d (.dct<|Zi hdV B.held) p=_:=upd_ne' npd.symm h1;have hx:Ext h<|upd g d<|.dct<|Zi hdV B.held:=⟨λ{c o} e=>by
    by_cases bB:c=d
    . subst bB;rw[fh,<-e];exact hd.symm
    . rw[ff bB];exact h3.get ⇑bB e⟩
  have bC:upd g d (.dct<|Zi hdV B.held) d=_:=fh;refine⟨h2,?_⟩;generalize upd g d (.dct<|Zi hdV B.held)=g2 at hi2 h1' hx bC ⊢;refine' Fu h1' ?_ ?_ λg3 h3=>?_
  .intro r hr;unfold MR at hr;let⟨q,_,rfl⟩:=Û.mp hr;unfold MG;simp
  .unfold MR;rw[Ã];exact hn
  have hi3:=h3.get hi2;have hd3:=h3.get bC;have kk:=k g3<|hx.trans h3;unfold Yy at kk;fail;cases e:YO B.number (MR B.ties B.held)with
  |none =>rw[e]at kk;simp only[Fe];refine gf (λhc=>?_) λhc=>gM trivial hc;refine' kk
  |some m =>rw[e]at kk;have hm:=NK e;unfold MR at hm;let⟨q,hq,rfl⟩:=Û.mp hm;refine gf (λhc=>(by simp[Fe,Wh]at hc)) λhc=>?_;have hlk:∃y,B.held.lookup q.1=eZ y:=ZK (ú (f:=(·.1)) hq);let⟨y,hy⟩:=hlk;unfold MG at kk ⊢;simp only[Fe,Wh,É,ω];refine' ZX hd3 rfl (by rw[Z5,hy];rfl) ?_;fail;unfold Hu at kk;simp only[List.getD_cons_succ,List.getD_cons_zero]at kk;rw[hy]at kk;exact kk
abbrev Gh(l:Lab):D:=.tup [.int l.root,.int l.cost,(match l.up with|none=>.non|some p=>.int p.1),(match l.up with|none=>.non|some p=>.tup [.int p.2.1,.int p.2.2])]
def Ai(h:Hs)(l:Lab):dat h deep l.v=eZ (Gh l):=by let⟨r,c,u⟩:=l;cases u<;>rfl
def LG(h:Hs)(l m:Lab):eqV h l.v m.v=eZ (gN (l=m)):=by
 unfold eqV;rw[Ai,Ai];show eZ (D.eqv (Gh l)<|Gh m)=_;congr 1;let⟨r,c,u⟩:=l;let⟨r',c',u'⟩:=m;unfold Gh;cases u with
 |none=>cases u' with
  |none=>simp only[D.eqv,D.eqvs,Ś];by_cases h1:r=r'<;>by_cases h2:c=c'<;>simp[h1,h2]
  |some q=>simp[D.eqv,D.eqvs]
 |some p=>cases u' with
  |none=>simp[D.eqv,D.eqvs]
  |some q =>let⟨p1,p2,p3⟩:=p;let⟨q1,q2,q3⟩:=q;simp only[D.eqv,D.eqvs,Ś];by_cases h1:r=r'<;>by_cases h2:c=c'<;>by_cases h3:p1=q1<;>by_cases h4:p2=q2<;>by_cases h5:p3=q3<;>simp[h1,h2,h3,h4,h5]
abbrev taken(B:Br)(l:Lab):Br:=if l=B.label then B else {B with label:=l,version:=B.version+1}
variable {u:Val} {KB:Bool->Prop}
def D4{v:Val}{c:Bool}(e:eqV h v u=eZ c)(q:KB (!c)):go (fB h .ne v u) KB:=fk (by show(eqV h v u).map _=_;rw[e];rfl) q
def UQ{v:Val}{c:Bool}(e:eqV h v u=eZ c)(q:KB c):go (fB h .eq v u) KB:=fk e q
def GB{l:Lab}(x:fv h b t d B)(k:∀g,fv g b t d (taken B l)->Ex [b] h g->Q .non g):wF P (n+1) "Bridge.take_label" [.ref b,l.v] h Q X:=by
 let⟨hi,ht,hd,ŭ⟩:=id x;refine XC ?_
 exists D4 (LG h l B.label)
 fail;unfold taken at k;refine Au (λhc=>?_) λhc=>?_
 .rw[gH hc]at k;refine' YA fh (show(8:Nat)<900 by decide) ?_;refine' k _ ⟨?_,?_,?_,ŭ⟩ ?_
  .rw[fi,fh];rfl
  .rw[ff x.nbt.symm,ff x.nbt.symm];exact ht
  .rw[ff x.nbd.symm,ff x.nbd.symm];exact hd
  .exact(Ex.upd<|by simp).trans (Ex.upd<|by simp)
 .rw[gG hc]at k;refine' k h x Ex.refl
def Rt(h:Hs)(r:Option Pi)(s:Pi):eqV h (oV r) (pV s)=eZ (gN (r=eZ s)):=by
 let⟨s1,s2⟩:=s;cases r with
 |none =>show eZ (D.eqv .non<|.tup [.int s1,.int s2])=_;simp[D.eqv]
 |some p =>let⟨p1,p2⟩:=p;show eZ (D.eqv (.tup [.int p1,.int p2])<|.tup [.int s1,.int s2])=_;congr 1;simp only[D.eqv,D.eqvs,Ś];by_cases h1:p1=s1<;>by_cases h2:p2=s2<;>simp[h1,h2]
abbrev J9(B:Br)(p:Int):Bool:=match B.held.lookup p with
 |none=>fe
 |some q=>gN (q.1.rests=eZ (B.life,B.version))
def KI{p:Int}(x:fv h b t d B)(k:Q (.bl<|J9 B p) h):wF P (n+2) "Bridge.is_rested_on" [.ref b,.int p] h Q X:=by
 let⟨hi,ht,hd,ŭ⟩:=id x;refine Y6 ?_
 exists MC x
 unfold J9 at k;fail;cases e:B.held.lookup p with
 |none =>rw[e]at k;refine Au (λhc=>gM rfl hc) λhc=>?_;exact k
 |some q =>
  rw[e]at k;let⟨l,a⟩:=q;refine Au (λhc=>?_) (λhc=>by simp[hdO]at hc);simp only[hdO]
  exists Xo x
  refine UQ (Rt h _ _) ?_;exact k
abbrev FQ(u:Option<|Int×Pi)(p:Int):Bool:=match u with
 |none=>fe
 |some q=>gN (p=q.1)
abbrev Jz(B:Br):Int:=match B.label.up with
 |none=>0
 |some q=>((B.held.lookup q.1).map (·.2)).getD 0+1
abbrev ZE(B:Br)(p:Int):L where
 num:=(B.life,B.count)
 st:=(B.life,B.version)
 root:=B.label.root
 cost:=B.label.cost
 age:=Jz B
 rests:=if FQ B.label.up p then B.label.up.map (·.2)else fb
 agrees:=if FQ B.label.up p then fb else if J9 B p then eZ (Hu B.held p)else fb
def Hv(h:Hs)(p:Int)(u:Option<|Int×Pi):eqV h (.int p) (upV u)=eZ (FQ u p):=by
 cases u with
 |none=>rfl
 |some q =>show eZ (D.eqv (.int p)<|.int q.1)=_;rw[US];rfl
def Hj{p:Int}(x:fv h b t d B)(hu:∀q,B.label.up=eZ q->(B.held.lookup q.1).isSome=fc)(k:Q (ZE B p).v h):wF P (n+3) "Bridge.letter_over" [.ref b,.int p] h Q X:=by
 let⟨hi,ht,hd,ŭ⟩:=id x;refine Xi ?_;fail;have main:wSs (wF P<|n+2) #[.ite (.val<|.cmp .eq (.var 1)<|.var 4) #[.ret<|.bin .add (.var 7)<|.tup #[.var 5,.cst .non]] .nil,.ite (.val<|.meth "Bridge" "is_rested_on" (.var 0) #[.var 1]) #[.ret<|.bin .add (.var 7)<|.tup #[.cst .non,.idx (.idx (.idx (.fld (.var 0) "held_by_place")<|.var 1)<|.cst<|.int 0)<|.glob "STAMP"<|.int 1]] .nil,.ret<|.bin .add (.var 7)<|.tup #[.cst .non,.cst .non]]
   [eZ<|.ref b,eZ<|.int p,eZ<|.int B.label.root,eZ<|.int B.label.cost,eZ<|upV B.label.up,eZ<|rsV B.label.up,eZ<|.int<|Jz B,eZ<|.tup [pV (B.life,B.count),pV (B.life,B.version),.int B.label.root,.int B.label.cost,.int<|Jz B]] h (λ_ g=>Q .non g) Q (λ_ _=>False) (λ_ _=>False) λ_ c g=>X c g:=by
  exists UQ (Hv h p B.label.up)
  refine' gg (λhc=>?_) (λhc=>?_)
  .fail;unfold ZE at k;rw[hc]at k;cases e:B.label.up with
   |none=>rw[e]at hc;cases hc
   |some q=>rw[e]at k;exact k
  .exists KI x
   fail;unfold ZE at k;rw[hc]at k;refine gg (λhr=>?_) λhr=>?_
   .rw[hr]at k;unfold J9 at hr;cases e:B.held.lookup p with
    |none=>rw[e]at hr;cases hr
    |some q =>let⟨l,a⟩:=q;refine' ZX hd rfl (by rw[Z5,e];rfl) ?_;fail;unfold Hu at k;rw[e]at k;exact k
   .rw[hr]at k;refine' k
 cases e:B.label.up with
 |none =>
  have ea:Jz B=0:=by unfold Jz;rw[e]
  rw[e,ea]at main;refine gf (λhc=>?_) λhc=>gM rfl hc
  exists Xo x
  walk_at "w"
  repeat (first|exact main|(walk_at "py1";walk_at "w"))
 |some q =>
  let⟨y,hy⟩:=û.mp<|hu q e;have ea:Jz B=y.2+1:=by unfold Jz;rw[e];dsimp only;rw[hy];rfl
  rw[e,ea]at main;refine gf (λhc=>by cases hc) λhc=>?_;simp only[upV];refine' ZX hd rfl (by rw[Z5,hy];rfl) ?_
  exists Xo x
  walk_at "w"
  repeat (first|exact main|(walk_at "py1";walk_at "w"))
def Fx{q:Int×Pi}(hq:(Yy B).up=eZ q):(B.held.lookup q.1).isSome=fc:=by
 unfold Yy at hq;split at hq
 .cases hq
 .rename_i m e;have hm:=NK e;unfold MR at hm;let⟨y,hy,rfl⟩:=Û.mp hm;cases hq;let⟨v,hv⟩:=ZK (ú (f:=(·.1)) hy);show(B.held.lookup y.1).isSome=fc;rw[hv];rfl
abbrev Br.grown(B:Br):Br:={B with held:=YH B.most B.held}
abbrev Br.told(B:Br):Br:=taken B.grown<|Yy B.grown
abbrev Br.ticked(B:Br):Br:={B.told with count:=B.count+1}
abbrev ZY(B:Br):List Val:=(sortI (B.ties.map (·.1))).map λp=>.tup [.int p,(ZE B p).v]
def Yn(B:Br)(l:Lab):(taken B l).held=B.held/\(taken B l).ties=B.ties/\(taken B l).count=B.count/\(taken B l).label=l/\(taken B l).number=B.number/\(taken B l).life=B.life/\(taken B l).most=B.most:=by
 unfold taken;split
 .rename_i e;exact⟨rfl,rfl,rfl,e.symm,rfl,rfl,rfl⟩
 .exact⟨rfl,rfl,rfl,rfl,rfl,rfl,rfl⟩
structure Br.ok(B:Br):Prop where
 nd:(B.held.map (·.1)).Nodup
 sub:∀q∈B.held,(B.ties.lookup q.1).isSome=fc
 nt:(B.ties.map (·.1)).Nodup
 rg:∀q∈B.ties,0<=q.1/\q.1<16
def Br.ok.tlen(o:B.ok):B.ties.length<=16:=by
 have:=Yb (m:=16) o.nt λx hx=>by let⟨q,hq,rfl⟩:=Û.mp hx;exact o.rg q hq
 simpa using this
def Br.ok.hlen(o:B.ok):B.held.length<=16:=by
 have:=Yb (m:=16) o.nd λx hx=>by let⟨q,hq,rfl⟩:=Û.mp hx;let⟨v,hv⟩:=û.mp<|o.sub q hq;exact o.rg _<|Zn hv
 simpa using this
def Br.ok.grown(o:B.ok):B.grown.ok where
 nd:=o.nd.sublist<|J6 _ _
 sub:=λq hq=>by let⟨a,ha⟩:=Bf hq;exact o.sub (q.1,(q.2.1,a)) ha
 nt:=o.nt
 rg:=o.rg
def Br.ok.told(o:B.ok):B.told.ok:=by
 let⟨h1,h2,_⟩:=Yn B.grown<|Yy B.grown;have g:=o.grown;refine⟨?_,?_,?_,?_⟩
 .show((taken B.grown<|Yy B.grown).held.map (·.1)).Nodup;rw[h1];exact g.nd
 .show ∀q∈(taken B.grown<|Yy B.grown).held,((taken B.grown<|Yy B.grown).ties.lookup q.1).isSome=fc;rw[h1,h2];exact g.sub
 .show((taken B.grown<|Yy B.grown).ties.map (·.1)).Nodup;rw[h2];exact g.nt
 .show ∀q∈(taken B.grown<|Yy B.grown).ties,_;rw[h2];exact g.rg
def Br.ok.ticked(o:B.ok):B.ticked.ok:=⟨o.told.nd,o.told.sub,o.told.nt,o.told.rg⟩
def FZ(x:fv h b t d B)(o:B.ok)(k:∀p d' g,h p=fb->h d'=fb->fv g b t d' B.ticked->g p=eZ (.lst<|ZY B.told)->Ex [b] h g->p≠d'->Q (.ref p) g):wF P (n+4) "Bridge.tick" [.ref b] h Q X:=by
 let⟨hi,ht,hd,ŭ⟩:=id x;have hlen:=o.hlen;refine KC ?_;refine' Ha x o.nd (by lia) λd' g hd' x1 e1=>?_;let⟨hi1,ht1,hd1,hne1⟩:=id x1;have og:=o.grown;have x1':fv g b t d' B.grown:=x1;refine' A2 x1' og.sub (by have:=og.hlen;lia) λg2 e2=>?_;have x2:=x1'.ext e2;refine' GB x2 λg3 x3 e3=>?_;let⟨hi3,ht3,hd3,hne3⟩:=id x3;let⟨c1,c2,c3,c4,c5,c6,c7⟩:=Yn B.grown<|Yy B.grown;have hties:B.told.ties=B.ties:=c2;refine' Ml ht3 (UA _) ?_ (Xf λp1 bE=>?_)
 .rw[Ã];have:=o.tlen;show B.told.ties.length<64;rw[hties];lia
 refine' ⟨?_,?_⟩
 .rw[Ã,sortI,ń,Ã];have:=o.tlen;show B.told.ties.length<lim;rw[hties];exact Ü this (by decide)
 have x4:=x3.ext (Ext.new (o:=.lst ((sortI ((taken B.grown<|Yy B.grown).ties.map (·.1))).map Val.int)) bE);have up:∀q,(taken B.grown<|Yy B.grown).label.up=eZ q->((taken B.grown<|Yy B.grown).held.lookup q.1).isSome=fc:=λq hq=>by rw[c4]at hq;rw[c1];exact Fx hq
 refine Yg (λv=>match v with|.int i=>eZ (.tup [.int i,(ZE B.told i).v])|_=>fb) (lsE fh) ?_ ?_
 .intro v hv K hK;let⟨i,hi,rfl⟩:=Û.mp hv;let⟨hi4,ht4,hd4,hne4⟩:=id x4;fail;rw[gG rfl];change wE _ _ [eZ<|.int i,eZ<|.ref b] _ _ _
  exists Hj x4 up
  refine' hK
 .refine Xf λp hp=>?_;have x5:=x4.ext<|Ext.new (o:=.lst<|ZY B.told) hp;have e0:((sortI ((taken B.grown<|Yy B.grown).ties.map (·.1))).map Val.int).filterMap (λv=>match v with|.int i=>eZ (.tup [.int i,(ZE B.told i).v])|_=>fb)=ZY B.told:=by
   rw[Η];unfold ZY;exact congrFun (List.filterMap_eq_map (f:=λi:Int=>Val.tup [.int i,(ZE B.told i).v])) _
  rw[e0];let⟨hi5,ht5,hd5,hne5⟩:=id x5;fail;have c3':(taken B.grown<|Yy B.grown).count=B.count:=c3;rw[c3'];have eg:Ex [b] h (upd g3 p1 (.lst ((sortI ((taken B.grown<|Yy B.grown).ties.map (·.1))).map Val.int))):=((e1.trans<|.of e2).trans e3).trans<|.of<|Ext.new bE;have hpn:h p=fb:=eg.none (by rw[x4.ins];intro z;cases z) hp;have npb:b≠p:=Za x4.ins hp;refine k p d' _ hpn hd' ⟨fh,?_,?_,x5.ne⟩ ?_ ?_ (Za x4.held hp).symm
  .rw[ff x5.nbt.symm];exact x5.ties
  .rw[ff x5.nbd.symm];exact x5.held
  .rw[ff npb.symm];exact fh
  .exact(eg.trans<|.of<|Ext.new hp).trans (Ex.upd<|by simp)
abbrev JD(S:Br)(p:Int)(l:L):Bool:=match S.held.lookup p with
 |none=>fc
 |some q=>fS [q.1.num.1,q.1.num.2] [l.num.1,l.num.2]
abbrev ZW(S:Br)(p:Int)(l:L):Br:=if(S.ties.lookup p).isSome then(if JD S p l then {S with held:=Zo S.held p (l,l.age)} else S)else S
abbrev Oa(S:Br)(p:Int):Br:={S with ties:=Zg S.ties p,held:=Zg S.held p}
abbrev upB(S:Br)(p:Int)(c:Int×Int):Br:=if(S.ties.lookup p).isSome then S else {S with ties:=Zo S.ties p c}
variable {q:Int}
def BM{k:Int}{v:α}:(kvs.lookup q).isSome=fc->((Zo kvs k v).lookup q).isSome=fc:=λh=>by
 let⟨x,hx⟩:=û.mp h;have hm:q∈kvs.map (·.1):=ú (f:=(·.1))<|Zn hx;have:q∈(Zo kvs k v).map (·.1):=by
  rw[X5];split
  .exact hm
  .exact Ù _ hm
 let⟨y,hy⟩:=ZK this;rw[hy];rfl
def Br.ok.heard(o:S.ok){p:Int}{l:L}:(ZW S p l).ok:=by
 unfold ZW;split
 .rename_i h1;split
  .refine⟨Wy o.nd _ _,λq hq=>?_,o.nt,o.rg⟩;rcases W5 hq with e|hq
   .rw[e];exact h1
   .exact o.sub q hq
  .exact o
 .exact o
def YJ{k:Int}{q:Int×α}(h:q∈Zg kvs k):q∈kvs:=(Nr kvs k).subset h
def A7{k:Int}(h:(kvs.lookup q).isSome=fc)(n:q≠k):((Zg kvs k).lookup q).isSome=fc:=by
 let⟨x,hx⟩:=û.mp h;have:q∈(Zg kvs k).map (·.1):=by refine Û.mpr ⟨(q,x),?_,rfl⟩;unfold Zg;exact ø.mpr ⟨Zn hx,⇑n⟩
 let⟨y,hy⟩:=ZK this;rw[hy];rfl
def Br.ok.down(o:S.ok)(p:Int):(Oa S p).ok :=
 ⟨YZ o.nd _,λq hq=>A7 (o.sub q<|YJ hq)<|Fb hq,YZ o.nt _,λq hq=>o.rg q<|YJ hq⟩
def Br.ok.up(o:S.ok){p:Int}{c:Int×Int}(h0:0<=p)(h1:p<16):(upB S p c).ok:=by
 unfold upB;split
 .exact o
 .refine⟨o.nd,λq hq=>BM<|o.sub q hq,Wy o.nt _ _,λq hq=>?_⟩;rcases W5 hq with e|hq
  .rw[e];exact⟨h0,h1⟩
  .exact o.rg q hq
def FG{p:Int}{l:L}(x:fv h b t d B)(o:B.ok)(k:∀g,fv g b t d (ZW B p l)->Ex [d] h g->Q .non g):wF P (n+2) "Bridge.hear" [.ref b,.int p,l.v] h Q X:=by
 let⟨hi,ht,hd,ŭ⟩:=id x;have hlen:=o.hlen;refine Kv ?_
 exists Yq ht rfl
 rw[Z3];fail;unfold ZW at k;cases e:(B.ties.lookup p).isSome with
 |false =>rw[e]at k;refine gb rfl ?_;refine' k h x Ex.refl
 |true =>
  rw[e,gG rfl]at k;refine gc rfl ?_
  exists MC x
  have put:(∀g,fv g b t d {B with held:=Zo B.held p (l,l.age)}->Ex [d] h g->Q .non g)->go (fW h (.ref d) (.int p)<|.tup [l.v,.int l.age]) λg=>Q .non g:=λk=>by refine YY hd ⟨rfl,by rw[Kw];exact Ü hlen<|by decide⟩ ?_;rw[show Val.tup [l.v,.int l.age]=hdV (l,l.age) from rfl,Z8];exact k _ ⟨by rw[ff x.nbd];exact hi,by rw[ff ŭ];exact ht,fh,ŭ⟩ (Ex.upd<|by simp)
  fail;cases e2:B.held.lookup p with
  |none =>
   have et:JD B p l=fc:=by unfold JD;rw[e2]
   rw[et,gG rfl]at k;refine gf (λhc=>?_) λhc=>gM rfl hc;refine gb rfl ?_;refine' U0 (put k) λg q=>by fail;exact q
  |some q =>
   let⟨m,ag⟩:=q;have et:JD B p l=fS [m.num.1,m.num.2] [l.num.1,l.num.2]:=by unfold JD;rw[e2]
   rw[et]at k;refine gf (λhc=>by simp[hdO]at hc) λhc=>?_;simp only[hdO]
   exists Ht
   exists IQ (Wf [l.num.1,l.num.2]) (Wf [m.num.1,m.num.2])
   refine' gg (λhc=>?_) (λhc=>?_)
   .rw[gG hc]at k;refine' U0 (put k) λg q=>by fail;exact q
   .rw[gH<|by rw[hc];decide]at k;refine' k h x Ex.refl
def Fz{p:Int}(x:fv h b t d B)(k:∀g,fv g b t d (Oa B p)->Ex [t,d] h g->Q .non g):wF P (n+1) "Bridge.down" [.ref b,.int p] h Q X:=by
 let⟨hi,ht,hd,ŭ⟩:=id x;refine Kk ?_
 exists UB ht rfl
 dsimp only;rw[Wr];have hi2:upd h t (.dct<|Zi Bn<|Zg B.ties p) b=_:=upd_ne' x.nbt hi;have bC:upd h t (.dct<|Zi Bn<|Zg B.ties p) d=_:=upd_ne' ŭ.symm hd
 exists UB bC rfl
 dsimp only;rw[Wr];refine' k _ ⟨by rw[ff x.nbd];exact hi2,by rw[ff ŭ];exact fh,fh,ŭ⟩ ((Ex.upd<|by simp).trans<|Ex.upd<|by simp)
def Sb{p nb:Int}(x:fv h b t d B)(o:B.ok)(k:∀g,fv g b t d (upB B p (nb,c))->Ex [t] h g->Q .non g):wF P (n+1) "Bridge.up" [.ref b,.int p,.int nb,.int c] h Q X:=by
 let⟨hi,ht,hd,ŭ⟩:=id x;have hlen:=o.tlen;refine Om ?_
 exists Yq ht rfl
 rw[Z3];fail;unfold upB at k;cases e:(B.ties.lookup p).isSome with
 |true =>rw[e,gG rfl]at k;refine gc rfl ?_;refine' k h x Ex.refl
 |false =>rw[e,gH<|by decide]at k;refine gb rfl ?_;refine' YY ht ⟨rfl,by rw[Kw];exact Ü hlen<|by decide⟩ ?_;rw[show Val.tup [.int nb,.int c]=Bn (nb,c) from rfl,Z8];refine' k _ ⟨by rw[ff x.nbt];exact hi,fh,by rw[ff ŭ.symm];exact hd,ŭ⟩ (Ex.upd<|by simp)
def SJ(h:Hs)(s:Pi)(u:Option<|Int×Pi):eqV h (pV s) (rsV u)=eZ (gN (u.map (·.2)=eZ s)):=by
 let⟨s1,s2⟩:=s;cases u with
 |none =>show eZ (D.eqv (.tup [.int s1,.int s2]) .non)=_;simp[D.eqv]
 |some p =>
  let⟨p0,p1,p2⟩:=p;show eZ (D.eqv (.tup [.int s1,.int s2])<|.tup [.int p1,.int p2])=_;congr 1;simp only[D.eqv,D.eqvs,Ś,ķ];by_cases h1:s1=p1
  .subst h1;by_cases h2:s2=p2
   .subst h2;simp
   .have h3:¬ p2=s2:=λz=>h2 z.symm;simp[h2,h3]
  .have h3:¬ p1=s1:=λz=>h1 z.symm;simp[h1,h3]
abbrev OT(B:Br)(p:Int):Bool:=match B.held.lookup p with
 |none=>fe
 |some q=>if q.1.agrees=eZ (B.life,B.version)then gN (B.label.up.map (·.2)=eZ q.1.st)else fe
def AB{p:Int}(x:fv h b t d B)(k:Q (.bl<|OT B p) h):wF P (n+2) "Bridge.is_agreed_to" [.ref b,.int p] h Q X:=by
 let⟨hi,ht,hd,ŭ⟩:=id x;refine Xa ?_
 exists MC x
 unfold OT at k;fail;cases e:B.held.lookup p with
 |none =>rw[e]at k;refine gf (λhc=>?_) λhc=>gM rfl hc;refine gb rfl ?_;refine' k
 |some q =>
  rw[e]at k;let⟨l,a⟩:=q;refine gf (λhc=>by simp[hdO]at hc) λhc=>?_;simp only[hdO]
  exists Xo x
  refine D4 (Rt h _ _) ?_;refine' Au (λhc=>?_) (λhc=>?_)
  .fail;rw[show(match eZ (l,a)with|none=>fe|some q=>if q.1.agrees=eZ (B.life,B.version)then gN (B.label.up.map (·.2)=eZ q.1.st)else fe)=fe from gH hc]at k;exact k
  .fail;rw[show(match eZ (l,a)with|none=>fe|some q=>if q.1.agrees=eZ (B.life,B.version)then gN (B.label.up.map (·.2)=eZ q.1.st)else fe)=gN (B.label.up.map (·.2)=eZ l.st) from gG hc]at k;refine UQ (SJ h _ _) ?_;exact k
abbrev DO(B:Br)(p:Int):String:=if(B.ties.lookup p).isSome then(if FQ B.label.up p then(if OT B p then "child" else "shut")else if J9 B p then "parent" else "shut")else "down"
def IM{p:Int}(x:fv h b t d B)(k:Q (.str<|DO B p) h):wF P (n+3) "Bridge.end" [.ref b,.int p] h Q X:=by
 let⟨hi,ht,hd,ŭ⟩:=id x;refine M5 ?_
 exists Yq ht rfl
 rw[Z3];fail;unfold DO at k;cases e:(B.ties.lookup p).isSome with
 |false =>rw[e]at k;refine gb rfl ?_;refine' k
 |true =>
  rw[e,gG rfl]at k;refine gc rfl ?_
  exists UQ (Hv h p B.label.up)
  refine' gg (λhc=>?_) (λhc=>?_)
  .rw[hc,gG rfl]at k
   exists AB x
   refine' gg (λhc=>?_) (λhc=>?_)
   .rw[hc]at k;refine' k
   .rw[hc]at k;refine' k
  .rw[hc,gH<|by decide]at k
   exists KI x
   refine' gg (λhc=>?_) (λhc=>?_)
   .rw[hc]at k;refine' k
   .rw[hc]at k;refine' k
def Zc(q:∀p g,h p=fb->Ext h g->g p=eZ o->Q (.ref p) g):new h o Q:=Xf λp hp=>q p _ hp (Ext.new hp) fh
variable {r:Int}
def YQ(r0:0<=r)(e:xs[r.toNat]?=eZ x):atI xs r=eZ x:=by have:=(Î.mp e).1;unfold atI ixN;rw[gG r0,gG<|by lia];exact e
def DC(r0:0<=r)(r1:r<xs.length):∃x,xs[r.toNat]?=eZ x/\x∈xs:=by
 have h:r.toNat<xs.length:=by lia
 exact⟨xs[r.toNat],È h,ı h⟩
def WG(r0:0<=r)(r1:r<xs.length):∃x,atI xs r=eZ x/\x∈xs:=by let⟨x,h1,h2⟩:=DC r0 r1;exact⟨x,YQ r0 h1,h2⟩
def WP:∀ns:List Int,fo (ns.map .int)=eZ ns
 |[]=>rfl
 |n::ns=>by rw[É,fo,WP ns];rfl
def XR:∀bs:List Bool,blsOf (bs.map .bl)=eZ bs
 |[]=>rfl
 |b::bs=>by rw[É,blsOf,XR bs];rfl
def K1{x:Int}:∀{ns:List Int},x∈dedup ns↔x∈ns
 |[]=>by simp[dedup]
 |n::ns=>by rw[dedup,Ç,ø,K1,Ç];by_cases h:x=n<;>simp[h]
def NW:∀(ns:List Int),(dedup ns).length<=ns.length
 |[]=>by simp[dedup]
 |n::ns=>by have:=NW ns;have:=ϟ (λy=>y != n)<|dedup ns;rw[dedup,Ì,Ì];lia
variable {m:Int}
def X6{v:Val}(h:(fP 0 m)[i]?=eZ v):v=.int i/\(i:Int)<m:=by unfold fP at h;rw[Ú]at h;let⟨k,hk,rfl⟩:=Í.mp h;let⟨ϵ,rfl⟩:=Î.mp hk;rw[ż]at ϵ;rw[List.getElem_range];exact⟨by rw[Int.zero_add],by lia⟩
def YR:(fP 0 m).length=m.toNat:=by unfold fP;rw[Ã,ż,Int.sub_zero]
abbrev Brs(ns:List Int):Prop:=∀i∈ns,0<=i/\i<1000
noncomputable abbrev Tie:=Int×Int×Int
abbrev trV(t:Tie):Val:=.tup [.int t.1,.int t.2.1,.int t.2.2]
abbrev LOk(ns:List Int)(t:Tie):Prop:=t.1∈ns/\t.2.1∈ns/\t.1<t.2.1/\1<=t.2.2/\t.2.2<=1000
structure fG(bs:List Int)(ts:List Tie):Prop where
 one:1<=bs.length
 ten:bs.length<=10
 rng:Brs bs
 up:bs.Pairwise (· < ·)
 sixteen:ts.length<=16
 tie:∀t∈ts,LOk bs t
abbrev ZH(bs:List Int)(ts:List Tie):Val:=.tup [.tup<|bs.map .int,.tup<|ts.map trV]
variable {ns:List Int}
def mem_sort{i:Int}:i∈sortI ns↔i∈ns:=(ς ns _).mem_iff
def Fo(nd:ns.Nodup):(sortI ns).Pairwise (· < ·):=by have p:=ς ns λa b=>gN (a<=b);have s:(sortI ns).Pairwise λa b=>gN (a<=b)=fc:=b9 (λa b c h1 h2=>by simp at *;lia) (λa b=>by simp;lia) ns;have d:(sortI ns).Nodup:=p.nodup_iff.mpr nd;exact(s.and d).imp λ⟨h1,h2⟩=>by simp at h1;lia
def SA(e:h a=eZ (.lst<|ns.map .int))(m:ns.length<64)(q:new h (.lst<|(sortI<|dedup ns).map .int) Q):(biV h .sortedSet [.ref a]).wp h Q:=wp_new (by show biSortedSet h (.ref a)=_;unfold biSortedSet sortOf;simp only[e,fx,ð,WP];rw[gG m]) q
def NT:∀ns:List Int,(dedup ns).Nodup
 |[]=>ĥ
 |n::ns=>by rw[dedup,ć];refine⟨λz=>?_,(NT ns).sublist Ļ⟩;have:=(ø.mp z).2;simp at this
def RS(ns:List Int):(sortI<|dedup ns).Pairwise (· < ·):=Fo (NT ns)
def LI(ns:List Int):(sortI<|dedup ns).length<=ns.length:=by rw[sortI,ń];exact NW ns
def LL(h:1<=ns.length):1<=(sortI<|dedup ns).length:=by
 rw[sortI,ń];cases ns with
 |nil=>exact gM h (by decide)
 |cons n ns=>rw[dedup,Ì];lia
def sd_mem{i:Int}:i∈sortI (dedup ns)↔i∈ns:=by rw[mem_sort,K1]
def Jv(ns:List Int)(lo hi:Option Int):cut (ns.map Val.int) lo hi=(cut ns lo hi).map Val.int:=by unfold cut;rw[Ã,List.map_take,List.map_drop]
def De{a b:Int}(h0:0<=a)(h1:a<=b):cut xs (eZ a) (eZ b)=(xs.drop a.toNat).take (b.toNat - a.toNat):=by
 unfold cut fR;dsimp only;rw[gG h0,gG<|by lia];by_cases h:a.toNat<=xs.length
 .rw[bu h];by_cases h2:b.toNat<=xs.length
  .rw[bu h2]
  .rw[Nat.min_eq_right<|by lia];rw[cz (by rw[ť];lia),cz<|by rw[ť];lia]
 .rw[ŗ (by lia:xs.length<=min a.toNat xs.length),ŗ (by lia:xs.length<=a.toNat)];simp
def Oh{h:Hs}{d:Nat}:∀ns:List Int,(ns.map Val.int).mapM (dat h d)=eZ (ns.map D.int)
 |[]=>rfl
 |n::ns=>by rw[É,Ĉ,Oh ns,É];cases d<;>rfl
def UY{i:Int}:∀ns:List Int,((ns.map D.int).any λe=>D.eqv e<|.int i)=gN (i∈ns)
 |[]=>by simp
 |n::ns=>by
  rw[É,Ģ,UY ns,US];by_cases h:n=i
  .simp[h]
  .simp[h,Ne.symm h]
def W0{i:Int}:inL h (.int i) (ns.map .int)=eZ (gN (i∈ns)):=by unfold inL;rw[Oh];exact congrArg eZ (UY ns)
def UZ(x:Ext h g)(e:h p=fb):Ext h<|upd g p o:=⟨λ{a u} z=>by rw[ff<|Za z e];exact x.get z⟩
abbrev far(t:Tie)(b:Int):Int:=if t.1=b then t.2.1 else t.1
abbrev gy(b:Int):Nat->List Tie->List Tie
 |_,[]=>[]
 |k,t::r=>if b=t.1\/b=t.2.1 then((k:Int),far t b,t.2.2)::gy b (k+1) r else gy b (k+1) r
def On{b:Int}{t:Tie}:∀{l:List Tie}{k:Nat},gy b k (l++[t])=gy b k l++(if b=t.1\/b=t.2.1 then [(((k+l.length:Nat):Int),far t b,t.2.2)]else [])
 |[],k=>by show gy b k [t]=_;unfold gy;split<;>rfl
 |u::l,k=>by
  rw[aE,gy,gy,On,Ì,show k+1+l.length=k+(l.length+1) by lia];by_cases h:b=u.1\/b=u.2.1
  .rw[gG h,gG h,aE]
  .rw[gH h,gH h]
def MW:∀{xs:List Val}{k i:Nat}{v:Val},(enumL k xs)[i]?=eZ v->∃x,xs[i]?=eZ x/\v=.tup [.int ((k+i:Nat):Int),x]
 |[],_,_,_,e=>by simp[enumL]at e
 |x::xs,k,0,v,e=>by have e:eZ (Val.tup [.int k,x])=eZ v:=e;cases e;exact⟨x,rfl,rfl⟩
 |x::xs,k,i+1,v,e=>by let⟨y,h1,h2⟩:=MW (xs:=xs) (k:=k+1) (i:=i) (v:=v) (by simpa[enumL]using e);exact⟨y,⇑h1,by rw[h2,show k+1+i=k+(i+1) by lia]⟩
def Ki:∀(xs:List Val) (k:Nat),(enumL k xs).length=xs.length
 |[],_=>rfl
 |_::xs,k=>by simp[enumL,Ki xs<|k+1]
def BS{i:Int}(q:KB<|gN (i∈ns)):go (fB h .isin (.int i)<|.tup<|ns.map .int) KB:=fk (by show inV h (.int i) (.tup _)=_;unfold inV;exact W0) q
def Pq{i:Int}(q:KB (!gN (i∈ns))):go (fB h .notin (.int i)<|.tup<|ns.map .int) KB:=fk (by show(inV h (.int i)<|.tup _).map _=_;unfold inV;simp only[W0];rfl) q
section
variable {bs:List Int}{ts:List Tie}
def B5{t:Tie}{b:Int}(k:Q (.int<|far t b) h):wF P (n+1) "far_end" [trV t,.int b] h Q X:=by
 let⟨x,y,c⟩:=t;unfold trV;unfold far at k;dsimp only at k ⊢;refine AH ?_;fail;by_cases e:x=b
 .refine gb (gK e) ?_;rw[gG e]at k;refine' k
 .refine gc (gJ e) ?_;rw[gH e]at k;refine' k
def XD{b:Int}(l:ts.length<=16)(k:∀p g,h p=fb->Ext h g->g p=eZ (.lst<|(gy b 0 ts).map trV)->Q (.ref p) g):wF P (n+2) "neighbours" [ZH bs ts,.int b] h Q X:=by
 unfold ZH;refine MP ?_;refine' Zc λp g0 hp x0 e0=>?_
 exists fk rfl
 have nl:∀l:List Tie,∀k,(gy b k l).length<=l.length:=by
  intro l;induction l with
  |nil=>intro k;exact Ñ _
  |cons t l ih =>intro k;have:=ih<|k+1;unfold gy;split<;>simp only[Ì]<;>lia
 refine Zs (λi en g=>Sm2 λv3 v4=>Cj3 (en=[eZ<|.tup [.tup<|bs.map .int,.tup<|ts.map trV],eZ<|.int b,eZ<|.ref p,v3,v4]) (Ext h g)<|g p=eZ (.lst<|(gy b 0<|ts.take i).map trV)) ⟨_,_,rfl,x0,e0⟩ (λ_ _ _ _ _=>trivial) ?_ ?_
 .rintro i v en g hv ⟨v3,v4,rfl,x,ep⟩ K hK;let⟨y,hy,rfl⟩:=MW hv;rw[Ú]at hy;let⟨t,ht,rfl⟩:=Í.mp hy;have hi:i<ts.length:=(Î.mp ht).1;have hn:gy b 0 (ts.take<|i+1)=gy b 0 (ts.take i)++(if b=t.1\/b=t.2.1 then [((i:Int),far t b,t.2.2)]else []):=by
   rw[Ψ,ht];have:=On (b:=b) (t:=t) (l:=ts.take i) (k:=0);rw[ě,bu (by lia),Ϝ]at this;exact this
  rw[Ϝ];have et:trV t=.tup [.int t.1,.int t.2.1,.int t.2.2]:=rfl;fail;rw[et];refine f9 (by simp[fR]) ?_;refine BS (ns:=[t.1,t.2.1]) ?_;refine' gf (λhc=>?_) (λhc=>?_)
  .exists B5 (t:=t)
   fail;have hl:=nl (ts.take i) 0;rw[ě]at hl;refine YE ep (by rw[Ã,lim];lia) ?_;refine' hK _ _ ⟨_,_,rfl,?_,?_⟩
   .exact UZ x hp
   .have hc:b=t.1\/b=t.2.1:=⇑hc
    rw[hn,gG hc,ã];exact fh
  .refine' hK _ _ ⟨_,_,rfl,x,?_⟩;have hc:¬ (b=t.1\/b=t.2.1):=⇑hc
   rw[hn,gH hc,ò];exact ep
 .rintro en g ⟨v3,v4,rfl,x,ep⟩;rw[Ki,Ã,ÿ]at ep;refine' k p g hp x ep
end
abbrev XG(rs:List Tie):List<|Int×(Int×Int):=rs.map λr=>(r.1,r.2)
def M1(rs:List Tie):(XG rs).map (·.1)=rs.map (·.1):=by unfold XG;rw[ü];rfl
abbrev ZD(own life most:Int)(rs:List Tie):Br:=⟨own,life,most,XG rs,[],⟨own,0,fb⟩,0,0⟩
variable {own:Int} {life:Int}
def Ab{rs:List Tie}(hb:h b=eZ (.ins "Bridge" []))(hl:h l=eZ (.lst<|rs.map trV))(nd:(rs.map (·.1)).Nodup)(h16:rs.length<=16)
  (k:∀t d g,h t=fb->h d=fb->fv g b t d (ZD own life most rs)->Ex [b] h g->Q .non g):wF P (n+1) "Bridge.__init__" [.ref b,.int own,.int life,.ref l,.int most] h Q X:=by
 have nlb:b≠l:=Dz hb hl nofun;refine Ku ?_;refine' YA fh (show(1:Nat)<900 by decide) ?_;refine' YA fh (show(2:Nat)<900 by decide) ?_;fail;intro t ht;rw[fi,fi]at ht ⊢;have ntb:b≠t:=Za fh ht;have nht:h t=fb:=by rw[ff ntb.symm]at ht;exact ht
 have ntl:l≠t:=Za hl nht;refine' YA (upd_ne' ntb fh) (show(3:Nat)<900 by decide) ?_;fail;have hl1:∀{o1 o2 o3:Ob},upd (upd (upd h b o1) t o2) b o3 l=eZ (.lst<|rs.map trV):=λ{_ _ _}=>by rw[ff nlb.symm,ff ntl,ff nlb.symm];exact hl
 refine Zs (λi e g=>Sm3 λu v w=>Cj4 (e=[eZ<|.ref b,eZ<|.int own,eZ<|.int life,eZ<|.ref l,eZ<|.int most,u,v,w]) (g b=eZ (.ins "Bridge" [("number",.int own),("life",.int life),("age_let_go",.int most),("ties_by_place",.ref t)])) (g t=eZ (.dct<|Zi Bn<|XG<|rs.take i))<|Ex [b] h g) ⟨fb,fb,fb,rfl,fh,by rw[ff ntb.symm];exact fh,?_⟩ ?_ ?_ ?_
 .refine⟨λ{a o} na e=>?_⟩;have nab:a≠b:=⇑na
  rw[ff nab,ff<|Za e nht,ff nab];exact e
 .rintro i e g _ ⟨u,v,w,rfl,h1,h2,h3⟩;exact lsE (h3.get (by simpa using nlb.symm) hl)
 .rintro i v e g hv ⟨u,v,w,rfl,h1,h2,h3⟩ K hK;let⟨r,hp,rfl⟩:=ZT hv;have nk:=Yl nd hp;let⟨p,nb,c⟩:=r;unfold trV;refine' YY (k:=.int p) h2 ⟨rfl,?_⟩ ?_
  .rw[Kw];unfold XG;rw[Ã];exact Ü (Ý (Ϥ _ _) h16) (by decide)
  rw[show Val.tup [.int nb,.int c]=Bn (nb,c) from rfl,Z8];refine' hK _ _ ⟨_,_,_,rfl,by rw[ff ntb];exact h1,?_,?_⟩
  .rw[fh,Wi,Zm hp]
   .unfold XG;rw[ã];rfl
   .rw[M1];exact nk
  .exact⟨λna e=>by rw[ff<|Za e nht];exact h3.get na e⟩
 .rintro e g ⟨u,v,w,rfl,h1,h2,h3⟩;rw[Ã,ÿ]at h2;fail;intro d hd;have ndb:b≠d:=Za h1 hd;have ndt:t≠d:=Za h2 hd;have nhd:h d=fb:=h3.none (by rw[h1];intro z;cases z) hd;refine' YA fh (show(5:Nat)<900 by decide) ?_;refine' YA fh (show(6:Nat)<900 by decide) ?_;refine' YA fh (show(7:Nat)<900 by decide) ?_;fail;rw[fi,fi,fi];refine k t d _ nht nhd ⟨fh,?_,?_,ndt⟩ ?_
  .rw[ff ntb.symm,ff ndt];exact h2
  .rw[ff ndb.symm];exact fh
  .exact(h3.trans<|.of<|Ext.new hd).trans (Ex.upd<|by simp)
def Jx{b:Int}:∀{l:List Tie}{k:Nat},((gy b k l).map (·.1)).Pairwise (· < ·)/\∀r∈gy b k l,(k:Int)<=r.1/\r.1<(k+l.length:Nat)
 |[],k=>⟨by simp[gy],λr hr=>gM hr<|by simp[gy]⟩
 |t::l,k=>by
  let⟨h1,h2⟩:=Jx (b:=b) (l:=l) (k:=k+1);unfold gy;split
  .refine⟨?_,λr hr=>?_⟩
   .rw[É,dY];refine⟨λx hx=>?_,h1⟩;let⟨r,hr,rfl⟩:=Û.mp hx;have:=(h2 r hr).1;show(k:Int)<r.1;lia
   .rcases Ç.mp hr with rfl|hr
    .exact⟨dC _,by show(k:Int)<((k+(t::l).length:Nat):Int);rw[Ì];lia⟩
    .have:=h2 r hr;rw[Ì];lia
  .refine⟨h1,λr hr=>?_⟩;have:=h2 r hr;rw[Ì];lia
def Ao{b:Int}:∀{l:List Tie}{k:Nat},(gy b k l).length<=l.length
 |[],k=>Ñ _
 |t::l,k=>by have:=Ao (b:=b) (l:=l) (k:=k+1);unfold gy;split<;>simp only[Ì]<;>lia
structure En where
 num:Int
 b:Ad
 t:Ad
 d:Ad
 B:Br
structure Yd where
 y:Ad
 lv:Ad
 st:Ad
 fl:Ad
 rd:Ad
 bs:List Int
 ts:List Tie
 most:Int
 lives:List<|Int×Int
 es:List En
 fallen:List<|Int×Bool
 road:List<|Int×Int×Int×L
abbrev enA(es:List En):List Ad:=es.flatMap λe=>[e.b,e.t,e.d]
abbrev Yd.adr(Y:Yd):List Ad:=[Y.y,Y.lv,Y.st,Y.fl,Y.rd]++enA Y.es
noncomputable abbrev rfV(a:Ad):Val:=.ref a
noncomputable abbrev rdV(r:Int×Int×Int×L):Val:=.tup [.int r.1,.int r.2.1,.int r.2.2.1,r.2.2.2.v]
abbrev stands(es:List En):List<|Int×Ad:=es.map λe=>(e.num,e.b)
def ZG(es:List En):(stands es).map (·.1)=es.map (·.num):=by unfold stands;rw[ü];rfl
structure fw(h:Hs)(Y:Yd):Prop where
 ins:h Y.y=eZ (.ins "Yard" [("net_made_of",ZH Y.bs Y.ts),("greatest_age",.int Y.most),("lives",.ref Y.lv),("standing",.ref Y.st),("ties_fallen",.ref Y.fl),("letters_on_road",.ref Y.rd)])
 lives:h Y.lv=eZ (.dct<|Zi Val.int Y.lives)
 stand:h Y.st=eZ (.dct<|Zi rfV<|stands Y.es)
 fallen:h Y.fl=eZ (.dct<|Zi Val.bl Y.fallen)
 road:h Y.rd=eZ (.lst<|Y.road.map rdV)
 brs:∀e∈Y.es,fv h e.b e.t e.d e.B
 nd:Y.adr.Nodup
 key:(Y.es.map (·.num)).Nodup
variable {es:List En} {e:En}
def WA(h:e∈es):e.b∈enA es/\e.t∈enA es/\e.d∈enA es:=by refine⟨?_,?_,?_⟩<;>exact Ũ.mpr ⟨e,h,by simp⟩
def Wm(es:List En)(e:En):enA (es++[e])=enA es++[e.b,e.t,e.d]:=by unfold enA;rw[dD];simp
variable {Y:Yd}
def fw.keep{S:List Ad}(x:fw h Y)(e:Ex S h g)(ds:∀a∈Y.adr,a∉S):fw g Y:=by have m:∀a∈[Y.y,Y.lv,Y.st,Y.fl,Y.rd],a∉S:=λa ha=>ds a<|Ù _ ha;refine⟨e.get (m _<|by simp) x.ins,e.get (m _<|by simp) x.lives,e.get (m _<|by simp) x.stand,e.get (m _<|by simp) x.fallen,e.get (m _<|by simp) x.road,λb hb=>?_,x.nd,x.key⟩;let⟨q1,q2,q3⟩:=WA hb;exact(x.brs b hb).keep e (ds _<|Ê _ q1) (ds _<|Ê _ q2) (ds _<|Ê _ q3)
def fw.ext(x:fw h Y)(e:Ext h g):fw g Y:=x.keep (S:=[]) (.of e) λ_ _=>by simp
def fw.taken(x:fw h Y)(ha:a∈Y.adr):h a≠fb:=by
 rcases å.mp ha with ha|ha
 .simp only[Ç,Ó,or_false]at ha;rcases ha with rfl|rfl|rfl|rfl|rfl
  .rw[x.ins];simp
  .rw[x.lives];simp
  .rw[x.stand];simp
  .rw[x.fallen];simp
  .rw[x.road];simp
 .obtain⟨e,he,ha⟩:=Ũ.mp ha;have:=x.brs e he;simp only[Ç,Ó,or_false]at ha;rcases ha with rfl|rfl|rfl
  .rw[this.ins];simp
  .rw[this.ties];simp
  .rw[this.held];simp
def Yd.sep(nd:Y.adr.Nodup)(ha:a∈[Y.y,Y.lv,Y.st,Y.fl,Y.rd])(hb:b∈enA Y.es):b≠a:=λz=>(é.mp nd).2.2 a ha b hb z.symm
def Yd.five(nd:Y.adr.Nodup):(Y.y≠Y.lv/\Y.y≠Y.st/\Y.y≠Y.fl/\Y.y≠Y.rd)/\(Y.lv≠Y.st/\Y.lv≠Y.fl/\Y.lv≠Y.rd)/\(Y.st≠Y.fl/\Y.st≠Y.rd)/\Y.fl≠Y.rd:=by have:=(é.mp nd).1;simp only[ć,Ç,Ó,or_false,not_or,not_false_eq_true,ĥ,and_true]at this;let⟨⟨a1,a2,a3,a4⟩,⟨b1,b2,b3⟩,⟨c1,c2⟩,d1⟩:=this;exact⟨⟨a1,a2,a3,a4⟩,⟨b1,b2,b3⟩,⟨c1,c2⟩,d1⟩
def fv.off(x:fv h e.b e.t e.d e.B)(he:e∈es)(n:∀b∈enA es,b≠a):fv (upd h a o) e.b e.t e.d e.B:=by let⟨q1,q2,q3⟩:=WA he;exact⟨(ff<|n _ q1).trans x.ins,(ff<|n _ q2).trans x.ties,(ff<|n _ q3).trans x.held,x.ne⟩
def fw.setLives(x:fw h Y)(l:List<|Int×Int):fw (upd h Y.lv<|.dct<|Zi Val.int l) {Y with lives:=l}:=by let⟨⟨a1,a2,a3,a4⟩,⟨b1,b2,b3⟩,_,_⟩:=Yd.five x.nd;exact⟨(ff a1).trans x.ins,fh,(ff b1.symm).trans x.stand,(ff b2.symm).trans x.fallen,(ff b3.symm).trans x.road,λe he=>(x.brs e he).off he λb hb=>Yd.sep x.nd (by simp) hb,x.nd,x.key⟩
def fw.setRoad(x:fw h Y)(l:List<|Int×Int×Int×L):fw (upd h Y.rd<|.lst<|l.map rdV) {Y with road:=l}:=by let⟨⟨a1,a2,a3,a4⟩,⟨b1,b2,b3⟩,⟨c1,c2⟩,d1⟩:=Yd.five x.nd;exact⟨(ff a4).trans x.ins,(ff b3).trans x.lives,(ff c2).trans x.stand,(ff d1).trans x.fallen,fh,λe he=>(x.brs e he).off he λb hb=>Yd.sep x.nd (by simp) hb,x.nd,x.key⟩
def fw.stands(x:fw h Y)(hb:fv h e.b e.t e.d e.B)(hn:e.num∉Y.es.map (·.num))(fr:∀a∈[e.b,e.t,e.d],a∉Y.adr):fw (upd h Y.st<|.dct<|Zi rfV<|stands<|Y.es++[e]) {Y with es:=Y.es++[e]}:=by
 let⟨⟨a1,a2,a3,a4⟩,⟨b1,b2,b3⟩,⟨c1,c2⟩,d1⟩:=Yd.five x.nd;have ō:Y.st∈Y.adr:=Ù _ (by simp);have nb:∀a∈enA (Y.es++[e]),a≠Y.st:=λa ha=>by
  rw[Wm]at ha;rcases å.mp ha with ha|ha
  .exact Yd.sep x.nd (by simp) ha
  .exact λz=>fr a ha<|z▸ō
 refine⟨(ff a2).trans x.ins,(ff b1).trans x.lives,fh,(ff c1.symm).trans x.fallen,(ff c2.symm).trans x.road,λq hq=>?_,?_,?_⟩
 .refine fv.off ?_ hq nb;rcases å.mp hq with hq|hq
  .exact x.brs q hq
  .rw[ß.mp hq];exact hb
 .show([Y.y,Y.lv,Y.st,Y.fl,Y.rd]++enA (Y.es++[e])).Nodup;rw[Wm,<-ĸ,é];refine⟨x.nd,?_,λa ha b hb z=>fr b hb<|z▸ha⟩;simp[hb.nbt,hb.nbd,hb.ne]
 .show((Y.es++[e]).map (·.num)).Nodup;rw[ã,é];refine⟨x.key,by simp,λa ha b hb=>?_⟩;have:b=e.num:=⇑hb
  rw[this];exact λz=>hn<|z▸ha
variable {h0:Hs}
def Jb{fs:List (String×Val)}{f:String}{K:Hs->Prop}(i:g p=eZ (.ins "Yard" fs))(x:Ex [p] h0 g)(hp:h0 p=fb)(ha:g a=fb)(m:fs.length<900)(q:∀g',g' p=eZ (.ins "Yard"<|fA fs f<|.ref a)->g' a=eZ o->Ex [p] h0 g'->Ex [p] g g'->p≠a->h0 a=fb->K g'):go (fY (upd g a o) (.ref p) f<|.ref a) K:=by
 have n:=Za i ha;have y:Ex [p] g<|upd (upd g a o) p<|.ins "Yard"<|fA fs f<|.ref a:=⟨λ{b u} nb e=>by rw[ff λz=>nb<|by simp[z],ff<|Za e ha];exact e⟩
 refine YA (upd_ne' n i) m<|q _ fh ((ff n.symm).trans fh) (x.trans y) y n ?_;cases z:h0 a with
 |none=>rfl
 |some u=>rw[x.get (by simpa using n.symm) z]at ha;cases ha
structure YNew(bs:List Int)(ts:List Tie)(most:Int)(Y:Yd):Prop where
 hb:Y.bs=bs
 ht:Y.ts=ts
 hm:Y.most=most
 num:Y.es.map (·.num)=bs
 br:∀e∈Y.es,e.B=ZD e.num 0 most (gy e.num 0 ts)
 fallen:Y.fallen=[]
 road:Y.road=[]
 lives:Y.lives=bs.map λb=>(b,0)
section
variable {bs:List Int}{ts:List Tie}
def DA(no:fG bs ts)(hp:h p=fb)(k:∀Y g,Y.y=p->fw g Y->YNew bs ts most Y->(∀a∈Y.adr,h a=fb)->Ext h g->Q .non g):wF P (n+3) "Yard.__init__" [.ref p,ZH bs ts,.int most] (upd h p<|.ins "Yard" []) Q X:=by
 have h10:=no.ten;have h16:=no.sixteen;have ez:(bs.map Val.int).length=bs.length:=Ã _;have ndb:bs.Nodup:=no.up.imp λh=>by lia
 refine Ov ?_;refine' YA fh (show(1:Nat)<900 by decide) ?_;rw[fi,fi];have i1:=fh (h:=h) (a:=p) (o:=Ob.ins "Yard"<|fA (fA [] "net_made_of"<|ZH bs ts) "greatest_age"<|.int most);have x1:Ex [p] h<|upd h p<|Ob.ins "Yard"<|fA (fA [] "net_made_of"<|ZH bs ts) "greatest_age"<|.int most:=Ex.upd (by simp);generalize upd h p (Ob.ins "Yard"<|fA (fA [] "net_made_of"<|ZH bs ts) "greatest_age"<|.int most)=g1 at i1 x1 ⊢;fail;intro lv hlv;refine' Jb i1 x1 hp hlv (show(2:Nat)<900 by decide) λg2 i2 lv2 x2 y2 nlv flv=>?_;fail;intro st ō;refine' Jb i2 x2 hp ō (show(3:Nat)<900 by decide) λg3 i3 st3 x3 y3 nst fst=>?_;fail;intro fl hfl;refine' Jb i3 x3 hp hfl (show(4:Nat)<900 by decide) λg4 i4 fl4 x4 y4 nfl ffl=>?_;refine' Xf λrd hrd=>?_;refine' Jb i4 x4 hp hrd (show(5:Nat)<900 by decide) λg5 i5 rd5 x5 y5 nrd frd=>?_;have q1:lv≠st:=Za lv2 ō;have lv3:=y3.get (by simpa using nlv.symm) lv2;have q2:lv≠fl:=Za lv3 hfl;have q3:st≠fl:=Za st3 hfl;have lv4:=y4.get (by simpa using nlv.symm) lv3;have st4:=y4.get (by simpa using nst.symm) st3;have q4:lv≠rd:=Za lv4 hrd;have q5:st≠rd:=Za st4 hrd;have q6:fl≠rd:=Za fl4 hrd;have lv5:=y5.get (by simpa using nlv.symm) lv4;have st5:=y5.get (by simpa using nst.symm) st4;have fl5:=y5.get (by simpa using nfl.symm) fl4;have xe:Ext h g5:=⟨λ{a o} e=>x5.get (by simpa using Za e hp) e⟩
 have Y0:fw g5 ⟨p,lv,st,fl,rd,bs,ts,most,[],[],[],[]⟩:=⟨i5,lv5,st5,fl5,rd5,(λe he=>gM he Ó),by
   show([p,lv,st,fl,rd]++[]).Nodup
   simp[nlv,nst,nfl,nrd,q1,q2,q3,q4,q5,q6],ĥ⟩
 exists fm (xs:=[.tup<|bs.map .int,.tup<|ts.map trV]) (v:=.tup<|bs.map .int) rfl
 refine' Zs (λi en g=>Sm3 λv3 lvs es=>Cj7 (en=[eZ<|.ref p,eZ<|ZH bs ts,eZ<|.int most,v3]) (fw g ⟨p,lv,st,fl,rd,bs,ts,most,lvs,es,[],[]⟩) (lvs=(bs.take i).map (λb=>(b,0))) (es.map (·.num)=bs.take i) ((∀e∈es,e.B=ZD e.num 0 most (gy e.num 0 ts))) ((∀a∈[p,lv,st,fl,rd]++enA es,h a=fb))<|Ext h g) ⟨_,[],[],rfl,Y0,rfl,rfl,(λe he=>gM he Ó),?_,xe⟩ (λ_ _ _ _ _=>trivial) ?_ ?_
 .intro a ha;simp only[enA,List.flatMap_nil,ò,Ç,Ó,or_false]at ha;rcases ha with rfl|rfl|rfl|rfl|rfl<;>assumption
 .rintro i v en g hv ⟨v3,lvs,es,rfl,Y,hlv,hnum,hbr,b7,x⟩ K hK;let⟨b,hb,rfl⟩:=ZT hv;have hi:i<bs.length:=(Î.mp hb).1;have hnb:b∉es.map (·.num):=by
   rw[hnum];intro m;have:=Yl (f:=id) (by rw[ν];exact ndb) hb;rw[ν]at this;exact this m
  have hll:lvs.length<=10:=by rw[hlv,Ã,ě];lia
  have hkl:b∉lvs.map (·.1):=by rw[hlv,ü,show((λq:Int×Int=>q.1) ∘ λb:Int=>(b,(0:Int)))=id from rfl,ν,<-hnum];exact hnb
  have hesl:es.length<=10:=by rw[<-Ã (f:=(·.num)) (as:=es),hnum,ě];lia
  let⟨yi,yl,ys,yf,yr,yb,ynd,yk⟩:=id Y;dsimp only at yi yl ys yf yr yb;refine' YY (k:=.int b) yl ⟨rfl,by rw[Kw];exact Ü hll<|by decide⟩ ?_;rw[Z8 (val:=Val.int)];have Y1:=Y.setLives<|Zo lvs b 0;have x1:Ext h<|upd g lv<|.dct<|Zi Val.int<|Zo lvs b 0:=⟨λe=>by rw[ff<|Za e flv];exact x.get e⟩
  dsimp only at Y1;generalize upd g lv (.dct<|Zi Val.int<|Zo lvs b 0)=g6 at Y1 x1;let⟨zi,zl,zs,zf,zr,zb,znd,zk⟩:=id Y1;dsimp only at zi zl zs zf zr zb;refine' XD h16 λpn g7 hpn x7 en=>?_;have Y7:=Y1.ext x7;fail;intro q hq;have nr:=Jx (b:=b) (l:=ts) (k:=0);have nl:=Ao (b:=b) (l:=ts) (k:=0);have xq:Ext g7<|upd g7 q<|.ins "Bridge" []:=Ext.new hq;have eq:(upd g7 q<|.ins "Bridge" []) q=eZ (.ins "Bridge" []):=fh;refine Ab (rs:=gy b 0 ts) eq (xq.get en) (nr.1.imp λz=>by lia) (by lia) λt d g8 ht hd ba x8=>?_;have x78:Ext g7 g8:=⟨λ{a o} e=>x8.get (by simpa using Za e hq)<|xq.get e⟩
  have Y8:=Y7.ext x78;have ht7:g7 t=fb:=by cases z:g7 t with|none=>rfl|some o=>rw[xq.get z]at ht;cases ht
  have hd7:g7 d=fb:=by cases z:g7 d with|none=>rfl|some o=>rw[xq.get z]at hd;cases hd
  refine⟨rfl,?_⟩;let⟨wi,wl,ws,wf,wr,wb,wnd,wk⟩:=id Y8;dsimp only at wi wl ws wf wr wb;refine' YY (k:=.int b) ws ⟨rfl,by rw[Kw];unfold stands;rw[Ã];exact Ü hesl<|by decide⟩ ?_;rw[Z8 (val:=rfV),Wi _<|by rw[ZG];exact hnb];have ō:stands es++[(b,q)]=stands (es++[⟨b,q,t,d,ZD b 0 most<|gy b 0 ts⟩]):=by unfold stands;rw[ã];rfl
  rw[ō];have fr:∀a∈[q,t,d],g7 a=fb:=λa ha=>by simp only[Ç,Ó,or_false]at ha;rcases ha with rfl|rfl|rfl<;>assumption
  have Y9:=Y8.stands (e:=⟨b,q,t,d,ZD b 0 most<|gy b 0 ts⟩) ba hnb λa ha z=>Y7.taken z<|fr a ha;fail;have x9:Ext h g8:=(x1.trans x7).trans x78;refine hK _ _ ⟨_,_,_,rfl,Y9,?_,?_,?_,?_,⟨λe=>by rw[ff<|Za e fst];exact x9.get e⟩⟩
  .show Zo lvs b 0=_;rw[Wi _ hkl,hlv,Zm hb,ã];rfl
  .rw[ã,hnum,Ψ,hb];rfl
  .intro e he;rcases å.mp he with he|he
   .exact hbr e he
   .rw[ß.mp he]
  .intro a ha;rw[Wm,<-ĸ]at ha;rcases å.mp ha with ha|ha
   .exact b7 a ha
   .cases z:h a with
    |none=>rfl
    |some o=>have:=fr a ha;rw[(x1.trans x7).get z]at this;cases this
 .rintro en g ⟨v3,lvs,es,rfl,Y,hlv,hnum,hbr,b7,x⟩;rw[ez,ÿ]at hnum hlv;refine' k _ g rfl Y ⟨rfl,rfl,rfl,hnum,hbr,rfl,rfl,hlv⟩ b7 x
end
abbrev L5(ts:List Tie)(p num:Int):Int:=far (ts[p.toNat]?.getD (0,0,0)) num
abbrev Z4(ts:List Tie)(num:Int)(B:Br):List<|Int×Int×Int×L:=(sortI (B.ties.map (·.1))).map λp=>(num,L5 ts p num,p,ZE B p)
def Xn{num:Int}(h:(stands es).lookup num=eZ b):∃e pre ł,es=pre++e::ł/\e.num=num/\e.b=b:=by have:=Zn h;unfold stands at this;let⟨e,he,z⟩:=Û.mp this;let⟨pre,ł,rfl⟩:=d8 he;injection z with z1 z2;exact⟨e,pre,ł,rfl,z1,z2⟩
def YV(pre ł:List En)(e:En):enA (pre++e::ł)=enA pre++([e.b,e.t,e.d]++enA ł):=by unfold enA;rw[dD];rfl
variable {ł:List En}
def fw.change{pre:List En}(x:fw h Y)(he:Y.es=pre++e::ł)(ex:Ex [e.b] h g)(hb:fv g e.b t d B)(ft:t=e.t\/h t=fb)(fd:d=e.d\/h d=fb):fw g {Y with es:=pre++⟨e.num,e.b,t,d,B⟩::ł}:=by
 let⟨y,lv,st,fl,rd,bs,ts,most,lives,es,fallen,road⟩:=Y;dsimp only at he;subst he;have hm:e∈pre++e::ł:=by simp
 have heA:=WA hm;have nb:∀a∈[y,lv,st,fl,rd],a∉[e.b]:=λa ha z=>Yd.sep x.nd ha heA.1 (ß.mp z).symm;have nd0:([y,lv,st,fl,rd]++(enA pre++([e.b,e.t,e.d]++enA ł))).Nodup:=by rw[<-YV];exact x.nd
 have key:∀q∈pre++ł,fv g q.b q.t q.d q.B:=λq hq=>by
  have hq':q∈pre++e::ł:=by
   rcases å.mp hq with z|z
   .exact Ù _ z
   .exact Ê _<|Þ _ z
  have nq:∀a∈[q.b,q.t,q.d],a≠e.b:=λa ha z=>by
   have n1:=(é.mp nd0).2.1;rcases å.mp hq with hq|hq
   .have ha':a∈enA pre:=Ũ.mpr ⟨q,hq,ha⟩;exact(é.mp n1).2.2 a ha' e.b (by simp) z
   .have ha':a∈enA ł:=Ũ.mpr ⟨q,hq,ha⟩;have n2:=(é.mp n1).2.1;exact(é.mp n2).2.2 e.b (by simp) a ha' z.symm
  exact(x.brs q hq').keep ex (by simpa using nq _ (by simp)) (by simpa using nq _ (by simp)) (by simpa using nq _ (by simp))
 have tk:∀a∈[y,lv,st,fl,rd]++(enA pre++([e.b,e.t,e.d]++enA ł)),h a≠fb:=λa ha=>x.taken (by show a∈[y,lv,st,fl,rd]++enA (pre++e::ł);rw[YV];exact ha);have fr:∀{a c:Ad},(a=c\/h a=fb)->∀z,z∈[y,lv,st,fl,rd]++(enA pre++([e.b,e.t,e.d]++enA ł))->z≠c->z≠a:=λf z hz nc e=>by
  subst e;rcases f with f|f
  .exact nc f
  .exact tk z hz f
 refine⟨ex.get (nb _<|by simp) x.ins,ex.get (nb _<|by simp) x.lives,?_,ex.get (nb _<|by simp) x.fallen,ex.get (nb _<|by simp) x.road,λq hq=>?_,?_,?_⟩
 .have:=ex.get (nb st<|by simp) x.stand;dsimp only at this ⊢;rw[this];unfold gF.stands;simp
 .dsimp only at hq;rcases å.mp hq with z|z
  .exact key q<|Ù _ z
  .rcases Ç.mp z with rfl|z
   .exact hb
   .exact key q<|Ê _ z
 .show([y,lv,st,fl,rd]++enA (pre++⟨e.num,e.b,t,d,B⟩::ł)).Nodup;rw[YV];dsimp only;have n1:=é.mp nd0;have n2:=é.mp n1.2.1;have n3:=é.mp n2.2.1;have e3:e.b≠e.t/\e.b≠e.d/\e.t≠e.d:=by
   have:=n3.1;simp only[ć,Ç,Ó,or_false,not_or,ĥ,and_true,not_false_eq_true]at this;exact⟨this.1.1,this.1.2,this.2⟩
  have out:∀z,z∈[y,lv,st,fl,rd]\/z∈enA pre\/z∈enA ł->z∉[e.b,t,d]:=λz hz m=>by
   have hza:z∈[y,lv,st,fl,rd]++(enA pre++([e.b,e.t,e.d]++enA ł)):=by
    rcases hz with q|q|q
    .exact Ù _ q
    .exact Ê _<|Ù _ q
    .exact Ê _<|Ê _<|Ê _ q
   have nz:∀c∈[e.b,e.t,e.d],z≠c:=λc hc w=>by
    rcases hz with q|q|q
    .exact n1.2.2 z q c (Ê _<|Ù _ hc) w
    .exact n2.2.2 z q c (Ù _ hc) w
    .exact n3.2.2 c hc z q w.symm
   simp only[Ç,Ó,or_false]at m;rcases m with m|m|m
   .exact nz e.b (by simp) m
   .exact fr ft z hza (nz e.t<|by simp) m
   .exact fr fd z hza (nz e.d<|by simp) m
  refine é.mpr ⟨n1.1,é.mpr ⟨n2.1,é.mpr ⟨?_,n3.2.1,λa ha b hb z=>out b (.inr<|.inr hb)<|z▸ha⟩,λa ha b hb z=>?_⟩,λa ha b hb z=>?_⟩
  .simp[hb.nbt,hb.nbd,hb.ne]
  .rcases å.mp hb with q|q
   .exact out a (.inr<|.inl ha)<|z▸q
   .exact n2.2.2 a ha b (Ê _ q) z
  .rcases å.mp hb with q|q
   .exact n1.2.2 a ha b (Ù _ q) z
   .rcases å.mp q with q|q
    .exact out a (.inl ha)<|z▸q
    .exact n1.2.2 a ha b (Ê _<|Ê _ q) z
 .have:=x.key;simpa using this
def fw.inner{pre:List En}(x:fw h Y)(he:Y.es=pre++e::ł)(ex:Ex [e.b,e.t,e.d] h g)(hb:fv g e.b e.t e.d B):fw g {Y with es:=pre ++ {e with B:=B} :: ł}:=by
 let⟨y,lv,st,fl,rd,bs,ts,most,lives,es,fallen,road⟩:=Y;dsimp only at he;subst he;have nd0:([y,lv,st,fl,rd]++(enA pre++([e.b,e.t,e.d]++enA ł))).Nodup:=by rw[<-YV];exact x.nd
 have n1:=é.mp nd0;have n2:=é.mp n1.2.1;have n3:=é.mp n2.2.1;have nb:∀a∈[y,lv,st,fl,rd],a∉[e.b,e.t,e.d]:=λa ha z=>n1.2.2 a ha a (Ê _<|Ù _ z) rfl;have key:∀q,q∈pre\/q∈ł->fv g q.b q.t q.d q.B:=λq hq=>by
  have hq':q∈pre++e::ł:=by
   rcases hq with z|z
   .exact Ù _ z
   .exact Ê _<|Þ _ z
  have nq:∀a∈[q.b,q.t,q.d],a∉[e.b,e.t,e.d]:=λa ha z=>by
   rcases hq with hq|hq
   .exact n2.2.2 a (Ũ.mpr ⟨q,hq,ha⟩) a (Ù _ z) rfl
   .exact n3.2.2 a z a (Ũ.mpr ⟨q,hq,ha⟩) rfl
  exact(x.brs q hq').keep ex (nq _<|by simp) (nq _<|by simp) (nq _<|by simp)
 refine⟨ex.get (nb _<|by simp) x.ins,ex.get (nb _<|by simp) x.lives,?_,ex.get (nb _<|by simp) x.fallen,ex.get (nb _<|by simp) x.road,λq hq=>?_,?_,?_⟩
 .have:=ex.get (nb st<|by simp) x.stand;dsimp only at this ⊢;rw[this];unfold gF.stands;simp
 .dsimp only at hq;rcases å.mp hq with z|z
  .exact key q<|.inl z
  .rcases Ç.mp z with rfl|z
   .exact hb
   .exact key q<|.inr z
 .show([y,lv,st,fl,rd]++enA (pre ++ {e with B:=B} :: ł)).Nodup;rw[YV];exact nd0
 .have:=x.key;dsimp only at this ⊢;simpa using this
def Lk{xs:List Val}{v:Val}{p:Nat}{K:Val×Hs->Prop}(e1:h a=eZ (.lst xs))(e:xs[p]?=eZ v)(m:xs.length<=500000)(q:K (v,upd h a<|.lst<|xs.eraseIdx p)):go (bmV h .popAt (.ref a) [.int p]) K:=by
 have hp:p<xs.length:=(Î.mp e).1;have h1:-(2 ^ 62)<(p:Int)/\(p:Int)<2 ^ 62:=by
  have:(p:Int)<500000:=by lia
  exact⟨eX (by decide:(-(2 ^ 62):Int)<0)<|eY p,Int.lt_trans this<|by decide⟩
 have h2:ixN xs.length (p:Int)=eZ p:=by unfold ixN;rw[gG<|eY p,gG (by lia),à]
 have h3:bmPopAt h [.int p] a xs=eZ (v,upd h a<|.lst<|xs.eraseIdx p):=by unfold bmPopAt;dsimp only;rw[gG h1,h2];simp only[ð,e,ķ]
 exact fk (by show(fx<|h a).bind (bmPopAt h [.int p] a)=_;rw[lsE e1,ð];exact h3) q
def K7{α β:Type}(f:α->β):∀(l:List α) (i:Nat),(l.map f).eraseIdx i=(l.eraseIdx i).map f
 |[],_=>by simp
 |_::_,0=>by simp
 |x::l,i+1=>by simp[K7 f l i]
section
variable {Y:Yd}{p:Nat}
variable {r:Int×Int×Int×L}
def XO(x:fw h Y)(hr:Y.road[p]?=eZ r)(hl:Y.road.length<=500000)(k:∀g,fw g {Y with road:=Y.road.eraseIdx p}->Ex [Y.rd] h g->Q (rdV r) g):wF P (n+1) "Yard.take_off" [.ref Y.y,.int p] h Q X:=by have xi:=x.ins;have xr:=x.road;have hp:p<Y.road.length:=(Î.mp hr).1;have hrl:(Y.road.map rdV).length=Y.road.length:=Ã _;refine Y4 ?_;fail;refine gb (by simp) ?_;fail;refine gc (by rw[hrl];simpa using hp) ?_;refine' Lk xr (by rw[Ú,hr];rfl) (by lia) ?_;rw[K7];exact k _ (x.setRoad _) (Ex.upd<|by simp)
def FJ{pre:List En}(x:fw h Y)(hr:Y.road[p]?=eZ r)(hl:Y.road.length<=500000)(he:Y.es=pre++e::ł)(hg:r.2.1=e.num)(o:e.B.ok)
  (k:∀g,fw g {Y with es:=pre ++ {e with B:=ZW e.B r.2.2.1 r.2.2.2} :: ł,road:=Y.road.eraseIdx p}->Ex Y.adr h g->Q .non g):wF P (n+3) "Yard.come" [.ref Y.y,.int p] h Q X:=by
 have xi:=x.ins;have hm:e∈Y.es:=by rw[he];simp
 have lk:(stands Y.es).lookup r.2.1=eZ e.b:=by rw[hg];exact WY (by rw[ZG];exact x.key)<|Û.mpr ⟨e,hm,rfl⟩
 refine Xk ?_;refine' XO x hr hl λg1 y1 x1=>?_;have yi:=y1.ins;have ys:=y1.stand;have ba:=y1.brs e hm;have bi:=ba.ins;dsimp only at yi ys;let⟨rs,rg,rt,rl⟩:=r;dsimp only at lk hg k
 exists Wp ys rfl
 rw[Z3,lk];walk_at "p";refine ZX ys rfl (by rw[Z5,lk];rfl) ?_;refine' FG ba o λg2 b2 x2=>?_;have y2:=y1.inner (e:=e) he (x2.sub<|by simp) b2;have mA:=WA hm;refine' k g2 y2 ((x1.sub λa ha=>?_).trans<|x2.sub λa ha=>?_)
 .rw[ß.mp ha];exact Ù _ (by simp)
 .rw[ß.mp ha];exact Ê _ mA.2.2
def EB(x:fw h Y)(hr:Y.road[p]?=eZ r)(hl:Y.road.length<=500000)(hg:r.2.1∉Y.es.map (·.num))
  (k:∀g,fw g {Y with road:=Y.road.eraseIdx p}->Ex Y.adr h g->Q .non g):wF P (n+3) "Yard.come" [.ref Y.y,.int p] h Q X:=by
 have xi:=x.ins;have lk:(stands Y.es).lookup r.2.1=fb:=by
  cases z:(stands Y.es).lookup r.2.1 with
  |none=>rfl
  |some q =>have:=ú (f:=(·.1))<|Zn z;rw[ZG]at this;exact gM this hg
 refine Xk ?_;refine' XO x hr hl λg1 y1 x1=>?_;have yi:=y1.ins;have ys:=y1.stand;dsimp only at yi ys;let⟨rs,rg,rt,rl⟩:=r;dsimp only at lk hg k
 exists Wp ys rfl
 rw[Z3,lk];walk_at "p";exact k g1 y1 (x1.sub λa ha=>by rw[ß.mp ha];exact Ù _<|by simp)
end
abbrev Ys(k:Int)(F:Br->Br)(es:List En):List En:=es.map λe=>if e.num=k then {e with B:=F e.B} else e
def X3{k:Int}{F:Br->Br}:∀{es:List En},k∉es.map (·.num)->Ys k F es=es
 |[],_=>rfl
 |e::es,h=>by rw[É,Ç,not_or]at h;unfold Ys;rw[É,gH λz=>h.1 z.symm];exact congrArg (e :: ·)<|X3 h.2
variable {F:Br->Br}
def Ny{pre:List En}(nd:((pre++e::ł).map (·.num)).Nodup):Ys e.num F (pre++e::ł)=pre ++ {e with B:=F e.B} :: ł:=by rw[ã,É,é,ć]at nd;have h1:Ys e.num F pre=pre:=X3 λz=>nd.2.2 _ z e.num (by simp) rfl;have h2:Ys e.num F ł=ł:=X3 nd.2.1.1;unfold Ys at h1 h2 ⊢;rw[ã,É,h1,h2,gG rfl]
def Nt{k:Int}(es:List En):(Ys k F es).map (·.num)=es.map (·.num):=by unfold Ys;rw[ü];refine ħ λe _=>?_;show(if e.num=k then({e with B:=F e.B}:En)else e).num=e.num;split<;>rfl
def Oo{k:Int}(es:List En):stands (Ys k F es)=stands es:=by unfold Ys stands;rw[ü];refine ħ λe _=>?_;show((if e.num=k then({e with B:=F e.B}:En)else e).num,(if e.num=k then({e with B:=F e.B}:En)else e).b)=_;split<;>rfl
def X4{k:Int}{F:Br->Br}:∀es:List En,enA (Ys k F es)=enA es
 |[]=>rfl
 |e::es=>by have:=X4 (k:=k) (F:=F) es;unfold Ys enA at this ⊢;rw[É,ž,ž,this];split<;>rfl
def Nm{k:Int}{q:En}(h:q∈Ys k F es):(q∈es/\q.num≠k)\/∃e∈es,e.num=k/\q={e with B:=F e.B}:=by
 let⟨e,he,rfl⟩:=Û.mp h;by_cases z:e.num=k
 .right;exact⟨e,he,z,by rw[gG z]⟩
 .left;rw[gH z];exact⟨he,z⟩
abbrev tieF(on:Bool)(p:Int)(far c:Int)(B:Br):Br:=if on then upB B p (far,c)else Oa B p
abbrev setT(on:Bool)(p:Int)(t:Tie)(es:List En):List En:=Ys t.2.1 (tieF on p t.1 t.2.2)<|Ys t.1 (tieF on p t.2.1 t.2.2) es
abbrev onT(Y:Yd)(p:Int)(t:Tie):Bool:=!(Y.fallen.lookup p).isSome&&(((stands Y.es).lookup t.1).isSome&&((stands Y.es).lookup t.2.1).isSome)
section
variable {Y:Yd}
def fw.one(x:fw h Y)(he:e∈Y.es)(ex:Ex [e.b,e.t,e.d] h g)(hb:fv g e.b e.t e.d<|F e.B):fw g {Y with es:=Ys e.num F Y.es}:=by let⟨pre,ł,hs⟩:=d8 he;have k:=x.key;rw[hs]at k;rw[hs,Ny k];exact x.inner hs ex hb
end
noncomputable abbrev GD:Ss:=#[.ite (.val<|.var 5) #[.expr<|.meth "Bridge" "up" (.idx (.fld (.var 0) "standing")<|.var 6) #[.var 1,.var 7,.var 4]] #[.ite (.val<|.cmp .isin (.var 6)<|.fld (.var 0) "standing") #[.expr<|.meth "Bridge" "down" (.idx (.fld (.var 0) "standing")<|.var 6) #[.var 1]] .nil]]
section
variable {Y:Yd}
def Mh{p:Nat}{t1 t2:Int}{on:Bool}{v6 v7:Option Val}{R:NQ}(x:fw h Y)(hn:t1≠t2)(gd:∀e∈Y.es,e.B.ok)(hon:∀near far:Int,(near=t1/\far=t2\/near=t2/\far=t1)->on=fc->∃b,(stands Y.es).lookup near=eZ b)
  (k:∀g e,fw g {Y with es:=setT on p (t1,t2,c) Y.es}->Ex Y.adr h g->R e g) :
  wFor (λ_=>True) (λv e g K M=>go (bind (.many [6,7]) g v e) λe2=>wSs (wF P<|n+1) GD e2 g K Q M K λ_ c g=>X c g) R [.tup [.int t1,.int t2],.tup [.int t2,.int t1]] [eZ<|.ref Y.y,eZ<|.int p,eZ<|.int t1,eZ<|.int t2,eZ<|.int c,eZ<|.bl on,v6,v7] h:=by
 refine Zs (λi e g=>∃v6 v7 es',e=[eZ<|.ref Y.y,eZ<|.int p,eZ<|.int t1,eZ<|.int t2,eZ<|.int c,eZ<|.bl on,v6,v7]/\fw g {Y with es:=es'}/\Ex Y.adr h g/\(i=0->es'=Y.es)/\(i=1->es'=Ys t1 (tieF on p t2 c) Y.es)/\(i=2->es'=setT on p (t1,t2,c) Y.es)) ⟨_,_,Y.es,rfl,x,Ex.refl,λ_=>rfl,λz=>(by cases z),λz=>(by cases z)⟩ (λ_ _ _ _ _=>trivial) ?_ ?_
 .rintro i v e g hv ⟨u6,u7,es',rfl,y,xg,q0,q1,q2⟩ K hK;obtain⟨near,far,rfl,hnf,ō,heA,hgd,hnext⟩:∃near far,v=.tup [.int near,.int far]/\(near=t1/\far=t2\/near=t2/\far=t1)/\stands es'=stands Y.es/\enA es'=enA Y.es/\(∀e∈es',e.num=near->e.B.ok)/\∀dN,dN=Ys near (tieF on p far c) es'->(i+1=0->dN=Y.es)/\(i+1=1->dN=Ys t1 (tieF on p t2 c) Y.es)/\(i+1=2->dN=setT on p (t1,t2,c) Y.es):=by
   match i,hv with
   |0,hv =>cases hv;have:=q0 rfl;subst this;exact⟨t1,t2,rfl,.inl ⟨rfl,rfl⟩,rfl,rfl,λe he _=>gd e he,λdN z=>⟨λy=>(by cases y),λ_=>z,λy=>(by cases y)⟩⟩
   |1,hv =>
    cases hv;have:=q1 rfl;subst this;refine⟨t2,t1,rfl,.inr ⟨rfl,rfl⟩,Oo _,X4 _,λe he hz=>?_,λdN z=>⟨λy=>(by cases y),λy=>(by cases y),λ_=>z⟩⟩;rcases Nm he with⟨hm,_⟩|⟨q,hq,hq1,hq2⟩
    .exact gd e hm
    .exact gM (by rw[hq2]at hz;exact hq1.symm.trans hz) hn
   |i+2,hv=>simp at hv
  have yi:=y.ins;have ys:=y.stand;dsimp only at yi ys;have step:∀{e:En}{g':Hs},e∈es'->e.num=near->Ex [e.b,e.t,e.d] g g'->fv g' e.b e.t e.d (tieF on p far c e.B)->∀w6 w7,K [eZ<|.ref Y.y,eZ<|.int p,eZ<|.int t1,eZ<|.int t2,eZ<|.int c,eZ<|.bl on,w6,w7] g':=λ{e g'} he ŭ ex hb w6 w7=>by
   have y':=y.one (F:=tieF on p far c) he ex hb;rw[ŭ]at y';have mA:=WA he;refine hK _ _ ⟨w6,w7,_,rfl,y',xg.trans<|ex.sub λa ha=>?_,hnext _ rfl⟩;refine Ê _ ?_;rw[<-heA];simp only[Ç,Ó,or_false]at ha;rcases ha with rfl|rfl|rfl
   .exact mA.1
   .exact mA.2.1
   .exact mA.2.2
  fail;cases hob:on with
  |true =>
   let⟨b,lk⟩:=hon near far hnf hob;rw[<-ō]at lk;let⟨e,pre,ł,hs,ŭ,hbb⟩:=Xn lk;have hm:e∈es':=by rw[hs];simp
   have ba:=y.brs e hm;have bi:=ba.ins;subst hbb;refine gb rfl ?_;refine' ZX ys rfl (by rw[Z5,lk];rfl) ?_;refine' Sb ba (hgd e hm ŭ) λg' b' x'=>?_;fail;rw[<-hob];exact step hm ŭ (x'.sub<|by simp) (by unfold tieF;rw[hob];exact b') _ _
  |false =>
   refine gc rfl ?_
   exists Wp ys rfl
   rw[Z3];cases hlk:(stands es').lookup near with
   |none =>
    walk_at "p";rw[<-hob];refine hK _ _ ⟨_,_,es',rfl,y,xg,hnext es' (X3 ?_).symm⟩;have:=Xv hlk
    rwa [ZG]at this
   |some b =>
    let⟨e,pre,ł,hs,ŭ,hbb⟩:=Xn hlk;have hm:e∈es':=by rw[hs];simp
    have ba:=y.brs e hm;have bi:=ba.ins;subst hbb;walk_at "p";refine ZX ys rfl (by rw[Z5,hlk];rfl) ?_;refine' Fz ba λg' b' x'=>?_;fail;rw[<-hob];exact step hm ŭ (x'.sub<|by simp) (by unfold tieF;rw[hob];exact b') _ _
 .rintro e g ⟨u6,u7,es',rfl,y,xg,q0,q1,q2⟩;have:=q2 rfl;subst this;exact k _ _ y xg
def WH{p:Nat}{t:Tie}(x:fw h Y)(et:Y.ts[p]?=eZ t)(hn:t.1≠t.2.1)(gd:∀e∈Y.es,e.B.ok)(k:∀g,fw g {Y with es:=setT (onT Y p t) p t Y.es}->Ex Y.adr h g->Q .non g):wF P (n+2) "Yard.set_tie" [.ref Y.y,.int p] h Q X:=by
 have xi:=x.ins;have xs:=x.stand;have xf:=x.fallen;let⟨t1,t2,c⟩:=t;dsimp only at hn;have fin:onT Y p (t1,t2,c)=onT Y p (t1,t2,c)->∀near far:Int,(near=t1/\far=t2\/near=t2/\far=t1)->onT Y p (t1,t2,c)=fc->∃b,(stands Y.es).lookup near=eZ b:=λ_ near far hv ho=>by
  simp only[onT,bAq]at ho;rcases hv with⟨rfl,_⟩|⟨rfl,_⟩
  .exact û.mp ho.2.1
  .exact û.mp ho.2.2
 refine J4 ?_
 exists fm (xs:=[.tup<|Y.bs.map .int,.tup<|Y.ts.map trV]) (v:=.tup<|Y.ts.map trV) rfl
 refine' fm (v:=.tup [.int t1,.int t2,.int c]) (YQ (by lia)<|by rw[Ú,à,et];rfl) ?_
 exists Yq xf rfl
 rw[Z3];obtain⟨on,hon⟩:∃on:Bool,on=onT Y p (t1,t2,c):=⟨_,rfl⟩
 rw[<-hon]at k fin;have fin:=fin rfl;cases e1:(Y.fallen.lookup (p:Int)).isSome with
 |true =>
  have z:fe=on:=by rw[hon];unfold onT;rw[e1];rfl
  walk_at "p";rw[z];exact Mh x hn gd fin λg e y xg=>by fail;exact k g y xg
 |false =>
  walk_at "p";refine Wp xs rfl ?_;rw[Z3];cases e2:((stands Y.es).lookup t1).isSome with
  |false =>
   have z:fe=on:=by rw[hon];unfold onT;rw[e1,e2];rfl
   walk_at "p";rw[z];exact Mh x hn gd fin λg e y xg=>by fail;exact k g y xg
  |true =>
   walk_at "p";refine Wp xs rfl ?_;rw[Z3];have z:((stands Y.es).lookup t2).isSome=on:=by rw[hon];unfold onT;rw[e1,e2];rfl
   rw[z];refine' Mh x hn gd fin λg e y xg=>by fail;exact k g y xg
end
variable {on:Bool}
def M2{p far:Int}(o:B.ok)(h0:0<=p)(h1:p<16):(tieF on p far c B).ok:=by
 unfold tieF;split
 .exact o.up h0 h1
 .exact o.down p
def Af{k:Int}(gd:∀e∈es,e.B.ok)(hF:∀B,B.ok->(F B).ok):∀e∈Ys k F es,e.B.ok:=λq hq=>by
 rcases Nm hq with⟨hm,_⟩|⟨e,he,_,rfl⟩
 .exact gd q hm
 .exact hF _<|gd e he
def FM{p:Int}{t:Tie}(gd:∀e∈es,e.B.ok)(h0:0<=p)(h1:p<16):∀e∈setT on p t es,e.B.ok :=
 Af (Af gd λ_ o=>M2 o h0 h1) λ_ o=>M2 o h0 h1
def CJ{p:Int}{t:Tie}(es:List En):(setT on p t es).map (·.num)=es.map (·.num):=by unfold setT;rw[Nt,Nt]
def Ke{p:Int}{t:Tie}(es:List En):enA (setT on p t es)=enA es:=by unfold setT;rw[X4,X4]
abbrev ZR(Y:Yd)(l:List Tie):Yd:=l.foldl (λY r=>{Y with es:=setT (onT Y r.1<|Y.ts[r.1.toNat]?.getD (0,0,0)) r.1 (Y.ts[r.1.toNat]?.getD (0,0,0)) Y.es}) Y
def Jq(Y:Yd)(l:List Tie)(r:Tie):ZR Y (l++[r])={ZR Y l with es:=setT (onT (ZR Y l) r.1<|(ZR Y l).ts[r.1.toNat]?.getD (0,0,0)) r.1 ((ZR Y l).ts[r.1.toNat]?.getD (0,0,0)) (ZR Y l).es}:=by unfold ZR;rw[List.foldl_append];rfl
structure Same(Y Z:Yd):Prop where
 y:Z.y=Y.y
 lv:Z.lv=Y.lv
 st:Z.st=Y.st
 fl:Z.fl=Y.fl
 rd:Z.rd=Y.rd
 bs:Z.bs=Y.bs
 ts:Z.ts=Y.ts
 most:Z.most=Y.most
 lives:Z.lives=Y.lives
 fallen:Z.fallen=Y.fallen
 road:Z.road=Y.road
 num:Z.es.map (·.num)=Y.es.map (·.num)
 enA:enA Z.es=enA Y.es
variable {Z:Yd}
def Same.adr(s:Same Y Z):Z.adr=Y.adr:=by unfold Yd.adr;rw[s.y,s.lv,s.st,s.fl,s.rd,s.enA]
def Same.refl:Same Y Y:=⟨rfl,rfl,rfl,rfl,rfl,rfl,rfl,rfl,rfl,rfl,rfl,rfl,rfl⟩
variable {W:Yd}
def Same.trans(a:Same Y Z)(b:Same Z W):Same Y W:=⟨b.y.trans a.y,b.lv.trans a.lv,b.st.trans a.st,b.fl.trans a.fl,b.rd.trans a.rd,b.bs.trans a.bs,b.ts.trans a.ts,b.most.trans a.most,b.lives.trans a.lives,b.fallen.trans a.fallen,b.road.trans a.road,b.num.trans a.num,b.enA.trans a.enA⟩
def Same.setT{p:Int}{t:Tie}:Same Y {Y with es:=setT on p t Y.es}:=⟨rfl,rfl,rfl,rfl,rfl,rfl,rfl,rfl,rfl,rfl,rfl,CJ _,Ke _⟩
def YS:∀(l:List Tie) (Y:Yd),Same Y (ZR Y l)
 |[],_=>.refl
 |_::l,_=>Same.setT.trans<|YS l _
section
variable {Y:Yd}
def Ka{b:Int}(no:fG Y.bs Y.ts)(x:fw h Y)(gd:∀e∈Y.es,e.B.ok)(k:∀g,fw g (ZR Y<|gy b 0 Y.ts)->(∀e∈(ZR Y<|gy b 0 Y.ts).es,e.B.ok)->Ex Y.adr h g->Q .non g):wF P (n+3) "Yard.set_ties_of" [.ref Y.y,.int b] h Q X:=by
 have xi:=x.ins;have h16:=no.sixteen;refine XU ?_;refine' XD no.sixteen λp g0 hp x0 e0=>?_;fail;have x':=x.ext x0;have npA:p∉Y.adr:=λz=>x.taken z hp;refine Zs (λi e g=>Sm3 λv2 v3 v4=>Cj4 (e=[eZ<|.ref Y.y,eZ<|.int b,v2,v3,v4]) (fw g<|ZR Y<|(gy b 0 Y.ts).take i) ((∀e∈(ZR Y<|(gy b 0 Y.ts).take i).es,e.B.ok))<|Ex Y.adr g0 g) ⟨_,_,_,rfl,x',gd,Ex.refl⟩ (λi e g _ ⟨_,_,_,_,_,_,z⟩=>lsE<|z.get npA e0) ?_ ?_
 .rintro i v e g hv ⟨v2,v3,v4,rfl,y,gi,xg⟩ K hK;let⟨r,hr,rfl⟩:=ZT hv;have sm:=YS ((gy b 0 Y.ts).take i) Y;have rg:=(Jx (b:=b) (l:=Y.ts) (k:=0)).2 r<|ë hr;obtain⟨q,hq⟩:∃q:Nat,r.1=q:=⟨r.1.toNat,by lia⟩
  have hql:q<Y.ts.length:=by lia
  have et:(ZR Y<|(gy b 0 Y.ts).take i).ts[q]?=eZ Y.ts[q]:=by rw[sm.ts];exact È hql
  have lo:=no.tie _<|ı hql;have yi:=y.ins;rw[sm.y]at yi;let⟨r1,r2,r3⟩:=r;dsimp only at hq;subst hq;unfold trV;fail;rw[<-sm.y];refine WH y et (by have:=lo.2.2.1;lia) gi λg1 y1 xg1=>?_;rw[sm.adr]at xg1;fail;rw[sm.y];refine hK _ _ ⟨_,_,_,rfl,?_,?_,xg.trans xg1⟩
  .rw[Zm hr,Jq];dsimp only;rw[à,et];exact y1
  .rw[Zm hr,Jq];dsimp only;rw[à,et];exact FM gi (by lia) (by lia)
 .rintro e g ⟨v2,v3,v4,rfl,y,gi,xg⟩;rw[Ã,ÿ]at y gi;refine' k g y gi ((Ex.of x0).trans xg)
end
abbrev YC(b:Int)(es:List En):List En:=es.filter λe=>gN (e.num≠b)
def MX(b:Int)(es:List En):Zg (stands es) b=stands (YC b es):=by unfold Zg stands YC;rw[List.filter_map];rfl
def Xz(b:Int)(es:List En):(YC b es).Sublist es:=Ļ
def Ja{fs:List En}(h:es.Sublist fs):(enA es).Sublist<|enA fs:=by
 induction h with
 |slnil=>exact .slnil
 |cons a _ ih=>unfold enA at ih ⊢;rw[ž];exact ih.trans<|List.sublist_append_right _ _
 |cons_cons a _ ih=>unfold enA at ih ⊢;rw[ž,ž];exact(ū _).append ih
def fw.drop(x:fw h Y)(b:Int):fw (upd h Y.st<|.dct<|Zi rfV<|gF.stands<|YC b Y.es) {Y with es:=YC b Y.es}:=by
 let⟨⟨a1,a2,a3,a4⟩,⟨b1,b2,b3⟩,⟨c1,c2⟩,d1⟩:=Yd.five x.nd;have sb:=Xz b Y.es;have nb:∀a∈enA (YC b Y.es),a≠Y.st:=λa ha=>Yd.sep x.nd (by simp)<|(Ja sb).subset ha;refine⟨(ff a2).trans x.ins,(ff b1).trans x.lives,fh,(ff c1.symm).trans x.fallen,(ff c2.symm).trans x.road,λq hq=>(x.brs q<|sb.subset hq).off hq nb,?_,?_⟩
 .exact((ū _).append<|Ja sb).nodup x.nd
 .exact(sb.map _).nodup x.key
def fw.setFallen(x:fw h Y)(l:List<|Int×Bool):fw (upd h Y.fl<|.dct<|Zi Val.bl l) {Y with fallen:=l}:=by let⟨⟨a1,a2,a3,a4⟩,⟨b1,b2,b3⟩,⟨c1,c2⟩,d1⟩:=Yd.five x.nd;exact⟨(ff a3).trans x.ins,(ff b2).trans x.lives,(ff c1).trans x.stand,fh,(ff d1.symm).trans x.road,λe he=>(x.brs e he).off he λb hb=>Yd.sep x.nd (by simp) hb,x.nd,x.key⟩
section
variable {Y:Yd}
def BN{b:Int}(no:fG Y.bs Y.ts)(x:fw h Y)(gd:∀e∈Y.es,e.B.ok)(hb:b∈Y.es.map (·.num))(k:∀g,fw g (ZR {Y with es:=YC b Y.es}<|gy b 0 Y.ts)->(∀e∈(ZR {Y with es:=YC b Y.es}<|gy b 0 Y.ts).es,e.B.ok)->Ex Y.adr h g->Q .non g):wF P (n+4) "Yard.fall_of_bridge" [.ref Y.y,.int b] h Q X:=by
 have xi:=x.ins;have xs:=x.stand;obtain⟨a,lk⟩:∃a,(stands Y.es).lookup b=eZ a:=ZK (by rw[ZG];exact hb);refine ZQ ?_
 exists Yq xs rfl
 rw[Z3,lk];walk_at "p";refine Ej xs rfl (by rw[Z5,lk];rfl) ?_;rw[Wr,MX];dsimp only;have y1:=x.drop b;have x1:Ex Y.adr h<|upd h Y.st<|.dct<|Zi rfV<|stands<|YC b Y.es:=Ex.upd (Ù _<|by simp);generalize upd h Y.st (.dct<|Zi rfV<|stands<|YC b Y.es)=g1 at y1 x1;have yi:=y1.ins;dsimp only at yi;refine' Ka (Y:={Y with es:=YC b Y.es}) no y1 (λe he=>gd e<|(Xz b Y.es).subset he) λg2 y2 gd2 x2=>?_;refine' k g2 y2 gd2 (x1.trans<|x2.sub λa ha=>?_);exact((ū _).append<|Ja<|Xz b Y.es).subset ha
end
section
variable {Y:Yd}
def Cp{p:Nat}{t:Tie}(no:fG Y.bs Y.ts)(x:fw h Y)(gd:∀e∈Y.es,e.B.ok)(et:Y.ts[p]?=eZ t)(hf:Y.fallen.lookup (p:Int)=fb)(hl:Y.fallen.length<=100)(k:∀g,fw g {Y with fallen:=Zo Y.fallen p fc,es:=setT (onT {Y with fallen:=Zo Y.fallen p fc} p t) p t Y.es}->Ex Y.adr h g->Q .non g):wF P (n+3) "Yard.fall_of_tie" [.ref Y.y,.int p] h Q X:=by
 have xi:=x.ins;have xf:=x.fallen;have hp:p<Y.ts.length:=(Î.mp et).1;have aG:(Y.ts.map trV).length=Y.ts.length:=Ã _;have lo:=no.tie _<|ë et;refine ZJ ?_
 exists ZP
 fail;refine gb (by simp) ?_
 exists fm (xs:=[.tup<|Y.bs.map .int,.tup<|Y.ts.map trV]) (v:=.tup<|Y.ts.map trV) rfl
 fail;refine gc (by rw[aG];simpa using hp) ?_
 exists Wp xf rfl
 rw[Z3,hf];walk_at "p";refine YY (k:=.int p) xf ⟨rfl,by rw[Kw];exact Ü hl<|by decide⟩ ?_;rw[Z8 (val:=Val.bl)];have y1:=x.setFallen<|Zo Y.fallen p fc;have x1:Ex Y.adr h<|upd h Y.fl<|.dct<|Zi Val.bl<|Zo Y.fallen p fc:=Ex.upd (Ù _<|by simp);generalize upd h Y.fl (.dct<|Zi Val.bl<|Zo Y.fallen p fc)=g1 at y1 x1;have yi:=y1.ins;dsimp only at yi;refine' WH (Y:={Y with fallen:=Zo Y.fallen p fc}) y1 et (by have:=lo.2.2.1;lia) gd λg2 y2 x2=>?_;refine' k g2 y2 (x1.trans x2)
def Ev{p:Nat}{t:Tie}(no:fG Y.bs Y.ts)(x:fw h Y)(gd:∀e∈Y.es,e.B.ok)(et:Y.ts[p]?=eZ t){v:Bool}(hf:Y.fallen.lookup (p:Int)=eZ v)(k:∀g,fw g {Y with fallen:=Zg Y.fallen p,es:=setT (onT {Y with fallen:=Zg Y.fallen p} p t) p t Y.es}->Ex Y.adr h g->Q .non g):wF P (n+3) "Yard.back_of_tie" [.ref Y.y,.int p] h Q X:=by
 have xi:=x.ins;have xf:=x.fallen;have lo:=no.tie _<|ë et;refine Yo ?_
 exists Yq xf rfl
 rw[Z3,hf];walk_at "p";refine Ej xf rfl (by rw[Z5,hf];rfl) ?_;rw[Wr];dsimp only;have y1:=x.setFallen<|Zg Y.fallen p;have x1:Ex Y.adr h<|upd h Y.fl<|.dct<|Zi Val.bl<|Zg Y.fallen p:=Ex.upd (Ù _<|by simp);generalize upd h Y.fl (.dct<|Zi Val.bl<|Zg Y.fallen p)=g1 at y1 x1;have yi:=y1.ins;dsimp only at yi;refine' WH (Y:={Y with fallen:=Zg Y.fallen p}) y1 et (by have:=lo.2.2.1;lia) gd λg2 y2 x2=>?_;refine' k g2 y2 (x1.trans x2)
end
def Aa:(ZD own life most []).ok:=⟨ĥ,(λ_ m=>nomatch m),ĥ,(λ_ m=>nomatch m)⟩
def AZ{k:Int}{v:α}:(Zo kvs k v).lookup k=eZ v:=by
 unfold Zo;split
 .rename_i h;induction kvs with
  |nil=>cases h
  |cons p r ih =>
   rw[É,â];by_cases e:p.1=k
   .simp[e]
   .have e2:(k==p.1)=fe:=by simpa using λz=>e z.symm
    rw[â,e2]at h;simp only[e,if_false,e2];exact ih h
 .rename_i h;have h:kvs.lookup k=fb:=η.mp h;rw[ac,h];simp
section
variable {Y:Yd}
def DQ{b:Int}(no:fG Y.bs Y.ts)(x:fw h Y)(gd:∀e∈Y.es,e.B.ok)(hlv:Y.lives.lookup b=eZ life)(hb:b∉Y.es.map (·.num))(hl:Y.lives.length<=100)(hel:Y.es.length<=100)
  (k:∀q t d g,(∀a∈[q,t,d],h a=fb)->fw g (ZR {Y with lives:=Zo Y.lives b<|life+1,es:=Y.es++[⟨b,q,t,d,ZD b (life+1) Y.most []⟩]}<|gy b 0 Y.ts)->(∀e∈(ZR {Y with lives:=Zo Y.lives b<|life+1,es:=Y.es++[⟨b,q,t,d,ZD b (life+1) Y.most []⟩]}<|gy b 0 Y.ts).es,e.B.ok)->Ex Y.adr h g->Q .non g):wF P (n+4) "Yard.back_of_bridge" [.ref Y.y,.int b] h Q X:=by
 have xi:=x.ins;have xs:=x.stand;have xl:=x.lives;have lk:(stands Y.es).lookup b=fb:=by
  cases z:(stands Y.es).lookup b with
  |none=>rfl
  |some q =>have:=ú (f:=(·.1))<|Zn z;rw[ZG]at this;exact gM this hb
 refine Zy ?_
 exists Yq xl rfl
 rw[Z3,hlv];walk_at "p";refine Wp xs rfl ?_;rw[Z3,lk];walk_at "p";refine ZX xl rfl (by rw[Z5,hlv];rfl) ?_;refine' YY (k:=.int b) xl ⟨rfl,by rw[Kw];exact Ü hl<|by decide⟩ ?_;rw[Z8 (val:=Val.int)];have Y1:=x.setLives<|Zo Y.lives b<|life+1;have x1:Ex Y.adr h<|upd h Y.lv<|.dct<|Zi Val.int<|Zo Y.lives b<|life+1:=Ex.upd (Ù _<|by simp);have keepN:∀{a:Ad},upd h Y.lv (.dct<|Zi Val.int<|Zo Y.lives b<|life+1) a=fb->h a=fb:=λ{a} z=>by
  by_cases e:a=Y.lv
  .rw[e,fh]at z;cases z
  .rwa [ff e]at z
 generalize upd h Y.lv (.dct<|Zi Val.int<|Zo Y.lives b<|life+1)=g1 at Y1 x1 keepN;have zi:=Y1.ins;have zl:=Y1.lives;dsimp only at zi zl;refine' ZX zl rfl (by rw[Z5,AZ];rfl) ?_;refine' Zc λpn g7 hpn x7 en=>?_;have Y7:=Y1.ext x7;have yi7:=Y7.ins;dsimp only at yi7;fail;intro q hq;have xq:Ext g7<|upd g7 q<|.ins "Bridge" []:=Ext.new hq;have eq:(upd g7 q<|.ins "Bridge" []) q=eZ (.ins "Bridge" []):=fh;refine Ab (rs:=[]) eq (xq.get en) (by simp) (by simp) λt d g8 ht hd ba x8=>?_;have x78:Ext g7 g8:=⟨λ{a o} e=>x8.get (by simpa using Za e hq)<|xq.get e⟩
 have Y8:=Y7.ext x78;have ht7:g7 t=fb:=by cases z:g7 t with|none=>rfl|some o=>rw[xq.get z]at ht;cases ht
 have hd7:g7 d=fb:=by cases z:g7 d with|none=>rfl|some o=>rw[xq.get z]at hd;cases hd
 refine⟨rfl,?_⟩;have wi:=Y8.ins;have ws:=Y8.stand;dsimp only at wi ws;refine' YY (k:=.int b) ws ⟨rfl,by rw[Kw];unfold stands;rw[Ã];exact Ü hel<|by decide⟩ ?_;rw[Z8 (val:=rfV),Wi _<|by rw[ZG];exact hb];have ō:stands Y.es++[(b,q)]=stands (Y.es++[⟨b,q,t,d,ZD b (life+1) Y.most []⟩]):=by unfold stands;rw[ã];rfl
 rw[ō];have fr:∀a∈[q,t,d],g7 a=fb:=λa ha=>by simp only[Ç,Ó,or_false]at ha;rcases ha with rfl|rfl|rfl<;>assumption
 have fr0:∀a∈[q,t,d],h a=fb:=λa ha=>keepN (by cases z:g1 a with|none=>rfl|some o=>have:=fr a ha;rw[x7.get z]at this;cases this);have Y9:=Y8.stands (e:=⟨b,q,t,d,ZD b (life+1) Y.most []⟩) ba hb λa ha z=>Y7.taken z<|fr a ha;have x9:Ex Y.adr h<|upd g8 Y.st<|.dct<|Zi rfV<|stands<|Y.es++[⟨b,q,t,d,ZD b (life+1) Y.most []⟩]:=(x1.trans<|.of<|x7.trans x78).trans (Ex.upd<|Ù _<|by simp);dsimp only at Y9;generalize upd g8 Y.st (.dct<|Zi rfV<|stands<|Y.es++[⟨b,q,t,d,ZD b (life+1) Y.most []⟩])=g9 at Y9 x9;have vi:=Y9.ins;dsimp only at vi;refine' Ka (Y:={Y with lives:=Zo Y.lives b<|life+1,es:=Y.es++[⟨b,q,t,d,ZD b (life+1) Y.most []⟩]}) no Y9 (λe he=>?_) λg2 y2 gd2 x2=>?_
 .rcases å.mp he with he|he
  .exact gd e he
  .rw[ß.mp he];exact Aa
 refine' k q t d g2 fr0 y2 gd2 ⟨λ{a o} na ha=>x2.get (λz=>?_)<|x9.get na ha⟩;have z:a∈[Y.y,Y.lv,Y.st,Y.fl,Y.rd]++enA (Y.es++[⟨b,q,t,d,ZD b (life+1) Y.most []⟩]):=z;rw[Wm,<-ĸ]at z;rcases å.mp z with z|z
 .exact na z
 .rw[fr0 a z]at ha;cases ha
end
abbrev wordsL:List<|List String:=[["tick"],["come"],["lost"],["fall","bridge"],["fall","tie"],["back","bridge"],["back","tie"]]
def Gg{ws:List String}(hw:ws∈wordsL)(k:∀g,Ext h g->Q (.tup [.tup<|ws.map .str,.int c]) g):wF P (n+2) "read_deed" [.tup<|ws.map .str++[.int c]] h Q X:=by
 have hc:cut (ws.map Val.str++[.int c]) fb (eZ (-1))=ws.map .str:=by simp only[wordsL,Ç,Ó,or_false]at hw;rcases hw with rfl|rfl|rfl|rfl|rfl|rfl|rfl<;>rfl
 have hlast:atI (ws.map Val.str++[.int c]) (-1)=eZ (.int c):=by simp only[wordsL,Ç,Ó,or_false]at hw;rcases hw with rfl|rfl|rfl|rfl|rfl|rfl|rfl<;>rfl
 have hlen:ws.length<=2:=by simp only[wordsL,Ç,Ó,or_false]at hw;rcases hw with rfl|rfl|rfl|rfl|rfl|rfl|rfl<;>decide
 refine WQ ?_;walk_at "p";refine f9 (xs:=ws.map Val.str++[.int c]) (lo:=fb) (hi:=eZ (-1)) (by rw[è,Ã];intro z;have:=z.2;unfold fR at this;simp at this;lia) ?_;rw[hc];refine' ⟨Ü (by rw[Ã];exact hlen) (by decide),Yg (λ_=>eZ<|.bl fc) trivial (λv hv K hK=>?_) ?_⟩
 .obtain⟨u,_,rfl⟩:=Û.mp hv;walk_at "p";exact hK
 rw[show(ws.map Val.str).filterMap (λ_=>eZ<|Val.bl fc)=(ws.map λ_=>fc).map Val.bl by rw[Η,ü];exact congrFun (ϗ (f:=λ_:String=>Val.bl fc)) ws];refine Zc λp1 g1 bE x1 e1=>?_
 exists ET (bs:=ws.map λ_=>fc) e1 (XR _)
 have ha:(ws.map λ_=>fc).all id=fc:=by simp
 fail;refine gc (by simp) ?_;fail;have hin:∀{h:Hs},fB h .notin (.tup<|ws.map .str) (.tup<|wordsL.map λl=>.tup<|l.map .str)=eZ fe:=λ{h}=>by simp only[wordsL,Ç,Ó,or_false]at hw;rcases hw with rfl|rfl|rfl|rfl|rfl|rfl|rfl<;>rfl
 refine fk (a:=fe) hin ?_;walk_at "p";refine fm hlast ?_
 exists JY
 walk_at "p";refine fm hlast ?_;refine' k g1 x1
inductive Dd where
 |tick (b:Int)|come (b:Int)|lost (b:Int)|fallB (b:Int)|fallT (b:Int)|backB (b:Int)|backT (b:Int)
abbrev Dd.ws:Dd->List String
 |.tick _=>["tick"]|.come _=>["come"]|.lost _=>["lost"]|.fallB _=>["fall","bridge"]|.fallT _=>["fall","tie"]|.backB _=>["back","bridge"]|.backT _=>["back","tie"]
abbrev Dd.num:Dd->Int
 |.tick c=>c|.come c=>c|.lost c=>c|.fallB c=>c|.fallT c=>c|.backB c=>c|.backT c=>c
abbrev Dd.fn:Dd->String
 |.tick _=>"Yard.tick_of" | .come _=>"Yard.come" | .lost _=>"Yard.take_off" | .fallB _=>"Yard.fall_of_bridge" | .fallT _=>"Yard.fall_of_tie" | .backB _=>"Yard.back_of_bridge" | .backT _=>"Yard.back_of_tie"
noncomputable abbrev Dd.v(d:Dd):Val:=.tup<|d.ws.map .str++[.int d.num]
def Dd.words(d:Dd):d.ws∈wordsL:=by cases d<;>simp[Dd.ws,wordsL]
def Yk(x:Ext h g)(hp:g p=fb):h p=fb:=by
 cases z:h p with
 |none=>rfl
 |some o=>rw[x.get z]at hp;cases hp
variable {ts:List Tie}
def FX{i:Int}(h0:0<=i)(h1:i<ts.length):atI (ts.map trV) i=eZ (trV<|ts[i.toNat]?.getD (0,0,0)):=by
 have h2:i.toNat<ts.length:=by lia
 refine YQ h0 ?_;rw[Ú,È h2];rfl
def AE{pre:List En}(x:fw h Y)(he:Y.es=pre++e::ł)(o:e.B.ok)(hp:∀q∈e.B.ties,q.1<Y.ts.length)(hr:Y.road.length<=100000)
  (k:∀d g,fw g {Y with es:=pre++⟨e.num,e.b,e.t,d,e.B.ticked⟩::ł,road:=Y.road++Z4 Y.ts e.num e.B.told}->h d=fb->Ex Y.adr h g->Q .non g):wF P (n+5) "Yard.tick_of" [.ref Y.y,.int e.num] h Q X:=by
 have hm:e∈Y.es:=by rw[he];simp
 have lk:(stands Y.es).lookup e.num=eZ e.b:=WY (by rw[ZG];exact x.key)<|Û.mpr ⟨e,hm,rfl⟩;let⟨xi,xl,xs,xf,xr,xb,xnd,xk⟩:=id x;refine Xu ?_
 exists Yq xs rfl
 rw[Z3,lk];walk_at "p";refine ZX xs rfl (by rw[Z5,lk];rfl) ?_;have ba:=xb e hm;have bi:=ba.ins;refine' FZ ba o λp d g1 bE hd1 ba1 ep x1 npd=>?_;have Y1:=x.change he x1 ba1 (.inl rfl)<|.inr hd1;let⟨yi,yl,ys,yf,yr,yb,ynd,yk⟩:=id Y1;dsimp only at yi yl ys yf yr yb;have npa:∀a∈Y.adr,a≠p:=λa ha z=>x.taken ha<|z▸bE;have npr:Y.rd≠p:=npa _ (Ù _<|by simp);have hbm:e.b∈Y.adr:=Ê _ (WA hm).1;have aG:(sortI (e.B.told.ties.map (·.1))).length<=16:=by rw[sortI,ń,Ã];exact o.told.tlen
 have htie:∀i∈sortI (e.B.told.ties.map (·.1)),0<=i/\i<Y.ts.length:=λi hi=>by let⟨q,hq,rfl⟩:=Û.mp<|mem_sort.mp hi;rw[show e.B.told.ties=e.B.ties from (Yn e.B.grown<|Yy e.B.grown).2.1]at hq;exact⟨(o.rg q hq).1,hp q hq⟩
 refine' Zs (λi en g=>Sm3 λv2 v3 v4=>Cj4 (en=[eZ<|.ref Y.y,eZ<|.int e.num,v2,v3,v4]) (fw g {Y with es:=pre++⟨e.num,e.b,e.t,d,e.B.ticked⟩::ł,road:=Y.road++(Z4 Y.ts e.num e.B.told).take i}) (g p=eZ (.lst<|ZY e.B.told))<|Ex Y.adr h g) ⟨_,_,_,rfl,by rw[List.take_zero,ò];exact Y1,ep,x1.sub λa ha=>by rw[ß.mp ha];exact hbm⟩ (λi en g _ ⟨_,_,_,_,_,z,_⟩=>lsE z) ?_ ?_
 .rintro i v en g hv ⟨v2,v3,v4,rfl,Yi,ep,xi⟩ K hK;let⟨pl,hpl,rfl⟩:=ZT hv;have hplm:=ë hpl;let⟨r0,r1⟩:=htie pl hplm;have et:=FX (ts:=Y.ts) r0 r1;let⟨zi,zl,zs,zf,zr,zb,znd,zk⟩:=id Yi;dsimp only at zi zl zs zf zr zb;have hil:=(Î.mp hpl).1
  exists fm (xs:=[.tup<|Y.bs.map .int,.tup<|Y.ts.map trV]) (v:=.tup<|Y.ts.map trV) rfl
  exists fm et
  exists B5
  refine' YE zr ?_ ?_
  .rw[Ã,è,ě];exact Ü (by lia:_<=100016) (by decide)
  dsimp only;have es:(Z4 Y.ts e.num e.B.told)[i]?=eZ (e.num,L5 Y.ts pl e.num,pl,ZE e.B.told pl):=by unfold Z4;rw[Ú,hpl];rfl
  have Y2:=Yi.setRoad<|Y.road++(Z4 Y.ts e.num e.B.told).take (i+1);dsimp only at Y2;have er:(Y.road++(Z4 Y.ts e.num e.B.told).take i).map rdV++[rdV (e.num,L5 Y.ts pl e.num,pl,ZE e.B.told pl)]=(Y.road++(Z4 Y.ts e.num e.B.told).take (i+1)).map rdV:=by rw[Zm es,<-ĸ,ã (l₂:=[_])];rfl
  have er':(Y.road++(Z4 Y.ts e.num e.B.told).take i).map rdV++[.tup [.int e.num,.int<|far (Y.ts[pl.toNat]?.getD (0,0,0)) e.num,.int pl,(ZE e.B.told pl).v]]=(Y.road++(Z4 Y.ts e.num e.B.told).take (i+1)).map rdV:=er;rw[er'];refine' hK _ _ ⟨_,_,_,rfl,Y2,(ff npr.symm).trans ep,xi.trans<|Ex.upd<|Ù _<|by simp⟩
 .rintro en g ⟨v2,v3,v4,rfl,Yi,ep,xi⟩;rw[show(ZY e.B.told).length=(Z4 Y.ts e.num e.B.told).length by unfold ZY Z4;rw[Ã,Ã],ÿ]at Yi;refine' k d g Yi hd1 xi
def GN{d:Dd}(x:fw h Y)(k:∀(g:Hs) (Q':Q1),Ext h g->fw g Y->(∀v g',Q .non g'->Q' v g')->wF P (n+5) d.fn [.ref Y.y,.int d.num] g Q' X):wF P (n+6) "Yard.deed" [.ref Y.y,d.v] h Q X:=by
 have xi0:=x.ins;refine WT ?_;refine' Gg d.words λg1 x1=>?_;have x':=x.ext x1;have xi:=x'.ins;cases d<;>(
   fail
   repeat (first
     |(refine fk (a:=fe) rfl ?_;fail;refine gc rfl ?_;fail)
     | (refine fk (a:=fc) rfl ?_;fail;refine gb rfl ?_;fail))
   refine k g1 _ x1 x' λv g' q=>?_
   refine' q)
structure Yc where
 bs:List Int
 ts:List Tie
 most:Int
 lives:List<|Int×Int
 br:List<|Int×Br
 fallen:List<|Int×Bool
 road:List<|Int×Int×Int×L
abbrev enC(es:List En):List<|Int×Br:=es.map λe=>(e.num,e.B)
abbrev Yd.cc(Y:Yd):Yc:=⟨Y.bs,Y.ts,Y.most,Y.lives,enC Y.es,Y.fallen,Y.road⟩
abbrev upC(k:Int)(F:Br->Br)(l:List<|Int×Br):List<|Int×Br:=l.map λq=>if q.1=k then(q.1,F q.2)else q
abbrev Ez(on:Bool)(p:Int)(t:Tie)(l:List<|Int×Br):List<|Int×Br:=upC t.2.1 (tieF on p t.1 t.2.2)<|upC t.1 (tieF on p t.2.1 t.2.2) l
abbrev Yc.tie(C:Yc)(p:Int):Tie:=C.ts[p.toNat]?.getD (0,0,0)
abbrev onC(C:Yc)(p:Int):Bool:=!(C.fallen.lookup p).isSome&&((C.br.lookup (C.tie p).1).isSome&&(C.br.lookup (C.tie p).2.1).isSome)
abbrev Yc.set1(C:Yc)(p:Int):Yc:={C with br:=Ez (onC C p) p (C.tie p) C.br}
abbrev Yc.sets(C:Yc)(l:List Tie):Yc:=l.foldl (λC r=>C.set1 r.1) C
def Xl(es:List En):(enC es).map (·.1)=es.map (·.num):=by unfold enC;rw[ü];rfl
def look_iff{k:Int}:(kvs.lookup k).isSome=gN (k∈kvs.map (·.1)):=by
 cases z:kvs.lookup k with
 |none=>exact(gJ<|Xv z).symm
 |some v=>exact(gK (ú (f:=(·.1))<|Zn z)).symm
def W9{k:Int}(es:List En):enC (Ys k F es)=upC k F (enC es):=by
 unfold enC Ys upC;rw[ü,ü];refine ħ λe _=>?_;show((if e.num=k then({e with B:=F e.B}:En)else e).num,(if e.num=k then({e with B:=F e.B}:En)else e).B)=if e.num=k then(e.num,F e.B)else(e.num,e.B)
 split<;>rfl
def DK{p:Int}{t:Tie}(es:List En):enC (setT on p t es)=Ez on p t (enC es):=by unfold setT Ez;rw[W9,W9]
def Lm{k:Int}:((enC es).lookup k).isSome=((stands es).lookup k).isSome:=look_iff.trans ((decide_eq_decide.mpr<|by rw[Xl,ZG]).trans look_iff.symm)
def Rm{p:Int}:onT Y p (Y.ts[p.toNat]?.getD (0,0,0))=onC Y.cc p:=by unfold onT onC;rw[<-Lm,<-Lm];rfl
def Uf{p:Int}:({Y with es:=setT (onT Y p<|Y.ts[p.toNat]?.getD (0,0,0)) p (Y.ts[p.toNat]?.getD (0,0,0)) Y.es}:Yd).cc=Y.cc.set1 p:=by rw[Rm];unfold Yd.cc Yc.set1;dsimp only;rw[DK];rfl
def Ug:∀(l:List Tie) (Y:Yd),(ZR Y l).cc=Y.cc.sets l
 |[],_=>rfl
 |r::l,Y=>(Ug l _).trans (congrArg (Yc.sets · l)<|Uf (Y:=Y) (p:=r.1))
abbrev step(C:Yc):Dd->Option Yc
 |.tick b=>(C.br.lookup b).map λB=>{C with br:=upC b Br.ticked C.br,road:=C.road++Z4 C.ts b B.told}
 |.come p=>if p<0 then fb else(C.road[p.toNat]?).map λr=>{C with br:=upC r.2.1 (ZW · r.2.2.1 r.2.2.2) C.br,road:=C.road.eraseIdx p.toNat}
 |.lost p=>if p<0 then fb else(C.road[p.toNat]?).map λr=>{C with road:=C.road.eraseIdx p.toNat}
 |.fallB b=>if(C.br.lookup b).isSome then eZ (Yc.sets {C with br:=Zg C.br b}<|gy b 0 C.ts)else fb
 |.fallT p=>if(0<=p/\p<C.ts.length)/\(C.fallen.lookup p).isSome=fe then eZ (Yc.set1 {C with fallen:=Zo C.fallen p fc} p)else fb
 |.backB b=>if(C.br.lookup b).isSome then fb else(C.lives.lookup b).map λl=>Yc.sets {C with lives:=Zo C.lives b<|l+1,br:=C.br++[(b,ZD b (l+1) C.most [])]}<|gy b 0 C.ts
 |.backT p=>if(C.fallen.lookup p).isSome then eZ (Yc.set1 {C with fallen:=Zg C.fallen p} p)else fb
structure Bok(m:Nat)(B:Br):Prop where
 ok:B.ok
 pl:∀t∈B.ties,t.1<m
def Bok.ticked{m:Nat}(o:Bok m B):Bok m B.ticked:=⟨o.ok.ticked,λt ht=>o.pl t<|by rwa [show B.ticked.ties=B.ties from (Yn B.grown<|Yy B.grown).2.1]at ht⟩
def Bok.heard{m:Nat}(o:Bok m B){p:Int}{l:L}:Bok m<|ZW B p l:=⟨o.ok.heard,λt ht=>o.pl t<|by revert ht;unfold ZW;split<;>(try split)<;>exact id⟩
def Bok.tieF{m:Nat}(o:Bok m B){p far:Int}(h0:0<=p)(h1:p<m)(hm:m<=16):Bok m<|gF.tieF on p far c B:=⟨M2 o.ok h0 (by lia),λt ht=>by
  unfold gF.tieF at ht
  split at ht
  . unfold upB at ht
    split at ht
    . exact o.pl t ht
    . rcases W5 ht with e|ht
      . rw[e];exact h1
      . exact o.pl t ht
  . exact o.pl t<|YJ ht⟩
structure Yc.gd(C:Yc)(N:Nat):Prop where
 no:fG C.bs C.ts
 nd:(C.br.map (·.1)).Nodup
 sub:∀q∈C.br,q.1∈C.bs
 ok:∀q∈C.br,Bok C.ts.length q.2
 lv:C.lives.map (·.1)=C.bs
 fn:(C.fallen.map (·.1)).Nodup
 fr:∀q∈C.fallen,0<=q.1/\q.1<C.ts.length
 len:C.road.length<=16*N
def JF{k:Int}(l:List<|Int×Br):(upC k F l).map (·.1)=l.map (·.1):=by unfold upC;rw[ü];refine ħ λe _=>?_;show(if e.1=k then(e.1,F e.2)else e).1=e.1;split<;>rfl
def FB{k:Int}{l:List (Int×Br)}{R:Br->Prop}(h:∀q∈l,R q.2)(hF:∀B,R B->R (F B)):∀q∈upC k F l,R q.2:=λq hq=>by
 let⟨e,he,rfl⟩:=Û.mp hq;split
 .exact hF _<|h e he
 .exact h e he
def keys_sub{l:List (Int×Br)}{bs:List Int}:(∀q∈l,q.1∈bs)↔∀x∈l.map (·.1),x∈bs:=⟨λh x hx=>by let⟨q,hq,rfl⟩:=Û.mp hx;exact h q hq,λh q hq=>h _<|ú hq⟩
variable {C:Yc} {N:Nat} {M:Nat} {rd:List (Int×Int×Int×L)}
def Yc.gd.upC{k:Int}(g:C.gd N)(hF:∀B,Bok C.ts.length B->Bok C.ts.length (F B))(hr:rd.length<=16*M):({C with br:=gF.upC k F C.br,road:=rd}:Yc).gd M :=
 ⟨g.no,by show((gF.upC k F C.br).map (·.1)).Nodup;rw[JF];exact g.nd,keys_sub.mpr (by show ∀x∈(gF.upC k F C.br).map (·.1),_;rw[JF];exact keys_sub.mp g.sub),FB g.ok hF,g.lv,g.fn,g.fr,hr⟩
def Yc.gd.set1{p:Int}(g:C.gd N)(h0:0<=p)(h1:p<C.ts.length):(C.set1 p).gd N :=
 (g.upC (M:=N) (k:=(C.tie p).1) (F:=tieF (onC C p) p (C.tie p).2.1 (C.tie p).2.2) (λ_ o=>o.tieF h0 h1 g.no.sixteen) g.len).upC (λ_ o=>o.tieF h0 h1 g.no.sixteen) g.len
def Yc.gd.sets{N:Nat}:∀{l:List Tie}{C:Yc},C.gd N->(∀r∈l,0<=r.1/\r.1<C.ts.length)->(C.sets l).gd N
 |[],_,g,_=>g
 |r::l,C,g,h=>Yc.gd.sets (l:=l) (C:=C.set1 r.1) (g.set1 (h r<|by simp).1 (h r<|by simp).2) λq hq=>h q (by simp[hq])
def Yc.gd.more(g:C.gd N)(h:N<=M):C.gd M:=⟨g.no,g.nd,g.sub,g.ok,g.lv,g.fn,g.fr,Ý g.len<|dW _ h⟩
def Jk:∀(l:List Tie) (C:Yc),(C.sets l).bs=C.bs/\(C.sets l).ts=C.ts/\(C.sets l).most=C.most
 |[],_=>⟨rfl,rfl,rfl⟩
 |r::l,C=>Jk l<|C.set1 r.1
def OO{b:Int}:∀r∈gy b 0 ts,0<=r.1/\r.1<ts.length:=λr hr=>by have:=(Jx (b:=b) (l:=ts) (k:=0)).2 r hr;lia
def keys_look{b:Int}:(C.br.lookup b).isSome=fc↔b∈C.br.map (·.1):=by rw[look_iff];simp
def Bb{b:Int}(o:B.ok):(Z4 ts b B.told).length<=16:=by unfold Z4;rw[Ã,sortI,ń,Ã];exact o.told.tlen
def Yx{D:Yc}{d:Dd}(g:C.gd N)(s:step C d=eZ D):D.gd (N+1)/\D.bs=C.bs/\D.ts=C.ts/\D.most=C.most:=by
 have hlen:=g.len;cases d with
 |tick b =>let⟨B,hB,rfl⟩:=Í.mp s;have ok:B.ok:=(g.ok _<|Zn hB).ok;have:=Bb (ts:=C.ts) (b:=b) ok;exact⟨g.upC (λ_ o=>o.ticked) (by rw[è];lia),rfl,rfl,rfl⟩
 |come p =>
  dsimp only[step]at s;split at s
  .cases s
  .obtain⟨r,hr,rfl⟩:=Í.mp s;exact⟨g.upC (λ_ o=>o.heard)<|Ý (cf _ _)<|by lia,rfl,rfl,rfl⟩
 |lost p =>
  dsimp only[step]at s;split at s
  .cases s
  .obtain⟨r,hr,rfl⟩:=Í.mp s;exact⟨⟨g.no,g.nd,g.sub,g.ok,g.lv,g.fn,g.fr,Ý (cf _ _)<|by lia⟩,rfl,rfl,rfl⟩
 |fallB b =>
  dsimp only[step]at s;split at s
  .cases s;refine⟨Yc.gd.more (Yc.gd.sets ⟨g.no,YZ g.nd b,λq hq=>g.sub q<|YJ hq,λq hq=>g.ok q<|YJ hq,g.lv,g.fn,g.fr,hlen⟩ OO) (by lia),?_⟩;let⟨e1,e2,e3⟩:=Jk (gy b 0 C.ts) {C with br:=Zg C.br b};exact⟨e1,e2,e3⟩
  .cases s
 |fallT p =>
  dsimp only[step]at s;split at s
  .rename_i h;cases s;refine⟨Yc.gd.more (Yc.gd.set1 ⟨g.no,g.nd,g.sub,g.ok,g.lv,Wy g.fn p fc,λq hq=>?_,hlen⟩ h.1.1 h.1.2) (by lia),rfl,rfl,rfl⟩;rcases W5 hq with e|hq
   .rw[e];exact h.1
   .exact g.fr q hq
  .cases s
 |backB b =>
  dsimp only[step]at s;split at s
  .cases s
  .rename_i h;let⟨l,hl,rfl⟩:=Í.mp s;have hk:(C.lives.lookup b).isSome=fc:=by rw[hl];rfl
   have hb:b∈C.bs:=by rw[<-g.lv];rw[look_iff]at hk;exact of_decide_eq_true hk
   have hn:b∉C.br.map (·.1):=λz=>h<|keys_look.mpr z;refine⟨Yc.gd.more (Yc.gd.sets ⟨g.no,?_,λq hq=>?_,λq hq=>?_,?_,g.fn,g.fr,hlen⟩ OO) (by lia),?_⟩
   .show((C.br++[(b,ZD b (l+1) C.most [])]).map (·.1)).Nodup;rw[ã,é];exact⟨g.nd,by simp,λa ha c hc=>by have hc:c=b:=ß.mp hc;rw[hc];exact λz=>hn<|z▸ha⟩
   .rcases å.mp hq with hq|hq
    .exact g.sub q hq
    .rw[ß.mp hq];exact hb
   .rcases å.mp hq with hq|hq
    .exact g.ok q hq
    .rw[ß.mp hq];exact⟨Aa,λt ht=>nomatch ht⟩
   .show(Zo C.lives b<|l+1).map (·.1)=_;rw[X5,gG hk];exact g.lv
   .exact Jk (gy b 0 C.ts) {C with lives:=Zo C.lives b<|l+1,br:=C.br++[(b,ZD b (l+1) C.most [])]}
 |backT p =>
  dsimp only[step]at s;split at s
  .rename_i h;cases s;let⟨v,hv⟩:=û.mp h;have hp:=g.fr _<|Zn hv;exact⟨Yc.gd.more (Yc.gd.set1 ⟨g.no,g.nd,g.sub,g.ok,g.lv,YZ g.fn p,λq hq=>g.fr q<|YJ hq,hlen⟩ hp.1 hp.2) (by lia),rfl,rfl,rfl⟩
  .cases s
def WC{b:Int}:(Y.cc.br.lookup b).isSome=((stands Y.es).lookup b).isSome:=Lm
def Uz{pre:List En}(he:Y.es=pre++e::ł)(nd:(Y.es.map (·.num)).Nodup):enC (pre++⟨e.num,e.b,t,d,F e.B⟩::ł)=upC e.num F (enC Y.es):=by rw[he]at nd ⊢;rw[<-W9,Ny nd];unfold enC;rw[ã,ã];rfl
def UD{pre:List En}(he:Y.es=pre++e::ł)(ht:t=e.t)(hd:d=e.d\/h d=fb):∀a∈({Y with es:=pre++⟨e.num,e.b,t,d,B⟩::ł,road:=rd}:Yd).adr,a∈Y.adr\/h a=fb:=λa ha=>by
 subst ht;unfold Yd.adr at ha ⊢;rw[he,YV];dsimp only at ha;rw[YV]at ha;simp only[å,Ç,Ó,or_false]at ha ⊢;rcases hd with rfl|hd
 .exact .inl ha
 .rcases ha with ha|ha|(rfl|rfl|rfl)|ha
  .exact .inl<|.inl ha
  .exact .inl<|.inr<|.inl ha
  .exact .inl<|.inr<|.inr<|.inl<|.inl rfl
  .exact .inl<|.inr<|.inr<|.inl<|.inr<|.inl rfl
  .exact .inr hd
  .exact .inl<|.inr<|.inr<|.inr ha
def XJ:∀{l bs:List Int},l.Nodup->(∀x∈l,x∈bs)->l.length<=bs.length
 |[],_,_,_=>Ŀ _
 |a::l,bs,nd,h=>by have ha:=h a (by simp);have:=XJ (l:=l) (bs:=bs.erase a) (ć.mp nd).2 λx hx=>(List.mem_erase_of_ne λz:x=a=>(ć.mp nd).1<|z▸hx).mpr (h x<|by simp[hx]);rw[b4 ha]at this;have:=cA ha;rw[Ì];lia
def Ur{p:Int}{β:Type}{f:Int×Int×Int×L->β}(hp:¬(0<=p/\p<Y.road.length)):(if p<0 then fb else(Y.cc.road[p.toNat]?).map f)=fb:=by
 split
 .rfl
 .rw[show Y.cc.road[p.toNat]?=fb from ĭ<|by show Y.road.length<=_;lia];rfl
structure Mv(h:Hs)(Y:Yd)(g:Hs)(Z:Yd):Prop where
 y:Z.y=Y.y
 at_:fw g Z
 nw:∀a∈Z.adr,a∈Y.adr\/h a=fb
 ex:Ex Y.adr h g
def Mv.refl(x:fw h Y):Mv h Y h Y:=⟨rfl,x,λ_=>.inl,Ex.refl⟩
def Mv.off(m:Mv h Y g Z)(na:a∉Y.adr)(e:h a=eZ o):a∉Z.adr/\g a=eZ o:=⟨λz=>(m.nw a z).elim na λy=>(by rw[e]at y;cases y),m.ex.get na e⟩
def Mv.trans{f:Hs}(m:Mv h Y g Z)(l:Mv g Z f W):Mv h Y f W:=by
 refine⟨l.y.trans m.y,l.at_,λa ha=>?_,⟨λna e=>let ⟨h1,h2⟩:=m.off na e;l.ex.get h1 h2⟩⟩;rcases l.nw a ha with z|z
 .exact m.nw a z
 .by_cases na:a∈Y.adr
  .exact .inl na
  .cases e:h a with
   |none=>exact .inr rfl
   |some o=>rw[m.ex.get na e]at z;cases z
def Mv.ext{f:Hs}(m:Mv h Y g Z)(x:Ext g f):Mv h Y f Z:=⟨m.y,m.at_.ext x,m.nw,m.ex.trans<|.of x⟩
def Mv.put(m:Mv h Y g Z)(hp:h p=fb)(np:p∉Z.adr):Mv h Y (upd g p o) Z:=⟨m.y,m.at_.keep (S:=[p]) (Ex.upd<|by simp) λa ha z=>np<|ß.mp z▸ha,m.nw,⟨λna e=>by rw[ff<|Za e hp];exact m.ex.get na e⟩⟩
def MQ{b:Int}(h:(stands es).lookup b=fb):b∉es.map (·.num):=by rw[<-ZG];exact Xv h
section
variable {Y:Yd}
def JE{p:Int}(x:fw h Y)(hp:¬(0<=p/\p<Y.road.length))(k:X "NoDeed" h):wF P (n+1) "Yard.take_off" [.ref Y.y,.int p] h Q X:=by
 have xi:=x.ins;have xr:=x.road;have hrl:(Y.road.map rdV).length=Y.road.length:=Ã _;refine Y4 ?_;refine' gf (λp0=>?_) (λp0=>?_)
 .fail;refine gb (by rw[hrl];simp;lia) ?_;refine' k
 .walk_at "p";exact k
def Z9{d:Dd}(x:fw h Y)(gd:Y.cc.gd N)(hN:N<=6000)(k:∀(Y':Yd) g',step Y.cc d=eZ Y'.cc->Mv h Y g' Y'->Q .non g')(kx:∀g',step Y.cc d=fb->fw g' Y->Ext h g'->X "NoDeed" g'):wF P (n+6) "Yard.deed" [.ref Y.y,d.v] h Q X:=by
 refine GN x λg Q' x1 x' hq=>?_;have no:fG Y.bs Y.ts:=gd.no;have ok:∀e∈Y.es,Bok Y.ts.length e.B:=λe he=>gd.ok (e.num,e.B)<|Û.mpr ⟨e,he,rfl⟩;have oks:∀e∈Y.es,e.B.ok:=λe he=>(ok e he).ok;have hl:Y.road.length<=16*N:=gd.len;have key:=x.key;have xi:=x'.ins;have xs:=x'.stand;have xf:=x'.fallen;have xl:=x'.lives;have fin:∀{Y':Yd} {g'},fw g' Y'->step Y.cc d=eZ Y'.cc->Y'.y=Y.y->(∀a∈Y'.adr,a∈Y.adr\/g a=fb)->Ex Y.adr g g'->∀v,Q' v g':=λ{Y' g'} y s e f ex v=>hq v g'<|k Y' g' s ⟨e,y,λa ha=>(f a ha).imp id λz=>Yk x1 z,(Ex.of x1).trans ex⟩;have bad:step Y.cc d=fb->X "NoDeed" g:=λs=>kx g s x' x1;have h10:Y.lives.length<=10:=by have e:=congrArg List.length gd.lv;rw[Ã]at e;have:=no.ten;have:Y.cc.bs.length=Y.bs.length:=rfl;have:Y.cc.lives.length=Y.lives.length:=rfl;lia
 have e10:Y.es.length<=10:=by
  have:=XJ gd.nd<|keys_sub.mp gd.sub;have h2:(Y.cc.br.map (·.1)).length=Y.es.length:=by show((enC Y.es).map (·.1)).length=_;rw[Xl,Ã]
  have:=no.ten;have:Y.cc.bs.length=Y.bs.length:=rfl;lia
 have f16:Y.fallen.length<=16:=by
  have:=Yb (m:=16) gd.fn λx hx=>by let⟨q,hq,rfl⟩:=Û.mp hx;have:=gd.fr q hq;have:=no.sixteen;have:Y.cc.ts.length=Y.ts.length:=rfl;lia
  rw[Ã]at this;exact this
 cases d with
 |tick b =>
  show wF P (n+5) "Yard.tick_of" [.ref Y.y,.int b] g Q' X;cases lk:(stands Y.es).lookup b with
  |none =>
   refine Xu ?_
   exists Yq xs rfl
   rw[Z3,lk];walk_at "p";refine bad ?_;have:=WC (Y:=Y) (b:=b);rw[lk]at this;show(Y.cc.br.lookup b).map _=fb;rw[Option.isSome_eq_false_iff.mp this |> bh.mp];rfl
  |some a =>
   let⟨e,pre,ł,he,rfl,rfl⟩:=Xn lk;have hm:e∈Y.es:=by rw[he];simp
   refine AE x' he (oks e hm) (ok e hm).pl (by lia) λd' g2 y2 hd x2=>?_;refine fin y2 ?_ rfl (UD he rfl<|.inr hd) x2 .non;show(Y.cc.br.lookup e.num).map _=_;rw[show Y.cc.br.lookup e.num=eZ e.B from WY gd.nd<|Û.mpr ⟨e,hm,rfl⟩];unfold Yd.cc;dsimp only;rw[Uz (F:=Br.ticked) he key];rfl
 |come p =>
  show wF P (n+5) "Yard.come" [.ref Y.y,.int p] g Q' X;by_cases hp:0<=p/\p<Y.road.length
  .obtain⟨q,rfl⟩:∃q:Nat,p=q:=⟨p.toNat,by lia⟩
   have hr:=È (l:=Y.road) (i:=q) (by lia);generalize Y.road[q]'(by lia)=r at hr;have st:step Y.cc (.come q)=eZ {Y.cc with br:=upC r.2.1 (ZW · r.2.2.1 r.2.2.2) Y.cc.br,road:=Y.road.eraseIdx q}:=by show(if(q:Int)<0 then fb else(Y.road[(q:Int).toNat]?).map _)=_;rw[gH (by lia),à,hr];rfl
   cases lk:(stands Y.es).lookup r.2.1 with
   |none =>refine EB x' hr (by lia) (MQ lk) λg2 y2 x2=>fin y2 ?_ rfl (λa ha=>.inl ha) x2 .non;rw[st];unfold Yd.cc;dsimp only;rw[<-W9,X3<|MQ lk]
   |some a =>
    let⟨e,pre,ł,he,hn,rfl⟩:=Xn lk;have hm:e∈Y.es:=by rw[he];simp
    refine FJ x' hr (by lia) he hn.symm (oks e hm) λg2 y2 x2=>fin y2 ?_ rfl (UD he rfl<|.inl rfl) x2 .non;rw[st];unfold Yd.cc;dsimp only;rw[<-hn,Uz (F:=(ZW · r.2.2.1 r.2.2.2)) he key]
  .refine Xk ?_;refine' JE x' hp (bad<|Ur hp)
 |lost p =>
  show wF P (n+5) "Yard.take_off" [.ref Y.y,.int p] g Q' X;by_cases hp:0<=p/\p<Y.road.length
  .obtain⟨q,rfl⟩:∃q:Nat,p=q:=⟨p.toNat,by lia⟩
   have hr:=È (l:=Y.road) (i:=q) (by lia);refine XO x' hr (by lia) λg2 y2 x2=>fin y2 ?_ rfl (λa ha=>.inl ha) (x2.sub λa ha=>by rw[ß.mp ha];exact Ù _<|by simp) _;show(if(q:Int)<0 then fb else(Y.road[(q:Int).toNat]?).map _)=_;rw[gH (by lia),à,hr];rfl
  .exact JE x' hp<|bad<|Ur hp
 |fallB b =>
  show wF P (n+5) "Yard.fall_of_bridge" [.ref Y.y,.int b] g Q' X;have lc:=WC (Y:=Y) (b:=b);cases lk:(stands Y.es).lookup b with
  |none =>
   rw[lk]at lc;refine ZQ ?_
   exists Yq xs rfl
   rw[Z3,lk];walk_at "p";exact bad (gH<|by rw[lc];decide)
  |some a =>
   rw[lk]at lc;refine BN no x' oks (by rw[<-ZG];exact ú (f:=(·.1))<|Zn lk) λg2 y2 gd2 x2=>?_;have sm:=YS (gy b 0 Y.ts) {Y with es:=YC b Y.es};refine fin y2 ?_ sm.y (λa ha=>.inl ?_) x2 .non
   .rw[Ug];refine(gG lc).trans ?_;congr 2;unfold Yd.cc;dsimp only;congr 1;unfold Zg enC YC;rw[List.filter_map];rfl
   .rw[sm.adr]at ha;exact((ū _).append<|Ja<|Xz b Y.es).subset ha
 |fallT p =>
  show wF P (n+5) "Yard.fall_of_tie" [.ref Y.y,.int p] g Q' X;have aG:(Y.ts.map trV).length=Y.ts.length:=Ã _;by_cases hp:0<=p/\p<Y.ts.length
  .obtain⟨q,rfl⟩:∃q:Nat,p=q:=⟨p.toNat,by lia⟩
   have et:=È (l:=Y.ts) (i:=q) (by lia);have eg:Y.ts[(q:Int).toNat]?.getD (0,0,0)=Y.ts[q]'(by lia):=by rw[à,et];rfl
   cases lk:Y.fallen.lookup (q:Int)with
   |none =>
    refine Cp no x' oks et lk (by lia) λg2 y2 x2=>fin y2 ?_ rfl (λa ha=>.inl ?_) x2 .non
    .refine(gG ⟨hp,by show(Y.fallen.lookup _).isSome=fe;rw[lk];rfl⟩).trans<|congrArg eZ ?_;have:=Uf (Y:={Y with fallen:=Zo Y.fallen q fc}) (p:=q);dsimp only at this;rw[eg]at this;exact this.symm
    .unfold Yd.adr at ha ⊢;dsimp only at ha
     rwa [Ke]at ha
   |some v =>
    refine ZJ ?_
    exists ZP
    fail;refine gb (by simp) ?_
    exists fm (xs:=[.tup<|Y.bs.map .int,.tup<|Y.ts.map trV]) (v:=.tup<|Y.ts.map trV) rfl
    fail;refine gc (by rw[aG];simpa using hp.2) ?_
    exists Wp xf rfl
    rw[Z3,lk];walk_at "p";exact bad (gH λz=>by have z:=z.2;have:(Y.fallen.lookup (q:Int)).isSome=fe:=z;rw[lk]at this;cases this)
  .refine ZJ ?_
   exists ZP
   fail;have bd:=bad<|gH λz=>hp z.1;refine gf (λp0=>?_) λp0=>?_
   .exists fm (xs:=[.tup<|Y.bs.map .int,.tup<|Y.ts.map trV]) (v:=.tup<|Y.ts.map trV) rfl
    fail;refine gb (by rw[aG];simp;lia) ?_;walk_at "p";exact bd
   .walk_at "p";exact bd
 |backB b =>
  show wF P (n+5) "Yard.back_of_bridge" [.ref Y.y,.int b] g Q' X;have lc:=WC (Y:=Y) (b:=b);cases ll:Y.lives.lookup b with
  |none =>
   refine Zy ?_
   exists Yq xl rfl
   rw[Z3,ll];fail;walk_at "p";refine bad ?_;dsimp only[step];split
   .rfl
   .show(Y.lives.lookup b).map _=fb;rw[ll];rfl
  |some life =>
   cases lk:(stands Y.es).lookup b with
   |some a =>
    rw[lk]at lc;refine Zy ?_
    exists Yq xl rfl
    rw[Z3,ll];walk_at "p";refine Wp xs rfl ?_;rw[Z3,lk];walk_at "p";exact bad<|gG lc
   |none =>
    rw[lk]at lc;refine DQ no x' oks ll (MQ lk) (by lia) (by lia) λq t d' g2 fr y2 gd2 x2=>?_;have sm:=YS (gy b 0 Y.ts) {Y with lives:=Zo Y.lives b<|life+1,es:=Y.es++[⟨b,q,t,d',ZD b (life+1) Y.most []⟩]};refine fin y2 ?_ sm.y (λa ha=>?_) x2 .non
    .rw[Ug];refine(gH<|by rw[lc];decide).trans ?_;show(Y.lives.lookup b).map _=_;rw[ll];congr 2;unfold Yd.cc;dsimp only;unfold enC;rw[ã];rfl
    .rw[sm.adr]at ha;have z:a∈[Y.y,Y.lv,Y.st,Y.fl,Y.rd]++enA (Y.es++[⟨b,q,t,d',ZD b (life+1) Y.most []⟩]):=ha;rw[Wm,<-ĸ]at z;rcases å.mp z with z|z
     .exact .inl z
     .exact .inr<|fr a z
 |backT p =>
  show wF P (n+5) "Yard.back_of_tie" [.ref Y.y,.int p] g Q' X;cases lk:Y.fallen.lookup p with
  |none =>
   refine Yo ?_
   exists Yq xf rfl
   rw[Z3,lk];walk_at "p";exact bad (gH<|by show ¬(Y.fallen.lookup p).isSome=fc;rw[lk];decide)
  |some v =>
   have hp:=gd.fr _<|Zn lk;have eh:p<Y.ts.length:=hp.2;obtain⟨q,rfl⟩:∃q:Nat,p=q:=⟨p.toNat,by have:0<=p:=hp.1;lia⟩
   have et:=È (l:=Y.ts) (i:=q) (by lia);have eg:Y.ts[(q:Int).toNat]?.getD (0,0,0)=Y.ts[q]'(by lia):=by rw[à,et];rfl
   refine Ev no x' oks et lk λg2 y2 x2=>fin y2 ?_ rfl (λa ha=>.inl ?_) x2 .non
   .refine(gG<|by show(Y.fallen.lookup _).isSome=fc;rw[lk];rfl).trans<|congrArg eZ ?_;have:=Uf (Y:={Y with fallen:=Zg Y.fallen q}) (p:=q);dsimp only at this;rw[eg]at this;exact this.symm
   .unfold Yd.adr at ha ⊢;dsimp only at ha
    rwa [Ke]at ha
end
abbrev Yc.at_(C:Yc)(b:Int):Br:=(C.br.lookup b).getD<|ZD 0 0 0 []
abbrev Yc.keys(C:Yc):List Int:=sortI (C.br.map (·.1))
abbrev QH(C:Yc):List Val:=C.keys.map λb=>.tup [.int b,(C.at_ b).label.v]
abbrev Gx(C:Yc)(b p:Int):String:=if(C.br.lookup b).isSome then DO (C.at_ b) p else "down"
abbrev Yc.ends(C:Yc)(p:Int):String×String:=(Gx C (C.tie p).1 p,Gx C (C.tie p).2.1 p)
abbrev Yc.downs(C:Yc):List Int:=C.bs.filter λb=>!(C.br.lookup b).isSome
abbrev Yc.cuts(C:Yc):List Int:=sortI (C.fallen.map (·.1))
def Yc.gd.ten(g:C.gd N):(C.br.map (·.1)).length<=10:=Ý (XJ g.nd<|keys_sub.mp g.sub) g.no.ten
def Yc.gd.f16(g:C.gd N):(C.fallen.map (·.1)).length<=16:=Yb (m:=16) g.fn λx hx=>by let⟨q,hq,rfl⟩:=Û.mp hx;have:=g.fr q hq;have:=g.no.sixteen;lia
def Ol:C.keys.length=(C.br.map (·.1)).length:=(ς _ _).length_eq
def keys_mem{b:Int}:b∈C.keys↔(C.br.lookup b).isSome=fc:=by unfold Yc.keys;rw[mem_sort,keys_look]
def fw.at_(x:fw h Y){b:Int}(hb:(Y.cc.br.lookup b).isSome=fc):∃e∈Y.es,e.num=b/\(gF.stands Y.es).lookup b=eZ e.b/\Y.cc.at_ b=e.B/\fv h e.b e.t e.d e.B:=by
 rw[WC]at hb;let⟨a,ha⟩:=û.mp hb;let⟨e,pre,ł,he,rfl,rfl⟩:=Xn ha;have hm:e∈Y.es:=by rw[he];simp
 refine⟨e,hm,rfl,ha,?_,x.brs e hm⟩;have:(enC Y.es).lookup e.num=eZ e.B:=WY (by rw[Xl];exact x.key)<|Û.mpr ⟨e,hm,rfl⟩;show((enC Y.es).lookup e.num).getD _=_;rw[this];rfl
section
variable {Y:Yd}{N:Nat}
def Nf(x:fw h Y)(k:∀p g,h p=fb->Ext h g->g p=eZ (.lst<|Y.road.map rdV)->Q (.ref p) g):wF P (n+1) "Yard.road" [.ref Y.y] h Q X:=by have xi:=x.ins;have xr:=x.road;refine N5 ?_;refine' Zc k
def By(x:fw h Y)(gd:Y.cc.gd N)(k:∀p g,h p=fb->Ext h g->g p=eZ (.lst<|QH Y.cc)->Q (.ref p) g):wF P (n+2) "Yard.labels" [.ref Y.y] h Q X:=by
 have xi:=x.ins;have xs:=x.stand;have ek:(stands Y.es).map (·.1)=Y.cc.br.map (·.1):=(ZG _).trans (Xl _).symm;have h10:=gd.ten;have kl:=Ol (C:=Y.cc);refine Kl ?_;refine' Ml xs (UA _) (by rw[ek];lia) (Zc λp1 g1 bE x1 e1=>?_);rw[ek]at e1;have x':=x.ext x1;have xi:=x'.ins;have xs:=x'.stand;refine' ⟨Ü (by rw[Ã];show Y.cc.keys.length<=10;lia) (by decide),?_⟩;refine Yj (λi ys g=>g=g1/\ys=(Y.cc.keys.take i).map λb=>.tup [.int b,(Y.cc.at_ b).label.v]) ⟨rfl,rfl⟩ (λi ys g _ ⟨z,_⟩=>by rw[z];exact lsE e1) ?_ ?_
 .rintro i v ys g hv ⟨rfl,rfl⟩ K hK;let⟨nm,hnm,rfl⟩:=ZT hv;let⟨e,he,en,lk,ea,ba⟩:=x'.at_<|keys_mem.mp<|ë hnm;have bi:=ba.ins;walk_at "p";refine ZX xs rfl (by rw[Z5,lk];rfl) ?_
  exists Cw ba
  refine' hK _ _ ⟨rfl,?_⟩;rw[Zm (xs:=Y.cc.keys) hnm,ã,<-ea];rfl
 .rintro ys g ⟨rfl,rfl⟩;rw[Ã,show(sortI (Y.cc.br.map (·.1))).length=Y.cc.keys.length from rfl,ÿ];exact Zc λp g2 hp x2 ep=>k p g2 (Yk x1 hp) (x1.trans x2) ep
def Ei(x:fw h Y)(gd:Y.cc.gd N)(k:∀g,Ext h g->Q (.tup [.tup<|Y.cc.downs.map .int,.tup<|Y.cc.cuts.map .int]) g):wF P (n+1) "Yard.down" [.ref Y.y] h Q X:=by
 have xi:=x.ins;have xs:=x.stand;have ez:(Y.bs.map Val.int).length<=10:=by rw[Ã];exact gd.no.ten
 refine NV ?_
 exists fm (xs:=[.tup<|Y.bs.map .int,.tup<|Y.ts.map trV]) (v:=.tup<|Y.bs.map .int) rfl
 refine' ⟨Ü ez (by decide),Yj (λi ys g=>g=h/\ys=((Y.bs.take i).filter λb=>!(Y.cc.br.lookup b).isSome).map .int) ⟨rfl,rfl⟩ (λ_ _ _ _ _=>trivial) ?_ ?_⟩
 .rintro i v ys g hv ⟨rfl,rfl⟩ K hK;let⟨b,hb,rfl⟩:=ZT hv;rw[Zm hb,Θ,þ,ϝ]at hK
  exists Yq xs rfl
  rw[Z3,<-WC];refine' gg (λhc=>?_) (λhc=>?_)
  .refine' hK _ _ ⟨rfl,by rw[hc,gG rfl,ã];rfl⟩
  .exact hK _ _ ⟨rfl,by rw[hc,gH (by decide),ò,ϳ,ò]⟩
 rintro ys g ⟨rfl,rfl⟩;rw[Ã,ÿ];refine Zc λp1 g1 bE x1 e1=>?_;have x':=x.ext x1;have xi:=x'.ins;have xf:=x'.fallen;refine' Ml xf (UA _) (by have:=gd.f16;show(Y.cc.fallen.map (·.1)).length<_;lia) (Zc λp2 g2 eh x2 e2=>?_);refine' k _ (x1.trans x2)
def Nl{b p:Int}(x:fw h Y)(k:Q (.str<|Gx Y.cc b p) h):wF P (n+4) "Yard.end_at" [.ref Y.y,.int b,.int p] h Q X:=by
 have xi:=x.ins;have xs:=x.stand;refine Kr ?_
 exists Yq xs rfl
 rw[Z3,<-WC];fail;unfold Gx at k;cases z:(Y.cc.br.lookup b).isSome with
 |false =>rw[z]at k;walk_at "p";exact k
 |true =>rw[z,gG rfl]at k;let⟨e,he,en,lk,ea,ba⟩:=x.at_ z;have bi:=ba.ins;walk_at "p";refine ZX xs rfl (by rw[Z5,lk];rfl) ?_;fail;rw[ea]at k;exact IM ba k
def E5{p:Nat}(x:fw h Y)(hp:p<Y.ts.length)(k:Q (.tup [.str (Y.cc.ends p).1,.str (Y.cc.ends p).2]) h):wF P (n+5) "Yard.ends" [.ref Y.y,.int p] h Q X:=by
 have xi:=x.ins;have aG:(Y.ts.map trV).length=Y.ts.length:=Ã _;have eg:Y.cc.tie p=Y.ts[p]:=by show Y.ts[(p:Int).toNat]?.getD _=_;rw[à,È hp];rfl
 refine Nz ?_
 exists ZP
 fail;refine gb (by simp) ?_
 exists fm (xs:=[.tup<|Y.bs.map .int,.tup<|Y.ts.map trV]) (v:=.tup<|Y.ts.map trV) rfl
 fail;refine gc (by rw[aG];simpa using hp) ?_
 exists fm (xs:=[.tup<|Y.bs.map .int,.tup<|Y.ts.map trV]) (v:=.tup<|Y.ts.map trV) rfl
 refine' fm (v:=trV Y.ts[p]) (YQ (by lia)<|by rw[à,Ú,È hp];rfl) ?_;unfold Yc.ends at k;rw[eg]at k;unfold trV
 exists Nl x
 exists Nl x
 refine' k
end
def W2{k:Nat}(q:∀c,Q (.int c) h):wF P (n+1) "_law_cell_at" [.scr ns,.int k] h Q X:=by
 refine Kp ?_;refine' gf (λhc=>?_) (λhc=>?_)
 .fail;have hk:k<ns.length:=by lia
  refine IX (v:=.int ns[k]) ?_ ?_
  .refine YQ (by lia) ?_;rw[Ú];simp[hk]
  .exact q _
 .refine' q _
def Oi{k:Nat}(hk:k<=100)(q:∀r,0<=r->Q (.int r) h):wF P (n+1) "_law_mixed" [.int c,.int k] h Q X:=by
 refine Oj ?_
 exists q _
 exact Int.ediv_nonneg (ď _<|by decide) (by decide)
abbrev Nn(ns:List Int):Prop:=∀x∈ns,0<=x
def JR{m:Nat}(hm:m<=100)(q:∀p (ns:List Int) g,h p=fb->Ext h g->g p=eZ (.lst<|ns.map .int)->ns.length=m->Nn ns->Q (.ref p) g):wF P (n+2) "_law_draws" [.int c,.int m] h Q X:=by
 refine Nv ?_;refine' Zc λp g1 hp x1 e1=>?_;refine' ⟨⟨by lia,by lia⟩,?_⟩;refine Zs (λi en g=>Sm3 λr v5 b=>∃ns:List Int,en=[eZ<|.int c,eZ<|.int m,eZ<|.int r,eZ<|.bl b,eZ<|.ref p,v5]/\g p=eZ (.lst<|ns.map .int)/\ns.length=i/\Nn ns/\Ext h g) ⟨_,_,_,[],rfl,e1,rfl,(λx hx=>gM hx Ó),x1⟩ (λ_ _ _ _ _=>trivial) ?_ ?_
 .rintro i v en g hv ⟨r,v5,b,ns,rfl,e,hl,hn,x⟩ K hK;let⟨rfl,hi⟩:=X6 hv;have put:∀{y:Int}{r':Int},0<=y->K [eZ<|.int c,eZ<|.int m,eZ<|.int r',eZ<|.bl b,eZ<|.ref p,eZ<|.int i] (upd g p<|.lst<|ns.map Val.int++[.int y]):=λ{y r'} hy=>by
   refine hK _ _ ⟨_,_,_,ns++[y],rfl,by rw[fh,ã];rfl,by rw[è,hl];rfl,λz hz=>?_,⟨λe=>by rw[ff<|Za e hp];exact x.get e⟩⟩;rcases å.mp hz with hz|hz
   .exact hn z hz
   .rw[ß.mp hz];exact hy
  have hlim:(ns.map Val.int).length<lim:=by rw[Ã];exact Ü (by lia:ns.length<=100) (by decide)
  refine' gg (λhc=>?_) (λhc=>?_)
  .refine' gf (λhr=>?_) (λhr=>?_)
   .refine' put (ď _<|by decide)
   .refine' Oi (by lia) λy hy=>?_;refine' put hy
  .refine gc rfl ?_;refine' Oi (by lia) λy hy=>?_;refine' put hy
 .rintro en g ⟨r,v5,b,ns,rfl,e,hl,hn,x⟩;rw[YR]at hl;refine' q p ns g hp x e (by lia) hn
def nth(hi:i<ns.length)(hn:Nn ns):∃x,0<=x/\atI (ns.map Val.int) i=eZ (.int x):=by refine⟨ns[i],hn _<|ı hi,YQ (by lia) ?_⟩;rw[Ú];simp[hi]
def O1(ea:h a=eZ (.lst<|ns.map .int))(hl:ns.length=14)(hn:Nn ns)(q:∀p (bs:List Int) g,h p=fb->Ext h g->g p=eZ (.lst<|bs.map .int)->1<=bs.length->bs.length<=10->Brs bs->bs.Pairwise (· < ·)->Q (.ref p) g):wF P (n+1) "_law_bridges" [.ref a] h Q X:=by
 let⟨s0,s00,a0⟩:=nth (i:=0) (by lia) hn;let⟨s1,s10,a1⟩:=nth (i:=1) (by lia) hn;have fin:∀m:Int,1<=m->m<=10->∀{v3:Option Val},wSs (wF P n) #[.set (.one 2)<|.idx (.lst #[.cst<|.int 1000,.cst<|.int 12,.cst<|.int 1000,.cst<|.int 30])<|.bin .mod (.idx (.var 0)<|.cst<|.int 1)<|.cst<|.int 4,.ret<|.bi .sortedSet #[.comp [2] 1 (.one 0) (.seq<|.slc (.var 0) (.some<|.cst<|.int 4)<|.some<|.bin .add (.cst<|.int 4)<|.var 1) .yes<|.bin .mod (.var 0)<|.var 1]] [eZ<|.ref a,eZ<|.int m,v3] h (λ_ g=>Q .non g) Q (λ_ _=>False) (λ_ _=>False) λ_ c g=>X c g:=by
  intro m m1 m2 v3;refine' Zc λp1 g1 bE x1 e1=>?_
  exists Zj (x1.get ea) a1
  fail;let⟨v,ev,hv⟩:=WG (xs:=[Val.int 1000,.int 12,.int 1000,.int 30]) (r:=s1 % 4) (ď _<|by decide) (Ė _<|by decide);obtain⟨wd,rfl,w1,w2⟩:∃wd:Int,v=.int wd/\1<=wd/\wd<=1000:=by simp only[Ç,Ó,or_false]at hv;rcases hv with rfl|rfl|rfl|rfl<;>exact⟨_,rfl,by decide,by decide⟩
  refine Zj e1 ev ?_;refine' Zc λp2 g2 eh x2 e2=>?_;rw[Jv,De (by decide)<|by lia]at e2;have hc:((ns.drop (4:Int).toNat).take<|(4+m).toNat - (4:Int).toNat).length=m.toNat:=by rw[ě,ť,hl];lia
  generalize (ns.drop (4:Int).toNat).take ((4+m).toNat - (4:Int).toNat)=ks at e2 hc;refine' ⟨Ü (by rw[Ã];lia:_<=10) (by decide),Yg (λv=>match v with|.int b=>eZ (.int<|b % wd)|_=>fb) (lsE e2) (λv hv K hK=>?_) ?_⟩
  .obtain⟨b,_,rfl⟩:=Û.mp hv;walk_at "p";exact hK
  rw[show(ks.map Val.int).filterMap (λv=>match v with|.int b=>eZ (.int<|b % wd)|_=>fb)=(ks.map (· % wd)).map Val.int by rw[Η,ü];exact congrFun (ϗ (f:=λb:Int=>Val.int<|b % wd)) ks];refine Zc λp3 g3 hp3 x3 e3=>?_;fail;have hk:(ks.map (· % wd)).length=m.toNat:=by rw[Ã];exact hc
  refine SA e3 (by lia)<|Zc λp4 g4 hp4 x4 e4=>?_;have xx:=((x1.trans x2).trans x3).trans x4;have hp0:h p4=fb:=by
   cases z:h p4 with
   |none=>rfl
   |some o=>rw[x3.get<|x2.get<|x1.get z]at hp4;cases hp4
  refine q p4 _ g4 hp0 xx e4 (LL<|by lia) (Ý (LI _)<|by lia) (λi hi=>?_)<|RS _;let⟨b,_,rfl⟩:=Û.mp<|sd_mem.mp hi;exact⟨ď _ (by lia),eX (Ė _<|by lia) w2⟩
 refine KA ?_
 exists Zj ea a0
 exists Zj ea a0
 refine' gf (λhc=>?_) (λhc=>?_)
 .exists Zj ea a0
  repeat (first|exact fin _ (by lia) (by lia)|walk_at "py1")
 .exact fin _ (by lia) (by lia)
def QC(nd:ns.Nodup){i j:Int}{a b:Int}(i0:0<=i)(i1:i<ns.length)(j0:0<=j)(j1:j<ns.length)(hij:i≠j)(ea:atI (ns.map Val.int) i=eZ (.int a))(eb:atI (ns.map Val.int) j=eZ (.int b)):a≠b:=by
 have hi:i.toNat<ns.length:=by lia
 have hj:j.toNat<ns.length:=by lia
 have e1:=YQ (xs:=ns.map Val.int) i0 (x:=.int ns[i.toNat]) (by rw[Ú,È hi];rfl);have e2:=YQ (xs:=ns.map Val.int) j0 (x:=.int ns[j.toNat]) (by rw[Ú,È hj];rfl);rw[ea]at e1;rw[eb]at e2;simp only[Ĳ,Val.int.injEq]at e1 e2;rw[e1,e2];intro z;have:=(List.getElem_inj nd).mp z;lia
def Dh{a L:Int}(a0:0<=a)(a1:a<L)(r0:0<=r)(r1:r<L - 1):(a+1+r) % L≠a:=by
 by_cases hc:a+1+r<L
 .rw[Int.emod_eq_of_lt (by lia) hc];lia
 .rw[<-Int.sub_emod_right,Int.emod_eq_of_lt (by lia)<|by lia];lia
def Rw(a b:Int):sortI [a,b]=if b<a then [b,a]else [a,b]:=by
 unfold sortI;by_cases h:b<a
 .rw[gG h,ϥ];simp[υ,ϥ,List.merge,Int.not_le.mpr h]
 .rw[gH h,ϥ];simp[υ,ϥ,List.merge,Int.not_lt.mp h]
def GZ{pb pt:Ad}{bs th:List Int}{k:Nat}(eb:h pb=eZ (.lst<|bs.map .int))(l2:2<=bs.length)(l10:bs.length<=10)(nd:bs.Nodup)(et:h pt=eZ (.lst<|th.map .int))(hl:th.length=3)(hn:Nn th)(q:∀t g,LOk bs t->Ext h g->Q (trV t) g):wF P (n+1) "_law_tie" [.ref pb,.ref pt,.int k] h Q X:=by
 have hL:(bs.map Val.int).length=bs.length:=Ã _;let⟨t0,t00,a0⟩:=nth (i:=0) (by lia) hn;let⟨t1,t10,a1⟩:=nth (i:=1) (by lia) hn;let⟨t2,t20,a2⟩:=nth (i:=2) (by lia) hn;have fin:∀{one aW:Int},0<=one->one<bs.length->0<=aW->aW<bs.length->one≠aW->wSs (wF P n) #[.set (.one 6)<|.bin .add (.cst<|.int 1)<|.bin .mod (.idx (.var 1)<|.cst<|.int 2)<|.cst<|.int 1000,.ite (.val<|.cmp .eq (.bin .mod (.bin .fdiv (.idx (.var 1)<|.cst<|.int 0)<|.cst<|.int 20)<|.cst<|.int 2)<|.cst<|.int 0) #[.set (.one 6)<|.bin .add (.cst<|.int 1)<|.bin .mod (.idx (.var 1)<|.cst<|.int 2)<|.cst<|.int 3] .nil,.set (.one 7)<|.bi .sortedI #[.lst #[.idx (.var 0)<|.var 4,.idx (.var 0)<|.var 5]],.ret<|.tup #[.idx (.var 7)<|.cst<|.int 0,.idx (.var 7)<|.cst<|.int 1,.var 6]] [eZ<|.ref pb,eZ<|.ref pt,eZ<|.int k,eZ<|.int bs.length,eZ<|.int one,eZ<|.int aW,fb,fb] h (λ_ g=>Q .non g) Q (λ_ _=>False) (λ_ _=>False) λ_ c g=>X c g:=by
  intro one aW o0 o1 p0 p1 ŭ;let⟨u1,eu1,hu1⟩:=WG (xs:=bs.map Val.int) (r:=one) o0 (by lia);let⟨i1,hi1,rfl⟩:=Û.mp hu1;let⟨u2,eu2,hu2⟩:=WG (xs:=bs.map Val.int) (r:=aW) p0 (by lia);let⟨i2,hi2,rfl⟩:=Û.mp hu2;have hi:=QC nd o0 o1 p0 p1 ŭ eu1 eu2;have last:∀c:Int,1<=c->c<=1000->wSs (wF P n) #[.set (.one 7)<|.bi .sortedI #[.lst #[.idx (.var 0)<|.var 4,.idx (.var 0)<|.var 5]],.ret<|.tup #[.idx (.var 7)<|.cst<|.int 0,.idx (.var 7)<|.cst<|.int 1,.var 6]] [eZ<|.ref pb,eZ<|.ref pt,eZ<|.int k,eZ<|.int bs.length,eZ<|.int one,eZ<|.int aW,eZ<|.int c,fb] h (λ_ g=>Q .non g) Q (λ_ _=>False) (λ_ _=>False) λ_ c g=>X c g:=by
   intro c c0 c1
   exists Zj eb eu1
   exists Zj eb eu2
   refine' Zc λp3 g3 hp3 x3 e3=>?_;refine' LY (ns:=[i1,i2]) e3 rfl (by simp) (Zc λp4 g4 hp4 x4 e4=>?_);rw[Rw]at e4;have x34:=x3.trans x4;by_cases ϵ:i2<i1
   .rw[gG ϵ]at e4;refine' q (i2,i1,c) g4 ⟨hi2,hi1,ϵ,c0,c1⟩ x34
   .rw[gH ϵ]at e4;refine' q (i1,i2,c) g4 ⟨hi1,hi2,by show i1<i2;lia,c0,c1⟩ x34
  exists Zj et a2
  exists Zj et a0
  refine' gf (λhc=>?_) (λhc=>?_)
  .exists Zj et a2
   repeat (first|exact last _ (by lia) (by lia)|walk_at "py1")
  .refine Uh ?_;exact last _ (by lia) (by lia)
 refine Bv ?_
 exists Zj et a0
 rw[hL]
 exists Zj et a1
 fail;have o0:=ď t0 (show(bs.length:Int)≠0 by lia);have o1:=Ė t0 (show(0:Int)<bs.length by lia);have r0:=ď t1 (show(bs.length:Int) - 1≠0 by lia);have r1:=Ė t1 (show(0:Int)<(bs.length:Int) - 1 by lia);have p0:=ď (t0 % bs.length+1+t1 % ((bs.length:Int) - 1)) (show(bs.length:Int)≠0 by lia);have p1:=Ė (t0 % bs.length+1+t1 % ((bs.length:Int) - 1)) (show(0:Int)<bs.length by lia);refine gf (λhc=>?_) λhc=>?_
 .exists Zj et a0
  refine' gf (λhd=>?_) (λhd=>?_)
  .exists Zj et a1
   have q0:=ď t1 (show(k:Int)+1≠0 by lia);have q1:=Ė t1 (show(0:Int)<(k:Int)+1 by lia)
   repeat (first|exact fin (by lia) hc q0 (by lia) (by lia)|walk_at "py1")
  .exact fin o0 o1 p0 p1 (Dh o0 o1 r0 r1).symm
 .refine gc rfl ?_;exact fin o0 o1 p0 p1 (Dh o0 o1 r0 r1).symm
def PH{d:Int}(q:∀bs ts g,fG bs ts->Ext h g->Q (ZH bs ts) g):wF P (n+3) "_law_net" [.int c,.int d] h Q X:=by
 refine Av ?_;refine' JR (m:=14) (by decide) λp ns g1 hp x1 e1 hl hn=>?_;let⟨s2,s20,a2⟩:=nth (i:=2) (by lia) hn;refine' O1 e1 hl hn λpb bs g2 hpb x2 eb l1 l10 hb up=>?_;have hL:(bs.map Val.int).length=bs.length:=Ã _;have nd:bs.Nodup:=up.imp λh=>by lia
 have e1':=x2.get e1;have x12:=x1.trans x2;have fin:∀m:Nat,m<=16->(0<m->2<=bs.length)->wSs (wF P<|n+2) #[.set (.one 5)<|.call "_law_draws" #[.var 1,.bin .mul (.cst<|.int 3)<|.var 4],.set (.one 6)<|.comp [3,5] 1 (.one 0) (.range<|.var 4) .yes<|.call "_law_tie" #[.var 1,.slc (.var 2) (.some<|.bin .mul (.cst<|.int 3)<|.var 0)<|.some<|.bin .add (.bin .mul (.cst<|.int 3)<|.var 0)<|.cst<|.int 3,.var 0],.ret<|.tup #[.bi .tuple #[.var 3],.bi .tuple #[.var 6]]] [eZ<|.int c,eZ<|.int d,eZ<|.ref p,eZ<|.ref pb,eZ<|.int m,fb,fb] g2 (λ_ g=>Q .non g) Q (λ_ _=>False) (λ_ _=>False) λ_ c g=>X c g:=by
  intro m hm h2;fail;rw[show(3:Int)*(m:Int)=((3*m:Nat):Int) by lia];refine JR (m:=3*m) (by lia) λpd ds g3 hpd x3 e3 hdl hdn=>?_;have eb3:=x3.get eb;refine' ⟨⟨by lia,by lia⟩,by rw[YR];exact Ü (by lia:_<=16) (by decide),?_⟩;refine Yj (λi zs g=>∃ts:List Tie,zs=ts.map trV/\ts.length=i/\(∀t∈ts,LOk bs t)/\Ext g3 g) ⟨[],rfl,rfl,(λt ht=>gM ht Ó),.refl⟩ (λ_ _ _ _ _=>trivial) ?_ ?_
  .rintro i v zs g hv ⟨ts,rfl,aG,ht,x⟩ K hK;let⟨rfl,hi⟩:=X6 hv;walk_at "p";refine Zc λp4 g4 hp4 x4 e4=>?_;rw[Jv,De (by lia)<|by lia]at e4;have hc:((ds.drop (3*(i:Int)).toNat).take<|(3*(i:Int)+3).toNat - (3*(i:Int)).toNat).length=3:=by
    rw[ě,ť,hdl];lia
   have hcn:Nn<|(ds.drop (3*(i:Int)).toNat).take<|(3*(i:Int)+3).toNat - (3*(i:Int)).toNat:=λy hy=>hdn y<|List.mem_of_mem_drop<|List.mem_of_mem_take hy;refine' GZ (x4.get<|x.get eb3) (h2<|by lia) l10 nd e4 hc hcn λt g5 lo x5=>?_;refine hK _ _ ⟨ts++[t],by rw[ã];rfl,by rw[è,aG];rfl,λy hy=>?_,(x.trans x4).trans x5⟩;rcases å.mp hy with hy|hy
   .exact ht y hy
   .rw[ß.mp hy];exact lo
  .rintro zs g ⟨ts,rfl,aG,ht,x⟩;rw[YR]at aG;refine Zc λp6 g6 hp6 x6 e6=>?_;have eb6:=x6.get<|x.get eb3;refine' q bs ts g6 ⟨l1,l10,hb,up,by lia,ht⟩ (((x12.trans x3).trans x).trans x6)
 exists Zj e1' a2
 exists Zj e1' a2
 fail;have tail:∀m:Int,0<=m->m<=16->wSs (wF P<|n+2) #[.ite (.val<|.cmp .eq (.bi .len #[.var 3])<|.cst<|.int 1) #[.set (.one 4)<|.cst<|.int 0] .nil,.set (.one 5)<|.call "_law_draws" #[.var 1,.bin .mul (.cst<|.int 3)<|.var 4],.set (.one 6)<|.comp [3,5] 1 (.one 0) (.range<|.var 4) .yes<|.call "_law_tie" #[.var 1,.slc (.var 2) (.some<|.bin .mul (.cst<|.int 3)<|.var 0)<|.some<|.bin .add (.bin .mul (.cst<|.int 3)<|.var 0)<|.cst<|.int 3,.var 0],.ret<|.tup #[.bi .tuple #[.var 3],.bi .tuple #[.var 6]]] [eZ<|.int c,eZ<|.int d,eZ<|.ref p,eZ<|.ref pb,eZ<|.int m,fb,fb] g2 (λ_ g=>Q .non g) Q (λ_ _=>False) (λ_ _=>False) λ_ c g=>X c g:=by
  intro m m0 m1;fail;rw[hL];refine gf (λhc=>?_) λhc=>?_
  .repeat (first|exact fin 0 (by lia) (λz=>gM z<|by decide)|walk_at "py1")
  .refine Uh ?_;have:=fin m.toNat (by lia) (λ_=>by lia)
   rwa [Int.toNat_of_nonneg m0]at this
 refine gf (λhc=>?_) λhc=>?_
 .exists Zj e1' a2
  repeat (first|exact tail _ (by lia) (by lia)|walk_at "py1")
 .refine Uh ?_;exact tail _ (by lia) (by lia)
def Nw(q:∀m g,4<=m->m<=200->Ext h g->Q (.int m) g):wF P (n+3) "_law_greatest" [.int c] h Q X:=by
 refine Jw ?_;refine' JR (m:=4) (by decide) λp ns g1 hp x1 e1 hl hn=>?_;let⟨s1,s10,a1⟩:=nth (i:=1) (by lia) hn;let⟨s3,s30,a3⟩:=nth (i:=3) (by lia) hn
 exists Zj e1 a1
 refine' gf (λhc=>?_) (λhc=>?_)
 .exists Zj e1 a3
  refine' q _ g1 (by lia) (by lia) x1
 .exists Zj e1 a3
  refine' q _ g1 (by lia) (by lia) x1
abbrev WM(bs:List Int)(ts:List Tie)(most:Int):Yc:=⟨bs,ts,most,bs.map λb=>(b,0),bs.map λb=>(b,ZD b 0 most<|gy b 0 ts),[],[]⟩
def Rr{bs:List Int}(nw:YNew bs ts most Y):Y.cc=WM bs ts most:=by
 have e:enC Y.es=bs.map λb=>(b,ZD b 0 most<|gy b 0 ts):=by rw[<-nw.num,ü];exact ħ λe he=>by show(e.num,e.B)=(e.num,_);rw[nw.br e he]
 unfold Yd.cc WM;rw[nw.hb,nw.ht,nw.hm,nw.lives,nw.fallen,nw.road,e]
def GS{b:Int}(h:ts.length<=16):Bok ts.length<|ZD b life most<|gy b 0 ts:=by
 have r:=Jx (b:=b) (l:=ts) (k:=0);have rg:∀q∈XG (gy b 0 ts),0<=q.1/\q.1<ts.length:=λq hq=>by let⟨x,hx,rfl⟩:=Û.mp hq;have:=r.2 x hx;dsimp only;lia
 refine⟨⟨ĥ,(λ_ m=>nomatch m),?_,λq hq=>?_⟩,λq hq=>(rg q hq).2⟩
 .show((XG _).map (·.1)).Nodup;rw[M1];exact r.1.imp λz=>by lia
 .have:=rg q hq;lia
def GV{bs:List Int}(no:fG bs ts):(WM bs ts most).gd 0:=by
 have e1:(bs.map λb=>(b,ZD b 0 most<|gy b 0 ts)).map (·.1)=bs:=by rw[ü];exact ν _
 refine⟨no,?_,keys_sub.mpr ?_,λq hq=>?_,?_,ĥ,(λ_ m=>nomatch m),Ñ _⟩
 .show((bs.map λb=>(b,ZD b 0 most<|gy b 0 ts)).map (·.1)).Nodup;rw[e1];exact no.up.imp λh=>by lia
 .show ∀x∈(bs.map λb=>(b,ZD b 0 most<|gy b 0 ts)).map (·.1),_;rw[e1];exact λ_=>id
 .obtain⟨b,_,rfl⟩:=Û.mp hq;exact GS no.sixteen
 .show(bs.map λb=>(b,(0:Int))).map (·.1)=bs;rw[ü];exact ν _
def Bz{b:Int}(h:b∈C.br.map (·.1)):∃D,step C (.tick b)=eZ D/\D.br.map (·.1)=C.br.map (·.1):=by let⟨B,hB⟩:=ZK h;refine⟨_,by show(C.br.lookup b).map _=_;rw[hB];rfl,JF _⟩
def Ot{b:Int}(h:b∈C.keys):(step C<|.fallB b).isSome=fc:=by dsimp only[step];rw[gG<|keys_mem.mp h];rfl
def ME{b:Int}(h:b∈C.keys):(step C<|.tick b).isSome=fc:=by let⟨D,hD,_⟩:=Bz<|keys_look.mp<|keys_mem.mp h;rw[hD];rfl
def cut_mem{p:Int}:p∈C.cuts↔(C.fallen.lookup p).isSome=fc:=by unfold Yc.cuts;rw[mem_sort,look_iff];simp
def Dx{p:Int}(h0:0<=p)(h1:p<C.ts.length)(h:p∉C.cuts):(step C<|.fallT p).isSome=fc:=by dsimp only[step];rw[gG ⟨⟨h0,h1⟩,by cases z:(C.fallen.lookup p).isSome with|false=>rfl|true=>exact gM (cut_mem.mpr z) h⟩];rfl
def downs_mem{b:Int}:b∈C.downs↔b∈C.bs/\(C.br.lookup b).isSome=fe:=by unfold Yc.downs;rw[ø];simp
def DI{b:Int}(g:C.gd N)(h:b∈C.downs):(step C<|.backB b).isSome=fc:=by let⟨h1,h2⟩:=downs_mem.mp h;dsimp only[step];rw[gH<|by rw[h2];decide];rw[<-g.lv]at h1;let⟨v,hv⟩:=ZK h1;rw[hv];rfl
def G9(h0:0<=r)(h1:r<C.road.length):(step C<|.lost r).isSome=fc/\(step C<|.come r).isSome=fc:=by have e:=È (l:=C.road) (i:=r.toNat) (by lia);dsimp only[step];rw[gH (by lia),e];exact⟨rfl,by rw[gH<|by lia];rfl⟩
def IU(r0:0<=r)(r1:r<ns.length):∃b∈ns,atI (ns.map Val.int) r=eZ (.int b):=by let⟨b,hb,hm⟩:=DC r0 r1;exact⟨b,hm,YQ r0<|by rw[Ú,hb];rfl⟩
abbrev flat:Nat->Val->Bool
 |_,.non=>fc
 |_,.bl _=>fc
 |_,.int _=>fc
 |_,.str _=>fc
 |n+1,.tup xs=>xs.all<|flat n
 |_,_=>fe
def Mj{α β:Type}{f:α->Option β}:∀{xs:List α},(∀x∈xs,∃d,f x=eZ d)->∃ds,xs.mapM f=eZ ds
 |[],_=>⟨[],rfl⟩
 |x::xs,h=>by let⟨d,hd⟩:=h x (by simp);let⟨ds,hds⟩:=Mj (xs:=xs) λy hy=>h y (by simp[hy]);exact⟨d::ds,by rw[Ĉ,hd,hds];rfl⟩
def Kg{h:Hs}:∀{n:Nat}{v:Val},flat n v=fc->∃d,dat h n v=eZ d
 |0,.non,_=>⟨_,rfl⟩
 |0,.bl _,_=>⟨_,rfl⟩
 |0,.int _,_=>⟨_,rfl⟩
 |0,.str _,_=>⟨_,rfl⟩
 |n+1,.non,_=>⟨_,rfl⟩
 |n+1,.bl _,_=>⟨_,rfl⟩
 |n+1,.int _,_=>⟨_,rfl⟩
 |n+1,.str _,_=>⟨_,rfl⟩
 |n+1,.tup xs,e=>by let⟨ds,hds⟩:=Mj (f:=dat h n) (xs:=xs) λx hx=>Kg<|ý.mp e x hx;exact⟨_,by show(xs.mapM<|dat h n).map D.tup=_;rw[hds];rfl⟩
def all_map{α:Type}{f:α->Val}{n:Nat}{xs:List α}(h:∀x∈xs,flat n (f x)=fc):(xs.map f).all (flat n)=fc:=by rw[List.all_map];exact ý.mpr h
def NY{i:Int}:flat n (.int i)=fc:=by cases n<;>rfl
abbrev RZ(C:Yc):List Val:=C.keys.map λb=>.tup [.int b,pV ((C.at_ b).life,(C.at_ b).version)]
section
variable {Y Z:Yd}{N:Nat}
def E0{bs:List Int}(no:fG bs ts)(hp:h p=fb)(k:∀Y g,Y.y=p->fw g Y->Y.cc=WM bs ts most->(∀a∈Y.adr,h a=fb)->Ext h g->Q .non g):wF P (n+3) "Yard.__init__" [.ref p,ZH bs ts,.int most] (upd h p<|.ins "Yard" []) Q X:=DA no hp λY g e y nw f x=>k Y g e y (Rr nw) f x
def Bx(x:fw h Y)(gd:Y.cc.gd N)(k:∀p g,h p=fb->Ext h g->g p=eZ (.lst<|RZ Y.cc)->Q (.ref p) g):wF P (n+2) "Yard.stamps" [.ref Y.y] h Q X:=by
 have xi:=x.ins;have xs:=x.stand;have ek:(stands Y.es).map (·.1)=Y.cc.br.map (·.1):=(ZG _).trans (Xl _).symm;have h10:=gd.ten;have kl:=Ol (C:=Y.cc);refine Kq ?_;refine' Ml xs (UA _) (by rw[ek];lia) (Zc λp1 g1 bE x1 e1=>?_);rw[ek]at e1;have x':=x.ext x1;have xi:=x'.ins;have xs:=x'.stand;refine' ⟨Ü (by rw[Ã];show Y.cc.keys.length<=10;lia) (by decide),?_⟩;refine Yj (λi ys g=>g=g1/\ys=(Y.cc.keys.take i).map λb=>.tup [.int b,pV ((Y.cc.at_ b).life,(Y.cc.at_ b).version)]) ⟨rfl,rfl⟩ (λi ys g _ ⟨z,_⟩=>by rw[z];exact lsE e1) ?_ ?_
 .rintro i v ys g hv ⟨rfl,rfl⟩ K hK;let⟨nm,hnm,rfl⟩:=ZT hv;let⟨e,he,en,lk,ea,ba⟩:=x'.at_<|keys_mem.mp<|ë hnm;have bi:=ba.ins;walk_at "p";refine ZX xs rfl (by rw[Z5,lk];rfl) ?_
  exists Xo ba
  refine' hK _ _ ⟨rfl,?_⟩;rw[Zm (xs:=Y.cc.keys) hnm,ã,<-ea];rfl
 .rintro ys g ⟨rfl,rfl⟩;rw[Ã,show(sortI (Y.cc.br.map (·.1))).length=Y.cc.keys.length from rfl,ÿ];exact Zc λp g2 hp x2 ep=>k p g2 (Yk x1 hp) (x1.trans x2) ep
end
def U9{k:Int}{v:α}:((Zo kvs k v).lookup q).isSome=(gN (q=k)||(kvs.lookup q).isSome):=by
 rw[look_iff,X5,look_iff (k:=k),look_iff];by_cases h:k∈kvs.map (·.1)
 .rw[gK h,gG rfl];by_cases e:q=k
  .subst e;simp[h]
  .simp[e]
 .rw[gJ h,gH<|by decide];by_cases e:q=k<;>simp[e]
def YU{α:Type}{k b:Int}:∀{kvs:List (Int×α)},(Zg kvs k).lookup b=if b=k then fb else kvs.lookup b
 |[]=>by split<;>rfl
 |p::r=>by
  have ih:=YU (k:=k) (b:=b) (kvs:=r);unfold Zg at ih ⊢;rw[þ,â];by_cases e:p.1=k
  .rw[gH (by simp[e]),ih];by_cases eb:b=k
   .rw[gG eb,gG eb]
   .rw[gH eb,gH eb,show(b==p.1)=fe by rw[e];simpa using eb]
  .rw[gG (by simp[e]),â,ih];by_cases eb:b=p.1
   .subst eb;simp[e]
   .have:(b==p.1)=fe:=⇑eb
    rw[this]
def Xx{k b:Int}{F:Br->Br}:∀{l:List (Int×Br)},(upC k F l).lookup b=(l.lookup b).map λB=>if b=k then F B else B
 |[]=>rfl
 |p::r=>by
  have ih:=Xx (k:=k) (b:=b) (F:=F) (l:=r);unfold upC at ih ⊢;rw[É,â,â];by_cases e:p.1=k
  .rw[gG e];dsimp only;by_cases eb:b=p.1
   .have:(b==p.1)=fc:=⇑eb
    rw[this];show eZ (F p.2)=eZ (if b=k then F p.2 else p.2);rw[gG<|eb.trans e]
   .have:(b==p.1)=fe:=⇑eb
    rw[this,ih]
  .rw[gH e];by_cases eb:b=p.1
   .have:(b==p.1)=fc:=⇑eb
    rw[this];show eZ p.2=eZ (if b=k then F p.2 else p.2);rw[gH λz=>e<|eb.symm.trans z]
   .have:(b==p.1)=fe:=⇑eb
    rw[this,ih]
noncomputable abbrev Cr:=Int×Int×Int
abbrev core(B:Br):Cr:=(B.number,B.life,B.count)
abbrev Yc.core(C:Yc)(b:Int):Option Cr:=(C.br.lookup b).map gF.core
abbrev Yc.tied(C:Yc)(b p:Int):Bool:=((C.br.lookup b).map λB=>(B.ties.lookup p).isSome).getD fe
abbrev Yc.std(C:Yc)(b:Int):Bool:=(C.br.lookup b).isSome
abbrev Zx(t:Tie)(b:Int):Bool:=gN (b=t.1)||gN (b=t.2.1)
abbrev inl(l:List Tie)(q:Int):Bool:=l.any λr=>gN (r.1=q)
abbrev inR(ts:List Tie)(q:Int):Bool:=gN (0<=q/\q<ts.length)
def AO{p f:Int}:core (tieF on p f c B)=core B:=by
 unfold tieF upB Oa;split
 .split<;>rfl
 .rfl
def KJ{p f:Int}:((tieF on p f c B).ties.lookup q).isSome=if q=p then on else(B.ties.lookup q).isSome:=by
 unfold tieF upB Oa;cases on with
 |true =>
  rw[gG rfl];split
  .rename_i h;split
   .rename_i e;rw[e];exact h
   .rfl
  .show((Zo B.ties p (f,c)).lookup q).isSome=_;rw[U9];by_cases e:q=p<;>simp[e]
 |false =>rw[gH<|by decide];show((Zg B.ties p).lookup q).isSome=_;rw[YU];by_cases e:q=p<;>simp[e]
def YK{p b:Int}:((C.set1 p).core b=C.core b)/\((C.set1 p).std b=C.std b):=by
 unfold Yc.set1 Ez Yc.core Yc.std;dsimp only;rw[Xx,Xx];cases C.br.lookup b with
 |none=>exact⟨rfl,rfl⟩
 |some B =>
  refine⟨?_,rfl⟩;have two:∀{q:Prop} [Decidable q] {a f c:Int}{A:Br},core (if q then tieF (onC C p) a f c A else A)=core A:=λ{q _ a f c A}=>by
   split
   .exact AO
   .rfl
  show eZ (core<|if b=(C.tie p).2.1 then tieF _ _ _ _ (if b=(C.tie p).1 then tieF _ _ _ _ B else B)else(if b=(C.tie p).1 then tieF _ _ _ _ B else B))=eZ (core B);rw[two,two]
def AW{p b:Int}(ŭ:(C.tie p).1≠(C.tie p).2.1):(C.set1 p).tied b q=if(gN (p=q)&&(Zx (C.tie p) b&&C.std b))=fc then onC C p else C.tied b q:=by
 unfold Yc.tied Yc.std Yc.set1 Ez Zx;dsimp only;rw[Xx,Xx];cases C.br.lookup b with
 |none=>simp
 |some B =>
  simp only[ķ,Option.getD_some,dh,Ś];by_cases e1:b=(C.tie p).1
  .have e2:¬ b=(C.tie p).2.1:=λz=>ŭ<|e1.symm.trans z;rw[gH e2,gG e1,KJ];by_cases e:q=p
   .subst e;simp[e1]
   .have e':¬ p=q:=λz=>e z.symm;simp[e,e']
  .by_cases e2:b=(C.tie p).2.1
   .rw[gG e2,gH e1,KJ];by_cases e:q=p
    .subst e;simp[e2]
    .have e':¬ p=q:=λz=>e z.symm;simp[e,e']
   .rw[gH e2,gH e1];simp[e1,e2]
def Xy:∀(l:List Tie) (C:Yc),(∀b,(C.sets l).core b=C.core b)/\(∀b,(C.sets l).std b=C.std b)/\(C.sets l).fallen=C.fallen/\(C.sets l).lives=C.lives/\(C.sets l).road=C.road/\(C.sets l).bs=C.bs/\(C.sets l).ts=C.ts
 |[],_=>⟨λ_=>rfl,λ_=>rfl,rfl,rfl,rfl,rfl,rfl⟩
 |r::l,C=>by let⟨h1,h2,h3,h4,h5,h6,h7⟩:=Xy l<|C.set1 r.1;exact⟨λb=>(h1 b).trans YK.1,λb=>(h2 b).trans YK.2,h3,h4,h5,h6,h7⟩
def O8{D:Yc}(h1:∀b,D.std b=C.std b)(h2:D.fallen=C.fallen)(h3:D.ts=C.ts)(q:Int):onC D q=onC C q:=by
 have e:D.tie q=C.tie q:=by unfold Yc.tie;rw[h3]
 unfold onC;rw[h2,e];have a:=h1 (C.tie q).1;have b:=h1 (C.tie q).2.1;unfold Yc.std at a b;rw[a,b]
def Me{b q:Int}:∀{l:List Tie}{C:Yc},(∀r∈l,(C.tie r.1).1≠(C.tie r.1).2.1)->(C.sets l).tied b q=if(inl l q&&(Zx (C.tie q) b&&C.std b))=fc then onC C q else C.tied b q
 |[],C,_=>rfl
 |r::l,C,h=>by
  have ih:=Me (b:=b) (q:=q) (l:=l) (C:=C.set1 r.1) λs hs=>h s<|Þ _ hs;have e1:=AW (C:=C) (p:=r.1) (b:=b) (q:=q)<|h r î;have eo:=O8 (C:=C) (D:=C.set1 r.1) (λb=>YK.2) rfl rfl q;have es:(C.set1 r.1).std b=C.std b:=YK.2;have et:(C.set1 r.1).tie q=C.tie q:=rfl;rw[et,es,eo,e1]at ih;show((C.set1 r.1).sets l).tied b q=_;rw[ih];unfold inl;rw[Ģ];by_cases e:r.1=q
  .subst e;cases (Zx (C.tie r.1) b&&C.std b)<;>cases (l.any λs=>gN (s.1=r.1))<;>simp
  .cases (Zx (C.tie q) b&&C.std b)<;>cases (l.any λs=>gN (s.1=q))<;>simp[e]
abbrev TI(C:Yc):Prop:=∀b q,C.tied b q=(C.std b&&(inR C.ts q&&(Zx (C.tie q) b&&onC C q)))
def Hl{l:List Tie}(ŭ:∀r∈l,(C.tie r.1).1≠(C.tie r.1).2.1)(hr:∀q,inl l q=fc->inR C.ts q=fc)(h0:∀b q,inl l q=fe->C.tied b q=(C.std b&&(inR C.ts q&&(Zx (C.tie q) b&&onC C q))))(h1:∀b q,inl l q=fc->C.tied b q=fc->(Zx (C.tie q) b&&C.std b)=fc):TI<|C.sets l:=by
 intro b q;let⟨s1,s2,s3,s4,s5,s6,s7⟩:=Xy l C;have et:(C.sets l).tie q=C.tie q:=by unfold Yc.tie;rw[s7]
 rw[Me ŭ,s2,s7,et,O8 s2 s3 s7];cases z:inl l q with
 |false=>rw[Δ,gH<|by decide];exact h0 b q z
 |true =>
  rw[hr q z];cases w:(Zx (C.tie q) b&&C.std b)with
  |true =>let⟨w1,w2⟩:=Ť.mp w;rw[w1,w2];rfl
  |false =>
   rw[gH<|by decide];have:C.tied b q=fe:=by
    cases y:C.tied b q with
    |false=>rfl
    |true=>rw[h1 b q z y]at w;cases w
   rw[this];cases w1:Zx (C.tie q) b with
   |false=>simp
   |true=>rw[w1,ŏ]at w;rw[w];rfl
def nbs_iff{b:Int}{r:Tie}:∀{l:List Tie}{k:Nat},r∈gy b k l↔∃i t,l[i]?=eZ t/\(b=t.1\/b=t.2.1)/\r=(((k+i:Nat):Int),far t b,t.2.2)
 |[],k=>⟨λh=>gM h (by simp[gy]),λ⟨i,t,h,_⟩=>by simp at h⟩
 |t::l,k=>by
  have later:r∈gy b (k+1) l↔∃i t',(t::l)[i+1]?=eZ t'/\(b=t'.1\/b=t'.2.1)/\r=(((k+(i+1):Nat):Int),far t' b,t'.2.2):=by rw[nbs_iff];simp only[cb,show ∀i,k+1+i=k+(i+1) from λi=>by lia]
  have now:(∃i t',(t::l)[i]?=eZ t'/\(b=t'.1\/b=t'.2.1)/\r=(((k+i:Nat):Int),far t' b,t'.2.2))↔((b=t.1\/b=t.2.1)/\r=((k:Int),far t b,t.2.2))\/r∈gy b (k+1) l:=by
   rw[later];constructor
   .rintro⟨i,t',h1,h2,h3⟩;cases i with
    |zero=>cases h1;exact .inl ⟨h2,h3⟩
    |succ i=>exact .inr ⟨i,t',h1,h2,h3⟩
   .rintro(⟨h2,h3⟩|⟨i,t',h1,h2,h3⟩)
    .exact⟨0,t,rfl,h2,h3⟩
    .exact⟨i+1,t',h1,h2,h3⟩
  rw[now];have un:gy b k (t::l)=if b=t.1\/b=t.2.1 then((k:Int),far t b,t.2.2)::gy b (k+1) l else gy b (k+1) l:=rfl;rw[un];split
  .rename_i hc;rw[Ç];constructor
   .rintro(h|h)
    .exact .inl ⟨hc,h⟩
    .exact .inr h
   .rintro(h|h)
    .exact .inl h.2
    .exact .inr h
  .rename_i hc;constructor
   .exact .inr
   .rintro(h|h)
    .exact gM h.1 hc
    .exact h
def IJ{b:Int}(h:(C.br.lookup b).isSome=fe):C.br.lookup b=fb:=by cases z:C.br.lookup b with|none=>rfl|some v=>rw[z]at h;cases h
def touch_iff{t:Tie}{b:Int}:Zx t b=fc↔b=t.1\/b=t.2.1:=by unfold Zx;simp
def Ws{x:Int}:inl (gy x 0 ts) q=(inR ts q&&Zx (ts[q.toNat]?.getD (0,0,0)) x):=by
 unfold inl inR;rw[ϛ,ŧ,bAq,gL,touch_iff];constructor
 .rintro⟨r,hr,e⟩;let⟨i,t,h1,h2,rfl⟩:=nbs_iff.mp hr;have e:((0+i:Nat):Int)=q:=of_decide_eq_true e;subst e;have hi:=(Î.mp h1).1;rw[Ϝ,à,h1];exact⟨⟨by lia,by lia⟩,h2⟩
 .rintro⟨⟨h0,h1⟩,h2⟩;obtain⟨i,rfl⟩:∃i:Nat,q=i:=⟨q.toNat,by lia⟩
  have hi:i<ts.length:=by lia
  rw[à,È hi]at h2;exact⟨(((0+i:Nat):Int),far ts[i] x,ts[i].2.2),nbs_iff.mpr ⟨i,ts[i],È hi,h2,rfl⟩,by simp⟩
def Jh{bs:List Int}(no:fG bs ts)(h:inR ts q=fc):LOk bs<|ts[q.toNat]?.getD (0,0,0):=by
 have h:=of_decide_eq_true h;have hi:q.toNat<ts.length:=by lia
 rw[È hi];exact no.tie _<|ı hi
def PZ{b:Int}(h:onC C q=fc)(t:Zx (C.tie q) b=fc):C.std b=fc:=by
 unfold onC at h;let⟨_,h⟩:=Ť.mp h;let⟨h1,h2⟩:=Ť.mp h;rcases touch_iff.mp t with e|e<;>rw[e]
 .exact h1
 .exact h2
def BO{C1:Yc}{l:List Tie}(ti:TI C)(ets:C1.ts=C.ts)(ŭ:∀r∈l,(C1.tie r.1).1≠(C1.tie r.1).2.1)(hr:∀q,inl l q=fc->inR C1.ts q=fc)(hon:∀q,inl l q=fe->inR C.ts q=fc->onC C1 q=onC C q)(ht:∀b q,C1.tied b q=(C1.std b&&C.tied b q)):TI<|C1.sets l:=by
 have et:∀q,C1.tie q=C.tie q:=λq=>by unfold Yc.tie;rw[ets]
 refine Hl ŭ hr (λb q z=>?_) λb q z y=>?_
 .rw[ht,ti,ets,et];cases w:inR C.ts q with
  |false=>simp
  |true =>
   rw[hon q z w];cases v:onC C q with
   |false=>simp
   |true =>
    cases u:Zx (C.tie q) b with
    |false=>simp
    |true=>rw[PZ v u];simp
 .rw[ht,ti,bAq,bAq,bAq,bAq]at y;rw[et,y.2.2.2.1,y.1];rfl
def Ed(b q:Int):C.tied b q=(C.std b&&C.tied b q):=by unfold Yc.tied Yc.std;cases C.br.lookup b<;>rfl
def KK{l:List (Int×α)}{x b:Int}{v:α}(h:l.lookup x=fb):(l++[(x,v)]).lookup b=if b=x then eZ v else l.lookup b:=by
 rw[ac];by_cases e:b=x
 .subst e;rw[h,gG rfl];simp
 .have:(b==x)=fe:=⇑e
  rw[gH e,â,this];simp
def A1{k:Int}{v:α}(n:q≠k):(Zo kvs k v).lookup q=kvs.lookup q:=by
 unfold Zo;split
 .rename_i h;clear h;induction kvs with
  |nil=>rfl
  |cons p r ih =>
   rw[É,â,â,ih];by_cases e:p.1=k
   .have e1:(q==k)=fe:=⇑n
    have e2:(q==p.1)=fe:=by rw[e];exact e1
    simp only[e,if_true,e1]
   .simp only[e,if_false]
 .have:(q==k)=fe:=⇑n
  rw[ac,â,this];simp
def CH{x:Int}(no:fG C.bs C.ts):∀r∈gy x 0 C.ts,(C.tie r.1).1≠(C.tie r.1).2.1:=λr hr=>by have h:=Jh (q:=r.1) no<|gK<|OO r hr;have:=h.2.2.1;unfold Yc.tie;lia
def DX{x:Int}(no:fG C.bs C.ts)(ti:TI C):TI<|Yc.sets {C with br:=Zg C.br x}<|gy x 0 C.ts:=by
 have st:∀b,(Zg C.br x).lookup b=if b=x then fb else C.br.lookup b:=λb=>YU;refine BO ti rfl (CH (C:={C with br:=Zg C.br x}) no) (λq z=>?_) (λq z w=>?_) λb q=>?_
 .rw[Ws,bAq]at z;exact z.1
 .rw[Ws,w,ŏ]at z;change Zx (C.tie q) x=fe at z;have n1:¬ (C.tie q).1=x:=λe=>by rw[touch_iff.mpr<|.inl e.symm]at z;cases z
  have n2:¬ (C.tie q).2.1=x:=λe=>by rw[touch_iff.mpr<|.inr e.symm]at z;cases z
  unfold onC;show(_&&(((Zg C.br x).lookup (C.tie q).1).isSome&&((Zg C.br x).lookup (C.tie q).2.1).isSome))=_;rw[st,st,gH n1,gH n2]
 .unfold Yc.tied Yc.std;dsimp only;rw[st];by_cases e:b=x
  .rw[gG e];rfl
  .rw[gH e];cases C.br.lookup b<;>rfl
def Dk{x l:Int}(no:fG C.bs C.ts)(ti:TI C)(hx:C.br.lookup x=fb){lv:List (Int×Int)}:TI<|Yc.sets {C with lives:=lv,br:=C.br++[(x,ZD x l C.most [])]}<|gy x 0 C.ts:=by
 have st:∀b,(C.br++[(x,ZD x l C.most [])]).lookup b=if b=x then eZ (ZD x l C.most [])else C.br.lookup b:=λb=>KK hx;refine BO ti rfl (CH (C:={C with lives:=lv,br:=C.br++[(x,ZD x l C.most [])]}) no) (λq z=>?_) (λq z w=>?_) λb q=>?_
 .rw[Ws,bAq]at z;exact z.1
 .rw[Ws,w,ŏ]at z;change Zx (C.tie q) x=fe at z;have n1:¬ (C.tie q).1=x:=λe=>by rw[touch_iff.mpr<|.inl e.symm]at z;cases z
  have n2:¬ (C.tie q).2.1=x:=λe=>by rw[touch_iff.mpr<|.inr e.symm]at z;cases z
  unfold onC;show(_&&(((C.br++[(x,ZD x l C.most [])]).lookup (C.tie q).1).isSome&&((C.br++[(x,ZD x l C.most [])]).lookup (C.tie q).2.1).isSome))=_;rw[st,st,gH n1,gH n2]
 .unfold Yc.tied Yc.std;dsimp only;rw[st];by_cases e:b=x
  .rw[gG e,e,hx];rfl
  .rw[gH e];cases C.br.lookup b<;>rfl
def Io{p:Int}{fl:List (Int×Bool)}(no:fG C.bs C.ts)(ti:TI C)(hp:inR C.ts p=fc)(hf:∀q,q≠p->(fl.lookup q).isSome=(C.fallen.lookup q).isSome):TI<|Yc.set1 {C with fallen:=fl} p:=by
 have il:∀q,inl [(p,0,0)] q=gN (p=q):=λq=>by unfold inl;simp
 refine BO (C1:={C with fallen:=fl}) (l:=[(p,0,0)]) ti rfl (λr hr=>?_) (λq z=>?_) (λq z w=>?_) λb q=>Ed b q
 .rw[ß.mp hr];have:=(Jh no hp).2.2.1;show(C.tie p).1≠(C.tie p).2.1;unfold Yc.tie;lia
 .rw[il]at z;rw[<-of_decide_eq_true z];exact hp
 .rw[il]at z;unfold onC;show(!(fl.lookup q).isSome&&_)=_;rw[hf q λe=>of_decide_eq_false z e.symm];rfl
def NF{α:Type}{f:Int->α}{b:Int}:∀{bs:List Int},(bs.map λb=>(b,f b)).lookup b=if b∈bs then eZ (f b)else fb
 |[]=>rfl
 |x::bs=>by
  rw[É,â,NF (bs:=bs)];by_cases e:b=x
  .subst e;simp
  .have:(b==x)=fe:=⇑e
   rw[this];simp[e]
structure Wk(C:Yc)(gone cut:List Int):Prop where
 st:∀b,C.std b=gN (b∈C.bs/\b∉gone)
 fa:∀q,(C.fallen.lookup q).isSome=gN (q∈cut)
 ti:TI C
def Ft{bs:List Int}(no:fG bs ts):Wk (WM bs ts most) [] []:=by
 have lk:∀b,(WM bs ts most).br.lookup b=if b∈bs then eZ (ZD b 0 most<|gy b 0 ts)else fb:=λb=>NF;have st:∀b,(WM bs ts most).std b=gN (b∈bs):=λb=>by unfold Yc.std;rw[lk];by_cases h:b∈bs<;>simp[h]
 refine⟨λb=>(st b).trans<|decide_eq_decide.mpr ⟨λh=>⟨h,Ó⟩,λh=>h.1⟩,λ_=>rfl,λb q=>?_⟩;have on:inR ts q=fc->onC (WM bs ts most) q=fc:=λh=>by let⟨h1,h2,_⟩:=Jh no h;have a:=st ((WM bs ts most).tie q).1;have c:=st ((WM bs ts most).tie q).2.1;unfold Yc.std at a c;unfold onC;rw[a,c,gK (show((WM bs ts most).tie q).1∈bs from h1),gK<|show((WM bs ts most).tie q).2.1∈bs from h2];rfl
 rw[st];unfold Yc.tied;rw[lk];by_cases h:b∈bs
 .rw[gG h,gK h];show((XG<|gy b 0 ts).lookup q).isSome=(fc&&(inR ts q&&(Zx (ts[q.toNat]?.getD (0,0,0)) b&&_)))
  have e:((XG<|gy b 0 ts).lookup q).isSome=inl (gy b 0 ts) q:=by rw[look_iff,M1,ϛ];unfold inl;rw[ŧ,gL,Û];exact⟨λ⟨r,h1,h2⟩=>⟨r,h1,⇑h2⟩,λ⟨r,h1,h2⟩=>⟨r,h1,⇑h2⟩⟩
  rw[e,Ws,ŏ];cases z:inR ts q with
  |false=>rfl
  |true=>rw[on z,Ś]
 .rw[gH h,gJ h];rfl
section
variable {C D:Yc}{gone cut:List Int}{N:Nat}{b p:Int}
def Wk.keep(w:Wk C gone cut)(h1:D.bs=C.bs)(h2:D.ts=C.ts)(h3:D.fallen=C.fallen)(h4:∀b,(D.br.lookup b).map Br.ties=(C.br.lookup b).map Br.ties):Wk D gone cut:=by
 have es:∀b,D.std b=C.std b:=λb=>by
  have:=congrArg Option.isSome<|h4 b
  rwa [Ŵ,Ŵ]at this
 refine⟨λb=>by rw[es,h1];exact w.st b,λq=>by rw[h3];exact w.fa q,λb q=>?_⟩;have et:D.tied b q=C.tied b q:=by have:=congrArg (λo:Option (List<|Int×(Int×Int))=>(o.map λl=>(l.lookup q).isSome).getD fe)<|h4 b;rw[Ϡ,Ϡ]at this;exact this
 rw[et,es,h2,O8 es h3 h2,show D.tie q=C.tie q by unfold Yc.tie;rw[h2]];exact w.ti b q
def UL{k:Int}{l:List (Int×Br)}(hF:∀B,(F B).ties=B.ties)(b:Int):((upC k F l).lookup b).map Br.ties=(l.lookup b).map Br.ties:=by
 rw[Xx,Ϡ];cases l.lookup b with
 |none=>rfl
 |some B =>
  show eZ (if b=k then F B else B).ties=eZ B.ties;split
  .rw[hF]
  .rfl
def Wk.tick(w:Wk C gone cut)(s:step C (.tick b)=eZ D):Wk D gone cut/\∃B,C.br.lookup b=eZ B/\D.road.length=C.road.length+B.ties.length:=by let⟨B,hB,rfl⟩:=Í.mp s;have ht:∀A:Br,A.told.ties=A.ties:=λA=>(Yn A.grown<|Yy A.grown).2.1;refine⟨w.keep rfl rfl rfl<|UL λA=>ht A,B,hB,?_⟩;show(C.road++Z4 C.ts b B.told).length=_;unfold Z4 sortI;rw[è,Ã,ń,Ã,ht]
def Wk.road(w:Wk C gone cut)(s:step C (.come p)=eZ D\/step C (.lost p)=eZ D):Wk D gone cut/\D.road.length+1=C.road.length:=by
 rcases s with s|s
 .replace s:(if p<0 then fb else(C.road[p.toNat]?).map λr=>({C with br:=upC r.2.1 (ZW · r.2.2.1 r.2.2.2) C.br,road:=C.road.eraseIdx p.toNat}:Yc))=eZ D:=s
  split at s
  .cases s
  .obtain⟨r,hr,rfl⟩:=Í.mp s;have:=(Î.mp hr).1;exact⟨w.keep rfl rfl rfl (UL (F:=(ZW · r.2.2.1 r.2.2.2)) λA=>by unfold ZW;split<;>(try split)<;>rfl),by show(C.road.eraseIdx p.toNat).length+1=_;rw[ţ this];lia⟩
 .replace s:(if p<0 then fb else(C.road[p.toNat]?).map λr=>({C with road:=C.road.eraseIdx p.toNat}:Yc))=eZ D:=s
  split at s
  .cases s
  .obtain⟨r,hr,rfl⟩:=Í.mp s;have:=(Î.mp hr).1;exact⟨w.keep rfl rfl rfl λ_=>rfl,by show(C.road.eraseIdx p.toNat).length+1=_;rw[ţ this];lia⟩
def Od{p:Prop}[Decidable p]{a b:α}(h:(if p then eZ a else fb)=eZ b):p/\a=b:=by
 split at h
 .rename_i z;exact⟨z,ï h⟩
 .cases h
def Wk.fallB(w:Wk C gone cut)(g:C.gd N)(s:step C (.fallB b)=eZ D):Wk D (gone++[b]) cut/\D.road=C.road:=by
 let⟨_,rfl⟩:=Od s;let⟨s1,s2,s3,s4,s5,s6,s7⟩:=Xy (gy b 0 C.ts) {C with br:=Zg C.br b};refine⟨⟨λc=>?_,λq=>by rw[s3];exact w.fa q,DX g.no w.ti⟩,s5⟩;rw[s2,s6];have:=w.st c;unfold Yc.std at this ⊢;dsimp only;rw[YU];by_cases e:c=b
 .rw[gG e];symm;simp[e]
 .rw[gH e,this];simp[e]
def Wk.backB(w:Wk C (gone++[b]) cut)(g:C.gd N)(hb:b∈C.bs)(hn:b∉gone)(s:step C (.backB b)=eZ D):Wk D gone cut/\D.road=C.road:=by
 replace s:(if(C.br.lookup b).isSome then fb else(C.lives.lookup b).map λl=>Yc.sets {C with lives:=Zo C.lives b<|l+1,br:=C.br++[(b,ZD b (l+1) C.most [])]}<|gy b 0 C.ts)=eZ D:=s
 split at s
 .cases s
 .rename_i hz;let⟨l,hl,rfl⟩:=Í.mp s;have hx:C.br.lookup b=fb:=η.mp hz;let⟨s1,s2,s3,s4,s5,s6,s7⟩:=Xy (gy b 0 C.ts) {C with lives:=Zo C.lives b<|l+1,br:=C.br++[(b,ZD b (l+1) C.most [])]};refine⟨⟨λc=>?_,λq=>by rw[s3];exact w.fa q,Dk g.no w.ti hx⟩,s5⟩;rw[s2,s6];have:=w.st c;unfold Yc.std at this ⊢;dsimp only;rw[KK hx];by_cases e:c=b
  .rw[gG e,e];symm;simp[hb,hn]
  .rw[gH e,this];simp[e]
def Wk.fallT(w:Wk C gone cut)(g:C.gd N)(s:step C (.fallT p)=eZ D):Wk D gone (cut++[p])/\D.road=C.road:=by
 let⟨hp,rfl⟩:=Od s;have hr:inR C.ts p=fc:=gK hp.1;refine⟨⟨λc=>?_,λq=>?_,Io (fl:=Zo C.fallen p fc) g.no w.ti hr λq hq=>by rw[A1 hq]⟩,rfl⟩
 .rw[YK.2];exact w.st c
 .show((Zo C.fallen p fc).lookup q).isSome=_;rw[U9,w.fa];by_cases e:q=p<;>simp[e]
abbrev MM(ts:List Tie)(gone cut:List Int)(b:Int)(p:Nat):Bool:=Zx (ts[p]?.getD (0,0,0)) b&&(!gN ((p:Int)∈cut)&&(!gN ((ts[p]?.getD (0,0,0)).1∈gone) && !gN ((ts[p]?.getD (0,0,0)).2.1∈gone)))
abbrev cnt(ts:List Tie)(gone cut:List Int)(b:Int)(m:Nat):Nat:=((List.range m).filter<|MM ts gone cut b).length
def HY{m:Nat}:cnt ts gone cut b (m+1)=cnt ts gone cut b m+if MM ts gone cut b m then 1 else 0:=by unfold cnt;rw[aY,Θ,è,þ,ϝ];split<;>rfl
def Wk.cnt(w:Wk C gone cut)(g:C.gd N)(hB:C.br.lookup b=eZ B):B.ties.length=gF.cnt C.ts gone cut b C.ts.length:=by
 have ok:=(g.ok _<|Zn hB).ok;have nd2:(((List.range C.ts.length).filter<|MM C.ts gone cut b).map λi:Nat=>(i:Int)).Nodup:=List.Pairwise.map _ (λa b h=>by lia)<|(List.nodup_range).sublist Ļ;have pm:(B.ties.map (·.1)).Perm (((List.range C.ts.length).filter<|MM C.ts gone cut b).map λi:Nat=>(i:Int)):=(bz ok.nt nd2).mpr λq=>by
  have t:=w.ti b q;have e1:C.tied b q=(B.ties.lookup q).isSome:=by unfold Yc.tied;rw[hB];rfl
  have e2:C.std b=fc:=by unfold Yc.std;rw[hB];rfl
  rw[e1,e2,ŏ]at t;have hk:q∈B.ties.map (·.1)↔(B.ties.lookup q).isSome=fc:=by rw[look_iff];simp
  rw[hk,t,bAq];have on:inR C.ts q=fc->onC C q=(!gN (q∈cut)&&(!gN ((C.tie q).1∈gone) && !gN ((C.tie q).2.1∈gone))):=λh=>by let⟨h1,h2,_⟩:=Jh g.no h;have a:=w.st (C.tie q).1;have c:=w.st (C.tie q).2.1;unfold Yc.std at a c;unfold onC;rw[w.fa,a,c];congr 1;have m1:(C.tie q).1∈C.bs:=h1;have m2:(C.tie q).2.1∈C.bs:=h2;simp[m1,m2]
  constructor
  .rintro⟨z1,z2⟩;rw[on z1]at z2;obtain⟨r0,r1⟩:0<=q/\q<C.ts.length:=of_decide_eq_true z1;refine Û.mpr ⟨q.toNat,ø.mpr ⟨Ÿ.mpr (by lia),?_⟩,by lia⟩;unfold MM;rw[show((q.toNat:Nat):Int)=q by lia];exact z2
  .intro hq;let⟨i,hi,rfl⟩:=Û.mp hq;let⟨h1,h2⟩:=ø.mp hi;have h1:=Ÿ.mp h1;have z1:inR C.ts (i:Int)=fc:=gK (by lia);refine⟨z1,?_⟩;rw[on z1];unfold MM at h2;have:C.tie (i:Int)=C.ts[i]?.getD (0,0,0):=by unfold Yc.tie;rw[à]
   rw[this];exact h2
 have:=pm.length_eq;rw[Ã,Ã]at this;exact this
end
def Mz{α:Type}{f g:α->Nat}:∀l:List α,(l.map λx=>f x+g x).sum=(l.map f).sum+(l.map g).sum
 |[]=>rfl
 |x::l=>by rw[É,É,É,ι,ι,ι,Mz l];lia
def NB:∀l:List Int,(l.map λ_=>0).sum=0
 |[]=>rfl
 |_::l=>by rw[É,ι,NB l]
def BJ{x:Int}:∀{l:List Int},x∉l->(l.map λb=>if b=x then 1 else 0).sum=0
 |[],_=>rfl
 |y::l,h=>by rw[Ç,not_or]at h;rw[É,ι,BJ h.2,gH λe=>h.1 e.symm]
def Mx{x:Int}:∀{l:List Int},l.Nodup->x∈l->(l.map λb=>if b=x then 1 else 0).sum=1
 |y::l,nd,h=>by
  rw[ć]at nd;rw[É,ι];by_cases e:y=x
  .rw[gG e,BJ<|e▸nd.1]
  .rw[gH e,Mx nd.2<|(Ç.mp h).resolve_left λz=>e z.symm]
def Uw{bs:List Int}{ts:List Tie}(no:fG bs ts):∀m,m<=ts.length->(bs.map λb=>cnt ts [] [] b m).sum=2*m
 |0,_=>by rw[show(λb=>cnt ts [] [] b 0)=λ_:Int=>0 from rfl];exact NB bs
 |m+1,hm=>by
  have ih:=Uw no m (by lia);have ht:ts[m]?.getD (0,0,0)∈ts:=by rw[È (by lia:m<ts.length)];exact ı _
  let⟨h1,h2,h3,_⟩:=no.tie _ ht;have nd:bs.Nodup:=no.up.imp λh=>by lia
  have e:(λb=>cnt ts [] [] b<|m+1)=λb=>cnt ts [] [] b m+((if b=(ts[m]?.getD (0,0,0)).1 then 1 else 0)+(if b=(ts[m]?.getD (0,0,0)).2.1 then 1 else 0)):=by
   funext b;rw[HY];congr 1;unfold MM Zx;by_cases e1:b=(ts[m]?.getD (0,0,0)).1
   .have:¬ b=(ts[m]?.getD (0,0,0)).2.1:=λz=>by lia
    simp[e1,show ¬ (ts[m]?.getD (0,0,0)).1=(ts[m]?.getD (0,0,0)).2.1 by lia]
   .simp[e1]
  rw[e,Mz,Mz,ih,Mx nd h1,Mx nd h2];lia
abbrev isS:Val->Bool
 |.str _=>fc
 |_=>fe
abbrev isI:Val->Bool
 |.int _=>fc
 |_=>fe
abbrev isT:Val->Bool
 |.tup _=>fc
 |_=>fe
abbrev Kn(h:Hs)(v:Val):Prop:=∃t,gD h v=eZ t/\(t == "str")=isS v/\(t == "tuple")=isT v/\((t == "int" || t == "bool") && !(t == "bool"))=isI v
def kn_int{i:Int}:Kn h<|.int i:=⟨_,rfl,rfl,rfl,rfl⟩
def kn_str{s:String}:Kn h<|.str s:=⟨_,rfl,rfl,rfl,rfl⟩
def kn_bl{b:Bool}:Kn h<|.bl b:=⟨_,rfl,rfl,rfl,rfl⟩
def kn_non:Kn h .non:=⟨_,rfl,rfl,rfl,rfl⟩
def kn_tup{xs:List Val}:Kn h<|.tup xs:=⟨_,rfl,rfl,rfl,rfl⟩
def YB{xs:List Val}(e:h a=eZ (.lst xs)):Kn h<|.ref a:=⟨"list",by unfold gD;dsimp only;rw[e],rfl,rfl,rfl⟩
def M7{kvs:List (Val×Val)}(e:h a=eZ (.dct kvs)):Kn h<|.ref a:=⟨"dict",by unfold gD;dsimp only;rw[e],rfl,rfl,rfl⟩
def Kn.ext{v:Val}(k:Kn h v)(x:Ext h g):Kn g v:=by
 let⟨t,e,r⟩:=k;refine⟨t,?_,r⟩;cases v with
 |ref a =>
  unfold gD at e ⊢;dsimp only at e ⊢;cases z:h a with
  |none=>rw[z]at e;cases e
  |some o=>rw[x.get z];rw[z]at e;exact e
 |_=>exact e
abbrev Aw:List Val->List String
 |[]=>[]
 |.str s::r=>s::Aw r
 |_::r=>Aw r
def BK:∀{xs:List Val},xs.all isS=fc->xs=(Aw xs).map .str
 |[],_=>rfl
 |x::r,h=>by
  rw[List.all_cons,bAq]at h;cases x with
  |str s=>rw[Aw,É,<-BK h.2]
  |_=>cases h.1
abbrev Lx(xs:List Val):Bool:=!(xs.dropLast.all isS)||(!gN (Aw xs.dropLast∈wordsL) || !isI (xs.getLast?.getD .non))
inductive BadV (h:Hs):Val->Prop
 |no {v:Val}(k:Kn h v) (t:isT v=fe):BadV h v
 |ws {xs:List Val}(l:xs.length<=4) (k:∀x∈xs,Kn h x) (b:Lx xs=fc):BadV h<|.tup xs
def BadV.ext{v:Val}(b:BadV h v)(x:Ext h g):BadV g v:=by
 cases b with
 |no k t=>exact .no (k.ext x) t
 |ws l k b=>exact .ws l (λy hy=>(k y hy).ext x) b
def P6(xs:List α):cut xs fb (eZ (-1))=xs.dropLast:=by unfold cut fR;dsimp only;rw[gH (by decide),bx,cN,List.dropLast_eq_take];congr 1;lia
def QZ(h:xs.getLast?=eZ x):atI xs (-1)=eZ x:=by
 have hl:xs.length≠0:=λz=>by rw[Ϗ.mp z]at h;cases h
 unfold atI ixN;rw[gH (by decide),gG (by lia),ð,show((-1:Int)+(xs.length:Nat)).toNat=xs.length - 1 by lia,<-List.getLast?_eq_getElem?];exact h
def NM{h:Hs}{n:Nat}:∀ws:List String,(ws.map Val.str).mapM (dat h n)=eZ (ws.map D.str)
 |[]=>rfl
 |w::ws=>by rw[É,Ĉ,NM ws];cases n<;>rfl
def Jm:∀l m:List String,D.eqvs (l.map D.str) (m.map D.str)=gN (l=m)
 |[],[]=>rfl
 |[],_::_=>by simp[D.eqvs]
 |_::_,[]=>by simp[D.eqvs]
 |a::l,b::m=>by rw[É,É,D.eqvs,Dv,Jm l m];by_cases h1:a=b<;>by_cases h2:l=m<;>simp[h1,h2]
def Eu{ws:List String}:fB h .notin (.tup<|ws.map .str) (.tup<|wordsL.map λl=>.tup<|l.map .str)=eZ (!gN (ws∈wordsL)):=by
 have e1:dat h deep (.tup<|ws.map .str)=eZ (.tup<|ws.map D.str):=by show((ws.map Val.str).mapM<|dat h 11).map D.tup=_;rw[NM];rfl
 have e2:(wordsL.map λl=>Val.tup<|l.map .str).mapM (dat h<|deep - 1)=eZ (wordsL.map λl=>D.tup<|l.map D.str):=rfl;show(inL h (.tup<|ws.map .str)<|wordsL.map λl=>.tup<|l.map .str).map (!·)=_;unfold inL;rw[e1,ð,e2];show eZ (!((wordsL.map λl=>D.tup<|l.map D.str).any λe=>D.eqv e<|.tup<|ws.map D.str))=_;congr 2;rw[List.any_map,ϛ,ŧ,gL];constructor
 .rintro⟨l,hl,e⟩;have e:D.eqvs (l.map D.str) (ws.map D.str)=fc:=by simpa[D.eqv]using e
  rw[Jm,gL]at e;exact e▸hl
 .intro hw;exact⟨ws,hw,by show D.eqv (.tup _) (.tup _)=fc;rw[D.eqv,Jm];simp⟩
def P5{c:String}{Ts:List String}(e:h a=eZ (.exc c))(q:Q (.bl<|Ts.any<|gm c) h):(biV h (.isx Ts) [.ref a]).wp h Q:=wp_val (by show Rs.ofO ((excOf<|h a).map _)=_;rw[e];rfl) q
abbrev Rf(h:Hs)(C:Yc)(v:Val):Prop:=BadV h v\/∃d:Dd,v=d.v/\step C d=fb
def Rf.ext{v:Val}(r:Rf h C v)(x:Ext h g):Rf g C v:=r.imp (·.ext x) id
section
variable {Y:Yd}{N:Nat}{C:Yc}
def UT{v:Val}{T:String}{c t:String}(e:gD h v=eZ t)(q:Q (.bl<|t==T||(t == "bool" && T == "int")) h):(biV h (.isi [T]) [v]).wp h Q:=RE (by show isiAny h v [T]=_;unfold isiAny isiAny gE;rw[e];simp) q
def Du{v:Val}(kn:Kn h v)(k:Q (.bl<|isI v) h):wF P (n+1) "is_whole" [v] h Q X:=by
 let⟨t,e,_,_,e3⟩:=kn;refine JY ?_
 exists UT (c:="") e
 refine' gg (λhc=>?_) (λhc=>?_)
 .exists UT (c:="") e
  fail;have:(!(t == "bool" || (t == "bool" && "bool" == "int")))=isI v:=by rw[<-e3];have hc:(t == "int" || (t == "bool" && "int" == "int"))=fc:=hc;simp only[show("bool" == "int")=fe from rfl,show("int" == "int")=fc from rfl,Ś,Ž,θ]at hc ⊢;rw[hc,ŏ]
  rw[this];exact k
 .have:isI v=fe:=by
   rw[<-e3];have hc:(t == "int" || (t == "bool" && "int" == "int"))=fe:=hc;simp only[show("int" == "int")=fc from rfl,Ś]at hc;rw[hc];rfl
  rw[this]at k;exact k
def DT{v:Val}(b:BadV h v)(k:∀g,Ext h g->X "NoDeed" g):wF P (n+2) "read_deed" [v] h Q X:=by
 refine WQ ?_;cases b with
 |no kn t =>
  let⟨t',e,_,e2,_⟩:=kn
  exists UT (c:="") e
  rw[show(t' == "tuple" || (t' == "bool" && "tuple" == "int"))=fe by rw[e2,t,show("tuple" == "int")=fe from rfl,Ž];rfl];walk_at "p";exact k h .refl
 |ws hl kn hb =>
  rename_i xs;walk_at "p";refine GH ?_;rw[P6];have hdl:xs.dropLast.length<=4:=by rw[List.length_dropLast];lia
  have kd:∀x∈xs.dropLast,Kn h x:=λx hx=>kn x<|List.dropLast_subset _ hx;refine' ⟨Ü hdl (by decide),Yg (λv=>eZ<|.bl<|isS v) trivial (λv hv K hK=>?_) ?_⟩
  .obtain⟨t,e,e1,_⟩:=kd v hv;walk_at "p";refine UT (c:="") e ?_;rw[show(t == "str" || (t == "bool" && "str" == "int"))=isS v by rw[show("str" == "int")=fe from rfl,Ž,θ,e1]];exact hK
  rw[show xs.dropLast.filterMap (λv=>eZ<|Val.bl<|isS v)=(xs.dropLast.map isS).map Val.bl by rw[ü];exact congrFun (ϗ (f:=λv=>Val.bl<|isS v)) _];refine Zc λp1 g1 bE x1 e1=>?_
  exists ET e1 (XR _)
  rw[show(xs.dropLast.map isS).all id=xs.dropLast.all isS by rw[List.all_map];rfl];fail;unfold Lx at hb;cases za:xs.dropLast.all isS with
  |false =>walk_at "p";exact k g1 x1
  |true =>
   rw[za,bY,Ϸ]at hb;walk_at "p";have ew:=BK za;rw[ew];refine fk Eu ?_;fail;cases zb:gN (Aw xs.dropLast∈wordsL)with
   |false =>walk_at "p";exact k g1 x1
   |true =>
    rw[zb,bY,Ϸ]at hb;walk_at "p";cases zl:xs.getLast? with
    |none =>rw[List.getLast?_eq_none_iff.mp zl]at zb;exact gM zb (by decide)
    |some y =>
     rw[zl]at hb;have hy:isI y=fe:=⇑hb
     refine fm (QZ zl) ?_
     exists Du ((kn y<|List.mem_of_getLast? zl).ext x1)
     rw[hy];walk_at "p";exact k g1 x1
def ZC{v:Val}(x:fw h Y)(gd:Y.cc.gd N)(hN:N<=6000)(r:Rf h Y.cc v)(k:∀g,Ext h g->Q (.bl fc) g):wF P (n+7) "_law_refused" [.ref Y.y,v] h Q X:=by
 have xi:=x.ins;have fin:∀g,Ext h g->wH (wF P<|n+6) (.cons "ShutError" (eZ 3) #[.set (.one 2)<|.var 3] .nil) "NoDeed" [eZ<|.ref Y.y,eZ v,eZ .non,fb] g (λe g=>wSs (wF P<|n+6) #[.ite (.val<|.bi (.isx ["NoCommand","NoFrame","NoLetter","NoLine","NoNet","NoOrder"]) #[.var 2]) #[.ret<|.cst<|.bl fe] .nil,.ret<|.and (.bi (.isx ["NoDeed"]) #[.var 2])<|.bi (.isx ["ValueError"]) #[.var 2]] e g (λ_ g=>Q .non g) Q (λ_ _=>False) (λ_ _=>False) λ_ c g=>X c g) Q (λ_ _=>False) (λ_ _=>False):=λg xg=>by
  refine IY (by decide) λp hp=>?_;have xp:Ext h<|upd g p<|.exc "NoDeed":=xg.trans<|Ext.new hp;have ep:upd g p (.exc "NoDeed") p=eZ (.exc "NoDeed"):=fh;generalize upd g p (.exc "NoDeed")=g1 at ep xp;fail
  exists P5 ep
  walk_at "p";walk_at "p";refine P5 ep ?_;walk_at "p";walk_at "p";refine P5 ep ?_;walk_at "p";walk_at "p";exact k _ xp
 refine Km ?_;fail;rcases r with b|⟨d,rfl,sn⟩
 .refine WT ?_;refine' DT b λg xg=>fin g xg
 .exact Z9 x gd hN (λY' g' s _=>by rw[sn]at s;cases s) λg' _ _ xg=>fin g' xg
end
def ND{bs:List Int}{K:Val->Prop}(q:K<|.tup<|bs.map .int):go (fU h (ZH bs ts)<|.int 0) K:=fk rfl q
def Mq{bs:List Int}{K:Val->Prop}(q:K<|.tup<|ts.map trV):go (fU h (ZH bs ts)<|.int 1) K:=fk rfl q
section
variable {C:Yc}{N:Nat}{b p:Int}{gone cut:List Int}
def Z0(h:p<0\/(C.road.length:Int)<=p):step C (.come p)=fb/\step C (.lost p)=fb:=by
 have e:p<0\/C.road[p.toNat]?=fb:=h.imp id λh=>ĭ (by lia);dsimp only[step];rcases e with e|e
 .exact⟨gG e,gG e⟩
 .rw[e];exact⟨by split<;>rfl,by split<;>rfl⟩
def Z6(h:C.std b=fe):step C (.tick b)=fb/\step C (.fallB b)=fb:=by have e:C.br.lookup b=fb:=IJ h;dsimp only[step];rw[e];exact⟨rfl,rfl⟩
def X8(g:C.gd N)(h:C.std b=fc\/b∉C.bs):step C (.backB b)=fb:=by
 dsimp only[step];rcases h with h|h
 .exact gG h
 .split
  .rfl
  .cases z:C.lives.lookup b with
   |none=>rfl
   |some v=>exact gM (by rw[<-g.lv];exact ú (f:=(·.1))<|Zn z) h
def Xq(h:(p<0\/(C.ts.length:Int)<=p)\/(C.fallen.lookup p).isSome=fc):step C (.fallT p)=fb:=by
 dsimp only[step];refine gH λz=>?_;rcases h with h|h
 .lia
 .rw[z.2]at h;cases h
def Wg(h:(C.fallen.lookup p).isSome=fe):step C (.backT p)=fb:=by dsimp only[step];rw[h];rfl
def OB(g:C.gd N)(h:p<0\/(C.ts.length:Int)<=p):(C.fallen.lookup p).isSome=fe:=by
 cases z:C.fallen.lookup p with
 |none=>rfl
 |some v=>have:=g.fr _<|Zn z;dsimp only at this;lia
def CN(g:C.gd N)(h:b<0\/1000<=b):C.std b=fe/\b∉C.bs:=by
 have hb:b∉C.bs:=λz=>by have:=g.no.rng b z;lia
 refine⟨?_,hb⟩;cases z:C.std b with
 |false=>rfl
 |true=>exact gM (keys_sub.mp g.sub b<|keys_look.mp z) hb
end
abbrev Rfs(h:Hs)(C:Yc)(xs:List Val):Prop:=∀v∈xs,Rf h C v
def Rfs.ext{xs:List Val}(r:Rfs h C xs)(x:Ext h g):Rfs g C xs:=λv hv=>(r v hv).ext x
def rf_nil:Rfs h C []:=λ_ hv=>gM hv Ó
def rf_cons{v:Val}{xs:List Val}(a:Rf h C v)(b:Rfs h C xs):Rfs h C<|v::xs:=λu hu=>(Ç.mp hu).elim (λe=>e▸a) (b u)
def kn_nil:∀x∈([]:List Val),Kn h x:=λ_ hv=>gM hv Ó
def kn_cons{v:Val}{xs:List Val}(a:Kn h v)(b:∀x∈xs,Kn h x):∀x∈v::xs,Kn h x:=λu hu=>(Ç.mp hu).elim (λe=>e▸a) (b u)
abbrev Th(h:Hs)(v:Val):Prop:=(Kn h v/\isI v=fe)\/v=.int (-1)
def N1{v:Val}(g:C.gd N)(t:Th h v)(ws:List String)(hw:ws∈wordsL):Rf h C<|.tup<|ws.map .str++[v]:=by
 rcases t with⟨k,i⟩|rfl
 .refine .inl (.ws ?_ (λx hx=>?_) ?_)
  .simp only[wordsL,Ç,Ó,or_false]at hw;rcases hw with rfl|rfl|rfl|rfl|rfl|rfl|rfl<;>exact į rfl
  .rcases å.mp hx with hx|hx
   .obtain⟨s,_,rfl⟩:=Û.mp hx;exact kn_str
   .rw[ß.mp hx];exact k
  .unfold Lx;rw[List.getLast?_append];simp[i]
 .have e:=CN g (b:=-1) (.inl<|by decide);simp only[wordsL,Ç,Ó,or_false]at hw;rcases hw with rfl|rfl|rfl|rfl|rfl|rfl|rfl
  .exact .inr ⟨.tick (-1),rfl,(Z6 e.1).1⟩
  .exact .inr ⟨.come (-1),rfl,(Z0<|.inl<|by decide).1⟩
  .exact .inr ⟨.lost (-1),rfl,(Z0<|.inl<|by decide).2⟩
  .exact .inr ⟨.fallB (-1),rfl,(Z6 e.1).2⟩
  .exact .inr ⟨.fallT (-1),rfl,Xq<|.inl<|.inl<|by decide⟩
  .exact .inr ⟨.backB (-1),rfl,X8 g<|.inr e.2⟩
  .exact .inr ⟨.backT (-1),rfl,Wg<|OB g<|.inl<|by decide⟩
section
variable {Y:Yd}{N:Nat}{C:Yc}
variable {ys:List Val}
def EC{xs:List Val}(ea:h a=eZ (.lst xs))(eb:h b=eZ (.lst ys))(hx:Rfs h C xs)(hy:Rfs h C ys)(l:xs.length+ys.length<=500)(q:∀p g zs,h p=fb->Ext h g->g p=eZ (.lst zs)->Rfs g C zs->zs.length=xs.length+ys.length->Q (.ref p) g):(binV h .add (.ref a)<|.ref b).wp h Q :=
 D3 ea eb (by rw[è];exact Ý l<|by decide) (Zc λp g hp x e=>q p g _ hp x e (λv hv=>by
   rcases å.mp hv with hv|hv
   . exact(hx v hv).ext x
   . exact(hy v hv).ext x) è)
local macro_rules | `(tactic| walk_at "kn")=>`(tactic| first | exact kn_int | exact kn_str | exact kn_bl | exact kn_non | exact kn_tup | assumption)
local macro_rules | `(tactic| walk_at "rf")=>`(tactic| (repeat first | exact rf_nil | refine rf_cons (by first | exact .inr ⟨.come _,rfl,by assumption⟩ | exact .inr ⟨.lost _,rfl,by assumption⟩ | exact .inr ⟨.fallT _,rfl,by assumption⟩ | exact .inr ⟨.backT _,rfl,by assumption⟩ | exact .inr ⟨.backB _,rfl,by assumption⟩ | exact .inl (.ws (į rfl) (by repeat (first | exact kn_nil | refine kn_cons (by walk_at "kn") ?_)) rfl) | exact .inl<|.no (by walk_at "kn") rfl) ?_))
abbrev Wd(h0 h:Hs)(C:Yc)(p:Ad)(m:Nat):Prop:=∃xs,h p=eZ (.lst xs)/\Rfs h C xs/\1<=xs.length/\xs.length<=m/\Ext h0 h
def Ky{f:Hs}{m:Nat}(W:Wd h0 h C a m)(x:Ext h f)(e:f b=eZ (.lst ys))(r:Rfs f C ys)(l:Nat.ble ys.length 20=fc)(hm:Nat.ble m 480=fc)(q:∀p g,Wd h0 g C p (m+20)->Q (.ref p) g):(binV f .add (.ref a)<|.ref b).wp f Q:=by let⟨xs,u,s,l0,l1,x0⟩:=W;have l:=į l;have hm:=į hm;exact EC (x.get u) e (s.ext x) r (by lia) λp g zs _ y u r hl=>q p g ⟨zs,u,r,by lia,by lia,(x0.trans x).trans y⟩
def EY{one:Int}(gd:C.gd N)(h0:0<=one)(h1:one<1000)(hs:C.std one=fc)(k:∀p g xs,Ext h g->g p=eZ (.lst xs)->0<xs.length->Rfs g C xs->Q (.ref p) g):wF P (n+1) "_law_words" [.int one,.int (C.ts.length:Nat)] h Q X:=by
 have t16:=gd.no.sixteen;have d1:step C (.come (-1))=fb:=(Z0<|.inl<|by decide).1;have d2:step C (.lost (-1))=fb:=(Z0<|.inl<|by decide).2;have d3:step C (.fallT (-1))=fb:=Xq (.inl<|.inl<|by decide);have d4:step C (.fallT (C.ts.length:Nat))=fb:=Xq<|.inl<|.inr<|dC _;have d5:step C (.backT (C.ts.length:Nat))=fb:=Wg<|OB gd<|.inr<|dC _;have d6:step C (.backB one)=fb:=X8 gd<|.inl hs;have d7:step C (.backT (-1))=fb:=Wg (OB gd<|.inl<|by decide);refine Og ?_;refine' Zc λq1 g1 _ x1 e1=>?_;refine' Pr (á (by lia:one.natAbs<1000)<|by decide) ?_;refine' Zc λb f _ z v=>?_;have k1:=(YB e1).ext z;have W:Wd h f C b 20:=⟨_,v,(by walk_at "rf"),į rfl,į rfl,x1.trans z⟩
 refine' Zc λq0 g0 _ x0 e0=>?_;refine' Zc λb f _ z v=>?_;have k0:=(YB e0).ext z;refine Ky W (x0.trans z) v (by walk_at "rf") rfl rfl λa g W=>?_;refine' Zc λb f _ z v=>?_;refine Ky W z v (by walk_at "rf") rfl rfl λa g W=>?_;refine' Zc λb f _ z v=>?_;refine Ky W z v (by walk_at "rf") rfl rfl λa g W=>?_;refine' Zc λb f _ z v=>?_;refine Ky W z v (by walk_at "rf") rfl rfl λa g W=>?_;refine' Zc λb f _ z v=>?_;refine Ky W z v (by walk_at "rf") rfl rfl λa g W=>?_;refine' Zc λb f _ z v=>?_;refine Ky W z v (by walk_at "rf") rfl rfl λa g W=>?_;refine' Zc λq0 g0 _ x0 e0=>?_;refine' Zc λb f _ z v=>?_;have k0:=(YB e0).ext z;refine Ky W (x0.trans z) v (by walk_at "rf") rfl rfl λa g W=>?_;refine' Zc λq0 g0 _ x0 e0=>?_;fail;intro q1 hqq1;have x1:=Ext.new hqq1 (o:=.dct []);have e1:=fh (h:=g0) (a:=q1) (o:=.dct []);refine' Zc λq2 g2 _ x2 e2=>?_;refine' Zc λq3 g3 _ x3 e3=>?_;fail;intro q4 hqq4;have x4:=Ext.new hqq4 (o:=.dct []);have e4:=fh (h:=g3) (a:=q4) (o:=.dct []);refine' Zc λb f _ z v=>?_;have k0:=(((((YB e0).ext x1).ext x2).ext x3).ext x4).ext z;have k1:=((((M7 e1).ext x2).ext x3).ext x4).ext z;have k2:=(((YB e2).ext x3).ext x4).ext z;have k3:=((YB e3).ext x4).ext z;have k4:=(M7 e4).ext z;refine Ky W (((((x0.trans x1).trans x2).trans x3).trans x4).trans z) v (by walk_at "rf") rfl rfl λa g W=>?_;refine' Zc λq0 g0 _ x0 e0=>?_;refine' Zc λq1 g1 _ x1 e1=>?_;fail;intro q2 hqq2;have x2:=Ext.new hqq2 (o:=.dct []);have e2:=fh (h:=g1) (a:=q2) (o:=.dct []);refine' Zc λb f _ z v=>?_;have k0:=(((YB e0).ext x1).ext x2).ext z;have k1:=((YB e1).ext x2).ext z;have k2:=(M7 e2).ext z;refine Ky W (((x0.trans x1).trans x2).trans z) v (by walk_at "rf") rfl rfl λa g W=>?_;refine' Zc λq0 g0 _ x0 e0=>?_;refine' Zc λb f _ z v=>?_;have k0:=(YB e0).ext z;refine Ky W (x0.trans z) v (by walk_at "rf") rfl rfl λa g W=>?_;let⟨xs,u,r,l0,_,xh⟩:=W;exact k _ _ _ xh u l0 r
def Dq(gd:C.gd N)(k:∀p g xs,Ext h g->g p=eZ (.lst xs)->0<xs.length->Rfs g C xs->Q (.ref p) g):wF P (n+1) "_law_kinds" [] h Q X:=by
 refine Nk ?_;refine' Zc λp1 g1 bE x1 u1=>?_;refine' Zc λq1 g2 hq1 x2 e1=>?_;fail;intro q2 hqq2;have x3:=Ext.new hqq2 (o:=.dct []);have e2:=fh (h:=g2) (a:=q2) (o:=.dct []);refine' Zc λq3 g4 hq3 x4 e3=>?_;have hth:∀v∈[Val.bl fc,.bl fe,.non,.str "0",.str "",.ref q1,.tup [.int 0],.ref q2,.int (-1)],Th g4 v:=λv hv=>by
  simp only[Ç,Ó,or_false]at hv;have k1:=YB<|x4.get<|x3.get e1;have k2:=M7<|x4.get e2;rcases hv with rfl|rfl|rfl|rfl|rfl|rfl|rfl|rfl|rfl
  iterate 8 exact .inl ⟨by walk_at "kn",rfl⟩
  exact .inr rfl
 have u1:=x4.get<|x3.get<|x2.get u1;have hl9:[Val.bl fc,.bl fe,.non,.str "0",.str "",.ref q1,.tup [.int 0],.ref q2,.int (-1)].length=9:=rfl;have xh:=(x1.trans x2).trans<|x3.trans x4;generalize [Val.bl fc,.bl fe,.non,.str "0",.str "",.ref q1,.tup [.int 0],.ref q2,.int (-1)]=ths at e3 hth hl9;refine' Zs (λi en g=>Sm4 λv1 v2 p xs=>Cj5 (en=[eZ<|.ref p,v1,v2]) (g p=eZ (.lst xs)) (Rfs g C xs) (xs.length=7*i)<|Ext g4 g) ⟨_,_,p1,[],rfl,u1,rf_nil,rfl,.refl⟩ (λ_ _ _ _ ⟨_,_,_,_,_,_,_,_,x⟩=>lsE<|x.get e3) ?_ ?_
 .rintro i v en g hv ⟨v1,v2,p,xs,rfl,e,r,l,x⟩ K hK;have hi:=(Î.mp hv).1;have tv:Th g v:=(hth v<|ë hv).imp (λz=>⟨z.1.ext x,z.2⟩) id;rw[hl9]at hi;refine' Zc λa f ha y u=>?_;have tf:Th f v:=tv.imp (λz=>⟨z.1.ext y,z.2⟩) id;refine EC (y.get e) u (r.ext y) (rf_cons (N1 gd tf ["tick"]<|by simp[wordsL])<|rf_cons (N1 gd tf ["come"]<|by simp[wordsL])<|rf_cons (N1 gd tf ["lost"]<|by simp[wordsL]) rf_nil) (by show xs.length+3<=500;lia) λp5 g5 zs hp5 x5 u5 r5 l5=>?_
  replace l5:zs.length=xs.length+3:=l5
  have t5:Th g5 v:=tf.imp (λz=>⟨z.1.ext x5,z.2⟩) id;refine' Zs (λj en g'=>∃v2 p ys,en=[eZ<|.ref p,eZ v,v2]/\g' p=eZ (.lst ys)/\Rfs g' C ys/\ys.length=7*i+3+2*j/\Ext g5 g') ⟨_,p5,zs,rfl,u5,r5,by lia,.refl⟩ (λ_ _ _ _ _=>trivial) ?_ ?_
  .rintro j w en g' hw ⟨v2,p6,ys,rfl,e6,r6,l6,x6⟩ K hK;have hj:=(Î.mp hw).1
   replace hj:j<2:=hj
   have tw:Th g' v:=t5.imp (λz=>⟨z.1.ext x6,z.2⟩) id;have hs:∃s,w=.str s/\["fall",s]∈wordsL/\["back",s]∈wordsL:=by have:=ë hw;simp only[Ç,Ó,or_false]at this;rcases this with rfl|rfl<;>exact⟨_,rfl,by simp[wordsL],by simp[wordsL]⟩
   let⟨s,rfl,hs1,hs2⟩:=hs;refine' Zc λa7 f7 ha7 y7 u7=>?_;have t7:Th f7 v:=tw.imp (λz=>⟨z.1.ext y7,z.2⟩) id;refine EC (y7.get e6) u7 (r6.ext y7) (rf_cons (N1 gd t7 ["fall",s] hs1)<|rf_cons (N1 gd t7 ["back",s] hs2) rf_nil) (by show ys.length+2<=500;lia) λp8 g8 zs8 hp8 x8 u8 r8 l8=>?_
   replace l8:zs8.length=ys.length+2:=l8
   refine' hK _ _ ⟨_,p8,zs8,rfl,u8,r8,by lia,(x6.trans y7).trans x8⟩
  .rintro en g' ⟨v2,p6,ys,rfl,e6,r6,l6,x6⟩
   replace l6:ys.length=7*i+3+2*2:=l6
   refine' hK _ _ ⟨_,_,p6,ys,rfl,e6,r6,by lia,((x.trans y).trans x5).trans x6⟩
 .rintro en g ⟨v1,v2,p,xs,rfl,e,r,l,x⟩;rw[hl9]at l;refine' k p g xs (xh.trans x) e (by lia) r
end
def Do{α:Type}(p:α->Bool):∀l:List α,(l.filter p).length+(l.filter λx=>!p x).length=l.length
 |[]=>rfl
 |x::l=>by have:=Do p l;rw[þ,þ];cases p x<;>simp<;>lia
def UO{i:Int}(e:h a=eZ (.lst<|ns.map .int))(q:KB (!gN (i∈ns))):go (fB h .notin (.int i)<|.ref a) KB:=fk (by show(inV h (.int i)<|.ref a).map _=_;unfold inV;simp only[e];rw[W0];rfl) q
def RT{i:Int}(e:h a=eZ (.lst<|ns.map .int))(q:KB<|gN (i∈ns)):go (fB h .isin (.int i)<|.ref a) KB:=fk (by show inV h (.int i) (.ref a)=_;unfold inV;simp only[e];rw[W0]) q
variable {ys:List Val}
def Kn.put{xs:List Val}{v:Val}(k:Kn h v)(e:h p=eZ (.lst xs)):Kn (upd h p<|.lst ys) v:=by
 let⟨t,et,r⟩:=k;refine⟨t,?_,r⟩;cases v with
 |ref a =>
  unfold gD at et ⊢;dsimp only at et ⊢;by_cases z:a=p
  .subst z;rw[e]at et;rw[fh];exact et
  .rw[ff z];exact et
 |_=>exact et
def Rf.put{xs:List Val}{v:Val}(r:Rf h C v)(e:h p=eZ (.lst xs)):Rf (upd h p<|.lst ys) C v:=by
 rcases r with b|b
 .refine .inl ?_;cases b with
  |no k t=>exact .no (k.put e) t
  |ws l k b=>exact .ws l (λx hx=>(k x hx).put e) b
 .exact .inr b
def GE{bs:List Int}(h:bs.length<=10)(nd:bs.Nodup):2<=(((List.range 12).map λi:Nat=>(i:Int)).filter λx=>!gN (x∈bs)).length:=by have nd12:((List.range 12).map λi:Nat=>(i:Int)).Nodup:=List.Pairwise.map _ (λa b h=>by lia) List.nodup_range;have e:=Do (λx=>gN (x∈bs)) ((List.range 12).map λi:Nat=>(i:Int));have l:=XJ (l:=((List.range 12).map λi:Nat=>(i:Int)).filter λx=>gN (x∈bs)) (bs:=bs) (nd12.sublist Ļ) λx hx=>of_decide_eq_true (ø.mp hx).2;rw[Ã,ż]at e;lia
section
variable {Y:Yd}{N:Nat}{C:Yc}{ga ca:Ad}{gone cut:List Int}
def Ec{one:Int}(gd:C.gd N)(eg:h ga=eZ (.lst<|gone.map .int))(ec:h ca=eZ (.lst<|cut.map .int))(k:Q (.int (cnt C.ts gone cut one C.ts.length:Nat)) h):wF P (n+1) "_law_sends" [ZH C.bs C.ts,.ref ga,.ref ca,.int one] h Q X:=by
 refine Ni ?_
 exists Mq
 exists fk rfl
 refine Zs (λi en g=>g=h/\∃v5 v6,en=[eZ<|ZH C.bs C.ts,eZ<|.ref ga,eZ<|.ref ca,eZ<|.int one,eZ<|.int (cnt C.ts gone cut one i:Nat),v5,v6]) ⟨rfl,_,_,rfl⟩ (λ_ _ _ _ _=>trivial) ?_ ?_
 .rintro i v en g hv ⟨rfl,v5,v6,rfl⟩ K hK;let⟨z,hz,rfl⟩:=MW hv;rw[Ú]at hz;let⟨t,ht,rfl⟩:=Í.mp hz;rw[Ϝ];have eu:MM C.ts gone cut one i=(Zx t one&&(!gN ((i:Int)∈cut)&&(!gN (t.1∈gone) && !gN (t.2.1∈gone)))):=by unfold MM;rw[ht];rfl
  rw[HY,eu]at hK;have no:(Zx t one&&(!gN ((i:Int)∈cut)&&(!gN (t.1∈gone) && !gN (t.2.1∈gone))))=fe->K [eZ<|ZH C.bs C.ts,eZ<|.ref ga,eZ<|.ref ca,eZ<|.int one,eZ<|.int (cnt C.ts gone cut one i:Nat),eZ<|.int i,eZ<|.tup [.int t.1,.int t.2.1,.int t.2.2]] g:=λe=>by rw[e]at hK;exact hK _ _ ⟨rfl,_,_,rfl⟩
  unfold trV;refine' f9 (by simp[fR]) ?_;refine BS (ns:=[t.1,t.2.1]) ?_;refine' gf (λc1=>?_) (λc1=>?_)
  .have c1:Zx t one=fc:=touch_iff.mpr ⇑c1;rw[c1,ŏ]at no hK
   exists UO ec
   refine' gg (λc2=>?_) (λc2=>?_)
   .rw[c2,ŏ]at no hK
    exists UO eg
    refine' gg (λc3=>?_) (λc3=>?_)
    .rw[c3,ŏ]at no hK
     exists UO eg
     refine' gg (λc4=>?_) (λc4=>?_)
     .rw[c4]at hK;refine' hK _ _ ⟨rfl,_,_,rfl⟩
     .refine' no c4
    .walk_at "p";exact no (by rw[c3];rfl)
   .walk_at "p";exact no (by rw[c2];rfl)
  .walk_at "p";refine no ?_;have:Zx t one=fe:=by
    cases z:Zx t one with
    |false=>rfl
    |true=>exact gM (by simpa using touch_iff.mp z) c1
   rw[this];rfl
 .rintro en g ⟨rfl,v5,v6,rfl⟩;rw[Ki,Ã];refine' k
def GR{cell:Int}(gd:C.gd N)(wk:Wk C gone cut)(hr:C.road.length=2*C.ts.length)(eg:h ga=eZ (.lst<|gone.map .int))(ec:h ca=eZ (.lst<|cut.map .int))(gl:gone.length<=10)(k:∀p g xs,Ext h g->g p=eZ (.lst xs)->0<xs.length->Rfs g C xs->Q (.ref p) g):wF P (n+1) "_law_here" [ZH C.bs C.ts,.ref ga,.ref ca,.int cell] h Q X:=by
 have t16:=gd.no.sixteen;have aG:(C.ts.map trV).length=C.ts.length:=Ã _;have nd:C.bs.Nodup:=gd.no.up.imp λh=>by lia
 refine OJ ?_;fail;have f0:(1000:Int)<=1000+cell % 1000000000000000000000000000000000000000000000000000000000000:=by have:=ď cell (b:=1000000000000000000000000000000000000000000000000000000000000) (by decide);lia
 generalize 1000+cell % 1000000000000000000000000000000000000000000000000000000000000=far at f0 ⊢;refine⟨⟨by decide,by decide⟩,by rw[YR];exact(by decide:(12:Nat)<lim),?_⟩;refine Yj (λi ys g=>g=h/\ys=(((List.range i).map λi:Nat=>(i:Int)).filter λx=>!gN (x∈C.bs)).map .int) ⟨rfl,rfl⟩ (λ_ _ _ _ _=>trivial) ?_ ?_
 .rintro i v ys g hv ⟨rfl,rfl⟩ K hK;let⟨rfl,hi⟩:=X6 hv;rw[aY,ã,Θ,É,ω,þ,ϝ]at hK
  exists ND
  refine Pq (ns:=C.bs) ?_;refine' gg (λhc=>?_) (λhc=>?_)
  .refine' hK _ _ ⟨rfl,by rw[hc,gG rfl,ã];rfl⟩
  .exact hK _ _ ⟨rfl,by rw[hc,gH (by decide),ò,ϳ,ò]⟩
 rintro ys g ⟨rfl,rfl⟩;rw[YR,show Int.toNat 12=12 from rfl];refine Zc λq1 g1 hq1 x1 e1=>?_;have hl:=GE gd.no.ten nd;let⟨st,ō,es⟩:=IU (ns:=((List.range 12).map λi:Nat=>(i:Int)).filter λx=>!gN (x∈C.bs)) (r:=cell % 2) (by lia) (by lia)
 exists Zj e1 es
 have hsb:st∉C.bs:=by have:=(ø.mp ō).2;simpa using this
 have hss:C.std st=fe:=by rw[wk.st];simp[hsb]
 clear hl es ō e1
 exists Mq
 fail;rw[aG];refine' Zc λp1 g2 bE x2 u1=>?_;have hfs:=CN gd (b:=far)<|.inr f0;have r1:Rfs g2 C [.tup [.str "tick",.int st],.tup [.str "fall",.str "bridge",.int st],.tup [.str "back",.str "bridge",.int st],.tup [.str "tick",.int far]]:=rf_cons (.inr ⟨.tick st,rfl,(Z6 hss).1⟩)<|rf_cons (.inr ⟨.fallB st,rfl,(Z6 hss).2⟩)<|rf_cons (.inr ⟨.backB st,rfl,X8 gd<|.inr hsb⟩)<|rf_cons (.inr ⟨.tick far,rfl,(Z6 hfs.1).1⟩) rf_nil;have x12:=x1.trans x2
 exists Mq
 fail;rw[aG];refine Zc λp2 g3 eh x3 u2=>?_;refine EC (x3.get u1) u2 (r1.ext x3) (rf_cons (.inr ⟨.come<|2*(C.ts.length:Nat),rfl,(Z0<|.inr<|by lia).1⟩)<|rf_cons (.inr ⟨.lost<|2*(C.ts.length:Nat),rfl,(Z0<|.inr<|by lia).2⟩)<|rf_cons (.inr ⟨.come<|2*(C.ts.length:Nat)+far,rfl,(Z0<|.inr<|by lia).1⟩)<|rf_cons (.inr ⟨.fallT<|(C.ts.length:Nat)+far,rfl,Xq<|.inl<|.inr<|by lia⟩) rf_nil) (į rfl) λp4 g4 xs4 hp4 x4 u4 r4 l4=>?_
 replace l4:xs4.length=8:=l4
 have x14:=(x12.trans x3).trans x4;have eg4:=x14.get eg;refine' Zs (λi en g'=>∃v5 v9 p xs,en=[eZ<|ZH C.bs C.ts,eZ<|.ref ga,eZ<|.ref ca,eZ<|.int cell,eZ<|.int far,v5,eZ<|.int st,eZ<|.int<|2*(C.ts.length:Nat),eZ<|.ref p,v9]/\g' p=eZ (.lst xs)/\g p=fb/\Rfs g' C xs/\xs.length=8+2*i/\Ext g g') ⟨_,_,p4,xs4,rfl,u4,Yk (x12.trans x3) hp4,r4,l4,x14⟩ (λ_ _ _ _ ⟨_,_,_,_,_,_,_,_,_,x⟩=>lsE<|x.get eg) ?_ ?_
 .rintro i v en g5 hv ⟨v5,v9,p,xs,rfl,e,hp,r,l,x⟩ K hK;let⟨b,hb,rfl⟩:=ZT hv;have hi:=(Î.mp hb).1;have hbs:C.std b=fe:=by rw[wk.st];simp[ë hb]
  refine' Zc λq6 g6 hq6 x6 u6=>?_;refine EC (x6.get e) u6 (r.ext x6) (rf_cons (.inr ⟨.tick b,rfl,(Z6 hbs).1⟩)<|rf_cons (.inr ⟨.fallB b,rfl,(Z6 hbs).2⟩) rf_nil) (by show xs.length+2<=500;lia) λp7 g7 xs7 hp7 x7 u7 r7 l7=>?_
  replace l7:xs7.length=xs.length+2:=l7
  refine' hK _ _ ⟨_,_,p7,xs7,rfl,u7,Yk (x.trans x6) hp7,r7,by lia,(x.trans x6).trans x7⟩
 rintro en g5 ⟨v5,v9,p,xs,rfl,e,hp,r,l,x⟩;rw[Ã]at l
 exists Mq
 fail;rw[aG];refine⟨⟨by lia,by lia⟩,?_⟩;refine Zs (λi en g'=>∃v9 xs,en=[eZ<|ZH C.bs C.ts,eZ<|.ref ga,eZ<|.ref ca,eZ<|.int cell,eZ<|.int far,v5,eZ<|.int st,eZ<|.int<|2*(C.ts.length:Nat),eZ<|.ref p,v9]/\g' p=eZ (.lst xs)/\Rfs g' C xs/\xs.length=8+2*gone.length+i/\Ext g g') ⟨_,xs,rfl,e,r,by lia,x⟩ (λ_ _ _ _ _=>trivial) ?_ ?_
 .rintro i v en g6 hv ⟨v9,xs,rfl,e,r,l,x⟩ K hK;let⟨rfl,hi⟩:=X6 hv;have ec6:=x.get ec;have ap:∀{u:Val},Rf g6 C u->∀{K:Val×Hs->Prop},(∀g',g' p=eZ (.lst<|xs++[u])->Rfs g' C (xs++[u])->Ext g g'->K (.non,g'))->go (bmV g6 .append (.ref p) [u]) K:=λ{u} ru {K} q=>by
   refine YE e (by rw[l,lim];lia)<|q _ fh (λv hv=>?_)<|UZ x hp;rcases å.mp hv with hv|hv
   .exact(r v hv).put e
   .rw[ß.mp hv];exact ru.put e
  exists RT ec6
  refine' gf (λhc=>?_) (λhc=>?_)
  .refine' ap (u:=.tup [.str "fall",.str "tie",.int i]) (.inr ⟨.fallT i,rfl,Xq<|.inr<|by rw[wk.fa];exact gK hc⟩) λg7 e7 r7 x7=>?_;refine' hK _ _ ⟨_,_,rfl,e7,r7,by rw[è,l];rfl,x7⟩
  .refine' ap (u:=.tup [.str "back",.str "tie",.int i]) (.inr ⟨.backT i,rfl,Wg<|by rw[wk.fa];exact gJ hc⟩) λg7 e7 r7 x7=>?_;refine' hK _ _ ⟨_,_,rfl,e7,r7,by rw[è,l];rfl,x7⟩
 .rintro en g6 ⟨v9,xs,rfl,e,r,l,x⟩;refine' k p g6 xs x e (by lia) r
end
abbrev tl:Nat->Ss->Ss
 |0,s=>s
 |k+1,.cons _ r=>tl k r
 |_+1,.nil=>.nil
abbrev Ie:Val->Option Val
 |.int i=>if i<2 then eZ (.int i)else fb
 |_=>fb
def BX:∀bs:List Int,(bs.map Val.int).filterMap Ie=(bs.filter λi=>gN (i<2)).map Val.int
 |[]=>rfl
 |b::l=>by
  have e:Ie (.int b)=if b<2 then eZ (.int b)else fb:=rfl;rw[É,Đ,þ,e,BX l];by_cases hb:b<2
  .rw[gG hb,gG<|gK hb];rfl
  .rw[gH hb,gH<|by simpa using hb]
def Wb{xs:List Val}(ea:h a=eZ (.lst xs))(eb:h b=eZ (.lst xs)):dat h n (.ref a)=dat h n (.ref b):=by
 cases n with
 |zero=>rfl
 |succ n =>show(fx<|h a).bind _=(fx<|h b).bind _;rw[ea,eb]
def Mr{xs:List Val}(ea:h a=eZ (.lst xs))(f:xs.all (flat n)=fc):∃d,dat h (n+1) (.ref a)=eZ d:=by let⟨ds,hds⟩:=Mj (f:=dat h n) (xs:=xs) λx hx=>Kg<|ý.mp f x hx;exact⟨.lst ds,by show(fx<|h a).bind (λxs=>(xs.mapM<|dat h n).map D.lst)=_;rw[ea,JS,ð,hds];rfl⟩
abbrev D8(C:Yc)(m:Nat):List Val:=(List.range m).map λp:Nat=>.tup [.str (C.ends p).1,.str (C.ends p).2]
noncomputable abbrev dnV(C:Yc):Val:=.tup [.tup<|C.downs.map .int,.tup<|C.cuts.map .int]
inductive SeAt (g:Hs) (p:Ad) (C:Yc):Prop
 |mk (a b c d:Ad) (hp:g p=eZ (.lst [.ref a,.ref b,.ref c,dnV C,.ref d])) (ha:g a=eZ (.lst<|QH C)) (hb:g b=eZ (.lst<|RZ C)) (hc:g c=eZ (.lst<|C.road.map rdV)) (hd:g d=eZ (.lst<|D8 C C.ts.length))
def SeAt.ext{f:Hs}(s:SeAt g p C)(x:Ext g f):SeAt f p C:=by let⟨a,b,c,d,h1,h2,h3,h4,h5⟩:=s;exact⟨a,b,c,d,x.get h1,x.get h2,x.get h3,x.get h4,x.get h5⟩
def DF(b:Int)(l:Lab):flat 10 (.tup [.int b,l.v])=fc:=by let⟨r,c,u⟩:=l;cases u<;>rfl
def BV(r:Int×Int×Int×L):flat 10 (rdV r)=fc:=by let⟨a,b,c,nu,st,ro,co,ag,re,agr⟩:=r;cases re<;>cases agr<;>rfl
def A6(a b:List Int):flat 11 (.tup [.tup<|a.map .int,.tup<|b.map .int])=fc:=by show((a.map Val.int).all (flat 9)&&((b.map Val.int).all (flat 9)&&fc))=fc;rw[all_map λ_ _=>NY,all_map λ_ _=>NY];rfl
def SeAt.eq{q:Ad}(s:SeAt g p C)(t:SeAt g q C):eqV g (.ref p) (.ref q)=eZ fc:=by
 let⟨a,b,c,d,h1,h2,h3,h4,h5⟩:=s;let⟨a',b',c',d',k1,k2,k3,k4,k5⟩:=t;let⟨d1,e1⟩:=Mr k2<|all_map (n:=10) λ_ _=>DF _ _;let⟨d2,e2⟩:=Mr k3<|all_map (n:=10) λ_ _=>rfl;let⟨d3,e3⟩:=Mr k4<|all_map (n:=10) λ_ _=>BV _;let⟨d4,e4⟩:=Kg (h:=g)<|A6 C.downs C.cuts;let⟨d5,e5⟩:=Mr k5<|all_map (n:=10) λ_ _=>rfl;have q1:dat g 12 (.ref q)=eZ (.lst [d1,d2,d3,d4,d5]):=by show(fx<|g q).bind (λxs=>(xs.mapM<|dat g 11).map D.lst)=_;rw[k1,JS,ð,Ĉ,Ĉ,Ĉ,Ĉ,Ĉ,List.mapM_nil,e1,e2,e3,e4,e5];rfl
 have p1:dat g 12 (.ref p)=eZ (.lst [d1,d2,d3,d4,d5]):=by show(fx<|g p).bind (λxs=>(xs.mapM<|dat g 11).map D.lst)=_;rw[h1,JS,ð,Ĉ,Ĉ,Ĉ,Ĉ,Ĉ,List.mapM_nil,Wb h2 k2,Wb h3 k3,Wb h4 k4,Wb h5 k5,e1,e2,e3,e4,e5];rfl
 show(dat g 12<|.ref p).bind (λd=>(dat g 12<|.ref q).map λe=>D.eqv d e)=_;rw[p1,q1];show eZ (D.eqv _ _)=_;rw[D.eqv_refl]
section
variable {Y:Yd}{N:Nat}{C:Yc}{ga ca:Ad}{gone cut:List Int}
def Ux(x:fw h Y)(gd:Y.cc.gd N)(k:∀p g,h p=fb->Ext h g->SeAt g p Y.cc->Q (.ref p) g):wF P (n+6) "_law_seen" [.ref Y.y,ZH Y.bs Y.ts] h Q X:=by
 have t16:Y.ts.length<=16:=gd.no.sixteen;have aG:(Y.ts.map trV).length=Y.ts.length:=Ã _;have xi:=x.ins;refine O3 ?_
 exists Mq
 fail;rw[aG];refine⟨⟨by lia,by lia⟩,by rw[YR];exact Ü (by lia:_<=16) (by decide),?_⟩;refine Yj (λi ys g=>g=h/\ys=D8 Y.cc i) ⟨rfl,rfl⟩ (λ_ _ _ _ _=>trivial) ?_ ?_
 .rintro i v ys g hv ⟨rfl,rfl⟩ K hK;let⟨rfl,hi⟩:=X6 hv;walk_at "p";refine E5 x (by lia) ?_;refine' hK _ _ ⟨rfl,?_⟩;unfold D8;rw[aY,ã];rfl
 rintro ys g ⟨rfl,rfl⟩;rw[YR,à];refine Zc λp0 g0 hp0 x0 e0=>?_;have y0:=x.ext x0;have xi:=y0.ins;refine' By y0 gd λp1 g1 bE x1 e1=>?_;refine' Zc λq1 f1 hq1 z1 u1=>?_;have y1:=(y0.ext x1).ext z1;have xi:=y1.ins;refine' Bx y1 gd λp2 g2 eh x2 e2=>?_;refine' Zc λq2 f2 hq2 z2 u2=>?_;have y2:=(y1.ext x2).ext z2;have xi:=y2.ins;refine' Nf y2 λp3 g3 hp3 x3 e3=>?_;refine' Zc λq3 f3 hq3 z3 u3=>?_;have y3:=(y2.ext x3).ext z3;have xi:=y3.ins;refine' Ei y3 gd λg4 x4=>?_;refine' Zc λp5 g5 hp5 x5 e5=>?_;have a3:=x4.trans x5;have a2:=(x3.trans z3).trans a3;have a1:=(x2.trans z2).trans a2;have a0:=(x1.trans z1).trans a1;exact k p5 g5 (Yk ((((x0.trans x1).trans z1).trans<|(x2.trans z2).trans<|x3.trans z3).trans x4) hp5) (x0.trans a0) ⟨q1,q2,q3,p0,e5,a1.get u1,a2.get u2,a3.get u3,a0.get e0⟩
def EW{bs:List Int}(no:fG bs ts)(x:fw h Y)(cc:Y.cc=WM bs ts most)(k:∀Z g ga ca gone cut,Mv h Y g Z->Z.cc.gd 30->Wk Z.cc gone cut->Z.cc.road.length=2*ts.length->Z.bs=bs->Z.ts=ts->g ga=eZ (.lst<|gone.map .int)->g ca=eZ (.lst<|cut.map .int)->ga∉Z.adr->ca∉Z.adr->gone.length<=10->(∃b∈bs,b∉gone)->Q (.tup [.ref ga,.ref ca]) g):wF P (n+7) "_law_begun" [.ref Y.y,ZH bs ts,.int c] h Q X:=by
 have h10:=no.ten;have h1:=no.one;have t16:=no.sixteen;have nd:bs.Nodup:=no.up.imp λh=>by lia
 have ez:(bs.map Val.int).length=bs.length:=Ã _;have aG:(ts.map trV).length=ts.length:=Ã _;have eb0:Y.bs=bs:=congrArg Yc.bs cc;have et0:Y.ts=ts:=congrArg Yc.ts cc;have sums:=Uw no ts.length<|Ñ _;refine NS ?_;refine' Zc λp1 g1 bE x1 e1=>?_;refine' Zc λp2 g2 eh x2 e2=>?_;have n12:p1≠p2:=Za e1 eh;have e1:=x2.get e1;have a1:p1∉Y.adr:=λz=>x.taken z bE;have a2:p2∉Y.adr:=λz=>(x.ext x1).taken z eh
 exists ND
 refine' Zs (λi en g=>∃v5 Z,en=[eZ<|.ref Y.y,eZ<|ZH bs ts,eZ<|.int c,eZ<|.ref p1,eZ<|.ref p2,v5,fb]/\Mv h Y g Z/\p1∉Z.adr/\p2∉Z.adr/\g p1=eZ (.lst [])/\g p2=eZ (.lst [])/\Z.cc.gd i/\Wk Z.cc [] []/\Z.bs=bs/\Z.ts=ts/\Z.cc.road.length=((bs.take i).map λb=>cnt ts [] [] b ts.length).sum) ⟨_,Y,rfl,(Mv.refl x).ext<|x1.trans x2,a1,a2,e1,e2,cc▸GV no,cc▸Ft no,eb0,et0,by rw[cc];rfl⟩ (λ_ _ _ _ _=>trivial) ?_ ?_
 .rintro i v en g hv ⟨v5,Z,rfl,m,b1,b2,f1,f2,gz,wk,eb,et,hr⟩ K hK;let⟨b,hb,rfl⟩:=ZT hv;have hi:=(Î.mp hb).1;have hbm:=ë hb;have ō:Z.cc.std b=fc:=by rw[wk.st];exact gK ⟨by show b∈Z.bs;rw[eb];exact hbm,Ó⟩
  have hs:(step Z.cc<|.tick b).isSome=fc:=ME<|keys_mem.mpr ō;have zi:=m.at_.ins;rw[m.y]at zi;fail;rw[<-m.y];refine Z9 (d:=.tick b) m.at_ gz (by lia) (λV g3 s mv=>?_) (λg3 s=>by rw[s]at hs;cases hs);let⟨gv,q1,q2,_⟩:=Yx gz s;let⟨wv,B,hB,hl⟩:=wk.tick s;have cB:=wk.cnt gz hB;have o1:=mv.off b1 f1;have o2:=mv.off b2 f2;fail;rw[m.y];refine hK _ _ ⟨_,V,rfl,m.trans mv,o1.1,o2.1,o1.2,o2.2,gv,wv,q1.trans eb,q2.trans et,?_⟩;rw[hl,hr,cB,Zm hb,ã,List.sum_append,show Z.cc.ts=ts from et];simp
 rintro en g ⟨v5,Z,rfl,m,b1,b2,f1,f2,gz,wk,eb,et,hr⟩;rw[ez]at gz hr;rw[ÿ,sums]at hr
 exists ND
 refine' ⟨Ü (by rw[ez];exact h10) (by decide),?_⟩;refine Yg Ie trivial (λv hv K hK=>?_) ?_
 .obtain⟨b,_,rfl⟩:=Û.mp hv
  replace hK:K (if b<2 then eZ (.int b)else fb) g:=hK
  refine' gf (λhc=>?_) (λhc=>?_)
  .rw[gG hc]at hK;refine' hK
  .rw[gH hc]at hK;exact hK
 rw[BX];refine Zc λp3 g3 hp3 x3 e3=>?_;have b3:p3∉Z.adr:=λz=>m.at_.taken z hp3;have n13:p1≠p3:=Za f1 hp3;have n23:p2≠p3:=Za f2 hp3;have m3:=m.ext x3;have f1:=x3.get f1;have f2:=x3.get f2;have lowl:(bs.filter λi=>gN (i<2)).length<=bs.length:=ϟ _ _;have rest:∀{g4:Hs}{ga:Ad}{gone:List Int}{v5:Option Val},g4 ga=eZ (.lst<|gone.map .int)->g4 p2=eZ (.lst [])->ga∉Z.adr->ga≠p2->Mv h Y g4 Z->gone.Nodup->(∀b∈gone,b∈bs)->(∃b∈bs,b∉gone)->wSs (wF P<|n+6) (tl 5 T5.body) [eZ<|.ref Y.y,eZ<|ZH bs ts,eZ<|.int c,eZ<|.ref ga,eZ<|.ref p2,v5,eZ<|.ref p3] g4 (λ_ g=>Q .non g) Q (λ_ _=>False) (λ_ _=>False) λ_ c g=>X c g:=by
  clear f1 f2 b1 m;intro g4 ga gone v5 eg e2 bg ng m gn gs gx;have gl:=XJ gn gs;dsimp only[tl,T5];refine' Zs (λi en g=>∃v5 V,en=[eZ<|.ref Y.y,eZ<|ZH bs ts,eZ<|.int c,eZ<|.ref ga,eZ<|.ref p2,v5,eZ<|.ref p3]/\Mv h Y g V/\ga∉V.adr/\p2∉V.adr/\g ga=eZ (.lst<|gone.map .int)/\g p2=eZ (.lst [])/\V.cc.gd (bs.length+i)/\Wk V.cc (gone.take i) []/\V.bs=bs/\V.ts=ts/\V.cc.road.length=2*ts.length) ⟨_,Z,rfl,m,bg,b2,eg,e2,gz,wk,eb,et,hr⟩ (λ_ _ _ _ ⟨_,_,_,_,_,_,e,_⟩=>lsE e) ?_ ?_
  .rintro i v en g hv ⟨v5,V,rfl,m,c1,c2,f1,f2,gv,wv,eb,et,hr⟩ K hK;let⟨b,hb,rfl⟩:=ZT hv;have hi:=(Î.mp hb).1;have hbm:=ë hb;have hbn:b∉gone.take i:=by
    have:=Yl (f:=id) (xs:=gone) (i:=i) (q:=b) (by rw[ν];exact gn) hb
    rwa [ν]at this
   have ō:V.cc.std b=fc:=by rw[wv.st];exact gK ⟨by show b∈V.bs;rw[eb];exact gs b hbm,hbn⟩
   have hs:(step V.cc<|.fallB b).isSome=fc:=Ot<|keys_mem.mpr ō;have zi:=m.at_.ins;rw[m.y]at zi;fail;rw[<-m.y];refine Z9 (d:=.fallB b) m.at_ gv (by lia) (λU g5 s mv=>?_) (λg5 s=>by rw[s]at hs;cases hs);let⟨gu,q1,q2,_⟩:=Yx gv s;let⟨wu,hl⟩:=wv.fallB gv s;have o1:=mv.off c1 f1;have o2:=mv.off c2 f2;fail;rw[m.y];refine hK _ _ ⟨_,U,rfl,m.trans mv,o1.1,o2.1,o1.2,o2.2,gu,?_,q1.trans eb,q2.trans et,by rw[hl];exact hr⟩;rw[Zm hb];exact wu
  rintro en g ⟨v5,V,rfl,m,c1,c2,f1,f2,gv,wv,eb,et,hr⟩;rw[Ã]at gv wv;rw[ÿ]at wv;have lst:∀{g:Hs}{U:Yd}{cut:List Int},Mv h Y g U->ga∉U.adr->p2∉U.adr->g ga=eZ (.lst<|gone.map .int)->g p2=eZ (.lst<|cut.map .int)->U.cc.gd 30->Wk U.cc gone cut->U.bs=bs->U.ts=ts->U.cc.road.length=2*ts.length->Q (.tup [.ref ga,.ref p2]) g:=λ{g U cut} m a b c d e f g1 h1 i1=>k U g ga p2 gone cut m e f i1 g1 h1 c d a b (by lia) gx;refine' gf (λc3=>?_) (λc3=>?_)
  .exists Mq
   fail;rw[aG];refine gf (λc4=>?_) λc4=>?_
   .exists Mq
    fail;rw[aG];have p0:0<=c / 40 % (ts.length:Nat):=ď _ (by lia);have p1':c / 40 % (ts.length:Nat)<(ts.length:Nat):=Ė _ (by lia);generalize c / 40 % (ts.length:Nat)=pl at p0 p1' ⊢;dsimp only;have hs:(step V.cc<|.fallT pl).isSome=fc:=Dx p0 (by show pl<(V.ts.length:Nat);rw[et];exact p1') λz=>by rw[cut_mem,wv.fa]at z;simp at z
    have y6:=m.at_.keep (S:=[p2]) (Ex.upd (w:=p2) (o:=.lst<|[]++[Val.int pl])<|by simp) λa ha z=>c2<|ß.mp z▸ha;have m6:Mv h Y (upd g p2<|.lst<|[]++[Val.int pl]) V:=m.put (Yk x1 eh) c2;have f6:upd g p2 (.lst<|[]++[Val.int pl]) p2=eZ (.lst<|[pl].map .int):=fh;have fg:upd g p2 (.lst<|[]++[Val.int pl]) ga=eZ (.lst<|gone.map .int):=(ff ng).trans f1;generalize upd g p2 (.lst<|[]++[Val.int pl])=g6 at m6 f6 fg y6 ⊢;have zi:=m6.at_.ins;rw[m6.y]at zi;fail;rw[<-m6.y];refine Z9 (d:=.fallT pl) m6.at_ gv (by lia) (λU g7 s mv=>?_) (λg7 s=>by rw[s]at hs;cases hs);let⟨gu,q1,q2,_⟩:=Yx gv s;let⟨wu,hl⟩:=wv.fallT gv s;have o1:=mv.off c1 fg;have o2:=mv.off c2 f6;refine' lst (m6.trans mv) o1.1 o2.1 o1.2 o2.2 (gu.more<|by lia) wu (q1.trans eb) (q2.trans et) (by rw[hl];exact hr)
   .refine' lst (cut:=[]) m c1 c2 f1 f2 (gv.more<|by lia) wv eb et hr
  .walk_at "p";exact lst (cut:=[]) m c1 c2 f1 f2 (gv.more<|by lia) wv eb et hr
 have none_:∀{v5:Option Val},wSs (wF P<|n+6) (tl 5 T5.body) [eZ<|.ref Y.y,eZ<|ZH bs ts,eZ<|.int c,eZ<|.ref p1,eZ<|.ref p2,v5,eZ<|.ref p3] g3 (λ_ g=>Q .non g) Q (λ_ _=>False) (λ_ _=>False) λ_ c g=>X c g:=λ{v5}=>by let⟨b,_,hb⟩:=WG (xs:=bs) (r:=0) (by decide) (by lia);exact rest (gone:=[]) f1 f2 b1 n12 m3 ĥ (λ_ z=>gM z Ó) ⟨b,hb,Ó⟩
 have low:wSs (wF P<|n+6) #[.ite (.and (.val<|.cmp .eq (.bin .mod (.bin .fdiv (.var 2)<|.cst<|.int 8)<|.cst<|.int 2)<|.cst<|.int 1)<|.val<|.cmp .gt (.bi .len #[.idx (.var 1)<|.cst<|.int 0])<|.bi .len #[.var 6]) #[.set (.one 3)<|.var 6] .nil] [eZ<|.ref Y.y,eZ<|ZH bs ts,eZ<|.int c,eZ<|.ref p1,eZ<|.ref p2,v5,eZ<|.ref p3] g3 (λe g=>wSs (wF P<|n+6) (tl 5 T5.body) e g (λ_ g=>Q .non g) Q (λ_ _=>False) (λ_ _=>False) λ_ c g=>X c g) Q (λ_ _=>False) (λ_ _=>False) λ_ c g=>X c g:=by
  refine' gf (λc3=>?_) (λc3=>?_)
  .exists ND
   fail;rw[ez,Ã];refine gf (λc4=>?_) λc4=>none_
   repeat walk_at "py1"
   refine rest (gone:=bs.filter λi=>gN (i<2)) e3 f2 b3 n23.symm m3 (nd.sublist Ļ) (λb hb=>(ø.mp hb).1) ?_;apply š;intro z;have:∀b∈bs,b∈bs.filter λi=>gN (i<2):=λb hb=>š λy=>z ⟨b,hb,y⟩;have:=XJ nd this;lia
  .exact gc rfl none_
 refine' gf (λc1=>?_) (λc1=>gc rfl low)
 exists ND
 fail;rw[ez];refine gf (λc2=>?_) λc2=>low
 exists ND
 exists ND
 fail;rw[ez];let⟨b,hb,eb'⟩:=IU (ns:=bs) (r:=c / 4 % (bs.length:Nat)) (ď _<|by lia) (Ė _<|by lia);refine fm eb' ?_;refine YE f1 (by decide) ?_;have m4:Mv h Y (upd g3 p1<|.lst<|[]++[Val.int b]) Z:=m3.put bE b1;refine rest (gone:=[b]) fh ((ff n12.symm).trans f2) b1 n12 m4 (by simp) (λd hd=>by rw[ß.mp hd];exact hb) ?_;apply š;intro z;have:∀d∈bs,d∈[b]:=λd hd=>š λy=>z ⟨d,hd,y⟩;have:=XJ nd this;rw[cJ]at this;lia
end
section
variable {Y:Yd}{N:Nat}{C:Yc}{ga ca:Ad}{gone cut:List Int}
def Fq{one:Int}(x:fw h Y)(gd:Y.cc.gd 30)(wk:Wk Y.cc gone cut)(hr:Y.cc.road.length=2*Y.ts.length)(ho:one∈Y.bs)(hn:one∉gone)(k:∀g,Q (.bl fc) g):wF P (n+8) "_law_taken_then" [.ref Y.y,ZH Y.bs Y.ts,.int (cnt Y.ts gone cut one Y.ts.length:Nat),.int one] h Q X:=by
 have aG:(Y.ts.map trV).length=Y.ts.length:=Ã _;have rdl:∀Z:Yd,(Z.road.map rdV).length=Z.cc.road.length:=λZ=>Ã _;have ō:Y.cc.std one=fc:=by rw[wk.st];exact gK ⟨ho,hn⟩
 generalize hs:cnt Y.ts gone cut one Y.ts.length=s;have xi:=x.ins;refine WD ?_
 exists Mq
 fail;rw[aG];refine' ZC x gd (by decide) (.inr ⟨.come<|2*(Y.ts.length:Nat),rfl,(Z0<|.inr<|by lia).1⟩) λg1 x1=>?_;walk_at "p";refine ZC (x.ext x1) gd (by decide) (.inr ⟨.lost<|2*(Y.ts.length:Nat),rfl,(Z0<|.inr<|by lia).2⟩) λg2 x2=>?_;have y2:=(x.ext x1).ext x2;have yi:=y2.ins;have s1:(step Y.cc<|.tick one).isSome=fc:=ME<|keys_mem.mpr ō;walk_at "p";refine Z9 (d:=.tick one) y2 gd (by decide) (λA g3 sa ma=>?_) (λg3 z=>by rw[z]at s1;cases s1);let⟨ga',qa1,qa2,_⟩:=Yx gd sa;let⟨wa,B,hB,la⟩:=wk.tick sa;rw[wk.cnt gd hB,show Y.cc.ts=Y.ts from rfl,hs,hr]at la;have rest:∀{g:Hs}{Z:Yd},Z.y=Y.y->fw g Z->Z.cc.gd 32->Wk Z.cc gone cut->Z.bs=Y.bs->Z.ts=Y.ts->Z.cc.road.length=2*Y.ts.length+(s - 1)->wSs (wF P<|n+7) (tl 4 VU.body) [eZ<|.ref Y.y,eZ<|ZH Y.bs Y.ts,eZ<|.int (s:Nat),eZ<|.int one,eZ<|.int<|2*(Y.ts.length:Nat)] g (λ_ g=>Q .non g) Q (λ_ _=>False) (λ_ _=>False) λ_ c g=>X c g:=by
  intro g Z ey yz gz wz eb et lz;have zi:=yz.ins;rw[ey]at zi;dsimp only[tl,VU];fail;rw[<-ey];refine Nf yz λq4 g4 hq4 x4 e4=>?_;have rz:=rdl Z;fail;rw[rz,lz];refine Au (λz=>gM (by split<;>lia) z) λ_=>?_;have y4:=yz.ext x4;have zst:Z.cc.std one=fc:=by rw[wz.st];exact gK ⟨by show one∈Z.bs;rw[eb];exact ho,hn⟩
  refine' ZC y4 gz (by decide) (.inr ⟨.backB one,rfl,X8 gz<|.inl zst⟩) λg5 x5=>?_;have y5:=y4.ext x5;have yi:=y5.ins;have s5:(step Z.cc<|.fallB one).isSome=fc:=Ot<|keys_mem.mpr zst;walk_at "p";refine Z9 (d:=.fallB one) y5 gz (by decide) (λV g6 sv mv=>?_) (λg6 z=>by rw[z]at s5;cases s5);let⟨gv,qv1,qv2,_⟩:=Yx gz sv;let⟨wv,lv⟩:=wz.fallB gz sv;have vst:V.cc.std one=fe:=by rw[wv.st];simp
  have eyv:V.y=Y.y:=mv.y.trans ey;rw[ey];fail;rw[<-eyv];refine ZC mv.at_ gv (by decide) (.inr ⟨.tick one,rfl,(Z6 vst).1⟩) λg7 x7=>?_;walk_at "p";refine ZC (mv.at_.ext x7) gv (by decide) (.inr ⟨.fallB one,rfl,(Z6 vst).2⟩) λg8 x8=>?_;have y8:=(mv.at_.ext x7).ext x8;have yi:=y8.ins;have vd:one∈V.cc.downs:=downs_mem.mpr ⟨by show one∈V.bs;rw[show V.bs=Z.bs from qv1,eb];exact ho,vst⟩;have s8:=DI gv vd;walk_at "p";refine Z9 (d:=.backB one) y8 gv (by decide) (λU g9 su mu=>?_) (λg9 z=>by rw[z]at s8;cases s8);let⟨gu,qu1,qu2,_⟩:=Yx gv su;let⟨wu,lu⟩:=wv.backB gv (downs_mem.mp vd).1 hn su;have ubs:U.bs=Y.bs:=qu1.trans<|qv1.trans eb;have uts:U.cc.ts=Y.ts:=qu2.trans<|qv2.trans et;have ust:U.cc.std one=fc:=by rw[wu.st];exact gK ⟨by show one∈U.bs;rw[ubs];exact ho,hn⟩
  have eyu:U.y=Y.y:=mu.y.trans eyv;have ui:=mu.at_.ins;have s9:(step U.cc<|.tick one).isSome=fc:=ME<|keys_mem.mpr ust;rw[eyv,<-eyu];refine' Z9 (d:=.tick one) mu.at_ gu (by decide) (λT g10 st mt=>?_) (λg10 z=>by rw[z]at s9;cases s9);let⟨gt,qt1,qt2,_⟩:=Yx gu st;let⟨wt,B',hB',lt⟩:=wu.tick st;rw[wu.cnt gu hB',uts,hs,lu,lv,lz]at lt;have eyt:T.y=Y.y:=mt.y.trans eyu;have ti:=mt.at_.ins;have tst:T.cc.std one=fc:=by rw[wt.st];exact gK ⟨by show one∈T.bs;rw[show T.bs=Y.bs from qt1.trans ubs];exact ho,hn⟩
  rw[eyu,<-eyt];refine' Nf mt.at_ λq11 g11 hq11 x11 e11=>?_;have rt:=rdl T;fail;rw[rt,lt];refine Au (λz=>gM (by split<;>lia) z) λ_=>?_;refine' ZC (mt.at_.ext x11) gt (by decide) (.inr ⟨.backB one,rfl,X8 gt<|.inl tst⟩) λg12 x12=>?_;walk_at "p";refine ZC ((mt.at_.ext x11).ext x12) gt (by decide) (.inr ⟨.lost<|2*(Y.ts.length:Nat)+2*(s:Nat),rfl,(Z0<|.inr<|by lia).2⟩) λg13 x13=>?_;refine' k _
 have ai:=ma.at_.ins;have eya:A.y=Y.y:=ma.y;refine' gf (λc1=>?_) (λc1=>?_)
 .fail;rw[<-eya];refine' Zc λq4 g4 hq4 x4 e4=>?_;fail;let⟨v,hv,em⟩:=WG (xs:=[Val.str "come",.str "lost"]) (r:=(s:Int) % 2) (by lia) (by show(s:Int) % 2<2;lia);refine Zj e4 hv ?_;fail;have hrd:=G9 (C:=A.cc) (r:=2*(Y.ts.length:Nat)) (by lia) (by lia);have ha4:=ma.at_.ext x4;have fin:∀(d:Dd){K:Val->Hs->Prop},(d=.come (2*(Y.ts.length:Nat))\/d=.lost (2*(Y.ts.length:Nat)))->(∀v g,wSs (wF P<|n+7) (tl 4 VU.body) [eZ<|.ref A.y,eZ<|ZH Y.bs Y.ts,eZ<|.int (s:Nat),eZ<|.int one,eZ<|.int<|2*(Y.ts.length:Nat)] g (λ_ g=>Q .non g) Q (λ_ _=>False) (λ_ _=>False) (λ_ c g=>X c g)->K v g)->wF P (n+7) "Yard.deed" [.ref A.y,d.v] g4 K λc g=>X c g:=by
   intro d K hd hk;have hsd:(step A.cc d).isSome=fc:=by rcases hd with rfl|rfl;exact hrd.2;exact hrd.1
   refine Z9 (d:=d) ha4 ga' (by decide) (λZ g5 sz mz=>?_) (λg5 z=>by rw[z]at hsd;cases hsd);let⟨gz,qz1,qz2,_⟩:=Yx ga' sz;let⟨wz,lz⟩:=wa.road (D:=Z.cc) (p:=2*(Y.ts.length:Nat)) (by rcases hd with rfl|rfl;exact .inl sz;exact .inr sz);refine hk _ _ ?_;rw[eya];exact rest (mz.y.trans eya) mz.at_ gz wz (qz1.trans qa1) (qz2.trans qa2) (by lia)
  simp only[Ç,Ó,or_false]at em;rcases em with rfl|rfl
  .exact fin (.come _) (.inl rfl) λ_ _ w=>w
  .exact fin (.lost _) (.inr rfl) λ_ _ w=>w
 .exact rest eya ma.at_ (ga'.more<|by decide) wa qa1 qa2 (by lia)
def law_ok(h63:ns.length<=63)(k:∀g,Q (.bl fc) g):wF P (n+9) "law" [.scr ns] h Q X:=by
 refine Ry ?_;refine' W2 (k:=0) λc0=>?_;refine' W2 (k:=1) λc1=>?_;refine' PH λbs ts g1 no x1=>?_;have h10:=no.ten;have ez:(bs.map Val.int).length=bs.length:=Ã _;refine' W2 (k:=0) λc2=>?_;refine' Nw λmost g2 _ _ x2=>?_;fail;intro py hpy;refine E0 no hpy λY0 g3 e3 y3 cc fr x3=>?_;subst e3;refine⟨rfl,?_⟩;refine' W2 (k:=2) λc3=>?_;refine' EW no y3 cc λY g4 ga ca gone cut m gd wk hr eb et eg ec ng nc gl gx=>?_
 exists ND
 refine' ⟨Ü (by rw[ez];exact h10) (by decide),?_⟩;refine Yj (λi ys g=>g=g4/\ys=((bs.take i).filter λb=>!gN (b∈gone)).map .int) ⟨rfl,rfl⟩ (λ_ _ _ _ _=>trivial) ?_ ?_
 .rintro i v ys g hv ⟨rfl,rfl⟩ K hK;let⟨b,hb,rfl⟩:=ZT hv;rw[Zm hb,Θ,þ,ϝ]at hK
  exists UO eg
  refine' gg (λhc=>?_) (λhc=>?_)
  .refine' hK _ _ ⟨rfl,by rw[hc,gG rfl,ã];rfl⟩
  .exact hK _ _ ⟨rfl,by rw[hc,gH (by decide),ò,ϳ,ò]⟩
 rintro ys g ⟨rfl,rfl⟩;rw[ez,ÿ];refine Zc λpu g5 hpu x5 eu=>?_;have ul:0<(bs.filter λb=>!gN (b∈gone)).length:=by let⟨b,hb,hn⟩:=gx;exact cA (ø.mpr ⟨hb,⇑hn⟩)
 have ulm:((bs.filter λb=>!gN (b∈gone)).map Val.int).length=(bs.filter λb=>!gN (b∈gone)).length:=Ã _;let⟨one,hone,eo⟩:=IU (ns:=bs.filter λb=>!gN (b∈gone)) (r:=c3 / 1000 % ((bs.filter λb=>!gN (b∈gone)).length:Nat)) (ď _<|by lia) (Ė _<|by lia);let⟨ho,hn⟩:=ø.mp hone;have hn:one∉gone:=⇑hn
 have hob:=no.rng one ho;rw[<-eb]at ho;have ō:Y.cc.std one=fc:=by rw[wk.st];exact gK ⟨ho,hn⟩
 fail;rw[ulm];refine Zj eu eo ?_;clear eu eo hone ul ulm;have y5:=m.at_.ext x5;have hr:Y.cc.road.length=2*Y.ts.length:=by rw[et];exact hr
 fail;rw[<-m.y,<-eb,<-et];refine Ux y5 gd λpb g6 hpb x6 sb=>?_;have y6:=y5.ext x6;have eg6:=x6.get<|x5.get eg;have ec6:=x6.get<|x5.get ec;refine' Zc λps g7 hps x7 e7=>?_;rw[Jv]at e7;generalize gF.cut ns (eZ 3) (eZ 50)=cs at e7;have aG:(Y.ts.map trV).length=Y.ts.length:=Ã _;refine' Zs (λi en g=>Sm2 λv9 v10=>Cj2 (en=[eZ<|.scr ns,eZ<|ZH Y.bs Y.ts,eZ<|.ref Y.y,eZ<|.int c3,eZ<|.ref ga,eZ<|.ref ca,eZ<|.ref pu,eZ<|.int one,eZ<|.ref pb,v9,v10])<|Ext g7 g) ⟨_,_,rfl,.refl⟩ (λ_ _ _ _ ⟨_,_,_,x⟩=>lsE<|x.get e7) ?_ ?_
 .rintro i v en g hv ⟨v9,v10,rfl,x⟩ K hK;let⟨c,hc,rfl⟩:=ZT hv;have x67:=x7.trans x;have egx:=x67.get eg6;have ecx:=x67.get ec6;have yx:=y6.ext x67;have sx:=sb.ext x67
  exists Mq
  fail;rw[aG];refine EY (C:=Y.cc) gd hob.1 hob.2 ō λpw g8 xs x8 e8 l8 r8=>?_;have fin:∀{q:Ad}{g9:Hs}{xs:List Val},Ext g g9->g9 q=eZ (.lst xs)->0<xs.length->Rfs g9 Y.cc xs->wSs (wF P<|n+8) #[.ite (.not<|.val<|.call "_law_refused" #[.var 2,.idx (.var 10)<|.bin .mod (.bin .fdiv (.var 9)<|.cst<|.int 3)<|.bi .len #[.var 10]]) #[.ret<|.cst<|.bl fe] .nil,.ite (.val<|.cmp .ne (.call "_law_seen" #[.var 2,.var 1])<|.var 8) #[.ret<|.cst<|.bl fe] .nil] [eZ<|.scr ns,eZ<|ZH Y.bs Y.ts,eZ<|.ref Y.y,eZ<|.int c3,eZ<|.ref ga,eZ<|.ref ca,eZ<|.ref pu,eZ<|.int one,eZ<|.ref pb,eZ<|.int c,eZ<|.ref q] g9 K Q (λ_ _=>False) (λ_ _=>False) λ_ c g=>X c g:=by
   clear x8 e8 l8 r8;intro q g9 xs x9 e9 l9 r9;let⟨v,hv,em⟩:=WG (xs:=xs) (r:=c / 3 % (xs.length:Nat)) (ď _<|by lia) (Ė _<|by lia)
   exists Zj e9 hv
   refine' ZC (yx.ext x9) gd (by decide) (r9 v em) λg10 x10=>?_;walk_at "p";refine Ux ((yx.ext x9).ext x10) gd λp11 g11 hp11 x11 s11=>?_
   exists D4 (s11.eq<|((sx.ext x9).ext x10).ext x11)
   walk_at "p";exact hK _ _ ⟨_,_,rfl,(x.trans x9).trans<|x10.trans x11⟩
  have two:∀{q:Ad}{g9:Hs}{xs:List Val},Ext g g9->g9 q=eZ (.lst xs)->0<xs.length->Rfs g9 Y.cc xs->wSs (wF P<|n+8) #[.ite (.val<|.cmp .eq (.bin .mod (.var 9)<|.cst<|.int 3)<|.cst<|.int 0) #[.set (.one 10)<|.call "_law_here" #[.var 1,.var 4,.var 5,.bin .fdiv (.var 9)<|.cst<|.int 1000]] .nil,.ite (.not<|.val<|.call "_law_refused" #[.var 2,.idx (.var 10)<|.bin .mod (.bin .fdiv (.var 9)<|.cst<|.int 3)<|.bi .len #[.var 10]]) #[.ret<|.cst<|.bl fe] .nil,.ite (.val<|.cmp .ne (.call "_law_seen" #[.var 2,.var 1])<|.var 8) #[.ret<|.cst<|.bl fe] .nil] [eZ<|.scr ns,eZ<|ZH Y.bs Y.ts,eZ<|.ref Y.y,eZ<|.int c3,eZ<|.ref ga,eZ<|.ref ca,eZ<|.ref pu,eZ<|.int one,eZ<|.ref pb,eZ<|.int c,eZ<|.ref q] g9 K Q (λ_ _=>False) (λ_ _=>False) λ_ c g=>X c g:=by
   clear x8 e8 l8 r8;intro q g9 xs x9 e9 l9 r9;refine' gf (λz=>?_) (λz=>fin x9 e9 l9 r9);refine' GR (C:=Y.cc) gd wk hr (x9.get egx) (x9.get ecx) gl λp10 g10 xs10 x10 e10 l10 r10=>?_
   repeat (first|exact fin (x9.trans x10) e10 l10 r10|walk_at "py1")
  refine' gf (λz=>?_) (λz=>two x8 e8 l8 r8);refine' Dq (C:=Y.cc) gd λp9 g9 xs9 x9 e9 l9 r9=>?_
  repeat (first|exact two (x8.trans x9) e9 l9 r9|walk_at "py1")
 .rintro en g ⟨v9,v10,rfl,x⟩;have x67:=x7.trans x
  exists Ec (C:=Y.cc) gd (x67.get eg6) (x67.get ec6)
  refine' Fq (y6.ext x67) gd wk hr ho hn k
end
end gF
set_option maxRecDepth 1000000
set_option maxHeartbeats 0
namespace My
open PySem L2 Snd PySem.W
abbrev top(i:Nat):Stmt:=PySem.Challenge.pw_shutways_k25_deeds_refused.main.body.getD i<|.Pass ⟨0,0,0,0⟩
abbrev inC:Stmt->Nat->Stmt
 |.ClassDef _ _ _ b _ _ _ _ _ _ _,j=>b.getD j<|.Pass ⟨0,0,0,0⟩
 |s,_=>s
abbrev x0:Ds:=⟨top 11,["thing"],["thing"],gF.T3⟩
abbrev x1:Ds:=⟨top 13,["net","bridge","found","place","tie"],["net","bridge"],gF.VC⟩
abbrev x2:Ds:=⟨top 14,["tie","bridge"],["tie","bridge"],gF.T1⟩
abbrev x3:Ds:=⟨top 23,["one","other"],["one","other"],gF.VD⟩
abbrev x4:Ds:=⟨top 25,["bridge","offers","better"],["bridge","offers"],gF.Tv⟩
abbrev x5:Ds:=⟨top 31,["some","words"],["some"],gF.VE⟩
abbrev x6:Ds:=⟨top 33,["script","k"],["script","k"],gF.T7⟩
abbrev x7:Ds:=⟨top 34,["cell","k","number"],["cell","k"],gF.VX⟩
abbrev x8:Ds:=⟨top 35,["cell","many","rest","plain","found","k"],["cell","many"],gF.T8⟩
abbrev x9:Ds:=⟨top 36,["sizes","many","width"],["sizes"],gF.T6⟩
abbrev x10:Ds:=⟨top 37,["bridges","three","k","size","one","other","cost","pair"],["bridges","three","k"],gF.VA⟩
abbrev x11:Ds:=⟨top 38,["first","second","sizes","bridges","many","draws","ties"],["first","second"],gF.VW⟩
abbrev x12:Ds:=⟨top 39,["first","sizes"],["first"],gF.T9⟩
abbrev x13:Ds:=⟨top 40,["found","due","k"],["found","due"],gF.VM⟩
abbrev x14:Ds:=⟨top 41,["yard","net","ends"],["yard","net"],gF.VN⟩
abbrev x15:Ds:=⟨top 42,["yard","thing","caught","error"],["yard","thing"],gF.VJ⟩
abbrev x16:Ds:=⟨top 43,["one","size","bad"],["one","size"],gF.VB⟩
abbrev x17:Ds:=⟨top 44,["some","thing","what"],[],gF.VY⟩
abbrev x18:Ds:=⟨top 45,["net","gone","cut","cell","far","number","stranger","size","bad","place"],["net","gone","cut","cell"],gF.VZ⟩
abbrev x19:Ds:=⟨top 46,["net","gone","cut","one","count","place","tie"],["net","gone","cut","one"],gF.VO⟩
abbrev x20:Ds:=⟨top 47,["yard","net","sends","one","size"],["yard","net","sends","one"],gF.VU⟩
abbrev x21:Ds:=⟨top 48,["yard","net","cell","gone","cut","number","low"],["yard","net","cell"],gF.T5⟩
abbrev x22:Ds:=⟨top 49,["script","net","yard","cell","gone","cut","up","one","before","choice","some"],["script"],gF.T4⟩
abbrev z0:Ds:=⟨inC (top 27) 0,["self","number","life","ties","greatest","place","neighbour","cost"],["self","number","life","ties","greatest"],gF.TK⟩
abbrev z1:Ds:=⟨inC (top 27) 2,["self"],["self"],gF.TU⟩
abbrev z2:Ds:=⟨inC (top 27) 3,["self"],["self"],gF.TF⟩
abbrev z3:Ds:=⟨inC (top 27) 4,["self","place"],["self","place"],gF.TW⟩
abbrev z4:Ds:=⟨inC (top 27) 5,["self","place","neighbour","cost"],["self","place","neighbour","cost"],gF.TQ⟩
abbrev z5:Ds:=⟨inC (top 27) 6,["self","place"],["self","place"],gF.TZ⟩
abbrev z6:Ds:=⟨inC (top 27) 7,["self","place","letter","held"],["self","place","letter"],gF.TX⟩
abbrev z7:Ds:=⟨inC (top 27) 8,["self","letters"],["self"],gF.TL⟩
abbrev z8:Ds:=⟨inC (top 27) 9,["self","older","place","held"],["self"],gF.TB⟩
abbrev z9:Ds:=⟨inC (top 27) 10,["self","offers","place","held","neighbour","cost","best","root"],["self"],gF.TD⟩
abbrev z10:Ds:=⟨inC (top 27) 11,["self","label"],["self","label"],gF.TH⟩
abbrev z11:Ds:=⟨inC (top 27) 12,["self","place","root","cost","over","rests","age","ahead"],["self","place"],gF.TC⟩
abbrev z12:Ds:=⟨inC (top 27) 13,["self","place","held"],["self","place"],gF.TN⟩
abbrev z13:Ds:=⟨inC (top 27) 14,["self","place","held"],["self","place"],gF.TM⟩
abbrev z14:Ds:=⟨inC (top 27) 15,["self","place"],["self","place"],gF.TY⟩
abbrev z15:Ds:=⟨inC (top 30) 0,["self","net","greatest","number"],["self","net","greatest"],gF.Tu⟩
abbrev z16:Ds:=⟨inC (top 30) 4,["self"],["self"],gF.Tg⟩
abbrev z17:Ds:=⟨inC (top 30) 5,["self","fallen"],["self"],gF.Tw⟩
abbrev z18:Ds:=⟨inC (top 30) 6,["self"],["self"],gF.Tf⟩
abbrev z19:Ds:=⟨inC (top 30) 7,["self"],["self"],gF.Tp⟩
abbrev z20:Ds:=⟨inC (top 30) 9,["self","place","one","other","cost"],["self","place"],gF.Tk⟩
abbrev z21:Ds:=⟨inC (top 30) 10,["self","number","place"],["self","number","place"],gF.Tj⟩
abbrev z22:Ds:=⟨inC (top 30) 11,["self","place"],["self","place"],gF.To⟩
abbrev z23:Ds:=⟨inC (top 30) 12,["self","some","words","number"],["self","some"],gF.Tx⟩
abbrev z24:Ds:=⟨inC (top 30) 13,["self","number","place","letter","goal"],["self","number"],gF.Tr⟩
abbrev z25:Ds:=⟨inC (top 30) 14,["self","place","start","goal","tie","letter"],["self","place"],gF.Tz⟩
abbrev z26:Ds:=⟨inC (top 30) 15,["self","place"],["self","place"],gF.Tq⟩
abbrev z27:Ds:=⟨inC (top 30) 16,["self","number"],["self","number"],gF.Tm⟩
abbrev z28:Ds:=⟨inC (top 30) 17,["self","place"],["self","place"],gF.Tn⟩
abbrev z29:Ds:=⟨inC (top 30) 18,["self","number"],["self","number"],gF.TR⟩
abbrev z30:Ds:=⟨inC (top 30) 19,["self","place"],["self","place"],gF.TV⟩
abbrev z31:Ds:=⟨inC (top 30) 20,["self","number","place","neighbour","cost"],["self","number"],gF.Tl⟩
abbrev z32:Ds:=⟨inC (top 30) 21,["self","place","one","other","cost","stands","near","far"],["self","place"],gF.Ti⟩
abbrev tb:Tb where
 fs:=[("is_whole",x0),("neighbours",x1),("far_end",x2),("newer",x3),("best_offer",x4),("read_deed",x5),("_law_cell_at",x6),("_law_mixed",x7),("_law_draws",x8),("_law_bridges",x9),("_law_tie",x10),("_law_net",x11),("_law_greatest",x12),("_law_same",x13),("_law_seen",x14),("_law_refused",x15),("_law_words",x16),("_law_kinds",x17),("_law_here",x18),("_law_sends",x19),("_law_taken_then",x20),("_law_begun",x21),("law",x22)]
 ms:=[⟨"Bridge","__init__","Bridge.__init__",z0⟩,⟨"Bridge","label","Bridge.label",z1⟩,⟨"Bridge","stamp","Bridge.stamp",z2⟩,⟨"Bridge","held","Bridge.held",z3⟩,⟨"Bridge","up","Bridge.up",z4⟩,⟨"Bridge","down","Bridge.down",z5⟩,⟨"Bridge","hear","Bridge.hear",z6⟩,⟨"Bridge","tick","Bridge.tick",z7⟩,⟨"Bridge","let_grow_older","Bridge.let_grow_older",z8⟩,⟨"Bridge","reckon_label","Bridge.reckon_label",z9⟩,⟨"Bridge","take_label","Bridge.take_label",z10⟩,⟨"Bridge","letter_over","Bridge.letter_over",z11⟩,⟨"Bridge","is_rested_on","Bridge.is_rested_on",z12⟩,⟨"Bridge","is_agreed_to","Bridge.is_agreed_to",z13⟩,⟨"Bridge","end","Bridge.end",z14⟩,⟨"Yard","__init__","Yard.__init__",z15⟩,⟨"Yard","road","Yard.road",z16⟩,⟨"Yard","down","Yard.down",z17⟩,⟨"Yard","labels","Yard.labels",z18⟩,⟨"Yard","stamps","Yard.stamps",z19⟩,⟨"Yard","ends","Yard.ends",z20⟩,⟨"Yard","end_at","Yard.end_at",z21⟩,⟨"Yard","has_tie","Yard.has_tie",z22⟩,⟨"Yard","deed","Yard.deed",z23⟩,⟨"Yard","tick_of","Yard.tick_of",z24⟩,⟨"Yard","come","Yard.come",z25⟩,⟨"Yard","take_off","Yard.take_off",z26⟩,⟨"Yard","fall_of_bridge","Yard.fall_of_bridge",z27⟩,⟨"Yard","fall_of_tie","Yard.fall_of_tie",z28⟩,⟨"Yard","back_of_bridge","Yard.back_of_bridge",z29⟩,⟨"Yard","back_of_tie","Yard.back_of_tie",z30⟩,⟨"Yard","set_ties_of","Yard.set_ties_of",z31⟩,⟨"Yard","set_tie","Yard.set_tie",z32⟩]
 cs:=[("NUMBER",(.int 0)),("STAMP",(.int 1)),("ROOT",(.int 2)),("COST",(.int 3)),("AGE",(.int 4)),("RESTS",(.int 5)),("AGREES",(.int 6)),("DEEDS",(.tup [(.tup [(.str "tick")]),(.tup [(.str "come")]),(.tup [(.str "lost")]),(.tup [(.str "fall"),(.str "bridge")]),(.tup [(.str "fall"),(.str "tie")]),(.tup [(.str "back"),(.str "bridge")]),(.tup [(.str "back"),(.str "tie")])]))]
 cl:=["Bridge","Yard"]
 fl:=["age_let_go","greatest_age","held_by_place","label_now","letters_on_road","life","lives","net_made_of","number","standing","ticks_had","ties_by_place","ties_fallen","version"]
 xs:=["NoNet","NoOrder","NoLetter","NoDeed","NoLine","NoCommand","NoFrame"]
abbrev pg:gF.Pg:=λf=>(([("is_whole",gF.T3),("neighbours",gF.VC),("far_end",gF.T1),("newer",gF.VD),("best_offer",gF.Tv),("read_deed",gF.VE),("_law_cell_at",gF.T7),("_law_mixed",gF.VX),("_law_draws",gF.T8),("_law_bridges",gF.T6),("_law_tie",gF.VA),("_law_net",gF.VW),("_law_greatest",gF.T9),("_law_same",gF.VM),("_law_seen",gF.VN),("_law_refused",gF.VJ),("_law_words",gF.VB),("_law_kinds",gF.VY),("_law_here",gF.VZ),("_law_sends",gF.VO),("_law_taken_then",gF.VU),("_law_begun",gF.T5),("law",gF.T4),("Bridge.__init__",gF.TK),("Bridge.label",gF.TU),("Bridge.stamp",gF.TF),("Bridge.held",gF.TW),("Bridge.up",gF.TQ),("Bridge.down",gF.TZ),("Bridge.hear",gF.TX),("Bridge.tick",gF.TL),("Bridge.let_grow_older",gF.TB),("Bridge.reckon_label",gF.TD),("Bridge.take_label",gF.TH),("Bridge.letter_over",gF.TC),("Bridge.is_rested_on",gF.TN),("Bridge.is_agreed_to",gF.TM),("Bridge.end",gF.TY),("Yard.__init__",gF.Tu),("Yard.road",gF.Tg),("Yard.down",gF.Tw),("Yard.labels",gF.Tf),("Yard.stamps",gF.Tp),("Yard.ends",gF.Tk),("Yard.end_at",gF.Tj),("Yard.has_tie",gF.To),("Yard.deed",gF.Tx),("Yard.tick_of",gF.Tr),("Yard.come",gF.Tz),("Yard.take_off",gF.Tq),("Yard.fall_of_bridge",gF.Tm),("Yard.fall_of_tie",gF.Tn),("Yard.back_of_bridge",gF.TR),("Yard.back_of_tie",gF.TV),("Yard.set_ties_of",gF.Tl),("Yard.set_tie",gF.Ti)]:List<|String×gF.Fn).lookup f)
instance:gF.Al pg:=by constructor<;>rfl
variable {α:Type} {p:List α->Prop}
def ar0(h:p [])(us:List α)(e:us.length=0):p us:=match us,e with|[],_=>h
def ar1(h:∀a0,p [a0])(us:List α)(e:us.length=1):p us:=match us,e with|[a0],_=>h a0
def ar2(h:∀a0 a1,p [a0,a1])(us:List α)(e:us.length=2):p us:=match us,e with|[a0,a1],_=>h a0 a1
def ar3(h:∀a0 a1 a2,p [a0,a1,a2])(us:List α)(e:us.length=3):p us:=match us,e with|[a0,a1,a2],_=>h a0 a1 a2
def ar4(h:∀a0 a1 a2 a3,p [a0,a1,a2,a3])(us:List α)(e:us.length=4):p us:=match us,e with|[a0,a1,a2,a3],_=>h a0 a1 a2 a3
def ar5(h:∀a0 a1 a2 a3 a4,p [a0,a1,a2,a3,a4])(us:List α)(e:us.length=5):p us:=match us,e with|[a0,a1,a2,a3,a4],_=>h a0 a1 a2 a3 a4
variable {P:String->Ds->Prop}
def mc{f:String}{x:Ds}{l:List (String×Ds)}(h:P f x)(k:∀g y,(g,y)∈l->P g y):∀g y,(g,y)∈(f,x)::l->P g y:=λg y m=>by
 rcases Ç.mp m with e|m
 .cases e;exact h
 .exact k g y m
def mn:∀g y,(g,y)∈([]:List<|String×Ds)->P g y:=λ_ _ m=>nomatch m
def Gp:∀f x,(f,x)∈tb.fs.drop 12->x.Ok tb:=by
 iterate 11 refine mc ⟨by kernel_rfl,by kernel_rfl⟩ ?_
 exact mn
def tab_ok:∀f x,(f,x)∈tb.fs->x.Ok tb:=by
 iterate 12 refine mc ⟨by kernel_rfl,by kernel_rfl⟩ ?_
 exact Gp
def tab_pg:∀f x,(f,x)∈tb.fs->pg f=eZ x.d:=by repeat first|exact mn|refine mc rfl ?_
def tab_bd:∀f x,(f,x)∈tb.fs->Hd.Bd (gO f) (gO f) x:=by repeat first|exact mn|refine mc (λ_ _ _ _ _ _=>(by first|exact ar0 rfl|exact ar1 λ_=>rfl|exact ar2 λ_ _=>rfl|exact ar3 λ_ _ _=>rfl|exact ar4 λ_ _ _ _=>rfl|exact ar5 λ_ _ _ _ _=>rfl)) ?_
def md{P:α->Prop}{x:α}{l:List α}(h:P x)(k:∀y,y∈l->P y):∀y,y∈x::l->P y:=λy m=>by
 rcases Ç.mp m with e|m
 .cases e;exact h
 .exact k y m
def me{P:α->Prop}:∀y,y∈([]:List α)->P y:=λ_ m=>nomatch m
def Ga:∀y,y∈tb.ms.drop 24->y.x.Ok tb:=by
 iterate 9 refine md ⟨by kernel_rfl,by kernel_rfl⟩ ?_
 exact me
def Fr:∀y,y∈tb.ms.drop 12->y.x.Ok tb:=by
 iterate 12 refine md ⟨by kernel_rfl,by kernel_rfl⟩ ?_
 exact Ga
def tab_om:∀y,y∈tb.ms->y.x.Ok tb:=by
 iterate 12 refine md ⟨by kernel_rfl,by kernel_rfl⟩ ?_
 exact Fr
def tab_pm:∀y,y∈tb.ms->pg (y.C ++ "." ++ y.m)=eZ y.x.d:=by repeat first|exact me|refine md rfl ?_
def tab_bm:∀y,y∈tb.ms->Hd.Bd (gO y.m) (gO y.qual) y.x:=by repeat first|exact me|refine md (λ_ _ _ _ _ _=>(by first|exact ar0 rfl|exact ar1 λ_=>rfl|exact ar2 λ_ _=>rfl|exact ar3 λ_ _ _=>rfl|exact ar4 λ_ _ _ _=>rfl|exact ar5 λ_ _ _ _ _=>rfl)) ?_
def law_in:("law",x22)∈tb.fs:=ë (i:=22) rfl
noncomputable abbrev pr:Program:=PySem.Challenge.rw_shutways_k25_deeds_refused.row.prog
noncomputable abbrev vw:Program:=PySem.W.view pr [0,2,3,4,5,6,7,8,9,11,13,14,16,17,18,19,20,21,22,23,25,27,29,30,31,33,34,35,36,37,38,39,40,41,42,43,44,45,46,47,48,49]
noncomputable abbrev xt(s:Shared):Bool:=xlAt vw [] s&&recOk (RowW.records PySem.Challenge.rw_shutways_k25_deeds_refused.row.toRowW) s
def said:PySem.Challenge.rw_shutways_k25_deeds_refused.wellSaid=fc:=by rw[Fast.te9446332074065402090];kernel_rfl
def l1:∀w os,(Hd.runY pr 12000 w os).map (Hd.stY pr w)=eZ fc:=λw os=>by kernel_rfl
def l2:∀w os,(Hd.runY pr 12000 w os).map (λs=>Hd.seenY vw [] (Hd.modsY pr.main.body) xt fc s.abs)=eZ (openGood vw []):=λw os=>by kernel_rfl
def l3:∀w os,(Hd.runY pr 12000 w os).map (λs=>(Hd.hook tb).obs s.abs)=eZ ((Hd.hook tb).val w):=λw os=>by kernel_rfl
def left:LeftO pr vw [] xt (Hd.hook tb).obs (Hd.hook tb).val 12000:=Hd.left_of (by kernel_rfl) rfl (λs=>by kernel_rfl) l1 l2 l3
end My
open PySem PySem.W PyProof.Rows
theorem PySem.Challenge.cw_shutways_k25_deeds_refused_holds : PySem.Challenge.rw_shutways_k25_deeds_refused.Holds := by
 refine holds_law My.said λsaid=>?_;refine holds_open (q:=My.vw) (loose:=[]) (Xt:=My.xt) (XP:=XL My.vw []) (YP:=(Hd.hook My.tb).says) My.left (Hook.of _) (Hook.keeps _) (λs e=>xl_of s (Ť.mp e).1) XL.keeps (by rfl) (by rfl) (by rfl) (λs e=>recFacts_of (Ť.mp e).2) (by rfl) said (by decide +kernel) ⟨rfl,rfl,rfl,rfl,rfl,by decide +kernel⟩ ?hw ?hc
 case hw=>w_on;w_witness2
 case hc=>exact Hd.law_walk (k:=8) rfl rfl rfl ⟨rfl,by decide,by decide⟩ My.law_in rfl rfl My.tab_pg My.tab_pm My.tab_ok My.tab_om My.tab_bd My.tab_bm λns hl=>gF.law_ok (n:=0) hl λ_=>rfl
