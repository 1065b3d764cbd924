import PyProof.Rows.All
import Wide.All
import OpenK.AllK
import Wide.FinOn
import PyProof.EqAt
import PyProof.EqKinds
import PyProof.TupleCall
import Lean
import PySem.Challenge.RW_shutways_k63_rows_counted
set_option Elab.async false
set_option bootstrap.genMatcherCode false
set_option compiler.extract_closed false
set_option genSizeOf false
local macro_rules|`(command|def $x:declId $b:bracketedBinder*:$t $v:declVal)=>`(command|theorem $x:declId $b:bracketedBinder*:$t $v:declVal)
local macro_rules|`(command|abbrev $x:declId $s:optDeclSig $v:declVal)=>`(command|noncomputable def $x:declId $s:optDeclSig $v:declVal)
local macro_rules|`(tactic|simp! [$l,*])=>`(tactic|simp only[$l,*])|`(tactic|simp! [$l,*]at $h:ident)=>`(tactic|simp only[$l,*]at $h:ident)
local macro_rules|`(tactic|k_ne)=>do
 let i:=λs=>Lean.mkIdent<|.mkSimple s
 `(tactic|intro $(i "X") $(i "hP") $(i "hw") $(i "hK") $(i "hc") $(i "i") $(i "Â") $(i "s") $(i "σ") $(i "H") $(i "E") $(i "I") $(i "hf") $(i "st") $(i "hg"))
local macro_rules|`(tactic|k_sub)=>do
 let i:=λs=>Lean.mkIdent<|.mkSimple s
 `(tactic|intro $(i "Â") $(i "s") $(i "σ") $(i "H") $(i "x") $(i "y") $(i "v") $(i "u") $(i "Q") $(i "I") $(i "rx") $(i "ry") $(i "h"))
local macro_rules|`(tactic|k_upd)=>do
 let i:=λs=>Lean.mkIdent<|.mkSimple s
 `(tactic|intro $(i "Â") $(i "s") $(i "σ") $(i "H") $(i "Q") $(i "I") $(i "h"))
local macro_rules|`(tactic|k_put)=>do
 let i:=λs=>Lean.mkIdent<|.mkSimple s
 `(tactic|intro $(i "Â") $(i "s") $(i "σ") $(i "H") $(i "xs") $(i "us") $(i "Q") $(i "I") $(i "r") $(i "h"))
local macro_rules|`(tactic|k_get)=>do
 let i:=λs=>Lean.mkIdent<|.mkSimple s
 `(tactic|intro $(i "v") $(i "u") $(i "G") $(i "H") $(i "x") $(i "y") $(i "c") $(i "Q") $(i "g") $(i "rx") $(i "ry") $(i "e") $(i "q"))
set_option linter.all false
set_option maxRecDepth 100000
open PySem.Str renaming ofString->gN
open Decidable renaming decide->gM
open Option renaming some->fb, none->fc
open Bool renaming true->fe, false->ff
open PySem.W (Frag)
open Array renaming length_toList->Ğ, getElem?_toList->Ŏ, getElem?_eq_some_iff->π, toList->bP, toList_inj->eV
open Bool renaming false_ne_true->ý, false_eq_true->ĸ, not_eq_true'->œ, and_true->Λ, or_false->Ϭ, not_not->ao, false_xor->bf, true_xor->bK, and_eq_true_iff->cW
open Char renaming toNat->ŗ
open False renaming elim->Ń
open ForInStep renaming yield->ķ
open Function renaming comp_apply->bS
open Int renaming toNat_natCast->é, emod_lt_of_pos->Ĩ, emod_nonneg->Į, toNat_of_nonneg->ϭ, le_refl->aU, mul_nonneg->bA, le_ediv_iff_mul_le->cx, sub_zero->cB, ediv_lt_iff_lt_mul->cC, mul_one->dj, add_mul->dy, one_mul->dz, le_of_lt_add_one->dA, natCast_nonneg->eZ
open List renaming length_map->À, length_append->Å, mem_cons->Ç, size_toArray->É, mem_append_right->Ê, map_append->Ì, replicate->Í, getElem?_eq_some_iff->Î, length_cons->Ð, map_cons->Ó, not_mem_nil->Õ, mem_singleton->Ö, getElem?_eq_getElem->Ù, mem_append->Û, mem_append_left->Ý, getElem?_map->ß, length_replicate->á, nodup_append->ã, map_map->ä, mem_cons_of_mem->æ, mem_map->ç, mem_of_getElem?->ë, append_nil->í, replicate_succ->ï, take_length->ñ, filterMap_cons->ò, lookup_cons->õ, mem_map_of_mem->ö, append_assoc->û, mem_cons_self->ü, all_eq_true->ÿ, nodup_cons->Ā, length_singleton->Ă, length_range->ą, contains_iff_mem->ć, length_nil->Ĉ, flatten_cons->Ċ, getElem?_append_left->Č, map_congr_left->Ď, getElem?_append_right->đ, getD_eq_getElem?_getD->Ē, foldl_cons->ē, find?_cons->ę, length_take->Ě, nodup_nil->ġ, map_inj_left->Ģ, filter_cons->ħ, flatMap_cons->ĭ, any_cons->ı, mem_flatMap->Ĳ, zip_cons_cons->Ķ, length_filter_le->ĺ, drop_eq_getElem_cons->ľ, mem_filter->ŀ, mergeSort_perm->ŉ, getElem?_replicate->Ŋ, mem_range->Ŗ, length_filterMap_le->Ş, set_cons_succ->ţ, length_eq_zero_iff->Ť, map_nil->ū, drop_eq_nil_of_le->Ŭ, getElem?_eq_none->Ŷ, length_mergeSort->ŷ, cons_append->Ÿ, getElem?_set_ne->ż, lookup->Ž, eq_nil_of_length_eq_zero->ž, length_set->ζ, flatMap_append->ι, mem_filterMap->ρ, zip_nil_right->ς, zip_nil_left->Δ, take_add_one->Ζ, map_id->Η, foldl_append->Θ, length_drop->Τ, getElem_mem->Υ, zipIdx_cons->Ψ, getElem?_set_self->ύ, forIn_cons->ϓ, drop_zero->ϟ, mapM_cons->Ϡ, length_take_le'->ϡ, take_succ_cons->Ϫ, filter_sublist->ϫ, filterMap_map->ϯ, set_cons_zero->ϱ, eraseIdxIfInBounds_toArray->au, of_mem_zip->aS, nil_append->aT, nodup_iff_pairwise_ne->bg, foldl_nil->bh, length_erase_of_mem->bM, pairwise_mergeSort->bQ, length_eraseIdx_le->bT, pairwise_lt_range->b9, length_pos_of_mem->ca, dropLast_eq_take->cA, set_append_left->cU, getElem?_range->dq, filter_eq_self->dr, length_pos_iff->du, length_reverse->dB, replicate_zero->dC, foldl->dR, map_replicate->dY, getElem_range->dZ, append_of_mem->d6, filter_append->d7, reverse_cons->eU, pairwise_map->eW
open List.Sublist renaming refl->ś
open Nat renaming lt_of_le_of_lt->Ë, le_refl->Ï, le_trans->Þ, ne_of_lt->â, lt_of_lt_of_le->å, lt_irrefl->Ĕ, zero_le->ī, ne_of_gt->İ, lt_succ_self->ĳ, le_succ->Ŧ, lt_trans->Ű, zero_add->Ų, le_of_lt->ο, lt_succ_of_lt->Ι, succ_le_succ->Ω, le_add_right->ϊ, mul_comm->av, sub_zero->ay, min_le_right->aI, min_eq_left->bc, mul_le_mul_left->dX
open Option renaming map_eq_some_iff->Ò, bind_eq_some_iff->î, isSome_iff_exists->ô, bind_some->ú, map_some->Ľ, getD_some->Κ, isSome_map->ϰ, not_isSome_iff_eq_none->az, isNone_iff_eq_none->a9, toList_none->cV, getD_none->dO
open Option.some renaming inj->ê, injEq->Ĵ
open Prod.mk renaming injEq->ŵ
open PyProof.Rows renaming IntsAre->Ġ, kindOf->χ, AllBare->ό, seqObj->ϔ, IsTup->ϳ, subscriptTail->aD, envOfC->aH, Constant_none->dh, subscriptTail_builtinR->eN
open PySem renaming wpAny_bind->Á, Value->Ä, Shared->Æ, Addr->È, wpAny_pure->Ñ, starEach->Ú, sizeLine->Ü, model->à, Program->è, compareOp->ð, wpAny_loadPart'->ø, World->ā, wpAny_field->ă, wpAny_callSpecial?_slot->Ą, Heap->Ć, mainGlobals->ĉ, wpAny_seqItems->ċ, Around->č, wpAny_call_entry->ď, wpAny_truthy_bool->Đ, wpAny_Call_Name_kw->ĕ, attributeBase->Ė, foldedSetIterable->Ę, backTo->ě, assignEach->Ĝ, sliceBounds->ĝ, wpAny_newObj_type->ģ, cLine->Ħ, builtinLookup_eq_fast->ĩ, wpAny_holding->Ĭ, argBest->į, behindInMarks->Ļ, Stmt->Ł, holding->Ņ, binaryOp->ņ, FuncData->Ň, keywordEach->ň, isSubtype_type->ō, sysModules->Ő, wpAny_mono->ő, wpAny_setField_rec->Œ, codeAny_builtin->Ŕ, typeLookup_type->ŕ, IsPair->Ř, wpAny_pyIter_list->Ś, rawInt->Ŝ, bootBuiltins->š, plainId_quiet->Ū, wpAny_ite_split->ŭ, pyNext->Ů, wpAny_pyIter_tuple->ů, tupleKind_room_in1->ű, swapsWith->ų, wpAny_letGo->Ŵ, backToKw->Ź, wpAny_tryCatch->ź, Scope->ſ, assign->η, wpAny_isInstance->θ, wpAny_attempt->ξ, wpAny_passesOwn->υ, wpAny_typeOf->Ε, call_meets->Ξ, wpAny_rule->Ο, standAt->ώ, wpAny_pyIter_enum->Ϗ, swapsWithSole->ϐ, swappedStores->ϑ, IsPart->ϒ, Operator->ϗ, getMethod->Ϙ, NameKind->ϙ, seqItems?->Ϛ, IsZip->ϛ, wpAny_pyIter_zip->Ϝ, getItem->Ϣ, codeAny_mono->ϣ, valueAt->Ϥ, call_meetsIn->ϥ, sliceRange->Ϧ, letOwnedTupleGo->Ϩ, wpAny_updateSeq->ϩ, sizeLine_eq->ϴ, PyData->ϵ, field->Ϸ, wpAny_setField->ϸ, firstArgMember->Ϲ, wpAny_of_eq->Ϻ, isSubtype_stop->aa, wpAny_updateSeq_pair->ae, tupleKind->ai, PassesOwn->aj, callerA->ak, wpAny_onRaise->aE, setItem->aW, seqIndex_neg->aX, slot_list_getitem->aY, Keyword->aZ, ZipApart->a8, lastMarks->bv, Result->bw, noFill_tuple_add->bx, noteFrame->bz, entryFor_of_tree->bB, seqIndex_of->bI, wpAny_specialOf->bR, relabel->bY, isTrue->cf, CmpOp->cg, callWith->cj, typeLookup->cp, PlainAttrs->cq, wpAny_letOwnedTupleGo_enum->cr, evalEach->cu, atKey->cy, argsOk->cz, entryFor->cD, methodCallForm->cE, wpAny_letOwnedTupleGo_zip->cT, wpAny_standAt->di, seq_tuple_add->dk, wpAny_getItem_list_slice->dm, wpAny_comprehension_free->dn, bindC->dN, slicePick->dP, wpAny_Call_method0_late->dQ, wpAny_pyNext_enum_itemD->dU, release->eF, richCompare_meets_room->eK, concat_meets->eL, wpAny_getItem_list_neg->eP, callType_new->eR, stored->eS
open PySem.Around renaming under_plainId->Ŀ, under->bH
open PySem.Builtin renaming iter->ũ
open PySem.Builtin.Str renaming strSliceIndices->Α
open PySem.Code renaming isFrame->bX
open PySem.FuncData.mk renaming injEq->bL
open PySem.Heap renaming get?_push_of_some->Ã, get?_push_size->Ô, lt_size->Ø, get?_update_other->þ, size_push->ğ, get?_update_self->Ĺ, SameBut->ν, IsTuple->bZ, LeftW->dW
open PySem.Heap.SameBut renaming update->Χ
open PySem.NameKind renaming free->Ĥ, cell->eQ
open PySem.Obj renaming mapSeq->ψ, data_mapFields->ω, isFreed_of_fields->cS
open PySem.PyData renaming eqv->ĥ, depthAll->ļ, canLayAll0->ŏ, canLay0->ŧ, eqvAll->Γ
open PySem.Shared renaming heap->aw
open PySem.Value renaming notImplemented->ck
open PySem.Value.type renaming inj->ŝ
open PySem.W renaming boot_heap->Ţ, findIn->ac, boot_drawn->aJ, SharedT->bb, boot_toks->bC, mg_of->cF, nsIn->eX, kitOne->eY
open String renaming ofList->Β, singleton->am, length_toList->b6, toList_ofList->b7, length_append->b8
open UInt32.toNat renaming inj->bJ
def bAq(a b:Bool):((a&&b)=fe)=(a=fe/\b=fe):=Bool.and_eq_true a b
abbrev gF:=@if_pos
abbrev gG:=@if_neg
abbrev gH:=@decide_eq_false
abbrev gJ:=@decide_eq_true
abbrev gK:=@decide_eq_true_eq
@[reducible] noncomputable def gL:=@absurd
local macro_rules|`(tactic|let $p:term:=$e)=>do
 let k:=`Lean.Parser.Tactic
 let n(c:Lean.Name)(a:Array Lean.Syntax):Lean.Syntax:=.node .none (k++c) a
 let m(s:Lean.Syntax):=if s.isIdent then n `rcasesPat.one #[s]else if s.isOfKind ``Lean.Parser.Term.hole then n `rcasesPat.ignore #[s[0]]else if s.isOfKind ``Lean.Parser.Term.anonymousCtor then n `rcasesPat.tuple #[s[0],Lean.mkNullNode (s[1].getArgs.map λx=>if x.isAtom then x else n `rcasesPatLo #[n `rcasesPatMed #[Lean.mkNullNode #[x]],Lean.mkNullNode]),s[2]]else s
 `(tactic|obtain $(⟨n `rcasesPatMed #[Lean.mkNullNode #[p.raw.rewriteBottomUp m]]⟩):rcasesPatMed:=$e)
local macro_rules|`(command|instance $x:declId:$t $v:declVal)=>do
 if t.raw.getId != `Fn then Lean.Macro.throwUnsupported
 `(command|noncomputable abbrev $x:declId:$t $v:declVal)
local macro_rules|`(⇑$h)=>`(by simpa using $h)
namespace L2
open PySem PySem.Spec PyProof.Rows
noncomputable abbrev Key:=Sum Int Str
abbrev JC:Key->Ä->Bool
 |.inl k,v=>Value.isInt k v
 |.inr x,v=>Value.isStrOf x v
abbrev Sl(w:ā):Key->Int
 |.inl k=>hashInt k
 |.inr x=>hashStr w x
def Zr:∀{k:Key}{v:Ä},JC k v=fe->(∃i t,k=Sum.inl i/\v=Value.int i t)\/(∃x t,k=Sum.inr x/\v=Value.str x t)
 |.inl i,v,h=>by let⟨t,e⟩:=Value.isInt_shape (k:=i) (v:=v) h;exact .inl ⟨i,t,rfl,e⟩
 |.inr x,v,h=>by let⟨t,e⟩:=Value.isStrOf_shape (x:=x) (v:=v) h;exact .inr ⟨x,t,rfl,e⟩
def AX(i:Int)(t:Tok):JC (.inl i) (.int i t)=fe:=by simp[JC,Value.isInt]
def AQ(x:Str)(t:Tok):JC (.inr x) (.str x t)=fe:=by simp[JC,Value.isStrOf]
def LV(a b:Int):gM ((Sum.inl a:Key)=Sum.inl b)=(a==b):=by
 by_cases e:a=b
 .subst e;simp
 .have h:¬ (Sum.inl a:Key)=Sum.inl b:=λq=>e<|Sum.inl.inj q;rw[gH h];exact(beq_eq_false_iff_ne.mpr e).symm
def Ig(a b:Str):gM ((Sum.inr a:Key)=Sum.inr b)=gM (a=b):=by
 by_cases e:a=b
 .subst e;simp
 .have h:¬ (Sum.inr a:Key)=Sum.inr b:=λq=>e<|Sum.inr.inj q;rw[gH h,gH e]
def Lq(a:Int)(b:Str):gM ((Sum.inl a:Key)=Sum.inr b)=ff:=gH (λq=>nomatch q)
def LX(a:Str)(b:Int):gM ((Sum.inr a:Key)=Sum.inl b)=ff:=gH (λq=>nomatch q)
abbrev Zd(prog:è)(w:ā):PySem.KeyKind prog w Key where
 is:=JC
 hash:=Sl w
 inj:=λv a b ha hb=>by
  rcases Zr ha with⟨i,t,rfl,rfl⟩|⟨x,t,rfl,rfl⟩
  .rcases Zr hb with⟨j,u,rfl,e⟩|⟨y,u,rfl,e⟩
   .injection e with e1 _;rw[e1]
   .exact nomatch e
  .rcases Zr hb with⟨j,u,rfl,e⟩|⟨y,u,rfl,e⟩
   .exact nomatch e
   .injection e with e1 _;rw[e1]
 byValue:=λk v h=>by rcases Zr h with⟨i,t,rfl,rfl⟩|⟨x,t,rfl,rfl⟩<;>rfl
 pyHash:=λhv h=>by
  rcases Zr hv with⟨i,t,rfl,rfl⟩|⟨x,t,rfl,rfl⟩
  .exact wpAny_pyHash_int h
  .exact wpAny_pyHash_str h
 eqBool:=λhu hv h=>by
  rcases Zr hu with⟨i,t,rfl,rfl⟩|⟨x,t,rfl,rfl⟩
  .rcases Zr hv with⟨j,u,rfl,rfl⟩|⟨y,u,rfl,rfl⟩
   .rw[LV]at h;exact wpAny_eqBool_int h
   .rw[Lq]at h;exact SeqAt.EqAt.int_str i t y u _ _ _ _ h
  .rcases Zr hv with⟨j,u,rfl,rfl⟩|⟨y,u,rfl,rfl⟩
   .rw[LX]at h;exact SeqAt.EqAt.str_int x t j u _ _ _ _ h
   .rw[Ig]at h;exact wpAny_eqBool_str h
 «strs»:=λk x t v h=>by
  rcases Zr h with⟨i,u,rfl,e⟩|⟨y,u,rfl,e⟩
  .exact nomatch e
  .injection e with e1 _;subst e1;cases v<;>rfl
def NW(prog:è)(w:ā)(i:Int)(t:Tok):(Zd prog w).is (.inl i) (.int i t)=fe:=AX i t
def NG(prog:è)(w:ā)(x:Str)(t:Tok):(Zd prog w).is (.inr x) (.str x t)=fe:=AQ x t
inductive V where
 |non|bl (b:Bool)|int (i:Int)|str (x:Str)|byt (b:Array UInt8)|flt (b:UInt64)|ref (a:È)|ty (n:String)
 deriving DecidableEq
abbrev RelV:V->Ä->Prop
 |.non,u=>u=Value.none
 |.bl b,u=>u=Value.bool b
 |.int i,u=>∃t,u=Value.int i t
 |.str x,u=>∃t,u=Value.str x t
 |.byt b,u=>∃t,u=Value.bytes b t
 |.flt b,u=>∃t,u=Value.float b t
 |.ref a,u=>u=Value.ref a
 |.ty n,u=>u=Value.type n
@[reducible] noncomputable def gp:List V->List Ä->Prop:=Paired RelV
def gp.length{xs:List V}{us:List Ä}(r:gp xs us):xs.length=us.length:=Paired.length r
def gp.get:∀{xs:List V}{us:List Ä}{i:Nat}{x:V},gp xs us->xs[i]?=fb x->∃u,us[i]?=fb u/\RelV x u
 |_,_,_,_,.nil,e=>by simp at e
 |_,_,0,_,.cons r _,e=>by simp at e;subst e;exact⟨_,rfl,r⟩
 |_,_,i+1,x,.cons _ t,e=>by let⟨u,h1,h2⟩:=gp.get (i:=i) (x:=x) t ⇑e;exact⟨u,⇑h1,h2⟩
def gp.set{x:V}{u:Ä}(r:RelV x u):∀{xs:List V}{us:List Ä}(i:Nat),gp xs us->gp (xs.set i x) (us.set i u)
 |_,_,_,.nil=>.nil
 |_,_,0,.cons _ t=>.cons r t
 |_,_,i+1,.cons q t=>.cons q<|gp.set r i t
def gp.append:∀{xs ys:List V}{us ws:List Ä},gp xs us->gp ys ws->gp (xs++ys) (us++ws)
 |_,_,_,_,.nil,s=>s
 |_,_,_,_,.cons r t,s=>.cons r<|gp.append t s
def gp.take:∀{xs:List V}{us:List Ä}(n:Nat),gp xs us->gp (xs.take n) (us.take n)
 |_,_,0,_=>.nil
 |_,_,_+1,.nil=>.nil
 |_,_,n+1,.cons r t=>.cons r<|gp.take n t
def gp.drop:∀{xs:List V}{us:List Ä}(n:Nat),gp xs us->gp (xs.drop n) (us.drop n)
 |_,_,0,r=>r
 |_,_,_+1,.nil=>.nil
 |_,_,n+1,.cons _ t=>gp.drop n t
abbrev fM:Option V->Option Ä->Prop
 |some v,fb u=>RelV v u
 |none,fc=>True
 |_,_=>False
abbrev KV{κ:Type}:List (κ×V)->List (κ×Ä)->Prop:=Paired λ(p:κ×V) (q:κ×Ä)=>p.1=q.1/\RelV p.2 q.2
abbrev kV:Key->V
 |.inl i=>.int i
 |.inr x=>.str x
inductive HO where
 |lst (xs:List V)
 |tup (xs:List V)
 |dK (kvs:List<|Key×V)|dT (kvs:List<|List Key×V)
 |set (S:Int->Bool) (n:Nat)
 |ins (C dx:È) (fs:List<|Str×V)
 |own (x:È)
 |xd (fs:List<|Str×V)
 |met (f x:È)
 |rng (lo hi:Int)
 |frz (o:Obj) (u:HO)
 |tbl (ps:Array Ä)
 |ext (φ:Ć->Prop)
noncomputable abbrev Hp:=È->Option HO
abbrev upd(H:Hp)(a:È)(o:HO):Hp:=λb=>if b=a then fb o else H b
variable {H:Hp} {a:È} {o:HO}
def fh:upd H a o a=fb o:=by unfold upd;rw[gF rfl]
variable {b:È}
def fg(h:b≠a):upd H a o b=H b:=by unfold upd;rw[gG h]
variable {u:HO}
def fi:upd (upd H a o) a u=upd H a u:=by funext b;unfold upd;split<;>rfl
def Rv(h:H a=fb o)(h':H b=fb u)(d:o≠u):a≠b:=by intro e;subst e;rw[h]at h';exact d (ê h')
def Zn(h:H a=fb o)(h':H b=fc):a≠b:=by intro e;subst e;rw[h]at h';cases h'
section
variable (P:è) (w:ā)
abbrev fu(H:Hp)(h:Ć)(a:È):HO->Prop
 |.lst xs=>xs.length<=Ü/\∃(ó:List Ä) (n:Nat),gp xs ó/\h.get? a=fb {cls:=.type "list",data:=.seq ó.toArray n}
 |.tup xs=>xs.length<=Ü/\∃ó:List Ä,gp xs ó/\ϳ h a ó.toArray
 |.dK kvs=>kvs.length<=Ü/\(a==Ő)=ff/\∃vs,KV kvs vs/\h.DictOf (Zd P w) a vs
 |.dT kvs=>kvs.length<=Ü/\(a==Ő)=ff/\∃xs:List<|List Key×È×Ä,
   Paired (λ(p:List Key×V) (q:List Key×È×Ä)=>p.1=q.1/\H q.2.1=fb (.tup<|p.1.map kV)/\RelV p.2 q.2.2) kvs xs/\
   ∃o es ep,h.get? a=fb o/\o.ExactDict/\o.data=.dict es ep/\es.toList=xs.map (entryOfKey<|ai<|Zd P w)/\(xs.map (·.1)).Nodup
 |.set S n=>h.SetOf (intKind P w) a S n
 |.ins C dx fs=>H dx=fb (.own a)/\fs.length<=1000/\dx≠a/\h.get? a=fb (PySem.W.instObj C dx)/\
   ∃mA,h.Ns1 dx mA/\(∀f,fM (fs.lookup f)<|mA f)/\PySem.Within mA (fs.map (·.1))
 |.own _=>∃o,h.get? a=fb o
 |.xd fs=>∃mA,h.Ns1 a mA/\∀f,fM (fs.lookup f) (mA f)
 |.rng lo hi=>∃t u v,h.get? a=fb {cls:=.type "range",data:=.fields #[.int lo t,.int hi u,.int 1 v]}
 |.frz o u=>h.get? a=fb o/\fu H h a u
 |.tbl ps=>h.get? a=fb {cls:=.none,data:=.fields ps}
 |.met f x=>h.get? a=fb (PySem.W.methodObj (.ref f)<|.ref x)
 |.ext φ=>φ h/\(∃o,h.get? a=fb o)/\∀h1 h2:Ć,φ h1->(∀o,h1.get? a=fb o->h2.get? a=fb o)->φ h2
abbrev HOk(H:Hp)(h:Ć):Prop:=∀a o,H a=fb o->fu P w H h a o
end
section
variable {P:è}{w:ā}{H H':Hp}{h h':Ć}{a:È}{o:HO}
def fu.lt(x:fu P w H h a o):a<h.objs.size:=by
 cases o with
 |lst xs=>let⟨_,_,_,_,e⟩:=x;exact Ø e
 |tup xs=>let⟨_,_,_,p⟩:=x;exact p.lt
 |dK kvs=>let⟨_,_,_,_,o,_,_,e,_⟩:=x;exact Ø e
 |dT kvs=>let⟨_,_,_,_,o,_,_,e,_⟩:=x;exact Ø e
 |set S n=>let⟨o,_,_,_,e,_⟩:=x;exact Ø e
 |ins C dx fs=>let⟨_,_,_,e,_⟩:=x;exact Ø e
 |own y=>let⟨_,e⟩:=x;exact Ø e
 |xd fs=>let⟨_,⟨_,_,_,e,_⟩,_⟩:=x;exact Ø e
 |rng lo hi=>let⟨_,_,_,e⟩:=x;exact Ø e
 |frz ob u=>let⟨e,_⟩:=x;exact Ø e
 |tbl ps=>exact Ø (show h.get? a=fb _ from x)
 |met f y=>exact Ø (show h.get? a=fb _ from x)
 |ext φ=>let⟨_,⟨_,e⟩,_⟩:=x;exact Ø e
def Paired.mapP{α β:Type}{F G:α->β->Prop}:∀{l₁:List α}{l₂:List β},Paired F l₁ l₂->(∀a b,F a b->G a b)->Paired G l₁ l₂
 |_,_,.nil,_=>.nil
 |_,_,.cons r t,f=>.cons (f _ _ r)<|Paired.mapP t f
def fu.stay(x:fu P w H h a o)(k:∀b u,(b=a\/H b=fb (.own a))->h.get? b=fb u->h'.get? b=fb u)
  (ho:∀b,H b=fb (.own a)->H' b=fb (.own a)) (ht:∀b xs,H b=fb (.tup xs)->H' b=fb (.tup xs)):fu P w H' h' a o:=by
 induction o with
 |lst xs=>let⟨z,ó,n,r,e⟩:=x;exact⟨z,ó,n,r,k _ _ (.inl rfl) e⟩
 |tup xs=>let⟨z,ó,r,ob,e,c⟩:=x;exact⟨z,ó,r,ob,k _ _ (.inl rfl) e,c⟩
 |dK kvs=>let⟨z,y,vs,r,ob,es,ep,e,c⟩:=x;exact⟨z,y,vs,r,ob,es,ep,k _ _ (.inl rfl) e,c⟩
 |dT kvs =>let⟨z,y,xs,r,ob,es,ep,e,c⟩:=x;exact⟨z,y,xs,Paired.mapP r λp q z=>⟨z.1,ht _ _ z.2.1,z.2.2⟩,ob,es,ep,k _ _ (.inl rfl) e,c⟩
 |set S n=>let⟨ob,es,ep,t,e,c⟩:=x;exact⟨ob,es,ep,t,k _ _ (.inl rfl) e,c⟩
 |ins C dx fs =>let⟨d,z,ne,e,mA,⟨od,es,ep,e2,c⟩,r⟩:=x;exact⟨ho _ d,z,ne,k _ _ (.inl rfl) e,mA,⟨od,es,ep,k _ _ (.inr d) e2,c⟩,r⟩
 |own y=>let⟨ob,e⟩:=x;exact⟨ob,k _ _ (.inl rfl) e⟩
 |xd fs=>let⟨mA,⟨od,es,ep,e,c⟩,r⟩:=x;exact⟨mA,⟨od,es,ep,k _ _ (.inl rfl) e,c⟩,r⟩
 |rng lo hi=>let⟨t,u,v,e⟩:=x;exact⟨t,u,v,k _ _ (.inl rfl) e⟩
 |frz ob u ih=>let⟨e,q⟩:=x;exact⟨k _ _ (.inl rfl) e,ih q⟩
 |tbl ps =>have e:h.get? a=fb {cls:=.none,data:=.fields ps}:=x;show h'.get? a=fb {cls:=.none,data:=.fields ps};exact k a _ (.inl rfl) e
 |met f y =>have e:h.get? a=fb (PySem.W.methodObj (.ref f)<|.ref y):=x;show h'.get? a=fb (PySem.W.methodObj (.ref f)<|.ref y);exact k a _ (.inl rfl) e
 |ext φ=>let⟨p,⟨o,e⟩,st⟩:=x;exact⟨st _ _ p λo q=>k _ _ (.inl rfl) q,⟨o,k _ _ (.inl rfl) e⟩,st⟩
def HOk.lt(x:HOk P w H h)(e:H a=fb o):a<h.objs.size:=(x a o e).lt
def HOk.fresh(x:HOk P w H h)(e:h.objs.size<=a):H a=fc:=by
 cases q:H a with
 |none=>rfl
 |some u=>exact gL (å (x.lt q) e)<|Ĕ _
def HOk.kept(x:HOk P w H h)(k:∀b u,h.get? b=fb u->h'.get? b=fb u):HOk P w H h':=λa o e =>
 (x a o e).stay (λb u _ q=>k b u q) (λ_ q=>q) λ_ _ q=>q
def HOk.laid(x:HOk P w H h)(k:∀b u,h.get? b=fb u->h'.get? b=fb u)(hp:h.objs.size<=a)(new:fu P w (upd H a o) h' a o):HOk P w (upd H a o) h':=λb u e=>by
 have hn:=x.fresh hp;by_cases hb:b=a
 .subst hb;rw[fh]at e;cases e;exact new
 .rw[fg hb]at e;exact(x b u e).stay (λc v _ q=>k c v q) (λc q=>by rw[fg<|Zn q hn];exact q) λc xs q=>by rw[fg<|Zn q hn];exact q
end
abbrev Rd(H:Hp)(a:È)(u:HO):Prop:=H a=fb u\/∃o,H a=fb (.frz o u)
variable {h:Ć}
def Rd.ok{P:è}{w:ā}(r:Rd H a u)(x:HOk P w H h):fu P w H h a u:=by
 rcases r with r|⟨o,r⟩
 .exact x a u r
 .obtain⟨_,q⟩:=x a _ r;exact q
abbrev Mut:Option HO->Prop
 |some (.lst _)=>True
 |some (.dK _)=>True
 |some (.dT _)=>True
 |some (.set _ _)=>True
 |some (.ins _ _ _)=>True
 |some (.ext _)=>True
 |_=>False
section
variable {P:è}{w:ā}{H:Hp}{h h':Ć}{x e:È}{o':HO}
def HOk.write(ok:HOk P w H h)(mu:Mut<|H x)(he:e=x\/H e=fb (.own x))(k:∀b u,b≠e->h.get? b=fb u->h'.get? b=fb u)(heo:∃u,h'.get? e=fb u)
  (new:fu P w (upd H x o') h' x o'):HOk P w (upd H x o') h':=λb u q=>by
 have nown:∀c y,H c=fb (.own y)->c≠x:=λc y r z=>by subst z;rw[r]at mu;exact mu
 have ntup:∀c xs,H c=fb (.tup xs)->c≠x:=λc xs r z=>by subst z;rw[r]at mu;exact mu
 by_cases hb:b=x
 .subst hb;rw[fh]at q;cases q;exact new
 .rw[fg hb]at q;by_cases hbe:b=e
  .have q':H b=fb (.own x):=by
    rcases he with z|z
    .exact gL (hbe.trans z) hb
    .rw[hbe];exact z
   rw[q]at q';cases q';let⟨v,hv⟩:=heo;exact⟨v,by rw[hbe];exact hv⟩
  .refine(ok b u q).stay (λc v hc r=>k c v ?_ r) (λc r=>by rw[fg<|nown c b r];exact r) λc xs r=>by rw[fg<|ntup c xs r];exact r
   rcases hc with rfl|hc
   .exact hbe
   .rintro rfl;rcases he with z|z
    .exact nown c b hc z
    .rw[hc]at z;cases z;exact hb rfl
end
structure Un(fs ex:List È)(H H':Hp)(h h':Ć):Prop where
 keep:∀b o,h.get? b=fb o->H b=fc->b∉fs->b∉ex->h'.get? b=fb o
 slot:∀b o,h.get? b=fb o->H b=fc->b∈fs->b∉ex->∃sl,h'.get? b=fb {o with slots:=sl}
 free:∀b o,h.get? b=fb o->H b=fc->b∉ex->H' b=fc
 there:∀b o,h.get? b=fb o->b∉ex->∃o',h'.get? b=fb o'
 tups:∀b xs,H b=fb (.tup xs)->H' b=fb (.tup xs)
 frzs:∀b o u,H b=fb (.frz o u)->H' b=fb (.frz o u)
 tbls:∀b ps,H b=fb (.tbl ps)->∃more,H' b=fb (.tbl<|ps++more)
section
variable {fs fs' ex ex':List È}{H H1 H2:Hp}{h h1 h2 h':Ć}{a x e:È}{o:HO}
def Un.any(u:Un fs ex H H1 h h1){ob:Obj}(q:h.get? b=fb ob)(n:H b=fc)(hx:b∉ex):∃sl,h1.get? b=fb {ob with slots:=sl}:=by
 by_cases hb:b∈fs
 .exact u.slot b ob q n hb hx
 .exact⟨ob.slots,u.keep b ob q n hb hx⟩
def Un.kept(k:∀b u,h.get? b=fb u->h'.get? b=fb u):Un fs ex H H h h' :=
 ⟨λb ob q _ _ _=>k b ob q,λb ob q _ _ _=>⟨ob.slots,k b ob q⟩,λ_ _ _ n _=>n,λb ob q _=>⟨ob,k b ob q⟩,λ_ _ q=>q,λ_ _ _ q=>q,λ_ ps q=>⟨#[],by rw[q];simp⟩⟩
def Un.refl:Un fs ex H H h h:=Un.kept λ_ _ q=>q
def Un.laid(k:∀b u,h.get? b=fb u->h'.get? b=fb u)(hp:h.objs.size<=a)(hn:H a=fc):Un fs ex H (upd H a o) h h' where
 keep:=λb u q _ _ _=>k b u q
 slot:=λb u q _ _ _=>⟨u.slots,k b u q⟩
 free:=λb u q n _=>by rw[fg<|â<|å (Ø q) hp];exact n
 there:=λb u q _=>⟨u,k b u q⟩
 tups:=λb xs q=>by rw[fg<|Zn q hn];exact q
 frzs:=λb u xs q=>by rw[fg<|Zn q hn];exact q
 tbls:=λb ps q=>⟨#[],by rw[fg<|Zn q hn,q];simp⟩
def Un.write(mu:Mut<|H x)(he:e=x\/H e=fb (.own x))(k:∀b u,b≠e->h.get? b=fb u->h'.get? b=fb u)(heo:∃u,h'.get? e=fb u):Un fs ex H (upd H x o) h h':=by
 have hx:∀b,H b=fc->b≠x:=λb n z=>by subst z;rw[n]at mu;exact mu
 have hb:∀b,H b=fc->b≠e:=λb n z=>by
  subst z;rcases he with r|r
  .exact hx b n r
  .rw[n]at r;cases r
 have hm:∀b u,H b=fb u->¬ Mut (fb u)->b≠x:=λb u q nm z=>by subst z;rw[q]at mu;exact nm mu
 refine⟨λb u q n _ _=>k b u (hb b n) q,λb u q n _ _=>⟨u.slots,k b u (hb b n) q⟩,λb u q n _=>by rw[fg<|hx b n];exact n,λb u q _=>?_,
   λb xs q=>by rw[fg<|hm b _ q λz=>z];exact q,λb u xs q=>by rw[fg<|hm b _ q λz=>z];exact q,λb ps q=>⟨#[],by rw[fg<|hm b _ q λz=>z,q];simp⟩⟩
 by_cases hbe:b=e
 .subst hbe;exact heo
 .exact⟨u,k b u hbe q⟩
end
abbrev trk(h:Ć)(H:Hp):List È:=(List.range h.objs.size).filter λa=>(H a).isSome
abbrev MC(h:Ć)(H:Hp):Ć:=PySem.W.hideAll h<|trk h H
def A5(h:Ć)(H:Hp):(MC h H).objs.size=h.objs.size:=PySem.W.hideAll_size _ _
def DG{o:Obj}(e:h.get? b=fb o)(n:H b=fc):(MC h H).get? b=fb o :=
 PySem.W.hideAll_get _ e λhm=>by have q:(H b).isSome=fe:=(ŀ.mp hm).2;rw[n]at q;simp at q
def ES{o:Obj}(e:(MC h H).get? b=fb o):h.get? b=fb o/\H b=fc:=by
 have e':h.get? b=fb o:=PySem.W.of_hideAll (trk h H) e;refine⟨e',?_⟩;cases q:H b with
 |none=>rfl
 |some x =>have hm:b∈trk h H:=ŀ.mpr ⟨Ŗ.mpr<|Ø e',by simp[q]⟩;have z:(MC h H).get? b=fc:=PySem.W.hideAll_none (trk h H) hm;rw[z]at e;cases e
abbrev GZ(g h:Ć)(L:È):List<|È×Obj:=(List.range h.objs.size).filterMap λa=>if a=L\/(g.get? a).isSome=fe then fc else(h.get? a).map λo=>(a,o)
abbrev rest(g h:Ć)(L d:È):List<|È×Obj:=(GZ g h L).filter λp=>gM (p.1≠d)
structure Mod(K:Frag)(mg:Str->Option Ä)(base:Ć):Prop where
 kin:K.In base
 glob:base.Ns ĉ mg
 blt:∃mb,base.Ns builtinsNs mb/\∀x:Str,x≠"__name__"->mb x=š x
 nolimit:base.NoLimit
structure Cx where
 prog:è
 w:ā
 K:Frag
 mg:Str->Option Ä
 base:Ć
 A:č
 N:List Str
 s₀:Æ
 H₀:Hp
 env:Env
 outer:List Env
 stack:List Env
 ex:List È
 fn:Str->Bool
 calm:Bool
 pn:List<|È×Obj
 xe:Ä->Æ->Prop
abbrev frs(l:List Env):List È:=l.filterMap (·.frame)
noncomputable abbrev Cx.fs(X:Cx):List È:=frs X.outer
abbrev Vis(sc:ſ)(x:Str):Prop:=sc.names.lookup x=fb .local\/sc.names.lookup x=fb .cell\/sc.names.lookup x=fb .free
abbrev Loc(sc:ſ)(x:Str):Prop:=sc.names.lookup x=fb .local\/sc.names.lookup x=fb .cell
abbrev R0(env:Env)(h:Ć)(m:Str->Option Ä)(x:Str)(u:Ä):Prop :=
 (env.kindOf x=fb .local/\m x=fb u)\/((env.kindOf x=fb .cell\/env.kindOf x=fb .free)/\∃c,env.cells.lookup x=fb c/\h.IsCell c (fb u))
structure Cx.Ok(X:Cx):Prop where
 mod:Mod X.K X.mg X.base
 kind:X.env.scope.kind=.function
 glob:X.env.globals=ĉ
 blt:X.env.builtins=builtinsNs
 above:X.s₀.heap.objs.size<=X.env.locals
 inj:∀x y c,X.env.cells.lookup x=fb c->X.env.cells.lookup y=fb c->x=y
 has:∀x,(X.env.kindOf x=fb .cell\/X.env.kindOf x=fb .free)->∃c,X.env.cells.lookup x=fb c
 cab:∀x c,X.fn x=fe->X.env.cells.lookup x=fb c->X.s₀.heap.objs.size<=c
 hd:X.calm=fe->X.A.handled=fc
 frames:X.A.frames=fb X.stack
 stk:X.stack=X.outer\/(X.stack=X.env::X.outer/\X.env.frame=fb X.env.locals)
 exf:∀b∈X.ex,b≠X.env.locals/\∀x c,X.env.cells.lookup x=fb c->c≠b
 bs:∀b o,X.base.get? b=fb o->X.s₀.heap.get? b=fb o/\X.H₀ b=fc
 bsz:X.base.objs.size<=X.s₀.heap.objs.size
 noex:∀b o,X.base.get? b=fb o->b∉X.ex
 exfs:∀b∈X.ex,b∉X.fs
 funs:X.s₀.heap.FunFrames X.base X.outer
 frf:∀b∈X.fs,X.H₀ b=fc
structure Inv(X:Cx)(Â:List<|È×Obj)(σ:List<|Option V)(H:Hp)(s:Æ):Prop where
 ok:X.Ok
 os:s.os=X.s₀.os
 bare:ό s.gens
 base:Un X.fs X.ex X.H₀ H X.s₀.heap s.heap
 loc:∃m,s.heap.Ns X.env.locals m/\∀(i:Nat) (x:Str) (v:V),X.N[i]?=fb x->σ[i]?=fb (fb v)->Vis X.env.scope x->∃u,RelV v u/\R0 X.env s.heap m x u
 cell:∀x c,X.env.cells.lookup x=fb c->∃v,s.heap.IsCell c v
 free:H X.env.locals=fc
 freeC:∀x c,X.env.cells.lookup x=fb c->H c=fc
 pin:∀p∈X.pn++Â,s.heap.get? p.1=fb p.2/\H p.1=fc/\p.1≠X.env.locals/\p.1∉X.fs/\∀v,p.2.data≠.cell v
 hok:HOk X.prog X.w H s.heap
 len:σ.length=X.N.length
section
variable {X:Cx}{Â:List (È×Obj)}{σ:List (Option V)}{H H':Hp}{s:Æ}{h':Ć}
def Cx.Ok.nofr(ok:X.Ok){b:È}{o:Obj}(e:X.base.get? b=fb o):b∉X.fs:=λhb=>by have:=(ok.funs.mem hb).1;rw[e]at this;cases this
def Inv.bs(I:Inv X Â σ H s):∀b o,X.base.get? b=fb o->s.heap.get? b=fb o/\H b=fc:=λb o e =>
 ⟨I.base.keep b o (I.ok.bs b o e).1 (I.ok.bs b o e).2 (I.ok.nofr e)<|I.ok.noex b o e,I.base.free b o (I.ok.bs b o e).1 (I.ok.bs b o e).2<|I.ok.noex b o e⟩
def Inv.bk(I:Inv X Â σ H s):∀b o,X.base.get? b=fb o->s.heap.get? b=fb o:=λb o e=>(I.bs b o e).1
def Inv.mod(I:Inv X Â σ H s):Mod X.K X.mg X.base:=I.ok.mod
def Inv.kIn(I:Inv X Â σ H s):X.K.In s.heap:=I.ok.mod.kin.keeps I.bk
def Inv.lt(I:Inv X Â σ H s):X.env.locals<s.heap.objs.size:=let ⟨_,hn,_⟩:=I.loc;hn.lt
def Inv.sz(I:Inv X Â σ H s):X.s₀.heap.objs.size<=s.heap.objs.size:=Þ I.ok.above (ο I.lt)
variable {a:È}
def Inv.nofs(I:Inv X Â σ H s)(h:s.heap.objs.size<=a):a∉X.fs:=λhb=>by let⟨_,o,ho,_⟩:=I.ok.funs.mem hb;exact gL (å (Ø ho)<|Þ I.sz h) (Ĕ _)
def Inv.cne(I:Inv X Â σ H s):∀x c,X.env.cells.lookup x=fb c->c≠X.env.locals:=λx c e z=>by let⟨v,o,ho,hd⟩:=I.cell x c e;let⟨m,⟨o',es,ep,ϝ,cG,_⟩,_⟩:=I.loc;rw[z,ϝ]at ho;cases ho;rw[cG]at hd;cases hd
def Inv.funs(I:Inv X Â σ H s):s.heap.FunFrames X.base X.outer:=by
 have all:∀(l:List Env),(∀b∈frs l,b∈X.fs)->X.s₀.heap.FunFrames X.base l->s.heap.FunFrames X.base l:=by
  intro l;induction l with
  |nil=>intro _ _;trivial
  |cons env r ih =>intro hs hl;let⟨hk,⟨L,o,hf,hn,ho,hd⟩,hr⟩:=hl;have hL:L∈X.fs:=hs L (by unfold frs;rw[ò,hf];exact ü);let⟨sl,e⟩:=I.base.slot L o ho (I.ok.frf L hL) hL λz=>I.ok.exfs L z hL;exact⟨hk,⟨L,_,hf,hn,e,hd⟩,ih (λb hb=>hs b<|by unfold frs;rw[ò,hf];exact æ _ hb) hr⟩
 exact all X.outer (λ_ hb=>hb) I.ok.funs
def Inv.stack(I:Inv X Â σ H s):s.heap.FunFrames X.base X.stack:=by
 rcases I.ok.stk with e|⟨e,hf⟩
 .rw[e];exact I.funs
 .rw[e];let⟨m,hn,_⟩:=I.loc;refine .cons (by rw[I.ok.kind];decide) hf hn ?_ I.funs;exact Heap.get?_none_of_le<|Þ I.ok.bsz I.ok.above
def Inv.stkSub(I:Inv X Â σ H s):∀b∈frs X.stack,b∈X.env.locals::X.fs:=λb hb=>by
 rcases I.ok.stk with e|⟨e,hf⟩
 .rw[e]at hb;exact æ _ hb
 .rw[e]at hb;unfold frs at hb;rw[ò,hf]at hb;exact hb
def Inv.stkFree(I:Inv X Â σ H s):∀b∈frs X.stack,H b=fc:=λb hb=>by
 rcases Ç.mp (I.stkSub b hb)with e|hb
 .rw[e];exact I.free
 .obtain⟨_,o,ho,_⟩:=I.ok.funs.mem hb;exact I.base.free b o ho (I.ok.frf b hb) λz=>I.ok.exfs b z hb
variable {g':Array GenState} {t':Nat} {d':Drawn} {ch:List È}
def Inv.step(I:Inv X Â σ H s)
  (hch:∀b∈ch,(b∈X.ex\/X.s₀.heap.objs.size<=b)/\b≠X.env.locals/\(∀x c,X.env.cells.lookup x=fb c->c≠b)/\∀p∈X.pn++Â,p.1≠b)
  (keep:∀b o,b≠X.env.locals->b∉X.fs->b∉ch->s.heap.get? b=fb o->H b=fc->h'.get? b=fb o)
  (slot:∀b o,b≠X.env.locals->b∈X.fs->b∉ch->s.heap.get? b=fb o->H b=fc->∃sl,h'.get? b=fb {o with slots:=sl}) (free:∀b o,b∉ch->s.heap.get? b=fb o->H b=fc->H' b=fc)
  (there:∀b o,b∉ch->s.heap.get? b=fb o->∃o',h'.get? b=fb o')
  (tups:∀b xs,H b=fb (.tup xs)->H' b=fb (.tup xs)) (frzs:∀b o u,H b=fb (.frz o u)->H' b=fb (.frz o u)) (tbls:∀b ps,H b=fb (.tbl ps)->∃more,H' b=fb (.tbl<|ps++more))
  (ns:∀m,s.heap.Ns X.env.locals m->h'.Ns X.env.locals m) (hok:HOk X.prog X.w H' h') (hg:ό g') :
  Inv X Â σ H' {s with heap:=h',gens:=g',drawn:=d',toks:=t'}:=by
 have neL:∀b o,X.s₀.heap.get? b=fb o->b≠X.env.locals:=λb o e=>â<|å (Ø e) I.ok.above;have neC:∀b o,X.s₀.heap.get? b=fb o->b∉X.ex->b∉ch:=λb o e hx hb=>by
  rcases (hch b hb).1 with z|z
  .exact hx z
  .exact gL (å (Ø e) z)<|Ĕ _
 have cellK:∀x c,X.env.cells.lookup x=fb c->∀v,s.heap.IsCell c v->h'.IsCell c v:=λx c e v ⟨o,ho,hd⟩=>by
  have nch:c∉ch:=λz=>(hch c z).2.2.1 x c e rfl;by_cases hc:c∈X.fs
  .obtain⟨sl,q⟩:=slot c o (I.cne x c e) hc nch ho<|I.freeC x c e;exact⟨_,q,hd⟩
  .exact⟨o,keep c o (I.cne x c e) hc nch ho<|I.freeC x c e,hd⟩
 refine⟨I.ok,I.os,hg,⟨λb o e n hb hx=>?_,λb o e n hb hx=>?_,λb o e n hx=>?_,λb o e hx=>?_,λb xs e=>tups b xs<|I.base.tups b xs e,λb o xs e=>frzs b o xs<|I.base.frzs b o xs e,λb ps e=>?_⟩,?_,λx c e=>?_,?_,λx c e=>?_,λp hp=>?_,hok,I.len⟩
 .exact keep b o (neL b o e) hb (neC b o e hx) (I.base.keep b o e n hb hx)<|I.base.free b o e n hx
 .obtain⟨sl,e1⟩:=I.base.slot b o e n hb hx;let⟨sl',e2⟩:=slot b _ (neL b o e) hb (neC b o e hx) e1<|I.base.free b o e n hx;exact⟨sl',e2⟩
 .obtain⟨o',e1⟩:=I.base.there b o e hx;exact free b o' (neC b o e hx) e1<|I.base.free b o e n hx
 .obtain⟨o',e1⟩:=I.base.there b o e hx;exact there b o' (neC b o e hx) e1
 .obtain⟨m1,e1⟩:=I.base.tbls b ps e;let⟨m2,e2⟩:=tbls b _ e1;exact⟨m1++m2,by rw[e2,Array.append_assoc]⟩
 .obtain⟨m,hn,hl⟩:=I.loc;refine⟨m,ns m hn,λi x v e1 e2 e3=>?_⟩;let⟨u,r,l⟩:=hl i x v e1 e2 e3;refine⟨u,r,?_⟩;rcases l with l|⟨k,c,e,z⟩
  .exact .inl l
  .exact .inr ⟨k,c,e,cellK x c e _ z⟩
 .obtain⟨v,z⟩:=I.cell x c e;exact⟨v,cellK x c e v z⟩
 .obtain⟨m,⟨o,_,_,ho,_⟩,_⟩:=I.loc;exact free _ o (λz=>(hch _ z).2.1 rfl) ho I.free
 .obtain⟨v,o,ho,hd⟩:=I.cell x c e;exact free c o (λz=>(hch c z).2.2.1 x c e rfl) ho<|I.freeC x c e
 .obtain⟨e,n,ne,nf,d⟩:=I.pin p hp;have nch:p.1∉ch:=λz=>(hch p.1 z).2.2.2 p hp rfl;exact⟨keep p.1 p.2 ne nf nch e n,free p.1 p.2 nch e n,ne,nf,d⟩
def Inv.un(I:Inv X Â σ H s)(u:Un X.fs [] H H' s.heap h')(hok:HOk X.prog X.w H' h'):Inv X Â σ H' {s with heap:=h',toks:=t'}:=by
 let⟨m,⟨o,es,ep,ho,r⟩,_⟩:=id I.loc;let⟨sl,hL⟩:=u.any ho I.free (by simp);exact I.step (g':=s.gens) (d':=s.drawn) (ch:=[]) (λ_ z=>nomatch z) (λb o _ hb _ e n=>u.keep b o e n hb<|by simp) (λb o _ hb _ e n=>u.slot b o e n hb<|by simp) (λb o _ e n=>u.free b o e n<|by simp) (λb o _ e=>u.there b o e<|by simp) u.tups u.frzs u.tbls (λm' hm=>by
   let⟨o',aV,ep',ϝ,r'⟩:=hm
   rw[ho]at ϝ;cases ϝ
   exact⟨_,aV,ep',hL,r'⟩) hok I.bare
def Inv.call(I:Inv X Â σ H s)(u:Un (frs X.stack) ch H H' s.heap h')(hok:HOk X.prog X.w H' h')(hg:ό g')
  (hch:∀b∈ch,(b∈X.ex\/X.s₀.heap.objs.size<=b)/\b≠X.env.locals/\(∀x c,X.env.cells.lookup x=fb c->c≠b)/\∀p∈X.pn++Â,p.1≠b) :
  Inv X Â σ H' {s with heap:=h',gens:=g',drawn:=d',toks:=t'}:=by
 let⟨m,⟨o,es,ep,ho,r⟩,_⟩:=id I.loc;let⟨sl,hL⟩:=u.any ho I.free λz=>(hch _ z).2.1 rfl;exact I.step (ch:=ch) hch (λb o hL hb hc e n=>u.keep b o e n (λz=>(Ç.mp<|I.stkSub b z).elim hL hb) hc) (λb o _ _ hc e n=>u.any e n hc) (λb o hc e n=>u.free b o e n hc) (λb o hc e=>u.there b o e hc) u.tups u.frzs u.tbls (λm' hm=>by
   let⟨o',aV,ep',ϝ,r'⟩:=hm
   rw[ho]at ϝ;cases ϝ
   exact⟨_,aV,ep',hL,r'⟩) hok hg
def Inv.turned{it:È}(I:Inv X Â σ H s)(k:∀b o,b≠it->s.heap.get? b=fb o->h'.get? b=fb o)(hn:H it=fc)(hL:it≠X.env.locals)
  (h1:it∈X.ex\/X.s₀.heap.objs.size<=it) (h2:∀x c,X.env.cells.lookup x=fb c->c≠it) (h3:∀p∈X.pn++Â,p.1≠it):Inv X Â σ H {s with heap:=h',toks:=t'}:=by
 have nit:∀b u,H b=fb u->b≠it:=λb u e z=>by rw[z,hn]at e;cases e
 refine I.step (g':=s.gens) (d':=s.drawn) (ch:=[it]) (λb hb=>?_) (λb o _ _ hc e _=>k b o (λz=>hc<|by simp[z]) e) (λb o _ _ hc e _=>⟨o.slots,k b o (λz=>hc<|by simp[z]) e⟩) (λ_ _ _ _ n=>n)
  (λb o hc e=>⟨o,k b o (λz=>hc<|by simp[z]) e⟩) (λ_ _ e=>e) (λ_ _ _ e=>e) (λb ps e=>⟨#[],by rw[e];simp⟩) (λm hm=>?_) (λb u e=>?_) I.bare
 .have e:b=it:=⇑hb
  subst e;exact⟨h1,hL,h2,h3⟩
 .obtain⟨o,es,ep,ho,r⟩:=hm;exact⟨o,es,ep,k _ o (Ne.symm hL) ho,r⟩
 .refine(I.hok b u e).stay (λc v hc q=>k c v ?_ q) (λ_ q=>q) λ_ _ q=>q;rcases hc with z|z
  .rw[z];exact nit b u e
  .exact nit c _ z
def Inv.tok(I:Inv X Â σ H s)(t:Nat):Inv X Â σ H {s with toks:=t}:=I.un (h':=s.heap) (t':=t) Un.refl I.hok
def Inv.kept(I:Inv X Â σ H s)(k:∀b u,s.heap.get? b=fb u->h'.get? b=fb u):Inv X Â σ H {s with heap:=h',toks:=t'}:=I.un (Un.kept k) (I.hok.kept k)
variable {o:HO}
def Inv.laid(I:Inv X Â σ H s)(k:∀b u,s.heap.get? b=fb u->h'.get? b=fb u)(hp:s.heap.objs.size<=a)(new:fu X.prog X.w (upd H a o) h' a o) :
  Inv X Â σ (upd H a o) {s with heap:=h',toks:=t'}:=I.un (Un.laid k hp<|I.hok.fresh hp)<|I.hok.laid k hp new
def Inv.write{x e:È}(I:Inv X Â σ H s)(mu:Mut<|H x)(he:e=x\/H e=fb (.own x))(k:∀b u,b≠e->s.heap.get? b=fb u->h'.get? b=fb u)(heo:∃u,h'.get? e=fb u)
  (new:fu X.prog X.w (upd H x o) h' x o):Inv X Â σ (upd H x o) {s with heap:=h',toks:=t'}:=I.un (Un.write mu he k heo)<|I.hok.write mu he k heo new
def Inv.pins_of{pins':List (È×Obj)}(I:Inv X Â σ H s)(h:∀p∈pins',s.heap.get? p.1=fb p.2/\H p.1=fc/\p.1≠X.env.locals/\p.1∉X.fs/\∀v,p.2.data≠.cell v):Inv X pins' σ H s :=
 ⟨I.ok,I.os,I.bare,I.base,I.loc,I.cell,I.free,I.freeC,λp hp=>(Û.mp hp).elim (λz=>I.pin p<|Ý _ z)<|h p,I.hok,I.len⟩
variable {i:Nat} {x:Str}
def Ng{N:List Str}(hN:N.Nodup){j:Nat}(a:N[i]?=fb x)(b:N[j]?=fb x):i=j:=by let⟨h1,e1⟩:=Î.mp a;let⟨h2,e2⟩:=Î.mp b;exact(List.getElem_inj hN).mp (e1.trans e2.symm)
variable {M:Model} {A:č} {u:Ä} {Q:Unit->Æ->Prop}
def KU{E:Ä->Æ->Prop}{v:V}(I:Inv X Â σ H s)(hN:X.N.Nodup)(hi:X.N[i]?=fb x)(hx:Loc X.env.scope x)(r:RelV v u)
  (h:∀s',Inv X Â (σ.set i<|fb v) H s'->(∃a,ν a s.heap s'.heap/\(a=X.env.locals\/X.env.cells.lookup x=fb a))->Q () s') (hf:X.fn x=fe\/X.env.scope.names.lookup x=fb .local:=by first|exact .inl rfl|exact .inr rfl|assumption):wpAny M A (storeName X.env x u) Q E s:=by
 let⟨m,hn,hl⟩:=id I.loc;have hcls:(X.env.scope.kind == .class||(X.env.scope.kind == .module&&X.env.locals != X.env.globals))=ff:=by rw[I.ok.kind];rfl
 have hiσ:i<σ.length:=by rw[I.len];exact(Î.mp hi).1
 have cne:=I.cne;have cX:∀{a:È}{h':Ć},(∃o,s.heap.get? a=fb o/\H a=fc)->ν a s.heap h'->HOk X.prog X.w H h':=λ{a h'} ha hs b ob e=>by
  let⟨_,_,hfree⟩:=ha;refine(I.hok b ob e).stay (λc w' hc q=>(hs.2 c ?_).trans q) (λ_ q=>q) λ_ _ q=>q;rintro rfl;rcases hc with rfl|hc
  .rw[hfree]at e;cases e
  .rw[hfree]at hc;cases hc
 rcases hx with hk|hk
 .refine wpAny_storeName_local hk hn (λh' hn' hs=>?_) hcls;let⟨oL,_,_,hoL,_⟩:=id hn;refine h _ ⟨I.ok,I.os,I.bare,⟨λb o e n hb hx=>?_,λb o e n hb hx=>?_,I.base.free,λb o e hx=>?_,I.base.tups,I.base.frzs,I.base.tbls⟩,⟨_,hn',λj y v' e1 e2 e3=>?_⟩,λy c e=>?_,I.free,I.freeC,λp hp=>?_,cX ⟨oL,hoL,I.free⟩ hs,by simpa using I.len⟩ ⟨_,hs,.inl rfl⟩
  .exact(hs.2 b<|â<|å (Ø e) I.ok.above).trans<|I.base.keep b o e n hb hx
  .obtain⟨sl,e1⟩:=I.base.slot b o e n hb hx;exact⟨sl,(hs.2 b<|â<|å (Ø e) I.ok.above).trans e1⟩
  .obtain⟨o',e1⟩:=I.base.there b o e hx;exact⟨o',(hs.2 b<|â<|å (Ø e) I.ok.above).trans e1⟩
  .by_cases hj:j=i
   .subst hj;rw[hi]at e1;cases e1;rw[ύ hiσ]at e2;cases e2;exact⟨u,r,.inl ⟨hk,by simp⟩⟩
   .rw[ż<|Ne.symm hj]at e2;let⟨u',r',q⟩:=hl j y v' e1 e2 e3;refine⟨u',r',?_⟩;rcases q with⟨k,e⟩|⟨k,c,e,z⟩
    .refine .inl ⟨k,?_⟩;have:y≠x:=λe=>hj<|Ng hN e1<|e▸hi;simp[this,e]
    .exact .inr ⟨k,c,e,z.sameBut hs<|cne y c e⟩
  .obtain⟨w',z⟩:=I.cell y c e;exact⟨w',z.sameBut hs<|cne y c e⟩
  .obtain⟨e,n,ne,nf,d⟩:=I.pin p hp;exact⟨(hs.2 p.1 ne).trans e,n,ne,nf,d⟩
 .have hfn:X.fn x=fe:=by
   rcases hf with z|z
   .exact z
   .rw[z]at hk;cases hk
  let⟨c,hc⟩:=I.ok.has x<|.inl hk;let⟨w',z⟩:=I.cell x c hc;refine wpAny_storeName_cell I.ok.kind hk hc z λh' hc' hs=>?_;let⟨oc,hoc,hocd⟩:=id z;refine h {s with heap:=h'} ⟨I.ok,I.os,I.bare,⟨λb o e n hb hx=>?_,λb o e n hb hx=>?_,I.base.free,λb o e hx=>?_,I.base.tups,I.base.frzs,I.base.tbls⟩,⟨m,hn.sameBut hs<|Ne.symm<|cne x c hc,λj y v' e1 e2 e3=>?_⟩,λy c' e=>?_,I.free,I.freeC,λp hp=>?_,cX ⟨oc,hoc,I.freeC x c hc⟩ hs,by simpa using I.len⟩ ⟨c,hs,.inr hc⟩
  .exact(hs.2 b<|â<|å (Ø e)<|I.ok.cab x c hfn hc).trans<|I.base.keep b o e n hb hx
  .obtain⟨sl,e1⟩:=I.base.slot b o e n hb hx;exact⟨sl,(hs.2 b<|â<|å (Ø e)<|I.ok.cab x c hfn hc).trans e1⟩
  .obtain⟨o',e1⟩:=I.base.there b o e hx;exact⟨o',(hs.2 b<|â<|å (Ø e)<|I.ok.cab x c hfn hc).trans e1⟩
  .by_cases hj:j=i
   .subst hj;rw[hi]at e1;cases e1;rw[ύ hiσ]at e2;cases e2;exact⟨u,r,.inr ⟨.inl hk,c,hc,hc'⟩⟩
   .rw[ż<|Ne.symm hj]at e2;let⟨u',r',q⟩:=hl j y v' e1 e2 e3;refine⟨u',r',?_⟩;rcases q with q|⟨k,c',e,z'⟩
    .exact .inl q
    .refine .inr ⟨k,c',e,z'.sameBut hs ?_⟩;rintro rfl;exact hj<|Ng hN e1<|I.ok.inj _ _ _ e hc▸hi
  .by_cases Μ:c'=c
   .subst Μ;exact⟨_,hc'⟩
   .obtain⟨w2,z2⟩:=I.cell y c' e;exact⟨w2,z2.sameBut hs Μ⟩
  .obtain⟨e,n,ne,nf,d⟩:=I.pin p hp;refine⟨(hs.2 p.1 ?_).trans e,n,ne,nf,d⟩;intro q;rw[q,hoc]at e;have q':oc=p.2:=ê e;exact d w' (by rw[<-q'];exact hocd)
def Dj{E:Ä->Æ->Prop}{v:V}(I:Inv X Â σ H s)(hN:X.N.Nodup)(hi:X.N[i]?=fb x)(hx:Loc X.env.scope x)(r:RelV v u)
  (h:∀s',Inv X Â (σ.set i<|fb v) H s'->Q () s') (hf:X.fn x=fe\/X.env.scope.names.lookup x=fb .local:=by first|exact .inl rfl|exact .inr rfl|assumption):wpAny M A (storeName X.env x u) Q E s :=
 KU I hN hi hx r (λs' I' _=>h s' I') hf
def Inv.call'{s':Æ}(I:Inv X Â σ H s)(ho:s'.os=s.os)(u:Un (frs X.stack) ch H H' s.heap s'.heap)(hok:HOk X.prog X.w H' s'.heap)(hg:ό s'.gens)
  (hch:∀b∈ch,(b∈X.ex\/X.s₀.heap.objs.size<=b)/\b≠X.env.locals/\(∀x c,X.env.cells.lookup x=fb c->c≠b)/\∀p∈X.pn++Â,p.1≠b):Inv X Â σ H' s':=by
 let⟨h',g',d',t',o'⟩:=s';have e:o'=s.os:=ho;subst e;exact I.call (g':=g') (t':=t') (d':=d') u hok hg hch
end
noncomputable abbrev XK:=Ä->Option È->Hp->Prop
noncomputable abbrev St:=List<|Option V
noncomputable abbrev VK:=V->Hp->Prop
noncomputable abbrev TE:=St->Hp->VK->Prop
noncomputable abbrev TT:=St->Hp->(Bool->Hp->Prop)->Prop
noncomputable abbrev TA:=St->Hp->(List V->Hp->Prop)->Prop
structure Ends where
 nx:St->Hp->Prop
 rt:VK
 bk:St->Hp->Prop:=λ_ _=>False
 ct:St->Hp->Prop:=λ_ _=>False
noncomputable abbrev TS:=Ends->St->Hp->Prop
inductive EP (X:Cx) (Â:List<|È×Obj) (σ:St) (Q:VK) (u:Ä) (s':Æ):Prop
 |mk (v:V) (H':Hp) (i:Inv X Â σ H' s') (r:RelV v u) (q:Q v H')
abbrev TP(X:Cx)(Â:List<|È×Obj)(σ:St)(Q:Bool->Hp->Prop)(b:Bool)(s':Æ):Prop:=∃H',Inv X Â σ H' s'/\Q b H'
inductive AP (X:Cx) (Â:List<|È×Obj) (σ:St) (Q:List V->Hp->Prop) (us:List Ä) (s':Æ):Prop
 |mk (vs:List V) (H':Hp) (i:Inv X Â σ H' s') (r:gp vs us) (q:Q vs H')
abbrev SP(X:Cx)(Â:List<|È×Obj)(D:Ends)(f:Flow)(s':Æ):Prop :=
 match f with
 |.next=>∃ş H',Inv X Â ş H' s'/\D.nx ş H'
 |.brk=>∃ş H',Inv X Â ş H' s'/\D.bk ş H'
 |.cont=>∃ş H',Inv X Â ş H' s'/\D.ct ş H'
 |.ret u=>∃v ş H',Inv X Â ş H' s'/\RelV v u/\D.rt v H'
abbrev PE(X:Cx)(e:Expr)(t:TE):Prop :=
 ∀(Â:List<|È×Obj) (s:Æ) (σ:St) (H:Hp) (Q:VK),Inv X Â σ H s->t σ H Q->wpAny (à X.prog X.w) X.A (eval e X.env) (EP X Â σ Q) X.xe s
abbrev PT(X:Cx)(e:Expr)(t:TT):Prop :=
 ∀(Â:List<|È×Obj) (s:Æ) (σ:St) (H:Hp) (Q:Bool->Hp->Prop),Inv X Â σ H s->t σ H Q->wpAny (à X.prog X.w) X.A (cf e X.env<|eval e X.env) (TP X Â σ Q) X.xe s
abbrev PW(X:Cx)(e:Expr)(t:TT):Prop :=
 ∀(aK:Sem Ä) (Â:List<|È×Obj) (s:Æ) (σ:St) (H:Hp) (Q:Bool->Hp->Prop),Inv X Â σ H s->t σ H Q->wpAny (à X.prog X.w) X.A (cf e X.env aK) (TP X Â σ Q) X.xe s
def PW.pt{X:Cx}{e:Expr}{t:TT}(h:PW X e t):PT X e t:=h _
abbrev PA(X:Cx)(es:List Expr)(t:TA):Prop :=
 ∀(ì:Pos) (Â:List<|È×Obj) (s:Æ) (σ:St) (H:Hp) (Q:List V->Hp->Prop),Inv X Â σ H s->t σ H Q->wpAny (à X.prog X.w) X.A (spliced<|ě ì<|Ú es X.env) (AP X Â σ Q) X.xe s
abbrev PS(X:Cx)(st:Ł)(t:TS):Prop :=
 ∀(Â:List<|È×Obj) (s:Æ) (σ:St) (H:Hp) (D:Ends),Inv X Â σ H s->t D σ H->wpAny (à X.prog X.w) X.A (exec st X.env) (SP X Â D) X.xe s
abbrev PSs(X:Cx)(st:List Ł)(t:TS):Prop :=
 ∀(Â:List<|È×Obj) (s:Æ) (σ:St) (H:Hp) (D:Ends),Inv X Â σ H s->t D σ H->wpAny (à X.prog X.w) X.A (execs st X.env) (SP X Â D) X.xe s
def thn{α:Type}{t:Sem α}{Q Q':α->Æ->Prop}{M:Model}{A:č}{E:Ä->Æ->Prop}{s:Æ}(h:wpAny M A t Q E s)(hQ:∀a s,Q a s->Q' a s):wpAny M A t Q' E s:=ő h hQ λ_ _ x=>x
section
variable {X:Cx}
variable {Â:List (È×Obj)} {s:Æ} {σ:St} {H:Hp}
def bin{a b:Expr}{ta tb:TE}(ha:PE X a ta)(hb:PE X b tb){R:V->V->Hp->Prop}(I:Inv X Â σ H s)(h:ta σ H λx H1=>tb σ H1 λy H2=>R x y H2)
  {α:Type}{Q:α->Æ->Prop}{f:Ä->Ä->Sem α}
  (hf:∀v u s2 x y H2,Inv X Â σ H2 s2->RelV x v->RelV y u->R x y H2->wpAny (à X.prog X.w) X.A (f v u) Q X.xe s2) :
  wpAny (à X.prog X.w) X.A (eval a X.env) (λv ė=>wpAny (à X.prog X.w) X.A (eval b X.env) (λu bU=>wpAny (à X.prog X.w) X.A (f v u) Q X.xe bU) X.xe ė) X.xe s:=by
 refine thn (ha Â s σ H _ I h) λv s1 ⟨x,H1,I1,r1,q1⟩=>?_;refine thn (hb Â s1 σ H1 _ I1 q1) λu s2 ⟨y,H2,I2,r2,q2⟩=>?_;exact hf v u s2 x y H2 I2 r1 r2 q2
abbrev R1(i:Nat):TE:=λσ H Q=>∃v,σ[i]?=fb (fb v)/\Q v H
abbrev tC(v:V):TE:=λ_ H Q=>Q v H
variable {x:Str} {ì:Pos}
def LC{i:Nat}(hN:X.N[i]?=fb x)(hv:Vis X.env.scope x)(hd:(x==("__debug__" : Str))=ff:=by decide)(bj:(x==("__classdict__" : Str))=ff:=by decide):PE X (.Name x ì)<|R1 i:=by
 k_upd;let⟨v,e,h⟩:=h;let⟨m,hn,hl⟩:=I.loc;let⟨u,r,l⟩:=hl i x v hN e hv;have fin:EP X Â σ Q u s:=⟨v,H,I,r,h⟩
 rcases l with⟨hk,hm⟩|⟨hk,c,hc,hcell⟩
 .exact wpAny_Name (wpAny_loadName_local I.ok.kind hk hn hm fin) hd
 .rcases hk with hk|hk
  .exact wpAny_Name (wpAny_loadName_cell I.ok.kind hk hc hcell fin) hd
  .exact wpAny_Name (wpAny_loadName_free I.ok.kind hk hc hcell fin bj) hd
def OD{i j ì}:PE X (.Constant (.int i) j ì)<|tC<|.int i:=λ_ _ _ H _ I h=>wpAny_Constant_int ⟨.int i,H,I.tok _,⟨_,rfl⟩,h⟩
def QE{b j ì}:PE X (.Constant (.bool b) j ì)<|tC<|.bl b:=λ_ _ _ H _ I h=>Constant_bool ⟨.bl b,H,I,rfl,h⟩
def B4{j ì}:PE X (.Constant .none j ì)<|tC .non:=λ_ _ _ H _ I h=>dh ⟨.non,H,I,rfl,h⟩
def pe_str{x j ì}:PE X (.Constant (.str x) j ì)<|tC<|.str x:=λ_ _ _ H _ I h=>Calls.Constant_str ⟨.str x,H,I.tok _,⟨_,rfl⟩,h⟩
abbrev Gl(X:Cx)(x:Str):Prop:=X.env.kindOf x=fb .globalImplicit
variable {u:Ä} {Q:Ä->Æ->Prop}
def W6{E:Ä->Æ->Prop}(I:Inv X Â σ H s)(hg:Gl X x)(hm:X.mg x=fb u)(h:Q u s)
  (hd:(x==("__debug__" : Str))=ff:=by decide):wpAny (à X.prog X.w) X.A (eval (.Name x ì) X.env) Q E s :=
 Calls.Name_function_global I.ok.kind hg (Calls.loadGlobal_global (by rw[I.ok.glob];exact I.mod.glob.keeps I.bk) hm h) hd
def Z2{E:Ä->Æ->Prop}(I:Inv X Â σ H s)(hg:Gl X x)(hm:X.mg x=fc)(hv:š x=fb u)(h:Q u s)
  (hn:x≠"__name__":=by decide) (hd:(x==("__debug__" : Str))=ff:=by decide):wpAny (à X.prog X.w) X.A (eval (.Name x ì) X.env) Q E s:=by
 let⟨mb,h1,h2⟩:=I.mod.blt;exact Calls.Name_function_global I.ok.kind hg (Calls.loadGlobal_builtin (by rw[I.ok.glob];exact I.mod.glob.keeps I.bk) hm (by rw[I.ok.blt];exact h1.keeps I.bk) ((h2 x hn).trans hv) h) hd
def Fy{v:V}(hg:Gl X x)(hm:X.mg x=fb u)(r:RelV v u)(hd:(x==("__debug__" : Str))=ff:=by decide):PE X (.Name x ì) (tC v) :=
 λ_ _ _ H _ I h=>W6 I hg hm ⟨v,H,I,r,h⟩ hd
def FS{v:V}(hg:Gl X x)(hm:X.mg x=fc)(hv:š x=fb u)(r:RelV v u)(hn:x≠"__name__":=by decide)(hd:(x==("__debug__" : Str))=ff:=by decide):PE X (.Name x ì) (tC v) :=
 λ_ _ _ H _ I h=>Z2 I hg hm hv ⟨v,H,I,r,h⟩ hn hd
variable {a b:Expr}{ta tb:TE}{ì:Pos}
abbrev PC(X:Cx)(op:cg)(a b:Expr)(t:TE):Prop :=
 ∀(Â:List<|È×Obj) (s:Æ) (σ:St) (H:Hp) (Q:VK),Inv X Â σ H s->t σ H Q->
  wpAny (à X.prog X.w) X.A (eval a X.env) (λv ė=>wpAny (à X.prog X.w) X.A (eval b X.env) (λu bU=>wpAny (à X.prog X.w) X.A (ð op v u) (EP X Â σ Q) X.xe bU) X.xe ė) X.xe s
variable {op:cg}
def M9(b:Expr)(h:op≠.In)(h2:op≠.NotIn):Ļ op b=ff:=by
 have e1:(op==CmpOp.In)=ff:=by cases op<;>first|rfl|exact gL rfl h
 have e2:(op==CmpOp.NotIn)=ff:=by cases op<;>first|rfl|exact gL rfl h2
 cases b<;>simp[Ļ,e1,e2]
abbrev R4(ta:TE):TE:=λσ H Q=>ta σ H λx H1=>Q (.bl<|gM (x=.non)) H1
abbrev Qz(ta:TE):TE:=λσ H Q=>ta σ H λx H1=>Q (.bl (!gM (x=.non))) H1
def RelV.none_iff{x:V}{v:Ä}(r:RelV x v):(v==Value.none)=gM (x=.non):=by
 cases x with
 |non=>cases r;rfl
 |bl _=>cases r;rfl
 |int _=>let⟨t,rfl⟩:=r;rfl
 |str _=>let⟨t,rfl⟩:=r;rfl
 |byt _=>let⟨t,rfl⟩:=r;rfl
 |flt _=>let⟨t,rfl⟩:=r;rfl
 |ref _=>cases r;rfl
 |ty _=>cases r;rfl
def D4{j bD}(ha:PE X a ta):PC X .Is a (.Constant .none j bD)<|R4 ta:=by k_upd;refine thn (ha Â s σ H _ I h) λv s1 ⟨x,H1,I1,r1,q1⟩=>?_;exact dh (is_none_gen ⟨.bl _,H1,I1,by rw[r1.none_iff];rfl,q1⟩)
def Ux{j bD}(ha:PE X a ta):PC X .IsNot a (.Constant .none j bD)<|Qz ta:=by k_upd;refine thn (ha Â s σ H _ I h) λv s1 ⟨x,H1,I1,r1,q1⟩=>?_;exact dh (isnot_none_gen ⟨.bl _,H1,I1,by rw[r1.none_iff];rfl,q1⟩)
abbrev tB(t:TE):TT:=λσ H Q=>t σ H λx H1=>∃c,x=.bl c/\Q c H1
def D3{t:TE}(h:PC X op a b t)(h1:Ļ op b=ff:=by first|exact M9 _ (by decide) (by decide)|rfl):PE X (.Compare a [op] [b] ì) t:=λÂ s σ H Q I hw=>wpAny_Compare1 (h Â s σ H Q I hw) h1
def De{t:TE}(h:PC X op a b t)(h1:Ļ op b=ff:=by first|exact M9 _ (by decide) (by decide)|rfl):PT X (.Compare a [op] [b] ì)<|tB t:=by intro Â s σ H Q I hw;refine wpAny_isTrue_Compare1 (thn (h Â s σ H _ I hw) λv s1 h1=>thn h1 λu s2 h2=>thn h2 λc s3 ⟨x,H1,I1,r1,q1⟩=>?_) h1;let⟨d,rfl,q⟩:=q1;cases r1;exact Đ ⟨H1,I1,q⟩
variable {tA tB':TT}{rest:List Expr}
abbrev SE(t u:TT):TT:=λσ H Q=>t σ H λc H1=>if c=fe then u σ H1 Q else Q ff H1
abbrev tOr(t u:TT):TT:=λσ H Q=>t σ H λc H1=>if c=fe then Q fe H1 else u σ H1 Q
abbrev So(t:TT):TT:=λσ H Q=>t σ H λc H1=>Q (!c) H1
def GS(ha:PT X a tA):PW X (.BoolOp .And [a] ì) tA:=by
 intro wh Â s σ H Q I h;refine isTrue_and<|thn (ha Â s σ H Q I h) λc s1 e=>?_;cases c with
 |true=>exact isTrue_and_nil e
 |false=>exact e
def IW(ha:PT X a tA):PW X (.BoolOp .Or [a] ì) tA:=by
 intro wh Â s σ H Q I h;refine isTrue_or<|thn (ha Â s σ H Q I h) λc s1 e=>?_;cases c with
 |false=>exact isTrue_or_nil e
 |true=>exact e
def Lg(ha:PT X a tA)(hb:PW X (.BoolOp .And (b::rest) ì) tB'):PW X (.BoolOp .And (a::b::rest) ì)<|SE tA tB':=by
 intro wh Â s σ H Q I h;refine isTrue_and<|thn (ha Â s σ H _ I h) λc s1 ⟨H1,I1,q1⟩=>?_;cases c with
 |true=>exact hb wh Â s1 σ H1 Q I1 q1
 |false=>exact⟨H1,I1,q1⟩
def Qe(ha:PT X a tA)(hb:PW X (.BoolOp .Or (b::rest) ì) tB'):PW X (.BoolOp .Or (a::b::rest) ì)<|tOr tA tB':=by
 intro wh Â s σ H Q I h;refine isTrue_or<|thn (ha Â s σ H _ I h) λc s1 ⟨H1,I1,q1⟩=>?_;cases c with
 |true=>exact⟨H1,I1,q1⟩
 |false=>exact hb wh Â s1 σ H1 Q I1 q1
def HN(ha:PT X a tA):PT X (.UnaryOp .Not a ì)<|So tA:=by k_upd;exact isTrue_not (ha Â s σ H (λc H1=>Q (!c) H1) I h)
abbrev PR(ta tb:TE):TE:=λσ H Q=>ta σ H λx H1=>∃c,x=.bl c/\if c=fe then tb σ H1 Q else Q (.bl ff) H1
abbrev RX(ta tb:TE):TE:=λσ H Q=>ta σ H λx H1=>∃c,x=.bl c/\if c=fe then Q (.bl fe) H1 else tb σ H1 Q
abbrev PX(ta:TE):TE:=λσ H Q=>ta σ H λx H1=>∃c,x=.bl c/\Q (.bl (!c)) H1
def Dz{op}{t:TE}(h:PE X a t):PE X (.BoolOp op [a] ì) t:=λÂ s σ H Q I hw=>BoolOp_one (h Â s σ H Q I hw)
def Ib(ha:PE X a ta)(hb:PE X (.BoolOp .And (b::rest) ì) tb):PE X (.BoolOp .And (a::b::rest) ì)<|PR ta tb:=by
 k_upd;refine BoolOp_and<|thn (ha Â s σ H _ I h) λv s1 ⟨x,H1,I1,r1,q1⟩=>?_;let⟨c,rfl,q1⟩:=q1;cases r1;refine Đ ?_;cases c with
 |true=>exact hb Â s1 σ H1 Q I1 q1
 |false=>exact⟨.bl ff,H1,I1,rfl,q1⟩
def QY(ha:PE X a ta)(hb:PE X (.BoolOp .Or (b::rest) ì) tb):PE X (.BoolOp .Or (a::b::rest) ì)<|RX ta tb:=by
 k_upd;refine BoolOp_or<|thn (ha Â s σ H _ I h) λv s1 ⟨x,H1,I1,r1,q1⟩=>?_;let⟨c,rfl,q1⟩:=q1;cases r1;refine Đ ?_;cases c with
 |false=>exact hb Â s1 σ H1 Q I1 q1
 |true=>exact⟨.bl fe,H1,I1,rfl,q1⟩
def Pc(ha:PE X a ta):PE X (.UnaryOp .Not a ì)<|PX ta:=by k_upd;refine UnaryOp_<|thn (ha Â s σ H _ I h) λv s1 ⟨x,H1,I1,r1,q1⟩=>?_;let⟨c,rfl,q1⟩:=q1;cases r1;exact not_of (Đ ⟨.bl (!c),H1,I1,rfl,q1⟩)
abbrev tIf(t:TT)(ta tb:TE):TE:=λσ H Q=>t σ H λc H1=>if c=fe then ta σ H1 Q else tb σ H1 Q
def EA{c:Expr}(hc:PT X c tA)(ha:PE X a ta)(hb:PE X b tb):PE X (.IfExp c a b ì)<|tIf tA ta tb:=by
 k_upd;refine wpAny_IfExp<|thn (hc Â s σ H _ I h) λd s1 ⟨H1,I1,q1⟩=>?_;cases d with
 |true=>exact ha Â s1 σ H1 Q I1 q1
 |false=>exact hb Â s1 σ H1 Q I1 q1
end
abbrev gk(K:Frag)(H:Hp)(a:È)(xs:List V):Prop :=
 Rd H a (.lst xs)\/
  ∃(o:Obj) (ó:Array Ä) (n:Nat),K.lookup a=fb o/\o.cls=.type "list"/\o.dict=fc/\o.data=.seq ó n/\ó.size<=Ü/\gp xs ó.toList
abbrev gm(K:Frag)(H:Hp)(a:È)(xs:List V):Prop :=
 Rd H a (.tup xs)\/
  ∃(o:Obj) (ó:Array Ä) (n:Nat),K.lookup a=fb o/\o.cls=.type "tuple"/\o.data=.seq ó n/\ó.size<=Ü/\gp xs ó.toList
abbrev absV:Ä->Option V
 |.none=>fb .non
 |.bool b=>fb<|.bl b
 |.int i _=>fb<|.int i
 |.str x _=>fb<|.str x
 |.bytes b _=>fb<|.byt b
 |.float b _=>fb<|.flt b
 |.ref a=>fb<|.ref a
 |.type n=>fb<|.ty n
 |_=>fc
variable {x:V} {u:Ä}
def RelV.abs(r:RelV x u):absV u=fb x:=by
 cases x with
 |non=>cases r;rfl
 |bl _=>cases r;rfl
 |int _=>let⟨t,rfl⟩:=r;rfl
 |str _=>let⟨t,rfl⟩:=r;rfl
 |byt _=>let⟨t,rfl⟩:=r;rfl
 |flt _=>let⟨t,rfl⟩:=r;rfl
 |ref _=>cases r;rfl
 |ty _=>cases r;rfl
def RelV.inj{y:V}(r:RelV x u)(q:RelV y u):x=y:=ê (r.abs.symm.trans q.abs)
def gp.inj:∀{xs ys:List V}{us:List Ä},gp xs us->gp ys us->xs=ys
 |_,_,_,.nil,.nil=>rfl
 |_,_,_,.cons r t,.cons r' t'=>by rw[r.inj r',gp.inj t t']
section
variable {X:Cx}{Â:List (È×Obj)}{σ:St}{H:Hp}{s:Æ}{a:È}{xs ys:List V}
def gk.of{K:Frag}(h:H a=fb (.lst xs)):gk K H a xs:=.inl (.inl h)
def gm.of{K:Frag}(h:H a=fb (.tup xs)):gm K H a xs:=.inl (.inl h)
def Inv.list(I:Inv X Â σ H s)(h:gk X.K H a xs):∃ó:List Ä,gp xs ó/\PlainL s.heap a ó.toArray/\xs.length<=Ü:=by
 rcases h with h|⟨o,ó,n,hk,hc,hd,hs,hz,r⟩
 .obtain⟨z,ó,n,r,e⟩:=h.ok I.hok;exact⟨ó,r,⟨_,n,e,rfl,rfl,rfl⟩,z⟩
 .refine⟨ó.toList,r,⟨o,n,I.kIn a o hk,hc,hd,⇑hs⟩,?_⟩;have e:=r.length;simp![Ğ]at e;lia
def Inv.tuple(I:Inv X Â σ H s)(h:gm X.K H a xs):∃ó:List Ä,gp xs ó/\ϳ s.heap a ó.toArray/\xs.length<=Ü:=by
 rcases h with h|⟨o,ó,n,hk,hc,hs,hz,r⟩
 .obtain⟨z,ó,r,p⟩:=h.ok I.hok;exact⟨ó,r,p,z⟩
 .refine⟨ó.toList,r,⟨o,I.kIn a o hk,hc,n,⇑hs⟩,?_⟩;have e:=r.length;simp![Ğ]at e;lia
def Inv.list_inj(I:Inv X Â σ H s)(h:gk X.K H a xs)(h':gk X.K H a ys):xs=ys:=by
 let⟨ó,r,⟨o,n,e,_,_,d⟩,_⟩:=I.list h;let⟨its',r',⟨o',n',e',_,_,d'⟩,_⟩:=I.list h';rw[e]at e';cases e';rw[d]at d';injection d' with d1 _;have:ó=its':=by simpa using congrArg bP d1
 subst this;exact r.inj r'
def Inv.tuple_inj(I:Inv X Â σ H s)(h:gm X.K H a xs)(h':gm X.K H a ys):xs=ys:=by
 let⟨ó,r,⟨o,e,_,n,d⟩,_⟩:=I.tuple h;let⟨its',r',⟨o',e',_,n',d'⟩,_⟩:=I.tuple h';rw[e]at e';cases e';rw[d]at d';injection d' with d1 _;have:ó=its':=by simpa using congrArg bP d1
 subst this;exact r.inj r'
end
section
variable {X:Cx}{st:Ł}{rest:List Ł}{t u:TS}{e:Expr}{te:TE}{ì:Pos}
abbrev Q2:TS:=λD σ H=>D.nx σ H
abbrev SF(t u:TS):TS:=λD σ H=>t {D with nx:=u D} σ H
def pss_nil:PSs X [] Q2:=λ_ _ σ H _ I h=>wpAny_execs_nil ⟨σ,H,I,h⟩
def Cp(h1:PS X st t)(h2:PSs X rest u):PSs X (st::rest)<|SF t u:=by
 intro Â s σ H D I h;refine wpAny_execs_cons<|thn (h1 Â s σ H {D with nx:=u D} I h) λf s1 q=>?_;cases f with
 |next =>let⟨ş,H',I',q⟩:=q;exact h2 Â s1 ş H' D I' q
 |ret v=>exact q
 |brk=>exact q
 |cont=>exact q
def Inv.quiet{Â:List (È×Obj)}{σ:St}{H:Hp}{s:Æ}(I:Inv X Â σ H s):interactive X.env=ff:=by simp[interactive,I.ok.kind]
abbrev QX(te:TE):TS:=λD σ H=>te σ H λ_ H1=>D.nx σ H1
def EL(he:PE X e te)(hs:ų e fc ì.line X.env=pure ff:=by rfl):PS X (.Expr e ì)<|QX te:=by intro Â s σ H D I h;exact wpAny_Expr_any (thn (he Â s σ H _ I h) λv s1 ⟨x,H1,I1,r1,q1⟩=>⟨σ,H1,I1,q1⟩) I.quiet hs
abbrev SC(te:TE):TS:=λD σ H=>te σ H D.rt
def Ia(he:PE X e te):PS X (.Return (fb e) ì)<|SC te:=by intro Â s σ H D I h;exact wpAny_Return_some (thn (he Â s σ H _ I h) λv s1 ⟨x,H1,I1,r1,q1⟩=>⟨x,σ,H1,I1,r1,q1⟩)
abbrev Rg:TS:=λD _ H=>D.rt .non H
def ps_retN:PS X (.Return fc ì) Rg:=λ_ _ σ H _ I h=>wpAny_Return_none ⟨.non,σ,H,I,rfl,h⟩
abbrev Sr(c:TT)(t u:TS):TS:=λD σ H=>c σ H λb H1=>if b=fe then t D σ H1 else u D σ H1
def Qq{c:Expr}{a b:List Ł}{tc:TT}(hc:PT X c tc)(ha:PSs X a t)(hb:PSs X b u):PS X (.If c a b ì)<|Sr tc t u:=by
 intro Â s σ H D I h;refine wpAny_If<|thn (hc Â s σ H _ I h) λd s1 ⟨H1,I1,q1⟩=>?_;cases d with
 |true=>exact ha Â s1 σ H1 D I1 q1
 |false=>exact hb Â s1 σ H1 D I1 q1
end
noncomputable abbrev TG:=V->St->Hp->(St->Hp->Prop)->Prop
noncomputable abbrev TGs:=List V->St->Hp->(St->Hp->Prop)->Prop
abbrev PG(X:Cx)(af:Expr)(t:TG):Prop :=
 ∀(Â:List<|È×Obj) (s:Æ) (σ:St) (H:Hp) (v:V) (u:Ä) (Q:St->Hp->Prop),Inv X Â σ H s->RelV v u->t v σ H Q->
  wpAny (à X.prog X.w) X.A (η af X.env u) (λ_ s'=>∃ş H',Inv X Â ş H' s'/\Q ş H') X.xe s
abbrev PGs(X:Cx)(ts:List Expr)(t:TGs):Prop :=
 ∀(Â:List<|È×Obj) (s:Æ) (σ:St) (H:Hp) (vs:List V) (us:List Ä) (Q:St->Hp->Prop),Inv X Â σ H s->gp vs us->t vs σ H Q->
  wpAny (à X.prog X.w) X.A (assignInOrder ((Ĝ ts X.env).map (·.2)) us) (λ_ s'=>∃ş H',Inv X Â ş H' s'/\Q ş H') X.xe s
noncomputable abbrev BQ:=V->V->V->Hp->(Hp->Prop)->Prop
abbrev PSet(X:Cx)(t:BQ):Prop :=
 ∀(Â:List<|È×Obj) (s:Æ) (σ:St) (H:Hp) (o i v:V) (ov iv u:Ä) (Q:Hp->Prop),Inv X Â σ H s->RelV o ov->RelV i iv->RelV v u->t o i v H Q->
  wpAny (à X.prog X.w) X.A (aW ov iv u) (λ_ s'=>∃H',Inv X Â σ H' s'/\Q H') X.xe s
noncomputable abbrev TIp:=V->V->Hp->VK->Prop
abbrev PIp(X:Cx)(op:ϗ)(t:TIp):Prop :=
 ∀(Â:List<|È×Obj) (s:Æ) (σ:St) (H:Hp) (x y:V) (v u:Ä) (Q:VK),Inv X Â σ H s->RelV x v->RelV y u->t x y H Q->
  wpAny (à X.prog X.w) X.A (inplaceOp op v u) (EP X Â σ Q) X.xe s
section
variable {X:Cx}{ì:Pos}
abbrev HM(i:Nat):TG:=λv σ H Q=>Q (σ.set i<|fb v) H
def UK{i:Nat}{x:Str}(hN:X.N.Nodup)(hi:X.N[i]?=fb x)(hx:Loc X.env.scope x)(hf:X.fn x=fe\/X.env.scope.names.lookup x=fb .local:=by first|exact .inl rfl|exact .inr rfl|assumption):PG X (.Name x ì)<|HM i:=by intro Â s σ H v u Q I r h;exact wpAny_assign_Name (Dj I hN hi hx r (λs' I'=>⟨_,H,I',h⟩) hf)
abbrev SG:TGs:=λvs σ H Q=>vs=[]/\Q σ H
abbrev Qy(t:TG)(u:TGs):TGs:=λvs σ H Q=>∃v r,vs=v::r/\t v σ H λş H'=>u r ş H' Q
def pgs_nil:PGs X [] SG:=by intro Â s σ H vs us Q I r h;let⟨e,h⟩:=h;subst e;cases r;exact assignInOrder_nil ⟨σ,H,I,h⟩
variable {e:Expr} {es:List Expr}
def JX{t:TG}{u:TGs}(h1:PG X e t)(h2:PGs X es u)
  (hs:(Ĝ (e::es) X.env).map (·.2)=η e X.env::(Ĝ es X.env).map (·.2):=by rfl):PGs X (e::es)<|Qy t u:=by
 intro Â s σ H vs us Q I r h;let⟨v,vr,e1,h⟩:=h;subst e1;cases r with
 |cons r rr =>rw[hs];refine assignInOrder_cons<|thn (h1 Â s σ H _ _ _ I r h) λ_ s1 ⟨σ1,H1,I1,q1⟩=>?_;exact h2 Â s1 σ1 H1 _ _ Q I1 rr q1
abbrev R7(K:Frag)(n:Nat)(t:TGs):TG:=λv σ H Q=>∃a xs,v=.ref a/\gm K H a xs/\xs.length=n/\t xs σ H Q
def Eb{k:Nat}{t:TGs}{n:Nat}(hc:X.calm=fe)(h:PGs X es t)
  (hn:(Ĝ es X.env).length=n:=by rfl) (Š:(Ĝ es X.env).findIdx? (·.1)=fc:=by rfl):PG X (.Tuple es k ì)<|R7 X.K n t:=by
 intro Â s σ H v u Q I r hw;let⟨a,xs,e1,hq,hl,hw⟩:=hw;subst e1;cases r;let⟨ó,rv,ht,hz⟩:=I.tuple hq;refine assign_Tuple_tuple (I.ok.hd hc) ht (by simp[hn,<-hl,rv.length]) Š λh' hx=>?_;have I1:Inv X Â σ H {s with heap:=h'}:=I.kept (t':=s.toks) λb o e=>hx b o (â<|Ø e) e;exact h Â _ σ H xs _ Q I1 ⇑rv hw
abbrev Rz(to ti:TE)(t:BQ):TG:=λv σ H Q=>to σ H λo H1=>ti σ H1 λi H2=>t o i v H2 λH3=>Q σ H3
variable {o:Expr} {i:Expr} {to:TE} {ti:TE}
def L5{t:BQ}(ho:PE X o to)(hi:PE X i ti)(hs:PSet X t)
  (ha:∀v,η (.Subscript o i ì) X.env v=(do
    let ov<-Ņ [v] (eval o X.env)
    let iv<-Ņ [v,ov] (eval i X.env)
    ώ ì
    Ņ [v,ov,iv] (aW ov iv v)
    eF [v,ov,iv] []):=by intro _;rfl):PG X (.Subscript o i ì)<|Rz to ti t:=by
 intro Â s σ H v u Q I r h;rw[ha];refine Á<|Ĭ<|thn (ho Â s σ H _ I h) λov s1 ⟨x,H1,I1,r1,q1⟩=>?_;refine Á<|Ĭ<|thn (hi Â s1 σ H1 _ I1 q1) λiv s2 ⟨y,H2,I2,r2,q2⟩=>?_;refine Á<|di<|Á<|Ĭ<|thn (hs Â s2 σ H2 x y v ov iv u _ I2 r1 r2 r q2) λ_ s3 ⟨H3,I3,q3⟩=>?_;exact wpAny_release ⟨σ,H3,I3,q3⟩
abbrev Qi(te:TE)(g:TG):TS:=λD σ H=>te σ H λx H1=>g x σ H1 D.nx
variable {te:TE}
def CC{tg:Expr}{g:TG}(he:PE X e te)(hg:PG X tg g)(hs:ϐ [tg] e ì.line X.env=pure ff:=by rfl)(hw:ϑ [tg] e X.env=pure fc:=by rfl)
  (h1:(Ĝ [tg] X.env).map (·.2)=[η tg X.env]:=by rfl):PS X (.Assign [tg] e ì)<|Qi te g:=by
 intro Â s σ H D I h;refine wpAny_Assign_stores (thn (he Â s σ H _ I h) λv s1 ⟨x,H1,I1,r1,q1⟩=>?_) hs hw;rw[h1];exact thn (hg Â s1 σ H1 x v _ I1 r1 q1) λ_ s2 q=>q
abbrev RI(to ti te:TE)(tget:V->V->Hp->VK->Prop)(tip:TIp)(tset:BQ):TS:=λD σ H=>to σ H λo H1=>ti σ H1 λi H2=>tget o i H2 λx H3=>te σ H3 λy H4=>tip x y H4 λz H5=>tset o i z H5 λH6=>D.nx σ H6
abbrev PGet(X:Cx)(t:V->V->Hp->VK->Prop):Prop :=
 ∀(Â:List<|È×Obj) (s:Æ) (σ:St) (H:Hp) (o i:V) (ov iv:Ä) (Q:VK),Inv X Â σ H s->RelV o ov->RelV i iv->t o i H Q->
  wpAny (à X.prog X.w) X.A (Ϣ ov iv) (EP X Â σ Q) X.xe s
def FD{tget:V->V->Hp->VK->Prop}{tip:TIp}{tset:BQ}{op:ϗ}{cH:Pos}(ho:PE X o to)(hi:PE X i ti)(hg:PGet X tget)(he:PE X e te)(hp:PIp X op tip)(hs:PSet X tset)
  (ha:∀ov iv new,augStore i ov iv new=(do Ņ [new,ov,iv] (aW ov iv new);eF [new,ov,iv] [];pure .next):=by intros;rfl):PS X (.AugAssign (.Subscript o i cH) op e ì)<|RI to ti te tget tip tset:=by
 intro Â s σ H D I h;refine wpAny_AugAssign_SubscriptAny (thn (ho Â s σ H _ I h) λov s1 ⟨x1,H1,I1,r1,q1⟩=>?_) ha;refine thn (hi Â s1 σ H1 _ I1 q1) λiv s2 ⟨x2,H2,I2,r2,q2⟩=>?_;refine thn (hg Â s2 σ H2 x1 x2 ov iv _ I2 r1 r2 q2) λΝ s3 ⟨x3,H3,I3,r3,q3⟩=>?_;refine thn (he Â s3 σ H3 _ I3 q3) λv s4 ⟨x4,H4,I4,r4,q4⟩=>?_;refine thn (hp Â s4 σ H4 x3 x4 Ν v _ I4 r3 r4 q4) λnew s5 ⟨x5,H5,I5,r5,q5⟩=>?_;exact thn (hs Â s5 σ H5 x1 x2 x5 ov iv new _ I5 r1 r2 r5 q5) λ_ s6 ⟨H6,I6,q6⟩=>⟨σ,H6,I6,q6⟩
end
structure It where
 go:Nat->Hp->Prop
 yld:Nat->Hp->V->Hp->Prop
 stop:Nat->Hp->Prop
abbrev Wv(X:Cx)(Â:List<|È×Obj)(H:Hp)(b:È):Prop :=
 H b=fc/\b≠X.env.locals/\b∉X.fs/\(b∈X.ex\/X.s₀.heap.objs.size<=b)/\(∀x c,X.env.cells.lookup x=fb c->c≠b)/\∀p∈X.pn++Â,p.1≠b
variable {s:Æ}
def Inv.fpOk{X:Cx}{Â:List (È×Obj)}{σ:St}{H H':Hp}{b:È}(I:Inv X Â σ H s)(hb:s.heap.objs.size<=b)(hn:H' b=fc):Wv X Â H' b:=by
 refine⟨hn,İ<|å I.lt hb,I.nofs hb,.inr<|Þ I.sz hb,λx c e z=>?_,λp hp z=>?_⟩
 .obtain⟨v,q⟩:=I.cell x c e;exact gL (å q.lt<|by rw[z];exact hb)<|Ĕ _
 .exact gL (å (Ø (I.pin p hp).1)<|by rw[z];exact hb)<|Ĕ _
structure Turn(P:è)(w:ā)(K:Frag)(tg:Expr)(J:It)(fp:List È)(it:È)(tn:Nat->Ć->Prop):Prop where
 mem:it∈fp
 obj:∀i h,tn i h->∀b∈fp,∃o,h.get? b=fb o/\∀v,o.data≠.cell v
 keep:∀i h h',tn i h->(∀b∈fp,∀o,h.get? b=fb o->h'.get? b=fb o)->tn i h'
 item:∀(X:Cx),X.prog=P->X.w=w->X.K=K->X.calm=fe->∀(i:Nat) (Â:List<|È×Obj) (s:Æ) (σ:St) (H:Hp) (E:Ä->Æ->Prop),Inv X Â σ H s->(∀b∈fp,Wv X Â H b)->tn i s.heap->J.go i H->
  wpAny (à P w) X.A (Ů<|.ref it) (λr s1=>∃u,r=fb u/\
    wpAny (à P w) X.A (Ϩ tg (.ref it) u) (λ_ s2=>∃x H',Inv X Â σ H' s2/\RelV x u/\J.yld i H x H'/\tn (i+1) s2.heap/\∀b∈fp,H' b=fc) E s1) E s
 done:∀(X:Cx),X.prog=P->X.w=w->X.K=K->X.calm=fe->∀(i:Nat) (Â:List<|È×Obj) (s:Æ) (σ:St) (H:Hp) (E:Ä->Æ->Prop),Inv X Â σ H s->(∀b∈fp,Wv X Â H b)->tn i s.heap->J.stop i H->
  wpAny (à P w) X.A (Ů<|.ref it) (λr s1=>r=fc/\Inv X Â σ H s1) E s
 self:∀(A:č) (i:Nat) (s:Æ) (Q:Ä->Æ->Prop) (E:Ä->Æ->Prop),tn i s.heap->Q (.ref it) s->wpAny (à P w) A (pyIter<|.ref it) Q E s
noncomputable abbrev TI:=St->Hp->(It->Hp->Prop)->Prop
abbrev PIE(X:Cx)(Â:List<|È×Obj)(σ:St)(tg:Expr)(R:It->Hp->Prop)(itv:Ä)(s2:Æ):Prop :=
 ∃(it:È) (fp:List È) (tn:Nat->Ć->Prop) (J:It) (H':Hp),itv=.ref it/\Inv X Â σ H' s2/\Turn X.prog X.w X.K tg J fp it tn/\tn 0 s2.heap/\(∀b∈fp,Wv X Â H' b)/\R J H'
abbrev PI(X:Cx)(tg ũ:Expr)(wi:TI):Prop :=
 ∀(Â:List<|È×Obj) (s:Æ) (σ:St) (H:Hp) (R:It->Hp->Prop),Inv X Â σ H s->wi σ H R->
  wpAny (à X.prog X.w) X.A (eval ũ X.env) (λv s1=>wpAny (à X.prog X.w) X.A (pyIter v) (PIE X Â σ tg R) X.xe s1) X.xe s
variable {tg:Expr}
def fk{M:Model}{A:č}{E:Ä->Æ->Prop}{it:È}{o:Obj}{n:String}{vs:Array Ä}{Q:Unit->Æ->Prop}(ho:s.heap.get? it=fb o)(hc:o.cls=.type n)(hd:o.data=.fields vs)
  (hn:["enumerate","zip","dict_itemiterator","dict_reverseitemiterator","odict_iterator","itertools.zip_longest","itertools.pairwise"].contains n=ff) (hQ:Q () s):wpAny M A (Ϩ tg (.ref it) u) Q E s:=by
 unfold Ϩ;cases tg<;>first
  |exact Ñ hQ
  | (cases u<;>first
      |exact Ñ hQ
      | (refine Á (wpAny_load ho ?_)
         rw[hc,hd]
         show wpAny M A (if(["enumerate","zip","dict_itemiterator","dict_reverseitemiterator","odict_iterator","itertools.zip_longest","itertools.pairwise"].contains n&&vs[0]? == fb (Ŝ _))=fe then _ else _) Q E s
         rw[gG<|by intro h;rw[hn,Bool.false_and]at h;cases h]
         exact Ñ hQ))
abbrev Itl(K:Frag)(a:È):It :=
 ⟨λi H=>∃xs x,gk K H a xs/\xs[i]?=fb x,λi H x H'=>H'=H/\∀xs,gk K H a xs->xs[i]?=fb x,λi H=>∃xs,gk K H a xs/\xs.length<=i⟩
abbrev Itt(K:Frag)(a:È):It :=
 ⟨λi H=>∃xs x,gm K H a xs/\xs[i]?=fb x,λi H x H'=>H'=H/\∀xs,gm K H a xs->xs[i]?=fb x,λi H=>∃xs,gm K H a xs/\xs.length<=i⟩
abbrev Itr(lo:Int)(n:Nat):It:=⟨λi _=>i<n,λi H x H'=>H'=H/\x=.int (lo+i),λi _=>n<=i⟩
variable {P:è} {w:ā}
def At{K:Frag}(a it:È):Turn P w K tg (Itl K a) [it] it (λi h=>h.IsListIter it a i) where
 mem:=by simp
 obj:=λi h st b hb=>by
  have e:b=it:=⇑hb
  subst e;let⟨o,e,c,d⟩:=st;exact⟨o,e,λv z=>by rw[d]at z;cases z⟩
 keep:=λi h h' st k=>st.at λo e=>k it (by simp) o e
 item:=by k_ne;subst hP hw hK;let⟨xs,x,hq,hx⟩:=hg;let⟨ó,rv,p,hz⟩:=I.list hq;let⟨u,hu,ru⟩:=rv.get hx;let⟨f0,f1,f2,f3,f4,f5⟩:=hf it (by simp);refine wpAny_pyNext_list_item st p.isList (x:=u) ⇑hu λh' st' sb=>?_;have I1:Inv X Â σ H {s with heap:=h'}:=I.turned (t':=s.toks) (λb o hb e=>(sb.2 b hb).trans e) f0 f1 f3 f4 f5;let⟨o,e,c,d⟩:=id st';exact⟨u,rfl,fk (s:={s with heap:=h'}) e c d (by decide) ⟨x,H,I1,ru,⟨rfl,λys hy=>by rw[I.list_inj hy hq];exact hx⟩,st',λb hb=>(hf b hb).1⟩⟩
 done:=by k_ne;subst hP hw hK;let⟨xs,hq,hx⟩:=hg;let⟨ó,rv,p,hz⟩:=I.list hq;let⟨f0,f1,f2,f3,f4,f5⟩:=hf it (by simp);have hl:=rv.length;exact wpAny_pyNext_list_end (I.ok.hd hc) st p.isList (by simp;lia) λh' eb=>⟨rfl,I.turned (t':=s.toks) (λb o hb e=>eb b o hb e) f0 f1 f3 f4 f5⟩
 self:=λ_ _ _ _ _ st h=>wpAny_pyIter_listiter st h
def O6{K:Frag}(a it:È):Turn P w K tg (Itt K a) [it] it (λi h=>h.IsTupleIter it a i) where
 mem:=by simp
 obj:=λi h st b hb=>by
  have e:b=it:=⇑hb
  subst e;let⟨o,e,c,d⟩:=st;exact⟨o,e,λv z=>by rw[d]at z;cases z⟩
 keep:=λi h h' st k=>st.at λo e=>k it (by simp) o e
 item:=by k_ne;subst hP hw hK;let⟨xs,x,hq,hx⟩:=hg;let⟨ó,rv,p,hz⟩:=I.tuple hq;let⟨u,hu,ru⟩:=rv.get hx;let⟨f0,f1,f2,f3,f4,f5⟩:=hf it (by simp);refine wpAny_pyNext_tuple_item st (show s.heap.IsTuple a ó.toArray from p) (x:=u) ⇑hu λh' st' sb=>?_;have I1:Inv X Â σ H {s with heap:=h'}:=I.turned (t':=s.toks) (λb o hb e=>(sb.2 b hb).trans e) f0 f1 f3 f4 f5;let⟨o,e,c,d⟩:=id st';exact⟨u,rfl,fk (s:={s with heap:=h'}) e c d (by decide) ⟨x,H,I1,ru,⟨rfl,λys hy=>by rw[I.tuple_inj hy hq];exact hx⟩,st',λb hb=>(hf b hb).1⟩⟩
 done:=by k_ne;subst hP hw hK;let⟨xs,hq,hx⟩:=hg;let⟨ó,rv,p,hz⟩:=I.tuple hq;let⟨f0,f1,f2,f3,f4,f5⟩:=hf it (by simp);have hl:=rv.length;exact wpAny_pyNext_tuple_end (I.ok.hd hc) st (show s.heap.IsTuple a ó.toArray from p) (by simp;lia) λh' eb=>⟨rfl,I.turned (t':=s.toks) (λb o hb e=>eb b o hb e) f0 f1 f3 f4 f5⟩
 self:=λ_ _ _ _ _ st h=>wpAny_pyIter_tupleiter st h
def OR{K:Frag}(it:È)(lo:Int)(n:Nat):Turn P w K tg (Itr lo n) [it] it (λi h=>IsRangeIter h it (lo+(i:Nat)*1) ((n:Int) - (i:Nat)) 1) where
 mem:=by simp
 obj:=λi h st b hb=>by
  have e:b=it:=⇑hb
  subst e;exact⟨_,st,λv z=>by
    have z':Data.fields _=Data.cell v:=z
    cases z'⟩
 keep:=λi h h' st k=>k it (by simp) _ st
 item:=by k_ne;subst hP hw hK;let⟨f0,f1,f2,f3,f4,f5⟩:=hf it (by simp);have W:=Walks.range (prog:=X.prog) (w:=X.w) (I.ok.hd hc) it lo 1 n;refine W.item i s _ _ hg st λv h' tk hv st' kk=>?_;let⟨t,rfl⟩:=hv;have I1:Inv X Â σ H {s with heap:=h',toks:=tk}:=I.turned (λb o hb e=>kk b o ⇑hb e) f0 f1 f3 f4 f5;refine⟨_,rfl,fk (s:={s with heap:=h',toks:=tk}) (n:="range_iterator") st' rfl rfl (by decide) ⟨.int<|lo+i,H,I1,⟨t,?_⟩,⟨rfl,rfl⟩,st',λb hb=>(hf b hb).1⟩⟩;rw[dj]
 done:=by k_ne;subst hP hw hK;let⟨f0,f1,f2,f3,f4,f5⟩:=hf it (by simp);exact wpAny_pyNext_range_end (I.ok.hd hc) st (by have:n<=i:=hg;lia) λh' eb=>⟨rfl,I.turned (t':=s.toks) (λb o hb e=>eb b o hb e) f0 f1 f3 f4 f5⟩
 self:=λ_ _ _ _ _ st h=>wpAny_pyIter_rangeiter st h
section
variable {X:Cx}{tg:Expr}
variable {Â:List (È×Obj)} {σ:St} {H:Hp} {s:Æ}
def NN{R:It->Hp->Prop}{E:Ä->Æ->Prop}{lo hi:Int}{t u v:Tok}{tk:Nat}(I:Inv X Â σ H s)(h1:-(2 ^ 62)<=lo)(h2:lo<2 ^ 62)(h3:-(2 ^ 62)<=hi)(h4:hi<2 ^ 62)
  (q:R (Itr lo (hi - lo).toNat) H):wpAny (à X.prog X.w) X.A (pyIter<|.ref s.heap.objs.size) (PIE X Â σ tg R) E {s with heap:=s.heap.push {cls:=.type "range",data:=.fields #[.int lo t,.int hi u,.int 1 v]},toks:=tk}:=by
 refine wpAny_pyIter_range (IsRange.new ..) (small_one h1 h2 h3 h4) ?_;have I1:Inv X Â σ H { s with heap:=s.heap.push { cls:=.type "range",data:=.fields #[.int lo t,.int hi u,.int 1 v] },toks:=tk }:=I.kept λb o e=>Ã _ e;refine⟨(s.heap.push { cls:=.type "range",data:=.fields #[.int lo t,.int hi u,.int 1 v] }).objs.size,[(s.heap.push { cls:=.type "range",data:=.fields #[.int lo t,.int hi u,.int 1 v] }).objs.size],_,_,H,rfl,
   I1.kept (t':=tk) λb o e=>Ã _ e,OR _ lo (hi - lo).toNat,?_,λb hb=>?_,q⟩
 .have e1:lo+((0:Nat):Int)*1=lo:=by simp
  have e2:(((hi - lo).toNat:Nat):Int) - ((0:Nat):Int)=Builtin.Range.rangeSize lo hi 1:=by rw[rangeSize_one];split<;>lia
  show IsRangeIter _ _ (lo+((0:Nat):Int)*1) ((((hi - lo).toNat:Nat):Int) - ((0:Nat):Int)) 1;rw[e1,e2];exact Ô _ rfl
 .have e:b=(s.heap.push {cls:=.type "range",data:=.fields #[.int lo t,.int hi u,.int 1 v]}).objs.size:=⇑hb
  subst e;exact I1.fpOk (Ï _)<|I1.hok.fresh<|Ï _
abbrev Qn(ta:TA):TI:=λσ H R=>ta σ H λvs H1=>∃j:Int,vs=[.int j]/\-(2 ^ 62)<=j/\j<2 ^ 62/\R (Itr 0 j.toNat) H1
abbrev Qo(ta:TA):TI:=λσ H R=>ta σ H λvs H1=>∃i j:Int,vs=[.int i,.int j]/\(-(2 ^ 62)<=i/\i<2 ^ 62/\-(2 ^ 62)<=j/\j<2 ^ 62)/\R (Itr i (j - i).toNat) H1
variable {a:Expr} {ta:TA} {p:Pos} {ì:Pos}
def Bt(hg:Gl X "range")(hm:X.mg "range" = fc)(ha:PA X [a] ta)(hs:Ú [a] X.env=[(ff,eval a X.env)]:=by rfl):PI X tg (.Call (.Name "range" p) [a] [] ì)<|Qn ta:=by
 intro Â s σ H R I h;refine Call_<|Z2 I hg hm boot_range<|PyProof.Rows.callWith_type1 (thn (ha ì Â s σ H _ I h) λus s1 ⟨vs,H1,I1,r1,q1⟩=>?_) hs rfl;let⟨j,e,q1,q2,q⟩:=q1;subst e;cases r1 with
 |cons r rr =>cases rr;let⟨t,rfl⟩:=r;exact call_range_1 (NN I1 (by lia) (by lia) q1 q2<|by simpa using q)
def AL{b:Expr}(hg:Gl X "range")(hm:X.mg "range" = fc)(ha:PA X [a,b] ta)(hs:Ú [a,b] X.env=[(ff,eval a X.env),(ff,eval b X.env)]:=by rfl)(hs2:Ú [b] X.env=[(ff,eval b X.env)]:=by rfl) :
  PI X tg (.Call (.Name "range" p) [a,b] [] ì) (Qo ta):=by
 intro Â s σ H R I h;refine Call_ (Z2 I hg hm boot_range<|PyProof.Rows.callWith_type1 (thn (ha ì Â s σ H _ I h) λus s1 ⟨vs,H1,I1,r1,q1⟩=>?_) (by rw[hs,hs2])<|by rw[hs2];rfl);let⟨i,j,e,⟨q1,q2,q3,q4⟩,q⟩:=q1;subst e;cases r1 with
 |cons r rr =>
  cases rr with
  |cons r' rr =>cases rr;let⟨t,rfl⟩:=r;let⟨t',rfl⟩:=r';exact call_range_2<|NN I1 q1 q2 q3 q4 q
abbrev R8(wi:TI)(g:TG)(tb:TS):TS:=λD σ H=>wi σ H λJ H1=>∃W:Nat->Nat->St->Hp->Prop,(∃m,W 0 m σ H1)/\∀i m σ H,W i m σ H->
 (J.stop i H/\D.nx σ H)\/(J.go i H/\∃N:St->Hp->Prop,(∀ş H',N ş H'->∃m',m'<m/\W (i+1) m' ş H')/\∀x H',J.yld i H x H'->g x σ H' λσ2 H2=>tb {D with nx:=N,ct:=N,bk:=D.nx} σ2 H2)
abbrev XN(fp:List È)(h:Ć):List<|È×Obj:=fp.filterMap λb=>(h.get? b).map λo=>(b,o)
variable {fp:List È} {h:Ć}
def Z1{b:È}{o:Obj}(hb:b∈fp)(e:h.get? b=fb o):(b,o)∈XN fp h:=ρ.mpr ⟨b,hb,by rw[e];rfl⟩
def K5{p:È×Obj}(hp:p∈XN fp h):p.1∈fp/\h.get? p.1=fb p.2:=by
 let⟨b,hb,e⟩:=ρ.mp hp;cases q:h.get? b with
 |none=>rw[q]at e;cases e
 |some o =>rw[q]at e;have e':(b,o)=p:=ê e;subst e';exact⟨hb,q⟩
def Inv.pinned(I:Inv X Â σ H s)(hf:∀b∈fp,Wv X Â H b)(ho:∀b∈fp,∃o,s.heap.get? b=fb o/\∀v,o.data≠.cell v):Inv X (Â++XN fp s.heap) σ H s :=
 I.pins_of λp hp=>(Û.mp hp).elim (λz=>I.pin p<|Ê _ z) λz=>by let⟨hb,e⟩:=K5 z;let⟨f0,f1,f2,_⟩:=hf p.1 hb;let⟨o,e',d⟩:=ho p.1 hb;rw[e]at e';cases e';exact⟨e,f0,f1,f2,d⟩
def Inv.unpinned{pl:List (È×Obj)}(I:Inv X (Â++pl) σ H s):Inv X Â σ H s:=I.pins_of λp hp=>I.pin p (Ê _<|Ý _ hp)
def Et{ũ:Expr}{body:List Ł}{wi:TI}{g:TG}{tb:TS}(hp:aj (à X.prog X.w) X.A X.env X.xe)(hc:X.calm=fe)(hi:PI X tg ũ wi)(hg:PG X tg g)(hb:PSs X body tb)
  (hs:∀x,Ę ũ X.env x=pure x:=by intro _;rfl):PS X (.For tg ũ body [] ì)<|R8 wi g tb:=by
 intro Â s σ H D I h;refine wpAny_For (thn (hi Â s σ H _ I h) λv s1 h1=>thn h1 λitv s2 h2=>?_) hs;let⟨it,fp,tn,J,H2,e,I2,T,st2,f2,W,⟨m0,w0⟩,turn⟩:=h2;subst e;have stat:∀{H':Hp},(∀b∈fp,H' b=fc)->∀b∈fp,Wv X Â H' b:=λhn b hb=>⟨hn b hb,(f2 b hb).2⟩
 refine codeAny_forLoop_any (λn s'=>∃i ş H',Inv X Â ş H' s'/\tn i s'.heap/\(∀b∈fp,H' b=fc)/\W i n ş H') ?_ m0 ⟨0,σ,H2,I2,st2,λb hb=>(f2 b hb).1,w0⟩;rintro n s3 ⟨i,σ3,H3,I3,dD,fr3,w3⟩;rcases turn i n σ3 H3 w3 with⟨stop,qn⟩|⟨go,N,hN,step⟩
 .refine υ hp<|thn (T.done X rfl rfl rfl hc i Â s3 σ3 H3 X.xe I3 (stat fr3) dD stop) λr s4 ⟨hr,I4⟩=>?_;subst hr;exact wpAny_execs_nil ⟨σ3,H3,I4,qn⟩
 .refine υ hp<|thn (T.item X rfl rfl rfl hc i Â s3 σ3 H3 X.xe I3 (stat fr3) dD go) λr s4 ⟨u,hr,h4⟩=>?_;subst hr;refine υ hp<|thn h4 λ_ s5 ⟨x,H5,I5,r5,y5,st5,fr5⟩=>?_;have I5':=I5.pinned (stat fr5)<|T.obj _ _ st5;refine υ hp<|thn (hg _ s5 σ3 H5 x u _ I5' r5<|step x H5 y5) λ_ s6 ⟨σ6,H6,I6,q6⟩=>?_;refine υ hp<|thn (hb _ s6 σ6 H6 _ I6 q6) λf s7 q7=>?_;have again:∀{bE:St}{H7:Hp},Inv X (Â++XN fp s5.heap) bE H7 s7->N bE H7->∃m,m<n/\∃i ş H',Inv X Â ş H' s7/\tn i s7.heap/\(∀b∈fp,H' b=fc)/\W i m ş H':=λ{bE H7} I7 n7=>by
   let⟨m',hm,w7⟩:=hN bE H7 n7;refine⟨m',hm,i+1,bE,H7,I7.unpinned,T.keep _ _ _ st5 λb hb o e=>(I7.pin (b,o)<|Ê _<|Ê _<|Z1 hb e).1,λb hb=>?_,w7⟩;let⟨o,e,d⟩:=T.obj _ _ st5 b hb;exact(I7.pin (b,o)<|Ê _<|Ê _<|Z1 hb e).2.1
  cases f with
  |next=>let⟨bE,H7,I7,n7⟩:=q7;exact again I7 n7
  |cont=>let⟨bE,H7,I7,n7⟩:=q7;exact again I7 n7
  |brk=>let⟨bE,H7,I7,q7⟩:=q7;exact⟨bE,H7,I7.unpinned,q7⟩
  |ret v=>let⟨x7,bE,H7,I7,r7,q7⟩:=q7;exact⟨x7,bE,H7,I7.unpinned,r7,q7⟩
end
noncomputable abbrev R2:=V->V->Hp->VK->Prop
abbrev OpR(X:Cx)(f:Ä->Ä->Sem Ä)(r:R2):Prop :=
 ∀(Â:List<|È×Obj) (s:Æ) (σ:St) (H:Hp) (x y:V) (v u:Ä) (Q:VK),Inv X Â σ H s->RelV x v->RelV y u->r x y H Q->
  wpAny (à X.prog X.w) X.A (f v u) (EP X Â σ Q) X.xe s
abbrev UnR(X:Cx)(f:Ä->Sem Ä)(r:V->Hp->VK->Prop):Prop :=
 ∀(Â:List<|È×Obj) (s:Æ) (σ:St) (H:Hp) (x:V) (v:Ä) (Q:VK),Inv X Â σ H s->RelV x v->r x H Q->
  wpAny (à X.prog X.w) X.A (f v) (EP X Â σ Q) X.xe s
abbrev fq(X:Cx)(f:Ä)(r:List V->Hp->VK->Prop):Prop :=
 ∀(Â:List<|È×Obj) (s:Æ) (σ:St) (H:Hp) (xs:List V) (us:List Ä) (Q:VK),Inv X Â σ H s->gp xs us->r xs H Q->
  wpAny (à X.prog X.w) X.A (call f us) (EP X Â σ Q) X.xe s
abbrev RY(X:Cx)(r:V->Hp->(Bool->Hp->Prop)->Prop):Prop :=
 ∀(Â:List<|È×Obj) (s:Æ) (σ:St) (H:Hp) (x:V) (v:Ä) (Q:Bool->Hp->Prop),Inv X Â σ H s->RelV x v->r x H Q->
  wpAny (à X.prog X.w) X.A (truthy v) (TP X Â σ Q) X.xe s
abbrev tOp(r:R2)(ta tb:TE):TE:=λσ H Q=>ta σ H λx H1=>tb σ H1 λy H2=>r x y H2 Q
abbrev tUn(r:V->Hp->VK->Prop)(ta:TE):TE:=λσ H Q=>ta σ H λx H1=>r x H1 Q
abbrev rI(C:Int->Int->Prop)(g:Int->Int->V):R2:=λx y H Q=>∃i j,x=.int i/\y=.int j/\C i j/\Q (g i j) H
abbrev rI0(g:Int->Int->V):R2:=λx y H Q=>∃i j,x=.int i/\y=.int j/\Q (g i j) H
abbrev rU(g:Int->V):V->Hp->VK->Prop:=λx H Q=>∃i,x=.int i/\Q (g i) H
section
variable {X:Cx}{a b c:Expr}{ta tb tc:TE}{ì:Pos}
variable {f:Ä->Ä->Sem Ä}
def Lp(ha:PE X a ta)(hb:PE X b tb){Â:List (È×Obj)}{s:Æ}{σ:St}{H:Hp}{R:V->V->Hp->Prop}(I:Inv X Â σ H s)
  (h:ta σ H λx H1=>tb σ H1 λy H2=>R x y H2){Q:Ä->Æ->Prop} 
  (hf:∀v u s2 x y H2,Inv X Â σ H2 s2->RelV x v->RelV y u->R x y H2->wpAny (à X.prog X.w) X.A (f v u) Q X.xe s2) :
  wpAny (à X.prog X.w) X.A (eval a X.env) (λv ė=>wpAny (à X.prog X.w) X.A (eval b X.env) (λu bU=>wpAny (à X.prog X.w) X.A (f v u) Q X.xe bU) X.xe ė) X.xe s:=by
 refine thn (ha Â s σ H _ I h) λv s1 ⟨x,H1,I1,r1,q1⟩=>?_;refine thn (hb Â s1 σ H1 _ I1 q1) λu s2 ⟨y,H2,I2,r2,q2⟩=>?_;exact hf v u s2 x y H2 I2 r1 r2 q2
def Rl{op:ϗ}{r:R2}(ho:OpR X (ņ op) r)(ha:PE X a ta)(hb:PE X b tb):PE X (.BinOp a op b ì)<|tOp r ta tb:=by k_upd;exact wpAny_BinOp (Lp ha hb I h λv u s2 x y H2 I2 rx ry q=>ho Â s2 σ H2 x y v u Q I2 rx ry q)
def Rx{op:UnaryOp}{r:V->Hp->VK->Prop}(ho:UnR X (unaryOp op) r)(ha:PE X a ta):PE X (.UnaryOp op a ì)<|tUn r ta:=by k_upd;exact UnaryOp_ (thn (ha Â s σ H _ I h) λv s1 ⟨x,H1,I1,r1,q1⟩=>ho Â s1 σ H1 x v Q I1 r1 q1)
variable {g:Int->Int->Int}
def opI{C:Int->Int->Prop} 
  (rule:∀(i j:Int) (t u:Tok) (s:Æ) (Q:Ä->Æ->Prop) (E:Ä->Æ->Prop),C i j->Q (.int (g i j) s.toks) {s with toks:=s.toks+1}->wpAny (à X.prog X.w) X.A (f (.int i t)<|.int j u) Q E s) :
  OpR X f (rI C λi j=>.int<|g i j):=by
 k_sub;let⟨i,j,rfl,rfl,hc,q⟩:=h;let⟨t,rfl⟩:=rx;let⟨t',rfl⟩:=ry;exact rule i j t t' s _ _ hc ⟨.int<|g i j,H,I.tok _,⟨_,rfl⟩,q⟩
def P8  
  (rule:∀(i j:Int) (t u:Tok) (s:Æ) (Q:Ä->Æ->Prop) (E:Ä->Æ->Prop),Q (.int (g i j) s.toks) {s with toks:=s.toks+1}->wpAny (à X.prog X.w) X.A (f (.int i t)<|.int j u) Q E s) :
  OpR X f (rI0 λi j=>.int<|g i j):=by
 k_sub;let⟨i,j,rfl,rfl,q⟩:=h;let⟨t,rfl⟩:=rx;let⟨t',rfl⟩:=ry;exact rule i j t t' s _ _ ⟨.int<|g i j,H,I.tok _,⟨_,rfl⟩,q⟩
def Ga{g:Int->Int->Bool}
  (rule:∀(i j:Int) (t u:Tok) (s:Æ) (Q:Ä->Æ->Prop) (E:Ä->Æ->Prop),Q (.bool<|g i j) s->wpAny (à X.prog X.w) X.A (f (.int i t)<|.int j u) Q E s) :
  OpR X f (rI0 λi j=>.bl<|g i j):=by
 k_sub;let⟨i,j,rfl,rfl,q⟩:=h;let⟨t,rfl⟩:=rx;let⟨t',rfl⟩:=ry;exact rule i j t t' s _ _ ⟨.bl<|g i j,H,I,rfl,q⟩
abbrev RG(i j:Int):Prop:=0<j/\j<1073741824
abbrev P3(i j:Int):Prop:=0<=j/\j<=1000000/\i.natAbs<2 ^ 64
def op_add:OpR X (ņ .Add)<|rI0 λi j=>.int<|i+j:=P8 λ_ _ _ _ _ _ _ q=>add_int q
def LH:OpR X (ņ .Sub)<|rI0 λi j=>.int<|i - j:=P8 λ_ _ _ _ _ _ _ q=>sub_int q
def Fd:OpR X (ņ .FloorDiv)<|rI RG λi j=>.int<|i / j:=opI λi j _ _ _ _ _ hc q=>by have h1:(0:Int)<j:=hc.1;have h2:j<1073741824:=hc.2;exact floordiv_int (by lia) (by rw[Int.fdiv_eq_ediv_of_nonneg i<|by lia];exact q) (.inl<|PyProof.noPylong_small<|by lia)
def IZ:OpR X (ņ .Mod)<|rI (λ_ j=>0<j) λi j=>.int<|i % j:=opI λi j _ _ _ _ _ hc q=>by have h1:(0:Int)<j:=hc;exact mod_int' (by lia) (by rw[Int.fmod_eq_emod_of_nonneg i<|by lia];exact q)
def Lw:OpR X (ņ .Pow)<|rI P3 λi j=>.int<|i ^ j.toNat:=opI λ_ _ _ _ _ _ _ hc q=>pow_int_small hc.1 hc.2.1 hc.2.2 q
def unI{f:Ä->Sem Ä}{g:Int->Int}
  (rule:∀(i:Int) (t:Tok) (s:Æ) (Q:Ä->Æ->Prop) (E:Ä->Æ->Prop),Q (.int (g i) s.toks) {s with toks:=s.toks+1}->wpAny (à X.prog X.w) X.A (f<|.int i t) Q E s) :
  UnR X f (rU λi=>.int<|g i):=by
 intro Â s σ H x v Q I rx h;let⟨i,rfl,q⟩:=h;let⟨t,rfl⟩:=rx;exact rule i t s _ _ ⟨.int<|g i,H,I.tok _,⟨_,rfl⟩,q⟩
def Id:UnR X (unaryOp .USub)<|rU λi=>.int (-i):=unI λ_ _ _ _ _ q=>neg_int q
end
section
variable {X:Cx}{a b c:Expr}{ta tb tc:TE}{ì:Pos}
def Io{Â:List (È×Obj)}{σ:St}{H:Hp}{s:Æ}{Q:VK}{k k':Bool}(I:Inv X Â σ H s)(q:Q (.bl k) H)(e:k=k'):EP X Â σ Q (.bool k') s:=by subst e;exact⟨.bl k,H,I,rfl,q⟩
def op_lt:OpR X (ð .Lt)<|rI0 λi j=>.bl<|gM (i<j):=Ga λ_ _ _ _ _ _ _ q=>lt_int q
def PP:OpR X (ð .LtE)<|rI0 λi j=>.bl<|gM (i<=j):=Ga λ_ _ _ _ _ _ _ q=>le_int q
def op_gt:OpR X (ð .Gt)<|rI0 λi j=>.bl<|gM (j<i):=Ga λ_ _ _ _ _ _ _ q=>gt_int q
def RE:OpR X (ð .GtE)<|rI0 λi j=>.bl<|gM (j<=i):=Ga λ_ _ _ _ _ _ _ q=>ge_int q
def Bs:OpR X (ð .In) λx y H Q=>∃i j,x=.str i/\y=.str j/\Q (.bl (!(Builtin.Str.occurrences j i 0 j.length 1).isEmpty)) H:=by k_sub;let⟨i,j,rfl,rfl,q⟩:=h;let⟨t,rfl⟩:=rx;let⟨t',rfl⟩:=ry;exact in_str (Io I q rfl)
variable {r:R2} {r':R2}
def OpR.or{f:Ä->Ä->Sem Ä}(h:OpR X f r)(h':OpR X f r'):OpR X f λx y H Q=>r x y H Q\/r' x y H Q:=by
 intro Â s σ H x y v u Q I rx ry q;rcases q with q|q
 .exact h Â s σ H x y v u Q I rx ry q
 .exact h' Â s σ H x y v u Q I rx ry q
variable {op:cg}
def UM(ho:OpR X (ð op) r)(ha:PE X a ta)(hb:PE X b tb)(hm:Ļ op b=ff):PE X (.Compare a [op] [b] ì)<|tOp r ta tb:=by k_upd;exact wpAny_Compare1 (Lp ha hb I h λv u s2 x y H2 I2 rx ry q=>ho Â s2 σ H2 x y v u Q I2 rx ry q) hm
abbrev Hv(t:TE):TT:=λσ H Q=>t σ H λx H'=>∃k,x=.bl k/\Q k H'
def Ah(ho:OpR X (ð op) r)(ha:PE X a ta)(hb:PE X b tb)(hm:Ļ op b=ff):PT X (.Compare a [op] [b] ì)<|Hv<|tOp r ta tb:=by
 k_upd;refine wpAny_isTrue_Compare1 (thn (ha Â s σ H _ I h) λv s1 ⟨x,H1,I1,r1,q1⟩=>thn (hb Â s1 σ H1 _ I1 q1) λu s2 ⟨y,H2,I2,r2,q2⟩ =>
   thn (ho Â s2 σ H2 x y v u _ I2 r1 r2 q2) λc s3 ⟨z,H3,I3,r3,k,e,q3⟩=>?_) hm
 subst e;cases r3;exact Đ ⟨H3,I3,q3⟩
abbrev Ci(r r':R2)(ta tb tc:TE):TE:=λσ H Q=>ta σ H λx H1=>tb σ H1 λy H2=>r x y H2 λz H3=>∃k,z=.bl k/\
 (if k=fe then tc σ H3 λw' H4=>r' y w' H4 Q else Q (.bl ff) H3)
variable {dF:cg}
def DE(ho:OpR X (ð op) r)(ϝ:OpR X (ð dF) r')(ha:PE X a ta)(hb:PE X b tb)(hc:PE X c tc)
  (hm:bv [op,dF] [b,c]=ff:=by with_unfolding_all rfl):PE X (.Compare a [op,dF] [b,c] ì)<|Ci r r' ta tb tc:=by
 k_upd;refine Compare_chain (thn (ha Â s σ H _ I h) λv s1 ⟨x,H1,I1,r1,q1⟩=>chain_link (thn (hb Â s1 σ H1 _ I1 q1) λu s2 ⟨y,H2,I2,r2,q2⟩ =>
   thn (ho Â s2 σ H2 x y v u _ I2 r1 r2 q2) λd s3 ⟨z,H3,I3,r3,k,e,q3⟩=>?_)) hm
 subst e;cases r3;refine Đ ?_;cases k with
 |false=>exact ite_ff ⟨.bl ff,H3,I3,rfl,q3⟩
 |true=>exact ite_tt<|chain_last<|thn (hc Â s3 σ H3 _ I3 q3) λw' s4 ⟨z',H4,I4,r4,q4⟩=>ϝ Â s4 σ H4 y z' u w' Q I4 r2 r4 q4
def DF(ho:OpR X (ð op) r)(ϝ:OpR X (ð dF) r')(ha:PE X a ta)(hb:PE X b tb)(hc:PE X c tc)
  (hm:bv [op,dF] [b,c]=ff:=by with_unfolding_all rfl):PT X (.Compare a [op,dF] [b,c] ì)<|Hv<|Ci r r' ta tb tc:=by
 k_upd;refine isTrue_chain (thn (ha Â s σ H _ I h) λv s1 ⟨x,H1,I1,r1,q1⟩=>test_link (thn (hb Â s1 σ H1 _ I1 q1) λu s2 ⟨y,H2,I2,r2,q2⟩ =>
   thn (ho Â s2 σ H2 x y v u _ I2 r1 r2 q2) λd s3 ⟨z,H3,I3,r3,k,e,q3⟩=>?_)) hm
 subst e;cases r3;refine Đ ?_;cases k with
 |false =>let⟨k',e',q'⟩:=q3;cases e';exact ite_ff ⟨H3,I3,q'⟩
 |true =>refine ite_tt<|test_last<|thn (hc Â s3 σ H3 _ I3 q3) λw' s4 ⟨z',H4,I4,r4,q4⟩=>thn (ϝ Â s4 σ H4 y z' u w' _ I4 r2 r4 q4) λd' s5 ⟨z2,H5,I5,r5,k2,e2,q5⟩=>?_;subst e2;cases r5;exact Đ ⟨H5,I5,q5⟩
abbrev QM(K:Frag)(x:V)(H:Hp)(k:Bool):Prop :=
 match x with
 |.non=>k=ff
 |.bl b=>k=b
 |.int i=>k=(i != 0)
 |.str y=>y.length<=Ü/\k=((y.length:Int) != 0)
 |.byt y=>y.size<=Ü/\k=((y.size:Int) != 0)
 |.ref p=>(∃xs,gk K H p xs/\k=!xs.isEmpty)\/(∃xs,gm K H p xs/\k=!xs.isEmpty)\/∃kvs,H p=fb (.dK kvs)/\k=!kvs.isEmpty
 |_=>False
def OU{κ:Type}{kvs:List (κ×V)}{vs:List (κ×Ä)}(r:KV kvs vs):(!vs.isEmpty)=!kvs.isEmpty:=by cases r<;>rfl
def Ju{xs:List V}{ó:List Ä}(r:gp xs ó):(!ó.toArray.isEmpty)=!xs.isEmpty:=by cases r<;>simp
def Xm:(Ü:Nat)<2 ^ 63:=by rw[ϴ];decide
def LA:RY X λx H Q=>∃k,QM X.K x H k/\Q k H:=by
 intro Â s σ H x v Q I rx h;let⟨k,e,q⟩:=h;have hl:=Xm;have hs:Ü=16777216:=ϴ;cases x with
 |non =>cases rx;have e':k=ff:=e;subst e';exact truthy_none ⟨H,I,q⟩
 |bl b =>cases rx;have e':k=b:=e;subst e';exact Đ ⟨H,I,q⟩
 |int i =>let⟨t,rfl⟩:=rx;have e':k=(i != 0):=e;subst e';exact PySem.P.truthy_int ⟨H,I,q⟩
 |str y =>let⟨t,rfl⟩:=rx;obtain⟨hy,e'⟩:y.length<=Ü/\k=((y.length:Int) != 0):=e;subst e';exact PySem.P.truthy_str (by lia) ⟨H,I.tok _,q⟩
 |byt y =>let⟨t,rfl⟩:=rx;obtain⟨hy,e'⟩:y.size<=Ü/\k=((y.size:Int) != 0):=e;subst e';exact PySem.W.truthy_bytes (by lia) ⟨H,I.tok _,q⟩
 |ref p =>
  cases rx;have e':(∃xs,gk X.K H p xs/\k=!xs.isEmpty)\/(∃xs,gm X.K H p xs/\k=!xs.isEmpty)\/∃kvs,H p=fb (.dK kvs)/\k=!kvs.isEmpty:=e;rcases e' with⟨xs,hx,e'⟩|⟨xs,hx,e'⟩|⟨kvs,hx,e'⟩
  .subst e';let⟨ó,r,pl,hz⟩:=I.list hx;have hlen:=r.length;exact wpAny_truthy_list pl.isList (by simp![É];lia) ⟨H,I.tok _,by rw[Ju r];exact q⟩
  .subst e';let⟨ó,r,pl,hz⟩:=I.tuple hx;have hlen:=r.length;exact truthy_tuple pl (by simp![É];lia) ⟨H,I.tok _,by rw[Ju r];exact q⟩
  .subst e';obtain⟨hz,hS,vs,r,m⟩:kvs.length<=Ü/\(p==Ő)=ff/\∃vs,KV kvs vs/\s.heap.DictOf (Zd X.prog X.w) p vs:=I.hok p _ hx;have hlen:kvs.length=vs.length:=Paired.length r;exact wpAny_truthy_dict hS m (by lia) ⟨H,I.tok _,by rw[OU r];exact q⟩
 |_=>exact(show False from e).elim
def BG(ha:PE X a ta)(he:∀aK,cf a X.env aK=(do let v<-aK;ώ a.pos;Ņ [v] (truthy v))) :
  PT X a (λσ H Q=>ta σ H λx H'=>∃k,QM X.K x H' k/\Q k H'):=by
 k_upd;exact isTrue_plain (thn (ha Â s σ H _ I h) λv s1 ⟨x,H1,I1,r1,q1⟩=>LA Â s1 σ H1 x v Q I1 r1 q1)<|he _
def O9:OpR X (ņ .Add) λx y H Q=>∃i j,x=.str i/\y=.str j/\i.length+j.length<=Ü/\Q (.str<|i++j) H:=by k_sub;let⟨i,j,rfl,rfl,hz,q⟩:=h;let⟨t,rfl⟩:=rx;let⟨t',rfl⟩:=ry;exact add_str (λt' tk=>⟨.str<|i++j,H,I.tok _,⟨_,rfl⟩,q⟩) hz
variable {x:V} {us:List Ä}
def ZR(r:gp [x] us):∃u,us=[u]/\RelV x u:=by
 cases r with
 |cons r1 r2=>cases r2;exact⟨_,rfl,r1⟩
def UU{y:V}(r:gp [x,y] us):∃u w',us=[u,w']/\RelV x u/\RelV y w':=by
 cases r with
 |cons r1 r2 =>
  cases r2 with
  |cons r3 r4=>cases r4;exact⟨_,_,rfl,r1,r3⟩
def CL:fq X (.builtin "abs") λxs H Q=>∃i,xs=[.int i]/\Q (.int<|if i<0 then -i else i) H:=by k_put;let⟨i,rfl,q⟩:=h;let⟨u,rfl,t,rfl⟩:=ZR r;exact call_abs_int λu tk=>⟨.int (if i<0 then -i else i),H,I.tok _,⟨_,rfl⟩,q⟩
def AM(hc:X.calm=fe):fq X (.builtin "max") λxs H Q=>∃i j,xs=[.int i,.int j]/\Q (.int<|if j > i then j else i) H:=by
 k_put;let⟨i,j,rfl,q⟩:=h;let⟨u,w',rfl,⟨t,rfl⟩,⟨t',rfl⟩⟩:=UU r;refine max_two_ints (I.ok.hd hc) λh' tk k=>⟨_,H,I.kept k,?_,q⟩
 by_cases hj:j > i
 .rw[gF hj,gF hj];exact⟨_,rfl⟩
 .rw[gG hj,gG hj];exact⟨_,rfl⟩
def AO(hc:X.calm=fe):fq X (.builtin "min") λxs H Q=>∃i j,xs=[.int i,.int j]/\Q (.int<|if j<i then j else i) H:=by
 k_put;let⟨i,j,rfl,q⟩:=h;let⟨u,w',rfl,⟨t,rfl⟩,⟨t',rfl⟩⟩:=UU r;refine min_two_ints (I.ok.hd hc) λh' tk k=>⟨_,H,I.kept k,?_,q⟩
 by_cases hj:j<i
 .rw[gF hj,gF hj];exact⟨_,rfl⟩
 .rw[gG hj,gG hj];exact⟨_,rfl⟩
def call_int1:fq X (.type "int") λxs H Q=>(∃i,xs=[.int i]/\Q (.int i) H)\/∃k,xs=[.bl k]/\Q (.int<|if k then 1 else 0) H:=by
 k_put;rcases h with⟨i,rfl,q⟩|⟨k,rfl,q⟩
 .obtain⟨u,rfl,t,rfl⟩:=ZR r;exact call_int_int ⟨.int i,H,I,⟨_,rfl⟩,q⟩
 .obtain⟨u,rfl,r1⟩:=ZR r;cases r1;exact call_int_bool ⟨.int (if k then 1 else 0),H,I.tok _,⟨_,rfl⟩,q⟩
end
structure ObjM(h:Ć)(x dx C:È)(mA:Str->Option Ä):Prop where
 obj:h.get? x=fb (PySem.W.instObj C dx)
 ns:h.Ns1 dx mA
 ne:dx≠x
variable {h:Ć} {dx:È} {mA:Str->Option Ä}
def AW(n:h.Ns1 dx mA):∃od,h.get? dx=fb od/\∀name,PySem.W.lookIn name od=fb (mA name):=by
 let⟨o,es,ep,ho,hd,hk,_,hm⟩:=n;refine⟨o,ho,λname=>?_⟩;have e:=hm name;unfold nsFind findBy at e;rw[<-Array.find?_toList]at e;unfold PySem.W.lookIn;rw[hd];dsimp only;split
 .rename_i y q;rw[q]at e;exact congrArg fb e
 .rename_i q;rw[q]at e;have a:es.toList.any (·.refKey)=ff:=by
   rw[List.any_eq_false];intro y hy;let⟨z,t,hkey⟩:=hk y<|Array.mem_toList_iff.mp hy;simp[DictEntry.refKey,hkey]
  have a':¬ es.toList.any (·.refKey)=fe:=by rw[a];exact ý
  rw[gG a'];exact congrArg fb e
variable {C:È}
def ObjM.look{x:È}(I:ObjM h x dx C mA):∃od,PySem.W.InstAt h x (PySem.W.instObj C dx) C (fb od)/\∀name,PySem.W.lookIn name od=fb (mA name) :=
 let ⟨od,ho,hl⟩:=AW I.ns
 ⟨od,⟨I.obj,rfl,rfl,ho⟩,hl⟩
section
variable {prog:è}{w:ā}{A:č}{E:Ä->Æ->Prop}{s:Æ}{K:Frag}{x dx C f:È}{mA:Str->Option Ä}{name:Str}{v:Ä}
def G8{expr:Bool}{Q:Ä->Æ->Prop}(X:K.In s.heap)(I:ObjM s.heap x dx C mA)(hg:PySem.W.plainGet K C name=fe)(hh:PySem.W.hasDictIn K C=fe)
  (ha:PySem.W.findIn K (.ref C) name=fb fc) (hv:mA name=fb v) (hv':PySem.W.handedIn v=fe) (h:Q v {s with toks:=s.toks+1}) :
  wpAny (à prog w) A (getAttr (.ref x) name expr) Q E s:=by
 let⟨od,J,hl⟩:=I.look;exact PySem.W.get_value X J (PySem.W.plainGet_of hg).1 (PySem.W.findObj_own hh ha rfl<|by rw[hl,hv]) hv' h
def BK{pl:Sem Bool}{Q:Ä×List Ä->Æ->Prop}(X:K.In s.heap)(I:ObjM s.heap x dx C mA)(hg:PySem.W.plainGet K C name=fe)
  (hf:PySem.W.findIn K (.ref C) name=fb (fb<|.ref f)) (ht:PySem.W.isFn K (.ref f)=fe) (hv:mA name=fc) (h:Q (.ref f,[.ref x]) s) :
  wpAny (à prog w) A (Ϙ (.ref x) name pl) Q E s:=by
 let⟨od,J,hl⟩:=I.look;exact PySem.W.method_fn X J (PySem.W.plainGet_of hg).1 (PySem.W.plainGet_of hg).2 hf (beq_iff_eq.mp ht) (by show(PySem.W.lookIn name od).map (·.isSome)=fb ff;rw[hl,hv];rfl) h
def G9{ns:List Str}{Q:Unit->Æ->Prop}(X:K.In s.heap)(I:ObjM s.heap x dx C mA)
  (hs:PySem.W.findIn K (.ref C) "__setattr__" = fb (fb<|.builtin "object.__setattr__")) (hp:PySem.W.plainOver K C=fe) (ht:PySem.W.takerIn K C name=fb fc) (hh:PySem.W.hasDictIn K C=fe)
  (hw:PySem.Within mA ns) (hsz:ns.length<=Ü)
  (h:∀h',ObjM h' x dx C (λy=>if y=name then fb v else mA y)->ν dx s.heap h'->Q () {s with heap:=h',toks:=s.toks+2}) :
  wpAny (à prog w) A (setAttr (.ref x) name v) Q E s:=by
 let⟨od,J,hl⟩:=I.look;refine PySem.W.set_plain X J hs<|PySem.W.osa_open (s:={s with toks:=s.toks+1}) (r:=fc) X J hp ht λb=>?_;let⟨cd,hc,cG⟩:=PySem.W.any_some hh;have hx:s.heap.get? x=fb ⟨.ref C,fb dx,.plain,#[]⟩:=I.obj;refine Á<|Ñ<|Á<|Á<|wpAny_loadPart hx<|Á<|PySem.W.Looks.here (s:={s with toks:=s.toks+1}) (PySem.W.looks_clsIn X hc) ?_;rw[cG];refine Ñ (a:=fb dx)<|Á<|Ñ<|Á ?_;refine wpAny_nsSet1 (s:={s with toks:=s.toks+1}) I.ns λh' hn2 hs2=>?_;let⟨oD,esD,epD,hoD,hdD,hcD⟩:=hn2.count<|PySem.Within.cons name v hw;refine Á (wpAny_lookBehind hoD (by rw[hdD];exact pastItsLine_dict<|Þ hcD<|by rw[Ð];lia) ?_);exact Ñ<|h _ ⟨(hs2.2 _<|Ne.symm I.ne).trans I.obj,hn2,I.ne⟩ hs2
def BS{R:bw->Æ->Prop}{vs:List Ä}{kw:List (Str×Ä)}(X:K.In s.heap)(hm:PySem.W.makesIn K C=fe)
  (hi:PySem.W.findIn K (.ref C) "__init__" = fb (fb<|.ref f)) (hf:PySem.W.typeIn K (.ref f)=fb (.type "function"))
  (h:codeAny (à prog w) (A.under<|.builtin "type.__call__" ⟨.ref C::vs,kw⟩) (.call (.ref f) ⟨.ref (s.heap.objs.size+1)::vs,kw⟩) (PySem.W.InitBack (s.heap.objs.size+1) R)
    { s with heap:=(s.heap.push PySem.W.emptyDict).push (PySem.W.instObj C s.heap.objs.size) }) :
  codeAny (à prog w) A (.call (.ref C) ⟨vs,kw⟩) R s:=by
 let⟨hh,g,d,t,os⟩:=s;exact PySem.W.make_core (PySem.W.makes_of X hm) (PySem.W.looks_findIn X hi) (λself=>PySem.W.bind_fn X self hf) (.inl rfl) h
end
abbrev fA(f:Str)(v:V):List (Str×V)->List (Str×V)
 |[]=>[(f,v)]
 |(g,x)::r=>if g=f then(g,v)::r else(g,x)::fA f v r
def WN(f g:Str)(v:V):∀fs:List<|Str×V,(fA f v fs).lookup g=if g=f then fb v else fs.lookup g
 |[]=>by
  show Ž g [(f,v)]=_;by_cases h:g=f
  .have hb:(g==f)=fe:=beq_iff_eq.mpr h;simp![Ž,hb,gF h]
  .have hb:(g==f)=ff:=beq_eq_false_iff_ne.mpr h;simp![Ž,hb,gG h]
 |(k,x)::r=>by
  have ih:=WN f g v r;rw[show fA f v ((k,x)::r)=(if k=f then(k,v)::r else(k,x)::fA f v r) from rfl];by_cases hk:k=f
  .rw[gF hk];by_cases h:g=k
   .have hb:(g==k)=fe:=beq_iff_eq.mpr h;simp![Ž,hb,gF<|h.trans hk]
   .have hb:(g==k)=ff:=beq_eq_false_iff_ne.mpr h;simp![Ž,hb,gG λe:g=f=>h<|e.trans hk.symm]
  .rw[gG hk];by_cases h:g=k
   .have hb:(g==k)=fe:=beq_iff_eq.mpr h;simp![Ž,hb,gG λe:g=f=>hk<|h.symm.trans e]
   .have hb:(g==k)=ff:=beq_eq_false_iff_ne.mpr h;simp![Ž,hb];exact ih
def WA(f:Str)(v:V):∀fs:List<|Str×V,f∈(fA f v fs).map (·.1)/\∀g,g∈fs.map (·.1)->g∈(fA f v fs).map (·.1)
 |[]=>⟨by simp[fA],λg h=>by simp at h⟩
 |(k,x)::r=>by
  let⟨i1,i2⟩:=WA f v r;rw[show fA f v ((k,x)::r)=(if k=f then(k,v)::r else(k,x)::fA f v r) from rfl];by_cases hk:k=f
  .rw[gF hk];subst hk;exact⟨by simp,λg h=>⇑h⟩
  .rw[gG hk];refine⟨?_,λg h=>?_⟩
   .rw[Ó];exact æ _ i1
   .rw[Ó]at h ⊢;rcases Ç.mp h with e|e
    .exact Ç.mpr<|.inl e
    .exact æ _<|i2 g e
def WO(f:Str)(v:V):∀fs:List<|Str×V,(fA f v fs).length<=fs.length+1
 |[]=>by simp[fA]
 |(k,x)::r=>by
  have ih:=WO f v r;rw[show fA f v ((k,x)::r)=(if k=f then(k,v)::r else(k,x)::fA f v r) from rfl];by_cases hk:k=f
  .rw[gF hk,Ð,Ð];lia
  .rw[gG hk,Ð,Ð];lia
variable {o:Option Ä}
def fM.some_of{v:V}(r:fM (fb v) o):∃u,o=fb u/\RelV v u:=by
 cases o with
 |none=>exact(show False from r).elim
 |some u=>exact⟨u,rfl,r⟩
def fM.none_of(r:fM fc o):o=fc:=by
 cases o with
 |none=>rfl
 |some u=>exact(show False from r).elim
variable {u:Ä}
def A7{v:V}(r:RelV v u):PySem.W.handedIn u=fe:=by
 cases v with
 |non=>cases (show u=Value.none from r);rfl
 |bl b=>cases (show u=Value.bool b from r);rfl
 |int i=>let⟨t,e⟩:=(show ∃t,u=Value.int i t from r);cases e;rfl
 |str x=>let⟨t,e⟩:=(show ∃t,u=Value.str x t from r);cases e;rfl
 |byt b=>let⟨t,e⟩:=(show ∃t,u=Value.bytes b t from r);cases e;rfl
 |flt b=>let⟨t,e⟩:=(show ∃t,u=Value.float b t from r);cases e;rfl
 |ref a=>cases (show u=Value.ref a from r);rfl
 |ty n=>cases (show u=Value.type n from r);rfl
section
variable {P:è}{w:ā}{H H':Hp}{h h':Ć}{a C dx:È}{fs fs':List (Str×V)}
def W1(hok:HOk P w H h)(e:H a=fb (.ins C dx fs)):∃mA,ObjM h a dx C mA/\(∀f,fM (fs.lookup f)<|mA f)/\PySem.Within mA (fs.map (·.1))/\fs.length<=1000/\H dx=fb (.own a):=by
 let⟨d,z,ne,ob,mA,n,r,q⟩:=(show fu P w H h a (.ins C dx fs) from hok a _ e)
 exact⟨mA,⟨ob,n,ne⟩,r,q,z,d⟩
end
structure Cls(K:Frag)(C:È):Prop where
 pg:PySem.W.plainGet K C Str.empty=fe
 hd:PySem.W.hasDictIn K C=fe
 po:PySem.W.plainOver K C=fe
 sa:PySem.W.findIn K (.ref C) "__setattr__" = fb (fb<|.builtin "object.__setattr__")
def Cls.get{K:Frag}(c:Cls K C)(f:Str):PySem.W.plainGet K C f=fe:=c.pg
abbrev NoAttr(K:Frag)(C:È)(f:Str):Prop:=PySem.W.findIn K (.ref C) f=fb fc
def NoAttr.taker{K:Frag}{f:Str}(n:NoAttr K C f):PySem.W.takerIn K C f=fb fc:=by unfold PySem.W.takerIn;rw[show PySem.W.findIn K (.ref C) f=fb fc from n];rfl
structure Meth(K:Frag)(C:È)(m:Str)(f:È):Prop where
 at_:PySem.W.findIn K (.ref C) m=fb (fb<|.ref f)
 fn:PySem.W.isFn K (.ref f)=fe
 kp:PySem.W.keepIn K (.ref f)=fe
section
variable {X:Cx}{Â:List (È×Obj)}{σ:St}{H:Hp}{s:Æ}{a C dx:È}{fs:List (Str×V)}{f:Str}{v:V}{A:č}{E:Ä->Æ->Prop}
variable {Q:Ä->Æ->Prop}
def Js{b:Bool}(I:Inv X Â σ H s)(e:H a=fb (.ins C dx fs))(c:Cls X.K C)(n:NoAttr X.K C f)(l:fs.lookup f=fb v)
  (h:∀u s',Inv X Â σ H s'->RelV v u->Q u s'):wpAny (à X.prog X.w) A (getAttr (.ref a) f b) Q E s:=by
 let⟨mA,O,r,_,_,_⟩:=W1 I.hok e;let⟨u,hu,ru⟩:=fM.some_of (v:=v) (o:=mA f) (by rw[<-l];exact r f);exact G8 I.kIn O (c.get f) c.hd n hu (A7 ru)<|h u _ (I.tok _) ru
def Jj{m:Str}{g:È}{pl:Sem Bool}{Q:Ä×List Ä->Æ->Prop}(I:Inv X Â σ H s)(e:H a=fb (.ins C dx fs))(c:Cls X.K C)(k:Meth X.K C m g)(l:fs.lookup m=fc)
  (h:Q (.ref g,[.ref a]) s):wpAny (à X.prog X.w) A (Ϙ (.ref a) m pl) Q E s:=by
 let⟨mA,O,r,_,_,_⟩:=W1 I.hok e;have hn:mA m=fc:=fM.none_of (by rw[<-l];exact r m);exact BK I.kIn O (c.get m) k.at_ k.fn hn h
def Jh{y:V}{Q:Unit->Æ->Prop}(I:Inv X Â σ H s)(e:H a=fb (.ins C dx fs))(c:Cls X.K C)(n:NoAttr X.K C f)(hl:fs.length<1000)(ry:RelV y u)
  (h:∀s',Inv X Â σ (upd H a<|.ins C dx<|fA f y fs) s'->Q () s'):wpAny (à X.prog X.w) A (setAttr (.ref a) f u) Q E s:=by
 let⟨mA,O,r,wi,_,ho⟩:=W1 I.hok e;have hz:(fs.map (·.1)).length<=Ü:=by rw[À,ϴ];lia
 refine G9 I.kIn O c.sa c.po n.taker c.hd wi hz λh' O' sb=>h _ ?_;have hd:∃o,h'.get? dx=fb o:=let ⟨o,_,_,e',_⟩:=O'.ns;⟨o,e'⟩;refine I.write (x:=a) (e:=dx) (by rw[e];exact True.intro) (.inr ho) (λb q hb z=>(sb.2 b hb).trans z) hd ?_;refine⟨by rw[fg O.ne];exact ho,?_,O.ne,O'.obj,_,O'.ns,λg=>?_,λg hg=>?_⟩
 .have:=WO f y fs;lia
 .show fM ((fA f y fs).lookup g) (if g=f then fb u else mA g);rw[WN];by_cases q:g=f
  .rw[gF q,gF q];exact ry
  .rw[gG q,gG q];exact r g
 .by_cases q:g=f
  .rw[q];exact(WA f y fs).1
  .refine(WA f y fs).2 g<|wi g λz=>hg ?_;show(if g=f then fb u else mA g)=fc;rw[gG q];exact z
def Inv.made(I:Inv X Â σ H s):Inv X Â σ (upd (upd H s.heap.objs.size<|.own<|s.heap.objs.size+1) (s.heap.objs.size+1)<|.ins C s.heap.objs.size [])
  {s with heap:=(s.heap.push PySem.W.emptyDict).push (PySem.W.instObj C s.heap.objs.size)}:=by
 have e1:(s.heap.push PySem.W.emptyDict).get? s.heap.objs.size=fb PySem.W.emptyDict:=Ô s.heap rfl;have e2:((s.heap.push PySem.W.emptyDict).push<|PySem.W.instObj C s.heap.objs.size).get? (s.heap.objs.size+1)=fb (PySem.W.instObj C s.heap.objs.size):=by
  have:=Ô (s.heap.push PySem.W.emptyDict) (o:=PySem.W.instObj C s.heap.objs.size) rfl
  rwa [ğ]at this
 have e3:(s.heap.push PySem.W.emptyDict).Ns s.heap.objs.size λ_=>fc:=⟨PySem.W.emptyDict,#[],_,e1,rfl,(λe he=>gL he<|by simp),λ_=>rfl⟩
 have I1:=I.laid (a:=s.heap.objs.size) (o:=.own<|s.heap.objs.size+1) (h':=s.heap.push PySem.W.emptyDict) (t':=s.toks) (λb u q=>Ã _ q) (Ï _) ⟨_,e1⟩;refine I1.laid (a:=s.heap.objs.size+1) (o:=.ins C s.heap.objs.size []) (t':=s.toks) (λb u q=>Ã _ q) (Nat.le_of_eq<|ğ _ _) ?_;have ne:s.heap.objs.size≠s.heap.objs.size+1:=â<|ĳ _;refine⟨by rw[fg ne,fh],ī _,ne,e2,λ_=>fc,(Heap.Ns1.of_empty e3).at λo q=>Ã _ q,λ_=>True.intro,λy hy=>gL rfl hy⟩
def EE{prog:è}{w:ā}{env:Env}{e:Expr}{ì:Pos}(hb:Ė e f env (eval e env)=eval e env)
  (h:wpAny (à prog w) A (eval e env) (λo ė=>wpAny (à prog w) A (getAttr o f fe) Q E ė) E s):wpAny (à prog w) A (eval (.Attribute e f ì) env) Q E s :=
 Attribute_any_ h (by rw[arm_eval_Attribute,hb])
end
abbrev Sn(K:Frag)(ta:TE)(f:Str):TE:=λσ H Q=>ta σ H λx H1=>∃a C dx fs v,x=.ref a/\H1 a=fb (.ins C dx fs)/\Cls K C/\NoAttr K C f/\fs.lookup f=fb v/\Q v H1
abbrev RS(K:Frag)(ta tv:TE)(f:Str):TS:=λD σ H=>tv σ H λy H1=>ta σ H1 λx H2=>∃a C dx fs,x=.ref a/\H2 a=fb (.ins C dx fs)/\Cls K C/\NoAttr K C f/\fs.length<1000/\
 D.nx σ (upd H2 a<|.ins C dx<|fA f y fs)
abbrev DR(X:Cx)(op:ϗ)(rd:V->V->Hp->VK->Prop):Prop :=
 ∀(Â:List<|È×Obj) (s:Æ) (σ:St) (H:Hp) (x y:V) (u v:Ä) (Q:VK),Inv X Â σ H s->RelV x u->RelV y v->rd x y H Q->wpAny (à X.prog X.w) X.A (inplaceOp op u v) (EP X Â σ Q) X.xe s
abbrev Fi(K:Frag)(ta tv:TE)(rd:V->V->Hp->VK->Prop)(f:Str):TS:=λD σ H=>ta σ H λx H1=>∃a C dx fs v,x=.ref a/\H1 a=fb (.ins C dx fs)/\Cls K C/\NoAttr K C f/\fs.lookup f=fb v/\
 tv σ H1 λy H2=>rd v y H2 λz H3=>∃dx' fs',H3 a=fb (.ins C dx' fs')/\fs'.length<1000/\D.nx σ (upd H3 a<|.ins C dx'<|fA f z fs')
section
variable {X:Cx}{o e μ:Expr}{f:Str}{ì bD cH:Pos}{ta tv:TE}
def IG(he:PE X e ta)(hb:Ė e f X.env (eval e X.env)=eval e X.env):PE X (.Attribute e f ì)<|Sn X.K ta f:=by k_upd;refine EE hb<|thn (he Â s σ H _ I h) λu s1 ⟨x,H1,I1,rx,a,C,dx,fs,v,ex,ea,c,n,l,q⟩=>?_;subst ex;obtain rfl:u=Value.ref a:=rx;exact Js I1 ea c n l λu' s2 I2 ru=>⟨v,H1,I2,ru,q⟩
def Iv(ha:PE X o ta)(hv:PE X μ tv)(hs:ų μ (fb<|.Attribute o f bD) ì.line X.env=pure ff):PS X (.Assign [.Attribute o f bD] μ ì)<|RS X.K ta tv f:=by intro Â s σ H D I h;refine plainObj_wpAny_Assign_Attribute (thn (hv Â s σ H _ I h) λu s1 ⟨y,H1,I1,ry,q⟩=>thn (ha Â s1 σ H1 _ I1 q) λov s2 ⟨x,H2,I2,rx,a,C,dx,fs,ex,ea,c,n,l,q2⟩=>?_) hs;subst ex;obtain rfl:ov=Value.ref a:=rx;exact Jh I2 ea c n l ry λs3 I3=>⟨σ,_,I3,q2⟩
def AZ{op:ϗ}{rd:V->V->Hp->VK->Prop}(ha:PE X o ta)(hv:PE X μ tv)(hop:DR X op rd):PS X (.AugAssign (.Attribute o f cH) op μ ì)<|Fi X.K ta tv rd f:=by intro Â s σ H D I h;refine wpAny_AugAssign_AttributeAny<|thn (ha Â s σ H _ I h) λov s1 ⟨x,H1,I1,rx,a,C,dx,fs,v,ex,ea,c,n,l,q⟩=>?_;subst ex;obtain rfl:ov=Value.ref a:=rx;refine Js I1 ea c n l λu s2 I2 ru=>thn (hv Â s2 σ H1 _ I2 q) λw3 s3 ⟨y,H2,I3,ry,q3⟩=>thn (hop Â s3 σ H2 v y u w3 _ I3 ru ry q3) λw4 s4 ⟨z,H3,I4,rz,dx',fs',ea',l',q4⟩=>?_;exact Jh I4 ea' c n l' rz λs5 I5=>⟨σ,_,I5,q4⟩
abbrev Sz:V->V->Hp->VK->Prop:=λx y H Q=>∃i j,x=.int i/\y=.int j/\Q (.int<|i+j) H
abbrev SH:V->V->Hp->VK->Prop:=λx y H Q=>∃i j,x=.int i/\y=.int j/\Q (.int<|i - j) H
def PB:DR X .Add Sz:=by
 rintro Â s σ H x y u v Q I rx ry ⟨i,j,rfl,rfl,q⟩;let⟨t,rfl⟩:=(show ∃t,u=Value.int i t from rx)
 let⟨t',rfl⟩:=(show ∃t',v=Value.int j t' from ry)
 exact PyProof.Rows.iadd_int ⟨.int<|i+j,H,I.tok _,⟨_,rfl⟩,q⟩
def Ij:DR X .Sub SH:=by
 rintro Â s σ H x y u v Q I rx ry ⟨i,j,rfl,rfl,q⟩;let⟨t,rfl⟩:=(show ∃t,u=Value.int i t from rx)
 let⟨t',rfl⟩:=(show ∃t',v=Value.int j t' from ry)
 exact PyProof.Rows.isub_int ⟨.int<|i - j,H,I.tok _,⟨_,rfl⟩,q⟩
end
section
variable {X:Cx}{Â:List (È×Obj)}{σ:St}{H:Hp}{s:Æ}{A:č}{E:Ä->Æ->Prop}{Q:Ä->Æ->Prop}{c:Ä}{b:Bool}
inductive gf (K:Frag) (H:Hp):V->Ä->Prop where
 |non:gf K H .non<|.type "NoneType"
 |bl (x:Bool):gf K H (.bl x)<|.type "bool"
 |int (i:Int):gf K H (.int i)<|.type "int"
 |str (x:Str):gf K H (.str x)<|.type "str"
 |flt (x:UInt64):gf K H (.flt x)<|.type "float"
 |lst {a:È}{xs:List V}(e:H a=fb (.lst xs)):gf K H (.ref a)<|.type "list"
 |frz {a:È}{o:Obj}{xs:List V}(e:H a=fb (.frz o<|.lst xs)):gf K H (.ref a)<|.type "list"
 |tup {a:È}{xs:List V}(e:H a=fb (.tup xs)):gf K H (.ref a)<|.type "tuple"
 |dK {a:È}{kvs:List (Key×V)}(e:H a=fb (.dK kvs)):gf K H (.ref a)<|.type "dict"
 |dT {a:È}{kvs:List (List Key×V)}(e:H a=fb (.dT kvs)):gf K H (.ref a)<|.type "dict"
 |ins {a C dx:È}{fs:List (Str×V)}(e:H a=fb (.ins C dx fs)) (cl:Cls K C) (ha:PySem.W.findIn K (.ref C) "__class__" = fb (fb<|.builtin "object.__class__"))
   (hn:PySem.W.specialIn K (.builtin "object.__class__") "__get__" = fb (fb<|.builtin "getset_descriptor.__get__")) (htk:PySem.W.takesIn K (.builtin "object.__class__")=fb fe)
   (hm:PySem.W.mroIn K C (.type "object")=fb fe):gf K H (.ref a)<|.ref C
def AS{x:V}{t:Ä}(I:Inv X Â σ H s)(rx:RelV x u)(ty:gf X.K H x t)(e:PySem.W.kitOne X.K t c=fb b)(h:∀tk,Q (.bool b) {s with toks:=tk}) :
  wpAny (à X.prog X.w) A (call (.builtin "isinstance") [u,c]) Q E s:=by
 cases ty with
 |non=>cases (show u=Value.none from rx);exact PySem.W.kia_one PySem.W.kitx_none I.kIn True.intro e (λz=>nomatch z) h
 |bl y=>cases (show u=Value.bool y from rx);exact PySem.W.kia_one PySem.W.kitx_bool I.kIn True.intro e (λz=>nomatch z) h
 |int i=>let⟨t,q⟩:=(show ∃t,u=Value.int i t from rx);cases q;exact PySem.W.kia_one PySem.W.kitx_int I.kIn True.intro e (λz=>nomatch z) h
 |str y=>let⟨t,q⟩:=(show ∃t,u=Value.str y t from rx);cases q;exact PySem.W.kia_one PySem.W.kitx_str I.kIn True.intro e (λz=>nomatch z) h
 |flt y=>let⟨t,q⟩:=(show ∃t,u=Value.float y t from rx);cases q;exact PySem.W.kia_one PySem.W.kitx_float I.kIn True.intro e (λz=>nomatch z) h
 |@lst a xs ea =>
  cases (show u=Value.ref a from rx);let⟨_,_,n,_,h1⟩:=(show fu X.prog X.w H s.heap a (.lst xs) from I.hok a _ ea)
  exact PySem.W.kia_one PySem.W.kitx_list I.kIn ⟨_,h1,rfl⟩ e (λz=>nomatch z) h
 |@frz a ob xs ea =>
  cases (show u=Value.ref a from rx);let⟨_,_,_,n,_,h1⟩:=(show fu X.prog X.w H s.heap a (.frz ob<|.lst xs) from I.hok a _ ea)
  exact PySem.W.kia_one PySem.W.kitx_list I.kIn ⟨_,h1,rfl⟩ e (λz=>nomatch z) h
 |@tup a xs ea =>
  cases (show u=Value.ref a from rx);let⟨_,_,_,p⟩:=(show fu X.prog X.w H s.heap a (.tup xs) from I.hok a _ ea)
  let⟨o,h1,h2,_⟩:=p;exact PySem.W.kia_one PySem.W.kitx_tuple I.kIn ⟨o,h1,h2⟩ e (λz=>nomatch z) h
 |@dK a kvs ea =>
  cases (show u=Value.ref a from rx);let⟨_,_,vs,_,p⟩:=(show fu X.prog X.w H s.heap a (.dK kvs) from I.hok a _ ea)
  let⟨o,es,ep,h1,h2,_⟩:=p;exact PySem.W.kia_one PySem.W.kitx_dict I.kIn ⟨o,h1,h2.1⟩ e (λz=>nomatch z) h
 |@dT a kvs ea =>
  cases (show u=Value.ref a from rx);let⟨_,_,xs,_,o,es,ep,h1,h2,_⟩:=(show fu X.prog X.w H s.heap a (.dT kvs) from I.hok a _ ea)
  exact PySem.W.kia_one PySem.W.kitx_dict I.kIn ⟨o,h1,h2.1⟩ e (λz=>nomatch z) h
 |@ins a C dx fs ea cl ha hn htk hm =>cases (show u=Value.ref a from rx);let⟨mA,O,_⟩:=W1 I.hok ea;let⟨od,J,_⟩:=O.look;exact PySem.W.kia_one (PySem.W.kitx_own (cl.get _) cl.hd ha hn htk hm) I.kIn J e (λz=>nomatch z) h
end
structure fN(k:Nat)(A:č):Prop where
 hd:A.handled=fc
 dp:A.depth+3*k+5<recursionLimit
 un:A.units+16*k+200<Ħ
variable {A:č}
def fN.mono{j k:Nat}(r:fN k A)(h:j<=k):fN j A:=⟨r.hd,by have:=r.dp;lia,by have:=r.un;lia⟩
def fN.deeper{k:Nat}(r:fN (k+1) A)(env:Env):fN k (A.deeper env) :=
 ⟨r.hd,by have:=r.dp;show A.depth+1+3*k+5<_;lia,by have:=r.un;show A.units+3+16*k+200<_;lia⟩
variable {C:È} {us:List Ä} {kw:List (Str×Ä)}
def Oi:(A.under<|.builtin "type.__call__" ⟨.ref C::us,kw⟩).depth=A.depth+1:=by
 first|rfl|simp[bH,Code.weight,Code.isCreation,Code.isGuard,Code.isCaller,Code.frames,bX,guardIds]
def Ox:(A.under<|.builtin "type.__call__" ⟨.ref C::us,kw⟩).units=A.units+1:=by
 first|rfl|simp[bH,Code.cUnits,Code.frames,bX]
def fN.make{k:Nat}(r:fN (k+1) A)(C:È)(us:List Ä)(kw:List<|Str×Ä):fN k (A.under<|.builtin "type.__call__" ⟨.ref C::us,kw⟩) :=
 ⟨r.hd,by have:=r.dp;rw[Oi];lia,by have:=r.un;rw[Ox];lia⟩
def fN.depth{k:Nat}(r:fN k A):A.depth<recursionLimit:=by have:=r.dp;lia
abbrev BY:TA:=λ_ H Q=>Q [] H
abbrev BU(ta:TE)(tr:TA):TA:=λσ H Q=>ta σ H λx H1=>tr σ H1 λxs H2=>Q (x::xs) H2
section
variable {X:Cx}{e:Expr}{es:List Expr}{te:TE}{t:TA}{ì:Pos}
def gh:PA X [] BY:=λ_ _ _ _ H Q I h=>Calls.spliced_nil ⟨[],H,I,.nil,h⟩
def ZJ(ha:PE X e te)(hr:PA X es t)(hs:Ú (e::es) X.env=(ff,eval e X.env)::Ú es X.env:=by rfl):PA X (e::es)<|BU te t:=by intro ì Â s σ H Q I h;rw[hs];show wpAny _ _ (spliced<|(ff,eval e X.env)::ě ì (Ú es X.env)) _ _ s;refine Calls.spliced_cons<|thn (ha Â s σ H _ I h) λu s1 ⟨x,H1,I1,r1,q1⟩=>?_;exact thn (hr ì Â s1 σ H1 _ I1 q1) λus s2 ⟨xs,H2,I2,r2,q2⟩=>⟨x::xs,H2,I2,.cons r1 r2,q2⟩
abbrev Sb(t:TA):TE:=λσ H Q=>t σ H λxs H1=>xs.length<=Ü/\∀p,H1 p=fc->Q (.ref p) (upd H1 p<|.tup xs)
abbrev Sh(t:TA):TE:=λσ H Q=>t σ H λxs H1=>xs.length<=Ü/\∀p,H1 p=fc->Q (.ref p) (upd H1 p<|.lst xs)
def Ii{x1}(h:PA X es t):PE X (.Tuple es x1 ì)<|Sb t:=by intro Â s σ H Q I hq;refine wpAny_Tuple_spliced (thn (h ì Â s σ H _ I hq) λus s1 ⟨xs,H1,I1,r,z,q⟩=>⟨by rw[<-r.length];exact z,?_⟩);have hf:H1 s1.heap.objs.size=fc:=I1.hok.fresh<|Ï _;refine⟨.ref s1.heap.objs.size,upd H1 s1.heap.objs.size<|.tup xs,I1.laid (t':=s1.toks) (λb u e=>Ã _ e) (Ï _) ?_,rfl,q _ hf⟩;exact⟨z,us,r,⟨_,Ô _ rfl,rfl,_,rfl⟩⟩
def Ph(h:PA X es t):PE X (.List es ì)<|Sh t:=by intro Â s σ H Q I hq;refine wpAny_List_spliced (thn (h ì Â s σ H _ I hq) λus s1 ⟨xs,H1,I1,r,z,q⟩=>⟨by rw[<-r.length];exact z,?_⟩);have hf:H1 s1.heap.objs.size=fc:=I1.hok.fresh<|Ï _;refine⟨.ref s1.heap.objs.size,upd H1 s1.heap.objs.size<|.lst xs,I1.laid (t':=s1.toks) (λb u e=>Ã _ e) (Ï _) ?_,rfl,q _ hf⟩;exact⟨z,us,0,r,Ô _ rfl⟩
end
noncomputable abbrev Sp:=List V->Hp->VK->XK->Prop
noncomputable abbrev CXT:=List Env->Hp->Æ->XK->Ä->Æ->Prop
structure Env0(P:è)(w:ā)(K:Frag)(mg:Str->Option Ä)(base:Ć)(A:č)(outer:List Env)(s:Æ)(H:Hp):Prop where
 frames:A.frames=fb outer
 mod:Mod K mg base
 bs:∀b o,base.get? b=fb o->s.heap.get? b=fb o/\H b=fc
 bsz:base.objs.size<=s.heap.objs.size
 funs:s.heap.FunFrames base outer
 frf:∀b∈frs outer,H b=fc
 hok:HOk P w H s.heap
 bare:ό s.gens
abbrev CE(outer:List Env)(P:è)(w:ā)(H:Hp)(s:Æ)(Q:VK)(u:Ä)(s':Æ):Prop :=
 ∃v H',s'.os=s.os/\ό s'.gens/\Un (frs outer) [] H H' s.heap s'.heap/\HOk P w H' s'.heap/\RelV v u/\Q v H'
abbrev CR(CX:CXT)(outer:List Env)(P:è)(w:ā)(H:Hp)(s:Æ)(Q:VK)(E:XK)(r:bw)(s':Æ):Prop :=
 match r with
 |.ok (.ret u)=>CE outer P w H s Q u s'
 |.ok _=>False
 |.error e=>CX outer H s E e s'
structure fO(P:è)(w:ā)(K:Frag)(mg:Str->Option Ä)(base:Ć)(CX:CXT)(k:Nat)(f:È)(fd:Ň)(ps:List Str)(sp:Sp):Prop where
 len:∀vs H Q E,sp vs H Q E->vs.length=ps.length
 run:∀(A:č) (outer:List Env) (s:Æ) (H:Hp) (args:Args) (us:List Ä) (vs:List V) (Q:VK) (E:XK),fN k A->Env0 P w K mg base A outer s H->BindsTo s fd args (ps.zip us)->gp vs us->sp vs H Q E->
  codeAny (à P w) A (.call (.ref f) args) (CR CX outer P w H s Q E) s
variable {P:è} {w:ā} {mg:Str->Option Ä} {base:Ć} {outer:List Env} {s:Æ} {H:Hp}
def Env0.make{K:Frag}(e:Env0 P w K mg base A outer s H)(C:È)(us:List Ä)(kw:List<|Str×Ä) :
  Env0 P w K mg base (A.under<|.builtin "type.__call__" ⟨.ref C::us,kw⟩) outer s H:=⟨by first|exact e.frames|(simpa[bH,Code.envs,bX,pushEnvs]using e.frames),e.mod,e.bs,e.bsz,e.funs,e.frf,e.hok,e.bare⟩
section
variable {X:Cx}{Â:List (È×Obj)}{σ:St}{H:Hp}{s s':Æ}
def Inv.env0(I:Inv X Â σ H s):Env0 X.prog X.w X.K X.mg X.base X.A X.stack s H :=
 ⟨I.ok.frames,I.ok.mod,I.bs,Þ I.ok.bsz I.sz,I.stack,I.stkFree,I.hok,I.bare⟩
def Inv.after{Q:VK}{u:Ä}(I:Inv X Â σ H s)(h:CE X.stack X.prog X.w H s Q u s'):EP X Â σ Q u s':=by let⟨v,H',os,bare,un,hok,r,q⟩:=h;let⟨hh,g,d,t,os'⟩:=s';obtain rfl:os'=s.os:=os;exact⟨v,H',I.call (h':=hh) (g':=g) (d':=d) (t':=t) (ch:=[]) un hok bare λb z=>gL z<|by simp,r,q⟩
end
abbrev Hz(sp:Sp)(aL:List V)(E:XK)(t:TA):TE:=λσ H Q=>t σ H λvs H1=>sp (vs++aL) H1 Q E
abbrev Hb(C:È)(m:Str)(sp:Sp)(aL:List V)(E:XK)(ta:TE)(t:TA):TE:=λσ H Q=>ta σ H λx H1=>∃a dx fs,x=.ref a/\H1 a=fb (.ins C dx fs)/\fs.lookup m=fc/\
 t σ H1 λvs H2=>sp (x::(vs++aL)) H2 Q E
abbrev RJ(C:È)(sp:Sp)(aL:List V)(E:XK)(t:TA):TE:=λσ H Q=>t σ H λvs H1=>∀x dx,H1 x=fc->H1 dx=fc->dx≠x->
 sp (.ref x::(vs++aL)) (upd (upd H1 dx<|.own x) x<|.ins C dx []) (λv H2=>v=.non/\Q (.ref x) H2) E
abbrev Binds(K:Frag)(fd:Ň)(ps:List Str)(ds:List Ä):Prop :=
 ∀(s:Æ) (us:List Ä),K.In s.heap->(us++ds).length=ps.length->BindsTo s fd ⟨us,[]⟩ (ps.zip<|us++ds)
variable {ps:List Str}
def Binds.all{K:Frag}{fd:Ň}(h:∀us:List Ä,us.length=ps.length->bindArgs fd ⟨us,[]⟩=pure (ps.zip us)):Binds K fd ps []:=λs us _ hl=>by rw[í]at hl ⊢;exact .of_eq (h us hl)
abbrev Xn(CX:CXT)(X:Cx)(E:XK):Prop:=∀(Â:List<|È×Obj) (σ:St) (H:Hp) (s:Æ) (e:Ä) (s':Æ),Inv X Â σ H s->CX X.stack H s E e s'->X.xe e s'
section
variable {X:Cx}{CX:CXT}{k:Nat}{f C:È}{fd:Ň}{ps:List Str}{sp:Sp}{aL:List V}{ds:List Ä}{E:XK}{x m:Str}{p ì ń:Pos}{e o:Expr}{es:List Expr}{ta:TE}{t:TA}
variable {Â:List (È×Obj)} {σ:St} {Q:VK} {vs:List V}
def Mw(F:fO X.prog X.w X.K X.mg X.base CX k f fd ps sp)(hr:fN k X.A)(hb:Binds X.K fd ps ds)(hd:gp aL ds)(hx:Xn CX X E)
  (I:Inv X Â σ H s) (r:gp vs us) (h:sp (vs++aL) H Q E):wpAny (à X.prog X.w) X.A (call (.ref f) us) (EP X Â σ Q) X.xe s:=by
 have r2:gp (vs++aL)<|us++ds:=r.append hd;have hl:(us++ds).length=ps.length:=by rw[<-r2.length];exact F.len _ _ _ _ h
 refine wpAny_call<|ϣ (F.run X.A X.stack s H ⟨us,[]⟩ (us++ds) (vs++aL) Q E hr I.env0 (hb s us I.kIn hl) r2 h) λr s' hq=>?_;cases r with
 |error e=>exact hx Â σ H s e s' I hq
 |ok fl =>
  cases fl with
  |ret u=>exact I.after hq
  |next=>exact Ń hq
  |brk=>exact Ń hq
  |cont=>exact Ń hq
def GC(F:fO X.prog X.w X.K X.mg X.base CX k f fd ps sp)(hr:fN k X.A)(hg:Gl X x)(hm:X.mg x=fb (.ref f))(hk:PySem.W.keepIn X.K (.ref f)=fe)(hb:Binds X.K fd ps ds)(hd:gp aL ds)(hx:Xn CX X E)
  (ha:PA X (e::es) t) (cI:(x==("__debug__" : Str))=ff:=by decide) (he:Ú (e::es) X.env=(ff,eval e X.env)::Ú es X.env:=by rfl) (hpl:(ě ì<|Ú es X.env).any (·.1)=ff:=by rfl) :
  PE X (.Call (.Name x p) (e::es) [] ì) (Hz sp aL E t):=by
 k_upd;refine ĕ<|W6 I hg hm ?_ cI;refine PySem.W.callWith_K (h₀:=X.base) I.ok.mod.kin hk (thn (ha ì Â s σ H _ I h) λus s1 ⟨vs,H1,I1,r,q⟩=>⟨I1.kIn,?_⟩) he hpl;exact Mw F hr hb hd hx I1 r q
def DX(F:fO X.prog X.w X.K X.mg X.base CX k f fd ps sp)(hr:fN k X.A)(hg:Gl X x)(hm:X.mg x=fb (.ref f))(hk:PySem.W.keepIn X.K (.ref f)=fe)(hb:Binds X.K fd ps ds)(hd:gp aL ds)(hx:Xn CX X E)
  (cI:(x==("__debug__" : Str))=ff:=by decide):PE X (.Call (.Name x p) [] [] ì)<|Hz sp aL E BY:=by
 k_upd;refine ĕ<|W6 I hg hm ?_ cI;exact PySem.W.callWith_K0 I.kIn hk<|Mw (us:=[]) F hr hb hd hx I .nil h
variable {pl:Sem Bool}
def Fm(he:PE X o ta)(c:Cls X.K C)(hm:Meth X.K C m f)(F:fO X.prog X.w X.K X.mg X.base CX k f fd ps sp)(hr:fN k X.A)(hb:Binds X.K fd ps ds)(hd:gp aL ds)(hx:Xn CX X E)(ha:PA X (e::es) t)
  (Š:Ú (e::es) X.env=(ff,eval e X.env)::Ú es X.env:=by rfl) (hpl:(ě ì<|Ú es X.env).any (·.1)=ff:=by rfl)
  (ht:eval (.Call (.Attribute o m ń) (e::es) [] ì) X.env=(do
    let ov<-eval o X.env
    ώ ń.atName
    let (f,first)<-Ņ [ov] (Ϙ ov m pl)
    cj ì f first (ě ì<|Ú (e::es) X.env) (Ź ì<|ň [] X.env)):=by rfl) :
  PE X (.Call (.Attribute o m ń) (e::es) [] ì) (Hb C m sp aL E ta t):=by
 k_upd;refine PySem.W.methodCall_KW (pl:=pl) (thn (he Â s σ H _ I h) λu s1 ⟨x,H1,I1,rx,a,dx,fs,ex,ea,l,q⟩=>?_) ht;subst ex;obtain rfl:u=Value.ref a:=rx;refine Jj I1 ea c hm l ?_;refine PySem.W.callWith_K (first:=[.ref a]) (h₀:=X.base) I.ok.mod.kin hm.kp (thn (ha ì Â s1 σ H1 _ I1 q) λus s2 ⟨vs,H2,I2,r,q2⟩=>⟨I2.kIn,?_⟩) Š hpl;exact Mw (us:=.ref a::us) (vs:=.ref a::vs) F hr hb hd hx I2 (.cons rfl r) q2
def D8(he:PE X o ta)(c:Cls X.K C)(hm:Meth X.K C m f)(F:fO X.prog X.w X.K X.mg X.base CX k f fd ps sp)(hr:fN k X.A)(hb:Binds X.K fd ps ds)(hd:gp aL ds)(hx:Xn CX X E)
  (ht:eval (.Call (.Attribute o m ń) [] [] ì) X.env=(do
    let ov<-eval o X.env
    ώ ń.atName
    let (f,first)<-Ņ [ov] (Ϙ ov m pl)
    cj ì f first (ě ì<|Ú [] X.env) (Ź ì<|ň [] X.env)):=by rfl) :
  PE X (.Call (.Attribute o m ń) [] [] ì) (Hb C m sp aL E ta BY):=by
 k_upd;refine PySem.W.methodCall_KW (pl:=pl) (thn (he Â s σ H _ I h) λu s1 ⟨x,H1,I1,rx,a,dx,fs,ex,ea,l,q⟩=>?_) ht;subst ex;obtain rfl:u=Value.ref a:=rx;refine Jj I1 ea c hm l ?_;exact PySem.W.callWith_K0 (first:=[.ref a]) I1.kIn hm.kp<|Mw (us:=[.ref a]) (vs:=[.ref a]) F hr hb hd hx I1 (.cons rfl .nil) q
structure Mk(K:Frag)(C f:È):Prop where
 makes:PySem.W.makesIn K C=fe
 init:PySem.W.findIn K (.ref C) "__init__" = fb (fb<|.ref f)
 fn:PySem.W.isFn K (.ref f)=fe
 kp:PySem.W.keepIn K (.ref C)=fe
def CB(M:Mk X.K C f)(F:fO X.prog X.w X.K X.mg X.base CX k f fd ps sp)(hr:fN (k+1) X.A)(hb:Binds X.K fd ps ds)(hd:gp aL ds)
  (hx:Xn CX X E) (I:Inv X Â σ H s) (r:gp vs us)
  (h:∀x dx,H x=fc->H dx=fc->dx≠x->sp (.ref x::(vs++aL)) (upd (upd H dx<|.own x) x<|.ins C dx []) (λv H2=>v=.non/\Q (.ref x) H2) E) :
  wpAny (à X.prog X.w) X.A (call (.ref C) us) (EP X Â σ Q) X.xe s:=by
 have hq:=h (s.heap.objs.size+1) s.heap.objs.size (I.hok.fresh<|Ŧ _) (I.hok.fresh<|Ï _)<|â<|ĳ _;have I2:=Inv.made (C:=C) I;have r2:gp (V.ref (s.heap.objs.size+1)::(vs++aL))<|Value.ref (s.heap.objs.size+1)::(us++ds):=.cons rfl<|r.append hd;have hl:(Value.ref (s.heap.objs.size+1)::us++ds).length=ps.length:=by have e:=r2.length;rw[F.len _ _ _ _ hq]at e;exact e.symm
 refine wpAny_call (BS (f:=f) I.kIn M.makes M.init (beq_iff_eq.mp M.fn) (ϣ (F.run _ X.stack _ _ ⟨Value.ref (s.heap.objs.size+1)::us,[]⟩ (Value.ref (s.heap.objs.size+1)::(us++ds)) _ _ E (hr.make C us [])
   (I2.env0.make C us []) (hb _ (Value.ref (s.heap.objs.size+1)::us) I2.kIn hl) r2 hq) λr s' hq'=>?_))
 cases r with
 |error e=>exact hx Â σ _ _ e s' I2 hq'
 |ok fl =>
  cases fl with
  |ret u =>let⟨v,H',I3,rv,ev,q3⟩:=I2.after hq';subst ev;exact⟨rv,⟨V.ref<|s.heap.objs.size+1,H',I3,rfl,q3⟩⟩
  |next=>exact Ń hq'
  |brk=>exact Ń hq'
  |cont=>exact Ń hq'
def Fp(M:Mk X.K C f)(F:fO X.prog X.w X.K X.mg X.base CX k f fd ps sp)(hr:fN (k+1) X.A)(hg:Gl X x)(hm:X.mg x=fb (.ref C))(hb:Binds X.K fd ps ds)(hd:gp aL ds)(hx:Xn CX X E)
  (ha:PA X (e::es) t) (cI:(x==("__debug__" : Str))=ff:=by decide) (he:Ú (e::es) X.env=(ff,eval e X.env)::Ú es X.env:=by rfl) (hpl:(ě ì<|Ú es X.env).any (·.1)=ff:=by rfl) :
  PE X (.Call (.Name x p) (e::es) [] ì) (RJ C sp aL E t):=by
 k_upd;refine ĕ<|W6 I hg hm ?_ cI;refine PySem.W.callWith_K (h₀:=X.base) I.ok.mod.kin M.kp (thn (ha ì Â s σ H _ I h) λus s1 ⟨vs,H1,I1,r,q⟩=>⟨I1.kIn,?_⟩) he hpl;exact CB M F hr hb hd hx I1 r q
end
structure FnScope(N P:List Str)(sc:ſ):Prop where
 kind:sc.kind=.function
 co:sc.isCoroutine=ff
 gen:sc.isGenerator=ff
 nd:N.Nodup
 pre:N.take P.length=P
 par:∀x∈P,sc.names.lookup x=fb .local\/sc.names.lookup x=fb .cell
 nofree:∀y∈sc.names,y.2≠.free
def KI{χ:Str->Option ϙ}{x:Str}:∀{binds:List (Str×Ä)}{m:Str->Option Ä},(∀v,(x,v)∉binds)->bindL χ binds m x=m x
 |[],_,_=>rfl
 |(n,v)::r,m,h=>by
  unfold bindL;rw[KI λw hw=>h w<|æ _ hw];split
  .have:x≠n:=by rintro rfl;exact h v ü
   simp[this]
  .rfl
def Mb{χ:Str->Option ϙ}{x:Str}:∀{binds:List (Str×Ä)}{m:Str->Option Ä},(∀v,(x,v)∉binds)->dN χ binds m x=m x
 |[],_,_=>rfl
 |(n,v)::r,m,h=>by
  unfold dN;rw[Mb λw hw=>h w<|æ _ hw];split
  .rfl
  .have:x≠n:=by rintro rfl;exact h v ü
   simp[this]
def KR{χ:Str->Option ϙ}{x:Str}{v:Ä}:∀{P:List Str}{vs:List Ä}{i:Nat}{m:Str->Option Ä},P.Nodup->P[i]?=fb x->vs[i]?=fb v->χ x=fb .local->
  bindL χ (P.zip vs) m x=fb v
 |[],_,_,_,_,h,_,_=>by simp at h
 |_::_,[],_,_,_,_,h,_=>by simp at h
 |p::P,w::vs,0,m,nd,h1,h2,hk=>by simp at h1 h2;subst h1;subst h2;show bindL χ ((p,w)::P.zip vs) m p=_;unfold bindL;rw[KI λv hv=>(Ā.mp nd).1 (aS hv).1,gF hk];simp
 |p::P,w::vs,i+1,m,nd,h1,h2,hk=>by show bindL χ ((p,w)::P.zip vs) m x=_;unfold bindL;exact KR (i:=i) (Ā.mp nd).2 ⇑h1 ⇑h2 hk
def K3{χ:Str->Option ϙ}{x:Str}{v:Ä}:∀{P:List Str}{vs:List Ä}{i:Nat}{m:Str->Option Ä},P.Nodup->P[i]?=fb x->vs[i]?=fb v->χ x≠fb .local->
  dN χ (P.zip vs) m x=fb v
 |[],_,_,_,_,h,_,_=>by simp at h
 |_::_,[],_,_,_,_,h,_=>by simp at h
 |p::P,w::vs,0,m,nd,h1,h2,hk=>by simp at h1 h2;subst h1;subst h2;show dN χ ((p,w)::P.zip vs) m p=_;unfold dN;rw[Mb λv hv=>(Ā.mp nd).1 (aS hv).1,gG hk];simp
 |p::P,w::vs,i+1,m,nd,h1,h2,hk=>by show dN χ ((p,w)::P.zip vs) m x=_;unfold dN;exact K3 (i:=i) (Ā.mp nd).2 ⇑h1 ⇑h2 hk
abbrev start(N:List Str)(vs:List V):St:=vs.map fb++Í (N.length - vs.length) fc
abbrev Mq(CX:CXT)(P:è)(w:ā)(K:Frag)(mg:Str->Option Ä)(base:Ć)(N:List Str)(qual:Str)(scope:ſ)(f:È)(cd:Ä)(A:č)(outer:List Env)(s:Æ)(H:Hp)(E:XK):Cx where
 prog:=P
 w:=w
 K:=K
 mg:=mg
 base:=base
 A:=A.deeper<|aH qual scope s.heap.objs.size f cd
 N:=N
 s₀:=s
 H₀:=H
 env:=aH qual scope s.heap.objs.size f cd
 outer:=outer
 stack:=aH qual scope s.heap.objs.size f cd::outer
 ex:=[]
 calm:=fe
 fn:=λ_=>fe
 pn:=[]
 xe:=λe s'=>wpAny (à P w) (A.deeper<|aH qual scope s.heap.objs.size f cd) (leaving (aH qual scope s.heap.objs.size f cd) e) (λ_ s''=>CX outer H s E e s'') (λe' s''=>CX outer H s E e' s'') s'
def Ny{sc:ſ}{n:Nat}{x:Str}(h:sc.names.lookup x=fb .cell):∃c,(cellsFrom n sc.names []).lookup x=fb c:=by have q:=PySem.W.cellsFrom_some sc.names n []<|.inl h;exact ô.mp q
variable {CX:CXT} {N:List Str} {qual:Str} {scope:ſ} {f:È}
def By{K:Frag}{cd:Ä}{s1:Æ}{E:XK}{vs:List V}
  (S:FnScope N ps scope) (hd:A.handled=fc) (e0:Env0 P w K mg base A outer s H) (hl:vs.length=ps.length) (r:gp vs us)
  (x:InCallC s s.heap.objs.size (bindL (aH qual scope s.heap.objs.size f cd).kindOf (ps.zip us) λ_=>fc) (cellsFrom (s.heap.objs.size+1) scope.names []) (dN (aH qual scope s.heap.objs.size f cd).kindOf (ps.zip us) λ_=>fc) s1) :
  Inv (Mq CX P w K mg base N qual scope f cd A outer s H E) [] (start N vs) H s1:=by
 have hpl:ps.length<=N.length:=by have:=congrArg List.length S.pre;rw[Ě]at this;lia
 let⟨h1,tk,rfl,hk⟩:=x.done;have noA:∀b:È,b∉(Mq CX P w K mg base N qual scope f cd A outer s H E).ex:=λb z=>gL (show b∈([]:List È) from z) (by simp);refine⟨⟨e0.mod,S.kind,rfl,rfl,Ï _,λy z c h1 h2=>?_,λy hy=>?_,λy c _ h=>?_,λ_=>hd,Around.frames_deeper e0.frames,.inr ⟨rfl,rfl⟩,λb z=>gL z<|noA b,e0.bs,e0.bsz,λb _ _=>noA b,λb z=>gL z<|noA b,e0.funs,e0.frf⟩,
   rfl,e0.bare,Un.kept hk,⟨_,x.toInCall.ns,λi y v h1 h2 h3=>?_⟩,λy c h=>⟨_,x.cell y c h⟩,e0.hok.fresh<|Ï _,λy c h=>?_,λp hp=>gL (show p∈([]:List<|È×Obj) from hp) (by simp),e0.hok.kept hk,?_⟩
 .exact name_of_addr x.apart (PySem.mem_of_lookup h1)<|PySem.mem_of_lookup h2
 .have hy:scope.names.lookup y=fb .cell\/scope.names.lookup y=fb .free:=hy;rcases hy with hy|hy
  .exact Ny hy
  .exact gL rfl<|S.nofree _<|PySem.mem_of_lookup hy
 .exact ο<|x.above y c<|PySem.mem_of_lookup h
 .have hi:i<vs.length:=by
   unfold start at h2;by_cases hi:i<vs.length
   .exact hi
   .rw[đ<|by simpa using hi]at h2;rw[Ŋ]at h2;split at h2<;>cases h2
  have ha:vs[i]?=fb v:=by
   unfold start at h2;rw[Č ⇑hi,ß]at h2;cases e:vs[i]? with
   |none=>rw[e]at h2;cases h2
   |some a=>rw[e]at h2;cases h2;rfl
  let⟨u,hu,rv⟩:=r.get ha;have hp:ps[i]?=fb y:=by rw[<-S.pre,List.getElem?_take_of_lt<|by lia];exact h1
  have ndP:ps.Nodup:=by rw[<-S.pre];exact S.nd.sublist<|List.take_sublist _ _
  refine⟨u,rv,?_⟩;rcases S.par y (ë hp)with k|k
  .exact .inl ⟨k,KR ndP hp hu k⟩
  .obtain⟨c,e⟩:=Ny (n:=s.heap.objs.size+1) k;refine .inr ⟨.inl k,c,e,?_⟩;have q:=x.cell y c e;rw[K3 ndP hp hu<|by show scope.names.lookup y≠_;rw[k];decide]at q;exact q
 .exact e0.hok.fresh<|ο<|x.above y c<|PySem.mem_of_lookup h
 .unfold start;show _=N.length;rw[Å,À,á];lia
def Rj{K:Frag}{k:Nat}{name:Str}{params:Arguments}{body:List Ł}{dV kV doc pm ϧ ct oc:Ä}{an od:Option È}
  {osl:Array (Option Ä)}  {sp:Sp}(lk:K.lookup f=fb ⟨oc,od,.func<|PySem.W.fnOf name qual params body scope dV kV doc pm an ϧ ct,osl⟩) (bj:PySem.W.codeIn K ϧ qual=fe) (S:FnScope N ps scope)
  (len:∀vs H Q E,sp vs H Q E->vs.length=ps.length)
  (hbody:∀(A:č) (outer:List Env) (s:Æ) (H:Hp) (vs:List V) (Q:VK) (E:XK),fN k (A.deeper<|aH qual scope s.heap.objs.size f ϧ)->sp vs H Q E->
    ∃t,PSs (Mq CX P w K mg base N qual scope f ϧ A outer s H E) body t/\t { nx:=λ_ H'=>Q .non H',rt:=Q } (start N vs) H) :
  fO P w K mg base CX (k+1) f (PySem.W.fnOf name qual params body scope dV kV doc pm an ϧ ct) ps sp:=by
 refine⟨len,λA outer s H args us vs Q E hr e0 hb r hsp=>?_⟩;have hl:=len _ _ _ _ hsp;have KX:K.In s.heap:=e0.mod.kin.keeps λb o e=>(e0.bs b o e).1;have lim:s.heap.NoLimit:=e0.mod.nolimit.keeps λb o e=>(e0.bs b o e).1;have hkind:∀y∈ps.zip us,scope.names.lookup y.1=fb .local\/(scope.names.lookup y.1=fb .cell/\((cellsFrom (s.heap.objs.size+1) scope.names []).lookup y.1).isSome=fe):=λ⟨n,v⟩ hy=>by
  rcases S.par n (aS hy).1 with q|q
  .exact .inl q
  .exact .inr ⟨q,PySem.W.cellsFrom_some _ _ _<|.inl q⟩
 refine codeAny_call_function hr.depth (KX _ _ lk) rfl S.co S.gen rfl (PySem.W.codeRec_of KX bj)<|hb _ _ _ _ ?_;refine wpAny_newFunctionEnv_cells S.kind hkind λenv he s1 x=>?_;subst he;refine⟨lim.keeps x.toInCall.keep,codeAny_func ?_⟩;let⟨t,ht,hq⟩:=hbody A outer s H vs Q E (hr.deeper _) hsp;have I:Inv (Mq CX P w K mg base N qual scope f ϧ A outer s H E) [] (start N vs) H s1:=By S hr.hd e0 hl r x;refine ő (ht [] s1 (start N vs) H _ I hq) (λfl s' hs=>?_) λe s' hs=>hs;have fin:∀{ş:St}{H':Hp}{v:V}{u:Ä},Inv (Mq CX P w K mg base N qual scope f ϧ A outer s H E) [] ş H' s'->RelV v u->Q v H'->CE outer P w H s Q u s' :=
  λ{ş H' v u} J rv q=>⟨v,H',J.os,J.bare,J.base,J.hok,rv,q⟩
 cases fl with
 |ret u =>let⟨v,ş,H',J,rv,q⟩:=hs;exact fin J rv q
 |next =>let⟨ş,H',J,q⟩:=hs;exact fin (v:=V.non) (u:=Value.none) J rfl q
 |brk =>let⟨_,_,_,q⟩:=hs;exact Ń q
 |cont =>let⟨_,_,_,q⟩:=hs;exact Ń q
section
variable {X:Cx}{x:Str}{p ì:Pos}{e:Expr}{es:List Expr}{t:TA}{id T:String}{r:List V->Hp->VK->Prop}
abbrev tCB(r:List V->Hp->VK->Prop)(t:TA):TE:=λσ H Q=>t σ H λvs H1=>r vs H1 Q
def Yo(hc:fq X (.builtin id) r)(hg:Gl X x)(hm:X.mg x=fc)(hv:š x=fb (.builtin id))(ha:PA X (e::es) t)(hn:x≠"__name__":=by decide)(cI:(x==("__debug__" : Str))=ff:=by decide)
  (he:Ú (e::es) X.env=(ff,eval e X.env)::Ú es X.env:=by rfl) (hpl:(ě ì<|Ú es X.env).any (·.1)=ff:=by rfl):PE X (.Call (.Name x p) (e::es) [] ì)<|tCB r t:=by
 k_upd;refine ĕ<|Z2 I hg hm hv ?_ hn cI;exact PyProof.Rows.callWith_builtin1 (thn (ha ì Â s σ H _ I h) λus s1 ⟨vs,H1,I1,r1,q1⟩=>hc Â s1 σ H1 vs us Q I1 r1 q1) he hpl
def Xs(hc:fq X (.type T) r)(hg:Gl X x)(hm:X.mg x=fc)(hv:š x=fb (.type T))(ha:PA X (e::es) t)(hn:x≠"__name__":=by decide)(cI:(x==("__debug__" : Str))=ff:=by decide)
  (he:Ú (e::es) X.env=(ff,eval e X.env)::Ú es X.env:=by rfl) (hpl:(ě ì<|Ú es X.env).any (·.1)=ff:=by rfl):PE X (.Call (.Name x p) (e::es) [] ì)<|tCB r t:=by
 k_upd;refine ĕ<|Z2 I hg hm hv ?_ hn cI;exact PyProof.Rows.callWith_type1 (thn (ha ì Â s σ H _ I h) λus s1 ⟨vs,H1,I1,r1,q1⟩=>hc Â s1 σ H1 vs us Q I1 r1 q1) he hpl
end
end L2
namespace HT
open PySem PyProof.Rows
abbrev lexLt:List Int->List Int->Bool
 |[],[]=>ff
 |[],_::_=>fe
 |_::_,[]=>ff
 |x::xs,y::ys=>if x=y then lexLt xs ys else gM (x<y)
def lexLt_cons(x y:Int)(xs ys:List Int):lexLt (x::xs) (y::ys)=if x=y then lexLt xs ys else gM (x<y):=rfl
def Ko:lexLt [] []=ff:=rfl
def JG(y:Int)(ys:List Int):lexLt [] (y::ys)=fe:=rfl
def JB(x:Int)(xs:List Int):lexLt (x::xs) []=ff:=rfl
def eqAt_int(A:č)(s:Æ)(a:Int)(t:Tok)(c:Int)(u:Tok):∃e,SeqAt.EqAt A s (.int a t) (.int c u) e/\(e=fe↔a=c) :=
 ⟨(a==c),SeqAt.EqAt.int_int a t c u,by simp⟩
def DZ(A:č)(s:Æ)(a:Int)(t:Tok)(c:Int)(u:Tok)(prog:è)(w:ā)(E:Ä->Æ->Prop)(Q:Ä->Æ->Prop)(h:Q (.bool<|gM (a<c)) s) :
  wpAny (à prog w) A (richCompare .Lt (.int a t)<|.int c u) Q E s :=
 (PyProof.Rows.lt_int h:wpAny (à prog w) A (ð .Lt (.int a t)<|.int c u) Q E s)
section
open PySem.SeqAt
open PySem.AutoSeq1 (wpAny_loadPart')
open PySem.MeetsSeq PySem.MeetsSeq2 PySem.MeetsSeq3
def Kr(l b:È)(items ł:Array Ä)(n n2:Nat)(dd cY:Option È)(sl d8:Array<|Option Ä)(ns ms:List Int)(hi:Ġ items.toList ns)(hj:Ġ ł.toList ms) :
  Meets (Builtin.«tuple.__lt__» ⟨[.ref l,.ref b],[]⟩)
   (λ_ R s=>s.heap.get? l=fb { cls:=.type "tuple",dict:=dd,data:=.seq items n,slots:=sl }/\s.heap.get? b=fb { cls:=.type "tuple",dict:=cY,data:=.seq ł n2,slots:=d8 }/\
     R (.ok<|.ret<|.bool<|lexLt ns ms) s) :=
 .of_wp λprog w A R s h=>by
  let⟨hp,g,d,tk,os⟩:=s;let⟨hl,hb,h⟩:=h;have f2:=AutoSeq1.sub_tuple_tuple;have z1:items.size=ns.length:=by rw[<-hi.length];simp
  have z2:ł.size=ms.length:=by rw[<-hj.length];simp
  wp_walk using ø hl,ø hb,wpAny_forIn_list _ (λrest b s'=>b.1=fc/\s'=⟨hp,g,d,tk,os⟩/\∃(vs ws:List Ä) (cJ dG:List Int),rest=vs.zip ws/\
    Ġ vs cJ/\Ġ ws dG/\cJ.length+ł.size=dG.length+items.size/\R (.ok<|.ret<|.bool<|lexLt cJ dG) ⟨hp,g,d,tk,os⟩) _
  case turn =>
   rintro⟨y,x⟩ rest b s' ⟨bo,rfl,vs,ws,cJ,dG,hz,hvi,hwi,hlen,hR⟩;cases hvi with
   |nil=>rw[Δ]at hz;cases hz
   |cons a t hvi' =>
    cases hwi with
    |nil=>rw[ς]at hz;cases hz
    |cons c u hwi' =>
     rw[Ķ]at hz;injection hz with hyx hrest;injection hyx with hy hx;subst hy hx;rw[lexLt_cons]at hR;simp![Ð]at hlen;let⟨e,he,hiff⟩:=eqAt_int A.in1 ⟨hp,g,d,tk,os⟩ a t c u;refine Á<|he prog w _ _ ?_;cases e with
     |true =>
      rw[gF<|hiff.mp rfl]at hR
      wp_walk
      exact⟨rfl,rfl,_,_,_,_,hrest,hvi',hwi',by lia,hR⟩
     |false =>
      rw[gG λq=>gL (hiff.mpr q) ý]at hR;have hri:=DZ A.in1 ⟨hp,g,d,tk,os⟩ a t c u prog w
      wp_walk using hri
      exact⟨_,rfl,⇑hR⟩
  case fin =>
   rintro⟨b1,b2⟩ s' ⟨bo,rfl,vs,ws,cJ,dG,hz,hvi,hwi,hlen,hR⟩;simp only at bo;subst bo;have hv:lexLt cJ dG=gM (items.size<ł.size):=by
    cases hvi with
    |nil =>
     cases hwi with
     |nil =>simp![Ĉ]at hlen;rw[Ko];exact(gH<|by lia).symm
     |cons c u hw =>simp![Ĉ,Ð]at hlen;rw[JG];exact(gJ<|by lia).symm
    |cons a t hv =>
     cases hwi with
     |nil =>simp![Ĉ,Ð]at hlen;rw[JB];exact(gH<|by lia).symm
     |cons c u hw =>rw[Ķ]at hz;cases hz
   rw[hv]at hR
   wp_walk
   exact⟨_,rfl,by simpa[Builtin.Tuple.tupleCompareSizes]using hR⟩
  case h =>exact⟨rfl,rfl,items.toList,ł.toList,ns,ms,rfl,hi,hj,by lia,h⟩
end
section
variable {prog:è}{w:ā}{A:č}{E:Ä->Æ->Prop}{s:Æ}
variable {b:È} {items:Array Ä} {Q:Ä->Æ->Prop}
def lt_tupInts{l:È}{ł:Array Ä}{ns ms:List Int}(hl:ϳ s.heap l items)(hb:ϳ s.heap b ł)(hi:Ġ items.toList ns)(hj:Ġ ł.toList ms)
  (hu:A.units<Ħ) (h:Q (.bool<|lexLt ns ms) s):wpAny (à prog w) A (ð .Lt (.ref l)<|.ref b) Q E s:=by
 let⟨⟨cls,dd,data,sl⟩,ho,hc,n,hd⟩:=id hl;let⟨⟨cls2,cY,data2,d8⟩,ho2,hc2,n2,bN⟩:=id hb;simp only at hc hd hc2 bN;subst hc hd hc2 bN;exact eK (op:=.Lt) ⟨_,ho,rfl⟩ ⟨_,ho2,rfl⟩ PySem.F.slot_tuple_lt PySem.F.entry_tuple_lt (PySem.F.args_tuple_lt_2 _ _) (Kr l b items ł n n2 dd cY sl d8 ns ms hi hj)
  ⟨ho,ho2,show Value.bool (lexLt ns ms)≠ck/\Q (.bool<|lexLt ns ms) s from ⟨(λx=>nomatch x),h⟩⟩ hu
def cat_tup{t:È}{vs ws:List Ä}(ht:ϳ s.heap t vs.toArray)(hb:ϳ s.heap b ws.toArray)(hv:vs≠[])
  (h1:ws=[]->Q (.ref t) s) (h2:ws≠[]->Q (.ref s.heap.objs.size) {s with heap:=s.heap.push {cls:=.type "tuple",data:=.seq (vs++ws).toArray}})
  (hsz:vs.length+ws.length<=Ü):wpAny (à prog w) A (ņ .Add (.ref t)<|.ref b) Q E s:=by
 let⟨⟨cls,dd,data,sl⟩,ho,hc,n,hd⟩:=id ht;let⟨⟨cls2,cY,data2,d8⟩,ho2,hc2,n2,bN⟩:=id hb;simp only at hc hd hc2 bN;subst hc hd hc2 bN;have e:vs.toArray++ws.toArray=(vs++ws).toArray:=by simp
 by_cases hw:ws=[]
 .exact eL ⟨_,ho,rfl⟩ ⟨_,ho2,rfl⟩ bx dk PySem.F.slot_tuple_add PySem.F.entry_tuple_add (PySem.F.args_tuple_add_2 _ _)
   (tuple_addW1 t b vs.toArray ws.toArray n n2 dd cY sl d8 ⇑hv<|by simp[hw]) ⟨ho,ho2,h1 hw⟩
 .refine eL ⟨_,ho,rfl⟩ ⟨_,ho2,rfl⟩ bx dk PySem.F.slot_tuple_add PySem.F.entry_tuple_add (PySem.F.args_tuple_add_2 _ _)
   (tuple_addW2 t b vs.toArray ws.toArray n n2 dd cY sl d8 ⇑hv ⇑hw<|by rw[É,É];exact hsz) ⟨ho,ho2,?_⟩
  rw[e];exact h2 hw
abbrev sIx(n d:Nat):Option Int->Nat
 |none=>d
 |some v=>if v<0 then(v+(n:Int)).toNat else min v.toNat n
def Lv(n d:Nat)(hd:d<=n)(o:Option Int):sIx n d o<=n:=by
 cases o with
 |none=>exact hd
 |some v =>
  show(if v<0 then(v+(n:Int)).toNat else min v.toNat n)<=n;by_cases hv:v<0
  .rw[gF hv];lia
  .rw[gG hv];exact aI _ _
def clip_eq(v:Int)(n d:Nat):(if v<0 then max (v+(n:Int)) 0 else min v (n:Int))=((sIx n d (fb v):Nat):Int):=by
 show(if v<0 then max (v+(n:Int)) 0 else min v (n:Int))=(((if v<0 then(v+(n:Int)).toNat else min v.toNat n):Nat):Int)
 by_cases hv:v<0
 .simp![gF hv];lia
 .simp![gG hv];lia
def OP(lo hi:Option Int)(n:Nat):Builtin.Slice.sliceAdjust lo hi 1 (n:Int)=(((sIx n 0 lo:Nat):Int),((sIx n n hi:Nat):Int)):=by
 have h1:¬ ((1:Int)<0):=by lia
 unfold Builtin.Slice.sliceAdjust;simp![h1,if_false];refine Prod.ext ?_ ?_
 .cases lo with
  |none=>rfl
  |some v=>exact clip_eq v n 0
 .cases hi with
  |none=>rfl
  |some v=>exact clip_eq v n n
def Ub(i j:Nat):Builtin.Slice.slicePlaces (i:Int) (j:Int) 1=j - i:=by
 unfold Builtin.Slice.slicePlaces;have h1:(1:Int) > 0:=by lia
 simp![h1,if_true,Int.ediv_one];split<;>lia
def JW{v:Ä}{o:Option Int}{Q:Option Int->Æ->Prop}(p:ϒ v o)(h:Q o s):wpAny (à prog w) A (Builtin.Slice.slicePartIndex v) Q E s:=by
 cases p with
 |none=>exact slicePart_none h
 |int i t=>exact slicePart_int h
variable {sl:È} {vl:Ä} {vu:Ä} {lo:Option Int} {hi:Option Int}
def Yz{n:Nat}{Q:Int×Int×Nat->Æ->Prop}(hs:s.heap.IsSliceOf sl vl vu .none)(pl:ϒ vl lo)(pu:ϒ vu hi)
  (h:Q (((sIx n 0 lo:Nat):Int),1,sIx n n hi - sIx n 0 lo) s):wpAny (à prog w) A (Builtin.Slice.sliceApplied (.ref sl)<|pure (n:Int)) Q E s:=by
 let⟨os,hos,hcs,hds⟩:=id hs;unfold Builtin.Slice.sliceApplied Builtin.Slice.sliceFields;refine Á<|Á<|ă hos hds (x:=vl) rfl<|Á<|ă hos hds (x:=vu) rfl<|Á<|ă hos hds (x:=.none) rfl<|Ñ ?_;refine Á<|slicePart_none ?_;show wpAny _ _ (if((1:Int)==0)=fe then _ else _) _ _ s;rw[gG<|by decide];refine Á<|JW pl<|Á<|JW pu<|Á<|Ñ ?_;show wpAny _ _ (match Builtin.Slice.sliceAdjust lo hi 1 (n:Int)with|(lo,hi)=>pure (lo,(1:Int),Builtin.Slice.slicePlaces lo hi 1)) _ _ s;rw[OP lo hi n];show wpAny _ _ (pure (((sIx n 0 lo:Nat):Int),(1:Int),Builtin.Slice.slicePlaces ((sIx n 0 lo:Nat):Int) ((sIx n n hi:Nat):Int) 1)) _ _ s;rw[Ub];exact Ñ h
def DN(xs:Array Ä)(i k:Nat):((List.range k).filterMap λ(m:Nat)=>xs[((i:Int)+(m:Int)*1).toNat]?).toArray=((xs.toList.drop i).take k).toArray:=by
 have e:(λ(m:Nat)=>xs[((i:Int)+(m:Int)*1).toNat]?)=λm=>xs[i+m]?:=by
  funext m;have:((i:Int)+(m:Int)*1).toNat=i+m:=by lia
  rw[this]
 rw[e];have:=pick_run xs i k;rw[ϯ]at this;have e2:((λx=>xs[x]?) ∘ λx=>i+x)=λm=>xs[i+m]?:=rfl;rw[e2]at this;rw[this]
def getItem_tuple_cut{t:È}(ht:ϳ s.heap t items)(hs:s.heap.IsSliceOf sl vl vu .none)(pl:ϒ vl lo)(pu:ϒ vu hi)
  (hw:¬ (sIx items.size 0 lo=0/\sIx items.size items.size hi=items.size))
  (h:Q (.ref s.heap.objs.size) {s with heap:=s.heap.push {cls:=.type "tuple",data:=.seq ((items.toList.drop<|sIx items.size 0 lo).take<|sIx items.size items.size hi - sIx items.size 0 lo).toArray}})
  (hsz:items.size<=Ü):wpAny (à prog w) A (Ϣ (.ref t)<|.ref sl) Q E s:=by
 have cZ:sizeOk<|.seq ((items.toList.drop<|sIx items.size 0 lo).take<|sIx items.size items.size hi - sIx items.size 0 lo).toArray:=by show((items.toList.drop<|sIx items.size 0 lo).take<|sIx items.size items.size hi - sIx items.size 0 lo).toArray.size<=Ü;rw[É,Ě,Τ,Ğ];lia
 have hj:sIx items.size items.size hi<=items.size:=Lv _ _ (Ï _) hi;let⟨os,hos,hcs,hds⟩:=id hs;have hTs:s.TypeIs (.ref sl) "slice":=⟨os,hos,hcs⟩
 unfold Ϣ
 try with_reducible refine Ĭ ?_
 first|refine Á (Ñ ?_)|skip
 refine Á (wpAny_sequenceKey ht.typeIs (by decide) ?_);refine Á (Ą (name:=gN "__getitem__") ht.typeIs PyProof.Rows.slot_tuple_getitem
   (ď PyProof.Rows.slot_tuple_getitem ht.typeIs entry_tuple_getitem ?_<|args_tuple_getitem _ _))
 show wpAny _ _ (Builtin.Tuple.tupleItemsOf (.ref t) >>= _) _ _ s;refine Á<|tupleItemsOf_ ht ?_;refine Á<|Ε hTs ?_;rw[gF<|by decide];refine Á<|Yz hs pl pu ?_;have hno:¬ ((((sIx items.size 0 lo:Nat):Int)==0&&(1:Int)==1&&(sIx items.size items.size hi - sIx items.size 0 lo)==items.size)=fe):=by intro q;rw[bAq,bAq]at q;have q1:((sIx items.size 0 lo:Nat):Int)=0:=eq_of_beq q.1.1;have q2:sIx items.size items.size hi - sIx items.size 0 lo=items.size:=eq_of_beq q.2;exact hw ⟨by lia,by lia⟩
 show wpAny _ _ (if(((sIx items.size 0 lo:Nat):Int)==0&&(1:Int)==1&&(sIx items.size items.size hi - sIx items.size 0 lo)==items.size)=fe then _ else _) _ _ s;rw[gG hno,DN]
 first
  |exact Á (m:=Builtin.Tuple.tupleExact _)<|ģ (Ñ ⟨_,rfl,Ñ h⟩) cZ
  |exact Á (m:=Builtin.Tuple.tupleExact _)<|ģ (Á<|Ñ<|Ñ ⟨_,rfl,Ñ h⟩) cZ
  |exact Á<|Á (m:=Builtin.Tuple.tupleExact _)<|ģ (Ñ<|Ñ ⟨_,rfl,Ñ h⟩) cZ
  |exact Á<|Á (m:=Builtin.Tuple.tupleExact _)<|ģ (Ñ ⟨_,rfl,Ñ h⟩) cZ
end
end HT
namespace L2
open PySem PySem.Spec PyProof.Rows
noncomputable abbrev TO:=St->Hp->(Option Int->Hp->Prop)->Prop
abbrev PO(X:Cx)(e:Option Expr)(t:TO):Prop :=
 ∀(Â:List<|È×Obj) (s:Æ) (σ:St) (H:Hp) (Q:Option Int->Hp->Prop),Inv X Â σ H s->t σ H Q->
  wpAny (à X.prog X.w) X.A (evalPart e X.env) (λu s'=>∃o H',Inv X Â σ H' s'/\ϒ u o/\Q o H') X.xe s
abbrev EI:TO:=λ_ H Q=>Q fc H
abbrev QD(t:TE):TO:=λσ H Q=>t σ H λx H1=>∃i,x=.int i/\Q (fb i) H1
def ZY{ns:List Int}:∀{us:List Ä},gp (ns.map V.int) us->Ġ us ns:=by
 induction ns with
 |nil=>intro us r;rw[ū]at r;cases r;exact .nil
 |cons n ns ih =>
  intro us r;rw[Ó]at r;cases r with
  |cons r1 r2 =>let⟨t,e⟩:=r1;subst e;exact .cons n t<|ih r2
section
variable {X:Cx}{e:Expr}{te:TE}{lo hi:Option Expr}{tl th:TO}{ì p2:Pos}
def po_none:PO X fc EI:=by k_upd;rw[evalPart_none];exact Ñ ⟨fc,H,I,.none,h⟩
def Fa(h:PE X e te):PO X (fb e)<|QD te:=by intro Â s σ H Q I hw;rw[evalPart_some];refine thn (h Â s σ H _ I hw) λu s1 ⟨x,H1,I1,r1,q1⟩=>?_;let⟨i,rfl,q⟩:=q1;let⟨t,rfl⟩:=r1;exact⟨fb i,H1,I1,.int i t,q⟩
abbrev SlR(X:Cx)(r:V->Option Int->Option Int->Hp->VK->Prop):Prop :=
 ∀(Â:List<|È×Obj) (s:Æ) (σ:St) (H:Hp) (x:V) (v vl vu:Ä) (lo hi:Option Int) (sl:È) (Q:VK),Inv X Â σ H s->RelV x v->s.heap.IsSliceOf sl vl vu .none->ϒ vl lo->ϒ vu hi->r x lo hi H Q->
  ∃T id,cp (.type T) "__getitem__" = pure (fb<|.builtin id)/\s.TypeIs v T/\wpAny (à X.prog X.w) X.A (Ϣ v<|.ref sl) (EP X Â σ Q) X.xe s
variable {r:V->Option Int->Option Int->Hp->VK->Prop}
def SlR.or{r':V->Option Int->Option Int->Hp->VK->Prop}(h:SlR X r)(h':SlR X r'):SlR X λx lo hi H Q=>r x lo hi H Q\/r' x lo hi H Q:=by
 intro Â s σ H x v vl vu lo hi sl Q I rx hs pl pu q;rcases q with q|q
 .exact h Â s σ H x v vl vu lo hi sl Q I rx hs pl pu q
 .exact h' Â s σ H x v vl vu lo hi sl Q I rx hs pl pu q
abbrev tSl(r:V->Option Int->Option Int->Hp->VK->Prop)(te:TE)(tl th:TO):TE:=λσ H Q=>te σ H λx H1=>tl σ H1 λl H2=>th σ H2 λu H3=>r x l u H3 Q
def BP(hr:SlR X r)(he:PE X e te)(hl:PO X lo tl)(hu:PO X hi th):PE X (.Subscript e (.Slice lo hi fc p2) ì)<|tSl r te tl th:=by k_upd;refine Subscript_<|thn (he Â s σ H _ I h) λv s1 ⟨x,H1,I1,r1,q1⟩=>?_;refine wpAny_Slice<|thn (hl Â s1 σ H1 _ I1 q1) λvl s2 ⟨l,H2,I2,pl,q2⟩=>thn (hu Â s2 σ H2 _ I2 q2) λvu s3 ⟨u,H3,I3,pu,q3⟩=>?_;rw[evalPart_none];refine Ñ ?_;have I4:Inv X Â σ H3 {s3 with heap:=s3.heap.push {cls:=.type "slice",data:=.fields #[vl,vu,.none]}}:=I3.kept (t':=s3.toks) λb ob q=>Ã _ q;let⟨T,id,hT,ht,hg⟩:=hr Â {s3 with heap:=s3.heap.push {cls:=.type "slice",data:=.fields #[vl,vu,.none]}} σ H3 x v vl vu l u s3.heap.objs.size Q I4 r1 (Heap.IsSliceOf.new ..) pl pu q3;show wpAny (à X.prog X.w) X.A (aD e (.Slice lo hi fc p2) v<|.ref s3.heap.objs.size) (EP X Â σ Q) X.xe {s3 with heap:=s3.heap.push {cls:=.type "slice",data:=.fields #[vl,vu,.none]}};exact tail_any (ops:=[.ref s3.heap.objs.size,v]) ht hT hg (by with_unfolding_all rfl)
abbrev Mj(xs:List V)(lo hi:Option Int):List V:=(xs.drop<|HT.sIx xs.length 0 lo).take<|HT.sIx xs.length xs.length hi - HT.sIx xs.length 0 lo
def WQ(xs:List V)(lo hi:Option Int):(Mj xs lo hi).length<=xs.length:=by unfold Mj;rw[Ě,Τ];lia
abbrev Qk(K:Frag):V->Option Int->Option Int->Hp->VK->Prop:=λx lo hi H Q=>∃a xs,x=.ref a/\gm K H a xs/\
 ¬ (HT.sIx xs.length 0 lo=0/\HT.sIx xs.length xs.length hi=xs.length)/\∀p,H p=fc->Q (.ref p) (upd H p<|.tup<|Mj xs lo hi)
def f7:SlR X<|Qk X.K:=by
 intro Â s σ H x v vl vu lo hi sl Q I rx hs pl pu h;let⟨a,xs,rfl,hx,hw,q⟩:=h;cases rx;let⟨ó,r,ht,hz⟩:=I.tuple hx;have hlen:ó.toArray.size=xs.length:=by rw[É];exact r.length.symm
 refine⟨"tuple",_,PyProof.Rows.slot_tuple_getitem.lookup,ht.typeIs,?_⟩;refine HT.getItem_tuple_cut ht hs pl pu (by rw[hlen];exact hw) ?_ (by rw[hlen];exact hz);rw[hlen];refine⟨.ref s.heap.objs.size,_,I.laid (t':=s.toks) (o:=.tup<|Mj xs lo hi) (λb ob q=>Ã _ q) (Ï _) ?_,rfl,q _<|I.hok.fresh<|Ï _⟩;exact⟨Þ (WQ xs lo hi) hz,_,(r.drop<|HT.sIx xs.length 0 lo).take<|HT.sIx xs.length xs.length hi - HT.sIx xs.length 0 lo,IsTup.new _ _⟩
abbrev P9(K:Frag):R2:=λx y H Q=>∃a b ns ms,x=.ref a/\y=.ref b/\gm K H a (ns.map V.int)/\gm K H b (ms.map V.int)/\Q (.bl<|HT.lexLt ns ms) H
def Po(hu:X.A.units<Ħ):OpR X (ð .Lt)<|P9 X.K:=by k_sub;let⟨a,b,ns,ms,rfl,rfl,ha,hb,q⟩:=h;cases rx;cases ry;let⟨ó,r1,p1,_⟩:=I.tuple ha;let⟨Ż,r2,p2,_⟩:=I.tuple hb;have i1:Ġ ó.toArray.toList ns:=ZY r1;have i2:Ġ Ż.toArray.toList ms:=ZY r2;exact HT.lt_tupInts p1 p2 i1 i2 hu ⟨.bl<|HT.lexLt ns ms,H,I,rfl,q⟩
abbrev Hf(K:Frag):R2:=λx y H Q=>∃a b xs ys,x=.ref a/\y=.ref b/\gm K H a xs/\gm K H b ys/\xs≠[]/\xs.length+ys.length<=Ü/\
 (ys=[]->Q (.ref a) H)/\(ys≠[]->∀p,H p=fc->Q (.ref p) (upd H p<|.tup<|xs++ys))
def gp.nil_iff{xs:List V}{us:List Ä}(r:gp xs us):us=[]↔xs=[]:=by
 cases r with
 |nil=>simp
 |cons _ _=>simp
def GL:OpR X (ņ .Add)<|Hf X.K:=by k_sub;let⟨a,b,xs,ys,rfl,rfl,ha,hb,hx,hz,q1,q2⟩:=h;cases rx;cases ry;let⟨ó,r1,p1,_⟩:=I.tuple ha;let⟨Ż,r2,p2,_⟩:=I.tuple hb;refine HT.cat_tup p1 p2 (λz=>hx<|r1.nil_iff.mp z) (λz=>⟨.ref a,H,I,rfl,q1<|r2.nil_iff.mp z⟩) (λz=>?_) (by rw[<-r1.length,<-r2.length];exact hz);refine⟨.ref s.heap.objs.size,_,I.laid (t':=s.toks) (o:=.tup<|xs++ys) (λb ob q=>Ã _ q) (Ï _) ?_,rfl,q2 (λw=>z<|r2.nil_iff.mpr w) _<|I.hok.fresh<|Ï _⟩;exact⟨by rw[Å];exact hz,_,r1.append r2,IsTup.new _ _⟩
end
abbrev ixN(n:Nat)(i:Int):Option Nat:=if 0<=i then(if i<n then fb i.toNat else fc)else if -(n:Int)<=i then fb (i+n).toNat else fc
variable {α:Type}
abbrev atI(xs:List α)(i:Int):Option α:=(ixN xs.length i).bind λj=>xs[j]?
variable {n:Nat} {i:Int}
def Mo{j:Nat}(h:ixN n i=fb j):seqIndex? i n=fb j/\j<n/\-(n:Int)<=i/\i<n:=by
 unfold ixN at h;by_cases h0:0<=i
 .rw[gF h0]at h;by_cases h1:i<n
  .rw[gF h1]at h;have e:i.toNat=j:=ê h;exact⟨by rw[bI h0 h1,e],by lia,by lia,h1⟩
  .rw[gG h1]at h;cases h
 .rw[gG h0]at h;by_cases h1:-(n:Int)<=i
  .rw[gF h1]at h;have e:(i+n).toNat=j:=ê h;exact⟨by rw[aX (by lia) h1,e],by lia,h1,by lia⟩
  .rw[gG h1]at h;cases h
def W4{xs:List α}{v:α}(h:atI xs i=fb v):∃j,seqIndex? i xs.length=fb j/\xs[j]?=fb v/\j<xs.length/\-(xs.length:Int)<=i/\i<xs.length:=by
 unfold atI at h;cases e:ixN xs.length i with
 |none=>rw[e]at h;cases h
 |some j =>rw[e]at h;let⟨h1,h2,h3,h4⟩:=Mo e;exact⟨j,h1,h,h2,h3,h4⟩
abbrev Mn(b:Expr):Prop:=∀o i,subscripted b ff o i=operate [o,i] (Ϣ o i)
abbrev IxR(X:Cx)(r:R2):Prop :=
 ∀(μ slice:Expr) (Â:List<|È×Obj) (s:Æ) (σ:St) (H:Hp) (x y:V) (v u:Ä) (Q:VK),Inv X Â σ H s->RelV x v->RelV y u->r x y H Q->
  subscripted slice ff v u=operate [v,u] (Ϣ v u)->wpAny (à X.prog X.w) X.A (aD μ slice v u) (EP X Â σ Q) X.xe s
abbrev MtR(X:Cx)(id:String)(r:V->List V->Hp->VK->Prop):Prop :=
 ∀(Â:List<|È×Obj) (s:Æ) (σ:St) (H:Hp) (x:V) (xs:List V) (v:Ä) (us:List Ä) (Q:VK),Inv X Â σ H s->RelV x v->gp xs us->r x xs H Q->
  wpAny (à X.prog X.w) X.A (call (.builtin id)<|v::us) (EP X Â σ Q) X.xe s
section
variable {X:Cx}{a b:Expr}{ta tb:TE}{ì:Pos}
variable {r:R2}
def IxR.or{r':R2}(h:IxR X r)(h':IxR X r'):IxR X λx y H Q=>r x y H Q\/r' x y H Q:=by
 intro μ slice Â s σ H x y v u Q I rx ry q hs;rcases q with q|q
 .exact h μ slice Â s σ H x y v u Q I rx ry q hs
 .exact h' μ slice Â s σ H x y v u Q I rx ry q hs
def MtR.or{id:String}{r r':V->List V->Hp->VK->Prop}(h:MtR X id r)(h':MtR X id r'):MtR X id λx xs H Q=>r x xs H Q\/r' x xs H Q:=by
 intro Â s σ H x xs v us Q I rx rs q;rcases q with q|q
 .exact h Â s σ H x xs v us Q I rx rs q
 .exact h' Â s σ H x xs v us Q I rx rs q
def Qs(hr:IxR X r)(ha:PE X a ta)(hb:PE X b tb)(hs:Mn b):PE X (.Subscript a b ì)<|tOp r ta tb:=by k_upd;exact Subscript_ (Lp ha hb I h λv u s2 x y H2 I2 rx ry q=>hr a b Â s2 σ H2 x y v u Q I2 rx ry q<|hs _ _)
abbrev Df(K:Frag):R2:=λx y H Q=>∃p xs i v,x=.ref p/\y=.int i/\gk K H p xs/\atI xs i=fb v/\Q v H
abbrev Qd(K:Frag):R2:=λx y H Q=>∃p xs i v,x=.ref p/\y=.int i/\gm K H p xs/\atI xs i=fb v/\Q v H
abbrev QC:R2:=λx y H Q=>∃z i c,x=.str z/\y=.int i/\z.length<=Ü/\atI z.cps.toList i=fb c/\Q (.str ⟨#[c]⟩) H
def ix_list:IxR X<|Df X.K:=by
 intro μ slice Â s σ H x y v u Q I rx ry h hs;let⟨p,xs,i,z,rfl,rfl,hq,he,q⟩:=h;cases rx;let⟨t,rfl⟩:=ry;let⟨ó,r,pl,hz⟩:=I.list hq;let⟨j,h1,h2,h3,h4,h5⟩:=W4 he;let⟨w,ew,bd⟩:=r.get h2;have hl:=r.length;have hn:=Xm;have fin:EP X Â σ Q w s:=⟨z,H,I,bd,q⟩
 by_cases h0:0<=i
 .have hj:i.toNat=j:=by
   rw[bI h0 h5]at h1;exact ê h1
  exact item_listR pl.isList h0 (by lia) (by rw[hj];simpa using ew) fin hs
 .have hj:(i+(ó.toArray.size:Int)).toNat=j:=by
   rw[aX (by lia) h4]at h1;rw[É,<-hl];exact ê h1
  exact eN (x:=w) pl.isList.typeIs aY.lookup
   (eP (Q:=λr s'=>r=w/\EP X Â σ Q r s') pl.isList (by lia) (by rw[É]<;>lia) (by lia) (by rw[hj];simpa using ew) ⟨rfl,fin⟩) hs
def fm:IxR X<|Qd X.K:=by
 intro μ slice Â s σ H x y v u Q I rx ry h hs;let⟨p,xs,i,z,rfl,rfl,hq,he,q⟩:=h;cases rx;let⟨t,rfl⟩:=ry;let⟨ó,r,pl,hz⟩:=I.tuple hq;let⟨j,h1,h2,h3,h4,h5⟩:=W4 he;let⟨w,ew,bd⟩:=r.get h2;have hl:=r.length;have hn:=Xm;have fin:EP X Â σ Q w s:=⟨z,H,I,bd,q⟩
 exact eN (x:=w) pl.typeIs slot_tuple_getitem.lookup
  (getItem_tuple (j:=j) (Q:=λr s'=>r=w/\EP X Â σ Q r s') pl (by lia) (by lia) (by rw[É,<-hl];exact h1) ⇑ew ⟨rfl,fin⟩) hs
def Ld:IxR X QC:=by
 intro μ slice Â s σ H x y v u Q I rx ry h hs;let⟨z,i,c,rfl,rfl,hz,he,q⟩:=h;let⟨t,rfl⟩:=rx;let⟨t',rfl⟩:=ry;let⟨j,h1,h2,h3,h4,h5⟩:=W4 he;have hl:z.cps.toList.length=z.length:=by simp[Str.length]
 rw[hl]at h1 h4 h5;have hn:=Xm;exact tail_any (typeIs_str s z t) slot_str_getitem.lookup (getItem_str (c:=c) (by
   have e1:gM (i < -(2 ^ 63:Int))=ff:=gH (by lia)
   have e2:gM (i≥2 ^ 63)=ff:=gH (by lia)
   rw[e1,e2,Ϭ]) (by rw[h1];simpa using h2) ⟨.str ⟨#[c]⟩,H,I.tok _,⟨_,rfl⟩,q⟩) hs
abbrev rIx(K:Frag):R2:=λx y H Q=>Df K x y H Q\/Qd K x y H Q\/QC x y H Q
def ix_seq:IxR X<|rIx X.K:=ix_list.or (fm.or Ld)
def Oh(ó:List Ä)(n j:Nat)(u:Ä):ψ (·.setIfInBounds j u) {cls:=.type "list",data:=.seq ó.toArray n}={cls:=.type "list",data:=.seq (ó.set j u).toArray n}:=by simp[ψ]
def Inv.lst{Â:List (È×Obj)}{σ:St}{H:Hp}{s:Æ}{p:È}{xs:List V}(I:Inv X Â σ H s)(h:H p=fb (.lst xs)) :
  ∃(ó:List Ä) (n:Nat),gp xs ó/\s.heap.get? p=fb {cls:=.type "list",data:=.seq ó.toArray n}/\xs.length<=Ü:=by
 let⟨z,ó,n,r,e⟩:=I.hok p _ h;exact⟨ó,n,r,e,z⟩
variable {Â:List (È×Obj)} {σ:St} {H:Hp} {s:Æ}
def Inv.lstUpd{p:È}{xs ys:List V}{ó its':List Ä}{n':Nat}{f:Obj->Obj}(I:Inv X Â σ H s)(h:H p=fb (.lst xs))
  (ho:s.heap.get? p=fb {cls:=.type "list",data:=.seq ó.toArray n}) (hf:f {cls:=.type "list",data:=.seq ó.toArray n}={cls:=.type "list",data:=.seq its'.toArray n'}) (r:gp ys its') (hz:ys.length<=Ü) (t:Nat) :
  Inv X Â σ (upd H p<|.lst ys) {s with heap:=s.heap.update p f,toks:=t}:=by
 have e:(s.heap.update p f).get? p=fb {cls:=.type "list",data:=.seq its'.toArray n'}:=by rw[Ĺ f ho (by rw[hf]<;>rfl),hf]
 refine I.write (x:=p) (e:=p) (by rw[h];trivial) (.inl rfl) (λb u hb q=>(þ _ _<|Ne.symm hb).trans q) ⟨_,e⟩ ?_;exact⟨hz,its',n',r,e⟩
abbrev Hk:V->V->V->Hp->(Hp->Prop)->Prop:=λo i v H Q=>∃p xs k j,o=.ref p/\i=.int k/\H p=fb (.lst xs)/\ixN xs.length k=fb j/\Q (upd H p<|.lst<|xs.set j v)
def Oc:PSet X Hk:=by
 intro Â s σ H o i v ov iv u Q I ro ri rv h;let⟨p,xs,k,j,rfl,rfl,hp,hj,q⟩:=h;cases ro;let⟨t,rfl⟩:=ri;let⟨ó,n,r,ho,hz⟩:=I.lst hp;let⟨h1,h2,h3,h4⟩:=Mo hj;have hl:=r.length;have hn:=Xm;have I':Inv X Â σ (upd H p<|.lst<|xs.set j v) {s with heap:=s.heap.update p (ψ (·.setIfInBounds j u))} :=
  I.lstUpd hp ho (Oh ó n j u) (r.set rv j) (by rw[ζ];exact hz) s.toks
 by_cases h0:0<=k
 .have hk:k.toNat=j:=by
   rw[bI h0 h4]at h1;exact ê h1
  exact PySem.W.ki_setAt ho h0 (by lia) (by rw[É,<-hl];exact h4) (by rw[hk];exact⟨_,I',q⟩)
 .have hk:(k+(ó.toArray.size:Int)).toNat=j:=by
   rw[aX (by lia) h3]at h1;rw[É,<-hl];exact ê h1
  exact PySem.W.ki_setBack ho (by lia) (by rw[É,<-hl];exact h3) (by lia) (by rw[hk];exact⟨_,I',q⟩)
def Mg(lo hi:Option Int)(n:Nat):(ĝ lo hi fc n).1=((HT.sIx n 0 lo:Nat):Int)/\(ĝ lo hi fc n).2.1=((HT.sIx n n hi:Nat):Int)/\(ĝ lo hi fc n).2.2=1:=by
 refine⟨?_,?_,rfl⟩
 .cases lo with
  |none=>simp[ĝ,HT.sIx]
  |some i =>
   simp![ĝ,HT.sIx,dO,show(1:Int) > 0 by decide,if_true];by_cases h:i<0
   .simp![h,if_true]<;>lia
   .simp![h,if_false]<;>lia
 .cases hi with
  |none=>simp[ĝ,HT.sIx]
  |some i =>
   simp![ĝ,HT.sIx,dO,show(1:Int) > 0 by decide,if_true];by_cases h:i<0
   .simp![h,if_true]<;>lia
   .simp![h,if_false]<;>lia
def Kt(ó:List Ä)(lo hi:Option Int):dP ó.toArray lo hi fc=((ó.drop<|HT.sIx ó.length 0 lo).take<|HT.sIx ó.length ó.length hi - HT.sIx ó.length 0 lo).toArray:=by let⟨h1,h2,h3⟩:=Mg lo hi ó.toArray.size;unfold dP;rw[h1,h2,h3];simp![sliceRange_one,pick_run,É]<;>rfl
abbrev Q9(K:Frag):V->Option Int->Option Int->Hp->VK->Prop:=λx lo hi H Q=>∃a xs,x=.ref a/\gk K H a xs/\∀p,H p=fc->Q (.ref p) (upd H p<|.lst<|Mj xs lo hi)
def sl_list:SlR X<|Q9 X.K:=by intro Â s σ H x v vl vu lo hi sl Q I rx hs pl pu h;let⟨a,xs,rfl,hx,q⟩:=h;cases rx;let⟨ó,r,ht,hz⟩:=I.list hx;have hlen:=r.length;refine⟨"list",_,aY.lookup,ht.isList.typeIs,?_⟩;refine dm ht.isList hs pl pu .none (by simp) ?_ (by rw[É]<;>lia);rw[Kt,<-hlen];refine⟨.ref s.heap.objs.size,_,I.laid (t':=s.toks) (o:=.lst<|Mj xs lo hi) (λb ob q=>Ã _ q) (Ï _) ?_,rfl,q _<|I.hok.fresh<|Ï _⟩;exact⟨Þ (WQ xs lo hi) hz,_,0,(r.drop<|HT.sIx xs.length 0 lo).take<|HT.sIx xs.length xs.length hi - HT.sIx xs.length 0 lo,Ô _ rfl⟩
abbrev eqV:V->V->Bool
 |.non,.non=>fe
 |.bl a,.bl b=>a==b
 |.bl a,.int b=>(if a then 1 else 0)==b
 |.int a,.bl b=>a==(if b then 1 else 0)
 |.int a,.int b=>a==b
 |.str a,.str b=>a==b
 |_,_=>ff
abbrev inV(x:V)(xs:List V):Bool:=xs.any λy=>eqV y x
def MO:OpR X (ð .NotIn) λx y H Q=>∃i j,x=.str i/\y=.str j/\Q (.bl (!(!(Builtin.Str.occurrences j i 0 j.length 1).isEmpty))) H:=by k_sub;let⟨i,j,rfl,rfl,q⟩:=h;let⟨t,rfl⟩:=rx;let⟨t',rfl⟩:=ry;exact notIn_str ⟨.bl _,H,I,rfl,q⟩
def call_len_seq:fq X (.builtin "len") λxs H Q=>∃p ys,xs=[.ref p]/\(gk X.K H p ys\/gm X.K H p ys)/\Q (.int ys.length) H:=by
 k_put;let⟨p,ys,rfl,hq,q⟩:=h;let⟨u,rfl,rx⟩:=ZR r;cases rx;have hn:=Xm;rcases hq with hq|hq
 .obtain⟨ó,r',pl,hz⟩:=I.list hq;have hlen:=r'.length;exact Calls.call_len_list pl.isList (by simp![É]<;>lia) ⟨.int ys.length,H,I.tok _,⟨s.toks+1,by rw[É,hlen]⟩,q⟩
 .obtain⟨ó,r',pl,hz⟩:=I.tuple hq;have hlen:=r'.length;exact len_tuple pl (by simp![É]<;>lia) ⟨.int ys.length,H,I.tok _,⟨s.toks+1,by rw[É,hlen]⟩,q⟩
def MI:fq X (.builtin "len") λxs H Q=>∃z,xs=[.str z]/\z.length<=Ü/\Q (.int z.length) H:=by k_put;let⟨z,rfl,hz,q⟩:=h;let⟨u,rfl,t,rfl⟩:=ZR r;have hn:=Xm;exact len_str (by lia) ⟨.int z.length,H,I.tok _,⟨_,rfl⟩,q⟩
def fq.or{f:Ä}{r r':List V->Hp->VK->Prop}(h:fq X f r)(h':fq X f r'):fq X f λxs H Q=>r xs H Q\/r' xs H Q:=by
 intro Â s σ H xs us Q I rs q;rcases q with q|q
 .exact h Â s σ H xs us Q I rs q
 .exact h' Â s σ H xs us Q I rs q
def Ml:fq X (.type "list") λxs H Q=>∃p ys,xs=[.ref p]/\(gk X.K H p ys\/gm X.K H p ys)/\∀l,H l=fc->Q (.ref l) (upd H l<|.lst ys):=by
 k_put;let⟨p,ys,rfl,hq,q⟩:=h;let⟨u,rfl,rx⟩:=ZR r;cases rx;have fin:∀(ó:List Ä),gp ys ó->ys.length<=Ü->∀(h':Ć) (c':Nat),(∀b o',s.heap.get? b=fb o'->h'.get? b=fb o')->
   h'.get? s.heap.objs.size=fb {cls:=.type "list",dict:=fc,data:=.seq ó.toArray c',slots:=#[]}->EP X Â σ Q (.ref s.heap.objs.size) {s with heap:=h'}:=λó r' hz h' c' kp e =>
  ⟨.ref s.heap.objs.size,_,I.laid (t':=s.toks) kp (Ï _) (show fu X.prog X.w _ h' _ (.lst ys) from ⟨hz,ó,c',r',e⟩),rfl,q _<|I.hok.fresh<|Ï _⟩
 rcases hq with hq|hq
 .obtain⟨ó,r',pl,hz⟩:=I.list hq;have hlen:=r'.length;let⟨o,ho,hc,n,hd⟩:=pl.isList;exact call_list_seq p (.inl rfl) ho hc hd (λh' c' kp e=>fin ó r' hz h' c' kp e) (by simp![É]<;>lia)
 .obtain⟨ó,r',pl,hz⟩:=I.tuple hq;have hlen:=r'.length;let⟨o,ho,hc,n,hd⟩:=pl;exact call_list_seq p (.inr rfl) ho hc hd (λh' c' kp e=>fin ó r' hz h' c' kp e) (by simp![É]<;>lia)
def Ks:fq X (.type "tuple") λxs H Q=>∃p ys,xs=[.ref p]/\((gk X.K H p ys/\∀l,H l=fc->Q (.ref l) (upd H l<|.tup ys))\/(gm X.K H p ys/\Q (.ref p) H)):=by
 k_put;let⟨p,ys,rfl,h⟩:=h;let⟨u,rfl,rx⟩:=ZR r;cases rx;rcases h with⟨hq,q⟩|⟨hq,q⟩
 .obtain⟨ó,r',pl,hz⟩:=I.list hq;have hlen:=r'.length;refine call_tuple_list pl.isList (λh' kp=>?_) (by simp![É]<;>lia);have I1:Inv X Â σ H {s with heap:=h'}:=I.kept (t':=s.toks) kp;have I2:Inv X Â σ (upd H h'.objs.size<|.tup ys) {s with heap:=h'.push {cls:=.type "tuple",data:=.seq ó.toArray}} :=
   I1.laid (t':=s.toks) (λb o e=>Ã _ e) (Ï _) (show fu X.prog X.w _ _ _ (.tup ys) from ⟨hz,ó,r',IsTup.new _ _⟩)
  exact⟨.ref h'.objs.size,_,I2,rfl,q _<|I1.hok.fresh<|Ï _⟩
 .obtain⟨ó,r',pl,hz⟩:=I.tuple hq;exact call_tuple_same pl ⟨.ref p,H,I,rfl,q⟩
abbrev tyV(K:Frag)(T:String)(x:V)(H:Hp):Prop:=match x with
 |.str _=>T = "str"
 |.int _=>T = "int"
 |.ref p=>(T = "list"/\∃xs,gk K H p xs)\/(T = "tuple"/\∃o,K.lookup p=fb o/\o.cls=.type "tuple"/\o.dict=fc)\/
   (T = "dict"/\((∃kvs,H p=fb (.dK kvs))\/∃kvs,H p=fb (.dT kvs)))\/(T = "set"/\∃S n,H p=fb (.set S n))
 |_=>False
def EB{T:String}{x:V}{v:Ä}(I:Inv X Â σ H s)(r:RelV x v)(ty:tyV X.K T x H) :
  s.TypeIs v T/\∀a,v=.ref a->∃ob,s.heap.get? a=fb ob/\ob.dict=fc:=by
 cases x with
 |str z =>let⟨t,rfl⟩:=r;cases (show T = "str" from ty);exact⟨typeIs_str s z t,λ_ e=>nomatch e⟩
 |int i =>let⟨t,rfl⟩:=r;cases (show T = "int" from ty);exact⟨typeIs_int s i t,λ_ e=>nomatch e⟩
 |ref p =>
  cases r;rcases ty with⟨rfl,xs,hq⟩|⟨rfl,o,hk,hc,hd⟩|⟨rfl,hk⟩|⟨rfl,S,n,hk⟩
  .obtain⟨ó,_,pl,_⟩:=I.list hq;refine⟨pl.isList.typeIs,λa e=>?_⟩;cases e;let⟨o,n,e,c,hd,_⟩:=pl;exact⟨o,e,hd⟩
  .refine⟨⟨o,I.kIn p o hk,hc⟩,λa e=>?_⟩;cases e;exact⟨o,I.kIn _ o hk,hd⟩
  .have z:∃o,s.heap.get? p=fb o/\o.ExactDict:=by
    rcases hk with⟨kvs,hk⟩|⟨kvs,hk⟩
    .obtain⟨_,_,_,_,o,_,_,e,ex,_⟩:=I.hok p _ hk;exact⟨o,e,ex⟩
    .obtain⟨_,_,_,_,o,_,_,e,ex,_⟩:=I.hok p _ hk;exact⟨o,e,ex⟩
   let⟨o,e,ex⟩:=z;refine⟨⟨o,e,ex.1⟩,λa e2=>?_⟩;cases e2;exact⟨o,e,ex.2.1⟩
  .obtain⟨o,_,_,_,e,ex,_⟩:=I.hok p _ hk;refine⟨⟨o,e,ex.1⟩,λa e2=>?_⟩;cases e2;exact⟨o,e,ex.2.1⟩
 |_=>exact Ń ty
abbrev Sk(K:Frag)(T:String)(r:V->List V->Hp->VK->Prop)(to:TE):TE:=λσ H Q=>to σ H λx H1=>tyV K T x H1/\r x [] H1 Q
abbrev tBM(K:Frag)(T:String)(r:V->List V->Hp->VK->Prop)(to:TE)(t:TA):TE:=λσ H Q=>to σ H λx H1=>tyV K T x H1/\t σ H1 λxs H2=>r x xs H2 Q
variable {o e:Expr}{es:List Expr}{to:TE}{t:TA}{name:Str}{ń Ō:Pos}{T id:String}{r:V->List V->Hp->VK->Prop}
def LY(pa:cq T)(slot:Slot T name id)(hty:typeOf (.builtin id)=pure (.type "method_descriptor"))(hm:MtR X id r)(ho:PE X o to)
  (ϕ:Ė o name X.env (eval o X.env)=eval o X.env:=by rfl) (ϖ:(ń.endLine==Ō.line)=fe:=by rfl):PE X (.Call (.Attribute o name ń) [] [] Ō)<|Sk X.K T r to:=by
 k_upd;refine dQ ϕ ϖ<|thn (ho Â s σ H _ I h) λv s1 ⟨x,H1,I1,r1,ty,q1⟩=>?_;let⟨h1,h2⟩:=EB I1 r1 ty;exact⟨T,id,pa,slot,hty,h1,h2,Calls.callWith_builtin rfl<|PySem.evalArgs_none<|hm Â s1 σ H1 x [] v [] Q I1 r1 .nil q1⟩
def QR(pa:cq T)(slot:Slot T name id)(hty:typeOf (.builtin id)=pure (.type "method_descriptor"))(hm:MtR X id r)(ho:PE X o to)(ha:PA X (e::es) t)
  (ϕ:Ė o name X.env (eval o X.env)=eval o X.env:=by rfl)
  (aA:((ě Ō<|Ú (e::es) X.env).all (λx=>!x.1)&&(Ź Ō<|ň [] X.env).all (λx=>x.1.isSome)
    && gM ((e::es).length+([]:List aZ).length+(if([]:List aZ).isEmpty then 0 else 1)<30))=fe:=by rfl)
  (ϖ:(ń.endLine==Ō.line)=fe:=by rfl) (hs:Ú (e::es) X.env=(ff,eval e X.env)::Ú es X.env:=by rfl) (cK:(ě Ō<|Ú es X.env).any (·.1)=ff:=by rfl) :
  PE X (.Call (.Attribute o name ń) (e::es) [] Ō) (tBM X.K T r to t):=by
 k_upd;refine wpAny_Call_method_late ϕ aA ϖ rfl<|thn (ho Â s σ H _ I h) λv s1 ⟨x,H1,I1,r1,ty,q1⟩=>?_;let⟨h1,h2⟩:=EB I1 r1 ty;refine⟨T,id,pa,slot,hty,h1,h2,?_⟩;have hA:=ha Ō Â s1 σ H1 _ I1 q1;rw[hs]at hA ⊢;refine Calls.callWith_builtin (by show(ff||(ě Ō<|Ú es X.env).any (·.1))=ff;rw[cK]<;>rfl)<|Calls.evalArgs_plain ?_;exact thn hA λus s2 ⟨vs,H2,I2,r2,q2⟩=>hm Â s2 σ H2 x vs v us Q I2 r1 r2 q2
/- xs.append(e),list.index on a module's tuple .. are MtR facts of 06m -/
end
abbrev MtM(X:Cx)(id:String)(r:V->List V->Hp->VK->Prop):Prop :=
 ∀(Â:List<|È×Obj) (s:Æ) (σ:St) (H:Hp) (x:V) (xs:List V) (v:Ä) (us:List Ä) (Q:VK),Inv X Â σ H s->RelV x v->gp xs us->r x xs H Q->
  wpAny (à X.prog X.w) X.A (call (.builtin id)<|v::us) (EP X Â σ Q) X.xe s
variable {x:V} {us:List Ä}
def gp.one(r:gp [x] us):∃u,us=[u]/\RelV x u:=ZR r
def gp.two{y:V}(r:gp [x,y] us):∃u v,us=[u,v]/\RelV x u/\RelV y v:=UU r
def gp.zero(r:gp [] us):us=[]:=by cases r;rfl
def gp.dropLast{xs:List V}(h:gp xs us):gp xs.dropLast us.dropLast:=by
 induction h with
 |nil=>exact .nil
 |cons r t ih =>
  cases t with
  |nil=>exact .nil
  |cons q t'=>exact .cons r ih
def gp.eraseIdx:∀{xs:List V}{us:List Ä}(i:Nat),gp xs us->gp (xs.eraseIdx i) (us.eraseIdx i)
 |_,_,_,.nil=>.nil
 |_,_,0,.cons _ t=>t
 |_,_,i+1,.cons r t=>.cons r<|gp.eraseIdx i t
def gp.rep{xs:List V}{us:List Ä}(h:gp xs us):∀k:Nat,gp (Í k xs).flatten (Í k us).flatten
 |0=>.nil
 |k+1=>by rw[ï,ï,Ċ,Ċ];exact gp.append h<|gp.rep h k
variable {α:Type}
def OZ(l:List α):l.eraseIdx (l.length - 1)=l.dropLast:=by
 induction l with
 |nil=>rfl
 |cons a r ih =>
  cases r with
  |nil=>rfl
  |cons b r =>
   have e:(a::b::r).length - 1=((b::r).length - 1)+1:=by have h1:(a::b::r).length=r.length+2:=rfl;have h2:(b::r).length=r.length+1:=rfl;lia
   rw[e,List.eraseIdx_cons_succ,ih]
   all_goals rfl
def KJ{α:Type}:∀(l:List α) (i:Nat),(l.eraseIdx i).length<=l.length
 |[],_=>Ï _
 |_::_,0=>Ŧ _
 |_::r,i+1=>Ω<|KJ r i
def K7(ó:List Ä):∀(k:Nat) (Ī:List Ä),
  dR (λx1 x2=>x1++x2) Ī.toArray (Í k ó.toArray)=(Ī++(Í k ó).flatten).toArray
 |0,Ī=>by simp
 |k+1,Ī=>by
  have e:Ī.toArray++ó.toArray=(Ī++ó).toArray:=by simp
  have e2:(Ī++ó)++(Í k ó).flatten=Ī++(Í (k+1) ó).flatten:=by rw[ï,Ċ,û]
  rw[<-e2,<-K7 ó k (Ī++ó),<-e,ï,ē]
section
variable {X:Cx}{Â:List (È×Obj)}{σ:St}{H:Hp}{s:Æ}{l b:È}{xs ys zs:List V}
variable {ó:List Ä} {n:Nat} {t':Nat}
def Inv.lset{its':List Ä}{f:Array Ä->Array Ä}(I:Inv X Â σ H s)(hH:H l=fb (.lst xs))
  (e:s.heap.get? l=fb {cls:=.type "list",data:=.seq ó.toArray n}) (hf:f ó.toArray=its'.toArray) (hv:gp ys its') (hz:ys.length<=Ü) :
  Inv X Â σ (upd H l<|.lst ys) {s with heap:=s.heap.update l<|ψ f,toks:=t'}:=by
 have q:=PySem.IsL.update e f;rw[hf]at q;refine I.write (x:=l) (e:=l) (by rw[hH];exact trivial) (.inl rfl) (λb' u hb hu=>(þ s.heap (ψ f)<|Ne.symm hb).trans hu) ⟨_,q⟩ ?_;exact⟨hz,its',_,hv,q⟩
def Inv.lnew(I:Inv X Â σ H s)(hv:gp ys ó)(hz:ys.length<=Ü) :
  Inv X Â σ (upd H s.heap.objs.size<|.lst ys) {s with heap:=s.heap.push {cls:=.type "list",data:=.seq ó.toArray},toks:=t'} :=
 I.laid (λ_ _ q=>Ã _ q) (Ï _) ⟨hz,ó,0,hv,Ô _ rfl⟩
def Inv.fresh(I:Inv X Â σ H s):H s.heap.objs.size=fc:=I.hok.fresh (Ï _)
def Inv.lstM(I:Inv X Â σ H s)(hH:H l=fb (.lst xs)):xs.length<=Ü/\∃(ó:List Ä) (n:Nat),gp xs ó/\xs.length=ó.length/\s.heap.get? l=fb {cls:=.type "list",data:=.seq ó.toArray n}:=by let⟨z,ó,n,r,e⟩:=I.hok l _ hH;exact⟨z,ó,n,r,r.length,e⟩
def NT(h:n<=Ü):Builtin.List.listTooLong n=ff:=by unfold Builtin.List.listTooLong;exact gH (by lia)
end
section
variable {X:Cx}
abbrev UD:V->List V->Hp->VK->Prop:=λx vs H Q=>∃l xs y,x=.ref l/\vs=[y]/\H l=fb (.lst xs)/\xs.length<Ü/\Q .non (upd H l<|.lst<|xs++[y])
def Au:MtM X "list.append" UD:=by intro Â s σ H x vs v us Q I rx rv h;let⟨l,xs,y,rfl,rfl,hH,hz,q⟩:=h;cases rx;let⟨u,rfl,ru⟩:=rv.one;let⟨z,ó,n,r,hl,e⟩:=I.lstM hH;refine Ξ F.slot_list_append ⟨_,e,rfl⟩ F.entry_list_append (F.args_list_append_2 _ _) (PySem.list_append l ó.toArray n u<|by rw[É];lia) ⟨e,?_⟩;refine⟨.non,_,I.lset (its':=ó++[u]) hH e (by simp) (r.append<|.cons ru .nil) ?_,rfl,q⟩;rw[Å,Ă];lia
abbrev U2:V->List V->Hp->VK->Prop:=λx vs H Q=>∃l b xs zs,x=.ref l/\vs=[.ref b]/\H l=fb (.lst xs)/\H b=fb (.lst zs)/\xs.length+zs.length<=Ü/\Q .non (upd H l<|.lst<|xs++zs)
def Aq:MtM X "list.extend" U2:=by
 intro Â s σ H x vs v us Q I rx rv h;let⟨l,b,xs,zs,rfl,rfl,hH,hB,hz,q⟩:=h;cases rx;let⟨u,rfl,ru⟩:=rv.one;cases ru;let⟨z,ó,n,r,hl,e⟩:=I.lstM hH;let⟨z2,Ż,n2,r2,hl2,e2⟩:=I.lstM hB;have hsz:ó.toArray.size+Ż.toArray.size<=Ü:=by rw[É,É];lia
 have hlong:¬ (!ó.toArray.isEmpty&&Builtin.List.listTooLong (ó.toArray.size+Ż.toArray.size))=fe:=by rw[NT hsz,Bool.and_false];exact ý
 refine Ξ F.slot_list_extend ⟨_,e,rfl⟩ F.entry_list_extend (F.args_list_extend_2 _ _)
  (AutoSeq1.list_extend_list_list_0 l ó.toArray n b Ż.toArray n2 hlong (by rw[É];lia)<|by lia) ⟨e,e2,?_⟩
 refine⟨.non,_,I.lset (its':=ó++Ż) hH e (by simp) (r.append r2) ?_,rfl,q⟩;rw[Å];lia
abbrev PQ:V->List V->Hp->VK->Prop:=λx vs H Q=>∃l xs y,x=.ref l/\vs=[]/\H l=fb (.lst xs)/\xs[xs.length - 1]?=fb y/\Q y (upd H l<|.lst xs.dropLast)
def HV:MtM X "list.pop" PQ:=by
 intro Â s σ H x vs v us Q I rx rv h;let⟨l,xs,y,rfl,rfl,hH,hy,q⟩:=h;cases rx;have hus:=rv.zero;subst hus;let⟨z,ó,n,r,hl,e⟩:=I.lstM hH;let⟨u,hu,ru⟩:=r.get hy;have hy':ó.toArray[ó.toArray.size - 1]?=fb u:=by show ó.toArray[ó.length - 1]?=fb u;rw[<-Ŏ,<-hl];exact hu
 refine Ξ F.slot_list_pop ⟨_,e,rfl⟩ F.entry_list_pop (F.args_list_pop_1 _) (MeetsSeq.list_pop_last l ó.toArray n u hy'<|by rw[É];lia) ⟨e,?_⟩;refine⟨y,_,I.lset (its':=ó.dropLast) hH e ?_ r.dropLast ?_,ru,q⟩
 .show ó.toArray.eraseIdxIfInBounds (ó.toArray.size - 1)=ó.dropLast.toArray;rw[É,au,OZ]
 .rw[List.length_dropLast];lia
abbrev BC:V->List V->Hp->VK->Prop:=λx vs H Q=>∃l xs i k y,x=.ref l/\vs=[.int i]/\H l=fb (.lst xs)/\-(2 ^ 63)<=i/\i<2 ^ 63/\seqIndex? i xs.length=fb k/\xs[k]?=fb y/\Q y (upd H l<|.lst<|xs.eraseIdx k)
def C7:MtM X "list.pop" BC:=by
 intro Â s σ H x vs v us Q I rx rv h;let⟨l,xs,i,k,y,rfl,rfl,hH,h1,h2,hk,hy,q⟩:=h;cases rx;let⟨u,rfl,ru⟩:=rv.one;let⟨t,rfl⟩:=ru;let⟨z,ó,n,r,hl,e⟩:=I.lstM hH;let⟨w,hw,bd⟩:=r.get hy;refine Ξ F.slot_list_pop ⟨_,e,rfl⟩ F.entry_list_pop (F.args_list_pop_2 _ _)
  (MeetsSeq.list_pop_at l ó.toArray n i t k w (fitsIndex_both h1 h2) (by rw[É,<-hl];exact hk) (by rw[<-Ŏ];exact hw)<|by rw[É];lia) ⟨e,?_⟩
 refine⟨y,_,I.lset (its':=ó.eraseIdx k) hH e ?_ (r.eraseIdx k) ?_,bd,q⟩
 .show ó.toArray.eraseIdxIfInBounds k=(ó.eraseIdx k).toArray;rw[au]
 .have:=KJ xs k;lia
abbrev Qp:R2:=λx y H Q=>∃l b xs zs,x=.ref l/\y=.ref b/\H l=fb (.lst xs)/\H b=fb (.lst zs)/\xs.length+zs.length<=Ü/\∀p,H p=fc->Q (.ref p) (upd H p<|.lst<|xs++zs)
def Iw:OpR X (ņ .Add) Qp:=by
 k_sub;let⟨l,b,xs,zs,rfl,rfl,hH,hB,hz,q⟩:=h;cases rx;cases ry;let⟨z,ó,n,r,hl,e⟩:=I.lstM hH;let⟨z2,Ż,n2,r2,hl2,e2⟩:=I.lstM hB;refine PySem.P.add_list e e2 ?_ (by rw[É,É];lia);have ea:ó.toArray++Ż.toArray=(ó++Ż).toArray:=by simp
 rw[ea];exact⟨.ref _,_,I.lnew (t':=s.toks) (r.append r2) (by rw[Å];lia),rfl,q _ I.fresh⟩
abbrev RB:R2:=λx y H Q=>∃l k xs,x=.ref l/\y=.int k/\H l=fb (.lst xs)/\-(2 ^ 63)<=k/\k<2 ^ 63/\xs.length*k.toNat<=Ü/\
 ∀p,H p=fc->Q (.ref p) (upd H p<|.lst (Í k.toNat xs).flatten)
def Fk(xs:List α)(k:Nat):(Í k xs).flatten.length=k*xs.length:=by
 induction k with
 |zero=>simp
 |succ k ih=>rw[ï,Ċ,Å,ih,Nat.succ_mul,Nat.add_comm]
def op_rep:OpR X (ņ .Mult) RB:=by
 k_sub;let⟨l,k,xs,rfl,rfl,hH,h1,h2,hz,q⟩:=h;cases rx;let⟨t,rfl⟩:=ry;let⟨z,ó,n,r,hl,e⟩:=I.lstM hH;have hlen:ó.toArray.size*k.toNat<=Ü:=by rw[É,<-hl];exact hz
 have hcap:¬ ó.toArray.size*k.toNat > (2 ^ 63 - 1) / 8:=by
  have:(Ü:Nat)<=(2 ^ 63 - 1) / 8:=by decide
  lia
 have hfit:¬ (!Builtin.List.listFitsIndex k)=fe:=by rw[fitsIndex_both h1 h2];exact ý
 have hlong:¬ Builtin.List.listTooLong (ó.toArray.size*k.toNat)=fe:=by rw[NT hlen];exact ý
 have hnew:dR (λx1 x2=>x1++x2) #[] (Í (if ó.toArray.isEmpty=fe then 0 else k.toNat) ó.toArray)=(Í k.toNat ó).flatten.toArray:=by
  have f0:∀m:Nat,dR (λx1 x2=>x1++x2) #[] (Í m ó.toArray)=(Í m ó).flatten.toArray:=λm=>by have:=K7 ó m [];rw[aT]at this;exact this
  rw[f0];cases ó with
  |nil=>simp
  |cons a r'=>rw[gG<|by simp]
 refine wpAny_binaryOp_repeat_ref (T:="list") (U:="int") (by decide) ⟨_,e,rfl⟩ (λs'=>typeIs_int s' k t) noFill_list_mul F.fills_int_mul F.slot_int_rmul repeat_list F.slot_int_index.lookup
  (Ξ F.slot_int_rmul (typeIs_int s k t) F.entry_int_rmul (F.args_int_rmul_2 _ _) (int___rmul___int_list k t l ó.toArray n)
    ⟨e,rfl,⟨_,e,rfl⟩,Ξ F.slot_list_mul ⟨_,e,rfl⟩ F.entry_list_mul (F.args_list_mul_2 _ _) (AutoListH.list___mul___list_int_3 l ó.toArray n k t hfit hcap hlong) ⟨e,?_⟩⟩)
 rw[hnew];exact⟨.ref _,_,I.lnew (t':=s.toks) (r.rep k.toNat) (by rw[Fk,av];exact hz),rfl,q _ I.fresh⟩
end
end L2
namespace Att
open PySem PySem.W PySem.Calls PyProof.Rows
variable {P:Params} {h:Ć}
def WV:∀(ns:List Int) (vs:List Ä),WellAll P h vs (ns.map WData.int)->Ġ vs ns:=by
 intro ns;induction ns with
 |nil =>intro vs w;rw[ū]at w;cases w;exact .nil
 |cons n ns ih =>
  intro vs w;rw[Ó]at w;cases w with
  |cons a b =>cases a;exact .cons _ _<|ih _ b
variable {l:OpenLaw} {n:Nat}
def Bx(hn:l.most=fb n){args:List WData}{vals:List Ä}
  (hpre:l.row.toRowW.claim.pre args=fe) (hwl:WellAll P h vals args) :
  ∃a vs ns,vals=[Value.ref a]/\args=[WData.list<|ns.map WData.int]/\h.get? a=fb {cls:=.type "list",data:=.seq vs.toArray}/\Ġ vs ns/\ns.length<=n:=by
 have hsh:WShape.hasAll [] args [.list .int]=fe:=(pre_splitW hpre).1;have hc:l.pre.holds [] {args:=args}=fe:=(pre_splitW hpre).2;let⟨d,r,rfl,h1,h2⟩:=hasAllW_cons hsh;obtain rfl:=hasAllW_nil h2;let⟨xs,rfl,h3⟩:=hasW_list h1;let⟨ns,rfl⟩:=items_int h3;have hlen:ns.length<=n:=by
  unfold OpenLaw.pre at hc;have h4:(WTm.not<|.lt (.lit<|.int (n:Int))<|.len<|.arg 0).holds [] {args:=[.list<|ns.map .int]}=fe:=by have h4:=(holds_andW hc).1;rw[hn]at h4;exact h4
  have h5:=condW_of h4<|w_not<|w_lt w_lit<|w_len_list<|w_arg rfl;rw[À]at h5;refine Nat.le_of_not_lt λq=>?_;have q':(n:Int)<((ns.length:Nat):Int):=by lia
  first
   |(rw[gJ q']at h5;exact gL h5<|by decide)
   |(simp at h5;lia)
 cases hwl with
 |cons w1 w2 =>
  cases w2;cases w1 with
  |list ho hall=>exact⟨_,_,ns,rfl,rfl,ho,WV ns _ hall,hlen⟩
def Bq(l:OpenLaw)(args:List WData):l.row.toRowW.claim.post args (.bool fe) args=fe :=
 postW_of (r:=l.row.toRowW) (X:=(fe==fe))
  (show WShape.has [] (.bool fe) .bool=fe by first|rfl|decide|simp[WShape.has,WShape.arms,WShape.armsAll])
  (show(WTm.eq .res<|.lit<|.bool fe).value [] {args:=args,res:=fb<|.bool fe,after:=args}=fb (.bool<|fe==fe) from w_eq_bool (w_res rfl) w_lit) rfl
def attach_call{q:è}{loose:List Str}{XP:(Str->Option Ä)->Ć->Prop}{YP:ā->Ć->Prop}{d:DefRec}
  (hn:l.most=fb n) (hdf:d.params.defaults=[])
  (call:∀(w:ā) (s₀ ė:Æ) (mg mb:Str->Option Ä) (fa:È) (o:Obj) (pm cd doc:Ä) (a:È) (vs:List Ä) (ns:List Int),
    Ground q loose [] XP w s₀ mg mb ė.heap->YP w ė.heap->
    ė.heap.get? fa=fb o->o.data=.func (docDef d.name d.params d.body d.scope pm cd doc)->ė.heap.CodeRec cd d.name->mg d.name=fb (.ref fa)->
    ė.heap.get? a=fb {cls:=.type "list",data:=.seq vs.toArray}->Ġ vs ns->ns.length<=n->ė.gens=#[]->
    codeAny (à l.prog w) ak (.call (.ref fa) ⟨[.ref a],[]⟩) (λr s'=>r=.ok (.ret<|.bool fe)/\OldK ė.heap s'.heap/\s'.os=ė.os/\ό s'.gens) ė) :
  WalkO q loose XP YP l.row.toRowW d [] (λf vs=>PySem.call f vs):=by
 intro w s₀ ė mg mb G Y fa o pm cd doc dV kV ho hd bj hD hmg hg args vals as hpre hlay hrd hwl hlo;obtain rfl:dV=.none:=Dflts.none hD hdf;obtain rfl:kV=.none:=Dflts.noKw hD;let⟨a,vs,ns,rfl,rfl,bF,hints,hlen⟩:=Bx hn hpre hwl;refine enter_call<|ϣ (call w s₀ ė mg mb fa o pm cd doc a vs ns G Y ho (fd_plain hd) bj hmg bF hints hlen hg) λr s' hq=>?_;let⟨rfl,h2,h3,h4⟩:=hq;exact⟨.inl ⟨.bool fe,.bool fe,[],rfl,λ_=>rfl,.bool fe,Bq l _,λ_=>⟨List.Pairwise.nil,λ_ hm=>(nomatch hm)⟩⟩,h2,h3,h4⟩
end Att
namespace L2
open PySem PySem.Spec PyProof.Rows
def Wz:∀{vs:List Ä}{ns:List Int},Ġ vs ns->gp (ns.map V.int) vs
 |_,_,.nil=>.nil
 |_,_,.cons n t h=>.cons ⟨t,rfl⟩<|Wz h
abbrev LZ(H:Hp):Prop:=∀b,H b=fc\/∃o xs,H b=fb (.frz o<|.lst xs)
def CW{P:è}{w:ā}{K:Frag}{mg mb:Str->Option Ä}{CX:CXT}{k:Nat}{fa a:È}{fd:Ň}{x:Str}{sp:Sp}{ė:Æ}{vs:List Ä}{ns:List Int}
  (KX:K.In ė.heap) (hns:ė.heap.Ns ĉ mg) (hb:ė.heap.Ns builtinsNs mb) (hbb:∀x:Str,x≠"__name__"->mb x=š x) (hlim:ė.heap.NoLimit) (hg:ė.gens=#[])
  (ha:ė.heap.get? a=fb {cls:=.type "list",data:=.seq vs.toArray}) (hi:Ġ vs ns) (hl:ns.length<=Ü) (hr:fN k ak)
  (F:∀base:Ć,K.In base->base.Ns ĉ mg->fO P w K mg base CX k fa fd [x] sp) (hbind:∀(s:Æ) (u:Ä),BindsTo s fd ⟨[u],[]⟩ [(x,u)])
  (hsp:∀H:Hp,LZ H->gk K H a (ns.map V.int)->sp [.ref a] H (λv _=>v=.bl fe) λ_ _ _=>False)
  (hCX:∀H e s',CX [] H ė (λ_ _ _=>False) e s'->False) :
  codeAny (à P w) ak (.call (.ref fa) ⟨[.ref a],[]⟩) (λr s'=>r=.ok (.ret<|.bool fe)/\OldK ė.heap s'.heap/\s'.os=ė.os/\ό s'.gens) ė:=by
 have rv:=Wz hi;have fZ:=hi.length;have core:∀H:Hp,LZ H->gk K H a (ns.map V.int)->HOk P w H ė.heap->(∀b,H b≠fc->b=a)->(H a≠fc->K.lookup a=fc)->
   codeAny (à P w) ak (.call (.ref fa) ⟨[.ref a],[]⟩) (λr s'=>r=.ok (.ret<|.bool fe)/\OldK ė.heap s'.heap/\s'.os=ė.os/\ό s'.gens) ė:=by
  intro H hO hS hok hA hK;have db:∀{b:È}{o:Obj},ė.heap.get? b=fb o->H b=fc->(MC ė.heap H).get? b=fb o:=λe n=>DG e n;have noA:∀{b:È}{o:Obj}{es:Array DictEntry}{ep:Nat},ė.heap.get? b=fb o->o.data=.dict es ep->H b=fc:=λ{b o es ep} e d=>by
   cases q:H b with
   |none=>rfl
   |some u =>have e':b=a:=hA b (by rw[q];simp);subst e';rw[ha]at e;cases e;have d':Data.seq vs.toArray _=Data.dict es ep:=d;cases d'
  have nsK:∀{b:È}{m:Str->Option Ä},ė.heap.Ns b m->(MC ė.heap H).Ns b m:=λ{b m} ⟨o,es,ep,e,d,r⟩=>⟨o,es,ep,db e<|noA e d,d,r⟩
  have hKb:K.In<|MC ė.heap H:=λb o e=>db (KX b o e) (by
    cases q:H b with
    |none=>rfl
    |some u =>
      have e':b=a:=hA b (by rw[q];simp)
      subst e'
      rw[hK<|by rw[q];simp]at e;cases e)
  have hM:Mod K mg<|MC ė.heap H:=⟨hKb,nsK hns,⟨mb,nsK hb,hbb⟩,let ⟨mc,h1,h2⟩:=hlim;⟨mc,nsK h1,h2⟩⟩
  have e0:Env0 P w K mg (MC ė.heap H) ak [] ė H:=⟨rfl,hM,λb o e=>ES e,Nat.le_of_eq<|A5 _ _,trivial,λb hb=>gL (show b∈([]:List È) from hb) (by simp),hok,.of_eq hg⟩
  refine ϣ ((F _ hKb<|nsK hns).run ak [] ė H ⟨[.ref a],[]⟩ [.ref a] [.ref a] _ _ hr e0 (hbind ė<|.ref a) (.cons rfl .nil)<|hsp H hO hS) λr s' h=>?_;cases r with
  |error e=>exact(hCX H e s' h).elim
  |ok fl =>
   cases fl with
   |next=>exact Ń h
   |brk=>exact Ń h
   |cont=>exact Ń h
   |ret u =>
    let⟨v,H',os,bare,un,hok',r',q⟩:=h;have q':v=.bl fe:=q;subst q';obtain rfl:u=Value.bool fe:=r';refine⟨rfl,OldK.of_keep λb o e=>?_,os,bare⟩;cases q:H b with
    |none=>exact un.keep b o e q (by intro z;exact gL (show b∈([]:List È) from z)<|by simp) (by simp)
    |some u =>
     rcases hO b with z|⟨ob,xs,z⟩
     .rw[q]at z;cases z
     .have z2:=un.frzs b ob _ z;let⟨e1,_⟩:=hok b _ z;let⟨e2,_⟩:=hok' b _ z2;rw[e]at e1;cases e1;exact e2
 cases hk:K.lookup a with
 |some o =>have e:=KX a o hk;rw[ha]at e;cases e;refine core (λ_=>fc) (λ_=>.inl rfl) (.inr ⟨_,vs.toArray,_,hk,rfl,rfl,rfl,by rw[É,fZ];exact hl,⇑rv⟩) (λb u z=>by have z':(fc:Option HO)=fb u:=z;cases z') (λb z=>gL rfl z) λz=>gL rfl z
 |none =>
  refine core (λb=>if b=a then fb (.frz {cls:=.type "list",data:=.seq vs.toArray}<|.lst<|ns.map V.int)else fc) (λb=>?_) (.inl<|.inr ⟨{cls:=.type "list",data:=.seq vs.toArray},gF rfl⟩) (λb u z=>?_) (λb z=>?_) λ_=>hk
  .by_cases hb:b=a
   .exact .inr ⟨_,_,gF hb⟩
   .exact .inl<|gG hb
  .by_cases hb:b=a
   .have z':=(gF hb).symm.trans z;cases z';subst hb;exact⟨ha,by rw[À];exact hl,vs,_,rv,ha⟩
   .have z':=(gG hb).symm.trans z;cases z'
  .by_cases hb:b=a
   .exact hb
   .exact gL (gG hb) z
abbrev YK(s:Ł):Arguments:=match s with
 |.FunctionDef _ a _ _ _ _ _ _ _ _=>a
 |_=>{posonlyargs:=[],args:=[],vararg:=fc,kwonlyargs:=[],kw_defaults:=[],kwarg:=fc,defaults:=[]}
abbrev ZV(s:Ł):List Ł:=match s with
 |.FunctionDef _ _ b _ _ _ _ _ _ _=>b
 |_=>[]
abbrev Zt(s:Ł):ſ:=match s with
 |.FunctionDef _ _ _ _ _ _ sc _ _ _=>sc
 |_=>{kind:=.function,names:=[],isGenerator:=ff,isCoroutine:=ff}
structure Fun(K:Frag)(x qual:Str)(st:Ł)(f:È)(fd:Ň):Prop where
 ex:∃(oc:Ä) (od:Option È) (kV doc pm:Ä) (an:Option È) (ϧ ct:Ä) (osl:Array<|Option Ä),
  fd=PySem.W.fnOf x qual (YK st) (ZV st) (Zt st) .none kV doc pm an ϧ ct/\K.lookup f=fb ⟨oc,od,.func fd,osl⟩/\PySem.W.codeIn K ϧ qual=fe
 kp:PySem.W.keepIn K (.ref f)=fe
section
variable {P:è}{w:ā}{K:Frag}{mg:Str->Option Ä}{base:Ć}
variable {x:Str} {qual:Str} {st:Ł} {f:È}
def Fun.binds{fd:Ň}{ps:List Str}(F:Fun K x qual st f fd)
  (h:∀(kV doc pm:Ä) (an:Option È) (ϧ ct:Ä) (us:List Ä),us.length=ps.length->bindArgs (PySem.W.fnOf x qual (YK st) (ZV st) (Zt st) .none kV doc pm an ϧ ct) ⟨us,[]⟩=pure (ps.zip us)):Binds K fd ps []:=by
 let⟨oc,od,kV,doc,pm,an,ϧ,ct,osl,rfl,lk,bj⟩:=F.ex;exact .all<|h kV doc pm an ϧ ct
def B9{oc:Ä}{od an:Option È}{osl:Array (Option Ä)}{kV doc pm ϧ ct:Ä}(l:K.lookup f=fb ⟨oc,od,.func<|PySem.W.fnOf x qual (YK st) (ZV st) (Zt st) .none kV doc pm an ϧ ct,osl⟩)
  (c:PySem.W.codeIn K ϧ qual=fe) (k:PySem.W.keepIn K (.ref f)=fe):Fun K x qual st f<|PySem.W.fnOf x qual (YK st) (ZV st) (Zt st) .none kV doc pm an ϧ ct:=⟨⟨oc,od,kV,doc,pm,an,ϧ,ct,osl,rfl,l,c⟩,k⟩
end
abbrev Same(H H':Hp):Prop:=∀b o,H b=fb o->H' b=fb o
def Same.refl(H:Hp):Same H H:=λ_ _ h=>h
def Same.trans{H H1 H2:Hp}(a:Same H H1)(b:Same H1 H2):Same H H2:=λc o h=>b c o (a c o h)
end L2
set_option maxHeartbeats 4000000
namespace L2
open PySem PySem.Spec PyProof.Rows
variable {w:ā}
def HOk.track{P:è}{H:Hp}{h:Ć}{a:È}{o:HO}(x:HOk P w H h)(hn:H a=fc)(new:fu P w (upd H a o) h a o):HOk P w (upd H a o) h:=λb u e=>by
 by_cases hb:b=a
 .subst hb;rw[fh]at e;cases e;exact new
 .rw[fg hb]at e;exact(x b u e).stay (λc v _ q=>q) (λc q=>by rw[fg<|Zn q hn];exact q) λc xs q=>by rw[fg<|Zn q hn];exact q
abbrev Zu(X:Cx)(scope:ſ)(N':List Str)(cl:List<|Str×È)(C:È)(s:Æ)(H:Hp)(ex:List È):Cx where
 prog:=X.prog
 w:=X.w
 K:=X.K
 mg:=X.mg
 base:=X.base
 A:=X.A
 N:=N'
 s₀:=s
 H₀:=H
 env:=compEnvC scope cl C X.env
 outer:=X.stack
 stack:=X.stack
 ex:=ex
 fn:=λ_=>ff
 calm:=X.calm
 pn:=[]
 xe:=λ_ _=>False
abbrev Z9(X:Cx)(x:List Str)(ù:List Nat):List Str:=x++ù.map λj=>X.N.getD j Str.empty
abbrev OY(σ:St)(ù:List Nat):St:=ù.map λj=>(σ[j]?).getD fc
structure BlkOk(X:Cx)(scope:ſ)(x:List Str)(ù:List Nat):Prop where
 kind:scope.kind=.function
 nocell:∀y∈scope.names,y.2≠.cell
 locs:∀y∈scope.names,y.2=.local->scope.names.lookup y.1=fb .local
 own:∀y∈x,scope.names.lookup y=fb .local
 frees:∀y∈scope.names,y.2=.free->X.env.kindOf y.1=fb .cell
 cap:∀j∈ù,(X.N[j]?).isSome=fe/\X.env.kindOf (X.N.getD j Str.empty)=fb .cell/\scope.names.lookup (X.N.getD j Str.empty)=fb .free
 nd:(Z9 X x ù).Nodup
def YH{env:Env}:∀(names:List<|Str×ϙ) (Ī:List<|Str×È),(∀y∈names,y.2=.free->∃c,env.cells.lookup y.1=fb c)->(∀x c,Ī.lookup x=fb c->env.cells.lookup x=fb c)->
  ∃cl,(forIn names Ī λ(p:Str×ϙ) (r:List<|Str×È)=>(do
    if(p.2 == Ĥ)=fe then do let a<-cellOf env p.1;pure (ķ<|(p.1,a)::r)else pure (ķ r):Sem _))=pure cl/\
   (∀x c,cl.lookup x=fb c->env.cells.lookup x=fb c)/\(∀x c,Ī.lookup x=fb c->∃c',cl.lookup x=fb c')/\∀x,(x,Ĥ)∈names->∃c,cl.lookup x=fb c
 |[],Ī,_,ha=>⟨Ī,rfl,ha,λx c h=>⟨c,h⟩,λx h=>nomatch h⟩
 |(n,k)::r,Ī,hn,ha=>by
  by_cases hk:k=.free
  .subst hk;let⟨c,hc⟩:=hn (n,.free) ü rfl;have ha':∀x d,(((n,c)::Ī:List<|Str×È)).lookup x=fb d->env.cells.lookup x=fb d:=λx d h=>by
    rw[õ]at h;cases e:x==n with
    |true =>
     rw[e]at h;have:x=n:=⇑e
     subst this;cases h;exact hc
    |false=>rw[e]at h;exact ha x d h
   let⟨cl,h1,h2,h3,h4⟩:=YH r ((n,c)::Ī) (λy hy=>hn y<|æ _ hy) ha';refine⟨cl,?_,h2,λx d h=>?_,λx hx=>?_⟩
   .rw[ϓ];have e:cellOf env n=pure c:=by unfold cellOf;rw[hc]
    simp![beq_self_eq_true,if_true,e];exact h1
   .by_cases hx:x=n
    .subst hx;exact h3 x c (by rw[õ];simp)
    .exact h3 x d (by rw[õ,beq_false_of_ne hx];exact h)
   .rcases Ç.mp hx with e|hx
    .cases e;exact h3 _ c (by rw[õ];simp)
    .exact h4 x hx
  .have hb:(k==Ĥ)=ff:=⇑hk
   let⟨cl,h1,h2,h3,h4⟩:=YH r Ī (λy hy=>hn y<|æ _ hy) ha;refine⟨cl,?_,h2,h3,λx hx=>?_⟩
   .rw[ϓ];simp![hb,ĸ,if_false];exact h1
   .rcases Ç.mp hx with e|hx
    .cases e;exact gL rfl hk
    .exact h4 x hx
def Z4{env:Env}:∀{names:List (Str×ϙ)}{x:Str}{k:ϙ},(names.map λ(n,k)=>if(k==Ĥ&&env.scope.kind == .function&&env.kindOf n==fb .cell)then(n,eQ)else(n,k)).lookup x=fb k->
  (∃k0,(x,k0)∈names/\names.lookup x=fb k0/\(k0=k\/(k0=.free/\k=.cell)))
 |[],_,_,h=>by simp at h
 |(n,k0)::r,x,k,h=>by
  rw[Ó,õ]at h;cases hx:x==n with
  |true =>
   have e:x=n:=⇑hx
   subst e;refine⟨k0,ü,by rw[õ];simp,?_⟩;by_cases hc:(k0==Ĥ&&env.scope.kind == .function&&env.kindOf x==fb .cell)=fe
   .rw[gF hc]at h;simp at h;have:k0=.free:=by
     simp![bAq]at hc;simpa using hc.1.1
    exact .inr ⟨this,h.symm⟩
   .rw[gG hc]at h;simp at h;exact .inl h
  |false =>
   have h':(r.map λ(n,k)=>if(k==Ĥ&&env.scope.kind == .function&&env.kindOf n==fb .cell)then(n,eQ)else(n,k)).lookup x=fb k:=by
    by_cases hc:(k0==Ĥ&&env.scope.kind == .function&&env.kindOf n==fb .cell)=fe
    .rw[gF hc]at h;simpa[hx]using h
    .rw[gG hc]at h;simpa[hx]using h
   let⟨k1,a,b,c⟩:=Z4 h';exact⟨k1,æ _ a,by rw[õ,hx];exact b,c⟩
abbrev PIfs(X:Cx)(bp:List Expr)(t:TT):Prop :=
 ∀(Â:List<|È×Obj) (s:Æ) (σ:St) (H:Hp) (Q:Bool->Hp->Prop),Inv X Â σ H s->t σ H Q->
  wpAny (à X.prog X.w) X.A (forIn bp fe λc r=>if r=fe then do let ok<-cf c X.env (eval c X.env);pure (ķ ok)else pure (ķ r)) (TP X Â σ Q) X.xe s
abbrev RU:TT:=λ_ H Q=>Q fe H
variable {X:Cx}
def pifs_nil:PIfs X [] RU:=λ_ _ _ H _ I h=>wpAny_tests_nil ⟨H,I,h⟩
def Ws{c:Expr}{t:TT}(h:PT X c t):PIfs X [c] t:=λÂ s σ H Q I hq=>wpAny_tests_one (h Â s σ H Q I hq)
abbrev HE(J:It)(tg:TG)(tc:TT)(te:TE)(Fin:List V->Hp->Prop)(W:Nat->Nat->List V->St->Hp->Prop):Prop :=
 ∀i m ys τ H,W i m ys τ H->ys.length<Ü/\((J.stop i H/\Fin ys H)\/(J.go i H/\∃N:List V->St->Hp->Prop,(∀ys' τ' H',N ys' τ' H'->∃m',m'<m/\W (i+1) m' ys' τ' H')/\∀x H',J.yld i H x H'->
   tg x τ H' λτ' H1=>tc τ' H1 λb H2=>if b=fe then te τ' H2 λy H3=>N (ys++[y]) τ' H3 else N ys τ' H2))
abbrev DB(wi:TI)(k:Nat)(ù:List Nat)(tg:TG)(tc:TT)(te:TE):TE:=λσ H Q=>wi σ H λJ H1=>∃W:Nat->Nat->List V->St->Hp->Prop,(∃m,W 0 m [] (Í k fc++OY σ ù) H1)/\
 HE J tg tc te (λys H=>∀p,H p=fc->Q (.ref p) (upd H p<|.lst ys)) W
section
variable {X:Cx}{Â:List (È×Obj)}{σ:St}{H2:Hp}{s2:Æ}
variable {scope:ſ} {x:List Str} {ù:List Nat} {cl:List (Str×È)} {fp:List È}
def A6{s3:Æ}{D:È}{h1:Ć}{tk:Nat}{m:Str->Option Ä}(B:BlkOk X scope x ù)(I2:Inv X Â σ H2 s2)(f2:∀b∈fp,Wv X Â H2 b)
  (c1:∀x c,cl.lookup x=fb c->X.env.cells.lookup x=fb c) (c2:∀x,(x,Ĥ)∈scope.names->∃c,cl.lookup x=fb c)
  (I3:Inv X Â σ H2 s3) (hD:D=s2.heap.objs.size) (h3:s3.heap.objs.size=D+1) (Ν:∀b o,s3.heap.get? b=fb o->h1.get? b=fb o) (hfp:∀b∈fp,b<s2.heap.objs.size)
  (hn:h1.Ns s3.heap.objs.size m) :
  Inv (Zu X scope (Z9 X x ù) cl s3.heap.objs.size s3 H2<|D::fp) [] (Í x.length fc++OY σ ù) H2 {s3 with heap:=h1,toks:=tk}:=by
 have neD:∀b o,s2.heap.get? b=fb o->b≠D:=λb o e=>by rw[hD];exact â<|Ø e
 have exlt:∀b∈D::fp,b<s3.heap.objs.size:=λb hb=>by
  rw[h3];rcases Ç.mp hb with e|hb
  .rw[e];exact ĳ _
  .exact Ι (by rw[hD];exact hfp b hb)
 have keeps:=I3.hok.kept (h':=h1) Ν;refine⟨⟨I2.mod,B.kind,I2.ok.glob,I2.ok.blt,Ï _,λy z c e1 e2=>?_,λy hy=>?_,λy c e _=>(by cases e),λhc=>I2.ok.hd hc,I2.ok.frames,.inl rfl,λb hb=>?_,λb o e=>?_,?_,λb o e hb=>?_,λb hb hf=>?_,I3.stack,λb hb=>I2.stkFree b hb⟩,
   rfl,I3.bare,Un.kept Ν,⟨m,hn,λi y v e1 e2 e3=>?_⟩,λy c e=>?_,I3.hok.fresh<|Ï _,λy c e=>I3.freeC y c<|c1 y c e,λp hp=>(nomatch hp),keeps,?_⟩
 .exact I2.ok.inj y z c (c1 y c e1)<|c1 z c e2
 .have hy:(bY scope X.env).names.lookup y=fb .cell\/(bY scope X.env).names.lookup y=fb .free:=hy;rcases hy with hy|hy
  .obtain⟨k0,a,b,c⟩:=Z4 hy;rcases c with c|⟨c,_⟩
   .subst c;exact gL rfl<|B.nocell _ a
   .subst c;exact c2 y a
  .obtain⟨k0,a,b,c⟩:=Z4 hy;rcases c with c|⟨_,c⟩
   .subst c;exact c2 y a
   .cases c
 .refine⟨â<|exlt b hb,λy c e z=>?_⟩;have e':=c1 y c e;rcases Ç.mp hb with q|q
  .obtain⟨v,o,ho,_⟩:=I2.cell y c e';exact neD c o ho<|z.trans q
  .exact(f2 b q).2.2.2.2.1 y c e' z
 .exact I3.bs b o e
 .exact Þ I2.ok.bsz (Þ I2.sz<|show s2.heap.objs.size<=s3.heap.objs.size by rw[h3,hD];exact Ŧ _)
 .rcases Ç.mp hb with q|q
  .exact neD b o (I2.bk b o e) q
  .rcases (f2 b q).2.2.2.1 with z|z
   .exact I2.ok.noex b o e z
   .exact gL (å (Ø (I2.ok.bs b o e).1) z)<|Ĕ _
 .have hf:b∈frs X.stack:=hf;rcases Ç.mp (I2.stkSub b hf)with z|z
  .rcases Ç.mp hb with q|q
   .exact gL I2.lt (by rw[<-z,q,hD];exact Ĕ _)
   .exact(f2 b q).2.1 z
  .rcases Ç.mp hb with q|q
   .exact I2.nofs (a:=b) (by rw[q,hD];exact Ï _) z
   .exact(f2 b q).2.2.1 z
 .by_cases hik:i<x.length
  .rw[Č (by rw[á];exact hik),Ŋ,gF hik]at e2;cases e2
  .have e1:(x++ù.map λj=>X.N.getD j Str.empty)[i]?=fb y:=e1;rw[đ<|by lia]at e1;rw[đ (by rw[á];lia),á]at e2;generalize i - x.length=j at e1 e2;have e2:(ù.map λj=>(σ[j]?).getD fc)[j]?=fb (fb v):=e2;rw[ß]at e1 e2;cases hj:ù[j]? with
   |none=>rw[hj]at e1;cases e1
   |some q =>
    rw[hj]at e1 e2;have e1':X.N.getD q Str.empty=y:=ê e1;have e2':(σ[q]?).getD fc=fb v:=ê e2;let⟨hs,hk,hsc⟩:=B.cap q<|ë hj;let⟨y',hy'⟩:=ô.mp hs;have ey:y'=y:=by rw[<-e1',Ē,hy'];rfl
    subst ey;have es:σ[q]?=fb (fb v):=by
     cases hq:σ[q]? with
     |none=>rw[hq]at e2';cases e2'
     |some o=>rw[hq]at e2';exact congrArg fb e2'
    rw[e1']at hk hsc;let⟨m2,_,hl⟩:=I3.loc;have aB:X.env.scope.names.lookup y'=fb .cell:=hk;let⟨u,r,l⟩:=hl q y' v hy' es<|.inr<|.inl aB;refine⟨u,r,.inr ⟨?_,?_⟩⟩
    .rcases e3 with e3|e3|e3
     .obtain⟨k0,a,b,c⟩:=Z4 (show(bY scope X.env).names.lookup y'=fb .local from e3);rw[hsc]at b;cases b;rcases c with c|⟨_,c⟩<;>cases c
     .exact .inl e3
     .exact .inr e3
    .rcases l with⟨l,_⟩|⟨_,c,hc,z⟩
     .rw[hk]at l;cases l
     .obtain⟨c',hc'⟩:=c2 y'<|PySem.mem_of_lookup hsc;have ec:c'=c:=ê<|(c1 y' c' hc').symm.trans hc;subst ec;let⟨o,ho,hd⟩:=z;exact⟨c',hc',o,Ν c' o ho,hd⟩
 .obtain⟨v,o,ho,hd⟩:=I3.cell y c<|c1 y c e;exact⟨v,o,Ν c o ho,hd⟩
 .show _=(Z9 X x ù).length;unfold Z9 OY;rw[Å,Å,À,À,á]
def XB{env:Env}(h:∀y∈scope.names,y.2=.free->∃c,env.cells.lookup y.1=fb c) :
  ∃cl,closureFor scope env=pure cl/\(∀x c,cl.lookup x=fb c->env.cells.lookup x=fb c)/\∀x,(x,Ĥ)∈scope.names->∃c,cl.lookup x=fb c:=by
 let⟨cl,h1,h2,_,h4⟩:=YH (env:=env) scope.names [] h λx c e=>nomatch e;refine⟨cl,?_,h2,h4⟩;simp![closureFor];have e:(forIn scope.names ([]:List<|Str×È) λx r =>
     (match x with
     | (name,kind)=>if(kind == Ĥ)=fe then do let a<-cellOf env name;pure (ķ<|(name,a)::r)else pure (ķ r):Sem<|ForInStep<|List<|Str×È))=pure cl:=h1
 first
  |(rw[e];rfl)
  |(refine Eq.trans (congrArg (· >>= pure) ?_) (rfl:(pure cl >>= pure:Sem _)=pure cl);exact e)
variable {bO:Expr} {ũ:Expr} {bp:List Expr} {ì:Pos}
def Nc{prog:è}{A:č}{R:bw->Æ->Prop}{s:Æ}{af:Expr}{it Ī:Ä}{env:Env}(I:Nat->Æ->Prop)
  (turn:∀n s,I n s->wpAny (à prog w) A (Ů it) (λr ė=>match r with
    |none=>R (.ok .next) ė
    | some v=>wpAny (à prog w) A (Ϩ af it v) (λ_ ė=>wpAny (à prog w) A (η af env v) (λ_ bU =>
        wpAny (à prog w) A (forIn bp fe λc r=>if r=fe then do let ok<-cf c env (eval c env);pure (ķ ok)else pure (ķ r)) (λok aN =>
          if ok=fe then wpAny (à prog w) A (eval bO env) (λx s₄ =>
            wpAny (à prog w) A (call (.builtin "list.append") [Ī,x]) (λ_ s₅=>∃m,m<n/\I m s₅) (λ_ _=>False) s₄) (λ_ _=>False) aN
          else ∃m,m<n/\I m aN) (λ_ _=>False) bU) (λ_ _=>False) ė) (λ_ _=>False) ė) (λ_ _=>False) s)
  (n:Nat) (h:I n s) :
  codeAny (à prog w) A (.compLoop (.ListComp bO [⟨af,ũ,bp,0⟩] scope ì) 0 it Ī env) R s:=by
 refine codeAny_loop rfl I (λn s hI=>?_) n h;show wpAny _ A ((compTurn (.ListComp bO [⟨af,ũ,bp,0⟩] scope ì) 0 it Ī env).onRaise λx=>do bz x env;theTreesLotGoes x) _ _ s;refine wpAny_noted ?_;rw[compTurn_list];refine Á<|di<|Á<|ő (turn n s hI) (λr ė aO=>?_) λ_ _ h'=>h'.elim;cases r with
 |none=>exact Ñ aO
 |some v =>
  refine Á<|ő aO (λ_ ė aO=>?_) λ_ _ h'=>h'.elim;refine Á<|ő aO (λ_ bU h₂=>Á<|ő h₂ (λok aN h₃=>?_) λ_ _ h'=>h'.elim) λ_ _ h'=>h'.elim;cases ok with
  |false=>exact Ñ ⟨rfl,h₃⟩
  |true =>exact Á<|Á<|ő h₃ (λx s₄ h₄=>Á<|ő h₄ (λ_ s₅ h₅=>Ñ<|Ñ ⟨rfl,h₅⟩) λ_ _ h'=>h'.elim) λ_ _ h'=>h'.elim
variable {bG:Expr} {tg:TG} {tc:TT} {te:TE}
def KK{it:È}{tn:Nat->Ć->Prop}{J:It}{Fin:List V->Hp->Prop}{W:Nat->Nat->List V->St->Hp->Prop}{E:Ä->Æ->Prop}
  {RR:Ä->È->bw->Æ->Prop}{m0:Nat}(hc:X.calm=fe) (B:BlkOk X scope x ù) (I2:Inv X Â σ H2 s2) (T:Turn X.prog X.w X.K bG J fp it tn) (st2:tn 0 s2.heap) (f2:∀b∈fp,Wv X Â H2 b)
  (c1:∀x c,cl.lookup x=fb c->X.env.cells.lookup x=fb c) (c2:∀x,(x,Ĥ)∈scope.names->∃c,cl.lookup x=fb c)
  (hI:∀cl C s H ex,PIfs (Zu X scope (Z9 X x ù) cl C s H ex) bp tc) (hE:∀cl C s H ex,PE (Zu X scope (Z9 X x ù) cl C s H ex) bO te)
  (hG:∀cl C s H ex,PG (Zu X scope (Z9 X x ù) cl C s H ex) bG tg) (w0:W 0 m0 [] (Í x.length fc++OY σ ù) H2) (cw:HE J tg tc te Fin W)
  (hRR:∀D C s' H' ys m,H' D=fc->s'.heap.Ns C m->Wv X Â (upd H' D<|.lst ys) C->Inv X Â σ (upd H' D<|.lst ys) s'->Fin ys H'->RR (.ref D) C (.ok .next) s') :
  wpAny (à X.prog X.w) X.A (newList []) (λĪ aN=>wpAny (à X.prog X.w) X.A (newFunctionEnv scope X.env.globals cl [] X.env.qual fc .none<|fb X.env) (λcenv s₄ =>
    codeAny (à X.prog X.w) X.A (.compStart (.ListComp bO [⟨bG,ũ,bp,0⟩] scope ì) 0 (.ref it) Ī { cenv with scope:=bY scope X.env }) (RR Ī cenv.locals) s₄) E aN) E s2:=by
 refine ģ (wpAny_newFunctionEnv B.nocell (by intro y hy;simp at hy) (λaO cL cM=>?_) B.kind);dsimp only at cL cM ⊢;have hfp:∀b∈fp,b<s2.heap.objs.size:=λb hb=>by let⟨o,e,_⟩:=T.obj _ _ st2 b hb;exact Ø e
 have I3:Inv X Â σ H2 {s2 with heap:=s2.heap.push {cls:=.type "list",dict:=fc,data:=.seq ([]:List Ä).toArray}}:=I2.kept (t':=s2.toks) λb o e=>Ã _ e;have h3:(s2.heap.push {cls:=.type "list",dict:=fc,data:=.seq ([]:List Ä).toArray}).objs.size=s2.heap.objs.size+1:=ğ ..;have bF:(s2.heap.push {cls:=.type "list",dict:=fc,data:=.seq ([]:List Ä).toArray}).get? s2.heap.objs.size=fb {cls:=.type "list",dict:=fc,data:=.seq ([]:List Ä).toArray}:=Ô _ rfl;have be:∀b o,s2.heap.get? b=fb o->(s2.heap.push {cls:=.type "list",dict:=fc,data:=.seq ([]:List Ä).toArray}).get? b=fb o:=λb o e=>Ã _ e;generalize hH3:s2.heap.push {cls:=.type "list",dict:=fc,data:=.seq ([]:List Ä).toArray}=h3' at cL cM I3 h3 bF be ⊢;have Ν:∀b o,h3'.get? b=fb o->aO.get? b=fb o:=λb o e=>cM.extBut b o (â<|Ø e)<|Ã _ e;have hDC:s2.heap.objs.size≠h3'.objs.size:=by rw[h3];exact â<|ĳ _
 have IB:=A6 (cl:=cl) (fp:=fp) (s3:={s2 with heap:=h3'}) (D:=s2.heap.objs.size) (h1:=aO) (tk:=s2.toks+([]:List<|Str×Ä).length) B I2 f2 c1 c2 I3 rfl h3 Ν hfp cL;generalize hY:Zu X scope (Z9 X x ù) cl h3'.objs.size {s2 with heap:=h3'} H2 (s2.heap.objs.size::fp)=Y at IB;have yP:Y.prog=X.prog:=by rw[<-hY];rfl
 have yw:Y.w=X.w:=by rw[<-hY];rfl
 have yK:Y.K=X.K:=by rw[<-hY];rfl
 have yA:Y.A=X.A:=by rw[<-hY];rfl
 have yc:Y.calm=fe:=by rw[<-hY];exact hc
 have yenv:Y.env=compEnvC scope cl h3'.objs.size X.env:=by rw[<-hY];rfl
 have hIY:PIfs Y bp tc:=by rw[<-hY];exact hI _ _ _ _ _
 have hEY:PE Y bO te:=by rw[<-hY];exact hE _ _ _ _ _
 have yxe:Y.xe=λ_ _=>False:=by rw[<-hY];rfl
 have ypn:Y.pn=[]:=by rw[<-hY];rfl
 have hgN:PG Y bG tg:=by rw[<-hY];exact hG _ _ _ _ _
 have fD:∀{H':Hp},H' s2.heap.objs.size=fc->Wv Y [] H' s2.heap.objs.size:=λ{H'} hn=>by
  refine⟨hn,?_,?_,?_,?_,λp hp=>?_⟩
  .rw[yenv];exact hDC
  .exact IB.ok.exfs _ (by rw[<-hY];exact ü)
  .exact .inl (by rw[<-hY];exact ü)
  .exact λy c e=>(IB.ok.exf _<|by rw[<-hY];exact ü).2 y c e
  .rw[ypn]at hp;exact nomatch hp
 have fF:∀{H':Hp},(∀b∈fp,H' b=fc)->∀b∈fp,Wv Y [] H' b:=λ{H'} hn b hb=>by
  have hm:b∈Y.ex:=by rw[<-hY];exact æ _ hb
  refine⟨hn b hb,?_,IB.ok.exfs b hm,.inl hm,λy c e=>(IB.ok.exf b hm).2 y c e,λp hp=>?_⟩
  .exact(IB.ok.exf b hm).1
  .rw[ypn]at hp;exact nomatch hp
 have acc0:aO.PlainList s2.heap.objs.size ([]:List Ä).toArray:=⟨0,by exact Ν _ _ bF⟩
 have loop:∀aN:Æ,aN={s2 with heap:=aO,toks:=s2.toks+([]:List<|Str×Ä).length}->
   codeAny (à X.prog X.w) X.A (.compLoop (.ListComp bO [⟨bG,ũ,bp,0⟩] scope ì) 0 (.ref it) (.ref s2.heap.objs.size)<|compEnvC scope cl h3'.objs.size X.env) (RR (.ref s2.heap.objs.size) h3'.objs.size) aN:=by
  rintro aN rfl;refine Nc (λn s'=>∃i ys ó τ H',Inv Y [] τ H' s'/\tn i s'.heap/\(∀b∈fp,H' b=fc)/\H' s2.heap.objs.size=fc/\gp ys ó/\s'.heap.PlainList s2.heap.objs.size ó.toArray/\W i n ys τ H') ?_ m0
   ⟨0,[],[],_,H2,IB,T.keep _ _ _ st2 λb hb o e=>Ν _ _<|be _ _ e,λb hb=>(f2 b hb).1,I2.fresh,.nil,acc0,w0⟩
  rintro n s3 ⟨i,ys,ó,τ,H3,I3',dD,fr3,frD,rv,pl,w3⟩;have cv:∀{α:Type}{f:Sem α}{Q Q':α->Æ->Prop}{s:Æ},wpAny (à Y.prog Y.w) Y.A f Q Y.xe s->(∀a s',Q a s'->Q' a s')->wpAny (à X.prog X.w) X.A f Q' (λ_ _=>False) s:=λ{α f Q Q' s} h hq=>by rw[yP,yw,yA,yxe]at h;exact ő h hq λ_ _ e=>e
  have cvX:∀{α:Type}{f:Sem α}{Q Q':α->Æ->Prop}{s:Æ},wpAny (à X.prog X.w) Y.A f Q (λ_ _=>False) s->(∀a s',Q a s'->Q' a s')->wpAny (à X.prog X.w) X.A f Q' (λ_ _=>False) s:=λ{α f Q Q' s} h hq=>by rw[yA]at h;exact ő h hq λ_ _ e=>e
  let⟨nD,hD3⟩:=id pl;have plD:∀b∈[s2.heap.objs.size],∃o,s3.heap.get? b=fb o/\∀v,o.data≠.cell v:=λb hb=>by
   have e:b=s2.heap.objs.size:=⇑hb
   subst e;exact⟨_,hD3,λv z=>by cases z⟩
  have IP:=I3'.pinned (fp:=[s2.heap.objs.size]) (λb hb=>by
    have e:b=s2.heap.objs.size:=⇑hb
    subst e
    exact fD frD) plD
  have memD:=Z1 (fp:=[s2.heap.objs.size]) (Ö.mpr rfl) hD3;have fF':∀b∈fp,Wv Y ([]++XN [s2.heap.objs.size] s3.heap) H3 b:=λb hb=>by
   let⟨q1,q2,q3,q4,q5,q6⟩:=fF fr3 b hb;refine⟨q1,q2,q3,q4,q5,λp hp=>?_⟩;rw[ypn]at hp;let⟨aF,_⟩:=K5 (show p∈XN [s2.heap.objs.size] s3.heap by simpa using hp);have e:p.1=s2.heap.objs.size:=⇑aF
   rw[e];exact(â<|hfp b hb).symm
  obtain⟨hys,h|⟨go,N,hN,step⟩⟩:=cw i n ys τ H3 w3
  .obtain⟨stop,fin⟩:=h;refine cvX (T.done Y yP yw yK yc i _ s3 _ H3 _ IP fF' dD stop) λr s4 ⟨hr,I4⟩=>?_;subst hr;let⟨m4,hm4,_⟩:=I4.loc;rw[yenv]at hm4;have aP:Un (frs X.stack) (s2.heap.objs.size::fp) H2 H3 h3' s4.heap:=by
    have:=I4.base;rw[<-hY]at this;exact this
   have hok4:HOk X.prog X.w H3 s4.heap:=by have:=I4.hok;rw[yP,yw]at this;exact this
   have pl4:=(I4.pin _<|Ê _<|Ê _ memD).1;have nC:H3 h3'.objs.size=fc:=by have:=I4.free;rw[yenv]at this;exact this
   have hlen:ys.length<=Ü:=ο hys;have osEq:s4.os=s2.os:=by have:=I4.os;rw[<-hY]at this;exact this
   have neD:∀b o,s2.heap.get? b=fb o->b≠s2.heap.objs.size:=λb o e=>â<|Ø e;have nin:∀b o,s2.heap.get? b=fb o->b∉fp->b∉s2.heap.objs.size::fp:=λb o e hb z=>(Ç.mp z).elim (neD b o e) hb;have hokN:HOk X.prog X.w (upd H3 s2.heap.objs.size<|.lst ys) s4.heap:=hok4.track frD ⟨hlen,ó,nD,rv,pl4⟩;have U:Un (frs X.stack) fp H2 (upd H3 s2.heap.objs.size<|.lst ys) s2.heap s4.heap:=by
    refine⟨λb o e hn hf hx=>aP.keep b o (be b o e) hn hf<|nin b o e hx,λb o e hn hf hx=>aP.slot b o (be b o e) hn hf<|nin b o e hx,λb o e hn hx=>?_,λb o e hx=>aP.there b o (be b o e)<|nin b o e hx,λb xs e=>?_,λb o xs e=>?_,λb ps e=>?_⟩
    .rw[fg<|neD b o e];exact aP.free b o (be b o e) hn<|nin b o e hx
    .have q:=aP.tups b xs e;rw[fg<|Zn q frD];exact q
    .have q:=aP.frzs b o xs e;rw[fg<|Zn q frD];exact q
    .obtain⟨more,q⟩:=aP.tbls b ps e;exact⟨more,by rw[fg<|Zn q frD];exact q⟩
   have I5:Inv X Â σ (upd H3 s2.heap.objs.size<|.lst ys) s4:=I2.call' (ch:=fp) osEq U hokN I4.bare λb hb=>by let⟨_,q2,_,q4,q5,q6⟩:=f2 b hb;exact⟨q4,q2,q5,q6⟩
   exact hRR _ _ _ _ _ m4 frD hm4 (I2.fpOk (ο<|by rw[h3];exact ĳ _)<|by rw[fg hDC.symm];exact nC) I5 fin
  .refine cvX (T.item Y yP yw yK yc i _ s3 _ H3 _ IP fF' dD go) λr s4 ⟨u,hr,h4⟩=>?_;subst hr;refine cvX h4 λ_ s5 ⟨y,H5,I5,r5,y5,st5,fr5⟩=>?_;have frD5:H5 s2.heap.objs.size=fc:=(I5.pin _<|Ê _<|Ê _ memD).2.1;have hD5:=(I5.pin _<|Ê _<|Ê _ memD).1;have I5p:=I5.unpinned.pinned (fp:=s2.heap.objs.size::fp) (λb hb=>by
     rcases Ç.mp hb with e|hb
     . subst e;exact fD frD5
     . exact fF fr5 b hb) (λb hb=>by
     rcases Ç.mp hb with e|hb
     . subst e;exact⟨_,hD5,λv z=>by cases z⟩
     . exact T.obj _ _ st5 b hb)
   have memD5:=Z1 (fp:=s2.heap.objs.size::fp) ü hD5;rw[<-yenv];refine cv (hgN _ s5 _ H5 y u _ I5p r5<|step y H5 y5) λ_ s6 ⟨σ6,H6,I6,q6⟩=>?_;have aQ:∀{m':Nat}{bE:St}{H7:Hp}{s7:Æ}{ys':List V}{its':List Ä},Inv Y [] bE H7 s7->tn (i+1) s7.heap->(∀b∈fp,H7 b=fc)->H7 s2.heap.objs.size=fc->gp ys' its'->s7.heap.PlainList s2.heap.objs.size its'.toArray->m'<n/\W (i+1) m' ys' bE H7->
     ∃m,m<n/\∃i ys ó τ H',Inv Y [] τ H' s7/\tn i s7.heap/\(∀b∈fp,H' b=fc)/\H' s2.heap.objs.size=fc/\gp ys ó/\s7.heap.PlainList s2.heap.objs.size ó.toArray/\W i m ys τ H' :=
    λ{m' bE H7 s7 ys' its'} J1 st7 fr7 fd7 rv7 pl7 wm=>⟨m',wm.1,i+1,ys',its',bE,H7,J1,st7,fr7,fd7,rv7,pl7,wm.2⟩
   have stay:∀{bE:St}{H7:Hp}{s7:Æ},Inv Y ([]++XN (s2.heap.objs.size::fp) s5.heap) bE H7 s7->tn (i+1) s7.heap/\(∀b∈fp,H7 b=fc)/\H7 s2.heap.objs.size=fc/\s7.heap.get? s2.heap.objs.size=fb {cls:=.type "list",data:=.seq ó.toArray nD}:=by intro bE H7 s7 J1;refine⟨T.keep _ _ _ st5 λb hb o e=>(J1.pin (b,o)<|Ê _<|Ê _<|Z1 (æ _ hb) e).1,λb hb=>?_,(J1.pin _<|Ê _<|Ê _ memD5).2.1,(J1.pin _<|Ê _<|Ê _ memD5).1⟩;let⟨o,e,d⟩:=T.obj _ _ st5 b hb;exact(J1.pin (b,o)<|Ê _<|Ê _<|Z1 (æ _ hb) e).2.1
   refine cv (hIY _ s6 _ H6 _ I6 q6) λok s7 ⟨H7,I7,q7⟩=>?_;cases ok with
   |false =>rw[gG<|by decide]at q7;rw[gG<|by decide];let⟨m',wm⟩:=hN _ _ _ q7;let⟨a1,a2,a3,a4⟩:=stay I7;exact aQ I7.unpinned a1 a2 a3 rv ⟨nD,a4⟩ wm
   |true =>
    rw[gF rfl]at q7;rw[gF rfl];refine cv (hEY _ s7 _ H7 _ I7 q7) λz s8 ⟨vz,H8,I8,rz,wm⟩=>?_;let⟨m',wm⟩:=hN _ _ _ wm;let⟨a1,a2,a3,a4⟩:=stay I8;have hlen:=rv.length;refine wpAny_list_append_plain (hsz:=by rw[É];lia) (⟨nD,a4⟩:s8.heap.PlainList _ ó.toArray) λh9 hl9 hs9=>?_;let⟨q1,q2,q3,q4,q5,q6⟩:=fD a3;have I9:Inv Y [] _ H8 {s8 with heap:=h9}:=I8.unpinned.turned (t':=s8.toks) (λb o hb e=>hs9.extBut b o hb e) q1 q2 q4 q5 q6;refine aQ I9 (T.keep _ _ _ a1 λb hb o e=>hs9.extBut b o (â<|hfp b hb) e) a2 a3 (its':=ó++[z]) (rv.append<|.cons rz .nil) ?_ wm;have e:ó.toArray.push z=(ó++[z]).toArray:=by simp
    rw[e]at hl9;exact hl9
 exact codeAny_compStart_list (loop _ rfl)<|T.self _ 0 _ _ _ (T.keep _ _ _ st2 λb hb o e=>Ν _ _<|be _ _ e)<|loop _ rfl
variable {wi:TI}
def CO(hc:X.calm=fe)(B:BlkOk X scope x ù)(hi:PI X bG ũ wi)(hG:∀cl C s H ex,PG (Zu X scope (Z9 X x ù) cl C s H ex) bG tg)
  (hI:∀cl C s H ex,PIfs (Zu X scope (Z9 X x ù) cl C s H ex) bp tc) (hE:∀cl C s H ex,PE (Zu X scope (Z9 X x ù) cl C s H ex) bO te)
  (hs:∀x,Ę ũ X.env x=pure x:=by intro _;rfl):PE X (.ListComp bO [⟨bG,ũ,bp,0⟩] scope ì)<|DB wi x.length ù tg tc te:=by
 k_upd;let⟨cl,ah,c1,c2⟩:=XB (scope:=scope) (env:=X.env) λy hy e=>I.ok.has y.1<|.inl<|B.frees y hy e;rw[eval_ListComp];refine dn (use:=fc) rfl hs ah B.kind B.locs<|thn (hi Â s σ H _ I h) λv s1 h1=>thn h1 λitv s2 h2=>?_;let⟨it,fp,tn,J,H2,e,I2,T,st2,f2,W,⟨m0,w0⟩,cw⟩:=h2;subst e;refine KK (RR:=λĪ C=>compPost (à X.prog X.w) X.A X.xe fc (EP X Â σ Q) Ī C) hc B I2 T st2 f2 c1 c2 hI hE hG w0 cw ?_;intro D C s' H' ys m hD hn fC I' fin;let⟨q1,q2,q3,q4,q5,q6⟩:=fC;exact⟨m,hn,λh' hs'=>⟨.ref D,_,I'.turned (t':=s'.toks) (λb o hb e=>hs'.extBut b o hb e) q1 q2 q4 q5 q6,rfl,fin D hD⟩⟩
def D1{y:Str}{py:Pos}{i:Nat}{Ϟ:Pos}(hN:X.N.Nodup)(hi':X.N[i]?=fb y)(hy:Loc X.env.scope y)(hc:X.calm=fe)(B:BlkOk X scope x ù)(hi:PI X bG ũ wi)(hG:∀cl C s H ex,PG (Zu X scope (Z9 X x ù) cl C s H ex) bG tg)
  (hI:∀cl C s H ex,PIfs (Zu X scope (Z9 X x ù) cl C s H ex) bp tc) (hE:∀cl C s H ex,PE (Zu X scope (Z9 X x ù) cl C s H ex) bO te)
  (hs:∀x,Ę ũ X.env x=pure x:=by intro _;rfl)
  (hsw:ų (.ListComp bO [⟨bG,ũ,bp,0⟩] scope ì) (fb<|.Name y py) Ϟ.line X.env=pure fe:=by rfl)
  (hf:X.fn y=fe\/X.env.scope.names.lookup y=fb .local:=by first|exact .inl rfl|exact .inr rfl|assumption) :
  PS X (.Assign [.Name y py] (.ListComp bO [⟨bG,ũ,bp,0⟩] scope ì) Ϟ) (Qi (DB wi x.length ù tg tc te)<|HM i):=by
 intro Â s σ H D I h;let⟨cl,ah,c1,c2⟩:=XB (scope:=scope) (env:=X.env) λy hy e=>I.ok.has y.1<|.inl<|B.frees y hy e;rw[exec_Assign_Name_used _ _ _ _ hsw];refine Á<|di<|Á ?_;show wpAny _ X.A (do let _<-comprehension (.ListComp bO [⟨bG,ũ,bp,0⟩] scope ì) scope X.env _ (newList []) ff (eval ũ X.env) (fb<|η (.Name y py) X.env)) _ _ s;refine Á (ő (dn (use:=fb<|η (.Name y py) X.env) (Q:=λ_ s'=>SP X Â D .next s') rfl hs ah B.kind B.locs
   (thn (hi Â s σ H _ I h) λv s1 h1=>thn h1 λitv s2 h2=>?_)) (λ_ s' hq=>Ñ<|Ñ hq) λ_ _ e=>e)
 let⟨it,fp,tn,J,H2,e,I2,T,st2,f2,W,⟨m0,w0⟩,cw⟩:=h2;subst e;refine KK (RR:=λĪ C=>compPost (à X.prog X.w) X.A X.xe (fb<|η (.Name y py) X.env) (λ_ s'=>SP X Â D .next s') Ī C) hc B I2 T st2 f2 c1 c2 hI hE hG w0 cw ?_;intro Dd C s' H' ys m hD hn fC I' fin;let⟨q1,q2,q3,q4,q5,q6⟩:=fC;show wpAny _ _ (η (.Name y py) X.env<|.ref Dd) _ _ _;refine wpAny_assign_Name<|KU I' hN hi' hy (v:=.ref Dd) rfl (λs2 I2 ⟨a,hs2,ha⟩=>?_) hf;have ne:C≠a:=by
  rcases ha with z|z
  .rw[z];exact q2
  .exact(q5 y a z).symm
 refine⟨m,hn.sameBut hs2 ne,λh' hs'=>?_⟩;exact⟨_,_,I2.turned (t':=s2.toks) (λb o hb e=>hs'.extBut b o hb e) q1 q2 q4 q5 q6,fin Dd hD⟩
end
mutual
inductive IsD (K:Frag) (H:Hp):V->ϵ->Prop
 |non:IsD K H .non .none
 |bl (b:Bool):IsD K H (.bl b)<|.bool b
 |int (i:Int):IsD K H (.int i)<|.int i
 |str (x:Str):IsD K H (.str x)<|.str x
 |lst {a:È}{xs:List V}{ds:List ϵ}:gk K H a xs->IsDs K H xs ds->IsD K H (.ref a) (.list ds)
 |tup {a:È}{xs:List V}{ds:List ϵ}:gm K H a xs->IsDs K H xs ds->IsD K H (.ref a) (.tuple ds)
inductive IsDs (K:Frag) (H:Hp):List V->List ϵ->Prop
 |nil:IsDs K H [] []
 |cons {x:V}{xs:List V}{d:ϵ}{ds:List ϵ}:IsD K H x d->IsDs K H xs ds->IsDs K H (x::xs) (d::ds)
end
section
variable {X:Cx}{Â:List (È×Obj)}{σ:St}{H:Hp}{s:Æ}
mutual
theorem IsD.reads(I:Inv X Â σ H s):∀{v:V}{d:ϵ}{u:Ä},IsD X.K H v d->RelV v u->∃as,Reads s.heap u d as
 |_,_,_,.non,r=>by cases r;exact⟨_,.none⟩
 |_,_,_,.bl b,r=>by cases r;exact⟨_,.bool b⟩
 |_,_,_,.int i,r=>by let⟨t,rfl⟩:=r;exact⟨_,.int i t⟩
 |_,_,_,.str x,r=>by let⟨t,rfl⟩:=r;exact⟨_,.str x t⟩
 |_,_,_,.lst q qs,r=>by cases r;let⟨ó,rv,⟨o,n,e,c,_,d⟩,_⟩:=I.list q;let⟨as,ra⟩:=IsDs.reads I qs rv;exact⟨_,.list e c d<|by simpa using ra⟩
 |_,_,_,.tup q qs,r=>by cases r;let⟨ó,rv,⟨o,e,c,n,d⟩,_⟩:=I.tuple q;let⟨as,ra⟩:=IsDs.reads I qs rv;exact⟨_,.tuple e c d<|by simpa using ra⟩
theorem IsDs.reads(I:Inv X Â σ H s):∀{vs:List V}{ds:List ϵ}{us:List Ä},IsDs X.K H vs ds->gp vs us->∃as,ReadsAll s.heap us ds as
 |_,_,_,.nil,.nil=>⟨_,.nil⟩
 |_,_,_,.cons q qs,.cons r rs=>by let⟨as,ra⟩:=IsD.reads I q r;let⟨bs,rb⟩:=IsDs.reads I qs rs;exact⟨_,.cons ra rb⟩
end
end
def IsDs.ints{K:Frag}{H:Hp}:∀ns:List Int,IsDs K H (ns.map V.int) (ns.map PyData.int)
 |[]=>.nil
 |n::ns=>.cons (.int n)<|IsDs.ints ns
section
variable {X:Cx}
abbrev Rc(K:Frag):R2:=λx y H Q=>∃d e,IsD K H x d/\IsD K H y e/\SeqAt.shaped d=fe/\SeqAt.shaped e=fe/\Q (.bl<|ĥ d e) H
abbrev QQ(K:Frag):R2:=λx y H Q=>∃d e,IsD K H x d/\IsD K H y e/\SeqAt.shaped d=fe/\SeqAt.shaped e=fe/\Q (.bl (!ĥ d e)) H
def Lk(hu:X.A.units+64<Ħ):OpR X (ð .Eq)<|Rc X.K:=by k_sub;let⟨d,e,hd,he,sd,se,q⟩:=h;let⟨as,ra⟩:=hd.reads I rx;let⟨bs,rb⟩:=he.reads I ry;exact SeqAt.compareEq_shaped ra rb sd se hu ⟨.bl _,H,I,rfl,q⟩
def HW(hu:X.A.units+64<Ħ):OpR X (ð .NotEq)<|QQ X.K:=by k_sub;let⟨d,e,hd,he,sd,se,q⟩:=h;let⟨as,ra⟩:=hd.reads I rx;let⟨bs,rb⟩:=he.reads I ry;exact SeqAt.compareNe_shaped ra rb sd se hu ⟨.bl _,H,I,rfl,q⟩
inductive TyV (K:Frag) (H:Hp):V->Ä->Prop
 |of {x:V}{t:Ä}:gf K H x t->TyV K H x t
 |tup {a:È}{xs:List V}:gm K H a xs->TyV K H (.ref a) (.type "tuple")
 |lst {a:È}{xs:List V}:gk K H a xs->TyV K H (.ref a) (.type "list")
def BE:fq X (.builtin "isinstance") λxs H Q=>∃x T t b,xs=[x,.ty T]/\TyV X.K H x t/\PySem.W.kitOne X.K t (.type T)=fb b/\Q (.bl b) H:=by
 k_put;let⟨x,T,t,b,rfl,ty,e,q⟩:=h;let⟨u,v,rfl,ru,rv⟩:=UU r;cases rv;cases ty with
 |of ty=>exact AS I ru ty e λtk=>⟨.bl b,H,I.tok tk,rfl,q⟩
 |tup hq =>cases ru;let⟨ó,_,⟨o,h1,h2,_⟩,_⟩:=I.tuple hq;exact PySem.W.kia_one PySem.W.kitx_tuple I.kIn ⟨o,h1,h2⟩ e (λz=>nomatch z) λtk=>⟨.bl b,H,I.tok tk,rfl,q⟩
 |lst hq =>cases ru;let⟨ó,_,⟨o,n,h1,h2,_⟩,_⟩:=I.list hq;exact PySem.W.kia_one PySem.W.kitx_list I.kIn ⟨o,h1,h2⟩ e (λz=>nomatch z) λtk=>⟨.bl b,H,I.tok tk,rfl,q⟩
def Dw(hc:X.calm=fe):fq X (.builtin "all") λxs H Q=>∃p,∃bs:List Bool,xs=[.ref p]/\gk X.K H p (bs.map V.bl)/\Q (.bl<|bs.all id) H:=by
 k_put;let⟨p,bs,rfl,hq,q⟩:=h;let⟨u,rfl,rx⟩:=ZR r;cases rx;let⟨ó,rv,pl,hz⟩:=I.list hq;have hlen:=rv.length;rw[À]at hlen;have aq:p<s.heap.objs.size:=by let⟨o,n,e,_⟩:=pl;exact Ø e
 refine call_all_walk<|Ś pl.isList ?_;refine⟨s.heap.objs.size,_,_,ó.toArray.size,_,_,λi=>bs.getD i fe,rfl,Walks.list (A:=X.A.in1) (I.ok.hd hc) s.heap.objs.size p (â aq) ó.toArray,⟨⟨_,Ô _ rfl,rfl,rfl⟩,pl.isList.push _⟩,?_,λh' tk hk=>?_⟩
 .intro i v s' Q' E' hP hQ;have hP:ó[i]?=fb v:=⇑hP
  have hb:(bs.map V.bl)[i]?=fb (.bl<|bs.getD i fe):=by
   have hi:i<bs.length:=by have:=(Î.mp hP).1;lia
   rw[ß,Ē];simp[hi]
  let⟨u,hu,ru⟩:=rv.get hb;rw[hP]at hu;cases hu;cases ru;exact Đ hQ
 .have e:(List.range ó.toArray.size).all (λi=>bs.getD i fe)=bs.all id:=by
   rw[É,<-hlen,Bool.eq_iff_iff,ÿ,ÿ];constructor
   .intro h b hb;let⟨i,hi,rfl⟩:=List.mem_iff_getElem.mp hb;have:=h i<|Ŗ.mpr hi;rw[Ē,Ù hi]at this;exact this
   .intro h i hi;have hi:=Ŗ.mp hi;rw[Ē,Ù hi];exact h _<|Υ hi
  rw[e];refine⟨.bl _,H,I.kept (t':=tk) λb o e=>hk b o (λhm=>?_)<|Ã _ e,rfl,q⟩;have:b=s.heap.objs.size:=⇑hm
  exact gL (this▸Ø e)<|Ĕ _
abbrev sortI(ns:List Int):List Int:=ns.mergeSort λa b=>gM (a<=b)
def J5(ns:List Int):(sortI ns).Perm ns:=ŉ ns _
def C5(ns:List Int):(sortI ns).Pairwise (·<=·):=by have h:=bQ (le:=λa b:Int=>gM (a<=b)) (λa b c h1 h2=>by simp at *;lia) (λa b=>by simp;lia) ns;exact h.imp λh=>⇑h
def J6{ns ms:List Int}(hp:ms.Perm ns)(hs:ms.Pairwise (·<=·)):ms=sortI ns:=PySem.W.ksm_same (hp.trans (J5 ns).symm) hs (C5 ns)
def Wl(ns:List Int):(sortI ns).length=ns.length:=(J5 ns).length_eq
def Wn:∀{vs:List Ä}{ns:List Int},Ġ vs ns->gp (ns.map V.int) vs:=Wz
def call_sorted:fq X (.builtin "sorted") λxs H Q=>∃p,∃ns:List Int,xs=[.ref p]/\gk X.K H p (ns.map V.int)/\ns.length<64/\∀l,H l=fc->Q (.ref l) (upd H l<|.lst<|(sortI ns).map V.int):=by k_put;let⟨p,ns,rfl,hq,h64,q⟩:=h;let⟨u,rfl,rx⟩:=ZR r;cases rx;let⟨ó,rv,pl,hz⟩:=I.list hq;have hlen:=rv.length;rw[À]at hlen;refine sorted_ints pl.isList (ZY rv) (by lia) λout cJ a1 a2 a3=>?_;have e:=J6 a2 a3;subst e;let⟨n,he⟩:=sortedAll_at s.heap ó out;refine⟨.ref<|s.heap.objs.size+1,_,I.laid (a:=s.heap.objs.size+1) (o:=.lst<|(sortI ns).map V.int) (t':=s.toks) (λb o e=>sortedAll_old e) (Ŧ _) ?_,rfl,q _<|I.hok.fresh<|Ŧ _⟩;exact⟨by rw[À,Wl];rw[À]at hz;exact hz,out.toList,n,Wn a1,by simpa[ϔ]using he⟩
end
section
variable {X:Cx}{x:Str}{p ì:Pos}{e:Expr}{es:List Expr}{t:TA}
def P1{T:String}(hg:Gl X x)(hm:X.mg x=fc)(hv:š x=fb (.type T))(hn:x≠"__name__":=by decide)(hd:(x==("__debug__" : Str))=ff:=by decide):PE X (.Name x ì)<|tC<|.ty T:=FS hg hm hv rfl hn hd
end
abbrev Yt(scope sc:ſ)(N:List Str)(x:List Str)(ù:List Nat):Bool :=
 scope.names.all (λy=>y.2 != .cell)&&scope.names.all (λy=>y.2 != .local||scope.names.lookup y.1==fb .local)&&x.all (λy=>scope.names.lookup y==fb .local) &&
 scope.names.all (λy=>y.2 != .free||sc.names.lookup y.1==fb .cell) &&
 ù.all (λj=>gM (j<N.length)&&sc.names.lookup (N.getD j Str.empty)==fb .cell&&scope.names.lookup (N.getD j Str.empty)==fb .free)&&gM (x++ù.map λj=>N.getD j Str.empty).Nodup
def Ul{X:Cx}{scope sc:ſ}{x:List Str}{ù:List Nat}{N:List Str}(hsc:X.env.scope=sc)(hN:X.N=N)(hk:scope.kind=.function)(h:Yt scope sc N x ù=fe):BlkOk X scope x ù:=by
 unfold Yt at h;simp![bAq]at h;let⟨⟨⟨⟨⟨h1,h2⟩,h3⟩,h4⟩,h5⟩,h6⟩:=h;rw[ÿ]at h1 h2 h4 h5;refine⟨hk,λy hy=>by simpa using h1 y hy,λy hy e=>?_,λy hy=>by simpa using ÿ.mp h3 y hy,λy hy e=>?_,λj hj=>?_,?_⟩
 .have:=h2 y hy;rw[e]at this;simpa using this
 .have:=h4 y hy;rw[e]at this;show X.env.scope.names.lookup y.1=_;rw[hsc];simpa using this
 .have:=h5 j hj;simp![bAq,gK,beq_iff_eq]at this;let⟨⟨a,b⟩,c⟩:=this;refine⟨?_,?_,?_⟩
  .rw[hN,Ù a];rfl
  .show X.env.scope.names.lookup _=_;rw[hsc,hN];exact b
  .rw[hN];exact c
 .unfold Z9;rw[hN];exact of_decide_eq_true h6
abbrev fH(r:È)(H H':Hp):Prop:=∀b o,H b=fb o->b≠r->H' b=fb o
def fH.refl(r:È)(H:Hp):fH r H H:=λ_ _ h _=>h
def fH.trans{r:È}{H H1 H2:Hp}(a:fH r H H1)(b:fH r H1 H2):fH r H H2:=λc o h n=>b c o (a c o h n) n
noncomputable abbrev Tie:=Int×Int×Int
variable {c:Bool} {A:Prop} {B:Prop}
def f8(e:c=fe)(h:A):if c=fe then A else B:=by rw[gF e];exact h
def f9(e:c=ff)(h:B):if c=fe then A else B:=by rw[e,gG ý];exact h
structure BrOk(ns:List Int):Prop where
 one:1<=ns.length
 ten:ns.length<=10
 rng:∀n∈ns,0<=n/\n<=999
 nd:ns.Nodup
structure TieOk(ns:List Int)(t:Tie):Prop where
 a:t.1∈ns
 b:t.2.1∈ns
 ne:t.1≠t.2.1
 lo:1<=t.2.2
 hi:t.2.2<=1000
structure TsOk(ns:List Int)(ts:List Tie):Prop where
 few:ts.length<=16
 each:∀t∈ts,TieOk ns t
abbrev mn(x y:Int):Int:=if y<x then y else x
section
variable {X:Cx}(K:Frag) (h:X.K=K)
include h
end
section
variable {prog:è}{w:ā}{A:č}{E:Ä->Æ->Prop}{s:Æ}
variable {it:È} {i:Nat} {items:Array Ä} {Q:Ä->Æ->Prop}
def YF{t:È}{x:Ä}(ϲ:s.heap.IsTupleIter it t i)(ht:s.heap.IsTuple t items)(hx:items[i]?=fb x)
  (hQ:∀h',h'.IsTupleIter it t (i+1)->ν it s.heap h'->Q x {s with heap:=h'}):wpAny (à prog w) A (Builtin.SmallTypes.nextOf<|.ref it) Q E s:=by
 let⟨o,ho,hc,hd⟩:=id ϲ;let⟨ot,hot,_,nt,hdt⟩:=ht;unfold Builtin.SmallTypes.nextOf;refine Á<|Ą (name:=gN "__next__") ϲ.typeIs F.slot_tuple_iterator_next<|ď F.slot_tuple_iterator_next ϲ.typeIs F.entry_tuple_iterator_next ?_<|F.args_tuple_iterator_next_1 _;show wpAny _ _ (Ϸ (.ref it) 0 >>= _) _ _ s;refine Á<|ă ho hd (x:=.ref t) rfl ?_;show wpAny _ _ (if(Value.ref t==Value.none)=fe then _ else _) _ _ s;rw[gG<|show ¬ ((Value.ref t==Value.none)=fe) from ý];show wpAny _ _ (Ϸ (.ref it) 1 >>= _) _ _ s;refine Á<|ă ho hd (x:=.int i 0) rfl ?_;show wpAny _ _ (Ϛ (.ref t) >>= _) _ _ s;refine Á<|ċ hot hdt ?_;simp![é,hx];refine Á (ϸ ho hd (by simp)<|Ñ ⟨x,rfl,Ñ<|hQ _ ⟨_,Ĺ _ ho<|cS<|ω hd _,(Obj.cls_mapFields ..).trans hc,?_⟩<|Χ ..⟩);rw[ω hd];simp[Ŝ]
def Xv{t:È}(hh:A.handled=fc)(ϲ:s.heap.IsTupleIter it t i)(ht:s.heap.IsTuple t items)(hx:items[i]?=fc)
  (hE:∀h' e,Heap.ExtBut it s.heap h'->(∃o,h'.get? e=fb o/\o.cls=.type "StopIteration")->E (.ref e) {s with heap:=h'}):wpAny (à prog w) A (Builtin.SmallTypes.nextOf<|.ref it) Q E s:=by
 let⟨o,ho,hc,hd⟩:=id ϲ;let⟨ot,hot,_,nt,hdt⟩:=ht;unfold Builtin.SmallTypes.nextOf;refine Á<|Ą (name:=gN "__next__") ϲ.typeIs F.slot_tuple_iterator_next<|ď F.slot_tuple_iterator_next ϲ.typeIs F.entry_tuple_iterator_next ?_<|F.args_tuple_iterator_next_1 _;show wpAny _ _ (Ϸ (.ref it) 0 >>= _) _ _ s;refine Á<|ă ho hd (x:=.ref t) rfl ?_;show wpAny _ _ (if(Value.ref t==Value.none)=fe then _ else _) _ _ s;rw[gG<|show ¬ ((Value.ref t==Value.none)=fe) from ý];show wpAny _ _ (Ϸ (.ref it) 1 >>= _) _ _ s;refine Á<|ă ho hd (x:=.int i 0) rfl ?_;show wpAny _ _ (Ϛ (.ref t) >>= _) _ _ s;refine Á<|ċ hot hdt ?_;simp![é,hx];refine Á (Ο<|Á<|ϸ ho hd (by simp) ?_);show wpAny _ _ (newExc (.type "StopIteration") [] >>= _) _ _ _;refine Á ?_;simp![newExc,newTuple];refine Á (ģ (Á (m:=Ϲ _ _)<|Ϻ (a:=Value.none) (by first|rfl|(simp![Ϲ];rfl))<|ģ ?_<|by size_fits)<|by size_fits);simp![raiseNew];refine Á<|wpAny_handled ?_
 first
 |rw[show A.in1.handled=fc from hh]
 |rw[hh]
 exact Á<|Ñ<|wpAny_throw<|hE _ _ (((Χ ..).extBut.push _).push _) ⟨_,Ô _ rfl,rfl⟩
end
variable {prog:è} {w:ā} {A:č}
def IM(hh:A.handled=fc)(it t:È)(Ũ:t≠it)(items:Array Ä) :
  Draws prog w A it [it,t] items.size (λi v=>items[i]?=fb v) (λi h=>h.IsTupleIter it t i/\h.IsTuple t items) where
 live:=λ_ _ st=>let ⟨o,ho,_⟩:=st.1;⟨o,ho⟩
 frame:=λ_ _ _ st hk=>⟨st.1.at λo e=>hk it (by simp) o e,st.2.at λo e=>hk t (by simp) o e⟩
 item:=λi s Q E hi st hQ=>YF st.1 st.2 (x:=items[i]) (by simp[hi]) λh' hit' hs'=>hQ _ h' s.toks (by simp[hi]) ⟨hit',st.2.extBut hs'.extBut Ũ⟩ hs'
 done:=λs Q E st hE=>Xv hh st.1 st.2 (by simp) hE
open AutoSeq1 (wpAny_loadPart') in
def Pe(l:È)(items:Array Ä)(n:Nat)(dct:Option È)(sl:Array<|Option Ä) :
  Meets (Builtin.«enumerate.__new__» ⟨[.type "enumerate",.ref l],[]⟩) (λ_ R s=>s.heap.get? l=fb { cls:=.type "tuple",dict:=dct,data:=.seq items n,slots:=sl }/\
    R (.ok<|.ret<|.ref (s.heap.push {cls:=.type "tuple_iterator",data:=.fields #[.ref l,.int 0 0]}).objs.size)
      { s with heap:=(s.heap.push { cls:=.type "tuple_iterator",data:=.fields #[.ref l,.int 0 0] }).push { cls:=.type "enumerate",data:=.fields #[.none,.bool ff,.ref s.heap.objs.size,Ŝ 0,.none,.none] } }) :=
 .of_wp λprog w A R s h=>by
  let⟨hp,g,d,tk,os⟩:=s;let⟨hl,h⟩:=h;have hsub:=sub_enumerate;have hL:bZ (aw ⟨hp,g,d,tk,os⟩) l items:=⟨_,hl,rfl,n,rfl⟩
  wp_walk using ø hl
  refine wpAny_stack_any λst=>Ñ ?_;split
  .rename_i c _ _ _ _ _;cases (c==Value.type "enumerate")<;>(wp_walk using ø hl,ů hL;exact⟨_,rfl,h⟩)
  .wp_walk using ø hl,ů hL;exact⟨_,rfl,h⟩
def Op{E:Ä->Æ->Prop}{s:Æ}{l:È}{items:Array Ä}{Q:Ä->Æ->Prop}(hL:s.heap.IsTuple l items)
  (h:∀h',IsEnum h' (s.heap.objs.size+1) s.heap.objs.size 0 .none->h'.IsTupleIter s.heap.objs.size l 0->(∀b o,s.heap.get? b=fb o->h'.get? b=fb o)->Q (.ref<|s.heap.objs.size+1) {s with heap:=h'}) :
  wpAny (à prog w) A (call (.type "enumerate") [.ref l]) Q E s:=by
 let⟨⟨c,dct,dt,sl⟩,hl,hc,n,hd⟩:=hL;simp only at hc hd;subst hc hd;refine eR F.called_enumerate (by decide) (F.typeCall_enumerate_1 _) (F.newCall_enumerate_1 _) (λobj=>F.args_object_init_2 obj _) F.entry_enumerate_new (Pe l items n dct sl) ⟨hl,?_⟩;have hz:(s.heap.push {cls:=.type "tuple_iterator",data:=.fields #[.ref l,.int 0 0]}).objs.size=s.heap.objs.size+1:=ğ ..;have hg:=Ô (s.heap.push {cls:=.type "tuple_iterator",data:=.fields #[.ref l,.int 0 0]}) (o:={cls:=.type "enumerate",data:=.fields #[.none,.bool ff,.ref s.heap.objs.size,Ŝ 0,.none,.none]}) rfl;rw[hz]at hg;show _/\_;rw[hz];exact⟨⟨_,hg,rfl⟩,h _ hg ⟨_,Ã _<|Ô _ rfl,rfl,rfl⟩ λb o x=>Ã _<|Ã _ x⟩
section
variable {X:Cx}{Â:List (È×Obj)}{σ:St}{H:Hp}{s:Æ}{h':Ć}
def Inv.turnedL{t':Nat}{ch:List È}(I:Inv X Â σ H s)(k:∀b o,b∉ch->s.heap.get? b=fb o->h'.get? b=fb o)(hc:∀b∈ch,Wv X Â H b):Inv X Â σ H {s with heap:=h',toks:=t'}:=by
 have nit:∀b u,H b=fb u->b∉ch:=λb u e z=>by rw[(hc b z).1]at e;cases e
 refine I.step (g':=s.gens) (d':=s.drawn) (ch:=ch) (λb hb=>?_) (λb o _ _ hcb e _=>k b o hcb e) (λb o _ _ hcb e _=>⟨o.slots,k b o hcb e⟩) (λ_ _ _ _ n=>n)
  (λb o hcb e=>⟨o,k b o hcb e⟩) (λ_ _ e=>e) (λ_ _ _ e=>e) (λb ps e=>⟨#[],by rw[e];simp⟩) (λm hm=>?_) (λb u e=>?_) I.bare
 .obtain⟨_,q2,_,q4,q5,q6⟩:=hc b hb;exact⟨q4,q2,q5,q6⟩
 .obtain⟨o,es,ep,ho,r⟩:=hm;exact⟨o,es,ep,k _ o (λz=>(hc _ z).2.1 rfl) ho,r⟩
 .refine(I.hok b u e).stay (λc v Μ q=>k c v ?_ q) (λ_ q=>q) λ_ _ q=>q;rcases Μ with z|z
  .rw[z];exact nit b u e
  .exact nit c _ z
def Inv.track{T:È}{o:HO}(I:Inv X Â σ H s)(hT:H T=fc)(h0:X.s₀.heap.objs.size<=T)(hL:T≠X.env.locals)(ah:∀x c,X.env.cells.lookup x=fb c->c≠T)(hp:∀p∈X.pn++Â,p.1≠T)
  (new:fu X.prog X.w (upd H T o) s.heap T o):Inv X Â σ (upd H T o) s:=by
 have neT:∀b ob,X.s₀.heap.get? b=fb ob->b≠T:=λb ob e=>â<|å (Ø e) h0;refine⟨I.ok,I.os,I.bare,⟨I.base.keep,I.base.slot,λb ob e n hx=>?_,I.base.there,λb xs e=>?_,λb ob xs e=>?_,λb ps e=>?_⟩,I.loc,I.cell,?_,λx c e=>?_,λp hpp=>?_,I.hok.track hT new,I.len⟩
 .rw[fg<|neT b ob e];exact I.base.free b ob e n hx
 .have q:=I.base.tups b xs e;rw[fg<|Zn q hT];exact q
 .have q:=I.base.frzs b ob xs e;rw[fg<|Zn q hT];exact q
 .obtain⟨m,q⟩:=I.base.tbls b ps e;exact⟨m,by rw[fg<|Zn q hT];exact q⟩
 .rw[fg hL.symm];exact I.free
 .rw[fg<|ah x c e];exact I.freeC x c e
 .obtain⟨a,b,c,d,e⟩:=I.pin p hpp;exact⟨a,by rw[fg<|hp p hpp];exact b,c,d,e⟩
end
abbrev Ite(K:Frag)(a:È):It :=
 ⟨λi H=>∃xs x,gm K H a xs/\xs[i]?=fb x,λi H v H'=>∃p,v=.ref p/\H p=fc/\∀xs x,gm K H a xs->xs[i]?=fb x->H'=upd H p (.tup [.int i,x]),λi H=>∃xs,gm K H a xs/\xs.length<=i⟩
variable {es:List Expr} {kk:Nat} {tp:Pos}
def OK{P:è}{K:Frag}(a it e:È)(Ũ:e≠it) :
  Turn P w K (.Tuple es kk tp) (Ite K a) [e,it] e (λi h=>(∃Ν,IsEnum h e it i Ν)/\h.IsTupleIter it a i) where
 mem:=by simp
 obj:=λi h st b hb=>by
  let⟨⟨Ν,h1⟩,o2,e2,_,d2⟩:=st;rcases Ç.mp hb with q|q
  .subst q;exact⟨_,h1,λv z=>by cases z⟩
  .have q:b=it:=⇑q
   subst q;exact⟨o2,e2,λv z=>by rw[d2]at z;cases z⟩
 keep:=λi h h' st k=>⟨let ⟨Ν,h1⟩:=st.1;⟨Ν,k e (by simp) _ h1⟩,st.2.at λo q=>k it (by simp) o q⟩
 item:=by
  k_ne;subst hP hw hK;let⟨xs,x,hq,hx⟩:=hg;let⟨ó,rv,pl,hz⟩:=I.tuple hq;let⟨u,hu,ru⟩:=rv.get hx;have hsz:=rv.length;have hi:i<ó.toArray.size:=by rw[É];exact(Î.mp hu).1
  let⟨⟨Ν,h1⟩,h2⟩:=st;have hfi:=hf it (by simp);have hai:a≠it:=λz=>by let⟨o,ho,ah,_⟩:=h2;let⟨o',ϝ,hcl',_⟩:=pl;rw[z,ho]at ϝ;cases ϝ;rw[ah]at hcl';exact gL (ŝ hcl') (by decide)
  have hae:e∉[it,a]:=λz=>by
   rcases Ç.mp z with z|z
   .exact Ũ z
   .have z:e=a:=⇑z
    let⟨o',ϝ,hcl',_⟩:=pl;rw[<-z,h1]at ϝ;cases ϝ;exact gL (ŝ hcl') (by decide)
  refine dU (IM (A:=X.A.in1) (I.ok.hd hc) it a hai ó.toArray) h1 ⟨h2,pl⟩ hi Ũ hae λv h3 tk hv hout hst3 hT _ hk=>?_;have ev:v=u:=by
   have hv:ó[i]?=fb v:=⇑hv
   rw[hu]at hv;exact(ê hv).symm
  subst ev;have nT:∀b∈[e,it],s.heap.objs.size≠b:=λb hb z=>by
   rcases Ç.mp hb with q|q
   .exact gL (Ø h1) (by rw[<-q,<-z];exact Ĕ _)
   .have q:b=it:=⇑q
    let⟨o,ho,_⟩:=h2;exact gL (Ø ho) (by rw[<-q,<-z];exact Ĕ _)
  have aG:=I.fpOk (H':=H) (Ï s.heap.objs.size) I.fresh;refine⟨.ref s.heap.objs.size,rfl,cr hout λh4 he4 hs4=>?_⟩;have I4:Inv X Â σ H {s with heap:=h4,toks:=tk+1}:=I.turnedL (t':=tk+1) (ch:=[e,it]) (λb o hb q=>hs4.extBut b o (λz=>hb<|by simp[z])<|hk b o (λz=>hb<|by simp[z]) (λz=>hb<|by simp[z]) q) hf;have hT4:h4.get? s.heap.objs.size=fb {cls:=.type "tuple",data:=.seq #[.int i tk,v]}:=hs4.extBut _ _ (nT e<|by simp) hT;let⟨f0,f1,f2,f3,f4,f5⟩:=aG;have I5:Inv X Â σ (upd H s.heap.objs.size<|.tup [.int i,x]) {s with heap:=h4,toks:=tk+1}:=I4.track f0 I.sz f1 f4 f5 ⟨by show 2<=Ü;decide,[.int i tk,v],.cons ⟨tk,rfl⟩<|.cons ru .nil,_,hT4,rfl,_,rfl⟩;refine⟨.ref s.heap.objs.size,_,I5,rfl,⟨s.heap.objs.size,rfl,f0,λys y hy hyi=>?_⟩,⟨⟨v,⇑he4⟩,hst3.1.at λo q=>hs4.extBut it o (Ne.symm Ũ) q⟩,λb hb=>?_⟩
  .have ey:ys=xs:=I.tuple_inj hy hq;rw[ey,hx]at hyi;rw[ê hyi]
  .rw[fg (nT b hb).symm];exact(hf b hb).1
 done:=by
  k_ne;subst hP hw hK;let⟨xs,hq,hx⟩:=hg;let⟨ó,rv,pl,hz⟩:=I.tuple hq;have hl:=rv.length;let⟨⟨Ν,h1⟩,h2⟩:=st;have hai:a≠it:=λz=>by let⟨o,ho,ah,_⟩:=h2;let⟨o',ϝ,hcl',_⟩:=pl;rw[z,ho]at ϝ;cases ϝ;rw[ah]at hcl';exact gL (ŝ hcl') (by decide)
  have hT:s.TypeIs (.ref e) "enumerate":=⟨_,h1,rfl⟩
  unfold Ů;refine Á<|ξ<|Ą (name:=gN "__next__") hT F.slot_enumerate_next<|ď F.slot_enumerate_next hT F.entry_enumerate_next ?_<|F.args_enumerate_next_1 _;show wpAny _ _ (Ϸ (.ref e) 2 >>= _) _ _ _;refine Á<|ă h1 rfl (x:=.ref it) rfl ?_;refine Á (Xv (A:=X.A.in1) (I.ok.hd hc) h2 pl (by simp;lia) λh' x he' hx'=>?_);let⟨o,ho,ah⟩:=hx';refine Á<|θ (T:="StopIteration") (b:=fe) ⟨o,ho,ah⟩ aa<|Ñ ⟨rfl,?_⟩;exact I.turnedL (t':=s.toks) (ch:=[it]) (λb ob hb q=>he' b ob (λz=>hb<|by simp[z]) q) λb hb=>hf b<|æ _ hb
 self:=λA i s Q E st h=>by let⟨⟨Ν,h1⟩,_⟩:=st;exact Ϗ h1 h
section
variable {X:Cx}
abbrev PN(K:Frag)(ta:TA):TI:=λσ H R=>ta σ H λvs H1=>∃a,vs=[.ref a]/\(∃xs,gm K H1 a xs)/\R (Ite K a) H1
def CD{p ì:Pos}{e:Expr}{ta:TA}(hg:Gl X "enumerate")(hm:X.mg "enumerate" = fc)(ha:PA X [e] ta)(hs:Ú [e] X.env=[(ff,eval e X.env)]:=by rfl) :
  PI X (.Tuple es kk tp) (.Call (.Name "enumerate" p) [e] [] ì) (PN X.K ta):=by
 intro Â s σ H R I h;refine Call_ (Z2 (u:=.type "enumerate") I hg hm (by kernel_rfl)<|PyProof.Rows.callWith_type1 (T:="enumerate") (thn (ha ì Â s σ H _ I h) λus s1 ⟨vs,H1,I1,r1,q1⟩=>?_) hs rfl);let⟨a,e1,⟨xs,hq⟩,q⟩:=q1;subst e1;let⟨u,rfl,ru⟩:=ZR r1;cases ru;let⟨ó,rv,pl,hz⟩:=I1.tuple hq;refine Op pl λh2 he2 cb hk2=>?_;have I2:Inv X Â σ H1 {s1 with heap:=h2}:=I1.kept (t':=s1.toks) hk2;refine Ϗ he2 ⟨s1.heap.objs.size+1,[s1.heap.objs.size+1,s1.heap.objs.size],_,_,H1,rfl,I2,OK a s1.heap.objs.size (s1.heap.objs.size+1)<|İ<|ĳ _,⟨⟨_,he2⟩,cb⟩,λb hb=>?_,q⟩;have bo:s1.heap.objs.size<=b:=by
  rcases Ç.mp hb with z|z
  .rw[z];exact Ŧ _
  .have z:b=s1.heap.objs.size:=⇑z
   rw[z];exact Ï _
 exact I1.fpOk bo<|I1.hok.fresh bo
end
end L2
namespace L2
open PySem PySem.Spec PyProof.Rows
open PySem.Builtin PySem.Builtin.Str
noncomputable abbrev TJ:=St->Hp->Str->(Str->Hp->Prop)->Prop
abbrev PJ(X:Cx)(vs:List Expr)(t:TJ):Prop :=
 ∀(Â:List<|È×Obj) (s:Æ) (σ:St) (H:Hp) (Ī:Str) (Q:Str->Hp->Prop),Inv X Â σ H s->t σ H Ī Q->
  Joins (à X.prog X.w) X.A X.xe (cu vs X.env) Ī (λout s1=>∃H1,Inv X Â σ H1 s1/\out.length<=Ü/\Q out H1) s
abbrev Sm:TJ:=λ_ H Ī Q=>Ī.length<=Ü/\Q Ī H
abbrev QN(te:TE)(tr:TJ):TJ:=λσ H Ī Q=>te σ H λx H1=>∃y,x=.str y/\(Ī++y).length<=Ü/\tr σ H1 (Ī++y) Q
section
variable {X:Cx}{e:Expr}{es:List Expr}{te:TE}{tr:TJ}{ì:Pos}
def pj_nil:PJ X [] Sm:=λÂ s σ H Ī Q I h=>⟨H,I,h.1,h.2⟩
def Fg(he:PE X e te)(hr:PJ X es tr)(hs:cu (e::es) X.env=eval e X.env::cu es X.env:=by rfl):PJ X (e::es)<|QN te tr:=by intro Â s σ H Ī Q I h;rw[hs];show wpAny _ _ _ _ _ _;refine thn (he Â s σ H _ I h) λv s1 ⟨x,H1,I1,r1,y,e1,hz,q1⟩=>?_;subst e1;let⟨t,rfl⟩:=r1;exact⟨y,t,rfl,hz,hr Â s1 σ H1 (Ī++y) Q I1 q1⟩
def Joins.imp{M:Model}{A:č}{E:Ä->Æ->Prop}:∀{ps:List (Sem Ä)}{Ī:Str}{Q Q':Str->Æ->Prop}{s:Æ},(∀o s,Q o s->Q' o s)->Joins M A E ps Ī Q s->Joins M A E ps Ī Q' s
 |[],_,_,_,_,f,h=>f _ _ h
 |_::_,_,_,_,_,f,h=>thn h λv s1 ⟨y,t,e,hz,hr⟩=>⟨y,t,e,hz,Joins.imp f hr⟩
end
abbrev wT:Str:="tie"
structure fG(bs:List Int)(ts:List Tie):Prop where
 br:BrOk bs
 ti:TsOk bs ts
 so:sortI bs=bs
 lo:ts.map loT=ts
end L2
namespace L2
open PySem PySem.Spec PyProof.Rows
variable {P:è} {w:ā} {H:Hp} {h:Ć} {a:È}
def fu.obj{o:HO}(x:fu P w H h a o):∃u,h.get? a=fb u:=by
 cases o with
 |lst xs=>let⟨_,_,_,_,e⟩:=x;exact⟨_,e⟩
 |tup xs=>let⟨_,_,_,ob,e,_⟩:=x;exact⟨_,e⟩
 |dK kvs=>let⟨_,_,_,_,o,_,_,e,_⟩:=x;exact⟨_,e⟩
 |dT kvs=>let⟨_,_,_,_,o,_,_,e,_⟩:=x;exact⟨_,e⟩
 |set S n=>let⟨o,_,_,_,e,_⟩:=x;exact⟨_,e⟩
 |ins C dx fs=>let⟨_,_,_,e,_⟩:=x;exact⟨_,e⟩
 |own y=>exact x
 |xd fs=>let⟨_,⟨_,_,_,e,_⟩,_⟩:=x;exact⟨_,e⟩
 |rng lo hi=>let⟨_,_,_,e⟩:=x;exact⟨_,e⟩
 |frz ob u=>exact⟨_,x.1⟩
 |tbl ps=>exact⟨_,(show h.get? a=fb _ from x)⟩
 |met f y=>exact⟨_,(show h.get? a=fb _ from x)⟩
 |ext φ=>exact x.2.1
abbrev FO(h:Ć)(a:È)(cls:Ä)(T:Option È):Prop :=
 ∃oe vs a0,h.get? a=fb oe/\oe.cls=cls/\oe.data=.fields vs/\vs[0]?=fb a0/\
  match T with
  |none=>vs[1]?=fb .none
  |some T=>vs[1]?=fb (.ref T)/\T≠a/\∃oT ts fl,h.get? T=fb oT/\oT.data=.fields ts/\ts[3]?=fb fl
structure Fl(P:è)(w:ā)(l:List Env)(H:Hp)(s:Æ)(H':Hp)(a:È)(cls:Ä)(s':Æ):Prop where
 os:s'.os=s.os
 bare:ό s'.gens
 un:Un (frs l) [] H H' s.heap s'.heap
 hok:HOk P w H' s'.heap
 na:s.heap.get? a=fc
 ha:H' a=fc
 ex:∃T,FO s'.heap a cls T/\∀t,T=fb t->s.heap.get? t=fc/\H' t=fc
abbrev CX1(P:è)(w:ā):CXT:=λl H s E e s'=>∃a cls H',e=.ref a/\Fl P w l H s H' a cls s'/\E cls fc H'
abbrev XW(X:Cx)(E:XK):Prop:=∀(Â:List<|È×Obj) (σ:St) (H:Hp) (s:Æ) (H':Hp) (a:È) (cls:Ä) (s':Æ),
 Inv X Â σ H s->Fl X.prog X.w X.stack H s H' a cls s'->E cls fc H'->X.xe (.ref a) s'
def XW.passes{X:Cx}{E:XK}(h:XW X E):Xn (CX1 X.prog X.w) X E:=λÂ σ H s e s' I ⟨a,cls,H',z,f,q⟩=>by subst z;exact h Â σ H s H' a cls s' I f q
section
variable {M:Model}{A:č}{E:Ä->Æ->Prop}{s:Æ}{B:Ć}{env:Env}{outer:List Env}{L a:È}{cls:Ä}{T:Option È}{Q:Unit->Æ->Prop}
abbrev Xf(h:Ć)(l:List Env)(a:È)(T:Option È):Ć:=PySem.W.hideAll h<|a::(T.toList++frs l)
def Y6(h:Ć)(l:List Env)(a:È)(T:Option È):(Xf h l a T).StaysIn h:=λb o e=>PySem.W.of_hideAll _ e
def Jz{l:List Env}(a:È)(T:Option È)(hl:h.FunFrames B l):h.FunFrames (Xf h l a T) l :=
 PySem.W.funFrames_hide hl λe he b hb=>æ _<|Ê _<|ρ.mpr ⟨e,he,hb⟩
def UF(h:Ć)(l:List Env)(a:È)(T:Option È):(Xf h l a T).get? a=fc:=PySem.W.hideAll_none _ ü
def US(h:Ć)(l:List Env)(a t:È):(Xf h l a<|fb t).get? t=fc:=PySem.W.hideAll_none _ (æ _<|Ý _<|by simp)
def AN(aG:A.frames=fb (env::outer))(hf:env.frame=fb L)(hl:s.heap.FunFrames B<|env::outer)(hx:FO s.heap a cls T)
  (fin:∀h' a0,Heap.NotedW (Xf s.heap (env::outer) a T) (env::outer) a cls a0 (Ŝ L) s.heap h'->Q () {s with heap:=h'}):wpAny M A (bz (.ref a) env) Q E s:=by
 let⟨oe,vs,a0,he,hc,hd,h0,ht⟩:=hx;have fin:=λh'=>fin h' a0;cases T with
 |none =>subst hc;unfold bz;simp![hf];refine Á<|ă he hd ht ?_;rw[gG<|by decide];exact wpAny_entryW aG (Jz a fc hl) hf he (Y6 _ _ _ _) (UF _ _ _ _) hd (π.mp ht).1 h0 fin
 |some t =>
  let⟨h1,Ũ,oT,ts,fl,e1,e2,e3⟩:=ht;by_cases c:fl=Ŝ L
  .subst c;have tr:s.heap.TracedAtW (Xf s.heap (env::outer) a<|fb t) a cls a0<|Ŝ L:=⟨oe,vs,t,oT,ts,he,⟨hc,h0⟩,hd,h1,US _ _ _ _,Ũ,e1,e2,e3⟩
   exact wpAny_noteFrame_againW hf tr<|fin _ ⟨Y6 _ _ _ _,Jz a (fb t) hl,tr,λb o e nf=>⟨o.slots,e⟩⟩
  .subst hc;unfold bz;simp![hf];refine Á<|ă he hd h1 ?_;rw[gF<|by simp];refine Á<|ă e1 e2 e3 ?_;rw[gG<|by simpa using c];refine Á<|ϸ e1 e2 (π.mp e3).1 ?_;have off:∀b,b≠t->(s.heap.update t (Obj.mapFields (·.setIfInBounds 3 Value.none))).get? b=s.heap.get? b:=λb hb=>þ _ _ hb.symm;have nr:∀b o,s.heap.get? b=fb o->(∀vs,o.data≠.fields vs)->b≠t:=λb o hb nf z=>by
    rw[z,e1]at hb;cases hb;exact nf ts e2
   have bn:=US s.heap (env::outer) a t;exact wpAny_entryW aG ((Jz a (fb t) hl).of_keeps λb o hb nf=>⟨o,(off b<|nr b o hb nf).trans hb,rfl⟩) hf ((off a Ũ.symm).trans he) (λb o hbo=>(off b λz=>by rw[z,bn]at hbo;cases hbo).trans<|Y6 _ _ _ _ b o hbo) (UF _ _ _ _) hd (π.mp h1).1 h0 λh' ⟨x1,x2,x3,x4⟩=>fin h' ⟨x1,x2,x3,λb o hb nf=>x4 b o ((off b<|nr b o hb nf).trans hb) nf⟩
def A4(aG:A.frames=fb (env::outer))(hf:env.frame=fb L)(hl:s.heap.FunFrames B<|env::outer)(hx:FO s.heap a cls T)
  (h:∀h' a0,dW (Xf s.heap (env::outer) a T) (env::outer) a cls a0 s.heap h'->Q () {s with heap:=h'}):wpAny M A (bz (.ref a) env) (λ_ s2=>wpAny M A (setFlight (.ref a) fc) Q E s2) E s :=
 AN aG hf hl hx λh' a0 ⟨k1,k2,k3,k4⟩=>wpAny_setFlight_noneW k1 k2 k3 λh2 j1 j2 j3 j4=>h h2 a0 ⟨j1,j2,j3,λb o e nf=>by
   let⟨sl,e2⟩:=k4 b o e nf
   exact⟨sl,j4 b _ e2 nf⟩⟩
def Oj(aG:A.frames=fb (env::outer))(hf:env.frame=fb L)(hl:s.heap.FunFrames B<|env::outer)(hx:FO s.heap a cls T)
  (h:∀h' a0,dW (Xf s.heap (env::outer) a T) (env::outer) a cls a0 s.heap h'->Q () {s with heap:=h'}):wpAny M A (leaving env<|.ref a) Q E s:=Á<|A4 aG hf hl hx h
end
variable {l:List Env} {H':Hp} {s:Æ} {s':Æ} {cls:Ä} {a0:Ä} {h':Ć} {B:Ć} {T:Option È}
def Fl.noted{fl:Ä}(f:Fl P w l H s H' a cls s')(hT:∀t,T=fb t->s.heap.get? t=fc/\H' t=fc)
  (hl:s'.heap.FunFrames B l) (aG:∀b∈frs l,H' b=fc) (z:Heap.NotedW (Xf s'.heap l a T) l a cls a0 fl s'.heap h'):Fl P w l H s H' a cls {s' with heap:=h'}:=by
 let⟨k1,k2,k3,k4⟩:=z;have inb:∀b o,s'.heap.get? b=fb o->b≠a->(∀t,T=fb t->b≠t)->b∉frs l->h'.get? b=fb o:=λb o e na nt nf=>k1 b o (PySem.W.hideAll_get _ e (by
   intro m
   rcases Ç.mp m with m|m
   . exact na m
   . rcases Û.mp m with m|m
     . cases T with
       |none=>cases m
       |some t=>exact nt t rfl ⇑m
     . exact nf m))
 have slot:∀b o,s'.heap.get? b=fb o->b∈frs l->∃sl,h'.get? b=fb {o with slots:=sl}:=λb o e hb=>by let⟨_,o2,e2,nf⟩:=hl.mem hb;rw[e]at e2;cases e2;exact k4 b o e nf
 have Ν:∀b o,s.heap.get? b=fb o->b≠a/\∀t,T=fb t->b≠t:=λb o e=>⟨(λz=>by rw[z,f.na]at e;cases e),(λt ht z=>by rw[z,(hT t ht).1]at e;cases e)⟩
 refine⟨f.os,f.bare,⟨λb o e n nf _=>?_,λb o e n hb _=>?_,f.un.free,λb o e _=>?_,f.un.tups,f.un.frzs,f.un.tbls⟩,?_,f.na,f.ha,?_⟩
 .exact inb b o (f.un.keep b o e n nf<|by simp) (Ν b o e).1 (Ν b o e).2 nf
 .obtain⟨sl,e1⟩:=f.un.slot b o e n hb (by simp);let⟨sl',e2⟩:=slot b _ e1 hb;exact⟨sl',e2⟩
 .obtain⟨o1,e1⟩:=f.un.there b o e (by simp);by_cases hb:b∈frs l
  .obtain⟨sl,e2⟩:=slot b _ e1 hb;exact⟨_,e2⟩
  .exact⟨o1,inb b o1 e1 (Ν b o e).1 (Ν b o e).2 hb⟩
 .intro b u e;have good:∀c v,H' c=fb v->∀ob,s'.heap.get? c=fb ob->h'.get? c=fb ob:=λc v ec ob eo =>
   inb c ob eo (λz=>by rw[z,f.ha]at ec;cases ec) (λt ht z=>by rw[z,(hT t ht).2]at ec;cases ec) λm=>by rw[aG c m]at ec;cases ec
  refine(f.hok b u e).stay (λc v hc q=>?_) (λ_ q=>q) λ_ _ q=>q;rcases hc with z|z
  .rw[z]at q ⊢;exact good b u e v q
  .exact good c _ z v q
 .obtain⟨oe,vs,t',oT,ts,e1,⟨e2,e3⟩,e4,e5,e6,e7,e8,e9,e10⟩:=k3;refine⟨fb t',⟨oe,vs,a0,e1,e2,e4,e3,e5,e7,oT,ts,fl,e8,e9,e10⟩,λt ht=>?_⟩;cases ht;have hid:∀o,s'.heap.get? t'=fb o->T=fb t':=λo e=>by
   have nin:¬ (t'∉(a::(T.toList++frs l))):=λm=>by have q:(Xf s'.heap l a T).get? t'=fb o:=PySem.W.hideAll_get _ e m;rw[e6]at q;cases q
   have m:=Classical.not_not.mp nin;rcases Ç.mp m with m|m
   .exact gL m e7
   .rcases Û.mp m with m|m
    .cases T with
     |none=>cases m
     |some t=>rw[show t'=t by simpa using m]
    .obtain⟨_,o2,q,nf⟩:=k2.mem m;rw[e8]at q;cases q;exact gL e9<|nf ts
  constructor
  .cases q:s.heap.get? t' with
   |none=>rfl
   |some o =>let⟨o1,q1⟩:=f.un.there t' o q (by simp);have:=(hT t'<|hid o1 q1).1;rw[q]at this;cases this
  .cases q:H' t' with
   |none=>rfl
   |some u =>let⟨o1,q1⟩:=(f.hok t' u q).obj;have:=(hT t'<|hid o1 q1).2;rw[q]at this;cases this
def Fl.left(f:Fl P w l H s H' a cls s')(hT:∀t,T=fb t->s.heap.get? t=fc/\H' t=fc)
  (hl:s'.heap.FunFrames B l) (aG:∀b∈frs l,H' b=fc) (z:dW (Xf s'.heap l a T) l a cls a0 s'.heap h'):Fl P w l H s H' a cls {s' with heap:=h'}:=f.noted (fl:=.none) hT hl aG z
section
variable {P:è}{w:ā}{K:Frag}{mg:Str->Option Ä}{base:Ć}
variable {X:Cx} {H:Hp} {s:Æ}
def Inv.raised{Â:List (È×Obj)}{σ:St}{H':Hp}{s':Æ}{a:È}{cls:Ä}(I:Inv X Â σ H s)(f:Fl X.prog X.w X.stack H s H' a cls s'):Inv X Â σ H' s' :=
 I.call' (ch:=[]) f.os f.un f.hok f.bare (λb z=>gL z<|by simp)
def O0(ok:X.Ok)(h:X.stack=X.env::X.outer):X.env.frame=fb X.env.locals:=by
 rcases ok.stk with e|e
 .rw[h]at e;exact gL (congrArg List.length e) (by simp)
 .exact e.2
variable {N:List Str} {qual:Str} {f:È}
def La{scope:ſ}{cd:Ä}{A:č}{outer:List Env}{E:XK}:XW (Mq (CX1 P w) P w K mg base N qual scope f cd A outer s H E) E:=by
 intro Â σ H2 s2 H' a cls s' I f q;have J:=I.raised f;let⟨T,hx,hT⟩:=f.ex;show wpAny _ _ (leaving _ _) _ _ _;refine Oj (outer:=outer) J.ok.frames (O0 J.ok rfl) J.stack hx λh' a0 z=>?_;have f2:=f.left hT J.stack J.stkFree z;have J2:=I.raised f2;have aQ:∀b,s2.heap.get? b=fc->s.heap.get? b=fc:=λb e=>by
  cases z:s.heap.get? b with
  |none=>rfl
  |some o =>let⟨o',e'⟩:=I.base.there b o z (by intro m;cases m);rw[e]at e';cases e'
 let⟨T2,hx2,hT2⟩:=f2.ex;exact⟨a,cls,H',rfl,⟨J2.os,J2.bare,J2.base,J2.hok,aQ a f2.na,f2.ha,T2,hx2,λt ht=>⟨aQ t (hT2 t ht).1,(hT2 t ht).2⟩⟩,q⟩
def Fun.ok1{x:Str}{st:Ł}{fd:Ň}{ps:List Str}{k:Nat}{sp:Sp}(F:Fun K x qual st f fd)(S:FnScope N ps<|Zt st)(len:∀vs H Q E,sp vs H Q E->vs.length=ps.length)
  (hbody:∀(ϧ:Ä) (A:č) (outer:List Env) (s:Æ) (H:Hp) (vs:List V) (Q:VK) (E:XK),fN k (A.deeper<|aH qual (Zt st) s.heap.objs.size f ϧ)->sp vs H Q E->
    XW (Mq (CX1 P w) P w K mg base N qual (Zt st) f ϧ A outer s H E) E->
    ∃t,PSs (Mq (CX1 P w) P w K mg base N qual (Zt st) f ϧ A outer s H E) (ZV st) t/\t { nx:=λ_ H'=>Q .non H',rt:=Q } (start N vs) H):fO P w K mg base (CX1 P w) (k+1) f fd ps sp:=by
 let⟨oc,od,kV,doc,pm,an,ϧ,ct,osl,rfl,lk,bj⟩:=F.ex;exact Rj lk bj S len λA outer s H vs Q E hr hsp=>hbody ϧ A outer s H vs Q E hr hsp La
end
abbrev XP(X:Cx)(Â:List<|È×Obj)(σ:St)(E:XK)(v:Ä)(s':Æ):Prop :=
 ∃a cls H1 H' s1,v=.ref a/\Inv X Â σ H1 s1/\Fl X.prog X.w X.stack H1 s1 H' a cls s'/\E cls fc H'
abbrev xcO(a:È)(cls:Ä):HO:=.ext λh=>∃o vs,h.get? a=fb o/\o.cls=cls/\o.data=.fields vs
end L2
namespace L2
open PySem PySem.Spec PySem.W PySem.Calls PyProof.Rows PySem.Builtin PySem.Builtin.ObjectAttr PySem.Builtin.Getset_descriptor
section
variable {prog:è}{w:ā}{A:č}{E:Ä->Æ->Prop}{K:Frag}{h:Ć}{g:Array GenState}{d:Drawn}{t:Nat}{os:OsState}{a C:È}{o:Obj}
structure XCls(K:Frag)(C:È):Prop where
 ga:ac K (.ref C) "__getattribute__" = fb (fb<|.builtin "BaseException.__getattribute__")
 gr:ac K (.ref C) "__getattr__" = fb fc
 cl:ac K (.ref C) "__class__" = fb (fb<|.builtin "object.__class__")
 mo:mroIn K C (.type "object")=fb fe
 mb:mroIn K C (.type "BaseException")=fb fe
 ci:(clsIn K C).isSome=fe
end
end L2
namespace L2
open PySem PySem.Spec PyProof.Rows
section
variable {X:Cx}
def Kk:fq X (.type "int") λxs H Q=>∃z n,xs=[.str z]/\PySem.intText? z=fb n/\z.length<=640/\Q (.int n) H:=by k_put;let⟨z,n,rfl,e,hl,q⟩:=h;let⟨u,rfl,t,rfl⟩:=ZR r;exact PySem.W.KIN.call_text e hl ⟨.int n,H,I.tok _,⟨_,rfl⟩,q⟩
end
end L2
namespace L2
open PySem PySem.Spec PyProof.Rows
open PySem.Builtin PySem.Builtin.Str
abbrev AB(z:Str)(lo hi:Option Int):Str:=if(Α lo hi 1 z.length).length=z.length then z else⟨((Α lo hi 1 z.length).filterMap (z.cps[·]?)).toArray⟩
def BI(z:Str)(lo hi:Option Int):(AB z lo hi).length<=z.length:=by
 unfold AB;split
 .exact Ï _
 .show((Α lo hi 1 z.length).filterMap (z.cps[·]?)).toArray.size<=_;rw[É];exact Þ (Ş _ _)<|indices_len_le lo hi z.length
section
variable {X:Cx}
abbrev Q0:V->Option Int->Option Int->Hp->VK->Prop:=λx lo hi H Q=>∃z,x=.str z/\z.length<=Ü/\Q (.str<|AB z lo hi) H
def Aj{v:Ä}{lo:Option Int}(h:ϒ v lo):∃l:Option<|Int×Tok,v=partValue l/\l.map (·.1)=lo:=by
 cases h with
 |none=>exact⟨fc,rfl,rfl⟩
 |int i t=>exact⟨fb (i,t),rfl,rfl⟩
def sl_str:SlR X Q0:=by
 intro Â s σ H x v vl vu lo hi sl Q I rx hs pl pu h;let⟨z,rfl,hz,q⟩:=h;let⟨t,rfl⟩:=rx;refine⟨"str",_,slot_str_getitem.lookup,typeIs_str s z t,?_⟩;let⟨l,rfl,el⟩:=Aj pl;let⟨u,rfl,eu⟩:=Aj pu;have hs':s.heap.IsSlice sl l u fc:=hs;refine wpAny_getItem_str_slice hs' rfl ?_;have e:sliceMade z t l u fc=if(Α lo hi 1 z.length).length=z.length then .val (.str z t)else .str ⟨((Α lo hi 1 z.length).filterMap (z.cps[·]?)).toArray⟩:=by unfold sliceMade slicePicked;rw[el,eu];simp
 rw[e];have cl:=BI z lo hi;unfold AB at q cl;split
 .rename_i hh;rw[gF hh]at q;exact⟨.str z,H,I,⟨t,rfl⟩,q⟩
 .rename_i hh;rw[gG hh]at q cl;exact⟨Þ cl hz,.str _,H,I.tok _,⟨_,rfl⟩,q⟩
end
section
variable {X:Cx}
def Uq(z:Str):∀(n:Nat) (a:Array Nat),((Í n z.cps).foldl (· ++ ·) a).size=a.size+n*z.cps.size
 |0,a=>by simp
 |n+1,a=>by rw[ï,ē,Uq z n,Array.size_append,Nat.succ_mul];lia
end
end L2
namespace L2
open PySem PySem.Spec PyProof.Rows
section
variable {X:Cx}(K:Frag) (h:X.K=K)
include h
end
end L2
namespace HT
open PySem PyProof.Rows
open PySem.SeqAt
open PySem.AutoSeq1 (wpAny_loadPart')
open PySem.MeetsSeq PySem.MeetsSeq2 PySem.MeetsSeq3
section
variable {prog:è}{w:ā}{A:č}{E:Ä->Æ->Prop}{s:Æ}
def getItem_tuple_whole{t sl:È}{items:Array Ä}{vl vu:Ä}{lo hi:Option Int}{Q:Ä->Æ->Prop}(ht:ϳ s.heap t items)(hs:s.heap.IsSliceOf sl vl vu .none)(pl:ϒ vl lo)(pu:ϒ vu hi)
  (hw:sIx items.size 0 lo=0/\sIx items.size items.size hi=items.size)
  (h:Q (.ref t) s):wpAny (à prog w) A (Ϣ (.ref t)<|.ref sl) Q E s:=by
 let⟨os,hos,hcs,hds⟩:=id hs;have hTs:s.TypeIs (.ref sl) "slice":=⟨os,hos,hcs⟩
 unfold Ϣ
 try with_reducible refine Ĭ ?_
 first|refine Á (Ñ ?_)|skip
 refine Á (wpAny_sequenceKey ht.typeIs (by decide) ?_);refine Á (Ą (name:=gN "__getitem__") ht.typeIs PyProof.Rows.slot_tuple_getitem
   (ď PyProof.Rows.slot_tuple_getitem ht.typeIs entry_tuple_getitem ?_<|args_tuple_getitem _ _))
 show wpAny _ _ (Builtin.Tuple.tupleItemsOf (.ref t) >>= _) _ _ s;refine Á<|tupleItemsOf_ ht ?_;refine Á<|Ε hTs ?_;rw[gF<|by decide];refine Á<|Yz hs pl pu ?_;have hyes:(((sIx items.size 0 lo:Nat):Int)==0&&(1:Int)==1&&(sIx items.size items.size hi - sIx items.size 0 lo)==items.size)=fe:=by rw[hw.1,hw.2];simp
 show wpAny _ _ (if(((sIx items.size 0 lo:Nat):Int)==0&&(1:Int)==1&&(sIx items.size items.size hi - sIx items.size 0 lo)==items.size)=fe then _ else _) _ _ s;rw[gF hyes];refine Á ?_;unfold Builtin.Tuple.tupleIsExact;refine Á<|Ε ht.typeIs<|Ñ ?_;rw[gF<|by decide]
 first
  |exact Á<|Ñ<|Ñ ⟨_,rfl,Ñ h⟩
  |exact Á<|Ο<|Ñ ⟨_,rfl,Ñ h⟩
  |exact Ñ ⟨_,rfl,Ñ h⟩
end
end HT
namespace L2
open PySem PySem.Spec PyProof.Rows
section
variable {X:Cx}
abbrev Qv(K:Frag):V->Option Int->Option Int->Hp->VK->Prop:=λx lo hi H Q=>∃a xs,x=.ref a/\gm K H a xs/\(HT.sIx xs.length 0 lo=0/\HT.sIx xs.length xs.length hi=xs.length)/\Q (.ref a) H
def E5:SlR X<|Qv X.K:=by
 intro Â s σ H x v vl vu lo hi sl Q I rx hs pl pu h;let⟨a,xs,rfl,hx,hw,q⟩:=h;cases rx;let⟨ó,r,ht,hz⟩:=I.tuple hx;have hlen:ó.toArray.size=xs.length:=by rw[É];exact r.length.symm
 refine⟨"tuple",_,PyProof.Rows.slot_tuple_getitem.lookup,ht.typeIs,?_⟩;exact HT.getItem_tuple_whole ht hs pl pu (by rw[hlen];exact hw) ⟨.ref a,H,I,rfl,q⟩
end
end L2
namespace L2
open PySem PySem.Spec PyProof.Rows
open PySem.Builtin PySem.Builtin.Str
section
variable {X:Cx}
abbrev IV(z:Str)(n:Nat):Str:=⟨(Í n z.cps).foldl (· ++ ·) #[]⟩
def KH(z:Array Nat):∀(n:Nat) (a:Array Nat),((Í n z).foldl (· ++ ·) a).toList=a.toList++(Í n z.toList).flatten
 |0,a=>by simp
 |n+1,a=>by rw[ï,ē,KH z n,ï,Ċ,Array.toList_append,û]
abbrev HG:R2:=λx y H Q=>∃z k,x=.str z/\y=.int k/\2<=k/\k<=1000000/\1<=z.length/\z.length*k.toNat<=1000000/\Q (.str<|IV z k.toNat) H
def GD:OpR X (ņ .Mult) HG:=by
 k_sub;let⟨z,k,rfl,rfl,h2,h6,h1,hz,q⟩:=h;let⟨t,rfl⟩:=rx;let⟨t',rfl⟩:=ry;have big:(1000000:Nat)<=Ü:=by decide
 have nb:(k==1||z.length==0)=ff:=by have e1:(k==1)=ff:=beq_false_of_ne (by lia);have e2:(z.length==0)=ff:=beq_false_of_ne (by lia);rw[e1,e2];rfl
 have zl:z.length<=1000000:=by have:z.length*1<=z.length*k.toNat:=dX _ (by lia);lia
 have hr:(gM (k < -(2 ^ 63:Int))||gM (k≥2 ^ 63))=ff:=by rw[gH (by lia),gH<|by lia];rfl
 have hb:¬ k<1->(k==1||z.length==0)=ff->¬ ((z.length:Int) > (2 ^ 63 - 1) / k):=λ_ _=>by have:(1000000:Int)<=(2 ^ 63 - 1) / k:=(cx<|by lia).mpr (by lia);lia
 have hl:¬ k<1->(k==1||z.length==0)=ff->tooLong (z.length*k.toNat)=ff:=λ_ _=>by unfold tooLong;exact gH (by lia)
 refine P.mul_str hr hb hl ?_;rw[gG (by lia),gG<|by rw[nb];exact ý];have el:(⟨(Í k.toNat z.cps).foldl (· ++ ·) #[]⟩:Str).length=z.length*k.toNat:=by show((Í k.toNat z.cps).foldl (· ++ ·) #[]).size=_;rw[Uq,av z.length];simp[Str.length]
 exact⟨by rw[el];lia,.str _,H,I.tok _,⟨_,rfl⟩,q⟩
variable {c y z a b:Str}{k1 k2 k3:Nat}{p1 p2 p3 p4 pa pb ń Ō:Pos}
end
end L2
namespace L2
open PySem PySem.Spec PyProof.Rows
section
variable {X:Cx}
abbrev Hl(K:Frag):R2:=λx y H Q=>∃a b ys,x=.ref a/\y=.ref b/\gm K H a []/\gm K H b ys/\Q (.ref b) H
def op_cat0:OpR X (ņ .Add)<|Hl X.K:=by
 k_sub;let⟨a,b,ys,rfl,rfl,ha,hb,q⟩:=h;cases rx;cases ry;let⟨ó,r1,p1,_⟩:=I.tuple ha;let⟨Ż,r2,p2,_⟩:=I.tuple hb;cases r1;let⟨⟨cls,dd,data,sl⟩,ho,hc,n,hd⟩:=id p1;let⟨⟨cls2,cY,data2,d8⟩,ho2,hc2,n2,bN⟩:=id p2;simp only at hc hd hc2 bN;subst hc hd hc2 bN;exact eL ⟨_,ho,rfl⟩ ⟨_,ho2,rfl⟩ bx dk PySem.F.slot_tuple_add PySem.F.entry_tuple_add (PySem.F.args_tuple_add_2 _ _)
  (tuple_addW0 a b _ _ n n2 dd cY sl d8 rfl) ⟨ho,ho2,.ref b,H,I,rfl,q⟩
end
abbrev Itz(K:Frag)(a b:È):It :=
 ⟨λi H=>∃xs ys x y,gk K H a xs/\gk K H b ys/\xs[i]?=fb x/\ys[i]?=fb y,
  λi H v H'=>∃p,v=.ref p/\H p=fc/\∀xs ys x y,gk K H a xs->gk K H b ys->xs[i]?=fb x->ys[i]?=fb y->H'=upd H p (.tup [x,y]),
  λi H=>∃xs ys,gk K H a xs/\gk K H b ys/\(xs.length<=i\/ys.length<=i)⟩
abbrev ZSt(z TI TO i1 i2 a b:È)(i:Nat)(h:Ć):Prop:=ϛ h z TI TO .none/\Ř h TI (.ref i1) (.ref i2)/\(∃u v,Ř h TO u v)/\h.IsListIter i1 a i/\h.IsListIter i2 b i
variable {z:È} {i1:È} {i2:È} {a:È} {b:È} {i:Nat} {h:Ć}
def ZSt.keep{TI TO:È}{h':Ć}(st:ZSt z TI TO i1 i2 a b i h)(k:∀c∈[z,TI,TO,i1,i2],∀o,h.get? c=fb o->h'.get? c=fb o):ZSt z TI TO i1 i2 a b i h':=by let⟨h1,h2,⟨u,v,h3⟩,h4,h5⟩:=st;exact⟨k z (by simp) _ h1,k TI (by simp) _ h2,⟨u,v,k TO (by simp) _ h3⟩,h4.at λo q=>k i1 (by simp) o q,h5.at λo q=>k i2 (by simp) o q⟩
def ZSt.obj{TI TO:È}(st:ZSt z TI TO i1 i2 a b i h):∀c∈[z,TI,TO,i1,i2],∃o,h.get? c=fb o/\(∀v,o.data≠.cell v)/\o.cls≠.type "list":=by
 let⟨h1,h2,⟨u,v,h3⟩,⟨o4,e4,c4,d4⟩,⟨o5,e5,c5,d5⟩⟩:=st;intro c hc;simp![Ç,Õ,or_false]at hc;rcases hc with rfl|rfl|rfl|rfl|rfl
 .exact⟨_,h1,(λv z=>(by cases z)),(show Value.type "zip"≠.type "list" by decide)⟩
 .exact⟨_,h2,(λv z=>(by cases z)),(show Value.type "tuple"≠.type "list" by decide)⟩
 .exact⟨_,h3,(λv z=>(by cases z)),(show Value.type "tuple"≠.type "list" by decide)⟩
 .exact⟨_,e4,(λv z=>(by rw[d4]at z;cases z)),(by rw[c4];decide)⟩
 .exact⟨_,e5,(λv z=>(by rw[d5]at z;cases z)),(by rw[c5];decide)⟩
def BB{P:è}{w:ā}{K:Frag}{es:List Expr}{kk:Nat}{tp:Pos}(a b z TI TO i1 i2:È)(hnd:[z,TI,TO,i1,i2].Nodup) :
  Turn P w K (.Tuple es kk tp) (Itz K a b) [z,TI,TO,i1,i2] z (λi h=>ZSt z TI TO i1 i2 a b i h) where
 mem:=by simp
 obj:=λi h st c hc=>let ⟨o,e,d,_⟩:=ZSt.obj st c hc;⟨o,e,d⟩
 keep:=λi h h' st k=>ZSt.keep st k
 item:=by
  k_ne;subst hP hw hK;let⟨xs,ys,x,y,hq1,hq2,hx,hy⟩:=hg;let⟨bV,rv1,pl1,hz1⟩:=I.list hq1;let⟨Ż,rv2,pl2,hz2⟩:=I.list hq2;let⟨u1,hu1,ru1⟩:=rv1.get hx;let⟨u2,hu2,ru2⟩:=rv2.get hy;have d9:∀c∈[z,TI,TO,i1,i2],a≠c/\b≠c:=λc Μ=>by
   let⟨o,e,_,nl⟩:=ZSt.obj st c Μ;refine⟨λq=>?_,λq=>?_⟩
   .subst q;let⟨o',e',c',_⟩:=pl1.isList;rw[e]at e';cases e';exact nl c'
   .subst q;let⟨o',e',c',_⟩:=pl2.isList;rw[e]at e';cases e';exact nl c'
  simp![Ā,Ç,Õ,or_false,not_or]at hnd;let⟨⟨n1,n2,n3,n4⟩,⟨n5,n6,n7⟩,⟨n8,n9⟩,n10,_⟩:=hnd;have D:a8 z TI TO i1 i2 a b:=by constructor<;>first|exact Ne.symm (by assumption)|assumption|exact(d9 _<|by simp).1|exact(d9 _<|by simp).2
  let⟨h1,h2,⟨o1,o2,h3⟩,h4,h5⟩:=st;refine wpAny_pyNext_zip_item D h1 h2 h3 h4 h5 pl1.isList pl2.isList (x:=u1) (y:=u2) ⇑hu1 ⇑hu2 λh' a1 a2 a3 a4 a5 a6 a7=>?_;have aG:=I.fpOk (H':=H) (Ï s.heap.objs.size) I.fresh;refine⟨.ref s.heap.objs.size,rfl,cT a1 λcN b1 b2=>?_⟩;have nT:∀c∈[z,TI,TO,i1,i2],s.heap.objs.size≠c:=λc Μ q=>by let⟨o,e,_⟩:=ZSt.obj ⟨h1,h2,⟨o1,o2,h3⟩,h4,h5⟩ c Μ;exact gL (Ø e) (by rw[<-q];exact Ĕ _)
  have I4:Inv X Â σ H {s with heap:=cN,toks:=s.toks}:=I.turnedL (t':=s.toks) (ch:=[z,TI,TO,i1,i2]) (λc o Μ q=>b2.extBut c o (λe=>Μ<|by simp[e])<|a7 c o (λe=>Μ<|by simp[e]) (λe=>Μ<|by simp[e]) (λe=>Μ<|by simp[e]) (λe=>Μ<|by simp[e]) q) hf;have hT4:Ř cN s.heap.objs.size u1 u2:=b2.extBut _ _ (nT z<|by simp) a5;let⟨f0,f1,f2,f3,f4,f5⟩:=aG;have I5:Inv X Â σ (upd H s.heap.objs.size<|.tup [x,y]) {s with heap:=cN,toks:=s.toks}:=I4.track f0 I.sz f1 f4 f5 ⟨by show 2<=Ü;decide,[u1,u2],.cons ru1<|.cons ru2 .nil,_,hT4,rfl,_,rfl⟩;refine⟨.ref s.heap.objs.size,_,I5,rfl,⟨s.heap.objs.size,rfl,f0,λxs' ys' x' y' q1 q2 q3 q4=>?_⟩,⟨b1,b2.extBut _ _ D.TIz<|a7 TI _ D.TIz D.TITO D.TIi1 D.TIi2 h2,⟨u1,u2,b2.extBut _ _ D.TOz a2⟩,a3.at λo q=>b2.extBut i1 o D.i1z q,a4.at λo q=>b2.extBut i2 o D.i2z q⟩,λc Μ=>?_⟩
  .have e1:xs'=xs:=I.list_inj q1 hq1;have e2:ys'=ys:=I.list_inj q2 hq2;subst e1 e2;rw[hx]at q3;rw[hy]at q4;cases q3;cases q4;rfl
  .rw[fg (nT c Μ).symm];exact(hf c Μ).1
 done:=by
  k_ne;subst hP hw hK;let⟨xs,ys,hq1,hq2,hend⟩:=hg;let⟨bV,rv1,pl1,hz1⟩:=I.list hq1;let⟨Ż,rv2,pl2,hz2⟩:=I.list hq2;have hl1:=rv1.length;have hl2:=rv2.length;have d9:∀c∈[z,TI,TO,i1,i2],a≠c/\b≠c:=λc Μ=>by
   let⟨o,e,_,nl⟩:=ZSt.obj st c Μ;refine⟨λq=>?_,λq=>?_⟩
   .subst q;let⟨o',e',c',_⟩:=pl1.isList;rw[e]at e';cases e';exact nl c'
   .subst q;let⟨o',e',c',_⟩:=pl2.isList;rw[e]at e';cases e';exact nl c'
  simp![Ā,Ç,Õ,or_false,not_or]at hnd;let⟨⟨n1,n2,n3,n4⟩,⟨n5,n6,n7⟩,⟨n8,n9⟩,n10,_⟩:=hnd;have D:a8 z TI TO i1 i2 a b:=by constructor<;>first|exact Ne.symm (by assumption)|assumption|exact(d9 _<|by simp).1|exact(d9 _<|by simp).2
  let⟨h1,h2,⟨o1,o2,h3⟩,h4,h5⟩:=st;refine wpAny_pyNext_zip_end (I.ok.hd hc) D h1 h2 h3 h4 h5 pl1.isList pl2.isList ?_ λh' hk=>?_
  .rcases hend with e|e
   .left;simp;lia
   .right;simp;lia
  .exact⟨rfl,I.turnedL (t':=s.toks) (ch:=[z,TI,TO,i1,i2]) (λc o Μ q=>hk c o (λe=>Μ<|by simp[e]) (λe=>Μ<|by simp[e]) (λe=>Μ<|by simp[e]) (λe=>Μ<|by simp[e]) q) hf⟩
 self:=λA i s Q E st h=>Ϝ st.1 h
section
variable {X:Cx}
abbrev Qa(te:TE):TE:=λσ H Q=>te σ H λx H1=>(∃i,x=.int i/\i.natAbs.log2<1920/\Q (.str<|toString i) H1)\/∃z,x=.str z/\z.length<=Ü/\Q (.str z) H1
def G7{e:Expr}{te:TE}{ì:Pos}(he:PE X e te):PE X (.FormattedValue e (-1) fc ì)<|Qa te:=by
 k_upd;refine wpAny_FormattedValue_plain<|thn (he Â s σ H _ I h) λv s1 ⟨x,H1,I1,r1,q1⟩=>?_;rcases q1 with⟨i,e1,hd,q1⟩|⟨z,e1,hz,q1⟩
 .subst e1;let⟨t,rfl⟩:=r1;exact wpAny_formatField_int hd ⟨.str _,H1,I1.tok _,⟨_,rfl⟩,q1⟩
 .subst e1;let⟨t,rfl⟩:=r1;exact wpAny_formatField_str ⟨.str _,H1,I1,⟨_,rfl⟩,q1⟩ ⟨.str _,H1,I1.tok _,⟨_,rfl⟩,q1⟩ hz
abbrev FA(K:Frag)(neg:Bool):R2:=λx y H Q=>∃ds d,(IsD K H y (.tuple ds)\/IsD K H y (.list ds))/\IsD K H x d/\ŏ ds=fe/\d.canLay0=fe/\d.depth<=64/\Q (.bl<|if neg then !ds.any (λe=>ĥ e d)else ds.any λe=>ĥ e d) H
def Im(hu:X.A.units+65<Ħ):OpR X (ð .In)<|FA X.K ff:=by
 k_sub;let⟨ds,d,hd,he,sd,se,hdp,q⟩:=h;let⟨bs,rb⟩:=he.reads I rx;have hr:X.A.units+1+min (ļ ds) d.depth<Ħ:=by have:min (ļ ds) d.depth<=d.depth:=aI _ _;lia
 rcases hd with hd|hd
 .obtain⟨as,ra⟩:=hd.reads I ry;exact SeqAt.in_tuple_reads ra rb sd se hr ⟨.bl _,H,I,rfl,q⟩
 .obtain⟨as,ra⟩:=hd.reads I ry;exact SeqAt.in_list_reads ra rb sd se hr ⟨.bl _,H,I,rfl,q⟩
def AH(hu:X.A.units+65<Ħ):OpR X (ð .NotIn)<|FA X.K fe:=by
 k_sub;let⟨ds,d,hd,he,sd,se,hdp,q⟩:=h;let⟨bs,rb⟩:=he.reads I rx;have hr:X.A.units+1+min (ļ ds) d.depth<Ħ:=by have:min (ļ ds) d.depth<=d.depth:=aI _ _;lia
 rcases hd with hd|hd
 .obtain⟨as,ra⟩:=hd.reads I ry;exact SeqAt.notIn_tuple_reads ra rb sd se hr ⟨.bl _,H,I,rfl,q⟩
 .obtain⟨as,ra⟩:=hd.reads I ry;exact SeqAt.notIn_list_reads ra rb sd se hr ⟨.bl _,H,I,rfl,q⟩
end
section
variable {prog:è}{w:ā}{A:č}{E:Ä->Æ->Prop}{s:Æ}
variable {z:È}
def UZ{TI TO:È}{Q:Bool->Æ->Prop}(q1:ϛ s.heap z TI TO .none)(q:Q fe s):wpAny (à prog w) A (Builtin.SmallTypes.ownedTupleIsFree<|.ref z) Q E s:=by unfold Builtin.SmallTypes.ownedTupleIsFree;exact Á (ă q1 rfl (x:=.none) rfl<|Ñ q)
variable {i1:È} {i2:È} {t1:È} {t2:È} {xs:Array Ä} {ys:Array Ä} {u:Ä}
def AE{TI TO:È}{k:Nat}{x y v:Ä}{Q:Ä->Æ->Prop}(D:a8 z TI TO i1 i2 t1 t2)
  (q1:ϛ s.heap z TI TO .none) (q2:Ř s.heap TI (.ref i1)<|.ref i2) (q3:Ř s.heap TO u v) (p1:s.heap.IsTupleIter i1 t1 k) (p2:s.heap.IsTupleIter i2 t2 k) (r1:s.heap.IsTuple t1 xs) (r2:s.heap.IsTuple t2 ys) (hx:xs[k]?=fb x) (hy:ys[k]?=fb y)
  (q:∀g,ϛ g z TI TO (Ŝ s.heap.objs.size)->Ř g TO x y->g.IsTupleIter i1 t1 (k+1)->g.IsTupleIter i2 t2 (k+1)->Ř g s.heap.objs.size x y->
    (∀c o,c≠z->c≠TO->c≠i1->c≠i2->s.heap.get? c=fb o->g.get? c=fb o)->Q (.ref s.heap.objs.size) { s with heap:=g }) :
  wpAny (à prog w) A (Builtin.«zip.__next__» ⟨[.ref z],[]⟩) (λfin s'=>∃a,fin=.done (.ret a)/\Q a s') E s:=by
 show wpAny _ _ (Ϸ (.ref z) 2 >>= _) _ _ s;refine Á<|ă q1 rfl (x:=.bool ff) rfl ?_;show wpAny _ _ (Ϸ (.ref z) 3 >>= _) _ _ s;refine Á<|ă q1 rfl (x:=.ref TI) rfl<|Á<|ċ q2 rfl ?_;show wpAny _ _ (Builtin.SmallTypes.ownedTupleIsFree (.ref z) >>= _) _ _ s;refine Á<|UZ q1 ?_;simp![if_true];refine Á (Ο<|Á<|ă q1 rfl (x:=.ref TO) rfl<|Á<|Œ q1 (by simp) λg1 y1 m1=>?_)
 replace y1:ϛ g1 z TI TO .ellipsis:=y1
 simp![Ψ,List.zipIdx_nil,ϓ,List.forIn_nil];refine Á<|Á<|Á<|aE ?_;show wpAny _ _ (Builtin.SmallTypes.nextOf (.ref i1) >>= _) _ _ _;refine Á<|YF (p1.extBut m1.extBut D.i1z) (r1.extBut m1.extBut D.l1z) hx λg2 y2 m2=>Ñ ?_;have o2:Ř g2 TO u v:=m2.extBut _ _ D.TOi1<|m1.extBut _ _ D.TOz q3;refine Á<|ċ o2 rfl<|Á<|ae o2 λg3 o3 m3=>Á<|Ŵ<|Ñ ?_
 replace o3:Ř g3 TO x v:=o3
 refine Á<|Á<|aE ?_;show wpAny _ _ (Builtin.SmallTypes.nextOf (.ref i2) >>= _) _ _ _;have n2:=((p2.extBut m1.extBut D.i2z).extBut m2.extBut D.i12.symm).extBut m3.extBut D.TOi2.symm;have w2:=((r2.extBut m1.extBut D.l2z).extBut m2.extBut D.l2i1).extBut m3.extBut D.l2TO;refine Á<|YF n2 w2 hy λg4 y4 m4=>Ñ ?_;have o4:Ř g4 TO x v:=m4.extBut _ _ D.TOi2 o3;refine Á<|ċ o4 rfl<|Á<|ae o4 λg5 o5 m5=>Á<|Ŵ<|Ñ<|Ñ ?_
 replace o5:Ř g5 TO x y:=o5
 refine Á<|ċ o5 rfl<|Á<|wpAny_newTuple ?_;have sz:g5.objs.size=s.heap.objs.size:=by rw[m5.1,m4.1,m3.1,m2.1,m1.1]
 have y5:ϛ g5 z TI TO .ellipsis:=m5.extBut _ _ D.TOz.symm<|m4.extBut _ _ D.i2z.symm<|m3.extBut _ _ D.TOz.symm<|m2.extBut _ _ D.i1z.symm y1;have kp:∀c o,c≠z->c≠TO->c≠i1->c≠i2->s.heap.get? c=fb o->g5.get? c=fb o:=λc o a1 a2 a3 a4 e=>m5.extBut _ _ a2<|m4.extBut _ _ a4<|m3.extBut _ _ a2<|m2.extBut _ _ a3<|m1.extBut _ _ a1 e;have j1:g5.IsTupleIter i1 t1<|k+1:=((y2.extBut m3.extBut D.TOi1.symm).extBut m4.extBut D.i12).extBut m5.extBut D.TOi1.symm;have j2:g5.IsTupleIter i2 t2<|k+1:=y4.extBut m5.extBut D.TOi2.symm;have zl:z<g5.objs.size:=Ø y5;show wpAny _ _ (Builtin.SmallTypes.ownedTupleHandOut (.ref z) (.ref g5.objs.size) >>= _) _ _ _;refine Á ?_;unfold Builtin.SmallTypes.ownedTupleHandOut;have y6:ϛ (g5.push {cls:=.type "tuple",data:=.seq #[x,y]}) z TI TO .ellipsis:=Ã _ y5;refine Á (Œ y6 (by simp) λg7 y7 m7=>?_)
 replace y7:ϛ g7 z TI TO<|Ŝ g5.objs.size:=y7
 refine Œ y7 (by simp) λg8 y8 m8=>?_
 replace y8:ϛ g8 z TI TO<|Ŝ g5.objs.size:=y8
 have up:∀c o,c≠z->g5.get? c=fb o->g8.get? c=fb o:=λc o a1 e=>m8.extBut _ _ a1<|m7.extBut _ _ a1<|Ã _ e;have o8:Ř g8 g5.objs.size x y:=m8.extBut _ _ (İ zl)<|m7.extBut _ _ (İ zl)<|Ô _ rfl;rw[sz]at y8 o8;refine Ñ ⟨_,rfl,?_⟩;show Q (.ref g5.objs.size) _;rw[sz];exact q g8 y8 (up _ _ D.TOz o5) (j1.at λo e=>up _ o D.i1z e) (j2.at λo e=>up _ o D.i2z e) o8 λc o a1 a2 a3 a4 e=>up c o a1<|kp c o a1 a2 a3 a4 e
def Ee{TI TO:È}{k:Nat}{v:Ä}{Q:Fin->Æ->Prop}(hh:A.handled=fc)(D:a8 z TI TO i1 i2 t1 t2)
  (q1:ϛ s.heap z TI TO .none) (q2:Ř s.heap TI (.ref i1)<|.ref i2) (q3:Ř s.heap TO u v) (p1:s.heap.IsTupleIter i1 t1 k) (p2:s.heap.IsTupleIter i2 t2 k) (r1:s.heap.IsTuple t1 xs) (r2:s.heap.IsTuple t2 ys) (hend:xs[k]?=fc\/ys[k]?=fc)
  (q:∀g e,(∀c o,c≠z->c≠TO->c≠i1->c≠i2->s.heap.get? c=fb o->g.get? c=fb o)->(∃o,g.get? e=fb o/\o.cls=.type "StopIteration")->E (.ref e) {s with heap:=g}) :
  wpAny (à prog w) A (Builtin.«zip.__next__» ⟨[.ref z],[]⟩) Q E s:=by
 show wpAny _ _ (Ϸ (.ref z) 2 >>= _) _ _ s;refine Á<|ă q1 rfl (x:=.bool ff) rfl ?_;show wpAny _ _ (Ϸ (.ref z) 3 >>= _) _ _ s;refine Á<|ă q1 rfl (x:=.ref TI) rfl<|Á<|ċ q2 rfl ?_;show wpAny _ _ (Builtin.SmallTypes.ownedTupleIsFree (.ref z) >>= _) _ _ s;refine Á<|UZ q1 ?_;simp![if_true];refine Á (Ο<|Á<|ă q1 rfl (x:=.ref TO) rfl<|Á<|Œ q1 (by simp) λg1 y1 m1=>?_)
 replace y1:ϛ g1 z TI TO .ellipsis:=y1
 simp![Ψ,List.zipIdx_nil,ϓ,List.forIn_nil];refine Á<|Á<|Á<|aE ?_;show wpAny _ _ (Builtin.SmallTypes.nextOf (.ref i1) >>= _) _ _ _;cases hx:xs[k]? with
 |none =>
  refine Á<|Xv hh (p1.extBut m1.extBut D.i1z) (r1.extBut m1.extBut D.l1z) hx λg2 e m2 he=>?_;let⟨oe,e1,e2⟩:=he;have y2:ϛ g2 z TI TO .ellipsis:=m2 _ _ D.i1z.symm y1;have ne:e≠z:=λa=>by subst a;rw[y2]at e1;cases e1;simp at e2
  exact Œ y2 (by simp) λg3 _ m3=>q g3 e (λc o a1 _ a3 _ b=>m3.extBut _ _ a1<|m2 _ _ a3<|m1.extBut _ _ a1 b) ⟨oe,m3.extBut _ _ ne e1,e2⟩
 |some x =>
  have hy:ys[k]?=fc:=hend.elim (λh=>by rw[hx]at h;cases h) id;refine Á<|YF (p1.extBut m1.extBut D.i1z) (r1.extBut m1.extBut D.l1z) hx λg2 y2 m2=>Ñ ?_;have o2:Ř g2 TO u v:=m2.extBut _ _ D.TOi1<|m1.extBut _ _ D.TOz q3;refine Á<|ċ o2 rfl<|Á<|ae o2 λg3 o3 m3=>Á<|Ŵ<|Ñ ?_;refine Á<|Á<|aE ?_;show wpAny _ _ (Builtin.SmallTypes.nextOf (.ref i2) >>= _) _ _ _;have n2:=((p2.extBut m1.extBut D.i2z).extBut m2.extBut D.i12.symm).extBut m3.extBut D.TOi2.symm;have w2:=((r2.extBut m1.extBut D.l2z).extBut m2.extBut D.l2i1).extBut m3.extBut D.l2TO;refine Á<|Xv hh n2 w2 hy λg4 e m4 he=>?_;let⟨oe,e1,e2⟩:=he;have y4:ϛ g4 z TI TO .ellipsis:=m4 _ _ D.i2z.symm<|m3.extBut _ _ D.TOz.symm<|m2.extBut _ _ D.i1z.symm y1;have ne:e≠z:=λa=>by subst a;rw[y4]at e1;cases e1;simp at e2
  exact Œ y4 (by simp) λg5 _ m5=>q g5 e (λc o a1 a2 a3 a4 b=>m5.extBut _ _ a1<|m4 _ _ a4<|m3.extBut _ _ a2<|m2.extBut _ _ a3<|m1.extBut _ _ a1 b) ⟨oe,m5.extBut _ _ ne e1,e2⟩
end
noncomputable abbrev zh1(h:Ć)(l:È):Ć:=h.push {cls:=.type "tuple_iterator",data:=.fields #[.ref l,.int 0 0]}
noncomputable abbrev zh2(h:Ć)(l m:È):Ć:=(zh1 h l).push {cls:=.type "tuple_iterator",data:=.fields #[.ref m,.int 0 0]}
noncomputable abbrev zh3(h:Ć)(l m:È):Ć:=(zh2 h l m).push {cls:=.type "tuple",data:=.seq #[.ref h.objs.size,.ref (zh1 h l).objs.size]}
noncomputable abbrev zh4(h:Ć)(l m:È):Ć:=(zh3 h l m).push {cls:=.type "tuple",data:=.seq #[.none,.none]}
noncomputable abbrev zh5(h:Ć)(l m:È):Ć:=(zh4 h l m).push {cls:=.type "zip",data:=.fields #[.none,.bool ff,.bool ff,.ref (zh2 h l m).objs.size,.ref (zh3 h l m).objs.size]}
variable {h:Ć} {l:È} {xs:Array Ä}
def IsTuple.push'(r:h.IsTuple l xs)(o:Obj):(h.push o).IsTuple l xs:=by let⟨ob,e,q⟩:=r;exact⟨ob,Ã _ e,q⟩
def OC(l m:È)(xs ys:Array Ä):Meets (Builtin.«zip.__new__» ⟨[.type "zip",.ref l,.ref m],[]⟩) (λ_ R s=>s.heap.IsTuple l xs/\s.heap.IsTuple m ys/\R (.ok<|.ret<|.ref (zh4 s.heap l m).objs.size) {s with heap:=zh5 s.heap l m}) :=
 .of_wp λprog w A R s h=>by
  let⟨hp,g,d,tk,os⟩:=s;let⟨r1,r2,q⟩:=h;have hsub:=sub_zip;have c1:bZ (aw ⟨hp,g,d,tk,os⟩) l xs:=r1;have c2:bZ (aw ⟨hp.push {cls:=.type "tuple_iterator",data:=.fields #[.ref l,.int 0 0]},g,d,tk,os⟩) m ys:=IsTuple.push' r2 _
  wp_walk using ů c1,ů c2
  exact⟨_,rfl,q⟩
variable {w:ā}
def AY{prog:è}{A:č}{E:Ä->Æ->Prop}{s:Æ}{m:È}{ys:Array Ä}{Q:Ä->Æ->Prop}(r1:s.heap.IsTuple l xs)(r2:s.heap.IsTuple m ys)
  (q:∀g,ϛ g (s.heap.objs.size+4) (s.heap.objs.size+2) (s.heap.objs.size+3) .none->Ř g (s.heap.objs.size+2) (.ref s.heap.objs.size) (.ref<|s.heap.objs.size+1)->Ř g (s.heap.objs.size+3) .none .none->
    g.IsTupleIter s.heap.objs.size l 0->g.IsTupleIter (s.heap.objs.size+1) m 0->(∀c o,s.heap.get? c=fb o->g.get? c=fb o)->Q (.ref<|s.heap.objs.size+4) { s with heap:=g }):wpAny (à prog w) A (call (.type "zip") [.ref l,.ref m]) Q E s:=by
 refine eR F.called_zip (by decide) (F.typeCall_zip_2 _ _) (F.newCall_zip_2 _ _) (λobj=>F.args_object_init_3 obj _ _) F.entry_zip_new (OC l m xs ys) ⟨r1,r2,?_⟩;have s1:(zh1 s.heap l).objs.size=s.heap.objs.size+1:=ğ ..;have s2:(zh2 s.heap l m).objs.size=s.heap.objs.size+2:=by rw[ğ,s1]
 have s3:(zh3 s.heap l m).objs.size=s.heap.objs.size+3:=by rw[ğ,s2]
 have s4:(zh4 s.heap l m).objs.size=s.heap.objs.size+4:=by rw[ğ,s3]
 have f5:(zh5 s.heap l m).get? (zh4 s.heap l m).objs.size=fb _:=Ô _ rfl;have f4:(zh5 s.heap l m).get? (zh3 s.heap l m).objs.size=fb _:=Ã _<|Ô _ rfl;have f3:(zh5 s.heap l m).get? (zh2 s.heap l m).objs.size=fb _:=Ã _<|Ã _<|Ô _ rfl;have f2:(zh5 s.heap l m).get? (zh1 s.heap l).objs.size=fb _:=Ã _<|Ã _<|Ã _<|Ô _ rfl;have f1:(zh5 s.heap l m).get? s.heap.objs.size=fb _:=Ã _<|Ã _<|Ã _<|Ã _<|Ô _ rfl;show _/\_;rw[s2,s3,s4]at f5;rw[s1,s2]at f3;rw[s3]at f4;rw[s1]at f2;rw[s4];exact⟨⟨_,f5,rfl⟩,q _ f5 f3 f4 ⟨_,f1,rfl,rfl⟩ ⟨_,f2,rfl,rfl⟩ λc o b=>Ã _<|Ã _<|Ã _<|Ã _<|Ã _ b⟩
abbrev Ity(K:Frag)(a b:È):It :=
 ⟨λi H=>∃xs ys x y,gm K H a xs/\gm K H b ys/\xs[i]?=fb x/\ys[i]?=fb y,
  λi H v H'=>∃p,v=.ref p/\H p=fc/\∀xs ys x y,gm K H a xs->gm K H b ys->xs[i]?=fb x->ys[i]?=fb y->H'=upd H p (.tup [x,y]),
  λi H=>∃xs ys,gm K H a xs/\gm K H b ys/\(xs.length<=i\/ys.length<=i)⟩
abbrev ZSy(z TI TO i1 i2 a b:È)(i:Nat)(h:Ć):Prop:=ϛ h z TI TO .none/\Ř h TI (.ref i1) (.ref i2)/\(∃u v,Ř h TO u v)/\h.IsTupleIter i1 a i/\h.IsTupleIter i2 b i
variable {z:È} {i1:È} {i2:È} {a:È} {b:È} {i:Nat}
def ZSy.keep{TI TO:È}{h':Ć}(st:ZSy z TI TO i1 i2 a b i h)(k:∀c∈[z,TI,TO,i1,i2],∀o,h.get? c=fb o->h'.get? c=fb o):ZSy z TI TO i1 i2 a b i h':=by let⟨h1,h2,⟨u,v,h3⟩,h4,h5⟩:=st;exact⟨k z (by simp) _ h1,k TI (by simp) _ h2,⟨u,v,k TO (by simp) _ h3⟩,h4.at λo q=>k i1 (by simp) o q,h5.at λo q=>k i2 (by simp) o q⟩
def ZSy.obj{TI TO:È}(st:ZSy z TI TO i1 i2 a b i h):∀c∈[z,TI,TO,i1,i2],∃o,h.get? c=fb o/\∀v,o.data≠.cell v:=by
 let⟨h1,h2,⟨u,v,h3⟩,⟨o4,e4,c4,d4⟩,⟨o5,e5,c5,d5⟩⟩:=st;intro c hc;simp![Ç,Õ,or_false]at hc;rcases hc with rfl|rfl|rfl|rfl|rfl
 .exact⟨_,h1,λv z=>by cases z⟩
 .exact⟨_,h2,λv z=>by cases z⟩
 .exact⟨_,h3,λv z=>by cases z⟩
 .exact⟨_,e4,λv z=>by rw[d4]at z;cases z⟩
 .exact⟨_,e5,λv z=>by rw[d5]at z;cases z⟩
variable {es:List Expr} {kk:Nat} {tp:Pos}
def A8{P:è}{K:Frag}(a b z TI TO i1 i2:È)(hnd:[z,TI,TO,i1,i2].Nodup) :
  Turn P w K (.Tuple es kk tp) (Ity K a b) [z,TI,TO,i1,i2] z (λi h=>ZSy z TI TO i1 i2 a b i h/\(∀c∈[z,TI,TO,i1,i2],a≠c/\b≠c)) where
 mem:=by simp
 obj:=λi h st c hc=>ZSy.obj st.1 c hc
 keep:=λi h h' st k=>⟨ZSy.keep st.1 k,st.2⟩
 item:=by
  k_ne;subst hP hw hK;let⟨st,d9⟩:=st;let⟨xs,ys,x,y,hq1,hq2,hx,hy⟩:=hg;let⟨bV,rv1,pl1,hz1⟩:=I.tuple hq1;let⟨Ż,rv2,pl2,hz2⟩:=I.tuple hq2;let⟨u1,hu1,ru1⟩:=rv1.get hx;let⟨u2,hu2,ru2⟩:=rv2.get hy;have hnd':=hnd;simp![Ā,Ç,Õ,or_false,not_or]at hnd';let⟨⟨n1,n2,n3,n4⟩,⟨n5,n6,n7⟩,⟨n8,n9⟩,n10,_⟩:=hnd';have D:a8 z TI TO i1 i2 a b:=by constructor<;>first|exact Ne.symm (by assumption)|assumption|exact(d9 _<|by simp).1|exact(d9 _<|by simp).2
  have nT:∀c∈[z,TI,TO,i1,i2],s.heap.objs.size≠c:=λc Μ q=>by let⟨o,e,_⟩:=ZSy.obj st c Μ;exact gL (Ø e) (by rw[<-q];exact Ĕ _)
  let⟨h1,h2,⟨o1,o2,h3⟩,h4,h5⟩:=st;have hT:s.TypeIs (.ref z) "zip":=⟨_,h1,rfl⟩
  have aG:=I.fpOk (H':=H) (Ï s.heap.objs.size) I.fresh;unfold Ů;refine Á (ξ<|Ą (name:=gN "__next__") hT F.slot_zip_next<|ď F.slot_zip_next hT F.entry_zip_next (AE D h1 h2 h3 h4 h5 (show s.heap.IsTuple a bV.toArray from pl1) (show s.heap.IsTuple b Ż.toArray from pl2) (x:=u1) (y:=u2) ⇑hu1 ⇑hu2 λh' a1 a2 a3 a4 a5 a7=>Ñ ?_)<|F.args_zip_next_1 _);refine⟨.ref s.heap.objs.size,rfl,cT a1 λcN b1 b2=>?_⟩;have I4:Inv X Â σ H {s with heap:=cN,toks:=s.toks}:=I.turnedL (t':=s.toks) (ch:=[z,TI,TO,i1,i2]) (λc o Μ q=>b2.extBut c o (λe=>Μ<|by simp[e])<|a7 c o (λe=>Μ<|by simp[e]) (λe=>Μ<|by simp[e]) (λe=>Μ<|by simp[e]) (λe=>Μ<|by simp[e]) q) hf;have hT4:Ř cN s.heap.objs.size u1 u2:=b2.extBut _ _ (nT z<|by simp) a5;let⟨f0,f1,f2,f3,f4,f5⟩:=aG;have I5:Inv X Â σ (upd H s.heap.objs.size<|.tup [x,y]) {s with heap:=cN,toks:=s.toks}:=I4.track f0 I.sz f1 f4 f5 ⟨by show 2<=Ü;decide,[u1,u2],.cons ru1<|.cons ru2 .nil,_,hT4,rfl,_,rfl⟩;refine⟨.ref s.heap.objs.size,_,I5,rfl,⟨s.heap.objs.size,rfl,f0,λxs' ys' x' y' q1 q2 q3 q4=>?_⟩,⟨⟨b1,b2.extBut _ _ D.TIz<|a7 TI _ D.TIz D.TITO D.TIi1 D.TIi2 h2,⟨u1,u2,b2.extBut _ _ D.TOz a2⟩,a3.at λo q=>b2.extBut i1 o D.i1z q,a4.at λo q=>b2.extBut i2 o D.i2z q⟩,d9⟩,λc Μ=>?_⟩
  .have e1:xs'=xs:=I.tuple_inj q1 hq1;have e2:ys'=ys:=I.tuple_inj q2 hq2;subst e1 e2;rw[hx]at q3;rw[hy]at q4;cases q3;cases q4;rfl
  .rw[fg (nT c Μ).symm];exact(hf c Μ).1
 done:=by
  k_ne;subst hP hw hK;let⟨st,d9⟩:=st;let⟨xs,ys,hq1,hq2,hend⟩:=hg;let⟨bV,rv1,pl1,hz1⟩:=I.tuple hq1;let⟨Ż,rv2,pl2,hz2⟩:=I.tuple hq2;have hl1:=rv1.length;have hl2:=rv2.length;have hnd':=hnd;simp![Ā,Ç,Õ,or_false,not_or]at hnd';let⟨⟨n1,n2,n3,n4⟩,⟨n5,n6,n7⟩,⟨n8,n9⟩,n10,_⟩:=hnd';have D:a8 z TI TO i1 i2 a b:=by constructor<;>first|exact Ne.symm (by assumption)|assumption|exact(d9 _<|by simp).1|exact(d9 _<|by simp).2
  let⟨h1,h2,⟨o1,o2,h3⟩,h4,h5⟩:=st;have hT:s.TypeIs (.ref z) "zip":=⟨_,h1,rfl⟩
  unfold Ů;refine Á (ξ<|Ą (name:=gN "__next__") hT F.slot_zip_next<|ď F.slot_zip_next hT F.entry_zip_next (Ee (A:=X.A.in1) (I.ok.hd hc) D h1 h2 h3 h4 h5 (show s.heap.IsTuple a bV.toArray from pl1) (show s.heap.IsTuple b Ż.toArray from pl2) ?_ λh' e hk he=>?_)<|F.args_zip_next_1 _)
  .rcases hend with e|e
   .left;simp;lia
   .right;simp;lia
  .obtain⟨o,ho,ah⟩:=he;exact Á (θ (T:="StopIteration") (b:=fe) ⟨o,ho,ah⟩ aa<|Ñ ⟨rfl,I.turnedL (t':=s.toks) (ch:=[z,TI,TO,i1,i2]) (λc o Μ q=>hk c o (λe=>Μ<|by simp[e]) (λe=>Μ<|by simp[e]) (λe=>Μ<|by simp[e]) (λe=>Μ<|by simp[e]) q) hf⟩)
 self:=λA i s Q E st h=>Ϝ st.1.1 h
section
variable {X:Cx}
abbrev PY(K:Frag)(ta:TA):TI:=λσ H R=>ta σ H λvs H1=>∃a b,vs=[.ref a,.ref b]/\(((∃xs,gk K H1 a xs)/\(∃ys,gk K H1 b ys)/\R (Itz K a b) H1)\/((∃xs,gm K H1 a xs)/\(∃ys,gm K H1 b ys)/\R (Ity K a b) H1))
def Fb{p ì:Pos}{e e2:Expr}{ta:TA}(hg:Gl X "zip")(hm:X.mg "zip" = fc)(ha:PA X [e,e2] ta)(hs:Ú [e,e2] X.env=(ff,eval e X.env)::Ú [e2] X.env)(hpl:(ě ì<|Ú [e2] X.env).any (·.1)=ff) :
  PI X (.Tuple es kk tp) (.Call (.Name "zip" p) [e,e2] [] ì) (PY X.K ta):=by
 intro Â s σ H R I h;refine Call_ (Z2 (u:=.type "zip") I hg hm (by kernel_rfl)<|PyProof.Rows.callWith_type1 (T:="zip") (thn (ha ì Â s σ H _ I h) λus s1 ⟨vs,H1,I1,r1,q1⟩=>?_) hs hpl);let⟨a,b,e1,q1⟩:=q1;subst e1;cases r1 with
 |cons ra rt =>
 cases rt with
 |cons rb rt =>
 cases rt;cases ra;cases rb;have far:∀c∈[s1.heap.objs.size+4,s1.heap.objs.size+2,s1.heap.objs.size+3,s1.heap.objs.size,s1.heap.objs.size+1],s1.heap.objs.size<=c:=λc hc=>by
  simp![Ç,Õ,or_false]at hc;rcases hc with rfl|rfl|rfl|rfl|rfl
  .exact ϊ _ _
  .exact ϊ _ _
  .exact ϊ _ _
  .exact Ï _
  .exact ϊ _ _
 rcases q1 with⟨⟨xs,hq1⟩,⟨ys,hq2⟩,q⟩|⟨⟨xs,hq1⟩,⟨ys,hq2⟩,q⟩
 .obtain⟨bV,rv1,pl1,hz1⟩:=I1.list hq1;let⟨Ż,rv2,pl2,hz2⟩:=I1.list hq2;refine call_zip_2 pl1.isList pl2.isList λh2 a1 a2 a3 a4 a5 a6 a7=>?_;have I2:Inv X Â σ H1 {s1 with heap:=h2}:=I1.kept (t':=s1.toks) a7;exact Ϝ a1 ⟨s1.heap.objs.size+4,[s1.heap.objs.size+4,s1.heap.objs.size+2,s1.heap.objs.size+3,s1.heap.objs.size,s1.heap.objs.size+1],_,_,H1,rfl,I2,BB a b _ _ _ _ _ (by simp),⟨a1,a2,⟨_,_,a3⟩,a4,a5⟩,λc hc=>I1.fpOk (far c hc)<|I1.hok.fresh<|far c hc,q⟩
 .obtain⟨bV,rv1,pl1,hz1⟩:=I1.tuple hq1;let⟨Ż,rv2,pl2,hz2⟩:=I1.tuple hq2;have lt1:a<s1.heap.objs.size:=by let⟨o,e,_⟩:=pl1;exact Ø e
  have lt2:b<s1.heap.objs.size:=by let⟨o,e,_⟩:=pl2;exact Ø e
  refine AY (show s1.heap.IsTuple a bV.toArray from pl1) (show s1.heap.IsTuple b Ż.toArray from pl2) λh2 a1 a2 a3 a4 a5 a7=>?_;have I2:Inv X Â σ H1 {s1 with heap:=h2}:=I1.kept (t':=s1.toks) a7;exact Ϝ a1 ⟨s1.heap.objs.size+4,[s1.heap.objs.size+4,s1.heap.objs.size+2,s1.heap.objs.size+3,s1.heap.objs.size,s1.heap.objs.size+1],_,_,H1,rfl,I2,A8 a b _ _ _ _ _ (by simp),⟨⟨a1,a2,⟨_,_,a3⟩,a4,a5⟩,λc hc=>⟨â<|å lt1<|far c hc,â<|å lt2<|far c hc⟩⟩,λc hc=>I1.fpOk (far c hc)<|I1.hok.fresh<|far c hc,q⟩
end
section
variable {κ:Type} [DecidableEq κ]
abbrev YC(kvs:List<|κ×V)(k:κ):Option V:=(kvs.find? λkv=>gM (kv.1=k)).map (·.2)
abbrev fK(kvs:List<|κ×V)(k:κ)(v:V):List (κ×V) :=
 if(kvs.any λkv=>gM (kv.1=k))=fe then kvs.map (λkv=>if kv.1=k then(kv.1,v)else kv)else kvs++[(k,v)]
abbrev fL(kvs:List<|κ×V)(k:κ):List<|κ×V:=kvs.filter λkv=>gM (kv.1≠k)
variable {p:κ×V} {r:List (κ×V)}
def Y3{k:κ}(e:p.1=k):YC (p::r) k=fb p.2:=by simp[YC,ę,e]
def Xg{k:κ}(e:¬ p.1=k):YC (p::r) k=YC r k:=by simp[YC,ę,e]
def Xh(k:κ):∀kvs:List<|κ×V,(kvs.any λkv=>gM (kv.1=k))=(YC kvs k).isSome
 |[]=>rfl
 |p::r=>by
  rw[ı];by_cases e:p.1=k
  .simp![Y3 e,gJ e,Bool.true_or,Option.isSome_some]
  .rw[Xg e,gH e,Bool.false_or];exact Xh k r
def Ys(kvs:List<|κ×V)(k:κ)(v:V):(fK kvs k v).length<=kvs.length+1:=by
 unfold fK;split
 .rw[À];lia
 .rw[Å,Ð,Ĉ];lia
variable {o:Option V} {u:Option Ä}
def fM.isSome_eq(r:fM o u):o.isSome=u.isSome:=by
 cases o with
 |none=>cases u with
  |none=>rfl
  |some _=>exact(show False from r).elim
 |some _=>cases u with
  |none=>exact(show False from r).elim
  |some _=>rfl
def fM.getD{d:V}{d':Ä}(r:fM o u)(rd:RelV d d'):RelV (o.getD d)<|u.getD d':=by
 cases o with
 |none=>cases u with
  |none=>exact rd
  |some _=>exact(show False from r).elim
 |some _=>cases u with
  |none=>exact(show False from r).elim
  |some _=>exact r
variable {kvs:List (κ×V)} {vs:List (κ×Ä)}
def KV.val(r:KV kvs vs)(k:κ):fM (YC kvs k)<|Ϥ vs k:=by
 unfold KV at r;induction r with
 |nil=>exact True.intro
 |@cons p q ps qs h t ih =>
  let⟨h1,h2⟩:=h;by_cases e:p.1=k
  .have e':q.1=k:=h1.symm.trans e;have b:Ϥ (q::qs) k=fb q.2:=by simp[Ϥ,ę,e']
   rw[Y3 e,b];exact h2
  .have e':¬ q.1=k:=λz=>e<|h1.trans z;have b:Ϥ (q::qs) k=Ϥ qs k:=by simp[Ϥ,ę,e']
   rw[Xg e,b];exact ih
def KV.any(r:KV kvs vs)(k:κ):(kvs.any λkv=>gM (kv.1=k))=vs.any λkv=>gM (kv.1=k):=by
 unfold KV at r;induction r with
 |nil=>rfl
 |cons h t ih=>rw[ı,ı,ih,h.1]
variable {y:V}
def KV.repl(r:KV kvs vs)(k:κ){u:Ä}(ry:RelV y u) :
  KV (kvs.map λkv=>if kv.1=k then(kv.1,y)else kv) (vs.map λkv=>if kv.1=k then(kv.1,u)else kv):=by
 unfold KV at r ⊢;induction r with
 |nil=>exact .nil
 |@cons p q ps qs h t ih =>
  rw[Ó,Ó];refine .cons ?_ ih;let⟨h1,h2⟩:=h;by_cases e:p.1=k
  .rw[gF e,gF<|h1.symm.trans e];exact⟨h1,ry⟩
  .rw[gG e,gG λz=>e<|h1.trans z];exact⟨h1,h2⟩
def KV.put(r:KV kvs vs)(k:κ){u:Ä}(ry:RelV y u):KV (fK kvs k y)<|eS vs k u:=by
 unfold fK eS;rw[r.any k];by_cases e:(vs.any λkv=>gM (kv.1=k))=fe
 .rw[gF e,gF e];exact r.repl k ry
 .rw[gG e,gG e];exact Paired.snoc r ⟨rfl,ry⟩
def KV.drop(r:KV kvs vs)(k:κ):KV (fL kvs k)<|without vs k:=by
 unfold KV at r ⊢;unfold fL without;induction r with
 |nil=>exact .nil
 |@cons p q ps qs h t ih =>
  let⟨h1,h2⟩:=h;rw[ħ,ħ];by_cases e:p.1=k
  .have a:¬ gM (p.1≠k)=fe:=by simp[e]
   have b:¬ gM (q.1≠k)=fe:=by simp[h1.symm.trans e]
   rw[gG a,gG b];exact ih
  .have e':¬ q.1=k:=λz=>e<|h1.trans z;have a:gM (p.1≠k)=fe:=by simp[e]
   have b:gM (q.1≠k)=fe:=by simp[e']
   rw[gF a,gF b];exact .cons ⟨h1,h2⟩ ih
def KV.keys(r:KV kvs vs):kvs.map (·.1)=vs.map (·.1):=by
 unfold KV at r;induction r with
 |nil=>rfl
 |cons h t ih=>rw[Ó,Ó,ih,h.1]
def KV.length(r:KV kvs vs):kvs.length=vs.length:=Paired.length r
def DT(kvs:List<|κ×V)(k:κ):(fL kvs k).length<=kvs.length:=ĺ _ _
end
variable {P:è} {w:ā} {u:Ä}
def XA{k:Key}(r:RelV (kV k) u):(Zd P w).is k u=fe:=by
 cases k with
 |inl i=>let⟨t,e⟩:=(show ∃t,u=Value.int i t from r);subst e;exact NW P w i t
 |inr x=>let⟨t,e⟩:=(show ∃t,u=Value.str x t from r);subst e;exact NG P w x t
def K6{P:è}{w:ā}:∀{ks:List Key}{us:List Ä},gp (ks.map kV) us->ItemsAre (Zd P w) ks us
 |[],_,r=>by rw[ū]at r;cases r;exact .nil
 |k::ks,_,r=>by
  rw[Ó]at r;cases r with
  |cons h t=>exact .cons (XA h)<|K6 t
@[reducible] noncomputable def KTd(H:Hp):List (List Key×V)->List (List Key×È×Ä)->Prop:=Paired λp q=>p.1=q.1/\H q.2.1=fb (.tup<|p.1.map kV)/\RelV p.2 q.2.2
variable {H:Hp} {kvs:List (List Key×V)} {xs:List (List Key×È×Ä)}
def KTd.val(r:KTd H kvs xs)(k:List Key):fM (YC kvs k) ((cy xs k).map (·.2)):=by
 induction r with
 |nil=>exact True.intro
 |@cons p q ps qs h t ih =>
  let⟨h1,_,h2⟩:=h;by_cases e:p.1=k
  .have e':q.1=k:=h1.symm.trans e;have b:cy (q::qs) k=fb q.2:=by simp[cy,ę,e']
   rw[Y3 e,b];exact h2
  .have e':¬ q.1=k:=λz=>e<|h1.trans z;have b:cy (q::qs) k=cy qs k:=by simp[cy,ę,e']
   rw[Xg e,b];exact ih
variable {y:V}
def KTd.repl(r:KTd H kvs xs)(k:List Key)(ry:RelV y u) :
  KTd H (kvs.map λkv=>if kv.1=k then(kv.1,y)else kv) (xs.map<|putAt k u):=by
 induction r with
 |nil=>exact .nil
 |@cons p q ps qs h t ih =>
  rw[Ó,Ó];refine .cons ?_ ih;let⟨h1,h2,h3⟩:=h;unfold putAt;by_cases e:p.1=k
  .rw[gF e,gF<|h1.symm.trans e];exact⟨h1,h2,ry⟩
  .rw[gG e,gG λz=>e<|h1.trans z];exact⟨h1,h2,h3⟩
variable {b:È}
def KTd.put(r:KTd H kvs xs)(k:List Key)(hb:H b=fb (.tup<|k.map kV))(ry:RelV y u) :
  KTd H (fK kvs k y) (storedH xs k b u):=by
 have e:(kvs.any λkv=>gM (kv.1=k))=(cy xs k).isSome:=by rw[Xh,(r.val k).isSome_eq,ϰ]
 unfold fK storedH;rw[e];by_cases q:(cy xs k).isSome=fe
 .rw[gF q,gF q];exact r.repl k ry
 .rw[gG q,gG q];exact Paired.snoc r ⟨rfl,hb,ry⟩
variable {H':Hp}
def KTd.keeps(r:KTd H kvs xs)(ht:∀b ys,H b=fb (.tup ys)->H' b=fb (.tup ys)):KTd H' kvs xs :=
 Paired.mapP r λ_ _ z=>⟨z.1,ht _ _ z.2.1,z.2.2⟩
section
variable {P:è}{w:ā}{H:Hp}{h:Ć}{a:È}
def Hi{u:HO}(ok:HOk P w H h)(e:Rd H a u):fu P w H h a u:=e.ok ok
def X4{kvs:List (Key×V)}(ok:HOk P w H h)(e:Rd H a<|.dK kvs):kvs.length<=Ü/\(a==Ő)=ff/\∃vs,KV kvs vs/\h.DictOf (Zd P w) a vs :=
 show fu P w H h a (.dK kvs) from Hi ok e
def WP{kvs:List (Key×V)}(ok:HOk P w H h)(e:H a=fb (.dK kvs)):kvs.length<=Ü/\(a==Ő)=ff/\∃vs,KV kvs vs/\h.DictOf (Zd P w) a vs:=X4 ok (.inl e)
def fz{ks:List Key}(ok:HOk P w H h)(e:H a=fb (.tup<|ks.map kV)):(ai<|Zd P w).is h ks a:=by
 let⟨_,ó,r,o,h1,h2,n,h3⟩:=(show fu P w H h a (.tup<|ks.map kV) from ok a _ e)
 exact⟨o,ó.toArray,n,h1,h2,h3,by simpa using K6 r⟩
def Jt(ok:HOk P w H h)(e:Rd H a<|.dT kvs):kvs.length<=Ü/\(a==Ő)=ff/\
  ∃xs,KTd H kvs xs/\h.DictOfH (ai<|Zd P w) a xs:=by
 let⟨z,y,xs,r,o,es,ep,h1,h2,h3,h4,h5⟩:=(show fu P w H h a (.dT kvs) from Hi ok e)
 refine⟨z,y,xs,r,o,es,ep,h1,h2,h3,h4,λx hx=>?_,h5⟩;have all:∀{l:List (List Key×V)}{m:List (List Key×È×Ä)},KTd H l m->∀x∈m,(ai<|Zd P w).is h x.1 x.2.1:=by
  intro l m q;induction q with
  |nil=>intro x hx;exact nomatch hx
  |@cons p q ps qs hq t ih =>
   intro x hx;rcases Ç.mp hx with e|hx
   .subst e;exact fz ok (by rw[<-hq.1];exact hq.2.1)
   .exact ih x hx
 exact all r x hx
def QW(ok:HOk P w H h)(e:H a=fb (.dT kvs)):kvs.length<=Ü/\(a==Ő)=ff/\
  ∃xs,KTd H kvs xs/\h.DictOfH (ai<|Zd P w) a xs:=Jt ok<|.inl e
end
abbrev DGet(H:Hp)(a:È)(y:V)(r:Option V):Prop :=
 (∃kvs k,Rd H a (.dK kvs)/\y=kV k/\r=YC kvs k)\/∃kvs k b,Rd H a (.dT kvs)/\y=.ref b/\H b=fb (.tup<|k.map kV)/\r=YC kvs k
abbrev DPut(H:Hp)(a:È)(y v:V)(H':Hp):Prop :=
 (∃kvs k,H a=fb (.dK kvs)/\y=kV k/\kvs.length<Ü/\H'=upd H a (.dK<|fK kvs k v))\/
 ∃kvs k b,H a=fb (.dT kvs)/\y=.ref b/\H b=fb (.tup<|k.map kV)/\kvs.length<Ü/\H'=upd H a (.dT<|fK kvs k v)
def DGet.k{H:Hp}{a:È}{kvs:List (Key×V)}{k:Key}(e:H a=fb (.dK kvs)):DGet H a (kV k)<|YC kvs k:=.inl ⟨kvs,k,.inl e,rfl,rfl⟩
variable {a:È}
def DGet.t{k:List Key}(e:H a=fb (.dT kvs))(eb:H b=fb (.tup<|k.map kV)):DGet H a (.ref b)<|YC kvs k:=.inr ⟨kvs,k,b,.inl e,rfl,eb,rfl⟩
def DPut.k{H:Hp}{a:È}{kvs:List (Key×V)}{k:Key}{v:V}(e:H a=fb (.dK kvs))(hl:kvs.length<Ü):DPut H a (kV k) v<|upd H a<|.dK<|fK kvs k v:=.inl ⟨kvs,k,e,rfl,hl,rfl⟩
def DPut.t{k:List Key}{v:V}(e:H a=fb (.dT kvs))(eb:H b=fb (.tup<|k.map kV))(hl:kvs.length<Ü) :
  DPut H a (.ref b) v (upd H a<|.dT<|fK kvs k v):=.inr ⟨kvs,k,b,e,rfl,eb,hl,rfl⟩
section
variable {X:Cx}{Â:List (È×Obj)}{σ:St}{H:Hp}{s:Æ}{a:È}{y v:V}{u r:Ä}{o:Option V}{A:č}{E:Ä->Æ->Prop}
def Inv.big(I:Inv X Â σ H s):Ő<s.heap.objs.size:=by have h:ĉ<s.heap.objs.size:=(I.mod.glob.keeps I.bk).lt;exact Ű (by decide) h
variable {Q:Ä->Æ->Prop}
def K8(hu:A.units+1<Ħ)(I:Inv X Â σ H s)(g:DGet H a y<|fb v)(ry:RelV y u)(h:∀w' s',Inv X Â σ H s'->RelV v w'->Q w' s') :
  wpAny (à X.prog X.w) A (Ϣ (.ref a) u) Q E s:=by
 rcases g with⟨kvs,k,e,ey,l⟩|⟨kvs,k,b,e,ey,eb,l⟩
 .subst ey;let⟨z,hd,vs,ť,dd⟩:=X4 I.hok e;let⟨w',hw,bd⟩:=fM.some_of (v:=v) (o:=Ϥ vs k) (by rw[l];exact ť.val k);exact wpAny_getItem_of (XA ry) dd.mapOf hw<|h w' _ (I.tok _) bd
 .subst ey;cases (show u=Value.ref b from ry);let⟨z,hd,xs,ť,dd⟩:=Jt I.hok e;let⟨w',hw,bd⟩:=fM.some_of (v:=v) (o:=(cy xs k).map (·.2)) (by rw[l];exact ť.val k);let⟨p,hp,bq⟩:=Ò.mp hw;refine wpAny_getItem_heap (ű hu) (fz I.hok eb) dd hp ?_;rw[bq];exact h w' _ (I.tok _) bd
def RN(hu:A.units+1<Ħ)(I:Inv X Â σ H s)(g:DGet H a y o)(ry:RelV y u)(h:∀s',Inv X Â σ H s'->Q (.bool o.isSome) s') :
  wpAny (à X.prog X.w) A (ð .In u<|.ref a) Q E s:=by
 rcases g with⟨kvs,k,e,ey,l⟩|⟨kvs,k,b,e,ey,eb,l⟩
 .subst ey;let⟨z,hd,vs,ť,dd⟩:=X4 I.hok e;refine wpAny_in_of (XA ry) hd dd.mapOf ?_;rw[<-(ť.val k).isSome_eq,<-l];exact h _<|I.tok _
 .subst ey;cases (show u=Value.ref b from ry);let⟨z,hd,xs,ť,dd⟩:=Jt I.hok e;refine wpAny_in_heap (ű hu) (fz I.hok eb) hd dd ?_;have q:=(ť.val k).isSome_eq;rw[ϰ]at q;rw[<-q,<-l];exact h _<|I.tok _
def GG(hu:A.units+1<Ħ)(I:Inv X Â σ H s)(g:DGet H a y o)(ry:RelV y u)(h:∀s',Inv X Â σ H s'->Q (.bool (!o.isSome)) s') :
  wpAny (à X.prog X.w) A (ð .NotIn u<|.ref a) Q E s:=by
 rcases g with⟨kvs,k,e,ey,l⟩|⟨kvs,k,b,e,ey,eb,l⟩
 .subst ey;let⟨z,hd,vs,ť,dd⟩:=X4 I.hok e;refine wpAny_notIn_of (XA ry) hd dd.mapOf ?_;rw[<-(ť.val k).isSome_eq,<-l];exact h _<|I.tok _
 .subst ey;cases (show u=Value.ref b from ry);let⟨z,hd,xs,ť,dd⟩:=Jt I.hok e;refine wpAny_notIn_heap (ű hu) (fz I.hok eb) hd dd ?_;have q:=(ť.val k).isSome_eq;rw[ϰ]at q;rw[<-q,<-l];exact h _<|I.tok _
variable {h':Ć}
def W8{t':Nat}{ob:HO}(I:Inv X Â σ H s)(mu:Mut<|H a)(hs:ν a s.heap h')(he:∃q,h'.get? a=fb q)(new:fu X.prog X.w (upd H a ob) h' a ob) :
  Inv X Â σ (upd H a ob) {s with heap:=h',toks:=t'} :=
 I.write (x:=a) (e:=a) mu (.inl rfl) (λb q hb z=>(hs.2 b hb).trans z) he new
def Kd{kvs:List (Key×V)}{vs:List (Key×Ä)}(z:kvs.length<=Ü)(hd:(a==Ő)=ff)(ť:KV kvs vs)(dd:h'.DictOf (Zd P w) a vs) :
  fu P w H' h' a (.dK kvs):=⟨z,hd,vs,ť,dd⟩
def Ar{Q:Unit->Æ->Prop}(hu:A.units+1<Ħ)(I:Inv X Â σ H s)(g:DPut H a y v H')(ry:RelV y u)(rv:RelV v r)(h:∀s',Inv X Â σ H' s'->Q () s') :
  wpAny (à X.prog X.w) A (aW (.ref a) u r) Q E s:=by
 rcases g with⟨kvs,k,e,ey,l,eH⟩|⟨kvs,k,b,e,ey,eb,l,eH⟩
 .subst ey eH;let⟨z,hd,vs,ť,dd⟩:=WP I.hok e;have hz:vs.length<=Ü:=by rw[<-ť.length];exact z
  have hl:(fK kvs k v).length<=Ü:=by have:=Ys kvs k v;lia
  refine wpAny_setItem_pairs (hsz:=hz) (XA ry) dd λh' eh hs=>h _ ?_;have he:∃q,h'.get? a=fb q:=let ⟨q,_,_,hq,_⟩:=eh;⟨q,hq⟩;exact W8 I (by rw[e];exact True.intro) hs he<|Kd hl hd (ť.put k rv) eh
 .subst ey eH;cases (show u=Value.ref b from ry);let⟨z,hd,xs,ť,dd⟩:=QW I.hok e;have hz:xs.length<=Ü:=by rw[<-Paired.length ť];exact z
  have hl:(fK kvs k v).length<=Ü:=by have:=Ys kvs k v;lia
  refine wpAny_setItem_heap (hsz:=hz) (ű hu) (fz I.hok eb) dd λh' eh hs=>h _ ?_;let⟨q,es,ep,hq,h2,h3,h4,_,h5⟩:=eh;refine W8 I (by rw[e];exact True.intro) hs ⟨q,hq⟩ ⟨hl,hd,_,(ť.put k eb rv).keeps λc ys ec=>?_,q,es,ep,hq,h2,h3,h4,h5⟩;rw[fg<|Rv ec e λz=>nomatch z];exact ec
end
section
variable {X:Cx}{Â:List (È×Obj)}{σ:St}{H:Hp}{s:Æ}{a:È}{kvs:List (Key×V)}{k:Key}{u:Ä}{A:č}{E:Ä->Æ->Prop}
variable {Q:Ä->Æ->Prop}
def Hx{v:V}{more:List Ä}(I:Inv X Â σ H s)(e:H a=fb (.dK kvs))(ry:RelV (kV k) u)(l:YC kvs k=fb v)(hm:more=[]\/∃x,more=[x])
  (h:∀w' s',Inv X Â σ (upd H a<|.dK<|fL kvs k) s'->RelV v w'->Q w' s'):wpAny (à X.prog X.w) A (call (.builtin "dict.pop")<|.ref a::u::more) Q E s:=by
 let⟨z,hd,vs,ť,dd⟩:=WP I.hok e;let⟨w',hw,bd⟩:=fM.some_of (v:=v) (o:=Ϥ vs k) (by rw[<-l];exact ť.val k);have hp:(keyPart u).isSome=fe:=by
  cases k with
  |inl i=>let⟨t,q⟩:=(show ∃t,u=Value.int i t from ry);subst q;rfl
  |inr x=>let⟨t,q⟩:=(show ∃t,u=Value.str x t from ry);subst q;rfl
 have ha:cz "dict.pop" ⟨.ref a::u::more,[]⟩:=by
  rcases hm with q|⟨x,q⟩
  .subst q;exact PySem.F.args_dict_pop_2 _ _
  .subst q;exact PySem.F.args_dict_pop_3 _ _ _
 refine ϥ PySem.F.slot_dict_pop dd.typeIs PySem.F.entry_dict_pop ha (meets_dict_pop_there (Zd X.prog X.w) a (XA ry) more hm hp)
  ⟨vs,w',dd,by rw[<-ť.length];exact z,hw,λh' eh hs=>h w' _ ?_ bd⟩
 have he:∃q,h'.get? a=fb q:=let ⟨q,_,_,hq,_⟩:=eh;⟨q,hq⟩;exact W8 I (by rw[e];exact True.intro) hs he<|Kd (Þ (DT kvs k) z) hd (ť.drop k) eh
def LI{r:Ä}(I:Inv X Â σ H s)(e:H a=fb (.dK kvs))(ry:RelV (kV k) u)(l:YC kvs k=fc)(h:∀s',Inv X Â σ H s'->Q r s') :
  wpAny (à X.prog X.w) A (call (.builtin "dict.pop") [.ref a,u,r]) Q E s:=by
 let⟨z,hd,vs,ť,dd⟩:=WP I.hok e;have hn:Ϥ vs k=fc:=fM.none_of (by rw[<-l];exact ť.val k);have hp:(keyPart u).isSome=fe:=by
  cases k with
  |inl i=>let⟨t,q⟩:=(show ∃t,u=Value.int i t from ry);subst q;rfl
  |inr x=>let⟨t,q⟩:=(show ∃t,u=Value.str x t from ry);subst q;rfl
 exact ϥ PySem.F.slot_dict_pop dd.typeIs PySem.F.entry_dict_pop (PySem.F.args_dict_pop_3 _ _ _) (meets_dict_pop_default (Zd X.prog X.w) a (XA ry) hd hp r) ⟨vs,dd,hn,h _<|I.tok _⟩
def P2(I:Inv X Â σ H s)(e:Rd H a<|.dK kvs)(h:∀t s',Inv X Â σ H s'->Q (.int kvs.length t) s'):wpAny (à X.prog X.w) A (call (.builtin "len") [.ref a]) Q E s:=by let⟨z,hd,vs,ť,dd⟩:=X4 I.hok e;refine call_len_dict hd dd (by rw[<-ť.length];rw[ϴ]at z;lia) ?_;rw[<-ť.length];exact h _ _ (I.tok _)
end
variable {X:Cx} {Â:List (È×Obj)} {σ:St} {s:Æ}
def N7{o:Option V}(I:Inv X Â σ H s)(g:DGet H a y o):s.TypeIs (.ref a) "dict":=by
 rcases g with⟨kvs,k,e,_,_⟩|⟨kvs,k,b,e,_,_,_⟩
 .obtain⟨_,_,vs,_,dd⟩:=X4 I.hok e;exact dd.typeIs
 .obtain⟨_,_,xs,_,dd⟩:=Jt I.hok e;exact dd.typeIs
def N9(h:Ć)(hb:Ő<h.objs.size):fu P w H (h.push {cls:=.type "dict",data:=.dict #[]}) h.objs.size (.dK []) :=
 ⟨ī _,beq_eq_false_iff_ne.mpr<|Ne.symm<|â hb,[],.nil,Heap.DictOf.new h⟩
abbrev LL:TE:=λ_ H Q=>∀p,H p=fc->Q (.ref p) (upd H p<|.dK [])
section
variable {X:Cx}{ì:Pos}
def pe_dnewK:PE X (.Dict [] [] ì) LL:=λÂ s σ H Q I h =>
 wpAny_Dict_empty ⟨.ref s.heap.objs.size,_,I.laid (a:=s.heap.objs.size) (o:=.dK []) (t':=s.toks) (λ_ _ q=>Ã _ q) (Ï _)<|N9 s.heap I.big,rfl,h _<|I.hok.fresh<|Ï _⟩
end
abbrev MA:List (TE×TE)->St->Hp->(List (V×V)->Hp->Prop)->Prop
 |[],_,H,Q=>Q [] H
 |(tk,tv)::r,σ,H,Q=>tk σ H λx H1=>tv σ H1 λy H2=>MA r σ H2 λps H3=>Q ((x,y)::ps) H3
@[reducible] noncomputable def VV:List (V×V)->List (Ä×Ä)->Prop:=Paired λp q=>RelV p.1 q.1/\RelV p.2 q.2
abbrev PPs(X:Cx)(ì:Pos)(keys:List<|Option Expr)(Ρ:List Expr)(trs:List<|TE×TE):Prop :=
 ∀(Â:List<|È×Obj) (s:Æ) (σ:St) (H:Hp) (Q:List (V×V)->Hp->Prop),Inv X Â σ H s->MA trs σ H Q->
  wpAny (à X.prog X.w) X.A (evalPairs<|pairTrees keys Ρ X.env ì) (λvs s'=>∃ps H',Inv X Â σ H' s'/\VV ps vs/\Q ps H') X.xe s
variable {ì:Pos}
def GW:PPs X ì [] [] []:=λÂ s σ H Q I h=>pairTrees_nil_walk ⟨[],H,I,.nil,h⟩
variable {trs:List (TE×TE)}
def DU{k v:Expr}{ks:List (Option Expr)}{vs:List Expr}{tk tv:TE}(hk:PE X k tk)(hv:PE X v tv)(hr:PPs X ì ks vs trs) :
  PPs X ì (fb k::ks) (v::vs) ((tk,tv)::trs):=λÂ s σ H Q I h =>
 pairTrees_cons_walk (thn (hk Â s σ H _ I h) λu s1 ⟨x,H1,I1,rx,q1⟩=>thn (hv Â s1 σ H1 _ I1 q1) λw2 s2 ⟨y,H2,I2,ry,q2⟩ =>
   thn (hr Â s2 σ H2 _ I2 q2) λws s3 ⟨ps,H3,I3,ť,q3⟩=>⟨(x,y)::ps,H3,I3,.cons ⟨rx,ry⟩ ť,q3⟩)
abbrev Xl(kvs more:List<|Key×V):List<|Key×V:=more.foldl (λĪ kv=>fK Ī kv.1 kv.2) kvs
def KV.merge:∀{more:List (Key×V)}{rs:List (Key×Ä)}{kvs:List (Key×V)}{vs:List (Key×Ä)},KV more rs->KV kvs vs->KV (Xl kvs more) (merged vs rs):=by
 intro more rs kvs vs r;unfold KV at r;induction r generalizing kvs vs with
 |nil=>intro q;exact q
 |@cons p q ps qs h t ih =>
  intro r0;have e:KV (fK kvs p.1 p.2)<|eS vs q.1 q.2:=by have:=r0.put p.1 h.2;rw[<-h.1];exact this
  exact ih e
def XD:∀(more kvs:List<|Key×V),(Xl kvs more).length<=kvs.length+more.length
 |[],kvs=>by show kvs.length<=kvs.length+0;lia
 |p::r,kvs=>by have h1:=XD r<|fK kvs p.1 p.2;have h2:=Ys kvs p.1 p.2;show(Xl (fK kvs p.1 p.2) r).length<=_;rw[Ð];lia
def Ji{P:è}{w:ā}:∀{kvs:List (Key×V)}{ws:List (Ä×Ä)},VV (kvs.map λkv=>(kV kv.1,kv.2)) ws->∃rs,Carries (Zd P w) ws rs/\KV kvs rs
 |[],_,r=>by rw[ū]at r;cases r;exact⟨[],True.intro,.nil⟩
 |p::kvs,_,r=>by
  rw[Ó]at r;cases r with
  |@cons a b as bs h t =>let⟨rs,c,q⟩:=Ji (P:=P) (w:=w) t;let⟨b1,b2⟩:=b;exact⟨(p.1,b2)::rs,⟨XA h.1,rfl,c⟩,.cons ⟨rfl,h.2⟩ q⟩
abbrev QL(trs:List<|TE×TE):TE:=λσ H Q=>∀p,H p=fc->MA trs σ (upd H p<|.dK []) λps H2=>H2 p=fb (.dK [])/\∃kvs:List<|Key×V,ps=kvs.map (λkv=>(kV kv.1,kv.2))/\kvs.length<=15/\Q (.ref p) (upd H2 p<|.dK<|Xl [] kvs)
def FV{keys:List (Option Expr)}{Ρ:List Expr}(h:PPs X ì keys Ρ trs)(hall:keys.all (·.isSome)=fe)(hl:keys.length=Ρ.length)(h0:keys≠[])
  (h15:keys.length<=15):PE X (.Dict keys Ρ ì)<|QL trs:=by
 intro Â s σ H Q I q;have hn:=I.hok.fresh<|Ï s.heap.objs.size;have I1:=I.laid (a:=s.heap.objs.size) (o:=.dK []) (h':=s.heap.push {cls:=.type "dict",data:=.dict #[]}) (t':=s.toks) (λ_ _ q=>Ã _ q) (Ï _)<|N9 s.heap I.big;refine wpAny_Dict_walk (knd:=Zd X.prog X.w) hall hl h0 h15<|thn (h Â _ σ _ _ I1<|q _ hn) λws s2 ⟨ps,H2,I2,ť,e,kvs,ep,lk,q2⟩=>?_;subst ep;let⟨rs,c,rk⟩:=Ji (P:=X.prog) (w:=X.w) ť;let⟨z,hd,vs0,r0,dd⟩:=WP I2.hok e;cases r0;refine⟨rs,c,dd,λh' eh hs=>⟨.ref s.heap.objs.size,_,?_,rfl,q2⟩⟩;have hz:(Xl [] kvs).length<=Ü:=by have h1:=XD kvs [];rw[Ĉ]at h1;rw[ϴ];lia
 have he:∃q,h'.get? s.heap.objs.size=fb q:=let ⟨q,_,_,hq,_⟩:=eh;⟨q,hq⟩;exact W8 I2 (by rw[e];exact True.intro) hs he<|Kd hz hd (rk.merge .nil) eh
abbrev Sv(H:Hp)(a:È):Prop:=(∃kvs,Rd H a<|.dK kvs)\/∃kvs,Rd H a (.dT kvs)
def Px(I:Inv X Â σ H s)(d:Sv H a) :
  s.TypeIs (.ref a) "dict"/\(∀b,Value.ref a=.ref b->∃ob,s.heap.get? b=fb ob/\ob.dict=fc)/\(a==Ő)=ff:=by
 rcases d with⟨kvs,e⟩|⟨kvs,e⟩
 .obtain⟨_,hd,vs,_,dd⟩:=X4 I.hok e;refine⟨dd.typeIs,λb q=>?_,hd⟩;cases q;let⟨ob,_,_,h1,h2,_⟩:=dd;exact⟨ob,h1,h2.2.1⟩
 .obtain⟨_,hd,xs,_,dd⟩:=Jt I.hok e;refine⟨dd.typeIs,λb q=>?_,hd⟩;cases q;let⟨ob,_,_,h1,h2,_⟩:=dd;exact⟨ob,h1,h2.2.1⟩
section
variable {X:Cx}{Â:List (È×Obj)}{σ:St}{H:Hp}{s:Æ}{a:È}{y d:V}{u r:Ä}{o:Option V}{A:č}{E:Ä->Æ->Prop}
def Li{Q:Ä->Æ->Prop}(hu:A.units+1<Ħ)(I:Inv X Â σ H s)(g:DGet H a y o)(ry:RelV y u)(h:∀w' s',Inv X Â σ H s'->RelV (o.getD .non) w'->Q w' s') :
  wpAny (à X.prog X.w) A (call (.builtin "dict.get") [.ref a,u]) Q E s:=by
 rcases g with⟨kvs,k,e,ey,l⟩|⟨kvs,k,b,e,ey,eb,l⟩
 .subst ey;let⟨z,hd,vs,ť,dd⟩:=X4 I.hok e;refine ϥ PySem.F.slot_dict_get dd.typeIs PySem.F.entry_dict_get (PySem.F.args_dict_get_2 _ _) (meets_dict_get (Zd X.prog X.w) a (XA ry) hd) ⟨_,dd.mapOf,h _ _ (I.tok _) ?_⟩;rw[l];exact(ť.val k).getD rfl
 .subst ey;cases (show u=Value.ref b from ry);let⟨z,hd,xs,ť,dd⟩:=Jt I.hok e;refine ϥ PySem.F.slot_dict_get dd.typeIs PySem.F.entry_dict_get (PySem.F.args_dict_get_2 _ _) (meetsH_dict_get (ai<|Zd X.prog X.w) a b hd) ⟨ű hu,k,xs,fz I.hok eb,dd,h _ _ (I.tok _) ?_⟩;rw[l];exact(ť.val k).getD rfl
end
section
variable {X:Cx}
def Bj:fq X (.builtin "len") λxs H Q=>∃a kvs,xs=[V.ref a]/\H a=fb (.dK kvs)/\Q (.int kvs.length) H:=by k_put;let⟨a,kvs,rfl,ha,q⟩:=h;let⟨u,rfl,ru⟩:=ZR r;cases ru;exact P2 I (.inl ha) λt s' I'=>⟨.int kvs.length,H,I',⟨t,rfl⟩,q⟩
end
end L2
namespace O
noncomputable abbrev Ad:=Nat
inductive Val where
 |non|bl (b:Bool)|int (i:Int)|str (s:String)|tup (xs:List Val)|ref (a:Ad)|scr (ns:List Int)|key (i j:Int)
 deriving Inhabited
mutual
noncomputable def Val.eqb:Val->Val->Bool
 |.non,b=>match b with|.non=>fe|_=>ff
 |.bl a,b=>match b with|.bl c=>a==c|_=>ff
 |.int a,b=>match b with|.int c=>a==c|_=>ff
 |.str a,b=>match b with|.str c=>a==c|_=>ff
 |.tup a,b=>match b with|.tup c=>Val.eqs a c|_=>ff
 |.ref a,b=>match b with|.ref c=>a==c|_=>ff
 |.scr a,b=>match b with|.scr c=>a==c|_=>ff
 |.key a b,x=>match x with|.key c d=>a==c&&b==d|_=>ff
noncomputable def Val.eqs:List Val->List Val->Bool
 |[],b=>match b with|[]=>fe|_=>ff
 |x::xs,b=>match b with|y::ys=>Val.eqb x y&&Val.eqs xs ys|_=>ff
end
mutual
theorem Val.eqb_iff:∀{a b:Val},Val.eqb a b=fe↔a=b
 |.non,b=>by cases b<;>simp[Val.eqb]
 |.bl _,b=>by cases b<;>simp[Val.eqb]
 |.int _,b=>by cases b<;>simp[Val.eqb]
 |.str _,b=>by cases b<;>simp[Val.eqb]
 |.tup _,b=>by cases b<;>simp[Val.eqb,Val.eqs_iff]
 |.ref _,b=>by cases b<;>simp[Val.eqb]
 |.scr _,b=>by cases b<;>simp[Val.eqb]
 |.key _ _,b=>by cases b<;>simp[Val.eqb]
theorem Val.eqs_iff:∀{a b:List Val},Val.eqs a b=fe↔a=b
 |[],b=>by cases b<;>simp[Val.eqs]
 |_::_,b=>by cases b<;>simp[Val.eqs,Val.eqb_iff,Val.eqs_iff]
end
noncomputable instance:DecidableEq Val:=λa b=>if h:Val.eqb a b=fe then isTrue (Val.eqb_iff.mp h)else isFalse λe=>h<|Val.eqb_iff.mpr e
inductive Ob where
 |lst (xs:List Val)|dct (kvs:List<|Val×Val)|ins (C:String) (fs:List<|String×Val)|exc (C:String)|frz (kvs:List<|Val×Val)|dtp (kvs:List<|Val×Val)
 deriving Inhabited
abbrev figB(c:Char):Bool:=gM (48<=c.toNat)&&gM (c.toNat<=57)
abbrev decN(l:List Char):Nat:=l.foldl (λa c=>10*a+(c.toNat - 48)) 0
abbrev Qb:Val->Option String
 |.str s=>fb s
 |_=>fc
abbrev oneC(s:String):Option Char:=match s.toList with
 |[c]=>fb c
 |_=>fc
abbrev GV(i:Int):String:=toString i
abbrev fmtV:Val->Option String
 |.str s=>fb s
 |.int i=>if i.natAbs<10 ^ 200 then fb (GV i)else fc
 |_=>fc
noncomputable abbrev Hs:=Ad->Option Ob
@[irreducible] noncomputable def upd(h:Hs)(a:Ad)(o:Ob):Hs:=λb=>if b=a then fb o else h b
variable {h:Hs} {a:Ad} {o:Ob}
def fh:upd h a o a=fb o:=by simp[upd]
def fg{b:Ad}(e:b≠a):upd h a o b=h b:=by simp[upd,e]
def fi{u:Ob}:upd (upd h a o) a u=upd h a u:=by funext b;simp![upd];split<;>rfl
noncomputable abbrev Env:=List<|Option Val
noncomputable abbrev Q1:=Val->Hs->Prop
noncomputable abbrev XQ:=String->Hs->Prop
noncomputable abbrev Fs:=String->List Val->Hs->Q1->XQ->Prop
abbrev lim:Nat:=1000000
variable {α:Type}
@[irreducible] noncomputable def go(o:Option α)(k:α->Prop):Prop:=match o with|some a=>k a|none=>False
@[simp] theorem fj{a:α}{k:α->Prop}:go (fb a) k=k a:=by unfold go;rfl
@[simp] theorem E3{k:α->Prop}:go fc k=False:=by unfold go;rfl
def fk{o:Option α}{a:α}{k:α->Prop}(e:o=fb a)(h:k a):go o k:=by rw[e,fj];exact h
set_option genInjectivity false
inductive Bop where|add|sub|mul|fdiv|mod|pow
inductive Cop where|eq|ne|lt|le|gt|ge|isin|notin|is|isnot|eqE|neE|ntT
inductive Bi where
 |len|int|str|bool|abs|min2|max2|minL|maxL|minD|sum|all|any|sorted|sortedI|sortedSet|lenSet|list|tuple|dict|isi (Ts:List String)|isx (Ts:List String)|isc (C:String)|repr|listRev|listRange|tupRange|dictEnum|minP|maxP|listD
inductive Bm where
 |append|extend|pop|popAt|insert|remove|clear|reverse|index|count|dget|dgetD|dpop|dpopD|setdefault|join|split|replace|upper|partition|sidx
inductive Pt where|one (i:Nat)|many (is:List Nat)|nest (i:Nat) (is:List Nat)
mutual
inductive E where
 |cst (v:Val)|var (i:Nat)|glob (x:String) (v:Val)
 |bin (op:Bop) (a b:E)|neg (a:E)|not (a:E)|and (a b:E)|or (a b:E)
 |cmp (op:Cop) (a b:E)|chain (o1 o2:Cop) (a b c:E)
 |call (f:String) (as:Es)|make (C:String) (as:Es)|meth (C m:String) (o:E) (as:Es)|fld (o:E) (f:String)
 |bi (f:Bi) (as:Es)|bm (m:Bm) (o:E) (as:Es)
 |idx (a i:E)|slc (a:E) (lo hi:Oe)|rev (a:E)|pick (a:E) (lo hi:Oe) (st:E)|sortT (a:E)
 |tup (es:Es)|lst (es:Es)|dct (es:Es)
 |ife (c:Tt) (a b:E)
 |comp (ù:List Nat) (n:Nat) (p:Pt) (it:It) (c:Tt) (e:E)
 |fstr (es:Es)
 |split (o a:E)
 |repl (o:E) (y z:String)
 |key (es:Es)|dctP
inductive Es where|nil|cons (e:E) (es:Es)
inductive Oe where|none|some (e:E)
inductive Tt where|yes|val (e:E)|not (t:Tt)|and (a b:Tt)|or (a b:Tt)
inductive It where
 |seq (e:E)|chars (e:E)|range (a:E)|range2 (a b:E)|enum (e:E)|enumL (e:E)|zip (a b:E)|items (e:E)|rev (e:E)|keysF (e:E)
end
mutual
inductive S where
 |set (p:Pt) (e:E)|setIdx (a i e:E)|setFld (o:E) (f:String) (e:E)
 |augVar (i:Nat) (op:Bop) (e:E)|augFld (o:E) (f:String) (op:Bop) (n:Int)|augIdx (a i:E) (op:Bop) (n:Int)
 |setPair (a i b j e:E)
 |expr (e:E)|ret (e:E)|retN|ite (c:Tt) (a b:Ss)|whl (c:Tt) (b:Ss)|for (p:Pt) (it:It) (b:Ss)|forI (k:Bool) (p:Pt) (e:E) (b:Ss)
 |never|brk|cnt|pass|raise (C:String) (as:Es)|try (t:Option Nat) (e:E) (hs:Hn)
inductive Ss where|nil|cons (s:S) (ss:Ss)
inductive Hn where|nil|cons (C:String) (n:Option Nat) (b:Ss) (r:Hn)
end
set_option genInjectivity true
abbrev ixN(n:Nat)(i:Int):Option Nat:=if 0<=i then(if i<n then fb i.toNat else fc)else if -(n:Int)<=i then fb (i+n).toNat else fc
abbrev atI(xs:List α)(i:Int):Option α:=(ixN xs.length i).bind λj=>xs[j]?
abbrev fR(n d:Nat):Option Int->Nat
 |none=>d
 |some i=>if 0<=i then min i.toNat n else(i+n).toNat
abbrev cut(xs:List α)(lo hi:Option Int):List α:=(xs.drop<|fR xs.length 0 lo).take<|fR xs.length xs.length hi - fR xs.length 0 lo
abbrev pickL(ix:List Nat)(xs:List α):List α:=ix.filterMap λi=>xs[i]?
abbrev fx:Option Ob->Option (List Val)
 |some (.lst xs)=>fb xs
 |_=>fc
@[simp] theorem Yy{xs:List Val}:fx (fb<|.lst xs)=fb xs:=rfl
abbrev Ec(h:Hs):Val->Option (List Val)
 |.ref a=>fx<|h a
 |.tup xs=>fb xs
 |.scr ns=>fb<|ns.map .int
 |_=>fc
abbrev lsA(h:Hs):Val->Option (List Val)
 |.ref a=>fx<|h a
 |.scr ns=>fb<|ns.map .int
 |_=>fc
abbrev gx:Option Ob->Option (List<|Val×Val)
 |some (.dct kvs)=>fb kvs
 |_=>fc
abbrev fI(kvs:List<|Val×Val)(k:Val):Option Val:=(kvs.find? λp=>p.1==k).map (·.2)
abbrev fJ(kvs:List<|Val×Val)(k:Val):Bool:=kvs.any λp=>p.1==k
abbrev fK(kvs:List<|Val×Val)(k v:Val):List<|Val×Val:=if fJ kvs k then kvs.map λp=>if p.1==k then(k,v)else p else kvs++[(k,v)]
abbrev fL(kvs:List<|Val×Val)(k:Val):List<|Val×Val:=kvs.filter λp=>!(p.1==k)
abbrev fE:Val->Bool
 |.int _=>fe
 |.str _=>fe
 |_=>ff
inductive D where
 |non|bl (b:Bool)|int (i:Int)|str (s:String)|tup (ds:List D)|lst (ds:List D)
 deriving Inhabited
mutual
noncomputable def D.eqv:D->D->Bool
 |.non,.non=>fe
 |.bl a,.bl b=>a==b
 |.bl a,.int i=>(if a then 1 else 0)==i
 |.int i,.bl a=>i==(if a then 1 else 0)
 |.int a,.int b=>a==b
 |.str a,.str b=>a==b
 |.tup a,.tup b=>D.eqvs a b
 |.lst a,.lst b=>D.eqvs a b
 |_,_=>ff
noncomputable def D.eqvs:List D->List D->Bool
 |[],[]=>fe
 |x::xs,y::ys=>D.eqv x y&&D.eqvs xs ys
 |_,_=>ff
end
abbrev dat(h:Hs):Nat->Val->Option D
 |_,.non=>fb .non
 |_,.bl b=>fb<|.bl b
 |_,.int i=>fb<|.int i
 |_,.str s=>fb<|.str s
 |0,_=>fc
 |n+1,.tup xs=>(xs.mapM<|dat h n).map .tup
 |n+1,.ref a=>(fx<|h a).bind λxs=>(xs.mapM<|dat h n).map .lst
 |n+1,.scr ns=>fb<|.lst<|ns.map .int
 |_+1,.key _ _=>fc
abbrev deep:Nat:=12
abbrev eqV(h:Hs)(v u:Val):Option Bool:=(dat h deep v).bind λd=>(dat h deep u).map λe=>D.eqv d e
abbrev fo:List Val->Option (List Int)
 |[]=>fb []
 |.int i::xs=>(fo xs).map (i :: ·)
 |_=>fc
abbrev fS:List Int->List Int->Bool
 |[],[]=>ff
 |[],_::_=>fe
 |_::_,[]=>ff
 |x::xs,y::ys=>if x=y then fS xs ys else gM (x<y)
abbrev fT:Val->Val->Option Bool
 |.int i,.int j=>fb<|gM (i<j)
 |.tup xs,.tup ys=>(fo xs).bind λns=>(fo ys).map λms=>fS ns ms
 |_,_=>fc
abbrev inL(h:Hs)(x:Val)(ys:List Val):Option Bool:=(dat h deep x).bind λd=>(ys.mapM<|dat h<|deep - 1).map λds=>ds.any λe=>D.eqv e d
abbrev leV:Val->Val->Option Bool
 |.int i,.int j=>fb<|gM (i<=j)
 |_,_=>fc
abbrev isKeyT:Val->Bool
 |.key _ _=>fe
 |_=>ff
abbrev inV(h:Hs)(v u:Val):Option Bool:=match u with
 |.tup xs=>inL h v xs
 |.ref a=>match h a with
  |some (.lst xs)=>inL h v xs
  |some (.dct kvs)=>if fE v then fb (fJ kvs v)else fc
  |some (.frz kvs)=>if fE v then fb (fJ kvs v)else fc
  |some (.dtp kvs)=>if isKeyT v then fb (fJ kvs v)else fc
  |_=>fc
 |.str t=>(match v with|.str s=>(oneC s).map λc=>gM (c∈t.toList)|_=>fc)
 |_=>fc
abbrev isV(v u:Val):Option Bool:=match u with
 |.non=>fb<|gM (v=.non)
 |.bl b=>fb<|gM (v=.bl b)
 |_=>fc
abbrev asLst(h:Hs):Val->Option (List Val)
 |.ref a=>fx<|h a
 |_=>fc
abbrev fB(h:Hs)(op:Cop)(v u:Val):Option Bool:=match op with
 |.eq=>eqV h v u
 |.ne=>(eqV h v u).map (!·)
 |.lt=>fT v u
 |.gt=>fT u v
 |.le=>leV v u
 |.ge=>leV u v
 |.isin=>inV h v u
 |.notin=>(inV h v u).map (!·)
 |.is=>isV v u
 |.isnot=>(isV v u).map (!·)
 |.eqE=>(asLst h v).bind λxs=>(asLst h u).bind λys=>if ys.isEmpty then fb xs.isEmpty else fc
 |.neE=>(asLst h v).bind λxs=>(asLst h u).bind λys=>if ys.isEmpty then fb (!xs.isEmpty)else fc
 |_=>fc
abbrev JH(h:Hs):Val->Option Bool
 |.bl b=>fb b
 |.int i=>fb<|gM (i≠0)
 |.non=>fb ff
 |.str s=>if s.length<=lim then fb (gM (s.length≠0))else fc
 |.tup xs=>fb (!xs.isEmpty)
 |.scr ns=>fb (!ns.isEmpty)
 |.ref a=>match h a with
  |some (.lst xs)=>fb (!xs.isEmpty)
  |some (.dct kvs)=>fb (!kvs.isEmpty)
  |_=>fc
 |.key _ _=>fc
abbrev mulOk(i j:Int):Prop:=(i.natAbs<2 ^ 64\/j.natAbs<2 ^ 64)\/(i.natAbs<=10 ^ 200/\j.natAbs<=10 ^ 200)
instance (i j:Int):Decidable<|mulOk i j:=inferInstanceAs<|Decidable<|_\/_
@[irreducible] noncomputable def new(h:Hs)(o:Ob)(Q:Q1):Prop:=∀p,h p=fc->Q (.ref p) (upd h p o)
variable {Q:Q1}
def Z8(q:∀p,h p=fc->Q (.ref p) (upd h p o)):new h o Q:=by unfold new;exact q
inductive Rs where|val (v:Val)|new (o:Ob)|no
@[irreducible] noncomputable def Rs.wp(r:Rs)(h:Hs)(Q:Q1):Prop:=match r with|.val v=>Q v h|.new o=>O.new h o Q|.no=>False
@[simp] theorem Rs.wp_val{v:Val}:(Rs.val v).wp h Q=Q v h:=by unfold Rs.wp;rfl
@[simp] theorem Rs.wp_new:(Rs.new o).wp h Q=O.new h o Q:=by unfold Rs.wp;rfl
@[simp] theorem Rs.wp_no:Rs.no.wp h Q=False:=by unfold Rs.wp;rfl
abbrev Rs.ofO:Option Val->Rs
 |some v=>.val v
 |none=>.no
abbrev Rs.lst(xs:List Val):Rs:=if xs.length<=lim then .new (.lst xs)else .no
abbrev addV(h:Hs):Val->Val->Rs
 |.int i,.int j=>.val<|.int<|i+j
 |.str s,.str t=>if s.length+t.length<=lim then .val (.str<|s++t)else .no
 |.tup xs,.tup ys=>if xs.length+ys.length<=lim then .val (.tup<|xs++ys)else .no
 |.ref a,.ref b=>match h a,h b with
  |some (.lst xs),fb (.lst ys)=>Rs.lst<|xs++ys
  |_,_=>.no
 |_,_=>.no
abbrev repT(s:String)(n:Nat):String:=Β (Í n s.toList).flatten
abbrev mulV(h:Hs):Val->Val->Rs
 |.int i,.int j=>if mulOk i j then .val (.int<|i*j)else .no
 |.ref a,.int k=>match h a with
  |some (.lst xs)=>if -(2 ^ 62)<k/\k<2 ^ 62/\xs.length*k.toNat<=lim then Rs.lst (Í k.toNat xs).flatten else .no
  |_=>.no
 |.str s,.int k=>if 2<=k/\k<=1000000/\1<=s.length/\s.length*k.toNat<=lim then .val (.str<|repT s k.toNat)else .no
 |_,_=>.no
abbrev intV(f:Int->Int->Rs):Val->Val->Rs
 |.int i,.int j=>f i j
 |_,_=>.no
abbrev binV(h:Hs)(op:Bop)(v u:Val):Rs:=match op with
 |.add=>addV h v u
 |.sub=>intV (λi j=>.val<|.int<|i - j) v u
 |.mul=>mulV h v u
 |.fdiv=>intV (λi j=>if 0<j/\j<1073741824 then .val (.int<|i / j)else .no) v u
 |.mod=>intV (λi j=>if 0<j then .val (.int<|i % j)else .no) v u
 |.pow=>intV (λi j=>if 0<=j/\j<=1000000/\i.natAbs<2 ^ 64 then .val (.int<|i ^ j.toNat)else .no) v u
abbrev gy:Val->Option Int
 |.int i=>fb i
 |_=>fc
abbrev fU(h:Hs):Val->Val->Option Val
 |.tup xs,.int k=>atI xs k
 |.str s,.int k=>if s.length<=lim then(atI s.toList k).map λc=>.str (am c)else fc
 |.ref a,k=>match h a with
  |some (.lst xs)=>(gy k).bind<|atI xs
  |some (.dct kvs)=>if fE k then fI kvs k else fc
  |some (.frz kvs)=>if fE k then fI kvs k else fc
  |some (.dtp kvs)=>if isKeyT k then fI kvs k else fc
  |_=>fc
 |.scr ns,.int i=>atI (ns.map .int) i
 |_,_=>fc
abbrev fV(h:Hs)(v:Val)(lo hi:Option Int):Rs :=
 match v with
 |.tup xs=>if fR xs.length 0 lo=0/\fR xs.length xs.length hi=xs.length then .val (.tup xs)else .val (.tup<|cut xs lo hi)
 |.ref a=>match fx (h a)with
  |some xs=>.new<|.lst<|cut xs lo hi
  |none=>.no
 |.scr ns=>.new<|.lst<|cut (ns.map .int) lo hi
 |.str s=>if s.length<=lim then .val (.str<|Β<|cut s.toList lo hi)else .no
 |_=>.no
abbrev sortI(ns:List Int):List Int:=ns.mergeSort λa b=>gM (a<=b)
abbrev blsOf:List Val->Option (List Bool)
 |[]=>fb []
 |.bl b::xs=>(blsOf xs).map (b :: ·)
 |_=>fc
abbrev minL:List Val->Option Val
 |[]=>fc
 |x::xs=>xs.foldl (λm y=>m.bind λb=>(fT y b).map λc=>if c then y else b)<|fb x
abbrev maxL:List Val->Option Val
 |[]=>fc
 |x::xs=>xs.foldl (λm y=>m.bind λb=>(fT b y).map λc=>if c then y else b)<|fb x
abbrev gj(c d:String):Bool:=c==d||d == "ShutError" || d == "ValueError" || d == "Exception"
abbrev gB(h:Hs):Val->Option String
 |.non=>fb "NoneType"
 |.bl _=>fb "bool"
 |.int _=>fb "int"
 |.str _=>fb "str"
 |.tup _=>fb "tuple"
 |.scr _=>fb "list"
 |.ref a=>match h a with
  |some (.lst _)=>fb "list"
  |some (.dct _)=>fb "dict"
  |_=>fc
 |.key _ _=>fc
abbrev gD(h:Hs)(v:Val)(T:String):Option Bool:=(gB h v).map λt=>t==T||(t == "bool" && T == "int")
abbrev isiAny(h:Hs)(v:Val):List String->Option Bool
 |[]=>fb ff
 |T::Ts=>(gD h v T).bind λb=>(isiAny h v Ts).map (b || ·)
abbrev pairsOf(h:Hs):List Val->Option (List<|Val×Val)
 |[]=>fb []
 |v::vs=>match v with
  |.tup [k,x]=>if fE k then(pairsOf h vs).map ((k,x) :: ·)else fc
  |_=>fc
abbrev pairUp:List Val->Option (List<|Val×Val)
 |[]=>fb []
 |k::v::r=>if fE k then(pairUp r).map ((k,v) :: ·)else fc
 |_=>fc
abbrev putAll(kvs:List<|Val×Val):List (Val×Val)->List (Val×Val)
 |[]=>kvs
 |(k,v)::r=>putAll (fK kvs k v) r
abbrev fZ(h:Hs):Val->Rs
 |.ref a=>match h a with
  |some (.lst xs)=>.val<|.int xs.length
  |some (.dct kvs)=>.val<|.int kvs.length
  |_=>.no
 |.tup xs=>.val<|.int xs.length
 |.scr ns=>.val<|.int ns.length
 |.str s=>if s.length<=lim then .val (.int s.length)else .no
 |_=>.no
abbrev Qj:Val->Rs
 |.int i=>.val<|.int i
 |.bl b=>.val (.int<|if b then 1 else 0)
 |.str s=>if s.length<=640/\s.toList≠[]/\s.toList.all figB=fe then .val (.int<|decN s.toList)else .no
 |_=>.no
abbrev absV:Val->Rs
 |.int i=>.val (.int<|if i<0 then -i else i)
 |_=>.no
abbrev fy(f:Val->Rs):List Val->Rs
 |[v]=>f v
 |_=>.no
abbrev biOf2(f:Val->Val->Rs):List Val->Rs
 |[v,u]=>f v u
 |_=>.no
abbrev rowsOf:List Val->Option (List<|List Int)
 |[]=>fb []
 |.tup xs::r=>(fo xs).bind λns=>(rowsOf r).map (ns :: ·)
 |_=>fc
abbrev minR(b:List Int):List (List Int)->List Int
 |[]=>b
 |y::r=>minR (if fS y b then y else b) r
abbrev f6(h:Hs)(v:Val):Rs:=match v with
 |.ref a=>match (fx<|h a).bind rowsOf with
  |some []=>.val .non
  |some (x::r)=>.val<|.tup<|(minR x r).map .int
  |none=>.no
 |_=>.no
abbrev R9(h:Hs):Val->Rs
 |.ref a=>.ofO<|(fx<|h a).bind λxs=>(blsOf xs).map λbs=>.bl<|bs.all id
 |_=>.no
abbrev keysOf(kvs:List<|Val×Val):Option<|List Int:=fo (kvs.map (·.1))
abbrev sortAny(h:Hs)(v:Val):Option<|List Int:=match v with
 |.ref a=>match h a with
  |some (.lst xs)=>fo xs
  |some (.dct kvs)=>keysOf kvs
  |_=>fc
 |.scr ns=>fb ns
 |_=>fc
abbrev Ql(rows:List<|List Int):List<|List Int:=rows.mergeSort λa b=>!fS b a
abbrev IR(h:Hs)(v:Val):Option<|List<|List Int:=match v with
 |.ref a=>(fx<|h a).bind rowsOf
 |_=>fc
abbrev AC(h:Hs)(v:Val):Rs:=match IR h v with
 |some rows=>if rows.length<64/\(rows.all λr=>!r.isEmpty)=fe then .new (.lst<|(Ql rows).map λr=>.tup<|r.map .int)else .no
 |none=>.no
abbrev JE(h:Hs)(v:Val):Rs:=match sortAny h v with
 |some ns=>if ns.length<64 then .new (.lst<|(sortI ns).map .int)else .no
 |none=>AC h v
abbrev biSortedI(h:Hs)(v:Val):Rs:=match sortAny h v with
 |some ns=>if ns.length<64 then .new (.lst<|(sortI ns).map .int)else .no
 |none=>.no
abbrev toList(h:Hs):Val->Rs
 |.ref a=>match h a with
  |some (.lst xs)=>.new<|.lst xs
  |_=>.no
 |.tup xs=>.new<|.lst xs
 |_=>.no
abbrev Mh(h:Hs):Val->Rs
 |.ref a=>match h a with
  |some (.lst xs)=>.val<|.tup xs
  |_=>.no
 |.tup xs=>.val<|.tup xs
 |_=>.no
abbrev Oz(h:Hs):Val->Rs
 |.ref a=>match h a with
  |some (.dct kvs)=>.new<|.dct kvs
  |some (.lst xs)=>match pairsOf h xs with
   |some kvs=>.new<|.dct<|putAll [] kvs
   |none=>.no
  |_=>.no
 |_=>.no
abbrev biListRev(h:Hs)(v:Val):Rs:=match asLst h v with
 |some xs=>.new<|.lst xs.reverse
 |none=>.no
abbrev rangeL:Val->Rs
 |.int k=>if 0<=k/\k<=1000 then .new (.lst<|(List.range k.toNat).map λn=>.int (n:Nat))else .no
 |_=>.no
abbrev biV(h:Hs)(b:Bi)(vs:List Val):Rs:=match b with
 |.len=>fy (fZ h) vs
 |.int=>fy Qj vs
 |.abs=>fy absV vs
 |.min2=>biOf2 (intV λi j=>.val<|.int<|if j<i then j else i) vs
 |.max2=>biOf2 (intV λi j=>.val<|.int<|if j > i then j else i) vs
 |.minD=>fy (f6 h) vs
 |.all=>fy (R9 h) vs
 |.sorted=>fy (JE h) vs
 |.sortedI=>fy (biSortedI h) vs
 |.list=>fy (toList h) vs
 |.tuple=>fy (Mh h) vs
 |.dict=>fy (Oz h) vs
 |.isi Ts=>fy (λv=>.ofO<|(isiAny h v Ts).map .bl) vs
 |.listRev=>fy (biListRev h) vs
 |.listRange=>fy rangeL vs
 |_=>.no
abbrev bmL(h:Hs)(v:Val)(f:Ad->List Val->Option (Val×Hs)):Option<|Val×Hs:=match v with
 |.ref a=>(fx<|h a).bind<|f a
 |_=>fc
abbrev bmD(h:Hs)(v:Val)(f:Ad->List (Val×Val)->Option (Val×Hs)):Option<|Val×Hs:=match v with
 |.ref a=>(gx<|h a).bind<|f a
 |_=>fc
abbrev CF(h:Hs)(vs:List Val)(a:Ad)(xs:List Val):Option<|Val×Hs:=match vs with
 |[v]=>if xs.length<lim then fb (.non,upd h a<|.lst<|xs++[v])else fc
 |_=>fc
abbrev bmExtend(h:Hs)(vs:List Val)(a:Ad)(xs:List Val):Option<|Val×Hs:=match vs with
 |[.ref b]=>(fx<|h b).bind λys=>if xs.length+ys.length<=lim then fb (.non,upd h a<|.lst<|xs++ys)else fc
 |_=>fc
abbrev Hy(h:Hs)(vs:List Val)(a:Ad)(xs:List Val):Option<|Val×Hs:=match vs with
 |[]=>(xs[xs.length - 1]?).map λv=>(v,upd h a<|.lst xs.dropLast)
 |_=>fc
abbrev bmPopAt(h:Hs)(vs:List Val)(a:Ad)(xs:List Val):Option<|Val×Hs:=match vs with
 |[.int i]=>if -(2 ^ 62)<i/\i<2 ^ 62 then(ixN xs.length i).bind λk=>(xs[k]?).map λv=>(v,upd h a<|.lst<|xs.eraseIdx k)else fc
 |_=>fc
abbrev Ri(h:Hs)(vs:List Val)(a:Ad)(kvs:List<|Val×Val):Option<|Val×Hs:=match vs with
 |[k]=>if fE k then fb ((fI kvs k).getD .non,h)else fc
 |_=>fc
abbrev LK(h:Hs)(vs:List Val)(a:Ad)(kvs:List<|Val×Val):Option<|Val×Hs:=match vs with
 |[k]=>if fE k then(fI kvs k).map λv=>(v,upd h a<|.dct<|fL kvs k)else fc
 |_=>fc
abbrev Gm(h:Hs)(vs:List Val)(a:Ad)(kvs:List<|Val×Val):Option<|Val×Hs:=match vs with
 |[k,d]=>if fE k then fb ((fI kvs k).getD d,upd h a<|.dct<|fL kvs k)else fc
 |_=>fc
abbrev bmV(h:Hs)(m:Bm)(v:Val)(vs:List Val):Option<|Val×Hs:=match m with
 |.append=>bmL h v<|CF h vs
 |.extend=>bmL h v<|bmExtend h vs
 |.pop=>bmL h v<|Hy h vs
 |.popAt=>bmL h v<|bmPopAt h vs
 |.dget=>bmD h v<|Ri h vs
 |.dpop=>bmD h v<|LK h vs
 |.dpopD=>bmD h v<|Gm h vs
 |_=>fc
abbrev isLst:Option Ob->Bool
 |some (.lst _)=>fe
 |_=>ff
abbrev isDct:Option Ob->Bool
 |some (.dct _)=>fe
 |some (.dtp _)=>fe
 |_=>ff
inductive Ty where|l|d|s|t
abbrev Bm.ty:Bm->Ty
 |.dget=>.d
 |.dgetD=>.d
 |.dpop=>.d
 |.dpopD=>.d
 |.setdefault=>.d
 |.join=>.s
 |.split=>.s
 |.replace=>.s
 |.upper=>.s
 |.partition=>.s
 |.sidx=>.s
 |.index=>.t
 |_=>.l
abbrev J0(p:Option Ob->Bool)(h:Hs):Val->Bool
 |.ref a=>p<|h a
 |_=>ff
abbrev Ll:Val->Bool
 |.str _=>fe
 |_=>ff
abbrev HX:Val->Bool
 |.tup _=>fe
 |_=>ff
abbrev bmTy(h:Hs)(m:Bm)(v:Val):Bool:=match m.ty with
 |.l=>J0 isLst h v
 |.d=>J0 isDct h v
 |.s=>Ll v
 |.t=>J0 isLst h v||HX v
abbrev fA:List (String×Val)->String->Val->List (String×Val)
 |[],f,v=>[(f,v)]
 |(g,x)::r,f,v=>if g=f then(g,v)::r else(g,x)::fA r f v
abbrev getV(env:Env)(i:Nat):Option Val:=match env[i]? with
 |some (fb v)=>fb v
 |_=>fc
abbrev gA:Val->Option Bool
 |.bl b=>fb b
 |_=>fc
abbrev fQ:Val->Option Ad
 |.ref a=>fb a
 |_=>fc
abbrev insOf:Option Ob->Option (String×List (String×Val))
 |some (.ins C fs)=>fb (C,fs)
 |_=>fc
abbrev tupOf:Val->Option (List Val)
 |.tup xs=>fb xs
 |_=>fc
abbrev bindL:List Nat->List Val->Env->Option Env
 |[],[],env=>fb env
 |i::is,x::xs,env=>bindL is xs<|env.set i<|fb x
 |_,_,_=>fc
abbrev bind(p:Pt)(h:Hs)(v:Val)(env:Env):Option Env :=
 match p with
 |.one i=>fb<|env.set i<|fb v
 |.many is=>(tupOf v).bind λxs=>bindL is xs env
 |.nest i is=>(tupOf v).bind λxs=>match xs with
  |[x,y]=>(tupOf y).bind λys=>bindL is ys<|env.set i<|fb x
  |_=>fc
abbrev wComp(st:Hs->Prop)(step:Val->Hs->(Option Val->Hs->Prop)->XQ->Prop):List Val->List Val->Hs->(List Val->Hs->Prop)->XQ->Prop
 |[],Ī,h,Q,_=>st h/\Q Ī h
 |v::vs,Ī,h,Q,X=>st h/\step v h (λr h'=>wComp st step vs (Ī++r.toList) h' Q X) X
abbrev enumL:Nat->List Val->List Val
 |_,[]=>[]
 |k,x::xs=>.tup [.int k,x]::enumL (k+1) xs
abbrev zipL:List Val->List Val->List Val
 |x::xs,y::ys=>.tup [x,y]::zipL xs ys
 |_,_=>[]
abbrev itV(h:Hs):Val->Option ((Hs->Prop)×List Val)
 |.tup xs=>fb (λ_=>True,xs)
 |.scr ns=>fb (λ_=>True,ns.map .int)
 |.ref a=>(fx<|h a).map λxs=>(λg=>fx (g a)=fb xs,xs)
 |_=>fc
abbrev Ic(h:Hs):Val->Val->Option ((Hs->Prop)×List Val)
 |.tup xs,.tup ys=>fb (λ_=>True,zipL xs ys)
 |.ref p,.ref q=>(fx<|h p).bind λxs=>(fx<|h q).map λys=>(λg=>fx (g p)=fb xs/\fx (g q)=fb ys,zipL xs ys)
 |_,_=>fc
abbrev itemOf(k:Bool)(p:Val×Val):Val:=if k then p.1 else .tup [p.1,p.2]
abbrev fP(i j:Int):List Val:=(List.range (j - i).toNat).map λ(k:Nat)=>.int<|i+k
abbrev fW(h:Hs)(o k v:Val):Option Hs :=
 match o with
 |.ref p=>match h p with
  |some (.lst xs)=>(gy k).bind λn=>(ixN xs.length n).map λj=>upd h p<|.lst<|xs.set j v
  |some (.dct kvs)=>if fE k/\kvs.length<lim then fb (upd h p<|.dct<|fK kvs k v)else fc
  |some (.dtp kvs)=>if isKeyT k/\kvs.length<lim then fb (upd h p<|.dtp<|fK kvs k v)else fc
  |_=>fc
 |_=>fc
abbrev fY(h:Hs)(o:Val)(f:String)(v:Val):Option Hs :=
 match o with
 |.ref p=>match h p with
  |some (.ins C fs)=>if fs.length<900 then fb (upd h p<|.ins C<|fA fs f v)else fc
  |_=>fc
 |_=>fc
abbrev fX(h:Hs)(o:Val)(f:String):Option Val:=(fQ o).bind λa=>(insOf<|h a).bind λp=>p.2.lookup f
abbrev clsV(h:Hs)(o:Val)(m:String):Option String:=(fQ o).bind λa=>(insOf<|h a).bind λp=>if(p.2.lookup m).isNone then fb p.1 else fc
abbrev augV(op:Bop)(x y:Val):Option Val:=match op,x,y with
 |.add,.int i,.int j=>fb<|.int<|i+j
 |.sub,.int i,.int j=>fb<|.int<|i - j
 |_,_,_=>fc
@[irreducible] noncomputable def NU(F:Hs->(List Val->Hs->Prop)->XQ->Prop)(h:Hs)(Q:Q1)(X:XQ):Prop:=new h (.dct []) λr h1=>go (fQ r) λp=>F h1 (λvs h2=>go (pairUp vs) λkvs=>h2 p=fb (.dct [])/\Q (.ref p) (upd h2 p<|.dct<|putAll [] kvs)) X
mutual
@[reducible] noncomputable def xE(Φ:Fs):E->Env->Hs->Q1->XQ->Prop
 |.cst v,_,h,Q,_=>Q v h
 |.glob _ v,_,h,Q,_=>Q v h
 |.var i,env,h,Q,_=>go (getV env i) λv=>Q v h
 |.bin op a b,env,h,Q,X=>xE Φ a env h (λv h1=>xE Φ b env h1 (λu h2=>(binV h2 op v u).wp h2 Q) X) X
 |.neg a,env,h,Q,X=>xE Φ a env h (λv h1=>go (gy v) λi=>Q (.int (-i)) h1) X
 |.not a,env,h,Q,X=>xE Φ a env h (λv h1=>go (gA v) λb=>Q (.bl (!b)) h1) X
 |.and a b,env,h,Q,X=>xE Φ a env h (λv h1=>go (gA v) λc=>if c=fe then xE Φ b env h1 Q X else Q (.bl ff) h1) X
 |.or a b,env,h,Q,X=>xE Φ a env h (λv h1=>go (gA v) λc=>if c=fe then Q (.bl fe) h1 else xE Φ b env h1 Q X) X
 |.cmp op a b,env,h,Q,X=>xE Φ a env h (λv h1=>xE Φ b env h1 (λu h2=>go (fB h2 op v u) λc=>Q (.bl c) h2) X) X
 | .chain o1 o2 a b c,env,h,Q,X=>xE Φ a env h (λv h1=>xE Φ b env h1 (λu h2=>go (fB h2 o1 v u) λk =>
     if k=fe then xE Φ c env h2 (λw h3=>go (fB h3 o2 u w) λk2=>Q (.bl k2) h3) X else Q (.bl ff) h2) X) X
 |.call f as,env,h,Q,X=>xA Φ as env h (λvs h1=>Φ f vs h1 Q X) X
 |.make C as,env,h,Q,X=>xA Φ as env h (λvs h1=>∀p,h1 p=fc->Φ (C ++ ".__init__") (.ref p::vs) (upd h1 p<|.ins C []) (λv h2=>v=.non/\Q (.ref p) h2) X) X
 |.meth C m o as,env,h,Q,X=>xE Φ o env h (λv h1=>clsV h1 v m=fb C/\xA Φ as env h1 (λvs h2=>Φ (C ++ "." ++ m) (v::vs) h2 Q X) X) X
 |.fld o f,env,h,Q,X=>xE Φ o env h (λv h1=>go (fX h1 v f) λu=>Q u h1) X
 |.bi f as,env,h,Q,X=>xA Φ as env h (λvs h1=>(biV h1 f vs).wp h1 Q) X
 |.bm m o as,env,h,Q,X=>xE Φ o env h (λv h1=>bmTy h1 m v=fe/\xA Φ as env h1 (λvs h2=>go (bmV h2 m v vs) λr=>Q r.1 r.2) X) X
 |.idx a i,env,h,Q,X=>xE Φ a env h (λv h1=>xE Φ i env h1 (λk h2=>go (fU h2 v k) λu=>Q u h2) X) X
 |.slc a lo hi,env,h,Q,X=>xE Φ a env h (λv h1=>xO Φ lo env h1 (λl h2=>xO Φ hi env h2 (λu h3=>(fV h3 v l u).wp h3 Q) X) X) X
 |.pick a lo hi st,env,h,Q,X=>xE Φ a env h (λv h1=>xO Φ lo env h1 (λ_ h2=>xO Φ hi env h2 (λ_ h3=>xE Φ st env h3 (λk h4=>go (gy k) λj=>j≠0/\go (lsA h4 v) λxs=>∀ix:List Nat,ix.Nodup->ix.length<=xs.length->new h4 (.lst<|pickL ix xs) Q) X) X) X) X
 |.tup es,env,h,Q,X=>xA Φ es env h (λvs h1=>Q (.tup vs) h1) X
 |.lst es,env,h,Q,X=>xA Φ es env h (λvs h1=>new h1 (.lst vs) Q) X
 |.dct es,env,h,Q,X=>NU (xA Φ es env) h Q X
 |.ife c a b,env,h,Q,X=>xT Φ c env h (λk h1=>if k=fe then xE Φ a env h1 Q X else xE Φ b env h1 Q X) X
 | .comp ù n p it c e,env,h,Q,X=>xI Φ it env h (λst xs h1=>xs.length<lim/\
     wComp st (λv h2 K X2=>go (bind p h2 v<|Í n fc++ù.map λj=>(env[j]?).getD fc) λŋ =>
       xT Φ c ŋ h2 (λk h3=>if k=fe then xE Φ e ŋ h3 (λu h4=>K (fb u) h4) X2 else K fc h3) X2) xs [] h1 (λys h5=>new h5 (.lst ys) Q) λ_ _=>False) X
 |_,_,_,_,_=>False
@[reducible] noncomputable def xA(Φ:Fs):Es->Env->Hs->(List Val->Hs->Prop)->XQ->Prop
 |.nil,_,h,Q,_=>Q [] h
 |.cons e es,env,h,Q,X=>xE Φ e env h (λv h1=>xA Φ es env h1 (λvs h2=>Q (v::vs) h2) X) X
@[reducible] noncomputable def xJ(Φ:Fs):Es->Env->Hs->String->(String->Hs->Prop)->XQ->Prop
 |.nil,_,h,Ī,Q,_=>Q Ī h
 |.cons e es,env,h,Ī,Q,X=>xE Φ e env h (λv h1=>go (fmtV v) λs=>Ī.length+s.length<=lim/\xJ Φ es env h1 (Ī++s) Q X) X
@[reducible] noncomputable def xO(Φ:Fs):Oe->Env->Hs->(Option Int->Hs->Prop)->XQ->Prop
 |.none,_,h,Q,_=>Q fc h
 |.some e,env,h,Q,X=>xE Φ e env h (λv h1=>go (gy v) λi=>Q (fb i) h1) X
@[reducible] noncomputable def xT(Φ:Fs):Tt->Env->Hs->(Bool->Hs->Prop)->XQ->Prop
 |.yes,_,h,Q,_=>Q fe h
 |.val e,env,h,Q,X=>xE Φ e env h (λv h1=>go (JH h1 v) λk=>Q k h1) X
 |.not a,env,h,Q,X=>xT Φ a env h (λk h1=>Q (!k) h1) X
 |.and a b,env,h,Q,X=>xT Φ a env h (λk h1=>if k=fe then xT Φ b env h1 Q X else Q ff h1) X
 |.or a b,env,h,Q,X=>xT Φ a env h (λk h1=>if k=fe then Q fe h1 else xT Φ b env h1 Q X) X
@[reducible] noncomputable def xI(Φ:Fs):It->Env->Hs->((Hs->Prop)->List Val->Hs->Prop)->XQ->Prop
 |.seq e,env,h,Q,X=>xE Φ e env h (λv h1=>go (itV h1 v) λp=>Q p.1 p.2 h1) X
 |.range a,env,h,Q,X=>xE Φ a env h (λv h1=>go (gy v) λn=>(-(2 ^ 62)<=n/\n<2 ^ 62)/\Q (λ_=>True) (fP 0 n) h1) X
 | .range2 a b,env,h,Q,X=>xE Φ a env h (λv h1=>xE Φ b env h1 (λu h2=>go (gy v) λi=>go (gy u) λj =>
     (-(2 ^ 62)<=i/\i<2 ^ 62/\-(2 ^ 62)<=j/\j<2 ^ 62)/\Q (λ_=>True) (fP i j) h2) X) X
 |.enumL e,env,h,Q,X=>xE Φ e env h (λv h1=>go (fQ v) λa=>go (fx<|h1 a) λxs=>Q (λg=>fx (g a)=fb xs) (enumL 0 xs) h1) X
 |.enum e,env,h,Q,X=>xE Φ e env h (λv h1=>go (tupOf v) λxs=>Q (λ_=>True) (enumL 0 xs) h1) X
 |.zip a b,env,h,Q,X=>xE Φ a env h (λv h1=>xE Φ b env h1 (λu h2=>go (Ic h2 v u) λp=>Q p.1 p.2 h2) X) X
 |_,_,_,_,_=>False
end
@[reducible] noncomputable def wE:Fs->E->Env->Hs->Q1->XQ->Prop:=xE
@[reducible] noncomputable def wA:Fs->Es->Env->Hs->(List Val->Hs->Prop)->XQ->Prop:=xA
@[reducible] noncomputable def wJ:Fs->Es->Env->Hs->String->(String->Hs->Prop)->XQ->Prop:=xJ
@[reducible] noncomputable def wO:Fs->Oe->Env->Hs->(Option Int->Hs->Prop)->XQ->Prop:=xO
@[reducible] noncomputable def wT:Fs->Tt->Env->Hs->(Bool->Hs->Prop)->XQ->Prop:=xT
@[reducible] noncomputable def wI:Fs->It->Env->Hs->((Hs->Prop)->List Val->Hs->Prop)->XQ->Prop:=xI
noncomputable abbrev NQ:=Env->Hs->Prop
noncomputable abbrev EQ:=Env->String->Hs->Prop
abbrev wFor(st:Hs->Prop)(W:Val->Env->Hs->NQ->NQ->Prop)(N:NQ):List Val->Env->Hs->Prop
 |[],env,h=>st h/\N env h
 |v::vs,env,h=>st h/\W v env h (λe g=>wFor st W N vs e g) N
mutual
@[reducible] noncomputable def xS(Φ:Fs):S->Env->Hs->NQ->Q1->NQ->NQ->EQ->Prop
 |.set p e,env,h,N,_,_,_,X=>wE Φ e env h (λv h1=>go (bind p h1 v env) λŋ=>N ŋ h1)<|X env
 |.setIdx a i e,env,h,N,_,_,_,X=>wE Φ e env h (λv h1=>wE Φ a env h1 (λo h2=>wE Φ i env h2 (λk h3=>go (fW h3 o k v) λg=>N env g)<|X env)<|X env)<|X env
 |.setFld o f e,env,h,N,_,_,_,X=>wE Φ e env h (λv h1=>wE Φ o env h1 (λu h2=>go (fY h2 u f v) λg=>N env g)<|X env)<|X env
 |.augFld o f op n,env,h,N,_,_,_,X=>wE Φ o env h (λu h1=>go (fX h1 u f) λx=>go (augV op x<|.int n) λy=>go (fY h1 u f y) λg=>N env g)<|X env
 |.augIdx a i op n,env,h,N,_,_,_,X=>wE Φ a env h (λo h1=>wE Φ i env h1 (λk h2=>go (fU h2 o k) λx=>go (augV op x<|.int n) λy=>go (fW h2 o k y) λg=>N env g)<|X env)<|X env
 |.expr e,env,h,N,_,_,_,X=>wE Φ e env h (λ_ h1=>N env h1)<|X env
 |.ret e,env,h,_,R,_,_,X=>wE Φ e env h R<|X env
 |.retN,_,h,_,R,_,_,_=>R .non h
 |.ite c a b,env,h,N,R,B,C,X=>wT Φ c env h (λk h1=>if k=fe then xSs Φ a env h1 N R B C X else xSs Φ b env h1 N R B C X)<|X env
 |.for p it b,env,h,N,R,_,_,X=>wI Φ it env h (λst xs h1=>wFor st (λv e g K M=>go (bind p g v e) λe2=>xSs Φ b e2 g K R M K X) N xs env h1)<|X env
 | .forI k p e b,env,h,N,R,_,_,X=>wE Φ e env h (λv h1=>go (fQ v) λa=>go (gx<|h1 a) λkvs =>
     wFor (λg=>g a=fb (.frz kvs)) (λv e g K M=>go (bind p g v e) λe2=>xSs Φ b e2 g K (λu g2=>g2 a=fb (.frz kvs)/\R u (upd g2 a<|.dct kvs)) M K λ_ _ _=>False)
       (λe g=>g a=fb (.frz kvs)/\N e (upd g a<|.dct kvs)) (kvs.map<|itemOf k) env (upd h1 a<|.frz kvs))<|X env
 |.never,_,_,_,_,_,_,_=>False
 |_,_,_,_,_,_,_,_=>False
@[reducible] noncomputable def xSs(Φ:Fs):Ss->Env->Hs->NQ->Q1->NQ->NQ->EQ->Prop
 |.nil,env,h,N,_,_,_,_=>N env h
 |.cons s ss,env,h,N,R,B,C,X=>xS Φ s env h (λe g=>xSs Φ ss e g N R B C X) R B C X
@[reducible] noncomputable def xH(Φ:Fs):Hn->String->Env->Hs->NQ->Q1->NQ->NQ->Prop
 |.nil,_,_,_,_,_,_,_=>False
 |.cons K fc b r,c,env,h,N,R,B,C=>if gj c K=fe then xSs Φ b env h N R B C (λ_ _ _=>False)else xH Φ r c env h N R B C
 |.cons K (fb i) b r,c,env,h,N,R,B,C=>if gj c K=fe then(∀p,h p=fc->xSs Φ b (env.set i<|fb<|.ref p) (upd h p<|.exc c) (λe g=>N (e.set i fc) g) R (λe g=>B (e.set i fc) g) (λe g=>C (e.set i fc) g) λ_ _ _=>False)
  else xH Φ r c env h N R B C
end
@[reducible] noncomputable def wS:Fs->S->Env->Hs->NQ->Q1->NQ->NQ->EQ->Prop:=xS
@[reducible] noncomputable def wSs:Fs->Ss->Env->Hs->NQ->Q1->NQ->NQ->EQ->Prop:=xSs
structure Fn where
 ar:Nat
 sz:Nat
 body:Ss
noncomputable abbrev Pg:=String->Option Fn
class In(P:Pg)(f:String)(d:outParam Fn):Prop where
 eq:P f=fb d
abbrev Fn.env(d:Fn)(vs:List Val):Env:=vs.map fb++Í (d.sz - d.ar) fc
abbrev wF0(P:Pg):Nat->Fs
 |0=>λ_ _ _ _ _=>False
 |n+1=>λf vs h Q X=>go (P f) λd=>vs.length=d.ar/\wSs (wF0 P n) d.body (d.env vs) h (λ_ g=>Q .non g) Q (λ_ _=>False) (λ_ _=>False) λ_ c g=>X c g
@[irreducible] noncomputable def wF(P:Pg)(n:Nat):Fs:=wF0 P n
variable {P:Pg} {n:Nat}
def wF_eq:wF P n=wF0 P n:=by unfold wF;rfl
def Zc{f:String}{d:Fn}{vs:List Val}{X:XQ}(e:P f=fb d)(hl:vs.length=d.ar)
  (q:wSs (wF P n) d.body (d.env vs) h (λ_ g=>Q .non g) Q (λ_ _=>False) (λ_ _=>False) λ_ c g=>X c g):wF P (n+1) f vs h Q X:=by
 rw[wF_eq]at q ⊢;exact fk e ⟨hl,q⟩
section
variable {Φ:Fs}{env:Env}{h:Hs}{Q:Q1}{X:XQ}{a b c e o:E}{as:Es}{v u:Val}
def Ry{es:Es}(q:new h (.dct []) λr h1=>go (fQ r) λp=>wA Φ es env h1 (λvs h2=>go (pairUp vs) λkvs=>h2 p=fb (.dct [])/\Q (.ref p) (upd h2 p<|.dct<|putAll [] kvs)) X):wE Φ (.dct es) env h Q X:=by show NU _ _ _ _;unfold NU;exact q
variable {QA:List Val->Hs->Prop}{QO:Option Int->Hs->Prop}{QT:Bool->Hs->Prop}{QI:(Hs->Prop)->List Val->Hs->Prop}
def Ro(q:QA [] h):wA Φ .nil env h QA X:=q
end
section
variable {h:Hs}{Q:Q1}{i j k:Int}{a b:Ad}{xs ys:List Val}{v u:Val}{K:Val->Prop}{KB:Bool->Prop}
def wp_val{r:Rs}(e:r=.val v)(q:Q v h):r.wp h Q:=by rw[e,Rs.wp_val];exact q
def wp_new{r:Rs}{o:Ob}(e:r=.new o)(q:new h o Q):r.wp h Q:=by rw[e,Rs.wp_new];exact q
def b_add(q:Q (.int<|i+j) h):(binV h .add (.int i)<|.int j).wp h Q:=wp_val rfl q
def b_sub(q:Q (.int<|i - j) h):(binV h .sub (.int i)<|.int j).wp h Q:=wp_val rfl q
def b_mul(m:mulOk i j)(q:Q (.int<|i*j) h):(binV h .mul (.int i)<|.int j).wp h Q:=wp_val (gF m) q
def b_fdiv(m:0<j/\j<1073741824)(q:Q (.int<|i / j) h):(binV h .fdiv (.int i)<|.int j).wp h Q:=wp_val (gF m) q
def b_mod(m:0<j)(q:Q (.int<|i % j) h):(binV h .mod (.int i)<|.int j).wp h Q:=wp_val (gF m) q
def b_pow(m:0<=j/\j<=1000000/\i.natAbs<2 ^ 64)(q:Q (.int<|i ^ j.toNat) h):(binV h .pow (.int i)<|.int j).wp h Q:=wp_val (gF m) q
def Ip{z:Int}(m:0<=j/\j<=1000000/\i.natAbs<2 ^ 64)(e:i ^ j.toNat=z)(q:Q (.int z) h):(binV h .pow (.int i)<|.int j).wp h Q:=b_pow m (by rw[e];exact q)
def Ie(m:xs.length+ys.length<=lim)(q:Q (.tup<|xs++ys) h):(binV h .add (.tup xs)<|.tup ys).wp h Q:=wp_val (gF m) q
def ZE(e1:h a=fb (.lst xs))(e2:h b=fb (.lst ys))(m:(xs++ys).length<=lim)(q:new h (.lst<|xs++ys) Q):(binV h .add (.ref a)<|.ref b).wp h Q:=by refine wp_new ?_ q;show(match h a,h b with|some (.lst xs),fb (.lst ys)=>Rs.lst (xs++ys)|_,_=>.no:Rs)=_;simp![e1,e2,Rs.lst];rw[gF m]
def lsE(e1:h a=fb (.lst xs)):fx (h a)=fb xs:=by rw[e1];rfl
variable {kvs:List (Val×Val)}
def dcE(e1:h a=fb (.dct kvs)):gx (h a)=fb kvs:=by rw[e1];rfl
def O8(e1:h a=fb (.lst xs))(m:(-(2 ^ 62)<k/\k<2 ^ 62/\xs.length*k.toNat<=lim))(q:new h (.lst (Í k.toNat xs).flatten) Q):(binV h .mul (.ref a)<|.int k).wp h Q:=by refine wp_new ?_ q;show(match h a with|some (.lst xs)=>(if -(2 ^ 62)<k/\k<2 ^ 62/\xs.length*k.toNat<=lim then Rs.lst (Í k.toNat xs).flatten else .no)|_=>.no:Rs)=_;simp![e1,Rs.lst];rw[gF m,gF<|by simpa[av]using m.2.2]
def g_int{K:Int->Prop}(q:K i):go (gy<|.int i) K:=fk rfl q
def g_bl{b:Bool}(q:KB b):go (gA<|.bl b) KB:=fk rfl q
def g_ref{K:Ad->Prop}(q:K a):go (fQ<|.ref a) K:=fk rfl q
def g_tbl{b:Bool}(q:KB b):go (JH h<|.bl b) KB:=fk rfl q
def RP(q:KB<|gM (i≠0)):go (JH h<|.int i) KB:=fk rfl q
def Sc(e:h a=fb (.lst xs))(q:KB (!xs.isEmpty)):go (JH h<|.ref a) KB:=fk (by unfold JH;simp![e]) q
def fm(e:atI xs i=fb v)(q:K v):go (fU h (.tup xs)<|.int i) K:=fk e q
def ZA(e1:h a=fb (.lst xs))(e:atI xs i=fb v)(q:K v):go (fU h (.ref a)<|.int i) K:=fk (by unfold fU;simp![e1];exact e) q
def Z7{k:Val}(e1:h a=fb (.dct kvs))(hk:fE k=fe)(e:fI kvs k=fb v)(q:K v):go (fU h (.ref a) k) K:=fk (by unfold fU;simp![e1];rw[gF hk];exact e) q
def c_lt(q:KB<|gM (i<j)):go (fB h .lt (.int i)<|.int j) KB:=fk rfl q
def c_gt(q:KB<|gM (j<i)):go (fB h .gt (.int i)<|.int j) KB:=fk rfl q
def c_le(q:KB<|gM (i<=j)):go (fB h .le (.int i)<|.int j) KB:=fk rfl q
def c_ge(q:KB<|gM (j<=i)):go (fB h .ge (.int i)<|.int j) KB:=fk rfl q
def UJ:D.eqv (.int i) (.int j)=gM (i=j):=by rw[D.eqv];by_cases e:i=j<;>simp[e]
variable {s:String}
def HD{t:String}:D.eqv (.str s) (.str t)=gM (s=t):=by rw[D.eqv];by_cases e:s=t<;>simp[e]
def c_eqI(q:KB<|gM (i=j)):go (fB h .eq (.int i)<|.int j) KB:=fk (by show fb (D.eqv (.int i)<|.int j)=_;rw[UJ]) q
def c_neI(q:KB (!gM (i=j))):go (fB h .ne (.int i)<|.int j) KB:=fk (by show fb (!D.eqv (.int i) (.int j))=_;rw[UJ]) q
def SM{t:String}(q:KB<|gM (s=t)):go (fB h .eq (.str s)<|.str t) KB:=fk (by show fb (D.eqv (.str s)<|.str t)=_;rw[HD]) q
def SL{t:String}(q:KB (!gM (s=t))):go (fB h .ne (.str s)<|.str t) KB:=fk (by show fb (!D.eqv (.str s) (.str t))=_;rw[HD]) q
variable {c:Bool}
def SN{d:Bool}(q:KB<|c==d):go (fB h .eq (.bl c)<|.bl d) KB:=fk (by show fb (D.eqv (.bl c)<|.bl d)=_;rw[D.eqv]) q
def c_isN(q:KB<|gM (v=.non)):go (fB h .is v .non) KB:=fk (by unfold fB;rfl) q
def c_notN(q:KB (!gM (v=.non))):go (fB h .isnot v .non) KB:=fk (by unfold fB;rfl) q
def c_eqE(e1:h a=fb (.lst xs))(e2:h b=fb (.lst []))(q:KB xs.isEmpty):go (fB h .eqE (.ref a)<|.ref b) KB:=fk (by show(fx<|h a).bind _=_;rw[e1,Yy];show(fx<|h b).bind _=_;rw[e2,Yy];rfl) q
def c_neE(e1:h a=fb (.lst xs))(e2:h b=fb (.lst []))(q:KB (!xs.isEmpty)):go (fB h .neE (.ref a)<|.ref b) KB:=fk (by show(fx<|h a).bind _=_;rw[e1,Yy];show(fx<|h b).bind _=_;rw[e2,Yy];rfl) q
variable {ns:List Int}
def Iy{ms:List Int}(e1:fo xs=fb ns)(e2:fo ys=fb ms)(q:KB<|fS ms ns):go (fB h .gt (.tup xs)<|.tup ys) KB:=fk (by show(fo ys).bind _=_;rw[e1,e2];rfl) q
variable {n:Nat} {ř:Env}
def O2{env:Env}{K:Env->Prop}(e:env.set n (fb v)=ř)(q:K ř):go (bind (.one n) h v env) K:=by subst e;exact fk rfl q
def Pn{is:List Nat}{env:Env}{K:Env->Prop}(e:bindL is xs env=fb ř)(q:K ř):go (bind (.many is) h (.tup xs) env) K:=fk e q
def Ud{K:Hs->Prop}(e1:h a=fb (.lst xs))(e:ixN xs.length i=fb n)(q:K<|upd h a<|.lst<|xs.set n v):go (fW h (.ref a) (.int i) v) K:=fk (by unfold fW;simp![e1,gy,ú,e,Ľ]) q
def Yv{K:Hs->Prop}{k:Val}(e1:h a=fb (.dct kvs))(m:fE k=fe/\kvs.length<lim)(q:K<|upd h a<|.dct<|fK kvs k v):go (fW h (.ref a) k v) K:=fk (by unfold fW;simp![e1];rw[gF m]) q
def JT(e1:h a=fb (.dct kvs))(hk:fE v=fe)(q:KB<|fJ kvs v):go (fB h .isin v<|.ref a) KB:=fk (by show inV h v (.ref a)=_;unfold inV;simp![e1];rw[gF hk]) q
def Xz(e1:h a=fb (.dct kvs))(hk:fE v=fe)(q:KB (!fJ kvs v)):go (fB h .notin v<|.ref a) KB:=fk (by show(inV h v<|.ref a).map _=_;unfold inV;simp![e1];rw[gF hk];rfl) q
variable {C:String} {f:String}
def ZT{fs:List (String×Val)}{K:Hs->Prop}(e1:h a=fb (.ins C fs))(m:fs.length<900)(q:K<|upd h a<|.ins C<|fA fs f v):go (fY h (.ref a) f v) K:=fk (by unfold fY;simp![e1];rw[gF m]) q
def HQ{fs:List (String×Val)}(e1:h a=fb (.ins C fs))(e:fs.lookup f=fb v)(q:K v):go (fX h (.ref a) f) K:=fk (by unfold fX fQ;simp![e1,insOf,ú];exact e) q
variable {P:Prop}
def IQ{m:String}{fs:List (String×Val)}(e1:h a=fb (.ins C fs))(e:fs.lookup m=fc)(q:P):clsV h (.ref a) m=fb C/\P:=⟨by unfold clsV fQ;simp![e1,insOf,ú,e,Option.isNone_none,if_true],q⟩
def ag_add(q:K<|.int<|i+j):go (augV .add (.int i)<|.int j) K:=fk rfl q
def ln_lst(e1:h a=fb (.lst xs))(q:Q (.int xs.length) h):(biV h .len [.ref a]).wp h Q:=wp_val (by show fZ h (.ref a)=_;unfold fZ;dsimp only;rw[e1]) q
def RQ(q:Q (.int ns.length) h):(biV h .len [.scr ns]).wp h Q:=wp_val rfl q
def ln_tup(q:Q (.int xs.length) h):(biV h .len [.tup xs]).wp h Q:=wp_val rfl q
def in_str(m:s.length<=640/\s.toList≠[]/\s.toList.all figB=fe)(q:Q (.int<|decN s.toList) h):(biV h .int [.str s]).wp h Q:=wp_val (gF m) q
def ab_int(q:Q (.int<|if i<0 then -i else i) h):(biV h .abs [.int i]).wp h Q:=wp_val rfl q
def L7{bs:List Bool}(e1:h a=fb (.lst xs))(e2:blsOf xs=fb bs)(q:Q (.bl<|bs.all id) h):(biV h .all [.ref a]).wp h Q:=wp_val (by show Rs.ofO ((fx<|h a).bind _)=_;rw[lsE e1,ú,e2];rfl) q
def SO{K:String->Prop}(q:K s):go (Qb<|.str s) K:=fk rfl q
variable {m:Bm}
def RM(hm:m=.join)(q:P):bmTy h m (.str s)=fe/\P:=⟨by subst hm;rfl,q⟩
def P4{K:List Val->Prop}(e1:h a=fb (.lst xs))(q:K xs):go (fx<|h a) K:=fk (by rw[e1];rfl) q
def IX{K:(Hs->Prop)×List Val->Prop}(e1:h a=fb (.lst xs))(e2:h b=fb (.lst ys))(q:K (λg=>fx (g a)=fb xs/\fx (g b)=fb ys,zipL xs ys)):go (Ic h (.ref a)<|.ref b) K:=fk (by unfold Ic;simp![e1,e2,fx,ú,Ľ]) q
def Sy(q:Q (.int i) h):(biV h .int [.int i]).wp h Q:=wp_val rfl q
def in_bl(q:Q (.int<|if c then 1 else 0) h):(biV h .int [.bl c]).wp h Q:=wp_val rfl q
def mn2(q:Q (.int<|if j<i then j else i) h):(biV h .min2 [.int i,.int j]).wp h Q:=wp_val rfl q
def mx2(q:Q (.int<|if j > i then j else i) h):(biV h .max2 [.int i,.int j]).wp h Q:=wp_val rfl q
def tp_lst(e1:h a=fb (.lst xs))(q:Q (.tup xs) h):(biV h .tuple [.ref a]).wp h Q:=wp_val (by show Mh h (.ref a)=_;unfold Mh;dsimp only;rw[e1]) q
def Sx(q:Q (.tup xs) h):(biV h .tuple [.tup xs]).wp h Q:=wp_val rfl q
def Ru{Ts:List String}(e:isiAny h v Ts=fb c)(q:Q (.bl c) h):(biV h (.isi Ts) [v]).wp h Q:=wp_val (by show Rs.ofO ((isiAny h v Ts).map .bl)=_;rw[e];rfl) q
def ls_lst(e1:h a=fb (.lst xs))(q:new h (.lst xs) Q):(biV h .list [.ref a]).wp h Q:=wp_new (by show toList h (.ref a)=_;unfold toList;dsimp only;rw[e1]) q
def Sj(q:new h (.lst xs) Q):(biV h .list [.tup xs]).wp h Q:=wp_new rfl q
variable {lo:Option Int} {hi:Option Int}
def AJ{α:Type}{xs:List α}(n:fR xs.length 0 lo=0/\fR xs.length xs.length hi=xs.length):cut xs lo hi=xs:=by unfold cut;rw[n.1,n.2,ϟ,ay,ñ]
def FK(q:Q (.tup<|cut xs lo hi) h):(fV h (.tup xs) lo hi).wp h Q:=by
 unfold fV;dsimp only;split
 .rename_i n;rw[AJ n]at q;exact wp_val rfl q
 .exact wp_val rfl q
def f7(n:¬ (fR xs.length 0 lo=0/\fR xs.length xs.length hi=xs.length))(q:Q (.tup<|cut xs lo hi) h):(fV h (.tup xs) lo hi).wp h Q:=wp_val (by unfold fV;simp only;rw[gG n]) q
def L3(hm:m.ty=.l\/m.ty=.t)(e:h a=fb (.lst xs))(q:P):bmTy h m (.ref a)=fe/\P:=⟨by unfold bmTy;rcases hm with hm|hm<;>rw[hm]<;>simp[J0,e,isLst],q⟩
def Lu(hm:m.ty=.d)(e:h a=fb (.dct kvs))(q:P):bmTy h m (.ref a)=fe/\P:=⟨by unfold bmTy;rw[hm];simp[J0,e,isDct],q⟩
abbrev L8:Bi->Bool
 |.sorted=>fe
 |.sortedI=>fe
 |_=>ff
def CG{f:Bi}(hf:L8 f=fe)(e:sortAny h v=fb ns)(m:ns.length<64)(q:new h (.lst<|(sortI ns).map Val.int) Q):(biV h f [v]).wp h Q:=by
 cases f with
 |sorted=>exact wp_new (by show JE h v=_;unfold JE;simp![e];exact gF m) q
 |sortedI=>exact wp_new (by show biSortedI h v=_;unfold biSortedI;simp![e];exact gF m) q
 |_=>cases hf
def Lj{f:Bi}(e1:h a=fb (.lst<|ns.map Val.int))(e2:fo (ns.map Val.int)=fb ns)(m:ns.length<64)(q:new h (.lst<|(sortI ns).map Val.int) Q)(hf:L8 f=fe:=by rfl):(biV h f [.ref a]).wp h Q:=CG hf (by unfold sortAny;simp![e1,e2]) m q
def Ow{f:Bi}(e1:h a=fb (.dct kvs))(e2:keysOf kvs=fb ns)(m:ns.length<64)(q:new h (.lst<|(sortI ns).map Val.int) Q)(hf:L8 f=fe:=by rfl):(biV h f [.ref a]).wp h Q:=CG hf (by unfold sortAny;simp![e1,e2]) m q
def Iq(e1:h a=fb (.lst []))(q:Q .non h):(biV h .minD [.ref a]).wp h Q:=wp_val (by show f6 h (.ref a)=_;unfold f6;simp![e1,fx,ú,rowsOf]) q
def EK{x:List Int}{r:List (List Int)}(e1:h a=fb (.lst xs))(e2:rowsOf xs=fb (x::r))(q:Q (.tup<|(minR x r).map Val.int) h):(biV h .minD [.ref a]).wp h Q:=wp_val (by show f6 h (.ref a)=_;unfold f6;simp![e1,fx,ú,e2]) q
def sl_str(n:s.length<=lim)(q:Q (.str<|Β<|cut s.toList lo hi) h):(fV h (.str s) lo hi).wp h Q:=wp_val (by unfold fV;simp only;rw[gF n]) q
def sl_lst(e1:h a=fb (.lst xs))(q:new h (.lst<|cut xs lo hi) Q):(fV h (.ref a) lo hi).wp h Q:=wp_new (by unfold fV;simp![e1,fx]) q
def SA(q:new h (.lst<|cut (ns.map Val.int) lo hi) Q):(fV h (.scr ns) lo hi).wp h Q:=wp_new rfl q
def Zv{K:Val×Hs->Prop}(e1:h a=fb (.lst xs))(m:xs.length<lim)(q:K (.non,upd h a<|.lst<|xs++[v])):go (bmV h .append (.ref a) [v]) K:=fk (by show(fx<|h a).bind _=_;rw[lsE e1];exact gF m) q
def HZ{K:Val×Hs->Prop}(e1:h a=fb (.dct kvs))(hk:fE v=fe)(q:K ((fI kvs v).getD .non,h)):go (bmV h .dget (.ref a) [v]) K:=fk (by show(gx<|h a).bind _=_;rw[dcE e1];exact gF hk) q
def it_lst{K:(Hs->Prop)×List Val->Prop}(e1:h a=fb (.lst xs))(q:K (λg=>fx (g a)=fb xs,xs)):go (itV h<|.ref a) K:=fk (by unfold itV;simp![e1,fx,Ľ]) q
def it_scr{K:(Hs->Prop)×List Val->Prop}(q:K (λ_=>True,ns.map Val.int)):go (itV h<|.scr ns) K:=fk rfl q
def it_tup{K:(Hs->Prop)×List Val->Prop}(q:K (λ_=>True,xs)):go (itV h<|.tup xs) K:=fk rfl q
def R6{K:List Val->Prop}(q:K xs):go (Ec h<|.tup xs) K:=fk rfl q
def Si{K:List Val->Prop}(e1:h a=fb (.lst xs))(q:K xs):go (Ec h<|.ref a) K:=fk (by unfold Ec;simp![e1,fx]) q
variable {A:Prop} {B:Prop}
def f8(e:c=fe)(q:A):if c=fe then A else B:=by rw[gF e];exact q
def f9(e:c=ff)(q:B):if c=fe then A else B:=by rw[gG<|by rw[e];decide];exact q
def gc(q:c=fe->A)(r:c=ff->B):if c=fe then A else B:=by cases c;exact r rfl;exact q rfl
variable {p:Prop}
def gb[Decidable p](q:p->A)(r:¬p->B):if decide p=fe then A else B:=by
 by_cases e:p
 .rw[gF<|gJ e];exact q e
 .rw[gG<|by simpa using e];exact r e
def NR[Decidable p](q:¬p->A)(r:p->B):if(!decide p)=fe then A else B:=by
 by_cases e:p
 .rw[gG<|by simpa using e];exact r e
 .rw[gF<|by simpa using e];exact q e
end
structure Ext(h g:Hs):Prop where
 get:∀{a:Ad}{o:Ob},h a=fb o->g a=fb o
variable {h:Hs}
def Ext.refl:Ext h h:=⟨λe=>e⟩
variable {g:Hs}
def Ext.trans{k:Hs}(e:Ext h g)(f:Ext g k):Ext h k:=⟨λx=>f.get<|e.get x⟩
variable {p:Ad} {o:Ob}
def Ext.new(e:h p=fc):Ext h<|upd h p o:=⟨λ{a u} x=>by
  rw[fg<|by intro z;rw[z,e]at x;cases x];exact x⟩
structure ExtB(w:Ad)(h g:Hs):Prop where
 get:∀{a:Ad}{o:Ob},a≠w->h a=fb o->g a=fb o
variable {w:Ad}
def ExtB.trans{k:Hs}(e:ExtB w h g)(f:ExtB w g k):ExtB w h k:=⟨λn x=>f.get n<|e.get n x⟩
def ExtB.upd:ExtB w h<|upd h w o:=⟨λn x=>by rw[fg n];exact x⟩
def ExtB.of(e:Ext h g):ExtB w h g:=⟨λ_ x=>e.get x⟩
variable {a:Ad}
def Za(x:h a=fb o)(n:h p=fc):a≠p:=by intro z;rw[z,n]at x;cases x
def ne_none'(n:h p=fc)(x:h a=fb o):a≠p:=Za x n
def upd_ne'{b:Ad}{r:Option Ob}(n:b≠a)(e:h b=r):upd h a o b=r:=by rw[fg n];exact e
inductive Sm1 {α:Type}(p:α->Prop):Prop|mk (a:α) (h:p a)
inductive Sm2 {α β:Type}(p:α->β->Prop):Prop|mk (a:α) (b:β) (h:p a b)
inductive Sm3 {α β γ:Type}(p:α->β->γ->Prop):Prop|mk (a:α) (b:β) (c:γ) (h:p a b c)
inductive Sm4 {α β γ δ:Type}(p:α->β->γ->δ->Prop):Prop|mk (a:α) (b:β) (c:γ) (d:δ) (h:p a b c d)
inductive Sm5 {α β γ δ ε:Type}(p:α->β->γ->δ->ε->Prop):Prop|mk (a:α) (b:β) (c:γ) (d:δ) (e:ε) (h:p a b c d e)
inductive Cj3 (a b c:Prop):Prop|mk (h1:a) (h2:b) (h3:c)
inductive Cj4 (a b c d:Prop):Prop|mk (h1:a) (h2:b) (h3:c) (h4:d)
inductive Cj5 (a b c d e:Prop):Prop|mk (h1:a) (h2:b) (h3:c) (h4:d) (h5:e)
inductive Cj6 (a b c d e f:Prop):Prop|mk (h1:a) (h2:b) (h3:c) (h4:d) (h5:e) (h6:f)
inductive Cj7 (a b c d e f g:Prop):Prop|mk (h1:a) (h2:b) (h3:c) (h4:d) (h5:e) (h6:f) (h7:g)
inductive Cj8 (a b c d e f g h:Prop):Prop|mk (h1:a) (h2:b) (h3:c) (h4:d) (h5:e) (h6:f) (h7:g) (h8:h)
inductive Cj9 (a b c d e f g h i:Prop):Prop|mk (h1:a) (h2:b) (h3:c) (h4:d) (h5:e) (h6:f) (h7:g) (h8:h) (h9:i)
variable {st:Hs->Prop} {xs:List Val}
def Zg{W:Val->Env->Hs->NQ->NQ->Prop}{N:NQ}(I:Nat->Env->Hs->Prop){env:Env}(h0:I 0 env h)(Š:∀i e g,i<=xs.length->I i e g->st g)
  (step:∀i v e g,xs[i]?=fb v->I i e g->∀K:NQ,(∀e' g',I (i+1) e' g'->K e' g')->W v e g K N) (fin:∀e g,I xs.length e g->N e g):wFor st W N xs env h:=by
 have key:∀(ys:List Val) (i:Nat) e g,xs.drop i=ys->i<=xs.length->I i e g->wFor st W N ys e g:=by
  intro ys;induction ys with
  |nil =>
   intro i e g hd hi hI;have:i=xs.length:=by have:=congrArg List.length hd;simp at this;lia
   subst this;exact⟨Š _ e g (Ï _) hI,fin e g hI⟩
  |cons v vs ih =>
   intro i e g hd hi hI;have aq:i<xs.length:=by have:=congrArg List.length hd;simp at this;lia
   have hv:xs[i]?=fb v:=by have:=congrArg (λl=>l[0]?) hd;simpa using this
   refine⟨Š i e g hi hI,step i v e g hv hI _ λe' g' hI'=>ih (i+1) e' g' ?_ (by lia) hI'⟩;have:=congrArg List.tail hd;simpa using this
 exact key xs 0 env h (by simp) (by lia) h0
variable {Q:List Val->Hs->Prop} {X:XQ}
def Wo{step:Val->Hs->(Option Val->Hs->Prop)->XQ->Prop}(I:Nat->List Val->Hs->Prop)(h0:I 0 [] h)(Š:∀i ys g,i<=xs.length->I i ys g->st g)
  (go:∀i v ys g,xs[i]?=fb v->I i ys g->∀K,(∀r g',I (i+1) (ys++r.toList) g'->K r g')->step v g K X) (fin:∀ys g,I xs.length ys g->Q ys g):wComp st step xs [] h Q X:=by
 have key:∀(zs:List Val) (i:Nat) ys g,xs.drop i=zs->i<=xs.length->I i ys g->wComp st step zs ys g Q X:=by
  intro zs;induction zs with
  |nil =>
   intro i ys g hd hi hI;have:i=xs.length:=by have:=congrArg List.length hd;simp at this;lia
   subst this;exact⟨Š _ ys g (Ï _) hI,fin ys g hI⟩
  |cons v vs ih =>
   intro i ys g hd hi hI;have aq:i<xs.length:=by have:=congrArg List.length hd;simp at this;lia
   have hv:xs[i]?=fb v:=by have:=congrArg (λl=>l[0]?) hd;simpa using this
   refine⟨Š i ys g hi hI,go i v ys g hv hI _ λr g' hI'=>ih (i+1) _ g' ?_ (by lia) hI'⟩;have:=congrArg List.tail hd;simpa using this
 exact key xs 0 [] h (by simp) (by lia) h0
def WG{step:Val->Hs->(Option Val->Hs->Prop)->XQ->Prop}(f:Val->Option Val)(Š:st h)
  (go:∀v∈xs,∀K,K (f v) h->step v h K X) (fin:Q (xs.filterMap f) h):wComp st step xs [] h Q X:=by
 have key:∀(zs ys:List Val),(∀v∈zs,v∈xs)->Q (ys++zs.filterMap f) h->wComp st step zs ys h Q X:=by
  intro zs;induction zs with
  |nil=>intro ys _ q;exact⟨Š,⇑q⟩
  |cons v vs ih =>
   intro ys hm q;refine⟨Š,go v (hm v<|by simp) _<|ih _ (λw hw=>hm w<|by simp[hw]) ?_⟩;cases e:f v with
   |none=>simpa[ò,e]using q
   |some u=>simpa[ò,e]using q
 exact key xs [] (λ_ h=>h) ⇑fin
section
variable {Φ:Fs}{env:Env}{h:Hs}{Q:Q1}{X:XQ}{a b c e o:E}{as:Es}{v u:Val}
variable {es:Es}
def q_e_dct:(wE Φ (.dct es) env h Q X)=(new h (.dct []) λr h1=>go (fQ r) λp=>wA Φ es env h1 (λvs h2=>go (pairUp vs) λkvs=>h2 p=fb (.dct [])/\Q (.ref p) (upd h2 p<|.dct<|putAll [] kvs)) X):=by show NU _ _ _ _=_;unfold NU;rfl
variable {QA:List Val->Hs->Prop}{QO:Option Int->Hs->Prop}{QT:Bool->Hs->Prop}{QI:(Hs->Prop)->List Val->Hs->Prop}
def q_a_nil:(wA Φ .nil env h QA X)=(QA [] h):=rfl
def q_a_cons:(wA Φ (.cons e es) env h QA X)=(wE Φ e env h (λv h1=>wA Φ es env h1 (λvs h2=>QA (v::vs) h2) X) X):=rfl
end
mutual
theorem D.eqv_refl:∀d:D,D.eqv d d=fe
 |.non=>by simp[D.eqv]
 |.bl _=>by simp[D.eqv]
 |.int _=>by simp[D.eqv]
 |.str _=>by simp[D.eqv]
 |.tup ds=>by simp![D.eqv];exact D.eqvs_refl ds
 |.lst ds=>by simp![D.eqv];exact D.eqvs_refl ds
theorem D.eqvs_refl:∀ds:List D,D.eqvs ds ds=fe
 |[]=>by simp[D.eqvs]
 |d::ds=>by simp![D.eqvs,D.eqv_refl d,D.eqvs_refl ds,Bool.and_self]
end
def UO{α:Type}{o:Option α}{k k':α->Prop}(h:go o k)(f:∀a,k a->k' a):go o k':=by
 cases o with
 |none=>rw[E3]at h;exact h.elim
 |some a=>rw[fj]at h ⊢;exact f a h
section
variable {Φ:Fs}{env:Env}{h:Hs}{Q:Q1}{X:XQ}{a:Ad}{v:Val}{kvs:List (Val×Val)}
def Pd(q:∀p,h p=fc->Q (.ref p) (upd h p<|.dct [])):wE Φ (.dct .nil) env h Q X:=by refine Ry<|Z8 λp hp=>g_ref<|Ro<|fk rfl ⟨fh,?_⟩;rw[fi];exact q p hp
def dw0(q:∀p,h p=fc->Q (.ref p) (upd h p<|.dct [])):NU (xA Φ .nil env) h Q X:=Pd q
def dw{F:Hs->(List Val->Hs->Prop)->XQ->Prop}(q:new h (.dct []) λr h1=>go (fQ r) λp=>F h1 (λvs h2=>go (pairUp vs) λkvs=>h2 p=fb (.dct [])/\Q (.ref p) (upd h2 p<|.dct<|putAll [] kvs)) X):NU F h Q X:=by unfold NU;exact q
def Rm{i:Nat}{K:Val->Prop}(g:getV env i=fb v)(q:K v):go (getV env i) K:=fk g q
def dc_of{K:List (Val×Val)->Prop}(e1:h a=fb (.dct kvs))(q:K kvs):go (gx<|h a) K:=fk (dcE e1) q
variable {u:Val}
def C4{K:Val×Hs->Prop}(e1:h a=fb (.dct kvs))(hk:fE v=fe)(e2:fI kvs v=fb u)(q:K (u,upd h a<|.dct<|fL kvs v)):go (bmV h .dpop (.ref a) [v]) K:=fk (by show(gx<|h a).bind _=_;rw[dcE e1];show(if fE v then _ else _)=_;rw[gF hk,e2];rfl) q
def U6{K:Val×Hs->Prop}(e1:h a=fb (.dct kvs))(hk:fE v=fe)(q:K ((fI kvs v).getD u,upd h a<|.dct<|fL kvs v)):go (bmV h .dpopD (.ref a) [v,u]) K:=fk (by show(gx<|h a).bind _=_;rw[dcE e1];exact gF hk) q
end
end O
namespace Snd
open PySem L2
abbrev KT(K:Frag)(a:È)(xs:List V):Prop :=
 ∃(o:Obj) (ó:Array Ä) (n:Nat),K.lookup a=fb o/\o.cls=.type "tuple"/\o.data=.seq ó n/\ó.size<=Ü/\gp xs ó.toList
abbrev KL(K:Frag)(a:È)(xs:List V):Prop :=
 ∃(o:Obj) (ó:Array Ä) (n:Nat),K.lookup a=fb o/\o.cls=.type "list"/\o.dict=fc/\o.data=.seq ó n/\ó.size<=Ü/\gp xs ó.toList
mutual
inductive RV (K:Frag) (H:Hp):O.Val->V->Prop
 |non:RV K H .non .non
 |bl (b:Bool):RV K H (.bl b)<|.bl b
 |int (i:Int):RV K H (.int i)<|.int i
 |str (s:String):RV K H (.str s)<|.str<|gN s
 |tup {xs:List O.Val}{a:È}{vs:List V}:(H a=fb (.tup vs)\/KT K a vs)->RVs K H xs vs->RV K H (.tup xs) (.ref a)
 |ref (a:È):RV K H (.ref a)<|.ref a
 |scr {ns:List Int}{a:È}:((∃o,H a=fb (.frz o<|.lst<|ns.map V.int))\/KL K a (ns.map V.int))->RV K H (.scr ns) (.ref a)
 |key {i j:Int}{a:È}:H a=fb (.tup [.int i,.int j])->RV K H (.key i j) (.ref a)
inductive RVs (K:Frag) (H:Hp):List O.Val->List V->Prop
 |nil:RVs K H [] []
 |cons {v:O.Val}{x:V}{vs:List O.Val}{xs:List V}:RV K H v x->RVs K H vs xs->RVs K H (v::vs) (x::xs)
end
structure fH(H H':Hp):Prop where
 t:∀a xs,H a=fb (.tup xs)->H' a=fb (.tup xs)
 f:∀a o u,H a=fb (.frz o u)->H' a=fb (.frz o u)
def fH.refl(H:Hp):fH H H:=⟨λ_ _ e=>e,λ_ _ _ e=>e⟩
variable {H:Hp}
def fH.trans{H1 H2:Hp}(a:fH H H1)(b:fH H1 H2):fH H H2:=⟨λc xs e=>b.t c xs<|a.t c xs e,λc o u e=>b.f c o u<|a.f c o u e⟩
variable {a:È} {o:HO}
def fH.put(h:∀xs,H a≠fb (.tup xs))(h2:∀p u,H a≠fb (.frz p u)):fH H<|upd H a o:=⟨λb xs e=>by
  rw[fg<|by rintro rfl;exact h xs e];exact e,λb p u e=>by rw[fg<|by rintro rfl;exact h2 p u e];exact e⟩
def fH.new(h:H a=fc):fH H<|upd H a o:=fH.put (λxs e=>by rw[h]at e;cases e) λp u e=>by rw[h]at e;cases e
variable {K:Frag}{H H':Hp}
mutual
theorem RV.keep(k:fH H H'):∀{v:O.Val}{x:V},RV K H v x->RV K H' v x
 |_,_,.non=>.non
 |_,_,.bl b=>.bl b
 |_,_,.int i=>.int i
 |_,_,.str s=>.str s
 |_,_,.tup (.inl e) r=>.tup (.inl<|k.t _ _ e)<|RVs.keep k r
 |_,_,.tup (.inr e) r=>.tup (.inr e)<|RVs.keep k r
 |_,_,.ref a=>.ref a
 |_,_,.scr (.inl ⟨o,e⟩)=>.scr<|.inl ⟨o,k.f _ _ _ e⟩
 |_,_,.scr (.inr e)=>.scr<|.inr e
 |_,_,.key e=>.key<|k.t _ _ e
theorem RVs.keep(k:fH H H'):∀{vs:List O.Val}{xs:List V},RVs K H vs xs->RVs K H' vs xs
 |_,_,.nil=>.nil
 |_,_,.cons r t=>.cons (RV.keep k r)<|RVs.keep k t
end
def RVs.length:∀{vs:List O.Val}{xs:List V},RVs K H vs xs->vs.length=xs.length
 |_,_,.nil=>rfl
 |_,_,.cons _ t=>by rw[Ð,Ð,RVs.length t]
def RVs.get:∀{vs:List O.Val}{xs:List V}{i:Nat}{v:O.Val},RVs K H vs xs->vs[i]?=fb v->∃x,xs[i]?=fb x/\RV K H v x
 |_,_,_,_,.nil,e=>by simp at e
 |_,_,0,_,.cons r _,e=>by simp at e;subst e;exact⟨_,rfl,r⟩
 |_,_,i+1,v,.cons _ t,e=>by let⟨x,h1,h2⟩:=RVs.get (i:=i) (v:=v) t ⇑e;exact⟨x,⇑h1,h2⟩
def RVs.append:∀{vs us:List O.Val}{xs ys:List V},RVs K H vs xs->RVs K H us ys->RVs K H (vs++us) (xs++ys)
 |_,_,_,_,.nil,h=>h
 |_,_,_,_,.cons r t,h=>.cons r<|RVs.append t h
def RVs.set{v:O.Val}{x:V}(r:RV K H v x):∀{vs:List O.Val}{xs:List V}(i:Nat),RVs K H vs xs->RVs K H (vs.set i v) (xs.set i x)
 |_,_,_,.nil=>.nil
 |_,_,0,.cons _ t=>.cons r t
 |_,_,i+1,.cons q t=>.cons q<|RVs.set r i t
def RVs.take:∀{vs:List O.Val}{xs:List V}(n:Nat),RVs K H vs xs->RVs K H (vs.take n) (xs.take n)
 |_,_,0,_=>.nil
 |_,_,_+1,.nil=>.nil
 |_,_,n+1,.cons r t=>.cons r<|RVs.take n t
def RVs.drop:∀{vs:List O.Val}{xs:List V}(n:Nat),RVs K H vs xs->RVs K H (vs.drop n) (xs.drop n)
 |_,_,0,r=>r
 |_,_,_+1,.nil=>.nil
 |_,_,n+1,.cons _ t=>RVs.drop n t
variable {vs:List O.Val} {xs:List V}
def RVs.reverse(r:RVs K H vs xs):RVs K H vs.reverse xs.reverse:=by
 induction r using RVs.rec (motive_1:=λ_ _ _=>True)with
 |nil=>exact .nil
 |cons r t _ ih=>rw[eU,eU];exact ih.append<|.cons r .nil
 |_=>trivial
def RVs.eraseIdx:∀{vs:List O.Val}{xs:List V}(i:Nat),RVs K H vs xs->RVs K H (vs.eraseIdx i) (xs.eraseIdx i)
 |_,_,_,.nil=>.nil
 |_,_,0,.cons _ t=>t
 |_,_,i+1,.cons q t=>.cons q<|RVs.eraseIdx i t
def RVs.dropLast(r:RVs K H vs xs):RVs K H vs.dropLast xs.dropLast:=by rw[cA,cA,r.length];exact r.take _
def Zj{vs:List V}(h:H a=fb (.tup vs)\/KT K a vs):gm K H a vs:=by
 rcases h with h|h
 .exact gm.of h
 .exact .inr h
structure Inf where
 K:Frag
 cl:String->È->Prop
 ins:String->Bool
 xc:String->È->Prop
abbrev WT:O.Val->Key->Prop
 |.int i,.inl j=>i=j
 |.str s,.inr t=>t=gN s
 |_,_=>False
inductive RKs (K:Frag) (H:Hp):List (O.Val×O.Val)->List (Key×V)->Prop
 |nil:RKs K H [] []
 |cons {k v:O.Val}{c:Key}{x:V}{kvs:List (O.Val×O.Val)}{ps:List (Key×V)}:WT k c->RV K H v x->RKs K H kvs ps->RKs K H ((k,v)::kvs) ((c,x)::ps)
inductive RFs (K:Frag) (H:Hp):List (String×O.Val)->List (Str×V)->Prop
 |nil:RFs K H [] []
 |cons {f:String}{v:O.Val}{x:V}{fs:List (String×O.Val)}{ps:List (Str×V)}:RV K H v x->RFs K H fs ps->RFs K H ((f,v)::fs) ((gN f,x)::ps)
def RKs.keep(k:fH H H'):∀{kvs:List (O.Val×O.Val)}{ps:List (Key×V)},RKs K H kvs ps->RKs K H' kvs ps
 |_,_,.nil=>.nil
 |_,_,.cons a r t=>.cons a (r.keep k)<|RKs.keep k t
inductive RTs (K:Frag) (H:Hp):List (O.Val×O.Val)->List (List Key×V)->Prop
 |nil:RTs K H [] []
 |cons {i j:Int}{v:O.Val}{x:V}{kvs:List (O.Val×O.Val)}{ps:List (List Key×V)}:RV K H v x->RTs K H kvs ps->RTs K H ((.key i j,v)::kvs) (([.inl i,.inl j],x)::ps)
def RTs.keep(k:fH H H'):∀{kvs:List (O.Val×O.Val)}{ps:List (List Key×V)},RTs K H kvs ps->RTs K H' kvs ps
 |_,_,.nil=>.nil
 |_,_,.cons r t=>.cons (r.keep k)<|RTs.keep k t
def RFs.keep(k:fH H H'):∀{fs:List (String×O.Val)}{ps:List (Str×V)},RFs K H fs ps->RFs K H' fs ps
 |_,_,.nil=>.nil
 |_,_,.cons r t=>.cons (r.keep k)<|RFs.keep k t
abbrev RO(i:Inf)(H:Hp)(a:È):O.Ob->Prop
 |.lst xs=>∃vs,H a=fb (.lst vs)/\RVs i.K H xs vs
 |.dct kvs=>∃ps,H a=fb (.dK ps)/\RKs i.K H kvs ps
 |.ins C fs=>∃c dx ps,i.ins C=fe/\i.cl C c/\H a=fb (.ins c dx ps)/\RFs i.K H fs ps
 |.exc C=>∃c,i.xc C c/\H a=fb (xcO a<|.ref c)
 |.frz kvs=>∃o ps,H a=fb (.frz o<|.dK ps)/\RKs i.K H kvs ps
 |.dtp kvs=>∃ps,H a=fb (.dT ps)/\RTs i.K H kvs ps
variable {i:Inf}
def RO.there{o:O.Ob}(r:RO i H a o):∃u,H a=fb u:=by
 cases o with
 |lst xs=>let⟨_,e,_⟩:=r;exact⟨_,e⟩
 |dct kvs=>let⟨_,e,_⟩:=r;exact⟨_,e⟩
 |ins C fs=>let⟨_,_,_,_,_,e,_⟩:=r;exact⟨_,e⟩
 |exc C=>let⟨_,_,e⟩:=r;exact⟨_,e⟩
 |frz kvs=>let⟨_,_,e,_⟩:=r;exact⟨_,e⟩
 |dtp kvs=>let⟨_,e,_⟩:=r;exact⟨_,e⟩
def RO.move{o:O.Ob}(r:RO i H a o)(k:fH H H')(e:H' a=H a):RO i H' a o:=by
 cases o with
 |lst xs=>let⟨vs,q,r⟩:=r;exact⟨vs,e.trans q,r.keep k⟩
 |dct kvs=>let⟨ps,q,r⟩:=r;exact⟨ps,e.trans q,r.keep k⟩
 |ins C fs=>let⟨c,dx,ps,h0,h,q,r⟩:=r;exact⟨c,dx,ps,h0,h,e.trans q,r.keep k⟩
 |exc C=>let⟨c,h,q⟩:=r;exact⟨c,h,e.trans q⟩
 |frz kvs=>let⟨o,ps,q,r⟩:=r;exact⟨o,ps,e.trans q,r.keep k⟩
 |dtp kvs=>let⟨ps,q,r⟩:=r;exact⟨ps,e.trans q,r.keep k⟩
abbrev RH(i:Inf)(G:O.Hs)(H:Hp):Prop:=∀a o,G a=fb o->RO i H a o
variable {G:O.Hs}
def RH.free(r:RH i G H)(e:H a=fc):G a=fc:=by
 cases q:G a with
 |none=>rfl
 |some o=>let⟨u,z⟩:=(r a o q).there;rw[e]at z;cases z
def RH.put{o:O.Ob}{u:HO}(r:RH i G H)(k:fH H<|upd H a u)(n:RO i (upd H a u) a o):RH i (O.upd G a o)<|upd H a u:=λb p e=>by
 by_cases hb:b=a
 .subst hb;rw[O.fh]at e;cases e;exact n
 .rw[O.fg hb]at e;exact(r b p e).move k<|fg hb
def RH.hid(r:RH i G H)(k:fH H H')(e:∀a o,G a=fb o->H' a=H a):RH i G H':=λb p q=>(r b p q).move k (e b p q)
structure REn(K:Frag)(H:Hp)(env:O.Env)(σ:St):Prop where
 len:env.length=σ.length
 get:∀(i:Nat) (v:O.Val),env[i]?=fb (fb v)->∃x,σ[i]?=fb (fb x)/\RV K H v x
variable {σ:St}
def REn.keep{env:O.Env}(r:REn K H env σ)(k:fH H H'):REn K H' env σ:=⟨r.len,λi v e=>by
  let⟨x,h1,h2⟩:=r.get i v e
  exact⟨x,h1,h2.keep k⟩⟩
def REn.set{env:O.Env}{v:O.Val}{x:V}(r:REn K H env σ)(q:RV K H v x)(j:Nat):REn K H (env.set j<|fb v)<|σ.set j<|fb x:=⟨by simp[r.len],λi u e=>by
  by_cases hij:j=i
  . subst hij
    rw[List.getElem?_set_self']at e
    cases z:env[j]? with
    |none=>rw[z]at e;cases e
    |some w =>
      rw[z]at e
      cases e
      have hj:j<σ.length:=by rw[<-r.len];exact(Î.mp z).1
      exact⟨x,ύ hj,q⟩
  . rw[ż hij]at e
    let⟨y,h1,h2⟩:=r.get i u e
    exact⟨y,by rw[ż hij];exact h1,h2⟩⟩
def REn.start{n:Nat}(r:RVs K H vs xs):REn K H (vs.map fb++Í n fc)<|xs.map fb++Í n fc:=⟨by simp[r.length],λi v e=>by
  by_cases hi:i<vs.length
  . rw[Č ⇑hi,ß]at e
    cases z:vs[i]? with
    |none=>rw[z]at e;cases e
    |some w =>
      rw[z]at e
      cases e
      let⟨x,h1,h2⟩:=r.get z
      exact⟨x,by rw[Č (by rw[À,<-r.length];exact hi),ß,h1];rfl,h2⟩
  . rw[đ ⇑hi,Ŋ]at e
    split at e<;>cases e⟩
def RVs.ints{K:Frag}{H:Hp}:∀ns:List Int,RVs K H (ns.map O.Val.int) (ns.map V.int)
 |[]=>.nil
 |n::ns=>.cons (.int n)<|RVs.ints ns
def Yk{ns:List Int}(h:(∃o,H a=fb (.frz o<|.lst<|ns.map V.int))\/KL K a (ns.map V.int)):gk K H a<|ns.map V.int:=by
 rcases h with⟨o,h⟩|h
 .exact .inl<|.inr ⟨o,h⟩
 .exact .inr h
variable {i:Inf}{X:Cx}{Φ:O.Fs}
abbrev XK1(i:Inf)(H:Hp)(Em:O.XQ):XK:=λcls _ H'=>∃c G' ad,cls=.ref ad/\i.xc c ad/\fH H H'/\RH i G' H'/\Em c G'
abbrev XOk(X:Cx)(i:Inf)(H:Hp)(Em:O.XQ):Prop:=XW X<|XK1 i H Em
variable {H:Hp} {H1:Hp} {Em:O.XQ}
def XK1.go{H':Hp}{cls:Ä}{d:Option È}(k:fH H H1)(h:XK1 i H1 Em cls d H'):XK1 i H Em cls d H':=by let⟨c,G',ad,e,q,k',r,m⟩:=h;exact⟨c,G',ad,e,q,k.trans k',r,m⟩
def XOk.go(x:XOk X i H Em)(k:fH H H1):XOk X i H1 Em:=λÂ σ H0 s H' a cls s' I f e=>x Â σ H0 s H' a cls s' I f (e.go k)
structure Pre(X:Cx)(i:Inf)(σ:St)(H:Hp)(env:O.Env)(G:O.Hs)(Em:O.XQ):Prop where
 en:REn i.K H env σ
 hp:RH i G H
 xo:XOk X i H Em
variable {σ:St} {G:O.Hs}
def Pre.go{env:O.Env}{G1:O.Hs}(p:Pre X i σ H env G Em)(k:fH H H1)(r:RH i G1 H1):Pre X i σ H1 env G1 Em:=⟨p.en.keep k,r,p.xo.go k⟩
abbrev Cn(i:Inf)(H:Hp)(Q:VK)(Qm:O.Q1):Prop:=∀v G' H' x,fH H H'->RH i G' H'->RV i.K H' v x->Qm v G'->Q x H'
variable {Q:VK} {Qm:O.Q1}
def Cn.go(c:Cn i H Q Qm)(k:fH H H1):Cn i H1 Q Qm:=λv G' H' x k'=>c v G' H' x (k.trans k')
inductive tEx (X:Cx) (i:Inf) (Φ:O.Fs) (m:O.E) (σ:St) (H:Hp) (Q:VK):Prop
 |mk (env:O.Env) (G:O.Hs) (Qm:O.Q1) (Em:O.XQ) (p:Pre X i σ H env G Em) (w:O.wE Φ m env G Qm Em) (c:Cn i H Q Qm)
abbrev tE(X:Cx)(i:Inf)(Φ:O.Fs)(m:O.E):TE:=tEx X i Φ m
inductive tArx (X:Cx) (i:Inf) (Φ:O.Fs) (ms:O.Es) (n:Nat) (σ:St) (H:Hp) (Q:List V->Hp->Prop):Prop
 |mk (env:O.Env) (G:O.Hs) (Qm:List O.Val->O.Hs->Prop) (Em:O.XQ) (p:Pre X i σ H env G Em) (w:O.wA Φ ms env G Qm Em) (c:∀vs G' H' xs,fH H H'->RH i G' H'->RVs i.K H' vs xs->xs.length=n->Qm vs G'->Q xs H')
abbrev tAr(X:Cx)(i:Inf)(Φ:O.Fs)(ms:O.Es)(n:Nat):TA:=tArx X i Φ ms n
inductive tTtx (X:Cx) (i:Inf) (Φ:O.Fs) (m:O.Tt) (σ:St) (H:Hp) (Q:Bool->Hp->Prop):Prop
 |mk (env:O.Env) (G:O.Hs) (Qm:Bool->O.Hs->Prop) (Em:O.XQ) (p:Pre X i σ H env G Em) (w:O.wT Φ m env G Qm Em) (c:∀b G' H',fH H H'->RH i G' H'->Qm b G'->Q b H')
abbrev tTt(X:Cx)(i:Inf)(Φ:O.Fs)(m:O.Tt):TT:=tTtx X i Φ m
variable {e:Expr}
def _root_.L2.PE.imp{t t':TE}(h:PE X e t)(f:∀σ H Q,t' σ H Q->t σ H Q):PE X e t':=λÂ s σ H Q I q=>h Â s σ H Q I (f σ H Q q)
variable {t':TT}
def _root_.L2.PT.imp{t:TT}(h:PT X e t)(f:∀σ H Q,t' σ H Q->t σ H Q):PT X e t':=λÂ s σ H Q I q=>h Â s σ H Q I (f σ H Q q)
def _root_.L2.PW.imp{t:TT}(h:PW X e t)(f:∀σ H Q,t' σ H Q->t σ H Q):PW X e t':=λwh Â s σ H Q I q=>h wh Â s σ H Q I (f σ H Q q)
variable {es:List Expr}
def _root_.L2.PA.imp{t t':TA}(h:PA X es t)(f:∀σ H Q,t' σ H Q->t σ H Q):PA X es t':=λì Â s σ H Q I q=>h ì Â s σ H Q I (f σ H Q q)
variable {j:Nat}
def Rf{env:O.Env}{h:O.Hs}{Q:O.Q1}{E:O.XQ}:(O.wE Φ (.var j) env h Q E)=(O.go (O.getV env j) λv=>Q v h):=rfl
def fj{α:Type}{o:Option α}{k:α->Prop}(h:O.go o k):∃a,o=fb a/\k a:=by
 cases o with
 |none=>simp at h
 |some a=>exact⟨a,rfl,⇑h⟩
def AT{env:O.Env}{v:O.Val}(h:O.getV env j=fb v):env[j]?=fb (fb v):=by
 unfold O.getV at h;split at h
 .rename_i u e;cases h;exact e
 .cases h
variable {ì:Pos}
def Rn{x:Str}(hN:X.N[j]?=fb x)(hv:Vis X.env.scope x)(hd:(x==("__debug__" : Str))=ff)(bj:(x==("__classdict__" : Str))=ff):PE X (.Name x ì) (tE X i Φ<|.var j) :=
 (LC hN hv hd bj).imp λσ H Q ⟨env,G,Qm,Em,p,w,c⟩=>by rw[Rf]at w;let⟨v,e,q⟩:=fj w;let⟨y,h1,h2⟩:=p.en.get j v<|AT e;exact⟨y,h1,c v G H y (fH.refl H) p.hp h2 q⟩
variable {x:V}
def W9{v:O.Val}(h:PE X e<|tC x)(r:∀H,RV i.K H v x):PE X e (tE X i Φ<|.cst v) :=
 h.imp λσ H Q ⟨env,G,Qm,Em,p,w,c⟩=>by exact c v G H x (fH.refl H) p.hp (r H) w
def L4{y:String}{v:O.Val}(h:PE X e<|tC x)(r:∀H,RV i.K H v x):PE X e (tE X i Φ<|.glob y v) :=
 h.imp λσ H Q ⟨env,G,Qm,Em,p,w,c⟩=>by exact c v G H x (fH.refl H) p.hp (r H) w
variable {a:O.E}
def two{b:O.E}{env:O.Env}{F:O.Val->O.Val->O.Hs->Prop}{R:V->V->Hp->Prop}(p:Pre X i σ H env G Em)
  (w:O.wE Φ a env G (λv G1=>O.wE Φ b env G1 (λu G2=>F v u G2) Em) Em)
  (h:∀v u G2 H2 x y,fH H H2->Pre X i σ H2 env G2 Em->RV i.K H2 v x->RV i.K H2 u y->F v u G2->R x y H2):tE X i Φ a σ H λx H1=>tE X i Φ b σ H1 λy H2=>R x y H2 :=
 ⟨env,G,_,Em,p,w,λv G1 H1 x k1 g1 r1 w1=>⟨env,G1,_,Em,p.go k1 g1,w1,λu G2 H2 y k2 g2 r2 w2=>h v u G2 H2 x y (k1.trans k2) ((p.go k1 g1).go k2 g2) (r1.keep k2) r2 w2⟩⟩
def one{env:O.Env}{F:O.Val->O.Hs->Prop}{R:V->Hp->Prop}(p:Pre X i σ H env G Em)
  (w:O.wE Φ a env G (λv G1=>F v G1) Em) (h:∀v G1 H1 x,fH H H1->Pre X i σ H1 env G1 Em->RV i.K H1 v x->F v G1->R x H1):tE X i Φ a σ H λx H1=>R x H1 :=
 ⟨env,G,_,Em,p,w,λv G1 H1 x k1 g1 r1 w1=>h v G1 H1 x k1 (p.go k1 g1) r1 w1⟩
abbrev Kf(i:Inf)(op:O.Bop)(r:R2):Prop:=∀(v u:O.Val) (G:O.Hs) (H:Hp) (x y:V) (Q:VK) (Qm:O.Q1),RH i G H->RV i.K H v x->RV i.K H u y->(O.binV G op v u).wp G Qm->Cn i H Q Qm->r x y H Q
variable {b:Expr} {ma:O.E} {mb:O.E} {r:R2}
def KC{a:Expr}{op:ϗ}{bop:O.Bop}(ho:OpR X (ņ op) r)(hr:Kf i bop r)(ha:PE X a<|tE X i Φ ma)(hb:PE X b<|tE X i Φ mb):PE X (.BinOp a op b ì) (tE X i Φ<|.bin bop ma mb) :=
 (Rl ho ha hb).imp λσ H Q ⟨env,G,Qm,Em,p,w,c⟩=>by exact two p w λv u G2 H2 x y k2 p2 rx ry q=>hr v u G2 H2 x y Q Qm p2.hp rx ry q<|c.go k2
abbrev Z5(i:Inf)(op:O.Cop)(r:R2):Prop:=∀(v u:O.Val) (G:O.Hs) (H:Hp) (x y:V) (c:Bool) (Q:VK),RH i G H->RV i.K H v x->RV i.K H u y->O.fB G op v u=fb c->Q (.bl c) H->r x y H Q
variable {op:cg} {cop:O.Cop}
def Qr{a:Expr}(ho:OpR X (ð op) r)(hr:Z5 i cop r)(ha:PE X a<|tE X i Φ ma)(hb:PE X b<|tE X i Φ mb)(hm:Ļ op b=ff):PE X (.Compare a [op] [b] ì) (tE X i Φ<|.cmp cop ma mb) :=
 (UM ho ha hb hm).imp λσ H Q ⟨env,G,Qm,Em,p,w,c⟩=>by
  exact two p w λv u G2 H2 x y k2 p2 rx ry q=>by let⟨d,e,q⟩:=fj q;exact hr v u G2 H2 x y d Q p2.hp rx ry e<|c (.bl d) G2 H2 (.bl d) k2 p2.hp (.bl d) q
def Lo{a:Expr}(ho:OpR X (ð op) r)(hr:Z5 i cop r)(ha:PE X a<|tE X i Φ ma)(hb:PE X b<|tE X i Φ mb)(hm:Ļ op b=ff):PT X (.Compare a [op] [b] ì) (tTt X i Φ<|.val<|.cmp cop ma mb) :=
 (Ah ho ha hb hm).imp λσ H Q ⟨env,G,Qm,Em,p,w,c⟩=>by
  exact two p w λv u G2 H2 x y k2 p2 rx ry q=>by let⟨d,e,q⟩:=fj q;let⟨d',e',q⟩:=fj q;cases e';exact hr v u G2 H2 x y d _ p2.hp rx ry e ⟨d,rfl,c d G2 H2 k2 p2.hp q⟩
def WD{v:O.Val}{b:Bool}(h:O.gA v=fb b):v=.bl b:=by cases v<;>simp_all [O.gA]
def ZC{v:O.Val}{b:Int}(h:O.gy v=fb b):v=.int b:=by cases v<;>simp_all [O.gy]
def XR{v:O.Val}{b:O.Ad}(h:O.fQ v=fb b):v=.ref b:=by cases v<;>simp_all [O.fQ]
def RV.bl_inv{K:Frag}{b:Bool}(r:RV K H (.bl b) x):x=.bl b:=by cases r;rfl
def RV.int_inv{K:Frag}{b:Int}(r:RV K H (.int b) x):x=.int b:=by cases r;rfl
def RV.ref_inv{K:Frag}{b:È}(r:RV K H (.ref b) x):x=.ref b:=by cases r;rfl
def RV.str_inv{K:Frag}{b:String}(r:RV K H (.str b) x):x=.str (gN b):=by cases r;rfl
def RV.non_inv{K:Frag}(r:RV K H .non x):x=.non:=by cases r;rfl
def Q7{a:Expr}(ha:PE X a<|tE X i Φ ma):PE X (.UnaryOp .Not a ì) (tE X i Φ<|.not ma) :=
 (Pc ha).imp λσ H Q ⟨env,G,Qm,Em,p,w,c⟩=>by
  exact one p w λv G1 H1 x k1 p1 r q=>by let⟨b,e,q2⟩:=fj q;clear q;cases WD e;exact⟨b,r.bl_inv,c _ G1 H1 _ k1 p1.hp (.bl _) q2⟩
def QP{a:Expr}(ha:PE X a<|tE X i Φ ma):PE X (.UnaryOp .USub a ì) (tE X i Φ<|.neg ma) :=
 (Rx Id ha).imp λσ H Q ⟨env,G,Qm,Em,p,w,c⟩=>by
  exact one p w λv G1 H1 x k1 p1 r q=>by let⟨b,e,q2⟩:=fj q;clear q;cases ZC e;exact⟨b,r.int_inv,c _ G1 H1 _ k1 p1.hp (.int _) q2⟩
def Rh{a:Expr}{rest:List Expr}(ha:PE X a<|tE X i Φ ma)(hb:PE X (.BoolOp .And (b::rest) ì)<|tE X i Φ mb):PE X (.BoolOp .And (a::b::rest) ì) (tE X i Φ<|.and ma mb) :=
 (Ib ha hb).imp λσ H Q ⟨env,G,Qm,Em,p,w,c⟩=>by
  exact one p w λv G1 H1 x k1 p1 r q=>by
   let⟨d,e,q2⟩:=fj q;clear q;cases WD e;refine⟨d,r.bl_inv,?_⟩;cases d with
   |true=>exact⟨env,G1,Qm,Em,p1,⇑q2,c.go k1⟩
   |false=>simp at q2 ⊢;exact c _ G1 H1 _ k1 p1.hp (.bl _) q2
def Sd{a:Expr}{rest:List Expr}(ha:PE X a<|tE X i Φ ma)(hb:PE X (.BoolOp .Or (b::rest) ì)<|tE X i Φ mb):PE X (.BoolOp .Or (a::b::rest) ì) (tE X i Φ<|.or ma mb) :=
 (QY ha hb).imp λσ H Q ⟨env,G,Qm,Em,p,w,c⟩=>by
  exact one p w λv G1 H1 x k1 p1 r q=>by
   let⟨d,e,q2⟩:=fj q;clear q;cases WD e;refine⟨d,r.bl_inv,?_⟩;cases d with
   |false=>exact⟨env,G1,Qm,Em,p1,⇑q2,c.go k1⟩
   |true=>simp at q2 ⊢;exact c _ G1 H1 _ k1 p1.hp (.bl _) q2
def IF{a:Expr}{ma:O.Tt}(ha:PT X a<|tTt X i Φ ma):PT X (.UnaryOp .Not a ì) (tTt X i Φ<|.not ma) :=
 (HN ha).imp λσ H Q ⟨env,G,Qm,Em,p,w,c⟩=>by exact⟨env,G,_,Em,p,w,λb G1 H1 k1 g1 q=>c (!b) G1 H1 k1 g1 q⟩
def Ik{a:Expr}{rest:List Expr}{ma mb:O.Tt}(ha:PT X a<|tTt X i Φ ma)(hb:PW X (.BoolOp .And (b::rest) ì)<|tTt X i Φ mb):PW X (.BoolOp .And (a::b::rest) ì) (tTt X i Φ<|.and ma mb) :=
 (Lg ha hb).imp λσ H Q ⟨env,G,Qm,Em,p,w,c⟩=>by
  refine⟨env,G,_,Em,p,w,λd G1 H1 k1 g1 q=>?_⟩;cases d with
  |true=>exact⟨env,G1,Qm,Em,p.go k1 g1,⇑q,λb G2 H2 k2=>c b G2 H2<|k1.trans k2⟩
  |false=>simp at q ⊢;exact c ff G1 H1 k1 g1 q
def Rb{a:Expr}{rest:List Expr}{ma mb:O.Tt}(ha:PT X a<|tTt X i Φ ma)(hb:PW X (.BoolOp .Or (b::rest) ì)<|tTt X i Φ mb):PW X (.BoolOp .Or (a::b::rest) ì) (tTt X i Φ<|.or ma mb) :=
 (Qe ha hb).imp λσ H Q ⟨env,G,Qm,Em,p,w,c⟩=>by
  refine⟨env,G,_,Em,p,w,λd G1 H1 k1 g1 q=>?_⟩;cases d with
  |false=>exact⟨env,G1,Qm,Em,p.go k1 g1,⇑q,λb G2 H2 k2=>c b G2 H2<|k1.trans k2⟩
  |true=>simp at q ⊢;exact c fe G1 H1 k1 g1 q
def FE{a:Expr}{ma:O.Tt}(ha:PT X a<|tTt X i Φ ma):PW X (.BoolOp .And [a] ì)<|tTt X i Φ ma:=GS ha
def Py{a:Expr}{ma:O.Tt}(ha:PT X a<|tTt X i Φ ma):PW X (.BoolOp .Or [a] ì)<|tTt X i Φ ma:=IW ha
def Q3{c a:Expr}{mc:O.Tt}(hc:PT X c<|tTt X i Φ mc)(ha:PE X a<|tE X i Φ ma)(hb:PE X b<|tE X i Φ mb):PE X (.IfExp c a b ì) (tE X i Φ<|.ife mc ma mb) :=
 (EA hc ha hb).imp λσ H Q ⟨env,G,Qm,Em,p,w,c⟩=>by
  refine⟨env,G,_,Em,p,w,λd G1 H1 k1 g1 q=>?_⟩;cases d with
  |true=>exact⟨env,G1,Qm,Em,p.go k1 g1,⇑q,c.go k1⟩
  |false=>exact⟨env,G1,Qm,Em,p.go k1 g1,⇑q,c.go k1⟩
def PK:PA X []<|tAr X i Φ .nil 0:=gh.imp λσ H Q ⟨env,G,Qm,Em,p,w,c⟩=>by exact c [] G H [] (fH.refl H) p.hp .nil rfl w
def E2{m:O.E}{ms:O.Es}{n:Nat}(he:PE X e<|tE X i Φ m)(hes:PA X es<|tAr X i Φ ms n)(hs:Ú (e::es) X.env=(ff,eval e X.env)::Ú es X.env):PA X (e::es) (tAr X i Φ (.cons m ms)<|n+1) :=
 (ZJ he hes hs).imp λσ H Q ⟨env,G,Qm,Em,p,w,c⟩=>by exact⟨env,G,_,Em,p,w,λv G1 H1 x k1 g1 r1 w1=>⟨env,G1,_,Em,p.go k1 g1,w1,λvs G2 H2 xs k2 g2 r2 hn w2=>c (v::vs) G2 H2 (x::xs) (k1.trans k2) g2 (.cons (r1.keep k2) r2) (by rw[Ð,hn]) w2⟩⟩
def ZP:O.lim<=Ü:=by decide
def ZU{o:O.Ob}{u:HO}(g:RH i G H)(w:O.new G o Qm)(c:Cn i H Q Qm)(r:∀p,H p=fc->RO i (upd H p u) p o):∀p,H p=fc->Q (.ref p) (upd H p u):=λp hp=>by unfold O.new at w;exact c (.ref p) _ _ (.ref p) (fH.new hp) (g.put (fH.new hp)<|r p hp) (.ref p) (w p<|g.free hp)
end Snd
namespace HT2
open PySem PySem.Spec PyProof.Rows L2
abbrev Yj:List Int->List Int->Bool
 |[],[]=>ff
 |[],_::_=>ff
 |_::_,[]=>fe
 |x::xs,y::ys=>if x=y then Yj xs ys else gM (x > y)
def B7(A:č)(s:Æ)(a:Int)(t:Tok)(c:Int)(u:Tok)(prog:è)(w:ā)(E:Ä->Æ->Prop)(Q:Ä->Æ->Prop)(h:Q (.bool<|gM (a > c)) s) :
  wpAny (à prog w) A (richCompare .Gt (.int a t)<|.int c u) Q E s :=
 (PyProof.Rows.gt_int h:wpAny (à prog w) A (ð .Gt (.int a t)<|.int c u) Q E s)
section
open PySem.SeqAt
open PySem.AutoSeq1 (wpAny_loadPart')
open PySem.MeetsSeq PySem.MeetsSeq2 PySem.MeetsSeq3
def Kw(l b:È)(items ł:Array Ä)(n n2:Nat)(dd cY:Option È)(sl d8:Array<|Option Ä)(ns ms:List Int)(hi:Ġ items.toList ns)(hj:Ġ ł.toList ms) :
  Meets (Builtin.«tuple.__gt__» ⟨[.ref l,.ref b],[]⟩)
   (λ_ R s=>s.heap.get? l=fb { cls:=.type "tuple",dict:=dd,data:=.seq items n,slots:=sl }/\s.heap.get? b=fb { cls:=.type "tuple",dict:=cY,data:=.seq ł n2,slots:=d8 }/\
     R (.ok<|.ret<|.bool<|Yj ns ms) s) :=
 .of_wp λprog w A R s h=>by
  let⟨hp,g,d,tk,os⟩:=s;let⟨hl,hb,h⟩:=h;have f2:=AutoSeq1.sub_tuple_tuple;have z1:items.size=ns.length:=by rw[<-hi.length];simp
  have z2:ł.size=ms.length:=by rw[<-hj.length];simp
  wp_walk using ø hl,ø hb,wpAny_forIn_list _ (λrest b s'=>b.1=fc/\s'=⟨hp,g,d,tk,os⟩/\∃(vs ws:List Ä) (cJ dG:List Int),rest=vs.zip ws/\
    Ġ vs cJ/\Ġ ws dG/\cJ.length+ł.size=dG.length+items.size/\R (.ok<|.ret<|.bool<|Yj cJ dG) ⟨hp,g,d,tk,os⟩) _
  case turn =>
   rintro⟨y,x⟩ rest b s' ⟨bo,rfl,vs,ws,cJ,dG,hz,hvi,hwi,hlen,hR⟩;cases hvi with
   |nil=>rw[Δ]at hz;cases hz
   |cons a t hvi' =>
    cases hwi with
    |nil=>rw[ς]at hz;cases hz
    |cons c u hwi' =>
     rw[Ķ]at hz;injection hz with hyx hrest;injection hyx with hy hx;subst hy hx;rw[Yj]at hR;simp![Ð]at hlen;let⟨e,he,hiff⟩:=HT.eqAt_int A.in1 ⟨hp,g,d,tk,os⟩ a t c u;refine Á<|he prog w _ _ ?_;cases e with
     |true =>
      rw[gF<|hiff.mp rfl]at hR
      wp_walk
      exact⟨rfl,rfl,_,_,_,_,hrest,hvi',hwi',by lia,hR⟩
     |false =>
      rw[gG λq=>gL (hiff.mpr q) ý]at hR;have hri:=B7 A.in1 ⟨hp,g,d,tk,os⟩ a t c u prog w
      wp_walk using hri
      exact⟨_,rfl,⇑hR⟩
  case fin =>
   rintro⟨b1,b2⟩ s' ⟨bo,rfl,vs,ws,cJ,dG,hz,hvi,hwi,hlen,hR⟩;simp only at bo;subst bo;have hv:Yj cJ dG=gM (items.size > ł.size):=by
    cases hvi with
    |nil =>
     cases hwi with
     |nil =>simp![Ĉ]at hlen;rw[Yj];exact(gH<|by lia).symm
     |cons c u hw =>simp![Ĉ,Ð]at hlen;rw[Yj];exact(gH<|by lia).symm
    |cons a t hv =>
     cases hwi with
     |nil =>simp![Ĉ,Ð]at hlen;rw[Yj];exact(gJ<|by lia).symm
     |cons c u hw =>rw[Ķ]at hz;cases hz
   rw[hv]at hR
   wp_walk
   exact⟨_,rfl,by simpa[Builtin.Tuple.tupleCompareSizes]using hR⟩
  case h =>exact⟨rfl,rfl,items.toList,ł.toList,ns,ms,rfl,hi,hj,by lia,h⟩
end
def Uo{prog:è}{w:ā}{A:č}{E:Ä->Æ->Prop}{s:Æ}{l b:È}{items ł:Array Ä}{ns ms:List Int}{Q:Ä->Æ->Prop}(hl:ϳ s.heap l items)(hb:ϳ s.heap b ł)(hi:Ġ items.toList ns)(hj:Ġ ł.toList ms)
  (hu:A.units<Ħ) (h:Q (.bool<|Yj ns ms) s):wpAny (à prog w) A (ð .Gt (.ref l)<|.ref b) Q E s:=by
 let⟨⟨cls,dd,data,sl⟩,ho,hc,n,hd⟩:=id hl;let⟨⟨cls2,cY,data2,d8⟩,ho2,hc2,n2,bN⟩:=id hb;simp only at hc hd hc2 bN;subst hc hd hc2 bN;exact eK (op:=.Gt) ⟨_,ho,rfl⟩ ⟨_,ho2,rfl⟩ PySem.F.slot_tuple_gt PySem.F.entry_tuple_gt (PySem.F.args_tuple_gt_2 _ _) (Kw l b items ł n n2 dd cY sl d8 ns ms hi hj)
  ⟨ho,ho2,show Value.bool (Yj ns ms)≠ck/\Q (.bool<|Yj ns ms) s from ⟨(λx=>nomatch x),h⟩⟩ hu
abbrev rGtT(K:Frag):R2:=λx y H Q=>∃a b ns ms,x=.ref a/\y=.ref b/\gm K H a (ns.map V.int)/\gm K H b (ms.map V.int)/\Q (.bl<|Yj ns ms) H
def op_gtT{X:Cx}(hu:X.A.units<Ħ):OpR X (ð .Gt)<|rGtT X.K:=by k_sub;let⟨a,b,ns,ms,rfl,rfl,ha,hb,q⟩:=h;cases rx;cases ry;let⟨ó,r1,p1,_⟩:=I.tuple ha;let⟨Ż,r2,p2,_⟩:=I.tuple hb;have i1:Ġ ó.toArray.toList ns:=ZY r1;have i2:Ġ Ż.toArray.toList ms:=ZY r2;exact Uo p1 p2 i1 i2 hu ⟨.bl<|Yj ns ms,H,I,rfl,q⟩
def lexGt_lt:∀(ns ms:List Int),Yj ns ms=HT.lexLt ms ns
 |[],[]=>rfl
 |[],_::_=>rfl
 |_::_,[]=>rfl
 |x::xs,y::ys=>by
  rw[Yj,HT.lexLt_cons,lexGt_lt xs ys];by_cases e:x=y
  .rw[gF e,gF e.symm]
  .rw[gG e,gG λz=>e z.symm]
end HT2
namespace Snd
open PySem L2
mutual
noncomputable def toD:O.D->ϵ
 |.non=>.none
 |.bl b=>.bool b
 |.int i=>.int i
 |.str s=>.str<|gN s
 |.tup ds=>.tuple<|toDs ds
 |.lst ds=>.list<|toDs ds
noncomputable def toDs:List O.D->List ϵ
 |[]=>[]
 |d::ds=>toD d::toDs ds
end
def ofS_inj{s t:String}:gN s=gN t↔s=t:=by
 constructor
 .intro h;rw[Str.ofString_eq_toList,Str.ofString_eq_toList]at h;injection h with h;have h2:s.toList.map ŗ=t.toList.map ŗ:=by simpa using congrArg bP h
  have inj:∀{a b:Char},a.toNat=b.toNat->a=b:=λ{a b} e=>Char.ext<|bJ e;have:s.toList=t.toList:=by
   revert h2;generalize s.toList=a;generalize t.toList=b;intro h2;induction a generalizing b with
   |nil=>cases b with
    |nil=>rfl
    |cons _ _=>cases h2
   |cons x xs ih=>cases b with
    |nil=>cases h2
    |cons y ys =>simp![Ó,List.cons.injEq]at h2;rw[inj h2.1,ih _ h2.2]
  exact String.toList_inj.mp this
 .rintro rfl;rfl
def Gb(s t:String):(gN s==gN t)=(s==t):=by
 by_cases e:s=t
 .subst e;simp
 .have:gN s≠gN t:=λz=>e<|ofS_inj.mp z;rw[beq_eq_false_iff_ne.mpr this,beq_eq_false_iff_ne.mpr e]
def AK(s:String):PyData.strOk (gN s)=fe:=by
 rw[Str.ofString_eq_toList];unfold PyData.strOk;rw[Array.all_eq_true'];intro n hn;have:n∈s.toList.map ŗ:=⇑hn
 let⟨c,_,rfl⟩:=ç.mp this;have:=c.valid;have h2:c.toNat=c.val.toNat:=rfl;simp![UInt32.isValidChar,Nat.isValidChar]at this;simp![gK];lia
mutual
theorem MD:∀d e:O.D,ĥ (toD d) (toD e)=O.D.eqv d e
 |.non,e=>by cases e<;>simp[toD,ĥ,O.D.eqv]
 |.bl _,e=>by cases e<;>simp[toD,ĥ,O.D.eqv]
 |.int _,e=>by cases e<;>simp[toD,ĥ,O.D.eqv]
 |.str s,e=>by cases e<;>simp![toD,ĥ,O.D.eqv];exact Gb _ _
 |.tup ds,e=>by cases e<;>simp![toD,ĥ,O.D.eqv];exact toDs_eqv _ _
 |.lst ds,e=>by cases e<;>simp![toD,ĥ,O.D.eqv];exact toDs_eqv _ _
theorem toDs_eqv:∀ds es:List O.D,Γ (toDs ds) (toDs es)=O.D.eqvs ds es
 |[],[]=>by simp[toDs,Γ,O.D.eqvs]
 |[],_::_=>by simp[toDs,Γ,O.D.eqvs]
 |_::_,[]=>by simp[toDs,Γ,O.D.eqvs]
 |d::ds,e::es=>by simp![toDs,Γ,O.D.eqvs,MD d e,toDs_eqv ds es]
end
mutual
theorem MQ:∀d:O.D,(toD d).canLay0=fe
 |.non=>by simp[toD,ŧ]
 |.bl _=>by simp[toD,ŧ]
 |.int _=>by simp[toD,ŧ]
 |.str s=>by simp![toD,ŧ];exact AK s
 |.tup ds=>by simp![toD,ŧ];exact toDs_lay ds
 |.lst ds=>by simp![toD,ŧ];exact toDs_lay ds
theorem toDs_lay:∀ds:List O.D,ŏ (toDs ds)=fe
 |[]=>by simp[toDs,ŏ]
 |d::ds=>by simp![toDs,ŏ,MQ d,toDs_lay ds,Bool.and_self]
end
section
variable {i:Inf}{G:O.Hs}{H:Hp}
def AD{α β:Type}{f:α->Option β}:∀{xs:List α}{ys:List β},xs.mapM f=fb ys->List.length xs=ys.length/\∀(n:Nat) (x:α),xs[n]?=fb x->∃y,ys[n]?=fb y/\f x=fb y:=by
 intro xs;induction xs with
 |nil=>intro ys h;simp at h;subst h;exact⟨rfl,λn x e=>by simp at e⟩
 |cons a as ih =>
  intro ys h;rw[Ϡ]at h;cases e:f a with
  |none=>rw[e]at h;simp at h
  |some b =>
   rw[e]at h;cases e2:as.mapM f with
   |none=>rw[e2]at h;simp at h
   |some bs =>
    rw[e2]at h;simp at h;subst h;let⟨h1,h2⟩:=ih e2;refine⟨by simp[h1],λn x hn=>?_⟩;cases n with
    |zero=>simp at hn;subst hn;exact⟨b,rfl,e⟩
    |succ n=>simp at hn ⊢;exact h2 n x hn
def U4{K:Frag}{f:O.Val->Option O.D}(hf:∀v d x,f v=fb d->RV K H v x->IsD K H x (toD d)):∀{vs:List O.Val}{xs:List V}{ds:List O.D},vs.mapM f=fb ds->RVs K H vs xs->IsDs K H xs (toDs ds):=by
 intro vs;induction vs with
 |nil=>intro xs ds h r;simp at h;subst h;cases r;exact .nil
 |cons a as ih =>
  intro xs ds h r;rw[Ϡ]at h;cases e:f a with
  |none=>rw[e]at h;simp at h
  |some b =>
   rw[e]at h;cases e2:as.mapM f with
   |none=>rw[e2]at h;simp at h
   |some bs =>
    rw[e2]at h;simp at h;subst h;cases r with
    |cons r1 r2=>exact .cons (hf a b _ e r1)<|ih e2 r2
def Zm(g:RH i G H){a:È}{xs:List O.Val}(e:O.fx (G a)=fb xs):∃vs,gk i.K H a vs/\RVs i.K H xs vs:=by
 cases q:G a with
 |none=>rw[q]at e;cases e
 |some o =>
  rw[q]at e;cases o with
  |lst ys=>cases e;let⟨vs,h,r⟩:=g a _ q;exact⟨vs,gk.of h,r⟩
  |dct _=>cases e
  |ins _ _=>cases e
  |exc _=>cases e
  |frz _=>cases e
  |dtp _=>cases e
def K9:∀ns:List Int,toDs (ns.map O.D.int)=ns.map PyData.int
 |[]=>by simp[toDs]
 |n::ns=>by simp![Ó,toDs,toD,K9 ns]
def X5(g:RH i G H):∀(n:Nat) (v:O.Val) (d:O.D) (x:V),O.dat G n v=fb d->RV i.K H v x->IsD i.K H x (toD d):=by
 intro n;induction n with
 |zero =>
  intro v d x e r;cases v with
  |non=>cases r;simp[O.dat]at e;subst e;rw[toD];exact .non
  |bl b=>cases r;simp[O.dat]at e;subst e;rw[toD];exact .bl b
  |int b=>cases r;simp[O.dat]at e;subst e;rw[toD];exact .int b
  |str s=>cases r;simp[O.dat]at e;subst e;rw[toD];exact .str _
  |tup xs=>simp[O.dat]at e
  |ref a=>simp[O.dat]at e
  |scr ns=>simp[O.dat]at e
  |key _ _=>simp[O.dat]at e
 |succ n ih =>
  intro v d x e r;cases v with
  |non=>cases r;simp[O.dat]at e;subst e;rw[toD];exact .non
  |bl b=>cases r;simp[O.dat]at e;subst e;rw[toD];exact .bl b
  |int b=>cases r;simp[O.dat]at e;subst e;rw[toD];exact .int b
  |str s=>cases r;simp[O.dat]at e;subst e;rw[toD];exact .str _
  |tup xs =>
   rw[O.dat]at e;cases z:xs.mapM (O.dat G n)with
   |none=>rw[z]at e;cases e
   |some ds =>
    rw[z]at e;cases e;cases r with
    |tup hp hr=>rw[toD];exact .tup (Zj hp)<|U4 ih z hr
  |ref a =>
   rw[O.dat]at e;cases q:O.fx (G a)with
   |none=>rw[q]at e;cases e
   |some xs =>
    rw[q]at e;simp![ú]at e;cases z:xs.mapM (O.dat G n)with
    |none=>rw[z]at e;cases e
    |some ds =>rw[z]at e;cases e;cases r.ref_inv;let⟨vs,h1,h2⟩:=Zm g q;rw[toD];exact .lst h1<|U4 ih z h2
  |scr ns =>
   simp[O.dat]at e;subst e;cases r with
   |scr h =>rw[toD,K9];exact .lst (Yk h)<|IsDs.ints ns
  |key _ _=>simp[O.dat]at e
def XH{n:Nat}:∀{ds:List O.D},(∀d∈ds,(toD d).depth<=n)->ļ (toDs ds)<=n
 |[],_=>by rw[toDs];simp[ļ]
 |d::ds,h=>by rw[toDs];simp![ļ];exact Nat.max_le.mpr ⟨h d (by simp),XH λe he=>h e<|by simp[he]⟩
def Me:∀(n:Nat) (v:O.Val) (d:O.D),O.dat G n v=fb d->(toD d).depth<=n:=by
 have sc:∀(n:Nat) (v:O.Val) (d:O.D),(∀xs,v≠.tup xs)->(∀a,v≠.ref a)->(∀ns,v≠.scr ns)->O.dat G n v=fb d->(toD d).depth<=n:=by
  intro n v d h1 h2 h3 e;cases v with
  |tup xs=>exact gL rfl<|h1 xs
  |ref a=>exact gL rfl<|h2 a
  |scr ns=>exact gL rfl<|h3 ns
  |key _ _=>cases n<;>simp[O.dat]at e
  |_=>simp[O.dat]at e;subst e;simp[toD,PyData.depth]
 have ms:∀(n:Nat),(∀v d,O.dat G n v=fb d->(toD d).depth<=n)->∀(xs:List O.Val) (ds:List O.D),xs.mapM (O.dat G n)=fb ds->ļ (toDs ds)<=n:=by
  intro n ih xs ds z;refine XH λd hd=>?_;let⟨k,hk⟩:=List.mem_iff_getElem?.mp hd;let⟨h1,h2⟩:=AD z;have aq:k<xs.length:=by rw[h1];exact(Î.mp hk).1
  let⟨y,hy,hf⟩:=h2 k xs[k]<|Ù aq;rw[hk]at hy;cases hy;exact ih _ _ hf
 intro n;induction n with
 |zero =>
  intro v d e;cases v with
  |tup xs=>simp[O.dat]at e
  |ref a=>simp[O.dat]at e
  |scr ns=>simp[O.dat]at e
  |_=>exact sc 0 _ d (by simp) (by simp) (by simp) e
 |succ n ih =>
  intro v d e;cases v with
  |tup xs =>
   rw[O.dat]at e;cases z:xs.mapM (O.dat G n)with
   |none=>rw[z]at e;cases e
   |some ds =>rw[z]at e;cases e;rw[toD];exact Ω<|ms n ih xs ds z
  |ref a =>
   rw[O.dat]at e;cases q:O.fx (G a)with
   |none=>rw[q]at e;cases e
   |some xs =>
    rw[q]at e;simp![ú]at e;cases z:xs.mapM (O.dat G n)with
    |none=>rw[z]at e;cases e
    |some ds =>rw[z]at e;cases e;rw[toD];exact Ω<|ms n ih xs ds z
  |scr ns =>simp[O.dat]at e;subst e;rw[toD];refine Ω<|Þ ?_<|ī n;refine XH λd hd=>?_;let⟨m,_,rfl⟩:=ç.mp hd;simp[toD,PyData.depth]
  |_=>exact sc (n+1) _ d (by simp) (by simp) (by simp) e
def JO{v:O.Val}{d:O.D}(e:O.dat G O.deep v=fb d):SeqAt.shaped (toD d)=fe:=by show((toD d).canLay0&&gM ((toD d).depth<=64))=fe;rw[MQ,gJ<|Þ (Me _ _ _ e)<|by decide];rfl
def Af(g:RH i G H){v u:O.Val}{x y:V}{c:Bool}(rx:RV i.K H v x)(ry:RV i.K H u y)(e:O.eqV G v u=fb c):∃d d',IsD i.K H x d/\IsD i.K H y d'/\SeqAt.shaped d=fe/\SeqAt.shaped d'=fe/\ĥ d d'=c:=by
 unfold O.eqV at e;cases z:O.dat G O.deep v with
 |none=>rw[z]at e;cases e
 |some d =>
  cases z2:O.dat G O.deep u with
  |none=>rw[z,z2]at e;cases e
  |some d' =>rw[z,z2]at e;cases e;exact⟨_,_,X5 g _ _ _ _ z rx,X5 g _ _ _ _ z2 ry,JO z,JO z2,MD d d'⟩
def Sa:Z5 i .eq<|Rc i.K:=by k_get;let⟨d,d',h1,h2,h3,h4,h5⟩:=Af g rx ry e;exact⟨d,d',h1,h2,h3,h4,by rw[h5];exact q⟩
def Sq:Z5 i .ne<|QQ i.K:=by
 k_get;have e:(O.eqV G v u).map (!·)=fb c:=e;cases z:O.eqV G v u with
 |none=>rw[z]at e;cases e
 |some b =>rw[z]at e;cases e;let⟨d,d',h1,h2,h3,h4,h5⟩:=Af g rx ry z;exact⟨d,d',h1,h2,h3,h4,by rw[h5];exact q⟩
end
variable {i:Inf}{X:Cx}{Φ:O.Fs}
def Zx(s:String):(gN s).length=s.length:=by rw[Str.ofString_eq_toList];show(List.map ŗ s.toList).toArray.size=_;rw[É,À];first|rfl|exact b6
def MU(s t:String):gN (s++t)=gN s++gN t:=by rw[Str.ofString_eq_toList,Str.ofString_eq_toList,Str.ofString_eq_toList];show _=Str.append _ _;unfold Str.append;simp
variable {xs:List O.Val}
def K1{o:Option O.Ob}(h:O.fx o=fb xs):o=fb (.lst xs):=by
 cases o with
 |none=>cases h
 |some o=>cases o with
  |lst ys=>cases h;rfl
  |_=>cases h
variable {p:Prop}
def Zp{α:Type}[Decidable p]{o:Option α}{a:α}(e:(if p then o else fc)=fb a):p/\o=fb a:=by
 by_cases q:p
 .rw[gF q]at e;exact⟨q,e⟩
 .rw[gG q]at e;cases e
variable {h:O.Hs} {Q:O.Q1}
def Zk(w:O.Rs.no.wp h Q):False:=by rw[O.Rs.wp_no]at w;exact w
def Zq{v:O.Val}(w:(O.Rs.val v).wp h Q):Q v h:=by rw[O.Rs.wp_val]at w;exact w
def XF{o:O.Ob}(w:(O.Rs.new o).wp h Q):O.new h o Q:=by rw[O.Rs.wp_new]at w;exact w
def XX[Decidable p]{r:O.Rs}(w:(if p then r else .no).wp h Q):p/\r.wp h Q:=by
 by_cases e:p
 .rw[gF e]at w;exact⟨e,w⟩
 .rw[gG e]at w;exact(Zk w).elim
variable {u:O.Val}
def Xr{f:Int->Int->O.Rs}{v:O.Val}(w:(O.intV f v u).wp h Q):∃i j,v=.int i/\u=.int j/\(f i j).wp h Q:=by
 cases v with
 |int i=>cases u with
  |int j=>exact⟨i,j,rfl,rfl,w⟩
  |_=>exact(Zk w).elim
 |_=>exact(Zk w).elim
abbrev HH(K:Frag):R2:=λx y H Q=>(rI0 λi j=>.int<|i+j) x y H Q\/(((Hl K x y H Q\/Hf K x y H Q)\/Qp x y H Q)\/∃i j,x=.str i/\y=.str j/\i.length+j.length<=Ü/\Q (.str<|i++j) H)
def Q4:OpR X (ņ .Add)<|HH X.K:=op_add.or (((op_cat0.or GL).or Iw).or O9)
def b_add:Kf i .add<|HH i.K:=by
 intro v u G H x y Q Qm g rx ry w c;cases v<;>cases u<;>first|exact(Zk w).elim|skip
 case int.int a b =>
  replace w:=Zq w
  exact .inl ⟨a,b,rx.int_inv,ry.int_inv,c _ G H _ (fH.refl H) g (.int _) w⟩
 case str.str a b =>
  let⟨h,w⟩:=XX w
  replace w:=Zq w
  refine .inr<|.inr ⟨_,_,rx.str_inv,ry.str_inv,?_,?_⟩
  .rw[Zx,Zx];exact Þ h ZP
  .rw[<-MU];exact c _ G H _ (fH.refl H) g (.str _) w
 case tup.tup xs ys =>
  let⟨h,w⟩:=XX w
  replace w:=Zq w
  .skip
   cases rx with
   |@tup _ p vs hp hr =>
   cases ry with
   |@tup _ q us hq hs =>
   by_cases h0:vs=[]
   .subst h0;have:xs=[]:=ž hr.length;subst this;exact .inr<|.inl<|.inl<|.inl ⟨p,q,us,rfl,rfl,Zj hp,Zj hq,c _ G H _ (fH.refl H) g (.tup hq hs) w⟩
   refine .inr<|.inl<|.inl<|.inr ⟨p,q,vs,us,rfl,rfl,Zj hp,Zj hq,h0,?_,λz=>?_,λz a ha=>?_⟩
   .rw[<-hr.length,<-hs.length];exact Þ h ZP
   .have:ys=[]:=ž (by rw[hs.length,z];rfl);subst this;rw[í]at w;exact c _ G H _ (fH.refl H) g (.tup hp hr) w
   .have k:=fH.new (o:=.tup<|vs++us) ha;refine c _ G _ _ k (g.hid k λb o e=>fg ?_) (.tup (.inl fh)<|(hr.keep k).append<|hs.keep k) w;rintro rfl;rw[g.free ha]at e;cases e
 case ref.ref a b =>
  dsimp only[O.binV,O.addV]at w;split at w
  .rename_i xs ys e1 e2;unfold O.Rs.lst at w;split at w
   .rename_i hl;rw[O.Rs.wp_new]at w;cases rx.ref_inv;cases ry.ref_inv;let⟨vs,h1,r1⟩:=g a _ e1;let⟨us,h2,r2⟩:=g b _ e2;refine .inr (.inl<|.inr ⟨a,b,vs,us,rfl,rfl,h1,h2,?_,ZU g w c λp hp=>?_⟩)
    .rw[<-r1.length,<-r2.length,<-Å];exact Þ hl ZP
    .have k:=fH.new (o:=.lst<|vs++us) hp;exact⟨_,fh,(r1.keep k).append<|r2.keep k⟩
   .exact(Zk w).elim
  .exact(Zk w).elim
def b_sub:Kf i .sub<|rI0 λi j=>.int<|i - j:=by intro v u G H x y Q Qm g rx ry w c;let⟨a,b,rfl,rfl,w⟩:=Xr w;exact⟨a,b,rx.int_inv,ry.int_inv,c _ G H _ (fH.refl H) g (.int _)<|Zq w⟩
def RVs.rep{K:Frag}{H:Hp}{vs:List O.Val}{xs:List V}(r:RVs K H vs xs):∀n,RVs K H (Í n vs).flatten (Í n xs).flatten
 |0=>.nil
 |n+1=>by rw[ï,ï,Ċ,Ċ];exact r.append<|RVs.rep r n
set_option exponentiation.threshold 2000 in
def I0{i j:Int}(h:O.mulOk i j):IntMulOk i j:=by
 rcases h with(h|h)|⟨h1,h2⟩
 .exact .of_left (intBits_le_64 (by lia)<|by lia)
 .exact .of_right (intBits_le_64 (by lia)<|by lia)
 .have e:(10:Nat) ^ 200<2 ^ 1000:=by decide
  exact .of_bits (Þ (PyProof.Rows.intBits_le<|Ë h1 e)<|by decide) (Þ (PyProof.Rows.intBits_le<|Ë h2 e)<|by decide)
def F9(s:String)(n:Nat):IV (gN s) n=gN (O.repT s n):=by unfold IV O.repT;rw[Str.ofString_eq_toList,Str.ofString_eq_toList,b7];congr 1;apply eV.mp;rw[KH];simp[List.map_flatten,dY]
abbrev HJ:R2:=λx y H Q=>rI O.mulOk (λi j=>.int<|i*j) x y H Q\/(RB x y H Q\/HG x y H Q)
def Qt:OpR X (ņ .Mult) HJ:=OpR.or (opI λ_ _ _ _ _ _ _ hc q=>PyProof.Rows.mul_int q<|I0 hc) (op_rep.or GD)
def b_mul:Kf i .mul HJ:=by
 intro v u G H x y Q Qm g rx ry w c;cases v<;>cases u<;>first|exact(Zk w).elim|skip
 case int.int a b =>let⟨h,w⟩:=XX w;exact .inl ⟨a,b,rx.int_inv,ry.int_inv,h,c _ G H _ (fH.refl H) g (.int _)<|Zq w⟩
 case ref.int a k =>
  dsimp only[O.binV,O.mulV]at w;split at w
  .rename_i xs e1;split at w
   .rename_i hk;unfold O.Rs.lst at w;split at w
    .rw[O.Rs.wp_new]at w;cases rx.ref_inv;cases ry.int_inv;let⟨vs,h1,r1⟩:=g a _ e1;refine .inr (.inl ⟨a,k,vs,rfl,rfl,h1,by lia,by lia,?_,ZU g w c λp hp=>?_⟩)
     .rw[<-r1.length];exact Þ hk.2.2 ZP
     .have kk:=fH.new (o:=.lst (Í k.toNat vs).flatten) hp;exact⟨_,fh,(r1.keep kk).rep _⟩
    .exact(Zk w).elim
   .exact(Zk w).elim
  .exact(Zk w).elim
 case str.int a k =>
  let⟨hk,w⟩:=XX w
  replace w:=Zq w
  refine .inr (.inr ⟨_,k,rx.str_inv,ry.int_inv,hk.1,hk.2.1,by rw[Zx];exact hk.2.2.1,by rw[Zx];exact hk.2.2.2,?_⟩);rw[F9];exact c _ G H _ (fH.refl H) g (.str _) w
def b_fdiv:Kf i .fdiv<|rI RG λi j=>.int<|i / j:=by intro v u G H x y Q Qm g rx ry w c;let⟨a,b,rfl,rfl,w⟩:=Xr w;let⟨h,w⟩:=XX w;exact⟨a,b,rx.int_inv,ry.int_inv,h,c _ G H _ (fH.refl H) g (.int _)<|Zq w⟩
def b_mod:Kf i .mod<|rI (λ_ j=>0<j) λi j=>.int<|i % j:=by intro v u G H x y Q Qm g rx ry w c;let⟨a,b,rfl,rfl,w⟩:=Xr w;let⟨h,w⟩:=XX w;exact⟨a,b,rx.int_inv,ry.int_inv,h,c _ G H _ (fH.refl H) g (.int _)<|Zq w⟩
def b_pow:Kf i .pow<|rI P3 λi j=>.int<|i ^ j.toNat:=by intro v u G H x y Q Qm g rx ry w c;let⟨a,b,rfl,rfl,w⟩:=Xr w;let⟨h,w⟩:=XX w;exact⟨a,b,rx.int_inv,ry.int_inv,h,c _ G H _ (fH.refl H) g (.int _)<|Zq w⟩
def Yl{K:Frag}{H:Hp}:∀{xs:List O.Val}{ns:List Int}{vs:List V},O.fo xs=fb ns->RVs K H xs vs->vs=ns.map V.int
 |[],_,_,e,r=>by cases r;cases e;rfl
 |v::xs,_,_,e,r=>by
  cases r with
  |cons r t=>cases v with
   |int k =>
    have e:(O.fo xs).map (k :: ·)=fb _:=e;cases z:O.fo xs with
    |none=>rw[z]at e;cases e
    |some ns=>rw[z]at e;cases e;cases r;rw[Yl z t];rfl
   |_=>cases e
def MH:∀(ns ms:List Int),O.fS ns ms=HT.lexLt ns ms
 |[],[]=>rfl
 |[],_::_=>rfl
 |_::_,[]=>rfl
 |x::xs,y::ys=>by rw[O.fS,HT.lexLt_cons,MH xs ys]
abbrev QB(K:Frag):R2:=λx y H Q=>rI0 (λi j=>.bl<|gM (i<j)) x y H Q\/P9 K x y H Q
def Su(hu:X.A.units<Ħ):OpR X (ð .Lt)<|QB X.K:=op_lt.or (Po hu)
abbrev QZ(K:Frag):R2:=λx y H Q=>rI0 (λi j=>.bl<|gM (j<i)) x y H Q\/HT2.rGtT K x y H Q
def Se(hu:X.A.units<Ħ):OpR X (ð .Gt)<|QZ X.K:=op_gt.or (HT2.op_gtT hu)
variable {H:Hp} {x:V} {c:Bool}
def Ho{K:Frag}{ys:List O.Val}{y:V}(rx:RV K H (.tup xs) x)(ry:RV K H (.tup ys) y)(e:O.fT (.tup xs) (.tup ys)=fb c):∃a b ns ms,x=.ref a/\y=.ref b/\gm K H a (ns.map V.int)/\gm K H b (ms.map V.int)/\HT.lexLt ns ms=c:=by
 simp![O.fT]at e;cases z1:O.fo xs with
 |none=>rw[z1]at e;cases e
 |some ns =>
  cases z2:O.fo ys with
  |none=>rw[z1,z2]at e;cases e
  |some ms =>
   rw[z1,z2]at e;cases e;cases rx with
   |@tup _ p vs hp hr =>
   cases ry with
   |@tup _ q us hq hs =>
   have h1:=Yl z1 hr;have h2:=Yl z2 hs;subst h1 h2;exact⟨p,q,ns,ms,rfl,rfl,Zj hp,Zj hq,(MH _ _).symm⟩
def c_lt:Z5 i .lt<|QB i.K:=by
 k_get
 replace e:O.fT v u=fb c:=e
 cases v<;>cases u<;>first|(cases e;done)|skip
 case int.int a b=>cases e;exact .inl ⟨a,b,rx.int_inv,ry.int_inv,q⟩
 case tup.tup xs ys =>let⟨a,b,ns,ms,h1,h2,h3,h4,h5⟩:=Ho rx ry e;exact .inr ⟨a,b,ns,ms,h1,h2,h3,h4,by rw[h5];exact q⟩
def c_gt:Z5 i .gt<|QZ i.K:=by
 k_get
 replace e:O.fT u v=fb c:=e
 cases v<;>cases u<;>first|(cases e;done)|skip
 case int.int a b=>cases e;exact .inl ⟨a,b,rx.int_inv,ry.int_inv,q⟩
 case tup.tup xs ys =>let⟨a,b,ns,ms,h1,h2,h3,h4,h5⟩:=Ho ry rx e;exact .inr ⟨b,a,ms,ns,h2,h1,h4,h3,by rw[HT2.lexGt_lt,h5];exact q⟩
def He{v:O.Val}(e:O.leV v u=fb c):∃i j,v=.int i/\u=.int j/\gM (i<=j)=c:=by
 cases v with
 |int i=>cases u with
  |int j=>cases e;exact⟨i,j,rfl,rfl,rfl⟩
  |_=>cases e
 |_=>cases e
def c_le:Z5 i .le<|rI0 λi j=>.bl<|gM (i<=j):=by k_get;let⟨a,b,rfl,rfl,rfl⟩:=He e;exact⟨a,b,rx.int_inv,ry.int_inv,q⟩
def c_ge:Z5 i .ge<|rI0 λi j=>.bl<|gM (j<=i):=by k_get;let⟨a,b,rfl,rfl,rfl⟩:=He e;exact⟨b,a,rx.int_inv,ry.int_inv,q⟩
def RV.isN{K:Frag}{v:O.Val}(r:RV K H v x):gM (x=.non)=gM (v=.non):=by cases r<;>simp
variable {a:Expr} {ma:O.E} {ì:Pos} {p2:Pos} {j:Nat}
def Qu(ha:PE X a<|tE X i Φ ma):PE X (.Compare a [.Is] [.Constant .none j p2] ì) (tE X i Φ<|.cmp .is ma<|.cst .non) :=
 (D3 (D4 ha) rfl).imp λσ H Q ⟨env,G,Qm,Em,p,w,c⟩=>by refine one p w λv G1 H1 x k1 p1 r q=>?_;let⟨d,e,q2⟩:=fj q;have e:fb (gM (v=.non))=fb d:=e;cases e;rw[r.isN];exact c _ G1 H1 _ k1 p1.hp (.bl _) q2
def LW(ha:PE X a<|tE X i Φ ma):PE X (.Compare a [.IsNot] [.Constant .none j p2] ì) (tE X i Φ<|.cmp .isnot ma<|.cst .non) :=
 (D3 (Ux ha) rfl).imp λσ H Q ⟨env,G,Qm,Em,p,w,c⟩=>by refine one p w λv G1 H1 x k1 p1 r q=>?_;let⟨d,e,q2⟩:=fj q;have e:fb (!gM (v=.non))=fb d:=e;cases e;rw[r.isN];exact c _ G1 H1 _ k1 p1.hp (.bl _) q2
def Pp(ha:PE X a<|tE X i Φ ma):PT X (.Compare a [.Is] [.Constant .none j p2] ì) (tTt X i Φ<|.val<|.cmp .is ma<|.cst .non) :=
 (De (D4 ha) rfl).imp λσ H Q ⟨env,G,Qm,Em,p,w,c⟩=>by refine one p w λv G1 H1 x k1 p1 r q=>?_;let⟨d,e,q2⟩:=fj q;let⟨d',e',q3⟩:=fj q2;cases e';have e:fb (gM (v=.non))=fb d:=e;cases e;rw[r.isN];exact⟨_,rfl,c _ G1 H1 k1 p1.hp q3⟩
def GH(ha:PE X a<|tE X i Φ ma):PT X (.Compare a [.IsNot] [.Constant .none j p2] ì) (tTt X i Φ<|.val<|.cmp .isnot ma<|.cst .non) :=
 (De (Ux ha) rfl).imp λσ H Q ⟨env,G,Qm,Em,p,w,c⟩=>by refine one p w λv G1 H1 x k1 p1 r q=>?_;let⟨d,e,q2⟩:=fj q;let⟨d',e',q3⟩:=fj q2;cases e';have e:fb (!gM (v=.non))=fb d:=e;cases e;rw[r.isN];exact⟨_,rfl,c _ G1 H1 k1 p1.hp q3⟩
end Snd
namespace Snd
open PySem L2 PySem.Spec PyProof.Rows
variable {i:Inf}{X:Cx}{Φ:O.Fs}
def RKs.length{K:Frag}{H:Hp}:∀{kvs:List (O.Val×O.Val)}{ps:List (Key×V)},RKs K H kvs ps->kvs.length=ps.length
 |_,_,.nil=>rfl
 |_,_,.cons _ _ t=>by rw[Ð,Ð,RKs.length t]
def Jf{k j:O.Val}{c d:Key}(a:WT k c)(b:WT j d):(k==j)=gM (c=d):=by
 have key:k=j↔c=d:=by
  cases k<;>cases c<;>first|(cases a;done)|skip
  .cases j<;>cases d<;>first|(cases b;done)|skip
   .cases a;cases b;simp
   .cases a;cases b;simp
  .cases j<;>cases d<;>first|(cases b;done)|skip
   .cases a;cases b;simp
   .cases a;cases b;simp[ofS_inj]
 by_cases e:k=j
 .rw[gJ<|key.mp e,e];simp
 .rw[gH λz=>e<|key.mpr z];simpa using e
def fz{k:O.Val}{x:V}{K:Frag}{H:Hp}(h:O.fE k=fe)(r:RV K H k x):∃c,WT k c/\x=kV c:=by
 cases k with
 |int n=>cases r.int_inv;exact⟨.inl n,rfl,rfl⟩
 |str s=>cases r.str_inv;exact⟨.inr<|gN s,rfl,rfl⟩
 |_=>cases h
def RKs.look{K:Frag}{H:Hp}{k:O.Val}{c:Key}(a:WT k c):∀{kvs:List (O.Val×O.Val)}{ps:List (Key×V)},RKs K H kvs ps->
  (∀v,O.fI kvs k=fb v->∃x,YC ps c=fb x/\RV K H v x)/\(O.fI kvs k=fc->YC ps c=fc)
 |_,_,.nil=>⟨λv e=>(by cases e),λ_=>rfl⟩
 |_,_,.cons (k:=j) (v:=u) (c:=d) (x:=y) (kvs:=kvs) (ps:=ps) b r t=>by
  have ih:=RKs.look a t;have q:=Jf b a;by_cases e:d=c
  .rw[gJ e]at q;have e1:O.fI ((j,u)::kvs) k=fb u:=by simp[O.fI,ę,q]
   rw[e1,Y3 e];exact⟨λv z=>(by cases z;exact⟨y,rfl,r⟩),λz=>(by cases z)⟩
  .rw[gH e]at q;have e1:O.fI ((j,u)::kvs) k=O.fI kvs k:=by simp[O.fI,ę,q]
   rw[e1,Xg e];exact ih
def RKs.has{K:Frag}{H:Hp}{k:O.Val}{c:Key}(a:WT k c):∀{kvs:List (O.Val×O.Val)}{ps:List (Key×V)},RKs K H kvs ps->O.fJ kvs k=ps.any λkv=>gM (kv.1=c)
 |_,_,.nil=>rfl
 |_,_,.cons b r t=>by have ih:=RKs.has a t;unfold O.fJ at ih ⊢;rw[ı,ı,ih,Jf b a]
def RKs.app{K:Frag}{H:Hp}{k v:O.Val}{c:Key}{x:V}(a:WT k c)(q:RV K H v x):∀{kvs:List (O.Val×O.Val)}{ps:List (Key×V)},RKs K H kvs ps->RKs K H (kvs++[(k,v)]) (ps++[(c,x)])
 |_,_,.nil=>.cons a q .nil
 |_,_,.cons b r t=>.cons b r<|RKs.app a q t
def RKs.repl{K:Frag}{H:Hp}{k v:O.Val}{c:Key}{x:V}(a:WT k c)(q:RV K H v x):∀{kvs:List (O.Val×O.Val)}{ps:List (Key×V)},RKs K H kvs ps->
  RKs K H (kvs.map λp=>if p.1==k then(k,v)else p) (ps.map λkv=>if kv.1=c then(kv.1,x)else kv)
 |_,_,.nil=>.nil
 |_,_,.cons (k:=j) (v:=u) (c:=d) (x:=y) b r t=>by
  have ih:=RKs.repl a q t;have z:=Jf b a;rw[Ó,Ó];by_cases e:d=c
  .rw[gJ e]at z;rw[gF z,gF e];exact .cons (e▸a) q ih
  .rw[gH e]at z;rw[gG (by rw[z];decide),gG e];exact .cons b r ih
def RKs.put{K:Frag}{H:Hp}{k v:O.Val}{c:Key}{x:V}(a:WT k c)(q:RV K H v x){kvs:List (O.Val×O.Val)}{ps:List (Key×V)}(r:RKs K H kvs ps):RKs K H (O.fK kvs k v)<|L2.fK ps c x:=by
 unfold O.fK L2.fK;rw[r.has a];by_cases e:(ps.any λkv=>gM (kv.1=c))=fe
 .rw[gF e,gF e];exact r.repl a q
 .rw[gG e,gG e];exact r.app a q
def RKs.drop{K:Frag}{H:Hp}{k:O.Val}{c:Key}(a:WT k c):∀{kvs:List (O.Val×O.Val)}{ps:List (Key×V)},RKs K H kvs ps->RKs K H (O.fL kvs k) (L2.fL ps c)
 |_,_,.nil=>.nil
 |_,_,.cons (k:=j) (v:=u) (c:=d) (x:=y) b r t=>by
  have ih:=RKs.drop a t;have z:=Jf b a;unfold O.fL L2.fL at ih ⊢;rw[ħ,ħ];by_cases e:d=c
  .rw[gJ e]at z;rw[gG (by rw[z];decide),gG<|by simpa using e];exact ih
  .rw[gH e]at z;rw[gF (by rw[z];rfl),gF<|by simpa using e];exact .cons b r ih
variable {G:O.Hs} {H:Hp} {a:È} {kvs':List (O.Val×O.Val)}
def M3{kvs:List (O.Val×O.Val)}{ps cO:List (Key×V)}(g:RH i G H)(h:H a=fb (.dK ps))(r:RKs i.K H kvs' cO):fH H (upd H a<|.dK cO)/\RH i (O.upd G a<|.dct kvs') (upd H a<|.dK cO):=by
 have k:fH H<|upd H a<|.dK cO:=fH.put (λxs e=>by rw[h]at e;cases e) λp u e=>by rw[h]at e;cases e
 exact⟨k,g.put k ⟨cO,fh,r.keep k⟩⟩
def RTs.length{K:Frag}{H:Hp}:∀{kvs:List (O.Val×O.Val)}{ps:List (List Key×V)},RTs K H kvs ps->kvs.length=ps.length
 |_,_,.nil=>rfl
 |_,_,.cons _ t=>by rw[Ð,Ð,RTs.length t]
def M2(a b i j:Int):(O.Val.key a b == .key i j)=gM (([.inl a,.inl b]:List Key)=[.inl i,.inl j]):=by
 by_cases e:a=i/\b=j
 .obtain⟨rfl,rfl⟩:=e;rw[gJ rfl];simp
 .rw[gH λz=>e<|by simpa using z];exact beq_eq_false_iff_ne.mpr λz=>e ⇑z
def RTs.look{K:Frag}{H:Hp}{i j:Int}:∀{kvs:List (O.Val×O.Val)}{ps:List (List Key×V)},RTs K H kvs ps->
  (∀v,O.fI kvs (.key i j)=fb v->∃x,YC ps [.inl i,.inl j]=fb x/\RV K H v x)/\(O.fI kvs (.key i j)=fc->YC ps [.inl i,.inl j]=fc)
 |_,_,.nil=>⟨λv e=>(by cases e),λ_=>rfl⟩
 |_,_,.cons (i:=a) (j:=b) (v:=u) (x:=y) (kvs:=kvs) (ps:=ps) r t=>by
  have ih:=RTs.look (i:=i) (j:=j) t;have q:=M2 a b i j;by_cases e:([.inl a,.inl b]:List Key)=[.inl i,.inl j]
  .rw[gJ e]at q;have e1:O.fI ((.key a b,u)::kvs) (.key i j)=fb u:=by simp[O.fI,ę,q]
   rw[e1,Y3 e];exact⟨λv z=>(by cases z;exact⟨y,rfl,r⟩),λz=>(by cases z)⟩
  .rw[gH e]at q;have e1:O.fI ((.key a b,u)::kvs) (.key i j)=O.fI kvs (.key i j):=by simp[O.fI,ę,q]
   rw[e1,Xg e];exact ih
def RTs.has{K:Frag}{H:Hp}{i j:Int}:∀{kvs:List (O.Val×O.Val)}{ps:List (List Key×V)},RTs K H kvs ps->O.fJ kvs (.key i j)=ps.any λkv=>gM (kv.1=[.inl i,.inl j])
 |_,_,.nil=>rfl
 |_,_,.cons (i:=a) (j:=b) r t=>by have ih:=RTs.has (i:=i) (j:=j) t;unfold O.fJ at ih ⊢;rw[ı,ı,ih,M2 a b i j]
def RTs.app{K:Frag}{H:Hp}{v:O.Val}{i j:Int}{x:V}(q:RV K H v x):∀{kvs:List (O.Val×O.Val)}{ps:List (List Key×V)},RTs K H kvs ps->RTs K H (kvs++[(.key i j,v)]) (ps++[([.inl i,.inl j],x)])
 |_,_,.nil=>.cons q .nil
 |_,_,.cons r t=>.cons r<|RTs.app q t
def RTs.repl{K:Frag}{H:Hp}{v:O.Val}{i j:Int}{x:V}(q:RV K H v x):∀{kvs:List (O.Val×O.Val)}{ps:List (List Key×V)},RTs K H kvs ps->
  RTs K H (kvs.map λp=>if p.1 == .key i j then(.key i j,v)else p) (ps.map λkv=>if kv.1=[.inl i,.inl j]then(kv.1,x)else kv)
 |_,_,.nil=>.nil
 |_,_,.cons (i:=a) (j:=b) (v:=u) (x:=y) r t=>by
  have ih:=RTs.repl (i:=i) (j:=j) q t;have z:=M2 a b i j;rw[Ó,Ó];by_cases e:([.inl a,.inl b]:List Key)=[.inl i,.inl j]
  .rw[gJ e]at z;simp![z,if_true,e];exact .cons q ih
  .rw[gH e]at z;simp![z,e,if_false,ĸ];exact .cons r ih
def RTs.put{K:Frag}{H:Hp}{v:O.Val}{i j:Int}{x:V}(q:RV K H v x){kvs:List (O.Val×O.Val)}{ps:List (List Key×V)}(r:RTs K H kvs ps):RTs K H (O.fK kvs (.key i j) v)<|L2.fK ps [.inl i,.inl j] x:=by
 unfold O.fK L2.fK;rw[r.has];by_cases e:(ps.any λkv=>gM (kv.1=[.inl i,.inl j]))=fe
 .rw[gF e,gF e];exact r.repl q
 .rw[gG e,gG e];exact r.app q
def Ft{ps cO:List (List Key×V)}(g:RH i G H)(h:H a=fb (.dT ps))(r:RTs i.K H kvs' cO):fH H (upd H a<|.dT cO)/\RH i (O.upd G a<|.dtp kvs') (upd H a<|.dT cO):=by
 have k:fH H<|upd H a<|.dT cO:=fH.put (λxs e=>by rw[h]at e;cases e) λp u e=>by rw[h]at e;cases e
 exact⟨k,g.put k ⟨cO,fh,r.keep k⟩⟩
def Jc{k:O.Val}{x:V}{K:Frag}{H:Hp}(h:O.isKeyT k=fe)(r:RV K H k x):∃a b c,k=.key a b/\x=.ref c/\H c=fb (.tup<|([.inl a,.inl b]:List Key).map kV):=by
 cases k with
 |key a b=>cases r with|key e=>exact⟨a,b,_,rfl,rfl,e⟩
 |_=>cases h
abbrev DY:R2:=λx y H Q=>∃a v,x=.ref a/\DGet H a y (fb v)/\Q v H
def EM(hu:X.A.units+1<Ħ):IxR X DY:=by
 intro μ slice Â s σ H x y v u Q I rx ry h hs;let⟨a,z,rfl,g,q⟩:=h;cases rx;have hT:=N7 I g;unfold aD;refine Á ?_;rw[getitemInPython_of_ne hT.not_modules];refine Á<|bR hT PySem.F.slot_dict_getitem.lookup ?_;have fin:wpAny (à X.prog X.w) X.A (subscripted slice ff (.ref a) u) (λr aN=>wpAny (à X.prog X.w) X.A (letTemporaryGo μ (.ref a) r >>= λ_=>pure r) (EP X Â σ Q) X.xe aN) X.xe s:=by rw[hs];exact wpAny_operating<|K8 hu I g ry λw' s' I' bd=>Á<|wpAny_letTemporaryGo<|Ñ ⟨_,_,I',bd,q⟩
 first
  |exact Ñ<|Á fin
  |exact Á<|Ñ<|Á fin
  |exact Á fin
abbrev FI(b:Bool):R2:=λx y H Q=>∃a o,y=.ref a/\DGet H a x o/\Q (.bl<|b ^^ o.isSome) H
def LF(hu:X.A.units+1<Ħ):OpR X (ð .In)<|FI ff:=by k_sub;let⟨a,o,rfl,g,q⟩:=h;cases ry;rw[bf]at q;exact RN hu I g rx λs' I'=>⟨.bl o.isSome,_,I',rfl,q⟩
def IS(hu:X.A.units+1<Ħ):OpR X (ð .NotIn)<|FI fe:=by k_sub;let⟨a,o,rfl,g,q⟩:=h;cases ry;rw[bK]at q;exact GG hu I g rx λs' I'=>⟨.bl (!o.isSome),_,I',rfl,q⟩
abbrev Hh:V->V->V->Hp->(Hp->Prop)->Prop:=λo y v H Q=>∃a H',o=.ref a/\DPut H a y v H'/\Q H'
def NP(hu:X.A.units+1<Ħ):PSet X Hh:=by intro Â s σ H o y v ov iv u Q I ro ri rv h;let⟨a,H',rfl,g,q⟩:=h;cases ro;exact Ar hu I g ri rv λs' I'=>⟨H',I',q⟩
def PSet.or{r r':V->V->V->Hp->(Hp->Prop)->Prop}(h:PSet X r)(h':PSet X r'):PSet X λo y v H Q=>r o y v H Q\/r' o y v H Q:=by
 intro Â s σ H o y v ov iv u Q I ro ri rv q;rcases q with q|q
 .exact h Â s σ H o y v ov iv u Q I ro ri rv q
 .exact h' Â s σ H o y v ov iv u Q I ro ri rv q
end Snd
namespace Snd
open PySem L2
variable {i:Inf}{X:Cx}{Φ:O.Fs}
def Mm(n:Nat)(k:Int):O.ixN n k=L2.ixN n k:=rfl
variable {H:Hp} {xs:List O.Val} {vs:List V}
def WY{K:Frag}{k:Int}{v:O.Val}(r:RVs K H xs vs)(e:O.atI xs k=fb v):∃x,L2.atI vs k=fb x/\RV K H v x:=by
 unfold O.atI at e;unfold L2.atI;rw[Mm,r.length]at e;cases z:L2.ixN vs.length k with
 |none=>rw[z]at e;cases e
 |some j =>rw[z]at e;let⟨x,h1,h2⟩:=r.get (show xs[j]?=fb v from e);exact⟨x,h1,h2⟩
abbrev Rt(i:Inf)(r:R2):Prop:=∀(v u:O.Val) (G:O.Hs) (H:Hp) (x y:V) (w:O.Val) (Q:VK),RH i G H->RV i.K H v x->RV i.K H u y->O.fU G v u=fb w->(∀z,RV i.K H w z->Q z H)->r x y H Q
variable {a:Expr} {ma:O.E} {ì:Pos}
def PU{b:Expr}{mb:O.E}{r:R2}(hr:IxR X r)(ho:Rt i r)(ha:PE X a<|tE X i Φ ma)(hb:PE X b<|tE X i Φ mb)(hs:Mn b):PE X (.Subscript a b ì) (tE X i Φ<|.idx ma mb) :=
 (Qs hr ha hb hs).imp λσ H Q ⟨env,G,Qm,Em,p,w,c⟩=>by
  exact two p w λv u G2 H2 x y k2 p2 rx ry q=>by let⟨z,e,q⟩:=fj q;exact ho v u G2 H2 x y z Q p2.hp rx ry e λt rt=>c z G2 H2 t k2 p2.hp rt q
def GN{s:String}{k:Int}{c:Char}(e:O.atI s.toList k=fb c):L2.atI (gN s).cps.toList k=fb c.toNat:=by
 rw[Str.ofString_eq_toList];show L2.atI (List.map ŗ s.toList).toArray.toList k=_;unfold O.atI at e;unfold L2.atI;simp![À];rw[Mm]at e;cases z:L2.ixN s.toList.length k with
 |none=>rw[z]at e;cases e
 |some j =>rw[z]at e;have e:s.toList[j]?=fb c:=e;show(List.map ŗ s.toList)[j]?=_;rw[ß,e];rfl
def ON(c:Char):gN (am c)=⟨#[c.toNat]⟩:=by rw[Str.ofString_eq_toList];simp
abbrev RZ(K:Frag):R2:=λx y H Q=>rIx K x y H Q\/DY x y H Q
def Qh:Rt i<|RZ i.K:=by
 intro v u G H x y w Q g rx ry e q;cases v with
 |tup xs =>
  cases u with
  |int k =>
   cases rx with
   |tup hp hr =>let⟨z,h1,h2⟩:=WY hr (show O.atI xs k=fb w from e);exact .inl<|.inr<|.inl ⟨_,_,k,z,rfl,ry.int_inv,Zj hp,h1,q z h2⟩
  |_=>cases e
 |str s =>
  cases u with
  |int k =>
   simp![O.fU]at e;split at e
   .rename_i hl;cases z:O.atI s.toList k with
    |none=>rw[z]at e;cases e
    |some c =>rw[z]at e;cases e;refine .inl (.inr<|.inr ⟨_,k,_,rx.str_inv,ry.int_inv,by rw[Zx];exact Þ hl ZP,GN z,?_⟩);have:=q _<|.str<|am c;rw[ON]at this;exact this
   .cases e
  |_=>cases e
 |ref a =>
  cases rx.ref_inv
  replace e:(match G a with|some (.lst xs)=>(O.gy u).bind (O.atI xs)|some (.dct kvs)=>if O.fE u then O.fI kvs u else fc|some (.frz kvs)=>if O.fE u then O.fI kvs u else fc|some (.dtp kvs)=>if O.isKeyT u then O.fI kvs u else fc|_=>fc)=fb w:=e
  cases z:G a with
  |none=>rw[z]at e;cases e
  |some o =>
   rw[z]at e;cases o with
   |lst xs =>let⟨k,hk,e⟩:=î.mp e;cases ZC hk;let⟨vs,h1,h2⟩:=g a _ z;let⟨t,h3,h4⟩:=WY h2 e;exact .inl<|.inl ⟨a,vs,k,t,rfl,ry.int_inv,gk.of h1,h3,q t h4⟩
   |dct kvs =>let⟨hk,e⟩:=Zp (show(if O.fE u then O.fI kvs u else fc)=fb w from e);let⟨ps,h1,h2⟩:=g a _ z;let⟨d,kr,rfl⟩:=fz hk ry;let⟨t,hx,rv⟩:=(h2.look kr).1 w e;exact .inr ⟨a,t,rfl,by rw[<-hx];exact DGet.k h1,q t rv⟩
   |frz kvs =>let⟨hk,e⟩:=Zp (show(if O.fE u then O.fI kvs u else fc)=fb w from e);let⟨ob,ps,h1,h2⟩:=g a _ z;let⟨d,kr,rfl⟩:=fz hk ry;let⟨t,hx,rv⟩:=(h2.look kr).1 w e;exact .inr ⟨a,t,rfl,.inl ⟨ps,d,.inr ⟨ob,h1⟩,rfl,hx.symm⟩,q t rv⟩
   |dtp kvs =>let⟨hk,e⟩:=Zp (show(if O.isKeyT u then O.fI kvs u else fc)=fb w from e);let⟨ps,h1,h2⟩:=g a _ z;let⟨k1,k2,b,rfl,rfl,hb⟩:=Jc hk ry;let⟨t,hx,rv⟩:=(h2.look).1 w e;exact .inr ⟨a,t,rfl,by rw[<-hx];exact DGet.t h1 hb,q t rv⟩
   |_=>cases e
 |scr ns =>
  cases u with
  |int k =>
   cases rx with
   |scr h =>let⟨t,h3,h4⟩:=WY (RVs.ints ns) (show O.atI (ns.map .int) k=fb w from e);exact .inl<|.inl ⟨_,_,k,t,rfl,ry.int_inv,Yk h,h3,q t h4⟩
  |_=>cases e
 |_=>cases e
abbrev tOx(X:Cx)(i:Inf)(Φ:O.Fs)(m:O.Oe):TO:=λσ H Q=>∃env G Qm Em,Pre X i σ H env G Em/\O.wO Φ m env G Qm Em/\∀k G' H',fH H H'->RH i G' H'->Qm k G'->Q k H'
def _root_.L2.PO.imp{e:Option Expr}{t t':TO}(h:PO X e t)(f:∀σ H Q,t' σ H Q->t σ H Q):PO X e t':=λÂ s σ H Q I q=>h Â s σ H Q I (f σ H Q q)
def Gn:PO X fc<|tOx X i Φ .none:=po_none.imp λσ H Q ⟨env,G,Qm,Em,p,w,c⟩=>by exact c fc G H (fH.refl H) p.hp w
def E7{e:Expr}{m:O.E}(he:PE X e<|tE X i Φ m):PO X (fb e)<|tOx X i Φ<|.some m:=(Fa he).imp λσ H Q ⟨env,G,Qm,Em,p,w,c⟩=>by
 exact one p w λv G1 H1 x k1 p1 r q=>by let⟨b,e,q2⟩:=fj q;cases ZC e;exact⟨b,r.int_inv,c _ G1 H1 k1 p1.hp q2⟩
def OJ{K:Frag}(r:RVs K H xs vs)(lo hi:Option Int):RVs K H (O.cut xs lo hi)<|Mj vs lo hi:=by
 have e:∀(n d:Nat) (o:Option Int),O.fR n d o=HT.sIx n d o:=by
  intro n d o;cases o with
  |none=>rfl
  |some k =>
   show(if 0<=k then min k.toNat n else(k+n).toNat)=(if k<0 then(k+(n:Int)).toNat else min k.toNat n)
   by_cases h:k<0
   .rw[gF h,gG<|by lia]
   .rw[gG h,gF<|by lia]
 unfold O.cut Mj;rw[e,e,r.length];exact(r.drop _).take _
abbrev Rw(i:Inf)(r:V->Option Int->Option Int->Hp->VK->Prop):Prop:=∀(v:O.Val) (lo hi:Option Int) (G:O.Hs) (H:Hp) (x:V) (Q:VK) (Qm:O.Q1),RH i G H->RV i.K H v x->(O.fV G v lo hi).wp G Qm->Cn i H Q Qm->r x lo hi H Q
def Rk{lo hi:Option Expr}{ml mh:O.Oe}{r:V->Option Int->Option Int->Hp->VK->Prop}{p2:Pos}(hr:SlR X r)(ho:Rw i r)(ha:PE X a<|tE X i Φ ma)(hl:PO X lo<|tOx X i Φ ml)(hh:PO X hi<|tOx X i Φ mh):PE X (.Subscript a (.Slice lo hi fc p2) ì) (tE X i Φ<|.slc ma ml mh) :=
 (BP hr ha hl hh).imp λσ H Q ⟨env,G,Qm,Em,p,w,c⟩=>by
  exact⟨env,G,_,Em,p,w,λv G1 H1 x k1 g1 r1 w1=>⟨env,G1,_,Em,p.go k1 g1,w1,λl G2 H2 k2 g2 w2=>⟨env,G2,_,Em,(p.go k1 g1).go k2 g2,w2,λu G3 H3 k3 g3 w3 =>
    ho v l u G3 H3 x Q Qm g3 ((r1.keep k2).keep k3) w3 (((c.go k1).go k2).go k3)⟩⟩⟩
abbrev Q5(K:Frag):V->Option Int->Option Int->Hp->VK->Prop:=λx lo hi H Q=>Q9 K x lo hi H Q\/Qk K x lo hi H Q\/Q0 x lo hi H Q\/Qv K x lo hi H Q
def R5:SlR X<|Q5 X.K:=sl_list.or (f7.or<|sl_str.or E5)
def Wh(n d:Nat)(o:Option Int):O.fR n d o=HT.sIx n d o:=by
 cases o with
 |none=>rfl
 |some k =>
  show(if 0<=k then min k.toNat n else(k+n).toNat)=(if k<0 then(k+(n:Int)).toNat else min k.toNat n)
  by_cases h:k<0
  .rw[gF h,gG<|by lia]
  .rw[gG h,gF<|by lia]
def Nj(n d:Nat)(h:d<=n)(o:Option Int):O.fR n d o<=n:=by
 cases o with
 |none=>exact h
 |some k =>show(if 0<=k then min k.toNat n else(k+n).toNat)<=n;split<;>lia
def clip_eq(n d:Nat)(h:d<=n)(o:Option Int):(match o with
    |none=>(d:Int)
    | some i=>max 0<|min (if i<0 then i+(n:Int)else i) (n:Int))=(O.fR n d o:Int):=by
 cases o with
 |none=>rfl
 |some k =>
  show _=(((if 0<=k then min k.toNat n else(k+n).toNat):Nat):Int)
  by_cases hk:k<0
  .rw[gG<|show ¬ 0<=k by lia];simp![hk,if_true];lia
  .rw[gF<|show 0<=k by lia];simp![hk,if_false];lia
def LJ(n:Nat)(lo hi:Option Int):PySem.Builtin.Str.strSliceIndices lo hi 1 n=(List.range<|O.fR n n hi - O.fR n 0 lo).map λk=>O.fR n 0 lo+k:=by
 have e1:=clip_eq n 0 (ī _) lo;have e2:=clip_eq n n (Ï _) hi;have e3:PySem.Builtin.Str.strSliceIndices lo hi 1 n=Ϧ (O.fR n 0 lo:Int) (O.fR n n hi:Int) 1:=by unfold PySem.Builtin.Str.strSliceIndices;rw[<-e1,<-e2];cases lo<;>cases hi<;>rfl
 rw[e3];unfold Ϧ;have e4:(if(1:Int) > 0 then(if(O.fR n 0 lo:Int)<(O.fR n n hi:Int)then((O.fR n n hi:Int) - (O.fR n 0 lo:Int)+1 - 1) / 1 else 0)else(if(O.fR n 0 lo:Int) > (O.fR n n hi:Int)then((O.fR n 0 lo:Int) - (O.fR n n hi:Int) - 1 - 1) / (-1)else 0)).toNat=O.fR n n hi - O.fR n 0 lo:=by rw[gF (by decide),Int.ediv_one];split<;>lia
 show(List.range<|Int.toNat<|if(1:Int) > 0 then _ else _).map _=_;rw[e4];refine Ď λk _=>?_;lia
def Gr(s:String)(lo hi:Option Int):AB (gN s) lo hi=gN (Β<|O.cut s.toList lo hi):=by
 have hl:(gN s).length=s.toList.length:=by rw[Zx,b6]
 have ha:=Nj s.toList.length 0 (ī _) lo;have hb:=Nj s.toList.length s.toList.length (Ï _) hi;have e:=LJ s.toList.length lo hi;rw[<-hl]at e;unfold AB;rw[e];simp![hl];have ec:(gN s).cps.toList=s.toList.map ŗ:=by rw[Str.ofString_eq_toList]
 split
 .rename_i z;rw[À,ą]at z;have e0:O.fR s.toList.length 0 lo=0\/s.toList.length=0:=by lia
  have e5:O.cut s.toList lo hi=s.toList:=by
   unfold O.cut;rw[z];rcases e0 with e0|e0
   .rw[e0,ϟ,ñ]
   .have:s.toList=[]:=Ť.mp e0;rw[this];simp
  rw[e5,String.ofList_toList]
 .rw[Str.ofString_eq_toList<|Β _,b7];congr 2;have e3:(λi:Nat=>(gN s).cps[i]?)=λi:Nat=>(s.toList.map ŗ)[i]?:=by
   funext i;rw[<-ec];simp
  rw[e3];by_cases ei:O.fR s.toList.length 0 lo<=O.fR s.toList.length s.toList.length hi
  .rw[PySem.StrLaws.picks _ _ _<|by rw[À];lia];unfold O.cut;rw[List.map_take,List.map_drop]
  .have:O.fR s.toList.length s.toList.length hi - O.fR s.toList.length 0 lo=0:=by lia
   unfold O.cut;rw[this];simp
def QJ:Rw i<|Q5 i.K:=by
 intro v lo hi G H x Q Qm g r w c;cases v with
 |tup xs =>
  simp![O.fV]at w;split at w
  .rename_i hn;rw[O.Rs.wp_val]at w;cases r with
   |@tup _ a vs hp hr=>exact .inr (.inr<|.inr ⟨a,vs,rfl,Zj hp,by rw[<-Wh,<-Wh,<-hr.length];exact hn,c _ G H _ (fH.refl H) g (.tup hp hr) w⟩)
  .rename_i hn;rw[O.Rs.wp_val]at w;cases r with
   |@tup _ a vs hp hr =>refine .inr (.inl ⟨a,vs,rfl,Zj hp,by rw[<-Wh,<-Wh,<-hr.length];exact hn,λp hp'=>?_⟩);have k:=fH.new (o:=.tup<|Mj vs lo hi) hp';refine c _ G _ _ k (g.hid k λb o e=>fg ?_) (.tup (.inl fh)<|OJ (hr.keep k) lo hi) w;rintro rfl;rw[g.free hp']at e;cases e
 |ref a =>
  cases r.ref_inv;simp![O.fV]at w;cases z:O.fx (G a)with
  |none=>rw[z]at w;simp at w
  |some xs =>rw[z]at w;rw[O.Rs.wp_new]at w;let⟨vs,h1,h2⟩:=Zm g z;exact .inl ⟨a,vs,rfl,h1,ZU g w c λp hp=>⟨_,fh,OJ (h2.keep<|fH.new hp) lo hi⟩⟩
 |scr ns =>
  simp![O.fV,O.Rs.wp_new]at w;cases r with
  |scr h=>exact .inl ⟨_,_,rfl,Yk h,ZU g w c λp hp=>⟨_,fh,OJ (RVs.ints ns) lo hi⟩⟩
 |str s =>
  cases r.str_inv;simp![O.fV]at w;split at w
  .rename_i hl;rw[O.Rs.wp_val]at w;refine .inr (.inr <| .inl ⟨_,rfl,by rw[Zx];exact Þ hl (by decide),?_⟩);rw[Gr];exact c _ G H _ (fH.refl H) g (.str _) w
  .simp at w
 |_=>simp[O.fV]at w
variable {H:Hp} {vs:List O.Val} {xs:List V} {x:V}
def RVs.app1{K:Frag}{v:O.Val}(r:RVs K H vs xs)(q:RV K H v x):RVs K H (vs++[v])<|xs++[x]:=r.append (.cons q .nil)
variable {es:List Expr} {ms:O.Es} {n:Nat} {ì:Pos}
def P5{k:Nat}(hn:n<=1000)(h:PA X es<|tAr X i Φ ms n):PE X (.Tuple es k ì) (tE X i Φ<|.tup ms) :=
 (Ii h).imp λσ H Q ⟨env,G,Qm,Em,p,w,c⟩=>by refine⟨env,G,_,Em,p,w,λvs G1 H1 xs k1 g1 r1 hl w1=>⟨by rw[hl];exact Þ hn (by decide),λa ha=>?_⟩⟩;have k:=fH.new (o:=.tup xs) ha;refine c _ G1 _ _ (k1.trans k) (g1.hid k λb o e=>fg ?_) (.tup (.inl fh)<|r1.keep k) w1;rintro rfl;rw[g1.free ha]at e;cases e
def QU(hn:n<=1000)(h:PA X es<|tAr X i Φ ms n):PE X (.List es ì) (tE X i Φ<|.lst ms) :=
 (Ph h).imp λσ H Q ⟨env,G,Qm,Em,p,w,c⟩=>by refine⟨env,G,_,Em,p,w,λvs G1 H1 xs k1 g1 r1 hl w1=>⟨by rw[hl];exact Þ hn (by decide),ZU g1 w1 (c.go k1) λa ha=>?_⟩⟩;exact⟨xs,fh,r1.keep<|fH.new ha⟩
abbrev Ke(i:Inf)(f:O.Bi)(r:List V->Hp->VK->Prop):Prop:=∀(vs:List O.Val) (G:O.Hs) (H:Hp) (xs:List V) (Q:VK) (Qm:O.Q1),RH i G H->RVs i.K H vs xs->(O.biV G f vs).wp G Qm->Cn i H Q Qm->r xs H Q
def XC{f:O.Bi}{r:List V->Hp->VK->Prop}(hr:Ke i f r):∀σ H Q,tE X i Φ (.bi f ms) σ H Q->tCB r (tAr X i Φ ms n) σ H Q:=λσ H Q ⟨env,G,Qm,Em,p,w,c⟩=>by exact⟨env,G,_,Em,p,w,λvs G1 H1 xs k1 g1 r1 _ w1=>hr vs G1 H1 xs Q Qm g1 r1 w1<|c.go k1⟩
def RVs.inv1{K:Frag}{v:O.Val}(r:RVs K H [v] xs):∃x,xs=[x]/\RV K H v x:=by cases r with|cons a t=>cases t;exact⟨_,rfl,a⟩
def RVs.inv2{K:Frag}{v u:O.Val}(r:RVs K H [v,u] xs):∃x y,xs=[x,y]/\RV K H v x/\RV K H u y:=by cases r with|cons a t=>cases t with|cons b t=>cases t;exact⟨_,_,rfl,a,b⟩
def Ma(s:String):(gN s).cps.toList=s.toList.map ŗ:=by rw[Str.ofString_eq_toList]
def Ur:∀(l:List Char) (a:Nat),(l.map ŗ).foldl (λĪ c=>Ī*10+(c - 48)) a=l.foldl (λa c=>10*a+(c.toNat - 48)) a
 |[],_=>rfl
 |c::l,a=>by rw[Ó,ē,ē,Ur l,av a 10]
def GQ{s:String}(h1:s.toList≠[])(h2:s.toList.all O.figB=fe)(h3:s.length<=640):PySem.intText? (gN s)=fb ((O.decN s.toList:Nat):Int):=by
 have hc:=Ma s;rw[intText_digits (x:=gN s)]
 .rw[hc];unfold NumText.digitsVal O.decN;rw[Ur]
 .rw[hc];intro c hm;let⟨d,hd,rfl⟩:=ç.mp hm;have:=ÿ.mp h2 d hd;unfold O.figB at this;simpa using this
 .rw[hc];simpa using h1
 .rw[Zx];lia
variable {h:O.Hs} {Q:O.Q1}
def Xa{f:O.Val->O.Rs}(w:(O.fy f vs).wp h Q):∃v,vs=[v]/\(f v).wp h Q:=by
 cases vs with
 |nil=>exact(Zk w).elim
 |cons v vs=>cases vs with
  |nil=>exact⟨v,rfl,w⟩
  |cons _ _=>exact(Zk w).elim
def Ek{f:O.Val->O.Val->O.Rs}(w:(O.biOf2 f vs).wp h Q):∃v u,vs=[v,u]/\(f v u).wp h Q:=by
 cases vs with
 |nil=>exact(Zk w).elim
 |cons v vs=>cases vs with
  |nil=>exact(Zk w).elim
  |cons u us=>cases us with
   |nil=>exact⟨v,u,rfl,w⟩
   |cons _ _=>exact(Zk w).elim
def IT:Ke i .int λxs H Q=>((∃i,xs=[.int i]/\Q (.int i) H)\/∃k,xs=[.bl k]/\Q (.int<|if k then 1 else 0) H)\/∃z n,xs=[.str z]/\PySem.intText? z=fb n/\z.length<=640/\Q (.int n) H:=by
 intro vs G H xs Q Qm g r w c;let⟨v,rfl,w⟩:=Xa w;let⟨x,rfl,rx⟩:=r.inv1;cases v with
 |int k=>cases rx.int_inv;exact .inl<|.inl ⟨k,rfl,c _ G H _ (fH.refl H) g (.int _)<|Zq w⟩
 |bl k=>cases rx.bl_inv;exact .inl<|.inr ⟨k,rfl,c _ G H _ (fH.refl H) g (.int _)<|Zq w⟩
 |str s =>cases rx.str_inv;let⟨hl,w⟩:=XX w;exact .inr ⟨_,_,rfl,GQ hl.2.1 hl.2.2 hl.1,by rw[Zx];exact hl.1,c _ G H _ (fH.refl H) g (.int _)<|Zq w⟩
 |_=>exact(Zk w).elim
def EO:Ke i .max2 λxs H Q=>∃i j,xs=[.int i,.int j]/\Q (.int<|if j > i then j else i) H:=by intro vs G H xs Q Qm g r w c;let⟨v,u,rfl,w⟩:=Ek w;let⟨a,b,rfl,rfl,w⟩:=Xr w;let⟨x,y,rfl,rx,ry⟩:=r.inv2;cases rx.int_inv;cases ry.int_inv;exact⟨a,b,rfl,c _ G H _ (fH.refl H) g (.int _)<|Zq w⟩
def GX:Ke i .min2 λxs H Q=>∃i j,xs=[.int i,.int j]/\Q (.int<|if j<i then j else i) H:=by intro vs G H xs Q Qm g r w c;let⟨v,u,rfl,w⟩:=Ek w;let⟨a,b,rfl,rfl,w⟩:=Xr w;let⟨x,y,rfl,rx,ry⟩:=r.inv2;cases rx.int_inv;cases ry.int_inv;exact⟨a,b,rfl,c _ G H _ (fH.refl H) g (.int _)<|Zq w⟩
abbrev P0(o:Option O.Ob)(f:List O.Val->O.Rs):O.Rs:=match o with
 |some (.lst xs)=>f xs
 |_=>.no
variable {o:Option O.Ob}
def Nk{f:List O.Val->O.Rs}(w:(P0 o f).wp h Q):∃xs,o=fb (.lst xs)/\(f xs).wp h Q:=by
 cases o with
 |none=>exact(Zk w).elim
 |some o=>cases o with
  |lst xs=>exact⟨xs,rfl,w⟩
  |_=>exact(Zk w).elim
variable {G:O.Hs}
def EV{Q:VK}{Qm:O.Q1}{ys:List O.Val}{us:List V}(g:RH i G H)(r:RVs i.K H ys us)(w:Qm (.tup ys) G)(c:Cn i H Q Qm):∀l,H l=fc->Q (.ref l) (upd H l<|.tup us):=λl hl=>by have k:=fH.new (o:=.tup us) hl;refine c _ G _ _ k (g.hid k λb o e=>fg ?_) (.tup (.inl fh)<|r.keep k) w;rintro rfl;rw[g.free hl]at e;cases e
def CZ:Ke i .tuple λxs H Q=>∃p ys,xs=[.ref p]/\((gk i.K H p ys/\∀l,H l=fc->Q (.ref l) (upd H l<|.tup ys))\/(gm i.K H p ys/\Q (.ref p) H)):=by
 intro vs G H xs Q Qm g r w c;let⟨v,rfl,w⟩:=Xa w;let⟨x,rfl,rx⟩:=r.inv1;cases v with
 |ref a =>cases rx.ref_inv;let⟨ys,e,w⟩:=Nk (f:=λxs=>.val<|.tup xs) w;let⟨us,h1,h2⟩:=g a _ e;exact⟨a,us,rfl,.inl ⟨gk.of h1,EV g h2 (Zq w) c⟩⟩
 |tup ys =>
  cases rx with
  |tup hp hr=>exact⟨_,_,rfl,.inr ⟨Zj hp,c _ G H _ (fH.refl H) g (.tup hp hr)<|Zq w⟩⟩
 |_=>exact(Zk w).elim
abbrev kinds:List String:=["int","bool","str","list","tuple","dict"]
def FL(K:Frag):∀t∈["NoneType","bool","int","str","tuple","list","dict"],∀T∈kinds,PySem.W.kitOne K (.type t) (.type T)=fb (t==T||(t == "bool" && T == "int")):=by intro t ht T hT;simp only[kinds,Ç,Õ,or_false]at ht hT;rcases ht with rfl|rfl|rfl|rfl|rfl|rfl|rfl<;>rcases hT with rfl|rfl|rfl|rfl|rfl|rfl<;>rfl
def Bw(g:RH i G H){v:O.Val}{t:String}(r:RV i.K H v x)(e:O.gB G v=fb t):TyV i.K H x (.type t)/\t∈["NoneType","bool","int","str","tuple","list","dict"]:=by
 cases v with
 |non=>cases r;cases e;exact⟨.of .non,by simp⟩
 |bl b=>cases r;cases e;exact⟨.of<|.bl b,by simp⟩
 |int b=>cases r;cases e;exact⟨.of<|.int b,by simp⟩
 |str b=>cases r;cases e;exact⟨.of<|.str _,by simp⟩
 |tup xs=>cases e;cases r with|tup hp hr=>exact⟨.tup<|Zj hp,by simp⟩
 |scr ns=>cases e;cases r with|scr h=>exact⟨.lst<|Yk h,by simp⟩
 |ref a =>
  cases r.ref_inv;simp![O.gB]at e;cases q:G a with
  |none=>rw[q]at e;cases e
  |some o =>
   rw[q]at e;cases o with
   |lst xs=>cases e;let⟨vs,h1,_⟩:=g a _ q;exact⟨.lst<|gk.of h1,by simp⟩
   |dct kvs=>cases e;let⟨ps,h1,_⟩:=g a _ q;exact⟨.of<|.dK h1,by simp⟩
   |ins C fs=>cases e
   |exc C=>cases e
   |frz _=>cases e
   |dtp _=>cases e
 |key _ _=>cases e
def P7{e:Expr}{m:O.E}{T:String}{p p2:Pos}(hT:T∈kinds)(he:PE X e<|tE X i Φ m)(hk:X.K=i.K)(hg:Gl X "isinstance")(hm:X.mg "isinstance" = fc)(hg2:Gl X<|gN T)(hm2:X.mg (gN T)=fc)
  (hv2:š (gN T)=fb (.type T)) (hn2:gN T≠"__name__") (bN:(gN T==("__debug__" : Str))=ff) (Š:Ú [e,.Name (gN T) p2] X.env=(ff,eval e X.env)::Ú [.Name (gN T) p2] X.env) :
  PE X (.Call (.Name "isinstance" p) [e,.Name (gN T) p2] [] ì) (tE X i Φ<|.bi (.isi [T])<|.cons m .nil):=by
 refine(Yo BE hg hm (by kernel_rfl) (ZJ he (ZJ (P1 (T:=T) hg2 hm2 hv2 hn2 bN) gh) Š) (he:=Š)).imp λσ H Q ⟨env,G,Qm,Em,p,w,c⟩=>?_;refine one p w λv G1 H1 x k1 p1 r q=>?_
 replace q:(O.Rs.ofO (((O.gD G1 v T).bind λb=>(O.isiAny G1 v []).map (b || ·)).map .bl)).wp G1 Qm:=q
 simp![O.isiAny,O.gD]at q;cases z:O.gB G1 v with
 |none=>rw[z]at q;simp[O.Rs.ofO]at q
 |some t =>rw[z]at q;simp![Ľ,ú,O.Rs.ofO,O.Rs.wp_val,Ϭ]at q;let⟨h1,h2⟩:=Bw p1.hp r z;refine⟨x,T,.type t,_,rfl,by rw[hk];exact h1,by rw[hk];exact FL _ t h2 T hT,c _ G1 H1 _ k1 p1.hp (.bl _) q⟩
def Uh(h:O.isLst o=fe):∃xs,o=fb (.lst xs):=by
 cases o with
 |none=>cases h
 |some o=>cases o with
  |lst xs=>exact⟨xs,rfl⟩
  |_=>cases h
variable {a:È}
def Cj{f:O.Ad->List O.Val->Option (O.Val×O.Hs)}{t:O.Val×O.Hs}(e:O.bmL G (.ref a) f=fb t):∃xs,G a=fb (.lst xs)/\f a xs=fb t:=by let⟨xs,h1,h2⟩:=î.mp (show(O.fx<|G a).bind (f a)=fb t from e);exact⟨xs,K1 h1,h2⟩
def Wk{xs:List O.Val}{vs:List V}(g:RH i G H)(h:H a=fb (.lst vs))(ys:List O.Val)(us:List V)(r:RVs i.K H ys us):fH H (upd H a<|.lst us)/\RH i (O.upd G a<|.lst ys) (upd H a<|.lst us):=by
 have k:fH H<|upd H a<|.lst us:=fH.put (λxs e=>by rw[h]at e;cases e) λp u e=>by rw[h]at e;cases e
 exact⟨k,g.put k ⟨us,fh,r.keep k⟩⟩
abbrev spF(i:Inf)(P:O.Pg)(n:Nat)(f:String):Sp:=λvs H Q E=>∃args G Qm Em,RVs i.K H args vs/\RH i G H/\O.wF P n f args G Qm Em/\Cn i H Q Qm/\∀cls d H',XK1 i H Em cls d H'->E cls d H'
abbrev Dfo(pr:è)(w:ā)(mg:Str->Option Ä)(base:Ć)(i:Inf)(P:O.Pg)(n:Nat)(f:String):Prop :=
 ∃fa fd ps,fO pr w i.K mg base (CX1 pr w) (2*n) fa fd ps (spF i P n f)/\mg (gN f)=fb (.ref fa)/\PySem.W.keepIn i.K (.ref fa)=fe/\Binds i.K fd ps []
variable {e:Expr} {es:List Expr} {ì:Pos}
def LM{P:O.Pg}{n k:Nat}{f:String}{ms:O.Es}{p:Pos}(hK:X.K=i.K)(D:Dfo X.prog X.w X.mg X.base i P n f)(hr:fN (2*n) X.A)(hg:Gl X<|gN f)(cI:(gN f==("__debug__" : Str))=ff)
  (ha:PA X (e::es)<|tAr X i (O.wF P n) ms k) (he:Ú (e::es) X.env=(ff,eval e X.env)::Ú es X.env) (hpl:(ě ì<|Ú es X.env).any (·.1)=ff) :
  PE X (.Call (.Name (gN f) p) (e::es) [] ì) (tE X i (O.wF P n)<|.call f ms):=by
 let⟨fa,fd,ps,F,hm,hk,hb⟩:=D;rw[<-hK]at F hk hb;k_upd;let⟨env,G,Qm,Em,pr,w,c⟩:=h;refine GC (E:=XK1 i H Em) F hr hg hm hk hb .nil (XW.passes pr.xo) ha cI he hpl Â s σ H Q I ⟨env,G,_,Em,pr,w,λvs G1 H1 xs k1 g1 r1 hl w1=>?_⟩;exact⟨vs,G1,Qm,Em,by rw[í];exact r1,g1,w1,c.go k1,λcls d H' h=>h.go k1⟩
abbrev XKS(i:Inf)(H:Hp)(Xe:O.EQ):XK:=λcls _ H'=>∃e c G' ad,cls=.ref ad/\i.xc c ad/\fH H H'/\RH i G' H'/\Xe e c G'
structure PreS(X:Cx)(i:Inf)(σ:St)(H:Hp)(env:O.Env)(G:O.Hs)(Xe:O.EQ):Prop where
 en:REn i.K H env σ
 hp:RH i G H
 xo:XW X<|XKS i H Xe
variable {σ:St} {H:Hp} {H1:Hp} {G:O.Hs} {Xe:O.EQ}
def PreS.go{σ1:St}{env env1:O.Env}{G1:O.Hs}(p:PreS X i σ H env G Xe)(k:fH H H1)(r:RH i G1 H1)(e:REn i.K H1 env1 σ1):PreS X i σ1 H1 env1 G1 Xe :=
 ⟨e,r,λÂ σ H0 s H' a cls s' I f ⟨e,c,G',ad,q1,q2,q3,q4⟩=>p.xo Â σ H0 s H' a cls s' I f ⟨e,c,G',ad,q1,q2,k.trans q3,q4⟩⟩
def PreS.pre{env:O.Env}(p:PreS X i σ H env G Xe):Pre X i σ H env G (Xe env) :=
 ⟨p.en,p.hp,λÂ σ H0 s H' a cls s' I f ⟨c,G',ad,q1,q2,q3,q4⟩=>p.xo Â σ H0 s H' a cls s' I f ⟨env,c,G',ad,q1,q2,q3,q4⟩⟩
structure EOk(i:Inf)(H:Hp)(D:Ends)(N:O.NQ)(R:O.Q1)(B C:O.NQ):Prop where
 nx:∀ř ş G' H',fH H H'->RH i G' H'->REn i.K H' ř ş->N ř G'->D.nx ş H'
 rt:∀v G' H' x,fH H H'->RH i G' H'->RV i.K H' v x->R v G'->D.rt x H'
 bk:∀ř ş G' H',fH H H'->RH i G' H'->REn i.K H' ř ş->B ř G'->D.bk ş H'
 ct:∀ř ş G' H',fH H H'->RH i G' H'->REn i.K H' ř ş->C ř G'->D.ct ş H'
def EOk.go{D:Ends}{N:O.NQ}{R:O.Q1}{B C:O.NQ}(e:EOk i H D N R B C)(k:fH H H1):EOk i H1 D N R B C :=
 ⟨λa b c d k'=>e.nx a b c d<|k.trans k',λa b c d k'=>e.rt a b c d<|k.trans k',λa b c d k'=>e.bk a b c d<|k.trans k',λa b c d k'=>e.ct a b c d<|k.trans k'⟩
inductive tStx (X:Cx) (i:Inf) (Φ:O.Fs) (m:O.S) (D:Ends) (σ:St) (H:Hp):Prop
 |mk (env:O.Env) (G:O.Hs) (N:O.NQ) (R:O.Q1) (B C:O.NQ) (Xe:O.EQ) (p:PreS X i σ H env G Xe) (w:O.wS Φ m env G N R B C Xe) (e:EOk i H D N R B C)
abbrev tSt(X:Cx)(i:Inf)(Φ:O.Fs)(m:O.S):TS:=tStx X i Φ m
inductive tBlx (X:Cx) (i:Inf) (Φ:O.Fs) (m:O.Ss) (D:Ends) (σ:St) (H:Hp):Prop
 |mk (env:O.Env) (G:O.Hs) (N:O.NQ) (R:O.Q1) (B C:O.NQ) (Xe:O.EQ) (p:PreS X i σ H env G Xe) (w:O.wSs Φ m env G N R B C Xe) (e:EOk i H D N R B C)
abbrev tBl(X:Cx)(i:Inf)(Φ:O.Fs)(m:O.Ss):TS:=tBlx X i Φ m
variable {st:Ł} {t':TS}
def _root_.L2.PS.imp{t:TS}(h:PS X st t)(f:∀D σ H,t' D σ H->t D σ H):PS X st t':=λÂ s σ H D I q=>h Â s σ H D I (f D σ H q)
def _root_.L2.PSs.imp{st:List Ł}{t:TS}(h:PSs X st t)(f:∀D σ H,t' D σ H->t D σ H):PSs X st t':=λÂ s σ H D I q=>h Â s σ H D I (f D σ H q)
def Ix:PSs X []<|tBl X i Φ .nil:=pss_nil.imp λD σ H ⟨env,G,N,R,B,C,Xe,p,w,c⟩=>by exact c.nx env σ G H (fH.refl H) p.hp p.en w
def GU{sts:List Ł}{m:O.S}{ms:O.Ss}(h1:PS X st<|tSt X i Φ m)(h2:PSs X sts<|tBl X i Φ ms):PSs X (st::sts) (tBl X i Φ<|.cons m ms) :=
 (Cp h1 h2).imp λD σ H ⟨env,G,N,R,B,C,Xe,p,w,c⟩=>by exact⟨env,G,_,R,B,C,Xe,p,w,⟨λř ş G' H' k g e w'=>⟨ř,G',N,R,B,C,Xe,p.go k g e,w',c.go k⟩,c.rt,c.bk,c.ct⟩⟩
variable {m:O.E}
def Pk(he:PE X e<|tE X i Φ m):PS X (.Return (fb e) ì) (tSt X i Φ<|.ret m) :=
 (Ia he).imp λD σ H ⟨env,G,N,R,B,C,Xe,p,w,c⟩=>by exact⟨env,G,R,Xe env,p.pre,w,c.rt⟩
def GY:PS X (.Return fc ì) (tSt X i Φ .retN) :=
 ps_retN.imp λD σ H ⟨env,G,N,R,B,C,Xe,p,w,c⟩=>by exact c.rt _ G H _ (fH.refl H) p.hp .non w
def Fu(he:PE X e<|tE X i Φ m)(hs:ų e fc ì.line X.env=pure ff):PS X (.Expr e ì) (tSt X i Φ<|.expr m) :=
 (EL he hs).imp λD σ H ⟨env,G,N,R,B,C,Xe,p,w,c⟩=>by exact⟨env,G,_,Xe env,p.pre,w,λv G1 H1 x k1 g1 r1 w1=>c.nx env σ G1 H1 k1 g1 (p.en.keep k1) w1⟩
def Pb{t:Expr}{a b:List Ł}{mt:O.Tt}{ma mb:O.Ss}(ht:PT X t<|tTt X i Φ mt)(ha:PSs X a<|tBl X i Φ ma)(hb:PSs X b<|tBl X i Φ mb):PS X (.If t a b ì) (tSt X i Φ<|.ite mt ma mb) :=
 (Qq ht ha hb).imp λD σ H ⟨env,G,N,R,B,C,Xe,p,w,c⟩=>by
  refine⟨env,G,_,Xe env,p.pre,w,λd G1 H1 k1 g1 q=>?_⟩;cases d with
  |true=>exact⟨env,G1,N,R,B,C,Xe,p.go k1 g1<|p.en.keep k1,⇑q,c.go k1⟩
  |false=>exact⟨env,G1,N,R,B,C,Xe,p.go k1 g1<|p.en.keep k1,⇑q,c.go k1⟩
abbrev gPt(i:Inf)(p:O.Pt):TG:=λx σ H Q=>∃v env G ŋ,RV i.K H v x/\RH i G H/\REn i.K H env σ/\O.bind p G v env=fb ŋ/\∀σ2,REn i.K H ŋ σ2->Q σ2 H
variable {tg:Expr}
def _root_.L2.PG.imp{t t':TG}(h:PG X tg t)(f:∀v σ H Q,t' v σ H Q->t v σ H Q):PG X tg t':=λÂ s σ H v u Q I r q=>h Â s σ H v u Q I r (f v σ H Q q)
def _root_.L2.PGs.imp{tg:List Expr}{t t':TGs}(h:PGs X tg t)(f:∀v σ H Q,t' v σ H Q->t v σ H Q):PGs X tg t':=λÂ s σ H v u Q I r q=>h Â s σ H v u Q I r (f v σ H Q q)
variable {x:Str} {j:Nat}
def OG(hN:X.N.Nodup)(hi:X.N[j]?=fb x)(hx:Loc X.env.scope x)(hf:X.fn x=fe\/X.env.scope.names.lookup x=fb .local):PG X (.Name x ì) (gPt i<|.one j) :=
 (UK hN hi hx hf).imp λv σ H Q ⟨u,env,G,ŋ,r,g,e,b,h⟩=>by cases b;exact h _<|e.set r j
abbrev Ea(i:Inf)(js:List Nat):TGs:=λxs σ H Q=>∃vs env ŋ,RVs i.K H vs xs/\REn i.K H env σ/\O.bindL js vs env=fb ŋ/\∀σ2,REn i.K H ŋ σ2->Q σ2 H
def FY:PGs X []<|Ea i []:=pgs_nil.imp λxs σ H Q ⟨vs,env,ŋ,r,e,b,h⟩=>by
 cases vs with
 |nil=>cases r;cases b;exact⟨rfl,h _ e⟩
 |cons _ _=>cases b
variable {js:List Nat}
def D9(hN:X.N.Nodup)(hi:X.N[j]?=fb x)(hx:Loc X.env.scope x)(hf:X.fn x=fe\/X.env.scope.names.lookup x=fb .local)(h2:PGs X es<|Ea i js)
  (hs:(Ĝ (.Name x ì::es) X.env).map (·.2)=η (.Name x ì) X.env::(Ĝ es X.env).map (·.2)):PGs X (.Name x ì::es) (Ea i<|j::js) :=
 (JX (UK hN hi hx hf) h2 hs).imp λxs σ H Q ⟨vs,env,ŋ,r,e,b,h⟩=>by
  cases vs with
  |nil=>cases b
  |cons v vs =>
   cases r with
   |cons r t=>exact⟨_,_,rfl,vs,env.set j<|fb v,ŋ,t,e.set r j,b,h⟩
def KW:∀{js:List Nat}{vs:List O.Val}{env ŋ:O.Env},O.bindL js vs env=fb ŋ->vs.length=js.length
 |[],[],_,_,_=>rfl
 |j::js,v::vs,env,_,h=>by rw[Ð,Ð,KW<|show O.bindL js vs (env.set j<|fb v)=_ from h]
 |[],_::_,_,_,h=>by cases h
 |_::_,[],_,_,h=>by cases h
def UX{k:Nat}(hK:X.K=i.K)(hc:X.calm=fe)(h:PGs X es<|Ea i js)(hn:(Ĝ es X.env).length=js.length)(Š:(Ĝ es X.env).findIdx? (·.1)=fc):PG X (.Tuple es k ì) (gPt i<|.many js) :=
 (Eb (n:=js.length) hc h hn Š).imp λv σ H Q ⟨u,env,G,ŋ,r,g,e,b,h⟩=>by
  cases u with
  |tup vs =>
   have b:O.bindL js vs env=fb ŋ:=b;cases r with
   |tup hp hr=>exact⟨_,_,rfl,by rw[hK];exact Zj hp,by rw[<-hr.length];exact KW b,vs,env,ŋ,hr,e,b,h⟩
  |_=>cases b
def FJ{k k2:Nat}{p1 p2:Pos}(hK:X.K=i.K)(hc:X.calm=fe)(h1:PG X (.Name x p1)<|gPt i<|.one j)(h2:PG X (.Tuple es k2 p2)<|gPt i<|.many js):PG X (.Tuple [.Name x p1,.Tuple es k2 p2] k ì) (gPt i<|.nest j js) :=
 (Eb (n:=2) hc (JX h1 (JX h2 pgs_nil rfl) rfl) rfl rfl).imp λv σ H Q ⟨u,env,G,ŋ,r,g,e,b,h⟩=>by
  cases u with
  |tup vs =>
   cases vs with
   |nil=>cases b
   |cons x0 vs=>cases vs with
    |nil=>cases b
    |cons y vs=>cases vs with
     |cons _ _=>cases b
     |nil =>
      have b:(O.tupOf y).bind (λys=>O.bindL js ys<|env.set j<|fb x0)=fb ŋ:=b;cases r with
      |tup hp hr =>
       cases hr with
       |cons r0 t=>cases t with
        |cons r1 t =>cases t;exact⟨_,_,rfl,by rw[hK];exact Zj hp,rfl,_,_,rfl,x0,env,G,_,r0,g,e,rfl,λσ2 e2=>⟨_,_,rfl,y,_,G,ŋ,r1,g,e2,b,λσ3 e3=>⟨rfl,h σ3 e3⟩⟩⟩
  |_=>cases b
def IK{q:O.Pt}(he:PE X e<|tE X i Φ m)(hg:PG X tg<|gPt i q)(hs:ϐ [tg] e ì.line X.env=pure ff)(hw:ϑ [tg] e X.env=pure fc)
  (h1:(Ĝ [tg] X.env).map (·.2)=[η tg X.env]):PS X (.Assign [tg] e ì) (tSt X i Φ<|.set q m) :=
 (CC he hg hs hw h1).imp λD σ H ⟨env,G,N,R,B,C,Xe,p,w,c⟩=>by refine⟨env,G,_,Xe env,p.pre,w,λv G1 H1 x k1 g1 r1 w1=>?_⟩;let⟨ŋ,e2,w1⟩:=fj w1;exact⟨v,env,G1,ŋ,r1,g1,p.en.keep k1,e2,λσ2 h2=>c.nx ŋ σ2 G1 H1 k1 g1 h2 w1⟩
abbrev DI:V->V->V->Hp->(Hp->Prop)->Prop:=λo y v H Q=>Hk o y v H Q\/Hh o y v H Q
def Dg{G G3:O.Hs}{H:Hp}{o k v:O.Val}{y z x:V}{Q:Hp->Prop}(g:RH i G H)(ry:RV i.K H o y)(rz:RV i.K H k z)(rx:RV i.K H v x)(e:O.fW G o k v=fb G3)(c:∀H3,fH H H3->RH i G3 H3->Q H3):DI y z x H Q:=by
 cases o with
 |ref b =>
  cases ry.ref_inv
  replace e:(match G b with|some (.lst xs)=>(O.gy k).bind λn=>(O.ixN xs.length n).map λj=>O.upd G b (.lst<|xs.set j v)|some (.dct kvs)=>if O.fE k/\kvs.length<O.lim then fb (O.upd G b<|.dct<|O.fK kvs k v)else fc|some (.dtp kvs)=>if O.isKeyT k/\kvs.length<O.lim then fb (O.upd G b<|.dtp<|O.fK kvs k v)else fc|_=>fc)=fb G3:=e
  cases z4:G b with
  |none=>rw[z4]at e;cases e
  |some o =>
   rw[z4]at e;cases o with
   |lst xs =>let⟨n,hn,e⟩:=î.mp e;let⟨jj,hj,rfl⟩:=Ò.mp e;cases ZC hn;cases rz.int_inv;let⟨vs,h2,r2⟩:=g b _ z4;rw[Mm,r2.length]at hj;let⟨k3,g3⟩:=Wk (xs:=xs) g h2 (xs.set jj v) (vs.set jj x)<|r2.set rx jj;exact .inl ⟨b,vs,n,jj,rfl,rfl,h2,hj,c _ k3 g3⟩
   |dct kvs =>let⟨hk,e⟩:=Zp (show(if O.fE k/\kvs.length<O.lim then fb (O.upd G b<|.dct<|O.fK kvs k v)else fc)=fb G3 from e);cases e;let⟨ps,h2,r2⟩:=g b _ z4;let⟨d,kr,rfl⟩:=fz hk.1 rz;let⟨k3,g3⟩:=M3 (kvs:=kvs) g h2<|r2.put kr rx;exact .inr ⟨b,_,rfl,DPut.k h2 (by rw[<-RKs.length r2];exact å hk.2 ZP),c _ k3 g3⟩
   |dtp kvs =>let⟨hk,e⟩:=Zp (show(if O.isKeyT k/\kvs.length<O.lim then fb (O.upd G b<|.dtp<|O.fK kvs k v)else fc)=fb G3 from e);cases e;let⟨ps,h2,r2⟩:=g b _ z4;let⟨a1,a2,d,rfl,rfl,hd⟩:=Jc hk.1 rz;let⟨k3,g3⟩:=Ft g h2<|r2.put (i:=a1) (j:=a2) rx;exact .inr ⟨b,_,rfl,DPut.t h2 hd (by rw[<-RTs.length r2];exact å hk.2 ZP),c _ k3 g3⟩
   |_=>cases e
 |_=>cases e
def Bg{a j:Expr}{ma mj:O.E}{Ϟ:Pos}(hK:X.K=i.K)(he:PE X e<|tE X i Φ m)(ha:PE X a<|tE X i Φ ma)(hj:PE X j<|tE X i Φ mj)(hgl:PG X (.Subscript a j Ϟ)<|Rz (tE X i Φ ma) (tE X i Φ mj) DI)(hs:ϐ [.Subscript a j Ϟ] e ì.line X.env=pure ff)(hw:ϑ [.Subscript a j Ϟ] e X.env=pure fc)
  (h1:(Ĝ [.Subscript a j Ϟ] X.env).map (·.2)=[η (.Subscript a j Ϟ) X.env]):PS X (.Assign [.Subscript a j Ϟ] e ì) (tSt X i Φ<|.setIdx ma mj m) :=
 (CC he hgl hs hw h1).imp λD σ H ⟨env,G,N,R,B,C,Xe,p,w,c⟩=>by refine⟨env,G,_,Xe env,p.pre,w,λv G1 H1 x k1 g1 r1 w1=>?_⟩;refine two (p.go k1 g1<|p.en.keep k1).pre w1 λo k G2 H2 y z k2 p2 ry rz q=>?_;let⟨G3,e3,q⟩:=fj q;exact Dg p2.hp ry rz (r1.keep k2) e3 λH3 k3 g3=>c.nx env σ _ _ ((k1.trans k2).trans k3) g3 (p2.en.keep k3) q
structure ItOk(i:Inf)(H0:Hp)(J:It)(st:O.Hs->Prop)(xs:List O.Val):Prop where
 go:∀n G H v,fH H0 H->RH i G H->st G->xs[n]?=fb v->J.go n H/\∀x H',J.yld n H x H'->fH H H'/\RH i G H'/\RV i.K H' v x
 stop:∀n G H,fH H0 H->RH i G H->st G->xs.length<=n->J.stop n H
abbrev tIt(X:Cx)(i:Inf)(Φ:O.Fs)(m:O.It):TI:=λσ H R=>∃env G QI Em,Pre X i σ H env G Em/\O.wI Φ m env G QI Em/\∀st xs G' H' J,fH H H'->RH i G' H'->ItOk i H' J st xs->QI st xs G'->R J H'
variable {tg:Expr} {e:Expr}
def _root_.L2.PI.imp{t t':TI}(h:PI X tg e t)(f:∀σ H Q,t' σ H Q->t σ H Q):PI X tg e t':=λÂ s σ H Q I q=>h Â s σ H Q I (f σ H Q q)
abbrev Sg(K:Frag)(tl:TE):TI:=λσ H R=>tl σ H λx H1=>∃a,x=.ref a/\(((∃xs,gk K H1 a xs)/\R (Itl K a) H1)\/((∃xs,gm K H1 a xs)/\R (Itt K a) H1))
def Iu{l:Expr}{tl:TE}(hl:PE X l tl):PI X tg l<|Sg X.K tl:=by
 intro Â s σ H R I h;refine thn (hl Â s σ H _ I h) λv s1 ⟨x,H1,I1,r1,q1⟩=>?_;let⟨a,e,q1⟩:=q1;subst e;cases r1;rcases q1 with⟨⟨xs,hq⟩,q⟩|⟨⟨xs,hq⟩,q⟩
 .obtain⟨ó,rv,p,hz⟩:=I1.list hq;refine Ś p.isList ?_;refine⟨s1.heap.objs.size,[s1.heap.objs.size],_,_,H1,rfl,I1.kept (t':=s1.toks) λb o e=>Ã _ e,At a _,⟨_,Ô _ rfl,rfl,rfl⟩,λb hb=>?_,q⟩;have e:b=s1.heap.objs.size:=⇑hb
  subst e;exact I1.fpOk (Ï _)<|I1.hok.fresh<|Ï _
 .obtain⟨ó,rv,p,hz⟩:=I1.tuple hq;refine ů (show s1.heap.IsTuple a ó.toArray from p) ?_;refine⟨s1.heap.objs.size,[s1.heap.objs.size],_,_,H1,rfl,I1.kept (t':=s1.toks) λb o e=>Ã _ e,O6 a _,⟨_,Ô _ rfl,rfl,rfl⟩,λb hb=>?_,q⟩;have e:b=s1.heap.objs.size:=⇑hb
  subst e;exact I1.fpOk (Ï _)<|I1.hok.fresh<|Ï _
variable {H0:Hp} {a:È} {xs:List O.Val}
def it_lst:ItOk i H0 (Itl i.K a) (λg=>O.fx (g a)=fb xs) xs where
 go:=λn G H v _ g e hv=>by let⟨vs,h1,h2⟩:=Zm g e;let⟨x,h3,h4⟩:=h2.get hv;refine⟨⟨vs,x,h1,h3⟩,λy H' ⟨e1,e2⟩=>?_⟩;subst e1;have:=e2 vs h1;rw[h3]at this;cases this;exact⟨fH.refl _,g,h4⟩
 stop:=λn G H _ g e hn=>by let⟨vs,h1,h2⟩:=Zm g e;exact⟨vs,h1,by rw[<-h2.length];exact hn⟩
def it_tup{vs:List V}(hp:H0 a=fb (.tup vs)\/KT i.K a vs)(hr:RVs i.K H0 xs vs):ItOk i H0 (Itt i.K a) (λ_=>True) xs where
 go:=λn G H v k g e hv=>by have hp':H a=fb (.tup vs)\/KT i.K a vs:=hp.imp (k.t _ _) id;let⟨x,h3,h4⟩:=(hr.keep k).get hv;refine⟨⟨vs,x,Zj hp',h3⟩,λy H' ⟨e1,e2⟩=>?_⟩;subst e1;have:=e2 vs<|Zj hp';rw[h3]at this;cases this;exact⟨fH.refl _,g,h4⟩
 stop:=λn G H k g e hn=>by have hp':H a=fb (.tup vs)\/KT i.K a vs:=hp.imp (k.t _ _) id;exact⟨vs,Zj hp',by rw[<-hr.length];exact hn⟩
def it_scr{ns:List Int}(h:(∃o,H0 a=fb (.frz o<|.lst<|ns.map V.int))\/KL i.K a (ns.map V.int)):ItOk i H0 (Itl i.K a) (λ_=>True) (ns.map .int) where
 go:=λn G H v k g e hv=>by have h':gk i.K H a<|ns.map V.int:=Yk<|h.imp (λ⟨o,e⟩=>⟨o,k.f _ _ _ e⟩) id;let⟨x,h3,h4⟩:=(RVs.ints (K:=i.K) (H:=H) ns).get hv;refine⟨⟨_,x,h',h3⟩,λy H' ⟨e1,e2⟩=>?_⟩;subst e1;have:=e2 _ h';rw[h3]at this;cases this;exact⟨fH.refl _,g,h4⟩
 stop:=λn G H k g e hn=>⟨_,Yk<|h.imp (λ⟨o,e⟩=>⟨o,k.f _ _ _ e⟩) id,⇑hn⟩
def DM{lo hi:Int}{n:Nat}(hn:n=(hi - lo).toNat):ItOk i H0 (Itr lo n) (λ_=>True) (O.fP lo hi) where
 go:=λk G H v _ g _ hv=>by
  unfold O.fP at hv;rw[ß]at hv;have hk:k<(hi - lo).toNat:=by
   by_cases h:k<(hi - lo).toNat
   .exact h
   .rw[Ŷ<|by simpa using h]at hv;cases hv
  rw[dq hk]at hv;cases hv;refine⟨by rw[hn];exact hk,λx H' ⟨e1,e2⟩=>?_⟩;subst e1 e2;exact⟨fH.refl _,g,.int _⟩
 stop:=λk G H _ g _ hk=>by unfold O.fP at hk;show n<=k;simp at hk;lia
variable {m:O.E}
def Ln(hK:X.K=i.K)(he:PE X e<|tE X i Φ m):PI X tg e (tIt X i Φ<|.seq m) :=
 (Iu he).imp λσ H R ⟨env,G,QI,Em,p,w,c⟩=>by
  refine one p w λv G1 H1 x k1 p1 r q=>?_;let⟨⟨st,xs⟩,e1,q2⟩:=fj q;clear q;rw[hK];cases v with
  |tup ys =>
   cases e1;cases r with
   |tup hp hr=>exact⟨_,rfl,.inr ⟨⟨_,Zj hp⟩,c _ _ G1 H1 _ k1 p1.hp (it_tup hp hr) q2⟩⟩
  |scr ns =>
   cases e1;cases r with
   |scr h=>exact⟨_,rfl,.inl ⟨⟨_,Yk h⟩,c _ _ G1 H1 _ k1 p1.hp (it_scr h) q2⟩⟩
  |ref a =>
   cases r.ref_inv;simp![O.itV]at e1;cases z:O.fx (G1 a)with
   |none=>rw[z]at e1;cases e1
   |some ys =>rw[z]at e1;cases e1;let⟨vs,h1,h2⟩:=Zm p1.hp z;exact⟨a,rfl,.inl ⟨⟨vs,h1⟩,c _ _ G1 H1 _ k1 p1.hp it_lst q2⟩⟩
  |_=>cases e1
variable {p:Pos} {ì:Pos}
def CM{a:Expr}(hg:Gl X "range")(hm:X.mg "range" = fc)(ha:PE X a<|tE X i Φ m)(hs:Ú [a] X.env=[(ff,eval a X.env)]):PI X tg (.Call (.Name "range" p) [a] [] ì) (tIt X i Φ<|.range m) :=
 (Bt hg hm (ZJ ha gh<|by rw[hs];rfl) hs).imp λσ H R ⟨env,G,QI,Em,p,w,c⟩=>by refine one p w λv G1 H1 x k1 p1 r q=>?_;let⟨n,e1,q2⟩:=fj q;clear q;cases ZC e1;cases r.int_inv;exact⟨n,rfl,q2.1.1,q2.1.2,c _ _ G1 H1 _ k1 p1.hp (DM<|by rw[cB]) q2.2⟩
def Bo{a b:Expr}{ma mb:O.E}(hg:Gl X "range")(hm:X.mg "range" = fc)(ha:PE X a<|tE X i Φ ma)(hb:PE X b<|tE X i Φ mb)(hs:Ú [a,b] X.env=[(ff,eval a X.env),(ff,eval b X.env)])(hs1:Ú [b] X.env=[(ff,eval b X.env)]) :
  PI X tg (.Call (.Name "range" p) [a,b] [] ì) (tIt X i Φ<|.range2 ma mb) :=
 (AL hg hm (ZJ ha (ZJ hb gh<|by rw[hs1];rfl)<|by rw[hs,hs1]) hs hs1).imp λσ H R ⟨env,G,QI,Em,p,w,c⟩=>by refine two p w λv u G1 H1 x y k1 p1 rx ry q=>?_;let⟨n,e1,q1⟩:=fj q;let⟨m,e2,q2⟩:=fj q1;clear q q1;cases ZC e1;cases ZC e2;cases rx.int_inv;cases ry.int_inv;exact⟨n,m,rfl,q2.1,c _ _ G1 H1 _ k1 p1.hp (DM rfl) q2.2⟩
def Lr{ũ:Expr}{body:List Ł}{q:O.Pt}{mi:O.It}{mb:O.Ss}(hp:aj (à X.prog X.w) X.A X.env X.xe)(hc:X.calm=fe)(hi:PI X tg ũ<|tIt X i Φ mi)(hg:PG X tg<|gPt i q)(hb:PSs X body<|tBl X i Φ mb)
  (hs:∀x,Ę ũ X.env x=pure x):PS X (.For tg ũ body [] ì) (tSt X i Φ<|.for q mi mb) :=
 (Et hp hc hi hg hb hs).imp λD σ H ⟨env,G,N,R,B,C,Xe,p,w,c⟩=>by
  refine⟨env,G,_,Xe env,p.pre,w,λst xs G1 H1 J k1 g1 it w1=>?_⟩;refine⟨λn m ş H'=>n+m=xs.length/\∃ř G',fH H1 H'/\RH i G' H'/\REn i.K H' ř ş/\O.wFor st (λv e g K M=>O.go (O.bind q g v e) λe2=>O.wSs Φ mb e2 g K R M K Xe) N (xs.drop n) ř G',⟨xs.length,by lia,env,G1,fH.refl _,g1,p.en.keep k1,⇑w1⟩,?_⟩;rintro n m ş H' ⟨hnm,ř,G',k2,g2,e2,w2⟩;by_cases hn:n<xs.length
  .right;have hd:xs.drop n=xs[n]::xs.drop (n+1):=ľ hn;rw[hd]at w2;let⟨s2,w2⟩:=w2;have hv:xs[n]?=fb xs[n]:=Ù hn;let⟨a1,a2⟩:=it.go n G' H' xs[n] k2 g2 s2 hv;refine⟨a1,λσ3 H3=>∃env3 G3,fH H1 H3/\RH i G3 H3/\REn i.K H3 env3 σ3/\O.wFor st (λv e g K M=>O.go (O.bind q g v e) λe2=>O.wSs Φ mb e2 g K R M K Xe) N (xs.drop<|n+1) env3 G3,λσ3 H3 h=>⟨m - 1,by lia,by lia,h⟩,λx H3 hy=>?_⟩;let⟨k3,g3,r3⟩:=a2 x H3 hy;let⟨cP,e4,w4⟩:=fj w2;refine⟨xs[n],ř,G',cP,r3,g3,e2.keep k3,e4,λσ4 h4=>?_⟩;have kk:fH H H3:=(k1.trans k2).trans k3;refine⟨cP,G',_,R,N,_,Xe,p.go kk g3 h4,w4,⟨λdI σ5 G5 H5 k5 g5 e5 w5=>?_,(c.go kk).rt,(c.go kk).nx,λdI σ5 G5 H5 k5 g5 e5 w5=>?_⟩⟩
   .exact⟨dI,G5,(k2.trans k3).trans k5,g5,e5,w5⟩
   .exact⟨dI,G5,(k2.trans k3).trans k5,g5,e5,w5⟩
  .left;have hd:xs.drop n=[]:=Ŭ (by lia);rw[hd]at w2;exact⟨it.stop n G' H' k2 g2 w2.1 (by lia),c.nx ř ş G' H' (k1.trans k2) g2 e2 w2.2⟩
def L9:Ke i .len λxs H Q=>((∃p ys,xs=[.ref p]/\(gk i.K H p ys\/gm i.K H p ys)/\Q (.int ys.length) H)\/∃z,xs=[.str z]/\z.length<=Ü/\Q (.int z.length) H)\/∃a kvs,xs=[V.ref a]/\H a=fb (.dK kvs)/\Q (.int kvs.length) H:=by
 intro vs G H xs Q Qm g r w c;let⟨v,rfl,w⟩:=Xa w;let⟨x,rfl,rx⟩:=r.inv1;cases v with
 |ref a =>
  cases rx.ref_inv
  replace w:(match G a with|some (.lst xs)=>.val (.int xs.length)|some (.dct kvs)=>.val (.int kvs.length)|_=>.no:O.Rs).wp G Qm:=w
  cases z:G a with
  |none=>rw[z]at w;exact(Zk w).elim
  |some o =>
   rw[z]at w;cases o with
   |lst ys =>let⟨us,h1,h2⟩:=g a _ z;refine .inl<|.inl ⟨a,us,rfl,.inl<|gk.of h1,?_⟩;rw[<-h2.length];exact c _ G H _ (fH.refl H) g (.int _)<|Zq w
   |dct kvs =>let⟨ps,h1,h2⟩:=g a _ z;refine .inr ⟨a,ps,rfl,h1,?_⟩;rw[<-h2.length];exact c _ G H _ (fH.refl H) g (.int _)<|Zq w
   |_=>exact(Zk w).elim
 |tup ys =>
  cases rx with
  |tup hp hr =>refine .inl<|.inl ⟨_,_,rfl,.inr<|Zj hp,?_⟩;rw[<-hr.length];exact c _ G H _ (fH.refl H) g (.int _)<|Zq w
 |scr ns =>
  cases rx with
  |scr h =>refine .inl<|.inl ⟨_,_,rfl,.inl<|Yk h,?_⟩;rw[À];exact c _ G H _ (fH.refl H) g (.int _)<|Zq w
 |str s =>cases rx.str_inv;let⟨hl,w⟩:=XX w;refine .inl (.inr ⟨_,rfl,by rw[Zx];exact Þ hl ZP,?_⟩);rw[Zx];exact c _ G H _ (fH.refl H) g (.int _)<|Zq w
 |_=>exact(Zk w).elim
def GR:Ke i .list λxs H Q=>∃p ys,xs=[.ref p]/\(gk i.K H p ys\/gm i.K H p ys)/\∀l,H l=fc->Q (.ref l) (upd H l<|.lst ys):=by
 intro vs G H xs Q Qm g r w c;let⟨v,rfl,w⟩:=Xa w;let⟨x,rfl,rx⟩:=r.inv1;cases v with
 |ref a =>cases rx.ref_inv;let⟨ys,e,w⟩:=Nk (f:=λxs=>.new<|.lst xs) w;let⟨us,h1,h2⟩:=g a _ e;exact⟨a,us,rfl,.inl<|gk.of h1,ZU g (XF w) c λp hp=>⟨_,fh,h2.keep<|fH.new hp⟩⟩
 |tup ys =>
  cases rx with
  |tup hp hr=>exact⟨_,_,rfl,.inr<|Zj hp,ZU g (XF w) c λp hp=>⟨_,fh,hr.keep<|fH.new hp⟩⟩
 |_=>exact(Zk w).elim
variable {H:Hp}
def As{K:Frag}:∀{xs:List O.Val}{bs:List Bool}{vs:List V},O.blsOf xs=fb bs->RVs K H xs vs->vs=bs.map V.bl:=by
 intro xs;induction xs with
 |nil=>intro bs vs e r;cases e;cases r;rfl
 |cons v xs ih =>
  intro bs vs e r;cases v<;>first|(cases e;done)|skip
  case bl b =>
  simp![O.blsOf]at e;cases z:O.blsOf xs with
  |none=>rw[z]at e;cases e
  |some ns=>rw[z]at e;cases e;cases r with|cons a t=>cases a.bl_inv;rw[ih z t];rfl
def IJ{o:Option O.Val}{h:O.Hs}{Q:O.Q1}(w:(O.Rs.ofO o).wp h Q):∃v,o=fb v/\Q v h:=by
 cases o with
 |none=>exact(Zk w).elim
 |some v=>exact⟨v,rfl,Zq w⟩
def ID:Ke i .all λxs H Q=>∃p,∃bs:List Bool,xs=[.ref p]/\gk i.K H p (bs.map V.bl)/\Q (.bl<|bs.all id) H:=by
 intro vs G H xs Q Qm g r w c;let⟨v,rfl,w⟩:=Xa w;let⟨x,rfl,rx⟩:=r.inv1;cases v with
 |ref a =>cases rx.ref_inv;let⟨v,e,w⟩:=IJ w;let⟨ys,z,e⟩:=î.mp e;let⟨bs,z2,rfl⟩:=Ò.mp e;let⟨us,h1,h2⟩:=Zm g z;have:=As z2 h2;subst this;exact⟨a,bs,rfl,h1,c _ G H _ (fH.refl H) g (.bl _) w⟩
 |_=>exact(Zk w).elim
def PF:Ke i .abs λxs H Q=>∃i,xs=[.int i]/\Q (.int<|if i<0 then -i else i) H:=by
 intro vs G H xs Q Qm g r w c;let⟨v,rfl,w⟩:=Xa w;let⟨x,rfl,rx⟩:=r.inv1;cases v with
 |int a=>cases rx.int_inv;exact⟨a,rfl,c _ G H _ (fH.refl H) g (.int _)<|Zq w⟩
 |_=>exact(Zk w).elim
set_option exponentiation.threshold 2000 in
def Pq{k:Int}(h:k.natAbs<10 ^ 200):k.natAbs.log2<1920:=by
 have e:(10:Nat) ^ 200<2 ^ 1920:=by decide
 by_cases h0:k.natAbs=0
 .rw[h0];decide
 .exact(Nat.log2_lt h0).mpr<|Ű h e
def Ev(ds:List O.D)(d:O.D):(toDs ds).any (λe=>ĥ e<|toD d)=ds.any λe=>O.D.eqv e d:=by
 induction ds with
 |nil=>rfl
 |cons e es ih=>simp![toDs,ı,ih,MD]
variable {G:O.Hs} {y:V} {ys:List O.Val}
def Ut(g:RH i G H){v u:O.Val}{x:V}{c:Bool}(rx:RV i.K H v x)(e:O.inL G v ys=fb c)(hy:∀ds,ys.mapM (O.dat G<|O.deep - 1)=fb ds->IsD i.K H y (.tuple<|toDs ds)\/IsD i.K H y (.list<|toDs ds)) :
  ∃ds d,(IsD i.K H y (.tuple ds)\/IsD i.K H y (.list ds))/\IsD i.K H x d/\ŏ ds=fe/\d.canLay0=fe/\d.depth<=64/\ds.any (λe=>ĥ e d)=c:=by
 unfold O.inL at e;cases z:O.dat G O.deep v with
 |none=>rw[z]at e;cases e
 |some d =>
  rw[z]at e;simp![ú]at e;cases z2:ys.mapM (O.dat G<|O.deep - 1)with
  |none=>rw[z2]at e;cases e
  |some ds =>rw[z2]at e;cases e;exact⟨_,_,hy ds z2,X5 g _ _ _ _ z rx,toDs_lay ds,MQ d,Þ (Me _ _ _ z) (by decide),Ev ds d⟩
def U5(g:RH i G H){u:O.Val}(ry:RV i.K H u y)(hu:u=.tup ys\/∃a,u=.ref a/\O.fx (G a)=fb ys):∀ds,ys.mapM (O.dat G<|O.deep - 1)=fb ds->IsD i.K H y (.tuple<|toDs ds)\/IsD i.K H y (.list<|toDs ds):=by
 intro ds hd;rcases hu with rfl|⟨a,rfl,hl⟩
 .left;have:=X5 g O.deep (.tup ys) (.tup ds) y (by show Option.map _ (List.mapM (O.dat G<|O.deep - 1) ys)=_;rw[hd];rfl) ry;simpa[toD]using this
 .right;have:=X5 g O.deep (.ref a) (.lst ds) y (by show(O.fx<|G a).bind _=_;rw[hl];show Option.map _ (List.mapM (O.dat G<|O.deep - 1) ys)=_;rw[hd];rfl) ry;simpa[toD]using this
def L1(s t:String)(c:Char)(h:O.oneC s=fb c):(!(Builtin.Str.occurrences (gN t) (gN s) 0 (gN t).length 1).isEmpty)=gM (c∈t.toList):=by
 have e:gN s=⟨#[c.toNat]⟩:=by
  unfold O.oneC at h;split at h
  .rename_i d hd;cases h;rw[Str.ofString_eq_toList,hd];rfl
  .cases h
 rw[e,StrLaws.found_one,Ma];have inj:∀{a b:Char},a.toNat=b.toNat->a=b:=λ{a b} e=>Char.ext<|bJ e;by_cases hc:c∈t.toList
 .rw[gJ hc,gK];exact ö hc
 .rw[gH hc,decide_eq_false_iff_not];intro m;let⟨d,hd,he⟩:=ç.mp m;exact hc<|inj he▸hd
abbrev RC(K:Frag):R2:=λx y H Q=>FI ff x y H Q\/FA K ff x y H Q\/∃i j,x=.str i/\y=.str j/\Q (.bl (!(Builtin.Str.occurrences j i 0 j.length 1).isEmpty)) H
abbrev Qg(K:Frag):R2:=λx y H Q=>FI fe x y H Q\/FA K fe x y H Q\/∃i j,x=.str i/\y=.str j/\Q (.bl (!(!(Builtin.Str.occurrences j i 0 j.length 1).isEmpty))) H
def Sw(hu:X.A.units+65<Ħ):OpR X (ð .In)<|RC X.K:=(LF<|by lia).or ((Im hu).or Bs)
def RW(hu:X.A.units+65<Ħ):OpR X (ð .NotIn)<|Qg X.K:=(IS<|by lia).or ((AH hu).or MO)
def HB{v u:O.Val}{G:O.Hs}{H:Hp}{x y:V}{b:Bool}(g:RH i G H)(rx:RV i.K H v x)(ry:RV i.K H u y)(e:O.inV G v u=fb b) :
  (∃ds d,(IsD i.K H y (.tuple ds)\/IsD i.K H y (.list ds))/\IsD i.K H x d/\ŏ ds=fe/\d.canLay0=fe/\d.depth<=64/\ds.any (λe=>ĥ e d)=b)\/
  (∃j k,x=.str j/\y=.str k/\(!(Builtin.Str.occurrences k j 0 k.length 1).isEmpty)=b)\/∃a o,y=.ref a/\DGet H a x o/\o.isSome=b:=by
 cases u with
 |tup ys=>exact .inl<|Ut (u:=.tup ys) g rx e<|U5 g ry<|.inl rfl
 |ref a =>
  replace e:(match G a with|some (.lst xs)=>O.inL G v xs|some (.dct kvs)=>if O.fE v then fb (O.fJ kvs v)else fc|some (.frz kvs)=>if O.fE v then fb (O.fJ kvs v)else fc|some (.dtp kvs)=>if O.isKeyT v then fb (O.fJ kvs v)else fc|_=>fc)=fb b:=e
  cases z:G a with
  |none=>rw[z]at e;cases e
  |some o =>
   rw[z]at e;cases o with
   |lst ys=>exact .inl (Ut (u:=.ref a) g rx e<|U5 g ry<|.inr ⟨a,rfl,by rw[z];rfl⟩)
   |dct kvs =>let⟨hk,e⟩:=Zp (show(if O.fE v then fb (O.fJ kvs v)else fc)=fb b from e);cases e;let⟨ps,h1,h2⟩:=g a _ z;let⟨d,kr,rfl⟩:=fz hk rx;exact .inr (.inr ⟨a,_,ry.ref_inv,DGet.k h1,by rw[h2.has kr,Xh]⟩)
   |frz kvs =>let⟨hk,e⟩:=Zp (show(if O.fE v then fb (O.fJ kvs v)else fc)=fb b from e);cases e;let⟨ob,ps,h1,h2⟩:=g a _ z;let⟨d,kr,rfl⟩:=fz hk rx;exact .inr (.inr ⟨a,_,ry.ref_inv,.inl ⟨ps,d,.inr ⟨ob,h1⟩,rfl,rfl⟩,by rw[h2.has kr,Xh]⟩)
   |dtp kvs =>let⟨hk,e⟩:=Zp (show(if O.isKeyT v then fb (O.fJ kvs v)else fc)=fb b from e);cases e;let⟨ps,h1,h2⟩:=g a _ z;let⟨k1,k2,d,rfl,rfl,hd⟩:=Jc hk rx;exact .inr (.inr ⟨a,_,ry.ref_inv,DGet.t h1 hd,by rw[h2.has,Xh]⟩)
   |_=>cases e
 |str t =>
  cases v with
  |str s =>let⟨c,z,rfl⟩:=Ò.mp e;exact .inr<|.inl ⟨_,_,rx.str_inv,ry.str_inv,L1 s t c z⟩
  |_=>cases e
 |_=>cases e
def Gc{o:Option Bool}{b:Bool}(e:o.map (!·)=fb b):o=fb (!b):=by let⟨c,z,rfl⟩:=Ò.mp e;rw[z,ao]
def RL:Z5 i .isin<|RC i.K:=by
 k_get;rcases HB g rx ry e with⟨ds,d,h1,h2,h3,h4,h5,h6⟩|⟨j,k,h1,h2,h3⟩|⟨a,o,h1,h2,h3⟩
 .exact .inr (.inl ⟨ds,d,h1,h2,h3,h4,h5,by show Q (.bl<|List.any _ _) H;rw[h6];exact q⟩)
 .exact .inr (.inr ⟨j,k,h1,h2,by rw[h3];exact q⟩)
 .exact .inl ⟨a,o,h1,h2,by rw[h3,bf];exact q⟩
def SJ:Z5 i .notin<|Qg i.K:=by
 k_get;rcases HB g rx ry (Gc e)with⟨ds,d,h1,h2,h3,h4,h5,h6⟩|⟨j,k,h1,h2,h3⟩|⟨a,o,h1,h2,h3⟩
 .exact .inr (.inl ⟨ds,d,h1,h2,h3,h4,h5,by show Q (.bl (!List.any _ _)) H;rw[h6,ao];exact q⟩)
 .exact .inr (.inr ⟨j,k,h1,h2,by rw[h3,ao];exact q⟩)
 .exact .inl ⟨a,o,h1,h2,by rw[h3,bK,ao];exact q⟩
variable {a:Expr} {b:Expr} {d:Expr} {ma:O.E} {mb:O.E} {op:cg} {dF:cg} {cop:O.Cop} {cop':O.Cop} {r:R2} {r':R2} {ì:Pos}
def F0{md:O.E}(ho:OpR X (ð op) r)(hr:Z5 i cop r)(ϝ:OpR X (ð dF) r')(hr':Z5 i cop' r')(ha:PE X a<|tE X i Φ ma)(hb:PE X b<|tE X i Φ mb)(hd:PE X d<|tE X i Φ md)(hm:bv [op,dF] [b,d]=ff) :
  PE X (.Compare a [op,dF] [b,d] ì) (tE X i Φ<|.chain cop cop' ma mb md) :=
 (DE ho ϝ ha hb hd hm).imp λσ H Q ⟨env,G,Qm,Em,p,w,k⟩=>by
  exact two p w λv u G2 H2 x y k2 p2 rx ry q=>by
   let⟨c,e,q⟩:=fj q;refine hr v u G2 H2 x y c _ p2.hp rx ry e ⟨c,rfl,?_⟩;cases c with
   |true =>
    rw[gF rfl]at q ⊢;exact one p2 q λt G3 H3 z k3 p3 rz q=>by let⟨d2,e2,q⟩:=fj q;exact hr' u t G3 H3 y z d2 Q p3.hp (ry.keep k3) rz e2<|k (.bl d2) G3 H3 (.bl d2) (k2.trans k3) p3.hp (.bl d2) q
   |false =>rw[gG ý]at q ⊢;exact k _ G2 H2 _ k2 p2.hp (.bl _) q
def Do{md:O.E}(ho:OpR X (ð op) r)(hr:Z5 i cop r)(ϝ:OpR X (ð dF) r')(hr':Z5 i cop' r')(ha:PE X a<|tE X i Φ ma)(hb:PE X b<|tE X i Φ mb)(hd:PE X d<|tE X i Φ md)(hm:bv [op,dF] [b,d]=ff) :
  PT X (.Compare a [op,dF] [b,d] ì) (tTt X i Φ<|.val<|.chain cop cop' ma mb md) :=
 (DF ho ϝ ha hb hd hm).imp λσ H Q ⟨env,G,Qm,Em,p,w,k⟩=>by
  exact two p w λv u G2 H2 x y k2 p2 rx ry q=>by
   let⟨c,e,q⟩:=fj q;refine hr v u G2 H2 x y c _ p2.hp rx ry e ⟨c,rfl,?_⟩;cases c with
   |true =>
    rw[gF rfl]at q ⊢;exact one p2 q λt G3 H3 z k3 p3 rz q=>by let⟨d2,e2,q⟩:=fj q;let⟨d3,e3,q⟩:=fj q;cases e3;exact hr' u t G3 H3 y z d2 _ p3.hp (ry.keep k3) rz e2 ⟨d2,rfl,k d2 G3 H3 (k2.trans k3) p3.hp q⟩
   |false =>rw[gG ý]at q ⊢;let⟨d3,e3,q⟩:=fj q;cases e3;exact⟨ff,rfl,k _ G2 H2 k2 p2.hp q⟩
def Ef{st:Ł}:PS X st<|tSt X i Φ .never:=λÂ s σ H D I ⟨env,G,N,R,B,C,Xe,p,w,c⟩=>by exact w.elim
end Snd
namespace L2
open PySem PySem.Spec PyProof.Rows
def HC{x:V}{xs:List V}{ó:List Ä}(hl:(x::xs).length=ó.length):(ó.toArray.size != (#[]:Array Ä).size)=fe:=by
 cases ó with
 |nil=>cases hl
 |cons y ys=>simp
section
variable {X:Cx}
abbrev Fc(K:Frag)(n:Bool):R2:=λx y H Q=>∃a b xs,x=.ref a/\y=.ref b/\gk K H a xs/\gk K H b []/\Q (.bl<|n ^^ xs.isEmpty) H
def Dq(hu:X.A.units+64<Ħ):OpR X (ð .Eq)<|Fc X.K ff:=by
 k_sub;let⟨a,b,xs,rfl,rfl,ha,hb,q⟩:=h;cases rx;cases ry;let⟨ó,rv,pl,_⟩:=I.list ha;let⟨Ż,rv2,pl2,_⟩:=I.list hb;cases rv2;have hl:=rv.length;cases xs with
 |nil =>have:ó=[]:=Ť.mp hl.symm;subst this;exact SeqAt.RcAt.lists (A:=X.A) (e:=λ_=>fe) pl.isList pl2.isList rfl (by lia) (λj j1 _=>by simp at j1) X.prog X.w X.xe _ ⟨.bl fe,H,I,rfl,q⟩
 |cons x xs =>exact SeqAt.RcAt.lists_lengths (A:=X.A) pl.isList pl2.isList (HC hl) (by lia) X.prog X.w X.xe _ ⟨.bl ff,H,I,rfl,q⟩
def D7(hu:X.A.units+64<Ħ):OpR X (ð .NotEq)<|Fc X.K fe:=by
 k_sub;let⟨a,b,xs,rfl,rfl,ha,hb,q⟩:=h;cases rx;cases ry;let⟨ó,rv,pl,_⟩:=I.list ha;let⟨Ż,rv2,pl2,_⟩:=I.list hb;cases rv2;have hl:=rv.length;cases xs with
 |nil =>have:ó=[]:=Ť.mp hl.symm;subst this;exact SeqAt.RcNeAt.lists (A:=X.A) (e:=λ_=>fe) pl.isList pl2.isList rfl (by lia) (λj j1 _=>by simp at j1) X.prog X.w X.xe _ ⟨.bl ff,H,I,rfl,q⟩
 |cons x xs =>exact SeqAt.RcNeAt.lists_lengths (A:=X.A) pl.isList pl2.isList (HC hl) (by lia) X.prog X.w X.xe _ ⟨.bl fe,H,I,rfl,q⟩
end
end L2
namespace Snd
open PySem L2
variable {i:Inf}{G:O.Hs}{H:Hp}
variable {x:V} {xs:List O.Val}
def KD(g:RH i G H){v:O.Val}(r:RV i.K H v x)(e:O.asLst G v=fb xs):∃a vs,x=.ref a/\gk i.K H a vs/\RVs i.K H xs vs:=by
 cases v with
 |ref a =>cases r;let⟨vs,h1,h2⟩:=Zm g e;exact⟨a,vs,rfl,h1,h2⟩
 |_=>cases e
def NA(g:RH i G H){v u:O.Val}{y:V}(rx:RV i.K H v x)(ry:RV i.K H u y){c:Bool}{f:List O.Val->List O.Val->Option Bool}(e:((O.asLst G v).bind λxs=>(O.asLst G u).bind λys=>f xs ys)=fb c):∃xs ys a b vs us,f xs ys=fb c/\x=.ref a/\y=.ref b/\gk i.K H a vs/\gk i.K H b us/\RVs i.K H xs vs/\RVs i.K H ys us:=by
 cases z:O.asLst G v with
 |none=>rw[z]at e;cases e
 |some xs =>
  cases z2:O.asLst G u with
  |none=>rw[z,z2]at e;cases e
  |some ys =>rw[z,z2]at e;let⟨a,vs,h1,h2,h3⟩:=KD g rx z;let⟨b,us,k1,k2,k3⟩:=KD g ry z2;exact⟨xs,ys,a,b,vs,us,e,h1,k1,h2,k2,h3,k3⟩
def Uv{vs:List V}(h:RVs i.K H xs vs):vs.isEmpty=xs.isEmpty:=by cases h<;>rfl
def c_eqE:Z5 i .eqE<|Fc i.K ff:=by
 k_get;let⟨xs,ys,a,b,vs,us,e,h1,h2,h3,h4,h5,h6⟩:=NA g rx ry e;split at e
 .rename_i z;cases e;cases h6 with
  |nil=>exact⟨a,b,vs,h1,h2,h3,h4,by rw[Uv h5,bf];exact q⟩
  |cons _ _=>cases z
 .cases e
def c_neE:Z5 i .neE<|Fc i.K fe:=by
 k_get;let⟨xs,ys,a,b,vs,us,e,h1,h2,h3,h4,h5,h6⟩:=NA g rx ry e;split at e
 .rename_i z;cases e;cases h6 with
  |nil=>exact⟨a,b,vs,h1,h2,h3,h4,by rw[Uv h5,bK];exact q⟩
  |cons _ _=>cases z
 .cases e
variable {i:Inf}{X:Cx}{Φ:O.Fs}
abbrev tPt(X:Cx)(i:Inf)(Φ:O.Fs)(m:O.E):TE:=λσ H Q=>∃env G Qm Em,Pre X i σ H env G Em/\O.wE Φ m env G Qm Em/\∀v G' H',fH H H'->RH i G' H'->Qm v G'->∃s,O.fmtV v=fb s/\s.length<=O.lim/\Q (.str<|gN s) H'
abbrev tJs(X:Cx)(i:Inf)(Φ:O.Fs)(ms:O.Es):TJ:=λσ H Ī Q=>∃env G a Qm Em,Ī=gN a/\a.length<=O.lim/\Pre X i σ H env G Em/\O.wJ Φ ms env G a Qm Em/\∀s G' H',fH H H'->RH i G' H'->Qm s G'->Q (gN s) H'
def _root_.L2.PJ.imp{vs:List Expr}{t t':TJ}(h:PJ X vs t)(f:∀σ H Ī Q,t' σ H Ī Q->t σ H Ī Q):PJ X vs t':=λÂ s σ H Ī Q I q=>h Â s σ H Ī Q I (f σ H Ī Q q)
variable {e:Expr} {m:O.E} {ì:Pos}
def IH(he:PE X e<|tE X i Φ m):PE X (.FormattedValue e (-1) fc ì) (tPt X i Φ m) :=
 (G7 he).imp λσ H Q ⟨env,G,Qm,Em,p,w,c⟩=>by
  refine⟨env,G,Qm,Em,p,w,λv G1 H1 x k1 g1 r1 w1=>?_⟩;let⟨s,e1,hl,q⟩:=c v G1 H1 k1 g1 w1;cases v with
  |str t=>cases e1;cases r1.str_inv;exact .inr ⟨_,rfl,by rw[Zx];exact Þ hl ZP,q⟩
  |int n =>
   cases r1.int_inv;simp![O.fmtV]at e1;split at e1
   .rename_i hn;cases e1;exact .inl ⟨n,rfl,Pq hn,q⟩
   .cases e1
  |_=>cases e1
def L6{s:String}{j:Nat}:PE X (.Constant (.str<|gN s) j ì) (tPt X i Φ<|.cst<|.str s) :=
 pe_str.imp λσ H Q ⟨env,G,Qm,Em,p,w,c⟩=>by let⟨t,e1,hl,q⟩:=c _ G H (fH.refl H) p.hp w;cases e1;exact q
def Lx:PJ X []<|tJs X i Φ .nil:=pj_nil.imp λσ H Ī Q ⟨env,G,a,Qm,Em,e,hl,p,w,c⟩=>by subst e;exact⟨by rw[Zx];exact Þ hl ZP,c a G H (fH.refl H) p.hp w⟩
variable {es:List Expr}
def Ak{ms:O.Es}(he:PE X e<|tPt X i Φ m)(hr:PJ X es<|tJs X i Φ ms)(hs:cu (e::es) X.env=eval e X.env::cu es X.env):PJ X (e::es) (tJs X i Φ<|.cons m ms) :=
 (Fg he hr hs).imp λσ H Ī Q ⟨env,G,a,Qm,Em,e,hl,p,w,c⟩=>by subst e;refine⟨env,G,_,Em,p,w,λv G1 H1 k1 g1 w1=>?_⟩;let⟨s,e1,hl1,w2⟩:=fj w1;clear w1;refine⟨s,e1,by lia,_,rfl,?_,env,G1,a++s,Qm,Em,(MU a s).symm,by rw[b8];exact hl1,p.go k1 g1,w2,λt G2 H2 k2=>c t G2 H2<|k1.trans k2⟩;rw[<-MU,Zx,b8];exact Þ hl1 ZP
def J8:∀{xs ys:List O.Val}{n:Nat}{v:O.Val},(O.zipL xs ys)[n]?=fb v->∃x y,xs[n]?=fb x/\ys[n]?=fb y/\v=.tup [x,y]
 |[],_,_,_,h=>by simp[O.zipL]at h
 |_::_,[],_,_,h=>by simp[O.zipL]at h
 |x::xs,y::ys,0,v,h=>by simp[O.zipL]at h;exact⟨x,y,rfl,rfl,h.symm⟩
 |x::xs,y::ys,n+1,v,h=>by let⟨a,b,h1,h2,h3⟩:=J8 (xs:=xs) (ys:=ys) (n:=n) (v:=v) (by simpa[O.zipL]using h);exact⟨a,b,⇑h1,⇑h2,h3⟩
def JS:∀{xs ys:List O.Val}{n:Nat},(O.zipL xs ys).length<=n->xs.length<=n\/ys.length<=n
 |[],_,_,_=>by simp
 |_::_,[],_,_=>by simp
 |x::xs,y::ys,0,h=>by simp[O.zipL]at h
 |x::xs,y::ys,n+1,h=>by have:=JS (xs:=xs) (ys:=ys) (n:=n) (by simpa[O.zipL]using h);simpa using this
def Xw{G:O.Hs}{H:Hp}{p:È}{o:HO}(g:RH i G H)(hp:H p=fc):RH i G<|upd H p o:=g.hid (fH.new hp) λb u e=>fg (by rintro rfl;rw[g.free hp]at e;cases e)
variable {H0:Hp} {a:È} {b:È} {xs:List O.Val} {ys:List O.Val}
def LE:ItOk i H0 (Itz i.K a b) (λg=>O.fx (g a)=fb xs/\O.fx (g b)=fb ys) (O.zipL xs ys) where
 go:=λn G H v _ g e hv=>by let⟨x,y,hx,hy,rfl⟩:=J8 hv;let⟨us,h1,h2⟩:=Zm g e.1;let⟨vs,h3,h4⟩:=Zm g e.2;let⟨x',h5,h6⟩:=h2.get hx;let⟨y',h7,h8⟩:=h4.get hy;refine⟨⟨us,vs,x',y',h1,h3,h5,h7⟩,λw H' ⟨p,e1,hp,e2⟩=>?_⟩;subst e1;have:=e2 us vs x' y' h1 h3 h5 h7;subst this;have k:=fH.new (o:=.tup [x',y']) hp;exact⟨k,Xw g hp,.tup (.inl fh)<|.cons (h6.keep k)<|.cons (h8.keep k) .nil⟩
 stop:=λn G H _ g e hn=>by let⟨us,h1,h2⟩:=Zm g e.1;let⟨vs,h3,h4⟩:=Zm g e.2;exact⟨us,vs,h1,h3,by rw[<-h2.length,<-h4.length];exact JS hn⟩
def GE{us vs:List V}(ha:H0 a=fb (.tup us)\/KT i.K a us)(hb:H0 b=fb (.tup vs)\/KT i.K b vs)(ra:RVs i.K H0 xs us)(rb:RVs i.K H0 ys vs):ItOk i H0 (Ity i.K a b) (λ_=>True) (O.zipL xs ys) where
 go:=λn G H v k g e hv=>by let⟨x,y,hx,hy,rfl⟩:=J8 hv;have h1:gm i.K H a us:=Zj<|ha.imp (k.t _ _) id;have h3:gm i.K H b vs:=Zj<|hb.imp (k.t _ _) id;let⟨x',h5,h6⟩:=(ra.keep k).get hx;let⟨y',h7,h8⟩:=(rb.keep k).get hy;refine⟨⟨us,vs,x',y',h1,h3,h5,h7⟩,λw H' ⟨p,e1,hp,e2⟩=>?_⟩;subst e1;have:=e2 us vs x' y' h1 h3 h5 h7;subst this;have k:=fH.new (o:=.tup [x',y']) hp;exact⟨k,Xw g hp,.tup (.inl fh)<|.cons (h6.keep k)<|.cons (h8.keep k) .nil⟩
 stop:=λn G H k g e hn=>by have h1:gm i.K H a us:=Zj<|ha.imp (k.t _ _) id;have h3:gm i.K H b vs:=Zj<|hb.imp (k.t _ _) id;exact⟨us,vs,h1,h3,by rw[<-ra.length,<-rb.length];exact JS hn⟩
def Le{kk:Nat}{tp p:Pos}{a b:Expr}{ma mb:O.E}(hK:X.K=i.K)(hg:Gl X "zip")(hm:X.mg "zip" = fc)(ha:PE X a<|tE X i Φ ma)(hb:PE X b<|tE X i Φ mb)(hs:Ú [a,b] X.env=(ff,eval a X.env)::Ú [b] X.env)(hs1:Ú [b] X.env=(ff,eval b X.env)::Ú [] X.env) :
  PI X (.Tuple es kk tp) (.Call (.Name "zip" p) [a,b] [] ì) (tIt X i Φ<|.zip ma mb) :=
 (Fb hg hm (ZJ ha (ZJ hb gh hs1) hs) hs<|by rw[hs1];rfl).imp λσ H R ⟨env,G,QI,Em,p,w,c⟩=>by
  refine two p w λv u G1 H1 x y k1 p1 rx ry q=>?_;let⟨⟨st,zs⟩,e1,q2⟩:=fj q;clear q;rw[hK];cases v with
  |tup xs =>
   cases u with
   |tup ys =>
    cases e1;cases rx with
    |tup hp hr =>
    cases ry with
    |tup hq hs=>exact⟨_,_,rfl,.inr ⟨⟨_,Zj hp⟩,⟨_,Zj hq⟩,c _ _ G1 H1 _ k1 p1.hp (GE hp hq hr hs) q2⟩⟩
   |_=>cases e1
  |ref a1 =>
   cases u with
   |ref b1 =>
    cases rx.ref_inv;cases ry.ref_inv;have e1:(O.fx<|G1 a1).bind _=fb (st,zs):=e1;cases z1:O.fx (G1 a1)with
    |none=>rw[z1]at e1;cases e1
    |some xs =>
     rw[z1]at e1;have e1:(O.fx<|G1 b1).map _=fb (st,zs):=e1;cases z2:O.fx (G1 b1)with
     |none=>rw[z2]at e1;cases e1
     |some ys =>rw[z2]at e1;cases e1;let⟨us,h1,_⟩:=Zm p1.hp z1;let⟨vs,h3,_⟩:=Zm p1.hp z2;exact⟨a1,b1,rfl,.inl ⟨⟨us,h1⟩,⟨vs,h3⟩,c _ _ G1 H1 _ k1 p1.hp LE q2⟩⟩
   |_=>cases e1
  |_=>cases e1
abbrev tE0(i:Inf)(Φ:O.Fs)(m:O.E):TE:=λσ H Q=>∃env G Qm,REn i.K H env σ/\RH i G H/\O.wE Φ m env G Qm (λ_ _=>False)/\Cn i H Q Qm
abbrev tT0(i:Inf)(Φ:O.Fs)(m:O.Tt):TT:=λσ H Q=>∃env G Qm,REn i.K H env σ/\RH i G H/\O.wT Φ m env G Qm (λ_ _=>False)/\∀b G' H',fH H H'->RH i G' H'->Qm b G'->Q b H'
variable {H:Hp}
def UL:XOk X i H λ_ _=>False:=λÂ σ H0 s H' a cls s' I f ⟨_,_,_,_,_,_,_,z⟩=>z.elim
variable {e:Expr}
def pe0{m:O.E}(h:PE X e<|tE X i Φ m):PE X e<|tE0 i Φ m:=h.imp λσ H Q ⟨env,G,Qm,r,g,w,c⟩=>⟨env,G,Qm,_,⟨r,g,UL⟩,w,c⟩
def pt0{m:O.Tt}(h:PT X e<|tTt X i Φ m):PT X e<|tT0 i Φ m:=h.imp λσ H Q ⟨env,G,Qm,r,g,w,c⟩=>⟨env,G,Qm,_,⟨r,g,UL⟩,w,c⟩
def _root_.L2.PIfs.imp{es:List Expr}{t t':TT}(h:PIfs X es t)(f:∀σ H Q,t' σ H Q->t σ H Q):PIfs X es t':=λÂ s σ H Q I q=>h Â s σ H Q I (f σ H Q q)
def Pf:PIfs X []<|tT0 i Φ .yes:=pifs_nil.imp λσ H Q ⟨env,G,Qm,r,g,w,c⟩=>by exact c fe G H (fH.refl H) g w
variable {ù:List Nat}
def Fz{K:Frag}{H':Hp}{env:O.Env}{σ:St}{k:Nat}(r:REn K H env σ)(kp:fH H H'):REn K H' (Í k fc++ù.map λj=>(env[j]?).getD fc)<|Í k fc++OY σ ù:=by
 refine⟨by simp[OY],λn u e=>?_⟩;by_cases hn:n<k
 .rw[Č (by rw[á];exact hn),Ŋ,gF hn]at e;cases e
 .rw[đ (by rw[á];lia),á]at e ⊢;generalize n - k=n at e ⊢;simp![ß]at e;cases z:ù[n]? with
  |none=>rw[z]at e;cases e
  |some j =>
   rw[z]at e;simp![Ľ,Ĵ]at e;cases z2:env[j]? with
   |none=>rw[z2]at e;cases e
   |some o =>rw[z2]at e;have e:o=fb u:=e;subst e;let⟨y,h1,h2⟩:=r.get j u z2;exact⟨y,by unfold OY;rw[ß,z];show fb ((σ[j]?).getD fc)=_;rw[h1];rfl,h2.keep kp⟩
abbrev O3(k:Nat):O.Pt->Bool
 |.one j=>gM (j<k)
 |.many js=>js.all λj=>gM (j<k)
 |.nest _ _=>ff
def KO{r:O.Env}:∀{js:List Nat}{vs:List O.Val}{l ŋ:O.Env},(js.all λj=>gM (j<l.length))=fe->O.bindL js vs (l++r)=fb ŋ->∃l',ŋ=l'++r/\l'.length=l.length
 |[],[],l,_,_,e=>by cases e;exact⟨l,rfl,rfl⟩
 |j::js,v::vs,l,_,h,e=>by rw[List.all_cons,bAq,gK]at h;have e:O.bindL js vs ((l++r).set j<|fb v)=_:=e;rw[cU _ _ h.1]at e;let⟨l',h1,h2⟩:=KO (l:=l.set j<|fb v) (by rw[ζ];exact h.2) e;exact⟨l',h1,by rw[h2,ζ]⟩
 |[],_::_,_,_,_,h=>by cases h
 |_::_,[],_,_,_,h=>by cases h
variable {l:O.Env} {r:O.Env}
def DO{p:O.Pt}{G:O.Hs}{v:O.Val}{ŋ:O.Env}(h:O3 l.length p=fe)(e:O.bind p G v (l++r)=fb ŋ):∃l',ŋ=l'++r/\l'.length=l.length:=by
 cases p with
 |one j =>have e:fb ((l++r).set j<|fb v)=fb ŋ:=e;cases e;exact⟨l.set j<|fb v,by rw[cU _ _<|of_decide_eq_true h],ζ⟩
 |many js =>
  cases v with
  |tup vs=>exact KO h e
  |_=>cases e
 |nest j js=>cases h
def REn.pre{K:Frag}{τ:St}(q:REn K H (l++r) τ):REn K H (Í l.length fc++r) τ:=by
 refine⟨by rw[<-q.len];simp,λn u e=>?_⟩;by_cases hn:n<l.length
 .rw[Č (by rw[á];exact hn),Ŋ,gF hn]at e;cases e
 .rw[đ (by rw[á];lia),á]at e;exact q.get n u (by rw[đ<|by lia];exact e)
def UY{k:Nat}{pt:O.Pt}(hk:O3 k pt=fe){mi:O.It}{mt:O.Tt}{me:O.E}:∀σ H Q,tE X i Φ (.comp ù k pt mi mt me) σ H Q->DB (tIt X i Φ mi) k ù (gPt i pt) (tT0 i Φ mt) (tE0 i Φ me) σ H Q:=λσ H Q ⟨env,G,Qm,Em,p,w,c⟩=>by
 refine⟨env,G,_,Em,p,w,λst xs G1 H1 J k1 g1 it w1=>?_⟩;let⟨hl,w1⟩:=w1;generalize hstep:(λ(v:O.Val) (h2:O.Hs) (K:Option O.Val->O.Hs->Prop) (X2:O.XQ)=>O.go (O.bind pt h2 v<|Í k fc++ù.map λj=>(env[j]?).getD fc) λŋ =>
       O.wT Φ mt ŋ h2 (λk h3=>if k=fe then O.wE Φ me ŋ h3 (λu h4=>K (fb u) h4) X2 else K fc h3) X2)=step at w1
 refine⟨λn m ys τ H'=>n+m=xs.length/\ys.length<=n/\REn i.K H' (Í k fc++ù.map λj=>(env[j]?).getD fc) τ/\∃Ī G',fH H1 H'/\RH i G' H'/\RVs i.K H' Ī ys/\O.wComp st step (xs.drop n) Ī G' (λys h5=>O.new h5 (.lst ys) Qm) (λ_ _=>False),⟨xs.length,by lia,by simp,Fz p.en k1,[],G1,fH.refl _,g1,.nil,⇑w1⟩,?_⟩;rintro n m ys τ H' ⟨hnm,hly,en2,Ī,G',k2,g2,r2,w2⟩;refine⟨å (Ë (Þ hly<|by lia) hl) ZP,?_⟩;by_cases hn:n<xs.length
 .right;have hd:xs.drop n=xs[n]::xs.drop (n+1):=ľ hn;rw[hd]at w2;let⟨s2,w2⟩:=w2;have hv:xs[n]?=fb xs[n]:=Ù hn;let⟨a1,a2⟩:=it.go n G' H' xs[n] k2 g2 s2 hv;refine⟨a1,λys3 τ3 H3=>ys3.length<=n+1/\REn i.K H3 (Í k fc++ù.map λj=>(env[j]?).getD fc) τ3/\∃acc3 G3,fH H1 H3/\RH i G3 H3/\RVs i.K H3 acc3 ys3/\O.wComp st step (xs.drop<|n+1) acc3 G3 (λys h5=>O.new h5 (.lst ys) Qm) (λ_ _=>False),λys3 τ3 H3 h=>⟨m - 1,by lia,by lia,h.1,h.2⟩,λx H3 hy=>?_⟩;let⟨k3,g3,r3⟩:=a2 x H3 hy;rw[<-hstep]at w2;let⟨cP,e4,w4⟩:=fj w2;rw[hstep]at w4;let⟨l',e5,h5⟩:=DO (l:=Í k fc) (by rw[á];exact hk) e4;rw[á]at h5;refine⟨xs[n],_,G',cP,r3,g3,en2.keep k3,e4,λτ4 en4=>?_⟩;have aQ:REn i.K H3 (Í k fc++ù.map λj=>(env[j]?).getD fc) τ4:=by
   rw[e5]at en4;have:=en4.pre;rw[h5]at this;exact this
  refine⟨_,G',_,en4,g3,w4,λd G5 H5 k5 g5 q5=>?_⟩;have kk:=(k2.trans k3).trans k5;cases d with
  |true =>refine⟨_,G5,_,en4.keep k5,g5,⇑q5,λu G6 H6 y k6 g6 r6 q6=>?_⟩;exact⟨⇑hly,(aQ.keep k5).keep k6,_,G6,kk.trans k6,g6,((((r2.keep k3).keep k5).keep k6).append<|.cons r6 .nil),q6⟩
  |false =>rw[gG ý]at q5;change if ff=fe then _ else _;rw[gG ý];have q5:O.wComp st step (xs.drop<|n+1) (Ī++[]) G5 (λys h5=>O.new h5 (.lst ys) Qm) λ_ _=>False:=q5;rw[í]at q5;exact⟨by lia,aQ.keep k5,Ī,G5,kk,g5,(r2.keep k3).keep k5,q5⟩
 .left;have hd:xs.drop n=[]:=Ŭ (by lia);rw[hd]at w2;refine⟨it.stop n G' H' k2 g2 w2.1 (by lia),?_⟩;exact ZU g2 w2.2 ((c.go k1).go k2) λq hq=>⟨_,fh,r2.keep<|fH.new hq⟩
abbrev MY(i:Inf)(m:O.Bm)(r:V->List V->Hp->VK->Prop):Prop:=∀(v:O.Val) (vs:List O.Val) (G:O.Hs) (H:Hp) (x:V) (xs:List V) (t:O.Val×O.Hs) (Q:VK) (Qm:O.Q1),
 RH i G H->RV i.K H v x->RVs i.K H vs xs->O.bmV G m v vs=fb t->Qm t.1 t.2->Cn i H Q Qm->r x xs H Q
abbrev Gz(i:Inf)(m:O.Bm)(T:String):Prop:=∀(v:O.Val) (G:O.Hs) (H:Hp) (x:V),RH i G H->RV i.K H v x->O.bmTy G m v=fe->tyV i.K T x H
variable {o:Expr} {name:Str} {ń:Pos} {Ō:Pos} {T:String} {id:String} {r:V->List V->Hp->VK->Prop} {m:O.Bm} {mo:O.E}
def AA{e:Expr}{es:List Expr}{ms:O.Es}{n:Nat}(hK:X.K=i.K)(pa:cq T)(slot:Slot T name id)(hty:typeOf (.builtin id)=pure (.type "method_descriptor"))(mt:MtR X id r)(hT:Gz i m T)(hr:MY i m r)
  (ho:PE X o<|tE X i Φ mo) (ha:PA X (e::es)<|tAr X i Φ ms n) (ϕ:Ė o name X.env (eval o X.env)=eval o X.env)
  (aA:((ě Ō<|Ú (e::es) X.env).all (λx=>!x.1)&&(Ź Ō<|ň [] X.env).all (λx=>x.1.isSome)&&gM ((e::es).length+([]:List aZ).length+(if([]:List aZ).isEmpty then 0 else 1)<30))=fe)
  (ϖ:(ń.endLine==Ō.line)=fe) (hs:Ú (e::es) X.env=(ff,eval e X.env)::Ú es X.env) (cK:(ě Ō<|Ú es X.env).any (·.1)=ff) :
  PE X (.Call (.Attribute o name ń) (e::es) [] Ō) (tE X i Φ<|.bm m mo ms) :=
 (QR pa slot hty mt ho ha ϕ aA ϖ hs cK).imp λσ H Q ⟨env,G,Qm,Em,p,w,c⟩=>by
  refine one p w λv G1 H1 x k1 p1 rv q=>⟨by rw[hK];exact hT v G1 H1 x p1.hp rv q.1,env,G1,_,Em,p1,q.2,λvs G2 H2 xs k2 g2 r2 _ w2=>?_⟩
  let⟨t,e,w3⟩:=fj w2;exact hr v vs G2 H2 x xs t Q Qm g2 (rv.keep k2) r2 e w3<|(c.go k1).go k2
def Qx(hK:X.K=i.K)(pa:cq T)(slot:Slot T name id)(hty:typeOf (.builtin id)=pure (.type "method_descriptor"))(mt:MtR X id r)(hT:Gz i m T)(hr:MY i m r)
  (ho:PE X o<|tE X i Φ mo) (ϕ:Ė o name X.env (eval o X.env)=eval o X.env) (ϖ:(ń.endLine==Ō.line)=fe) :
  PE X (.Call (.Attribute o name ń) [] [] Ō) (tE X i Φ<|.bm m mo .nil) :=
 (LY pa slot hty mt ho ϕ ϖ).imp λσ H Q ⟨env,G,Qm,Em,p,w,c⟩=>by
  refine one p w λv G1 H1 x k1 p1 rv q=>⟨by rw[hK];exact hT v G1 H1 x p1.hp rv q.1,?_⟩
  have w2:=q.2;let⟨t,e,w3⟩:=fj w2;exact hr v [] G1 H1 x [] t Q Qm p1.hp rv .nil e w3<|c.go k1
def O1{o:Option O.Ob}(h:O.isDct o=fe):(∃xs,o=fb (.dct xs))\/∃xs,o=fb (.dtp xs):=by
 cases o with
 |none=>cases h
 |some o=>cases o with
  |dct xs=>exact .inl ⟨xs,rfl⟩
  |dtp xs=>exact .inr ⟨xs,rfl⟩
  |_=>cases h
def F5(hm:m.ty=.l):Gz i m "list":=λv G H x g r h=>by
 unfold O.bmTy at h;rw[hm]at h;cases v with
 |ref a =>cases r.ref_inv;let⟨xs,e⟩:=Uh (show O.isLst (G a)=fe from h);let⟨vs,h1,_⟩:=g a _ e;exact .inl ⟨rfl,vs,gk.of h1⟩
 |_=>cases h
def Pv(hm:m.ty=.d):Gz i m "dict":=λv G H x g r h=>by
 unfold O.bmTy at h;rw[hm]at h;cases v with
 |ref a =>
  cases r.ref_inv;rcases O1 (show O.isDct (G a)=fe from h)with⟨xs,e⟩|⟨xs,e⟩
  .obtain⟨vs,h1,_⟩:=g a _ e;exact .inr<|.inr<|.inl ⟨rfl,.inl ⟨vs,h1⟩⟩
  .obtain⟨vs,h1,_⟩:=g a _ e;exact .inr<|.inr<|.inl ⟨rfl,.inr ⟨vs,h1⟩⟩
 |_=>cases h
variable {G:O.Hs}
def Jg{v:O.Val}{f:O.Ad->List O.Val->Option (O.Val×O.Hs)}{t:O.Val×O.Hs}(e:O.bmL G v f=fb t):∃a xs,v=.ref a/\G a=fb (.lst xs)/\f a xs=fb t:=by
 cases v with
 |ref a=>let⟨xs,h1,h2⟩:=Cj e;exact⟨a,xs,rfl,h1,h2⟩
 |_=>cases e
variable {vs:List O.Val} {α:Type} {a:α}
def R3{o:Option α}(e:(match vs with|[]=>o|_=>fc)=fb a):vs=[]/\o=fb a:=by
 cases vs with
 |nil=>exact⟨rfl,e⟩
 |cons _ _=>cases e
def IU{f:O.Val->Option α}(e:(match vs with|[v]=>f v|_=>fc)=fb a):∃v,vs=[v]/\f v=fb a:=by
 cases vs with
 |nil=>cases e
 |cons v vs=>cases vs with
  |nil=>exact⟨v,rfl,e⟩
  |cons _ _=>cases e
def HY:MY i .append UD:=λv vs G H x xs t Q Qm g rx rs e q c=>by let⟨a,ys,rfl,e4,e3⟩:=Jg e;let⟨u,rfl,e3⟩:=IU e3;let⟨hl,e3⟩:=Zp e3;cases e3;cases rx.ref_inv;let⟨y,rfl,ry⟩:=rs.inv1;let⟨us,h2,r2⟩:=g a _ e4;let⟨k3,g3⟩:=Wk (xs:=ys) g h2 (ys++[u]) (us++[y])<|r2.app1 ry;exact⟨a,us,y,rfl,rfl,h2,by rw[<-r2.length];exact å hl ZP,c _ _ _ _ k3 g3 .non q⟩
def LO:MY i .extend U2:=λv vs G H x xs t Q Qm g rx rs e q c=>by
 let⟨a,ys,rfl,e4,e3⟩:=Jg e;unfold O.bmExtend at e3;split at e3
 .rename_i b;let⟨zs,e5,e3⟩:=î.mp e3;let⟨hl,e3⟩:=Zp e3;cases e3;cases rx.ref_inv;let⟨y,rfl,ry⟩:=rs.inv1;cases ry.ref_inv;let⟨us,h2,r2⟩:=g a _ e4;let⟨ws,h3,r3⟩:=g b _<|K1 e5;let⟨k3,g3⟩:=Wk (xs:=ys) g h2 (ys++zs) (us++ws)<|r2.append r3;exact⟨a,b,us,ws,rfl,rfl,h2,h3,by rw[<-r2.length,<-r3.length];exact Þ hl ZP,c _ _ _ _ k3 g3 .non q⟩
 .cases e3
def F4:MY i .pop PQ:=λv vs G H x xs t Q Qm g rx rs e q c=>by let⟨a,ys,rfl,e4,e3⟩:=Jg e;let⟨rfl,e3⟩:=R3 e3;let⟨yv,z,rfl⟩:=Ò.mp e3;cases rx.ref_inv;cases rs;let⟨us,h2,r2⟩:=g a _ e4;let⟨xv,hx,rv⟩:=r2.get z;let⟨k3,g3⟩:=Wk (xs:=ys) g h2 ys.dropLast us.dropLast r2.dropLast;exact⟨a,us,xv,rfl,rfl,h2,by rw[<-r2.length];exact hx,c _ _ _ _ k3 g3 (rv.keep k3) q⟩
def G0:MY i .popAt BC:=λv vs G H x xs t Q Qm g rx rs e q c=>by
 let⟨a,ys,rfl,e4,e3⟩:=Jg e;unfold O.bmPopAt at e3;split at e3
 .rename_i n;let⟨hn,e3⟩:=Zp e3;let⟨k,z,e3⟩:=î.mp e3;let⟨yv,z2,rfl⟩:=Ò.mp e3;cases rx.ref_inv;let⟨y,rfl,ry⟩:=rs.inv1;cases ry.int_inv;let⟨us,h2,r2⟩:=g a _ e4;let⟨xv,hx,rv⟩:=r2.get z2;rw[Mm,r2.length]at z;let⟨s1,s2,s3,s4⟩:=Mo z;let⟨k3,g3⟩:=Wk (xs:=ys) g h2 (ys.eraseIdx k) (us.eraseIdx k)<|r2.eraseIdx k;exact⟨a,us,n,k,xv,rfl,rfl,h2,by lia,by lia,s1,hx,c _ _ _ _ k3 g3 (rv.keep k3) q⟩
 .cases e3
def MP{v:O.Val}{f:O.Ad->List (O.Val×O.Val)->Option (O.Val×O.Hs)}{t:O.Val×O.Hs}(e:O.bmD G v f=fb t):∃a kvs,v=.ref a/\G a=fb (.dct kvs)/\f a kvs=fb t:=by
 cases v with
 |ref a =>
  let⟨kvs,h1,h2⟩:=î.mp (show(O.gx<|G a).bind (f a)=fb t from e);refine⟨a,kvs,rfl,?_,h2⟩;cases z:G a with
  |none=>rw[z]at h1;cases h1
  |some o =>
   rw[z]at h1;cases o with
   |dct ys=>cases h1;rfl
   |_=>cases h1
 |_=>cases e
def SD{f:O.Val->O.Val->Option α}(e:(match vs with|[v,u]=>f v u|_=>fc)=fb a):∃v u,vs=[v,u]/\f v u=fb a:=by
 cases vs with
 |nil=>cases e
 |cons v vs=>cases vs with
  |nil=>cases e
  |cons u us=>cases us with
   |nil=>exact⟨v,u,rfl,e⟩
   |cons _ _=>cases e
abbrev Dx:V->List V->Hp->VK->Prop:=λx vs H Q=>∃a y o,x=.ref a/\vs=[y]/\DGet H a y o/\Q (o.getD .non) H
def Dv(hu:X.A.units+1<Ħ):MtR X "dict.get" Dx:=by intro Â s σ H x vs v us Q I rx rv h;let⟨a,y,o,rfl,rfl,d,q⟩:=h;cases rx;let⟨u,rfl,ru⟩:=rv.one;exact Li hu I d ru λw' s' I' bd=>⟨_,_,I',bd,q⟩
abbrev Cl:V->List V->Hp->VK->Prop:=λx vs H Q=>∃a kvs k v more,x=.ref a/\vs=kV k::more/\(more=[]\/∃z,more=[z])/\H a=fb (.dK kvs)/\YC kvs k=fb v/\Q v (upd H a<|.dK<|fL kvs k)
def mt_dpop:MtR X "dict.pop" Cl:=by
 intro Â s σ H x vs v us Q I rx rv h;let⟨a,kvs,k,y,more,rfl,rfl,hm,hH,l,q⟩:=h;cases rx;rcases hm with rfl|⟨z,rfl⟩
 .obtain⟨u,rfl,ru⟩:=rv.one;exact Hx I hH ru l (.inl rfl) λw' s' I' bd=>⟨_,_,I',bd,q⟩
 .obtain⟨u,t,rfl,ru,rt⟩:=rv.two;exact Hx I hH ru l (.inr ⟨_,rfl⟩) λw' s' I' bd=>⟨_,_,I',bd,q⟩
abbrev CQ:V->List V->Hp->VK->Prop:=λx vs H Q=>∃a kvs k z,x=.ref a/\vs=[kV k,z]/\H a=fb (.dK kvs)/\YC kvs k=fc/\Q z H
def C3:MtR X "dict.pop" CQ:=by intro Â s σ H x vs v us Q I rx rv h;let⟨a,kvs,k,z,rfl,rfl,hH,l,q⟩:=h;cases rx;let⟨u,t,rfl,ru,rt⟩:=rv.two;exact LI I hH ru l λs' I'=>⟨_,_,I',rt,q⟩
def PH:MY i .dget Dx:=λv vs G H x xs t Q Qm g rx rs e q c=>by
 let⟨a,kvs,rfl,e4,e3⟩:=MP e;let⟨k,rfl,e3⟩:=IU e3;let⟨hk,e3⟩:=Zp e3;cases e3;cases rx.ref_inv;let⟨y,rfl,ry⟩:=rs.inv1;let⟨ps,h2,r2⟩:=g a _ e4;let⟨d,kr,rfl⟩:=fz hk ry;refine⟨a,_,_,rfl,rfl,DGet.k (k:=d) h2,?_⟩;let⟨l1,l2⟩:=r2.look kr;cases z:O.fI kvs k with
 |none=>rw[l2 z];rw[z]at q;exact c _ _ _ _ (fH.refl H) g .non q
 |some u=>let⟨x,hx,rv⟩:=l1 u z;rw[hx];rw[z]at q;exact c _ _ _ _ (fH.refl H) g rv q
def Lc:MY i .dpop Cl:=λv vs G H x xs t Q Qm g rx rs e q c=>by let⟨a,kvs,rfl,e4,e3⟩:=MP e;let⟨k,rfl,e3⟩:=IU e3;let⟨hk,e3⟩:=Zp e3;let⟨u,z,rfl⟩:=Ò.mp e3;cases rx.ref_inv;let⟨y,rfl,ry⟩:=rs.inv1;let⟨ps,h2,r2⟩:=g a _ e4;let⟨d,kr,rfl⟩:=fz hk ry;let⟨x,hx,rv⟩:=(r2.look kr).1 u z;let⟨k3,g3⟩:=M3 (kvs:=kvs) g h2<|r2.drop kr;exact⟨a,ps,d,x,[],rfl,rfl,.inl rfl,h2,hx,c _ _ _ _ k3 g3 (rv.keep k3) q⟩
def Ua{kvs:List (O.Val×O.Val)}{k:O.Val}(h:O.fI kvs k=fc):O.fL kvs k=kvs:=by
 unfold O.fL;rw[dr];intro p hp;have h2:kvs.find? (λp=>p.1==k)=fc:=by unfold O.fI at h;exact Option.map_eq_none_iff.mp h
 simpa using List.find?_eq_none.mp h2 p hp
def FX:MY i .dpopD λx vs H Q=>Cl x vs H Q\/CQ x vs H Q:=λv vs G H x xs t Q Qm g rx rs e q c=>by
 let⟨a,kvs,rfl,e4,e3⟩:=MP e;let⟨k,dv,rfl,e3⟩:=SD e3;let⟨hk,e3⟩:=Zp e3;cases e3;cases rx.ref_inv;let⟨y,z,rfl,ry,rz⟩:=rs.inv2;let⟨ps,h2,r2⟩:=g a _ e4;let⟨d,kr,rfl⟩:=fz hk ry;let⟨l1,l2⟩:=r2.look kr;cases z:O.fI kvs k with
 |none =>
  refine .inr ⟨a,ps,d,_,rfl,rfl,h2,l2 z,?_⟩;rw[z,Ua z]at q;have e:O.upd G a (.dct kvs)=G:=by
   funext b;by_cases hb:b=a
   .subst hb;rw[O.fh,e4]
   .rw[O.fg hb]
  rw[e]at q;exact c _ _ _ _ (fH.refl H) g rz q
 |some u =>let⟨x,hx,rv⟩:=l1 u z;let⟨k3,g3⟩:=M3 (kvs:=kvs) g h2<|r2.drop kr;rw[z]at q;exact .inl ⟨a,ps,d,x,_,rfl,rfl,.inr ⟨_,rfl⟩,h2,hx,c _ _ _ _ k3 g3 (rv.keep k3) q⟩
def RFs.look{K:Frag}{H:Hp}{f:String}:∀{fs:List (String×O.Val)}{ps:List (Str×V)},RFs K H fs ps->
  (∀v,fs.lookup f=fb v->∃x,ps.lookup (gN f)=fb x/\RV K H v x)/\(fs.lookup f=fc->ps.lookup (gN f)=fc)
 |_,_,.nil=>⟨λv e=>(by cases e),λ_=>rfl⟩
 |_,_,.cons (f:=g) (v:=u) (x:=y) r t=>by
  have ih:=RFs.look (f:=f) t;rw[õ,õ];by_cases e:f=g
  .subst e;rw[beq_self_eq_true,beq_self_eq_true];exact⟨λv z=>(by cases z;exact⟨y,rfl,r⟩),λz=>(by cases z)⟩
  .rw[show(f==g)=ff by simpa using e,show(gN f==gN g)=ff by rw[beq_eq_false_iff_ne];exact λz=>e<|ofS_inj.mp z];exact ih
def RFs.put{K:Frag}{H:Hp}{f:String}{v:O.Val}{x:V}(q:RV K H v x):∀{fs:List (String×O.Val)}{ps:List (Str×V)},RFs K H fs ps->RFs K H (O.fA fs f v) (L2.fA (gN f) x ps)
 |_,_,.nil=>.cons q .nil
 |_,_,.cons (f:=g) (v:=u) (x:=y) r t=>by
  unfold O.fA L2.fA;by_cases e:g=f
  .subst e;rw[gF rfl,gF rfl];exact .cons q t
  .rw[gG e,gG λz=>e<|ofS_inj.mp z];exact .cons r<|RFs.put q t
def RFs.length{K:Frag}{H:Hp}:∀{fs:List (String×O.Val)}{ps:List (Str×V)},RFs K H fs ps->fs.length=ps.length
 |_,_,.nil=>rfl
 |_,_,.cons _ t=>by rw[Ð,Ð,RFs.length t]
structure FldOk(i:Inf)(f:String):Prop where
 no:∀C c,i.cl C c->NoAttr i.K c (gN f)
structure IC(K:Frag)(C:È):Prop where
 ha:PySem.W.findIn K (.ref C) "__class__" = fb (fb<|.builtin "object.__class__")
 hn:PySem.W.specialIn K (.builtin "object.__class__") "__get__" = fb (fb<|.builtin "getset_descriptor.__get__")
 htk:PySem.W.takesIn K (.builtin "object.__class__")=fb fe
 hm:PySem.W.mroIn K C (.type "object")=fb fe
structure ClsA(i:Inf):Prop where
 cls:∀C c,i.ins C=fe->i.cl C c->Cls i.K c
 ic:∀C c,i.cl C c->IC i.K c
 un:∀C a b,i.cl C a->i.cl C b->a=b
def JA{o:Option O.Ob}{p:String×List (String×O.Val)}(h:O.insOf o=fb p):o=fb (.ins p.1 p.2):=by
 cases o with
 |none=>cases h
 |some o=>cases o with
  |ins C fs=>cases h;rfl
  |_=>cases h
variable {G:O.Hs} {f:String}
def KM{v u:O.Val}(h:O.fX G v f=fb u):∃a C fs,v=.ref a/\G a=fb (.ins C fs)/\fs.lookup f=fb u:=by let⟨a,h1,h⟩:=î.mp h;let⟨p,h2,h3⟩:=î.mp h;exact⟨a,p.1,p.2,XR h1,JA h2,h3⟩
variable {o:Expr} {mo:O.E} {ì:Pos}
def Q6(hK:X.K=i.K)(A:ClsA i)(F:FldOk i f)(ho:PE X o<|tE X i Φ mo)(hb:Ė o (gN f) X.env (eval o X.env)=eval o X.env) :
  PE X (.Attribute o (gN f) ì) (tE X i Φ<|.fld mo f) :=
 (IG ho hb).imp λσ H Q ⟨env,G,Qm,Em,p,w,c⟩=>by
  exact one p w λv G1 H1 x k1 p1 r q=>by let⟨u,e,q2⟩:=fj q;clear q;let⟨a,C,fs,rfl,e2,e3⟩:=KM e;cases r.ref_inv;let⟨c',dx,ps,hi,hc,h1,rf⟩:=p1.hp a _ e2;let⟨y,l,ry⟩:=rf.look.1 u e3;exact⟨a,c',dx,ps,y,rfl,h1,by rw[hK];exact A.cls _ _ hi hc,by rw[hK];exact F.no _ _ hc,l,c _ _ _ _ k1 p1.hp ry q2⟩
variable {C:String}
def Uy{H:Hp}{a:È}{c' dx:È}{fs:List (String×O.Val)}{ps ps2:List (Str×V)}(g:RH i G H)(hi:i.ins C=fe)(hc:i.cl C c')(h:H a=fb (.ins c' dx ps2))(r:RFs i.K H fs ps) :
  fH H (upd H a<|.ins c' dx ps)/\RH i (O.upd G a<|.ins C fs) (upd H a<|.ins c' dx ps):=by
 have k:fH H<|upd H a<|.ins c' dx ps:=fH.put (λxs e=>by rw[h]at e;cases e) λp u e=>by rw[h]at e;cases e
 exact⟨k,g.put k ⟨c',dx,ps,hi,hc,fh,r.keep k⟩⟩
def JU{G':O.Hs}{o v:O.Val}(h:O.fY G o f v=fb G'):∃a C fs,o=.ref a/\G a=fb (.ins C fs)/\fs.length<900/\G'=O.upd G a (.ins C<|O.fA fs f v):=by
 cases o with
 |ref a =>
  unfold O.fY at h;dsimp only at h;split at h
  .rename_i C fs e;let⟨hl,h⟩:=Zp h;cases h;exact⟨a,C,fs,rfl,e,hl,rfl⟩
  .cases h
 |_=>cases h
variable {e:Expr}
def Az{m:O.E}{bD:Pos}(hK:X.K=i.K)(A:ClsA i)(F:FldOk i f)(ho:PE X o<|tE X i Φ mo)(he:PE X e<|tE X i Φ m)(hs:ų e (fb<|.Attribute o (gN f) bD) ì.line X.env=pure ff) :
  PS X (.Assign [.Attribute o (gN f) bD] e ì) (tSt X i Φ<|.setFld mo f m) :=
 (Iv ho he hs).imp λD σ H ⟨env,G,N,R,B,C,Xe,p,w,c⟩=>by refine one p.pre w λv G1 H1 x k1 p1 r q=>?_;refine one p1 q λu G2 H2 y k2 p2 ry q=>?_;let⟨G3,e3,q2⟩:=fj q;clear q;let⟨a,D',fs,rfl,e2,hl,rfl⟩:=JU e3;cases ry.ref_inv;let⟨c',dx,ps,hi,hc,h1,rf⟩:=p2.hp a _ e2;let⟨k3,g3⟩:=Uy p2.hp hi hc h1<|rf.put (f:=f)<|r.keep k2;refine⟨a,c',dx,ps,rfl,h1,by rw[hK];exact A.cls _ _ hi hc,by rw[hK];exact F.no _ _ hc,by rw[<-rf.length];lia,?_⟩;have k:=(k1.trans k2).trans k3;exact c.nx _ _ _ _ k g3 (p.en.keep k) q2
def NZ{op:O.Bop}{x y z:O.Val}(h:O.augV op x y=fb z):∃a b,x=.int a/\y=.int b/\((op=.add/\z=.int (a+b))\/(op=.sub/\z=.int (a - b))):=by
 unfold O.augV at h;split at h
 .cases h;exact⟨_,_,rfl,rfl,.inl ⟨rfl,rfl⟩⟩
 .cases h;exact⟨_,_,rfl,rfl,.inr ⟨rfl,rfl⟩⟩
 .cases h
abbrev rAS(op:O.Bop):V->V->Hp->VK->Prop:=λx y H Q=>∃a b,x=.int a/\y=.int b/\((op=.add/\Q (.int<|a+b) H)\/(op=.sub/\Q (.int<|a - b) H))
def AV{op:ϗ}{bop:O.Bop}{n:Int}{k:Nat}{cH Ō:Pos}(hK:X.K=i.K)(A:ClsA i)(F:FldOk i f)(hop:DR X op<|rAS bop)(ho:PE X o<|tE X i Φ mo) :
  PS X (.AugAssign (.Attribute o (gN f) cH) op (.Constant (.int n) k Ō) ì) (tSt X i Φ<|.augFld mo f bop n) :=
 (AZ ho OD hop).imp λD σ H ⟨env,G,N,R,B,C,Xe,p,w,c⟩=>by
  refine one p.pre w λv G1 H1 x k1 p1 r q=>?_;let⟨u,e1,q2⟩:=fj q;clear q;let⟨a,C',fs,rfl,e2,e3⟩:=KM e1;cases r.ref_inv;let⟨c',dx,ps,hi,hc,h1,rf⟩:=p1.hp a _ e2;let⟨y,l,ry⟩:=rf.look.1 u e3;refine⟨a,c',dx,ps,y,rfl,h1,by rw[hK];exact A.cls _ _ hi hc,by rw[hK];exact F.no _ _ hc,l,?_⟩;let⟨z,e4,q3⟩:=fj q2;clear q2;let⟨G3,e5,q4⟩:=fj q3;clear q3;let⟨n1,n2,rfl,e0,hz⟩:=NZ e4;cases e0;cases ry.int_inv;let⟨a2,C2,fs2,e6,e7,hl,rfl⟩:=JU e5;cases e6;rw[e2]at e7;cases e7;have fin:∀n:Int,z=.int n->∃dx' fs',H1 a=fb (.ins c' dx' fs')/\fs'.length<1000/\D.nx σ (upd H1 a<|.ins c' dx'<|L2.fA (gN f) (.int n) fs'):=λn hn=>by subst hn;let⟨k3,g3⟩:=Uy p1.hp hi hc h1<|rf.put (f:=f) (x:=.int n)<|.int n;refine⟨dx,ps,h1,by rw[<-rf.length];lia,?_⟩;exact c.nx _ _ _ _ (k1.trans k3) g3 (p.en.keep<|k1.trans k3) q4
  rcases hz with⟨e,hz⟩|⟨e,hz⟩
  .exact⟨n1,n,rfl,rfl,.inl ⟨e,fin _ hz⟩⟩
  .exact⟨n1,n,rfl,rfl,.inr ⟨e,fin _ hz⟩⟩
abbrev Dfm(pr:è)(w:ā)(mg:Str->Option Ä)(base:Ć)(i:Inf)(P:O.Pg)(n:Nat)(f:String)(fa:È):Prop :=
 ∃fd ps,fO pr w i.K mg base (CX1 pr w) (2*n) fa fd ps (spF i P n f)/\Binds i.K fd ps []
variable {P:O.Pg} {n:Nat} {es:List Expr} {ms:O.Es} {p:Pos}
def LU{k:Nat}{Cn:String}{C f:È}(hK:X.K=i.K)(hi:i.ins Cn=fe)(hc:i.cl Cn C)(M:Mk i.K C f)(D:Dfm X.prog X.w X.mg X.base i P n (Cn ++ ".__init__") f)(hr:fN (2*n+1) X.A)
  (hg:Gl X<|gN Cn) (hm:X.mg (gN Cn)=fb (.ref C)) (cI:(gN Cn==("__debug__" : Str))=ff)
  (ha:PA X (e::es)<|tAr X i (O.wF P n) ms k) (he:Ú (e::es) X.env=(ff,eval e X.env)::Ú es X.env) (hpl:(ě ì<|Ú es X.env).any (·.1)=ff) :
  PE X (.Call (.Name (gN Cn) p) (e::es) [] ì) (tE X i (O.wF P n)<|.make Cn ms):=by
 let⟨fd,ps,F,hb⟩:=D;rw[<-hK]at F hb M;k_upd;let⟨env,G,Qm,Em,pr,w,c⟩:=h;refine Fp (E:=XK1 i H Em) M F hr hg hm hb .nil (XW.passes pr.xo) ha cI he hpl Â s σ H Q I ⟨env,G,_,Em,pr,w,λvs G1 H1 xs k1 g1 r1 hl w1 x dx hx hd Ũ=>?_⟩;have ka:fH H1<|upd H1 dx<|.own x:=fH.new hd;have hx2:upd H1 dx (.own x) x=fc:=by rw[fg λz=>Ũ z.symm];exact hx
 have kb:fH (upd H1 dx<|.own x)<|upd (upd H1 dx<|.own x) x<|.ins C dx []:=fH.new hx2;have g2:RH i G1<|upd H1 dx<|.own x:=Xw g1 hd;have g3:RH i (O.upd G1 x<|.ins Cn [])<|upd (upd H1 dx<|.own x) x<|.ins C dx []:=g2.put kb ⟨C,dx,[],hi,hc,fh,.nil⟩;have k:=ka.trans kb;refine⟨.ref x::vs,_,_,Em,.cons (.ref x) (by rw[í];exact r1.keep k),g3,w1 x<|g1.free hx,?_,λcls d H' h=>(h.go k).go k1⟩;intro v G' H' y k' g' rv ⟨hv,hq⟩;subst hv;exact⟨rv.non_inv,c _ G' H' _ ((k1.trans k).trans k') g' (.ref x) hq⟩
variable {m:String}
def KY{v:O.Val}(h:O.clsV G v m=fb C):∃a fs,v=.ref a/\G a=fb (.ins C fs)/\fs.lookup m=fc:=by
 let⟨a,h1,h⟩:=î.mp h;let⟨p,h2,h3⟩:=î.mp h;have e:=JA h2;by_cases z:(p.2.lookup m).isNone=fe
 .rw[gF z]at h3;cases h3;exact⟨a,p.2,XR h1,e,a9.mp z⟩
 .rw[gG z]at h3;cases h3
variable {ń:Pos} {pl:Sem Bool}
def Lf{k:Nat}{Cn:String}{C f:È}(hK:X.K=i.K)(hfn:∀c,i.cl Cn c->c=C)(A:Cls i.K C)(M:Meth i.K C (gN m) f)(D:Dfm X.prog X.w X.mg X.base i P n (Cn ++ "." ++ m) f)(hr:fN (2*n) X.A)
  (ho:PE X o<|tE X i (O.wF P n) mo) (ha:PA X (e::es)<|tAr X i (O.wF P n) ms k) (he:Ú (e::es) X.env=(ff,eval e X.env)::Ú es X.env) (hpl:(ě ì<|Ú es X.env).any (·.1)=ff)
  (ht:eval (.Call (.Attribute o (gN m) ń) (e::es) [] ì) X.env=(do
    let ov<-eval o X.env
    ώ ń.atName
    let (f,first)<-Ņ [ov] (Ϙ ov (gN m) pl)
    cj ì f first (ě ì<|Ú (e::es) X.env) (Ź ì<|ň [] X.env))) :
  PE X (.Call (.Attribute o (gN m) ń) (e::es) [] ì) (tE X i (O.wF P n)<|.meth Cn m mo ms):=by
 let⟨fd,ps,F,hb⟩:=D;rw[<-hK]at F hb M A;k_upd;let⟨env,G,Qm,Em,pr,w,c⟩:=h;refine Fm (E:=XK1 i H Em) ho A M F hr hb .nil (XW.passes pr.xo) ha he hpl ht Â s σ H Q I<|one pr w λv G1 H1 x k1 p1 rv q=>?_;let⟨hq,w1⟩:=q;let⟨a,fs,rfl,e2,e3⟩:=KY hq;cases rv.ref_inv;let⟨c',dx,cO,hi,hc,h1,rf⟩:=p1.hp a _ e2;cases hfn c' hc;refine⟨a,dx,cO,rfl,h1,rf.look.2 e3,env,G1,_,Em,p1,w1,λvs G2 H2 xs k2 g2 r2 hl w2=>?_⟩;exact⟨.ref a::vs,G2,Qm,Em,.cons (.ref a) (by rw[í];exact r2),g2,w2,(c.go k1).go k2,λcls d H' h=>(h.go k2).go k1⟩
def FN{Cn:String}{C f:È}(hK:X.K=i.K)(hfn:∀c,i.cl Cn c->c=C)(A:Cls i.K C)(M:Meth i.K C (gN m) f)(D:Dfm X.prog X.w X.mg X.base i P n (Cn ++ "." ++ m) f)(hr:fN (2*n) X.A)
  (ho:PE X o<|tE X i (O.wF P n) mo)
  (ht:eval (.Call (.Attribute o (gN m) ń) [] [] ì) X.env=(do
    let ov<-eval o X.env
    ώ ń.atName
    let (f,first)<-Ņ [ov] (Ϙ ov (gN m) pl)
    cj ì f first (ě ì<|Ú [] X.env) (Ź ì<|ň [] X.env))) :
  PE X (.Call (.Attribute o (gN m) ń) [] [] ì) (tE X i (O.wF P n)<|.meth Cn m mo .nil):=by
 let⟨fd,ps,F,hb⟩:=D;rw[<-hK]at F hb M A;k_upd;let⟨env,G,Qm,Em,pr,w,c⟩:=h;refine D8 (E:=XK1 i H Em) ho A M F hr hb .nil (XW.passes pr.xo) ht Â s σ H Q I<|one pr w λv G1 H1 x k1 p1 rv q=>?_;let⟨hq,w1⟩:=q;let⟨a,fs,rfl,e2,e3⟩:=KY hq;cases rv.ref_inv;let⟨c',dx,cO,hi,hc,h1,rf⟩:=p1.hp a _ e2;cases hfn c' hc;refine⟨a,dx,cO,rfl,h1,rf.look.2 e3,?_⟩;exact⟨[.ref a],G1,Qm,Em,.cons (.ref a) .nil,p1.hp,w1,c.go k1,λcls d H' h=>h.go k1⟩
def Gk(hK:X.K=i.K)(D:Dfo X.prog X.w X.mg X.base i P n f)(hr:fN (2*n) X.A)(hg:Gl X<|gN f)(cI:(gN f==("__debug__" : Str))=ff) :
  PE X (.Call (.Name (gN f) p) [] [] ì) (tE X i (O.wF P n)<|.call f .nil):=by
 let⟨fa,fd,ps,F,hm,hk,hb⟩:=D;rw[<-hK]at F hk hb;k_upd;let⟨env,G,Qm,Em,pr,w,c⟩:=h;refine DX (E:=XK1 i H Em) F hr hg hm hk hb .nil (XW.passes pr.xo) cI Â s σ H Q I ?_;exact⟨[],G,Qm,Em,.nil,pr.hp,w,c,λcls d H' h=>h⟩
abbrev UP(X:Cx)(i:Inf)(Φ:O.Fs):O.Es->List (TE×TE)
 |.cons k (.cons v r)=>(tE X i Φ k,tE X i Φ v)::UP X i Φ r
 |_=>[]
abbrev Kb:O.Es->Bool
 |.nil=>fe
 |.cons _ .nil=>ff
 |.cons _ (.cons _ r)=>Kb r
abbrev esL:O.Es->Nat
 |.nil=>0
 |.cons _ es=>esL es+1
abbrev Ab:List V->List (V×V)
 |x::y::r=>(x,y)::Ab r
 |_=>[]
def Oa:∀(es:O.Es),Kb es=fe->∀{σ:St}{H:Hp}{env:O.Env}{G:O.Hs}{Qm:List O.Val->O.Hs->Prop}{Em:O.XQ}{Q:List (V×V)->Hp->Prop},Pre X i σ H env G Em->O.wA Φ es env G Qm Em->
  (∀vs G' H' xs,fH H H'->RH i G' H'->RVs i.K H' vs xs->xs.length=esL es->Qm vs G'->Q (Ab xs) H')->MA (UP X i Φ es) σ H Q
 |.nil,_,σ,H,env,G,Qm,Em,Q,p,w,c=>by rw[O.q_a_nil]at w;exact c [] G H [] (fH.refl H) p.hp .nil rfl w
 |.cons k .nil,h,_,_,_,_,_,_,_,_,_,_=>by cases h
 |.cons k (.cons v r),h,σ,H,env,G,Qm,Em,Q,p,w,c=>by rw[O.q_a_cons]at w;refine one p w λa G1 H1 x k1 p1 ra q=>?_;rw[O.q_a_cons]at q;refine one p1 q λb G2 H2 y k2 p2 rb q2=>?_;refine Oa r h p2 q2 λvs G' H' xs k3 g3 rv hl hq=>?_;exact c (a::b::vs) G' H' (x::y::xs) ((k1.trans k2).trans k3) g3 (.cons ((ra.keep k2).keep k3)<|.cons (rb.keep k3) rv) (by rw[Ð,Ð,hl];rfl) hq
def JN{K:Frag}{H:Hp}:∀{vs:List O.Val}{xs:List V}{kvs:List (O.Val×O.Val)},RVs K H vs xs->O.pairUp vs=fb kvs->∃ps:List<|Key×V,Ab xs=ps.map (λkv=>(kV kv.1,kv.2))/\RKs K H kvs ps/\2*ps.length=xs.length
 |[],_,_,r,e=>by cases r;cases e;exact⟨[],rfl,.nil,rfl⟩
 |[_],_,_,_,e=>by cases e
 |a::b::vs,_,kvs,r,e=>by
  cases r with
  |cons ra r=>cases r with
  |cons rb t =>
  rename_i y _;unfold O.pairUp at e;split at e
  .rename_i hk;let⟨ks,e2,rfl⟩:=Ò.mp e;let⟨ps,h1,h2,h3⟩:=JN t e2;let⟨c,hc,rfl⟩:=fz hk ra;refine⟨(c,y)::ps,?_,.cons hc rb h2,by rw[Ð,Ð,Ð];lia⟩;show(kV c,y)::Ab _=_;rw[h1];rfl
  .cases e
def RKs.merge{K:Frag}{H:Hp}:∀{kvs:List (O.Val×O.Val)}{ps:List (Key×V)}{Ī:List (O.Val×O.Val)}{bs:List (Key×V)},RKs K H Ī bs->RKs K H kvs ps->RKs K H (O.putAll Ī kvs) (Xl bs ps)
 |_,_,_,_,r,.nil=>r
 |_,_,Ī,bs,r,.cons (k:=k) (v:=v) (c:=c) (x:=x) (kvs:=kvs) (ps:=ps) a q t=>by show RKs K H (O.putAll (O.fK Ī k v) kvs) (Xl (L2.fK bs c x) ps);exact RKs.merge (RKs.put a q r) t
variable {ì:Pos}
def Pu:PE X (.Dict [] [] ì) (tE X i Φ<|.dct .nil) :=
 pe_dnewK.imp λσ H Q ⟨env,G,Qm,Em,p,w,c⟩=>by rw[O.q_e_dct]at w;unfold O.new at w;intro a ha;have w1:=w a<|p.hp.free ha;let⟨a',e,w2⟩:=fj w1;cases e;rw[O.q_a_nil]at w2;let⟨ks,e2,_,w3⟩:=fj w2;cases e2;rw[O.fi]at w3;have k:=fH.new (o:=.dK []) ha;exact c _ _ _ _ k (p.hp.put (o:=.dct []) k ⟨[],fh,.nil⟩) (.ref a) w3
def P6{es:O.Es}{keys:List (Option Expr)}{Ρ:List Expr}(he:Kb es=fe)(h30:esL es<=30)(h:PPs X ì keys Ρ<|UP X i Φ es)(hall:keys.all (·.isSome)=fe)(hl:keys.length=Ρ.length)(h0:keys≠[])(h15:keys.length<=15):PE X (.Dict keys Ρ ì) (tE X i Φ<|.dct es) :=
 (FV h hall hl h0 h15).imp λσ H Q ⟨env,G,Qm,Em,p,w,c⟩=>by
  rw[O.q_e_dct]at w;unfold O.new at w;intro a ha;have w1:=w a<|p.hp.free ha;let⟨a',e,w2⟩:=fj w1;cases e;have k:=fH.new (o:=.dK []) ha;have p2:Pre X i σ (upd H a<|.dK []) env (O.upd G a<|.dct []) Em:=p.go k<|p.hp.put (o:=.dct []) k ⟨[],fh,.nil⟩;refine Oa es he p2 w2 λvs G' H' xs k2 g2 rv hl w3=>?_;let⟨ks,e2,e3,w4⟩:=fj w3;let⟨ps,e4,r4⟩:=g2 a _ e3;cases r4;let⟨qs,h1,h2,h3⟩:=JN rv e2;refine⟨e4,qs,h1,by lia,?_⟩;have k3:fH H'<|upd H' a<|.dK<|Xl [] qs:=fH.put (λxs e=>by rw[e4]at e;cases e) λp u e=>by rw[e4]at e;cases e
  exact c _ _ _ _ ((k.trans k2).trans k3) (g2.put (o:=.dct<|O.putAll [] ks) k3 ⟨_,fh,(RKs.merge .nil h2).keep k3⟩) (.ref a) w4
end Snd
namespace L2
open PySem PySem.Spec PyProof.Rows
section
variable {X:Cx}{Â:List (È×Obj)}{σ:St}{H:Hp}{s:Æ}{a:È}{o:Obj}{ps:List (Key×V)}
def Inv.freeze(I:Inv X Â σ H s)(e:H a=fb (.dK ps))(ho:s.heap.get? a=fb o):Inv X Â σ (upd H a<|.frz o<|.dK ps) s:=by have h:=I.hok a _ e;exact I.write (t':=s.toks) (x:=a) (e:=a) (h':=s.heap) (by rw[e];exact True.intro) (.inl rfl) (λ_ _ _ q=>q) ⟨o,ho⟩ ⟨ho,h⟩
def Inv.thaw(I:Inv X Â σ H s)(e:H a=fb (.frz o<|.dK ps))(h0:∀o u,X.H₀ a≠fb (.frz o u)):Inv X Â σ (upd H a<|.dK ps) s:=by
 have hn:∀b,H b=fc->upd H a (.dK ps) b=fc:=λb z=>by rw[fg<|by rintro rfl;rw[e]at z;cases z];exact z
 have ho:=I.hok a _ e;refine⟨I.ok,I.os,I.bare,⟨I.base.keep,I.base.slot,λb ob q n hx=>hn b<|I.base.free b ob q n hx,I.base.there,λb xs q=>?_,λb ob u q=>?_,λb qs q=>?_⟩,I.loc,I.cell,hn _ I.free,λx c q=>hn _<|I.freeC x c q,λp hp=>?_,λb u q=>?_,I.len⟩
 .have z:=I.base.tups b xs q;rw[fg<|by rintro rfl;rw[e]at z;cases z];exact z
 .have z:=I.base.frzs b ob u q;rw[fg<|by rintro rfl;exact h0 _ _ q];exact z
 .obtain⟨m,z⟩:=I.base.tbls b qs q;exact⟨m,by rw[fg<|by rintro rfl;rw[e]at z;cases z];exact z⟩
 .obtain⟨q1,q2,q3,q4,q5⟩:=I.pin p hp;exact⟨q1,hn _ q2,q3,q4,q5⟩
 .by_cases hb:b=a
  .subst hb;rw[fh]at q;cases q;exact ho.2
  .rw[fg hb]at q;refine(I.hok b u q).stay (λ_ _ _ q=>q) (λc z=>?_) λc xs z=>?_
   .rw[fg<|by rintro rfl;rw[e]at z;cases z];exact z
   .rw[fg<|by rintro rfl;rw[e]at z;cases z];exact z
end
abbrev Ends.thaw(X:Cx)(D:Ends):Ends where
 nx:=λσ H=>∃a o ps,H a=fb (.frz o<|.dK ps)/\(∀o u,X.H₀ a≠fb (.frz o u))/\D.nx σ (upd H a<|.dK ps)
 rt:=λv H=>∃a o ps,H a=fb (.frz o<|.dK ps)/\(∀o u,X.H₀ a≠fb (.frz o u))/\D.rt v (upd H a<|.dK ps)
 bk:=D.bk
 ct:=D.ct
variable {X:Cx}
def EC{st:Ł}{t:TS}(h:PS X st t):PS X st λD σ H=>t (D.thaw X) σ H:=λÂ s σ H D I q =>
 thn (h Â s σ H _ I q) λf s' z=>by
  cases f with
  |next =>let⟨ş,H',I',a,o,ps,e,h0,q⟩:=z;exact⟨ş,_,I'.thaw e h0,q⟩
  |ret u =>let⟨v,ş,H',I',r,a,o,ps,e,h0,q⟩:=z;exact⟨v,ş,_,I'.thaw e h0,r,q⟩
  |brk=>exact z
  |cont=>exact z
abbrev Iti(a:È)(o:Obj)(ps:List<|Key×V):It :=
 ⟨λi H=>H a=fb (.frz o<|.dK ps)/\i<ps.length,λi H v H'=>∃p k x,v=.ref p/\H p=fc/\ps[i]?=fb (k,x)/\H'=upd H p (.tup [kV k,x]),λi H=>H a=fb (.frz o<|.dK ps)/\ps.length<=i⟩
def C8{k:Key}{u:Ä}(h:JC k u=fe):RelV (kV k) u:=by
 rcases Zr h with⟨i,t,rfl,rfl⟩|⟨x,t,rfl,rfl⟩
 .exact⟨t,rfl⟩
 .exact⟨t,rfl⟩
def KV.at:∀{ps:List (Key×V)}{vs:List (Key×Ä)}{i:Nat}{k:Key}{x:V},KV ps vs->ps[i]?=fb (k,x)->∃u,vs[i]?=fb (k,u)/\RelV x u:=by
 intro ps vs i k x r;unfold KV at r;induction r generalizing i with
 |nil=>intro h;simp at h
 |@cons p q ps qs h t ih =>
  intro e;cases i with
  |zero =>simp at e;subst e;let⟨q1,q2⟩:=q;let⟨h1,h2⟩:=h;have h1:k=q1:=h1;subst h1;exact⟨q2,rfl,h2⟩
  |succ i=>simpa using ih ⇑e
section
variable {X:Cx}{Â:List (È×Obj)}{σ:St}{H:Hp}{s:Æ}{a:È}{o:Obj}{ps:List (Key×V)}{es:Array DictEntry}{ep:Nat}
def X3(I:Inv X Â σ H s)(e:H a=fb (.frz o<|.dK ps))(hd:o.data=.dict es ep):∃vs,KV ps vs/\s.heap.DictAt (Zd X.prog X.w) a vs ep:=by
 let⟨ho,_,_,vs,ť,o2,es2,ep2,h1,h2,h3,h4⟩:=(show fu X.prog X.w H s.heap a (.frz o<|.dK ps) from I.hok a _ e)
 rw[ho]at h1;cases h1;rw[hd]at h3;cases h3;exact⟨vs,ť,o,es,ho,h2,hd,h4⟩
end
variable {P:è} {w:ā} {es:List Expr} {kk:Nat} {tp:Pos} {ds:Array DictEntry} {ep:Nat} {o:Obj} {ps:List (Key×V)}
def OV{K:Frag}(a it:È)(hd:o.data=.dict ds ep) :
  Turn P w K (.Tuple es kk tp) (Iti a o ps) [it] it (λi h=>∃ok ov,IsItemIter h it a i ps.length ep ok ov) where
 mem:=by simp
 obj:=λi h st b hb=>by
  let⟨ok,ov,h1⟩:=st;have q:b=it:=⇑hb
  subst q;exact⟨_,h1,λv z=>by cases z⟩
 keep:=λi h h' ⟨ok,ov,h1⟩ k=>⟨ok,ov,k it (by simp) _ h1⟩
 item:=by
  k_ne;subst hP hw hK;let⟨e,hi⟩:=hg;let⟨ok,ov,h1⟩:=st;let⟨vs,ť,da⟩:=X3 I e hd;have hl:ps.length=vs.length:=ť.length;have hx:ps[i]?=fb ps[i]:=Ù hi;let⟨u,hu,ru⟩:=ť.at (k:=ps[i].1) (x:=ps[i].2) hx;rw[hl]at h1;refine wpAny_pyNext_items_item h1 da hu λkey h3 hk hout hT hsz hkeep=>?_;have hfi:=hf it (by simp);have ϲ:it<s.heap.objs.size:=Ø h1;have nT:s.heap.objs.size≠it:=İ ϲ;have aG:=I.fpOk (H':=H) (Ï s.heap.objs.size) I.fresh;refine⟨.ref s.heap.objs.size,rfl,wpAny_letOwnedTupleGo_items (s:={s with heap:=h3}) hout λh4 he4 hs4=>?_⟩;have I4:Inv X Â σ H {s with heap:=h4,toks:=s.toks}:=I.turnedL (t':=s.toks) (ch:=[it]) (λb ob hb q=>hs4.extBut b ob (λz=>hb<|by simp[z])<|hkeep b ob (λz=>hb<|by simp[z]) q) hf;have hT4:h4.get? s.heap.objs.size=fb {cls:=.type "tuple",data:=.seq #[key,u]}:=hs4.extBut _ _ nT hT;let⟨f0,f1,f2,f3,f4,f5⟩:=aG;have I5:Inv X Â σ (upd H s.heap.objs.size<|.tup [kV ps[i].1,ps[i].2]) {s with heap:=h4,toks:=s.toks}:=I4.track f0 I.sz f1 f4 f5 ⟨by show 2<=Ü;decide,[key,u],.cons (C8 hk)<|.cons ru .nil,_,hT4,rfl,_,rfl⟩;refine⟨.ref s.heap.objs.size,_,I5,rfl,⟨s.heap.objs.size,_,_,rfl,f0,hx,rfl⟩,⟨key,u,by rw[hl];exact he4⟩,λb hb=>?_⟩;have q:b=it:=⇑hb
  subst q;rw[fg nT.symm];exact hfi.1
 done:=by
  k_ne;subst hP hw hK;let⟨e,hi⟩:=hg;let⟨ok,ov,h1⟩:=st;let⟨vs,ť,da⟩:=X3 I e hd;have hl:ps.length=vs.length:=ť.length;rw[hl]at h1 hi;refine wpAny_pyNext_items_end (I.ok.hd hc) h1 da (Ŷ hi) λh' he'=>⟨rfl,?_⟩
  exact I.turnedL (t':=s.toks) (ch:=[it]) (λb ob hb q=>he' b ob (λz=>hb<|by simp[z]) q) hf
 self:=λA i s Q E st h=>by let⟨ok,ov,h1⟩:=st;exact PySem.W.kcp_self h1 h
abbrev Itk(a:È)(o:Obj)(ps:List<|Key×V):It :=
 ⟨λi H=>H a=fb (.frz o<|.dK ps)/\i<ps.length,λi H v H'=>H'=H/\∃k x,ps[i]?=fb (k,x)/\v=kV k,λi H=>H a=fb (.frz o<|.dK ps)/\ps.length<=i⟩
variable {tg:Expr}
def A9{K:Frag}(a it:È)(hd:o.data=.dict ds ep) :
  Turn P w K tg (Itk a o ps) [it] it (λi h=>h.IsKeyIter it a i ps.length ep) where
 mem:=by simp
 obj:=λi h st b hb=>by
  let⟨ob,h1,_,h2⟩:=st;have q:b=it:=⇑hb
  subst q;exact⟨ob,h1,λv z=>by rw[h2]at z;cases z⟩
 keep:=λi h h' st k=>st.at λo e=>k it (by simp) o e
 item:=by k_ne;subst hP hw hK;let⟨e,hi⟩:=hg;let⟨vs,ť,da⟩:=X3 I e hd;have hl:ps.length=vs.length:=ť.length;have hx:ps[i]?=fb ps[i]:=Ù hi;let⟨u,hu,ru⟩:=ť.at (k:=ps[i].1) (x:=ps[i].2) hx;rw[hl]at st;refine wpAny_pyNext_dict_item st da hu λkey h3 hk dD hs=>?_;have I3:Inv X Â σ H {s with heap:=h3,toks:=s.toks}:=I.turnedL (t':=s.toks) (ch:=[it]) (λb ob hb q=>hs.extBut b ob (λz=>hb<|by simp[z]) q) hf;let⟨ob,ho,ah,hda⟩:=id dD;refine⟨key,rfl,fk (s:={s with heap:=h3,toks:=s.toks}) ho ah hda (by decide) ⟨kV ps[i].1,H,I3,C8 hk,⟨rfl,_,_,hx,rfl⟩,?_,λb hb=>(hf b hb).1⟩⟩;show h3.IsKeyIter it a (i+1) ps.length ep;rw[hl];exact dD
 done:=by
  k_ne;subst hP hw hK;let⟨e,hi⟩:=hg;let⟨vs,ť,da⟩:=X3 I e hd;have hl:ps.length=vs.length:=ť.length;rw[hl]at st hi;refine wpAny_pyNext_dict_end (I.ok.hd hc) st da (Ŷ hi) λh' he'=>⟨rfl,?_⟩
  exact I.turnedL (t':=s.toks) (ch:=[it]) (λb ob hb q=>he' b ob (λz=>hb<|by simp[z]) q) hf
 self:=λA i s Q E st h=>wpAny_pyIter_keyiter st h
abbrev LD(X:Cx)(J:È->Obj->List (Key×V)->It)(td:TE):TI:=λσ H R=>td σ H λx H1=>∃a ps,x=.ref a/\H1 a=fb (.dK ps)/\∀o,(∀o u,X.H₀ a≠fb (.frz o u))->R (J a o ps) (upd H1 a<|.frz o<|.dK ps)
variable {d:Expr} {td:TE}
def BW{ń Ō:Pos}(hd:PE X d td)(ϕ:Ė d "items" X.env (eval d X.env)=eval d X.env)(ϖ:(ń.endLine==Ō.line)=fe) :
  PI X (.Tuple es kk tp) (.Call (.Attribute d "items" ń) [] [] Ō) (LD X Iti td):=by
 intro Â s σ H R I h;refine dQ ϕ ϖ<|thn (hd Â s σ H _ I h) λv s1 ⟨x,H1,I1,r1,a,ps,ex,ea,q1⟩=>?_;subst ex;obtain rfl:v=Value.ref a:=r1;let⟨t1,t2,t3⟩:=Px I1<|.inl ⟨ps,.inl ea⟩;refine⟨"dict","dict.items",PySem.F.plainAttrs_dict,PySem.F.slot_dict_items,PySem.F.type_dict_items,t1,t2,Calls.callWith_builtin rfl<|PySem.evalArgs_none ?_⟩;let⟨z,hsm,vs,ť,dd⟩:=WP I1.hok ea;refine ϥ PySem.F.slot_dict_items dd.typeIs PySem.F.entry_dict_items (PySem.F.args_dict_items_1 _) (meets_dict_items (Zd X.prog X.w) a hsm) ⟨⟨vs,dd⟩,?_⟩;have I2:Inv X Â σ H1 {s1 with heap:=s1.heap.push {cls:=.type "dict_items",data:=.fields #[.ref a]}}:=I1.kept (t':=s1.toks) λb o e=>Ã _ e;let⟨z2,hsm2,vs2,rel2,cY⟩:=WP I2.hok ea;let⟨ep,da⟩:=cY.dictAt;refine wpAny_pyIter_items (s:={s1 with heap:=s1.heap.push {cls:=.type "dict_items",data:=.fields #[.ref a]}}) (d:=a) ⟨_,Ô _ rfl,rfl,rfl⟩ da ?_;have I3:=I2.kept (t':=s1.toks) (h':=(s1.heap.push {cls:=.type "dict_items",data:=.fields #[.ref a]}).push {cls:=.type "dict_itemiterator",data:=.fields #[.none,.bool ff,.ref a,.int 0 0,.int vs2.length 0,.int ep 0,.none,.none]}) λb o e=>Ã _ e;let⟨ob,ds,ho,_,hdat,_⟩:=da;have I4:=I3.freeze ea<|Ã _ ho;refine⟨_,[_],_,_,_,rfl,I4,OV a _ hdat,⟨.none,.none,?_⟩,λb hb=>?_,q1 ob λo u z=>by have:=I1.base.frzs a o u z;rw[ea]at this;cases this⟩
 .rw[rel2.length];exact Ô _ rfl
 .have e:b=(s1.heap.push {cls:=.type "dict_items",data:=.fields #[.ref a]}).objs.size:=⇑hb
  subst e;have hn:=I2.hok.fresh<|Ï (s1.heap.push {cls:=.type "dict_items",data:=.fields #[.ref a]}).objs.size;exact I2.fpOk (Ï _) (by rw[fg<|by intro z;rw[z]at hn;rw[ea]at hn;cases hn];exact hn)
def Gf(hd:PE X d td):PI X tg d<|LD X Itk td:=by
 intro Â s σ H R I h;refine thn (hd Â s σ H _ I h) λv s1 ⟨x,H1,I1,r1,a,ps,ex,ea,q1⟩=>?_;subst ex;obtain rfl:v=Value.ref a:=r1;let⟨z,hsm,vs,ť,dd⟩:=WP I1.hok ea;let⟨ep,da⟩:=dd.dictAt;refine wpAny_pyIter_dict hsm da ?_;have I2:=I1.kept (t':=s1.toks) (h':=s1.heap.push {cls:=.type "dict_keyiterator",data:=.fields #[.ref a,.int 0 0,.int vs.length 0,.int ep 0]}) λb o e=>Ã _ e;let⟨ob,ds,ho,_,hdat,_⟩:=da;have I3:=I2.freeze ea<|Ã _ ho;refine⟨_,[_],_,_,_,rfl,I3,A9 a _ hdat,⟨_,Ô _ rfl,rfl,by rw[ť.length];rfl⟩,λb hb=>?_,q1 ob λo u z=>by have:=I1.base.frzs a o u z;rw[ea]at this;cases this⟩;have e:b=s1.heap.objs.size:=⇑hb
 subst e;have hn:=I1.hok.fresh<|Ï s1.heap.objs.size;exact I1.fpOk (Ï _) (by rw[fg<|by intro z;rw[z]at hn;rw[ea]at hn;cases hn];exact hn)
abbrev TupsH(I S:È)(items:Array Ä)(val:Nat->List Int)(h:Ć):Prop:=∀i v,items[i]?=fb v->∃a ó,v=.ref a/\a≠I/\a≠S/\ϳ h a ó/\Ġ ó.toList (val i)
def TupsH.keep{I S:È}{items:Array Ä}{val:Nat->List Int}{h h':Ć}(t:TupsH I S items val h)(k:∀b o,b≠I->b≠S->h.get? b=fb o->h'.get? b=fb o):TupsH I S items val h':=λi v e=>by let⟨a,ó,h1,h2,h3,⟨o,q1,q2⟩,h5⟩:=t i v e;exact⟨a,ó,h1,h2,h3,⟨o,k a o h2 h3 q1,q2⟩,h5⟩
abbrev btL(val:Nat->List Int)(i j:Nat):Bool:=HT.lexLt (val i)<|val j
section
variable {prog:è}{w:ā}{A:č}{R:bw->Æ->Prop}{I l:È}{items:Array Ä}{val:Nat->List Int}{kw:List (Str×Ä)}{fp:List È}{St:Nat->Ć->Prop}
def Bh(W:Walks prog w A.in1 I fp [I] items.size (λi v=>items[i]?=fb v) St)(hu:A.units+1<Ħ)(S:È)(hSI:S≠I)(hSf:S∉fp) :
  ∀(k j:Nat) (s:Æ) (vb:Ä) (c:Nat),items.size - (j+1)=k->j+1<=items.size->St (j+1) s.heap->TupsH I S items val s.heap->items[į (btL val) j]?=fb vb->
  s.heap.get? S=fb {cls:=.type "list",dict:=fc,data:=.seq #[vb,vb] c,slots:=#[]}->
  (∀v h' tk,items[į (btL val)<|items.size - 1]?=fb v->(∀b o,b≠I->b≠S->s.heap.get? b=fb o->h'.get? b=fb o)->R (.ok<|.ret v) {s with heap:=h',toks:=tk})->
  codeAny (à prog w) A (.builtin "min.loop" ⟨[.ref I,.none,.ref S],kw⟩) R s:=by
 have bu:(toString "min" ++ toString ".loop" : String) = "min.loop":=by decide
 have hSw:S∉[I]:=by simp[hSI]
 intro k;induction k with
 |zero =>
  intro j s vb c hk hj Š hT hPb hS hR;have hin:j+1=items.size:=by lia
  refine Ŕ PySem.F.entry_min_loop ?_;rw[Ŀ PySem.F.plain_min_loop _];show wpAny _ A.in1 (Ϛ (.ref S) >>= _) _ _ s;refine Á<|ċ hS rfl ?_;show wpAny _ A.in1 (tryCatch (Ů<|.ref I) _ >>= _) _ _ s;refine Á<|ź<|W.done s _ _ (hin▸Š) λh' tk aB=>?_;have de:=aB S _ hSw hS;show wpAny _ A.in1 (updateSeq S (λ_=>#[]) >>= _) _ _ _;refine Á ?_;refine ϩ de rfl<|Á<|Ŵ<|Ñ ?_;refine hR vb _ tk (by rw[<-hin];exact hPb) λb o hbw hbS e=>(þ _ _<|Ne.symm hbS).trans (aB b o ⇑hbw e)
 |succ k ih =>
  intro j s vb c hk hj Š hT hPb hS hR;have aq:j+1<items.size:=by lia
  refine Ŕ PySem.F.entry_min_loop ?_;rw[Ŀ PySem.F.plain_min_loop _];show wpAny _ A.in1 (Ϛ (.ref S) >>= _) _ _ s;refine Á<|ċ hS rfl ?_;show wpAny _ A.in1 (tryCatch (Ů<|.ref I) _ >>= _) _ _ s;refine Á<|ź<|W.item (j+1) s _ _ aq Š λv h' tk hP dJ aB=>?_;have de:=aB S _ hSw hS;have df:TupsH I S items val h':=hT.keep λb o h1 _ e=>aB b o ⇑h1 e;have hP:items[j+1]?=fb v:=hP;let⟨a,ó,rfl,_,_,pa,ia⟩:=df _ _ hP;let⟨b0,Ż,rfl,_,_,pb,ib⟩:=df _ _ hPb;show wpAny _ A.in1 (tryCatch (Ņ [.ref a,.ref a]<|ð .Lt (.ref a) (.ref b0) >>= _) _ >>= _) _ _ _;refine Á<|ź<|Ĭ<|Á<|HT.lt_tupInts pa pb ia ib hu ?_;refine Á<|Ĭ<|Đ ?_;refine Á<|Ŵ<|Ñ ?_;cases hb:HT.lexLt (val<|j+1) (val<|į (btL val) j)with
  |true =>
   have bo:btL val (j+1) (į (btL val) j)=fe:=hb;simp![if_true];refine Á ?_;refine ϩ de rfl<|Á<|Ŵ ?_;rw[bu];refine Ñ ⟨Ū PySem.F.plain_min_loop _,ih (j+1) _ (.ref a) _ (by lia) aq (W.frame _ _ _ dJ λb hbf o e=>?_) (df.keep λb o _ h2 e=>(þ _ _<|Ne.symm h2).trans e) (by simp![į,bo,if_true];exact hP) (Ĺ _ de rfl)
     λv' cN tk'' hP' hk''=>?_⟩
   .exact(þ _ _ λh:S=b=>hSf<|by rw[h];exact hbf).trans e
   .exact hR v' cN tk'' hP' λb o hbw hbS e=>hk'' b o hbw hbS ((þ _ _<|Ne.symm hbS).trans<|aB b o ⇑hbw e)
  |false =>have bo:btL val (j+1) (į (btL val) j)=ff:=hb;simp![ĸ,if_false];refine Á<|Ŵ ?_;rw[bu];refine Ñ ⟨Ū PySem.F.plain_min_loop _,ih (j+1) _ (.ref b0) c (by lia) aq dJ df (by simp![į,bo,ĸ,if_false];exact hPb) de λv' cN tk'' hP' hk''=>?_⟩;exact hR v' cN tk'' hP' λb o hbw hbS e=>hk'' b o hbw hbS (aB b o ⇑hbw e)
variable {s:Æ} {c:Nat}
def OM(W:Walks prog w A.in1 I fp [I] items.size (λi v=>items[i]?=fb v) St)(hu:A.units+1<Ħ)(S:È)(hSI:S≠I)(hSf:S∉fp)(hn:0<items.size)(Š:St 0 s.heap)(hT:TupsH I S items val s.heap)
  (hS:s.heap.get? S=fb {cls:=.type "list",dict:=fc,data:=.seq #[] c,slots:=#[]})
  (hR:∀v h' tk,items[į (btL val)<|items.size - 1]?=fb v->(∀b o,b≠I->b≠S->s.heap.get? b=fb o->h'.get? b=fb o)->R (.ok<|.ret v) {s with heap:=h',toks:=tk}) :
  codeAny (à prog w) A (.builtin "min.loop" ⟨[.ref I,.none,.ref S],kw⟩) R s:=by
 have bu:(toString "min" ++ toString ".loop" : String) = "min.loop":=by decide
 have hSw:S∉[I]:=by simp[hSI]
 refine Ŕ PySem.F.entry_min_loop ?_;rw[Ŀ PySem.F.plain_min_loop _];show wpAny _ A.in1 (Ϛ (.ref S) >>= _) _ _ s;refine Á<|ċ hS rfl ?_;show wpAny _ A.in1 (tryCatch (Ů<|.ref I) _ >>= _) _ _ s;refine Á<|ź<|W.item 0 s _ _ hn Š λv h' tk hP dJ aB=>?_;have de:=aB S _ hSw hS;have df:TupsH I S items val h':=hT.keep λb o h1 _ e=>aB b o ⇑h1 e;show wpAny _ A.in1 (updateSeq S (λ_=>#[v,v]) >>= _) _ _ _;refine Á ?_;refine ϩ de rfl ?_;rw[bu];refine Ñ ⟨Ū PySem.F.plain_min_loop _,Bh W hu S hSI hSf _ 0 _ v _ rfl hn (W.frame _ _ _ dJ λb hbf o e=>?_) (df.keep λb o _ h2 e=>(þ _ _<|Ne.symm h2).trans e) hP (Ĺ _ de rfl) λv' cN tk'' hP' hk''=>?_⟩
 .exact(þ _ _ λh:S=b=>hSf<|by rw[h];exact hbf).trans e
 .exact hR v' cN tk'' hP' λb o hbw hbS e=>hk'' b o hbw hbS ((þ _ _<|Ne.symm hbS).trans<|aB b o ⇑hbw e)
def An(hh:A.handled=fc)(hlI:l≠I)(S:È)(hSI:S≠I)(hn:items.size=0){nm:Str}{d:Ä}(Š:s.heap.IsListIter I l 0/\s.heap.IsList l items)
  (hS:s.heap.get? S=fb {cls:=.type "list",dict:=fc,data:=.seq #[] c,slots:=#[]})
  (hR:∀h' tk,(∀b o,b≠I->s.heap.get? b=fb o->h'.get? b=fb o)->R (.ok<|.ret d) {s with heap:=h',toks:=tk}) :
  codeAny (à prog w) A (.builtin "min.loop" ⟨[.ref I,.none,.ref S],[(nm,d)]⟩) R s:=by
 have W:=Walks.list (prog:=prog) (w:=w) (A:=A.in1) hh I l hlI items;refine Ŕ PySem.F.entry_min_loop ?_;rw[Ŀ PySem.F.plain_min_loop _];show wpAny _ A.in1 (Ϛ (.ref S) >>= _) _ _ s;refine Á<|ċ hS rfl ?_;show wpAny _ A.in1 (tryCatch (Ů<|.ref I) _ >>= _) _ _ s;refine Á (ź<|W.done s _ _ (by rw[hn];exact Š) λh' tk aB=>?_);show wpAny _ A.in1 (rule _ >>= λ_=>ret d) _ _ _;exact Á (Ο<|Ñ<|hR h' tk λb o hb e=>aB b o ⇑hb e)
end
def AR(a:Ä):cz "min" ⟨[a],[(gN "default",.none)]⟩:=by unfold cz;kernel_rfl
def JL(bt:Nat->Nat->Bool):∀k,į bt k<=k
 |0=>Ï _
 |k+1=>by
  unfold į;split
  .exact Ï _
  .exact Nat.le_succ_of_le<|JL bt k
def W5:∀{xs:List V}{us:List Ä}{i:Nat}{u:Ä},gp xs us->us[i]?=fb u->∃x,xs[i]?=fb x/\RelV x u
 |_,_,_,_,.nil,e=>by simp at e
 |_,_,0,_,.cons r _,e=>by simp at e;subst e;exact⟨_,rfl,r⟩
 |_,_,i+1,_,.cons _ t,e=>by let⟨x,h1,h2⟩:=W5 (i:=i) t ⇑e;exact⟨x,⇑h1,h2⟩
section
variable {X:Cx}
def AI{Â:List (È×Obj)}{s:Æ}{σ:St}{H:Hp}{a:È}{xs:List V}{rows:List (List Int)}{Q:VK}(hc:X.calm=fe)(hu:X.A.units+1<Ħ)(I:Inv X Â σ H s)(hl:gk X.K H a xs)(hr:rows.length=xs.length)
  (ht:∀i,i<rows.length->∃p,xs[i]?=fb (.ref p)/\gm X.K H p ((rows.getD i []).map V.int))
  (q0:xs=[]->Q .non H) (q1:xs≠[]->∀x,xs[į (btL λi=>rows.getD i [])<|xs.length - 1]?=fb x->Q x H) :
  wpAny (à X.prog X.w) X.A (call (.builtin "min") [.ref a] [(gN "default",.none)]) (EP X Â σ Q) X.xe s:=by
 have bu:(toString "min" ++ toString ".loop" : String) = "min.loop":=by decide
 let⟨ó,rv,pl,hz⟩:=I.list hl;have hlen:=rv.length;have dL:=pl.isList;let⟨ol,hol,_⟩:=id dL;have hll:a<s.heap.objs.size:=Ø hol;refine PyProof.Rows.kmk_tree PySem.F.kind_min PySem.F.plain_min PySem.F.entry_min (AR _) ?_;show wpAny _ X.A.in1 (Builtin.Builtins.bindParams "min" ["key","default"] 0 ⟨[],[(gN "default",.none)]⟩ >>= _) _ _ s;refine Á (Ϻ (show Builtin.Builtins.bindParams "min" ["key","default"] 0 ⟨[],[(gN "default",.none)]⟩=pure [fc,fb .none] from rfl) ?_);refine Á<|Ñ ?_;refine Á<|Ś dL ?_;refine Á<|wpAny_newList ?_<|ī _;rw[bu];have hS:(s.heap.push {cls:=.type "list_iterator",data:=.fields #[.ref a,.int 0 0]}).objs.size=s.heap.objs.size+1:=size_push' ..;have hlI:a≠s.heap.objs.size:=â hll;have hSI:(s.heap.push {cls:=.type "list_iterator",data:=.fields #[.ref a,.int 0 0]}).objs.size≠s.heap.objs.size:=by rw[hS];exact İ<|ĳ _
 have hSl:(s.heap.push {cls:=.type "list_iterator",data:=.fields #[.ref a,.int 0 0]}).objs.size≠a:=by rw[hS];exact İ<|Ι hll
 have kk:∀b o,s.heap.get? b=fb o->((s.heap.push {cls:=.type "list_iterator",data:=.fields #[.ref a,.int 0 0]}).push<|ϔ "list" #[] 0).get? b=fb o:=λb o e=>Ã _<|Ã _ e;have gI:((s.heap.push {cls:=.type "list_iterator",data:=.fields #[.ref a,.int 0 0]}).push<|ϔ "list" #[] 0).get? s.heap.objs.size=fb {cls:=.type "list_iterator",data:=.fields #[.ref a,.int 0 0]} :=
  Ã _ (Ô _ rfl)
 have gS:((s.heap.push {cls:=.type "list_iterator",data:=.fields #[.ref a,.int 0 0]}).push<|ϔ "list" #[] 0).get? (s.heap.push {cls:=.type "list_iterator",data:=.fields #[.ref a,.int 0 0]}).objs.size=fb (ϔ "list" #[] 0):=Ô _ rfl;have Ν:∀b o,s.heap.get? b=fb o->b≠s.heap.objs.size/\b≠(s.heap.push {cls:=.type "list_iterator",data:=.fields #[.ref a,.int 0 0]}).objs.size:=λb o e=>by have:=Ø e;rw[hS];exact⟨â this,â<|Ι this⟩
 have Š:Heap.IsListIter ((s.heap.push {cls:=.type "list_iterator",data:=.fields #[.ref a,.int 0 0]}).push<|ϔ "list" #[] 0) s.heap.objs.size a 0/\Heap.IsList ((s.heap.push {cls:=.type "list_iterator",data:=.fields #[.ref a,.int 0 0]}).push<|ϔ "list" #[] 0) a ó.toArray:=by refine⟨⟨_,gI,rfl,rfl⟩,?_⟩;let⟨o,e,r⟩:=dL;exact⟨o,kk _ _ e,r⟩
 refine Ñ ⟨Ū PySem.F.plain_min_loop _,?_⟩;by_cases h0:xs=[]
 .have hi:ó.toArray.size=0:=by rw[É,<-hlen,h0];rfl
  refine An (I:=s.heap.objs.size) (A:=X.A) (l:=a) (items:=ó.toArray) (I.ok.hd hc) hlI _ hSI hi Š gS λh' tk hk=>?_;exact⟨.non,H,I.kept (t':=tk) λb o e=>hk b o (Ν b o e).1<|kk b o e,rfl,q0 h0⟩
 .have hi:0<ó.toArray.size:=by
   rw[É,<-hlen];exact du.mpr h0
  refine OM (A:=X.A) (items:=ó.toArray) (val:=λi=>rows.getD i []) (Walks.list (A:=X.A.in1) (I.ok.hd hc) s.heap.objs.size a hlI ó.toArray) hu _ hSI (λz=>(Ç.mp z).elim hSI λz=>hSl<|Ö.mp z) hi Š (λi v e=>?_) gS λv h' tk hv hk=>?_
  .have e:ó[i]?=fb v:=⇑e
   have hi':i<rows.length:=by rw[hr,hlen];exact(Î.mp e).1
   let⟨p,aF,bq⟩:=ht i hi';let⟨x,hx,rx⟩:=W5 rv e;rw[aF]at hx;cases hx;obtain rfl:v=Value.ref p:=rx;let⟨tt,r2,⟨o2,e2,rest⟩,_⟩:=I.tuple bq;exact⟨p,tt.toArray,rfl,(Ν p o2 e2).1,(Ν p o2 e2).2,⟨o2,kk _ _ e2,rest⟩,ZY r2⟩
  .have hv:ó[į (btL λi=>rows.getD i [])<|xs.length - 1]?=fb v:=by rw[hlen];simpa using hv
   let⟨x,hx,rx⟩:=W5 rv hv;exact⟨x,H,I.kept (t':=tk) λb o e=>hk b o (Ν b o e).1 (Ν b o e).2<|kk b o e,rx,q1 h0 x hx⟩
abbrev Rp(K:Frag)(ta:TA):TE:=λσ H Q=>ta σ H λvs H1=>∃a xs,∃rows:List<|List Int,vs=[.ref a]/\gk K H1 a xs/\rows.length=xs.length/\
 (∀i,i<rows.length->∃p,xs[i]?=fb (.ref p)/\gm K H1 p ((rows.getD i []).map V.int))/\(xs=[]->Q .non H1)/\(xs≠[]->∀x,xs[į (btL λi=>rows.getD i [])<|xs.length - 1]?=fb x->Q x H1)
def Gu{e:Expr}{ta:TA}{p ì kp kpos:Pos}{kk:Nat}(hc:X.calm=fe)(hu:X.A.units+1<Ħ)(hg:Gl X "min")(hm:X.mg "min" = fc)(ha:PA X [e] ta)(hs:Ú [e] X.env=[(ff,eval e X.env)]) :
  PE X (.Call (.Name "min" p) [e] [⟨fb "default",.Constant .none kk kp,kpos⟩] ì) (Rp X.K ta):=by
 k_upd;refine ĕ (Z2 (u:=.builtin "min") I hg hm (by kernel_rfl) ?_);refine PyProof.Rows.callWith_kw (e:=e) (rest:=[]) ?_ (by rw[hs];rfl) (by rw[hs];rfl) rfl rfl;refine thn (ha ì Â s σ H _ I h) λus s1 ⟨vs,H1,I1,r1,a,xs,rows,ev,hl,hr,ht,q0,q1⟩=>?_;subst ev;let⟨u,rfl,ru⟩:=ZR r1;cases ru;refine PyProof.Rows.kws_cons<|thn (B4 Â s1 σ H1 (λv H2=>v=.non/\H2=H1) I1 ⟨rfl,rfl⟩) λv s2 ⟨x,H2,I2,r2,e1,e2⟩=>PyProof.Rows.kws_nil ?_;subst e1 e2;obtain rfl:v=Value.none:=r2;exact AI hc hu I2 hl hr ht q0 q1
def XY{P:è}{w:ā}:∀{ns:List Int}{vs:List (Key×Ä)}{Ī:List Ä},vs.map (·.1)=ns.map Sum.inl->Ī.length=vs.length->(∀(j:Nat) (v:Ä),Ī[j]?=fb v->∃(k:Key) (x:Ä),vs[j]?=fb (k,x)/\(Zd P w).is k v=fe)->Ġ Ī ns
 |[],[],[],_,_,_=>.nil
 |[],_::_,_,h,_,_=>by cases h
 |_::_,[],_,h,_,_=>by cases h
 |[],[],_::_,_,h,_=>by cases h
 |_::_,_::_,[],_,h,_=>by cases h
 |n::ns,p::vs,u::Ī,h1,h2,h3=>by rw[Ó,Ó]at h1;injection h1 with h1 h1';let⟨k,x,e1,e2⟩:=h3 0 u rfl;simp at e1;subst e1;have h1:k=Sum.inl n:=h1;subst h1;obtain⟨t,rfl⟩:∃t,u=Value.int n t:=C8 (k:=Sum.inl n) (u:=u) e2;exact .cons n t (XY (P:=P) (w:=w) h1' ⇑h2 λj v e=>by simpa using h3 (j+1) v ⇑e)
def M1(hc:X.calm=fe):fq X (.builtin "sorted") (λxs H Q=>∃p kvs,∃ns:List Int,xs=[.ref p]/\Rd H p (.dK kvs)/\kvs.map (·.1)=ns.map Sum.inl/\ns.length<64/\∀l,H l=fc->Q (.ref l) (upd H l<|.lst<|(sortI ns).map V.int)):=by
 k_put;let⟨p,kvs,ns,rfl,hp,hk,h64,q⟩:=h;let⟨u,rfl,rx⟩:=ZR r;cases rx;let⟨z,hsm,vs,ť,dd⟩:=X4 I.hok hp;let⟨ep,da⟩:=dd.dictAt;have hlen:vs.length=ns.length:=by have:=congrArg List.length hk;simpa[ť.length]using this
 refine Calls.call_function_entry kind_sorted plain_sorted entry_sorted (args_sorted1 _) ?_;unfold Builtin.«sorted»;refine Á (m:=checkCount "sorted" 1 1 _)<|Ñ ?_;refine Á (PySem.W.kdu_collect (A:=X.A.in1) (PySem.W.kdl_dict (knd:=Zd X.prog X.w) (kvs:=vs) (ep:=ep) hsm) (I.ok.hd hc) da (by rw[<-ť.length];exact z) λh' tk Ī hkeep aC=>?_);have hl:Ī.toList.length=vs.length:=by rw[Ğ];exact aC.1
 refine Á (wpAny_newList ?_<|by rw[hl,<-ť.length];exact z);have hI:Ġ Ī.toList ns:=XY (P:=X.prog) (w:=X.w) (by rw[<-ť.keys];exact hk) hl λj v e=>aC.2 j v (by rw[<-Ŏ];exact e);have hoL:(h'.push<|ϔ "list" Ī.toList.toArray 0).get? h'.objs.size=fb (ϔ "list" Ī.toList.toArray 0):=Ô _ rfl;have I1:Inv X Â σ H {s with heap:=h',toks:=tk}:=I.kept hkeep;refine Á (Ĭ<|ď slot_list_sort ⟨_,hoL,rfl⟩ entry_list_sort (list_sort_tree hoL hI (by rw[hl,hlen];exact h64) λout cJ a1 a2 a3=>⟨_,rfl,?_⟩)<|args_list_sort _);have e:=J6 a2 a3;subst e;let⟨n,he⟩:=sortedHeap_at (out:=out) hoL;refine Ñ ⟨_,rfl,.ref h'.objs.size,_,I1.laid (a:=h'.objs.size) (o:=.lst<|(sortI ns).map V.int) (t':=tk) (λb o e=>?_) (Ï _) ?_,rfl,q _<|I1.hok.fresh<|Ï _⟩
 .have e:h'.get? b=fb o:=e;have hb:=Ø e;rw[sortedHeap_old (â hb)<|by rw[size_push'];exact Ι hb];exact Ã _ e
 .exact⟨by rw[À,Wl];unfold Ü;lia,out.toList,n,Wn a1,by simpa[ϔ]using he⟩
end
end L2
namespace Srt
open PySem.W PyProof.Rows
abbrev ok(n:Nat)(lt:Nat->Nat->Bool){α:Type}:KasT α->(α->Prop)->Prop
 |.ret a,Q=>Q a
 |.ask i j k,Q=>i<n/\j<n/\ok n lt (k<|lt i j) Q
section
variable {n:Nat}{lt:Nat->Nat->Bool}
abbrev K(p:Array Nat)(k:Nat):Nat:=p.getD k 0
end
end Srt
namespace Snd
open PySem L2
variable {i:Inf}{X:Cx}{Φ:O.Fs}
def NX{H:Hp}:∀{kvs:List (O.Val×O.Val)}{ps:List (Key×V)}{ns:List Int},RKs i.K H kvs ps->O.keysOf kvs=fb ns->ps.map (·.1)=ns.map Sum.inl
 |_,_,ns,.nil,e=>by have e:fb []=fb ns:=e;cases e;rfl
 |(k,v)::kvs,_,ns,.cons (c:=c) hk _ t,e=>by
  have e:O.fo (k::kvs.map (·.1))=fb ns:=e;cases k with
  |int j =>
   have e:(O.fo (kvs.map (·.1))).map (j :: ·)=fb ns:=e;let⟨ms,z,rfl⟩:=Ò.mp e;have ih:=NX (ns:=ms) t z;cases c with
   |inl l =>have hk:j=l:=hk;subst hk;rw[Ó,Ó,ih]
   |inr _=>exact(show False from hk).elim
  |_=>cases e
def KQ:∀{ys:List O.Val}{ns:List Int},O.fo ys=fb ns->ys=ns.map .int
 |[],_,e=>by cases e;rfl
 |y::ys,ns,e=>by
  cases y with
  |int j =>let⟨ms,z,rfl⟩:=Ò.mp (show(O.fo ys).map (j :: ·)=fb ns from e);rw[Ó,<-KQ z]
  |_=>cases e
def Nw{H:Hp}:∀{xs:List O.Val}{us:List V}{rows:List (List Int)},RVs i.K H xs us->O.rowsOf xs=fb rows->rows.length=us.length/\(∀n,n<rows.length->∃p,us[n]?=fb (.ref p)/\gm i.K H p ((rows.getD n []).map V.int))/\xs=rows.map λr=>.tup (r.map .int)
 |_,_,rows,.nil,e=>by have e:fb []=fb rows:=e;cases e;exact⟨rfl,λn h=>gL h<|Nat.not_lt_zero _,rfl⟩
 |v::xs,_,rows,.cons r t,e=>by
  cases v with
  |tup ys =>
   let⟨ns,z1,e⟩:=î.mp (show(O.fo ys).bind (λns=>(O.rowsOf xs).map (ns :: ·))=fb rows from e);let⟨rs,z2,rfl⟩:=Ò.mp e;let⟨h1,h2,h3⟩:=Nw t z2;cases r with
   |tup hp hr =>
    have:=Yl z1 hr;subst this;refine⟨by rw[Ð,Ð,h1],λn hn=>?_,?_⟩
    .cases n with
     |zero=>exact⟨_,rfl,Zj hp⟩
     |succ n=>exact h2 n ⇑hn
    .rw[Ó,<-h3];have:ys=ns.map .int:=KQ z1;rw[this]
  |_=>cases e
def Ue:Ke i .sortedI (λxs H Q=>(∃p,∃ns:List Int,xs=[.ref p]/\gk i.K H p (ns.map V.int)/\ns.length<64/\∀l,H l=fc->Q (.ref l) (upd H l<|.lst<|(L2.sortI ns).map V.int))\/
    (∃p kvs,∃ns:List Int,xs=[.ref p]/\Rd H p (.dK kvs)/\kvs.map (·.1)=ns.map Sum.inl/\ns.length<64/\∀l,H l=fc->Q (.ref l) (upd H l<|.lst<|(L2.sortI ns).map V.int))):=by
 intro vs G H xs Q Qm g r w c;let⟨v,rfl,w⟩:=Xa w;let⟨x,rfl,rx⟩:=r.inv1;have key:∀(ns:List Int),(if ns.length<64 then O.Rs.new (.lst<|(O.sortI ns).map .int)else .no).wp G Qm->ns.length<64/\∀l,H l=fc->Q (.ref l) (upd H l<|.lst<|(L2.sortI ns).map V.int):=λns w=>by
  split at w
  .rename_i h64;exact⟨h64,ZU g (XF w) c λp hp=>⟨_,fh,RVs.ints _⟩⟩
  .exact(Zk w).elim
 cases v with
 |ref a =>
  cases rx.ref_inv
  replace w:(O.biSortedI G<|.ref a).wp G Qm:=w
  unfold O.biSortedI O.sortAny at w;dsimp only at w;cases z:G a with
  |none=>rw[z]at w;exact(Zk w).elim
  |some o =>
   rw[z]at w;cases o with
   |lst ys =>
    cases z2:O.fo ys with
    |none=>simp![z2]at w;exact(Zk w).elim
    |some ns =>simp![z2]at w;let⟨us,h1,h2⟩:=g a _ z;have:=Yl z2 h2;subst this;exact .inl ⟨a,ns,rfl,gk.of h1,key ns w⟩
   |dct kvs =>
    cases z2:O.keysOf kvs with
    |none=>simp![z2]at w;exact(Zk w).elim
    |some ns =>simp![z2]at w;let⟨ps,h1,h2⟩:=g a _ z;exact .inr ⟨a,ps,ns,rfl,.inl h1,NX h2 z2,key ns w⟩
   |_=>exact(Zk w).elim
 |scr ns =>
  cases rx with
  |scr h=>exact .inl ⟨_,ns,rfl,Yk h,key ns w⟩
 |_=>exact(Zk w).elim
end Snd
namespace L2
open PySem PySem.Spec PyProof.Rows
section
variable {X:Cx}{e:Expr}{te:TE}{lo hi:Option Expr}{st:Expr}{tl th:TO}{ts:TE}{ì p2:Pos}
def KA{xs:List V}{us:List Ä}(r:gp xs us):∀ix:List Nat,gp (O.pickL ix xs) (O.pickL ix us)
 |[]=>.nil
 |k::ix=>by
  have h:(xs[k]?=fc/\us[k]?=fc)\/∃x u,xs[k]?=fb x/\us[k]?=fb u/\RelV x u:=by
   clear ix;induction r generalizing k with
   |nil=>exact .inl ⟨rfl,rfl⟩
   |cons r1 r2 ih =>
    cases k with
    |zero=>exact .inr ⟨_,_,rfl,rfl,r1⟩
    |succ k=>exact ih k
  have ih:=KA r ix;unfold O.pickL at ih ⊢;rcases h with⟨h1,h2⟩|⟨x,u,h1,h2,h3⟩
  .rw[ò,ò,h1,h2];exact ih
  .rw[ò,ò,h1,h2];exact .cons h3 ih
def DA{a b k:Int}{n:Nat}(hk:k≠0)(h1:0<k->0<=a/\b<=n)(h2:k<0->a<n/\-1<=b):(Ϧ a b k).Nodup/\(Ϧ a b k).length<=n:=by
 unfold Ϧ;dsimp only;rcases Int.lt_or_gt_of_ne hk with hk|hk
 .obtain⟨h3,h4⟩:=h2 hk;rw[gG<|by lia];by_cases hs:a > b
  .rw[gF hs];have hd:∀j:Nat,j<((a - b - k - 1) / -k).toNat->(j:Int) * -k<=a - b - 1:=λj hj=>by
    have h5:((j:Int)+1)<=(a - b - k - 1) / -k:=by lia
    have h6:=(cx (by lia:0 < -k)).mp h5;have h7:((j:Int)+1) * -k=(j:Int) * -k + -k:=by rw[dy,dz]
    lia
   refine⟨?_,?_⟩
   .rw[bg,eW];refine List.Pairwise.imp_of_mem ?_ b9;intro i j hi hj hij e;have d1:=hd i<|Ŗ.mp hi;have d2:=hd j<|Ŗ.mp hj;have e1:k*(i:Int)=-((i:Int) * -k):=by rw[Int.mul_neg,Int.neg_neg,Int.mul_comm]
    have e2:k*(j:Int)=-((j:Int) * -k):=by rw[Int.mul_neg,Int.neg_neg,Int.mul_comm]
    have e3:(i:Int) * -k<(j:Int) * -k:=Int.mul_lt_mul_of_pos_right (by lia) (by lia);rw[e1,e2]at e;lia
   .rw[À,ą];have:(a - b - k - 1) / -k<=a - b:=by
     refine dA ((cC (by lia:0 < -k)).mpr ?_);have:(a - b+1) * -k=(a - b)*(-k - 1)+(a - b) + -k:=by rw[dy,Int.mul_sub,dj,dz];lia
     have:0<=(a - b)*(-k - 1):=bA (by lia) (by lia);lia
    lia
  .rw[gG hs];exact⟨ġ,ī _⟩
 .obtain⟨h3,h4⟩:=h1 hk;rw[gF hk];by_cases hs:a<b
  .rw[gF hs];refine⟨?_,?_⟩
   .rw[bg,eW];refine List.Pairwise.imp ?_ b9;intro i j hij e;have e3:k*(i:Int)<k*(j:Int):=Int.mul_lt_mul_of_pos_left (by lia) hk;have e4:0<=k*(i:Int):=bA (by lia) (by lia);lia
   .rw[À,ą];have:(b - a+k - 1) / k<=b - a:=by
     refine dA<|(cC hk).mpr ?_;have:(b - a+1)*k=(b - a)*(k - 1)+(b - a)+k:=by rw[dy,Int.mul_sub,dj,dz];lia
     have:0<=(b - a)*(k - 1):=bA (by lia) (by lia);lia
    lia
  .rw[gG hs];exact⟨ġ,ī _⟩
def Gw{items:Array Ä}{lo hi:Option Int}{k:Int}(hk:k≠0):∃ix:List Nat,ix.Nodup/\ix.length<=items.size/\dP items lo hi (fb k)=(O.pickL ix items.toList).toArray:=by
 refine⟨Ϧ (ĝ lo hi (fb k) items.size).fst (ĝ lo hi (fb k) items.size).snd.fst (ĝ lo hi (fb k) items.size).snd.snd,?_⟩;have hb:(ĝ lo hi (fb k) items.size).snd.snd=k:=rfl;rw[hb,<-and_assoc];refine⟨DA hk (λh=>⟨?_,?_⟩) λh=>⟨?_,?_⟩,?_⟩
 .unfold ĝ;dsimp only[Κ];rw[gF h];cases lo with
  |none=>exact aU _
  |some i=>dsimp only;rw[gF h];lia
 .unfold ĝ;dsimp only[Κ];cases hi with
  |none=>dsimp only;rw[gF h];exact aU _
  |some i=>dsimp only;rw[gF h];lia
 .unfold ĝ;dsimp only[Κ];cases lo with
  |none=>dsimp only;rw[gG<|by lia];lia
  |some i=>dsimp only;rw[gG<|by lia];lia
 .unfold ĝ;dsimp only[Κ];cases hi with
  |none=>dsimp only;rw[gG<|by lia];exact aU _
  |some i=>dsimp only;rw[gG<|by lia];lia
 .unfold dP O.pickL;rw[hb];simp![Ŏ]
abbrev RF(K:Frag)(te:TE)(tl th:TO)(ts:TE):TE:=λσ H Q=>te σ H λx H1=>tl σ H1 λl H2=>th σ H2 λu H3=>ts σ H3 λk H4=>∃a xs j,x=.ref a/\k=.int j/\j≠0/\gk K H4 a xs/\∀ix:List Nat,ix.Nodup->ix.length<=xs.length->∀p,H4 p=fc->Q (.ref p) (upd H4 p<|.lst<|O.pickL ix xs)
def F2(he:PE X e te)(hl:PO X lo tl)(hu:PO X hi th)(hs:PE X st ts):PE X (.Subscript e (.Slice lo hi (fb st) p2) ì)<|RF X.K te tl th ts:=by
 k_upd;refine Subscript_<|thn (he Â s σ H _ I h) λv s1 ⟨x,H1,I1,r1,q1⟩=>?_;refine wpAny_Slice (thn (hl Â s1 σ H1 _ I1 q1) λvl s2 ⟨l,H2,I2,pl,q2⟩=>thn (hu Â s2 σ H2 _ I2 q2) λvu s3 ⟨u,H3,I3,pu,q3⟩=>(by
 rw[evalPart_some]
 refine thn (hs Â s3 σ H3 _ I3 q3) λvk s4 ⟨k,H4,I4,rk,q4⟩=>?_
 let⟨a,xs,j,rfl,rfl,hj,hx,q⟩:=q4
 cases r1
 let⟨tk,rfl⟩:=rk
 have pk:ϒ (.int j tk)<|fb j:=.int j tk
 have I5:Inv X Â σ H4 {s4 with heap:=s4.heap.push {cls:=.type "slice",data:=.fields #[vl,vu,.int j tk]}}:=I4.kept (t':=s4.toks) λb ob q=>Ã _ q
 let⟨ó,r,ht,hz⟩:=I5.list hx
 have hlen:=r.length
 let⟨ix,n1,n2,n3⟩:=Gw (items:=ó.toArray) (lo:=l) (hi:=u) hj
 rw[É,<-hlen]at n2
 show wpAny (à X.prog X.w) X.A (aD e (.Slice lo hi (fb st) p2) (.ref a)<|.ref s4.heap.objs.size) (EP X Â σ Q) X.xe {s4 with heap:=s4.heap.push {cls:=.type "slice",data:=.fields #[vl,vu,.int j tk]}}
 refine tail_any (ops:=[.ref a,.ref s4.heap.objs.size]) ht.isList.typeIs aY.lookup ?_ (by with_unfolding_all rfl)
 refine dm ht.isList (Heap.IsSliceOf.new ..) pl pu pk (λz=>hj<|ê z) ?_ (by rw[É]<;>lia)
 rw[n3]
 refine⟨.ref _,_,I5.laid (a:=_) (t':=s4.toks) (o:=.lst<|O.pickL ix xs) (λb ob q=>Ã _ q) (Ï _) ?_,rfl,q ix n1 n2 _<|I5.hok.fresh<|Ï _⟩
 exact⟨Þ (Þ (Ş _ _) n2) hz,O.pickL ix ó,0,KA r ix,Ô _ rfl⟩))
end
end L2
namespace Snd
open PySem L2
variable {i:Inf}{X:Cx}{Φ:O.Fs}
def Nf{K:Frag}{H:Hp}{xs:List O.Val}{us:List V}(r:RVs K H xs us):∀ix:List Nat,RVs K H (O.pickL ix xs) (O.pickL ix us)
 |[]=>.nil
 |k::ix=>by
  have ih:=Nf r ix;unfold O.pickL at ih ⊢;cases h1:xs[k]? with
  |none =>
   have h2:us[k]?=fc:=by rw[List.getElem?_eq_none_iff]at h1 ⊢;rw[<-r.length];exact h1
   rw[ò,ò,h1,h2];exact ih
  |some x =>let⟨u,h2,h3⟩:=r.get h1;rw[ò,ò,h1,h2];exact .cons h3 ih
def F7{G:O.Hs}{H:Hp}(g:RH i G H){v:O.Val}{x:V}{xs:List O.Val}(e:O.lsA G v=fb xs)(r:RV i.K H v x):∃a vs,x=.ref a/\gk i.K H a vs/\RVs i.K H xs vs:=by
 cases v with
 |ref a =>cases r.ref_inv;let⟨vs,h1,h2⟩:=Zm g (show O.fx (G a)=fb xs from e);exact⟨a,vs,rfl,h1,h2⟩
 |scr ns =>
  cases e;cases r with
  |scr h=>exact⟨_,_,rfl,Yk h,RVs.ints ns⟩
 |_=>cases e
def Lm{a:Expr}{lo hi:Option Expr}{st:Expr}{ma ms:O.E}{ml mh:O.Oe}{p2 ì:Pos}(hK:X.K=i.K)(ha:PE X a<|tE X i Φ ma)(hl:PO X lo<|tOx X i Φ ml)(hh:PO X hi<|tOx X i Φ mh)(hs:PE X st<|tE X i Φ ms):PE X (.Subscript a (.Slice lo hi (fb st) p2) ì) (tE X i Φ<|.pick ma ml mh ms) :=
 (F2 ha hl hh hs).imp λσ H Q ⟨env,G,Qm,Em,p,w,c⟩=>by
  exact⟨env,G,_,Em,p,w,λv G1 H1 x k1 g1 r1 w1=>⟨env,G1,_,Em,p.go k1 g1,w1,λl G2 H2 k2 g2 w2=>⟨env,G2,_,Em,(p.go k1 g1).go k2 g2,w2,λu G3 H3 k3 g3 w3=>⟨env,G3,_,Em,((p.go k1 g1).go k2 g2).go k3 g3,w3,λk G4 H4 y k4 g4 ry w4=>by
    let⟨j,e1,w5⟩:=fj w4
    let⟨hj,w6⟩:=w5
    let⟨xs,e2,w7⟩:=fj w6
    let⟨b,us,hx,hsq,rr⟩:=F7 g4 e2<|((r1.keep k2).keep k3).keep k4
    exact⟨b,us,j,hx,(by cases ZC e1;exact ry.int_inv),hj,by rw[hK];exact hsq,λix n1 n2=>ZU g4 (w7 ix n1<|by rw[rr.length];exact n2) ((((c.go k1).go k2).go k3).go k4) λp hp=>⟨_,fh,(Nf rr ix).keep<|fH.new hp⟩⟩⟩⟩⟩⟩
end Snd
namespace Snd
open PySem L2 PyProof.Rows
variable {i:Inf}{X:Cx}{Φ:O.Fs}
def WC:∀{xs:List O.Val}{k n:Nat}{v:O.Val},(O.enumL k xs)[n]?=fb v->∃x,xs[n]?=fb x/\v=.tup [.int ((k+n:Nat):Int),x]
 |[],k,n,v,h=>by simp[O.enumL]at h
 |x::xs,k,0,v,h=>by have h:fb (O.Val.tup [.int k,x])=fb v:=h;cases h;exact⟨x,rfl,rfl⟩
 |x::xs,k,n+1,v,h=>by let⟨y,h1,h2⟩:=WC (xs:=xs) (k:=k+1) (n:=n) (v:=v) (by simpa[O.enumL]using h);refine⟨y,⇑h1,?_⟩;rw[h2,show k+1+n=k+(n+1) by lia]
def Ww:∀(xs:List O.Val) (k:Nat),(O.enumL k xs).length=xs.length
 |[],_=>rfl
 |x::xs,k=>by show(O.enumL (k+1) xs).length+1=xs.length+1;rw[Ww xs]
variable {xs:List O.Val}
def CY{H0:Hp}{a:È}{us:List V}(ha:H0 a=fb (.tup us)\/KT i.K a us)(ra:RVs i.K H0 xs us):ItOk i H0 (Ite i.K a) (λ_=>True) (O.enumL 0 xs) where
 go:=λn G H v k g e hv=>by let⟨x,hx,rfl⟩:=WC hv;have h1:gm i.K H a us:=Zj<|ha.imp (k.t _ _) id;let⟨x',h5,h6⟩:=(ra.keep k).get hx;refine⟨⟨us,x',h1,h5⟩,λw H' ⟨p,e1,hp,e2⟩=>?_⟩;subst e1;have:=e2 us x' h1 h5;subst this;have k:=fH.new (o:=.tup [.int n,x']) hp;refine⟨k,Xw g hp,.tup (.inl fh)<|.cons ?_<|.cons (h6.keep k) .nil⟩;rw[Ų];exact .int _
 stop:=λn G H k g e hn=>by have h1:gm i.K H a us:=Zj<|ha.imp (k.t _ _) id;exact⟨us,h1,by rw[<-ra.length,<-Ww xs 0];exact hn⟩
def On{v:O.Val}(h:O.tupOf v=fb xs):v=.tup xs:=by
 cases v with
 |tup ys=>cases h;rfl
 |_=>cases h
def F6{es:List Expr}{kk:Nat}{tp p ì:Pos}{e:Expr}{m:O.E}(hK:X.K=i.K)(hg:Gl X "enumerate")(hm:X.mg "enumerate" = fc)(he:PE X e<|tE X i Φ m)(hs:Ú [e] X.env=[(ff,eval e X.env)]) :
  PI X (.Tuple es kk tp) (.Call (.Name "enumerate" p) [e] [] ì) (tIt X i Φ<|.enum m) :=
 (CD hg hm (ZJ he gh hs) hs).imp λσ H R ⟨env,G,QI,Em,p,w,c⟩=>by
  change tE X i Φ m σ H _;refine one p w λv G1 H1 x k1 p1 rx q=>?_;let⟨xs,e1,q2⟩:=fj q;clear q;cases On e1;rw[hK];cases rx with
  |tup hp hr=>exact⟨_,rfl,⟨_,Zj hp⟩,c _ _ G1 H1 _ k1 p1.hp (CY hp hr) q2⟩
end Snd
namespace L2
open PySem PySem.Spec PyProof.Rows
open AutoSeq1 (wpAny_loadPart') in
def Ih(l:È)(items:Array Ä)(n:Nat)(dct:Option È)(sl:Array<|Option Ä) :
  Meets (Builtin.«enumerate.__new__» ⟨[.type "enumerate",.ref l],[]⟩) (λ_ R s=>s.heap.get? l=fb { cls:=.type "list",dict:=dct,data:=.seq items n,slots:=sl }/\
    R (.ok<|.ret<|.ref (s.heap.push {cls:=.type "list_iterator",data:=.fields #[.ref l,.int 0 0]}).objs.size)
      { s with heap:=(s.heap.push { cls:=.type "list_iterator",data:=.fields #[.ref l,.int 0 0] }).push { cls:=.type "enumerate",data:=.fields #[.none,.bool ff,.ref s.heap.objs.size,Ŝ 0,.none,.none] } }) :=
 .of_wp λprog w A R s h=>by
  let⟨hp,g,d,tk,os⟩:=s;let⟨hl,h⟩:=h;have hsub:=sub_enumerate;have hL:Heap.IsList (aw ⟨hp,g,d,tk,os⟩) l items:=⟨_,hl,rfl,n,rfl⟩
  wp_walk using ø hl
  refine wpAny_stack_any λst=>Ñ ?_;split
  .rename_i c _ _ _ _ _;cases (c==Value.type "enumerate")<;>(wp_walk using ø hl,Ś hL;exact⟨_,rfl,h⟩)
  .wp_walk using ø hl,Ś hL;exact⟨_,rfl,h⟩
variable {w:ā}
def Oy{prog:è}{A:č}{E:Ä->Æ->Prop}{s:Æ}{l:È}{items:Array Ä}{Q:Ä->Æ->Prop}(hL:s.heap.IsList l items)
  (h:∀h',IsEnum h' (s.heap.objs.size+1) s.heap.objs.size 0 .none->h'.IsListIter s.heap.objs.size l 0->(∀b o,s.heap.get? b=fb o->h'.get? b=fb o)->Q (.ref<|s.heap.objs.size+1) {s with heap:=h'}) :
  wpAny (à prog w) A (call (.type "enumerate") [.ref l]) Q E s:=by
 let⟨⟨c,dct,dt,sl⟩,hl,hc,n,hd⟩:=hL;simp only at hc hd;subst hc hd;refine eR F.called_enumerate (by decide) (F.typeCall_enumerate_1 _) (F.newCall_enumerate_1 _) (λobj=>F.args_object_init_2 obj _) F.entry_enumerate_new (Ih l items n dct sl) ⟨hl,?_⟩;have hz:(s.heap.push {cls:=.type "list_iterator",data:=.fields #[.ref l,.int 0 0]}).objs.size=s.heap.objs.size+1:=ğ ..;have hg:=Ô (s.heap.push {cls:=.type "list_iterator",data:=.fields #[.ref l,.int 0 0]}) (o:={cls:=.type "enumerate",data:=.fields #[.none,.bool ff,.ref s.heap.objs.size,Ŝ 0,.none,.none]}) rfl;rw[hz]at hg;show _/\_;rw[hz];exact⟨⟨_,hg,rfl⟩,h _ hg ⟨_,Ã _<|Ô _ rfl,rfl,rfl⟩ λb o x=>Ã _<|Ã _ x⟩
abbrev ItL(K:Frag)(a:È):It :=
 ⟨λi H=>∃xs x,gk K H a xs/\xs[i]?=fb x,λi H v H'=>∃p,v=.ref p/\H p=fc/\∀xs x,gk K H a xs->xs[i]?=fb x->H'=upd H p (.tup [.int i,x]),λi H=>∃xs,gk K H a xs/\xs.length<=i⟩
variable {es:List Expr} {kk:Nat} {tp:Pos}
def Uk{P:è}{K:Frag}(a it e:È)(Ũ:e≠it) :
  Turn P w K (.Tuple es kk tp) (ItL K a) [e,it] e (λi h=>(∃Ν,IsEnum h e it i Ν)/\h.IsListIter it a i) where
 mem:=by simp
 obj:=λi h st b hb=>by
  let⟨⟨Ν,h1⟩,o2,e2,_,d2⟩:=st;rcases Ç.mp hb with q|q
  .subst q;exact⟨_,h1,λv z=>by cases z⟩
  .have q:b=it:=⇑q
   subst q;exact⟨o2,e2,λv z=>by rw[d2]at z;cases z⟩
 keep:=λi h h' st k=>⟨let ⟨Ν,h1⟩:=st.1;⟨Ν,k e (by simp) _ h1⟩,st.2.at λo q=>k it (by simp) o q⟩
 item:=by
  k_ne;subst hP hw hK;let⟨xs,x,hq,hx⟩:=hg;let⟨ó,rv,pl,hz⟩:=I.list hq;let⟨u,hu,ru⟩:=rv.get hx;have hsz:=rv.length;have hi:i<ó.toArray.size:=by rw[É];exact(Î.mp hu).1
  let⟨⟨Ν,h1⟩,h2⟩:=st;have hfi:=hf it (by simp);have hai:a≠it:=λz=>by let⟨o,ho,ah,_⟩:=h2;let⟨o',ϝ,hcl',_⟩:=pl.isList;rw[z,ho]at ϝ;cases ϝ;rw[ah]at hcl';exact gL (ŝ hcl') (by decide)
  have hae:e∉[it,a]:=λz=>by
   rcases Ç.mp z with z|z
   .exact Ũ z
   .have z:e=a:=⇑z
    let⟨o',ϝ,hcl',_⟩:=pl.isList;rw[<-z,h1]at ϝ;cases ϝ;exact gL (ŝ hcl') (by decide)
  refine dU (Draws.list (A:=X.A.in1) (I.ok.hd hc) it a hai ó.toArray) h1 ⟨h2,pl.isList⟩ hi Ũ hae λv h3 tk hv hout hst3 hT _ hk=>?_;have ev:v=u:=by
   have hv:ó[i]?=fb v:=⇑hv
   rw[hu]at hv;exact(ê hv).symm
  subst ev;have nT:∀b∈[e,it],s.heap.objs.size≠b:=λb hb z=>by
   rcases Ç.mp hb with q|q
   .exact gL (Ø h1) (by rw[<-q,<-z];exact Ĕ _)
   .have q:b=it:=⇑q
    let⟨o,ho,_⟩:=h2;exact gL (Ø ho) (by rw[<-q,<-z];exact Ĕ _)
  have aG:=I.fpOk (H':=H) (Ï s.heap.objs.size) I.fresh;refine⟨.ref s.heap.objs.size,rfl,cr hout λh4 he4 hs4=>?_⟩;have I4:Inv X Â σ H {s with heap:=h4,toks:=tk+1}:=I.turnedL (t':=tk+1) (ch:=[e,it]) (λb o hb q=>hs4.extBut b o (λz=>hb<|by simp[z])<|hk b o (λz=>hb<|by simp[z]) (λz=>hb<|by simp[z]) q) hf;have hT4:h4.get? s.heap.objs.size=fb {cls:=.type "tuple",data:=.seq #[.int i tk,v]}:=hs4.extBut _ _ (nT e<|by simp) hT;let⟨f0,f1,f2,f3,f4,f5⟩:=aG;have I5:Inv X Â σ (upd H s.heap.objs.size<|.tup [.int i,x]) {s with heap:=h4,toks:=tk+1}:=I4.track f0 I.sz f1 f4 f5 ⟨by show 2<=Ü;decide,[.int i tk,v],.cons ⟨tk,rfl⟩<|.cons ru .nil,_,hT4,rfl,_,rfl⟩;refine⟨.ref s.heap.objs.size,_,I5,rfl,⟨s.heap.objs.size,rfl,f0,λys y hy hyi=>?_⟩,⟨⟨v,⇑he4⟩,hst3.1.at λo q=>hs4.extBut it o (Ne.symm Ũ) q⟩,λb hb=>?_⟩
  .have ey:ys=xs:=I.list_inj hy hq;rw[ey,hx]at hyi;rw[ê hyi]
  .rw[fg (nT b hb).symm];exact(hf b hb).1
 done:=by
  k_ne;subst hP hw hK;let⟨xs,hq,hx⟩:=hg;let⟨ó,rv,pl,hz⟩:=I.list hq;have hl:=rv.length;let⟨⟨Ν,h1⟩,h2⟩:=st;have hai:a≠it:=λz=>by let⟨o,ho,ah,_⟩:=h2;let⟨o',ϝ,hcl',_⟩:=pl.isList;rw[z,ho]at ϝ;cases ϝ;rw[ah]at hcl';exact gL (ŝ hcl') (by decide)
  have hT:s.TypeIs (.ref e) "enumerate":=⟨_,h1,rfl⟩
  unfold Ů;refine Á<|ξ<|Ą (name:=gN "__next__") hT F.slot_enumerate_next<|ď F.slot_enumerate_next hT F.entry_enumerate_next ?_<|F.args_enumerate_next_1 _;show wpAny _ _ (Ϸ (.ref e) 2 >>= _) _ _ _;refine Á<|ă h1 rfl (x:=.ref it) rfl ?_;refine Á (wpAny_nextOf_list_end (A:=X.A.in1) (I.ok.hd hc) h2 pl.isList (by simp;lia) λh' x he' hx'=>?_);let⟨o,ho,ah⟩:=hx';refine Á<|θ (T:="StopIteration") (b:=fe) ⟨o,ho,ah⟩ aa<|Ñ ⟨rfl,?_⟩;exact I.turnedL (t':=s.toks) (ch:=[it]) (λb ob hb q=>he' b ob (λz=>hb<|by simp[z]) q) λb hb=>hf b<|æ _ hb
 self:=λA i s Q E st h=>by let⟨⟨Ν,h1⟩,_⟩:=st;exact Ϗ h1 h
section
variable {X:Cx}
abbrev Pj(K:Frag)(ta:TA):TI:=λσ H R=>ta σ H λvs H1=>∃a,vs=[.ref a]/\(∃xs,gk K H1 a xs)/\R (ItL K a) H1
def DS{p ì:Pos}{e:Expr}{ta:TA}(hg:Gl X "enumerate")(hm:X.mg "enumerate" = fc)(ha:PA X [e] ta)(hs:Ú [e] X.env=[(ff,eval e X.env)]:=by rfl) :
  PI X (.Tuple es kk tp) (.Call (.Name "enumerate" p) [e] [] ì) (Pj X.K ta):=by
 intro Â s σ H R I h;refine Call_ (Z2 (u:=.type "enumerate") I hg hm (by kernel_rfl)<|PyProof.Rows.callWith_type1 (T:="enumerate") (thn (ha ì Â s σ H _ I h) λus s1 ⟨vs,H1,I1,r1,q1⟩=>?_) hs rfl);let⟨a,e1,⟨xs,hq⟩,q⟩:=q1;subst e1;let⟨u,rfl,ru⟩:=ZR r1;cases ru;let⟨ó,rv,pl,hz⟩:=I1.list hq;refine Oy pl.isList λh2 he2 cb hk2=>?_;have I2:Inv X Â σ H1 {s1 with heap:=h2}:=I1.kept (t':=s1.toks) hk2;refine Ϗ he2 ⟨s1.heap.objs.size+1,[s1.heap.objs.size+1,s1.heap.objs.size],_,_,H1,rfl,I2,Uk a s1.heap.objs.size (s1.heap.objs.size+1)<|İ<|ĳ _,⟨⟨_,he2⟩,cb⟩,λb hb=>?_,q⟩;have bo:s1.heap.objs.size<=b:=by
  rcases Ç.mp hb with z|z
  .rw[z];exact Ŧ _
  .have z:b=s1.heap.objs.size:=⇑z
   rw[z];exact Ï _
 exact I1.fpOk bo<|I1.hok.fresh bo
end
end L2
namespace Snd
open PySem L2
variable {i:Inf}{X:Cx}{Φ:O.Fs}
def Ej{H0:Hp}{a:È}{xs:List O.Val}:ItOk i H0 (ItL i.K a) (λg=>O.fx (g a)=fb xs) (O.enumL 0 xs) where
 go:=λn G H v k g e hv=>by let⟨x,hx,rfl⟩:=WC hv;let⟨us,h1,h2⟩:=Zm g e;let⟨x',h5,h6⟩:=h2.get hx;refine⟨⟨us,x',h1,h5⟩,λw H' ⟨p,e1,hp,e2⟩=>?_⟩;subst e1;have:=e2 us x' h1 h5;subst this;have k:=fH.new (o:=.tup [.int n,x']) hp;refine⟨k,Xw g hp,.tup (.inl fh)<|.cons ?_<|.cons (h6.keep k) .nil⟩;rw[Ų];exact .int _
 stop:=λn G H k g e hn=>by let⟨us,h1,h2⟩:=Zm g e;exact⟨us,h1,by rw[<-h2.length,<-Ww xs 0];exact hn⟩
def BH{es:List Expr}{kk:Nat}{tp p ì:Pos}{e:Expr}{m:O.E}(hK:X.K=i.K)(hg:Gl X "enumerate")(hm:X.mg "enumerate" = fc)(he:PE X e<|tE X i Φ m)(hs:Ú [e] X.env=[(ff,eval e X.env)]) :
  PI X (.Tuple es kk tp) (.Call (.Name "enumerate" p) [e] [] ì) (tIt X i Φ<|.enumL m) :=
 (DS hg hm (ZJ he gh hs) hs).imp λσ H R ⟨env,G,QI,Em,p,w,c⟩=>by change tE X i Φ m σ H _;refine one p w λv G1 H1 x k1 p1 rx q=>?_;let⟨a,e1,q2⟩:=fj q;clear q;let⟨xs,e2,q3⟩:=fj q2;cases XR e1;cases rx.ref_inv;rw[hK];let⟨us,h1,_⟩:=Zm p1.hp e2;exact⟨_,rfl,⟨_,h1⟩,c _ _ G1 H1 _ k1 p1.hp Ej q3⟩
end Snd
namespace L2
open PySem PySem.Spec PyProof.Rows
open PySem.Builtin
def MN:cp (.type "list") "keys" = pure fc:=by rw[ŕ,ĩ];kernel_rfl
def YS:cD table "dict.update.loop" = fb Builtin.«dict.update.loop»:=bB (by kernel_rfl)
def ZM:plainId "dict.update.loop" = fe:=by decide +kernel
section
variable {prog:è}{w:ā}{A:č}{E:Ä->Æ->Prop}
def Bc{s:Æ}{a:È}{xs:Array Ä}{k:Nat}{Q:Option Ä->Æ->Prop}(hx:s.heap.get? a=fb {cls:=.type "list",data:=.seq xs k})(hA:A.handled=fc)
  (h:∀h' tk,(∀b o,s.heap.get? b=fb o->h'.get? b=fb o)->Q fc {s with heap:=h',toks:=tk}) :
  wpAny (à prog w) A (getAttr? (.ref a) "keys") Q E s:=by
 let⟨hp,g,d,tk,os⟩:=s;have hT:∀tk',(⟨hp,g,d,tk',os⟩:Æ).TypeIs (.ref a) "list":=λ_=>⟨_,hx,rfl⟩
 have f1:=sub_AttributeError;have f3:=F.slot_list_getattribute.lookup;have f4:=F.slot_list_getattribute.bind<|.ref a;have f5:=am_list_getattr_none;unfold getAttr? getAttrBy? getAttrBy
 repeat (any_goals (first|assumption|exact hT _|((with_reducible show wpAny _ _ (call (Value.builtin "list.__getattribute__") _ _) _ _ _);refine Ξ F.slot_list_getattribute (hT _) am_entry_list_getattribute (F.args_list_getattribute_2 _ _) (meets_getattribute_miss_list a xs k _ "keys" _ MN (by decide)<|by size_fits) ⟨hx,hA,λh' tk' e hx'=>?_⟩)|wp_step))
 let⟨t',u',he⟩:=hx'.there;show wpAny _ _ (getattributeRaised _ _ _ _ _ _ _) _ _ _;unfold getattributeRaised
 repeat (any_goals (first|assumption|wp_step))
 exact h _ _ hx'.keeps
abbrev PairsH(I d:È)(items:Array Ä)(vals:List<|Key×Ä)(prog:è)(w:ā)(h:Ć):Prop:=∀(i:Nat) (v:Ä),items[i]?=fb v->∃(a:È) (key:Ä) (p:Key×Ä),v=.ref a/\a≠I/\a≠d/\vals[i]?=fb p/\ϳ h a #[key,p.2]/\(Zd prog w).is p.1 key=fe
variable {I:È} {d:È} {items:Array Ä} {vals:List (Key×Ä)}
def PairsH.keep{h h':Ć}(t:PairsH I d items vals prog w h)(k:∀b o,b≠I->b≠d->h.get? b=fb o->h'.get? b=fb o):PairsH I d items vals prog w h':=λi v e=>by let⟨a,key,p,h1,h2,h3,h4,⟨o,q1,q2⟩,h5⟩:=t i v e;exact⟨a,key,p,h1,h2,h3,h4,⟨o,k a o h2 h3 q1,q2⟩,h5⟩
def OS{R:bw->Æ->Prop}{l:È}(hh:A.handled=fc)(hlI:l≠I)(hdI:d≠I)(hdl:d≠l)(hv:vals.length=items.size) :
  ∀(k j:Nat) (s:Æ) (Ī:List<|Key×Ä) (t:Tok),items.size - j=k->j<=items.size->(s.heap.IsListIter I l j/\s.heap.IsList l items)->PairsH I d items vals prog w s.heap->s.heap.DictOf (Zd prog w) d Ī->Ī.length+k<=Ü->
  (∀h' tk,h'.DictOf (Zd prog w) d ((vals.drop j).foldl (λm p=>eS m p.1 p.2) Ī)->(∀b o,b≠I->b≠d->s.heap.get? b=fb o->h'.get? b=fb o)->R (.ok<|.ret .none) {s with heap:=h',toks:=tk})->
  codeAny (à prog w) A (.builtin "dict.update.loop" ⟨[.ref d,.ref I,.int j t,.none],[]⟩) R s:=by
 have W:=Walks.list (prog:=prog) (w:=w) (A:=A.in1) hh I l hlI items;intro k;induction k with
 |zero =>
  intro j s Ī t hk hj Š hT hd hz hR;have hin:j=items.size:=by lia
  refine Ŕ YS ?_;rw[Ŀ ZM _];show wpAny _ A.in1 (Ů (.ref I) >>= _) _ _ s;refine Á<|W.done s _ _ (hin▸Š) λh' tk aB=>?_;refine Ñ ?_;refine hR h' tk ?_ λb o h1 _ e=>aB b o ⇑h1 e;rw[Ŭ<|by lia];let⟨o,es,ep,ho,r⟩:=hd;exact⟨o,es,ep,aB d o ⇑hdI ho,r⟩
 |succ k ih =>
  intro j s Ī t hk hj Š hT hd hz hR;have aq:j<items.size:=by lia
  refine Ŕ YS ?_;rw[Ŀ ZM _];show wpAny _ A.in1 (Ů (.ref I) >>= _) _ _ s;refine Á<|W.item j s _ _ aq Š λv h' tk hP dJ aB=>?_;have df:PairsH I d items vals prog w h':=hT.keep λb o h1 _ e=>aB b o ⇑h1 e;have cG:h'.DictOf (Zd prog w) d Ī:=by let⟨o,es,ep,ho,r⟩:=hd;exact⟨o,es,ep,aB d o ⇑hdI ho,r⟩
  let⟨a,key,p,rfl,haI,had,hp,⟨o,ho,hc,n,hdat⟩,hkey⟩:=df j v hP;show wpAny _ A.in1 (Ņ [.ref a] ((tryCatch (Dict.pairItems<|.ref a) _) >>= _) >>= _) _ _ _;refine Á<|Ĭ<|Á<|ź ?_;unfold Dict.pairItems;refine Á<|Ε (T:="tuple") ⟨o,ho,hc⟩ ?_;rw[gF<|by decide];refine Á<|ċ ho hdat<|Ñ ?_;show wpAny _ A.in1 (Ņ [key,p.2]<|dictSet d key p.2) _ _ _;refine Ĭ (wpAny_dictSet_pairs (hsz:=by lia) hkey cG λcN hd'' hs''=>?_);have keep2:∀b o,b≠I->b≠d->s.heap.get? b=fb o->cN.get? b=fb o:=λb o h1 h2 e=>(hs''.2 b h2).trans (aB b o ⇑h1 e);refine Ñ ⟨Ū ZM _,ih (j+1) _ (eS Ī p.1 p.2) 0 (by lia) aq (W.frame _ _ _ dJ λb hb o e=>?_) (hT.keep keep2) hd'' ?_ λh3 tk3 ej hk3=>?_⟩
  .refine(hs''.2 b ?_).trans e;simp![Ç,Õ,or_false]at hb;rcases hb with rfl|rfl
   .exact Ne.symm hdI
   .exact Ne.symm hdl
  .have:=stored_length_le Ī p.1 p.2;lia
  .refine hR h3 tk3 ?_ λb o h1 h2 e=>hk3 b o h1 h2<|keep2 b o h1 h2 e;have e:vals.drop j=p::vals.drop (j+1):=by
    rw[ľ<|by lia];congr 1;exact ê ((Ù<|by lia).symm.trans hp)
   rw[e];exact ej
end
abbrev Ck(K:Frag)(H:Hp)(ys:List V)(kvs:List<|Key×V):Prop:=ys.length=kvs.length/\∀(i:Nat) (y:V),ys[i]?=fb y->∃(a:È) (p:Key×V),y=.ref a/\kvs[i]?=fb p/\gm K H a [kV p.1,p.2]
def KN{X:Cx}{Â:List (È×Obj)}{σ:St}{H:Hp}{s:Æ}(I:Inv X Â σ H s){d J:È}(hJ:s.heap.objs.size<=J)(hd:s.heap.objs.size<=d):∀{ys:List V}{kvs:List (Key×V)}{ó:List Ä},gp ys ó->ys.length=kvs.length->(∀(i:Nat) (y:V),ys[i]?=fb y->∃(a:È) (p:Key×V),y=.ref a/\kvs[i]?=fb p/\gm X.K H a [kV p.1,p.2])->
  ∃vals:List<|Key×Ä,KV kvs vals/\vals.length=ó.length/\∀(i:Nat) (v:Ä),ó[i]?=fb v->∃(a:È) (key:Ä) (p:Key×Ä),v=.ref a/\a≠J/\a≠d/\vals[i]?=fb p/\ϳ s.heap a #[key,p.2]/\(Zd X.prog X.w).is p.1 key=fe
 |[],[],[],_,_,_=>⟨[],.nil,rfl,λi v e=>by simp at e⟩
 |_::_,[],_,_,h,_=>by cases h
 |[],_::_,_,_,h,_=>by cases h
 |y::ys,(k,x)::kvs,_,.cons (b:=u) (l₂:=ó) r t,hl,h=>by
  let⟨a,p,rfl,e2,hq⟩:=h 0 y rfl;cases e2;let⟨vals,k1,k2,k3⟩:=KN I hJ hd t ⇑hl λi z e=>h (i+1) z ⇑e;let⟨tt,r2,pt,_⟩:=I.tuple hq;let⟨ku,xu,rfl,rk,rx⟩:=r2.two;cases (show u=Value.ref a from r);have aq:a<s.heap.objs.size:=pt.lt;refine⟨(k,xu)::vals,.cons ⟨rfl,rx⟩ k1,by simp[k2],λi v e=>?_⟩;cases i with
  |zero =>simp at e;subst e;exact⟨a,ku,(k,xu),rfl,â<|å aq hJ,â<|å aq hd,rfl,⇑pt,XA rk⟩
  |succ i=>simpa using k3 i v ⇑e
def KV.all{kvs:List (Key×V)}{vals:List (Key×Ä)}(r:KV kvs vals):∀{m:List (Key×V)}{n:List (Key×Ä)},KV m n->KV (kvs.foldl (λm p=>fK m p.1 p.2) m) (vals.foldl (λm p=>eS m p.1 p.2) n):=by
 unfold KV at r;induction r with
 |nil=>exact λh=>h
 |cons q t ih =>intro m n h;rename_i a b l1 l2;let⟨k,x⟩:=a;let⟨k2,u⟩:=b;let⟨e,rx⟩:=q;cases (show k=k2 from e);exact ih<|h.put k rx
def GM(kvs:List<|Key×V):∀m:List<|Key×V,(kvs.foldl (λm p=>fK m p.1 p.2) m).length<=m.length+kvs.length:=by
 induction kvs with
 |nil=>intro m;simp
 |cons p r ih =>intro m;have h1:=ih<|fK m p.1 p.2;have h2:=Ys m p.1 p.2;rw[ē,Ð];lia
abbrev BM(K:Frag):List V->Hp->VK->Prop:=λxs H Q=>∃p ys kvs,xs=[V.ref p]/\H p=fb (.lst ys)/\Ck K H ys kvs/\∀l,H l=fc->Q (.ref l) (upd H l<|.dK<|kvs.foldl (λm p=>fK m p.1 p.2) [])
def Oo{X:Cx}(hc:X.calm=fe):fq X (.type "dict")<|BM X.K:=by
 k_put;let⟨p,ys,kvs,rfl,hp,⟨hl,hpair⟩,q⟩:=h;let⟨u,rfl,ru⟩:=ZR r;cases ru;let⟨hz,ó,n,rv,bF⟩:=(show fu X.prog X.w H s.heap p (.lst ys) from I.hok p _ hp)
 have hlen:=rv.length;have hh:X.A.handled=fc:=I.ok.hd hc;refine callType_codes (Q₁:=λobj ė=>obj=.ref s.heap.objs.size/\ė={s with heap:=s.heap.push {cls:=.type "dict",data:=.dict #[]}}) F.kt_called_dict (F.kt_typeCall_dict_1 _) F.entry_dict_init (kt_code_dict_new _ ⟨rfl,rfl⟩) ?_;rintro obj ė ⟨rfl,rfl⟩;have hnew:(s.heap.push {cls:=.type "dict",data:=.dict #[]}).DictOf (Zd X.prog X.w) s.heap.objs.size []:=Heap.DictOf.new s.heap;have hobj1:(s.heap.push {cls:=.type "dict",data:=.dict #[]}).get? p=fb {cls:=.type "list",data:=.seq ó.toArray n}:=Ã _ bF;have hplt:p<s.heap.objs.size:=Ø bF;refine⟨hnew.typeIs,F.args_dict_init_2 _ _,?_⟩;unfold Builtin.«dict.__init__»;refine Á ?_;unfold Builtin.Dict.selfAndRest;refine Á<|wpAny_notOrdered_dict hnew.typeIs ?_;show wpAny _ _ (pure (s.heap.objs.size,[Value.ref p])) _ _ _;refine Ñ ?_;show wpAny _ _ (Builtin.Dict.updateFrom "dict.__init__" s.heap.objs.size (.ref p) [] .none) _ _ _;unfold Builtin.Dict.updateFrom;refine Á<|Ε (T:="list") ⟨_,hobj1,rfl⟩ ?_;rw[gF<|by decide];refine Á<|Bc hobj1 hh λh2 tk2 hk2=>?_;rw[gF<|show(fc:Option Ä).isNone=fe from rfl];refine Á<|Ο ?_;have hobj2:=hk2 _ _ hobj1;have hl2:h2.IsList p ó.toArray:=⟨_,hobj2,rfl,n,rfl⟩
 refine Á<|Ś hl2 ?_;have old2:∀b o,s.heap.get? b=fb o->h2.get? b=fb o:=λb o e=>hk2 b o<|Ã _ e;have hdo2:h2.DictOf (Zd X.prog X.w) s.heap.objs.size []:=by let⟨o,es,ep,ho,r⟩:=hnew;exact⟨o,es,ep,hk2 _ _ ho,r⟩
 have hsz2:s.heap.objs.size<h2.objs.size:=by let⟨o,es,ep,ho,r⟩:=hdo2;exact Ø ho
 let⟨vals,k1,k2,k3⟩:=KN I (d:=s.heap.objs.size) (J:=h2.objs.size) (ο hsz2) (Ï _) rv hl hpair;have be:∀b o,s.heap.get? b=fb o->(h2.push {cls:=.type "list_iterator",data:=.fields #[.ref p,Ŝ 0]}).get? b=fb o:=λb o e=>Ã _<|old2 b o e;refine Ñ ⟨Ū ZM _,?_⟩;refine OS (prog:=X.prog) (w:=X.w) (A:=X.A.in1) (I:=h2.objs.size) (l:=p) (d:=s.heap.objs.size) (items:=ó.toArray) (vals:=vals) hh (â<|Ű hplt hsz2) (â hsz2) (İ hplt) (by rw[k2];simp) _ 0 _ [] 0 rfl (ī _) ?_ (λi v e=>?_) ?_ ?_ λh3 tk3 ej hk3=>?_
 .exact⟨⟨_,Ô _ rfl,rfl,rfl⟩,⟨_,Ã _ hobj2,rfl,n,rfl⟩⟩
 .obtain⟨a,key,p2,e1,e2,e3,e4,⟨o,ho,r⟩,e6⟩:=k3 i v ⇑e;exact⟨a,key,p2,e1,e2,e3,e4,⟨o,be a o ho,r⟩,e6⟩
 .exact hdo2.push _
 .simp![Ĉ,É];lia
 .rw[ϟ]at ej;have hn:=I.hok.fresh<|Ï s.heap.objs.size;have hzz:(kvs.foldl (λm p=>fK m p.1 p.2) []).length<=Ü:=by
   have:=GM kvs [];rw[<-hl]at this;simp at this;lia
  refine⟨rfl,.ref s.heap.objs.size,upd H s.heap.objs.size<|.dK<|kvs.foldl (λm p=>fK m p.1 p.2) [],I.laid (t':=tk3) (λb u e=>?_) (Ï _)<|Kd hzz (beq_eq_false_iff_ne.mpr<|Ne.symm<|â I.big) (k1.all .nil) ej,rfl,q _ hn⟩;have hb:=Ø e;exact hk3 b u (â<|Ű hb hsz2) (â hb)<|be b u e
def Ai:mroOf (.type "reversed")=pure [.type "reversed",.type "object"]:=by rw[mroOf_type];kernel_rfl
def Uf:cp (.type "reversed") "__new__" = pure (fb<|.builtin "reversed.__new__"):=by rw[ŕ,ĩ];kernel_rfl
def LQ(a:Ä):checkTypeCall "reversed" ⟨[a],[]⟩=pure ():=by kernel_rfl
def PD(a:Ä):checkBuiltinCall "reversed.__new__" ⟨[.type "reversed",a],[]⟩=pure ():=by kernel_rfl
def Pl:cD table "reversed.__new__" = fb Builtin.«reversed.__new__»:=bB (by kernel_rfl)
def Of:cD table "list_reverseiterator.__next__" = fb Builtin.«list_reverseiterator.__next__»:=bB (by kernel_rfl)
def NL(a:Ä):cz "list_reverseiterator.__next__" ⟨[a],[]⟩:=by unfold cz;kernel_rfl
def FH:cp (.type "list_reverseiterator") "__len__" = pure fc:=by rw[ŕ,ĩ];kernel_rfl
def slot_rnext:Slot "list_reverseiterator" "__next__" "list_reverseiterator.__next__" :=
 .of (owner:="list_reverseiterator") (n:="__next__") (by rw[ŕ,ĩ];kernel_rfl) (by decide +kernel) (by decide +kernel) (by decide +kernel)
  (by first|exact .inl (by decide +kernel)|exact .inr<|by decide +kernel) (by rw[ō];kernel_rfl)
def JD:Slot "list_reverseiterator" "__iter__" "list_reverseiterator.__iter__" :=
 .of (owner:="list_reverseiterator") (n:="__iter__") (by rw[ŕ,ĩ];kernel_rfl) (by decide +kernel) (by decide +kernel) (by decide +kernel)
  (by first|exact .inl (by decide +kernel)|exact .inr<|by decide +kernel) (by rw[ō];kernel_rfl)
def slot_rhint:Slot "list_reverseiterator" "__length_hint__" "list_reverseiterator.__length_hint__" :=
 .of (owner:="list_reverseiterator") (n:="__length_hint__") (by rw[ŕ,ĩ];kernel_rfl) (by decide +kernel) (by decide +kernel) (by decide +kernel)
  (by first|exact .inl (by decide +kernel)|exact .inr<|by decide +kernel) (by rw[ō];kernel_rfl)
def Oq:Slot "reversed" "__init__" "object.__init__" :=
 .of (owner:="object") (n:="__init__") (by rw[ŕ,ĩ];kernel_rfl) (by decide +kernel) (by decide +kernel) (by decide +kernel)
  (by first|exact .inl (by decide +kernel)|exact .inr<|by decide +kernel) (by rw[ō];kernel_rfl)
def OQ:TypeCalled "reversed" "reversed.__new__" "object.__init__" :=
 ⟨by decide +kernel,by decide +kernel,⟨_,_,Ai⟩,madeBy_type Ai Uf (by decide +kernel),by decide +kernel,by rw[ō];kernel_rfl,Oq⟩
def BF:cD table "list_reverseiterator.__iter__" = fb Builtin.«dict_keyiterator.__iter__» :=
 entryFor_alias (id':="dict_keyiterator.__iter__") (by kernel_rfl) (by first|rfl|decide +kernel|(unfold String.splitOn;simp +decide [String.splitOnAux])) (by decide +kernel) (by kernel_rfl)
def Eg(a:Ä):cz "list_reverseiterator.__iter__" ⟨[a],[]⟩:=by unfold cz;kernel_rfl
abbrev RevIt(h:Ć)(it l:È)(k:Int):Prop:=∃o,h.get? it=fb o/\o.cls=.type "list_reverseiterator"/\o.data=.fields #[.ref l,.int k 0]
section
variable {prog:è}{w:ā}{A:č}{E:Ä->Æ->Prop}{s:Æ}
variable {it:È} {l:È}
def RevIt.typeIs{k:Int}(h:RevIt s.heap it l k):s.TypeIs (.ref it) "list_reverseiterator":=by let⟨o,h1,h2,_⟩:=h;exact⟨o,h1,h2⟩
variable {Q:Option Ä->Æ->Prop}
def Cz{k:Nat}{items:Array Ä}{x:Ä}(ϲ:RevIt s.heap it l k)(hl:s.heap.IsList l items)(hx:items[k]?=fb x)
  (hQ:∀h',RevIt h' it l ((k:Int) - 1)->ν it s.heap h'->Q (fb x) {s with heap:=h'}):wpAny (à prog w) A (Ů<|.ref it) Q E s:=by
 have hT:=ϲ.typeIs;let⟨o,ho,hc,hd⟩:=id ϲ;let⟨ol,hol,_,nl,hdl⟩:=hl;unfold Ů;refine Á<|ξ<|Ą (name:=gN "__next__") hT slot_rnext<|ď slot_rnext hT Of ?_<|NL _;show wpAny _ _ (Ϸ (.ref it) 1 >>= _) _ _ s;refine Á<|ă ho hd (x:=.int k 0) rfl ?_;refine ŭ (λei=>gL ei<|by lia) λ_=>?_;show wpAny _ _ (Ϸ (.ref it) 0 >>= _) _ _ s;refine Á<|ă ho hd (x:=.ref l) rfl ?_;show wpAny _ _ (Ϛ (.ref l) >>= _) _ _ s;refine Á<|ċ hol hdl ?_;simp![é,hx];refine Á (ϸ ho hd (by simp)<|Ñ ⟨x,rfl,Ñ<|hQ _ ?_<|Χ ..⟩);exact⟨_,Ĺ _ ho<|cS<|ω hd _,(Obj.cls_mapFields ..).trans hc,by
   rw[ω hd];simp[Ŝ]⟩
def GB(hh:A.handled=fc)(ϲ:RevIt s.heap it l (-1))(hQ:∀h',Heap.ExtBut it s.heap h'->Q fc {s with heap:=h'}):wpAny (à prog w) A (Ů<|.ref it) Q E s:=by have hT:=ϲ.typeIs;let⟨o,ho,hc,hd⟩:=id ϲ;unfold Ů;refine Á<|ξ<|Ą (name:=gN "__next__") hT slot_rnext<|ď slot_rnext hT Of ?_<|NL _;show wpAny _ _ (Ϸ (.ref it) 1 >>= _) _ _ s;refine Á<|ă ho hd (x:=.int (-1) 0) rfl ?_;refine ŭ (λ_=>?_) (λei=>gL (by decide) ei);refine Á<|Ο ?_;refine Á ?_;show wpAny _ _ (newExc (.type "StopIteration") [] >>= _) _ _ _;refine Á ?_;simp![newExc,newTuple];refine Á (ģ ?_<|by size_fits);refine Á (m:=Ϲ _ _) (Ϻ (a:=Value.none) (by first|rfl|(simp![Ϲ];rfl)) ?_);refine ģ ?_ (by size_fits);simp![raiseNew];refine Á<|wpAny_handled ?_;rw[show A.in1.handled=fc from hh];refine Á<|Ñ<|wpAny_throw ?_;refine Á<|θ (T:="StopIteration") (b:=fe) ⟨_,Ô _ rfl,rfl⟩ aa ?_;exact Ñ (hQ _ λb o _ e=>Ã _<|Ã _ e)
def N2{k:Int}{Q:Ä->Æ->Prop}(ϲ:RevIt s.heap it l k)(h:Q (.ref it) s):wpAny (à prog w) A (pyIter<|.ref it) Q E s:=by have hT:=ϲ.typeIs;refine wpAny_pyIter_slot hT JD<|ď JD hT BF ?_<|Eg _;show wpAny _ _ (ret<|.ref it) _ _ s;exact Ñ ⟨_,rfl,"list_reverseiterator",_,hT,slot_rnext.lookup,h⟩
end
def Walks.rev{prog:è}{w:ā}{A:č}(hh:A.handled=fc)(I ax:È)(Ũ:ax≠I)(items:Array Ä) :
  Walks prog w A I [I,ax] [I] items.size (λi v=>items[items.size - 1 - i]?=fb v) (λi h=>RevIt h I ax ((items.size:Int) - 1 - i)/\h.IsList ax items) where
 sub:=λb hb=>by simp at hb;simp[hb]
 frame:=λ_ _ _ st hk=>⟨by let⟨o,h1,h2⟩:=st.1;exact⟨o,hk I (by simp) o h1,h2⟩,st.2.at λo e=>hk ax (by simp) o e⟩
 item:=λi s Q E hi st hQ=>by
  have e:(items.size:Int) - 1 - i=((items.size - 1 - i:Nat):Int):=by lia
  rw[e]at st;have aq:items.size - 1 - i<items.size:=by lia
  refine Cz st.1 st.2 (x:=items[items.size - 1 - i]) (by simp[aq]) λh' hit' hs'=>?_;exact hQ _ h' s.toks (by simp[aq]) ⟨by rw[show(items.size:Int) - 1 - ((i+1:Nat):Int)=((items.size - 1 - i:Nat):Int) - 1 by lia];exact hit',st.2.extBut hs'.extBut Ũ⟩ λb o hb e=>hs'.extBut b o (λh=>hb<|by simp[h]) e
 done:=λs Q E st hQ=>by rw[show(items.size:Int) - 1 - (items.size:Nat)=-1 by lia]at st;exact GB hh st.1 λh' he'=>hQ h' s.toks λb o hb e=>he' b o (λh=>hb<|by simp[h]) e
 self:=λ_ _ _ _ st hQ=>N2 st.1 hQ
section
variable {prog:è}{w:ā}{A:č}{E:Ä->Æ->Prop}{s:Æ}
def JV{T T' newId initId:String}{Bn:Builtin}{args:List Ä}{S:PySem.Spec}{Q:Ä->Æ->Prop}(ft:TypeCalled T newId initId)
  (hct:checkTypeCall T ⟨args,[]⟩=pure ()) (hcn:checkBuiltinCall newId ⟨.type T::args,[]⟩=pure ())
  (entryN:cD table newId=fb Bn) (g:Meets (Bn ⟨.type T::args,[]⟩) S) (hsub2:isSubtype (.type T') (.type T)=pure ff)
  (h:S A.in1 (wants (λobj ė=>ė.TypeIs obj T'/\Q obj ė) E) s) :
  wpAny (à prog w) A (call (.type T) args) Q E s:=by
 let⟨c,tl,hmro⟩:=ft.mro;have hmade:=ft.made;have hsub:=ft.sub;refine wpAny_call<|codeAny_of_tree ?_;show wpAny _ _ (callAny (.type T) _) _ _ _;refine Ñ ⟨Code.quiet_builtin _ (by decide +kernel),Ŕ F.entry_type_call ?_⟩;rw[Around.under_plain (weight_type_call_type T args [])<|units_type_call_type T args []];have h1:=ft.notType;have h2:=ft.canCreate
 repeat (any_goals (first|assumption|wp_step))
 refine ϣ (codeAny_call_builtin ft.plain entryN<|Ϻ hcn<|g prog w A.in1 _ s h) λr ė hr=>?_;cases r with
 |error e=>exact hr
 |ok fl =>
  cases fl with
  |ret obj =>
   let⟨hT,hq⟩:=hr
   repeat (any_goals (first|assumption|wp_step))
  |_=>exact hr.elim
def Dl{R:bw->Æ->Prop}{l:È}{items:Array Ä}{n:Nat}(hl:s.heap.get? l=fb {cls:=.type "list",dict:=fc,data:=.seq items n,slots:=#[]})
  (h:R (.ok<|.ret<|.ref s.heap.objs.size) {s with heap:=s.heap.push {cls:=.type "list_reverseiterator",data:=.fields #[.ref l,Ŝ<|((items.size:Nat):Int) - 1]},toks:=s.toks}):codeAny (à prog w) A (Code.call (.builtin "list.__reversed__") ⟨[.ref l],[]⟩) R s :=
 codeAny_call_builtin F.slot_list_reversed.plain F.entry_list_reversed (F.slot_list_reversed.check _ _ _ _ _ _ _ _ ⟨_,hl,rfl⟩ (F.args_list_reversed_1 _)<|AutoListH.list___reversed___list_0 l items n prog w A R s ⟨hl,h⟩)
def EG:isSubtype (.type "list_reverseiterator") (.type "reversed")=pure ff:=by rw[ō];kernel_rfl
def CK:isSubtype (.type "reversed") (.type "reversed")=pure fe:=by rw[ō];kernel_rfl
end
open AutoSeq1 (wpAny_loadPart') in
def CA(l:È)(items:Array Ä)(n:Nat) :
  Meets (Builtin.«reversed.__new__» ⟨[.type "reversed",.ref l],[]⟩) (λ_ R s=>s.heap.get? l=fb { cls:=.type "list",dict:=fc,data:=.seq items n,slots:=#[] }/\
    R (.ok<|.ret<|.ref s.heap.objs.size) { s with heap:=s.heap.push { cls:=.type "list_reverseiterator",data:=.fields #[.ref l,Ŝ<|((items.size:Nat):Int) - 1] },toks:=s.toks }) :=
 .of_wp λprog w A R s h=>by
  let⟨hp,g,d,tk,os⟩:=s;let⟨hl,h⟩:=h;have hsub:=CK;have hT:Shared.TypeIs ⟨hp,g,d,tk,os⟩ (.ref l) "list":=⟨_,hl,rfl⟩
  have hlk:=F.slot_list_reversed.lookup
  wp_walk using ø hl
  refine Ϻ (F.slot_list_reversed.bind _) ?_
  wp_walk using ø hl
  exact Dl hl<|Ñ ⟨_,rfl,h⟩
section
variable {prog:è}{w:ā}{A:č}{E:Ä->Æ->Prop}{s:Æ}
variable {l:È}
def CN{items:Array Ä}{n:Nat}{Q:Ä->Æ->Prop}(hl:s.heap.get? l=fb {cls:=.type "list",dict:=fc,data:=.seq items n,slots:=#[]})
  (h:Q (.ref s.heap.objs.size) {s with heap:=s.heap.push {cls:=.type "list_reverseiterator",data:=.fields #[.ref l,Ŝ<|((items.size:Nat):Int) - 1]}}):wpAny (à prog w) A (call (.type "reversed") [.ref l]) Q E s :=
 JV OQ (LQ _) (PD _) Pl (CA l items n) EG ⟨hl,⟨_,Ô _ rfl,rfl⟩,h⟩
def C6{it:È}{k:Int}{Q:Bool->Æ->Prop}(ϲ:RevIt s.heap it l k)(h:Q ff s):wpAny (à prog w) A (Builtin.List.listLengthHint<|.ref it) Q E s:=by
 have hT:=ϲ.typeIs;unfold Builtin.List.listLengthHint;refine Á<|bR hT FH ?_;show wpAny _ _ (specialOf (Value.ref it) (gN "__length_hint__") >>= _) _ _ _;refine Á<|bR hT slot_rhint.lookup ?_;generalize hid:("list_reverseiterator.__length_hint__" : String)=id0
 wp_delta
 rw[show splitId id0=fb ("list_reverseiterator","__length_hint__") from by subst hid;decide +kernel];subst hid;refine Á (θ (T:="list_reverseiterator") (b:=fe) hT (by rw[ō];kernel_rfl) ?_);refine ŭ (λei=>gL ei<|by decide) λ_=>?_;refine ŭ (λ_=>?_) (λei=>gL (by decide +kernel) ei);refine ŭ (λei=>gL ei<|by decide +kernel) λ_=>?_;exact Ñ h
end
end L2
namespace L2
open PySem PySem.Spec PyProof.Rows
def call_dictK{X:Cx}:fq X (.type "dict") λxs H Q=>∃a kvs,xs=[V.ref a]/\H a=fb (.dK kvs)/\∀l,H l=fc->Q (.ref l) (upd H l<|.dK kvs):=by k_put;let⟨a,kvs,rfl,ha,q⟩:=h;let⟨u,rfl,ru⟩:=ZR r;cases ru;let⟨z,hd,vs,ť,dd⟩:=WP I.hok ha;refine kt_call_dict (knd:=Zd X.prog X.w) hd dd (by rw[<-ť.length];exact z) λh' eh hs=>?_;have hn:=I.hok.fresh<|Ï s.heap.objs.size;refine⟨.ref s.heap.objs.size,upd H s.heap.objs.size<|.dK kvs,I.laid (t':=s.toks) (λb u e=>?_) (Ï _)<|Kd z (beq_eq_false_iff_ne.mpr<|Ne.symm<|â I.big) ť eh,rfl,q _ hn⟩;have hb:b≠s.heap.objs.size:=â<|Ø e;rw[hs.2 b hb];exact Ã _ e
end L2
namespace Snd
open PySem L2
variable {i:Inf}{X:Cx}
def JZ{h:O.Hs}{K:Frag}{H:Hp}:∀{xs:List O.Val}{kvs:List (O.Val×O.Val)}{vs:List V},O.pairsOf h xs=fb kvs->RVs K H xs vs->∃ps,Ck K H vs ps/\∀{m:List (O.Val×O.Val)}{m':List (Key×V)},RKs K H m m'->RKs K H (O.putAll m kvs) (ps.foldl (λm p=>L2.fK m p.1 p.2) m')
 |[],kvs,vs,e,r=>by cases e;cases r;exact⟨[],⟨rfl,λi y e=>by simp at e⟩,λh=>h⟩
 |v::xs,kvs,vs,e,r=>by
  unfold O.pairsOf at e;split at e
  .rename_i k x;let⟨hk,e⟩:=Zp e;let⟨rest,e1,rfl⟩:=Ò.mp e;cases r with
   |cons ra t =>
    let⟨ps,⟨h1,h2⟩,h3⟩:=JZ e1 t;cases ra with
    |tup hp hr =>
     cases hr with
     |cons rk t2 =>
      cases t2 with
      |cons rx t3 =>
       cases t3;let⟨c,kr,rfl⟩:=fz hk rk;refine⟨(c,_)::ps,⟨by simp[h1],λi y e=>?_⟩,λh=>h3<|h.put kr rx⟩;cases i with
       |zero=>simp at e;subst e;exact⟨_,_,rfl,rfl,Zj hp⟩
       |succ i=>exact h2 i y ⇑e
  .cases e
def FW:Ke i .dict λxs H Q=>(∃a kvs,xs=[V.ref a]/\H a=fb (.dK kvs)/\∀l,H l=fc->Q (.ref l) (upd H l<|.dK kvs))\/BM i.K xs H Q:=by
 intro vs G H xs Q Qm g r w c;let⟨v,rfl,w⟩:=Xa w;let⟨x,rfl,rx⟩:=r.inv1;cases v with
 |ref a =>
  cases rx.ref_inv
  replace w:(match G a with|some (.dct kvs)=>O.Rs.new (.dct kvs)|some (.lst xs)=>(match O.pairsOf G xs with|some kvs=>O.Rs.new (.dct<|O.putAll [] kvs)|none=>.no)|_=>.no).wp G Qm:=w
  cases z:G a with
  |none=>rw[z]at w;exact(Zk w).elim
  |some o =>
   rw[z]at w;cases o with
   |dct kvs =>let⟨ps,h1,h2⟩:=g a _ z;exact .inl ⟨a,ps,rfl,h1,ZU g (XF w) c λp hp=>⟨ps,fh,h2.keep<|fH.new hp⟩⟩
   |lst ys =>
    let⟨us,h1,h2⟩:=g a _ z;dsimp only at w;cases z2:O.pairsOf G ys with
    |none=>rw[z2]at w;exact(Zk w).elim
    |some kvs =>rw[z2]at w;let⟨ps,h3,h4⟩:=JZ z2 h2;exact .inr ⟨a,us,ps,rfl,h1,h3,ZU g (XF w) c λp hp=>⟨_,fh,(h4 .nil).keep<|fH.new hp⟩⟩
   |_=>exact(Zk w).elim
 |_=>exact(Zk w).elim
end Snd
namespace L2
open PySem PySem.Spec PyProof.Rows
variable {X:Cx}
def MR:∀(xs:List V) (us:List Ä),xs.length=us.length->(∀(j:Nat) (u:Ä),us[j]?=fb u->∃x,xs[j]?=fb x/\RelV x u)->gp xs us
 |[],[],_,_=>.nil
 |x::xs,u::us,hl,h=>by let⟨y,e,r⟩:=h 0 u rfl;cases e;exact .cons r (MR xs us ⇑hl λj v hv=>h (j+1) v hv)
 |[],_::_,hl,_=>by cases hl
 |_::_,[],hl,_=>by cases hl
abbrev tLR(te:TE):TE:=λσ H Q=>BU te BY σ H λvs H1=>∃n:Nat,vs=[.int n]/\n<=1000/\∀l,H1 l=fc->Q (.ref l) (upd H1 l<|.lst<|(List.range n).map λk=>V.int (k:Nat))
def M4{e:Expr}{te:TE}{p p2 ì aR:Pos}(hc:X.calm=fe)(hg:Gl X "list")(hm:X.mg "list" = fc)(hg2:Gl X "range")(hm2:X.mg "range" = fc)(he:PE X e te)(hs:Ú [e] X.env=[(ff,eval e X.env)]) :
  PE X (.Call (.Name "list" p) [.Call (.Name "range" p2) [e] [] aR] [] ì) (tLR te):=by
 k_upd;refine ĕ (Z2 (u:=.type "list") I hg hm (by kernel_rfl) ?_ (by decide)<|by decide);refine PyProof.Rows.callWith_type1 (T:="list") ?_ rfl rfl;show wpAny _ _ (spliced<|(ff,eval (.Call (.Name "range" p2) [e] [] aR) X.env)::[]) _ _ _;refine Calls.spliced_cons ?_;refine ĕ (Z2 I hg2 hm2 boot_range ?_ (by decide)<|by decide);refine PyProof.Rows.callWith_type1 (thn ((ZJ he gh hs) aR Â s σ H _ I h) λus s1 ⟨vs,H1,I1,r1,q1⟩=>?_) hs rfl;let⟨n,e1,hn,q⟩:=q1;subst e1;let⟨u,rfl,t,rfl⟩:=ZR r1;refine call_range_1<|Calls.spliced_nil ?_;have k0:∀b o,s1.heap.get? b=fb o->(s1.heap.push {cls:=.type "range",data:=.fields #[.int 0 s1.toks,.int n t,.int 1<|s1.toks+1]}).get? b=fb o:=λb o e=>Ã _ e;refine call_list_range (n:=n) (I.ok.hd hc) (Ô _ rfl) (small_one (by decide) (by decide) (by lia)<|by lia) (by rw[rangeSize_one];split<;>lia) (by lia) λh' tk Ī c' hk hS aC=>?_;have hsz:s1.heap.objs.size<=(s1.heap.push {cls:=.type "range",data:=.fields #[.int 0 s1.toks,.int n t,.int 1<|s1.toks+1]}).objs.size:=by rw[ğ];lia
 refine⟨.ref _,upd H1 _<|.lst<|(List.range n).map λk=>V.int (k:Nat),I1.laid (t':=tk) (λb o e=>hk b o<|k0 b o e) hsz ?_,rfl,q _<|I1.hok.fresh hsz⟩;refine⟨by rw[À,ą];unfold Ü;lia,Ī.toList,c',?_,by simpa[ϔ]using hS⟩;let⟨a1,a2⟩:=aC;refine MR _ _ (by rw[À,ą,Ğ,a1]) λj u hu=>?_;have hj:j<n:=by have:=(Î.mp hu).1;rw[Ğ,a1]at this;exact this
 let⟨t',ht⟩:=a2 j u ⇑hu;refine⟨.int j,by rw[ß,dq hj];rfl,t',?_⟩;rw[ht];congr 1;lia
end L2
namespace Snd
open PySem L2
variable {i:Inf}{X:Cx}{Φ:O.Fs}
def RVs.nats{K:Frag}{H:Hp}:∀ns:List Nat,RVs K H (ns.map λn=>O.Val.int (n:Nat)) (ns.map λn=>V.int (n:Nat))
 |[]=>.nil
 |n::ns=>.cons (.int n)<|RVs.nats ns
def Nq{e:Expr}{m:O.E}{p p2 ì aR:Pos}(hc:X.calm=fe)(he:PE X e<|tE X i Φ m)(hg:Gl X "list")(hm:X.mg "list" = fc)(hg2:Gl X "range")(hm2:X.mg "range" = fc)(Š:Ú [e] X.env=[(ff,eval e X.env)]) :
  PE X (.Call (.Name "list" p) [.Call (.Name "range" p2) [e] [] aR] [] ì) (tE X i Φ<|.bi .listRange<|.cons m .nil):=by
 refine(M4 hc hg hm hg2 hm2 he Š).imp λσ H Q ⟨env,G,Qm,Em,p,w,c⟩=>?_;change tE X i Φ m σ H _;refine one p w λv G1 H1 x k1 p1 r q=>?_
 replace q:(O.rangeL v).wp G1 Qm:=q
 cases v with
 |int k =>
  cases r.int_inv;unfold O.rangeL at q;dsimp only at q;split at q
  .rename_i hk;refine⟨k.toNat,by rw[ϭ hk.1],by lia,?_⟩;exact ZU p1.hp (XF q) (c.go k1) λl hl=>⟨_,fh,RVs.nats _⟩
  .exact(Zk q).elim
 |_=>exact(Zk q).elim
end Snd
namespace L2
open PySem PySem.Spec PyProof.Rows
open PySem.Builtin
section
variable {prog:è}{w:ā}{A:č}{E:Ä->Æ->Prop}{s:Æ}
variable {R:bw->Æ->Prop} {it:È} {l:È} {items:Array Ä}
def EJ(hh:A.handled=fc)(ϲ:RevIt s.heap it l<|(items.size:Int) - 1)(hl:s.heap.IsList l items)(Ũ:l≠it)(hn:items.size<=Ü)(S:È)(res:Ä)(c₀:Nat)(hSi:S≠it)(hSl:S≠l)(hS:s.heap.get? S=fb {cls:=.type "list",data:=.seq #[] c₀})
  (hR:∀h' tk Ϯ c',(∀b o,b≠S->b≠it->s.heap.get? b=fb o->h'.get? b=fb o)->h'.get? S=fb { cls:=.type "list",dict:=fc,data:=.seq Ϯ c',slots:=#[] }->
    ItemsOf (λi v=>items[items.size - 1 - i]?=fb v) Ϯ items.size->R (.ok<|.ret res) { s with heap:=h',toks:=tk }) :
  wpAny (à prog w) A.in1 (Builtin.List.listExtendWith (.ref S) (.ref it) res)
   (λfin s'=>match fin with|.done f=>R (.ok f) s'|.again c'=>c'.quiet=fe/\codeAny (à prog w) A c' R s') (λe s'=>R (.error e) s') s:=by
 have hSf:S∉[it,l]:=λhm=>by
  rcases Ç.mp hm with e|hm
  .exact hSi e
  .exact hSl<|Ö.mp hm
 have W:=(Walks.rev (prog:=prog) (w:=w) (A:=A.in1) hh it l Ũ items).toS;have hT:=ϲ.typeIs;unfold Builtin.List.listExtendWith;refine Á<|Ε hT ?_;have h1:Builtin.List.listSameRef (.ref S) (.ref it)=ff:=by simp[Builtin.List.listSameRef,hSi]
 have h2:(Value.type "list_reverseiterator" == Value.type "list")=ff:=by decide
 have h3:(Value.type "list_reverseiterator" == Value.type "tuple")=ff:=by decide
 simp![h1,h2,h3,Ϭ,ĸ,if_false];refine Á<|N2 ϲ ?_;refine Á<|Ĭ<|C6 ϲ ?_;refine ŭ (λei=>gL ei<|by decide +kernel) λ_=>?_;refine Ñ ⟨Ū F.plain_extend_loop _,?_⟩;refine codeAny_extend_loopS W hn S hSf res items.size 0 _ #[] c₀ rfl (ī _) ⟨⇑ϲ,hl⟩ hS (ItemsOf.nil _) λs' Ϯ c' hm de aC=>?_;rw[Moved.eq_with hm];refine hR s'.heap s'.toks Ϯ c' (λb o hb hbi e=>hm.heap b o (λhmem=>?_) e) de aC;rcases Ç.mp hmem with e'|hmem
 .exact hb e'
 .exact hbi<|Ö.mp hmem
def Cu(hh:A.handled=fc)(ϲ:RevIt s.heap it l<|(items.size:Int) - 1)(hl:s.heap.IsList l items)(Ũ:l≠it)(hn:items.size<=Ü)(S:È)(hSi:S≠it)(hSl:S≠l)(hS:s.heap.get? S=fb {cls:=.type "list",data:=.seq #[]})
  (hR:∀h' tk Ϯ c',(∀b o,b≠S->b≠it->s.heap.get? b=fb o->h'.get? b=fb o)->h'.get? S=fb { cls:=.type "list",dict:=fc,data:=.seq Ϯ c',slots:=#[] }->
    ItemsOf (λi v=>items[items.size - 1 - i]?=fb v) Ϯ items.size->R (.ok<|.ret .none) { s with heap:=h',toks:=tk }) :
  wpAny (à prog w) A.in1 (Builtin.«list.__init__» ⟨[.ref S,.ref it],[]⟩)
   (λfin s'=>match fin with|.done f=>R (.ok f) s'|.again c'=>c'.quiet=fe/\codeAny (à prog w) A c' R s') (λe s'=>R (.error e) s') s:=by
 show wpAny _ _ (do let Ν<-Builtin.List.listItems (.ref S);Builtin.List.listUpdate (.ref S) (λ_=>#[]);letGo Ν.toList.reverse;Builtin.List.listExtendWith (.ref S) (.ref it) .none) _ _ s;refine Á ?_;unfold Builtin.List.listItems;refine Á<|ċ hS rfl<|Ñ ?_;show wpAny _ _ (updateSeq S (λ_=>#[]) >>= λ_=>letGo (#[]:Array Ä).toList.reverse >>= λ_=>Builtin.List.listExtendWith (.ref S) (.ref it) .none) _ _ s;refine Á<|ϩ hS rfl ?_;have hS₂:=Ĺ (ψ λ_=>(#[]:Array Ä)) hS rfl;have oth:∀b o,b≠S->s.heap.get? b=fb o->(s.heap.update S<|ψ λ_=>(#[]:Array Ä)).get? b=fb o :=
  λb o hb e=>(þ _ _<|Ne.symm hb).trans e
 refine Á<|Ŵ ?_;refine EJ hh (items:=items) ?_ (hl.at λo e=>oth l o (Ne.symm hSl) e) Ũ hn S .none _ hSi hSl hS₂ λh' tk Ϯ c' hk de aC=>?_
 .obtain⟨o,h1,h2⟩:=ϲ;exact⟨o,oth it o (Ne.symm hSi) h1,h2⟩
 .exact hR h' tk Ϯ c' (λb o hb hbi e=>hk b o hb hbi<|oth b o hb e) de aC
def Kp{Q:Ä->Æ->Prop}(hh:A.handled=fc)(ϲ:RevIt s.heap it l<|(items.size:Int) - 1)(hl:s.heap.IsList l items)(Ũ:l≠it)(hn:items.size<=Ü)
  (hQ:∀h' tk Ϯ c',(∀b o,b≠it->s.heap.get? b=fb o->h'.get? b=fb o)->
    h'.get? s.heap.objs.size=fb { cls:=.type "list",dict:=fc,data:=.seq Ϯ c',slots:=#[] }->ItemsOf (λi v=>items[items.size - 1 - i]?=fb v) Ϯ items.size->Q (.ref s.heap.objs.size) { s with heap:=h',toks:=tk }) :
  wpAny (à prog w) A (call (.type "list") [.ref it]) Q E s:=by
 refine callType_codes (Q₁:=λobj ė=>obj=.ref s.heap.objs.size/\ė={s with heap:=s.heap.push {cls:=.type "list",data:=.seq #[]}}) F.called_list (F.typeCall_list_1 _) F.entry_list_init
  (code_list_new _ ⟨rfl,rfl⟩) λobj ė aO=>?_
 let⟨rfl,rfl⟩:=aO;have hS:(s.heap.push {cls:=.type "list",data:=.seq #[]}).get? s.heap.objs.size=fb {cls:=.type "list",data:=.seq #[]}:=Ô _ rfl;let⟨oi,eB,cb⟩:=id ϲ;let⟨ol,hl1,hl2⟩:=id hl;refine⟨⟨_,hS,rfl⟩,F.args_list_init_2 _ _,Cu (A:=A.in1) (items:=items) hh ⟨oi,Ã _ eB,cb⟩ ⟨ol,Ã _ hl1,hl2⟩ Ũ hn _ (İ<|Ø eB) (İ<|Ø hl1) hS λh' tk Ϯ c' hk de aC=>?_⟩;exact⟨rfl,hQ h' tk Ϯ c' (λb o hbi e=>hk b o (â<|Ø e) hbi<|Ã _ e) de aC⟩
end
section
variable {X:Cx}
abbrev tRv(te:TE):TE:=λσ H Q=>BU te BY σ H λvs H1=>∃a xs,vs=[.ref a]/\H1 a=fb (.lst xs)/\∀p,H1 p=fc->Q (.ref p) (upd H1 p<|.lst xs.reverse)
def OX{e:Expr}{te:TE}{p p2 ì aR:Pos}(hc:X.calm=fe)(hg:Gl X "list")(hm:X.mg "list" = fc)(hg2:Gl X "reversed")(hm2:X.mg "reversed" = fc)(he:PE X e te)(hs:Ú [e] X.env=[(ff,eval e X.env)]) :
  PE X (.Call (.Name "list" p) [.Call (.Name "reversed" p2) [e] [] aR] [] ì) (tRv te):=by
 k_upd;refine ĕ (Z2 (u:=.type "list") I hg hm (by kernel_rfl) ?_ (by decide)<|by decide);refine PyProof.Rows.callWith_type1 (T:="list") ?_ rfl rfl;show wpAny _ _ (spliced<|(ff,eval (.Call (.Name "reversed" p2) [e] [] aR) X.env)::[]) _ _ _;refine Calls.spliced_cons ?_;refine ĕ (Z2 (u:=.type "reversed") I hg2 hm2 (by kernel_rfl) ?_ (by decide)<|by decide);refine PyProof.Rows.callWith_type1 (T:="reversed") (thn ((ZJ he gh hs) aR Â s σ H _ I h) λus s1 ⟨vs,H1,I1,r1,q1⟩=>?_) hs rfl;let⟨a,xs,e1,ea,q⟩:=q1;subst e1;let⟨u,rfl,ru⟩:=ZR r1;cases ru;let⟨hz,ó,n,rv,hp⟩:=(show fu X.prog X.w H1 s1.heap a (.lst xs) from I1.hok a _ ea)
 refine CN (items:=ó.toArray) (n:=n) hp<|Calls.spliced_nil ?_;have hal:a<s1.heap.objs.size:=Ø hp;have hlen:=rv.length;have k0:∀b o,s1.heap.get? b=fb o->(s1.heap.push {cls:=.type "list_reverseiterator",data:=.fields #[.ref a,Ŝ<|((ó.toArray.size:Nat):Int) - 1]}).get? b=fb o:=λb o e=>Ã _ e;refine Kp (items:=ó.toArray) (I.ok.hd hc) ⟨_,Ô _ rfl,rfl,rfl⟩ ⟨_,k0 _ _ hp,rfl,n,rfl⟩ (â hal) (by rw[É,<-hlen];exact hz) λh' tk Ī c' hk hS aC=>?_;have hsz:s1.heap.objs.size<=(s1.heap.push {cls:=.type "list_reverseiterator",data:=.fields #[.ref a,Ŝ<|((ó.toArray.size:Nat):Int) - 1]}).objs.size:=by rw[ğ];lia
 refine⟨.ref _,upd H1 _<|.lst xs.reverse,I1.laid (t':=tk) (λb o e=>hk b o (â<|Ø e)<|k0 b o e) hsz ?_,rfl,q _<|I1.hok.fresh hsz⟩;refine⟨by rw[dB];exact hz,Ī.toList,c',?_,by simpa[ϔ]using hS⟩;let⟨a1,a2⟩:=aC;refine MR _ _ (by have h1:Ī.toList.length=Ī.size:=Ğ;have h2:ó.toArray.size=ó.length:=É;rw[dB];lia) λj u hu=>?_;have hj:j<ó.length:=by have:=(Î.mp hu).1;rw[Ğ,a1,É]at this;exact this
 have hv:=a2 j u ⇑hu;have hv:ó[ó.length - 1 - j]?=fb u:=⇑hv
 let⟨x,hx,rx⟩:=W5 rv hv;refine⟨x,?_,rx⟩;rw[List.getElem?_reverse (by lia),hlen];exact hx
end
end L2
namespace Snd
open PySem L2
variable {i:Inf}{X:Cx}{Φ:O.Fs}
def Bp{e:Expr}{m:O.E}{p p2 ì aR:Pos}(hc:X.calm=fe)(he:PE X e<|tE X i Φ m)(hg:Gl X "list")(hm:X.mg "list" = fc)(hg2:Gl X "reversed")(hm2:X.mg "reversed" = fc)(Š:Ú [e] X.env=[(ff,eval e X.env)]) :
  PE X (.Call (.Name "list" p) [.Call (.Name "reversed" p2) [e] [] aR] [] ì) (tE X i Φ<|.bi .listRev<|.cons m .nil):=by
 refine(OX hc hg hm hg2 hm2 he Š).imp λσ H Q ⟨env,G,Qm,Em,p,w,c⟩=>?_;change tE X i Φ m σ H _;refine one p w λv G1 H1 x k1 p1 r q=>?_
 replace q:(O.biListRev G1 v).wp G1 Qm:=q
 cases v with
 |ref a =>
  cases r.ref_inv;unfold O.biListRev O.asLst at q;dsimp only at q;cases z:G1 a with
  |none=>rw[z]at q;exact(Zk q).elim
  |some o =>
   rw[z]at q;cases o with
   |lst ys =>let⟨vs,h1,h2⟩:=p1.hp a _ z;exact⟨a,vs,rfl,h1,ZU p1.hp (XF q) (c.go k1) λl hl=>⟨_,fh,h2.reverse.keep<|fH.new hl⟩⟩
   |_=>exact(Zk q).elim
 |_=>exact(Zk q).elim
section
variable {K:Frag}{H H':Hp}
structure gg(H H':Hp):Prop where
 t:∀a xs,H a=fb (.tup xs)->H' a=fb (.tup xs)
 f:∀a o xs,H a=fb (.frz o<|.lst xs)->H' a=fb (.frz o<|.lst xs)
mutual
theorem RV.keepL(k:gg H H'):∀{v:O.Val}{x:V},RV K H v x->RV K H' v x
 |_,_,.non=>.non
 |_,_,.bl b=>.bl b
 |_,_,.int i=>.int i
 |_,_,.str s=>.str s
 |_,_,.tup (.inl e) r=>.tup (.inl<|k.t _ _ e)<|RVs.keepL k r
 |_,_,.tup (.inr e) r=>.tup (.inr e)<|RVs.keepL k r
 |_,_,.ref a=>.ref a
 |_,_,.scr (.inl ⟨o,e⟩)=>.scr<|.inl ⟨o,k.f _ _ _ e⟩
 |_,_,.scr (.inr e)=>.scr<|.inr e
 |_,_,.key e=>.key<|k.t _ _ e
theorem RVs.keepL(k:gg H H'):∀{vs:List O.Val}{xs:List V},RVs K H vs xs->RVs K H' vs xs
 |_,_,.nil=>.nil
 |_,_,.cons r t=>.cons (RV.keepL k r)<|RVs.keepL k t
end
def RKs.keepL(k:gg H H'):∀{kvs:List (O.Val×O.Val)}{ps:List (Key×V)},RKs K H kvs ps->RKs K H' kvs ps
 |_,_,.nil=>.nil
 |_,_,.cons a r t=>.cons a (r.keepL k)<|RKs.keepL k t
def RTs.keepL(k:gg H H'):∀{kvs:List (O.Val×O.Val)}{ps:List (List Key×V)},RTs K H kvs ps->RTs K H' kvs ps
 |_,_,.nil=>.nil
 |_,_,.cons r t=>.cons (r.keepL k)<|RTs.keepL k t
def RFs.keepL(k:gg H H'):∀{fs:List (String×O.Val)}{ps:List (Str×V)},RFs K H fs ps->RFs K H' fs ps
 |_,_,.nil=>.nil
 |_,_,.cons r t=>.cons (r.keepL k)<|RFs.keepL k t
def REn.keepL{env:O.Env}{σ:St}(r:REn K H env σ)(k:gg H H'):REn K H' env σ:=⟨r.len,λi v e=>by
  let⟨x,h1,h2⟩:=r.get i v e
  exact⟨x,h1,h2.keepL k⟩⟩
variable {a:È}
def RO.moveL{o:O.Ob}(r:RO i H a o)(k:gg H H')(e:H' a=H a):RO i H' a o:=by
 cases o with
 |lst xs=>let⟨vs,q,r⟩:=r;exact⟨vs,e.trans q,r.keepL k⟩
 |dct kvs=>let⟨ps,q,r⟩:=r;exact⟨ps,e.trans q,r.keepL k⟩
 |ins C fs=>let⟨c,dx,ps,h0,h,q,r⟩:=r;exact⟨c,dx,ps,h0,h,e.trans q,r.keepL k⟩
 |exc C=>let⟨c,h,q⟩:=r;exact⟨c,h,e.trans q⟩
 |frz kvs=>let⟨o,ps,q,r⟩:=r;exact⟨o,ps,e.trans q,r.keepL k⟩
 |dtp kvs=>let⟨ps,q,r⟩:=r;exact⟨ps,e.trans q,r.keepL k⟩
variable {o:Obj} {ps:List (Key×V)}
def Xp(e:H a=fb (.frz o<|.dK ps)):gg H (upd H a<|.dK ps) :=
 ⟨λb xs q=>by rw[fg<|by rintro rfl;rw[e]at q;cases q];exact q,λb p xs q=>by rw[fg<|by rintro rfl;rw[e]at q;cases q];exact q⟩
def RH.thaw{G:O.Hs}{kvs:List (O.Val×O.Val)}(g:RH i G H)(e:H a=fb (.frz o<|.dK ps))(r:RKs i.K H kvs ps):RH i (O.upd G a<|.dct kvs)<|upd H a<|.dK ps:=λb p q=>by
 by_cases hb:b=a
 .subst hb;rw[O.fh]at q;cases q;exact⟨ps,fh,r.keepL<|Xp e⟩
 .rw[O.fg hb]at q;exact(g b p q).moveL (Xp e)<|fg hb
def RKs.len:∀{kvs:List (O.Val×O.Val)}{ps:List (Key×V)},RKs K H kvs ps->kvs.length=ps.length
 |_,_,.nil=>rfl
 |_,_,.cons _ _ t=>by rw[Ð,Ð,RKs.len t]
def RKs.at:∀{kvs:List (O.Val×O.Val)}{ps:List (Key×V)}{n:Nat}{c:Key}{x:V},RKs K H kvs ps->ps[n]?=fb (c,x)->∃k v,kvs[n]?=fb (k,v)/\WT k c/\RV K H v x
 |_,_,n,_,_,.nil,e=>by simp at e
 |_,_,0,_,_,.cons hk r _,e=>by simp at e;let⟨rfl,rfl⟩:=e;exact⟨_,_,rfl,hk,r⟩
 |_,_,n+1,_,_,.cons _ _ t,e=>by let⟨k,v,h1,h2⟩:=RKs.at (n:=n) t ⇑e;exact⟨k,v,⇑h1,h2⟩
def C9{k:O.Val}{c:Key}(h:WT k c):RV K H k<|kV c:=by
 cases k with
 |int j=>cases c with
  |inl l=>have h:j=l:=h;subst h;exact .int _
  |inr _=>exact(show False from h).elim
 |str s=>cases c with
  |inl _=>exact(show False from h).elim
  |inr t=>have h:t=gN s:=h;subst h;exact .str _
 |_=>exact(show False from h).elim
end
variable {H0:Hp} {a:È} {o:Obj} {ps:List (Key×V)} {kvs:List (O.Val×O.Val)}
def Di(e0:H0 a=fb (.frz o<|.dK ps))(r0:RKs i.K H0 kvs ps):ItOk i H0 (Iti a o ps) (λg=>g a=fb (.frz kvs)) (kvs.map<|O.itemOf ff) where
 go:=λn G H v k g e hv=>by
  have e1:=k.f _ _ _ e0;rw[ß]at hv;let⟨p,hp,rfl⟩:=Ò.mp hv;have hn:n<ps.length:=by rw[<-r0.len];exact(Î.mp hp).1
  refine⟨⟨e1,hn⟩,λx H' ⟨q,c,y,ex,hq,hy,eH⟩=>?_⟩;subst ex eH;let⟨k2,v2,h1,h2,h3⟩:=(r0.keep k).at hy;rw[hp]at h1;cases h1;have kk:fH H<|upd H q<|.tup [kV c,y]:=fH.new hq;exact⟨kk,Xw g hq,.tup (.inl fh)<|.cons (C9 h2)<|.cons (h3.keep kk) .nil⟩
 stop:=λn G H k g e hn=>⟨k.f _ _ _ e0,by rw[<-r0.len];simpa using hn⟩
def GI(e0:H0 a=fb (.frz o<|.dK ps))(r0:RKs i.K H0 kvs ps):ItOk i H0 (Itk a o ps) (λg=>g a=fb (.frz kvs)) (kvs.map<|O.itemOf fe) where
 go:=λn G H v k g e hv=>by
  have e1:=k.f _ _ _ e0;rw[ß]at hv;let⟨p,hp,rfl⟩:=Ò.mp hv;have hn:n<ps.length:=by rw[<-r0.len];exact(Î.mp hp).1
  refine⟨⟨e1,hn⟩,λx H' ⟨eH,c,y,hy,ex⟩=>?_⟩;subst ex eH;let⟨k2,v2,h1,h2,h3⟩:=(r0.keep k).at hy;rw[hp]at h1;cases h1;exact⟨fH.refl _,g,C9 h2⟩
 stop:=λn G H k g e hn=>⟨k.f _ _ _ e0,by rw[<-r0.len];simpa using hn⟩
variable {tg:Expr} {ì:Pos} {body:List Ł} {q:O.Pt} {m:O.E} {mb:O.Ss}
def UG{ũ:Expr}{kb:Bool}{J:È->Obj->List (Key×V)->It}(hp:aj (à X.prog X.w) X.A X.env X.xe)(hc:X.calm=fe)(hi:PI X tg ũ<|LD X J<|tE X i Φ m)(hg:PG X tg<|gPt i q)(hb:PSs X body<|tBl X i Φ mb)
  (hs:∀x,Ę ũ X.env x=pure x) (hJ:∀(H0:Hp) (a:È) (o:Obj) (ps:List<|Key×V) (kvs:List<|O.Val×O.Val),H0 a=fb (.frz o<|.dK ps)->RKs i.K H0 kvs ps->ItOk i H0 (J a o ps) (λg=>g a=fb (.frz kvs)) (kvs.map<|O.itemOf kb)) :
  PS X (.For tg ũ body [] ì) (tSt X i Φ<|.forI kb q m mb):=by
 intro Â s σ H D I ⟨env,G,N,R,B,C,Xe,p,w,c⟩;refine EC (Et hp hc hi hg hb hs) Â s σ H D I ?_;refine one p.pre w λv G1 H1 x k1 p1 rx w'=>?_;let⟨a,e1,w''⟩:=fj w';let⟨kvs,e2,w1⟩:=fj w'';clear w' w'';have ev:v=.ref a:=by
  cases v with
  |ref b=>cases e1;rfl
  |_=>cases e1
 subst ev;cases rx.ref_inv;have eG:G1 a=fb (.dct kvs):=by
  cases z:G1 a with
  |none=>rw[z]at e2;cases e2
  |some o=>rw[z]at e2;cases o<;>first|(cases e2;rfl)|cases e2
 let⟨ps,ha,hr⟩:=p1.hp a _ eG;refine⟨a,ps,rfl,ha,λo h0=>?_⟩;have k2:fH H1<|upd H1 a<|.frz o<|.dK ps:=fH.put (λxs z=>by rw[ha]at z;cases z) λp u z=>by rw[ha]at z;cases z
 have g2:RH i (O.upd G1 a<|.frz kvs)<|upd H1 a<|.frz o<|.dK ps:=p1.hp.put k2 ⟨o,ps,fh,hr.keep k2⟩;have it:=hJ _ a o ps kvs fh<|hr.keep k2;have aQ:∀{H':Hp}{G':O.Hs},fH (upd H1 a<|.frz o<|.dK ps) H'->RH i G' H'->H' a=fb (.frz o<|.dK ps)/\RKs i.K H' kvs ps/\fH H (upd H' a<|.dK ps):=λ{H' G'} k g=>by
  have e:=k.f a o _ fh;refine⟨e,(hr.keep k2).keep k,λb xs z=>?_,λb o' u z=>?_⟩
  .have z1:=k1.t b xs z;have hb:b≠a:=by rintro rfl;rw[ha]at z1;cases z1
   rw[fg hb];exact k.t b xs (by rw[fg hb];exact z1)
  .have z1:=k1.f b o' u z;have hb:b≠a:=by rintro rfl;rw[ha]at z1;cases z1
   rw[fg hb];exact k.f b o' u (by rw[fg hb];exact z1)
 have fin:∀ř ş G' H',fH (upd H1 a<|.frz o<|.dK ps) H'->RH i G' H'->REn i.K H' ř ş->(G' a=fb (.frz kvs)/\N ř (O.upd G' a<|.dct kvs))->(D.thaw X).nx ş H':=λř ş G' H' k g en ⟨_,n⟩=>by let⟨b1,b2,b3⟩:=aQ k g;exact⟨a,o,ps,b1,h0,c.nx ř ş _ _ b3 (g.thaw b1 b2) (en.keepL<|Xp b1) n⟩
 have ret:∀v G' H' x,fH (upd H1 a<|.frz o<|.dK ps) H'->RH i G' H'->RV i.K H' v x->(G' a=fb (.frz kvs)/\R v (O.upd G' a<|.dct kvs))->(D.thaw X).rt x H':=λv G' H' x k g r ⟨_,n⟩=>by let⟨b1,b2,b3⟩:=aQ k g;exact⟨a,o,ps,b1,h0,c.rt v _ _ x b3 (g.thaw b1 b2) (r.keepL<|Xp b1) n⟩
 have xo:∀Hq,XW X (XKS i Hq λ_ _ _=>False):=λHq=>λ_ _ _ _ _ _ _ _ _ _ ⟨_,_,_,_,_,_,_,_,z⟩=>z.elim;generalize hxs:kvs.map (O.itemOf kb)=xs at w1 it;generalize Š:(λg:O.Hs=>g a=fb (.frz kvs))=st at w1 it;refine⟨λn m ş H'=>n+m=xs.length/\∃ř G',fH (upd H1 a<|.frz o<|.dK ps) H'/\RH i G' H'/\REn i.K H' ř ş/\O.wFor st (λv e g K M=>O.go (O.bind q g v e) λe2=>O.wSs Φ mb e2 g K (λu g2=>g2 a=fb (.frz kvs)/\R u (O.upd g2 a<|.dct kvs)) M K λ_ _ _=>False) (λe g=>g a=fb (.frz kvs)/\N e (O.upd g a<|.dct kvs)) (xs.drop n) ř G',⟨xs.length,by lia,env,_,fH.refl _,g2,(p.en.keep k1).keep k2,⇑w1⟩,?_⟩;rintro n m ş H' ⟨hnm,ř,G',k3,g3,e3,w3⟩;by_cases hn:n<xs.length
 .right;have hd:xs.drop n=xs[n]::xs.drop (n+1):=ľ hn;rw[hd]at w3;let⟨s2,w3⟩:=w3;have hv:xs[n]?=fb xs[n]:=Ù hn;let⟨a1,a2⟩:=it.go n G' H' xs[n] k3 g3 s2 hv;refine⟨a1,λσ4 H4=>∃cP G4,fH (upd H1 a<|.frz o<|.dK ps) H4/\RH i G4 H4/\REn i.K H4 cP σ4/\O.wFor st (λv e g K M=>O.go (O.bind q g v e) λe2=>O.wSs Φ mb e2 g K (λu g2=>g2 a=fb (.frz kvs)/\R u (O.upd g2 a<|.dct kvs)) M K λ_ _ _=>False) (λe g=>g a=fb (.frz kvs)/\N e (O.upd g a<|.dct kvs)) (xs.drop<|n+1) cP G4,λσ4 H4 h=>⟨m - 1,by lia,by lia,h⟩,λx H4 hy=>?_⟩;let⟨k4,g4,r4⟩:=a2 x H4 hy;let⟨dI,e5,w5⟩:=fj w3;refine⟨xs[n],ř,G',dI,r4,g4,e3.keep k4,e5,λσ5 h5=>?_⟩;refine⟨dI,G',_,_,_,_,_,⟨h5,g4,xo _⟩,w5,⟨λenv6 σ6 G6 H6 k6 g6 e6 w6=>?_,λv6 G6 H6 x6 k6 g6 r6 w6=>?_,λenv6 σ6 G6 H6 k6 g6 e6 w6=>?_,λenv6 σ6 G6 H6 k6 g6 e6 w6=>?_⟩⟩
  .exact⟨env6,G6,(k3.trans k4).trans k6,g6,e6,w6⟩
  .exact ret v6 G6 H6 x6 ((k3.trans k4).trans k6) g6 r6 w6
  .exact fin env6 σ6 G6 H6 ((k3.trans k4).trans k6) g6 e6 w6
  .exact⟨env6,G6,(k3.trans k4).trans k6,g6,e6,w6⟩
 .left;have hd:xs.drop n=[]:=Ŭ (by lia);rw[hd]at w3;exact⟨it.stop n G' H' k3 g3 w3.1 (by lia),fin ř ş G' H' k3 g3 e3 w3.2⟩
variable {kk:Nat} {d:Expr}
def Gv{es:List Expr}{tp ń Ō:Pos}(hp:aj (à X.prog X.w) X.A X.env X.xe)(hc:X.calm=fe)(hd:PE X d<|tE X i Φ m)(hg:PG X (.Tuple es kk tp)<|gPt i q)(hb:PSs X body<|tBl X i Φ mb)
  (ϕ:Ė d "items" X.env (eval d X.env)=eval d X.env) (ϖ:(ń.endLine==Ō.line)=fe) (hs:∀x,Ę (.Call (.Attribute d "items" ń) [] [] Ō) X.env x=pure x) :
  PS X (.For (.Tuple es kk tp) (.Call (.Attribute d "items" ń) [] [] Ō) body [] ì) (tSt X i Φ<|.forI ff q m mb) :=
 UG hp hc (BW hd ϕ ϖ) hg hb hs λ_ _ _ _ _ e r=>Di e r
def EW(hp:aj (à X.prog X.w) X.A X.env X.xe)(hc:X.calm=fe)(hd:PE X d<|tE X i Φ m)(hg:PG X tg<|gPt i q)(hb:PSs X body<|tBl X i Φ mb)(hs:∀x,Ę d X.env x=pure x) :
  PS X (.For tg d body [] ì) (tSt X i Φ<|.forI fe q m mb) :=
 UG hp hc (Gf hd) hg hb hs λ_ _ _ _ _ e r=>GI e r
def Nd(rows:List<|List Int):∀(k:Nat) (x:List Int) (r:List<|List Int),rows.take (k+1)=x::r->k<rows.length->O.minR x r=rows.getD (į (btL λn=>rows.getD n []) k) []
 |0,x,r,h,hk=>by
  cases rows with
  |nil=>cases h
  |cons y ys=>simp at h;let⟨rfl,rfl⟩:=h;rfl
 |k+1,x,r,h,hk=>by
  cases rows with
  |nil=>cases h
  |cons y ys =>
   rw[Ϫ]at h;injection h with h1 h2;subst h1 h2;have aB:k<ys.length:=⇑hk
   have ih:=Nd (y::ys) k y (ys.take k) (by rw[Ϫ]) (by simp;lia);have e:ys.take (k+1)=ys.take k++[ys[k]]:=by rw[Ζ];simp[aB]
   have app:∀(b:List Int) (l:List<|List Int) (z:List Int),O.minR b (l++[z])=if O.fS z (O.minR b l)then z else O.minR b l:=by
    intro b l z;induction l generalizing b with
    |nil=>rfl
    |cons w l ih=>exact ih _
   rw[e,app,ih];have e2:(y::ys).getD (k+1) []=ys[k]:=by simp[aB]
   show _=(y::ys).getD (if btL (λn=>(y::ys).getD n []) (k+1) (į (btL λn=>(y::ys).getD n []) k)=fe then k+1 else į (btL λn=>(y::ys).getD n []) k) [];have eb:btL (λn=>(y::ys).getD n []) (k+1) (į (btL λn=>(y::ys).getD n []) k)=O.fS ys[k] ((y::ys).getD (į (btL λn=>(y::ys).getD n []) k) []):=by rw[MH,<-e2];rfl
   rw[eb];cases O.fS ys[k] ((y::ys).getD (į (btL λn=>(y::ys).getD n []) k) [])with
   |true=>rw[gF rfl,gF rfl,e2]
   |false=>rw[gG (by decide),gG<|by decide]
def GJ{G:O.Hs}{H:Hp}{xs:List O.Val}{us:List V}{w:List Int}{r:List (List Int)}{y:V}(h2:RVs i.K H xs us)(h3:(w::r).length=us.length)(h5:xs=(w::r).map λn=>.tup<|n.map .int)(hy:us[į (btL λn=>(w::r).getD n [])<|us.length - 1]?=fb y):RV i.K H (.tup<|(O.minR w r).map .int) y:=by
 rw[Nd (w::r) ((w::r).length - 1) w r (by simp)<|by simp];rw[<-h3]at hy;have aq:į (btL λn=>(w::r).getD n []) ((w::r).length - 1)<(w::r).length:=by have:=JL (btL λn=>(w::r).getD n [])<|(w::r).length - 1;simp only[Ð]at this ⊢;lia
 generalize hj:į (btL λn=>(w::r).getD n []) ((w::r).length - 1)=j at hy aq ⊢;have hxj:xs[j]?=fb (.tup<|((w::r).getD j []).map .int):=by rw[h5,ß,Ù aq];simp[Ē,Ù aq]
 let⟨x2,hx2,rx2⟩:=h2.get hxj;rw[hy]at hx2;cases hx2;exact rx2
def LP{e:Expr}{p kp kpos:Pos}(hc:X.calm=fe)(hu:X.A.units+1<Ħ)(hK:X.K=i.K)(hg:Gl X "min")(hm:X.mg "min" = fc)(he:PE X e<|tE X i Φ m)(hs:Ú [e] X.env=[(ff,eval e X.env)]) :
  PE X (.Call (.Name "min" p) [e] [⟨fb "default",.Constant .none kk kp,kpos⟩] ì) (tE X i Φ<|.bi .minD<|.cons m .nil):=by
 refine(Gu hc hu hg hm (ZJ he gh<|by rw[hs];rfl) hs).imp λσ H Q ⟨env,G,Qm,Em,p,w,c⟩=>?_;change tE X i Φ m σ H _;refine one p w λv G1 H1 x k1 p1 r q=>?_
 replace q:(O.f6 G1 v).wp G1 Qm:=q
 cases v with
 |ref a =>
  cases r.ref_inv;unfold O.f6 at q;dsimp only at q;cases z:(O.fx<|G1 a).bind O.rowsOf with
  |none=>rw[z]at q;exact(Zk q).elim
  |some rows =>
   let⟨xs,z1,z2⟩:=î.mp z;let⟨us,h1,h2⟩:=Zm p1.hp z1;let⟨h3,h4,h5⟩:=Nw h2 z2;rw[z]at q;refine⟨a,us,rows,rfl,by rw[hK];exact h1,h3,by rw[hK];exact h4,λe0=>?_,λe0 y hy=>?_⟩
   .subst e0;cases rows with
    |nil=>exact c _ G1 H1 _ k1 p1.hp .non<|Zq q
    |cons _ _=>cases h3
   .cases rows with
    |nil=>exact gL (Ť.mp h3.symm) e0
    |cons w r =>exact c _ G1 H1 _ k1 p1.hp (GJ (G:=G1) h2 h3 h5 hy)<|Zq q
 |_=>exact(Zk q).elim
structure Md where
 N:List Str
 sc:ſ
 cs:List<|String×O.Val
 fs:List String
 cm:Bool
 cl:List String
 ms:List<|String×String
 fl:List String
 xs:List String
abbrev Md.nmOf(c:Md)(j:Nat):Str:=c.N.getD j Str.empty
abbrev Md.vis(c:Md)(x:Str):Bool:=match c.sc.names.lookup x with
 |some .local=>fe
 |some .cell=>fe
 |some .free=>fe
 |_=>ff
abbrev Md.loc(c:Md)(x:Str):Bool:=c.sc.names.lookup x==fb .local||c.sc.names.lookup x==fb .cell
abbrev Md.gl(c:Md)(x:Str):Bool:=c.sc.names.lookup x==fb .globalImplicit
abbrev nm(x:Str):Bool:=!(x==("__debug__" : Str)) && !(x==("__classdict__" : Str)) && !(x==("__name__" : Str))
abbrev dE:Expr:=.Name Str.empty ⟨0,0,0,0⟩
abbrev mix:List (Option Expr)->List Expr->List Expr
 |k::ks,v::vs=>k.getD dE::v::mix ks vs
 |_,_=>[]
abbrev sub:Expr->List Expr
 |.BoolOp _ xs _=>xs
 |.BinOp a _ b _=>[a,b]
 |.UnaryOp _ a _=>[a]
 |.IfExp a b c _=>[a,b,c]
 |.Compare a _ bs _=>a::bs
 |.Call f as ks _=>f::(as++ks.map (·.value))
 |.FormattedValue a _ _ _=>[a]
 |.JoinedStr vs _=>vs
 |.Attribute a _ _=>[a]
 |.Subscript a b _=>[a,b]
 |.List es _=>es
 |.Tuple es _ _=>es
 |.Slice a b c _=>[a.getD dE,b.getD dE,c.getD dE]
 |.ListComp e gs _ _=>e::gs.flatMap λg=>g.target::g.iter::g.ifs
 |.Dict ks vs _=>mix ks vs
 |_=>[]
abbrev kid(x:Expr)(j:Nat):Expr:=(sub x).getD j dE
abbrev num:Expr->Nat
 |.Constant _ k _=>k
 |.Tuple _ k _=>k
 |_=>0
abbrev scp:Expr->ſ
 |.ListComp _ _ s _=>s
 |_=>default
abbrev kwp:Expr->Pos
 |.Call _ _ (k::_) _=>k.pos
 |_=>⟨0,0,0,0⟩
abbrev O5:O.Bop->ϗ
 |.add=>.Add
 |.sub=>.Sub
 |.mul=>.Mult
 |.fdiv=>.FloorDiv
 |.mod=>.Mod
 |.pow=>.Pow
abbrev WU:O.Cop->cg
 |.eq=>.Eq
 |.ne=>.NotEq
 |.lt=>.Lt
 |.le=>.LtE
 |.gt=>.Gt
 |.ge=>.GtE
 |.isin=>.In
 |.notin=>.NotIn
 |.is=>.Is
 |.isnot=>.IsNot
 |.eqE=>.Eq
 |.neE=>.NotEq
 |.ntT=>.IsNot
abbrev Rq:O.Val->Const
 |.non=>.none
 |.bl b=>.bool b
 |.int i=>.int i
 |.str s=>.str<|gN s
 |_=>.ellipsis
abbrev HI:O.Val->Bool
 |.non=>fe
 |.bl _=>fe
 |.int _=>fe
 |.str _=>fe
 |_=>ff
abbrev ZQ:O.E->Bool
 |.and _ _=>fe
 |_=>ff
abbrev YA:O.E->Bool
 |.or _ _=>fe
 |_=>ff
abbrev Zs:O.Tt->Bool
 |.and _ _=>fe
 |_=>ff
abbrev ZG:O.Tt->Bool
 |.or _ _=>fe
 |_=>ff
abbrev rest(b:Bool)(x:Expr):Expr:=match b,x with
 |true,.BoolOp op (_::xs) p=>.BoolOp op xs p
 |_,x=>kid x 1
abbrev flat(b:Bool)(x:Expr):List Expr:=match b with
 |true=>sub x
 |false=>[x]
abbrev Yp:O.Bi->Str
 |.len=>"len"
 |.int=>"int"
 |.str=>"str"
 |.bool=>"bool"
 |.abs=>"abs"
 |.min2=>"min"
 |.max2=>"max"
 |.minL=>"min"
 |.maxL=>"max"
 |.minP=>"min"
 |.maxP=>"max"
 |.minD=>"min"
 |.sum=>"sum"
 |.all=>"all"
 |.any=>"any"
 |.sorted=>"sorted"
 |.sortedI=>"sorted"
 |.sortedSet=>"sorted"
 |.lenSet=>"len"
 |.list=>"list"
 |.tuple=>"tuple"
 |.dict=>"dict"
 |.isi _=>"isinstance"
 |.isx _=>"isinstance"
 |.isc _=>"isinstance"
 |.repr=>"repr"
 |.listRev=>"list"
 |.listRange=>"list"
 |.tupRange=>"tuple"
 |.dictEnum=>"dict"
 |.listD=>"list"
abbrev QK:O.Bi->Option Str
 |.sortedSet=>fb "set"
 |.lenSet=>fb "set"
 |.listRev=>fb "reversed"
 |.listRange=>fb "range"
 |.tupRange=>fb "range"
 |.dictEnum=>fb "enumerate"
 |_=>fc
abbrev Ly(Ts:List String)(x:Expr):Expr:=match Ts with
 |[T]=>.Name (gN T) x.pos
 |Ts=>.Tuple (Ts.zipIdx.map λp=>.Name (gN p.1) (kid x p.2).pos) (num x) x.pos
abbrev HS(f:O.Bi)(as:List Expr)(x:Expr):List Expr:=match QK f with
 |some y=>[.Call (.Name y (kid (kid x 1) 0).pos) as [] (kid x 1).pos]
 |none=>match f with
  |.isi Ts=>as++[Ly Ts<|kid x 2]
  |.isx Ts=>as++[Ly Ts<|kid x 2]
  |.isc T=>as++[Ly [T]<|kid x 2]
  |_=>as
abbrev UQ(f:O.Bi)(x:Expr):List Expr:=match QK f with
 |some _=>(sub<|kid x 1).tail
 |none=>(sub x).tail
abbrev Sf(f:O.Bi)(x:Expr):List aZ:=match f with
 |.minD=>[⟨fb "default",.Constant .none (num<|kid x 2) (kid x 2).pos,kwp x⟩]
 |_=>[]
abbrev IN:O.Bm->Str
 |.append=>"append"
 |.extend=>"extend"
 |.pop=>"pop"
 |.popAt=>"pop"
 |.insert=>"insert"
 |.remove=>"remove"
 |.clear=>"clear"
 |.reverse=>"reverse"
 |.index=>"index"
 |.count=>"count"
 |.dget=>"get"
 |.dgetD=>"get"
 |.dpop=>"pop"
 |.dpopD=>"pop"
 |.setdefault=>"setdefault"
 |.join=>"join"
 |.split=>"split"
 |.replace=>"replace"
 |.upper=>"upper"
 |.partition=>"partition"
 |.sidx=>"index"
abbrev Wu:List Expr->List (Option Expr)
 |k::_::r=>fb k::Wu r
 |_=>[]
abbrev D5:List Expr->List Expr
 |_::v::r=>v::D5 r
 |_=>[]
abbrev toP(p:O.Pt)(c:Md)(x:Expr):Expr:=match p with
 |.one j=>.Name (c.nmOf j) x.pos
 |.many js=>.Tuple (js.zipIdx.map λp=>.Name (c.nmOf p.1) (kid x p.2).pos) (num x) x.pos
 |.nest j js=>.Tuple [.Name (c.nmOf j) (kid x 0).pos,.Tuple (js.zipIdx.map λp=>.Name (c.nmOf p.1) (kid (kid x 1) p.2).pos) (num<|kid x 1) (kid x 1).pos] (num x) x.pos
abbrev nmX:Expr->Str
 |.Name x _=>x
 |_=>Str.empty
abbrev YN:Expr->List Str
 |.Tuple es _ _=>es.map nmX
 |x=>[nmX x]
abbrev Md.blk(c:Md)(sc:ſ)(x:List Str)(ù:List Nat):Md :=
 {N:=x++ù.map (λj=>c.N.getD j Str.empty),sc:={sc with names:=sc.names.map λ(n,k)=>if(k == .free&&c.sc.kind == .function&&c.sc.names.lookup n==fb .cell)then(n,.cell)else(n,k)},cs:=c.cs,fs:=c.fs,cm:=c.cm,cl:=c.cl,ms:=c.ms,fl:=c.fl,xs:=c.xs}
abbrev Be:O.E->Bool
 |.cst (.str _)=>fe
 |_=>ff
mutual
noncomputable def toX:O.E->Md->Expr->Expr
 |.cst v,_,x=>.Constant (Rq v) (num x) x.pos
 |.var j,c,x=>.Name (c.nmOf j) x.pos
 |.glob y _,_,x=>.Name (gN y) x.pos
 |.bin o a b,c,x=>.BinOp (toX a c<|kid x 0) (O5 o) (toX b c<|kid x 1) x.pos
 |.neg a,c,x=>.UnaryOp .USub (toX a c<|kid x 0) x.pos
 |.not a,c,x=>.UnaryOp .Not (toX a c<|kid x 0) x.pos
 |.and a b,c,x=>.BoolOp .And (toX a c (kid x 0)::flat (ZQ b) (toX b c<|rest (ZQ b) x)) x.pos
 |.or a b,c,x=>.BoolOp .Or (toX a c (kid x 0)::flat (YA b) (toX b c<|rest (YA b) x)) x.pos
 |.cmp o a b,c,x=>.Compare (toX a c<|kid x 0) [WU o] [toX b c<|kid x 1] x.pos
 |.chain o1 o2 a b d,c,x=>.Compare (toX a c<|kid x 0) [WU o1,WU o2] [toX b c<|kid x 1,toX d c<|kid x 2] x.pos
 |.call f as,c,x=>.Call (.Name (gN f) (kid x 0).pos) (toA as c (sub x).tail) [] x.pos
 |.make C as,c,x=>.Call (.Name (gN C) (kid x 0).pos) (toA as c (sub x).tail) [] x.pos
 |.meth _ m o as,c,x=>.Call (.Attribute (toX o c<|kid (kid x 0) 0) (gN m) (kid x 0).pos) (toA as c (sub x).tail) [] x.pos
 |.fld o f,c,x=>.Attribute (toX o c<|kid x 0) (gN f) x.pos
 |.bi f as,c,x=>.Call (.Name (Yp f) (kid x 0).pos) (HS f (toA as c<|UQ f x) x) (Sf f x) x.pos
 |.bm m o as,c,x=>.Call (.Attribute (toX o c<|kid (kid x 0) 0) (IN m) (kid x 0).pos) (toA as c (sub x).tail) [] x.pos
 |.idx a b,c,x=>.Subscript (toX a c<|kid x 0) (toX b c<|kid x 1) x.pos
 |.slc a lo hi,c,x=>.Subscript (toX a c<|kid x 0) (.Slice (toO lo c<|kid (kid x 1) 0) (toO hi c<|kid (kid x 1) 1) fc (kid x 1).pos) x.pos
 |.rev a,c,x=>.Subscript (toX a c<|kid x 0) (.Slice fc fc (fb<|.UnaryOp .USub (.Constant (.int 1) (num<|kid (kid (kid x 1) 2) 0) (kid (kid (kid x 1) 2) 0).pos) (kid (kid x 1) 2).pos) (kid x 1).pos) x.pos
 |.sortT a,c,x=>.Call (.Name "sorted" (kid x 0).pos) [toX a c<|kid x 1] [] x.pos
 |.pick a lo hi st,c,x=>.Subscript (toX a c<|kid x 0) (.Slice (toO lo c<|kid (kid x 1) 0) (toO hi c<|kid (kid x 1) 1) (fb<|toX st c<|kid (kid x 1) 2) (kid x 1).pos) x.pos
 |.tup es,c,x=>.Tuple (toA es c<|sub x) (num x) x.pos
 |.key es,c,x=>.Tuple (toA es c<|sub x) (num x) x.pos
 |.dctP,c,x=>.Dict [] [] x.pos
 |.lst es,c,x=>.List (toA es c<|sub x) x.pos
 |.dct es,c,x=>.Dict (Wu<|toA es c<|sub x) (D5<|toA es c<|sub x) x.pos
 |.ife t a b,c,x=>.IfExp (toT t c<|kid x 0) (toX a c<|kid x 1) (toX b c<|kid x 2) x.pos
 |.comp ù _ p it t e,c,x=>.ListComp (toX e (c.blk (scp x) (YN<|kid x 1) ù)<|kid x 0) [⟨toP p (c.blk (scp x) (YN<|kid x 1) ù)<|kid x 1,toI it c<|kid x 2,toF t (c.blk (scp x) (YN<|kid x 1) ù)<|kid x 3,0⟩] (scp x) x.pos
 |.fstr es,c,x=>.JoinedStr (toJ es c<|sub x) x.pos
 |.split o a,c,x=>.Call (.Attribute (toX o c<|kid (kid x 0) 0) "split" (kid x 0).pos) [toX a c<|kid x 1] [] x.pos
 |.repl o y z,c,x=>.Call (.Attribute (toX o c<|kid (kid x 0) 0) "replace" (kid x 0).pos) [.Constant (.str<|gN y) (num<|kid x 1) (kid x 1).pos,.Constant (.str<|gN z) (num<|kid x 2) (kid x 2).pos] [] x.pos
noncomputable def toA:O.Es->Md->List Expr->List Expr
 |.nil,_,_=>[]
 |.cons e es,c,xs=>toX e c (xs.headD dE)::toA es c xs.tail
noncomputable def toJ:O.Es->Md->List Expr->List Expr
 |.nil,_,_=>[]
 |.cons e es,c,xs=>(if Be e then toX e c (xs.headD dE)else .FormattedValue (toX e c<|kid (xs.headD dE) 0) (-1) fc (xs.headD dE).pos)::toJ es c xs.tail
noncomputable def toO:O.Oe->Md->Expr->Option Expr
 |.none,_,_=>fc
 |.some e,c,x=>fb<|toX e c x
noncomputable def toT:O.Tt->Md->Expr->Expr
 |.yes,_,x=>x
 |.val e,c,x=>toX e c x
 |.not t,c,x=>.UnaryOp .Not (toT t c<|kid x 0) x.pos
 |.and a b,c,x=>.BoolOp .And (toT a c (kid x 0)::flat (Zs b) (toT b c<|rest (Zs b) x)) x.pos
 |.or a b,c,x=>.BoolOp .Or (toT a c (kid x 0)::flat (ZG b) (toT b c<|rest (ZG b) x)) x.pos
noncomputable def toF:O.Tt->Md->Expr->List Expr
 |.yes,_,_=>[]
 |.val e,c,x=>[toX e c x]
 |.not t,c,x=>[.UnaryOp .Not (toT t c<|kid x 0) x.pos]
 |.and a b,c,x=>[.BoolOp .And (toT a c (kid x 0)::flat (Zs b) (toT b c<|rest (Zs b) x)) x.pos]
 |.or a b,c,x=>[.BoolOp .Or (toT a c (kid x 0)::flat (ZG b) (toT b c<|rest (ZG b) x)) x.pos]
noncomputable def toI:O.It->Md->Expr->Expr
 |.seq e,c,x=>toX e c x
 |.chars e,c,x=>toX e c x
 |.range a,c,x=>.Call (.Name "range" (kid x 0).pos) [toX a c<|kid x 1] [] x.pos
 |.range2 a b,c,x=>.Call (.Name "range" (kid x 0).pos) [toX a c<|kid x 1,toX b c<|kid x 2] [] x.pos
 |.enumL e,c,x=>.Call (.Name "enumerate" (kid x 0).pos) [toX e c<|kid x 1] [] x.pos
 |.enum e,c,x=>.Call (.Name "enumerate" (kid x 0).pos) [toX e c<|kid x 1] [] x.pos
 |.zip a b,c,x=>.Call (.Name "zip" (kid x 0).pos) [toX a c<|kid x 1,toX b c<|kid x 2] [] x.pos
 |.items e,c,x=>toX e c x
 |.keysF e,c,x=>toX e c x
 |.rev e,c,x=>.Call (.Name "reversed" (kid x 0).pos) [toX e c<|kid x 1] [] x.pos
end
abbrev blts:List Str:=["isinstance","int","bool","str","list","tuple","dict","max","min","range","len","sorted","set","all","any","sum","enumerate","zip","reversed","abs","repr","ValueError"]
structure Kls(X:Cx)(i:Inf)(P:O.Pg)(n:Nat)(c:Md):Prop where
 A:ClsA i
 F:∀f,c.fl.contains f=fe->FldOk i f
 mkc:∀C,c.cl.contains C=fe->∃a f,i.ins C=fe/\i.cl C a/\Mk i.K a f/\X.mg (gN C)=fb (.ref a)/\Dfm X.prog X.w X.mg X.base i P n (C ++ ".__init__") f
 mth:∀C m,c.ms.contains (C,m)=fe->∃a f,(∀b,i.cl C b->b=a)/\Cls i.K a/\Meth i.K a (gN m) f/\Dfm X.prog X.w X.mg X.base i P n (C ++ "." ++ m) f
structure Xls(X:Cx)(i:Inf)(c:Md):Prop where
 xc:∀C a,i.xc C a->XCls i.K a/\PySem.W.kitOne i.K (.ref a) (.type "ValueError")=fb fe
 rs:∀C,c.xs.contains C=fe->∃a,i.xc C a/\PyProof.Rows.OwnCls (gN C) a [.type "ValueError",.type "Exception",.type "BaseException",.type "object"] "ValueError.__new__" X.mg X.base
 kn:∀T,(c.xs.contains T||T == "ShutError")=fe->∃D,X.mg (gN T)=fb (.ref D)/\∀C a,i.xc C a->PySem.W.kitOne i.K (.ref a) (.ref D)=fb (O.gj C T)/\(O.gj C T=fe->PySem.W.exmOne i.K (.ref a) (.ref D)=fb fe)
structure Gd(X:Cx)(i:Inf)(P:O.Pg)(n:Nat)(c:Md):Prop where
 K:X.K=i.K
 N:X.N=c.N
 sc:X.env.scope=c.sc
 nd:c.N.Nodup
 un:X.A.units+200<Ħ
 calm:c.cm=fe->X.calm=fe
 room:c.cm=fe->fN (2*n+1) X.A
 bl:∀x∈blts,X.mg x=fc
 dfs:∀f,c.fs.contains f=fe->Dfo X.prog X.w X.mg X.base i P n f
 cst:∀x v,c.cs.lookup x=fb v->∃u y,X.mg (gN x)=fb u/\RelV y u/\∀H,RV i.K H v y
 kl:Kls X i P n c
 xl:c.xs≠[]->Xls X i c
variable {X:Cx}{i:Inf}{P:O.Pg}{n:Nat}{c:Md}
variable {x:Str}
def Gd.gl(g:Gd X i P n c)(h:c.gl x=fe):Gl X x:=by show X.env.scope.names.lookup x=_;rw[g.sc];exact eq_of_beq h
def Gd.vis(g:Gd X i P n c)(h:c.vis x=fe):Vis X.env.scope x:=by
 unfold Vis;rw[g.sc];unfold Md.vis at h;split at h
 .exact .inl (by assumption)
 .exact .inr (.inl<|by assumption)
 .exact .inr (.inr<|by assumption)
 .cases h
def Gd.loc(g:Gd X i P n c)(h:c.loc x=fe):L2.Loc X.env.scope x:=by
 unfold L2.Loc;rw[g.sc];rcases (Bool.or_eq_true ..).mp h with h|h
 .exact .inl<|eq_of_beq h
 .exact .inr<|eq_of_beq h
def Gd.rm(g:Gd X i P n c)(h:c.cm=fe):fN (2*n) X.A:=(g.room h).mono (Ŧ _)
def UB(h:nm x=fe):(x==("__debug__" : Str))=ff/\(x==("__classdict__" : Str))=ff/\x≠"__name__":=by simp![nm,bAq,œ]at h;exact⟨h.1.1,h.1.2,⇑h.2⟩
def Zo(e:O.E)(c:Md)(x:Expr)(es:List Expr)(env:Env):Ú (toX e c x::es) env=(ff,eval (toX e c x) env)::Ú es env:=by cases e<;>rfl
def CT(e:O.E)(c:Md)(x:Expr):Mn<|toX e c x:=by intro o j;cases e<;>rfl
variable {op:cg}
def FQ(e:O.E)(c:Md)(x:Expr):Ļ op (toX e c x)=ff:=by cases e<;>rfl
def Ls(e:O.E)(c:Md)(x:Expr)(env:Env):∀y,Ę (toX e c x) env y=pure y:=by intro y;cases e<;>rfl
abbrev YI:Expr->Bool
 |.Call (.Name _ _) [] _ _=>ff
 |_=>fe
variable {e:Expr}
def YE(h:YI e=fe)(f:Str)(env:Env):Ė e f env (eval e env)=eval e env:=by
 cases e with
 |Call g as ks p =>
  cases as with
  |cons _ _=>cases g<;>rfl
  |nil=>cases g with
   |Name x q=>cases h
   |_=>rfl
 |_=>rfl
abbrev Ze:O.Es->Nat
 |.nil=>0
 |.cons _ es=>Ze es+1
def XT:∀(es:O.Es) (c:Md) (xs:List Expr),(toA es c xs).length=Ze es
 |.nil,_,_=>rfl
 |.cons _ es,c,xs=>by show(toA es c xs.tail).length+1=_;rw[XT es];rfl
def Yw(env:Env)(ì:Pos):∀(es:O.Es) (c:Md) (xs:List Expr),(ě ì<|Ú (toA es c xs) env).any (·.1)=ff
 |.nil,_,_=>rfl
 |.cons e es,c,xs=>by show(ě ì<|Ú (toX e c (xs.headD dE)::toA es c xs.tail) env).any (·.1)=ff;rw[Zo];show(ff||(ě ì<|Ú (toA es c xs.tail) env).any (·.1))=ff;rw[Yw env ì es];rfl
def Jy(env:Env)(ì:Pos):∀(es:O.Es) (c:Md) (xs:List Expr),(ě ì<|Ú (toA es c xs) env).all (λx=>!x.1)=fe
 |.nil,_,_=>rfl
 |.cons e es,c,xs=>by show(ě ì<|Ú (toX e c (xs.headD dE)::toA es c xs.tail) env).all (λx=>!x.1)=fe;rw[Zo];show(fe&&(ě ì<|Ú (toA es c xs.tail) env).all (λx=>!x.1))=fe;rw[Jy env ì es];rfl
abbrev ZF:O.Pt->Bool
 |.one _=>fe
 |_=>ff
def MM(p:O.Pt)(x:Expr):((!ZF p)=fe->∃es k q,toP p c x=.Tuple es k q)/\((!ZF p)=ff->∃y q,toP p c x=.Name y q):=by
 cases p with
 |one j=>exact⟨λz=>(by cases z),λ_=>⟨_,_,rfl⟩⟩
 |many js=>exact⟨λ_=>⟨_,_,_,rfl⟩,λz=>(by cases z)⟩
 |nest j js=>exact⟨λ_=>⟨_,_,_,rfl⟩,λz=>(by cases z)⟩
abbrev Ez(X:Cx)(c:Md)(j:Nat):Prop:=X.N[j]?=fb (c.nmOf j)/\L2.Loc X.env.scope (c.nmOf j)/\(X.fn (c.nmOf j)=fe\/X.env.scope.names.lookup (c.nmOf j)=fb .local)
abbrev HF(q:Nat->Prop):O.Pt->Prop
 |.one j=>q j
 |.many js=>∀j∈js,q j
 |.nest j js=>q j/\∀k∈js,q k
def Mr{X:Cx}{c:Md}(nd:X.N.Nodup)(f:Nat->Pos):∀(js:List Nat) (k:Nat),(∀j∈js,Ez X c j)->
  PGs X ((js.zipIdx k).map λp=>.Name (c.nmOf p.1)<|f p.2) (Ea i js)/\(Ĝ ((js.zipIdx k).map λp=>.Name (c.nmOf p.1)<|f p.2) X.env).length=js.length/\(Ĝ ((js.zipIdx k).map λp=>.Name (c.nmOf p.1)<|f p.2) X.env).findIdx? (·.1)=fc
 |[],_,_=>⟨FY,rfl,rfl⟩
 |j::js,k,h=>by
  let⟨h1,h2,h3⟩:=h j (by simp);let⟨a1,a2,a3⟩:=Mr nd f js (k+1) λl hl=>h l (by simp[hl]);rw[Ψ,Ó];refine⟨D9 nd h1 h2 h3 a1 rfl,?_,?_⟩
  .show(Ĝ ((js.zipIdx<|k+1).map _) X.env).length+1=js.length+1;rw[a2]
  .show List.findIdx? (·.1) ((ff,η (.Name (c.nmOf j)<|f k) X.env)::Ĝ _ X.env)=fc;rw[List.findIdx?_cons];simp[a3]
def HA(hK:X.K=i.K)(nd:X.N.Nodup)(hc:X.calm=fe){p:O.Pt}{x:Expr}(h:HF (Ez X c) p):PG X (toP p c x)<|gPt i p:=by
 cases p with
 |one j=>exact OG nd h.1 h.2.1 h.2.2
 |many js =>let⟨a1,a2,a3⟩:=Mr nd (λk=>(kid x k).pos) js 0 h;exact UX hK hc a1 a2 a3
 |nest j js =>let⟨h0,h⟩:=h;let⟨a1,a2,a3⟩:=Mr nd (λk=>(kid (kid x 1) k).pos) js 0 h;exact FJ hK hc (OG nd h0.1 h0.2.1 h0.2.2)<|UX hK hc a1 a2 a3
variable {Φ:O.Fs} {a:O.E} {b:O.E} {l:Expr} {ì:Pos}
def PZ(g:Gd X i P n c){o:O.Bop}{r:Expr}(ha:PE X l<|tE X i Φ a)(hb:PE X r<|tE X i Φ b):PE X (.BinOp l (O5 o) r ì)<|tE X i Φ<|.bin o a b:=by
 cases o with
 |add=>exact KC Q4 (by rw[g.K];exact b_add) ha hb
 |sub=>exact KC LH b_sub ha hb
 |mul=>exact KC Qt b_mul ha hb
 |fdiv=>exact KC Fd b_fdiv ha hb
 |mod=>exact KC IZ b_mod ha hb
 |pow=>exact KC Lw b_pow ha hb
abbrev XZ:O.Cop->Bool
 |.is=>fe
 |.isnot=>fe
 |.ntT=>fe
 |_=>ff
variable {o:O.Cop}
def Uj(g:Gd X i P n c)(h:XZ o=ff):∃r,OpR X (ð<|WU o) r/\Z5 i o r:=by
 have u65:X.A.units+65<Ħ:=by have:=g.un;lia
 have u64:X.A.units+64<Ħ:=by have:=g.un;lia
 have u0:X.A.units<Ħ:=by have:=g.un;lia
 cases o with
 |eq=>exact⟨_,Lk u64,by rw[g.K];exact Sa⟩
 |ne=>exact⟨_,HW u64,by rw[g.K];exact Sq⟩
 |lt=>exact⟨_,Su u0,by rw[g.K];exact c_lt⟩
 |le=>exact⟨_,PP,c_le⟩
 |gt=>exact⟨_,Se u0,by rw[g.K];exact c_gt⟩
 |ge=>exact⟨_,RE,c_ge⟩
 |isin=>exact⟨_,Sw u65,by rw[g.K];exact RL⟩
 |notin=>exact⟨_,RW u65,by rw[g.K];exact SJ⟩
 |eqE=>exact⟨_,Dq u64,by rw[g.K];exact c_eqE⟩
 |neE=>exact⟨_,D7 u64,by rw[g.K];exact c_neE⟩
 |_=>cases h
def Pm{v:O.Val}{j:Nat}(h:HI v=fe):PE X (.Constant (Rq v) j ì)<|tE X i Φ<|.cst v:=by
 cases v with
 |non=>exact W9 B4 λ_=>.non
 |bl b=>exact W9 QE λ_=>.bl _
 |int k=>exact W9 OD λ_=>.int _
 |str s=>exact W9 pe_str λ_=>.str _
 |_=>cases h
abbrev Nb:O.E->Bool
 |.cst .non=>fe
 |_=>ff
def E9{e:O.E}(h:Nb e=fe):e=.cst .non:=by
 cases e with
 |cst v=>cases v with
  |non=>rfl
  |_=>cases h
 |_=>cases h
variable {y:Expr}
def Dc(hn:∀G v d,O.fB G o v .non≠fb d)(ha:PE X l<|tE X i Φ a)(hb:PE X y<|tE X i Φ<|.cst .non)(hm:Ļ op y=ff) :
  PE X (.Compare l [op] [y] ì) (tE X i Φ<|.cmp o a<|.cst .non)/\PT X (.Compare l [op] [y] ì) (tTt X i Φ<|.val<|.cmp o a<|.cst .non):=by
 have ho:OpR X (ð op) λ_ _ _ _=>False:=λ_ _ _ _ _ _ _ _ _ _ _ _ h=>h.elim;refine⟨(UM ho ha hb hm).imp λσ H Q ⟨env,G,Qm,Em,p,w,c⟩=>?_,(Ah ho ha hb hm).imp λσ H Q ⟨env,G,Qm,Em,p,w,c⟩=>?_⟩
 .refine one p w λv G1 H1 x k1 p1 r q=>?_;let⟨d,e,_⟩:=fj q;exact gL e<|hn G1 v d
 .refine one p w λv G1 H1 x k1 p1 r q=>?_;let⟨d,e,_⟩:=fj q;exact gL e<|hn G1 v d
def Nr(g:Gd X i P n c){x:Expr}(h:(!XZ o||Nb b)=fe)(ha:PE X l<|tE X i Φ a)(hb:PE X (toX b c x)<|tE X i Φ b) :
  PE X (.Compare l [WU o] [toX b c x] ì) (tE X i Φ<|.cmp o a b)/\PT X (.Compare l [WU o] [toX b c x] ì) (tTt X i Φ<|.val<|.cmp o a b):=by
 cases z:XZ o with
 |false =>let⟨r,h1,h2⟩:=Uj g z;exact⟨Qr h1 h2 ha hb<|FQ _ _ _,Lo h1 h2 ha hb<|FQ _ _ _⟩
 |true =>
  rw[z]at h;cases E9 h;cases o with
  |is=>exact⟨Qu ha,Pp ha⟩
  |isnot=>exact⟨LW ha,GH ha⟩
  |ntT=>exact Dc (λG v d e=>by cases v<;>simp[O.fB,O.asLst]at e) ha hb<|FQ _ _ _
  |_=>cases z
def J9(g:Gd X i P n c){o1 o2:O.Cop}{d:O.E}{x:Expr}(h1:XZ o1=ff)(h2:XZ o2=ff)(ha:PE X l<|tE X i Φ a)(hb:PE X y<|tE X i Φ b)(hd:PE X (toX d c x)<|tE X i Φ d) :
  PE X (.Compare l [WU o1,WU o2] [y,toX d c x] ì) (tE X i Φ<|.chain o1 o2 a b d)/\PT X (.Compare l [WU o1,WU o2] [y,toX d c x] ì) (tTt X i Φ<|.val<|.chain o1 o2 a b d):=by
 let⟨r1,a1,a2⟩:=Uj g h1;let⟨r2,b1,b2⟩:=Uj g h2;have hm:bv [WU o1,WU o2] [y,toX d c x]=ff:=FQ _ _ _;exact⟨F0 a1 a2 b1 b2 ha hb hd hm,Do a1 a2 b1 b2 ha hb hd hm⟩
def HU{m:O.E}(h:PE X e<|tE X i Φ m)(he:∀aK,cf e X.env aK=(do let v<-aK;ώ e.pos;Ņ [v] (truthy v)))(hK:X.K=i.K):PT X e<|tTt X i Φ<|.val m:=by
 refine(BG h he).imp λσ H Q ⟨env,G,Qm,Em,p,w,c⟩=>?_;refine one p w λv G1 H1 x k1 p1 r q=>?_;let⟨d,e1,q2⟩:=fj q;clear q;refine⟨d,?_,c d G1 H1 k1 p1.hp q2⟩;cases v with
 |non=>cases r;cases e1;rfl
 |bl b=>cases r;cases e1;rfl
 |int b =>
  cases r;cases e1;show gM (b≠0)=(b != 0)
  by_cases e:b=0<;>simp[e]
 |key _ _=>cases e1
 |str b =>
  cases r;let⟨hl,e1⟩:=Zp e1;cases e1;refine⟨by rw[Zx];exact Þ hl ZP,?_⟩;rw[Zx];by_cases e:b.length=0
  .rw[e];rfl
  .rw[gJ e];symm;simpa using (by lia:¬ ((b.length:Int)=0))
 |tup xs =>
  cases e1;cases r with
  |tup hp hr =>refine .inr (.inl ⟨_,by rw[hK];exact Zj hp,?_⟩);cases hr<;>rfl
 |scr ns =>
  cases e1;cases r with
  |scr h =>refine .inl ⟨_,by rw[hK];exact Yk h,?_⟩;cases ns<;>rfl
 |ref a =>
  cases r.ref_inv
  replace e1:(match G1 a with|some (.lst xs)=>fb (!xs.isEmpty)|some (.dct kvs)=>fb (!kvs.isEmpty)|_=>fc)=fb d:=e1
  cases z:G1 a with
  |none=>rw[z]at e1;cases e1
  |some o =>
   rw[z]at e1;cases o with
   |lst xs =>cases e1;let⟨vs,h1,h2⟩:=p1.hp a _ z;refine .inl ⟨vs,gk.of h1,?_⟩;cases h2<;>rfl
   |dct kvs =>cases e1;let⟨ps,h1,h2⟩:=p1.hp a _ z;refine .inr<|.inr ⟨ps,h1,?_⟩;cases h2<;>rfl
   |_=>cases e1
abbrev Md.gn(c:Md)(y:String):Bool:=c.gl (gN y)&&nm (gN y)
abbrev X8:O.Bi->Bool
 |.len=>fe
 |.int=>fe
 |.abs=>fe
 |.min2=>fe
 |.max2=>fe
 |.all=>fe
 |.list=>fe
 |.tuple=>fe
 |.dict=>fe
 |.sortedI=>fe
 |_=>ff
abbrev FR:O.Bi->Option String
 |.isi [T]=>fb T
 |_=>fc
abbrev EN:O.Bi->Option (List String)
 |_=>fc
abbrev Wj:O.Bi->Bool
 |_=>ff
abbrev WZ:O.Bi->Bool
 |.listRange=>fe
 |.listRev=>fe
 |_=>ff
abbrev Ba:O.Bi->Str
 |.listRev=>"reversed"
 |.sortedSet=>"set"
 |_=>"range"
abbrev UW:O.Bi->Bool
 |_=>ff
abbrev U7:O.Bi->Bool
 |_=>ff
abbrev N8:O.Bi->String
 |.isc T=>T
 |_=>""
abbrev MG:O.Bi->Bool
 |.minD=>fe
 |_=>ff
abbrev DC:O.Bi->Option (List String)
 |_=>fc
abbrev Md.xn(c:Md)(T:String):Bool:=(c.xs.contains T||T == "ShutError")&&c.gn T
abbrev WE:O.Bi->Bool
 |.len=>fe
 |.int=>fe
 |.abs=>fe
 |.list=>fe
 |.tuple=>fe
 |_=>ff
abbrev Pz(c:Md)(Ts:List String):Bool:=match Ts with
 |[T]=>c.xn T||(T == "ValueError" && c.gl (gN T))
 |Ts=>Ts.all c.xn&&gM (Ts.length<=20)
abbrev DV:O.Bm->Option Nat
 |.append=>fb 1
 |.extend=>fb 1
 |.pop=>fb 0
 |.popAt=>fb 1
 |.dget=>fb 1
 |.dpop=>fb 1
 |.dpopD=>fb 2
 |_=>fc
abbrev UV:O.Tt->Bool
 |.yes=>fe
 |_=>ff
abbrev Ug:O.E->Bool
 |.var _=>fe
 |.call _ _=>fe
 |.meth _ _ _ _=>fe
 |.bi _ _=>fe
 |.bm _ _ _=>fe
 |.idx _ _=>fe
 |.fld _ _=>fe
 |.glob _ _=>fe
 |_=>ff
abbrev Ra:O.E->Bool
 |.cmp _ _ _=>fe
 |.chain _ _ _ _ _=>fe
 |_=>ff
mutual
noncomputable def okE:O.E->Md->Expr->Bool
 |.cst v,_,_=>HI v
 |.var j,c,_=>gM (j<c.N.length)&&c.vis (c.nmOf j)&&nm (c.nmOf j)
 |.glob y v,c,_=>c.gn y&&gM (c.cs.lookup y=fb v)
 |.bin _ a b,c,x=>okE a c (kid x 0)&&okE b c (kid x 1)
 |.neg a,c,x=>okE a c<|kid x 0
 |.not a,c,x=>okE a c<|kid x 0
 |.and a b,c,x=>okE a c (kid x 0)&&okE b c (rest (ZQ b) x)&&(!ZQ b||(rest (ZQ b) x).pos==x.pos)
 |.or a b,c,x=>okE a c (kid x 0)&&okE b c (rest (YA b) x)&&(!YA b||(rest (YA b) x).pos==x.pos)
 |.cmp o a b,c,x=>okE a c (kid x 0)&&okE b c (kid x 1)&&(!XZ o||Nb b)
 |.chain o1 o2 a b d,c,x=>okE a c (kid x 0)&&okE b c (kid x 1)&&okE d c (kid x 2) && !XZ o1 && !XZ o2
 |.call f as,c,x=>c.gn f&&c.fs.contains f&&c.cm&&okA as c (sub x).tail
 |.make C as,c,x=>c.gn C&&c.cl.contains C&&c.cm&&gM (Ze as≠0)&&okA as c (sub x).tail
 |.meth C m o as,c,x=>c.ms.contains (C,m)&&c.cm&&okE o c (kid (kid x 0) 0)&&YI (toX o c<|kid (kid x 0) 0)&&((kid x 0).pos.endLine==x.pos.line)&&gM (Ze as<20)&&okA as c (sub x).tail
 |.fld o f,c,x=>c.fl.contains f&&okE o c (kid x 0)&&YI (toX o c<|kid x 0)
 | .bi f as,c,x=>(match FR f with
   |some T=>gM (Ze as=1)&&kinds.contains T&&c.gl "isinstance" && c.gl (gN T)
   |none=>match EN f with
     |some Ts=>gM (Ze as=1)&&c.gl "isinstance" && !c.xs.isEmpty&&Pz c Ts
     |none=>match DC f with
       |some Ts=>gM (Ze as=1)&&c.gl "isinstance" && Ts.all (λT=>kinds.contains T&&c.gl (gN T))&&gM (Ts.length<=20)
       | none=>if Wj f then gM (Ze as=1)&&c.gl "len" && c.gl "set" && c.cm else if WZ f then gM (Ze as=1)&&c.gl (Yp f)&&c.gl (Ba f)&&c.cm else if MG f then gM (Ze as=1)&&c.gl "min" && c.cm else if UW f then gM (Ze as=1)&&c.gl "dict" && c.gl "enumerate" && c.cm else if U7 f then gM (Ze as=1)&&c.gl "isinstance" && c.gn (N8 f)&&c.cl.contains (N8 f)else X8 f&&c.gl (Yp f)&&gM (Ze as≠0)&&(c.cm||WE f))&&okA as c (UQ f x)
 |.bm m o as,c,x=>gM (DV m=fb (Ze as))&&okE o c (kid (kid x 0) 0)&&YI (toX o c<|kid (kid x 0) 0)&&((kid x 0).pos.endLine==x.pos.line)&&okA as c (sub x).tail
 |.idx a b,c,x=>okE a c (kid x 0)&&okE b c (kid x 1)
 |.slc a lo hi,c,x=>okE a c (kid x 0)&&okO lo c (kid (kid x 1) 0)&&okO hi c (kid (kid x 1) 1)
 |.tup es,c,x=>okA es c (sub x)&&gM (Ze es<=1000)
 |.lst es,c,x=>okA es c (sub x)&&gM (Ze es<=1000)
 |.pick a lo hi st,c,x=>okE a c (kid x 0)&&okO lo c (kid (kid x 1) 0)&&okO hi c (kid (kid x 1) 1)&&okE st c (kid (kid x 1) 2)
 |.dct es,c,x=>okA es c (sub x)&&Kb es&&gM (esL es<=30)
 |.ife t a b,c,x=>okT t c (kid x 0)&&okE a c (kid x 1)&&okE b c (kid x 2)
 |.comp ù m p it t e,c,x=>(O3 m p&&(YN<|kid x 1).length==m)&&c.cm&&Yt (scp x) c.sc c.N (YN<|kid x 1) ù&&(scp x).kind == .function&&okI it c (kid x 2) (!ZF p)&&okE e (c.blk (scp x) (YN<|kid x 1) ù) (kid x 0)&&(UV t||okT t (c.blk (scp x) (YN<|kid x 1) ù) (kid x 3))
 |_,_,_=>ff
noncomputable def okA:O.Es->Md->List Expr->Bool
 |.nil,_,_=>fe
 |.cons e es,c,xs=>okE e c (xs.headD dE)&&okA es c xs.tail
noncomputable def okJ:O.Es->Md->List Expr->Bool
 |.nil,_,_=>fe
 |.cons e es,c,xs=>(Be e||okE e c (kid (xs.headD dE) 0))&&okJ es c xs.tail
noncomputable def okO:O.Oe->Md->Expr->Bool
 |.none,_,_=>fe
 |.some e,c,x=>okE e c x
noncomputable def okT:O.Tt->Md->Expr->Bool
 |.yes,_,_=>ff
 |.val e,c,x=>okE e c x&&(Ug e||Ra e)
 |.not t,c,x=>okT t c<|kid x 0
 |.and a b,c,x=>okT a c (kid x 0)&&okT b c (rest (Zs b) x)&&(!Zs b||(rest (Zs b) x).pos==x.pos)
 |.or a b,c,x=>okT a c (kid x 0)&&okT b c (rest (ZG b) x)&&(!ZG b||(rest (ZG b) x).pos==x.pos)
noncomputable def okI:O.It->Md->Expr->Bool->Bool
 |.seq e,c,x,_=>okE e c x
 |.range a,c,x,_=>c.gl "range" && okE a c (kid x 1)
 |.range2 a b,c,x,_=>c.gl "range" && okE a c (kid x 1)&&okE b c (kid x 2)
 |.enumL e,c,x,t=>t&&c.gl "enumerate" && okE e c (kid x 1)
 |.enum e,c,x,t=>t&&c.gl "enumerate" && okE e c (kid x 1)
 |.zip a b,c,x,t=>t&&c.gl "zip" && okE a c (kid x 1)&&okE b c (kid x 2)
 |_,_,_,_=>ff
end
variable {X:Cx}{i:Inf}{P:O.Pg}{n:Nat}{c:Md}
variable {f:O.Bi} {e:Expr} {es:List Expr} {q:Pos} {p:Pos} {l:Nat}
def Fq(g:Gd X i P n c)(hp:X8 f=fe)(eC:(c.cm||WE f)=fe){as:O.Es}(hg:Gl X<|Yp f)(ha:PA X (e::es)<|tAr X i (O.wF P n) as l)
  (he:Ú (e::es) X.env=(ff,eval e X.env)::Ú es X.env) (hpl:(ě p<|Ú es X.env).any (·.1)=ff):PE X (.Call (.Name (Yp f) q) (e::es) [] p)<|tE X i (O.wF P n)<|.bi f as:=by
 have hc:WE f=ff->X.calm=fe:=λz=>g.calm (by rw[z,Ϭ]at eC;exact eC);cases f with
 |len=>exact(Yo ((call_len_seq.or MI).or Bj) hg (g.bl _<|by simp[blts,Yp]) (by kernel_rfl) ha (he:=he) (hpl:=hpl)).imp (XC<|by rw[g.K];exact L9)
 |int=>exact(Xs (call_int1.or Kk) hg (g.bl _<|by simp[blts,Yp]) (by kernel_rfl) ha (he:=he) (hpl:=hpl)).imp<|XC IT
 |abs=>exact(Yo CL hg (g.bl _<|by simp[blts,Yp]) (by kernel_rfl) ha (he:=he) (hpl:=hpl)).imp<|XC PF
 |min2=>exact(Yo (AO<|hc rfl) hg (g.bl _<|by simp[blts,Yp]) (by kernel_rfl) ha (he:=he) (hpl:=hpl)).imp<|XC GX
 |max2=>exact(Yo (AM<|hc rfl) hg (g.bl _<|by simp[blts,Yp]) (by kernel_rfl) ha (he:=he) (hpl:=hpl)).imp<|XC EO
 |all=>exact(Yo (Dw<|hc rfl) hg (g.bl _<|by simp[blts,Yp]) (by kernel_rfl) ha (he:=he) (hpl:=hpl)).imp (XC<|by rw[g.K];exact ID)
 |list=>exact(Xs Ml hg (g.bl _<|by simp[blts,Yp]) (by kernel_rfl) ha (he:=he) (hpl:=hpl)).imp (XC<|by rw[g.K];exact GR)
 |dict=>exact(Xs (call_dictK.or<|Oo<|hc rfl) hg (g.bl _<|by simp[blts,Yp]) (by kernel_rfl) ha (he:=he) (hpl:=hpl)).imp (XC<|by rw[g.K];exact FW)
 |sortedI=>exact(Yo (call_sorted.or<|M1<|hc rfl) hg (g.bl _<|by simp[blts,Yp]) (by kernel_rfl) ha (he:=he) (hpl:=hpl)).imp (XC<|by rw[g.K];exact Ue)
 |tuple=>exact(Xs Ks hg (g.bl _<|by simp[blts,Yp]) (by kernel_rfl) ha (he:=he) (hpl:=hpl)).imp (XC<|by rw[g.K];exact CZ)
 |_=>cases hp
variable {T:String}
def Pa(h:FR f=fb T):f=.isi [T]:=by
 cases f with
 |isi Ts =>
  cases Ts with
  |nil=>cases h
  |cons a r=>cases r with
   |nil=>cases h;rfl
   |cons _ _=>cases h
 |_=>cases h
def BA(g:Gd X i P n c){m:O.E}{p2 ì:Pos}(hT:T∈kinds)(h2:c.gl "isinstance" = fe)(h5:c.gl (gN T)=fe)(he:PE X e<|tE X i (O.wF P n) m)(Š:Ú [e,.Name (gN T) p2] X.env=(ff,eval e X.env)::Ú [.Name (gN T) p2] X.env) :
  PE X (.Call (.Name "isinstance" p) [e,.Name (gN T) p2] [] ì) (tE X i (O.wF P n)<|.bi (.isi [T])<|.cons m .nil):=by
 have df:=hT;simp![kinds,Ç,Õ,or_false]at df;refine P7 hT he g.K (g.gl h2) (g.bl _<|by simp[blts]) (g.gl h5) ?_ ?_ ?_ ?_ Š
 .rcases df with rfl|rfl|rfl|rfl|rfl|rfl<;>exact g.bl _ (by simp[blts])
 .rcases df with rfl|rfl|rfl|rfl|rfl|rfl<;>kernel_rfl
 .rcases df with rfl|rfl|rfl|rfl|rfl|rfl<;>decide
 .rcases df with rfl|rfl|rfl|rfl|rfl|rfl<;>decide
variable {m:O.Bm} {o:Expr} {mo:O.E} {ń:Pos} {Ō:Pos}
def Cf(g:Gd X i P n c)(h:DV m=fb 0)(ho:PE X o<|tE X i (O.wF P n) mo)(hb:∀f,Ė o f X.env (eval o X.env)=eval o X.env)(hl:(ń.endLine==Ō.line)=fe) :
  PE X (.Call (.Attribute o (IN m) ń) [] [] Ō) (tE X i (O.wF P n)<|.bm m mo .nil):=by
 cases m with
 |pop=>exact Qx g.K PySem.F.plainAttrs_list PySem.F.slot_list_pop PySem.F.type_list_pop HV (F5 rfl) F4 ho (hb _) hl
 |_=>cases h
def GP(g:Gd X i P n c){k:Nat}(h:DV m=fb (k+1)){ms:O.Es}(ho:PE X o<|tE X i (O.wF P n) mo)(ha:PA X (e::es)<|tAr X i (O.wF P n) ms l)(hb:∀f,Ė o f X.env (eval o X.env)=eval o X.env)(hl:(ń.endLine==Ō.line)=fe)
  (aA:((ě Ō<|Ú (e::es) X.env).all (λx=>!x.1)&&(Ź Ō<|ň [] X.env).all (λx=>x.1.isSome)&&gM ((e::es).length+([]:List aZ).length+(if([]:List aZ).isEmpty then 0 else 1)<30))=fe)
  (hs:Ú (e::es) X.env=(ff,eval e X.env)::Ú es X.env) (hpl:(ě Ō<|Ú es X.env).any (·.1)=ff) :
  PE X (.Call (.Attribute o (IN m) ń) (e::es) [] Ō) (tE X i (O.wF P n)<|.bm m mo ms):=by
 have u1:X.A.units+1<Ħ:=by have:=g.un;lia
 cases m with
 |append=>exact AA g.K PySem.F.plainAttrs_list PySem.F.slot_list_append PySem.F.type_list_append Au (F5 rfl) HY ho ha (hb _) aA hl hs hpl
 |extend=>exact AA g.K PySem.F.plainAttrs_list PySem.F.slot_list_extend PySem.F.type_list_extend Aq (F5 rfl) LO ho ha (hb _) aA hl hs hpl
 |popAt=>exact AA g.K PySem.F.plainAttrs_list PySem.F.slot_list_pop PySem.F.type_list_pop C7 (F5 rfl) G0 ho ha (hb _) aA hl hs hpl
 |dget=>exact AA g.K PySem.F.plainAttrs_dict PySem.F.slot_dict_get PySem.F.type_dict_get (Dv u1) (Pv rfl) PH ho ha (hb _) aA hl hs hpl
 |dpop=>exact AA g.K PySem.F.plainAttrs_dict PySem.F.slot_dict_pop PySem.F.type_dict_pop mt_dpop (Pv rfl) Lc ho ha (hb _) aA hl hs hpl
 |dpopD=>exact AA g.K PySem.F.plainAttrs_dict PySem.F.slot_dict_pop PySem.F.type_dict_pop (mt_dpop.or C3) (Pv rfl) FX ho ha (hb _) aA hl hs hpl
 |_=>cases h
variable {sc:ſ} {ù:List Nat}
def Gd.blk(g:Gd X i P n c){x:List Str}(hb:Yt sc c.sc c.N x ù=fe)(hk:sc.kind=.function)(cl:List<|Str×È)(C:È)(s:Æ)(H:Hp)(ex:List È) :
  Gd (Zu X sc (Z9 X x ù) cl C s H ex) i P n (c.blk sc x ù) where
 K:=g.K
 N:=by show Z9 X x ù=_;unfold Z9;rw[g.N];rfl
 sc:=by show bY sc X.env=_;unfold bY Env.kindOf;rw[g.sc];rfl
 nd:=by have B:=Ul g.sc g.N hk hb;have:=B.nd;unfold Z9 at this;rw[g.N]at this;exact this
 un:=g.un
 calm:=g.calm
 room:=g.room
 bl:=g.bl
 dfs:=g.dfs
 cst:=g.cst
 kl:=⟨g.kl.A,g.kl.F,g.kl.mkc,g.kl.mth⟩
 xl:=λh=>⟨(g.xl h).xc,(g.xl h).rs,(g.xl h).kn⟩
def Gd.pt(g:Gd X i P n c)(eC:c.cm=fe){xs:List Str}(hb:Yt sc c.sc c.N xs ù=fe)(hk:sc.kind=.function){p:O.Pt}(hp:O3 xs.length p=fe)(x:Expr)(cl:List<|Str×È)(C:È)(s:Æ)(H:Hp)(ex:List È) :
  PG (Zu X sc (Z9 X xs ù) cl C s H ex) (toP p (c.blk sc xs ù) x) (gPt i p):=by
 have B:=Ul g.sc g.N hk hb;have G:=g.blk hb hk cl C s H ex;have key:∀j,j<xs.length->Ez (Zu X sc (Z9 X xs ù) cl C s H ex) (c.blk sc xs ù) j:=λj hj=>by
  have e:(c.blk sc xs ù).nmOf j=xs[j]:=by unfold Md.nmOf Md.blk;show(xs++_).getD j _=_;rw[Ē,Č hj,Ù hj];rfl
  have lo:=lookup_relabel_local (env:=X.env)<|B.own xs[j]<|Υ hj;unfold Ez;rw[e];refine⟨?_,.inl lo,.inr lo⟩;show(xs++_)[j]?=_;rw[Č hj,Ù hj]
 refine HA G.K (by rw[G.N];exact G.nd) (g.calm eC) ?_;cases p with
 |one j=>exact key j<|of_decide_eq_true hp
 |many js=>exact λj hj=>key j<|of_decide_eq_true<|ÿ.mp hp j hj
 |nest j js=>cases hp
variable {b:O.E}
def UC(h:ZQ b=fe):∃a d,b=.and a d:=by
 cases b with
 |and a d=>exact⟨a,d,rfl⟩
 |_=>cases h
def CU(h:YA b=fe):∃a d,b=.or a d:=by
 cases b with
 |or a d=>exact⟨a,d,rfl⟩
 |_=>cases h
def Cq{b:O.Tt}(h:Zs b=fe):∃a d,b=.and a d:=by
 cases b with
 |and a d=>exact⟨a,d,rfl⟩
 |_=>cases h
def GO{b:O.Tt}(h:ZG b=fe):∃a d,b=.or a d:=by
 cases b with
 |or a d=>exact⟨a,d,rfl⟩
 |_=>cases h
def Mp{b:Bool}(h:(!b||p==q)=fe)(hb:b=fe):p=q:=by rw[hb]at h;exact eq_of_beq h
variable {Φ:O.Fs} {x:Expr}
def Er(hp:(!ZQ b||(rest (ZQ b) x).pos==x.pos)=fe)(h:PE X (toX b c<|rest (ZQ b) x)<|tE X i Φ b):PE X (.BoolOp .And (flat (ZQ b)<|toX b c<|rest (ZQ b) x) x.pos)<|tE X i Φ b:=by
 cases z:ZQ b with
 |false=>rw[z]at h;exact Dz h
 |true =>have e:=Mp hp z;rw[z]at e h;let⟨a,d,rfl⟩:=UC z;show PE X (.BoolOp .And (sub<|.BoolOp .And _ (rest fe x).pos) x.pos) _;rw[<-e];exact h
def Gh(hp:(!YA b||(rest (YA b) x).pos==x.pos)=fe)(h:PE X (toX b c<|rest (YA b) x)<|tE X i Φ b):PE X (.BoolOp .Or (flat (YA b)<|toX b c<|rest (YA b) x) x.pos)<|tE X i Φ b:=by
 cases z:YA b with
 |false=>rw[z]at h;exact Dz h
 |true =>have e:=Mp hp z;rw[z]at e h;let⟨a,d,rfl⟩:=CU z;show PE X (.BoolOp .Or (sub<|.BoolOp .Or _ (rest fe x).pos) x.pos) _;rw[<-e];exact h
def KG(b:Bool){e:O.E}(h:b=ZQ e\/b=YA e):∃y ys,flat b (toX e c x)=y::ys:=by
 cases b with
 |false=>exact⟨_,_,rfl⟩
 |true =>
  rcases h with h|h
  .obtain⟨a,d,rfl⟩:=UC h.symm;exact⟨_,_,rfl⟩
  .obtain⟨a,d,rfl⟩:=CU h.symm;exact⟨_,_,rfl⟩
variable {i:Inf}{P:O.Pg}{n:Nat}
variable {X:Cx} {c:Md} {Φ:O.Fs} {b:O.Tt} {x:Expr}
def Bf(hp:(!Zs b||(rest (Zs b) x).pos==x.pos)=fe)(h:PT X (toT b c<|rest (Zs b) x)<|tTt X i Φ b)(h2:(Zs b||ZG b)=fe->PW X (toT b c<|rest (Zs b) x) (tTt X i Φ b)) :
  ∃y ys,flat (Zs b) (toT b c<|rest (Zs b) x)=y::ys/\PW X (.BoolOp .And (y::ys) x.pos) (tTt X i Φ b):=by
 cases z:Zs b with
 |false=>rw[z]at h;exact⟨_,_,rfl,FE h⟩
 |true =>have e:=Mp hp z;rw[z]at e h2;let⟨a,d,rfl⟩:=Cq z;refine⟨_,_,rfl,?_⟩;rw[<-e];exact h2 rfl
def Ed(hp:(!ZG b||(rest (ZG b) x).pos==x.pos)=fe)(h:PT X (toT b c<|rest (ZG b) x)<|tTt X i Φ b)(h2:(Zs b||ZG b)=fe->PW X (toT b c<|rest (ZG b) x) (tTt X i Φ b)) :
  ∃y ys,flat (ZG b) (toT b c<|rest (ZG b) x)=y::ys/\PW X (.BoolOp .Or (y::ys) x.pos) (tTt X i Φ b):=by
 cases z:ZG b with
 |false=>rw[z]at h;exact⟨_,_,rfl,Py h⟩
 |true =>have e:=Mp hp z;rw[z]at e h2;let⟨a,d,rfl⟩:=GO z;refine⟨_,_,rfl,?_⟩;rw[<-e];exact h2 rfl
variable {e:O.E}
def RK(h:Be e=fe):∃s,e=.cst (.str s):=by
 cases e with
 |cst v=>cases v with
  |str s=>exact⟨s,rfl⟩
  |_=>cases h
 |_=>cases h
variable {ù:List Nat} {p:O.Pt} {it:O.It} {ì:Pos}
def KZ(g:Gd X i P n c){mt:O.Tt}{me:O.E}{bO ũ bG:Expr}{x:List Str}{bp:List Expr}{sc:ſ}(eC:c.cm=fe)(h1:Yt sc c.sc c.N x ù=fe)(hk:sc.kind=.function)(hp:O3 x.length p=fe)
  (hi:PI X bG ũ<|tIt X i (O.wF P n) it) (hs:∀y,Ę ũ X.env y=pure y) (hG:∀cl C s H ex,PG (Zu X sc (Z9 X x ù) cl C s H ex) bG<|gPt i p)
  (hE:∀cl C s H ex,PE (Zu X sc (Z9 X x ù) cl C s H ex) bO<|tE0 i (O.wF P n) me) (hI:∀cl C s H ex,PIfs (Zu X sc (Z9 X x ù) cl C s H ex) bp<|tT0 i (O.wF P n) mt) :
  PE X (.ListComp bO [⟨bG,ũ,bp,0⟩] sc ì) (tE X i (O.wF P n)<|.comp ù x.length p it mt me)/\
   ∀(y:Str) (py Ϟ:Pos) (j:Nat),X.N[j]?=fb y->L2.Loc X.env.scope y->(X.fn y=fe\/X.env.scope.names.lookup y=fb .local)->ų (.ListComp bO [⟨bG,ũ,bp,0⟩] sc ì) (fb<|.Name y py) Ϟ.line X.env=pure fe->PS X (.Assign [.Name y py] (.ListComp bO [⟨bG,ũ,bp,0⟩] sc ì) Ϟ) (tSt X i (O.wF P n)<|.set (.one j)<|.comp ù x.length p it mt me):=by
 have B:=Ul g.sc g.N hk h1;have hc:=g.calm eC;refine⟨(CO hc B hi hG hI hE hs).imp<|UY hp,λy py Ϟ j hj hl hf hsw=>?_⟩;refine(D1 (by rw[g.N];exact g.nd) hj hl hc B hi hG hI hE hs hsw hf).imp λD σ H ⟨env,G,N,R,Bk,Ct,Xe,p,w,e⟩=>?_;refine UY hp σ H _ ⟨env,G,_,Xe env,p.pre,w,λv G1 H1 x k1 g1 r1 w1=>?_⟩;let⟨ŋ,e2,w2⟩:=fj w1;clear w1;cases e2;exact e.nx _ _ G1 H1 k1 g1 ((p.en.keep k1).set r1 j) w2
def Dk{j:Nat}(hN:X.N=c.N)(h:j<c.N.length):X.N[j]?=fb (c.nmOf j):=by rw[hN];unfold Md.nmOf;rw[Ē,Ù h];rfl
def GF{o:Expr}{m:Str}{ń:Pos}{args:List Expr}{env:Env}(hb:Ė o m env (eval o env)=eval o env)(aA:cE (args.length+0) (ě ì<|Ú args env) (Ź ì<|ň [] env)=fe)(hl:(ń.endLine==ì.line)=fe) :
  eval (.Call (.Attribute o m ń) args [] ì) env=(do
    let ov<-eval o env
    ώ ń.atName
    let (f,first)<-Ņ [ov] (Ϙ ov m<|do return (<-importBound o env).getD fe)
    cj ì f first (ě ì<|Ú args env) (Ź ì<|ň [] env)):=by
 show(do
   let ov<-Ė o m env (eval o env)
   ώ ń.atName
   methodCall o m ń ì env ov (args.length+0) (ě ì<|Ú args env) (Ź ì<|ň [] env))=_
 rw[hb];unfold methodCall methodCallPos;rw[aA,hl];rfl
def LR(env:Env)(ì:Pos){as:O.Es}{xs:List Expr}(h:Ze as<20):cE ((toA as c xs).length+0) (ě ì<|Ú (toA as c xs) env) (Ź ì<|ň [] env)=fe:=by unfold cE;rw[bAq,bAq,gK,XT];refine⟨⟨Jy env ì as c xs,rfl⟩,?_⟩;show Ze as+0+0<30;lia
def RD{m:O.Tt}(h:UV m=ff->PT X (toT m c x) (tTt X i (O.wF P n) m)):PIfs X (toF m c x)<|tT0 i (O.wF P n) m:=by
 cases m with
 |yes=>exact Pf
 |val e=>exact Ws<|pt0<|h rfl
 |not t=>exact Ws<|pt0<|h rfl
 |and a b=>exact Ws<|pt0<|h rfl
 |or a b=>exact Ws<|pt0<|h rfl
def NC(c:Md):∀(es:O.Es) (xs:List Expr),Kb es=fe->(Wu<|toA es c xs).all (·.isSome)=fe/\(Wu<|toA es c xs).length=(D5<|toA es c xs).length/\2*(Wu<|toA es c xs).length=esL es
 |.nil,_,_=>⟨rfl,rfl,rfl⟩
 |.cons _ .nil,_,h=>by cases h
 |.cons k (.cons v r),xs,h=>by
  let⟨h1,h2,h3⟩:=NC c r xs.tail.tail h;refine⟨?_,?_,?_⟩
  .show(fe&&(Wu<|toA r c xs.tail.tail).all (·.isSome))=fe;rw[h1];rfl
  .show(Wu<|toA r c xs.tail.tail).length+1=(D5<|toA r c xs.tail.tail).length+1;rw[h2]
  .show 2*((Wu<|toA r c xs.tail.tail).length+1)=esL r+1+1;lia
mutual
theorem eE:∀(m:O.E) (X:Cx) (c:Md) (x:Expr),Gd X i P n c->okE m c x=fe->PE X (toX m c x) (tE X i (O.wF P n) m)
 |.cst v,X,c,x,g,h=>Pm h
 |.var j,X,c,x,g,h=>by have h:(gM (j<c.N.length)&&c.vis (c.nmOf j)&&nm (c.nmOf j))=fe:=h;rw[bAq,bAq,gK]at h;let⟨q1,q2,_⟩:=UB h.2;exact Rn (Dk g.N h.1.1) (g.vis h.1.2) q1 q2
 |.glob y v,X,c,x,g,h=>by have h:((c.gl (gN y)&&nm (gN y))&&gM (c.cs.lookup y=fb v))=fe:=h;rw[bAq,bAq,gK]at h;let⟨q1,q2,_⟩:=UB h.1.2;let⟨u,z,e1,e2,e3⟩:=g.cst _ _ h.2;exact L4 (Fy (g.gl h.1.1) e1 e2 q1) e3
 |.bin o a b,X,c,x,g,h=>by have h:(okE a c (kid x 0)&&okE b c (kid x 1))=fe:=h;rw[bAq]at h;exact PZ g (eE a X c _ g h.1)<|eE b X c _ g h.2
 |.neg a,X,c,x,g,h=>QP<|eE a X c _ g h
 |.not a,X,c,x,g,h=>Q7<|eE a X c _ g h
 |.and a b,X,c,x,g,h=>by have h:(okE a c (kid x 0)&&okE b c (rest (ZQ b) x)&&(!ZQ b||(rest (ZQ b) x).pos==x.pos))=fe:=h;rw[bAq,bAq]at h;have h2:=Er h.2<|eE b X c _ g h.1.2;let⟨y,ys,e⟩:=KG (c:=c) (ZQ b) (e:=b) (x:=rest (ZQ b) x)<|.inl rfl;show PE X (.BoolOp .And (toX a c (kid x 0)::flat (ZQ b) (toX b c<|rest (ZQ b) x)) x.pos) _;rw[e]at h2 ⊢;exact Rh (eE a X c _ g h.1.1) h2
 |.or a b,X,c,x,g,h=>by have h:(okE a c (kid x 0)&&okE b c (rest (YA b) x)&&(!YA b||(rest (YA b) x).pos==x.pos))=fe:=h;rw[bAq,bAq]at h;have h2:=Gh h.2<|eE b X c _ g h.1.2;let⟨y,ys,e⟩:=KG (c:=c) (YA b) (e:=b) (x:=rest (YA b) x)<|.inr rfl;show PE X (.BoolOp .Or (toX a c (kid x 0)::flat (YA b) (toX b c<|rest (YA b) x)) x.pos) _;rw[e]at h2 ⊢;exact Sd (eE a X c _ g h.1.1) h2
 |.cmp o a b,X,c,x,g,h=>by have h:(okE a c (kid x 0)&&okE b c (kid x 1)&&(!XZ o||Nb b))=fe:=h;rw[bAq,bAq]at h;exact(Nr g h.2 (eE a X c _ g h.1.1)<|eE b X c _ g h.1.2).1
 |.chain o1 o2 a b d,X,c,x,g,h=>by have h:(okE a c (kid x 0)&&okE b c (kid x 1)&&okE d c (kid x 2) && !XZ o1 && !XZ o2)=fe:=h;rw[bAq,bAq,bAq,bAq,œ,œ]at h;let⟨⟨⟨⟨h1,h2⟩,h3⟩,h4⟩,h5⟩:=h;exact(J9 g h4 h5 (eE a X c _ g h1) (eE b X c _ g h2)<|eE d X c _ g h3).1
 |.call f as,X,c,x,g,h=>by
  have h:((c.gl (gN f)&&nm (gN f))&&c.fs.contains f&&c.cm&&okA as c (sub x).tail)=fe:=h;rw[bAq,bAq,bAq,bAq]at h;let⟨⟨⟨⟨h1,h2⟩,h3⟩,h4⟩,h5⟩:=h;let⟨q1,_,_⟩:=UB h2;have ha:=eA as X c _ g h5;cases as with
  |nil=>exact Gk g.K (g.dfs _ h3) (g.rm h4) (g.gl h1) q1
  |cons a as=>exact LM g.K (g.dfs _ h3) (g.rm h4) (g.gl h1) q1 ha (Zo ..)<|Yw ..
 |.make C as,X,c,x,g,h=>by
  have h:((c.gl (gN C)&&nm (gN C))&&c.cl.contains C&&c.cm&&gM (Ze as≠0)&&okA as c (sub x).tail)=fe:=h;rw[bAq,bAq,bAq,bAq,bAq,gK]at h;let⟨⟨⟨⟨⟨h1,h2⟩,h3⟩,h4⟩,h6⟩,h5⟩:=h;let⟨q1,_,_⟩:=UB h2;have ha:=eA as X c _ g h5;let⟨a,f,i1,i2,M,hm,D⟩:=g.kl.mkc C h3;cases as with
  |nil=>exact gL rfl h6
  |cons b as=>exact LU g.K i1 i2 M D (g.room h4) (g.gl h1) hm q1 ha (Zo ..)<|Yw ..
 |.meth C m o as,X,c,x,g,h=>by
  have h:(c.ms.contains (C,m)&&c.cm&&okE o c (kid (kid x 0) 0)&&YI (toX o c<|kid (kid x 0) 0)&&((kid x 0).pos.endLine==x.pos.line)&&gM (Ze as<20)&&okA as c (sub x).tail)=fe:=h;rw[bAq,bAq,bAq,bAq,bAq,bAq,gK]at h;let⟨⟨⟨⟨⟨⟨h1,h2⟩,h3⟩,h4⟩,h6⟩,h7⟩,h5⟩:=h;have ev:=GF (m:=gN m) (YE h4 _ X.env) (LR X.env x.pos (c:=c) (xs:=(sub x).tail) h7) h6;have ha:=eA as X c _ g h5;have ho:=eE o X c _ g h3;let⟨a,f,i1,A,M,D⟩:=g.kl.mth C m h1;cases as with
  |nil=>exact FN g.K i1 A M D (g.rm h2) ho ev
  |cons b as=>exact Lf g.K i1 A M D (g.rm h2) ho ha (Zo ..) (Yw ..) ev
 |.fld o f,X,c,x,g,h=>by have h:(c.fl.contains f&&okE o c (kid x 0)&&YI (toX o c<|kid x 0))=fe:=h;rw[bAq,bAq]at h;exact Q6 g.K g.kl.A (g.kl.F _ h.1.1) (eE o X c _ g h.1.2)<|YE h.2 _ _
 |.bi f as,X,c,x,g,h=>by
  have h:((match FR f with
    |some T=>gM (Ze as=1)&&kinds.contains T&&c.gl "isinstance" && c.gl (gN T)
    |none=>match EN f with
      |some Ts=>gM (Ze as=1)&&c.gl "isinstance" && !c.xs.isEmpty&&Pz c Ts
      |none=>match DC f with
        |some Ts=>gM (Ze as=1)&&c.gl "isinstance" && Ts.all (λT=>kinds.contains T&&c.gl (gN T))&&gM (Ts.length<=20)
        | none=>if Wj f then gM (Ze as=1)&&c.gl "len" && c.gl "set" && c.cm else if WZ f then gM (Ze as=1)&&c.gl (Yp f)&&c.gl (Ba f)&&c.cm else if MG f then gM (Ze as=1)&&c.gl "min" && c.cm else if UW f then gM (Ze as=1)&&c.gl "dict" && c.gl "enumerate" && c.cm else if U7 f then gM (Ze as=1)&&c.gl "isinstance" && c.gn (N8 f)&&c.cl.contains (N8 f)else X8 f&&c.gl (Yp f)&&gM (Ze as≠0)&&(c.cm||WE f))&&okA as c (UQ f x))=fe:=h
  rw[bAq]at h;cases z:FR f with
  |some T =>
   have h1:=h.1;rw[z]at h1;rw[bAq,bAq,bAq,gK]at h1;let⟨⟨⟨h1,h2⟩,h3⟩,h4⟩:=h1;cases Pa z;cases as with
   |nil=>cases h1
   |cons a as=>cases as with
    |nil =>have h5:(okE a c _&&fe)=fe:=h.2;rw[bAq]at h5;exact BA g (ć.mp h2) h3 h4 (eE a X c _ g h5.1)<|Zo ..
    |cons b as=>exact gL h1 (by simp[Ze])
  |none =>
   have h1:=h.1;rw[z]at h1
   replace h1:(match EN f with
     |some Ts=>gM (Ze as=1)&&c.gl "isinstance" && !c.xs.isEmpty&&Pz c Ts
     |none=>match DC f with
       |some Ts=>gM (Ze as=1)&&c.gl "isinstance" && Ts.all (λT=>kinds.contains T&&c.gl (gN T))&&gM (Ts.length<=20)
       | none=>if Wj f then gM (Ze as=1)&&c.gl "len" && c.gl "set" && c.cm else if WZ f then gM (Ze as=1)&&c.gl (Yp f)&&c.gl (Ba f)&&c.cm else if MG f then gM (Ze as=1)&&c.gl "min" && c.cm else if UW f then gM (Ze as=1)&&c.gl "dict" && c.gl "enumerate" && c.cm else if U7 f then gM (Ze as=1)&&c.gl "isinstance" && c.gn (N8 f)&&c.cl.contains (N8 f)else X8 f&&c.gl (Yp f)&&gM (Ze as≠0)&&(c.cm||WE f))=fe:=h1
   cases zx:EN f with
   |some Ts=>cases zx
   |none =>
    rw[zx]at h1
    replace h1:(match DC f with
      |some Ts=>gM (Ze as=1)&&c.gl "isinstance" && Ts.all (λT=>kinds.contains T&&c.gl (gN T))&&gM (Ts.length<=20)
      | none=>if Wj f then gM (Ze as=1)&&c.gl "len" && c.gl "set" && c.cm else if WZ f then gM (Ze as=1)&&c.gl (Yp f)&&c.gl (Ba f)&&c.cm else if MG f then gM (Ze as=1)&&c.gl "min" && c.cm else if UW f then gM (Ze as=1)&&c.gl "dict" && c.gl "enumerate" && c.cm else if U7 f then gM (Ze as=1)&&c.gl "isinstance" && c.gn (N8 f)&&c.cl.contains (N8 f)else X8 f&&c.gl (Yp f)&&gM (Ze as≠0)&&(c.cm||WE f))=fe:=h1
    cases zl:DC f with
    |some Ts=>cases zl
    |none =>
     rw[zl]at h1;dsimp only at h1;split at h1
     .rename_i dL;exact gL (show ff=fe from dL) (by decide)
     split at h1
     .rename_i _ dL;have hf:f=.listRange\/f=.listRev:=by cases f<;>first|exact .inl rfl|exact .inr (rfl)|cases dL
      rw[bAq,bAq,bAq,gK]at h1;let⟨⟨⟨h1,h2⟩,h3⟩,h4⟩:=h1;cases as with
      |nil=>cases h1
      |cons a as=>cases as with
       |nil =>
        rcases hf with rfl|rfl
        .have h6:(okE a c _&&fe)=fe:=h.2;rw[bAq]at h6;exact Nq (g.calm h4) (eE a X c _ g h6.1) (g.gl h2) (g.bl _<|by simp[blts]) (g.gl h3) (g.bl _<|by simp[blts,Ba]) (by rw[Zo];rfl)
        .have h6:(okE a c _&&fe)=fe:=h.2;rw[bAq]at h6;exact Bp (g.calm h4) (eE a X c _ g h6.1) (g.gl h2) (g.bl _<|by simp[blts]) (g.gl h3) (g.bl _<|by simp[blts,Ba]) (by rw[Zo];rfl)
       |cons b as=>exact gL h1 (by simp[Ze])
     split at h1
     .rename_i _ _ dL;have hf:f=.minD:=by cases f<;>first|rfl|cases dL
      subst hf;rw[bAq,bAq,gK]at h1;let⟨⟨h1,h2⟩,h4⟩:=h1;cases as with
      |nil=>cases h1
      |cons a as=>cases as with
       |nil =>have h6:(okE a c _&&fe)=fe:=h.2;rw[bAq]at h6;exact LP (g.calm h4) (by have:=g.un;lia) g.K (g.gl h2) (g.bl _<|by simp[blts]) (eE a X c _ g h6.1) (by rw[Zo];rfl)
       |cons b as=>exact gL h1 (by simp[Ze])
     split at h1
     .rename_i _ _ _ dL;exact gL (show ff=fe from dL) (by decide)
     split at h1
     .rename_i _ _ _ _ dL;exact gL (show ff=fe from dL) (by decide)
     rw[bAq,bAq,bAq,gK]at h1;let⟨⟨⟨h1,h2⟩,h3⟩,h4⟩:=h1;have ha:=eA as X c _ g h.2;cases as with
     |nil=>exact gL rfl h3
     |cons a as =>
      have e1:toX (.bi f<|.cons a as) c x=.Call (.Name (Yp f) (kid x 0).pos) (toA (.cons a as) c<|UQ f x) [] x.pos:=by cases f<;>first|(cases h1;done)|rfl
      rw[e1];exact Fq g h1 h4 (g.gl h2) ha (Zo ..)<|Yw ..
 |.bm m o as,X,c,x,g,h=>by
  have h:(gM (DV m=fb (Ze as))&&okE o c (kid (kid x 0) 0)&&YI (toX o c<|kid (kid x 0) 0)&&((kid x 0).pos.endLine==x.pos.line)&&okA as c (sub x).tail)=fe:=h;rw[bAq,bAq,bAq,bAq,gK]at h;let⟨⟨⟨⟨h1,h2⟩,h3⟩,h4⟩,h5⟩:=h;have ha:=eA as X c _ g h5;have ho:=eE o X c _ g h2;cases as with
  |nil=>exact Cf g h1 ho (λf=>YE h3 f _) h4
  |cons a as =>
   refine GP g h1 ho ha (λf=>YE h3 f _) h4 ?_ (Zo ..)<|Yw ..;rw[bAq,bAq,gK];refine⟨⟨Jy X.env x.pos (.cons a as) c (sub x).tail,rfl⟩,?_⟩;have e2:(toA (.cons a as) c (sub x).tail).length=Ze (.cons a as):=XT ..;have e3:Ze (.cons a as)<=2:=by
    have:∀m:O.Bm,∀k,DV m=fb k->k<=2:=by intro m k;cases m<;>intro z<;>first|(cases z;done)|(cases z;decide)
    exact this m _ h1
   show(toA (.cons a as) c (sub x).tail).length+0+0<30;lia
 |.idx a b,X,c,x,g,h=>by have h:(okE a c (kid x 0)&&okE b c (kid x 1))=fe:=h;rw[bAq]at h;exact PU (ix_seq.or<|EM (by have:=g.un;lia)) (by rw[g.K];exact Qh) (eE a X c _ g h.1) (eE b X c _ g h.2)<|CT _ _ _
 |.slc a lo hi,X,c,x,g,h=>by have h:(okE a c (kid x 0)&&okO lo c (kid (kid x 1) 0)&&okO hi c (kid (kid x 1) 1))=fe:=h;rw[bAq,bAq]at h;exact Rk R5 (by rw[g.K];exact QJ) (eE a X c _ g h.1.1) (eO lo X c _ g h.1.2)<|eO hi X c _ g h.2
 |.tup es,X,c,x,g,h=>by have h:(okA es c (sub x)&&gM (Ze es<=1000))=fe:=h;rw[bAq,gK]at h;exact P5 (by rw[XT];exact h.2)<|eA es X c _ g h.1
 |.key es,X,c,x,g,h=>nomatch h
 |.dctP,X,c,x,g,h=>nomatch h
 |.lst es,X,c,x,g,h=>by have h:(okA es c (sub x)&&gM (Ze es<=1000))=fe:=h;rw[bAq,gK]at h;exact QU (by rw[XT];exact h.2)<|eA es X c _ g h.1
 |.dct es,X,c,x,g,h=>by
  have h:(okA es c (sub x)&&Kb es&&gM (esL es<=30))=fe:=h;rw[bAq,bAq,gK]at h;let⟨⟨h1,h2⟩,h3⟩:=h;have hp:=eD es X c (sub x) x.pos g h1 h2;cases es with
  |nil=>exact Pu
  |cons k r=>cases r with
   |nil=>cases h2
   |cons v r =>let⟨q1,q2,q3⟩:=NC c (.cons k<|.cons v r) (sub x) h2;refine P6 h2 h3 hp q1 q2 (by intro z;cases z) (by rw[<-q3]at h3;lia)
 |.ife t a b,X,c,x,g,h=>by have h:(okT t c (kid x 0)&&okE a c (kid x 1)&&okE b c (kid x 2))=fe:=h;rw[bAq,bAq]at h;exact Q3 (eT t X c _ g h.1.1).1 (eE a X c _ g h.1.2)<|eE b X c _ g h.2
 |.comp ù m p it t e,X,c,x,g,h=>by
  have h:((O3 m p&&(YN<|kid x 1).length == m)&&c.cm&&Yt (scp x) c.sc c.N (YN<|kid x 1) ù&&(scp x).kind == .function&&okI it c (kid x 2) (!ZF p)&&okE e (c.blk (scp x) (YN<|kid x 1) ù) (kid x 0)&&(UV t||okT t (c.blk (scp x) (YN<|kid x 1) ù) (kid x 3)))=fe:=h;rw[bAq,bAq,bAq,bAq,bAq,bAq]at h;let⟨⟨⟨⟨⟨⟨h1,h2⟩,h3⟩,h4⟩,h5⟩,h6⟩,h7⟩:=h;rw[bAq,beq_iff_eq]at h1;let⟨h1,rfl⟩:=h1;have hk:=eq_of_beq h4;let⟨t1,t2⟩:=MM (c:=c.blk (scp x) (YN<|kid x 1) ù) p<|kid x 1;let⟨a1,a2⟩:=eI it X c (kid x 2) (toP p (c.blk (scp x) (YN<|kid x 1) ù)<|kid x 1) g (!ZF p) t1 t2 h5;exact(KZ g h2 h3 hk h1 a1 a2 (g.pt h2 h3 hk h1 _)
    (λcl C s H ex=>pe0<|eE e _ _ _ (g.blk h3 hk cl C s H ex) h6) (λcl C s H ex=>RD λz=>(eT t _ _ _ (g.blk h3 hk cl C s H ex)<|by rw[z]at h7;exact h7).1)).1
 |.fstr es,X,c,x,g,h=>nomatch h
 |.repl _ _ _,X,c,x,g,h=>nomatch h
 |.split o a,X,c,x,g,h=>nomatch h
 |.rev a,X,c,x,g,h=>nomatch h
 |.sortT a,X,c,x,g,h=>nomatch h
 |.pick a lo hi st,X,c,x,g,h=>by have h:(okE a c (kid x 0)&&okO lo c (kid (kid x 1) 0)&&okO hi c (kid (kid x 1) 1)&&okE st c (kid (kid x 1) 2))=fe:=h;rw[bAq,bAq,bAq]at h;exact Lm g.K (eE a X c _ g h.1.1.1) (eO lo X c _ g h.1.1.2) (eO hi X c _ g h.1.2)<|eE st X c _ g h.2
theorem eD:∀(es:O.Es) (X:Cx) (c:Md) (xs:List Expr) (ì:Pos),Gd X i P n c->okA es c xs=fe->Kb es=fe->PPs X ì (Wu<|toA es c xs) (D5<|toA es c xs) (UP X i (O.wF P n) es)
 |.nil,X,c,xs,ì,g,h,he=>GW
 |.cons k .nil,X,c,xs,ì,g,h,he=>by cases he
 |.cons k (.cons v r),X,c,xs,ì,g,h,he=>by have h:(okE k c (xs.headD dE)&&(okE v c (xs.tail.headD dE)&&okA r c xs.tail.tail))=fe:=h;rw[bAq,bAq]at h;exact DU (eE k X c _ g h.1) (eE v X c _ g h.2.1)<|eD r X c _ ì g h.2.2 he
theorem eA:∀(ms:O.Es) (X:Cx) (c:Md) (xs:List Expr),Gd X i P n c->okA ms c xs=fe->PA X (toA ms c xs) (tAr X i (O.wF P n) ms (toA ms c xs).length)
 |.nil,X,c,xs,g,h=>PK
 |.cons a as,X,c,xs,g,h=>by have h:(okE a c (xs.headD dE)&&okA as c xs.tail)=fe:=h;rw[bAq]at h;exact E2 (eE a X c _ g h.1) (eA as X c _ g h.2)<|Zo ..
theorem eJ:∀(ms:O.Es) (X:Cx) (c:Md) (xs:List Expr),Gd X i P n c->okJ ms c xs=fe->PJ X (toJ ms c xs) (tJs X i (O.wF P n) ms)
 |.nil,X,c,xs,g,h=>Lx
 |.cons a as,X,c,xs,g,h=>by
  have h:((Be a||okE a c (kid (xs.headD dE) 0))&&okJ as c xs.tail)=fe:=h;rw[bAq]at h;have hr:=eJ as X c _ g h.2;show PJ X ((if Be a then toX a c (xs.headD dE)else .FormattedValue (toX a c<|kid (xs.headD dE) 0) (-1) fc (xs.headD dE).pos)::toJ as c xs.tail) _;cases z:Be a with
  |true =>let⟨s,rfl⟩:=RK z;exact Ak L6 hr rfl
  |false =>rw[z]at h;exact Ak (IH<|eE a X c _ g h.1) hr rfl
theorem eO:∀(m:O.Oe) (X:Cx) (c:Md) (x:Expr),Gd X i P n c->okO m c x=fe->PO X (toO m c x) (tOx X i (O.wF P n) m)
 |.none,X,c,x,g,h=>Gn
 |.some e,X,c,x,g,h=>E7<|eE e X c _ g h
theorem eT:∀(m:O.Tt) (X:Cx) (c:Md) (x:Expr),Gd X i P n c->okT m c x=fe->PT X (toT m c x) (tTt X i (O.wF P n) m)/\((Zs m||ZG m)=fe->PW X (toT m c x) (tTt X i (O.wF P n) m))
 |.yes,X,c,x,g,h=>nomatch h
 |.val e,X,c,x,g,h=>by
  refine⟨?_,λz=>(by cases z)⟩;have h:(okE e c x&&(Ug e||Ra e))=fe:=h;rw[bAq]at h;have he:=eE e X c x g h.1;cases z:Ug e with
  |true=>exact HU he (by cases e<;>first|(cases z;done)|exact λ_=>rfl) g.K
  |false =>
   have h2:=h.2;rw[z]at h2;cases e with
   |cmp o a b =>have h:(okE a c (kid x 0)&&okE b c (kid x 1)&&(!XZ o||Nb b))=fe:=h.1;rw[bAq,bAq]at h;exact(Nr g h.2 (eE a X c _ g h.1.1)<|eE b X c _ g h.1.2).2
   |chain o1 o2 a b d =>have h:(okE a c (kid x 0)&&okE b c (kid x 1)&&okE d c (kid x 2) && !XZ o1 && !XZ o2)=fe:=h.1;rw[bAq,bAq,bAq,bAq,œ,œ]at h;let⟨⟨⟨⟨h1,h2⟩,h3⟩,h4⟩,h5⟩:=h;exact(J9 g h4 h5 (eE a X c _ g h1) (eE b X c _ g h2)<|eE d X c _ g h3).2
   |_=>cases h2
 |.not t,X,c,x,g,h=>⟨IF (eT t X c _ g h).1,λz=>(by cases z)⟩
 |.and a b,X,c,x,g,h=>by
  have h:(okT a c (kid x 0)&&okT b c (rest (Zs b) x)&&(!Zs b||(rest (Zs b) x).pos==x.pos))=fe:=h;rw[bAq,bAq]at h;have h2:=eT b X c _ g h.1.2;let⟨y,ys,e,h3⟩:=Bf h.2 h2.1 h2.2;have h4:PW X (toT (.and a b) c x)<|tTt X i (O.wF P n)<|.and a b:=by show PW X (.BoolOp .And (toT a c (kid x 0)::flat (Zs b) (toT b c<|rest (Zs b) x)) x.pos) _;rw[e];exact Ik (eT a X c _ g h.1.1).1 h3
  exact⟨h4.pt,λ_=>h4⟩
 |.or a b,X,c,x,g,h=>by
  have h:(okT a c (kid x 0)&&okT b c (rest (ZG b) x)&&(!ZG b||(rest (ZG b) x).pos==x.pos))=fe:=h;rw[bAq,bAq]at h;have h2:=eT b X c _ g h.1.2;let⟨y,ys,e,h3⟩:=Ed h.2 h2.1 h2.2;have h4:PW X (toT (.or a b) c x)<|tTt X i (O.wF P n)<|.or a b:=by show PW X (.BoolOp .Or (toT a c (kid x 0)::flat (ZG b) (toT b c<|rest (ZG b) x)) x.pos) _;rw[e];exact Rb (eT a X c _ g h.1.1).1 h3
  exact⟨h4.pt,λ_=>h4⟩
theorem eI:∀(m:O.It) (X:Cx) (c:Md) (x tg:Expr),Gd X i P n c->∀(b:Bool),(b=fe->∃es k p,tg=.Tuple es k p)->(b=ff->∃y p,tg=.Name y p)->okI m c x b=fe->PI X tg (toI m c x) (tIt X i (O.wF P n) m)/\∀y,Ę (toI m c x) X.env y=pure y
 |.seq e,X,c,x,tg,g,b,t1,t2,h=>⟨Ln g.K<|eE e X c _ g h,Ls _ _ _ _⟩
 |.chars e,X,c,x,tg,g,b,t1,t2,h=>nomatch h
 |.range a,X,c,x,tg,g,b,t1,t2,h=>by have h:(c.gl "range" && okE a c (kid x 1))=fe:=h;rw[bAq]at h;exact⟨CM (g.gl h.1) (g.bl _<|by simp[blts]) (eE a X c _ g h.2)<|Zo ..,λ_=>rfl⟩
 |.range2 a d,X,c,x,tg,g,b,t1,t2,h=>by have h:(c.gl "range" && okE a c (kid x 1)&&okE d c (kid x 2))=fe:=h;rw[bAq,bAq]at h;exact⟨Bo (g.gl h.1.1) (g.bl _<|by simp[blts]) (eE a X c _ g h.1.2) (eE d X c _ g h.2) (by rw[Zo,Zo];rfl)<|Zo ..,λ_=>rfl⟩
 |.zip a d,X,c,x,tg,g,b,t1,t2,h=>by have h:(b&&c.gl "zip" && okE a c (kid x 1)&&okE d c (kid x 2))=fe:=h;rw[bAq,bAq,bAq]at h;let⟨es,k,p,rfl⟩:=t1 h.1.1.1;exact⟨Le g.K (g.gl h.1.1.2) (g.bl _<|by simp[blts]) (eE a X c _ g h.1.2) (eE d X c _ g h.2) (Zo ..)<|Zo ..,λ_=>rfl⟩
 |.enumL e,X,c,x,tg,g,b,t1,t2,h=>by have h:(b&&c.gl "enumerate" && okE e c (kid x 1))=fe:=h;rw[bAq,bAq]at h;let⟨es,k,p,rfl⟩:=t1 h.1.1;exact⟨BH g.K (g.gl h.1.2) (g.bl _<|by simp[blts]) (eE e X c _ g h.2) (by rw[Zo];rfl),λ_=>rfl⟩
 |.enum e,X,c,x,tg,g,b,t1,t2,h=>by have h:(b&&c.gl "enumerate" && okE e c (kid x 1))=fe:=h;rw[bAq,bAq]at h;let⟨es,k,p,rfl⟩:=t1 h.1.1;exact⟨F6 g.K (g.gl h.1.2) (g.bl _<|by simp[blts]) (eE e X c _ g h.2) (by rw[Zo];rfl),λ_=>rfl⟩
 |.items e,X,c,x,tg,g,b,t1,t2,h=>nomatch h
 |.keysF e,X,c,x,tg,g,b,t1,t2,h=>nomatch h
 |.rev e,_,_,_,_,_,_,_,_,h=>nomatch h
end
def A0(g:Gd X i P n c){m:Nat}{t:O.Tt}(h:okE (.comp ù m p it t e) c x=fe) :
  PE X (toX (.comp ù m p it t e) c x) (tE X i (O.wF P n)<|.comp ù m p it t e)/\
   ∀(y:Str) (py Ϟ:Pos) (j:Nat),X.N[j]?=fb y->L2.Loc X.env.scope y->(X.fn y=fe\/X.env.scope.names.lookup y=fb .local)->ų (toX (.comp ù m p it t e) c x) (fb<|.Name y py) Ϟ.line X.env=pure fe->PS X (.Assign [.Name y py] (toX (.comp ù m p it t e) c x) Ϟ) (tSt X i (O.wF P n)<|.set (.one j)<|.comp ù m p it t e):=by
 have h:((O3 m p&&(YN<|kid x 1).length==m)&&c.cm&&Yt (scp x) c.sc c.N (YN<|kid x 1) ù&&(scp x).kind == .function&&okI it c (kid x 2) (!ZF p)&&okE e (c.blk (scp x) (YN<|kid x 1) ù) (kid x 0)&&(UV t||okT t (c.blk (scp x) (YN<|kid x 1) ù) (kid x 3)))=fe:=h;rw[bAq,bAq,bAq,bAq,bAq,bAq]at h;let⟨⟨⟨⟨⟨⟨h1,h2⟩,h3⟩,h4⟩,h5⟩,h6⟩,h7⟩:=h;rw[bAq,beq_iff_eq]at h1;let⟨h1,rfl⟩:=h1;have hk:=eq_of_beq h4;let⟨t1,t2⟩:=MM (c:=c.blk (scp x) (YN<|kid x 1) ù) p<|kid x 1;let⟨a1,a2⟩:=eI it X c (kid x 2) (toP p (c.blk (scp x) (YN<|kid x 1) ù)<|kid x 1) g (!ZF p) t1 t2 h5;exact KZ g h2 h3 hk h1 a1 a2 (g.pt h2 h3 hk h1 _)
  (λcl C s H ex=>pe0<|eE e _ _ _ (g.blk h3 hk cl C s H ex) h6) (λcl C s H ex=>RD λz=>(eT t _ _ _ (g.blk h3 hk cl C s H ex)<|by rw[z]at h7;exact h7).1)
abbrev dS:Ł:=.Pass ⟨0,0,0,0⟩
abbrev stE:Ł->List Expr
 |.Assign ts v _=>v::ts
 |.AugAssign t _ v _=>[v,t]
 |.For t it _ _ _=>[t,it]
 |.While t _ _ _=>[t]
 |.If t _ _ _=>[t]
 |.Expr e _=>[e]
 |.Return (fb e) _=>[e]
 |.Raise (fb e) _ _=>[e]
 |_=>[]
abbrev ke(s:Ł)(j:Nat):Expr:=(stE s).getD j dE
abbrev stB:Ł->List Ł
 |.For _ _ b _ _=>b
 |.While _ b _ _=>b
 |.If _ b _ _=>b
 |.Try b _ _ _ _=>b
 |_=>[]
abbrev stO:Ł->List Ł
 |.If _ _ b _=>b
 |_=>[]
abbrev stH:Ł->List ExceptHandler
 |.Try _ hs _ _ _=>hs
 |_=>[]
abbrev dH:ExceptHandler:=.ExceptHandler fc fc [] ⟨0,0,0,0⟩
abbrev hT:ExceptHandler->Expr
 |.ExceptHandler (fb e) _ _ _=>e
 |_=>dE
abbrev hB:ExceptHandler->List Ł
 |.ExceptHandler _ _ b _=>b
abbrev hP:ExceptHandler->Pos
 |.ExceptHandler _ _ _ p=>p
abbrev Md.hot(c:Md):Md:={c with cm:=ff}
abbrev RT(t:Option Nat)(e:O.E)(c:Md)(y:Ł):Ł:=match t with
 |none=>.Expr (toX e c<|ke y 0) y.pos
 |some j=>.Assign [.Name (c.nmOf j) (ke y 1).pos] (toX e c<|ke y 0) y.pos
mutual
noncomputable def toS:O.S->Md->Ł->Ł
 |.set p a,c,s=>.Assign [toP p c<|ke s 1] (toX a c<|ke s 0) s.pos
 |.setIdx a j e,c,s=>.Assign [.Subscript (toX a c<|kid (ke s 1) 0) (toX j c<|kid (ke s 1) 1) (ke s 1).pos] (toX e c<|ke s 0) s.pos
 |.setPair a i b j e,c,s=>.Assign [.Tuple [.Subscript (toX a c<|kid (kid (ke s 1) 0) 0) (toX i c<|kid (kid (ke s 1) 0) 1) (kid (ke s 1) 0).pos,.Subscript (toX b c<|kid (kid (ke s 1) 1) 0) (toX j c<|kid (kid (ke s 1) 1) 1) (kid (ke s 1) 1).pos] (num<|ke s 1) (ke s 1).pos] (toX e c<|ke s 0) s.pos
 |.setFld o f e,c,s=>.Assign [.Attribute (toX o c<|kid (ke s 1) 0) (gN f) (ke s 1).pos] (toX e c<|ke s 0) s.pos
 |.augVar j op e,c,s=>.AugAssign (.Name (c.nmOf j) (ke s 1).pos) (O5 op) (toX e c<|ke s 0) s.pos
 |.augFld o f op n,c,s=>.AugAssign (.Attribute (toX o c<|kid (ke s 1) 0) (gN f) (ke s 1).pos) (O5 op) (.Constant (.int n) (num<|ke s 0) (ke s 0).pos) s.pos
 |.augIdx a j op n,c,s=>.AugAssign (.Subscript (toX a c<|kid (ke s 1) 0) (toX j c<|kid (ke s 1) 1) (ke s 1).pos) (O5 op) (.Constant (.int n) (num<|ke s 0) (ke s 0).pos) s.pos
 |.expr e,c,s=>.Expr (toX e c<|ke s 0) s.pos
 |.ret e,c,s=>.Return (fb<|toX e c<|ke s 0) s.pos
 |.retN,_,s=>.Return fc s.pos
 |.ite t a b,c,s=>.If (toT t c<|ke s 0) (toSs a c<|stB s) (toSs b c<|stO s) s.pos
 |.whl t b,c,s=>.While (toT t c<|ke s 0) (toSs b c<|stB s) [] s.pos
 |.for p it b,c,s=>.For (toP p c<|ke s 0) (toI it c<|ke s 1) (toSs b c<|stB s) [] s.pos
 |.forI fe p e b,c,s=>.For (toP p c<|ke s 0) (toX e c<|ke s 1) (toSs b c<|stB s) [] s.pos
 |.forI ff p e b,c,s=>.For (toP p c<|ke s 0) (.Call (.Attribute (toX e c<|kid (kid (ke s 1) 0) 0) "items" (kid (ke s 1) 0).pos) [] [] (ke s 1).pos) (toSs b c<|stB s) [] s.pos
 |.brk,_,s=>.Break s.pos
 |.cnt,_,s=>.Continue s.pos
 |.pass,_,s=>.Pass s.pos
 |.raise C as,c,s=>.Raise (fb<|.Call (.Name (gN C) (kid (ke s 0) 0).pos) (toA as c (sub<|ke s 0).tail) [] (ke s 0).pos) fc s.pos
 |.try t e hs,c,s=>.Try [RT t e c<|(stB s).headD dS] (toH hs c<|stH s) [] [] s.pos
 |_,_,s=>s
noncomputable def toH:O.Hn->Md->List ExceptHandler->List ExceptHandler
 |.nil,_,_=>[]
 |.cons K nm b r,c,xs=>.ExceptHandler (fb<|.Name (gN K) (hT<|xs.headD dH).pos) (nm.map c.nmOf) (toSs b c.hot<|hB<|xs.headD dH) (hP<|xs.headD dH)::toH r c xs.tail
noncomputable def toSs:O.Ss->Md->List Ł->List Ł
 |.nil,_,_=>[]
 |.cons m ms,c,xs=>toS m c (xs.headD dS)::toSs ms c xs.tail
end
abbrev Hw:O.E->Bool
 |.idx _ _=>fe
 |.var _=>fe
 |.fld _ _=>fe
 |_=>ff
abbrev Od(c:Md)(j:Nat):Bool:=gM (j<c.N.length)&&c.loc (c.nmOf j)
abbrev okP(p:O.Pt)(c:Md):Bool:=match p with
 |.one j=>Od c j
 |.many js=>js.all<|Od c
 |.nest j js=>Od c j&&js.all (Od c)
abbrev Dt:O.E->Bool
 |.tup _=>fe
 |.key _=>fe
 |_=>ff
abbrev Um:O.E->Bool
 |.comp _ _ _ _ _ _=>fe
 |_=>ff
abbrev swT(c:Md)(tg v:Expr):Bool:=match v,tg with
 |.ListComp _ _ s ì,.Name t p=>(if c.sc.kind.isAnnotationScope then ScopeKind.function else c.sc.kind) == .function&&c.sc.names.lookup t==fb .local&&p.line==ì.line && !(s.names.any λ(n,k)=>n==t&&(k == .local||k == .cell))
 |_,_=>ff
abbrev AG:O.Bop->Bool
 |.add=>fe
 |.sub=>fe
 |_=>ff
abbrev SK(c:Md)(j:Nat):Bool:=gM (j<c.N.length)&&c.sc.names.lookup (c.nmOf j)==fb .local
abbrev SI(c:Md):Option Nat->Bool
 |none=>fe
 |some j=>SK c j
abbrev PV:O.Ss->Bool
 |.nil=>ff
 |_=>fe
abbrev Rr:O.Hn->Bool
 |.nil=>fe
 |_=>ff
mutual
noncomputable def okS:O.S->Md->Ł->Bool
 |.set p a,c,s=>okP p c&&okE a c (ke s 0)&&(ZF p || !Dt a)&&(ZF p||c.cm)
 |.setIdx a j e,c,s=>okE e c (ke s 0)&&okE a c (kid (ke s 1) 0)&&okE j c (kid (ke s 1) 1)
 |.setFld o f e,c,s=>c.fl.contains f&&okE o c (kid (ke s 1) 0)&&okE e c (ke s 0)
 |.augFld o f op _,c,s=>c.fl.contains f&&okE o c (kid (ke s 1) 0)&&AG op
 |.augIdx a j op _,c,s=>okE a c (kid (ke s 1) 0)&&okE j c (kid (ke s 1) 1)&&AG op
 |.expr e,c,s=>okE e c (ke s 0) && !Um e
 |.ret e,c,s=>okE e c<|ke s 0
 |.retN,_,_=>fe
 |.ite t a b,c,s=>okT t c (ke s 0)&&okSs a c (stB s)&&okSs b c (stO s)
 |.for p it b,c,s=>okP p c&&okI it c (ke s 1) (!ZF p)&&okSs b c (stB s)&&c.cm
 |.forI fe p e b,c,s=>okP p c&&Hw e&&okE e c (ke s 1)&&okSs b c (stB s)&&c.cm
 |.forI ff p e b,c,s=>okP p c && !ZF p&&okE e c (kid (kid (ke s 1) 0) 0)&&YI (toX e c<|kid (kid (ke s 1) 0) 0)&&((kid (ke s 1) 0).pos.endLine==(ke s 1).pos.line)&&okSs b c (stB s)&&c.cm
 |.never,_,_=>fe
 |_,_,_=>ff
noncomputable def okH:O.Hn->Md->List ExceptHandler->Bool
 |.nil,_,_=>ff
 |.cons K nm b r,c,xs=>(c.xs.contains K||K == "ShutError")&&c.gn K && !c.xs.isEmpty&&SI c nm&&PV b&&okSs b c.hot (hB<|xs.headD dH)&&Rr r
noncomputable def okSs:O.Ss->Md->List Ł->Bool
 |.nil,_,_=>fe
 |.cons m ms,c,xs=>okS m c (xs.headD dS)&&okSs ms c xs.tail
end
structure Gs(X:Cx)(i:Inf)(P:O.Pg)(n:Nat)(c:Md):Prop extends Gd X i P n c where
 fn:∀x,c.loc x=fe->X.fn x=fe\/X.env.scope.names.lookup x=fb .local
 own:c.cm=fe->aj (à X.prog X.w) X.A X.env X.xe
 stk:c.cm=fe->X.stack=X.env::X.outer
variable {X:Cx}{i:Inf}{P:O.Pg}{n:Nat}{c:Md}
def Gs.nm1(g:Gs X i P n c){j:Nat}(h:Od c j=fe):X.N[j]?=fb (c.nmOf j)/\L2.Loc X.env.scope (c.nmOf j)/\(X.fn (c.nmOf j)=fe\/X.env.scope.names.lookup (c.nmOf j)=fb .local):=by unfold Od at h;rw[bAq,gK]at h;exact⟨Dk g.N h.1,g.loc h.2,g.fn _ h.2⟩
variable {p:O.Pt}
def QG(g:Gs X i P n c)(h:okP p c=fe):HF (Ez X c) p:=by
 cases p with
 |one j=>exact g.nm1 h
 |many js=>exact λj hj=>g.nm1<|ÿ.mp h j hj
 |nest j js =>have h:(Od c j&&js.all (Od c))=fe:=h;rw[bAq]at h;exact⟨g.nm1 h.1,λk hk=>g.nm1<|ÿ.mp h.2 k hk⟩
variable {x:Expr}
def UN(g:Gs X i P n c)(eC:c.cm=fe)(h:okP p c=fe):PG X (toP p c x)<|gPt i p:=HA g.K (by rw[g.N];exact g.nd) (g.calm eC) (QG g h)
variable {tg:Expr}
def Jd{l:Nat}{env:Env}(a:O.E)(x:Expr)(hs:env.scope=c.sc):ų (toX a c x) (fb tg) l env=pure (swT c tg<|toX a c x):=by
 cases a with
 |comp ù m p it t e =>
  cases tg with
  |Name t q =>unfold ų swT Env.blockKind Env.kindOf;rw[hs];rfl
  |_=>rfl
 |_=>rfl
def Iz(p:O.Pt)(a:O.E)(x y:Expr)(env:Env)(h:(ZF p || !Dt a)=fe):ϑ [toP p c x] (toX a c y) env=pure fc:=by
 cases p with
 |one j=>cases a<;>rfl
 |many js=>cases a<;>first|rfl|cases h
 |nest j js=>cases a<;>first|rfl|cases h
def Db(p:O.Pt)(x:Expr)(env:Env):(Ĝ [toP p c x] env).map (·.2)=[η (toP p c x) env]:=by cases p<;>rfl
def IE{a:O.E}(h:swT c tg (toX a c x)=fe):∃ù m p it t e,a=.comp ù m p it t e:=by
 cases a with
 |comp ù m p it t e=>exact⟨_,_,_,_,_,_,rfl⟩
 |_=>cases h
def Fx(y:O.E){b:Expr}{ì:Pos}{env:Env}:∀v,η (.Subscript b (toX y c x) ì) env v=(do
    let ov<-Ņ [v] (eval b env)
    let iv<-Ņ [v,ov] (eval (toX y c x) env)
    ώ ì
    Ņ [v,ov,iv] (aW ov iv v)
    eF [v,ov,iv] []):=by
 intro v;cases y<;>rfl
def Hm{op:O.Bop}(h:AG op=fe):DR X (O5 op)<|rAS op:=by
 cases op with
 |add =>
  intro Â s σ H x y u v Q I rx ry q;let⟨a,b,rfl,rfl,q⟩:=q;rcases q with⟨_,q⟩|⟨z,_⟩
  .exact PB Â s σ H _ _ u v Q I rx ry ⟨a,b,rfl,rfl,q⟩
  .cases z
 |sub =>
  intro Â s σ H x y u v Q I rx ry q;let⟨a,b,rfl,rfl,q⟩:=q;rcases q with⟨z,_⟩|⟨_,q⟩
  .cases z
  .exact Ij Â s σ H _ _ u v Q I rx ry ⟨a,b,rfl,rfl,q⟩
 |_=>cases h
def DK:PGet X<|Df X.K:=λÂ s σ H x y v u Q I rx ry h=>by
 let⟨p,xs,i,z,rfl,rfl,hq,he,q⟩:=h;cases rx;let⟨t,rfl⟩:=ry;let⟨ó,r,pl,hz⟩:=I.list hq;let⟨j,h1,h2,h3,h4,h5⟩:=W4 he;let⟨w,ew,bd⟩:=r.get h2;have hl:=r.length;have hn:=Xm;have fin:EP X Â σ Q w s:=⟨z,H,I,bd,q⟩
 by_cases h0:0<=i
 .have hj:i.toNat=j:=by
   rw[bI h0 h5]at h1;exact ê h1
  exact wpAny_getItem_list pl.isList h0 (by lia) (by rw[hj];simpa using ew) fin
 .have hj:(i+(ó.toArray.size:Int)).toNat=j:=by
   rw[aX (by lia) h4]at h1;rw[É,<-hl];exact ê h1
  exact eP pl.isList (by lia) (by rw[É]<;>lia) (by lia) (by rw[hj];simpa using ew) fin
def CS(hu:X.A.units+1<Ħ):PGet X DY:=λÂ s σ H x y v u Q I rx ry h=>by let⟨a,z,rfl,g,q⟩:=h;cases rx;exact K8 hu I g ry λw s' I' r=>⟨z,H,I',r,q⟩
def PGet.or{r r':R2}(h:PGet X r)(h':PGet X r'):PGet X λx y H Q=>r x y H Q\/r' x y H Q:=λÂ s σ H o j ov jv Q I ro rj q=>by
 rcases q with q|q
 .exact h Â s σ H o j ov jv Q I ro rj q
 .exact h' Â s σ H o j ov jv Q I ro rj q
def Pw{G:O.Hs}{H:Hp}{a:È}{u w:O.Val}{y:V}{K:Frag}{Q:VK}(g:RH i G H)(ry:RV i.K H u y)(e:O.fU G (.ref a) u=fb w)(q:∀z,RV i.K H w z->Q z H):Df K (.ref a) y H Q\/DY (.ref a) y H Q:=by
 replace e:(match G a with|some (.lst xs)=>(O.gy u).bind (O.atI xs)|some (.dct kvs)=>if O.fE u then O.fI kvs u else fc|some (.frz kvs)=>if O.fE u then O.fI kvs u else fc|some (.dtp kvs)=>if O.isKeyT u then O.fI kvs u else fc|_=>fc)=fb w:=e
 cases z:G a with
 |none=>rw[z]at e;cases e
 |some o =>
  rw[z]at e;cases o with
  |lst xs =>let⟨k,hk,e⟩:=î.mp e;cases ZC hk;let⟨vs,h1,h2⟩:=g a _ z;let⟨t,h3,h4⟩:=WY h2 e;exact .inl ⟨a,vs,k,t,rfl,ry.int_inv,gk.of h1,h3,q t h4⟩
  |dct kvs =>let⟨hk,e⟩:=Zp (show(if O.fE u then O.fI kvs u else fc)=fb w from e);let⟨ps,h1,h2⟩:=g a _ z;let⟨d,kr,rfl⟩:=fz hk ry;let⟨t,hx,rv⟩:=(h2.look kr).1 w e;exact .inr ⟨a,t,rfl,by rw[<-hx];exact DGet.k h1,q t rv⟩
  |frz kvs =>let⟨hk,e⟩:=Zp (show(if O.fE u then O.fI kvs u else fc)=fb w from e);let⟨ob,ps,h1,h2⟩:=g a _ z;let⟨d,kr,rfl⟩:=fz hk ry;let⟨t,hx,rv⟩:=(h2.look kr).1 w e;exact .inr ⟨a,t,rfl,.inl ⟨ps,d,.inr ⟨ob,h1⟩,rfl,hx.symm⟩,q t rv⟩
  |dtp kvs =>let⟨hk,e⟩:=Zp (show(if O.isKeyT u then O.fI kvs u else fc)=fb w from e);let⟨ps,h1,h2⟩:=g a _ z;let⟨k1,k2,b,rfl,rfl,hb⟩:=Jc hk ry;let⟨t,hx,rv⟩:=(h2.look).1 w e;exact .inr ⟨a,t,rfl,by rw[<-hx];exact DGet.t h1 hb,q t rv⟩
  |_=>cases e
def LT(e:O.E)(x:Expr):∀ov iv new,augStore (toX e c x) ov iv new=(do Ņ [new,ov,iv] (aW ov iv new);eF [new,ov,iv] [];pure .next):=by intro ov iv new;cases e<;>rfl
def Bu{Φ:O.Fs}{a j:Expr}{ma mj:O.E}{op:O.Bop}{k:Int}{kk:Nat}{ì cH Ō:Pos}(hK:X.K=i.K)(hu:X.A.units+1<Ħ)(h:AG op=fe)(ha:PE X a<|tE X i Φ ma)(hj:PE X j<|tE X i Φ mj)
  (hs:∀ov iv new,augStore j ov iv new=(do Ņ [new,ov,iv] (aW ov iv new);eF [new,ov,iv] [];pure .next)) :
  PS X (.AugAssign (.Subscript a j cH) (O5 op) (.Constant (.int k) kk Ō) ì) (tSt X i Φ<|.augIdx ma mj op k) :=
 (FD ha hj (PGet.or DK<|CS hu) OD (Hm h) (PSet.or Oc<|NP hu) hs).imp λD σ H ⟨env,G,N,R,B,C,Xe,p,w,c⟩=>by
  refine one p.pre w λv G1 H1 x k1 p1 rx q=>?_;refine one p1 q λu G2 H2 y k2 p2 ry q=>?_;let⟨t,e1,q2⟩:=fj q;clear q;let⟨z,e2,q3⟩:=fj q2;clear q2;let⟨G3,e3,q4⟩:=fj q3;clear q3;have hr:∃b,v=.ref b:=by
   cases v with
   |ref b=>exact⟨b,rfl⟩
   |_=>cases e3
  let⟨b,rfl⟩:=hr;cases rx.ref_inv;have ix2:∀Q:VK,(∀t',RV i.K H2 t t'->Q t' H2)->Df X.K (.ref b) y H2 Q\/DY (.ref b) y H2 Q:=λQ hQ=>Pw p2.hp ry e1 hQ;refine ix2 _ λt' rt=>?_;let⟨n1,n2,rfl,e0,hz⟩:=NZ e2;cases e0;cases rt.int_inv;have fin:∀m:Int,z=.int m->DI (.ref b) y (.int m) H2 λH6=>D.nx σ H6:=λm hm=>by subst hm;exact Dg p2.hp (.ref b) ry (.int m) e3 λH3 k3 g3=>c.nx env σ _ _ ((k1.trans k2).trans k3) g3 (p2.en.keep k3) q4
  rcases hz with⟨eo,hz⟩|⟨eo,hz⟩
  .exact⟨n1,k,rfl,rfl,.inl ⟨eo,fin _ hz⟩⟩
  .exact⟨n1,k,rfl,rfl,.inr ⟨eo,fin _ hz⟩⟩
def GT(t v:Expr)(p:Pos)(env:Env)(h:(∃a b q,t=.Subscript a b q)\/(∃a b q,t=.Attribute a b q)):ϑ [t] v env=pure fc:=by rcases h with⟨a,b,q,rfl⟩|⟨a,b,q,rfl⟩<;>rfl
variable {a:O.E} {x:Expr}
def F1{t:Option Expr}{l:Nat}{env:Env}(h:(!Um a)=fe):ų (toX a c x) t l env=pure ff:=by
 cases a with
 |comp ù m p it tt e=>cases h
 |_=>rfl
def Cy{tg:Expr}(h:∀y q,tg≠.Name y q):swT c tg (toX a c x)=ff:=by
 cases a with
 |comp ù m p it tt e =>
  cases tg with
  |Name y q=>exact gL rfl<|h y q
  |_=>rfl
 |_=>rfl
def LB(g:Gs X i P n c){p:O.Pt}(hc:(ZF p||c.cm)=fe)(h:okP p c=fe):PG X (toP p c x)<|gPt i p:=by
 by_cases eC:c.cm=fe
 .exact UN g eC h
 .cases p with
  |one j =>let⟨h1,h2,h3⟩:=g.nm1 h;exact OG (by rw[g.N];exact g.nd) h1 h2 h3
  |many js=>exact gL hc eC
  |nest j js=>exact gL hc eC
mutual
theorem sS:∀(m:O.S) (X:Cx) (c:Md) (s:Ł),Gs X i P n c->okS m c s=fe->PS X (toS m c s) (tSt X i (O.wF P n) m)
 |.set p a,X,c,s,g,h=>by
  have h:(okP p c&&okE a c (ke s 0)&&(ZF p || !Dt a)&&(ZF p||c.cm))=fe:=h;rw[bAq,bAq,bAq]at h;let⟨⟨⟨h1,h2⟩,h3⟩,h4⟩:=h;by_cases hsw:swT c (toP p c<|ke s 1) (toX a c<|ke s 0)=fe
  .obtain⟨ù,k,pt,it,tt,e,rfl⟩:=IE hsw;cases p with
   |one j =>let⟨q1,q2,q3⟩:=g.nm1 h1;exact(A0 g.toGd h2).2 _ _ _ j q1 q2 q3 (by rw[<-hsw];exact Jd (c:=c) (.comp ù k pt it tt e) (ke s 0) g.sc)
   |many js=>cases hsw
   |nest j js=>cases hsw
  .have hp:PG X (toP p c<|ke s 1)<|gPt i p:=LB g h4 h1;exact IK (eE a X c _ g.toGd h2) hp (by rw[ϐ,Jd a _ g.sc,Bool.eq_false_iff.mpr hsw]) (Iz p a _ _ _ h3)<|Db p _ _
 |.setIdx a j e,X,c,s,g,h=>by have h:(okE e c (ke s 0)&&okE a c (kid (ke s 1) 0)&&okE j c (kid (ke s 1) 1))=fe:=h;rw[bAq,bAq]at h;have ha:=eE a X c _ g.toGd h.1.2;have hj:=eE j X c _ g.toGd h.2;exact Bg g.K (eE e X c _ g.toGd h.1.1) ha hj (L5 ha hj (PSet.or Oc<|NP (by have:=g.un;lia))<|Fx j) (by rw[ϐ,Jd e _ g.sc,Cy λy q z=>(by cases z)]) (GT _ _ (ke s 1).pos _<|.inl ⟨_,_,_,rfl⟩) rfl
 |.setPair a j b k e,X,c,s,g,h=>nomatch h
 |.setFld o f e,X,c,s,g,h=>by have h:(c.fl.contains f&&okE o c (kid (ke s 1) 0)&&okE e c (ke s 0))=fe:=h;rw[bAq,bAq]at h;exact Az g.K g.kl.A (g.kl.F _ h.1.1) (eE o X c _ g.toGd h.1.2) (eE e X c _ g.toGd h.2) (by rw[Jd e _ g.sc,Cy λy q z=>(by cases z)])
 |.augVar j op e,X,c,s,g,h=>nomatch h
 |.augFld o f op k,X,c,s,g,h=>by have h:(c.fl.contains f&&okE o c (kid (ke s 1) 0)&&AG op)=fe:=h;rw[bAq,bAq]at h;exact AV g.K g.kl.A (g.kl.F _ h.1.1) (Hm h.2)<|eE o X c _ g.toGd h.1.2
 |.expr e,X,c,s,g,h=>by have h:(okE e c (ke s 0) && !Um e)=fe:=h;rw[bAq]at h;exact Fu (eE e X c _ g.toGd h.1)<|F1 h.2
 |.ret e,X,c,s,g,h=>Pk<|eE e X c _ g.toGd h
 |.retN,X,c,s,g,h=>GY
 |.ite t a b,X,c,s,g,h=>by have h:(okT t c (ke s 0)&&okSs a c (stB s)&&okSs b c (stO s))=fe:=h;rw[bAq,bAq]at h;exact Pb (eT t X c _ g.toGd h.1.1).1 (sSs a X c _ g h.1.2)<|sSs b X c _ g h.2
 |.whl t b,X,c,s,g,h=>nomatch h
 |.for p it b,X,c,s,g,h=>by have h:(okP p c&&okI it c (ke s 1) (!ZF p)&&okSs b c (stB s)&&c.cm)=fe:=h;rw[bAq,bAq,bAq]at h;let⟨⟨⟨h1,h2⟩,h3⟩,h4⟩:=h;let⟨t1,t2⟩:=MM (c:=c) p<|ke s 0;let⟨a1,a2⟩:=eI it X c (ke s 1) (toP p c<|ke s 0) g.toGd (!ZF p) t1 t2 h2;exact Lr (g.own h4) (g.calm h4) a1 (UN g h4 h1) (sSs b X c _ g h3) a2
 |.forI fe p e b,X,c,s,g,h=>by have h:(okP p c&&Hw e&&okE e c (ke s 1)&&okSs b c (stB s)&&c.cm)=fe:=h;rw[bAq,bAq,bAq,bAq]at h;let⟨⟨⟨⟨h1,h2⟩,h3⟩,h6⟩,h7⟩:=h;refine EW (g.own h7) (g.calm h7) (eE e X c _ g.toGd h3) (UN g h7 h1) (sSs b X c _ g h6) λ_=>?_;cases e<;>first|rfl|cases h2
 |.forI ff p e b,X,c,s,g,h=>by have h:(okP p c && !ZF p&&okE e c (kid (kid (ke s 1) 0) 0)&&YI (toX e c<|kid (kid (ke s 1) 0) 0)&&((kid (ke s 1) 0).pos.endLine==(ke s 1).pos.line)&&okSs b c (stB s)&&c.cm)=fe:=h;rw[bAq,bAq,bAq,bAq,bAq,bAq]at h;let⟨⟨⟨⟨⟨⟨h1,h2⟩,h3⟩,h4⟩,h5⟩,h6⟩,h7⟩:=h;let⟨es,k,q,et⟩:=(MM (c:=c) p<|ke s 0).1 h2;have hg:=UN (x:=ke s 0) g h7 h1;show PS X (.For (toP p c<|ke s 0) _ _ _ _) _;rw[et]at hg ⊢;exact Gv (g.own h7) (g.calm h7) (eE e X c _ g.toGd h3) hg (sSs b X c _ g h6) (YE h4 _ _) h5 λ_=>rfl
 |.never,X,c,s,g,h=>Ef
 |.brk,X,c,s,g,h=>nomatch h
 |.cnt,X,c,s,g,h=>nomatch h
 |.pass,X,c,s,g,h=>nomatch h
 |.raise C as,X,c,s,g,h=>nomatch h
 |.try t e (.cons K nm b .nil),X,c,s,g,h=>nomatch h
 |.try t e (.cons K nm b<|.cons _ _ _ _),X,c,s,g,h=>nomatch h
 |.try t e .nil,X,c,s,g,h=>nomatch h
 |.augIdx a j op k,X,c,s,g,h=>by have h:(okE a c (kid (ke s 1) 0)&&okE j c (kid (ke s 1) 1)&&AG op)=fe:=h;rw[bAq,bAq]at h;exact Bu g.K (by have:=g.un;lia) h.2 (eE a X c _ g.toGd h.1.1) (eE j X c _ g.toGd h.1.2)<|LT j _
theorem sSs:∀(ms:O.Ss) (X:Cx) (c:Md) (xs:List Ł),Gs X i P n c->okSs ms c xs=fe->PSs X (toSs ms c xs) (tBl X i (O.wF P n) ms)
 |.nil,X,c,xs,g,h=>Ix
 |.cons m ms,X,c,xs,g,h=>by have h:(okS m c (xs.headD dS)&&okSs ms c xs.tail)=fe:=h;rw[bAq]at h;exact GU (sS m X c _ g h.1)<|sSs ms X c _ g h.2
end
abbrev OW(N ps:List Str)(sc:ſ):Bool :=
 sc.kind == .function && !sc.isCoroutine && !sc.isGenerator&&decide N.Nodup&&(N.take ps.length==ps)&&ps.all (λx=>sc.names.lookup x==fb .local||sc.names.lookup x==fb .cell)&&sc.names.all λy=>y.2 != .free
variable {ps:List Str}
def Qf{N:List Str}{sc:ſ}(h:OW N ps sc=fe):FnScope N ps sc:=by
 simp![OW,bAq,œ,gK,ÿ]at h;let⟨⟨⟨⟨⟨⟨h1,h2⟩,h3⟩,h4⟩,h5⟩,h6⟩,h7⟩:=h;refine⟨eq_of_beq h1,h2,h3,h4,eq_of_beq h5,λx hx=>?_,λy hy=>?_⟩
 .simpa using h6 x hx
 .simpa using h7 y hy
structure Ds where
 st:Ł
 N:List Str
 ps:List Str
 d:O.Fn
structure Mt where
 C:String
 m:String
 qual:String
 x:Ds
structure Tb where
 fs:List<|String×Ds
 ms:List Mt
 cs:List<|String×O.Val
 cl:List String
 fl:List String
 xs:List String
abbrev Tb.md(T:Tb)(x:Ds):Md:={N:=x.N,sc:=Zt x.st,cs:=T.cs,fs:=T.fs.map (·.1),cm:=fe,cl:=T.cl,ms:=T.ms.map λy=>(y.C,y.m),fl:=T.fl,xs:=T.xs}
abbrev Ds.test(T:Tb)(x:Ds):Bool :=
 OW x.N x.ps (Zt x.st)&&okSs x.d.body (T.md x) (ZV x.st)&&x.ps.length==x.d.ar&&x.N.length==x.d.sz&&gM (x.d.ar<=x.d.sz)
structure Ds.Ok(T:Tb)(x:Ds):Prop where
 ok:x.test T=fe
 eq:toSs x.d.body (T.md x) (ZV x.st)=ZV x.st
variable {pr:è}{wd:ā}{mg:Str->Option Ä}{base:Ć}{i:Inf}{P:O.Pg}{T:Tb}
abbrev Dst(K:Frag)(mg:Str->Option Ä)(f:String)(x:Ds):Prop:=∃fa fd qual,Fun K (gN f) qual x.st fa fd/\mg (gN f)=fb (.ref fa)/\Binds K fd x.ps []
structure Mst(i:Inf)(mg:Str->Option Ä)(y:Mt)(a fa:È):Prop where
 cl:mg (gN y.C)=fb (.ref a)
 fn:∃fd,Fun i.K (gN y.m) (gN y.qual) y.x.st fa fd/\Binds i.K fd y.x.ps []
 at_:Meth i.K a (gN y.m) fa
variable {f:String} {fa:È} {fd:Ň}
def UR:fO pr wd i.K mg base (CX1 pr wd) 0 fa fd ps<|spF i P 0 f:=by
 refine⟨λvs H Q E h=>?_,λA outer s H args us vs Q E hr he hb hv h=>?_⟩
 .obtain⟨_,_,_,_,_,_,w,_⟩:=h;rw[O.wF_eq]at w;exact w.elim
 .obtain⟨_,_,_,_,_,_,w,_⟩:=h;rw[O.wF_eq]at w;exact w.elim
variable {n:Nat}
def B6{vs:List O.Val}{h:O.Hs}{Q:O.Q1}{E:O.XQ}(q:O.wF P (n+1) f vs h Q E):∃d,P f=fb d/\vs.length=d.ar/\O.wSs (O.wF P n) d.body (d.env vs) h (λ_ g=>Q .non g) Q (λ_ _=>False) (λ_ _=>False) λ_ c g=>E c g:=by rw[O.wF_eq]at q;let⟨d,e,q1,q2⟩:=fj q;exact⟨d,e,q1,by rw[O.wF_eq];exact q2⟩
structure Modu(mg:Str->Option Ä)(base:Ć)(i:Inf)(T:Tb):Prop where
 bl:∀x∈blts,mg x=fc
 cst:∀x v,T.cs.lookup x=fb v->∃u y,mg (gN x)=fb u/\RelV y u/\∀H,RV i.K H v y
 A:ClsA i
 F:∀f,T.fl.contains f=fe->FldOk i f
 cl:∀C a,i.cl C a->mg (gN C)=fb (.ref a)
 mkc:∀C,T.cl.contains C=fe->∃a y f,i.ins C=fe/\i.cl C a/\Mk i.K a f/\y∈T.ms/\y.C=C/\y.m = "__init__"/\Mst i mg y a f
 fs:∀f x,(f,x)∈T.fs->Dst i.K mg f x
 ms:∀y,y∈T.ms->∃a f,Mst i mg y a f/\Cls i.K a
 xc:T.xs≠[]->∀C a,i.xc C a->XCls i.K a/\PySem.W.kitOne i.K (.ref a) (.type "ValueError")=fb fe
 rs:T.xs≠[]->∀C,T.xs.contains C=fe->∃a,i.xc C a/\PyProof.Rows.OwnCls (gN C) a [.type "ValueError",.type "Exception",.type "BaseException",.type "object"] "ValueError.__new__" mg base
 kn:T.xs≠[]->∀T',(T.xs.contains T'||T' == "ShutError")=fe->∃D,mg (gN T')=fb (.ref D)/\∀C a,i.xc C a->PySem.W.kitOne i.K (.ref a) (.ref D)=fb (O.gj C T')/\(O.gj C T'=fe->PySem.W.exmOne i.K (.ref a) (.ref D)=fb fe)
structure Held(pr:è)(wd:ā)(mg:Str->Option Ä)(base:Ć)(i:Inf)(P:O.Pg)(T:Tb)(n:Nat):Prop where
 fs:∀f x,(f,x)∈T.fs->Dfo pr wd mg base i P n f
 ms:∀y a f,y∈T.ms->Mst i mg y a f->Dfm pr wd mg base i P n (y.C ++ "." ++ y.m) f
def fn_succ{x:Ds}{nm qual:Str}(M:Modu mg base i T)(hn:Held pr wd mg base i P T n)(F:Fun i.K nm qual x.st fa fd)(hP:P f=fb x.d)(ht:x.Ok T):fO pr wd i.K mg base (CX1 pr wd) (2*(n+1)) fa fd x.ps<|spF i P (n+1) f:=by
 let⟨ht,heq⟩:=ht;simp![Ds.test,bAq,gK]at ht;let⟨⟨⟨⟨h1,h2⟩,h3⟩,h4⟩,h5⟩:=ht;have h3:=eq_of_beq h3;have h4:=eq_of_beq h4;have S:=Qf h1;refine F.ok1 (k:=2*n+1) S (λvs H Q E h=>?_) λϧ A outer s H vs Q E hr hsp hw=>?_
 .obtain⟨args,G,Qm,Em,r,g,w,_⟩:=h;let⟨d,e,q,_⟩:=B6 w;rw[hP]at e;cases e;rw[<-r.length,q,h3]
 .obtain⟨args,G,Qm,Em,r,g,w,cn,ex⟩:=hsp;let⟨d,e,q,w⟩:=B6 w;rw[hP]at e;cases e;have gd:Gs (Mq (CX1 pr wd) pr wd i.K mg base x.N qual (Zt x.st) fa ϧ A outer s H E) i P n (T.md x) :=
   { K:=rfl,N:=rfl,sc:=rfl,nd:=S.nd,un:=(by have:=hr.un;show(A.deeper _).units+200<Ħ;lia),calm:=λ_=>rfl,room:=λ_=>hr,bl:=M.bl
     dfs:=λg hg=>(by
       let⟨p,hy,e⟩:=ç.mp<|ć.mp hg
       subst e
       exact hn.fs p.1 p.2 hy)
     cst:=M.cst
     kl:=⟨M.A,M.F,λC hC=>(by
       let⟨a,y,f,q1,q2,q3,q4,rfl,q6,q7⟩:=M.mkc C hC
       refine⟨a,f,q1,q2,q3,M.cl _ _ q2,?_⟩
       have:=hn.ms y a f q4 q7
       rw[q6]at this
       rwa [show y.C ++ ".__init__" = y.C ++ "." ++ "__init__" by rw[String.append_assoc];rfl]),λC m hC=>(by
       let⟨y,hy,e⟩:=ç.mp<|ć.mp hC
       cases e
       let⟨a,f,q1,q2⟩:=M.ms y hy
       refine⟨a,f,λb hb=>?_,q2,q1.at_,hn.ms y a f hy q1⟩
       have e1:=M.cl _ _ hb
       rw[q1.cl]at e1
       cases e1
       rfl)⟩
     xl:=λh=>⟨M.xc h,M.rs h,M.kn h⟩
     fn:=λ_ _=>.inl rfl
     own:=λ_=>PassesOwn.leaving
     stk:=λ_=>rfl }
  have hb:=sSs x.d.body _ _ _ gd h2;rw[heq]at hb;refine⟨_,hb,?_⟩;refine⟨x.d.env args,G,(λ_ g=>Qm .non g),Qm,(λ_ _=>False),(λ_ _=>False),(λ_ c g=>Em c g),?_,w,?_⟩
  .refine⟨?_,g,?_⟩
   .have:=REn.start (n:=x.d.sz - x.d.ar) r;unfold L2.start;have e1:x.N.length - vs.length=x.d.sz - x.d.ar:=by rw[h4,<-r.length,q]
    rw[e1];exact this
   .intro Â σ H0 s0 H' a cls s' I fl hx;let⟨e,c,G',ad,q1,q2,q3,q4,q5⟩:=hx;exact hw Â σ H0 s0 H' a cls s' I fl<|ex _ _ _ ⟨c,G',ad,q1,q2,q3,q4,q5⟩
  .refine⟨?_,?_,?_,?_⟩
   .intro ř ş G' H' k g' e w';exact cn .non G' H' .non k g' .non w'
   .intro v G' H' y k g' rv w';exact cn v G' H' y k g' rv w'
   .intro _ _ _ _ _ _ _ z;exact z.elim
   .intro _ _ _ _ _ _ _ z;exact z.elim
def held_all(M:Modu mg base i T)(hP:∀f x,(f,x)∈T.fs->P f=fb x.d)(hPm:∀y,y∈T.ms->P (y.C ++ "." ++ y.m)=fb y.x.d)(ht:∀f x,(f,x)∈T.fs->x.Ok T)(htm:∀y,y∈T.ms->y.x.Ok T):∀n,Held pr wd mg base i P T n:=by
 intro n;induction n with
 |zero =>
  refine⟨λf x h=>?_,λy a f hy S=>?_⟩
  .obtain⟨fa,fd,qual,F,hm,hb⟩:=M.fs f x h;exact⟨fa,fd,x.ps,UR,hm,F.kp,hb⟩
  .obtain⟨fd,F,hb⟩:=S.fn;exact⟨fd,y.x.ps,UR,hb⟩
 |succ n ih =>
  refine⟨λf x h=>?_,λy a f hy S=>?_⟩
  .obtain⟨fa,fd,qual,F,hm,hb⟩:=M.fs f x h;exact⟨fa,fd,x.ps,fn_succ M ih F (hP f x h)<|ht f x h,hm,F.kp,hb⟩
  .obtain⟨fd,F,hb⟩:=S.fn;exact⟨fd,y.x.ps,fn_succ M ih F (hPm y hy)<|htm y hy,hb⟩
end Snd
namespace Hd
open PySem PySem.W PyProof.Rows
abbrev Ja(st:SharedT->Thread->Option (SharedT×Thread))(ok th:Thread->Bool):Nat->SharedT->Thread->Option SharedT
 |0,_,_=>fc
 |n+1,s,t=>match th t with
  |true=>fb s
  |false=>match ok t with
   |false=>fc
   |true=>match st s t with
    |some (s',t')=>Ja st ok th n s' t'
    |none=>fc
def JF{tb:String->Option Builtin}{p:Program}{w:World}{n₀:Nat}{ann:Option Value}:∀{n:Nat}{s s':SharedT}{t:Thread},Ja (stepT (denote tb) p w) (stepOk n₀ ann) through n s t=fb s'->topRun tb p w n₀ ann n s.abs t=fb s'.abs
 |0,_,_,_,h=>by cases h
 |n+1,s,s',t,h=>by
  unfold Ja at h;unfold topRun;cases ht:through t with
  |true=>rw[ht]at h;cases h;rfl
  |false =>
   rw[ht]at h;dsimp only at h ⊢;cases hk:stepOk n₀ ann t with
   |false=>rw[hk]at h;cases h
   |true =>
    rw[hk]at h;dsimp only at h ⊢;cases hs:stepT (denote tb) p w s t with
    |none=>rw[hs]at h;cases h
    |some r =>let⟨s2,t2⟩:=r;rw[hs]at h;rw[stepT_spec hs];exact JF h
abbrev Jn(P:Params):BT :=
 .node (boot_o_0 P) (.node (boot_o_1 P) (.node (boot_o_3 P) (.node (boot_o_7 P) .nil .nil) .nil)<|.node (boot_o_5 P) (.node (boot_o_9 P) .nil .nil) .nil)
  (.node (boot_o_2 P) (.node (boot_o_4 P) (.node (boot_o_8 P) .nil .nil) .nil)<|.node (boot_o_6 P) (.node (boot_o_10 P) .nil .nil) .nil)
def El(P:Params):absHeap (Jn P) 11 {}=boot_heap P:=by kernel_rfl
def Ay(P:Params):((boot_heap P).isNs mainGlobals&&(Array.mk []:Array GenState).size==0,(boot_heap P).objs.size,(boot_heap P).nsMap mainGlobals "__annotations__")=(fe,11,fb<|.ref 6):=by
 rw[show @Heap.nsMap=_ from Fast.te8920871248978507458]
 kernel_rfl
abbrev HL:=Fast.tw10156331382660048174
abbrev Aa:=Fast.tw11892475500146522536
abbrev Ei:=Fast.tw14364793385576792824
abbrev okY:=Fast.tw6613529449190102663
abbrev seenY:=Fast.tw4187177175401517315
abbrev modsY:=Fast.tw5923862056798008813
abbrev runY(p:Program)(N:Nat)(w:World)(os:OsState):Option SharedT:=Ja (HL (Aa Ei) p w) (okY 11<|fb<|.ref 6) through N ⟨Jn w.params,11,{},Array.mk [],boot_drawn,boot_toks,os⟩<|topStub p
abbrev stY(p:Program)(w:World)(s:SharedT):Bool:=staticsOk (modsY p.main.body) (boot_heap w.params) s.abs.heap&&namesBound p s.abs.heap&&gensDone s.abs&&laidKept (boot_heap w.params) s.abs.heap
def left_of{p q:Program}{loose:List Str}{Xt:Shared->Bool}{α:Type}{Yf:Shared->α}{Ya:World->α}{N:Nat}(e:opening p=plainProg p.main.scope.names)(hN:Nat.ble 600 N=fe)(f:∀s,fenceModules? p s=fb s)
  (one:∀w os,(runY p N w os).map (stY p w)=fb fe) (two:∀w os,(runY p N w os).map (λs=>seenY q loose (modsY p.main.body) Xt fe s.abs)=fb (openGood q loose)) (three:∀w os,(runY p N w os).map (λs=>Yf s.abs)=fb (Ya w)) :
  LeftO p q loose Xt Yf Ya N:=by
 intro w;let⟨⟨h,gs,d,k,os⟩,e1,e2⟩:=Ò.mp<|boot_open e hN f w;obtain⟨rfl,rfl,rfl,rfl⟩:h=boot_heap w.params/\gs=Array.mk []/\d=boot_drawn/\k=boot_toks:=⇑e2
 let⟨s,r,l1⟩:=Ò.mp<|one w os;let⟨s',r',l2⟩:=Ò.mp<|two w os;cases r.symm.trans r';let⟨s',r',l3⟩:=Ò.mp<|three w os;cases r.symm.trans r';obtain⟨z1,z2,z3⟩:_/\_/\_:=by simpa only[ŵ]using Ay w.params
 unfold stY at l1;unfold runY HL Aa Ei okY at r;rw[<-Fast.te10156331382660048174,<-Fast.te11892475500146522536,<-Fast.te14364793385576792824,<-Fast.te6613529449190102663]at r;unfold modsY at l1 l2;unfold seenY at l2;rw[<-Fast.te5923862056798008813]at l1 l2;rw[<-Fast.te4187177175401517315]at l2;have r2:=JF r;have ea:(SharedT.mk (Jn w.params) 11 {} (Array.mk []) boot_drawn boot_toks os).abs=⟨boot_heap w.params,Array.mk [],boot_drawn,boot_toks,os⟩:=by show Shared.mk (absHeap _ _ _) _ _ _ _=_;rw[El]
 rw[ea]at r2;have t:topFrom treeTable p w N ⟨boot_heap w.params,Array.mk [],boot_drawn,boot_toks,os⟩=fb s.abs:=by unfold topFrom;dsimp only;rw[z1,z2,z3,r2];show(match staticsOk (importedModules p.main.body) (boot_heap w.params) s.abs.heap&&namesBound p s.abs.heap&&gensDone s.abs&&laidKept (boot_heap w.params) s.abs.heap with|true=>_|false=>_)=_;rw[l1]
 unfold openEnds;rw[e1];show(topFrom treeTable p w N _).map _=_;rw[t];exact congrArg fb<|Prod.ext l2 l3
end Hd
namespace Hd
open PySem PySem.W PyProof.Rows L2
abbrev K2:Nat->List Obj->Frag
 |_,[]=>[]
 |i,o::r=>match o with
  |⟨_,_,.freed,_⟩=>K2 (i+1) r
  |o=>(i,o)::K2 (i+1) r
abbrev ZD(g:Heap):Frag:=K2 0 g.objs.toList
def No:∀(l:List Obj) (i a:Nat) (o:Obj),(K2 i l).lookup a=fb o->i<=a/\l[a - i]?=fb o/\(match fb o with|some ⟨_,_,.freed,_⟩=>fc|o=>o)=fb o
 |[],_,_,_,h=>by cases h
 |x::r,i,a,o,h=>by
  have rec1:(K2 (i+1) r).lookup a=fb o->i<=a/\(x::r)[a - i]?=fb o/\(match fb o with|some ⟨_,_,.freed,_⟩=>fc|o=>o)=fb o:=λq=>by let⟨h1,h2,h3⟩:=No r (i+1) a o q;refine⟨by lia,?_,h3⟩;rw[show a - i=(a - (i+1))+1 by lia,List.getElem?_cons_succ];exact h2
  unfold K2 at h;split at h
  .exact rec1 h
  .rename_i c Ũ;rw[õ]at h;split at h
   .rename_i e;cases h;have e:=eq_of_beq e;subst e;refine⟨Ï _,by rw[Nat.sub_self];rfl,?_⟩;split
    .rename_i d1 d2 d3 d4;cases d4;exact(Ũ _ _ _ rfl).elim
    .rfl
   .exact rec1 h
def OO{g:Heap}{a:Addr}{o:Obj}(h:(ZD g).lookup a=fb o):g.get? a=fb o:=by let⟨_,h2,h3⟩:=No _ _ _ _ h;unfold Heap.get?;rw[ay,Ŏ]at h2;rw[h2];exact h3
abbrev BL(K:Frag)(nm:Str):Option<|FuncData×Bool×Bool:=match nsIn K mainGlobals nm with
 |some (fb<|.ref f)=>match K.lookup f with
  |some ⟨_,_,.func fd,_⟩=>fb ({fd with kwdefaults:=.none,doc:=.none,pyModule:=.none,annotations:=fc,code:=.none,closureTuple:=.none},codeIn K fd.code fd.qualname,keepIn K<|.ref f)
  |_=>fc
 |_=>fc
abbrev BV(nm:Str)(st:Stmt):Option<|FuncData×Bool×Bool:=fb (fnOf nm nm (YK st) (ZV st) (Zt st) .none .none .none .none fc .none .none,fe,fe)
def LN{K:Frag}{nm:Str}{st:Stmt}(e:BL K nm=BV nm st):∃fa fd,Fun K nm nm st fa fd/\nsIn K mainGlobals nm=fb (fb<|.ref fa):=by
 unfold BL at e;split at e
 .rename_i f hf;split at e
  .rename_i oc od fd sl hl;simp![BV,Ĵ,ŵ]at e;let⟨e1,e2,e3⟩:=e;let⟨n1,n2,n3,n4,n5,n6,n7,n8,n9,n10,n11,n12,n13,n14,n15⟩:=fd;simp![fnOf,FuncData.mk.injEq]at e1;obtain⟨rfl,rfl,rfl,rfl,rfl,rfl,rfl,rfl,-,-,-,-,-,-,rfl⟩:=e1;exact⟨f,_,B9 hl e2 e3,hf⟩
  .cases e
 .cases e
abbrev Hr(K:Frag)(y:Str):Bool:=match nsIn K mainGlobals y with
 |some fc=>fe
 |_=>ff
def Fe{l:OpenLaw}{n k:Nat}{q:Program}{loose:List Str}{XP:(Str->Option Value)->Heap->Prop}{YP:World->Heap->Prop}{d:DefRec}{CX:World->CXT}{x:Str}
  (hn:l.most=fb n) (hn2:n<=sizeLine) (hdf:d.params.defaults=[]) (hr:fN k callerA)
  (F:∀(w:World) (mg:Str->Option Value) (fa:Addr) (h:Heap),YP w h->h.Ns mainGlobals mg->mg d.name=fb (.ref fa)->∃(K:Frag) (sp:Sp),K.In h/\
    (∃fd:FuncData,(∀(s:Shared) (u:Value),BindsTo s fd ⟨[u],[]⟩ [(x,u)])/\∀base:Heap,K.In base->base.Ns mainGlobals mg->fO l.prog w K mg base (CX w) k fa fd [x] sp)/\
    ∀(H:Hp) (a:Addr) (ns:List Int),ns.length<=n->LZ H->gk K H a (ns.map V.int)->sp [.ref a] H (λv _=>v=.bl fe) λ_ _ _=>False)
  (hCX:∀(w:World) (H:Hp) (s:Shared) (e:Value) (s':Shared),CX w [] H s (λ_ _ _=>False) e s'->False) :
  WalkO q loose XP YP l.row.toRowW d [] (λf vs=>PySem.call f vs):=by
 refine Att.attach_call hn hdf λw s₀ ė mg mb fa o pm cd doc a vs ns G Y ho hd bj hmg bF hints hlen hg=>?_;let⟨K,sp,KX,⟨fd,hb,hF⟩,hsp⟩:=F w mg fa _ Y G.T.g hmg;exact CW KX G.T.g G.T.b G.T.builtins G.T.nolimit hg bF hints (Þ hlen hn2) hr hF hb (λH hO hS=>hsp H a ns hlen hO hS) λH e s'=>hCX w H ė e s'
abbrev E6(f:Value->O.Val->Bool):List Value->List O.Val->Bool
 |[],[]=>fe
 |u::us,x::xs=>f u x&&E6 f us xs
 |_,_=>ff
abbrev Ha(K:Frag):Value->Option (List Value)
 |.ref a=>match K.lookup a with
  |some ⟨.type n,_,.seq us _,_⟩=>if n == "tuple" && gM (us.size<=sizeLine)then fb us.toList else fc
  |_=>fc
 |_=>fc
abbrev Fh(K:Frag):Nat->Value->O.Val->Bool
 |0,_,_=>ff
 |n+1,u,v=>match v with
  |.non=>(match u with|.none=>fe|_=>ff)
  |.bl b=>(match u with|.bool a=>a==b|_=>ff)
  |.int j=>(match u with|.int i _=>i==j|_=>ff)
  |.str t=>(match u with|.str s _=>Fast.sEq s (gN t)|_=>ff)
  |.tup xs=>(match Ha K u with|some us=>E6 (Fh K n) us xs|none=>ff)
  |_=>ff
def Ca{K:Frag}{f:Value->O.Val->Bool}(hf:∀u v,f u v=fe->∃z,RelV z u/\∀H,Snd.RV K H v z):∀(us:List Value) (xs:List O.Val),E6 f us xs=fe->∃zs,gp zs us/\∀H,Snd.RVs K H xs zs
 |[],[],_=>⟨[],.nil,λ_=>.nil⟩
 |u::us,x::xs,h=>by rw[E6,bAq]at h;let⟨z,r,q⟩:=hf u x h.1;let⟨zs,rs,qs⟩:=Ca hf us xs h.2;exact⟨z::zs,.cons r rs,λH=>.cons (q H)<|qs H⟩
 |[],_::_,h=>by cases h
 |_::_,[],h=>by cases h
def DP{K:Frag}:∀(n:Nat) (u:Value) (v:O.Val),Fh K n u v=fe->∃z,RelV z u/\∀H,Snd.RV K H v z
 |0,_,_,h=>by cases h
 |n+1,u,v,h=>by
  unfold Fh at h;cases v with
  |non =>
   dsimp only at h;split at h
   .exact⟨.non,rfl,λ_=>.non⟩
   .cases h
  |bl b =>
   dsimp only at h;split at h
   .cases eq_of_beq h;exact⟨.bl b,rfl,λ_=>.bl b⟩
   .cases h
  |int j =>
   dsimp only at h;split at h
   .cases eq_of_beq h;exact⟨.int j,⟨_,rfl⟩,λ_=>.int j⟩
   .cases h
  |str t =>
   dsimp only at h;split at h
   .cases Fast.sEq_iff.mp h;exact⟨.str<|gN t,⟨_,rfl⟩,λ_=>.str t⟩
   .cases h
  |tup xs =>
   dsimp only at h;split at h
   .rename_i us hu;let⟨zs,rs,qs⟩:=Ca (λu v=>DP n u v) us xs h;unfold Ha at hu;split at hu
    .rename_i a;split at hu
     .rename_i nm od ó k sl hl;split at hu
      .rename_i hc;rw[bAq,gK]at hc;cases eq_of_beq hc.1;cases hu;exact⟨.ref a,rfl,λH=>.tup (.inr ⟨_,ó,k,hl,rfl,rfl,hc.2,rs⟩)<|qs H⟩
      .cases hu
     .cases hu
    .cases hu
   .cases h
  |ref a=>cases h
  |scr ns=>cases h
  |key i j=>cases h
abbrev Cc(K:Frag)(p:String×O.Val):Bool:=match nsIn K mainGlobals (gN p.1)with
 |some (fb u)=>Fh K 4 u p.2
 |_=>ff
def J4{α β:Type}[BEq α][LawfulBEq α]{a:α}{b:β}:∀{l:List (α×β)},l.lookup a=fb b->(a,b)∈l
 |[],h=>by cases h
 |(x,y)::r,h=>by
  rw[õ]at h;split at h
  .rename_i e;cases h;cases eq_of_beq e;exact .head _
  .exact .tail _<|J4 h
def Lb{K:Frag}{mg:Str->Option Value}{h:Heap}{x:Str}{C:Addr}{bmB:List Value}{id:String}(X:K.In h)(hm:mg x=fb (.ref C))(q:excIn K C bmB id=fe):PyProof.Rows.OwnCls x C bmB id mg h:=by
 constructor
 .exact hm
 have z:=q;unfold excIn at z;split at z
 next dd cd sl ho =>
  split at z
  next C1 bm k0 k1 k2 k3 n k5 em es =>
   rw[bAq,bAq,bAq,bAq,bAq]at z;let⟨⟨⟨⟨⟨z1,z2⟩,z3⟩,z4⟩,z5⟩,z6⟩:=z;have z1:=eq_of_beq z1;have z2:=eq_of_beq z2;have z6:=eq_of_beq z6;subst z1 z2;have z3b:cd.hasDel=ff:=by
    cases e:cd.hasDel with
    |false=>rfl
    |true=>rw[e]at z3;cases z3
   have aV:sl=#[k0,k1,k2,k3,fb<|.builtin n,k5]:=eV.mp es;have nN:=nsMap_none_of_in X z5 z6;have nI:=Heap.Ns.of_isNs<|isNs_of_in X z5;have tI:=tail_of_in X z4;cases cd;dsimp only at em z3b nN nI;subst em z3b aV;exact⟨bm,_,_,_,_,_,_,_,_,_,dd,k0,k1,k2,k3,k5,_,X _ _ ho,nI,nN,tI⟩
  next=>cases z
 next=>cases z
abbrev II(K:Frag)(f:Addr):Option<|FuncData×Bool×Bool:=match K.lookup f with
 |some ⟨_,_,.func fd,_⟩=>fb ({fd with kwdefaults:=.none,doc:=.none,pyModule:=.none,annotations:=fc,code:=.none,closureTuple:=.none},codeIn K fd.code fd.qualname,keepIn K<|.ref f)
 |_=>fc
abbrev OL(nm qual:Str)(st:Stmt):Option<|FuncData×Bool×Bool:=fb (fnOf nm qual (YK st) (ZV st) (Zt st) .none .none .none .none fc .none .none,fe,fe)
def H9{K:Frag}{nm qual:Str}{st:Stmt}{f:Addr}(e:II K f=OL nm qual st):∃fd,Fun K nm qual st f fd:=by
 unfold II at e;split at e
 .rename_i oc od fd sl hl;simp![OL,Ĵ,ŵ]at e;let⟨e1,e2,e3⟩:=e;let⟨n1,n2,n3,n4,n5,n6,n7,n8,n9,n10,n11,n12,n13,n14,n15⟩:=fd;simp![fnOf,FuncData.mk.injEq]at e1;obtain⟨rfl,rfl,rfl,rfl,rfl,rfl,rfl,rfl,-,-,-,-,-,-,rfl⟩:=e1;exact⟨_,B9 hl e2 e3⟩
 .cases e
abbrev Jv(K:Frag)(C:String):Option Addr:=match nsIn K mainGlobals (gN C)with
 |some (fb<|.ref a)=>fb a
 |_=>fc
variable {C:String} {a:Addr}
def Jb{K:Frag}(h:Jv K C=fb a):nsIn K mainGlobals (gN C)=fb (fb<|.ref a):=by
 unfold Jv at h;split at h
 .cases h;assumption
 .cases h
structure CV where
 pg:Bool
 hd:Bool
 po:Bool
 sa:Option<|Option Value
abbrev Ge(K:Frag)(a:Addr):CV:=⟨plainGet K a Str.empty,hasDictIn K a,plainOver K a,findIn K (.ref a) "__setattr__"⟩
abbrev Uw:CV:=⟨fe,fe,fe,fb<|fb<|.builtin "object.__setattr__"⟩
def DJ{K:Frag}(h:Ge K a=Uw):Cls K a:=by simp![Ge,Uw,CV.mk.injEq]at h;exact⟨h.1,h.2.1,h.2.2.1,h.2.2.2⟩
structure MV where
 fn:Option<|FuncData×Bool×Bool
 isf:Bool
 cv:CV
abbrev BZ(K:Frag)(y:Snd.Mt):Option MV:=match Jv K y.C with
 |some a=>match findIn K (.ref a) (gN y.m)with
  |some (fb<|.ref f)=>fb ⟨II K f,isFn K<|.ref f,Ge K a⟩
  |_=>fc
 |none=>fc
abbrev Eh(y:Snd.Mt):Option MV:=fb ⟨OL (gN y.m) (gN y.qual) y.x.st,fe,Uw⟩
def RA{K:Frag}{y:Snd.Mt}(e:BZ K y=Eh y):∃a f fd,nsIn K mainGlobals (gN y.C)=fb (fb<|.ref a)/\Fun K (gN y.m) (gN y.qual) y.x.st f fd/\Meth K a (gN y.m) f/\Cls K a:=by
 unfold BZ at e;split at e
 .rename_i a ha;split at e
  .rename_i f hf;simp![Eh,Ĵ,MV.mk.injEq]at e;let⟨e1,e2,e3⟩:=e;let⟨fd,F⟩:=H9 e1;exact⟨a,f,fd,Jb ha,F,⟨hf,e2,F.kp⟩,DJ e3⟩
  .cases e
 .cases e
structure QV where
 mks:Bool
 kp:Bool
 cv:CV
 fl:List<|Option<|Option Value
 ic:Option (Option Value)×Option (Option Value)×Option Bool×Option Bool
abbrev B2(K:Frag)(fl:List String)(C:String):Option QV:=match Jv K C with
 |some a=>fb ⟨makesIn K a,keepIn K<|.ref a,Ge K a,fl.map λf=>findIn K (.ref a)<|gN f,(findIn K (.ref a) "__class__",specialIn K (.builtin "object.__class__") "__get__",takesIn K<|.builtin "object.__class__",mroIn K a<|.type "object")⟩
 |none=>fc
abbrev Dy(fl:List String):Option QV:=fb ⟨fe,fe,Uw,fl.map λ_=>fb fc,(fb<|fb<|.builtin "object.__class__",fb<|fb<|.builtin "getset_descriptor.__get__",fb fe,fb fe)⟩
def Hg{K:Frag}{fl:List String}(e:B2 K fl C=Dy fl):∃a,nsIn K mainGlobals (gN C)=fb (fb<|.ref a)/\makesIn K a=fe/\keepIn K (.ref a)=fe/\Cls K a/\(∀f∈fl,NoAttr K a<|gN f)/\Snd.IC K a:=by
 unfold B2 at e;split at e
 .rename_i a ha;simp![Dy,Ĵ,QV.mk.injEq,ŵ]at e;let⟨e1,e2,e3,e4,e5,e6,e7,e8⟩:=e;exact⟨a,Jb ha,e1,e2,DJ e3,λf hf=>Ģ.mp e4 f hf,⟨e5,e6,e7,e8⟩⟩
 .cases e
structure XV where
 ex:Bool
 f1:Option<|Option Value
 f2:Option<|Option Value
 f3:Option<|Option Value
 m1:Option Bool
 m2:Option Bool
 ci:Bool
 ve:Option Bool
 ks:List<|Option<|Option Bool×Option Bool
abbrev DW(K:Frag)(xs:List String)(C:String):Option XV:=match Jv K C with
 |some a=>fb ⟨excIn K a [.type "ValueError",.type "Exception",.type "BaseException",.type "object"] "ValueError.__new__",findIn K (.ref a) "__getattribute__",findIn K (.ref a) "__getattr__",findIn K (.ref a) "__class__",mroIn K a<|.type "object",mroIn K a<|.type "BaseException",(clsIn K a).isSome,kitOne K (.ref a)<|.type "ValueError",("ShutError" :: xs).map λT=>(Jv K T).map λD=>(kitOne K (.ref a)<|.ref D,exmOne K (.ref a)<|.ref D)⟩
 |none=>fc
abbrev CI(xs:List String)(C:String):Option XV:=fb ⟨fe,fb<|fb<|.builtin "BaseException.__getattribute__",fb fc,fb<|fb<|.builtin "object.__class__",fb fe,fb fe,fe,fb fe,("ShutError" :: xs).map λT=>fb (fb<|O.gj C T,fb<|O.gj C T)⟩
def Dh{K:Frag}{xs:List String}(e:DW K xs C=CI xs C):∃a,nsIn K mainGlobals (gN C)=fb (fb<|.ref a)/\excIn K a [.type "ValueError",.type "Exception",.type "BaseException",.type "object"] "ValueError.__new__" = fe/\XCls K a/\kitOne K (.ref a) (.type "ValueError")=fb fe/\
  ∀T∈"ShutError" :: xs,∃D,nsIn K mainGlobals (gN T)=fb (fb<|.ref D)/\kitOne K (.ref a) (.ref D)=fb (O.gj C T)/\exmOne K (.ref a) (.ref D)=fb (O.gj C T):=by
 unfold DW at e;split at e
 .rename_i a ha;simp![CI,Ĵ,XV.mk.injEq]at e;let⟨e1,e2,e3,e4,e5,e6,e7,e8,e9⟩:=e;refine⟨a,Jb ha,e1,⟨e2,e3,e4,e5,e6,e7⟩,e8,λT hT=>?_⟩;have:=Ģ.mp e9 T hT;cases z:Jv K T with
  |none=>rw[z]at this;cases this
  |some D =>rw[z]at this;simp![Ľ,Ĵ,ŵ]at this;exact⟨D,Jb z,this.1,this.2⟩
 .cases e
structure View where
 fs:List<|Option<|FuncData×Bool×Bool
 ms:List<|Option MV
 cl:List<|Option QV
 xs:List<|Option XV
 ok:Bool
abbrev view(T:Snd.Tb)(K:Frag):View:=⟨T.fs.map λp=>BL K<|gN p.1,T.ms.map<|BZ K,T.cl.map<|B2 K T.fl,T.xs.map<|DW K T.xs,T.cs.all (Cc K)&&Snd.blts.all (Hr K)⟩
abbrev due(T:Snd.Tb):View:=⟨T.fs.map λp=>BV (gN p.1) p.2.st,T.ms.map Eh,T.cl.map λ_=>Dy T.fl,T.xs.map<|CI T.xs,fe⟩
abbrev hook(T:Snd.Tb):Hook where
 α:=View
 obs:=λs=>view T<|ZD s.heap
 val:=λ_=>due T
 says:=λ_ h=>∃g:Heap,view T (ZD g)=due T/\∀b o,g.get? b=fb o->h.get? b=fb o
 of:=λ_ s e=>⟨s.heap,e,λ_ _ x=>x⟩
 keeps:=λ_ _ _ ⟨g,e,k⟩ k2=>⟨g,e,λb o x=>k2 b o<|k b o x⟩
abbrev Bd(nm qual:Str)(x:Snd.Ds):Prop:=∀(kV doc pm:Value) (an:Option Addr) (ϧ ct:Value) (us:List Value),us.length=x.ps.length->bindArgs (fnOf nm qual (YK x.st) (ZV x.st) (Zt x.st) .none kV doc pm an ϧ ct) ⟨us,[]⟩=pure (x.ps.zip us)
abbrev FM(T:Snd.Tb):Bool:=T.cl.all λC=>T.ms.any λy=>y.C==C&&y.m == "__init__"
def law_walk{l:OpenLaw}{q:Program}{loose:List Str}{XP:(Str->Option Value)->Heap->Prop}{d:DefRec}{T:Snd.Tb}{pg:O.Pg}{k:Nat}{xl:Snd.Ds}
  (hn:l.most=fb 63) (hdf:d.params.defaults=[]) (hdn:d.name=gN "law") (hr:fN (2*(k+1)) callerA) (hlaw:("law",xl)∈T.fs) (hps:xl.ps=[gN "script"]) (hin:FM T=fe)
  (tab_pg:∀f x,(f,x)∈T.fs->pg f=fb x.d) (tab_pm:∀y,y∈T.ms->pg (y.C ++ "." ++ y.m)=fb y.x.d) (tab_ok:∀f x,(f,x)∈T.fs->x.Ok T) (tab_om:∀y,y∈T.ms->y.x.Ok T)
  (tab_bd:∀f x,(f,x)∈T.fs->Bd (gN f) (gN f) x) (tab_bm:∀y,y∈T.ms->Bd (gN y.m) (gN y.qual) y.x)
  (ok:∀ns:List Int,ns.length<=63->O.wF pg (k+1) "law" [.scr ns] (λ_=>fc) (λv _=>v=.bl fe) λ_ _=>False) :
  WalkO q loose XP (hook T).says l.row.toRowW d [] (λf vs=>PySem.call f vs):=by
 refine Fe (n:=63) (k:=2*(k+1)) (x:=gN "script") (CX:=λw=>CX1 l.prog w) hn (by decide) hdf hr (λw mg fa h Y G hmg=>?_) λ_ _ _ _ _ ⟨_,_,_,_,_,z⟩=>z;let⟨g,e,keep⟩:=Y;have X:(ZD g).In h:=λa o z=>keep a o<|OO z;simp![view,due,View.mk.injEq]at e;let⟨e1,e3,e4,e5,e2⟩:=e;rw[bAq,ÿ,ÿ]at e2
 let i:Snd.Inf:=⟨ZD g,λC a=>T.cl.contains C=fe/\mg (gN C)=fb (.ref a),λC=>T.cl.contains C,λC a=>T.xs.contains C=fe/\mg (gN C)=fb (.ref a)⟩
 have hF:∀f x,(f,x)∈T.fs->∃fa fd,Fun (ZD g) (gN f) (gN f) x.st fa fd/\mg (gN f)=fb (.ref fa):=λf x hx=>by let⟨fa,fd,F,z⟩:=LN<|Ģ.mp e1 (f,x) hx;exact⟨fa,fd,F,mg_of X G z⟩
 have ah:∀C a,i.cl C a->makesIn (ZD g) a=fe/\keepIn (ZD g) (.ref a)=fe/\Cls (ZD g) a/\(∀f∈T.fl,NoAttr (ZD g) a<|gN f)/\Snd.IC (ZD g) a:=λC a ⟨hc,hm⟩=>by let⟨b,z,q⟩:=Hg<|Ģ.mp e4 C<|ć.mp hc;have:=mg_of X G z;rw[hm]at this;cases this;exact q
 have hms:∀y,y∈T.ms->∃a f,Snd.Mst i mg y a f/\Cls i.K a:=λy hy=>by let⟨a,f,fd,z,F,M,A⟩:=RA<|Ģ.mp e3 y hy;exact⟨a,f,⟨mg_of X G z,⟨fd,F,F.binds<|tab_bm y hy⟩,M⟩,A⟩
 have hxc:∀C a,i.xc C a->excIn (ZD g) a [.type "ValueError",.type "Exception",.type "BaseException",.type "object"] "ValueError.__new__" = fe/\XCls (ZD g) a/\kitOne (ZD g) (.ref a) (.type "ValueError")=fb fe/\
   ∀T'∈"ShutError" :: T.xs,∃D,nsIn (ZD g) mainGlobals (gN T')=fb (fb<|.ref D)/\kitOne (ZD g) (.ref a) (.ref D)=fb (O.gj C T')/\exmOne (ZD g) (.ref a) (.ref D)=fb (O.gj C T'):=λC a ⟨hc,hm⟩=>by
  let⟨b,z,q⟩:=Dh<|Ģ.mp e5 C<|ć.mp hc;have:=mg_of X G z;rw[hm]at this;cases this;exact q
 have mod:∀base:Heap,(ZD g).In base->Snd.Modu mg base i T:=λbase Xb =>
  { bl:=λy hy=>by
      have:=e2.2 y hy
      unfold Hr at this
      split at this
      . rename_i z;exact mg_none_of X G z
      . cases this
    cst:=λy v hv=>by
      have:=e2.1 _<|J4 hv
      unfold Cc at this
      split at this
      . rename_i u z
        let⟨x,r,rv⟩:=DP 4 u v this
        exact⟨u,x,mg_of X G z,r,rv⟩
      . cases this
    A:=⟨λC a _ z=>(ah C a z).2.2.1,λC a z=>(ah C a z).2.2.2.2,λC a b z y=>by have:=z.2.symm.trans y.2;cases this;rfl⟩
    F:=λf hf=>⟨λC a z=>(ah C a z).2.2.2.1 f<|ć.mp hf⟩
    cl:=λC a z=>z.2
    mkc:=λC hC=>by
      let⟨a,z,_⟩:=Hg<|Ģ.mp e4 C<|ć.mp hC
      have hi:i.cl C a:=⟨hC,mg_of X G z⟩
      let⟨y,hy,e⟩:=List.any_eq_true.mp<|ÿ.mp hin C<|ć.mp hC
      rw[bAq]at e
      let⟨b,f,S,A⟩:=hms y hy
      have h1:=eq_of_beq e.1
      have h2:=eq_of_beq e.2
      have hb:=S.cl
      rw[h1,hi.2]at hb
      cases hb
      refine⟨a,y,f,hC,hi,⟨(ah C a hi).1,?_,S.at_.fn,(ah C a hi).2.1⟩,hy,h1,h2,S⟩
      have:=S.at_.at_
      rw[h2]at this
      exact this
    fs:=λf x hx=>by
      let⟨fa,fd,F,m⟩:=hF f x hx
      exact⟨fa,fd,_,F,m,F.binds<|tab_bd f x hx⟩
    ms:=hms
    xc:=λ_ C a z=>⟨(hxc C a z).2.1,(hxc C a z).2.2.1⟩
    rs:=λ_ C hC=>by
      let⟨a,z,q1,_⟩:=Dh<|Ģ.mp e5 C<|ć.mp hC
      exact⟨a,⟨hC,mg_of X G z⟩,Lb Xb (mg_of X G z) q1⟩
    kn:=λŨ T' hT=>by
      have hT2:T'∈"ShutError" :: T.xs:=by
        rcases (Bool.or_eq_true ..).mp hT with z|z
        . exact .tail _<|ć.mp z
        . cases eq_of_beq z;exact .head _
      let⟨C0,hC0⟩:=List.exists_mem_of_ne_nil _ Ũ
      let⟨a0,z0,_,_,_,q0⟩:=Dh<|Ģ.mp e5 C0 hC0
      let⟨D,zD,_⟩:=q0 T' hT2
      refine⟨D,mg_of X G zD,λC a z=>?_⟩
      let⟨D2,z2,k1,k2⟩:=(hxc C a z).2.2.2 T' hT2
      rw[zD]at z2
      cases z2
      exact⟨k1,λe=>by rw[k2,e]⟩ }
 let⟨fl,fd,F,m⟩:=hF "law" xl hlaw;have ef:=hmg.symm.trans<|hdn▸m;cases ef;refine⟨ZD g,Snd.spF i pg (k+1) "law",X,⟨fd,λs u=>?_,λbase Xb _=>?_⟩,λH a ns hl hO hS=>?_⟩
 .have B:=F.ex;let⟨oc,od,kV,dc,pm,an,ϧ,ct,sl,rfl,lk,bj⟩:=B;have:=tab_bd "law" xl hlaw kV dc pm an ϧ ct [u] (by rw[hps];rfl);rw[hps]at this;exact .of_eq this
 .have M:=mod base Xb;have:=Snd.fn_succ (i:=i) (pr:=l.prog) (wd:=w) (base:=base) (mg:=mg) (P:=pg) (n:=k) M (Snd.held_all M tab_pg tab_pm tab_ok tab_om k) F (tab_pg "law" xl hlaw)<|tab_ok "law" xl hlaw;rw[hps]at this;exact this
 .refine⟨[.scr ns],λ_=>fc,λv _=>v=.bl fe,λ_ _=>False,.cons (.scr ?_) .nil,λ_ _ e=>(by cases e),ok ns hl,?_,?_⟩
  .rcases hS with(h|⟨o,h⟩)|h
   .rcases hO a with z|⟨o,xs,z⟩
    .rw[h]at z;cases z
    .rw[h]at z;cases z
   .exact .inl ⟨o,h⟩
   .exact .inr h
  .intro v G' H' x _ _ r e;subst e;exact r.bl_inv
  .rintro cls d H' ⟨_,_,_,_,_,_,_,z⟩;exact z
end Hd
set_option maxRecDepth 20000
set_option maxHeartbeats 2000000
namespace O
local macro_rules|`(#[$x])=>`(.cons $x .nil)|`(#[$x,$y,*])=>`(.cons $x #[$y,*])
@[reducible] noncomputable def B0(P:Pg)(n:Nat)(d:Fn)(e:Env)(h:Hs)(Q:Q1)(X:XQ):Prop:=wSs (wF P n) d.body e h (λ_ g=>Q .non g) Q (λ_ _=>False) (λ_ _=>False) λ_ c g=>X c g
variable {P:Pg}{n:Nat}{a0 a1 a2 a3 a4 a5 a6 a7:Val}{h:Hs}{Q:Q1}{X:XQ}
local macro_rules|`(↑$n:num)=>`(.cst (.int $n))
local macro_rules|`(⇑$n:num)=>`(.var $n)
instance To:Fn:={ar:=1,sz:=1,body:=#[.ret<|.and (.bi (.isi ["int"]) #[⇑0])<|.not<|.bi (.isi ["bool"]) #[⇑0]]}
instance Tr:Fn:={ar:=2,sz:=5,body:=#[.set (.one 2)<|.lst .nil,.for (.many [3,4]) (.enum<|.idx ⇑0 ↑1) #[.ite (.val<|.cmp .isin ⇑1<|.slc ⇑4 .none<|.some ↑2) #[.expr<|.bm .append ⇑2 #[.tup #[⇑3,.call "far_end" #[⇑4,⇑1],.idx ⇑4 ↑2]]] .nil],.ret ⇑2]}
instance Tn:Fn:={ar:=2,sz:=2,body:=#[.ret<|.ife (.val<|.cmp .eq (.idx ⇑0 ↑0) ⇑1) (.idx ⇑0 ↑1)<|.idx ⇑0 ↑0]}
instance T0:Fn:={ar:=1,sz:=5,body:=#[.set (.one 1)<|.lst .nil,.for (.many [2,3]) (.enum<|.idx (.meth "Yard" "net" ⇑0 .nil) ↑1) #[.set (.one 4)<|.meth "Yard" "ends" ⇑0 #[⇑2],.ite (.val<|.cmp .eq ⇑4<|.tup #[.cst<|.str "child",.cst<|.str "parent"]) #[.expr<|.bm .append ⇑1 #[.tup #[⇑2,.idx ⇑3 ↑0,.idx ⇑3 ↑1]]] #[.ite (.val<|.cmp .eq ⇑4<|.tup #[.cst<|.str "parent",.cst<|.str "child"]) #[.expr<|.bm .append ⇑1 #[.tup #[⇑2,.idx ⇑3 ↑1,.idx ⇑3 ↑0]]] .nil]],.ret ⇑1]}
instance Tv:Fn:={ar:=2,sz:=2,body:=#[.ret<|.cmp .gt (.idx ⇑0<|.glob "NUMBER"<|.int 0)<|.idx ⇑1<|.glob "NUMBER"<|.int 0]}
instance Tw:Fn:={ar:=2,sz:=3,body:=#[.set (.one 2)<|.comp [0] 1 (.one 0) (.seq ⇑1) (.val<|.cmp .lt (.idx ⇑0 ↑0) ⇑1) ⇑0,.ret<|.bi .minD #[⇑2]]}
instance SU:Fn:={ar:=5,sz:=8,body:=#[.setFld ⇑0 "number" ⇑1,.setFld ⇑0 "life" ⇑2,.setFld ⇑0 "age_let_go" ⇑4,.setFld ⇑0 "ties_by_place"<|.dct .nil,.for (.many [5,6,7]) (.seq ⇑3) #[.setIdx (.fld ⇑0 "ties_by_place") ⇑5<|.tup #[⇑6,⇑7]],.setFld ⇑0 "held_by_place"<|.dct .nil,.setFld ⇑0 "label_now"<|.tup #[⇑1,↑0,.cst .non,.cst .non],.setFld ⇑0 "version" ↑0,.setFld ⇑0 "ticks_had" ↑0]}
instance S4:Fn:={ar:=1,sz:=2,body:=#[.set (.one 1)<|.make "Bridge" #[.fld ⇑0 "number",.fld ⇑0 "life",.lst .nil,.fld ⇑0 "age_let_go"],.setFld ⇑1 "ties_by_place"<|.bi .dict #[.fld ⇑0 "ties_by_place"],.setFld ⇑1 "held_by_place"<|.bi .dict #[.fld ⇑0 "held_by_place"],.setFld ⇑1 "label_now"<|.fld ⇑0 "label_now",.setFld ⇑1 "version"<|.fld ⇑0 "version",.setFld ⇑1 "ticks_had"<|.fld ⇑0 "ticks_had",.ret ⇑1]}
instance SS:Fn:={ar:=1,sz:=1,body:=#[.ret<|.fld ⇑0 "label_now"]}
instance S1:Fn:={ar:=1,sz:=1,body:=#[.ret<|.tup #[.fld ⇑0 "life",.fld ⇑0 "version"]]}
instance SW:Fn:={ar:=2,sz:=2,body:=#[.ret<|.bm .dget (.fld ⇑0 "held_by_place") #[⇑1]]}
instance S5:Fn:={ar:=4,sz:=4,body:=#[.ite (.val<|.cmp .notin ⇑1<|.fld ⇑0 "ties_by_place") #[.setIdx (.fld ⇑0 "ties_by_place") ⇑1<|.tup #[⇑2,⇑3]] .nil]}
instance SZ:Fn:={ar:=2,sz:=2,body:=#[.expr<|.bm .dpopD (.fld ⇑0 "ties_by_place") #[⇑1,.cst .non],.expr<|.bm .dpopD (.fld ⇑0 "held_by_place") #[⇑1,.cst .non]]}
instance SX:Fn:={ar:=3,sz:=4,body:=#[.ite (.val<|.cmp .notin ⇑1<|.fld ⇑0 "ties_by_place") #[.retN] .nil,.set (.one 3)<|.meth "Bridge" "held" ⇑0 #[⇑1],.ite (.or (.val<|.cmp .is ⇑3<|.cst .non)<|.val<|.call "newer" #[⇑2,.idx ⇑3 ↑0]) #[.setIdx (.fld ⇑0 "held_by_place") ⇑1<|.tup #[⇑2,.idx ⇑2<|.glob "AGE"<|.int 4]] .nil]}
instance S3:Fn:={ar:=1,sz:=2,body:=#[.expr<|.meth "Bridge" "let_grow_older" ⇑0 .nil,.expr<|.meth "Bridge" "take_label" ⇑0 #[.meth "Bridge" "reckon_label" ⇑0 .nil],.set (.one 1)<|.comp [0] 1 (.one 0) (.seq<|.bi .sortedI #[.fld ⇑0 "ties_by_place"]) .yes<|.tup #[⇑0,.meth "Bridge" "letter_over" ⇑1 #[⇑0]],.augFld ⇑0 "ticks_had" .add 1,.ret ⇑1]}
instance ST:Fn:={ar:=1,sz:=4,body:=#[.set (.one 1)<|.dct .nil,.forI ff (.many [2,3]) (.fld ⇑0 "held_by_place") #[.ite (.val<|.cmp .lt (.bin .add (.idx ⇑3 ↑1) ↑1)<|.fld ⇑0 "age_let_go") #[.setIdx ⇑1 ⇑2<|.tup #[.idx ⇑3 ↑0,.bin .add (.idx ⇑3 ↑1) ↑1]] .nil],.setFld ⇑0 "held_by_place" ⇑1]}
instance S0:Fn:={ar:=1,sz:=8,body:=#[.set (.one 1)<|.lst .nil,.forI ff (.many [2,3]) (.fld ⇑0 "held_by_place") #[.set (.many [4,5])<|.idx (.fld ⇑0 "ties_by_place") ⇑2,.expr<|.bm .append ⇑1 #[.tup #[.idx (.idx ⇑3 ↑0)<|.glob "ROOT"<|.int 2,.bin .add (.idx (.idx ⇑3 ↑0)<|.glob "COST"<|.int 3) ⇑5,⇑4,⇑2]]],.set (.one 6)<|.call "best_offer" #[.fld ⇑0 "number",⇑1],.ite (.val<|.cmp .is ⇑6<|.cst .non) #[.ret<|.tup #[.fld ⇑0 "number",↑0,.cst .non,.cst .non]] .nil,.set (.many [7,5,4,2]) ⇑6,.ret<|.tup #[⇑7,⇑5,⇑2,.idx (.idx (.idx (.fld ⇑0 "held_by_place") ⇑2) ↑0)<|.glob "STAMP"<|.int 1]]}
instance S2:Fn:={ar:=2,sz:=2,body:=#[.ite (.val<|.cmp .ne ⇑1<|.fld ⇑0 "label_now") #[.setFld ⇑0 "label_now" ⇑1,.augFld ⇑0 "version" .add 1] .nil]}
instance SV:Fn:={ar:=2,sz:=8,body:=#[.set (.many [2,3,4,5])<|.fld ⇑0 "label_now",.set (.one 6)<|.ife (.val<|.cmp .is ⇑4<|.cst .non) ↑0<|.bin .add (.idx (.idx (.fld ⇑0 "held_by_place") ⇑4) ↑1) ↑1,.set (.one 7)<|.tup #[.tup #[.fld ⇑0 "life",.fld ⇑0 "ticks_had"],.meth "Bridge" "stamp" ⇑0 .nil,⇑2,⇑3,⇑6],.ite (.val<|.cmp .eq ⇑1 ⇑4) #[.ret<|.bin .add ⇑7<|.tup #[⇑5,.cst .non]] .nil,.ite (.val<|.meth "Bridge" "is_rested_on" ⇑0 #[⇑1]) #[.ret<|.bin .add ⇑7<|.tup #[.cst .non,.idx (.idx (.idx (.fld ⇑0 "held_by_place") ⇑1) ↑0)<|.glob "STAMP"<|.int 1]] .nil,.ret<|.bin .add ⇑7<|.tup #[.cst .non,.cst .non]]}
instance SR:Fn:={ar:=2,sz:=3,body:=#[.set (.one 2)<|.meth "Bridge" "held" ⇑0 #[⇑1],.ret<|.and (.cmp .isnot ⇑2<|.cst .non)<|.cmp .eq (.idx (.idx ⇑2 ↑0)<|.glob "RESTS"<|.int 5)<|.meth "Bridge" "stamp" ⇑0 .nil]}
instance SQ:Fn:={ar:=2,sz:=3,body:=#[.set (.one 2)<|.meth "Bridge" "held" ⇑0 #[⇑1],.ite (.or (.val<|.cmp .is ⇑2<|.cst .non)<|.val<|.cmp .ne (.idx (.idx ⇑2 ↑0)<|.glob "AGREES"<|.int 6)<|.meth "Bridge" "stamp" ⇑0 .nil) #[.ret<|.cst<|.bl ff] .nil,.ret<|.cmp .eq (.idx (.idx ⇑2 ↑0)<|.glob "STAMP"<|.int 1)<|.idx (.fld ⇑0 "label_now") ↑3]}
instance SY:Fn:={ar:=2,sz:=2,body:=#[.ite (.val<|.cmp .notin ⇑1<|.fld ⇑0 "ties_by_place") #[.ret<|.cst<|.str "down"] .nil,.ite (.val<|.cmp .eq ⇑1<|.idx (.fld ⇑0 "label_now") ↑2) #[.ret<|.ife (.val<|.meth "Bridge" "is_agreed_to" ⇑0 #[⇑1]) (.cst<|.str "child")<|.cst<|.str "shut"] .nil,.ret<|.ife (.val<|.meth "Bridge" "is_rested_on" ⇑0 #[⇑1]) (.cst<|.str "parent")<|.cst<|.str "shut"]}
instance TB:Fn:={ar:=3,sz:=4,body:=#[.setFld ⇑0 "net_made_of" ⇑1,.setFld ⇑0 "greatest_age" ⇑2,.setFld ⇑0 "lives"<|.dct .nil,.setFld ⇑0 "standing"<|.dct .nil,.setFld ⇑0 "ties_fallen"<|.dct .nil,.setFld ⇑0 "letters_on_road"<|.lst .nil,.for (.one 3) (.seq<|.idx ⇑1 ↑0) #[.setIdx (.fld ⇑0 "lives") ⇑3 ↑0,.setIdx (.fld ⇑0 "standing") ⇑3<|.make "Bridge" #[⇑3,↑0,.call "neighbours" #[⇑1,⇑3],⇑2]]]}
instance TV:Fn:={ar:=1,sz:=4,body:=#[.set (.one 1)<|.make "Yard" #[.fld ⇑0 "net_made_of",.fld ⇑0 "greatest_age"],.setFld ⇑1 "lives"<|.bi .dict #[.fld ⇑0 "lives"],.setFld ⇑1 "standing"<|.dct .nil,.forI ff (.many [2,3]) (.fld ⇑0 "standing") #[.setIdx (.fld ⇑1 "standing") ⇑2<|.meth "Bridge" "twin" ⇑3 .nil],.setFld ⇑1 "ties_fallen"<|.bi .dict #[.fld ⇑0 "ties_fallen"],.setFld ⇑1 "letters_on_road"<|.bi .list #[.fld ⇑0 "letters_on_road"],.ret ⇑1]}
instance TD:Fn:={ar:=1,sz:=1,body:=#[.ret<|.fld ⇑0 "net_made_of"]}
instance TN:Fn:={ar:=1,sz:=1,body:=#[.ret<|.fld ⇑0 "greatest_age"]}
instance TF:Fn:={ar:=1,sz:=1,body:=#[.ret<|.bi .list #[.fld ⇑0 "letters_on_road"]]}
instance TY:Fn:={ar:=1,sz:=2,body:=#[.set (.one 1)<|.comp [0] 1 (.one 0) (.seq<|.idx (.fld ⇑0 "net_made_of") ↑0) (.val<|.cmp .notin ⇑0<|.fld ⇑1 "standing") ⇑0,.ret<|.tup #[.bi .tuple #[⇑1],.bi .tuple #[.bi .sortedI #[.fld ⇑0 "ties_fallen"]]]]}
instance TC:Fn:={ar:=1,sz:=1,body:=#[.ret<|.comp [0] 1 (.one 0) (.seq<|.bi .sortedI #[.fld ⇑0 "standing"]) .yes<|.tup #[⇑0,.meth "Bridge" "label" (.idx (.fld ⇑1 "standing") ⇑0) .nil]]}
instance S8:Fn:={ar:=2,sz:=2,body:=#[.ret<|.bm .dget (.fld ⇑0 "standing") #[⇑1]]}
instance TW:Fn:={ar:=2,sz:=5,body:=#[.ite (.not<|.val<|.meth "Yard" "has_tie" ⇑0 #[⇑1]) #[.ret<|.tup #[.cst<|.str "down",.cst<|.str "down"]] .nil,.set (.many [2,3,4])<|.idx (.idx (.fld ⇑0 "net_made_of") ↑1) ⇑1,.ret<|.tup #[.meth "Yard" "end_at" ⇑0 #[⇑2,⇑1],.meth "Yard" "end_at" ⇑0 #[⇑3,⇑1]]]}
instance TX:Fn:={ar:=3,sz:=3,body:=#[.ite (.val<|.cmp .notin ⇑1<|.fld ⇑0 "standing") #[.ret<|.cst<|.str "down"] .nil,.ret<|.meth "Bridge" "end" (.idx (.fld ⇑0 "standing") ⇑1) #[⇑2]]}
instance TU:Fn:={ar:=2,sz:=2,body:=#[.ret<|.chain .le .lt ↑0 ⇑1<|.bi .len #[.idx (.fld ⇑0 "net_made_of") ↑1]]}
instance TZ:Fn:={ar:=2,sz:=4,body:=#[.set (.many [2,3])<|.call "read_deed" #[⇑1],.ite (.val<|.cmp .eq ⇑2<|.tup #[.cst<|.str "tick"]) #[.expr<|.meth "Yard" "tick_of" ⇑0 #[⇑3]] #[.ite (.val<|.cmp .eq ⇑2<|.tup #[.cst<|.str "come"]) #[.expr<|.meth "Yard" "come" ⇑0 #[⇑3]] #[.ite (.val<|.cmp .eq ⇑2<|.tup #[.cst<|.str "lost"]) #[.expr<|.meth "Yard" "take_off" ⇑0 #[⇑3]] #[.ite (.val<|.cmp .eq ⇑2<|.tup #[.cst<|.str "fall",.cst<|.str "bridge"]) #[.expr<|.meth "Yard" "fall_of_bridge" ⇑0 #[⇑3]] #[.ite (.val<|.cmp .eq ⇑2<|.tup #[.cst<|.str "fall",.cst<|.str "tie"]) #[.expr<|.meth "Yard" "fall_of_tie" ⇑0 #[⇑3]] #[.ite (.val<|.cmp .eq ⇑2<|.tup #[.cst<|.str "back",.cst<|.str "bridge"]) #[.expr<|.meth "Yard" "back_of_bridge" ⇑0 #[⇑3]] #[.expr<|.meth "Yard" "back_of_tie" ⇑0 #[⇑3]]]]]]]]}
instance TR:Fn:={ar:=2,sz:=5,body:=#[.ite (.val<|.cmp .notin ⇑1<|.fld ⇑0 "standing") #[.never] .nil,.for (.many [2,3]) (.seq<|.meth "Bridge" "tick" (.idx (.fld ⇑0 "standing") ⇑1) .nil) #[.set (.one 4)<|.call "far_end" #[.idx (.idx (.fld ⇑0 "net_made_of") ↑1) ⇑2,⇑1],.expr<|.bm .append (.fld ⇑0 "letters_on_road") #[.tup #[⇑1,⇑4,⇑2,⇑3]]]]}
instance S9:Fn:={ar:=2,sz:=6,body:=#[.set (.many [2,3,4,5])<|.meth "Yard" "take_off" ⇑0 #[⇑1],.ite (.val<|.cmp .isin ⇑3<|.fld ⇑0 "standing") #[.expr<|.meth "Bridge" "hear" (.idx (.fld ⇑0 "standing") ⇑3) #[⇑4,⇑5]] .nil]}
instance TQ:Fn:={ar:=2,sz:=2,body:=#[.ite (.not<|.val<|.chain .le .lt ↑0 ⇑1<|.bi .len #[.fld ⇑0 "letters_on_road"]) #[.never] .nil,.ret<|.bm .popAt (.fld ⇑0 "letters_on_road") #[⇑1]]}
instance TK:Fn:={ar:=2,sz:=2,body:=#[.ite (.val<|.cmp .notin ⇑1<|.fld ⇑0 "standing") #[.never] .nil,.expr<|.bm .dpop (.fld ⇑0 "standing") #[⇑1],.expr<|.meth "Yard" "set_ties_of" ⇑0 #[⇑1]]}
instance TM:Fn:={ar:=2,sz:=2,body:=#[.ite (.or (.not<|.val<|.meth "Yard" "has_tie" ⇑0 #[⇑1])<|.val<|.cmp .isin ⇑1<|.fld ⇑0 "ties_fallen") #[.never] .nil,.setIdx (.fld ⇑0 "ties_fallen") ⇑1<|.cst<|.bl fe,.expr<|.meth "Yard" "set_tie" ⇑0 #[⇑1]]}
instance S6:Fn:={ar:=2,sz:=2,body:=#[.ite (.or (.val<|.cmp .notin ⇑1<|.fld ⇑0 "lives")<|.val<|.cmp .isin ⇑1<|.fld ⇑0 "standing") #[.never] .nil,.augIdx (.fld ⇑0 "lives") ⇑1 .add 1,.setIdx (.fld ⇑0 "standing") ⇑1<|.make "Bridge" #[⇑1,.idx (.fld ⇑0 "lives") ⇑1,.lst .nil,.fld ⇑0 "greatest_age"],.expr<|.meth "Yard" "set_ties_of" ⇑0 #[⇑1]]}
instance S7:Fn:={ar:=2,sz:=2,body:=#[.ite (.val<|.cmp .notin ⇑1<|.fld ⇑0 "ties_fallen") #[.never] .nil,.expr<|.bm .dpop (.fld ⇑0 "ties_fallen") #[⇑1],.expr<|.meth "Yard" "set_tie" ⇑0 #[⇑1]]}
instance TL:Fn:={ar:=2,sz:=5,body:=#[.for (.many [2,3,4]) (.seq<|.call "neighbours" #[.fld ⇑0 "net_made_of",⇑1]) #[.expr<|.meth "Yard" "set_tie" ⇑0 #[⇑2]]]}
instance TH:Fn:={ar:=2,sz:=8,body:=#[.set (.many [2,3,4])<|.idx (.idx (.fld ⇑0 "net_made_of") ↑1) ⇑1,.set (.one 5)<|.and (.cmp .notin ⇑1<|.fld ⇑0 "ties_fallen")<|.and (.cmp .isin ⇑2<|.fld ⇑0 "standing")<|.cmp .isin ⇑3<|.fld ⇑0 "standing",.for (.many [6,7]) (.seq<|.tup #[.tup #[⇑2,⇑3],.tup #[⇑3,⇑2]]) #[.ite (.val ⇑5) #[.expr<|.meth "Bridge" "up" (.idx (.fld ⇑0 "standing") ⇑6) #[⇑1,⇑7,⇑4]] #[.ite (.val<|.cmp .isin ⇑6<|.fld ⇑0 "standing") #[.expr<|.meth "Bridge" "down" (.idx (.fld ⇑0 "standing") ⇑6) #[⇑1]] .nil]]]}
instance T4:Fn:={ar:=3,sz:=5,body:=#[.set (.one 3)<|.make "Yard" #[⇑0,⇑1],.for (.one 4) (.seq ⇑2) #[.expr<|.meth "Yard" "deed" ⇑3 #[⇑4]],.ret ⇑3]}
instance T3:Fn:={ar:=2,sz:=3,body:=#[.set (.one 2)<|.meth "Yard" "twin" ⇑0 .nil,.expr<|.meth "Yard" "deed" ⇑2 #[⇑1],.ret ⇑2]}
instance T1:Fn:={ar:=1,sz:=2,body:=#[.ite (.not<|.val<|.bi (.isi ["tuple"]) #[⇑0]) #[.never] .nil,.set (.one 1)<|.slc ⇑0 .none<|.some<|.neg ↑1,.ite (.or (.not<|.val<|.bi .all #[.comp [] 1 (.one 0) (.seq ⇑1) .yes<|.bi (.isi ["str"]) #[⇑0]])<|.val<|.cmp .notin ⇑1<|.glob "DEEDS"<|.tup [(.tup [(.str "tick")]),(.tup [(.str "come")]),(.tup [(.str "lost")]),(.tup [(.str "fall"),(.str "bridge")]),(.tup [(.str "fall"),(.str "tie")]),(.tup [(.str "back"),(.str "bridge")]),(.tup [(.str "back"),(.str "tie")])]) #[.never] .nil,.ite (.not<|.val<|.call "is_whole" #[.idx ⇑0<|.neg ↑1]) #[.never] .nil,.ret<|.tup #[⇑1,.idx ⇑0<|.neg ↑1]]}
instance Tx:Fn:={ar:=5,sz:=5,body:=#[.ret<|.call "counts_behind" #[.call "yard_behind" #[⇑0,⇑1,⇑2],⇑3,⇑4]]}
instance Tj:Fn:={ar:=3,sz:=5,body:=#[.ite (.val<|.cmp .eq ⇑1 ↑0) #[.ret<|.bin .add (.bin .mul (.lst #[↑0])<|.bi .len #[.call "open_ways" #[⇑0]])<|.lst #[↑1]] .nil,.set (.one 3)<|.lst .nil,.for (.one 4) (.seq<|.call "deeds_of_now" #[⇑0,⇑2]) #[.set (.one 3)<|.call "added" #[⇑3,.call "counts_behind" #[.call "twin_behind" #[⇑0,⇑4],.bin .sub ⇑1 ↑1,⇑2]]],.ret ⇑3]}
instance Tz:Fn:={ar:=2,sz:=5,body:=#[.set (.many [2,3])<|.ife (.val<|.cmp .gt (.bi .len #[⇑0])<|.bi .len #[⇑1]) (.tup #[⇑0,⇑1])<|.tup #[⇑1,⇑0],.set (.one 4)<|.comp [] 2 (.many [0,1]) (.zip ⇑2 ⇑3) .yes<|.bin .add ⇑0 ⇑1,.ret<|.bin .add ⇑4<|.slc ⇑2 (.some<|.bi .len #[⇑3]) .none]}
instance Tk:Fn:={ar:=2,sz:=4,body:=#[.set (.one 2)<|.comp [] 2 (.many [0,1]) (.seq<|.meth "Yard" "labels" ⇑0 .nil) .yes<|.tup #[.cst<|.str "tick",⇑0],.for (.one 3) (.seq<|.tup #[.cst<|.str "come",.cst<|.str "lost"]) #[.expr<|.bm .extend ⇑2 #[.comp [3] 2 (.many [0,1]) (.enumL<|.meth "Yard" "road" ⇑0 .nil) .yes<|.tup #[⇑2,⇑0]]],.ret<|.ife (.val ⇑1) (.bin .add ⇑2<|.call "falls_and_backs" #[⇑0]) ⇑2]}
instance Tm:Fn:={ar:=1,sz:=6,body:=#[.set (.one 1)<|.meth "Yard" "net" ⇑0 .nil,.set (.many [2,3])<|.meth "Yard" "down" ⇑0 .nil,.set (.one 4)<|.comp [2] 1 (.one 0) (.seq<|.idx ⇑1 ↑0) (.val<|.cmp .notin ⇑0 ⇑1)<|.tup #[.cst<|.str "fall",.cst<|.str "bridge",⇑0],.expr<|.bm .extend ⇑4 #[.comp [3] 1 (.one 0) (.range<|.bi .len #[.idx ⇑1 ↑1]) (.val<|.cmp .notin ⇑0 ⇑1)<|.tup #[.cst<|.str "fall",.cst<|.str "tie",⇑0]],.set (.one 5)<|.comp [] 1 (.one 0) (.seq ⇑2) .yes<|.tup #[.cst<|.str "back",.cst<|.str "bridge",⇑0],.ret<|.bin .add (.bin .add ⇑4 ⇑5)<|.comp [] 1 (.one 0) (.seq ⇑3) .yes<|.tup #[.cst<|.str "back",.cst<|.str "tie",⇑0]]}
instance Te:Fn:={ar:=2,sz:=3,body:=#[.set (.one 2)<|.bin .mod (.bin .add (.bin .mod ⇑0 ↑2147483647)<|.bin .mul ↑40692<|.bin .add ⇑1 ↑1) ↑2147483647,.set (.one 2)<|.bin .mod (.bin .add (.bin .add (.bin .mul ⇑2 ⇑2)<|.bin .mul ↑48271 ⇑2) ⇑1) ↑2147483647,.set (.one 2)<|.bin .mod (.bin .mul ⇑2 ⇑2) ↑2147483629,.ret<|.bin .fdiv (.bin .mod (.bin .mul ⇑2 ↑69621) ↑2147483629) ↑8]}
instance Ti:Fn:={ar:=4,sz:=9,body:=#[.set (.one 4)<|.pick ⇑0 (.some ⇑1) (.some ↑126) ⇑2,.ite (.val<|.cmp .eqE ⇑4<|.lst .nil) #[.set (.one 4)<|.lst #[⇑1]] .nil,.set (.one 5)<|.comp [] 1 (.one 0) (.seq ⇑4) .yes<|.bin .mul (.bi .abs #[⇑0])<|.bi .int #[.cmp .ge (.bi .abs #[⇑0])<|.bin .pow ↑10 ↑18],.set (.one 6)<|.lst .nil,.for (.one 7) (.range ⇑3) #[.set (.one 8)<|.bin .mod ⇑7<|.bi .len #[⇑4],.ite (.val<|.cmp .gt (.idx ⇑5 ⇑8) ↑0) #[.expr<|.bm .append ⇑6 #[.bin .mod (.idx ⇑5 ⇑8) ↑1000003],.setIdx ⇑5 ⇑8<|.bin .fdiv (.idx ⇑5 ⇑8) ↑1000003] #[.expr<|.bm .append ⇑6 #[.call "_law_mixed" #[.idx ⇑4 ⇑8,.bin .fdiv ⇑7<|.bi .len #[⇑4]]]]],.ret<|.bi .listRev #[⇑6]]}
instance Tg:Fn:={ar:=1,sz:=1,body:=#[.ite (.val<|.cmp .eqE ⇑0<|.lst .nil) #[.ret ↑0] .nil,.ret<|.bm .pop ⇑0 .nil]}
instance Tf:Fn:={ar:=2,sz:=9,body:=#[.set (.one 2)<|.lst .nil,.for (.one 3) (.range<|.bin .add ↑2<|.bin .mod (.call "_law_next" #[⇑0])<|.bin .sub ⇑1 ↑1) #[.set (.one 4)<|.bin .mod (.call "_law_next" #[⇑0])<|.idx (.lst #[↑5,↑1000])<|.bin .mod (.call "_law_next" #[⇑0]) ↑2,.ite (.val<|.cmp .notin ⇑4 ⇑2) #[.expr<|.bm .append ⇑2 #[⇑4]] .nil],.set (.one 5)<|.lst .nil,.for (.one 3) (.range2 ↑1<|.bi .len #[⇑2]) #[.ite (.val<|.cmp .gt (.bin .mod (.call "_law_next" #[⇑0]) ↑6) ↑0) #[.expr<|.bm .append ⇑5 #[.tup #[.idx ⇑2<|.bin .sub ⇑3 ↑1,.idx ⇑2 ⇑3]]] .nil],.for (.one 3) (.range<|.bin .mod (.call "_law_next" #[⇑0]) ↑3) #[.expr<|.bm .append ⇑5 #[.tup #[.idx ⇑2<|.bin .mod (.call "_law_next" #[⇑0])<|.bi .len #[⇑2],.idx ⇑2<|.bin .mod (.call "_law_next" #[⇑0])<|.bi .len #[⇑2]]]],.set (.one 6)<|.lst .nil,.for (.many [7,8]) (.seq ⇑5) #[.ite (.val<|.cmp .ne ⇑7 ⇑8) #[.expr<|.bm .append ⇑6 #[.tup #[.bi .min2 #[⇑7,⇑8],.bi .max2 #[⇑7,⇑8],.bin .add ↑1<|.bin .mod (.call "_law_next" #[⇑0])<|.idx (.lst #[↑3,↑1000])<|.bin .mod (.call "_law_next" #[⇑0]) ↑2]]] .nil],.ret<|.tup #[.bi .tuple #[.bi .sortedI #[⇑2]],.bi .tuple #[⇑6]]]}
instance Th:Fn:={ar:=2,sz:=7,body:=#[.set (.many [2,3])<|.meth "Yard" "down" ⇑0 .nil,.set (.one 4)<|.comp [2] 1 (.one 0) (.seq<|.idx (.meth "Yard" "net" ⇑0 .nil) ↑0) (.val<|.cmp .notin ⇑0 ⇑1)<|.tup #[.cst<|.str "tick",⇑0],.for (.one 5) (.seq<|.lst #[.cst<|.str "come",.cst<|.str "lost"]) #[.set (.one 4)<|.bin .add ⇑4<|.comp [5] 1 (.one 0) (.range<|.bi .len #[.meth "Yard" "road" ⇑0 .nil]) .yes<|.tup #[⇑1,⇑0]],.ite (.val ⇑1) #[.set (.one 6)<|.bi .listRange #[.bi .len #[.idx (.meth "Yard" "net" ⇑0 .nil) ↑1]],.set (.one 4)<|.bin .add ⇑4<|.comp [2] 1 (.one 0) (.seq<|.idx (.meth "Yard" "net" ⇑0 .nil) ↑0) (.val<|.cmp .notin ⇑0 ⇑1)<|.tup #[.cst<|.str "fall",.cst<|.str "bridge",⇑0],.set (.one 4)<|.bin .add ⇑4<|.comp [3] 1 (.one 0) (.seq ⇑6) (.val<|.cmp .notin ⇑0 ⇑1)<|.tup #[.cst<|.str "fall",.cst<|.str "tie",⇑0],.set (.one 4)<|.bin .add ⇑4<|.comp [] 1 (.one 0) (.seq ⇑2) .yes<|.tup #[.cst<|.str "back",.cst<|.str "bridge",⇑0],.set (.one 4)<|.bin .add ⇑4<|.comp [] 1 (.one 0) (.seq ⇑3) .yes<|.tup #[.cst<|.str "back",.cst<|.str "tie",⇑0]] .nil,.ret ⇑4]}
instance Tq:Fn:={ar:=3,sz:=5,body:=#[.set (.one 3)<|.make "Yard" #[⇑0,⇑1],.for (.one 4) (.seq ⇑2) #[.expr<|.meth "Yard" "deed" ⇑3 #[⇑4]],.ret ⇑3]}
instance Ta:Fn:={ar:=3,sz:=10,body:=#[.set (.one 3)<|.make "Yard" #[⇑0,⇑1],.set (.one 4)<|.lst .nil,.for (.one 5) (.range<|.idx (.lst #[↑0,↑1,↑2,↑3,↑3])<|.bin .mod (.call "_law_next" #[⇑2]) ↑5) #[.set (.one 6)<|.comp [] 1 (.one 0) (.seq<|.idx ⇑0 ↑0) .yes<|.tup #[.cst<|.str "tick",⇑0],.for (.one 7) (.seq ⇑6) #[.expr<|.meth "Yard" "deed" ⇑3 #[⇑7]],.set (.one 8)<|.comp [] 1 (.one 0) (.seq<|.meth "Yard" "road" ⇑3 .nil) .yes<|.tup #[.cst<|.str "come",↑0],.for (.one 7) (.seq ⇑8) #[.expr<|.meth "Yard" "deed" ⇑3 #[⇑7]],.set (.one 4)<|.bin .add (.bin .add ⇑4 ⇑6) ⇑8],.for (.one 5) (.range<|.bin .mod (.call "_law_next" #[⇑2]) ↑5) #[.set (.one 9)<|.call "_law_options" #[⇑3,.cmp .eq (.bin .mod (.call "_law_next" #[⇑2]) ↑3) ↑0],.ite (.val<|.cmp .neE ⇑9<|.lst .nil) #[.set (.one 7)<|.idx ⇑9<|.bin .mod (.call "_law_next" #[⇑2])<|.bi .len #[⇑9],.expr<|.meth "Yard" "deed" ⇑3 #[⇑7],.expr<|.bm .append ⇑4 #[⇑7]] .nil],.ret ⇑4]}
instance Tp:Fn:={ar:=1,sz:=3,body:=#[.set (.one 1)<|.bin .mod (.call "_law_next" #[⇑0]) ↑999,.set (.one 2)<|.bin .add (.bin .add ⇑1 ↑1)<|.bin .mod (.call "_law_next" #[⇑0])<|.bin .sub ↑999 ⇑1,.ret<|.tup #[.tup #[⇑1,⇑2],.tup #[.tup #[⇑1,⇑2,.bin .add ↑1<|.bin .mod (.call "_law_next" #[⇑0]) ↑1000]]]]}
instance Td:Fn:={ar:=1,sz:=8,body:=#[.set (.one 1)<|.bin .mod (.call "_law_next" #[⇑0]) ↑8,.ite (.val<|.cmp .isin ⇑1<|.tup #[↑1,↑2]) #[.set (.one 2)<|.call "_law_two" #[⇑0],.set (.one 3)<|.lst #[.tup #[.cst<|.str "tick",.idx (.idx ⇑2 ↑0) ↑0],.tup #[.cst<|.str "tick",.idx (.idx ⇑2 ↑0) ↑1],.tup #[.cst<|.str "come",↑0],.tup #[.cst<|.str "come",↑0]],.ite (.val<|.cmp .eq ⇑1 ↑1) #[.ret<|.tup #[⇑2,.bin .add ↑4<|.bin .mod (.call "_law_next" #[⇑0]) ↑197,.cst<|.bl ff,⇑3,↑4,↑160]] .nil,.set (.one 4)<|.bin .add ↑4<|.bin .mod (.call "_law_next" #[⇑0]) ↑25,.set (.one 5)<|.idx (.idx ⇑2 ↑0)<|.bin .mod (.call "_law_next" #[⇑0]) ↑2,.set (.one 6)<|.bin .mul (.lst #[.tup #[.cst<|.str "tick",⇑5],.tup #[.cst<|.str "lost",↑0]])<|.bin .add (.bin .sub ⇑4 ↑4)<|.bin .mod (.call "_law_next" #[⇑0]) ↑5,.ret<|.tup #[⇑2,⇑4,.cmp .eq (.bin .mod (.call "_law_next" #[⇑0]) ↑2) ↑1,.bin .add (.bin .mul ⇑3 ↑3) ⇑6,.bin .mod (.call "_law_next" #[⇑0]) ↑3,↑32]] .nil,.set (.one 2)<|.call "_law_net" #[⇑0,↑4],.set (.one 2)<|.tup #[.idx ⇑2 ↑0,.slc (.idx ⇑2 ↑1) .none<|.some ↑4],.set (.one 4)<|.bin .add ↑4<|.bin .mod (.call "_law_next" #[⇑0])<|.idx (.lst #[↑20,↑197])<|.bin .mod (.call "_law_next" #[⇑0]) ↑2,.set (.one 7)<|.cmp .eq (.bin .mod (.call "_law_next" #[⇑0]) ↑2) ↑1,.ret<|.tup #[⇑2,⇑4,⇑7,.call "_law_ahead" #[⇑2,⇑4,⇑0],.bin .mod (.call "_law_next" #[⇑0]) ↑5,↑32]]}
instance Tl:Fn:={ar:=6,sz:=11,body:=#[.set (.one 6)<|.lst #[.lst .nil],.for (.one 7) (.range ⇑4) #[.set (.one 8)<|.lst .nil,.for (.one 9) (.seq ⇑6) #[.ite (.val<|.cmp .le (.bi .len #[⇑8]) ⇑5) #[.set (.one 10)<|.call "_law_options" #[.call "_law_yard" #[⇑0,⇑1,.bin .add ⇑2 ⇑9],⇑3],.set (.one 8)<|.bin .add ⇑8<|.comp [9] 1 (.one 0) (.seq ⇑10) .yes<|.bin .add ⇑1<|.lst #[⇑0]] .nil],.ite (.val<|.cmp .gt (.bi .len #[⇑8]) ⇑5) #[.ret<|.tup #[⇑7,⇑6]] .nil,.set (.one 6) ⇑8],.ret<|.tup #[⇑4,⇑6]]}
instance Tc:Fn:={ar:=2,sz:=3,body:=#[.ite (.or (.not<|.val<|.bi (.isi ["list"]) #[⇑0])<|.val<|.cmp .ne (.bi .len #[⇑0])<|.bi .len #[⇑1]) #[.ret<|.cst<|.bl ff] .nil,.for (.one 2) (.range<|.bi .len #[⇑1]) #[.ite (.or (.not<|.val<|.bi (.isi ["int"]) #[.idx ⇑0 ⇑2])<|.or (.val<|.bi (.isi ["bool"]) #[.idx ⇑0 ⇑2])<|.val<|.cmp .ne (.idx ⇑0 ⇑2)<|.idx ⇑1 ⇑2) #[.ret<|.cst<|.bl ff] .nil],.ret<|.cst<|.bl fe]}
instance Tu:Fn:={ar:=1,sz:=15,body:=#[.set (.one 1)<|.call "_law_purse" #[⇑0,↑0,↑1,↑60],.set (.many [2,3,4,5,6,7])<|.call "_law_case" #[⇑1],.set (.many [8,9])<|.call "_law_rows" #[⇑2,⇑3,⇑5,⇑4,⇑6,⇑7],.set (.one 10)<|.lst .nil,.for (.one 11) (.seq ⇑9) #[.set (.one 12)<|.bi .len #[.call "open_ways" #[.call "_law_yard" #[⇑2,⇑3,.bin .add ⇑5 ⇑11]]],.set (.one 10)<|.bin .add ⇑10<|.comp [] 1 (.one 0) (.range2 (.bi .len #[⇑10])<|.bin .add ⇑12 ↑1) .yes ↑0,.setIdx ⇑10 ⇑12<|.bin .add (.idx ⇑10 ⇑12) ↑1],.set (.one 13)<|.bi .list #[⇑5],.set (.one 14)<|.call "all_rows" #[⇑2,⇑3,⇑13,⇑8,⇑4],.ite (.or (.not<|.val<|.call "_law_alike" #[⇑14,⇑10])<|.val<|.cmp .ne ⇑13 ⇑5) #[.ret<|.cst<|.bl ff] .nil,.expr<|.bm .append ⇑14 #[↑1],.ret<|.call "_law_alike" #[.call "all_rows" #[⇑2,⇑3,⇑13,⇑8,⇑4],⇑10]]}
class Al(P:Pg):Prop where
 c0:P "is_whole" = fb To
 c1:P "neighbours" = fb Tr
 c2:P "far_end" = fb Tn
 c3:P "open_ways" = fb T0
 c4:P "newer" = fb Tv
 c5:P "best_offer" = fb Tw
 c6:P "Bridge.__init__" = fb SU
 c7:P "Bridge.twin" = fb S4
 c8:P "Bridge.label" = fb SS
 c9:P "Bridge.stamp" = fb S1
 c10:P "Bridge.held" = fb SW
 c11:P "Bridge.up" = fb S5
 c12:P "Bridge.down" = fb SZ
 c13:P "Bridge.hear" = fb SX
 c14:P "Bridge.tick" = fb S3
 c15:P "Bridge.let_grow_older" = fb ST
 c16:P "Bridge.reckon_label" = fb S0
 c17:P "Bridge.take_label" = fb S2
 c18:P "Bridge.letter_over" = fb SV
 c19:P "Bridge.is_rested_on" = fb SR
 c20:P "Bridge.is_agreed_to" = fb SQ
 c21:P "Bridge.end" = fb SY
 c22:P "Yard.__init__" = fb TB
 c23:P "Yard.twin" = fb TV
 c24:P "Yard.net" = fb TD
 c25:P "Yard.greatest" = fb TN
 c26:P "Yard.road" = fb TF
 c27:P "Yard.down" = fb TY
 c28:P "Yard.labels" = fb TC
 c29:P "Yard.bridge" = fb S8
 c30:P "Yard.ends" = fb TW
 c31:P "Yard.end_at" = fb TX
 c32:P "Yard.has_tie" = fb TU
 c33:P "Yard.deed" = fb TZ
 c34:P "Yard.tick_of" = fb TR
 c35:P "Yard.come" = fb S9
 c36:P "Yard.take_off" = fb TQ
 c37:P "Yard.fall_of_bridge" = fb TK
 c38:P "Yard.fall_of_tie" = fb TM
 c39:P "Yard.back_of_bridge" = fb S6
 c40:P "Yard.back_of_tie" = fb S7
 c41:P "Yard.set_ties_of" = fb TL
 c42:P "Yard.set_tie" = fb TH
 c43:P "yard_behind" = fb T4
 c44:P "twin_behind" = fb T3
 c45:P "read_deed" = fb T1
 c46:P "all_rows" = fb Tx
 c47:P "counts_behind" = fb Tj
 c48:P "added" = fb Tz
 c49:P "deeds_of_now" = fb Tk
 c50:P "falls_and_backs" = fb Tm
 c51:P "_law_mixed" = fb Te
 c52:P "_law_purse" = fb Ti
 c53:P "_law_next" = fb Tg
 c54:P "_law_net" = fb Tf
 c55:P "_law_options" = fb Th
 c56:P "_law_yard" = fb Tq
 c57:P "_law_ahead" = fb Ta
 c58:P "_law_two" = fb Tp
 c59:P "_law_case" = fb Td
 c60:P "_law_rows" = fb Tl
 c61:P "_law_alike" = fb Tc
 c62:P "law" = fb Tu
set_option hygiene false in
local macro_rules|`(#check $r:ident $c:ident $d:ident $s:str $a:num $z:num)=>do
 let v:=(Array.range a.getNat).map λi=>Lean.mkIdent (.mkSimple s!"a{i}")
 let e<-(Array.range z.getNat).mapM λi=>if i<a.getNat then `(fb $(v[i]!))else`(fc)
 `(theorem $r [Al P](q:B0 P n $d [$e,*] h Q X):wF P (n+1) $s [$v,*] h Q X:=Zc $c rfl q)
#check Ot Al.c0 To "is_whole" 1 1
#check ME Al.c1 Tr "neighbours" 2 5
#check A1 Al.c2 Tn "far_end" 2 2
#check N4 Al.c3 T0 "open_ways" 1 5
#check F3 Al.c4 Tv "newer" 2 2
#check MZ Al.c5 Tw "best_offer" 2 3
#check Kn Al.c6 SU "Bridge.__init__" 5 8
#check Kx Al.c7 S4 "Bridge.twin" 1 2
#check Kc Al.c8 SS "Bridge.label" 1 1
#check JJ Al.c9 S1 "Bridge.stamp" 1 1
#check Kl Al.c10 SW "Bridge.held" 2 2
#check Np Al.c11 S5 "Bridge.up" 4 4
#check Kj Al.c12 SZ "Bridge.down" 2 2
#check Ku Al.c13 SX "Bridge.hear" 3 4
#check Ki Al.c14 S3 "Bridge.tick" 1 2
#check YD Al.c15 ST "Bridge.let_grow_older" 1 4
#check YY Al.c16 S0 "Bridge.reckon_label" 1 8
#check Xy Al.c17 S2 "Bridge.take_label" 2 2
#check Xd Al.c18 SV "Bridge.letter_over" 2 8
#check YZ Al.c19 SR "Bridge.is_rested_on" 2 3
#check YW Al.c20 SQ "Bridge.is_agreed_to" 2 3
#check Mu Al.c21 SY "Bridge.end" 2 2
#check N1 Al.c22 TB "Yard.__init__" 3 4
#check NF Al.c23 TV "Yard.twin" 1 4
#check OH Al.c24 TD "Yard.net" 1 1
#check Nt Al.c26 TF "Yard.road" 1 1
#check N6 Al.c27 TY "Yard.down" 1 2
#check Ky Al.c28 TC "Yard.labels" 1 1
#check M8 Al.c30 TW "Yard.ends" 2 5
#check Kq Al.c31 TX "Yard.end_at" 3 3
#check Xk Al.c32 TU "Yard.has_tie" 2 2
#check NK Al.c33 TZ "Yard.deed" 2 4
#check J7 Al.c34 TR "Yard.tick_of" 2 5
#check WS Al.c35 S9 "Yard.come" 2 6
#check WW Al.c36 TQ "Yard.take_off" 2 2
#check YX Al.c37 TK "Yard.fall_of_bridge" 2 2
#check XJ Al.c38 TM "Yard.fall_of_tie" 2 2
#check YV Al.c39 S6 "Yard.back_of_bridge" 2 2
#check XG Al.c40 S7 "Yard.back_of_tie" 2 2
#check XI Al.c41 TL "Yard.set_ties_of" 2 5
#check Jr Al.c42 TH "Yard.set_tie" 2 8
#check Km Al.c43 T4 "yard_behind" 3 5
#check Kz Al.c44 T3 "twin_behind" 2 3
#check NM Al.c45 T1 "read_deed" 1 2
#check O7 Al.c46 Tx "all_rows" 5 5
#check YT Al.c47 Tj "counts_behind" 3 5
#check ET Al.c48 Tz "added" 2 5
#check JR Al.c49 Tk "deeds_of_now" 2 4
#check X6 Al.c50 Tm "falls_and_backs" 1 6
#check Nl Al.c51 Te "_law_mixed" 2 3
#check Ni Al.c52 Ti "_law_purse" 4 9
#check Ou Al.c53 Tg "_law_next" 1 1
#check A3 Al.c54 Tf "_law_net" 2 9
#check Kv Al.c55 Th "_law_options" 2 7
#check OI Al.c56 Tq "_law_yard" 3 5
#check M7 Al.c57 Ta "_law_ahead" 3 10
#check Bv Al.c58 Tp "_law_two" 1 3
#check OA Al.c59 Td "_law_case" 1 8
#check Om Al.c60 Tl "_law_rows" 6 11
#check NI Al.c61 Tc "_law_alike" 2 3
#check Re Al.c62 Tu "law" 1 15
local macro_rules|`(#[$x])=>`(.cons $x .nil)|`(#[$x,$y,*])=>`(.cons $x #[$y,*])
local macro_rules | `(tactic| walk_at "ne")=>`(tactic| first | assumption | (apply Ne.symm; assumption) | ((with_reducible apply ne_none'); (· assumption); (· walk_at "look")) | (apply Ne.symm; (with_reducible apply ne_none'); (· assumption); (· walk_at "look")))
local macro_rules | `(tactic| walk_at "look")=>`(tactic| first | assumption | with_reducible exact fh | ((with_reducible apply upd_ne'); (· walk_at "ne"); (· walk_at "look")) | ((with_reducible apply Ext.get); (· assumption); (· walk_at "look")) | ((with_reducible apply ExtB.get); (· assumption); (· walk_at "ne"); (· walk_at "look")))
local macro_rules | `(tactic| walk_at "ar")=>`(tactic| first | decide | lia | assumption | (simp only [Ð,Ĉ]; decide))
local macro_rules | `(tactic| walk_at "mul")=>`(tactic| first | exact .inl (.inr<|by lia) | exact .inl (.inl<|by lia) | exact .inr ⟨by decide,by decide⟩)
local macro_rules | `(tactic| walk_at "setl")=>`(tactic| first | (simp only [Ķ,ς,Δ,ē,bh,ţ,ϱ]; done) | (simp only [Ķ,ς,Δ,ē,bh,ţ,ϱ]; exact rfl) | exact rfl)
local macro_rules | `(tactic| walk_at "w")=>`(tactic| with_reducible conv=>whnf)
local macro_rules | `(tactic| walk_at "py1")=>do
 let a<-[`dw0,`ab_int,`b_add,`b_sub,`g_int,`g_bl,`g_ref,`g_tbl,`c_lt,`c_gt,`c_le,`c_ge,`c_eqI,`c_neI,`c_isN,`c_notN,`ag_add,`ln_tup,`in_bl,`mn2,`mx2,`it_tup].toArray.mapM λn=>`(tactic| refine $(Lean.mkIdent n) ?_)
 let c<-[`ln_lst,`tp_lst,`ls_lst,`sl_lst,`it_lst,`dc_of].toArray.mapM λn=>`(tactic| ((with_reducible apply $(Lean.mkIdent n)); (· walk_at "look")))
 `(tactic| first
 |(with_reducible first $[| $a:tactic]*)
 |((with_reducible apply Rm);(· exact rfl))
 |((with_reducible apply O2);(· walk_at "setl"))|((with_reducible apply Pn);(· (simp![bindL,ţ,ϱ];exact rfl)))|((with_reducible apply b_mul);(· walk_at "mul"))|((with_reducible apply b_fdiv);(· walk_at "ar"))|((with_reducible apply b_mod);(· walk_at "ar"))|((with_reducible apply Ip);(· walk_at "ar");(· simp![Int.reduceToNat,Int.reducePow];exact rfl))|((with_reducible apply ZE);(· walk_at "look");(· walk_at "look");(· first|(simp![Ÿ,aT,Ð,Ĉ];decide)|lia))|((with_reducible apply Ie);(· walk_at "ar"))
 |((with_reducible apply fm);(· exact rfl))|((with_reducible apply ZA);(· walk_at "look");(· exact rfl))
 |((with_reducible apply Ud);(· walk_at "look");(· exact rfl))|((with_reducible apply ZT);(· walk_at "look");(· walk_at "ar"))|((with_reducible apply HQ);(· walk_at "look");(· exact rfl))|((with_reducible apply IQ);(· walk_at "look");(· exact rfl))
 |((with_reducible apply Ru);(· exact rfl))|((with_reducible apply f7);(· decide))
 | ((with_reducible apply L3);(· first | exact .inl rfl | exact .inr (.inl rfl) | simp);(· walk_at "look")) | ((with_reducible apply Lu);(· first | exact rfl | simp);(· walk_at "look")) | ((with_reducible apply Zv);(· walk_at "look");(· walk_at "ar")) | (first $[| $c:tactic]*))
local macro_rules | `(tactic| fail)=>`(tactic| ((repeat walk_at "py1"); walk_at "w"))
local macro_rules | `(tactic| walk_at "p")=>`(tactic| ((repeat first | walk_at "py1" | refine f8 rfl ?_ | refine f9 rfl ?_); walk_at "w"))
local macro_rules | `(tactic| exists $e)=>`(tactic| (fail; refine $e ?_))
local macro_rules | `(tactic| refine' $e)=>`(tactic| (fail; refine $e))
section
variable {α:Type}(val:α->Val)
abbrev Zh(kvs:List<|Int×α):List<|Val×Val:=kvs.map λp=>(.int p.1,val p.2)
abbrev ZB(kvs:List<|Int×α)(k:Int)(v:α):List<|Int×α:=if(kvs.lookup k).isSome then kvs.map (λp=>if p.1=k then(k,v)else p)else kvs++[(k,v)]
abbrev Zz(kvs:List<|Int×α)(k:Int):List<|Int×α:=kvs.filter λp=>gM (p.1≠k)
variable {val}
def W7(a b:Int):(Val.int a==Val.int b)=gM (a=b):=by
 by_cases e:a=b
 .subst e;simp
 .rw[gH e];exact beq_eq_false_iff_ne.mpr λz=>e (by injection z)
def Yh(kvs:List<|Int×α)(k:Int):fI (Zh val kvs) (.int k)=(kvs.lookup k).map val:=by
 induction kvs with
 |nil=>rfl
 |cons p r ih =>
  unfold fI Zh at ih ⊢;rw[Ó,ę,õ,W7];by_cases e:p.1=k
  .have:(k==p.1)=fe:=by simp[e]
   simp[e]
  .have h2:(k==p.1)=ff:=by simpa using λz=>e z.symm
   rw[gH e,h2];exact ih
def YU(kvs:List<|Int×α)(k:Int):fJ (Zh val kvs) (.int k)=(kvs.lookup k).isSome:=by
 induction kvs with
 |nil=>rfl
 |cons p r ih =>
  unfold fJ Zh at ih ⊢;rw[Ó,ı,õ,W7];by_cases e:p.1=k
  .simp[e]
  .have h2:(k==p.1)=ff:=by simpa using λz=>e z.symm
   rw[gH e,h2];exact ih
def Z3(kvs:List<|Int×α)(k:Int)(v:α):fK (Zh val kvs) (.int k) (val v)=Zh val (ZB kvs k v):=by
 unfold fK ZB;rw[YU];split
 .unfold Zh;rw[ä,ä];refine Ď λp _=>?_;simp![bS,W7];by_cases e:p.1=k
  .simp[e]
  .simp[e]
 .unfold Zh;rw[Ì];rfl
def X1(kvs:List<|Int×α)(k:Int):fL (Zh val kvs) (.int k)=Zh val (Zz kvs k):=by
 unfold fL Zz Zh;induction kvs with
 |nil=>rfl
 |cons p r ih =>rw[Ó,ħ,ħ,W7,ih];by_cases e:p.1=k<;>simp[e]
def Wi(ns:List Int):fo (ns.map Val.int)=fb ns:=by
 induction ns with
 |nil=>rfl
 |cons n ns ih=>show(fo<|ns.map Val.int).map _=_;rw[ih];rfl
def Cm(kvs:List<|Int×α):keysOf (Zh val kvs)=fb (kvs.map (·.1)):=by unfold keysOf Zh;rw[ä];exact(congrArg fo (ä (f:=λp:Int×α=>p.1) (g:=Val.int) (l:=kvs)).symm).trans (Wi _)
def J3(kvs:List<|Int×α):(Zh val kvs).length=kvs.length:=by unfold Zh;rw[À]
variable {kvs:List (Int×α)}
def Zy{k:Int}{v:α}(h:kvs.lookup k=fb v):(k,v)∈kvs:=by
 induction kvs with
 |nil=>cases h
 |cons p r ih =>
  rw[õ]at h;by_cases e:k=p.1
  .have:(k==p.1)=fe:=by simp[e]
   rw[this]at h;cases h;rw[e];exact ü
  .have:(k==p.1)=ff:=⇑e
   rw[this]at h;exact æ _<|ih h
def ZK{k:Int}(h:k∈kvs.map (·.1)):∃v,kvs.lookup k=fb v:=by
 induction kvs with
 |nil=>cases h
 |cons p r ih =>
  rw[õ];by_cases e:k=p.1
  .have:(k==p.1)=fe:=by simp[e]
   rw[this];exact⟨_,rfl⟩
  .have:(k==p.1)=ff:=⇑e
   rw[this];rw[Ó,Ç]at h;exact ih<|h.resolve_left e
def Xu{k:Int}(h:kvs.lookup k=fc):k∉kvs.map (·.1):=λm=>by let⟨v,e⟩:=ZK m;rw[h]at e;cases e
def W0(nd:(kvs.map (·.1)).Nodup){k:Int}{v:α}(h:(k,v)∈kvs):kvs.lookup k=fb v:=by
 induction kvs with
 |nil=>cases h
 |cons p r ih =>
  rw[Ó,Ā]at nd;rw[õ];rcases Ç.mp h with e|h
  .subst e;simp
  .have:k≠p.1:=λz=>nd.1 (z▸ö (f:=(·.1)) h);have:(k==p.1)=ff:=⇑this
   rw[this];exact ih nd.2 h
def JP(kvs:List<|Int×α)(k:Int)(v:α):(ZB kvs k v).map (·.1)=if(kvs.lookup k).isSome then kvs.map (·.1)else kvs.map (·.1)++[k]:=by
 unfold ZB;split
 .rw[ä];refine Ď λp _=>?_;simp![bS];by_cases e:p.1=k<;>simp[e]
 .rw[Ì];rfl
def Xq{k:Int}(v:α)(h:k∉kvs.map (·.1)):ZB kvs k v=kvs++[(k,v)]:=by
 unfold ZB;have:kvs.lookup k=fc:=by
  cases e:kvs.lookup k with
  |none=>rfl
  |some w=>exact gL (ö (f:=(·.1))<|Zy e) h
 rw[this];rfl
def Wx(nd:(kvs.map (·.1)).Nodup)(k:Int)(v:α):((ZB kvs k v).map (·.1)).Nodup:=by
 rw[JP];split
 .exact nd
 .rename_i h;have h:kvs.lookup k=fc:=az.mp h;rw[ã];refine⟨nd,by simp,λa ha b hb=>?_⟩;rw[Ö.mp hb];exact λe=>Xu h<|e▸ha
variable {p:Int×α}
def Je{k:Int}{v:α}(h:p∈ZB kvs k v):p=(k,v)\/p∈kvs:=by
 unfold ZB at h;split at h
 .obtain⟨q,hq,e⟩:=ç.mp h;split at e
  .exact .inl e.symm
  .exact .inr<|e▸hq
 .rcases Û.mp h with h|h
  .exact .inr h
  .exact .inl<|Ö.mp h
def ND(kvs:List<|Int×α)(k:Int):(Zz kvs k).Sublist kvs:=ϫ
def YR(nd:(kvs.map (·.1)).Nodup)(k:Int):((Zz kvs k).map (·.1)).Nodup:=nd.sublist ((ND kvs k).map _)
def Gq{k:Int}(h:p∈Zz kvs k):p.1≠k:=by unfold Zz at h;have:=(ŀ.mp h).2;simpa using this
end
def Yg:∀{m:Nat}{ns:List Int},ns.Nodup->(∀x∈ns,0<=x/\x<m)->ns.length<=m
 |0,ns,nd,h=>by
  cases ns with
  |nil=>exact Ï _
  |cons x xs=>have:=h x ü;lia
 |m+1,ns,nd,h=>by
  by_cases hm:(m:Int)∈ns
  .have:=Yg (m:=m) (nd.erase (m:Int)) λx hx=>by
    have h1:=(nd.mem_erase_iff).mp hx;have h2:=h x h1.2;have:=h1.1;lia
   rw[bM hm]at this;lia
  .have:=Yg (m:=m) nd λx hx=>by
    have h2:=h x hx;have:x≠(m:Int):=λe=>hm<|e▸hx;lia
   lia
noncomputable abbrev Pi:=Int×Int
noncomputable abbrev pV(p:Pi):Val:=.tup [.int p.1,.int p.2]
abbrev oV:Option Pi->Val
 |none=>.non
 |some p=>pV p
structure L where
 num:Pi
 st:Pi
 root:Int
 cost:Int
 age:Int
 rests:Option Pi
 agrees:Option Pi
noncomputable abbrev L.v(l:L):Val:=.tup [pV l.num,pV l.st,.int l.root,.int l.cost,.int l.age,oV l.rests,oV l.agrees]
noncomputable abbrev OB(t:Int×Int):Val:=.tup [.int t.1,.int t.2]
noncomputable abbrev hdV(t:L×Int):Val:=.tup [t.1.v,.int t.2]
structure Lab where
 root:Int
 cost:Int
 up:Option<|Int×Pi
 deriving DecidableEq
abbrev upV:Option (Int×Pi)->Val
 |none=>.non
 |some p=>.int p.1
abbrev rsV:Option (Int×Pi)->Val
 |none=>.non
 |some p=>pV p.2
noncomputable abbrev Lab.v(l:Lab):Val:=.tup [.int l.root,.int l.cost,upV l.up,rsV l.up]
structure Br where
 number:Int
 life:Int
 most:Int
 ties:List<|Int×(Int×Int)
 held:List<|Int×(L×Int)
 label:Lab
 version:Int
 count:Int
structure fv(h:Hs)(b t d:Ad)(B:Br):Prop where
 ins:h b=fb (.ins "Bridge" [("number",.int B.number),("life",.int B.life),("age_let_go",.int B.most),("ties_by_place",.ref t),("held_by_place",.ref d),("label_now",B.label.v),("version",.int B.version),("ticks_had",.int B.count)])
 ties:h t=fb (.dct<|Zh OB B.ties)
 held:h d=fb (.dct<|Zh hdV B.held)
 ne:t≠d
variable {h:Hs} {b:Ad} {o:Ob}
def Cv{a:Ad}{u:Ob}(ha:h a=fb o)(hb:h b=fb u)(ne:o≠u):a≠b:=λe=>by subst e;rw[ha]at hb;exact ne (ê hb)
variable {d:Ad} {B:Br}
def fv.nbt{t:Ad}(x:fv h b t d B):b≠t:=Cv x.ins x.ties nofun
def fv.nbd{t:Ad}(x:fv h b t d B):b≠d:=Cv x.ins x.held nofun
structure Ex(S:List Ad)(h g:Hs):Prop where
 get:∀{a:Ad}{o:Ob},a∉S->h a=fb o->g a=fb o
def Ex.refl{S:List Ad}:Ex S h h:=⟨λ_ e=>e⟩
variable {g:Hs}
def Ex.trans{k:Hs}{S:List Ad}(e:Ex S h g)(f:Ex S g k):Ex S h k:=⟨λn x=>f.get n<|e.get n x⟩
def Ex.of{S:List Ad}(e:Ext h g):Ex S h g:=⟨λ_ x=>e.get x⟩
variable {w:Ad}
def Ex.upd{S:List Ad}(m:w∈S):Ex S h<|upd h w o:=⟨λ{a _} n x=>by rw[fg λe:a=w=>n<|by rw[e];exact m];exact x⟩
def Ex.sub{S T:List Ad}(e:Ex S h g)(m:∀a∈S,a∈T):Ex T h g:=⟨λn x=>e.get (λz=>n<|m _ z) x⟩
variable {p:Ad}
def Ex.none(e:Ex [b] h g)(hb:g b≠fc)(hp:g p=fc):h p=fc:=by
 cases z:h p with
 |none=>rfl
 |some o =>
  by_cases hpb:p=b
  .subst hpb;exact gL hp hb
  .rw[e.get ⇑hpb z]at hp;cases hp
def Ex.ofB{S:List Ad}(e:ExtB w h g)(m:w∈S):Ex S h g:=⟨λn x=>e.get (λz=>n<|z▸m) x⟩
def fv.keep{t:Ad}{S:List Ad}(x:fv h b t d B)(e:Ex S h g)(hb:b∉S)(ht:t∉S)(hd:d∉S):fv g b t d B:=⟨e.get hb x.ins,e.get ht x.ties,e.get hd x.held,x.ne⟩
def fv.ext{t:Ad}(x:fv h b t d B)(e:Ext h g):fv g b t d B:=⟨e.get x.ins,e.get x.ties,e.get x.held,x.ne⟩
def nw{Q:Q1}(q:∀p,h p=fc->Q (.ref p) (upd h p o)):new h o Q:=Z8 q
abbrev older(most:Int)(held:List<|Int×(L×Int)):List<|Int×(L×Int):=held.filterMap λp=>if p.2.2+1<most then fb (p.1,(p.2.1,p.2.2+1))else fc
variable {most:Int}
def Bl{held:List (Int×(L×Int))}{p:Int×(L×Int)}(h:p∈older most held):∃a,(p.1,(p.2.1,a))∈held:=by
 let⟨q,hq,e⟩:=ρ.mp h;split at e
 .cases e;exact⟨_,hq⟩
 .cases e
def Jq(most:Int)(held:List<|Int×(L×Int)):((older most held).map (·.1)).Sublist (held.map (·.1)):=by
 unfold older;induction held with
 |nil=>exact ś _
 |cons p r ih =>
  rw[ò];split
  .exact ih.cons _
  .rename_i q e;split at e
   .cases e;exact ih.cons₂ _
   .cases e
def Aw(most:Int)(held:List<|Int×(L×Int)):(older most held).length<=held.length:=Ş _ _
def Yn{α β:Type}{f:α->β}:∀{xs:List α}{i:Nat}{q:α},(xs.map f).Nodup->xs[i]?=fb q->f q∉(xs.take i).map f
 |[],_,_,_,h=>by simp at h
 |x::xs,0,_,_,_=>by simp
 |x::xs,i+1,q,nd,h=>by
  rw[Ó,Ā]at nd;have h:xs[i]?=fb q:=⇑h
  rw[Ϫ,Ó,Ç,not_or];exact⟨λe=>nd.1<|e▸ö (ë h),Yn nd.2 h⟩
variable {α:Type} {xs:List α} {i:Nat} {x:α}
def Zl(h:xs[i]?=fb x):xs.take (i+1)=xs.take i++[x]:=by rw[Ζ,h];rfl
def ZO{f:α->Val}{v:Val}(h:(xs.map f)[i]?=fb v):∃x,xs[i]?=fb x/\v=f x:=by rw[ß]at h;let⟨x,h1,h2⟩:=Ò.mp h;exact⟨x,h1,h2.symm⟩
variable {kvs:List (Int×α)}
def Jw{val:α->Val}{v:Val}(h:((Zh val kvs).map<|itemOf ff)[i]?=fb v):∃p,kvs[i]?=fb p/\v=.tup [.int p.1,val p.2]:=by let⟨q,h1,rfl⟩:=ZO h;unfold Zh at h1;rw[ß]at h1;let⟨x,h2,rfl⟩:=Ò.mp h1;exact⟨x,h2,rfl⟩
def D6{val:α->Val}(kvs:List<|Int×α):((Zh val kvs).map<|itemOf ff).length=kvs.length:=by rw[À,J3]
variable {P:Pg} [Al P] {n:Nat}{h:Hs}{w b t d st a f tt hh:Ad}{S B:Br}{c:Int}{all:List (Int×Int)}{ps:List Int}{Q:Q1}{X:XQ}
def Cg(x:fv h b t d B)(k:Q B.label.v h):wF P (n+1) "Bridge.label" [.ref b] h Q X:=by let⟨hi,ht,hd,Ũ⟩:=x;refine Kc ?_;refine' k
def Wp(x:fv h b t d B)(k:Q (pV (B.life,B.version)) h):wF P (n+1) "Bridge.stamp" [.ref b] h Q X:=by let⟨hi,ht,hd,Ũ⟩:=x;refine JJ ?_;refine' k
abbrev hdO:Option (L×Int)->Val
 |none=>.non
 |some p=>hdV p
def Mi{p:Int}(x:fv h b t d B)(k:Q (hdO<|B.held.lookup p) h):wF P (n+1) "Bridge.held" [.ref b,.int p] h Q X:=by
 let⟨hi,ht,hd,Ũ⟩:=x;refine Kl ?_
 exists HZ (v:=.int p) hd rfl
 rw[Yh];cases e:B.held.lookup p with
 |none=>rw[e]at k;exact k
 |some q=>rw[e]at k;exact k
def Go(x:fv h b t d B)(nd:(B.held.map (·.1)).Nodup)(hl:B.held.length<1000)(k:∀d' g,h d'=fc->fv g b t d' {B with held:=older B.most B.held}->Ex [b] h g->Q .non g):wF P (n+1) "Bridge.let_grow_older" [.ref b] h Q X:=by
 let⟨hi,ht,hd,Ũ⟩:=id x;refine YD ?_;fail;intro p hp;have npd:=Za hd hp;have npb:=Za hi hp;have npt:=Za ht hp;have nbd:=x.nbd;refine' Zg (λi e g=>Sm2 λu v=>Cj4 (e=[fb<|.ref b,fb<|.ref p,u,v]) (g p=fb (.dct<|Zh hdV<|older B.most<|B.held.take i)) (g d=fb (.frz<|Zh hdV B.held))<|Ex [d] h g) ⟨fc,fc,rfl,by rw[fg npd.symm];exact fh,fh,?_⟩ ?_ ?_ ?_
 .exact⟨λm e=>by rw[fg λz=>m<|by simp[z],fg<|Za e hp];exact e⟩
 .rintro i e g cb ⟨u,v,rfl,h1,h2,h3⟩;exact h2
 .rintro i v e g hv ⟨u,w,rfl,h1,h2,h3⟩ K hK;let⟨q,hq,rfl⟩:=Jw hv;have eB:=h3.get ⇑nbd hi;let⟨pl,l,a⟩:=q;have e1:older B.most (B.held.take<|i+1)=older B.most (B.held.take i)++older B.most [(pl,(l,a))]:=by
   unfold older;rw[Zl hq,List.filterMap_append]
  refine' gb (λhc=>?_) (λhc=>?_)
  .refine' Yv (k:=.int pl) h1 ⟨rfl,?_⟩ ?_
   .rw[J3];have h5:=Aw B.most<|B.held.take i;have h6:(B.held.take i).length<=B.held.length:=ϡ _ _;exact Ë (Þ h5 h6) (Ű hl<|by decide)
   fail;rw[show Val.tup [l.v,.int<|a+1]=hdV (l,a+1) from rfl,Z3];refine hK _ _ ⟨_,_,rfl,?_,?_,?_⟩
   .rw[fh,e1,Xq]
    .unfold older;rw[ò,gF hc];rfl
    .exact λm=>Yn nd hq<|(Jq _ _).subset m
   .rw[fg npd];exact h2
   .exact⟨λm e=>by rw[fg<|Za e hp];exact h3.get m e⟩
  .refine' hK _ _ ⟨_,_,rfl,?_,h2,h3⟩;rw[h1,e1];unfold older;rw[ò,gG hc];simp
 .rintro e g ⟨u,v,rfl,h1,h2,h3⟩;have eB:=h3.get ⇑nbd hi;rw[D6,ñ]at h1;refine⟨h2,?_⟩;refine' k p _ hp ⟨fh,?_,?_,npt⟩ ?_
  .rw[fg x.nbt.symm,fg Ũ];exact h3.get ⇑Ũ ht
  .rw[fg npb.symm,fg npd.symm];exact h1
  .refine⟨λ{c o} m e=>?_⟩;rw[fg<|by simpa using m];by_cases bj:c=d
   .subst bj;rw[fh,<-e];exact hd.symm
   .rw[fg bj];exact h3.get ⇑bj e
def E1(x:α)(xs:List α):atI (x::xs) 0=fb x:=by unfold atI ixN;rw[gF (by decide),gF<|by simp];rfl
abbrev XU(r:List Int):Val:=.tup<|r.map .int
def Ey(rows:List<|List Int):rowsOf (rows.map XU)=fb rows:=by
 induction rows with
 |nil=>rfl
 |cons r rs ih =>show(fo<|r.map .int).bind (λns=>(rowsOf<|rs.map XU).map (ns :: ·))=_;rw[Wi,ih];rfl
abbrev YL(number:Int)(rows:List<|List Int):Option<|List Int:=match rows.filter (λr=>gM (r.headD 0<number))with
 |[]=>fc
 |x::r=>fb<|minR x r
abbrev Fr:Option (List Int)->Val
 |none=>.non
 |some r=>XU r
def NB:∀(r:List<|List Int) (x:List Int),minR x r∈x::r
 |[],x=>ü
 |y::r,x=>by
  show minR (if fS y x then y else x) r∈x::y::r;have h:=NB r (if fS y x then y else x);rcases Ç.mp h with e|h
  .rw[e];split
   .simp
   .simp
  .simp[h]
variable {number:Int}
def NH{rows:List (List Int)}{m:List Int}(h:YL number rows=fb m):m∈rows:=by
 unfold YL at h;split at h
 .cases h
 .rename_i x r e;cases h;have:minR x r∈rows.filter (λr=>gM (r.headD 0<number)):=by rw[e];exact NB r x
  exact(ŀ.mp this).1
variable {l:Ad}
def EF{rows:List (List Int)}(hl:h l=fb (.lst<|rows.map XU))(h0:∀r∈rows,r≠[])(hn:rows.length<1000)(k:∀g,Ext h g->Q (Fr<|YL number rows) g):wF P (n+1) "best_offer" [.int number,.ref l] h Q X:=by
 refine MZ ?_;refine' ⟨by rw[À];exact Ű hn (by decide),?_⟩;refine WG (λv=>match v with|.tup (.int i::xs)=>if i<number then fb v else fc|_=>fc) (lsE hl) ?_ ?_
 .intro v hv K hK;let⟨r,hr,rfl⟩:=ç.mp hv;cases r with
  |nil=>exact gL rfl<|h0 _ hr
  |cons i xs =>
   have hK:K (if i<number then fb (XU<|i::xs)else fc) h:=hK;rw[show XU (i::xs)=.tup (.int i::xs.map .int) from rfl]at hK ⊢
   exists fm (E1 _ _)
   refine' gb (λhc=>?_) (λhc=>?_)
   .rw[gF hc]at hK;refine' hK
   .rw[gG hc]at hK;exact hK
 .refine Z8 λp hp=>?_;fail;have e1:(rows.map XU).filterMap (λv=>match v with|.tup (.int i::xs)=>if i<number then fb v else fc|_=>fc)=(rows.filter λr=>gM (r.headD 0<number)).map XU:=by
   clear hl k hn;induction rows with
   |nil=>rfl
   |cons r rs ih =>
    have ih:=ih λr hr=>h0 r<|æ _ hr;cases r with
    |nil=>exact gL rfl<|h0 _ ü
    |cons i xs =>
     rw[Ó,ò,ħ];by_cases hc:i<number
     .simp only[XU,Ó,gF hc,List.headD_cons,hc,decide_true,if_true]at ih ⊢;rw[ih]
     .simp only[XU,Ó,gG hc,List.headD_cons,hc,decide_false,ĸ,if_false]at ih ⊢;rw[ih]
  rw[e1];have hx:Ext h<|upd h p<|.lst<|(rows.filter λr=>gM (r.headD 0<number)).map XU:=Ext.new hp;cases e2:rows.filter λr=>gM (r.headD 0<number)with
  |nil =>rw[e2]at hx;refine Iq fh ?_;have:=k _ hx;unfold YL at this;rw[e2]at this;exact this
  |cons x r =>rw[e2]at hx;refine EK fh (Ey<|x::r) ?_;have:=k _ hx;unfold YL at this;rw[e2]at this;exact this
abbrev M6(ties:List<|Int×(Int×Int))(p:Int):Int×Int:=(ties.lookup p).getD (0,0)
abbrev MS(ties:List<|Int×(Int×Int))(q:Int×(L×Int)):List Int:=[q.2.1.root,q.2.1.cost+(M6 ties q.1).2,(M6 ties q.1).1,q.1]
abbrev MJ(ties:List<|Int×(Int×Int))(held:List<|Int×(L×Int)):List<|List Int:=held.map<|MS ties
abbrev FF(held:List<|Int×(L×Int))(p:Int):Pi:=((held.lookup p).map (·.1.st)).getD (0,0)
abbrev Yu(B:Br):Lab:=match YL B.number (MJ B.ties B.held)with
 |none=>⟨B.number,0,fc⟩
 |some m=>⟨m.getD 0 0,m.getD 1 0,fb (m.getD 3 0,FF B.held<|m.getD 3 0)⟩
def PL{ties:List (Int×(Int×Int))}{p:Int}(h:(ties.lookup p).isSome=fe):ties.lookup p=fb (M6 ties p):=by
 unfold M6;cases e:ties.lookup p with
 |none=>rw[e]at h;cases h
 |some v=>rfl
def Ax(x:fv h b t d B)(sub:∀q∈B.held,(B.ties.lookup q.1).isSome=fe)(hn:B.held.length<1000)(k:∀g,Ext h g->Q (Yu B).v g):wF P (n+2) "Bridge.reckon_label" [.ref b] h Q X:=by
 let⟨hi,ht,hd,Ũ⟩:=id x;refine YY ?_;refine' Z8 λp hp=>?_;have npd:=Za hd hp;have npb:=Za hi hp;have npt:=Za ht hp;have nbd:=x.nbd;refine' Zg (λi e g=>Sm4 λu v w z=>Cj4 (e=[fb<|.ref b,fb<|.ref p,u,v,w,z,fc,fc]) (g p=fb (.lst<|(MJ B.ties<|B.held.take i).map XU)) (g d=fb (.frz<|Zh hdV B.held))<|Ex [d] h g) ⟨fc,fc,fc,fc,rfl,by rw[fg npd.symm];exact fh,fh,?_⟩ ?_ ?_ ?_
 .exact⟨λm e=>by rw[fg λz=>m<|by simp[z],fg<|Za e hp];exact e⟩
 .rintro i e g cb ⟨u,v,w,z,rfl,h1,h2,h3⟩;exact h2
 .rintro i v e g hv ⟨u,v,w,z,rfl,h1,h2,h3⟩ K hK;let⟨q,hq,rfl⟩:=Jw hv;have eB:=h3.get ⇑nbd hi;have ht1:=h3.get ⇑Ũ ht;have hs:=PL<|sub q<|ë hq;let⟨pl,l,a⟩:=q;generalize htt:M6 B.ties pl=tt at hs;let⟨nb,c⟩:=tt;refine' Z7 ht1 rfl (by rw[Yh,hs];rfl) ?_;refine' Zv h1 ?_ ?_
  .rw[À];unfold MJ;rw[À];exact Ë (ϡ _ _) (Ű hn<|by decide)
  dsimp only;refine' hK _ _ ⟨_,_,_,_,rfl,?_,?_,?_⟩
  .rw[fh,Zl hq];unfold MJ MS;rw[Ì,Ì,Ó,htt];rfl
  .rw[fg npd];exact h2
  .exact⟨λm e=>by rw[fg<|Za e hp];exact h3.get m e⟩
 .rintro e g ⟨u,v,w,z,rfl,h1,h2,h3⟩;have eB:=h3.get ⇑nbd hi;have cb:upd g d (.dct<|Zh hdV B.held) b=_:=upd_ne' nbd eB;rw[D6,ñ]at h1;have h1':upd g d (.dct<|Zh hdV B.held) p=_:=upd_ne' npd.symm h1;have hx:Ext h<|upd g d<|.dct<|Zh hdV B.held:=⟨λ{c o} e=>by
    by_cases bj:c=d
    . subst bj;rw[fh,<-e];exact hd.symm
    . rw[fg bj];exact h3.get ⇑bj e⟩
  have bN:upd g d (.dct<|Zh hdV B.held) d=_:=fh;refine⟨h2,?_⟩;generalize upd g d (.dct<|Zh hdV B.held)=g2 at cb h1' hx bN ⊢;refine' EF h1' ?_ ?_ λg3 h3=>?_
  .intro r hr;unfold MJ at hr;let⟨q,_,rfl⟩:=ç.mp hr;unfold MS;simp
  .unfold MJ;rw[À];exact hn
  have hi3:=h3.get cb;have ej:=h3.get bN;have kk:=k g3<|hx.trans h3;unfold Yu at kk;fail;cases e:YL B.number (MJ B.ties B.held)with
  |none =>rw[e]at kk;simp![Fr];refine gb (λhc=>?_) λhc=>gL trivial hc;refine' kk
  |some m =>rw[e]at kk;have hm:=NH e;unfold MJ at hm;let⟨q,hq,rfl⟩:=ç.mp hm;refine gb (λhc=>(by simp[Fr,XU]at hc)) λhc=>?_;have hlk:∃y,B.held.lookup q.1=fb y:=ZK (ö (f:=(·.1)) hq);let⟨y,hy⟩:=hlk;unfold MS at kk ⊢;simp![Fr,XU,Ó,ū];refine' Z7 ej rfl (by rw[Yh,hy];rfl) ?_;fail;unfold FF at kk;simp![List.getD_cons_succ,List.getD_cons_zero]at kk;rw[hy]at kk;exact kk
abbrev Gj(l:Lab):D:=.tup [.int l.root,.int l.cost,(match l.up with|none=>.non|some p=>.int p.1),(match l.up with|none=>.non|some p=>.tup [.int p.2.1,.int p.2.2])]
def UE(h:Hs)(l:Lab):dat h deep l.v=fb (Gj l):=by let⟨r,c,u⟩:=l;cases u<;>rfl
def LS(h:Hs)(l m:Lab):eqV h l.v m.v=fb (gM (l=m)):=by
 unfold eqV;rw[UE,UE];show fb (D.eqv (Gj l)<|Gj m)=_;congr 1;let⟨r,c,u⟩:=l;let⟨r',c',u'⟩:=m;unfold Gj;cases u with
 |none=>cases u' with
  |none=>simp![D.eqv,D.eqvs,Λ];by_cases h1:r=r'<;>by_cases h2:c=c'<;>simp[h1,h2]
  |some q=>simp[D.eqv,D.eqvs]
 |some p=>cases u' with
  |none=>simp[D.eqv,D.eqvs]
  |some q =>let⟨p1,p2,p3⟩:=p;let⟨q1,q2,q3⟩:=q;simp![D.eqv,D.eqvs,Λ];by_cases h1:r=r'<;>by_cases h2:c=c'<;>by_cases h3:p1=q1<;>by_cases h4:p2=q2<;>by_cases h5:p3=q3<;>simp[h1,h2,h3,h4,h5]
abbrev taken(B:Br)(l:Lab):Br:=if l=B.label then B else {B with label:=l,version:=B.version+1}
variable {u:Val} {KB:Bool->Prop}
def Cs{v:Val}{c:Bool}(e:eqV h v u=fb c)(q:KB (!c)):go (fB h .ne v u) KB:=fk (by show(eqV h v u).map _=_;rw[e];rfl) q
def Mc{v:Val}{c:Bool}(e:eqV h v u=fb c)(q:KB c):go (fB h .eq v u) KB:=fk e q
def Fw{l:Lab}(x:fv h b t d B)(k:∀g,fv g b t d (taken B l)->Ex [b] h g->Q .non g):wF P (n+1) "Bridge.take_label" [.ref b,l.v] h Q X:=by
 let⟨hi,ht,hd,Ũ⟩:=id x;refine Xy ?_
 exists Cs (LS h l B.label)
 fail;unfold taken at k;refine NR (λhc=>?_) λhc=>?_
 .rw[gG hc]at k;refine' ZT fh (show(8:Nat)<900 by decide) ?_;refine' k _ ⟨?_,?_,?_,Ũ⟩ ?_
  .rw[fi,fh];rfl
  .rw[fg x.nbt.symm,fg x.nbt.symm];exact ht
  .rw[fg x.nbd.symm,fg x.nbd.symm];exact hd
  .exact(Ex.upd<|by simp).trans (Ex.upd<|by simp)
 .rw[gF hc]at k;refine' k h x Ex.refl
def QF(h:Hs)(r:Option Pi)(s:Pi):eqV h (oV r) (pV s)=fb (gM (r=fb s)):=by
 let⟨s1,s2⟩:=s;cases r with
 |none =>show fb (D.eqv .non<|.tup [.int s1,.int s2])=_;simp[D.eqv]
 |some p =>let⟨p1,p2⟩:=p;show fb (D.eqv (.tup [.int p1,.int p2])<|.tup [.int s1,.int s2])=_;congr 1;simp![D.eqv,D.eqvs,Λ];by_cases h1:p1=s1<;>by_cases h2:p2=s2<;>simp[h1,h2]
abbrev JM(B:Br)(p:Int):Bool:=match B.held.lookup p with
 |none=>ff
 |some q=>gM (q.1.rests=fb (B.life,B.version))
def KF{p:Int}(x:fv h b t d B)(k:Q (.bl<|JM B p) h):wF P (n+2) "Bridge.is_rested_on" [.ref b,.int p] h Q X:=by
 let⟨hi,ht,hd,Ũ⟩:=id x;refine YZ ?_
 exists Mi x
 unfold JM at k;fail;cases e:B.held.lookup p with
 |none =>rw[e]at k;refine NR (λhc=>gL rfl hc) λhc=>?_;exact k
 |some q =>
  rw[e]at k;let⟨l,a⟩:=q;refine NR (λhc=>?_) (λhc=>by simp[hdO]at hc);simp![hdO]
  exists Wp x
  refine Mc (QF h _ _) ?_;exact k
abbrev Gx(u:Option<|Int×Pi)(p:Int):Bool:=match u with
 |none=>ff
 |some q=>gM (p=q.1)
abbrev Jk(B:Br):Int:=match B.label.up with
 |none=>0
 |some q=>((B.held.lookup q.1).map (·.2)).getD 0+1
abbrev ZH(B:Br)(p:Int):L where
 num:=(B.life,B.count)
 st:=(B.life,B.version)
 root:=B.label.root
 cost:=B.label.cost
 age:=Jk B
 rests:=if Gx B.label.up p then B.label.up.map (·.2)else fc
 agrees:=if Gx B.label.up p then fc else if JM B p then fb (FF B.held p)else fc
def HK(h:Hs)(p:Int)(u:Option<|Int×Pi):eqV h (.int p) (upV u)=fb (Gx u p):=by
 cases u with
 |none=>rfl
 |some q =>show fb (D.eqv (.int p)<|.int q.1)=_;rw[UJ];rfl
def Gg{p:Int}(x:fv h b t d B)(hu:∀q,B.label.up=fb q->(B.held.lookup q.1).isSome=fe)(k:Q (ZH B p).v h):wF P (n+3) "Bridge.letter_over" [.ref b,.int p] h Q X:=by
 let⟨hi,ht,hd,Ũ⟩:=id x;refine Xd ?_;fail;have cQ:wSs (wF P<|n+2) #[.ite (.val<|.cmp .eq (.var 1)<|.var 4) #[.ret<|.bin .add (.var 7)<|.tup #[.var 5,.cst .non]] .nil,.ite (.val<|.meth "Bridge" "is_rested_on" (.var 0) #[.var 1]) #[.ret<|.bin .add (.var 7)<|.tup #[.cst .non,.idx (.idx (.idx (.fld (.var 0) "held_by_place")<|.var 1)<|.cst<|.int 0)<|.glob "STAMP"<|.int 1]] .nil,.ret<|.bin .add (.var 7)<|.tup #[.cst .non,.cst .non]]
   [fb<|.ref b,fb<|.int p,fb<|.int B.label.root,fb<|.int B.label.cost,fb<|upV B.label.up,fb<|rsV B.label.up,fb<|.int<|Jk B,fb<|.tup [pV (B.life,B.count),pV (B.life,B.version),.int B.label.root,.int B.label.cost,.int<|Jk B]] h (λ_ g=>Q .non g) Q (λ_ _=>False) (λ_ _=>False) λ_ c g=>X c g:=by
  exists Mc (HK h p B.label.up)
  refine' gc (λhc=>?_) (λhc=>?_)
  .fail;unfold ZH at k;rw[hc]at k;cases e:B.label.up with
   |none=>rw[e]at hc;cases hc
   |some q=>rw[e]at k;exact k
  .exists KF x
   fail;unfold ZH at k;rw[hc]at k;refine gc (λhr=>?_) λhr=>?_
   .rw[hr]at k;unfold JM at hr;cases e:B.held.lookup p with
    |none=>rw[e]at hr;cases hr
    |some q =>let⟨l,a⟩:=q;refine' Z7 hd rfl (by rw[Yh,e];rfl) ?_;fail;unfold FF at k;rw[e]at k;exact k
   .rw[hr]at k;refine' k
 cases e:B.label.up with
 |none =>
  have ea:Jk B=0:=by unfold Jk;rw[e]
  rw[e,ea]at cQ;refine gb (λhc=>?_) λhc=>gL rfl hc
  exists Wp x
  walk_at "w"
  repeat (first|exact cQ|(walk_at "py1";walk_at "w"))
 |some q =>
  let⟨y,hy⟩:=ô.mp<|hu q e;have ea:Jk B=y.2+1:=by unfold Jk;rw[e];dsimp only;rw[hy];rfl
  rw[e,ea]at cQ;refine gb (λhc=>by cases hc) λhc=>?_;simp![upV];refine' Z7 hd rfl (by rw[Yh,hy];rfl) ?_
  exists Wp x
  walk_at "w"
  repeat (first|exact cQ|(walk_at "py1";walk_at "w"))
def ED{q:Int×Pi}(hq:(Yu B).up=fb q):(B.held.lookup q.1).isSome=fe:=by
 unfold Yu at hq;split at hq
 .cases hq
 .rename_i m e;have hm:=NH e;unfold MJ at hm;let⟨y,hy,rfl⟩:=ç.mp hm;cases hq;let⟨v,hv⟩:=ZK (ö (f:=(·.1)) hy);show(B.held.lookup y.1).isSome=fe;rw[hv];rfl
abbrev Br.grown(B:Br):Br:={B with held:=older B.most B.held}
abbrev Br.told(B:Br):Br:=taken B.grown<|Yu B.grown
abbrev Br.ticked(B:Br):Br:={B.told with count:=B.count+1}
abbrev Z0(B:Br):List Val:=(sortI (B.ties.map (·.1))).map λp=>.tup [.int p,(ZH B p).v]
def Ym(B:Br)(l:Lab):(taken B l).held=B.held/\(taken B l).ties=B.ties/\(taken B l).count=B.count/\(taken B l).label=l/\(taken B l).number=B.number/\(taken B l).life=B.life/\(taken B l).most=B.most:=by
 unfold taken;split
 .rename_i e;exact⟨rfl,rfl,rfl,e.symm,rfl,rfl,rfl⟩
 .exact⟨rfl,rfl,rfl,rfl,rfl,rfl,rfl⟩
structure Br.ok(B:Br):Prop where
 nd:(B.held.map (·.1)).Nodup
 sub:∀q∈B.held,(B.ties.lookup q.1).isSome=fe
 nt:(B.ties.map (·.1)).Nodup
 rg:∀q∈B.ties,0<=q.1/\q.1<16
def Br.ok.tlen(o:B.ok):B.ties.length<=16:=by
 have:=Yg (m:=16) o.nt λx hx=>by let⟨q,hq,rfl⟩:=ç.mp hx;exact o.rg q hq
 simpa using this
def Br.ok.hlen(o:B.ok):B.held.length<=16:=by
 have:=Yg (m:=16) o.nd λx hx=>by let⟨q,hq,rfl⟩:=ç.mp hx;let⟨v,hv⟩:=ô.mp<|o.sub q hq;exact o.rg _<|Zy hv
 simpa using this
def Br.ok.grown(o:B.ok):B.grown.ok where
 nd:=o.nd.sublist<|Jq _ _
 sub:=λq hq=>by let⟨a,ha⟩:=Bl hq;exact o.sub (q.1,(q.2.1,a)) ha
 nt:=o.nt
 rg:=o.rg
def Br.ok.told(o:B.ok):B.told.ok:=by
 let⟨h1,h2,_⟩:=Ym B.grown<|Yu B.grown;have g:=o.grown;refine⟨?_,?_,?_,?_⟩
 .show((taken B.grown<|Yu B.grown).held.map (·.1)).Nodup;rw[h1];exact g.nd
 .show ∀q∈(taken B.grown<|Yu B.grown).held,((taken B.grown<|Yu B.grown).ties.lookup q.1).isSome=fe;rw[h1,h2];exact g.sub
 .show((taken B.grown<|Yu B.grown).ties.map (·.1)).Nodup;rw[h2];exact g.nt
 .show ∀q∈(taken B.grown<|Yu B.grown).ties,_;rw[h2];exact g.rg
def Br.ok.ticked(o:B.ok):B.ticked.ok:=⟨o.told.nd,o.told.sub,o.told.nt,o.told.rg⟩
def FG(x:fv h b t d B)(o:B.ok)(k:∀p d' g,h p=fc->h d'=fc->fv g b t d' B.ticked->g p=fb (.lst<|Z0 B.told)->Ex [b] h g->p≠d'->Q (.ref p) g):wF P (n+4) "Bridge.tick" [.ref b] h Q X:=by
 let⟨hi,ht,hd,Ũ⟩:=id x;have hlen:=o.hlen;refine Ki ?_;refine' Go x o.nd (by lia) λd' g cG x1 e1=>?_;let⟨eB,ht1,hd1,hne1⟩:=id x1;have og:=o.grown;have x1':fv g b t d' B.grown:=x1;refine' Ax x1' og.sub (by have:=og.hlen;lia) λg2 e2=>?_;have x2:=x1'.ext e2;refine' Fw x2 λg3 x3 e3=>?_;let⟨hi3,ht3,ej,hne3⟩:=id x3;let⟨c1,c2,c3,c4,c5,c6,c7⟩:=Ym B.grown<|Yu B.grown;have hties:B.told.ties=B.ties:=c2;refine' Ow ht3 (Cm _) ?_ (Z8 λp1 aF=>?_)
 .rw[À];have:=o.tlen;show B.told.ties.length<64;rw[hties];lia
 refine' ⟨?_,?_⟩
 .rw[À,sortI,ŷ,À];have:=o.tlen;show B.told.ties.length<lim;rw[hties];exact Ë this (by decide)
 have x4:=x3.ext (Ext.new (o:=.lst ((sortI ((taken B.grown<|Yu B.grown).ties.map (·.1))).map Val.int)) aF);have up:∀q,(taken B.grown<|Yu B.grown).label.up=fb q->((taken B.grown<|Yu B.grown).held.lookup q.1).isSome=fe:=λq hq=>by rw[c4]at hq;rw[c1];exact ED hq
 refine WG (λv=>match v with|.int i=>fb (.tup [.int i,(ZH B.told i).v])|_=>fc) (lsE fh) ?_ ?_
 .intro v hv K hK;let⟨i,hi,rfl⟩:=ç.mp hv;let⟨hi4,ht4,hd4,hne4⟩:=id x4;fail;rw[gF rfl];change wE _ _ [fb<|.int i,fb<|.ref b] _ _ _
  exists Gg x4 up
  refine' hK
 .refine Z8 λp hp=>?_;have x5:=x4.ext<|Ext.new (o:=.lst<|Z0 B.told) hp;have e0:((sortI ((taken B.grown<|Yu B.grown).ties.map (·.1))).map Val.int).filterMap (λv=>match v with|.int i=>fb (.tup [.int i,(ZH B.told i).v])|_=>fc)=Z0 B.told:=by
   rw[ϯ];unfold Z0;exact congrFun (List.filterMap_eq_map (f:=λi:Int=>Val.tup [.int i,(ZH B.told i).v])) _
  rw[e0];let⟨hi5,ht5,hd5,hne5⟩:=id x5;fail;have c3':(taken B.grown<|Yu B.grown).count=B.count:=c3;rw[c3'];have eg:Ex [b] h (upd g3 p1 (.lst ((sortI ((taken B.grown<|Yu B.grown).ties.map (·.1))).map Val.int))):=((e1.trans<|.of e2).trans e3).trans<|.of<|Ext.new aF;have hpn:h p=fc:=eg.none (by rw[x4.ins];intro z;cases z) hp;have npb:b≠p:=Za x4.ins hp;refine k p d' _ hpn cG ⟨fh,?_,?_,x5.ne⟩ ?_ ?_ (Za x4.held hp).symm
  .rw[fg x5.nbt.symm];exact x5.ties
  .rw[fg x5.nbd.symm];exact x5.held
  .rw[fg npb.symm];exact fh
  .exact(eg.trans<|.of<|Ext.new hp).trans (Ex.upd<|by simp)
abbrev JI(S:Br)(p:Int)(l:L):Bool:=match S.held.lookup p with
 |none=>fe
 |some q=>fS [q.1.num.1,q.1.num.2] [l.num.1,l.num.2]
abbrev ZX(S:Br)(p:Int)(l:L):Br:=if(S.ties.lookup p).isSome then(if JI S p l then {S with held:=ZB S.held p (l,l.age)} else S)else S
abbrev BO(S:Br)(p:Int):Br:={S with ties:=Zz S.ties p,held:=Zz S.held p}
abbrev upB(S:Br)(p:Int)(c:Int×Int):Br:=if(S.ties.lookup p).isSome then S else {S with ties:=ZB S.ties p c}
variable {q:Int}
def Ew{k:Int}{v:α}:(kvs.lookup q).isSome=fe->((ZB kvs k v).lookup q).isSome=fe:=λh=>by
 let⟨x,hx⟩:=ô.mp h;have hm:q∈kvs.map (·.1):=ö (f:=(·.1))<|Zy hx;have:q∈(ZB kvs k v).map (·.1):=by
  rw[JP];split
  .exact hm
  .exact Ý _ hm
 let⟨y,hy⟩:=ZK this;rw[hy];rfl
def Br.ok.heard(o:S.ok){p:Int}{l:L}:(ZX S p l).ok:=by
 unfold ZX;split
 .rename_i h1;split
  .refine⟨Wx o.nd _ _,λq hq=>?_,o.nt,o.rg⟩;rcases Je hq with e|hq
   .rw[e];exact h1
   .exact o.sub q hq
  .exact o
 .exact o
def Yx{k:Int}{q:Int×α}(h:q∈Zz kvs k):q∈kvs:=(ND kvs k).subset h
def A2{k:Int}(h:(kvs.lookup q).isSome=fe)(n:q≠k):((Zz kvs k).lookup q).isSome=fe:=by
 let⟨x,hx⟩:=ô.mp h;have:q∈(Zz kvs k).map (·.1):=by refine ç.mpr ⟨(q,x),?_,rfl⟩;unfold Zz;exact ŀ.mpr ⟨Zy hx,⇑n⟩
 let⟨y,hy⟩:=ZK this;rw[hy];rfl
def Br.ok.down(o:S.ok)(p:Int):(BO S p).ok :=
 ⟨YR o.nd _,λq hq=>A2 (o.sub q<|Yx hq)<|Gq hq,YR o.nt _,λq hq=>o.rg q<|Yx hq⟩
def Br.ok.up(o:S.ok){p:Int}{c:Int×Int}(h0:0<=p)(h1:p<16):(upB S p c).ok:=by
 unfold upB;split
 .exact o
 .refine⟨o.nd,λq hq=>Ew<|o.sub q hq,Wx o.nt _ _,λq hq=>?_⟩;rcases Je hq with e|hq
  .rw[e];exact⟨h0,h1⟩
  .exact o.rg q hq
def EH{p:Int}{l:L}(x:fv h b t d B)(o:B.ok)(k:∀g,fv g b t d (ZX B p l)->Ex [d] h g->Q .non g):wF P (n+2) "Bridge.hear" [.ref b,.int p,l.v] h Q X:=by
 let⟨hi,ht,hd,Ũ⟩:=id x;have hlen:=o.hlen;refine Ku ?_
 exists Xz ht rfl
 rw[YU];fail;unfold ZX at k;cases e:(B.ties.lookup p).isSome with
 |false =>rw[e]at k;refine f8 rfl ?_;refine' k h x Ex.refl
 |true =>
  rw[e,gF rfl]at k;refine f9 rfl ?_
  exists Mi x
  have put:(∀g,fv g b t d {B with held:=ZB B.held p (l,l.age)}->Ex [d] h g->Q .non g)->go (fW h (.ref d) (.int p)<|.tup [l.v,.int l.age]) λg=>Q .non g:=λk=>by refine Yv hd ⟨rfl,by rw[J3];exact Ë hlen<|by decide⟩ ?_;rw[show Val.tup [l.v,.int l.age]=hdV (l,l.age) from rfl,Z3];exact k _ ⟨by rw[fg x.nbd];exact hi,by rw[fg Ũ];exact ht,fh,Ũ⟩ (Ex.upd<|by simp)
  fail;cases e2:B.held.lookup p with
  |none =>
   have et:JI B p l=fe:=by unfold JI;rw[e2]
   rw[et,gF rfl]at k;refine gb (λhc=>?_) λhc=>gL rfl hc;refine f8 rfl ?_;refine' UO (put k) λg q=>by fail;exact q
  |some q =>
   let⟨m,ag⟩:=q;have et:JI B p l=fS [m.num.1,m.num.2] [l.num.1,l.num.2]:=by unfold JI;rw[e2]
   rw[et]at k;refine gb (λhc=>by simp[hdO]at hc) λhc=>?_;simp![hdO]
   exists F3
   exists Iy (Wi [l.num.1,l.num.2]) (Wi [m.num.1,m.num.2])
   refine' gc (λhc=>?_) (λhc=>?_)
   .rw[gF hc]at k;refine' UO (put k) λg q=>by fail;exact q
   .rw[gG<|by rw[hc];decide]at k;refine' k h x Ex.refl
def Gy{p:Int}(x:fv h b t d B)(k:∀g,fv g b t d (BO B p)->Ex [t,d] h g->Q .non g):wF P (n+1) "Bridge.down" [.ref b,.int p] h Q X:=by
 let⟨hi,ht,hd,Ũ⟩:=id x;refine Kj ?_
 exists U6 ht rfl
 dsimp only;rw[X1];have cb:upd h t (.dct<|Zh OB<|Zz B.ties p) b=_:=upd_ne' x.nbt hi;have bN:upd h t (.dct<|Zh OB<|Zz B.ties p) d=_:=upd_ne' Ũ.symm hd
 exists U6 bN rfl
 dsimp only;rw[X1];refine' k _ ⟨by rw[fg x.nbd];exact cb,by rw[fg Ũ];exact fh,fh,Ũ⟩ ((Ex.upd<|by simp).trans<|Ex.upd<|by simp)
def Q8{p nb:Int}(x:fv h b t d B)(o:B.ok)(k:∀g,fv g b t d (upB B p (nb,c))->Ex [t] h g->Q .non g):wF P (n+1) "Bridge.up" [.ref b,.int p,.int nb,.int c] h Q X:=by
 let⟨hi,ht,hd,Ũ⟩:=id x;have hlen:=o.tlen;refine Np ?_
 exists Xz ht rfl
 rw[YU];fail;unfold upB at k;cases e:(B.ties.lookup p).isSome with
 |true =>rw[e,gF rfl]at k;refine f9 rfl ?_;refine' k h x Ex.refl
 |false =>rw[e,gG<|by decide]at k;refine f8 rfl ?_;refine' Yv ht ⟨rfl,by rw[J3];exact Ë hlen<|by decide⟩ ?_;rw[show Val.tup [.int nb,.int c]=OB (nb,c) from rfl,Z3];refine' k _ ⟨by rw[fg x.nbt];exact hi,fh,by rw[fg Ũ.symm];exact hd,Ũ⟩ (Ex.upd<|by simp)
def SB(h:Hs)(s:Pi)(u:Option<|Int×Pi):eqV h (pV s) (rsV u)=fb (gM (u.map (·.2)=fb s)):=by
 let⟨s1,s2⟩:=s;cases u with
 |none =>show fb (D.eqv (.tup [.int s1,.int s2]) .non)=_;simp[D.eqv]
 |some p =>
  let⟨p0,p1,p2⟩:=p;show fb (D.eqv (.tup [.int s1,.int s2])<|.tup [.int p1,.int p2])=_;congr 1;simp![D.eqv,D.eqvs,Λ,Ľ];by_cases h1:s1=p1
  .subst h1;by_cases h2:s2=p2
   .subst h2;simp
   .have h3:¬ p2=s2:=λz=>h2 z.symm;simp[h2,h3]
  .have h3:¬ p1=s1:=λz=>h1 z.symm;simp[h1,h3]
abbrev Uc(B:Br)(p:Int):Bool:=match B.held.lookup p with
 |none=>ff
 |some q=>if q.1.agrees=fb (B.life,B.version)then gM (B.label.up.map (·.2)=fb q.1.st)else ff
def Ap{p:Int}(x:fv h b t d B)(k:Q (.bl<|Uc B p) h):wF P (n+2) "Bridge.is_agreed_to" [.ref b,.int p] h Q X:=by
 let⟨hi,ht,hd,Ũ⟩:=id x;refine YW ?_
 exists Mi x
 unfold Uc at k;fail;cases e:B.held.lookup p with
 |none =>rw[e]at k;refine gb (λhc=>?_) λhc=>gL rfl hc;refine f8 rfl ?_;refine' k
 |some q =>
  rw[e]at k;let⟨l,a⟩:=q;refine gb (λhc=>by simp[hdO]at hc) λhc=>?_;simp![hdO]
  exists Wp x
  refine Cs (QF h _ _) ?_;refine' NR (λhc=>?_) (λhc=>?_)
  .fail;rw[show(match fb (l,a)with|none=>ff|some q=>if q.1.agrees=fb (B.life,B.version)then gM (B.label.up.map (·.2)=fb q.1.st)else ff)=ff from gG hc]at k;exact k
  .fail;rw[show(match fb (l,a)with|none=>ff|some q=>if q.1.agrees=fb (B.life,B.version)then gM (B.label.up.map (·.2)=fb q.1.st)else ff)=gM (B.label.up.map (·.2)=fb l.st) from gF hc]at k;refine Mc (SB h _ _) ?_;exact k
abbrev BX(B:Br)(p:Int):String:=if(B.ties.lookup p).isSome then(if Gx B.label.up p then(if Uc B p then "child" else "shut")else if JM B p then "parent" else "shut")else "down"
def IA{p:Int}(x:fv h b t d B)(k:Q (.str<|BX B p) h):wF P (n+3) "Bridge.end" [.ref b,.int p] h Q X:=by
 let⟨hi,ht,hd,Ũ⟩:=id x;refine Mu ?_
 exists Xz ht rfl
 rw[YU];fail;unfold BX at k;cases e:(B.ties.lookup p).isSome with
 |false =>rw[e]at k;refine f8 rfl ?_;refine' k
 |true =>
  rw[e,gF rfl]at k;refine f9 rfl ?_
  exists Mc (HK h p B.label.up)
  refine' gc (λhc=>?_) (λhc=>?_)
  .rw[hc,gF rfl]at k
   exists Ap x
   refine' gc (λhc=>?_) (λhc=>?_)
   .rw[hc]at k;refine' k
   .rw[hc]at k;refine' k
  .rw[hc,gG<|by decide]at k
   exists KF x
   refine' gc (λhc=>?_) (λhc=>?_)
   .rw[hc]at k;refine' k
   .rw[hc]at k;refine' k
def Zb(q:∀p g,h p=fc->Ext h g->g p=fb o->Q (.ref p) g):new h o Q:=Z8 λp hp=>q p _ hp (Ext.new hp) fh
variable {r:Int}
def XO(r0:0<=r)(e:xs[r.toNat]?=fb x):atI xs r=fb x:=by have:=(Î.mp e).1;unfold atI ixN;rw[gF r0,gF<|by lia];exact e
def OE(r0:0<=r)(r1:r<xs.length):∃x,xs[r.toNat]?=fb x/\x∈xs:=by
 have h:r.toNat<xs.length:=by lia
 exact⟨xs[r.toNat],Ù h,Υ h⟩
def Cw(r0:0<=r)(r1:r<xs.length):∃x,atI xs r=fb x/\x∈xs:=by let⟨x,h1,h2⟩:=OE r0 r1;exact⟨x,XO r0 h1,h2⟩
def WR:∀ns:List Int,fo (ns.map .int)=fb ns
 |[]=>rfl
 |n::ns=>by rw[Ó,fo,WR ns];rfl
def Kh:∀bs:List Bool,blsOf (bs.map .bl)=fb bs
 |[]=>rfl
 |b::bs=>by rw[Ó,blsOf,Kh bs];rfl
variable {m:Int}
def YM{v:Val}(h:(fP 0 m)[i]?=fb v):v=.int i/\(i:Int)<m:=by unfold fP at h;rw[ß]at h;let⟨k,hk,rfl⟩:=Ò.mp h;let⟨aq,rfl⟩:=Î.mp hk;rw[ą]at aq;rw[dZ];exact⟨by rw[Int.zero_add],by lia⟩
def Wb:(fP 0 m).length=m.toNat:=by unfold fP;rw[À,ą,cB]
abbrev Brs(ns:List Int):Prop:=∀i∈ns,0<=i/\i<1000
noncomputable abbrev Tie:=Int×Int×Int
abbrev trV(t:Tie):Val:=.tup [.int t.1,.int t.2.1,.int t.2.2]
abbrev LOk(ns:List Int)(t:Tie):Prop:=t.1∈ns/\t.2.1∈ns/\t.1<t.2.1/\1<=t.2.2/\t.2.2<=1000
structure fG(bs:List Int)(ts:List Tie):Prop where
 one:1<=bs.length
 ten:bs.length<=10
 rng:Brs bs
 up:bs.Pairwise (· < ·)
 sixteen:ts.length<=16
 tie:∀t∈ts,LOk bs t
abbrev ZN(bs:List Int)(ts:List Tie):Val:=.tup [.tup<|bs.map .int,.tup<|ts.map trV]
variable {ns:List Int}
def mem_sort{i:Int}:i∈sortI ns↔i∈ns:=(ŉ ns _).mem_iff
def Uu(nd:ns.Nodup):(sortI ns).Pairwise (· < ·):=by have p:=ŉ ns λa b=>gM (a<=b);have s:(sortI ns).Pairwise λa b=>gM (a<=b)=fe:=bQ (λa b c h1 h2=>by simp at *;lia) (λa b=>by simp;lia) ns;have d:(sortI ns).Nodup:=p.nodup_iff.mpr nd;exact(s.and d).imp λ⟨h1,h2⟩=>by simp at h1;lia
def Nx{h:Hs}{d:Nat}:∀ns:List Int,(ns.map Val.int).mapM (dat h d)=fb (ns.map D.int)
 |[]=>rfl
 |n::ns=>by rw[Ó,Ϡ,Nx ns,Ó];cases d<;>rfl
def UI{i:Int}:∀ns:List Int,((ns.map D.int).any λe=>D.eqv e<|.int i)=gM (i∈ns)
 |[]=>by simp
 |n::ns=>by
  rw[Ó,ı,UI ns,UJ];by_cases h:n=i
  .simp[h]
  .simp[h,Ne.symm h]
def MW{i:Int}:inL h (.int i) (ns.map .int)=fb (gM (i∈ns)):=by unfold inL;rw[Nx];exact congrArg fb (UI ns)
def Ye(x:Ext h g)(e:h p=fc):Ext h<|upd g p o:=⟨λ{a u} z=>by rw[fg<|Za z e];exact x.get z⟩
abbrev far(t:Tie)(b:Int):Int:=if t.1=b then t.2.1 else t.1
abbrev gq(b:Int):Nat->List Tie->List Tie
 |_,[]=>[]
 |k,t::r=>if b=t.1\/b=t.2.1 then((k:Int),far t b,t.2.2)::gq b (k+1) r else gq b (k+1) r
def NV{b:Int}{t:Tie}:∀{l:List Tie}{k:Nat},gq b k (l++[t])=gq b k l++(if b=t.1\/b=t.2.1 then [(((k+l.length:Nat):Int),far t b,t.2.2)]else [])
 |[],k=>by show gq b k [t]=_;unfold gq;split<;>rfl
 |u::l,k=>by
  rw[Ÿ,gq,gq,NV,Ð,show k+1+l.length=k+(l.length+1) by lia];by_cases h:b=u.1\/b=u.2.1
  .rw[gF h,gF h,Ÿ]
  .rw[gG h,gG h]
def Ms:∀{xs:List Val}{k i:Nat}{v:Val},(enumL k xs)[i]?=fb v->∃x,xs[i]?=fb x/\v=.tup [.int ((k+i:Nat):Int),x]
 |[],_,_,_,e=>by simp[enumL]at e
 |x::xs,k,0,v,e=>by have e:fb (Val.tup [.int k,x])=fb v:=e;cases e;exact⟨x,rfl,rfl⟩
 |x::xs,k,i+1,v,e=>by let⟨y,h1,h2⟩:=Ms (xs:=xs) (k:=k+1) (i:=i) (v:=v) (by simpa[enumL]using e);exact⟨y,⇑h1,by rw[h2,show k+1+i=k+(i+1) by lia]⟩
def Ka:∀(xs:List Val) (k:Nat),(enumL k xs).length=xs.length
 |[],_=>rfl
 |_::xs,k=>by simp[enumL,Ka xs<|k+1]
def Dn{i:Int}(q:KB<|gM (i∈ns)):go (fB h .isin (.int i)<|.tup<|ns.map .int) KB:=fk (by show inV h (.int i) (.tup _)=_;unfold inV;exact MW) q
def IY{i:Int}(q:KB (!gM (i∈ns))):go (fB h .notin (.int i)<|.tup<|ns.map .int) KB:=fk (by show(inV h (.int i)<|.tup _).map _=_;unfold inV;simp![MW];rfl) q
section
variable {bs:List Int}{ts:List Tie}
def Dr{t:Tie}{b:Int}(k:Q (.int<|far t b) h):wF P (n+1) "far_end" [trV t,.int b] h Q X:=by
 let⟨x,y,c⟩:=t;unfold trV;unfold far at k;dsimp only at k ⊢;refine A1 ?_;fail;by_cases e:x=b
 .refine f8 (gJ e) ?_;rw[gF e]at k;refine' k
 .refine f9 (gH e) ?_;rw[gG e]at k;refine' k
def XE{b:Int}(l:ts.length<=16)(k:∀p g,h p=fc->Ext h g->g p=fb (.lst<|(gq b 0 ts).map trV)->Q (.ref p) g):wF P (n+2) "neighbours" [ZN bs ts,.int b] h Q X:=by
 unfold ZN;refine ME ?_;refine' Zb λp g0 hp x0 e0=>?_
 exists fk rfl
 have nl:∀l:List Tie,∀k,(gq b k l).length<=l.length:=by
  intro l;induction l with
  |nil=>intro k;exact Ï _
  |cons t l ih =>intro k;have:=ih<|k+1;unfold gq;split<;>simp![Ð]<;>lia
 refine Zg (λi en g=>Sm2 λv3 v4=>Cj3 (en=[fb<|.tup [.tup<|bs.map .int,.tup<|ts.map trV],fb<|.int b,fb<|.ref p,v3,v4]) (Ext h g)<|g p=fb (.lst<|(gq b 0<|ts.take i).map trV)) ⟨_,_,rfl,x0,e0⟩ (λ_ _ _ _ _=>trivial) ?_ ?_
 .rintro i v en g hv ⟨v3,v4,rfl,x,ep⟩ K hK;let⟨y,hy,rfl⟩:=Ms hv;rw[ß]at hy;let⟨t,ht,rfl⟩:=Ò.mp hy;have hi:i<ts.length:=(Î.mp ht).1;have hn:gq b 0 (ts.take<|i+1)=gq b 0 (ts.take i)++(if b=t.1\/b=t.2.1 then [((i:Int),far t b,t.2.2)]else []):=by
   rw[Ζ,ht];have:=NV (b:=b) (t:=t) (l:=ts.take i) (k:=0);rw[Ě,bc (by lia),Ų]at this;exact this
  rw[Ų];have et:trV t=.tup [.int t.1,.int t.2.1,.int t.2.2]:=rfl;fail;rw[et];refine f7 (by simp[fR]) ?_;refine Dn (ns:=[t.1,t.2.1]) ?_;refine' gb (λhc=>?_) (λhc=>?_)
  .exists Dr (t:=t)
   fail;have hl:=nl (ts.take i) 0;rw[Ě]at hl;refine Zv ep (by rw[À,lim];lia) ?_;refine' hK _ _ ⟨_,_,rfl,?_,?_⟩
   .exact Ye x hp
   .have hc:b=t.1\/b=t.2.1:=⇑hc
    rw[hn,gF hc,Ì];exact fh
  .refine' hK _ _ ⟨_,_,rfl,x,?_⟩;have hc:¬ (b=t.1\/b=t.2.1):=⇑hc
   rw[hn,gG hc,í];exact ep
 .rintro en g ⟨v3,v4,rfl,x,ep⟩;rw[Ka,À,ñ]at ep;refine' k p g hp x ep
end
abbrev Xc(rs:List Tie):List<|Int×(Int×Int):=rs.map λr=>(r.1,r.2)
def Ae(rs:List Tie):(Xc rs).map (·.1)=rs.map (·.1):=by unfold Xc;rw[ä];rfl
abbrev ZZ(own life most:Int)(rs:List Tie):Br:=⟨own,life,most,Xc rs,[],⟨own,0,fc⟩,0,0⟩
variable {own:Int} {life:Int}
def MK{rs:List Tie}(hb:h b=fb (.ins "Bridge" []))(hl:h l=fb (.lst<|rs.map trV))(nd:(rs.map (·.1)).Nodup)(h16:rs.length<=16)
  (k:∀t d g,h t=fc->h d=fc->fv g b t d (ZZ own life most rs)->Ex [b] h g->Q .non g):wF P (n+1) "Bridge.__init__" [.ref b,.int own,.int life,.ref l,.int most] h Q X:=by
 have nlb:b≠l:=Cv hb hl nofun;refine Kn ?_;refine' ZT fh (show(1:Nat)<900 by decide) ?_;refine' ZT fh (show(2:Nat)<900 by decide) ?_;fail;intro t ht;rw[fi,fi]at ht ⊢;have ntb:b≠t:=Za fh ht;have nht:h t=fc:=by rw[fg ntb.symm]at ht;exact ht
 have ntl:l≠t:=Za hl nht;refine' ZT (upd_ne' ntb fh) (show(3:Nat)<900 by decide) ?_;fail;have hl1:∀{o1 o2 o3:Ob},upd (upd (upd h b o1) t o2) b o3 l=fb (.lst<|rs.map trV):=λ{_ _ _}=>by rw[fg nlb.symm,fg ntl,fg nlb.symm];exact hl
 refine Zg (λi e g=>Sm3 λu v w=>Cj4 (e=[fb<|.ref b,fb<|.int own,fb<|.int life,fb<|.ref l,fb<|.int most,u,v,w]) (g b=fb (.ins "Bridge" [("number",.int own),("life",.int life),("age_let_go",.int most),("ties_by_place",.ref t)])) (g t=fb (.dct<|Zh OB<|Xc<|rs.take i))<|Ex [b] h g) ⟨fc,fc,fc,rfl,fh,by rw[fg ntb.symm];exact fh,?_⟩ ?_ ?_ ?_
 .refine⟨λ{a o} na e=>?_⟩;have nab:a≠b:=⇑na
  rw[fg nab,fg<|Za e nht,fg nab];exact e
 .rintro i e g _ ⟨u,v,w,rfl,h1,h2,h3⟩;exact lsE (h3.get (by simpa using nlb.symm) hl)
 .rintro i v e g hv ⟨u,v,w,rfl,h1,h2,h3⟩ K hK;let⟨r,hp,rfl⟩:=ZO hv;have nk:=Yn nd hp;let⟨p,nb,c⟩:=r;unfold trV;refine' Yv (k:=.int p) h2 ⟨rfl,?_⟩ ?_
  .rw[J3];unfold Xc;rw[À];exact Ë (Þ (ϡ _ _) h16) (by decide)
  rw[show Val.tup [.int nb,.int c]=OB (nb,c) from rfl,Z3];refine' hK _ _ ⟨_,_,_,rfl,by rw[fg ntb];exact h1,?_,?_⟩
  .rw[fh,Xq,Zl hp]
   .unfold Xc;rw[Ì];rfl
   .rw[Ae];exact nk
  .exact⟨λna e=>by rw[fg<|Za e nht];exact h3.get na e⟩
 .rintro e g ⟨u,v,w,rfl,h1,h2,h3⟩;rw[À,ñ]at h2;fail;intro d hd;have ndb:b≠d:=Za h1 hd;have ndt:t≠d:=Za h2 hd;have nhd:h d=fc:=h3.none (by rw[h1];intro z;cases z) hd;refine' ZT fh (show(5:Nat)<900 by decide) ?_;refine' ZT fh (show(6:Nat)<900 by decide) ?_;refine' ZT fh (show(7:Nat)<900 by decide) ?_;fail;rw[fi,fi,fi];refine k t d _ nht nhd ⟨fh,?_,?_,ndt⟩ ?_
  .rw[fg ntb.symm,fg ndt];exact h2
  .rw[fg ndb.symm];exact fh
  .exact(h3.trans<|.of<|Ext.new hd).trans (Ex.upd<|by simp)
def Jp{b:Int}:∀{l:List Tie}{k:Nat},((gq b k l).map (·.1)).Pairwise (· < ·)/\∀r∈gq b k l,(k:Int)<=r.1/\r.1<(k+l.length:Nat)
 |[],k=>⟨by simp[gq],λr hr=>gL hr<|by simp[gq]⟩
 |t::l,k=>by
  let⟨h1,h2⟩:=Jp (b:=b) (l:=l) (k:=k+1);unfold gq;split
  .refine⟨?_,λr hr=>?_⟩
   .rw[Ó,List.pairwise_cons];refine⟨λx hx=>?_,h1⟩;let⟨r,hr,rfl⟩:=ç.mp hx;have:=(h2 r hr).1;show(k:Int)<r.1;lia
   .rcases Ç.mp hr with rfl|hr
    .exact⟨aU _,by show(k:Int)<((k+(t::l).length:Nat):Int);rw[Ð];lia⟩
    .have:=h2 r hr;rw[Ð];lia
  .refine⟨h1,λr hr=>?_⟩;have:=h2 r hr;rw[Ð];lia
def UT{b:Int}:∀{l:List Tie}{k:Nat},(gq b k l).length<=l.length
 |[],k=>Ï _
 |t::l,k=>by have:=UT (b:=b) (l:=l) (k:=k+1);unfold gq;split<;>simp![Ð]<;>lia
structure En where
 num:Int
 b:Ad
 t:Ad
 d:Ad
 B:Br
structure Yd where
 y:Ad
 lv:Ad
 st:Ad
 fl:Ad
 rd:Ad
 bs:List Int
 ts:List Tie
 most:Int
 lives:List<|Int×Int
 es:List En
 fallen:List<|Int×Bool
 road:List<|Int×Int×Int×L
abbrev enA(es:List En):List Ad:=es.flatMap λe=>[e.b,e.t,e.d]
abbrev Yd.adr(Y:Yd):List Ad:=[Y.y,Y.lv,Y.st,Y.fl,Y.rd]++enA Y.es
noncomputable abbrev rfV(a:Ad):Val:=.ref a
noncomputable abbrev rdV(r:Int×Int×Int×L):Val:=.tup [.int r.1,.int r.2.1,.int r.2.2.1,r.2.2.2.v]
abbrev stands(es:List En):List<|Int×Ad:=es.map λe=>(e.num,e.b)
def ZI(es:List En):(stands es).map (·.1)=es.map (·.num):=by unfold stands;rw[ä];rfl
structure fw(h:Hs)(Y:Yd):Prop where
 ins:h Y.y=fb (.ins "Yard" [("net_made_of",ZN Y.bs Y.ts),("greatest_age",.int Y.most),("lives",.ref Y.lv),("standing",.ref Y.st),("ties_fallen",.ref Y.fl),("letters_on_road",.ref Y.rd)])
 lives:h Y.lv=fb (.dct<|Zh Val.int Y.lives)
 stand:h Y.st=fb (.dct<|Zh rfV<|stands Y.es)
 fallen:h Y.fl=fb (.dct<|Zh Val.bl Y.fallen)
 road:h Y.rd=fb (.lst<|Y.road.map rdV)
 brs:∀e∈Y.es,fv h e.b e.t e.d e.B
 nd:Y.adr.Nodup
 key:(Y.es.map (·.num)).Nodup
variable {es:List En} {e:En}
def XS(h:e∈es):e.b∈enA es/\e.t∈enA es/\e.d∈enA es:=by refine⟨?_,?_,?_⟩<;>exact Ĳ.mpr ⟨e,h,by simp⟩
def YJ(es:List En)(e:En):enA (es++[e])=enA es++[e.b,e.t,e.d]:=by unfold enA;rw[ι];simp
variable {Y:Yd}
def fw.keep{S:List Ad}(x:fw h Y)(e:Ex S h g)(ds:∀a∈Y.adr,a∉S):fw g Y:=by have m:∀a∈[Y.y,Y.lv,Y.st,Y.fl,Y.rd],a∉S:=λa ha=>ds a<|Ý _ ha;refine⟨e.get (m _<|by simp) x.ins,e.get (m _<|by simp) x.lives,e.get (m _<|by simp) x.stand,e.get (m _<|by simp) x.fallen,e.get (m _<|by simp) x.road,λb hb=>?_,x.nd,x.key⟩;let⟨q1,q2,q3⟩:=XS hb;exact(x.brs b hb).keep e (ds _<|Ê _ q1) (ds _<|Ê _ q2) (ds _<|Ê _ q3)
def fw.ext(x:fw h Y)(e:Ext h g):fw g Y:=x.keep (S:=[]) (.of e) λ_ _=>by simp
def fw.taken(x:fw h Y)(ha:a∈Y.adr):h a≠fc:=by
 rcases Û.mp ha with ha|ha
 .simp![Ç,Õ,or_false]at ha;rcases ha with rfl|rfl|rfl|rfl|rfl
  .rw[x.ins];simp
  .rw[x.lives];simp
  .rw[x.stand];simp
  .rw[x.fallen];simp
  .rw[x.road];simp
 .obtain⟨e,he,ha⟩:=Ĳ.mp ha;have:=x.brs e he;simp![Ç,Õ,or_false]at ha;rcases ha with rfl|rfl|rfl
  .rw[this.ins];simp
  .rw[this.ties];simp
  .rw[this.held];simp
def Yd.sep(nd:Y.adr.Nodup)(ha:a∈[Y.y,Y.lv,Y.st,Y.fl,Y.rd])(hb:b∈enA Y.es):b≠a:=λz=>(ã.mp nd).2.2 a ha b hb z.symm
def Yd.five(nd:Y.adr.Nodup):(Y.y≠Y.lv/\Y.y≠Y.st/\Y.y≠Y.fl/\Y.y≠Y.rd)/\(Y.lv≠Y.st/\Y.lv≠Y.fl/\Y.lv≠Y.rd)/\(Y.st≠Y.fl/\Y.st≠Y.rd)/\Y.fl≠Y.rd:=by have:=(ã.mp nd).1;simp![Ā,Ç,Õ,or_false,not_or,not_false_eq_true,ġ,and_true]at this;let⟨⟨a1,a2,a3,a4⟩,⟨b1,b2,b3⟩,⟨c1,c2⟩,d1⟩:=this;exact⟨⟨a1,a2,a3,a4⟩,⟨b1,b2,b3⟩,⟨c1,c2⟩,d1⟩
def fv.off(x:fv h e.b e.t e.d e.B)(he:e∈es)(n:∀b∈enA es,b≠a):fv (upd h a o) e.b e.t e.d e.B:=by let⟨q1,q2,q3⟩:=XS he;exact⟨(fg<|n _ q1).trans x.ins,(fg<|n _ q2).trans x.ties,(fg<|n _ q3).trans x.held,x.ne⟩
def fw.setLives(x:fw h Y)(l:List<|Int×Int):fw (upd h Y.lv<|.dct<|Zh Val.int l) {Y with lives:=l}:=by let⟨⟨a1,a2,a3,a4⟩,⟨b1,b2,b3⟩,_,_⟩:=Yd.five x.nd;exact⟨(fg a1).trans x.ins,fh,(fg b1.symm).trans x.stand,(fg b2.symm).trans x.fallen,(fg b3.symm).trans x.road,λe he=>(x.brs e he).off he λb hb=>Yd.sep x.nd (by simp) hb,x.nd,x.key⟩
def fw.setRoad(x:fw h Y)(l:List<|Int×Int×Int×L):fw (upd h Y.rd<|.lst<|l.map rdV) {Y with road:=l}:=by let⟨⟨a1,a2,a3,a4⟩,⟨b1,b2,b3⟩,⟨c1,c2⟩,d1⟩:=Yd.five x.nd;exact⟨(fg a4).trans x.ins,(fg b3).trans x.lives,(fg c2).trans x.stand,(fg d1).trans x.fallen,fh,λe he=>(x.brs e he).off he λb hb=>Yd.sep x.nd (by simp) hb,x.nd,x.key⟩
def fw.stands(x:fw h Y)(hb:fv h e.b e.t e.d e.B)(hn:e.num∉Y.es.map (·.num))(fr:∀a∈[e.b,e.t,e.d],a∉Y.adr):fw (upd h Y.st<|.dct<|Zh rfV<|stands<|Y.es++[e]) {Y with es:=Y.es++[e]}:=by
 let⟨⟨a1,a2,a3,a4⟩,⟨b1,b2,b3⟩,⟨c1,c2⟩,d1⟩:=Yd.five x.nd;have Š:Y.st∈Y.adr:=Ý _ (by simp);have nb:∀a∈enA (Y.es++[e]),a≠Y.st:=λa ha=>by
  rw[YJ]at ha;rcases Û.mp ha with ha|ha
  .exact Yd.sep x.nd (by simp) ha
  .exact λz=>fr a ha<|z▸Š
 refine⟨(fg a2).trans x.ins,(fg b1).trans x.lives,fh,(fg c1.symm).trans x.fallen,(fg c2.symm).trans x.road,λq hq=>?_,?_,?_⟩
 .refine fv.off ?_ hq nb;rcases Û.mp hq with hq|hq
  .exact x.brs q hq
  .rw[Ö.mp hq];exact hb
 .show([Y.y,Y.lv,Y.st,Y.fl,Y.rd]++enA (Y.es++[e])).Nodup;rw[YJ,<-û,ã];refine⟨x.nd,?_,λa ha b hb z=>fr b hb<|z▸ha⟩;simp[hb.nbt,hb.nbd,hb.ne]
 .show((Y.es++[e]).map (·.num)).Nodup;rw[Ì,ã];refine⟨x.key,by simp,λa ha b hb=>?_⟩;have:b=e.num:=⇑hb
  rw[this];exact λz=>hn<|z▸ha
def Yr{h0:Hs}{fs:List (String×Val)}{f:String}{K:Hs->Prop}(i:g p=fb (.ins "Yard" fs))(x:Ex [p] h0 g)(hp:h0 p=fc)(ha:g a=fc)(m:fs.length<900)(q:∀g',g' p=fb (.ins "Yard"<|fA fs f<|.ref a)->g' a=fb o->Ex [p] h0 g'->Ex [p] g g'->p≠a->h0 a=fc->K g'):go (fY (upd g a o) (.ref p) f<|.ref a) K:=by
 have n:=Za i ha;have y:Ex [p] g<|upd (upd g a o) p<|.ins "Yard"<|fA fs f<|.ref a:=⟨λ{b u} nb e=>by rw[fg λz=>nb<|by simp[z],fg<|Za e ha];exact e⟩
 refine ZT (upd_ne' n i) m<|q _ fh ((fg n.symm).trans fh) (x.trans y) y n ?_;cases z:h0 a with
 |none=>rfl
 |some u=>rw[x.get (by simpa using n.symm) z]at ha;cases ha
structure YNew(bs:List Int)(ts:List Tie)(most:Int)(Y:Yd):Prop where
 hb:Y.bs=bs
 ht:Y.ts=ts
 hm:Y.most=most
 num:Y.es.map (·.num)=bs
 br:∀e∈Y.es,e.B=ZZ e.num 0 most (gq e.num 0 ts)
 fallen:Y.fallen=[]
 road:Y.road=[]
 lives:Y.lives=bs.map λb=>(b,0)
section
variable {bs:List Int}{ts:List Tie}
def Da(no:fG bs ts)(hp:h p=fc)(k:∀Y g,Y.y=p->fw g Y->YNew bs ts most Y->(∀a∈Y.adr,h a=fc)->Ext h g->Q .non g):wF P (n+3) "Yard.__init__" [.ref p,ZN bs ts,.int most] (upd h p<|.ins "Yard" []) Q X:=by
 have h10:=no.ten;have h16:=no.sixteen;have hbl:(bs.map Val.int).length=bs.length:=À _;have ndb:bs.Nodup:=no.up.imp λh=>by lia
 refine N1 ?_;refine' ZT fh (show(1:Nat)<900 by decide) ?_;rw[fi,fi];have i1:=fh (h:=h) (a:=p) (o:=Ob.ins "Yard"<|fA (fA [] "net_made_of"<|ZN bs ts) "greatest_age"<|.int most);have x1:Ex [p] h<|upd h p<|Ob.ins "Yard"<|fA (fA [] "net_made_of"<|ZN bs ts) "greatest_age"<|.int most:=Ex.upd (by simp);generalize upd h p (Ob.ins "Yard"<|fA (fA [] "net_made_of"<|ZN bs ts) "greatest_age"<|.int most)=g1 at i1 x1 ⊢;fail;intro lv dg;refine' Yr i1 x1 hp dg (show(2:Nat)<900 by decide) λg2 i2 lv2 x2 y2 nlv flv=>?_;fail;intro st Š;refine' Yr i2 x2 hp Š (show(3:Nat)<900 by decide) λg3 i3 dD x3 y3 nst fst=>?_;fail;intro fl hfl;refine' Yr i3 x3 hp hfl (show(4:Nat)<900 by decide) λg4 i4 fl4 x4 y4 nfl ffl=>?_;refine' Z8 λrd hrd=>?_;refine' Yr i4 x4 hp hrd (show(5:Nat)<900 by decide) λg5 i5 rd5 x5 y5 nrd frd=>?_;have q1:lv≠st:=Za lv2 Š;have lv3:=y3.get (by simpa using nlv.symm) lv2;have q2:lv≠fl:=Za lv3 hfl;have q3:st≠fl:=Za dD hfl;have lv4:=y4.get (by simpa using nlv.symm) lv3;have st4:=y4.get (by simpa using nst.symm) dD;have q4:lv≠rd:=Za lv4 hrd;have q5:st≠rd:=Za st4 hrd;have q6:fl≠rd:=Za fl4 hrd;have lv5:=y5.get (by simpa using nlv.symm) lv4;have st5:=y5.get (by simpa using nst.symm) st4;have fl5:=y5.get (by simpa using nfl.symm) fl4;have xe:Ext h g5:=⟨λ{a o} e=>x5.get (by simpa using Za e hp) e⟩
 have Y0:fw g5 ⟨p,lv,st,fl,rd,bs,ts,most,[],[],[],[]⟩:=⟨i5,lv5,st5,fl5,rd5,(λe he=>gL he Õ),by
   show([p,lv,st,fl,rd]++[]).Nodup
   simp[nlv,nst,nfl,nrd,q1,q2,q3,q4,q5,q6],ġ⟩
 exists fm (xs:=[.tup<|bs.map .int,.tup<|ts.map trV]) (v:=.tup<|bs.map .int) rfl
 refine' Zg (λi en g=>Sm3 λv3 lvs es=>Cj7 (en=[fb<|.ref p,fb<|ZN bs ts,fb<|.int most,v3]) (fw g ⟨p,lv,st,fl,rd,bs,ts,most,lvs,es,[],[]⟩) (lvs=(bs.take i).map (λb=>(b,0))) (es.map (·.num)=bs.take i) ((∀e∈es,e.B=ZZ e.num 0 most (gq e.num 0 ts))) ((∀a∈[p,lv,st,fl,rd]++enA es,h a=fc))<|Ext h g) ⟨_,[],[],rfl,Y0,rfl,rfl,(λe he=>gL he Õ),?_,xe⟩ (λ_ _ _ _ _=>trivial) ?_ ?_
 .intro a ha;simp![enA,List.flatMap_nil,í,Ç,Õ,or_false]at ha;rcases ha with rfl|rfl|rfl|rfl|rfl<;>assumption
 .rintro i v en g hv ⟨v3,lvs,es,rfl,Y,dg,hnum,hbr,aG,x⟩ K hK;let⟨b,hb,rfl⟩:=ZO hv;have hi:i<bs.length:=(Î.mp hb).1;have hnb:b∉es.map (·.num):=by
   rw[hnum];intro m;have:=Yn (f:=id) (by rw[Η];exact ndb) hb;rw[Η]at this;exact this m
  have hll:lvs.length<=10:=by rw[dg,À,Ě];lia
  have hkl:b∉lvs.map (·.1):=by rw[dg,ä,show((λq:Int×Int=>q.1) ∘ λb:Int=>(b,(0:Int)))=id from rfl,Η,<-hnum];exact hnb
  have hesl:es.length<=10:=by rw[<-À (f:=(·.num)) (as:=es),hnum,Ě];lia
  let⟨yi,yl,ys,yf,yr,yb,ynd,yk⟩:=id Y;dsimp only at yi yl ys yf yr yb;refine' Yv (k:=.int b) yl ⟨rfl,by rw[J3];exact Ë hll<|by decide⟩ ?_;rw[Z3 (val:=Val.int)];have Y1:=Y.setLives<|ZB lvs b 0;have x1:Ext h<|upd g lv<|.dct<|Zh Val.int<|ZB lvs b 0:=⟨λe=>by rw[fg<|Za e flv];exact x.get e⟩
  dsimp only at Y1;generalize upd g lv (.dct<|Zh Val.int<|ZB lvs b 0)=g6 at Y1 x1;let⟨zi,zl,zs,zf,zr,zb,znd,zk⟩:=id Y1;dsimp only at zi zl zs zf zr zb;refine' XE h16 λpn g7 hpn x7 en=>?_;have Y7:=Y1.ext x7;fail;intro q hq;have nr:=Jp (b:=b) (l:=ts) (k:=0);have nl:=UT (b:=b) (l:=ts) (k:=0);have xq:Ext g7<|upd g7 q<|.ins "Bridge" []:=Ext.new hq;have eq:(upd g7 q<|.ins "Bridge" []) q=fb (.ins "Bridge" []):=fh;refine MK (rs:=gq b 0 ts) eq (xq.get en) (nr.1.imp λz=>by lia) (by lia) λt d g8 ht hd ba x8=>?_;have x78:Ext g7 g8:=⟨λ{a o} e=>x8.get (by simpa using Za e hq)<|xq.get e⟩
  have Y8:=Y7.ext x78;have ht7:g7 t=fc:=by cases z:g7 t with|none=>rfl|some o=>rw[xq.get z]at ht;cases ht
  have hd7:g7 d=fc:=by cases z:g7 d with|none=>rfl|some o=>rw[xq.get z]at hd;cases hd
  refine⟨rfl,?_⟩;let⟨wi,wl,ws,wf,wr,wb,wnd,wk⟩:=id Y8;dsimp only at wi wl ws wf wr wb;refine' Yv (k:=.int b) ws ⟨rfl,by rw[J3];unfold stands;rw[À];exact Ë hesl<|by decide⟩ ?_;rw[Z3 (val:=rfV),Xq _<|by rw[ZI];exact hnb];have Š:stands es++[(b,q)]=stands (es++[⟨b,q,t,d,ZZ b 0 most<|gq b 0 ts⟩]):=by unfold stands;rw[Ì];rfl
  rw[Š];have fr:∀a∈[q,t,d],g7 a=fc:=λa ha=>by simp![Ç,Õ,or_false]at ha;rcases ha with rfl|rfl|rfl<;>assumption
  have Y9:=Y8.stands (e:=⟨b,q,t,d,ZZ b 0 most<|gq b 0 ts⟩) ba hnb λa ha z=>Y7.taken z<|fr a ha;fail;have x9:Ext h g8:=(x1.trans x7).trans x78;refine hK _ _ ⟨_,_,_,rfl,Y9,?_,?_,?_,?_,⟨λe=>by rw[fg<|Za e fst];exact x9.get e⟩⟩
  .show ZB lvs b 0=_;rw[Xq _ hkl,dg,Zl hb,Ì];rfl
  .rw[Ì,hnum,Ζ,hb];rfl
  .intro e he;rcases Û.mp he with he|he
   .exact hbr e he
   .rw[Ö.mp he]
  .intro a ha;rw[YJ,<-û]at ha;rcases Û.mp ha with ha|ha
   .exact aG a ha
   .cases z:h a with
    |none=>rfl
    |some o=>have:=fr a ha;rw[(x1.trans x7).get z]at this;cases this
 .rintro en g ⟨v3,lvs,es,rfl,Y,dg,hnum,hbr,aG,x⟩;rw[hbl,ñ]at hnum dg;refine' k _ g rfl Y ⟨rfl,rfl,rfl,hnum,hbr,rfl,rfl,dg⟩ aG x
end
abbrev Pr(ts:List Tie)(p num:Int):Int:=far (ts[p.toNat]?.getD (0,0,0)) num
abbrev Z6(ts:List Tie)(num:Int)(B:Br):List<|Int×Int×Int×L:=(sortI (B.ties.map (·.1))).map λp=>(num,Pr ts p num,p,ZH B p)
def Xj{num:Int}(h:(stands es).lookup num=fb b):∃e pre ĵ,es=pre++e::ĵ/\e.num=num/\e.b=b:=by have:=Zy h;unfold stands at this;let⟨e,he,z⟩:=ç.mp this;let⟨pre,ĵ,rfl⟩:=d6 he;injection z with z1 z2;exact⟨e,pre,ĵ,rfl,z1,z2⟩
def YG(pre ĵ:List En)(e:En):enA (pre++e::ĵ)=enA pre++([e.b,e.t,e.d]++enA ĵ):=by unfold enA;rw[ι];rfl
variable {ĵ:List En}
def fw.change{pre:List En}(x:fw h Y)(he:Y.es=pre++e::ĵ)(ex:Ex [e.b] h g)(hb:fv g e.b t d B)(ft:t=e.t\/h t=fc)(fd:d=e.d\/h d=fc):fw g {Y with es:=pre++⟨e.num,e.b,t,d,B⟩::ĵ}:=by
 let⟨y,lv,st,fl,rd,bs,ts,most,lives,es,fallen,road⟩:=Y;dsimp only at he;subst he;have hm:e∈pre++e::ĵ:=by simp
 have heA:=XS hm;have nb:∀a∈[y,lv,st,fl,rd],a∉[e.b]:=λa ha z=>Yd.sep x.nd ha heA.1 (Ö.mp z).symm;have nd0:([y,lv,st,fl,rd]++(enA pre++([e.b,e.t,e.d]++enA ĵ))).Nodup:=by rw[<-YG];exact x.nd
 have key:∀q∈pre++ĵ,fv g q.b q.t q.d q.B:=λq hq=>by
  have hq':q∈pre++e::ĵ:=by
   rcases Û.mp hq with z|z
   .exact Ý _ z
   .exact Ê _<|æ _ z
  have nq:∀a∈[q.b,q.t,q.d],a≠e.b:=λa ha z=>by
   have n1:=(ã.mp nd0).2.1;rcases Û.mp hq with hq|hq
   .have ha':a∈enA pre:=Ĳ.mpr ⟨q,hq,ha⟩;exact(ã.mp n1).2.2 a ha' e.b (by simp) z
   .have ha':a∈enA ĵ:=Ĳ.mpr ⟨q,hq,ha⟩;have n2:=(ã.mp n1).2.1;exact(ã.mp n2).2.2 e.b (by simp) a ha' z.symm
  exact(x.brs q hq').keep ex (by simpa using nq _ (by simp)) (by simpa using nq _ (by simp)) (by simpa using nq _ (by simp))
 have tk:∀a∈[y,lv,st,fl,rd]++(enA pre++([e.b,e.t,e.d]++enA ĵ)),h a≠fc:=λa ha=>x.taken (by show a∈[y,lv,st,fl,rd]++enA (pre++e::ĵ);rw[YG];exact ha);have fr:∀{a c:Ad},(a=c\/h a=fc)->∀z,z∈[y,lv,st,fl,rd]++(enA pre++([e.b,e.t,e.d]++enA ĵ))->z≠c->z≠a:=λf z hz nc e=>by
  subst e;rcases f with f|f
  .exact nc f
  .exact tk z hz f
 refine⟨ex.get (nb _<|by simp) x.ins,ex.get (nb _<|by simp) x.lives,?_,ex.get (nb _<|by simp) x.fallen,ex.get (nb _<|by simp) x.road,λq hq=>?_,?_,?_⟩
 .have:=ex.get (nb st<|by simp) x.stand;dsimp only at this ⊢;rw[this];unfold O.stands;simp
 .dsimp only at hq;rcases Û.mp hq with z|z
  .exact key q<|Ý _ z
  .rcases Ç.mp z with rfl|z
   .exact hb
   .exact key q<|Ê _ z
 .show([y,lv,st,fl,rd]++enA (pre++⟨e.num,e.b,t,d,B⟩::ĵ)).Nodup;rw[YG];dsimp only;have n1:=ã.mp nd0;have n2:=ã.mp n1.2.1;have n3:=ã.mp n2.2.1;have e3:e.b≠e.t/\e.b≠e.d/\e.t≠e.d:=by
   have:=n3.1;simp![Ā,Ç,Õ,or_false,not_or,ġ,and_true,not_false_eq_true]at this;exact⟨this.1.1,this.1.2,this.2⟩
  have out:∀z,z∈[y,lv,st,fl,rd]\/z∈enA pre\/z∈enA ĵ->z∉[e.b,t,d]:=λz hz m=>by
   have hza:z∈[y,lv,st,fl,rd]++(enA pre++([e.b,e.t,e.d]++enA ĵ)):=by
    rcases hz with q|q|q
    .exact Ý _ q
    .exact Ê _<|Ý _ q
    .exact Ê _<|Ê _<|Ê _ q
   have nz:∀c∈[e.b,e.t,e.d],z≠c:=λc hc w=>by
    rcases hz with q|q|q
    .exact n1.2.2 z q c (Ê _<|Ý _ hc) w
    .exact n2.2.2 z q c (Ý _ hc) w
    .exact n3.2.2 c hc z q w.symm
   simp![Ç,Õ,or_false]at m;rcases m with m|m|m
   .exact nz e.b (by simp) m
   .exact fr ft z hza (nz e.t<|by simp) m
   .exact fr fd z hza (nz e.d<|by simp) m
  refine ã.mpr ⟨n1.1,ã.mpr ⟨n2.1,ã.mpr ⟨?_,n3.2.1,λa ha b hb z=>out b (.inr<|.inr hb)<|z▸ha⟩,λa ha b hb z=>?_⟩,λa ha b hb z=>?_⟩
  .simp[hb.nbt,hb.nbd,hb.ne]
  .rcases Û.mp hb with q|q
   .exact out a (.inr<|.inl ha)<|z▸q
   .exact n2.2.2 a ha b (Ê _ q) z
  .rcases Û.mp hb with q|q
   .exact n1.2.2 a ha b (Ý _ q) z
   .rcases Û.mp q with q|q
    .exact out a (.inl ha)<|z▸q
    .exact n1.2.2 a ha b (Ê _<|Ê _ q) z
 .have:=x.key;simpa using this
def fw.inner{pre:List En}(x:fw h Y)(he:Y.es=pre++e::ĵ)(ex:Ex [e.b,e.t,e.d] h g)(hb:fv g e.b e.t e.d B):fw g {Y with es:=pre ++ {e with B:=B} :: ĵ}:=by
 let⟨y,lv,st,fl,rd,bs,ts,most,lives,es,fallen,road⟩:=Y;dsimp only at he;subst he;have nd0:([y,lv,st,fl,rd]++(enA pre++([e.b,e.t,e.d]++enA ĵ))).Nodup:=by rw[<-YG];exact x.nd
 have n1:=ã.mp nd0;have n2:=ã.mp n1.2.1;have n3:=ã.mp n2.2.1;have nb:∀a∈[y,lv,st,fl,rd],a∉[e.b,e.t,e.d]:=λa ha z=>n1.2.2 a ha a (Ê _<|Ý _ z) rfl;have key:∀q,q∈pre\/q∈ĵ->fv g q.b q.t q.d q.B:=λq hq=>by
  have hq':q∈pre++e::ĵ:=by
   rcases hq with z|z
   .exact Ý _ z
   .exact Ê _<|æ _ z
  have nq:∀a∈[q.b,q.t,q.d],a∉[e.b,e.t,e.d]:=λa ha z=>by
   rcases hq with hq|hq
   .exact n2.2.2 a (Ĳ.mpr ⟨q,hq,ha⟩) a (Ý _ z) rfl
   .exact n3.2.2 a z a (Ĳ.mpr ⟨q,hq,ha⟩) rfl
  exact(x.brs q hq').keep ex (nq _<|by simp) (nq _<|by simp) (nq _<|by simp)
 refine⟨ex.get (nb _<|by simp) x.ins,ex.get (nb _<|by simp) x.lives,?_,ex.get (nb _<|by simp) x.fallen,ex.get (nb _<|by simp) x.road,λq hq=>?_,?_,?_⟩
 .have:=ex.get (nb st<|by simp) x.stand;dsimp only at this ⊢;rw[this];unfold O.stands;simp
 .dsimp only at hq;rcases Û.mp hq with z|z
  .exact key q<|.inl z
  .rcases Ç.mp z with rfl|z
   .exact hb
   .exact key q<|.inr z
 .show([y,lv,st,fl,rd]++enA (pre ++ {e with B:=B} :: ĵ)).Nodup;rw[YG];exact nd0
 .have:=x.key;dsimp only at this ⊢;simpa using this
def HP{xs:List Val}{v:Val}{p:Nat}{K:Val×Hs->Prop}(e1:h a=fb (.lst xs))(e:xs[p]?=fb v)(m:xs.length<=500000)(q:K (v,upd h a<|.lst<|xs.eraseIdx p)):go (bmV h .popAt (.ref a) [.int p]) K:=by
 have hp:p<xs.length:=(Î.mp e).1;have h1:-(2 ^ 62)<(p:Int)/\(p:Int)<2 ^ 62:=by
  have:(p:Int)<500000:=by lia
  exact⟨Int.lt_of_lt_of_le (by decide:(-(2 ^ 62):Int)<0)<|eZ p,Int.lt_trans this<|by decide⟩
 have h2:ixN xs.length (p:Int)=fb p:=by unfold ixN;rw[gF<|eZ p,gF (by lia),é]
 have h3:bmPopAt h [.int p] a xs=fb (v,upd h a<|.lst<|xs.eraseIdx p):=by unfold bmPopAt;dsimp only;rw[gF h1,h2];simp![ú,e,Ľ]
 exact fk (by show(fx<|h a).bind (bmPopAt h [.int p] a)=_;rw[lsE e1,ú];exact h3) q
def K0{α β:Type}(f:α->β):∀(l:List α) (i:Nat),(l.map f).eraseIdx i=(l.eraseIdx i).map f
 |[],_=>by simp
 |_::_,0=>by simp
 |x::l,i+1=>by simp[K0 f l i]
section
variable {Y:Yd}{p:Nat}
variable {r:Int×Int×Int×L}
def XM(x:fw h Y)(hr:Y.road[p]?=fb r)(hl:Y.road.length<=500000)(k:∀g,fw g {Y with road:=Y.road.eraseIdx p}->Ex [Y.rd] h g->Q (rdV r) g):wF P (n+1) "Yard.take_off" [.ref Y.y,.int p] h Q X:=by have xi:=x.ins;have xr:=x.road;have hp:p<Y.road.length:=(Î.mp hr).1;have hrl:(Y.road.map rdV).length=Y.road.length:=À _;refine WW ?_;fail;refine f8 (by simp) ?_;fail;refine f9 (by rw[hrl];simpa using hp) ?_;refine' HP xr (by rw[ß,hr];rfl) (by lia) ?_;rw[K0];exact k _ (x.setRoad _) (Ex.upd<|by simp)
def FT{pre:List En}(x:fw h Y)(hr:Y.road[p]?=fb r)(hl:Y.road.length<=500000)(he:Y.es=pre++e::ĵ)(hg:r.2.1=e.num)(o:e.B.ok)
  (k:∀g,fw g {Y with es:=pre ++ {e with B:=ZX e.B r.2.2.1 r.2.2.2} :: ĵ,road:=Y.road.eraseIdx p}->Ex Y.adr h g->Q .non g):wF P (n+3) "Yard.come" [.ref Y.y,.int p] h Q X:=by
 have xi:=x.ins;have hm:e∈Y.es:=by rw[he];simp
 have lk:(stands Y.es).lookup r.2.1=fb e.b:=by rw[hg];exact W0 (by rw[ZI];exact x.key)<|ç.mpr ⟨e,hm,rfl⟩
 refine WS ?_;refine' XM x hr hl λg1 y1 x1=>?_;have yi:=y1.ins;have ys:=y1.stand;have ba:=y1.brs e hm;have bi:=ba.ins;dsimp only at yi ys;let⟨rs,rg,rt,rl⟩:=r;dsimp only at lk hg k
 exists JT ys rfl
 rw[YU,lk];walk_at "p";refine Z7 ys rfl (by rw[Yh,lk];rfl) ?_;refine' EH ba o λg2 b2 x2=>?_;have y2:=y1.inner (e:=e) he (x2.sub<|by simp) b2;have mA:=XS hm;refine' k g2 y2 ((x1.sub λa ha=>?_).trans<|x2.sub λa ha=>?_)
 .rw[Ö.mp ha];exact Ý _ (by simp)
 .rw[Ö.mp ha];exact Ê _ mA.2.2
def B8(x:fw h Y)(hr:Y.road[p]?=fb r)(hl:Y.road.length<=500000)(hg:r.2.1∉Y.es.map (·.num))
  (k:∀g,fw g {Y with road:=Y.road.eraseIdx p}->Ex Y.adr h g->Q .non g):wF P (n+3) "Yard.come" [.ref Y.y,.int p] h Q X:=by
 have xi:=x.ins;have lk:(stands Y.es).lookup r.2.1=fc:=by
  cases z:(stands Y.es).lookup r.2.1 with
  |none=>rfl
  |some q =>have:=ö (f:=(·.1))<|Zy z;rw[ZI]at this;exact gL this hg
 refine WS ?_;refine' XM x hr hl λg1 y1 x1=>?_;have yi:=y1.ins;have ys:=y1.stand;dsimp only at yi ys;let⟨rs,rg,rt,rl⟩:=r;dsimp only at lk hg k
 exists JT ys rfl
 rw[YU,lk];walk_at "p";exact k g1 y1 (x1.sub λa ha=>by rw[Ö.mp ha];exact Ý _<|by simp)
end
abbrev Yq(k:Int)(F:Br->Br)(es:List En):List En:=es.map λe=>if e.num=k then {e with B:=F e.B} else e
def X0{k:Int}{F:Br->Br}:∀{es:List En},k∉es.map (·.num)->Yq k F es=es
 |[],_=>rfl
 |e::es,h=>by rw[Ó,Ç,not_or]at h;unfold Yq;rw[Ó,gG λz=>h.1 z.symm];exact congrArg (e :: ·)<|X0 h.2
variable {F:Br->Br}
def Nu{pre:List En}(nd:((pre++e::ĵ).map (·.num)).Nodup):Yq e.num F (pre++e::ĵ)=pre ++ {e with B:=F e.B} :: ĵ:=by rw[Ì,Ó,ã,Ā]at nd;have h1:Yq e.num F pre=pre:=X0 λz=>nd.2.2 _ z e.num (by simp) rfl;have h2:Yq e.num F ĵ=ĵ:=X0 nd.2.1.1;unfold Yq at h1 h2 ⊢;rw[Ì,Ó,h1,h2,gF rfl]
def Na{k:Int}(es:List En):(Yq k F es).map (·.num)=es.map (·.num):=by unfold Yq;rw[ä];refine Ď λe _=>?_;show(if e.num=k then({e with B:=F e.B}:En)else e).num=e.num;split<;>rfl
def N3{k:Int}(es:List En):stands (Yq k F es)=stands es:=by unfold Yq stands;rw[ä];refine Ď λe _=>?_;show((if e.num=k then({e with B:=F e.B}:En)else e).num,(if e.num=k then({e with B:=F e.B}:En)else e).b)=_;split<;>rfl
def Wq{k:Int}{F:Br->Br}:∀es:List En,enA (Yq k F es)=enA es
 |[]=>rfl
 |e::es=>by have:=Wq (k:=k) (F:=F) es;unfold Yq enA at this ⊢;rw[Ó,ĭ,ĭ,this];split<;>rfl
def NE{k:Int}{q:En}(h:q∈Yq k F es):(q∈es/\q.num≠k)\/∃e∈es,e.num=k/\q={e with B:=F e.B}:=by
 let⟨e,he,rfl⟩:=ç.mp h;by_cases z:e.num=k
 .right;exact⟨e,he,z,by rw[gF z]⟩
 .left;rw[gG z];exact⟨he,z⟩
abbrev tieF(on:Bool)(p:Int)(far c:Int)(B:Br):Br:=if on then upB B p (far,c)else BO B p
abbrev setT(on:Bool)(p:Int)(t:Tie)(es:List En):List En:=Yq t.2.1 (tieF on p t.1 t.2.2)<|Yq t.1 (tieF on p t.2.1 t.2.2) es
abbrev onT(Y:Yd)(p:Int)(t:Tie):Bool:=!(Y.fallen.lookup p).isSome&&(((stands Y.es).lookup t.1).isSome&&((stands Y.es).lookup t.2.1).isSome)
section
variable {Y:Yd}
def fw.one(x:fw h Y)(he:e∈Y.es)(ex:Ex [e.b,e.t,e.d] h g)(hb:fv g e.b e.t e.d<|F e.B):fw g {Y with es:=Yq e.num F Y.es}:=by let⟨pre,ĵ,hs⟩:=d6 he;have k:=x.key;rw[hs]at k;rw[hs,Nu k];exact x.inner hs ex hb
end
noncomputable abbrev Gi:Ss:=#[.ite (.val<|.var 5) #[.expr<|.meth "Bridge" "up" (.idx (.fld (.var 0) "standing")<|.var 6) #[.var 1,.var 7,.var 4]] #[.ite (.val<|.cmp .isin (.var 6)<|.fld (.var 0) "standing") #[.expr<|.meth "Bridge" "down" (.idx (.fld (.var 0) "standing")<|.var 6) #[.var 1]] .nil]]
section
variable {Y:Yd}
def ML{p:Nat}{t1 t2:Int}{on:Bool}{v6 v7:Option Val}{R:NQ}(x:fw h Y)(hn:t1≠t2)(gd:∀e∈Y.es,e.B.ok)(hon:∀ϋ far:Int,(ϋ=t1/\far=t2\/ϋ=t2/\far=t1)->on=fe->∃b,(stands Y.es).lookup ϋ=fb b)
  (k:∀g e,fw g {Y with es:=setT on p (t1,t2,c) Y.es}->Ex Y.adr h g->R e g) :
  wFor (λ_=>True) (λv e g K M=>go (bind (.many [6,7]) g v e) λe2=>wSs (wF P<|n+1) Gi e2 g K Q M K λ_ c g=>X c g) R [.tup [.int t1,.int t2],.tup [.int t2,.int t1]] [fb<|.ref Y.y,fb<|.int p,fb<|.int t1,fb<|.int t2,fb<|.int c,fb<|.bl on,v6,v7] h:=by
 refine Zg (λi e g=>∃v6 v7 aV,e=[fb<|.ref Y.y,fb<|.int p,fb<|.int t1,fb<|.int t2,fb<|.int c,fb<|.bl on,v6,v7]/\fw g {Y with es:=aV}/\Ex Y.adr h g/\(i=0->aV=Y.es)/\(i=1->aV=Yq t1 (tieF on p t2 c) Y.es)/\(i=2->aV=setT on p (t1,t2,c) Y.es)) ⟨_,_,Y.es,rfl,x,Ex.refl,λ_=>rfl,λz=>(by cases z),λz=>(by cases z)⟩ (λ_ _ _ _ _=>trivial) ?_ ?_
 .rintro i v e g hv ⟨u6,u7,aV,rfl,y,xg,q0,q1,q2⟩ K hK;obtain⟨ϋ,far,rfl,hnf,Š,heA,hgd,hnext⟩:∃ϋ far,v=.tup [.int ϋ,.int far]/\(ϋ=t1/\far=t2\/ϋ=t2/\far=t1)/\stands aV=stands Y.es/\enA aV=enA Y.es/\(∀e∈aV,e.num=ϋ->e.B.ok)/\∀dM,dM=Yq ϋ (tieF on p far c) aV->(i+1=0->dM=Y.es)/\(i+1=1->dM=Yq t1 (tieF on p t2 c) Y.es)/\(i+1=2->dM=setT on p (t1,t2,c) Y.es):=by
   match i,hv with
   |0,hv =>cases hv;have:=q0 rfl;subst this;exact⟨t1,t2,rfl,.inl ⟨rfl,rfl⟩,rfl,rfl,λe he _=>gd e he,λdM z=>⟨λy=>(by cases y),λ_=>z,λy=>(by cases y)⟩⟩
   |1,hv =>
    cases hv;have:=q1 rfl;subst this;refine⟨t2,t1,rfl,.inr ⟨rfl,rfl⟩,N3 _,Wq _,λe he hz=>?_,λdM z=>⟨λy=>(by cases y),λy=>(by cases y),λ_=>z⟩⟩;rcases NE he with⟨hm,_⟩|⟨q,hq,hq1,hq2⟩
    .exact gd e hm
    .exact gL (by rw[hq2]at hz;exact hq1.symm.trans hz) hn
   |i+2,hv=>simp at hv
  have yi:=y.ins;have ys:=y.stand;dsimp only at yi ys;have step:∀{e:En}{g':Hs},e∈aV->e.num=ϋ->Ex [e.b,e.t,e.d] g g'->fv g' e.b e.t e.d (tieF on p far c e.B)->∀w6 w7,K [fb<|.ref Y.y,fb<|.int p,fb<|.int t1,fb<|.int t2,fb<|.int c,fb<|.bl on,w6,w7] g':=λ{e g'} he Ũ ex hb w6 w7=>by
   have y':=y.one (F:=tieF on p far c) he ex hb;rw[Ũ]at y';have mA:=XS he;refine hK _ _ ⟨w6,w7,_,rfl,y',xg.trans<|ex.sub λa ha=>?_,hnext _ rfl⟩;refine Ê _ ?_;rw[<-heA];simp![Ç,Õ,or_false]at ha;rcases ha with rfl|rfl|rfl
   .exact mA.1
   .exact mA.2.1
   .exact mA.2.2
  fail;cases hob:on with
  |true =>
   let⟨b,lk⟩:=hon ϋ far hnf hob;rw[<-Š]at lk;let⟨e,pre,ĵ,hs,Ũ,hbb⟩:=Xj lk;have hm:e∈aV:=by rw[hs];simp
   have ba:=y.brs e hm;have bi:=ba.ins;subst hbb;refine f8 rfl ?_;refine' Z7 ys rfl (by rw[Yh,lk];rfl) ?_;refine' Q8 ba (hgd e hm Ũ) λg' b' x'=>?_;fail;rw[<-hob];exact step hm Ũ (x'.sub<|by simp) (by unfold tieF;rw[hob];exact b') _ _
  |false =>
   refine f9 rfl ?_
   exists JT ys rfl
   rw[YU];cases hlk:(stands aV).lookup ϋ with
   |none =>
    walk_at "p";rw[<-hob];refine hK _ _ ⟨_,_,aV,rfl,y,xg,hnext aV (X0 ?_).symm⟩;have:=Xu hlk
    rwa [ZI]at this
   |some b =>
    let⟨e,pre,ĵ,hs,Ũ,hbb⟩:=Xj hlk;have hm:e∈aV:=by rw[hs];simp
    have ba:=y.brs e hm;have bi:=ba.ins;subst hbb;walk_at "p";refine Z7 ys rfl (by rw[Yh,hlk];rfl) ?_;refine' Gy ba λg' b' x'=>?_;fail;rw[<-hob];exact step hm Ũ (x'.sub<|by simp) (by unfold tieF;rw[hob];exact b') _ _
 .rintro e g ⟨u6,u7,aV,rfl,y,xg,q0,q1,q2⟩;have:=q2 rfl;subst this;exact k _ _ y xg
def WI{p:Nat}{t:Tie}(x:fw h Y)(et:Y.ts[p]?=fb t)(hn:t.1≠t.2.1)(gd:∀e∈Y.es,e.B.ok)(k:∀g,fw g {Y with es:=setT (onT Y p t) p t Y.es}->Ex Y.adr h g->Q .non g):wF P (n+2) "Yard.set_tie" [.ref Y.y,.int p] h Q X:=by
 have xi:=x.ins;have xs:=x.stand;have xf:=x.fallen;let⟨t1,t2,c⟩:=t;dsimp only at hn;have fin:onT Y p (t1,t2,c)=onT Y p (t1,t2,c)->∀ϋ far:Int,(ϋ=t1/\far=t2\/ϋ=t2/\far=t1)->onT Y p (t1,t2,c)=fe->∃b,(stands Y.es).lookup ϋ=fb b:=λ_ ϋ far hv ho=>by
  simp![onT,bAq]at ho;rcases hv with⟨rfl,_⟩|⟨rfl,_⟩
  .exact ô.mp ho.2.1
  .exact ô.mp ho.2.2
 refine Jr ?_
 exists fm (xs:=[.tup<|Y.bs.map .int,.tup<|Y.ts.map trV]) (v:=.tup<|Y.ts.map trV) rfl
 refine' fm (v:=.tup [.int t1,.int t2,.int c]) (XO (by lia)<|by rw[ß,é,et];rfl) ?_
 exists Xz xf rfl
 rw[YU];obtain⟨on,hon⟩:∃on:Bool,on=onT Y p (t1,t2,c):=⟨_,rfl⟩
 rw[<-hon]at k fin;have fin:=fin rfl;cases e1:(Y.fallen.lookup (p:Int)).isSome with
 |true =>
  have z:ff=on:=by rw[hon];unfold onT;rw[e1];rfl
  walk_at "p";rw[z];exact ML x hn gd fin λg e y xg=>by fail;exact k g y xg
 |false =>
  walk_at "p";refine JT xs rfl ?_;rw[YU];cases e2:((stands Y.es).lookup t1).isSome with
  |false =>
   have z:ff=on:=by rw[hon];unfold onT;rw[e1,e2];rfl
   walk_at "p";rw[z];exact ML x hn gd fin λg e y xg=>by fail;exact k g y xg
  |true =>
   walk_at "p";refine JT xs rfl ?_;rw[YU];have z:((stands Y.es).lookup t2).isSome=on:=by rw[hon];unfold onT;rw[e1,e2];rfl
   rw[z];refine' ML x hn gd fin λg e y xg=>by fail;exact k g y xg
end
variable {on:Bool}
def Mx{p far:Int}(o:B.ok)(h0:0<=p)(h1:p<16):(tieF on p far c B).ok:=by
 unfold tieF;split
 .exact o.up h0 h1
 .exact o.down p
def Uz{k:Int}(gd:∀e∈es,e.B.ok)(hF:∀B,B.ok->(F B).ok):∀e∈Yq k F es,e.B.ok:=λq hq=>by
 rcases NE hq with⟨hm,_⟩|⟨e,he,_,rfl⟩
 .exact gd q hm
 .exact hF _<|gd e he
def FP{p:Int}{t:Tie}(gd:∀e∈es,e.B.ok)(h0:0<=p)(h1:p<16):∀e∈setT on p t es,e.B.ok :=
 Uz (Uz gd λ_ o=>Mx o h0 h1) λ_ o=>Mx o h0 h1
def Co{p:Int}{t:Tie}(es:List En):(setT on p t es).map (·.num)=es.map (·.num):=by unfold setT;rw[Na,Na]
def Kg{p:Int}{t:Tie}(es:List En):enA (setT on p t es)=enA es:=by unfold setT;rw[Wq,Wq]
abbrev ZW(Y:Yd)(l:List Tie):Yd:=l.foldl (λY r=>{Y with es:=setT (onT Y r.1<|Y.ts[r.1.toNat]?.getD (0,0,0)) r.1 (Y.ts[r.1.toNat]?.getD (0,0,0)) Y.es}) Y
def JQ(Y:Yd)(l:List Tie)(r:Tie):ZW Y (l++[r])={ZW Y l with es:=setT (onT (ZW Y l) r.1<|(ZW Y l).ts[r.1.toNat]?.getD (0,0,0)) r.1 ((ZW Y l).ts[r.1.toNat]?.getD (0,0,0)) (ZW Y l).es}:=by unfold ZW;rw[Θ];rfl
structure Same(Y Z:Yd):Prop where
 y:Z.y=Y.y
 lv:Z.lv=Y.lv
 st:Z.st=Y.st
 fl:Z.fl=Y.fl
 rd:Z.rd=Y.rd
 bs:Z.bs=Y.bs
 ts:Z.ts=Y.ts
 most:Z.most=Y.most
 lives:Z.lives=Y.lives
 fallen:Z.fallen=Y.fallen
 road:Z.road=Y.road
 num:Z.es.map (·.num)=Y.es.map (·.num)
 enA:enA Z.es=enA Y.es
variable {Z:Yd}
def Same.adr(s:Same Y Z):Z.adr=Y.adr:=by unfold Yd.adr;rw[s.y,s.lv,s.st,s.fl,s.rd,s.enA]
def Same.refl:Same Y Y:=⟨rfl,rfl,rfl,rfl,rfl,rfl,rfl,rfl,rfl,rfl,rfl,rfl,rfl⟩
variable {W:Yd}
def Same.trans(a:Same Y Z)(b:Same Z W):Same Y W:=⟨b.y.trans a.y,b.lv.trans a.lv,b.st.trans a.st,b.fl.trans a.fl,b.rd.trans a.rd,b.bs.trans a.bs,b.ts.trans a.ts,b.most.trans a.most,b.lives.trans a.lives,b.fallen.trans a.fallen,b.road.trans a.road,b.num.trans a.num,b.enA.trans a.enA⟩
def Same.setT{p:Int}{t:Tie}:Same Y {Y with es:=setT on p t Y.es}:=⟨rfl,rfl,rfl,rfl,rfl,rfl,rfl,rfl,rfl,rfl,rfl,Co _,Kg _⟩
def YQ:∀(l:List Tie) (Y:Yd),Same Y (ZW Y l)
 |[],_=>.refl
 |_::l,_=>Same.setT.trans<|YQ l _
section
variable {Y:Yd}
def JK{b:Int}(no:fG Y.bs Y.ts)(x:fw h Y)(gd:∀e∈Y.es,e.B.ok)(k:∀g,fw g (ZW Y<|gq b 0 Y.ts)->(∀e∈(ZW Y<|gq b 0 Y.ts).es,e.B.ok)->Ex Y.adr h g->Q .non g):wF P (n+3) "Yard.set_ties_of" [.ref Y.y,.int b] h Q X:=by
 have xi:=x.ins;have h16:=no.sixteen;refine XI ?_;refine' XE no.sixteen λp g0 hp x0 e0=>?_;fail;have x':=x.ext x0;have npA:p∉Y.adr:=λz=>x.taken z hp;refine Zg (λi e g=>Sm3 λv2 v3 v4=>Cj4 (e=[fb<|.ref Y.y,fb<|.int b,v2,v3,v4]) (fw g<|ZW Y<|(gq b 0 Y.ts).take i) ((∀e∈(ZW Y<|(gq b 0 Y.ts).take i).es,e.B.ok))<|Ex Y.adr g0 g) ⟨_,_,_,rfl,x',gd,Ex.refl⟩ (λi e g _ ⟨_,_,_,_,_,_,z⟩=>lsE<|z.get npA e0) ?_ ?_
 .rintro i v e g hv ⟨v2,v3,v4,rfl,y,gi,xg⟩ K hK;let⟨r,hr,rfl⟩:=ZO hv;have sm:=YQ ((gq b 0 Y.ts).take i) Y;have rg:=(Jp (b:=b) (l:=Y.ts) (k:=0)).2 r<|ë hr;obtain⟨q,hq⟩:∃q:Nat,r.1=q:=⟨r.1.toNat,by lia⟩
  have hql:q<Y.ts.length:=by lia
  have et:(ZW Y<|(gq b 0 Y.ts).take i).ts[q]?=fb Y.ts[q]:=by rw[sm.ts];exact Ù hql
  have lo:=no.tie _<|Υ hql;have yi:=y.ins;rw[sm.y]at yi;let⟨r1,r2,r3⟩:=r;dsimp only at hq;subst hq;unfold trV;fail;rw[<-sm.y];refine WI y et (by have:=lo.2.2.1;lia) gi λg1 y1 xg1=>?_;rw[sm.adr]at xg1;fail;rw[sm.y];refine hK _ _ ⟨_,_,_,rfl,?_,?_,xg.trans xg1⟩
  .rw[Zl hr,JQ];dsimp only;rw[é,et];exact y1
  .rw[Zl hr,JQ];dsimp only;rw[é,et];exact FP gi (by lia) (by lia)
 .rintro e g ⟨v2,v3,v4,rfl,y,gi,xg⟩;rw[À,ñ]at y gi;refine' k g y gi ((Ex.of x0).trans xg)
end
abbrev YB(b:Int)(es:List En):List En:=es.filter λe=>gM (e.num≠b)
def MF(b:Int)(es:List En):Zz (stands es) b=stands (YB b es):=by unfold Zz stands YB;rw[List.filter_map];rfl
def Xx(b:Int)(es:List En):(YB b es).Sublist es:=ϫ
def W2{fs:List En}(h:es.Sublist fs):(enA es).Sublist<|enA fs:=by
 induction h with
 |slnil=>exact .slnil
 |cons a _ ih=>unfold enA at ih ⊢;rw[ĭ];exact ih.trans<|List.sublist_append_right _ _
 |cons_cons a _ ih=>unfold enA at ih ⊢;rw[ĭ,ĭ];exact(ś _).append ih
def fw.drop(x:fw h Y)(b:Int):fw (upd h Y.st<|.dct<|Zh rfV<|O.stands<|YB b Y.es) {Y with es:=YB b Y.es}:=by
 let⟨⟨a1,a2,a3,a4⟩,⟨b1,b2,b3⟩,⟨c1,c2⟩,d1⟩:=Yd.five x.nd;have sb:=Xx b Y.es;have nb:∀a∈enA (YB b Y.es),a≠Y.st:=λa ha=>Yd.sep x.nd (by simp)<|(W2 sb).subset ha;refine⟨(fg a2).trans x.ins,(fg b1).trans x.lives,fh,(fg c1.symm).trans x.fallen,(fg c2.symm).trans x.road,λq hq=>(x.brs q<|sb.subset hq).off hq nb,?_,?_⟩
 .exact((ś _).append<|W2 sb).nodup x.nd
 .exact(sb.map _).nodup x.key
def fw.setFallen(x:fw h Y)(l:List<|Int×Bool):fw (upd h Y.fl<|.dct<|Zh Val.bl l) {Y with fallen:=l}:=by let⟨⟨a1,a2,a3,a4⟩,⟨b1,b2,b3⟩,⟨c1,c2⟩,d1⟩:=Yd.five x.nd;exact⟨(fg a3).trans x.ins,(fg b2).trans x.lives,(fg c1).trans x.stand,fh,(fg d1.symm).trans x.road,λe he=>(x.brs e he).off he λb hb=>Yd.sep x.nd (by simp) hb,x.nd,x.key⟩
section
variable {Y:Yd}
def Cb{b:Int}(no:fG Y.bs Y.ts)(x:fw h Y)(gd:∀e∈Y.es,e.B.ok)(hb:b∈Y.es.map (·.num))(k:∀g,fw g (ZW {Y with es:=YB b Y.es}<|gq b 0 Y.ts)->(∀e∈(ZW {Y with es:=YB b Y.es}<|gq b 0 Y.ts).es,e.B.ok)->Ex Y.adr h g->Q .non g):wF P (n+4) "Yard.fall_of_bridge" [.ref Y.y,.int b] h Q X:=by
 have xi:=x.ins;have xs:=x.stand;obtain⟨a,lk⟩:∃a,(stands Y.es).lookup b=fb a:=ZK (by rw[ZI];exact hb);refine YX ?_
 exists Xz xs rfl
 rw[YU,lk];walk_at "p";refine C4 xs rfl (by rw[Yh,lk];rfl) ?_;rw[X1,MF];dsimp only;have y1:=x.drop b;have x1:Ex Y.adr h<|upd h Y.st<|.dct<|Zh rfV<|stands<|YB b Y.es:=Ex.upd (Ý _<|by simp);generalize upd h Y.st (.dct<|Zh rfV<|stands<|YB b Y.es)=g1 at y1 x1;have yi:=y1.ins;dsimp only at yi;refine' JK (Y:={Y with es:=YB b Y.es}) no y1 (λe he=>gd e<|(Xx b Y.es).subset he) λg2 y2 gd2 x2=>?_;refine' k g2 y2 gd2 (x1.trans<|x2.sub λa ha=>?_);exact((ś _).append<|W2<|Xx b Y.es).subset ha
end
section
variable {Y:Yd}
def CJ{p:Nat}{t:Tie}(no:fG Y.bs Y.ts)(x:fw h Y)(gd:∀e∈Y.es,e.B.ok)(et:Y.ts[p]?=fb t)(hf:Y.fallen.lookup (p:Int)=fc)(hl:Y.fallen.length<=100)(k:∀g,fw g {Y with fallen:=ZB Y.fallen p fe,es:=setT (onT {Y with fallen:=ZB Y.fallen p fe} p t) p t Y.es}->Ex Y.adr h g->Q .non g):wF P (n+3) "Yard.fall_of_tie" [.ref Y.y,.int p] h Q X:=by
 have xi:=x.ins;have xf:=x.fallen;have hp:p<Y.ts.length:=(Î.mp et).1;have htl:(Y.ts.map trV).length=Y.ts.length:=À _;have lo:=no.tie _<|ë et;refine XJ ?_
 exists Xk
 fail;refine f8 (by simp) ?_
 exists fm (xs:=[.tup<|Y.bs.map .int,.tup<|Y.ts.map trV]) (v:=.tup<|Y.ts.map trV) rfl
 fail;refine f9 (by rw[htl];simpa using hp) ?_
 exists JT xf rfl
 rw[YU,hf];walk_at "p";refine Yv (k:=.int p) xf ⟨rfl,by rw[J3];exact Ë hl<|by decide⟩ ?_;rw[Z3 (val:=Val.bl)];have y1:=x.setFallen<|ZB Y.fallen p fe;have x1:Ex Y.adr h<|upd h Y.fl<|.dct<|Zh Val.bl<|ZB Y.fallen p fe:=Ex.upd (Ý _<|by simp);generalize upd h Y.fl (.dct<|Zh Val.bl<|ZB Y.fallen p fe)=g1 at y1 x1;have yi:=y1.ins;dsimp only at yi;refine' WI (Y:={Y with fallen:=ZB Y.fallen p fe}) y1 et (by have:=lo.2.2.1;lia) gd λg2 y2 x2=>?_;refine' k g2 y2 (x1.trans x2)
def Ep{p:Nat}{t:Tie}(no:fG Y.bs Y.ts)(x:fw h Y)(gd:∀e∈Y.es,e.B.ok)(et:Y.ts[p]?=fb t){v:Bool}(hf:Y.fallen.lookup (p:Int)=fb v)(k:∀g,fw g {Y with fallen:=Zz Y.fallen p,es:=setT (onT {Y with fallen:=Zz Y.fallen p} p t) p t Y.es}->Ex Y.adr h g->Q .non g):wF P (n+3) "Yard.back_of_tie" [.ref Y.y,.int p] h Q X:=by
 have xi:=x.ins;have xf:=x.fallen;have lo:=no.tie _<|ë et;refine XG ?_
 exists Xz xf rfl
 rw[YU,hf];walk_at "p";refine C4 xf rfl (by rw[Yh,hf];rfl) ?_;rw[X1];dsimp only;have y1:=x.setFallen<|Zz Y.fallen p;have x1:Ex Y.adr h<|upd h Y.fl<|.dct<|Zh Val.bl<|Zz Y.fallen p:=Ex.upd (Ý _<|by simp);generalize upd h Y.fl (.dct<|Zh Val.bl<|Zz Y.fallen p)=g1 at y1 x1;have yi:=y1.ins;dsimp only at yi;refine' WI (Y:={Y with fallen:=Zz Y.fallen p}) y1 et (by have:=lo.2.2.1;lia) gd λg2 y2 x2=>?_;refine' k g2 y2 (x1.trans x2)
end
def UA:(ZZ own life most []).ok:=⟨ġ,(λ_ m=>nomatch m),ġ,(λ_ m=>nomatch m)⟩
def Ao{k:Int}{v:α}:(ZB kvs k v).lookup k=fb v:=by
 unfold ZB;split
 .rename_i h;induction kvs with
  |nil=>cases h
  |cons p r ih =>
   rw[Ó,õ];by_cases e:p.1=k
   .simp[e]
   .have e2:(k==p.1)=ff:=by simpa using λz=>e z.symm
    rw[õ,e2]at h;simp![e,if_false,e2];exact ih h
 .rename_i h;have h:kvs.lookup k=fc:=az.mp h;rw[List.lookup_append,h];simp
section
variable {Y:Yd}
def DD{b:Int}(no:fG Y.bs Y.ts)(x:fw h Y)(gd:∀e∈Y.es,e.B.ok)(dg:Y.lives.lookup b=fb life)(hb:b∉Y.es.map (·.num))(hl:Y.lives.length<=100)(hel:Y.es.length<=100)
  (k:∀q t d g,(∀a∈[q,t,d],h a=fc)->fw g (ZW {Y with lives:=ZB Y.lives b<|life+1,es:=Y.es++[⟨b,q,t,d,ZZ b (life+1) Y.most []⟩]}<|gq b 0 Y.ts)->(∀e∈(ZW {Y with lives:=ZB Y.lives b<|life+1,es:=Y.es++[⟨b,q,t,d,ZZ b (life+1) Y.most []⟩]}<|gq b 0 Y.ts).es,e.B.ok)->Ex Y.adr h g->Q .non g):wF P (n+4) "Yard.back_of_bridge" [.ref Y.y,.int b] h Q X:=by
 have xi:=x.ins;have xs:=x.stand;have xl:=x.lives;have lk:(stands Y.es).lookup b=fc:=by
  cases z:(stands Y.es).lookup b with
  |none=>rfl
  |some q =>have:=ö (f:=(·.1))<|Zy z;rw[ZI]at this;exact gL this hb
 refine YV ?_
 exists Xz xl rfl
 rw[YU,dg];walk_at "p";refine JT xs rfl ?_;rw[YU,lk];walk_at "p";refine Z7 xl rfl (by rw[Yh,dg];rfl) ?_;refine' Yv (k:=.int b) xl ⟨rfl,by rw[J3];exact Ë hl<|by decide⟩ ?_;rw[Z3 (val:=Val.int)];have Y1:=x.setLives<|ZB Y.lives b<|life+1;have x1:Ex Y.adr h<|upd h Y.lv<|.dct<|Zh Val.int<|ZB Y.lives b<|life+1:=Ex.upd (Ý _<|by simp);have keepN:∀{a:Ad},upd h Y.lv (.dct<|Zh Val.int<|ZB Y.lives b<|life+1) a=fc->h a=fc:=λ{a} z=>by
  by_cases e:a=Y.lv
  .rw[e,fh]at z;cases z
  .rwa [fg e]at z
 generalize upd h Y.lv (.dct<|Zh Val.int<|ZB Y.lives b<|life+1)=g1 at Y1 x1 keepN;have zi:=Y1.ins;have zl:=Y1.lives;dsimp only at zi zl;refine' Z7 zl rfl (by rw[Yh,Ao];rfl) ?_;refine' Zb λpn g7 hpn x7 en=>?_;have Y7:=Y1.ext x7;have yi7:=Y7.ins;dsimp only at yi7;fail;intro q hq;have xq:Ext g7<|upd g7 q<|.ins "Bridge" []:=Ext.new hq;have eq:(upd g7 q<|.ins "Bridge" []) q=fb (.ins "Bridge" []):=fh;refine MK (rs:=[]) eq (xq.get en) (by simp) (by simp) λt d g8 ht hd ba x8=>?_;have x78:Ext g7 g8:=⟨λ{a o} e=>x8.get (by simpa using Za e hq)<|xq.get e⟩
 have Y8:=Y7.ext x78;have ht7:g7 t=fc:=by cases z:g7 t with|none=>rfl|some o=>rw[xq.get z]at ht;cases ht
 have hd7:g7 d=fc:=by cases z:g7 d with|none=>rfl|some o=>rw[xq.get z]at hd;cases hd
 refine⟨rfl,?_⟩;have wi:=Y8.ins;have ws:=Y8.stand;dsimp only at wi ws;refine' Yv (k:=.int b) ws ⟨rfl,by rw[J3];unfold stands;rw[À];exact Ë hel<|by decide⟩ ?_;rw[Z3 (val:=rfV),Xq _<|by rw[ZI];exact hb];have Š:stands Y.es++[(b,q)]=stands (Y.es++[⟨b,q,t,d,ZZ b (life+1) Y.most []⟩]):=by unfold stands;rw[Ì];rfl
 rw[Š];have fr:∀a∈[q,t,d],g7 a=fc:=λa ha=>by simp![Ç,Õ,or_false]at ha;rcases ha with rfl|rfl|rfl<;>assumption
 have fr0:∀a∈[q,t,d],h a=fc:=λa ha=>keepN (by cases z:g1 a with|none=>rfl|some o=>have:=fr a ha;rw[x7.get z]at this;cases this);have Y9:=Y8.stands (e:=⟨b,q,t,d,ZZ b (life+1) Y.most []⟩) ba hb λa ha z=>Y7.taken z<|fr a ha;have x9:Ex Y.adr h<|upd g8 Y.st<|.dct<|Zh rfV<|stands<|Y.es++[⟨b,q,t,d,ZZ b (life+1) Y.most []⟩]:=(x1.trans<|.of<|x7.trans x78).trans (Ex.upd<|Ý _<|by simp);dsimp only at Y9;generalize upd g8 Y.st (.dct<|Zh rfV<|stands<|Y.es++[⟨b,q,t,d,ZZ b (life+1) Y.most []⟩])=g9 at Y9 x9;have vi:=Y9.ins;dsimp only at vi;refine' JK (Y:={Y with lives:=ZB Y.lives b<|life+1,es:=Y.es++[⟨b,q,t,d,ZZ b (life+1) Y.most []⟩]}) no Y9 (λe he=>?_) λg2 y2 gd2 x2=>?_
 .rcases Û.mp he with he|he
  .exact gd e he
  .rw[Ö.mp he];exact UA
 refine' k q t d g2 fr0 y2 gd2 ⟨λ{a o} na ha=>x2.get (λz=>?_)<|x9.get na ha⟩;have z:a∈[Y.y,Y.lv,Y.st,Y.fl,Y.rd]++enA (Y.es++[⟨b,q,t,d,ZZ b (life+1) Y.most []⟩]):=z;rw[YJ,<-û]at z;rcases Û.mp z with z|z
 .exact na z
 .rw[fr0 a z]at ha;cases ha
end
abbrev wordsL:List<|List String:=[["tick"],["come"],["lost"],["fall","bridge"],["fall","tie"],["back","bridge"],["back","tie"]]
def E4{ws:List String}(hw:ws∈wordsL)(k:∀g,Ext h g->Q (.tup [.tup<|ws.map .str,.int c]) g):wF P (n+2) "read_deed" [.tup<|ws.map .str++[.int c]] h Q X:=by
 have hc:cut (ws.map Val.str++[.int c]) fc (fb (-1))=ws.map .str:=by simp![wordsL,Ç,Õ,or_false]at hw;rcases hw with rfl|rfl|rfl|rfl|rfl|rfl|rfl<;>rfl
 have hlast:atI (ws.map Val.str++[.int c]) (-1)=fb (.int c):=by simp![wordsL,Ç,Õ,or_false]at hw;rcases hw with rfl|rfl|rfl|rfl|rfl|rfl|rfl<;>rfl
 have hlen:ws.length<=2:=by simp![wordsL,Ç,Õ,or_false]at hw;rcases hw with rfl|rfl|rfl|rfl|rfl|rfl|rfl<;>decide
 refine NM ?_;walk_at "p";refine f7 (xs:=ws.map Val.str++[.int c]) (lo:=fc) (hi:=fb (-1)) (by rw[Å,À];intro z;have:=z.2;unfold fR at this;simp at this;lia) ?_;rw[hc];refine' ⟨Ë (by rw[À];exact hlen) (by decide),WG (λ_=>fb<|.bl fe) trivial (λv hv K hK=>?_) ?_⟩
 .obtain⟨u,_,rfl⟩:=ç.mp hv;walk_at "p";exact hK
 rw[show(ws.map Val.str).filterMap (λ_=>fb<|Val.bl fe)=(ws.map λ_=>fe).map Val.bl by rw[ϯ,ä];exact congrFun (List.filterMap_eq_map' (f:=λ_:String=>Val.bl fe)) ws];refine Zb λp1 g1 aF x1 e1=>?_
 exists L7 (bs:=ws.map λ_=>fe) e1 (Kh _)
 have ha:(ws.map λ_=>fe).all id=fe:=by simp
 fail;refine f9 (by simp) ?_;fail;have hin:∀{h:Hs},fB h .notin (.tup<|ws.map .str) (.tup<|wordsL.map λl=>.tup<|l.map .str)=fb ff:=λ{h}=>by simp![wordsL,Ç,Õ,or_false]at hw;rcases hw with rfl|rfl|rfl|rfl|rfl|rfl|rfl<;>rfl
 refine fk (a:=ff) hin ?_;walk_at "p";refine fm hlast ?_
 exists Ot
 walk_at "p";refine fm hlast ?_;refine' k g1 x1
inductive Dd where
 |tick (b:Int)|come (b:Int)|lost (b:Int)|fallB (b:Int)|fallT (b:Int)|backB (b:Int)|backT (b:Int)
abbrev Dd.ws:Dd->List String
 |.tick _=>["tick"]|.come _=>["come"]|.lost _=>["lost"]|.fallB _=>["fall","bridge"]|.fallT _=>["fall","tie"]|.backB _=>["back","bridge"]|.backT _=>["back","tie"]
abbrev Dd.num:Dd->Int
 |.tick c=>c|.come c=>c|.lost c=>c|.fallB c=>c|.fallT c=>c|.backB c=>c|.backT c=>c
abbrev Dd.fn:Dd->String
 |.tick _=>"Yard.tick_of" | .come _=>"Yard.come" | .lost _=>"Yard.take_off" | .fallB _=>"Yard.fall_of_bridge" | .fallT _=>"Yard.fall_of_tie" | .backB _=>"Yard.back_of_bridge" | .backT _=>"Yard.back_of_tie"
noncomputable abbrev Dd.v(d:Dd):Val:=.tup<|d.ws.map .str++[.int d.num]
def Dd.words(d:Dd):d.ws∈wordsL:=by cases d<;>simp[Dd.ws,wordsL]
def Zf(x:Ext h g)(hp:g p=fc):h p=fc:=by
 cases z:h p with
 |none=>rfl
 |some o=>rw[x.get z]at hp;cases hp
variable {ts:List Tie}
def FZ{i:Int}(h0:0<=i)(h1:i<ts.length):atI (ts.map trV) i=fb (trV<|ts[i.toNat]?.getD (0,0,0)):=by
 have h2:i.toNat<ts.length:=by lia
 refine XO h0 ?_;rw[ß,Ù h2];rfl
def Av{pre:List En}(x:fw h Y)(he:Y.es=pre++e::ĵ)(o:e.B.ok)(hp:∀q∈e.B.ties,q.1<Y.ts.length)(hr:Y.road.length<=100000)
  (k:∀d g,fw g {Y with es:=pre++⟨e.num,e.b,e.t,d,e.B.ticked⟩::ĵ,road:=Y.road++Z6 Y.ts e.num e.B.told}->h d=fc->Ex Y.adr h g->Q .non g):wF P (n+5) "Yard.tick_of" [.ref Y.y,.int e.num] h Q X:=by
 have hm:e∈Y.es:=by rw[he];simp
 have lk:(stands Y.es).lookup e.num=fb e.b:=W0 (by rw[ZI];exact x.key)<|ç.mpr ⟨e,hm,rfl⟩;let⟨xi,xl,xs,xf,xr,xb,xnd,xk⟩:=id x;refine J7 ?_
 exists Xz xs rfl
 rw[YU,lk];walk_at "p";refine Z7 xs rfl (by rw[Yh,lk];rfl) ?_;have ba:=xb e hm;have bi:=ba.ins;refine' FG ba o λp d g1 aF hd1 ba1 ep x1 npd=>?_;have Y1:=x.change he x1 ba1 (.inl rfl)<|.inr hd1;let⟨yi,yl,ys,yf,yr,yb,ynd,yk⟩:=id Y1;dsimp only at yi yl ys yf yr yb;have npa:∀a∈Y.adr,a≠p:=λa ha z=>x.taken ha<|z▸aF;have npr:Y.rd≠p:=npa _ (Ý _<|by simp);have hbm:e.b∈Y.adr:=Ê _ (XS hm).1;have htl:(sortI (e.B.told.ties.map (·.1))).length<=16:=by rw[sortI,ŷ,À];exact o.told.tlen
 have htie:∀i∈sortI (e.B.told.ties.map (·.1)),0<=i/\i<Y.ts.length:=λi hi=>by let⟨q,hq,rfl⟩:=ç.mp<|mem_sort.mp hi;rw[show e.B.told.ties=e.B.ties from (Ym e.B.grown<|Yu e.B.grown).2.1]at hq;exact⟨(o.rg q hq).1,hp q hq⟩
 refine' Zg (λi en g=>Sm3 λv2 v3 v4=>Cj4 (en=[fb<|.ref Y.y,fb<|.int e.num,v2,v3,v4]) (fw g {Y with es:=pre++⟨e.num,e.b,e.t,d,e.B.ticked⟩::ĵ,road:=Y.road++(Z6 Y.ts e.num e.B.told).take i}) (g p=fb (.lst<|Z0 e.B.told))<|Ex Y.adr h g) ⟨_,_,_,rfl,by rw[List.take_zero,í];exact Y1,ep,x1.sub λa ha=>by rw[Ö.mp ha];exact hbm⟩ (λi en g _ ⟨_,_,_,_,_,z,_⟩=>lsE z) ?_ ?_
 .rintro i v en g hv ⟨v2,v3,v4,rfl,Yi,ep,xi⟩ K hK;let⟨pl,hpl,rfl⟩:=ZO hv;have hplm:=ë hpl;let⟨r0,r1⟩:=htie pl hplm;have et:=FZ (ts:=Y.ts) r0 r1;let⟨zi,zl,zs,zf,zr,zb,znd,zk⟩:=id Yi;dsimp only at zi zl zs zf zr zb;have hil:=(Î.mp hpl).1
  exists fm (xs:=[.tup<|Y.bs.map .int,.tup<|Y.ts.map trV]) (v:=.tup<|Y.ts.map trV) rfl
  exists fm et
  exists Dr
  refine' Zv zr ?_ ?_
  .rw[À,Å,Ě];exact Ë (by lia:_<=100016) (by decide)
  dsimp only;have es:(Z6 Y.ts e.num e.B.told)[i]?=fb (e.num,Pr Y.ts pl e.num,pl,ZH e.B.told pl):=by unfold Z6;rw[ß,hpl];rfl
  have Y2:=Yi.setRoad<|Y.road++(Z6 Y.ts e.num e.B.told).take (i+1);dsimp only at Y2;have er:(Y.road++(Z6 Y.ts e.num e.B.told).take i).map rdV++[rdV (e.num,Pr Y.ts pl e.num,pl,ZH e.B.told pl)]=(Y.road++(Z6 Y.ts e.num e.B.told).take (i+1)).map rdV:=by rw[Zl es,<-û,Ì (l₂:=[_])];rfl
  have er':(Y.road++(Z6 Y.ts e.num e.B.told).take i).map rdV++[.tup [.int e.num,.int<|far (Y.ts[pl.toNat]?.getD (0,0,0)) e.num,.int pl,(ZH e.B.told pl).v]]=(Y.road++(Z6 Y.ts e.num e.B.told).take (i+1)).map rdV:=er;rw[er'];refine' hK _ _ ⟨_,_,_,rfl,Y2,(fg npr.symm).trans ep,xi.trans<|Ex.upd<|Ý _<|by simp⟩
 .rintro en g ⟨v2,v3,v4,rfl,Yi,ep,xi⟩;rw[show(Z0 e.B.told).length=(Z6 Y.ts e.num e.B.told).length by unfold Z0 Z6;rw[À,À],ñ]at Yi;refine' k d g Yi hd1 xi
def F8{d:Dd}(x:fw h Y)(k:∀(g:Hs) (Q':Q1),Ext h g->fw g Y->(∀v g',Q .non g'->Q' v g')->wF P (n+5) d.fn [.ref Y.y,.int d.num] g Q' X):wF P (n+6) "Yard.deed" [.ref Y.y,d.v] h Q X:=by
 have xi0:=x.ins;refine NK ?_;refine' E4 d.words λg1 x1=>?_;have x':=x.ext x1;have xi:=x'.ins;cases d<;>(
   fail
   repeat (first
     |(refine fk (a:=ff) rfl ?_;fail;refine f9 rfl ?_;fail)
     | (refine fk (a:=fe) rfl ?_;fail;refine f8 rfl ?_;fail))
   refine k g1 _ x1 x' λv g' q=>?_
   refine' q)
structure Yc where
 bs:List Int
 ts:List Tie
 most:Int
 lives:List<|Int×Int
 br:List<|Int×Br
 fallen:List<|Int×Bool
 road:List<|Int×Int×Int×L
abbrev enC(es:List En):List<|Int×Br:=es.map λe=>(e.num,e.B)
abbrev Yd.cc(Y:Yd):Yc:=⟨Y.bs,Y.ts,Y.most,Y.lives,enC Y.es,Y.fallen,Y.road⟩
abbrev upC(k:Int)(F:Br->Br)(l:List<|Int×Br):List<|Int×Br:=l.map λq=>if q.1=k then(q.1,F q.2)else q
abbrev IL(on:Bool)(p:Int)(t:Tie)(l:List<|Int×Br):List<|Int×Br:=upC t.2.1 (tieF on p t.1 t.2.2)<|upC t.1 (tieF on p t.2.1 t.2.2) l
abbrev Yc.tie(C:Yc)(p:Int):Tie:=C.ts[p.toNat]?.getD (0,0,0)
abbrev onC(C:Yc)(p:Int):Bool:=!(C.fallen.lookup p).isSome&&((C.br.lookup (C.tie p).1).isSome&&(C.br.lookup (C.tie p).2.1).isSome)
abbrev Yc.set1(C:Yc)(p:Int):Yc:={C with br:=IL (onC C p) p (C.tie p) C.br}
abbrev Yc.sets(C:Yc)(l:List Tie):Yc:=l.foldl (λC r=>C.set1 r.1) C
def Xi(es:List En):(enC es).map (·.1)=es.map (·.num):=by unfold enC;rw[ä];rfl
def look_iff{k:Int}:(kvs.lookup k).isSome=gM (k∈kvs.map (·.1)):=by
 cases z:kvs.lookup k with
 |none=>exact(gH<|Xu z).symm
 |some v=>exact(gJ (ö (f:=(·.1))<|Zy z)).symm
def W3{k:Int}(es:List En):enC (Yq k F es)=upC k F (enC es):=by
 unfold enC Yq upC;rw[ä,ä];refine Ď λe _=>?_;show((if e.num=k then({e with B:=F e.B}:En)else e).num,(if e.num=k then({e with B:=F e.B}:En)else e).B)=if e.num=k then(e.num,F e.B)else(e.num,e.B)
 split<;>rfl
def DH{p:Int}{t:Tie}(es:List En):enC (setT on p t es)=IL on p t (enC es):=by unfold setT IL;rw[W3,W3]
def Lh{k:Int}:((enC es).lookup k).isSome=((stands es).lookup k).isSome:=look_iff.trans ((decide_eq_decide.mpr<|by rw[Xi,ZI]).trans look_iff.symm)
def QS{p:Int}:onT Y p (Y.ts[p.toNat]?.getD (0,0,0))=onC Y.cc p:=by unfold onT onC;rw[<-Lh,<-Lh];rfl
def Ol{p:Int}:({Y with es:=setT (onT Y p<|Y.ts[p.toNat]?.getD (0,0,0)) p (Y.ts[p.toNat]?.getD (0,0,0)) Y.es}:Yd).cc=Y.cc.set1 p:=by rw[QS];unfold Yd.cc Yc.set1;dsimp only;rw[DH];rfl
def OT:∀(l:List Tie) (Y:Yd),(ZW Y l).cc=Y.cc.sets l
 |[],_=>rfl
 |r::l,Y=>(OT l _).trans (congrArg (Yc.sets · l)<|Ol (Y:=Y) (p:=r.1))
abbrev step(C:Yc):Dd->Option Yc
 |.tick b=>(C.br.lookup b).map λB=>{C with br:=upC b Br.ticked C.br,road:=C.road++Z6 C.ts b B.told}
 |.come p=>if p<0 then fc else(C.road[p.toNat]?).map λr=>{C with br:=upC r.2.1 (ZX · r.2.2.1 r.2.2.2) C.br,road:=C.road.eraseIdx p.toNat}
 |.lost p=>if p<0 then fc else(C.road[p.toNat]?).map λr=>{C with road:=C.road.eraseIdx p.toNat}
 |.fallB b=>if(C.br.lookup b).isSome then fb (Yc.sets {C with br:=Zz C.br b}<|gq b 0 C.ts)else fc
 |.fallT p=>if(0<=p/\p<C.ts.length)/\(C.fallen.lookup p).isSome=ff then fb (Yc.set1 {C with fallen:=ZB C.fallen p fe} p)else fc
 |.backB b=>if(C.br.lookup b).isSome then fc else(C.lives.lookup b).map λl=>Yc.sets {C with lives:=ZB C.lives b<|l+1,br:=C.br++[(b,ZZ b (l+1) C.most [])]}<|gq b 0 C.ts
 |.backT p=>if(C.fallen.lookup p).isSome then fb (Yc.set1 {C with fallen:=Zz C.fallen p} p)else fc
structure Bok(m:Nat)(B:Br):Prop where
 ok:B.ok
 pl:∀t∈B.ties,t.1<m
def Bok.ticked{m:Nat}(o:Bok m B):Bok m B.ticked:=⟨o.ok.ticked,λt ht=>o.pl t<|by rwa [show B.ticked.ties=B.ties from (Ym B.grown<|Yu B.grown).2.1]at ht⟩
def Bok.heard{m:Nat}(o:Bok m B){p:Int}{l:L}:Bok m<|ZX B p l:=⟨o.ok.heard,λt ht=>o.pl t<|by revert ht;unfold ZX;split<;>(try split)<;>exact id⟩
def Bok.tieF{m:Nat}(o:Bok m B){p far:Int}(h0:0<=p)(h1:p<m)(hm:m<=16):Bok m<|O.tieF on p far c B:=⟨Mx o.ok h0 (by lia),λt ht=>by
  unfold O.tieF at ht
  split at ht
  . unfold upB at ht
    split at ht
    . exact o.pl t ht
    . rcases Je ht with e|ht
      . rw[e];exact h1
      . exact o.pl t ht
  . exact o.pl t<|Yx ht⟩
structure Yc.gd(C:Yc)(N:Nat):Prop where
 no:fG C.bs C.ts
 nd:(C.br.map (·.1)).Nodup
 sub:∀q∈C.br,q.1∈C.bs
 ok:∀q∈C.br,Bok C.ts.length q.2
 lv:C.lives.map (·.1)=C.bs
 fn:(C.fallen.map (·.1)).Nodup
 fr:∀q∈C.fallen,0<=q.1/\q.1<C.ts.length
 len:C.road.length<=16*N
def X9{k:Int}(l:List<|Int×Br):(upC k F l).map (·.1)=l.map (·.1):=by unfold upC;rw[ä];refine Ď λe _=>?_;show(if e.1=k then(e.1,F e.2)else e).1=e.1;split<;>rfl
def EU{k:Int}{l:List (Int×Br)}{R:Br->Prop}(h:∀q∈l,R q.2)(hF:∀B,R B->R (F B)):∀q∈upC k F l,R q.2:=λq hq=>by
 let⟨e,he,rfl⟩:=ç.mp hq;split
 .exact hF _<|h e he
 .exact h e he
def keys_sub{l:List (Int×Br)}{bs:List Int}:(∀q∈l,q.1∈bs)↔∀x∈l.map (·.1),x∈bs:=⟨λh x hx=>by let⟨q,hq,rfl⟩:=ç.mp hx;exact h q hq,λh q hq=>h _<|ö hq⟩
variable {C:Yc} {N:Nat} {M:Nat} {rd:List (Int×Int×Int×L)}
def Yc.gd.upC{k:Int}(g:C.gd N)(hF:∀B,Bok C.ts.length B->Bok C.ts.length (F B))(hr:rd.length<=16*M):({C with br:=O.upC k F C.br,road:=rd}:Yc).gd M :=
 ⟨g.no,by show((O.upC k F C.br).map (·.1)).Nodup;rw[X9];exact g.nd,keys_sub.mpr (by show ∀x∈(O.upC k F C.br).map (·.1),_;rw[X9];exact keys_sub.mp g.sub),EU g.ok hF,g.lv,g.fn,g.fr,hr⟩
def Yc.gd.set1{p:Int}(g:C.gd N)(h0:0<=p)(h1:p<C.ts.length):(C.set1 p).gd N :=
 (g.upC (M:=N) (k:=(C.tie p).1) (F:=tieF (onC C p) p (C.tie p).2.1 (C.tie p).2.2) (λ_ o=>o.tieF h0 h1 g.no.sixteen) g.len).upC (λ_ o=>o.tieF h0 h1 g.no.sixteen) g.len
def Yc.gd.sets{N:Nat}:∀{l:List Tie}{C:Yc},C.gd N->(∀r∈l,0<=r.1/\r.1<C.ts.length)->(C.sets l).gd N
 |[],_,g,_=>g
 |r::l,C,g,h=>Yc.gd.sets (l:=l) (C:=C.set1 r.1) (g.set1 (h r<|by simp).1 (h r<|by simp).2) λq hq=>h q (by simp[hq])
def Yc.gd.more(g:C.gd N)(h:N<=M):C.gd M:=⟨g.no,g.nd,g.sub,g.ok,g.lv,g.fn,g.fr,Þ g.len<|dX _ h⟩
def Jl:∀(l:List Tie) (C:Yc),(C.sets l).bs=C.bs/\(C.sets l).ts=C.ts/\(C.sets l).most=C.most
 |[],_=>⟨rfl,rfl,rfl⟩
 |r::l,C=>Jl l<|C.set1 r.1
def BD{b:Int}:∀r∈gq b 0 ts,0<=r.1/\r.1<ts.length:=λr hr=>by have:=(Jp (b:=b) (l:=ts) (k:=0)).2 r hr;lia
def keys_look{b:Int}:(C.br.lookup b).isSome=fe↔b∈C.br.map (·.1):=by rw[look_iff];simp
def AF{b:Int}(o:B.ok):(Z6 ts b B.told).length<=16:=by unfold Z6;rw[À,sortI,ŷ,À];exact o.told.tlen
def Wt{D:Yc}{d:Dd}(g:C.gd N)(s:step C d=fb D):D.gd (N+1)/\D.bs=C.bs/\D.ts=C.ts/\D.most=C.most:=by
 have hlen:=g.len;cases d with
 |tick b =>let⟨B,hB,rfl⟩:=Ò.mp s;have ok:B.ok:=(g.ok _<|Zy hB).ok;have:=AF (ts:=C.ts) (b:=b) ok;exact⟨g.upC (λ_ o=>o.ticked) (by rw[Å];lia),rfl,rfl,rfl⟩
 |come p =>
  dsimp only[step]at s;split at s
  .cases s
  .obtain⟨r,hr,rfl⟩:=Ò.mp s;exact⟨g.upC (λ_ o=>o.heard)<|Þ (bT _ _)<|by lia,rfl,rfl,rfl⟩
 |lost p =>
  dsimp only[step]at s;split at s
  .cases s
  .obtain⟨r,hr,rfl⟩:=Ò.mp s;exact⟨⟨g.no,g.nd,g.sub,g.ok,g.lv,g.fn,g.fr,Þ (bT _ _)<|by lia⟩,rfl,rfl,rfl⟩
 |fallB b =>
  dsimp only[step]at s;split at s
  .cases s;refine⟨Yc.gd.more (Yc.gd.sets ⟨g.no,YR g.nd b,λq hq=>g.sub q<|Yx hq,λq hq=>g.ok q<|Yx hq,g.lv,g.fn,g.fr,hlen⟩ BD) (by lia),?_⟩;let⟨e1,e2,e3⟩:=Jl (gq b 0 C.ts) {C with br:=Zz C.br b};exact⟨e1,e2,e3⟩
  .cases s
 |fallT p =>
  dsimp only[step]at s;split at s
  .rename_i h;cases s;refine⟨Yc.gd.more (Yc.gd.set1 ⟨g.no,g.nd,g.sub,g.ok,g.lv,Wx g.fn p fe,λq hq=>?_,hlen⟩ h.1.1 h.1.2) (by lia),rfl,rfl,rfl⟩;rcases Je hq with e|hq
   .rw[e];exact h.1
   .exact g.fr q hq
  .cases s
 |backB b =>
  dsimp only[step]at s;split at s
  .cases s
  .rename_i h;let⟨l,hl,rfl⟩:=Ò.mp s;have hk:(C.lives.lookup b).isSome=fe:=by rw[hl];rfl
   have hb:b∈C.bs:=by rw[<-g.lv];rw[look_iff]at hk;exact of_decide_eq_true hk
   have hn:b∉C.br.map (·.1):=λz=>h<|keys_look.mpr z;refine⟨Yc.gd.more (Yc.gd.sets ⟨g.no,?_,λq hq=>?_,λq hq=>?_,?_,g.fn,g.fr,hlen⟩ BD) (by lia),?_⟩
   .show((C.br++[(b,ZZ b (l+1) C.most [])]).map (·.1)).Nodup;rw[Ì,ã];exact⟨g.nd,by simp,λa ha c hc=>by have hc:c=b:=Ö.mp hc;rw[hc];exact λz=>hn<|z▸ha⟩
   .rcases Û.mp hq with hq|hq
    .exact g.sub q hq
    .rw[Ö.mp hq];exact hb
   .rcases Û.mp hq with hq|hq
    .exact g.ok q hq
    .rw[Ö.mp hq];exact⟨UA,λt ht=>nomatch ht⟩
   .show(ZB C.lives b<|l+1).map (·.1)=_;rw[JP,gF hk];exact g.lv
   .exact Jl (gq b 0 C.ts) {C with lives:=ZB C.lives b<|l+1,br:=C.br++[(b,ZZ b (l+1) C.most [])]}
 |backT p =>
  dsimp only[step]at s;split at s
  .rename_i h;cases s;let⟨v,hv⟩:=ô.mp h;have hp:=g.fr _<|Zy hv;exact⟨Yc.gd.more (Yc.gd.set1 ⟨g.no,g.nd,g.sub,g.ok,g.lv,YR g.fn p,λq hq=>g.fr q<|Yx hq,hlen⟩ hp.1 hp.2) (by lia),rfl,rfl,rfl⟩
  .cases s
def WB{b:Int}:(Y.cc.br.lookup b).isSome=((stands Y.es).lookup b).isSome:=Lh
def Up{pre:List En}(he:Y.es=pre++e::ĵ)(nd:(Y.es.map (·.num)).Nodup):enC (pre++⟨e.num,e.b,t,d,F e.B⟩::ĵ)=upC e.num F (enC Y.es):=by rw[he]at nd ⊢;rw[<-W3,Nu nd];unfold enC;rw[Ì,Ì];rfl
def U8{pre:List En}(he:Y.es=pre++e::ĵ)(ht:t=e.t)(hd:d=e.d\/h d=fc):∀a∈({Y with es:=pre++⟨e.num,e.b,t,d,B⟩::ĵ,road:=rd}:Yd).adr,a∈Y.adr\/h a=fc:=λa ha=>by
 subst ht;unfold Yd.adr at ha ⊢;rw[he,YG];dsimp only at ha;rw[YG]at ha;simp only[Û,Ç,Õ,or_false]at ha ⊢;rcases hd with rfl|hd
 .exact .inl ha
 .rcases ha with ha|ha|(rfl|rfl|rfl)|ha
  .exact .inl<|.inl ha
  .exact .inl<|.inr<|.inl ha
  .exact .inl<|.inr<|.inr<|.inl<|.inl rfl
  .exact .inl<|.inr<|.inr<|.inl<|.inr<|.inl rfl
  .exact .inr hd
  .exact .inl<|.inr<|.inr<|.inr ha
def OF:∀{l bs:List Int},l.Nodup->(∀x∈l,x∈bs)->l.length<=bs.length
 |[],_,_,_=>ī _
 |a::l,bs,nd,h=>by have ha:=h a (by simp);have:=OF (l:=l) (bs:=bs.erase a) (Ā.mp nd).2 λx hx=>(List.mem_erase_of_ne λz:x=a=>(Ā.mp nd).1<|z▸hx).mpr (h x<|by simp[hx]);rw[bM ha]at this;have:=ca ha;rw[Ð];lia
variable {β:Type}
def Ac{p:Int}{f:Int×Int×Int×L->β}(hp:¬(0<=p/\p<Y.road.length)):(if p<0 then fc else(Y.cc.road[p.toNat]?).map f)=fc:=by
 split
 .rfl
 .rw[show Y.cc.road[p.toNat]?=fc from Ŷ<|by show Y.road.length<=_;lia];rfl
structure Mv(h:Hs)(Y:Yd)(g:Hs)(Z:Yd):Prop where
 y:Z.y=Y.y
 at_:fw g Z
 nw:∀a∈Z.adr,a∈Y.adr\/h a=fc
 ex:Ex Y.adr h g
def Mv.refl(x:fw h Y):Mv h Y h Y:=⟨rfl,x,λ_=>.inl,Ex.refl⟩
def Mv.off(m:Mv h Y g Z)(na:a∉Y.adr)(e:h a=fb o):a∉Z.adr/\g a=fb o:=⟨λz=>(m.nw a z).elim na λy=>(by rw[e]at y;cases y),m.ex.get na e⟩
def Mv.trans{f:Hs}(m:Mv h Y g Z)(l:Mv g Z f W):Mv h Y f W:=by
 refine⟨l.y.trans m.y,l.at_,λa ha=>?_,⟨λna e=>let ⟨h1,h2⟩:=m.off na e;l.ex.get h1 h2⟩⟩;rcases l.nw a ha with z|z
 .exact m.nw a z
 .by_cases na:a∈Y.adr
  .exact .inl na
  .cases e:h a with
   |none=>exact .inr rfl
   |some o=>rw[m.ex.get na e]at z;cases z
def MB{b:Int}(h:(stands es).lookup b=fc):b∉es.map (·.num):=by rw[<-ZI];exact Xu h
section
variable {Y:Yd}
def Wm{d:Dd}(x:fw h Y)(gd:Y.cc.gd N)(hN:N<=6000)(sd:(step Y.cc d).isSome=fe)(k:∀(Y':Yd) g',step Y.cc d=fb Y'.cc->Mv h Y g' Y'->Q .non g'):wF P (n+6) "Yard.deed" [.ref Y.y,d.v] h Q X:=by
 refine F8 x λg Q' x1 x' hq=>?_;have no:fG Y.bs Y.ts:=gd.no;have ok:∀e∈Y.es,Bok Y.ts.length e.B:=λe he=>gd.ok (e.num,e.B)<|ç.mpr ⟨e,he,rfl⟩;have oks:∀e∈Y.es,e.B.ok:=λe he=>(ok e he).ok;have hl:Y.road.length<=16*N:=gd.len;have key:=x.key;have xi:=x'.ins;have xs:=x'.stand;have xf:=x'.fallen;have xl:=x'.lives;have fin:∀{Y':Yd} {g'},fw g' Y'->step Y.cc d=fb Y'.cc->Y'.y=Y.y->(∀a∈Y'.adr,a∈Y.adr\/g a=fc)->Ex Y.adr g g'->∀v,Q' v g':=λ{Y' g'} y s e f ex v=>hq v g'<|k Y' g' s ⟨e,y,λa ha=>(f a ha).imp id λz=>Zf x1 z,(Ex.of x1).trans ex⟩;have bad:∀{p:Prop},step Y.cc d=fc->p:=λ{p} s=>by rw[s]at sd;cases sd
 have h10:Y.lives.length<=10:=by have e:=congrArg List.length gd.lv;rw[À]at e;have:=no.ten;have:Y.cc.bs.length=Y.bs.length:=rfl;have:Y.cc.lives.length=Y.lives.length:=rfl;lia
 have e10:Y.es.length<=10:=by
  have:=OF gd.nd<|keys_sub.mp gd.sub;have h2:(Y.cc.br.map (·.1)).length=Y.es.length:=by show((enC Y.es).map (·.1)).length=_;rw[Xi,À]
  have:=no.ten;have:Y.cc.bs.length=Y.bs.length:=rfl;lia
 have f16:Y.fallen.length<=16:=by
  have:=Yg (m:=16) gd.fn λx hx=>by let⟨q,hq,rfl⟩:=ç.mp hx;have:=gd.fr q hq;have:=no.sixteen;have:Y.cc.ts.length=Y.ts.length:=rfl;lia
  rw[À]at this;exact this
 clear sd;cases d with
 |tick b =>
  show wF P (n+5) "Yard.tick_of" [.ref Y.y,.int b] g Q' X;cases lk:(stands Y.es).lookup b with
  |none =>refine bad ?_;have:=WB (Y:=Y) (b:=b);rw[lk]at this;show(Y.cc.br.lookup b).map _=fc;rw[Option.isSome_eq_false_iff.mp this |> a9.mp];rfl
  |some a =>
   let⟨e,pre,ĵ,he,rfl,rfl⟩:=Xj lk;have hm:e∈Y.es:=by rw[he];simp
   refine Av x' he (oks e hm) (ok e hm).pl (by lia) λd' g2 y2 hd x2=>?_;refine fin y2 ?_ rfl (U8 he rfl<|.inr hd) x2 .non;show(Y.cc.br.lookup e.num).map _=_;rw[show Y.cc.br.lookup e.num=fb e.B from W0 gd.nd<|ç.mpr ⟨e,hm,rfl⟩];unfold Yd.cc;dsimp only;rw[Up (F:=Br.ticked) he key];rfl
 |come p =>
  show wF P (n+5) "Yard.come" [.ref Y.y,.int p] g Q' X;by_cases hp:0<=p/\p<Y.road.length
  .obtain⟨q,rfl⟩:∃q:Nat,p=q:=⟨p.toNat,by lia⟩
   have hr:=Ù (l:=Y.road) (i:=q) (by lia);generalize Y.road[q]'(by lia)=r at hr;have st:step Y.cc (.come q)=fb {Y.cc with br:=upC r.2.1 (ZX · r.2.2.1 r.2.2.2) Y.cc.br,road:=Y.road.eraseIdx q}:=by show(if(q:Int)<0 then fc else(Y.road[(q:Int).toNat]?).map _)=_;rw[gG (by lia),é,hr];rfl
   cases lk:(stands Y.es).lookup r.2.1 with
   |none =>refine B8 x' hr (by lia) (MB lk) λg2 y2 x2=>fin y2 ?_ rfl (λa ha=>.inl ha) x2 .non;rw[st];unfold Yd.cc;dsimp only;rw[<-W3,X0<|MB lk]
   |some a =>
    let⟨e,pre,ĵ,he,hn,rfl⟩:=Xj lk;have hm:e∈Y.es:=by rw[he];simp
    refine FT x' hr (by lia) he hn.symm (oks e hm) λg2 y2 x2=>fin y2 ?_ rfl (U8 he rfl<|.inl rfl) x2 .non;rw[st];unfold Yd.cc;dsimp only;rw[<-hn,Up (F:=(ZX · r.2.2.1 r.2.2.2)) he key]
  .exact bad<|Ac hp
 |lost p =>
  show wF P (n+5) "Yard.take_off" [.ref Y.y,.int p] g Q' X;by_cases hp:0<=p/\p<Y.road.length
  .obtain⟨q,rfl⟩:∃q:Nat,p=q:=⟨p.toNat,by lia⟩
   have hr:=Ù (l:=Y.road) (i:=q) (by lia);refine XM x' hr (by lia) λg2 y2 x2=>fin y2 ?_ rfl (λa ha=>.inl ha) (x2.sub λa ha=>by rw[Ö.mp ha];exact Ý _<|by simp) _;show(if(q:Int)<0 then fc else(Y.road[(q:Int).toNat]?).map _)=_;rw[gG (by lia),é,hr];rfl
  .exact bad<|Ac hp
 |fallB b =>
  show wF P (n+5) "Yard.fall_of_bridge" [.ref Y.y,.int b] g Q' X;have lc:=WB (Y:=Y) (b:=b);cases lk:(stands Y.es).lookup b with
  |none =>rw[lk]at lc;exact bad (gG<|by rw[lc];decide)
  |some a =>
   rw[lk]at lc;refine Cb no x' oks (by rw[<-ZI];exact ö (f:=(·.1))<|Zy lk) λg2 y2 gd2 x2=>?_;have sm:=YQ (gq b 0 Y.ts) {Y with es:=YB b Y.es};refine fin y2 ?_ sm.y (λa ha=>.inl ?_) x2 .non
   .rw[OT];refine(gF lc).trans ?_;congr 2;unfold Yd.cc;dsimp only;congr 1;unfold Zz enC YB;rw[List.filter_map];rfl
   .rw[sm.adr]at ha;exact((ś _).append<|W2<|Xx b Y.es).subset ha
 |fallT p =>
  show wF P (n+5) "Yard.fall_of_tie" [.ref Y.y,.int p] g Q' X;have htl:(Y.ts.map trV).length=Y.ts.length:=À _;by_cases hp:0<=p/\p<Y.ts.length
  .obtain⟨q,rfl⟩:∃q:Nat,p=q:=⟨p.toNat,by lia⟩
   have et:=Ù (l:=Y.ts) (i:=q) (by lia);have eg:Y.ts[(q:Int).toNat]?.getD (0,0,0)=Y.ts[q]'(by lia):=by rw[é,et];rfl
   cases lk:Y.fallen.lookup (q:Int)with
   |none =>
    refine CJ no x' oks et lk (by lia) λg2 y2 x2=>fin y2 ?_ rfl (λa ha=>.inl ?_) x2 .non
    .refine(gF ⟨hp,by show(Y.fallen.lookup _).isSome=ff;rw[lk];rfl⟩).trans<|congrArg fb ?_;have:=Ol (Y:={Y with fallen:=ZB Y.fallen q fe}) (p:=q);dsimp only at this;rw[eg]at this;exact this.symm
    .unfold Yd.adr at ha ⊢;dsimp only at ha
     rwa [Kg]at ha
   |some v =>exact bad (gG λz=>by have z:=z.2;have:(Y.fallen.lookup (q:Int)).isSome=ff:=z;rw[lk]at this;cases this)
  .exact bad<|gG λz=>hp z.1
 |backB b =>
  show wF P (n+5) "Yard.back_of_bridge" [.ref Y.y,.int b] g Q' X;have lc:=WB (Y:=Y) (b:=b);cases ll:Y.lives.lookup b with
  |none =>
   refine bad ?_;dsimp only[step];split
   .rfl
   .show(Y.lives.lookup b).map _=fc;rw[ll];rfl
  |some life =>
   cases lk:(stands Y.es).lookup b with
   |some a =>rw[lk]at lc;exact bad<|gF lc
   |none =>
    rw[lk]at lc;refine DD no x' oks ll (MB lk) (by lia) (by lia) λq t d' g2 fr y2 gd2 x2=>?_;have sm:=YQ (gq b 0 Y.ts) {Y with lives:=ZB Y.lives b<|life+1,es:=Y.es++[⟨b,q,t,d',ZZ b (life+1) Y.most []⟩]};refine fin y2 ?_ sm.y (λa ha=>?_) x2 .non
    .rw[OT];refine(gG<|by rw[lc];decide).trans ?_;show(Y.lives.lookup b).map _=_;rw[ll];congr 2;unfold Yd.cc;dsimp only;unfold enC;rw[Ì];rfl
    .rw[sm.adr]at ha;have z:a∈[Y.y,Y.lv,Y.st,Y.fl,Y.rd]++enA (Y.es++[⟨b,q,t,d',ZZ b (life+1) Y.most []⟩]):=ha;rw[YJ,<-û]at z;rcases Û.mp z with z|z
     .exact .inl z
     .exact .inr<|fr a z
 |backT p =>
  show wF P (n+5) "Yard.back_of_tie" [.ref Y.y,.int p] g Q' X;cases lk:Y.fallen.lookup p with
  |none =>exact bad (gG<|by show ¬(Y.fallen.lookup p).isSome=fe;rw[lk];decide)
  |some v =>
   have hp:=gd.fr _<|Zy lk;have bq:p<Y.ts.length:=hp.2;obtain⟨q,rfl⟩:∃q:Nat,p=q:=⟨p.toNat,by have:0<=p:=hp.1;lia⟩
   have et:=Ù (l:=Y.ts) (i:=q) (by lia);have eg:Y.ts[(q:Int).toNat]?.getD (0,0,0)=Y.ts[q]'(by lia):=by rw[é,et];rfl
   refine Ep no x' oks et lk λg2 y2 x2=>fin y2 ?_ rfl (λa ha=>.inl ?_) x2 .non
   .refine(gF<|by show(Y.fallen.lookup _).isSome=fe;rw[lk];rfl).trans<|congrArg fb ?_;have:=Ol (Y:={Y with fallen:=Zz Y.fallen q}) (p:=q);dsimp only at this;rw[eg]at this;exact this.symm
   .unfold Yd.adr at ha ⊢;dsimp only at ha
    rwa [Kg]at ha
end
abbrev Yc.at_(C:Yc)(b:Int):Br:=(C.br.lookup b).getD<|ZZ 0 0 0 []
abbrev Yc.keys(C:Yc):List Int:=sortI (C.br.map (·.1))
abbrev Lz(C:Yc):List Val:=C.keys.map λb=>.tup [.int b,(C.at_ b).label.v]
abbrev Fj(C:Yc)(b p:Int):String:=if(C.br.lookup b).isSome then BX (C.at_ b) p else "down"
abbrev Yc.ends(C:Yc)(p:Int):String×String:=(Fj C (C.tie p).1 p,Fj C (C.tie p).2.1 p)
abbrev Yc.downs(C:Yc):List Int:=C.bs.filter λb=>!(C.br.lookup b).isSome
abbrev Yc.cuts(C:Yc):List Int:=sortI (C.fallen.map (·.1))
def Yc.gd.ten(g:C.gd N):(C.br.map (·.1)).length<=10:=Þ (OF g.nd<|keys_sub.mp g.sub) g.no.ten
def Yc.gd.f16(g:C.gd N):(C.fallen.map (·.1)).length<=16:=Yg (m:=16) g.fn λx hx=>by let⟨q,hq,rfl⟩:=ç.mp hx;have:=g.fr q hq;have:=g.no.sixteen;lia
def NJ:C.keys.length=(C.br.map (·.1)).length:=(ŉ _ _).length_eq
def keys_mem{b:Int}:b∈C.keys↔(C.br.lookup b).isSome=fe:=by unfold Yc.keys;rw[mem_sort,keys_look]
def D0:C.cuts.length=(C.fallen.map (·.1)).length:=(ŉ _ _).length_eq
def fw.at_(x:fw h Y){b:Int}(hb:(Y.cc.br.lookup b).isSome=fe):∃e∈Y.es,e.num=b/\(O.stands Y.es).lookup b=fb e.b/\Y.cc.at_ b=e.B/\fv h e.b e.t e.d e.B:=by
 rw[WB]at hb;let⟨a,ha⟩:=ô.mp hb;let⟨e,pre,ĵ,he,rfl,rfl⟩:=Xj ha;have hm:e∈Y.es:=by rw[he];simp
 refine⟨e,hm,rfl,ha,?_,x.brs e hm⟩;have:(enC Y.es).lookup e.num=fb e.B:=W0 (by rw[Xi];exact x.key)<|ç.mpr ⟨e,hm,rfl⟩;show((enC Y.es).lookup e.num).getD _=_;rw[this];rfl
section
variable {Y:Yd}{N:Nat}
def Mf(x:fw h Y)(k:∀p g,h p=fc->Ext h g->g p=fb (.lst<|Y.road.map rdV)->Q (.ref p) g):wF P (n+1) "Yard.road" [.ref Y.y] h Q X:=by have xi:=x.ins;have xr:=x.road;refine Nt ?_;refine' Zb k
def Wa(x:fw h Y)(k:Q (ZN Y.bs Y.ts) h):wF P (n+1) "Yard.net" [.ref Y.y] h Q X:=by have xi:=x.ins;refine OH ?_;refine' k
def Bb(x:fw h Y)(gd:Y.cc.gd N)(k:∀p g,h p=fc->Ext h g->g p=fb (.lst<|Lz Y.cc)->Q (.ref p) g):wF P (n+2) "Yard.labels" [.ref Y.y] h Q X:=by
 have xi:=x.ins;have xs:=x.stand;have ek:(stands Y.es).map (·.1)=Y.cc.br.map (·.1):=(ZI _).trans (Xi _).symm;have h10:=gd.ten;have kl:=NJ (C:=Y.cc);refine Ky ?_;refine' Ow xs (Cm _) (by rw[ek];lia) (Zb λp1 g1 aF x1 e1=>?_);rw[ek]at e1;have x':=x.ext x1;have xi:=x'.ins;have xs:=x'.stand;refine' ⟨Ë (by rw[À];show Y.cc.keys.length<=10;lia) (by decide),?_⟩;refine Wo (λi ys g=>g=g1/\ys=(Y.cc.keys.take i).map λb=>.tup [.int b,(Y.cc.at_ b).label.v]) ⟨rfl,rfl⟩ (λi ys g _ ⟨z,_⟩=>by rw[z];exact lsE e1) ?_ ?_
 .rintro i v ys g hv ⟨rfl,rfl⟩ K hK;let⟨nm,hnm,rfl⟩:=ZO hv;let⟨e,he,en,lk,ea,ba⟩:=x'.at_<|keys_mem.mp<|ë hnm;have bi:=ba.ins;walk_at "p";refine Z7 xs rfl (by rw[Yh,lk];rfl) ?_
  exists Cg ba
  refine' hK _ _ ⟨rfl,?_⟩;rw[Zl (xs:=Y.cc.keys) hnm,Ì,<-ea];rfl
 .rintro ys g ⟨rfl,rfl⟩;rw[À,show(sortI (Y.cc.br.map (·.1))).length=Y.cc.keys.length from rfl,ñ];exact Zb λp g2 hp x2 ep=>k p g2 (Zf x1 hp) (x1.trans x2) ep
def Nv(x:fw h Y)(gd:Y.cc.gd N)(k:∀g,Ext h g->Q (.tup [.tup<|Y.cc.downs.map .int,.tup<|Y.cc.cuts.map .int]) g):wF P (n+1) "Yard.down" [.ref Y.y] h Q X:=by
 have xi:=x.ins;have xs:=x.stand;have hbl:(Y.bs.map Val.int).length<=10:=by rw[À];exact gd.no.ten
 refine N6 ?_
 exists fm (xs:=[.tup<|Y.bs.map .int,.tup<|Y.ts.map trV]) (v:=.tup<|Y.bs.map .int) rfl
 refine' ⟨Ë hbl (by decide),Wo (λi ys g=>g=h/\ys=((Y.bs.take i).filter λb=>!(Y.cc.br.lookup b).isSome).map .int) ⟨rfl,rfl⟩ (λ_ _ _ _ _=>trivial) ?_ ?_⟩
 .rintro i v ys g hv ⟨rfl,rfl⟩ K hK;let⟨b,hb,rfl⟩:=ZO hv;rw[Zl hb,d7,ħ,List.filter_nil]at hK
  exists Xz xs rfl
  rw[YU,<-WB];refine' gc (λhc=>?_) (λhc=>?_)
  .refine' hK _ _ ⟨rfl,by rw[hc,gF rfl,Ì];rfl⟩
  .exact hK _ _ ⟨rfl,by rw[hc,gG (by decide),í,cV,í]⟩
 rintro ys g ⟨rfl,rfl⟩;rw[À,ñ];refine Zb λp1 g1 aF x1 e1=>?_;have x':=x.ext x1;have xi:=x'.ins;have xf:=x'.fallen;refine' Ow xf (Cm _) (by have:=gd.f16;show(Y.cc.fallen.map (·.1)).length<_;lia) (Zb λp2 g2 bq x2 e2=>?_);refine' k _ (x1.trans x2)
def Nn{b p:Int}(x:fw h Y)(k:Q (.str<|Fj Y.cc b p) h):wF P (n+4) "Yard.end_at" [.ref Y.y,.int b,.int p] h Q X:=by
 have xi:=x.ins;have xs:=x.stand;refine Kq ?_
 exists Xz xs rfl
 rw[YU,<-WB];fail;unfold Fj at k;cases z:(Y.cc.br.lookup b).isSome with
 |false =>rw[z]at k;walk_at "p";exact k
 |true =>rw[z,gF rfl]at k;let⟨e,he,en,lk,ea,ba⟩:=x.at_ z;have bi:=ba.ins;walk_at "p";refine Z7 xs rfl (by rw[Yh,lk];rfl) ?_;fail;rw[ea]at k;exact IA ba k
def EX{p:Nat}(x:fw h Y)(hp:p<Y.ts.length)(k:Q (.tup [.str (Y.cc.ends p).1,.str (Y.cc.ends p).2]) h):wF P (n+5) "Yard.ends" [.ref Y.y,.int p] h Q X:=by
 have xi:=x.ins;have htl:(Y.ts.map trV).length=Y.ts.length:=À _;have eg:Y.cc.tie p=Y.ts[p]:=by show Y.ts[(p:Int).toNat]?.getD _=_;rw[é,Ù hp];rfl
 refine M8 ?_
 exists Xk
 fail;refine f8 (by simp) ?_
 exists fm (xs:=[.tup<|Y.bs.map .int,.tup<|Y.ts.map trV]) (v:=.tup<|Y.ts.map trV) rfl
 fail;refine f9 (by rw[htl];simpa using hp) ?_
 exists fm (xs:=[.tup<|Y.bs.map .int,.tup<|Y.ts.map trV]) (v:=.tup<|Y.ts.map trV) rfl
 refine' fm (v:=trV Y.ts[p]) (XO (by lia)<|by rw[é,ß,Ù hp];rfl) ?_;unfold Yc.ends at k;rw[eg]at k;unfold trV
 exists Nn x
 exists Nn x
 refine' k
end
def Qw{i:Int}(e:h a=fb (.lst<|ns.map .int))(q:KB (!gM (i∈ns))):go (fB h .notin (.int i)<|.ref a) KB:=fk (by show(inV h (.int i)<|.ref a).map _=_;unfold inV;simp![e];rw[MW];rfl) q
abbrev WF(bs:List Int)(ts:List Tie)(most:Int):Yc:=⟨bs,ts,most,bs.map λb=>(b,0),bs.map λb=>(b,ZZ b 0 most<|gq b 0 ts),[],[]⟩
def QH{bs:List Int}(nw:YNew bs ts most Y):Y.cc=WF bs ts most:=by
 have e:enC Y.es=bs.map λb=>(b,ZZ b 0 most<|gq b 0 ts):=by rw[<-nw.num,ä];exact Ď λe he=>by show(e.num,e.B)=(e.num,_);rw[nw.br e he]
 unfold Yd.cc WF;rw[nw.hb,nw.ht,nw.hm,nw.lives,nw.fallen,nw.road,e]
def E8{b:Int}(h:ts.length<=16):Bok ts.length<|ZZ b life most<|gq b 0 ts:=by
 have r:=Jp (b:=b) (l:=ts) (k:=0);have rg:∀q∈Xc (gq b 0 ts),0<=q.1/\q.1<ts.length:=λq hq=>by let⟨x,hx,rfl⟩:=ç.mp hq;have:=r.2 x hx;dsimp only;lia
 refine⟨⟨ġ,(λ_ m=>nomatch m),?_,λq hq=>?_⟩,λq hq=>(rg q hq).2⟩
 .show((Xc _).map (·.1)).Nodup;rw[Ae];exact r.1.imp λz=>by lia
 .have:=rg q hq;lia
def X7{bs:List Int}(no:fG bs ts):(WF bs ts most).gd 0:=by
 have e1:(bs.map λb=>(b,ZZ b 0 most<|gq b 0 ts)).map (·.1)=bs:=by rw[ä];exact Η _
 refine⟨no,?_,keys_sub.mpr ?_,λq hq=>?_,?_,ġ,(λ_ m=>nomatch m),Ï _⟩
 .show((bs.map λb=>(b,ZZ b 0 most<|gq b 0 ts)).map (·.1)).Nodup;rw[e1];exact no.up.imp λh=>by lia
 .show ∀x∈(bs.map λb=>(b,ZZ b 0 most<|gq b 0 ts)).map (·.1),_;rw[e1];exact λ_=>id
 .obtain⟨b,_,rfl⟩:=ç.mp hq;exact E8 no.sixteen
 .show(bs.map λb=>(b,(0:Int))).map (·.1)=bs;rw[ä];exact Η _
def K4{b:Int}(h:b∈C.br.map (·.1)):∃D,step C (.tick b)=fb D/\D.br.map (·.1)=C.br.map (·.1):=by let⟨B,hB⟩:=ZK h;refine⟨_,by show(C.br.lookup b).map _=_;rw[hB];rfl,X9 _⟩
def Ch{b:Int}(h:b∈C.keys):(step C<|.fallB b).isSome=fe:=by dsimp only[step];rw[gF<|keys_mem.mp h];rfl
def FC{b:Int}(h:b∈C.keys):(step C<|.tick b).isSome=fe:=by let⟨D,hD,_⟩:=K4<|keys_look.mp<|keys_mem.mp h;rw[hD];rfl
def cut_mem{p:Int}:p∈C.cuts↔(C.fallen.lookup p).isSome=fe:=by unfold Yc.cuts;rw[mem_sort,look_iff];simp
def B1{p:Int}(h0:0<=p)(h1:p<C.ts.length)(h:p∉C.cuts):(step C<|.fallT p).isSome=fe:=by dsimp only[step];rw[gF ⟨⟨h0,h1⟩,by cases z:(C.fallen.lookup p).isSome with|false=>rfl|true=>exact gL (cut_mem.mpr z) h⟩];rfl
def Bz{p:Int}(h:p∈C.cuts):(step C<|.backT p).isSome=fe:=by dsimp only[step];rw[gF<|cut_mem.mp h];rfl
def downs_mem{b:Int}:b∈C.downs↔b∈C.bs/\(C.br.lookup b).isSome=ff:=by unfold Yc.downs;rw[ŀ];simp
def Eu{b:Int}(g:C.gd N)(h:b∈C.downs):(step C<|.backB b).isSome=fe:=by let⟨h1,h2⟩:=downs_mem.mp h;dsimp only[step];rw[gG<|by rw[h2];decide];rw[<-g.lv]at h1;let⟨v,hv⟩:=ZK h1;rw[hv];rfl
def MT(h0:0<=r)(h1:r<C.road.length):(step C<|.lost r).isSome=fe/\(step C<|.come r).isSome=fe:=by have e:=Ù (l:=C.road) (i:=r.toNat) (by lia);dsimp only[step];rw[gG (by lia),e];exact⟨rfl,by rw[gG<|by lia];rfl⟩
def pick(r0:0<=r)(r1:r<ns.length):∃b∈ns,atI (ns.map Val.int) r=fb (.int b):=by let⟨b,hb,hm⟩:=OE r0 r1;exact⟨b,hm,XO r0<|by rw[ß,hb];rfl⟩
abbrev flat:Nat->Val->Bool
 |_,.non=>fe
 |_,.bl _=>fe
 |_,.int _=>fe
 |_,.str _=>fe
 |n+1,.tup xs=>xs.all<|flat n
 |_,_=>ff
def M0{α β:Type}{f:α->Option β}:∀{xs:List α},(∀x∈xs,∃d,f x=fb d)->∃ds,xs.mapM f=fb ds
 |[],_=>⟨[],rfl⟩
 |x::xs,h=>by let⟨d,hd⟩:=h x (by simp);let⟨ds,hds⟩:=M0 (xs:=xs) λy hy=>h y (by simp[hy]);exact⟨d::ds,by rw[Ϡ,hd,hds];rfl⟩
def Nh{h:Hs}:∀{n:Nat}{v:Val},flat n v=fe->∃d,dat h n v=fb d
 |0,.non,_=>⟨_,rfl⟩
 |0,.bl _,_=>⟨_,rfl⟩
 |0,.int _,_=>⟨_,rfl⟩
 |0,.str _,_=>⟨_,rfl⟩
 |n+1,.non,_=>⟨_,rfl⟩
 |n+1,.bl _,_=>⟨_,rfl⟩
 |n+1,.int _,_=>⟨_,rfl⟩
 |n+1,.str _,_=>⟨_,rfl⟩
 |n+1,.tup xs,e=>by let⟨ds,hds⟩:=M0 (f:=dat h n) (xs:=xs) λx hx=>Nh<|ÿ.mp e x hx;exact⟨_,by show(xs.mapM<|dat h n).map D.tup=_;rw[hds];rfl⟩
def PM{xs:List Val}(ea:h a=fb (.lst xs))(eb:h b=fb (.lst xs))(e:xs.all (flat 11)=fe):eqV h (.ref a) (.ref b)=fb fe:=by
 let⟨ds,hds⟩:=M0 (f:=dat h 11) (xs:=xs) λx hx=>Nh<|ÿ.mp e x hx;have h1:∀{c:Ad},h c=fb (.lst xs)->dat h deep (.ref c)=fb (.lst ds):=λ{c} ec=>by show(fx<|h c).bind (λxs=>(xs.mapM<|dat h 11).map D.lst)=_;rw[ec,Yy,ú,hds];rfl
 unfold eqV;rw[h1 ea,h1 eb];show fb (D.eqv _ _)=_;rw[D.eqv_refl]
def all_map{α:Type}{f:α->Val}{n:Nat}{xs:List α}(h:∀x∈xs,flat n (f x)=fe):(xs.map f).all (flat n)=fe:=by rw[List.all_map];exact ÿ.mpr h
def AU(ix:List Nat)(ns:List Int):pickL ix (ns.map Val.int)=(pickL ix ns).map .int:=by unfold pickL;rw[List.map_filterMap];exact congrArg (λf=>List.filterMap f ix) (funext λi=>ß)
section
variable {Y:Yd}{N:Nat}
def JY{bs:List Int}(no:fG bs ts)(hp:h p=fc)(k:∀Y g,Y.y=p->fw g Y->Y.cc=WF bs ts most->(∀a∈Y.adr,h a=fc)->Ext h g->Q .non g):wF P (n+3) "Yard.__init__" [.ref p,ZN bs ts,.int most] (upd h p<|.ins "Yard" []) Q X:=Da no hp λY g e y nw f x=>k Y g e y (QH nw) f x
end
def DL{st:Hs->Prop}{step:Val->Hs->(Option Val->Hs->Prop)->XQ->Prop}{Q:List Val->Hs->Prop}{f:α->Val}{l:List α}(p:α->Bool)(v:α->Val)(Š:st h)(go:∀x∈l,∀K,(p x=fe->K (fb<|v x) h)->(p x=ff->K fc h)->step (f x) h K X)(fin:Q ((l.filter p).map v) h):wComp st step (l.map f) [] h Q X:=by
 refine Wo (λi ys g=>g=h/\ys=((l.take i).filter p).map v) ⟨rfl,rfl⟩ (λ_ _ _ _ z=>z.1▸Š) ?_ ?_
 .rintro i u ys g hv ⟨rfl,rfl⟩ K hK;let⟨x,hx,rfl⟩:=ZO hv;rw[Zl hx,d7,ħ,List.filter_nil]at hK;exact go x (ë hx) K (λe=>hK _ _ ⟨rfl,by rw[e,gF rfl,Ì];rfl⟩) λe=>hK _ _ ⟨rfl,by rw[e,gG (by decide),í,cV,í]⟩
 .rintro ys g ⟨rfl,rfl⟩;rw[À,ñ];exact fin
def WK{st:Hs->Prop}{step:Val->Hs->(Option Val->Hs->Prop)->XQ->Prop}{Q:List Val->Hs->Prop}{f:α->Val}{l:List α}(v:α->Val)(Š:st h)(go:∀x∈l,∀K,K (fb<|v x) h->step (f x) h K X)(fin:Q (l.map v) h):wComp st step (l.map f) [] h Q X:=DL (λ_=>fe) v Š (λx hx K h1 _=>go x hx K<|h1 rfl) (by rw[dr.mpr λ_ _=>rfl];exact fin)
def Hc(m:Nat):fP 0 (m:Int)=(List.range m).map λi:Nat=>.int i:=by unfold fP;rw[cB,é];exact Ď λi _=>by rw[Int.zero_add]
abbrev opn(C:Yc)(p:Nat):List Tie:=if C.ends p=("child","parent")then [((p:Int),(C.tie p).1,(C.tie p).2.1)]else if C.ends p=("parent","child")then [((p:Int),(C.tie p).2.1,(C.tie p).1)]else []
abbrev Xo(C:Yc)(m:Nat):List Tie:=(List.range m).flatMap<|opn C
def UH{m:Nat}:Xo C (m+1)=Xo C m++opn C m:=by unfold Xo;rw[List.range_succ,ι];simp
def Wy{C:Yc}:∀m:Nat,(Xo C m).length<=m
 |0=>Ï _
 |m+1=>by
  have:=Wy (C:=C) m;have:(opn C m).length<=1:=by
   unfold opn;split
   .exact Ï _
   .split
    .exact Ï _
    .exact ī _
  rw[UH,Å];lia
def Ht{a b c d:String}:eqV h (.tup [.str a,.str b]) (.tup [.str c,.str d])=fb (gM ((a,b)=(c,d))):=by
 show fb (D.eqv (.tup [.str a,.str b])<|.tup [.str c,.str d])=_;congr 1;simp![D.eqv,D.eqvs,Λ];by_cases h1:a=c
 .by_cases h2:b=d
  .subst h1;subst h2;simp
  .simp[h2]
 .simp[h1]
section
variable {Y:Yd}{N:Nat}{C:Yc}
def Ps{t:Tie}(h:C.ts[i]?=fb t):C.tie i=t:=by show C.ts[(i:Int).toNat]?.getD _=_;rw[é,h];rfl
def U1(x:fw h Y)(gd:Y.cc.gd N)(k:∀p g,h p=fc->Ext h g->g p=fb (.lst<|(Xo Y.cc Y.ts.length).map trV)->Q (.ref p) g):wF P (n+6) "open_ways" [.ref Y.y] h Q X:=by
 have t16:Y.ts.length<=16:=gd.no.sixteen;refine N4 ?_;refine' Zb λp g1 hp x1 e1=>?_;have y1:=x.ext x1;have yi:=y1.ins
 exists Wa y1
 exists fm (xs:=[.tup<|Y.bs.map .int,.tup<|Y.ts.map trV]) (v:=.tup<|Y.ts.map trV) rfl
 exists fk rfl
 refine Zg (λi en g=>Sm3 λv2 v3 v4=>Cj3 (en=[fb<|.ref Y.y,fb<|.ref p,v2,v3,v4]) (Ext h g)<|g p=fb (.lst<|(Xo Y.cc i).map trV)) ⟨_,_,_,rfl,x1,e1⟩ (λ_ _ _ _ _=>trivial) ?_ ?_
 .rintro i v en g hv ⟨v2,v3,v4,rfl,xg,ep⟩ K hK;let⟨z,hz,rfl⟩:=Ms hv;rw[ß]at hz;let⟨t,ht,rfl⟩:=Ò.mp hz;have hi:i<Y.ts.length:=(Î.mp ht).1;rw[Ų];have yg:=x.ext xg;have yi:=yg.ins;have ol:=Wy (C:=Y.cc) i;have et:Y.cc.tie i=t:=Ps (C:=Y.cc) ht;rw[UH]at hK;unfold opn at hK;rw[et]at hK
  exists EX yg hi
  exists Mc Ht
  fail;unfold trV;refine gb (λc1=>?_) λc1=>?_
  .rw[gF c1]at hK;refine' Zv ep (by rw[À,lim];lia) ?_;refine' hK _ _ ⟨_,_,_,rfl,Ye xg hp,by rw[Ì];exact fh⟩
  rw[gG c1]at hK
  exists Mc Ht
  refine' gb (λc2=>?_) (λc2=>?_)
  .rw[gF c2]at hK;refine' Zv ep (by rw[À,lim];lia) ?_;refine' hK _ _ ⟨_,_,_,rfl,Ye xg hp,by rw[Ì];exact fh⟩
  .rw[gG c2,í]at hK;refine' hK _ _ ⟨_,_,_,rfl,xg,ep⟩
 .rintro en g ⟨v2,v3,v4,rfl,xg,ep⟩;rw[Ka,À]at ep;refine' k p g hp xg ep
end
def MX(kvs:List<|Val×Val)(e1:h a=fb (.dct kvs))(q:new h (.dct kvs) Q):(biV h .dict [.ref a]).wp h Q:=wp_new (by show Oz h (.ref a)=_;unfold Oz;simp![e1]) q
section
variable {Y:Yd}{N:Nat}
def BJ(x:fv h b t d B)(k:∀a t' d' g,h a=fc->h t'=fc->h d'=fc->fv g a t' d' B->Ext h g->Q (.ref a) g):wF P (n+2) "Bridge.twin" [.ref b] h Q X:=by
 have hi:=x.ins;have ht:=x.ties;have hd:=x.held;refine Kx ?_;refine' Zb λl g1 hl x1 e1=>?_;fail;intro a ha;have ha0:=Zf x1 ha;have nla:l≠a:=Za e1 ha;refine MK (rs:=[]) fh ((fg nla).trans e1) ġ (ī _) λt1 d1 g2 _ _ b2 y2=>⟨rfl,?_⟩
 have x2:Ext h g2:=⟨λ{c o} e=>y2.get (by simpa using Za (x1.get e) ha)<|(fg<|Za (x1.get e) ha).trans<|x1.get e⟩
 have i2:=b2.ins;have nb:=Za hi ha0;have nd:=Za hd ha0;clear b2 y2 e1 nla hl;refine' MX (Zh OB B.ties) (x2.get ht) (Zb λt' g3 ht' x3 e3=>?_);have nt:=Za i2 ht';refine' MX (Zh hdV B.held) (upd_ne' nd<|(x2.trans x3).get hd) (Z8 λd' cG=>?_);have nad:a≠d':=λz=>by rw[<-z,fh]at cG;cases cG
 have ej:g3 d'=fc:=by rw[fg nad.symm]at cG;exact cG
 have ntd:t'≠d':=Za e3 ej;have nbd:=Za ((x2.trans x3).get hi) ej;refine' ZT (upd_ne' nad fh) (show(8:Nat)<900 by decide) ?_;refine' ZT fh (show(8:Nat)<900 by decide) ?_;refine' ZT fh (show(8:Nat)<900 by decide) ?_;refine' ZT fh (show(8:Nat)<900 by decide) ?_;fail;simp![fi];refine k a t' d' _ ha0 (Zf x2 ht') (Zf (x2.trans x3) ej) ⟨fh,?_,?_,ntd⟩ ⟨λ{c o} e=>?_⟩
 .rw[fg nt.symm,fg ntd,fg nt.symm];exact e3
 .rw[fg nad.symm];exact fh
 .have n1:=Za e ha0;rw[fg n1,fg<|Za ((x2.trans x3).get e) ej,fg n1];exact(x2.trans x3).get e
def WJ(hb:∀e∈es,fv g e.b e.t e.d e.B)(ha:a∈enA es):g a≠fc:=by
 let⟨e,he,ha⟩:=Ĳ.mp ha;have:=hb e he;simp![Ç,Õ,or_false]at ha;rcases ha with rfl|rfl|rfl
 .rw[this.ins];simp
 .rw[this.ties];simp
 .rw[this.held];simp
def Y5{f:Hs}{S:List Ad}(hb:∀e∈es,fv g e.b e.t e.d e.B)(x:Ex S g f)(n:∀a∈enA es,a∉S):∀e∈es,fv f e.b e.t e.d e.B:=λe he=>by let⟨q1,q2,q3⟩:=XS he;exact(hb e he).keep x (n _ q1) (n _ q2) (n _ q3)
structure Hid(p:Prop):Prop where
 h:p
def Dp(x:fw h Y)(gd:Y.cc.gd N)(k:∀Z g,fw g Z->Z.cc=Y.cc->(∀a∈Z.adr,h a=fc)->Ext h g->Q (.ref Z.y) g):wF P (n+4) "Yard.twin" [.ref Y.y] h Q X:=by
 have xi:=x.ins;have t16:Y.ts.length<=16:=gd.no.sixteen;have hel:Y.es.length<=10:=by have:=gd.ten;rw[show Y.cc.br=enC Y.es from rfl,Xi,À]at this;exact this
 refine NF ?_;fail;intro p hp;have npA:p∉Y.adr:=λz=>x.taken z hp;refine JY (n:=n) gd.no hp λY0 g1 ey y0 cc f0 x1=>⟨rfl,?_⟩
 subst ey;have i1:=y0.ins;rw[show Y0.bs=Y.bs from congrArg Yc.bs cc,show Y0.ts=Y.ts from congrArg Yc.ts cc,show Y0.most=Y.most from congrArg Yc.most cc]at i1;generalize Y0.fl=fl0 at i1;generalize Y0.rd=rd0 at i1;generalize Y0.lv=lv0 at i1;generalize Y0.st=st0 at i1;generalize Y0.y=p at *;clear y0 cc f0;have e1:Ex [p] h g1:=.of x1;have keep:∀{g:Hs},Ex [p] h g->fw g Y:=λe=>x.keep e λa ha z=>npA<|Ö.mp z▸ha;have yl:=(keep e1).lives;have nli:=(keep e1).ins;fail
 replace i1:=Hid.mk i1
 refine MX (Zh Val.int Y.lives) yl<|Z8 λlv dg=>?_;refine' Yr i1.h e1 hp dg (show(6:Nat)<900 by decide) λg2 i2 lv2 x2 y2 nlv flv=>?_
 replace i2:=Hid.mk i2
 fail;intro st Š;refine' Yr i2.h x2 hp Š (show(6:Nat)<900 by decide) λg3 i3 dD x3 y3 nst fst=>?_;have lv3:=y3.get (by simpa using nlv.symm) lv2;have nls:lv≠st:=Za lv2 Š
 replace i3:g3 p=fb (.ins "Yard" [("net_made_of",ZN Y.bs Y.ts),("greatest_age",.int Y.most),("lives",.ref lv),("standing",.ref st),("ties_fallen",.ref fl0),("letters_on_road",.ref rd0)]):=i3
 have z3:=keep x3;have z3i:=z3.ins;have z3s:=z3.stand;have nyp:Y.y≠p:=λz=>npA (z▸Ý _ (by simp));have bW:∀{a:Ad},h a=fc->a≠Y.st:=λe z=>by rw[z,x.stand]at e;cases e
 clear y2 y3 i2 i1 lv2 yl nli dg Š x2 e1;refine' Zg (λi en g=>∃v2 v3 es,en=[fb<|.ref Y.y,fb<|.ref p,v2,v3]/\Ex [Y.st] h g/\g Y.st=fb (.frz<|Zh rfV<|stands Y.es)/\g p=fb (.ins "Yard" [("net_made_of",ZN Y.bs Y.ts),("greatest_age",.int Y.most),("lives",.ref lv),("standing",.ref st),("ties_fallen",.ref fl0),("letters_on_road",.ref rd0)])/\g lv=fb (.dct<|Zh Val.int Y.lives)/\g st=fb (.dct<|Zh rfV<|stands es)/\es.map (λe=>(e.num,e.B))=(Y.es.take i).map (λe=>(e.num,e.B))/\(∀e∈es,fv g e.b e.t e.d e.B)/\([p,lv,st]++enA es).Nodup/\∀a∈enA es,h a=fc) ⟨_,_,[],rfl,?_,fh,(fg<|bW hp).trans i3,(fg<|bW flv).trans lv3,(fg<|bW fst).trans dD,rfl,(λe he=>gL he Õ),by simp[enA,nlv,nst,nls],by simp[enA]⟩ (λ_ _ _ _ ⟨_,_,_,_,_,e,_⟩=>e) ?_ ?_
 .exact⟨λ{a o} na e=>by rw[fg<|by simpa using na];exact x3.get (by simpa using Za e hp) e⟩
 .rintro i v en g hv ⟨v2,v3,es,rfl,xg,ef,ip,elv,est,em,hb,nd,fr⟩ K hK;let⟨q,hq,rfl⟩:=Jw hv;unfold stands at hq;rw[ß]at hq;let⟨e,he,rfl⟩:=Ò.mp hq;have hm:=ë he;have eb:fv g e.b e.t e.d e.B:=Y5 x.brs xg (λa ha z=>Yd.sep x.nd (by simp) ha<|Ö.mp z) e hm;have ebi:=eb.ins;have nyst:Y.y≠Y.st:=(Yd.five x.nd).1.2.1;have nyi:=xg.get ⇑nyst xi;unfold rfV;refine' BJ eb λa t' d' g4 ha ht hd b4 x4=>?_;have ip4:=x4.get ip;have est4:=x4.get est;have esl:es.length<=10:=by have:=congrArg List.length em;rw[À,À,Ě]at this;lia
  have kn:e.num∉(stands es).map (·.1):=by
   have e1:es.map (·.num)=(Y.es.take i).map (·.num):=by have:=congrArg (List.map (·.1)) em;rwa [ä,ä]at this
   rw[ZI,e1];exact Yn x.key he
  refine' Yv (k:=.int e.num) est4 ⟨rfl,by rw[J3];unfold stands;rw[À];exact Ë esl<|by decide⟩ ?_;rw[show fK (Zh rfV<|stands es) (.int e.num) (.ref a)=Zh rfV (stands<|es++[⟨e.num,a,t',d',e.B⟩]) from (Z3 (val:=rfV) (stands es) e.num a).trans<|by rw[Xq _ kn];unfold stands;rw[Ì];rfl];have fresh:∀{c:Ad},g c=fc->h c=fc:=λ{c} hc=>by
   cases z:h c with
   |none=>rfl
   |some o =>
    by_cases e:c=Y.st
    .rw[e,ef]at hc;cases hc
    .rw[xg.get ⇑e z]at hc;cases hc
  have tk:∀c∈[p,lv,st]++enA es,g c≠fc:=λc hc=>by
   rcases Û.mp hc with hc|hc
   .simp![Ç,Õ,or_false]at hc;rcases hc with rfl|rfl|rfl
    .rw[ip];simp
    .rw[elv];simp
    .rw[est];simp
   .exact WJ hb hc
  have nst4:∀{c:Ad},g c=fc->c≠st:=λhc z=>by rw[z,est]at hc;cases hc
  have nd':=ã.mp nd;have ns:∀c∈enA es,c∉[st]:=λc hc z=>nd'.2.2 st (by simp) c hc (Ö.mp z).symm;have k1:=(Ā.mp nd).1;have b5:fv (upd g4 st<|.dct<|Zh rfV<|stands<|es++[⟨e.num,a,t',d',e.B⟩]) a t' d' e.B:=⟨(fg<|nst4 ha).trans b4.ins,(fg<|nst4 ht).trans b4.ties,(fg<|nst4 hd).trans b4.held,b4.ne⟩
  refine' hK _ _ ⟨_,_,es++[⟨e.num,a,t',d',e.B⟩],rfl,⟨λ{c o} nc z=>?_⟩,(fg (bW fst).symm).trans<|x4.get ef,(fg nst).trans ip4,(fg nls).trans<|x4.get elv,fh,?_,λc hc=>?_,?_,λc hc=>?_⟩
  .rw[fg<|Za z fst];exact x4.get<|xg.get nc z
  .rw[Zl he,Ì,Ì,em];rfl
  .rcases Û.mp hc with hc|hc
   .exact Y5 (λe he=>(hb e he).ext x4) (Ex.upd (S:=[st])<|by simp) ns c hc
   .rw[Ö.mp hc];exact b5
  .rw[YJ,<-û,ã];refine⟨nd,by simp[b4.nbt,b4.nbd,b4.ne],λc hc c' hc' z=>tk c hc ?_⟩;simp![Ç,Õ,or_false]at hc';rcases hc' with rfl|rfl|rfl<;>rw[z]<;>assumption
  .rw[YJ]at hc;rcases Û.mp hc with hc|hc
   .exact fr c hc
   .simp![Ç,Õ,or_false]at hc;rcases hc with rfl|rfl|rfl<;>apply fresh<;>assumption
 .rintro en g ⟨v2,v3,es,rfl,xg,ef,ip,elv,est,em,hb,nd,fr⟩;refine⟨ef,?_⟩;rw[show(Zh rfV<|stands Y.es).map (itemOf ff)=(Zh rfV<|stands Y.es).map (itemOf ff) from rfl,D6,show(stands Y.es).length=Y.es.length from À _,ñ]at em;have xe:Ext h<|upd g Y.st<|.dct<|Zh rfV<|stands Y.es:=⟨λ{c o} z=>by
    by_cases e:c=Y.st
    . rw[e,fh,<-x.stand,<-e];exact z
    . rw[fg e];exact xg.get ⇑e z⟩
  have nS:∀{a:Ad},h a=fc->a∉[Y.st]:=λe z=>bW e<|Ö.mp z;have ip:=(fg (o:=.dct<|Zh rfV<|stands Y.es)<|bW hp).trans ip;have elv:=(fg (o:=.dct<|Zh rfV<|stands Y.es)<|bW flv).trans elv;have est:=(fg (o:=.dct<|Zh rfV<|stands Y.es)<|bW fst).trans est;have hb:=Y5 hb (Ex.upd (w:=Y.st) (S:=[Y.st]) (o:=.dct<|Zh rfV<|stands Y.es)<|by simp) λa ha=>nS<|fr a ha;generalize upd g Y.st (.dct<|Zh rfV<|stands Y.es)=g5 at xe ip elv est hb ⊢;have y5:=x.ext xe;have y5i:=y5.ins;fail
  replace ip:=Hid.mk ip
  refine MX (Zh Val.bl Y.fallen) y5.fallen<|Z8 λfl hfl=>?_;refine' Yr ip.h (.of xe) hp hfl (show(6:Nat)<900 by decide) λg6 i6 fl6 x6 y6 nfl ffl=>?_;have elv6:=y6.get (by simpa using nlv.symm) elv;have est6:=y6.get (by simpa using nst.symm) est;have npE:∀a∈enA es,a∉[p]:=λa ha z=>(ã.mp nd).2.2 p (by simp) a ha (Ö.mp z).symm;have hb6:=Y5 hb y6 npE;have y6':=keep x6;have y6i:=y6'.ins;have y6r:=y6'.road
  replace i6:=Hid.mk i6
  refine' Z8 λrd hrd=>?_;refine' Yr i6.h x6 hp hrd (show(6:Nat)<900 by decide) λg7 i7 rd7 x7 y7 nrd frd=>?_;have elv7:=y7.get (by simpa using nlv.symm) elv6;have est7:=y7.get (by simpa using nst.symm) est6;have efl7:=y7.get (by simpa using nfl.symm) fl6;have hb7:=Y5 hb6 y7 npE;have q1:=Za elv hfl;have q2:=Za est hfl;have q3:=Za elv6 hrd;have q4:=Za est6 hrd;have q5:=Za fl6 hrd;have tk:∀a∈enA es,a≠fl/\a≠rd:=λa ha=>⟨λz=>WJ hb ha<|z▸hfl,λz=>WJ hb6 ha<|z▸hrd⟩
  refine' k ⟨p,lv,st,fl,rd,Y.bs,Y.ts,Y.most,Y.lives,es,Y.fallen,Y.road⟩ g7 ⟨i7,elv7,est7,efl7,rd7,hb7,?_,?_⟩ ?_ (λa ha=>?_) ⟨λ{a o} e=>x7.get (by simpa using Za e hp) e⟩
  .show([p,lv,st,fl,rd]++enA es).Nodup;let⟨n1,n2,n3⟩:=ã.mp nd;refine ã.mpr ⟨by simp[nlv,nst,nfl,nrd,nls,q1,q2,q3,q4,q5],n2,λa ha c hc z=>?_⟩;simp![Ç,Õ,or_false]at ha;rcases ha with rfl|rfl|rfl|rfl|rfl
   .exact n3 _ (by simp) c hc z
   .exact n3 _ (by simp) c hc z
   .exact n3 _ (by simp) c hc z
   .exact(tk c hc).1 z.symm
   .exact(tk c hc).2 z.symm
  .show(es.map (·.num)).Nodup;have:=congrArg (List.map (·.1)) em;rw[ä,ä]at this;rw[show es.map (·.num)=Y.es.map (·.num) from this];exact x.key
  .show(⟨Y.bs,Y.ts,Y.most,Y.lives,enC es,Y.fallen,Y.road⟩:Yc)=⟨Y.bs,Y.ts,Y.most,Y.lives,enC Y.es,Y.fallen,Y.road⟩
   rw[show enC es=enC Y.es from em]
  .rcases Û.mp ha with ha|ha
   .simp![Ç,Õ,or_false]at ha;rcases ha with rfl|rfl|rfl|rfl|rfl<;>assumption
   .exact fr a ha
end
abbrev tl:Nat->Ss->Ss
 |0,s=>s
 |n+1,s=>match s with|.nil=>.nil|.cons _ r=>tl n r
def ZL(r m:Int)(h:0<m:=by decide):0<=r % m/\r % m<m:=⟨Į r (by lia),Ĩ r h⟩
abbrev rst(c:Int):Int:=(if c<0 then -c else c)*(if gM ((1000000000000000000:Int)<=if c<0 then -c else c)=fe then 1 else 0)
abbrev Purse(h:Hs)(w:Ad):Prop:=∃ns:List Int,h w=fb (.lst<|ns.map .int)
def Purse.ne(x:Purse h w)(e:h p=fc):w≠p:=by let⟨_,x⟩:=x;exact Za x e
def Purse.ext(x:Purse h w)(e:Ext h g):Purse g w:=by let⟨_,x⟩:=x;exact⟨_,e.get x⟩
def Purse.exb(x:Purse h w)(n:p≠w):Purse (upd h p o) w:=by let⟨_,x⟩:=x;exact⟨_,(fg n.symm).trans x⟩
def Wd(x:ExtB w h g)(e:h p=fc):ExtB w h<|upd g p o:=⟨λ{a u} n z=>by rw[fg<|Za z e];exact x.get n z⟩
def Qc{xs:List Val}{v:Val}{K:Val×Hs->Prop}(e1:h a=fb (.lst<|xs++[v]))(q:K (v,upd h a<|.lst xs)):go (bmV h .pop (.ref a) []) K:=fk (by
  show(fx<|h a).bind _=_
  rw[lsE e1]
  rw[ú]
  unfold Hy
  simp) q
def Zi(hw:Purse h w)(k:∀r g,ExtB w h g->Purse g w->Q (.int r) g):wF P (n+1) "_law_next" [.ref w] h Q X:=by
 let⟨ns,e⟩:=hw;refine Ou ?_;refine' Zb λp g hp x ep=>?_;have e:=x.get e;refine c_eqE e ep ?_;rcases List.eq_nil_or_concat ns with rfl|⟨l,r,rfl⟩<;>try rw[List.concat_eq_append]at e ⊢
 .walk_at "p";exact k _ _ (.of x) ⟨_,e⟩
 .rw[Ì,Ó,ū]at e;rw[Ì,Ó,ū];fail;refine f9 (by simp) ?_
  exists Qc e
  exact k _ _ ((ExtB.of x).trans .upd) ⟨_,fh⟩
def B3{j:Int}(j0:0<=j)(j1:j<=1000)(k:∀r,Q (.int r) h):wF P (n+1) "_law_mixed" [.int c,.int j] h Q X:=by refine Nl ?_;fail;let⟨a0,a1⟩:=ZL (c % 2147483647+40692*(j+1)) 2147483647;generalize (c % 2147483647+40692*(j+1)) % 2147483647=x at a0 a1 ⊢;fail;let⟨b0,b1⟩:=ZL (x*x+48271*x+j) 2147483647;generalize (x*x+48271*x+j) % 2147483647=y at b0 b1 ⊢;fail;let⟨c0,c1⟩:=ZL (y*y) 2147483629;generalize y*y % 2147483629=z at c0 c1 ⊢;refine' k _
def CH(h63:ns.length<=63)(k:∀w g,h w=fc->Ext h g->Purse g w->Q (.ref w) g):wF P (n+2) "_law_purse" [.scr ns,.int 0,.int 1,.int 60] h Q X:=by
 refine Ni ?_;refine' ⟨by decide,fk rfl λix _ il=>?_⟩;rw[AU];rw[À]at il;have pl:(pickL ix ns).length<=ix.length:=Ş _ _;generalize pickL ix ns=cs at pl ⊢;refine Zb λp1 g1 aF x1 e1=>?_;refine' Zb λp2 g2 bq x2 e2=>?_;refine c_eqE (x2.get e1) e2 ?_;have cQ:∀{p1:Ad}{g2:Hs}{cs:List Int},Ext h g2->g2 p1=fb (.lst<|cs.map .int)->cs≠[]->cs.length<=63->wSs (wF P<|n+1) (tl 2 Ti.body) [fb<|.scr ns,fb<|.int 0,fb<|.int 1,fb<|.int 60,fb<|.ref p1,fc,fc,fc,fc] g2 (λe g=>Q .non g) Q (λ_ _=>False) (λ_ _=>False) λ_ c g=>X c g:=by
  clear x1 e1 x2 e2 aF bq pl;intro p1 g2 cs x2 e1 ne cl;have Ō:=du.mpr ne;dsimp only[tl,Ti];refine' ⟨Ë (by rw[À];lia:_<=63) (by decide),?_⟩;refine WK (l:=cs) (λc=>.int<|rst c) (lsE e1) (λc hc K k1=>?_)<|Zb λp3 g3 hp3 x3 e3=>?_
  .walk_at "p";exact k1
  rw[show cs.map (λc=>Val.int<|rst c)=(cs.map rst).map Val.int by rw[ä];rfl]at e3;have rl:(cs.map rst).length=cs.length:=À _;generalize cs.map rst=rs at e3 rl;have hp3':=Zf x2 hp3;have n13:p1≠p3:=Za e1 hp3;have e1:=x3.get e1;have x3:=x2.trans x3;refine' Zb λp4 g4 cR x4 e4=>?_;have hp4':=Zf x3 cR;have n34:p3≠p4:=Za e3 cR;have n14:p1≠p4:=Za e1 cR;refine' ⟨by decide,?_⟩;refine Zg (λi en g=>Sm4 λv7 v8 rs us=>Cj7 (en=[fb<|.scr ns,fb<|.int 0,fb<|.int 1,fb<|.int 60,fb<|.ref p1,fb<|.ref p3,fb<|.ref p4,v7,v8]) (Ext h g) (g p1=fb (.lst<|cs.map .int)) (g p3=fb (.lst<|rs.map .int)) (rs.length=cs.length) (g p4=fb (.lst<|us.map Val.int))<|us.length<=i) ⟨_,_,rs,[],rfl,x3.trans x4,x4.get e1,x4.get e3,rl,e4,Ï _⟩ (λ_ _ _ _ _=>trivial) ?_ ?_
  .rintro i v en g hv ⟨v7,v8,rs,us,rfl,x,e1,e3,rl,e4,ul⟩ K hK;let⟨rfl,hi⟩:=YM hv;have hl:(cs.map Val.int).length=cs.length:=À _;have hlr:(rs.map Val.int).length=rs.length:=À _;have hlu:(us.map Val.int).length=us.length:=À _;have m0:=Į (i:Int) (show(cs.length:Int)≠0 by lia);have m1:=Ĩ (i:Int) (show(0:Int)<cs.length by lia);have d0:=Int.ediv_nonneg (show(0:Int)<=i by lia) (show(0:Int)<=cs.length by lia);have d1:=Int.ediv_le_self (b:=(cs.length:Int)) (show(0:Int)<=i by lia);fail;rw[hl];generalize (i:Int) % (cs.length:Int)=j at m0 m1 ⊢;generalize hq:(i:Int) / (cs.length:Int)=q at d0 d1;let⟨r,hr,er⟩:=pick (ns:=rs) m0 (by lia);let⟨c,hc,ec⟩:=pick (ns:=cs) m0 m1
   exists ZA e3 er
   refine' gb (λc1=>?_) (λc1=>?_)
   .exists ZA e3 er
    refine' Zv e4 (Ë (by lia:_<=60)<|by decide) ?_
    exists ZA ((fg n34).trans e3) er
    refine' Ud (n:=j.toNat) ((fg n34).trans e3) (by unfold ixN;rw[gF m0,gF<|by lia]) ?_;refine' hK _ _ ⟨_,_,rs.set j.toNat<|r / 1000003,us++[r % 1000003],rfl,Ye (Ye x hp4') hp3',(fg n13).trans<|(fg n14).trans e1,?_,by rw[ζ,rl],?_,by rw[Å,Ă];lia⟩
    .rw[fh,List.map_set]
    .refine(fg n34.symm).trans<|fh.trans ?_;rw[Ì];rfl
   .exists ZA e1 ec
    fail;rw[hl,hq];refine B3 d0 (by lia) λu=>?_;refine' Zv e4 (Ë (by lia:_<=60)<|by decide) ?_;refine' hK _ _ ⟨_,_,rs,us++[u],rfl,Ye x hp4',(fg n14).trans e1,(fg n34).trans e3,rl,?_,by rw[Å,Ă];lia⟩;refine fh.trans ?_;rw[Ì];rfl
  .rintro en g ⟨v7,v8,rs,us,rfl,x,e1,e3,rl,e4,ul⟩;refine' wp_new (by show biListRev g (.ref p4)=.new (.lst (us.map Val.int).reverse);unfold biListRev asLst;simp![e4,Yy]) (Zb λp5 g5 hp5 x5 e5=>?_);fail;rw[<-List.map_reverse]at e5;exact k p5 g5 (Zf x hp5) (x.trans x5) ⟨_,e5⟩
 cases cs with
 |nil =>walk_at "p";refine Zb λp3 g3 hp3 x3 e3=>?_;refine O2 rfl ?_;have:=cQ (cs:=[0]) ((x1.trans x2).trans x3) e3 (by decide) (by decide);dsimp only[tl,Ti]at this;exact this
 |cons c l =>have:=cQ (x1.trans x2) (x2.get e1) (by simp) (by lia);dsimp only[tl,Ti]at this;fail;refine f9 rfl ?_;exact this
variable {lo:Int}
def Du{v:Val}(h:(fP lo m)[i]?=fb v):v=.int (lo+i)/\lo+(i:Int)<m:=by unfold fP at h;rw[ß]at h;let⟨k,hk,rfl⟩:=Ò.mp h;let⟨aq,rfl⟩:=Î.mp hk;rw[ą]at aq;rw[dZ];exact⟨rfl,by lia⟩
def CP:(fP lo m).length=(m - lo).toNat:=by unfold fP;rw[À,ą]
def U3(a b r:Int):∃c,atI [Val.int a,.int b] (r % 2)=fb (.int c)/\(c=a\/c=b):=by
 let⟨u,eu,hu⟩:=Cw (xs:=[Val.int a,.int b]) (ZL r 2).1 (ZL r 2).2;simp![Ç,Õ,or_false]at hu;rcases hu with rfl|rfl
 .exact⟨_,eu,.inl rfl⟩
 .exact⟨_,eu,.inr rfl⟩
abbrev IsP(bs:List Int)(v:Val):Prop:=∃i j:Int,v=.tup [.int i,.int j]/\i∈bs/\j∈bs
def Ir(hw:Purse h w)(k:∀bs ts g,fG bs ts->ExtB w h g->Purse g w->Q (ZN bs ts) g):wF P (n+2) "_law_net" [.ref w,.int 4] h Q X:=by
 refine A3 ?_;refine' Zb λb g1 hb x1 e1=>?_;have nb:b≠w:=λz=>hw.ne hb z.symm;refine' Zi (hw.ext x1) λr g2 x2 w2=>?_;let⟨r0,r1⟩:=ZL r 3;fail;rw[show(4:Int) - 1=3 from rfl];generalize r % 3=r at r0 r1 ⊢;refine⟨⟨by lia,by lia⟩,?_⟩;refine Zg (λi en g=>Sm3 λv3 v4 bs=>Cj8 (en=[fb<|.ref w,fb<|.int 4,fb<|.ref b,v3,v4,fc,fc,fc,fc]) (g b=fb (.lst<|bs.map .int)) (bs.length<=i) ((1<=i->1<=bs.length)) (Brs bs) (bs.Nodup) (ExtB w h g)<|Purse g w) ⟨_,_,[],rfl,x2.get nb e1,Ï _,(λz=>gL z<|by decide),(λi hi=>gL hi Õ),ġ,(ExtB.of x1).trans x2,w2⟩ (λ_ _ _ _ _=>trivial) ?_ ?_
 .rintro i v en g hv ⟨v3,v4,bs,rfl,eb,bl,b1,bo,nd,x,hr⟩ K hK;let⟨rfl,hi⟩:=YM hv;refine' Zi hr λq1 g3 x3 w3=>?_;refine' Zb λp4 g4 cR x4 e4=>?_;have n4:p4≠w:=λz=>w3.ne cR z.symm;refine' Zi (w3.ext x4) λq2 g5 x5 w5=>?_;fail;let⟨c,eu,ce⟩:=U3 5 1000 q2;have c0:0<c:=by lia
  have c1:c<=1000:=by lia
  refine ZA (x5.get n4 e4) eu ?_;refine b_mod c0 ?_;have q0:=Į q1 (show c≠0 by lia);have q1':=Ĩ q1 c0;generalize q1 % c=q at q0 q1' ⊢;have xx:ExtB w g g5:=(x3.trans<|.of x4).trans x5;have eb:=xx.get nb eb
  exists Qw eb
  refine' NR (λhc=>?_) (λhc=>?_)
  .refine' Zv eb (Ë (by rw[À];lia:_<=10)<|by decide) ?_;refine' hK _ _ ⟨_,_,bs++[q],rfl,by refine fh.trans ?_;rw[Ì];rfl,by rw[Å,Ă];lia,λ_=>by rw[Å,Ă];lia,λj hj=>?_,?_,Wd (x.trans xx) (by
     cases z:h b with
     |none=>rfl
     | some o=>rw[show h b=fc from hb]at z;cases z),w5.exb nb⟩
   .rcases Û.mp hj with hj|hj
    .exact bo j hj
    .rw[Ö.mp hj];lia
   .exact ã.mpr ⟨nd,by simp,λa ha c hc' z=>hc<|by rw[Ö.mp hc']at z;exact z▸ha⟩
  .fail;have:1<=bs.length:=ca hc;exact hK _ _ ⟨_,_,bs,rfl,eb,by lia,λ_=>this,bo,nd,x.trans xx,w5⟩
 .rintro en g ⟨v3,v4,bs,rfl,eb,bl,b1,hrb,nd,x,hr⟩;rw[Wb]at bl b1;have b1:=b1 (by lia);have bl:bs.length<=4:=by lia
  have hL:(bs.map Val.int).length=bs.length:=À _;refine' Zb λt g7 ht7 x7 e7=>?_;have nt:t≠w:=λz=>hr.ne ht7 z.symm;have ntb:t≠b:=λz=>Za eb ht7 z.symm;have ht0:h t=fc:=by
   cases z:h t with
   |none=>rfl
   |some o=>rw[x.get nt z]at ht7;cases ht7
  have hw7:=hr.ext x7;have xh7:ExtB w h g7:=x.trans<|.of x7;have eb7:=x7.get eb;refine' ⟨⟨by lia,by lia⟩,?_⟩;refine Zg (λi en g=>Sm3 λv3 v4 ts=>Cj7 (en=[fb<|.ref w,fb<|.int 4,fb<|.ref b,v3,v4,fb<|.ref t,fc,fc,fc]) (g t=fb (.lst ts)) (ts.length<=i) ((∀t∈ts,IsP bs t)) (g b=fb (.lst<|bs.map .int)) (ExtB w h g)<|Purse g w) ⟨_,_,[],rfl,e7,Ï _,(λi hi=>gL hi Õ),eb7,xh7,hw7⟩ (λ_ _ _ _ _=>trivial) ?_ ?_
  .rintro i v en g hv ⟨v3,v4,ts,rfl,et,hl,ht,ebg,x,hr⟩ K hK;let⟨rfl,hi⟩:=Du hv;have hi:1+(i:Int)<bs.length:=by rw[hL]at hi;exact hi
   refine' Zi hr λq1 g1 x1 w1=>?_;have eb1:=x1.get nb ebg;have et1:=x1.get nt et;let⟨i1,eB,eu1⟩:=pick (ns:=bs) (r:=1+(i:Int) - 1) (by lia) (by lia);let⟨i2,cb,eu2⟩:=pick (ns:=bs) (r:=1+(i:Int)) (by lia) (by lia);refine' gb (λhc=>?_) (λhc=>?_)
   .exists ZA eb1 eu1
    exists ZA eb1 eu2
    refine' Zv et1 (Ë (by lia:ts.length<=10)<|by decide) ?_;refine' hK _ _ ⟨_,_,_,rfl,fh,by rw[Å,Ă];lia,λz hz=>?_,(fg ntb.symm).trans eb1,Wd (x.trans x1) ht0,w1.exb nt⟩;rcases Û.mp hz with hz|hz
    .exact ht z hz
    .rw[Ö.mp hz];exact⟨i1,i2,rfl,eB,cb⟩
   .refine' hK _ _ ⟨_,_,ts,rfl,et1,by lia,ht,eb1,x.trans x1,w1⟩
  .rintro en g ⟨v3,v4,ts,rfl,et,hl,ht,ebg,x,hr⟩;rw[CP,hL]at hl;have hl:ts.length<=3:=by lia
   refine' Zi hr λr g8 x8 w8=>?_;let⟨r0,r1⟩:=ZL r 3;fail;generalize r % 3=r at r0 r1 ⊢;refine⟨⟨by lia,by lia⟩,?_⟩;refine Zg (λi en g=>Sm3 λv3 v4 ts=>Cj7 (en=[fb<|.ref w,fb<|.int 4,fb<|.ref b,v3,v4,fb<|.ref t,fc,fc,fc]) (g t=fb (.lst ts)) (ts.length<=3+i) ((∀t∈ts,IsP bs t)) (g b=fb (.lst<|bs.map .int)) (ExtB w h g)<|Purse g w) ⟨_,_,ts,rfl,x8.get nt et,hl,ht,x8.get nb ebg,x.trans x8,w8⟩ (λ_ _ _ _ _=>trivial) ?_ ?_
   .rintro i v en g hv ⟨v3,v4,ts,rfl,et,hl,ht,ebg,x,hr⟩ K hK;let⟨rfl,hi⟩:=YM hv;refine' Zi hr λq1 g1 x1 w1=>?_;have eb1:=x1.get nb ebg;fail;rw[hL];let⟨i1,eB,eu1⟩:=pick (ns:=bs) (Į q1<|show(bs.length:Int)≠0 by lia) (Ĩ q1<|show(0:Int)<bs.length by lia);refine ZA eb1 eu1 ?_;refine' Zi w1 λq2 g2 x2 w2=>?_;have eb2:=x2.get nb eb1;fail;rw[hL];let⟨i2,cb,eu2⟩:=pick (ns:=bs) (Į q2<|show(bs.length:Int)≠0 by lia) (Ĩ q2<|show(0:Int)<bs.length by lia);refine ZA eb2 eu2 ?_;refine' Zv ((x1.trans x2).get nt et) (Ë (by lia:ts.length<=10)<|by decide) ?_;refine' hK _ _ ⟨_,_,_,rfl,fh,by rw[Å,Ă];lia,λz hz=>?_,(fg ntb.symm).trans eb2,Wd ((x.trans x1).trans x2) ht0,w2.exb nt⟩;rcases Û.mp hz with hz|hz
    .exact ht z hz
    .rw[Ö.mp hz];exact⟨i1,i2,rfl,eB,cb⟩
   .rintro en g ⟨v3,v4,ts,rfl,et,hl,ht,ebg,x,hr⟩;rw[Wb]at hl;have hl:ts.length<=5:=by lia
    refine' Zb λd g9 hd9 x9 e9=>?_;have nd':d≠w:=λz=>hr.ne hd9 z.symm;have ndt:d≠t:=λz=>Za et hd9 z.symm;have ndb:d≠b:=λz=>Za ebg hd9 z.symm;have hd0:h d=fc:=by
     cases z:h d with
     |none=>rfl
     |some o=>rw[x.get nd' z]at hd9;cases hd9
    refine' Zg (λi en g=>Sm5 λv3 v4 v7 v8 us=>Cj8 (en=[fb<|.ref w,fb<|.int 4,fb<|.ref b,v3,v4,fb<|.ref t,fb<|.ref d,v7,v8]) (g t=fb (.lst ts)) (g d=fb (.lst<|us.map trV)) (us.length<=i) ((∀t∈us,LOk bs t)) (g b=fb (.lst<|bs.map .int)) (ExtB w h g)<|Purse g w) ⟨_,_,_,_,[],rfl,x9.get et,e9,Ï _,(λi hi=>gL hi Õ),x9.get ebg,x.trans<|.of x9,hr.ext x9⟩ (λ_ _ _ _ ⟨_,_,_,_,_,_,e,_,_,_,_,_,_⟩=>lsE e) ?_ ?_
    .rintro i v en g hv ⟨v3,v4,v7,v8,us,rfl,et,ed,hu,hus,ebg,x,hr⟩ K hK;have hi:i<ts.length:=(Î.mp hv).1;let⟨i1,i2,rfl,h1,h2⟩:=ht v<|ë hv;refine' NR (λhc=>?_) (λhc=>?_)
     .refine' Zi hr λq1 g1 x1 w1=>?_;refine' Zb λp4 g4 cR x4 e4=>?_;have n4:p4≠w:=λz=>w1.ne cR z.symm;refine' Zi (w1.ext x4) λq2 g5 x5 w5=>?_;fail;let⟨c,eu,ce⟩:=U3 3 1000 q2;have c0:0<c:=by lia
      have c1:c<=1000:=by lia
      refine ZA (x5.get n4 e4) eu ?_;refine b_mod c0 ?_;have q0:=Į q1 (show c≠0 by lia);have q1':=Ĩ q1 c0;generalize q1 % c=q at q0 q1' ⊢;have xx:ExtB w g g5:=(x1.trans<|.of x4).trans x5;refine' Zv (xx.get nd' ed) (Ë (by rw[À];lia:_<=10)<|by decide) ?_;refine' hK _ _ ⟨_,_,_,_,us++[(if i2<i1 then i2 else i1,if i2 > i1 then i2 else i1,1+q)],rfl,(fg ndt.symm).trans<|xx.get nt et,by refine fh.trans ?_;rw[Ì];rfl,by rw[Å,Ă];lia,λz hz=>?_,(fg ndb.symm).trans<|xx.get nb ebg,Wd (x.trans xx) hd0,w5.exb nd'⟩;rcases Û.mp hz with hz|hz
      .exact hus z hz
      .rw[Ö.mp hz];unfold LOk;dsimp only;by_cases z:i2<i1
       .rw[gF z,gG<|by lia];exact⟨h2,h1,z,by lia,by lia⟩
       .rw[gG z,gF<|by lia];exact⟨h1,h2,by lia,by lia,by lia⟩
     .refine' hK _ _ ⟨_,_,_,_,us,rfl,et,ed,by lia,hus,ebg,x,hr⟩
    .rintro en g ⟨v3,v4,v7,v8,us,rfl,et,ed,hu,hus,ebg,x,hr⟩
     replace hu:us.length<=ts.length:=hu
     refine' Lj ebg (WR _) (by lia) (Zb λp3 g3 hp3 x3 e3=>?_);have ed3:=x3.get ed;fail;have hl2:(sortI bs).length=bs.length:=(ŉ bs _).length_eq;refine k (sortI bs) us _ ⟨by lia,by lia,λi hi=>hrb i<|mem_sort.mp hi,Uu nd,by lia,λt ht=>?_⟩ (x.trans<|.of x3)<|hr.ext x3;let⟨q1,q2,q3⟩:=hus t ht;exact⟨mem_sort.mpr q1,mem_sort.mpr q2,q3⟩
abbrev iup(m:Nat):List Int:=(List.range m).map λi:Nat=>(i:Int)
abbrev ZS(C:Yc)(f:Bool):List Dd:=(C.keys.map Dd.tick++(iup C.road.length).map Dd.come++(iup C.road.length).map Dd.lost)++if f then(((C.keys.map Dd.fallB)++((iup C.ts.length).filter λp=>!gM (p∈C.cuts)).map Dd.fallT)++C.downs.map Dd.backB)++C.cuts.map Dd.backT else []
def iup_mem{m:Nat}{p:Int}:p∈iup m↔0<=p/\p<m:=by unfold iup;rw[ç];refine⟨λ⟨i,hi,e⟩=>?_,λh=>⟨p.toNat,Ŗ.mpr (by lia),by lia⟩⟩;have:=Ŗ.mp hi;lia
def Yb{m:Nat}:(iup m).length=m:=by unfold iup;rw[À,ą]
def Ag{f:Bool}{d:Dd}(g:C.gd N)(h:d∈ZS C f):(step C d).isSome=fe:=by
 unfold ZS at h;have key:∀{l:List Int}{F:Int->Dd},d∈l.map F->(∀x∈l,(step C<|F x).isSome=fe)->(step C d).isSome=fe:=λ{l F} h k=>by let⟨x,hx,rfl⟩:=ç.mp h;exact k x hx
 have rd:∀x∈iup C.road.length,0<=x/\x<C.road.length:=λx hx=>iup_mem.mp hx;rcases Û.mp h with h|h
 .rcases Û.mp h with h|h
  .rcases Û.mp h with h|h
   .exact key h λx hx=>FC hx
   .exact key h λx hx=>(MT (rd x hx).1 (rd x hx).2).2
  .exact key h λx hx=>(MT (rd x hx).1 (rd x hx).2).1
 .split at h
  .rcases Û.mp h with h|h
   .rcases Û.mp h with h|h
    .rcases Û.mp h with h|h
     .exact key h λx hx=>Ch hx
     .refine key h λx hx=>?_;let⟨h1,h2⟩:=ŀ.mp hx;have:=iup_mem.mp h1;exact B1 this.1 this.2 ⇑h2
    .exact key h λx hx=>Eu g hx
   .exact key h λx hx=>Bz hx
  .cases h
def N5(g:C.gd N):C.bs.filter (λb=>!gM (b∈C.downs))=C.keys:=by
 have s1:C.keys.Pairwise (· < ·):=Uu g.nd;have s2:(C.bs.filter λb=>!gM (b∈C.downs)).Pairwise (· < ·):=g.no.up.sublist ϫ;have p:(C.bs.filter λb=>!gM (b∈C.downs)).Perm C.keys:=(List.perm_ext_iff_of_nodup (s2.imp λz=>by lia)<|s1.imp λz=>by lia).mpr λb=>by
  rw[keys_mem,ŀ];refine⟨λz=>?_,λz=>⟨keys_sub.mp g.sub b<|keys_look.mp z,?_⟩⟩
  .have:=z.2;cases e:(C.br.lookup b).isSome with
   |true=>rfl
   |false=>rw[gJ<|downs_mem.mpr ⟨z.1,e⟩]at this;cases this
  .rw[gH λy=>by have:=(downs_mem.mp y).2;rw[z]at this;cases this];rfl
 exact p.eq_of_pairwise (λa b _ _ z1 z2=>by lia) s2 s1
def YO{st:Hs->Prop}{step:Val->Hs->(Option Val->Hs->Prop)->XQ->Prop}{Q:List Val->Hs->Prop}{f:α->Val}{l:List α}(F:α->Dd)(Š:st h)(go:∀x∈l,∀K,K (fb (F x).v) h->step (f x) h K X)(fin:Q ((l.map F).map Dd.v) h):wComp st step (l.map f) [] h Q X:=WK (λx=>(F x).v) Š go (by rw[ä]at fin;exact fin)
def Wr{Φ:Fs}{st:Hs->Prop}{l ds:List Int}{e:E}{Q:List Val->Hs->Prop}(F:Int->Dd)(Š:st h)(he:∀b K X2,K (F b).v h->wE Φ e [fb<|.int b,fb<|.tup<|ds.map .int] h K X2)(fin:Q (((l.filter λb=>!gM (b∈ds)).map F).map Dd.v) h):wComp st (λv h2 K X2=>go (bind (.one 0) h2 v [fc,fb<|.tup<|ds.map .int]) λŋ=>wT Φ (.val<|.cmp .notin (.var 0)<|.var 1) ŋ h2 (λk h3=>if k=fe then wE Φ e ŋ h3 (λu h4=>K (fb u) h4) X2 else K fc h3) X2) (l.map .int) [] h Q X:=DL (λb=>!gM (b∈ds)) (λb=>(F b).v) Š (λb _ K k1 k2=>by
  exists IY
  refine' gc (λhc=>he _ _ _<|k1 hc) λhc=>k2 hc) (by rw[ä]at fin;exact fin)
section
variable {Y:Yd}{N:Nat}{C:Yc}
def WX(gd:C.gd N):C.keys.length<=10/\C.downs.length<=10/\C.cuts.length<=16/\C.road.length<=16*N:=⟨by rw[NJ];exact gd.ten,Þ (ĺ _ _) gd.no.ten,by rw[D0];exact gd.f16,gd.len⟩
def WL{f:Bool}(x:fw h Y)(gd:Y.cc.gd N)(hN:N<=1000)(k:∀p g,h p=fc->Ext h g->g p=fb (.lst<|(ZS Y.cc f).map Dd.v)->Q (.ref p) g):wF P (n+2) "_law_options" [.ref Y.y,.bl f] h Q X:=by
 have xi:=x.ins;let⟨l1,l2,l3,l4⟩:=WX gd;have t16:Y.ts.length<=16:=gd.no.sixteen;have b10:Y.bs.length<=10:=gd.no.ten;have rl:(Y.road.map rdV).length=Y.cc.road.length:=À _;have uk:Y.bs.filter (λb=>!gM (b∈Y.cc.downs))=Y.cc.keys:=N5 gd;refine Kv ?_;refine' Nv x gd λg1 x1=>?_;have y1:=x.ext x1;have xi:=y1.ins
 exists Wa y1
 exists fm (xs:=[.tup<|Y.bs.map .int,.tup<|Y.ts.map trV]) (v:=.tup<|Y.bs.map .int) rfl
 refine' ⟨Ë (by rw[À];exact b10) (by decide),?_⟩;refine Wr (l:=Y.bs) Dd.tick trivial (λb K X2 q=>by fail;exact q) ?_;rw[uk];refine Zb λp2 g2 bq x2 e2=>?_;have x02:=x1.trans x2;refine' Zb λpw g3 hpw x3 ew=>?_;have e2:=x3.get e2;have x03:=x02.trans x3;have bq:=Zf x1 bq;clear x2 x3 xi y1 x02;have ln:∀{l:List Dd}{m:List Dd},l.length<=100000->m.length<=100000->(l.map Dd.v++m.map Dd.v).length<=lim:=λ{l m} a b=>by rw[Å,À,À,lim];lia
 have kt:(Y.cc.keys.map Dd.tick).length<=10:=by rw[À];exact l1
 have il:=Yb (m:=Y.cc.road.length);refine' Zg (λi en g=>Sm2 λp4 v5=>Cj5 (en=[fb<|.ref Y.y,fb<|.bl f,fb<|.tup<|Y.cc.downs.map .int,fb<|.tup<|Y.cc.cuts.map .int,fb<|.ref p4,v5,fc]) (h p4=fc) (Ext h g) (g pw=fb (.lst [.str "come",.str "lost"]))<|g p4=fb (.lst<|(Y.cc.keys.map Dd.tick++((if 1<=i then(iup Y.cc.road.length).map Dd.come else [])++if 2<=i then(iup Y.cc.road.length).map Dd.lost else [])).map Dd.v)) ⟨_,_,rfl,bq,x03,ew,by rw[e2,gG (by decide),gG (by decide),í,í]⟩ (λ_ _ _ _ ⟨_,_,_,_,_,e,_⟩=>lsE e) ?_ ?_
 .rintro i v en g hv ⟨p4,v5,rfl,cR,xg,ew,e4⟩ K hK;have yg:=x.ext xg;have yi:=yg.ins;have hi:=(Î.mp hv).1;have add:∀{F:Int->Dd}{wd:String},(∀j,(F j).v=.tup [.str wd,.int j])->v=.str wd->(i=0/\F=Dd.come\/i=1/\F=Dd.lost)->wSs (wF P<|n+1) #[.set (.one 4)<|.bin .add (.var 4)<|.comp [5] 1 (.one 0) (.range<|.bi .len #[.meth "Yard" "road" (.var 0) .nil]) .yes<|.tup #[.var 1,.var 0]] [fb<|.ref Y.y,fb<|.bl f,fb<|.tup<|Y.cc.downs.map .int,fb<|.tup<|Y.cc.cuts.map .int,fb<|.ref p4,fb v,fc] g K Q (λ_ _=>False) K λ_ c g=>X c g:=λ{F wd} hF ev hc=>by
   subst ev;refine' Mf yg λp5 g5 hp5 x5 e5=>?_;fail;rw[rl,Hc];refine⟨⟨by lia,by lia⟩,Ë (by rw[À,ą];lia:_<=16000) (by decide),WK (λi:Nat=>(F i).v) trivial (λj hj K k1=>?_)<|Zb λp6 g6 hp6 x6 e6=>?_⟩
   .walk_at "p";rw[<-hF];exact k1
   rw[show(List.range Y.cc.road.length).map (λi:Nat=>(F i).v)=((iup Y.cc.road.length).map F).map Dd.v by unfold iup;rw[ä,ä];rfl]at e6;have e4:=(x5.trans x6).get e4;refine ZE e4 e6 (ln ?_<|by rw[À,il];lia)<|Zb λp7 g7 hp7 x7 e7=>?_
   .rw[Å,Å,À];split<;>split<;>simp![À,Ĉ,il]<;>lia
   refine' hK _ _ ⟨_,_,rfl,Zf (xg.trans<|x5.trans x6) hp7,xg.trans<|(x5.trans x6).trans x7,((x5.trans x6).trans x7).get ew,?_⟩;rw[<-Ì]at e7;rcases hc with⟨rfl,rfl⟩|⟨rfl,rfl⟩
   .rw[e7,gG (by decide),gG (by decide),gF (by decide),gG<|by decide];simp
   .rw[e7,gF (by decide),gG (by decide),gF (by decide),gF<|by decide];simp
  walk_at "py1"
  match i,hv,hi with
  |0,hv,_=>cases hv;exact add (F:=Dd.come) (λ_=>rfl) rfl<|.inl ⟨rfl,rfl⟩
  |1,hv,_=>cases hv;exact add (F:=Dd.lost) (λ_=>rfl) rfl<|.inr ⟨rfl,rfl⟩
 .rintro en g ⟨p4,v5,rfl,cR,xg,_,e4⟩;have yg:=x.ext xg;have yi:=yg.ins
  replace e4:g p4=fb (.lst<|(Y.cc.keys.map Dd.tick++((iup Y.cc.road.length).map Dd.come++(iup Y.cc.road.length).map Dd.lost)).map Dd.v):=e4
  rw[<-û]at e4;have bl:(Y.cc.keys.map Dd.tick++(iup Y.cc.road.length).map Dd.come++(iup Y.cc.road.length).map Dd.lost).length<=40000:=by simp![Å,À,il];lia
  have eo:ZS Y.cc f=(Y.cc.keys.map Dd.tick++(iup Y.cc.road.length).map Dd.come++(iup Y.cc.road.length).map Dd.lost)++if f then(((Y.cc.keys.map Dd.fallB)++((iup Y.cc.ts.length).filter λp=>!gM (p∈Y.cc.cuts)).map Dd.fallT)++Y.cc.downs.map Dd.backB)++Y.cc.cuts.map Dd.backT else []:=rfl;generalize Y.cc.keys.map Dd.tick++(iup Y.cc.road.length).map Dd.come++(iup Y.cc.road.length).map Dd.lost=base at e4 bl eo;fail;cases f with
  |false =>walk_at "p";rw[show ZS Y.cc ff=base by rw[eo];simp]at k;exact k p4 g cR xg e4
  |true =>
   walk_at "p";have ap:∀{l:List Dd}{m:List Dd},l.map Dd.v++m.map Dd.v=(l++m).map Dd.v:=Ì.symm;refine Wa yg ?_
   exists fm (xs:=[.tup<|Y.bs.map .int,.tup<|Y.ts.map trV]) (v:=.tup<|Y.ts.map trV) rfl
   fail;rw[À];refine wp_new (show biV g .listRange [.int (Y.ts.length:Nat)]=.new (.lst<|(iup Y.ts.length).map .int) from ?_)<|Zb λpp g7 hpp x7 ep=>?_
   .show(if 0<=(Y.ts.length:Int)/\(Y.ts.length:Int)<=1000 then _ else _)=_;rw[gF ⟨by lia,by lia⟩];unfold iup;rw[é,ä];rfl
   have y7:=yg.ext x7;have yi:=y7.ins;have e4:=x7.get e4
   exists Wa y7
   exists fm (xs:=[.tup<|Y.bs.map .int,.tup<|Y.ts.map trV]) (v:=.tup<|Y.bs.map .int) rfl
   refine' ⟨Ë (by rw[À];exact b10) (by decide),?_⟩;refine Wr (l:=Y.bs) Dd.fallB trivial (λb K X2 q=>by fail;exact q) ?_;rw[uk];refine Zb λpa g8 hpa x8 ea=>?_;refine ZE (x8.get e4) ea (ln (by lia)<|by rw[À];lia)<|Zb λpb g9 hpb x9 eb=>?_;rw[ap]at eb;have ep:=(x8.trans x9).get ep;have l5:((iup Y.ts.length).filter λp=>!gM (p∈Y.cc.cuts)).length<=16:=Þ (ĺ _ _) (by rw[Yb];exact t16);refine' ⟨Ë (by rw[À,Yb];exact t16) (by decide),?_⟩;refine Wr (l:=iup Y.ts.length) Dd.fallT (lsE ep) (λb K X2 q=>by fail;exact q)<|Zb λpc g10 hpc x10 ec=>?_;refine ZE (x10.get eb) ec (ln (by rw[Å,À];lia)<|by rw[À];lia)<|Zb λpd g11 hpd x11 ed=>?_;rw[ap]at ed;refine' ⟨Ë (by rw[À];exact l2) (by decide),?_⟩;refine YO (l:=Y.cc.downs) Dd.backB trivial (λb hm K k1=>by walk_at "p";exact k1)<|Zb λpe g12 hpe x12 ee=>?_;refine ZE (x12.get ed) ee (ln (by simp![Å,À];lia)<|by rw[À];lia)<|Zb λpf g13 hpf x13 ef=>?_;rw[ap]at ef;refine' ⟨Ë (by rw[À];exact l3) (by decide),?_⟩;refine YO (l:=Y.cc.cuts) Dd.backT trivial (λb hm K k1=>by walk_at "p";exact k1)<|Zb λpg g14 hpg x14 eg=>?_;refine ZE (x14.get ef) eg (ln (by simp![Å,À];lia)<|by rw[À];lia)<|Zb λpz g15 hpz x15 ez=>?_;rw[ap]at ez;fail;have xx:Ext g g14:=((((((x7.trans x8).trans x9).trans x10).trans x11).trans x12).trans x13).trans x14;refine k pz g15 (Zf (xg.trans xx) hpz) (xg.trans<|xx.trans x15) ?_;rw[ez,eo,gF rfl];simp![û];rfl
end
def Nz{xs ys:List Val}{K:Val×Hs->Prop}(e1:h a=fb (.lst xs))(e2:h b=fb (.lst ys))(m:xs.length+ys.length<=lim)(q:K (.non,upd h a<|.lst<|xs++ys)):go (bmV h .extend (.ref a) [.ref b]) K:=fk (by show(fx<|h a).bind _=_;rw[lsE e1];show(fx<|h b).bind _=_;rw[lsE e2];exact gF m) q
def U9{α:Type}(f:α->Val):∀(l:List α) (k:Nat),enumL k (l.map f)=(l.zipIdx k).map λq=>.tup [.int (q.2:Nat),f q.1]
 |[],_=>rfl
 |x::l,k=>by rw[Ó,Ψ,Ó,<-U9 f l (k+1)];rfl
def Ff(l:List α):(l.zipIdx 0).map (λq=>((q.2:Nat):Int))=iup l.length:=by unfold iup;rw[show(λq:α×Nat=>((q.2:Nat):Int))=(λi:Nat=>(i:Int)) ∘ (·.2) from rfl,<-ä];congr 1;rw[List.zipIdx_map_snd,List.range_eq_range']
section
variable {Y:Yd}{N:Nat}{C:Yc}
def Cr(x:fw h Y)(gd:Y.cc.gd N)(k:∀p g,h p=fc->Ext h g->g p=fb (.lst<|((((Y.cc.keys.map Dd.fallB)++((iup Y.cc.ts.length).filter λp=>!gM (p∈Y.cc.cuts)).map Dd.fallT)++Y.cc.downs.map Dd.backB)++Y.cc.cuts.map Dd.backT).map Dd.v)->Q (.ref p) g):wF P (n+2) "falls_and_backs" [.ref Y.y] h Q X:=by
 have xi:=x.ins;let⟨l1,l2,l3,l4⟩:=WX gd;have t16:Y.ts.length<=16:=gd.no.sixteen;have b10:Y.bs.length<=10:=gd.no.ten;have uk:Y.bs.filter (λb=>!gM (b∈Y.cc.downs))=Y.cc.keys:=N5 gd;have ln:∀{l:List Dd}{m:List Dd},l.length<=1000->m.length<=1000->(l.map Dd.v++m.map Dd.v).length<=lim:=λ{l m} a b=>by rw[Å,À,À,lim];lia
 have ap:∀{l:List Dd}{m:List Dd},l.map Dd.v++m.map Dd.v=(l++m).map Dd.v:=Ì.symm;refine X6 ?_
 exists Wa x
 refine' Nv x gd λg1 x1=>?_
 exists fm (xs:=[.tup<|Y.bs.map .int,.tup<|Y.ts.map trV]) (v:=.tup<|Y.bs.map .int) rfl
 refine' ⟨Ë (by rw[À];exact b10) (by decide),?_⟩;refine Wr (l:=Y.bs) Dd.fallB trivial (λb K X2 q=>by fail;exact q) ?_;rw[uk];refine Zb λpa g8 hpa x8 ea=>?_;have l5:((iup Y.ts.length).filter λp=>!gM (p∈Y.cc.cuts)).length<=16:=Þ (ĺ _ _) (by rw[Yb];exact t16);have hpa0:=Zf x1 hpa
 exists fm (xs:=[.tup<|Y.bs.map .int,.tup<|Y.ts.map trV]) (v:=.tup<|Y.ts.map trV) rfl
 fail;rw[À,Hc];rw[show(List.range Y.ts.length).map (λi:Nat=>Val.int i)=(iup Y.ts.length).map .int by unfold iup;rw[ä];rfl];refine⟨⟨by lia,by lia⟩,Ë (by rw[À,Yb];exact t16) (by decide),?_⟩;refine Wr (l:=iup Y.ts.length) Dd.fallT trivial (λb K X2 q=>by fail;exact q)<|Zb λpc g10 hpc x10 ec=>?_;refine Nz (x10.get ea) ec (by rw[À,À,À,À,lim];lia) ?_;rw[ap];have x11:Ext h<|upd g10 pa<|.lst<|(Y.cc.keys.map Dd.fallB++((iup Y.ts.length).filter λp=>!gM (p∈Y.cc.cuts)).map Dd.fallT).map Dd.v:=Ye ((x1.trans x8).trans x10) hpa0;have ed:=fh (h:=g10) (a:=pa) (o:=.lst<|(Y.cc.keys.map Dd.fallB++((iup Y.ts.length).filter λp=>!gM (p∈Y.cc.cuts)).map Dd.fallT).map Dd.v);generalize upd g10 pa (.lst<|(Y.cc.keys.map Dd.fallB++((iup Y.ts.length).filter λp=>!gM (p∈Y.cc.cuts)).map Dd.fallT).map Dd.v)=g11 at x11 ed ⊢;refine' ⟨Ë (by rw[À];exact l2) (by decide),?_⟩;refine YO (l:=Y.cc.downs) Dd.backB trivial (λb hm K k1=>by walk_at "p";exact k1)<|Zb λpe g12 hpe x12 ee=>?_;refine' ZE (x12.get ed) ee (ln (by simp![Å,À];lia)<|by rw[À];lia) (Zb λpf g13 hpf x13 ef=>?_);rw[ap]at ef;refine' ⟨Ë (by rw[À];exact l3) (by decide),?_⟩;refine YO (l:=Y.cc.cuts) Dd.backT trivial (λb hm K k1=>by walk_at "p";exact k1)<|Zb λpg g14 hpg x14 eg=>?_;refine ZE (x14.get ef) eg (ln (by simp![Å,À];lia)<|by rw[À];lia)<|Zb λpz g15 hpz x15 ez=>?_;rw[ap]at ez;have xx:=((x11.trans x12).trans x13).trans x14;exact k pz g15 (Zf xx hpz) (xx.trans x15) ez
def Ov{f:Bool}(x:fw h Y)(gd:Y.cc.gd N)(hN:N<=1000)(k:∀p g,h p=fc->Ext h g->g p=fb (.lst<|(ZS Y.cc f).map Dd.v)->Q (.ref p) g):wF P (n+3) "deeds_of_now" [.ref Y.y,.bl f] h Q X:=by
 have xi:=x.ins;let⟨l1,l2,l3,l4⟩:=WX gd;have il:=Yb (m:=Y.cc.road.length);have ap:∀{l:List Dd}{m:List Dd},l.map Dd.v++m.map Dd.v=(l++m).map Dd.v:=Ì.symm;refine JR ?_;refine' Bb x gd λp1 g1 aF x1 e1=>?_;refine' ⟨Ë (by show(Lz Y.cc).length<=10;unfold Lz;rw[À];lia) (by decide),?_⟩;refine YO (l:=Y.cc.keys) Dd.tick (lsE e1) (λb hm K k1=>by walk_at "p";exact k1)<|Zb λp2 g2 bq x2 e2=>?_;have hp0:=Zf x1 bq;have x02:=x1.trans x2;have kt:(Y.cc.keys.map Dd.tick).length<=10:=by rw[À];exact l1
 refine' Zg (λi en g=>Sm1 λv3=>Cj3 (en=[fb<|.ref Y.y,fb<|.bl f,fb<|.ref p2,v3]) (Ext h g)<|g p2=fb (.lst<|(Y.cc.keys.map Dd.tick++((if 1<=i then(iup Y.cc.road.length).map Dd.come else [])++if 2<=i then(iup Y.cc.road.length).map Dd.lost else [])).map Dd.v)) ⟨_,rfl,x02,by rw[e2,gG (by decide),gG (by decide),í,í]⟩ (λ_ _ _ _ _=>trivial) ?_ ?_
 .rintro i v en g hv ⟨v3,rfl,xg,e4⟩ K hK;have yg:=x.ext xg;have yi:=yg.ins;have hi:=(Î.mp hv).1;have add:∀{F:Int->Dd}{wd:String},(∀j,(F j).v=.tup [.str wd,.int j])->v=.str wd->(i=0/\F=Dd.come\/i=1/\F=Dd.lost)->wSs (wF P<|n+2) #[.expr<|.bm .extend (.var 2) #[.comp [3] 2 (.many [0,1]) (.enumL<|.meth "Yard" "road" (.var 0) .nil) .yes<|.tup #[.var 2,.var 0]]] [fb<|.ref Y.y,fb<|.bl f,fb<|.ref p2,fb v] g K Q (λ_ _=>False) K λ_ c g=>X c g:=λ{F wd} hF ev hc=>by
   subst ev;refine' Mf yg λp5 g5 hp5 x5 e5=>?_
   exists P4 e5
   rw[U9];refine⟨Ë (by rw[À,List.length_zipIdx];exact l4)<|Ë (by lia:16*N<=16000)<|by decide,?_⟩;refine WK (λq:(Int×Int×Int×L)×Nat=>(F q.2).v) (lsE e5) (λq hq K k1=>?_)<|Zb λp6 g6 hp6 x6 e6=>?_
   .walk_at "p";rw[<-hF];exact k1
   rw[show(Y.road.zipIdx 0).map (λq=>(F q.2).v)=((iup Y.cc.road.length).map F).map Dd.v by rw[<-Ff Y.cc.road,ä,ä];rfl]at e6;have e4:=(x5.trans x6).get e4;refine' Nz e4 e6 ?_ ?_
   .simp![Å,À,il];have:((if 1<=i then(iup Y.cc.road.length).map Dd.come else []):List Dd).length<=Y.cc.road.length:=by split<;>simp[il]
    have:((if 2<=i then(iup Y.cc.road.length).map Dd.lost else []):List Dd).length<=Y.cc.road.length:=by split<;>simp[il]
    rw[lim];lia
   rw[ap];refine' hK _ _ ⟨_,rfl,Ye (xg.trans<|x5.trans x6) hp0,?_⟩;refine fh.trans ?_;rcases hc with⟨rfl,rfl⟩|⟨rfl,rfl⟩
   .rw[gG (by decide),gG (by decide),gF (by decide),gG<|by decide];simp
   .rw[gF (by decide),gG (by decide),gF (by decide),gF<|by decide];simp
  refine O2 rfl ?_
  match i,hv,hi with
  |0,hv,_=>cases hv;exact add (F:=Dd.come) (λ_=>rfl) rfl<|.inl ⟨rfl,rfl⟩
  |1,hv,_=>cases hv;exact add (F:=Dd.lost) (λ_=>rfl) rfl<|.inr ⟨rfl,rfl⟩
 .rintro en g ⟨v3,rfl,xg,e4⟩
  replace e4:g p2=fb (.lst<|(Y.cc.keys.map Dd.tick++((iup Y.cc.road.length).map Dd.come++(iup Y.cc.road.length).map Dd.lost)).map Dd.v):=e4
  rw[<-û]at e4;have yg:=x.ext xg;have bl:(Y.cc.keys.map Dd.tick++(iup Y.cc.road.length).map Dd.come++(iup Y.cc.road.length).map Dd.lost).length<=40000:=by simp![Å,À,il];lia
  have eo:ZS Y.cc f=(Y.cc.keys.map Dd.tick++(iup Y.cc.road.length).map Dd.come++(iup Y.cc.road.length).map Dd.lost)++if f then(((Y.cc.keys.map Dd.fallB)++((iup Y.cc.ts.length).filter λp=>!gM (p∈Y.cc.cuts)).map Dd.fallT)++Y.cc.downs.map Dd.backB)++Y.cc.cuts.map Dd.backT else []:=rfl;generalize Y.cc.keys.map Dd.tick++(iup Y.cc.road.length).map Dd.come++(iup Y.cc.road.length).map Dd.lost=base at e4 bl eo;fail;cases f with
  |false =>walk_at "p";rw[show ZS Y.cc ff=base by rw[eo];simp]at k;exact k p2 g hp0 xg e4
  |true =>
   walk_at "p";refine Cr yg gd λp6 g6 hp6 x6 e6=>?_;rw[gF rfl]at eo;have fl:((((Y.cc.keys.map Dd.fallB)++((iup Y.cc.ts.length).filter λp=>!gM (p∈Y.cc.cuts)).map Dd.fallT)++Y.cc.downs.map Dd.backB)++Y.cc.cuts.map Dd.backT).length<=1000:=by have:=ĺ (λp=>!gM (p∈Y.cc.cuts))<|iup Y.cc.ts.length;have:Y.cc.ts.length<=16:=gd.no.sixteen;simp only[Å,À,Yb]at *;lia
   generalize (((Y.cc.keys.map Dd.fallB)++((iup Y.cc.ts.length).filter λp=>!gM (p∈Y.cc.cuts)).map Dd.fallT)++Y.cc.downs.map Dd.backB)++Y.cc.cuts.map Dd.backT=more at e6 eo fl;refine ZE (x6.get e4) e6 (by rw[Å,À,À,lim];lia)<|Zb λp7 g7 hp7 x7 e7=>?_;rw[ap,<-eo]at e7;exact k p7 g7 (Zf (xg.trans x6) hp7) (xg.trans<|x6.trans x7) e7
end
abbrev run:Yc->List Dd->Option Yc
 |C,[]=>fb C
 |C,d::l=>(step C d).bind λD=>run D l
def Wf:∀{l m:List Dd}{C:Yc},run C (l++m)=(run C l).bind λD=>run D m
 |[],_,_=>rfl
 |d::l,m,C=>by
  show(step C d).bind (λD=>run D<|l++m)=((step C d).bind λD=>run D l).bind _;cases step C d with
  |none=>rfl
  |some D=>exact Wf
def We{l:List Dd}{d:Dd}{D:Yc}(h:run C l=fb D):run C (l++[d])=step D d:=by rw[Wf,h];show(step D d).bind fb=_;cases step D d<;>rfl
def Fv{D W:Yc}{l:List Dd}{d:Dd}(hr:run C l=fb D)(hd:l[i]?=fb d)(hw:run C (l.take i)=fb W):(step W d).isSome=fe:=by
 have hi:=(Î.mp hd).1;have e:l=l.take i++d::l.drop (i+1):=by have h1:=(List.take_append_drop i l).symm;rw[ľ hi,(Î.mp hd).2]at h1;exact h1
 rw[e,Wf,hw,ú]at hr;cases z:step W d with
 |none =>
  replace hr:(step W d).bind _=fb D:=hr
  rw[z]at hr;cases hr
 |some V=>rfl
abbrev nOp(C:Yc):Nat:=(Xo C C.ts.length).length
abbrev Zw:List Int->List Int->List Int
 |[],b=>b
 |x::a,[]=>x::a
 |x::a,y::b=>(x+y)::Zw a b
def Y4(a:List Int):Zw a []=a:=by cases a<;>rfl
def KS:∀(a b:List Int),Zw a b=Zw b a
 |[],b=>(Y4 b).symm
 |x::a,[]=>rfl
 |x::a,y::b=>by rw[Zw,Zw,KS a b,Int.add_comm]
def Jo:∀(a b c:List Int),Zw (Zw a b) c=Zw a (Zw b c)
 |[],b,c=>rfl
 |x::a,[],c=>by cases c<;>rfl
 |x::a,y::b,[]=>by rw[Y4,Y4]
 |x::a,y::b,z::c=>by simp![Zw];rw[Jo a b c,Int.add_assoc]
def Wg:∀(a b:List Int),(Zw a b).length=max a.length b.length
 |[],b=>by simp[Zw]
 |x::a,[]=>by simp[Zw]
 |x::a,y::b=>by simp![Zw,Ð,Wg a b];lia
def NO:∀(l s:List Int),s.length<=l.length->((l.zip s).map λq=>q.1+q.2)++l.drop s.length=Zw l s
 |l,[],_=>by cases l<;>rfl
 |[],y::s,h=>by cases h
 |x::l,y::s,h=>by have:=NO l s ⇑h;simp![Ķ,Ó,Ð,List.drop_succ_cons,Zw,Ÿ,this]
abbrev Wc(w:Nat):List Int:=Í w 0++[1]
def WH:∀(w:Nat) (a:List Int),∃x,(a++Í (w+1 - a.length) 0)[w]?=fb x/\(a++Í (w+1 - a.length) 0).set w (x+1)=Zw a (Wc w)
 |0,[]=>⟨0,rfl,rfl⟩
 |0,x::a=>⟨x,rfl,by rw[show 0+1 - (x::a).length=0 by simp,dC,í];show(x+1)::a=(x+1)::Zw a [];rw[Y4]⟩
 |w+1,[]=>by
  let⟨x,h1,h2⟩:=WH w [];simp only[Ĉ,ay,aT]at h1 h2 ⊢;refine⟨x,?_,?_⟩
  .rw[ï];simpa using h1
  .rw[ï,ţ,h2];rfl
 |w+1,y::a=>by let⟨x,h1,h2⟩:=WH w a;rw[show w+1+1 - (y::a).length=w+1 - a.length by simp];refine⟨x,⇑h1,?_⟩;rw[Ÿ,ţ,h2];show _=Zw (y::a) (0::Wc w);rw[Zw,Int.add_zero]
abbrev nxt(C:Yc)(d:Dd):Yc:=(step C d).getD C
abbrev cnt(f:Bool):Nat->Yc->List Int
 |0,C=>Wc<|nOp C
 |m+1,C=>(ZS C f).foldl (λa d=>Zw a<|cnt f m<|nxt C d) []
abbrev rows(f:Bool):Nat->Yc->List (List Dd)
 |0,_=>[[]]
 |m+1,C=>(ZS C f).flatMap λd=>(rows f m<|nxt C d).map (d :: ·)
abbrev aft(C:Yc)(l:List Dd):Yc:=l.foldl nxt C
def HR(f:α->β)(l:List α):(l.flatMap λd=>[f d])=l.map f:=by
 induction l with
 |nil=>rfl
 |cons x l ih=>rw[ĭ,ih];rfl
def KE(f:Bool):∀(m:Nat) (C:Yc),rows f (m+1) C=(rows f m C).flatMap λr=>(ZS (aft C r) f).map λd=>r++[d]
 |0,C=>by show(ZS C f).flatMap (λd=>[[d]])=[([]:List Dd)].flatMap _;rw[HR,ĭ,List.flatMap_nil,í];rfl
 |m+1,C=>by show(ZS C f).flatMap (λd=>(rows f (m+1)<|nxt C d).map (d :: ·))=((ZS C f).flatMap λd=>(rows f m<|nxt C d).map (d :: ·)).flatMap _;rw[List.flatMap_assoc];congr 1;funext d;rw[KE f m<|nxt C d,List.map_flatMap,List.flatMap_map];congr 1;funext r;rw[ä];rfl
def Nm(l:List<|List Int)(a:List Int):l.foldl Zw a=Zw a (l.foldl Zw []):=by
 induction l generalizing a with
 |nil=>exact(Y4 a).symm
 |cons x l ih=>rw[ē,ē,ih,ih<|Zw [] x];show _=Zw a (Zw x _);rw[Jo]
def N0(f:Bool):∀(m:Nat) (C:Yc),cnt f m C=((rows f m C).map λr=>Wc<|nOp<|aft C r).foldl Zw []
 |0,C=>rfl
 |m+1,C=>by
  show(ZS C f).foldl (λa d=>Zw a<|cnt f m<|nxt C d) []=(((ZS C f).flatMap λd=>(rows f m<|nxt C d).map (d :: ·)).map λr=>Wc<|nOp<|aft C r).foldl Zw [];generalize ZS C f=l
  suffices h:∀a,l.foldl (λa d=>Zw a<|cnt f m<|nxt C d) a=((l.flatMap λd=>(rows f m<|nxt C d).map (d :: ·)).map λr=>Wc<|nOp<|aft C r).foldl Zw a from h []
  induction l with
  |nil=>exact λa=>rfl
  |cons d l ih =>
   intro a;rw[ē,ih,ĭ,Ì,Θ,ä];congr 1;rw[N0 f m<|nxt C d,Nm]
   conv=>rhs;rw[Nm]
   rfl
def Os(g:C.gd N):nOp C<=16:=Þ (Wy (C:=C) C.ts.length) g.no.sixteen
def O4{f:Bool}{d:Dd}(g:C.gd N)(h:d∈ZS C f):step C d=fb (nxt C d)/\(nxt C d).gd (N+1):=by
 let⟨D,hD⟩:=ô.mp<|Ag g h;have e:nxt C d=D:=by unfold nxt;rw[hD];rfl
 rw[e];exact⟨hD,(Wt g hD).1⟩
def Jx{f:Bool}:∀{m:Nat}{C:Yc}{N:Nat}{r:List Dd},C.gd N->r∈rows f m C->run C r=fb (aft C r)/\(aft C r).gd (N+m)/\r.length=m
 |0,C,N,r,g,h=>by rw[Ö.mp h];exact⟨rfl,g,rfl⟩
 |m+1,C,N,r,g,h=>by
  let⟨d,hd,h⟩:=Ĳ.mp h;let⟨q,hq,rfl⟩:=ç.mp h;let⟨e,g2⟩:=O4 g hd;let⟨r1,r2,r3⟩:=Jx g2 hq;refine⟨?_,?_,by rw[Ð,r3]⟩
  .show(step C d).bind _=_;rw[e];exact r1
  .rw[show N+(m+1)=N+1+m by lia];exact r2
def Us{f:Bool}:∀{m:Nat}{C:Yc}{N:Nat},C.gd N->(cnt f m C).length<=17
 |0,C,N,g=>by have:=Os g;show(Wc<|nOp C).length<=17;unfold Wc;rw[Å,á,Ă];lia
 |m+1,C,N,g=>by
  have key:∀(l:List Dd) (a:List Int),(∀d∈l,d∈ZS C f)->a.length<=17->(l.foldl (λa d=>Zw a<|cnt f m<|nxt C d) a).length<=17:=λl=>by
   induction l with
   |nil=>exact λa _ h=>h
   |cons d l ih =>intro a hl ha;refine ih _ (λx hx=>hl x<|æ _ hx) ?_;have:=Us (f:=f) (m:=m) (O4 g<|hl d<|by simp).2;rw[Wg];lia
  exact key _ _ (λ_ h=>h) (by simp)
def Jm:∀{l:List Dd}{C D:Yc}{N:Nat},C.gd N->run C l=fb D->D.gd (N+l.length)/\D.bs=C.bs/\D.ts=C.ts
 |[],C,D,N,g,h=>by cases h;exact⟨g,rfl,rfl⟩
 |d::l,C,D,N,g,h=>by let⟨E,h1,h2⟩:=î.mp h;let⟨g1,e1,e2,e3⟩:=Wt g h1;let⟨g2,f1,f2⟩:=Jm g1 h2;rw[Ð,show N+(l.length+1)=N+1+l.length by lia];exact⟨g2,f1.trans e1,f2.trans e2⟩
def Og:∀(xs ys:List Int),zipL (xs.map .int) (ys.map .int)=(xs.zip ys).map λq=>.tup [.int q.1,.int q.2]
 |[],_=>by simp[zipL]
 |_::_,[]=>by simp[zipL]
 |x::xs,y::ys=>by show Val.tup [.int x,.int y]::zipL (xs.map .int) (ys.map .int)=_;rw[Og xs ys];rfl
def L0(xs:List Val)(m:Nat)(h:m<=xs.length):cut xs (fb (m:Int)) fc=xs.drop m:=by show(xs.drop<|if 0<=(m:Int)then min (m:Int).toNat xs.length else((m:Int)+xs.length).toNat).take (xs.length - if 0<=(m:Int)then min (m:Int).toNat xs.length else((m:Int)+xs.length).toNat)=_;rw[gF (by lia),é,bc h,<-Τ,ñ]
section
variable {Y:Yd}{N:Nat}{C:Yc}
def B5{xs ys:List Int}(ea:h a=fb (.lst<|xs.map .int))(eb:h b=fb (.lst<|ys.map .int))(lx:xs.length<=1000)(ly:ys.length<=1000)(k:∀p g,h p=fc->Ext h g->g p=fb (.lst<|(Zw xs ys).map .int)->Q (.ref p) g):wF P (n+1) "added" [.ref a,.ref b] h Q X:=by
 have rest:∀{a b:Ad}{l s:List Int}{v0 v1:Option Val},h a=fb (.lst<|l.map .int)->h b=fb (.lst<|s.map .int)->s.length<=l.length->l.length<=1000->Zw l s=Zw xs ys->wSs (wF P n) (tl 1 Tz.body) [v0,v1,fb<|.ref a,fb<|.ref b,fc] h (λe g=>Q .non g) Q (λ_ _=>False) (λ_ _=>False) λ_ c g=>X c g:=by
  clear ea eb;intro a b l s v0 v1 ea eb le ll e;dsimp only[tl,Tz]
  exists IX ea eb
  dsimp only;rw[Og];have zl:(l.zip s).length<=1000:=by rw[List.length_zip];lia
  refine⟨Ë (by rw[À];exact zl) (by decide),WK (l:=l.zip s) (λq=>.int<|q.1+q.2) ⟨lsE ea,lsE eb⟩ (λq hq K k1=>?_)<|Zb λp1 g1 aF x1 e1=>?_⟩
  .walk_at "p";exact k1
  have ea1:=x1.get ea;have eb1:=x1.get eb;fail;rw[À,L0 _ _<|by rw[À];exact le];refine Zb λp2 g2 bq x2 e2=>?_;rw[<-List.map_drop]at e2;rw[show(l.zip s).map (λq=>Val.int<|q.1+q.2)=((l.zip s).map λq=>q.1+q.2).map Val.int by rw[ä];rfl]at e1;refine ZE (x2.get e1) e2 (by rw[Å,À,À,À,Τ,lim];lia)<|Zb λp3 g3 hp3 x3 e3=>?_;rw[<-Ì,NO l s le,e]at e3;exact k p3 g3 (Zf (x1.trans x2) hp3) ((x1.trans x2).trans x3) e3
 refine ET ?_;fail;rw[À,À];refine gb (λc1=>?_) λc1=>?_
 .have r:=rest (v0:=fb<|.ref a) (v1:=fb<|.ref b) ea eb (by lia) lx rfl;dsimp only[tl,Tz]at r
  repeat (first|exact r|walk_at "py1" | walk_at "w")
 .have r:=rest (v0:=fb<|.ref a) (v1:=fb<|.ref b) eb ea (by lia) ly<|KS _ _;dsimp only[tl,Tz]at r
  repeat (first|exact r|walk_at "py1" | walk_at "w")
def Dm{d:Dd}(x:fw h Y)(gd:Y.cc.gd N)(hN:N<=5000)(sd:(step Y.cc d).isSome=fe)(k:∀Z g,fw g Z->step Y.cc d=fb Z.cc->Ext h g->Q (.ref Z.y) g):wF P (n+7) "twin_behind" [.ref Y.y,d.v] h Q X:=by have xi:=x.ins;refine Kz ?_;refine' Dp x gd λZ g1 z1 ec fr x1=>?_;have zi:=z1.ins;refine' Wm z1 (by rw[ec];exact gd) (by lia) (by rw[ec];exact sd) λW g2 s mv=>?_;rw[ec]at s;fail;rw[<-mv.y];exact k W g2 mv.at_ s ⟨λ{a o} e=>(mv.off (λz=>by rw[fr a z]at e;cases e)<|x1.get e).2⟩
variable {l:List Dd}
def Hj{bs:List Int}(no:fG bs ts)(ep:h p=fb (.lst<|l.map Dd.v))(hl:l.length<=5000)(hr:run (WF bs ts most) l=fb C)(k:∀Y g,fw g Y->Y.cc=C->Ext h g->Q (.ref Y.y) g):B0 P (n+6) T4 [fb<|ZN bs ts,fb<|.int most,fb<|.ref p,fc,fc] h Q X:=by
 fail;intro y hy;refine JY (n:=n+3) no hy λY g1 ey y1 cc fr x1=>⟨rfl,?_⟩
 subst ey;rw[<-cc]at hr;have gd0:Y.cc.gd 0:=by rw[cc];exact X7 no
 have np:p∉Y.adr:=λz=>by rw[fr p z]at ep;cases ep
 refine' Zg (λi en g=>Sm2 λv4 Z=>Cj3 (en=[fb<|ZN bs ts,fb<|.int most,fb<|.ref p,fb<|.ref Y.y,v4]) (Mv g1 Y g Z)<|run Y.cc (l.take i)=fb Z.cc) ⟨_,Y,rfl,Mv.refl y1,rfl⟩ (λ_ _ _ _ ⟨_,_,_,m,_⟩=>lsE (m.off np<|x1.get ep).2) ?_ ?_
 .rintro i v en g hv ⟨v4,Z,rfl,m,hz⟩ K hK;let⟨d,hd,rfl⟩:=ZO hv;have hi:=(Î.mp hd).1;let⟨gz,_⟩:=Jm gd0 hz;have zi:=m.at_.ins;rw[m.y]at zi;fail;rw[<-m.y];refine Wm m.at_ gz (by rw[Ě];lia) (Fv hr hd hz) λW g2 s mv=>?_;fail;rw[m.y];exact hK _ _ ⟨_,W,rfl,m.trans mv,by rw[Zl hd,We hz];exact s⟩
 .rintro en g ⟨v4,Z,rfl,m,hz⟩;rw[À,ñ,hr]at hz;fail;rw[<-m.y];exact k Z g m.at_ (ê hz).symm ⟨λ{a o} e=>(m.off (λz=>by rw[fr a z]at e;cases e)<|x1.get e).2⟩
def BN{bs:List Int}(no:fG bs ts)(ep:h p=fb (.lst<|l.map Dd.v))(hl:l.length<=5000)(hr:run (WF bs ts most) l=fb C)(k:∀Y g,fw g Y->Y.cc=C->Ext h g->Q (.ref Y.y) g):wF P (n+7) "yard_behind" [ZN bs ts,.int most,.ref p] h Q X:=Km (Hj no ep hl hr k)
def M5{bs:List Int}(no:fG bs ts)(ep:h p=fb (.lst<|l.map Dd.v))(hl:l.length<=5000)(hr:run (WF bs ts most) l=fb C)(k:∀Y g,fw g Y->Y.cc=C->Ext h g->Q (.ref Y.y) g):wF P (n+7) "_law_yard" [ZN bs ts,.int most,.ref p] h Q X:=OI (Hj no ep hl hr k)
def KP{f:Bool}:∀(m:Nat){n N:Nat}{h:Hs}{Q:Q1}{Y:Yd},fw h Y->Y.cc.gd N->N+m<=900->(∀p g,h p=fc->Ext h g->g p=fb (.lst<|(cnt f m Y.cc).map .int)->Q (.ref p) g)->wF P (n+8+m) "counts_behind" [.ref Y.y,.int m,.bl f] h Q X
 |0,n,N,h,Q,Y,x,gd,hN,k=>by
  refine YT ?_;walk_at "p";refine Zb λp1 g1 aF x1 e1=>?_;refine' U1 (x.ext x1) gd λp2 g2 bq x2 e2=>?_;have nl:(Xo Y.cc Y.ts.length).length<=16:=Os gd;fail;rw[À];refine O8 (x2.get e1) ⟨by lia,by lia,by show 1*_<=lim;rw[lim,é,Nat.one_mul];lia⟩<|Zb λp3 g3 hp3 x3 e3=>?_;refine' Zb λp4 g4 cR x4 e4=>?_;rw[é,show(Í (Xo Y.cc Y.ts.length).length [Val.int 0]).flatten=(Í (nOp Y.cc) (0:Int)).map Val.int by
    show(Í (nOp Y.cc) [Val.int 0]).flatten=_
    generalize nOp Y.cc=m
    induction m with
    |zero=>rfl
    | succ m ih=>rw[ï,Ċ,ih,ï];rfl]at e3
  refine ZE (x4.get e3) e4 (by rw[Å,À,á,lim];show(Xo Y.cc Y.ts.length).length+1<=_;lia)<|Zb λp5 g5 hp5 x5 e5=>?_;have xx:=((x1.trans x2).trans x3).trans x4;exact k p5 g5 (Zf xx hp5) (xx.trans x5) (by rw[e5];show _=fb (Ob.lst<|(Wc<|nOp Y.cc).map Val.int);unfold Wc;rw[Ì];rfl)
 |m+1,n,N,h,Q,Y,x,gd,hN,k=>by
  have rec_:∀{N:Nat}{h:Hs}{Q:Q1}{Y:Yd},fw h Y->Y.cc.gd N->N+m<=900->(∀p g,h p=fc->Ext h g->g p=fb (.lst<|(cnt f m Y.cc).map .int)->Q (.ref p) g)->wF P (n+1+m+7) "counts_behind" [.ref Y.y,.int m,.bl f] h Q X:=λx gd hN k=>by rw[show n+1+m+7=n+8+m by lia];exact KP m x gd hN k
  rw[show n+8+(m+1)=n+1+m+7+1 by lia];refine YT ?_;refine' gb (λc=>by lia) (λ_=>?_);refine' Zb λp1 g1 aF x1 e1=>?_;refine' Ov (x.ext x1) gd (by lia) λp2 g2 bq x2 e2=>?_;refine' Zg (λi en g=>Sm2 λv4 pc=>Cj6 (en=[fb<|.ref Y.y,fb<|.int ((m+1:Nat):Int),fb<|.bl f,fb<|.ref pc,v4]) (h pc=fc) (Ext h g) (g p2=fb (.lst<|(ZS Y.cc f).map Dd.v)) (g pc=fb (.lst<|(((ZS Y.cc f).take i).foldl (λa d=>Zw a<|cnt f m<|nxt Y.cc d) []).map .int))<|(((ZS Y.cc f).take i).foldl (λa d=>Zw a<|cnt f m<|nxt Y.cc d) []).length<=17) ⟨_,p1,rfl,aF,x1.trans x2,e2,x2.get e1,by simp⟩ (λ_ _ _ _ ⟨_,_,_,_,_,e,_,_⟩=>lsE e) ?_ ?_
  .rintro i v en g hv ⟨v4,pc,rfl,hpc,xg,ep,ec,cl⟩ K hK;let⟨d,hd,rfl⟩:=ZO hv;have hm:=ë hd;let⟨sd,gn⟩:=O4 gd hm;have l17:=Us (f:=f) (m:=m) gn;rw[Zl hd,Θ,ē,bh]at hK;refine' Dm (x.ext xg) gd (by lia) (by rw[sd];rfl) λZ g3 z3 s x3=>?_;rw[sd]at s;have ez:nxt Y.cc d=Z.cc:=ê s;rw[ez]at gn l17 hK;fail;rw[show((m+1:Nat):Int) - 1=(m:Nat) by lia];refine rec_ z3 gn (by lia) λp4 g4 cR x4 e4=>?_;refine' B5 ((x3.trans x4).get ec) e4 (by lia) (by lia) λp5 g5 hp5 x5 e5=>?_;have xx:=x3.trans<|x4.trans x5;refine' hK _ _ ⟨_,p5,rfl,Zf (xg.trans<|x3.trans x4) hp5,xg.trans xx,xx.get ep,e5,?_⟩;show(Zw _ _).length<=17;rw[Wg];lia
  .rintro en g ⟨v4,pc,rfl,hpc,xg,ep,ec,cl⟩;rw[À,ñ]at ec;refine' k pc g hpc xg ec
def Il{f:Bool}{m:Nat}{bs:List Int}(no:fG bs ts)(ep:h p=fb (.lst<|l.map Dd.v))(hl:l.length+m<=900)(hr:run (WF bs ts most) l=fb C)(k:∀q g,h q=fc->Ext h g->g q=fb (.lst<|(cnt f m C).map .int)->Q (.ref q) g):wF P (n+9+m) "all_rows" [ZN bs ts,.int most,.ref p,.int m,.bl f] h Q X:=by rw[show n+9+m=(n+8+m)+1 by lia];refine O7 ?_;fail;rw[show n+8+m=(n+1+m)+7 by lia];refine BN no ep (by lia) hr λY g1 y1 ec x1=>?_;subst ec;let⟨gd,_⟩:=Jm (X7 no) hr;fail;rw[show n+1+m+7=n+8+m by lia];exact KP m y1 gd (by lia) λq g hq x e=>k q g (Zf x1 hq) (x1.trans x) e
end
abbrev tls(C:Yc):List<|Int×Nat:=C.br.map λq=>(q.1,q.2.ties.length)
def Eo{k:Int}{l:List (Int×Br)}(hF:∀B,(F B).ties=B.ties):(upC k F l).map (λq=>(q.1,q.2.ties.length))=l.map λq=>(q.1,q.2.ties.length):=by
 unfold upC;rw[ä];refine Ď λq _=>?_;show((if q.1=k then(q.1,F q.2)else q).1,(if q.1=k then(q.1,F q.2)else q).2.ties.length)=_;split
 .show(q.1,(F q.2).ties.length)=_;rw[hF]
 .rfl
def WM(B:Br):B.ticked.ties=B.ties:=(Ym B.grown<|Yu B.grown).2.1
def Ui{p:Int}{l:L}(B:Br):(ZX B p l).ties=B.ties:=by unfold ZX;split<;>(try split)<;>rfl
inductive R2 (a b:Int):Nat->List Dd->Prop
 |nil {m:Nat}:R2 a b m []
 |tick {m:Nat}{x:Int}{l:List Dd}:x=a\/x=b->R2 a b (m+1) l->R2 a b m (.tick x::l)
 |come {m:Nat}{l:List Dd}:R2 a b m l->R2 a b (m+1) (.come 0::l)
 |lost {m:Nat}{l:List Dd}:R2 a b m l->R2 a b (m+1) (.lost 0::l)
def Hu{l:List α}{m:Nat}(h:l.length=m+1):∃q r,l=q::r/\r.length=m:=by
 cases l with
 |nil=>cases h
 |cons q r=>exact⟨q,r,rfl,⇑h⟩
def R2.run{a b:Int}{m:Nat}{l:List Dd}(r:R2 a b m l):∀{C:Yc},tls C=[(a,1),(b,1)]->C.road.length=m->(run C l).isSome=fe:=by
 induction r with
 |nil=>exact λ_ _=>rfl
 |@tick m x l hx r ih =>
  intro C ht hm;have hb:x∈C.br.map (·.1):=by have:=congrArg (List.map (·.1)) ht;unfold tls at this;rw[ä]at this;rw[show C.br.map (·.1)=[a,b] from this];rcases hx with rfl|rfl<;>simp
  let⟨B,hB⟩:=ZK hb;have h1:B.ties.length=1:=by have:(x,B.ties.length)∈tls C:=ç.mpr ⟨_,Zy hB,rfl⟩;rw[ht]at this;simp![Ç,Õ,or_false,ŵ]at this;rcases this with q|q<;>exact q.2
  have e:step C (.tick x)=fb {C with br:=upC x Br.ticked C.br,road:=C.road++Z6 C.ts x B.told}:=by show(C.br.lookup x).map _=_;rw[hB];rfl
  show((step C<|.tick x).bind _).isSome=fe;rw[e];refine ih ?_ ?_
  .rw[<-ht];exact Eo WM
  .show(C.road++Z6 C.ts x B.told).length=_;rw[Å,hm];unfold Z6;rw[À,sortI,ŷ,À,show B.told.ties=B.ties from WM B,h1]
 |@come m l r ih =>intro C ht hm;let⟨q,rd,z,e⟩:=Hu hm;show((if(0:Int)<0 then fc else(C.road[(0:Int).toNat]?).map _).bind _).isSome=fe;rw[gG (by decide),z];exact ih (ht▸Eo (k:=q.2.1) Ui) e
 |@lost m l r ih =>intro C ht hm;let⟨q,rd,z,e⟩:=Hu hm;show((if(0:Int)<0 then fc else(C.road[(0:Int).toNat]?).map _).bind _).isSome=fe;rw[gG (by decide),z];exact ih ht e
def R2.older{a b x:Int}(hx:x=a\/x=b):∀k:Nat,R2 a b 0 (Í k [Dd.tick x,.lost 0]).flatten
 |0=>.nil
 |k+1=>by rw[ï,Ċ];exact .tick hx<|.lost<|R2.older hx k
abbrev quiet(a b:Int):List Dd:=[.tick a,.tick b,.come 0,.come 0]
def R2.quiet{a b:Int}{l:List Dd}(r:R2 a b 0 l):R2 a b 0<|quiet a b++l:=.tick (.inl rfl) (.tick (.inr rfl)<|.come<|.come r)
def U0{a b:Int}(h:a≠b):tls (WF [a,b] [(a,b,c)] most)=[(a,1),(b,1)]:=by show [(a,(Xc<|gq a 0 [(a,b,c)]).length),(b,(Xc<|gq b 0 [(a,b,c)]).length)]=_;unfold Xc gq gq;rw[gF<|.inl rfl,gF<|.inr rfl];rfl
structure Mz(w:Ad)(h:Hs)(Y:Yd)(g:Hs)(Z:Yd):Prop where
 y:Z.y=Y.y
 at_:fw g Z
 row:Purse g w
 nw:w∉Z.adr
 off:∀{a:Ad}{o:Ob},a≠w->h a=fb o->a∉Z.adr/\g a=fb o
def fw.extb(x:fw h Y)(e:ExtB w h g)(nw:w∉Y.adr):fw g Y:=x.keep (S:=[w]) (Ex.ofB e<|by simp) λa ha z=>nw (Ö.mp z▸ha)
section
variable {w:Ad}{h g f:Hs}{Y Z W:Yd}
def Mz.take(m:Mz w h Y g Z)(x:ExtB w g f)(r:Purse f w):Mz w h Y f Z:=⟨m.y,m.at_.extb x m.nw,r,m.nw,λn1 e=>⟨(m.off n1 e).1,x.get n1 (m.off n1 e).2⟩⟩
def Mz.ext(m:Mz w h Y g Z)(x:Ext g f):Mz w h Y f Z:=m.take (.of x) (m.row.ext x)
def Mz.mv(m:Mz w h Y g Z)(v:Mv g Z f W):Mz w h Y f W:=by let⟨ns,e⟩:=m.row;have o:=v.off m.nw e;exact⟨v.y.trans m.y,v.at_,⟨ns,o.2⟩,o.1,λn1 e=>let z:=m.off n1 e;v.off z.1 z.2⟩
def Mz.put(m:Mz w h Y g Z)(hp:h p=fc)(np:p∉Z.adr)(nw:p≠w):Mz w h Y (upd g p o) Z:=⟨m.y,m.at_.keep (S:=[p]) (Ex.upd<|by simp) λa ha z=>np<|Ö.mp z▸ha,m.row.exb nw,m.nw,λn1 e=>⟨(m.off n1 e).1,by rw[fg<|Za e hp];exact(m.off n1 e).2⟩⟩
end
section
variable {Y:Yd}{N:Nat}{C:Yc}
def EZ(g:C.gd N)(z:C.road=[]):C.gd 0:=⟨g.no,g.nd,g.sub,g.ok,g.lv,g.fn,g.fr,by rw[z];exact Ï _⟩
def Cd{bs:List Int}(no:fG bs ts)(hw:Purse h w)(k:∀p l C g,h p=fc->ExtB w h g->Purse g w->g p=fb (.lst<|l.map Dd.v)->run (WF bs ts most) l=fb C->l.length<=600->Q (.ref p) g):wF P (n+7) "_law_ahead" [ZN bs ts,.int most,.ref w] h Q X:=by
 have b10:=no.ten;have hbl:(bs.map Val.int).length=bs.length:=À _;refine M7 ?_;fail;intro y hy;have nyw:w≠y:=hw.ne hy;refine JY (n:=n+3) no hy λY g1 ey y1 cc fr x1=>⟨rfl,?_⟩
 subst ey;have gd0:Y.cc.gd 0:=by rw[cc];exact X7 no
 have rd0:Y.cc.road=[]:=by rw[cc];rfl
 have nwY:w∉Y.adr:=λz=>by let⟨ns,e⟩:=hw;rw[fr w z]at e;cases e
 rw[<-cc]at k;have k':∀{p:Ad}{l:List Dd}{Z:Yd}{g:Hs},Mz w h Y g Z->h p=fc->g p=fb (.lst<|l.map Dd.v)->run Y.cc l=fb Z.cc->l.length<=600->Q (.ref p) g:=λ{p l Z g} m hp ep hr hl=>k p l _ g hp ⟨λna e=>(m.off na e).2⟩ m.row ep hr hl;have e0:Y.bs=bs:=by have:=congrArg Yc.bs cc;exact this
 have kb0:Y.cc.br.map (·.1)=bs:=by rw[cc];show(bs.map λb=>(b,ZZ b 0 most<|gq b 0 ts)).map (·.1)=bs;rw[ä];exact Η _
 clear k;have fresh:∀{g:Hs}{Z:Yd}{p:Ad},Mz w h Y g Z->g p=fc->p≠w->h p=fc:=λ{g Z p} m e n=>by
  cases z:h p with
  |none=>rfl
  |some o=>rw[(m.off n z).2]at e;cases e
 have m0:Mz w h Y g1 Y:=⟨rfl,y1,hw.ext x1,nwY,λ_ e=>⟨(λz=>by rw[fr _ z]at e;cases e),x1.get e⟩⟩
 refine' Zb λp1 g2 aF x2 e1=>?_;have m1:=m0.ext x2;have hp1':=Zf x1 aF;have np1:p1∉Y.adr:=λz=>y1.taken z aF;refine' Zb λp2 g3 bq x3 e2=>?_;have n2:p2≠w:=λz=>m1.row.ne bq z.symm;refine' Zi (m1.ext x3).row λr g4 x4 w4=>?_;have m4:=(m1.ext x3).take x4 w4;have n1:p1≠w:=λz=>m0.row.ne aF z.symm;have e1:=x4.get n1<|x3.get e1;fail;let⟨u,eu,hu⟩:=Cw (xs:=[Val.int 0,.int 1,.int 2,.int 3,.int 3]) (ZL r 5).1 (ZL r 5).2;obtain⟨c,rfl,c0,c1⟩:∃c:Int,u=.int c/\0<=c/\c<=3:=by simp![Ç,Õ,or_false]at hu;rcases hu with rfl|rfl|rfl|rfl|rfl<;>exact⟨_,rfl,by decide,by decide⟩
 refine ZA (x4.get n2 e2) eu ?_;refine' ⟨⟨by lia,by lia⟩,?_⟩;refine Zg (λi en g=>∃v5 v6 v7 v8 p l Z,en=[fb<|ZN bs ts,fb<|.int most,fb<|.ref w,fb<|.ref Y.y,fb<|.ref p,v5,v6,v7,v8,fc]/\Mz w h Y g Z/\run Y.cc l=fb Z.cc/\Z.cc.gd 0/\Z.cc.br.map (·.1)=bs/\h p=fc/\p∉Z.adr/\p≠w/\g p=fb (.lst<|l.map Dd.v)/\l.length<=170*i) ⟨_,_,_,_,p1,[],Y,rfl,m4,rfl,gd0,kb0,hp1',np1,n1,e1,Ï _⟩ (λ_ _ _ _ _=>trivial) ?_ ?_
 .rintro i v en g hv ⟨v5,v6,v7,v8,p,l,Z,rfl,m,hr,gz,kb,hp,np,npw,ep,ll⟩ K hK;let⟨rfl,hi⟩:=YM hv
  exists fm (xs:=[.tup<|bs.map .int,.tup<|ts.map trV]) (v:=.tup<|bs.map .int) rfl
  refine' ⟨Ë (by rw[hbl];exact b10) (by decide),YO (l:=bs) Dd.tick trivial (λb hb K k1=>by walk_at "p";exact k1)<|Zb λpt g5 hpt x5 et=>?_⟩;have m5:=m.ext x5;have nZt:pt∉Z.adr:=λz=>m.at_.taken z hpt;have npt:pt≠w:=λz=>m.row.ne hpt z.symm;have ept:=x5.get ep;refine' Zg (λj en g=>Sm2 λv7 W=>Cj9 (en=[fb<|ZN bs ts,fb<|.int most,fb<|.ref w,fb<|.ref Y.y,fb<|.ref p,fb<|.int i,fb<|.ref pt,v7,v8,fc]) (Mz w h Y g W) (run Y.cc (l++(bs.map Dd.tick).take j)=fb W.cc) (W.cc.gd j) (W.cc.br.map (·.1)=bs) (p∉W.adr) (g p=fb (.lst<|l.map Dd.v)) (pt∉W.adr)<|g pt=fb (.lst<|(bs.map Dd.tick).map Dd.v)) ⟨_,Z,rfl,m5,by rw[List.take_zero,í];exact hr,gz,kb,np,ept,nZt,et⟩ (λ_ _ _ _ ⟨_,_,_,_,_,_,_,_,_,_,e⟩=>lsE e) ?_ ?_
  .rintro j v en g hv ⟨v7,W,rfl,m,hr,gw,kw,np,ep,nt,et⟩ K hK;let⟨d,hd,rfl⟩:=ZO hv;have hj:=(Î.mp hd).1;rw[À]at hj;have cG:=hd;rw[ß]at cG;let⟨b,hb,rfl⟩:=Ò.mp cG;let⟨D,hD,hDk⟩:=K4 (C:=W.cc) (b:=b) (by rw[kw];exact ë hb);have zi:=m.at_.ins;rw[m.y]at zi;fail;rw[<-m.y];refine Wm m.at_ gw (by lia) (by rw[hD];rfl) λV g6 s mv=>?_;let⟨gv,_⟩:=Wt gw s;have o1:=mv.off np ep;have o2:=mv.off nt et;have hr2:run Y.cc (l++(bs.map Dd.tick).take (j+1))=fb V.cc:=by rw[Zl hd,<-û,We hr];exact s
   rw[hD]at s;cases s;fail;rw[m.y];exact hK _ _ ⟨_,V,rfl,m.mv mv,hr2,gv,hDk.trans kw,o1.1,o1.2,o2.1,o2.2⟩
  rintro en g ⟨v7,W,rfl,m,hr,gw,kw,np,ep,nt,et⟩;rw[À,ñ]at hr;rw[À,À]at gw;have gl:=gw.len;have rl:W.road.length=W.cc.road.length:=rfl;have zi:=m.at_.ins;rw[m.y]at zi;fail;rw[<-m.y];refine Mf m.at_ λp6 g6 hp6 x6 e6=>?_;rw[m.y];refine' ⟨Ë (by rw[À,rl];lia:_<=160) (by decide),YO (l:=W.road) (λ_=>Dd.come 0) (lsE e6) (λb hb K k1=>by walk_at "p";exact k1)<|Zb λpc g7 hpc x7 ec=>?_⟩;rw[List.map_const']at ec
  replace ec:g7 pc=fb (.lst<|(Í W.cc.road.length<|Dd.come 0).map Dd.v):=ec
  have m7:=(m.ext x6).ext x7;have nWc:pc∉W.adr:=λz=>(m.ext x6).at_.taken z hpc;have npc:pc≠w:=λz=>(m.ext x6).row.ne hpc z.symm;have ep7:=(x6.trans x7).get ep;have et7:=(x6.trans x7).get et;generalize hR:W.cc.road.length=R at *;refine' Zg (λj en g=>∃v7 V,en=[fb<|ZN bs ts,fb<|.int most,fb<|.ref w,fb<|.ref Y.y,fb<|.ref p,fb<|.int i,fb<|.ref pt,v7,fb<|.ref pc,fc]/\Mz w h Y g V/\run Y.cc (l++bs.map Dd.tick++Í j (Dd.come 0))=fb V.cc/\V.cc.gd 10/\V.cc.road.length+j=R/\V.cc.br.map (·.1)=bs/\p∉V.adr/\g p=fb (.lst<|l.map Dd.v)/\pt∉V.adr/\g pt=fb (.lst<|(bs.map Dd.tick).map Dd.v)/\pc∉V.adr/\g pc=fb (.lst<|(Í R<|Dd.come 0).map Dd.v)) ⟨_,W,rfl,m7,by rw[dC,í];exact hr,gw.more b10,hR,kw,np,ep7,nt,et7,nWc,ec⟩ (λ_ _ _ _ ⟨_,_,_,_,_,_,_,_,_,_,_,_,_,e⟩=>lsE e) ?_ ?_
  .rintro j v en g hv ⟨v7,V,rfl,m,hr,gv,hl,kv,np,ep,nt,et,nc,ec⟩ K hK;have hj:=(Î.mp hv).1;rw[À,á]at hj;let⟨d,hd,rfl⟩:=ZO hv;obtain rfl:d=Dd.come 0:=List.eq_of_mem_replicate<|ë hd;have hs:=(MT (C:=V.cc) (r:=0) (by lia)<|by lia).2;have zi:=m.at_.ins;rw[m.y]at zi;fail;rw[<-m.y];refine Wm m.at_ gv (by lia) hs λU g8 s mv=>?_;let⟨gu,_⟩:=Wt gv s;have hr2:run Y.cc (l++bs.map Dd.tick++Í (j+1) (Dd.come 0))=fb U.cc:=by rw[List.replicate_succ',<-û,We hr];exact s
   have hu:U.cc.road.length+1=V.cc.road.length/\U.cc.br.map (·.1)=V.cc.br.map (·.1):=by
    replace s:(if(0:Int)<0 then fc else(V.cc.road[(0:Int).toNat]?).map _)=fb U.cc:=s
    rw[gG<|by decide]at s;let⟨r,_,e⟩:=Ò.mp s;rw[<-e];refine⟨?_,?_⟩
    .show(V.cc.road.eraseIdx 0).length+1=_;rw[List.length_eraseIdx_of_lt<|by lia];lia
    .exact X9 (k:=r.2.1) (F:=λx=>ZX x r.2.2.1 r.2.2.2) V.cc.br
   have o1:=mv.off np ep;have o2:=mv.off nt et;have o3:=mv.off nc ec;fail;rw[m.y];exact hK _ _ ⟨_,U,rfl,m.mv mv,hr2,⟨gu.no,gu.nd,gu.sub,gu.ok,gu.lv,gu.fn,gu.fr,by have:=gv.len;lia⟩,by lia,hu.2.trans kv,o1.1,o1.2,o2.1,o2.2,o3.1,o3.2⟩
  rintro en g ⟨v7,V,rfl,m,hr,gv,hl,kv,np,ep,nt,et,nc,ec⟩;rw[À,á]at hr hl;have ln:∀{l m:List Dd},l.length<=1000->m.length<=1000->(l.map Dd.v++m.map Dd.v).length<=lim:=λ{l m} a b=>by rw[Å,À,À,lim];lia
  have R160:R<=160:=by have:=gv.len;lia
  refine' ZE ep et (ln (by lia)<|by rw[À];lia) (Zb λpa g9 hpa x9 ea=>?_);rw[<-Ì]at ea;refine' ZE ea (x9.get ec) (ln (by rw[Å,À];lia)<|by rw[á];lia) (Zb λpb g10 hpb x10 eb=>?_);rw[<-Ì]at eb;have m9:=m.ext x9;have npb:pb≠w:=λz=>m9.row.ne hpb z.symm;refine' hK _ _ ⟨_,_,_,_,pb,_,V,rfl,m9.ext x10,hr,EZ gv<|ž<|by lia,kv,fresh m9 hpb npb,λz=>m9.at_.taken z hpb,npb,eb,?_⟩;rw[Å,Å,À,á];lia
 .rintro en g ⟨v5,v6,v7,v8,p,l,Z,rfl,m,hr,gz,kb,hp,np,npw,ep,ll⟩;rw[Wb]at ll;have ll:l.length<=510:=by lia
  refine' Zi m.row λr g4 x4 w4=>?_;have m:=m.take x4 w4;have ep:=x4.get npw ep;let⟨r0,r1⟩:=ZL r 5;fail;generalize r % 5=r at r0 r1 ⊢;refine⟨⟨by lia,by lia⟩,?_⟩;refine Zg (λi en g=>Sm5 λv5 v7 v9 l Z=>Cj7 (en=[fb<|ZN bs ts,fb<|.int most,fb<|.ref w,fb<|.ref Y.y,fb<|.ref p,v5,v6,v7,v8,v9]) (Mz w h Y g Z) (run Y.cc l=fb Z.cc) (Z.cc.gd i) (p∉Z.adr) (g p=fb (.lst<|l.map Dd.v))<|l.length<=510+i) ⟨_,_,_,l,Z,rfl,m,hr,gz,np,ep,ll⟩ (λ_ _ _ _ _=>trivial) ?_ ?_
  .rintro i v en g hv ⟨v5,v7,v9,l,Z,rfl,m,hr,gz,np,ep,ll⟩ K hK;let⟨rfl,hi⟩:=YM hv;have zi:=m.at_.ins;rw[m.y]at zi;refine' Zi m.row λq g5 x5 w5=>?_;have m:=m.take x5 w5;have ep:=x5.get npw ep;have zi:=m.at_.ins;fail;rw[<-m.y];refine WL m.at_ gz (by lia) λpo g6 hpo x6 eo=>?_;rw[m.y];have npo:po∉Z.adr:=λz=>m.at_.taken z hpo;have npw':po≠w:=λz=>m.row.ne hpo z.symm;have nop:p≠po:=Za ep hpo;have m:=m.ext x6;have ep:=x6.get ep;refine' Zb λpn g7 hpn x7 en=>?_;refine c_neE (x7.get eo) en ?_;have m:=m.ext x7;have ep:=x7.get ep;have eo:=x7.get eo;have hO:∀d∈ZS Z.cc (gM (q % 3=0)),(step Z.cc d).isSome=fe:=λd hd=>Ag gz hd;generalize ZS Z.cc (gM (q % 3=0))=os at eo hO ⊢;cases os with
   |nil =>walk_at "p";exact hK _ _ ⟨_,_,_,l,Z,rfl,m,hr,gz.more (by lia),np,ep,by lia⟩
   |cons d0 os =>
    walk_at "p";refine Zi m.row λu g8 x8 w8=>?_;have m:=m.take x8 w8;have ep:=x8.get npw ep;have eo:=x8.get npw' eo;fail;rw[À];have op:(0:Int)<((d0::os).length:Nat):=by rw[Ð];lia
    let⟨d,hd,hm⟩:=OE (xs:=d0::os) (Į u<|show((d0::os).length:Int)≠0 by lia)<|Ĩ u op;refine b_mod op ?_;refine ZA eo (XO (x:=d.v) (Į u<|show((d0::os).length:Int)≠0 by lia)<|by rw[ß,hd];rfl) ?_;have zi:=m.at_.ins;rw[m.y]at zi;fail;rw[<-m.y];refine Wm m.at_ gz (by lia) (hO d hm) λV g9 s mv=>?_;let⟨gv,_⟩:=Wt gz s;have o1:=mv.off np ep;rw[m.y];have m:=m.mv mv;have e9:=o1.2;refine' Zv e9 (by rw[À,lim];lia) ?_;refine' hK _ _ ⟨_,_,_,l++[d],V,rfl,m.put hp o1.1 npw,by rw[We hr];exact s,gv,o1.1,by refine fh.trans ?_;rw[Ì];rfl,by rw[Å,Ă];lia⟩
  .rintro en g ⟨v5,v7,v9,l,Z,rfl,m,hr,gz,np,ep,ll⟩;rw[Wb]at ll;refine' k' m hp ep hr (by lia)
end
def GA{a b:Int}(a0:0<=a)(ab:a<b)(b1:b<1000)(c0:1<=c)(c1:c<=1000):fG [a,b] [(a,b,c)]:=⟨by simp,by simp,λi hi=>by
  simp![Ç,Õ,or_false]at hi
  rcases hi with rfl|rfl<;>lia,by simp[ab],by simp,λt ht=>by
  rw[Ö.mp ht]
  exact⟨by simp,by simp,ab,c0,c1⟩⟩
def BR{bs:List Int}(no:fG bs ts):fG bs<|ts.take 4:=⟨no.one,no.ten,no.rng,no.up,Þ (List.length_take_le _ _) (by decide),λt ht=>no.tie t<|List.mem_of_mem_take ht⟩
def NY{l:List Dd}(h:(run C l).isSome=fe):∃D,run C l=fb D:=ô.mp h
section
variable {Y:Yd}{N:Nat}{C:Yc}
def LG(hw:Purse h w)(k:∀a b c g,0<=a->a<b->b<1000->1<=c->c<=1000->ExtB w h g->Purse g w->Q (ZN [a,b] [(a,b,c)]) g):wF P (n+2) "_law_two" [.ref w] h Q X:=by refine Bv ?_;refine' Zi hw λr g1 x1 w1=>?_;fail;let⟨a0,a1⟩:=ZL r 999;generalize r % 999=a at a0 a1 ⊢;refine Zi w1 λr g2 x2 w2=>?_;fail;have b0:=Į r (show 999 - a≠0 by lia);have b1:=Ĩ r (show 0<999 - a by lia);generalize r % (999 - a)=b at b0 b1 ⊢;refine Zi w2 λr g3 x3 w3=>?_;fail;let⟨c0,c1⟩:=ZL r 1000;generalize r % 1000=c at c0 c1 ⊢;exact k a (a+1+b) (1+c) g3 a0 (by lia) (by lia) (by lia) (by lia) ((x1.trans x2).trans x3) w3
def FU(hw:Purse h w)(k:∀bs ts most f p l C mst bnd g,fG bs ts->ExtB w h g->g p=fb (.lst<|l.map Dd.v)->run (WF bs ts most) l=fb C->l.length<=600->mst<=4->bnd<=160->Q (.tup [ZN bs ts,.int most,.bl f,.ref p,.int (mst:Nat),.int (bnd:Nat)]) g):wF P (n+8) "_law_case" [.ref w] h Q X:=by
 refine OA ?_;refine' Zi hw λr g1 x1 w1=>?_
 exists Dn (ns:=[1,2])
 refine' gb (λc1=>?_) (λc1=>?_)
 .refine' LG w1 λa b c g2 a0 ab b1 c0 c1 x2 w2=>?_;have no:=GA a0 ab b1 c0 c1
  exists fm (xs:=[.tup [.int a,.int b],.tup [trV (a,b,c)]]) (v:=.tup [.int a,.int b]) rfl
  exists fm (xs:=[.tup [.int a,.int b],.tup [trV (a,b,c)]]) (v:=.tup [.int a,.int b]) rfl
  refine' Zb λp3 g3 hp3 x3 e3=>?_;have n3:p3≠w:=λz=>w2.ne hp3 z.symm
  replace e3:g3 p3=fb (.lst<|(quiet a b).map Dd.v):=e3
  have w3:=w2.ext x3;have xx:ExtB w h g3:=(x1.trans x2).trans<|.of x3;refine' gb (λc2=>?_) (λc2=>?_)
  .refine' Zi w3 λr g4 x4 w4=>?_;fail;let⟨D,hD⟩:=NY (R2.run (R2.quiet (l:=[]) .nil) (U0 (a:=a) (b:=b) (c:=c) (most:=4+r % 197)<|by lia) rfl);rw[í]at hD;exact k [a,b] [(a,b,c)] _ ff p3 (quiet a b) D 4 160 g4 no (xx.trans x4) (x4.get n3 e3) hD (by show 4<=600;decide) (by decide) (by decide)
  refine' Zi w3 λr g4 x4 w4=>?_;have e4:=x4.get n3 e3;fail;let⟨r0,r1⟩:=ZL r 25;generalize r % 25=m at r0 r1 ⊢;refine fm (xs:=[.tup [.int a,.int b],.tup [trV (a,b,c)]]) (v:=.tup [.int a,.int b]) rfl ?_;refine' Zi w4 λr g5 x5 w5=>?_;have e5:=x5.get n3 e4;fail;let⟨x,eu,hx⟩:=U3 a b r;refine fm eu ?_;refine' Zb λp6 g6 hp6 x6 e6=>?_;have n6:p6≠w:=λz=>w5.ne hp6 z.symm;refine' Zi (w5.ext x6) λr g7 x7 w7=>?_;have e67:=x7.get n6 e6;have e7:=x7.get n3<|x6.get e5;fail;let⟨r0',r1'⟩:=ZL r 5;generalize r % 5=q at r0' r1' ⊢;refine O8 e67 ⟨by lia,by lia,by show 2*_<=lim;rw[lim];lia⟩<|Zb λp8 g8 hp8 x8 e8=>?_;have n8:p8≠w:=λz=>w7.ne hp8 z.symm;rw[show(Í (4+m - 4+q).toNat [Val.tup [.str "tick",.int x],.tup [.str "lost",.int 0]]).flatten=((Í (4+m - 4+q).toNat [Dd.tick x,.lost 0]).flatten).map Dd.v by
    generalize (4+m - 4+q).toNat=k
    induction k with
    |zero=>rfl
    | succ k ih=>rw[ï,Ċ,ih,ï,Ċ,Ì];rfl]at e8
  have kl:((Í (4+m - 4+q).toNat [Dd.tick x,.lost 0]).flatten).length=2*(4+m - 4+q).toNat:=by
   generalize (4+m - 4+q).toNat=k;induction k with
   |zero=>rfl
   |succ k ih=>rw[ï,Ċ,Å,ih];show 2+_=_;lia
  have ro:=R2.older hx (4+m - 4+q).toNat;have km:(4+m - 4+q).toNat<=28:=by lia
  generalize (Í (4+m - 4+q).toNat [Dd.tick x,.lost 0]).flatten=od at e8 kl ro;refine' Zi (w7.ext x8) λr g9 x9 w9=>?_;have e9:=x9.get n3<|x8.get e7;have e89:=x9.get n8 e8;refine' O8 e9 ⟨by decide,by decide,by show 4*3<=lim;decide⟩ (Zb λp10 g10 hp10 x10 e10=>?_);fail;rw[show(Í (3:Int).toNat<|(quiet a b).map Dd.v).flatten=(quiet a b++(quiet a b++quiet a b)).map Dd.v from rfl]at e10;refine ZE e10 (x10.get e89) (by rw[Å,À,À,lim];show 12+_<=_;lia)<|Zb λp11 g11 hp11 x11 e11=>?_;rw[<-Ì]at e11;have n11:p11≠w:=λz=>(w9.ext x10).ne hp11 z.symm;have w11:=(w9.ext x10).ext x11;refine' Zi w11 λr2 g12 x12 w12=>?_;fail;let⟨s0,s1⟩:=ZL r2 3;let⟨D,hD⟩:=NY (R2.run (R2.quiet<|R2.quiet<|R2.quiet ro) (U0 (a:=a) (b:=b) (c:=c) (most:=4+m)<|by lia) rfl);have:=k [a,b] [(a,b,c)] (4+m) (gM (r % 2=1)) p11 _ D (r2 % 3).toNat 32 g12 no (((((((xx.trans x4).trans x5).trans<|.of x6).trans x7).trans<|.of x8).trans x9).trans<|(ExtB.of<|x10.trans x11).trans x12) (x12.get n11 e11) (by rw[û,û];exact hD) (by rw[Å];show 12+_<=_;lia) (by lia) (by decide);rw[ϭ s0]at this;exact this
 .refine' Ir w1 λbs ts g2 no x2 w2=>?_;have no4:=BR no
  exists fm (xs:=[.tup<|bs.map .int,.tup<|ts.map trV]) (v:=.tup<|bs.map .int) rfl
  exists fm (xs:=[.tup<|bs.map .int,.tup<|ts.map trV]) (v:=.tup<|ts.map trV) rfl
  exists FK
  rw[show cut (ts.map trV) fc (fb 4)=(ts.take 4).map trV by
    show((ts.map trV).drop 0).take (min 4 (ts.map trV).length - 0)=_
    rw[ϟ,ay,À,<-List.map_take]
    congr 1
    by_cases hz:ts.length<=4
    . rw[Nat.min_eq_right hz,ñ,List.take_of_length_le hz]
    . rw[bc<|Nat.le_of_not_le hz]]
  generalize ts.take 4=ts at no4 ⊢;fail;rw[show Val.tup [.tup<|bs.map .int,.tup<|ts.map trV]=ZN bs ts from rfl];refine Zi w2 λr g3 x3 w3=>?_;refine' Zb λp4 g4 cR x4 e4=>?_;have n4:p4≠w:=λz=>w3.ne cR z.symm;refine' Zi (w3.ext x4) λq g5 x5 w5=>?_;fail;let⟨c,eu,ce⟩:=U3 20 197 q;have c0:0<c:=by lia
  refine ZA (x5.get n4 e4) eu ?_;refine b_mod c0 ?_;refine' Zi w5 λr2 g6 x6 w6=>?_;refine' Cd no4 w6 λp l C g7 hp7 x7 w7 e7 hr hl=>?_;have n7:p≠w:=λz=>w6.ne hp7 z.symm;refine' Zi w7 λr3 g8 x8 w8=>?_;fail;let⟨s0,s1⟩:=ZL r3 5;have:=k bs ts (4+r % c) (gM (r2 % 2=1)) p l C (r3 % 5).toNat 32 g8 no4 (((((((x1.trans x2).trans x3).trans<|.of x4).trans x5).trans x6).trans x7).trans x8) (x8.get n7 e7) hr hl (by lia) (by decide);rw[ϭ s0]at this;exact this
end
abbrev Rws(g:Hs)(p:Ad)(rs:List<|List Dd):Prop:=∃l:List<|Ad×List Dd,g p=fb (.lst<|l.map λq=>.ref q.1)/\l.map (·.2)=rs/\∀q∈l,g q.1=fb (.lst<|q.2.map Dd.v)
def DQ{f:Bool}(g:C.gd N):(ZS C f).length<=100+32*N:=by let⟨l1,l2,l3,l4⟩:=WX g;have t16:=g.no.sixteen;have l5:=ĺ (λp=>!gM (p∈C.cuts))<|iup C.ts.length;rw[Yb]at l5;unfold ZS;cases f<;>simp![Å,À,Yb,if_true,if_false,Ĉ,ĸ]<;>lia
def isl{xs:List Val}(e:h a=fb (.lst xs))(q:Q (.bl fe) h):(biV h (.isi ["list"]) [.ref a]).wp h Q:=Ru (by unfold isiAny isiAny gD gB;simp![e];rfl) q
section
variable {Y:Yd}{N:Nat}{C:Yc}
def E0{f:Bool}{bs:List Int}{pa:Ad}{la:List Dd}{mst bnd:Nat}(no:fG bs ts)(ep:h pa=fb (.lst<|la.map Dd.v))(hl:la.length<=600)(hr:run (WF bs ts most) la=fb C)(hm:mst<=4)(hb:bnd<=160)(k:∀m p g,m<=4->h p=fc->Ext h g->Rws g p (rows f m C)->Q (.tup [.int (m:Nat),.ref p]) g):wF P (n+8) "_law_rows" [ZN bs ts,.int most,.ref pa,.bl f,.int (mst:Nat),.int (bnd:Nat)] h Q X:=by
 have gC:C.gd la.length:=by have:=(Jm (X7 no) hr).1;rwa [Ų]at this
 refine Om ?_;refine' Zb λp0 g0 hp0 x0 e0=>?_;refine' Zb λp1 g1 aF x1 e1=>?_;have hp1':=Zf x0 aF;refine' ⟨⟨by lia,by lia⟩,?_⟩;refine Zg (λi en g=>Sm5 λv7 v8 v9 v10 p=>Cj4 (en=[fb<|ZN bs ts,fb<|.int most,fb<|.ref pa,fb<|.bl f,fb<|.int (mst:Nat),fb<|.int (bnd:Nat),fb<|.ref p,v7,v8,v9,v10]) (h p=fc) (Ext h g)<|Rws g p<|rows f i C) ⟨_,_,_,_,p1,rfl,hp1',x0.trans x1,[(p0,[])],e1,rfl,λq hq=>by rw[Ö.mp hq];exact x1.get e0⟩ (λ_ _ _ _ _=>trivial) ?_ ?_
 .rintro i v en g hv ⟨v7,v8,v9,v10,p,rfl,hp,xg,l,el,em,ea⟩ K hK;let⟨rfl,hi⟩:=YM hv;have hi:i<4:=by lia
  refine' Zb λp8 g8 hp8 x8 e8=>?_;have hR:∀r∈l.map (·.2),r∈rows f i C:=λr h=>em▸h;refine' Zg (λj en g=>Sm4 λv9 v10 p8 M=>Cj8 (en=[fb<|ZN bs ts,fb<|.int most,fb<|.ref pa,fb<|.bl f,fb<|.int (mst:Nat),fb<|.int (bnd:Nat),fb<|.ref p,fb<|.int (i:Nat),fb<|.ref p8,v9,v10]) (h p8=fc) (Ext h g) (g p=fb (.lst<|l.map λq=>.ref q.1)) ((∀q∈l,g q.1=fb (.lst<|q.2.map Dd.v))) (Rws g p8 M) ((M=((l.take j).map (·.2)).flatMap (λr=>(ZS (aft C r) f).map λd=>r++[d])\/bnd<M.length))<|M.length<=20000) ⟨_,_,p8,[],rfl,Zf xg hp8,xg.trans x8,x8.get el,λq hq=>x8.get<|ea q hq,⟨[],e8,rfl,(λq hq=>by cases hq)⟩,.inl rfl,by simp⟩ (λ_ _ _ _ ⟨_,_,_,_,_,_,_,e,_,_,_,_⟩=>lsE e) ?_ ?_
  .rintro j v en g hv ⟨v9,v10,p8,M,rfl,hp8,xg,el,ea,⟨lM,e8,eM,aM⟩,hM,lenM⟩ K hK;let⟨q,hq,rfl⟩:=ZO hv;have hqm:=ë hq;have hqr:=hR q.2<|ö hqm;let⟨r1,r2,r3⟩:=Jx gC hqr;have lM':lM.length=M.length:=by rw[<-eM,À]
   fail;rw[À,lM'];refine gb (λc1=>?_) λc1=>?_
   .have hM:M=((l.take j).map (·.2)).flatMap (λr=>(ZS (aft C r) f).map λd=>r++[d]):=hM.resolve_right (by lia);refine' ZE (xg.get ep) (ea q hqm) (by rw[Å,À,À,lim];lia) (Zb λp2 g2 bq x2 e2=>?_);rw[<-Ì]at e2;refine' M5 (l:=la++q.2) no e2 (by rw[Å];lia) (by rw[Wf,hr];exact r1) λY g3 y3 ec x3=>?_;refine' WL (f:=f) y3 (by rw[ec];exact r2) (by lia) λpo g4 hpo x4 eo=>?_;rw[ec]at eo;have ol:=DQ (f:=f) r2;have x24:=(x2.trans x3).trans x4;fail;generalize hos:ZS (aft C q.2) f=os at eo ol;refine⟨Ë (by rw[À];exact ol)<|Ë (by lia:100+32*(la.length+i)<=20000)<|by decide,?_⟩;refine Wo (λj ys g=>∃l2:List<|Ad×List Dd,ys=l2.map (λq=>.ref q.1)/\l2.map (·.2)=(os.take j).map (λd=>q.2++[d])/\(∀u∈l2,g u.1=fb (.lst<|u.2.map Dd.v))/\Ext g4 g) ⟨[],rfl,rfl,(λq hq=>by cases hq),Ext.refl⟩ (λ_ _ _ _ ⟨_,_,_,_,x⟩=>lsE<|x.get eo) ?_ ?_
    .rintro j v ys g5 hv ⟨l2,rfl,em2,a2,x5⟩ K hK;let⟨d,hd,rfl⟩:=ZO hv;have eq5:=x5.get<|x24.get<|ea q hqm;walk_at "p";refine Zb λp6 g6 hp6 x6 e6=>?_;refine ZE (x6.get eq5) e6 (by rw[Å,À,lim];show _+1<=_;lia)<|Zb λp7 g7 hp7 x7 e7=>?_;refine hK _ _ ⟨l2++[(p7,q.2++[d])],by rw[Ì];rfl,by rw[Ì,em2,Zl hd,Ì];rfl,λu hu=>?_,x5.trans<|x6.trans x7⟩;rcases Û.mp hu with hu|hu
     .exact(x6.trans x7).get<|a2 u hu
     .rw[Ö.mp hu,e7,Ì];rfl
    rintro ys g5 ⟨l2,rfl,em2,a2,x5⟩;rw[À,ñ]at em2;refine Zb λp6 g6 hp6 x6 e6=>?_;have l2l:l2.length=os.length:=by have:=congrArg List.length em2;simpa using this
    have xx:=(x24.trans x5).trans x6;refine ZE (xx.get e8) e6 (by rw[Å,À,À,lM',l2l,lim];lia)<|Zb λp7 g7 hp7 x7 e7=>?_;refine' hK _ _ ⟨_,_,p7,M++os.map (λd=>q.2++[d]),rfl,Zf (xg.trans xx) hp7,xg.trans<|xx.trans x7,(xx.trans x7).get el,λu hu=>(xx.trans x7).get<|ea u hu,⟨lM++l2,by rw[e7,Ì],by rw[Ì,eM,em2],λu hu=>?_⟩,.inl ?_,?_⟩
    .rcases Û.mp hu with hu|hu
     .exact(xx.trans x7).get<|aM u hu
     .exact(x6.trans x7).get<|a2 u hu
    .rw[Zl hq,Ì,ι,<-hM];show _=M++((ZS (aft C q.2) f).map (λd=>q.2++[d])++[])
     rw[hos,í]
    .rw[Å,À];lia
   .exact hK _ _ ⟨_,_,p8,M,rfl,hp8,xg,el,ea,⟨lM,e8,eM,aM⟩,.inr (by lia),lenM⟩
  .rintro en g ⟨v9,v10,p8,M,rfl,hp8,xg,el,ea,⟨lM,e8,eM,aM⟩,hM,lenM⟩;have lM':lM.length=M.length:=by rw[<-eM,À]
   rw[À,ñ,em]at hM;fail;rw[À,lM'];refine gb (λc1=>?_) λc1=>?_
   .refine' k i p g (by lia) hp xg ⟨l,el,em,ea⟩
   .have hM:=hM.resolve_right (by lia);refine' hK _ _ ⟨_,_,_,_,p8,rfl,hp8,xg,by rw[KE,<-hM];exact⟨lM,e8,eM,aM⟩⟩
 .rintro en g ⟨v7,v8,v9,v10,p,rfl,hp,xg,rw_⟩;rw[Wb,é]at rw_;refine' k mst p g hm hp xg rw_
def NS{xs:List Int}(ea:h a=fb (.lst<|xs.map .int))(eb:h b=fb (.lst<|xs.map .int))(hl:xs.length<=1000)(k:Q (.bl fe) h):wF P (n+1) "_law_alike" [.ref a,.ref b] h Q X:=by
 have hL:(xs.map Val.int).length=xs.length:=À _;refine NI ?_
 exists isl ea
 walk_at "p";refine NR (λz=>gL rfl z) λ_=>?_;fail;rw[hL];refine⟨⟨by lia,by lia⟩,?_⟩;refine Zg (λi en g=>g=h/\∃v2,en=[fb<|.ref a,fb<|.ref b,v2]) ⟨rfl,_,rfl⟩ (λ_ _ _ _ _=>trivial) ?_ ?_
 .rintro i v en g hv ⟨rfl,v2,rfl⟩ K hK;let⟨rfl,hi⟩:=YM hv;let⟨x,hx,ex⟩:=pick (ns:=xs) (r:=(i:Int)) (by lia) hi
  exists ZA ea ex
  walk_at "p";refine ZA ea ex ?_;walk_at "p";refine ZA ea ex ?_
  exists ZA eb ex
  refine' NR (λz=>gL rfl z) (λ_=>?_);exact hK _ _ ⟨rfl,_,rfl⟩
 .rintro en g ⟨rfl,v2,rfl⟩;refine' k
def Am{f:Bool}{m:Nat}{bs:List Int}{l:List Dd}(no:fG bs ts)(ep:h p=fb (.lst<|l.map Dd.v))(hl:l.length<=600)(m4:m<=4)(hr:run (WF bs ts most) l=fb C)(k:∀q g,h q=fc->Ext h g->g q=fb (.lst<|(cnt f m C).map .int)->Q (.ref q) g):wF P (n+13) "all_rows" [ZN bs ts,.int most,.ref p,.int m,.bl f] h Q X:=by rw[show n+13=(n+4 - m)+9+m by lia];exact Il no ep (by lia) hr k
end
abbrev due(C:Yc)(rs:List<|List Dd):List Int:=(rs.map λr=>Wc<|nOp<|aft C r).foldl Zw []
def Ce(w:Nat):(Wc w).length=w+1:=by unfold Wc;rw[Å,á,Ă]
def Fo(l:List Dd):(l.map Dd.v).all (flat 11)=fe:=all_map λd _=>by cases d<;>rfl
section
variable {Y:Yd}{N:Nat}{C:Yc}
def law_ok(h63:ns.length<=63)(k:∀g,Q (.bl fe) g):wF P (n+14) "law" [.scr ns] h Q X:=by
 refine Re ?_;refine' CH h63 λw g1 hw x1 w1=>?_;refine' FU w1 λbs ts most f pa la C mst bnd g2 no _ ea hr ll m4 b160=>?_;have gC:C.gd la.length:=by have:=(Jm (X7 no) hr).1;rwa [Ų]at this
 refine' E0 no ea ll hr m4 b160 λm p g3 hm hp x3 rws=>?_;let⟨l,el,em,al⟩:=rws;have ea:=x3.get ea;refine' Zb λpd g4 hpd x4 ed=>?_;have hR:∀r∈l.map (·.2),r∈rows f m C:=λr h=>em▸h;refine' Zg (λi en g=>Sm3 λv11 v12 pd=>Cj4 (en=[fb<|.scr ns,fb<|.ref w,fb<|ZN bs ts,fb<|.int most,fb<|.bl f,fb<|.ref pa,fb<|.int (mst:Nat),fb<|.int (bnd:Nat),fb<|.int (m:Nat),fb<|.ref p,fb<|.ref pd,v11,v12,fc,fc]) (Ext g3 g) (g pd=fb (.lst ((due C ((l.take i).map (·.2))).map .int))) ((due C ((l.take i).map (·.2))).length<=17)) ⟨_,_,pd,rfl,x4,ed,by simp[due]⟩ (λ_ _ _ _ ⟨_,_,_,_,x,_,_⟩=>lsE<|x.get el) ?_ ?_
 .rintro i v en g hv ⟨v11,v12,pd,rfl,x,ed,dl⟩ K hK;let⟨q,hq,rfl⟩:=ZO hv;have hqm:=ë hq;let⟨r1,r2,r3⟩:=Jx gC<|hR q.2<|ö hqm;have o16:=Os r2;rw[show due C ((l.take<|i+1).map (·.2))=Zw (due C ((l.take i).map (·.2))) (Wc<|nOp<|aft C q.2) by unfold due;rw[Zl hq,Ì,Ì,Θ];rfl]at hK;generalize due C ((l.take i).map (·.2))=D at ed dl hK;refine' ZE (x.get ea) (x.get<|al q hqm) (by rw[Å,À,À,lim];lia) (Zb λp2 g5 bq x5 e2=>?_);rw[<-Ì]at e2;refine' M5 (l:=la++q.2) no e2 (by rw[Å];lia) (by rw[Wf,hr];exact r1) λY g6 y6 ec x6=>?_;refine' U1 y6 (by rw[ec];exact r2) λp3 g7 hp3 x7 e3=>?_;have eo:(Xo Y.cc Y.ts.length).length=nOp (aft C q.2):=by unfold nOp;rw[<-ec];rfl
  have x57:=(x5.trans x6).trans x7;fail;rw[À,À,eo];generalize nOp (aft C q.2)=o at *;let⟨y,h1,h2⟩:=WH o D;have kn:((o:Int)+1 - (D.length:Nat)).toNat=o+1 - D.length:=by lia
  unfold fP;rw[kn];refine⟨⟨by lia,by lia,by lia,by lia⟩,Ë (by rw[À,ą];lia:_<=17) (by decide),WK (l:=List.range<|o+1 - D.length) (λ_=>.int 0) trivial (λj hj K k1=>?_)<|Zb λp4 g8 cR x8 e4=>?_⟩
  .walk_at "p";exact k1
  rw[show(List.range<|o+1 - D.length).map (λ_=>Val.int 0)=(Í (o+1 - D.length) (0:Int)).map Val.int by rw[dY,List.map_const',ą]]at e4;have ed:=(x57.trans x8).get ed;refine ZE ed e4 (by rw[Å,À,À,á,lim];lia)<|Zb λp5 g9 hp5 x9 e5=>?_;rw[<-Ì]at e5;have ll:(D++Í (o+1 - D.length) 0).length=max D.length (o+1):=by rw[Å,á];lia
  generalize D++Í (o+1 - D.length) 0=E at *;refine' ZA e5 (XO (x:=.int y) (by lia)<|by rw[ß,é,h1];rfl) ?_;refine' Ud (n:=o) e5 (by unfold ixN;rw[gF (by lia),gF (by rw[À];lia),é]) ?_;refine' hK _ _ ⟨_,_,p5,rfl,Ye (x.trans<|(x57.trans x8).trans x9)<|Zf (x.trans<|x57.trans x8) hp5,?_,?_⟩
  .rw[<-h2];refine fh.trans ?_;rw[List.map_set]
  .rw[Wg,Ce];lia
 .rintro en g ⟨v11,v12,pd,rfl,x,ed,dl⟩;have ec:due C ((l.take (l.map λq=>Val.ref q.1).length).map (·.2))=cnt f m C:=by rw[À,ñ,em,N0];rfl
  rw[ec]at ed dl;have ea:=x.get ea;refine' Zb λp13 g5 hp13 x5 e13=>?_;have ed:=x5.get ed;have ea:=x5.get ea;refine' Am no e13 ll hm hr λp14 g6 hp14 x6 e14=>?_;have nd:pd≠p14:=Za ed hp14;have n13:p13≠p14:=Za e13 hp14;have ed:=x6.get ed;have ea:=x6.get ea;have e13:=x6.get e13;refine' NS e14 ed (by lia) ?_;walk_at "p";refine Cs (PM e13 ea<|Fo _) ?_;walk_at "p";refine Zv e14 (Ë (by rw[À];exact dl)<|by decide) ?_;refine' Am no ((fg n13).trans e13) ll hm hr λp15 g7 hp15 x7 e15=>?_;refine' NS e15 (x7.get<|(fg nd).trans ed) (by lia) ?_;exact k _
end
end O
set_option maxRecDepth 1000000
set_option maxHeartbeats 0
namespace My
open PySem L2 Snd PySem.W
abbrev top(i:Nat):Stmt:=PySem.Challenge.pw_shutways_k63_rows_counted.main.body.getD i<|.Pass ⟨0,0,0,0⟩
abbrev inC:Stmt->Nat->Stmt
 |.ClassDef _ _ _ b _ _ _ _ _ _ _,j=>b.getD j<|.Pass ⟨0,0,0,0⟩
 |s,_=>s
abbrev x0:Ds:=⟨top 5,["thing"],["thing"],O.To⟩
abbrev x1:Ds:=⟨top 7,["net","bridge","found","place","tie"],["net","bridge"],O.Tr⟩
abbrev x2:Ds:=⟨top 8,["tie","bridge"],["tie","bridge"],O.Tn⟩
abbrev x3:Ds:=⟨top 10,["yard","ways","place","tie","ends"],["yard"],O.T0⟩
abbrev x4:Ds:=⟨top 19,["one","other"],["one","other"],O.Tv⟩
abbrev x5:Ds:=⟨top 21,["bridge","offers","better"],["bridge","offers"],O.Tw⟩
abbrev x6:Ds:=⟨top 27,["net","greatest","deeds","yard","some"],["net","greatest","deeds"],O.T4⟩
abbrev x7:Ds:=⟨top 28,["yard","deed","twin"],["yard","deed"],O.T3⟩
abbrev x8:Ds:=⟨top 29,["some","words"],["some"],O.T1⟩
abbrev x9:Ds:=⟨top 31,["net","greatest","ahead","many","falls"],["net","greatest","ahead","many","falls"],O.Tx⟩
abbrev x10:Ds:=⟨top 32,["yard","many","falls","counts","deed"],["yard","many","falls"],O.Tj⟩
abbrev x11:Ds:=⟨top 33,["one","other","longer","shorter","sums"],["one","other"],O.Tz⟩
abbrev x12:Ds:=⟨top 34,["yard","falls","deeds","word"],["yard","falls"],O.Tk⟩
abbrev x13:Ds:=⟨top 35,["yard","net","bridges","ties","falls","backs"],["yard"],O.Tm⟩
abbrev x14:Ds:=⟨top 37,["cell","k","number"],["cell","k"],O.Te⟩
abbrev x15:Ds:=⟨top 38,["script","at","step","many","cells","rests","purse","k","place"],["script","at","step","many"],O.Ti⟩
abbrev x16:Ds:=⟨top 39,["purse"],["purse"],O.Tg⟩
abbrev x17:Ds:=⟨top 40,["purse","most","bridges","k","number","ties","told","one","other"],["purse","most"],O.Tf⟩
abbrev x18:Ds:=⟨top 41,["yard","falls","bridges","cut","found","word","places"],["yard","falls"],O.Th⟩
abbrev x19:Ds:=⟨top 42,["net","greatest","deeds","yard","deed"],["net","greatest","deeds"],O.Tq⟩
abbrev x20:Ds:=⟨top 43,["net","greatest","purse","yard","deeds","k","ticks","deed","comes","some"],["net","greatest","purse"],O.Ta⟩
abbrev x21:Ds:=⟨top 44,["purse","low","high"],["purse"],O.Tp⟩
abbrev x22:Ds:=⟨top 45,["purse","way","net","quiet","greatest","one","older","falls"],["purse"],O.Td⟩
abbrev x23:Ds:=⟨top 46,["net","greatest","ahead","falls","most","bound","rows","k","more","row","some"],["net","greatest","ahead","falls","most","bound"],O.Tl⟩
abbrev x24:Ds:=⟨top 47,["found","due","k"],["found","due"],O.Tc⟩
abbrev x25:Ds:=⟨top 48,["script","purse","net","greatest","falls","ahead","most","bound","many","rows","due","row","ways","handed","found"],["script"],O.Tu⟩
abbrev z0:Ds:=⟨inC (top 23) 0,["self","number","life","ties","greatest","place","neighbour","cost"],["self","number","life","ties","greatest"],O.SU⟩
abbrev z1:Ds:=⟨inC (top 23) 1,["self","other"],["self"],O.S4⟩
abbrev z2:Ds:=⟨inC (top 23) 2,["self"],["self"],O.SS⟩
abbrev z3:Ds:=⟨inC (top 23) 3,["self"],["self"],O.S1⟩
abbrev z4:Ds:=⟨inC (top 23) 4,["self","place"],["self","place"],O.SW⟩
abbrev z5:Ds:=⟨inC (top 23) 5,["self","place","neighbour","cost"],["self","place","neighbour","cost"],O.S5⟩
abbrev z6:Ds:=⟨inC (top 23) 6,["self","place"],["self","place"],O.SZ⟩
abbrev z7:Ds:=⟨inC (top 23) 7,["self","place","letter","held"],["self","place","letter"],O.SX⟩
abbrev z8:Ds:=⟨inC (top 23) 8,["self","letters"],["self"],O.S3⟩
abbrev z9:Ds:=⟨inC (top 23) 9,["self","older","place","held"],["self"],O.ST⟩
abbrev z10:Ds:=⟨inC (top 23) 10,["self","offers","place","held","neighbour","cost","best","root"],["self"],O.S0⟩
abbrev z11:Ds:=⟨inC (top 23) 11,["self","label"],["self","label"],O.S2⟩
abbrev z12:Ds:=⟨inC (top 23) 12,["self","place","root","cost","over","rests","age","ahead"],["self","place"],O.SV⟩
abbrev z13:Ds:=⟨inC (top 23) 13,["self","place","held"],["self","place"],O.SR⟩
abbrev z14:Ds:=⟨inC (top 23) 14,["self","place","held"],["self","place"],O.SQ⟩
abbrev z15:Ds:=⟨inC (top 23) 15,["self","place"],["self","place"],O.SY⟩
abbrev z16:Ds:=⟨inC (top 26) 0,["self","net","greatest","number"],["self","net","greatest"],O.TB⟩
abbrev z17:Ds:=⟨inC (top 26) 1,["self","other","number","bridge"],["self"],O.TV⟩
abbrev z18:Ds:=⟨inC (top 26) 2,["self"],["self"],O.TD⟩
abbrev z19:Ds:=⟨inC (top 26) 3,["self"],["self"],O.TN⟩
abbrev z20:Ds:=⟨inC (top 26) 4,["self"],["self"],O.TF⟩
abbrev z21:Ds:=⟨inC (top 26) 5,["self","fallen"],["self"],O.TY⟩
abbrev z22:Ds:=⟨inC (top 26) 6,["self"],["self"],O.TC⟩
abbrev z23:Ds:=⟨inC (top 26) 8,["self","number"],["self","number"],O.S8⟩
abbrev z24:Ds:=⟨inC (top 26) 9,["self","place","one","other","cost"],["self","place"],O.TW⟩
abbrev z25:Ds:=⟨inC (top 26) 10,["self","number","place"],["self","number","place"],O.TX⟩
abbrev z26:Ds:=⟨inC (top 26) 11,["self","place"],["self","place"],O.TU⟩
abbrev z27:Ds:=⟨inC (top 26) 12,["self","some","words","number"],["self","some"],O.TZ⟩
abbrev z28:Ds:=⟨inC (top 26) 13,["self","number","place","letter","goal"],["self","number"],O.TR⟩
abbrev z29:Ds:=⟨inC (top 26) 14,["self","place","start","goal","tie","letter"],["self","place"],O.S9⟩
abbrev z30:Ds:=⟨inC (top 26) 15,["self","place"],["self","place"],O.TQ⟩
abbrev z31:Ds:=⟨inC (top 26) 16,["self","number"],["self","number"],O.TK⟩
abbrev z32:Ds:=⟨inC (top 26) 17,["self","place"],["self","place"],O.TM⟩
abbrev z33:Ds:=⟨inC (top 26) 18,["self","number"],["self","number"],O.S6⟩
abbrev z34:Ds:=⟨inC (top 26) 19,["self","place"],["self","place"],O.S7⟩
abbrev z35:Ds:=⟨inC (top 26) 20,["self","number","place","neighbour","cost"],["self","number"],O.TL⟩
abbrev z36:Ds:=⟨inC (top 26) 21,["self","place","one","other","cost","stands","near","far"],["self","place"],O.TH⟩
abbrev tb:Tb where
 fs:=[("is_whole",x0),("neighbours",x1),("far_end",x2),("open_ways",x3),("newer",x4),("best_offer",x5),("yard_behind",x6),("twin_behind",x7),("read_deed",x8),("all_rows",x9),("counts_behind",x10),("added",x11),("deeds_of_now",x12),("falls_and_backs",x13),("_law_mixed",x14),("_law_purse",x15),("_law_next",x16),("_law_net",x17),("_law_options",x18),("_law_yard",x19),("_law_ahead",x20),("_law_two",x21),("_law_case",x22),("_law_rows",x23),("_law_alike",x24),("law",x25)]
 ms:=[⟨"Bridge","__init__","Bridge.__init__",z0⟩,⟨"Bridge","twin","Bridge.twin",z1⟩,⟨"Bridge","label","Bridge.label",z2⟩,⟨"Bridge","stamp","Bridge.stamp",z3⟩,⟨"Bridge","held","Bridge.held",z4⟩,⟨"Bridge","up","Bridge.up",z5⟩,⟨"Bridge","down","Bridge.down",z6⟩,⟨"Bridge","hear","Bridge.hear",z7⟩,⟨"Bridge","tick","Bridge.tick",z8⟩,⟨"Bridge","let_grow_older","Bridge.let_grow_older",z9⟩,⟨"Bridge","reckon_label","Bridge.reckon_label",z10⟩,⟨"Bridge","take_label","Bridge.take_label",z11⟩,⟨"Bridge","letter_over","Bridge.letter_over",z12⟩,⟨"Bridge","is_rested_on","Bridge.is_rested_on",z13⟩,⟨"Bridge","is_agreed_to","Bridge.is_agreed_to",z14⟩,⟨"Bridge","end","Bridge.end",z15⟩,⟨"Yard","__init__","Yard.__init__",z16⟩,⟨"Yard","twin","Yard.twin",z17⟩,⟨"Yard","net","Yard.net",z18⟩,⟨"Yard","greatest","Yard.greatest",z19⟩,⟨"Yard","road","Yard.road",z20⟩,⟨"Yard","down","Yard.down",z21⟩,⟨"Yard","labels","Yard.labels",z22⟩,⟨"Yard","bridge","Yard.bridge",z23⟩,⟨"Yard","ends","Yard.ends",z24⟩,⟨"Yard","end_at","Yard.end_at",z25⟩,⟨"Yard","has_tie","Yard.has_tie",z26⟩,⟨"Yard","deed","Yard.deed",z27⟩,⟨"Yard","tick_of","Yard.tick_of",z28⟩,⟨"Yard","come","Yard.come",z29⟩,⟨"Yard","take_off","Yard.take_off",z30⟩,⟨"Yard","fall_of_bridge","Yard.fall_of_bridge",z31⟩,⟨"Yard","fall_of_tie","Yard.fall_of_tie",z32⟩,⟨"Yard","back_of_bridge","Yard.back_of_bridge",z33⟩,⟨"Yard","back_of_tie","Yard.back_of_tie",z34⟩,⟨"Yard","set_ties_of","Yard.set_ties_of",z35⟩,⟨"Yard","set_tie","Yard.set_tie",z36⟩]
 cs:=[("NUMBER",(.int 0)),("STAMP",(.int 1)),("ROOT",(.int 2)),("COST",(.int 3)),("AGE",(.int 4)),("RESTS",(.int 5)),("AGREES",(.int 6)),("DEEDS",(.tup [(.tup [(.str "tick")]),(.tup [(.str "come")]),(.tup [(.str "lost")]),(.tup [(.str "fall"),(.str "bridge")]),(.tup [(.str "fall"),(.str "tie")]),(.tup [(.str "back"),(.str "bridge")]),(.tup [(.str "back"),(.str "tie")])]))]
 cl:=["Bridge","Yard"]
 fl:=["age_let_go","greatest_age","held_by_place","label_now","letters_on_road","life","lives","net_made_of","number","standing","ticks_had","ties_by_place","ties_fallen","version"]
 xs:=[]
abbrev pg:O.Pg:=λf=>(([("is_whole",O.To),("neighbours",O.Tr),("far_end",O.Tn),("open_ways",O.T0),("newer",O.Tv),("best_offer",O.Tw),("yard_behind",O.T4),("twin_behind",O.T3),("read_deed",O.T1),("all_rows",O.Tx),("counts_behind",O.Tj),("added",O.Tz),("deeds_of_now",O.Tk),("falls_and_backs",O.Tm),("_law_mixed",O.Te),("_law_purse",O.Ti),("_law_next",O.Tg),("_law_net",O.Tf),("_law_options",O.Th),("_law_yard",O.Tq),("_law_ahead",O.Ta),("_law_two",O.Tp),("_law_case",O.Td),("_law_rows",O.Tl),("_law_alike",O.Tc),("law",O.Tu),("Bridge.__init__",O.SU),("Bridge.twin",O.S4),("Bridge.label",O.SS),("Bridge.stamp",O.S1),("Bridge.held",O.SW),("Bridge.up",O.S5),("Bridge.down",O.SZ),("Bridge.hear",O.SX),("Bridge.tick",O.S3),("Bridge.let_grow_older",O.ST),("Bridge.reckon_label",O.S0),("Bridge.take_label",O.S2),("Bridge.letter_over",O.SV),("Bridge.is_rested_on",O.SR),("Bridge.is_agreed_to",O.SQ),("Bridge.end",O.SY),("Yard.__init__",O.TB),("Yard.twin",O.TV),("Yard.net",O.TD),("Yard.greatest",O.TN),("Yard.road",O.TF),("Yard.down",O.TY),("Yard.labels",O.TC),("Yard.bridge",O.S8),("Yard.ends",O.TW),("Yard.end_at",O.TX),("Yard.has_tie",O.TU),("Yard.deed",O.TZ),("Yard.tick_of",O.TR),("Yard.come",O.S9),("Yard.take_off",O.TQ),("Yard.fall_of_bridge",O.TK),("Yard.fall_of_tie",O.TM),("Yard.back_of_bridge",O.S6),("Yard.back_of_tie",O.S7),("Yard.set_ties_of",O.TL),("Yard.set_tie",O.TH)]:List<|String×O.Fn).lookup f)
instance:O.Al pg:=by constructor<;>rfl
variable {α:Type} {p:List α->Prop}
def ar1(h:∀a0,p [a0])(us:List α)(e:us.length=1):p us:=match us,e with|[a0],_=>h a0
def ar2(h:∀a0 a1,p [a0,a1])(us:List α)(e:us.length=2):p us:=match us,e with|[a0,a1],_=>h a0 a1
def ar3(h:∀a0 a1 a2,p [a0,a1,a2])(us:List α)(e:us.length=3):p us:=match us,e with|[a0,a1,a2],_=>h a0 a1 a2
def ar4(h:∀a0 a1 a2 a3,p [a0,a1,a2,a3])(us:List α)(e:us.length=4):p us:=match us,e with|[a0,a1,a2,a3],_=>h a0 a1 a2 a3
def ar5(h:∀a0 a1 a2 a3 a4,p [a0,a1,a2,a3,a4])(us:List α)(e:us.length=5):p us:=match us,e with|[a0,a1,a2,a3,a4],_=>h a0 a1 a2 a3 a4
def ar6(h:∀a0 a1 a2 a3 a4 a5,p [a0,a1,a2,a3,a4,a5])(us:List α)(e:us.length=6):p us:=match us,e with|[a0,a1,a2,a3,a4,a5],_=>h a0 a1 a2 a3 a4 a5
variable {P:String->Ds->Prop}
def mc{f:String}{x:Ds}{l:List (String×Ds)}(h:P f x)(k:∀g y,(g,y)∈l->P g y):∀g y,(g,y)∈(f,x)::l->P g y:=λg y m=>by
 rcases Ç.mp m with e|m
 .cases e;exact h
 .exact k g y m
def mn:∀g y,(g,y)∈([]:List<|String×Ds)->P g y:=λ_ _ m=>nomatch m
def Gp:∀f x,(f,x)∈tb.fs.drop 24->x.Ok tb:=by
 iterate 2 refine mc ⟨by kernel_rfl,by kernel_rfl⟩ ?_
 exact mn
def FB:∀f x,(f,x)∈tb.fs.drop 12->x.Ok tb:=by
 iterate 12 refine mc ⟨by kernel_rfl,by kernel_rfl⟩ ?_
 exact Gp
def tab_ok:∀f x,(f,x)∈tb.fs->x.Ok tb:=by
 iterate 12 refine mc ⟨by kernel_rfl,by kernel_rfl⟩ ?_
 exact FB
def tab_pg:∀f x,(f,x)∈tb.fs->pg f=fb x.d:=by repeat first|exact mn|refine mc rfl ?_
def tab_bd:∀f x,(f,x)∈tb.fs->Hd.Bd (gN f) (gN f) x:=by repeat first|exact mn|refine mc (λ_ _ _ _ _ _=>(by first|exact ar1 λ_=>rfl|exact ar2 λ_ _=>rfl|exact ar3 λ_ _ _=>rfl|exact ar4 λ_ _ _ _=>rfl|exact ar5 λ_ _ _ _ _=>rfl|exact ar6 λ_ _ _ _ _ _=>rfl)) ?_
def md{P:α->Prop}{x:α}{l:List α}(h:P x)(k:∀y,y∈l->P y):∀y,y∈x::l->P y:=λy m=>by
 rcases Ç.mp m with e|m
 .cases e;exact h
 .exact k y m
def me{P:α->Prop}:∀y,y∈([]:List α)->P y:=λ_ m=>nomatch m
def GK:∀y,y∈tb.ms.drop 36->y.x.Ok tb:=by
 iterate 1 refine md ⟨by kernel_rfl,by kernel_rfl⟩ ?_
 exact me
def ER:∀y,y∈tb.ms.drop 24->y.x.Ok tb:=by
 iterate 12 refine md ⟨by kernel_rfl,by kernel_rfl⟩ ?_
 exact GK
def EY:∀y,y∈tb.ms.drop 12->y.x.Ok tb:=by
 iterate 12 refine md ⟨by kernel_rfl,by kernel_rfl⟩ ?_
 exact ER
def tab_om:∀y,y∈tb.ms->y.x.Ok tb:=by
 iterate 12 refine md ⟨by kernel_rfl,by kernel_rfl⟩ ?_
 exact EY
def tab_pm:∀y,y∈tb.ms->pg (y.C ++ "." ++ y.m)=fb y.x.d:=by repeat first|exact me|refine md rfl ?_
def tab_bm:∀y,y∈tb.ms->Hd.Bd (gN y.m) (gN y.qual) y.x:=by repeat first|exact me|refine md (λ_ _ _ _ _ _=>(by first|exact ar1 λ_=>rfl|exact ar2 λ_ _=>rfl|exact ar3 λ_ _ _=>rfl|exact ar4 λ_ _ _ _=>rfl|exact ar5 λ_ _ _ _ _=>rfl|exact ar6 λ_ _ _ _ _ _=>rfl)) ?_
def law_in:("law",x25)∈tb.fs:=ë (i:=25) rfl
noncomputable abbrev pr:Program:=PySem.Challenge.rw_shutways_k63_rows_counted.row.prog
noncomputable abbrev vw:Program:=PySem.W.view pr [0,2,3,5,7,8,10,12,13,14,15,16,17,18,19,21,23,25,26,27,28,29,31,32,33,34,35,37,38,39,40,41,42,43,44,45,46,47,48]
noncomputable abbrev xt(s:Shared):Bool:=xlAt vw [] s&&recOk (RowW.records PySem.Challenge.rw_shutways_k63_rows_counted.row.toRowW) s
def said:PySem.Challenge.rw_shutways_k63_rows_counted.wellSaid=fe:=by rw[Fast.te9446332074065402090];kernel_rfl
def l1:∀w os,(Hd.runY pr 12000 w os).map (Hd.stY pr w)=fb fe:=λw os=>by kernel_rfl
def l2:∀w os,(Hd.runY pr 12000 w os).map (λs=>Hd.seenY vw [] (Hd.modsY pr.main.body) xt fe s.abs)=fb (openGood vw []):=λw os=>by kernel_rfl
def l3:∀w os,(Hd.runY pr 12000 w os).map (λs=>(Hd.hook tb).obs s.abs)=fb ((Hd.hook tb).val w):=λw os=>by kernel_rfl
def left:LeftO pr vw [] xt (Hd.hook tb).obs (Hd.hook tb).val 12000:=Hd.left_of (by kernel_rfl) rfl (λs=>by kernel_rfl) l1 l2 l3
end My
open PySem PySem.W PyProof.Rows
theorem PySem.Challenge.cw_shutways_k63_rows_counted_holds : PySem.Challenge.rw_shutways_k63_rows_counted.Holds := by
 refine holds_law My.said λsaid=>?_;refine holds_open (q:=My.vw) (loose:=[]) (Xt:=My.xt) (XP:=XL My.vw []) (YP:=(Hd.hook My.tb).says) My.left (Hook.of _) (Hook.keeps _) (λs e=>xl_of s (cW.mp e).1) XL.keeps (by rfl) (by rfl) (by rfl) (λs e=>recFacts_of (cW.mp e).2) (by rfl) said (by decide +kernel) ⟨rfl,rfl,rfl,rfl,rfl,by decide +kernel⟩ ?hw ?hc
 case hw=>w_on;w_witness2
 case hc=>exact Hd.law_walk (k:=13) rfl rfl rfl ⟨rfl,by decide,by decide⟩ My.law_in rfl rfl My.tab_pg My.tab_pm My.tab_ok My.tab_om My.tab_bd My.tab_bm λns hl=>O.law_ok (n:=0) hl λ_=>rfl
